import PyProof.Rows.All
import Wide.All
import OpenK.AllK
import Wide.FinOn
import Lean
import PyProof.EqAt
import PyProof.EqKinds
import PyProof.TupleCall
import KE.KSortTup
import KE.KLam
import KE.KNestM
import KE.KDictList
import KE.KRevIter
import PyProof.ExcArgsOwn
import PyProof.NsDelKeeps
import PyProof.WalksEnum
import PyProof.EnumMake
import PySem.Challenge.RW_idealroom_k16_divided_by_one
set_option Elab.async false
set_option linter.all false
set_option maxRecDepth 100000
namespace L2
open PySem PySem.Spec PyProof.Rows
abbrev Key:=Sum Int Str
def keyIs:Key->Value->Bool
 | .inl k,v=>Value.isInt k v
 | .inr x,v=>Value.isStrOf x v
def keyH(w:World):Key->Int
 | .inl k=>hashInt k
 | .inr x=>hashStr w x
theorem zb3:∀{k:Key} {v:Value},keyIs k v=true->(∃i t,k=Sum.inl i/\v=Value.int i t)\/(∃x t,k=Sum.inr x/\v=Value.str x t)
 | .inl i,v,h=>by
  obtain⟨t,e⟩:=Value.isInt_shape (k:=i) (v:=v) h
  exact .inl ⟨i,t,rfl,e⟩
 | .inr x,v,h=>by
  obtain⟨t,e⟩:=Value.isStrOf_shape (x:=x) (v:=v) h
  exact .inr ⟨x,t,rfl,e⟩
theorem zm1(i:Int)(t:Tok):keyIs (.inl i) (.int i t)=true:=by simp[keyIs,Value.isInt]
theorem zns(x:Str)(t:Tok):keyIs (.inr x) (.str x t)=true:=by simp[keyIs,Value.isStrOf]
theorem zvw(a b:Int):decide ((Sum.inl a:Key)=Sum.inl b)=(a == b):=by
 by_cases e:a=b
 ·subst e;simp
 ·have h:¬(Sum.inl a:Key)=Sum.inl b:=λq=>e (Sum.inl.inj q)
  rw[decide_eq_false h]
  exact(beq_eq_false_iff_ne.mpr e).symm
theorem zvn(a b:Str):decide ((Sum.inr a:Key)=Sum.inr b)=decide (a=b):=by
 by_cases e:a=b
 ·subst e;simp
 ·have h:¬(Sum.inr a:Key)=Sum.inr b:=λq=>e (Sum.inr.inj q)
  rw[decide_eq_false h,decide_eq_false e]
theorem zvp(a:Int)(b:Str):decide ((Sum.inl a:Key)=Sum.inr b)=false:=decide_eq_false (λq=>nomatch q)
theorem zva(a:Str)(b:Int):decide ((Sum.inr a:Key)=Sum.inl b)=false:=decide_eq_false (λq=>nomatch q)
def mixKind(prog:Program)(w:World):PySem.KeyKind prog w Key where
 is:=keyIs
 hash:=keyH w
 inj:=λv a b ha hb=>by
  rcases zb3 ha with⟨i,t,rfl,rfl⟩ | ⟨x,t,rfl,rfl⟩
  ·rcases zb3 hb with⟨j,u,rfl,e⟩ | ⟨y,u,rfl,e⟩
   ·injection e with e1 _;rw[e1]
   ·exact nomatch e
  ·rcases zb3 hb with⟨j,u,rfl,e⟩ | ⟨y,u,rfl,e⟩
   ·exact nomatch e
   ·injection e with e1 _;rw[e1]
 byValue:=λk v h=>by
  rcases zb3 h with⟨i,t,rfl,rfl⟩ | ⟨x,t,rfl,rfl⟩ <;> rfl
 pyHash:=λhv h=>by
  rcases zb3 hv with⟨i,t,rfl,rfl⟩ | ⟨x,t,rfl,rfl⟩
  ·exact wpAny_pyHash_int h
  ·exact wpAny_pyHash_str h
 eqBool:=λhu hv h=>by
  rcases zb3 hu with⟨i,t,rfl,rfl⟩ | ⟨x,t,rfl,rfl⟩
  ·rcases zb3 hv with⟨j,u,rfl,rfl⟩ | ⟨y,u,rfl,rfl⟩
   ·rw[zvw]at h;exact wpAny_eqBool_int h
   ·rw[zvp]at h;exact SeqAt.EqAt.int_str i t y u _ _ _ _ h
  ·rcases zb3 hv with⟨j,u,rfl,rfl⟩ | ⟨y,u,rfl,rfl⟩
   ·rw[zva]at h;exact SeqAt.EqAt.str_int x t j u _ _ _ _ h
   ·rw[zvn]at h;exact wpAny_eqBool_str h
 «strs»:=λk x t v h=>by
  rcases zb3 h with⟨i,u,rfl,e⟩ | ⟨y,u,rfl,e⟩
  ·exact nomatch e
  ·injection e with e1 _
   subst e1
   cases v <;> rfl
theorem zj5(prog:Program)(w:World)(i:Int)(t:Tok):(mixKind prog w).is (.inl i) (.int i t)=true:=zm1 i t
theorem zjs(prog:Program)(w:World)(x:Str)(t:Tok):(mixKind prog w).is (.inr x) (.str x t)=true:=zns x t
end L2
namespace L2
open PySem PySem.Spec PyProof.Rows
inductive V where
 | non | bl (b:Bool) | int (i:Int) | str (x:Str) | byt (b:Array UInt8) | flt (b:UInt64) | ref (a:Addr) | ty (n:String)
 deriving DecidableEq
def RelV:V->Value->Prop
 | .non,u=>u=Value.none
 | .bl b,u=>u=Value.bool b
 | .int i,u=>∃t,u=Value.int i t
 | .str x,u=>∃t,u=Value.str x t
 | .byt b,u=>∃t,u=Value.bytes b t
 | .flt b,u=>∃t,u=Value.float b t
 | .ref a,u=>u=Value.ref a
 | .ty n,u=>u=Value.type n
abbrev Vals:List V->List Value->Prop:=Paired RelV
theorem Vals.length{xs:List V}{us:List Value}(r:Vals xs us):xs.length=us.length:=Paired.length r
theorem Vals.get:∀{xs:List V} {us:List Value} {i:Nat} {x:V},Vals xs us->xs[i]? = some x->∃u,us[i]? = some u/\RelV x u
 | _,_,_,_,.nil,e=>by simp at e
 | _,_,0,_,.cons r _,e=>by simp at e;subst e;exact⟨_,rfl,r⟩
 | _,_,i + 1,x,.cons _ t,e=>by
  obtain⟨u,h1,h2⟩:=Vals.get (i:=i) (x:=x) t (by simpa using e)
  exact⟨u,by simpa using h1,h2⟩
theorem Vals.append:∀{xs ys:List V} {us ws:List Value},Vals xs us->Vals ys ws->Vals (xs ++ ys) (us ++ ws)
 | _,_,_,_,.nil,s=>s
 | _,_,_,_,.cons r t,s => .cons r (Vals.append t s)
theorem Vals.take:∀{xs:List V} {us:List Value} (n:Nat),Vals xs us->Vals (xs.take n) (us.take n)
 | _,_,0,_ => .nil
 | _,_,_ + 1,.nil => .nil
 | _,_,n + 1,.cons r t => .cons r (Vals.take n t)
theorem Vals.drop:∀{xs:List V} {us:List Value} (n:Nat),Vals xs us->Vals (xs.drop n) (us.drop n)
 | _,_,0,r=>r
 | _,_,_ + 1,.nil => .nil
 | _,_,n + 1,.cons _ t=>Vals.drop n t
def RelO:Option V->Option Value->Prop
 | some v,some u=>RelV v u
 | none,none=>True
 | _,_=>False
def KV{κ : Type}:List (κ×V)->List (κ×Value)->Prop:=Paired fun(p : κ×V) (q : κ×Value)=>p.1=q.1/\RelV p.2 q.2
def kV:Key->V
 | .inl i => .int i
 | .inr x => .str x
inductive HO where
  | lst (xs:List V)
  | tup (xs:List V)
  | dK (kvs:List (Key×V)) | dT (kvs:List (List Key×V))
  | set (S:Int->Bool) (n:Nat)
  | ins (C dx:Addr) (fs:List (Str×V))
  | own (x:Addr)
  | xd (fs:List (Str×V))
  | met (f x:Addr)
  | rng (lo hi:Int)
  | frz (o:Obj) (u:HO)
  | tbl (ps:Array Value)
  | ext (φ : Heap->Prop)
abbrev Hp:=Addr->Option HO
def upd(H:Hp)(a:Addr)(o:HO):Hp:=λb=>if b=a then some o else H b
theorem zaf{H:Hp}{a:Addr}{o:HO}:upd H a o a=some o:=by unfold upd;rw[if_pos rfl]
theorem zao{H:Hp}{a b:Addr}{o:HO}(h:b≠a):upd H a o b=H b:=by unfold upd;rw[if_neg h]
theorem zdk{H:Hp}{a b:Addr}{o u:HO}(h:H a=some o)(h':H b=some u)(d:o≠u):a≠b:=by
 intro e;subst e;rw[h]at h';exact d (Option.some.inj h')
theorem zaq{H:Hp}{a b:Addr}{o:HO}(h:H a=some o)(h':H b=none):a≠b:=by
 intro e;subst e;rw[h]at h';cases h'
section
variable(P:Program)(w:World)
def ObjOk(H:Hp)(h:Heap)(a:Addr):HO->Prop
 | .lst xs=>xs.length<=sizeLine/\∃(its:List Value) (n:Nat),Vals xs its/\h.get? a=some { cls := .type "list",data := .seq its.toArray n }
 | .tup xs=>xs.length<=sizeLine/\∃its:List Value,Vals xs its/\IsTup h a its.toArray
 | .dK kvs=>kvs.length<=sizeLine/\(a == sysModules)=false/\∃vs,KV kvs vs/\h.DictOf (mixKind P w) a vs
 | .dT kvs=>kvs.length<=sizeLine/\(a == sysModules)=false/\∃xs:List (List Key×Addr×Value),
   Paired (fun(p:List Key×V) (q:List Key×Addr×Value)=>p.1=q.1/\H q.2.1=some (.tup (p.1.map kV))/\RelV p.2 q.2.2) kvs xs /\
   ∃o es ep,h.get? a=some o/\o.ExactDict/\o.data = .dict es ep/\es.toList=xs.map (entryOfKey (tupleKind (mixKind P w)))/\(xs.map (·.1)).Nodup
 | .set S n=>h.SetOf (intKind P w) a S n
 | .ins C dx fs=>H dx=some (.own a)/\fs.length<=1000/\dx≠a/\h.get? a=some (W.instObj C dx) /\
   ∃mA,h.Ns1 dx mA/\(∀f,RelO (fs.lookup f) (mA f))/\PySem.Within mA (fs.map (·.1))
 | .own _=>∃o,h.get? a=some o
 | .xd fs=>∃mA,h.Ns1 a mA/\∀f,RelO (fs.lookup f) (mA f)
 | .rng lo hi=>∃t u v,h.get? a=some { cls := .type "range",data := .fields #[.int lo t,.int hi u,.int 1 v] }
 | .frz o u=>h.get? a=some o/\ObjOk H h a u
 | .tbl ps=>h.get? a=some { cls := .none,data := .fields ps }
 | .met f x=>h.get? a=some (W.methodObj (.ref f) (.ref x))
 | .ext φ=>φ h/\(∃o,h.get? a=some o)/\∀h1 h2:Heap,φ h1->(∀o,h1.get? a=some o->h2.get? a=some o)->φ h2
def HOk(H:Hp)(h:Heap):Prop:=∀a o,H a=some o->ObjOk P w H h a o
end
section
variable{P:Program}{w:World}{H H':Hp}{h h':Heap}{a:Addr}{o:HO}
theorem ObjOk.lt(x:ObjOk P w H h a o):a < h.objs.size:=by
 cases o with
 | lst xs=>obtain⟨_,_,_,_,e⟩:=x;exact Heap.lt_size e
 | tup xs=>obtain⟨_,_,_,p⟩:=x;exact p.lt
 | dK kvs=>obtain⟨_,_,_,_,o,_,_,e,_⟩:=x;exact Heap.lt_size e
 | dT kvs=>obtain⟨_,_,_,_,o,_,_,e,_⟩:=x;exact Heap.lt_size e
 | set S n=>obtain⟨o,_,_,_,e,_⟩:=x;exact Heap.lt_size e
 | ins C dx fs=>obtain⟨_,_,_,e,_⟩:=x;exact Heap.lt_size e
 | own y=>obtain⟨_,e⟩:=x;exact Heap.lt_size e
 | xd fs=>obtain⟨_,⟨_,_,_,e,_⟩,_⟩:=x;exact Heap.lt_size e
 | rng lo hi=>obtain⟨_,_,_,e⟩:=x;exact Heap.lt_size e
 | frz ob u=>obtain⟨e,_⟩:=x;exact Heap.lt_size e
 | tbl ps=>exact Heap.lt_size (show h.get? a=some _ from x)
 | met f y=>exact Heap.lt_size (show h.get? a=some _ from x)
 | ext φ=>obtain⟨_,⟨_,e⟩,_⟩:=x;exact Heap.lt_size e
theorem Paired.mapP{α β : Type}{F G : α->β->Prop}:∀{l₁:List α} {l₂:List β},Paired F l₁ l₂->(∀a b,F a b->G a b)->Paired G l₁ l₂
 | _,_,.nil,_ => .nil
 | _,_,.cons r t,f => .cons (f _ _ r) (Paired.mapP t f)
theorem Paired.imp'{α β : Type}{F G : α->β->Prop}(f:∀a b,F a b->G a b){l₁:List α}{l₂:List β}(r:Paired F l₁ l₂):Paired G l₁ l₂:=Paired.mapP r f
theorem ObjOk.stay(x:ObjOk P w H h a o)(k:∀b u,(b=a\/H b=some (.own a))->h.get? b=some u->h'.get? b=some u)
  (ho:∀b,H b=some (.own a)->H' b=some (.own a)) (ht:∀b xs,H b=some (.tup xs)->H' b=some (.tup xs)):ObjOk P w H' h' a o:=by
 induction o with
 | lst xs=>obtain⟨z,its,n,r,e⟩:=x;exact⟨z,its,n,r,k _ _ (.inl rfl) e⟩
 | tup xs=>obtain⟨z,its,r,ob,e,c⟩:=x;exact⟨z,its,r,ob,k _ _ (.inl rfl) e,c⟩
 | dK kvs=>obtain⟨z,y,vs,r,ob,es,ep,e,c⟩:=x;exact⟨z,y,vs,r,ob,es,ep,k _ _ (.inl rfl) e,c⟩
 | dT kvs=>
  obtain⟨z,y,xs,r,ob,es,ep,e,c⟩:=x
  exact⟨z,y,xs,Paired.mapP r λp q z=>⟨z.1,ht _ _ z.2.1,z.2.2⟩,ob,es,ep,k _ _ (.inl rfl) e,c⟩
 | set S n=>obtain⟨ob,es,ep,t,e,c⟩:=x;exact⟨ob,es,ep,t,k _ _ (.inl rfl) e,c⟩
 | ins C dx fs=>
  obtain⟨d,z,ne,e,mA,⟨od,es,ep,e2,c⟩,r⟩:=x
  exact⟨ho _ d,z,ne,k _ _ (.inl rfl) e,mA,⟨od,es,ep,k _ _ (.inr d) e2,c⟩,r⟩
 | own y=>obtain⟨ob,e⟩:=x;exact⟨ob,k _ _ (.inl rfl) e⟩
 | xd fs=>obtain⟨mA,⟨od,es,ep,e,c⟩,r⟩:=x;exact⟨mA,⟨od,es,ep,k _ _ (.inl rfl) e,c⟩,r⟩
 | rng lo hi=>obtain⟨t,u,v,e⟩:=x;exact⟨t,u,v,k _ _ (.inl rfl) e⟩
 | frz ob u ih=>obtain⟨e,q⟩:=x;exact⟨k _ _ (.inl rfl) e,ih q⟩
 | tbl ps=>
  have e:h.get? a=some { cls := .none,data := .fields ps }:=x
  show h'.get? a=some { cls := .none,data := .fields ps }
  exact k a _ (.inl rfl) e
 | met f y=>
  have e:h.get? a=some (W.methodObj (.ref f) (.ref y)):=x
  show h'.get? a=some (W.methodObj (.ref f) (.ref y))
  exact k a _ (.inl rfl) e
 | ext φ=>obtain⟨p,⟨o,e⟩,st⟩:=x;exact⟨st _ _ p λo q=>k _ _ (.inl rfl) q,⟨o,k _ _ (.inl rfl) e⟩,st⟩
theorem HOk.lt(x:HOk P w H h)(e:H a=some o):a < h.objs.size:=(x a o e).lt
theorem HOk.fresh(x:HOk P w H h)(e:h.objs.size<=a):H a=none:=by
 cases q:H a with
 | none=>rfl
 | some u=>exact absurd (Nat.lt_of_lt_of_le (x.lt q) e) (Nat.lt_irrefl _)
theorem HOk.kept(x:HOk P w H h)(k:∀b u,h.get? b=some u->h'.get? b=some u):HOk P w H h':=λa o e=>
 (x a o e).stay (λb u _ q=>k b u q) (λ_ q=>q) λ_ _ q=>q
theorem HOk.laid(x:HOk P w H h)(k:∀b u,h.get? b=some u->h'.get? b=some u)(hp:h.objs.size<=a)(new:ObjOk P w (upd H a o) h' a o):HOk P w (upd H a o) h':=λb u e=>by
 have hn:=x.fresh hp
 by_cases hb:b=a
 ·subst hb;rw[zaf]at e;cases e;exact new
 ·rw[zao hb]at e
  exact(x b u e).stay (λc v _ q=>k c v q) (λc q=>by rw[zao (zaq q hn)];exact q) λc xs q=>by rw[zao (zaq q hn)];exact q
end
def Rd(H:Hp)(a:Addr)(u:HO):Prop:=H a=some u\/∃o,H a=some (.frz o u)
theorem Rd.ok{P:Program}{w:World}{H:Hp}{h:Heap}{a:Addr}{u:HO}(r:Rd H a u)(x:HOk P w H h):ObjOk P w H h a u:=by
 rcases r with r | ⟨o,r⟩
 ·exact x a u r
 ·obtain⟨_,q⟩:=x a _ r
  exact q
def Mut:Option HO->Prop
 | some (.lst _)=>True
 | some (.dK _)=>True
 | some (.dT _)=>True
 | some (.set _ _)=>True
 | some (.ins _ _ _)=>True
 | some (.ext _)=>True
 | _=>False
section
variable{P:Program}{w:World}{H:Hp}{h h':Heap}{x e:Addr}{o':HO}
theorem HOk.write(ok:HOk P w H h)(mu:Mut (H x))(he:e=x\/H e=some (.own x))(k:∀b u,b≠e->h.get? b=some u->h'.get? b=some u)(heo:∃u,h'.get? e=some u)
  (new:ObjOk P w (upd H x o') h' x o'):HOk P w (upd H x o') h':=λb u q=>by
 have nown:∀c y,H c=some (.own y)->c≠x:=λc y r z=>by subst z;rw[r]at mu;exact mu
 have ntup:∀c xs,H c=some (.tup xs)->c≠x:=λc xs r z=>by subst z;rw[r]at mu;exact mu
 by_cases hb:b=x
 ·subst hb;rw[zaf]at q;cases q;exact new
 ·rw[zao hb]at q
  by_cases hbe:b=e
  ·have q':H b=some (.own x):=by
    rcases he with z | z
    ·exact absurd (hbe.trans z) hb
    ·rw[hbe];exact z
   rw[q]at q';cases q'
   obtain⟨v,hv⟩:=heo
   exact⟨v,by rw[hbe];exact hv⟩
  ·refine(ok b u q).stay (λc v hc r=>k c v ?_ r) (λc r=>by rw[zao (nown c b r)];exact r) λc xs r=>by rw[zao (ntup c xs r)];exact r
   rcases hc with rfl | hc
   ·exact hbe
   ·rintro rfl
    rcases he with z | z
    ·exact nown c b hc z
    ·rw[hc]at z;cases z;exact hb rfl
end
structure Un(fs ex:List Addr)(H H':Hp)(h h':Heap):Prop where
 keep:∀b o,h.get? b=some o->H b=none->b ∉ fs->b ∉ ex->h'.get? b=some o
 slot:∀b o,h.get? b=some o->H b=none->b∈fs->b ∉ ex->∃sl,h'.get? b=some { o with slots:=sl }
 free:∀b o,h.get? b=some o->H b=none->b ∉ ex->H' b=none
 there:∀b o,h.get? b=some o->b ∉ ex->∃o',h'.get? b=some o'
 tups:∀b xs,H b=some (.tup xs)->H' b=some (.tup xs)
 frzs:∀b o u,H b=some (.frz o u)->H' b=some (.frz o u)
 tbls:∀b ps,H b=some (.tbl ps)->∃more,H' b=some (.tbl (ps ++ more))
section
variable{fs fs' ex ex':List Addr}{H H1 H2:Hp}{h h1 h2 h':Heap}{a x e:Addr}{o:HO}
theorem Un.any(u:Un fs ex H H1 h h1){b:Addr}{ob:Obj}(q:h.get? b=some ob)(n:H b=none)(hx:b ∉ ex):∃sl,h1.get? b=some { ob with slots:=sl }:=by
 by_cases hb:b∈fs
 ·exact u.slot b ob q n hb hx
 ·exact⟨ob.slots,u.keep b ob q n hb hx⟩
theorem Un.kept(k:∀b u,h.get? b=some u->h'.get? b=some u):Un fs ex H H h h':=
 ⟨λb ob q _ _ _=>k b ob q,λb ob q _ _ _=>⟨ob.slots,k b ob q⟩,λ_ _ _ n _=>n,λb ob q _=>⟨ob,k b ob q⟩,λ_ _ q=>q,λ_ _ _ q=>q,λ_ ps q=>⟨#[],by rw[q];simp⟩⟩
theorem Un.refl:Un fs ex H H h h:=Un.kept λ_ _ q=>q
theorem Un.laid(k:∀b u,h.get? b=some u->h'.get? b=some u)(hp:h.objs.size<=a)(hn:H a=none):Un fs ex H (upd H a o) h h' where
 keep:=λb u q _ _ _=>k b u q
 slot:=λb u q _ _ _=>⟨u.slots,k b u q⟩
 free:=λb u q n _=>by rw[zao (Nat.ne_of_lt (Nat.lt_of_lt_of_le (Heap.lt_size q) hp))];exact n
 there:=λb u q _=>⟨u,k b u q⟩
 tups:=λb xs q=>by rw[zao (zaq q hn)];exact q
 frzs:=λb u xs q=>by rw[zao (zaq q hn)];exact q
 tbls:=λb ps q=>⟨#[],by rw[zao (zaq q hn),q];simp⟩
theorem Un.write(mu:Mut (H x))(he:e=x\/H e=some (.own x))(k:∀b u,b≠e->h.get? b=some u->h'.get? b=some u)(heo:∃u,h'.get? e=some u):Un fs ex H (upd H x o) h h':=by
 have hx:∀b,H b=none->b≠x:=λb n z=>by subst z;rw[n]at mu;exact mu
 have hb:∀b,H b=none->b≠e:=λb n z=>by
  subst z
  rcases he with r | r
  ·exact hx b n r
  ·rw[n]at r;cases r
 have hm:∀b u,H b=some u->¬Mut (some u)->b≠x:=λb u q nm z=>by subst z;rw[q]at mu;exact nm mu
 refine⟨λb u q n _ _=>k b u (hb b n) q,λb u q n _ _=>⟨u.slots,k b u (hb b n) q⟩,λb u q n _=>by rw[zao (hx b n)];exact n,λb u q _ => ?_,
  λb xs q=>by rw[zao (hm b _ q λz=>z)];exact q,λb u xs q=>by rw[zao (hm b _ q λz=>z)];exact q,λb ps q=>⟨#[],by rw[zao (hm b _ q λz=>z),q];simp⟩⟩
 by_cases hbe:b=e
 ·subst hbe;exact heo
 ·exact⟨u,k b u hbe q⟩
end
def trk(h:Heap)(H:Hp):List Addr:=(List.range h.objs.size).filter λa=>(H a).isSome
def hidT(h:Heap)(H:Hp):Heap:=W.hideAll h (trk h H)
theorem zmw(h:Heap)(H:Hp):(hidT h H).objs.size=h.objs.size:=W.hideAll_size _ _
theorem zqf{h:Heap}{H:Hp}{b:Addr}{o:Obj}(e:h.get? b=some o)(n:H b=none):(hidT h H).get? b=some o:=
 W.hideAll_get _ e λhm=>by
  have q:(H b).isSome=true:=(List.mem_filter.mp hm).2
  rw[n]at q;simp at q
theorem zrs{h:Heap}{H:Hp}{b:Addr}{o:Obj}(e:(hidT h H).get? b=some o):h.get? b=some o/\H b=none:=by
 have e':h.get? b=some o:=W.of_hideAll (trk h H) e
 refine⟨e',?_⟩
 cases q:H b with
 | none=>rfl
 | some x=>
  have hm:b∈trk h H:=List.mem_filter.mpr ⟨List.mem_range.mpr (Heap.lt_size e'),by simp[q]⟩
  have z:(hidT h H).get? b=none:=W.hideAll_none (trk h H) hm
  rw[z]at e;cases e
end L2
namespace L2
open PySem PySem.Spec PyProof.Rows
structure Mod(K:W.Frag)(mg:Str->Option Value)(base:Heap):Prop where
 kin:K.In base
 glob:base.Ns mainGlobals mg
 blt:∃mb,base.Ns builtinsNs mb/\∀x:Str,x≠"__name__"->mb x=bootBuiltins x
 nolimit:base.NoLimit
structure Cx where
 prog:Program
 w:World
 K:W.Frag
 mg:Str->Option Value
 base:Heap
 A:Around
 N:List Str
 s₀:Shared
 H₀:Hp
 env:Env
 outer:List Env
 stack:List Env
 ex:List Addr
 fn:Str->Bool
 calm:Bool
 pn:List (Addr×Obj)
 xe:Value->Shared->Prop
def frs(l:List Env):List Addr:=l.filterMap (·.frame)
abbrev Cx.fs(X:Cx):List Addr:=frs X.outer
def Vis(sc:Scope)(x:Str):Prop:=sc.names.lookup x=some .local\/sc.names.lookup x=some .cell\/sc.names.lookup x=some .free
def Loc(sc:Scope)(x:Str):Prop:=sc.names.lookup x=some .local\/sc.names.lookup x=some .cell
def Look(env:Env)(h:Heap)(m:Str->Option Value)(x:Str)(u:Value):Prop:=
 (env.kindOf x=some .local/\m x=some u)\/((env.kindOf x=some .cell\/env.kindOf x=some .free)/\∃c,env.cells.lookup x=some c/\h.IsCell c (some u))
structure Cx.Ok(X:Cx):Prop where
 mod:Mod X.K X.mg X.base
 kind:X.env.scope.kind = .function
 glob:X.env.globals=mainGlobals
 blt:X.env.builtins=builtinsNs
 above:X.s₀.heap.objs.size<=X.env.locals
 inj:∀x y c,X.env.cells.lookup x=some c->X.env.cells.lookup y=some c->x=y
 has:∀x,(X.env.kindOf x=some .cell\/X.env.kindOf x=some .free)->∃c,X.env.cells.lookup x=some c
 cab:∀x c,X.fn x=true->X.env.cells.lookup x=some c->X.s₀.heap.objs.size<=c
 hd:X.calm=true->X.A.handled=none
 frames:X.A.frames=some X.stack
 stk:X.stack=X.outer\/(X.stack=X.env :: X.outer/\X.env.frame=some X.env.locals)
 exf:∀b∈X.ex,b≠X.env.locals/\∀x c,X.env.cells.lookup x=some c->c≠b
 bs:∀b o,X.base.get? b=some o->X.s₀.heap.get? b=some o/\X.H₀ b=none
 bsz:X.base.objs.size<=X.s₀.heap.objs.size
 noex:∀b o,X.base.get? b=some o->b ∉ X.ex
 exfs:∀b∈X.ex,b ∉ X.fs
 funs:X.s₀.heap.FunFrames X.base X.outer
 frf:∀b∈X.fs,X.H₀ b=none
structure Inv(X:Cx)(pins:List (Addr×Obj))(σ : List (Option V))(H:Hp)(s:Shared):Prop where
 ok:X.Ok
 os:s.os=X.s₀.os
 bare:AllBare s.gens
 base:Un X.fs X.ex X.H₀ H X.s₀.heap s.heap
 loc:∃m,s.heap.Ns X.env.locals m/\∀(i:Nat) (x:Str) (v:V),X.N[i]? = some x->σ[i]? = some (some v)->Vis X.env.scope x->∃u,RelV v u/\Look X.env s.heap m x u
 cell:∀x c,X.env.cells.lookup x=some c->∃v,s.heap.IsCell c v
 free:H X.env.locals=none
 freeC:∀x c,X.env.cells.lookup x=some c->H c=none
 pin:∀p∈X.pn ++ pins,s.heap.get? p.1=some p.2/\H p.1=none/\p.1≠X.env.locals/\p.1 ∉ X.fs/\∀v,p.2.data≠.cell v
 hok:HOk X.prog X.w H s.heap
 len : σ.length=X.N.length
section
variable{X:Cx}{pins:List (Addr×Obj)}{σ : List (Option V)}{H H':Hp}{s:Shared}{h':Heap}
theorem Cx.Ok.nofr(ok:X.Ok){b:Addr}{o:Obj}(e:X.base.get? b=some o):b ∉ X.fs:=λhb=>by
 have:=(ok.funs.mem hb).1
 rw[e]at this;cases this
theorem Inv.bs(I:Inv X pins σ H s):∀b o,X.base.get? b=some o->s.heap.get? b=some o/\H b=none:=λb o e=>
 ⟨I.base.keep b o (I.ok.bs b o e).1 (I.ok.bs b o e).2 (I.ok.nofr e) (I.ok.noex b o e),I.base.free b o (I.ok.bs b o e).1 (I.ok.bs b o e).2 (I.ok.noex b o e)⟩
theorem Inv.bk(I:Inv X pins σ H s):∀b o,X.base.get? b=some o->s.heap.get? b=some o:=λb o e=>(I.bs b o e).1
theorem Inv.mod(I:Inv X pins σ H s):Mod X.K X.mg X.base:=I.ok.mod
theorem Inv.kIn(I:Inv X pins σ H s):X.K.In s.heap:=I.ok.mod.kin.keeps I.bk
theorem Inv.lt(I:Inv X pins σ H s):X.env.locals < s.heap.objs.size:=let ⟨_,hn,_⟩:=I.loc;hn.lt
theorem Inv.sz(I:Inv X pins σ H s):X.s₀.heap.objs.size<=s.heap.objs.size:=Nat.le_trans I.ok.above (Nat.le_of_lt I.lt)
theorem Inv.nofs(I:Inv X pins σ H s){a:Addr}(h:s.heap.objs.size<=a):a ∉ X.fs:=λhb=>by
 obtain⟨_,o,ho,_⟩:=I.ok.funs.mem hb
 exact absurd (Nat.lt_of_lt_of_le (Heap.lt_size ho) (Nat.le_trans I.sz h)) (Nat.lt_irrefl _)
theorem Inv.cne(I:Inv X pins σ H s):∀x c,X.env.cells.lookup x=some c->c≠X.env.locals:=λx c e z=>by
 obtain⟨v,o,ho,hd⟩:=I.cell x c e
 obtain⟨m,⟨o',es,ep,ho',hd',_⟩,_⟩:=I.loc
 rw[z,ho']at ho;cases ho;rw[hd']at hd;cases hd
theorem Inv.funs(I:Inv X pins σ H s):s.heap.FunFrames X.base X.outer:=by
 have all:∀(l:List Env),(∀b∈frs l,b∈X.fs)->X.s₀.heap.FunFrames X.base l->s.heap.FunFrames X.base l:=by
  intro l
  induction l with
  | nil=>intro _ _;trivial
  | cons env r ih=>
   intro hs hl
   obtain⟨hk,⟨L,o,hf,hn,ho,hd⟩,hr⟩:=hl
   have hL:L∈X.fs:=hs L (by unfold frs;rw[List.filterMap_cons,hf];exact List.mem_cons_self)
   obtain⟨sl,e⟩:=I.base.slot L o ho (I.ok.frf L hL) hL λz=>I.ok.exfs L z hL
   exact⟨hk,⟨L,_,hf,hn,e,hd⟩,ih (λb hb=>hs b (by unfold frs;rw[List.filterMap_cons,hf];exact List.mem_cons_of_mem _ hb)) hr⟩
 exact all X.outer (λ_ hb=>hb) I.ok.funs
theorem Inv.stack(I:Inv X pins σ H s):s.heap.FunFrames X.base X.stack:=by
 rcases I.ok.stk with e | ⟨e,hf⟩
 ·rw[e];exact I.funs
 ·rw[e]
  obtain⟨m,hn,_⟩:=I.loc
  refine .cons (by rw[I.ok.kind];decide) hf hn ?_ I.funs
  exact Heap.get?_none_of_le (Nat.le_trans I.ok.bsz I.ok.above)
theorem Inv.stkSub(I:Inv X pins σ H s):∀b∈frs X.stack,b∈X.env.locals :: X.fs:=λb hb=>by
 rcases I.ok.stk with e | ⟨e,hf⟩
 ·rw[e]at hb;exact List.mem_cons_of_mem _ hb
 ·rw[e]at hb
  unfold frs at hb
  rw[List.filterMap_cons,hf]at hb
  exact hb
theorem Inv.stkFree(I:Inv X pins σ H s):∀b∈frs X.stack,H b=none:=λb hb=>by
 rcases List.mem_cons.mp (I.stkSub b hb) with e | hb
 ·rw[e];exact I.free
 ·obtain⟨_,o,ho,_⟩:=I.ok.funs.mem hb
  exact I.base.free b o ho (I.ok.frf b hb) λz=>I.ok.exfs b z hb
theorem Inv.step{g':Array GenState}{t':Nat}{d':Drawn}{ch:List Addr}(I:Inv X pins σ H s)
  (hch:∀b∈ch,(b∈X.ex\/X.s₀.heap.objs.size<=b)/\b≠X.env.locals/\(∀x c,X.env.cells.lookup x=some c->c≠b)/\∀p∈X.pn ++ pins,p.1≠b)
  (keep:∀b o,b≠X.env.locals->b ∉ X.fs->b ∉ ch->s.heap.get? b=some o->H b=none->h'.get? b=some o)
  (slot:∀b o,b≠X.env.locals->b∈X.fs->b ∉ ch->s.heap.get? b=some o->H b=none->∃sl,h'.get? b=some { o with slots:=sl }) (free:∀b o,b ∉ ch->s.heap.get? b=some o->H b=none->H' b=none)
  (there:∀b o,b ∉ ch->s.heap.get? b=some o->∃o',h'.get? b=some o')
  (tups:∀b xs,H b=some (.tup xs)->H' b=some (.tup xs)) (frzs:∀b o u,H b=some (.frz o u)->H' b=some (.frz o u)) (tbls:∀b ps,H b=some (.tbl ps)->∃more,H' b=some (.tbl (ps ++ more)))
  (ns:∀m,s.heap.Ns X.env.locals m->h'.Ns X.env.locals m) (hok:HOk X.prog X.w H' h') (hg:AllBare g') :
  Inv X pins σ H' { s with heap:=h',gens:=g',drawn:=d',toks:=t' }:=by
 have neL:∀b o,X.s₀.heap.get? b=some o->b≠X.env.locals:=λb o e=>Nat.ne_of_lt (Nat.lt_of_lt_of_le (Heap.lt_size e) I.ok.above)
 have neC:∀b o,X.s₀.heap.get? b=some o->b ∉ X.ex->b ∉ ch:=λb o e hx hb=>by
  rcases(hch b hb).1 with z | z
  ·exact hx z
  ·exact absurd (Nat.lt_of_lt_of_le (Heap.lt_size e) z) (Nat.lt_irrefl _)
 have cellK:∀x c,X.env.cells.lookup x=some c->∀v,s.heap.IsCell c v->h'.IsCell c v:=λx c e v ⟨o,ho,hd⟩=>by
  have nch:c ∉ ch:=λz=>(hch c z).2.2.1 x c e rfl
  by_cases hc:c∈X.fs
  ·obtain⟨sl,q⟩:=slot c o (I.cne x c e) hc nch ho (I.freeC x c e)
   exact⟨_,q,hd⟩
  ·exact⟨o,keep c o (I.cne x c e) hc nch ho (I.freeC x c e),hd⟩
 refine⟨I.ok,I.os,hg,⟨λb o e n hb hx => ?_,λb o e n hb hx => ?_,λb o e n hx => ?_,λb o e hx => ?_,λb xs e=>tups b xs (I.base.tups b xs e),λb o xs e=>frzs b o xs (I.base.frzs b o xs e),λb ps e => ?_⟩,?_,λx c e => ?_,?_,λx c e => ?_,λp hp => ?_,hok,I.len⟩
 ·exact keep b o (neL b o e) hb (neC b o e hx) (I.base.keep b o e n hb hx) (I.base.free b o e n hx)
 ·obtain⟨sl,e1⟩:=I.base.slot b o e n hb hx
  obtain⟨sl',e2⟩:=slot b _ (neL b o e) hb (neC b o e hx) e1 (I.base.free b o e n hx)
  exact⟨sl',e2⟩
 ·obtain⟨o',e1⟩:=I.base.there b o e hx
  exact free b o' (neC b o e hx) e1 (I.base.free b o e n hx)
 ·obtain⟨o',e1⟩:=I.base.there b o e hx
  exact there b o' (neC b o e hx) e1
 ·obtain⟨m1,e1⟩:=I.base.tbls b ps e
  obtain⟨m2,e2⟩:=tbls b _ e1
  exact⟨m1 ++ m2,by rw[e2,Array.append_assoc]⟩
 ·obtain⟨m,hn,hl⟩:=I.loc
  refine⟨m,ns m hn,λi x v e1 e2 e3 => ?_⟩
  obtain⟨u,r,l⟩:=hl i x v e1 e2 e3
  refine⟨u,r,?_⟩
  rcases l with l | ⟨k,c,e,z⟩
  ·exact .inl l
  ·exact .inr ⟨k,c,e,cellK x c e _ z⟩
 ·obtain⟨v,z⟩:=I.cell x c e
  exact⟨v,cellK x c e v z⟩
 ·obtain⟨m,⟨o,_,_,ho,_⟩,_⟩:=I.loc
  exact free _ o (λz=>(hch _ z).2.1 rfl) ho I.free
 ·obtain⟨v,o,ho,hd⟩:=I.cell x c e
  exact free c o (λz=>(hch c z).2.2.1 x c e rfl) ho (I.freeC x c e)
 ·obtain⟨e,n,ne,nf,d⟩:=I.pin p hp
  have nch:p.1 ∉ ch:=λz=>(hch p.1 z).2.2.2 p hp rfl
  exact⟨keep p.1 p.2 ne nf nch e n,free p.1 p.2 nch e n,ne,nf,d⟩
theorem Inv.un{t':Nat}(I:Inv X pins σ H s)(u:Un X.fs [] H H' s.heap h')(hok:HOk X.prog X.w H' h'):Inv X pins σ H' { s with heap:=h',toks:=t' }:=by
 obtain⟨m,⟨o,es,ep,ho,r⟩,_⟩:=id I.loc
 obtain⟨sl,hL⟩:=u.any ho I.free (by simp)
 exact I.step (g':=s.gens) (d':=s.drawn) (ch:=[]) (λ_ z=>nomatch z) (λb o _ hb _ e n=>u.keep b o e n hb (by simp)) (λb o _ hb _ e n=>u.slot b o e n hb (by simp)) (λb o _ e n=>u.free b o e n (by simp)) (λb o _ e=>u.there b o e (by simp)) u.tups u.frzs u.tbls (λm' hm=>by
  obtain⟨o',es',ep',ho',r'⟩:=hm
  rw[ho]at ho';cases ho'
  exact⟨_,es',ep',hL,r'⟩) hok I.bare
theorem Inv.call{g':Array GenState}{t':Nat}{d':Drawn}{ch:List Addr}(I:Inv X pins σ H s)(u:Un (frs X.stack) ch H H' s.heap h')(hok:HOk X.prog X.w H' h')(hg:AllBare g')
  (hch:∀b∈ch,(b∈X.ex\/X.s₀.heap.objs.size<=b)/\b≠X.env.locals/\(∀x c,X.env.cells.lookup x=some c->c≠b)/\∀p∈X.pn ++ pins,p.1≠b) :
  Inv X pins σ H' { s with heap:=h',gens:=g',drawn:=d',toks:=t' }:=by
 obtain⟨m,⟨o,es,ep,ho,r⟩,_⟩:=id I.loc
 obtain⟨sl,hL⟩:=u.any ho I.free λz=>(hch _ z).2.1 rfl
 exact I.step (ch:=ch) hch (λb o hL hb hc e n=>u.keep b o e n (λz=>(List.mem_cons.mp (I.stkSub b z)).elim hL hb) hc) (λb o _ _ hc e n=>u.any e n hc) (λb o hc e n=>u.free b o e n hc) (λb o hc e=>u.there b o e hc) u.tups u.frzs u.tbls (λm' hm=>by
  obtain⟨o',es',ep',ho',r'⟩:=hm
  rw[ho]at ho';cases ho'
  exact⟨_,es',ep',hL,r'⟩) hok hg
theorem Inv.turned{t':Nat}{it:Addr}(I:Inv X pins σ H s)(k:∀b o,b≠it->s.heap.get? b=some o->h'.get? b=some o)(hn:H it=none)(hL:it≠X.env.locals)
  (h1:it∈X.ex\/X.s₀.heap.objs.size<=it) (h2:∀x c,X.env.cells.lookup x=some c->c≠it) (h3:∀p∈X.pn ++ pins,p.1≠it):Inv X pins σ H { s with heap:=h',toks:=t' }:=by
 have nit:∀b u,H b=some u->b≠it:=λb u e z=>by rw[z,hn]at e;cases e
 refine I.step (g':=s.gens) (d':=s.drawn) (ch:=[it]) (λb hb => ?_) (λb o _ _ hc e _=>k b o (λz=>hc (by simp[z])) e) (λb o _ _ hc e _=>⟨o.slots,k b o (λz=>hc (by simp[z])) e⟩) (λ_ _ _ _ n=>n)
  (λb o hc e=>⟨o,k b o (λz=>hc (by simp[z])) e⟩) (λ_ _ e=>e) (λ_ _ _ e=>e) (λb ps e=>⟨#[],by rw[e];simp⟩) (λm hm => ?_) (λb u e => ?_) I.bare
 ·have e:b=it:=by simpa using hb
  subst e
  exact⟨h1,hL,h2,h3⟩
 ·obtain⟨o,es,ep,ho,r⟩:=hm
  exact⟨o,es,ep,k _ o (Ne.symm hL) ho,r⟩
 ·refine(I.hok b u e).stay (λc v hc q=>k c v ?_ q) (λ_ q=>q) λ_ _ q=>q
  rcases hc with z | z
  ·rw[z];exact nit b u e
  ·exact nit c _ z
theorem Inv.tok(I:Inv X pins σ H s)(t:Nat):Inv X pins σ H { s with toks:=t }:=I.un (h':=s.heap) (t':=t) Un.refl I.hok
theorem Inv.kept{t':Nat}(I:Inv X pins σ H s)(k:∀b u,s.heap.get? b=some u->h'.get? b=some u):Inv X pins σ H { s with heap:=h',toks:=t' }:=I.un (Un.kept k) (I.hok.kept k)
theorem Inv.laid{a:Addr}{o:HO}{t':Nat}(I:Inv X pins σ H s)(k:∀b u,s.heap.get? b=some u->h'.get? b=some u)(hp:s.heap.objs.size<=a)(new:ObjOk X.prog X.w (upd H a o) h' a o) :
  Inv X pins σ (upd H a o) { s with heap:=h',toks:=t' }:=I.un (Un.laid k hp (I.hok.fresh hp)) (I.hok.laid k hp new)
theorem Inv.write{x e:Addr}{o:HO}{t':Nat}(I:Inv X pins σ H s)(mu:Mut (H x))(he:e=x\/H e=some (.own x))(k:∀b u,b≠e->s.heap.get? b=some u->h'.get? b=some u)(heo:∃u,h'.get? e=some u)
  (new:ObjOk X.prog X.w (upd H x o) h' x o):Inv X pins σ (upd H x o) { s with heap:=h',toks:=t' }:=I.un (Un.write mu he k heo) (I.hok.write mu he k heo new)
theorem Inv.pins_of{pins':List (Addr×Obj)}(I:Inv X pins σ H s)(h:∀p∈pins',s.heap.get? p.1=some p.2/\H p.1=none/\p.1≠X.env.locals/\p.1 ∉ X.fs/\∀v,p.2.data≠.cell v):Inv X pins' σ H s:=
 ⟨I.ok,I.os,I.bare,I.base,I.loc,I.cell,I.free,I.freeC,λp hp=>(List.mem_append.mp hp).elim (λz=>I.pin p (List.mem_append_left _ z)) (h p),I.hok,I.len⟩
theorem zkd{N:List Str}(hN:N.Nodup){i j:Nat}{x:Str}(a:N[i]? = some x)(b:N[j]? = some x):i=j:=by
 obtain⟨h1,e1⟩:=List.getElem?_eq_some_iff.mp a
 obtain⟨h2,e2⟩:=List.getElem?_eq_some_iff.mp b
 exact(List.getElem_inj hN).mp (e1.trans e2.symm)
theorem zoa{M:Model}{A:Around}{E:Value->Shared->Prop}{i:Nat}{x:Str}{v:V}{u:Value}{Q:Unit->Shared->Prop}(I:Inv X pins σ H s)(hN:X.N.Nodup)(hi:X.N[i]? = some x)(hx:Loc X.env.scope x)(r:RelV v u)
  (h:∀s',Inv X pins (σ.set i (some v)) H s'->(∃a,Heap.SameBut a s.heap s'.heap/\(a=X.env.locals\/X.env.cells.lookup x=some a))->Q () s') (hf:X.fn x=true\/X.env.scope.names.lookup x=some .local:=by first | exact .inl rfl | exact .inr rfl | assumption):wpAny M A (storeName X.env x u) Q E s:=by
 obtain⟨m,hn,hl⟩:=id I.loc
 have hcls:(X.env.scope.kind == .class || (X.env.scope.kind == .module && X.env.locals != X.env.globals))=false:=by rw[I.ok.kind];rfl
 have hiσ : i < σ.length:=by rw[I.len];exact(List.getElem?_eq_some_iff.mp hi).1
 have cne:=I.cne
 have tracked:∀{a:Addr} {h':Heap},(∃o,s.heap.get? a=some o/\H a=none)->Heap.SameBut a s.heap h'->HOk X.prog X.w H h':=fun{a h'} ha hs b ob e=>by
  obtain⟨_,_,hfree⟩:=ha
  refine(I.hok b ob e).stay (λc w' hc q=>(hs.2 c ?_).trans q) (λ_ q=>q) λ_ _ q=>q
  rintro rfl
  rcases hc with rfl | hc
  ·rw[hfree]at e;cases e
  ·rw[hfree]at hc;cases hc
 rcases hx with hk | hk
 ·refine wpAny_storeName_local hk hn (λh' hn' hs => ?_) hcls
  obtain⟨oL,_,_,hoL,_⟩:=id hn
  refine h _ ⟨I.ok,I.os,I.bare,⟨λb o e n hb hx => ?_,λb o e n hb hx => ?_,I.base.free,λb o e hx => ?_,I.base.tups,I.base.frzs,I.base.tbls⟩,⟨_,hn',λj y v' e1 e2 e3 => ?_⟩,λy c e => ?_,I.free,I.freeC,λp hp => ?_,tracked ⟨oL,hoL,I.free⟩ hs,by simpa using I.len⟩ ⟨_,hs,.inl rfl⟩
  ·exact(hs.2 b (Nat.ne_of_lt (Nat.lt_of_lt_of_le (Heap.lt_size e) I.ok.above))).trans (I.base.keep b o e n hb hx)
  ·obtain⟨sl,e1⟩:=I.base.slot b o e n hb hx
   exact⟨sl,(hs.2 b (Nat.ne_of_lt (Nat.lt_of_lt_of_le (Heap.lt_size e) I.ok.above))).trans e1⟩
  ·obtain⟨o',e1⟩:=I.base.there b o e hx
   exact⟨o',(hs.2 b (Nat.ne_of_lt (Nat.lt_of_lt_of_le (Heap.lt_size e) I.ok.above))).trans e1⟩
  ·by_cases hj:j=i
   ·subst hj
    rw[hi]at e1;cases e1
    rw[List.getElem?_set_self hiσ]at e2
    cases e2
    exact⟨u,r,.inl ⟨hk,by simp⟩⟩
   ·rw[List.getElem?_set_ne (Ne.symm hj)]at e2
    obtain⟨u',r',q⟩:=hl j y v' e1 e2 e3
    refine⟨u',r',?_⟩
    rcases q with⟨k,e⟩ | ⟨k,c,e,z⟩
    ·refine .inl ⟨k,?_⟩
     have:y≠x:=λe=>hj (zkd hN e1 (e ▸ hi))
     simp[this,e]
    ·exact .inr ⟨k,c,e,z.sameBut hs (cne y c e)⟩
  ·obtain⟨w',z⟩:=I.cell y c e
   exact⟨w',z.sameBut hs (cne y c e)⟩
  ·obtain⟨e,n,ne,nf,d⟩:=I.pin p hp
   exact⟨(hs.2 p.1 ne).trans e,n,ne,nf,d⟩
 ·have hfn:X.fn x=true:=by
   rcases hf with z | z
   ·exact z
   ·rw[z]at hk;cases hk
  obtain⟨c,hc⟩:=I.ok.has x (.inl hk)
  obtain⟨w',z⟩:=I.cell x c hc
  refine wpAny_storeName_cell I.ok.kind hk hc z (λh' hc' hs => ?_)
  obtain⟨oc,hoc,hocd⟩:=id z
  refine h { s with heap:=h' } ⟨I.ok,I.os,I.bare,⟨λb o e n hb hx => ?_,λb o e n hb hx => ?_,I.base.free,λb o e hx => ?_,I.base.tups,I.base.frzs,I.base.tbls⟩,⟨m,hn.sameBut hs (Ne.symm (cne x c hc)),λj y v' e1 e2 e3 => ?_⟩,λy c' e => ?_,I.free,I.freeC,λp hp => ?_,tracked ⟨oc,hoc,I.freeC x c hc⟩ hs,by simpa using I.len⟩ ⟨c,hs,.inr hc⟩
  ·exact(hs.2 b (Nat.ne_of_lt (Nat.lt_of_lt_of_le (Heap.lt_size e) (I.ok.cab x c hfn hc)))).trans (I.base.keep b o e n hb hx)
  ·obtain⟨sl,e1⟩:=I.base.slot b o e n hb hx
   exact⟨sl,(hs.2 b (Nat.ne_of_lt (Nat.lt_of_lt_of_le (Heap.lt_size e) (I.ok.cab x c hfn hc)))).trans e1⟩
  ·obtain⟨o',e1⟩:=I.base.there b o e hx
   exact⟨o',(hs.2 b (Nat.ne_of_lt (Nat.lt_of_lt_of_le (Heap.lt_size e) (I.ok.cab x c hfn hc)))).trans e1⟩
  ·by_cases hj:j=i
   ·subst hj
    rw[hi]at e1;cases e1
    rw[List.getElem?_set_self hiσ]at e2
    cases e2
    exact⟨u,r,.inr ⟨.inl hk,c,hc,hc'⟩⟩
   ·rw[List.getElem?_set_ne (Ne.symm hj)]at e2
    obtain⟨u',r',q⟩:=hl j y v' e1 e2 e3
    refine⟨u',r',?_⟩
    rcases q with q | ⟨k,c',e,z'⟩
    ·exact .inl q
    ·refine .inr ⟨k,c',e,z'.sameBut hs ?_⟩
     rintro rfl
     exact hj (zkd hN e1 (I.ok.inj _ _ _ e hc ▸ hi))
  ·by_cases hcc:c'=c
   ·subst hcc;exact⟨_,hc'⟩
   ·obtain⟨w2,z2⟩:=I.cell y c' e
    exact⟨w2,z2.sameBut hs hcc⟩
  ·obtain⟨e,n,ne,nf,d⟩:=I.pin p hp
   refine⟨(hs.2 p.1 ?_).trans e,n,ne,nf,d⟩
   intro q
   rw[q,hoc]at e
   have q':oc=p.2:=Option.some.inj e
   exact d w' (by rw[<- q'];exact hocd)
theorem zhm{M:Model}{A:Around}{E:Value->Shared->Prop}{i:Nat}{x:Str}{v:V}{u:Value}{Q:Unit->Shared->Prop}(I:Inv X pins σ H s)(hN:X.N.Nodup)(hi:X.N[i]? = some x)(hx:Loc X.env.scope x)(r:RelV v u)
  (h:∀s',Inv X pins (σ.set i (some v)) H s'->Q () s') (hf:X.fn x=true\/X.env.scope.names.lookup x=some .local:=by first | exact .inl rfl | exact .inr rfl | assumption):wpAny M A (storeName X.env x u) Q E s:=
 zoa I hN hi hx r (λs' I' _=>h s' I') hf
theorem Inv.call'{s':Shared}{ch:List Addr}(I:Inv X pins σ H s)(ho:s'.os=s.os)(u:Un (frs X.stack) ch H H' s.heap s'.heap)(hok:HOk X.prog X.w H' s'.heap)(hg:AllBare s'.gens)
  (hch:∀b∈ch,(b∈X.ex\/X.s₀.heap.objs.size<=b)/\b≠X.env.locals/\(∀x c,X.env.cells.lookup x=some c->c≠b)/\∀p∈X.pn ++ pins,p.1≠b):Inv X pins σ H' s':=by
 obtain⟨h',g',d',t',o'⟩:=s'
 have e:o'=s.os:=ho
 subst e
 exact I.call (g':=g') (t':=t') (d':=d') u hok hg hch
end
abbrev XK:=Value->Option Addr->Hp->Prop
abbrev St:=List (Option V)
abbrev VK:=V->Hp->Prop
abbrev TE:=St->Hp->VK->Prop
abbrev TT:=St->Hp->(Bool->Hp->Prop)->Prop
abbrev TA:=St->Hp->(List V->Hp->Prop)->Prop
structure Ends where
 nx:St->Hp->Prop
 rt:VK
 bk:St->Hp->Prop:=λ_ _=>False
 ct:St->Hp->Prop:=λ_ _=>False
abbrev TS:=Ends->St->Hp->Prop
def EP(X:Cx)(pins:List (Addr×Obj))(σ : St)(Q:VK)(u:Value)(s':Shared):Prop:=∃v H',Inv X pins σ H' s'/\RelV v u/\Q v H'
def TP(X:Cx)(pins:List (Addr×Obj))(σ : St)(Q:Bool->Hp->Prop)(b:Bool)(s':Shared):Prop:=∃H',Inv X pins σ H' s'/\Q b H'
def AP(X:Cx)(pins:List (Addr×Obj))(σ : St)(Q:List V->Hp->Prop)(us:List Value)(s':Shared):Prop:=∃vs H',Inv X pins σ H' s'/\Vals vs us/\Q vs H'
def SP(X:Cx)(pins:List (Addr×Obj))(D:Ends)(f:Flow)(s':Shared):Prop:=
 match f with
 | .next=>∃σ' H',Inv X pins σ' H' s'/\D.nx σ' H'
 | .brk=>∃σ' H',Inv X pins σ' H' s'/\D.bk σ' H'
 | .cont=>∃σ' H',Inv X pins σ' H' s'/\D.ct σ' H'
 | .ret u=>∃v σ' H',Inv X pins σ' H' s'/\RelV v u/\D.rt v H'
def PE(X:Cx)(e:Expr)(t:TE):Prop:=
 ∀(pins:List (Addr×Obj)) (s:Shared) (σ : St) (H:Hp) (Q:VK),Inv X pins σ H s->t σ H Q->wpAny (model X.prog X.w) X.A (eval e X.env) (EP X pins σ Q) X.xe s
def PT(X:Cx)(e:Expr)(t:TT):Prop:=
 ∀(pins:List (Addr×Obj)) (s:Shared) (σ : St) (H:Hp) (Q:Bool->Hp->Prop),Inv X pins σ H s->t σ H Q->wpAny (model X.prog X.w) X.A (isTrue e X.env (eval e X.env)) (TP X pins σ Q) X.xe s
def PW(X:Cx)(e:Expr)(t:TT):Prop:=
 ∀(whole:Sem Value) (pins:List (Addr×Obj)) (s:Shared) (σ : St) (H:Hp) (Q:Bool->Hp->Prop),Inv X pins σ H s->t σ H Q->wpAny (model X.prog X.w) X.A (isTrue e X.env whole) (TP X pins σ Q) X.xe s
theorem PW.pt{X:Cx}{e:Expr}{t:TT}(h:PW X e t):PT X e t:=h _
def PA(X:Cx)(es:List Expr)(t:TA):Prop:=
 ∀(pos:Pos) (pins:List (Addr×Obj)) (s:Shared) (σ : St) (H:Hp) (Q:List V->Hp->Prop),Inv X pins σ H s->t σ H Q->wpAny (model X.prog X.w) X.A (spliced (backTo pos (starEach es X.env))) (AP X pins σ Q) X.xe s
def PS(X:Cx)(st:Stmt)(t:TS):Prop:=
 ∀(pins:List (Addr×Obj)) (s:Shared) (σ : St) (H:Hp) (D:Ends),Inv X pins σ H s->t D σ H->wpAny (model X.prog X.w) X.A (exec st X.env) (SP X pins D) X.xe s
def PSs(X:Cx)(st:List Stmt)(t:TS):Prop:=
 ∀(pins:List (Addr×Obj)) (s:Shared) (σ : St) (H:Hp) (D:Ends),Inv X pins σ H s->t D σ H->wpAny (model X.prog X.w) X.A (execs st X.env) (SP X pins D) X.xe s
theorem thn{α : Type}{t:Sem α}{Q Q' : α->Shared->Prop}{M:Model}{A:Around}{E:Value->Shared->Prop}{s:Shared}(h:wpAny M A t Q E s)(hQ:∀a s,Q a s->Q' a s):wpAny M A t Q' E s:=wpAny_mono h hQ λ_ _ x=>x
end L2
namespace L2
open PySem PySem.Spec PyProof.Rows
section
variable{X:Cx}
def tVar(i:Nat):TE:=λσ H Q=>∃v,σ[i]? = some (some v)/\Q v H
def tC(v:V):TE:=λ_ H Q=>Q v H
theorem zvs{i:Nat}{x:Str}{pos:Pos}(hN:X.N[i]? = some x)(hv:Vis X.env.scope x)(hd:(x == ("__debug__" : Str))=false:=by decide)(hcd:(x == ("__classdict__" : Str))=false:=by decide):PE X (.Name x pos) (tVar i):=by
 intro pins s σ H Q I h
 obtain⟨v,e,h⟩:=h
 obtain⟨m,hn,hl⟩:=I.loc
 obtain⟨u,r,l⟩:=hl i x v hN e hv
 have fin:EP X pins σ Q u s:=⟨v,H,I,r,h⟩
 rcases l with⟨hk,hm⟩ | ⟨hk,c,hc,hcell⟩
 ·exact wpAny_Name (wpAny_loadName_local I.ok.kind hk hn hm fin) hd
 ·rcases hk with hk | hk
  ·exact wpAny_Name (wpAny_loadName_cell I.ok.kind hk hc hcell fin) hd
  ·exact wpAny_Name (wpAny_loadName_free I.ok.kind hk hc hcell fin hcd) hd
theorem zak{i j pos}:PE X (.Constant (.int i) j pos) (tC (.int i)):=λ_ _ _ H _ I h=>wpAny_Constant_int ⟨.int i,H,I.tok _,⟨_,rfl⟩,h⟩
theorem ze5{b j pos}:PE X (.Constant (.bool b) j pos) (tC (.bl b)):=λ_ _ _ H _ I h=>Constant_bool ⟨.bl b,H,I,rfl,h⟩
theorem zrn{j pos}:PE X (.Constant .none j pos) (tC .non):=λ_ _ _ H _ I h=>Constant_none ⟨.non,H,I,rfl,h⟩
theorem zf5{x j pos}:PE X (.Constant (.str x) j pos) (tC (.str x)):=λ_ _ _ H _ I h=>Calls.Constant_str ⟨.str x,H,I.tok _,⟨_,rfl⟩,h⟩
def Gl(X:Cx)(x:Str):Prop:=X.env.kindOf x=some .globalImplicit
theorem zfd{E:Value->Shared->Prop}{pins:List (Addr×Obj)}{s:Shared}{σ : St}{H:Hp}{x:Str}{u:Value}{pos:Pos}{Q:Value->Shared->Prop}(I:Inv X pins σ H s)(hg:Gl X x)(hm:X.mg x=some u)(h:Q u s)
  (hd:(x == ("__debug__" : Str))=false:=by decide):wpAny (model X.prog X.w) X.A (eval (.Name x pos) X.env) Q E s:=
 Calls.Name_function_global I.ok.kind hg (Calls.loadGlobal_global (by rw[I.ok.glob];exact I.mod.glob.keeps I.bk) hm h) hd
theorem zfp{E:Value->Shared->Prop}{pins:List (Addr×Obj)}{s:Shared}{σ : St}{H:Hp}{x:Str}{u:Value}{pos:Pos}{Q:Value->Shared->Prop}(I:Inv X pins σ H s)(hg:Gl X x)(hm:X.mg x=none)(hv:bootBuiltins x=some u)(h:Q u s)
  (hn:x≠"__name__":=by decide) (hd:(x == ("__debug__" : Str))=false:=by decide):wpAny (model X.prog X.w) X.A (eval (.Name x pos) X.env) Q E s:=by
 obtain⟨mb,h1,h2⟩:=I.mod.blt
 exact Calls.Name_function_global I.ok.kind hg (Calls.loadGlobal_builtin (by rw[I.ok.glob];exact I.mod.glob.keeps I.bk) hm (by rw[I.ok.blt];exact h1.keeps I.bk) ((h2 x hn).trans hv) h) hd
theorem zl5{x:Str}{v:V}{u:Value}{pos:Pos}(hg:Gl X x)(hm:X.mg x=some u)(r:RelV v u)(hd:(x == ("__debug__" : Str))=false:=by decide):PE X (.Name x pos) (tC v):=
 λ_ _ _ H _ I h=>zfd I hg hm ⟨v,H,I,r,h⟩ hd
theorem zff{x:Str}{v:V}{u:Value}{pos:Pos}(hg:Gl X x)(hm:X.mg x=none)(hv:bootBuiltins x=some u)(r:RelV v u)(hn:x≠"__name__":=by decide)(hd:(x == ("__debug__" : Str))=false:=by decide):PE X (.Name x pos) (tC v):=
 λ_ _ _ H _ I h=>zfp I hg hm hv ⟨v,H,I,r,h⟩ hn hd
variable{a b:Expr}{ta tb:TE}{pos:Pos}
def PC(X:Cx)(op:CmpOp)(a b:Expr)(t:TE):Prop:=
 ∀(pins:List (Addr×Obj)) (s:Shared) (σ : St) (H:Hp) (Q:VK),Inv X pins σ H s->t σ H Q ->
  wpAny (model X.prog X.w) X.A (eval a X.env) (λv s₁=>wpAny (model X.prog X.w) X.A (eval b X.env) (λu s₂=>wpAny (model X.prog X.w) X.A (compareOp op v u) (EP X pins σ Q) X.xe s₂) X.xe s₁) X.xe s
def tB(t:TE):TT:=λσ H Q=>t σ H λx H1=>∃c,x = .bl c/\Q c H1
theorem zk5{op:CmpOp}{t:TE}(h:PC X op a b t)(h1:behindInMarks op b=false:=by first | exact nobehind _ (by decide) (by decide) | rfl):PT X (.Compare a [op] [b] pos) (tB t):=by
 intro pins s σ H Q I hw
 refine wpAny_isTrue_Compare1 (thn (h pins s σ H _ I hw) λv s1 h1=>thn h1 λu s2 h2=>thn h2 λc s3 ⟨x,H1,I1,r1,q1⟩ => ?_) h1
 obtain⟨d,rfl,q⟩:=q1
 cases r1
 exact wpAny_truthy_bool ⟨H1,I1,q⟩
theorem zdj{e:Expr}{t:TE}(h:PE X e t)(he:∀whole,isTrue e X.env whole=(do let v <- whole;standAt e.pos;holding [v] (truthy v)):=by intro _;rfl):PT X e (tB t):=by
 intro pins s σ H Q I hw
 refine isTrue_plain (thn (h pins s σ H _ I hw) λv s1 ⟨x,H1,I1,r1,q1⟩ => ?_) (he _)
 obtain⟨d,rfl,q⟩:=q1
 cases r1
 exact wpAny_truthy_bool ⟨H1,I1,q⟩
variable{tA tB':TT}{rest:List Expr}
def tAnd(t u:TT):TT:=λσ H Q=>t σ H λc H1=>if c=true then u σ H1 Q else Q false H1
def tOr(t u:TT):TT:=λσ H Q=>t σ H λc H1=>if c=true then Q true H1 else u σ H1 Q
def tNot(t:TT):TT:=λσ H Q=>t σ H λc H1=>Q (!c) H1
theorem zia(ha:PT X a tA):PW X (.BoolOp .And [a] pos) tA:=by
 intro wh pins s σ H Q I h
 refine isTrue_and (thn (ha pins s σ H Q I h) λc s1 e => ?_)
 cases c with
 | true=>exact isTrue_and_nil e
 | false=>exact e
theorem zfq(ha:PT X a tA):PW X (.BoolOp .Or [a] pos) tA:=by
 intro wh pins s σ H Q I h
 refine isTrue_or (thn (ha pins s σ H Q I h) λc s1 e => ?_)
 cases c with
 | false=>exact isTrue_or_nil e
 | true=>exact e
theorem zk7(ha:PT X a tA)(hb:PW X (.BoolOp .And (b :: rest) pos) tB'):PW X (.BoolOp .And (a :: b :: rest) pos) (tAnd tA tB'):=by
 intro wh pins s σ H Q I h
 refine isTrue_and (thn (ha pins s σ H _ I h) λc s1 ⟨H1,I1,q1⟩ => ?_)
 cases c with
 | true=>exact hb wh pins s1 σ H1 Q I1 q1
 | false=>exact⟨H1,I1,q1⟩
theorem zfe(ha:PT X a tA)(hb:PW X (.BoolOp .Or (b :: rest) pos) tB'):PW X (.BoolOp .Or (a :: b :: rest) pos) (tOr tA tB'):=by
 intro wh pins s σ H Q I h
 refine isTrue_or (thn (ha pins s σ H _ I h) λc s1 ⟨H1,I1,q1⟩ => ?_)
 cases c with
 | true=>exact⟨H1,I1,q1⟩
 | false=>exact hb wh pins s1 σ H1 Q I1 q1
theorem zd0(ha:PT X a tA):PT X (.UnaryOp .Not a pos) (tNot tA):=by
 intro pins s σ H Q I h
 exact isTrue_not (ha pins s σ H (λc H1=>Q (!c) H1) I h)
def tAndV(ta tb:TE):TE:=λσ H Q=>ta σ H λx H1=>∃c,x = .bl c/\if c=true then tb σ H1 Q else Q (.bl false) H1
def tNotV(ta:TE):TE:=λσ H Q=>ta σ H λx H1=>∃c,x = .bl c/\Q (.bl (!c)) H1
theorem zki{op}{t:TE}(h:PE X a t):PE X (.BoolOp op [a] pos) t:=λpins s σ H Q I hw=>BoolOp_one (h pins s σ H Q I hw)
theorem zhe(ha:PE X a ta)(hb:PE X (.BoolOp .And (b :: rest) pos) tb):PE X (.BoolOp .And (a :: b :: rest) pos) (tAndV ta tb):=by
 intro pins s σ H Q I h
 refine BoolOp_and (thn (ha pins s σ H _ I h) λv s1 ⟨x,H1,I1,r1,q1⟩ => ?_)
 obtain⟨c,rfl,q1⟩:=q1
 cases r1
 refine wpAny_truthy_bool ?_
 cases c with
 | true=>exact hb pins s1 σ H1 Q I1 q1
 | false=>exact⟨.bl false,H1,I1,rfl,q1⟩
theorem zuj(ha:PE X a ta):PE X (.UnaryOp .Not a pos) (tNotV ta):=by
 intro pins s σ H Q I h
 refine UnaryOp_ (thn (ha pins s σ H _ I h) λv s1 ⟨x,H1,I1,r1,q1⟩ => ?_)
 obtain⟨c,rfl,q1⟩:=q1
 cases r1
 exact not_of (wpAny_truthy_bool ⟨.bl (!c),H1,I1,rfl,q1⟩)
end
end L2
namespace L2
open PySem PySem.Spec PyProof.Rows
def SqL(K:W.Frag)(H:Hp)(a:Addr)(xs:List V):Prop:=
 Rd H a (.lst xs) \/
  ∃(o:Obj) (its:Array Value) (n:Nat),K.lookup a=some o/\o.cls = .type "list"/\o.dict=none/\o.data = .seq its n/\its.size<=sizeLine/\Vals xs its.toList
def SqT(K:W.Frag)(H:Hp)(a:Addr)(xs:List V):Prop:=
 Rd H a (.tup xs) \/
  ∃(o:Obj) (its:Array Value) (n:Nat),K.lookup a=some o/\o.cls = .type "tuple"/\o.data = .seq its n/\its.size<=sizeLine/\Vals xs its.toList
def absV:Value->Option V
 | .none=>some .non
 | .bool b=>some (.bl b)
 | .int i _=>some (.int i)
 | .str x _=>some (.str x)
 | .bytes b _=>some (.byt b)
 | .float b _=>some (.flt b)
 | .ref a=>some (.ref a)
 | .type n=>some (.ty n)
 | _=>none
theorem RelV.abs{x:V}{u:Value}(r:RelV x u):absV u=some x:=by
 cases x with
 | non=>cases r;rfl
 | bl _=>cases r;rfl
 | int _=>obtain⟨t,rfl⟩:=r;rfl
 | str _=>obtain⟨t,rfl⟩:=r;rfl
 | byt _=>obtain⟨t,rfl⟩:=r;rfl
 | flt _=>obtain⟨t,rfl⟩:=r;rfl
 | ref _=>cases r;rfl
 | ty _=>cases r;rfl
theorem RelV.inj{x y:V}{u:Value}(r:RelV x u)(q:RelV y u):x=y:=Option.some.inj (r.abs.symm.trans q.abs)
theorem Vals.inj:∀{xs ys:List V} {us:List Value},Vals xs us->Vals ys us->xs=ys
 | _,_,_,.nil,.nil=>rfl
 | _,_,_,.cons r t,.cons r' t'=>by rw[r.inj r',Vals.inj t t']
section
variable{X:Cx}{pins:List (Addr×Obj)}{σ : St}{H:Hp}{s:Shared}{a:Addr}{xs ys:List V}
theorem SqL.of{K:W.Frag}(h:H a=some (.lst xs)):SqL K H a xs := .inl (.inl h)
theorem SqT.of{K:W.Frag}(h:H a=some (.tup xs)):SqT K H a xs := .inl (.inl h)
theorem Inv.list(I:Inv X pins σ H s)(h:SqL X.K H a xs):∃its:List Value,Vals xs its/\PlainL s.heap a its.toArray/\xs.length<=sizeLine:=by
 rcases h with h | ⟨o,its,n,hk,hc,hd,hs,hz,r⟩
 ·obtain⟨z,its,n,r,e⟩:=h.ok I.hok
  exact⟨its,r,⟨_,n,e,rfl,rfl,rfl⟩,z⟩
 ·refine⟨its.toList,r,⟨o,n,I.kIn a o hk,hc,hd,by simpa using hs⟩,?_⟩
  have e:=r.length
  simp only[Array.length_toList]at e
  omega
theorem Inv.tuple(I:Inv X pins σ H s)(h:SqT X.K H a xs):∃its:List Value,Vals xs its/\IsTup s.heap a its.toArray/\xs.length<=sizeLine:=by
 rcases h with h | ⟨o,its,n,hk,hc,hs,hz,r⟩
 ·obtain⟨z,its,r,p⟩:=h.ok I.hok
  exact⟨its,r,p,z⟩
 ·refine⟨its.toList,r,⟨o,I.kIn a o hk,hc,n,by simpa using hs⟩,?_⟩
  have e:=r.length
  simp only[Array.length_toList]at e
  omega
theorem Inv.list_inj(I:Inv X pins σ H s)(h:SqL X.K H a xs)(h':SqL X.K H a ys):xs=ys:=by
 obtain⟨its,r,⟨o,n,e,_,_,d⟩,_⟩:=I.list h
 obtain⟨its',r',⟨o',n',e',_,_,d'⟩,_⟩:=I.list h'
 rw[e]at e';cases e'
 rw[d]at d'
 injection d' with d1 _
 have:its=its':=by simpa using congrArg Array.toList d1
 subst this
 exact r.inj r'
theorem Inv.tuple_inj(I:Inv X pins σ H s)(h:SqT X.K H a xs)(h':SqT X.K H a ys):xs=ys:=by
 obtain⟨its,r,⟨o,e,_,n,d⟩,_⟩:=I.tuple h
 obtain⟨its',r',⟨o',e',_,n',d'⟩,_⟩:=I.tuple h'
 rw[e]at e';cases e'
 rw[d]at d'
 injection d' with d1 _
 have:its=its':=by simpa using congrArg Array.toList d1
 subst this
 exact r.inj r'
end
abbrev Cx.wish(X:Cx)(E:Value->Shared->Prop):Cx:={ X with xe:=E }
abbrev Cx.nox(X:Cx):Cx:=X.wish λ_ _=>False
theorem Cx.Ok.wish{X:Cx}(ok:X.Ok)(E:Value->Shared->Prop):(X.wish E).Ok:=
 ⟨ok.mod,ok.kind,ok.glob,ok.blt,ok.above,ok.inj,ok.has,ok.cab,ok.hd,ok.frames,ok.stk,ok.exf,ok.bs,ok.bsz,ok.noex,ok.exfs,ok.funs,ok.frf⟩
theorem Cx.Ok.unwish{X:Cx}{E:Value->Shared->Prop}(ok:(X.wish E).Ok):X.Ok:=
 ⟨ok.mod,ok.kind,ok.glob,ok.blt,ok.above,ok.inj,ok.has,ok.cab,ok.hd,ok.frames,ok.stk,ok.exf,ok.bs,ok.bsz,ok.noex,ok.exfs,ok.funs,ok.frf⟩
section
variable{X:Cx}{pins:List (Addr×Obj)}{σ : St}{H:Hp}{s:Shared}{E:Value->Shared->Prop}
theorem Inv.wish(I:Inv X pins σ H s)(E:Value->Shared->Prop):Inv (X.wish E) pins σ H s:=⟨I.ok.wish E,I.os,I.bare,I.base,I.loc,I.cell,I.free,I.freeC,I.pin,I.hok,I.len⟩
theorem Inv.unwish(I:Inv (X.wish E) pins σ H s):Inv X pins σ H s:=⟨I.ok.unwish,I.os,I.bare,I.base,I.loc,I.cell,I.free,I.freeC,I.pin,I.hok,I.len⟩
theorem SP.unwish{D:Ends}{f:Flow}{s':Shared}(h:SP (X.wish E) pins D f s'):SP X pins D f s':=by
 cases f with
 | next=>obtain⟨σ',H',I,q⟩:=h;exact⟨σ',H',I.unwish,q⟩
 | brk=>obtain⟨σ',H',I,q⟩:=h;exact⟨σ',H',I.unwish,q⟩
 | cont=>obtain⟨σ',H',I,q⟩:=h;exact⟨σ',H',I.unwish,q⟩
 | ret u=>obtain⟨v,σ',H',I,r,q⟩:=h;exact⟨v,σ',H',I.unwish,r,q⟩
theorem PSs.nox{st:List Stmt}{t:TS}(h:PSs X.nox st t):PSs X st t:=λpins s σ H D I hw=>
 wpAny_mono (h pins s σ H D (I.wish _) hw) (λ_ _ q=>q.unwish) λ_ _ z=>False.elim z
end
section
variable{X:Cx}{st:Stmt}{rest:List Stmt}{t u:TS}{e:Expr}{te:TE}{pos:Pos}
def tNext:TS:=λD σ H=>D.nx σ H
def tSeq(t u:TS):TS:=λD σ H=>t { D with nx:=u D } σ H
theorem zav:PSs X [] tNext:=λ_ _ σ H _ I h=>wpAny_execs_nil ⟨σ,H,I,h⟩
theorem zag(h1:PS X st t)(h2:PSs X rest u):PSs X (st :: rest) (tSeq t u):=by
 intro pins s σ H D I h
 refine wpAny_execs_cons (thn (h1 pins s σ H { D with nx:=u D } I h) λf s1 q => ?_)
 cases f with
 | next=>
  obtain⟨σ',H',I',q⟩:=q
  exact h2 pins s1 σ' H' D I' q
 | ret v=>exact q
 | brk=>exact q
 | cont=>exact q
theorem zaj(h1:PS X st t):PSs X [st] t:=by
 intro pins s σ H D I h
 refine wpAny_execs_cons (thn (h1 pins s σ H D I h) λf s1 q => ?_)
 cases f with
 | next=>exact wpAny_execs_nil q
 | ret v=>exact q
 | brk=>exact q
 | cont=>exact q
theorem Inv.quiet{pins:List (Addr×Obj)}{σ : St}{H:Hp}{s:Shared}(I:Inv X pins σ H s):interactive X.env=false:=by simp[interactive,I.ok.kind]
def tDrop(te:TE):TS:=λD σ H=>te σ H λ_ H1=>D.nx σ H1
theorem zdo(he:PE X e te)(hs:swapsWith e none pos.line X.env=pure false:=by rfl):PS X (.Expr e pos) (tDrop te):=by
 intro pins s σ H D I h
 exact wpAny_Expr_any (thn (he pins s σ H _ I h) λv s1 ⟨x,H1,I1,r1,q1⟩=>⟨σ,H1,I1,q1⟩) I.quiet hs
def tRet(te:TE):TS:=λD σ H=>te σ H D.rt
theorem zas(he:PE X e te):PS X (.Return (some e) pos) (tRet te):=by
 intro pins s σ H D I h
 exact wpAny_Return_some (thn (he pins s σ H _ I h) λv s1 ⟨x,H1,I1,r1,q1⟩=>⟨x,σ,H1,I1,r1,q1⟩)
def tIfS(c:TT)(t u:TS):TS:=λD σ H=>c σ H λb H1=>if b=true then t D σ H1 else u D σ H1
theorem zbc{c:Expr}{a b:List Stmt}{tc:TT}(hc:PT X c tc)(ha:PSs X a t)(hb:PSs X b u):PS X (.If c a b pos) (tIfS tc t u):=by
 intro pins s σ H D I h
 refine wpAny_If (thn (hc pins s σ H _ I h) λd s1 ⟨H1,I1,q1⟩ => ?_)
 cases d with
 | true=>exact ha pins s1 σ H1 D I1 q1
 | false=>exact hb pins s1 σ H1 D I1 q1
end
abbrev TG:=V->St->Hp->(St->Hp->Prop)->Prop
abbrev TGs:=List V->St->Hp->(St->Hp->Prop)->Prop
def PG(X:Cx)(target:Expr)(t:TG):Prop:=
 ∀(pins:List (Addr×Obj)) (s:Shared) (σ : St) (H:Hp) (v:V) (u:Value) (Q:St->Hp->Prop),Inv X pins σ H s->RelV v u->t v σ H Q ->
  wpAny (model X.prog X.w) X.A (assign target X.env u) (λ_ s'=>∃σ' H',Inv X pins σ' H' s'/\Q σ' H') X.xe s
def PGs(X:Cx)(ts:List Expr)(t:TGs):Prop:=
 ∀(pins:List (Addr×Obj)) (s:Shared) (σ : St) (H:Hp) (vs:List V) (us:List Value) (Q:St->Hp->Prop),Inv X pins σ H s->Vals vs us->t vs σ H Q ->
  wpAny (model X.prog X.w) X.A (assignInOrder ((assignEach ts X.env).map (·.2)) us) (λ_ s'=>∃σ' H',Inv X pins σ' H' s'/\Q σ' H') X.xe s
abbrev TIp:=V->V->Hp->VK->Prop
def PIp(X:Cx)(op:Operator)(t:TIp):Prop:=
 ∀(pins:List (Addr×Obj)) (s:Shared) (σ : St) (H:Hp) (x y:V) (v u:Value) (Q:VK),Inv X pins σ H s->RelV x v->RelV y u->t x y H Q ->
  wpAny (model X.prog X.w) X.A (inplaceOp op v u) (EP X pins σ Q) X.xe s
section
variable{X:Cx}{pos:Pos}
def gName(i:Nat):TG:=λv σ H Q=>Q (σ.set i (some v)) H
theorem zb2{i:Nat}{x:Str}(hN:X.N.Nodup)(hi:X.N[i]? = some x)(hx:Loc X.env.scope x)(hf:X.fn x=true\/X.env.scope.names.lookup x=some .local:=by first | exact .inl rfl | exact .inr rfl | assumption):PG X (.Name x pos) (gName i):=by
 intro pins s σ H v u Q I r h
 exact wpAny_assign_Name (zhm I hN hi hx r (λs' I'=>⟨_,H,I',h⟩) hf)
def gNil:TGs:=λvs σ H Q=>vs=[]/\Q σ H
def gCons(t:TG)(u:TGs):TGs:=λvs σ H Q=>∃v r,vs=v :: r/\t v σ H λσ' H'=>u r σ' H' Q
theorem zfv:PGs X [] gNil:=by
 intro pins s σ H vs us Q I r h
 obtain⟨e,h⟩:=h
 subst e
 cases r
 exact assignInOrder_nil ⟨σ,H,I,h⟩
theorem zcp{e:Expr}{es:List Expr}{t:TG}{u:TGs}(h1:PG X e t)(h2:PGs X es u)
  (hs:(assignEach (e :: es) X.env).map (·.2)=assign e X.env :: (assignEach es X.env).map (·.2):=by rfl):PGs X (e :: es) (gCons t u):=by
 intro pins s σ H vs us Q I r h
 obtain⟨v,vr,e1,h⟩:=h
 subst e1
 cases r with
 | cons r rr=>
  rw[hs]
  refine assignInOrder_cons (thn (h1 pins s σ H _ _ _ I r h) λ_ s1 ⟨σ1,H1,I1,q1⟩ => ?_)
  exact h2 pins s1 σ1 H1 _ _ Q I1 rr q1
def gTup(K:W.Frag)(n:Nat)(t:TGs):TG:=λv σ H Q=>∃a xs,v = .ref a/\SqT K H a xs/\xs.length=n/\t xs σ H Q
theorem zg8{es:List Expr}{k:Nat}{t:TGs}{n:Nat}(hc:X.calm=true)(h:PGs X es t)
  (hn:(assignEach es X.env).length=n:=by rfl) (hst:(assignEach es X.env).findIdx? (·.1)=none:=by rfl):PG X (.Tuple es k pos) (gTup X.K n t):=by
 intro pins s σ H v u Q I r hw
 obtain⟨a,xs,e1,hq,hl,hw⟩:=hw
 subst e1
 cases r
 obtain⟨its,rv,ht,hz⟩:=I.tuple hq
 refine assign_Tuple_tuple (I.ok.hd hc) ht (by simp[hn,<- hl,rv.length]) hst λh' hx => ?_
 have I1:Inv X pins σ H { s with heap:=h' }:=I.kept (t':=s.toks) λb o e=>hx b o (Nat.ne_of_lt (Heap.lt_size e)) e
 exact h pins _ σ H xs _ Q I1 (by simpa using rv) hw
def tAsg(te:TE)(g:TG):TS:=λD σ H=>te σ H λx H1=>g x σ H1 D.nx
theorem zau{i:Nat}{x:Str}{e:Expr}{te:TE}{pos':Pos}(hN:X.N.Nodup)(hi:X.N[i]? = some x)(hx:Loc X.env.scope x)(he:PE X e te)(hs:swapsWith e (some (.Name x pos')) pos.line X.env=pure false:=by rfl)(hf:X.fn x=true\/X.env.scope.names.lookup x=some .local:=by first | exact .inl rfl | exact .inr rfl | assumption) :
  PS X (.Assign [.Name x pos'] e pos) (tAsg te (gName i)):=by
 intro pins s σ H D I h
 refine wpAny_Assign_Name (thn (he pins s σ H _ I h) λv s1 ⟨y,H1,I1,r1,q1⟩ => ?_) hs
 exact zhm I1 hN hi hx r1 (λs2 I2=>⟨_,H1,I2,q1⟩) hf
def tAug(i:Nat)(te:TE)(ti:TIp):TS:=λD σ H=>∃x,σ[i]? = some (some x)/\te σ H λy H1=>ti x y H1 λz H2=>D.nx (σ.set i (some z)) H2
theorem zuk{i:Nat}{x:Str}{e:Expr}{te:TE}{op:Operator}{ti:TIp}{pos':Pos}(hN:X.N.Nodup)(hi:X.N[i]? = some x)(hx:Loc X.env.scope x)(he:PE X e te)(ho:PIp X op ti)(hf:X.fn x=true\/X.env.scope.names.lookup x=some .local:=by first | exact .inl rfl | exact .inr rfl | assumption) :
  PS X (.AugAssign (.Name x pos') op e pos) (tAug i te ti):=by
 intro pins s σ H D I h
 obtain⟨v,e1,h⟩:=h
 obtain⟨m,hn,hl⟩:=I.loc
 have vis:Vis X.env.scope x:=by rcases hx with k | k;exact .inl k;exact .inr (.inl k)
 obtain⟨u,r,l⟩:=hl i x v hi e1 vis
 refine wpAny_AugAssign_Name ?_
 have go:wpAny (model X.prog X.w) X.A (eval e X.env) (λw s₂=>wpAny (model X.prog X.w) X.A (inplaceOp op u w) (λr s₃=>wpAny (model X.prog X.w) X.A (storeName X.env x r) (λ_=>SP X pins D .next) X.xe s₃) X.xe s₂) X.xe s:=by
  refine thn (he pins s σ H _ I h) λw s1 ⟨y,H1,I1,r1,q1⟩ => ?_
  refine thn (ho pins s1 σ H1 v y u w _ I1 r r1 q1) λz s2 ⟨zv,H2,I2,r2,q2⟩ => ?_
  exact zhm I2 hN hi hx r2 (λs3 I3=>⟨_,H2,I3,q2⟩) hf
 rcases l with⟨hk,hm⟩ | ⟨hk,c,hc,hcell⟩
 ·exact wpAny_loadName_local I.ok.kind hk hn hm go
 ·rcases hk with hk | hk
  ·exact wpAny_loadName_cell I.ok.kind hk hc hcell go
  ·rcases hx with k | k
   ·have:X.env.scope.names.lookup x=some .free:=hk
    rw[k]at this;cases this
   ·have:X.env.scope.names.lookup x=some .free:=hk
    rw[k]at this;cases this
def ipI(f:Int->Int->Int):TIp:=λx y H Q=>∃i j,x = .int i/\y = .int j/\Q (.int (f i j)) H
theorem zuc:PIp X .Add (ipI λi j=>i + j):=by
 intro pins s σ H x y v u Q I r1 r2 h
 obtain⟨i,j,e1,e2,q⟩:=h
 subst e1;subst e2
 obtain⟨t,rfl⟩:=r1
 obtain⟨t',rfl⟩:=r2
 exact iadd_int ⟨.int _,H,I.tok _,⟨_,rfl⟩,q⟩
end
section
variable{X:Cx}{pos:Pos}
def tWhile(c:TT)(tb:TS):TS:=λD σ H=>∃W:Nat->St->Hp->Prop,(∃m,W m σ H)/\∀m σ H,W m σ H ->
 c σ H λb H1=>if b=true then ∃N:St->Hp->Prop,(∀σ' H',N σ' H'->∃m',m' < m/\W m' σ' H')/\tb { D with nx:=N,ct:=N,bk:=D.nx } σ H1 else D.nx σ H1
theorem zeb{c:Expr}{body:List Stmt}{tc:TT}{tb:TS}(hp:PassesOwn (model X.prog X.w) X.A X.env X.xe)(hc:PT X c tc)(hb:PSs X body tb):PS X (.While c body [] pos) (tWhile tc tb):=by
 intro pins s σ H D I h
 obtain⟨W,⟨m0,w0⟩,turn⟩:=h
 refine wpAny_While (codeAny_whileLoop (λn s'=>∃σ' H',Inv X pins σ' H' s'/\W n σ' H') ?_ m0 ⟨σ,H,I,w0⟩)
 rintro n s1 ⟨σ1,H1,I1,w1⟩
 refine wpAny_passesOwn hp (thn (hc pins s1 σ1 H1 _ I1 (turn n σ1 H1 w1)) λb s2 ⟨H2,I2,q2⟩ => ?_)
 cases b with
 | true=>
  obtain⟨N,hN,q2⟩:=q2
  rw[if_pos rfl]
  refine wpAny_passesOwn hp (thn (hb pins s2 σ1 H2 _ I2 q2) λf s3 q3 => ?_)
  cases f with
  | next=>
   obtain⟨σ3,H3,I3,n3⟩:=q3
   obtain⟨m',hm,w3⟩:=hN σ3 H3 n3
   exact⟨m',hm,σ3,H3,I3,w3⟩
  | cont=>
   obtain⟨σ3,H3,I3,n3⟩:=q3
   obtain⟨m',hm,w3⟩:=hN σ3 H3 n3
   exact⟨m',hm,σ3,H3,I3,w3⟩
  | brk=>exact q3
  | ret v=>exact q3
 | false=>
  rw[if_neg Bool.false_ne_true]
  exact wpAny_execs_nil ⟨σ1,H2,I2,q2⟩
end
structure It where
 go:Nat->Hp->Prop
 yld:Nat->Hp->V->Hp->Prop
 stop:Nat->Hp->Prop
def FpOk(X:Cx)(pins:List (Addr×Obj))(H:Hp)(b:Addr):Prop:=
 H b=none/\b≠X.env.locals/\b ∉ X.fs/\(b∈X.ex\/X.s₀.heap.objs.size<=b)/\(∀x c,X.env.cells.lookup x=some c->c≠b)/\∀p∈X.pn ++ pins,p.1≠b
theorem Inv.fpOk{X:Cx}{pins:List (Addr×Obj)}{σ : St}{H H':Hp}{s:Shared}{b:Addr}(I:Inv X pins σ H s)(hb:s.heap.objs.size<=b)(hn:H' b=none):FpOk X pins H' b:=by
 refine⟨hn,Nat.ne_of_gt (Nat.lt_of_lt_of_le I.lt hb),I.nofs hb,.inr (Nat.le_trans I.sz hb),λx c e z => ?_,λp hp z => ?_⟩
 ·obtain⟨v,q⟩:=I.cell x c e
  exact absurd (Nat.lt_of_lt_of_le q.lt (by rw[z];exact hb)) (Nat.lt_irrefl _)
 ·exact absurd (Nat.lt_of_lt_of_le (Heap.lt_size (I.pin p hp).1) (by rw[z];exact hb)) (Nat.lt_irrefl _)
structure Turn(P:Program)(w:World)(K:W.Frag)(tg:Expr)(J:It)(fp:List Addr)(it:Addr)(tn:Nat->Heap->Prop):Prop where
 mem:it∈fp
 obj:∀i h,tn i h->∀b∈fp,∃o,h.get? b=some o/\∀v,o.data≠.cell v
 keep:∀i h h',tn i h->(∀b∈fp,∀o,h.get? b=some o->h'.get? b=some o)->tn i h'
 item:∀(X:Cx),X.prog=P->X.w=w->X.K=K->X.calm=true->∀(i:Nat) (pins:List (Addr×Obj)) (s:Shared) (σ : St) (H:Hp) (E:Value->Shared->Prop),Inv X pins σ H s->(∀b∈fp,FpOk X pins H b)->tn i s.heap->J.go i H ->
  wpAny (model P w) X.A (pyNext (.ref it)) (λr s1=>∃u,r=some u /\
   wpAny (model P w) X.A (letOwnedTupleGo tg (.ref it) u) (λ_ s2=>∃x H',Inv X pins σ H' s2/\RelV x u/\J.yld i H x H'/\tn (i + 1) s2.heap/\∀b∈fp,H' b=none) E s1) E s
 done:∀(X:Cx),X.prog=P->X.w=w->X.K=K->X.calm=true->∀(i:Nat) (pins:List (Addr×Obj)) (s:Shared) (σ : St) (H:Hp) (E:Value->Shared->Prop),Inv X pins σ H s->(∀b∈fp,FpOk X pins H b)->tn i s.heap->J.stop i H ->
  wpAny (model P w) X.A (pyNext (.ref it)) (λr s1=>r=none/\Inv X pins σ H s1) E s
 self:∀(A:Around) (i:Nat) (s:Shared) (Q:Value->Shared->Prop) (E:Value->Shared->Prop),tn i s.heap->Q (.ref it) s->wpAny (model P w) A (pyIter (.ref it)) Q E s
abbrev TI:=St->Hp->(It->Hp->Prop)->Prop
def PIE(X:Cx)(pins:List (Addr×Obj))(σ : St)(tg:Expr)(R:It->Hp->Prop)(itv:Value)(s2:Shared):Prop:=
 ∃(it:Addr) (fp:List Addr) (tn:Nat->Heap->Prop) (J:It) (H':Hp),itv = .ref it/\Inv X pins σ H' s2/\Turn X.prog X.w X.K tg J fp it tn/\tn 0 s2.heap/\(∀b∈fp,FpOk X pins H' b)/\R J H'
def PI(X:Cx)(tg iter:Expr)(wi:TI):Prop:=
 ∀(pins:List (Addr×Obj)) (s:Shared) (σ : St) (H:Hp) (R:It->Hp->Prop),Inv X pins σ H s->wi σ H R ->
  wpAny (model X.prog X.w) X.A (eval iter X.env) (λv s1=>wpAny (model X.prog X.w) X.A (pyIter v) (PIE X pins σ tg R) X.xe s1) X.xe s
theorem zn9{M:Model}{A:Around}{E:Value->Shared->Prop}{s:Shared}{tg:Expr}{it:Addr}{u:Value}{o:Obj}{n:String}{vs:Array Value}{Q:Unit->Shared->Prop}(ho:s.heap.get? it=some o)(hc:o.cls = .type n)(hd:o.data = .fields vs)
  (hn:["enumerate","zip","dict_itemiterator","dict_reverseitemiterator","odict_iterator","itertools.zip_longest","itertools.pairwise"].contains n=false) (hQ:Q () s):wpAny M A (letOwnedTupleGo tg (.ref it) u) Q E s:=by
 unfold letOwnedTupleGo
 cases tg <;> first
  | exact wpAny_pure hQ
  | (cases u <;> first
    | exact wpAny_pure hQ
    | (refine wpAny_bind (wpAny_load ho ?_)
       rw[hc,hd]
       show wpAny M A (if (["enumerate","zip","dict_itemiterator","dict_reverseitemiterator","odict_iterator","itertools.zip_longest","itertools.pairwise"].contains n && vs[0]? == some (rawInt _))=true then _ else _) Q E s
       rw[if_neg (by intro h;rw[hn,Bool.false_and]at h;cases h)]
       exact wpAny_pure hQ))
def Itl(K:W.Frag)(a:Addr):It:=
 ⟨λi H=>∃xs x,SqL K H a xs/\xs[i]? = some x,λi H x H'=>H'=H/\∀xs,SqL K H a xs->xs[i]? = some x,λi H=>∃xs,SqL K H a xs/\xs.length<=i⟩
def Itt(K:W.Frag)(a:Addr):It:=
 ⟨λi H=>∃xs x,SqT K H a xs/\xs[i]? = some x,λi H x H'=>H'=H/\∀xs,SqT K H a xs->xs[i]? = some x,λi H=>∃xs,SqT K H a xs/\xs.length<=i⟩
def Itr(lo:Int)(n:Nat):It:=⟨λi _=>i < n,λi H x H'=>H'=H/\x = .int (lo + i),λi _=>n<=i⟩
theorem zmg{P:Program}{w:World}{K:W.Frag}{tg:Expr}(a it:Addr):Turn P w K tg (Itl K a) [it] it (λi h=>h.IsListIter it a i) where
 mem:=by simp
 obj:=λi h st b hb=>by
  have e:b=it:=by simpa using hb
  subst e
  obtain⟨o,e,c,d⟩:=st
  exact⟨o,e,λv z=>by rw[d]at z;cases z⟩
 keep:=λi h h' st k=>st.at λo e=>k it (by simp) o e
 item:=by
  intro X hP hw hK hc i pins s σ H E I hf st hg
  subst hP hw hK
  obtain⟨xs,x,hq,hx⟩:=hg
  obtain⟨its,rv,p,hz⟩:=I.list hq
  obtain⟨u,hu,ru⟩:=rv.get hx
  obtain⟨f0,f1,f2,f3,f4,f5⟩:=hf it (by simp)
  refine wpAny_pyNext_list_item st p.isList (x:=u) (by simpa using hu) λh' st' sb => ?_
  have I1:Inv X pins σ H { s with heap:=h' }:=I.turned (t':=s.toks) (λb o hb e=>(sb.2 b hb).trans e) f0 f1 f3 f4 f5
  obtain⟨o,e,c,d⟩:=id st'
  exact⟨u,rfl,zn9 (s:={ s with heap:=h' }) e c d (by decide) ⟨x,H,I1,ru,⟨rfl,λys hy=>by rw[I.list_inj hy hq];exact hx⟩,st',λb hb=>(hf b hb).1⟩⟩
 done:=by
  intro X hP hw hK hc i pins s σ H E I hf st hg
  subst hP hw hK
  obtain⟨xs,hq,hx⟩:=hg
  obtain⟨its,rv,p,hz⟩:=I.list hq
  obtain⟨f0,f1,f2,f3,f4,f5⟩:=hf it (by simp)
  have hl:=rv.length
  exact wpAny_pyNext_list_end (I.ok.hd hc) st p.isList (by simp;omega) λh' eb=>⟨rfl,I.turned (t':=s.toks) (λb o hb e=>eb b o hb e) f0 f1 f3 f4 f5⟩
 self:=λ_ _ _ _ _ st h=>wpAny_pyIter_listiter st h
theorem zlf{P:Program}{w:World}{K:W.Frag}{tg:Expr}(a it:Addr):Turn P w K tg (Itt K a) [it] it (λi h=>h.IsTupleIter it a i) where
 mem:=by simp
 obj:=λi h st b hb=>by
  have e:b=it:=by simpa using hb
  subst e
  obtain⟨o,e,c,d⟩:=st
  exact⟨o,e,λv z=>by rw[d]at z;cases z⟩
 keep:=λi h h' st k=>st.at λo e=>k it (by simp) o e
 item:=by
  intro X hP hw hK hc i pins s σ H E I hf st hg
  subst hP hw hK
  obtain⟨xs,x,hq,hx⟩:=hg
  obtain⟨its,rv,p,hz⟩:=I.tuple hq
  obtain⟨u,hu,ru⟩:=rv.get hx
  obtain⟨f0,f1,f2,f3,f4,f5⟩:=hf it (by simp)
  refine wpAny_pyNext_tuple_item st (show s.heap.IsTuple a its.toArray from p) (x:=u) (by simpa using hu) λh' st' sb => ?_
  have I1:Inv X pins σ H { s with heap:=h' }:=I.turned (t':=s.toks) (λb o hb e=>(sb.2 b hb).trans e) f0 f1 f3 f4 f5
  obtain⟨o,e,c,d⟩:=id st'
  exact⟨u,rfl,zn9 (s:={ s with heap:=h' }) e c d (by decide) ⟨x,H,I1,ru,⟨rfl,λys hy=>by rw[I.tuple_inj hy hq];exact hx⟩,st',λb hb=>(hf b hb).1⟩⟩
 done:=by
  intro X hP hw hK hc i pins s σ H E I hf st hg
  subst hP hw hK
  obtain⟨xs,hq,hx⟩:=hg
  obtain⟨its,rv,p,hz⟩:=I.tuple hq
  obtain⟨f0,f1,f2,f3,f4,f5⟩:=hf it (by simp)
  have hl:=rv.length
  exact wpAny_pyNext_tuple_end (I.ok.hd hc) st (show s.heap.IsTuple a its.toArray from p) (by simp;omega) λh' eb=>⟨rfl,I.turned (t':=s.toks) (λb o hb e=>eb b o hb e) f0 f1 f3 f4 f5⟩
 self:=λ_ _ _ _ _ st h=>wpAny_pyIter_tupleiter st h
theorem zlu{P:Program}{w:World}{K:W.Frag}{tg:Expr}(it:Addr)(lo:Int)(n:Nat):Turn P w K tg (Itr lo n) [it] it (λi h=>IsRangeIter h it (lo + (i:Nat) * 1) ((n:Int) - (i:Nat)) 1) where
 mem:=by simp
 obj:=λi h st b hb=>by
  have e:b=it:=by simpa using hb
  subst e
  exact⟨_,st,λv z=>by
   have z':Data.fields _=Data.cell v:=z
   cases z'⟩
 keep:=λi h h' st k=>k it (by simp) _ st
 item:=by
  intro X hP hw hK hc i pins s σ H E I hf st hg
  subst hP hw hK
  obtain⟨f0,f1,f2,f3,f4,f5⟩:=hf it (by simp)
  have W:=Walks.range (prog:=X.prog) (w:=X.w) (I.ok.hd hc) it lo 1 n
  refine W.item i s _ _ hg st λv h' tk hv st' kk => ?_
  obtain⟨t,rfl⟩:=hv
  have I1:Inv X pins σ H { s with heap:=h',toks:=tk }:=I.turned (λb o hb e=>kk b o (by simpa using hb) e) f0 f1 f3 f4 f5
  refine⟨_,rfl,zn9 (s:={ s with heap:=h',toks:=tk }) (n:="range_iterator") st' rfl rfl (by decide) ⟨.int (lo + i),H,I1,⟨t,?_⟩,⟨rfl,rfl⟩,st',λb hb=>(hf b hb).1⟩⟩
  rw[Int.mul_one]
 done:=by
  intro X hP hw hK hc i pins s σ H E I hf st hg
  subst hP hw hK
  obtain⟨f0,f1,f2,f3,f4,f5⟩:=hf it (by simp)
  exact wpAny_pyNext_range_end (I.ok.hd hc) st (by have:n<=i:=hg;omega) λh' eb=>⟨rfl,I.turned (t':=s.toks) (λb o hb e=>eb b o hb e) f0 f1 f3 f4 f5⟩
 self:=λ_ _ _ _ _ st h=>wpAny_pyIter_rangeiter st h
end L2
namespace L2
open PySem PySem.Spec PyProof.Rows
section
variable{X:Cx}{tg:Expr}
def iList(K:W.Frag)(tl:TE):TI:=λσ H R=>tl σ H λx H1=>∃a,x = .ref a/\(∃xs,SqL K H1 a xs)/\R (Itl K a) H1
def iTup(K:W.Frag)(tl:TE):TI:=λσ H R=>tl σ H λx H1=>∃a,x = .ref a/\(∃xs,SqT K H1 a xs)/\R (Itt K a) H1
theorem zso{l:Expr}{tl:TE}(hl:PE X l tl):PI X tg l (iList X.K tl):=by
 intro pins s σ H R I h
 refine thn (hl pins s σ H _ I h) λv s1 ⟨x,H1,I1,r1,q1⟩ => ?_
 obtain⟨a,e,⟨xs,hq⟩,q⟩:=q1
 subst e
 cases r1
 obtain⟨its,rv,p,hz⟩:=I1.list hq
 refine wpAny_pyIter_list p.isList ?_
 refine⟨s1.heap.objs.size,[s1.heap.objs.size],_,_,H1,rfl,I1.kept (t':=s1.toks) λb o e=>Heap.get?_push_of_some _ e,zmg a _,⟨_,Heap.get?_push_size _ rfl,rfl,rfl⟩,λb hb => ?_,q⟩
 have e:b=s1.heap.objs.size:=by simpa using hb
 subst e
 exact I1.fpOk (Nat.le_refl _) (I1.hok.fresh (Nat.le_refl _))
theorem zt8{l:Expr}{tl:TE}(hl:PE X l tl):PI X tg l (iTup X.K tl):=by
 intro pins s σ H R I h
 refine thn (hl pins s σ H _ I h) λv s1 ⟨x,H1,I1,r1,q1⟩ => ?_
 obtain⟨a,e,⟨xs,hq⟩,q⟩:=q1
 subst e
 cases r1
 obtain⟨its,rv,p,hz⟩:=I1.tuple hq
 refine wpAny_pyIter_tuple (show s1.heap.IsTuple a its.toArray from p) ?_
 refine⟨s1.heap.objs.size,[s1.heap.objs.size],_,_,H1,rfl,I1.kept (t':=s1.toks) λb o e=>Heap.get?_push_of_some _ e,zlf a _,⟨_,Heap.get?_push_size _ rfl,rfl,rfl⟩,λb hb => ?_,q⟩
 have e:b=s1.heap.objs.size:=by simpa using hb
 subst e
 exact I1.fpOk (Nat.le_refl _) (I1.hok.fresh (Nat.le_refl _))
theorem zla{pins:List (Addr×Obj)}{σ : St}{H:Hp}{s:Shared}{R:It->Hp->Prop}{E:Value->Shared->Prop}{lo hi:Int}{t u v:Tok}{tk:Nat}(I:Inv X pins σ H s)(h1 : -(2 ^ 62)<=lo)(h2:lo < 2 ^ 62)(h3 : -(2 ^ 62)<=hi)(h4:hi < 2 ^ 62)
  (q:R (Itr lo (hi - lo).toNat) H):wpAny (model X.prog X.w) X.A (pyIter (.ref s.heap.objs.size)) (PIE X pins σ tg R) E { s with heap:=s.heap.push { cls := .type "range",data := .fields #[.int lo t,.int hi u,.int 1 v] },toks:=tk }:=by
 refine wpAny_pyIter_range (IsRange.new ..) (small_one h1 h2 h3 h4) ?_
 have I1:Inv X pins σ H { s with heap:=s.heap.push { cls := .type "range",data := .fields #[.int lo t,.int hi u,.int 1 v] },toks:=tk }:=I.kept λb o e=>Heap.get?_push_of_some _ e
 refine⟨(s.heap.push { cls := .type "range",data := .fields #[.int lo t,.int hi u,.int 1 v] }).objs.size,[(s.heap.push { cls := .type "range",data := .fields #[.int lo t,.int hi u,.int 1 v] }).objs.size],_,_,H,rfl,
  I1.kept (t':=tk) λb o e=>Heap.get?_push_of_some _ e,zlu _ lo (hi - lo).toNat,?_,λb hb => ?_,q⟩
 ·have e1:lo + ((0:Nat):Int) * 1=lo:=by simp
  have e2:(((hi - lo).toNat:Nat):Int) - ((0:Nat):Int)=Builtin.Range.rangeSize lo hi 1:=by rw[rangeSize_one];split <;> omega
  show IsRangeIter _ _ (lo + ((0:Nat):Int) * 1) ((((hi - lo).toNat:Nat):Int) - ((0:Nat):Int)) 1
  rw[e1,e2]
  exact Heap.get?_push_size _ rfl
 ·have e:b=(s.heap.push { cls := .type "range",data := .fields #[.int lo t,.int hi u,.int 1 v] }).objs.size:=by simpa using hb
  subst e
  exact I1.fpOk (Nat.le_refl _) (I1.hok.fresh (Nat.le_refl _))
def iRng1(ta:TA):TI:=λσ H R=>ta σ H λvs H1=>∃j:Int,vs=[.int j]/\-(2 ^ 62)<=j/\j < 2 ^ 62/\R (Itr 0 j.toNat) H1
def iRng2(ta:TA):TI:=λσ H R=>ta σ H λvs H1=>∃i j:Int,vs=[.int i,.int j]/\(-(2 ^ 62)<=i/\i < 2 ^ 62/\-(2 ^ 62)<=j/\j < 2 ^ 62)/\R (Itr i (j - i).toNat) H1
theorem zev{a:Expr}{ta:TA}{p pos:Pos}(hg:Gl X "range")(hm:X.mg "range" = none)(ha:PA X [a] ta)(hs:starEach [a] X.env=[(false,eval a X.env)]:=by rfl):PI X tg (.Call (.Name "range" p) [a] [] pos) (iRng1 ta):=by
 intro pins s σ H R I h
 refine Call_ (zfp I hg hm boot_range (PyProof.Rows.callWith_type1 (thn (ha pos pins s σ H _ I h) λus s1 ⟨vs,H1,I1,r1,q1⟩ => ?_) hs rfl))
 obtain⟨j,e,q1,q2,q⟩:=q1
 subst e
 cases r1 with
 | cons r rr=>
  cases rr
  obtain⟨t,rfl⟩:=r
  exact call_range_1 (zla I1 (by omega) (by omega) q1 q2 (by simpa using q))
theorem zmu{a b:Expr}{ta:TA}{p pos:Pos}(hg:Gl X "range")(hm:X.mg "range" = none)(ha:PA X [a,b] ta)(hs:starEach [a,b] X.env=[(false,eval a X.env),(false,eval b X.env)]:=by rfl)(hs2:starEach [b] X.env=[(false,eval b X.env)]:=by rfl) :
  PI X tg (.Call (.Name "range" p) [a,b] [] pos) (iRng2 ta):=by
 intro pins s σ H R I h
 refine Call_ (zfp I hg hm boot_range (PyProof.Rows.callWith_type1 (thn (ha pos pins s σ H _ I h) λus s1 ⟨vs,H1,I1,r1,q1⟩ => ?_) (by rw[hs,hs2]) (by rw[hs2];rfl)))
 obtain⟨i,j,e,⟨q1,q2,q3,q4⟩,q⟩:=q1
 subst e
 cases r1 with
 | cons r rr=>
  cases rr with
  | cons r' rr=>
   cases rr
   obtain⟨t,rfl⟩:=r
   obtain⟨t',rfl⟩:=r'
   exact call_range_2 (zla I1 q1 q2 q3 q4 q)
def tFor(wi:TI)(g:TG)(tb:TS):TS:=λD σ H=>wi σ H λJ H1=>∃W:Nat->Nat->St->Hp->Prop,(∃m,W 0 m σ H1)/\∀i m σ H,W i m σ H ->
 (J.stop i H/\D.nx σ H)\/(J.go i H/\∃N:St->Hp->Prop,(∀σ' H',N σ' H'->∃m',m' < m/\W (i + 1) m' σ' H')/\∀x H',J.yld i H x H'->g x σ H' λσ2 H2=>tb { D with nx:=N,ct:=N,bk:=D.nx } σ2 H2)
def pinsAt(fp:List Addr)(h:Heap):List (Addr×Obj):=fp.filterMap λb=>(h.get? b).map λo=>(b,o)
theorem zd7{fp:List Addr}{h:Heap}{b:Addr}{o:Obj}(hb:b∈fp)(e:h.get? b=some o):(b,o)∈pinsAt fp h:=List.mem_filterMap.mpr ⟨b,hb,by rw[e];rfl⟩
theorem znf{fp:List Addr}{h:Heap}{p:Addr×Obj}(hp:p∈pinsAt fp h):p.1∈fp/\h.get? p.1=some p.2:=by
 obtain⟨b,hb,e⟩:=List.mem_filterMap.mp hp
 cases q:h.get? b with
 | none=>rw[q]at e;cases e
 | some o=>
  rw[q]at e
  have e':(b,o)=p:=Option.some.inj e
  subst e'
  exact⟨hb,q⟩
theorem Inv.pinned{pins:List (Addr×Obj)}{σ : St}{H:Hp}{s:Shared}{fp:List Addr}(I:Inv X pins σ H s)(hf:∀b∈fp,FpOk X pins H b)(ho:∀b∈fp,∃o,s.heap.get? b=some o/\∀v,o.data≠.cell v):Inv X (pins ++ pinsAt fp s.heap) σ H s:=
 I.pins_of λp hp=>(List.mem_append.mp hp).elim (λz=>I.pin p (List.mem_append_right _ z)) λz=>by
  obtain⟨hb,e⟩:=znf z
  obtain⟨f0,f1,f2,_⟩:=hf p.1 hb
  obtain⟨o,e',d⟩:=ho p.1 hb
  rw[e]at e';cases e'
  exact⟨e,f0,f1,f2,d⟩
theorem Inv.unpinned{pins pl:List (Addr×Obj)}{σ : St}{H:Hp}{s:Shared}(I:Inv X (pins ++ pl) σ H s):Inv X pins σ H s:=I.pins_of λp hp=>I.pin p (List.mem_append_right _ (List.mem_append_left _ hp))
theorem zf4{iter:Expr}{body:List Stmt}{wi:TI}{g:TG}{tb:TS}{pos:Pos}(hp:PassesOwn (model X.prog X.w) X.A X.env X.xe)(hc:X.calm=true)(hi:PI X tg iter wi)(hg:PG X tg g)(hb:PSs X body tb)
  (hs:∀x,foldedSetIterable iter X.env x=pure x:=by intro _;rfl):PS X (.For tg iter body [] pos) (tFor wi g tb):=by
 intro pins s σ H D I h
 refine wpAny_For (thn (hi pins s σ H _ I h) λv s1 h1=>thn h1 λitv s2 h2 => ?_) hs
 obtain⟨it,fp,tn,J,H2,e,I2,T,st2,f2,W,⟨m0,w0⟩,turn⟩:=h2
 subst e
 -- what stays true of the iterator's objects through the loop
 have stat:∀{H':Hp},(∀b∈fp,H' b=none)->∀b∈fp,FpOk X pins H' b:=λhn b hb=>⟨hn b hb,(f2 b hb).2⟩
 refine codeAny_forLoop_any (λn s'=>∃i σ' H',Inv X pins σ' H' s'/\tn i s'.heap/\(∀b∈fp,H' b=none)/\W i n σ' H') ?_ m0 ⟨0,σ,H2,I2,st2,λb hb=>(f2 b hb).1,w0⟩
 rintro n s3 ⟨i,σ3,H3,I3,st3,fr3,w3⟩
 rcases turn i n σ3 H3 w3 with⟨stop,qn⟩ | ⟨go,N,hN,step⟩
 ·refine wpAny_passesOwn hp (thn (T.done X rfl rfl rfl hc i pins s3 σ3 H3 X.xe I3 (stat fr3) st3 stop) λr s4 ⟨hr,I4⟩ => ?_)
  subst hr
  exact wpAny_execs_nil ⟨σ3,H3,I4,qn⟩
 ·refine wpAny_passesOwn hp (thn (T.item X rfl rfl rfl hc i pins s3 σ3 H3 X.xe I3 (stat fr3) st3 go) λr s4 ⟨u,hr,h4⟩ => ?_)
  subst hr
  refine wpAny_passesOwn hp (thn h4 λ_ s5 ⟨x,H5,I5,r5,y5,st5,fr5⟩ => ?_)
  have I5':=I5.pinned (stat fr5) (T.obj _ _ st5)
  refine wpAny_passesOwn hp (thn (hg _ s5 σ3 H5 x u _ I5' r5 (step x H5 y5)) λ_ s6 ⟨σ6,H6,I6,q6⟩ => ?_)
  refine wpAny_passesOwn hp (thn (hb _ s6 σ6 H6 _ I6 q6) λf s7 q7 => ?_)
  have again:∀{σ7:St} {H7:Hp},Inv X (pins ++ pinsAt fp s5.heap) σ7 H7 s7->N σ7 H7->∃m,m < n/\∃i σ' H',Inv X pins σ' H' s7/\tn i s7.heap/\(∀b∈fp,H' b=none)/\W i m σ' H':=fun{σ7 H7} I7 n7=>by
   obtain⟨m',hm,w7⟩:=hN σ7 H7 n7
   refine⟨m',hm,i + 1,σ7,H7,I7.unpinned,T.keep _ _ _ st5 λb hb o e=>(I7.pin (b,o) (List.mem_append_right _ (List.mem_append_right _ (zd7 hb e)))).1,λb hb => ?_,w7⟩
   obtain⟨o,e,d⟩:=T.obj _ _ st5 b hb
   exact(I7.pin (b,o) (List.mem_append_right _ (List.mem_append_right _ (zd7 hb e)))).2.1
  cases f with
  | next=>obtain⟨σ7,H7,I7,n7⟩:=q7;exact again I7 n7
  | cont=>obtain⟨σ7,H7,I7,n7⟩:=q7;exact again I7 n7
  | brk=>obtain⟨σ7,H7,I7,q7⟩:=q7;exact⟨σ7,H7,I7.unpinned,q7⟩
  | ret v=>obtain⟨x7,σ7,H7,I7,r7,q7⟩:=q7;exact⟨x7,σ7,H7,I7.unpinned,r7,q7⟩
end
theorem zoq{K:W.Frag}{a:Addr}{xs:List V}{g:TG}{tb:TS}{D:Ends}{σ : St}{H:Hp}(Pv:Nat->St->Hp->Prop)(h0:Pv 0 σ H)(hl:∀i σ H,i<=xs.length->Pv i σ H->SqL K H a xs)
  (hs:∀i x σ H,xs[i]? = some x->Pv i σ H->g x σ H λσ2 H2=>tb { D with nx:=Pv (i + 1),ct:=Pv (i + 1),bk:=D.nx } σ2 H2) (hd:∀σ H,Pv xs.length σ H->D.nx σ H) :
  ∃W:Nat->Nat->St->Hp->Prop,(∃m,W 0 m σ H)/\∀i m σ H,W i m σ H ->
   ((Itl K a).stop i H/\D.nx σ H)\/((Itl K a).go i H/\∃N:St->Hp->Prop,(∀σ' H',N σ' H'->∃m',m' < m/\W (i + 1) m' σ' H')/\∀x H',(Itl K a).yld i H x H'->g x σ H' λσ2 H2=>tb { D with nx:=N,ct:=N,bk:=D.nx } σ2 H2):=by
 refine⟨λi m σ H=>m=xs.length - i/\i<=xs.length/\Pv i σ H,⟨xs.length,by simp,Nat.zero_le _,h0⟩,?_⟩
 rintro i m σ H ⟨rfl,hi,p⟩
 have q:=hl i σ H hi p
 by_cases hlt:i < xs.length
 ·refine .inr ⟨⟨xs,xs[i],q,by simp[hlt]⟩,Pv (i + 1),λσ' H' p'=>⟨xs.length - (i + 1),by omega,rfl,hlt,p'⟩,λx H' y => ?_⟩
  obtain⟨e,y⟩:=y
  subst e
  exact hs i x σ _ (y xs q) p
 ·have e:i=xs.length:=by omega
  subst e
  exact .inl ⟨⟨xs,q,Nat.le_refl _⟩,hd σ H p⟩
theorem zjg{lo:Int}{n:Nat}{g:TG}{tb:TS}{D:Ends}{σ : St}{H:Hp}(Pv:Nat->St->Hp->Prop)(h0:Pv 0 σ H)
  (hs:∀i σ H,i < n->Pv i σ H->g (.int (lo + i)) σ H λσ2 H2=>tb { D with nx:=Pv (i + 1),ct:=Pv (i + 1),bk:=D.nx } σ2 H2) (hd:∀σ H,Pv n σ H->D.nx σ H) :
  ∃W:Nat->Nat->St->Hp->Prop,(∃m,W 0 m σ H)/\∀i m σ H,W i m σ H ->
   ((Itr lo n).stop i H/\D.nx σ H)\/((Itr lo n).go i H/\∃N:St->Hp->Prop,(∀σ' H',N σ' H'->∃m',m' < m/\W (i + 1) m' σ' H')/\∀x H',(Itr lo n).yld i H x H'->g x σ H' λσ2 H2=>tb { D with nx:=N,ct:=N,bk:=D.nx } σ2 H2):=by
 refine⟨λi m σ H=>m=n - i/\i<=n/\Pv i σ H,⟨n,by simp,Nat.zero_le _,h0⟩,?_⟩
 rintro i m σ H ⟨rfl,hi,p⟩
 by_cases hlt:i < n
 ·refine .inr ⟨hlt,Pv (i + 1),λσ' H' p'=>⟨n - (i + 1),by omega,rfl,hlt,p'⟩,λx H' y => ?_⟩
  obtain⟨e,y⟩:=y
  subst e y
  exact hs i σ _ hlt p
 ·have e:i=n:=by omega
  subst e
  exact .inl ⟨Nat.le_refl _,hd σ H p⟩
end L2
namespace L2
open PySem PySem.Spec PyProof.Rows
abbrev R2:=V->V->Hp->VK->Prop
def OpR(X:Cx)(f:Value->Value->Sem Value)(r:R2):Prop:=
 ∀(pins:List (Addr×Obj)) (s:Shared) (σ : St) (H:Hp) (x y:V) (v u:Value) (Q:VK),Inv X pins σ H s->RelV x v->RelV y u->r x y H Q ->
  wpAny (model X.prog X.w) X.A (f v u) (EP X pins σ Q) X.xe s
def UnR(X:Cx)(f:Value->Sem Value)(r:V->Hp->VK->Prop):Prop:=
 ∀(pins:List (Addr×Obj)) (s:Shared) (σ : St) (H:Hp) (x:V) (v:Value) (Q:VK),Inv X pins σ H s->RelV x v->r x H Q ->
  wpAny (model X.prog X.w) X.A (f v) (EP X pins σ Q) X.xe s
def CallR(X:Cx)(f:Value)(r:List V->Hp->VK->Prop):Prop:=
 ∀(pins:List (Addr×Obj)) (s:Shared) (σ : St) (H:Hp) (xs:List V) (us:List Value) (Q:VK),Inv X pins σ H s->Vals xs us->r xs H Q ->
  wpAny (model X.prog X.w) X.A (call f us) (EP X pins σ Q) X.xe s
def tOp(r:R2)(ta tb:TE):TE:=λσ H Q=>ta σ H λx H1=>tb σ H1 λy H2=>r x y H2 Q
def tUn(r:V->Hp->VK->Prop)(ta:TE):TE:=λσ H Q=>ta σ H λx H1=>r x H1 Q
def rI(C:Int->Int->Prop)(g:Int->Int->V):R2:=λx y H Q=>∃i j,x = .int i/\y = .int j/\C i j/\Q (g i j) H
def rI0(g:Int->Int->V):R2:=λx y H Q=>∃i j,x = .int i/\y = .int j/\Q (g i j) H
def rU(g:Int->V):V->Hp->VK->Prop:=λx H Q=>∃i,x = .int i/\Q (g i) H
section
variable{X:Cx}{a b c:Expr}{ta tb tc:TE}{pos:Pos}
theorem binT(ha:PE X a ta)(hb:PE X b tb){pins:List (Addr×Obj)}{s:Shared}{σ : St}{H:Hp}{R:V->V->Hp->Prop}(I:Inv X pins σ H s)
  (h:ta σ H λx H1=>tb σ H1 λy H2=>R x y H2) {Q:Value->Shared->Prop} {f:Value->Value->Sem Value}
  (hf:∀v u s2 x y H2,Inv X pins σ H2 s2->RelV x v->RelV y u->R x y H2->wpAny (model X.prog X.w) X.A (f v u) Q X.xe s2) :
  wpAny (model X.prog X.w) X.A (eval a X.env) (λv s₁=>wpAny (model X.prog X.w) X.A (eval b X.env) (λu s₂=>wpAny (model X.prog X.w) X.A (f v u) Q X.xe s₂) X.xe s₁) X.xe s:=by
 refine thn (ha pins s σ H _ I h) λv s1 ⟨x,H1,I1,r1,q1⟩ => ?_
 refine thn (hb pins s1 σ H1 _ I1 q1) λu s2 ⟨y,H2,I2,r2,q2⟩ => ?_
 exact hf v u s2 x y H2 I2 r1 r2 q2
theorem zaw{op:Operator}{r:R2}(ho:OpR X (binaryOp op) r)(ha:PE X a ta)(hb:PE X b tb):PE X (.BinOp a op b pos) (tOp r ta tb):=by
 intro pins s σ H Q I h
 exact wpAny_BinOp (binT ha hb I h λv u s2 x y H2 I2 rx ry q=>ho pins s2 σ H2 x y v u Q I2 rx ry q)
theorem zlh{op:UnaryOp}{r:V->Hp->VK->Prop}(ho:UnR X (unaryOp op) r)(ha:PE X a ta):PE X (.UnaryOp op a pos) (tUn r ta):=by
 intro pins s σ H Q I h
 exact UnaryOp_ (thn (ha pins s σ H _ I h) λv s1 ⟨x,H1,I1,r1,q1⟩=>ho pins s1 σ H1 x v Q I1 r1 q1)
theorem opI{f:Value->Value->Sem Value}{C:Int->Int->Prop}{g:Int->Int->Int}
  (rule:∀(i j:Int) (t u:Tok) (s:Shared) (Q:Value->Shared->Prop) (E:Value->Shared->Prop),C i j->Q (.int (g i j) s.toks) { s with toks:=s.toks + 1 }->wpAny (model X.prog X.w) X.A (f (.int i t) (.int j u)) Q E s) :
  OpR X f (rI C λi j => .int (g i j)):=by
 intro pins s σ H x y v u Q I rx ry h
 obtain⟨i,j,rfl,rfl,hc,q⟩:=h
 obtain⟨t,rfl⟩:=rx
 obtain⟨t',rfl⟩:=ry
 exact rule i j t t' s _ _ hc ⟨.int (g i j),H,I.tok _,⟨_,rfl⟩,q⟩
theorem opI0{f:Value->Value->Sem Value}{g:Int->Int->Int}
  (rule:∀(i j:Int) (t u:Tok) (s:Shared) (Q:Value->Shared->Prop) (E:Value->Shared->Prop),Q (.int (g i j) s.toks) { s with toks:=s.toks + 1 }->wpAny (model X.prog X.w) X.A (f (.int i t) (.int j u)) Q E s) :
  OpR X f (rI0 λi j => .int (g i j)):=by
 intro pins s σ H x y v u Q I rx ry h
 obtain⟨i,j,rfl,rfl,q⟩:=h
 obtain⟨t,rfl⟩:=rx
 obtain⟨t',rfl⟩:=ry
 exact rule i j t t' s _ _ ⟨.int (g i j),H,I.tok _,⟨_,rfl⟩,q⟩
theorem opB0{f:Value->Value->Sem Value}{g:Int->Int->Bool}
  (rule:∀(i j:Int) (t u:Tok) (s:Shared) (Q:Value->Shared->Prop) (E:Value->Shared->Prop),Q (.bool (g i j)) s->wpAny (model X.prog X.w) X.A (f (.int i t) (.int j u)) Q E s) :
  OpR X f (rI0 λi j => .bl (g i j)):=by
 intro pins s σ H x y v u Q I rx ry h
 obtain⟨i,j,rfl,rfl,q⟩:=h
 obtain⟨t,rfl⟩:=rx
 obtain⟨t',rfl⟩:=ry
 exact rule i j t t' s _ _ ⟨.bl (g i j),H,I,rfl,q⟩
def CDiv(i j:Int):Prop:=0 < j/\j < 1073741824
def CDivN(i j:Int):Prop:=j≠0/\j.natAbs < 1073741824
def CPow(i j:Int):Prop:=0<=j/\j<=1000000/\i.natAbs < 2 ^ 64
def CMul(i j:Int):Prop:=(-(2 ^ 64) < i/\i < 2 ^ 64)\/(-(2 ^ 64) < j/\j < 2 ^ 64)
theorem CMul.ok{i j:Int}(h:CMul i j):IntMulOk i j:=by
 rcases h with⟨h1,h2⟩ | ⟨h1,h2⟩
 ·exact .of_left (intBits_le_64 h1 h2)
 ·exact .of_right (intBits_le_64 h1 h2)
theorem zdw:OpR X (binaryOp .Add) (rI0 λi j => .int (i + j)):=opI0 λ_ _ _ _ _ _ _ q=>add_int q
theorem ziy:OpR X (binaryOp .Sub) (rI0 λi j => .int (i - j)):=opI0 λ_ _ _ _ _ _ _ q=>sub_int q
theorem zhj:OpR X (binaryOp .Mult) (rI CMul λi j => .int (i * j)):=opI λ_ _ _ _ _ _ _ hc q=>mul_int q hc.ok
theorem zee:OpR X (binaryOp .FloorDiv) (rI CDiv λi j => .int (i / j)):=opI λi j _ _ _ _ _ hc q=>by
 have h1:(0:Int) < j:=hc.1
 have h2:j < 1073741824:=hc.2
 exact floordiv_int (by omega) (by rw[Int.fdiv_eq_ediv_of_nonneg i (by omega)];exact q) (.inl (PyProof.noPylong_small (by omega)))
theorem zoy:OpR X (binaryOp .FloorDiv) (rI CDivN λi j => .int (i.fdiv j)):=opI λ_ _ _ _ _ _ _ hc q=>floordiv_int hc.1 q (.inl (PyProof.noPylong_small hc.2))
theorem zcu:OpR X (binaryOp .Mod) (rI (λ_ j=>0 < j) λi j => .int (i % j)):=opI λi j _ _ _ _ _ hc q=>by
 have h1:(0:Int) < j:=hc
 exact mod_int' (by omega) (by rw[Int.fmod_eq_emod_of_nonneg i (by omega)];exact q)
theorem zgp:OpR X (binaryOp .Mod) (rI (λ_ j=>j≠0) λi j => .int (i.fmod j)):=opI λ_ _ _ _ _ _ _ hc q=>mod_int' hc q
theorem zvh:OpR X (binaryOp .Pow) (rI CPow λi j => .int (i ^ j.toNat)):=opI λ_ _ _ _ _ _ _ hc q=>pow_int_small hc.1 hc.2.1 hc.2.2 q
theorem unI{f:Value->Sem Value}{g:Int->Int}
  (rule:∀(i:Int) (t:Tok) (s:Shared) (Q:Value->Shared->Prop) (E:Value->Shared->Prop),Q (.int (g i) s.toks) { s with toks:=s.toks + 1 }->wpAny (model X.prog X.w) X.A (f (.int i t)) Q E s) :
  UnR X f (rU λi => .int (g i)):=by
 intro pins s σ H x v Q I rx h
 obtain⟨i,rfl,q⟩:=h
 obtain⟨t,rfl⟩:=rx
 exact rule i t s _ _ ⟨.int (g i),H,I.tok _,⟨_,rfl⟩,q⟩
theorem zha:UnR X (unaryOp .USub) (rU λi => .int (-i)):=unI λ_ _ _ _ _ q=>neg_int q
end
def scal:V->V->Bool
 | .non,.non=>true | .non,.int _=>true | .int _,.non=>true | .non,.bl _=>true | .bl _,.non=>true | .non,.str _=>true | .str _,.non=>true
 | .int _,.int _=>true | .bl _,.bl _=>true | .str _,.str _=>true | .byt _,.byt _=>true
 | .int _,.str _=>true | .str _,.int _=>true | .bl _,.str _=>true | .str _,.bl _=>true
 | _,_=>false
def rEq:R2:=λx y H Q=>scal x y=true/\Q (.bl (decide (x=y))) H
def rNe:R2:=λx y H Q=>scal x y=true/\Q (.bl (!decide (x=y))) H
theorem zh5{i j:Int}:decide (V.int i=V.int j)=(i == j):=by
 rw[Bool.eq_iff_iff]
 simp
theorem zq9{i j:Bool}:decide (V.bl i=V.bl j)=(i == j):=by
 rw[Bool.eq_iff_iff]
 simp
theorem znn{i j:Str}:decide (V.str i=V.str j)=(i == j):=by
 rw[Bool.eq_iff_iff]
 simp
theorem zn8{i j:Array UInt8}:decide (V.byt i=V.byt j)=(i.toList == j.toList):=by
 rw[Bool.eq_iff_iff]
 cases i
 cases j
 simp
section
variable{X:Cx}{a b c:Expr}{ta tb tc:TE}{pos:Pos}
theorem zbe{pins:List (Addr×Obj)}{σ : St}{H:Hp}{s:Shared}{Q:VK}{k k':Bool}(I:Inv X pins σ H s)(q:Q (.bl k) H)(e:k=k'):EP X pins σ Q (.bool k') s:=by
 subst e
 exact⟨.bl k,H,I,rfl,q⟩
theorem zed:OpR X (compareOp .Eq) rEq:=by
 intro pins s σ H x y v u Q I rx ry h
 obtain⟨hs,q⟩:=h
 cases x with
 | non=>
  cases rx
  cases y with
  | non=>cases ry;exact PySem.EqNone.eq_none_none (zbe I q (by simp))
  | bl j=>cases ry;exact PySem.EqNone.eq_none_bool (zbe I q (by simp))
  | int j=>obtain⟨t',rfl⟩:=ry;exact PySem.EqNone.eq_none_int (zbe I q (by simp))
  | str j=>obtain⟨t',rfl⟩:=ry;exact PySem.EqNone.eq_none_str (zbe I q (by simp))
  | _=>exact absurd (show false=true from hs) Bool.false_ne_true
 | bl i=>
  cases rx
  cases y with
  | non=>cases ry;exact PySem.EqNone.eq_bool_none (zbe I q (by simp))
  | bl j=>cases ry;exact eq_bool (zbe I q zq9)
  | str j=>obtain⟨t',rfl⟩:=ry;exact PySem.EqMixed.eq_bool_str (zbe I q (by simp))
  | _=>exact absurd (show false=true from hs) Bool.false_ne_true
 | int i=>
  obtain⟨t,rfl⟩:=rx
  cases y with
  | non=>cases ry;exact PySem.EqNone.eq_int_none (zbe I q (by simp))
  | int j=>obtain⟨t',rfl⟩:=ry;exact eq_int (zbe I q zh5)
  | str j=>obtain⟨t',rfl⟩:=ry;exact PySem.EqMixed.eq_int_str (zbe I q (by simp))
  | _=>exact absurd (show false=true from hs) Bool.false_ne_true
 | str i=>
  obtain⟨t,rfl⟩:=rx
  cases y with
  | non=>cases ry;exact PySem.EqNone.eq_str_none (zbe I q (by simp))
  | bl j=>cases ry;exact PySem.EqMixed.eq_str_bool (zbe I q (by simp))
  | int j=>obtain⟨t',rfl⟩:=ry;exact PySem.EqMixed.eq_str_int (zbe I q (by simp))
  | str j=>obtain⟨t',rfl⟩:=ry;exact eq_str (zbe I q znn)
  | _=>exact absurd (show false=true from hs) Bool.false_ne_true
 | byt i=>
  obtain⟨t,rfl⟩:=rx
  cases y with
  | byt j=>obtain⟨t',rfl⟩:=ry;exact W.eq_bytes (zbe I q zn8)
  | _=>exact absurd (show false=true from hs) Bool.false_ne_true
 | _=>cases y <;> exact absurd (show false=true from hs) Bool.false_ne_true
theorem zid:OpR X (compareOp .NotEq) rNe:=by
 intro pins s σ H x y v u Q I rx ry h
 obtain⟨hs,q⟩:=h
 cases x with
 | non=>
  cases rx
  cases y with
  | non=>cases ry;exact PySem.EqNone.ne_none_none (zbe I q (by simp))
  | bl j=>cases ry;exact PySem.EqNone.ne_none_bool (zbe I q (by simp))
  | int j=>obtain⟨t',rfl⟩:=ry;exact PySem.EqNone.ne_none_int (zbe I q (by simp))
  | str j=>obtain⟨t',rfl⟩:=ry;exact PySem.EqNone.ne_none_str (zbe I q (by simp))
  | _=>exact absurd (show false=true from hs) Bool.false_ne_true
 | bl i=>
  cases rx
  cases y with
  | non=>cases ry;exact PySem.EqNone.ne_bool_none (zbe I q (by simp))
  | bl j=>cases ry;exact ne_bool (zbe I q (congrArg not zq9))
  | str j=>obtain⟨t',rfl⟩:=ry;exact PySem.EqMixed.ne_bool_str (zbe I q (by simp))
  | _=>exact absurd (show false=true from hs) Bool.false_ne_true
 | int i=>
  obtain⟨t,rfl⟩:=rx
  cases y with
  | non=>cases ry;exact PySem.EqNone.ne_int_none (zbe I q (by simp))
  | int j=>obtain⟨t',rfl⟩:=ry;exact ne_int (zbe I q (congrArg not zh5))
  | str j=>obtain⟨t',rfl⟩:=ry;exact PySem.EqMixed.ne_int_str (zbe I q (by simp))
  | _=>exact absurd (show false=true from hs) Bool.false_ne_true
 | str i=>
  obtain⟨t,rfl⟩:=rx
  cases y with
  | non=>cases ry;exact PySem.EqNone.ne_str_none (zbe I q (by simp))
  | bl j=>cases ry;exact PySem.EqMixed.ne_str_bool (zbe I q (by simp))
  | int j=>obtain⟨t',rfl⟩:=ry;exact PySem.EqMixed.ne_str_int (zbe I q (by simp))
  | str j=>obtain⟨t',rfl⟩:=ry;exact ne_str (zbe I q (congrArg not znn))
  | _=>exact absurd (show false=true from hs) Bool.false_ne_true
 | byt i=>
  obtain⟨t,rfl⟩:=rx
  cases y with
  | byt j=>obtain⟨t',rfl⟩:=ry;exact W.ne_bytes (zbe I q (congrArg not zn8))
  | _=>exact absurd (show false=true from hs) Bool.false_ne_true
 | _=>cases y <;> exact absurd (show false=true from hs) Bool.false_ne_true
theorem zg7:OpR X (compareOp .Lt) (rI0 λi j => .bl (decide (i < j))):=opB0 λ_ _ _ _ _ _ _ q=>lt_int q
theorem zuo:OpR X (compareOp .LtE) (rI0 λi j => .bl (decide (i<=j))):=opB0 λ_ _ _ _ _ _ _ q=>le_int q
theorem zg4:OpR X (compareOp .Gt) (rI0 λi j => .bl (decide (j < i))):=opB0 λ_ _ _ _ _ _ _ q=>gt_int q
theorem zt6:OpR X (compareOp .Is) (λx y H Q=>y = .non/\Q (.bl (decide (x = .non))) H):=by
 intro pins s σ H x y v u Q I rx ry h
 obtain⟨rfl,q⟩:=h
 cases ry
 refine is_none_gen (zbe I q ?_)
 cases x <;> first
  | (cases rx;rfl)
  | (obtain⟨t,rfl⟩:=rx;rfl)
theorem nomark(b:Expr){op:CmpOp}(h:op≠.In:=by decide)(h2:op≠.NotIn:=by decide):behindInMarks op b=false:=by
 have e1:(op == CmpOp.In)=false:=by cases op <;> first | rfl | exact absurd rfl h
 have e2:(op == CmpOp.NotIn)=false:=by cases op <;> first | rfl | exact absurd rfl h2
 cases b <;> simp[behindInMarks,e1,e2]
theorem zd3{op:CmpOp}{r:R2}(ho:OpR X (compareOp op) r)(ha:PE X a ta)(hb:PE X b tb)(hm:behindInMarks op b=false):PE X (.Compare a [op] [b] pos) (tOp r ta tb):=by
 intro pins s σ H Q I h
 exact wpAny_Compare1 (binT ha hb I h λv u s2 x y H2 I2 rx ry q=>ho pins s2 σ H2 x y v u Q I2 rx ry q) hm
def tTest(t:TE):TT:=λσ H Q=>t σ H λx H'=>∃k,x = .bl k/\Q k H'
theorem zat{op:CmpOp}{r:R2}(ho:OpR X (compareOp op) r)(ha:PE X a ta)(hb:PE X b tb)(hm:behindInMarks op b=false):PT X (.Compare a [op] [b] pos) (tTest (tOp r ta tb)):=by
 intro pins s σ H Q I h
 refine wpAny_isTrue_Compare1 (thn (ha pins s σ H _ I h) λv s1 ⟨x,H1,I1,r1,q1⟩=>thn (hb pins s1 σ H1 _ I1 q1) λu s2 ⟨y,H2,I2,r2,q2⟩=>
  thn (ho pins s2 σ H2 x y v u _ I2 r1 r2 q2) λc s3 ⟨z,H3,I3,r3,k,e,q3⟩ => ?_) hm
 subst e
 cases r3
 exact wpAny_truthy_bool ⟨H3,I3,q3⟩
def tChain(r r':R2)(ta tb tc:TE):TE:=λσ H Q=>ta σ H λx H1=>tb σ H1 λy H2=>r x y H2 λz H3=>∃k,z = .bl k /\
 (if k=true then tc σ H3 λw' H4=>r' y w' H4 Q else Q (.bl false) H3)
theorem zpj{op op':CmpOp}{r r':R2}(ho:OpR X (compareOp op) r)(ho':OpR X (compareOp op') r')(ha:PE X a ta)(hb:PE X b tb)(hc:PE X c tc)
  (hm:lastMarks [op,op'] [b,c]=false:=by with_unfolding_all rfl):PE X (.Compare a [op,op'] [b,c] pos) (tChain r r' ta tb tc):=by
 intro pins s σ H Q I h
 refine Compare_chain (thn (ha pins s σ H _ I h) λv s1 ⟨x,H1,I1,r1,q1⟩=>chain_link (thn (hb pins s1 σ H1 _ I1 q1) λu s2 ⟨y,H2,I2,r2,q2⟩=>
  thn (ho pins s2 σ H2 x y v u _ I2 r1 r2 q2) λd s3 ⟨z,H3,I3,r3,k,e,q3⟩ => ?_)) hm
 subst e
 cases r3
 refine wpAny_truthy_bool ?_
 cases k with
 | false=>exact ite_ff ⟨.bl false,H3,I3,rfl,q3⟩
 | true=>exact ite_tt (chain_last (thn (hc pins s3 σ H3 _ I3 q3) λw' s4 ⟨z',H4,I4,r4,q4⟩=>ho' pins s4 σ H4 y z' u w' Q I4 r2 r4 q4))
theorem line63:(sizeLine:Nat) < 2 ^ 63:=by rw[sizeLine_eq];decide
theorem vals1{x:V}{us:List Value}(r:Vals [x] us):∃u,us=[u]/\RelV x u:=by
 cases r with
 | cons r1 r2=>cases r2;exact⟨_,rfl,r1⟩
theorem ze1:CallR X (.builtin "abs") (λxs H Q=>∃i,xs=[.int i]/\Q (.int (if i < 0 then -i else i)) H):=by
 intro pins s σ H xs us Q I r h
 obtain⟨i,rfl,q⟩:=h
 obtain⟨u,rfl,t,rfl⟩:=vals1 r
 exact call_abs_int λu tk=>⟨.int (if i < 0 then -i else i),H,I.tok _,⟨_,rfl⟩,q⟩
end
end L2
namespace L2
open PySem PySem.Spec PyProof.Rows
structure ObjM(h:Heap)(x dx C:Addr)(mA:Str->Option Value):Prop where
 obj:h.get? x=some (W.instObj C dx)
 ns:h.Ns1 dx mA
 ne:dx≠x
theorem zms{h:Heap}{dx:Addr}{mA:Str->Option Value}(n:h.Ns1 dx mA):∃od,h.get? dx=some od/\∀name,W.lookIn name od=some (mA name):=by
 obtain⟨o,es,ep,ho,hd,hk,_,hm⟩:=n
 refine⟨o,ho,λname => ?_⟩
 have e:=hm name
 unfold nsFind findBy at e
 rw[<- Array.find?_toList]at e
 unfold W.lookIn
 rw[hd]
 dsimp only
 split
 ·rename_i y q
  rw[q]at e
  exact congrArg some e
 ·rename_i q
  rw[q]at e
  have a:es.toList.any (·.refKey)=false:=by
   rw[List.any_eq_false]
   intro y hy
   obtain⟨z,t,hkey⟩:=hk y (Array.mem_toList_iff.mp hy)
   simp[DictEntry.refKey,hkey]
  have a':¬es.toList.any (·.refKey)=true:=by rw[a];exact Bool.false_ne_true
  rw[if_neg a']
  exact congrArg some e
theorem ObjM.look{h:Heap}{x dx C:Addr}{mA:Str->Option Value}(I:ObjM h x dx C mA):∃od,W.InstAt h x (W.instObj C dx) C (some od)/\∀name,W.lookIn name od=some (mA name):=
 let ⟨od,ho,hl⟩:=zms I.ns
 ⟨od,⟨I.obj,rfl,rfl,ho⟩,hl⟩
section
variable{prog:Program}{w:World}{A:Around}{E:Value->Shared->Prop}{s:Shared}{K:W.Frag}{x dx C f:Addr}{mA:Str->Option Value}{name:Str}{v:Value}
theorem zsd{expr:Bool}{Q:Value->Shared->Prop}(X:K.In s.heap)(I:ObjM s.heap x dx C mA)(hg:W.plainGet K C name=true)(hh:W.hasDictIn K C=true)
  (ha:W.findIn K (.ref C) name=some none) (hv:mA name=some v) (hv':W.handedIn v=true) (h:Q v { s with toks:=s.toks + 1 }) :
  wpAny (model prog w) A (getAttr (.ref x) name expr) Q E s:=by
 obtain⟨od,J,hl⟩:=I.look
 exact W.get_value X J (W.plainGet_of hg).1 (W.findObj_own hh ha rfl (by rw[hl,hv])) hv' h
theorem zo0{pl:Sem Bool}{Q:Value×List Value->Shared->Prop}(X:K.In s.heap)(I:ObjM s.heap x dx C mA)(hg:W.plainGet K C name=true)
  (hf:W.findIn K (.ref C) name=some (some (.ref f))) (ht:W.isFn K (.ref f)=true) (hv:mA name=none) (h:Q (.ref f,[.ref x]) s) :
  wpAny (model prog w) A (getMethod (.ref x) name pl) Q E s:=by
 obtain⟨od,J,hl⟩:=I.look
 exact W.method_fn X J (W.plainGet_of hg).1 (W.plainGet_of hg).2 hf (beq_iff_eq.mp ht) (by show (W.lookIn name od).map (·.isSome)=some false;rw[hl,hv];rfl) h
theorem zsh{ns:List Str}{Q:Unit->Shared->Prop}(X:K.In s.heap)(I:ObjM s.heap x dx C mA)
  (hs:W.findIn K (.ref C) "__setattr__" = some (some (.builtin "object.__setattr__"))) (hp:W.plainOver K C=true) (ht:W.takerIn K C name=some none) (hh:W.hasDictIn K C=true)
  (hw:PySem.Within mA ns) (hsz:ns.length<=sizeLine)
  (h:∀h',ObjM h' x dx C (λy=>if y=name then some v else mA y)->Heap.SameBut dx s.heap h'->Q () { s with heap:=h',toks:=s.toks + 2 }) :
  wpAny (model prog w) A (setAttr (.ref x) name v) Q E s:=by
 obtain⟨od,J,hl⟩:=I.look
 refine W.set_plain X J hs (W.osa_open (s:={ s with toks:=s.toks + 1 }) (r:=none) X J hp ht λb => ?_)
 obtain⟨cd,hc,hd'⟩:=W.any_some hh
 have hx:s.heap.get? x=some ⟨.ref C,some dx,.plain,#[]⟩:=I.obj
 refine wpAny_bind (wpAny_pure (wpAny_bind (wpAny_bind (wpAny_loadPart hx (wpAny_bind (W.Looks.here (s:={ s with toks:=s.toks + 1 }) (W.looks_clsIn X hc) ?_))))))
 rw[hd']
 refine wpAny_pure (a:=some dx) (wpAny_bind (wpAny_pure (wpAny_bind ?_)))
 refine wpAny_nsSet1 (s:={ s with toks:=s.toks + 1 }) I.ns λh' hn2 hs2 => ?_
 obtain⟨oD,esD,epD,hoD,hdD,hcD⟩:=hn2.count (PySem.Within.cons name v hw)
 refine wpAny_bind (wpAny_lookBehind hoD (by rw[hdD];exact pastItsLine_dict (Nat.le_trans hcD (by rw[List.length_cons];omega))) ?_)
 exact wpAny_pure (h _ ⟨(hs2.2 _ (Ne.symm I.ne)).trans I.obj,hn2,I.ne⟩ hs2)
theorem zpl{R:Result->Shared->Prop}{vs:List Value}{kw:List (Str×Value)}(X:K.In s.heap)(hm:W.makesIn K C=true)
  (hi:W.findIn K (.ref C) "__init__" = some (some (.ref f))) (hf:W.typeIn K (.ref f)=some (.type "function"))
  (h:codeAny (model prog w) (A.under (.builtin "type.__call__" ⟨.ref C :: vs,kw⟩)) (.call (.ref f) ⟨.ref (s.heap.objs.size + 1) :: vs,kw⟩) (W.InitBack (s.heap.objs.size + 1) R)
   { s with heap:=(s.heap.push W.emptyDict).push (W.instObj C s.heap.objs.size) }) :
  codeAny (model prog w) A (.call (.ref C) ⟨vs,kw⟩) R s:=by
 obtain⟨hh,g,d,t,os⟩:=s
 exact W.make_core (W.makes_of X hm) (W.looks_findIn X hi) (λself=>W.bind_fn X self hf) (.inl rfl) h
theorem znp{R:Result->Shared->Prop}(X:K.In s.heap)(hm:W.makesIn K C=true)
  (hi:W.findIn K (.ref C) "__init__" = some (some (.builtin "object.__init__")))
  (hb:∀self,W.Looks (model prog w) s.heap (bindSpecial (.builtin "object.__init__") self) (.builtin "object.__init__",[self]))
  (h:codeAny (model prog w) (A.under (.builtin "type.__call__" ⟨[.ref C],[]⟩)) (.call (.builtin "object.__init__") ⟨[.ref (s.heap.objs.size + 1)],[]⟩) (W.InitBack (s.heap.objs.size + 1) R)
   { s with heap:=(s.heap.push W.emptyDict).push (W.instObj C s.heap.objs.size) }) :
  codeAny (model prog w) A (.call (.ref C) ⟨[],[]⟩) R s:=by
 obtain⟨hh,g,d,t,os⟩:=s
 exact W.make_core (W.makes_of X hm) (W.looks_findIn X hi) hb (.inr ⟨rfl,rfl⟩) h
end
def putF(f:Str)(v:V):List (Str×V)->List (Str×V)
 | []=>[(f,v)]
 | (g,x) :: r=>if g=f then(g,v) :: r else(g,x) :: putF f v r
theorem zgx(f g:Str)(v:V):∀fs:List (Str×V),(putF f v fs).lookup g=if g=f then some v else fs.lookup g
 | []=>by
  show List.lookup g [(f,v)]=_
  by_cases h:g=f
  ·have hb:(g == f)=true:=beq_iff_eq.mpr h
   simp only[List.lookup,hb,if_pos h]
  ·have hb:(g == f)=false:=beq_eq_false_iff_ne.mpr h
   simp only[List.lookup,hb,if_neg h]
 | (k,x) :: r=>by
  have ih:=zgx f g v r
  rw[show putF f v ((k,x) :: r)=(if k=f then(k,v) :: r else(k,x) :: putF f v r) from rfl]
  by_cases hk:k=f
  ·rw[if_pos hk]
   by_cases h:g=k
   ·have hb:(g == k)=true:=beq_iff_eq.mpr h
    simp only[List.lookup,hb,if_pos (h.trans hk)]
   ·have hb:(g == k)=false:=beq_eq_false_iff_ne.mpr h
    simp only[List.lookup,hb,if_neg (λe:g=f=>h (e.trans hk.symm))]
  ·rw[if_neg hk]
   by_cases h:g=k
   ·have hb:(g == k)=true:=beq_iff_eq.mpr h
    simp only[List.lookup,hb,if_neg (λe:g=f=>hk (h.symm.trans e))]
   ·have hb:(g == k)=false:=beq_eq_false_iff_ne.mpr h
    simp only[List.lookup,hb]
    exact ih
theorem zg0(f:Str)(v:V):∀fs:List (Str×V),f∈(putF f v fs).map (·.1)/\∀g,g∈fs.map (·.1)->g∈(putF f v fs).map (·.1)
 | []=>⟨by simp[putF],λg h=>by simp at h⟩
 | (k,x) :: r=>by
  obtain⟨i1,i2⟩:=zg0 f v r
  rw[show putF f v ((k,x) :: r)=(if k=f then(k,v) :: r else(k,x) :: putF f v r) from rfl]
  by_cases hk:k=f
  ·rw[if_pos hk]
   subst hk
   exact⟨by simp,λg h=>by simpa using h⟩
  ·rw[if_neg hk]
   refine⟨?_,λg h => ?_⟩
   ·rw[List.map_cons]
    exact List.mem_cons_of_mem _ i1
   ·rw[List.map_cons]at h ⊢
    rcases List.mem_cons.mp h with e | e
    ·exact List.mem_cons.mpr (.inl e)
    ·exact List.mem_cons_of_mem _ (i2 g e)
theorem zgw(f:Str)(v:V):∀fs:List (Str×V),(putF f v fs).length<=fs.length + 1
 | []=>by simp[putF]
 | (k,x) :: r=>by
  have ih:=zgw f v r
  rw[show putF f v ((k,x) :: r)=(if k=f then(k,v) :: r else(k,x) :: putF f v r) from rfl]
  by_cases hk:k=f
  ·rw[if_pos hk,List.length_cons,List.length_cons];omega
  ·rw[if_neg hk,List.length_cons,List.length_cons];omega
theorem RelO.some_of{v:V}{o:Option Value}(r:RelO (some v) o):∃u,o=some u/\RelV v u:=by
 cases o with
 | none=>exact(show False from r).elim
 | some u=>exact⟨u,rfl,r⟩
theorem RelO.none_of{o:Option Value}(r:RelO none o):o=none:=by
 cases o with
 | none=>rfl
 | some u=>exact(show False from r).elim
theorem zmq{v:V}{u:Value}(r:RelV v u):W.handedIn u=true:=by
 cases v with
 | non=>cases (show u=Value.none from r);rfl
 | bl b=>cases (show u=Value.bool b from r);rfl
 | int i=>obtain⟨t,e⟩:=(show ∃t,u=Value.int i t from r);cases e;rfl
 | str x=>obtain⟨t,e⟩:=(show ∃t,u=Value.str x t from r);cases e;rfl
 | byt b=>obtain⟨t,e⟩:=(show ∃t,u=Value.bytes b t from r);cases e;rfl
 | flt b=>obtain⟨t,e⟩:=(show ∃t,u=Value.float b t from r);cases e;rfl
 | ref a=>cases (show u=Value.ref a from r);rfl
 | ty n=>cases (show u=Value.type n from r);rfl
section
variable{P:Program}{w:World}{H H':Hp}{h h':Heap}{a C dx:Addr}{fs fs':List (Str×V)}
theorem zgy(hok:HOk P w H h)(e:H a=some (.ins C dx fs)):∃mA,ObjM h a dx C mA/\(∀f,RelO (fs.lookup f) (mA f))/\PySem.Within mA (fs.map (·.1))/\fs.length<=1000/\H dx=some (.own a):=by
 obtain⟨d,z,ne,ob,mA,n,r,q⟩:=(show ObjOk P w H h a (.ins C dx fs) from hok a _ e)
 exact⟨mA,⟨ob,n,ne⟩,r,q,z,d⟩
end
structure Cls(K:W.Frag)(C:Addr):Prop where
 pg:W.plainGet K C Str.empty=true
 hd:W.hasDictIn K C=true
 po:W.plainOver K C=true
 sa:W.findIn K (.ref C) "__setattr__" = some (some (.builtin "object.__setattr__"))
theorem Cls.get{K:W.Frag}{C:Addr}(c:Cls K C)(f:Str):W.plainGet K C f=true:=c.pg
def NoAttr(K:W.Frag)(C:Addr)(f:Str):Prop:=W.findIn K (.ref C) f=some none
theorem NoAttr.taker{K:W.Frag}{C:Addr}{f:Str}(n:NoAttr K C f):W.takerIn K C f=some none:=by
 unfold W.takerIn
 rw[show W.findIn K (.ref C) f=some none from n]
 rfl
structure Meth(K:W.Frag)(C:Addr)(m:Str)(f:Addr):Prop where
 at_:W.findIn K (.ref C) m=some (some (.ref f))
 fn:W.isFn K (.ref f)=true
 kp:W.keepIn K (.ref f)=true
section
variable{X:Cx}{pins:List (Addr×Obj)}{σ : St}{H:Hp}{s:Shared}{a C dx:Addr}{fs:List (Str×V)}{f:Str}{v:V}{A:Around}{E:Value->Shared->Prop}
theorem zlr{b:Bool}{Q:Value->Shared->Prop}(I:Inv X pins σ H s)(e:H a=some (.ins C dx fs))(c:Cls X.K C)(n:NoAttr X.K C f)(l:fs.lookup f=some v)
  (h:∀u s',Inv X pins σ H s'->RelV v u->Q u s'):wpAny (model X.prog X.w) A (getAttr (.ref a) f b) Q E s:=by
 obtain⟨mA,O,r,_,_,_⟩:=zgy I.hok e
 obtain⟨u,hu,ru⟩:=RelO.some_of (v:=v) (o:=mA f) (by rw[<- l];exact r f)
 exact zsd I.kIn O (c.get f) c.hd n hu (zmq ru) (h u _ (I.tok _) ru)
theorem zhf{m:Str}{g:Addr}{pl:Sem Bool}{Q:Value×List Value->Shared->Prop}(I:Inv X pins σ H s)(e:H a=some (.ins C dx fs))(c:Cls X.K C)(k:Meth X.K C m g)(l:fs.lookup m=none)
  (h:Q (.ref g,[.ref a]) s):wpAny (model X.prog X.w) A (getMethod (.ref a) m pl) Q E s:=by
 obtain⟨mA,O,r,_,_,_⟩:=zgy I.hok e
 have hn:mA m=none:=RelO.none_of (by rw[<- l];exact r m)
 exact zo0 I.kIn O (c.get m) k.at_ k.fn hn h
theorem zld{y:V}{u:Value}{Q:Unit->Shared->Prop}(I:Inv X pins σ H s)(e:H a=some (.ins C dx fs))(c:Cls X.K C)(n:NoAttr X.K C f)(hl:fs.length < 1000)(ry:RelV y u)
  (h:∀s',Inv X pins σ (upd H a (.ins C dx (putF f y fs))) s'->Q () s'):wpAny (model X.prog X.w) A (setAttr (.ref a) f u) Q E s:=by
 obtain⟨mA,O,r,wi,_,ho⟩:=zgy I.hok e
 have hz:(fs.map (·.1)).length<=sizeLine:=by rw[List.length_map,sizeLine_eq];omega
 refine zsh I.kIn O c.sa c.po n.taker c.hd wi hz λh' O' sb=>h _ ?_
 have hd:∃o,h'.get? dx=some o:=let ⟨o,_,_,e',_⟩:=O'.ns;⟨o,e'⟩
 refine I.write (x:=a) (e:=dx) (by rw[e];exact True.intro) (.inr ho) (λb q hb z=>(sb.2 b hb).trans z) hd ?_
 refine⟨by rw[zao O.ne];exact ho,?_,O.ne,O'.obj,_,O'.ns,λg => ?_,λg hg => ?_⟩
 ·have:=zgw f y fs;omega
 ·show RelO ((putF f y fs).lookup g) (if g=f then some u else mA g)
  rw[zgx]
  by_cases q:g=f
  ·rw[if_pos q,if_pos q];exact ry
  ·rw[if_neg q,if_neg q];exact r g
 ·by_cases q:g=f
  ·rw[q];exact(zg0 f y fs).1
  ·refine(zg0 f y fs).2 g (wi g λz=>hg ?_)
   show (if g=f then some u else mA g)=none
   rw[if_neg q];exact z
theorem Inv.made(I:Inv X pins σ H s):Inv X pins σ (upd (upd H s.heap.objs.size (.own (s.heap.objs.size + 1))) (s.heap.objs.size + 1) (.ins C s.heap.objs.size []))
  { s with heap:=(s.heap.push W.emptyDict).push (W.instObj C s.heap.objs.size) }:=by
 have e1:(s.heap.push W.emptyDict).get? s.heap.objs.size=some W.emptyDict:=Heap.get?_push_size s.heap rfl
 have e2:((s.heap.push W.emptyDict).push (W.instObj C s.heap.objs.size)).get? (s.heap.objs.size + 1)=some (W.instObj C s.heap.objs.size):=by
  have:=Heap.get?_push_size (s.heap.push W.emptyDict) (o:=W.instObj C s.heap.objs.size) rfl
  rwa [Heap.size_push]at this
 have e3:(s.heap.push W.emptyDict).Ns s.heap.objs.size (λ_=>none):=⟨W.emptyDict,#[],_,e1,rfl,(λe he=>absurd he (by simp)),λ_=>rfl⟩
 have I1:=I.laid (a:=s.heap.objs.size) (o := .own (s.heap.objs.size + 1)) (h':=s.heap.push W.emptyDict) (t':=s.toks) (λb u q=>Heap.get?_push_of_some _ q) (Nat.le_refl _) ⟨_,e1⟩
 refine I1.laid (a:=s.heap.objs.size + 1) (o := .ins C s.heap.objs.size []) (t':=s.toks) (λb u q=>Heap.get?_push_of_some _ q) (Nat.le_of_eq (Heap.size_push _ _)) ?_
 have ne:s.heap.objs.size≠s.heap.objs.size + 1:=Nat.ne_of_lt (Nat.lt_succ_self _)
 refine⟨by rw[zao ne,zaf],Nat.zero_le _,ne,e2,λ_=>none,(Heap.Ns1.of_empty e3).at λo q=>Heap.get?_push_of_some _ q,λ_=>True.intro,λy hy=>absurd rfl hy⟩
theorem zl8{prog:Program}{w:World}{env:Env}{e:Expr}{f:Str}{pos:Pos}{s:Shared}{Q:Value->Shared->Prop}(hb:attributeBase e f env (eval e env)=eval e env)
  (h:wpAny (model prog w) A (eval e env) (λo s₁=>wpAny (model prog w) A (getAttr o f true) Q E s₁) E s):wpAny (model prog w) A (eval (.Attribute e f pos) env) Q E s:=
 Attribute_any_ h (by rw[arm_eval_Attribute,hb])
end
def tFld(K:W.Frag)(ta:TE)(f:Str):TE:=λσ H Q=>ta σ H λx H1=>∃a C dx fs v,x = .ref a/\H1 a=some (.ins C dx fs)/\Cls K C/\NoAttr K C f/\fs.lookup f=some v/\Q v H1
def sFld(K:W.Frag)(ta tv:TE)(f:Str):TS:=λD σ H=>tv σ H λy H1=>ta σ H1 λx H2=>∃a C dx fs,x = .ref a/\H2 a=some (.ins C dx fs)/\Cls K C/\NoAttr K C f/\fs.length < 1000 /\
 D.nx σ (upd H2 a (.ins C dx (putF f y fs)))
section
variable{X:Cx}{o e value:Expr}{f:Str}{pos pos' tpos:Pos}{ta tv:TE}
theorem zuq(he:PE X e ta)(hb:attributeBase e f X.env (eval e X.env)=eval e X.env):PE X (.Attribute e f pos) (tFld X.K ta f):=by
 intro pins s σ H Q I h
 refine zl8 hb (thn (he pins s σ H _ I h) λu s1 ⟨x,H1,I1,rx,a,C,dx,fs,v,ex,ea,c,n,l,q⟩ => ?_)
 subst ex
 obtain rfl:u=Value.ref a:=rx
 exact zlr I1 ea c n l λu' s2 I2 ru=>⟨v,H1,I2,ru,q⟩
theorem zfh(ha:PE X o ta)(hv:PE X value tv)(hs:swapsWith value (some (.Attribute o f pos')) pos.line X.env=pure false):PS X (.Assign [.Attribute o f pos'] value pos) (sFld X.K ta tv f):=by
 intro pins s σ H D I h
 refine plainObj_wpAny_Assign_Attribute (thn (hv pins s σ H _ I h) λu s1 ⟨y,H1,I1,ry,q⟩=>thn (ha pins s1 σ H1 _ I1 q) λov s2 ⟨x,H2,I2,rx,a,C,dx,fs,ex,ea,c,n,l,q2⟩ => ?_) hs
 subst ex
 obtain rfl:ov=Value.ref a:=rx
 exact zld I2 ea c n l ry λs3 I3=>⟨σ,_,I3,q2⟩
end
section
variable{X:Cx}{pins:List (Addr×Obj)}{σ : St}{H:Hp}{s:Shared}{A:Around}{E:Value->Shared->Prop}{Q:Value->Shared->Prop}{c:Value}{b:Bool}
inductive TyOf(K:W.Frag)(H:Hp):V->Value->Prop where
 | non:TyOf K H .non (.type "NoneType")
 | bl (x:Bool):TyOf K H (.bl x) (.type "bool")
 | int (i:Int):TyOf K H (.int i) (.type "int")
 | str (x:Str):TyOf K H (.str x) (.type "str")
 | flt (x:UInt64):TyOf K H (.flt x) (.type "float")
 | lst {a:Addr} {xs:List V} (e:H a=some (.lst xs)):TyOf K H (.ref a) (.type "list")
 | frz {a:Addr} {o:Obj} {xs:List V} (e:H a=some (.frz o (.lst xs))):TyOf K H (.ref a) (.type "list")
 | tup {a:Addr} {xs:List V} (e:H a=some (.tup xs)):TyOf K H (.ref a) (.type "tuple")
 | dK {a:Addr} {kvs:List (Key×V)} (e:H a=some (.dK kvs)):TyOf K H (.ref a) (.type "dict")
 | dT {a:Addr} {kvs:List (List Key×V)} (e:H a=some (.dT kvs)):TyOf K H (.ref a) (.type "dict")
 | ins {a C dx:Addr} {fs:List (Str×V)} (e:H a=some (.ins C dx fs)) (cl:Cls K C) (ha:W.findIn K (.ref C) "__class__" = some (some (.builtin "object.__class__")))
   (hn:W.specialIn K (.builtin "object.__class__") "__get__" = some (some (.builtin "getset_descriptor.__get__"))) (htk:W.takesIn K (.builtin "object.__class__")=some true)
   (hm:W.mroIn K C (.type "object")=some true):TyOf K H (.ref a) (.ref C)
theorem zmn{x:V}{u t:Value}(I:Inv X pins σ H s)(rx:RelV x u)(ty:TyOf X.K H x t)(e:W.kitOne X.K t c=some b)(h:∀tk,Q (.bool b) { s with toks:=tk }) :
  wpAny (model X.prog X.w) A (call (.builtin "isinstance") [u,c]) Q E s:=by
 cases ty with
 | non=>cases (show u=Value.none from rx);exact W.kia_one W.kitx_none I.kIn True.intro e (λz=>nomatch z) h
 | bl y=>cases (show u=Value.bool y from rx);exact W.kia_one W.kitx_bool I.kIn True.intro e (λz=>nomatch z) h
 | int i=>obtain⟨t,q⟩:=(show ∃t,u=Value.int i t from rx);cases q;exact W.kia_one W.kitx_int I.kIn True.intro e (λz=>nomatch z) h
 | str y=>obtain⟨t,q⟩:=(show ∃t,u=Value.str y t from rx);cases q;exact W.kia_one W.kitx_str I.kIn True.intro e (λz=>nomatch z) h
 | flt y=>obtain⟨t,q⟩:=(show ∃t,u=Value.float y t from rx);cases q;exact W.kia_one W.kitx_float I.kIn True.intro e (λz=>nomatch z) h
 | @lst a xs ea=>
  cases (show u=Value.ref a from rx)
  obtain⟨_,_,n,_,h1⟩:=(show ObjOk X.prog X.w H s.heap a (.lst xs) from I.hok a _ ea)
  exact W.kia_one W.kitx_list I.kIn ⟨_,h1,rfl⟩ e (λz=>nomatch z) h
 | @frz a ob xs ea=>
  cases (show u=Value.ref a from rx)
  obtain⟨_,_,_,n,_,h1⟩:=(show ObjOk X.prog X.w H s.heap a (.frz ob (.lst xs)) from I.hok a _ ea)
  exact W.kia_one W.kitx_list I.kIn ⟨_,h1,rfl⟩ e (λz=>nomatch z) h
 | @tup a xs ea=>
  cases (show u=Value.ref a from rx)
  obtain⟨_,_,_,p⟩:=(show ObjOk X.prog X.w H s.heap a (.tup xs) from I.hok a _ ea)
  obtain⟨o,h1,h2,_⟩:=p
  exact W.kia_one W.kitx_tuple I.kIn ⟨o,h1,h2⟩ e (λz=>nomatch z) h
 | @dK a kvs ea=>
  cases (show u=Value.ref a from rx)
  obtain⟨_,_,vs,_,p⟩:=(show ObjOk X.prog X.w H s.heap a (.dK kvs) from I.hok a _ ea)
  obtain⟨o,es,ep,h1,h2,_⟩:=p
  exact W.kia_one W.kitx_dict I.kIn ⟨o,h1,h2.1⟩ e (λz=>nomatch z) h
 | @dT a kvs ea=>
  cases (show u=Value.ref a from rx)
  obtain⟨_,_,xs,_,o,es,ep,h1,h2,_⟩:=(show ObjOk X.prog X.w H s.heap a (.dT kvs) from I.hok a _ ea)
  exact W.kia_one W.kitx_dict I.kIn ⟨o,h1,h2.1⟩ e (λz=>nomatch z) h
 | @ins a C dx fs ea cl ha hn htk hm=>
  cases (show u=Value.ref a from rx)
  obtain⟨mA,O,_⟩:=zgy I.hok ea
  obtain⟨od,J,_⟩:=O.look
  exact W.kia_one (W.kitx_own (cl.get _) cl.hd ha hn htk hm) I.kIn J e (λz=>nomatch z) h
end
end L2
namespace L2
open PySem PySem.Spec PyProof.Rows
structure Room(k:Nat)(A:Around):Prop where
 hd:A.handled=none
 dp:A.depth + 3 * k + 5 < recursionLimit
 un:A.units + 16 * k + 200 < cLine
theorem Room.mono{j k:Nat}{A:Around}(r:Room k A)(h:j<=k):Room j A:=⟨r.hd,by have:=r.dp;omega,by have:=r.un;omega⟩
theorem Room.deeper{k:Nat}{A:Around}(r:Room (k + 1) A)(env:Env):Room k (A.deeper env):=
 ⟨r.hd,by have:=r.dp;show A.depth + 1 + 3 * k + 5 < _;omega,by have:=r.un;show A.units + 3 + 16 * k + 200 < _;omega⟩
theorem Room.in1{k:Nat}{A:Around}(r:Room (k + 1) A):Room k A.in1:=
 ⟨r.hd,by have:=r.dp;show A.depth + 3 * k + 5 < _;omega,by have:=r.un;show A.units + 1 + 16 * k + 200 < _;omega⟩
theorem zlo{A:Around}{C:Addr}{us:List Value}{kw:List (Str×Value)}:(A.under (.builtin "type.__call__" ⟨.ref C :: us,kw⟩)).depth=A.depth + 1:=by
 first | rfl | simp[Around.under,Code.weight,Code.isCreation,Code.isGuard,Code.isCaller,Code.frames,Code.isFrame,guardIds]
theorem zl0{A:Around}{C:Addr}{us:List Value}{kw:List (Str×Value)}:(A.under (.builtin "type.__call__" ⟨.ref C :: us,kw⟩)).units=A.units + 1:=by
 first | rfl | simp[Around.under,Code.cUnits,Code.frames,Code.isFrame]
theorem Room.make{k:Nat}{A:Around}(r:Room (k + 1) A)(C:Addr)(us:List Value)(kw:List (Str×Value)):Room k (A.under (.builtin "type.__call__" ⟨.ref C :: us,kw⟩)):=
 ⟨r.hd,by have:=r.dp;rw[zlo];omega,by have:=r.un;rw[zl0];omega⟩
theorem Room.depth{k:Nat}{A:Around}(r:Room k A):A.depth < recursionLimit:=by have:=r.dp;omega
theorem Room.units{k:Nat}{A:Around}(r:Room k A):A.units + 64 < cLine:=by have:=r.un;omega
def tNil:TA:=λ_ H Q=>Q [] H
def tCons(ta:TE)(tr:TA):TA:=λσ H Q=>ta σ H λx H1=>tr σ H1 λxs H2=>Q (x :: xs) H2
section
variable{X:Cx}{e:Expr}{es:List Expr}{te:TE}{t:TA}{pos:Pos}
theorem zah:PA X [] tNil:=λ_ _ _ _ H Q I h=>Calls.spliced_nil ⟨[],H,I,.nil,h⟩
theorem zaa(ha:PE X e te)(hr:PA X es t)(hs:starEach (e :: es) X.env=(false,eval e X.env) :: starEach es X.env:=by rfl):PA X (e :: es) (tCons te t):=by
 intro pos pins s σ H Q I h
 rw[hs]
 show wpAny _ _ (spliced ((false,eval e X.env) :: backTo pos (starEach es X.env))) _ _ s
 refine Calls.spliced_cons (thn (ha pins s σ H _ I h) λu s1 ⟨x,H1,I1,r1,q1⟩ => ?_)
 exact thn (hr pos pins s1 σ H1 _ I1 q1) λus s2 ⟨xs,H2,I2,r2,q2⟩=>⟨x :: xs,H2,I2,.cons r1 r2,q2⟩
def tTup(t:TA):TE:=λσ H Q=>t σ H λxs H1=>xs.length<=sizeLine/\∀p,H1 p=none->Q (.ref p) (upd H1 p (.tup xs))
def tLst(t:TA):TE:=λσ H Q=>t σ H λxs H1=>xs.length<=sizeLine/\∀p,H1 p=none->Q (.ref p) (upd H1 p (.lst xs))
theorem zc6{x1}(h:PA X es t):PE X (.Tuple es x1 pos) (tTup t):=by
 intro pins s σ H Q I hq
 refine wpAny_Tuple_spliced (thn (h pos pins s σ H _ I hq) λus s1 ⟨xs,H1,I1,r,z,q⟩=>⟨by rw[<- r.length];exact z,?_⟩)
 have hf:H1 s1.heap.objs.size=none:=I1.hok.fresh (Nat.le_refl _)
 refine⟨.ref s1.heap.objs.size,upd H1 s1.heap.objs.size (.tup xs),I1.laid (t':=s1.toks) (λb u e=>Heap.get?_push_of_some _ e) (Nat.le_refl _) ?_,rfl,q _ hf⟩
 exact⟨z,us,r,⟨_,Heap.get?_push_size _ rfl,rfl,_,rfl⟩⟩
theorem zfa(h:PA X es t):PE X (.List es pos) (tLst t):=by
 intro pins s σ H Q I hq
 refine wpAny_List_spliced (thn (h pos pins s σ H _ I hq) λus s1 ⟨xs,H1,I1,r,z,q⟩=>⟨by rw[<- r.length];exact z,?_⟩)
 have hf:H1 s1.heap.objs.size=none:=I1.hok.fresh (Nat.le_refl _)
 refine⟨.ref s1.heap.objs.size,upd H1 s1.heap.objs.size (.lst xs),I1.laid (t':=s1.toks) (λb u e=>Heap.get?_push_of_some _ e) (Nat.le_refl _) ?_,rfl,q _ hf⟩
 exact⟨z,us,0,r,Heap.get?_push_size _ rfl⟩
end
abbrev Sp:=List V->Hp->VK->XK->Prop
abbrev CXT:=List Env->Hp->Shared->XK->Value->Shared->Prop
structure Env0(P:Program)(w:World)(K:W.Frag)(mg:Str->Option Value)(base:Heap)(A:Around)(outer:List Env)(s:Shared)(H:Hp):Prop where
 frames:A.frames=some outer
 mod:Mod K mg base
 bs:∀b o,base.get? b=some o->s.heap.get? b=some o/\H b=none
 bsz:base.objs.size<=s.heap.objs.size
 funs:s.heap.FunFrames base outer
 frf:∀b∈frs outer,H b=none
 hok:HOk P w H s.heap
 bare:AllBare s.gens
def CE(outer:List Env)(P:Program)(w:World)(H:Hp)(s:Shared)(Q:VK)(u:Value)(s':Shared):Prop:=
 ∃v H',s'.os=s.os/\AllBare s'.gens/\Un (frs outer) [] H H' s.heap s'.heap/\HOk P w H' s'.heap/\RelV v u/\Q v H'
def CR(CX:CXT)(outer:List Env)(P:Program)(w:World)(H:Hp)(s:Shared)(Q:VK)(E:XK)(r:Result)(s':Shared):Prop:=
 match r with
 | .ok (.ret u)=>CE outer P w H s Q u s'
 | .ok _=>False
 | .error e=>CX outer H s E e s'
structure FnOk(P:Program)(w:World)(K:W.Frag)(mg:Str->Option Value)(base:Heap)(CX:CXT)(k:Nat)(f:Addr)(fd:FuncData)(ps:List Str)(sp:Sp):Prop where
 len:∀vs H Q E,sp vs H Q E->vs.length=ps.length
 run:∀(A:Around) (outer:List Env) (s:Shared) (H:Hp) (args:Args) (us:List Value) (vs:List V) (Q:VK) (E:XK),Room k A->Env0 P w K mg base A outer s H->BindsTo s fd args (ps.zip us)->Vals vs us->sp vs H Q E ->
  codeAny (model P w) A (.call (.ref f) args) (CR CX outer P w H s Q E) s
theorem FnOk.mono{P:Program}{w:World}{K:W.Frag}{mg:Str->Option Value}{base:Heap}{CX:CXT}{j k:Nat}{f:Addr}{fd:FuncData}{ps:List Str}{sp:Sp}(F:FnOk P w K mg base CX j f fd ps sp)(h:j<=k) :
  FnOk P w K mg base CX k f fd ps sp:=⟨F.len,λA outer s H args us vs Q E hr=>F.run A outer s H args us vs Q E (hr.mono h)⟩
theorem FnOk.imp{P:Program}{w:World}{K:W.Frag}{mg:Str->Option Value}{base:Heap}{CX:CXT}{k:Nat}{f:Addr}{fd:FuncData}{ps:List Str}{sp sp':Sp}(F:FnOk P w K mg base CX k f fd ps sp)
  (h:∀vs H Q E,sp' vs H Q E->sp vs H Q E):FnOk P w K mg base CX k f fd ps sp':=
 ⟨λvs H Q E q=>F.len vs H Q E (h _ _ _ _ q),λA outer s H args us vs Q E hr he hb hv hs=>F.run A outer s H args us vs Q E hr he hb hv (h _ _ _ _ hs)⟩
theorem Env0.make{P:Program}{w:World}{K:W.Frag}{mg:Str->Option Value}{base:Heap}{A:Around}{outer:List Env}{s:Shared}{H:Hp}(e:Env0 P w K mg base A outer s H)(C:Addr)(us:List Value)(kw:List (Str×Value)) :
  Env0 P w K mg base (A.under (.builtin "type.__call__" ⟨.ref C :: us,kw⟩)) outer s H:=⟨by first | exact e.frames | (simpa[Around.under,Code.envs,Code.isFrame,pushEnvs]using e.frames),e.mod,e.bs,e.bsz,e.funs,e.frf,e.hok,e.bare⟩
theorem Env0.in1{P:Program}{w:World}{K:W.Frag}{mg:Str->Option Value}{base:Heap}{A:Around}{outer:List Env}{s:Shared}{H:Hp}(e:Env0 P w K mg base A outer s H) :
  Env0 P w K mg base A.in1 outer s H:=⟨e.frames,e.mod,e.bs,e.bsz,e.funs,e.frf,e.hok,e.bare⟩
section
variable{X:Cx}{pins:List (Addr×Obj)}{σ : St}{H:Hp}{s s':Shared}
theorem Inv.env0(I:Inv X pins σ H s):Env0 X.prog X.w X.K X.mg X.base X.A X.stack s H:=
 ⟨I.ok.frames,I.ok.mod,I.bs,Nat.le_trans I.ok.bsz I.sz,I.stack,I.stkFree,I.hok,I.bare⟩
theorem Inv.after{Q:VK}{u:Value}(I:Inv X pins σ H s)(h:CE X.stack X.prog X.w H s Q u s'):EP X pins σ Q u s':=by
 obtain⟨v,H',os,bare,un,hok,r,q⟩:=h
 obtain⟨hh,g,d,t,os'⟩:=s'
 obtain rfl:os'=s.os:=os
 exact⟨v,H',I.call (h':=hh) (g':=g) (d':=d) (t':=t) (ch:=[]) un hok bare (λb z=>absurd z (by simp)),r,q⟩
end
def Binds(K:W.Frag)(fd:FuncData)(ps:List Str)(ds:List Value):Prop:=
 ∀(s:Shared) (us:List Value),K.In s.heap->(us ++ ds).length=ps.length->BindsTo s fd ⟨us,[]⟩ (ps.zip (us ++ ds))
theorem Binds.all{K:W.Frag}{fd:FuncData}{ps:List Str}(h:∀us:List Value,us.length=ps.length->bindArgs fd ⟨us,[]⟩=pure (ps.zip us)):Binds K fd ps []:=λs us _ hl=>by
 rw[List.append_nil]at hl ⊢
 exact .of_eq (h us hl)
section
variable{X:Cx}{CX:CXT}{k:Nat}{f C:Addr}{fd:FuncData}{ps:List Str}{sp:Sp}{dvs:List V}{ds:List Value}{E:XK}{x m:Str}{p pos apos:Pos}{e o:Expr}{es:List Expr}{ta:TE}{t:TA}
structure Mk(K:W.Frag)(C f:Addr):Prop where
 makes:W.makesIn K C=true
 init:W.findIn K (.ref C) "__init__" = some (some (.ref f))
 fn:W.isFn K (.ref f)=true
 kp:W.keepIn K (.ref C)=true
end
section
variable{X:Cx}{CX:CXT}{k:Nat}{f C:Addr}{fd:FuncData}{ps ks:List Str}{sp:Sp}{E:XK}{x m:Str}{p pos apos kpos:Pos}{e o:Expr}{es:List Expr}{kws:List Keyword}{te ta:TE}{t tk:TA}{nm:Option Str}
variable{g:List Value->List Value->List Value}{gV:List V->List V->List V}
end
structure FnScope(N P:List Str)(sc:Scope):Prop where
 kind:sc.kind = .function
 co:sc.isCoroutine=false
 gen:sc.isGenerator=false
 nd:N.Nodup
 pre:N.take P.length=P
 par:∀x∈P,sc.names.lookup x=some .local\/sc.names.lookup x=some .cell
 nofree:∀y∈sc.names,y.2≠.free
theorem zjb{kindOf:Str->Option NameKind}{x:Str}:∀{binds:List (Str×Value)} {m:Str->Option Value},(∀v,(x,v) ∉ binds)->bindL kindOf binds m x=m x
 | [],_,_=>rfl
 | (n,v) :: r,m,h=>by
  unfold bindL
  rw[zjb λw hw=>h w (List.mem_cons_of_mem _ hw)]
  split
  ·have:x≠n:=by rintro rfl;exact h v List.mem_cons_self
   simp[this]
  ·rfl
theorem ziw{kindOf:Str->Option NameKind}{x:Str}:∀{binds:List (Str×Value)} {m:Str->Option Value},(∀v,(x,v) ∉ binds)->bindC kindOf binds m x=m x
 | [],_,_=>rfl
 | (n,v) :: r,m,h=>by
  unfold bindC
  rw[ziw λw hw=>h w (List.mem_cons_of_mem _ hw)]
  split
  ·rfl
  ·have:x≠n:=by rintro rfl;exact h v List.mem_cons_self
   simp[this]
theorem zis{kindOf:Str->Option NameKind}{x:Str}{v:Value}:∀{P:List Str} {vs:List Value} {i:Nat} {m:Str->Option Value},P.Nodup->P[i]? = some x->vs[i]? = some v->kindOf x=some .local ->
  bindL kindOf (P.zip vs) m x=some v
 | [],_,_,_,_,h,_,_=>by simp at h
 | _ :: _,[],_,_,_,_,h,_=>by simp at h
 | p :: P,w :: vs,0,m,nd,h1,h2,hk=>by
  simp at h1 h2;subst h1;subst h2
  show bindL kindOf ((p,w) :: P.zip vs) m p=_
  unfold bindL
  rw[zjb λv hv=>(List.nodup_cons.mp nd).1 (List.of_mem_zip hv).1,if_pos hk]
  simp
 | p :: P,w :: vs,i + 1,m,nd,h1,h2,hk=>by
  show bindL kindOf ((p,w) :: P.zip vs) m x=_
  unfold bindL
  exact zis (i:=i) (List.nodup_cons.mp nd).2 (by simpa using h1) (by simpa using h2) hk
theorem zjh{kindOf:Str->Option NameKind}{x:Str}{v:Value}:∀{P:List Str} {vs:List Value} {i:Nat} {m:Str->Option Value},P.Nodup->P[i]? = some x->vs[i]? = some v->kindOf x≠some .local ->
  bindC kindOf (P.zip vs) m x=some v
 | [],_,_,_,_,h,_,_=>by simp at h
 | _ :: _,[],_,_,_,_,h,_=>by simp at h
 | p :: P,w :: vs,0,m,nd,h1,h2,hk=>by
  simp at h1 h2;subst h1;subst h2
  show bindC kindOf ((p,w) :: P.zip vs) m p=_
  unfold bindC
  rw[ziw λv hv=>(List.nodup_cons.mp nd).1 (List.of_mem_zip hv).1,if_neg hk]
  simp
 | p :: P,w :: vs,i + 1,m,nd,h1,h2,hk=>by
  show bindC kindOf ((p,w) :: P.zip vs) m x=_
  unfold bindC
  exact zjh (i:=i) (List.nodup_cons.mp nd).2 (by simpa using h1) (by simpa using h2) hk
def start(N:List Str)(vs:List V):St:=vs.map some ++ List.replicate (N.length - vs.length) none
def cxOf(CX:CXT)(P:Program)(w:World)(K:W.Frag)(mg:Str->Option Value)(base:Heap)(N:List Str)(qual:Str)(scope:Scope)(f:Addr)(cd:Value)(A:Around)(outer:List Env)(s:Shared)(H:Hp)(E:XK):Cx where
 prog:=P
 w:=w
 K:=K
 mg:=mg
 base:=base
 A:=A.deeper (envOfC qual scope s.heap.objs.size f cd)
 N:=N
 s₀:=s
 H₀:=H
 env:=envOfC qual scope s.heap.objs.size f cd
 outer:=outer
 stack:=envOfC qual scope s.heap.objs.size f cd :: outer
 ex:=[]
 calm:=true
 fn:=λ_=>true
 pn:=[]
 xe:=λe s'=>wpAny (model P w) (A.deeper (envOfC qual scope s.heap.objs.size f cd)) (leaving (envOfC qual scope s.heap.objs.size f cd) e) (λ_ s''=>CX outer H s E e s'') (λe' s''=>CX outer H s E e' s'') s'
theorem zkj{sc:Scope}{n:Nat}{x:Str}(h:sc.names.lookup x=some .cell):∃c,(cellsFrom n sc.names []).lookup x=some c:=by
 have q:=W.cellsFrom_some sc.names n [] (.inl h)
 exact Option.isSome_iff_exists.mp q
theorem zmx{CX:CXT}{P:Program}{w:World}{K:W.Frag}{mg:Str->Option Value}{base:Heap}{N ps:List Str}{qual:Str}{scope:Scope}{f:Addr}{cd:Value}{A:Around}{outer:List Env}{s s1:Shared}{H:Hp}{E:XK}{us:List Value}{vs:List V}
  (S:FnScope N ps scope) (hd:A.handled=none) (e0:Env0 P w K mg base A outer s H) (hl:vs.length=ps.length) (r:Vals vs us)
  (x:InCallC s s.heap.objs.size (bindL (envOfC qual scope s.heap.objs.size f cd).kindOf (ps.zip us) λ_=>none) (cellsFrom (s.heap.objs.size + 1) scope.names []) (bindC (envOfC qual scope s.heap.objs.size f cd).kindOf (ps.zip us) λ_=>none) s1) :
  Inv (cxOf CX P w K mg base N qual scope f cd A outer s H E) [] (start N vs) H s1:=by
 have hpl:ps.length<=N.length:=by have:=congrArg List.length S.pre;rw[List.length_take]at this;omega
 obtain⟨h1,tk,rfl,hk⟩:=x.done
 have noA:∀b:Addr,b ∉ (cxOf CX P w K mg base N qual scope f cd A outer s H E).ex:=λb z=>absurd (show b∈([]:List Addr) from z) (by simp)
 refine⟨⟨e0.mod,S.kind,rfl,rfl,Nat.le_refl _,λy z c h1 h2 => ?_,λy hy => ?_,λy c _ h => ?_,λ_=>hd,Around.frames_deeper e0.frames,.inr ⟨rfl,rfl⟩,λb z=>absurd z (noA b),e0.bs,e0.bsz,λb _ _=>noA b,λb z=>absurd z (noA b),e0.funs,e0.frf⟩,
  rfl,e0.bare,Un.kept hk,⟨_,x.toInCall.ns,λi y v h1 h2 h3 => ?_⟩,λy c h=>⟨_,x.cell y c h⟩,e0.hok.fresh (Nat.le_refl _),λy c h => ?_,λp hp=>absurd (show p∈([]:List (Addr×Obj)) from hp) (by simp),e0.hok.kept hk,?_⟩
 ·exact name_of_addr x.apart (PySem.mem_of_lookup h1) (PySem.mem_of_lookup h2)
 ·have hy:scope.names.lookup y=some .cell\/scope.names.lookup y=some .free:=hy
  rcases hy with hy | hy
  ·exact zkj hy
  ·exact absurd rfl (S.nofree _ (PySem.mem_of_lookup hy))
 ·exact Nat.le_of_lt (x.above y c (PySem.mem_of_lookup h))
 ·have hi:i < vs.length:=by
   unfold start at h2
   by_cases hi:i < vs.length
   ·exact hi
   ·rw[List.getElem?_append_right (by simpa using hi)]at h2
    rw[List.getElem?_replicate]at h2
    split at h2 <;> cases h2
  have ha:vs[i]? = some v:=by
   unfold start at h2
   rw[List.getElem?_append_left (by simpa using hi),List.getElem?_map]at h2
   cases e:vs[i]? with
   | none=>rw[e]at h2;cases h2
   | some a=>rw[e]at h2;cases h2;rfl
  obtain⟨u,hu,rv⟩:=r.get ha
  have hp:ps[i]? = some y:=by
   rw[<- S.pre,List.getElem?_take_of_lt (by omega)];exact h1
  have ndP:ps.Nodup:=by rw[<- S.pre];exact S.nd.sublist (List.take_sublist _ _)
  refine⟨u,rv,?_⟩
  rcases S.par y (List.mem_of_getElem? hp) with k | k
  ·exact .inl ⟨k,zis ndP hp hu k⟩
  ·obtain⟨c,e⟩:=zkj (n:=s.heap.objs.size + 1) k
   refine .inr ⟨.inl k,c,e,?_⟩
   have q:=x.cell y c e
   rw[zjh ndP hp hu (by show scope.names.lookup y≠_;rw[k];decide)]at q
   exact q
 ·exact e0.hok.fresh (Nat.le_of_lt (x.above y c (PySem.mem_of_lookup h)))
 ·unfold start
  show _=N.length
  rw[List.length_append,List.length_map,List.length_replicate]
  omega
theorem zuw{CX:CXT}{P:Program}{w:World}{K:W.Frag}{mg:Str->Option Value}{base:Heap}{k:Nat}{f:Addr}{name qual:Str}{params:Arguments}{body:List Stmt}{scope:Scope}{dV kV doc pm cdv ct oc:Value}{an od:Option Addr}
  {osl:Array (Option Value)} {N ps:List Str} {sp:Sp} (lk:K.lookup f=some ⟨oc,od,.func (W.fnOf name qual params body scope dV kV doc pm an cdv ct),osl⟩) (hcd:W.codeIn K cdv qual=true) (S:FnScope N ps scope)
  (len:∀vs H Q E,sp vs H Q E->vs.length=ps.length)
  (hbody:∀(A:Around) (outer:List Env) (s:Shared) (H:Hp) (vs:List V) (Q:VK) (E:XK),Room k (A.deeper (envOfC qual scope s.heap.objs.size f cdv))->sp vs H Q E ->
   ∃t,PSs (cxOf CX P w K mg base N qual scope f cdv A outer s H E) body t/\t { nx:=λ_ H'=>Q .non H',rt:=Q } (start N vs) H) :
  FnOk P w K mg base CX (k + 1) f (W.fnOf name qual params body scope dV kV doc pm an cdv ct) ps sp:=by
 refine⟨len,λA outer s H args us vs Q E hr e0 hb r hsp => ?_⟩
 have hl:=len _ _ _ _ hsp
 have KX:K.In s.heap:=e0.mod.kin.keeps λb o e=>(e0.bs b o e).1
 have lim:s.heap.NoLimit:=e0.mod.nolimit.keeps λb o e=>(e0.bs b o e).1
 have hkind:∀y∈ps.zip us,scope.names.lookup y.1=some .local\/(scope.names.lookup y.1=some .cell/\((cellsFrom (s.heap.objs.size + 1) scope.names []).lookup y.1).isSome=true):=fun⟨n,v⟩ hy=>by
  rcases S.par n (List.of_mem_zip hy).1 with q | q
  ·exact .inl q
  ·exact .inr ⟨q,W.cellsFrom_some _ _ _ (.inl q)⟩
 refine codeAny_call_function hr.depth (KX _ _ lk) rfl S.co S.gen rfl (W.codeRec_of KX hcd) (hb _ _ _ _ ?_)
 refine wpAny_newFunctionEnv_cells S.kind hkind λenv he s1 x => ?_
 subst he
 refine⟨lim.keeps x.toInCall.keep,codeAny_func ?_⟩
 obtain⟨t,ht,hq⟩:=hbody A outer s H vs Q E (hr.deeper _) hsp
 have I:Inv (cxOf CX P w K mg base N qual scope f cdv A outer s H E) [] (start N vs) H s1:=zmx S hr.hd e0 hl r x
 refine wpAny_mono (ht [] s1 (start N vs) H _ I hq) (λfl s' hs => ?_) λe s' hs=>hs
 have fin:∀{σ':St} {H':Hp} {v:V} {u:Value},Inv (cxOf CX P w K mg base N qual scope f cdv A outer s H E) [] σ' H' s'->RelV v u->Q v H'->CE outer P w H s Q u s':=
  fun{σ' H' v u} J rv q=>⟨v,H',J.os,J.bare,J.base,J.hok,rv,q⟩
 cases fl with
 | ret u=>
  obtain⟨v,σ',H',J,rv,q⟩:=hs
  exact fin J rv q
 | next=>
  obtain⟨σ',H',J,q⟩:=hs
  exact fin (v:=V.non) (u:=Value.none) J rfl q
 | brk=>
  obtain⟨_,_,_,q⟩:=hs
  exact False.elim q
 | cont=>
  obtain⟨_,_,_,q⟩:=hs
  exact False.elim q
end L2
namespace L2
open PySem PySem.Spec PyProof.Rows
section
variable{X:Cx}{x:Str}{p pos:Pos}{e:Expr}{es:List Expr}{t:TA}{id T:String}{r:List V->Hp->VK->Prop}
def tCB(r:List V->Hp->VK->Prop)(t:TA):TE:=λσ H Q=>t σ H λvs H1=>r vs H1 Q
theorem zay(hc:CallR X (.builtin id) r)(hg:Gl X x)(hm:X.mg x=none)(hv:bootBuiltins x=some (.builtin id))(ha:PA X (e :: es) t)(hn:x≠"__name__":=by decide)(hdb:(x == ("__debug__" : Str))=false:=by decide)
  (he:starEach (e :: es) X.env=(false,eval e X.env) :: starEach es X.env:=by rfl) (hpl:(backTo pos (starEach es X.env)).any (·.1)=false:=by rfl):PE X (.Call (.Name x p) (e :: es) [] pos) (tCB r t):=by
 intro pins s σ H Q I h
 refine wpAny_Call_Name_kw (zfp I hg hm hv ?_ hn hdb)
 exact PyProof.Rows.callWith_builtin1 (thn (ha pos pins s σ H _ I h) λus s1 ⟨vs,H1,I1,r1,q1⟩=>hc pins s1 σ H1 vs us Q I1 r1 q1) he hpl
theorem zbt(hc:CallR X (.type T) r)(hg:Gl X x)(hm:X.mg x=none)(hv:bootBuiltins x=some (.type T))(ha:PA X (e :: es) t)(hn:x≠"__name__":=by decide)(hdb:(x == ("__debug__" : Str))=false:=by decide)
  (he:starEach (e :: es) X.env=(false,eval e X.env) :: starEach es X.env:=by rfl) (hpl:(backTo pos (starEach es X.env)).any (·.1)=false:=by rfl):PE X (.Call (.Name x p) (e :: es) [] pos) (tCB r t):=by
 intro pins s σ H Q I h
 refine wpAny_Call_Name_kw (zfp I hg hm hv ?_ hn hdb)
 exact PyProof.Rows.callWith_type1 (thn (ha pos pins s σ H _ I h) λus s1 ⟨vs,H1,I1,r1,q1⟩=>hc pins s1 σ H1 vs us Q I1 r1 q1) he hpl
end
end L2
namespace HT
open PySem PyProof.Rows
def lexLt:List Int->List Int->Bool
 | [],[]=>false
 | [],_ :: _=>true
 | _ :: _,[]=>false
 | x :: xs,y :: ys=>if x=y then lexLt xs ys else decide (x < y)
theorem lexLt_cons(x y:Int)(xs ys:List Int):lexLt (x :: xs) (y :: ys)=if x=y then lexLt xs ys else decide (x < y):=rfl
theorem zfi:lexLt [] []=false:=rfl
theorem ze8(y:Int)(ys:List Int):lexLt [] (y :: ys)=true:=rfl
theorem ze7(x:Int)(xs:List Int):lexLt (x :: xs) []=false:=rfl
theorem zkw(A:Around)(s:Shared)(a:Int)(t:Tok)(c:Int)(u:Tok):∃e,SeqAt.EqAt A s (.int a t) (.int c u) e/\(e=true↔a=c):=
 ⟨(a == c),SeqAt.EqAt.int_int a t c u,by simp⟩
theorem zpg(A:Around)(s:Shared)(a:Int)(t:Tok)(c:Int)(u:Tok)(prog:Program)(w:World)(E:Value->Shared->Prop)(Q:Value->Shared->Prop)(h:Q (.bool (decide (a < c))) s) :
  wpAny (model prog w) A (richCompare .Lt (.int a t) (.int c u)) Q E s:=
 (PyProof.Rows.lt_int h:wpAny (model prog w) A (compareOp .Lt (.int a t) (.int c u)) Q E s)
section
open PySem.SeqAt
open PySem.AutoSeq1 (wpAny_loadPart')
open PySem.MeetsSeq PySem.MeetsSeq2 PySem.MeetsSeq3
theorem zhq(l b:Addr)(items items2:Array Value)(n n2:Nat)(dd dd2:Option Addr)(sl sl2:Array (Option Value))(ns ms:List Int)(hi:IntsAre items.toList ns)(hj:IntsAre items2.toList ms) :
  Meets (Builtin.«tuple.__lt__» ⟨[.ref l,.ref b],[]⟩)
   (λ_ R s=>s.heap.get? l=some { cls := .type "tuple",dict:=dd,data := .seq items n,slots:=sl }/\s.heap.get? b=some { cls := .type "tuple",dict:=dd2,data := .seq items2 n2,slots:=sl2 } /\
    R (.ok (.ret (.bool (lexLt ns ms)))) s):=
 .of_wp λprog w A R s h=>by
  obtain⟨hp,g,d,tk,os⟩:=s;obtain⟨hl,hb,h⟩:=h
  have f2:=AutoSeq1.sub_tuple_tuple
  have z1:items.size=ns.length:=by rw[<- hi.length];simp
  have z2:items2.size=ms.length:=by rw[<- hj.length];simp
  wp_walk using wpAny_loadPart' hl,wpAny_loadPart' hb,wpAny_forIn_list _ (λrest b s'=>b.1=none/\s'=⟨hp,g,d,tk,os⟩/\∃(vs ws:List Value) (ns' ms':List Int),rest=vs.zip ws /\
   IntsAre vs ns'/\IntsAre ws ms'/\ns'.length + items2.size=ms'.length + items.size/\R (.ok (.ret (.bool (lexLt ns' ms')))) ⟨hp,g,d,tk,os⟩) _
  case turn=>
   rintro⟨y,x⟩ rest b s' ⟨hb',rfl,vs,ws,ns',ms',hz,hvi,hwi,hlen,hR⟩
   cases hvi with
   | nil=>rw[List.zip_nil_left]at hz;cases hz
   | cons a t hvi'=>
    cases hwi with
    | nil=>rw[List.zip_nil_right]at hz;cases hz
    | cons c u hwi'=>
     rw[List.zip_cons_cons]at hz
     injection hz with hyx hrest
     injection hyx with hy hx
     subst hy hx
     rw[lexLt_cons]at hR
     simp only[List.length_cons]at hlen
     obtain⟨e,he,hiff⟩:=zkw A.in1 ⟨hp,g,d,tk,os⟩ a t c u
     refine wpAny_bind (he prog w _ _ ?_)
     cases e with
     | true=>
      rw[if_pos (hiff.mp rfl)]at hR
      wp_walk
      exact⟨rfl,rfl,_,_,_,_,hrest,hvi',hwi',by omega,hR⟩
     | false=>
      rw[if_neg (λq=>absurd (hiff.mpr q) Bool.false_ne_true)]at hR
      have hri:=zpg A.in1 ⟨hp,g,d,tk,os⟩ a t c u prog w
      wp_walk using hri
      exact⟨_,rfl,by simpa using hR⟩
  case fin=>
   rintro⟨b1,b2⟩ s' ⟨hb',rfl,vs,ws,ns',ms',hz,hvi,hwi,hlen,hR⟩
   simp only at hb'
   subst hb'
   have hv:lexLt ns' ms'=decide (items.size < items2.size):=by
    cases hvi with
    | nil=>
     cases hwi with
     | nil=>
      simp only[List.length_nil]at hlen
      rw[zfi]
      exact(decide_eq_false (by omega)).symm
     | cons c u hw=>
      simp only[List.length_nil,List.length_cons]at hlen
      rw[ze8]
      exact(decide_eq_true (by omega)).symm
    | cons a t hv=>
     cases hwi with
     | nil=>
      simp only[List.length_nil,List.length_cons]at hlen
      rw[ze7]
      exact(decide_eq_false (by omega)).symm
     | cons c u hw=>
      rw[List.zip_cons_cons]at hz
      cases hz
   rw[hv]at hR
   wp_walk
   exact⟨_,rfl,by simpa[Builtin.Tuple.tupleCompareSizes]using hR⟩
  case h=>
   exact⟨rfl,rfl,items.toList,items2.toList,ns,ms,rfl,hi,hj,by omega,h⟩
end
section
variable{prog:Program}{w:World}{A:Around}{E:Value->Shared->Prop}{s:Shared}
theorem lt_tupInts{l b:Addr}{items items2:Array Value}{ns ms:List Int}{Q:Value->Shared->Prop}(hl:IsTup s.heap l items)(hb:IsTup s.heap b items2)(hi:IntsAre items.toList ns)(hj:IntsAre items2.toList ms)
  (hu:A.units < cLine) (h:Q (.bool (lexLt ns ms)) s):wpAny (model prog w) A (compareOp .Lt (.ref l) (.ref b)) Q E s:=by
 obtain⟨⟨cls,dd,data,sl⟩,ho,hc,n,hd⟩:=id hl
 obtain⟨⟨cls2,dd2,data2,sl2⟩,ho2,hc2,n2,hd2⟩:=id hb
 simp only at hc hd hc2 hd2
 subst hc hd hc2 hd2
 exact richCompare_meets_room (op := .Lt) ⟨_,ho,rfl⟩ ⟨_,ho2,rfl⟩ PySem.F.slot_tuple_lt PySem.F.entry_tuple_lt (PySem.F.args_tuple_lt_2 _ _) (zhq l b items items2 n n2 dd dd2 sl sl2 ns ms hi hj)
  ⟨ho,ho2,show Value.bool (lexLt ns ms)≠Value.notImplemented/\Q (.bool (lexLt ns ms)) s from⟨(λx=>nomatch x),h⟩⟩ hu
theorem cat_tup{t b:Addr}{vs ws:List Value}{Q:Value->Shared->Prop}(ht:IsTup s.heap t vs.toArray)(hb:IsTup s.heap b ws.toArray)(hv:vs≠[])
  (h1:ws=[]->Q (.ref t) s) (h2:ws≠[]->Q (.ref s.heap.objs.size) { s with heap:=s.heap.push { cls := .type "tuple",data := .seq (vs ++ ws).toArray } })
  (hsz:vs.length + ws.length<=sizeLine):wpAny (model prog w) A (binaryOp .Add (.ref t) (.ref b)) Q E s:=by
 obtain⟨⟨cls,dd,data,sl⟩,ho,hc,n,hd⟩:=id ht
 obtain⟨⟨cls2,dd2,data2,sl2⟩,ho2,hc2,n2,hd2⟩:=id hb
 simp only at hc hd hc2 hd2
 subst hc hd hc2 hd2
 have e:vs.toArray ++ ws.toArray=(vs ++ ws).toArray:=by simp
 by_cases hw:ws=[]
 ·exact concat_meets ⟨_,ho,rfl⟩ ⟨_,ho2,rfl⟩ noFill_tuple_add seq_tuple_add PySem.F.slot_tuple_add PySem.F.entry_tuple_add (PySem.F.args_tuple_add_2 _ _)
   (tuple_addW1 t b vs.toArray ws.toArray n n2 dd dd2 sl sl2 (by simpa using hv) (by simp[hw])) ⟨ho,ho2,h1 hw⟩
 ·refine concat_meets ⟨_,ho,rfl⟩ ⟨_,ho2,rfl⟩ noFill_tuple_add seq_tuple_add PySem.F.slot_tuple_add PySem.F.entry_tuple_add (PySem.F.args_tuple_add_2 _ _)
   (tuple_addW2 t b vs.toArray ws.toArray n n2 dd dd2 sl sl2 (by simpa using hv) (by simpa using hw) (by rw[List.size_toArray,List.size_toArray];exact hsz)) ⟨ho,ho2,?_⟩
  rw[e]
  exact h2 hw
def sIx(n d:Nat):Option Int->Nat
 | none=>d
 | some v=>if v < 0 then(v + (n:Int)).toNat else min v.toNat n
theorem sIx_none(n d:Nat):sIx n d none=d:=rfl
theorem sIx_nat(n d k:Nat):sIx n d (some (k:Int))=min k n:=by
 show (if (k:Int) < 0 then((k:Int) + (n:Int)).toNat else min (k:Int).toNat n)=min k n
 rw[if_neg (by omega),Int.toNat_natCast]
end
end HT
namespace L2
open PySem PySem.Spec PyProof.Rows
abbrev TO:=St->Hp->(Option Int->Hp->Prop)->Prop
def PO(X:Cx)(e:Option Expr)(t:TO):Prop:=
 ∀(pins:List (Addr×Obj)) (s:Shared) (σ : St) (H:Hp) (Q:Option Int->Hp->Prop),Inv X pins σ H s->t σ H Q ->
  wpAny (model X.prog X.w) X.A (evalPart e X.env) (λu s'=>∃o H',Inv X pins σ H' s'/\IsPart u o/\Q o H') X.xe s
def tNoPart:TO:=λ_ H Q=>Q none H
def tPart(t:TE):TO:=λσ H Q=>t σ H λx H1=>∃i,x = .int i/\Q (some i) H1
theorem zd6{ns:List Int}:∀{us:List Value},Vals (ns.map V.int) us->IntsAre us ns:=by
 induction ns with
 | nil=>intro us r;rw[List.map_nil]at r;cases r;exact .nil
 | cons n ns ih=>
  intro us r
  rw[List.map_cons]at r
  cases r with
  | cons r1 r2=>
   obtain⟨t,e⟩:=r1
   subst e
   exact .cons n t (ih r2)
section
variable{X:Cx}{e:Expr}{te:TE}{lo hi:Option Expr}{tl th:TO}{pos p2:Pos}
theorem zj2:PO X none tNoPart:=by
 intro pins s σ H Q I h
 rw[evalPart_none]
 exact wpAny_pure ⟨none,H,I,.none,h⟩
theorem zgk(h:PE X e te):PO X (some e) (tPart te):=by
 intro pins s σ H Q I hw
 rw[evalPart_some]
 refine thn (h pins s σ H _ I hw) λu s1 ⟨x,H1,I1,r1,q1⟩ => ?_
 obtain⟨i,rfl,q⟩:=q1
 obtain⟨t,rfl⟩:=r1
 exact⟨some i,H1,I1,.int i t,q⟩
def SlR(X:Cx)(r:V->Option Int->Option Int->Hp->VK->Prop):Prop:=
 ∀(pins:List (Addr×Obj)) (s:Shared) (σ : St) (H:Hp) (x:V) (v vl vu:Value) (lo hi:Option Int) (sl:Addr) (Q:VK),Inv X pins σ H s->RelV x v->s.heap.IsSliceOf sl vl vu .none->IsPart vl lo->IsPart vu hi->r x lo hi H Q ->
  ∃T id,typeLookup (.type T) "__getitem__" = pure (some (.builtin id))/\s.TypeIs v T/\wpAny (model X.prog X.w) X.A (getItem v (.ref sl)) (EP X pins σ Q) X.xe s
def tSl(r:V->Option Int->Option Int->Hp->VK->Prop)(te:TE)(tl th:TO):TE:=λσ H Q=>te σ H λx H1=>tl σ H1 λl H2=>th σ H2 λu H3=>r x l u H3 Q
theorem zgh{r:V->Option Int->Option Int->Hp->VK->Prop}(hr:SlR X r)(he:PE X e te)(hl:PO X lo tl)(hu:PO X hi th):PE X (.Subscript e (.Slice lo hi none p2) pos) (tSl r te tl th):=by
 intro pins s σ H Q I h
 refine Subscript_ (thn (he pins s σ H _ I h) λv s1 ⟨x,H1,I1,r1,q1⟩ => ?_)
 refine wpAny_Slice (thn (hl pins s1 σ H1 _ I1 q1) λvl s2 ⟨l,H2,I2,pl,q2⟩=>thn (hu pins s2 σ H2 _ I2 q2) λvu s3 ⟨u,H3,I3,pu,q3⟩ => ?_)
 rw[evalPart_none]
 refine wpAny_pure ?_
 have I4:Inv X pins σ H3 { s3 with heap:=s3.heap.push { cls := .type "slice",data := .fields #[vl,vu,.none] } }:=I3.kept (t':=s3.toks) λb ob q=>Heap.get?_push_of_some _ q
 obtain⟨T,id,hT,ht,hg⟩:=hr pins { s3 with heap:=s3.heap.push { cls := .type "slice",data := .fields #[vl,vu,.none] } } σ H3 x v vl vu l u s3.heap.objs.size Q I4 r1 (Heap.IsSliceOf.new ..) pl pu q3
 show wpAny (model X.prog X.w) X.A (subscriptTail e (.Slice lo hi none p2) v (.ref s3.heap.objs.size)) (EP X pins σ Q) X.xe { s3 with heap:=s3.heap.push { cls := .type "slice",data := .fields #[vl,vu,.none] } }
 exact tail_any (ops:=[.ref s3.heap.objs.size,v]) ht hT hg (by with_unfolding_all rfl)
def cutV(xs:List V)(lo hi:Option Int):List V:=(xs.drop (HT.sIx xs.length 0 lo)).take (HT.sIx xs.length xs.length hi - HT.sIx xs.length 0 lo)
theorem zjp(xs:List V)(lo hi:Option Int):(cutV xs lo hi).length<=xs.length:=by
 unfold cutV
 rw[List.length_take,List.length_drop]
 omega
def rLtT(K:W.Frag):R2:=λx y H Q=>∃a b ns ms,x = .ref a/\y = .ref b/\SqT K H a (ns.map V.int)/\SqT K H b (ms.map V.int)/\Q (.bl (HT.lexLt ns ms)) H
theorem zus(hu:X.A.units < cLine):OpR X (compareOp .Lt) (rLtT X.K):=by
 intro pins s σ H x y v u Q I rx ry h
 obtain⟨a,b,ns,ms,rfl,rfl,ha,hb,q⟩:=h
 cases rx
 cases ry
 obtain⟨its,r1,p1,_⟩:=I.tuple ha
 obtain⟨its2,r2,p2,_⟩:=I.tuple hb
 have i1:IntsAre its.toArray.toList ns:=zd6 r1
 have i2:IntsAre its2.toArray.toList ms:=zd6 r2
 exact HT.lt_tupInts p1 p2 i1 i2 hu ⟨.bl (HT.lexLt ns ms),H,I,rfl,q⟩
def rCatT(K:W.Frag):R2:=λx y H Q=>∃a b xs ys,x = .ref a/\y = .ref b/\SqT K H a xs/\SqT K H b ys/\xs≠[]/\xs.length + ys.length<=sizeLine /\
 (ys=[]->Q (.ref a) H)/\(ys≠[]->∀p,H p=none->Q (.ref p) (upd H p (.tup (xs ++ ys))))
theorem Vals.nil_iff{xs:List V}{us:List Value}(r:Vals xs us):us=[]↔xs=[]:=by
 cases r with
 | nil=>simp
 | cons _ _=>simp
theorem zj1:OpR X (binaryOp .Add) (rCatT X.K):=by
 intro pins s σ H x y v u Q I rx ry h
 obtain⟨a,b,xs,ys,rfl,rfl,ha,hb,hx,hz,q1,q2⟩:=h
 cases rx
 cases ry
 obtain⟨its,r1,p1,_⟩:=I.tuple ha
 obtain⟨its2,r2,p2,_⟩:=I.tuple hb
 refine HT.cat_tup p1 p2 (λz=>hx (r1.nil_iff.mp z)) (λz=>⟨.ref a,H,I,rfl,q1 (r2.nil_iff.mp z)⟩) (λz => ?_) (by rw[<- r1.length,<- r2.length];exact hz)
 refine⟨.ref s.heap.objs.size,_,I.laid (t':=s.toks) (o := .tup (xs ++ ys)) (λb ob q=>Heap.get?_push_of_some _ q) (Nat.le_refl _) ?_,rfl,q2 (λw=>z (r2.nil_iff.mpr w)) _ (I.hok.fresh (Nat.le_refl _))⟩
 exact⟨by rw[List.length_append];exact hz,_,r1.append r2,IsTup.new _ _⟩
end
end L2
namespace L2
open PySem PySem.Spec PyProof.Rows
def ixN(n:Nat)(i:Int):Option Nat:=if 0<=i then(if i < n then some i.toNat else none) else if -(n:Int)<=i then some (i + n).toNat else none
def atI{α : Type}(xs:List α)(i:Int):Option α:=(ixN xs.length i).bind λj=>xs[j]?
theorem zsp{n:Nat}{i:Int}{j:Nat}(h:ixN n i=some j):seqIndex? i n=some j/\j < n/\-(n:Int)<=i/\i < n:=by
 unfold ixN at h
 by_cases h0:0<=i
 ·rw[if_pos h0]at h
  by_cases h1:i < n
  ·rw[if_pos h1]at h
   have e:i.toNat=j:=Option.some.inj h
   exact⟨by rw[seqIndex_of h0 h1,e],by omega,by omega,h1⟩
  ·rw[if_neg h1]at h;cases h
 ·rw[if_neg h0]at h
  by_cases h1 : -(n:Int)<=i
  ·rw[if_pos h1]at h
   have e:(i + n).toNat=j:=Option.some.inj h
   exact⟨by rw[seqIndex_neg (by omega) h1,e],by omega,h1,by omega⟩
  ·rw[if_neg h1]at h;cases h
theorem zn6{α : Type}{xs:List α}{i:Int}{v : α}(h:atI xs i=some v):∃j,seqIndex? i xs.length=some j/\xs[j]? = some v/\j < xs.length/\-(xs.length:Int)<=i/\i < xs.length:=by
 unfold atI at h
 cases e:ixN xs.length i with
 | none=>rw[e]at h;cases h
 | some j=>
  rw[e]at h
  obtain⟨h1,h2,h3,h4⟩:=zsp e
  exact⟨j,h1,h,h2,h3,h4⟩
theorem zdz{α : Type}{xs:List α}{j:Nat}{v : α}(h:xs[j]? = some v):atI xs (j:Int)=some v:=by
 have hj:j < xs.length:=(List.getElem?_eq_some_iff.mp h).1
 have e:ixN xs.length (j:Int)=some j:=by
  unfold ixN
  rw[if_pos (by omega),if_pos (by omega)];simp
 unfold atI;rw[e];exact h
def PlainIx(b:Expr):Prop:=∀o i,subscripted b false o i=operate [o,i] (getItem o i)
def IxR(X:Cx)(r:R2):Prop:=
 ∀(value slice:Expr) (pins:List (Addr×Obj)) (s:Shared) (σ : St) (H:Hp) (x y:V) (v u:Value) (Q:VK),Inv X pins σ H s->RelV x v->RelV y u->r x y H Q ->
  subscripted slice false v u=operate [v,u] (getItem v u)->wpAny (model X.prog X.w) X.A (subscriptTail value slice v u) (EP X pins σ Q) X.xe s
def MtR(X:Cx)(id:String)(r:V->List V->Hp->VK->Prop):Prop:=
 ∀(pins:List (Addr×Obj)) (s:Shared) (σ : St) (H:Hp) (x:V) (xs:List V) (v:Value) (us:List Value) (Q:VK),Inv X pins σ H s->RelV x v->Vals xs us->r x xs H Q ->
  wpAny (model X.prog X.w) X.A (call (.builtin id) (v :: us)) (EP X pins σ Q) X.xe s
section
variable{X:Cx}{a b:Expr}{ta tb:TE}{pos:Pos}
theorem zaz{r:R2}(hr:IxR X r)(ha:PE X a ta)(hb:PE X b tb)(hs:PlainIx b):PE X (.Subscript a b pos) (tOp r ta tb):=by
 intro pins s σ H Q I h
 exact Subscript_ (binT ha hb I h λv u s2 x y H2 I2 rx ry q=>hr a b pins s2 σ H2 x y v u Q I2 rx ry q (hs _ _))
def rIxL(K:W.Frag):R2:=λx y H Q=>∃p xs i v,x = .ref p/\y = .int i/\SqL K H p xs/\atI xs i=some v/\Q v H
def rIxT(K:W.Frag):R2:=λx y H Q=>∃p xs i v,x = .ref p/\y = .int i/\SqT K H p xs/\atI xs i=some v/\Q v H
theorem zd4:IxR X (rIxL X.K):=by
 intro value slice pins s σ H x y v u Q I rx ry h hs
 obtain⟨p,xs,i,z,rfl,rfl,hq,he,q⟩:=h
 cases rx
 obtain⟨t,rfl⟩:=ry
 obtain⟨its,r,pl,hz⟩:=I.list hq
 obtain⟨j,h1,h2,h3,h4,h5⟩:=zn6 he
 obtain⟨w,ew,rw'⟩:=r.get h2
 have hl:=r.length
 have hn:=line63
 have fin:EP X pins σ Q w s:=⟨z,H,I,rw',q⟩
 by_cases h0:0<=i
 ·have hj:i.toNat=j:=by
   rw[seqIndex_of h0 h5]at h1
   exact Option.some.inj h1
  exact item_listR pl.isList h0 (by omega) (by rw[hj];simpa using ew) fin hs
 ·have hj:(i + (its.toArray.size:Int)).toNat=j:=by
   rw[seqIndex_neg (by omega) h4]at h1
   rw[List.size_toArray,<- hl]
   exact Option.some.inj h1
  exact subscriptTail_builtinR (x:=w) pl.isList.typeIs slot_list_getitem.lookup
   (wpAny_getItem_list_neg (Q:=λr s'=>r=w/\EP X pins σ Q r s') pl.isList (by omega) (by rw[List.size_toArray] <;> omega) (by omega) (by rw[hj];simpa using ew) ⟨rfl,fin⟩) hs
theorem zax:IxR X (rIxT X.K):=by
 intro value slice pins s σ H x y v u Q I rx ry h hs
 obtain⟨p,xs,i,z,rfl,rfl,hq,he,q⟩:=h
 cases rx
 obtain⟨t,rfl⟩:=ry
 obtain⟨its,r,pl,hz⟩:=I.tuple hq
 obtain⟨j,h1,h2,h3,h4,h5⟩:=zn6 he
 obtain⟨w,ew,rw'⟩:=r.get h2
 have hl:=r.length
 have hn:=line63
 have fin:EP X pins σ Q w s:=⟨z,H,I,rw',q⟩
 exact subscriptTail_builtinR (x:=w) pl.typeIs slot_tuple_getitem.lookup
  (getItem_tuple (j:=j) (Q:=λr s'=>r=w/\EP X pins σ Q r s') pl (by omega) (by omega) (by rw[List.size_toArray,<- hl];exact h1) (by simpa using ew) ⟨rfl,fin⟩) hs
theorem Inv.lst{pins:List (Addr×Obj)}{σ : St}{H:Hp}{s:Shared}{p:Addr}{xs:List V}(I:Inv X pins σ H s)(h:H p=some (.lst xs)) :
  ∃(its:List Value) (n:Nat),Vals xs its/\s.heap.get? p=some { cls := .type "list",data := .seq its.toArray n }/\xs.length<=sizeLine:=by
 obtain⟨z,its,n,r,e⟩:=I.hok p _ h
 exact⟨its,n,r,e,z⟩
theorem zjl(lo hi:Option Int)(n:Nat):(sliceBounds lo hi none n).1=((HT.sIx n 0 lo:Nat):Int)/\(sliceBounds lo hi none n).2.1=((HT.sIx n n hi:Nat):Int)/\(sliceBounds lo hi none n).2.2=1:=by
 refine⟨?_,?_,rfl⟩
 ·cases lo with
  | none=>simp[sliceBounds,HT.sIx]
  | some i=>
   simp only[sliceBounds,HT.sIx,Option.getD_none,show (1:Int) > 0 by decide,if_true]
   by_cases h:i < 0
   ·simp only[h,if_true] <;> omega
   ·simp only[h,if_false] <;> omega
 ·cases hi with
  | none=>simp[sliceBounds,HT.sIx]
  | some i=>
   simp only[sliceBounds,HT.sIx,Option.getD_none,show (1:Int) > 0 by decide,if_true]
   by_cases h:i < 0
   ·simp only[h,if_true] <;> omega
   ·simp only[h,if_false] <;> omega
theorem zh8(its:List Value)(lo hi:Option Int):slicePick its.toArray lo hi none=((its.drop (HT.sIx its.length 0 lo)).take (HT.sIx its.length its.length hi - HT.sIx its.length 0 lo)).toArray:=by
 obtain⟨h1,h2,h3⟩:=zjl lo hi its.toArray.size
 unfold slicePick
 rw[h1,h2,h3]
 simp only[sliceRange_one,pick_run,List.size_toArray] <;> rfl
def rSlL(K:W.Frag):V->Option Int->Option Int->Hp->VK->Prop:=λx lo hi H Q=>∃a xs,x = .ref a/\SqL K H a xs/\∀p,H p=none->Q (.ref p) (upd H p (.lst (cutV xs lo hi)))
theorem zsw:SlR X (rSlL X.K):=by
 intro pins s σ H x v vl vu lo hi sl Q I rx hs pl pu h
 obtain⟨a,xs,rfl,hx,q⟩:=h
 cases rx
 obtain⟨its,r,ht,hz⟩:=I.list hx
 have hlen:=r.length
 refine⟨"list",_,slot_list_getitem.lookup,ht.isList.typeIs,?_⟩
 refine wpAny_getItem_list_slice ht.isList hs pl pu .none (by simp) ?_ (by rw[List.size_toArray] <;> omega)
 rw[zh8,<- hlen]
 refine⟨.ref s.heap.objs.size,_,I.laid (t':=s.toks) (o := .lst (cutV xs lo hi)) (λb ob q=>Heap.get?_push_of_some _ q) (Nat.le_refl _) ?_,rfl,q _ (I.hok.fresh (Nat.le_refl _))⟩
 exact⟨Nat.le_trans (zjp xs lo hi) hz,_,0,(r.drop (HT.sIx xs.length 0 lo)).take (HT.sIx xs.length xs.length hi - HT.sIx xs.length 0 lo),Heap.get?_push_size _ rfl⟩
theorem zjd:CallR X (.builtin "len") (λxs H Q=>∃p ys,xs=[.ref p]/\(SqL X.K H p ys\/SqT X.K H p ys)/\Q (.int ys.length) H):=by
 intro pins s σ H xs us Q I r h
 obtain⟨p,ys,rfl,hq,q⟩:=h
 obtain⟨u,rfl,rx⟩:=vals1 r
 cases rx
 have hn:=line63
 rcases hq with hq | hq
 ·obtain⟨its,r',pl,hz⟩:=I.list hq
  have hlen:=r'.length
  exact Calls.call_len_list pl.isList (by simp only[List.size_toArray] <;> omega) ⟨.int ys.length,H,I.tok _,⟨s.toks + 1,by rw[List.size_toArray,hlen]⟩,q⟩
 ·obtain⟨its,r',pl,hz⟩:=I.tuple hq
  have hlen:=r'.length
  exact len_tuple pl (by simp only[List.size_toArray] <;> omega) ⟨.int ys.length,H,I.tok _,⟨s.toks + 1,by rw[List.size_toArray,hlen]⟩,q⟩
theorem zi6:CallR X (.builtin "len") (λxs H Q=>∃z,xs=[.str z]/\z.length<=sizeLine/\Q (.int z.length) H):=by
 intro pins s σ H xs us Q I r h
 obtain⟨z,rfl,hz,q⟩:=h
 obtain⟨u,rfl,t,rfl⟩:=vals1 r
 have hn:=line63
 exact len_str (by omega) ⟨.int z.length,H,I.tok _,⟨_,rfl⟩,q⟩
theorem zi1:CallR X (.type "list") (λxs H Q=>∃p ys,xs=[.ref p]/\(SqL X.K H p ys\/SqT X.K H p ys)/\∀l,H l=none->Q (.ref l) (upd H l (.lst ys))):=by
 intro pins s σ H xs us Q I r h
 obtain⟨p,ys,rfl,hq,q⟩:=h
 obtain⟨u,rfl,rx⟩:=vals1 r
 cases rx
 have fin:∀(its:List Value),Vals ys its->ys.length<=sizeLine->∀(h':Heap) (c':Nat),(∀b o',s.heap.get? b=some o'->h'.get? b=some o') ->
   h'.get? s.heap.objs.size=some { cls := .type "list",dict:=none,data := .seq its.toArray c',slots := #[] }->EP X pins σ Q (.ref s.heap.objs.size) { s with heap:=h' }:=λits r' hz h' c' kp e=>
  ⟨.ref s.heap.objs.size,_,I.laid (t':=s.toks) kp (Nat.le_refl _) (show ObjOk X.prog X.w _ h' _ (.lst ys) from⟨hz,its,c',r',e⟩),rfl,q _ (I.hok.fresh (Nat.le_refl _))⟩
 rcases hq with hq | hq
 ·obtain⟨its,r',pl,hz⟩:=I.list hq
  have hlen:=r'.length
  obtain⟨o,ho,hc,n,hd⟩:=pl.isList
  exact call_list_seq p (.inl rfl) ho hc hd (λh' c' kp e=>fin its r' hz h' c' kp e) (by simp only[List.size_toArray] <;> omega)
 ·obtain⟨its,r',pl,hz⟩:=I.tuple hq
  have hlen:=r'.length
  obtain⟨o,ho,hc,n,hd⟩:=pl
  exact call_list_seq p (.inr rfl) ho hc hd (λh' c' kp e=>fin its r' hz h' c' kp e) (by simp only[List.size_toArray] <;> omega)
theorem zh2:CallR X (.type "tuple") (λxs H Q=>∃p ys,xs=[.ref p]/\((SqL X.K H p ys/\∀l,H l=none->Q (.ref l) (upd H l (.tup ys)))\/(SqT X.K H p ys/\Q (.ref p) H))):=by
 intro pins s σ H xs us Q I r h
 obtain⟨p,ys,rfl,h⟩:=h
 obtain⟨u,rfl,rx⟩:=vals1 r
 cases rx
 rcases h with⟨hq,q⟩ | ⟨hq,q⟩
 ·obtain⟨its,r',pl,hz⟩:=I.list hq
  have hlen:=r'.length
  refine call_tuple_list pl.isList (λh' kp => ?_) (by simp only[List.size_toArray] <;> omega)
  have I1:Inv X pins σ H { s with heap:=h' }:=I.kept (t':=s.toks) kp
  have I2:Inv X pins σ (upd H h'.objs.size (.tup ys)) { s with heap:=h'.push { cls := .type "tuple",data := .seq its.toArray } }:=
   I1.laid (t':=s.toks) (λb o e=>Heap.get?_push_of_some _ e) (Nat.le_refl _) (show ObjOk X.prog X.w _ _ _ (.tup ys) from⟨hz,its,r',IsTup.new _ _⟩)
  exact⟨.ref h'.objs.size,_,I2,rfl,q _ (I1.hok.fresh (Nat.le_refl _))⟩
 ·obtain⟨its,r',pl,hz⟩:=I.tuple hq
  exact call_tuple_same pl ⟨.ref p,H,I,rfl,q⟩
def tyV(K:W.Frag)(T:String)(x:V)(H:Hp):Prop:=match x with
 | .str _=>T = "str"
 | .int _=>T = "int"
 | .ref p=>(T = "list"/\∃xs,SqL K H p xs)\/(T = "tuple"/\∃o,K.lookup p=some o/\o.cls = .type "tuple"/\o.dict=none) \/
   (T = "dict"/\((∃kvs,H p=some (.dK kvs))\/∃kvs,H p=some (.dT kvs)))\/(T = "set"/\∃S n,H p=some (.set S n))
 | _=>False
theorem zra{pins:List (Addr×Obj)}{σ : St}{H:Hp}{s:Shared}{T:String}{x:V}{v:Value}(I:Inv X pins σ H s)(r:RelV x v)(ty:tyV X.K T x H) :
  s.TypeIs v T/\∀a,v = .ref a->∃ob,s.heap.get? a=some ob/\ob.dict=none:=by
 cases x with
 | str z=>
  obtain⟨t,rfl⟩:=r
  cases (show T = "str" from ty)
  exact⟨typeIs_str s z t,λ_ e=>nomatch e⟩
 | int i=>
  obtain⟨t,rfl⟩:=r
  cases (show T = "int" from ty)
  exact⟨typeIs_int s i t,λ_ e=>nomatch e⟩
 | ref p=>
  cases r
  rcases ty with⟨rfl,xs,hq⟩ | ⟨rfl,o,hk,hc,hd⟩ | ⟨rfl,hk⟩ | ⟨rfl,S,n,hk⟩
  ·obtain⟨its,_,pl,_⟩:=I.list hq
   refine⟨pl.isList.typeIs,λa e => ?_⟩
   cases e
   obtain⟨o,n,e,c,hd,_⟩:=pl
   exact⟨o,e,hd⟩
  ·refine⟨⟨o,I.kIn p o hk,hc⟩,λa e => ?_⟩
   cases e
   exact⟨o,I.kIn _ o hk,hd⟩
  ·have z:∃o,s.heap.get? p=some o/\o.ExactDict:=by
    rcases hk with⟨kvs,hk⟩ | ⟨kvs,hk⟩
    ·obtain⟨_,_,_,_,o,_,_,e,ex,_⟩:=I.hok p _ hk
     exact⟨o,e,ex⟩
    ·obtain⟨_,_,_,_,o,_,_,e,ex,_⟩:=I.hok p _ hk
     exact⟨o,e,ex⟩
   obtain⟨o,e,ex⟩:=z
   refine⟨⟨o,e,ex.1⟩,λa e2 => ?_⟩
   cases e2
   exact⟨o,e,ex.2.1⟩
  ·obtain⟨o,_,_,_,e,ex,_⟩:=I.hok p _ hk
   refine⟨⟨o,e,ex.1⟩,λa e2 => ?_⟩
   cases e2
   exact⟨o,e,ex.2.1⟩
 | _=>exact False.elim ty
def tBM0(K:W.Frag)(T:String)(r:V->List V->Hp->VK->Prop)(to:TE):TE:=λσ H Q=>to σ H λx H1=>tyV K T x H1/\r x [] H1 Q
def tBM(K:W.Frag)(T:String)(r:V->List V->Hp->VK->Prop)(to:TE)(t:TA):TE:=λσ H Q=>to σ H λx H1=>tyV K T x H1/\t σ H1 λxs H2=>r x xs H2 Q
variable{o e:Expr}{es:List Expr}{to:TE}{t:TA}{name:Str}{apos cpos:Pos}{T id:String}{r:V->List V->Hp->VK->Prop}
theorem zrl(pa:PlainAttrs T)(slot:Slot T name id)(hty:typeOf (.builtin id)=pure (.type "method_descriptor"))(hm:MtR X id r)(ho:PE X o to)
  (hbase:attributeBase o name X.env (eval o X.env)=eval o X.env:=by rfl) (hline:(apos.endLine == cpos.line)=true:=by rfl):PE X (.Call (.Attribute o name apos) [] [] cpos) (tBM0 X.K T r to):=by
 intro pins s σ H Q I h
 refine wpAny_Call_method0_late hbase hline (thn (ho pins s σ H _ I h) λv s1 ⟨x,H1,I1,r1,ty,q1⟩ => ?_)
 obtain⟨h1,h2⟩:=zra I1 r1 ty
 exact⟨T,id,pa,slot,hty,h1,h2,Calls.callWith_builtin rfl (PySem.evalArgs_none (hm pins s1 σ H1 x [] v [] Q I1 r1 .nil q1))⟩
theorem ztn(pa:PlainAttrs T)(slot:Slot T name id)(hty:typeOf (.builtin id)=pure (.type "method_descriptor"))(hm:MtR X id r)(ho:PE X o to)(ha:PA X (e :: es) t)
  (hbase:attributeBase o name X.env (eval o X.env)=eval o X.env:=by rfl)
  (hfew:((backTo cpos (starEach (e :: es) X.env)).all (λx => !x.1) && (backToKw cpos (keywordEach [] X.env)).all (λx=>x.1.isSome)
   && decide ((e :: es).length + ([]:List Keyword).length + (if ([]:List Keyword).isEmpty then 0 else 1) < 30))=true:=by rfl)
  (hline:(apos.endLine == cpos.line)=true:=by rfl) (hs:starEach (e :: es) X.env=(false,eval e X.env) :: starEach es X.env:=by rfl) (hplain:(backTo cpos (starEach es X.env)).any (·.1)=false:=by rfl) :
  PE X (.Call (.Attribute o name apos) (e :: es) [] cpos) (tBM X.K T r to t):=by
 intro pins s σ H Q I h
 refine wpAny_Call_method_late hbase hfew hline rfl (thn (ho pins s σ H _ I h) λv s1 ⟨x,H1,I1,r1,ty,q1⟩ => ?_)
 obtain⟨h1,h2⟩:=zra I1 r1 ty
 refine⟨T,id,pa,slot,hty,h1,h2,?_⟩
 have hA:=ha cpos pins s1 σ H1 _ I1 q1
 rw[hs]at hA ⊢
 refine Calls.callWith_builtin (by show (false || (backTo cpos (starEach es X.env)).any (·.1))=false;rw[hplain] <;> rfl) (Calls.evalArgs_plain ?_)
 exact thn hA λus s2 ⟨vs,H2,I2,r2,q2⟩=>hm pins s2 σ H2 x vs v us Q I2 r1 r2 q2
/- xs.append(e),list.index on a module's tuple .. are MtR facts of 06m -/
end
end L2
namespace L2
open PySem PySem.Spec PyProof.Rows
def MtM(X:Cx)(id:String)(r:V->List V->Hp->VK->Prop):Prop:=
 ∀(pins:List (Addr×Obj)) (s:Shared) (σ : St) (H:Hp) (x:V) (xs:List V) (v:Value) (us:List Value) (Q:VK),Inv X pins σ H s->RelV x v->Vals xs us->r x xs H Q ->
  wpAny (model X.prog X.w) X.A (call (.builtin id) (v :: us)) (EP X pins σ Q) X.xe s
theorem Vals.one:∀{x:V} {us:List Value},Vals [x] us->∃u,us=[u]/\RelV x u
 | _,_,.cons r .nil=>⟨_,rfl,r⟩
theorem Vals.two:∀{x y:V} {us:List Value},Vals [x,y] us->∃u v,us=[u,v]/\RelV x u/\RelV y v
 | _,_,_,.cons r (.cons q .nil)=>⟨_,_,rfl,r,q⟩
theorem Vals.zero:∀{us:List Value},Vals [] us->us=[]
 | _,.nil=>rfl
theorem Vals.dropLast{xs:List V}{us:List Value}(h:Vals xs us):Vals xs.dropLast us.dropLast:=by
 induction h with
 | nil=>exact .nil
 | cons r t ih=>
  cases t with
  | nil=>exact .nil
  | cons q t'=>exact .cons r ih
theorem zlk{α : Type}(l:List α):l.eraseIdx (l.length - 1)=l.dropLast:=by
 induction l with
 | nil=>rfl
 | cons a r ih=>
  cases r with
  | nil=>rfl
  | cons b r=>
   have e:(a :: b :: r).length - 1=((b :: r).length - 1) + 1:=by
    have h1:(a :: b :: r).length=r.length + 2:=rfl
    have h2:(b :: r).length=r.length + 1:=rfl
    omega
   rw[e,List.eraseIdx_cons_succ,ih]
   all_goals rfl
section
variable{X:Cx}{pins:List (Addr×Obj)}{σ : St}{H:Hp}{s:Shared}{l b:Addr}{xs ys zs:List V}
theorem Inv.lset{its its':List Value}{n:Nat}{f:Array Value->Array Value}{t':Nat}(I:Inv X pins σ H s)(hH:H l=some (.lst xs))
  (e:s.heap.get? l=some { cls := .type "list",data := .seq its.toArray n }) (hf:f its.toArray=its'.toArray) (hv:Vals ys its') (hz:ys.length<=sizeLine) :
  Inv X pins σ (upd H l (.lst ys)) { s with heap:=s.heap.update l (Obj.mapSeq f),toks:=t' }:=by
 have q:=PySem.IsL.update e f
 rw[hf]at q
 refine I.write (x:=l) (e:=l) (by rw[hH];exact trivial) (.inl rfl) (λb' u hb hu=>(Heap.get?_update_other s.heap (Obj.mapSeq f) (Ne.symm hb)).trans hu) ⟨_,q⟩ ?_
 exact⟨hz,its',_,hv,q⟩
theorem Inv.lnew{its:List Value}{t':Nat}(I:Inv X pins σ H s)(hv:Vals ys its)(hz:ys.length<=sizeLine) :
  Inv X pins σ (upd H s.heap.objs.size (.lst ys)) { s with heap:=s.heap.push { cls := .type "list",data := .seq its.toArray },toks:=t' }:=
 I.laid (λ_ _ q=>Heap.get?_push_of_some _ q) (Nat.le_refl _) ⟨hz,its,0,hv,Heap.get?_push_size _ rfl⟩
theorem Inv.fresh(I:Inv X pins σ H s):H s.heap.objs.size=none:=I.hok.fresh (Nat.le_refl _)
theorem Inv.lstM(I:Inv X pins σ H s)(hH:H l=some (.lst xs)):xs.length<=sizeLine/\∃(its:List Value) (n:Nat),Vals xs its/\xs.length=its.length/\s.heap.get? l=some { cls := .type "list",data := .seq its.toArray n }:=by
 obtain⟨z,its,n,r,e⟩:=I.hok l _ hH
 exact⟨z,its,n,r,r.length,e⟩
end
section
variable{X:Cx}
def rAppend:V->List V->Hp->VK->Prop:=λx vs H Q=>∃l xs y,x = .ref l/\vs=[y]/\H l=some (.lst xs)/\xs.length < sizeLine/\Q .non (upd H l (.lst (xs ++ [y])))
theorem zir:MtM X "list.append" rAppend:=by
 intro pins s σ H x vs v us Q I rx rv h
 obtain⟨l,xs,y,rfl,rfl,hH,hz,q⟩:=h
 cases rx
 obtain⟨u,rfl,ru⟩:=rv.one
 obtain⟨z,its,n,r,hl,e⟩:=I.lstM hH
 refine call_meets F.slot_list_append ⟨_,e,rfl⟩ F.entry_list_append (F.args_list_append_2 _ _) (PySem.list_append l its.toArray n u (by rw[List.size_toArray];omega)) ⟨e,?_⟩
 refine⟨.non,_,I.lset (its':=its ++ [u]) hH e (by simp) (r.append (.cons ru .nil)) ?_,rfl,q⟩
 rw[List.length_append,List.length_singleton]
 omega
def rPop:V->List V->Hp->VK->Prop:=λx vs H Q=>∃l xs y,x = .ref l/\vs=[]/\H l=some (.lst xs)/\xs[xs.length - 1]? = some y/\Q y (upd H l (.lst xs.dropLast))
theorem zvf:MtM X "list.pop" rPop:=by
 intro pins s σ H x vs v us Q I rx rv h
 obtain⟨l,xs,y,rfl,rfl,hH,hy,q⟩:=h
 cases rx
 have hus:=rv.zero
 subst hus
 obtain⟨z,its,n,r,hl,e⟩:=I.lstM hH
 obtain⟨u,hu,ru⟩:=r.get hy
 have hy':its.toArray[its.toArray.size - 1]? = some u:=by
  show its.toArray[its.length - 1]? = some u
  rw[<- Array.getElem?_toList,<- hl]
  exact hu
 refine call_meets F.slot_list_pop ⟨_,e,rfl⟩ F.entry_list_pop (F.args_list_pop_1 _) (MeetsSeq.list_pop_last l its.toArray n u hy' (by rw[List.size_toArray];omega)) ⟨e,?_⟩
 refine⟨y,_,I.lset (its':=its.dropLast) hH e ?_ r.dropLast ?_,ru,q⟩
 ·show its.toArray.eraseIdxIfInBounds (its.toArray.size - 1)=its.dropLast.toArray
  rw[List.size_toArray,List.eraseIdxIfInBounds_toArray,zlk]
 ·rw[List.length_dropLast]
  omega
def rCat:R2:=λx y H Q=>∃l b xs zs,x = .ref l/\y = .ref b/\H l=some (.lst xs)/\H b=some (.lst zs)/\xs.length + zs.length<=sizeLine/\∀p,H p=none->Q (.ref p) (upd H p (.lst (xs ++ zs)))
theorem zqw:OpR X (binaryOp .Add) rCat:=by
 intro pins s σ H x y v u Q I rx ry h
 obtain⟨l,b,xs,zs,rfl,rfl,hH,hB,hz,q⟩:=h
 cases rx
 cases ry
 obtain⟨z,its,n,r,hl,e⟩:=I.lstM hH
 obtain⟨z2,its2,n2,r2,hl2,e2⟩:=I.lstM hB
 refine PySem.P.add_list e e2 ?_ (by rw[List.size_toArray,List.size_toArray];omega)
 have ea:its.toArray ++ its2.toArray=(its ++ its2).toArray:=by simp
 rw[ea]
 exact⟨.ref _,_,I.lnew (t':=s.toks) (r.append r2) (by rw[List.length_append];omega),rfl,q _ I.fresh⟩
end
section
variable{prog:Program}{w:World}{A:Around}{E:Value->Shared->Prop}{s:Shared}
end
section
variable{X:Cx}
end
end L2
namespace Att
open PySem PySem.W PySem.Calls PyProof.Rows
theorem zgv{P:Params}{h:Heap}:∀(ns:List Int) (vs:List Value),WellAll P h vs (ns.map WData.int)->IntsAre vs ns:=by
 intro ns
 induction ns with
 | nil=>
  intro vs w
  rw[List.map_nil]at w
  cases w
  exact .nil
 | cons n ns ih=>
  intro vs w
  rw[List.map_cons]at w
  cases w with
  | cons a b=>
   cases a
   exact .cons _ _ (ih _ b)
theorem zmy{l:OpenLaw}{n:Nat}(hn:l.most=some n){P:Params}{h:Heap}{args:List WData}{vals:List Value}
  (hpre:l.row.toRowW.claim.pre args=true) (hwl:WellAll P h vals args) :
  ∃a vs ns,vals=[Value.ref a]/\args=[WData.list (ns.map WData.int)]/\h.get? a=some { cls := .type "list",data := .seq vs.toArray }/\IntsAre vs ns/\ns.length<=n:=by
 have hsh:WShape.hasAll [] args [.list .int]=true:=(pre_splitW hpre).1
 have hc:l.pre.holds [] { args:=args }=true:=(pre_splitW hpre).2
 obtain⟨d,r,rfl,h1,h2⟩:=hasAllW_cons hsh
 obtain rfl:=hasAllW_nil h2
 obtain⟨xs,rfl,h3⟩:=hasW_list h1
 obtain⟨ns,rfl⟩:=items_int h3
 have hlen:ns.length<=n:=by
  unfold OpenLaw.pre at hc
  have h4:(WTm.not (.lt (.lit (.int (n:Int))) (.len (.arg 0)))).holds [] { args:=[.list (ns.map .int)] }=true:=by
   have h4:=(holds_andW hc).1
   rw[hn]at h4
   exact h4
  have h5:=condW_of h4 (w_not (w_lt w_lit (w_len_list (w_arg rfl))))
  rw[List.length_map]at h5
  refine Nat.le_of_not_lt λq => ?_
  have q':(n:Int) < ((ns.length:Nat):Int):=by omega
  first
   | (rw[decide_eq_true q']at h5;exact absurd h5 (by decide))
   | (simp at h5;omega)
 cases hwl with
 | cons w1 w2=>
  cases w2
  cases w1 with
  | list ho hall=>exact⟨_,_,ns,rfl,rfl,ho,zgv ns _ hall,hlen⟩
theorem zon(l:OpenLaw)(args:List WData):l.row.toRowW.claim.post args (.bool true) args=true:=
 postW_of (r:=l.row.toRowW) (X:=(true == true))
  (show WShape.has [] (.bool true) .bool=true by first | rfl | decide | simp[WShape.has,WShape.arms,WShape.armsAll])
  (show (WTm.eq .res (.lit (.bool true))).value [] { args:=args,res:=some (.bool true),after:=args }=some (.bool (true == true)) from w_eq_bool (w_res rfl) w_lit) rfl
theorem attach_call{l:OpenLaw}{n:Nat}{q:Program}{loose:List Str}{XP:(Str->Option Value)->Heap->Prop}{YP:World->Heap->Prop}{d:DefRec}
  (hn:l.most=some n) (hdf:d.params.defaults=[])
  (call:∀(w:World) (s₀ s₁:Shared) (mg mb:Str->Option Value) (fa:Addr) (o:Obj) (pm cd doc:Value) (a:Addr) (vs:List Value) (ns:List Int),
   Ground q loose [] XP w s₀ mg mb s₁.heap->YP w s₁.heap ->
   s₁.heap.get? fa=some o->o.data = .func (docDef d.name d.params d.body d.scope pm cd doc)->s₁.heap.CodeRec cd d.name->mg d.name=some (.ref fa) ->
   s₁.heap.get? a=some { cls := .type "list",data := .seq vs.toArray }->IntsAre vs ns->ns.length<=n->s₁.gens = #[] ->
   codeAny (model l.prog w) callerA (.call (.ref fa) ⟨[.ref a],[]⟩) (λr s'=>r = .ok (.ret (.bool true))/\OldK s₁.heap s'.heap/\s'.os=s₁.os/\AllBare s'.gens) s₁) :
  WalkO q loose XP YP l.row.toRowW d [] (λf vs=>PySem.call f vs):=by
 intro w s₀ s₁ mg mb G Y fa o pm cd doc dV kV ho hd hcd hD hmg hg args vals as hpre hlay hrd hwl hlo
 obtain rfl:dV = .none:=Dflts.none hD hdf
 obtain rfl:kV = .none:=Dflts.noKw hD
 obtain⟨a,vs,ns,rfl,rfl,hobj,hints,hlen⟩:=zmy hn hpre hwl
 refine enter_call (codeAny_mono (call w s₀ s₁ mg mb fa o pm cd doc a vs ns G Y ho (fd_plain hd) hcd hmg hobj hints hlen hg) λr s' hq => ?_)
 obtain⟨rfl,h2,h3,h4⟩:=hq
 exact⟨.inl ⟨.bool true,.bool true,[],rfl,λ_=>rfl,.bool true,zon l _,λ_=>⟨List.Pairwise.nil,λ_ hm=>(nomatch hm)⟩⟩,h2,h3,h4⟩
section
variable{prog:Program}{w:World}{A:Around}{E:Value->Shared->Prop}{s:Shared}{K:Frag}
end
end Att
namespace L2
open PySem PySem.Spec PyProof.Rows
theorem zi9:∀{vs:List Value} {ns:List Int},IntsAre vs ns->Vals (ns.map V.int) vs
 | _,_,.nil => .nil
 | _,_,.cons n t h => .cons ⟨t,rfl⟩ (zi9 h)
def Only(H:Hp):Prop:=∀b,H b=none\/∃o xs,H b=some (.frz o (.lst xs))
theorem zps{P:Program}{w:World}{K:W.Frag}{mg mb:Str->Option Value}{CX:CXT}{k:Nat}{fa a:Addr}{fd:FuncData}{x:Str}{sp:Sp}{s₁:Shared}{vs:List Value}{ns:List Int}
  (KX:K.In s₁.heap) (hns:s₁.heap.Ns mainGlobals mg) (hb:s₁.heap.Ns builtinsNs mb) (hbb:∀x:Str,x≠"__name__"->mb x=bootBuiltins x) (hlim:s₁.heap.NoLimit) (hg:s₁.gens = #[])
  (ha:s₁.heap.get? a=some { cls := .type "list",data := .seq vs.toArray }) (hi:IntsAre vs ns) (hl:ns.length<=sizeLine) (hr:Room k callerA)
  (F:∀base:Heap,K.In base->base.Ns mainGlobals mg->FnOk P w K mg base CX k fa fd [x] sp) (hbind:∀(s:Shared) (u:Value),BindsTo s fd ⟨[u],[]⟩ [(x,u)])
  (hsp:∀H:Hp,Only H->SqL K H a (ns.map V.int)->sp [.ref a] H (λv _=>v = .bl true) λ_ _ _=>False)
  (hCX:∀H e s',CX [] H s₁ (λ_ _ _=>False) e s'->False) :
  codeAny (model P w) callerA (.call (.ref fa) ⟨[.ref a],[]⟩) (λr s'=>r = .ok (.ret (.bool true))/\OldK s₁.heap s'.heap/\s'.os=s₁.os/\AllBare s'.gens) s₁:=by
 have rv:=zi9 hi
 have lenV:=hi.length
 -- from an abstract heap in which nothing but the script may be tracked
 have core:∀H:Hp,Only H->SqL K H a (ns.map V.int)->HOk P w H s₁.heap->(∀b,H b≠none->b=a)->(H a≠none->K.lookup a=none) ->
   codeAny (model P w) callerA (.call (.ref fa) ⟨[.ref a],[]⟩) (λr s'=>r = .ok (.ret (.bool true))/\OldK s₁.heap s'.heap/\s'.os=s₁.os/\AllBare s'.gens) s₁:=by
  intro H hO hS hok hA hK
  have base_of:∀{b:Addr} {o:Obj},s₁.heap.get? b=some o->H b=none->(hidT s₁.heap H).get? b=some o:=λe n=>zqf e n
  have noA:∀{b:Addr} {o:Obj} {es:Array DictEntry} {ep:Nat},s₁.heap.get? b=some o->o.data = .dict es ep->H b=none:=fun{b o es ep} e d=>by
   cases q:H b with
   | none=>rfl
   | some u=>
    have e':b=a:=hA b (by rw[q];simp)
    subst e'
    rw[ha]at e;cases e
    have d':Data.seq vs.toArray _=Data.dict es ep:=d
    cases d'
  have nsK:∀{b:Addr} {m:Str->Option Value},s₁.heap.Ns b m->(hidT s₁.heap H).Ns b m:=fun{b m} ⟨o,es,ep,e,d,r⟩=>⟨o,es,ep,base_of e (noA e d),d,r⟩
  have hKb:K.In (hidT s₁.heap H):=λb o e=>base_of (KX b o e) (by
   cases q:H b with
   | none=>rfl
   | some u=>
    have e':b=a:=hA b (by rw[q];simp)
    subst e'
    rw[hK (by rw[q];simp)]at e;cases e)
  have hM:Mod K mg (hidT s₁.heap H):=⟨hKb,nsK hns,⟨mb,nsK hb,hbb⟩,let ⟨mc,h1,h2⟩:=hlim;⟨mc,nsK h1,h2⟩⟩
  have e0:Env0 P w K mg (hidT s₁.heap H) callerA [] s₁ H:=⟨rfl,hM,λb o e=>zrs e,Nat.le_of_eq (zmw _ _),trivial,λb hb=>absurd (show b∈([]:List Addr) from hb) (by simp),hok,.of_eq hg⟩
  refine codeAny_mono ((F _ hKb (nsK hns)).run callerA [] s₁ H ⟨[.ref a],[]⟩ [.ref a] [.ref a] _ _ hr e0 (hbind s₁ (.ref a)) (.cons rfl .nil) (hsp H hO hS)) λr s' h => ?_
  cases r with
  | error e=>exact(hCX H e s' h).elim
  | ok fl=>
   cases fl with
   | next=>exact False.elim h
   | brk=>exact False.elim h
   | cont=>exact False.elim h
   | ret u=>
    obtain⟨v,H',os,bare,un,hok',r',q⟩:=h
    have q':v = .bl true:=q
    subst q'
    obtain rfl:u=Value.bool true:=r'
    refine⟨rfl,OldK.of_keep λb o e => ?_,os,bare⟩
    cases q:H b with
    | none=>exact un.keep b o e q (by intro z;exact absurd (show b∈([]:List Addr) from z) (by simp)) (by simp)
    | some u=>
     rcases hO b with z | ⟨ob,xs,z⟩
     ·rw[q]at z;cases z
     ·have z2:=un.frzs b ob _ z
      obtain⟨e1,_⟩:=hok b _ z
      obtain⟨e2,_⟩:=hok' b _ z2
      rw[e]at e1;cases e1
      exact e2
 cases hk:K.lookup a with
 | some o=>
  -- the script is one of the module's own objects
  have e:=KX a o hk
  rw[ha]at e
  cases e
  refine core (λ_=>none) (λ_ => .inl rfl) (.inr ⟨_,vs.toArray,_,hk,rfl,rfl,rfl,by rw[List.size_toArray,lenV];exact hl,by simpa using rv⟩) (λb u z=>by have z':(none:Option HO)=some u:=z;cases z') (λb z=>absurd rfl z) λz=>absurd rfl z
 | none=>
  refine core (λb=>if b=a then some (.frz { cls := .type "list",data := .seq vs.toArray } (.lst (ns.map V.int))) else none) (λb => ?_) (.inl (.inr ⟨{ cls := .type "list",data := .seq vs.toArray },if_pos rfl⟩)) (λb u z => ?_) (λb z => ?_) λ_=>hk
  ·by_cases hb:b=a
   ·exact .inr ⟨_,_,if_pos hb⟩
   ·exact .inl (if_neg hb)
  ·by_cases hb:b=a
   ·have z':=(if_pos hb).symm.trans z
    cases z'
    subst hb
    exact⟨ha,by rw[List.length_map];exact hl,vs,_,rv,ha⟩
   ·have z':=(if_neg hb).symm.trans z
    cases z'
  ·by_cases hb:b=a
   ·exact hb
   ·exact absurd (if_neg hb) z
end L2
namespace L2
open PySem PySem.Spec PyProof.Rows
theorem walk_of{l:W.OpenLaw}{n k:Nat}{q:Program}{loose:List Str}{XP:(Str->Option Value)->Heap->Prop}{YP:World->Heap->Prop}{d:DefRec}{K:Params->W.Frag}{CX:World->CXT}{sp:World->Sp}{x:Str}
  (hn:l.most=some n) (hn2:n<=sizeLine) (hdf:d.params.defaults=[]) (hr:Room k callerA)
  (hY:∀(w:World) (h:Heap),YP w h->(K w.params).In h)
  (F:∀(w:World) (mg:Str->Option Value) (fa:Addr) (h:Heap),(K w.params).In h->h.Ns mainGlobals mg->mg d.name=some (.ref fa) ->
   ∃fd:FuncData,(∀(s:Shared) (u:Value),BindsTo s fd ⟨[u],[]⟩ [(x,u)]) /\
    ∀base:Heap,(K w.params).In base->base.Ns mainGlobals mg->FnOk l.prog w (K w.params) mg base (CX w) k fa fd [x] (sp w))
  (hsp:∀(w:World) (H:Hp) (a:Addr) (ns:List Int),ns.length<=n->Only H->SqL (K w.params) H a (ns.map V.int)->sp w [.ref a] H (λv _=>v = .bl true) λ_ _ _=>False)
  (hCX:∀(w:World) (H:Hp) (s:Shared) (e:Value) (s':Shared),CX w [] H s (λ_ _ _=>False) e s'->False) :
  W.WalkO q loose XP YP l.row.toRowW d [] (λf vs=>PySem.call f vs):=by
 refine Att.attach_call hn hdf λw s₀ s₁ mg mb fa o pm cd doc a vs ns G Y ho hd hcd hmg hobj hints hlen hg => ?_
 have KX:=hY w _ Y
 obtain⟨fd,hb,hF⟩:=F w mg fa _ KX G.T.g hmg
 exact zps KX G.T.g G.T.b G.T.builtins G.T.nolimit hg hobj hints (Nat.le_trans hlen hn2) hr hF hb (λH hO hS=>hsp w H a ns hlen hO hS) λH e s'=>hCX w H s₁ e s'
end L2
namespace L2
open PySem PySem.Spec PyProof.Rows
def inClass(s:Stmt)(j:Nat):Stmt:=match s with
 | .ClassDef _ _ _ body _ _ _ _ _ _ _=>body.getD j (.Pass ⟨0,0,0,0⟩)
 | _ => .Pass ⟨0,0,0,0⟩
def defArgs(s:Stmt):Arguments:=match s with
 | .FunctionDef _ a _ _ _ _ _ _ _ _=>a
 | _=>{ posonlyargs:=[],args:=[],vararg:=none,kwonlyargs:=[],kw_defaults:=[],kwarg:=none,defaults:=[] }
def defBody(s:Stmt):List Stmt:=match s with
 | .FunctionDef _ _ b _ _ _ _ _ _ _=>b
 | _=>[]
def defScope(s:Stmt):Scope:=match s with
 | .FunctionDef _ _ _ _ _ _ sc _ _ _=>sc
 | _=>{ kind := .function,names:=[],isGenerator:=false,isCoroutine:=false }
abbrev CX0:CXT:=λ_ _ _ _ _ _=>False
abbrev E0:XK:=λ_ _ _=>False
section
variable{P:Program}{w:World}{K:W.Frag}{mg:Str->Option Value}{base:Heap}
end
section
variable{X:Cx}
theorem pv(i:Nat){x:Str}{pos:Pos}(hN:X.N[i]? = some x:=by rfl)(hv:Vis X.env.scope x:=by first | exact Or.inl rfl | exact Or.inr (Or.inl rfl) | exact Or.inr (Or.inr rfl))(hd:(x == ("__debug__" : Str))=false:=by decide)
  (hcd:(x == ("__classdict__" : Str))=false:=by decide):PE X (.Name x pos) (tVar i):=zvs hN hv hd hcd
end
theorem iteF{A B:Prop}(h:B):if false=true then A else B:=by
 rw[if_neg Bool.false_ne_true]
 exact h
theorem iteT{A B:Prop}(h:A):if true=true then A else B:=by
 rw[if_pos rfl]
 exact h
theorem iteNS{c A B:Prop}[Decidable c](hc:c)(h:B):if (!decide c)=true then A else B:=by
 rw[decide_eq_true hc]
 exact iteF h
def Same(H H':Hp):Prop:=∀b o,H b=some o->H' b=some o
theorem Same.refl(H:Hp):Same H H:=λ_ _ h=>h
theorem Same.trans{H H1 H2:Hp}(a:Same H H1)(b:Same H1 H2):Same H H2:=λc o h=>b c o (a c o h)
theorem Same.free{H H':Hp}(e:Same H H'){l:Addr}(h:H' l=Option.none):H l=Option.none:=by
 cases q:H l with
 | none=>rfl
 | some o=>
  rw[e l o q]at h
  cases h
theorem Same.seq{K:W.Frag}{H H':Hp}{a:Addr}{xs:List V}(e:Same H H')(h:SqL K H a xs):SqL K H' a xs:=by
 rcases h with(h | ⟨o,h⟩) | h
 ·exact .inl (.inl (e _ _ h))
 ·exact .inl (.inr ⟨o,e _ _ h⟩)
 ·exact .inr h
end L2
set_option Elab.async false
set_option linter.all false
set_option maxRecDepth 100000
namespace L2
open PySem PySem.Spec PyProof.Rows
abbrev kn(b:Bool):String:=if b then "tuple_iterator" else "list_iterator"
def SqAt(b:Bool)(h:Heap)(l:Addr)(items:Array Value):Prop:=match b with
 | true=>h.IsTuple l items
 | false=>h.IsList l items
def IterAt(b:Bool)(h:Heap)(it l:Addr)(i:Nat):Prop:=match b with
 | true=>h.IsTupleIter it l i
 | false=>h.IsListIter it l i
theorem SqAt.at{b:Bool}{h h':Heap}{l:Addr}{items:Array Value}(x:SqAt b h l items)(e:∀o,h.get? l=some o->h'.get? l=some o):SqAt b h' l items:=by
 cases b with
 | true=>obtain⟨o,ho,r⟩:=x;exact⟨o,e o ho,r⟩
 | false=>exact Heap.IsList.at x e
theorem IterAt.obj{b:Bool}{h:Heap}{it l:Addr}{i:Nat}(x:IterAt b h it l i):∃o,h.get? it=some o/\∀v,o.data≠.cell v:=by
 cases b <;> (obtain⟨o,ho,c,d⟩:=x;exact⟨o,ho,λv z=>by rw[d]at z;cases z⟩)
theorem IterAt.at{b:Bool}{h h':Heap}{it l:Addr}{i:Nat}(x:IterAt b h it l i)(e:∀o,h.get? it=some o->h'.get? it=some o):IterAt b h' it l i:=by
 cases b <;> (obtain⟨o,ho,r⟩:=x;exact⟨o,e o ho,r⟩)
section
variable{prog:Program}{w:World}{A:Around}{E:Value->Shared->Prop}{s:Shared}
theorem zh0{it t:Addr}{i:Nat}{items:Array Value}{x:Value}{Q:Value->Shared->Prop}(hit:s.heap.IsTupleIter it t i)(ht:s.heap.IsTuple t items)(hx:items[i]? = some x)
  (hQ:∀h',h'.IsTupleIter it t (i + 1)->Heap.SameBut it s.heap h'->Q x { s with heap:=h' }):wpAny (model prog w) A (Builtin.SmallTypes.nextOf (.ref it)) Q E s:=by
 obtain⟨o,ho,hc,hd⟩:=id hit;obtain⟨ol,hol,_,nl,hdl⟩:=ht
 unfold Builtin.SmallTypes.nextOf;refine wpAny_bind (wpAny_callSpecial?_slot (name:=Str.ofString "__next__") hit.typeIs F.slot_tuple_iterator_next (wpAny_call_entry F.slot_tuple_iterator_next hit.typeIs F.entry_tuple_iterator_next ?_ (F.args_tuple_iterator_next_1 _)))
 show wpAny _ _ (field (.ref it) 0 >>= _) _ _ s;refine wpAny_bind (wpAny_field ho hd (x := .ref t) rfl ?_)
 show wpAny _ _ (if (Value.ref t == Value.none)=true then _ else _) _ _ s;rw[if_neg (by intro z;cases z)]
 show wpAny _ _ (field (.ref it) 1 >>= _) _ _ s;refine wpAny_bind (wpAny_field ho hd (x := .int i 0) rfl ?_)
 show wpAny _ _ (seqItems? (.ref t) >>= _) _ _ s;refine wpAny_bind (wpAny_seqItems hol hdl ?_);simp only[Int.toNat_natCast,hx]
 refine wpAny_bind (wpAny_setField ho hd (by simp) (wpAny_pure ⟨x,rfl,wpAny_pure (hQ _ ⟨_,Heap.get?_update_self _ ho (Obj.isFreed_of_fields (Obj.data_mapFields hd _)),(Obj.cls_mapFields ..).trans hc,?_⟩ (Heap.SameBut.update ..))⟩))
 rw[Obj.data_mapFields hd];simp[rawInt]
theorem zjc{it t:Addr}{i:Nat}{items:Array Value}{Q:Value->Shared->Prop}(hh:A.handled=none)(hit:s.heap.IsTupleIter it t i)(ht:s.heap.IsTuple t items)(hx:items[i]? = none)
  (hE:∀h' e,Heap.ExtBut it s.heap h'->(∃o,h'.get? e=some o/\o.cls = .type "StopIteration")->E (.ref e) { s with heap:=h' }):wpAny (model prog w) A (Builtin.SmallTypes.nextOf (.ref it)) Q E s:=by
 obtain⟨o,ho,hc,hd⟩:=id hit;obtain⟨ol,hol,_,nl,hdl⟩:=ht
 unfold Builtin.SmallTypes.nextOf;refine wpAny_bind (wpAny_callSpecial?_slot (name:=Str.ofString "__next__") hit.typeIs F.slot_tuple_iterator_next (wpAny_call_entry F.slot_tuple_iterator_next hit.typeIs F.entry_tuple_iterator_next ?_ (F.args_tuple_iterator_next_1 _)))
 show wpAny _ _ (field (.ref it) 0 >>= _) _ _ s;refine wpAny_bind (wpAny_field ho hd (x := .ref t) rfl ?_)
 show wpAny _ _ (if (Value.ref t == Value.none)=true then _ else _) _ _ s;rw[if_neg (by intro z;cases z)]
 show wpAny _ _ (field (.ref it) 1 >>= _) _ _ s;refine wpAny_bind (wpAny_field ho hd (x := .int i 0) rfl ?_)
 show wpAny _ _ (seqItems? (.ref t) >>= _) _ _ s;refine wpAny_bind (wpAny_seqItems hol hdl ?_);simp only[Int.toNat_natCast,hx]
 refine wpAny_bind (wpAny_rule (wpAny_bind (wpAny_setField ho hd (by simp) ?_)));show wpAny _ _ (newExc (.type "StopIteration") [] >>= _) _ _ _
 refine wpAny_bind ?_;simp only[newExc,newTuple]
 refine wpAny_bind (wpAny_newObj_type ?_ (by size_fits));refine wpAny_bind (m:=firstArgMember _ _) (wpAny_of_eq (a:=Value.none) (by first | rfl | (simp only[firstArgMember];rfl)) ?_)
 refine wpAny_newObj_type ?_ (by size_fits);simp only[raiseNew];refine wpAny_bind (wpAny_handled ?_)
 first | rw[show A.in1.handled=none from hh] | rw[hh]
 refine wpAny_bind (wpAny_pure (wpAny_throw ?_));exact hE _ _ (((Heap.SameBut.update ..).extBut.push _).push _) ⟨_,Heap.get?_push_size _ rfl,rfl⟩
theorem zgt{b:Bool}{it l:Addr}{i:Nat}{items:Array Value}{x:Value}{Q:Value->Shared->Prop}(hit:IterAt b s.heap it l i)(hl:SqAt b s.heap l items)(hx:items[i]? = some x)
  (hQ:∀h',IterAt b h' it l (i + 1)->Heap.SameBut it s.heap h'->Q x { s with heap:=h' }):wpAny (model prog w) A (Builtin.SmallTypes.nextOf (.ref it)) Q E s:=by
 cases b with
 | true=>exact zh0 hit hl hx hQ
 | false=>exact wpAny_nextOf_list_item hit hl hx hQ
theorem zlc{b:Bool}{it l:Addr}{i:Nat}{items:Array Value}{Q:Value->Shared->Prop}(hh:A.handled=none)(hit:IterAt b s.heap it l i)(hl:SqAt b s.heap l items)(hx:items[i]? = none)
  (hE:∀h' e,Heap.ExtBut it s.heap h'->(∃o,h'.get? e=some o/\o.cls = .type "StopIteration")->E (.ref e) { s with heap:=h' }):wpAny (model prog w) A (Builtin.SmallTypes.nextOf (.ref it)) Q E s:=by
 cases b with
 | true=>exact zjc hh hit hl hx hE
 | false=>exact wpAny_nextOf_list_end hh hit hl hx hE
theorem zm2{b:Bool}{l:Addr}{items:Array Value}{Q:Value->Shared->Prop}(hl:SqAt b s.heap l items)
  (hQ:Q (.ref s.heap.objs.size) { s with heap:=s.heap.push { cls := .type (kn b),data := .fields #[.ref l,.int 0 0] } }):wpAny (model prog w) A (pyIter (.ref l)) Q E s:=by
 cases b with
 | true=>exact wpAny_pyIter_tuple hl hQ
 | false=>exact wpAny_pyIter_list hl hQ
structure ZSt(b1 b2:Bool)(z TI TO i1 i2 l1 l2:Addr)(f0:Value)(k:Nat)(h:Heap):Prop where
 zip:IsZip h z TI TO f0
 ti:IsPair h TI (.ref i1) (.ref i2)
 to:∃a b,IsPair h TO a b
 it1:IterAt b1 h i1 l1 k
 it2:IterAt b2 h i2 l2 k
theorem ZSt.at{b1 b2:Bool}{z TI TO i1 i2 l1 l2:Addr}{f0:Value}{k:Nat}{h h':Heap}(x:ZSt b1 b2 z TI TO i1 i2 l1 l2 f0 k h)(e:∀b∈[z,TI,TO,i1,i2],∀o,h.get? b=some o->h'.get? b=some o) :
  ZSt b1 b2 z TI TO i1 i2 l1 l2 f0 k h':=
 ⟨e z (by simp) _ x.zip,e TI (by simp) _ x.ti,let ⟨a,b,q⟩:=x.to;⟨a,b,e TO (by simp) _ q⟩,x.it1.at λo q=>e i1 (by simp) o q,x.it2.at λo q=>e i2 (by simp) o q⟩
theorem zot{b1 b2:Bool}{z TI TO i1 i2 l1 l2:Addr}{k:Nat}{xs ys:Array Value}{x y:Value}{Q:Value->Shared->Prop}(D:ZipApart z TI TO i1 i2 l1 l2)(S:ZSt b1 b2 z TI TO i1 i2 l1 l2 .none k s.heap)
  (hl1:SqAt b1 s.heap l1 xs) (hl2:SqAt b2 s.heap l2 ys) (hx:xs[k]? = some x) (hy:ys[k]? = some y)
  (hQ:∀h',ZSt b1 b2 z TI TO i1 i2 l1 l2 (rawInt s.heap.objs.size) (k + 1) h'->IsPair h' s.heap.objs.size x y->h'.objs.size=s.heap.objs.size + 1 ->
   (∀c o,c≠z->c≠TO->c≠i1->c≠i2->s.heap.get? c=some o->h'.get? c=some o)->Q (.ref s.heap.objs.size) { s with heap:=h' }) :
  wpAny (model prog w) A (Builtin.«zip.__next__» ⟨[.ref z],[]⟩) (λfin s'=>∃v,fin = .done (.ret v)/\Q v s') E s:=by
 obtain⟨hz,hTI,⟨a,b,hTO⟩,h1,h2⟩:=S
 show wpAny _ _ (field (.ref z) 2 >>= _) _ _ _;refine wpAny_bind (wpAny_field hz rfl (x := .bool false) rfl ?_)
 show wpAny _ _ (field (.ref z) 3 >>= _) _ _ _;refine wpAny_bind (wpAny_field hz rfl (x := .ref TI) rfl (wpAny_bind (wpAny_seqItems hTI rfl ?_)))
 show wpAny _ _ (Builtin.SmallTypes.ownedTupleIsFree (.ref z) >>= _) _ _ _;refine wpAny_bind ?_
 unfold Builtin.SmallTypes.ownedTupleIsFree;refine wpAny_bind (wpAny_field hz rfl (x := .none) rfl (wpAny_pure ?_));simp only[if_true]
 refine wpAny_bind (wpAny_rule (wpAny_bind (wpAny_field hz rfl (x := .ref TO) rfl ?_)))
 refine wpAny_bind (wpAny_setField_rec hz (by simp) λg1 z1 e1 => ?_)
 replace z1:IsZip g1 z TI TO .ellipsis:=z1;refine wpAny_bind ?_
 simp only[List.zipIdx_cons,List.zipIdx_nil,List.forIn_cons,List.forIn_nil];refine wpAny_bind (wpAny_bind (wpAny_onRaise ?_))
 show wpAny _ _ (Builtin.SmallTypes.nextOf (.ref i1) >>= _) _ _ _
 have k1:∀c o,c≠z->s.heap.get? c=some o->g1.get? c=some o:=λc o hc e=>e1.extBut c o hc e
 refine wpAny_bind (zgt (s:={ s with heap:=g1 }) (h1.at λo q=>k1 i1 o D.i1z q) (hl1.at λo q=>k1 l1 o D.l1z q) hx λg2 t2 e2=>wpAny_pure ?_)
 have k2:∀c o,c≠z->c≠i1->s.heap.get? c=some o->g2.get? c=some o:=λc o hc hd e=>e2.extBut c o hd (k1 c o hc e)
 have p2:IsPair g2 TO a b:=k2 TO _ D.TOz D.TOi1 hTO
 refine wpAny_bind (wpAny_seqItems p2 rfl (wpAny_bind (wpAny_updateSeq_pair p2 λg3 p3 e3 => ?_)))
 replace p3:IsPair g3 TO x b:=p3;refine wpAny_bind (wpAny_letGo (wpAny_pure ?_));refine wpAny_bind (wpAny_bind (wpAny_onRaise ?_))
 show wpAny _ _ (Builtin.SmallTypes.nextOf (.ref i2) >>= _) _ _ _
 have k3:∀c o,c≠z->c≠i1->c≠TO->s.heap.get? c=some o->g3.get? c=some o:=λc o hc hd he e=>e3.extBut c o he (k2 c o hc hd e)
 refine wpAny_bind (zgt (s:={ s with heap:=g3 }) (h2.at λo q=>k3 i2 o D.i2z D.i12.symm D.TOi2.symm q) (hl2.at λo q=>k3 l2 o D.l2z D.l2i1 D.l2TO q) hy λg4 t4 e4=>wpAny_pure ?_)
 have p4:IsPair g4 TO x b:=e4.extBut _ _ D.TOi2 p3
 refine wpAny_bind (wpAny_seqItems p4 rfl (wpAny_bind (wpAny_updateSeq_pair p4 λg5 p5 e5 => ?_)))
 replace p5:IsPair g5 TO x y:=p5;refine wpAny_bind (wpAny_letGo (wpAny_pure (wpAny_pure ?_)));refine wpAny_bind (wpAny_seqItems p5 rfl (wpAny_bind (wpAny_newTuple ?_)))
 have sz:g5.objs.size=s.heap.objs.size:=by rw[e5.1,e4.1,e3.1,e2.1,e1.1]
 have z5:IsZip g5 z TI TO .ellipsis:=e5.extBut _ _ D.TOz.symm (e4.extBut _ _ D.i2z.symm (e3.extBut _ _ D.TOz.symm (e2.extBut _ _ D.i1z.symm z1)))
 have k5:∀c o,c≠z->c≠TO->c≠i1->c≠i2->s.heap.get? c=some o->g5.get? c=some o:=λc o c1 c2 c3 c4 e=>e5.extBut _ _ c2 (e4.extBut _ _ c4 (k3 c o c1 c3 c2 e))
 have t5:IterAt b1 g5 i1 l1 (k + 1):=t2.at λo q=>e5.extBut _ _ D.TOi1.symm (e4.extBut _ _ D.i12 (e3.extBut _ _ D.TOi1.symm q))
 have u5:IterAt b2 g5 i2 l2 (k + 1):=t4.at λo q=>e5.extBut _ _ D.TOi2.symm q
 have zlt:z < g5.objs.size:=Heap.lt_size z5
 show wpAny _ _ (Builtin.SmallTypes.ownedTupleHandOut (.ref z) (.ref g5.objs.size) >>= _) _ _ _;refine wpAny_bind ?_
 unfold Builtin.SmallTypes.ownedTupleHandOut
 have z6:IsZip (g5.push { cls := .type "tuple",data := .seq #[x,y] }) z TI TO .ellipsis:=Heap.get?_push_of_some _ z5
 refine wpAny_bind (wpAny_setField_rec z6 (by simp) λg7 z7 e7 => ?_)
 replace z7:IsZip g7 z TI TO (rawInt g5.objs.size):=z7;refine wpAny_setField_rec z7 (by simp) λg8 z8 e8 => ?_
 replace z8:IsZip g8 z TI TO (rawInt g5.objs.size):=z8
 have up:∀c o,c≠z->g5.get? c=some o->g8.get? c=some o:=λc o c1 e=>e8.extBut _ _ c1 (e7.extBut _ _ c1 (Heap.get?_push_of_some _ e))
 have p8:IsPair g8 g5.objs.size x y:=e8.extBut _ _ (Nat.ne_of_gt zlt) (e7.extBut _ _ (Nat.ne_of_gt zlt) (Heap.get?_push_size _ rfl))
 have s8:g8.objs.size=g5.objs.size + 1:=by rw[e8.1,e7.1,Heap.size_push]
 rw[sz]at z8 p8 s8
 refine wpAny_pure ⟨_,rfl,?_⟩
 show Q (.ref g5.objs.size) _
 rw[sz]
 exact hQ g8 ⟨z8,up _ _ D.TIz (k5 TI _ D.TIz D.TITO D.TIi1 D.TIi2 hTI),⟨_,_,up _ _ D.TOz p5⟩,t5.at λo q=>up _ o D.i1z q,u5.at λo q=>up _ o D.i2z q⟩ p8 s8 λc o c1 c2 c3 c4 e=>up c o c1 (k5 c o c1 c2 c3 c4 e)
theorem ztb{b1 b2:Bool}{z TI TO i1 i2 l1 l2:Addr}{k:Nat}{xs ys:Array Value}{Q:Fin->Shared->Prop}(hh:A.handled=none)(D:ZipApart z TI TO i1 i2 l1 l2)(S:ZSt b1 b2 z TI TO i1 i2 l1 l2 .none k s.heap)
  (hl1:SqAt b1 s.heap l1 xs) (hl2:SqAt b2 s.heap l2 ys) (hend:xs[k]? = none\/ys[k]? = none)
  (hE:∀h' e,(∀c o,c≠z->c≠TO->c≠i1->c≠i2->s.heap.get? c=some o->h'.get? c=some o)->(∃o,h'.get? e=some o/\o.cls = .type "StopIteration")->E (.ref e) { s with heap:=h' }) :
  wpAny (model prog w) A (Builtin.«zip.__next__» ⟨[.ref z],[]⟩) Q E s:=by
 obtain⟨hz,hTI,⟨a,b,hTO⟩,h1,h2⟩:=S
 show wpAny _ _ (field (.ref z) 2 >>= _) _ _ _;refine wpAny_bind (wpAny_field hz rfl (x := .bool false) rfl ?_)
 show wpAny _ _ (field (.ref z) 3 >>= _) _ _ _;refine wpAny_bind (wpAny_field hz rfl (x := .ref TI) rfl (wpAny_bind (wpAny_seqItems hTI rfl ?_)))
 show wpAny _ _ (Builtin.SmallTypes.ownedTupleIsFree (.ref z) >>= _) _ _ _;refine wpAny_bind ?_
 unfold Builtin.SmallTypes.ownedTupleIsFree;refine wpAny_bind (wpAny_field hz rfl (x := .none) rfl (wpAny_pure ?_));simp only[if_true]
 refine wpAny_bind (wpAny_rule (wpAny_bind (wpAny_field hz rfl (x := .ref TO) rfl ?_)))
 refine wpAny_bind (wpAny_setField_rec hz (by simp) λg1 z1 e1 => ?_)
 replace z1:IsZip g1 z TI TO .ellipsis:=z1;refine wpAny_bind ?_
 simp only[List.zipIdx_cons,List.zipIdx_nil,List.forIn_cons,List.forIn_nil];refine wpAny_bind (wpAny_bind (wpAny_onRaise ?_))
 show wpAny _ _ (Builtin.SmallTypes.nextOf (.ref i1) >>= _) _ _ _
 have k1:∀c o,c≠z->s.heap.get? c=some o->g1.get? c=some o:=λc o hc e=>e1.extBut c o hc e
 cases hx:xs[k]? with
 | none=>
  refine wpAny_bind (zlc (s:={ s with heap:=g1 }) hh (h1.at λo q=>k1 i1 o D.i1z q) (hl1.at λo q=>k1 l1 o D.l1z q) hx λg2 e e2 he => ?_)
  obtain⟨oe,hoe,hce⟩:=he
  have z2:IsZip g2 z TI TO .ellipsis:=e2 _ _ D.i1z.symm z1
  have ez:e≠z:=λq=>by subst q;rw[z2]at hoe;cases hoe;simp at hce
  exact wpAny_setField_rec z2 (by simp) λg3 _ e3=>hE g3 e (λc o c1 _ c3 _ q=>e3.extBut _ _ c1 (e2 _ _ c3 (k1 c o c1 q))) ⟨oe,e3.extBut _ _ ez hoe,hce⟩
 | some x=>
  have hy:ys[k]? = none:=by
   rcases hend with q | q
   ·rw[hx]at q;cases q
   ·exact q
  refine wpAny_bind (zgt (s:={ s with heap:=g1 }) (h1.at λo q=>k1 i1 o D.i1z q) (hl1.at λo q=>k1 l1 o D.l1z q) hx λg2 t2 e2=>wpAny_pure ?_)
  have k2:∀c o,c≠z->c≠i1->s.heap.get? c=some o->g2.get? c=some o:=λc o hc hd e=>e2.extBut c o hd (k1 c o hc e)
  have p2:IsPair g2 TO a b:=k2 TO _ D.TOz D.TOi1 hTO
  refine wpAny_bind (wpAny_seqItems p2 rfl (wpAny_bind (wpAny_updateSeq_pair p2 λg3 p3 e3 => ?_)))
  refine wpAny_bind (wpAny_letGo (wpAny_pure ?_));refine wpAny_bind (wpAny_bind (wpAny_onRaise ?_))
  show wpAny _ _ (Builtin.SmallTypes.nextOf (.ref i2) >>= _) _ _ _
  have k3:∀c o,c≠z->c≠i1->c≠TO->s.heap.get? c=some o->g3.get? c=some o:=λc o hc hd he e=>e3.extBut c o he (k2 c o hc hd e)
  refine wpAny_bind (zlc (s:={ s with heap:=g3 }) hh (h2.at λo q=>k3 i2 o D.i2z D.i12.symm D.TOi2.symm q) (hl2.at λo q=>k3 l2 o D.l2z D.l2i1 D.l2TO q) hy λg4 e e4 he => ?_)
  obtain⟨oe,hoe,hce⟩:=he
  have z4:IsZip g4 z TI TO .ellipsis:=e4 _ _ D.i2z.symm (e3.extBut _ _ D.TOz.symm (e2.extBut _ _ D.i1z.symm z1))
  have ez:e≠z:=λq=>by subst q;rw[z4]at hoe;cases hoe;simp at hce
  exact wpAny_setField_rec z4 (by simp) λg5 _ e5=>hE g5 e (λc o c1 c2 c3 c4 q=>e5.extBut _ _ c1 (e4 _ _ c4 (k3 c o c1 c3 c2 q))) ⟨oe,e5.extBut _ _ ez hoe,hce⟩
end
end L2
namespace L2
open PySem PySem.Spec PyProof.Rows
abbrev zq1(b1:Bool)(h:Heap)(l1:Addr):Heap:=h.push { cls := .type (kn b1),data := .fields #[.ref l1,.int 0 0] }
abbrev zq2(b1 b2:Bool)(h:Heap)(l1 l2:Addr):Heap:=(zq1 b1 h l1).push { cls := .type (kn b2),data := .fields #[.ref l2,.int 0 0] }
abbrev zq3(b1 b2:Bool)(h:Heap)(l1 l2:Addr):Heap:=(zq2 b1 b2 h l1 l2).push { cls := .type "tuple",data := .seq #[.ref h.objs.size,.ref (zq1 b1 h l1).objs.size] }
abbrev zq4(b1 b2:Bool)(h:Heap)(l1 l2:Addr):Heap:=(zq3 b1 b2 h l1 l2).push { cls := .type "tuple",data := .seq #[.none,.none] }
abbrev zq5(b1 b2:Bool)(h:Heap)(l1 l2:Addr):Heap:=(zq4 b1 b2 h l1 l2).push { cls := .type "zip",data := .fields #[.none,.bool false,.bool false,.ref (zq2 b1 b2 h l1 l2).objs.size,.ref (zq3 b1 b2 h l1 l2).objs.size] }
theorem zpn(b1 b2:Bool)(l1 l2:Addr)(xs ys:Array Value):Meets (Builtin.«zip.__new__» ⟨[.type "zip",.ref l1,.ref l2],[]⟩) (λ_ R s=>SqAt b1 s.heap l1 xs/\SqAt b2 s.heap l2 ys /\
   R (.ok (.ret (.ref (zq4 b1 b2 s.heap l1 l2).objs.size))) { s with heap:=zq5 b1 b2 s.heap l1 l2 }):=
 .of_wp λprog w A R s h=>by
  obtain⟨hp,g,d,tk,os⟩:=s;obtain⟨hl1,hl2,h⟩:=h
  have hsub:=sub_zip
  have q1:SqAt b1 (Shared.heap ⟨hp,g,d,tk,os⟩) l1 xs:=hl1
  have q2:SqAt b2 (Shared.heap ⟨hp.push { cls := .type (kn b1),data := .fields #[.ref l1,.int 0 0] },g,d,tk,os⟩) l2 ys:=SqAt.at hl2 λo e=>Heap.get?_push_of_some _ e
  wp_walk using zm2 q1,zm2 q2
  exact⟨_,rfl,h⟩
theorem zqq{prog:Program}{w:World}{A:Around}{E:Value->Shared->Prop}{s:Shared}{b1 b2:Bool}{l1 l2:Addr}{xs ys:Array Value}{Q:Value->Shared->Prop}(hl1:SqAt b1 s.heap l1 xs)(hl2:SqAt b2 s.heap l2 ys)
  (h:∀h',ZSt b1 b2 (s.heap.objs.size + 4) (s.heap.objs.size + 2) (s.heap.objs.size + 3) s.heap.objs.size (s.heap.objs.size + 1) l1 l2 .none 0 h'->(∀c o,s.heap.get? c=some o->h'.get? c=some o)->h'.objs.size=s.heap.objs.size + 5 ->
   Q (.ref (s.heap.objs.size + 4)) { s with heap:=h' }):wpAny (model prog w) A (call (.type "zip") [.ref l1,.ref l2]) Q E s:=by
 refine callType_new F.called_zip (by decide) (F.typeCall_zip_2 _ _) (F.newCall_zip_2 _ _) (λobj=>F.args_object_init_3 obj _ _) F.entry_zip_new (zpn b1 b2 l1 l2 xs ys) ⟨hl1,hl2,?_⟩
 have z1:(zq1 b1 s.heap l1).objs.size=s.heap.objs.size + 1:=Heap.size_push ..
 have z2:(zq2 b1 b2 s.heap l1 l2).objs.size=s.heap.objs.size + 2:=by rw[Heap.size_push,z1]
 have z3:(zq3 b1 b2 s.heap l1 l2).objs.size=s.heap.objs.size + 3:=by rw[Heap.size_push,z2]
 have z4:(zq4 b1 b2 s.heap l1 l2).objs.size=s.heap.objs.size + 4:=by rw[Heap.size_push,z3]
 have z5:(zq5 b1 b2 s.heap l1 l2).objs.size=s.heap.objs.size + 5:=by rw[Heap.size_push,z4]
 have up1:∀{h:Heap} {o:Obj} {c:Addr} {u:Obj},h.get? c=some u->(h.push o).get? c=some u:=λe=>Heap.get?_push_of_some _ e
 have g5:(zq5 b1 b2 s.heap l1 l2).get? (zq4 b1 b2 s.heap l1 l2).objs.size=some _:=Heap.get?_push_size _ rfl
 have g4:(zq5 b1 b2 s.heap l1 l2).get? (zq3 b1 b2 s.heap l1 l2).objs.size=some _:=up1 (Heap.get?_push_size _ rfl)
 have g3:(zq5 b1 b2 s.heap l1 l2).get? (zq2 b1 b2 s.heap l1 l2).objs.size=some _:=up1 (up1 (Heap.get?_push_size _ rfl))
 have g2:(zq5 b1 b2 s.heap l1 l2).get? (zq1 b1 s.heap l1).objs.size=some _:=up1 (up1 (up1 (Heap.get?_push_size _ rfl)))
 have g1:(zq5 b1 b2 s.heap l1 l2).get? s.heap.objs.size=some _:=up1 (up1 (up1 (up1 (Heap.get?_push_size _ rfl))))
 show _/\_
 rw[z2,z3,z4]at g5
 rw[z1,z2]at g3
 rw[z3]at g4
 rw[z1]at g2
 rw[z4]
 refine⟨⟨_,g5,rfl⟩,h _ ⟨g5,g3,⟨_,_,g4⟩,?_,?_⟩ (λc o x=>up1 (up1 (up1 (up1 (up1 x))))) z5⟩
 ·cases b1 <;> exact⟨_,g1,rfl,rfl⟩
 ·cases b2 <;> exact⟨_,g2,rfl,rfl⟩
theorem zg1{prog:Program}{w:World}{A:Around}{E:Value->Shared->Prop}{s:Shared}{b1 b2:Bool}{z TI TO i1 i2 l1 l2:Addr}{k:Nat}{xs ys:Array Value}{x y:Value}{Q:Option Value->Shared->Prop}(D:ZipApart z TI TO i1 i2 l1 l2)
  (S:ZSt b1 b2 z TI TO i1 i2 l1 l2 .none k s.heap) (hl1:SqAt b1 s.heap l1 xs) (hl2:SqAt b2 s.heap l2 ys) (hx:xs[k]? = some x) (hy:ys[k]? = some y)
  (hQ:∀h',ZSt b1 b2 z TI TO i1 i2 l1 l2 (rawInt s.heap.objs.size) (k + 1) h'->IsPair h' s.heap.objs.size x y->h'.objs.size=s.heap.objs.size + 1 ->
   (∀c o,c≠z->c≠TO->c≠i1->c≠i2->s.heap.get? c=some o->h'.get? c=some o)->Q (some (.ref s.heap.objs.size)) { s with heap:=h' }):wpAny (model prog w) A (pyNext (.ref z)) Q E s:=by
 have hT:s.TypeIs (.ref z) "zip":=⟨_,S.zip,rfl⟩;unfold pyNext
 refine wpAny_bind (wpAny_attempt (wpAny_callSpecial?_slot (name:=Str.ofString "__next__") hT F.slot_zip_next (wpAny_call_entry F.slot_zip_next hT F.entry_zip_next ?_ (F.args_zip_next_1 _))))
 exact zot D S hl1 hl2 hx hy λh' a1 a2 a3 a4=>wpAny_pure (hQ h' a1 a2 a3 a4)
theorem zg2{prog:Program}{w:World}{A:Around}{E:Value->Shared->Prop}{s:Shared}{b1 b2:Bool}{z TI TO i1 i2 l1 l2:Addr}{k:Nat}{xs ys:Array Value}{Q:Option Value->Shared->Prop}(hh:A.handled=none)(D:ZipApart z TI TO i1 i2 l1 l2)
  (S:ZSt b1 b2 z TI TO i1 i2 l1 l2 .none k s.heap) (hl1:SqAt b1 s.heap l1 xs) (hl2:SqAt b2 s.heap l2 ys) (hend:xs[k]? = none\/ys[k]? = none)
  (hQ:∀h',(∀c o,c≠z->c≠TO->c≠i1->c≠i2->s.heap.get? c=some o->h'.get? c=some o)->Q none { s with heap:=h' }):wpAny (model prog w) A (pyNext (.ref z)) Q E s:=by
 have hT:s.TypeIs (.ref z) "zip":=⟨_,S.zip,rfl⟩;unfold pyNext
 refine wpAny_bind (wpAny_attempt (wpAny_callSpecial?_slot (name:=Str.ofString "__next__") hT F.slot_zip_next (wpAny_call_entry F.slot_zip_next hT F.entry_zip_next ?_ (F.args_zip_next_1 _))))
 refine ztb hh D S hl1 hl2 hend λh' e hk ⟨o,ho,hc⟩ => ?_
 exact wpAny_bind (wpAny_isInstance (T:="StopIteration") (b:=true) ⟨o,ho,hc⟩ isSubtype_stop (wpAny_pure (hQ _ hk)))
end L2
namespace L2
open PySem PySem.Spec PyProof.Rows
section
variable{prog:Program}{w:World}{A:Around}{R:Result->Shared->Prop}{s:Shared}
abbrev E00:Value->Shared->Prop:=λ_ _=>False
abbrev ifsOf(ifs:List Expr)(env:Env):Sem Bool:=
 forIn ifs true λc r=>if r=true then do
   let ok <- isTrue c env (eval c env)
   pure (ForInStep.yield ok)
  else pure (ForInStep.yield r)
theorem zlm{elt tg iter:Expr}{ifs:List Expr}{scope:Scope}{pos:Pos}{it acc:Value}{env:Env}(J:Nat->Shared->Prop)
  (turn:∀n s,J n s->wpAny (model prog w) A (pyNext it) (λr s1=>match r with
   | none=>R (.ok .next) s1
   | some v=>wpAny (model prog w) A (letOwnedTupleGo tg it v) (λ_ s2=>wpAny (model prog w) A (assign tg env v) (λ_ s3=>
     wpAny (model prog w) A (ifsOf ifs env) (λok s4=>
      if ok=true then
       wpAny (model prog w) A (eval elt env) (λx s5=>wpAny (model prog w) A (call (.builtin "list.append") [acc,x]) (λ_ s6=>∃m,m < n/\J m s6) E00 s5) E00 s4
      else ∃m,m < n/\J m s4) E00 s3) E00 s2) E00 s1) E00 s)
  (n:Nat) (h:J n s):codeAny (model prog w) A (.compLoop (.ListComp elt [⟨tg,iter,ifs,0⟩] scope pos) 0 it acc env) R s:=by
 have fl:∀{α : Type} {t:Sem α} {Q : α->Shared->Prop} {E:Value->Shared->Prop} {s:Shared},wpAny (model prog w) A t Q E00 s->wpAny (model prog w) A t Q E s:=λh=>wpAny_mono h (λ_ _ q=>q) λ_ _ z=>z.elim
 refine codeAny_loop rfl J (λn s hJ => ?_) n h
 show wpAny _ A ((compTurn (.ListComp elt [⟨tg,iter,ifs,0⟩] scope pos) 0 it acc env).onRaise _) _ _ s
 refine wpAny_noted ?_
 rw[compTurn_list]
 refine wpAny_bind (wpAny_standAt (wpAny_bind (thn (fl (turn n s hJ)) λr s1 h1 => ?_)))
 cases r with
 | none=>exact wpAny_pure h1
 | some v=>
  refine wpAny_bind (thn (fl h1) λ_ s2 h2 => ?_)
  refine wpAny_bind (thn (fl h2) λ_ s3 h3 => ?_)
  refine wpAny_bind (thn (fl h3) λok s4 h4 => ?_)
  cases ok with
  | false=>exact wpAny_pure ⟨rfl,h4⟩
  | true=>
   refine wpAny_bind (wpAny_bind (thn (fl h4) λx s5 h5 => ?_))
   exact wpAny_bind (thn (fl h5) λ_ s6 h6=>wpAny_pure (wpAny_pure ⟨rfl,h6⟩))
end
def blk(X:Cx)(N:List Str)(scope:Scope)(cl:List (Str×Addr))(C:Addr)(s:Shared)(H:Hp)(fp:List Addr):Cx:=
 { X with N:=N,s₀:=s,H₀:=H,env:=compEnvC scope cl C X.env,outer:=X.stack,ex:=fp,fn:=λ_=>false,pn:=[],xe:=λ_ _=>False }
structure Blk(X:Cx)(N:List Str)(scope:Scope)(cl:List (Str×Addr))(mp:List (Option Nat)):Prop where
 clos:closureFor scope X.env=pure cl
 cell:∀y∈scope.names,y.2≠.cell
 kind:scope.kind = .function
 nms:∀y∈scope.names,y.2 = .local->scope.names.lookup y.1=some .local
 nd:N.Nodup
 sub:∀x c,cl.lookup x=some c->X.env.cells.lookup x=some c
 has:∀x,((relabel scope X.env).names.lookup x=some .cell\/(relabel scope X.env).names.lookup x=some .free)->∃c,cl.lookup x=some c
 len:mp.length=N.length
 map:∀(i j:Nat) (x:Str),mp[i]? = some (some j)->N[i]? = some x->X.N[j]? = some x/\(X.env.scope.names.lookup x=some .cell\/X.env.scope.names.lookup x=some .free) /\
  ((relabel scope X.env).names.lookup x=some .cell\/(relabel scope X.env).names.lookup x=some .free)
def st0(mp:List (Option Nat))(σ : St):St:=mp.map λo=>match o with
 | some j=>(σ[j]?).getD none
 | none=>none
section
variable{X:Cx}{pins:List (Addr×Obj)}{σ : St}{H:Hp}{s:Shared}{N:List Str}{scope:Scope}{cl:List (Str×Addr)}{mp:List (Option Nat)}{fp:List Addr}
theorem zsi(B:Blk X N scope cl mp)(I:Inv X pins σ H s)(f:∀b∈fp,FpOk X pins H b)(lt:∀b∈fp,b < s.heap.objs.size){h1:Heap}{t':Nat}(hns:h1.Ns s.heap.objs.size (λ_=>none))
  (k:∀b o,s.heap.get? b=some o->h1.get? b=some o):Inv (blk X N scope cl s.heap.objs.size s H fp) [] (st0 mp σ) H { s with heap:=h1,toks:=t' }:=by
 have fin:∀b∈fp,b ∉ frs X.stack:=λb hb z=>by
  obtain⟨_,f1,f2,_⟩:=f b hb
  rcases List.mem_cons.mp (I.stkSub b z) with e | e
  ·exact f1 e
  ·exact f2 e
 have ok:(blk X N scope cl s.heap.objs.size s H fp).Ok:=by
  refine⟨I.ok.mod,B.kind,I.ok.glob,I.ok.blt,Nat.le_refl _,λx y c h1 h2=>I.ok.inj x y c (B.sub x c h1) (B.sub y c h2),λx hx=>B.has x hx,(λx c hf=>nomatch (show false=true from hf)),I.ok.hd,I.ok.frames,.inl rfl,λb hb => ?_,I.bs,Nat.le_trans I.ok.bsz I.sz,λb o e hb => ?_,fin,I.stack,I.stkFree⟩
  ·obtain⟨f0,f1,f2,f3,f4,f5⟩:=f b hb
   exact⟨Nat.ne_of_lt (lt b hb),λx c e=>f4 x c (B.sub x c e)⟩
  ·obtain⟨f0,f1,f2,f3,f4,f5⟩:=f b hb
   rcases f3 with z | z
   ·exact I.ok.noex b o e z
   ·exact absurd (Nat.lt_of_lt_of_le (Heap.lt_size e) (Nat.le_trans I.ok.bsz z)) (Nat.lt_irrefl _)
 refine⟨ok,rfl,I.bare,Un.kept k,⟨_,hns,λi x v e1 e2 e3 => ?_⟩,λx c e => ?_,I.hok.fresh (Nat.le_refl _),λx c e=>I.freeC x c (B.sub x c e),λp hp=>absurd (show p∈([]:List (Addr×Obj)) from hp) (by simp),I.hok.kept k,?_⟩
 ·have e2':∃j,mp[i]? = some (some j)/\σ[j]? = some (some v):=by
   unfold st0 at e2
   rw[List.getElem?_map]at e2
   cases q:mp[i]? with
   | none=>rw[q]at e2;cases e2
   | some o=>
    rw[q]at e2
    cases o with
    | none=>cases e2
    | some j=>
     refine⟨j,rfl,?_⟩
     have e2'':(σ[j]?).getD none=some v:=Option.some.inj e2
     cases r : σ[j]? with
     | none=>rw[r]at e2'';cases e2''
     | some z=>rw[r]at e2'';exact congrArg some e2''
  obtain⟨j,hj,hv⟩:=e2'
  obtain⟨hN,ho,hi⟩:=B.map i j x hj e1
  obtain⟨m,hm,hl⟩:=I.loc
  obtain⟨u,r,l⟩:=hl j x v hN hv (ho.elim (λz => .inr (.inl z)) λz => .inr (.inr z))
  refine⟨u,r,.inr ⟨hi,?_⟩⟩
  rcases l with⟨z,_⟩ | ⟨_,c,ec,z⟩
  ·have z':X.env.scope.names.lookup x=some .local:=z
   rcases ho with ho | ho
   ·rw[z']at ho;cases ho
   ·rw[z']at ho;cases ho
  ·obtain⟨c',ec'⟩:=B.has x hi
   have q:=B.sub x c' ec'
   rw[ec]at q;cases q
   obtain⟨o,eo,d⟩:=z
   exact⟨c,ec',o,k c o eo,d⟩
 ·obtain⟨v,o,eo,d⟩:=I.cell x c (B.sub x c e)
  exact⟨v,o,k c o eo,d⟩
 ·show (st0 mp σ).length=N.length
  unfold st0
  rw[List.length_map];exact B.len
theorem zl7{N':List Str}{C:Addr}{H':Hp}{σ':St}{s':Shared}{h':Heap}(I:Inv X pins σ H s)(f:∀b∈fp,FpOk X pins H b)(hC:s.heap.objs.size<=C)
  (J:Inv (blk X N' scope cl C s H fp) [] σ' H' s') (sb:Heap.SameBut C s'.heap h'):Inv X pins σ H' { s' with heap:=h' }:=by
 have ub:Un (frs X.stack) fp H H' s.heap s'.heap:=J.base
 have ne:∀b o,s.heap.get? b=some o->b≠C:=λb o e=>Nat.ne_of_lt (Nat.lt_of_lt_of_le (Heap.lt_size e) hC)
 have u:Un (frs X.stack) fp H H' s.heap h':=by
  refine⟨λb o e n hb hx=>(sb.2 b (ne b o e)).trans (ub.keep b o e n hb hx),λb o e n hb hx => ?_,ub.free,λb o e hx => ?_,ub.tups,ub.frzs,ub.tbls⟩
  ·obtain⟨sl,q⟩:=ub.slot b o e n hb hx
   exact⟨sl,(sb.2 b (ne b o e)).trans q⟩
  ·obtain⟨o',q⟩:=ub.there b o e hx
   exact⟨o',(sb.2 b (ne b o e)).trans q⟩
 have fC:H' C=none:=J.free
 have ok':HOk X.prog X.w H' h':=λb ob e=>by
  have jok:HOk X.prog X.w H' s'.heap:=J.hok
  refine(jok b ob e).stay (λc v hc q=>(sb.2 c ?_).trans q) (λ_ q=>q) λ_ _ q=>q
  rintro rfl
  rcases hc with rfl | hc
  ·rw[fC]at e;cases e
  ·rw[fC]at hc;cases hc
 refine I.call' (s':={ s' with heap:=h' }) (ch:=fp) ?_ u ok' J.bare λb hb => ?_
 ·exact J.os
 ·obtain⟨f0,f1,f2,f3,f4,f5⟩:=f b hb
  exact⟨f3,f1,f4,f5⟩
end
def PTs(X:Cx)(ifs:List Expr)(t:TT):Prop:=
 ∀(pins:List (Addr×Obj)) (s:Shared) (σ : St) (H:Hp) (Q:Bool->Hp->Prop),Inv X pins σ H s->t σ H Q->wpAny (model X.prog X.w) X.A (ifsOf ifs X.env) (TP X pins σ Q) X.xe s
def tYes:TT:=λ_ H Q=>Q true H
theorem zdn{X:Cx}:PTs X [] tYes:=λ_ _ _ H _ I h=>wpAny_pure ⟨H,I,h⟩
theorem zhy{X:Cx}{c:Expr}{t:TT}(h:PT X c t):PTs X [c] t:=λpins s σ H Q I hw=>wpAny_tests_one (h pins s σ H Q I hw)
@[irreducible] def tComp (mp:List (Option Nat)) (wi:TI) (g:TG) (tc:TT) (te:TE):TE:=λσ H Q=>wi σ H λJ H1=>∀D,H1 D=none->∃W:Nat->Nat->List V->St->Hp->Prop,
 (∃m,W 0 m [] (st0 mp σ) (upd H1 D (.lst [])))/\∀i m ys σ' H',W i m ys σ' H'->H' D=some (.lst ys) /\
  ((J.stop i H'/\Q (.ref D) H')\/(J.go i H'/\ys.length < sizeLine/\∀x H2,J.yld i H' x H2->g x σ' H2 λσ2 H3=>tc σ2 H3 λb H4=>
   if b=true then te σ2 H4 λv H5=>H5 D=some (.lst ys)/\∃m',m' < m/\W (i + 1) m' (ys ++ [v]) σ2 (upd H5 D (.lst (ys ++ [v])))
   else ∃m',m' < m/\W (i + 1) m' ys σ2 H4))
def CompW(J:It)(D:Addr)(g:TG)(tc:TT)(te:TE)(Qf:Hp->Prop)(W:Nat->Nat->List V->St->Hp->Prop):Prop:=∀i m ys σ' H',W i m ys σ' H'->H' D=some (.lst ys) /\
  ((J.stop i H'/\Qf H')\/(J.go i H'/\ys.length < sizeLine/\∀x H2,J.yld i H' x H2->g x σ' H2 λσ2 H3=>tc σ2 H3 λb H4=>
   if b=true then te σ2 H4 λv H5=>H5 D=some (.lst ys)/\∃m',m' < m/\W (i + 1) m' (ys ++ [v]) σ2 (upd H5 D (.lst (ys ++ [v])))
   else ∃m',m' < m/\W (i + 1) m' ys σ2 H4))
theorem zhc{X:Cx}{N:List Str}{scope:Scope}{cl:List (Str×Addr)}{mp:List (Option Nat)}{elt tg iter:Expr}{ifs:List Expr}{g:TG}{tc:TT}{te:TE}{pos:Pos}(B:Blk X N scope cl mp)(hc:X.calm=true)
  (hg:∀C s H fp,PG (blk X N scope cl C s H fp) tg g) (ht:∀C s H fp,PTs (blk X N scope cl C s H fp) ifs tc) (he:∀C s H fp,PE (blk X N scope cl C s H fp) elt te)
  {pins:List (Addr×Obj)} {σ : St} {HD:Hp} {s:Shared} {fp:List Addr} {it D:Addr} {tn:Nat->Heap->Prop} {J:It} {Qf:Hp->Prop} {W:Nat->Nat->List V->St->Hp->Prop} {m0:Nat} {E:Value->Shared->Prop} {RR:Addr->Result->Shared->Prop}
  (I:Inv X pins σ HD s) (f:∀b∈fp,FpOk X pins HD b) (T:Turn X.prog X.w X.K tg J fp it tn) (st:tn 0 s.heap) (w0:W 0 m0 [] (st0 mp σ) HD) (turn:CompW J D g tc te Qf W)
  (hRR:∀C H' σ' s',s.heap.objs.size<=C->Inv (blk X N scope cl C s HD fp) [] σ' H' s'->Qf H'->RR C (.ok .next) s') :
  wpAny (model X.prog X.w) X.A (newFunctionEnv scope X.env.globals cl [] X.env.qual none .none (some X.env)) (λcenv s4=>
   codeAny (model X.prog X.w) X.A (.compStart (.ListComp elt [⟨tg,iter,ifs,0⟩] scope pos) 0 (.ref it) (.ref D) { cenv with scope:=relabel scope X.env }) (RR cenv.locals) s4) E s:=by
 have lt:∀b∈fp,b < s.heap.objs.size:=λb hb=>let ⟨o,e,_⟩:=T.obj _ _ st b hb;Heap.lt_size e
 refine wpAny_newFunctionEnv B.cell (by intro y hy;simp at hy) (λh3 hns hsb => ?_) B.kind
 have k3:∀b o,s.heap.get? b=some o->h3.get? b=some o:=λb o e=>(hsb.2 b (Nat.ne_of_lt (Heap.lt_size e))).trans (Heap.get?_push_of_some _ e)
 have JB:=zsi (t':=s.toks + ([]:List (Str×Value)).length) B I f lt hns k3
 have st3:tn 0 h3:=T.keep _ _ _ st λb _ o e=>k3 b o e
 have fin:∀b∈fp,b ∉ frs X.stack:=λb hb z=>by
  obtain⟨_,f1,f2,_⟩:=f b hb
  rcases List.mem_cons.mp (I.stkSub b z) with e | e
  ·exact f1 e
  ·exact f2 e
 have stat:∀{H':Hp},(∀b∈fp,H' b=none)->∀b∈fp,FpOk (blk X N scope cl s.heap.objs.size s HD fp) [] H' b:=fun{H'} hn b hb=>by
  obtain⟨f0,f1,f2,f3,f4,f5⟩:=f b hb
  exact⟨hn b hb,Nat.ne_of_lt (lt b hb),fin b hb,.inl hb,λx c e=>f4 x c (B.sub x c e),λp hp=>absurd (show p∈([]:List (Addr×Obj)) from hp) (by simp)⟩
 have loop:codeAny (model X.prog X.w) X.A (.compLoop (.ListComp elt [⟨tg,iter,ifs,0⟩] scope pos) 0 (.ref it) (.ref D) (compEnvC scope cl s.heap.objs.size X.env)) (RR s.heap.objs.size) { s with heap:=h3,toks:=s.toks + ([]:List (Str×Value)).length }:=by
  refine zlm (λn s'=>∃i ys σ' H',Inv (blk X N scope cl s.heap.objs.size s HD fp) [] σ' H' s'/\tn i s'.heap/\(∀b∈fp,H' b=none)/\W i n ys σ' H') ?_ m0 ⟨0,[],_,HD,JB,st3,λb hb=>(f b hb).1,w0⟩
  rintro n s5 ⟨i,ys,σ5,H5,I5,st5,fr5,w5⟩
  obtain⟨hD,tr⟩:=turn i n ys σ5 H5 w5
  rcases tr with⟨stop,qn⟩ | ⟨go,hz,step⟩
  ·refine thn (T.done (blk X N scope cl s.heap.objs.size s HD fp) rfl rfl rfl hc i [] s5 σ5 H5 E00 I5 (stat fr5) st5 stop) λr s6 ⟨hr,I6⟩ => ?_
   subst hr
   exact hRR _ H5 σ5 s6 (Nat.le_refl _) I6 qn
  ·refine thn (T.item (blk X N scope cl s.heap.objs.size s HD fp) rfl rfl rfl hc i [] s5 σ5 H5 E00 I5 (stat fr5) st5 go) λr s6 ⟨u,hr,h6⟩ => ?_
   subst hr
   refine thn h6 λ_ s7 ⟨x,H7,I7,r7,y7,st7,fr7⟩ => ?_
   have I7':=I7.pinned (stat fr7) (T.obj _ _ st7)
   have again:∀{ys':List V} {σ8:St} {H8:Hp} {s8:Shared} {m':Nat},Inv (blk X N scope cl s.heap.objs.size s HD fp) ([] ++ pinsAt fp s7.heap) σ8 H8 s8->m' < n->W (i + 1) m' ys' σ8 H8 ->
     ∃m,m < n/\∃i ys σ' H',Inv (blk X N scope cl s.heap.objs.size s HD fp) [] σ' H' s8/\tn i s8.heap/\(∀b∈fp,H' b=none)/\W i m ys σ' H':=fun{ys' σ8 H8 s8 m'} I8 hm w8=>by
    refine⟨m',hm,i + 1,ys',σ8,H8,I8.unpinned,T.keep _ _ _ st7 λb hb o e=>(I8.pin (b,o) (List.mem_append_right _ (List.mem_append_right _ (zd7 hb e)))).1,λb hb => ?_,w8⟩
    obtain⟨o,e,d⟩:=T.obj _ _ st7 b hb
    exact(I8.pin (b,o) (List.mem_append_right _ (List.mem_append_right _ (zd7 hb e)))).2.1
   refine thn (hg _ _ _ _ _ s7 σ5 H7 x u _ I7' r7 (step x H7 y7)) λ_ s8 ⟨σ8,H8,I8,q8⟩ => ?_
   refine thn (ht _ _ _ _ _ s8 σ8 H8 _ I8 q8) λok s9 ⟨H9,I9,q9⟩ => ?_
   cases ok with
   | false=>
    rw[if_neg (by decide)]at q9
    obtain⟨m',hm,w9⟩:=q9
    rw[if_neg (by decide)]
    exact again I9 hm w9
   | true=>
    rw[if_pos rfl]at q9
    rw[if_pos rfl]
    refine thn (he _ _ _ _ _ s9 σ8 H9 _ I9 q9) λxv s10 ⟨v,H10,I10,r10,hD10,m',hm,w'⟩ => ?_
    refine thn (zir _ s10 σ8 H10 (.ref D) [v] (.ref D) [xv] (λ_ H'=>H'=upd H10 D (.lst (ys ++ [v]))) I10 rfl (.cons r10 .nil) ⟨D,ys,v,rfl,rfl,hD10,hz,rfl⟩) λ_ s11 ⟨_,H11,I11,_,e11⟩ => ?_
    subst e11
    exact again I11 hm w'
 exact codeAny_compStart_list loop (T.self _ 0 _ _ _ st3 loop)
theorem zc8{X:Cx}{N:List Str}{scope:Scope}{cl:List (Str×Addr)}{mp:List (Option Nat)}{elt tg iter:Expr}{ifs:List Expr}{wi:TI}{g:TG}{tc:TT}{te:TE}{pos:Pos}(B:Blk X N scope cl mp)(hc:X.calm=true)
  (hi:PI X tg iter wi) (hg:∀C s H fp,PG (blk X N scope cl C s H fp) tg g) (ht:∀C s H fp,PTs (blk X N scope cl C s H fp) ifs tc) (he:∀C s H fp,PE (blk X N scope cl C s H fp) elt te)
  (hs:∀x,foldedSetIterable iter X.env x=pure x:=by intro _;rfl):PE X (.ListComp elt [⟨tg,iter,ifs,0⟩] scope pos) (tComp mp wi g tc te):=by
 intro pins s σ H Q I h
 unfold tComp at h
 rw[eval_ListComp]
 refine wpAny_comprehension_free (use:=none) (cl:=cl) rfl hs B.clos B.kind B.nms (thn (hi pins s σ H _ I h) λv s1 h1=>thn h1 λitv s2 h2 => ?_)
 obtain⟨it,fp,tn,J,H2,rfl,I2,T,st2,f2,q⟩:=h2
 have lt2:∀b∈fp,b < s2.heap.objs.size:=λb hb=>let ⟨o,e,_⟩:=T.obj _ _ st2 b hb;Heap.lt_size e
 obtain⟨W,⟨m0,w0⟩,turn⟩:=q _ I2.fresh
 have ID:=I2.lnew (ys:=[]) (its:=[]) (t':=s2.toks) .nil (Nat.zero_le _)
 have fD':∀b∈fp,FpOk X pins (upd H2 s2.heap.objs.size (.lst [])) b:=λb hb=>by
  obtain⟨f0,r⟩:=f2 b hb
  exact⟨by rw[zao (Nat.ne_of_lt (lt2 b hb))];exact f0,r⟩
 refine wpAny_newObj_type (zhc B hc hg ht he ID fD' T (T.keep _ _ _ st2 λb _ o e=>Heap.get?_push_of_some _ e) w0 turn λC H' σ' s' hC J' qf => ?_)
 obtain⟨m,hm,_⟩:=J'.loc
 exact⟨m,hm,λh' sb=>⟨.ref _,H',zl7 ID fD' hC J' sb,rfl,qf⟩⟩
end L2
namespace L2
open PySem PySem.Spec PyProof.Rows
def SqX(K:W.Frag)(b:Bool)(H:Hp)(a:Addr)(xs:List V):Prop:=match b with
 | true=>SqT K H a xs
 | false=>SqL K H a xs
section
variable{X:Cx}{pins:List (Addr×Obj)}{σ : St}{H:Hp}{s:Shared}{b:Bool}{a:Addr}{xs ys:List V}
theorem Inv.sq(I:Inv X pins σ H s)(h:SqX X.K b H a xs):∃its:List Value,Vals xs its/\SqAt b s.heap a its.toArray:=by
 cases b with
 | true=>obtain⟨its,rv,p,_⟩:=I.tuple h;exact⟨its,rv,show s.heap.IsTuple a its.toArray from p⟩
 | false=>obtain⟨its,rv,p,_⟩:=I.list h;exact⟨its,rv,p.isList⟩
theorem Inv.sq_inj(I:Inv X pins σ H s)(h:SqX X.K b H a xs)(h':SqX X.K b H a ys):xs=ys:=by
 cases b with
 | true=>exact I.tuple_inj h h'
 | false=>exact I.list_inj h h'
theorem Inv.turnedL{ch:List Addr}{h':Heap}{t':Nat}(I:Inv X pins σ H s)(hf:∀b∈ch,FpOk X pins H b)(k:∀b o,b ∉ ch->s.heap.get? b=some o->h'.get? b=some o):Inv X pins σ H { s with heap:=h',toks:=t' }:=by
 have nch:∀b u,H b=some u->b ∉ ch:=λb u e z=>by have q:=(hf b z).1;rw[q]at e;cases e
 refine I.step (g':=s.gens) (d':=s.drawn) (ch:=ch) (λb hb => ?_) (λb o _ _ hc e _=>k b o hc e) (λb o _ _ hc e _=>⟨o.slots,k b o hc e⟩) (λ_ _ _ _ n=>n)
  (λb o hc e=>⟨o,k b o hc e⟩) (λ_ _ e=>e) (λ_ _ _ e=>e) (λb ps e=>⟨#[],by rw[e];simp⟩) (λm hm => ?_) (λb u e => ?_) I.bare
 ·obtain⟨f0,f1,f2,f3,f4,f5⟩:=hf b hb
  exact⟨f3,f1,f4,f5⟩
 ·obtain⟨o,es,ep,ho,r⟩:=hm
  exact⟨o,es,ep,k _ o (λz=>(hf _ z).2.1 rfl) ho,r⟩
 ·refine(I.hok b u e).stay (λc v hc q=>k c v ?_ q) (λ_ q=>q) λ_ _ q=>q
  rcases hc with z | z
  ·rw[z];exact nch b u e
  ·exact nch c _ z
theorem Inv.drawn{ch:List Addr}{h':Heap}{t':Nat}{p:Addr}{o:HO}(I:Inv X pins σ H s)(hf:∀b∈ch,FpOk X pins H b)(k:∀b o,b ∉ ch->s.heap.get? b=some o->h'.get? b=some o)(hp:s.heap.objs.size<=p)
  (new:ObjOk X.prog X.w (upd H p o) h' p o):Inv X pins σ (upd H p o) { s with heap:=h',toks:=t' }:=by
 have nch:∀b u,H b=some u->b ∉ ch:=λb u e z=>by have q:=(hf b z).1;rw[q]at e;cases e
 have hn:H p=none:=I.hok.fresh hp
 have np:∀b u,s.heap.get? b=some u->b≠p:=λb u e=>Nat.ne_of_lt (Nat.lt_of_lt_of_le (Heap.lt_size e) hp)
 refine I.step (g':=s.gens) (d':=s.drawn) (ch:=ch) (λb hb => ?_) (λb o _ _ hc e _=>k b o hc e) (λb o _ _ hc e _=>⟨o.slots,k b o hc e⟩) (λb o _ e n=>by rw[zao (np b o e)];exact n)
  (λb o hc e=>⟨o,k b o hc e⟩) (λb xs e=>by rw[zao (zaq e hn)];exact e) (λb o u e=>by rw[zao (zaq e hn)];exact e) (λb ps e=>⟨#[],by rw[zao (zaq e hn),e];simp⟩) (λm hm => ?_) (λb u e => ?_) I.bare
 ·obtain⟨f0,f1,f2,f3,f4,f5⟩:=hf b hb
  exact⟨f3,f1,f4,f5⟩
 ·obtain⟨o,es,ep,ho,r⟩:=hm
  exact⟨o,es,ep,k _ o (λz=>(hf _ z).2.1 rfl) ho,r⟩
 ·by_cases hb:b=p
  ·subst hb;rw[zaf]at e;cases e;exact new
  ·rw[zao hb]at e
   refine(I.hok b u e).stay (λc v hc q=>k c v ?_ q) (λc q=>by rw[zao (zaq q hn)];exact q) λc xs q=>by rw[zao (zaq q hn)];exact q
   rcases hc with z | z
   ·rw[z];exact nch b u e
   ·exact nch c _ z
end
def Itz(K:W.Frag)(b1 b2:Bool)(a1 a2:Addr):It:=
 ⟨λi H=>∃xs ys x y,SqX K b1 H a1 xs/\SqX K b2 H a2 ys/\xs[i]? = some x/\ys[i]? = some y,
  λi H v H'=>∃p x y,H p=none/\v = .ref p/\H'=upd H p (.tup [x,y])/\(∀xs,SqX K b1 H a1 xs->xs[i]? = some x)/\∀ys,SqX K b2 H a2 ys->ys[i]? = some y,
  λi H=>∃xs ys,SqX K b1 H a1 xs/\SqX K b2 H a2 ys/\(xs.length<=i\/ys.length<=i)⟩
theorem zqg{P:Program}{w:World}{K:W.Frag}{es:List Expr}{ek:Nat}{pos:Pos}(b1 b2:Bool){z TI TO i1 i2 a1 a2:Addr}(D:ZipApart z TI TO i1 i2 a1 a2) :
  Turn P w K (.Tuple es ek pos) (Itz K b1 b2 a1 a2) [z,TI,TO,i1,i2] z (λi h=>ZSt b1 b2 z TI TO i1 i2 a1 a2 .none i h) where
 mem:=by simp
 obj:=λi h st b hb=>by
  simp only[List.mem_cons,List.not_mem_nil,or_false]at hb
  rcases hb with rfl | rfl | rfl | rfl | rfl
  ·exact⟨_,st.zip,λv q=>by cases q⟩
  ·exact⟨_,st.ti,λv q=>by cases q⟩
  ·obtain⟨a,b,e⟩:=st.to
   exact⟨_,e,λv q=>by cases q⟩
  ·exact st.it1.obj
  ·exact st.it2.obj
 keep:=λi h h' st k=>st.at k
 item:=by
  intro X hP hw hK hc i pins s σ H E I hf st hg
  subst hP hw hK
  obtain⟨xs,ys,x,y,h1,h2,hx,hy⟩:=hg
  obtain⟨us,ru,q1⟩:=I.sq h1
  obtain⟨ws,rw',q2⟩:=I.sq h2
  obtain⟨u,eu,rx⟩:=ru.get hx
  obtain⟨v,ev,ry⟩:=rw'.get hy
  refine zg1 D st q1 q2 (x:=u) (y:=v) (by simpa using eu) (by simpa using ev) λh' S p8 s8 k => ?_
  refine⟨_,rfl,wpAny_letOwnedTupleGo_zip S.zip λh'' z' e' => ?_⟩
  have zlt:z < s.heap.objs.size:=Heap.lt_size st.zip
  have zp:s.heap.objs.size≠z:=Nat.ne_of_gt zlt
  have kk:∀b o,b ∉ [z,TO,i1,i2]->s.heap.get? b=some o->h''.get? b=some o:=λb o hb e=>by
   simp only[List.mem_cons,List.not_mem_nil,or_false,not_or]at hb
   exact e'.extBut _ _ hb.1 (k b o hb.1 hb.2.1 hb.2.2.1 hb.2.2.2 e)
  have pp:IsPair h'' s.heap.objs.size u v:=e'.extBut _ _ zp p8
  refine⟨.ref s.heap.objs.size,upd H s.heap.objs.size (.tup [x,y]),I.drawn (t':=s.toks) (ch:=[z,TO,i1,i2]) (λb hb=>hf b ?_) kk (Nat.le_refl _) ?_,rfl,⟨_,x,y,I.fresh,rfl,rfl,λxs' hq => ?_,λys' hq => ?_⟩,?_,λb hb => ?_⟩
  ·simp only[List.mem_cons,List.not_mem_nil,or_false]at hb ⊢
   rcases hb with rfl | rfl | rfl | rfl <;> simp
  ·exact⟨by show 2<=sizeLine;rw[sizeLine_eq];decide,[u,v],.cons rx (.cons ry .nil),⟨_,pp,rfl,_,rfl⟩⟩
  ·rw[I.sq_inj hq h1];exact hx
  ·rw[I.sq_inj hq h2];exact hy
  ·exact⟨z',e'.extBut _ _ D.TIz S.ti,(let ⟨a,b,e⟩:=S.to;⟨a,b,e'.extBut _ _ D.TOz e⟩),S.it1.at λo q=>e'.extBut _ _ D.i1z q,S.it2.at λo q=>e'.extBut _ _ D.i2z q⟩
  ·obtain⟨o,e,_⟩:∃o,s.heap.get? b=some o/\∀v,o.data≠.cell v:=by
    simp only[List.mem_cons,List.not_mem_nil,or_false]at hb
    rcases hb with rfl | rfl | rfl | rfl | rfl
    ·exact⟨_,st.zip,λv q=>by cases q⟩
    ·exact⟨_,st.ti,λv q=>by cases q⟩
    ·obtain⟨a,b,e⟩:=st.to
     exact⟨_,e,λv q=>by cases q⟩
    ·exact st.it1.obj
    ·exact st.it2.obj
   rw[zao (Nat.ne_of_lt (Heap.lt_size e))]
   exact(hf b hb).1
 done:=by
  intro X hP hw hK hc i pins s σ H E I hf st hg
  subst hP hw hK
  obtain⟨xs,ys,h1,h2,hl⟩:=hg
  obtain⟨us,ru,q1⟩:=I.sq h1
  obtain⟨ws,rw',q2⟩:=I.sq h2
  have l1:=ru.length
  have l2:=rw'.length
  refine zg2 (I.ok.hd hc) D st q1 q2 ?_ λh' k=>⟨rfl,I.turnedL (t':=s.toks) (ch:=[z,TO,i1,i2]) (λb hb=>hf b ?_) λb o hb e => ?_⟩
  ·rcases hl with hl | hl
   ·exact .inl (by simp;omega)
   ·exact .inr (by simp;omega)
  ·simp only[List.mem_cons,List.not_mem_nil,or_false]at hb ⊢
   rcases hb with rfl | rfl | rfl | rfl <;> simp
  ·simp only[List.mem_cons,List.not_mem_nil,or_false,not_or]at hb
   exact k b o hb.1 hb.2.1 hb.2.2.1 hb.2.2.2 e
 self:=λ_ _ _ _ _ st h=>wpAny_pyIter_zip st.zip h
def iZip(K:W.Frag)(b1 b2:Bool)(ta:TA):TI:=λσ H R=>ta σ H λvs H1=>∃a1 a2,vs=[.ref a1,.ref a2]/\(∃xs,SqX K b1 H1 a1 xs)/\(∃ys,SqX K b2 H1 a2 ys)/\R (Itz K b1 b2 a1 a2) H1
theorem zvk{X:Cx}{es:List Expr}{ek:Nat}{tpos p pos:Pos}(b1 b2:Bool){e1 e2:Expr}{ta:TA}(hg:Gl X "zip")(hm:X.mg "zip" = none)(ha:PA X [e1,e2] ta)
  (he:starEach [e1,e2] X.env=(false,eval e1 X.env) :: starEach [e2] X.env:=by rfl) (hpl:(backTo pos (starEach [e2] X.env)).any (·.1)=false:=by rfl) :
  PI X (.Tuple es ek tpos) (.Call (.Name "zip" p) [e1,e2] [] pos) (iZip X.K b1 b2 ta):=by
 intro pins s σ H R I h
 refine wpAny_Call_Name_kw (zfp I hg hm boot_zip ?_ (by decide) (by decide))
 refine PyProof.Rows.callWith_type1 (thn (ha pos pins s σ H _ I h) λus s1 ⟨vs,H1,I1,r1,a1,a2,ev,⟨xs,h1⟩,⟨ys,h2⟩,q⟩ => ?_) he hpl
 subst ev
 obtain⟨u1,u2,rfl,e1',e2'⟩:=r1.two
 cases e1';cases e2'
 obtain⟨us,ru,q1⟩:=I1.sq h1
 obtain⟨ws,rw',q2⟩:=I1.sq h2
 have lt1:a1 < s1.heap.objs.size:=by cases b1 <;> (obtain⟨o,e,_⟩:=q1;exact Heap.lt_size e)
 have lt2:a2 < s1.heap.objs.size:=by cases b2 <;> (obtain⟨o,e,_⟩:=q2;exact Heap.lt_size e)
 refine zqq q1 q2 λh' S k z5=>wpAny_pyIter_zip S.zip ?_
 have I2:Inv X pins σ H1 { s1 with heap:=h' }:=I1.kept (t':=s1.toks) k
 refine⟨s1.heap.objs.size + 4,[s1.heap.objs.size + 4,s1.heap.objs.size + 2,s1.heap.objs.size + 3,s1.heap.objs.size,s1.heap.objs.size + 1],_,_,H1,rfl,I2,zqg b1 b2 (zipApart_new lt1 lt2),S,λb hb => ?_,q⟩
 have hb':s1.heap.objs.size<=b:=by
  simp only[List.mem_cons,List.not_mem_nil,or_false]at hb
  rcases hb with rfl | rfl | rfl | rfl | rfl
  ·exact Nat.le_add_right _ 4
  ·exact Nat.le_add_right _ 2
  ·exact Nat.le_add_right _ 3
  ·exact Nat.le_refl _
  ·exact Nat.le_add_right _ 1
 exact I1.fpOk hb' (I1.hok.fresh hb')
end L2
namespace L2
open PySem PySem.Spec PyProof.Rows
theorem Same.upd{H:Hp}{p:Addr}{o:HO}(h:H p=none):Same H (upd H p o):=λb u e=>by rw[zao (zaq e h)];exact e
theorem Same.updR{H H':Hp}{p:Addr}{o:HO}(e:Same H H')(h:H p=none):Same H (L2.upd H' p o):=λb u q=>by rw[zao (zaq q h)];exact e b u q
theorem Same.seqT{K:W.Frag}{H H':Hp}{a:Addr}{xs:List V}(e:Same H H')(h:SqT K H a xs):SqT K H' a xs:=by
 rcases h with(h | ⟨o,h⟩) | h
 ·exact .inl (.inl (e _ _ h))
 ·exact .inl (.inr ⟨o,e _ _ h⟩)
 ·exact .inr h
theorem Same.sqX{K:W.Frag}{b:Bool}{H H':Hp}{a:Addr}{xs:List V}(e:Same H H')(h:SqX K b H a xs):SqX K b H' a xs:=by
 cases b with
 | true=>exact e.seqT h
 | false=>exact e.seq h
structure Walk(J:It)(H1:Hp)(n:Nat)(P:Nat->V->Hp->Prop):Prop where
 go:∀i H',Same H1 H'->i < n->J.go i H'
 stop:∀H',Same H1 H'->J.stop n H'
 yld:∀i H' x H2,Same H1 H'->i < n->J.yld i H' x H2->Same H' H2/\P i x H2
theorem zet{K:W.Frag}{H1:Hp}{a:Addr}{xs:List V}(h:SqL K H1 a xs):Walk (Itl K a) H1 xs.length (λi x _=>xs[i]? = some x):=
 ⟨λi H' e hi=>⟨xs,xs[i],e.seq h,by simp[hi]⟩,λH' e=>⟨xs,e.seq h,Nat.le_refl _⟩,λi H' x H2 e hi y=>by
  obtain⟨rfl,q⟩:=y
  exact⟨Same.refl _,q xs (e.seq h)⟩⟩
theorem zp1{K:W.Frag}{H1:Hp}{a:Addr}{xs:List V}(h:SqT K H1 a xs):Walk (Itt K a) H1 xs.length (λi x _=>xs[i]? = some x):=
 ⟨λi H' e hi=>⟨xs,xs[i],e.seqT h,by simp[hi]⟩,λH' e=>⟨xs,e.seqT h,Nat.le_refl _⟩,λi H' x H2 e hi y=>by
  obtain⟨rfl,q⟩:=y
  exact⟨Same.refl _,q xs (e.seqT h)⟩⟩
theorem zex{H1:Hp}(lo:Int)(n:Nat):Walk (Itr lo n) H1 n (λi x _=>x = .int (lo + i)):=
 ⟨λi H' e hi=>hi,λH' e=>Nat.le_refl _,λi H' x H2 e hi y=>by
  obtain⟨rfl,q⟩:=y
  exact⟨Same.refl _,q⟩⟩
theorem zpy{K:W.Frag}{b1 b2:Bool}{H1:Hp}{a1 a2:Addr}{xs ys:List V}(h1:SqX K b1 H1 a1 xs)(h2:SqX K b2 H1 a2 ys) :
  Walk (Itz K b1 b2 a1 a2) H1 (min xs.length ys.length) (λi v H=>∃p x y,v = .ref p/\H p=some (.tup [x,y])/\xs[i]? = some x/\ys[i]? = some y):=by
 refine⟨λi H' e hi => ?_,λH' e=>⟨xs,ys,e.sqX h1,e.sqX h2,?_⟩,λi H' x H2 e hi q => ?_⟩
 ·have i1:i < xs.length:=by omega
  have i2:i < ys.length:=by omega
  exact⟨xs,ys,xs[i],ys[i],e.sqX h1,e.sqX h2,by simp[i1],by simp[i2]⟩
 ·rcases Nat.le_total xs.length ys.length with q | q
  ·exact .inl (by omega)
  ·exact .inr (by omega)
 ·obtain⟨p,u,v,hp,rfl,rfl,q1,q2⟩:=q
  exact⟨Same.upd hp,p,u,v,rfl,zaf,q1 xs (e.sqX h1),q2 ys (e.sqX h2)⟩
theorem znb{J:It}{H1:Hp}{n:Nat}{P:Nat->V->Hp->Prop}{g:TG}{tc:TT}{te:TE}{Q:VK}{σ0:St}{D:Addr}(S:Walk J H1 n P)(hD:H1 D=none)(hn:n<=sizeLine)(Sv:St->Prop)(p:Nat->Bool)(F:Nat->V->Hp->Prop)
  (monoS:∀i v H H',Same H H'->F i v H->F i v H') (monoU:∀i v H a ys ys',H a=some (.lst ys)->F i v H->F i v (upd H a (.lst ys'))) (h0:Sv σ0)
  (step:∀i x σ' H2,i < n->Sv σ'->Same H1 H2->P i x H2->∀(Ny:V->St->Hp->Prop) (Nn:St->Hp->Prop),(∀v σ2 H5,Sv σ2->Same H2 H5->F i v H5->p i=true->Ny v σ2 H5)->(∀σ2 H4,Sv σ2->Same H2 H4->p i=false->Nn σ2 H4) ->
   g x σ' H2 λσ2 H3=>tc σ2 H3 λb H4=>if b=true then te σ2 H4 λv H5=>Ny v σ2 H5 else Nn σ2 H4)
  (hQ:∀H' ys,Same H1 H'->H' D=some (.lst ys)->Paired (λi v=>F i v H') ((List.range n).filter p) ys->Q (.ref D) H') :
  ∃W:Nat->Nat->List V->St->Hp->Prop,(∃m,W 0 m [] σ0 (upd H1 D (.lst [])))/\∀i m ys σ' H',W i m ys σ' H'->H' D=some (.lst ys) /\
  ((J.stop i H'/\Q (.ref D) H')\/(J.go i H'/\ys.length < sizeLine/\∀x H2,J.yld i H' x H2->g x σ' H2 λσ2 H3=>tc σ2 H3 λb H4=>
   if b=true then te σ2 H4 λv H5=>H5 D=some (.lst ys)/\∃m',m' < m/\W (i + 1) m' (ys ++ [v]) σ2 (upd H5 D (.lst (ys ++ [v])))
   else ∃m',m' < m/\W (i + 1) m' ys σ2 H4)):=by
 refine⟨λi m ys σ' H'=>m=n - i/\i<=n/\Sv σ'/\Same H1 H'/\H' D=some (.lst ys)/\Paired (λj v=>F j v H') ((List.range i).filter p) ys,⟨n,rfl,Nat.zero_le _,h0,Same.upd hD,zaf,.nil⟩,?_⟩
 rintro i m ys σ' H' ⟨rfl,hi,hs,hS,hL,hF⟩
 refine⟨hL,?_⟩
 have rs:(List.range (i + 1)).filter p=(List.range i).filter p ++ (if p i=true then [i] else []):=by
  rw[List.range_succ,List.filter_append]
  cases q:p i <;> simp[q]
 by_cases hlt:i < n
 ·refine .inr ⟨S.go i H' hS hlt,?_,λx H2 y => ?_⟩
  ·have l1:=hF.length
   have l2:((List.range i).filter p).length<=(List.range i).length:=List.length_filter_le _ _
   rw[List.length_range]at l2
   omega
  ·obtain⟨e2,hP⟩:=S.yld i H' x H2 hS hlt y
   refine step i x σ' H2 hlt hs (hS.trans e2) hP _ _ (λv σ2 H5 s2 e5 f5 hp => ?_) λσ2 H4 s2 e4 hp => ?_
   ·have l5:H5 D=some (.lst ys):=e5 _ _ (e2 _ _ hL)
    refine⟨l5,n - (i + 1),by omega,rfl,hlt,s2,((hS.trans e2).trans e5).updR hD,zaf,?_⟩
    rw[rs,if_pos hp]
    refine Paired.snoc (Paired.imp' (λj w q => ?_) hF) (monoU i v H5 D ys _ l5 f5)
    exact monoU j w H5 D ys _ l5 (monoS j w H' H5 (e2.trans e5) q)
   ·refine⟨n - (i + 1),by omega,rfl,hlt,s2,(hS.trans e2).trans e4,e4 _ _ (e2 _ _ hL),?_⟩
    rw[rs,if_neg (by rw[hp];decide),List.append_nil]
    exact Paired.imp' (λj w q=>monoS j w H' H4 (e2.trans e4) q) hF
 ·have e:i=n:=by omega
  subst e
  exact .inl ⟨S.stop H' hS,hQ H' ys hS hL hF⟩
theorem Paired.eq_map{β : Type}{f:Nat->β}:∀{l:List Nat} {ys:List β},Paired (λi v=>v=f i) l ys->ys=l.map f
 | _,_,.nil=>rfl
 | _,_,.cons r t=>by rw[List.map_cons,r,Paired.eq_map t]
theorem zgs{J:It}{H1:Hp}{n:Nat}{P:Nat->V->Hp->Prop}{g:TG}{tc:TT}{te:TE}{Q:VK}{σ0:St}{D:Addr}(S:Walk J H1 n P)(hD:H1 D=none)(hn:n<=sizeLine)(Sv:St->Prop)(p:Nat->Bool)(f:Nat->V)(h0:Sv σ0)
  (step:∀i x σ' H2,i < n->Sv σ'->Same H1 H2->P i x H2->∀(Ny:V->St->Hp->Prop) (Nn:St->Hp->Prop),(∀σ2 H5,Sv σ2->Same H2 H5->p i=true->Ny (f i) σ2 H5)->(∀σ2 H4,Sv σ2->Same H2 H4->p i=false->Nn σ2 H4) ->
   g x σ' H2 λσ2 H3=>tc σ2 H3 λb H4=>if b=true then te σ2 H4 λv H5=>Ny v σ2 H5 else Nn σ2 H4)
  (hQ:∀H',Same H1 H'->H' D=some (.lst (((List.range n).filter p).map f))->Q (.ref D) H') :
  ∃W:Nat->Nat->List V->St->Hp->Prop,(∃m,W 0 m [] σ0 (upd H1 D (.lst [])))/\∀i m ys σ' H',W i m ys σ' H'->H' D=some (.lst ys) /\
  ((J.stop i H'/\Q (.ref D) H')\/(J.go i H'/\ys.length < sizeLine/\∀x H2,J.yld i H' x H2->g x σ' H2 λσ2 H3=>tc σ2 H3 λb H4=>
   if b=true then te σ2 H4 λv H5=>H5 D=some (.lst ys)/\∃m',m' < m/\W (i + 1) m' (ys ++ [v]) σ2 (upd H5 D (.lst (ys ++ [v])))
   else ∃m',m' < m/\W (i + 1) m' ys σ2 H4)):=
 znb S hD hn Sv p (λi v _=>v=f i) (λ_ _ _ _ _ q=>q) (λ_ _ _ _ _ _ _ q=>q) h0
  (λi x σ' H2 hi hs e hP Ny Nn hy hn'=>step i x σ' H2 hi hs e hP Ny Nn (λσ2 H5 s2 e5 hp=>hy _ σ2 H5 s2 e5 rfl hp) hn')
  λH' ys e hL hF=>hQ H' e (by rw[<- Paired.eq_map hF];exact hL)
end L2
namespace L2
open PySem PySem.Spec PyProof.Rows
theorem zf6{env:Env}:∀{names:List (Str×NameKind)} {x:Str},names.lookup x=some .free ->
  (names.map fun(n,k)=>if (k == NameKind.free && env.scope.kind == .function && env.kindOf n == some .cell) then(n,NameKind.cell) else(n,k)).lookup x=some .cell \/
  (names.map fun(n,k)=>if (k == NameKind.free && env.scope.kind == .function && env.kindOf n == some .cell) then(n,NameKind.cell) else(n,k)).lookup x=some .free
 | [],_,h=>by simp at h
 | (n,k) :: r,x,h=>by
  have ih := @zf6 env r x
  rw[List.map_cons]
  cases hx:x == n with
  | true=>
   simp only[List.lookup_cons,hx]at h
   cases h
   by_cases hc:(NameKind.free == NameKind.free && env.scope.kind == .function && env.kindOf n == some .cell)=true
   ·dsimp only;rw[if_pos hc];simp only[List.lookup_cons,hx];exact .inl trivial
   ·dsimp only;rw[if_neg hc];simp only[List.lookup_cons,hx];exact .inr trivial
  | false=>
   simp only[List.lookup_cons,hx]at h
   by_cases hc:(k == NameKind.free && env.scope.kind == .function && env.kindOf n == some .cell)=true
   ·dsimp only;rw[if_pos hc];simp only[List.lookup_cons,hx];exact ih h
   ·dsimp only;rw[if_neg hc];simp only[List.lookup_cons,hx];exact ih h
theorem zf2{env:Env}{names:List (Str×NameKind)}{x:Str}{k:NameKind}(hk:k = .cell\/k = .free)(nc:∀y∈names,y.2≠.cell)
  (h:(names.map fun(n,k)=>if (k == NameKind.free && env.scope.kind == .function && env.kindOf n == some .cell) then(n,NameKind.cell) else(n,k)).lookup x=some k):∃y∈names,y.1=x/\y.2 = .free:=by
 have m:=PySem.mem_of_lookup h
 obtain⟨⟨n,k0⟩,hm,e⟩:=List.mem_map.mp m
 dsimp only at e
 by_cases hc:(k0 == NameKind.free && env.scope.kind == .function && env.kindOf n == some .cell)=true
 ·rw[if_pos hc]at e
  simp only[Bool.and_eq_true,beq_iff_eq]at hc
  cases e
  exact⟨_,hm,rfl,hc.1.1⟩
 ·rw[if_neg hc]at e
  cases e
  refine⟨_,hm,rfl,?_⟩
  rcases hk with z | z
  ·exact absurd z (nc _ hm)
  ·exact z
theorem Blk.of{X:Cx}{N:List Str}{scope:Scope}{cl:List (Str×Addr)}{mp:List (Option Nat)}(clos:closureFor scope X.env=pure cl)(cell:∀y∈scope.names,y.2≠.cell)(kind:scope.kind = .function)
  (nms:∀y∈scope.names,y.2 = .local->scope.names.lookup y.1=some .local) (nd:N.Nodup) (sub:∀x c,cl.lookup x=some c->X.env.cells.lookup x=some c) (fr:∀y∈scope.names,y.2 = .free->∃c,cl.lookup y.1=some c) (len:mp.length=N.length)
  (map:∀(i j:Nat) (x:Str),mp[i]? = some (some j)->N[i]? = some x->X.N[j]? = some x/\(X.env.scope.names.lookup x=some .cell\/X.env.scope.names.lookup x=some .free)/\scope.names.lookup x=some .free):Blk X N scope cl mp:=by
 refine⟨clos,cell,kind,nms,nd,sub,λx hx => ?_,len,λi j x h1 h2 => ?_⟩
 ·have:∃y∈scope.names,y.1=x/\y.2 = .free:=hx.elim (λz=>zf2 (.inl rfl) cell z) λz=>zf2 (.inr rfl) cell z
  obtain⟨y,hy,rfl,hf⟩:=this
  exact fr y hy hf
 ·obtain⟨q1,q2,q3⟩:=map i j x h1 h2
  exact⟨q1,q2,zf6 q3⟩
theorem Blk.plain{X:Cx}{N:List Str}{scope:Scope}(fr:∀y∈scope.names,y.2≠.free)(cell:∀y∈scope.names,y.2≠.cell)(kind:scope.kind = .function)(nms:∀y∈scope.names,y.2 = .local->scope.names.lookup y.1=some .local)(nd:N.Nodup) :
  Blk X N scope [] (N.map λ_=>none):=
 Blk.of (closureFor_none fr) cell kind nms nd (λ_ _ h=>nomatch h) (λy hy h=>absurd h (fr y hy)) (List.length_map _) λi j x h=>by
  rw[List.getElem?_map]at h
  cases q:N[i]? with
  | none=>rw[q]at h;cases h
  | some z=>rw[q]at h;cases h
def zipV(p:Int->Int->Bool)(φ : Int->Int->V)(xs ys:List Int):List V:=((List.range (min xs.length ys.length)).filter λi=>p (xs.getD i 0) (ys.getD i 0)).map λi=>φ (xs.getD i 0) (ys.getD i 0)
theorem zef{xs:List Int}{i:Nat}{v:V}(h:(xs.map V.int)[i]? = some v):v = .int (xs.getD i 0):=by
 rw[List.getElem?_map]at h
 cases q:xs[i]? with
 | none=>rw[q]at h;cases h
 | some z=>
  rw[q]at h
  have e:xs.getD i 0=z:=by rw[List.getD_eq_getElem?_getD,q];rfl
  rw[e];exact(Option.some.inj h).symm
theorem zrv{σ : St}(h : σ.length=2)(x y:V):(σ.set 0 (some x)).set 1 (some y)=[some x,some y]:=by
 match σ,h with
 | [_,_],_=>rfl
theorem zga{K:W.Frag}{b1 b2:Bool}{a b:Addr}{xs ys:List Int}{mp:List (Option Nat)}{ta:TA}{tc:TT}{te:TE}{σ : St}{H H1:Hp}{Q:VK}(p:Int->Int->Bool)(φ : Int->Int->V)(hmp:mp.length=2)(hta:∀R,R [.ref a,.ref b] H1->ta σ H R)
  (h1:SqX K b1 H1 a (xs.map V.int)) (h2:SqX K b2 H1 b (ys.map V.int)) (hz:xs.length<=1000)
  (htc:∀(i:Nat) H' (R:Bool->Hp->Prop),R (p (xs.getD i 0) (ys.getD i 0)) H'->tc [some (.int (xs.getD i 0)),some (.int (ys.getD i 0))] H' R)
  (hte:∀(i:Nat) H' (R:VK),p (xs.getD i 0) (ys.getD i 0)=true->R (φ (xs.getD i 0) (ys.getD i 0)) H'->te [some (.int (xs.getD i 0)),some (.int (ys.getD i 0))] H' R)
  (hQ:∀D H',Same H1 H'->H' D=some (.lst (zipV p φ xs ys))->Q (.ref D) H') :
  tComp mp (iZip K b1 b2 ta) (gTup K 2 (gCons (gName 0) (gCons (gName 1) gNil))) tc te σ H Q:=by
 unfold tComp
 refine hta _ ⟨a,b,rfl,⟨_,h1⟩,⟨_,h2⟩,λD hD => ?_⟩
 have W:=zpy h1 h2
 rw[List.length_map,List.length_map]at W
 refine zgs W hD (Nat.le_trans (Nat.min_le_left _ _) (Nat.le_trans hz (by rw[sizeLine_eq];decide))) (λσ=>σ.length=2) (λi=>p (xs.getD i 0) (ys.getD i 0)) (λi=>φ (xs.getD i 0) (ys.getD i 0)) (by unfold st0;rw[List.length_map];exact hmp) ?_ λH' e hL=>hQ D H' e hL
 rintro i v σ' H2 hi hs e ⟨q,u,w,rfl,hq,hu,hw⟩ Ny Nn hy hn
 rw[zef hu,zef hw]at hq
 refine⟨q,_,rfl,SqT.of hq,rfl,_,_,rfl,_,_,rfl,rfl,?_⟩
 rw[zrv hs]
 refine htc _ _ _ ?_
 cases hp:p (xs.getD i 0) (ys.getD i 0) with
 | true=>rw[if_pos rfl];exact hte _ _ _ hp (hy _ _ rfl (Same.refl _) hp)
 | false=>rw[if_neg (by decide)];exact hn _ _ rfl (Same.refl _) hp
end L2
namespace L2
open PySem PySem.Spec PyProof.Rows
theorem zke{X:Cx}{K:W.Frag}{x y:Str}{px py tp:Pos}{k:Nat}(hK:X.K=K)(hc:X.calm=true)(hN:X.N=[x,y])(nd:([x,y]:List Str).Nodup)(hx:X.env.scope.names.lookup x=some .local)(hy:X.env.scope.names.lookup y=some .local) :
  PG X (.Tuple [.Name x px,.Name y py] k tp) (gTup K 2 (gCons (gName 0) (gCons (gName 1) gNil))):=by
 subst hK
 have nd':X.N.Nodup:=by rw[hN];exact nd
 exact zg8 hc (zcp (zb2 (i:=0) nd' (by rw[hN];rfl) (.inl hx) (.inr hx)) (zcp (zb2 (i:=1) nd' (by rw[hN];rfl) (.inl hy) (.inr hy)) zfv))
theorem zeu{X:Cx}{x:Str}{px:Pos}{i:Nat}(nd:X.N.Nodup)(hN:X.N[i]? = some x)(hx:X.env.scope.names.lookup x=some .local):PG X (.Name x px) (gName i):=zb2 nd hN (.inl hx) (.inr hx)
end L2
namespace L2
open PySem PySem.Spec PyProof.Rows
theorem zlj{mp:List (Option Nat)}{ta:TA}{g:TG}{tc:TT}{te:TE}{σ : St}{H H1:Hp}{Q:VK}(n:Int)(Sv:St->Prop)(p:Nat->Bool)(f:Nat->V)(hn0:0<=n)(hn:n<=1000)(hta:∀R,R [.int n] H1->ta σ H R)(h0:Sv (st0 mp σ))
  (step:∀(i:Nat) σ' H2,(i:Int) < n->Sv σ'->Same H1 H2->∀(Ny:V->St->Hp->Prop) (Nn:St->Hp->Prop),(∀σ2 H5,Sv σ2->Same H2 H5->p i=true->Ny (f i) σ2 H5)->(∀σ2 H4,Sv σ2->Same H2 H4->p i=false->Nn σ2 H4) ->
   g (.int (0 + (i:Int))) σ' H2 λσ2 H3=>tc σ2 H3 λb H4=>if b=true then te σ2 H4 λv H5=>Ny v σ2 H5 else Nn σ2 H4)
  (hQ:∀D H',Same H1 H'->H' D=some (.lst (((List.range n.toNat).filter p).map f))->Q (.ref D) H'):tComp mp (iRng1 ta) g tc te σ H Q:=by
 unfold tComp
 refine hta _ ⟨n,rfl,by omega,by omega,λD hD => ?_⟩
 refine zgs (zex 0 n.toNat) hD (Nat.le_trans (show n.toNat<=1000 by omega) (by rw[sizeLine_eq];decide)) Sv p f h0 ?_ λH' e hL=>hQ D H' e hL
 rintro i v σ' H2 hi hs e rfl Ny Nn hy hn'
 exact step i σ' H2 (by omega) hs e Ny Nn hy hn'
end L2
namespace L2
open PySem PySem.Spec PyProof.Rows
end L2
namespace L2
open PySem PySem.Spec PyProof.Rows
theorem ObjOk.obj{P:Program}{w:World}{H:Hp}{h:Heap}{a:Addr}{o:HO}(x:ObjOk P w H h a o):∃ob,h.get? a=some ob:=by
 cases o with
 | lst xs=>obtain⟨_,_,_,_,e⟩:=x;exact⟨_,e⟩
 | tup xs=>obtain⟨_,_,_,ob,e,_⟩:=x;exact⟨_,e⟩
 | dK kvs=>obtain⟨_,_,_,_,o,_,_,e,_⟩:=x;exact⟨_,e⟩
 | dT kvs=>obtain⟨_,_,_,_,o,_,_,e,_⟩:=x;exact⟨_,e⟩
 | set S n=>obtain⟨o,_,_,_,e,_⟩:=x;exact⟨_,e⟩
 | ins C dx fs=>obtain⟨_,_,_,e,_⟩:=x;exact⟨_,e⟩
 | own y=>obtain⟨_,e⟩:=x;exact⟨_,e⟩
 | xd fs=>obtain⟨_,⟨_,_,_,e,_⟩,_⟩:=x;exact⟨_,e⟩
 | rng lo hi=>obtain⟨_,_,_,e⟩:=x;exact⟨_,e⟩
 | frz ob u=>obtain⟨e,_⟩:=x;exact⟨_,e⟩
 | tbl ps=>exact⟨_,show h.get? a=some _ from x⟩
 | met f y=>exact⟨_,show h.get? a=some _ from x⟩
 | ext φ=>obtain⟨_,⟨_,e⟩,_⟩:=x;exact⟨_,e⟩
structure Cov(B:Heap)(fs:List Addr)(H':Hp)(h:Heap):Prop where
 old:∀b o,h.get? b=some o->b ∉ fs->∃o',B.get? b=some o'
 trk:∀b u,H' b=some u->∃o',B.get? b=some o'
def CXe(P:Program)(w:World):CXT:=λouter H s E e s'=>∃(a:Addr) (cls a0:Value) (B:Heap) (H':Hp),e = .ref a/\s'.os=s.os/\AllBare s'.gens/\Un (frs outer) [] H H' s.heap s'.heap/\HOk P w H' s'.heap /\
 Heap.FlyingW B outer a cls a0 s'.heap/\Cov B (frs outer) H' s.heap/\E cls none H'
section
variable{P:Program}{w:World}{fs:List Addr}{H H':Hp}{h h1 h2 B:Heap}
theorem Heap.two{B h1 h2:Heap}(s1:B.StaysIn h1)(s2:B.StaysIn h2){b:Addr}{o o':Obj}(e:h1.get? b=some o)(q:B.get? b=some o'):h2.get? b=some o:=by
 have:=s1 b o' q
 rw[e]at this;cases this
 exact s2 b _ q
theorem zrm(u:Un fs [] H H' h h1)(cov:Cov B fs H' h)(s1:B.StaysIn h1)(s2:B.StaysIn h2)(sl:∀b o,b∈fs->h1.get? b=some o->∃sl,h2.get? b=some { o with slots:=sl }):Un fs [] H H' h h2:=by
 refine⟨λb o e n hb hx => ?_,λb o e n hb hx => ?_,u.free,λb o e hx => ?_,u.tups,u.frzs,u.tbls⟩
 ·obtain⟨o',q⟩:=cov.old b o e hb
  exact Heap.two s1 s2 (u.keep b o e n hb hx) q
 ·obtain⟨sl1,e1⟩:=u.slot b o e n hb hx
  obtain⟨sl2,e2⟩:=sl b _ hb e1
  exact⟨sl2,e2⟩
 ·by_cases hb:b∈fs
  ·obtain⟨o',e1⟩:=u.there b o e hx
   obtain⟨sl2,e2⟩:=sl b _ hb e1
   exact⟨_,e2⟩
  ·obtain⟨o',q⟩:=cov.old b o e hb
   exact⟨o',s2 b o' q⟩
theorem zq0(ok:HOk P w H' h1)(trk:∀b u,H' b=some u->∃o',B.get? b=some o')(s1:B.StaysIn h1)(s2:B.StaysIn h2):HOk P w H' h2:=λb u e=>by
 refine(ok b u e).stay (λc v hc q => ?_) (λ_ q=>q) λ_ _ q=>q
 have:∃o',B.get? c=some o':=by
  rcases hc with rfl | hc
  ·exact trk c u e
  ·exact trk c _ hc
 obtain⟨o',q'⟩:=this
 exact Heap.two s1 s2 q q'
theorem zuz{base:Heap}{l:List Env}(ff:h1.FunFrames base l)(up:h1.UpToSlots h2):∀b o,b∈frs l->h1.get? b=some o->∃sl,h2.get? b=some { o with slots:=sl }:=λb o hb e=>by
 obtain⟨_,o',e',d⟩:=ff.mem hb
 rw[e]at e';cases e'
 exact up b o e d
end
def RaisesTo(X:Cx)(E:St->XK):Prop:=∀(pins:List (Addr×Obj)) (σ : St) (H:Hp) (s:Shared) (h':Heap) (e:Addr) (cls:Value) (args:List Value),Inv X pins σ H s->Heap.MadeExcOf s.heap h' e cls args->E σ cls none H->X.xe (.ref e) { s with heap:=h' }
def PassesS(CX:CXT)(X:Cx)(E:St->XK):Prop:=∀(pins:List (Addr×Obj)) (σ : St) (H:Hp) (s:Shared) (e:Value) (s':Shared),Inv X pins σ H s->CX X.stack H s (E σ) e s'->X.xe e s'
section
variable{P:Program}{w:World}{K:W.Frag}{mg:Str->Option Value}{base:Heap}{N:List Str}{qual:Str}{scope:Scope}{f:Addr}{cd:Value}{A:Around}{outer:List Env}{s₀:Shared}{H₀:Hp}{E:XK}
theorem zbp:RaisesTo (cxOf (CXe P w) P w K mg base N qual scope f cd A outer s₀ H₀ E) (λ_=>E):=by
 intro pins σ H s h' e cls args I hx hE
 have ff:=W.funFrames_hide (as:=frs (cxOf (CXe P w) P w K mg base N qual scope f cd A outer s₀ H₀ E).stack) I.stack λenv he a ha=>List.mem_filterMap.mpr ⟨env,he,ha⟩
 have stB:(W.hideAll s.heap (frs (cxOf (CXe P w) P w K mg base N qual scope f cd A outer s₀ H₀ E).stack)).StaysIn s.heap:=λb o e=>W.of_hideAll _ e
 have inB:∀b o,s.heap.get? b=some o->b ∉ frs (cxOf (CXe P w) P w K mg base N qual scope f cd A outer s₀ H₀ E).stack->(W.hideAll s.heap (frs (cxOf (CXe P w) P w K mg base N qual scope f cd A outer s₀ H₀ E).stack)).get? b=some o:=
  λb o e hb=>W.hideAll_get _ e hb
 refine wpAny_leaves_madeW (outer:=outer) I.ok.frames rfl stB ff hx λh'' t fl tup nt up => ?_
 have cov:Cov (W.hideAll s.heap (frs (cxOf (CXe P w) P w K mg base N qual scope f cd A outer s₀ H₀ E).stack)) (frs outer) H s₀.heap:=by
  refine⟨λb o e hb => ?_,λb u e => ?_⟩
  ·obtain⟨o1,e1⟩:=I.base.there b o e (by intro z;exact absurd (show b∈([]:List Addr) from z) (by simp))
   refine⟨o1,inB b o1 e1 λz => ?_⟩
   rcases List.mem_cons.mp (I.stkSub b z) with q | q
   ·exact absurd q (Nat.ne_of_lt (Nat.lt_of_lt_of_le (Heap.lt_size e) I.ok.above))
   ·exact hb q
  ·obtain⟨ob,eo⟩:=(I.hok b u e).obj
   exact⟨ob,inB b ob eo λz=>by rw[I.stkFree b z]at e;cases e⟩
 refine⟨e,cls,.ref t,_,H,rfl,I.os,I.bare,zrm I.base cov stB fl.1 λb o hb eo => ?_,zq0 I.hok cov.trk stB fl.1,fl,cov,hE⟩
 obtain⟨_,o',e',d⟩:=I.funs.mem hb
 rw[eo]at e';cases e'
 exact up b o (hx.keeps b o eo) d
theorem zd1:PassesS (CXe P w) (cxOf (CXe P w) P w K mg base N qual scope f cd A outer s₀ H₀ E) (λ_=>E):=by
 intro pins σ H s e s' I hq
 obtain⟨a,cls,a0,B,H',rfl,os,bare,un,hok,fl,cov,hE⟩:=hq
 have I':=I.call' (ch:=[]) os un hok bare λb z=>absurd z (by simp)
 refine wpAny_leaves_onW (outer:=outer) I'.ok.frames rfl fl λh'' fl' up => ?_
 have cov0:Cov B (frs outer) H' s₀.heap:=by
  refine⟨λb o e hb => ?_,cov.trk⟩
  obtain⟨o1,e1⟩:=I.base.there b o e (by intro z;exact absurd (show b∈([]:List Addr) from z) (by simp))
  refine cov.old b o1 e1 λz => ?_
  rcases List.mem_cons.mp (I.stkSub b z) with q | q
  ·exact absurd q (Nat.ne_of_lt (Nat.lt_of_lt_of_le (Heap.lt_size e) I.ok.above))
  ·exact hb q
 exact⟨a,cls,a0,B,H',rfl,I'.os,I'.bare,zrm I'.base cov0 fl.1 fl'.1 (zuz I'.funs up),zq0 I'.hok cov.trk fl.1 fl'.1,fl',cov0,hE⟩
end
def tCallS(sp:Sp)(dvs:List V)(E:St->XK)(t:TA):TE:=λσ H Q=>t σ H λvs H1=>sp (vs ++ dvs) H1 Q (E σ)
def tMethS(C:Addr)(m:Str)(sp:Sp)(dvs:List V)(E:St->XK)(ta:TE)(t:TA):TE:=λσ H Q=>ta σ H λx H1=>∃a dx fs,x = .ref a/\H1 a=some (.ins C dx fs)/\fs.lookup m=none /\
 t σ H1 λvs H2=>sp (x :: (vs ++ dvs)) H2 Q (E σ)
def tMakeS(C:Addr)(sp:Sp)(dvs:List V)(E:St->XK)(t:TA):TE:=λσ H Q=>t σ H λvs H1=>∀x dx,H1 x=none->H1 dx=none->dx≠x ->
 sp (.ref x :: (vs ++ dvs)) (upd (upd H1 dx (.own x)) x (.ins C dx [])) (λv H2=>v = .non/\Q (.ref x) H2) (E σ)
section
variable{X:Cx}{CX:CXT}{k:Nat}{f C:Addr}{fd:FuncData}{ps:List Str}{sp:Sp}{dvs:List V}{ds:List Value}{E:St->XK}{x m:Str}{p pos apos:Pos}{e o:Expr}{es:List Expr}{ta:TE}{t:TA}
theorem zie{pins:List (Addr×Obj)}{σ : St}{H:Hp}{s:Shared}{Q:VK}{us:List Value}{vs:List V}(F:FnOk X.prog X.w X.K X.mg X.base CX k f fd ps sp)(hr:Room k X.A)(hb:Binds X.K fd ps ds)(hd:Vals dvs ds)(hx:PassesS CX X E)
  (I:Inv X pins σ H s) (r:Vals vs us) (h:sp (vs ++ dvs) H Q (E σ)):wpAny (model X.prog X.w) X.A (call (.ref f) us) (EP X pins σ Q) X.xe s:=by
 have r2:Vals (vs ++ dvs) (us ++ ds):=r.append hd
 have hl:(us ++ ds).length=ps.length:=by rw[<- r2.length];exact F.len _ _ _ _ h
 refine wpAny_call (codeAny_mono (F.run X.A X.stack s H ⟨us,[]⟩ (us ++ ds) (vs ++ dvs) Q (E σ) hr I.env0 (hb s us I.kIn hl) r2 h) λr s' hq => ?_)
 match r,hq with
 | .error e,hq=>exact hx pins σ H s e s' I hq
 | .ok (.ret u),hq=>exact I.after hq
 | .ok .next,hq=>exact False.elim hq
 | .ok .brk,hq=>exact False.elim hq
 | .ok .cont,hq=>exact False.elim hq
theorem zov(F:FnOk X.prog X.w X.K X.mg X.base CX k f fd ps sp)(hr:Room k X.A)(hg:Gl X x)(hm:X.mg x=some (.ref f))(hk:W.keepIn X.K (.ref f)=true)(hb:Binds X.K fd ps ds)(hd:Vals dvs ds)(hx:PassesS CX X E)
  (ha:PA X (e :: es) t) (hdb:(x == ("__debug__" : Str))=false:=by decide) (he:starEach (e :: es) X.env=(false,eval e X.env) :: starEach es X.env:=by rfl) (hpl:(backTo pos (starEach es X.env)).any (·.1)=false:=by rfl) :
  PE X (.Call (.Name x p) (e :: es) [] pos) (tCallS sp dvs E t):=by
 intro pins s σ H Q I h
 refine wpAny_Call_Name_kw (zfd I hg hm (W.callWith_K (h₀:=X.base) I.ok.mod.kin hk (thn (ha pos pins s σ H _ I h) λus s1 ⟨vs,H1,I1,r,q⟩=>⟨I1.kIn,?_⟩) he hpl) hdb)
 exact zie F hr hb hd hx I1 r q
theorem zpi{pl:Sem Bool}(he:PE X o ta)(c:Cls X.K C)(hm:Meth X.K C m f)(F:FnOk X.prog X.w X.K X.mg X.base CX k f fd ps sp)(hr:Room k X.A)(hb:Binds X.K fd ps ds)(hd:Vals dvs ds)(hx:PassesS CX X E)(ha:PA X (e :: es) t)
  (hst:starEach (e :: es) X.env=(false,eval e X.env) :: starEach es X.env:=by rfl) (hpl:(backTo pos (starEach es X.env)).any (·.1)=false:=by rfl)
  (ht:eval (.Call (.Attribute o m apos) (e :: es) [] pos) X.env=(do
   let ov <- eval o X.env
   standAt apos.atName
   let (f,first) <- holding [ov] (getMethod ov m pl)
   callWith pos f first (backTo pos (starEach (e :: es) X.env)) (backToKw pos (keywordEach [] X.env))):=by rfl) :
  PE X (.Call (.Attribute o m apos) (e :: es) [] pos) (tMethS C m sp dvs E ta t):=by
 intro pins s σ H Q I h
 refine W.methodCall_KW (pl:=pl) (thn (he pins s σ H _ I h) λu s1 ⟨x,H1,I1,rx,a,dx,fs,ex,ea,l,q⟩ => ?_) ht
 subst ex
 obtain rfl:u=Value.ref a:=rx
 refine zhf I1 ea c hm l (W.callWith_K (first:=[.ref a]) (h₀:=X.base) I.ok.mod.kin hm.kp (thn (ha pos pins s1 σ H1 _ I1 q) λus s2 ⟨vs,H2,I2,r,q2⟩=>⟨I2.kIn,?_⟩) hst hpl)
 exact zie (us := .ref a :: us) (vs := .ref a :: vs) F hr hb hd hx I2 (.cons rfl r) q2
end
def tRaise(C:Addr)(E:St->XK)(t:TA):TS:=λ_ σ H=>t σ H λvs H1=>vs.length<=sizeLine/\E σ (.ref C) none H1
theorem zo7{X:Cx}{C:Addr}{x:Str}{bm:List Value}{newId initId B:String}{e:Expr}{es:List Expr}{t:TA}{np cpos pos:Pos}{E:St->XK}(O:OwnCls x C bm newId X.mg X.base)(FB:ExcBaseFacts B newId initId bm)(hc:X.calm=true)(hg:Gl X x)
  (hx:RaisesTo X E) (ha:PA X (e :: es) t) (he:starEach (e :: es) X.env=(false,eval e X.env) :: starEach es X.env:=by rfl) (hpl:(backTo cpos (starEach es X.env)).any (·.1)=false:=by rfl) (hd:(x == ("__debug__" : Str))=false:=by decide) :
  PS X (.Raise (some (.Call (.Name x np) (e :: es) [] cpos)) none pos) (tRaise C E t):=by
 intro pins s σ H D I h
 obtain⟨tl,N,nm,q,bs,hdct,sn,sub,ab,col,dd,k0,k1,k2,k3,k5,mN,hC,hN,hni,T⟩:=O.obj
 refine wpAny_Raise_call_subT (C:=C) (nm:=nm) (q:=q) (N:=N) (bs:=bs) (bm:=tl) (hdct:=hdct) (sn:=sn) (sub:=sub) (ab:=ab) (col:=col) (dd:=dd) (k0:=k0) (k1:=k1) (k2:=k2) (k3:=k3) (k5:=k5)
  FB (mN:=mN) (T.hasType FB.hasBase) (I.ok.hd hc) (by rw[he];show (false || (backTo cpos (starEach es X.env)).any (·.1))=false;rw[hpl];rfl) hni (zfd I hg O.bound ⟨rfl,?_⟩ hd)
 have ha':=ha cpos pins s σ H _ I h
 rw[he]at ha' ⊢
 refine Calls.evalArgs_plain (thn ha' λus s2 ⟨vs,H2,I2,r,hl,hE⟩=>⟨rfl,by rw[<- r.length];exact hl,I2.bk _ _ hC,hN.keeps I2.bk,T.keeps I2.bk,λh' e hm=>hx pins σ H2 s2 h' e _ _ I2 hm hE⟩)
end L2
namespace L2
open PySem PySem.Spec PyProof.Rows
theorem zhg{K:W.Frag}{h:Heap}{mg:Str->Option Value}{x:Str}{C:Addr}{bm:List Value}{nid:String}(X:K.In h)(G:h.Ns mainGlobals mg)(e:W.nsIn K mainGlobals x=some (some (.ref C)))(q:W.excIn K C bm nid=true):OwnCls x C bm nid mg h:=by
 have G':=W.mg_of X G e
 unfold W.excIn at q;split at q
 case h_2=>cases q
 rename_i dd cd sl ho;split at q
 case h_2=>cases q
 rename_i C' tl k0 k1 k2 k3 n k5 hm hs;simp only[Bool.and_eq_true,beq_iff_eq,Bool.not_eq_true']at q
 obtain⟨⟨⟨⟨⟨q1,q2⟩,q3⟩,q4⟩,q5⟩,q6⟩:=q;subst q1;subst q2
 obtain⟨c1,c2,c3,c4,c5,c6,c7,c8,c9,c10,c11⟩:=cd;dsimp only at hm q3 q5 q6;subst hm;subst q3
 have z:sl = #[k0,k1,k2,k3,some (.builtin n),k5]:=by obtain⟨l⟩:=sl;simp only at hs;rw[hs]
 subst z
 exact⟨G',tl,c4,c1,c5,c2,c6,c7,c8,c9,c10,dd,k0,k1,k2,k3,k5,_,X _ _ ho,.of_isNs (W.isNs_of_in X q5),W.nsMap_none_of_in X q5 q6,W.tail_of_in X q4⟩
end L2
namespace L2
open PySem PySem.Spec PyProof.Rows
section
variable{X:Cx}{pins pl:List (Addr×Obj)}{σ : St}{H:Hp}{s:Shared}{E:Value->Shared->Prop}{a:Addr}
end
end L2
namespace L2
open PySem PySem.Spec PyProof.Rows
theorem zgz{bs:List Bool}:∀{us:List Value},Vals (bs.map V.bl) us->LSm.BoolsAre us bs:=by
 induction bs with
 | nil=>intro us r;rw[List.map_nil]at r;cases r;exact .nil
 | cons n ns ih=>
  intro us r
  rw[List.map_cons]at r
  cases r with
  | cons r1 r2=>cases (show _=Value.bool n from r1);exact .cons n (ih r2)
section
variable{X:Cx}
theorem zm8(b:Bool)(hc:X.calm=true):CallR X (.builtin "sum") (λxs H Q=>∃(a:Addr) (ns:List Int),xs=[.ref a]/\SqX X.K b H a (ns.map V.int)/\Q (.int ns.sum) H):=by
 intro pins s σ H xs us Q I r h
 obtain⟨a,ns,rfl,hs,q⟩:=h
 obtain⟨u,rfl,ru⟩:=r.one
 cases ru
 obtain⟨its,rv,p⟩:=I.sq hs
 have hi:=zd6 rv
 obtain⟨ys,hy⟩:=hi.allInts.items
 have e2:preSum (numAt ys) ys.size=ns.sum:=by
  have e1:ns=ys.toList.map (·.1):=by
   rw[<- nums_intItems,<- hy];exact(show numsOf its.toArray.toList=ns from hi.numsOf).symm
  rw[preSum_eq,List.take_of_length_le (by simp),e1]
 rw[hy]at p
 cases b with
 | true=>exact W.ktm_sumG (I.ok.hd hc) p λh' tk t' hk=>⟨.int ns.sum,H,I.kept hk,⟨t',by rw[e2]⟩,q⟩
 | false=>exact sum_intListG (I.ok.hd hc) p λh' tk t' hk=>⟨.int ns.sum,H,I.kept hk,⟨t',by rw[e2]⟩,q⟩
theorem zm5(hc:X.calm=true):CallR X (.builtin "all") (λxs H Q=>∃(a:Addr) (bs:List Bool),xs=[.ref a]/\SqL X.K H a (bs.map V.bl)/\Q (.bl (bs.all id)) H):=by
 intro pins s σ H xs us Q I r h
 obtain⟨a,bs,rfl,hs,q⟩:=h
 obtain⟨u,rfl,ru⟩:=r.one
 cases ru
 obtain⟨its,rv,p,_⟩:=I.list hs
 have hb:=zgz rv
 have hl:=p.isList
 have lt:a < s.heap.objs.size:=by obtain⟨_,e,_⟩:=hl;exact Heap.lt_size e
 refine call_all_walk (wpAny_pyIter_list hl ⟨s.heap.objs.size,_,_,_,_,_,λi=>(bs[i]?).getD true,rfl,Walks.list (A:=X.A.in1) (I.ok.hd hc) _ a (Nat.ne_of_lt lt) its.toArray,⟨⟨_,Heap.get?_push_size _ rfl,rfl,rfl⟩,hl.push _⟩,λi v s' Q' E' hP hQ => ?_,λh' tk hk => ?_⟩)
 ·obtain⟨b,e,rfl⟩:=hb.get i v (by simpa using hP)
  simp only[e,Option.getD_some]at hQ;exact wpAny_truthy_bool hQ
 ·refine⟨.bl (bs.all id),H,I.kept (LSm.kept_iter hk),?_,q⟩
  show Value.bool _=Value.bool _
  rw[List.size_toArray,hb.length,LSm.range_all bs]
theorem zn3(hc:X.calm=true):CallR X (.builtin "any") (λxs H Q=>∃(a:Addr) (bs:List Bool),xs=[.ref a]/\SqL X.K H a (bs.map V.bl)/\Q (.bl (bs.any id)) H):=by
 intro pins s σ H xs us Q I r h
 obtain⟨a,bs,rfl,hs,q⟩:=h
 obtain⟨u,rfl,ru⟩:=r.one
 cases ru
 obtain⟨its,rv,p,_⟩:=I.list hs
 have hb:=zgz rv
 have hl:=p.isList
 have lt:a < s.heap.objs.size:=by obtain⟨_,e,_⟩:=hl;exact Heap.lt_size e
 refine call_any_walk (wpAny_pyIter_list hl ⟨s.heap.objs.size,_,_,_,_,_,λi=>(bs[i]?).getD false,rfl,Walks.list (A:=X.A.in1) (I.ok.hd hc) _ a (Nat.ne_of_lt lt) its.toArray,⟨⟨_,Heap.get?_push_size _ rfl,rfl,rfl⟩,hl.push _⟩,λi v s' Q' E' hP hQ => ?_,λh' tk hk => ?_⟩)
 ·obtain⟨b,e,rfl⟩:=hb.get i v (by simpa using hP)
  simp only[e,Option.getD_some]at hQ;exact wpAny_truthy_bool hQ
 ·refine⟨.bl (bs.any id),H,I.kept (LSm.kept_iter hk),?_,q⟩
  show Value.bool _=Value.bool _
  rw[List.size_toArray,hb.length,LSm.range_any bs]
def clV:V->Option Value
 | .ty n=>some (.type n)
 | .ref a=>some (.ref a)
 | _=>none
theorem zj0:CallR X (.builtin "isinstance") (λxs H Q=>∃x y t c b,xs=[x,y]/\clV y=some c/\TyOf X.K H x t/\W.kitOne X.K t c=some b/\Q (.bl b) H):=by
 intro pins s σ H xs us Q I r h
 obtain⟨x,y,t,c,b,rfl,hy,ty,e,q⟩:=h
 obtain⟨u,v,rfl,ru,rv⟩:=r.two
 have ev:v=c:=by
  cases y with
  | ty n=>cases hy;exact rv
  | ref a=>cases hy;exact rv
  | _=>cases hy
 subst ev
 exact zmn I ru ty e λtk=>⟨.bl b,H,I.tok _,rfl,q⟩
end
end L2
namespace L2
open PySem PySem.Spec PyProof.Rows
section
variable{P:Program}{w:World}{K:W.Frag}{mg:Str->Option Value}{base:Heap}
end
def CMulB(i j:Int):Prop:=i.natAbs < 2 ^ 4000/\j.natAbs < 2 ^ 4000
theorem zrq{X:Cx}:OpR X (binaryOp .Mult) (rI CMulB λi j => .int (i * j)):=opI λ_ _ _ _ _ _ _ hc q=>mul_int q (PySem.IntMulOk.of_bits (Nat.le_trans (intBits_le hc.1) (by decide)) (Nat.le_trans (intBits_le hc.2) (by decide)))
end L2
namespace L2
open PySem PySem.Spec PyProof.Rows
theorem PS.nox{X:Cx}{st:Stmt}{t:TS}(h:PS X.nox st t):PS X st t:=λpins s σ H D I hw=>wpAny_mono (h pins s σ H D (I.wish _) hw) (λ_ _ q=>SP.unwish q) λ_ _ z=>z.elim
structure CMeth(K:W.Frag)(C:Addr)(m:Str)(f:Addr):Prop where
 ex:∃mc,W.readsIn K C mc=true/\W.findCls K (.ref C) mc m=some (.val (.ref f))
 sp:W.specialIn K (.ref C) "__getattribute__" = some (some (.builtin "type.__getattribute__"))
 kp:W.keepIn K (.ref f)=true
section
variable{X:Cx}{CX:CXT}{k:Nat}{f C:Addr}{fd:FuncData}{ps:List Str}{sp:Sp}{dvs:List V}{ds:List Value}{E:St->XK}{x m:Str}{p pos apos:Pos}{e o:Expr}{es:List Expr}{ta:TE}{t:TA}
theorem zo6{pl:Sem Bool}(CM:CMeth X.K C m f)(hg:Gl X x)(hm:X.mg x=some (.ref C))(F:FnOk X.prog X.w X.K X.mg X.base CX k f fd ps sp)(hr:Room k X.A)(hb:Binds X.K fd ps ds)(hd:Vals dvs ds)(hx:PassesS CX X E)(ha:PA X (e :: es) t)
  (hdb:(x == ("__debug__" : Str))=false:=by decide) (hst:starEach (e :: es) X.env=(false,eval e X.env) :: starEach es X.env:=by rfl) (hpl:(backTo pos (starEach es X.env)).any (·.1)=false:=by rfl)
  (ht:eval (.Call (.Attribute (.Name x p) m apos) (e :: es) [] pos) X.env=(do
   let ov <- eval (.Name x p) X.env
   standAt apos.atName
   let (f,first) <- holding [ov] (getMethod ov m pl)
   callWith pos f first (backTo pos (starEach (e :: es) X.env)) (backToKw pos (keywordEach [] X.env))):=by rfl) :
  PE X (.Call (.Attribute (.Name x p) m apos) (e :: es) [] pos) (tCallS sp dvs E t):=by
 intro pins s σ H Q I h
 obtain⟨mc,q1,q2⟩:=CM.ex
 refine W.methodCall_KW (pl:=pl) (zfd I hg hm (W.method_cls I.kIn CM.sp (W.cls_value I.kIn q1 q2 rfl ?_)) hdb) ht
 have I1:=I.tok (s.toks + 1)
 refine W.callWith_K (first:=[]) (h₀:=X.base) I.ok.mod.kin CM.kp (thn (ha pos pins _ σ H _ I1 h) λus s2 ⟨vs,H2,I2,r,q⟩=>⟨I2.kIn,?_⟩) hst hpl
 exact zie F hr hb hd hx I2 r q
theorem zjj{pins:List (Addr×Obj)}{σ : St}{H:Hp}{s:Shared}{Q:VK}{us:List Value}{vs:List V}(M:Mk X.K C f)(F:FnOk X.prog X.w X.K X.mg X.base CX k f fd ps sp)(hr:Room (k + 1) X.A)(hb:Binds X.K fd ps ds)(hd:Vals dvs ds)
  (hx:PassesS CX X E) (I:Inv X pins σ H s) (r:Vals vs us)
  (h:∀x dx,H x=none->H dx=none->dx≠x->sp (.ref x :: (vs ++ dvs)) (upd (upd H dx (.own x)) x (.ins C dx [])) (λv H2=>v = .non/\Q (.ref x) H2) (E σ)) :
  wpAny (model X.prog X.w) X.A (call (.ref C) us) (EP X pins σ Q) X.xe s:=by
 have hq:=h (s.heap.objs.size + 1) s.heap.objs.size (I.hok.fresh (Nat.le_succ _)) (I.hok.fresh (Nat.le_refl _)) (Nat.ne_of_lt (Nat.lt_succ_self _))
 have I2:=Inv.made (C:=C) I
 have r2:Vals (V.ref (s.heap.objs.size + 1) :: (vs ++ dvs)) (Value.ref (s.heap.objs.size + 1) :: (us ++ ds)) := .cons rfl (r.append hd)
 have hl:(Value.ref (s.heap.objs.size + 1) :: us ++ ds).length=ps.length:=by
  have e:=r2.length
  rw[F.len _ _ _ _ hq]at e
  exact e.symm
 refine wpAny_call (zpl (f:=f) I.kIn M.makes M.init (beq_iff_eq.mp M.fn) (codeAny_mono (F.run _ X.stack _ _ ⟨Value.ref (s.heap.objs.size + 1) :: us,[]⟩ (Value.ref (s.heap.objs.size + 1) :: (us ++ ds)) _ _ (E σ) (hr.make C us [])
  (I2.env0.make C us []) (hb _ (Value.ref (s.heap.objs.size + 1) :: us) I2.kIn hl) r2 hq) λr s' hq' => ?_))
 match r,hq' with
 | .error e,hq'=>exact hx pins σ _ _ e s' I2 hq'
 | .ok (.ret u),hq'=>
  obtain⟨v,H',I3,rv,ev,q3⟩:=I2.after hq'
  subst ev
  exact⟨rv,⟨V.ref (s.heap.objs.size + 1),H',I3,rfl,q3⟩⟩
 | .ok .next,hq'=>exact False.elim hq'
 | .ok .brk,hq'=>exact False.elim hq'
 | .ok .cont,hq'=>exact False.elim hq'
theorem zqm(M:Mk X.K C f)(F:FnOk X.prog X.w X.K X.mg X.base CX k f fd ps sp)(hr:Room (k + 1) X.A)(hg:Gl X x)(hm:X.mg x=some (.ref C))(hb:Binds X.K fd ps ds)(hd:Vals dvs ds)(hx:PassesS CX X E)
  (ha:PA X (e :: es) t) (hdb:(x == ("__debug__" : Str))=false:=by decide) (he:starEach (e :: es) X.env=(false,eval e X.env) :: starEach es X.env:=by rfl) (hpl:(backTo pos (starEach es X.env)).any (·.1)=false:=by rfl) :
  PE X (.Call (.Name x p) (e :: es) [] pos) (tMakeS C sp dvs E t):=by
 intro pins s σ H Q I h
 refine wpAny_Call_Name_kw (zfd I hg hm (W.callWith_K (h₀:=X.base) I.ok.mod.kin M.kp (thn (ha pos pins s σ H _ I h) λus s1 ⟨vs,H1,I1,r,q⟩=>⟨I1.kIn,?_⟩) he hpl) hdb)
 exact zjj M F hr hb hd hx I1 r q
end
end L2
set_option Elab.async false
set_option linter.all false
set_option maxRecDepth 100000
namespace L2
open PySem PySem.Spec PyProof.Rows
structure FunD(K:W.Frag)(x qual:Str)(st:Stmt)(dV:Value)(f:Addr)(fd:FuncData):Prop where
 ex:∃(oc:Value) (od:Option Addr) (kV doc pm:Value) (an:Option Addr) (cdv ct:Value) (osl:Array (Option Value)),
  fd=W.fnOf x qual (defArgs st) (defBody st) (defScope st) dV kV doc pm an cdv ct/\K.lookup f=some ⟨oc,od,.func fd,osl⟩/\W.codeIn K cdv qual=true
section
variable{P:Program}{w:World}{K:W.Frag}{mg:Str->Option Value}{base:Heap}{x qual:Str}{st:Stmt}{dV:Value}{f:Addr}{fd:FuncData}{N ps:List Str}{k:Nat}{sp:Sp}
theorem FunD.okN(F:FunD K x qual st dV f fd)(S:FnScope N ps (defScope st))(len:∀vs H Q E,sp vs H Q E->vs.length=ps.length)
  (hbody:∀(cdv:Value) (A:Around) (outer:List Env) (s:Shared) (H:Hp) (vs:List V) (Q:VK) (E:XK),Room k (A.deeper (envOfC qual (defScope st) s.heap.objs.size f cdv))->sp vs H Q E ->
   ∃t,PSs (cxOf CX0 P w K mg base N qual (defScope st) f cdv A outer s H E).nox (defBody st) t/\t { nx:=λ_ H'=>Q .non H',rt:=Q } (start N vs) H):FnOk P w K mg base CX0 (k + 1) f fd ps sp:=by
 obtain⟨oc,od,kV,doc,pm,an,cdv,ct,osl,rfl,lk,hcd⟩:=F.ex
 refine zuw lk hcd S len λA outer s H vs Q E hr hsp => ?_
 obtain⟨t,h,q⟩:=hbody cdv A outer s H vs Q E hr hsp
 exact⟨t,h.nox,q⟩
theorem FunD.okX(F:FunD K x qual st dV f fd)(S:FnScope N ps (defScope st))(len:∀vs H Q E,sp vs H Q E->vs.length=ps.length)
  (hbody:∀(cdv:Value) (A:Around) (outer:List Env) (s:Shared) (H:Hp) (vs:List V) (Q:VK) (E:XK),Room k (A.deeper (envOfC qual (defScope st) s.heap.objs.size f cdv))->sp vs H Q E ->
   ∃t,PSs (cxOf (CXe P w) P w K mg base N qual (defScope st) f cdv A outer s H E) (defBody st) t/\t { nx:=λ_ H'=>Q .non H',rt:=Q } (start N vs) H):FnOk P w K mg base (CXe P w) (k + 1) f fd ps sp:=by
 obtain⟨oc,od,kV,doc,pm,an,cdv,ct,osl,rfl,lk,hcd⟩:=F.ex
 exact zuw lk hcd S len λA outer s H vs Q E hr hsp=>hbody cdv A outer s H vs Q E hr hsp
theorem FunD.binds(F:FunD K x qual st .none f fd)
  (h:∀(kV doc pm:Value) (an:Option Addr) (cdv ct:Value) (us:List Value),us.length=ps.length->bindArgs (W.fnOf x qual (defArgs st) (defBody st) (defScope st) .none kV doc pm an cdv ct) ⟨us,[]⟩=pure (ps.zip us)):Binds K fd ps []:=by
 obtain⟨oc,od,kV,doc,pm,an,cdv,ct,osl,rfl,lk,hcd⟩:=F.ex
 exact .all (h kV doc pm an cdv ct)
theorem FunD.bindsD{T:Addr}{o:Obj}{items:Array Value}{n:Nat}{ds:List Value}(F:FunD K x qual st (.ref T) f fd)(hT:K.lookup T=some o)(hs:o.data = .seq items n)
  (h:∀(kV doc pm:Value) (an:Option Addr) (cdv ct:Value) (us:List Value),(us ++ ds).length=ps.length->∃k:Option (Array Value)->Sem (List (Str×Value)),bindArgs (W.fnOf x qual (defArgs st) (defBody st) (defScope st) (.ref T) kV doc pm an cdv ct) ⟨us,[]⟩=seqItems? (.ref T) >>= k/\k (some items)=pure (ps.zip (us ++ ds))):Binds K fd ps ds:=by
 obtain⟨oc,od,kV,doc,pm,an,cdv,ct,osl,rfl,lk,hcd⟩:=F.ex
 intro s us KX hl
 obtain⟨k,h1,h2⟩:=h kV doc pm an cdv ct us hl
 exact BindsTo.of_defaults (T:=T) rfl (KX _ _ hT) hs h1 h2
theorem zar{oc:Value}{od an:Option Addr}{osl:Array (Option Value)}{kV doc pm cdv ct:Value}(l:K.lookup f=some ⟨oc,od,.func (W.fnOf x qual (defArgs st) (defBody st) (defScope st) dV kV doc pm an cdv ct),osl⟩)
  (c:W.codeIn K cdv qual=true):FunD K x qual st dV f (W.fnOf x qual (defArgs st) (defBody st) (defScope st) dV kV doc pm an cdv ct):=⟨⟨oc,od,kV,doc,pm,an,cdv,ct,osl,rfl,l,c⟩⟩
end
structure Cal(P:Program)(w:World)(K:W.Frag)(mg:Str->Option Value)(base:Heap)(CX:CXT)(k:Nat)(x:Str)(ps:List Str)(ds:List Value)(sp:Sp):Prop where
 ex:∃f fd,FnOk P w K mg base CX k f fd ps sp/\Binds K fd ps ds/\W.keepIn K (.ref f)=true/\mg x=some (.ref f)
structure MCal(P:Program)(w:World)(K:W.Frag)(mg:Str->Option Value)(base:Heap)(CX:CXT)(k:Nat)(C:Addr)(m:Str)(ps:List Str)(ds:List Value)(sp:Sp):Prop where
 ex:∃f fd,FnOk P w K mg base CX k f fd ps sp/\Binds K fd ps ds/\Meth K C m f
 cl:Cls K C
structure Mak(P:Program)(w:World)(K:W.Frag)(mg:Str->Option Value)(base:Heap)(CX:CXT)(k:Nat)(x:Str)(C:Addr)(ps:List Str)(ds:List Value)(sp:Sp):Prop where
 ex:∃f fd,FnOk P w K mg base CX k f fd ps sp/\Binds K fd ps ds/\Mk K C f
 at_:mg x=some (.ref C)
structure CCal(P:Program)(w:World)(K:W.Frag)(mg:Str->Option Value)(base:Heap)(CX:CXT)(k:Nat)(x:Str)(m:Str)(ps:List Str)(ds:List Value)(sp:Sp):Prop where
 ex:∃C f fd,FnOk P w K mg base CX k f fd ps sp/\Binds K fd ps ds/\CMeth K C m f/\mg x=some (.ref C)
structure Exc(K:W.Frag)(mg:Str->Option Value)(base:Heap)(x:Str)(C:Addr):Prop where
 ex:∃bm nid init B,OwnCls x C bm nid mg base/\ExcBaseFacts B nid init bm
 at_:mg x=some (.ref C)
 me:W.exmOne K (.ref C) (.ref C)=some true
theorem pass00{X:Cx}:PassesS CX0 X (λ_=>E0):=λ_ _ _ _ _ _ _ h=>h.elim
theorem passF{X:Cx}{P:Program}{w:World}:PassesS (CXe P w) X (λ_=>E0):=by
 rintro _ _ _ _ _ _ _ ⟨_,_,_,_,_,_,_,_,_,_,_,_,h⟩
 exact h.elim
section
variable{X:Cx}{CX:CXT}{k j:Nat}{C:Addr}{ps:List Str}{sp:Sp}{dvs:List V}{ds:List Value}{E:St->XK}{x m:Str}{p pos apos:Pos}{e o:Expr}{es:List Expr}{ta:TE}{t:TA}
theorem pe_c(c:Cal X.prog X.w X.K X.mg X.base CX k x ps ds sp)(hr:Room j X.A)(hx:PassesS CX X E)(hd:Vals dvs ds)(ha:PA X (e :: es) t)(hk:k<=j:=by decide)(hg:Gl X x:=by rfl)
  (hdb:(x == ("__debug__" : Str))=false:=by decide) (he:starEach (e :: es) X.env=(false,eval e X.env) :: starEach es X.env:=by rfl) (hpl:(backTo pos (starEach es X.env)).any (·.1)=false:=by rfl) :
  PE X (.Call (.Name x p) (e :: es) [] pos) (tCallS sp dvs E t):=by
 obtain⟨f,fd,F,hb,hk',hm⟩:=c.ex
 exact zov F (hr.mono hk) hg hm hk' hb hd hx ha hdb he hpl
theorem pe_m{pl:Sem Bool}(c:MCal X.prog X.w X.K X.mg X.base CX k C m ps ds sp)(he:PE X o ta)(hr:Room j X.A)(hx:PassesS CX X E)(hd:Vals dvs ds)(ha:PA X (e :: es) t)(hk:k<=j:=by decide)
  (hst:starEach (e :: es) X.env=(false,eval e X.env) :: starEach es X.env:=by rfl) (hpl:(backTo pos (starEach es X.env)).any (·.1)=false:=by rfl)
  (ht:eval (.Call (.Attribute o m apos) (e :: es) [] pos) X.env=(do
   let ov <- eval o X.env
   standAt apos.atName
   let (f,first) <- holding [ov] (getMethod ov m pl)
   callWith pos f first (backTo pos (starEach (e :: es) X.env)) (backToKw pos (keywordEach [] X.env))):=by rfl) :
  PE X (.Call (.Attribute o m apos) (e :: es) [] pos) (tMethS C m sp dvs E ta t):=by
 obtain⟨f,fd,F,hb,hm⟩:=c.ex
 exact zpi he c.cl hm F (hr.mono hk) hb hd hx ha hst hpl ht
theorem zqp{pl:Sem Bool}(c:MCal X.prog X.w X.K X.mg X.base CX k C m ps ds sp)(he:PE X o ta)(hr:Room j X.A)(hx:PassesS CX X E)(hd:Vals dvs ds)(hk:k<=j:=by decide)
  (ht:eval (.Call (.Attribute o m apos) [] [] pos) X.env=(do
   let ov <- eval o X.env
   standAt apos.atName
   let (f,first) <- holding [ov] (getMethod ov m pl)
   callWith pos f first (backTo pos (starEach [] X.env)) (backToKw pos (keywordEach [] X.env))):=by rfl) :
  PE X (.Call (.Attribute o m apos) [] [] pos) (tMethS C m sp dvs E ta tNil):=by
 obtain⟨f,fd,F,hb,hm⟩:=c.ex
 intro pins s σ H Q I h
 refine W.methodCall_KW (pl:=pl) (thn (he pins s σ H _ I h) λu s1 ⟨x,H1,I1,rx,a,dx,fs,ex,ea,l,q⟩ => ?_) ht
 subst ex
 obtain rfl:u=Value.ref a:=rx
 refine zhf I1 ea c.cl hm l ?_
 exact W.callWith_K0 (first:=[.ref a]) I1.kIn hm.kp (zie (us:=[.ref a]) (vs:=[.ref a]) F (hr.mono hk) hb hd hx I1 (.cons rfl .nil) q)
theorem zmf(c:Mak X.prog X.w X.K X.mg X.base CX k x C ps ds sp)(hr:Room j X.A)(hx:PassesS CX X E)(hd:Vals dvs ds)(ha:PA X (e :: es) t)(hk:k + 1<=j:=by decide)(hg:Gl X x:=by rfl)
  (hdb:(x == ("__debug__" : Str))=false:=by decide) (he:starEach (e :: es) X.env=(false,eval e X.env) :: starEach es X.env:=by rfl) (hpl:(backTo pos (starEach es X.env)).any (·.1)=false:=by rfl) :
  PE X (.Call (.Name x p) (e :: es) [] pos) (tMakeS C sp dvs E t):=by
 obtain⟨f,fd,F,hb,hm⟩:=c.ex
 exact zqm hm F (hr.mono hk) hg c.at_ hb hd hx ha hdb he hpl
theorem zuh(c:Mak X.prog X.w X.K X.mg X.base CX k x C ps ds sp)(hr:Room j X.A)(hx:PassesS CX X E)(hd:Vals dvs ds)(hk:k + 1<=j:=by decide)(hg:Gl X x:=by rfl)(hdb:(x == ("__debug__" : Str))=false:=by decide) :
  PE X (.Call (.Name x p) [] [] pos) (tMakeS C sp dvs E tNil):=by
 obtain⟨f,fd,F,hb,hm⟩:=c.ex
 intro pins s σ H Q I h
 refine wpAny_Call_Name_kw (zfd I hg c.at_ ?_ hdb)
 exact W.callWith_K0 I.kIn hm.kp (zjj (us:=[]) hm F (hr.mono hk) hb hd hx I .nil h)
theorem zu6{pl:Sem Bool}(c:CCal X.prog X.w X.K X.mg X.base CX k x m ps ds sp)(hr:Room j X.A)(hx:PassesS CX X E)(hd:Vals dvs ds)(ha:PA X (e :: es) t)(hk:k<=j:=by decide)(hg:Gl X x:=by rfl)
  (hdb:(x == ("__debug__" : Str))=false:=by decide) (hst:starEach (e :: es) X.env=(false,eval e X.env) :: starEach es X.env:=by rfl) (hpl:(backTo pos (starEach es X.env)).any (·.1)=false:=by rfl)
  (ht:eval (.Call (.Attribute (.Name x p) m apos) (e :: es) [] pos) X.env=(do
   let ov <- eval (.Name x p) X.env
   standAt apos.atName
   let (f,first) <- holding [ov] (getMethod ov m pl)
   callWith pos f first (backTo pos (starEach (e :: es) X.env)) (backToKw pos (keywordEach [] X.env))):=by rfl) :
  PE X (.Call (.Attribute (.Name x p) m apos) (e :: es) [] pos) (tCallS sp dvs E t):=by
 obtain⟨C,f,fd,F,hb,hm,hmg⟩:=c.ex
 exact zo6 hm hg hmg F (hr.mono hk) hb hd hx ha hdb hst hpl ht
theorem zi4{np cpos:Pos}(x':Exc X.K X.mg X.base x C)(hc:X.calm=true)(hg:Gl X x)(hx:RaisesTo X E)(ha:PA X (e :: es) t)(he:starEach (e :: es) X.env=(false,eval e X.env) :: starEach es X.env:=by rfl)(hpl:(backTo cpos (starEach es X.env)).any (·.1)=false:=by rfl)(hd:(x == ("__debug__" : Str))=false:=by decide) :
  PS X (.Raise (some (.Call (.Name x np) (e :: es) [] cpos)) none pos) (tRaise C E t):=by
 obtain⟨bm,nid,init,B,O,FB⟩:=x'.ex
 exact zo7 O FB hc hg hx ha he hpl hd
end
theorem zo2{X:Cx}{x:Str}{i:Int}{pos:Pos}(hm:∃tk,X.mg x=some (.int i tk))(hg:Gl X x)(hd:(x == ("__debug__" : Str))=false:=by decide):PE X (.Name x pos) (tC (.int i)):=by
 obtain⟨tk,e⟩:=hm
 exact zl5 hg e ⟨tk,rfl⟩ hd
def CDivB(_ j:Int):Prop:=j≠0/\j.natAbs < 2 ^ 8999
theorem zce{X:Cx}:OpR X (binaryOp .FloorDiv) (rI CDivB λi j => .int (i.fdiv j)):=opI λ_ j _ _ _ _ _ hc q=>floordiv_int hc.1 q (.inl (PyProof.noPylong_of_log2 (by
 have h0:j.natAbs≠0:=λz=>hc.1 (Int.natAbs_eq_zero.mp z)
 exact Nat.lt_of_lt_of_le ((Nat.log2_lt h0).mpr hc.2) (by decide))))
theorem cEq{a b:Int}{A B:Prop}(h1:a=b->A)(h2:a≠b->B):if decide (V.int a=V.int b)=true then A else B:=by
 by_cases h:a=b
 ·rw[decide_eq_true (congrArg V.int h)];exact iteT (h1 h)
 ·rw[decide_eq_false λz=>h (by injection z)];exact iteF (h2 h)
theorem cNe{a b:Int}{A B:Prop}(h1:a≠b->A)(h2:a=b->B):if (!decide (V.int a=V.int b))=true then A else B:=by
 by_cases h:a=b
 ·rw[decide_eq_true (congrArg V.int h)];exact iteF (h2 h)
 ·rw[decide_eq_false λz=>h (by injection z)];exact iteT (h1 h)
theorem cD{c:Prop}[Decidable c]{A B:Prop}(h1:c->A)(h2:¬c->B):if decide c=true then A else B:=by
 by_cases h:c
 ·rw[decide_eq_true h];exact iteT (h1 h)
 ·rw[decide_eq_false h];exact iteF (h2 h)
theorem cN{c:Prop}[Decidable c]{A B:Prop}(h1:¬c->A)(h2:c->B):if (!decide c)=true then A else B:=by
 by_cases h:c
 ·rw[decide_eq_true h];exact iteF (h2 h)
 ·rw[decide_eq_false h];exact iteT (h1 h)
theorem cB{b:Bool}{A B:Prop}(h1:b=true->A)(h2:b=false->B):if b=true then A else B:=by
 cases b with
 | true=>exact iteT (h1 rfl)
 | false=>exact iteF (h2 rfl)
theorem cNB{b:Bool}{A B:Prop}(h1:b=false->A)(h2:b=true->B):if (!b)=true then A else B:=by
 cases b with
 | true=>exact iteF (h2 rfl)
 | false=>exact iteT (h1 rfl)
theorem dI{a b:Int}:decide (V.int a=V.int b)=decide (a=b):=by
 by_cases h:a=b
 ·rw[decide_eq_true (congrArg V.int h),decide_eq_true h]
 ·rw[decide_eq_false λz=>h (by injection z),decide_eq_false h]
end L2
namespace L2
open PySem PySem.Spec PyProof.Rows
mutual
inductive Rds(K:W.Frag)(H:Hp):V->PyData->Prop
 | non:Rds K H .non .none
 | bl (b:Bool):Rds K H (.bl b) (.bool b)
 | int (i:Int):Rds K H (.int i) (.int i)
 | str (x:Str):Rds K H (.str x) (.str x)
 | tup {a:Addr} {xs:List V} {ds:List PyData}:SqT K H a xs->RdsAll K H xs ds->Rds K H (.ref a) (.tuple ds)
 | lst {a:Addr} {xs:List V} {ds:List PyData}:SqL K H a xs->RdsAll K H xs ds->Rds K H (.ref a) (.list ds)
inductive RdsAll(K:W.Frag)(H:Hp):List V->List PyData->Prop
 | nil:RdsAll K H [] []
 | cons {x:V} {xs:List V} {d:PyData} {ds:List PyData}:Rds K H x d->RdsAll K H xs ds->RdsAll K H (x :: xs) (d :: ds)
end
theorem zgg{K:W.Frag}{H:Hp}:∀ns:List Int,RdsAll K H (ns.map V.int) (ns.map PyData.int)
 | [] => .nil
 | n :: ns => .cons (.int n) (zgg ns)
section
variable{X:Cx}{pins:List (Addr×Obj)}{σ : St}{H:Hp}{s:Shared}
mutual
theorem Inv.rds(I:Inv X pins σ H s):∀{v:V} {d:PyData} {u:Value},Rds X.K H v d->RelV v u->∃as,Reads s.heap u d as
 | _,_,_,.non,r=>by cases (show _=Value.none from r);exact⟨_,.none⟩
 | _,_,_,.bl b,r=>by cases (show _=Value.bool b from r);exact⟨_,.bool b⟩
 | _,_,_,.int i,r=>by obtain⟨t,rfl⟩:=r;exact⟨_,.int i t⟩
 | _,_,_,.str x,r=>by obtain⟨t,rfl⟩:=r;exact⟨_,.str x t⟩
 | _,_,_,.tup (a:=a) h hs,r=>by
  cases (show _=Value.ref a from r)
  obtain⟨its,rv,⟨o,ho,hc,n,hd⟩,_⟩:=I.tuple h
  obtain⟨as,q⟩:=Inv.rdsAll I hs rv
  exact⟨as,.tuple ho hc hd (by simpa using q)⟩
 | _,_,_,.lst (a:=a) h hs,r=>by
  cases (show _=Value.ref a from r)
  obtain⟨its,rv,p,_⟩:=I.list h
  obtain⟨o,ho,hc,n,hd⟩:=p.isList
  obtain⟨as,q⟩:=Inv.rdsAll I hs rv
  exact⟨_,.list ho hc hd (by simpa using q)⟩
theorem Inv.rdsAll(I:Inv X pins σ H s):∀{vs:List V} {ds:List PyData} {us:List Value},RdsAll X.K H vs ds->Vals vs us->∃as,ReadsAll s.heap us ds as
 | _,_,_,.nil,.nil=>⟨_,.nil⟩
 | _,_,_,.cons h hs,.cons r rs=>by
  obtain⟨as,q⟩:=Inv.rds I h r
  obtain⟨bs,p⟩:=Inv.rdsAll I hs rs
  exact⟨_,.cons q p⟩
end
end
section
variable{X:Cx}
theorem zkt(hu:X.A.units + 64 < cLine):OpR X (compareOp .Eq) (λx y H Q=>∃d e,Rds X.K H x d/\Rds X.K H y e/\SeqAt.shaped d=true/\SeqAt.shaped e=true/\Q (.bl (PyData.eqv d e)) H):=by
 intro pins s σ H x y u v Q I rx ry h
 obtain⟨d,e,hd,he,s1,s2,q⟩:=h
 obtain⟨as,ra⟩:=I.rds hd rx
 obtain⟨bs,rb⟩:=I.rds he ry
 exact eq_dataH ra rb s1 s2 hu ⟨.bl (PyData.eqv d e),H,I,rfl,q⟩
theorem zkq(hu:X.A.units + 64 < cLine):OpR X (compareOp .NotEq) (λx y H Q=>∃d e,Rds X.K H x d/\Rds X.K H y e/\SeqAt.shaped d=true/\SeqAt.shaped e=true/\Q (.bl (!PyData.eqv d e)) H):=by
 intro pins s σ H x y u v Q I rx ry h
 obtain⟨d,e,hd,he,s1,s2,q⟩:=h
 obtain⟨as,ra⟩:=I.rds hd rx
 obtain⟨bs,rb⟩:=I.rds he ry
 exact ne_dataH ra rb s1 s2 hu ⟨.bl (!PyData.eqv d e),H,I,rfl,q⟩
end
theorem zk2:∀ns ms:List Int,PyData.eqvAll (ns.map PyData.int) (ms.map PyData.int)=decide (ns=ms)
 | [],[]=>by simp[PyData.eqvAll]
 | [],_ :: _=>by simp[PyData.eqvAll]
 | _ :: _,[]=>by simp[PyData.eqvAll]
 | a :: r,b :: t=>by
  simp only[List.map_cons,PyData.eqvAll,PyData.eqv,zk2 r t]
  by_cases h:a=b <;> by_cases h':r=t <;> simp[h,h']
section
variable{X:Cx}
end
end L2
namespace HT
open PySem PyProof.Rows
section
open PySem.SeqAt
open PySem.AutoSeq1 (wpAny_loadPart')
open PySem.MeetsSeq PySem.MeetsSeq2 PySem.MeetsSeq3
theorem zox(A:Around)(s:Shared)(a:Int)(t:Tok)(c:Int)(u:Tok)(prog:Program)(w:World)(E:Value->Shared->Prop)(Q:Value->Shared->Prop)(h:Q (.bool (decide (c < a))) s) :
  wpAny (model prog w) A (richCompare .Gt (.int a t) (.int c u)) Q E s:=
 (PyProof.Rows.gt_int h:wpAny (model prog w) A (compareOp .Gt (.int a t) (.int c u)) Q E s)
theorem zhs(l b:Addr)(items items2:Array Value)(n n2:Nat)(dd dd2:Option Addr)(sl sl2:Array (Option Value))(ns ms:List Int)(hi:IntsAre items.toList ns)(hj:IntsAre items2.toList ms) :
  Meets (Builtin.«tuple.__gt__» ⟨[.ref l,.ref b],[]⟩)
   (λ_ R s=>s.heap.get? l=some { cls := .type "tuple",dict:=dd,data := .seq items n,slots:=sl }/\s.heap.get? b=some { cls := .type "tuple",dict:=dd2,data := .seq items2 n2,slots:=sl2 } /\
    R (.ok (.ret (.bool (lexLt ms ns)))) s):=
 .of_wp λprog w A R s h=>by
  obtain⟨hp,g,d,tk,os⟩:=s;obtain⟨hl,hb,h⟩:=h
  have f2:=AutoSeq1.sub_tuple_tuple
  have z1:items.size=ns.length:=by rw[<- hi.length];simp
  have z2:items2.size=ms.length:=by rw[<- hj.length];simp
  wp_walk using wpAny_loadPart' hl,wpAny_loadPart' hb,wpAny_forIn_list _ (λrest b s'=>b.1=none/\s'=⟨hp,g,d,tk,os⟩/\∃(vs ws:List Value) (ns' ms':List Int),rest=vs.zip ws /\
   IntsAre vs ns'/\IntsAre ws ms'/\ns'.length + items2.size=ms'.length + items.size/\R (.ok (.ret (.bool (lexLt ms' ns')))) ⟨hp,g,d,tk,os⟩) _
  case turn=>
   rintro⟨y,x⟩ rest b s' ⟨hb',rfl,vs,ws,ns',ms',hz,hvi,hwi,hlen,hR⟩
   cases hvi with
   | nil=>rw[List.zip_nil_left]at hz;cases hz
   | cons a t hvi'=>
    cases hwi with
    | nil=>rw[List.zip_nil_right]at hz;cases hz
    | cons c u hwi'=>
     rw[List.zip_cons_cons]at hz
     injection hz with hyx hrest
     injection hyx with hy hx
     subst hy hx
     rw[lexLt_cons]at hR
     simp only[List.length_cons]at hlen
     obtain⟨e,he,hiff⟩:=zkw A.in1 ⟨hp,g,d,tk,os⟩ a t c u
     refine wpAny_bind (he prog w _ _ ?_)
     cases e with
     | true=>
      rw[if_pos (hiff.mp rfl).symm]at hR
      wp_walk
      exact⟨rfl,rfl,_,_,_,_,hrest,hvi',hwi',by omega,hR⟩
     | false=>
      rw[if_neg (λq=>absurd (hiff.mpr q.symm) Bool.false_ne_true)]at hR
      have hri:=zox A.in1 ⟨hp,g,d,tk,os⟩ a t c u prog w
      wp_walk using hri
      exact⟨_,rfl,by simpa using hR⟩
  case fin=>
   rintro⟨b1,b2⟩ s' ⟨hb',rfl,vs,ws,ns',ms',hz,hvi,hwi,hlen,hR⟩
   simp only at hb'
   subst hb'
   have hv:lexLt ms' ns'=decide (items2.size < items.size):=by
    cases hvi with
    | nil=>
     cases hwi with
     | nil=>
      simp only[List.length_nil]at hlen
      rw[zfi]
      exact(decide_eq_false (by omega)).symm
     | cons c u hw=>
      simp only[List.length_nil,List.length_cons]at hlen
      rw[ze7]
      exact(decide_eq_false (by omega)).symm
    | cons a t hv=>
     cases hwi with
     | nil=>
      simp only[List.length_nil,List.length_cons]at hlen
      rw[ze8]
      exact(decide_eq_true (by omega)).symm
     | cons c u hw=>
      rw[List.zip_cons_cons]at hz
      cases hz
   rw[hv]at hR
   wp_walk
   exact⟨_,rfl,by simpa[Builtin.Tuple.tupleCompareSizes]using hR⟩
  case h=>
   exact⟨rfl,rfl,items.toList,items2.toList,ns,ms,rfl,hi,hj,by omega,h⟩
end
theorem gt_tupInts{prog:Program}{w:World}{A:Around}{E:Value->Shared->Prop}{s:Shared}{l b:Addr}{items items2:Array Value}{ns ms:List Int}{Q:Value->Shared->Prop}(hl:IsTup s.heap l items)(hb:IsTup s.heap b items2)(hi:IntsAre items.toList ns)(hj:IntsAre items2.toList ms)
  (hu:A.units < cLine) (h:Q (.bool (lexLt ms ns)) s):wpAny (model prog w) A (compareOp .Gt (.ref l) (.ref b)) Q E s:=by
 obtain⟨⟨cls,dd,data,sl⟩,ho,hc,n,hd⟩:=id hl
 obtain⟨⟨cls2,dd2,data2,sl2⟩,ho2,hc2,n2,hd2⟩:=id hb
 simp only at hc hd hc2 hd2
 subst hc hd hc2 hd2
 exact richCompare_meets_room (op := .Gt) ⟨_,ho,rfl⟩ ⟨_,ho2,rfl⟩ PySem.F.slot_tuple_gt PySem.F.entry_tuple_gt (PySem.F.args_tuple_gt_2 _ _) (zhs l b items items2 n n2 dd dd2 sl sl2 ns ms hi hj)
  ⟨ho,ho2,show Value.bool (lexLt ms ns)≠Value.notImplemented/\Q (.bool (lexLt ms ns)) s from⟨(λx=>nomatch x),h⟩⟩ hu
end HT
namespace L2
open PySem PySem.Spec PyProof.Rows
variable{X:Cx}
end L2
namespace PySem
namespace F
theorem zix:Manifest.owners.lookup (String.ofList ['d','e','s','r','e','v','e','r'].reverse)=some Manifest.sig_reversed:=by kernel_rfl
theorem slot_rvd_next:Slot "reversed" "__next__" "reversed.__next__":=
 .of (owner:="reversed") (n:="__next__") (by rw[typeLookup_type,builtinLookup_eq_fast];kernel_rfl) (by decide +kernel) (by decide +kernel) (by decide +kernel)
  (by first | exact .inl (by decide +kernel) | exact .inr (by decide +kernel)) (by rw[isSubtype_type];kernel_rfl)
theorem entry_rvd_next:entryFor table "reversed.__next__" = some Builtin.«reversed.__next__»:=entryFor_of_tree (by kernel_rfl)
theorem args_rvd_next_1(a:Value):argsOk "reversed.__next__" ⟨[a],[]⟩:=by
 unfold argsOk;rw[signature?_of (id:="reversed.__next__") (n:=['_','_','t','x','e','n','_','_']) (o:=['d','e','s','r','e','v','e','r']) (by kernel_rfl) zix];kernel_rfl
theorem slot_rvd_iter:Slot "reversed" "__iter__" "reversed.__iter__":=
 .of (owner:="reversed") (n:="__iter__") (by rw[typeLookup_type,builtinLookup_eq_fast];kernel_rfl) (by decide +kernel) (by decide +kernel) (by decide +kernel)
  (by first | exact .inl (by decide +kernel) | exact .inr (by decide +kernel)) (by rw[isSubtype_type];kernel_rfl)
theorem args_rvd_iter_1(a:Value):argsOk "reversed.__iter__" ⟨[a],[]⟩:=by
 unfold argsOk;rw[signature?_of (id:="reversed.__iter__") (n:=['_','_','r','e','t','i','_','_']) (o:=['d','e','s','r','e','v','e','r']) (by kernel_rfl) zix];kernel_rfl
theorem entry_rvd_iter:entryFor table "reversed.__iter__" = some Builtin.«dict_keyiterator.__iter__»:=
 entryFor_alias (id':="dict_keyiterator.__iter__") (by kernel_rfl) (by first | rfl | decide +kernel | (unfold String.splitOn;simp +decide [String.splitOnAux])) (by decide +kernel) (by kernel_rfl)
theorem lookup_tuple_reversed:typeLookup (.type "tuple") "__reversed__" = pure none:=by rw[typeLookup_type,builtinLookup_eq_fast];kernel_rfl
theorem zh3:Slot "reversed" "__init__" "object.__init__":=
 .of (owner:="object") (n:="__init__") (by rw[typeLookup_type,builtinLookup_eq_fast];kernel_rfl) (by decide +kernel) (by decide +kernel) (by decide +kernel)
  (by first | exact .inl (by decide +kernel) | exact .inr (by decide +kernel)) (by rw[isSubtype_type];kernel_rfl)
theorem called_reversed:TypeCalled "reversed" "reversed.__new__" "object.__init__":=
 ⟨by decide +kernel,by decide +kernel,⟨_,_,mro_reversed⟩,made_reversed,by decide +kernel,by rw[isSubtype_type];kernel_rfl,zh3⟩
end F
end PySem
namespace L2
open PySem PySem.Spec PyProof.Rows PySem.MeetsSeq
theorem zow(t:Addr)(items:Array Value):Meets (Builtin.«reversed.__new__» ⟨[.type "reversed",.ref t],[]⟩) (λ_ R s=>IsTup s.heap t items/\(items.size:Int) < 2 ^ 63 /\
   R (.ok (.ret (.ref s.heap.objs.size))) { s with heap:=s.heap.push { cls := .type "reversed",data := .fields #[.ref t,rawInt ((items.size:Int) - 1)] },toks:=s.toks + 1 + 1 }):=
 .of_wp λprog w A R s h=>by
  obtain⟨ht,hz,h⟩:=h
  unfold Builtin.«reversed.__new__»
  refine wpAny_bind (wpAny_of_eq (newClass_reversed _) ?_)
  try dsimp only
  refine wpAny_bind (wpAny_of_eq (a:=()) (by first | rfl | kernel_rfl) ?_)
  refine wpAny_bind (wpAny_of_eq (a:=()) (by first | rfl | kernel_rfl) ?_)
  try dsimp only
  refine wpAny_bind (wpAny_specialOf ht.typeIs F.lookup_tuple_reversed ?_)
  try dsimp only
  refine wpAny_bind ?_
  show wpAny _ _ (isInstance (.ref t) (.type "dict") >>= _) _ _ _
  refine wpAny_bind (wpAny_isInstance ht.typeIs F.sub_tuple_dict ?_)
  rw[if_neg Bool.false_ne_true]
  refine wpAny_bind (wpAny_specialOf ht.typeIs slot_tuple_getitem.lookup ?_)
  dsimp only
  rw[if_pos (by decide)]
  refine wpAny_pure ?_
  simp only[Bool.not_true,Bool.false_eq_true,if_false]
  refine wpAny_bind (len_tuple ht hz ?_)
  refine wpAny_bind (wpAny_of_eq (a:=some (items.size:Int)) rfl ?_)
  dsimp only
  refine wpAny_bind ?_
  unfold Builtin.SmallTypes.newRecord
  dsimp only
  refine wpAny_newObj_type ?_
  exact wpAny_pure ⟨_,rfl,h⟩
section
variable{prog:Program}{w:World}{A:Around}{E:Value->Shared->Prop}{s:Shared}
def IsRvd(h:Heap)(a t:Addr)(i:Int):Prop:=∃o,h.get? a=some o/\o.cls = .type "reversed"/\o.data = .fields #[.ref t,rawInt i]
theorem IsRvd.typeIs{a t:Addr}{i:Int}(x:IsRvd s.heap a t i):s.TypeIs (.ref a) "reversed":=let ⟨o,ho,hc,_⟩:=x;⟨o,ho,hc⟩
theorem zfz{t:Addr}{items:Array Value}{Q:Value->Shared->Prop}(ht:IsTup s.heap t items)(hz:(items.size:Int) < 2 ^ 63)
  (h:Q (.ref s.heap.objs.size) { s with heap:=s.heap.push { cls := .type "reversed",data := .fields #[.ref t,rawInt ((items.size:Int) - 1)] },toks:=s.toks + 1 + 1 }):wpAny (model prog w) A (call (.type "reversed") [.ref t]) Q E s:=by
 refine callType_new F.called_reversed (by decide) (F.typeCall_reversed_1 _) (F.newCall_reversed_1 _) (λobj=>F.args_object_init_2 obj _) F.entry_reversed_new (zow t items) ⟨ht,hz,?_⟩
 exact⟨⟨_,Heap.get?_push_size _ rfl,rfl⟩,h⟩
theorem zgm{it t:Addr}{i:Nat}{items:Array Value}{x:Value}{Q:Option Value->Shared->Prop}(hit:IsRvd s.heap it t (i:Int))(ht:IsTup s.heap t items)(hz:(items.size:Int) < 2 ^ 63)(hx:items[i]? = some x)
  (hQ:∀h',IsRvd h' it t ((i:Int) - 1)->Heap.SameBut it s.heap h'->Q (some x) { s with heap:=h',toks:=s.toks + 1 }):wpAny (model prog w) A (pyNext (.ref it)) Q E s:=by
 obtain⟨o,ho,hc,hd⟩:=id hit
 have hi:i < items.size:=by
  rcases Nat.lt_or_ge i items.size with q | q
  ·exact q
  ·rw[Array.getElem?_eq_none q]at hx;cases hx
 have hs:seqIndex? (i:Int) items.size=some i:=by
  unfold seqIndex?
  have n0:¬(i:Int) < 0:=by omega
  simp only[n0,if_false]
  rw[if_pos (by simp;omega)]
  simp
 unfold pyNext
 refine wpAny_bind (wpAny_attempt (wpAny_callSpecial?_slot (name:=Str.ofString "__next__") hit.typeIs F.slot_rvd_next
  (wpAny_call_entry F.slot_rvd_next hit.typeIs F.entry_rvd_next ?_ (F.args_rvd_next_1 _))))
 unfold Builtin.«reversed.__next__»
 refine wpAny_bind (wpAny_of_eq (a:=(Value.ref it,[])) rfl ?_)
 try dsimp only
 refine wpAny_bind (wpAny_field ho hd (x := .ref t) rfl ?_)
 refine wpAny_bind (wpAny_field ho hd (x:=rawInt (i:Int)) rfl ?_)
 show wpAny _ _ (if (i:Int) < 0 then _ else _) _ _ s
 rw[if_neg (by omega)]
 refine wpAny_bind (wpAny_specialOf ht.typeIs slot_tuple_getitem.lookup ?_)
 rw[if_neg (by simp)]
 refine wpAny_bind (wpAny_mkInt ?_)
 refine wpAny_bind (wpAny_attempt (getItem_tuple (j:=i) ht (by omega) (by omega) hs (by simpa using hx) ?_))
 dsimp only
 refine wpAny_bind (wpAny_field ho hd (x:=rawInt (i:Int)) rfl ?_)
 show wpAny _ _ (setField (.ref it) 1 (rawInt ((i:Int) - 1)) >>= _) _ _ _
 refine wpAny_bind (wpAny_setField ho hd (by simp) ?_)
 refine wpAny_pure ⟨x,rfl,wpAny_pure (hQ _ ?_ (Heap.SameBut.update ..))⟩
 exact⟨_,Heap.get?_update_self _ ho (Obj.isFreed_of_fields (Obj.data_mapFields hd _)),(Obj.cls_mapFields ..).trans hc,by
  rw[Obj.data_mapFields hd];simp⟩
theorem zg5{it t:Addr}{Q:Option Value->Shared->Prop}(hh:A.handled=none)(hit:IsRvd s.heap it t (-1))
  (hQ:∀h',Heap.ExtBut it s.heap h'->Q none { s with heap:=h' }):wpAny (model prog w) A (pyNext (.ref it)) Q E s:=by
 obtain⟨o,ho,hc,hd⟩:=id hit
 unfold pyNext
 refine wpAny_bind (wpAny_attempt (wpAny_callSpecial?_slot (name:=Str.ofString "__next__") hit.typeIs F.slot_rvd_next
  (wpAny_call_entry F.slot_rvd_next hit.typeIs F.entry_rvd_next ?_ (F.args_rvd_next_1 _))))
 unfold Builtin.«reversed.__next__»
 refine wpAny_bind (wpAny_of_eq (a:=(Value.ref it,[])) rfl ?_)
 try dsimp only
 refine wpAny_bind (wpAny_field ho hd (x := .ref t) rfl ?_)
 refine wpAny_bind (wpAny_field ho hd (x:=rawInt (-1)) rfl ?_)
 show wpAny _ _ (if (-1:Int) < 0 then _ else _) _ _ s
 rw[if_pos (by decide)]
 refine wpAny_bind (wpAny_rule ?_)
 refine wpAny_bind ?_
 show wpAny _ _ (setField (.ref it) 1 (rawInt (-1)) >>= _) _ _ _
 refine wpAny_bind (wpAny_setField ho hd (by simp) ?_)
 have ho2:=Heap.get?_update_self (Obj.mapFields λx=>x.setIfInBounds 1 (rawInt (-1))) ho (Obj.isFreed_of_fields (Obj.data_mapFields hd _))
 refine wpAny_setField ho2 (Obj.data_mapFields hd _) (by simp) ?_
 refine wpAny_bind ?_
 show wpAny _ _ (newExc (.type "StopIteration") [] >>= _) _ _ _
 refine wpAny_bind ?_
 simp only[newExc,newTuple]
 refine wpAny_bind (wpAny_newObj_type ?_ (by size_fits))
 refine wpAny_bind (m:=firstArgMember _ _) (wpAny_of_eq (a:=Value.none) (by first | rfl | (simp only[firstArgMember];rfl)) ?_)
 refine wpAny_newObj_type ?_ (by size_fits)
 simp only[raiseNew]
 refine wpAny_bind (wpAny_handled ?_)
 first | rw[show A.in1.handled=none from hh] | rw[hh]
 refine wpAny_bind (wpAny_pure (wpAny_throw ?_))
 refine wpAny_bind (wpAny_isInstance (T:="StopIteration") (b:=true) ⟨_,Heap.get?_push_size _ rfl,rfl⟩ isSubtype_stop ?_)
 exact wpAny_pure (hQ _ λb o hb e=>Heap.get?_push_of_some _ (Heap.get?_push_of_some _ ((Heap.SameBut.update ..).extBut b o hb ((Heap.SameBut.update ..).extBut b o hb e))))
theorem zhk{it t:Addr}{i:Int}{Q:Value->Shared->Prop}(hit:IsRvd s.heap it t i)(h:Q (.ref it) s):wpAny (model prog w) A (pyIter (.ref it)) Q E s:=by
 refine wpAny_pyIter_slot hit.typeIs F.slot_rvd_iter (wpAny_call_entry F.slot_rvd_iter hit.typeIs F.entry_rvd_iter ?_ (F.args_rvd_iter_1 _))
 show wpAny _ _ (ret (.ref it)) _ _ s
 exact wpAny_pure ⟨_,rfl,"reversed",_,hit.typeIs,F.slot_rvd_next.lookup,h⟩
end
def Itv(K:W.Frag)(a:Addr)(n:Nat):It:=
 ⟨λi H=>i < n/\∃xs,SqT K H a xs/\xs.length=n,λi H x H'=>H'=H/\∀xs,SqT K H a xs->xs[n - 1 - i]? = some x,λi H=>i=n⟩
theorem zpt{P:Program}{w:World}{K:W.Frag}{tg:Expr}(a it:Addr)(n:Nat):Turn P w K tg (Itv K a n) [it] it (λi h=>IsRvd h it a ((n:Int) - 1 - (i:Int))) where
 mem:=by simp
 obj:=λi h st b hb=>by
  simp only[List.mem_cons,List.not_mem_nil,or_false]at hb
  subst hb
  obtain⟨o,ho,hc,hd⟩:=st
  exact⟨o,ho,λv q=>by rw[hd]at q;cases q⟩
 keep:=λi h h' st k=>by obtain⟨o,ho,r⟩:=st;exact⟨o,k it (by simp) o ho,r⟩
 item:=by
  intro X hP hw hK hc i pins s σ H E I hf st hg
  subst hP hw hK
  obtain⟨hi,xs,hx,hn⟩:=hg
  obtain⟨its,rv,p,hz⟩:=I.tuple hx
  have hl:=rv.length
  have hlt:=line63
  have e1:(n:Int) - 1 - (i:Int)=((n - 1 - i:Nat):Int):=by omega
  rw[e1]at st
  obtain⟨x,ex⟩:∃x,xs[n - 1 - i]? = some x:=⟨xs[n - 1 - i],by simp⟩
  obtain⟨u,eu,ru⟩:=rv.get ex
  refine zgm st p (by rw[List.size_toArray];omega) (x:=u) (by simpa using eu) λh' st' sb=>⟨u,rfl,?_⟩
  obtain⟨o,ho,hcl,hd⟩:=id st'
  refine zn9 (s:={ s with heap:=h',toks:=s.toks + 1 }) ho hcl hd (by decide) ?_
  obtain⟨f0,f1,f2,f3,f4,f5⟩:=hf it (by simp)
  have e2:((n - 1 - i:Nat):Int) - 1=(n:Int) - 1 - ((i + 1:Nat):Int):=by omega
  rw[e2]at st'
  exact⟨x,H,I.turned (t':=s.toks + 1) (λb o hb e=>sb.extBut b o hb e) f0 f1 f3 f4 f5,ru,⟨rfl,λys hy=>by rw[I.tuple_inj hy hx];exact ex⟩,st',λb hb=>(hf b hb).1⟩
 done:=by
  intro X hP hw hK hc i pins s σ H E I hf st hg
  subst hP hw hK
  obtain rfl:i=n:=hg
  have e1:(i:Int) - 1 - (i:Int) = -1:=by omega
  rw[e1]at st
  obtain⟨f0,f1,f2,f3,f4,f5⟩:=hf it (by simp)
  exact zg5 (I.ok.hd hc) st λh' eb=>⟨rfl,I.turned (t':=s.toks) (λb o hb e=>eb b o hb e) f0 f1 f3 f4 f5⟩
 self:=λ_ _ _ _ _ st h=>zhk st h
def iRvd(K:W.Frag)(ta:TA):TI:=λσ H R=>ta σ H λvs H1=>∃a xs,vs=[.ref a]/\SqT K H1 a xs/\R (Itv K a xs.length) H1
theorem zhr:bootBuiltins "reversed" = some (.type "reversed"):=by kernel_rfl
theorem zu5{X:Cx}{tg:Expr}{p pos:Pos}{e1:Expr}{ta:TA}(hg:Gl X "reversed")(hm:X.mg "reversed" = none)(ha:PA X [e1] ta)
  (he:starEach [e1] X.env=(false,eval e1 X.env) :: starEach [] X.env:=by rfl) (hpl:(backTo pos (starEach [] X.env)).any (·.1)=false:=by rfl) :
  PI X tg (.Call (.Name "reversed" p) [e1] [] pos) (iRvd X.K ta):=by
 intro pins s σ H R I h
 refine wpAny_Call_Name_kw (zfp I hg hm zhr ?_ (by decide) (by decide))
 refine PyProof.Rows.callWith_type1 (thn (ha pos pins s σ H _ I h) λus s1 ⟨vs,H1,I1,r1,a,xs,ev,hx,q⟩ => ?_) he hpl
 subst ev
 obtain⟨u,rfl,ru⟩:=r1.one
 cases ru
 obtain⟨its,rv,pt,hz⟩:=I1.tuple hx
 have hl:=rv.length
 have hlt:=line63
 refine zfz pt (by rw[List.size_toArray];omega) ?_
 have hit:IsRvd (s1.heap.push { cls := .type "reversed",data := .fields #[.ref a,rawInt ((its.toArray.size:Int) - 1)] }) s1.heap.objs.size a ((xs.length:Int) - 1 - ((0:Nat):Int)):=by
  refine⟨_,Heap.get?_push_size _ rfl,rfl,?_⟩
  have e:((its.toArray.size:Nat):Int) - 1=(xs.length:Int) - 1 - ((0:Nat):Int):=by rw[List.size_toArray,hl];omega
  rw[e]
 refine zhk hit ?_
 have I2:Inv X pins σ H1 { s1 with heap:=s1.heap.push { cls := .type "reversed",data := .fields #[.ref a,rawInt ((its.toArray.size:Int) - 1)] },toks:=s1.toks + 1 + 1 }:=I1.kept (t':=s1.toks + 1 + 1) λb o e=>Heap.get?_push_of_some _ e
 refine⟨s1.heap.objs.size,[s1.heap.objs.size],_,_,H1,rfl,I2,zpt a s1.heap.objs.size xs.length,hit,λb hb => ?_,q⟩
 obtain rfl:b=s1.heap.objs.size:=by simpa using hb
 exact I1.fpOk (Nat.le_refl _) (I1.hok.fresh (Nat.le_refl _))
theorem zpo{K:W.Frag}{H1:Hp}{a:Addr}{xs:List V}(h:SqT K H1 a xs):Walk (Itv K a xs.length) H1 xs.length (λi x _=>xs[xs.length - 1 - i]? = some x):=
 ⟨λi H' e hi=>⟨hi,xs,e.seqT h,rfl⟩,λH' e=>rfl,λi H' x H2 e hi y=>by
  obtain⟨rfl,q⟩:=y
  exact⟨Same.refl _,q xs (e.seqT h)⟩⟩
theorem zea{J:It}{n:Nat}{P:Nat->V->Hp->Prop}{mp:List (Option Nat)}{wi:TI}{g:TG}{tc:TT}{te:TE}{σ : St}{H H1:Hp}{Q:VK}(S:Walk J H1 n P)(hn:n<=1000)(hwi:∀R,R J H1->wi σ H R)(Sv:St->Prop)(p:Nat->Bool)(f:Nat->V)(h0:Sv (st0 mp σ))
  (step:∀i x σ' H2,i < n->Sv σ'->Same H1 H2->P i x H2->∀(Ny:V->St->Hp->Prop) (Nn:St->Hp->Prop),(∀σ2 H5,Sv σ2->Same H2 H5->p i=true->Ny (f i) σ2 H5)->(∀σ2 H4,Sv σ2->Same H2 H4->p i=false->Nn σ2 H4) ->
   g x σ' H2 λσ2 H3=>tc σ2 H3 λb H4=>if b=true then te σ2 H4 λv H5=>Ny v σ2 H5 else Nn σ2 H4)
  (hQ:∀D H',Same H1 H'->H' D=some (.lst (((List.range n).filter p).map f))->Q (.ref D) H'):tComp mp wi g tc te σ H Q:=by
 unfold tComp
 refine hwi _ λD hD => ?_
 exact zgs S hD (Nat.le_trans hn (by rw[sizeLine_eq];decide)) Sv p f h0 step λH' e hL=>hQ D H' e hL
end L2
namespace L2
open PySem PySem.Spec PyProof.Rows
theorem zpu{own x:Str}{n c:Addr}{cl:List (Str×Addr)}(h:((own,n) :: cl).lookup x=some c):(x=own/\c=n)\/(x≠own/\cl.lookup x=some c):=by
 rw[List.lookup_cons]at h
 cases q:(x == own) with
 | true=>rw[q]at h;exact .inl ⟨eq_of_beq q,(Option.some.inj h).symm⟩
 | false=>
  rw[q]at h
  have nz:x≠own:=λz=>by
   rw[z,beq_self_eq_true]at q
   cases q
  exact .inr ⟨nz,h⟩
theorem zs6{own:Str}{n:Addr}{cl:List (Str×Addr)}:((own,n) :: cl).lookup own=some n:=by
 rw[List.lookup_cons,beq_self_eq_true]
theorem zs7{own x:Str}{n:Addr}{cl:List (Str×Addr)}(h:x≠own):((own,n) :: cl).lookup x=cl.lookup x:=by
 rw[List.lookup_cons]
 cases q:(x == own) with
 | true=>exact absurd (eq_of_beq q) h
 | false=>rfl
section
variable{X:Cx}{pins:List (Addr×Obj)}{σ : St}{H:Hp}{s:Shared}{N:List Str}{scope:Scope}{cl:List (Str×Addr)}{own:Str}{mp:List (Option Nat)}{fp:List Addr}
end
end L2
namespace L2
open PySem PySem.Spec PyProof.Rows
def SubC(cl cells:List (Str×Addr)):Prop:=∀x c,cl.lookup x=some c->cells.lookup x=some c
theorem zez{cells:List (Str×Addr)}:SubC [] cells:=λ_ _ h=>nomatch h
theorem zc7{cl cells:List (Str×Addr)}{a:Str}{n:Addr}(h:cells.lookup a=some n)(t:SubC cl cells):SubC ((a,n) :: cl) cells:=λx c e=>by
 rcases zpu e with⟨rfl,rfl⟩ | ⟨_,e⟩
 ·exact h
 ·exact t x c e
theorem zma:∀{cl:List (Str×Addr)} {x:Str},x∈cl.map (·.1)->∃c,cl.lookup x=some c
 | (a,n) :: cl,x,h=>by
  by_cases q:x=a
  ·exact⟨n,by rw[q];exact zs6⟩
  ·rcases List.mem_cons.mp h with z | z
   ·exact absurd z q
   ·obtain⟨c,e⟩:=zma z
    exact⟨c,(zs7 q).trans e⟩
theorem zlg{names:List (Str×NameKind)}{cl:List (Str×Addr)}{fs:List Str}(e:cl.map (·.1)=fs)(h:∀y∈names,y.2 = .free->y.1∈fs):∀y∈names,y.2 = .free->∃c,cl.lookup y.1=some c:=
 λy hy hf=>zma (by rw[e];exact h y hy hf)
def MapC(X:Cx)(scope:Scope)(mp:List (Option Nat))(N:List Str):Prop:=∀(i j:Nat) (x:Str),mp[i]? = some (some j)->N[i]? = some x->X.N[j]? = some x/\(X.env.scope.names.lookup x=some .cell\/X.env.scope.names.lookup x=some .free)/\scope.names.lookup x=some .free
theorem zew{X:Cx}{scope:Scope}{N:List Str}:MapC X scope [] N:=λi j x h=>by simp at h
theorem zdy{X:Cx}{scope:Scope}{mp:List (Option Nat)}{N:List Str}{y:Str}(t:MapC X scope mp N):MapC X scope (none :: mp) (y :: N):=λi j x h1 h2=>by
 cases i with
 | zero=>cases h1
 | succ i=>exact t i j x (by simpa using h1) (by simpa using h2)
theorem zc3{X:Cx}{scope:Scope}{mp:List (Option Nat)}{N:List Str}{y:Str}{k:Nat}(h:X.N[k]? = some y)(hc:X.env.scope.names.lookup y=some .cell\/X.env.scope.names.lookup y=some .free)(hf:scope.names.lookup y=some .free)
  (t:MapC X scope mp N):MapC X scope (some k :: mp) (y :: N):=λi j x h1 h2=>by
 cases i with
 | zero=>
  simp only[List.getElem?_cons_zero,Option.some.injEq]at h1 h2
  subst h1 h2
  exact⟨h,hc,hf⟩
 | succ i=>exact t i j x (by simpa using h1) (by simpa using h2)
end L2
namespace L2
open PySem PySem.Spec PyProof.Rows
structure Mk0(K:W.Frag)(C:Addr):Prop where
 makes:W.makesIn K C=true
 init:W.findIn K (.ref C) "__init__" = some (some (.builtin "object.__init__"))
 kp:W.keepIn K (.ref C)=true
def tMk0(C:Addr):TE:=λ_ H Q=>∀x dx,H x=none->H dx=none->dx≠x->Q (.ref x) (upd (upd H dx (.own x)) x (.ins C dx []))
theorem zkb{X:Cx}{C:Addr}{x:Str}{p pos:Pos}(M:Mk0 X.K C)(hm:X.mg x=some (.ref C))(hg:Gl X x:=by rfl)(hdb:(x == ("__debug__" : Str))=false:=by decide):PE X (.Call (.Name x p) [] [] pos) (tMk0 C):=by
 intro pins s σ H Q I h
 refine wpAny_Call_Name_kw (zfd I hg hm (W.callWith_K0 I.kIn M.kp ?_) hdb)
 have hq:=h (s.heap.objs.size + 1) s.heap.objs.size (I.hok.fresh (Nat.le_succ _)) (I.hok.fresh (Nat.le_refl _)) (Nat.ne_of_lt (Nat.lt_succ_self _))
 have I2:=Inv.made (C:=C) I
 refine wpAny_call (znp I.kIn M.makes M.init (λself=>W.Looks.of_pure (W.oi_bind self)) ?_)
 have Y:=W.makes_of (M:=model X.prog X.w) I.kIn M.makes
 have e2:((s.heap.push W.emptyDict).push (W.instObj C s.heap.objs.size)).get? (s.heap.objs.size + 1)=some (W.instObj C s.heap.objs.size):=by
  have:=Heap.get?_push_size (s.heap.push W.emptyDict) (o:=W.instObj C s.heap.objs.size) rfl
  rwa [Heap.size_push]at this
 have t1:W.Looks (model X.prog X.w) ((s.heap.push W.emptyDict).push (W.instObj C s.heap.objs.size)) (typeOf (.ref (s.heap.objs.size + 1))) (.ref C):=(W.Looks.ld e2).andThen .now
 have t2:W.Looks (model X.prog X.w) ((s.heap.push W.emptyDict).push (W.instObj C s.heap.objs.size)) (isInstance (.ref (s.heap.objs.size + 1)) (.type "object")) true:=
  t1.andThen (Y.top.keeps λb o e=>Heap.get?_push_of_some _ (Heap.get?_push_of_some _ e))
 refine codeAny_call_builtin W.oi_plain W.entry_oi (@W.check_slot (model X.prog X.w) _ _ _ "object.__init__" "object" "__init__" (.ref (s.heap.objs.size + 1)) [] [] _ W.oi_kind W.oi_split t2 (W.oi_args (.ref (s.heap.objs.size + 1))) ?_)
 rw[W.oi_run]
 exact wpAny_pure (And.intro rfl ⟨.ref (s.heap.objs.size + 1),_,I2,rfl,hq⟩)
end L2
namespace L2
open PySem PySem.Spec PyProof.Rows
abbrev yes2:Int->Int->Bool:=λ_ _=>true
theorem znj(φ : Int->Int->Int)(xs ys:List Int):zipV yes2 (λx y => .int (φ x y)) xs ys=(List.zipWith φ xs ys).map V.int:=by
 unfold zipV
 rw[List.filter_eq_self.mpr (λ_ _=>rfl)]
 refine List.ext_getElem? λi => ?_
 rw[List.getElem?_map,List.getElem?_map,List.getElem?_zipWith]
 by_cases h:i < min xs.length ys.length
 ·have h1:i < xs.length:=by omega
  have h2:i < ys.length:=by omega
  rw[List.getElem?_range h,List.getElem?_eq_getElem h1,List.getElem?_eq_getElem h2]
  simp[List.getD,h1,h2]
 ·rw[List.getElem?_eq_none (by simpa using h)]
  rcases Nat.lt_or_ge i xs.length with q | q
  ·rw[List.getElem?_eq_none (l:=ys) (by omega)]
   cases xs[i]? <;> rfl
  ·rw[List.getElem?_eq_none (l:=xs) q];rfl
theorem zpe(xs:List Int)(f:Int->Int):(List.range xs.length).map (λi=>f (xs.getD (xs.length - 1 - i) 0))=xs.reverse.map f:=by
 refine List.ext_getElem? λi => ?_
 rw[List.getElem?_map,List.getElem?_map]
 by_cases h:i < xs.length
 ·rw[List.getElem?_range h,List.getElem?_reverse h,List.getElem?_eq_getElem (show xs.length - 1 - i < xs.length by omega)]
  simp[List.getD,show xs.length - 1 - i < xs.length by omega]
 ·rw[List.getElem?_eq_none (by simpa using h),List.getElem?_eq_none (by rw[List.length_reverse];omega)];rfl
theorem zsr{X:Cx}{K:W.Frag}{x y:Str}{px py tp:Pos}{k:Nat}(hK:X.K=K)(hc:X.calm=true)(nd:X.N.Nodup)(h0:X.N[0]? = some x)(h1:X.N[1]? = some y)(hx:X.env.scope.names.lookup x=some .local)(hy:X.env.scope.names.lookup y=some .local) :
  PG X (.Tuple [.Name x px,.Name y py] k tp) (gTup K 2 (gCons (gName 0) (gCons (gName 1) gNil))):=by
 subst hK
 exact zg8 hc (zcp (zb2 (i:=0) nd h0 (.inl hx) (.inr hx)) (zcp (zb2 (i:=1) nd h1 (.inl hy) (.inr hy)) zfv))
end L2
namespace L2
open PySem PySem.Spec PyProof.Rows
theorem zm6{X:Cx}{pins:List (Addr×Obj)}{σ0 σ : St}{H0 H':Hp}{s0 s':Shared}{C:Addr}{i:Nat}{x:Str}{pos':Pos}{v:V}{u:Value}{Nx:St->Hp->Prop}(I0:Inv X pins σ0 H0 s0)(hC:s0.heap.objs.size<=C)(I:Inv X pins σ H' s')(hn:H' C=none)
  (hns:∃m,s'.heap.Ns C m) (hg:PG X (.Name x pos') (gName i)) (r:RelV v u) (q:Nx (σ.set i (some v)) H') :
  wpAny (model X.prog X.w) X.A (assign (.Name x pos') X.env u) (λ_ s''=>∃m,s''.heap.Ns C m/\∀h',Heap.SameBut C s''.heap h'->∃σ2 H2,Inv X pins σ2 H2 { s'' with heap:=h' }/\Nx σ2 H2) X.xe s':=by
 obtain⟨m,o,es,ep,ho,hd,rest⟩:=hns
 have fp:FpOk X pins H' C:=I0.fpOk hC hn
 have I1:=I.pinned (fp:=[C]) (λb hb=>by
  obtain rfl:b=C:=by simpa using hb
  exact fp) (λb hb=>by
  obtain rfl:b=C:=by simpa using hb
  exact⟨o,ho,λv z=>by rw[hd]at z;cases z⟩)
 refine thn (hg _ _ _ _ _ _ Nx I1 r q) λ_ s2 ⟨σ2,H2,I2,q2⟩ => ?_
 have pn:=I2.pin (C,o) (List.mem_append_right _ (List.mem_append_right _ (zd7 (by simp) ho)))
 refine⟨m,⟨o,es,ep,pn.1,hd,rest⟩,λh' sb=>⟨σ2,H2,?_,q2⟩⟩
 obtain⟨f0,f1,f2,f3,f4,f5⟩:=fp
 exact I2.unpinned.turned (t':=s2.toks) (λb ob hb e=>sb.extBut b ob hb e) pn.2.1 f1 f3 f4 f5
theorem znq{X:Cx}{N:List Str}{scope:Scope}{cl:List (Str×Addr)}{mp:List (Option Nat)}{elt tg iter:Expr}{ifs:List Expr}{wi:TI}{g:TG}{tc:TT}{te:TE}{pos pos' posA:Pos}{i:Nat}{x:Str}(hn:PG X (.Name x pos') (gName i))(B:Blk X N scope cl mp)(hc:X.calm=true)
  (hi:PI X tg iter wi) (hg:∀C s H fp,PG (blk X N scope cl C s H fp) tg g) (ht:∀C s H fp,PTs (blk X N scope cl C s H fp) ifs tc) (he:∀C s H fp,PE (blk X N scope cl C s H fp) elt te)
  (hs:∀x,foldedSetIterable iter X.env x=pure x:=by intro _;rfl) (hsw:swapsWith (.ListComp elt [⟨tg,iter,ifs,0⟩] scope pos) (some (.Name x pos')) posA.line X.env=pure true:=by rfl) :
  PS X (.Assign [.Name x pos'] (.ListComp elt [⟨tg,iter,ifs,0⟩] scope pos) posA) (tAsg (tComp mp wi g tc te) (gName i)):=by
 intro pins s σ H Dn I h
 unfold tAsg tComp at h
 rw[exec_Assign_Name_used _ _ _ _ hsw]
 refine wpAny_bind (wpAny_standAt (wpAny_bind ?_))
 show wpAny _ _ (comprehension (.ListComp elt [⟨tg,iter,ifs,0⟩] scope pos) scope X.env _ (newList []) false (eval iter X.env) (some (assign (.Name x pos') X.env)) >>= _) _ _ _
 refine wpAny_bind (wpAny_comprehension_free (use:=some (assign (.Name x pos') X.env)) (cl:=cl) rfl hs B.clos B.kind B.nms (thn (hi pins s σ H _ I h) λv s1 h1=>thn h1 λitv s2 h2 => ?_))
 obtain⟨it,fp,tn,J,H2,rfl,I2,T,st2,f2,q⟩:=h2
 have lt2:∀b∈fp,b < s2.heap.objs.size:=λb hb=>let ⟨o,e,_⟩:=T.obj _ _ st2 b hb;Heap.lt_size e
 obtain⟨W,⟨m0,w0⟩,turn⟩:=q _ I2.fresh
 have ID:=I2.lnew (ys:=[]) (its:=[]) (t':=s2.toks) .nil (Nat.zero_le _)
 have fD':∀b∈fp,FpOk X pins (upd H2 s2.heap.objs.size (.lst [])) b:=λb hb=>by
  obtain⟨f0,r⟩:=f2 b hb
  exact⟨by rw[zao (Nat.ne_of_lt (lt2 b hb))];exact f0,r⟩
 refine wpAny_newObj_type (zhc B hc hg ht he ID fD' T (T.keep _ _ _ st2 λb _ o e=>Heap.get?_push_of_some _ e) w0 turn λC H' σ' s' hC J' qf => ?_)
 have hns:∃m,s'.heap.Ns C m:=let ⟨m,hm,_⟩:=J'.loc;⟨m,hm⟩
 have I3:Inv X pins σ H' { s' with heap:=s'.heap }:=zl7 ID fD' hC J' (Heap.SameBut.refl _ _)
 exact thn (zm6 (v := .ref s2.heap.objs.size) ID hC I3 J'.free hns hn rfl qf) λ_ s4 ⟨m,hm,q4⟩=>⟨m,hm,λh' sb=>wpAny_pure (wpAny_pure (q4 h' sb))⟩
end L2
namespace L2
open PySem PySem.Spec PyProof.Rows
def rTupleOf(K:W.Frag):List V->Hp->VK->Prop:=λxs H Q=>∃p ys,xs=[.ref p]/\((SqL K H p ys/\∀l,H l=none->Q (.ref l) (upd H l (.tup ys)))\/(SqT K H p ys/\Q (.ref p) H))
def rListOf(K:W.Frag):List V->Hp->VK->Prop:=λxs H Q=>∃p ys,xs=[.ref p]/\(SqL K H p ys\/SqT K H p ys)/\∀l,H l=none->Q (.ref l) (upd H l (.lst ys))
def rLenSeq(K:W.Frag):List V->Hp->VK->Prop:=λxs H Q=>∃p ys,xs=[.ref p]/\(SqL K H p ys\/SqT K H p ys)/\Q (.int ys.length) H
def rSumX(K:W.Frag)(b:Bool):List V->Hp->VK->Prop:=λxs H Q=>∃(a:Addr) (ns:List Int),xs=[.ref a]/\SqX K b H a (ns.map V.int)/\Q (.int ns.sum) H
def rAllB(K:W.Frag):List V->Hp->VK->Prop:=λxs H Q=>∃(a:Addr) (bs:List Bool),xs=[.ref a]/\SqL K H a (bs.map V.bl)/\Q (.bl (bs.all id)) H
def rAnyB(K:W.Frag):List V->Hp->VK->Prop:=λxs H Q=>∃(a:Addr) (bs:List Bool),xs=[.ref a]/\SqL K H a (bs.map V.bl)/\Q (.bl (bs.any id)) H
def rIsInst(K:W.Frag):List V->Hp->VK->Prop:=λxs H Q=>∃x y t c b,xs=[x,y]/\clV y=some c/\TyOf K H x t/\W.kitOne K t c=some b/\Q (.bl b) H
section
variable{X:Cx}{K:W.Frag}
theorem zch(hK:X.K=K):CallR X (.type "tuple") (rTupleOf K):=by subst hK;exact zh2
theorem zlx(hK:X.K=K):CallR X (.type "list") (rListOf K):=by subst hK;exact zi1
theorem zbq(hK:X.K=K):CallR X (.builtin "len") (rLenSeq K):=by subst hK;exact zjd
theorem ziz(hK:X.K=K)(b:Bool)(hc:X.calm=true):CallR X (.builtin "sum") (rSumX K b):=by subst hK;exact zm8 b hc
theorem zi8(hK:X.K=K)(hc:X.calm=true):CallR X (.builtin "all") (rAllB K):=by subst hK;exact zm5 hc
theorem zmm(hK:X.K=K)(hc:X.calm=true):CallR X (.builtin "any") (rAnyB K):=by subst hK;exact zn3 hc
theorem zci(hK:X.K=K):CallR X (.builtin "isinstance") (rIsInst K):=by subst hK;exact zj0
theorem zbb{e:Expr}{f:Str}{pos:Pos}{ta:TE}(hK:X.K=K)(he:PE X e ta)(hb:attributeBase e f X.env (eval e X.env)=eval e X.env):PE X (.Attribute e f pos) (tFld K ta f):=by subst hK;exact zuq he hb
theorem ze0{tg l:Expr}{tl:TE}(hK:X.K=K)(hl:PE X l tl):PI X tg l (iList K tl):=by subst hK;exact zso hl
theorem zsb{tg l:Expr}{tl:TE}(hK:X.K=K)(hl:PE X l tl):PI X tg l (iTup K tl):=by subst hK;exact zt8 hl
theorem zhx{es:List Expr}{ek:Nat}{tpos p pos:Pos}(hK:X.K=K)(b1 b2:Bool){e1 e2:Expr}{ta:TA}(hg:Gl X "zip")(hm:X.mg "zip" = none)(ha:PA X [e1,e2] ta)
  (he:starEach [e1,e2] X.env=(false,eval e1 X.env) :: starEach [e2] X.env:=by rfl) (hpl:(backTo pos (starEach [e2] X.env)).any (·.1)=false:=by rfl) :
  PI X (.Tuple es ek tpos) (.Call (.Name "zip" p) [e1,e2] [] pos) (iZip K b1 b2 ta):=by subst hK;exact zvk b1 b2 hg hm ha he hpl
theorem zsq{tg:Expr}{p pos:Pos}{e1:Expr}{ta:TA}(hK:X.K=K)(hg:Gl X "reversed")(hm:X.mg "reversed" = none)(ha:PA X [e1] ta)
  (he:starEach [e1] X.env=(false,eval e1 X.env) :: starEach [] X.env:=by rfl) (hpl:(backTo pos (starEach [] X.env)).any (·.1)=false:=by rfl) :
  PI X tg (.Call (.Name "reversed" p) [e1] [] pos) (iRvd K ta):=by subst hK;exact zu5 hg hm ha he hpl
theorem zgb(hK:X.K=K):SlR X (rSlL K):=by subst hK;exact zsw
end
end L2
set_option Elab.async false
set_option linter.all false
set_option maxRecDepth 100000
namespace L2
open PySem PySem.Spec PyProof.Rows
structure BMeth(K:W.Frag)(m:Str)(f:Addr):Prop where
 get:W.specialIn K (.ref f) "__get__" = some (some (.builtin "function.__get__"))
 tk:W.takesIn K (.ref f)=some false
 cp:W.copiedNames.contains m=false
theorem zjq{K:W.Frag}{C f:Addr}{name:Str}{od:Obj}{g:Value}(hh:W.hasDictIn K C=true)(ha:W.findIn K (.ref C) name=some (some (.ref f)))(hg:W.specialIn K (.ref f) "__get__" = some (some g))
  (ht:W.takesIn K (.ref f)=some false) (hc:W.copiedNames.contains name=false) (hl:W.lookIn name od=some none):W.findObj K C (some od) name=some (.bind g (.ref f)):=by
 obtain⟨cd,hc',hd⟩:=W.any_some hh
 unfold W.findObj
 have ho:W.ownOf cd (some od) name=some none:=by unfold W.ownOf;rw[if_pos hd];exact hl
 rw[hc',Option.bind_some,ha,Option.bind_some]
 simp only[hg,ht,Option.bind_some,ho,hc,Bool.false_and,Bool.false_eq_true,if_false]
section
variable{X:Cx}{pins:List (Addr×Obj)}{σ : St}{H:Hp}{s:Shared}{a C dx:Addr}{fs:List (Str×V)}{m:Str}{f:Addr}{A:Around}{E:Value->Shared->Prop}
theorem zoi{b:Bool}{Q:Value->Shared->Prop}(I:Inv X pins σ H s)(e:H a=some (.ins C dx fs))(c:Cls X.K C)(k:Meth X.K C m f)(kb:BMeth X.K m f)(l:fs.lookup m=none)
  (h:Q (.ref s.heap.objs.size) { s with heap:=s.heap.push (W.methodObj (.ref f) (.ref a)),toks:=s.toks + 1 }):wpAny (model X.prog X.w) A (getAttr (.ref a) m b) Q E s:=by
 obtain⟨mA,O,r,_,_,_⟩:=zgy I.hok e
 have hn:mA m=none:=RelO.none_of (by rw[<- l];exact r m)
 obtain⟨od,J,hl⟩:=O.look
 refine W.get_bind I.kIn J (W.plainGet_of (c.get m)).1 (zjq c.hd k.at_ kb.get kb.tk kb.cp (by rw[hl,hn])) (W.plainGet_of (c.get m)).2 ?_
 exact wpAny_call (W.fn_get (s:={ s with toks:=s.toks + 1 }) I.kIn (beq_iff_eq.mp k.fn) (W.handed_on rfl h))
theorem Inv.repin{pa pb:List (Addr×Obj)}{b:Addr}{o o':Obj}{t':Nat}{h':Heap}{H₁:Hp}(I:Inv X (pa ++ (b,o) :: pb) σ H s)(f:FpOk X (pa ++ pb) H₁ b)(k:∀c u,c≠b->s.heap.get? c=some u->h'.get? c=some u)
  (e:h'.get? b=some o') (hc:∀v,o'.data≠.cell v):Inv X (pa ++ (b,o') :: pb) σ H { s with heap:=h',toks:=t' }:=by
 have pb':=I.pin (b,o) (List.mem_append_right _ (List.mem_append_right _ (.head _)))
 have I1:Inv X (pa ++ pb) σ H s:=I.pins_of λp hp=>I.pin p (List.mem_append_right _ ((List.mem_append.mp hp).elim (λz=>List.mem_append_left _ z) λz=>List.mem_append_right _ (.tail _ z)))
 have I2:=I1.turned (t':=t') (h':=h') (it:=b) k pb'.2.1 f.2.1 f.2.2.2.1 f.2.2.2.2.1 f.2.2.2.2.2
 refine I2.pins_of λp hp => ?_
 rcases List.mem_append.mp hp with z | z
 ·exact I2.pin p (List.mem_append_right _ (List.mem_append_left _ z))
 ·rcases List.mem_cons.mp z with rfl | z
  ·exact⟨e,pb'.2.1,f.2.1,f.2.2.1,hc⟩
  ·exact I2.pin p (List.mem_append_right _ (List.mem_append_right _ z))
theorem FpOk.more{pa:List (Addr×Obj)}{b:Addr}(f:FpOk X pins H b)(h:∀p∈pa,p.1≠b):FpOk X (pa ++ pins) H b:=by
 refine⟨f.1,f.2.1,f.2.2.1,f.2.2.2.1,f.2.2.2.2.1,λp hp => ?_⟩
 rcases List.mem_append.mp hp with z | z
 ·exact f.2.2.2.2.2 p (List.mem_append_left _ z)
 ·rcases List.mem_append.mp z with z | z
  ·exact h p z
  ·exact f.2.2.2.2.2 p (List.mem_append_right _ z)
end
def BRun(X:Cx)(q f a:Addr)(sp:V->Hp->VK->Prop):Prop:=∀(pins:List (Addr×Obj)) (s:Shared) (σ : St) (H:Hp) (Q:VK) (x:V) (u:Value),Inv X pins σ H s->(q,W.methodObj (.ref f) (.ref a))∈pins->RelV x u->sp x H Q ->
 wpAny (model X.prog X.w) X.A.in1 (call (.ref q) [u]) (EP X pins σ Q) (λ_ _=>False) s
theorem zst{X:Cx}{k:Nat}{f:Addr}{fd:FuncData}{ps:List Str}{sp:Sp}{dvs:List V}{ds:List Value}{q a:Addr}(F:FnOk X.prog X.w X.K X.mg X.base CX0 k f fd ps sp)(hr:Room (k + 1) X.A)(hb:Binds X.K fd ps ds)(hd:Vals dvs ds) :
  BRun X q f a λx H Q=>sp (.ref a :: x :: dvs) H Q E0:=by
 intro pins s σ H Q x u I hq rx h
 have r2:Vals (.ref a :: x :: dvs) ([.ref a,u] ++ ds) := .cons rfl (.cons rx hd)
 have hl:([.ref a,u] ++ ds).length=ps.length:=by rw[<- r2.length];exact F.len _ _ _ _ h
 have ho:=(I.pin _ (List.mem_append_right _ hq)).1
 refine wpAny_call (W.method_call ho ?_)
 refine codeAny_mono (F.run X.A.in1 X.stack s H ⟨[.ref a,u],[]⟩ ([.ref a,u] ++ ds) (.ref a :: x :: dvs) Q E0 hr.in1 I.env0.in1 (hb s [.ref a,u] I.kIn hl) r2 h) λr s' hq => ?_
 match r,hq with
 | .error e,hq=>exact False.elim hq
 | .ok (.ret u),hq=>exact I.after hq
 | .ok .next,hq=>exact False.elim hq
 | .ok .brk,hq=>exact False.elim hq
 | .ok .cont,hq=>exact False.elim hq
def mxGo(K:W.Frag)(l:Addr)(all:List V)(sp:V->Hp->VK->Prop):List V->V->V->Hp->VK->Prop
 | [],b,_,H,Q=>Q b H
 | x :: xs,b,kb,H,Q=>sp x H λk H1=>H1 l=some (.lst all)/\∃(a c:Addr) (ns ms:List Int),k = .ref a/\kb = .ref c/\SqT K H1 a (ns.map V.int)/\SqT K H1 c (ms.map V.int) /\
  (HT.lexLt ms ns=true->mxGo K l all sp xs x k H1 Q)/\(HT.lexLt ms ns=false->mxGo K l all sp xs b kb H1 Q)
def mxAll(K:W.Frag)(l:Addr)(all:List V)(sp:V->Hp->VK->Prop):List V->Hp->VK->Prop
 | [],_,_=>False
 | x :: xs,H,Q=>sp x H λk H1=>H1 l=some (.lst all)/\mxGo K l all sp xs x k H1 Q
section
variable{X:Cx}{pins:List (Addr×Obj)}{σ : St}{l q It S f a:Addr}{all:List V}{sp:V->Hp->VK->Prop}{Q:VK}{H₁:Hp}
theorem zqy{xs:List V}{us:List Value}(r:Vals xs us):∀{i:Nat} {x:V},xs[i]? = some x->∃u,us[i]? = some u/\RelV x u:=by
 induction r with
 | nil=>intro i x h;simp at h
 | cons r1 _ ih=>
  intro i x h
  cases i with
  | zero=>simp at h;subst h;exact⟨_,rfl,r1⟩
  | succ i=>simp at h;obtain⟨u,e,z⟩:=ih h;exact⟨u,by simpa using e,z⟩
theorem zuf(hh:X.A.handled=none)(hu:X.A.units + 1 < cLine)(B:BRun X q f a sp)(hlI:l≠It)(hSI:S≠It)(hqI:q≠It)(hqS:q≠S)(fI:FpOk X pins H₁ It)(fS:FpOk X pins H₁ S) :
  ∀(rest:List V) (j:Nat) (b kb:V) (ub ukb:Value) (c:Nat) (oI:Obj) (H:Hp) (s:Shared),all.drop (j + 1)=rest->mxGo X.K l all sp rest b kb H Q->H l=some (.lst all) ->
   Inv X ((It,oI) :: (S,seqObj "list" #[ub,ukb] c) :: (q,W.methodObj (.ref f) (.ref a)) :: pins) σ H s->s.heap.IsListIter It l (j + 1)->RelV b ub->RelV kb ukb ->
   codeAny (model X.prog X.w) X.A (.builtin "max.loop" ⟨[.ref It,.ref q,.ref S],[]⟩) (λr s'=>match r with | .ok (.ret v)=>EP X pins σ Q v s' | .ok _=>False | .error e=>X.xe e s') s:=by
 have hname:(toString "max" ++ toString ".loop" : String) = "max.loop":=by decide
 intro rest
 induction rest with
 | nil=>
  intro j b kb ub ukb c oI H s hdrop hgo hH I hit rb rkb
  have hlen:all.length<=j + 1:=List.drop_eq_nil_iff.mp hdrop
  obtain⟨its,n,rv,hl,_⟩:=I.lst hH
  have hls:s.heap.IsList l its.toArray:=⟨_,hl,rfl,n,rfl⟩
  have nS:=I.pin (S,seqObj "list" #[ub,ukb] c) (List.mem_append_right _ (.tail _ (.head _)))
  refine codeAny_builtin PySem.F.entry_max_loop ?_
  rw[Around.under_plainId PySem.F.plain_max_loop _]
  show wpAny _ X.A.in1 (seqItems? (.ref S) >>= _) _ _ _
  refine wpAny_bind (wpAny_seqItems nS.1 rfl ?_)
  show wpAny _ X.A.in1 (tryCatch (pyNext (.ref It)) _ >>= _) _ _ _
  refine wpAny_bind (wpAny_tryCatch (wpAny_pyNext_list_end (A:=X.A.in1) hh hit hls (by rw[List.getElem?_toArray,List.getElem?_eq_none];rw[<- rv.length];exact hlen) λh' he' => ?_))
  have pI:=I.pin (It,oI) (List.mem_append_right _ (.head _))
  have I1:Inv X ((S,seqObj "list" #[ub,ukb] c) :: (q,W.methodObj (.ref f) (.ref a)) :: pins) σ H s:=I.pins_of λp hp=>I.pin p (List.mem_append_right _ (.tail _ hp))
  have fI':=fI.more (pa:=[(S,seqObj "list" #[ub,ukb] c),(q,W.methodObj (.ref f) (.ref a))]) (by simp[hSI,hqI])
  have I2:=I1.turned (t':=s.toks) (h':=h') (it:=It) (λb' o hb e=>he' b' o hb e) pI.2.1 fI'.2.1 fI'.2.2.2.1 fI'.2.2.2.2.1 fI'.2.2.2.2.2
  have nS2:=I2.pin (S,seqObj "list" #[ub,ukb] c) (List.mem_append_right _ (.head _))
  show wpAny _ X.A.in1 (updateSeq S (λ_ => #[]) >>= _) _ _ _
  refine wpAny_bind ?_
  refine wpAny_updateSeq nS2.1 rfl (wpAny_bind (wpAny_letGo (wpAny_pure ?_)))
  have fS':=fS.more (pa:=[(q,W.methodObj (.ref f) (.ref a))]) (by simp[hqS])
  have I3:Inv X ((q,W.methodObj (.ref f) (.ref a)) :: pins) σ H { s with heap:=h' }:=I2.pins_of λp hp=>I2.pin p (List.mem_append_right _ (.tail _ hp))
  have sb:=Heap.SameBut.update h' S (Obj.mapSeq λ_=>(#[]:Array Value))
  have I4:=I3.turned (t':=s.toks) (h':=h'.update S (Obj.mapSeq λ_ => #[])) (it:=S) (λb' o hb e=>(sb.2 b' hb).trans e) nS2.2.1 fS'.2.1 fS'.2.2.2.1 fS'.2.2.2.2.1 fS'.2.2.2.2.2
  exact⟨b,H,I4.pins_of λp hp=>I4.pin p (List.mem_append_right _ (.tail _ hp)),rb,hgo⟩
 | cons x xs ih=>
  intro j b kb ub ukb c oI H s hdrop hgo hH I hit rb rkb
  have hx:all[j + 1]? = some x:=by rw[<- List.head?_drop,hdrop];rfl
  have hdrop':all.drop (j + 1 + 1)=xs:=by rw[<- List.tail_drop,hdrop];rfl
  obtain⟨its,n,rv,hl,_⟩:=I.lst hH
  have hls:s.heap.IsList l its.toArray:=⟨_,hl,rfl,n,rfl⟩
  obtain⟨u,hu',ru⟩:=zqy rv hx
  have nS:=I.pin (S,seqObj "list" #[ub,ukb] c) (List.mem_append_right _ (.tail _ (.head _)))
  refine codeAny_builtin PySem.F.entry_max_loop ?_
  rw[Around.under_plainId PySem.F.plain_max_loop _]
  show wpAny _ X.A.in1 (seqItems? (.ref S) >>= _) _ _ _
  refine wpAny_bind (wpAny_seqItems nS.1 rfl ?_)
  show wpAny _ X.A.in1 (tryCatch (pyNext (.ref It)) _ >>= _) _ _ _
  refine wpAny_bind (wpAny_tryCatch (wpAny_pyNext_list_item hit hls (x:=u) (by rw[List.getElem?_toArray];exact hu') λh' hit' hs' => ?_))
  obtain⟨oI',hoI',hoc,hod⟩:=id hit'
  have fI':=fI.more (pa:=[(S,seqObj "list" #[ub,ukb] c),(q,W.methodObj (.ref f) (.ref a))]) (by simp[hSI,hqI])
  have I1:Inv X ((It,oI') :: (S,seqObj "list" #[ub,ukb] c) :: (q,W.methodObj (.ref f) (.ref a)) :: pins) σ H { s with heap:=h' }:=
   Inv.repin (pa:=[]) (t':=s.toks) I fI' (λb' o hb e=>(hs'.2 b' hb).trans e) hoI' (by intro v z;rw[hod]at z;cases z)
  show wpAny _ X.A.in1 (tryCatch (holding [u] (call (.ref q) [u])) _ >>= _) _ _ _
  refine wpAny_bind (wpAny_tryCatch (wpAny_holding (wpAny_mono (B _ _ σ H _ x u I1 (.tail _ (.tail _ (.head _))) ru hgo) (λuk s2 he => ?_) λ_ _ hF=>hF.elim)))
  obtain⟨k,H1,I2,rk,hH1,a',c',ns,ms,rfl,rfl,ha',hc',h1,h2⟩:=he
  obtain rfl:uk=Value.ref a':=rk
  obtain rfl:ukb=Value.ref c':=rkb
  obtain⟨it1,r1,p1,_⟩:=I2.tuple ha'
  obtain⟨it2,r2,p2,_⟩:=I2.tuple hc'
  have i1:IntsAre it1.toArray.toList ns:=zd6 r1
  have i2:IntsAre it2.toArray.toList ms:=zd6 r2
  have nS2:=I2.pin (S,seqObj "list" #[ub,.ref c'] c) (List.mem_append_right _ (.tail _ (.head _)))
  have nI2:=I2.pin (It,oI') (List.mem_append_right _ (.head _))
  have hit2:s2.heap.IsListIter It l (j + 1 + 1):=⟨oI',nI2.1,hoc,hod⟩
  show wpAny _ X.A.in1 (tryCatch (holding [u,.ref a'] (richCompare .Gt (.ref a') (.ref c') >>= _)) _ >>= _) _ _ _
  refine wpAny_bind (wpAny_tryCatch (wpAny_holding (wpAny_bind (HT.gt_tupInts (A:=X.A.in1) p1 p2 i1 i2 hu ?_))))
  refine wpAny_bind (wpAny_holding (wpAny_truthy_bool ?_))
  refine wpAny_bind (wpAny_letGo (wpAny_pure ?_))
  cases hb:HT.lexLt ms ns with
  | true=>
   have sb:=Heap.SameBut.update s2.heap S (Obj.mapSeq λ_ => #[u,.ref a'])
   obtain⟨c2,hc2⟩:∃c2,(s2.heap.update S (Obj.mapSeq λ_ => #[u,.ref a'])).get? S=some (seqObj "list" #[u,.ref a'] c2):=⟨_,get?_update_seq nS2.1 λ_ => #[u,.ref a']⟩
   simp only[if_true]
   refine wpAny_bind ?_
   refine wpAny_updateSeq nS2.1 rfl (wpAny_bind (wpAny_letGo ?_))
   rw[hname]
   have fS':FpOk X ((It,oI') :: (q,W.methodObj (.ref f) (.ref a)) :: pins) H₁ S:=fS.more (pa:=[(It,oI'),(q,W.methodObj (.ref f) (.ref a))]) (by simp[hSI.symm,hqS])
   have I3:Inv X ((It,oI') :: (S,seqObj "list" #[u,.ref a'] c2) :: (q,W.methodObj (.ref f) (.ref a)) :: pins) σ H1 { s2 with heap:=s2.heap.update S (Obj.mapSeq λ_ => #[u,.ref a']) }:=
    Inv.repin (pa:=[(It,oI')]) (t':=s2.toks) I2 fS' (λb' o hb' e=>(sb.2 b' hb').trans e) hc2 (by intro v z;cases z)
   exact wpAny_pure ⟨plainId_quiet PySem.F.plain_max_loop _,ih (j + 1) x (.ref a') u (.ref a') c2 oI' H1 _ hdrop' (h1 hb) hH1 I3 ⟨oI',(sb.2 It hSI.symm).trans nI2.1,hoc,hod⟩ ru rfl⟩
  | false=>
   simp only[Bool.false_eq_true,if_false]
   refine wpAny_bind (wpAny_letGo ?_)
   rw[hname]
   exact wpAny_pure ⟨plainId_quiet PySem.F.plain_max_loop _,ih (j + 1) b (.ref c') ub (.ref c') c oI' H1 _ hdrop' (h2 hb) hH1 I2 hit2 rb rfl⟩
end
end L2
namespace L2
open PySem PySem.Spec PyProof.Rows
structure BM(K:W.Frag)(C:Addr)(m:Str):Prop where
 ex:∃f,W.findIn K (.ref C) m=some (some (.ref f))/\BMeth K m f
def tMaxK(K:W.Frag)(C:Addr)(m:Str)(sp:Sp)(dvs:List V)(te ta:TE):TE:=λσ H Q=>te σ H λv H1=>ta σ H1 λo H2=>∃(a dx:Addr) (fs:List (Str×V)) (l:Addr) (all:List V),o = .ref a/\H2 a=some (.ins C dx fs)/\fs.lookup m=none /\
 v = .ref l/\H2 l=some (.lst all)/\mxAll K l all (λx H Q=>sp (.ref a :: x :: dvs) H Q E0) all H2 Q
section
variable{X:Cx}{k j:Nat}{C:Addr}{ps:List Str}{sp:Sp}{dvs:List V}{ds:List Value}{m:Str}{p pos apos kpos:Pos}{e o:Expr}{te ta:TE}
theorem Inv.pinNew{pins:List (Addr×Obj)}{σ : St}{H:Hp}{s:Shared}{ob:Obj}{t':Nat}(I:Inv X pins σ H s)(hf:ob.isFreed=false)(hc:∀v,ob.data≠.cell v):Inv X ((s.heap.objs.size,ob) :: pins) σ H { s with heap:=s.heap.push ob,toks:=t' }:=by
 have I1:Inv X pins σ H { s with heap:=s.heap.push ob,toks:=t' }:=I.kept λb u e=>Heap.get?_push_of_some _ e
 refine I1.pins_of λq hq => ?_
 rcases List.mem_cons.mp hq with rfl | hq
 ·exact⟨Heap.get?_push_size _ hf,I.hok.fresh (Nat.le_refl _),Nat.ne_of_gt I.lt,I.nofs (Nat.le_refl _),hc⟩
 ·exact I1.pin q (List.mem_append_right _ hq)
theorem ztd{pins:List (Addr×Obj)}{σ : St}{H:Hp}{s:Shared}{q f a l:Addr}{all:List V}{sp:V->Hp->VK->Prop}{Q:VK}(hr:Room j X.A)(B:BRun X q f a sp)(I:Inv X ((q,W.methodObj (.ref f) (.ref a)) :: pins) σ H s)
  (hH:H l=some (.lst all)) (h:mxAll X.K l all sp all H Q):wpAny (model X.prog X.w) X.A (call (.builtin "max") [.ref l] [(Str.ofString "key",.ref q)]) (EP X pins σ Q) X.xe s:=by
 have hname:(toString "max" ++ toString ".loop" : String) = "max.loop":=by decide
 have hh:X.A.handled=none:=hr.hd
 have hu:X.A.units + 1 < cLine:=by have:=hr.un;omega
 cases all with
 | nil=>exact False.elim h
 | cons x xs=>
  obtain⟨its,n,rv,hl,_⟩:=I.lst hH
  have hls:s.heap.IsList l its.toArray:=⟨_,hl,rfl,n,rfl⟩
  have hll:l < s.heap.objs.size:=Heap.lt_size hl
  refine kmk_tree PySem.F.kind_max PySem.F.plain_max PySem.F.entry_max (kmk_max_key _ _) ?_
  show wpAny _ X.A.in1 (Builtin.Builtins.bindParams "max" ["key","default"] 0 ⟨[],[(Str.ofString "key",.ref q)]⟩ >>= _) _ _ s
  refine wpAny_bind (wpAny_of_eq (show Builtin.Builtins.bindParams "max" ["key","default"] 0 ⟨[],[(Str.ofString "key",.ref q)]⟩=pure [some (.ref q),none] from rfl) ?_)
  refine wpAny_bind (wpAny_pure ?_)
  refine wpAny_bind (wpAny_pyIter_list hls ?_)
  refine wpAny_bind (wpAny_newList ?_ (Nat.zero_le _))
  rw[hname]
  have hS:(s.heap.push { cls := .type "list_iterator",data := .fields #[.ref l,.int 0 0] }).objs.size=s.heap.objs.size + 1:=size_push' ..
  have nq:=I.pin (q,W.methodObj (.ref f) (.ref a)) (List.mem_append_right _ (.head _))
  have hqz:q < s.heap.objs.size:=Heap.lt_size nq.1
  have I0:Inv X pins σ H s:=I.pins_of λp hp=>I.pin p (List.mem_append_right _ (.tail _ hp))
  have Ia:Inv X ((s.heap.objs.size,{ cls := .type "list_iterator",data := .fields #[.ref l,.int 0 0] }) :: (q,W.methodObj (.ref f) (.ref a)) :: pins) σ H { s with heap:=s.heap.push { cls := .type "list_iterator",data := .fields #[.ref l,.int 0 0] } }:=I.pinNew (t':=s.toks) rfl (by intro v z;cases z)
  have Ib:=Ia.pinNew (t':=s.toks) (ob:=seqObj "list" #[] 0) rfl (by intro v z;cases z)
  have fI:FpOk X pins H s.heap.objs.size:=I0.fpOk (Nat.le_refl _) (I.hok.fresh (Nat.le_refl _))
  have fS:FpOk X pins H (s.heap.push { cls := .type "list_iterator",data := .fields #[.ref l,.int 0 0] }).objs.size:=I0.fpOk (by rw[hS];exact Nat.le_succ _) (I.hok.fresh (by rw[hS];exact Nat.le_succ _))
  generalize hS0:(s.heap.push { cls := .type "list_iterator",data := .fields #[.ref l,.int 0 0] }).objs.size=S at *
  have hlI:l≠s.heap.objs.size:=Nat.ne_of_lt hll
  have hqI:q≠s.heap.objs.size:=Nat.ne_of_lt hqz
  have hSI:S≠s.heap.objs.size:=by rw[hS];exact Nat.ne_of_gt (Nat.lt_succ_self _)
  have hqS:q≠S:=by rw[hS];exact Nat.ne_of_lt (Nat.lt_succ_of_lt hqz)
  refine wpAny_pure ⟨plainId_quiet PySem.F.plain_max_loop _,?_⟩
  have nS:=Ib.pin (S,seqObj "list" #[] 0) (List.mem_append_right _ (by rw[<- hS0];exact .head _))
  have nI:=Ib.pin (s.heap.objs.size,_) (List.mem_append_right _ (.tail _ (.head _)))
  obtain⟨its',n',rv',hl',_⟩:=Ib.lst hH
  have hls':((s.heap.push { cls := .type "list_iterator",data := .fields #[.ref l,.int 0 0] }).push (seqObj "list" #[] 0)).IsList l its'.toArray:=⟨_,hl',rfl,n',rfl⟩
  obtain⟨u,hu',ru⟩:=zqy (i:=0) rv' rfl
  refine codeAny_builtin PySem.F.entry_max_loop ?_
  rw[Around.under_plainId PySem.F.plain_max_loop _]
  show wpAny _ X.A.in1 (seqItems? (.ref S) >>= _) _ _ _
  refine wpAny_bind (wpAny_seqItems nS.1 rfl ?_)
  show wpAny _ X.A.in1 (tryCatch (pyNext (.ref s.heap.objs.size)) _ >>= _) _ _ _
  refine wpAny_bind (wpAny_tryCatch (wpAny_pyNext_list_item (i:=0) ⟨_,nI.1,rfl,rfl⟩ hls' (x:=u) (by rw[List.getElem?_toArray];exact hu') λh' hit' hs' => ?_))
  obtain⟨oI',hoI',hoc,hod⟩:=id hit'
  have Ic:Inv X ((s.heap.objs.size,oI') :: (S,seqObj "list" #[] 0) :: (q,W.methodObj (.ref f) (.ref a)) :: pins) σ H { s with heap:=h' }:=by
   have fI':FpOk X ([(S,seqObj "list" #[] 0)] ++ (q,W.methodObj (.ref f) (.ref a)) :: pins) H s.heap.objs.size:=fI.more (pa:=[(S,seqObj "list" #[] 0),(q,W.methodObj (.ref f) (.ref a))]) (by simp[hSI,hqI])
   have Iz:=Inv.repin (pa:=[(S,seqObj "list" #[] 0)]) (t':=s.toks) (h':=h') Ib fI' (λb' o hb e=>(hs'.2 b' hb).trans e) hoI' (by intro v z;rw[hod]at z;cases z)
   refine Iz.pins_of λp hp=>Iz.pin p (List.mem_append_right _ ?_)
   rcases List.mem_cons.mp hp with rfl | hp
   ·exact .tail _ (.head _)
   ·rcases List.mem_cons.mp hp with rfl | hp
    ·exact .head _
    ·exact .tail _ (.tail _ hp)
  show wpAny _ X.A.in1 (tryCatch (holding [u] (call (.ref q) [u])) _ >>= _) _ _ _
  refine wpAny_bind (wpAny_tryCatch (wpAny_holding (wpAny_mono (B _ _ σ H _ x u Ic (.tail _ (.tail _ (.head _))) ru h) (λuk s2 he => ?_) λ_ _ hF=>hF.elim)))
  obtain⟨kv,H1,I2,rk,hH1,hgo⟩:=he
  have nS2:=I2.pin (S,seqObj "list" #[] 0) (List.mem_append_right _ (.tail _ (.head _)))
  have nI2:=I2.pin (s.heap.objs.size,oI') (List.mem_append_right _ (.head _))
  have sb:=Heap.SameBut.update s2.heap S (Obj.mapSeq λ_ => #[u,uk])
  obtain⟨c2,hc2⟩:∃c2,(s2.heap.update S (Obj.mapSeq λ_ => #[u,uk])).get? S=some (seqObj "list" #[u,uk] c2):=⟨_,get?_update_seq nS2.1 λ_ => #[u,uk]⟩
  show wpAny _ X.A.in1 (updateSeq S (λ_ => #[u,uk]) >>= _) _ _ _
  refine wpAny_bind ?_
  refine wpAny_updateSeq nS2.1 rfl ?_
  rw[hname]
  have fS':FpOk X ((s.heap.objs.size,oI') :: (q,W.methodObj (.ref f) (.ref a)) :: pins) H S:=fS.more (pa:=[(s.heap.objs.size,oI'),(q,W.methodObj (.ref f) (.ref a))]) (by simp[hSI.symm,hqS])
  have I3:Inv X ((s.heap.objs.size,oI') :: (S,seqObj "list" #[u,uk] c2) :: (q,W.methodObj (.ref f) (.ref a)) :: pins) σ H1 { s2 with heap:=s2.heap.update S (Obj.mapSeq λ_ => #[u,uk]) }:=
   Inv.repin (pa:=[(s.heap.objs.size,oI')]) (t':=s2.toks) I2 fS' (λb' o hb' e=>(sb.2 b' hb').trans e) hc2 (by intro v z;cases z)
  exact wpAny_pure ⟨plainId_quiet PySem.F.plain_max_loop _,zuf (H₁:=H) hh hu B hlI hSI hqI hqS fI fS xs 0 x kv u uk c2 oI' H1 _ rfl hgo hH1 I3 ⟨oI',(sb.2 _ hSI.symm).trans nI2.1,hoc,hod⟩ ru rk⟩
theorem zr9(c:MCal X.prog X.w X.K X.mg X.base CX0 k C m ps ds sp)(b:BM X.K C m)(he:PE X e te)(ho:PE X o ta)(hr:Room j X.A)(hd:Vals dvs ds)(hm:X.mg ("max" : Str)=none)(hk:k + 1<=j:=by decide)(hg:Gl X "max":=by rfl)
  (hb:attributeBase o m X.env (eval o X.env)=eval o X.env:=by rfl) (hs:starEach [e] X.env=(false,eval e X.env) :: starEach [] X.env:=by rfl) :
  PE X (.Call (.Name "max" p) [e] [⟨some "key",.Attribute o m apos,kpos⟩] pos) (tMaxK X.K C m sp dvs te ta):=by
 obtain⟨f,fd,F,hbi,hme⟩:=c.ex
 obtain⟨f',ef,kb⟩:=b.ex
 have:f'=f:=by have z:=hme.at_;rw[ef]at z;injection z with z;injection z with z;injection z
 subst this
 intro pins s σ H Q I h
 refine wpAny_Call_Name_kw (zfp I hg hm boot_max ?_)
 have h':tCons te tNil σ H (λvs H1=>match vs with
   | [v]=>ta σ H1 λo H2=>∃(a dx:Addr) (fs:List (Str×V)) (l:Addr) (all:List V),o = .ref a/\H2 a=some (.ins C dx fs)/\fs.lookup m=none /\
     v = .ref l/\H2 l=some (.lst all)/\mxAll X.K l all (λx H Q=>sp (.ref a :: x :: dvs) H Q E0) all H2 Q
   | _=>False):=h
 refine callWith_kw (thn ((zaa he zah hs) pos pins s σ H _ I h') λus s1 ⟨vs,H1,I1,r1,q1⟩ => ?_) (by rw[hs];rfl) (by rw[hs];rfl)
 cases r1 with
 | nil=>exact False.elim q1
 | cons ru rr=>
  cases rr with
  | cons _ _=>exact False.elim q1
  | nil=>
   refine kwAll_cons (zl8 hb (thn (ho pins s1 σ H1 _ I1 q1) λuo s2 ⟨ov,H2,I2,ro,a,dx,fs,l,all,eo,ea,el,ev,eh,hmx⟩ => ?_))
   subst eo
   subst ev
   cases ro
   cases ru
   refine zoi I2 ea c.cl hme kb el (kwAll_nil ?_)
   have I3:=I2.pinNew (t':=s2.toks + 1) (ob:=W.methodObj (.ref f') (.ref a)) rfl (by intro v z;cases z)
   exact ztd hr (zst F (hr.mono hk) hbi hd) I3 eh hmx
end
end L2
namespace L2
open PySem PySem.Spec PyProof.Rows
end L2
namespace TS
open PySem PyProof.Rows
local macro_rules | `(tactic| walk_at "sort gallop") => do `(tactic| delta $(Lean.mkIdent (Lean.mkPrivateNameCore `PySem.Builtin.List.W1All `PySem.Builtin.gallop)):ident)
section
variable{prog:Program}{w:World}{A:Around}{E:Value->Shared->Prop}{s:Shared}{kd:SortKind}{a₀:Array Keyed}{O:KeyOrd}{key:Keyed->O.α}
end
end TS
namespace TS
open PySem PyProof.Rows
local macro_rules | `(tactic| walk_at "sort setMinGallop") => do `(tactic| delta $(Lean.mkIdent (Lean.mkPrivateNameCore `PySem.Builtin.List.W1All `PySem.Builtin.setMinGallop)):ident)
local macro_rules | `(tactic| walk_at "sort mergeLo") => do `(tactic| delta $(Lean.mkIdent (Lean.mkPrivateNameCore `PySem.Builtin.List.W1All `PySem.Builtin.mergeLo)):ident)
section
variable{O:KeyOrd}(key:Keyed->O.α)
variable{key}{la lb o:List Keyed}{ia ib:Nat}{x:Keyed}
end
section
variable{prog:Program}{w:World}{A:Around}{E:Value->Shared->Prop}{s:Shared}{kd:SortKind}{a₀:Array Keyed}{O:KeyOrd}{key:Keyed->O.α}
end
end TS
namespace TS
open PySem PyProof.Rows
local macro_rules | `(tactic| walk_at "sort mergeHi") => do `(tactic| delta $(Lean.mkIdent (Lean.mkPrivateNameCore `PySem.Builtin.List.W1All `PySem.Builtin.mergeHi)):ident)
section
variable{O:KeyOrd}(key:Keyed->O.α)
variable{key}{la lb o:List Keyed}{na nb:Nat}{x:Keyed}
end
section
variable{prog:Program}{w:World}{A:Around}{E:Value->Shared->Prop}{s:Shared}{kd:SortKind}{a₀:Array Keyed}{O:KeyOrd}{key:Keyed->O.α}
end
end TS
namespace TS
open PySem PyProof.Rows
local macro_rules | `(tactic| walk_at "sort mergeAt") => do `(tactic| delta $(Lean.mkIdent (Lean.mkPrivateNameCore `PySem.Builtin.List.W1All `PySem.Builtin.mergeAt)):ident)
section
variable{O:KeyOrd}{key:Keyed->O.α}{la lb m:List Keyed}{k r:Nat}
end
section
variable{prog:Program}{w:World}{A:Around}{E:Value->Shared->Prop}{s:Shared}{kd:SortKind}{a₀:Array Keyed}{O:KeyOrd}{key:Keyed->O.α}
end
end TS
namespace TS
open PySem PyProof.Rows
local macro_rules | `(tactic| walk_at "sort ltAt") => do `(tactic| delta $(Lean.mkIdent (Lean.mkPrivateNameCore `PySem.Builtin.List.W1All `PySem.Builtin.ltAt)):ident)
local macro_rules | `(tactic| walk_at "sort countRun") => do `(tactic| delta $(Lean.mkIdent (Lean.mkPrivateNameCore `PySem.Builtin.List.W1All `PySem.Builtin.countRun)):ident)
local macro_rules | `(tactic| walk_at "sort binarySort") => do `(tactic| delta $(Lean.mkIdent (Lean.mkPrivateNameCore `PySem.Builtin.List.W1All `PySem.Builtin.binarySort)):ident)
section
variable{O:KeyOrd}(key:Keyed->O.α)
variable{key}
end
section
variable{O:KeyOrd}{key:Keyed->O.α}
end
section
variable{prog:Program}{w:World}{A:Around}{E:Value->Shared->Prop}{s:Shared}{kd:SortKind}{a₀:Array Keyed}{O:KeyOrd}{key:Keyed->O.α}
end
end TS
namespace TS
open PySem PyProof.Rows
local macro_rules | `(tactic| walk_at "sort sortRuns") => do `(tactic| delta $(Lean.mkIdent (Lean.mkPrivateNameCore `PySem.Builtin.List.W1All `PySem.Builtin.sortRuns)):ident)
section
variable{O:KeyOrd}{key:Keyed->O.α}
end
section
variable{prog:Program}{w:World}{A:Around}{E:Value->Shared->Prop}{s:Shared}{kd:SortKind}{a₀:Array Keyed}{O:KeyOrd}{key:Keyed->O.α}
end
end TS
namespace TS
open PySem PyProof.Rows
open HT (lexLt)
open PySem.W (KatLex kat_nil kat_cons kat_yes kat_no kat_one kat_lt)
section
variable{prog:Program}{w:World}{A:Around}{s:Shared}
end
end TS
namespace TS
open PySem PyProof.Rows
open L2 (V Vals RelV)
section
variable{α β γ δ : Type}{R : α->β->Prop}
end
section
variable{prog:Program}{w:World}{A:Around}{E:Value->Shared->Prop}{s:Shared}
end
end TS
namespace L2
open PySem PySem.Spec PyProof.Rows TS
section
variable{X:Cx}{A:Around}{E:Value->Shared->Prop}{pins:List (Addr×Obj)}{σ : St}{q kS D:Addr}{oD oq:Obj}{sp:V->Hp->VK->Prop}{H₁:Hp}{F:List V->Hp->Prop}
end
end L2
namespace L2
open PySem PySem.Spec PyProof.Rows TS
section
variable{X:Cx}{k j:Nat}{C:Addr}{ps:List Str}{sp:Sp}{dvs:List V}{ds:List Value}{m:Str}{p pos apos kpos rpos cpos:Pos}{e o:Expr}{te ta:TE}
end
end L2
namespace LC
open PySem PyProof.Rows PySem.MeetsSeq3
end LC
namespace L2
open PySem PySem.Spec PyProof.Rows
variable{X:Cx}
end L2
namespace LC
open PySem PyProof.Rows TS
section
variable{prog:Program}{w:World}{A:Around}{s:Shared}
end
end LC
namespace LC
open PySem PyProof.Rows TS
open L2 (V Vals RelV)
section
variable{prog:Program}{w:World}{A:Around}{E:Value->Shared->Prop}{s:Shared}
end
end LC
namespace L2
open PySem PySem.Spec PyProof.Rows TS LC
section
variable{X:Cx}{j:Nat}{p pos rpos cpos:Pos}{e:Expr}{te:TE}
end
end L2
set_option Elab.async false
set_option linter.all false
set_option maxRecDepth 100000
namespace L2
open PySem PySem.Spec PyProof.Rows
section
variable{X:Cx}
end
end L2
namespace L2
open PySem PySem.Spec PyProof.Rows
theorem zqi{J:It}{H1:Hp}{n:Nat}{P:Nat->V->Hp->Prop}{g:TG}{tc:TT}{te:TE}{Q:VK}{σ0:St}{D:Addr}(S:Walk J H1 n P)(hD:H1 D=none)(hn:n<=sizeLine)(Sv:St->Prop)(p:Nat->Bool)(F:Nat->V->Hp->Prop)
  (monoS:∀i v H H',Same H H'->F i v H->F i v H') (monoU:∀i v H ys ys',H D=some (.lst ys)->F i v H->F i v (upd H D (.lst ys'))) (h0:Sv σ0)
  (step:∀i x σ' H2,i < n->Sv σ'->Same H1 H2->P i x H2->(∃ys,H2 D=some (.lst ys))->∀(Ny:V->St->Hp->Prop) (Nn:St->Hp->Prop),(∀v σ2 H5,Sv σ2->Same H2 H5->F i v H5->p i=true->Ny v σ2 H5)->(∀σ2 H4,Sv σ2->Same H2 H4->p i=false->Nn σ2 H4) ->
   g x σ' H2 λσ2 H3=>tc σ2 H3 λb H4=>if b=true then te σ2 H4 λv H5=>Ny v σ2 H5 else Nn σ2 H4)
  (hQ:∀H' ys,Same H1 H'->H' D=some (.lst ys)->Paired (λi v=>F i v H') ((List.range n).filter p) ys->Q (.ref D) H') :
  ∃W:Nat->Nat->List V->St->Hp->Prop,(∃m,W 0 m [] σ0 (upd H1 D (.lst [])))/\∀i m ys σ' H',W i m ys σ' H'->H' D=some (.lst ys) /\
  ((J.stop i H'/\Q (.ref D) H')\/(J.go i H'/\ys.length < sizeLine/\∀x H2,J.yld i H' x H2->g x σ' H2 λσ2 H3=>tc σ2 H3 λb H4=>
   if b=true then te σ2 H4 λv H5=>H5 D=some (.lst ys)/\∃m',m' < m/\W (i + 1) m' (ys ++ [v]) σ2 (upd H5 D (.lst (ys ++ [v])))
   else ∃m',m' < m/\W (i + 1) m' ys σ2 H4)):=by
 refine⟨λi m ys σ' H'=>m=n - i/\i<=n/\Sv σ'/\Same H1 H'/\H' D=some (.lst ys)/\Paired (λj v=>F j v H') ((List.range i).filter p) ys,⟨n,rfl,Nat.zero_le _,h0,Same.upd hD,zaf,.nil⟩,?_⟩
 rintro i m ys σ' H' ⟨rfl,hi,hs,hS,hL,hF⟩
 refine⟨hL,?_⟩
 have rs:(List.range (i + 1)).filter p=(List.range i).filter p ++ (if p i=true then [i] else []):=by
  rw[List.range_succ,List.filter_append]
  cases q:p i <;> simp[q]
 by_cases hlt:i < n
 ·refine .inr ⟨S.go i H' hS hlt,?_,λx H2 y => ?_⟩
  ·have l1:=hF.length
   have l2:((List.range i).filter p).length<=(List.range i).length:=List.length_filter_le _ _
   rw[List.length_range]at l2
   omega
  ·obtain⟨e2,hP⟩:=S.yld i H' x H2 hS hlt y
   refine step i x σ' H2 hlt hs (hS.trans e2) hP ⟨ys,e2 _ _ hL⟩ _ _ (λv σ2 H5 s2 e5 f5 hp => ?_) λσ2 H4 s2 e4 hp => ?_
   ·have l5:H5 D=some (.lst ys):=e5 _ _ (e2 _ _ hL)
    refine⟨l5,n - (i + 1),by omega,rfl,hlt,s2,((hS.trans e2).trans e5).updR hD,zaf,?_⟩
    rw[rs,if_pos hp]
    refine Paired.snoc (Paired.imp' (λj w q => ?_) hF) (monoU i v H5 ys _ l5 f5)
    exact monoU j w H5 ys _ l5 (monoS j w H' H5 (e2.trans e5) q)
   ·refine⟨n - (i + 1),by omega,rfl,hlt,s2,(hS.trans e2).trans e4,e4 _ _ (e2 _ _ hL),?_⟩
    rw[rs,if_neg (by rw[hp];decide),List.append_nil]
    exact Paired.imp' (λj w q=>monoS j w H' H4 (e2.trans e4) q) hF
 ·have e:i=n:=by omega
  subst e
  exact .inl ⟨S.stop H' hS,hQ H' ys hS hL hF⟩
end L2
set_option Elab.async false
set_option linter.all false
set_option maxRecDepth 100000
namespace L2
open PySem PySem.Spec PyProof.Rows
section
variable{κ : Type}[DecidableEq κ]
def valV(kvs:List (κ×V))(k : κ):Option V:=(kvs.find? λkv=>decide (kv.1=k)).map (·.2)
def putK(kvs:List (κ×V))(k : κ)(v:V):List (κ×V):=
 if (kvs.any λkv=>decide (kv.1=k))=true then kvs.map (λkv=>if kv.1=k then(kv.1,v) else kv) else kvs ++ [(k,v)]
def dropK(kvs:List (κ×V))(k : κ):List (κ×V):=kvs.filter λkv=>decide (kv.1≠k)
theorem zpd{k : κ}:valV ([]:List (κ×V)) k=none:=rfl
theorem zcf{p : κ×V}{r:List (κ×V)}{k : κ}(e:p.1=k):valV (p :: r) k=some p.2:=by simp[valV,List.find?_cons,e]
theorem zb0{p : κ×V}{r:List (κ×V)}{k : κ}(e:¬p.1=k):valV (p :: r) k=valV r k:=by simp[valV,List.find?_cons,e]
theorem zeg(k : κ):∀kvs:List (κ×V),(kvs.any λkv=>decide (kv.1=k))=(valV kvs k).isSome
 | []=>rfl
 | p :: r=>by
  rw[List.any_cons]
  by_cases e:p.1=k
  ·simp only[zcf e,decide_eq_true e,Bool.true_or,Option.isSome_some]
  ·rw[zb0 e,decide_eq_false e,Bool.false_or];exact zeg k r
theorem zk8(k j : κ)(y:V):∀kvs:List (κ×V),valV (kvs.map λkv=>if kv.1=k then(kv.1,y) else kv) j=(valV kvs j).map λx=>if j=k then y else x
 | []=>rfl
 | p :: r=>by
  have ih:=zk8 k j y r
  rw[List.map_cons]
  by_cases h:p.1=k
  ·rw[if_pos h]
   by_cases e:p.1=j
   ·rw[zcf (p:=(p.1,y)) e,zcf e,Option.map_some,if_pos (e.symm.trans h)]
   ·rw[zb0 (p:=(p.1,y)) e,zb0 e,ih]
  ·rw[if_neg h]
   by_cases e:p.1=j
   ·rw[zcf (p:=p) e,zcf e,Option.map_some,if_neg (λz=>h (e.trans z))]
   ·rw[zb0 (p:=p) e,zb0 e,ih]
theorem ziv(k j : κ)(y:V):∀kvs:List (κ×V),valV kvs k=none->valV (kvs ++ [(k,y)]) j=if j=k then some y else valV kvs j
 | [],_=>by
  by_cases e:k=j
  ·rw[if_pos e.symm];exact zcf (p:=(k,y)) e
  ·rw[if_neg (λz=>e z.symm)];exact zb0 (p:=(k,y)) e
 | p :: r,hn=>by
  rw[List.cons_append]
  have hk:¬p.1=k:=λz=>by rw[zcf z]at hn;cases hn
  rw[zb0 hk]at hn
  have ih:=ziv k j y r hn
  by_cases e:p.1=j
  ·rw[zcf e,zcf e,if_neg (λz=>hk (e.trans z))]
  ·rw[zb0 e,zb0 e,ih]
theorem zks(kvs:List (κ×V))(k j : κ)(y:V):valV (putK kvs k y) j=if j=k then some y else valV kvs j:=by
 unfold putK
 by_cases a:(kvs.any λkv=>decide (kv.1=k))=true
 ·rw[if_pos a,zk8]
  rw[zeg]at a
  by_cases e:j=k
  ·obtain⟨x,hx⟩:=Option.isSome_iff_exists.mp a
   rw[if_pos e,e,hx,Option.map_some,if_pos rfl]
  ·rw[if_neg e]
   cases valV kvs j with
   | none=>rfl
   | some x=>rw[Option.map_some,if_neg e]
 ·rw[if_neg a]
  refine ziv k j y kvs ?_
  rw[zeg]at a
  cases q:valV kvs k with
  | none=>rfl
  | some x=>rw[q]at a;exact(a rfl).elim
theorem zdh(kvs:List (κ×V))(k : κ)(v:V):(putK kvs k v).length<=kvs.length + 1:=by
 unfold putK
 split
 ·rw[List.length_map];omega
 ·rw[List.length_append,List.length_cons,List.length_nil];omega
theorem zqk{kvs:List (κ×V)}{k : κ}(v:V)(h:valV kvs k=none):putK kvs k v=kvs ++ [(k,v)]:=by
 unfold putK
 rw[zeg,h]
 exact if_neg (by decide)
theorem RelO.isSome_eq{o:Option V}{u:Option Value}(r:RelO o u):o.isSome=u.isSome:=by
 cases o with
 | none=>cases u with
  | none=>rfl
  | some _=>exact(show False from r).elim
 | some _=>cases u with
  | none=>exact(show False from r).elim
  | some _=>rfl
theorem KV.val{kvs:List (κ×V)}{vs:List (κ×Value)}(r:KV kvs vs)(k : κ):RelO (valV kvs k) (valueAt vs k):=by
 unfold KV at r
 induction r with
 | nil=>exact True.intro
 | @cons p q ps qs h t ih=>
  obtain⟨h1,h2⟩:=h
  by_cases e:p.1=k
  ·have e':q.1=k:=h1.symm.trans e
   have b:valueAt (q :: qs) k=some q.2:=by simp[valueAt,List.find?_cons,e']
   rw[zcf e,b];exact h2
  ·have e':¬q.1=k:=λz=>e (h1.trans z)
   have b:valueAt (q :: qs) k=valueAt qs k:=by simp[valueAt,List.find?_cons,e']
   rw[zb0 e,b];exact ih
theorem KV.any{kvs:List (κ×V)}{vs:List (κ×Value)}(r:KV kvs vs)(k : κ):(kvs.any λkv=>decide (kv.1=k))=vs.any λkv=>decide (kv.1=k):=by
 unfold KV at r
 induction r with
 | nil=>rfl
 | cons h t ih=>rw[List.any_cons,List.any_cons,ih,h.1]
theorem KV.repl{kvs:List (κ×V)}{vs:List (κ×Value)}(r:KV kvs vs)(k : κ){y:V}{u:Value}(ry:RelV y u) :
  KV (kvs.map λkv=>if kv.1=k then(kv.1,y) else kv) (vs.map λkv=>if kv.1=k then(kv.1,u) else kv):=by
 unfold KV at r ⊢
 induction r with
 | nil=>exact .nil
 | @cons p q ps qs h t ih=>
  rw[List.map_cons,List.map_cons]
  refine .cons ?_ ih
  obtain⟨h1,h2⟩:=h
  by_cases e:p.1=k
  ·rw[if_pos e,if_pos (h1.symm.trans e)];exact⟨h1,ry⟩
  ·rw[if_neg e,if_neg (λz=>e (h1.trans z))];exact⟨h1,h2⟩
theorem KV.put{kvs:List (κ×V)}{vs:List (κ×Value)}(r:KV kvs vs)(k : κ){y:V}{u:Value}(ry:RelV y u):KV (putK kvs k y) (stored vs k u):=by
 unfold putK stored
 rw[r.any k]
 by_cases e:(vs.any λkv=>decide (kv.1=k))=true
 ·rw[if_pos e,if_pos e];exact r.repl k ry
 ·rw[if_neg e,if_neg e];exact Paired.snoc r ⟨rfl,ry⟩
theorem KV.length{kvs:List (κ×V)}{vs:List (κ×Value)}(r:KV kvs vs):kvs.length=vs.length:=Paired.length r
theorem zic(kvs:List (κ×V))(k : κ):(dropK kvs k).length<=kvs.length:=List.length_filter_le _ _
end
theorem zne{P:Program}{w:World}{k:Key}{u:Value}(r:RelV (kV k) u):(mixKind P w).is k u=true:=by
 cases k with
 | inl i=>obtain⟨t,e⟩:=(show ∃t,u=Value.int i t from r);subst e;exact zj5 P w i t
 | inr x=>obtain⟨t,e⟩:=(show ∃t,u=Value.str x t from r);subst e;exact zjs P w x t
theorem zi5{P:Program}{w:World}:∀{ks:List Key} {us:List Value},Vals (ks.map kV) us->ItemsAre (mixKind P w) ks us
 | [],_,r=>by rw[List.map_nil]at r;cases r;exact .nil
 | k :: ks,_,r=>by
  rw[List.map_cons]at r
  cases r with
  | cons h t=>exact .cons (zne h) (zi5 t)
abbrev KT(H:Hp):List (List Key×V)->List (List Key×Addr×Value)->Prop:=Paired λp q=>p.1=q.1/\H q.2.1=some (.tup (p.1.map kV))/\RelV p.2 q.2.2
theorem KT.val{H:Hp}{kvs:List (List Key×V)}{xs:List (List Key×Addr×Value)}(r:KT H kvs xs)(k:List Key):RelO (valV kvs k) ((atKey xs k).map (·.2)):=by
 induction r with
 | nil=>exact True.intro
 | @cons p q ps qs h t ih=>
  obtain⟨h1,_,h2⟩:=h
  by_cases e:p.1=k
  ·have e':q.1=k:=h1.symm.trans e
   have b:atKey (q :: qs) k=some q.2:=by simp[atKey,List.find?_cons,e']
   rw[zcf e,b];exact h2
  ·have e':¬q.1=k:=λz=>e (h1.trans z)
   have b:atKey (q :: qs) k=atKey qs k:=by simp[atKey,List.find?_cons,e']
   rw[zb0 e,b];exact ih
theorem KT.repl{H:Hp}{kvs:List (List Key×V)}{xs:List (List Key×Addr×Value)}(r:KT H kvs xs)(k:List Key){y:V}{u:Value}(ry:RelV y u) :
  KT H (kvs.map λkv=>if kv.1=k then(kv.1,y) else kv) (xs.map (putAt k u)):=by
 induction r with
 | nil=>exact .nil
 | @cons p q ps qs h t ih=>
  rw[List.map_cons,List.map_cons]
  refine .cons ?_ ih
  obtain⟨h1,h2,h3⟩:=h
  unfold putAt
  by_cases e:p.1=k
  ·rw[if_pos e,if_pos (h1.symm.trans e)];exact⟨h1,h2,ry⟩
  ·rw[if_neg e,if_neg (λz=>e (h1.trans z))];exact⟨h1,h2,h3⟩
theorem KT.put{H:Hp}{kvs:List (List Key×V)}{xs:List (List Key×Addr×Value)}(r:KT H kvs xs)(k:List Key){b:Addr}{y:V}{u:Value}(hb:H b=some (.tup (k.map kV)))(ry:RelV y u) :
  KT H (putK kvs k y) (storedH xs k b u):=by
 have e:(kvs.any λkv=>decide (kv.1=k))=(atKey xs k).isSome:=by
  rw[zeg,(r.val k).isSome_eq,Option.isSome_map]
 unfold putK storedH
 rw[e]
 by_cases q:(atKey xs k).isSome=true
 ·rw[if_pos q,if_pos q];exact r.repl k ry
 ·rw[if_neg q,if_neg q];exact Paired.snoc r ⟨rfl,hb,ry⟩
theorem KT.keeps{H H':Hp}{kvs:List (List Key×V)}{xs:List (List Key×Addr×Value)}(r:KT H kvs xs)(ht:∀b ys,H b=some (.tup ys)->H' b=some (.tup ys)):KT H' kvs xs:=
 Paired.mapP r λ_ _ z=>⟨z.1,ht _ _ z.2.1,z.2.2⟩
section
variable{P:Program}{w:World}{H:Hp}{h:Heap}{a:Addr}
theorem zui{u:HO}(ok:HOk P w H h)(e:Rd H a u):ObjOk P w H h a u:=e.ok ok
theorem zob{kvs:List (Key×V)}(ok:HOk P w H h)(e:Rd H a (.dK kvs)):kvs.length<=sizeLine/\(a == sysModules)=false/\∃vs,KV kvs vs/\h.DictOf (mixKind P w) a vs:=
 show ObjOk P w H h a (.dK kvs) from zui ok e
theorem zvz{kvs:List (Key×V)}(ok:HOk P w H h)(e:H a=some (.dK kvs)):kvs.length<=sizeLine/\(a == sysModules)=false/\∃vs,KV kvs vs/\h.DictOf (mixKind P w) a vs:=zob ok (.inl e)
theorem zhl{ks:List Key}(ok:HOk P w H h)(e:H a=some (.tup (ks.map kV))):(tupleKind (mixKind P w)).is h ks a:=by
 obtain⟨_,its,r,o,h1,h2,n,h3⟩:=(show ObjOk P w H h a (.tup (ks.map kV)) from ok a _ e)
 exact⟨o,its.toArray,n,h1,h2,h3,by simpa using zi5 r⟩
theorem zfw{kvs:List (List Key×V)}(ok:HOk P w H h)(e:Rd H a (.dT kvs)):kvs.length<=sizeLine/\(a == sysModules)=false /\
  ∃xs,KT H kvs xs/\h.DictOfH (tupleKind (mixKind P w)) a xs:=by
 obtain⟨z,y,xs,r,o,es,ep,h1,h2,h3,h4,h5⟩:=(show ObjOk P w H h a (.dT kvs) from zui ok e)
 refine⟨z,y,xs,r,o,es,ep,h1,h2,h3,h4,λx hx => ?_,h5⟩
 have all:∀{l:List (List Key×V)} {m:List (List Key×Addr×Value)},KT H l m->∀x∈m,(tupleKind (mixKind P w)).is h x.1 x.2.1:=by
  intro l m q
  induction q with
  | nil=>intro x hx;exact nomatch hx
  | @cons p q ps qs hq t ih=>
   intro x hx
   rcases List.mem_cons.mp hx with e | hx
   ·subst e
    exact zhl ok (by rw[<- hq.1];exact hq.2.1)
   ·exact ih x hx
 exact all r x hx
theorem zpp{kvs:List (List Key×V)}(ok:HOk P w H h)(e:H a=some (.dT kvs)):kvs.length<=sizeLine/\(a == sysModules)=false /\
  ∃xs,KT H kvs xs/\h.DictOfH (tupleKind (mixKind P w)) a xs:=zfw ok (.inl e)
end
def DGet(H:Hp)(a:Addr)(y:V)(r:Option V):Prop:=
 (∃kvs k,Rd H a (.dK kvs)/\y=kV k/\r=valV kvs k)\/∃kvs k b,Rd H a (.dT kvs)/\y = .ref b/\H b=some (.tup (k.map kV))/\r=valV kvs k
def DPut(H:Hp)(a:Addr)(y v:V)(H':Hp):Prop:=
 (∃kvs k,H a=some (.dK kvs)/\y=kV k/\kvs.length < sizeLine/\H'=upd H a (.dK (putK kvs k v))) \/
 ∃kvs k b,H a=some (.dT kvs)/\y = .ref b/\H b=some (.tup (k.map kV))/\kvs.length < sizeLine/\H'=upd H a (.dT (putK kvs k v))
theorem DGet.t{H:Hp}{a b:Addr}{kvs:List (List Key×V)}{k:List Key}(e:H a=some (.dT kvs))(eb:H b=some (.tup (k.map kV))):DGet H a (.ref b) (valV kvs k) := .inr ⟨kvs,k,b,.inl e,rfl,eb,rfl⟩
theorem DPut.t{H:Hp}{a b:Addr}{kvs:List (List Key×V)}{k:List Key}{v:V}(e:H a=some (.dT kvs))(eb:H b=some (.tup (k.map kV)))(hl:kvs.length < sizeLine) :
  DPut H a (.ref b) v (upd H a (.dT (putK kvs k v))) := .inr ⟨kvs,k,b,e,rfl,eb,hl,rfl⟩
section
variable{X:Cx}{pins:List (Addr×Obj)}{σ : St}{H:Hp}{s:Shared}{a:Addr}{y v:V}{u r:Value}{o:Option V}{A:Around}{E:Value->Shared->Prop}
theorem Inv.big(I:Inv X pins σ H s):sysModules < s.heap.objs.size:=by
 have h:mainGlobals < s.heap.objs.size:=(I.mod.glob.keeps I.bk).lt
 exact Nat.lt_trans (by decide) h
theorem zmb{Q:Value->Shared->Prop}(hu:A.units + 1 < cLine)(I:Inv X pins σ H s)(g:DGet H a y (some v))(ry:RelV y u)(h:∀w' s',Inv X pins σ H s'->RelV v w'->Q w' s') :
  wpAny (model X.prog X.w) A (getItem (.ref a) u) Q E s:=by
 rcases g with⟨kvs,k,e,ey,l⟩ | ⟨kvs,k,b,e,ey,eb,l⟩
 ·subst ey
  obtain⟨z,hd,vs,rel,dd⟩:=zob I.hok e
  obtain⟨w',hw,rw'⟩:=RelO.some_of (v:=v) (o:=valueAt vs k) (by rw[l];exact rel.val k)
  exact wpAny_getItem_of (zne ry) dd.mapOf hw (h w' _ (I.tok _) rw')
 ·subst ey
  cases (show u=Value.ref b from ry)
  obtain⟨z,hd,xs,rel,dd⟩:=zfw I.hok e
  obtain⟨w',hw,rw'⟩:=RelO.some_of (v:=v) (o:=(atKey xs k).map (·.2)) (by rw[l];exact rel.val k)
  obtain⟨p,hp,hp2⟩:=Option.map_eq_some_iff.mp hw
  refine wpAny_getItem_heap (tupleKind_room_in1 hu) (zhl I.hok eb) dd hp ?_
  rw[hp2]
  exact h w' _ (I.tok _) rw'
theorem d_in{Q:Value->Shared->Prop}(hu:A.units + 1 < cLine)(I:Inv X pins σ H s)(g:DGet H a y o)(ry:RelV y u)(h:∀s',Inv X pins σ H s'->Q (.bool o.isSome) s') :
  wpAny (model X.prog X.w) A (compareOp .In u (.ref a)) Q E s:=by
 rcases g with⟨kvs,k,e,ey,l⟩ | ⟨kvs,k,b,e,ey,eb,l⟩
 ·subst ey
  obtain⟨z,hd,vs,rel,dd⟩:=zob I.hok e
  refine wpAny_in_of (zne ry) hd dd.mapOf ?_
  rw[<- (rel.val k).isSome_eq,<- l]
  exact h _ (I.tok _)
 ·subst ey
  cases (show u=Value.ref b from ry)
  obtain⟨z,hd,xs,rel,dd⟩:=zfw I.hok e
  refine wpAny_in_heap (tupleKind_room_in1 hu) (zhl I.hok eb) hd dd ?_
  have q:=(rel.val k).isSome_eq
  rw[Option.isSome_map]at q
  rw[<- q,<- l]
  exact h _ (I.tok _)
theorem zsn{Q:Value->Shared->Prop}(hu:A.units + 1 < cLine)(I:Inv X pins σ H s)(g:DGet H a y o)(ry:RelV y u)(h:∀s',Inv X pins σ H s'->Q (.bool (!o.isSome)) s') :
  wpAny (model X.prog X.w) A (compareOp .NotIn u (.ref a)) Q E s:=by
 rcases g with⟨kvs,k,e,ey,l⟩ | ⟨kvs,k,b,e,ey,eb,l⟩
 ·subst ey
  obtain⟨z,hd,vs,rel,dd⟩:=zob I.hok e
  refine wpAny_notIn_of (zne ry) hd dd.mapOf ?_
  rw[<- (rel.val k).isSome_eq,<- l]
  exact h _ (I.tok _)
 ·subst ey
  cases (show u=Value.ref b from ry)
  obtain⟨z,hd,xs,rel,dd⟩:=zfw I.hok e
  refine wpAny_notIn_heap (tupleKind_room_in1 hu) (zhl I.hok eb) hd dd ?_
  have q:=(rel.val k).isSome_eq
  rw[Option.isSome_map]at q
  rw[<- q,<- l]
  exact h _ (I.tok _)
theorem zih{h':Heap}{t':Nat}{ob:HO}(I:Inv X pins σ H s)(mu:Mut (H a))(hs:Heap.SameBut a s.heap h')(he:∃q,h'.get? a=some q)(new:ObjOk X.prog X.w (upd H a ob) h' a ob) :
  Inv X pins σ (upd H a ob) { s with heap:=h',toks:=t' }:=
 I.write (x:=a) (e:=a) mu (.inl rfl) (λb q hb z=>(hs.2 b hb).trans z) he new
theorem zvj{P:Program}{w:World}{H':Hp}{h':Heap}{kvs:List (Key×V)}{vs:List (Key×Value)}(z:kvs.length<=sizeLine)(hd:(a == sysModules)=false)(rel:KV kvs vs)(dd:h'.DictOf (mixKind P w) a vs) :
  ObjOk P w H' h' a (.dK kvs):=⟨z,hd,vs,rel,dd⟩
theorem zm9{H':Hp}{Q:Unit->Shared->Prop}(hu:A.units + 1 < cLine)(I:Inv X pins σ H s)(g:DPut H a y v H')(ry:RelV y u)(rv:RelV v r)(h:∀s',Inv X pins σ H' s'->Q () s') :
  wpAny (model X.prog X.w) A (setItem (.ref a) u r) Q E s:=by
 rcases g with⟨kvs,k,e,ey,l,eH⟩ | ⟨kvs,k,b,e,ey,eb,l,eH⟩
 ·subst ey eH
  obtain⟨z,hd,vs,rel,dd⟩:=zvz I.hok e
  have hz:vs.length<=sizeLine:=by rw[<- rel.length];exact z
  have hl:(putK kvs k v).length<=sizeLine:=by have:=zdh kvs k v;omega
  refine wpAny_setItem_pairs (hsz:=hz) (zne ry) dd λh' dd' hs=>h _ ?_
  have he:∃q,h'.get? a=some q:=let ⟨q,_,_,hq,_⟩:=dd';⟨q,hq⟩
  exact zih I (by rw[e];exact True.intro) hs he (zvj hl hd (rel.put k rv) dd')
 ·subst ey eH
  cases (show u=Value.ref b from ry)
  obtain⟨z,hd,xs,rel,dd⟩:=zpp I.hok e
  have hz:xs.length<=sizeLine:=by rw[<- Paired.length rel];exact z
  have hl:(putK kvs k v).length<=sizeLine:=by have:=zdh kvs k v;omega
  refine wpAny_setItem_heap (hsz:=hz) (tupleKind_room_in1 hu) (zhl I.hok eb) dd λh' dd' hs=>h _ ?_
  obtain⟨q,es,ep,hq,h2,h3,h4,_,h5⟩:=dd'
  refine zih I (by rw[e];exact True.intro) hs ⟨q,hq⟩ ⟨hl,hd,_,(rel.put k eb rv).keeps λc ys ec => ?_,q,es,ep,hq,h2,h3,h4,h5⟩
  rw[zao (zdk ec e (λz=>nomatch z))]
  exact ec
end
section
variable{X:Cx}{pins:List (Addr×Obj)}{σ : St}{H:Hp}{s:Shared}{a:Addr}{kvs:List (Key×V)}{k:Key}{u:Value}{A:Around}{E:Value->Shared->Prop}
end
def NoSl(i:Expr):Prop:=∀ov iv,subscripted i false ov iv=operate [ov,iv] (getItem ov iv)
theorem zsm{prog:Program}{w:World}{A:Around}{E:Value->Shared->Prop}{s:Shared}{env:Env}{value slice:Expr}{pos:Pos}{T id:String}{Q:Value->Shared->Prop}
  (hl:typeLookup (.type T) "__getitem__" = pure (some (.builtin id))) (hs:NoSl slice)
  (h:wpAny (model prog w) A (eval value env) (λo s₁=>wpAny (model prog w) A (eval slice env) (λi s₂=>s₂.TypeIs o T/\wpAny (model prog w) A (getItem o i) Q E s₂) E s₁) E s) :
  wpAny (model prog w) A (eval (.Subscript value slice pos) env) Q E s:=by
 refine Subscript_ (wpAny_mono h (λo s₁ h₁=>wpAny_mono h₁ (λi s₂ h₂ => ?_) λ_ _ x=>x) λ_ _ x=>x)
 obtain⟨hT,h₂⟩:=h₂
 unfold subscriptTail
 refine wpAny_bind ?_
 rw[getitemInPython_of_ne hT.not_modules]
 refine wpAny_bind (wpAny_specialOf hT hl ?_)
 have fin:wpAny (model prog w) A (subscripted slice false o i) (λr s₃=>wpAny (model prog w) A (letTemporaryGo value o r >>= λ_=>pure r) Q E s₃) E s₂:=by
  rw[hs o i]
  exact wpAny_operating (wpAny_mono h₂ (λr s₃ h₃=>wpAny_bind (wpAny_letTemporaryGo (wpAny_pure h₃))) λ_ _ x=>x)
 first
  | exact wpAny_pure (wpAny_bind fin)
  | exact wpAny_bind (wpAny_pure (wpAny_bind fin))
  | exact wpAny_bind fin
theorem zj3{X:Cx}{pins:List (Addr×Obj)}{σ : St}{H:Hp}{s:Shared}{a:Addr}{y:V}{o:Option V}(I:Inv X pins σ H s)(g:DGet H a y o):s.TypeIs (.ref a) "dict":=by
 rcases g with⟨kvs,k,e,_,_⟩ | ⟨kvs,k,b,e,_,_,_⟩
 ·obtain⟨_,_,vs,_,dd⟩:=zob I.hok e
  exact dd.typeIs
 ·obtain⟨_,_,xs,_,dd⟩:=zfw I.hok e
  exact dd.typeIs
def tDGet(td ty:TE):TE:=λσ H Q=>td σ H λx H1=>ty σ H1 λy H2=>∃a v,x = .ref a/\DGet H2 a y (some v)/\Q v H2
def tDIn(ty td:TE):TE:=λσ H Q=>ty σ H λy H1=>td σ H1 λx H2=>∃a o,x = .ref a/\DGet H2 a y o/\Q (.bl o.isSome) H2
def tDNotIn(ty td:TE):TE:=λσ H Q=>ty σ H λy H1=>td σ H1 λx H2=>∃a o,x = .ref a/\DGet H2 a y o/\Q (.bl (!o.isSome)) H2
def sDPut(td ty tv:TE):TS:=λD σ H=>tv σ H λv H1=>td σ H1 λx H2=>ty σ H2 λy H3=>∃a H4,x = .ref a/\DPut H3 a y v H4/\D.nx σ H4
section
variable{X:Cx}{o i e value:Expr}{pos pos' tpos:Pos}{td ty tv:TE}
theorem zig(hu:X.A.units + 1 < cLine)(ho:PE X o td)(hi:PE X i ty)(hs:NoSl i):PE X (.Subscript o i pos) (tDGet td ty):=by
 intro pins s σ H Q I h
 refine zsm PySem.F.slot_dict_getitem.lookup hs (thn (ho pins s σ H _ I h) λu s1 ⟨x,H1,I1,rx,q1⟩=>thn (hi pins s1 σ H1 _ I1 q1) λiv s2 ⟨y,H2,I2,ry,a,v,ex,g,q2⟩ => ?_)
 subst ex
 obtain rfl:u=Value.ref a:=rx
 exact⟨zj3 I2 g,zmb hu I2 g ry λw' s3 I3 rw'=>⟨v,H2,I3,rw',q2⟩⟩
theorem znv(hu:X.A.units + 1 < cLine)(hi:PE X i ty)(ho:PE X o td):PC X .In i o (tDIn ty td):=by
 intro pins s σ H Q I h
 refine thn (hi pins s σ H _ I h) λiv s1 ⟨y,H1,I1,ry,q1⟩=>thn (ho pins s1 σ H1 _ I1 q1) λu s2 ⟨x,H2,I2,rx,a,ov,ex,g,q2⟩ => ?_
 subst ex
 obtain rfl:u=Value.ref a:=rx
 exact d_in hu I2 g ry λs3 I3=>⟨.bl ov.isSome,H2,I3,rfl,q2⟩
theorem zog(hu:X.A.units + 1 < cLine)(hi:PE X i ty)(ho:PE X o td):PC X .NotIn i o (tDNotIn ty td):=by
 intro pins s σ H Q I h
 refine thn (hi pins s σ H _ I h) λiv s1 ⟨y,H1,I1,ry,q1⟩=>thn (ho pins s1 σ H1 _ I1 q1) λu s2 ⟨x,H2,I2,rx,a,ov,ex,g,q2⟩ => ?_
 subst ex
 obtain rfl:u=Value.ref a:=rx
 exact zsn hu I2 g ry λs3 I3=>⟨.bl (!ov.isSome),H2,I3,rfl,q2⟩
theorem zfc(hu:X.A.units + 1 < cLine)(ho:PE X o td)(hi:PE X i ty)(hv:PE X value tv)(hs:swapsWith value (some (.Subscript o i pos')) pos.line X.env=pure false) :
  PS X (.Assign [.Subscript o i pos'] value pos) (sDPut td ty tv):=by
 intro pins s σ H D I h
 refine wpAny_Assign_Subscript (thn (hv pins s σ H _ I h) λr s1 ⟨v,H1,I1,rv,q1⟩=>thn (ho pins s1 σ H1 _ I1 q1) λu s2 ⟨x,H2,I2,rx,q2⟩=>thn (hi pins s2 σ H2 _ I2 q2) λiv s3 ⟨y,H3,I3,ry,a,H4,ex,g,q3⟩ => ?_) hs
 subst ex
 obtain rfl:u=Value.ref a:=rx
 exact zm9 hu I3 g ry rv λs4 I4=>⟨σ,H4,I4,q3⟩
end
theorem zo5{P:Program}{w:World}{H:Hp}(h:Heap)(hb:sysModules < h.objs.size):ObjOk P w H (h.push { cls := .type "dict",data := .dict #[] }) h.objs.size (.dT []):=
 ⟨Nat.zero_le _,beq_eq_false_iff_ne.mpr (Ne.symm (Nat.ne_of_lt hb)),[],.nil,_,#[],0,Heap.get?_push_size _ rfl,⟨rfl,rfl,rfl⟩,rfl,rfl,List.nodup_nil⟩
def tDNewT:TE:=λ_ H Q=>∀p,H p=none->Q (.ref p) (upd H p (.dT []))
section
variable{X:Cx}{pos:Pos}
theorem zc5:PE X (.Dict [] [] pos) tDNewT:=λpins s σ H Q I h=>
 wpAny_Dict_empty ⟨.ref s.heap.objs.size,_,I.laid (a:=s.heap.objs.size) (o := .dT []) (t':=s.toks) (λ_ _ q=>Heap.get?_push_of_some _ q) (Nat.le_refl _) (zo5 s.heap I.big),rfl,h _ (I.hok.fresh (Nat.le_refl _))⟩
end
section
variable{X:Cx}{pins:List (Addr×Obj)}{σ : St}{H:Hp}{s:Shared}{a:Addr}{y d:V}{u r:Value}{o:Option V}{A:Around}{E:Value->Shared->Prop}
end
section
variable{X:Cx}{o e f:Expr}{apos cpos:Pos}{td ty tx:TE}
end
section
variable{X:Cx}{pins:List (Addr×Obj)}{σ : St}{H:Hp}{s:Shared}{a:Addr}{kvs:List (Key×V)}{A:Around}{E:Value->Shared->Prop}
end
section
variable{X:Cx}{pins:List (Addr×Obj)}{σ : St}{H:Hp}{s:Shared}{a:Addr}{y:V}{u:Value}{A:Around}{E:Value->Shared->Prop}
end
end L2
namespace L2
open PySem PySem.Spec PyProof.Rows
section
variable{X:Cx}{pins:List (Addr×Obj)}{σ : St}{H:Hp}{s:Shared}{d:Addr}{o:Obj}{u v:HO}
theorem Inv.swap(I:Inv X pins σ H s)(e:H d=some u)(nt:∀xs,u≠.tup xs)(no:∀x,u≠.own x)(nb:∀ps,u≠.tbl ps)(nf:∀o w,u = .frz o w->∀o w,X.H₀ d≠some (.frz o w))
  (new:ObjOk X.prog X.w H s.heap d u->∀H':Hp,(∀b xs,H b=some (.tup xs)->H' b=some (.tup xs))->(∀b x,H b=some (.own x)->H' b=some (.own x))->ObjOk X.prog X.w H' s.heap d v):Inv X pins σ (upd H d v) s:=by
 have nd:∀{b:Addr},H b=none->b≠d:=λz=>(zaq e z).symm
 have tt:∀b xs,H b=some (.tup xs)->upd H d v b=some (.tup xs):=λb xs q=>by rw[zao (zdk q e (λz=>nt xs z.symm))];exact q
 have oo:∀b x,H b=some (.own x)->upd H d v b=some (.own x):=λb x q=>by rw[zao (zdk q e (λz=>no x z.symm))];exact q
 refine⟨I.ok,I.os,I.bare,⟨I.base.keep,I.base.slot,λb q h1 h2 h3 => ?_,I.base.there,λb xs q=>tt b xs (I.base.tups b xs q),λb o' w q => ?_,λb ps q => ?_⟩,I.loc,I.cell,?_,λx c q => ?_,λp hp => ?_,λb w q => ?_,I.len⟩
 ·have z:=I.base.free b q h1 h2 h3
  rw[zao (nd z)];exact z
 ·have z:=I.base.frzs b o' w q
  by_cases hb:b=d
  ·subst hb;rw[e]at z;injection z with z
   exact absurd q (nf o' w z o' w)
  ·rw[zao hb];exact z
 ·obtain⟨more,z⟩:=I.base.tbls b ps q
  by_cases hb:b=d
  ·subst hb;rw[e]at z;injection z with z
   exact absurd z (nb _)
  ·exact⟨more,by rw[zao hb];exact z⟩
 ·rw[zao (nd I.free)];exact I.free
 ·rw[zao (nd (I.freeC x c q))];exact I.freeC x c q
 ·obtain⟨z1,z2,z3⟩:=I.pin p hp
  exact⟨z1,by rw[zao (nd z2)];exact z2,z3⟩
 ·by_cases hb:b=d
  ·subst hb
   rw[zaf]at q;injection q with q;subst q
   exact new (I.hok b _ e) _ tt oo
  ·rw[zao hb]at q
   exact(I.hok b w q).stay (λ_ _ _ z=>z) (λc z=>oo c b z) tt
theorem Inv.freeze{kvs:List (List Key×V)}(I:Inv X pins σ H s)(e:H d=some (.dT kvs))(ho:s.heap.get? d=some o):Inv X pins σ (upd H d (.frz o (.dT kvs))) s:=
 I.swap e (by intro _ z;cases z) (by intro _ z;cases z) (by intro _ z;cases z) (by intro _ _ z;cases z) λx H' t w=>⟨ho,x.stay (λ_ _ _ z=>z) (λb z=>w b d z) t⟩
theorem Inv.thaw(I:Inv X pins σ H s)(e:H d=some (.frz o u))(n:∀o w,X.H₀ d≠some (.frz o w)):Inv X pins σ (upd H d u) s:=
 I.swap e (by intro _ z;cases z) (by intro _ z;cases z) (by intro _ z;cases z) (λ_ _ _=>n) λx H' t w=>x.2.stay (λ_ _ _ z=>z) (λb z=>w b d z) t
end
def Thw(H0:Hp)(H:Hp)(K:Hp->Prop):Prop:=K H\/∃d o u,H d=some (.frz o u)/\(∀o w,H0 d≠some (.frz o w))/\K (upd H d u)
section
variable{X:Cx}
theorem Thw.inv{pins:List (Addr×Obj)}{σ : St}{H:Hp}{s:Shared}{K:Hp->Prop}(h:Thw X.H₀ H K)(I:Inv X pins σ H s):∃H',Inv X pins σ H' s/\K H':=by
 rcases h with h | ⟨d,o,u,e,n,h⟩
 ·exact⟨H,I,h⟩
 ·exact⟨_,I.thaw e n,h⟩
end
end L2
namespace L2
open PySem PySem.Spec PyProof.Rows
section
variable{prog:Program}{w:World}{A:Around}{E:Value->Shared->Prop}{s:Shared}{it d:Addr}{i n ep:Nat}{es:Array DictEntry}{o:Obj}
theorem zk0{e:DictEntry}{Q:Option Value->Shared->Prop}(hit:s.heap.IsKeyIter it d i n ep)(hod:s.heap.get? d=some o)(hdd:o.data = .dict es ep)(hn:es.size=n)(hx:es[i]? = some e)
  (hQ:∀h',h'.IsKeyIter it d (i + 1) n ep->Heap.SameBut it s.heap h'->Q (some e.key) { s with heap:=h' }):wpAny (model prog w) A (pyNext (.ref it)) Q E s:=by
 obtain⟨oi,hoi,hci,hdi⟩:=id hit
 have T:=hit.typeIs
 have own:Builtin.Dict_items.ownsTuple "dict_keyiterator" = false:=by decide
 have nn:¬((Value.ref d == Value.none)=true):=λz=>Bool.false_ne_true z
 unfold pyNext;refine wpAny_bind (wpAny_attempt (wpAny_callSpecial?_slot (name:=Str.ofString "__next__") T F.slot_dict_keyiterator_next (wpAny_call_entry F.slot_dict_keyiterator_next T F.entry_dict_keyiterator_next ?_ (F.args_dict_keyiterator_next_1 _))))
 refine wpAny_bind (wpAny_pure (wpAny_bind (wpAny_bind ?_)));refine wpAny_bind (wpAny_typeNameOfWhole_keyiter T (wpAny_pure (wpAny_bind (wpAny_fieldsOf hoi hdi ?_))))
 simp only[own,Bool.false_eq_true,if_false];show wpAny _ _ (if (Value.ref d == Value.none)=true then _ else _) _ _ s;rw[if_neg nn]
 refine wpAny_bind (wpAny_pure (wpAny_bind (wpAny_dictEntries hod hdd ?_)));rw[if_neg (by rw[hn];simp)]
 refine wpAny_bind (wpAny_pure (wpAny_bind (wpAny_dictEpoch hod hdd ?_)));rw[if_neg (by simp)]
 have lt:¬((i:Int) < 0):=by omega
 refine wpAny_pure ?_;simp only[lt,if_false,Int.toNat_natCast,hx]
 refine wpAny_bind (wpAny_bind (wpAny_typeNameOfWhole_keyiter T (wpAny_pure (wpAny_bind (wpAny_isOneOf_keyiter T ?_)))))
 show wpAny _ _ (setField (.ref it) 1 (rawInt ((i:Int) + 1)) >>= _) _ _ s;refine wpAny_bind (wpAny_setField hoi hdi (by simp) ?_)
 have hit':(s.heap.update it (Obj.mapFields (·.setIfInBounds 1 (rawInt ((i:Int) + 1))))).IsKeyIter it d (i + 1) n ep:=⟨_,Heap.get?_update_self _ hoi (Obj.isFreed_of_fields (Obj.data_mapFields hdi _)),(Obj.cls_mapFields ..).trans hci,by rw[Obj.data_mapFields hdi];simp[rawInt]⟩
 have T':Shared.TypeIs { s with heap:=s.heap.update it (Obj.mapFields (·.setIfInBounds 1 (rawInt ((i:Int) + 1)))) } (.ref it) "dict_keyiterator":=hit'.typeIs
 refine wpAny_bind (wpAny_holding (wpAny_bind (wpAny_isOneOf_keyiter T' ?_)));show wpAny _ _ (pure e.key) _ _ _
 exact wpAny_pure (wpAny_pure ⟨_,rfl,wpAny_pure (hQ _ hit' (Heap.SameBut.update ..))⟩)
theorem zkn{A':Around}{Q:Option Value->Shared->Prop}{E':Value->Shared->Prop}(hh:A'.handled=none)(hQ:∀h',(∀b o,s.heap.get? b=some o->h'.get? b=some o)->Q none { s with heap:=h' }){P:Fin->Shared->Prop} :
  wpAny (model prog w) A' (newExc (.type "StopIteration") [] >>= λe=>raiseNew e) P (λe s'=>wpAny (model prog w) A (do if (<- isInstance e (.type "StopIteration"))=true then pure none else throw e) Q E' s') s:=by
 refine wpAny_bind ?_
 simp only[newExc,newTuple];refine wpAny_bind (wpAny_newObj_type (wpAny_bind (m:=firstArgMember _ _) (wpAny_of_eq (a:=Value.none) (by first | rfl | (simp only[firstArgMember];rfl)) (wpAny_newObj_type ?_ (by size_fits)))) (by size_fits))
 simp only[raiseNew];refine wpAny_bind (wpAny_handled ?_);rw[hh]
 refine wpAny_bind (wpAny_pure (wpAny_throw ?_))
 have sub:=isSubtype_stop;refine wpAny_bind (wpAny_isInstance (T:="StopIteration") (b:=true) ⟨_,Heap.get?_push_size _ rfl,rfl⟩ sub ?_)
 exact wpAny_pure (hQ _ λb o e=>Heap.get?_push_of_some _ (Heap.get?_push_of_some _ e))
theorem zl4{Q:Option Value->Shared->Prop}(hh:A.handled=none)(hit:s.heap.IsKeyIter it d i n ep)(hod:s.heap.get? d=some o)(hdd:o.data = .dict es ep)(hn:es.size=n)(hx:n<=i)
  (hQ:∀h',Heap.ExtBut it s.heap h'->Q none { s with heap:=h' }):wpAny (model prog w) A (pyNext (.ref it)) Q E s:=by
 obtain⟨oi,hoi,hci,hdi⟩:=id hit
 have T:=hit.typeIs
 have own:Builtin.Dict_items.ownsTuple "dict_keyiterator" = false:=by decide
 have nn:¬((Value.ref d == Value.none)=true):=λz=>Bool.false_ne_true z
 unfold pyNext;refine wpAny_bind (wpAny_attempt (wpAny_callSpecial?_slot (name:=Str.ofString "__next__") T F.slot_dict_keyiterator_next (wpAny_call_entry F.slot_dict_keyiterator_next T F.entry_dict_keyiterator_next ?_ (F.args_dict_keyiterator_next_1 _))))
 refine wpAny_bind (wpAny_pure (wpAny_bind (wpAny_bind ?_)));refine wpAny_bind (wpAny_typeNameOfWhole_keyiter T (wpAny_pure (wpAny_bind (wpAny_fieldsOf hoi hdi ?_))))
 simp only[own,Bool.false_eq_true,if_false];show wpAny _ _ (if (Value.ref d == Value.none)=true then _ else _) _ _ s;rw[if_neg nn]
 refine wpAny_bind (wpAny_pure (wpAny_bind (wpAny_dictEntries hod hdd ?_)));rw[if_neg (by rw[hn];simp)]
 refine wpAny_bind (wpAny_pure (wpAny_bind (wpAny_dictEpoch hod hdd ?_)));rw[if_neg (by simp)]
 have lt:¬((i:Int) < 0):=by omega
 have hx':es[i]? = none:=Array.getElem?_eq_none (by omega)
 refine wpAny_pure ?_;simp only[lt,if_false,Int.toNat_natCast,hx']
 refine wpAny_bind (wpAny_bind (wpAny_typeNameOfWhole_keyiter T (wpAny_pure ?_)))
 show wpAny _ _ (setField (.ref it) 0 .none >>= _) _ _ s;refine wpAny_bind (wpAny_setField hoi hdi (by simp) ?_)
 refine zkn (A:=A) (A':=A.in1) (E':=E) hh λh' k => ?_
 exact hQ h' λb o hb e=>k b o ((Heap.SameBut.update ..).extBut b o hb e)
theorem zod{e:DictEntry}{ok ov:Value}{Q:Option Value->Shared->Prop}(hit:IsItemIter s.heap it d i n ep ok ov)(hod:s.heap.get? d=some o)(hdd:o.data = .dict es ep)(hn:es.size=n)(hx:es[i]? = some e)
  (hQ:∀h',IsItemIterOut h' it d (i + 1) n ep e.key e.val s.heap.objs.size->h'.get? s.heap.objs.size=some { cls := .type "tuple",data := .seq #[e.key,e.val] }->h'.objs.size=s.heap.objs.size + 1 ->
   (∀b q,b≠it->s.heap.get? b=some q->h'.get? b=some q)->Q (some (.ref s.heap.objs.size)) { s with heap:=h' }):wpAny (model prog w) A (pyNext (.ref it)) Q E s:=by
 have T:s.TypeIs (.ref it) "dict_itemiterator":=⟨_,hit,rfl⟩
 have own:Builtin.Dict_items.ownsTuple "dict_itemiterator" = true:=by decide
 have nn:¬((Value.ref d == Value.none)=true):=λz=>Bool.false_ne_true z
 unfold pyNext;refine wpAny_bind (wpAny_attempt (wpAny_callSpecial?_slot (name:=Str.ofString "__next__") T F.slot_dict_itemiterator_next (wpAny_call_entry F.slot_dict_itemiterator_next T F.entry_dict_itemiterator_next ?_ (F.args_dict_itemiterator_next_1 _))))
 refine wpAny_bind (wpAny_pure (wpAny_bind (wpAny_bind ?_)));refine wpAny_bind (wpAny_typeNameOfWhole_itemiter T (wpAny_pure (wpAny_bind (wpAny_fieldsOf hit rfl ?_))))
 simp only[own,if_true];show wpAny _ _ (if (Value.ref d == Value.none)=true then _ else _) _ _ s;rw[if_neg nn]
 refine wpAny_bind (wpAny_pure (wpAny_bind (wpAny_dictEntries hod hdd ?_)));rw[if_neg (by rw[hn];simp)]
 refine wpAny_bind (wpAny_pure (wpAny_bind (wpAny_dictEpoch hod hdd ?_)));rw[if_neg (by simp)]
 have lt:¬((i:Int) < 0):=by omega
 refine wpAny_pure ?_;simp only[lt,if_false,Int.toNat_natCast,hx]
 refine wpAny_bind (wpAny_bind (wpAny_typeNameOfWhole_itemiter T (wpAny_pure (wpAny_bind (wpAny_isOneOf_itemiter T ?_)))))
 show wpAny _ _ (setField (.ref it) 3 (rawInt ((i:Int) + 1)) >>= _) _ _ s;refine wpAny_bind (wpAny_setField_rec hit (by simp) λh1 e1 s1 => ?_)
 have i1:IsItemIter h1 it d (i + 1) n ep ok ov:=by
  have z:((i + 1:Nat):Int)=(i:Int) + 1:=by omega
  unfold IsItemIter;rw[z];simpa[rawInt]using e1
 have T1:Shared.TypeIs { s with heap:=h1 } (.ref it) "dict_itemiterator":=⟨_,i1,rfl⟩
 refine wpAny_bind (wpAny_holding (wpAny_bind (wpAny_isOneOf_itemiter T1 (wpAny_bind (wpAny_isOneOf_itemiter T1 ?_)))))
 show wpAny _ _ (Builtin.Dict_items.pairFromOwner (.ref it) 6 e.key e.val) _ _ _
 unfold Builtin.Dict_items.pairFromOwner;refine wpAny_bind (wpAny_newTuple ?_)
 have z1:h1.objs.size=s.heap.objs.size:=s1.1
 have lit:it < s.heap.objs.size:=Heap.lt_size hit
 have i2:IsItemIter (h1.push { cls := .type "tuple",data := .seq #[e.key,e.val] }) it d (i + 1) n ep ok ov:=Heap.get?_push_of_some _ i1
 have t2:(h1.push { cls := .type "tuple",data := .seq #[e.key,e.val] }).get? s.heap.objs.size=some { cls := .type "tuple",data := .seq #[e.key,e.val] }:=by rw[<- z1];exact Heap.get?_push_size _ rfl
 have z2:(h1.push { cls := .type "tuple",data := .seq #[e.key,e.val] }).objs.size=s.heap.objs.size + 1:=by rw[Heap.size_push,z1]
 have k2:∀b q,b≠it->s.heap.get? b=some q->(h1.push { cls := .type "tuple",data := .seq #[e.key,e.val] }).get? b=some q:=λb q hb z=>Heap.get?_push_of_some _ (s1.extBut b q hb z)
 dsimp only
 rw[z1]
 show wpAny _ _ (Builtin.Dict_items.ownedTupleIsFree (.ref it) >>= _) _ _ { s with heap:=h1.push { cls := .type "tuple",data := .seq #[e.key,e.val] } }
 generalize (h1.push { cls := .type "tuple",data := .seq #[e.key,e.val] }:Heap)=h2 at *
 refine wpAny_bind ?_;unfold Builtin.Dict_items.ownedTupleIsFree;refine wpAny_bind (wpAny_field i2 rfl (x := .none) rfl (wpAny_pure ?_));simp only[if_true]
 refine wpAny_bind (wpAny_field i2 rfl (x:=ok) rfl (wpAny_bind (wpAny_field i2 rfl (x:=ov) rfl (wpAny_bind (wpAny_setField_rec i2 (by simp) λh3 e3 s3 => ?_)))))
 have i3:IsItemIter h3 it d (i + 1) n ep e.key ov:=e3
 refine wpAny_bind (wpAny_setField_rec i3 (by simp) λh4 e4 s4 => ?_)
 have i4:IsItemIter h4 it d (i + 1) n ep e.key e.val:=e4
 refine wpAny_bind (wpAny_setField_rec i4 (by simp) λh5 e5 s5 => ?_)
 have i5:IsItemIterOut h5 it d (i + 1) n ep e.key e.val s.heap.objs.size:=e5
 refine wpAny_bind (wpAny_setField_rec i5 (by simp) λh6 e6 s6 => ?_)
 have i6:IsItemIterOut h6 it d (i + 1) n ep e.key e.val s.heap.objs.size:=e6
 have kp:∀b q,b≠it->h2.get? b=some q->h6.get? b=some q:=λb q hb z=>s6.extBut b q hb (s5.extBut b q hb (s4.extBut b q hb (s3.extBut b q hb z)))
 refine wpAny_bind (wpAny_letGo (wpAny_pure (wpAny_pure ⟨_,rfl,wpAny_pure (hQ h6 i6 (kp _ _ (Nat.ne_of_gt lit) t2) ?_ λb q hb z=>kp b q hb (k2 b q hb z))⟩)))
 exact(s6.1.trans (s5.1.trans (s4.1.trans s3.1))).trans z2
theorem zqo{ok ov:Value}{Q:Option Value->Shared->Prop}(hh:A.handled=none)(hit:IsItemIter s.heap it d i n ep ok ov)(hod:s.heap.get? d=some o)(hdd:o.data = .dict es ep)(hn:es.size=n)(hx:n<=i)
  (hQ:∀h',Heap.ExtBut it s.heap h'->Q none { s with heap:=h' }):wpAny (model prog w) A (pyNext (.ref it)) Q E s:=by
 have T:s.TypeIs (.ref it) "dict_itemiterator":=⟨_,hit,rfl⟩
 have own:Builtin.Dict_items.ownsTuple "dict_itemiterator" = true:=by decide
 have nn:¬((Value.ref d == Value.none)=true):=λz=>Bool.false_ne_true z
 unfold pyNext;refine wpAny_bind (wpAny_attempt (wpAny_callSpecial?_slot (name:=Str.ofString "__next__") T F.slot_dict_itemiterator_next (wpAny_call_entry F.slot_dict_itemiterator_next T F.entry_dict_itemiterator_next ?_ (F.args_dict_itemiterator_next_1 _))))
 refine wpAny_bind (wpAny_pure (wpAny_bind (wpAny_bind ?_)));refine wpAny_bind (wpAny_typeNameOfWhole_itemiter T (wpAny_pure (wpAny_bind (wpAny_fieldsOf hit rfl ?_))))
 simp only[own,if_true];show wpAny _ _ (if (Value.ref d == Value.none)=true then _ else _) _ _ s;rw[if_neg nn]
 refine wpAny_bind (wpAny_pure (wpAny_bind (wpAny_dictEntries hod hdd ?_)));rw[if_neg (by rw[hn];simp)]
 refine wpAny_bind (wpAny_pure (wpAny_bind (wpAny_dictEpoch hod hdd ?_)));rw[if_neg (by simp)]
 have lt:¬((i:Int) < 0):=by omega
 have hx':es[i]? = none:=Array.getElem?_eq_none (by omega)
 refine wpAny_pure ?_;simp only[lt,if_false,Int.toNat_natCast,hx']
 refine wpAny_bind (wpAny_bind (wpAny_typeNameOfWhole_itemiter T (wpAny_pure ?_)))
 show wpAny _ _ (setField (.ref it) 2 .none >>= _) _ _ s;refine wpAny_bind (wpAny_setField hit rfl (by simp) ?_)
 refine zkn (A:=A) (A':=A.in1) (E':=E) hh λh' k => ?_
 exact hQ h' λb o hb e=>k b o ((Heap.SameBut.update ..).extBut b o hb e)
end
end L2
namespace L2
open PySem PySem.Spec PyProof.Rows
theorem Paired.at'{α β : Type}{F : α->β->Prop}:∀{l:List α} {m:List β},Paired F l m->∀{i:Nat} {a : α},l[i]? = some a->∃b,m[i]? = some b/\F a b
 | _,_,.nil,i,a,h=>by simp at h
 | _,_,.cons r _,0,a,h=>by simp at h;subst h;exact⟨_,rfl,r⟩
 | _,_,.cons _ t,i + 1,a,h=>by
  rw[List.getElem?_cons_succ]at h
  obtain⟨b,h1,h2⟩:=Paired.at' t h
  exact⟨b,by rw[List.getElem?_cons_succ];exact h1,h2⟩
def FzD(H:Hp)(d:Addr)(o:Obj)(kvs:List (List Key×V)):Prop:=H d=some (.frz o (.dT kvs))
def ItK(d:Addr)(o:Obj)(kvs:List (List Key×V)):It:=
 ⟨λi H=>FzD H d o kvs/\i < kvs.length,λi H x H'=>H'=H/\∃b k v,kvs[i]? = some (k,v)/\H b=some (.tup (k.map kV))/\x = .ref b,λi H=>FzD H d o kvs/\kvs.length<=i⟩
def ItI(d:Addr)(o:Obj)(kvs:List (List Key×V)):It:=
 ⟨λi H=>FzD H d o kvs/\i < kvs.length,λi H x H'=>∃p b k v,H p=none/\kvs[i]? = some (k,v)/\H b=some (.tup (k.map kV))/\x = .ref p/\H'=upd H p (.tup [.ref b,v]),λi H=>FzD H d o kvs/\kvs.length<=i⟩
section
variable{X:Cx}{pins:List (Addr×Obj)}{σ : St}{H:Hp}{s:Shared}{d:Addr}{o:Obj}{kvs:List (List Key×V)}{es:Array DictEntry}{ep:Nat}
theorem Inv.entries(I:Inv X pins σ H s)(e:FzD H d o kvs)(hdd:o.data = .dict es ep) :
  s.heap.get? d=some o/\es.size=kvs.length/\∀(i:Nat) (k:List Key) (v:V),kvs[i]? = some (k,v)->∃(b:Addr) (e:DictEntry),es[i]? = some e/\e.key = .ref b/\H b=some (.tup (k.map kV))/\RelV v e.val:=by
 obtain⟨hg,z,y,xs,r,o',es',ep',h1,h2,h3,h4,h5⟩:=I.hok d _ e
 have eo:o'=o:=Option.some.inj (h1.symm.trans hg)
 subst eo
 rw[hdd]at h3
 injection h3 with h3 _
 subst h3
 refine⟨hg,(size_of_entries h4).trans (Paired.length r).symm,λi k v hx => ?_⟩
 obtain⟨⟨k',b,u⟩,q1,q2,q3,q4⟩:=Paired.at' r hx
 refine⟨b,entryOfKey (tupleKind (mixKind X.prog X.w)) (k',b,u),by rw[entry_at h4 i,q1];rfl,rfl,q3,q4⟩
end
theorem zn0{P:Program}{w:World}{K:W.Frag}{tg:Expr}{d it:Addr}{o:Obj}{kvs:List (List Key×V)}{es:Array DictEntry}{ep:Nat}(hdd:o.data = .dict es ep) :
  Turn P w K tg (ItK d o kvs) [it] it (λi h=>h.IsKeyIter it d i kvs.length ep) where
 mem:=by simp
 obj:=λi h st b hb=>by
  have e:b=it:=by simpa using hb
  subst e
  obtain⟨q,e,c,z⟩:=st
  exact⟨q,e,λv y=>by rw[z]at y;cases y⟩
 keep:=λi h h' st k=>st.at λq e=>k it (by simp) q e
 item:=by
  intro X hP hw hK hc i pins s σ H E I hf st hg
  subst hP hw hK
  obtain⟨fz,lt⟩:=hg
  obtain⟨hd,hz,he⟩:=I.entries fz hdd
  obtain⟨⟨k,v⟩,hx⟩:∃p,kvs[i]? = some p:=⟨kvs[i],by simp[lt]⟩
  obtain⟨b,e,ee,ek,eb,_⟩:=he i k v hx
  obtain⟨f0,f1,f2,f3,f4,f5⟩:=hf it (by simp)
  refine zk0 st hd hdd hz ee λh' st' sb => ?_
  have I1:Inv X pins σ H { s with heap:=h' }:=I.turned (t':=s.toks) (λc q hb z=>(sb.2 c hb).trans z) f0 f1 f3 f4 f5
  obtain⟨q,e',c,z⟩:=id st'
  exact⟨e.key,rfl,zn9 (s:={ s with heap:=h' }) e' c z (by decide) ⟨.ref b,H,I1,by rw[ek];rfl,⟨rfl,b,k,v,hx,eb,rfl⟩,st',λc hc'=>(hf c hc').1⟩⟩
 done:=by
  intro X hP hw hK hc i pins s σ H E I hf st hg
  subst hP hw hK
  obtain⟨fz,ge⟩:=hg
  obtain⟨hd,hz,he⟩:=I.entries fz hdd
  obtain⟨f0,f1,f2,f3,f4,f5⟩:=hf it (by simp)
  exact zl4 (I.ok.hd hc) st hd hdd hz ge λh' eb=>⟨rfl,I.turned (t':=s.toks) (λb q hb e=>eb b q hb e) f0 f1 f3 f4 f5⟩
 self:=λ_ _ _ _ _ st h=>wpAny_pyIter_keyiter st h
theorem zel{prog:Program}{w:World}{A:Around}{E:Value->Shared->Prop}{s:Shared}{it d:Addr}{i n ep:Nat}{ok ov:Value}{Q:Value->Shared->Prop}(hit:IsItemIter s.heap it d i n ep ok ov)(h:Q (.ref it) s) :
  wpAny (model prog w) A (pyIter (.ref it)) Q E s:=by
 have T:s.TypeIs (.ref it) "dict_itemiterator":=⟨_,hit,rfl⟩
 have en:entryFor table "dict_itemiterator.__iter__" = some Builtin.«dict_keyiterator.__iter__»:=entryFor_alias (id':="dict_keyiterator.__iter__") (by kernel_rfl) rfl (by decide +kernel) (by kernel_rfl)
 refine wpAny_pyIter_slot T F.slot_dict_itemiterator_iter (wpAny_call_entry F.slot_dict_itemiterator_iter T en ?_ (F.args_dict_itemiterator_iter_1 _))
 exact wpAny_pure ⟨_,rfl,"dict_itemiterator",_,T,F.slot_dict_itemiterator_next.lookup,h⟩
theorem zli{P:Program}{w:World}{K:W.Frag}{xs:List Expr}{xk:Nat}{pos:Pos}{d it:Addr}{o:Obj}{kvs:List (List Key×V)}{es:Array DictEntry}{ep:Nat}(hdd:o.data = .dict es ep) :
  Turn P w K (.Tuple xs xk pos) (ItI d o kvs) [it] it (λi h=>∃ok ov,IsItemIter h it d i kvs.length ep ok ov) where
 mem:=by simp
 obj:=λi h ⟨ok,ov,st⟩ b hb=>by
  have e:b=it:=by simpa using hb
  subst e
  exact⟨_,st,λv y=>by cases y⟩
 keep:=λi h h' ⟨ok,ov,st⟩ k=>⟨ok,ov,k it (by simp) _ st⟩
 item:=by
  intro X hP hw hK hc i pins s σ H E I hf st hg
  subst hP hw hK
  obtain⟨ok,ov,st⟩:=st
  obtain⟨fz,lt⟩:=hg
  obtain⟨hd,hz,he⟩:=I.entries fz hdd
  obtain⟨⟨k,v⟩,hx⟩:∃p,kvs[i]? = some p:=⟨kvs[i],by simp[lt]⟩
  obtain⟨b,e,ee,ek,eb,rv⟩:=he i k v hx
  have lit:it < s.heap.objs.size:=Heap.lt_size st
  refine zod st hd hdd hz ee λh' st' tp sz kp => ?_
  refine⟨_,rfl,wpAny_letOwnedTupleGo_items st' λh'' st2 sb => ?_⟩
  have tp2:h''.get? s.heap.objs.size=some { cls := .type "tuple",data := .seq #[e.key,e.val] }:=sb.extBut _ _ (Nat.ne_of_gt lit) tp
  have kp2:∀c q,c ∉ [it]->s.heap.get? c=some q->h''.get? c=some q:=λc q hc z=>sb.extBut c q (by simpa using hc) (kp c q (by simpa using hc) z)
  refine⟨.ref s.heap.objs.size,upd H s.heap.objs.size (.tup [.ref b,v]),I.drawn (t':=s.toks) (ch:=[it]) (λc hc=>hf c hc) kp2 (Nat.le_refl _) ?_,rfl,⟨_,b,k,v,I.fresh,hx,eb,rfl,rfl⟩,⟨_,_,st2⟩,λc hc => ?_⟩
  ·exact⟨by show 2<=sizeLine;rw[sizeLine_eq];decide,[e.key,e.val],.cons (by rw[ek];rfl) (.cons rv .nil),⟨_,tp2,rfl,_,rfl⟩⟩
  ·have e:c=it:=by simpa using hc
   subst e
   rw[zao (Nat.ne_of_lt lit)]
   exact(hf c (by simp)).1
 done:=by
  intro X hP hw hK hc i pins s σ H E I hf st hg
  subst hP hw hK
  obtain⟨ok,ov,st⟩:=st
  obtain⟨fz,ge⟩:=hg
  obtain⟨hd,hz,he⟩:=I.entries fz hdd
  obtain⟨f0,f1,f2,f3,f4,f5⟩:=hf it (by simp)
  exact zqo (I.ok.hd hc) st hd hdd hz ge λh' eb=>⟨rfl,I.turned (t':=s.toks) (λb q hb e=>eb b q hb e) f0 f1 f3 f4 f5⟩
 self:=λ_ _ _ _ _ ⟨_,_,st⟩ h=>zel st h
end L2
namespace L2
open PySem PySem.Spec PyProof.Rows
section
variable{prog:Program}{w:World}{A:Around}{E:Value->Shared->Prop}{s:Shared}{d:Addr}{ep:Nat}{es:Array DictEntry}{o:Obj}
theorem zio{Q:Value->Shared->Prop}(hs:(d == sysModules)=false)(T:s.TypeIs (.ref d) "dict")(ho:s.heap.get? d=some o)(hdd:o.data = .dict es ep)
  (hQ:Q (.ref s.heap.objs.size) { s with heap:=s.heap.push { cls := .type "dict_keyiterator",data := .fields #[.ref d,.int 0 0,.int es.size 0,.int ep 0] } }):wpAny (model prog w) A (pyIter (.ref d)) Q E s:=by
 refine wpAny_pyIter_slot T F.slot_dict_iter (wpAny_call_entry F.slot_dict_iter T F.entry_dict_iter ?_ (F.args_dict_iter_1 _))
 unfold Builtin.«dict.__iter__»;refine wpAny_bind ?_;unfold Builtin.Dict.dictSlotNone;refine wpAny_bind (wpAny_notOrdered_dict T (wpAny_pure ?_))
 have no:¬((d == sysModules)=true):=by rw[hs];exact Bool.false_ne_true
 show wpAny _ _ (Builtin.Dict.showsAll d >>= _) _ _ s;unfold Builtin.Dict.showsAll;rw[if_neg no]
 refine wpAny_bind (wpAny_pure (wpAny_bind (wpAny_dictEntries ho hdd (wpAny_bind (wpAny_dictEpoch ho hdd ?_)))))
 exact wpAny_bind (wpAny_newObj_type (wpAny_pure ⟨_,rfl,"dict_keyiterator",_,⟨_,Heap.get?_push_size _ rfl,rfl⟩,F.slot_dict_keyiterator_next.lookup,hQ⟩))
theorem dict_items{Q:Value->Shared->Prop}(hs:(d == sysModules)=false)(T:s.TypeIs (.ref d) "dict")(hQ:Q (.ref s.heap.objs.size) { s with heap:=s.heap.push { cls := .type "dict_items",data := .fields #[.ref d] } }) :
  wpAny (model prog w) A (call (.builtin "dict.items") [.ref d]) Q E s:=by
 refine wpAny_call_entry F.slot_dict_items T F.entry_dict_items ?_ (F.args_dict_items_1 _)
 have no:¬((d == sysModules)=true):=by rw[hs];exact Bool.false_ne_true
 unfold Builtin.«dict.items»;refine wpAny_bind ?_;unfold Builtin.Dict.noArgs;refine wpAny_bind (wpAny_notOrdered_dict T (wpAny_pure ?_))
 show wpAny _ _ (Builtin.Dict.showsAll d >>= _) _ _ s;unfold Builtin.Dict.showsAll;rw[if_neg no]
 exact wpAny_bind (wpAny_pure (wpAny_bind (wpAny_newObj_type (wpAny_pure ⟨_,rfl,hQ⟩))))
theorem zmo{v:Addr}{Q:Value->Shared->Prop}(hv:s.heap.IsItemsView v d)(ho:s.heap.get? d=some o)(hdd:o.data = .dict es ep)
  (hQ:Q (.ref s.heap.objs.size) { s with heap:=s.heap.push { cls := .type "dict_itemiterator",data := .fields #[.none,.bool false,.ref d,.int 0 0,.int es.size 0,.int ep 0,.none,.none] } }):wpAny (model prog w) A (pyIter (.ref v)) Q E s:=by
 obtain⟨q,hq,hc,hdv⟩:=id hv
 have own:Builtin.Dict_items.ownsTuple "dict_itemiterator" = true:=by decide
 refine wpAny_pyIter_slot hv.typeIs F.slot_dict_items_iter (wpAny_call_entry F.slot_dict_items_iter hv.typeIs F.entry_dict_items_iter ?_ (F.args_dict_items_iter_1 _))
 unfold Builtin.«dict_items.__iter__»;refine wpAny_bind (wpAny_pure (wpAny_bind ?_));unfold Builtin.Dict_items.dictOf;refine wpAny_bind (wpAny_field hq hdv (x := .ref d) rfl (wpAny_pure (wpAny_bind ?_)))
 unfold Builtin.Dict_items.newIterator;refine wpAny_bind (wpAny_dictEntries ho hdd (wpAny_bind (wpAny_dictEpoch ho hdd ?_)));simp only[own,if_true]
 refine wpAny_newObj_type (wpAny_pure ⟨_,rfl,"dict_itemiterator",_,⟨_,Heap.get?_push_size _ rfl,rfl⟩,F.slot_dict_itemiterator_next.lookup,?_⟩) (by simp only[sizeOk,Builtin.Dict_items.ownedTupleFields,List.size_toArray,List.length_append,List.length_cons,List.length_nil,sizeLine_eq];omega)
 simpa[rawInt,Builtin.Dict_items.ownedTupleFields]using hQ
end
def iDictK(td:TE):TI:=λσ H R=>td σ H λx H1=>∃d kvs,x = .ref d/\Rd H1 d (.dT kvs)/\∀o,R (ItK d o kvs) (upd H1 d (.frz o (.dT kvs)))
def iDictI(td:TE):TI:=λσ H R=>td σ H λx H1=>∃d kvs,x = .ref d/\Rd H1 d (.dT kvs)/\∀o,R (ItI d o kvs) (upd H1 d (.frz o (.dT kvs)))
section
variable{X:Cx}{tg:Expr}{pins:List (Addr×Obj)}{σ : St}{H:Hp}{s:Shared}{d:Addr}{kvs:List (List Key×V)}
theorem Inv.still(I:Inv X pins σ H s)(e:Rd H d (.dT kvs)):∃(o:Obj) (es:Array DictEntry) (ep:Nat),s.heap.get? d=some o/\s.TypeIs (.ref d) "dict"/\(∀b,Value.ref d = .ref b->∃ob,s.heap.get? b=some ob/\ob.dict=none)/\(d == sysModules)=false /\
  o.data = .dict es ep/\es.size=kvs.length/\Inv X pins σ (upd H d (.frz o (.dT kvs))) s:=by
 obtain⟨z,hd,xs,rel,o,es,ep,h1,h2,h3,h4,h5,h6⟩:=zfw I.hok e
 have T:s.TypeIs (.ref d) "dict":=⟨o,h1,h2.1⟩
 refine⟨o,es,ep,h1,T,λb q => ?_,hd,h3,(size_of_entries h4).trans (Paired.length rel).symm,?_⟩
 ·cases q;exact⟨o,h1,h2.2.1⟩
 rcases e with e | ⟨o',e⟩
 ·exact I.freeze e h1
 ·have q:s.heap.get? d=some o':=(I.hok d _ e).1
  have eo:o'=o:=Option.some.inj (q.symm.trans h1)
  subst eo
  have:upd H d (.frz o' (.dT kvs))=H:=by
   funext b;unfold upd;split
   ·rename_i z;rw[z,e]
   ·rfl
  rw[this];exact I
theorem zr5{l:Expr}{tl:TE}(hl:PE X l tl):PI X tg l (iDictK tl):=by
 intro pins s σ H R I h
 refine thn (hl pins s σ H _ I h) λv s1 ⟨x,H1,I1,r1,d,kvs,ex,e,q⟩ => ?_
 subst ex
 cases r1
 obtain⟨o,es,ep,ho,T,_,hs,hdd,hz,I2⟩:=I1.still e
 refine zio hs T ho hdd ⟨s1.heap.objs.size,[s1.heap.objs.size],_,_,_,rfl,I2.kept (t':=s1.toks) λb q z=>Heap.get?_push_of_some _ z,zn0 hdd,⟨_,Heap.get?_push_size _ rfl,rfl,by rw[hz];rfl⟩,λb hb => ?_,q o⟩
 have eb:b=s1.heap.objs.size:=by simpa using hb
 subst eb
 exact I2.fpOk (Nat.le_refl _) (I2.hok.fresh (Nat.le_refl _))
theorem zf9{xs:List Expr}{xk:Nat}{tp apos cpos:Pos}{o:Expr}{to:TE}(ho:PE X o to)(hbase:attributeBase o "items" X.env (eval o X.env)=eval o X.env:=by rfl)(hline:(apos.endLine == cpos.line)=true:=by rfl) :
  PI X (.Tuple xs xk tp) (.Call (.Attribute o "items" apos) [] [] cpos) (iDictI to):=by
 intro pins s σ H R I h
 refine wpAny_Call_method0_late hbase hline (thn (ho pins s σ H _ I h) λv s1 ⟨x,H1,I1,r1,d,kvs,ex,e,q⟩ => ?_)
 subst ex
 cases r1
 obtain⟨ob,es,ep,hob,T,nd,hs,hdd,hz,I2⟩:=I1.still e
 refine⟨"dict","dict.items",PySem.F.plainAttrs_dict,PySem.F.slot_dict_items,PySem.F.type_dict_items,T,nd,Calls.callWith_builtin rfl (PySem.evalArgs_none (dict_items hs T ?_))⟩
 have I3:=I2.kept (t':=s1.toks) (h':=s1.heap.push { cls := .type "dict_items",data := .fields #[.ref d] }) λb q z=>Heap.get?_push_of_some _ z
 refine zmo ⟨_,Heap.get?_push_size _ rfl,rfl,rfl⟩ (Heap.get?_push_of_some _ hob) hdd ?_
 refine⟨_,[_],_,_,_,rfl,I3.kept (t':=s1.toks) λb q z=>Heap.get?_push_of_some _ z,zli hdd,⟨_,_,by rw[<- hz];exact Heap.get?_push_size _ rfl⟩,λb hb => ?_,q ob⟩
 have eb:=List.mem_singleton.mp hb
 subst eb
 exact I3.fpOk (Nat.le_refl _) (I3.hok.fresh (Nat.le_refl _))
end
end L2
namespace L2
open PySem PySem.Spec PyProof.Rows
section
variable{prog:Program}{w:World}{κ : Type}[DecidableEq κ]{knd:HeapKind prog w κ}{A:Around}{E:Value->Shared->Prop}{s:Shared}
inductive HHits(A:Around)(s:Shared)(ys:List (κ×Addr×Value)):List (κ×Addr×Value)->Bool->Prop
 | nil:HHits A s ys [] true
 | miss {x : κ×Addr×Value} {r:List (κ×Addr×Value)}:atKey ys x.1=none->HHits A s ys (x :: r) false
 | hit {x : κ×Addr×Value} {p:Addr×Value} {r:List (κ×Addr×Value)} {e c:Bool}:atKey ys x.1=some p->SeqAt.EqAt A s x.2.2 p.2 e->HHits A s ys r c->HHits A s ys (x :: r) (e && c)
theorem HHits.inv{ys:List (κ×Addr×Value)}{x : κ×Addr×Value}{r:List (κ×Addr×Value)}{c:Bool}(h:HHits A s ys (x :: r) c) :
  (atKey ys x.1=none/\c=false)\/∃p e c',atKey ys x.1=some p/\SeqAt.EqAt A s x.2.2 p.2 e/\HHits A s ys r c'/\c=(e && c'):=by
 cases h with
 | miss a=>exact .inl ⟨a,rfl⟩
 | hit a b c=>exact .inr ⟨_,_,_,a,b,c,rfl⟩
theorem zg9{nm:String}{a b:Addr}{xs ys:List (κ×Addr×Value)}{r:Bool}{Q:Bool->Shared->Prop}(hu:knd.room A)(ha:(a == sysModules)=false)(hb:(b == sysModules)=false)(da:s.heap.DictOfH knd a xs)(db:s.heap.DictOfH knd b ys)
  (hits:xs.length=ys.length->HHits A s ys xs r) (h:Q (xs.length == ys.length && r) s):wpAny (model prog w) A (Builtin.Dict.samePairs nm a b) Q E s:=by
 obtain⟨oa,ea,pa,ga,_,ta,la,ka,na⟩:=da
 obtain⟨ob,eb,pb,gb,_,tb,lb,kb,nb⟩:=db
 have za:ea.size=xs.length:=size_of_entries la
 have zb:eb.size=ys.length:=size_of_entries lb
 have no1:¬((a == sysModules)=true):=by rw[ha];exact Bool.false_ne_true
 have no2:¬((b == sysModules)=true):=by rw[hb];exact Bool.false_ne_true
 unfold Builtin.Dict.samePairs Builtin.Dict.showsAll;rw[if_neg no1,if_neg no2]
 refine wpAny_bind (wpAny_pure (wpAny_bind (wpAny_pure (wpAny_bind (wpAny_dictEntries ga ta ?_)))));dsimp only;refine wpAny_bind (wpAny_dictEntries gb tb ?_)
 by_cases hz:xs.length=ys.length
 case neg=>
  have q1:(ea.size != eb.size)=true:=by rw[za,zb];simpa using hz
  have q2:(xs.length == ys.length)=false:=by simpa using hz
  rw[if_pos q1];rw[q2,Bool.false_and]at h
  exact wpAny_bind (wpAny_rule (wpAny_pure h))
 have q1:¬((ea.size != eb.size)=true):=by rw[za,zb,hz];simp
 have h':Q r s:=by simpa[hz]using h
 rw[if_neg q1];refine wpAny_bind (wpAny_dictEpoch ga ta (wpAny_bind ?_));rw[Std.Legacy.Range.forIn_eq_forIn_range'];simp only[Std.Legacy.Range.size,Nat.sub_zero,Nat.add_sub_cancel,Nat.div_one]
 refine wpAny_forIn_list _ (λrest c s'=>s'=s/\c=(none,())/\∃i,rest=List.range' i (ea.size - i)/\i<=ea.size/\HHits A s ys (xs.drop i) r) _ ?_ ?_ _ _ ⟨rfl,rfl,0,by simp,Nat.zero_le _,hits hz⟩
 ·rintro x rest c s' ⟨rfl,rfl,i,er,hi,hp⟩
  have lt:i < ea.size:=Nat.lt_of_not_le λz=>by rw[Nat.sub_eq_zero_of_le z]at er;simp at er
  have es:ea.size - i=(ea.size - (i + 1)) + 1:=by omega
  rw[es,List.range'_succ]at er;injection er with e1 e2;subst e1
  have lx:x < xs.length:=by omega
  have ex:ea[x]? = some (entryOfKey knd xs[x]):=by rw[entry_at la x,List.getElem?_eq_getElem lx];rfl
  have dr:xs.drop x=xs[x] :: xs.drop (x + 1):=List.drop_eq_getElem_cons lx
  refine wpAny_bind (wpAny_dictEntries ga ta ?_);rw[ex];rw[dr]at hp
  show wpAny _ _ (holding [Value.ref xs[x].2.1,xs[x].2.2] _ >>= _) _ _ _
  refine wpAny_bind (wpAny_holding (wpAny_bind (wpAny_dictFind_heap hu (ka _ (List.getElem_mem lx)) gb tb lb kb nb (λno => ?_) λj p hj => ?_)))
  ·rcases hp.inv with⟨_,er⟩ | ⟨p,_,_,hy,_⟩
   ·rw[er]at h';refine wpAny_pure ?_;show wpAny _ _ (if (!false)=true then _ else _) _ _ _;rw[if_pos (by decide)];exact wpAny_pure (wpAny_pure h')
   ·rw[atKey_none_of_get no]at hy;cases hy
  ·have lj:eb[j]? = some (entryOfKey knd (xs[x].1,p)):=by rw[entry_at lb j,hj];rfl
   refine wpAny_bind (wpAny_dictEntries gb tb ?_);rw[lj]
   rcases hp.inv with⟨hn,_⟩ | ⟨p',e,c',hy,he,hr,er⟩
   ·rw[atKey_of_get nb hj]at hn;cases hn
   rw[atKey_of_get nb hj]at hy;injection hy with hy;subst hy
   refine wpAny_holding (he prog w _ _ ?_)
   cases e with
   | false=>rw[er,Bool.false_and]at h';show wpAny _ _ (if (!false)=true then _ else _) _ _ _;rw[if_pos (by decide)];exact wpAny_pure (wpAny_pure h')
   | true=>
    rw[Bool.true_and]at er;rw[<- er]at hr
    show wpAny _ _ (if (!true)=true then _ else _) _ _ _;rw[if_neg (by decide)];refine wpAny_bind (wpAny_dictEpoch ga ta ?_);rw[if_neg (by simp)]
    exact wpAny_pure ⟨rfl,rfl,x + 1,e2,lt,hr⟩
 ·rintro c s' ⟨rfl,rfl,i,er,hi,hp⟩
  have ei:i=ea.size:=Nat.le_antisymm hi (Nat.le_of_not_lt λz=>by
   have es:ea.size - i=(ea.size - (i + 1)) + 1:=by omega
   rw[es,List.range'_succ]at er;cases er)
  refine wpAny_pure ?_;rw[ei,za,List.drop_length]at hp;cases hp;exact h'
theorem zkl{a b:Addr}{xs ys:List (κ×Addr×Value)}{r:Bool}{Q:Value->Shared->Prop}(hu:knd.room A.in1)(hc:A.units < cLine)(ha:(a == sysModules)=false)(hb:(b == sysModules)=false)(da:s.heap.DictOfH knd a xs)(db:s.heap.DictOfH knd b ys)
  (hits:xs.length=ys.length->HHits A.in1 s ys xs r) (h:Q (.bool (xs.length == ys.length && r)) s):wpAny (model prog w) A (compareOp .Eq (.ref a) (.ref b)) Q E s:=by
 refine wpAny_richCompare_same_room (op := .Eq) da.typeIs db.typeIs PySem.F.slot_dict_eq (wpAny_call_entry PySem.F.slot_dict_eq da.typeIs PySem.F.entry_dict_eq ?_ (PySem.F.args_dict_eq_2 _ _)) hc
 show wpAny _ _ (Builtin.Dict.dictSlotArgs "__eq__" ⟨[.ref a,.ref b],[]⟩ >>= _) _ _ s;refine wpAny_bind ?_;unfold Builtin.Dict.dictSlotArgs;refine wpAny_bind (wpAny_notOrdered_dict da.typeIs (wpAny_pure ?_))
 refine wpAny_bind (wpAny_isInstance (T:="dict") db.typeIs PySem.F.sub_dict_dict ?_);simp only[Bool.not_true,Bool.false_eq_true,if_false]
 refine wpAny_bind (wpAny_pure (wpAny_bind (wpAny_pure (wpAny_bind (zg9 hu ha hb da db hits (wpAny_pure ⟨_,rfl,(λx=>nomatch x),?_⟩))))))
 simpa using h
theorem zqr{a b:Addr}{xs ys:List (κ×Addr×Value)}{r:Bool}{Q:Value->Shared->Prop}(hu:knd.room A.in1)(hc:A.units < cLine)(ha:(a == sysModules)=false)(hb:(b == sysModules)=false)(da:s.heap.DictOfH knd a xs)(db:s.heap.DictOfH knd b ys)
  (hits:xs.length=ys.length->HHits A.in1 s ys xs r) (h:Q (.bool (!(xs.length == ys.length && r))) s):wpAny (model prog w) A (compareOp .NotEq (.ref a) (.ref b)) Q E s:=by
 refine wpAny_richCompare_same_room (op := .NotEq) da.typeIs db.typeIs PySem.F.slot_dict_ne (wpAny_call_entry PySem.F.slot_dict_ne da.typeIs PySem.F.entry_dict_ne ?_ (PySem.F.args_dict_ne_2 _ _)) hc
 show wpAny _ _ (Builtin.Dict.dictSlotArgs "__ne__" ⟨[.ref a,.ref b],[]⟩ >>= _) _ _ s;refine wpAny_bind ?_;unfold Builtin.Dict.dictSlotArgs;refine wpAny_bind (wpAny_notOrdered_dict da.typeIs (wpAny_pure ?_))
 refine wpAny_bind (wpAny_isInstance (T:="dict") db.typeIs PySem.F.sub_dict_dict ?_);simp only[Bool.not_true,Bool.false_eq_true,if_false]
 refine wpAny_bind (wpAny_pure (wpAny_bind (wpAny_pure (wpAny_bind (zg9 hu ha hb da db hits (wpAny_pure ⟨_,rfl,(λx=>nomatch x),?_⟩))))))
 simpa using h
theorem zjo{d:Addr}{xs:List (κ×Addr×Value)}{Q:Value->Shared->Prop}(hz:xs.length<=sizeLine)(dd:s.heap.DictOfH knd d xs)(h:∀h',h'.DictOfH knd d []->Heap.SameBut d s.heap h'->Q .none { s with heap:=h' }) :
  wpAny (model prog w) A (call (.builtin "dict.clear") [.ref d]) Q E s:=by
 have T:=dd.typeIs
 obtain⟨o,es,ep,ho,hc,hd,he,hk,hn⟩:=dd
 have hes:es.size<=sizeLine:=by rw[size_of_entries he];exact hz
 refine wpAny_call_entry F.slot_dict_clear T F.entry_dict_clear ?_ (F.args_dict_clear_1 _)
 unfold Builtin.«dict.clear»;refine wpAny_bind ?_;unfold Builtin.Dict.noArgs;refine wpAny_bind (wpAny_notOrdered_dict T (wpAny_pure (wpAny_bind (wpAny_dictEntries ho hd (wpAny_bind ?_)))))
 unfold bearsInstanceDictMark;refine wpAny_bind (wpAny_load ho (wpAny_pure (wpAny_bind (wpAny_updateDictKeys (hz:=hes) ho hd ?_))))
 have new:(s.heap.update d (Obj.mapDictKeys λ_ => #[])).DictOfH knd d []:=⟨_,_,ep + 1,Heap.get?_update_self _ ho (Obj.isFreed_of_dict (Obj.data_mapDictKeys hd _)),hc.mapDictKeys _,Obj.data_mapDictKeys hd _,rfl,λ_ z=>(by cases z),List.nodup_nil⟩
 split
 ·exact wpAny_bind (wpAny_letGo (wpAny_pure ⟨.none,rfl,h _ new (Heap.SameBut.update ..)⟩))
 ·exact wpAny_bind (wpAny_pure (wpAny_pure ⟨.none,rfl,h _ new (Heap.SameBut.update ..)⟩))
end
end L2
namespace L2
open PySem PySem.Spec PyProof.Rows
def KDs(K:W.Frag)(H:Hp):List (List Key×V)->List (List Key×PyData)->Prop:=Paired λp q=>p.1=q.1/\Rds K H p.2 q.2
def findKD(ys:List (List Key×PyData))(k:List Key):Option PyData:=(ys.find? λq=>decide (q.1=k)).map (·.2)
def eqKD(xs ys:List (List Key×PyData)):Bool:=xs.length == ys.length && xs.all λp=>match findKD ys p.1 with | some d=>PyData.eqv p.2 d | none=>false
def Flats(xs:List (List Key×PyData)):Prop:=∀p∈xs,p.2.canLay0=true/\p.2.depth<=60
section
variable{X:Cx}{pins:List (Addr×Obj)}{σ : St}{H:Hp}{s:Shared}
theorem zjf(I:Inv X pins σ H s):∀{kb:List (List Key×V)} {ys:List (List Key×Addr×Value)} {db:List (List Key×PyData)},KT H kb ys->KDs X.K H kb db->Flats db->∀k:List Key,
  (atKey ys k=none/\findKD db k=none)\/∃p d as,atKey ys k=some p/\findKD db k=some d/\Reads s.heap p.2 d as/\d.canLay0=true/\d.depth<=60
 | _,_,_,.nil,.nil,_,_ => .inl ⟨rfl,rfl⟩
 | _,_,_,.cons (a:=a) (b:=b) r t,.cons (b:=c) q u,fl,k=>by
  obtain⟨r1,r2,r3⟩:=r
  obtain⟨q1,q2⟩:=q
  by_cases e:a.1=k
  ·have e1:b.1=k:=r1.symm.trans e
   have e2:c.1=k:=q1.symm.trans e
   obtain⟨as,rd⟩:=I.rds q2 r3
   obtain⟨f1,f2⟩:=fl c (.head _)
   exact .inr ⟨b.2,c.2,as,by simp[atKey,List.find?_cons,e1],by simp[findKD,List.find?_cons,e2],rd,f1,f2⟩
  ·have e1:¬b.1=k:=λz=>e (r1.trans z)
   have e2:¬c.1=k:=λz=>e (q1.trans z)
   have z1:∀l,atKey (b :: l) k=atKey l k:=λl=>by simp[atKey,List.find?_cons,e1]
   have z2:∀l,findKD (c :: l) k=findKD l k:=λl=>by simp[findKD,List.find?_cons,e2]
   rw[z1,z2]
   exact zjf I t u (λp hp=>fl p (.tail _ hp)) k
theorem zhn{A:Around}(hu:A.units + 61 < cLine)(I:Inv X pins σ H s){kb:List (List Key×V)}{ys:List (List Key×Addr×Value)}{db:List (List Key×PyData)}(tb:KT H kb ys)(qb:KDs X.K H kb db)(fb:Flats db) :
  ∀{ka:List (List Key×V)} {xs:List (List Key×Addr×Value)} {da:List (List Key×PyData)},KT H ka xs->KDs X.K H ka da->Flats da->HHits A s ys xs (da.all λp=>match findKD db p.1 with | some d=>PyData.eqv p.2 d | none=>false)
 | _,_,_,.nil,.nil,_ => .nil
 | _,_,_,.cons (a:=a) (b:=b) r t,.cons (b:=c) q u,fl=>by
  obtain⟨r1,r2,r3⟩:=r
  obtain⟨q1,q2⟩:=q
  have ih:=zhn hu I tb qb fb t u λp hp=>fl p (.tail _ hp)
  obtain⟨as,rd⟩:=I.rds q2 r3
  obtain⟨f1,f2⟩:=fl c (.head _)
  rw[List.all_cons]
  rcases zjf I tb qb fb b.1 with⟨h1,h2⟩ | ⟨p,d,bs,h1,h2,h3,h4,h5⟩
  ·rw[<- r1,q1]at h2;rw[h2];exact .miss h1
  ·rw[<- r1,q1]at h2;rw[h2]
   refine .hit h1 (SeqAt.eqAt_reads c.2 d A s _ _ as bs rd h3 f1 h4 ?_) ih
   have:=Nat.min_le_left c.2.depth d.depth
   omega
end
def rEqDT(K:W.Frag)(neg:Bool):R2:=λx y H Q=>∃(a b:Addr) (ka kb:List (List Key×V)) (da db:List (List Key×PyData)),x = .ref a/\y = .ref b/\Rd H a (.dT ka)/\Rd H b (.dT kb)/\KDs K H ka da/\KDs K H kb db/\Flats da/\Flats db/\Q (.bl (xor neg (eqKD da db))) H
section
variable{X:Cx}
theorem zj6(hu:X.A.units + 64 < cLine):OpR X (compareOp .Eq) (rEqDT X.K false):=by
 intro pins s σ H x y u v Q I rx ry h
 obtain⟨a,b,ka,kb,da,db,rfl,rfl,ha,hb,qa,qb,fa,fb,q⟩:=h
 cases rx
 cases ry
 obtain⟨_,sa,xs,ta,ea⟩:=zfw I.hok ha
 obtain⟨_,sb,ys,tb,eb⟩:=zfw I.hok hb
 have lx:xs.length=da.length:=(Paired.length ta).symm.trans (Paired.length qa)
 have ly:ys.length=db.length:=(Paired.length tb).symm.trans (Paired.length qb)
 refine zkl (knd:=tupleKind (mixKind X.prog X.w)) (tupleKind_room_in1 (by omega)) (by omega) sa sb ea eb (λ_=>zhn (by show X.A.units + 1 + 61 < cLine;omega) I tb qb fb ta qa fa) ⟨.bl _,H,I,rfl,?_⟩
 rw[lx,ly]
 have:(false ^^ eqKD da db)=eqKD da db:=Bool.false_xor _
 rw[this]at q
 exact q
theorem zsa(hu:X.A.units + 64 < cLine):OpR X (compareOp .NotEq) (rEqDT X.K true):=by
 intro pins s σ H x y u v Q I rx ry h
 obtain⟨a,b,ka,kb,da,db,rfl,rfl,ha,hb,qa,qb,fa,fb,q⟩:=h
 cases rx
 cases ry
 obtain⟨_,sa,xs,ta,ea⟩:=zfw I.hok ha
 obtain⟨_,sb,ys,tb,eb⟩:=zfw I.hok hb
 have lx:xs.length=da.length:=(Paired.length ta).symm.trans (Paired.length qa)
 have ly:ys.length=db.length:=(Paired.length tb).symm.trans (Paired.length qb)
 refine zqr (knd:=tupleKind (mixKind X.prog X.w)) (tupleKind_room_in1 (by omega)) (by omega) sa sb ea eb (λ_=>zhn (by show X.A.units + 1 + 61 < cLine;omega) I tb qb fb ta qa fa) ⟨.bl _,H,I,rfl,?_⟩
 rw[lx,ly]
 have:(true ^^ eqKD da db) = !eqKD da db:=Bool.true_xor _
 rw[this]at q
 exact q
def rDClear:V->List V->Hp->VK->Prop:=λx vs H Q=>∃d kvs,x = .ref d/\vs=[]/\H d=some (.dT kvs)/\Q .non (upd H d (.dT []))
theorem zme:MtR X "dict.clear" rDClear:=by
 intro pins s σ H x vs v us Q I rx rv h
 obtain⟨d,kvs,rfl,rfl,hH,q⟩:=h
 cases rx
 have hus:=rv.zero
 subst hus
 obtain⟨z,hd,xs,rel,dd⟩:=zpp I.hok hH
 refine zjo (by rw[<- Paired.length rel];exact z) dd λh' dd' hs=>⟨.non,_,?_,rfl,q⟩
 obtain⟨o,es,ep,h1,h2,h3,h4,_,h5⟩:=dd'
 exact zih I (by rw[hH];exact True.intro) hs ⟨o,h1⟩ ⟨Nat.zero_le _,hd,[],.nil,o,es,ep,h1,h2,h3,h4,h5⟩
theorem ziq{o:Expr}{to:TE}{apos cpos:Pos}(ho:PE X o to)(hbase:attributeBase o "clear" X.env (eval o X.env)=eval o X.env:=by rfl)(hline:(apos.endLine == cpos.line)=true:=by rfl) :
  PE X (.Call (.Attribute o "clear" apos) [] [] cpos) (tBM0 X.K "dict" rDClear to):=zrl PySem.F.plainAttrs_dict PySem.F.slot_dict_clear PySem.F.type_dict_clear zme ho hbase hline
end
end L2
namespace L2
open PySem PySem.Spec PyProof.Rows
section
variable{X:Cx}
end
def Ends.thw(H0:Hp)(D:Ends):Ends:={ D with nx:=λσ H=>Thw H0 H (D.nx σ),rt:=λv H=>Thw H0 H (D.rt v) }
section
variable{X:Cx}{st:Stmt}{ss:List Stmt}{t:TS}
theorem SP.thw{pins:List (Addr×Obj)}{D:Ends}{f:Flow}{s:Shared}(h:SP X pins (D.thw X.H₀) f s):SP X pins D f s:=by
 cases f with
 | next=>obtain⟨σ,H,I,q⟩:=h;obtain⟨H',I',q'⟩:=Thw.inv (K:=D.nx σ) q I;exact⟨σ,H',I',q'⟩
 | brk=>exact h
 | cont=>exact h
 | ret u=>obtain⟨v,σ,H,I,r,q⟩:=h;obtain⟨H',I',q'⟩:=Thw.inv (K:=D.rt v) q I;exact⟨v,σ,H',I',r,q'⟩
theorem zil(h:PS X st t):PS X st (λD σ H=>t (D.thw X.H₀) σ H):=λpins s σ H D I q=>thn (h pins s σ H _ I q) λ_ _ z=>z.thw
end
end L2
namespace L2
open PySem PySem.Spec PyProof.Rows
section
variable{prog:Program}{w:World}{A:Around}{E:Value->Shared->Prop}{s:Shared}
end
section
variable{X:Cx}
end
end L2
set_option Elab.async false
set_option linter.all false
set_option maxRecDepth 100000
namespace L2
open PySem PySem.Spec PyProof.Rows
theorem zji{α β : Type}(f : α->β):∀(l:List α) (j:Nat),(l.map f).eraseIdx j=(l.eraseIdx j).map f
 | [],j=>by simp
 | x :: l,0=>by simp
 | x :: l,j + 1=>by simp[zji f l j]
theorem zf1{κ β : Type}[DecidableEq κ]:∀{xs:List (κ×β)} (_:(xs.map (·.1)).Nodup) {j:Nat} {k : κ} {q : β},xs[j]? = some (k,q)->xs.eraseIdx j=xs.filter λx=>decide (x.1≠k)
 | [],_,j,k,q,h=>by simp at h
 | x :: r,hn,0,k,q,h=>by
  simp at h;subst h
  rw[List.map_cons,List.nodup_cons]at hn
  rw[List.eraseIdx_cons_zero,List.filter_cons,if_neg (by simp)]
  refine(List.filter_eq_self.mpr λy hy => ?_).symm
  have:y.1≠k:=λe=>hn.1 (List.mem_map.mpr ⟨y,hy,e⟩)
  simpa using this
 | x :: r,hn,j + 1,k,q,h=>by
  rw[List.getElem?_cons_succ]at h
  rw[List.map_cons,List.nodup_cons]at hn
  have:x.1≠k:=λe=>hn.1 (List.mem_map.mpr ⟨(k,q),List.mem_of_getElem? h,e.symm⟩)
  rw[List.eraseIdx_cons_succ,List.filter_cons,if_pos (by simpa using this),zf1 hn.2 h]
section
variable{prog:Program}{w:World}{κ : Type}[DecidableEq κ]{knd:HeapKind prog w κ}{A:Around}{E:Value->Shared->Prop}{s:Shared}
theorem znx{d a:Addr}{xs:List (κ×Addr×Value)}{k : κ}{p:Addr×Value}{Q:Value->Shared->Prop}(hu:knd.room A.in1)(hkey:knd.is s.heap k a)(hz:xs.length<=sizeLine)(dd:s.heap.DictOfH knd d xs)(hp:atKey xs k=some p)
  (h:∀h',h'.DictOfH knd d (xs.filter λx=>decide (x.1≠k))->Heap.SameBut d s.heap h'->Q p.2 { s with heap:=h',toks:=s.toks + knd.draws k }) :
  wpAny (model prog w) A (call (.builtin "dict.pop") [.ref d,.ref a]) Q E s:=by
 have T:=dd.typeIs
 obtain⟨o,es,ep,ho,hc,hd,he,hk,hn⟩:=dd
 have hes:es.size<=sizeLine:=by rw[size_of_entries he];exact hz
 refine wpAny_call_entry F.slot_dict_pop T F.entry_dict_pop ?_ (F.args_dict_pop_2 _ _)
 unfold Builtin.«dict.pop»
 refine wpAny_bind ?_
 unfold Builtin.Dict.keyAndDefault
 refine wpAny_bind (wpAny_notOrdered_dict T ?_)
 show wpAny _ _ (pure (d,Value.ref a,none)) _ _ s
 refine wpAny_pure ?_
 have kp:(keyPart (.ref a)).isSome=false:=rfl
 simp only[kp,Bool.false_eq_true,if_false]
 refine wpAny_bind (wpAny_dictEntries ho hd (wpAny_bind (wpAny_pure ?_)))
 have ne:es.isEmpty=false:=by
  have:xs≠[]:=λz=>by subst z;simp[atKey]at hp
  have:0 < xs.length:=List.length_pos_iff.mpr this
  have:=size_of_entries he
  simp[Array.isEmpty];intro z;simp[z]at this;omega
 rw[ne]
 simp only[Bool.false_eq_true,if_false]
 refine wpAny_bind ?_
 unfold Builtin.Dict.takeOut
 try with_reducible refine wpAny_holding ?_
 refine wpAny_bind (knd.pyHash hu hkey ?_)
 refine wpAny_bind (wpAny_dictFind_heap (s:={ s with toks:=s.toks + knd.draws k }) hu hkey ho hd he hk hn (λno=>by rw[atKey_none_of_get no]at hp;cases hp) λj q hj => ?_)
 have ej:es[j]? = some (entryOfKey knd (k,q)):=by rw[entry_at he j,hj];rfl
 have eq:q=p:=by rw[atKey_of_get hn hj]at hp;exact Option.some.inj hp
 subst eq
 refine wpAny_bind (wpAny_dictEntries (s:={ s with toks:=s.toks + knd.draws k }) ho hd ?_)
 rw[ej]
 refine wpAny_bind (wpAny_updateDictKeys (hz:=hes) (s:={ s with toks:=s.toks + knd.draws k }) ho hd (wpAny_pure ?_))
 simp only[Option.isNone_some,Bool.false_eq_true,if_false]
 refine wpAny_bind (wpAny_letGo (wpAny_pure ⟨q.2,rfl,h _ ⟨_,_,ep + 1,Heap.get?_update_self _ ho (Obj.isFreed_of_dict (Obj.data_mapDictKeys hd _)),hc.mapDictKeys _,Obj.data_mapDictKeys hd _,?_,?_,?_⟩ (Heap.SameBut.update ..)⟩))
 ·rw[<- zf1 hn hj]
  have:(es.toList.eraseIdx j)=(xs.eraseIdx j).map (entryOfKey knd):=by rw[he,zji]
  rw[<- this]
  obtain⟨l⟩:=es
  simp
 ·intro x hx
  exact knd.keeps (hk x (List.mem_filter.mp hx).1) ho hd (Heap.SameBut.update ..)
 ·exact hn.sublist (List.filter_sublist.map _)
end
theorem KT.drop{H:Hp}{kvs:List (List Key×V)}{xs:List (List Key×Addr×Value)}(r:KT H kvs xs)(k:List Key):KT H (dropK kvs k) (xs.filter λx=>decide (x.1≠k)):=by
 unfold dropK
 induction r with
 | nil=>exact .nil
 | @cons p q ps qs h t ih=>
  obtain⟨h1,h2⟩:=h
  rw[List.filter_cons,List.filter_cons]
  by_cases e:p.1=k
  ·have a:¬decide (p.1≠k)=true:=by simp[e]
   have b:¬decide (q.1≠k)=true:=by simp[h1.symm.trans e]
   rw[if_neg a,if_neg b];exact ih
  ·have e':¬q.1=k:=λz=>e (h1.trans z)
   have a:decide (p.1≠k)=true:=by simp[e]
   have b:decide (q.1≠k)=true:=by simp[e']
   rw[if_pos a,if_pos b];exact .cons ⟨h1,h2⟩ ih
section
variable{X:Cx}
def rDPop:V->List V->Hp->VK->Prop:=λx vs H Q=>∃d b kvs k v,x = .ref d/\vs=[.ref b]/\H d=some (.dT kvs)/\H b=some (.tup (k.map kV))/\valV kvs k=some v/\Q v (upd H d (.dT (dropK kvs k)))
theorem zs2(hu:X.A.units + 1 < cLine):MtR X "dict.pop" rDPop:=by
 intro pins s σ H x vs v us Q I rx rv h
 obtain⟨d,b,kvs,k,val,rfl,rfl,hH,hb,hv,q⟩:=h
 cases rx
 obtain⟨u,rfl,ru⟩:=vals1 rv
 cases ru
 obtain⟨z,hd,xs,rel,dd⟩:=zpp I.hok hH
 have hz:xs.length<=sizeLine:=by rw[<- Paired.length rel];exact z
 obtain⟨w',hw,rw'⟩:=RelO.some_of (v:=val) (o:=(atKey xs k).map (·.2)) (by rw[<- hv];exact rel.val k)
 obtain⟨p,hp,rfl⟩:=Option.map_eq_some_iff.mp hw
 refine znx (knd:=tupleKind (mixKind X.prog X.w)) (tupleKind_room_in1 hu) (zhl I.hok hb) hz dd hp λh' dd' hs=>⟨val,_,?_,rw',q⟩
 obtain⟨o,es,ep,h1,h2,h3,h4,_,h5⟩:=dd'
 refine zih I (by rw[hH];exact True.intro) hs ⟨o,h1⟩ ⟨Nat.le_trans (zic kvs k) z,hd,_,(rel.drop k).keeps λc ys ec => ?_,o,es,ep,h1,h2,h3,h4,h5⟩
 rw[zao (zdk ec hH (λz=>nomatch z))];exact ec
theorem zjy{o e:Expr}{to:TE}{t:TA}{apos cpos:Pos}(hu:X.A.units + 1 < cLine)(ho:PE X o to)(ha:PA X [e] t)(hbase:attributeBase o "pop" X.env (eval o X.env)=eval o X.env:=by rfl)
  (hfew:((backTo cpos (starEach (e :: []) X.env)).all (λx => !x.1) && (backToKw cpos (keywordEach [] X.env)).all (λx=>x.1.isSome)
   && decide ((e :: []).length + ([]:List Keyword).length + (if ([]:List Keyword).isEmpty then 0 else 1) < 30))=true:=by rfl)
  (hline:(apos.endLine == cpos.line)=true:=by rfl) (hs:starEach (e :: []) X.env=(false,eval e X.env) :: starEach [] X.env:=by rfl) (hplain:(backTo cpos (starEach [] X.env)).any (·.1)=false:=by rfl) :
  PE X (.Call (.Attribute o "pop" apos) [e] [] cpos) (tBM X.K "dict" rDPop to t):=ztn PySem.F.plainAttrs_dict PySem.F.slot_dict_pop PySem.F.type_dict_pop (zs2 hu) ho ha hbase hfew hline hs hplain
end
theorem zfr{d:Addr}{o:Obj}{kvs:List (List Key×V)}{g:TG}{tb:TS}{D:Ends}{σ : St}{H:Hp}(Pv:Nat->St->Hp->Prop)(h0:Pv 0 σ H)(hl:∀i σ H,Pv i σ H->FzD H d o kvs)
  (hs:∀i k v σ H p b,kvs[i]? = some (k,v)->Pv i σ H->H p=none->H b=some (.tup (k.map kV))->g (.ref p) σ (upd H p (.tup [.ref b,v])) λσ2 H2=>tb { D with nx:=Pv (i + 1),ct:=Pv (i + 1),bk:=D.nx } σ2 H2) (hd:∀σ H,Pv kvs.length σ H->D.nx σ H) :
  ∃W:Nat->Nat->St->Hp->Prop,(∃m,W 0 m σ H)/\∀i m σ H,W i m σ H ->
   ((ItI d o kvs).stop i H/\D.nx σ H)\/((ItI d o kvs).go i H/\∃N:St->Hp->Prop,(∀σ' H',N σ' H'->∃m',m' < m/\W (i + 1) m' σ' H')/\∀x H',(ItI d o kvs).yld i H x H'->g x σ H' λσ2 H2=>tb { D with nx:=N,ct:=N,bk:=D.nx } σ2 H2):=by
 refine⟨λi m σ H=>m=kvs.length - i/\i<=kvs.length/\Pv i σ H,⟨kvs.length,by simp,Nat.zero_le _,h0⟩,?_⟩
 rintro i m σ H ⟨rfl,hi,p⟩
 have q:=hl i σ H p
 by_cases hlt:i < kvs.length
 ·refine .inr ⟨⟨q,hlt⟩,Pv (i + 1),λσ' H' p'=>⟨kvs.length - (i + 1),by omega,rfl,hlt,p'⟩,λx H' y => ?_⟩
  obtain⟨p',b,k,v,hp,hk,hb,rfl,rfl⟩:=y
  exact hs i k v σ H p' b hk p hp hb
 ·have z:i=kvs.length:=by omega
  subst z
  exact .inl ⟨⟨q,Nat.le_refl _⟩,hd σ H p⟩
section
variable{prog:Program}{w:World}{κ : Type}[DecidableEq κ]{knd:HeapKind prog w κ}{A:Around}{E:Value->Shared->Prop}{s:Shared}
end
end L2
namespace L2
open PySem PySem.Spec PyProof.Rows
end L2
namespace L2
open PySem PySem.Spec PyProof.Rows
end L2
namespace L2
open PySem PySem.Spec PyProof.Rows
def hsI(xs:List Int):Int:=reduceHash (Builtin.Tuple.tupleHashOf (xs.map hashInt))
theorem zfo{α : Type}{f : α->Int}:∀{l:List α} {e : α},(l.map f).Nodup->e∈l->(l.filter λx=>f x == f e).length<=1
 | [],e,_,h=>by cases h
 | x :: l,e,hn,h=>by
  rw[List.map_cons,List.nodup_cons]at hn
  rw[List.filter_cons]
  by_cases q:f x=f e
  ·have z:(l.filter λy=>f y == f e)=[]:=by
    rw[List.filter_eq_nil_iff]
    intro y hy hb
    exact hn.1 (List.mem_map.mpr ⟨y,hy,(beq_iff_eq.mp hb).trans q.symm⟩)
   rw[if_pos (beq_iff_eq.mpr q),z];exact Nat.le_refl 1
  ·rw[if_neg (λz=>q (beq_iff_eq.mp z))]
   refine zfo hn.2 ?_
   rcases List.mem_cons.mp h with z | z
   ·exact absurd (congrArg f z.symm) q
   ·exact z
section
variable{prog:Program}{w:World}{κ : Type}[DecidableEq κ]{kk:KeyKind prog w κ}{A:Around}{E:Value->Shared->Prop}{s:Shared}
theorem zjn{a:Addr}{Q:Bool->Shared->Prop}(hT:s.TypeIs (.ref a) "tuple")(h:Q false s):wpAny (model prog w) A (Builtin.Dict.quietEq (.ref a)) Q E s:=by
 unfold Builtin.Dict.quietEq
 refine wpAny_bind (wpAny_specialOf hT F.slot_tuple_eq.lookup (wpAny_pure ?_))
 exact h
theorem zls{nm:String}{o:Addr}{ob:Obj}{es:Array DictEntry}{ep:Nat}{xs:List (List κ×Addr×Value)}{Q:Array DictEntry->Shared->Prop}(hob:s.heap.get? o=some ob)(hdt:ob.data = .dict es ep)
  (he:es.toList=xs.map (entryOfKey (tupleKind kk))) (hk:∀x∈xs,(tupleKind kk).is s.heap x.1 x.2.1) (hn:(xs.map λx=>(tupleKind kk).hash x.1).Nodup) (h:Q es s):wpAny (model prog w) A (Builtin.Dict.entriesForEmpty nm o) Q E s:=by
 unfold Builtin.Dict.entriesForEmpty
 refine wpAny_bind (wpAny_dictEntries hob hdt ?_)
 refine wpAny_bind ?_
 rw[<- Array.forIn_toList]
 have hn':(es.toList.map (·.hash)).Nodup:=by rw[he,List.map_map];exact hn
 refine wpAny_forIn_list _ (λrest (_:PUnit) s'=>s'=s/\∀e∈rest,e∈es.toList) _ ?_ ?_ _ _ ⟨rfl,λe z=>z⟩
 ·rintro e rest b s' ⟨rfl,hin⟩
  have hm:=hin e List.mem_cons_self
  obtain⟨x,hx,rfl⟩:=List.mem_map.mp (by rw[<- he];exact hm)
  refine wpAny_bind (zjn (IsTupleKey.typeIs (hk x hx)) ?_)
  simp only[Bool.not_false,if_true]
  have le:¬((es.filter λz=>z.hash == (entryOfKey (tupleKind kk) x).hash).size > 1):=by
   obtain⟨l⟩:=es
   have q:(l.filter λz=>z.hash == (entryOfKey (tupleKind kk) x).hash).length<=1:=zfo (f:=λz:DictEntry=>z.hash) hn' hm
   have:(Array.filter (λz=>z.hash == (entryOfKey (tupleKind kk) x).hash) { toList:=l }).size=(l.filter λz=>z.hash == (entryOfKey (tupleKind kk) x).hash).length:=by simp
   omega
  rw[if_neg le]
  exact wpAny_pure ⟨rfl,λe he=>hin e (List.mem_cons_of_mem _ he)⟩
 ·rintro b s' ⟨rfl,_⟩
  exact wpAny_pure h
theorem mergeH{nm:String}{d o:Addr}{xs:List (List κ×Addr×Value)}{Q:Unit->Shared->Prop}(hdo:d≠o)(hoS:(o == sysModules)=false)
  (hd:s.heap.DictOfH (tupleKind kk) d []) (ho:s.heap.DictOfH (tupleKind kk) o xs) (hn:(xs.map λx=>(tupleKind kk).hash x.1).Nodup)
  (hQ:∀h',h'.DictOfH (tupleKind kk) d xs->Heap.SameBut d s.heap h'->Q () { s with heap:=h' }) (hsz:xs.length<=sizeLine) :
  wpAny (model prog w) A (Builtin.Dict.mergeDict nm d o) Q E s:=by
 obtain⟨od,esd,epd,hod,hcd,hdd,hed,hkd,hnd⟩:=id hd
 obtain⟨oo,eso,epo,hoo,hco,hdo',heo,hko,hno⟩:=id ho
 unfold Builtin.Dict.mergeDict
 rw[if_neg (by simpa using hdo)]
 unfold Builtin.Dict.showsAll
 rw[if_neg (by rw[hoS];exact Bool.false_ne_true)]
 refine wpAny_bind (wpAny_pure ?_)
 refine wpAny_bind (wpAny_dictEntries hoo hdo' ?_)
 have hde:esd.isEmpty=true:=by
  obtain⟨l⟩:=esd
  have:l=[]:=hed
  subst this;rfl
 cases xs with
 | nil=>
  have hoe:eso = #[]:=by
   obtain⟨l⟩:=eso
   have:l=[]:=heo
   subst this;rfl
  subst hoe
  have few:(decide ((#[]:Array DictEntry).size<=8) && (#[]:Array DictEntry).all λe=>(keyPart e.key).isSome)=true:=by simp
  simp only[few,Bool.not_true,Bool.false_eq_true,if_false]
  refine wpAny_bind (wpAny_dictEpoch hoo hdo' ?_)
  refine wpAny_bind (wpAny_dictEntries hoo hdo' ?_)
  refine wpAny_bind ?_
  rw[Std.Legacy.Range.forIn_eq_forIn_range']
  refine wpAny_forIn_list _ (λrest (_:PUnit) s'=>rest=[]/\s'=s) _ ?_ ?_ _ _ ⟨rfl,rfl⟩
  ·rintro x rest b s' ⟨z,_⟩;cases z
  ·rintro b s' ⟨_,rfl⟩
   exact wpAny_pure (hQ _ hd (Heap.SameBut.refl _ _))
 | cons x xs=>
  have hne:¬(eso.isEmpty=true):=by
   obtain⟨l⟩:=eso
   have:l=(x :: xs).map (entryOfKey (tupleKind kk)):=heo
   subst this;simp
  have few:(decide (eso.size<=8) && eso.all λe=>(keyPart e.key).isSome)=false:=by
   obtain⟨l⟩:=eso
   have:l=(x :: xs).map (entryOfKey (tupleKind kk)):=heo
   subst this
   have:(keyPart (entryOfKey (tupleKind kk) x).key).isSome=false:=rfl
   simp[this]
  simp only[few,Bool.not_false,if_true]
  refine wpAny_bind (wpAny_dictEntries hod hdd ?_)
  simp only[hde,if_true]
  refine wpAny_bind (zls hoo hdo' heo hko hn ?_)
  rw[Bool.eq_false_iff.mpr hne]
  simp only[Bool.not_false,if_true]
  refine wpAny_bind (wpAny_updateDictKeysTo (hz':=by
   have:eso.size=(x :: xs).length:=by rw[<- Array.length_toList,heo,List.length_map]
   show eso.size<=_
   omega) hod hdd (wpAny_pure (hQ _ ⟨_,_,epd + 1,Heap.get?_update_self _ hod (Obj.isFreed_of_dict (Obj.data_mapDictKeys hdd _)),
   hcd.mapDictKeys _,Obj.data_mapDictKeys hdd _,heo,λx hx => ?_,hno⟩ (Heap.SameBut.update ..))))
  exact(tupleKind kk).keeps (hko x hx) hod hdd (Heap.SameBut.update ..)
theorem zlq{o:Addr}{xs:List (List κ×Addr×Value)}{Q:Value->Shared->Prop}(hoS:(o == sysModules)=false)(ho:s.heap.DictOfH (tupleKind kk) o xs)(hn:(xs.map λx=>(tupleKind kk).hash x.1).Nodup)(hsz:xs.length<=sizeLine)
  (h:∀h',h'.DictOfH (tupleKind kk) s.heap.objs.size xs->Heap.SameBut s.heap.objs.size (s.heap.push { cls := .type "dict",data := .dict #[] }) h'->Q (.ref s.heap.objs.size) { s with heap:=h' }) :
  wpAny (model prog w) A (call (.type "dict") [.ref o]) Q E s:=by
 refine callType_codes (Q₁:=λobj s₁=>obj = .ref s.heap.objs.size/\s₁={ s with heap:=s.heap.push { cls := .type "dict",data := .dict #[] } }) F.kt_called_dict (F.kt_typeCall_dict_1 _) F.entry_dict_init (kt_code_dict_new _ ⟨rfl,rfl⟩) ?_
 rintro obj s₁ ⟨rfl,rfl⟩
 have hnew:(s.heap.push { cls := .type "dict",data := .dict #[] }).DictOfH (tupleKind kk) s.heap.objs.size []:=⟨_,_,_,Heap.get?_push_size _ rfl,⟨rfl,rfl,rfl⟩,rfl,rfl,λx hx=>(by cases hx),List.nodup_nil⟩
 have hdo:s.heap.objs.size≠o:=by
  obtain⟨_,_,_,hg,_⟩:=ho
  exact λe=>absurd (Heap.lt_size hg) (by rw[e];exact Nat.lt_irrefl _)
 have ho':(s.heap.push { cls := .type "dict",data := .dict #[] }).DictOfH (tupleKind kk) o xs:=by
  obtain⟨ob,es,ep,h1,h2,h3,h4,h5,h6⟩:=ho
  refine⟨ob,es,ep,Heap.get?_push_of_some _ h1,h2,h3,h4,λx hx => ?_,h6⟩
  obtain⟨q1,q2,q3,q4,q5⟩:=h5 x hx
  exact⟨q1,q2,q3,Heap.get?_push_of_some _ q4,q5⟩
 refine⟨hnew.typeIs,F.args_dict_init_2 _ _,?_⟩
 unfold Builtin.«dict.__init__»
 refine wpAny_bind ?_
 unfold Builtin.Dict.selfAndRest
 refine wpAny_bind (wpAny_notOrdered_dict hnew.typeIs ?_)
 show wpAny _ _ (pure (s.heap.objs.size,[Value.ref o])) _ _ _
 refine wpAny_pure ?_
 show wpAny _ _ (Builtin.Dict.updateFrom "dict.__init__" s.heap.objs.size (.ref o) [] .none) _ _ _
 unfold Builtin.Dict.updateFrom
 refine wpAny_bind (wpAny_typeOf ho'.typeIs ?_)
 rw[if_neg (by decide)]
 refine wpAny_bind ?_
 unfold Builtin.Dict.merge
 refine wpAny_bind ?_
 unfold Builtin.Dict.readDirectly
 refine wpAny_bind (wpAny_isInstance ho'.typeIs isSubtype_dict_dict ?_)
 simp only[Bool.not_true,Bool.false_eq_true,if_false]
 refine wpAny_bind (wpAny_specialOf ho'.typeIs F.slot_dict_iter.lookup (wpAny_pure ?_))
 simp only[beq_self_eq_true,if_true]
 refine wpAny_bind (wpAny_pure ?_)
 refine mergeH (hsz:=hsz) hdo hoS hnew ho' hn λh' hd' hs' => ?_
 show wpAny _ _ (Builtin.Dict.addKeywords s.heap.objs.size [] >>= _) _ _ _
 exact wpAny_bind (wpAny_pure (wpAny_pure ⟨rfl,h h' hd' hs'⟩))
end
def HDs(kvs:List (List Key×V)):Prop:=∃ts:List (List Int),kvs.map (·.1)=ts.map (λt=>t.map Sum.inl)/\(ts.map hsI).Nodup
theorem KT.keysEq{H:Hp}{kvs:List (List Key×V)}{xs:List (List Key×Addr×Value)}(r:KT H kvs xs):xs.map (·.1)=kvs.map (·.1):=by
 induction r with
 | nil=>rfl
 | cons h t ih=>rw[List.map_cons,List.map_cons,ih,h.1]
section
variable{X:Cx}
theorem zrt(P:Program)(w:World)(t:List Int):(tupleKind (mixKind P w)).hash (t.map Sum.inl)=hsI t:=by
 show reduceHash (Builtin.Tuple.tupleHashOf ((t.map Sum.inl).map (mixKind P w).hash))=_
 rw[List.map_map];rfl
theorem zfy:CallR X (.type "dict") (λxs H Q=>∃d kvs,xs=[.ref d]/\H d=some (.dT kvs)/\HDs kvs/\∀p,H p=none->Q (.ref p) (upd H p (.dT kvs))):=by
 intro pins s σ H xs us Q I r h
 obtain⟨d,kvs,rfl,hH,⟨ts,hts,htn⟩,q⟩:=h
 obtain⟨u,rfl,rx⟩:=vals1 r
 cases rx
 obtain⟨z,hd,ys,rel,dd⟩:=zpp I.hok hH
 have hz:ys.length<=sizeLine:=by rw[<- Paired.length rel];exact z
 have kys:ys.map (·.1)=kvs.map (·.1):=KT.keysEq rel
 have hn:(ys.map λx=>(tupleKind (mixKind X.prog X.w)).hash x.1).Nodup:=by
  have e:(ys.map λx=>(tupleKind (mixKind X.prog X.w)).hash x.1)=(ys.map (·.1)).map (tupleKind (mixKind X.prog X.w)).hash:=by rw[List.map_map];rfl
  rw[e,kys,hts,List.map_map]
  have e2:(ts.map ((tupleKind (mixKind X.prog X.w)).hash ∘ λt=>t.map Sum.inl))=ts.map hsI:=List.map_congr_left λt _=>zrt _ _ t
  rw[e2];exact htn
 refine zlq (kk:=mixKind X.prog X.w) hd dd hn hz λh' dd' hs => ?_
 have kp:∀b o',s.heap.get? b=some o'->h'.get? b=some o':=λb o' e=>by
  rw[hs.2 b (Nat.ne_of_lt (Heap.lt_size e))];exact Heap.get?_push_of_some _ e
 obtain⟨o,es,ep,h1,h2,h3,h4,_,h5⟩:=dd'
 have nf:=I.hok.fresh (Nat.le_refl s.heap.objs.size)
 refine⟨.ref s.heap.objs.size,_,I.laid (t':=s.toks) kp (Nat.le_refl _) (show ObjOk X.prog X.w _ h' _ (.dT kvs) from⟨z,?_,ys,rel.keeps λc yy ec => ?_,o,es,ep,h1,h2,h3,h4,h5⟩),rfl,q _ nf⟩
 ·exact beq_eq_false_iff_ne.mpr (Nat.ne_of_gt I.big)
 ·rw[zao (λe=>by rw[e,nf]at ec;cases ec)];exact ec
end
end L2
namespace L2
open PySem PySem.Spec PyProof.Rows TS
section
variable{X:Cx}{pins:List (Addr×Obj)}{σ : St}{H:Hp}{s:Shared}{x y:Str}{qual:Str}{scope:Scope}{q c' c:Addr}{A:Around}{u uy:Value}{xv yv:V}
end
section
variable{X:Cx}{j i:Nat}{p pos kpos rpos cpos lp:Pos}{e body:Expr}{te tb:TE}{P cc:Addr}{params:Arguments}{scope:Scope}{x y g:Str}{kg:NameKind}
end
end L2
namespace L2
open PySem PySem.Spec PyProof.Rows
end L2
namespace L2
open PySem PySem.Spec PyProof.Rows
section
variable{prog:Program}{w:World}{A:Around}{E:Value->Shared->Prop}{s:Shared}
end
end L2
namespace L2
open PySem PySem.Spec PyProof.Rows
section
variable{prog:Program}{w:World}{d:Addr}{ep:Nat}{es:Array DictEntry}{o:Obj}
theorem dsrc(hs:(d == sysModules)=false)(hc:o.cls = .type "dict")(hdd:o.data = .dict es ep):W.KdlSrc prog w "dict" d d es.size (λi v=>∃e,es[i]? = some e/\v=e.key) (λh=>h.get? d=some o) where
 type:=λs hm=>⟨o,hm,hc⟩
 there:=λ_ hm=>⟨Heap.lt_size hm,Heap.lt_size hm⟩
 keep:=λ_ _ hm hk=>hk d (.inl rfl) o hm
 notList:=by decide
 notTuple:=by decide
 hint:=λ_ _ s _ hm hq=>W.kdl_hint_dict (s:=s) ⟨o,hm,hc⟩ hq
 iter:=λA s hh hm=>⟨_,λi h=>h.IsKeyIter s.heap.objs.size d i es.size ep/\h.get? d=some o,(λ_ _ hq=>zio hs ⟨o,hm,hc⟩ hm hdd hq),{
   sub:=λb hb=>by simp at hb;simp[hb]
   frame:=λ_ _ _ st hk=>⟨st.1.at λo e=>hk _ (by simp) o e,hk d (by simp) o st.2⟩
   item:=λi s' Q E hi st hQ=>by
    obtain⟨e,he⟩:∃e,es[i]? = some e:=⟨es[i],Array.getElem?_eq_getElem hi⟩
    refine zk0 st.1 st.2 hdd rfl he λh' hit' hs' => ?_
    exact hQ e.key h' s'.toks ⟨e,he,rfl⟩ ⟨hit',hs'.extBut d o (Nat.ne_of_lt (Heap.lt_size hm)) st.2⟩ λb o hb e=>hs'.extBut b o (λh=>hb (by simp[h])) e
   done:=λs' Q E st hQ=>zl4 hh st.1 st.2 hdd rfl (Nat.le_refl _) λh' he'=>hQ h' s'.toks λb o hb e=>he' b o (λh=>hb (by simp[h])) e
   self:=λ_ _ _ _ st hQ=>wpAny_pyIter_keyiter st.1 hQ },⟨⟨_,Heap.get?_push_size _ rfl,rfl,rfl⟩,Heap.get?_push_of_some _ hm⟩⟩
end
section
variable{X:Cx}
theorem zlv(hc:X.calm=true):CallR X (.type "list") (λxs H Q=>∃d kvs,xs=[.ref d]/\Rd H d (.dT kvs)/\∀(l:Addr) (as:List Addr),H l=none->as.length=kvs.length->(∀(i:Nat) k x,kvs[i]? = some (k,x)->∃a,as[i]? = some a/\H a=some (.tup (k.map kV))) ->
  Q (.ref l) (upd H l (.lst (as.map V.ref)))):=by
 intro pins s σ H xs us Q I r h
 obtain⟨d,kvs,rfl,hd,q⟩:=h
 obtain⟨u,rfl,rx⟩:=vals1 r
 cases rx
 obtain⟨zl,hds,ys,rel,ob,es,ep,g1,g2,g3,g4,g5,g6⟩:=zfw I.hok hd
 have le:es.size=kvs.length:=(size_of_entries g4).trans (Paired.length rel).symm
 refine W.kdl_call (dsrc hds g2.1 g3) (I.ok.hd hc) g1 (by omega) λh' tk acc c kp hS hI => ?_
 have row:∀(i:Nat) k x,kvs[i]? = some (k,x)->∃a,acc[i]? = some (.ref a)/\H a=some (.tup (k.map kV)):=λi k x hk=>by
  obtain⟨y,hy,e1,e2,e3⟩:=Paired.at' rel hk
  have hi:i < acc.size:=by
   rcases Nat.lt_or_ge i kvs.length with z | z
   ·rw[hI.1];omega
   ·rw[List.getElem?_eq_none z]at hk;cases hk
  obtain⟨e,he,hv⟩:=hI.2 i acc[i] (Array.getElem?_eq_getElem hi)
  have:es[i]? = some (entryOfKey (tupleKind (mixKind X.prog X.w)) y):=by
   have z:es.toList[i]? = some (entryOfKey (tupleKind (mixKind X.prog X.w)) y):=by rw[g4,List.getElem?_map,hy];rfl
   simpa using z
  rw[this]at he;injection he with he;subst he
  exact⟨y.2.1,by rw[Array.getElem?_eq_getElem hi,hv];rfl,e2⟩
 obtain⟨as,hl,has⟩:∃as:List Addr,as.length=kvs.length/\acc.toList=as.map Value.ref:=by
  have key:∀n,n<=kvs.length->∃as:List Addr,as.length=n/\acc.toList.take n=as.map Value.ref:=by
   intro n
   induction n with
   | zero=>intro _;exact⟨[],rfl,rfl⟩
   | succ n ih=>
    intro hn
    obtain⟨as,h1,h2⟩:=ih (by omega)
    obtain⟨⟨k,x⟩,hk⟩:∃p,kvs[n]? = some p:=⟨kvs[n],List.getElem?_eq_getElem (by omega)⟩
    obtain⟨a,ha,_⟩:=row n k x hk
    refine⟨as ++ [a],by rw[List.length_append,h1];rfl,?_⟩
    have ha':acc.toList[n]? = some (Value.ref a):=by simpa using ha
    rw[List.take_add_one,ha',h2,List.map_append];rfl
  obtain⟨as,h1,h2⟩:=key kvs.length (Nat.le_refl _)
  refine⟨as,h1,?_⟩
  rwa [List.take_of_length_le (by rw[Array.length_toList,hI.1];omega)]at h2
 have hD:h'.get? s.heap.objs.size=some { cls := .type "list",data := .seq (as.map Value.ref).toArray c }:=by rw[<- has];simpa using hS
 have vv:Vals (as.map V.ref) (as.map Value.ref):=by
  clear has hl row hD
  induction as with
  | nil=>exact .nil
  | cons a as ih=>exact .cons rfl ih
 refine⟨.ref s.heap.objs.size,_,I.laid (t':=tk) kp (Nat.le_refl _) ?_,rfl,q s.heap.objs.size as (I.hok.fresh (Nat.le_refl _)) hl λi k x hk => ?_⟩
 ·exact⟨by rw[List.length_map,hl];exact zl,_,c,vv,hD⟩
 ·obtain⟨a,ha,e⟩:=row i k x hk
  refine⟨a,?_,e⟩
  have ha':acc.toList[i]? = some (Value.ref a):=by simpa using ha
  rw[has,List.getElem?_map]at ha'
  cases q2:as[i]? with
  | none=>rw[q2]at ha';cases ha'
  | some b=>rw[q2]at ha';injection ha' with ha';injection ha' with ha';rw[ha']
end
end L2
namespace L2
open PySem PySem.Spec PyProof.Rows
section
variable{P:Program}{w:World}{K:W.Frag}{mg:Str->Option Value}{base:Heap}{x qual:Str}{st:Stmt}{dV:Value}{f:Addr}{fd:FuncData}{N ps:List Str}{k:Nat}{sp:Sp}
end
end L2
namespace L2
open PySem PySem.Spec PyProof.Rows
section
variable{prog:Program}{w:World}{A:Around}{E:Value->Shared->Prop}{l It S:Addr}
end
section
variable{X:Cx}{j:Nat}{p pos kpos:Pos}{e o:Expr}{te td:TE}
end
end L2
set_option Elab.async false
set_option linter.all false
set_option maxRecDepth 100000
namespace L2
open PySem PySem.Spec PyProof.Rows
section
variable{prog:Program}{w:World}{A:Around}{E:Value->Shared->Prop}{s:Shared}{r l:Addr}
end
section
variable{X:Cx}
end
end L2
namespace L2
open PySem PySem.Spec PyProof.Rows
section
variable{prog:Program}{w:World}{A:Around}{E:Value->Shared->Prop}{l It S:Addr}
end
section
variable{X:Cx}{j:Nat}{p pos kpos:Pos}{e o:Expr}{te td:TE}
end
end L2
set_option Elab.async false
set_option linter.all false
set_option maxRecDepth 100000
namespace L2
open PySem PySem.Spec PySem.W PySem.Calls PyProof.Rows Builtin Builtin.ObjectAttr Builtin.Getset_descriptor
section
variable{prog:Program}{w:World}{A:Around}{E:Value->Shared->Prop}{s:Shared}{K:Frag}{x C:Addr}
end
end L2
namespace L2
open PySem PySem.Spec PyProof.Rows
section
variable{X:Cx}{pins:List (Addr×Obj)}{σ : St}{H:Hp}{s:Shared}{i:Nat}{n:Str}{pos:Pos}
end
end L2
namespace L2
open PySem PySem.Spec PyProof.Rows TS
section
variable{X:Cx}{j i:Nat}{p pos kpos rpos cpos lp:Pos}{e body:Expr}{te tb:TE}{P cc:Addr}{params:Arguments}{scope:Scope}{x y g:Str}{kg:NameKind}
end
end L2
namespace L2
open PySem PySem.Spec PyProof.Rows MeetsSeq3
open AutoSeq1 (wpAny_loadPart')
section
variable{prog:Program}{w:World}
set_option maxHeartbeats 4000000 in
theorem zkk(l b:Addr)(xs ys:Array Value)(n n2:Nat)(neg:Bool)(hsz:xs.size=ys.size)(e:Nat->Bool)(k:Nat) :
  ∀(i:Nat),xs.size - i=k->MeetsIn prog w (Builtin.«list.__eq__.loop» ⟨[.ref l,.ref b,rawInt i,rawInt (if neg then 3 else 2)],[]⟩)
   (λA R s=>s.heap.get? l=some { cls := .type "list",data := .seq xs n }/\s.heap.get? b=some { cls := .type "list",data := .seq ys n2 } /\
    (∀j (h1:j < xs.size) (h2:j < ys.size) (E:Value->Shared->Prop) (Q:Bool->Shared->Prop),Q (e j) s->wpAny (model prog w) A.in1 (eqBool xs[j] ys[j]) Q E s) /\
    R (.ok (.ret (.bool (xor neg (((List.range xs.size).drop i).all e))))) s):=by
 induction k with
 | zero=>
  rintro i hk A R ⟨hp,g,d,tk,os⟩ ⟨hl,hb,he,h⟩
  cases neg <;>
  ·wp_walk using wpAny_loadPart' hl,wpAny_loadPart' hb
   have i1:xs[((i:Nat):Int).toNat]? = none:=by simp;omega
   have i2:ys[((i:Nat):Int).toNat]? = none:=by simp;omega
   have hd:(List.range xs.size).drop i=[]:=by simp;omega
   rw[hd]at h;rw[i1,i2]
   wp_walk using wpAny_loadPart' hl,wpAny_loadPart' hb
   first
    | (show R (.ok (.ret (.bool (xs.size == ys.size)))) _;rw[hsz];simpa using h)
    | (show R (.ok (.ret (.bool (xs.size != ys.size)))) _;rw[hsz];simpa using h)
 | succ k ih=>
  rintro i hk A R ⟨hp,g,d,tk,os⟩ ⟨hl,hb,he,h⟩
  have l1:i < xs.size:=by omega
  have l2:i < ys.size:=by omega
  have i1:xs[((i:Nat):Int).toNat]? = some xs[i]:=by simp[l1]
  have i2:ys[((i:Nat):Int).toNat]? = some ys[i]:=by simp[l2]
  have hd:(List.range xs.size).drop i=i :: (List.range xs.size).drop (i + 1):=by simp[List.drop_eq_getElem_cons,l1]
  have hc:((i:Int) + 1)=((i + 1:Nat):Int):=by push_cast;rfl
  have ih:=ih (i + 1) (by omega)
  rw[hd,List.all_cons]at h
  cases neg <;>
  ·wp_walk using wpAny_loadPart' hl,wpAny_loadPart' hb
   rw[i1,i2]
   refine wpAny_bind (he i l1 l2 _ _ ?_)
   cases hb':e i with
   | true=>
    rw[hb']at h
    wp_walk
    rw[hc]
    exact⟨plainId_quiet plain_eq_loop _,codeAny_builtin entry_eq_loop (by
     rw[Around.under_plainId plain_eq_loop _];exact ih A R _ ⟨hl,hb,he,by simpa using h⟩)⟩
   | false=>
    rw[hb']at h
    wp_walk using wpAny_loadPart' hl,wpAny_loadPart' hb
    rw[i1,i2]
    wp_walk
    simpa using h
set_option maxHeartbeats 4000000 in
theorem zp7(l b:Addr)(xs ys:Array Value)(n n2:Nat)(neg:Bool)(e:Nat->Bool) :
  MeetsIn prog w ((if neg then Builtin.«list.__ne__» else Builtin.«list.__eq__») ⟨[.ref l,.ref b],[]⟩)
   (λA R s=>s.heap.get? l=some { cls := .type "list",data := .seq xs n }/\s.heap.get? b=some { cls := .type "list",data := .seq ys n2 } /\
    (∀j (h1:j < xs.size) (h2:j < ys.size) (E:Value->Shared->Prop) (Q:Bool->Shared->Prop),Q (e j) s->wpAny (model prog w) A.in1 (eqBool xs[j] ys[j]) Q E s) /\
    R (.ok (.ret (.bool (xor neg (decide (xs.size=ys.size) && (List.range xs.size).all e))))) s):=by
 rintro A R ⟨hp,g,d,tk,os⟩ ⟨hl,hb,he,h⟩
 have f3:=AutoSeq1.sub_list_list
 by_cases hz:xs.size=ys.size
 ·have hne:¬(xs.size != ys.size)=true:=by simp[hz]
  rw[decide_eq_true hz,Bool.true_and]at h
  cases neg
  ·simp only[Bool.false_eq_true,if_false]
   wp_walk using wpAny_loadPart' hl,wpAny_loadPart' hb
   exact⟨plainId_quiet plain_eq_loop _,codeAny_builtin entry_eq_loop (by
    rw[Around.under_plainId plain_eq_loop _];exact zkk l b xs ys n n2 false hz e _ 0 rfl A R _ ⟨hl,hb,he,by simpa using h⟩)⟩
  ·simp only[if_true]
   wp_walk using wpAny_loadPart' hl,wpAny_loadPart' hb
   exact⟨plainId_quiet plain_eq_loop _,codeAny_builtin entry_eq_loop (by
    rw[Around.under_plainId plain_eq_loop _];exact zkk l b xs ys n n2 true hz e _ 0 rfl A R _ ⟨hl,hb,he,by simpa using h⟩)⟩
 ·have hne:(xs.size != ys.size)=true:=by simp[hz]
  rw[decide_eq_false hz,Bool.false_and]at h
  cases neg
  ·simp only[Bool.false_eq_true,if_false]
   wp_walk using wpAny_loadPart' hl,wpAny_loadPart' hb
   have q:(CmpOp.Eq == CmpOp.NotEq)=false:=by decide
   rw[q];simpa using h
  ·simp only[if_true]
   wp_walk using wpAny_loadPart' hl,wpAny_loadPart' hb
   simpa using h
end
section
variable{X:Cx}{pins:List (Addr×Obj)}{σ : St}{H:Hp}{s:Shared}
def DEq(K:W.Frag)(H:Hp)(a b:Addr)(c:Bool):Prop:=∃(ka kb:List (List Key×V)) (da db:List (List Key×PyData)),Rd H a (.dT ka)/\Rd H b (.dT kb)/\KDs K H ka da/\KDs K H kb db/\Flats da/\Flats db/\eqKD da db=c/\(a=b->c=true)
theorem zng{a b:Addr}{c:Bool}{A:Around}{E:Value->Shared->Prop}{Q:Bool->Shared->Prop}(hu:A.units + 64 < cLine)(I:Inv X pins σ H s)(h:DEq X.K H a b c)(q:Q c s):wpAny (model X.prog X.w) A (eqBool (.ref a) (.ref b)) Q E s:=by
 obtain⟨ka,kb,da,db,ha,hb,qa,qb,fa,fb,e,e0⟩:=h
 obtain⟨_,sa,xs,ta,ea⟩:=zfw I.hok ha
 obtain⟨_,sb,ys,tb,eb⟩:=zfw I.hok hb
 have lx:xs.length=da.length:=(Paired.length ta).symm.trans (Paired.length qa)
 have ly:ys.length=db.length:=(Paired.length tb).symm.trans (Paired.length qb)
 unfold eqBool
 try with_reducible refine wpAny_holding ?_
 show wpAny _ _ (if (Value.ref a == Value.ref b)=true then _ else _) Q E s
 by_cases hab:(Value.ref a == Value.ref b)=true
 ·rw[if_pos hab]
  have:=e0 (Value.ref.inj (beq_iff_eq.mp hab))
  subst this
  exact wpAny_bind (wpAny_rule (wpAny_pure q))
 ·rw[if_neg hab]
  refine wpAny_bind (zkl (knd:=tupleKind (mixKind X.prog X.w)) (tupleKind_room_in1 (by omega)) (by omega) sa sb ea eb (λ_=>zhn (by show A.units + 1 + 61 < cLine;omega) I tb qb fb ta qa fa) ?_)
  refine wpAny_truthy_bool ?_
  rw[lx,ly]
  show Q (eqKD da db) s
  rw[e];exact q
def rEqLD(K:W.Frag)(neg:Bool):R2:=λx y H Q=>∃(l b:Addr) (as bs:List Addr) (e:Nat->Bool),x = .ref l/\y = .ref b/\H l=some (.lst (as.map V.ref))/\H b=some (.lst (bs.map V.ref)) /\
 (∀(i:Nat) (p q:Addr),as[i]? = some p->bs[i]? = some q->DEq K H p q (e i))/\Q (.bl (xor neg (decide (as.length=bs.length) && (List.range as.length).all e))) H
theorem zgl:∀{as:List Addr} {us:List Value},Vals (as.map V.ref) us->us=as.map Value.ref
 | [],_,.nil=>rfl
 | a :: as,_,.cons r t=>by cases (show _=Value.ref a from r);rw[zgl t];rfl
theorem zk9{l b:Addr}{as bs:List Addr}{e:Nat->Bool}{neg:Bool}{Q:VK}(hu:X.A.units + 70 < cLine)(I:Inv X pins σ H s)(hl:H l=some (.lst (as.map V.ref)))(hb:H b=some (.lst (bs.map V.ref)))
  (he:∀(i:Nat) (p q:Addr),as[i]? = some p->bs[i]? = some q->DEq X.K H p q (e i)) (q:Q (.bl (xor neg (decide (as.length=bs.length) && (List.range as.length).all e))) H) :
  wpAny (model X.prog X.w) X.A (compareOp (if neg then .NotEq else .Eq) (.ref l) (.ref b)) (EP X pins σ Q) X.xe s:=by
 obtain⟨vs,n,hV,h1,hz⟩:=I.lst hl
 obtain⟨vs2,n2,hV2,h2,hz2⟩:=I.lst hb
 have e1:=zgl hV
 have e2:=zgl hV2
 subst e1 e2
 have T1:s.TypeIs (.ref l) "list":=⟨_,h1,rfl⟩
 have T2:s.TypeIs (.ref b) "list":=⟨_,h2,rfl⟩
 have body:=zp7 (prog:=X.prog) (w:=X.w) l b (as.map Value.ref).toArray (bs.map Value.ref).toArray n n2 neg e
 have sz:∀(z:List Addr),(z.map Value.ref).toArray.size=z.length:=λz=>by simp
 have inn:∀(R:Result->Shared->Prop),R (.ok (.ret (.bool (xor neg (decide (as.length=bs.length) && (List.range as.length).all e))))) s->(fun(A:Around) (R:Result->Shared->Prop) (s:Shared)=>s.heap.get? l=some { cls := .type "list",data := .seq (as.map Value.ref).toArray n }/\s.heap.get? b=some { cls := .type "list",data := .seq (bs.map Value.ref).toArray n2 } /\
    (∀j (h1:j < (as.map Value.ref).toArray.size) (h2:j < (bs.map Value.ref).toArray.size) (E:Value->Shared->Prop) (Q:Bool->Shared->Prop),Q (e j) s->wpAny (model X.prog X.w) A.in1 (eqBool (as.map Value.ref).toArray[j] (bs.map Value.ref).toArray[j]) Q E s) /\
    R (.ok (.ret (.bool (xor neg (decide ((as.map Value.ref).toArray.size=(bs.map Value.ref).toArray.size) && (List.range (as.map Value.ref).toArray.size).all e))))) s) X.A R s:=λR hR=>by
  refine⟨h1,h2,λj j1 j2 E' Q' hq => ?_,by rw[sz,sz];exact hR⟩
  rw[sz]at j1 j2
  have a1:(as.map Value.ref).toArray[j]'(by rw[sz];exact j1) = .ref as[j]:=by simp
  have a2:(bs.map Value.ref).toArray[j]'(by rw[sz];exact j2) = .ref bs[j]:=by simp
  rw[a1,a2]
  exact zng (by show X.A.units + 1 + 64 < cLine;omega) I (he j _ _ (List.getElem?_eq_getElem j1) (List.getElem?_eq_getElem j2)) hq
 cases neg
 ·refine wpAny_richCompare_same_room (op := .Eq) T1 T2 PySem.F.slot_list_eq (call_meetsIn PySem.F.slot_list_eq T1 PySem.F.entry_list_eq (PySem.F.args_list_eq_2 _ _) body (inn _ ?_)) (by omega)
  exact⟨(λz=>nomatch z),.bl _,H,I,rfl,q⟩
 ·refine wpAny_richCompare_same_room (op := .NotEq) T1 T2 PySem.F.slot_list_ne (call_meetsIn PySem.F.slot_list_ne T1 PySem.F.entry_list_ne (PySem.F.args_list_ne_2 _ _) body (inn _ ?_)) (by omega)
  exact⟨(λz=>nomatch z),.bl _,H,I,rfl,q⟩
theorem ztc{K:W.Frag}(hK:X.K=K)(hu:X.A.units + 70 < cLine):OpR X (compareOp .Eq) (rEqLD K false):=by
 subst hK
 intro pins s σ H x y u v Q I rx ry h
 obtain⟨l,b,as,bs,e,rfl,rfl,hl,hb,he,q⟩:=h
 cases rx;cases ry
 exact zk9 (neg:=false) hu I hl hb he q
theorem zss{K:W.Frag}(hK:X.K=K)(hu:X.A.units + 70 < cLine):OpR X (compareOp .NotEq) (rEqLD K true):=by
 subst hK
 intro pins s σ H x y u v Q I rx ry h
 obtain⟨l,b,as,bs,e,rfl,rfl,hl,hb,he,q⟩:=h
 cases rx;cases ry
 exact zk9 (neg:=true) hu I hl hb he q
end
end L2
set_option Elab.async false
set_option linter.all false
set_option maxRecDepth 100000
namespace L2
open PySem PySem.Spec PyProof.Rows
def Ite(K:W.Frag)(a:Addr):It:=
 ⟨λi H=>∃xs x,SqL K H a xs/\xs[i]? = some x,λi H v H'=>∃p x,H p=none/\v = .ref p/\H'=upd H p (.tup [.int i,x])/\∀xs,SqL K H a xs->xs[i]? = some x,λi H=>∃xs,SqL K H a xs/\xs.length<=i⟩
def ESt(e it l:Addr)(i:Nat)(h:Heap):Prop:=(∃old,IsEnum h e it i old)/\h.IsListIter it l i
theorem zmd{P:Program}{w:World}{K:W.Frag}{es:List Expr}{ek:Nat}{pos:Pos}{e it a:Addr}(hei:e≠it):Turn P w K (.Tuple es ek pos) (Ite K a) [e,it] e (λi h=>ESt e it a i h) where
 mem:=by simp
 obj:=λi h ⟨⟨_,st⟩,si⟩ b hb=>by
  simp only[List.mem_cons,List.not_mem_nil,or_false]at hb
  rcases hb with rfl | rfl
  ·exact⟨_,st,λv q=>by cases q⟩
  ·obtain⟨o,eo,_,hd⟩:=si
   exact⟨o,eo,λv q=>by rw[hd]at q;cases q⟩
 keep:=λi h h' ⟨⟨old,st⟩,si⟩ k=>⟨⟨old,k e (by simp) _ st⟩,si.at λo q=>k it (by simp) o q⟩
 item:=by
  intro X hP hw hK hc i pins s σ H E I hf st hg
  subst hP hw hK
  obtain⟨⟨old,he⟩,hit⟩:=st
  obtain⟨xs,x,h1,hx⟩:=hg
  obtain⟨us,ru,p,_⟩:=I.list h1
  obtain⟨u,eu,rx⟩:=ru.get hx
  have elt:e < s.heap.objs.size:=Heap.lt_size he
  have ilt:it < s.heap.objs.size:=by obtain⟨_,z,_⟩:=hit;exact Heap.lt_size z
  refine wpAny_pyNext_enum_item he hit p.isList (x:=u) (by simpa using eu) hei λh' ho hit' hT hsz k => ?_
  refine⟨_,rfl,wpAny_letOwnedTupleGo_enum ho λh'' he'' hs => ?_⟩
  have pe:s.heap.objs.size≠e:=Nat.ne_of_gt elt
  have kk:∀b o,b ∉ [e,it]->s.heap.get? b=some o->h''.get? b=some o:=λb o hb q=>by
   simp only[List.mem_cons,List.not_mem_nil,or_false,not_or]at hb
   exact(hs.2 b hb.1).trans (k b o hb.1 hb.2 q)
  refine⟨.ref s.heap.objs.size,upd H s.heap.objs.size (.tup [.int i,x]),I.drawn (t':=s.toks + 1) (ch:=[e,it]) (λb hb=>hf b hb) kk (Nat.le_refl _) ?_,rfl,⟨_,x,I.fresh,rfl,rfl,λxs' hq => ?_⟩,?_,λb hb => ?_⟩
  ·exact⟨by show 2<=sizeLine;rw[sizeLine_eq];decide,[.int i s.toks,u],.cons ⟨_,rfl⟩ (.cons rx .nil),⟨_,(hs.2 _ pe).trans hT,rfl,_,rfl⟩⟩
  ·rw[I.list_inj hq h1];exact hx
  ·exact⟨⟨u,by simpa using he''⟩,hit'.at λo q=>(hs.2 it hei.symm).trans q⟩
  ·have:b < s.heap.objs.size:=by
    simp only[List.mem_cons,List.not_mem_nil,or_false]at hb
    rcases hb with rfl | rfl
    ·exact elt
    ·exact ilt
   rw[zao (Nat.ne_of_lt this)]
   exact(hf b hb).1
 done:=by
  intro X hP hw hK hc i pins s σ H E I hf st hg
  subst hP hw hK
  obtain⟨⟨old,he⟩,hit⟩:=st
  obtain⟨xs,h1,hl⟩:=hg
  obtain⟨us,ru,p,_⟩:=I.list h1
  have l1:=ru.length
  refine wpAny_pyNext_enum_end (I.ok.hd hc) he hit p.isList (by rw[List.getElem?_toArray,List.getElem?_eq_none];omega) λh' k=>⟨rfl,I.turnedL (t':=s.toks) (ch:=[e,it]) (λb hb=>hf b hb) λb o hb q => ?_⟩
  simp only[List.mem_cons,List.not_mem_nil,or_false,not_or]at hb
  exact k b o hb.2 q
 self:=λ_ _ _ _ _ ⟨⟨_,st⟩,_⟩ h=>wpAny_pyIter_enum st h
def iEnum(K:W.Frag)(ta:TA):TI:=λσ H R=>ta σ H λvs H1=>∃a,vs=[.ref a]/\(∃xs,SqL K H1 a xs)/\R (Ite K a) H1
theorem zg6:bootBuiltins "enumerate" = some (.type "enumerate"):=by kernel_rfl
theorem zr1{X:Cx}{K:W.Frag}{es:List Expr}{ek:Nat}{tpos p pos:Pos}{e1:Expr}{ta:TA}(hK:X.K=K)(hg:Gl X "enumerate")(hm:X.mg "enumerate" = none)(ha:PA X [e1] ta)
  (he:starEach [e1] X.env=(false,eval e1 X.env) :: starEach [] X.env:=by rfl) (hpl:(backTo pos (starEach [] X.env)).any (·.1)=false:=by rfl) :
  PI X (.Tuple es ek tpos) (.Call (.Name "enumerate" p) [e1] [] pos) (iEnum K ta):=by
 subst hK
 intro pins s σ H R I h
 refine wpAny_Call_Name_kw (zfp I hg hm zg6 ?_ (by decide) (by decide))
 refine PyProof.Rows.callWith_type1 (thn (ha pos pins s σ H _ I h) λus s1 ⟨vs,H1,I1,r1,a,ev,⟨xs,h1⟩,q⟩ => ?_) he hpl
 subst ev
 obtain⟨u1,rfl,e1'⟩:=r1.one
 cases e1'
 obtain⟨us,ru,p1,_⟩:=I1.list h1
 refine call_enumerate_list p1.isList λh' en it sz k=>wpAny_pyIter_enum en ?_
 have I2:Inv X pins σ H1 { s1 with heap:=h' }:=I1.kept (t':=s1.toks) k
 refine⟨s1.heap.objs.size + 1,[s1.heap.objs.size + 1,s1.heap.objs.size],_,_,H1,rfl,I2,zmd (Nat.succ_ne_self _),⟨⟨_,en⟩,it⟩,λb hb => ?_,q⟩
 have hb':s1.heap.objs.size<=b:=by
  simp only[List.mem_cons,List.not_mem_nil,or_false]at hb
  rcases hb with rfl | rfl
  ·exact Nat.le_add_right _ 1
  ·exact Nat.le_refl _
 have F:=I1.fpOk hb' (I1.hok.fresh hb')
 exact F
theorem zoh{K:W.Frag}{H1:Hp}{a:Addr}{xs:List V}(h1:SqL K H1 a xs):Walk (Ite K a) H1 xs.length (λi v H=>∃p x,v = .ref p/\H p=some (.tup [.int i,x])/\xs[i]? = some x):=by
 refine⟨λi H' e hi=>⟨xs,xs[i],e.seq h1,by simp[hi]⟩,λH' e=>⟨xs,e.seq h1,Nat.le_refl _⟩,λi H' x H2 e hi q => ?_⟩
 obtain⟨p,u,hp,rfl,rfl,q1⟩:=q
 exact⟨Same.upd hp,p,u,rfl,zaf,q1 xs (e.seq h1)⟩
def rInsert:V->List V->Hp->VK->Prop:=λx vs H Q=>∃(l:Addr) (xs:List V) (i:Nat) (y:V),x = .ref l/\vs=[.int i,y]/\H l=some (.lst xs)/\i<=xs.length/\xs.length < sizeLine/\Q .non (upd H l (.lst (xs.take i ++ y :: xs.drop i)))
theorem zpq{prog:Program}{w:World}{A:Around}{E:Value->Shared->Prop}{s:Shared}{Q:Value->Shared->Prop}{l:Addr}{i:Int}{t:Tok}{u2:Value}(o:Obj)(f:Array Value->Array Value)(T:s.TypeIs (.ref l) "list")(M:Meets (Builtin.«list.insert» ⟨[.ref l,.int i t,u2],[]⟩) (λ_ R s=>s.heap.get? l=some o/\R (.ok (.ret Value.none)) { s with heap:=s.heap.update l (Obj.mapSeq f),toks:=s.toks }))(e:s.heap.get? l=some o)(h:Q .none { s with heap:=s.heap.update l (Obj.mapSeq f),toks:=s.toks }) :
  wpAny (model prog w) A (call (.builtin "list.insert") [.ref l,.int i t,u2]) Q E s:=call_meets PySem.F.slot_list_insert T PySem.F.entry_list_insert (PySem.F.args_list_insert_3 _ _ _) M ⟨e,h⟩
def insF(i:Int)(u:Value)(xs:Array Value):Array Value:=(xs.extract 0 (if i < 0 then(i + ((xs.size:Nat):Int)).toNat else min i.toNat xs.size)).push u ++ xs.extract (if i < 0 then(i + ((xs.size:Nat):Int)).toNat else min i.toNat xs.size)
theorem znm{X:Cx}:MtM X "list.insert" rInsert:=by
 intro pins s σ H x vs v us Q I rx rv h
 obtain⟨l,xs,i,y,rfl,rfl,hH,hi,hz,q⟩:=h
 cases rx
 obtain⟨u1,u2,rfl,⟨t,rfl⟩,r2⟩:=rv.two
 obtain⟨z,its,n,r,hl,e⟩:=I.lstM hH
 have hsz:its.toArray.size<=sizeLine:=by rw[List.size_toArray];omega
 have fits:¬(!Builtin.List.listFitsIndex (i:Int))=true:=by
  have hi':(i:Int) < 2 ^ 63:=by
   have h1:i < sizeLine:=Nat.lt_of_le_of_lt hi hz
   have h2:sizeLine<=2 ^ 62:=by rw[sizeLine_eq];decide
   have h3:i < 2 ^ 62:=Nat.lt_of_lt_of_le h1 h2
   omega
  have hi0 : -(2 ^ 63)<=(i:Int):=by omega
  unfold Builtin.List.listFitsIndex
  rw[decide_eq_true hi',decide_eq_true hi0];decide
 generalize ej:(i:Int)=j at fits ⊢
 refine zpq { cls := .type "list",dict:=none,data := .seq its.toArray n,slots := #[] } (insF j u2) ⟨_,e,rfl⟩ (@PySem.AutoSeq1.list_insert_list_int_val_1 l its.toArray n j t u2 fits hsz) e ?_
 refine⟨.non,_,I.lset (f:=insF j u2) (its':=its.take i ++ u2 :: its.drop i) hH e ?_ ?_ ?_,rfl,q⟩
 ·have hl':i<=its.length:=by rw[<- hl];exact hi
  unfold insF
  rw[if_neg (by omega),<- ej,Int.toNat_natCast,List.size_toArray,Nat.min_eq_left hl']
  apply Array.ext'
  simp
  rw[List.take_of_length_le (l:=its.drop i) (by simp)]
 ·exact(r.take i).append (.cons r2 (r.drop i))
 ·rw[List.length_append,List.length_cons,List.length_take,List.length_drop];omega
end L2
namespace L2
open PySem PySem.Spec PyProof.Rows
def CMulC(i j:Int):Prop:=i.natAbs < 2 ^ 20000/\j.natAbs < 2 ^ 20000
theorem zdm{X:Cx}:OpR X (binaryOp .Mult) (rI CMulC λi j => .int (i * j)):=opI λ_ _ _ _ _ _ _ hc q=>mul_int q (PySem.IntMulOk.of_bits (Nat.le_trans (intBits_le hc.1) (by decide)) (Nat.le_trans (intBits_le hc.2) (by decide)))
end L2
namespace K1
def gI(a b:Int):Int:=((Int.gcd a b:Nat):Int)
theorem zl3(a b:Int):0<=gI a b:=Int.natCast_nonneg _
theorem zes{a b:Int}(h:b≠0):0 < gI a b:=by
 have:0 < Int.gcd a b:=Int.gcd_pos_of_ne_zero_right a h
 unfold gI;omega
theorem zk1(a b:Int):gI a b ∣ a:=Int.gcd_dvd_left a b
theorem zfm(a b:Int):gI a b ∣ b:=Int.gcd_dvd_right a b
theorem zkp(a:Int):gI a 1=1:=by unfold gI;simp
theorem zom(a:Int)(h:0<=a):gI a 0=a:=by unfold gI;rw[Int.gcd_zero_right];omega
/-- one turn of the loop -/
theorem zsc{a b:Int}(ha:0<=a)(hb:0 < b):gI b (Int.fmod a b)=gI a b:=by
 unfold gI
 congr 1
 rw[Int.fmod_eq_emod_of_nonneg a (Int.le_of_lt hb)]
 show Nat.gcd b.natAbs (a % b).natAbs=Nat.gcd a.natAbs b.natAbs
 have e:(a % b).natAbs=a.natAbs % b.natAbs:=by
  have h1:a=(a.natAbs:Int):=by omega
  have h2:b=(b.natAbs:Int):=by omega
  conv=>lhs;rw[h1,h2]
  rw[<- Int.natCast_emod]
  exact Int.natAbs_natCast _
 rw[e,Nat.gcd_comm a.natAbs,Nat.gcd_rec b.natAbs a.natAbs,Nat.gcd_comm]
structure Gc(a0 b0 a b:Int):Prop where
 is:gI a b=gI a0 b0
theorem start{a b:Int}(ha:0<=a)(hb:0<=b):0<=a/\0<=b/\Gc a b a b:=⟨ha,hb,⟨rfl⟩⟩
theorem turn{a0 b0 a b:Int}(h:Gc a0 b0 a b)(ha:0<=a)(hb:0 < b):0<=b/\0<=Int.fmod a b/\Gc a0 b0 b (Int.fmod a b):=
 ⟨by omega,Int.fmod_nonneg_of_pos a hb,⟨(zsc ha hb).trans h.is⟩⟩
theorem less{a b:Int}(hb:0 < b):(Int.fmod a b).toNat < b.toNat:=by
 have:=Int.fmod_lt_of_pos a hb
 have:=Int.fmod_nonneg_of_pos a hb
 omega
theorem out{a0 b0 a b:Int}(h:Gc a0 b0 a b)(ha:0<=a)(hb:b=0):a=gI a0 b0:=by
 rw[<- h.is,hb,zom a ha]
/-- abs -/
theorem zty(a b:Int):gI (if a < 0 then -a else a) (if b < 0 then -b else b)=gI a b:=by
 unfold gI
 congr 1
 have h (x:Int):(if x < 0 then -x else x).natAbs=x.natAbs:=by split <;> omega
 show Nat.gcd _ _=Nat.gcd _ _
 rw[h,h]
theorem coprime{d q1 q2:Int}(hd:d≠0)(h:gI (d * q1) (d * q2)=d\/gI (d * q1) (d * q2) = -d):gI q1 q2=1:=by
 unfold gI at h ⊢
 rw[Int.gcd_mul_left]at h
 have h0:(d.natAbs * Int.gcd q1 q2:Nat)=d.natAbs:=by
  rcases h with h | h <;> omega
 have:Int.gcd q1 q2=1:=by
  have hp:0 < d.natAbs:=by omega
  exact Nat.eq_of_mul_eq_mul_left hp (by omega)
 rw[this];rfl
end K1
namespace K1
/-- by what top and bottom are divided,with the bottom's sign -/
def dv(t b:Int):Int:=if b < 0 then -(gI t b) else gI t b
def fT(t b:Int):Int:=t.fdiv (dv t b)
def fB(t b:Int):Int:=b.fdiv (dv t b)
theorem zn2(t b:Int):(dv t b).natAbs=Int.gcd t b:=by
 unfold dv gI;split <;> omega
theorem zll{t b:Int}(h:b≠0):dv t b≠0:=by
 have:=zes (a:=t) h
 unfold dv;split <;> omega
theorem zv4{t b:Int}(h:b≠0):(dv t b).natAbs<=b.natAbs:=by
 rw[zn2]
 exact Nat.le_of_dvd (by omega) (Nat.gcd_dvd_right _ _)
theorem zhb{d x:Int}{n:Nat}(h:d.natAbs=n)(hx:(n:Int) ∣ x):d ∣ x:=by
 rw[<- Int.natAbs_dvd,h];exact hx
theorem ex{t b:Int}(h:b≠0):∃q1 q2,t=dv t b * q1/\b=dv t b * q2/\fT t b=q1/\fB t b=q2:=by
 obtain⟨q1,e1⟩:=zhb (zn2 t b) (Int.gcd_dvd_left t b)
 obtain⟨q2,e2⟩:=zhb (zn2 t b) (Int.gcd_dvd_right t b)
 refine⟨q1,q2,e1,e2,?_,?_⟩
 ·unfold fT
  have:=Int.mul_fdiv_cancel_left (a:=dv t b) q1 (zll h)
  rw[<- e1]at this;exact this
 ·unfold fB
  have:=Int.mul_fdiv_cancel_left (a:=dv t b) q2 (zll h)
  rw[<- e2]at this;exact this
theorem zoj{t b:Int}(h:b≠0):1<=fB t b:=by
 obtain⟨q1,q2,_,e2,_,f2⟩:=ex (t:=t) h
 rw[f2]
 have hp:=zes (a:=t) h
 rcases(by omega:q2<=0\/1<=q2) with q | q
 ·exfalso
  by_cases hb:b < 0
  ·have ed:dv t b = -(gI t b):=by unfold dv;rw[if_pos hb]
   rw[ed]at e2
   have:=Int.mul_nonneg_of_nonpos_of_nonpos (show -(gI t b)<=0 by omega) q
   omega
  ·have ed:dv t b=gI t b:=by unfold dv;rw[if_neg hb]
   rw[ed]at e2
   have:=Int.mul_nonpos_of_nonneg_of_nonpos (show 0<=gI t b by omega) q
   omega
 ·exact q
theorem zjt{t b:Int}(h:b≠0):fT t b * b=t * fB t b:=by
 obtain⟨q1,q2,e1,e2,f1,f2⟩:=ex (t:=t) h
 rw[f1,f2]
 conv=>lhs;rw[e2]
 conv=>rhs;rw[e1]
 rw[Int.mul_assoc,Int.mul_left_comm]
theorem zs4{t b:Int}(h:b≠0):gI (fT t b) (fB t b)=1:=by
 obtain⟨q1,q2,e1,e2,f1,f2⟩:=ex (t:=t) h
 rw[f1,f2]
 refine coprime (d:=dv t b) (zll h) ?_
 rw[<- e1,<- e2]
 unfold dv;split
 ·right;omega
 ·left;rfl
theorem zos(t:Int):fT t 1=t/\fB t 1=1:=by
 have e:dv t 1=1:=by unfold dv;rw[if_neg (by decide),zkp]
 unfold fT fB
 rw[e]
 exact⟨Int.fdiv_one t,by decide⟩
theorem q_le{d q x:Int}(hd:d≠0)(e:x=d * q):q.natAbs<=x.natAbs:=by
 rw[e,Int.natAbs_mul]
 exact Nat.le_mul_of_pos_left _ (by omega)
theorem zv0{t b:Int}(h:b≠0):(fT t b).natAbs<=t.natAbs:=by
 obtain⟨q1,q2,e1,e2,f1,f2⟩:=ex (t:=t) h
 rw[f1];exact q_le (zll h) e1
theorem zv3{t b:Int}(h:b≠0):(fB t b).natAbs<=b.natAbs:=by
 obtain⟨q1,q2,e1,e2,f1,f2⟩:=ex (t:=t) h
 rw[f2];exact q_le (zll h) e2
end K1
namespace K1
theorem co_iff{a b:Int}:gI a b=1↔Nat.Coprime a.natAbs b.natAbs:=by
 unfold gI Nat.Coprime
 show ((Nat.gcd a.natAbs b.natAbs:Nat):Int)=1↔_
 omega
theorem zfk{a b:Int}(h:gI a b=1):gI b a=1:=co_iff.mpr (co_iff.mp h).symm
theorem zht{a b c:Int}(h:gI a b=1)(h':gI a c=1):gI a (b * c)=1:=by
 rw[co_iff]at *
 rw[Int.natAbs_mul]
 exact Nat.Coprime.mul_right h h'
theorem zh1{a b c:Int}(h:gI a c=1)(h':gI b c=1):gI (a * b) c=1:=zfk (zht (zfk h) (zfk h'))
theorem zop{a a' b:Int}(d:a' ∣ a)(h:gI a b=1):gI a' b=1:=by
 rw[co_iff]at *
 exact Nat.Coprime.coprime_dvd_left (Int.natAbs_dvd_natAbs.mpr d) h
theorem zpb{a b b':Int}(d:b' ∣ b)(h:gI a b=1):gI a b'=1:=zfk (zop d (zfk h))
/-- a number that divides both sides is one -/
theorem zrj{a b k:Int}(h:gI a b=1):gI (a + b * k) b=1:=by
 unfold gI at *
 have:Int.gcd (a + b * k) b=Int.gcd a b:=by simp
 rw[this];exact h
theorem zge{a b:Int}(hb:b≠0):∃a' b',a=gI a b * a'/\b=gI a b * b'/\gI a' b'=1:=by
 obtain⟨a',ea⟩:=zk1 a b
 obtain⟨b',eb⟩:=zfm a b
 have hp:=zes (a:=a) hb
 refine⟨a',b',ea,eb,coprime (d:=gI a b) (by omega) (.inl ?_)⟩
 rw[<- ea,<- eb]
theorem zfl{a b c:Int}(h:gI a b=1)(d:a ∣ b * c):a ∣ c:=by
 rw[co_iff]at h
 have:=Int.natAbs_dvd_natAbs.mpr d
 rw[Int.natAbs_mul]at this
 exact Int.natAbs_dvd_natAbs.mp (Nat.Coprime.dvd_of_dvd_mul_left h this)
/-- lowest terms are one -/
theorem zm4{p q p' q':Int}(hq:1<=q)(hq':1<=q')(c:gI p q=1)(c':gI p' q'=1)(e:p * q'=p' * q):p=p'/\q=q':=by
 have d1:q ∣ q':=zfl (zfk c) ⟨p',by rw[e,Int.mul_comm]⟩
 have d2:q' ∣ q:=zfl (zfk c') ⟨p,by rw[<- e,Int.mul_comm]⟩
 have e1:q=q':=Int.dvd_antisymm (by omega) (by omega) d1 d2
 subst e1
 exact⟨Int.eq_of_mul_eq_mul_right (by omega) e,rfl⟩
theorem zqv{t b p q:Int}(hb:b≠0)(hq:1<=q)(c:gI p q=1)(e:p * b=t * q):fT t b=p/\fB t b=q:=by
 refine zm4 (zoj hb) hq (zs4 hb) c ?_
 have h1:=zjt (t:=t) hb
 refine Int.eq_of_mul_eq_mul_right hb ?_
 calc fT t b * q * b=fT t b * b * q:=by rw[Int.mul_right_comm]
  _=t * fB t b * q:=by rw[h1]
  _=t * q * fB t b:=by rw[Int.mul_right_comm]
  _=p * b * fB t b:=by rw[e]
  _=p * fB t b * b:=by rw[Int.mul_right_comm]
theorem fd{d q:Int}(h:d≠0):Int.fdiv (d * q) d=q:=Int.mul_fdiv_cancel_left q h
def ab(a:Int):Int:=if a < 0 then -a else a
theorem zvx(a b:Int):gI (ab a) b=gI a b:=by
 unfold gI ab
 congr 1
 show Nat.gcd _ _=Nat.gcd _ _
 congr 1
 split <;> omega
theorem posR{d q:Int}(hd:0 < d)(h:1<=d * q):1<=q:=by
 rcases(by omega:q<=0\/1<=q) with g | g
 ·have:=Int.mul_nonpos_of_nonneg_of_nonpos (show 0<=d by omega) g
  omega
 ·exact g
/-- the product of two fractions in lowest terms -/
theorem zn1{x y z w:Int}(hy:1<=y)(hw:1<=w)(c:gI x y=1)(c':gI z w=1) :
  (Int.fdiv x (gI x w) * Int.fdiv z (gI z y))=fT (x * z) (y * w)/\Int.fdiv y (gI z y) * Int.fdiv w (gI x w)=fB (x * z) (y * w):=by
 obtain⟨x1,w1,ex,ew,k1⟩:=zge (a:=x) (b:=w) (by omega)
 obtain⟨z1,y1,ez,ey,k2⟩:=zge (a:=z) (b:=y) (by omega)
 have g1:=zes (a:=x) (b:=w) (by omega)
 have g2:=zes (a:=z) (b:=y) (by omega)
 generalize gI x w=g at *
 generalize gI z y=h at *
 subst ex ew ez ey
 rw[fd (by omega),fd (by omega),fd (by omega),fd (by omega)]
 have y1p:=posR g2 hy
 have w1p:=posR g1 hw
 have b0:h * y1 * (g * w1)≠0:=by
  intro q;rcases Int.mul_eq_zero.mp q with q | q <;> omega
 have kx:gI x1 y1=1:=zop (Int.dvd_mul_left g x1) (zpb (Int.dvd_mul_left h y1) c)
 have kz:gI z1 w1=1:=zop (Int.dvd_mul_left h z1) (zpb (Int.dvd_mul_left g w1) c')
 have:=zqv (t:=g * x1 * (h * z1)) (p:=x1 * z1) (q:=y1 * w1) b0 (Int.mul_pos y1p w1p)
  (zht (zh1 kx k2) (zh1 k1 kz)) (by grind)
 exact⟨this.1.symm,this.2.symm⟩
/-- the sum of two fractions in lowest terms -/
theorem zpf{x y z w:Int}(hy:1<=y)(hw:1<=w)(c:gI x y=1)(c':gI z w=1) :
  let g:=gI y w;let T:=x * Int.fdiv w g + z * Int.fdiv y g;let f:=gI T g
  Int.fdiv T f=fT (x * w + z * y) (y * w)/\Int.fdiv y g * Int.fdiv w f=fB (x * w + z * y) (y * w):=by
 intro g T f
 obtain⟨y1,w1,ey,ew,k1⟩:=zge (a:=y) (b:=w) (by omega)
 have g1:=zes (a:=y) (b:=w) (by omega)
 have f1:0 < f:=zes (by omega)
 obtain⟨T1,g2,eT,eg,k2⟩:=zge (a:=T) (b:=g) (by omega)
 have gd:g=gI y w:=rfl
 have Td:T=x * Int.fdiv w g + z * Int.fdiv y g:=rfl
 have fdd:f=gI T g:=rfl
 rw[<- fdd]at eT eg
 rw[<- gd]at ey ew g1
 clear_value g T f
 subst ey ew
 rw[fd (by omega),fd (by omega)]at Td
 have y1p:=posR g1 hy
 have w1p:=posR g1 hw
 have cT1:gI T y1=1:=by
  rw[Td,Int.mul_comm z y1]
  exact zrj (zh1 (zpb (Int.dvd_mul_left g y1) c) (zfk k1))
 have cT2:gI T w1=1:=by
  rw[Td,Int.add_comm,Int.mul_comm x w1]
  exact zrj (zh1 (zpb (Int.dvd_mul_left g w1) c') k1)
 have g2p:1<=g2:=posR f1 (by omega)
 have d1:T1 ∣ T:=⟨f,by rw[eT,Int.mul_comm]⟩
 have e1:Int.fdiv T f=T1:=by rw[eT,fd (by omega)]
 have e2:Int.fdiv (g * w1) f=g2 * w1:=by rw[eg,Int.mul_assoc,fd (by omega)]
 have e3:Int.fdiv (g * y1) g=y1:=fd (by omega)
 rw[e1,e2,e3]
 have b0:g * y1 * (g * w1)≠0:=by
  intro q;rcases Int.mul_eq_zero.mp q with q | q <;> omega
 have:=zqv (t:=x * (g * w1) + z * (g * y1)) (p:=T1) (q:=y1 * (g2 * w1)) b0 (Int.mul_pos y1p (Int.mul_pos g2p w1p))
  (zht (zop d1 cT1) (zht k2 (zop d1 cT2))) (by
   have:x * w1 + z * y1=f * T1:=by rw[<- Td];exact eT
   have q:x * (g * w1) + z * (g * y1)=g * (f * T1):=by rw[<- this];grind
   rw[q]
   conv=>lhs;rw[eg]
   conv=>rhs;rw[eg]
   grind)
 exact⟨this.1.symm,this.2.symm⟩
theorem zse{a d:Int}(h:d ∣ a)(hd:d≠0):(Int.fdiv a d).natAbs<=a.natAbs:=by
 obtain⟨q,rfl⟩:=h
 rw[fd hd,Int.natAbs_mul]
 exact Nat.le_mul_of_pos_left _ (by omega)
end K1
namespace K3
structure NoDiv(n d:Int):Prop where
 is:∀e:Int,2<=e->e < d->Int.fmod n e≠0
def Pr(n:Int):Prop:=2<=n/\∀e:Int,2<=e->e * e<=n->Int.fmod n e≠0
noncomputable def isP(n:Int):Bool := @decide (Pr n) (Classical.propDecidable _)
theorem zu2{n:Int}(h:Pr n):isP n=true := @decide_eq_true _ (Classical.propDecidable _) h
theorem zt3{n:Int}(h:¬Pr n):isP n=false := @decide_eq_false _ (Classical.propDecidable _) h
theorem small{d n:Int}(_h2:2<=d)(h:d * d<=n)(hn:n<=9973):d<=99:=by
 rcases(by omega:d<=99\/100<=d) with e | e
 ·exact e
 ·have:=Int.mul_le_mul e e (by decide) (by omega)
  omega
theorem start(n:Int):(2:Int)<=2/\(2:Int)<=101/\NoDiv n 2:=⟨by decide,by decide,⟨λe h1 h2=>by omega⟩⟩
theorem turn{n d:Int}(h:NoDiv n d)(hm:¬Int.fmod n d=0)(h2:2<=d)(hq:d * d<=n)(hn:n<=9973):2<=d + 1/\d + 1<=101/\NoDiv n (d + 1):=by
 have s:=small h2 hq hn
 refine⟨by omega,by omega,⟨λe h1 h3 => ?_⟩⟩
 rcases(by omega:e < d\/e=d) with q | q
 ·exact h.is e h1 q
 ·rw[q];exact hm
theorem less{n d:Int}(h2:2<=d)(hq:d * d<=n)(hn:n<=9973):(200 - (d + 1)).toNat < (200 - d).toNat:=by
 have s:=small h2 hq hn
 omega
theorem low{n:Int}(h:n < 2):false=isP n:=by
 exact(zt3 λh'=>by have:=h'.1;omega).symm
theorem out{n d:Int}(h:NoDiv n d)(hn:2<=n)(h2:2<=d)(hq:¬d * d<=n):true=isP n:=by
 refine(zu2 ?_).symm
 refine⟨hn,λe h1 h3=>h.is e h1 ?_⟩
 rcases(by omega:e < d\/d<=e) with q | q
 ·exact q
 ·have:=Int.mul_le_mul q q (by omega) (by omega)
  omega
theorem found{n d:Int}(h2:2<=d)(hq:d * d<=n)(hm:Int.fmod n d=0):false=isP n:=by
 exact(zt3 λh'=>h'.2 d h2 hq hm).symm
end K3
namespace K2
/-- no divisor at all between 1 and p -/
theorem zu3{p l:Int}(hp:K3.Pr p)(h1:1 < l)(h2:l < p):Int.fmod p l≠0:=by
 intro h0
 rw[Int.fmod_eq_emod_of_nonneg p (by omega)]at h0
 have hd:p=l * (p / l):=by have:=Int.mul_ediv_add_emod p l;omega
 have hq1:1 < p / l:=by
  rcases(by omega:p / l<=1\/1 < p / l) with q | q
  ·have:=Int.mul_le_mul_of_nonneg_left q (by omega:0<=l)
   omega
  ·exact q
 rcases(by omega:l * l<=p\/p < l * l) with q | q
 ·refine hp.2 l (by omega) q ?_
  rw[Int.fmod_eq_emod_of_nonneg p (by omega)];exact h0
 ·have hlt:p / l < l:=by
   rcases(by omega:p / l < l\/l<=p / l) with r | r
   ·exact r
   ·have:=Int.mul_le_mul_of_nonneg_left r (by omega:0<=l)
    omega
  have hqq:(p / l) * (p / l)<=p:=by
   have h:=Int.mul_le_mul_of_nonneg_right (Int.le_of_lt hlt) (by omega:0<=p / l)
   omega
  refine hp.2 (p / l) (by omega) hqq ?_
  rw[Int.fmod_eq_emod_of_nonneg p (by omega)]
  apply Int.emod_eq_zero_of_dvd
  exact⟨l,by rw[Int.mul_comm];exact hd⟩
/-- the number turned over: the loop's word -/
structure Tn(p a found left:Int):Prop where
 f0:0<=found
 f1:found < p
 l0:1<=left
 l1:left < p
 eq:(found * a - left) % p=0
theorem zkf{p a:Int}(hp:K3.Pr p)(h0:0 < a)(h1:a < p):Tn p a 1 a:=
 ⟨by decide,by have:=hp.1;omega,by omega,h1,by rw[Int.one_mul,Int.sub_self];exact Int.zero_emod p⟩
theorem zny{p a f l:Int}(hp:K3.Pr p)(h:Tn p a f l)(hl:l≠1) :
  Tn p a (Int.fmod (-f * Int.fdiv p l) p) (Int.fmod p l):=by
 have p2:=hp.1
 have l0:=h.l0
 have hne:=zu3 hp (by omega:1 < l) h.l1
 have e0:=h.eq
 have hpos:=Int.fmod_nonneg_of_pos p (show 0 < l by omega)
 have hlt:=Int.fmod_lt_of_pos p (show 0 < l by omega)
 refine⟨Int.fmod_nonneg_of_pos _ (by omega),Int.fmod_lt_of_pos _ (by omega),by omega,by have:=h.l1;omega,?_⟩
 have q:=Int.mul_fdiv_add_fmod p l
 generalize Int.fdiv p l=d at *
 generalize Int.fmod p l=r at *
 rw[Int.fmod_eq_emod_of_nonneg _ (by omega)]
 -- (-f d mod p) * a - r ≡ -d (f a) - r ≡ -d l - r = -p ≡ 0
 apply Int.emod_eq_zero_of_dvd
 obtain⟨k,hk⟩:=Int.dvd_of_emod_eq_zero e0
 have m:=Int.mul_ediv_add_emod (-f * d) p
 generalize (-f * d) / p=g at *
 generalize (-f * d) % p=v at *
 have hv:v = -f * d - p * g:=by omega
 refine⟨-(g * a) - d * k - 1,?_⟩
 rw[hv]
 have h1:f * a=l + p * k:=by omega
 have e1:(-f * d - p * g) * a = -(d * (f * a)) - p * (g * a):=by
  rw[Int.sub_mul]
  have : -f * d * a = -(d * (f * a)):=by
   rw[Int.neg_mul,Int.neg_mul,Int.mul_comm f d,Int.mul_assoc]
  rw[this,Int.mul_assoc]
 rw[e1,h1,Int.mul_add d l (p * k),Int.mul_comm d l]
 have e2:d * (p * k)=p * (d * k):=by rw[<- Int.mul_assoc,Int.mul_comm d p,Int.mul_assoc]
 rw[e2,Int.mul_sub,Int.mul_sub,Int.mul_one,Int.mul_neg]
 omega
theorem znh{p a f l:Int}(h:Tn p a f l):(Int.fmod p l).toNat < l.toNat:=by
 have l0:=h.l0
 have hpos:=Int.fmod_nonneg_of_pos p (show 0 < l by omega)
 have hlt:=Int.fmod_lt_of_pos p (show 0 < l by omega)
 omega
theorem zrf{p a f l:Int}(h:Tn p a f l)(hl:l=1):0<=f/\f < p/\(f * a - 1) % p=0:=by
 refine⟨h.f0,h.f1,?_⟩
 have:=h.eq
 rw[hl]at this;exact this
end K2
namespace K2
end K2
namespace K6
open HT (lexLt)
/-! ### the order of tuples -/
theorem zit:∀x:List Int,lexLt x x=false
 | []=>rfl
 | a :: x=>by rw[HT.lexLt_cons,if_pos rfl];exact zit x
theorem ztr:∀{x y z:List Int},lexLt x y=true->lexLt y z=true->lexLt x z=true
 | [],[],_,h,_=>by cases h
 | [],_ :: _,[],_,h=>by cases h
 | [],_ :: _,_ :: _,_,_=>rfl
 | _ :: _,[],_,h,_=>by cases h
 | _ :: _,_ :: _,[],_,h=>by cases h
 | a :: x,b :: y,c :: z,h1,h2=>by
  rw[HT.lexLt_cons]at h1 h2 ⊢
  by_cases e1:a=b
  ·rw[if_pos e1]at h1
   by_cases e2:b=c
   ·rw[if_pos e2]at h2
    rw[if_pos (e1.trans e2)]
    exact ztr h1 h2
   ·rw[if_neg e2]at h2
    rw[if_neg (by omega),e1]
    exact h2
  ·rw[if_neg e1]at h1
   have l1:a < b:=of_decide_eq_true h1
   by_cases e2:b=c
   ·rw[if_pos e2]at h2
    rw[if_neg (by omega)]
    exact decide_eq_true (by omega)
   ·rw[if_neg e2]at h2
    have l2:b < c:=of_decide_eq_true h2
    rw[if_neg (by omega)]
    exact decide_eq_true (by omega)
theorem zn4:∀{x y:List Int},x≠y->lexLt x y = !lexLt y x
 | [],[],h=>absurd rfl h
 | [],_ :: _,_=>rfl
 | _ :: _,[],_=>rfl
 | a :: x,b :: y,h=>by
  rw[HT.lexLt_cons,HT.lexLt_cons]
  by_cases e:a=b
  ·rw[if_pos e,if_pos e.symm]
   exact zn4 λz=>h (by rw[e,z])
  ·rw[if_neg e,if_neg (Ne.symm e)]
   by_cases l:a < b
   ·rw[decide_eq_true l,decide_eq_false (by omega)];rfl
   ·rw[decide_eq_false l,decide_eq_true (by omega)];rfl
theorem ztj{x y:List Int}(h:lexLt x y=true):lexLt y x=false:=by
 by_cases e:x=y
 ·rw[e,zit]at h;cases h
 ·have:=zn4 e
  rw[h]at this
  cases q:lexLt y x with
  | true=>rw[q]at this;cases this
  | false=>rfl
abbrev vadd(x y:List Int):List Int:=List.zipWith (λa b=>a + b) x y
theorem zre:∀{x y z:List Int},x.length=z.length->y.length=z.length->lexLt (vadd x z) (vadd y z)=lexLt x y
 | [],[],_,_,_=>by simp[vadd]
 | _ :: _,[],[],h,_=>by simp at h
 | [],_ :: _,[],_,h=>by simp at h
 | _ :: _,[],_ :: _,_,h=>by simp at h
 | [],_ :: _,_ :: _,h,_=>by simp at h
 | _ :: _,_ :: _,[],h,_=>by simp at h
 | a :: x,b :: y,c :: z,h1,h2=>by
  have ih:=zre (x:=x) (y:=y) (z:=z) (by simpa using h1) (by simpa using h2)
  simp only[vadd,List.zipWith_cons_cons,HT.lexLt_cons]at ih ⊢
  by_cases e:a=b
  ·rw[if_pos (by omega),if_pos e];exact ih
  ·rw[if_neg (by omega),if_neg e]
   by_cases l:a < b
   ·rw[decide_eq_true l,decide_eq_true (by omega)]
   ·rw[decide_eq_false l,decide_eq_false (by omega)]
/-! ### the ranks -/
def rkL(t:List Int):List Int:=t
def rkD(t:List Int):List Int:=t.sum :: t
def rkT(t:List Int):List Int:=t.sum :: t.reverse.map λx => -x
def wsum(ws t:List Int):Int:=(List.zipWith (λa b=>a * b) t ws).sum
def rkW(ws t:List Int):List Int:=wsum ws t :: t
def zer(n:Nat):List Int:=List.replicate n 0
def Nn(t:List Int):Prop:=∀x∈t,0<=x
theorem zj4:∀{a c:List Int},a.length=c.length->(vadd a c).sum=a.sum + c.sum
 | [],[],_=>rfl
 | _ :: _,[],h=>by simp at h
 | [],_ :: _,h=>by simp at h
 | x :: a,y :: c,h=>by
  have ih:=zj4 (a:=a) (c:=c) (by simpa using h)
  simp only[vadd,List.zipWith_cons_cons,List.sum_cons]at ih ⊢
  omega
theorem zkv:∀{ws a c:List Int},a.length=c.length->wsum ws (vadd a c)=wsum ws a + wsum ws c
 | _,[],[],_=>by simp[wsum,vadd]
 | _,_ :: _,[],h=>by simp at h
 | _,[],_ :: _,h=>by simp at h
 | [],x :: a,y :: c,h=>by simp[wsum,vadd]
 | w :: ws,x :: a,y :: c,h=>by
  have ih:=zkv (ws:=ws) (a:=a) (c:=c) (by simpa using h)
  simp only[wsum,vadd,List.zipWith_cons_cons,List.sum_cons]at ih ⊢
  rw[ih,Int.add_mul];omega
theorem znt:∀{a c:List Int},(vadd a c).map (λx => -x)=vadd (a.map λx => -x) (c.map λx => -x)
 | [],_=>by simp[vadd]
 | _ :: _,[]=>by simp[vadd]
 | x :: a,y :: c=>by
  have ih:=znt (a:=a) (c:=c)
  simp only[vadd,List.zipWith_cons_cons,List.map_cons]at ih ⊢
  rw[ih];congr 1;omega
/-- what the law asks of a rank,for terms of n powers -/
structure OrdM(rk:List Int->List Int)(n:Nat):Prop where
 add:∀a c:List Int,a.length=n->c.length=n->rk (vadd a c)=vadd (rk a) (rk c)
 inj:∀a b:List Int,a.length=n->b.length=n->rk a=rk b->a=b
 len:∀a b:List Int,a.length=n->b.length=n->(rk a).length=(rk b).length
 pos:∀a:List Int,a.length=n->Nn a->a≠zer n->lexLt (rk (zer n)) (rk a)=true
theorem zec(n:Nat):(zer n).length=n:=List.length_replicate
theorem zqz:∀{a:List Int},Nn a->0<=a.sum
 | [],_=>Int.le_refl 0
 | x :: a,h=>by
  have h1:=h x (.head _)
  have h2:=zqz (a:=a) λy hy=>h y (.tail _ hy)
  rw[List.sum_cons];omega
theorem zjz:∀n:Nat,(zer n).sum=0
 | 0=>rfl
 | n + 1=>by
  show ((0:Int) :: zer n).sum=0
  rw[List.sum_cons,zjz n];rfl
theorem zj8:∀{a:List Int},Nn a->a≠zer a.length->0 < a.sum
 | [],_,h=>absurd rfl h
 | x :: a,h,hne=>by
  have h1:=h x (.head _)
  have hn:Nn a:=λy hy=>h y (.tail _ hy)
  have h2:=zqz hn
  rw[List.sum_cons]
  by_cases e:x=0
  ·have:=zj8 (a:=a) hn λz=>hne (by
    show x :: a=0 :: zer a.length
    rw[e,<- z])
   omega
  ·omega
theorem zjv:∀{a:List Int},Nn a->a≠zer a.length->lexLt (zer a.length) a=true
 | [],_,h=>absurd rfl h
 | x :: a,h,hne=>by
  have h1:=h x (.head _)
  show lexLt (0 :: zer a.length) (x :: a)=true
  rw[HT.lexLt_cons]
  by_cases e:0=x
  ·rw[if_pos e]
   exact zjv (λy hy=>h y (.tail _ hy)) λz=>hne (by
    show x :: a=0 :: zer a.length
    rw[<- e,<- z])
  ·rw[if_neg e];exact decide_eq_true (by omega)
theorem ordL(n:Nat):OrdM rkL n:=⟨λ_ _ _ _=>rfl,λ_ _ _ _ h=>h,λ_ _ h1 h2=>h1.trans h2.symm,λa h1 h2 h3=>by subst h1;exact zjv h2 h3⟩
theorem ordD(n:Nat):OrdM rkD n:=by
 refine⟨λa c h1 h2 => ?_,λa b _ _ h => ?_,λa b h1 h2 => ?_,λa h1 h2 h3 => ?_⟩
 ·show (vadd a c).sum :: vadd a c=(a.sum + c.sum) :: vadd a c
  rw[zj4 (h1.trans h2.symm)]
 ·injection h
 ·show (a.length + 1)=b.length + 1
  rw[h1,h2]
 ·subst h1
  show lexLt ((zer a.length).sum :: _) (a.sum :: _)=true
  rw[HT.lexLt_cons,zjz]
  have:=zj8 h2 h3
  rw[if_neg (by omega)]
  exact decide_eq_true this
theorem ordT(n:Nat):OrdM rkT n:=by
 refine⟨λa c h1 h2 => ?_,λa b _ _ h => ?_,λa b h1 h2 => ?_,λa h1 h2 h3 => ?_⟩
 ·show (vadd a c).sum :: ((vadd a c).reverse.map λx => -x)=(a.sum + c.sum) :: vadd (a.reverse.map λx => -x) (c.reverse.map λx => -x)
  rw[zj4 (h1.trans h2.symm),<- znt]
  congr 2
  exact List.reverse_zipWith (h1.trans h2.symm)
 ·have h':a.reverse.map (λx => -x)=b.reverse.map (λx => -x):=by injection h
  have e:∀l:List Int,(l.map λx => -x).map (λx => -x)=l:=λl=>by
   rw[List.map_map]
   conv=>rhs;rw[<- List.map_id l]
   refine List.map_congr_left λx _ => ?_
   show - -x=x
   omega
  have h2:=congrArg (List.map λx => -x) h'
  rw[e,e]at h2
  exact List.reverse_inj.mp h2
 ·simp[rkT,h1,h2]
 ·subst h1
  show lexLt ((zer a.length).sum :: _) (a.sum :: _)=true
  rw[HT.lexLt_cons,zjz]
  have:=zj8 h2 h3
  rw[if_neg (by omega)]
  exact decide_eq_true this
theorem znl:∀{ws a:List Int},Nn ws->Nn a->0<=wsum ws a
 | _,[],_,_=>by simp[wsum]
 | [],_ :: _,_,_=>by simp[wsum]
 | w :: ws,x :: a,h1,h2=>by
  have ih:=znl (ws:=ws) (a:=a) (λy hy=>h1 y (.tail _ hy)) λy hy=>h2 y (.tail _ hy)
  have:=Int.mul_nonneg (h2 x (.head _)) (h1 w (.head _))
  simp only[wsum,List.zipWith_cons_cons,List.sum_cons]at ih ⊢
  omega
theorem zkx:∀(ws:List Int) (n:Nat),wsum ws (zer n)=0
 | _,0=>by simp[wsum,zer]
 | [],n + 1=>by simp[wsum]
 | w :: ws,n + 1=>by
  have ih:=zkx ws n
  show (0 * w :: List.zipWith (λa b=>a * b) (zer n) ws).sum=0
  rw[List.sum_cons]
  unfold wsum at ih
  rw[ih];simp
theorem ordW{ws:List Int}(hw:Nn ws)(n:Nat):OrdM (rkW ws) n:=by
 refine⟨λa c h1 h2 => ?_,λa b _ _ h => ?_,λa b h1 h2 => ?_,λa h1 h2 h3 => ?_⟩
 ·show wsum ws (vadd a c) :: vadd a c=(wsum ws a + wsum ws c) :: vadd a c
  rw[zkv (h1.trans h2.symm)]
 ·injection h
 ·show (a.length + 1)=b.length + 1
  rw[h1,h2]
 ·subst h1
  show lexLt (wsum ws (zer a.length) :: zer a.length) (wsum ws a :: a)=true
  rw[HT.lexLt_cons,zkx]
  have:=znl hw h2
  by_cases e:0=wsum ws a
  ·rw[if_pos e];exact zjv h2 h3
  ·rw[if_neg e];exact decide_eq_true (by omega)
/-! ### unknowns taken out -/
end K6
namespace K6
open L2 PySem
/-- a term at v -/
def Trm(H:Hp)(xs:List Int)(v:V):Prop:=∃r,v = .ref r/\H r=some (.tup (xs.map V.int))
theorem Trm.same{H H':Hp}{xs:List Int}{v:V}(e:Same H H')(h:Trm H xs v):Trm H' xs v:=let ⟨r,a,b⟩:=h;⟨r,a,e _ _ b⟩
theorem pimp{α : Type}{R S : α->V->Prop}(h:∀a v,R a v->S a v):∀{l:List α} {ys:List V},Paired R l ys->Paired S l ys
 | _,_,.nil => .nil
 | _,_,.cons r t => .cons (h _ _ r) (pimp h t)
theorem psnoc{α : Type}{R : α->V->Prop}{a : α}{v:V}(r:R a v):∀{l:List α} {ys:List V},Paired R l ys->Paired R (l ++ [a]) (ys ++ [v])
 | _,_,.nil => .cons r .nil
 | _,_,.cons q t => .cons q (psnoc r t)
end K6
namespace K6
open L2 PySem
/-- a term as a key -/
def ky(xs:List Int):List Key:=xs.map Sum.inl
theorem zeq(xs:List Int):(ky xs).map kV=xs.map V.int:=by unfold ky;rw[List.map_map];rfl
/-- a number of a field,as data -/
structure NmD(d:PyData):Prop where
 lay:d.canLay0=true
 dep:d.depth<=60
theorem NmD.shaped{d:PyData}(h:NmD d):SeqAt.shaped d=true:=by
 have:=h.dep
 unfold SeqAt.shaped
 rw[h.lay,Bool.true_and,decide_eq_true_eq];omega
theorem zto(i:Int):NmD (.int i):=⟨rfl,by simp[PyData.depth]⟩
theorem zqb(i j:Int):NmD (.tuple [.int i,.int j]):=⟨rfl,by simp[PyData.depth,PyData.depthAll]⟩
mutual
theorem Rds.same{K:W.Frag}{H H':Hp}(e:Same H H'):∀{v:V} {d:PyData},Rds K H v d->Rds K H' v d
 | _,_,.non => .non
 | _,_,.bl b => .bl b
 | _,_,.int i => .int i
 | _,_,.str x => .str x
 | _,_,.tup h hs => .tup (e.seqT h) (RdsAll.same e hs)
 | _,_,.lst h hs => .lst (e.seq h) (RdsAll.same e hs)
theorem RdsAll.same{K:W.Frag}{H H':Hp}(e:Same H H'):∀{vs:List V} {ds:List PyData},RdsAll K H vs ds->RdsAll K H' vs ds
 | _,_,.nil => .nil
 | _,_,.cons h hs => .cons (Rds.same e h) (RdsAll.same e hs)
end
theorem zo1{K:W.Frag}{H:Hp}{d a:Addr}{kvs:List (List Key×V)}{o:HO}{xs:List V}(e:H d=some (.dT kvs))(h:SqT K H a xs):SqT K (upd H d o) a xs:=by
 rcases h with(h | ⟨q,h⟩) | h
 ·exact .inl (.inl (by rw[zao (zdk h e (by intro z;cases z))];exact h))
 ·exact .inl (.inr ⟨q,by rw[zao (zdk h e (by intro z;cases z))];exact h⟩)
 ·exact .inr h
theorem zo9{K:W.Frag}{H:Hp}{d a:Addr}{kvs:List (List Key×V)}{o:HO}{xs:List V}(e:H d=some (.dT kvs))(h:SqL K H a xs):SqL K (upd H d o) a xs:=by
 rcases h with(h | ⟨q,h⟩) | h
 ·exact .inl (.inl (by rw[zao (zdk h e (by intro z;cases z))];exact h))
 ·exact .inl (.inr ⟨q,by rw[zao (zdk h e (by intro z;cases z))];exact h⟩)
 ·exact .inr h
mutual
theorem Rds.updD{K:W.Frag}{H:Hp}{d:Addr}{kvs:List (List Key×V)}{o:HO}(e:H d=some (.dT kvs)):∀{v:V} {z:PyData},Rds K H v z->Rds K (upd H d o) v z
 | _,_,.non => .non
 | _,_,.bl b => .bl b
 | _,_,.int i => .int i
 | _,_,.str x => .str x
 | _,_,.tup h hs => .tup (zo1 e h) (RdsAll.updD e hs)
 | _,_,.lst h hs => .lst (zo9 e h) (RdsAll.updD e hs)
theorem RdsAll.updD{K:W.Frag}{H:Hp}{d:Addr}{kvs:List (List Key×V)}{o:HO}(e:H d=some (.dT kvs)):∀{vs:List V} {ds:List PyData},RdsAll K H vs ds->RdsAll K (upd H d o) vs ds
 | _,_,.nil => .nil
 | _,_,.cons h hs => .cons (Rds.updD e h) (RdsAll.updD e hs)
end
theorem zpz{K:W.Frag}{H:Hp}{r:Addr}{i j:Int}(h:H r=some (.tup [.int i,.int j])):Rds K H (.ref r) (.tuple [.int i,.int j]) := .tup (SqT.of h) (.cons (.int i) (.cons (.int j) .nil))
end K6
namespace K8
open L2 PySem K1 K2 K3 K6
/-- nought in the field: n=0 the fractions,else the rests by n -/
def zr(n T:Int):Prop:=if n=0 then T=0 else T % n=0
instance zrDec(n T:Int):Decidable (zr n T):=by unfold zr;exact inferInstance
theorem zr_0{T:Int}:zr 0 T↔T=0:=by simp[zr]
theorem zr_n{n T:Int}(h:n≠0):zr n T↔T % n=0:=by simp[zr,h]
theorem zlw{n:Int}(h:Pr n):n≠0:=by have:=h.1;omega
theorem zuy{x y T B:Int}(hy:1<=y)(c:gI x y=1)(hB:B≠0)(e:x * B=T * y):x.natAbs<=T.natAbs/\y.natAbs<=B.natAbs:=by
 refine⟨?_,?_⟩
 ·by_cases t:T=0
  ·subst t;rw[Int.zero_mul]at e
   rcases Int.mul_eq_zero.mp e with q | q
   ·rw[q];simp
   ·exact absurd q hB
  ·have d:x ∣ y * T:=⟨B,by rw[Int.mul_comm,<- e]⟩
   have:=Int.natAbs_dvd_natAbs.mpr (zfl c d)
   exact Nat.le_of_dvd (by omega) this
 ·have d:y ∣ x * B:=⟨T,by rw[e,Int.mul_comm]⟩
  have:=Int.natAbs_dvd_natAbs.mpr (zfl (zfk c) d)
  exact Nat.le_of_dvd (by omega) this
end K8
namespace K8
open L2 PySem K1 K2 K3 K6
theorem zf3{a b:List Int}(h:ky a=ky b):a=b:=by
 unfold ky at h
 exact(List.map_inj_right (λx y e=>Sum.inl.inj e)).mp h
theorem zkm{kvs:List (List Key×V)}{k:List Key}{v:V}:((putK kvs k v).map (·.1))=if (valV kvs k).isSome then kvs.map (·.1) else kvs.map (·.1) ++ [k]:=by
 unfold putK
 rw[zeg]
 cases h:(valV kvs k).isSome with
 | true=>
  rw[if_pos rfl,if_pos rfl,List.map_map]
  refine List.map_congr_left λp _ => ?_
  show (if p.1=k then(p.1,v) else p).1=p.1
  split <;> rfl
 | false=>rw[if_neg (by decide),if_neg (by decide),List.map_append];rfl
theorem mem_of_valV{kvs:List (List Key×V)}{k:List Key}:(valV kvs k).isSome=true↔k∈kvs.map (·.1):=by
 rw[<- zeg,List.any_eq_true]
 constructor
 ·rintro⟨p,hp,e⟩;exact List.mem_map.mpr ⟨p,hp,of_decide_eq_true e⟩
 ·intro h;obtain⟨p,hp,e⟩:=List.mem_map.mp h;exact⟨p,hp,decide_eq_true e⟩
theorem znr(kvs:List (List Key×V))(k j:List Key):valV (dropK kvs k) j=if j=k then none else valV kvs j:=by
 unfold dropK
 induction kvs with
 | nil=>rw[List.filter_nil,zpd];split <;> rfl
 | cons p r ih=>
  rw[List.filter_cons]
  by_cases e:p.1=k
  ·rw[if_neg (by simp[e]),ih]
   by_cases q:j=k
   ·rw[if_pos q,if_pos q]
   ·rw[if_neg q,if_neg q,zb0 (λz=>q (z.symm.trans e))]
  ·rw[if_pos (by simp[e])]
   by_cases z:p.1=j
   ·rw[zcf z,zcf z,if_neg (λq=>e (z.trans q))]
   ·rw[zb0 z,zb0 z,ih]
theorem zk3:∀{kvs:List (List Key×V)} (_:(kvs.map (·.1)).Nodup) {i:Nat} {k:List Key} {v:V},kvs[i]? = some (k,v)->valV kvs k=some v
 | [],_,i,k,v,h=>by simp at h
 | p :: r,hn,0,k,v,h=>by
  simp at h;subst h;exact zcf rfl
 | p :: r,hn,i + 1,k,v,h=>by
  rw[List.getElem?_cons_succ]at h
  rw[List.map_cons,List.nodup_cons]at hn
  have:¬p.1=k:=λe=>hn.1 (List.mem_map.mpr ⟨(k,v),List.mem_of_getElem? h,e.symm⟩)
  rw[zb0 this];exact zk3 hn.2 h
theorem zen{α : Type}{l:List α}{i:Nat}{a : α}(h:l[i]? = some a):l.take (i + 1)=l.take i ++ [a]:=by
 rw[List.take_add_one,h];rfl
theorem zth{α : Type}{l:List α}(hn:l.Nodup){i:Nat}{a : α}(h:l[i]? = some a):a ∉ l.take i:=by
 intro hm
 have e:l.take (i + 1)=l.take i ++ [a]:=zen h
 have n1:(l.take (i + 1)).Nodup:=hn.sublist (List.take_sublist _ _)
 rw[e,List.nodup_append]at n1
 exact n1.2.2 a hm a (by simp) rfl
theorem zik{α β : Type}{f : α->β}:∀{l:List α},(l.map f).Nodup->l.Nodup
 | [],_=>List.nodup_nil
 | a :: l,h=>by
  rw[List.map_cons,List.nodup_cons]at h
  exact List.nodup_cons.mpr ⟨λz=>h.1 (List.mem_map.mpr ⟨a,z,rfl⟩),zik h.2⟩
theorem ztz{kvs:List (List Key×V)}{k:List Key}{v:V}(h:(kvs.map (·.1)).Nodup):((putK kvs k v).map (·.1)).Nodup:=by
 rw[zkm]
 cases q:(valV kvs k).isSome with
 | true=>exact h
 | false=>
  rw[if_neg (by decide),List.nodup_append]
  refine⟨h,by simp,λx hx y hy e => ?_⟩
  rw[List.mem_singleton]at hy
  have:=mem_of_valV.mpr (show k∈kvs.map (·.1) by rw[<- hy,<- e];exact hx)
  rw[q]at this;cases this
section
variable{n:Int}{H:Hp}{kvs:List (List Key×V)}{F:List Int->Int×Int}{k:List Int}{t b:Int}{v:V}
end
end K8
namespace K8
open L2 PySem K1 K2 K3 K6
end K8
namespace K37
open L2 PySem
/-! terms that go into others,the corner -/
def goesI(xs ys:List Int):Bool:=(List.range xs.length).all λi=>decide (xs.getD i 0<=ys.getD i 0)
theorem goesI_iff{xs ys:List Int}:goesI xs ys=true↔∀i,i < xs.length->xs.getD i 0<=ys.getD i 0:=by
 unfold goesI
 rw[List.all_eq_true]
 constructor
 ·intro h i hi;have:=h i (List.mem_range.mpr hi);simpa using this
 ·intro h i hi;have:=h i (List.mem_range.mp hi);simpa using this
/-- a term of m powers -/
structure T0(m:Nat)(t:List Int):Prop where
 len:t.length=m
 nn:∀i,0<=t.getD i 0
theorem T0.mem{m:Nat}{t:List Int}(h:T0 m t):∀x∈t,0<=x:=λx hx=>by
 obtain⟨j,hj,rfl⟩:=List.mem_iff_getElem.mp hx
 have:=h.nn j
 simpa[List.getD,hj]using this
theorem T0.of{m:Nat}{t:List Int}(hl:t.length=m)(h:∀x∈t,0<=x):T0 m t:=⟨hl,λi=>by
 rcases Nat.lt_or_ge i t.length with c | c
 ·have:=h t[i] (List.getElem_mem c);simpa[List.getD,c]using this
 ·simp[List.getD,List.getElem?_eq_none c]⟩
theorem zft{a b:List Int}(hl:a.length=b.length)(h:∀i,i < a.length->a.getD i 0=b.getD i 0):a=b:=by
 refine List.ext_getElem hl λi h1 h2 => ?_
 have:=h i h1
 simpa[List.getD,h1,h2]using this
end K37
namespace K37
open L2 PySem
/-! the terms below the powers that stand alone -/
theorem zc4{α : Type}[DecidableEq α]:∀{l l':List α},l.Nodup->(∀a∈l,a∈l')->l.length<=l'.length
 | [],_,_,_=>by simp
 | a :: l,l',nd,h=>by
  rw[List.nodup_cons]at nd
  have:=zc4 (l:=l) (l':=l'.erase a) nd.2 λb hb=>by
   have hb':=h b (by simp[hb])
   exact(List.mem_erase_of_ne (λe=>nd.1 (by rw[<- e];exact hb))).mpr hb'
  rw[List.length_erase_of_mem (h a (by simp))]at this
  have:0 < l'.length:=List.length_pos_of_mem (h a (by simp))
  rw[List.length_cons];omega
end K37
namespace G
open L2 PySem K1 K2 K3 K6 K8
/-! a field in which the whole numbers are nought just where n says so -/
section
variable{F:Type}[Lean.Grind.Field F]
def ic(k:Int):F:=(Lean.Grind.Ring.intCast (α:=F)).intCast k
theorem zim(a b:Int):ic (F:=F) (a + b)=ic a + ic b:=Lean.Grind.Ring.intCast_add a b
theorem za3(a b:Int):ic (F:=F) (a * b)=ic a * ic b:=Lean.Grind.Ring.intCast_mul a b
theorem zkg(a:Int):ic (F:=F) (-a) = - ic a:=Lean.Grind.Ring.intCast_neg a
theorem zm7(a b:Int):ic (F:=F) (a - b)=ic a - ic b:=Lean.Grind.Ring.intCast_sub a b
theorem zb1:ic (F:=F) 0=0:=Lean.Grind.Ring.intCast_zero
theorem zfj:ic (F:=F) 1=1:=Lean.Grind.Ring.intCast_one
end
theorem zt1(k:Int):ic (F:=Rat) k=0↔k=0:=by
 show ((k:Int):Rat)=0↔k=0
 constructor
 ·intro h;exact Rat.intCast_inj.mp (by simpa using h)
 ·intro h;subst h;rfl
/-- what n says of F -/
class Chr (n:Int) (F:Type) [Lean.Grind.Field F]:Prop where
 z:∀k:Int,ic (F:=F) k=0↔zr n k
/-! the rests by a prime -/
def zset(p:Int):Setoid Int where
 r:=λa b=>∃k,a=b + p * k
 iseqv:=⟨λa=>⟨0,by simp⟩,fun{a b} ⟨k,h⟩=>⟨-k,by rw[h,Int.mul_neg];omega⟩,fun{a b c} ⟨k,h⟩ ⟨j,h'⟩=>⟨k + j,by rw[h,h',Int.mul_add];omega⟩⟩
def Zq(p:Int):Type:=Quotient (zset p)
namespace Zq
variable{p:Int}
def mk(a:Int):Zq p:=Quotient.mk (zset p) a
theorem snd{a b:Int}(h:∃k,a=b + p * k):(mk a:Zq p)=mk b:=Quotient.sound (s:=zset p) h
theorem exa{a b:Int}(h:(mk a:Zq p)=mk b):∃k,a=b + p * k:=Quotient.exact (s:=zset p) h
theorem ex(x:Zq p):∃a,x=mk a:=let ⟨a,h⟩:=Quotient.exists_rep (s:=zset p) x;⟨a,h.symm⟩
def add(x y:Zq p):Zq p:=Quotient.liftOn₂ x y (λa b=>mk (a + b)) λa b a' b' ⟨k,h⟩ ⟨j,h'⟩=>snd ⟨k + j,by rw[h,h',Int.mul_add];omega⟩
def mul(x y:Zq p):Zq p:=Quotient.liftOn₂ x y (λa b=>mk (a * b)) λa b a' b' ⟨k,h⟩ ⟨j,h'⟩=>snd ⟨a' * j + k * b' + p * k * j,by rw[h,h'];grind⟩
def neg(x:Zq p):Zq p:=Quotient.liftOn x (λa=>mk (-a)) λa b ⟨k,h⟩=>snd ⟨-k,by rw[h,Int.mul_neg];omega⟩
def pw(x:Zq p):Nat->Zq p
 | 0=>mk 1
 | k + 1=>mul (pw x k) x
open Classical in
noncomputable def inv(x:Zq p):Zq p:=if h:∃y,mul x y=mk 1 then Classical.choose h else mk 0
noncomputable def zpw(x:Zq p):Int->Zq p
 | .ofNat k=>pw x k
 | .negSucc k=>inv (pw x (k + 1))
instance:Add (Zq p):=⟨add⟩
instance:Mul (Zq p):=⟨mul⟩
instance:Neg (Zq p):=⟨neg⟩
instance:Sub (Zq p):=⟨λa b=>add a (neg b)⟩
noncomputable instance:Inv (Zq p):=⟨inv⟩
noncomputable instance:Div (Zq p):=⟨λa b=>mul a (inv b)⟩
theorem zrk(hp:Pr p):∀(k:Nat) {a f l:Int},l.toNat<=k->Tn p a f l->∃f,(f * a - 1) % p=0
 | 0,a,f,l,h,t=>by have:=t.l0;omega
 | k + 1,a,f,l,h,t=>by
  by_cases c:l=1
  ·exact⟨f,(zrf t c).2.2⟩
  ·have:=znh t
   exact zrk hp k (by omega) (zny hp t c)
theorem zt9(hp:Pr p){x:Zq p}(h:x≠mk 0):∃y,mul x y=mk 1:=by
 obtain⟨a,rfl⟩:=ex x
 have p2:=hp.1
 have e:(mk a:Zq p)=mk (a % p):=snd ⟨a / p,by have:=Int.mul_ediv_add_emod a p;omega⟩
 have h0:0<=a % p:=Int.emod_nonneg _ (by omega)
 have h1:a % p < p:=Int.emod_lt_of_pos _ (by omega)
 have hz:a % p≠0:=λz=>h (by rw[e,z])
 obtain⟨f,hf⟩:=zrk hp _ (Nat.le_refl _) (zkf hp (by omega) h1)
 obtain⟨k,hk⟩:=Int.dvd_of_emod_eq_zero hf
 refine⟨mk f,?_⟩
 rw[e]
 exact snd ⟨k,by rw[Int.mul_comm];omega⟩
theorem zh7(hp:Pr p){x:Zq p}(h:x≠mk 0):mul x (inv x)=mk 1:=by
 have q:=zt9 hp h
 unfold inv
 rw[dif_pos q];exact Classical.choose_spec q
theorem zn7(x y:Zq p):mul x y=mul y x:=by
 obtain⟨a,rfl⟩:=ex x
 obtain⟨b,rfl⟩:=ex y
 exact congrArg mk (Int.mul_comm a b)
theorem zug(x y z:Zq p):mul (mul x y) z=mul x (mul y z):=by
 obtain⟨a,rfl⟩:=ex x
 obtain⟨b,rfl⟩:=ex y
 obtain⟨c,rfl⟩:=ex z
 exact congrArg mk (Int.mul_assoc a b c)
theorem zmk(x:Zq p):mul (mk 1) x=x:=by obtain⟨a,rfl⟩:=ex x;exact congrArg mk (Int.one_mul a)
theorem zk4(x:Zq p):mul (mk 0) x=mk 0:=by obtain⟨a,rfl⟩:=ex x;exact congrArg mk (Int.zero_mul a)
theorem zkr(hp:Pr p):(mk 0:Zq p)≠mk 1:=λh=>by
 obtain⟨k,e⟩:=exa h
 have p2:=hp.1
 have:p * k = -1:=by omega
 have d:p ∣ 1:=⟨-k,by rw[Int.mul_neg];omega⟩
 have:=Int.le_of_dvd (by decide) d
 omega
theorem zte(hp:Pr p):inv (mk 0:Zq p)=mk 0:=by
 unfold inv
 rw[dif_neg]
 rintro⟨y,h⟩
 rw[zk4]at h
 exact zkr hp h
theorem zsv(hp:Pr p)(x:Zq p):inv (inv x)=x:=by
 by_cases h:x=mk 0
 ·rw[h,zte hp,zte hp]
 ·have h1:=zh7 hp h
  have h2:inv x≠mk 0:=λz=>by rw[z,zn7,zk4]at h1;exact zkr hp h1
  have h3:=zh7 hp h2
  calc inv (inv x)=mul (mk 1) (inv (inv x)):=(zmk _).symm
   _=mul (mul x (inv x)) (inv (inv x)):=by rw[h1]
   _=mul x (mul (inv x) (inv (inv x))):=zug _ _ _
   _=mul x (mk 1):=by rw[h3]
   _=x:=by rw[zn7,zmk]
theorem zvy(hp:Pr p):inv (mk 1:Zq p)=mk 1:=by
 have h1:=zh7 hp (x:=mk 1) (zkr hp).symm
 rwa [zmk]at h1
noncomputable def fld(hp:Pr p):Lean.Grind.Field (Zq p) where
 natCast:=⟨λn=>mk n⟩
 ofNat:=λn=>⟨mk n⟩
 nsmul:=⟨λn x=>mul (mk n) x⟩
 npow:=⟨pw⟩
 intCast:=⟨λn=>mk n⟩
 zsmul:=⟨λn x=>mul (mk n) x⟩
 zpow:=⟨zpw⟩
 add_zero:=λx=>by obtain⟨a,rfl⟩:=ex x;exact congrArg mk (Int.add_zero a)
 add_comm:=λx y=>by obtain⟨a,rfl⟩:=ex x;obtain⟨b,rfl⟩:=ex y;exact congrArg mk (Int.add_comm a b)
 add_assoc:=λx y z=>by obtain⟨a,rfl⟩:=ex x;obtain⟨b,rfl⟩:=ex y;obtain⟨c,rfl⟩:=ex z;exact congrArg mk (Int.add_assoc a b c)
 mul_assoc:=zug
 mul_comm:=zn7
 mul_one:=λx=>(zn7 x (mk 1)).trans (zmk x)
 one_mul:=zmk
 right_distrib:=λx y z=>by obtain⟨a,rfl⟩:=ex x;obtain⟨b,rfl⟩:=ex y;obtain⟨c,rfl⟩:=ex z;exact congrArg mk (Int.add_mul a b c)
 left_distrib:=λx y z=>by obtain⟨a,rfl⟩:=ex x;obtain⟨b,rfl⟩:=ex y;obtain⟨c,rfl⟩:=ex z;exact congrArg mk (Int.mul_add a b c)
 zero_mul:=zk4
 mul_zero:=λx=>(zn7 _ _).trans (zk4 x)
 pow_zero:=λx=>rfl
 pow_succ:=λx n=>rfl
 ofNat_succ:=λn=>rfl
 ofNat_eq_natCast:=λn=>rfl
 nsmul_eq_natCast_mul:=λn x=>rfl
 neg_add_cancel:=λx=>by obtain⟨a,rfl⟩:=ex x;exact congrArg mk (Int.add_left_neg a)
 sub_eq_add_neg:=λx y=>rfl
 neg_zsmul:=λi x=>by obtain⟨a,rfl⟩:=ex x;exact congrArg mk (Int.neg_mul i a)
 zsmul_natCast_eq_nsmul:=λn x=>rfl
 intCast_ofNat:=λn=>rfl
 intCast_neg:=λn=>rfl
 div_eq_mul_inv:=λx y=>rfl
 zero_ne_one:=zkr hp
 inv_zero:=zte hp
 mul_inv_cancel:=fun{x} h=>zh7 hp h
 zpow_zero:=λx=>rfl
 zpow_succ:=λx n=>rfl
 zpow_neg:=λx n=>by
  cases n with
  | ofNat k=>
   cases k with
   | zero=>exact(zvy hp).symm
   | succ k=>rfl
  | negSucc k=>exact(zsv hp _).symm
end Zq
theorem zvo(n:Int)(hn:n=0\/Pr n):∃(F:Type) (_:Lean.Grind.Field F),Chr n F:=by
 by_cases c:n=0
 ·subst c
  exact⟨Rat,inferInstance,⟨λk=>by rw[zr_0];exact zt1 k⟩⟩
 ·have hp:Pr n:=hn.resolve_left c
  refine⟨Zq n,Zq.fld hp,@Chr.mk n (Zq n) (Zq.fld hp) λk => ?_⟩
  rw[zr_n c]
  show (Zq.mk k:Zq n)=Zq.mk 0↔_
  constructor
  ·intro h
   obtain⟨j,e⟩:=Zq.exa h
   rw[e];simp
  ·intro h
   obtain⟨j,e⟩:=Int.dvd_of_emod_eq_zero h
   exact Zq.snd ⟨j,by rw[e];simp⟩
end G
namespace G
open L2 PySem K1 K2 K3 K6 K8 K37
/-! terms -/
def addT(a b:List Int):List Int:=List.zipWith (· + ·) a b
def subT(a b:List Int):List Int:=List.zipWith (· - ·) a b
theorem zdq{a b:List Int}(h:a.length=b.length):(addT a b).length=a.length:=by simp[addT,h]
theorem zgi{a b:List Int}(h:a.length=b.length):(subT a b).length=a.length:=by simp[subT,h]
theorem zeh{a b:List Int}(h:a.length=b.length)(i:Nat):(addT a b).getD i 0=a.getD i 0 + b.getD i 0:=by
 rcases Nat.lt_or_ge i a.length with c | c
 ·have c2:i < b.length:=by omega
  simp[addT,List.getD,List.getElem?_zipWith,c,c2]
 ·have c2:b.length<=i:=by omega
  simp[addT,List.getD,List.getElem?_zipWith,List.getElem?_eq_none c,List.getElem?_eq_none c2]
theorem zj7{a b:List Int}(h:a.length=b.length)(i:Nat):(subT a b).getD i 0=a.getD i 0 - b.getD i 0:=by
 rcases Nat.lt_or_ge i a.length with c | c
 ·have c2:i < b.length:=by omega
  simp[subT,List.getD,List.getElem?_zipWith,c,c2]
 ·have c2:b.length<=i:=by omega
  simp[subT,List.getD,List.getElem?_zipWith,List.getElem?_eq_none c,List.getElem?_eq_none c2]
theorem zg3{a b:List Int}(h:a.length=b.length):addT a b=addT b a:=zft (by rw[zdq h,zdq h.symm,h]) λi _=>by rw[zeh h,zeh h.symm];omega
theorem zgj{a b:List Int}(h:a.length=b.length):addT b (subT a b)=a:=zft (by rw[zdq (by rw[zgi h];omega),h]) λi _=>by rw[zeh (by rw[zgi h];omega),zj7 h];omega
theorem zof{a b:List Int}(h:a.length=b.length):subT (addT b a) b=a:=zft (by rw[zgi (by rw[zdq h.symm]),zdq h.symm,h]) λi _=>by rw[zj7 (by rw[zdq h.symm]),zeh h.symm];omega
theorem zhd{a b c:List Int}(h:a.length=b.length)(h':a.length=c.length)(e:addT c a=addT c b):a=b:=zft h λi _=>by
 have this:(addT c a).getD i 0=(addT c b).getD i 0:=by rw[e]
 rw[zeh h'.symm,zeh (by omega)]at this;omega
theorem zr0{a:List Int}{m:Nat}(h:a.length=m):addT (zer m) a=a:=zft (by rw[zdq (by rw[zec,h]),zec,h]) λi _=>by
 rw[zeh (by rw[zec,h])]
 have:(zer m).getD i 0=0:=by unfold zer;rcases Nat.lt_or_ge i m with c | c <;> simp[List.getD,c]
 omega
theorem T0.add{m:Nat}{a b:List Int}(ha:T0 m a)(hb:T0 m b):T0 m (addT a b):=⟨by rw[zdq (by rw[ha.len,hb.len]),ha.len],λi=>by rw[zeh (by rw[ha.len,hb.len])];have:=ha.nn i;have:=hb.nn i;omega⟩
theorem T0.sub{m:Nat}{a b:List Int}(ha:T0 m a)(hb:T0 m b)(g:goesI b a=true):T0 m (subT a b):=⟨by rw[zgi (by rw[ha.len,hb.len]),ha.len],λi=>by
 rw[zj7 (by rw[ha.len,hb.len])]
 rcases Nat.lt_or_ge i b.length with c | c
 ·have:=goesI_iff.mp g i c;omega
 ·have:=ha.nn i;have e:b.getD i 0=0:=by simp[List.getD,List.getElem?_eq_none c]
  omega⟩
theorem zqn{m:Nat}{a b:List Int}(ha:T0 m a)(hb:T0 m b):goesI b (addT b a)=true:=goesI_iff.mpr λi _=>by rw[zeh (by rw[ha.len,hb.len])];have:=ha.nn i;omega
/-! orders -/
section
variable{rk:List Int->List Int}{m:Nat}
def lt(rk:List Int->List Int)(a b:List Int):Prop:=HT.lexLt (rk a) (rk b)=true
theorem lt_irrefl{a:List Int}(h:lt rk a a):False:=by unfold lt at h;rw[zit]at h;cases h
theorem lt_trans{a b c:List Int}(h:lt rk a b)(h':lt rk b c):lt rk a c:=ztr h h'
theorem zib{a b:List Int}(h:lt rk a b)(h':lt rk b a):False:=lt_irrefl (lt_trans h h')
theorem zh6(O:OrdM rk m){a b:List Int}(ha:a.length=m)(hb:b.length=m):lt rk a b\/a=b\/lt rk b a:=by
 by_cases e:a=b
 ·exact .inr (.inl e)
 ·have ne:rk a≠rk b:=λz=>e (O.inj a b ha hb z)
  have:=zn4 ne
  cases q:HT.lexLt (rk b) (rk a) with
  | true=>exact .inr (.inr q)
  | false=>rw[q]at this;exact .inl this
theorem zul(O:OrdM rk m){a b:List Int}(ha:a.length=m)(hb:b.length=m)(h:HT.lexLt (rk a) (rk b)=false):b=a\/lt rk b a:=by
 rcases zh6 O ha hb with q | q | q
 ·unfold lt at q;rw[q]at h;cases h
 ·exact .inl q.symm
 ·exact .inr q
theorem zly(O:OrdM rk m){a b c:List Int}(ha:a.length=m)(hb:b.length=m)(hc:c.length=m):lt rk (addT a c) (addT b c)↔lt rk a b:=by
 unfold lt
 have e1:rk (addT a c)=vadd (rk a) (rk c):=O.add a c ha hc
 have e2:rk (addT b c)=vadd (rk b) (rk c):=O.add b c hb hc
 rw[e1,e2,zre (O.len a c ha hc) (O.len b c hb hc)]
theorem znk(O:OrdM rk m){a b c:List Int}(ha:a.length=m)(hb:b.length=m)(hc:c.length=m):lt rk (addT c a) (addT c b)↔lt rk a b:=by
 rw[zg3 (by omega:c.length=a.length),zg3 (by omega:c.length=b.length)];exact zly O ha hb hc
theorem zti(O:OrdM rk m){a b:List Int}(ha:T0 m a)(hb:T0 m b)(g:goesI a b=true):a=b\/lt rk a b:=by
 have h:=T0.sub hb ha g
 by_cases e:subT b a=zer m
 ·left
  have:=zgj (a:=b) (b:=a) (by rw[ha.len,hb.len])
  rw[e,zg3 (by rw[zec,ha.len]),zr0 ha.len]at this;exact this
 ·right
  have p:=O.pos (subT b a) h.len (λx hx=>h.mem x hx) e
  have:=(znk O (a:=zer m) (b:=subT b a) (c:=a) (zec m) h.len ha.len).mpr p
  rwa [zgj (by rw[ha.len,hb.len]),zg3 (by rw[zec,ha.len]),zr0 ha.len]at this
end
end G
namespace G
open L2 PySem K1 K2 K3 K6 K8 K37
section
variable{F:Type}[Lean.Grind.Field F]
/-! sums -/
def sm{α : Type}(φ : α->F):List α->F
 | []=>0
 | a :: l=>φ a + sm φ l
variable{α β : Type}
theorem zq6(φ : α->F):∀l l':List α,sm φ (l ++ l')=sm φ l + sm φ l'
 | [],l'=>by show sm φ l'=0 + sm φ l';grind
 | a :: l,l'=>by show φ a + sm φ (l ++ l') = φ a + sm φ l + sm φ l';rw[zq6 φ l l'];grind
theorem zsz(φ : α->F)(l:List α)(a : α):sm φ (l ++ [a])=sm φ l + φ a:=by rw[zq6];show _ + (φ a + 0)=_;grind
theorem zf8{φ ψ : α->F}:∀{l:List α},(∀a∈l,φ a = ψ a)->sm φ l=sm ψ l
 | [],_=>rfl
 | a :: l,h=>by show φ a + _ = ψ a + _;rw[h a (by simp),zf8 λb hb=>h b (by simp[hb])]
theorem zeo{φ : α->F}:∀{l:List α},(∀a∈l,φ a=0)->sm φ l=0
 | [],_=>rfl
 | a :: l,h=>by show φ a + _=0;rw[h a (by simp),zeo λb hb=>h b (by simp[hb])];grind
theorem zok(φ ψ : α->F):∀l:List α,sm (λa=>φ a - ψ a) l=sm φ l - sm ψ l
 | []=>by show (0:F)=0 - 0;grind
 | a :: l=>by show φ a - ψ a + _ = φ a + _ - (ψ a + _);rw[zok φ ψ l];grind
theorem zta{φ : α->F}{l l':List α}(h:l.Perm l'):sm φ l=sm φ l':=by
 induction h with
 | nil=>rfl
 | cons a _ ih=>show φ a + _ = φ a + _;rw[ih]
 | swap a b l=>show φ b + (φ a + _) = φ a + (φ b + _);grind
 | trans _ _ h1 h2=>exact h1.trans h2
theorem zgc[DecidableEq α]{φ : α->F}{a : α}{l:List α}(h:a∈l):sm φ l = φ a + sm φ (l.erase a):=zta (List.perm_cons_erase h)
theorem zoc[DecidableEq α]{φ : α->F}{a : α}{l:List α}(nd:l.Nodup)(h:a∈l)(z:∀b∈l,b≠a->φ b=0):sm φ l = φ a:=by
 rw[zgc h,zeo (l:=l.erase a)]
 ·grind
 ·intro b hb
  have:=(List.Nodup.mem_erase_iff nd).mp hb
  exact z b this.2 this.1
theorem zmh[DecidableEq α]{φ : α->F}:∀{l l':List α},l.Nodup->l'.Nodup->(∀a∈l,a∈l')->(∀a∈l',a ∉ l->φ a=0)->sm φ l=sm φ l'
 | [],l',_,_,_,h=>by rw[zeo (l:=l') λa ha=>h a ha (by simp)];rfl
 | a :: l,l',n1,n2,h1,h2=>by
  rw[List.nodup_cons]at n1
  rw[zgc (h1 a (by simp))]
  show φ a + sm φ l=_
  rw[zmh (l:=l) (l':=l'.erase a) n1.2 (n2.erase a) (λb hb => ?_) λb hb nb => ?_]
  ·exact(List.Nodup.mem_erase_iff n2).mpr ⟨λe=>n1.1 (e ▸ hb),h1 b (by simp[hb])⟩
  ·have:=(List.Nodup.mem_erase_iff n2).mp hb
   exact h2 b this.2 (by simp[this.1,nb])
/-! polynomials: their numbers at the terms -/
abbrev Po(F:Type):=List Int->F
variable{m:Nat}
def Spt(m:Nat)(φ : Po F):Prop:=∀t,φ t≠0->T0 m t
def sh(l:List Int)(φ : Po F):Po F:=λt=>if t.length=l.length then φ (subT t l) else 0
theorem znc{l u:List Int}{φ : Po F}(h:u.length=l.length):sh l φ (addT l u) = φ u:=by unfold sh;rw[if_pos (zdq h.symm),zof h]
theorem zoz{l t:List Int}{φ : Po F}(h:t.length=l.length):sh l φ t = φ (subT t l):=by unfold sh;rw[if_pos h]
theorem zpc{l t:List Int}{φ : Po F}(hl:T0 m l)(hs:Spt m φ)(h:sh l φ t≠0):T0 m t/\goesI l t=true/\φ (subT t l)≠0/\t=addT l (subT t l):=by
 unfold sh at h
 split at h
 ·rename_i e
  have t0:=hs _ h
  have et:=(zgj e).symm
  refine⟨?_,?_,h,et⟩
  ·rw[et];exact T0.add hl t0
  ·rw[et];exact zqn t0 hl
 ·exact absurd rfl h
theorem zvt{φ : Po F}(hs:Spt m φ):sh (zer m) φ = φ:=funext λt=>by
 by_cases c:t.length=m
 ·rw[zoz (by rw[zec,c])]
  congr 1
  have:=zof (a:=t) (b:=zer m) (by rw[zec,c])
  rwa [zr0 c]at this
 ·unfold sh
  rw[if_neg (by rw[zec];exact c)]
  exact Classical.byContradiction λz=>c (hs t (λq=>z q.symm)).len
/-- the first term -/
def Ld(rk:List Int->List Int)(φ : Po F)(l:List Int):Prop:=φ l≠0/\∀t,φ t≠0->t=l\/lt rk t l
theorem Ld.one{rk:List Int->List Int}{φ : Po F}{l l':List Int}(h:Ld rk φ l)(h':Ld rk φ l'):l=l':=by
 rcases h.2 l' h'.1 with e | e
 ·exact e.symm
 ·rcases h'.2 l h.1 with e' | e'
  ·exact e'
  ·exact(zib e e').elim
theorem Ld.sh{rk:List Int->List Int}(O:OrdM rk m){φ : Po F}{l o:List Int}(hs:Spt m φ)(ho:T0 m o)(h:Ld rk φ l):Ld rk (sh o φ) (addT o l):=by
 have hl:=hs l h.1
 refine⟨by rw[znc (by rw[hl.len,ho.len])];exact h.1,λt ht => ?_⟩
 obtain⟨t0,g,nz,e⟩:=zpc ho hs ht
 have hu:=hs _ nz
 rcases h.2 _ nz with q | q
 ·left;rw[e,q]
 ·right;rw[e];exact(znk O hu.len hl.len ho.len).mpr q
/-- products,by a list that holds the left one's terms -/
def mul(S:List (List Int))(φ ψ : Po F):Po F:=λt=>sm (λo=>φ o * sh o ψ t) S
theorem zl9{S S':List (List Int)}{φ ψ : Po F}(n1:S.Nodup)(n2:S'.Nodup)(h1:∀t,φ t≠0->t∈S)(h2:∀t,φ t≠0->t∈S'):mul S φ ψ = mul S' φ ψ:=by
 have z:∀{S:List (List Int)},S.Nodup->(∀t,φ t≠0->t∈S)->∀t,mul S φ ψ t=sm (λo=>φ o * sh o ψ t) (S.filter λo => @decide (φ o≠0) (Classical.propDecidable _)):=fun{S} nS hS t=>by
  refine(zmh (nS.filter _) nS (λa ha=>(List.mem_filter.mp ha).1) λa ha na => ?_).symm
  have : φ a=0:=Classical.byContradiction λq=>na (List.mem_filter.mpr ⟨ha,@decide_eq_true _ (Classical.propDecidable _) q⟩)
  rw[this];grind
 funext t
 rw[z n1 h1,z n2 h2]
 refine zmh (n1.filter _) (n2.filter _) (λa ha => ?_) λa ha na => ?_
 ·have q := @of_decide_eq_true _ (Classical.propDecidable _) (List.mem_filter.mp ha).2
  exact List.mem_filter.mpr ⟨h2 a q,(List.mem_filter.mp ha).2⟩
 ·have q := @of_decide_eq_true _ (Classical.propDecidable _) (List.mem_filter.mp ha).2
  exact absurd (List.mem_filter.mpr ⟨h1 a q,(List.mem_filter.mp ha).2⟩) na
theorem zuv{S:List (List Int)}{φ ψ : Po F}{t:List Int}(h:mul S φ ψ t≠0):∃o∈S,φ o≠0/\sh o ψ t≠0:=Classical.byContradiction λz=>h (zeo λo ho=>by
 by_cases c : φ o=0
 ·rw[c];grind
 ·have:sh o ψ t=0:=Classical.byContradiction λq=>z ⟨o,ho,c,q⟩
  rw[this];grind)
/-! what is whole when multiplied -/
end
end G
namespace G
open L2 PySem K1 K2 K3 K6 K8 K37
section
variable{F:Type}[Lean.Grind.Field F]{n:Int}
theorem zpa[Chr n F]{k:Int}(h:¬zr n k):ic (F:=F) k≠0:=λz=>h ((Chr.z k).mp z)
theorem zkc[Chr n F]{a b:Int}:ic (F:=F) a=ic b↔zr n (a - b):=by
 rw[<- Chr.z (F:=F),zm7]
 exact⟨λh=>by rw[h];grind,λh=>by grind⟩
theorem zgu[Chr n F](k:Int):ic (F:=F) (k % n)=ic k:=by
 rw[zkc (n:=n)]
 by_cases c:n=0
 ·subst c;rw[zr_0];simp
 ·rw[zr_n c]
  have:=Int.mul_ediv_add_emod k n
  have e:k % n - k=n * (-(k / n)):=by rw[Int.mul_neg];omega
  rw[e];simp
/-- v stands for the number x of the field -/
def Rep(n:Int)(H:Hp)(v:V)(x:F):Prop:=
 if n=0 then ∃(r:Addr) (p q:Int),v = .ref r/\H r=some (.tup [.int p,.int q])/\1<=q/\gI p q=1/\x * ic q=ic p
 else ∃a:Int,v = .int a/\0<=a/\a < n/\x=ic a
theorem rep_0{H:Hp}{v:V}{x:F}:Rep 0 H v x↔∃(r:Addr) (p q:Int),v = .ref r/\H r=some (.tup [.int p,.int q])/\1<=q/\gI p q=1/\x * ic q=ic p:=by unfold Rep;rw[if_pos rfl]
theorem zdl(h:n≠0){H:Hp}{v:V}{x:F}:Rep n H v x↔∃a:Int,v = .int a/\0<=a/\a < n/\x=ic a:=by unfold Rep;rw[if_neg h]
theorem Rep.keep{H H':Hp}{v:V}{x:F}(k:∀b xs,H b=some (.tup xs)->H' b=some (.tup xs))(h:Rep n H v x):Rep n H' v x:=by
 by_cases z:n=0
 ·subst z
  obtain⟨r,p,q,e,hr,w⟩:=rep_0.mp h
  exact rep_0.mpr ⟨r,p,q,e,k _ _ hr,w⟩
 ·exact(zdl z).mpr ((zdl z).mp h)
theorem Rep.same{H H':Hp}{v:V}{x:F}(e:Same H H')(h:Rep n H v x):Rep n H' v x:=h.keep λ_ _=>e _ _
/-- the data that stand for x -/
def RD(n:Int)(x:F)(d:PyData):Prop:=
 if n=0 then ∃(p q:Int),d = .tuple [.int p,.int q]/\1<=q/\gI p q=1/\x * ic q=ic p
 else ∃a:Int,d = .int a/\0<=a/\a < n/\x=ic a
theorem rd_0{d:PyData}{x:F}:RD 0 x d↔∃(p q:Int),d = .tuple [.int p,.int q]/\1<=q/\gI p q=1/\x * ic q=ic p:=by unfold RD;rw[if_pos rfl]
theorem rd_n(h:n≠0){d:PyData}{x:F}:RD n x d↔∃a:Int,d = .int a/\0<=a/\a < n/\x=ic a:=by unfold RD;rw[if_neg h]
theorem Rep.rd{K:W.Frag}{H:Hp}{v:V}{x:F}(h:Rep n H v x):∃d,Rds K H v d/\NmD d/\RD n x d:=by
 by_cases z:n=0
 ·subst z
  obtain⟨r,p,q,rfl,hr,w⟩:=rep_0.mp h
  exact⟨_,zpz hr,zqb p q,rd_0.mpr ⟨p,q,rfl,w⟩⟩
 ·obtain⟨a,rfl,w⟩:=(zdl z).mp h
  exact⟨_,.int a,zto a,(rd_n z).mpr ⟨a,rfl,w⟩⟩
theorem RD.eq[Chr n F]{x y:F}{d e:PyData}(h:RD n x d)(h':RD n y e):PyData.eqv d e=true↔x=y:=by
 by_cases z:n=0
 ·subst z
  obtain⟨p,q,rfl,q1,c,w⟩:=rd_0.mp h
  obtain⟨p',q',rfl,q1',c',w'⟩:=rd_0.mp h'
  have ee:PyData.eqv (.tuple [.int p,.int q]) (.tuple [.int p',.int q'])=decide ([p,q]=[p',q']):=by rw[PyData.eqv];exact zk2 [p,q] [p',q']
  have nz:ic (F:=F) q≠0:=zpa (n:=0) (by rw[zr_0];omega)
  have nz':ic (F:=F) q'≠0:=zpa (n:=0) (by rw[zr_0];omega)
  rw[ee,decide_eq_true_iff]
  constructor
  ·intro g
   simp at g
   obtain⟨rfl,rfl⟩:=g
   grind
  ·rintro rfl
   have k:ic (F:=F) (p * q')=ic (p' * q):=by rw[za3,za3,<- w,<- w'];grind
   rw[zkc (n:=0),zr_0]at k
   obtain⟨e1,e2⟩:=zm4 q1 q1' c c' (by omega)
   rw[e1,e2]
 ·obtain⟨a,rfl,a0,a1,w⟩:=(rd_n z).mp h
  obtain⟨b,rfl,b0,b1,w'⟩:=(rd_n z).mp h'
  have ee:PyData.eqv (.int a) (.int b)=decide (a=b):=by simp[PyData.eqv,Bool.beq_eq_decide_eq]
  rw[ee,decide_eq_true_iff]
  constructor
  ·rintro rfl;rw[w,w']
  ·rintro rfl
   have k:ic (F:=F) a=ic b:=by rw[<- w,<- w']
   rw[zkc (n:=n),zr_n z]at k
   obtain⟨j,hj⟩:=Int.dvd_of_emod_eq_zero k
   have:j=0:=by
    rcases(by omega:j=0\/1<=j\/j<=-1) with q | q | q
    ·exact q
    ·have:=Int.mul_le_mul_of_nonneg_left q (show 0<=n by omega);omega
    ·have:=Int.mul_le_mul_of_nonneg_left q (show 0<=n by omega);omega
   subst this
   omega
/-! polynomials in dicts -/
def un(k:List Key):List Int:=k.map λx=>match x with | .inl i=>i | .inr _=>0
theorem ztt:∀xs:List Int,un (ky xs)=xs
 | []=>rfl
 | x :: xs=>by show x :: un (ky xs)=_;rw[ztt xs]
def tms(kvs:List (List Key×V)):List (List Int):=kvs.map λp=>un p.1
structure PF(n:Int)(m:Nat)(H:Hp)(kvs:List (List Key×V))(φ : Po F):Prop where
 ks:∀p∈kvs,∃t,p.1=ky t/\T0 m t
 nd:(kvs.map (·.1)).Nodup
 out:∀t,valV kvs (ky t)=none->φ t=0
 val:∀t v,valV kvs (ky t)=some v->Rep n H v (φ t)/\φ t≠0
def setP(φ : Po F)(k:List Int)(x:F):Po F:=λt=>if t=k then x else φ t
theorem zd5{φ : Po F}{k:List Int}{x:F}:setP φ k x k=x:=if_pos rfl
theorem zcd{φ : Po F}{k t:List Int}{x:F}(h:t≠k):setP φ k x t = φ t:=if_neg h
variable{m:Nat}{H H':Hp}{kvs:List (List Key×V)}{φ ψ : Po F}
theorem PF.keep(k:∀b xs,H b=some (.tup xs)->H' b=some (.tup xs))(h:PF n m H kvs φ):PF n m H' kvs φ:=⟨h.ks,h.nd,h.out,λt v e=>⟨(h.val t v e).1.keep k,(h.val t v e).2⟩⟩
theorem PF.same(e:Same H H')(h:PF n m H kvs φ):PF n m H' kvs φ:=h.keep λ_ _=>e _ _
theorem PF.congr(h:PF n m H kvs φ)(e:∀t,φ t = ψ t):PF n m H kvs ψ:=by rw[<- show φ = ψ from funext e];exact h
theorem PF.nil:PF n m H [] (λ_=>(0:F)):=⟨(λp hp=>by cases hp),List.nodup_nil,λ_ _=>rfl,λt v e=>by simp[valV]at e⟩
theorem PF.mem(h:PF n m H kvs φ){t:List Int} : φ t≠0↔ky t∈kvs.map (·.1):=by
 rw[<- mem_of_valV]
 cases q:valV kvs (ky t) with
 | none=>simp;exact h.out t q
 | some v=>simp;exact(h.val t v q).2
theorem PF.get(h:PF n m H kvs φ){t:List Int}(ht : φ t≠0):∃v,valV kvs (ky t)=some v/\Rep n H v (φ t):=by
 cases q:valV kvs (ky t) with
 | none=>exact absurd (h.out t q) ht
 | some v=>exact⟨v,rfl,(h.val t v q).1⟩
theorem PF.keys(h:PF n m H kvs φ):kvs.map (·.1)=(tms kvs).map ky:=by
 unfold tms
 rw[List.map_map]
 refine List.map_congr_left λp hp => ?_
 obtain⟨t,e,_⟩:=h.ks p hp
 show p.1=ky (un p.1)
 rw[e,ztt]
theorem PF.tmem(h:PF n m H kvs φ){t:List Int}:t∈tms kvs↔φ t≠0:=by
 rw[h.mem,h.keys,List.mem_map]
 constructor
 ·intro ht;exact⟨t,ht,rfl⟩
 ·rintro⟨u,hu,e⟩;rw[<- zf3 e];exact hu
theorem PF.tnd(h:PF n m H kvs φ):(tms kvs).Nodup:=zik (f:=ky) (by rw[<- h.keys];exact h.nd)
theorem PF.sp(h:PF n m H kvs φ):Spt m φ:=λt ht=>by
 obtain⟨p,hp,e⟩:=List.mem_map.mp (h.mem.mp ht)
 obtain⟨u,e',t0⟩:=h.ks p hp
 rw[<- zf3 (e'.symm.trans e)];exact t0
theorem PF.ix(h:PF n m H kvs φ){i:Nat}{k:List Key}{v:V}(hk:kvs[i]? = some (k,v)):∃t,k=ky t/\T0 m t/\(tms kvs)[i]? = some t/\Rep n H v (φ t)/\φ t≠0:=by
 obtain⟨t,e,t0⟩:=h.ks _ (List.mem_of_getElem? hk)
 have e:k=ky t:=e
 have hv:=zk3 h.nd hk
 rw[e]at hv
 refine⟨t,e,t0,?_,h.val t v hv⟩
 unfold tms
 rw[List.getElem?_map,hk]
 show some (un k)=_
 rw[e,ztt]
theorem PF.put(h:PF n m H kvs φ){k:List Int}{v:V}{x:F}(hk:T0 m k)(hv:Rep n H v x)(hx:x≠0):PF n m H (putK kvs (ky k) v) (setP φ k x):=by
 have vp:∀t,valV (putK kvs (ky k) v) (ky t)=if t=k then some v else valV kvs (ky t):=λt=>by
  rw[zks]
  by_cases c:t=k
  ·rw[if_pos c,if_pos (by rw[c])]
  ·rw[if_neg c,if_neg λz=>c (zf3 z)]
 refine⟨λp hp => ?_,ztz h.nd,λt e => ?_,λt w e => ?_⟩
 ·have:p.1∈(putK kvs (ky k) v).map (·.1):=List.mem_map.mpr ⟨p,hp,rfl⟩
  rw[zkm]at this
  have:p.1∈kvs.map (·.1)\/p.1=ky k:=by
   split at this
   ·exact .inl this
   ·rcases List.mem_append.mp this with q | q
    ·exact .inl q
    ·exact .inr (List.mem_singleton.mp q)
  rcases this with q | q
  ·obtain⟨p',hp',e⟩:=List.mem_map.mp q
   obtain⟨t,e',t0⟩:=h.ks p' hp'
   exact⟨t,by rw[<- e,e'],t0⟩
  ·exact⟨k,q,hk⟩
 ·rw[vp]at e
  by_cases c:t=k
  ·rw[if_pos c]at e;cases e
  ·rw[if_neg c]at e;rw[zcd c];exact h.out t e
 ·rw[vp]at e
  by_cases c:t=k
  ·rw[if_pos c]at e;cases e;rw[c,zd5];exact⟨hv,hx⟩
  ·rw[if_neg c]at e;rw[zcd c];exact h.val t w e
theorem PF.drop(h:PF n m H kvs φ)(k:List Int):PF n m H (dropK kvs (ky k)) (setP φ k 0):=by
 have vp:∀t,valV (dropK kvs (ky k)) (ky t)=if t=k then none else valV kvs (ky t):=λt=>by
  rw[znr]
  by_cases c:t=k
  ·rw[if_pos c,if_pos (by rw[c])]
  ·rw[if_neg c,if_neg λz=>c (zf3 z)]
 refine⟨λp hp=>h.ks p (List.mem_filter.mp hp).1,(List.Sublist.map _ List.filter_sublist).nodup h.nd,λt e => ?_,λt w e => ?_⟩
 ·by_cases c:t=k
  ·rw[c,zd5]
  ·rw[vp,if_neg c]at e;rw[zcd c];exact h.out t e
 ·rw[vp]at e
  by_cases c:t=k
  ·rw[if_pos c]at e;cases e
  ·rw[if_neg c]at e;rw[zcd c];exact h.val t w e
theorem PF.empty(h:PF n m H kvs φ):kvs=[]↔∀t,φ t=0:=by
 constructor
 ·rintro rfl t;exact h.out t rfl
 ·intro z
  cases kvs with
  | nil=>rfl
  | cons p l=>
   obtain⟨t,e,_⟩:=h.ks p (by simp)
   have : φ t≠0:=h.mem.mpr (by rw[<- e];simp)
   exact absurd (z t) this
/-- with each number's data -/
theorem zqu{K:W.Frag}{H:Hp}:∀{kvs:List (List Key×V)} {φ : Po F},(∀p∈kvs,∃t,p.1=ky t/\Rep n H p.2 (φ t))->∃da,KDs K H kvs da/\Flats da/\kvs.map (·.1)=da.map (·.1)/\∀p∈da,∃t,p.1=ky t/\RD n (φ t) p.2
 | [],_,_=>⟨[],.nil,(λ_ z=>by cases z),rfl,(λ_ z=>by cases z)⟩
 | p :: l,φ,h=>by
  obtain⟨t,et,hx⟩:=h p (.head _)
  obtain⟨da,h1,h2,h3,h4⟩:=zqu (K:=K) (kvs:=l) (φ:=φ) λq hq=>h q (.tail _ hq)
  obtain⟨d,r,nm,rd⟩:=hx.rd (K:=K)
  refine⟨(p.1,d) :: da,.cons ⟨rfl,r⟩ h1,λq hq => ?_,by rw[List.map_cons,List.map_cons,h3],λq hq => ?_⟩
  ·rcases List.mem_cons.mp hq with rfl | hq
   ·exact⟨nm.lay,nm.dep⟩
   ·exact h2 q hq
  ·rcases List.mem_cons.mp hq with rfl | hq
   ·exact⟨t,et,rd⟩
   ·exact h4 q hq
theorem PF.kds{K:W.Frag}(h:PF n m H kvs φ):∃da,KDs K H kvs da/\Flats da/\kvs.map (·.1)=da.map (·.1)/\∀p∈da,∃t,p.1=ky t/\RD n (φ t) p.2:=zqu λp hp=>by
 obtain⟨i,hi,e⟩:=List.mem_iff_getElem.mp hp
 obtain⟨t,e1,_,_,r,_⟩:=h.ix (i:=i) (k:=p.1) (v:=p.2) (by rw[List.getElem?_eq_getElem hi,e])
 exact⟨t,e1,r⟩
theorem zhi{db:List (List Key×PyData)}{k:List Key}{d:PyData}(h:findKD db k=some d):(k,d)∈db:=by
 unfold findKD at h
 obtain⟨p,hp,e⟩:=Option.map_eq_some_iff.mp h
 have h1:=List.find?_some hp
 have h2:=List.mem_of_find?_eq_some hp
 have:p.1=k:=of_decide_eq_true h1
 rw[<- this,<- e];exact h2
theorem zj9{db:List (List Key×PyData)}{k:List Key}(h:k∈db.map (·.1)):∃d,findKD db k=some d:=by
 unfold findKD
 obtain⟨p,hp,e⟩:=List.mem_map.mp h
 have:(db.find? λq=>decide (q.1=k)).isSome=true:=List.find?_isSome.mpr ⟨p,hp,decide_eq_true e⟩
 obtain⟨q,hq⟩:=Option.isSome_iff_exists.mp this
 exact⟨q.2,by rw[hq];rfl⟩
/-- two dicts are == just where they hold the same polynomial -/
theorem PF.eq[Chr n F]{kvs':List (List Key×V)}{da db:List (List Key×PyData)}(h:PF n m H kvs φ)(h':PF n m H' kvs' ψ)
  (ka:kvs.map (·.1)=da.map (·.1)) (kb:kvs'.map (·.1)=db.map (·.1)) (ra:∀p∈da,∃t,p.1=ky t/\RD n (φ t) p.2) (rb:∀p∈db,∃t,p.1=ky t/\RD n (ψ t) p.2):eqKD da db=true↔∀t,φ t = ψ t:=by
 have la:kvs.length=da.length:=by have:=congrArg List.length ka;simpa using this
 have lb:kvs'.length=db.length:=by have:=congrArg List.length kb;simpa using this
 have key:∀t,φ t≠0->ky t∈da.map (·.1):=λt ht=>by rw[<- ka];exact h.mem.mp ht
 have key':∀t,ψ t≠0->ky t∈db.map (·.1):=λt ht=>by rw[<- kb];exact h'.mem.mp ht
 unfold eqKD
 rw[Bool.and_eq_true,beq_iff_eq,List.all_eq_true]
 constructor
 ·rintro⟨hl,ha⟩ t
  have step:∀t,φ t≠0->φ t = ψ t:=λt ht=>by
   obtain⟨p,hp,e⟩:=List.mem_map.mp (key t ht)
   obtain⟨u,eu,r⟩:=ra p hp
   have q:=ha p hp
   have:u=t:=zf3 (eu.symm.trans e)
   subst this
   split at q
   ·rename_i d hd
    obtain⟨u',eu',r'⟩:=rb _ (zhi hd)
    have:u'=u:=zf3 (eu'.symm.trans eu)
    subst this
    exact(RD.eq r r').mp q
   ·cases q
  by_cases c : φ t=0
  ·rw[c]
   refine Classical.byContradiction λz => ?_
   have hz : ψ t≠0:=λq=>z q.symm
   have sub:∀k∈tms kvs,k∈(tms kvs').erase t:=λk hk=>by
    have nz:=h.tmem.mp hk
    have e:=step k nz
    rw[List.Nodup.mem_erase_iff h'.tnd]
    refine⟨λq=>nz (by rw[q];exact c),h'.tmem.mpr (by rw[<- e];exact nz)⟩
   have l1:=zc4 h.tnd sub
   rw[List.length_erase_of_mem (h'.tmem.mpr hz)]at l1
   have l2:(tms kvs).length=kvs.length:=List.length_map _
   have l3:(tms kvs').length=kvs'.length:=List.length_map _
   have l4:0 < (tms kvs').length:=List.length_pos_of_mem (h'.tmem.mpr hz)
   omega
  ·exact step t c
 ·intro e
  have tt:∀t,t∈tms kvs↔t∈tms kvs':=λt=>by rw[h.tmem,h'.tmem,e]
  have l1:=zc4 h.tnd λk hk=>(tt k).mp hk
  have l2:=zc4 h'.tnd λk hk=>(tt k).mpr hk
  have l3:(tms kvs).length=kvs.length:=List.length_map _
  have l4:(tms kvs').length=kvs'.length:=List.length_map _
  refine⟨by omega,λp hp => ?_⟩
  obtain⟨t,et,r⟩:=ra p hp
  have nz : φ t≠0:=h.mem.mpr (by rw[ka,<- et];exact List.mem_map.mpr ⟨p,hp,rfl⟩)
  obtain⟨d,hd⟩:=zj9 (key' t (by rw[<- e];exact nz))
  rw[et,hd]
  obtain⟨u,eu,r'⟩:=rb _ (zhi hd)
  have:t=u:=zf3 eu
  subst this
  exact(RD.eq r r').mpr (e t)
end
end G
namespace G
open L2 PySem K1 K2 K3 K6 K8 K37
section
variable{F:Type}[Lean.Grind.Field F]{n:Int}
/-- x is a fraction of numbers below 2 ^ k -/
def Lim(n:Int)(k:Nat)(x:F):Prop:=n=0->∃T B:Int,B≠0/\x * ic B=ic T/\T.natAbs < 2 ^ k/\B.natAbs < 2 ^ k
theorem Lim.up{k j:Nat}{x:F}(h:Lim n k x)(hk:k<=j):Lim n j x:=λz=>by
 obtain⟨T,B,b0,e,h1,h2⟩:=h z
 exact⟨T,B,b0,e,Nat.lt_of_lt_of_le h1 (Nat.pow_le_pow_right (by decide) hk),Nat.lt_of_lt_of_le h2 (Nat.pow_le_pow_right (by decide) hk)⟩
theorem Lim.of_ne(h:n≠0){k:Nat}{x:F}:Lim n k x:=λz=>absurd z h
theorem zej[Chr 0 F]{k:Int}(h:k≠0):ic (F:=F) k≠0:=zpa (n:=0) (by rw[zr_0];exact h)
theorem zr6[Chr 0 F]{a b:Int}(h:ic (F:=F) a=ic b):a=b:=by
 rw[zkc (n:=0),zr_0]at h;omega
theorem zm3[Chr 0 F]{x:F}{p q T B:Int}(h:x * ic q=ic p)(h':x * ic B=ic T):p * B=T * q:=
 zr6 (F:=F) (by rw[za3,za3,<- h,<- h'];grind)
theorem zgo[Chr 0 F]{k:Nat}{H:Hp}{v:V}{x:F}(h:Rep 0 H v x)(l:Lim 0 k x):∃(r:Addr) (p q:Int),v = .ref r/\H r=some (.tup [.int p,.int q])/\1<=q/\gI p q=1/\x * ic q=ic p/\p.natAbs < 2 ^ k/\q.natAbs < 2 ^ k:=by
 obtain⟨r,p,q,rfl,hr,q1,c,e⟩:=rep_0.mp h
 obtain⟨T,B,b0,e',h1,h2⟩:=l rfl
 obtain⟨a1,a2⟩:=zuy q1 c b0 (zm3 e e')
 exact⟨r,p,q,rfl,hr,q1,c,e,Nat.lt_of_le_of_lt a1 h1,Nat.lt_of_le_of_lt a2 h2⟩
/-- a fraction made of t over b stands for x -/
theorem zf7[Chr 0 F]{H:Hp}{r:Addr}{x:F}{t b:Int}(hb:b≠0)(hr:H r=some (.tup [.int (fT t b),.int (fB t b)]))(e:x * ic b=ic t):Rep 0 H (.ref r) x:=by
 refine rep_0.mpr ⟨r,_,_,rfl,hr,zoj hb,zs4 hb,?_⟩
 have c:=zjt (t:=t) hb
 have c2:ic (F:=F) (fT t b) * ic b=ic t * ic (fB t b):=by rw[<- za3,<- za3,c]
 have nz:ic (F:=F) b≠0:=zej hb
 rw[<- e]at c2
 grind
theorem Lim.of{k:Nat}{x:F}{T B:Int}(b0:B≠0)(e:x * ic B=ic T)(h1:T.natAbs < 2 ^ k)(h2:B.natAbs < 2 ^ k):Lim n k x:=λ_=>⟨T,B,b0,e,h1,h2⟩
theorem Lim.zero{k:Nat}(hk:1<=k):Lim n k (0:F) := .of (T:=0) (B:=1) (by decide) (by rw[zb1];grind) (Nat.two_pow_pos k) (Nat.lt_of_lt_of_le (by decide:(1:Int).natAbs < 2 ^ 1) (Nat.pow_le_pow_right (by decide) hk))
theorem Lim.zero'{k:Nat}{x:F}(h:Lim n k x):Lim n k (0:F):=λz=>by
 obtain⟨T,B,b0,e,h1,h2⟩:=h z
 exact⟨0,B,b0,by rw[zb1];grind,Nat.two_pow_pos k,h2⟩
theorem Lim.neg{k:Nat}{x:F}(h:Lim n k x):Lim n k (-x):=λz=>by
 obtain⟨T,B,b0,e,h1,h2⟩:=h z
 exact⟨-T,B,b0,by rw[zkg,<- e];grind,by rw[Int.natAbs_neg];exact h1,h2⟩
theorem Lim.mul[Chr n F]{k j:Nat}{x y:F}(h:Lim n k x)(h':Lim n j y):Lim n (k + j) (x * y):=λz=>by
 obtain⟨T,B,b0,e,h1,h2⟩:=h z
 obtain⟨T',B',b0',e',h1',h2'⟩:=h' z
 refine⟨T * T',B * B',(by intro q;rcases Int.mul_eq_zero.mp q with q | q;exact b0 q;exact b0' q),by rw[za3,za3,<- e,<- e'];grind,?_,?_⟩
 ·rw[Int.natAbs_mul,Nat.pow_add];exact Nat.mul_lt_mul'' h1 h1'
 ·rw[Int.natAbs_mul,Nat.pow_add];exact Nat.mul_lt_mul'' h2 h2'
theorem Lim.add[Chr n F]{k j:Nat}{x y:F}(h:Lim n k x)(h':Lim n j y):Lim n (k + j + 1) (x + y):=λz=>by
 obtain⟨T,B,b0,e,h1,h2⟩:=h z
 obtain⟨T',B',b0',e',h1',h2'⟩:=h' z
 refine⟨T * B' + T' * B,B * B',(by intro q;rcases Int.mul_eq_zero.mp q with q | q;exact b0 q;exact b0' q),by rw[za3,zim,za3,za3,<- e,<- e'];grind,?_,?_⟩
 ·have a1:(T * B').natAbs < 2 ^ (k + j):=by rw[Int.natAbs_mul,Nat.pow_add];exact Nat.mul_lt_mul'' h1 h2'
  have a2:(T' * B).natAbs < 2 ^ (k + j):=by rw[Int.natAbs_mul,Nat.pow_add,Nat.mul_comm];exact Nat.mul_lt_mul'' h2 h1'
  have:=Int.natAbs_add_le (T * B') (T' * B)
  rw[Nat.pow_succ];omega
 ·refine Nat.lt_trans ?_ (Nat.pow_lt_pow_right (by decide) (Nat.lt_succ_self _))
  rw[Int.natAbs_mul,Nat.pow_add];exact Nat.mul_lt_mul'' h2 h2'
theorem Lim.inv[Chr n F]{k:Nat}{x y:F}(h:Lim n k x)(hx:x≠0)(hy:y * x=1):Lim n k y:=λz=>by
 obtain⟨T,B,b0,e,h1,h2⟩:=h z
 subst z
 refine⟨B,T,?_,?_,h2,h1⟩
 ·rintro rfl
  rw[zb1]at e
  have nz:ic (F:=F) B≠0:=zej b0
  grind
 ·rw[<- e];grind
end
end G
namespace G
open L2 PySem K1 K2 K3 K6 K8 K37
section
variable{F:Type}[Lean.Grind.Field F]{n:Int}{rk:List Int->List Int}{m k:Nat}
/-! division -/
/-- the places and first terms of the row -/
structure LdsOk(rk:List Int->List Int)(m k:Nat)(gs:Nat->Po F)(lds:List (Nat×List Int)):Prop where
 sp:∀i,Spt m (gs i)
 inc:lds.Pairwise λa b=>a.1 < b.1
 ld:∀i l,(i,l)∈lds->i < k/\Ld rk (gs i) l
 all:∀i t,i < k->gs i t≠0->∃l,(i,l)∈lds
theorem LdsOk.t0{gs:Nat->Po F}{lds:List (Nat×List Int)}(L:LdsOk rk m k gs lds){i:Nat}{l:List Int}(h:(i,l)∈lds):T0 m l:=L.sp i l (L.ld i l h).2.1
theorem LdsOk.one{gs:Nat->Po F}{lds:List (Nat×List Int)}(L:LdsOk rk m k gs lds){i:Nat}{l l':List Int}(h:(i,l)∈lds)(h':(i,l')∈lds):l=l':=(L.ld i l h).2.one (L.ld i l' h').2
/-- the first one of the row whose first term goes into t -/
structure FitL(lds:List (Nat×List Int))(t:List Int)(i:Nat)(l:List Int):Prop where
 mem:(i,l)∈lds
 goes:goesI l t=true
 first:∀p∈lds,p.1 < i->goesI p.2 t=false
/-- how far the division is -/
structure DvI(rk:List Int->List Int)(m k:Nat)(φ : Po F)(gs:Nat->Po F)(lds:List (Nat×List Int))(U us Dn:List (List Int))(q:Nat->Po F)(S:Nat->List (List Int))(ρ lf:Po F):Prop where
 eq:∀t,φ t=sm (λi=>mul (S i) (q i) (gs i) t) (List.range k) + ρ t + lf t
 sup:∀i t,t∈S i↔q i t≠0
 snd:∀i,(S i).Nodup
 lft:∀t,lf t≠0->t∈us
 srt:us.Pairwise (lt rk)
 ord:∀d∈Dn,∀u∈us,lt rk u d
 dnd:Dn.Nodup
 inU:∀t,t∈us\/t∈Dn->t∈U/\T0 m t
 le:∀t,t∈us\/t∈Dn->∃u,φ u≠0/\(t=u\/lt rk t u)
 qi:∀i o,q i o≠0->T0 m o/\∃l,FitL lds (addT o l) i l/\addT o l∈Dn
 ri:∀t,ρ t≠0->t∈Dn/\∀p∈lds,goesI p.2 t=false
variable{φ : Po F}{gs:Nat->Po F}{lds:List (Nat×List Int)}{U us Dn:List (List Int)}{q:Nat->Po F}{S:Nat->List (List Int)}{ρ lf:Po F}
theorem zgr{us:List (List Int)}{t:List Int}(h:(us ++ [t]).Pairwise (lt rk)):us.Pairwise (lt rk)/\∀u∈us,lt rk u t:=by
 rw[List.pairwise_append]at h
 exact⟨h.1,λu hu=>h.2.2 u hu t (by simp)⟩
theorem mem_sn{α : Type}{t u : α}{us:List α}:u∈us ++ [t]↔u∈us\/u=t:=by simp
/-- what stays of the book when the last one is taken -/
theorem DvI.base(I:DvI rk m k φ gs lds U (us ++ [t]) Dn q S ρ lf):us.Pairwise (lt rk)/\(∀d∈Dn ++ [t],∀u∈us,lt rk u d)/\(Dn ++ [t]).Nodup/\(∀z,z∈us\/z∈Dn ++ [t]->z∈U/\T0 m z)/\(∀z,z∈us\/z∈Dn ++ [t]->∃u,φ u≠0/\(z=u\/lt rk z u))/\t ∉ Dn:=by
 have tn:t ∉ Dn:=λh=>lt_irrefl (I.ord t h t (by simp))
 have w:∀z,z∈us\/z∈Dn ++ [t]->z∈us ++ [t]\/z∈Dn:=λz h=>by
  simp only[List.mem_append,List.mem_singleton]at h ⊢
  rcases h with h | h | h
  ·exact .inl (.inl h)
  ·exact .inr h
  ·exact .inl (.inr h)
 refine⟨(zgr I.srt).1,λd hd u hu => ?_,?_,λz h=>I.inU z (w z h),λz h=>I.le z (w z h),tn⟩
 ·rcases mem_sn.mp hd with h | rfl
  ·exact I.ord d h u (by simp[hu])
  ·exact(zgr I.srt).2 u hu
 ·rw[List.nodup_append]
  refine⟨I.dnd,by simp,λa ha b hb e => ?_⟩
  rw[List.mem_singleton]at hb
  subst hb e
  exact tn ha
/-- nothing is left there -/
theorem DvI.skip(I:DvI rk m k φ gs lds U (us ++ [t]) Dn q S ρ lf)(h:lf t=0):DvI rk m k φ gs lds U us (Dn ++ [t]) q S ρ lf:=by
 obtain⟨b1,b2,b3,b4,b5,tn⟩:=I.base
 refine⟨I.eq,I.sup,I.snd,λz hz => ?_,b1,b2,b3,b4,b5,λi o ho => ?_,λz hz=>⟨by simp[(I.ri z hz).1],(I.ri z hz).2⟩⟩
 ·rcases mem_sn.mp (I.lft z hz) with q | rfl
  ·exact q
  ·exact absurd h hz
 ·obtain⟨o0,l,f,d⟩:=I.qi i o ho
  exact⟨o0,l,f,by simp[d]⟩
/-- no first term goes into it -/
theorem DvI.rest(I:DvI rk m k φ gs lds U (us ++ [t]) Dn q S ρ lf)(h:lf t≠0)(nf:∀p∈lds,goesI p.2 t=false):DvI rk m k φ gs lds U us (Dn ++ [t]) q S (setP ρ t (lf t)) (setP lf t 0):=by
 obtain⟨b1,b2,b3,b4,b5,tn⟩:=I.base
 have r0 : ρ t=0:=Classical.byContradiction λz=>tn (I.ri t z).1
 refine⟨λz => ?_,I.sup,I.snd,λz hz => ?_,b1,b2,b3,b4,b5,λi o ho => ?_,λz hz => ?_⟩
 ·rw[I.eq z]
  by_cases c:z=t
  ·subst c;rw[zd5,zd5,r0];grind
  ·rw[zcd c,zcd c]
 ·by_cases c:z=t
  ·subst c;rw[zd5]at hz;exact absurd rfl hz
  ·rw[zcd c]at hz
   exact(mem_sn.mp (I.lft z hz)).resolve_right c
 ·obtain⟨o0,l,f,d⟩:=I.qi i o ho
  exact⟨o0,l,f,by simp[d]⟩
 ·by_cases c:z=t
  ·subst c;exact⟨by simp,nf⟩
  ·rw[zcd c]at hz
   exact⟨by simp[(I.ri z hz).1],(I.ri z hz).2⟩
def upN{α : Type}(f:Nat->α)(i:Nat)(x : α):Nat->α:=λj=>if j=i then x else f j
theorem zjw{α : Type}{f:Nat->α}{i:Nat}{x : α}:upN f i x i=x:=if_pos rfl
theorem zgq{α : Type}{f:Nat->α}{i j:Nat}{x : α}(h:j≠i):upN f i x j=f j:=if_neg h
theorem zmp{S:List (List Int)}{q g:Po F}{o:List Int}{x:F}(h:o ∉ S)(t:List Int):mul (S ++ [o]) (setP q o x) g t=mul S q g t + x * sh o g t:=by
 unfold mul
 rw[zsz,zd5,zf8 λa ha => ?_]
 rw[zcd λe=>h (by rw[<- e];exact ha)]
/-- by the first one that fits -/
theorem DvI.quot(O:OrdM rk m)(L:LdsOk rk m k gs lds)(I:DvI rk m k φ gs lds U (us ++ [t]) Dn q S ρ lf)(h:lf t≠0){i:Nat}{l:List Int}(ft:FitL lds t i l){x:F}(hx:x * gs i l=lf t)
  {us':List (List Int)} (hU:∀u,gs i u≠0->addT (subT t l) u∈U) (srt:us'.Pairwise (lt rk)) (mem:∀z,z∈us'↔z∈us\/(sh (subT t l) (gs i) z≠0/\z ∉ us/\z ∉ Dn ++ [t])) :
  DvI rk m k φ gs lds U us' (Dn ++ [t]) (upN q i (setP (q i) (subT t l) x)) (upN S i (S i ++ [subT t l])) ρ (λz=>lf z - x * sh (subT t l) (gs i) z):=by
 obtain⟨b1,b2,b3,b4,b5,tn⟩:=I.base
 have tt:=I.inU t (.inl (by simp))
 have l0:=L.t0 ft.mem
 have ⟨ik,hl⟩:=L.ld i l ft.mem
 have o0:=T0.sub tt.2 l0 ft.goes
 have e0:addT (subT t l) l=t:=by rw[zg3 (by rw[o0.len,l0.len])];exact zgj (by rw[tt.2.len,l0.len])
 have x0:x≠0:=by rintro rfl;apply h;rw[<- hx];grind
 have oS:subT t l ∉ S i:=λz=>by
  obtain⟨_,l',f,d⟩:=I.qi i _ ((I.sup i _).mp z)
  rw[L.one f.mem ft.mem,e0]at d
  exact tn d
 have lds:=Ld.sh O (L.sp i) o0 hl
 rw[e0]at lds
 have below:∀z,sh (subT t l) (gs i) z≠0->T0 m z/\z∈U/\(z=t\/lt rk z t):=λz hz=>by
  obtain⟨z0,_,nz,e⟩:=zpc o0 (L.sp i) hz
  exact⟨z0,by rw[e];exact hU _ nz,lds.2 z hz⟩
 have ord':∀d∈Dn ++ [t],d=t\/lt rk t d:=λd hd=>by
  rcases mem_sn.mp hd with q | q
  ·exact .inr (I.ord d q t (by simp))
  ·exact .inl q
 have nw:∀z∈us',z ∉ us->T0 m z/\z∈U/\lt rk z t:=λz hz nz=>by
  rcases(mem z).mp hz with q | ⟨q,_,q2⟩
  ·exact absurd q nz
  ·obtain⟨z0,zU,c⟩:=below z q
   exact⟨z0,zU,c.resolve_left λe=>q2 (by simp[e])⟩
 refine⟨λz => ?_,λj z => ?_,λj => ?_,λz hz => ?_,srt,λd hd u hu => ?_,b3,λz hz => ?_,λz hz => ?_,λj o ho => ?_,λz hz=>⟨by simp[(I.ri z hz).1],(I.ri z hz).2⟩⟩
 ·rw[I.eq z]
  have e1:sm (λj=>mul (upN S i (S i ++ [subT t l]) j) (upN q i (setP (q i) (subT t l) x) j) (gs j) z) (List.range k)=sm (λj=>mul (S j) (q j) (gs j) z) (List.range k) + x * sh (subT t l) (gs i) z:=by
   have im:i∈List.range k:=List.mem_range.mpr ik
   rw[zgc im,zgc (φ:=λj=>mul (S j) (q j) (gs j) z) im,zjw,zjw,zmp oS]
   have:sm (λj=>mul (upN S i (S i ++ [subT t l]) j) (upN q i (setP (q i) (subT t l) x) j) (gs j) z) ((List.range k).erase i)=sm (λj=>mul (S j) (q j) (gs j) z) ((List.range k).erase i):=zf8 λj hj=>by
    have ne:=((List.Nodup.mem_erase_iff List.nodup_range).mp hj).1
    rw[zgq ne,zgq ne]
   rw[this];grind
  rw[e1];grind
 ·by_cases c:j=i
  ·subst c
   rw[zjw,zjw,mem_sn]
   by_cases d:z=subT t l
   ·rw[d,zd5];exact⟨λ_=>x0,λ_ => .inr rfl⟩
   ·rw[zcd d,I.sup j z];exact⟨λh=>h.resolve_right d,.inl⟩
  ·rw[zgq c,zgq c];exact I.sup j z
 ·by_cases c:j=i
  ·subst c
   rw[zjw,List.nodup_append]
   refine⟨I.snd j,by simp,λa ha b hb e => ?_⟩
   rw[List.mem_singleton]at hb
   subst hb e
   exact oS ha
  ·rw[zgq c];exact I.snd j
 ·by_cases c:lf z=0
  ·have s0:sh (subT t l) (gs i) z≠0:=by intro e;apply hz;rw[c,e];grind
   rw[mem z]
   by_cases d:z∈us
   ·exact .inl d
   ·refine .inr ⟨s0,d,λhd => ?_⟩
    rcases(below z s0).2.2 with q | q
    ·subst q;exact h c
    ·rcases ord' z hd with q' | q'
     ·subst q';exact h c
     ·exact zib q q'
  ·rcases mem_sn.mp (I.lft z c) with d | d
   ·exact(mem z).mpr (.inl d)
   ·exfalso
    apply hz
    subst d
    rw[show sh (subT z l) (gs i) z=gs i l from by rw[<- znc (φ:=gs i) (by rw[o0.len,l0.len]),e0],hx]
    grind
 ·by_cases c:u∈us
  ·exact b2 d hd u c
  ·have:=(nw u hu c).2.2
   rcases ord' d hd with q' | q'
   ·rw[q'];exact this
   ·exact lt_trans this q'
 ·by_cases c:z∈us
  ·exact b4 z (.inl c)
  ·rcases hz with q | q
   ·exact⟨(nw z q c).2.1,(nw z q c).1⟩
   ·exact b4 z (.inr q)
 ·by_cases c:z∈us
  ·exact b5 z (.inl c)
  ·rcases hz with q | q
   ·obtain⟨u,hu,w⟩:=b5 t (.inr (by simp))
    refine⟨u,hu,.inr ?_⟩
    rcases w with w | w
    ·rw[<- w];exact(nw z q c).2.2
    ·exact lt_trans (nw z q c).2.2 w
   ·exact b5 z (.inr q)
 ·by_cases c:j=i
  ·subst c
   rw[zjw]at ho
   by_cases d:o=subT t l
   ·subst d
    exact⟨o0,l,by rw[e0];exact ft,by rw[e0];simp⟩
   ·rw[zcd d]at ho
    obtain⟨o0,l,f,d⟩:=I.qi j o ho
    exact⟨o0,l,f,by simp[d]⟩
  ·rw[zgq c]at ho
   obtain⟨o0,l,f,d⟩:=I.qi j o ho
   exact⟨o0,l,f,by simp[d]⟩
end
end G
namespace G
open L2 PySem K1 K2 K3 K6 K8 K37
section
variable{F:Type}[Lean.Grind.Field F]{n:Int}{rk:List Int->List Int}{m k:Nat}
theorem zq8(O:OrdM rk m):∀{l:List (List Int)},l≠[]->(∀t∈l,T0 m t)->∃t∈l,∀u∈l,u=t\/lt rk u t
 | [],h,_=>absurd rfl h
 | [a],_,_=>⟨a,by simp,λu hu => .inl (List.mem_singleton.mp hu)⟩
 | a :: b :: l,_,h0=>by
  obtain⟨t,ht,mx⟩:=zq8 O (l:=b :: l) (by simp) λt ht=>h0 t (.tail _ ht)
  have ha:=h0 a (.head _)
  have t0:=h0 t (.tail _ ht)
  rcases zh6 O ha.len t0.len with c | c | c
  ·refine⟨t,.tail _ ht,λu hu => ?_⟩
   rcases List.mem_cons.mp hu with rfl | hu
   ·exact .inr c
   ·exact mx u hu
  ·refine⟨t,.tail _ ht,λu hu => ?_⟩
   rcases List.mem_cons.mp hu with rfl | hu
   ·exact .inl c
   ·exact mx u hu
  ·refine⟨a,.head _,λu hu => ?_⟩
   rcases List.mem_cons.mp hu with rfl | hu
   ·exact .inl rfl
   ·rcases mx u hu with e | e
    ·rw[e];exact .inr c
    ·exact .inr (lt_trans e c)
/-- a division -/
structure Dvd(rk:List Int->List Int)(m k:Nat)(φ : Po F)(gs:Nat->Po F)(lds:List (Nat×List Int))(q:Nat->Po F)(S:Nat->List (List Int))(ρ : Po F)(R:List (List Int)):Prop where
 eq:∀t,φ t=sm (λi=>mul (S i) (q i) (gs i) t) (List.range k) + ρ t
 sup:∀i t,q i t≠0->t∈S i
 snd:∀i,(S i).Nodup
 rs:∀t,ρ t≠0->t∈R
 qi:∀i o,q i o≠0->T0 m o/\∃l,FitL lds (addT o l) i l
 ri:∀t,ρ t≠0->T0 m t/\∀p∈lds,goesI p.2 t=false
theorem FitL.one{lds:List (Nat×List Int)}{t:List Int}{i j:Nat}{l l':List Int}(h:FitL lds t i l)(h':FitL lds t j l'):i=j:=by
 rcases Nat.lt_trichotomy i j with c | c | c
 ·have:=h'.first _ h.mem c;rw[h.goes]at this;cases this
 ·exact c
 ·have:=h.first _ h'.mem c;rw[h'.goes]at this;cases this
variable{φ : Po F}{gs:Nat->Po F}{lds:List (Nat×List Int)}
theorem zmv{S S':List (List Int)}{q q' g:Po F}(n1:S.Nodup)(n2:S'.Nodup)(h1:∀t,q t≠0->t∈S)(h2:∀t,q' t≠0->t∈S')(t:List Int) :
  ∃S2:List (List Int),S2.Nodup/\(∀o∈S,o∈S2)/\(∀o∈S',o∈S2)/\mul S q g t - mul S' q' g t=sm (λo=>(q o - q' o) * sh o g t) S2:=by
 refine⟨S ++ S'.filter (λo=>decide (o ∉ S)),?_,λo ho=>by simp[ho],λo ho => ?_,?_⟩
 ·rw[List.nodup_append]
  refine⟨n1,n2.filter _,λa ha b hb e => ?_⟩
  have:=of_decide_eq_true (List.mem_filter.mp hb).2
  exact this (e ▸ ha)
 ·by_cases c:o∈S
  ·simp[c]
  ·simp[c,ho]
 ·have nd:(S ++ S'.filter (λo=>decide (o ∉ S))).Nodup:=by
   rw[List.nodup_append]
   refine⟨n1,n2.filter _,λa ha b hb e => ?_⟩
   have:=of_decide_eq_true (List.mem_filter.mp hb).2
   exact this (e ▸ ha)
  rw[zl9 (ψ:=g) n1 nd h1 λt ht=>by simp[h1 t ht],zl9 (ψ:=g) n2 nd h2 λt ht=>by by_cases c:t∈S;simp[c];simp[c,h2 t ht]]
  unfold mul
  rw[<- zok]
  exact zf8 λo _=>by grind
theorem Dvd.one(O:OrdM rk m)(L:LdsOk rk m k gs lds){q q':Nat->Po F}{S S':Nat->List (List Int)}{ρ ρ':Po F}{R R':List (List Int)}(D:Dvd rk m k φ gs lds q S ρ R)(D':Dvd rk m k φ gs lds q' S' ρ' R'):(∀i o,q i o=q' i o)/\∀t,ρ t = ρ' t:=by
 have dc:=λp:Prop=>Classical.propDecidable p
 -- the terms where they differ
 let lo:Nat->List Int:=λi => @dite _ (∃l,(i,l)∈lds) (dc _) (λh=>Classical.choose h) λ_=>[]
 have hlo:∀i l,(i,l)∈lds->lo i=l:=λi l h=>by
  have hx:∃l,(i,l)∈lds:=⟨l,h⟩
  show @dite _ (∃l,(i,l)∈lds) (dc _) (λh=>Classical.choose h) (λ_=>[])=l
  rw[dif_pos hx]
  exact L.one (Classical.choose_spec hx) h
 let T1:List (List Int):=(List.range k).flatMap λi=>((S i ++ S' i).filter λo => @decide (q i o≠q' i o) (dc _)).map λo=>addT o (lo i)
 let T2:List (List Int):=(R ++ R').filter λt => @decide (ρ t≠ρ' t) (dc _)
 have dif:∀i o,q i o≠q' i o->T0 m o/\(∃l,FitL lds (addT o l) i l)/\o∈S i ++ S' i:=λi o h=>by
  by_cases c:q i o=0
  ·have c':q' i o≠0:=λz=>h (by rw[c,z])
   obtain⟨a,b⟩:=D'.qi i o c'
   exact⟨a,b,by simp[D'.sup i o c']⟩
  ·obtain⟨a,b⟩:=D.qi i o c
   exact⟨a,b,by simp[D.sup i o c]⟩
 have m1:∀t,t∈T1->∃i o,q i o≠q' i o/\t=addT o (lo i):=λt h=>by
  obtain⟨i,_,h⟩:=List.mem_flatMap.mp h
  obtain⟨o,ho,e⟩:=List.mem_map.mp h
  exact⟨i,o,@of_decide_eq_true _ (dc _) (List.mem_filter.mp ho).2,e.symm⟩
 have m1':∀i o,q i o≠q' i o->addT o (lo i)∈T1:=λi o h=>by
  obtain⟨_,⟨l,f⟩,mm⟩:=dif i o h
  refine List.mem_flatMap.mpr ⟨i,List.mem_range.mpr (L.ld i l f.mem).1,List.mem_map.mpr ⟨o,List.mem_filter.mpr ⟨mm,@decide_eq_true _ (dc _) h⟩,rfl⟩⟩
 have m2':∀t,ρ t≠ρ' t->t∈T2:=λt h=>by
  refine List.mem_filter.mpr ⟨?_,@decide_eq_true _ (dc _) h⟩
  by_cases c : ρ t=0
  ·have c' : ρ' t≠0:=λz=>h (by rw[c,z])
   simp[D'.rs t c']
  ·simp[D.rs t c]
 have rt:∀t,ρ t≠ρ' t->T0 m t/\∀p∈lds,goesI p.2 t=false:=λt h=>by
  by_cases c : ρ t=0
  ·exact D'.ri t λz=>h (by rw[c,z])
  ·exact D.ri t c
 by_cases em:T1 ++ T2=[]
 ·rw[List.append_eq_nil_iff]at em
  refine⟨λi o=>Classical.byContradiction λh => ?_,λt=>Classical.byContradiction λh => ?_⟩
  ·have:=m1' i o h;rw[em.1]at this;cases this
  ·have:=m2' t h;rw[em.2]at this;cases this
 exfalso
 obtain⟨t,ht,mx⟩:=zq8 O em λt ht=>by
  rcases List.mem_append.mp ht with h | h
  ·obtain⟨i,o,d,e⟩:=m1 t h
   obtain⟨a,⟨l,f⟩,_⟩:=dif i o d
   rw[e,hlo i l f.mem]
   exact T0.add a (L.t0 f.mem)
  ·exact(rt t (@of_decide_eq_true _ (dc _) (List.mem_filter.mp h).2)).1
 -- a part that is not nought at t comes from t itself
 have back:∀i o,q i o≠q' i o->sh o (gs i) t≠0->∃l,FitL lds t i l/\t=addT o l:=λi o h hs=>by
  obtain⟨o0,⟨l,f⟩,_⟩:=dif i o h
  have hl:=(L.ld i l f.mem).2
  have le1:=(Ld.sh O (L.sp i) o0 hl).2 t hs
  have le2:=mx _ (List.mem_append.mpr (.inl (m1' i o h)))
  rw[hlo i l f.mem]at le2
  have e:t=addT o l:=by
   rcases le1 with c | c
   ·exact c
   ·rcases le2 with c' | c'
    ·exact c'.symm
    ·exact(zib c c').elim
  exact⟨l,by rw[e];exact f,e⟩
 have A0:∀i,(∀l,¬FitL lds t i l)->mul (S i) (q i) (gs i) t - mul (S' i) (q' i) (gs i) t=0:=λi nf=>by
  obtain⟨S2,_,_,_,e⟩:=zmv (g:=gs i) (D.snd i) (D'.snd i) (D.sup i) (D'.sup i) t
  rw[e]
  refine zeo λo _ => ?_
  by_cases c:q i o=q' i o
  ·rw[c];grind
  ·by_cases c2:sh o (gs i) t=0
   ·rw[c2];grind
   ·obtain⟨l,f,_⟩:=back i o c c2
    exact absurd f (nf l)
 have tot:sm (λi=>mul (S i) (q i) (gs i) t - mul (S' i) (q' i) (gs i) t) (List.range k) + (ρ t - ρ' t)=0:=by
  have e1:=D.eq t
  have e2:=D'.eq t
  rw[zok]
  grind
 by_cases c : ρ t = ρ' t
 ·have:t∈T1:=by
   rcases List.mem_append.mp ht with h | h
   ·exact h
   ·exact absurd c (@of_decide_eq_true _ (dc _) (List.mem_filter.mp h).2)
  obtain⟨i,o,d,e⟩:=m1 t this
  obtain⟨o0,⟨l,f⟩,om⟩:=dif i o d
  have ⟨ik,hl⟩:=L.ld i l f.mem
  have l0:=L.t0 f.mem
  rw[hlo i l f.mem]at e
  rw[<- e]at f
  obtain⟨S2,nd2,s1,s2,e2⟩:=zmv (g:=gs i) (D.snd i) (D'.snd i) (D.sup i) (D'.sup i) t
  have oS:o∈S2:=by rcases List.mem_append.mp om with h | h;exact s1 o h;exact s2 o h
  have val:mul (S i) (q i) (gs i) t - mul (S' i) (q' i) (gs i) t=(q i o - q' i o) * gs i l:=by
   rw[e2,zoc nd2 oS λb hb nb => ?_]
   ·rw[e,znc (l0.len.trans o0.len.symm)]
   ·by_cases c1:q i b=q' i b
    ·rw[c1];grind
    ·by_cases c2:sh b (gs i) t=0
     ·rw[c2];grind
     ·exfalso
      obtain⟨l',f',e'⟩:=back i b c1 c2
      obtain⟨b0,_⟩:=dif i b c1
      rw[L.one f'.mem f.mem]at e'
      have ee:addT l b=addT l o:=by rw[zg3 (l0.len.trans b0.len.symm),zg3 (l0.len.trans o0.len.symm),<- e',<- e]
      exact nb (zhd (b0.len.trans o0.len.symm) (b0.len.trans l0.len.symm) ee)
  rw[zoc (a:=i) List.nodup_range (List.mem_range.mpr ik) λj _ nj=>A0 j λl' f'=>nj (FitL.one f' f),val,c]at tot
  have:=hl.1
  have d2:q i o - q' i o≠0:=by intro z;apply d;grind
  grind
 ·have nf:=(rt t c).2
  rw[zeo λi _=>A0 i λl f => ?_]at tot
  ·apply c;grind
  ·have:=nf _ f.mem;rw[f.goes]at this;cases this
end
end G
namespace G
open L2 PySem K1 K2 K3 K6 K8 K37
/-! what stays of a heap -/
def Kp(A:List Addr)(H H':Hp):Prop:=∀b o,H b=some o->b ∉ A->H' b=some o
theorem Kp.of{A:List Addr}{H H':Hp}(e:Same H H'):Kp A H H':=λb o h _=>e b o h
theorem Kp.tr{A:List Addr}{H H1 H2:Hp}(h:Kp A H H1)(h':Kp A H1 H2):Kp A H H2:=λb o q nb=>h' b o (h b o q nb) nb
theorem Kp.upd{A:List Addr}{H:Hp}{a:Addr}{o:HO}(h:a∈A):Kp A H (upd H a o):=λb u q nb=>(zao (λe=>nb (by rw[e];exact h))).trans q
theorem Kp.refl(A:List Addr)(H:Hp):Kp A H H:=λ_ _ h _=>h
/-- all but dicts and lists stays -/
def Fix(H H':Hp):Prop:=∀b o,H b=some o->(∀kv,o≠.dT kv)->(∀ys,o≠.lst ys)->(∀q u,o≠.frz q u)->H' b=some o
theorem Fix.of{H H':Hp}(e:Same H H'):Fix H H':=λb o h _ _ _=>e b o h
theorem Fix.tr{H H1 H2:Hp}(h:Fix H H1)(h':Fix H1 H2):Fix H H2:=λb o q a c d=>h' b o (h b o q a c d) a c d
theorem Fix.tup{H H':Hp}(h:Fix H H'):∀b xs,H b=some (.tup xs)->H' b=some (.tup xs):=λb xs q=>h b _ q (λ_ z=>by cases z) (λ_ z=>by cases z) (λ_ _ z=>by cases z)
theorem Fix.ins{H H':Hp}(h:Fix H H'){b C dx:Addr}{fs:List (Str×V)}(q:H b=some (.ins C dx fs)):H' b=some (.ins C dx fs):=h b _ q (λ_ z=>by cases z) (λ_ z=>by cases z) (λ_ _ z=>by cases z)
theorem Kp.fix{A:List Addr}{H H':Hp}(h:Kp A H H')(hA:∀a∈A,∀o,H a=some o->(∃kv,o = .dT kv)\/(∃ys,o = .lst ys)\/∃q u,o = .frz q u):Fix H H':=λb o q a c d=>h b o q λz=>by
 rcases hA b z o q with⟨_,e⟩ | ⟨_,e⟩ | ⟨_,_,e⟩
 ·exact a _ e
 ·exact c _ e
 ·exact d _ _ e
theorem zcl{H:Hp}{d:Addr}{kv:List (List Key×V)}{o:HO}(hd:H d=some (.dT kv)):Fix H (upd H d o):=λb u q a _ _=>(zao λe=>by subst e;rw[hd]at q;injection q with q;exact a _ q.symm).trans q
theorem zfu{H:Hp}{d:Addr}{ys:List V}{o:HO}(hd:H d=some (.lst ys)):Fix H (upd H d o):=λb u q _ a _=>(zao λe=>by subst e;rw[hd]at q;injection q with q;exact a _ q.symm).trans q
theorem zgf{H:Hp}{d:Addr}{q:HO}{u:HO}{o:HO}(hd:H d=some q)(hq:(∃kv,q = .dT kv)\/(∃ys,q = .lst ys)\/∃x y,q = .frz x y):Fix H (upd H d o):=λb u h a c e=>(zao λz=>by
 subst z;rw[hd]at h;injection h with h;subst h
 rcases hq with⟨_,r⟩ | ⟨_,r⟩ | ⟨_,_,r⟩
 ·exact a _ r
 ·exact c _ r
 ·exact e _ _ r).trans h
section
variable{F:Type}[Lean.Grind.Field F]{n:Int}{m:Nat}{H H':Hp}
theorem Rep.fix{v:V}{x:F}(e:Fix H H')(h:Rep n H v x):Rep n H' v x:=h.keep e.tup
theorem PF.fix{kvs:List (List Key×V)}{φ : Po F}(e:Fix H H')(h:PF n m H kvs φ):PF n m H' kvs φ:=h.keep e.tup
/-- == of two numbers -/
theorem zho[Chr n F]{K:W.Frag}{v u:V}{x y:F}(hx:Rep n H v x)(hy:Rep n H u y):∃d e,Rds K H v d/\Rds K H u e/\SeqAt.shaped d=true/\SeqAt.shaped e=true/\((x=y/\PyData.eqv d e=true)\/(x≠y/\PyData.eqv d e=false)):=by
 obtain⟨d,rd,nd,r⟩:=hx.rd (K:=K)
 obtain⟨e,re,ne,r'⟩:=hy.rd (K:=K)
 refine⟨d,e,rd,re,nd.shaped,ne.shaped,?_⟩
 cases q:PyData.eqv d e with
 | true=>exact .inl ⟨(RD.eq r r').mp q,rfl⟩
 | false=>exact .inr ⟨(λz=>by rw[(RD.eq r r').mpr z]at q;cases q),rfl⟩
/-- a polynomial cut down to some terms -/
def cutP(ψ : Po F)(S:List (List Int)):Po F:=λt=>if t∈S then ψ t else 0
theorem zhp{ψ : Po F}:cutP ψ []=λ_=>0:=funext λt=>by unfold cutP;rw[if_neg (by simp)]
theorem zh9{ψ : Po F}{S:List (List Int)}(h:∀t,ψ t≠0->t∈S):cutP ψ S = ψ:=funext λt=>by
 unfold cutP
 by_cases c:t∈S
 ·rw[if_pos c]
 ·rw[if_neg c];exact(Classical.byContradiction λz=>c (h t λq=>z q.symm))
theorem znu{ψ : Po F}{S:List (List Int)}{t:List Int}(h:t∈S):cutP ψ S t = ψ t:=if_pos h
theorem zky{ψ : Po F}{S:List (List Int)}{t:List Int}(h:t ∉ S):cutP ψ S t=0:=if_neg h
theorem zi0{ψ : Po F}{S:List (List Int)}{t u:List Int}(h:t≠u):cutP ψ (S ++ [u]) t=cutP ψ S t:=by
 unfold cutP
 by_cases c:t∈S
 ·rw[if_pos c,if_pos (by simp[c])]
 ·rw[if_neg c,if_neg (by simp[c,h])]
theorem zko{φ ψ : Po F}{S:List (List Int)}{u:List Int}:setP (λt=>φ t + cutP ψ S t) u (φ u + ψ u)=λt=>φ t + cutP ψ (S ++ [u]) t:=funext λt=>by
 by_cases c:t=u
 ·subst c;rw[zd5,znu (by simp)]
 ·rw[zcd c,zi0 c]
theorem zi3{x:F}{l:List Int}{ψ : Po F}{S:List (List Int)}{u:List Int}(hu:u.length=l.length):setP (λt=>x * sh l (cutP ψ S) t) (addT l u) (x * ψ u)=λt=>x * sh l (cutP ψ (S ++ [u])) t:=funext λt=>by
 by_cases c:t=addT l u
 ·subst c;rw[zd5,znc hu,znu (by simp)]
 ·rw[zcd c]
  by_cases d:t.length=l.length
  ·rw[zoz d,zoz d,zi0 λe=>c (by rw[<- e];exact(zgj d).symm)]
  ·unfold sh;rw[if_neg d,if_neg d]
theorem zr7{ts:List (List Int)}{i:Nat}{t:List Int}(h:ts.Nodup)(hi:ts[i]? = some t):t ∉ ts.take i:=zth h hi
theorem zem(kvs:List (List Key×V)):(tms kvs).length=kvs.length:=List.length_map _
end
end G
namespace G
open L2 PySem K1 K2 K3 K6 K8 K37
section
variable{F:Type}[Lean.Grind.Field F]{n:Int}{rk:List Int->List Int}{m k:Nat}{φ : Po F}{gs:Nat->Po F}{lds:List (Nat×List Int)}{U us Dn:List (List Int)}{q:Nat->Po F}{S:Nat->List (List Int)}{ρ lf:Po F}
/-- at the start nothing is done -/
theorem DvI.start(hs:us.Pairwise (lt rk))(hu:∀z,z∈us↔φ z≠0)(h0:∀z∈us,z∈U/\T0 m z):DvI rk m k φ gs lds U us [] (λ_ _=>0) (λ_=>[]) (λ_=>0) φ:=by
 refine⟨λt => ?_,λi t => ?_,λi=>List.nodup_nil,λt ht=>(hu t).mpr ht,hs,(λd hd=>by cases hd),List.nodup_nil,λt ht => ?_,λt ht => ?_,λi o ho=>absurd rfl ho,λt ht=>absurd rfl ht⟩
 ·rw[zeo λi _=>by unfold mul;exact zeo λo ho=>by cases ho];grind
 ·exact⟨λh=>(by cases h),λh=>absurd rfl h⟩
 ·rcases ht with h | h
  ·exact h0 t h
  ·cases h
 ·rcases ht with h | h
  ·exact⟨t,(hu t).mp h,.inl rfl⟩
  ·cases h
theorem DvI.done(I:DvI rk m k φ gs lds U [] Dn q S ρ lf):∀t,lf t=0:=λt=>Classical.byContradiction λh=>by have:=I.lft t h;cases this
theorem DvI.dvd(I:DvI rk m k φ gs lds U [] Dn q S ρ lf):Dvd rk m k φ gs lds q S ρ Dn:=by
 refine⟨λt => ?_,λi t h=>(I.sup i t).mpr h,I.snd,λt h=>(I.ri t h).1,λi o h => ?_,λt h=>⟨(I.inU t (.inr (I.ri t h).1)).2,(I.ri t h).2⟩⟩
 ·rw[I.eq t,I.done t];grind
 ·obtain⟨a,l,f,_⟩:=I.qi i o h
  exact⟨a,l,f⟩
theorem zv7(I:DvI rk m k φ gs lds U (us ++ [t]) Dn q S ρ lf):Dn.length < U.length:=by
 obtain⟨_,_,b3,b4,_⟩:=I.base
 have:=zc4 b3 λa ha=>(b4 a (.inr ha)).1
 rw[List.length_append]at this
 simp at this
 omega
end
end G
namespace G
open L2 PySem K1 K2 K3 K6 K8 K37
theorem ztu{a b:Int}(hb:0 < b):gI b (Int.fmod a b)=gI a b:=by
 unfold gI
 congr 1
 have e:a.fmod b=a - b * a.fdiv b:=Int.fmod_def a b
 apply Nat.dvd_antisymm
 ·refine Int.natCast_dvd_natCast.mp (Int.dvd_coe_gcd ?_ (Int.gcd_dvd_left b (a.fmod b)))
  have h1:=Int.gcd_dvd_left b (a.fmod b)
  have h2:=Int.gcd_dvd_right b (a.fmod b)
  have:a=a.fmod b + b * a.fdiv b:=by omega
  rw[this]
  exact Int.dvd_add (by rw[<- this];exact h2) (Int.dvd_trans (by rw[<- this];exact h1) (Int.dvd_mul_right _ _))
 ·refine Int.natCast_dvd_natCast.mp (Int.dvd_coe_gcd (Int.gcd_dvd_right a b) ?_)
  rw[e]
  exact Int.dvd_sub (Int.gcd_dvd_left a b) (Int.dvd_trans (Int.gcd_dvd_right a b) (Int.dvd_mul_right _ _))
section
variable{F:Type}[Lean.Grind.Field F]{n:Int}
theorem zsu[Chr 0 F]{t b:Int}(hb:b≠0):∃x:F,x * ic b=ic t:=by
 have nz:ic (F:=F) b≠0:=zej hb
 exact⟨ic t * (ic b)⁻¹,by grind⟩
/-- what norm makes of t over b -/
theorem zqt[Chr 0 F]{H:Hp}{r:Addr}{x:F}{t b:Int}(hb:1<=b)(hr:H r=some (.tup [.int (t.fdiv (gI t b)),.int (b.fdiv (gI t b))]))(e:x * ic b=ic t):Rep 0 H (.ref r) x:=by
 refine zf7 (t:=t) (b:=b) (by omega) ?_ e
 unfold fT fB dv
 rw[if_neg (by omega)]
 exact hr
theorem zin{φ : Po F}{x:F}{l:List Int}{ψ : Po F}{S:List (List Int)}{u:List Int}(hu:u.length=l.length):setP (λt=>φ t + x * sh l (cutP ψ S) t) (addT l u) (φ (addT l u) + x * ψ u)=λt=>φ t + x * sh l (cutP ψ (S ++ [u])) t:=funext λt=>by
 have e:=congrFun (zi3 (x:=x) (ψ:=ψ) (S:=S) hu) t
 by_cases c:t=addT l u
 ·subst c;rw[zd5]at e ⊢;rw[e]
 ·rw[zcd c]at e ⊢;rw[e]
theorem zou{m:Nat}{l y:List Int}(h:l.length=m)(h':y.length=m):(List.range m).map (λi=>V.int (l.getD i 0 + y.getD i 0))=(addT l y).map V.int:=by
 refine List.ext_getElem (by simp[addT,h,h']) λi h1 h2 => ?_
 have h3:i < m:=by simpa using h1
 simp[addT,List.getD,h,h',h3]
theorem zp6(kv:List (List Key×V))(k:List Key)(v:V):dropK (putK kv k v) k=dropK kv k:=by
 have key:∀l:List (List Key×V),(l.map λkv=>if kv.1=k then(kv.1,v) else kv).filter (λkv=>decide (kv.1≠k))=l.filter λkv=>decide (kv.1≠k):=λl=>by
  induction l with
  | nil=>rfl
  | cons q l ih=>
   rw[List.map_cons,List.filter_cons,List.filter_cons,ih]
   by_cases c:q.1=k
   ·simp[c]
   ·simp[c]
 unfold putK
 split
 ·unfold dropK;exact key kv
 ·unfold dropK
  rw[List.filter_append];simp
end
end G
namespace G
open L2 PySem K1 K2 K3 K6 K8 K37
section
variable{F:Type}[Lean.Grind.Field F]{n:Int}
/-! one denominator for all numbers of a polynomial -/
def Cm(n:Int)(k:Nat)(φ : Po F):Prop:=n=0->∃D:Int,D≠0/\D.natAbs < 2 ^ k/\∀t,∃N:Int,φ t * ic D=ic N/\N.natAbs < 2 ^ k
theorem Cm.lim{k:Nat}{φ : Po F}(h:Cm n k φ)(t:List Int):Lim n k (φ t):=λz=>by
 obtain⟨D,d0,d1,q⟩:=h z
 obtain⟨N,e,b⟩:=q t
 exact⟨N,D,d0,e,b,d1⟩
theorem Cm.up{k j:Nat}{φ : Po F}(h:Cm n k φ)(kj:k<=j):Cm n j φ:=λz=>by
 obtain⟨D,d0,d1,q⟩:=h z
 have u:=Nat.pow_le_pow_right (show 0 < 2 by decide) kj
 exact⟨D,d0,Nat.lt_of_lt_of_le d1 u,λt=>let ⟨N,e,b⟩:=q t;⟨N,e,Nat.lt_of_lt_of_le b u⟩⟩
theorem Cm.set0{k:Nat}{φ : Po F}(h:Cm n k φ)(u:List Int):Cm n k (setP φ u 0):=λz=>by
 obtain⟨D,d0,d1,q⟩:=h z
 refine⟨D,d0,d1,λt => ?_⟩
 by_cases c:t=u
 ·exact⟨0,by rw[c,zd5,zb1];grind,Nat.two_pow_pos k⟩
 ·rw[zcd c];exact q t
theorem Cm.zero{k:Nat}(hk:1<=k):Cm n k (λ_=>(0:F)):=λ_=>⟨1,by decide,Nat.lt_of_lt_of_le (by decide:(1:Int).natAbs < 2 ^ 1) (Nat.pow_le_pow_right (by decide) hk),λ_=>⟨0,by rw[zb1];grind,Nat.two_pow_pos k⟩⟩
theorem zd2{a b:Int}{k j:Nat}(h:a.natAbs < 2 ^ k)(h':b.natAbs < 2 ^ j):(a * b).natAbs < 2 ^ (k + j):=by
 rw[Int.natAbs_mul,Nat.pow_add];exact Nat.mul_lt_mul'' h h'
/-- a step of a division -/
theorem Cm.step[Chr n F]{k j:Nat}{lf g:Po F}(h:Cm n k lf)(hg:Cm n j g){t l o:List Int}{x:F}(gl:g l≠0)(e:x * g l=lf t) :
  Lim n (k + j) x/\(∀u,Lim n (k + j + j) (x * g u))/\Cm n (k + j + 1) (λz=>lf z - x * sh o g z):=by
 have l1:Lim n (k + j) x:=λz=>by
  subst z
  obtain⟨D,d0,d1,q⟩:=h rfl
  obtain⟨E,e0,e1,r⟩:=hg rfl
  obtain⟨Nt,et,bt⟩:=q t
  obtain⟨Nl,el,bl⟩:=r l
  have nl:Nl≠0:=by
   rintro rfl
   rw[zb1]at el
   have nz:ic (F:=F) E≠0:=zej e0
   apply gl;grind
  refine⟨Nt * E,D * Nl,(by intro q;rcases Int.mul_eq_zero.mp q with q | q;exact d0 q;exact nl q),?_,zd2 bt e1,zd2 d1 bl⟩
  rw[za3,za3,<- el,<- et,<- e];grind
 refine⟨l1,λu=>l1.mul (hg.lim u),λz => ?_⟩
 subst z
 obtain⟨D,d0,d1,q⟩:=h rfl
 obtain⟨E,e0,e1,r⟩:=hg rfl
 obtain⟨Nt,et,bt⟩:=q t
 obtain⟨Nl,el,bl⟩:=r l
 have nl:Nl≠0:=by
  rintro rfl
  rw[zb1]at el
  have nz:ic (F:=F) E≠0:=zej e0
  apply gl;grind
 refine⟨D * Nl,(by intro q;rcases Int.mul_eq_zero.mp q with q | q;exact d0 q;exact nl q),Nat.lt_trans (zd2 d1 bl) (Nat.pow_lt_pow_right (by decide) (Nat.lt_succ_self _)),λz => ?_⟩
 obtain⟨Nz,ez,bz⟩:=q z
 have:∃Nu:Int,sh o g z * ic E=ic Nu/\Nu.natAbs < 2 ^ j:=by
  unfold sh
  split
  ·exact r _
  ·exact⟨0,by rw[zb1];grind,Nat.two_pow_pos j⟩
 obtain⟨Nu,eu,bu⟩:=this
 refine⟨Nz * Nl - Nt * Nu,?_,?_⟩
 ·rw[zm7,za3,za3,za3,<- ez,<- et,<- eu,<- e]
  have:ic (F:=F) Nl=g l * ic E:=el.symm
  rw[this];grind
 ·have a1:=zd2 bz bl
  have a2:=zd2 bt bu
  rw[Nat.pow_succ]
  omega
/-! polynomials of one unknown -/
def byP(xs:List F):Po F
 | [k]=>if 0<=k then xs.getD k.toNat 0 else 0
 | _=>0
theorem ze9(xs:List F)(k:Nat):byP xs [(k:Int)]=xs.getD k 0:=by
 show (if 0<=(k:Int) then xs.getD (k:Int).toNat 0 else 0)=_
 rw[if_pos (by omega),Int.toNat_natCast]
theorem zdx{xs:List F}{t:List Int}(h:byP xs t≠0):∃k:Nat,t=[(k:Int)]/\k < xs.length/\xs.getD k 0≠0:=by
 unfold byP at h
 split at h
 ·rename_i k
  split at h
  ·rename_i k0
   refine⟨k.toNat,by rw[Int.toNat_of_nonneg k0],?_,h⟩
   rcases Nat.lt_or_ge k.toNat xs.length with c | c
   ·exact c
   ·exfalso;apply h;simp[List.getD,List.getElem?_eq_none c]
  ·exact absurd rfl h
 ·exact absurd rfl h
theorem zmc{xs:List F}{φ : Po F}(h1:∀k:Nat,xs.getD k 0 = φ [(k:Int)])(h2:∀t,φ t≠0->∃k:Nat,t=[(k:Int)]):∀t,byP xs t = φ t:=λt=>by
 by_cases c:∃k:Nat,t=[(k:Int)]
 ·obtain⟨k,rfl⟩:=c;rw[ze9];exact h1 k
 ·have e1:byP xs t=0:=Classical.byContradiction λz=>let ⟨k,e,_⟩:=zdx z;c ⟨k,e⟩
  have e2 : φ t=0:=Classical.byContradiction λz=>c (h2 t z)
  rw[e1,e2]
theorem zsj(t:List Int):byP ([]:List F) t=0:=Classical.byContradiction λh=>by
 obtain⟨k,_,q,_⟩:=zdx h;simp at q
theorem zfn{xs:List F}{x:F}(k:Nat):(xs ++ [x]).getD k 0=if k=xs.length then x else xs.getD k 0:=by
 by_cases c:k=xs.length
 ·rw[if_pos c,c];simp[List.getD]
 ·rw[if_neg c]
  rcases Nat.lt_or_ge k xs.length with d | d
  ·simp[List.getD,List.getElem?_append_left d]
  ·have d2:(xs ++ [x]).length<=k:=by rw[List.length_append];simp;omega
   simp[List.getD,List.getElem?_eq_none d,List.getElem?_eq_none d2]
theorem zhw(xs:List F)(x:F):byP (xs ++ [x])=setP (byP xs) [(xs.length:Int)] x:=funext λt=>by
 refine zmc (λk => ?_) (λt ht => ?_) t
 ·rw[zfn]
  by_cases c:k=xs.length
  ·rw[if_pos c,c,zd5]
  ·rw[if_neg c,zcd (by intro z;injection z with z;omega),ze9]
 ·by_cases c:t=[(xs.length:Int)]
  ·exact⟨_,c⟩
  ·rw[zcd c]at ht
   obtain⟨k,e,_⟩:=zdx ht
   exact⟨k,e⟩
theorem zol(xs:List F):byP (xs ++ [0])=byP xs:=by
 rw[zhw]
 funext t
 by_cases c:t=[(xs.length:Int)]
 ·rw[c,zd5,ze9];simp[List.getD]
 ·rw[zcd c]
theorem zrd(xs:List F):Spt 1 (byP xs):=λt ht=>by
 obtain⟨k,rfl,_⟩:=zdx ht
 exact T0.of rfl λx hx=>by rw[List.mem_singleton.mp hx];omega
def rng1(k:Nat):List (List Int):=(List.range k).map λi:Nat=>[(i:Int)]
theorem mem_rng{k:Nat}{t:List Int}:t∈rng1 k↔∃i:Nat,i < k/\t=[(i:Int)]:=by
 unfold rng1
 rw[List.mem_map]
 constructor
 ·rintro⟨i,hi,rfl⟩;exact⟨i,List.mem_range.mp hi,rfl⟩
 ·rintro⟨i,hi,rfl⟩;exact⟨i,List.mem_range.mpr hi,rfl⟩
theorem zro(k:Nat):(rng1 k).Nodup:=by
 unfold rng1
 refine List.pairwise_map.mpr (List.nodup_range.imp fun{a b} h e=>h ?_)
 injection e with e;omega
theorem zqe(k:Nat):rng1 (k + 1)=rng1 k ++ [[(k:Int)]]:=by
 unfold rng1;rw[List.range_succ,List.map_append];rfl
theorem zh4(k:Nat):(rng1 k).length=k:=by unfold rng1;simp
theorem getD2(c a:F)(k:Nat):[c,a].getD k 0=if k=0 then c else if k=1 then a else 0:=by
 match k with
 | 0=>rfl
 | 1=>rfl
 | k + 2=>simp[List.getD]
theorem sub1(k i:Int):subT [k] [i]=[k - i]:=rfl
/-- a product by c + a x -/
theorem zrx(c a:F)(ys:List F)(k:Nat):mul (rng1 ys.length) (byP ys) (byP [c,a]) [(k:Int)]=ys.getD k 0 * c + (if k=0 then 0 else ys.getD (k - 1) 0 * a):=by
 have key:∀(N:Nat) (ys:List F),ys.length=N->mul (rng1 ys.length) (byP ys) (byP [c,a]) [(k:Int)]=ys.getD k 0 * c + (if k=0 then 0 else ys.getD (k - 1) 0 * a):=by
  intro N
  induction N with
  | zero=>
   intro ys h
   have:ys=[]:=List.eq_nil_of_length_eq_zero h
   subst this
   have e:mul (rng1 ([]:List F).length) (byP []) (byP [c,a]) [(k:Int)]=0:=rfl
   rw[e]
   simp[List.getD];grind
  | succ N ih=>
   intro ys h
   obtain⟨zs,y,rfl⟩:∃zs y,ys=zs ++ [y]:=⟨ys.dropLast,ys.getLast (by intro z;rw[z]at h;simp at h),(List.dropLast_concat_getLast _).symm⟩
   have hz:zs.length=N:=by simpa using h
   have e1:mul (rng1 (zs ++ [y]).length) (byP (zs ++ [y])) (byP [c,a]) [(k:Int)]=mul (rng1 zs.length) (byP zs) (byP [c,a]) [(k:Int)] + y * sh [(zs.length:Int)] (byP [c,a]) [(k:Int)]:=by
    rw[List.length_append,zhw]
    show mul (rng1 (zs.length + 1)) _ _ _=_
    rw[zqe,zmp]
    intro q
    obtain⟨i,hi,e⟩:=mem_rng.mp q
    injection e with e;omega
   rw[e1,ih zs hz,zoz (l:=[(zs.length:Int)]) (t:=[(k:Int)]) rfl,sub1,zfn]
   by_cases c1:k=zs.length
   ·subst c1
    rw[if_pos rfl,show ((zs.length:Int) - zs.length)=((0:Nat):Int) by omega,ze9,getD2,if_pos rfl]
    have z0:zs.getD zs.length 0=0:=by simp[List.getD]
    rw[z0]
    by_cases c2:zs.length=0
    ·rw[if_pos c2,if_pos c2];grind
    ·rw[if_neg c2,if_neg c2,zfn,if_neg (by omega)];grind
   ·rw[if_neg c1]
    by_cases c2:k=zs.length + 1
    ·subst c2
     rw[show (((zs.length + 1:Nat):Int) - zs.length)=((1:Nat):Int) by omega,ze9,getD2,if_neg (show ¬(1:Nat)=0 by decide),if_pos (show (1:Nat)=1 from rfl),if_neg (show ¬zs.length + 1=0 by omega),if_neg (show ¬zs.length + 1=0 by omega),zfn,if_pos (by omega)]
     have z0:zs.getD (zs.length + 1 - 1) 0=0:=by simp[List.getD]
     rw[z0];grind
    ·have z0:byP [c,a] [(k:Int) - zs.length]=0:=Classical.byContradiction λq=>by
      obtain⟨i,e,hi,_⟩:=zdx q
      injection e with e
      have:i < 2:=hi
      omega
     rw[z0]
     by_cases c3:k=0
     ·rw[if_pos c3,if_pos c3];grind
     ·rw[if_neg c3,if_neg c3,zfn,if_neg (by omega)];grind
 exact key _ ys rfl
theorem Cm.list:∀(xs:List F) (k:Nat),[Chr n F]->(∀x∈xs,Lim n k x)->n=0->∃D:Int,D≠0/\D.natAbs < 2 ^ (k * xs.length + 1)/\∀x∈xs,∃N:Int,x * ic D=ic N/\N.natAbs < 2 ^ (k * xs.length + 1)
 | [],k,_,_,_=>⟨1,by decide,Nat.lt_of_lt_of_le (by decide:(1:Int).natAbs < 2 ^ 1) (Nat.pow_le_pow_right (by decide) (by omega)),λ_ h=>by cases h⟩
 | x :: xs,k,_,h,z=>by
  obtain⟨D,d0,d1,q⟩:=Cm.list xs k (λy hy=>h y (.tail _ hy)) z
  obtain⟨T,B,b0,e,h1,h2⟩:=h x (.head _) z
  have ee:k * (x :: xs).length + 1=(k * xs.length + 1) + k:=by rw[List.length_cons,Nat.mul_add];omega
  rw[ee]
  refine⟨D * B,(by intro q;rcases Int.mul_eq_zero.mp q with q | q;exact d0 q;exact b0 q),zd2 d1 h2,λy hy => ?_⟩
  rcases List.mem_cons.mp hy with rfl | hy
  ·refine⟨D * T,by rw[za3,za3,<- e];grind,zd2 d1 h1⟩
  ·obtain⟨N,e',b⟩:=q y hy
   exact⟨N * B,by rw[za3,za3,<- e'];grind,zd2 b h2⟩
theorem Cm.byP[Chr n F]{xs:List F}{k j:Nat}(h:∀x∈xs,Lim n k x)(hj:k * xs.length + 1<=j):Cm n j (byP xs):=λz=>by
 obtain⟨D,d0,d1,q⟩:=Cm.list xs k h z
 have u:=Nat.pow_le_pow_right (show 0 < 2 by decide) hj
 refine⟨D,d0,Nat.lt_of_lt_of_le d1 u,λt => ?_⟩
 by_cases c:G.byP xs t=0
 ·exact⟨0,by rw[c,zb1];grind,Nat.two_pow_pos j⟩
 ·obtain⟨i,rfl,hi,_⟩:=zdx c
  rw[ze9,show xs.getD i 0=xs[i] by simp[List.getD,hi]]
  obtain⟨N,e,b⟩:=q _ (List.getElem_mem hi)
  exact⟨N,e,Nat.lt_of_lt_of_le b u⟩
end
end G
namespace G
open L2 PySem K1 K2 K3 K6 K8 K37
section
variable{F:Type}[Lean.Grind.Field F]{n:Int}{rk:List Int->List Int}{m k:Nat}
theorem hs30:((rng1 30).map hsI).Nodup:=by decide +kernel
theorem zrg{α β : Type}{f : α->β}:∀{l:List α},(l.map f).Nodup->∀a∈l,∀b∈l,f a=f b->a=b
 | x :: l,h,a,ha,b,hb,e=>by
  rw[List.map_cons,List.nodup_cons]at h
  rcases List.mem_cons.mp ha with rfl | ha'
  ·rcases List.mem_cons.mp hb with rfl | hb'
   ·rfl
   ·exact absurd (List.mem_map.mpr ⟨b,hb',e.symm⟩) h.1
  ·rcases List.mem_cons.mp hb with rfl | hb'
   ·exact absurd (List.mem_map.mpr ⟨a,ha',e⟩) h.1
   ·exact zrg h.2 a ha' b hb' e
theorem hds1{H:Hp}{kvs:List (List Key×V)}{φ : Po F}(h:PF n 1 H kvs φ)(hu:∀t,φ t≠0->t∈rng1 30):HDs kvs:=by
 refine⟨tms kvs,h.keys,?_⟩
 refine List.pairwise_map.mpr (List.Pairwise.imp_of_mem (fun{a b} ha hb ne e=>ne ?_) h.tnd)
 exact zrg hs30 a (hu a (h.tmem.mp ha)) b (hu b (h.tmem.mp hb)) e
theorem zjr{xs:List F}(h:xs.length<=30)(t:List Int)(ht:byP xs t≠0):t∈rng1 30:=by
 obtain⟨i,rfl,hi,_⟩:=zdx ht
 exact mem_rng.mpr ⟨i,by omega,rfl⟩
/-! Horner -/
def hor(s:F):List F->List F
 | []=>[]
 | x :: xs=>((hor s xs).headD 0 * s + x) :: hor s xs
theorem zhu(s:F):∀xs:List F,(hor s xs).length=xs.length
 | []=>rfl
 | _ :: xs=>by show (hor s xs).length + 1=_;rw[zhu s xs];rfl
theorem zl6(l:List F):l.headD 0=l.getD 0 0:=by cases l <;> rfl
theorem zqx(s:F):∀(xs:List F) (j:Nat),(hor s xs).getD j 0=(hor s xs).getD (j + 1) 0 * s + xs.getD j 0
 | [],j=>by simp[hor,List.getD];grind
 | x :: xs,0=>by
  show (hor s xs).headD 0 * s + x=(hor s xs).getD 0 0 * s + x
  rw[zl6]
 | x :: xs,j + 1=>zqx s xs j
theorem zjx[Chr n F]{s:F}(hs:Lim n 6 s):∀{xs:List F},(∀x∈xs,Lim n 6 x)->∀y∈hor s xs,Lim n (13 * xs.length + 1) y
 | [],_,y,h=>by cases h
 | x :: xs,hx,y,hy=>by
  have ih:=zjx hs (xs:=xs) λz hz=>hx z (.tail _ hz)
  have e:13 * (x :: xs).length + 1=13 * xs.length + 14:=by rw[List.length_cons];omega
  rw[e]
  rcases List.mem_cons.mp hy with rfl | hy
  ·have h1:Lim n (13 * xs.length + 1) ((hor s xs).headD 0):=by
    cases q:hor s xs with
    | nil=>exact Lim.zero (by omega)
    | cons a l=>exact ih a (by rw[q];exact .head _)
   exact((h1.mul hs).add (hx x (.head _))).up (by omega)
  ·exact(ih y hy).up (by omega)
/-! divisors c + a x -/
structure Lin1(gs:Nat->Po F)(p:Nat)(c a:F):Prop where
 lo:∀i,i < p->∀t,gs i t=0
 at_:gs p=byP [c,a]
 nz:a≠0
 hi:∀i,(∀t,gs i t=0)\/∃c a,a≠0/\gs i=byP [c,a]
theorem zna{c a:F}{t:List Int}(h:byP [c,a] t≠0):t=[0]\/t=[1]:=by
 obtain⟨i,rfl,hi,_⟩:=zdx h
 have:i < 2:=hi
 rcases(by omega:i=0\/i=1) with rfl | rfl
 ·exact .inl rfl
 ·exact .inr rfl
theorem t0_1(i:Nat):T0 1 [(i:Int)]:=T0.of rfl λx hx=>by rw[List.mem_singleton.mp hx];omega
theorem lt01(O:OrdM rk 1):lt rk [0] [1]:=(zti O (t0_1 0) (t0_1 1) (by decide)).resolve_left (by decide)
theorem ld1(O:OrdM rk 1){c a:F}(h:a≠0):Ld rk (byP [c,a]) [1]:=by
 refine⟨h,λt ht => ?_⟩
 rcases zna ht with rfl | rfl
 ·exact .inr (lt01 O)
 ·exact .inl rfl
theorem Lin1.ld(O:OrdM rk 1){gs:Nat->Po F}{p:Nat}{c a:F}(h:Lin1 gs p c a){i:Nat}{l:List Int}(hl:Ld rk (gs i) l):l=[1]/\p<=i/\∃c a,a≠0/\gs i=byP [c,a]:=by
 rcases h.hi i with z | ⟨c',a',nz,e⟩
 ·exact absurd (z l) hl.1
 ·refine⟨?_,?_,c',a',nz,e⟩
  ·rw[e]at hl;exact hl.one (ld1 O nz)
  ·rcases Nat.lt_or_ge i p with q | q
   ·exact absurd (h.lo i q l) hl.1
   ·exact q
theorem goes1(i j:Nat):goesI [(i:Int)] [(j:Int)]=decide (i<=j):=by
 by_cases c:i<=j
 ·rw[decide_eq_true c]
  refine goesI_iff.mpr λq hq => ?_
  match q with
  | 0=>show (i:Int)<=j;omega
  | q + 1=>simp at hq
 ·rw[decide_eq_false c]
  cases z:goesI [(i:Int)] [(j:Int)]with
  | false=>rfl
  | true=>
   have:=goesI_iff.mp z 0 (by simp)
   have:(i:Int)<=j:=this
   omega
theorem Lin1.dvd(O:OrdM rk 1){gs:Nat->Po F}{p:Nat}{c a s:F}(h:Lin1 gs p c a){lds:List (Nat×List Int)}(L:LdsOk rk 1 k gs lds)(hp:p < k){xs hs ys:List F}(hc:c = -(a * s))(hx:∀j,hs.getD j 0=hs.getD (j + 1) 0 * s + xs.getD j 0)(hy:∀j,ys.getD j 0 * a=hs.getD (j + 1) 0) :
  Dvd rk 1 k (byP xs) gs lds (λi=>if i=p then byP ys else λ_=>0) (λi=>if i=p then rng1 ys.length else []) (byP (hs.take 1)) [[0]]:=by
 have mem:(p,([1]:List Int))∈lds:=by
  obtain⟨l,hl⟩:=L.all p [1] hp (by rw[h.at_];exact h.nz)
  have:=(L.ld p l hl).2
  rw[h.at_]at this
  rwa [this.one (ld1 O h.nz)]at hl
 have rho:∀{t:List Int},byP (hs.take 1) t≠0->t=[0]:=fun{t} ht=>by
  obtain⟨i,rfl,hi,_⟩:=zdx ht
  have:i < 1:=Nat.lt_of_lt_of_le hi (by rw[List.length_take];omega)
  obtain rfl:i=0:=by omega
  rfl
 refine⟨λt => ?_,λi t ht => ?_,λi => ?_,λt ht => ?_,λi o ho => ?_,λt ht => ?_⟩
 ·rw[zoc (a:=p) List.nodup_range (List.mem_range.mpr hp) λj _ nj=>by rw[if_neg nj];rfl,if_pos rfl,if_pos rfl,h.at_]
  by_cases ct:∃j:Nat,t=[(j:Int)]
  ·obtain⟨j,rfl⟩:=ct
   rw[ze9,zrx,ze9]
   have e1:=hx j
   have e2:=hy j
   by_cases j0:j=0
   ·subst j0
    have e3:(hs.take 1).getD 0 0=hs.getD 0 0:=by cases hs <;> rfl
    rw[if_pos rfl,e3,hc,e1,<- e2]
    grind
   ·have e3:(hs.take 1).getD j 0=0:=by
     have:(hs.take 1).length<=j:=by rw[List.length_take];omega
     simp[List.getD,List.getElem?_eq_none this]
    have e4:=hy (j - 1)
    rw[show j - 1 + 1=j by omega]at e4
    rw[if_neg j0,e3,hc,e4,e1,<- e2]
    grind
  ·have z1:byP xs t=0:=Classical.byContradiction λz=>let ⟨j,e,_⟩:=zdx z;ct ⟨j,e⟩
   have z2:byP (hs.take 1) t=0:=Classical.byContradiction λz=>let ⟨j,e,_⟩:=zdx z;ct ⟨j,e⟩
   have z3:mul (rng1 ys.length) (byP ys) (byP [c,a]) t=0:=Classical.byContradiction λz=>by
    obtain⟨o,ho,_,q⟩:=zuv z
    obtain⟨i,_,rfl⟩:=mem_rng.mp ho
    have:=(zpc (t0_1 i) (zrd _) q).1
    have tl:=this.len
    match t,tl with
    | [x],_=>
     have:=this.mem x (by simp)
     exact ct ⟨x.toNat,by rw[Int.toNat_of_nonneg this]⟩
   rw[z1,z2,z3];grind
 ·by_cases c:i=p
  ·rw[if_pos c]at ht ⊢
   obtain⟨j,rfl,hj,_⟩:=zdx ht
   exact mem_rng.mpr ⟨j,hj,rfl⟩
  ·rw[if_neg c]at ht;exact absurd rfl ht
 ·by_cases c:i=p
  ·rw[if_pos c];exact zro _
  ·rw[if_neg c];exact List.nodup_nil
 ·rw[rho ht];simp
 ·by_cases c:i=p
  ·rw[if_pos c]at ho
   subst c
   obtain⟨j,rfl,hj,_⟩:=zdx ho
   refine⟨t0_1 j,[1],mem,?_,λq hq hlt => ?_⟩
   ·show goesI [((1:Nat):Int)] [((j:Int) + 1)]=true
    rw[show ((j:Int) + 1)=((j + 1:Nat):Int) by omega,goes1]
    exact decide_eq_true (by omega)
   ·have:=(L.ld q.1 q.2 hq).2.1
    exact absurd (h.lo q.1 hlt q.2) this
  ·rw[if_neg c]at ho;exact absurd rfl ho
 ·have:=rho ht
  subst this
  refine⟨t0_1 0,λq hq => ?_⟩
  rw[(h.ld O (L.ld q.1 q.2 hq).2).1]
  decide
end
end G
namespace K6
open PySem L2
def top(i:Nat):Stmt:=PySem.Challenge.pw_idealroom_k16_divided_by_one.main.body.getD i (.Pass ⟨0,0,0,0⟩)
abbrev zbg:Stmt:=top 26
abbrev zdu:Stmt:=top 27
abbrev zbo:Stmt:=inClass (top 28) 0
abbrev za2:Stmt:=inClass (top 29) 0
abbrev zba:Stmt:=inClass (top 29) 1
abbrev zbv:Stmt:=inClass (top 29) 2
abbrev zbj:Stmt:=inClass (top 29) 3
abbrev zbi:Stmt:=inClass (top 29) 4
abbrev zbd:Stmt:=inClass (top 29) 5
abbrev za4:Stmt:=inClass (top 29) 6
abbrev za7:Stmt:=inClass (top 29) 7
abbrev zbz:Stmt:=inClass (top 28) 2
abbrev zbh:Stmt:=inClass (top 30) 0
abbrev zb5:Stmt:=inClass (top 30) 1
abbrev zdb:Stmt:=inClass (top 30) 2
abbrev zcz:Stmt:=inClass (top 30) 4
abbrev zcn:Stmt:=inClass (top 30) 5
abbrev zbx:Stmt:=inClass (top 30) 6
abbrev zb8:Stmt:=inClass (top 30) 7
abbrev ze4:Stmt:=top 13
abbrev zc1:Stmt:=inClass (top 32) 0
abbrev zb9:Stmt:=inClass (top 33) 0
abbrev zcx:Stmt:=inClass (top 34) 0
abbrev za6:Stmt:=inClass (top 35) 0
abbrev zcb:Stmt:=inClass (top 35) 1
abbrev zcv:Stmt:=inClass (top 32) 5
abbrev zca:Stmt:=inClass (top 35) 3
abbrev zbn:Stmt:=inClass (top 32) 3
abbrev zbu:Stmt:=inClass (top 38) 0
abbrev zd9:Stmt:=top 10
abbrev zdc:Stmt:=top 11
abbrev zdd:Stmt:=top 12
abbrev ze3:Stmt:=top 16
abbrev zey:Stmt:=top 17
abbrev zcw:Stmt:=top 18
abbrev za9:Stmt:=inClass (top 20) 2
abbrev zcj:Stmt:=inClass (top 20) 1
abbrev za8:Stmt:=inClass (top 20) 0
abbrev za5:Stmt:=inClass (top 20) 3
abbrev zbw:Stmt:=inClass (top 20) 4
abbrev zbl:Stmt:=inClass (top 21) 0
abbrev zbs:Stmt:=inClass (top 21) 1
abbrev zd8:Stmt:=top 22
abbrev zb6:Stmt:=top 23
abbrev zb7:Stmt:=top 40
abbrev zdr:Stmt:=top 43
abbrev zdf:Stmt:=top 44
abbrev zc0:Stmt:=top 46
abbrev zde:Stmt:=top 45
abbrev zcm:Stmt:=top 47
abbrev zds:Stmt:=top 48
abbrev zdg:Stmt:=top 49
abbrev zcr:Stmt:=top 41
abbrev zct:Stmt:=top 42
abbrev zc2:Stmt:=top 51
abbrev zbk:Stmt:=top 52
abbrev zcc:Stmt:=top 53
abbrev zbm:Stmt:=top 54
abbrev zcs:Stmt:=top 55
abbrev zcq:Stmt:=top 56
abbrev zck:Stmt:=top 57
abbrev zdt:Stmt:=top 50
abbrev zcy:Stmt:=top 58
abbrev zbf:Stmt:=top 59
abbrev zb4:Stmt:=top 60
abbrev zhv:Stmt:=top 61
structure Txt(K:W.Frag)(mg:Str->Option Value)(zap zab zai zal zae zam zac zad zan:Addr):Prop where
 b_abs:mg "abs" = none
 b_all:mg "all" = none
 b_any:mg "any" = none
 b_bool:mg "bool" = none
 b_dict:mg "dict" = none
 b_enumerate:mg "enumerate" = none
 b_int:mg "int" = none
 b_isinstance:mg "isinstance" = none
 b_len:mg "len" = none
 b_list:mg "list" = none
 b_max:mg "max" = none
 b_range:mg "range" = none
 b_reversed:mg "reversed" = none
 b_sum:mg "sum" = none
 b_tuple:mg "tuple" = none
 b_zip:mg "zip" = none
 cl_Ring:Cls K zap
 mg_Ring:mg "Ring" = some (.ref zap)
 na_Ring_many:NoAttr K zap "many"
 na_Ring_field:NoAttr K zap "field"
 na_Ring_order:NoAttr K zap "order"
 cl_Fractions:Cls K zab
 mg_Fractions:mg "Fractions" = some (.ref zab)
 na_Fractions_prime:NoAttr K zab "prime"
 cl_Rests:Cls K zai
 mg_Rests:mg "Rests" = some (.ref zai)
 na_Rests_prime:NoAttr K zai "prime"
 cl_Order:Cls K zal
 mg_Order:mg "Order" = some (.ref zal)
 n0_Order:Mk0 K zal
 cl_Degrees:Cls K zae
 mg_Degrees:mg "Degrees" = some (.ref zae)
 n0_Degrees:Mk0 K zae
 cl_Tails:Cls K zam
 mg_Tails:mg "Tails" = some (.ref zam)
 n0_Tails:Mk0 K zam
 cl_Weights:Cls K zac
 mg_Weights:mg "Weights" = some (.ref zac)
 na_Weights_weights:NoAttr K zac "weights"
 cl_Waiting:Cls K zad
 mg_Waiting:mg "Waiting" = some (.ref zad)
 na_Waiting_order:NoAttr K zad "order"
 na_Waiting_known:NoAttr K zad "known"
 na_Waiting_queue:NoAttr K zad "queue"
 cl_Leads:Cls K zan
 mg_Leads:mg "Leads" = some (.ref zan)
 na_Leads_pairs:NoAttr K zan "pairs"
 g_GREATEST_PRIME:∃tk,mg "GREATEST_PRIME" = some (.int 9973 tk)
 g_LETTERS:∃tk,mg "LETTERS" = some (.str "xyzt" tk)
 kii:W.kitOne K (.type "int") (.type "int")=some true
 kib:W.kitOne K (.type "int") (.type "bool")=some false
 ktt:W.kitOne K (.type "tuple") (.type "tuple")=some true
 kdd:W.kitOne K (.type "dict") (.type "dict")=some true
 kll:W.kitOne K (.type "list") (.type "list")=some true
theorem zku:(["power"]:List Str).Nodup:=by decide +kernel
theorem ziu:(["weight"]:List Str).Nodup:=by decide +kernel
theorem zep:(["power","weight"]:List Str).Nodup:=by decide +kernel
theorem zek:(["power","further"]:List Str).Nodup:=by decide +kernel
theorem zfb:(["power","bound"]:List Str).Nodup:=by decide +kernel
theorem ze6:(["power","whole"]:List Str).Nodup:=by decide +kernel
theorem zf0:(["at","f","ring"]:List Str).Nodup:=by decide +kernel
theorem zhh:(["divisor"]:List Str).Nodup:=by decide +kernel
theorem zdp:(["_law_k","_law_found"]:List Str).Nodup:=by decide +kernel
theorem zfs:(["_law_power"]:List Str).Nodup:=by decide +kernel
theorem zco:(["_law_f","_law_many","_law_p"]:List Str).Nodup:=by decide +kernel
theorem zi7:(["_law_f"]:List Str).Nodup:=by decide +kernel
theorem zby:(["_law_k","_law_other","_law_term"]:List Str).Nodup:=by decide +kernel
theorem zjk:(["_law_k"]:List Str).Nodup:=by decide +kernel
theorem zdv:(["_law_cell","_law_p"]:List Str).Nodup:=by decide +kernel
theorem zcg:(["_law_k","_law_at","_law_found"]:List Str).Nodup:=by decide +kernel
theorem zu0{K:W.Frag}{H:Hp}{p:Addr}{xs:List V}{i:Int}{v:V}{Q:V->Hp->Prop}(h:SqT K H p xs)(h':atI xs i=some v)(q:Q v H):rIxT K (.ref p) (.int i) H Q:=⟨p,xs,i,v,rfl,rfl,h,h',q⟩
theorem uOne{k:Nat}{A:Around}(r:Room k A):A.units + 1 < cLine:=by have:=r.units;omega
theorem zpk{X:Cx}{x:Str}{i:Str}{pos:Pos}(hm:∃tk,X.mg x=some (.str i tk))(hg:Gl X x)(hd:(x == ("__debug__" : Str))=false:=by decide):PE X (.Name x pos) (tC (.str i)):=by
 obtain⟨tk,e⟩:=hm
 exact zl5 hg e ⟨tk,rfl⟩ hd
end K6
namespace K6
open PySem L2
open K1 K2 K3 K6 K8 K37 G
theorem zgn{a r:TS}{D:Ends}{σ : St}{H:Hp}(R:St->Hp->Prop)(hu:∀σ' H',R σ' H'->r D σ' H')(hc:∀N:St->Hp->Prop,(∀σ' H',R σ' H'->N σ' H')->a { D with nx:=N } σ H):tSeq a r D σ H:=by
 unfold tSeq
 exact hc _ hu
def spShared:Sp:=λvs H Q _=>∃(a b:Int),vs=[.int a,.int b]/\0<=a/\0<=b/\Q (.int (gI a b)) H
def spField(K:W.Frag):Sp:=λvs H Q _=>∃(p C dx:Addr) (v:V),vs=[.ref p,v]/\H p=some (.ins C dx [])/\Cls K C/\NoAttr K C "prime"/\Q .non (upd H p (.ins C dx [("prime",v)]))
def spFracInit(CF:Addr):Sp:=λvs H Q _=>∃(p dx:Addr),vs=[.ref p]/\H p=some (.ins CF dx [])/\Q .non (upd H p (.ins CF dx [("prime",.int 0)]))
def cellOf(ns:List Int)(k:Int):Int:=ns.getD k.toNat 0
def spCell(K:W.Frag):Sp:=λvs H Q _=>∃(a:Addr) (ns:List Int) (k:Int),vs=[.ref a,.int k]/\SqL K H a (ns.map V.int)/\0<=k/\Q (.int (cellOf ns k)) H
theorem zru{ns:List Int}{k:Int}(h0:0<=k)(h:k < (ns.length:Int)):atI (ns.map V.int) k=some (.int (cellOf ns k)):=by
 have hk:k.toNat < ns.length:=by omega
 have ek:k=((k.toNat:Nat):Int):=by omega
 have q:atI (ns.map V.int) ((k.toNat:Nat):Int)=some (.int ns[k.toNat]):=zdz (by rw[List.getElem?_map,List.getElem?_eq_getElem hk] <;> rfl)
 rw[<- ek]at q
 rw[q]
 unfold cellOf
 rw[List.getD_eq_getElem?_getD,List.getElem?_eq_getElem hk];rfl
def spPrime:Sp:=λvs H Q _=>∃(n:Int),vs=[.int n]/\n<=9973/\Q (.bl (isP n)) H
def spRests(CR NP:Addr):Sp:=λvs H Q E=>∃(p dx:Addr) (n:Int),vs=[.ref p,.int n]/\H p=some (.ins CR dx []) /\
 ((n<=9973/\isP n=true/\Q .non (upd H p (.ins CR dx [("prime",.int n)])))\/((9973 < n\/isP n=false)/\E (.ref NP) none H))
theorem zqj{d n:Int}(h2:2<=d)(h:d<=101) : -(2 ^ 64) < d/\d < 2 ^ 64:=by omega
/-- a fraction's parts -/
structure Nm(x y:Int):Prop where
 pos:1<=y
 bx:x.natAbs < 2 ^ 8900
 bz:y.natAbs < 2 ^ 8900
 cop:gI x y=1
theorem up{n a b:Nat}(h:n < 2 ^ a)(hab:a<=b):n < 2 ^ b:=Nat.lt_of_lt_of_le h (Nat.pow_le_pow_right (by decide) hab)
theorem Nm.mul{x y z t:Int}(h:Nm x y)(h':Nm z t):CMulC x z/\CMulC x t/\CMulC y t/\CMulC z y/\CMulC y z:=
 ⟨⟨up h.bx (by decide),up h'.bx (by decide)⟩,⟨up h.bx (by decide),up h'.bz (by decide)⟩,⟨up h.bz (by decide),up h'.bz (by decide)⟩,⟨up h'.bx (by decide),up h.bz (by decide)⟩,⟨up h.bz (by decide),up h'.bx (by decide)⟩⟩
def NumF(CF:Addr)(H:Hp)(p dx:Addr):Prop:=H p=some (.ins CF dx [("prime",.int 0)])
def Pair(H:Hp)(r:Addr)(x y:Int):Prop:=H r=some (.tup [.int x,.int y])
/-- of two fractions a third one,as made of t over b -/
def spBinF(CF:Addr)(t b:Int->Int->Int->Int->Int):Sp:=λvs H Q _=>∃(p dx ra rb:Addr) (x y z w:Int),vs=[.ref p,.ref ra,.ref rb]/\NumF CF H p dx/\Pair H ra x y/\Pair H rb z w/\Nm x y/\Nm z w /\
 ∀r H',Same H H'->Pair H' r (fT (t x y z w) (b x y z w)) (fB (t x y z w) (b x y z w))->Q (.ref r) H'
def spAgF:Sp:=λvs H Q _=>∃(p:V) (ra:Addr) (x y:Int),vs=[p,.ref ra]/\Pair H ra x y/\∀r H',Same H H'->Pair H' r (-x) y->Q (.ref r) H'
def spTuF(CF NO:Addr):Sp:=λvs H Q E=>∃(p dx ra:Addr) (x y:Int),vs=[.ref p,.ref ra]/\NumF CF H p dx/\Pair H ra x y/\Nm x y /\
 ((x≠0/\∀r H',Same H H'->Pair H' r (fT y x) (fB y x)->Q (.ref r) H')\/(x=0/\E (.ref NO) none H))
/-- a over b -/
def ovT(x y z w:Int):Int:=x * fT w z
def ovB(x y z w:Int):Int:=y * fB w z
def spOvF(CF NO:Addr):Sp:=λvs H Q E=>∃(p dx ra rb:Addr) (x y z w:Int),vs=[.ref p,.ref ra,.ref rb]/\NumF CF H p dx/\Pair H ra x y/\Pair H rb z w/\Nm x y/\Nm z w /\
 ((z≠0/\∀r H',Same H H'->Pair H' r (fT (ovT x y z w) (ovB x y z w)) (fB (ovT x y z w) (ovB x y z w))->Q (.ref r) H')\/(z=0/\E (.ref NO) none H))
theorem Nm.tu{x y:Int}(h:Nm x y)(hx:x≠0):Nm (fT y x) (fB y x):=
 ⟨zoj hx,Nat.lt_of_le_of_lt (zv0 hx) h.bz,Nat.lt_of_le_of_lt (zv3 hx) h.bx,zs4 hx⟩
theorem zfx(a b:Int):gI (if a < 0 then -a else a) b=gI a b:=zvx a b
theorem zu7(a b:Int):gI (-a) b=gI a b:=by unfold gI;rw[Int.neg_gcd]
theorem zp3{a b:Int}{n:Nat}(hb:b≠0)(h:b.natAbs < n):gI a b≠0/\(gI a b).natAbs < n:=by
 have:=zes (a:=a) hb
 refine⟨by omega,Nat.lt_of_le_of_lt ?_ h⟩
 unfold gI
 rw[Int.natAbs_natCast]
 exact Nat.le_of_dvd (by omega) (Nat.gcd_dvd_right _ _)
theorem fdl{a b:Int}{n:Nat}(hb:b≠0)(h:a.natAbs < n):(Int.fdiv a (gI a b)).natAbs < n:=by
 have:=zes (a:=a) hb
 exact Nat.lt_of_le_of_lt (zse (zk1 a b) (by omega)) h
theorem fdr{a b:Int}{n:Nat}(hb:b≠0)(h:b.natAbs < n):(Int.fdiv b (gI a b)).natAbs < n:=by
 have:=zes (a:=a) hb
 exact Nat.lt_of_le_of_lt (zse (zfm a b) (by omega)) h
theorem no_F(m:Str)(h:¬m = "prime"):([("prime",V.int 0)]:List (Str×V)).lookup m=none:=by
 have e:(m == (Str.ofString "prime"))=false:=by
  cases q:(m == (Str.ofString "prime")) with
  | true=>exact absurd (eq_of_beq q) h
  | false=>rfl
 simp only[List.lookup,e]
def NumR(CR:Addr)(H:Hp)(p dx:Addr)(n:Int):Prop:=H p=some (.ins CR dx [("prime",.int n)])/\Pr n/\n<=9973
theorem no_R(m:Str)(n:Int)(h:¬m = "prime"):([("prime",V.int n)]:List (Str×V)).lookup m=none:=by
 have e:(m == (Str.ofString "prime"))=false:=by
  cases q:(m == (Str.ofString "prime")) with
  | true=>exact absurd (eq_of_beq q) h
  | false=>rfl
 simp only[List.lookup,e]
def In(n a:Int):Prop:=0<=a/\a < n
def spC(v:V):Sp:=λvs H Q _=>∃(p:V),vs=[p]/\Q v H
/-- of two rests a third one -/
def spBinR(CR:Addr)(g:Int->Int->Int->Int):Sp:=λvs H Q _=>∃(p dx:Addr) (n a b:Int),vs=[.ref p,.int a,.int b]/\NumR CR H p dx n/\In n a/\In n b/\Q (.int (g n a b)) H
def spAgR(CR:Addr):Sp:=λvs H Q _=>∃(p dx:Addr) (n a:Int),vs=[.ref p,.int a]/\NumR CR H p dx n/\In n a/\Q (.int (-a % n)) H
def Inv1(n a f:Int):Prop:=0<=f/\f < n/\(f * a - 1) % n=0
def spTuR(CR NO:Addr):Sp:=λvs H Q E=>∃(p dx:Addr) (n a:Int),vs=[.ref p,.int a]/\NumR CR H p dx n/\In n a/\((a≠0/\∀f,Inv1 n a f->Q (.int f) H)\/(a=0/\E (.ref NO) none H))
def spOvR(CR NO:Addr):Sp:=λvs H Q E=>∃(p dx:Addr) (n a b:Int),vs=[.ref p,.int a,.int b]/\NumR CR H p dx n/\In n a/\In n b/\((b≠0/\∀f,Inv1 n b f->Q (.int (a * f % n)) H)\/(b=0/\E (.ref NO) none H))
def spPair(x y:Int):Sp:=λvs H Q _=>∃(p:V),vs=[p]/\∀r H',Same H H'->H' r=some (.tup [.int x,.int y])->Q (.ref r) H'
def spMade(NO:Addr):Sp:=λvs H Q E=>∃(p:V) (t b:Int),vs=[p,.int t,.int b]/\b.natAbs < 2 ^ 8900 /\
 ((b≠0/\∀r H',Same H H'->H' r=some (.tup [.int (fT t b),.int (fB t b)])->Q (.ref r) H')\/(b=0/\E (.ref NO) none H))
theorem zub{t b:Int}(h:b≠0)(hb:b.natAbs < 2 ^ 8900):dv t b≠0/\(dv t b).natAbs < 2 ^ 8999:=⟨zll h,Nat.lt_of_lt_of_le (Nat.lt_of_le_of_lt (zv4 h) hb) (Nat.pow_le_pow_right (by decide) (by decide))⟩
def AtF(CF:Addr)(H:Hp)(p:Addr):Prop:=∃dx,H p=some (.ins CF dx [("prime",.int 0)])
def AtR(CR:Addr)(n:Int)(H:Hp)(p:Addr):Prop:=∃dx,NumR CR H p dx n
theorem no_P(m:Str)(n:Int)(h:¬m = "prime"):([("prime",V.int n)]:List (Str×V)).lookup m=none:=no_R m n h
/-- n=0: the fractions -/
def AtN(CF CR:Addr)(n:Int):Hp->Addr->Prop:=if n=0 then AtF CF else AtR CR n
/-- the ring's object -/
def RgO(CG:Addr)(dx:Addr)(m:Int)(pf po:Addr):HO := .ins CG dx [("many",.int m),("field",.ref pf),("order",.ref po)]
def RgAt(CG:Addr)(H:Hp)(r:Addr)(m:Int)(pf po:Addr):Prop:=∃dx,H r=some (RgO CG dx m pf po)
/-! the field's numbers -/
def spPl(n:Int)(At:Hp->Addr->Prop):Sp:=λvs H Q _=>∃(F:Type) (_:Lean.Grind.Field F) (_:Chr n F) (p:Addr) (v1 v2:V) (x y:F),vs=[.ref p,v1,v2]/\At H p/\Rep n H v1 x/\Rep n H v2 y/\Lim n 8900 x/\Lim n 8900 y/\∀v H',Same H H'->Rep n H' v (x + y)->Q v H'
def spTi(n:Int)(At:Hp->Addr->Prop):Sp:=λvs H Q _=>∃(F:Type) (_:Lean.Grind.Field F) (_:Chr n F) (p:Addr) (v1 v2:V) (x y:F),vs=[.ref p,v1,v2]/\At H p/\Rep n H v1 x/\Rep n H v2 y/\Lim n 8900 x/\Lim n 8900 y/\∀v H',Same H H'->Rep n H' v (x * y)->Q v H'
def spNo(c n:Int)(At:Hp->Addr->Prop):Sp:=λvs H Q _=>∃(F:Type) (_:Lean.Grind.Field F) (_:Chr n F) (p:Addr),vs=[.ref p]/\At H p/\∀v H',Same H H'->Rep n H' v (ic c:F)->Q v H'
def spAg(n:Int)(At:Hp->Addr->Prop):Sp:=λvs H Q _=>∃(F:Type) (_:Lean.Grind.Field F) (_:Chr n F) (p:Addr) (v:V) (x:F),vs=[.ref p,v]/\At H p/\Rep n H v x/\∀v' H',Same H H'->Rep n H' v' (-x)->Q v' H'
def spOv(n:Int)(At:Hp->Addr->Prop):Sp:=λvs H Q _=>∃(F:Type) (_:Lean.Grind.Field F) (_:Chr n F) (p:Addr) (v1 v2:V) (x y:F),vs=[.ref p,v1,v2]/\At H p/\Rep n H v1 x/\Rep n H v2 y/\Lim n 8900 x/\Lim n 8900 y/\y≠0/\∀z v H',z * y=x->Same H H'->Rep n H' v z->Q v H'
structure FldP(P:Program)(w:World)(K:W.Frag)(mg:Str->Option Value)(base:Heap)(C:Addr)(At:Hp->Addr->Prop)(n:Int):Prop where
 same:∀{H H':Hp} {p:Addr},(∀b o,H b=some o->(∃C' dx fs,o = .ins C' dx fs)->H' b=some o)->At H p->At H' p
 ins:∀{H:Hp} {p:Addr},At H p->∃dx,H p=some (.ins C dx [("prime",.int n)])
 nought:MCal P w K mg base CX0 1 C "nought" ["self"] [] (spNo 0 n At)
 plus:MCal P w K mg base CX0 3 C "plus" ["self","a","b"] [] (spPl n At)
 times:MCal P w K mg base CX0 3 C "times" ["self","a","b"] [] (spTi n At)
 against:MCal P w K mg base CX0 1 C "against" ["self","a"] [] (spAg n At)
 over:MCal P w K mg base (CXe P w) 5 C "over" ["self","a","b"] [] (spOv n At)
theorem zlp{F:Type}[Lean.Grind.Field F][Chr 0 F]{H:Hp}{v:V}{x:F}(h:Rep 0 H v x)(l:Lim 0 8900 x):∃(r:Addr) (p q:Int),v = .ref r/\Pair H r p q/\Nm p q/\x * ic q=ic p:=by
 obtain⟨r,p,q,e,hr,q1,c,ex,h1,h2⟩:=zgo h l
 exact⟨r,p,q,e,hr,⟨q1,h1,h2,c⟩,ex⟩
theorem zni{y w:Int}(hy:1<=y)(hw:1<=w):y * w≠0:=by intro q;rcases Int.mul_eq_zero.mp q with q | q <;> omega
theorem zsy{c:Int}{At:Hp->Addr->Prop}:∀vs H Q E,spNo c 0 At vs H Q E->spPair c 1 vs H Q E:=λ_ _ _ _ ⟨F,_,_,p,e,_,k⟩=>⟨.ref p,e,λr _ e' h=>k _ _ e' (rep_0.mpr ⟨r,c,1,rfl,h,by decide,zkp c,by rw[zfj];grind⟩)⟩
theorem ztp{c n:Int}(hn:Pr n)(c0:0<=c)(c1:c<=1){At:Hp->Addr->Prop}:∀vs H Q E,spNo c n At vs H Q E->spC (.int c) vs H Q E:=λ_ _ _ _ ⟨F,_,_,p,e,_,k⟩=>
 ⟨.ref p,e,k _ _ (Same.refl _) ((zdl (zlw hn)).mpr ⟨c,rfl,c0,by have:=hn.1;omega,rfl⟩)⟩
theorem zsk{CF:Addr}:∀vs H Q E,spPl 0 (AtF CF) vs H Q E->spBinF CF (λx y z w=>x * w + z * y) (λx y z w=>y * w) vs H Q E:=λ_ _ _ _ ⟨F,_,_,p,v1,v2,a,b,e,⟨dx,ha⟩,i1,i2,s1,s2,k⟩=>by
 obtain⟨r1,x,y,rfl,h1,n1,q1⟩:=zlp i1 s1
 obtain⟨r2,z,w,rfl,h2,n2,q2⟩:=zlp i2 s2
 refine⟨p,dx,r1,r2,x,y,z,w,e,ha,h1,h2,n1,n2,λr H' e' h=>k _ _ e' (zf7 (zni n1.pos n2.pos) h ?_)⟩
 rw[zim,za3,za3,za3,<- q1,<- q2];grind
theorem ztk{CF:Addr}:∀vs H Q E,spTi 0 (AtF CF) vs H Q E->spBinF CF (λx y z w=>x * z) (λx y z w=>y * w) vs H Q E:=λ_ _ _ _ ⟨F,_,_,p,v1,v2,a,b,e,⟨dx,ha⟩,i1,i2,s1,s2,k⟩=>by
 obtain⟨r1,x,y,rfl,h1,n1,q1⟩:=zlp i1 s1
 obtain⟨r2,z,w,rfl,h2,n2,q2⟩:=zlp i2 s2
 refine⟨p,dx,r1,r2,x,y,z,w,e,ha,h1,h2,n1,n2,λr H' e' h=>k _ _ e' (zf7 (zni n1.pos n2.pos) h ?_)⟩
 rw[za3,za3,<- q1,<- q2];grind
theorem zr3{CF NO:Addr}:∀vs H Q E,spOv 0 (AtF CF) vs H Q E->spOvF CF NO vs H Q E:=λ_ _ _ _ ⟨F,_,_,p,v1,v2,a,b,e,⟨dx,ha⟩,i1,i2,s1,s2,nz,k⟩=>by
 obtain⟨r1,x,y,rfl,h1,n1,q1⟩:=zlp i1 s1
 obtain⟨r2,z,w,rfl,h2,n2,q2⟩:=zlp i2 s2
 have w0:ic (F:=F) w≠0:=zej (by have:=n2.pos;omega)
 have y0:ic (F:=F) y≠0:=zej (by have:=n1.pos;omega)
 have z0:z≠0:=by
  rintro rfl
  rw[zb1]at q2
  apply nz;grind
 refine⟨p,dx,r1,r2,x,y,z,w,e,ha,h1,h2,n1,n2,.inl ⟨z0,λr H' e' h=>k (a * b⁻¹) _ _ (by grind) e' (zf7 (zni n1.pos (n2.tu z0).pos) h ?_)⟩⟩
 have fc:ic (F:=F) (fT w z) * ic z=ic w * ic (fB w z):=by rw[<- za3,<- za3,zjt z0]
 have zn:ic (F:=F) z≠0:=zej z0
 show a * b⁻¹ * ic (ovB x y z w)=ic (ovT x y z w)
 unfold ovB ovT
 rw[za3,za3,<- q1]
 have bb:b⁻¹ * ic z=ic w:=by rw[<- q2];grind
 have key:b⁻¹ * ic (fB w z) * ic z=ic (fT w z) * ic z:=by rw[fc,<- bb];grind
 have key2:b⁻¹ * ic (fB w z)=ic (fT w z):=by grind
 rw[<- key2];grind
theorem zsg{CR:Addr}{n:Int}(hn:Pr n):∀vs H Q E,spPl n (AtR CR n) vs H Q E->spBinR CR (λn a b=>(a + b) % n) vs H Q E:=λ_ _ _ _ ⟨F,_,_,p,v1,v2,a,b,e,⟨dx,ha⟩,i1,i2,s1,s2,k⟩=>by
 have n0:=zlw hn
 have p2:=hn.1
 obtain⟨x,rfl,x0,x1,q1⟩:=(zdl n0).mp i1
 obtain⟨y,rfl,y0,y1,q2⟩:=(zdl n0).mp i2
 exact⟨p,dx,n,x,y,e,ha,⟨x0,x1⟩,⟨y0,y1⟩,k _ _ (Same.refl _) ((zdl n0).mpr ⟨_,rfl,Int.emod_nonneg _ n0,Int.emod_lt_of_pos _ (by omega),by rw[zgu,zim,q1,q2]⟩)⟩
theorem zs1{CR:Addr}{n:Int}(hn:Pr n):∀vs H Q E,spTi n (AtR CR n) vs H Q E->spBinR CR (λn a b=>a * b % n) vs H Q E:=λ_ _ _ _ ⟨F,_,_,p,v1,v2,a,b,e,⟨dx,ha⟩,i1,i2,s1,s2,k⟩=>by
 have n0:=zlw hn
 have p2:=hn.1
 obtain⟨x,rfl,x0,x1,q1⟩:=(zdl n0).mp i1
 obtain⟨y,rfl,y0,y1,q2⟩:=(zdl n0).mp i2
 exact⟨p,dx,n,x,y,e,ha,⟨x0,x1⟩,⟨y0,y1⟩,k _ _ (Same.refl _) ((zdl n0).mpr ⟨_,rfl,Int.emod_nonneg _ n0,Int.emod_lt_of_pos _ (by omega),by rw[zgu,za3,q1,q2]⟩)⟩
theorem zr4{CR NO:Addr}{n:Int}(hn:Pr n):∀vs H Q E,spOv n (AtR CR n) vs H Q E->spOvR CR NO vs H Q E:=λ_ _ _ _ ⟨F,_,_,p,v1,v2,a,b,e,⟨dx,ha⟩,i1,i2,s1,s2,nz,k⟩=>by
 have n0:=zlw hn
 have p2:=hn.1
 obtain⟨x,rfl,x0,x1,q1⟩:=(zdl n0).mp i1
 obtain⟨y,rfl,y0,y1,q2⟩:=(zdl n0).mp i2
 refine⟨p,dx,n,x,y,e,ha,⟨x0,x1⟩,⟨y0,y1⟩,.inl ⟨?_,λf hf=>k (a * ic f) _ _ ?_ (Same.refl _) ((zdl n0).mpr ⟨_,rfl,Int.emod_nonneg _ n0,Int.emod_lt_of_pos _ (by omega),by rw[zgu,za3,q1]⟩)⟩⟩
 ·rintro rfl;rw[zb1]at q2;exact nz q2
 ·have h3:ic (F:=F) (f * y - 1)=0:=(Chr.z (n:=n) _).mpr ((zr_n n0).mpr hf.2.2)
  rw[zm7,za3,zfj]at h3
  rw[q2];grind
theorem zs5{At:Hp->Addr->Prop}:∀vs H Q E,spAg 0 At vs H Q E->spAgF vs H Q E:=λ_ _ _ _ ⟨F,_,_,p,v,a,e,_,iv,k⟩=>by
 obtain⟨r1,x,y,rfl,h1,hy,c1,q1⟩:=rep_0.mp iv
 refine⟨.ref p,r1,x,y,e,h1,λr H' e' h=>k _ _ e' (rep_0.mpr ⟨r,_,_,rfl,h,hy,by rw[zu7];exact c1,by rw[zkg,<- q1];grind⟩)⟩
theorem ztg{CR:Addr}{n:Int}(hn:Pr n):∀vs H Q E,spAg n (AtR CR n) vs H Q E->spAgR CR vs H Q E:=λ_ _ _ _ ⟨F,_,_,p,v,a,e,⟨dx,ha⟩,iv,k⟩=>by
 have n0:=zlw hn
 have p2:=hn.1
 obtain⟨x,rfl,x0,x1,q1⟩:=(zdl n0).mp iv
 exact⟨p,dx,n,x,e,ha,⟨x0,x1⟩,k _ _ (Same.refl _) ((zdl n0).mpr ⟨_,rfl,Int.emod_nonneg _ n0,Int.emod_lt_of_pos _ (by omega),by rw[zgu,zkg,q1]⟩)⟩
theorem zur{P:Program}{w:World}{K:W.Frag}{mg:Str->Option Value}{base:Heap}{CF CR:Addr}(h1:MCal P w K mg base CX0 1 CF "nought" ["self"] [] (spNo 0 0 (AtF CF)))
  (h3:MCal P w K mg base CX0 3 CF "plus" ["self","a","b"] [] (spPl 0 (AtF CF))) (h4:MCal P w K mg base CX0 3 CF "times" ["self","a","b"] [] (spTi 0 (AtF CF))) (h5:MCal P w K mg base CX0 1 CF "against" ["self","a"] [] (spAg 0 (AtF CF))) (h6:MCal P w K mg base (CXe P w) 5 CF "over" ["self","a","b"] [] (spOv 0 (AtF CF))):FldP P w K mg base CF (AtN CF CR 0) 0:=by
 have e:AtN CF CR 0=AtF CF:=if_pos rfl
 rw[e]
 exact⟨λk ⟨dx,h⟩=>⟨dx,k _ _ h ⟨_,_,_,rfl⟩⟩,fun⟨dx,h⟩=>⟨dx,h⟩,h1,h3,h4,h5,h6⟩
theorem zvv{P:Program}{w:World}{K:W.Frag}{mg:Str->Option Value}{base:Heap}{CF CR:Addr}{n:Int}(hn:Pr n)(h1:MCal P w K mg base CX0 1 CR "nought" ["self"] [] (spNo 0 n (AtR CR n)))
  (h3:MCal P w K mg base CX0 3 CR "plus" ["self","a","b"] [] (spPl n (AtR CR n))) (h4:MCal P w K mg base CX0 3 CR "times" ["self","a","b"] [] (spTi n (AtR CR n))) (h5:MCal P w K mg base CX0 1 CR "against" ["self","a"] [] (spAg n (AtR CR n))) (h6:MCal P w K mg base (CXe P w) 5 CR "over" ["self","a","b"] [] (spOv n (AtR CR n))):FldP P w K mg base CR (AtN CF CR n) n:=by
 have e:AtN CF CR n=AtR CR n:=if_neg (zlw hn)
 rw[e]
 exact⟨λk ⟨dx,h⟩=>⟨dx,k _ _ h.1 ⟨_,_,_,rfl⟩,h.2⟩,fun⟨dx,h⟩=>⟨dx,h.1⟩,h1,h3,h4,h5,h6⟩
/-- a term's powers -/
structure Pws(xs:List Int):Prop where
 len:xs.length<=100
 ne:xs≠[]
 nn:Nn xs
 hi:∀x∈xs,x < 10 ^ 31
theorem zri(xs:List Int)(i:Nat):xs.getD i 0=0\/xs.getD i 0∈xs:=by
 rw[List.getD_eq_getElem?_getD]
 cases q:xs[i]? with
 | none=>exact .inl rfl
 | some v=>exact .inr (List.mem_of_getElem? q)
theorem Nn.getD{xs:List Int}(h:Nn xs)(i:Nat):0<=xs.getD i 0:=by
 rcases zri xs i with q | q
 ·omega
 ·exact h _ q
theorem bits{xs:List Int}(h1:Nn xs)(h2:∀x∈xs,x < 10 ^ 31)(i:Nat):(xs.getD i 0).natAbs < 2 ^ 4000:=by
 have h0:=h1.getD i
 have h3:(xs.getD i 0).natAbs < 2 ^ 110:=by
  have e:((2 ^ 110:Nat):Int)=2 ^ 110:=by decide
  have l:(10:Int) ^ 31 < 2 ^ 110:=by decide
  rcases zri xs i with q | q
  ·omega
  ·have:=h2 _ q;omega
 exact Nat.lt_of_lt_of_le h3 (Nat.pow_le_pow_right (by decide) (by decide))
structure OrdC(C:Addr)(At:Hp->Addr->Prop):Prop where
 same:∀{H H':Hp} {p:Addr},Same H H'->At H p->At H' p
 ins:∀{H:Hp} {p:Addr},At H p->∃dx fs,H p=some (.ins C dx fs)/\∀m:Str,¬m = "weights"->fs.lookup m=none
def AtO(C:Addr)(H:Hp)(p:Addr):Prop:=∃dx,H p=some (.ins C dx [])
def AtW(C:Addr)(ws:List Int)(H:Hp)(p:Addr):Prop:=∃dx wt,H p=some (.ins C dx [("weights",.ref wt)])/\H wt=some (.tup (ws.map V.int))
theorem no_W(v:V)(m:Str)(h:¬m = "weights"):([("weights",v)]:List (Str×V)).lookup m=none:=by
 have e:(m == (Str.ofString "weights"))=false:=by
  cases q:(m == (Str.ofString "weights")) with
  | true=>exact absurd (eq_of_beq q) h
  | false=>rfl
 simp only[List.lookup,e]
theorem ordcO(C:Addr):OrdC C (AtO C):=⟨λe ⟨dx,h⟩=>⟨dx,e _ _ h⟩,fun⟨dx,h⟩=>⟨dx,[],h,λ_ _=>rfl⟩⟩
theorem ordcW(C:Addr)(ws:List Int):OrdC C (AtW C ws):=⟨λe ⟨dx,wt,h1,h2⟩=>⟨dx,wt,e _ _ h1,e _ _ h2⟩,fun⟨dx,wt,h,_⟩=>⟨dx,_,h,no_W _⟩⟩
def spDeg(K:W.Frag):Sp:=λvs H Q _=>∃(a:Addr) (xs:List Int),vs=[.ref a]/\SqT K H a (xs.map V.int)/\Q (.int xs.sum) H
def spRank(At:Hp->Addr->Prop)(rk:List Int->List Int):Sp:=λvs H Q _=>∃(p t:Addr) (xs:List Int),vs=[.ref p,.ref t]/\At H p/\H t=some (.tup (xs.map V.int))/\Pws xs/\∀r H',Same H H'->H' r=some (.tup ((rk xs).map V.int))->Q (.ref r) H'
def spWInit(K:W.Frag)(C NO:Addr):Sp:=λvs H Q E=>∃(p dx l:Addr) (ws:List Int),vs=[.ref p,.ref l]/\H p=some (.ins C dx [])/\SqL K H l (ws.map V.int)/\ws.length<=100 /\
 ((Nn ws/\∀wt H',H' p=some (.ins C dx [("weights",.ref wt)])->H' wt=some (.tup (ws.map V.int))->(∀b o,H b=some o->b≠p->H' b=some o)->Q .non H')\/(¬Nn ws/\∀H',Same H H'->E (.ref NO) none H'))
def AtK(CO CD CT CW:Addr)(k:Int)(ws:List Int):Hp->Addr->Prop:=if k=0 then AtO CO else if k=1 then AtO CD else if k=2 then AtO CT else AtW CW ws
noncomputable instance instDecNn(ws:List Int):Decidable (Nn ws):=Classical.propDecidable _
theorem zts(ws:List Int):((List.range ws.length).map λi=>decide (ws.getD i 0 < 0)).any id = !decide (Nn ws):=by
 by_cases h:Nn ws
 ·rw[decide_eq_true h,Bool.not_true,List.any_eq_false]
  intro b hb
  obtain⟨i,_,rfl⟩:=List.mem_map.mp hb
  have:=h.getD i
  show decide (ws.getD i 0 < 0)≠true
  rw[decide_eq_false (by omega)]
  decide
 ·rw[decide_eq_false h,Bool.not_false,List.any_eq_true]
  have:∃x∈ws,x < 0:=Classical.byContradiction λz=>h λx hx=>by
   rcases(by omega:x < 0\/0<=x) with q | q
   ·exact absurd ⟨x,hx,q⟩ z
   ·exact q
  obtain⟨x,hx,q⟩:=this
  obtain⟨i,hi,e⟩:=List.mem_iff_getElem.mp hx
  exact⟨_,List.mem_map.mpr ⟨i,List.mem_range.mpr hi,rfl⟩,by simp[List.getD,hi,e,q]⟩
def spFirst(At:Hp->Addr->Prop)(rk:List Int->List Int)(NT:Addr):Sp:=λvs H Q E=>∃(p l:Addr) (ys:List V) (xss:List (List Int)),vs=[.ref p,.ref l]/\At H p/\H l=some (.lst ys)/\Paired (Trm H) xss ys/\(∀xs∈xss,Pws xs) /\
 ((ys=[]/\E (.ref NT) none H)\/(ys≠[]/\∀H' xs v,Same H H'->(xs,v)∈xss.zip ys->(∀p∈xss.zip ys,HT.lexLt (rk xs) (rk p.1)=false)->Q v H'))
def spFits(At:Hp->Addr->Prop)(b:Int->Bool):Sp:=λvs H Q _=>∃(p:Addr) (k:Int),vs=[.ref p,.int k]/\At H p/\∀H',Same H H'->Q (.bl (b k)) H'
/-- the greatest so far -/
theorem zju{K:W.Frag}{At:Hp->Addr->Prop}{rk:List Int->List Int}{C p l:Addr}{all:List V}(oC:OrdC C At){Q:VK}:∀(xss:List (List Int)) (ys:List V) (xb:List Int) (b:V) (c:Addr) (H H1:Hp) (done:List (List Int)),Same H H1->At H1 p->H1 l=some (.lst all)->Paired (Trm H1) xss ys->(∀xs∈xss,Pws xs) ->
  SqT K H1 c ((rk xb).map V.int)->(∀d∈done,HT.lexLt (rk xb) (rk d)=false) ->
  (∀H' x v,Same H H'->((x,v)=(xb,b)\/(x,v)∈xss.zip ys)->(∀d∈done,HT.lexLt (rk x) (rk d)=false)->(∀d∈xss,HT.lexLt (rk x) (rk d)=false)->Q v H') ->
  mxGo K l all (λx H Q=>spRank At rk [.ref p,x] H Q E0) ys b (.ref c) H1 Q
 | [],_,xb,b,c,H,H1,done,e,_,_,.nil,_,_,hd,hQ=>hQ H1 xb b e (.inl rfl) hd (λ_ h=>nomatch h)
 | xs :: xss,_ :: ys,xb,b,c,H,H1,done,e,hp,hl,.cons ⟨r,er,hr⟩ t,hw,hc,hd,hQ=>by
  subst er
  refine⟨p,r,xs,rfl,hp,hr,hw xs (.head _),λk H2 e2 hk2'=>have hk2:=SqT.of (K:=K) hk2';⟨e2 _ _ hl,k,c,rk xs,rk xb,rfl,rfl,hk2,e2.seqT hc,λhlt => ?_,λhge => ?_⟩⟩
  ·refine zju oC xss ys xs (.ref r) k H H2 (xs :: xb :: done) (e.trans e2) (oC.same e2 hp) (e2 _ _ hl) (pimp (λ_ _ h=>h.same e2) t) (λx hx=>hw x (.tail _ hx)) hk2 (λd h => ?_) λH' x v e' hm h1 h2=>hQ H' x v e' (.inr ?_) (λd hd'=>h1 d (.tail _ (.tail _ hd'))) (λd hd' => ?_)
   ·rcases List.mem_cons.mp h with rfl | h
    ·exact zit _
    rcases List.mem_cons.mp h with rfl | h
    ·exact ztj hlt
    ·cases q:HT.lexLt (rk xs) (rk d) with
     | false=>rfl
     | true=>have:=ztr hlt q;rw[hd d h]at this;cases this
   ·rcases hm with hm | hm
    ·rw[hm];exact .head _
    ·exact .tail _ hm
   ·rcases List.mem_cons.mp hd' with rfl | hd'
    ·exact h1 d (.head _)
    ·exact h2 d hd'
  ·refine zju oC xss ys xb b c H H2 (xs :: done) (e.trans e2) (oC.same e2 hp) (e2 _ _ hl) (pimp (λ_ _ h=>h.same e2) t) (λx hx=>hw x (.tail _ hx)) (e2.seqT hc) (λd h => ?_) λH' x v e' hm h1 h2=>hQ H' x v e' ?_ (λd hd'=>h1 d (.tail _ hd')) (λd hd' => ?_)
   ·rcases List.mem_cons.mp h with rfl | h
    ·exact hge
    ·exact hd d h
   ·rcases hm with hm | hm
    ·exact .inl hm
    ·exact .inr (.tail _ hm)
   ·rcases List.mem_cons.mp hd' with rfl | hd'
    ·exact h1 d (.head _)
    ·exact h2 d hd'
theorem zu9{K:W.Frag}{At:Hp->Addr->Prop}{rk:List Int->List Int}{C p l:Addr}{all:List V}(oC:OrdC C At){Q:VK}:∀(xss:List (List Int)) (ys:List V) (H:Hp),At H p->H l=some (.lst all)->Paired (Trm H) xss ys->(∀xs∈xss,Pws xs)->ys≠[] ->
  (∀H' x v,Same H H'->(x,v)∈xss.zip ys->(∀q∈xss.zip ys,HT.lexLt (rk x) (rk q.1)=false)->Q v H') ->
  mxAll K l all (λx H Q=>spRank At rk [.ref p,x] H Q E0) ys H Q
 | [],_,H,_,_,.nil,_,ne,_=>absurd rfl ne
 | xs :: xss,_ :: ys,H,hp,hl,.cons ⟨r,er,hr⟩ t,hw,_,k=>by
  subst er
  refine⟨p,r,xs,rfl,hp,hr,hw xs (.head _),λk' H2 e2 hk2'=>have hk2:=SqT.of (K:=K) hk2';⟨e2 _ _ hl,?_⟩⟩
  refine zju oC xss ys xs (.ref r) k' H H2 [xs] e2 (oC.same e2 hp) (e2 _ _ hl) (pimp (λ_ _ h=>h.same e2) t) (λx hx=>hw x (.tail _ hx)) hk2 (λd hd => ?_) λH' x v e' hm g1 g2=>k H' x v e' ?_ λq hq' => ?_
  ·rw[List.mem_singleton.mp hd];exact zit _
  ·rcases hm with hm | hm
   ·rw[hm];exact .head _
   ·exact .tail _ hm
  ·rcases List.mem_cons.mp hq' with rfl | hq'
   ·exact g1 _ (.head _)
   ·exact g2 _ (List.of_mem_zip hq').1
def rkk(kd:Int)(ws xs:List Int):List Int:=if kd=0 then rkL xs else if kd=3 then rkW ws xs else if kd=1 then rkD xs else rkT xs
def fbK(kd:Int)(ws:List Int)(m:Int):Bool:=if kd=3 then decide ((ws.length:Int)=m) else true
def okR(kd:Int)(ws:List Int)(m:Int):Prop:=1<=m/\m<=4/\fbK kd ws m=true
def spRgInit(CG NR CO CD CT CW:Addr):Sp:=λvs H Q E=>∃(r dx:Addr) (m:Int) (pf po:Addr) (kd:Int) (ws:List Int),vs=[.ref r,.int m,.ref pf,.ref po]/\H r=some (.ins CG dx [])/\0<=kd/\kd < 4/\Nn ws/\(∀x∈ws,x < 10 ^ 31)/\AtK CO CD CT CW kd ws H po /\
 ((okR kd ws m/\∀H',H' r=some (RgO CG dx m pf po)->(∀b o,H b=some o->b≠r->H' b=some o)->Q .non H')\/(¬okR kd ws m/\∀H',Same H H'->E (.ref NR) none H'))
theorem zpx:((("xyzt" : Str).length:Nat):Int)=4:=by decide +kernel
theorem atI0{a b:V}:atI [a,b] 0=some a:=rfl
theorem atI1{a b:V}:atI [a,b] 1=some b:=rfl
theorem zl(n:Nat)(h:n<=10000000):n<=sizeLine:=Nat.le_trans h (by rw[sizeLine_eq];decide)
theorem zlt(n:Nat)(h:n<=10000000):n < sizeLine:=Nat.lt_of_le_of_lt h (by rw[sizeLine_eq];decide)
theorem zk6{xs:List Int}{i:Nat}(h:i < xs.length):atI (xs.map V.int) (i:Int)=some (.int (xs.getD i 0)):=zdz (by simp[List.getD,h])
structure OrdP(P:Program)(w:World)(K:W.Frag)(mg:Str->Option Value)(base:Heap)(NT C:Addr)(At:Hp->Addr->Prop)(rk:List Int->List Int)(fb:Int->Bool):Prop where
 oC:OrdC C At
 fits:MCal P w K mg base CX0 1 C "fits" ["self","many"] [] (spFits At fb)
 rank:MCal P w K mg base CX0 3 C "rank" ["self","term"] [] (spRank At rk)
 first:MCal P w K mg base (CXe P w) 6 C "first_of" ["self","terms"] [] (spFirst At rk NT)
/-- a ring as it is handed about -/
structure RgD where
 m:Nat
 pf:Addr
 po:Addr
 n:Int
 kd:Int
 ws:List Int
def RgD.rk(g:RgD):List Int->List Int:=rkk g.kd g.ws
structure RgP(CG CF CR CO CD CT CW:Addr)(H:Hp)(r:Addr)(g:RgD):Prop where
 nb:g.n<=9973
 np:g.n=0\/Pr g.n
 m1:1<=g.m
 m4:g.m<=4
 k0:0<=g.kd
 k4:g.kd < 4
 wn:Nn g.ws
 wb:∀x∈g.ws,x < 10 ^ 31
 at_:RgAt CG H r g.m g.pf g.po
 fd:AtN CF CR g.n H g.pf
 od:AtK CO CD CT CW g.kd g.ws H g.po
theorem zif{CF CR:Addr}{n:Int}{H H':Hp}{p:Addr}(k:Fix H H')(h:AtN CF CR n H p):AtN CF CR n H' p:=by
 by_cases z:n=0
 ·subst z
  have e:AtN CF CR 0=AtF CF:=if_pos rfl
  rw[e]at h ⊢
  obtain⟨dx,q⟩:=h
  exact⟨dx,k.ins q⟩
 ·have e:AtN CF CR n=AtR CR n:=if_neg z
  rw[e]at h ⊢
  obtain⟨dx,q⟩:=h
  exact⟨dx,k.ins q.1,q.2⟩
theorem zmt{CO CD CT CW:Addr}{kd:Int}{ws:List Int}{H H':Hp}{p:Addr}(k:Fix H H')(h:AtK CO CD CT CW kd ws H p):AtK CO CD CT CW kd ws H' p:=by
 unfold AtK at h ⊢
 repeat' split at h
 all_goals (first | rw[if_pos (by assumption)] | skip)
 all_goals (first | rw[if_neg (by assumption)] | skip)
 all_goals (first | rw[if_pos (by assumption)] | skip)
 all_goals (first | rw[if_neg (by assumption)] | skip)
 all_goals (first | rw[if_pos (by assumption)] | skip)
 all_goals (first | rw[if_neg (by assumption)] | skip)
 all_goals (first | (obtain⟨dx,q⟩:=h;exact⟨dx,k.ins q⟩) | (obtain⟨dx,wt,q,q'⟩:=h;exact⟨dx,wt,k.ins q,k.tup _ _ q'⟩))
section
variable{CG CF CR CO CD CT CW:Addr}{H H':Hp}{r:Addr}{g:RgD}
theorem RgP.fix(k:Fix H H')(h:RgP CG CF CR CO CD CT CW H r g):RgP CG CF CR CO CD CT CW H' r g:=by
 obtain⟨dx,q⟩:=h.at_
 exact⟨h.nb,h.np,h.m1,h.m4,h.k0,h.k4,h.wn,h.wb,⟨dx,k.ins q⟩,zif k h.fd,zmt k h.od⟩
theorem RgP.same(e:Same H H')(h:RgP CG CF CR CO CD CT CW H r g):RgP CG CF CR CO CD CT CW H' r g:=h.fix (.of e)
theorem zrc(kd:Int){ws:List Int}(wn:Nn ws)(m:Nat):OrdM (rkk kd ws) m:=by
 unfold rkk
 by_cases c0:kd=0
 ·simp only[c0,if_pos];exact ordL m
 ·by_cases c3:kd=3
  ·simp only[c0,c3,if_neg,if_pos,not_false_eq_true];exact ordW wn m
  ·by_cases c1:kd=1
   ·simp only[c0,c3,c1,if_neg,if_pos,not_false_eq_true];exact ordD m
   ·simp only[c0,c3,c1,if_neg,not_false_eq_true];exact ordT m
theorem RgP.om(h:RgP CG CF CR CO CD CT CW H r g):OrdM g.rk g.m:=zrc g.kd h.wn g.m
end
def spProd(K:W.Frag):Sp:=λvs H Q _=>∃(a b:Addr) (xs ys:List Int),vs=[.ref a,.ref b]/\SqT K H a (xs.map V.int)/\SqT K H b (ys.map V.int)/\xs.length<=1000/\∀r H',Same H H'->H' r=some (.tup ((addT xs ys).map V.int))->Q (.ref r) H'
def spGoes(K:W.Frag):Sp:=λvs H Q _=>∃(a b:Addr) (xs ys:List Int),vs=[.ref a,.ref b]/\SqT K H a (xs.map V.int)/\SqT K H b (ys.map V.int)/\xs.length=ys.length/\xs.length<=1000/\∀H',Same H H'->Q (.bl (goesI xs ys)) H'
def spLeft:Sp:=λvs H Q _=>∃(a b:Addr) (xs ys:List Int),vs=[.ref a,.ref b]/\H a=some (.tup (xs.map V.int))/\H b=some (.tup (ys.map V.int))/\xs.length=ys.length/\xs.length<=1000/\goesI xs ys=true/\∀r H',Same H H'->H' r=some (.tup ((subT ys xs).map V.int))->Q (.ref r) H'
/-- absorb -/
def spAbs(CG CF CR CO CD CT CW:Addr):Sp:=λvs H Q _=>∃(F:Type) (_:Lean.Grind.Field F) (r d e:Addr) (g:RgD) (_:Chr g.n F) (kvs fvs:List (List Key×V)) (φ ψ : Po F),vs=[.ref r,.ref d,.ref e]/\RgP CG CF CR CO CD CT CW H r g/\d≠e/\H d=some (.dT kvs)/\H e=some (.dT fvs) /\
 PF g.n g.m H kvs φ/\PF g.n g.m H fvs ψ/\kvs.length + fvs.length < sizeLine/\(∀t,Lim g.n 8900 (φ t))/\(∀t,Lim g.n 8900 (ψ t)) /\
 ∀H' kvs',Kp [d] H H'->H' d=some (.dT kvs')->PF g.n g.m H' kvs' (λt=>φ t + ψ t)->kvs'.length<=kvs.length + fvs.length->Q .non H'
def spScal(CG CF CR CO CD CT CW:Addr):Sp:=λvs H Q _=>∃(F:Type) (_:Lean.Grind.Field F) (r:Addr) (v:V) (t e:Addr) (g:RgD) (_:Chr g.n F) (fvs:List (List Key×V)) (x:F) (l:List Int) (ψ : Po F),vs=[.ref r,v,.ref t,.ref e]/\RgP CG CF CR CO CD CT CW H r g /\
 Rep g.n H v x/\Lim g.n 8900 x/\H t=some (.tup (l.map V.int))/\T0 g.m l/\H e=some (.dT fvs)/\PF g.n g.m H fvs ψ/\(∀t,Lim g.n 8900 (ψ t))/\fvs.length < sizeLine /\
 ∀d H' kvs,H d=none->Same H H'->H' d=some (.dT kvs)->PF g.n g.m H' kvs (λt=>x * sh l ψ t)->kvs.length<=fvs.length->Q (.ref d) H'
/-- terms with powers not too great -/
def TmB{F:Type}[Lean.Grind.Field F](φ : Po F):Prop:=∀t,φ t≠0->∀x∈t,x < 10 ^ 31
theorem za1{α : Type}{l:List α}{i:Nat}{a : α}(h:l[i]? = some a):i < l.length:=by
 rcases Nat.lt_or_ge i l.length with q | q
 ·exact q
 ·rw[List.getElem?_eq_none q]at h;cases h
theorem tms_list{m:Nat}{H:Hp}{l:Addr}{kvs:List (List Key×V)}{us:List (List Int)}{as:List Addr}(h:kvs.map (·.1)=us.map ky)(la:as.length=kvs.length)(hi:∀(i:Nat) k x,kvs[i]? = some (k,x)->∃a,as[i]? = some a/\H a=some (.tup (k.map kV))):Paired (Trm H) us (as.map V.ref):=by
 have lu:us.length=kvs.length:=by have:=congrArg List.length h;simpa using this.symm
 have key:∀n,n<=us.length->Paired (Trm H) (us.take n) ((as.map V.ref).take n):=λn=>by
  induction n with
  | zero=>intro _;simp;exact .nil
  | succ n ih=>
   intro hn
   have hk:n < kvs.length:=by omega
   obtain⟨a,ha,hH⟩:=hi n kvs[n].1 kvs[n].2 (by simp[hk])
   have eu:ky (us[n]'(by omega))=kvs[n].1:=by
    have:=congrArg (λx=>x[n]?) h
    simp[hk,show n < us.length by omega]at this
    exact this.symm
   rw[List.take_add_one,List.take_add_one]
   have e1:us[n]? = some (us[n]'(by omega)):=List.getElem?_eq_getElem (by omega)
   have e2:(as.map V.ref)[n]? = some (.ref a):=by rw[List.getElem?_map,ha];rfl
   rw[e1,e2]
   refine psnoc ⟨a,rfl,?_⟩ (ih (by omega))
   rw[<- eu,zeq]at hH;exact hH
 have:=key us.length (Nat.le_refl _)
 rwa [List.take_length,List.take_of_length_le (by rw[List.length_map];omega)]at this
theorem pz{R:List Int->V->Prop}:∀{l:List (List Int)} {ys:List V},Paired R l ys->∀p∈l.zip ys,R p.1 p.2
 | _,_,.nil,p,hp=>by cases hp
 | _,_,.cons r t,p,hp=>by
  rcases List.mem_cons.mp hp with rfl | hp
  ·exact r
  ·exact pz t p hp
theorem zrb{α β : Type}:∀{l:List α} {l':List β} {a : α},l.length=l'.length->a∈l->∃b,(a,b)∈l.zip l'
 | [],_,_,_,h=>by cases h
 | x :: l,[],_,h,_=>by simp at h
 | x :: l,y :: l',a,h,ha=>by
  rcases List.mem_cons.mp ha with rfl | ha
  ·exact⟨y,by simp⟩
  ·obtain⟨b,hb⟩:=zrb (by simpa using h) ha
   exact⟨b,by simp[hb]⟩
theorem ze2{X:Cx}{K:W.Frag}(hK:X.K=K)(hu:X.A.units + 64 < cLine):OpR X (compareOp .NotEq) (rEqDT K true):=by
 subst hK;exact zsa hu
theorem zq7{m:Nat}{t:List Int}(h:T0 m t)(m1:1<=m)(m4:m<=4)(hb:∀x∈t,x < 10 ^ 31):Pws t:=⟨by rw[h.len];omega,λz=>by have:=h.len;rw[z]at this;simp at this;omega,h.mem,hb⟩
def spFT(CG CF CR CO CD CT CW:Addr):Sp:=λvs H Q E=>∃(F:Type) (_:Lean.Grind.Field F) (r d:Addr) (g:RgD) (_:Chr g.n F) (kvs:List (List Key×V)) (φ : Po F),vs=[.ref r,.ref d]/\RgP CG CF CR CO CD CT CW H r g/\H d=some (.dT kvs)/\PF g.n g.m H kvs φ/\TmB φ/\kvs≠[] /\
 ∀H' t a,Same H H'->H' a=some (.tup (t.map V.int))->Ld g.rk φ t->Q (.ref a) H'
theorem pget{α : Type}{R : α->V->Prop}:∀{l:List α} {ys:List V},Paired R l ys->∀{i:Nat} {v:V},ys[i]? = some v->∃a,l[i]? = some a/\R a v
 | _,_,.nil,_,_,h=>by simp at h
 | _,_,.cons r t,0,_,h=>by simp at h;subst h;exact⟨_,rfl,r⟩
 | _,_,.cons r t,i + 1,_,h=>by simp at h;exact pget t h
theorem zln{J:It}{n:Nat}{P:Nat->V->Hp->Prop}{mp:List (Option Nat)}{wi:TI}{g:TG}{tc:TT}{te:TE}{σ : St}{H H1:Hp}{Q:VK}(S:Walk J H1 n P)(hn:n<=1000)(hwi:∀R,R J H1->wi σ H R)(Sv:St->Prop)(p:Nat->Bool)(F:Nat->V->Hp->Prop)
  (monoS:∀i v H H',Same H H'->F i v H->F i v H') (monoU:∀i v H a ys ys',H a=some (.lst ys)->F i v H->F i v (upd H a (.lst ys'))) (h0:Sv (st0 mp σ))
  (step:∀i x σ' H2,i < n->Sv σ'->Same H1 H2->P i x H2->∀(Ny:V->St->Hp->Prop) (Nn:St->Hp->Prop),(∀v σ2 H5,Sv σ2->Same H2 H5->F i v H5->p i=true->Ny v σ2 H5)->(∀σ2 H4,Sv σ2->Same H2 H4->p i=false->Nn σ2 H4) ->
   g x σ' H2 λσ2 H3=>tc σ2 H3 λb H4=>if b=true then te σ2 H4 λv H5=>Ny v σ2 H5 else Nn σ2 H4)
  (hQ:∀D H' ys,H1 D=none->Same H1 H'->H' D=some (.lst ys)->Paired (λi v=>F i v H') ((List.range n).filter p) ys->Q (.ref D) H'):tComp mp wi g tc te σ H Q:=by
 unfold tComp
 refine hwi _ λD hD => ?_
 exact znb S hD (Nat.le_trans hn (by rw[sizeLine_eq];decide)) Sv p F monoS monoU h0 step λH' ys e hL hF=>hQ D H' ys hD e hL hF
theorem papp{α : Type}{R : α->V->Prop}:∀{l l':List α} {ys zs:List V},Paired R l ys->Paired R l' zs->Paired R (l ++ l') (ys ++ zs)
 | _,_,_,_,.nil,h=>h
 | _,_,_,_,.cons r t,h => .cons r (papp t h)
theorem zo3{d:Addr}{o:Obj}{kvs:List (List Key×V)}{g:TG}{tb:TS}{D:Ends}{σ : St}{H:Hp}(Pv:Nat->St->Hp->Prop)(h0:Pv 0 σ H)(hl:∀i σ H,Pv i σ H->FzD H d o kvs)
  (hs:∀i k v σ H b,kvs[i]? = some (k,v)->Pv i σ H->H b=some (.tup (k.map kV))->g (.ref b) σ H λσ2 H2=>tb { D with nx:=Pv (i + 1),ct:=Pv (i + 1),bk:=D.nx } σ2 H2) (hd:∀σ H,Pv kvs.length σ H->D.nx σ H) :
  ∃W:Nat->Nat->St->Hp->Prop,(∃m,W 0 m σ H)/\∀i m σ H,W i m σ H ->
   ((ItK d o kvs).stop i H/\D.nx σ H)\/((ItK d o kvs).go i H/\∃N:St->Hp->Prop,(∀σ' H',N σ' H'->∃m',m' < m/\W (i + 1) m' σ' H')/\∀x H',(ItK d o kvs).yld i H x H'->g x σ H' λσ2 H2=>tb { D with nx:=N,ct:=N,bk:=D.nx } σ2 H2):=by
 refine⟨λi m σ H=>m=kvs.length - i/\i<=kvs.length/\Pv i σ H,⟨kvs.length,by simp,Nat.zero_le _,h0⟩,?_⟩
 rintro i m σ H ⟨rfl,hi,p⟩
 have q:=hl i σ H p
 by_cases hlt:i < kvs.length
 ·refine .inr ⟨⟨q,hlt⟩,Pv (i + 1),λσ' H' p'=>⟨kvs.length - (i + 1),by omega,rfl,hlt,p'⟩,λx H' y => ?_⟩
  obtain⟨rfl,b,k,v,hk,hb,rfl⟩:=y
  exact hs i k v σ H' b hk p hb
 ·have z:i=kvs.length:=by omega
  subst z
  exact .inl ⟨⟨q,Nat.le_refl _⟩,hd σ H p⟩
/-! what is waiting -/
def Ent(rk:List Int->List Int)(H:Hp)(t:List Int)(v:V):Prop:=∃p r a,v = .ref p/\H p=some (.tup [.ref r,.ref a])/\H r=some (.tup ((rk t).map V.int))/\H a=some (.tup (t.map V.int))
theorem Ent.fix{rk:List Int->List Int}{H H':Hp}{t:List Int}{v:V}(e:Fix H H')(h:Ent rk H t v):Ent rk H' t v:=by
 obtain⟨p,r,a,rfl,h1,h2,h3⟩:=h
 exact⟨p,r,a,rfl,e.tup _ _ h1,e.tup _ _ h2,e.tup _ _ h3⟩
def eds(rk:List Int->List Int)(us:List (List Int)):List PyData:=us.map λt=>PyData.tuple [PyData.tuple ((rk t).map PyData.int),PyData.tuple (t.map PyData.int)]
theorem zkh{K:W.Frag}{rk:List Int->List Int}{H:Hp}:∀{us:List (List Int)} {ys:List V},Paired (Ent rk H) us ys->RdsAll K H ys (eds rk us)
 | _,_,.nil => .nil
 | _,_,.cons ⟨p,r,a,er,hp,hr,ha⟩ t=>by subst er;exact .cons (.tup (SqT.of hp) (.cons (.tup (SqT.of hr) (zgg _)) (.cons (.tup (SqT.of ha) (zgg _)) .nil))) (zkh t)
theorem zn5(rk:List Int->List Int):∀us:List (List Int),PyData.canLayAll0 (eds rk us)=true
 | []=>rfl
 | t :: us=>by
  have h:=zn5 rk us
  simp only[eds,List.map_cons,PyData.canLayAll0,PyData.canLay0,W.ke_canLayAll0]at h ⊢
  rw[h];rfl
theorem zij(rk:List Int->List Int):∀us:List (List Int),PyData.depthAll (eds rk us)<=3
 | []=>by simp[eds,PyData.depthAll]
 | t :: us=>by
  have h:=zij rk us
  simp only[eds,List.map_cons,PyData.depthAll,PyData.depth,W.ke_depthAll]at h ⊢
  omega
theorem zlz(rk:List Int->List Int)(us:List (List Int)):SeqAt.shaped (.list (eds rk us))=true:=by
 have h1:=zn5 rk us
 have h2:=zij rk us
 unfold SeqAt.shaped
 rw[PyData.canLay0,PyData.depth,h1,Bool.true_and,decide_eq_true_eq]
 omega
theorem zp8(rk:List Int->List Int)(us:List (List Int)):PyData.eqv (.list (eds rk us)) (.list [])=decide (us=[]):=by
 cases us with
 | nil=>rfl
 | cons w ws=>rfl
structure Wa(CT:Addr)(rk:List Int->List Int)(H:Hp)(w po kn ql:Addr)(ks us:List (List Int)):Prop where
 at_:∃dx,H w=some (.ins CT dx [("order",.ref po),("known",.ref kn),("queue",.ref ql)])
 kn:∃kvs,H kn=some (.dT kvs)/\kvs.map (·.1)=ks.map ky
 ql:∃vs,H ql=some (.lst vs)/\Paired (Ent rk H) us vs
 nd:ks.Nodup
theorem Wa.fix{CT:Addr}{rk:List Int->List Int}{H H':Hp}{w po kn ql:Addr}{ks us:List (List Int)}(h:Wa CT rk H w po kn ql ks us)(e:Fix H H')(h1:∀o,H kn=some o->H' kn=some o)(h2:∀o,H ql=some o->H' ql=some o):Wa CT rk H' w po kn ql ks us:=by
 obtain⟨dx,a⟩:=h.at_
 obtain⟨kvs,b,c⟩:=h.kn
 obtain⟨vs,d,f⟩:=h.ql
 exact⟨⟨dx,e.ins a⟩,⟨kvs,h1 _ b,c⟩,⟨vs,h2 _ d,pimp (λ_ _ q=>q.fix e) f⟩,h.nd⟩
theorem Wa.same{CT:Addr}{rk:List Int->List Int}{H H':Hp}{w po kn ql:Addr}{ks us:List (List Int)}(e:Same H H')(h:Wa CT rk H w po kn ql ks us):Wa CT rk H' w po kn ql ks us:=h.fix (.of e) (λo=>e _ o) λo=>e _ o
theorem znz{po kn ql:Addr}(x:Str)(h1:¬x = "order")(h2:¬x = "known")(h3:¬x = "queue"):([("order",V.ref po),("known",.ref kn),("queue",.ref ql)]:List (Str×V)).lookup x=none:=by
 have e:∀y:Str,¬x=y->(x == y)=false:=λy h=>by
  cases q:(x == y) with
  | true=>exact absurd (eq_of_beq q) h
  | false=>rfl
 simp only[List.lookup,e _ h1,e _ h2,e _ h3]
def spPlace(CT:Addr):Sp:=λvs H Q _=>∃(w r po kn ql:Addr) (rk:List Int->List Int) (ks us:List (List Int)) (x:List Int),vs=[.ref w,.ref r]/\Wa CT rk H w po kn ql ks us/\H r=some (.tup (x.map V.int)) /\
 (∀(i j:Nat) u v,i < j->us[i]? = some u->us[j]? = some v->HT.lexLt (rk v) x=true->HT.lexLt (rk u) x=true)/\us.length<=sizeLine /\
 ∀i:Nat,i<=us.length->(∀(j:Nat) u,us[j]? = some u->(j < i↔HT.lexLt (rk u) x=true))->Q (.int i) H
def TmOk(m:Nat)(t:List Int):Prop:=T0 m t/\∀x∈t,x < 10 ^ 31
def spPut(CT CO CD CW CWt:Addr):Sp:=λvs H Q _=>∃(w d po kn ql:Addr) (kd:Int) (ws:List Int) (m:Nat) (ks us ts:List (List Int)) (kvs:List (List Key×V)),vs=[.ref w,.ref d]/\0<=kd/\kd < 4/\Nn ws/\(∀x∈ws,x < 10 ^ 31)/\1<=m/\m<=4/\AtK CO CD CT CW kd ws H po/\Wa CWt (rkk kd ws) H w po kn ql ks us /\
 H d=some (.dT kvs)/\kvs.map (·.1)=ts.map ky/\(∀t∈ts,TmOk m t)/\d≠kn/\us.Pairwise (lt (rkk kd ws))/\(∀u∈us,u∈ks/\T0 m u)/\ks.length + ts.length < sizeLine/\us.length + ts.length < sizeLine /\
 ∀H' ks' us',Kp [kn,ql] H H'->Wa CWt (rkk kd ws) H' w po kn ql ks' us'->us'.Pairwise (lt (rkk kd ws))->(∀z,z∈us'↔z∈us\/(z∈ts/\z ∉ ks))->(∀z,z∈ks'↔z∈ks\/z∈ts)->ks'.length<=ks.length + ts.length->us'.length<=us.length + ts.length->Q .non H'
def spWaInit(CT CO CD CW CWt:Addr):Sp:=λvs H Q _=>∃(w dx d po:Addr) (kd:Int) (ws:List Int) (m:Nat) (ts:List (List Int)) (kvs:List (List Key×V)),vs=[.ref w,.ref po,.ref d]/\H w=some (.ins CWt dx [])/\po≠w/\0<=kd/\kd < 4/\Nn ws/\(∀x∈ws,x < 10 ^ 31)/\1<=m/\m<=4/\AtK CO CD CT CW kd ws H po /\
 H d=some (.dT kvs)/\kvs.map (·.1)=ts.map ky/\(∀t∈ts,TmOk m t)/\ts.length < sizeLine /\
 ∀H' kn ql ks us,H kn=none->H ql=none->Kp [w] H H'->Wa CWt (rkk kd ws) H' w po kn ql ks us->us.Pairwise (lt (rkk kd ws))->(∀z,z∈us↔z∈ts)->(∀z,z∈ks↔z∈ts)->ks.length<=ts.length->us.length<=ts.length->Q .non H'
theorem zs3{CO CD CT CW:Addr}{kd:Int}{ws:List Int}{H H':Hp}{p a C dx:Addr}(k:Kp [a] H H')(ha:H a=some (.ins C dx []))(h:AtK CO CD CT CW kd ws H p)(hp:p≠a):AtK CO CD CT CW kd ws H' p:=by
 have key:∀b o,H b=some o->b≠a->H' b=some o:=λb o q ne=>k b o q (by simp[ne])
 unfold AtK at h ⊢
 repeat' split at h
 all_goals (first | rw[if_pos (by assumption)] | skip)
 all_goals (first | rw[if_neg (by assumption)] | skip)
 all_goals (first | rw[if_pos (by assumption)] | skip)
 all_goals (first | rw[if_neg (by assumption)] | skip)
 all_goals (first | rw[if_pos (by assumption)] | skip)
 all_goals (first | rw[if_neg (by assumption)] | skip)
 all_goals (first | (obtain⟨dx,q⟩:=h;exact⟨dx,key _ _ q hp⟩) | (obtain⟨dx,wt,q,q'⟩:=h;exact⟨dx,wt,key _ _ q hp,key _ _ q' (zdk q' ha (by intro z;cases z))⟩))
def spEmp(CT:Addr):Sp:=λvs H Q _=>∃(w po kn ql:Addr) (rk:List Int->List Int) (ks us:List (List Int)),vs=[.ref w]/\Wa CT rk H w po kn ql ks us/\∀H',Same H H'->Q (.bl (decide (us=[]))) H'
def spTaken(CT:Addr):Sp:=λvs H Q _=>∃(w po kn ql:Addr) (rk:List Int->List Int) (ks us:List (List Int)) (t:List Int),vs=[.ref w]/\Wa CT rk H w po kn ql ks (us ++ [t]) /\
 ∀H' a,Kp [ql] H H'->Wa CT rk H' w po kn ql ks us->H' a=some (.tup (t.map V.int))->Q (.ref a) H'
theorem zl1{rk:List Int->List Int}{m:Nat}(O:OrdM rk m){us:List (List Int)}{t:List Int}{i:Nat}(hs:us.Pairwise (lt rk))(h0:∀u∈us,T0 m u)(ht:T0 m t)(hn:t ∉ us)(hi:∀(j:Nat) u,us[j]? = some u->(j < i↔HT.lexLt (rk u) (rk t)=true)):(us.take i ++ t :: us.drop i).Pairwise (lt rk):=by
 have hp:(us.take i ++ us.drop i).Pairwise (lt rk):=by rw[List.take_append_drop];exact hs
 rw[List.pairwise_append]at hp ⊢
 have lo:∀u∈us.take i,lt rk u t:=λu hu=>by
  obtain⟨j,hj⟩:=List.mem_iff_getElem?.mp hu
  rw[List.getElem?_take]at hj
  split at hj
  ·rename_i q;exact(hi j u hj).mp q
  ·cases hj
 have up:∀u∈us.drop i,lt rk t u:=λu hu=>by
  obtain⟨j,hj⟩:=List.mem_iff_getElem?.mp hu
  rw[List.getElem?_drop]at hj
  have um:=List.mem_of_getElem? hj
  rcases zh6 O (h0 u um).len ht.len with q | q | q
  ·have:=(hi _ u hj).mpr q;omega
  ·subst q;exact absurd um hn
  ·exact q
 refine⟨hp.1,?_,λa ha b hb => ?_⟩
 ·rw[List.pairwise_cons];exact⟨λb hb=>up b hb,hp.2.1⟩
 ·rcases List.mem_cons.mp hb with rfl | hb
  ·exact lo a ha
  ·exact hp.2.2 a ha b hb
theorem pins{α : Type}{R : α->V->Prop}{l:List α}{ys:List V}(h:Paired R l ys){a : α}{y:V}(r:R a y)(i:Nat):Paired R (l.take i ++ a :: l.drop i) (ys.take i ++ y :: ys.drop i):=by
 have key:∀{l:List α} {ys:List V},Paired R l ys->∀i,Paired R (l.take i) (ys.take i)/\Paired R (l.drop i) (ys.drop i):=by
  intro l ys h
  induction h with
  | nil=>intro i;simp;exact .nil
  | cons r t ih=>
   intro i
   cases i with
   | zero=>simp;exact⟨.nil,.cons r t⟩
   | succ i=>simp;exact⟨.cons r (ih i).1,(ih i).2⟩
 exact papp (key h i).1 (.cons r (key h i).2)
theorem zr2{α : Type}{l:List α}{a z : α}(i:Nat):z∈l.take i ++ a :: l.drop i↔z∈l\/z=a:=by
 rw[List.mem_append,List.mem_cons]
 have:z∈l↔z∈l.take i\/z∈l.drop i:=by rw[<- List.mem_append,List.take_append_drop]
 rw[this]
 constructor
 ·rintro(h | h | h)
  ·exact .inl (.inl h)
  ·exact .inr h
  ·exact .inl (.inr h)
 ·rintro((h | h) | h)
  ·exact .inl h
  ·exact .inr (.inr h)
  ·exact .inr (.inl h)
theorem punsn{α : Type}{R : α->V->Prop}{l:List α}{a : α}{ys:List V}(h:Paired R (l ++ [a]) ys):∃zs y,ys=zs ++ [y]/\Paired R l zs/\R a y:=by
 induction l generalizing ys with
 | nil=>cases h with | cons r t=>cases t;exact⟨[],_,rfl,.nil,r⟩
 | cons b l ih=>
  cases h with
  | cons r t=>
   obtain⟨zs,y,e,p,q⟩:=ih t
   exact⟨_ :: zs,y,by rw[e];rfl,.cons r p,q⟩
/-! first terms of a row -/
def LdE(H:Hp)(p:Nat×List Int)(v:V):Prop:=∃q a,v = .ref q/\H q=some (.tup [.int p.1,.ref a])/\H a=some (.tup (p.2.map V.int))
theorem LdE.fix{H H':Hp}{p:Nat×List Int}{v:V}(e:Fix H H')(h:LdE H p v):LdE H' p v:=by
 obtain⟨q,a,rfl,h1,h2⟩:=h
 exact⟨q,a,rfl,e.tup _ _ h1,e.tup _ _ h2⟩
structure LeA(CL:Addr)(H:Hp)(x pl:Addr)(lds:List (Nat×List Int)):Prop where
 at_:∃dx,H x=some (.ins CL dx [("pairs",.ref pl)])
 pl:∃vs,H pl=some (.lst vs)/\Paired (LdE H) lds vs
theorem LeA.keep{CL:Addr}{H H':Hp}{x pl:Addr}{lds:List (Nat×List Int)}(h:LeA CL H x pl lds)(e:Fix H H')(h1:∀o,H pl=some o->H' pl=some o):LeA CL H' x pl lds:=by
 obtain⟨dx,a⟩:=h.at_
 obtain⟨vs,d,f⟩:=h.pl
 exact⟨⟨dx,e.ins a⟩,⟨vs,h1 _ d,pimp (λ_ _ q=>q.fix e) f⟩⟩
/-- a row of polynomials -/
structure Row{F:Type}[Lean.Grind.Field F](n:Int)(m:Nat)(H:Hp)(b:Addr)(ds:List Addr)(kvss:List (List (List Key×V)))(gs:Nat->Po F):Prop where
 at_:H b=some (.lst (ds.map V.ref))
 len:ds.length=kvss.length
 row:∀(i:Nat) (d:Addr),ds[i]? = some d->∃kvs,kvss[i]? = some kvs/\H d=some (.dT kvs)/\PF n m H kvs (gs i)
 out:∀i,ds.length<=i->∀t,gs i t=0
 b:ds.length<=1000
theorem Row.same{F:Type}[Lean.Grind.Field F]{n:Int}{m:Nat}{H H':Hp}{b:Addr}{ds:List Addr}{kvss:List (List (List Key×V))}{gs:Nat->Po F}(e:Same H H')(h:Row n m H b ds kvss gs):Row n m H' b ds kvss gs:=⟨e _ _ h.at_,h.len,λi d hd=>by
 obtain⟨kvs,h1,h2,h3⟩:=h.row i d hd
 exact⟨kvs,h1,e _ _ h2,h3.same e⟩,h.out,h.b⟩
theorem Row.sp{F:Type}[Lean.Grind.Field F]{n:Int}{m:Nat}{H:Hp}{b:Addr}{ds:List Addr}{kvss:List (List (List Key×V))}{gs:Nat->Po F}(h:Row n m H b ds kvss gs)(i:Nat):Spt m (gs i):=λt ht=>by
 rcases Nat.lt_or_ge i ds.length with c | c
 ·obtain⟨kvs,_,_,q⟩:=h.row i _ (List.getElem?_eq_getElem c)
  exact q.sp t ht
 ·exact absurd (h.out i c t) ht
def spLeInit(CG CF CR CO CD CT CW CL:Addr):Sp:=λvs H Q _=>∃(F:Type) (_:Lean.Grind.Field F) (x dx r b:Addr) (g:RgD) (_:Chr g.n F) (ds:List Addr) (kvss:List (List (List Key×V))) (gs:Nat->Po F),vs=[.ref x,.ref r,.ref b]/\H x=some (.ins CL dx [])/\RgP CG CF CR CO CD CT CW H r g/\Row g.n g.m H b ds kvss gs/\(∀i,TmB (gs i)) /\
 ∀H' pl lds,H pl=none->Kp [x] H H'->LeA CL H' x pl lds->LdsOk g.rk g.m ds.length gs lds->Q .non H'
def spFit(CL:Addr):Sp:=λvs H Q _=>∃(x a pl:Addr) (m:Nat) (lds:List (Nat×List Int)) (t:List Int),vs=[.ref x,.ref a]/\LeA CL H x pl lds/\H a=some (.tup (t.map V.int))/\t.length=m/\m<=4/\(∀p∈lds,p.2.length=m)/\(lds.Pairwise λa b=>a.1 < b.1) /\
 ((∀p∈lds,goesI p.2 t=false)->∀H',Same H H'->Q .non H')/\(∀i l,FitL lds t i l->∀H' q a',Same H H'->H' q=some (.tup [.int (i:Nat),.ref a'])->H' a'=some (.tup (l.map V.int))->Q (.ref q) H')
theorem zje{α : Type}{A:Nat×α->V->Prop}{B:Nat->α->Prop}:∀{is:List Nat} {vs:List V},Paired (λi v=>∃h,A (i,h) v/\B i h) is vs->∃lds:List (Nat×α),lds.map (·.1)=is/\Paired A lds vs/\∀p∈lds,B p.1 p.2
 | _,_,.nil=>⟨[],rfl,.nil,(λ_ z=>by cases z)⟩
 | _,_,.cons ⟨h,a,b⟩ t=>by
  obtain⟨lds,e,p,q⟩:=zje t
  refine⟨(_,h) :: lds,by rw[List.map_cons,e],.cons a p,λx hx => ?_⟩
  rcases List.mem_cons.mp hx with rfl | hx
  ·exact b
  ·exact q x hx
/-- a comprehension that makes a new dict for each -/
theorem zpr{K:W.Frag}{mp:List (Option Nat)}{tl:TE}{σ : St}{H:Hp}{b:Addr}{xs:List V}{Q:VK}(hb:SqL K H b xs)(hl:xs.length<=1000)(htl:∀R:V->Hp->Prop,R (.ref b) H->tl σ H R)(hst:∃v,st0 mp σ = [v])
  (hQ:∀D H' (ds:List Addr),H D=none->Same H H'->H' D=some (.lst (ds.map V.ref))->ds.length=xs.length->ds.Nodup->(∀d∈ds,H d=none/\H' d=some (.dT [])/\d≠D)->Q (.ref D) H'):tComp mp (iList K tl) (gName 0) tYes tDNewT σ H Q:=by
 unfold tComp
 refine htl _ ⟨b,rfl,⟨_,hb⟩,λD hD => ?_⟩
 have S:=zet hb
 refine⟨λi m ys σ' H'=>m=xs.length - i/\i<=xs.length/\(∃v,σ'=[v])/\Same H H'/\H' D=some (.lst ys)/\∃ds:List Addr,ys=ds.map V.ref/\ds.length=i/\ds.Nodup/\∀d∈ds,H d=none/\H' d=some (.dT [])/\d≠D,⟨xs.length,rfl,Nat.zero_le _,hst,Same.upd hD,zaf,[],rfl,rfl,List.nodup_nil,λd hd=>by cases hd⟩,?_⟩
 rintro i m ys σ' H' ⟨rfl,hi,⟨v,rfl⟩,hS,hL,ds,rfl,ld,nd,hd⟩
 refine⟨hL,?_⟩
 by_cases hlt:i < xs.length
 ·refine .inr ⟨S.go i H' hS hlt,Nat.lt_of_le_of_lt (show _<=1000 by rw[List.length_map];omega) (by rw[sizeLine_eq];decide),λx H2 y => ?_⟩
  obtain⟨e2,_⟩:=S.yld i H' x H2 hS hlt y
  unfold gName tYes
  dsimp only
  rw[if_pos rfl]
  intro p np
  have pD:p≠D:=λz=>by rw[z,e2 _ _ hL]at np;cases np
  have e3:Same H2 (upd H2 p (.dT [])):=Same.upd np
  have hL3:=e3 _ _ (e2 _ _ hL)
  refine⟨hL3,xs.length - (i + 1),by omega,rfl,hlt,⟨_,rfl⟩,((hS.trans e2).trans e3).updR hD,zaf,ds ++ [p],by rw[List.map_append];rfl,by simp[ld],?_,λd hd' => ?_⟩
  ·refine List.nodup_append.mpr ⟨nd,by simp,λa ha c hc e => ?_⟩
   rw[List.mem_singleton.mp hc]at e
   have:=e2 _ _ (hd a ha).2.1
   rw[e,np]at this;cases this
  ·rcases List.mem_append.mp hd' with z | z
   ·obtain⟨h1,h2,h3⟩:=hd d z
    exact⟨h1,by rw[zao h3];exact e3 _ _ (e2 _ _ h2),h3⟩
   ·rw[List.mem_singleton.mp z]
    refine⟨?_,by rw[zao pD];exact zaf,pD⟩
    exact(hS.trans e2).free np
 ·have e:i=xs.length:=by omega
  subst e
  exact .inl ⟨S.stop H' hS,hQ D H' ds hD hS hL ld nd hd⟩
theorem zut{α β : Type}{f : α->β}:∀{l:List α},l.Nodup->(∀a∈l,∀b∈l,f a=f b->a=b)->(l.map f).Nodup
 | [],_,_=>List.nodup_nil
 | x :: l,h,hi=>by
  rw[List.nodup_cons]at h
  rw[List.map_cons,List.nodup_cons]
  refine⟨λz => ?_,zut h.2 λa ha b hb=>hi a (by simp[ha]) b (by simp[hb])⟩
  obtain⟨y,hy,e⟩:=List.mem_map.mp z
  rw[hi y (by simp[hy]) x (by simp) e]at hy
  exact h.1 hy
/-- quotients as they lie -/
structure Qts{F:Type}[Lean.Grind.Field F](n:Int)(m:Nat)(H:Hp)(ql:Addr)(qds:List Addr)(q:Nat->Po F):Prop where
 at_:H ql=some (.lst (qds.map V.ref))
 nd:qds.Nodup
 row:∀(i:Nat) (d:Addr),qds[i]? = some d->∃kvs,H d=some (.dT kvs)/\PF n m H kvs (q i)
theorem Qts.keep{F:Type}[Lean.Grind.Field F]{n:Int}{m:Nat}{H H':Hp}{ql:Addr}{qds:List Addr}{q:Nat->Po F}(h:Qts n m H ql qds q)(e:Fix H H')(h1:∀o,H ql=some o->H' ql=some o)(h2:∀d∈qds,∀o,H d=some o->H' d=some o):Qts n m H' ql qds q:=⟨h1 _ h.at_,h.nd,λi d hd=>by
 obtain⟨kvs,a,b⟩:=h.row i d hd
 exact⟨kvs,h2 d (List.mem_of_getElem? hd) _ a,b.fix e⟩⟩
theorem zlb{F:Type}[Lean.Grind.Field F]{n:Int}{m:Nat}{H:Hp}{kvs:List (List Key×V)}{φ : Po F}{U:List (List Int)}(h:PF n m H kvs φ)(hu:∀t,φ t≠0->t∈U):kvs.length<=U.length:=by
 rw[<- zem kvs]
 exact zc4 h.tnd λt ht=>hu t (h.tmem.mp ht)
theorem zmj{F:Type}[Lean.Grind.Field F]{n:Int}{m:Nat}{H:Hp}{kvs:List (List Key×V)}{φ : Po F}{U:List (List Int)}{l:List Int}(hl:l.length=m)(h:PF n m H kvs φ)(hu:∀t,φ t≠0->addT t l∈U):kvs.length<=U.length:=by
 rw[<- zem kvs,<- List.length_map (f:=λt=>addT t l) (as:=tms kvs)]
 refine zc4 (zut h.tnd λa ha b hb e => ?_) λt ht => ?_
 ·have a0:=(h.sp a (h.tmem.mp ha)).len
  have b0:=(h.sp b (h.tmem.mp hb)).len
  refine zhd (c:=l) (a0.trans b0.symm) (a0.trans hl.symm) ?_
  rw[zg3 (hl.trans a0.symm),zg3 (hl.trans b0.symm)];exact e
 ·obtain⟨a,ha,rfl⟩:=List.mem_map.mp ht
  exact hu a (h.tmem.mp ha)
/-- what the numbers may become while it goes on -/
structure DvH{F:Type}[Lean.Grind.Field F](n:Int)(m:Nat)(rk:List Int->List Int)(φ : Po F)(gs:Nat->Po F)(U:List (List Int))(J:Nat->Po F->Prop):Prop where
 nd:U.Nodup
 ok:∀t∈U,TmOk m t
 b:U.length<=1000000
 f:∀t,φ t≠0->t∈U
 cl:∀t∈U,∀i l,Ld rk (gs i) l->goesI l t=true->∀u,gs i u≠0->addT (subT t l) u∈U
 gl:∀i t,Lim n 8900 (gs i t)
 j0:J 0 φ
 jl:∀s lf,s<=U.length->J s lf->∀t,Lim n 8900 (lf t)
 js:∀s lf,s < U.length->J s lf->J (s + 1) lf
 jr:∀s lf t,s < U.length->J s lf->J (s + 1) (setP lf t 0)
 jq:∀s lf t i l x,s < U.length->J s lf->t∈U->lf t≠0->Ld rk (gs i) l->goesI l t=true->x * gs i l=lf t->Lim n 8900 x/\(∀u,Lim n 8900 (x * gs i u))/\J (s + 1) (λz=>lf z - x * sh (subT t l) (gs i) z)
/-- where the things of a division lie -/
structure DvC where
 r:Addr
 f:Addr
 b:Addr
 x:Addr
 pl:Addr
 ql:Addr
 rd:Addr
 la:Addr
 wx:Addr
 kn:Addr
 qq:Addr
 qds:List Addr
/-- how it stands in the midst -/
structure DvS{F:Type}[Lean.Grind.Field F](CL CWt:Addr)(C:DvC)(g:RgD)(k:Nat)(φ : Po F)(gs:Nat->Po F)(lds:List (Nat×List Int))(U:List (List Int))(J:Nat->Po F->Prop)(H0 H:Hp)(ks us Dn:List (List Int))(q:Nat->Po F)(S:Nat->List (List Int))(ρ lf:Po F)(rvs lvs:List (List Key×V)):Prop where
 sm:Same H0 H
 le:LeA CL H C.x C.pl lds
 qt:Qts g.n g.m H C.ql C.qds q
 rst:H C.rd=some (.dT rvs)
 rp:PF g.n g.m H rvs ρ
 lft:H C.la=some (.dT lvs)
 lp:PF g.n g.m H lvs lf
 wa:Wa CWt g.rk H C.wx g.po C.kn C.qq ks us
 dv:DvI g.rk g.m k φ gs lds U us Dn q S ρ lf
 km:∀z,z∈ks↔z∈us\/z∈Dn
 j:J Dn.length lf
theorem DvS.same{F:Type}[Lean.Grind.Field F]{CL CWt:Addr}{C:DvC}{g:RgD}{k:Nat}{φ : Po F}{gs:Nat->Po F}{lds:List (Nat×List Int)}{U:List (List Int)}{J:Nat->Po F->Prop}{H0 H H':Hp}{ks us Dn:List (List Int)}{q:Nat->Po F}{S:Nat->List (List Int)}{ρ lf:Po F}{rvs lvs:List (List Key×V)}(h:DvS CL CWt C g k φ gs lds U J H0 H ks us Dn q S ρ lf rvs lvs)(e:Same H H'):DvS CL CWt C g k φ gs lds U J H0 H' ks us Dn q S ρ lf rvs lvs:=
 ⟨h.sm.trans e,h.le.keep (.of e) (λo=>e _ o),h.qt.keep (.of e) (λo=>e _ o) (λ_ _ o=>e _ o),e _ _ h.rst,h.rp.same e,e _ _ h.lft,h.lp.same e,h.wa.same e,h.dv,h.km,h.j⟩
def DvW{F:Type}[Lean.Grind.Field F](CL CWt:Addr)(C:DvC)(g:RgD)(k:Nat)(φ : Po F)(gs:Nat->Po F)(lds:List (Nat×List Int))(U:List (List Int))(J:Nat->Po F->Prop)(H0:Hp)(mm:Nat)(σ : St)(H:Hp):Prop:=∃(v8 v9 v10 v11 v12 v13:Option V) (ks us Dn:List (List Int)) (q:Nat->Po F) (S:Nat->List (List Int)) (ρ lf:Po F) (rvs lvs:List (List Key×V)),mm=U.length - Dn.length/\σ = [some (.ref C.r),some (.ref C.f),some (.ref C.b),some (.ref C.x),some (.ref C.ql),some (.ref C.rd),some (.ref C.la),some (.ref C.wx),v8,v9,v10,v11,v12,v13]/\DvS CL CWt C g k φ gs lds U J H0 H ks us Dn q S ρ lf rvs lvs
theorem zv1{pl:Addr}(x:Str)(h1:¬x = "pairs"):([("pairs",V.ref pl)]:List (Str×V)).lookup x=none:=by
 have e:∀y:Str,¬x=y->(x == y)=false:=λy h=>by
  cases q:(x == y) with
  | true=>exact absurd (eq_of_beq q) h
  | false=>rfl
 simp only[List.lookup,e _ h1]
theorem zrr{α : Type}{l:List α}(h:l≠[]):∃a t,l=a ++ [t]:=⟨l.dropLast,l.getLast h,(List.dropLast_concat_getLast h).symm⟩
def spDiv(CG CF CR CO CD CT CW:Addr):Sp:=λvs H Q _=>∃(F:Type) (_:Lean.Grind.Field F) (r f b:Addr) (g:RgD) (_:Chr g.n F) (ds:List Addr) (kvss:List (List (List Key×V))) (gs:Nat->Po F) (fvs:List (List Key×V)) (φ : Po F) (U:List (List Int)) (J:Nat->Po F->Prop),vs=[.ref r,.ref f,.ref b]/\RgP CG CF CR CO CD CT CW H r g/\Row g.n g.m H b ds kvss gs/\(∀i,TmB (gs i))/\H f=some (.dT fvs)/\PF g.n g.m H fvs φ/\HDs fvs/\DvH g.n g.m g.rk φ gs U J /\
 ∀H' p ql rd qds q S ρ R lds rvs,Same H H'->H' p=some (.tup [.ref ql,.ref rd])->Qts g.n g.m H' ql qds q->qds.length=ds.length->H' rd=some (.dT rvs)->PF g.n g.m H' rvs ρ->LdsOk g.rk g.m ds.length gs lds->Dvd g.rk g.m ds.length φ gs lds q S ρ R->H rd=none->(∀d∈qds,H d=none)->rd ∉ qds->Q (.ref p) H'
def spBD(CG CF CR CO CD CT CW:Addr):Sp:=λvs H Q _=>∃(F:Type) (_:Lean.Grind.Field F) (r f b:Addr) (g:RgD) (_:Chr g.n F) (ds:List Addr) (kvss:List (List (List Key×V))) (gs:Nat->Po F) (fvs:List (List Key×V)) (φ : Po F) (U:List (List Int)) (J:Nat->Po F->Prop),vs=[.ref r,.ref f,.ref b]/\RgP CG CF CR CO CD CT CW H r g/\Row g.n g.m H b ds kvss gs/\(∀i,TmB (gs i))/\H f=some (.dT fvs)/\PF g.n g.m H fvs φ/\HDs fvs/\DvH g.n g.m g.rk φ gs U J /\
 ∀H' rd q S ρ R lds rvs,Same H H'->H' rd=some (.dT rvs)->PF g.n g.m H' rvs ρ->LdsOk g.rk g.m ds.length gs lds->Dvd g.rk g.m ds.length φ gs lds q S ρ R->H rd=none->Q (.ref rd) H'
def spLPb:Sp:=λvs H Q _=>∃(c:Int),vs=[.int c]/\∀(n:Int) H',Same H H'->Pr n->n<=9973->Q (.int n) H'
def spLRs:Sp:=λvs H Q _=>∃(c:Int),vs=[.int c]/\∀(n:Int) H',Same H H'->(n=0\/Pr n)->n<=9973->Q (.int n) H'
def spGcdB:Sp:=λvs H Q _=>∃(t b:Int),vs=[.int t,.int b]/\0<=b/\(b=0->0<=t)/\Q (.int (gI t b)) H
def spNormB:Sp:=λvs H Q _=>∃(F:Type) (_:Lean.Grind.Field F) (n:Int) (_:Chr n F) (t b:Int),vs=[.int n,.int t,.int b]/\(n=0\/Pr n)/\(n=0->1<=b/\b.natAbs < 2 ^ 8900)/\(n≠0->b=1)/\∀(x:F) v H',x * ic b=ic t->Same H H'->Rep n H' v x->Q v H'
def spPlusB:Sp:=λvs H Q _=>∃(F:Type) (_:Lean.Grind.Field F) (n:Int) (_:Chr n F) (v1 v2:V) (x y:F) (k j:Nat),vs=[.int n,v1,v2]/\(n=0\/Pr n)/\n<=9973/\Rep n H v1 x/\Rep n H v2 y/\Lim n k x/\Lim n j y/\k + j<=8900/\∀v H',Same H H'->Rep n H' v (x + y)->Q v H'
def spTimesB:Sp:=λvs H Q _=>∃(F:Type) (_:Lean.Grind.Field F) (n:Int) (_:Chr n F) (v1 v2:V) (x y:F) (k j:Nat),vs=[.int n,v1,v2]/\(n=0\/Pr n)/\n<=9973/\Rep n H v1 x/\Rep n H v2 y/\Lim n k x/\Lim n j y/\k + j<=8900/\∀v H',Same H H'->Rep n H' v (x * y)->Q v H'
def spNouB(c:Int):Sp:=λvs H Q _=>∃(F:Type) (_:Lean.Grind.Field F) (n:Int) (_:Chr n F),vs=[.int n]/\(n=0\/Pr n)/\∀v H',Same H H'->Rep n H' v (ic c:F)->Q v H'
def spSomeB:Sp:=λvs H Q _=>∃(F:Type) (_:Lean.Grind.Field F) (n:Int) (_:Chr n F) (c:Int),vs=[.int n,.int c]/\(n=0\/Pr n)/\∀(x:F) v H',x≠0->Lim n 6 x->Same H H'->Rep n H' v x->Q v H'
theorem zka{n:Int}(h:n=0\/Pr n)(c:¬0 < n):n=0:=by
 rcases h with z | z
 ·exact z
 ·have:=z.1;omega
/-- a comprehension's turns -/
def CGo(J:It)(H1:Hp)(D:Addr)(g:TG)(tc:TT)(te:TE)(σ0:St)(Q:VK):Prop:=∃W:Nat->Nat->List V->St->Hp->Prop,(∃m,W 0 m [] σ0 (upd H1 D (.lst [])))/\∀i m ys σ' H',W i m ys σ' H'->H' D=some (.lst ys) /\
  ((J.stop i H'/\Q (.ref D) H')\/(J.go i H'/\ys.length < sizeLine/\∀x H2,J.yld i H' x H2->g x σ' H2 λσ2 H3=>tc σ2 H3 λb H4=>
   if b=true then te σ2 H4 λv H5=>H5 D=some (.lst ys)/\∃m',m' < m/\W (i + 1) m' (ys ++ [v]) σ2 (upd H5 D (.lst (ys ++ [v])))
   else ∃m',m' < m/\W (i + 1) m' ys σ2 H4))
theorem zkz{mp:List (Option Nat)}{wi:TI}{g:TG}{tc:TT}{te:TE}{σ : St}{H:Hp}{Q:VK}(h:wi σ H λJ H1=>∀D,H1 D=none->CGo J H1 D g tc te (st0 mp σ) Q):tComp mp wi g tc te σ H Q:=by unfold tComp;exact h
theorem zm0{J:It}{H1:Hp}{n:Nat}{P:Nat->V->Hp->Prop}{g:TG}{tc:TT}{te:TE}{Q:VK}{σ0:St}{D:Addr}(S:Walk J H1 n P)(hD:H1 D=none)(hn:n<=sizeLine)(Sv:St->Prop)(p:Nat->Bool)(F:Nat->V->Hp->Prop)
  (monoS:∀i v H H',Same H H'->F i v H->F i v H') (monoU:∀i v H ys ys',H D=some (.lst ys)->F i v H->F i v (upd H D (.lst ys'))) (h0:Sv σ0)
  (step:∀i x σ' H2,i < n->Sv σ'->Same H1 H2->P i x H2->(∃ys,H2 D=some (.lst ys))->∀(Ny:V->St->Hp->Prop) (Nn:St->Hp->Prop),(∀v σ2 H5,Sv σ2->Same H2 H5->F i v H5->p i=true->Ny v σ2 H5)->(∀σ2 H4,Sv σ2->Same H2 H4->p i=false->Nn σ2 H4) ->
   g x σ' H2 λσ2 H3=>tc σ2 H3 λb H4=>if b=true then te σ2 H4 λv H5=>Ny v σ2 H5 else Nn σ2 H4)
  (hQ:∀H' ys,Same H1 H'->H' D=some (.lst ys)->Paired (λi v=>F i v H') ((List.range n).filter p) ys->Q (.ref D) H'):CGo J H1 D g tc te σ0 Q:=zqi S hD hn Sv p F monoS monoU h0 step hQ
theorem u70{k:Nat}{A:Around}(h:Room k A):A.units + 70 < cLine:=by have:=h.un;omega
theorem ztq{A:Nat->Addr->Prop}{n:Nat}{ys:List V}(h:Paired (λi v=>∃d,v=V.ref d/\A i d) (List.range n) ys):∃ds:List Addr,ys=ds.map V.ref/\ds.length=n/\∀i d,ds[i]? = some d->A i d:=by
 have key:∀{l:List Nat} {ys:List V},Paired (λi v=>∃d,v=V.ref d/\A i d) l ys->∃ds:List Addr,ys=ds.map V.ref:=fun{l ys} h=>by
  induction h with
  | nil=>exact⟨[],rfl⟩
  | cons r _ ih=>obtain⟨d,e,_⟩:=r;obtain⟨ds,q⟩:=ih;exact⟨d :: ds,by rw[List.map_cons,e,q]⟩
 obtain⟨ds,e⟩:=key h
 have lh:=Paired.length h
 rw[List.length_range,e,List.length_map]at lh
 refine⟨ds,e,lh.symm,λi d hd => ?_⟩
 have hv:ys[i]? = some (.ref d):=by rw[e,List.getElem?_map,hd];rfl
 obtain⟨j,hj,d',ed,q⟩:=pget h hv
 have hi:i < n:=by rw[lh];exact(List.getElem?_eq_some_iff.mp hd).1
 rw[List.getElem?_range hi]at hj
 injection hj with hj;subst hj
 injection ed with ed;subst ed
 exact q
theorem zqs{n:Int}(h2:2<=n)(hn:n<=9973)(h:∀k:Fin 98,((k.val:Int) + 2) * ((k.val:Int) + 2)<=n->Int.fmod n ((k.val:Int) + 2)≠0):Pr n:=by
 refine⟨h2,λe h1 hq => ?_⟩
 have s:=small h1 hq hn
 have q:=h ⟨(e - 2).toNat,by omega⟩
 have ee:((((⟨(e - 2).toNat,by omega⟩:Fin 98).val:Nat):Int)) + 2=e:=by
  show ((e - 2).toNat:Int) + 2=e
  omega
 rw[ee]at q
 exact q hq
def spWhole:Sp:=λvs H Q _=>∃(i:Int),vs=[.int i]/\Q (.bl true) H
def spIsN:Sp:=λvs H Q _=>∃(F:Type) (_:Lean.Grind.Field F) (n:Int) (_:Chr n F) (v:V) (x:F),vs=[.int n,v]/\(n=0\/Pr n)/\Rep n H v x/\x≠0/\Q (.bl true) H
def spIsP:Sp:=λvs H Q _=>∃(F:Type) (_:Lean.Grind.Field F) (n:Int) (_:Chr n F) (m:Nat) (d:Addr) (kvs:List (List Key×V)) (φ : Po F),vs=[.int n,.int m,.ref d]/\(n=0\/Pr n)/\m<=4/\H d=some (.dT kvs)/\PF n m H kvs φ/\∀H',Same H H'->Q (.bl true) H'
def spArP:Sp:=λvs H Q _=>∃(F:Type) (_:Lean.Grind.Field F) (n:Int) (_:Chr n F) (m:Nat) (l:Addr) (ds:List Addr) (q:Nat->Po F),vs=[.int n,.int m,.int ds.length,.ref l]/\(n=0\/Pr n)/\m<=4/\ds.length<=1000/\Qts n m H l ds q/\∀H',Same H H'->Q (.bl true) H'
def spLOrdB(CO CD CT CW:Addr):Sp:=λvs H Q _=>∃(l:Addr) (kd:Int) (ws:List Int),vs=[.int kd,.ref l]/\0<=kd/\kd < 4/\H l=some (.lst (ws.map V.int))/\ws.length<=100/\Nn ws/\∀p H',Same H H'->AtK CO CD CT CW kd ws H' p->Q (.ref p) H'
/-- rows are copied -/
def spCop:Sp:=λvs H Q _=>∃(b:Addr) (ds:List Addr) (kvss:List (List (List Key×V))),vs=[.ref b]/\H b=some (.lst (ds.map V.ref))/\ds.length=kvss.length/\ds.length<=1000/\(∀(i:Nat) d kvs,ds[i]? = some d->kvss[i]? = some kvs->H d=some (.dT kvs)/\HDs kvs) /\
 ∀(D:Addr) (dh:List Addr) (H':Hp),H D=none->Same H H'->H' D=some (.lst (dh.map V.ref))->dh.length=ds.length->(∀(i:Nat) d kvs,dh[i]? = some d->kvss[i]? = some kvs->H' d=some (.dT kvs))->Q (.ref D) H'
def spAddB:Sp:=λvs H Q _=>∃(F:Type) (_:Lean.Grind.Field F) (n:Int) (_:Chr n F) (m:Nat) (d:Addr) (v:V) (t e:Addr) (kvs fvs:List (List Key×V)) (φ ψ : Po F) (x:F) (l:List Int) (k1 k2 k3:Nat),vs=[.int n,.ref d,v,.ref t,.ref e]/\(n=0\/Pr n)/\n<=9973/\m<=4/\d≠e/\Rep n H v x/\H t=some (.tup (l.map V.int))/\T0 m l/\H d=some (.dT kvs)/\H e=some (.dT fvs)/\PF n m H kvs φ/\PF n m H fvs ψ/\kvs.length + fvs.length < sizeLine/\Lim n k1 x/\(∀t,Lim n k2 (ψ t))/\(∀t,Lim n k3 (φ t))/\k1 + k2 + k3<=8900 /\
 ∀H' kvs',Kp [d] H H'->H' d=some (.dT kvs')->PF n m H' kvs' (λt=>φ t + x * sh l ψ t)->kvs'.length<=kvs.length + fvs.length->Q .non H'
theorem zii(ns:List Int):SeqAt.shaped (.list (ns.map PyData.int))=true:=by
 simp[SeqAt.shaped,PyData.canLay0,PyData.depth,W.ke_canLayAll0,W.ke_depthAll]
def spLFld(CF CR:Addr):Sp:=λvs H Q _=>∃(n:Int),vs=[.int n]/\(n=0\/Pr n)/\n<=9973/\∀pf H',Same H H'->AtN CF CR n H' pf->Q (.ref pf) H'
def spDrw:Sp:=λvs H Q _=>∃(F:Type) (_:Lean.Grind.Field F) (n:Int) (_:Chr n F) (c:Int),vs=[.int n,.int c]/\(n=0\/Pr n)/\∀(x:F) v H',Lim n 6 x->Same H H'->Rep n H' v x->Q v H'
/-- a list of numbers -/
structure NL{F:Type}[Lean.Grind.Field F](n:Int)(H:Hp)(l:Addr)(ys:List V)(xs:List F):Prop where
 at_:H l=some (.lst ys)
 len:ys.length=xs.length
 rep:∀(i:Nat) v,ys[i]? = some v->Rep n H v (xs.getD i 0)
theorem NL.same{F:Type}[Lean.Grind.Field F]{n:Int}{H H':Hp}{l:Addr}{ys:List V}{xs:List F}(h:NL n H l ys xs)(e:Same H H'):NL n H' l ys xs:=⟨e _ _ h.at_,h.len,λi v hv=>(h.rep i v hv).same e⟩
def spByP:Sp:=λvs H Q _=>∃(F:Type) (_:Lean.Grind.Field F) (n:Int) (_:Chr n F) (l:Addr) (ys:List V) (xs:List F),vs=[.int n,.ref l]/\(n=0\/Pr n)/\NL n H l ys xs/\xs.length<=30/\∀d H' kvs,H d=none->Same H H'->H' d=some (.dT kvs)->PF n 1 H' kvs (byP xs)->HDs kvs->Q (.ref d) H'
def spDvr:Sp:=λvs H Q _=>∃(F:Type) (_:Lean.Grind.Field F) (n:Int) (_:Chr n F) (v1 v2:V) (a s:F),vs=[.int n,v1,v2]/\(n=0\/Pr n)/\n<=9973/\Rep n H v1 a/\Rep n H v2 s/\Lim n 6 a/\Lim n 6 s/\∀d H' kvs,H d=none->Same H H'->H' d=some (.dT kvs)->PF n 1 H' kvs (byP [-(a * s),a])->HDs kvs->Q (.ref d) H'
/-- a comprehension that makes a new dict for each turn of a walk -/
theorem zmz{J:It}{N:Nat}{P:Nat->V->Hp->Prop}{mp:List (Option Nat)}{wi:TI}{σ : St}{H:Hp}{Q:VK}(S:Walk J H N P)(hl:N<=1000)(hwi:∀R:It->Hp->Prop,R J H->wi σ H R)(hst:∃v,st0 mp σ = [v])
  (hQ:∀D H' (ds:List Addr),H D=none->Same H H'->H' D=some (.lst (ds.map V.ref))->ds.length=N->ds.Nodup->(∀d∈ds,H d=none/\H' d=some (.dT [])/\d≠D)->Q (.ref D) H'):tComp mp wi (gName 0) tYes tDNewT σ H Q:=by
 unfold tComp
 refine hwi _ λD hD => ?_
 refine⟨λi m ys σ' H'=>m=N - i/\i<=N/\(∃v,σ'=[v])/\Same H H'/\H' D=some (.lst ys)/\∃ds:List Addr,ys=ds.map V.ref/\ds.length=i/\ds.Nodup/\∀d∈ds,H d=none/\H' d=some (.dT [])/\d≠D,⟨N,rfl,Nat.zero_le _,hst,Same.upd hD,zaf,[],rfl,rfl,List.nodup_nil,λd hd=>by cases hd⟩,?_⟩
 rintro i m ys σ' H' ⟨rfl,hi,⟨v,rfl⟩,hS,hL,ds,rfl,ld,nd,hd⟩
 refine⟨hL,?_⟩
 by_cases hlt:i < N
 ·refine .inr ⟨S.go i H' hS hlt,Nat.lt_of_le_of_lt (show _<=1000 by rw[List.length_map];omega) (by rw[sizeLine_eq];decide),λx H2 y => ?_⟩
  obtain⟨e2,_⟩:=S.yld i H' x H2 hS hlt y
  unfold gName tYes
  dsimp only
  rw[if_pos rfl]
  intro p np
  have pD:p≠D:=λz=>by rw[z,e2 _ _ hL]at np;cases np
  have e3:Same H2 (upd H2 p (.dT [])):=Same.upd np
  have hL3:=e3 _ _ (e2 _ _ hL)
  refine⟨hL3,N - (i + 1),by omega,rfl,hlt,⟨_,rfl⟩,((hS.trans e2).trans e3).updR hD,zaf,ds ++ [p],by rw[List.map_append];rfl,by simp[ld],?_,λd hd' => ?_⟩
  ·refine List.nodup_append.mpr ⟨nd,by simp,λa ha c hc e => ?_⟩
   rw[List.mem_singleton.mp hc]at e
   have:=e2 _ _ (hd a ha).2.1
   rw[e,np]at this;cases this
  ·rcases List.mem_append.mp hd' with z | z
   ·obtain⟨h1,h2,h3⟩:=hd d z
    exact⟨h1,by rw[zao h3];exact e3 _ _ (e2 _ _ h2),h3⟩
   ·rw[List.mem_singleton.mp z]
    refine⟨?_,by rw[zao pD];exact zaf,pD⟩
    exact(hS.trans e2).free np
 ·have e:i=N:=by omega
  subst e
  exact .inl ⟨S.stop H' hS,hQ D H' ds hD hS hL ld nd hd⟩
/-- bounds of a division by one divisor -/
theorem dvh16{F:Type}[Lean.Grind.Field F]{n:Int}[Chr n F]{rk:List Int->List Int}(O:OrdM rk 1){gs:Nat->Po F}{p:Nat}{c a:F}(h:Lin1 gs p c a)(hg:∀i,Cm n 27 (gs i)){xs:List F}(hx:∀x∈xs,Lim n 6 x)(l30:xs.length<=30):DvH n 1 rk (byP xs) gs (rng1 30) (λs lf=>Cm n (181 + 28 * s) lf) where
 nd:=zro 30
 ok:=λt ht=>by
  obtain⟨i,hi,rfl⟩:=mem_rng.mp ht
  exact⟨t0_1 i,λx hx=>by rw[List.mem_singleton.mp hx];exact Int.lt_of_lt_of_le (show (i:Int) < 30 by omega) (by decide)⟩
 b:=by rw[zh4];decide
 f:=zjr l30
 cl:=λt ht i l hl g u hu=>by
  obtain⟨rfl,_,c',a',nz,e⟩:=h.ld O hl
  rw[e]at hu
  obtain⟨j,hj,rfl⟩:=mem_rng.mp ht
  have g1:=goes1 1 j
  have h1:1<=j:=by
   have:goesI [((1:Nat):Int)] [(j:Int)]=true:=g
   rw[g1]at this
   exact of_decide_eq_true this
  rcases zna hu with rfl | rfl
  ·exact mem_rng.mpr ⟨j - 1,by omega,by show [(j:Int) - 1 + 0]=_;congr 1;omega⟩
  ·exact mem_rng.mpr ⟨j,hj,by show [(j:Int) - 1 + 1]=_;congr 1;omega⟩
 gl:=λi t=>((hg i).lim t).up (by decide)
 j0:=Cm.byP hx (by omega)
 jl:=λs lf hs hj t=>(hj.lim t).up (by rw[zh4]at hs;omega)
 js:=λs lf hs hj=>hj.up (by omega)
 jr:=λs lf t hs hj=>(hj.set0 t).up (by omega)
 jq:=λs lf t i l x hs hj ht nz hl g e=>by
  rw[zh4]at hs
  obtain⟨l1,l2,l3⟩:=hj.step (hg i) (t:=t) (l:=l) (o:=subT t l) hl.1 e
  exact⟨l1.up (by omega),λu=>(l2 u).up (by omega),l3.up (by omega)⟩
theorem zt2(xs:List V):cutV xs none (some 1)=xs.take 1:=by
 unfold cutV
 rw[HT.sIx_none,show (some (1:Int))=some ((1:Nat):Int) from rfl,HT.sIx_nat,List.drop_zero,Nat.sub_zero]
 rcases Nat.lt_or_ge 0 xs.length with c | c
 ·rw[Nat.min_eq_left (by omega)]
 ·have:xs=[]:=List.eq_nil_of_length_eq_zero (by omega)
  rw[this];rfl
theorem zv6(xs:List V):cutV xs (some 1) none=xs.drop 1:=by
 unfold cutV
 rw[HT.sIx_none,show (some (1:Int))=some ((1:Nat):Int) from rfl,HT.sIx_nat]
 rcases Nat.lt_or_ge 0 xs.length with c | c
 ·rw[Nat.min_eq_left (by omega),List.take_of_length_le (by rw[List.length_drop];omega)]
 ·have:xs=[]:=List.eq_nil_of_length_eq_zero (by omega)
  rw[this];rfl
theorem zvd(ns:List Int):∃ms:List Int,cutV (ns.map V.int) (some 4) (some 34)=ms.map V.int/\ms.length<=30:=by
 unfold cutV
 rw[show (some (4:Int))=some ((4:Nat):Int) from rfl,show (some (34:Int))=some ((34:Nat):Int) from rfl,HT.sIx_nat,HT.sIx_nat,<- List.map_drop,<- List.map_take]
 exact⟨_,rfl,by rw[List.length_take];omega⟩
section
variable{F:Type}[Lean.Grind.Field F]{n:Int}
theorem NL.take1{H:Hp}{l p:Addr}{ys:List V}{xs:List F}(h:NL n H l ys xs)(hp:H p=some (.lst (ys.take 1))):NL n H p (ys.take 1) (xs.take 1):=by
 refine⟨hp,by rw[List.length_take,List.length_take,h.len],λi v hv => ?_⟩
 match i with
 | 0=>
  rw[List.getElem?_take_of_lt (by decide)]at hv
  have:=h.rep 0 v hv
  have e:(xs.take 1).getD 0 0=xs.getD 0 0:=by cases xs <;> rfl
  rw[e];exact this
 | i + 1=>
  rw[List.getElem?_take]at hv
  simp at hv
theorem NL.drop1{H:Hp}{l p:Addr}{ys:List V}{xs:List F}(h:NL n H l ys xs)(hp:H p=some (.lst (ys.drop 1))):NL n H p (ys.drop 1) (xs.drop 1):=by
 refine⟨hp,by rw[List.length_drop,List.length_drop,h.len],λi v hv => ?_⟩
 rw[List.getElem?_drop]at hv
 have:=h.rep _ v hv
 have e:(xs.drop 1).getD i 0=xs.getD (1 + i) 0:=by simp[List.getD,List.getElem?_drop,Nat.add_comm]
 rw[e];exact this
theorem NL.cons{H:Hp}{l p:Addr}{ys:List V}{xs:List F}{v:V}{x:F}(h:NL n H l ys xs)(hv:Rep n H v x)(hp:H p=some (.lst (v :: ys))):NL n H p (v :: ys) (x :: xs):=by
 refine⟨hp,by rw[List.length_cons,List.length_cons,h.len],λi u hu => ?_⟩
 match i with
 | 0=>cases hu;exact hv
 | i + 1=>exact h.rep i u hu
theorem zrz{H:Hp}{k:Nat}{l:List Nat}{ys:List V}(h:Paired (fun(_:Nat) v=>∃x:F,Rep n H v x/\Lim n k x) l ys):∃xs:List F,ys.length=xs.length/\(∀(i:Nat) v,ys[i]? = some v->Rep n H v (xs.getD i 0))/\∀x∈xs,Lim n k x:=by
 induction h with
 | nil=>exact⟨[],rfl,(λi v hv=>by simp at hv),(λx hx=>by cases hx)⟩
 | cons r _ ih=>
  obtain⟨x,h1,h2⟩:=r
  obtain⟨xs,q1,q2,q3⟩:=ih
  refine⟨x :: xs,by rw[List.length_cons,List.length_cons,q1],λi v hv => ?_,λy hy => ?_⟩
  ·match i with
   | 0=>cases hv;exact h1
   | i + 1=>exact q2 i v hv
  ·rcases List.mem_cons.mp hy with rfl | hy
   ·exact h2
   ·exact q3 y hy
/-- the row and what it holds -/
structure RC(n:Int)(H:Hp)(ds:List Addr)(kvss:List (List (List Key×V)))(gs:Nat->Po F):Prop where
 len:ds.length=kvss.length
 row:∀(i:Nat) (d:Addr) kvs,ds[i]? = some d->kvss[i]? = some kvs->H d=some (.dT kvs)/\PF n 1 H kvs (gs i)/\HDs kvs
 out:∀i,ds.length<=i->∀t,gs i t=0
theorem RC.keep{H H':Hp}{ds:List Addr}{kvss:List (List (List Key×V))}{gs:Nat->Po F}(h:RC n H ds kvss gs)(e:Fix H H')(k:∀d∈ds,∀o,H d=some o->H' d=some o):RC n H' ds kvss gs:=
 ⟨h.len,λi d kvs h1 h2=>by
  obtain⟨a,b,c⟩:=h.row i d kvs h1 h2
  exact⟨k d (List.mem_of_getElem? h1) _ a,b.fix e,c⟩,h.out⟩
theorem RC.same{H H':Hp}{ds:List Addr}{kvss:List (List (List Key×V))}{gs:Nat->Po F}(h:RC n H ds kvss gs)(e:Same H H'):RC n H' ds kvss gs:=h.keep (.of e) λd _ o=>e d o
theorem RC.none{H:Hp}{ds:List Addr}(h:∀d∈ds,H d=some (.dT [])):RC n H ds (ds.map λ_=>[]) (λ_ _=>(0:F)):=by
 refine⟨by rw[List.length_map],λi d kvs h1 h2 => ?_,λ_ _ _=>rfl⟩
 rw[List.getElem?_map,h1]at h2
 cases h2
 exact⟨h d (List.mem_of_getElem? h1),PF.nil,[],rfl,List.nodup_nil⟩
theorem RC.push{H:Hp}{ds:List Addr}{kvss:List (List (List Key×V))}{gs:Nat->Po F}(h:RC n H ds kvss gs){d:Addr}{kvs:List (List Key×V)}{φ : Po F}(hd:H d=some (.dT kvs))(pf:PF n 1 H kvs φ)(hs:HDs kvs):RC n H (ds ++ [d]) (kvss ++ [kvs]) (λi=>if i=ds.length then φ else gs i):=by
 refine⟨by rw[List.length_append,List.length_append,h.len];rfl,λi d' kvs' h1 h2 => ?_,λi hi t => ?_⟩
 ·rcases Nat.lt_trichotomy i ds.length with c | c | c
  ·rw[List.getElem?_append_left c]at h1
   rw[List.getElem?_append_left (by rw[<- h.len];exact c)]at h2
   rw[if_neg (by omega)]
   exact h.row i d' kvs' h1 h2
  ·rw[c,List.getElem?_concat_length]at h1
   rw[c,h.len,List.getElem?_concat_length]at h2
   cases h1;cases h2
   rw[if_pos c]
   exact⟨hd,pf,hs⟩
  ·rw[List.getElem?_eq_none (by rw[List.length_append];simp;omega)]at h1;cases h1
 ·rw[List.length_append]at hi
  have:([d]:List Addr).length=1:=rfl
  rw[if_neg (by omega)]
  exact h.out i (by omega) t
theorem RC.toRow{H:Hp}{b:Addr}{ds:List Addr}{kvss:List (List (List Key×V))}{gs:Nat->Po F}(h:RC n H ds kvss gs)(hb:H b=some (.lst (ds.map V.ref)))(l:ds.length<=1000):Row n 1 H b ds kvss gs:=
 ⟨hb,h.len,λi d hd=>by
  have li:i < kvss.length:=by rw[<- h.len];exact za1 hd
  obtain⟨a,b,_⟩:=h.row i d _ hd (List.getElem?_eq_getElem li)
  exact⟨_,List.getElem?_eq_getElem li,a,b⟩,h.out,l⟩
theorem Lin1.first{p:Nat}{c a:F}(nz:a≠0):Lin1 (λi=>if i=p then byP [c,a] else λ_=>0) p c a:=
 ⟨λi hi t=>by rw[if_neg (by omega)],if_pos rfl,nz,λi=>by
  by_cases q:i=p
  ·exact .inr ⟨c,a,nz,if_pos q⟩
  ·exact .inl λt=>by rw[if_neg q]⟩
theorem Lin1.more{gs:Nat->Po F}{p k:Nat}{c a c' a':F}(h:Lin1 gs p c a)(hk:p < k)(nz:a'≠0):Lin1 (λi=>if i=k then byP [c',a'] else gs i) p c a:=
 ⟨λi hi t=>by rw[if_neg (by omega)];exact h.lo i hi t,by rw[if_neg (by omega)];exact h.at_,h.nz,λi=>by
  by_cases q:i=k
  ·exact .inr ⟨c',a',nz,if_pos q⟩
  ·rw[if_neg q];exact h.hi i⟩
theorem Lin1.tmb{gs:Nat->Po F}{p:Nat}{c a:F}(h:Lin1 gs p c a)(i:Nat):TmB (gs i):=λt ht x hx=>by
 rcases h.hi i with z | ⟨c',a',_,e⟩
 ·exact absurd (z t) ht
 ·rw[e]at ht
  rcases zna ht with rfl | rfl
  ·rw[List.mem_singleton.mp hx];decide
  ·rw[List.mem_singleton.mp hx];decide
theorem zrh[Chr n F]{a s:F}(ha:Lim n 6 a)(hs:Lim n 6 s):Cm n 27 (byP [-(a * s),a]):=Cm.byP (k:=13) (λx hx=>by
 rcases List.mem_cons.mp hx with rfl | hx
 ·exact(ha.mul hs).neg.up (by decide)
 ·rw[List.mem_singleton.mp hx];exact ha.up (by decide)) (by show 13 * 2 + 1<=27;decide)
theorem zvl{p:Nat}{φ : Po F}{gs:Nat->Po F}(h:Cm n 27 φ)(h':∀i,Cm n 27 (gs i))(i:Nat):Cm n 27 (if i=p then φ else gs i):=by
 by_cases c:i=p
 ·rw[if_pos c];exact h
 ·rw[if_neg c];exact h' i
/-- dicts that hold the same are equal -/
theorem zfg[Chr n F]{K:W.Frag}{m:Nat}{H:Hp}{a b:Addr}{ka kb:List (List Key×V)}{φ ψ : Po F}(ha:H a=some (.dT ka))(hb:H b=some (.dT kb))(pa:PF n m H ka φ)(pb:PF n m H kb ψ)(neg:Bool){Q:VK}(e:∀t,φ t = ψ t)(q:Q (.bl (!neg)) H):rEqDT K neg (.ref a) (.ref b) H Q:=by
 obtain⟨da,h1,h2,h3,h4⟩:=pa.kds (K:=K)
 obtain⟨db,k1,k2,k3,k4⟩:=pb.kds (K:=K)
 refine⟨a,b,ka,kb,da,db,rfl,rfl,.inl ha,.inl hb,h1,k1,h2,k2,?_⟩
 rw[(pa.eq pb h3 k3 h4 k4).mpr e]
 cases neg <;> exact q
theorem ztv[Chr n F]{K:W.Frag}{m:Nat}{H:Hp}{a b:Addr}{ka kb:List (List Key×V)}{φ ψ : Po F}(ha:H a=some (.dT ka))(hb:H b=some (.dT kb))(pa:PF n m H ka φ)(pb:PF n m H kb ψ)(e:∀t,φ t = ψ t):DEq K H a b true:=by
 obtain⟨da,h1,h2,h3,h4⟩:=pa.kds (K:=K)
 obtain⟨db,k1,k2,k3,k4⟩:=pb.kds (K:=K)
 exact⟨ka,kb,da,db,.inl ha,.inl hb,h1,k1,h2,k2,(pa.eq pb h3 k3 h4 k4).mpr e,λ_=>rfl⟩
/-- rows that hold the same are equal -/
theorem zoe[Chr n F]{K:W.Frag}{H:Hp}{l b:Addr}{as bs:List Addr}{kvss:List (List (List Key×V))}{gs:Nat->Po F}(hl:H l=some (.lst (as.map V.ref)))(hb:H b=some (.lst (bs.map V.ref)))(ra:RC n H as kvss gs)(rb:RC n H bs kvss gs)(neg:Bool){Q:VK}(q:Q (.bl (!neg)) H):rEqLD K neg (.ref l) (.ref b) H Q:=by
 refine⟨l,b,as,bs,λ_=>true,rfl,rfl,hl,hb,λi p p' h1 h2 => ?_,?_⟩
 ·have li:i < kvss.length:=by rw[<- ra.len];exact za1 h1
  obtain⟨a1,a2,_⟩:=ra.row i p _ h1 (List.getElem?_eq_getElem li)
  obtain⟨b1,b2,_⟩:=rb.row i p' _ h2 (List.getElem?_eq_getElem li)
  exact ztv a1 b1 a2 b2 λ_=>rfl
 ·have e:(decide (as.length=bs.length) && (List.range as.length).all λ_=>true)=true:=by
   rw[decide_eq_true (ra.len.trans rb.len.symm)];simp
  rw[e]
  cases neg <;> exact q
theorem zp2(s:F){xs:List F}{i:Nat}(hi:i < xs.length):hor s (xs.drop (xs.length - (i + 1)))=((hor s (xs.drop (xs.length - i))).headD 0 * s + xs.getD (xs.length - 1 - i) 0) :: hor s (xs.drop (xs.length - i)):=by
 have l:xs.length - (i + 1) < xs.length:=by omega
 rw[List.drop_eq_getElem_cons l,show xs.length - (i + 1) + 1=xs.length - i by omega]
 show (_ * s + _) :: _=_
 congr 2
 rw[show xs.length - 1 - i=xs.length - (i + 1) by omega]
 simp[List.getD,l]
theorem RC.mem{H:Hp}{ds:List Addr}{kvss:List (List (List Key×V))}{gs:Nat->Po F}(h:RC n H ds kvss gs){d:Addr}(hd:d∈ds):∃kvs,H d=some (.dT kvs):=by
 obtain⟨i,hi⟩:=List.mem_iff_getElem?.mp hd
 have li:i < kvss.length:=by rw[<- h.len];exact za1 hi
 exact⟨_,(h.row i d _ hi (List.getElem?_eq_getElem li)).1⟩
theorem RC.copy{H:Hp}{ds dh:List Addr}{kvss:List (List (List Key×V))}{gs:Nat->Po F}(h:RC n H ds kvss gs)(l:dh.length=ds.length)(hh:∀(i:Nat) d kvs,dh[i]? = some d->kvss[i]? = some kvs->H d=some (.dT kvs)):RC n H dh kvss gs:=
 ⟨l.trans h.len,λi d kvs h1 h2=>by
  have li:i < ds.length:=by rw[<- l];exact za1 h1
  obtain⟨_,b,c⟩:=h.row i _ kvs (List.getElem?_eq_getElem li) h2
  exact⟨hh i d kvs h1 h2,b,c⟩,λi hi=>h.out i (by omega)⟩
theorem zun[Chr n F]{s:F}(hs:Lim n 6 s){xs:List F}(hx:∀x∈xs,Lim n 6 x):Lim n (13 * xs.length + 1) ((hor s xs).headD 0):=by
 have ih:=zjx hs hx
 cases q:hor s xs with
 | nil=>exact Lim.zero (by omega)
 | cons a l=>exact ih a (by rw[q];exact .head _)
theorem zum{a:F}(az:a≠0)(hs:List F)(j:Nat):((hs.drop 1).map (λh=>a⁻¹ * h)).getD j 0 * a=hs.getD (j + 1) 0:=by
 simp only[List.getD,List.getElem?_map,List.getElem?_drop,Nat.add_comm 1 j]
 cases hs[j + 1]? with
 | none=>show (0:F) * a=0;grind
 | some h=>show a⁻¹ * h * a=h;grind
theorem zux[Chr n F]{a s:F}(az:a≠0)(la:Lim n 6 a)(ls:Lim n 6 s){xs:List F}(hx:∀x∈xs,Lim n 6 x)(l30:xs.length<=30)(t:List Int):Lim n 400 (byP (((hor s xs).drop 1).map (λh=>a⁻¹ * h)) t):=by
 by_cases c:byP (((hor s xs).drop 1).map (λh=>a⁻¹ * h)) t=0
 ·rw[c];exact Lim.zero (by decide)
 ·obtain⟨i,rfl,hi,_⟩:=zdx c
  rw[ze9]
  simp only[List.getD,List.getElem?_map]
  cases q:((hor s xs).drop 1)[i]? with
  | none=>exact Lim.zero (by decide)
  | some h=>
   have hm:h∈hor s xs:=List.mem_of_mem_drop (List.mem_of_getElem? q)
   exact(((la.inv az (show a⁻¹ * a=1 by grind)).mul (zjx ls hx h hm))).up (by omega)
/-- what a division by these divisors gives -/
theorem uniq16{rk:List Int->List Int}(O:OrdM rk 1){gs:Nat->Po F}{p k:Nat}{a s:F}(h:Lin1 gs p (-(a * s)) a){lds:List (Nat×List Int)}(L:LdsOk rk 1 k gs lds)(hp:p < k){xs:List F}{q:Nat->Po F}{S:Nat->List (List Int)}{ρ : Po F}{R:List (List Int)}(D:Dvd rk 1 k (byP xs) gs lds q S ρ R) :
  (∀i o,q i o=(if i=p then byP (((hor s xs).drop 1).map (λh=>a⁻¹ * h)) else λ_=>0) o)/\∀t,ρ t=byP ((hor s xs).take 1) t:=
 Dvd.one O L D (h.dvd O L hp rfl (zqx s xs) (zum h.nz (hor s xs)))
theorem tot16{a:F}(az:a≠0)(hs:List F)(t:List Int):(0:F) + a * sh [0] (byP ((hs.drop 1).map (λh=>a⁻¹ * h))) t=byP (hs.drop 1) t:=by
 rw[show ([0]:List Int)=zer 1 from rfl,zvt (zrd _)]
 refine(zmc (xs:=hs.drop 1) (φ:=λt=>0 + a * byP ((hs.drop 1).map (λh=>a⁻¹ * h)) t) (λj => ?_) (λt ht => ?_) t).symm
 ·show _=0 + a * byP _ [(j:Int)]
  rw[ze9]
  have:=zum az hs j
  have e:(hs.drop 1).getD j 0=hs.getD (j + 1) 0:=by simp[List.getD,List.getElem?_drop,Nat.add_comm]
  rw[e,<- this];grind
 ·by_cases c:byP ((hs.drop 1).map (λh=>a⁻¹ * h)) t=0
  ·exfalso;apply ht;show (0:F) + a * byP _ t=0;rw[c];grind
  ·obtain⟨j,e,_⟩:=zdx c
   exact⟨j,e⟩
end
def spLaw(K:W.Frag):Sp:=λvs H Q _=>∃(a:Addr) (ns:List Int),vs=[.ref a]/\SqL K H a (ns.map V.int)/\ns.length<=63/\∀H',Q (.bl true) H'
end K6
namespace K6
open PySem L2
open K1 K2 K3 K6 K8 K37 G
section
variable{P:Program}{w:World}{K:W.Frag}{mg:Str->Option Value}{base:Heap}{f:Addr}{fd:FuncData}{zap zab zai zal zae zam zac zad zan:Addr}{zei zc9 zbr zda zdi za0:Addr}{tk_Made:Tok}
local macro_rules | `(tactic| walk_at "sd") => `(tactic| first
 | assumption | (dsimp only;omega) | (dsimp only;decide) | exact⟨by decide,by decide⟩ | exact⟨by decide,by decide,by decide⟩ | exact Or.inl ⟨by decide,by decide⟩ | exact⟨by omega,by omega⟩ | exact Or.inl ⟨by omega,by omega⟩ | exact Or.inr ⟨by decide,by decide⟩ | exact Or.inr ⟨by omega,by omega⟩)
local macro_rules | `(tactic| walk_at "rd") => `(tactic| repeat first
 | refine⟨_,rfl,?_⟩ | refine⟨_,_,rfl,rfl,?_⟩ | refine And.intro rfl ?_ | refine And.intro (by walk_at "sd") ?_ | with_reducible refine iteT ?_ | with_reducible refine iteF ?_ | (apply zu0;assumption;rfl))
local macro_rules | `(tactic| walk_at "clo") => `(tactic| exact h)
theorem scShared:FnScope ["one","other","rest"] ["one","other"] (defScope zbg):=⟨rfl,rfl,rfl,by decide +kernel,rfl,by decide +kernel,by decide +kernel⟩
set_option maxHeartbeats 4000000 in
theorem zl2(F:FunD K "shared_divisor" "shared_divisor" zbg .none f fd)(T:Txt K mg zap zab zai zal zae zam zac zad zan)   : FnOk P w K mg base CX0 1 f fd ["one","other"] spShared:=by
 refine F.okN (k:=0) scShared (λvs H Q E h => ?_) (λcdv A outer s H vs Q E hr h => ?_)
 ·obtain⟨a,b,rfl,_⟩:=h
  rfl
 obtain⟨a,b,rfl,h⟩:=h
 refine⟨_,(zag (zeb PassesOwn.never (zat zid (pv 1) (zak) (nomark _)) (zag (zau (i:=2) scShared.nd rfl (Or.inl rfl) (zaw zgp (pv 0) (pv 1)))
  (zag (zau (i:=0) scShared.nd rfl (Or.inl rfl) (pv 1))
  (zaj (zau (i:=1) scShared.nd rfl (Or.inl rfl) (pv 2))))))
  (zaj (zas (pv 0)))),?_⟩
 obtain⟨ha,hb,k⟩:=h
 refine⟨λm σ H'=>∃(a' b':Int) (v:Option V),m=b'.toNat/\σ = [some (.int a'),some (.int b'),v]/\H'=H/\0<=a'/\0<=b'/\Gc a b a' b',⟨_,_,_,none,rfl,rfl,rfl,K1.start ha hb⟩,?_⟩
 rintro m σ H' ⟨a',b',v,rfl,rfl,rfl,h1,h2,hg⟩
 walk_at "rd"
 refine cNe (λc => ?_) (λc => ?_)
 ·refine⟨λσ' H''=>∃v',σ'=[some (.int b'),some (.int (a'.fmod b')),v']/\H''=H',?_,?_⟩
  ·rintro σ' H'' ⟨v',rfl,rfl⟩
   exact⟨(a'.fmod b').toNat,K1.less (by omega),_,_,v',rfl,rfl,rfl,K1.turn hg h1 (by omega)⟩
  ·refine⟨_,rfl,_,rfl,_,_,rfl,rfl,c,?_⟩
   walk_at "rd"
   rfl
 ·refine⟨_,rfl,?_⟩
  show Q (.int a') H'
  rw[K1.out hg h1 c]
  exact k
theorem scPrime:FnScope ["number","divisor"] ["number"] (defScope zdu):=⟨rfl,rfl,rfl,by decide +kernel,rfl,by decide +kernel,by decide +kernel⟩
set_option maxHeartbeats 4000000 in
theorem zph(F:FunD K "is_prime" "is_prime" zdu .none f fd)(T:Txt K mg zap zab zai zal zae zam zac zad zan)   : FnOk P w K mg base CX0 1 f fd ["number"] spPrime:=by
 refine F.okN (k:=0) scPrime (λvs H Q E h => ?_) (λcdv A outer s H vs Q E hr h => ?_)
 ·obtain⟨n,rfl,_⟩:=h
  rfl
 obtain⟨n,rfl,h⟩:=h
 refine⟨_,(zag (zbc (zat zg7 (pv 0) (zak) (nomark _)) (zaj (zas (ze5))) zav)
  (zag (zau (i:=1) scPrime.nd rfl (Or.inl rfl) (zak))
  (zag (zeb PassesOwn.never (zat zuo (zaw zhj (pv 1) (pv 1)) (pv 0) (nomark _)) (zag (zbc (zat zed (zaw zgp (pv 0) (pv 1)) (zak) (nomark _)) (zaj (zas (ze5))) zav)
  (zaj (zuk (i:=1) scPrime.nd rfl (Or.inl rfl) (zak) zuc))))
  (zaj (zas (ze5)))))),?_⟩
 obtain⟨hn,k⟩:=h
 walk_at "rd"
 refine cD (λc => ?_) (λc => ?_)
 ·show Q (.bl false) H
  rw[low c]
  exact k
 refine⟨λm σ H'=>∃d:Int,m=(200 - d).toNat/\σ = [some (.int n),some (.int d)]/\H'=H/\2<=d/\d<=101/\NoDiv n d,⟨_,2,rfl,rfl,rfl,K3.start n⟩,?_⟩
 rintro m σ H' ⟨d,rfl,rfl,rfl,h2,h3,hd⟩
 refine⟨_,rfl,_,rfl,_,_,rfl,rfl,.inl (zqj (n:=n) h2 h3),?_⟩
 walk_at "rd"
 refine cD (λq => ?_) (λq => ?_)
 ·refine⟨λσ' H''=>σ'=[some (.int n),some (.int (d + 1))]/\H''=H'/\¬Int.fmod n d=0,?_,?_⟩
  ·rintro σ' H'' ⟨rfl,rfl,nz⟩
   exact⟨(200 - (d + 1)).toNat,K3.less h2 q hn,d + 1,rfl,rfl,rfl,K3.turn hd nz h2 q hn⟩
  ·refine⟨_,rfl,_,rfl,_,_,rfl,rfl,(by show d≠0;omega),?_⟩
   walk_at "rd"
   refine cEq (λz => ?_) (λz => ?_)
   ·show Q (.bl false) H'
    rw[found h2 q z]
    exact k
   ·walk_at "rd"
    exact z
 ·show Q (.bl true) H'
  rw[K3.out hd (by omega) h2 q]
  exact k
theorem scFieldInit:FnScope ["self","prime"] ["self","prime"] (defScope zbo):=⟨rfl,rfl,rfl,by decide +kernel,rfl,by decide +kernel,by decide +kernel⟩
set_option maxHeartbeats 4000000 in
theorem zi2(F:FunD K "__init__" "Field.__init__" zbo .none f fd)(T:Txt K mg zap zab zai zal zae zam zac zad zan)   : FnOk P w K mg base CX0 1 f fd ["self","prime"] (spField K):=by
 refine F.okN (k:=0) scFieldInit (λvs H Q E h => ?_) (λcdv A outer s H vs Q E hr h => ?_)
 ·obtain⟨p,C,dx,v,rfl,_⟩:=h
  rfl
 obtain⟨p,C,dx,v,rfl,h⟩:=h
 refine⟨_,(zaj (zfh (pv 0) (pv 1) rfl)),?_⟩
 obtain⟨hp,hc,ha,k⟩:=h
 exact⟨_,rfl,_,rfl,p,C,dx,[],rfl,hp,hc,ha,(by show 0 < 1000;decide),k⟩
theorem scFracInit:FnScope ["self"] ["self"] (defScope za2):=⟨rfl,rfl,rfl,by decide +kernel,rfl,by decide +kernel,by decide +kernel⟩
set_option maxHeartbeats 4000000 in
theorem zjm(F:FunD K "__init__" "Fractions.__init__" za2 .none f fd)(T:Txt K mg zap zab zai zal zae zam zac zad zan)(q_FieldInit:CCal P w K mg base CX0 1 "Field" "__init__" ["self","prime"] [] (spField K)):FnOk P w K mg base CX0 2 f fd ["self"] (spFracInit zab):=by
 refine F.okN (k:=1) scFracInit (λvs H Q E h => ?_) (λcdv A outer s H vs Q E hr h => ?_)
 ·obtain⟨p,dx,rfl,_⟩:=h
  rfl
 obtain⟨p,dx,rfl,h⟩:=h
 refine⟨_,(zaj (zdo (zu6 q_FieldInit hr pass00 .nil ((zaa (pv 0) (zaa (zak) zah)))))),?_⟩
 obtain⟨hp,k⟩:=h
 exact⟨_,rfl,p,_,dx,_,rfl,hp,T.cl_Fractions,T.na_Fractions_prime,k⟩
theorem scNought:FnScope ["self"] ["self"] (defScope zba):=⟨rfl,rfl,rfl,by decide +kernel,rfl,by decide +kernel,by decide +kernel⟩
set_option maxHeartbeats 4000000 in
theorem zml(F:FunD K "nought" "Fractions.nought" zba .none f fd)(T:Txt K mg zap zab zai zal zae zam zac zad zan)   : FnOk P w K mg base CX0 1 f fd ["self"] (spPair 0 1):=by
 refine F.okN (k:=0) scNought (λvs H Q E h => ?_) (λcdv A outer s H vs Q E hr h => ?_)
 ·obtain⟨p,rfl,_⟩:=h
  rfl
 obtain⟨p,rfl,h⟩:=h
 refine⟨_,(zaj (zas (zc6 ((zaa (zak) (zaa (zak) zah)))))),?_⟩
 exact⟨(by show 2<=sizeLine;decide),λr hr'=>h r _ (Same.upd hr') zaf⟩
theorem scOne:FnScope ["self"] ["self"] (defScope zbv):=⟨rfl,rfl,rfl,by decide +kernel,rfl,by decide +kernel,by decide +kernel⟩
set_option maxHeartbeats 4000000 in
theorem zt7(F:FunD K "one" "Fractions.one" zbv .none f fd)(T:Txt K mg zap zab zai zal zae zam zac zad zan)   : FnOk P w K mg base CX0 1 f fd ["self"] (spPair 1 1):=by
 refine F.okN (k:=0) scOne (λvs H Q E h => ?_) (λcdv A outer s H vs Q E hr h => ?_)
 ·obtain⟨p,rfl,_⟩:=h
  rfl
 obtain⟨p,rfl,h⟩:=h
 refine⟨_,(zaj (zas (zc6 ((zaa (zak) (zaa (zak) zah)))))),?_⟩
 exact⟨(by show 2<=sizeLine;decide),λr hr'=>h r _ (Same.upd hr') zaf⟩
theorem scMade:FnScope ["self","top","bottom","divisor"] ["self","top","bottom"] (defScope zbj):=⟨rfl,rfl,rfl,by decide +kernel,rfl,by decide +kernel,by decide +kernel⟩
set_option maxHeartbeats 4000000 in
theorem zr8{dT:Addr}(F:FunD K "made" "Fractions.made" zbj (.ref dT) f fd)(T:Txt K mg zap zab zai zal zae zam zac zad zan)(c_Shared:Cal P w K mg base CX0 1 "shared_divisor" ["one","other"] [] spShared)(x_NoOver:Exc K mg base "NoOver" zbr)  : FnOk P w K mg base (CXe P w) 2 f fd ["self","top","bottom"] (spMade zbr):=by
 refine F.okX (k:=1) scMade (λvs H Q E h => ?_) (λcdv A outer s H vs Q E hr h => ?_)
 ·obtain⟨p,t,b,rfl,_⟩:=h
  rfl
 obtain⟨p,t,b,rfl,h⟩:=h
 refine⟨_,(zag (zbc (zat zed (pv 2) (zak) (nomark _)) (zaj (zi4 x_NoOver rfl rfl zbp ((zaa (zf5) zah)))) zav)
  (zag (zau (i:=3) scMade.nd rfl (Or.inl rfl) (pe_c c_Shared hr pass00 .nil ((zaa (zay ze1 rfl T.b_abs (by kernel_rfl) ((zaa (pv 1) zah))) (zaa (zay ze1 rfl T.b_abs (by kernel_rfl) ((zaa (pv 2) zah))) zah)))))
  (zag (zbc (zat zg7 (pv 2) (zak) (nomark _)) (zaj (zau (i:=3) scMade.nd rfl (Or.inl rfl) (zlh zha (pv 3)))) zav)
  (zaj (zas (zc6 ((zaa (zaw zce (pv 1) (pv 3)) (zaa (zaw zce (pv 2) (pv 3)) zah))))))))),?_⟩
 obtain⟨hb,k⟩:=h
 walk_at "rd"
 refine cEq (λc => ?_) (λc => ?_)
 ·refine⟨(by show 1<=sizeLine;decide),?_⟩
  rcases k with⟨q,_⟩ | ⟨_,q⟩
  ·exact absurd c q
  ·exact q
 rcases k with⟨_,k⟩ | ⟨q,_⟩
 case inr=>exact absurd q c
 obtain⟨d0,d1⟩:=zub (t:=t) c hb
 have c1:CDivB t (dv t b):=⟨d0,d1⟩
 have c2:CDivB b (dv t b):=⟨d0,d1⟩
 walk_at "rd"
 refine⟨_,_,rfl,by split <;> omega,by split <;> omega,?_⟩
 rw[zty]
 walk_at "rd"
 refine cD (λn => ?_) (λn => ?_)
 ·walk_at "rd"
  have e : -(gI t b)=dv t b:=by unfold dv;rw[if_pos n]
  try dsimp only
  rw[e]
  walk_at "rd"
  exact⟨(by show 2<=sizeLine;decide),λr hr'=>k r _ (Same.upd hr') zaf⟩
 ·have e:gI t b=dv t b:=by unfold dv;rw[if_neg n]
  rw[e]
  walk_at "rd"
  exact⟨(by show 2<=sizeLine;decide),λr hr'=>k r _ (Same.upd hr') zaf⟩
theorem scPlusF:FnScope ["self","a","b","shared","top","further"] ["self","a","b"] (defScope zbi):=⟨rfl,rfl,rfl,by decide +kernel,rfl,by decide +kernel,by decide +kernel⟩
set_option maxHeartbeats 4000000 in
theorem zp0(F:FunD K "plus" "Fractions.plus" zbi .none f fd)(T:Txt K mg zap zab zai zal zae zam zac zad zan)(c_Shared:Cal P w K mg base CX0 1 "shared_divisor" ["one","other"] [] spShared):FnOk P w K mg base CX0 2 f fd ["self","a","b"] (spBinF zab (λx y z w=>x * w + z * y) (λx y z w=>y * w)):=by
 refine F.okN (k:=1) scPlusF (λvs H Q E h => ?_) (λcdv A outer s H vs Q E hr h => ?_)
 ·obtain⟨p,dx,ra,rb,x,y,z,w,rfl,_⟩:=h
  rfl
 obtain⟨p,dx,ra,rb,x,y,z,w,rfl,h⟩:=h
 refine⟨_,(zag (zbc (PW.pt (zk7 (zat zed (zaz (r:=rIxT K) zax (pv 1) (zak) (λ_ _=>rfl)) (zak) (nomark _)) (zia (zat zed (zaz (r:=rIxT K) zax (pv 2) (zak) (λ_ _=>rfl)) (zak) (nomark _))))) (zaj (zas (zc6 ((zaa (zaw zdw (zaz (r:=rIxT K) zax (pv 1) (zak) (λ_ _=>rfl)) (zaz (r:=rIxT K) zax (pv 2) (zak) (λ_ _=>rfl))) (zaa (zak) zah)))))) zav)
  (zag (zau (i:=3) scPlusF.nd rfl (Or.inl rfl) (pe_c c_Shared hr pass00 .nil ((zaa (zaz (r:=rIxT K) zax (pv 1) (zak) (λ_ _=>rfl)) (zaa (zaz (r:=rIxT K) zax (pv 2) (zak) (λ_ _=>rfl)) zah)))))
  (zag (zau (i:=4) scPlusF.nd rfl (Or.inl rfl) (zaw zdw (zaw zdm (zaz (r:=rIxT K) zax (pv 1) (zak) (λ_ _=>rfl)) (zaw zce (zaz (r:=rIxT K) zax (pv 2) (zak) (λ_ _=>rfl)) (pv 3))) (zaw zdm (zaz (r:=rIxT K) zax (pv 2) (zak) (λ_ _=>rfl)) (zaw zce (zaz (r:=rIxT K) zax (pv 1) (zak) (λ_ _=>rfl)) (pv 3)))))
  (zag (zau (i:=5) scPlusF.nd rfl (Or.inl rfl) (pe_c c_Shared hr pass00 .nil ((zaa (zay ze1 rfl T.b_abs (by kernel_rfl) ((zaa (pv 4) zah))) (zaa (pv 3) zah)))))
  (zaj (zas (zc6 ((zaa (zaw zce (pv 4) (pv 5)) (zaa (zaw zdm (zaw zce (zaz (r:=rIxT K) zax (pv 1) (zak) (λ_ _=>rfl)) (pv 3)) (zaw zce (zaz (r:=rIxT K) zax (pv 2) (zak) (λ_ _=>rfl)) (pv 5))) zah)))))))))),?_⟩
 obtain⟨hp,ha,hb,na,nb,k⟩:=h
 have y0:y≠0:=by have:=na.pos;omega
 have w0:w≠0:=by have:=nb.pos;omega
 have yp:=na.pos
 have wp:=nb.pos
 have A:=SqT.of (K:=K) ha
 have B:=SqT.of (K:=K) hb
 obtain⟨m1,m2,m3,m4,m5⟩:=na.mul nb
 obtain⟨u1,u2⟩:=zpf yp wp na.cop nb.cop
 have g0:=zp3 (a:=y) w0 nb.bz
 have gy:=zl3 y w
 have d1:CDivB w (gI y w):=⟨g0.1,up g0.2 (by decide)⟩
 have d2:CDivB y (gI y w):=⟨g0.1,up g0.2 (by decide)⟩
 have e1:=fdr (a:=y) w0 nb.bz
 have e2:=fdl (b:=w) w0 na.bz
 have n1:CMulC x (Int.fdiv w (gI y w)):=⟨up na.bx (by decide),up e1 (by decide)⟩
 have n2:CMulC z (Int.fdiv y (gI y w)):=⟨up nb.bx (by decide),up e2 (by decide)⟩
 have f0:=zp3 (a:=x * Int.fdiv w (gI y w) + z * Int.fdiv y (gI y w)) g0.1 g0.2
 have dw:gI (x * Int.fdiv w (gI y w) + z * Int.fdiv y (gI y w)) (gI y w) ∣ w:=Int.dvd_trans (zfm _ _) (zfm _ _)
 have d3:CDivB (x * Int.fdiv w (gI y w) + z * Int.fdiv y (gI y w)) (gI (x * Int.fdiv w (gI y w) + z * Int.fdiv y (gI y w)) (gI y w)):=⟨f0.1,up f0.2 (by decide)⟩
 have d4:CDivB w (gI (x * Int.fdiv w (gI y w) + z * Int.fdiv y (gI y w)) (gI y w)):=⟨f0.1,up f0.2 (by decide)⟩
 have n3:CMulC (Int.fdiv y (gI y w)) (Int.fdiv w (gI (x * Int.fdiv w (gI y w) + z * Int.fdiv y (gI y w)) (gI y w))):=⟨up e2 (by decide),up (Nat.lt_of_le_of_lt (zse dw f0.1) nb.bz) (by decide)⟩
 walk_at "rd"
 refine cEq (λc1 => ?_) (λc1 => ?_)
 ·walk_at "rd"
  refine cEq (λc2 => ?_) (λc2 => ?_)
  ·walk_at "rd"
   refine⟨(by show 2<=sizeLine;decide),λr hr' => ?_⟩
   refine k r _ (Same.upd hr') ?_
   subst c1 c2
   simp only[Int.mul_one,(zos _).1,(zos _).2]
   exact zaf
  ·walk_at "rd"
   refine⟨_,_,rfl,by omega,by omega,?_⟩
   walk_at "rd"
   refine⟨_,_,rfl,by split <;> omega,gy,?_⟩
   rw[zfx]
   walk_at "rd"
   refine⟨(by show 2<=sizeLine;decide),λr hr' => ?_⟩
   refine k r _ (Same.upd hr') ?_
   show _=some (HO.tup [V.int (fT (x * w + z * y) (y * w)),V.int (fB (x * w + z * y) (y * w))])
   rw[<- u1,<- u2]
   exact zaf
 ·walk_at "rd"
  refine⟨_,_,rfl,by omega,by omega,?_⟩
  walk_at "rd"
  refine⟨_,_,rfl,by split <;> omega,gy,?_⟩
  rw[zfx]
  walk_at "rd"
  refine⟨(by show 2<=sizeLine;decide),λr hr' => ?_⟩
  refine k r _ (Same.upd hr') ?_
  show _=some (HO.tup [V.int (fT (x * w + z * y) (y * w)),V.int (fB (x * w + z * y) (y * w))])
  rw[<- u1,<- u2]
  exact zaf
theorem scTimesF:FnScope ["self","a","b","one","other"] ["self","a","b"] (defScope zbd):=⟨rfl,rfl,rfl,by decide +kernel,rfl,by decide +kernel,by decide +kernel⟩
set_option maxHeartbeats 4000000 in
theorem zmi(F:FunD K "times" "Fractions.times" zbd .none f fd)(T:Txt K mg zap zab zai zal zae zam zac zad zan)(c_Shared:Cal P w K mg base CX0 1 "shared_divisor" ["one","other"] [] spShared):FnOk P w K mg base CX0 2 f fd ["self","a","b"] (spBinF zab (λx y z w=>x * z) (λx y z w=>y * w)):=by
 refine F.okN (k:=1) scTimesF (λvs H Q E h => ?_) (λcdv A outer s H vs Q E hr h => ?_)
 ·obtain⟨p,dx,ra,rb,x,y,z,w,rfl,_⟩:=h
  rfl
 obtain⟨p,dx,ra,rb,x,y,z,w,rfl,h⟩:=h
 refine⟨_,(zag (zbc (PW.pt (zk7 (zat zed (zaz (r:=rIxT K) zax (pv 1) (zak) (λ_ _=>rfl)) (zak) (nomark _)) (zia (zat zed (zaz (r:=rIxT K) zax (pv 2) (zak) (λ_ _=>rfl)) (zak) (nomark _))))) (zaj (zas (zc6 ((zaa (zaw zdm (zaz (r:=rIxT K) zax (pv 1) (zak) (λ_ _=>rfl)) (zaz (r:=rIxT K) zax (pv 2) (zak) (λ_ _=>rfl))) (zaa (zak) zah)))))) zav)
  (zag (zau (i:=3) scTimesF.nd rfl (Or.inl rfl) (pe_c c_Shared hr pass00 .nil ((zaa (zay ze1 rfl T.b_abs (by kernel_rfl) ((zaa (zaz (r:=rIxT K) zax (pv 1) (zak) (λ_ _=>rfl)) zah))) (zaa (zaz (r:=rIxT K) zax (pv 2) (zak) (λ_ _=>rfl)) zah)))))
  (zag (zau (i:=4) scTimesF.nd rfl (Or.inl rfl) (pe_c c_Shared hr pass00 .nil ((zaa (zay ze1 rfl T.b_abs (by kernel_rfl) ((zaa (zaz (r:=rIxT K) zax (pv 2) (zak) (λ_ _=>rfl)) zah))) (zaa (zaz (r:=rIxT K) zax (pv 1) (zak) (λ_ _=>rfl)) zah)))))
  (zaj (zas (zc6 ((zaa (zaw zdm (zaw zce (zaz (r:=rIxT K) zax (pv 1) (zak) (λ_ _=>rfl)) (pv 3)) (zaw zce (zaz (r:=rIxT K) zax (pv 2) (zak) (λ_ _=>rfl)) (pv 4))) (zaa (zaw zdm (zaw zce (zaz (r:=rIxT K) zax (pv 1) (zak) (λ_ _=>rfl)) (pv 4)) (zaw zce (zaz (r:=rIxT K) zax (pv 2) (zak) (λ_ _=>rfl)) (pv 3))) zah))))))))),?_⟩
 obtain⟨hp,ha,hb,na,nb,k⟩:=h
 have y0:y≠0:=by have:=na.pos;omega
 have w0:w≠0:=by have:=nb.pos;omega
 have yp:=na.pos
 have wp:=nb.pos
 have A:=SqT.of (K:=K) ha
 have B:=SqT.of (K:=K) hb
 obtain⟨m1,m2,m3,m4,m5⟩:=na.mul nb
 obtain⟨u1,u2⟩:=zn1 yp wp na.cop nb.cop
 have g1:=zp3 (a:=x) w0 nb.bz
 have g2:=zp3 (a:=z) y0 na.bz
 have d1:CDivB x (gI x w):=⟨g1.1,up g1.2 (by decide)⟩
 have d2:CDivB z (gI z y):=⟨g2.1,up g2.2 (by decide)⟩
 have d3:CDivB y (gI z y):=⟨g2.1,up g2.2 (by decide)⟩
 have d4:CDivB w (gI x w):=⟨g1.1,up g1.2 (by decide)⟩
 have n1:CMulC (Int.fdiv x (gI x w)) (Int.fdiv z (gI z y)):=⟨up (fdl w0 na.bx) (by decide),up (fdl y0 nb.bx) (by decide)⟩
 have n2:CMulC (Int.fdiv y (gI z y)) (Int.fdiv w (gI x w)):=⟨up (fdr y0 na.bz) (by decide),up (fdr w0 nb.bz) (by decide)⟩
 walk_at "rd"
 refine cEq (λc1 => ?_) (λc1 => ?_)
 ·walk_at "rd"
  refine cEq (λc2 => ?_) (λc2 => ?_)
  ·walk_at "rd"
   refine⟨(by show 2<=sizeLine;decide),λr hr' => ?_⟩
   refine k r _ (Same.upd hr') ?_
   subst c1 c2
   simp only[Int.mul_one,(zos _).1,(zos _).2]
   exact zaf
  ·walk_at "rd"
   refine⟨_,_,rfl,by split <;> omega,by omega,?_⟩
   rw[zfx]
   walk_at "rd"
   refine⟨_,_,rfl,by split <;> omega,by omega,?_⟩
   rw[zfx]
   walk_at "rd"
   refine⟨(by show 2<=sizeLine;decide),λr hr' => ?_⟩
   refine k r _ (Same.upd hr') ?_
   show _=some (HO.tup [V.int (fT (x * z) (y * w)),V.int (fB (x * z) (y * w))])
   rw[<- u1,<- u2]
   exact zaf
 ·walk_at "rd"
  refine⟨_,_,rfl,by split <;> omega,by omega,?_⟩
  rw[zfx]
  walk_at "rd"
  refine⟨_,_,rfl,by split <;> omega,by omega,?_⟩
  rw[zfx]
  walk_at "rd"
  refine⟨(by show 2<=sizeLine;decide),λr hr' => ?_⟩
  refine k r _ (Same.upd hr') ?_
  show _=some (HO.tup [V.int (fT (x * z) (y * w)),V.int (fB (x * z) (y * w))])
  rw[<- u1,<- u2]
  exact zaf
theorem scAgF:FnScope ["self","a"] ["self","a"] (defScope za4):=⟨rfl,rfl,rfl,by decide +kernel,rfl,by decide +kernel,by decide +kernel⟩
set_option maxHeartbeats 4000000 in
theorem zvm(F:FunD K "against" "Fractions.against" za4 .none f fd)(T:Txt K mg zap zab zai zal zae zam zac zad zan)   : FnOk P w K mg base CX0 1 f fd ["self","a"] spAgF:=by
 refine F.okN (k:=0) scAgF (λvs H Q E h => ?_) (λcdv A outer s H vs Q E hr h => ?_)
 ·obtain⟨p,ra,x,y,rfl,_⟩:=h
  rfl
 obtain⟨p,ra,x,y,rfl,h⟩:=h
 refine⟨_,(zaj (zas (zc6 ((zaa (zlh zha (zaz (r:=rIxT K) zax (pv 1) (zak) (λ_ _=>rfl))) (zaa (zaz (r:=rIxT K) zax (pv 1) (zak) (λ_ _=>rfl)) zah)))))),?_⟩
 obtain⟨ha,k⟩:=h
 refine⟨_,rfl,ra,_,_,_,rfl,rfl,SqT.of ha,rfl,_,rfl,_,rfl,ra,_,_,_,rfl,rfl,SqT.of ha,rfl,(by show 2<=sizeLine;decide),λr hr' => ?_⟩
 exact k r _ (Same.upd hr') zaf
theorem scTuF:FnScope ["self","a"] ["self","a"] (defScope za7):=⟨rfl,rfl,rfl,by decide +kernel,rfl,by decide +kernel,by decide +kernel⟩
set_option maxHeartbeats 4000000 in
theorem zt0(F:FunD K "turned" "Fractions.turned" za7 .none f fd)(T:Txt K mg zap zab zai zal zae zam zac zad zan)(m_Made:MCal P w K mg base (CXe P w) 2 zab "made" ["self","top","bottom"] [] (spMade zbr)):FnOk P w K mg base (CXe P w) 3 f fd ["self","a"] (spTuF zab zbr):=by
 refine F.okX (k:=2) scTuF (λvs H Q E h => ?_) (λcdv A outer s H vs Q E hr h => ?_)
 ·obtain⟨p,dx,ra,x,y,rfl,_⟩:=h
  rfl
 obtain⟨p,dx,ra,x,y,rfl,h⟩:=h
 refine⟨_,(zaj (zas (pe_m m_Made (pv 0) hr zd1 .nil ((zaa (zaz (r:=rIxT K) zax (pv 1) (zak) (λ_ _=>rfl)) (zaa (zaz (r:=rIxT K) zax (pv 1) (zak) (λ_ _=>rfl)) zah)))))),?_⟩
 obtain⟨hp,ha,na,k⟩:=h
 refine⟨_,rfl,p,dx,_,rfl,hp,no_F _ (by decide +kernel),?_⟩
 refine⟨_,rfl,ra,_,_,_,rfl,rfl,SqT.of ha,rfl,_,rfl,ra,_,_,_,rfl,rfl,SqT.of ha,rfl,?_⟩
 exact⟨_,_,_,rfl,up na.bx (by decide),k⟩
theorem scOvF:FnScope ["self","a","b"] ["self","a","b"] (defScope zbz):=⟨rfl,rfl,rfl,by decide +kernel,rfl,by decide +kernel,by decide +kernel⟩
set_option maxHeartbeats 4000000 in
theorem zvu(F:FunD K "over" "Field.over" zbz .none f fd)(T:Txt K mg zap zab zai zal zae zam zac zad zan)(m_TuF:MCal P w K mg base (CXe P w) 3 zab "turned" ["self","a"] [] (spTuF zab zbr))(m_TimesF:MCal P w K mg base CX0 2 zab "times" ["self","a","b"] [] (spBinF zab (λx y z w=>x * z) (λx y z w=>y * w))):FnOk P w K mg base (CXe P w) 4 f fd ["self","a","b"] (spOvF zab zbr):=by
 refine F.okX (k:=3) scOvF (λvs H Q E h => ?_) (λcdv A outer s H vs Q E hr h => ?_)
 ·obtain⟨p,dx,ra,rb,x,y,z,w,rfl,_⟩:=h
  rfl
 obtain⟨p,dx,ra,rb,x,y,z,w,rfl,h⟩:=h
 refine⟨_,(zaj (zas (pe_m m_TimesF (pv 0) hr pass00 .nil ((zaa (pv 1) (zaa (pe_m m_TuF (pv 0) hr zd1 .nil ((zaa (pv 2) zah))) zah)))))),?_⟩
 obtain⟨hp,ha,hb,na,nb,k⟩:=h
 refine⟨_,rfl,p,dx,_,rfl,hp,no_F _ (by decide +kernel),_,rfl,_,rfl,p,dx,_,rfl,hp,no_F _ (by decide +kernel),_,rfl,?_⟩
 refine⟨p,dx,rb,z,w,rfl,hp,hb,nb,?_⟩
 rcases k with⟨nz,k⟩ | ⟨z0,k⟩
 ·refine .inl ⟨nz,λr2 H2 e2 h2 => ?_⟩
  exact⟨p,dx,ra,r2,x,y,_,_,rfl,e2 _ _ hp,e2 _ _ ha,h2,na,nb.tu nz,λr3 H3 e3 h3=>k r3 H3 (e2.trans e3) h3⟩
 ·exact .inr ⟨z0,k⟩
theorem scRestsInit:FnScope ["self","prime"] ["self","prime"] (defScope zbh):=⟨rfl,rfl,rfl,by decide +kernel,rfl,by decide +kernel,by decide +kernel⟩
set_option maxHeartbeats 4000000 in
theorem zja(F:FunD K "__init__" "Rests.__init__" zbh .none f fd)(T:Txt K mg zap zab zai zal zae zam zac zad zan)(c_Prime:Cal P w K mg base CX0 1 "is_prime" ["number"] [] spPrime)(q_FieldInit:CCal P w K mg base CX0 1 "Field" "__init__" ["self","prime"] [] (spField K))(x_NoPrime:Exc K mg base "NoPrime" zda)  : FnOk P w K mg base (CXe P w) 2 f fd ["self","prime"] (spRests zai zda):=by
 refine F.okX (k:=1) scRestsInit (λvs H Q E h => ?_) (λcdv A outer s H vs Q E hr h => ?_)
 ·obtain⟨p,dx,n,rfl,_⟩:=h
  rfl
 obtain⟨p,dx,n,rfl,h⟩:=h
 refine⟨_,(zag (zbc (PW.pt (zfe (zat zg4 (pv 1) (zo2 T.g_GREATEST_PRIME rfl) (nomark _)) (zfq (zd0 (zdj (pe_c c_Prime hr pass00 .nil ((zaa (pv 1) zah)))))))) (zaj (zi4 x_NoPrime rfl rfl zbp ((zaa (zf5) zah)))) zav)
  (zaj (zdo (zu6 q_FieldInit hr pass00 .nil ((zaa (pv 0) (zaa (pv 1) zah))))))),?_⟩
 obtain⟨hp,k⟩:=h
 walk_at "rd"
 refine cD (λc => ?_) (λc => ?_)
 ·walk_at "rd"
  refine⟨(by show 1<=sizeLine;decide),?_⟩
  rcases k with⟨q,_⟩ | ⟨_,q⟩
  ·omega
  ·exact q
 ·refine⟨_,rfl,n,rfl,by omega,_,rfl,?_⟩
  rcases k with⟨_,q1,q2⟩ | ⟨q1,q2⟩
  ·rw[q1]
   refine iteF ?_
   exact⟨_,rfl,_,rfl,p,zai,dx,_,rfl,hp,T.cl_Rests,T.na_Rests_prime,q2⟩
  ·have q:isP n=false:=q1.resolve_left c
   rw[q]
   exact iteT ⟨(by show 1<=sizeLine;decide),q2⟩
theorem scNoughtR:FnScope ["self"] ["self"] (defScope zb5):=⟨rfl,rfl,rfl,by decide +kernel,rfl,by decide +kernel,by decide +kernel⟩
set_option maxHeartbeats 4000000 in
theorem zle(F:FunD K "nought" "Rests.nought" zb5 .none f fd)(T:Txt K mg zap zab zai zal zae zam zac zad zan)   : FnOk P w K mg base CX0 1 f fd ["self"] (spC (.int 0)):=by
 refine F.okN (k:=0) scNoughtR (λvs H Q E h => ?_) (λcdv A outer s H vs Q E hr h => ?_)
 ·obtain⟨p,rfl,_⟩:=h
  rfl
 obtain⟨p,rfl,h⟩:=h
 refine⟨_,(zaj (zas (zak))),?_⟩
 exact h
theorem scOneR:FnScope ["self"] ["self"] (defScope zdb):=⟨rfl,rfl,rfl,by decide +kernel,rfl,by decide +kernel,by decide +kernel⟩
set_option maxHeartbeats 4000000 in
theorem zry(F:FunD K "one" "Rests.one" zdb .none f fd)(T:Txt K mg zap zab zai zal zae zam zac zad zan)   : FnOk P w K mg base CX0 1 f fd ["self"] (spC (.int 1)):=by
 refine F.okN (k:=0) scOneR (λvs H Q E h => ?_) (λcdv A outer s H vs Q E hr h => ?_)
 ·obtain⟨p,rfl,_⟩:=h
  rfl
 obtain⟨p,rfl,h⟩:=h
 refine⟨_,(zaj (zas (zak))),?_⟩
 exact h
theorem scPlusR:FnScope ["self","a","b"] ["self","a","b"] (defScope zcz):=⟨rfl,rfl,rfl,by decide +kernel,rfl,by decide +kernel,by decide +kernel⟩
set_option maxHeartbeats 4000000 in
theorem zp9(F:FunD K "plus" "Rests.plus" zcz .none f fd)(T:Txt K mg zap zab zai zal zae zam zac zad zan)   : FnOk P w K mg base CX0 1 f fd ["self","a","b"] (spBinR zai λn a b=>(a + b) % n):=by
 refine F.okN (k:=0) scPlusR (λvs H Q E h => ?_) (λcdv A outer s H vs Q E hr h => ?_)
 ·obtain⟨p,dx,n,a,b,rfl,_⟩:=h
  rfl
 obtain⟨p,dx,n,a,b,rfl,h⟩:=h
 refine⟨_,(zaj (zas (zaw zcu (zaw zdw (pv 1) (pv 2)) (zbb (K:=K) rfl (pv 0) rfl)))),?_⟩
 obtain⟨⟨hp,pr,pl⟩,ia,ib,k⟩:=h
 have p2:=pr.1
 walk_at "rd"
 exact⟨p,zai,dx,_,_,rfl,hp,T.cl_Rests,T.na_Rests_prime,rfl,_,_,rfl,rfl,(by show 0 < n;omega),k⟩
theorem scTimesR:FnScope ["self","a","b"] ["self","a","b"] (defScope zcn):=⟨rfl,rfl,rfl,by decide +kernel,rfl,by decide +kernel,by decide +kernel⟩
set_option maxHeartbeats 4000000 in
theorem znw(F:FunD K "times" "Rests.times" zcn .none f fd)(T:Txt K mg zap zab zai zal zae zam zac zad zan)   : FnOk P w K mg base CX0 1 f fd ["self","a","b"] (spBinR zai λn a b=>a * b % n):=by
 refine F.okN (k:=0) scTimesR (λvs H Q E h => ?_) (λcdv A outer s H vs Q E hr h => ?_)
 ·obtain⟨p,dx,n,a,b,rfl,_⟩:=h
  rfl
 obtain⟨p,dx,n,a,b,rfl,h⟩:=h
 refine⟨_,(zaj (zas (zaw zcu (zaw zhj (pv 1) (pv 2)) (zbb (K:=K) rfl (pv 0) rfl)))),?_⟩
 obtain⟨⟨hp,pr,pl⟩,ia,ib,k⟩:=h
 have p2:=pr.1
 obtain⟨a0,a1⟩:=ia
 walk_at "rd"
 exact⟨p,zai,dx,_,_,rfl,hp,T.cl_Rests,T.na_Rests_prime,rfl,_,_,rfl,rfl,(by show 0 < n;omega),k⟩
theorem scAgR:FnScope ["self","a"] ["self","a"] (defScope zbx):=⟨rfl,rfl,rfl,by decide +kernel,rfl,by decide +kernel,by decide +kernel⟩
set_option maxHeartbeats 4000000 in
theorem zvg(F:FunD K "against" "Rests.against" zbx .none f fd)(T:Txt K mg zap zab zai zal zae zam zac zad zan)   : FnOk P w K mg base CX0 1 f fd ["self","a"] (spAgR zai):=by
 refine F.okN (k:=0) scAgR (λvs H Q E h => ?_) (λcdv A outer s H vs Q E hr h => ?_)
 ·obtain⟨p,dx,n,a,rfl,_⟩:=h
  rfl
 obtain⟨p,dx,n,a,rfl,h⟩:=h
 refine⟨_,(zaj (zas (zaw zcu (zlh zha (pv 1)) (zbb (K:=K) rfl (pv 0) rfl)))),?_⟩
 obtain⟨⟨hp,pr,pl⟩,ia,k⟩:=h
 have p2:=pr.1
 walk_at "rd"
 exact⟨p,zai,dx,_,_,rfl,hp,T.cl_Rests,T.na_Rests_prime,rfl,_,_,rfl,rfl,(by show 0 < n;omega),k⟩
theorem scTuR:FnScope ["self","a","found","left"] ["self","a"] (defScope zb8):=⟨rfl,rfl,rfl,by decide +kernel,rfl,by decide +kernel,by decide +kernel⟩
set_option maxHeartbeats 4000000 in
theorem ztx(F:FunD K "turned" "Rests.turned" zb8 .none f fd)(T:Txt K mg zap zab zai zal zae zam zac zad zan)(x_NoOver:Exc K mg base "NoOver" zbr)  : FnOk P w K mg base (CXe P w) 1 f fd ["self","a"] (spTuR zai zbr):=by
 refine F.okX (k:=0) scTuR (λvs H Q E h => ?_) (λcdv A outer s H vs Q E hr h => ?_)
 ·obtain⟨p,dx,n,a,rfl,_⟩:=h
  rfl
 obtain⟨p,dx,n,a,rfl,h⟩:=h
 refine⟨_,(zag (zbc (zat zed (pv 1) (zak) (nomark _)) (zaj (zi4 x_NoOver rfl rfl zbp ((zaa (zf5) zah)))) zav)
  (zag (zau (i:=2) scTuR.nd rfl (Or.inl rfl) (zak))
  (zag (zau (i:=3) scTuR.nd rfl (Or.inl rfl) (pv 1))
  (zag (PS.nox (zeb PassesOwn.never (zat zid (pv 3) (zak) (nomark _)) (zag (zau (i:=2) scTuR.nd rfl (Or.inl rfl) (zaw zgp (zaw zhj (zlh zha (pv 2)) (zaw zoy (zbb (K:=K) rfl (pv 0) rfl) (pv 3))) (zbb (K:=K) rfl (pv 0) rfl)))
  (zaj (zau (i:=3) scTuR.nd rfl (Or.inl rfl) (zaw zgp (zbb (K:=K) rfl (pv 0) rfl) (pv 3)))))))
  (zaj (zas (pv 2))))))),?_⟩
 obtain⟨⟨hp,pr,pl⟩,⟨a0,a1⟩,k⟩:=h
 have p2:=pr.1
 walk_at "rd"
 refine cEq (λc => ?_) (λc => ?_)
 ·refine⟨(by show 1<=sizeLine;decide),?_⟩
  rcases k with⟨q,_⟩ | ⟨_,q⟩
  ·exact absurd c q
  ·exact q
 rcases k with⟨_,k⟩ | ⟨q,_⟩
 case inr=>exact absurd q c
 walk_at "rd"
 refine⟨λm σ H'=>∃(f l:Int),m=l.toNat/\σ = [some (.ref p),some (.int a),some (.int f),some (.int l)]/\H'=H/\Tn n a f l,⟨_,1,a,rfl,rfl,rfl,zkf pr (by omega) a1⟩,?_⟩
 rintro m σ H' ⟨f,l,rfl,rfl,rfl,tn⟩
 have f0:=tn.f0
 have f1:=tn.f1
 have l0:=tn.l0
 have l1:=tn.l1
 walk_at "rd"
 refine cNe (λc1 => ?_) (λc1 => ?_)
 ·refine⟨λσ' H''=>σ'=[some (.ref p),some (.int a),some (.int (Int.fmod (-f * Int.fdiv n l) n)),some (.int (Int.fmod n l))]/\H''=H',?_,?_⟩
  ·rintro σ' H'' ⟨rfl,rfl⟩
   exact⟨(Int.fmod n l).toNat,znh tn,_,_,rfl,rfl,rfl,zny pr tn c1⟩
  ·refine⟨_,rfl,_,rfl,_,rfl,p,zai,dx,_,_,rfl,hp,T.cl_Rests,T.na_Rests_prime,rfl,_,rfl,_,_,rfl,rfl,⟨by show l≠0;omega,by omega⟩,_,_,rfl,rfl,.inl ⟨by omega,by omega⟩,?_⟩
   refine⟨_,rfl,p,zai,dx,_,_,rfl,hp,T.cl_Rests,T.na_Rests_prime,rfl,_,_,rfl,rfl,(by show n≠0;omega),?_⟩
   exact⟨_,rfl,p,zai,dx,_,_,rfl,hp,T.cl_Rests,T.na_Rests_prime,rfl,_,rfl,_,_,rfl,rfl,(by show l≠0;omega),rfl,rfl⟩
 ·exact⟨_,rfl,k f (zrf tn c1)⟩
theorem scOvR:FnScope ["self","a","b"] ["self","a","b"] (defScope zbz):=⟨rfl,rfl,rfl,by decide +kernel,rfl,by decide +kernel,by decide +kernel⟩
set_option maxHeartbeats 4000000 in
theorem zup(F:FunD K "over" "Field.over" zbz .none f fd)(T:Txt K mg zap zab zai zal zae zam zac zad zan)(m_TuR:MCal P w K mg base (CXe P w) 1 zai "turned" ["self","a"] [] (spTuR zai zbr))(m_TimesR:MCal P w K mg base CX0 1 zai "times" ["self","a","b"] [] (spBinR zai λn a b=>a * b % n)):FnOk P w K mg base (CXe P w) 2 f fd ["self","a","b"] (spOvR zai zbr):=by
 refine F.okX (k:=1) scOvR (λvs H Q E h => ?_) (λcdv A outer s H vs Q E hr h => ?_)
 ·obtain⟨p,dx,n,a,b,rfl,_⟩:=h
  rfl
 obtain⟨p,dx,n,a,b,rfl,h⟩:=h
 refine⟨_,(zaj (zas (pe_m m_TimesR (pv 0) hr pass00 .nil ((zaa (pv 1) (zaa (pe_m m_TuR (pv 0) hr zd1 .nil ((zaa (pv 2) zah))) zah)))))),?_⟩
 obtain⟨hn,ia,ib,k⟩:=h
 have hp:=hn.1
 refine⟨_,rfl,p,dx,_,rfl,hp,no_R _ _ (by decide +kernel),_,rfl,_,rfl,p,dx,_,rfl,hp,no_R _ _ (by decide +kernel),_,rfl,?_⟩
 refine⟨p,dx,n,b,rfl,hn,ib,?_⟩
 rcases k with⟨nz,k⟩ | ⟨z0,k⟩
 ·exact .inl ⟨nz,λf hf=>⟨p,dx,n,a,f,rfl,hn,ia,⟨hf.1,hf.2.1⟩,k f hf⟩⟩
 ·exact .inr ⟨z0,k⟩
theorem scDeg:FnScope ["term"] ["term"] (defScope ze4):=⟨rfl,rfl,rfl,by decide +kernel,rfl,by decide +kernel,by decide +kernel⟩
set_option maxHeartbeats 4000000 in
theorem zvq(F:FunD K "degree" "degree" ze4 .none f fd)(T:Txt K mg zap zab zai zal zae zam zac zad zan)   : FnOk P w K mg base CX0 1 f fd ["term"] (spDeg K):=by
 refine F.okN (k:=0) scDeg (λvs H Q E h => ?_) (λcdv A outer s H vs Q E hr h => ?_)
 ·obtain⟨a,xs,rfl,_⟩:=h
  rfl
 obtain⟨a,xs,rfl,h⟩:=h
 refine⟨_,(zaj (zas (zay (ziz (K:=K) rfl true rfl) rfl T.b_sum (by kernel_rfl) ((zaa (pv 0) zah))))),?_⟩
 obtain⟨h1,k⟩:=h
 exact⟨_,rfl,a,xs,rfl,h1,k⟩
theorem scRankO:FnScope ["self","term"] ["self","term"] (defScope zc1):=⟨rfl,rfl,rfl,by decide +kernel,rfl,by decide +kernel,by decide +kernel⟩
set_option maxHeartbeats 4000000 in
theorem zqa(F:FunD K "rank" "Order.rank" zc1 .none f fd)(T:Txt K mg zap zab zai zal zae zam zac zad zan)   : FnOk P w K mg base CX0 1 f fd ["self","term"] (spRank (AtO zal) rkL):=by
 refine F.okN (k:=0) scRankO (λvs H Q E h => ?_) (λcdv A outer s H vs Q E hr h => ?_)
 ·obtain⟨p,t,xs,rfl,_⟩:=h
  rfl
 obtain⟨p,t,xs,rfl,h⟩:=h
 refine⟨_,(zaj (zas (zbt (zch (K:=K) rfl) rfl T.b_tuple (by kernel_rfl) ((zaa (pv 1) zah))))),?_⟩
 obtain⟨hp,ht0,px,k⟩:=h
 have ht:=SqT.of (K:=K) ht0
 exact⟨_,rfl,t,_,rfl,.inr ⟨ht,k t H (Same.refl _) ht0⟩⟩
theorem scRankD:FnScope ["self","term"] ["self","term"] (defScope zb9):=⟨rfl,rfl,rfl,by decide +kernel,rfl,by decide +kernel,by decide +kernel⟩
set_option maxHeartbeats 4000000 in
theorem zpv(F:FunD K "rank" "Degrees.rank" zb9 .none f fd)(T:Txt K mg zap zab zai zal zae zam zac zad zan)(c_Deg:Cal P w K mg base CX0 1 "degree" ["term"] [] (spDeg K)):FnOk P w K mg base CX0 2 f fd ["self","term"] (spRank (AtO zae) rkD):=by
 refine F.okN (k:=1) scRankD (λvs H Q E h => ?_) (λcdv A outer s H vs Q E hr h => ?_)
 ·obtain⟨p,t,xs,rfl,_⟩:=h
  rfl
 obtain⟨p,t,xs,rfl,h⟩:=h
 refine⟨_,(zaj (zas (zaw zj1 (zc6 ((zaa (pe_c c_Deg hr pass00 .nil ((zaa (pv 1) zah))) zah))) (zbt (zch (K:=K) rfl) rfl T.b_tuple (by kernel_rfl) ((zaa (pv 1) zah)))))),?_⟩
 obtain⟨hp,ht0,px,k⟩:=h
 have ht:=SqT.of (K:=K) ht0
 refine⟨_,rfl,t,xs,rfl,ht,(by show 1<=sizeLine;decide),λl hl => ?_⟩
 have e1:Same H (upd H l (HO.tup [V.int xs.sum])):=Same.upd hl
 refine⟨_,rfl,t,_,rfl,.inr ⟨e1.seqT ht,?_⟩⟩
 refine⟨_,_,_,_,rfl,rfl,SqT.of (zaf),e1.seqT ht,by simp,by simp;exact Nat.le_trans (Nat.add_le_add_left px.len 1) (by rw[sizeLine_eq];decide),λz => ?_,λ_ r hr' => ?_⟩
 ·exact absurd (List.map_eq_nil_iff.mp z) px.ne
 ·exact k r _ (e1.updR (e1.free hr')) zaf
theorem scRankT:FnScope ["self","term"] ["self","term"] (defScope zcx):=⟨rfl,rfl,rfl,by decide +kernel,rfl,by decide +kernel,by decide +kernel⟩
set_option maxHeartbeats 4000000 in
theorem zp4(F:FunD K "rank" "Tails.rank" zcx .none f fd)(T:Txt K mg zap zab zai zal zae zam zac zad zan)(c_Deg:Cal P w K mg base CX0 1 "degree" ["term"] [] (spDeg K)):FnOk P w K mg base CX0 2 f fd ["self","term"] (spRank (AtO zam) rkT):=by
 refine F.okN (k:=1) scRankT (λvs H Q E h => ?_) (λcdv A outer s H vs Q E hr h => ?_)
 ·obtain⟨p,t,xs,rfl,_⟩:=h
  rfl
 obtain⟨p,t,xs,rfl,h⟩:=h
 refine⟨_,(zaj (zas (zaw zj1 (zc6 ((zaa (pe_c c_Deg hr pass00 .nil ((zaa (pv 1) zah))) zah))) (zbt (zch (K:=K) rfl) rfl T.b_tuple (by kernel_rfl) ((zaa (zc8 (N:=["power"]) (Blk.plain (by decide +kernel) (by decide +kernel) rfl (by decide +kernel) zku) rfl (zsq (K:=K) rfl rfl T.b_reversed ((zaa (pv 1) zah))) (λC0 s0 H0 fp0=>zeu (i:=0) zku rfl rfl) (λC0 s0 H0 fp0=>zdn) (λC0 s0 H0 fp0=>zlh zha (pv 0))) zah)))))),?_⟩
 obtain⟨hp,ht0,px,k⟩:=h
 have ht:=SqT.of (K:=K) ht0
 refine⟨_,rfl,t,xs,rfl,ht,(by show 1<=sizeLine;decide),λl hl => ?_⟩
 have e1:Same H (upd H l (HO.tup [V.int xs.sum])):=Same.upd hl
 have ht1:=e1.seqT ht
 have lm:(xs.map V.int).length=xs.length:=List.length_map _
 show tComp _ _ _ _ _ _ _ _
 refine zea (J:=Itv K t (xs.map V.int).length) (H1:=upd H l (HO.tup [V.int xs.sum])) (zpo ht1) (by rw[lm];exact Nat.le_trans px.len (by decide)) ?_ (λσ=>σ.length=1) (λ_=>true) (λi => .int (-(xs.getD (xs.length - 1 - i) 0))) rfl ?_ λD H' e hL => ?_
 ·exact λR hR=>⟨_,rfl,t,_,rfl,ht1,hR⟩
 ·rintro i x σ' H2 hi hs e hx Ny Nn hy hn
  rw[lm]at hx
  rw[zef hx]
  match σ',hs with
  | [_],_=>exact⟨_,rfl,_,rfl,hy _ _ rfl (Same.refl _) rfl⟩
 rw[List.filter_eq_self.mpr (λ_ _=>rfl),lm]at hL
 have eL:(List.range xs.length).map (λi=>V.int (-(xs.getD (xs.length - 1 - i) 0)))=(xs.reverse.map λx => -x).map V.int:=by
  rw[<- zpe xs λx => -x,List.map_map];rfl
 rw[eL]at hL
 refine⟨D,_,rfl,.inl ⟨SqL.of hL,λm hm => ?_⟩⟩
 have e2:Same H' (upd H' m (HO.tup ((xs.reverse.map λx => -x).map V.int))):=Same.upd hm
 have e3:=(e1.trans e).trans e2
 refine⟨l,m,_,_,rfl,rfl,SqT.of (e2 _ _ (e _ _ zaf)),SqT.of zaf,by simp,by simp;exact Nat.le_trans (Nat.add_le_add_left px.len 1) (by rw[sizeLine_eq];decide),λz => ?_,λ_ r hr' => ?_⟩
 ·exact absurd (by simpa using z) px.ne
 ·exact k r _ (e3.updR (e3.free hr')) zaf
theorem scWInit:FnScope ["self","weights"] ["self","weights"] (defScope za6):=⟨rfl,rfl,rfl,by decide +kernel,rfl,by decide +kernel,by decide +kernel⟩
set_option maxHeartbeats 4000000 in
theorem zo8(F:FunD K "__init__" "Weights.__init__" za6 .none f fd)(T:Txt K mg zap zab zai zal zae zam zac zad zan)(x_NoOrder:Exc K mg base "NoOrder" zc9)  : FnOk P w K mg base (CXe P w) 1 f fd ["self","weights"] (spWInit K zac zc9):=by
 refine F.okX (k:=0) scWInit (λvs H Q E h => ?_) (λcdv A outer s H vs Q E hr h => ?_)
 ·obtain⟨p,dx,l,ws,rfl,_⟩:=h
  rfl
 obtain⟨p,dx,l,ws,rfl,h⟩:=h
 refine⟨_,(zag (zbc (zdj (zay (zmm (K:=K) rfl rfl) rfl T.b_any (by kernel_rfl) ((zaa (zc8 (N:=["weight"]) (Blk.plain (by decide +kernel) (by decide +kernel) rfl (by decide +kernel) ziu) rfl (ze0 (K:=K) rfl (pv 1)) (λC0 s0 H0 fp0=>zeu (i:=0) ziu rfl rfl) (λC0 s0 H0 fp0=>zdn) (λC0 s0 H0 fp0=>zd3 zg7 (pv 0) (zak) (nomark _))) zah)))) (zaj (zi4 x_NoOrder rfl rfl zbp ((zaa (zf5) zah)))) zav)
  (zaj (zfh (pv 0) (zbt (zch (K:=K) rfl) rfl T.b_tuple (by kernel_rfl) ((zaa (pv 1) zah))) rfl))),?_⟩
 obtain⟨hp,hl,hlen,k⟩:=h
 have lm:(ws.map V.int).length=ws.length:=List.length_map _
 show tComp _ _ _ _ _ _ _ _
 refine zea (J:=Itl K l) (H1:=H) (zet hl) (by rw[lm];exact Nat.le_trans hlen (by decide)) ?_ (λσ=>σ.length=1) (λ_=>true) (λi => .bl (decide (ws.getD i 0 < 0))) rfl ?_ λD H' e hL => ?_
 ·exact λR hR=>⟨_,rfl,l,rfl,⟨_,hl⟩,hR⟩
 ·rintro i x σ' H2 hi hs e hx Ny Nn hy hn
  rw[zef hx]
  match σ',hs with
  | [_],_=>exact⟨_,rfl,_,_,rfl,rfl,hy _ _ rfl (Same.refl _) rfl⟩
 rw[List.filter_eq_self.mpr (λ_ _=>rfl),lm]at hL
 have eL:(List.range ws.length).map (λi=>V.bl (decide (ws.getD i 0 < 0)))=((List.range ws.length).map λi=>decide (ws.getD i 0 < 0)).map V.bl:=by rw[List.map_map];rfl
 rw[eL]at hL
 refine⟨D,_,rfl,SqL.of hL,_,rfl,?_⟩
 rw[zts]
 refine cN (λc => ?_) (λc => ?_)
 ·refine⟨(by show 1<=sizeLine;decide),?_⟩
  rcases k with⟨q,_⟩ | ⟨_,q⟩
  ·exact absurd q c
  ·exact q H' e
 rcases k with⟨_,k⟩ | ⟨q,_⟩
 case inr=>exact absurd c q
 refine⟨_,rfl,l,_,rfl,.inl ⟨e.seq hl,λm hm => ?_⟩⟩
 have e2:Same H' (upd H' m (HO.tup (ws.map V.int))):=Same.upd hm
 have hp2:=e2 _ _ (e _ _ hp)
 have npm:m≠p:=λz=>by subst z;rw[e _ _ hp]at hm;cases hm
 refine⟨_,rfl,p,zac,dx,[],rfl,hp2,T.cl_Weights,T.na_Weights_weights,(by show 0 < 1000;decide),?_⟩
 refine k m _ zaf (by rw[zao npm];exact zaf) λb o hb nb => ?_
 rw[zao nb]
 exact e2 _ _ (e _ _ hb)
theorem scRankW:FnScope ["self","term","weighed"] ["self","term"] (defScope zcb):=⟨rfl,rfl,rfl,by decide +kernel,rfl,by decide +kernel,by decide +kernel⟩
set_option maxHeartbeats 4000000 in
theorem zp5{ws:List Int}(F:FunD K "rank" "Weights.rank" zcb .none f fd)(T:Txt K mg zap zab zai zal zae zam zac zad zan)  (hwn:Nn ws) (hwb:∀x∈ws,x < 10 ^ 31):FnOk P w K mg base CX0 1 f fd ["self","term"] (spRank (AtW zac ws) (rkW ws)):=by
 refine F.okN (k:=0) scRankW (λvs H Q E h => ?_) (λcdv A outer s H vs Q E hr h => ?_)
 ·obtain⟨p,t,xs,rfl,_⟩:=h
  rfl
 obtain⟨p,t,xs,rfl,h⟩:=h
 refine⟨_,(zag (zau (i:=2) scRankW.nd rfl (Or.inl rfl) (zay (ziz (K:=K) rfl false rfl) rfl T.b_sum (by kernel_rfl) ((zaa (zc8 (N:=["power","weight"]) (Blk.plain (by decide +kernel) (by decide +kernel) rfl (by decide +kernel) zep) rfl (zhx (K:=K) rfl true true rfl T.b_zip ((zaa (pv 1) (zaa (zbb (K:=K) rfl (pv 0) rfl) zah)))) (λC0 s0 H0 fp0=>zke (K:=K) rfl rfl rfl zep rfl rfl) (λC0 s0 H0 fp0=>zdn) (λC0 s0 H0 fp0=>zaw zrq (pv 0) (pv 1))) zah))))
  (zaj (zas (zaw zj1 (zc6 ((zaa (pv 2) zah))) (zbt (zch (K:=K) rfl) rfl T.b_tuple (by kernel_rfl) ((zaa (pv 1) zah))))))),?_⟩
 obtain⟨hp,ht0,px,k⟩:=h
 have ht:=SqT.of (K:=K) ht0
 obtain⟨dx,wt,hq,hw⟩:=id hp
 show tComp _ _ _ _ _ _ _ _
 refine zga (K:=K) (b1:=true) (b2:=true) (a:=t) (b:=wt) (xs:=xs) (ys:=ws) yes2 (λx y => .int (x * y)) (by rfl) ?_ ht (SqT.of hw) (Nat.le_trans px.len (by decide)) ?_ ?_ λD H' e hL => ?_
 ·exact λR hR=>⟨_,rfl,_,rfl,p,zac,dx,_,_,rfl,hq,T.cl_Weights,T.na_Weights_weights,rfl,hR⟩
 ·exact λ_ _ _ h=>h
 ·exact λi H' R _ h=>⟨_,rfl,_,rfl,_,_,rfl,rfl,⟨bits px.nn px.hi i,bits hwn hwb i⟩,h⟩
 rw[znj]at hL
 refine⟨D,_,rfl,SqL.of hL,?_⟩
 refine⟨_,rfl,(by show 1<=sizeLine;decide),λl hl => ?_⟩
 have e1:Same H' (upd H' l (HO.tup [V.int (wsum ws xs)])):=Same.upd hl
 have e2:=e.trans e1
 refine⟨_,rfl,t,_,rfl,.inr ⟨e2.seqT ht,?_⟩⟩
 refine⟨_,_,_,_,rfl,rfl,SqT.of (zaf),e2.seqT ht,by simp,by simp;exact Nat.le_trans (Nat.add_le_add_left px.len 1) (by rw[sizeLine_eq];decide),λz => ?_,λ_ r hr' => ?_⟩
 ·exact absurd (List.map_eq_nil_iff.mp z) px.ne
 ·exact k r _ (e2.updR (e2.free hr')) zaf
theorem scFitsO:FnScope ["self","many"] ["self","many"] (defScope zcv):=⟨rfl,rfl,rfl,by decide +kernel,rfl,by decide +kernel,by decide +kernel⟩
set_option maxHeartbeats 4000000 in
theorem zhz{At:Hp->Addr->Prop}(F:FunD K "fits" "Order.fits" zcv .none f fd)(T:Txt K mg zap zab zai zal zae zam zac zad zan)   : FnOk P w K mg base CX0 1 f fd ["self","many"] (spFits At λ_=>true):=by
 refine F.okN (k:=0) scFitsO (λvs H Q E h => ?_) (λcdv A outer s H vs Q E hr h => ?_)
 ·obtain⟨p,k,rfl,_⟩:=h
  rfl
 obtain⟨p,k,rfl,h⟩:=h
 refine⟨_,(zaj (zas (ze5))),?_⟩
 exact h.2 H (Same.refl _)
theorem scFitsW:FnScope ["self","many"] ["self","many"] (defScope zca):=⟨rfl,rfl,rfl,by decide +kernel,rfl,by decide +kernel,by decide +kernel⟩
set_option maxHeartbeats 4000000 in
theorem zql{ws:List Int}(F:FunD K "fits" "Weights.fits" zca .none f fd)(T:Txt K mg zap zab zai zal zae zam zac zad zan)   : FnOk P w K mg base CX0 1 f fd ["self","many"] (spFits (AtW zac ws) λk=>decide ((ws.length:Int)=k)):=by
 refine F.okN (k:=0) scFitsW (λvs H Q E h => ?_) (λcdv A outer s H vs Q E hr h => ?_)
 ·obtain⟨p,k,rfl,_⟩:=h
  rfl
 obtain⟨p,k,rfl,h⟩:=h
 refine⟨_,(zaj (zas (zd3 zed (zay (zbq (K:=K) rfl) rfl T.b_len PySem.boot_len ((zaa (zbb (K:=K) rfl (pv 0) rfl) zah))) (pv 1) (nomark _)))),?_⟩
 obtain⟨hp,q⟩:=h
 obtain⟨dx,wt,hq,hw⟩:=id hp
 refine⟨_,rfl,p,zac,dx,_,_,rfl,hq,T.cl_Weights,T.na_Weights_weights,rfl,wt,_,rfl,.inr (SqT.of hw),?_⟩
 rw[List.length_map]
 walk_at "rd"
 have:=q H (Same.refl _)
 rw[dI]
 exact this
theorem scFirst:FnScope ["self","terms"] ["self","terms"] (defScope zbn):=⟨rfl,rfl,rfl,by decide +kernel,rfl,by decide +kernel,by decide +kernel⟩
set_option maxHeartbeats 4000000 in
theorem zgd{C:Addr}{At:Hp->Addr->Prop}{rk:List Int->List Int}(F:FunD K "first_of" "Order.first_of" zbn .none f fd)(T:Txt K mg zap zab zai zal zae zam zac zad zan)(x_NoTerm:Exc K mg base "NoTerm" za0)(oC:OrdC C At)(mR:MCal P w K mg base CX0 3 C "rank" ["self","term"] [] (spRank At rk))(bR:BM K C "rank"):FnOk P w K mg base (CXe P w) 6 f fd ["self","terms"] (spFirst At rk za0):=by
 refine F.okX (k:=5) scFirst (λvs H Q E h => ?_) (λcdv A outer s H vs Q E hr h => ?_)
 ·obtain⟨p,l,ys,xss,rfl,_⟩:=h
  rfl
 obtain⟨p,l,ys,xss,rfl,h⟩:=h
 refine⟨_,(zag (zbc (zat zed (zay (zbq (K:=K) rfl) rfl T.b_len PySem.boot_len ((zaa (pv 1) zah))) (zak) (nomark _)) (zaj (zi4 x_NoTerm rfl rfl zbp ((zaa (zf5) zah)))) zav)
  (zaj (zas (zr9 mR bR (pv 1) (pv 0) hr .nil T.b_max)))),?_⟩
 obtain⟨hp,hl,ht,hw,k⟩:=h
 obtain⟨dx,fs,hq,nl⟩:=oC.ins hp
 refine⟨_,rfl,l,_,rfl,.inl (SqL.of hl),?_⟩
 walk_at "rd"
 refine cEq (λc => ?_) (λc => ?_)
 ·refine⟨(by show 1<=sizeLine;decide),?_⟩
  have y0:ys=[]:=List.length_eq_zero_iff.mp (by omega)
  rcases k with⟨_,k⟩ | ⟨q,_⟩
  ·exact k
  ·exact absurd y0 q
 rcases k with⟨q,_⟩ | ⟨_,k⟩
 ·rw[q]at c;exact absurd rfl c
 refine⟨_,rfl,_,rfl,p,dx,fs,l,ys,rfl,hq,nl "rank" (by decide +kernel),rfl,hl,?_⟩
 exact zu9 oC xss ys H hp hl ht hw (λz=>by rw[z]at c;exact c rfl) k
theorem scRgInit:FnScope ["self","many","field","order"] ["self","many","field","order"] (defScope zbu):=⟨rfl,rfl,rfl,by decide +kernel,rfl,by decide +kernel,by decide +kernel⟩
set_option maxHeartbeats 4000000 in
theorem zmr(F:FunD K "__init__" "Ring.__init__" zbu .none f fd)(T:Txt K mg zap zab zai zal zae zam zac zad zan)(x_NoRing:Exc K mg base "NoRing" zdi){za0:Addr}(hord:∀(kd:Int) (ws:List Int),0<=kd->kd < 4->Nn ws->(∀x∈ws,x < 10 ^ 31)->∃C,OrdP P w K mg base za0 C (AtK zal zae zam zac kd ws) (rkk kd ws) (fbK kd ws)):FnOk P w K mg base (CXe P w) 2 f fd ["self","many","field","order"] (spRgInit zap zdi zal zae zam zac):=by
 refine F.okX (k:=1) scRgInit (λvs H Q E h => ?_) (λcdv A outer s H vs Q E hr h => ?_)
 ·obtain⟨r,dx,m,pf,po,kd,ws,rfl,_⟩:=h
  rfl
 obtain⟨r,dx,m,pf,po,kd,ws,rfl,h⟩:=h
 obtain⟨C,O⟩:=hord kd ws h.2.1 h.2.2.1 h.2.2.2.1 h.2.2.2.2.1
 refine⟨_,(zag (zbc (PW.pt (zfe (zat zg7 (pv 1) (zak) (nomark _)) (zfe (zat zg4 (pv 1) (zay zi6 rfl T.b_len PySem.boot_len ((zaa (zpk T.g_LETTERS rfl) zah))) (nomark _)) (zfq (zd0 (zdj (pe_m O.fits (pv 3) hr pass00 .nil ((zaa (pv 1) zah))))))))) (zaj (zi4 x_NoRing rfl rfl zbp ((zaa (zf5) zah)))) zav)
  (zag (zfh (pv 0) (pv 1) rfl)
  (zag (zfh (pv 0) (pv 2) rfl)
  (zaj (zfh (pv 0) (pv 3) rfl))))),?_⟩
 obtain⟨hr0,k0,k4,wn,wb,hat,k⟩:=h
 have no:¬okR kd ws m->∀H',Same H H'->E (.ref zdi) none H':=λq=>by
  rcases k with⟨z,_⟩ | ⟨_,z⟩
  ·exact absurd z q
  ·exact z
 walk_at "rd"
 refine cD (λc => ?_) (λc => ?_)
 ·exact⟨(by show 1<=sizeLine;decide),no (λz=>by have:=z.1;omega) H (Same.refl _)⟩
 refine⟨_,rfl,_,rfl,(by decide +kernel),?_⟩
 rw[zpx]
 walk_at "rd"
 refine cD (λc1 => ?_) (λc1 => ?_)
 ·exact⟨(by show 1<=sizeLine;decide),no (λz=>by have:=z.2.1;omega) H (Same.refl _)⟩
 obtain⟨dO,fs,hq,nl⟩:=O.oC.ins hat
 refine⟨_,rfl,po,dO,fs,rfl,hq,nl "fits" (by decide +kernel),_,rfl,po,m,rfl,hat,λH1 e1 => ?_⟩
 refine⟨_,rfl,cNB (λc2 => ?_) (λc2 => ?_)⟩
 ·exact⟨(by show 1<=sizeLine;decide),no (λz=>by rw[z.2.2]at c2;cases c2) H1 e1⟩
 rcases k with⟨_,k⟩ | ⟨q,_⟩
 case inr=>exact absurd ⟨by omega,by omega,c2⟩ q
 have hr1:=e1 _ _ hr0
 refine⟨_,rfl,_,rfl,r,zap,dx,_,rfl,hr1,T.cl_Ring,T.na_Ring_many,(by show 0 < 1000;decide),?_⟩
 refine⟨_,rfl,_,rfl,r,zap,dx,_,rfl,zaf,T.cl_Ring,T.na_Ring_field,(by show 1 < 1000;decide),?_⟩
 refine⟨_,rfl,_,rfl,r,zap,dx,_,rfl,zaf,T.cl_Ring,T.na_Ring_order,(by show 2 < 1000;decide),?_⟩
 refine k _ zaf λb o hb ne => ?_
 rw[zao ne,zao ne,zao ne]
 exact e1 _ _ hb
theorem scProd:FnScope ["one","other"] ["one","other"] (defScope zd9):=⟨rfl,rfl,rfl,by decide +kernel,rfl,by decide +kernel,by decide +kernel⟩
set_option maxHeartbeats 4000000 in
theorem ztf(F:FunD K "product" "product" zd9 .none f fd)(T:Txt K mg zap zab zai zal zae zam zac zad zan)   : FnOk P w K mg base CX0 1 f fd ["one","other"] (spProd K):=by
 refine F.okN (k:=0) scProd (λvs H Q E h => ?_) (λcdv A outer s H vs Q E hr h => ?_)
 ·obtain⟨a,b,xs,ys,rfl,_⟩:=h
  rfl
 obtain⟨a,b,xs,ys,rfl,h⟩:=h
 refine⟨_,(zaj (zas (zbt (zch (K:=K) rfl) rfl T.b_tuple (by kernel_rfl) ((zaa (zc8 (N:=["power","further"]) (Blk.plain (by decide +kernel) (by decide +kernel) rfl (by decide +kernel) zek) rfl (zhx (K:=K) rfl true true rfl T.b_zip ((zaa (pv 0) (zaa (pv 1) zah)))) (λC0 s0 H0 fp0=>zke (K:=K) rfl rfl rfl zek rfl rfl) (λC0 s0 H0 fp0=>zdn) (λC0 s0 H0 fp0=>zaw zdw (pv 0) (pv 1))) zah))))),?_⟩
 obtain⟨ha,hb,hl,k⟩:=h
 show tComp _ _ _ _ _ _ _ _
 refine zga (K:=K) (b1:=true) (b2:=true) (a:=a) (b:=b) (xs:=xs) (ys:=ys) yes2 (λx y => .int (x + y)) (by rfl) ?_ ha hb hl ?_ ?_ λD H' e hL => ?_
 ·exact λR hR=>⟨_,rfl,_,rfl,hR⟩
 ·exact λ_ _ _ h=>h
 ·exact λi H' R _ h=>⟨_,rfl,_,rfl,_,_,rfl,rfl,h⟩
 rw[znj (λx y=>x + y)]at hL
 refine⟨D,_,rfl,.inl ⟨SqL.of hL,λr hr => ?_⟩⟩
 exact k r _ (e.trans (Same.upd hr)) zaf
theorem scGoes:FnScope ["one","other"] ["one","other"] (defScope zdc):=⟨rfl,rfl,rfl,by decide +kernel,rfl,by decide +kernel,by decide +kernel⟩
set_option maxHeartbeats 4000000 in
theorem ztm(F:FunD K "goes_into" "goes_into" zdc .none f fd)(T:Txt K mg zap zab zai zal zae zam zac zad zan)   : FnOk P w K mg base CX0 1 f fd ["one","other"] (spGoes K):=by
 refine F.okN (k:=0) scGoes (λvs H Q E h => ?_) (λcdv A outer s H vs Q E hr h => ?_)
 ·obtain⟨a,b,xs,ys,rfl,_⟩:=h
  rfl
 obtain⟨a,b,xs,ys,rfl,h⟩:=h
 refine⟨_,(zaj (zas (zay (zi8 (K:=K) rfl rfl) rfl T.b_all (by kernel_rfl) ((zaa (zc8 (N:=["power","bound"]) (Blk.plain (by decide +kernel) (by decide +kernel) rfl (by decide +kernel) zfb) rfl (zhx (K:=K) rfl true true rfl T.b_zip ((zaa (pv 0) (zaa (pv 1) zah)))) (λC0 s0 H0 fp0=>zke (K:=K) rfl rfl rfl zfb rfl rfl) (λC0 s0 H0 fp0=>zdn) (λC0 s0 H0 fp0=>zd3 zuo (pv 0) (pv 1) (nomark _))) zah))))),?_⟩
 obtain⟨ha,hb,he,hl,k⟩:=h
 show tComp _ _ _ _ _ _ _ _
 refine zga (K:=K) (b1:=true) (b2:=true) (a:=a) (b:=b) (xs:=xs) (ys:=ys) yes2 (λx y => .bl (decide (x<=y))) (by rfl) ?_ ha hb hl ?_ ?_ λD H' e hL => ?_
 ·exact λR hR=>⟨_,rfl,_,rfl,hR⟩
 ·exact λ_ _ _ h=>h
 ·exact λi H' R _ h=>⟨_,rfl,_,rfl,_,_,rfl,rfl,h⟩
 refine⟨D,(List.range xs.length).map λi=>decide (xs.getD i 0<=ys.getD i 0),rfl,SqL.of ?_,?_⟩
 ·rw[hL]
  unfold zipV
  rw[List.filter_eq_self.mpr (λ_ _=>rfl),List.map_map,<- he,Nat.min_self]
  rfl
 ·have e2:((List.range xs.length).map λi=>decide (xs.getD i 0<=ys.getD i 0)).all id=goesI xs ys:=by
   unfold goesI
   rw[List.all_map];rfl
  rw[e2]
  exact k _ e
theorem scLeftO:FnScope ["one","other"] ["one","other"] (defScope zdd):=⟨rfl,rfl,rfl,by decide +kernel,rfl,by decide +kernel,by decide +kernel⟩
set_option maxHeartbeats 4000000 in
theorem zo4(F:FunD K "left_over" "left_over" zdd .none f fd)(T:Txt K mg zap zab zai zal zae zam zac zad zan)(c_Goes:Cal P w K mg base CX0 1 "goes_into" ["one","other"] [] (spGoes K))(x_NoTerm:Exc K mg base "NoTerm" za0)  : FnOk P w K mg base (CXe P w) 2 f fd ["one","other"] spLeft:=by
 refine F.okX (k:=1) scLeftO (λvs H Q E h => ?_) (λcdv A outer s H vs Q E hr h => ?_)
 ·obtain⟨a,b,xs,ys,rfl,_⟩:=h
  rfl
 obtain⟨a,b,xs,ys,rfl,h⟩:=h
 refine⟨_,(zag (zbc (zd0 (zdj (pe_c c_Goes hr pass00 .nil ((zaa (pv 0) (zaa (pv 1) zah)))))) (zaj (zi4 x_NoTerm rfl rfl zbp ((zaa (zf5) zah)))) zav)
  (zaj (zas (zbt (zch (K:=K) rfl) rfl T.b_tuple (by kernel_rfl) ((zaa (zc8 (N:=["power","whole"]) (Blk.plain (by decide +kernel) (by decide +kernel) rfl (by decide +kernel) ze6) rfl (zhx (K:=K) rfl true true rfl T.b_zip ((zaa (pv 0) (zaa (pv 1) zah)))) (λC0 s0 H0 fp0=>zke (K:=K) rfl rfl rfl ze6 rfl rfl) (λC0 s0 H0 fp0=>zdn) (λC0 s0 H0 fp0=>zaw ziy (pv 1) (pv 0))) zah)))))),?_⟩
 obtain⟨ha,hb,he,hl,hg,k⟩:=h
 refine⟨_,rfl,_,rfl,a,b,xs,ys,rfl,SqT.of ha,SqT.of hb,he,hl,λH1 e1=>⟨_,rfl,?_⟩⟩
 rw[hg]
 refine iteF ?_
 show tComp _ _ _ _ _ _ _ _
 refine zga (K:=K) (b1:=true) (b2:=true) (a:=a) (b:=b) (xs:=xs) (ys:=ys) yes2 (λx y => .int (y - x)) (by rfl) ?_ (SqT.of (e1 _ _ ha)) (SqT.of (e1 _ _ hb)) hl ?_ ?_ λD H' e hL => ?_
 ·exact λR hR=>⟨_,rfl,_,rfl,hR⟩
 ·exact λ_ _ _ h=>h
 ·exact λi H' R _ h=>⟨_,rfl,_,rfl,_,_,rfl,rfl,h⟩
 rw[znj (λx y=>y - x)]at hL
 refine⟨D,_,rfl,.inl ⟨SqL.of hL,λr hr => ?_⟩⟩
 refine k r _ ((e1.trans e).trans (Same.upd hr)) ?_
 rw[zaf]
 congr 3
 unfold subT
 rw[List.zipWith_comm]
theorem scAbsorb:FnScope ["ring","total","f","nought","term","number"] ["ring","total","f"] (defScope ze3):=⟨rfl,rfl,rfl,by decide +kernel,rfl,by decide +kernel,by decide +kernel⟩
set_option maxHeartbeats 4000000 in
theorem zoo(F:FunD K "absorb" "absorb" ze3 .none f fd)(T:Txt K mg zap zab zai zal zae zam zac zad zan)  (hfld:∀n:Int,n<=9973->(n=0\/Pr n)->∃C,FldP P w K mg base C (AtN zab zai n) n):FnOk P w K mg base CX0 4 f fd ["ring","total","f"] (spAbs zap zab zai zal zae zam zac):=by
 refine F.okN (k:=3) scAbsorb (λvs H Q E h => ?_) (λcdv A outer s H vs Q E hr h => ?_)
 ·obtain⟨F,fF,r,d,e,g,cF,kvs,fvs,φ,ψ,rfl,_⟩:=h
  rfl
 obtain⟨F,fF,r,d,e,g,cF,kvs,fvs,φ,ψ,rfl,h⟩:=h
 obtain⟨CF,B⟩:=hfld g.n h.1.nb h.1.np
 refine⟨_,(zag (zau (i:=3) scAbsorb.nd rfl (Or.inl rfl) (zqp B.nought (zbb (K:=K) rfl (pv 0) rfl) hr pass00 .nil))
  (zaj (zil (zf4 PassesOwn.never rfl (zf9 (pv 2)) (zg8 rfl (zcp (zb2 (i:=4) scAbsorb.nd rfl (Or.inl rfl)) (zcp (zb2 (i:=5) scAbsorb.nd rfl (Or.inl rfl)) zfv))) (zag (zbc (zk5 (znv (uOne hr) (pv 4) (pv 1))) (zaj (zau (i:=5) scAbsorb.nd rfl (Or.inl rfl) (pe_m B.plus (zbb (K:=K) rfl (pv 0) rfl) hr pass00 .nil ((zaa (zig (uOne hr) (pv 1) (pv 4) (λ_ _=>rfl)) (zaa (pv 5) zah)))))) zav)
  (zaj (zbc (zat (zkt hr.units) (pv 5) (pv 3) (nomark _)) (zaj (zdo (zjy (uOne hr) (pv 1) ((zaa (pv 4) zah))))) (zaj (zfc (uOne hr) (pv 1) (pv 4) (pv 5) rfl))))))))),?_⟩
 obtain⟨hR,de,hd,he,pF,pG,hl,bF,bG,k⟩:=h
 obtain⟨dx,hr0⟩:=hR.at_
 have hf:=hR.fd
 obtain⟨dF,hF⟩:=B.ins hf
 refine⟨_,rfl,r,zap,dx,_,_,rfl,hr0,T.cl_Ring,T.na_Ring_field,rfl,g.pf,dF,_,rfl,hF,no_P _ _ (by decide +kernel),F,fF,cF,g.pf,rfl,hf,λu H1 e1 hu => ?_⟩
 rw[zb1]at hu
 refine⟨_,rfl,e,fvs,rfl,.inl (e1 _ _ he),λo => ?_⟩
 have ntd:=pG.tnd
 have lt:=zem fvs
 have h1d:=e1 _ _ hd
 have hHe:H1 e=some (.dT fvs):=e1 _ _ he
 refine zfr (λi σ H'=>i<=fvs.length/\(∃v4 v5,σ = [some (.ref r),some (.ref d),some (.ref e),some u,v4,v5])/\FzD H' e o fvs/\Kp [d,e] H1 H'/\∃kv,H' d=some (.dT kv)/\PF g.n g.m H' kv (λt=>φ t + cutP ψ ((tms fvs).take i) t)/\kv.length<=kvs.length + i) ?_ (λi σ H' h=>h.2.2.1) ?_ ?_
 ·refine⟨Nat.zero_le _,⟨none,none,rfl⟩,zaf,Kp.upd (by simp),kvs,?_,?_,Nat.le_refl _⟩
  ·rw[zao de];exact h1d
  ·refine((pF.same e1).fix (zcl hHe)).congr λt => ?_
   rw[List.take_zero,zhp];grind
 ·rintro i kx v σ H2 p b hk ⟨hi,⟨v4,v5,rfl⟩,hz,hk2,kv,hd2,pk,lk⟩ hp hb
  obtain⟨t,rfl,t0,ht,iv,nv⟩:=pG.ix hk
  have hlt:=za1 hk
  have hti:=zr7 ntd ht
  have tk:=zen ht
  have fx:Fix H1 H2:=hk2.fix λa ha ob hob=>by
   rcases List.mem_cons.mp ha with rfl | ha
   ·rw[h1d]at hob;cases hob;exact .inl ⟨_,rfl⟩
   ·rw[List.mem_singleton.mp ha,hHe]at hob;cases hob;exact .inl ⟨_,rfl⟩
  have fx2:Fix H H2:=(Fix.of e1).tr fx
  refine⟨p,_,rfl,SqT.of zaf,rfl,_,_,rfl,_,_,rfl,rfl,?_⟩
  have e3:Same H2 (upd H2 p (.tup [.ref b,v])):=Same.upd hp
  generalize upd H2 p (HO.tup [V.ref b,v])=H3 at e3
  have hb3:=e3 _ _ hb
  have hd3:=e3 _ _ hd2
  have fx3:Fix H H3:=fx2.tr (.of e3)
  unfold gName
  dsimp only
  have cut0:cutP ψ ((tms fvs).take i) t=0:=zky hti
  refine zgn (λσ' H'=>Same H3 H'/\∃v',σ'=[some (.ref r),some (.ref d),some (.ref e),some u,some (.ref b),some v']/\Rep g.n H' v' (φ t + ψ t)/\(valV kv (ky t)=none->φ t + ψ t≠0)) ?_ ?_
  rotate_left
  ·intro N hN
   refine⟨_,rfl,_,rfl,d,_,rfl,DGet.t hd3 hb3,_,rfl,?_⟩
   cases hval:valV kv (ky t) with
   | none=>
    have z:=pk.out t hval
    rw[cut0]at z
    have z2 : φ t=0:=by grind
    have e0 : φ t + ψ t = ψ t:=by rw[z2];grind
    refine iteF (hN _ _ ⟨Same.refl _,v,rfl,?_,λ_=>by rw[e0];exact nv⟩)
    rw[e0];exact iv.fix fx3
   | some v0=>
    obtain⟨a1,a2⟩:=pk.val t v0 hval
    rw[cut0]at a1
    have e0 : φ t + 0 = φ t:=by grind
    rw[e0]at a1
    refine iteT ⟨_,rfl,r,zap,dx,_,_,rfl,fx3.ins hr0,T.cl_Ring,T.na_Ring_field,rfl,g.pf,dF,_,rfl,fx3.ins hF,no_P _ _ (by decide +kernel),_,rfl,_,rfl,d,v0,rfl,?_,_,rfl,F,fF,cF,g.pf,v0,v,φ t,ψ t,rfl,zif fx3 hf,a1.same e3,iv.fix fx3,bF t,bG t,λv' H4 e4 hv'=>hN _ _ ⟨e4,v',rfl,hv',λz=>(by rw[hval]at z;cases z)⟩⟩
    have:=DGet.t (k:=ky t) hd3 hb3
    rw[hval]at this
    exact this
  rintro σ' H4 ⟨e4,v',rfl,iv',hno⟩
  have g4:=e3.trans e4
  have hd4:=e4 _ _ hd3
  have hb4:=e4 _ _ hb3
  have hz4:FzD H4 e o fvs:=g4 _ _ hz
  have hk4:Kp [d,e] H1 H4:=hk2.tr (.of g4)
  have pk4:=pk.same g4
  obtain⟨dn,z0,rd,rz,s1,s2,eq⟩:=zho (K:=K) iv' ((hu.fix fx).same g4)
  refine⟨_,rfl,_,rfl,dn,z0,rd,rz,s1,s2,_,rfl,?_⟩
  rcases eq with⟨z,q⟩ | ⟨z,q⟩
  ·rw[q]
   refine iteT ?_
   cases hval:valV kv (ky t) with
   | none=>exact absurd z (hno hval)
   | some v0=>
    refine⟨_,rfl,.inr (.inr (.inl ⟨rfl,.inr ⟨_,hd4⟩⟩)),_,rfl,d,b,kv,ky t,v0,rfl,rfl,hd4,hb4,hval,?_⟩
    refine⟨hlt,⟨_,_,rfl⟩,(zao (Ne.symm de)).trans hz4,hk4.tr (Kp.upd (by simp)),_,zaf,?_,?_⟩
    ·rw[tk,<- zko,z]
     exact(pk4.drop t).fix (zcl hd4)
    ·have:=zic kv (ky t);omega
  ·rw[q]
   refine iteF ⟨_,rfl,_,rfl,_,rfl,d,_,rfl,DPut.t hd4 hb4 (by omega),?_⟩
   refine⟨hlt,⟨_,_,rfl⟩,(zao (Ne.symm de)).trans hz4,hk4.tr (Kp.upd (by simp)),_,zaf,?_,?_⟩
   ·rw[tk,<- zko]
    exact(pk4.put t0 iv' z).fix (zcl hd4)
   ·have:=zdh kv (ky t) v';omega
 ·rintro σ H2 ⟨_,⟨v4,v5,rfl⟩,hz,hk2,kv,hd2,pk,lk⟩
  rw[<- lt,List.take_length,zh9 λt ht=>pG.tmem.mpr ht]at pk
  refine .inr ⟨e,o,_,hz,λo' w' z => ?_,k _ kv (λb ob hb hbd => ?_) ?_ ?_ lk⟩
  ·have z':H e=some (.frz o' w'):=z
   rw[he]at z';cases z'
  ·by_cases be:b=e
   ·subst be;rw[zaf,<- he];exact hb
   ·rw[zao be]
    exact hk2 _ _ (e1 _ _ hb) (by simp at hbd;simp[hbd,be])
  ·rw[zao de];exact hd2
  ·exact pk.fix (zgf (u := .dT []) hz (.inr (.inr ⟨_,_,rfl⟩)))
theorem scScal:FnScope ["ring","number","term","f","found","part","factor"] ["ring","number","term","f"] (defScope zey):=⟨rfl,rfl,rfl,by decide +kernel,rfl,by decide +kernel,by decide +kernel⟩
set_option maxHeartbeats 4000000 in
theorem ztl(F:FunD K "scaled" "scaled" zey .none f fd)(T:Txt K mg zap zab zai zal zae zam zac zad zan)(c_Prod:Cal P w K mg base CX0 1 "product" ["one","other"] [] (spProd K))(hfld:∀n:Int,n<=9973->(n=0\/Pr n)->∃C,FldP P w K mg base C (AtN zab zai n) n):FnOk P w K mg base CX0 4 f fd ["ring","number","term","f"] (spScal zap zab zai zal zae zam zac):=by
 refine F.okN (k:=3) scScal (λvs H Q E h => ?_) (λcdv A outer s H vs Q E hr h => ?_)
 ·obtain⟨F,fF,r,v,t,e,g,cF,fvs,x,l,ψ,rfl,_⟩:=h
  rfl
 obtain⟨F,fF,r,v,t,e,g,cF,fvs,x,l,ψ,rfl,h⟩:=h
 obtain⟨CF,B⟩:=hfld g.n h.1.nb h.1.np
 refine⟨_,(zag (zbc (zat (zkt hr.units) (pv 1) (zqp B.nought (zbb (K:=K) rfl (pv 0) rfl) hr pass00 .nil) (nomark _)) (zaj (zas (zc5))) zav)
  (zag (zau (i:=4) scScal.nd rfl (Or.inl rfl) (zc5))
  (zag (zil (zf4 PassesOwn.never rfl (zf9 (pv 3)) (zg8 rfl (zcp (zb2 (i:=5) scScal.nd rfl (Or.inl rfl)) (zcp (zb2 (i:=6) scScal.nd rfl (Or.inl rfl)) zfv))) (zaj (zfc (uOne hr) (pv 4) (pe_c c_Prod hr pass00 .nil ((zaa (pv 2) (zaa (pv 5) zah)))) (pe_m B.times (zbb (K:=K) rfl (pv 0) rfl) hr pass00 .nil ((zaa (pv 1) (zaa (pv 6) zah)))) rfl))))
  (zaj (zas (pv 4)))))),?_⟩
 obtain⟨hR,iv,bx,ht,okl,he,pT,bT,hl,k⟩:=h
 obtain⟨dx,hr0⟩:=hR.at_
 have hf:=hR.fd
 obtain⟨dF,hF⟩:=B.ins hf
 refine⟨_,rfl,_,rfl,r,zap,dx,_,_,rfl,hr0,T.cl_Ring,T.na_Ring_field,rfl,g.pf,dF,_,rfl,hF,no_P _ _ (by decide +kernel),F,fF,cF,g.pf,rfl,hf,λu H1 e1 hu => ?_⟩
 rw[zb1]at hu
 obtain⟨dn,z0,rd,rz,s1,s2,eq⟩:=zho (K:=K) (iv.same e1) hu
 refine⟨dn,z0,rd,rz,s1,s2,_,rfl,?_⟩
 rcases eq with⟨z,q⟩ | ⟨z,q⟩
 ·rw[q]
  refine iteT ?_
  intro d nd0
  refine k d _ [] (e1.free nd0) (e1.updR (e1.free nd0)) zaf (PF.nil.congr λt=>by rw[z];grind) (Nat.zero_le _)
 ·rw[q]
  refine iteF ?_
  intro d nd0
  have e2:Same H1 (upd H1 d (.dT [])):=Same.upd nd0
  have hd2:(upd H1 d (HO.dT [])) d=some (.dT []):=zaf
  generalize upd H1 d (HO.dT [])=H2 at e2 hd2
  have g2:=e1.trans e2
  have he2:=g2 _ _ he
  have de:d≠e:=λz=>by subst z;rw[e1 _ _ he]at nd0;cases nd0
  refine⟨_,rfl,e,fvs,rfl,.inl he2,λo => ?_⟩
  have ntd:=pT.tnd
  have ltk:=zem fvs
  refine zfr (λi σ H'=>i<=fvs.length/\(∃v5 v6,σ = [some (.ref r),some v,some (.ref t),some (.ref e),some (.ref d),v5,v6])/\FzD H' e o fvs/\Kp [d,e] H2 H'/\∃kv,H' d=some (.dT kv)/\PF g.n g.m H' kv (λt=>x * sh l (cutP ψ ((tms fvs).take i)) t)/\kv.length<=i) ?_ (λi σ H' h=>h.2.2.1) ?_ ?_
  ·refine⟨Nat.zero_le _,⟨none,none,rfl⟩,zaf,Kp.upd (by simp),[],?_,PF.nil.congr λt => ?_,Nat.zero_le _⟩
   ·rw[zao de];exact hd2
   ·rw[List.take_zero,zhp];unfold sh;split <;> grind
  ·rintro i kx vx σ H3 p b hk ⟨hi,⟨v5,v6,rfl⟩,hz,hk3,kv,hd3,pk,lk⟩ hp hb
   obtain⟨y,rfl,y0,hy,iy,ny⟩:=pT.ix hk
   have hlt:=za1 hk
   have hti:=zr7 ntd hy
   have tk:=zen hy
   have fx3:Fix H H3:=(Fix.of g2).tr (hk3.fix λa ha ob hob=>by
    rcases List.mem_cons.mp ha with rfl | ha
    ·rw[hd2]at hob;cases hob;exact .inl ⟨_,rfl⟩
    ·rw[List.mem_singleton.mp ha,he2]at hob;cases hob;exact .inl ⟨_,rfl⟩)
   refine⟨p,_,rfl,SqT.of zaf,rfl,_,_,rfl,_,_,rfl,rfl,?_⟩
   have e4:Same H3 (upd H3 p (.tup [.ref b,vx])):=Same.upd hp
   generalize upd H3 p (HO.tup [V.ref b,vx])=H4 at e4
   have fx4:Fix H H4:=fx3.tr (.of e4)
   refine⟨_,rfl,r,zap,dx,_,_,rfl,fx4.ins hr0,T.cl_Ring,T.na_Ring_field,rfl,g.pf,dF,_,rfl,fx4.ins hF,no_P _ _ (by decide +kernel),_,rfl,_,rfl,F,fF,cF,g.pf,v,vx,x,ψ y,rfl,zif fx4 hf,iv.fix fx4,iy.fix fx4,bx,bT y,λv' H5 e5 hv' => ?_⟩
   have hb4:=e4 _ _ hb
   rw[zeq]at hb4
   refine⟨_,rfl,_,rfl,_,rfl,t,b,l,y,rfl,SqT.of (e5 _ _ (fx4.tup _ _ ht)),SqT.of (e5 _ _ hb4),by rw[okl.len];exact Nat.le_trans hR.m4 (by decide),λrr H6 e6 hrr => ?_⟩
   have g6:=(e4.trans e5).trans e6
   have hd6:=g6 _ _ hd3
   refine⟨d,_,rfl,DPut.t hd6 (by rw[zeq];exact hrr) (by omega),?_⟩
   refine⟨hlt,⟨_,_,rfl⟩,(zao (Ne.symm de)).trans (g6 _ _ hz),(hk3.tr (.of g6)).tr (Kp.upd (by simp)),_,zaf,?_,?_⟩
   ·rw[tk,<- zi3 (y0.len.trans okl.len.symm)]
    refine((pk.same g6).put (T0.add okl y0) (hv'.same e6) ?_).fix (zcl hd6)
    intro z'
    rcases Classical.em (x=0) with q' | q'
    ·exact z q'
    ·apply ny;grind
   ·have:=zdh kv (ky (addT l y)) v';omega
  ·rintro σ H3 ⟨_,⟨v5,v6,rfl⟩,hz,hk3,kv,hd3,pk,lk⟩
   rw[<- ltk,List.take_length,zh9 λt ht=>pT.tmem.mpr ht]at pk
   refine .inr ⟨e,o,_,hz,λo' w' z => ?_,?_⟩
   ·have z':H e=some (.frz o' w'):=z
    rw[he]at z';cases z'
   refine⟨_,rfl,k d _ kv (e1.free nd0) (λc ob hc => ?_) ((zao de).trans hd3) ?_ lk⟩
   ·by_cases ce:c=e
    ·subst ce;rw[zaf,<- he];exact hc
    ·rw[zao ce]
     exact hk3 _ _ (g2 _ _ hc) (by simp only[List.mem_cons,List.not_mem_nil,or_false,not_or];exact⟨(λz=>by subst z;rw[e1 _ _ hc]at nd0;cases nd0),ce⟩)
   ·exact pk.fix (zgf (u := .dT []) hz (.inr (.inr ⟨_,_,rfl⟩)))
theorem scFT:FnScope ["ring","f"] ["ring","f"] (defScope zcw):=⟨rfl,rfl,rfl,by decide +kernel,rfl,by decide +kernel,by decide +kernel⟩
set_option maxHeartbeats 4000000 in
theorem zv2(F:FunD K "first_term" "first_term" zcw .none f fd)(T:Txt K mg zap zab zai zal zae zam zac zad zan)(x_NoLead:Exc K mg base "NoLead" zei){za0:Addr}(hord:∀(kd:Int) (ws:List Int),0<=kd->kd < 4->Nn ws->(∀x∈ws,x < 10 ^ 31)->∃C,OrdP P w K mg base za0 C (AtK zal zae zam zac kd ws) (rkk kd ws) (fbK kd ws)):FnOk P w K mg base (CXe P w) 8 f fd ["ring","f"] (spFT zap zab zai zal zae zam zac):=by
 refine F.okX (k:=7) scFT (λvs H Q E h => ?_) (λcdv A outer s H vs Q E hr h => ?_)
 ·obtain⟨F,fF,r,d,g,cF,kvs,φ,rfl,_⟩:=h
  rfl
 obtain⟨F,fF,r,d,g,cF,kvs,φ,rfl,h⟩:=h
 obtain⟨C,O⟩:=hord g.kd g.ws h.1.k0 h.1.k4 h.1.wn h.1.wb
 refine⟨_,(zag (zbc (zat (zj6 hr.units) (pv 1) (zc5) (nomark _)) (zaj (zi4 x_NoLead rfl rfl zbp ((zaa (zf5) zah)))) zav)
  (zaj (zas (pe_m O.first (zbb (K:=K) rfl (pv 0) rfl) hr zd1 .nil ((zaa (zbt (zlv rfl) rfl T.b_list (by kernel_rfl) ((zaa (pv 1) zah))) zah)))))),?_⟩
 obtain⟨hR,hd,pk,tb,ne,k⟩:=h
 obtain⟨dx,hr0⟩:=hR.at_
 walk_at "rd"
 intro d2 nd2
 have e1:Same H (upd H d2 (.dT [])):=Same.upd nd2
 have hd2:(upd H d2 (HO.dT [])) d2=some (.dT []):=zaf
 generalize upd H d2 (HO.dT [])=H1 at e1 hd2
 obtain⟨da,kds,fl,_⟩:=(pk.same e1).kds (K:=K)
 have ld:kvs.length=da.length:=Paired.length kds
 refine⟨d,d2,kvs,[],da,[],rfl,rfl,.inl (e1 _ _ hd),.inl hd2,kds,.nil,fl,(λ_ z=>by cases z),_,rfl,?_⟩
 have eq0:eqKD da []=false:=by
  unfold eqKD
  cases da with
  | nil=>exact absurd (List.length_eq_zero_iff.mp ld) ne
  | cons x l=>rfl
 rw[eq0]
 refine iteF ?_
 obtain⟨dO,fs,hO,nl⟩:=O.oC.ins hR.od
 refine⟨_,rfl,r,zap,dx,_,_,rfl,e1 _ _ hr0,T.cl_Ring,T.na_Ring_order,rfl,g.po,dO,fs,rfl,e1 _ _ hO,nl "first_of" (by decide +kernel),_,rfl,d,kvs,rfl,.inl (e1 _ _ hd),λl as hl la hi => ?_⟩
 have e2:Same H1 (upd H1 l (.lst (as.map V.ref))):=Same.upd hl
 have g2:=e1.trans e2
 have ek:=pk.keys
 have hp:=K6.tms_list (m:=g.m) (l:=l) ek la hi
 have pw:∀xs∈tms kvs,Pws xs:=λxs hx=>zq7 (pk.sp xs (pk.tmem.mp hx)) hR.m1 hR.m4 (tb xs (pk.tmem.mp hx))
 have ne2:as.map V.ref≠[]:=λz=>ne (List.length_eq_zero_iff.mp (by rw[<- la];have:=congrArg List.length z;simpa using this))
 refine⟨g.po,l,as.map V.ref,tms kvs,rfl,O.oC.same g2 hR.od,zaf,pimp (λ_ _ q=>q.same e2) hp,pw,.inr ⟨ne2,λH' xs v e3 hm hx => ?_⟩⟩
 have g3:=g2.trans e3
 have hp3:=pimp (λ_ _ q=>(q.same e2).same e3) hp
 obtain⟨a,rfl,ha⟩:=pz hp3 _ hm
 have hxm:=(List.of_mem_zip hm).1
 refine k H' xs a g3 ha ⟨pk.tmem.mp hxm,λt ht => ?_⟩
 obtain⟨v',hv'⟩:=zrb (l:=tms kvs) (l':=as.map V.ref) (by rw[zem,List.length_map,la]) (pk.tmem.mpr ht)
 exact zul hR.om (pk.sp xs (pk.tmem.mp hxm)).len (pk.sp t ht).len (hx _ hv') |>.imp (λe=>e) λe=>e
theorem scPlace:FnScope ["self","rank","low","high","middle"] ["self","rank"] (defScope za9):=⟨rfl,rfl,rfl,by decide +kernel,rfl,by decide +kernel,by decide +kernel⟩
set_option maxHeartbeats 4000000 in
theorem zqh(F:FunD K "place_of" "Waiting.place_of" za9 .none f fd)(T:Txt K mg zap zab zai zal zae zam zac zad zan)   : FnOk P w K mg base CX0 1 f fd ["self","rank"] (spPlace zad):=by
 refine F.okN (k:=0) scPlace (λvs H Q E h => ?_) (λcdv A outer s H vs Q E hr h => ?_)
 ·obtain⟨a0,r,po,kn,ql,rk,ks,us,x,rfl,_⟩:=h
  rfl
 obtain⟨a0,r,po,kn,ql,rk,ks,us,x,rfl,h⟩:=h
 refine⟨_,(zag (zau (i:=2) scPlace.nd rfl (Or.inl rfl) (zak))
  (zag (zau (i:=3) scPlace.nd rfl (Or.inl rfl) (zay (zbq (K:=K) rfl) rfl T.b_len PySem.boot_len ((zaa (zbb (K:=K) rfl (pv 0) rfl) zah))))
  (zag (zeb PassesOwn.never (zat zg7 (pv 2) (pv 3) (nomark _)) (zag (zau (i:=4) scPlace.nd rfl (Or.inl rfl) (zaw zce (zaw zdw (pv 2) (pv 3)) (zak)))
  (zaj (zbc (zat (zus (uOne hr |> Nat.lt_of_succ_lt)) (zaz (r:=rIxT K) zax (zaz (r:=rIxL K) zd4 (zbb (K:=K) rfl (pv 0) rfl) (pv 4) (λ_ _=>rfl)) (zak) (λ_ _=>rfl)) (pv 1) (nomark _)) (zaj (zau (i:=2) scPlace.nd rfl (Or.inl rfl) (zaw zdw (pv 4) (zak)))) (zaj (zau (i:=3) scPlace.nd rfl (Or.inl rfl) (pv 4)))))))
  (zaj (zas (pv 2)))))),?_⟩
 obtain⟨hW,hr0,mono,lu,k⟩:=h
 obtain⟨dw,hw⟩:=hW.at_
 obtain⟨vs,hq,en⟩:=hW.ql
 have lv:vs.length=us.length:=(Paired.length en).symm
 refine⟨_,rfl,a0,zad,dw,_,_,rfl,hw,T.cl_Waiting,T.na_Waiting_queue,rfl,ql,vs,rfl,.inl (SqL.of hq),?_⟩
 refine⟨λm σ H'=>∃(lo hi:Nat) (v4:Option V),m=hi - lo/\σ = [some (.ref a0),some (.ref r),some (.int lo),some (.int hi),v4]/\H'=H/\lo<=hi/\hi<=us.length/\(∀(j:Nat) u,us[j]? = some u->j < lo->HT.lexLt (rk u) x=true)/\∀(j:Nat) u,us[j]? = some u->hi<=j->HT.lexLt (rk u) x=false,⟨_,0,vs.length,none,rfl,rfl,rfl,Nat.zero_le _,by omega,λj u _ z=>by omega,λj u hj z => ?_⟩,?_⟩
 ·have:=za1 hj;omega
 rintro m σ H' ⟨lo,hi,v4,rfl,rfl,rfl,lh,hu,hlo,hhi⟩
 refine⟨_,rfl,_,rfl,_,_,rfl,rfl,_,rfl,?_⟩
 refine cD (λc => ?_) (λc => ?_)
 ·have c':lo < hi:=by omega
  refine⟨λσ' H''=>∃(lo' hi':Nat) (v4:Option V),hi' - lo' < hi - lo/\σ'=[some (.ref a0),some (.ref r),some (.int lo'),some (.int hi'),v4]/\H''=H'/\lo'<=hi'/\hi'<=us.length/\(∀(j:Nat) u,us[j]? = some u->j < lo'->HT.lexLt (rk u) x=true)/\∀(j:Nat) u,us[j]? = some u->hi'<=j->HT.lexLt (rk u) x=false,?_,?_⟩
  ·rintro σ' H'' ⟨lo',hi',v5,l1,rfl,rfl,l2,l3,l4,l5⟩
   exact⟨_,l1,lo',hi',v5,rfl,rfl,rfl,l2,l3,l4,l5⟩
  have em:Int.fdiv ((lo:Int) + (hi:Int)) 2=(((lo + hi) / 2:Nat):Int):=by rw[Int.fdiv_eq_ediv_of_nonneg _ (by decide)];omega
  obtain⟨md,hmd⟩:∃md,md=(lo + hi) / 2:=⟨_,rfl⟩
  rw[<- hmd]at em
  have m1:lo<=md:=by omega
  have m2:md < hi:=by omega
  refine⟨_,rfl,_,rfl,_,_,rfl,rfl,_,_,rfl,rfl,⟨by decide,by decide⟩,?_⟩
  unfold gName
  dsimp only
  rw[em]
  have lm:md < vs.length:=by omega
  obtain⟨u,hu',p,r1,r2,ev,hp,hr1,hr2⟩:=pget en (List.getElem?_eq_getElem lm)
  refine⟨_,rfl,a0,zad,dw,_,_,rfl,hw,T.cl_Waiting,T.na_Waiting_queue,rfl,_,rfl,ql,vs,md,_,rfl,rfl,SqL.of hq,zdz (List.getElem?_eq_getElem lm),?_⟩
  rw[ev]
  refine⟨p,_,0,_,rfl,rfl,SqT.of hp,atI0,_,rfl,r1,r,rk u,x,rfl,rfl,SqT.of hr1,SqT.of hr0,_,rfl,?_⟩
  refine cB (λc1 => ?_) (λc1 => ?_)
  ·refine⟨_,rfl,_,_,rfl,rfl,md + 1,hi,_,by omega,rfl,rfl,by omega,by omega,λj u' hj l => ?_,hhi⟩
   rcases Nat.lt_or_ge j md with q | q
   ·exact mono j md u' u q hj hu' c1
   ·have:j=md:=by omega
    subst this
    rw[hu']at hj;cases hj;exact c1
  ·refine⟨_,rfl,lo,md,_,by omega,rfl,rfl,by omega,by omega,hlo,λj u' hj l => ?_⟩
   cases q:HT.lexLt (rk u') x with
   | false=>rfl
   | true=>
    rcases Nat.lt_or_ge md j with q' | q'
    ·rw[mono md j u u' q' hu' hj q]at c1;cases c1
    ·have:j=md:=by omega
     subst this
     rw[hu']at hj;cases hj;rw[c1]at q;cases q
 ·have e:lo=hi:=by omega
  subst e
  refine⟨_,rfl,k lo hu λj u hj=>⟨hlo j u hj,λq => ?_⟩⟩
  rcases Nat.lt_or_ge j lo with z | z
  ·exact z
  ·rw[hhi j u hj z]at q;cases q
theorem scPut:FnScope ["self","terms","term","rank"] ["self","terms"] (defScope zcj):=⟨rfl,rfl,rfl,by decide +kernel,rfl,by decide +kernel,by decide +kernel⟩
set_option maxHeartbeats 4000000 in
theorem zvi(F:FunD K "put" "Waiting.put" zcj .none f fd)(T:Txt K mg zap zab zai zal zae zam zac zad zan)(m_Place:MCal P w K mg base CX0 1 zad "place_of" ["self","rank"] [] (spPlace zad)){za0:Addr}(hord:∀(kd:Int) (ws:List Int),0<=kd->kd < 4->Nn ws->(∀x∈ws,x < 10 ^ 31)->∃C,OrdP P w K mg base za0 C (AtK zal zae zam zac kd ws) (rkk kd ws) (fbK kd ws)):FnOk P w K mg base CX0 5 f fd ["self","terms"] (spPut zam zal zae zac zad):=by
 refine F.okN (k:=4) scPut (λvs H Q E h => ?_) (λcdv A outer s H vs Q E hr h => ?_)
 ·obtain⟨a0,d,po,kn,ql,kd,ws,m,ks,us,ts,kvs,rfl,_⟩:=h
  rfl
 obtain⟨a0,d,po,kn,ql,kd,ws,m,ks,us,ts,kvs,rfl,h⟩:=h
 obtain⟨C,O⟩:=hord kd ws h.1 h.2.1 h.2.2.1 h.2.2.2.1
 refine⟨_,(zaj (zil (zf4 PassesOwn.never rfl (zr5 (pv 1)) (zb2 (i:=2) scPut.nd rfl (Or.inl rfl)) (zaj (zbc (zk5 (zog (uOne hr) (pv 2) (zbb (K:=K) rfl (pv 0) rfl))) (zag (zfc (uOne hr) (zbb (K:=K) rfl (pv 0) rfl) (pv 2) (ze5) rfl)
  (zag (zau (i:=3) scPut.nd rfl (Or.inl rfl) (pe_m O.rank (zbb (K:=K) rfl (pv 0) rfl) hr pass00 .nil ((zaa (pv 2) zah))))
  (zaj (zdo (ztn PySem.F.plainAttrs_list PySem.F.slot_list_insert PySem.F.type_list_insert znm (zbb (K:=K) rfl (pv 0) rfl) ((zaa (pe_m m_Place (pv 0) hr pass00 .nil ((zaa (pv 3) zah))) (zaa (zc6 ((zaa (pv 3) (zaa (pv 2) zah)))) zah)))))))) zav))))),?_⟩
 obtain⟨k0,k4,wn,wb,m1,m4,hat,hW,hd,hts,tok,dkn,hsr,husk,lk,lu,k⟩:=h
 obtain⟨dw,hw⟩:=hW.at_
 obtain⟨kv0,hkn,ek0⟩:=hW.kn
 obtain⟨vs0,hq,en0⟩:=hW.ql
 obtain⟨dO,fs,hO,nl⟩:=O.oC.ins hat
 have om:OrdM (rkk kd ws) m:=zrc kd wn m
 have lt:kvs.length=ts.length:=by have:=congrArg List.length hts;simpa using this
 have dql:d≠ql:=zdk hd hq (by intro z;cases z)
 have knql:kn≠ql:=zdk hkn hq (by intro z;cases z)
 refine⟨_,rfl,d,kvs,rfl,.inl hd,λo => ?_⟩
 refine zo3 (λi σ H'=>i<=kvs.length/\(∃v2 v3,σ = [some (.ref a0),some (.ref d),v2,v3])/\FzD H' d o kvs/\Kp [kn,ql,d] H H'/\∃(ks' us':List (List Int)),Wa zad (rkk kd ws) H' a0 po kn ql ks' us'/\us'.Pairwise (G.lt (rkk kd ws))/\(∀z,z∈us'↔z∈us\/(z∈ts.take i/\z ∉ ks))/\(∀z,z∈ks'↔z∈ks\/z∈ts.take i)/\ks'.length<=ks.length + i/\us'.length<=us.length + i) ?_ (λi σ H' h=>h.2.2.1) ?_ ?_
 ·refine⟨Nat.zero_le _,⟨none,none,rfl⟩,zaf,Kp.upd (by simp),ks,us,hW.fix (zcl hd) (λob q=>(zao (Ne.symm dkn)).trans q) (λob q=>(zao (Ne.symm dql)).trans q),hsr,λz=>by simp,λz=>by simp,Nat.le_refl _,Nat.le_refl _⟩
 ·rintro i kx v σ H2 b hk ⟨hi,⟨v2,v3,rfl⟩,hz,hk2,ks',us',hW2,sr2,mu,mk,lk2,lu2⟩ hb
  obtain⟨t,ht,rfl⟩:∃t,ts[i]? = some t/\kx=ky t:=by
   have q:(kvs.map (·.1))[i]? = some kx:=by rw[List.getElem?_map,hk];rfl
   rw[hts,List.getElem?_map]at q
   obtain⟨t,h1,h2⟩:=Option.map_eq_some_iff.mp q
   exact⟨t,h1,h2.symm⟩
  have hlt:=za1 hk
  have tk:=zen ht
  obtain⟨t0,tb⟩:=tok t (List.mem_of_getElem? ht)
  have fx2:Fix H H2:=hk2.fix λa ha ob hob=>by
   simp only[List.mem_cons,List.not_mem_nil,or_false]at ha
   rcases ha with rfl | rfl | rfl
   ·rw[hkn]at hob;cases hob;exact .inl ⟨_,rfl⟩
   ·rw[hq]at hob;cases hob;exact .inr (.inl ⟨_,rfl⟩)
   ·rw[hd]at hob;cases hob;exact .inl ⟨_,rfl⟩
  have hw2:=fx2.ins hw
  obtain⟨kv,hkn2,ek⟩:=hW2.kn
  obtain⟨vs,hq2,en⟩:=hW2.ql
  have lkv:kv.length=ks'.length:=by have:=congrArg List.length ek;simpa using this
  have lvs:vs.length=us'.length:=(Paired.length en).symm
  have inn:∀z,valV kv (ky z)=none↔z ∉ ks':=λz=>by
   have e:(valV kv (ky z)).isSome=true↔z∈ks':=by
    rw[mem_of_valV,ek,List.mem_map]
    exact⟨fun⟨u,hu,e⟩=>zf3 e ▸ hu,λh=>⟨z,h,rfl⟩⟩
   rw[<- e]
   cases valV kv (ky z) <;> simp
  unfold gName
  dsimp only
  refine⟨_,rfl,_,rfl,a0,zad,dw,_,_,rfl,hw2,T.cl_Waiting,T.na_Waiting_known,rfl,kn,_,rfl,DGet.t hkn2 hb,_,rfl,?_⟩
  cases hval:valV kv (ky t) with
  | some v0=>
   have tin:t∈ks':=Classical.byContradiction λz=>by rw[(inn t).mpr z]at hval;cases hval
   refine iteF ⟨hlt,⟨_,_,rfl⟩,hz,hk2,ks',us',hW2,sr2,λz => ?_,λz => ?_,by omega,by omega⟩
   ·rw[mu z,tk,List.mem_append,List.mem_singleton]
    constructor
    ·rintro(h | ⟨h,h'⟩)
     ·exact .inl h
     ·exact .inr ⟨.inl h,h'⟩
    ·rintro(h | ⟨h | h,h'⟩)
     ·exact .inl h
     ·exact .inr ⟨h,h'⟩
     ·subst h
      rcases(mk z).mp tin with q | q
      ·exact absurd q h'
      ·exact .inr ⟨q,h'⟩
   ·rw[mk z,tk,List.mem_append,List.mem_singleton]
    constructor
    ·rintro(h | h)
     ·exact .inl h
     ·exact .inr (.inl h)
    ·rintro(h | h | h)
     ·exact .inl h
     ·exact .inr h
     ·subst h;exact(mk z).mp tin
  | none=>
   have tnk:t ∉ ks':=(inn t).mp hval
   have tn1:t ∉ ks:=λz=>tnk ((mk t).mpr (.inl z))
   have tn2:t ∉ ts.take i:=λz=>tnk ((mk t).mpr (.inr z))
   refine iteT ⟨_,rfl,a0,zad,dw,_,_,rfl,hw2,T.cl_Waiting,T.na_Waiting_known,rfl,_,rfl,kn,_,rfl,DPut.t hkn2 hb (by omega),?_⟩
   have e3:Fix H2 (upd H2 kn (.dT (putK kv (ky t) (.bl true)))):=zcl hkn2
   have hkn3:(upd H2 kn (HO.dT (putK kv (ky t) (.bl true)))) kn=some (.dT (putK kv (ky t) (.bl true))):=zaf
   have k3:Kp [kn,ql,d] H2 (upd H2 kn (.dT (putK kv (ky t) (.bl true)))):=Kp.upd (by simp)
   have hq3:(upd H2 kn (HO.dT (putK kv (ky t) (.bl true)))) ql=some (.lst vs):=(zao (Ne.symm knql)).trans hq2
   have hz3:FzD (upd H2 kn (HO.dT (putK kv (ky t) (.bl true)))) d o kvs:=(zao dkn).trans hz
   have ek3:(putK kv (ky t) (V.bl true)).map (·.1)=(ks' ++ [t]).map ky:=by rw[zqk _ hval,List.map_append,List.map_append,ek];rfl
   generalize upd H2 kn (HO.dT (putK kv (ky t) (V.bl true)))=H3 at e3 hkn3 k3 hq3 hz3
   have fx3:=fx2.tr e3
   have hb3:=e3.tup _ _ hb
   rw[zeq]at hb3
   refine⟨_,rfl,a0,zad,dw,_,_,rfl,fx3.ins hw,T.cl_Waiting,T.na_Waiting_order,rfl,po,dO,fs,rfl,fx3.ins hO,nl "rank" (by decide +kernel),_,rfl,po,b,t,rfl,zmt fx3 hat,hb3,zq7 t0 m1 m4 tb,λr H4 e4 hr4 => ?_⟩
   have fx4:=fx3.tr (.of e4)
   have hq4:=e4 _ _ hq3
   have en4:=pimp (λ_ _ q=>Ent.fix (e3.tr (.of e4)) q) en
   have hW4:Wa zad (rkk kd ws) H4 a0 po kn ql (ks' ++ [t]) us':=⟨⟨dw,fx4.ins hw⟩,⟨_,e4 _ _ hkn3,ek3⟩,⟨vs,hq4,en4⟩,List.nodup_append.mpr ⟨hW2.nd,by simp,λa ha b hb e=>tnk (by rw[List.mem_singleton.mp hb]at e;rw[<- e];exact ha)⟩⟩
   refine⟨_,rfl,a0,zad,dw,_,_,rfl,fx4.ins hw,T.cl_Waiting,T.na_Waiting_queue,rfl,.inl ⟨rfl,_,SqL.of hq4⟩,?_⟩
   refine⟨_,rfl,a0,dw,_,rfl,fx4.ins hw,znz _ (by decide +kernel) (by decide +kernel) (by decide +kernel),_,rfl,a0,r,po,kn,ql,rkk kd ws,ks' ++ [t],us',rkk kd ws t,rfl,hW4,hr4,λx y u v' xy hx hy q => ?_,by omega,λj hj hj2 => ?_⟩
   ·have:=List.pairwise_iff_getElem.mp sr2 x y (za1 hx) (za1 hy) xy
    rw[List.getElem?_eq_getElem (za1 hx)]at hx
    rw[List.getElem?_eq_getElem (za1 hy)]at hy
    injection hx with hx
    injection hy with hy
    rw[hx,hy]at this
    exact lt_trans this q
   refine⟨_,rfl,_,rfl,(by show 2<=sizeLine;exact zl 2 (by decide)),λp np => ?_⟩
   have e5:Same H4 (upd H4 p (.tup [.ref r,.ref b])):=Same.upd np
   have hp5:(upd H4 p (HO.tup [.ref r,.ref b])) p=some (.tup [.ref r,.ref b]):=zaf
   generalize upd H4 p (HO.tup [V.ref r,V.ref b])=H5 at e5 hp5
   have hq5:=e5 _ _ hq4
   have et:Ent (rkk kd ws) H5 t (.ref p):=⟨p,r,b,rfl,hp5,e5 _ _ hr4,e5 _ _ (e4 _ _ hb3)⟩
   refine⟨ql,vs,j,.ref p,rfl,rfl,hq5,by omega,by omega,?_⟩
   have g5:Fix H5 (upd H5 ql (.lst (vs.take j ++ .ref p :: vs.drop j))):=zfu hq5
   have tnu:t ∉ us':=λz=>by
    rcases(mu t).mp z with q | q
    ·exact tn1 (husk t q).1
    ·exact tn2 q.1
   refine⟨hlt,⟨_,_,rfl⟩,?_,(hk2.tr k3).tr ((Kp.of (e4.trans e5)).tr (Kp.upd (by simp))),ks' ++ [t],us'.take j ++ t :: us'.drop j,⟨⟨dw,g5.ins (e5 _ _ (fx4.ins hw))⟩,⟨_,(zao knql).trans (e5 _ _ (e4 _ _ hkn3)),ek3⟩,⟨_,zaf,?_⟩,hW4.nd⟩,?_,λz => ?_,λz => ?_,?_,?_⟩
   ·exact(zao dql).trans (e5 _ _ (e4 _ _ hz3))
   ·exact pins (pimp (λ_ _ q=>Ent.fix ((Fix.of e5).tr g5) q) en4) (et.fix g5) j
   ·refine zl1 om sr2 (λu hu => ?_) t0 tnu hj2
    rcases(mu u).mp hu with q | q
    ·exact(husk u q).2
    ·exact(tok u (List.mem_of_mem_take q.1)).1
   ·rw[zr2,mu z,tk,List.mem_append,List.mem_singleton]
    constructor
    ·rintro((h | ⟨h,h'⟩) | h)
     ·exact .inl h
     ·exact .inr ⟨.inl h,h'⟩
     ·subst h;exact .inr ⟨.inr rfl,tn1⟩
    ·rintro(h | ⟨h | h,h'⟩)
     ·exact .inl (.inl h)
     ·exact .inl (.inr ⟨h,h'⟩)
     ·exact .inr h
   ·rw[List.mem_append,List.mem_singleton,mk z,tk,List.mem_append,List.mem_singleton]
    exact or_assoc
   ·rw[List.length_append];show _ + 1<=_;omega
   ·rw[List.length_append,List.length_cons,List.length_take,List.length_drop];omega
 ·rintro σ H2 ⟨_,⟨v2,v3,rfl⟩,hz,hk2,ks',us',hW2,sr2,mu,mk,lk2,lu2⟩
  rw[lt,List.take_length]at mu mk
  rw[lt]at lk2 lu2
  have fx2:Fix H H2:=hk2.fix λa ha ob hob=>by
   simp only[List.mem_cons,List.not_mem_nil,or_false]at ha
   rcases ha with rfl | rfl | rfl
   ·rw[hkn]at hob;cases hob;exact .inl ⟨_,rfl⟩
   ·rw[hq]at hob;cases hob;exact .inr (.inl ⟨_,rfl⟩)
   ·rw[hd]at hob;cases hob;exact .inl ⟨_,rfl⟩
  refine .inr ⟨d,o,_,hz,λo' w' z => ?_,?_⟩
  ·have z':H d=some (.frz o' w'):=z
   rw[hd]at z';cases z'
  refine k _ ks' us' (λb ob hb hbd => ?_) (hW2.fix (zgf (u := .dT []) hz (.inr (.inr ⟨_,_,rfl⟩))) (λob q=>(zao (Ne.symm dkn)).trans q) λob q=>(zao (Ne.symm dql)).trans q) sr2 mu mk lk2 lu2
  by_cases be:b=d
  ·subst be;rw[zaf,<- hd];exact hb
  ·rw[zao be]
   exact hk2 _ _ hb (by simp only[List.mem_cons,List.not_mem_nil,or_false,not_or]at hbd ⊢;exact⟨hbd.1,hbd.2,be⟩)
theorem scWaInit:FnScope ["self","order","terms"] ["self","order","terms"] (defScope za8):=⟨rfl,rfl,rfl,by decide +kernel,rfl,by decide +kernel,by decide +kernel⟩
set_option maxHeartbeats 4000000 in
theorem zno(F:FunD K "__init__" "Waiting.__init__" za8 .none f fd)(T:Txt K mg zap zab zai zal zae zam zac zad zan)(m_Put:MCal P w K mg base CX0 5 zad "put" ["self","terms"] [] (spPut zam zal zae zac zad)):FnOk P w K mg base CX0 6 f fd ["self","order","terms"] (spWaInit zam zal zae zac zad):=by
 refine F.okN (k:=5) scWaInit (λvs H Q E h => ?_) (λcdv A outer s H vs Q E hr h => ?_)
 ·obtain⟨a0,dx,d,po,kd,ws,m,ts,kvs,rfl,_⟩:=h
  rfl
 obtain⟨a0,dx,d,po,kd,ws,m,ts,kvs,rfl,h⟩:=h
 refine⟨_,(zag (zfh (pv 0) (pv 1) rfl)
  (zag (zfh (pv 0) (zc5) rfl)
  (zag (zfh (pv 0) (zfa (zah)) rfl)
  (zaj (zdo (pe_m m_Put (pv 0) hr pass00 .nil ((zaa (pv 2) zah)))))))),?_⟩
 obtain⟨hw,pw,k0,k4,wn,wb,m1,m4,hat,hd,hts,tok,lt,k⟩:=h
 refine⟨_,rfl,_,rfl,a0,zad,dx,_,rfl,hw,T.cl_Waiting,T.na_Waiting_order,(by show 0 < 1000;decide),?_⟩
 intro kn nkn
 have ew:a0≠kn:=λz=>by subst z;rw[zaf]at nkn;cases nkn
 have nkn0:H kn=none:=by rw[zao (Ne.symm ew)]at nkn;exact nkn
 refine⟨_,rfl,a0,zad,dx,_,rfl,(zao ew).trans zaf,T.cl_Waiting,T.na_Waiting_known,(by show 1 < 1000;decide),?_⟩
 refine⟨(by show 0<=sizeLine;exact Nat.zero_le _),λql nql => ?_⟩
 have ew2:a0≠ql:=λz=>by subst z;rw[zaf]at nql;cases nql
 have ek2:kn≠ql:=λz=>by subst z;rw[zao (Ne.symm ew),zaf]at nql;cases nql
 have nql0:H ql=none:=by rw[zao (Ne.symm ew2),zao (Ne.symm ek2),zao (Ne.symm ew2)]at nql;exact nql
 refine⟨_,rfl,a0,zad,dx,_,rfl,(zao ew2).trans zaf,T.cl_Waiting,T.na_Waiting_queue,(by show 2 < 1000;decide),?_⟩
 have key:∀(H4:Hp) (E1:XK),H4 a0=some (HO.ins zad dx [("order",.ref po),("known",.ref kn),("queue",.ref ql)])->Kp [a0] H H4->H4 kn=some (.dT [])->H4 ql=some (.lst [])->spPut zam zal zae zac zad [.ref a0,.ref d] H4 (λ_ H'=>Q .non H') E1:=by
  intro H4 E1 h1 h2 h3 h4
  have df:d≠a0:=zdk hd hw (by intro z;cases z)
  have dkn:d≠kn:=λz=>by subst z;rw[hd]at nkn0;cases nkn0
  refine⟨a0,d,po,kn,ql,kd,ws,m,[],[],ts,kvs,rfl,k0,k4,wn,wb,m1,m4,zs3 h2 hw hat pw,⟨⟨dx,h1⟩,⟨[],h3,rfl⟩,⟨[],h4,.nil⟩,List.nodup_nil⟩,h2 _ _ hd (by simp[df]),hts,tok,dkn,.nil,(λu hu=>by cases hu),by simpa using lt,by simpa using lt,λH' ks' us' kp wa sr mu mk l1 l2 => ?_⟩
  refine k H' kn ql ks' us' nkn0 nql0 (λb ob hb nb=>kp _ _ (h2 _ _ hb nb) ?_) wa sr (λz => ?_) (λz => ?_) (by simpa using l1) (by simpa using l2)
  ·simp only[List.mem_cons,List.not_mem_nil,or_false,not_or]
   exact⟨(λz=>by subst z;rw[nkn0]at hb;cases hb),(λz=>by subst z;rw[nql0]at hb;cases hb)⟩
  ·rw[mu z];simp
  ·rw[mk z];simp
 refine⟨_,rfl,a0,dx,_,rfl,zaf,znz _ (by decide +kernel) (by decide +kernel) (by decide +kernel),_,rfl,key _ E0 zaf (λb ob hb nb => ?_) ?_ ?_⟩
 ·rw[List.mem_singleton]at nb
  rw[zao nb,zao (λz=>by subst z;rw[nql0]at hb;cases hb),zao nb,zao (λz=>by subst z;rw[nkn0]at hb;cases hb),zao nb]
  exact hb
 ·rw[zao (Ne.symm ew),zao ek2,zao (Ne.symm ew)];exact zaf
 ·rw[zao (Ne.symm ew2)];exact zaf
theorem scEmp:FnScope ["self"] ["self"] (defScope za5):=⟨rfl,rfl,rfl,by decide +kernel,rfl,by decide +kernel,by decide +kernel⟩
set_option maxHeartbeats 4000000 in
theorem zvr(F:FunD K "is_empty" "Waiting.is_empty" za5 .none f fd)(T:Txt K mg zap zab zai zal zae zam zac zad zan)   : FnOk P w K mg base CX0 1 f fd ["self"] (spEmp zad):=by
 refine F.okN (k:=0) scEmp (λvs H Q E h => ?_) (λcdv A outer s H vs Q E hr h => ?_)
 ·obtain⟨a0,po,kn,ql,rk,ks,us,rfl,_⟩:=h
  rfl
 obtain⟨a0,po,kn,ql,rk,ks,us,rfl,h⟩:=h
 refine⟨_,(zaj (zas (zd3 (zkt hr.units) (zbb (K:=K) rfl (pv 0) rfl) (zfa (zah)) (nomark _)))),?_⟩
 obtain⟨hW,k⟩:=h
 obtain⟨dw,hw⟩:=hW.at_
 obtain⟨vs,hq,en⟩:=hW.ql
 refine⟨_,rfl,a0,zad,dw,_,_,rfl,hw,T.cl_Waiting,T.na_Waiting_queue,rfl,(by show 0<=sizeLine;exact Nat.zero_le _),λl nl => ?_⟩
 have e1:Same H (upd H l (.lst [])):=Same.upd nl
 refine⟨.list (eds rk us),.list [],.lst (SqL.of (e1 _ _ hq)) (zkh (pimp (λ_ _ q=>q.fix (.of e1)) en)),.lst (SqL.of zaf) .nil,zlz rk us,by decide,?_⟩
 rw[zp8]
 exact k _ e1
theorem scTaken:FnScope ["self"] ["self"] (defScope zbw):=⟨rfl,rfl,rfl,by decide +kernel,rfl,by decide +kernel,by decide +kernel⟩
set_option maxHeartbeats 4000000 in
theorem zqc(F:FunD K "taken" "Waiting.taken" zbw .none f fd)(T:Txt K mg zap zab zai zal zae zam zac zad zan)   : FnOk P w K mg base CX0 1 f fd ["self"] (spTaken zad):=by
 refine F.okN (k:=0) scTaken (λvs H Q E h => ?_) (λcdv A outer s H vs Q E hr h => ?_)
 ·obtain⟨a0,po,kn,ql,rk,ks,us,t,rfl,_⟩:=h
  rfl
 obtain⟨a0,po,kn,ql,rk,ks,us,t,rfl,h⟩:=h
 refine⟨_,(zaj (zas (zaz (r:=rIxT K) zax (zrl PySem.F.plainAttrs_list PySem.F.slot_list_pop PySem.F.type_list_pop zvf (zbb (K:=K) rfl (pv 0) rfl)) (zak) (λ_ _=>rfl)))),?_⟩
 obtain⟨hW,k⟩:=h
 obtain⟨dw,hw⟩:=hW.at_
 obtain⟨vs,hq,en⟩:=hW.ql
 obtain⟨zs,y,rfl,en',p,r,a,rfl,h1,h2,h3⟩:=punsn en
 obtain⟨kvs,hkn,ek⟩:=hW.kn
 have knql:kn≠ql:=zdk hkn hq (by intro z;cases z)
 refine⟨_,rfl,a0,zad,dw,_,_,rfl,hw,T.cl_Waiting,T.na_Waiting_queue,rfl,.inl ⟨rfl,_,SqL.of hq⟩,ql,_,.ref p,rfl,rfl,hq,by simp,?_⟩
 rw[List.dropLast_concat]
 have fx:Fix H (upd H ql (.lst zs)):=zfu hq
 refine⟨p,_,1,_,rfl,rfl,SqT.of (fx.tup _ _ h1),atI1,?_⟩
 exact k _ a (Kp.upd (by simp)) ⟨⟨dw,fx.ins hw⟩,⟨kvs,(zao knql).trans hkn,ek⟩,⟨zs,zaf,pimp (λ_ _ q=>q.fix fx) en'⟩,hW.nd⟩ (fx.tup _ _ h3)
theorem scLeInit:FnScope ["self","ring","row"] ["self","ring","row"] (defScope zbl):=⟨rfl,rfl,rfl,by decide +kernel,rfl,by decide +kernel,by decide +kernel⟩
set_option maxHeartbeats 4000000 in
theorem znd(F:FunD K "__init__" "Leads.__init__" zbl .none f fd)(T:Txt K mg zap zab zai zal zae zam zac zad zan)(c_FT:Cal P w K mg base (CXe P w) 8 "first_term" ["ring","f"] [] (spFT zap zab zai zal zae zam zac)):FnOk P w K mg base CX0 9 f fd ["self","ring","row"] (spLeInit zap zab zai zal zae zam zac zan):=by
 refine F.okN (k:=8) scLeInit (λvs H Q E h => ?_) (λcdv A outer s H vs Q E hr h => ?_)
 ·obtain⟨F,fF,x,dx,r,b,g,cF,ds,kvss,gs,rfl,_⟩:=h
  rfl
 obtain⟨F,fF,x,dx,r,b,g,cF,ds,kvss,gs,rfl,h⟩:=h
 refine⟨_,(zaj (zfh (pv 0) (zc8 (N:=["at","f","ring"]) (cl:=[("ring",s.heap.objs.size + 1)]) (mp:=[none,none,some 1]) (Blk.of rfl (by decide +kernel) rfl (by decide +kernel) zf0 (zc7 rfl zez) (zlg (fs:=["ring"]) rfl (by decide +kernel)) rfl (zdy (zdy (zc3 rfl (.inl rfl) rfl zew)))) rfl (zr1 (K:=K) rfl rfl T.b_enumerate ((zaa (pv 2) zah))) (λC0 s0 H0 fp0=>zsr (K:=K) rfl rfl zf0 rfl rfl rfl rfl) (λC0 s0 H0 fp0=>zhy (zat (ze2 (K:=K) rfl hr.units) (pv 1) (zc5) (nomark _))) (λC0 s0 H0 fp0=>zc6 ((zaa (pv 0) (zaa (pe_c c_FT hr passF .nil ((zaa (pv 2) (zaa (pv 1) zah)))) zah))))) rfl)),?_⟩
 obtain⟨hx,hR,hB,tb,k⟩:=h
 show tComp _ _ _ _ _ _ _ _
 refine zln (J:=Ite K b) (H1:=H) (zoh (SqL.of hB.at_)) (by rw[List.length_map];exact hB.b) ?_ (λσ=>∃v w,σ = [v,w,some (.ref r)]) (λi=>decide (kvss.getD i []≠[])) (λi v H'=>∃h,LdE H' (i,h) v/\Ld g.rk (gs i) h) (λi v H1 H2 e ⟨h,h1,h2⟩=>⟨h,h1.fix (.of e),h2⟩) (λi v H1 a y1 y2 ha ⟨h,h1,h2⟩=>⟨h,h1.fix (zfu ha),h2⟩) ⟨none,none,rfl⟩ ?_ λld H1 ls nd e1 hL hp => ?_
 ·exact λR hR=>⟨_,rfl,b,rfl,⟨_,SqL.of hB.at_⟩,hR⟩
 ·rintro i v σ' H2 hi ⟨z,z',rfl⟩ e2 ⟨p,xv,rfl,hp2,hv⟩ Ny Nn hy hn
  rw[List.length_map]at hi
  have hdi:ds[i]? = some ds[i]:=List.getElem?_eq_getElem hi
  obtain⟨kvs,hki,hd2,pk2⟩:=(hB.same e2).row i _ hdi
  have ev:xv = .ref ds[i]:=by
   rw[List.getElem?_map,hdi]at hv
   exact(Option.some.inj hv).symm
  subst ev
  have eg:kvss.getD i []=kvs:=by simp[List.getD,hki]
  rw[eg]at hy hn
  generalize ds[i]=d at hd2 hp2
  refine⟨p,_,rfl,SqT.of hp2,rfl,_,_,rfl,_,_,rfl,rfl,?_⟩
  refine⟨_,rfl,?_⟩
  intro d2 nd2
  have e3:Same H2 (upd H2 d2 (.dT [])):=Same.upd nd2
  have hd3:(upd H2 d2 (HO.dT [])) d2=some (.dT []):=zaf
  generalize upd H2 d2 (HO.dT [])=H3 at e3 hd3
  obtain⟨da,kds,fl,_⟩:=(pk2.same e3).kds (K:=K)
  have ldd:kvs.length=da.length:=Paired.length kds
  refine⟨d,d2,kvs,[],da,[],rfl,rfl,.inl (e3 _ _ hd2),.inl hd3,kds,.nil,fl,(λ_ z=>by cases z),_,rfl,?_⟩
  by_cases c:kvs=[]
  ·have ed:da=[]:=List.length_eq_zero_iff.mp (by rw[<- ldd,c];rfl)
   rw[ed]
   exact iteF (hn _ _ ⟨_,_,rfl⟩ e3 (by rw[decide_eq_false_iff_not];exact λq=>q c))
  ·have eq0:eqKD da []=false:=by
    unfold eqKD
    cases da with
    | nil=>exact absurd (List.length_eq_zero_iff.mp ldd) c
    | cons x l=>rfl
   rw[eq0]
   have g3:=e2.trans e3
   refine iteT ⟨_,rfl,_,rfl,_,rfl,F,fF,r,d,g,cF,kvs,gs i,rfl,hR.same g3,e3 _ _ hd2,pk2.same e3,tb i,c,λH4 t a e4 ha hx => ?_⟩
   refine⟨(by show 2<=sizeLine;exact zl 2 (by decide)),λq nq => ?_⟩
   have e5:Same H4 (upd H4 q (.tup [.int i,.ref a])):=Same.upd nq
   exact hy (.ref q) _ _ ⟨_,_,rfl⟩ ((e3.trans e4).trans e5) ⟨t,⟨q,a,rfl,zaf,e5 _ _ ha⟩,hx⟩ (decide_eq_true c)
 rw[List.length_map]at hp
 obtain⟨lds,el,hp1,hp2⟩:=zje (A:=LdE H1) (B:=λi h=>Ld g.rk (gs i) h) hp
 have fr:x≠ld:=λz=>by subst z;rw[hx]at nd;cases nd
 have hx1:=e1 _ _ hx
 refine⟨_,rfl,x,zan,dx,_,rfl,hx1,T.cl_Leads,T.na_Leads_pairs,(by show 0 < 1000;decide),?_⟩
 have up1:∀b o,H1 b=some o->b≠x->(upd H1 x (HO.ins zan dx [("pairs",.ref ld)])) b=some o:=λb o q ne=>(zao ne).trans q
 have nt:∀b xs,H1 b=some (.tup xs)->b≠x:=λb xs q=>zdk q hx1 (by intro z;cases z)
 refine k _ ld lds nd (λb ob hb nb=>up1 _ _ (e1 _ _ hb) (by simpa using nb)) ⟨⟨dx,zaf⟩,⟨ls,up1 _ _ hL (Ne.symm fr),pimp (λpr v ⟨q,a,e,q1,q2⟩=>⟨q,a,e,up1 _ _ q1 (nt _ _ q1),up1 _ _ q2 (nt _ _ q2)⟩) hp1⟩⟩ ⟨λi=>hB.sp i,?_,λi l hm=>⟨?_,hp2 _ hm⟩,λi t hi hg => ?_⟩
 ·have:(lds.map (·.1)).Pairwise (· < ·):=by rw[el];exact List.pairwise_lt_range.filter _
  exact List.pairwise_map.mp this
 ·have:i∈lds.map (·.1):=List.mem_map.mpr ⟨_,hm,rfl⟩
  rw[el]at this
  exact List.mem_range.mp (List.mem_filter.mp this).1
 ·have:i∈lds.map (·.1):=by
   rw[el]
   refine List.mem_filter.mpr ⟨List.mem_range.mpr hi,decide_eq_true λz => ?_⟩
   obtain⟨kvs,q1,_,q3⟩:=hB.row i _ (List.getElem?_eq_getElem hi)
   have:kvs=[]:=by rw[<- z];simp[List.getD,q1]
   exact hg (q3.empty.mp this t)
  obtain⟨p,hp,e⟩:=List.mem_map.mp this
  exact⟨p.2,by rw[<- e];exact hp⟩
theorem scFit:FnScope ["self","term","pair"] ["self","term"] (defScope zbs):=⟨rfl,rfl,rfl,by decide +kernel,rfl,by decide +kernel,by decide +kernel⟩
set_option maxHeartbeats 4000000 in
theorem zud(F:FunD K "fitting" "Leads.fitting" zbs .none f fd)(T:Txt K mg zap zab zai zal zae zam zac zad zan)(c_Goes:Cal P w K mg base CX0 1 "goes_into" ["one","other"] [] (spGoes K)):FnOk P w K mg base CX0 2 f fd ["self","term"] (spFit zan):=by
 refine F.okN (k:=1) scFit (λvs H Q E h => ?_) (λcdv A outer s H vs Q E hr h => ?_)
 ·obtain⟨x,a,pl,m,lds,t,rfl,_⟩:=h
  rfl
 obtain⟨x,a,pl,m,lds,t,rfl,h⟩:=h
 refine⟨_,(zag (zf4 PassesOwn.never rfl (ze0 (K:=K) rfl (zbb (K:=K) rfl (pv 0) rfl)) (zb2 (i:=2) scFit.nd rfl (Or.inl rfl)) (zaj (zbc (zdj (pe_c c_Goes hr pass00 .nil ((zaa (zaz (r:=rIxT K) zax (pv 2) (zak) (λ_ _=>rfl)) (zaa (pv 1) zah))))) (zaj (zas (pv 2))) zav)))
  (zaj (zas (zrn)))),?_⟩
 obtain⟨hL,ha,tl,m4,ll,inc,k1,k2⟩:=h
 obtain⟨dx,hx⟩:=hL.at_
 obtain⟨vs,hp,en⟩:=hL.pl
 have lv:lds.length=vs.length:=Paired.length en
 refine⟨_,rfl,x,zan,dx,_,_,rfl,hx,T.cl_Leads,T.na_Leads_pairs,rfl,pl,rfl,⟨_,SqL.of hp⟩,?_⟩
 refine zoq (K:=K) (a:=pl) (xs:=vs) (λi σ H'=>Same H H'/\(∃v2,σ = [some (.ref x),some (.ref a),v2])/\∀(j:Nat) p,lds[j]? = some p->j < i->goesI p.2 t=false) ⟨Same.refl _,⟨none,rfl⟩,λj p _ z=>by omega⟩ (λi σ H' _ h=>SqL.of (h.1 _ _ hp)) ?_ ?_
 ·rintro i v σ H2 hv ⟨e2,⟨v2,rfl⟩,no⟩
  obtain⟨⟨ix,l⟩,hl,q,a',rfl,hq,ha'⟩:=pget en hv
  have lm:=List.mem_of_getElem? hl
  unfold gName
  dsimp only
  refine⟨_,rfl,q,_,1,_,rfl,rfl,SqT.of (e2 _ _ hq),atI1,_,rfl,a',a,l,t,rfl,SqT.of (e2 _ _ ha'),SqT.of (e2 _ _ ha),(ll _ lm).trans tl.symm,by rw[ll _ lm];omega,λH3 e3=>⟨_,rfl,?_⟩⟩
  have g3:=e2.trans e3
  refine cB (λc => ?_) (λc => ?_)
  ·refine⟨_,rfl,k2 ix l ⟨lm,c,λp pm pi => ?_⟩ H3 q a' g3 (g3 _ _ hq) (g3 _ _ ha')⟩
   obtain⟨j,hj⟩:=List.mem_iff_getElem?.mp pm
   refine no j p hj ?_
   rcases Nat.lt_trichotomy j i with c' | c' | c'
   ·exact c'
   ·subst c';rw[hl]at hj;cases hj;exact absurd pi (Nat.lt_irrefl _)
   ·have:=List.pairwise_iff_getElem.mp inc i j (za1 hl) (za1 hj) c'
    rw[List.getElem?_eq_getElem (za1 hl)]at hl
    rw[List.getElem?_eq_getElem (za1 hj)]at hj
    injection hl with hl
    injection hj with hj
    rw[hl,hj]at this
    have:ix < p.1:=this
    omega
  ·refine⟨g3,⟨_,rfl⟩,λj p hj l' => ?_⟩
   rcases Nat.lt_or_ge j i with c' | c'
   ·exact no j p hj c'
   ·have:j=i:=by omega
    subst this
    rw[hl]at hj;cases hj;exact c
 ·rintro σ H2 ⟨e2,⟨v2,rfl⟩,no⟩
  refine k1 (λp pm => ?_) H2 e2
  obtain⟨j,hj⟩:=List.mem_iff_getElem?.mp pm
  exact no j p hj (by rw[<- lv];exact za1 hj)
theorem scDiv:FnScope ["ring","f","row","leads","quotients","rest","left","waiting","term","fit","divisor","number","over","taken"] ["ring","f","row"] (defScope zd8):=⟨rfl,rfl,rfl,by decide +kernel,rfl,by decide +kernel,by decide +kernel⟩
set_option maxHeartbeats 4000000 in
theorem zue(F:FunD K "divided" "divided" zd8 .none f fd)(T:Txt K mg zap zab zai zal zae zam zac zad zan)(k_LeInit:Mak P w K mg base CX0 9 "Leads" zan ["self","ring","row"] [] (spLeInit zap zab zai zal zae zam zac zan))(k_WaInit:Mak P w K mg base CX0 6 "Waiting" zad ["self","order","terms"] [] (spWaInit zam zal zae zac zad))(m_Emp:MCal P w K mg base CX0 1 zad "is_empty" ["self"] [] (spEmp zad))(m_Taken:MCal P w K mg base CX0 1 zad "taken" ["self"] [] (spTaken zad))(m_Fit:MCal P w K mg base CX0 2 zan "fitting" ["self","term"] [] (spFit zan))(c_LeftO:Cal P w K mg base (CXe P w) 2 "left_over" ["one","other"] [] spLeft)(c_Scal:Cal P w K mg base CX0 4 "scaled" ["ring","number","term","f"] [] (spScal zap zab zai zal zae zam zac))(m_Put:MCal P w K mg base CX0 5 zad "put" ["self","terms"] [] (spPut zam zal zae zac zad))(c_Absorb:Cal P w K mg base CX0 4 "absorb" ["ring","total","f"] [] (spAbs zap zab zai zal zae zam zac))(hfld:∀n:Int,n<=9973->(n=0\/Pr n)->∃C,FldP P w K mg base C (AtN zab zai n) n){za0:Addr}(hord:∀(kd:Int) (ws:List Int),0<=kd->kd < 4->Nn ws->(∀x∈ws,x < 10 ^ 31)->∃C,OrdP P w K mg base za0 C (AtK zal zae zam zac kd ws) (rkk kd ws) (fbK kd ws)):FnOk P w K mg base CX0 14 f fd ["ring","f","row"] (spDiv zap zab zai zal zae zam zac):=by
 refine F.okN (k:=13) scDiv (λvs H Q E h => ?_) (λcdv A outer s H vs Q E hr h => ?_)
 ·obtain⟨F,fF,r,f,b,g,cF,ds,kvss,gs,fvs,φ,U,J,rfl,_⟩:=h
  rfl
 obtain⟨F,fF,r,f,b,g,cF,ds,kvss,gs,fvs,φ,U,J,rfl,h⟩:=h
 obtain⟨CF,B⟩:=hfld g.n h.1.nb h.1.np
 refine⟨_,(zag (zau (i:=3) scDiv.nd rfl (Or.inl rfl) (zmf k_LeInit hr pass00 .nil ((zaa (pv 0) (zaa (pv 2) zah)))))
  (zag (znq (N:=["divisor"]) (zb2 (i:=4) scDiv.nd rfl (Or.inl rfl)) (Blk.plain (by decide +kernel) (by decide +kernel) rfl (by decide +kernel) zhh) rfl (ze0 (K:=K) rfl (pv 2)) (λC0 s0 H0 fp0=>zeu (i:=0) zhh rfl rfl) (λC0 s0 H0 fp0=>zdn) (λC0 s0 H0 fp0=>zc5))
  (zag (zau (i:=5) scDiv.nd rfl (Or.inl rfl) (zc5))
  (zag (zau (i:=6) scDiv.nd rfl (Or.inl rfl) (zbt zfy rfl T.b_dict (by kernel_rfl) ((zaa (pv 1) zah))))
  (zag (zau (i:=7) scDiv.nd rfl (Or.inl rfl) (zmf k_WaInit hr pass00 .nil ((zaa (zbb (K:=K) rfl (pv 0) rfl) (zaa (pv 1) zah)))))
  (zag (zeb PassesOwn.never (zd0 (zdj (zqp m_Emp (pv 7) hr pass00 .nil))) (zag (zau (i:=8) scDiv.nd rfl (Or.inl rfl) (zqp m_Taken (pv 7) hr pass00 .nil))
  (zaj (zbc (zk5 (znv (uOne hr) (pv 8) (pv 6))) (zag (zau (i:=9) scDiv.nd rfl (Or.inl rfl) (pe_m m_Fit (pv 3) hr pass00 .nil ((zaa (pv 8) zah))))
  (zaj (zbc (zat zt6 (pv 9) (zrn) (nomark _)) (zaj (zfc (uOne hr) (pv 5) (pv 8) (zjy (uOne hr) (pv 6) ((zaa (pv 8) zah))) rfl)) (zag (zau (i:=10) scDiv.nd rfl (Or.inl rfl) (zaz (r:=rIxL K) zd4 (pv 2) (zaz (r:=rIxT K) zax (pv 9) (zak) (λ_ _=>rfl)) (λ_ _=>rfl)))
  (zag (zau (i:=11) scDiv.nd rfl (Or.inl rfl) (pe_m B.over (zbb (K:=K) rfl (pv 0) rfl) hr passF .nil ((zaa (zig (uOne hr) (pv 6) (pv 8) (λ_ _=>rfl)) (zaa (zig (uOne hr) (pv 10) (zaz (r:=rIxT K) zax (pv 9) (zak) (λ_ _=>rfl)) (λ_ _=>rfl)) zah)))))
  (zag (zau (i:=12) scDiv.nd rfl (Or.inl rfl) (pe_c c_LeftO hr passF .nil ((zaa (zaz (r:=rIxT K) zax (pv 9) (zak) (λ_ _=>rfl)) (zaa (pv 8) zah)))))
  (zag (zfc (uOne hr) (zaz (r:=rIxL K) zd4 (pv 4) (zaz (r:=rIxT K) zax (pv 9) (zak) (λ_ _=>rfl)) (λ_ _=>rfl)) (pv 12) (pv 11) rfl)
  (zag (zau (i:=13) scDiv.nd rfl (Or.inl rfl) (pe_c c_Scal hr pass00 .nil ((zaa (pv 0) (zaa (pe_m B.against (zbb (K:=K) rfl (pv 0) rfl) hr pass00 .nil ((zaa (pv 11) zah))) (zaa (pv 12) (zaa (pv 10) zah)))))))
  (zag (zdo (pe_m m_Put (pv 7) hr pass00 .nil ((zaa (pv 13) zah))))
  (zaj (zdo (pe_c c_Absorb hr pass00 .nil ((zaa (pv 0) (zaa (pv 6) (zaa (pv 13) zah)))))))))))))))) zav))))
  (zaj (zas (zc6 ((zaa (pv 4) (zaa (pv 5) zah)))))))))))),?_⟩
 obtain⟨hR,hB,tb,hf,pf,hds,dv,k⟩:=h
 have om:=hR.om
 refine⟨_,rfl,_,rfl,λx dx nx ndx ne => ?_⟩
 have e1:Same H (upd (upd H dx (.own x)) x (.ins zan dx [])):=λb o e=>by
  rw[zao (zaq e nx),zao (zaq e ndx)];exact e
 refine⟨F,fF,x,dx,r,b,g,cF,ds,kvss,gs,rfl,zaf,hR.same e1,hB.same e1,tb,λH2 pl lds npl k2 hle LO=>⟨rfl,?_⟩⟩
 have s2:Same H H2:=λb o hb=>k2 b o (e1 _ _ hb) (by simp[zaq hb nx])
 clear k2
 dsimp only[gName]
 show tComp _ _ _ _ _ _ _ _
 refine zpr (K:=K) (b:=b) (xs:=ds.map V.ref) (SqL.of (hB.same s2).at_) (by rw[List.length_map];exact hB.b) (λR hR=>⟨_,rfl,hR⟩) ⟨none,rfl⟩ λql H3 qds nql e3 hql lq ndq hqd => ?_
 rw[List.length_map]at lq
 dsimp only[gName]
 intro rd nrd
 have e4:Same H3 (upd H3 rd (.dT [])):=Same.upd nrd
 have hrd4:(upd H3 rd (HO.dT [])) rd=some (.dT []):=zaf
 generalize upd H3 rd (HO.dT [])=H4 at e4 hrd4
 have s4:=(s2.trans e3).trans e4
 dsimp only[gName]
 refine⟨_,rfl,f,fvs,rfl,s4 _ _ hf,hds,λla nla => ?_⟩
 have e5:Same H4 (upd H4 la (.dT fvs)):=Same.upd nla
 have hla5:(upd H4 la (HO.dT fvs)) la=some (.dT fvs):=zaf
 generalize upd H4 la (HO.dT fvs)=H5 at e5 hla5
 have s5:=s4.trans e5
 have hR5:=hR.same s5
 obtain⟨dr,hr5⟩:=hR5.at_
 dsimp only[gName]
 refine⟨_,rfl,r,zap,dr,_,_,rfl,hr5,T.cl_Ring,T.na_Ring_order,rfl,_,rfl,λwx dwx nwx ndwx newx => ?_⟩
 have e6:Same H5 (upd (upd H5 dwx (.own wx)) wx (.ins zad dwx [])):=λb o e=>by
  rw[zao (zaq e nwx),zao (zaq e ndwx)];exact e
 have s6:=s5.trans e6
 have U6:U.length<=1000000:=dv.b
 have lfv:fvs.length<=U.length:=zlb pf dv.f
 have pow:g.po≠wx:=λz=>by
  obtain⟨C0,O0⟩:=hord g.kd g.ws hR.k0 hR.k4 hR.wn hR.wb
  obtain⟨dO,fo,hO,_⟩:=O0.oC.ins hR5.od
  rw[z,nwx]at hO;cases hO
 refine⟨wx,dwx,f,g.po,g.kd,g.ws,g.m,tms fvs,fvs,rfl,zaf,pow,hR.k0,hR.k4,hR.wn,hR.wb,hR.m1,hR.m4,(hR.same s6).od,s6 _ _ hf,pf.keys,λt ht=>dv.ok t (dv.f t (pf.tmem.mp ht)),zlt _ (by rw[zem];omega),λH7 kn qq ks us nkn nqq k7 hwa srt mu mk lk lu=>⟨rfl,?_⟩⟩
 have s57:Same H5 H7:=λb o hb=>k7 b o (e6 _ _ hb) (by simp[zaq hb nwx])
 have s7:=s5.trans s57
 have kn5:H5 kn=none:=by
  cases z:H5 kn with
  | none=>rfl
  | some o=>rw[e6 _ _ z]at nkn;cases nkn
 have qq5:H5 qq=none:=by
  cases z:H5 qq with
  | none=>rfl
  | some o=>rw[e6 _ _ z]at nqq;cases nqq
 dsimp only[gName]
 have s27:Same H2 H7:=((e3.trans e4).trans e5).trans s57
 obtain⟨vsp,hpl2,_⟩:=hle.pl
 have hpl5:=e5 _ _ (e4 _ _ (e3 _ _ hpl2))
 have hql5:=e5 _ _ (e4 _ _ hql)
 have hrd5:=e5 _ _ hrd4
 have qd5:∀d∈qds,H5 d=some (.dT []):=λd hd=>e5 _ _ (e4 _ _ (hqd d hd).2.1)
 have n_lard:la≠rd:=λz=>by rw[z,hrd4]at nla;cases nla
 have n_laq:la ∉ qds:=λz=>by rw[e4 _ _ (hqd la z).2.1]at nla;cases nla
 have n_rdq:rd ∉ qds:=λz=>by rw[(hqd rd z).2.1]at nrd;cases nrd
 have n_knla:kn≠la:=λz=>by rw[z,hla5]at kn5;cases kn5
 have n_knrd:kn≠rd:=λz=>by rw[z,hrd5]at kn5;cases kn5
 have n_knq:kn ∉ qds:=λz=>by rw[qd5 kn z]at kn5;cases kn5
 have n_qqql:qq≠ql:=λz=>by rw[z,hql5]at qq5;cases qq5
 have n_qqpl:qq≠pl:=λz=>by rw[z,hpl5]at qq5;cases qq5
 have f_la:H la=none:=s4.free nla
 have f_rd:H rd=none:=(s2.trans e3).free nrd
 have f_kn:H kn=none:=s5.free kn5
 have f_qq:H qq=none:=s5.free qq5
 have f_qd:∀d∈qds,H d=none:=λd hd=>s2.free (hqd d hd).1
 obtain⟨C,eC⟩:∃C:DvC,C=⟨r,f,b,x,pl,ql,rd,la,wx,kn,qq,qds⟩:=⟨_,rfl⟩
 have W0:DvW zan zad C g ds.length φ gs lds U J H (U.length - 0) [some (.ref r),some (.ref f),some (.ref b),some (.ref x),some (.ref ql),some (.ref rd),some (.ref la),some (.ref wx),none,none,none,none,none,none] H7:=by
  subst eC
  refine⟨none,none,none,none,none,none,ks,us,[],λ_ _=>0,λ_=>[],λ_=>0,φ,[],fvs,rfl,rfl,s7,hle.keep (.of s27) (λo=>s27 _ o),⟨s57 _ _ hql5,ndq,λi d hd=>⟨[],s57 _ _ (qd5 d (List.mem_of_getElem? hd)),PF.nil⟩⟩,s57 _ _ hrd5,PF.nil,s57 _ _ hla5,pf.same s7,hwa,DvI.start srt (λz=>by rw[mu,pf.tmem]) (λz hz => ?_),λz=>by rw[mk,mu];simp,dv.j0⟩
  have:=pf.tmem.mp ((mu z).mp hz)
  exact⟨dv.f z this,pf.sp z this⟩
 refine⟨DvW zan zad C g ds.length φ gs lds U J H,⟨_,W0⟩,?_⟩
 clear W0 hwa srt mu mk lk lu s27
 rintro mm σ H8 ⟨v8,v9,v10,v11,v12,v13,ks,us,Dn,q,S,ρ,lf,rvs,lvs,rfl,rfl,I⟩
 subst eC
 dsimp only at I ⊢
 obtain⟨dw,hw⟩:=I.wa.at_
 refine⟨_,rfl,wx,dw,_,rfl,hw,znz _ (by decide +kernel) (by decide +kernel) (by decide +kernel),wx,g.po,kn,qq,g.rk,ks,us,rfl,I.wa,λH9 e9=>⟨_,rfl,?_⟩⟩
 have I:=I.same e9
 show if (!decide (us=[]))=true then _ else _
 by_cases hus:us=[]
 ·subst hus
  rw[decide_eq_true rfl]
  refine iteF ⟨_,rfl,_,rfl,(by show 2<=sizeLine;decide),λp np => ?_⟩
  have eP:Same H9 (upd H9 p (.tup [.ref ql,.ref rd])):=Same.upd np
  have I:=I.same eP
  exact k _ p ql rd qds q S ρ Dn lds rvs I.sm zaf I.qt lq I.rst I.rp LO I.dv.dvd f_rd f_qd n_rdq
 rw[decide_eq_false hus]
 obtain⟨us0,t,rfl⟩:=zrr hus
 refine iteT ⟨λσ' H'=>∃m',m' < U.length - Dn.length/\DvW zan zad ⟨r,f,b,x,pl,ql,rd,la,wx,kn,qq,qds⟩ g ds.length φ gs lds U J H m' σ' H',λσ' H' h=>h,?_⟩
 have dnl:=zv7 I.dv
 obtain⟨dw,hw⟩:=I.wa.at_
 refine⟨_,rfl,wx,dw,_,rfl,hw,znz _ (by decide +kernel) (by decide +kernel) (by decide +kernel),wx,g.po,kn,qq,g.rk,ks,us0,t,rfl,I.wa,λHA a kA waA ha => ?_⟩
 dsimp only[gName]
 obtain⟨vsq,hqq9,_⟩:=I.wa.ql
 have kpA:∀b o,H9 b=some o->b≠qq->HA b=some o:=λb o hb nb=>kA b o hb (by simp[nb])
 have fA:Fix H9 HA:=kA.fix λy hy o ho=>by
  rw[List.mem_singleton.mp hy,hqq9]at ho;cases ho;exact .inr (.inl ⟨_,rfl⟩)
 have sA:Same H HA:=λb o hb=>kpA _ _ (I.sm _ _ hb) (zaq hb f_qq)
 have hlaA:HA la=some (.dT lvs):=kpA _ _ I.lft (zdk I.lft hqq9 (by intro z;cases z))
 have hrdA:HA rd=some (.dT rvs):=kpA _ _ I.rst (zdk I.rst hqq9 (by intro z;cases z))
 have leA:=I.le.keep fA (λo ho=>kpA _ _ ho (Ne.symm n_qqpl))
 have qtA:=I.qt.keep fA (λo ho=>kpA _ _ ho (Ne.symm n_qqql)) (λd hd o ho=>by
  obtain⟨i,hi⟩:=List.mem_iff_getElem?.mp hd
  obtain⟨kv,h1,_⟩:=I.qt.row i d hi
  exact kpA _ _ ho (zdk h1 hqq9 (by intro z;cases z)))
 have rpA:=I.rp.fix fA
 have lpA:=I.lp.fix fA
 have kmA:∀z,z∈ks↔z∈us0\/z∈Dn ++ [t]:=λz=>by
  rw[I.km];simp only[List.mem_append,List.mem_singleton]
  constructor
  ·rintro((h | h) | h)
   ·exact .inl h
   ·exact .inr (.inr h)
   ·exact .inr (.inl h)
  ·rintro(h | h | h)
   ·exact .inl (.inl h)
   ·exact .inr h
   ·exact .inl (.inr h)
 have mlt:U.length - (Dn ++ [t]).length < U.length - Dn.length:=by rw[List.length_append];simp;omega
 have ld1:(Dn ++ [t]).length=Dn.length + 1:=by simp
 have tU:=I.dv.inU t (.inl (by simp))
 refine⟨_,rfl,_,rfl,la,_,rfl,DGet.t (k:=ky t) hlaA (by rw[zeq];exact ha),_,rfl,?_⟩
 cases hval:valV lvs (ky t) with
 | none=>
  have l0:lf t=0:=Classical.byContradiction λz=>by
   obtain⟨v,h1,_⟩:=lpA.get z
   rw[hval]at h1;cases h1
  exact iteF ⟨_,mlt,_,_,_,_,_,_,ks,us0,Dn ++ [t],q,S,ρ,lf,rvs,lvs,rfl,rfl,sA,leA,qtA,hrdA,rpA,hlaA,lpA,waA,I.dv.skip l0,kmA,by rw[ld1];exact dv.js _ _ dnl I.j⟩
 | some v=>
 obtain⟨rv,nz0⟩:=lpA.val t v hval
 refine iteT ?_
 obtain⟨dxl,hxl⟩:=leA.at_
 have fl2:∀p∈lds,p.2.length=g.m:=λp hp=>(LO.t0 (i:=p.1) (l:=p.2) hp).len
 refine⟨_,rfl,x,dxl,_,rfl,hxl,?_,_,rfl,x,a,pl,g.m,lds,t,rfl,leA,ha,tU.2.len,hR.m4,fl2,LO.inc,λnf HB eB => ?_,λi l ft HB qf a' eB hqf ha' => ?_⟩
 ·exact zv1 _ (by decide +kernel)
 ·dsimp only[gName]
  refine⟨_,rfl,rfl,_,rfl,iteT ?_⟩
  have hlaB:=eB _ _ hlaA
  have hrdB:=eB _ _ hrdA
  have haB:=eB _ _ ha
  have sB:=sA.trans eB
  have lrv:rvs.length<=U.length:=zlb rpA λz hz=>(I.dv.inU z (.inr (I.dv.ri z hz).1)).1
  refine⟨_,rfl,.inr (.inr (.inl ⟨rfl,.inr ⟨_,hlaB⟩⟩)),_,rfl,la,a,lvs,ky t,v,rfl,rfl,hlaB,by rw[zeq];exact haB,hval,?_⟩
  have fC:Fix HB (upd HB la (.dT (dropK lvs (ky t)))):=zcl hlaB
  have kC:∀b o,HB b=some o->b≠la->(upd HB la (.dT (dropK lvs (ky t)))) b=some o:=λb o hb nb=>(zao nb).trans hb
  have hlaC:(upd HB la (HO.dT (dropK lvs (ky t)))) la=some (.dT (dropK lvs (ky t))):=zaf
  dsimp only
  generalize upd HB la (HO.dT (dropK lvs (ky t)))=HC at fC kC hlaC
  have hrdC:=kC _ _ hrdB (Ne.symm n_lard)
  refine⟨_,rfl,_,rfl,rd,_,rfl,DPut.t (k:=ky t) hrdC (by rw[zeq];exact fC.tup _ _ haB) (zlt _ (by omega)),?_⟩
  have fD:Fix HC (upd HC rd (.dT (putK rvs (ky t) v))):=zcl hrdC
  have kD:∀b o,HC b=some o->b≠rd->(upd HC rd (.dT (putK rvs (ky t) v))) b=some o:=λb o hb nb=>(zao nb).trans hb
  have hrdD:(upd HC rd (HO.dT (putK rvs (ky t) v))) rd=some (.dT (putK rvs (ky t) v)):=zaf
  generalize upd HC rd (HO.dT (putK rvs (ky t) v))=HD at fD kD hrdD
  have fBD:=fC.tr fD
  have kBD:∀b o,HB b=some o->b≠la->b≠rd->HD b=some o:=λb o hb n1 n2=>kD _ _ (kC _ _ hb n1) n2
  have fAD:=(Fix.of eB).tr fBD
  obtain⟨vsq2,hqqB,_⟩:=(waA.same eB).ql
  obtain⟨vsp2,hplB,_⟩:=(leA.keep (.of eB) (λo=>eB _ o)).pl
  exact⟨_,mlt,_,_,_,_,_,_,ks,us0,Dn ++ [t],q,S,_,_,_,_,rfl,rfl,λb o hb=>kBD _ _ (sB _ _ hb) (zaq hb f_la) (zaq hb f_rd),leA.keep fAD (λo ho=>kBD _ _ (eB _ _ ho) (λz=>by have z:pl=la:=z;rw[z,hlaB]at hplB;cases hplB) (λz=>by have z:pl=rd:=z;rw[z,hrdB]at hplB;cases hplB)),
   qtA.keep fAD (λo ho=>kBD _ _ (eB _ _ ho) (λz=>by have z:ql=la:=z;have:=eB _ _ qtA.at_;dsimp only at this;rw[z,hlaB]at this;cases this) (λz=>by have z:ql=rd:=z;have:=eB _ _ qtA.at_;dsimp only at this;rw[z,hrdB]at this;cases this)) (λd hd o ho=>kBD _ _ (eB _ _ ho) (λz=>n_laq (by rw[<- z];exact hd)) (λz=>n_rdq (by rw[<- z];exact hd))),
   hrdD,(rpA.fix fAD).put tU.2 (Rep.fix fAD rv) nz0,kD _ _ hlaC n_lard,(lpA.fix fAD).drop t,(waA.fix fAD (λo ho=>kBD _ _ (eB _ _ ho) n_knla n_knrd) (λo ho=>kBD _ _ (eB _ _ ho) (λz=>by have z:qq=la:=z;rw[z,hlaB]at hqqB;cases hqqB) (λz=>by have z:qq=rd:=z;rw[z,hrdB]at hqqB;cases hqqB))),I.dv.rest nz0 nf,kmA,by rw[ld1];exact dv.jr _ _ _ dnl I.j⟩
 ·dsimp only[gName]
  have sB:=sA.trans eB
  have ⟨ik,hl⟩:=LO.ld i l ft.mem
  have hBB:=hB.same sB
  have hdx:ds[i]? = some ds[i]:=List.getElem?_eq_getElem ik
  obtain⟨kvi,hki,hdi,pfi⟩:=hBB.row i _ hdx
  have atr:atI (ds.map V.ref) (i:Int)=some (.ref ds[i]):=zdz (by rw[List.getElem?_map,hdx];rfl)
  generalize ds[i]=d at hdx hdi atr
  refine⟨_,rfl,rfl,_,rfl,iteF ?_⟩
  refine⟨_,rfl,_,rfl,qf,_,0,_,rfl,rfl,SqT.of hqf,atI0,b,_,_,_,rfl,rfl,SqL.of hBB.at_,atr,?_⟩
  dsimp only[gName]
  obtain⟨vd,hvd,rvd⟩:=pfi.get hl.1
  have hRB:=hR.same sB
  obtain⟨dr,hrB⟩:=hRB.at_
  obtain⟨dF,hF⟩:=B.ins hRB.fd
  have haB:=eB _ _ ha
  have hlaB:=eB _ _ hlaA
  refine⟨_,rfl,r,zap,dr,_,_,rfl,hrB,T.cl_Ring,T.na_Ring_field,rfl,g.pf,dF,_,rfl,hF,no_P _ _ (by decide +kernel),_,rfl,_,rfl,la,v,rfl,.inr ⟨lvs,ky t,a,.inl hlaB,rfl,by rw[zeq];exact haB,hval.symm⟩,_,rfl,_,rfl,qf,_,1,_,rfl,rfl,SqT.of hqf,atI1,d,vd,rfl,.inr ⟨kvi,ky l,a',.inl hdi,rfl,by rw[zeq];exact ha',hvd.symm⟩,F,fF,cF,g.pf,v,vd,lf t,gs i l,rfl,hRB.fd,Rep.fix (.of eB) rv,rvd,dv.jl _ _ (Nat.le_of_lt dnl) I.j t,dv.gl i l,hl.1,λxq vq HC hxq eC rq => ?_⟩
  dsimp only[gName]
  obtain⟨lx,lxg,jq⟩:=dv.jq Dn.length lf t i l xq dnl I.j tU.1 nz0 hl ft.goes hxq
  have l0:=LO.t0 ft.mem
  have o0:=T0.sub tU.2 l0 ft.goes
  have x0:xq≠0:=by rintro rfl;apply nz0;rw[<- hxq];grind
  refine⟨_,rfl,qf,_,1,_,rfl,rfl,SqT.of (eC _ _ hqf),atI1,_,rfl,a',a,l,t,rfl,eC _ _ ha',eC _ _ haB,by rw[l0.len,tU.2.len],by rw[l0.len];have:=hR.m4;omega,ft.goes,λov HD eD hov => ?_⟩
  dsimp only[gName]
  have eAD:Same HA HD:=(eB.trans eC).trans eD
  have sD:=sA.trans eAD
  have hqfD:=eD _ _ (eC _ _ hqf)
  have qtD:=qtA.keep (.of eAD) (λo=>eAD _ o) (λ_ _ o=>eAD _ o)
  have hqx:qds[i]? = some (qds[i]'(by rw[lq];exact ik)):=List.getElem?_eq_getElem _
  generalize qds[i]'(by rw[lq];exact ik)=qd at hqx
  obtain⟨kvq,hqdD,pqD⟩:=qtD.row i qd hqx
  have qdm:qd∈qds:=List.mem_of_getElem? hqx
  have atq:atI (qds.map V.ref) (i:Int)=some (.ref qd):=zdz (by rw[List.getElem?_map,hqx];rfl)
  have lkq:kvq.length<=U.length:=zmj (l:=l) l0.len pqD λo ho=>by
   obtain⟨_,l',f',d'⟩:=I.dv.qi i o ho
   rw[LO.one f'.mem ft.mem]at d'
   exact(I.dv.inU _ (.inr d')).1
  refine⟨_,rfl,_,rfl,_,rfl,qf,_,0,_,rfl,rfl,SqT.of hqfD,atI0,ql,_,_,_,rfl,rfl,SqL.of qtD.at_,atq,_,rfl,qd,_,rfl,DPut.t (k:=ky (subT t l)) hqdD (by rw[zeq];exact hov) (zlt _ (by omega)),?_⟩
  have fE:Fix HD (upd HD qd (.dT (putK kvq (ky (subT t l)) vq))):=zcl hqdD
  have kE:∀b o,HD b=some o->b≠qd->(upd HD qd (.dT (putK kvq (ky (subT t l)) vq))) b=some o:=λb o hb nb=>(zao nb).trans hb
  have hqdE:(upd HD qd (HO.dT (putK kvq (ky (subT t l)) vq))) qd=some (.dT (putK kvq (ky (subT t l)) vq)):=zaf
  generalize upd HD qd (HO.dT (putK kvq (ky (subT t l)) vq))=HE at fE kE hqdE
  have sE:Same H HE:=λb o hb=>kE _ _ (sD _ _ hb) (λz=>by rw[z,f_qd qd qdm]at hb;cases hb)
  have hRE:=hR.same sE
  obtain⟨drE,hrE⟩:=hRE.at_
  obtain⟨dFE,hFE⟩:=B.ins hRE.fd
  have rqE:=Rep.fix ((Fix.of eD).tr fE) rq
  refine⟨_,rfl,_,rfl,r,zap,drE,_,_,rfl,hrE,T.cl_Ring,T.na_Ring_field,rfl,g.pf,dFE,_,rfl,hFE,no_P _ _ (by decide +kernel),_,rfl,F,fF,cF,g.pf,vq,xq,rfl,hRE.fd,rqE,λvn HF eF rn => ?_⟩
  have sF:=sE.trans eF
  have hBF:=hB.same sF
  obtain⟨kvi',hki',hdF,pfF⟩:=hBF.row i d hdx
  have lki:kvi'.length<=U.length:=zmj (l:=subT t l) o0.len pfF λu hu=>by
   have u0:=hBF.sp i u hu
   rw[zg3 (u0.len.trans o0.len.symm)]
   exact dv.cl t tU.1 i l hl ft.goes u hu
  refine⟨_,rfl,_,rfl,F,fF,r,vn,ov,d,g,cF,kvi',-xq,subT t l,gs i,rfl,hR.same sF,rn,lx.neg,eF _ _ (fE.tup _ _ hov),o0,hdF,pfF,dv.gl i,zlt _ (by omega),λtd HG kvt ntd eG htd ptd ltd => ?_⟩
  dsimp only[gName]
  have sG:=sF.trans eG
  have eEG:=eF.trans eG
  have fAG:Fix HA HG:=((Fix.of eAD).tr fE).tr (.of eEG)
  have kAG:∀b o,HA b=some o->b≠qd->HG b=some o:=λb o hb nb=>eEG _ _ (kE _ _ (eAD _ _ hb) nb)
  obtain⟨vsq2,hqqA,_⟩:=waA.ql
  have n_qqqd:qq≠qd:=λz=>by
   have:=eAD _ _ hqqA
   rw[z,hqdD]at this;cases this
  have waG:Wa zad g.rk HG wx g.po kn qq ks us0:=waA.fix fAG (λo ho=>kAG _ _ ho (λz=>n_knq (by rw[z];exact qdm))) (λo ho=>kAG _ _ ho n_qqqd)
  obtain⟨dwG,hwG⟩:=waG.at_
  have shU:∀z,sh (subT t l) (gs i) z≠0->z∈U:=λz hz=>by
   obtain⟨_,_,nz,e⟩:=zpc o0 (LO.sp i) hz
   rw[e];exact dv.cl t tU.1 i l hl ft.goes _ nz
  have nxz:∀z,(-xq * sh (subT t l) (gs i) z≠0)↔sh (subT t l) (gs i) z≠0:=λz=>by
   constructor
   ·intro h e;apply h;rw[e];grind
   ·intro h e;apply h;grind
  obtain⟨kvk,hknG,ekG⟩:=waG.kn
  have tdkn:td≠kn:=λz=>by
   have:HF kn≠none:=by
    obtain⟨kv0,h0,_⟩:=waA.kn
    rw[eF _ _ (kE _ _ (eAD _ _ h0) (λz=>n_knq (by rw[z];exact qdm)))];intro z;cases z
   rw[z]at ntd;exact this ntd
  obtain⟨b1,b2,b3,b4,b5,tn⟩:=I.dv.base
  have lks:ks.length<=U.length:=zc4 waA.nd λz hz=>(b4 z ((kmA z).mp hz)).1
  have ndu:us0.Nodup:=List.Pairwise.imp (fun{a b} (h:G.lt g.rk a b) (e:a=b)=>by subst e;exact lt_irrefl h) b1
  have lus:us0.length<=U.length:=zc4 ndu λz hz=>(b4 z (.inl hz)).1
  have lkt:kvt.length<=U.length:=Nat.le_trans ltd lki
  have ltt:(tms kvt).length<=U.length:=by rw[zem];exact lkt
  refine⟨_,rfl,wx,dwG,_,rfl,hwG,znz _ (by decide +kernel) (by decide +kernel) (by decide +kernel),_,rfl,wx,td,g.po,kn,qq,g.kd,g.ws,g.m,ks,us0,tms kvt,kvt,rfl,hR.k0,hR.k4,hR.wn,hR.wb,hR.m1,hR.m4,(hR.same sG).od,waG,htd,ptd.keys,λz hz=>dv.ok z (shU z ((nxz z).mp (ptd.tmem.mp hz))),tdkn,b1,λz hz=>⟨(kmA z).mpr (.inl hz),(b4 z (.inl hz)).2⟩,zlt _ (by omega),zlt _ (by omega),λHI ks' us' kI waI srI muI mkI lkI luI => ?_⟩
  have hknA:∃kv,HA kn=some (.dT kv):=let ⟨kv0,h0,_⟩:=waA.kn;⟨kv0,h0⟩
  obtain⟨vsqG,hqqG,_⟩:=waG.ql
  have kGI:∀b o,HG b=some o->b≠kn->b≠qq->HI b=some o:=λb o hb n1 n2=>kI b o hb (by simp[n1,n2])
  have fGI:Fix HG HI:=kI.fix λy hy o ho=>by
   rcases List.mem_cons.mp hy with z | z
   ·rw[z,hknG]at ho;cases ho;exact .inl ⟨_,rfl⟩
   ·rw[List.mem_singleton.mp z,hqqG]at ho;cases ho;exact .inr (.inl ⟨_,rfl⟩)
  have fAI:=fAG.tr fGI
  have sI:Same H HI:=λb o hb=>kGI _ _ (sG _ _ hb) (zaq hb f_kn) (zaq hb f_qq)
  have laqd:la≠qd:=λz=>n_laq (by rw[z];exact qdm)
  have rdqd:rd≠qd:=λz=>n_rdq (by rw[z];exact qdm)
  have hlaG:HG la=some (.dT lvs):=kAG _ _ hlaA laqd
  have hlaI:HI la=some (.dT lvs):=kGI _ _ hlaG (Ne.symm n_knla) (zdk hlaG hqqG (by intro z;cases z))
  have htdI:HI td=some (.dT kvt):=kGI _ _ htd tdkn (zdk htd hqqG (by intro z;cases z))
  have latd:la≠td:=λz=>by
   have:=eF _ _ (kE _ _ (eAD _ _ hlaA) laqd)
   rw[z,ntd]at this;cases this
  have llv:lvs.length<=U.length:=zlb lpA λz hz=>(I.dv.inU z (.inl (I.dv.lft z hz))).1
  refine⟨_,rfl,_,rfl,_,rfl,F,fF,r,la,td,g,cF,lvs,kvt,lf,_,rfl,hR.same sI,latd,hlaI,htdI,lpA.fix fAI,ptd.fix fGI,zlt _ (by omega),dv.jl _ _ (Nat.le_of_lt dnl) I.j,λz => ?_,λHJ lvs' kJ hlaJ plJ llJ => ?_⟩
  ·show Lim g.n 8900 (-xq * sh (subT t l) (gs i) z)
   have:Lim g.n 8900 (xq * sh (subT t l) (gs i) z):=by
    unfold sh
    split
    ·exact lxg _
    ·have q:=(lxg l).zero'
     rw[show xq * (0:F)=0 by grind];exact q
   have q:=this.neg
   rwa [show -(xq * sh (subT t l) (gs i) z) = -xq * sh (subT t l) (gs i) z by grind]at q
  have kIJ:∀b o,HI b=some o->b≠la->HJ b=some o:=λb o hb nb=>kJ b o hb (by simp[nb])
  have fIJ:Fix HI HJ:=kJ.fix λy hy o ho=>by
   rw[List.mem_singleton.mp hy,hlaI]at ho;cases ho;exact .inl ⟨_,rfl⟩
  have fAJ:=fAI.tr fIJ
  have kAJ:∀b o,HA b=some o->b≠qd->b≠kn->b≠qq->b≠la->HJ b=some o:=λb o hb n1 n2 n3 n4=>kIJ _ _ (kGI _ _ (kAG _ _ hb n1) n2 n3) n4
  have lst:∀{y:Addr} {ys:List V},HA y=some (.lst ys)->y≠qq->HJ y=some (.lst ys):=fun{y ys} hy nq=>by
   obtain⟨kv0,h0⟩:=hknA
   refine kAJ _ _ hy (λz => ?_) (zdk hy h0 (by intro z;cases z)) nq (zdk hy hlaA (by intro z;cases z))
   have:=eAD _ _ hy
   rw[z,hqdD]at this;cases this
  obtain⟨vsp2,hplA,_⟩:=leA.pl
  have hrdJ:HJ rd=some (.dT rvs):=kAJ _ _ hrdA rdqd (Ne.symm n_knrd) (zdk hrdA hqqA (by intro z;cases z)) (Ne.symm n_lard)
  refine⟨_,mlt,_,_,_,_,_,_,ks',us',Dn ++ [t],_,_,ρ,_,rvs,lvs',rfl,rfl,λb o hb=>kIJ _ _ (sI _ _ hb) (zaq hb f_la),leA.keep fAJ (λo ho=>by
    have hplA:HA pl=some (.lst vsp2):=hplA
    rw[hplA]at ho;cases ho;exact lst hplA (Ne.symm n_qqpl)),⟨lst qtA.at_ (Ne.symm n_qqql),qtA.nd,λj dj hj => ?_⟩,hrdJ,rpA.fix fAJ,hlaJ,plJ.congr λz => ?_,(waI.fix fIJ (λo ho=>kIJ _ _ ho n_knla) (λo ho=>kIJ _ _ ho (λz=>by
    obtain⟨v0,h0,_⟩:=waI.ql
    have z:qq=la:=z
    rw[z,hlaI]at h0;cases h0))),I.dv.quot om LO nz0 ft hxq (λu hu=>dv.cl t tU.1 i l hl ft.goes u hu) srI (λz => ?_),λz => ?_,by rw[ld1];exact jq⟩
  ·by_cases c:j=i
   ·subst c
    have hj:qds[j]? = some dj:=hj
    rw[hqx]at hj;cases hj
    refine⟨_,kIJ _ _ (kGI _ _ (eEG _ _ hqdE) (λz=>n_knq (by rw[<- z];exact qdm)) (Ne.symm n_qqqd)) (Ne.symm laqd),?_⟩
    rw[zjw]
    exact((pqD.fix (fE.tr (((Fix.of eEG).tr fGI).tr fIJ))).put o0 (Rep.fix (((Fix.of eEG).tr fGI).tr fIJ) rqE) x0)
   ·obtain⟨kvj,h1,h2⟩:=qtA.row j dj hj
    have djm:dj∈qds:=List.mem_of_getElem? hj
    rw[zgq c]
    refine⟨kvj,kAJ _ _ h1 (λz => ?_) (λz=>n_knq (by rw[<- z];exact djm)) (zdk h1 hqqA (by intro z;cases z)) (λz=>n_laq (by rw[<- z];exact djm)),h2.fix fAJ⟩
    have lj:j < qds.length:=by
     rcases Nat.lt_or_ge j qds.length with w | w
     ·exact w
     ·have hj:qds[j]? = some dj:=hj
      rw[List.getElem?_eq_none w]at hj;cases hj
    have hj:qds[j]? = some dj:=hj
    exact c ((List.getElem?_inj lj qtA.nd).mp (by rw[hj,hqx,z]))
  ·show lf z + -xq * sh (subT t l) (gs i) z=lf z - xq * sh (subT t l) (gs i) z
   grind
  ·rw[muI,ptd.tmem,nxz,kmA]
   constructor
   ·rintro(h | ⟨h1,h2⟩)
    ·exact .inl h
    ·exact .inr ⟨h1,λz=>h2 (.inl z),λz=>h2 (.inr z)⟩
   ·rintro(h | ⟨h1,h2,h3⟩)
    ·exact .inl h
    ·exact .inr ⟨h1,λw=>w.elim h2 h3⟩
  ·rw[mkI,muI,kmA]
   constructor
   ·rintro((h | h) | h)
    ·exact .inl (.inl h)
    ·exact .inr h
    ·by_cases c:z∈ks
     ·rcases(kmA z).mp c with w | w
      ·exact .inl (.inl w)
      ·exact .inr w
     ·exact .inl (.inr ⟨h,λw=>c ((kmA z).mpr w)⟩)
   ·rintro((h | ⟨h,_⟩) | h)
    ·exact .inl (.inl h)
    ·exact .inr h
    ·exact .inl (.inr h)
theorem scBD:FnScope ["ring","f","row"] ["ring","f","row"] (defScope zb6):=⟨rfl,rfl,rfl,by decide +kernel,rfl,by decide +kernel,by decide +kernel⟩
set_option maxHeartbeats 4000000 in
theorem zv5(F:FunD K "brought_down" "brought_down" zb6 .none f fd)(T:Txt K mg zap zab zai zal zae zam zac zad zan)(c_Div:Cal P w K mg base CX0 14 "divided" ["ring","f","row"] [] (spDiv zap zab zai zal zae zam zac)):FnOk P w K mg base CX0 15 f fd ["ring","f","row"] (spBD zap zab zai zal zae zam zac):=by
 refine F.okN (k:=14) scBD (λvs H Q E h => ?_) (λcdv A outer s H vs Q E hr h => ?_)
 ·obtain⟨F,fF,r,f,b,g,cF,ds,kvss,gs,fvs,φ,U,J,rfl,_⟩:=h
  rfl
 obtain⟨F,fF,r,f,b,g,cF,ds,kvss,gs,fvs,φ,U,J,rfl,h⟩:=h
 refine⟨_,(zaj (zas (zaz (r:=rIxT K) zax (pe_c c_Div hr pass00 .nil ((zaa (pv 0) (zaa (pv 1) (zaa (pv 2) zah))))) (zak) (λ_ _=>rfl)))),?_⟩
 obtain⟨hR,hB,tb,hf,pf,hds,dv,k⟩:=h
 refine⟨_,rfl,_,rfl,_,rfl,F,fF,r,f,b,g,cF,ds,kvss,gs,fvs,φ,U,J,rfl,hR,hB,tb,hf,pf,hds,dv,λH' p ql rd qds q S ρ R lds rvs e hp hq lq hrd pr lo dd n1 n2 n3 => ?_⟩
 exact⟨p,_,1,_,rfl,rfl,SqT.of hp,atI1,k H' rd q S ρ R lds rvs e hrd pr lo dd n1⟩
theorem scCell:FnScope ["_law_script","_law_k"] ["_law_script","_law_k"] (defScope zb7):=⟨rfl,rfl,rfl,by decide +kernel,rfl,by decide +kernel,by decide +kernel⟩
set_option maxHeartbeats 4000000 in
theorem zs0(F:FunD K "_law_cell_at" "_law_cell_at" zb7 .none f fd)(T:Txt K mg zap zab zai zal zae zam zac zad zan)   : FnOk P w K mg base CX0 1 f fd ["_law_script","_law_k"] (spCell K):=by
 refine F.okN (k:=0) scCell (λvs H Q E h => ?_) (λcdv A outer s H vs Q E hr h => ?_)
 ·obtain⟨a,ns,k,rfl,_⟩:=h
  rfl
 obtain⟨a,ns,k,rfl,h⟩:=h
 refine⟨_,(zag (zbc (zat zg7 (pv 1) (zay (zbq (K:=K) rfl) rfl T.b_len PySem.boot_len ((zaa (pv 0) zah))) (nomark _)) (zaj (zas (zaz (r:=rIxL K) zd4 (pv 0) (pv 1) (λ_ _=>rfl)))) zav)
  (zaj (zas (zak)))),?_⟩
 obtain⟨hS,h0,q⟩:=h
 have hl:(ns.map V.int).length=ns.length:=List.length_map _
 refine⟨_,rfl,_,rfl,a,_,rfl,.inl hS,?_⟩
 walk_at "rd"
 refine cD (λc => ?_) (λc => ?_)
 ·rw[hl]at c
  exact⟨_,rfl,_,rfl,a,_,_,_,rfl,rfl,hS,zru h0 c,q⟩
 ·rw[hl]at c
  have e:cellOf ns k=0:=by unfold cellOf;rw[List.getD_eq_getElem?_getD,List.getElem?_eq_none (by omega)];rfl
  rw[e]at q
  exact q
theorem scGcd:FnScope ["_law_one_here","_law_other","_law_rest"] ["_law_one_here","_law_other"] (defScope zdr):=⟨rfl,rfl,rfl,by decide +kernel,rfl,by decide +kernel,by decide +kernel⟩
set_option maxHeartbeats 4000000 in
theorem zvb(F:FunD K "_law_gcd" "_law_gcd" zdr .none f fd)(T:Txt K mg zap zab zai zal zae zam zac zad zan)   : FnOk P w K mg base CX0 1 f fd ["_law_one_here","_law_other"] spGcdB:=by
 refine F.okN (k:=0) scGcd (λvs H Q E h => ?_) (λcdv A outer s H vs Q E hr h => ?_)
 ·obtain⟨t,b,rfl,_⟩:=h
  rfl
 obtain⟨t,b,rfl,h⟩:=h
 refine⟨_,(zag (zeb PassesOwn.never (zat zid (pv 1) (zak) (nomark _)) (zag (zau (i:=2) scGcd.nd rfl (Or.inl rfl) (zaw zgp (pv 0) (pv 1)))
  (zag (zau (i:=0) scGcd.nd rfl (Or.inl rfl) (pv 1))
  (zaj (zau (i:=1) scGcd.nd rfl (Or.inl rfl) (pv 2))))))
  (zaj (zas (zay ze1 rfl T.b_abs (by kernel_rfl) ((zaa (pv 0) zah)))))),?_⟩
 obtain⟨b0,bt,k⟩:=h
 refine⟨λm σ H'=>∃(a' b':Int) (v:Option V),m=b'.toNat/\σ = [some (.int a'),some (.int b'),v]/\H'=H/\0<=b'/\(b'=0->0<=a')/\gI a' b'=gI t b,⟨_,_,_,none,rfl,rfl,rfl,b0,bt,rfl⟩,?_⟩
 rintro m σ H' ⟨a',b',v,rfl,rfl,rfl,h1,h2,hg⟩
 walk_at "rd"
 refine cNe (λc => ?_) (λc => ?_)
 ·refine⟨λσ' H''=>∃v',σ'=[some (.int b'),some (.int (a'.fmod b')),v']/\H''=H',?_,?_⟩
  ·rintro σ' H'' ⟨v',rfl,rfl⟩
   have bp:0 < b':=by omega
   exact⟨(a'.fmod b').toNat,K1.less bp,_,_,v',rfl,rfl,rfl,Int.fmod_nonneg_of_pos _ bp,λ_=>h1,(ztu bp).trans hg⟩
  ·refine⟨_,rfl,_,rfl,_,_,rfl,rfl,c,?_⟩
   walk_at "rd"
   rfl
 ·refine⟨_,rfl,_,rfl,?_⟩
  have a0:=h2 c
  rw[if_neg (by omega)]
  rw[c,zom _ a0]at hg
  rw[hg];exact k
theorem scNorm:FnScope ["_law_p","_law_top","_law_bottom","_law_most"] ["_law_p","_law_top","_law_bottom"] (defScope zdf):=⟨rfl,rfl,rfl,by decide +kernel,rfl,by decide +kernel,by decide +kernel⟩
set_option maxHeartbeats 4000000 in
theorem zs8(F:FunD K "_law_norm" "_law_norm" zdf .none f fd)(T:Txt K mg zap zab zai zal zae zam zac zad zan)(c_Gcd:Cal P w K mg base CX0 1 "_law_gcd" ["_law_one_here","_law_other"] [] spGcdB):FnOk P w K mg base CX0 2 f fd ["_law_p","_law_top","_law_bottom"] spNormB:=by
 refine F.okN (k:=1) scNorm (λvs H Q E h => ?_) (λcdv A outer s H vs Q E hr h => ?_)
 ·obtain⟨F,fF,n,cF,t,b,rfl,_⟩:=h
  rfl
 obtain⟨F,fF,n,cF,t,b,rfl,h⟩:=h
 refine⟨_,(zag (zbc (zat zg4 (pv 0) (zak) (nomark _)) (zaj (zas (zaw zcu (pv 1) (pv 0)))) zav)
  (zag (zau (i:=3) scNorm.nd rfl (Or.inl rfl) (pe_c c_Gcd hr pass00 .nil ((zaa (pv 1) (zaa (pv 2) zah)))))
  (zaj (zas (zc6 ((zaa (zaw zce (pv 1) (pv 3)) (zaa (zaw zce (pv 2) (pv 3)) zah)))))))),?_⟩
 obtain⟨n2,hb,hb1,k⟩:=h
 walk_at "rd"
 refine cD (λc => ?_) (λc => ?_)
 ·have n0:n≠0:=by omega
  refine⟨_,rfl,_,rfl,_,_,rfl,rfl,(by show 0 < n;omega),?_⟩
  refine k (ic t) _ H ?_ (Same.refl _) ((zdl n0).mpr ⟨_,rfl,Int.emod_nonneg _ n0,Int.emod_lt_of_pos _ c,(zgu t).symm⟩)
  rw[hb1 n0,zfj];grind
 ·obtain rfl:=zka n2 c
  obtain⟨b1,b2⟩:=hb rfl
  have gp:0 < gI t b:=zes (by omega)
  have gl:(gI t b).natAbs < 2 ^ 8999:=by
   have h1:gI t b<=b:=Int.le_of_dvd (by omega) (zfm t b)
   exact Nat.lt_of_le_of_lt (show _<=b.natAbs by omega) (Nat.lt_of_lt_of_le b2 (Nat.pow_le_pow_right (by decide) (by decide)))
  obtain⟨x,hx⟩:=zsu (F:=F) (t:=t) (b:=b) (by omega)
  refine⟨_,rfl,_,rfl,t,b,rfl,by omega,λz=>by omega,?_⟩
  refine⟨_,rfl,_,rfl,_,_,rfl,rfl,⟨by omega,gl⟩,_,rfl,_,rfl,_,_,rfl,rfl,⟨by omega,gl⟩,(by show 2<=sizeLine;decide),λr hr => ?_⟩
  exact k x _ _ hx (Same.upd hr) (zqt b1 zaf hx)
theorem scTimes:FnScope ["_law_p","_law_one_here","_law_other"] ["_law_p","_law_one_here","_law_other"] (defScope zc0):=⟨rfl,rfl,rfl,by decide +kernel,rfl,by decide +kernel,by decide +kernel⟩
set_option maxHeartbeats 4000000 in
theorem zpm(F:FunD K "_law_times" "_law_times" zc0 .none f fd)(T:Txt K mg zap zab zai zal zae zam zac zad zan)(c_Norm:Cal P w K mg base CX0 2 "_law_norm" ["_law_p","_law_top","_law_bottom"] [] spNormB):FnOk P w K mg base CX0 3 f fd ["_law_p","_law_one_here","_law_other"] spTimesB:=by
 refine F.okN (k:=2) scTimes (λvs H Q E h => ?_) (λcdv A outer s H vs Q E hr h => ?_)
 ·obtain⟨F,fF,n,cF,v1,v2,x,y,k1,k2,rfl,_⟩:=h
  rfl
 obtain⟨F,fF,n,cF,v1,v2,x,y,k1,k2,rfl,h⟩:=h
 refine⟨_,(zag (zbc (zat zg4 (pv 0) (zak) (nomark _)) (zaj (zas (zaw zcu (zaw zdm (pv 1) (pv 2)) (pv 0)))) zav)
  (zaj (zas (pe_c c_Norm hr pass00 .nil ((zaa (zak) (zaa (zaw zdm (zaz (r:=rIxT K) zax (pv 1) (zak) (λ_ _=>rfl)) (zaz (r:=rIxT K) zax (pv 2) (zak) (λ_ _=>rfl))) (zaa (zaw zdm (zaz (r:=rIxT K) zax (pv 1) (zak) (λ_ _=>rfl)) (zaz (r:=rIxT K) zax (pv 2) (zak) (λ_ _=>rfl))) zah)))))))),?_⟩
 obtain⟨n2,n9,hx,hy,lx,ly,kk,k⟩:=h
 have sm:∀{a:Int},0<=a->a < n->a.natAbs < 2 ^ 20000:=fun{a} h1 h2=>Nat.lt_of_le_of_lt (show a.natAbs<=9973 by omega) (Nat.lt_of_lt_of_le (show 9973 < 2 ^ 14 by decide) (Nat.pow_le_pow_right (by decide) (by decide)))
 have bg:∀{a:Int} {k:Nat},k<=8900->a.natAbs < 2 ^ k->a.natAbs < 2 ^ 20000:=fun{a k} h1 h2=>Nat.lt_of_lt_of_le h2 (Nat.pow_le_pow_right (by decide) (by omega))
 walk_at "rd"
 refine cD (λc => ?_) (λc => ?_)
 ·have n0:n≠0:=by omega
  obtain⟨a,rfl,a0,a1,ea⟩:=(zdl n0).mp hx
  obtain⟨b,rfl,b0,b1,eb⟩:=(zdl n0).mp hy
  refine⟨_,rfl,_,rfl,_,_,rfl,rfl,⟨sm a0 a1,sm b0 b1⟩,_,rfl,_,_,rfl,rfl,(by show 0 < n;omega),?_⟩
  exact k _ H (Same.refl _) ((zdl n0).mpr ⟨_,rfl,Int.emod_nonneg _ n0,Int.emod_lt_of_pos _ c,by rw[zgu,za3,<- ea,<- eb]⟩)
 ·obtain rfl:=zka n2 c
  obtain⟨r1,p1,q1,rfl,h1,g1,c1,e1,a1,b1⟩:=zgo hx lx
  obtain⟨r2,p2,q2,rfl,h2,g2,c2,e2,a2,b2⟩:=zgo hy ly
  have qq:(q1 * q2).natAbs < 2 ^ 8900:=by
   rw[Int.natAbs_mul]
   exact Nat.lt_of_lt_of_le (Nat.mul_lt_mul'' b1 b2) (by rw[<- Nat.pow_add];exact Nat.pow_le_pow_right (by decide) kk)
  have q0:1<=q1 * q2:=Int.mul_pos (show 0 < q1 by omega) (show 0 < q2 by omega)
  refine⟨_,rfl,r1,_,0,_,rfl,rfl,SqT.of h1,atI0,_,rfl,r2,_,0,_,rfl,rfl,SqT.of h2,atI0,_,_,rfl,rfl,⟨bg (by omega) a1,bg (by omega) a2⟩,_,rfl,r1,_,1,_,rfl,rfl,SqT.of h1,atI1,_,rfl,r2,_,1,_,rfl,rfl,SqT.of h2,atI1,_,_,rfl,rfl,⟨bg (by omega) b1,bg (by omega) b2⟩,F,fF,0,cF,p1 * p2,q1 * q2,rfl,.inl rfl,λ_=>⟨q0,qq⟩,λz=>absurd rfl z,λz v H' ez e hv => ?_⟩
  have nz:ic (F:=F) (q1 * q2)≠0:=zej (by omega)
  have ex:z=x * y:=by
   have e3:(x * y) * ic (q1 * q2)=ic (p1 * p2):=by rw[za3,za3,<- e1,<- e2];grind
   grind
  rw[ex]at hv
  exact k v H' e hv
theorem scPlus:FnScope ["_law_p","_law_one_here","_law_other"] ["_law_p","_law_one_here","_law_other"] (defScope zde):=⟨rfl,rfl,rfl,by decide +kernel,rfl,by decide +kernel,by decide +kernel⟩
set_option maxHeartbeats 4000000 in
theorem zsx(F:FunD K "_law_plus" "_law_plus" zde .none f fd)(T:Txt K mg zap zab zai zal zae zam zac zad zan)(c_Norm:Cal P w K mg base CX0 2 "_law_norm" ["_law_p","_law_top","_law_bottom"] [] spNormB):FnOk P w K mg base CX0 3 f fd ["_law_p","_law_one_here","_law_other"] spPlusB:=by
 refine F.okN (k:=2) scPlus (λvs H Q E h => ?_) (λcdv A outer s H vs Q E hr h => ?_)
 ·obtain⟨F,fF,n,cF,v1,v2,x,y,k1,k2,rfl,_⟩:=h
  rfl
 obtain⟨F,fF,n,cF,v1,v2,x,y,k1,k2,rfl,h⟩:=h
 refine⟨_,(zag (zbc (zat zg4 (pv 0) (zak) (nomark _)) (zaj (zas (zaw zcu (zaw zdw (pv 1) (pv 2)) (pv 0)))) zav)
  (zaj (zas (pe_c c_Norm hr pass00 .nil ((zaa (zak) (zaa (zaw zdw (zaw zdm (zaz (r:=rIxT K) zax (pv 1) (zak) (λ_ _=>rfl)) (zaz (r:=rIxT K) zax (pv 2) (zak) (λ_ _=>rfl))) (zaw zdm (zaz (r:=rIxT K) zax (pv 2) (zak) (λ_ _=>rfl)) (zaz (r:=rIxT K) zax (pv 1) (zak) (λ_ _=>rfl)))) (zaa (zaw zdm (zaz (r:=rIxT K) zax (pv 1) (zak) (λ_ _=>rfl)) (zaz (r:=rIxT K) zax (pv 2) (zak) (λ_ _=>rfl))) zah)))))))),?_⟩
 obtain⟨n2,n9,hx,hy,lx,ly,kk,k⟩:=h
 have sm:∀{a:Int},0<=a->a < n->a.natAbs < 2 ^ 20000:=fun{a} h1 h2=>Nat.lt_of_le_of_lt (show a.natAbs<=9973 by omega) (Nat.lt_of_lt_of_le (show 9973 < 2 ^ 14 by decide) (Nat.pow_le_pow_right (by decide) (by decide)))
 have bg:∀{a:Int} {k:Nat},k<=8900->a.natAbs < 2 ^ k->a.natAbs < 2 ^ 20000:=fun{a k} h1 h2=>Nat.lt_of_lt_of_le h2 (Nat.pow_le_pow_right (by decide) (by omega))
 walk_at "rd"
 refine cD (λc => ?_) (λc => ?_)
 ·have n0:n≠0:=by omega
  obtain⟨a,rfl,a0,a1,ea⟩:=(zdl n0).mp hx
  obtain⟨b,rfl,b0,b1,eb⟩:=(zdl n0).mp hy
  refine⟨_,rfl,_,rfl,_,_,rfl,rfl,_,rfl,_,_,rfl,rfl,(by show 0 < n;omega),?_⟩
  exact k _ H (Same.refl _) ((zdl n0).mpr ⟨_,rfl,Int.emod_nonneg _ n0,Int.emod_lt_of_pos _ c,by rw[zgu,zim,<- ea,<- eb]⟩)
 ·obtain rfl:=zka n2 c
  obtain⟨r1,p1,q1,rfl,h1,g1,c1,e1,a1,b1⟩:=zgo hx lx
  obtain⟨r2,p2,q2,rfl,h2,g2,c2,e2,a2,b2⟩:=zgo hy ly
  have qq:(q1 * q2).natAbs < 2 ^ 8900:=by
   rw[Int.natAbs_mul]
   exact Nat.lt_of_lt_of_le (Nat.mul_lt_mul'' b1 b2) (by rw[<- Nat.pow_add];exact Nat.pow_le_pow_right (by decide) kk)
  have q0:1<=q1 * q2:=Int.mul_pos (show 0 < q1 by omega) (show 0 < q2 by omega)
  refine⟨_,rfl,r1,_,0,_,rfl,rfl,SqT.of h1,atI0,_,rfl,r2,_,1,_,rfl,rfl,SqT.of h2,atI1,_,_,rfl,rfl,⟨bg (by omega) a1,bg (by omega) b2⟩,_,rfl,r2,_,0,_,rfl,rfl,SqT.of h2,atI0,_,rfl,r1,_,1,_,rfl,rfl,SqT.of h1,atI1,_,_,rfl,rfl,⟨bg (by omega) a2,bg (by omega) b1⟩,_,_,rfl,rfl,_,rfl,r1,_,1,_,rfl,rfl,SqT.of h1,atI1,_,rfl,r2,_,1,_,rfl,rfl,SqT.of h2,atI1,_,_,rfl,rfl,⟨bg (by omega) b1,bg (by omega) b2⟩,F,fF,0,cF,p1 * q2 + p2 * q1,q1 * q2,rfl,.inl rfl,λ_=>⟨q0,qq⟩,λz=>absurd rfl z,λz v H' ez e hv => ?_⟩
  have nz:ic (F:=F) (q1 * q2)≠0:=zej (by omega)
  have ex:z=x + y:=by
   have e3:(x + y) * ic (q1 * q2)=ic (p1 * q2 + p2 * q1):=by rw[zim,za3,za3,za3,<- e1,<- e2];grind
   grind
  rw[ex]at hv
  exact k v H' e hv
theorem scNouB:FnScope ["_law_p"] ["_law_p"] (defScope zcm):=⟨rfl,rfl,rfl,by decide +kernel,rfl,by decide +kernel,by decide +kernel⟩
set_option maxHeartbeats 4000000 in
theorem zrp(F:FunD K "_law_nought" "_law_nought" zcm .none f fd)(T:Txt K mg zap zab zai zal zae zam zac zad zan)   : FnOk P w K mg base CX0 1 f fd ["_law_p"] (spNouB 0):=by
 refine F.okN (k:=0) scNouB (λvs H Q E h => ?_) (λcdv A outer s H vs Q E hr h => ?_)
 ·obtain⟨F,fF,n,cF,rfl,_⟩:=h
  rfl
 obtain⟨F,fF,n,cF,rfl,h⟩:=h
 refine⟨_,(zag (zbc (zat zg4 (pv 0) (zak) (nomark _)) (zaj (zas (zak))) zav)
  (zaj (zas (zc6 ((zaa (zak) (zaa (zak) zah))))))),?_⟩
 obtain⟨n2,k⟩:=h
 walk_at "rd"
 refine cD (λc => ?_) (λc => ?_)
 ·have n0:n≠0:=by omega
  have p2:=(n2.resolve_left n0).1
  exact k _ H (Same.refl _) ((zdl n0).mpr ⟨0,rfl,by decide,by omega,rfl⟩)
 ·obtain rfl:=zka n2 c
  refine⟨(by show 2<=sizeLine;decide),λr hr => ?_⟩
  exact k _ _ (Same.upd hr) (rep_0.mpr ⟨r,0,1,rfl,zaf,by decide,zkp _,by rw[zfj];grind⟩)
theorem scOneB:FnScope ["_law_p"] ["_law_p"] (defScope zds):=⟨rfl,rfl,rfl,by decide +kernel,rfl,by decide +kernel,by decide +kernel⟩
set_option maxHeartbeats 4000000 in
theorem zsf(F:FunD K "_law_one" "_law_one" zds .none f fd)(T:Txt K mg zap zab zai zal zae zam zac zad zan)   : FnOk P w K mg base CX0 1 f fd ["_law_p"] (spNouB 1):=by
 refine F.okN (k:=0) scOneB (λvs H Q E h => ?_) (λcdv A outer s H vs Q E hr h => ?_)
 ·obtain⟨F,fF,n,cF,rfl,_⟩:=h
  rfl
 obtain⟨F,fF,n,cF,rfl,h⟩:=h
 refine⟨_,(zag (zbc (zat zg4 (pv 0) (zak) (nomark _)) (zaj (zas (zak))) zav)
  (zaj (zas (zc6 ((zaa (zak) (zaa (zak) zah))))))),?_⟩
 obtain⟨n2,k⟩:=h
 walk_at "rd"
 refine cD (λc => ?_) (λc => ?_)
 ·have n0:n≠0:=by omega
  have p2:=(n2.resolve_left n0).1
  exact k _ H (Same.refl _) ((zdl n0).mpr ⟨1,rfl,by decide,by omega,rfl⟩)
 ·obtain rfl:=zka n2 c
  refine⟨(by show 2<=sizeLine;decide),λr hr => ?_⟩
  exact k _ _ (Same.upd hr) (rep_0.mpr ⟨r,1,1,rfl,zaf,by decide,zkp _,by rw[zfj];grind⟩)
theorem scSomeB:FnScope ["_law_p","_law_cell"] ["_law_p","_law_cell"] (defScope zdg):=⟨rfl,rfl,rfl,by decide +kernel,rfl,by decide +kernel,by decide +kernel⟩
set_option maxHeartbeats 4000000 in
theorem zor(F:FunD K "_law_some" "_law_some" zdg .none f fd)(T:Txt K mg zap zab zai zal zae zam zac zad zan)(c_Norm:Cal P w K mg base CX0 2 "_law_norm" ["_law_p","_law_top","_law_bottom"] [] spNormB):FnOk P w K mg base CX0 3 f fd ["_law_p","_law_cell"] spSomeB:=by
 refine F.okN (k:=2) scSomeB (λvs H Q E h => ?_) (λcdv A outer s H vs Q E hr h => ?_)
 ·obtain⟨F,fF,n,cF,c,rfl,_⟩:=h
  rfl
 obtain⟨F,fF,n,cF,c,rfl,h⟩:=h
 refine⟨_,(zag (zbc (zat zg4 (pv 0) (zak) (nomark _)) (zaj (zas (zaw zdw (zak) (zaw zcu (pv 1) (zaw ziy (pv 0) (zak)))))) zav)
  (zaj (zas (pe_c c_Norm hr pass00 .nil ((zaa (zak) (zaa (zaw zhj (zaw zdw (zak) (zaw zcu (zaw zee (pv 1) (zak)) (zak))) (zaw ziy (zak) (zaw zhj (zaw zcu (pv 1) (zak)) (zak)))) (zaa (zaw zdw (zak) (zaw zcu (zaw zee (pv 1) (zak)) (zak))) zah)))))))),?_⟩
 obtain⟨n2,k⟩:=h
 walk_at "rd"
 refine cD (λc0 => ?_) (λc0 => ?_)
 ·have n0:n≠0:=by omega
  have p2:=(n2.resolve_left n0).1
  refine⟨_,rfl,_,rfl,_,_,rfl,rfl,_,_,rfl,rfl,(by show 0 < n - 1;omega),_,_,rfl,rfl,?_⟩
  have h1:=Int.emod_nonneg c (show n - 1≠0 by omega)
  have h2:=Int.emod_lt_of_pos c (show 0 < n - 1 by omega)
  refine k (ic (1 + c % (n - 1))) _ H (zpa (n:=n) λz => ?_) (Lim.of_ne n0) (Same.refl _) ((zdl n0).mpr ⟨_,rfl,by omega,by omega,rfl⟩)
  have z2:=(zr_n n0).mp z
  rw[Int.emod_eq_of_lt (by omega) (by omega)]at z2
  omega
 ·obtain rfl:=zka n2 c0
  walk_at "rd"
  obtain⟨t,et,t1,t2⟩:∃t:Int,(1 + c / 2 % 20) * (1 - c % 2 * 2)=t/\t≠0/\t.natAbs<=20:=by
   rcases(by omega:c % 2=0\/c % 2=1) with q | q <;> rw[q]
   ·exact⟨1 + c / 2 % 20,by omega,by omega,by omega⟩
   ·exact⟨-(1 + c / 2 % 20),by omega,by omega,by omega⟩
  have b3:(1 + c / 40 % 3).natAbs<=3:=by omega
  refine⟨F,fF,0,cF,_,_,rfl,.inl rfl,λ_=>⟨by omega,Nat.lt_of_le_of_lt b3 (Nat.lt_of_lt_of_le (show 3 < 2 ^ 2 by decide) (Nat.pow_le_pow_right (by decide) (by decide)))⟩,λz=>absurd rfl z,λx v H' ex e hv => ?_⟩
  rw[et]at ex
  refine k x v H' (λz => ?_) (.of (T:=t) (B:=1 + c / 40 % 3) (by omega) ex (Nat.lt_of_le_of_lt t2 (by decide)) (Nat.lt_of_le_of_lt b3 (by decide))) e hv
  have nz:ic (F:=F) t≠0:=zej t1
  rw[z]at ex
  grind
theorem scLPb:FnScope ["_law_cell","_law_found"] ["_law_cell"] (defScope zcr):=⟨rfl,rfl,rfl,by decide +kernel,rfl,by decide +kernel,by decide +kernel⟩
set_option maxHeartbeats 4000000 in
theorem zt5(F:FunD K "_law_prime" "_law_prime" zcr .none f fd)(T:Txt K mg zap zab zai zal zae zam zac zad zan)   : FnOk P w K mg base CX0 1 f fd ["_law_cell"] spLPb:=by
 refine F.okN (k:=0) scLPb (λvs H Q E h => ?_) (λcdv A outer s H vs Q E hr h => ?_)
 ·obtain⟨c,rfl,_⟩:=h
  rfl
 obtain⟨c,rfl,h⟩:=h
 refine⟨_,(zag (zau (i:=1) scLPb.nd rfl (Or.inr rfl) (zaw zdw (zak) (zaw zcu (zaw zee (pv 0) (zak)) (zak))))
  (zag (zbc (zat zed (zaw zcu (pv 0) (zak)) (zak) (nomark _)) (zaj (zau (i:=1) scLPb.nd rfl (Or.inr rfl) (zaw zdw (zak) (zaw zcu (zaw zhj (zaw zee (pv 0) (zak)) (zak)) (zak))))) zav)
  (zag (zeb PassesOwn.never (zat (zkq hr.units) (zc8 (N:=["_law_k","_law_found"]) (cl:=[("_law_found",s.heap.objs.size + 1)]) (mp:=[none,some 1]) (Blk.of rfl (by decide +kernel) rfl (by decide +kernel) zdp (zc7 rfl zez) (zlg (fs:=["_law_found"]) rfl (by decide +kernel)) rfl (zdy (zc3 rfl (.inl rfl) rfl zew))) rfl (zmu rfl T.b_range ((zaa (zak) (zaa (zak) zah)))) (λC0 s0 H0 fp0=>zeu (i:=0) zdp rfl rfl) (λC0 s0 H0 fp0=>zhy (PW.pt (zk7 (zat zg7 (pv 0) (pv 1) (nomark _)) (zia (zat zed (zaw zcu (pv 1) (pv 0)) (zak) (nomark _)))))) (λC0 s0 H0 fp0=>pv 0)) (zfa (zah)) (nomark _)) (zaj (zau (i:=1) scLPb.nd rfl (Or.inr rfl) (zaw zdw (pv 1) (zak)))))
  (zaj (zas (pv 1)))))),?_⟩
 have k:=h
 refine zgn (λσ' H'=>H'=H/\σ'=[some (.int c),some (.int (2 + c / 2 % 30))]) ?_ λN hN => ?_
 rotate_left
 ·walk_at "rd"
  exact hN _ _ ⟨rfl,rfl⟩
 rintro σ0 H0 ⟨rfl,rfl⟩
 refine zgn (λσ' H'=>H'=H0/\∃n:Int,σ'=[some (.int c),some (.int n)]/\2<=n/\n<=9973) ?_ λN hN => ?_
 rotate_left
 ·walk_at "rd"
  refine cEq (λc1 => ?_) (λc1 => ?_)
  ·walk_at "rd"
   exact hN _ _ ⟨rfl,_,rfl,by omega,by omega⟩
  ·exact hN _ _ ⟨rfl,_,rfl,by omega,by omega⟩
 rintro σ1 H1 ⟨rfl,n0,rfl,n02,n09⟩
 refine⟨λm σ H'=>∃n:Int,m=(9973 - n).toNat/\σ = [some (.int c),some (.int n)]/\Same H1 H'/\2<=n/\n<=9973,⟨_,_,rfl,rfl,Same.refl _,by omega,by omega⟩,?_⟩
 rintro m σ H' ⟨n,rfl,rfl,e1,n2,n9⟩
 show tComp _ _ _ _ _ _ _ _
 refine zea (J:=Itr 2 98) (H1:=H') (zex 2 98) (by decide) ?_ (λσ=>∃v,σ = [v,some (.int n)]) (λi=>decide ((2:Int) + i < n) && decide (n % (2 + (i:Int))=0)) (λi => .int (2 + (i:Int))) ⟨none,rfl⟩ ?_ λD H2 e2 hL => ?_
 ·exact λR hR=>⟨2,100,rfl,⟨by decide,by decide,by decide,by decide⟩,hR⟩
 ·rintro i v σ' H3 hi ⟨z,rfl⟩ e3 rfl Ny Nn hy hn
  dsimp only[gName]
  have q1:=hy [some (.int (2 + (i:Int))),some (.int n)] H3 ⟨_,rfl⟩ (Same.refl _)
  have q2:=hn [some (.int (2 + (i:Int))),some (.int n)] H3 ⟨_,rfl⟩ (Same.refl _)
  refine⟨_,rfl,_,rfl,_,_,rfl,rfl,_,rfl,?_⟩
  by_cases c1:(2:Int) + (i:Int) < n
  ·rw[decide_eq_true c1]at q1 q2 ⊢
   rw[if_pos rfl]
   refine⟨_,rfl,_,rfl,_,_,rfl,rfl,(by show (0:Int) < 2 + (i:Int);omega),rfl,_,rfl,?_⟩
   rw[zh5]
   refine cD (λc2 => ?_) (λc2 => ?_)
   ·rw[decide_eq_true c2]at q1
    exact⟨_,rfl,q1 rfl⟩
   ·rw[decide_eq_false c2]at q2
    exact q2 rfl
  ·rw[decide_eq_false c1]at q1 q2 ⊢
   rw[if_neg (by decide)]
   exact q2 rfl
 refine⟨(by show 0<=sizeLine;decide),λD2 hD2 => ?_⟩
 have e3:Same H2 (upd H2 D2 (.lst [])):=Same.upd hD2
 generalize hfl:(List.range 98).filter (λi=>decide ((2:Int) + (i:Nat) < n) && decide (n % (2 + ((i:Nat):Int))=0))=fl at hL
 have hI:fl.map (λi:Nat=>V.int (2 + (i:Int)))=(fl.map λi:Nat=>(2 + (i:Int))).map V.int:=by rw[List.map_map];rfl
 rw[hI]at hL
 refine⟨.list ((fl.map λi:Nat=>(2 + (i:Int))).map PyData.int),.list [],.lst (SqL.of (e3 _ _ hL)) (zgg _),.lst (SqL.of zaf) .nil,zii _,rfl,_,rfl,?_⟩
 have eqe:PyData.eqv (.list ((fl.map λi:Nat=>(2 + (i:Int))).map PyData.int)) (.list [])=decide (fl=[]):=by
  cases fl with
  | nil=>rfl
  | cons a l=>rfl
 rw[eqe]
 refine cNB (λc1 => ?_) (λc1 => ?_)
 ·have n3:n≠9973:=λz=>by
   subst z
   refine of_decide_eq_false c1 ?_
   rw[<- hfl]
   decide +kernel
  refine⟨λσ' H''=>σ'=[some (.int c),some (.int (n + 1))]/\Same H1 H'',?_,?_⟩
  ·rintro σ' H'' ⟨rfl,e4⟩
   exact⟨(9973 - (n + 1)).toNat,by omega,n + 1,rfl,rfl,e4,by omega,by omega⟩
  ·walk_at "rd"
   exact(e1.trans e2).trans e3
 ·have f0:fl=[]:=of_decide_eq_true c1
  refine⟨_,rfl,k n _ ((e1.trans e2).trans e3) (zqs n2 n9 λj hj hz => ?_) n9⟩
  have jj:(2:Int) + (j.val:Int) < n:=by
   have:((j.val:Int) + 2) * 2<=((j.val:Int) + 2) * ((j.val:Int) + 2):=Int.mul_le_mul_of_nonneg_left (by omega) (by omega)
   omega
  have jz:n % (2 + (j.val:Int))=0:=by
   rw[Int.fmod_eq_emod_of_nonneg _ (by omega)]at hz
   rw[Int.add_comm];exact hz
  have:j.val∈fl:=by
   rw[<- hfl]
   refine List.mem_filter.mpr ⟨List.mem_range.mpr j.isLt,?_⟩
   show (decide ((2:Int) + (j.val:Int) < n) && decide (n % (2 + (j.val:Int))=0))=true
   rw[decide_eq_true jj,decide_eq_true jz];rfl
  rw[f0]at this;cases this
theorem scLRs:FnScope ["_law_cell"] ["_law_cell"] (defScope zct):=⟨rfl,rfl,rfl,by decide +kernel,rfl,by decide +kernel,by decide +kernel⟩
set_option maxHeartbeats 4000000 in
theorem zu8(F:FunD K "_law_rests" "_law_rests" zct .none f fd)(T:Txt K mg zap zab zai zal zae zam zac zad zan)(c_LPb:Cal P w K mg base CX0 1 "_law_prime" ["_law_cell"] [] spLPb):FnOk P w K mg base CX0 2 f fd ["_law_cell"] spLRs:=by
 refine F.okN (k:=1) scLRs (λvs H Q E h => ?_) (λcdv A outer s H vs Q E hr h => ?_)
 ·obtain⟨c,rfl,_⟩:=h
  rfl
 obtain⟨c,rfl,h⟩:=h
 refine⟨_,(zag (zbc (zat zed (zaw zcu (pv 0) (zak)) (zak) (nomark _)) (zaj (zas (zak))) zav)
  (zaj (zas (pe_c c_LPb hr pass00 .nil ((zaa (zaw zee (pv 0) (zak)) zah)))))),?_⟩
 have k:=h
 walk_at "rd"
 refine cEq (λc0=>k 0 H (Same.refl _) (.inl rfl) (by decide)) (λc0 => ?_)
 walk_at "rd"
 exact λn H' e p n9=>k n H' e (.inr p) n9
theorem scWhole:FnScope ["_law_found"] ["_law_found"] (defScope zc2):=⟨rfl,rfl,rfl,by decide +kernel,rfl,by decide +kernel,by decide +kernel⟩
set_option maxHeartbeats 4000000 in
theorem zqd(F:FunD K "_law_whole" "_law_whole" zc2 .none f fd)(T:Txt K mg zap zab zai zal zae zam zac zad zan)   : FnOk P w K mg base CX0 1 f fd ["_law_found"] spWhole:=by
 refine F.okN (k:=0) scWhole (λvs H Q E h => ?_) (λcdv A outer s H vs Q E hr h => ?_)
 ·obtain⟨i,rfl,_⟩:=h
  rfl
 obtain⟨i,rfl,h⟩:=h
 refine⟨_,(zaj (zas (zhe (zay (zci (K:=K) rfl) rfl T.b_isinstance (by kernel_rfl) ((zaa (pv 0) (zaa (zff (v := .ty "int") rfl T.b_int (by kernel_rfl) rfl) zah)))) (zki (zuj (zay (zci (K:=K) rfl) rfl T.b_isinstance (by kernel_rfl) ((zaa (pv 0) (zaa (zff (v := .ty "bool") rfl T.b_bool (by kernel_rfl) rfl) zah))))))))),?_⟩
 exact⟨_,rfl,_,_,_,_,_,rfl,rfl,.int i,T.kii,_,rfl,iteT ⟨_,rfl,_,_,_,_,_,rfl,rfl,.int i,T.kib,_,rfl,h⟩⟩
theorem scIsN:FnScope ["_law_p","_law_found"] ["_law_p","_law_found"] (defScope zbk):=⟨rfl,rfl,rfl,by decide +kernel,rfl,by decide +kernel,by decide +kernel⟩
set_option maxHeartbeats 4000000 in
theorem zua(F:FunD K "_law_is_number" "_law_is_number" zbk .none f fd)(T:Txt K mg zap zab zai zal zae zam zac zad zan)(c_Whole:Cal P w K mg base CX0 1 "_law_whole" ["_law_found"] [] spWhole)(c_Gcd:Cal P w K mg base CX0 1 "_law_gcd" ["_law_one_here","_law_other"] [] spGcdB):FnOk P w K mg base CX0 2 f fd ["_law_p","_law_found"] spIsN:=by
 refine F.okN (k:=1) scIsN (λvs H Q E h => ?_) (λcdv A outer s H vs Q E hr h => ?_)
 ·obtain⟨F,fF,n,cF,v,x,rfl,_⟩:=h
  rfl
 obtain⟨F,fF,n,cF,v,x,rfl,h⟩:=h
 refine⟨_,(zag (zbc (zat zg4 (pv 0) (zak) (nomark _)) (zaj (zas (zhe (pe_c c_Whole hr pass00 .nil ((zaa (pv 1) zah))) (zki (zpj zg7 zg7 (zak) (pv 1) (pv 0)))))) zav)
  (zag (zbc (PW.pt (zfe (zd0 (zdj (zay (zci (K:=K) rfl) rfl T.b_isinstance (by kernel_rfl) ((zaa (pv 1) (zaa (zff (v := .ty "tuple") rfl T.b_tuple (by kernel_rfl) rfl) zah)))))) (zfe (zat zid (zay (zbq (K:=K) rfl) rfl T.b_len PySem.boot_len ((zaa (pv 1) zah))) (zak) (nomark _)) (zfe (zd0 (zdj (pe_c c_Whole hr pass00 .nil ((zaa (zaz (r:=rIxT K) zax (pv 1) (zak) (λ_ _=>rfl)) zah))))) (zfq (zd0 (zdj (pe_c c_Whole hr pass00 .nil ((zaa (zaz (r:=rIxT K) zax (pv 1) (zak) (λ_ _=>rfl)) zah)))))))))) (zaj (zas (ze5))) zav)
  (zaj (zas (zhe (zd3 zid (zaz (r:=rIxT K) zax (pv 1) (zak) (λ_ _=>rfl)) (zak) (nomark _)) (zhe (zd3 zg4 (zaz (r:=rIxT K) zax (pv 1) (zak) (λ_ _=>rfl)) (zak) (nomark _)) (zki (zd3 zed (pe_c c_Gcd hr pass00 .nil ((zaa (zaz (r:=rIxT K) zax (pv 1) (zak) (λ_ _=>rfl)) (zaa (zaz (r:=rIxT K) zax (pv 1) (zak) (λ_ _=>rfl)) zah)))) (zak) (nomark _))))))))),?_⟩
 obtain⟨n2,hv,x0,k⟩:=h
 walk_at "rd"
 refine cD (λc => ?_) (λc => ?_)
 ·have n0:n≠0:=by omega
  obtain⟨a,rfl,a0,a1,ea⟩:=(zdl n0).mp hv
  have az:a≠0:=by rintro rfl;rw[zb1]at ea;exact x0 ea
  refine⟨_,rfl,a,rfl,_,rfl,iteT ⟨_,rfl,_,_,rfl,rfl,_,rfl,?_⟩⟩
  rw[decide_eq_true (show (0:Int) < a by omega)]
  refine iteT ⟨_,rfl,_,_,rfl,rfl,?_⟩
  show Q (.bl (decide (a < n))) H
  rw[decide_eq_true a1];exact k
 ·obtain rfl:=zka n2 c
  obtain⟨r,p,q,rfl,hr0,q1,g1,e1⟩:=rep_0.mp hv
  have pz:p≠0:=by
   rintro rfl
   rw[zb1]at e1
   have nz:ic (F:=F) q≠0:=zej (by omega)
   apply x0;grind
  refine⟨_,rfl,_,_,_,_,_,rfl,rfl,.tup hr0,T.ktt,_,rfl,iteF ?_⟩
  refine⟨_,rfl,r,_,rfl,.inr (SqT.of hr0),rfl,_,rfl,iteNS rfl ?_⟩
  refine⟨_,rfl,r,_,_,_,rfl,rfl,SqT.of hr0,atI0,p,rfl,_,rfl,iteF ?_⟩
  refine⟨_,rfl,r,_,_,_,rfl,rfl,SqT.of hr0,atI1,q,rfl,_,rfl,iteF ?_⟩
  refine⟨_,rfl,r,_,_,_,rfl,rfl,SqT.of hr0,atI0,rfl,_,rfl,?_⟩
  rw[show (decide (V.int p=V.int 0))=false from by rw[zh5];exact decide_eq_false pz]
  refine iteT ⟨_,rfl,r,_,_,_,rfl,rfl,SqT.of hr0,atI1,_,_,rfl,rfl,_,rfl,?_⟩
  rw[decide_eq_true (show (0:Int) < q by omega)]
  refine iteT ⟨_,rfl,r,_,_,_,rfl,rfl,SqT.of hr0,atI0,_,rfl,r,_,_,_,rfl,rfl,SqT.of hr0,atI1,p,q,rfl,by omega,λz=>by omega,rfl,?_⟩
  rw[g1];exact k
theorem scIsP:FnScope ["_law_p","_law_many","_law_found","_law_term","_law_number"] ["_law_p","_law_many","_law_found"] (defScope zcc):=⟨rfl,rfl,rfl,by decide +kernel,rfl,by decide +kernel,by decide +kernel⟩
set_option maxHeartbeats 4000000 in
theorem zt4(F:FunD K "_law_is_poly" "_law_is_poly" zcc .none f fd)(T:Txt K mg zap zab zai zal zae zam zac zad zan)(c_IsN:Cal P w K mg base CX0 2 "_law_is_number" ["_law_p","_law_found"] [] spIsN)(c_Whole:Cal P w K mg base CX0 1 "_law_whole" ["_law_found"] [] spWhole):FnOk P w K mg base CX0 3 f fd ["_law_p","_law_many","_law_found"] spIsP:=by
 refine F.okN (k:=2) scIsP (λvs H Q E h => ?_) (λcdv A outer s H vs Q E hr h => ?_)
 ·obtain⟨F,fF,n,cF,m,d,kvs,φ,rfl,_⟩:=h
  rfl
 obtain⟨F,fF,n,cF,m,d,kvs,φ,rfl,h⟩:=h
 refine⟨_,(zag (zbc (zd0 (zdj (zay (zci (K:=K) rfl) rfl T.b_isinstance (by kernel_rfl) ((zaa (pv 2) (zaa (zff (v := .ty "dict") rfl T.b_dict (by kernel_rfl) rfl) zah)))))) (zaj (zas (ze5))) zav)
  (zag (zil (zf4 PassesOwn.never rfl (zf9 (pv 2)) (zg8 rfl (zcp (zb2 (i:=3) scIsP.nd rfl (Or.inl rfl)) (zcp (zb2 (i:=4) scIsP.nd rfl (Or.inl rfl)) zfv))) (zag (zbc (PW.pt (zfe (zd0 (zdj (zay (zci (K:=K) rfl) rfl T.b_isinstance (by kernel_rfl) ((zaa (pv 3) (zaa (zff (v := .ty "tuple") rfl T.b_tuple (by kernel_rfl) rfl) zah)))))) (zfe (zat zid (zay (zbq (K:=K) rfl) rfl T.b_len PySem.boot_len ((zaa (pv 3) zah))) (pv 1) (nomark _)) (zfq (zd0 (zdj (pe_c c_IsN hr pass00 .nil ((zaa (pv 0) (zaa (pv 4) zah)))))))))) (zaj (zas (ze5))) zav)
  (zaj (zbc (zat (zkq hr.units) (zc8 (N:=["_law_power"]) (Blk.plain (by decide +kernel) (by decide +kernel) rfl (by decide +kernel) zfs) rfl (zsb (K:=K) rfl (pv 3)) (λC0 s0 H0 fp0=>zeu (i:=0) zfs rfl rfl) (λC0 s0 H0 fp0=>zhy (PW.pt (zfe (zd0 (zdj (pe_c c_Whole hr pass00 .nil ((zaa (pv 0) zah))))) (zfq (zat zg7 (pv 0) (zak) (nomark _)))))) (λC0 s0 H0 fp0=>pv 0)) (zfa (zah)) (nomark _)) (zaj (zas (ze5))) zav)))))
  (zaj (zas (ze5))))),?_⟩
 obtain⟨n2,m4,hd,pf,k⟩:=h
 refine⟨_,rfl,_,_,_,_,_,rfl,rfl,.dT hd,T.kdd,_,rfl,iteF ?_⟩
 refine⟨_,rfl,d,kvs,rfl,.inl hd,λo => ?_⟩
 refine zfr (λi σ H'=>(∃v3 v4,σ = [some (.int n),some (.int m),some (.ref d),v3,v4])/\FzD H' d o kvs/\Kp [d] H H') ⟨⟨none,none,rfl⟩,zaf,Kp.upd (by simp)⟩ (λi σ H' h=>h.2.1) ?_ ?_
 ·rintro i kx v σ H2 p b hk ⟨⟨v3,v4,rfl⟩,hz,kp⟩ hp hb
  obtain⟨t,rfl,t0,ht,iv,nv⟩:=pf.ix hk
  have fx:Fix H H2:=kp.fix λa ha ob hob=>by
   rw[List.mem_singleton.mp ha,hd]at hob;cases hob;exact .inl ⟨_,rfl⟩
  refine⟨p,_,rfl,SqT.of zaf,rfl,_,_,rfl,_,_,rfl,rfl,?_⟩
  have e3:Same H2 (upd H2 p (.tup [.ref b,v])):=Same.upd hp
  generalize upd H2 p (HO.tup [V.ref b,v])=H3 at e3
  have hb3:=e3 _ _ hb
  rw[zeq]at hb3
  have tl:(t.map V.int).length=m:=by rw[List.length_map,t0.len]
  refine⟨_,rfl,_,_,_,_,_,rfl,rfl,.tup hb3,T.ktt,_,rfl,iteF ?_⟩
  refine⟨_,rfl,b,_,rfl,.inr (SqT.of hb3),_,rfl,rfl,_,rfl,?_⟩
  rw[tl]
  refine iteNS rfl ?_
  refine⟨_,rfl,_,rfl,F,fF,n,cF,v,φ t,rfl,n2,iv.fix (fx.tr (.of e3)),nv,_,rfl,iteF ?_⟩
  show tComp _ _ _ _ _ _ _ _
  refine zea (J:=Itt K b) (H1:=H3) (zp1 (SqT.of hb3)) (by rw[tl];omega) ?_ (λσ=>∃v,σ = [v]) (λ_=>false) (λi => .int 0) ⟨none,rfl⟩ ?_ λD H4 e4 hL => ?_
  ·exact λR hR=>⟨_,rfl,b,rfl,⟨_,SqT.of hb3⟩,hR⟩
  ·rintro i v σ' H4 hi ⟨z,rfl⟩ e4 hv Ny Nn hy hn
   dsimp only[gName]
   rw[List.getElem?_map]at hv
   cases ha:t[i]? with
   | none=>rw[ha]at hv;cases hv
   | some a=>
    rw[ha]at hv
    injection hv with hv
    subst hv
    refine⟨_,rfl,a,rfl,_,rfl,iteF ⟨_,rfl,_,_,rfl,rfl,_,rfl,?_⟩⟩
    rw[decide_eq_false (show ¬a < 0 by have:=t0.mem a (List.mem_of_getElem? ha);omega)]
    exact iteF (hn _ _ ⟨_,rfl⟩ (Same.refl _) rfl)
  rw[List.filter_eq_nil_iff.mpr (λ_ _=>by simp)]at hL
  refine⟨(by show 0<=sizeLine;decide),λD2 hD2 => ?_⟩
  have e5:Same H4 (upd H4 D2 (.lst [])):=Same.upd hD2
  refine⟨.list [],.list [],.lst (SqL.of (e5 _ _ hL)) .nil,.lst (SqL.of zaf) .nil,rfl,rfl,_,rfl,iteF ?_⟩
  have g5:=(e3.trans e4).trans e5
  exact⟨⟨_,_,rfl⟩,g5 _ _ hz,kp.tr (.of g5)⟩
 ·rintro σ H2 ⟨⟨v3,v4,rfl⟩,hz,kp⟩
  refine .inr ⟨d,o,_,hz,λo' w' z => ?_,?_⟩
  ·have z':H d=some (.frz o' w'):=z
   rw[hd]at z';cases z'
  refine k _ λb ob hb => ?_
  by_cases be:b=d
  ·subst be;rw[zaf,<- hd];exact hb
  ·rw[zao be]
   exact kp _ _ hb (by simp[be])
theorem scArP:FnScope ["_law_p","_law_many","_law_count","_law_found"] ["_law_p","_law_many","_law_count","_law_found"] (defScope zbm):=⟨rfl,rfl,rfl,by decide +kernel,rfl,by decide +kernel,by decide +kernel⟩
set_option maxHeartbeats 4000000 in
theorem ztw(F:FunD K "_law_are_polys" "_law_are_polys" zbm .none f fd)(T:Txt K mg zap zab zai zal zae zam zac zad zan)(c_IsP:Cal P w K mg base CX0 3 "_law_is_poly" ["_law_p","_law_many","_law_found"] [] spIsP):FnOk P w K mg base CX0 4 f fd ["_law_p","_law_many","_law_count","_law_found"] spArP:=by
 refine F.okN (k:=3) scArP (λvs H Q E h => ?_) (λcdv A outer s H vs Q E hr h => ?_)
 ·obtain⟨F,fF,n,cF,m,l,ds,q,rfl,_⟩:=h
  rfl
 obtain⟨F,fF,n,cF,m,l,ds,q,rfl,h⟩:=h
 refine⟨_,(zag (zbc (PW.pt (zfe (zd0 (zdj (zay (zci (K:=K) rfl) rfl T.b_isinstance (by kernel_rfl) ((zaa (pv 3) (zaa (zff (v := .ty "list") rfl T.b_list (by kernel_rfl) rfl) zah)))))) (zfq (zat zid (zay (zbq (K:=K) rfl) rfl T.b_len PySem.boot_len ((zaa (pv 3) zah))) (pv 2) (nomark _))))) (zaj (zas (ze5))) zav)
  (zaj (zas (zay (zi8 (K:=K) rfl rfl) rfl T.b_all (by kernel_rfl) ((zaa (zc8 (N:=["_law_f","_law_many","_law_p"]) (cl:=[("_law_p",s.heap.objs.size + 1),("_law_many",s.heap.objs.size + 2)]) (mp:=[none,some 1,some 0]) (Blk.of rfl (by decide +kernel) rfl (by decide +kernel) zco (zc7 rfl (zc7 rfl zez)) (zlg (fs:=["_law_p","_law_many"]) rfl (by decide +kernel)) rfl (zdy (zc3 rfl (.inl rfl) rfl (zc3 rfl (.inl rfl) rfl zew)))) rfl (ze0 (K:=K) rfl (pv 3)) (λC0 s0 H0 fp0=>zeu (i:=0) zco rfl rfl) (λC0 s0 H0 fp0=>zdn) (λC0 s0 H0 fp0=>pe_c c_IsP hr pass00 .nil ((zaa (pv 2) (zaa (pv 1) (zaa (pv 0) zah)))))) zah)))))),?_⟩
 obtain⟨n2,m4,hl,qt,k⟩:=h
 refine⟨_,rfl,_,_,_,_,_,rfl,rfl,.lst qt.at_,T.kll,_,rfl,iteF ?_⟩
 refine⟨_,rfl,l,_,rfl,.inl (SqL.of qt.at_),_,rfl,rfl,_,rfl,?_⟩
 rw[List.length_map]
 refine iteNS rfl ?_
 show tComp _ _ _ _ _ _ _ _
 refine zea (J:=Itl K l) (H1:=H) (zet (SqL.of qt.at_)) (by rw[List.length_map];exact hl) ?_ (λσ=>∃v,σ = [v,some (.int m),some (.int n)]) (λ_=>true) (λi => .bl true) ⟨none,rfl⟩ ?_ λD H4 e4 hL => ?_
 ·exact λR hR=>⟨_,rfl,l,rfl,⟨_,SqL.of qt.at_⟩,hR⟩
 ·rintro i v σ' H4 hi ⟨z,rfl⟩ e4 hv Ny Nn hy hn
  rw[List.getElem?_map]at hv
  cases ha:ds[i]? with
  | none=>rw[ha]at hv;cases hv
  | some a=>
   rw[ha]at hv
   injection hv with hv
   subst hv
   obtain⟨kvs,h1,h2⟩:=qt.row i a ha
   unfold tYes
   dsimp only[gName]
   rw[if_pos rfl]
   exact⟨_,rfl,_,rfl,_,rfl,F,fF,n,cF,m,a,kvs,q i,rfl,n2,m4,e4 _ _ h1,h2.same e4,λH' e=>hy _ _ ⟨_,rfl⟩ e rfl⟩
 rw[List.filter_eq_self.mpr (λ_ _=>rfl)]at hL
 refine⟨D,(List.range (ds.map V.ref).length).map λ_=>true,rfl,SqL.of (by rw[hL,List.map_map];rfl),?_⟩
 have ea:((List.range (ds.map V.ref).length).map λ_=>true).all id=true:=by simp
 rw[ea]
 exact k _ e4
theorem scLFld:FnScope ["_law_p"] ["_law_p"] (defScope zcs):=⟨rfl,rfl,rfl,by decide +kernel,rfl,by decide +kernel,by decide +kernel⟩
set_option maxHeartbeats 4000000 in
theorem zs9(F:FunD K "_law_field" "_law_field" zcs .none f fd)(T:Txt K mg zap zab zai zal zae zam zac zad zan)(k_FracInit:Mak P w K mg base CX0 2 "Fractions" zab ["self"] [] (spFracInit zab))(k_RestsInit:Mak P w K mg base (CXe P w) 2 "Rests" zai ["self","prime"] [] (spRests zai zda)):FnOk P w K mg base CX0 4 f fd ["_law_p"] (spLFld zab zai):=by
 refine F.okN (k:=3) scLFld (λvs H Q E h => ?_) (λcdv A outer s H vs Q E hr h => ?_)
 ·obtain⟨n,rfl,_⟩:=h
  rfl
 obtain⟨n,rfl,h⟩:=h
 refine⟨_,(zag (zbc (zat zed (pv 0) (zak) (nomark _)) (zaj (zas (zuh k_FracInit hr pass00 .nil))) zav)
  (zaj (zas (zmf k_RestsInit hr passF .nil ((zaa (pv 0) zah)))))),?_⟩
 obtain⟨n2,n1,k⟩:=h
 walk_at "rd"
 refine cEq (λc => ?_) (λc => ?_)
 ·subst c
  intro x dx nx ndx ne
  refine⟨x,dx,rfl,zaf,rfl,?_⟩
  refine k x _ (λb o e => ?_) ?_
  ·rw[zao (zaq e nx),zao (zaq e nx),zao (zaq e ndx)]
   exact e
  ·unfold AtN
   rw[if_pos rfl]
   exact⟨dx,zaf⟩
 ·have hp:Pr n:=n2.resolve_left c
  refine⟨_,rfl,λx dx nx ndx ne => ?_⟩
  refine⟨x,dx,n,rfl,zaf,.inl ⟨n1,zu2 hp,rfl,?_⟩⟩
  refine k x _ (λb o e => ?_) ?_
  ·rw[zao (zaq e nx),zao (zaq e nx),zao (zaq e ndx)]
   exact e
  ·unfold AtN
   rw[if_neg c]
   exact⟨dx,zaf,hp,n1⟩
theorem scLOrd:FnScope ["_law_kind","_law_weights"] ["_law_kind","_law_weights"] (defScope zcq):=⟨rfl,rfl,rfl,by decide +kernel,rfl,by decide +kernel,by decide +kernel⟩
set_option maxHeartbeats 4000000 in
theorem zrw(F:FunD K "_law_order" "_law_order" zcq .none f fd)(T:Txt K mg zap zab zai zal zae zam zac zad zan)(k_WInit:Mak P w K mg base (CXe P w) 1 "Weights" zac ["self","weights"] [] (spWInit K zac zc9)):FnOk P w K mg base CX0 3 f fd ["_law_kind","_law_weights"] (spLOrdB zal zae zam zac):=by
 refine F.okN (k:=2) scLOrd (λvs H Q E h => ?_) (λcdv A outer s H vs Q E hr h => ?_)
 ·obtain⟨l,kd,ws,rfl,_⟩:=h
  rfl
 obtain⟨l,kd,ws,rfl,h⟩:=h
 refine⟨_,(zag (zbc (zat zed (pv 0) (zak) (nomark _)) (zaj (zas (zkb T.n0_Degrees T.mg_Degrees))) zav)
  (zag (zbc (zat zed (pv 0) (zak) (nomark _)) (zaj (zas (zkb T.n0_Tails T.mg_Tails))) zav)
  (zag (zbc (zat zed (pv 0) (zak) (nomark _)) (zaj (zas (zmf k_WInit hr passF .nil ((zaa (zbt (zlx (K:=K) rfl) rfl T.b_list (by kernel_rfl) ((zaa (pv 1) zah))) zah))))) zav)
  (zaj (zas (zkb T.n0_Order T.mg_Order)))))),?_⟩
 obtain⟨k0,k4,hl,hlen,hn,q⟩:=h
 have mk:∀{C:Addr} {H:Hp} {p dx:Addr},H p=none->H dx=none->Same H (upd (upd H dx (.own p)) p (.ins C dx [])):=fun{C H p dx} np ndx b o e=>by
  rw[zao (zaq e np),zao (zaq e ndx)]
  exact e
 walk_at "rd"
 refine cEq (λc => ?_) (λc => ?_)
 ·intro p dx np ndx ne
  exact q p _ (mk np ndx) (by unfold AtK;rw[if_neg (by omega),if_pos c];exact⟨dx,zaf⟩)
 walk_at "rd"
 refine cEq (λc1 => ?_) (λc1 => ?_)
 ·intro p dx np ndx ne
  exact q p _ (mk np ndx) (by unfold AtK;rw[if_neg (by omega),if_neg (by omega),if_pos c1];exact⟨dx,zaf⟩)
 walk_at "rd"
 refine cEq (λc2 => ?_) (λc2 => ?_)
 ·refine⟨_,rfl,l,_,rfl,.inl (SqL.of hl),λm hm => ?_⟩
  have e1:Same H (upd H m (HO.lst (ws.map V.int))):=Same.upd hm
  intro p dx np ndx ne
  have e2:=mk (C:=zac) np ndx
  refine⟨p,dx,m,ws,rfl,zaf,SqL.of (e2 _ _ zaf),hlen,.inl ⟨hn,λwt H' h1 h2 h3=>⟨rfl,q p H' (λb o e=>h3 b o (e2 _ _ (e1 _ _ e)) (zaq (e1 _ _ e) np)) ?_⟩⟩⟩
  unfold AtK
  rw[if_neg (by omega),if_neg (by omega),if_neg (by omega)]
  exact⟨dx,wt,h1,h2⟩
 ·intro p dx np ndx ne
  exact q p _ (mk np ndx) (by unfold AtK;rw[if_pos (by omega)];exact⟨dx,zaf⟩)
theorem scCop:FnScope ["_law_row"] ["_law_row"] (defScope zck):=⟨rfl,rfl,rfl,by decide +kernel,rfl,by decide +kernel,by decide +kernel⟩
set_option maxHeartbeats 4000000 in
theorem zu4(F:FunD K "_law_copies" "_law_copies" zck .none f fd)(T:Txt K mg zap zab zai zal zae zam zac zad zan)   : FnOk P w K mg base CX0 1 f fd ["_law_row"] spCop:=by
 refine F.okN (k:=0) scCop (λvs H Q E h => ?_) (λcdv A outer s H vs Q E hr h => ?_)
 ·obtain⟨b,ds,kvss,rfl,_⟩:=h
  rfl
 obtain⟨b,ds,kvss,rfl,h⟩:=h
 refine⟨_,(zaj (zas (zc8 (N:=["_law_f"]) (Blk.plain (by decide +kernel) (by decide +kernel) rfl (by decide +kernel) zi7) rfl (ze0 (K:=K) rfl (pv 0)) (λC0 s0 H0 fp0=>zeu (i:=0) zi7 rfl rfl) (λC0 s0 H0 fp0=>zdn) (λC0 s0 H0 fp0=>zbt zfy rfl T.b_dict (by kernel_rfl) ((zaa (pv 0) zah)))))),?_⟩
 obtain⟨hb,lk,l10,hrow,k⟩:=h
 show tComp _ _ _ _ _ _ _ _
 refine zkz ⟨_,rfl,b,rfl,⟨_,SqL.of hb⟩,λD hD => ?_⟩
 have e0:Same H (upd H D (.lst [])):=Same.upd hD
 refine zm0 (zet (SqL.of hb)) hD (zl _ (by rw[List.length_map];omega)) (λσ=>∃v,σ = [v]) (λ_=>true) (λi v H'=>∃d,v = .ref d/\H' d=some (.dT (kvss.getD i []))) (λi v H1 H2 e ⟨d,a1,a2⟩=>⟨d,a1,e _ _ a2⟩) (λi v H1 ys ys' hy ⟨d,a1,a2⟩=>⟨d,a1,by rw[zao (zdk a2 hy (by intro z;cases z))];exact a2⟩) ⟨none,rfl⟩ ?_ λH9 ys e9 hL hp => ?_
 ·rintro i v σ' H9 hi ⟨z,rfl⟩ e9 hv _ Ny Nn hy hn
  rw[List.getElem?_map]at hv
  cases hd:ds[i]? with
  | none=>rw[hd]at hv;cases hv
  | some d=>
   rw[hd]at hv
   injection hv with hv
   subst hv
   have li:i < kvss.length:=by rw[<- lk];exact za1 hd
   obtain⟨h1,h2⟩:=hrow i d _ hd (List.getElem?_eq_getElem li)
   unfold tYes
   dsimp only[gName]
   rw[if_pos rfl]
   refine⟨_,rfl,d,_,rfl,e9 _ _ h1,h2,λp hp => ?_⟩
   exact hy _ _ _ ⟨_,rfl⟩ (Same.upd hp) ⟨p,rfl,by rw[show kvss.getD i []=kvss[i] by simp[List.getD,li]];exact zaf⟩ rfl
 rw[List.filter_eq_self.mpr (λ_ _=>rfl)]at hp
 obtain⟨dh,eys,ldh,hdh⟩:=ztq hp
 rw[List.length_map]at ldh
 rw[eys]at hL
 refine k D dh H9 hD e9 hL ldh λi d kvs h1 h2 => ?_
 have:=hdh i d h1
 rw[show kvss.getD i []=kvs by simp[List.getD,h2]]at this
 exact this
theorem scAddB:FnScope ["_law_p","_law_total","_law_number","_law_term","_law_f","_law_other","_law_worth","_law_spot","_law_found"] ["_law_p","_law_total","_law_number","_law_term","_law_f"] (defScope zdt):=⟨rfl,rfl,rfl,by decide +kernel,rfl,by decide +kernel,by decide +kernel⟩
set_option maxHeartbeats 4000000 in
theorem zsl(F:FunD K "_law_add" "_law_add" zdt .none f fd)(T:Txt K mg zap zab zai zal zae zam zac zad zan)(c_Times:Cal P w K mg base CX0 3 "_law_times" ["_law_p","_law_one_here","_law_other"] [] spTimesB)(c_Plus:Cal P w K mg base CX0 3 "_law_plus" ["_law_p","_law_one_here","_law_other"] [] spPlusB)(c_NouB:Cal P w K mg base CX0 1 "_law_nought" ["_law_p"] [] (spNouB 0)):FnOk P w K mg base CX0 4 f fd ["_law_p","_law_total","_law_number","_law_term","_law_f"] spAddB:=by
 refine F.okN (k:=3) scAddB (λvs H Q E h => ?_) (λcdv A outer s H vs Q E hr h => ?_)
 ·obtain⟨F,fF,n,cF,m,d,v,t,e,kvs,fvs,φ,ψ,x,l,k1,k2,k3,rfl,_⟩:=h
  rfl
 obtain⟨F,fF,n,cF,m,d,v,t,e,kvs,fvs,φ,ψ,x,l,k1,k2,k3,rfl,h⟩:=h
 refine⟨_,(zaj (zil (zf4 PassesOwn.never rfl (zf9 (pv 4)) (zg8 rfl (zcp (zb2 (i:=5) scAddB.nd rfl (Or.inr rfl)) (zcp (zb2 (i:=6) scAddB.nd rfl (Or.inl rfl)) zfv))) (zag (zau (i:=7) scAddB.nd rfl (Or.inl rfl) (zbt (zch (K:=K) rfl) rfl T.b_tuple (by kernel_rfl) ((zaa (zc8 (N:=["_law_k","_law_other","_law_term"]) (cl:=[("_law_term",s.heap.objs.size + 1),("_law_other",s.heap.objs.size + 2)]) (mp:=[none,some 5,some 3]) (Blk.of rfl (by decide +kernel) rfl (by decide +kernel) zby (zc7 rfl (zc7 rfl zez)) (zlg (fs:=["_law_term","_law_other"]) rfl (by decide +kernel)) rfl (zdy (zc3 rfl (.inl rfl) rfl (zc3 rfl (.inl rfl) rfl zew)))) rfl (zev rfl T.b_range ((zaa (zay (zbq (K:=K) rfl) rfl T.b_len PySem.boot_len ((zaa (pv 3) zah))) zah))) (λC0 s0 H0 fp0=>zeu (i:=0) zby rfl rfl) (λC0 s0 H0 fp0=>zdn) (λC0 s0 H0 fp0=>zaw zdw (zaz (r:=rIxT K) zax (pv 2) (pv 0) (λ_ _=>rfl)) (zaz (r:=rIxT K) zax (pv 1) (pv 0) (λ_ _=>rfl)))) zah))))
  (zag (zau (i:=8) scAddB.nd rfl (Or.inl rfl) (pe_c c_Times hr pass00 .nil ((zaa (pv 0) (zaa (pv 2) (zaa (pv 6) zah))))))
  (zag (zbc (zk5 (znv (uOne hr) (pv 7) (pv 1))) (zaj (zau (i:=8) scAddB.nd rfl (Or.inl rfl) (pe_c c_Plus hr pass00 .nil ((zaa (pv 0) (zaa (zig (uOne hr) (pv 1) (pv 7) (λ_ _=>rfl)) (zaa (pv 8) zah))))))) zav)
  (zag (zfc (uOne hr) (pv 1) (pv 7) (pv 8) rfl)
  (zaj (zbc (zat (zkt hr.units) (pv 8) (pe_c c_NouB hr pass00 .nil ((zaa (pv 0) zah))) (nomark _)) (zaj (zdo (zjy (uOne hr) (pv 1) ((zaa (pv 7) zah))))) zav))))))))),?_⟩
 obtain⟨n2,n9,m4,de,hv,ht,tl,hd,he,pF,pG,hl,lx,lψ,lφ,kk,k⟩:=h
 refine⟨_,rfl,e,fvs,rfl,.inl he,λo => ?_⟩
 have ntd:=pG.tnd
 have lt:=zem fvs
 refine zfr (λi σ H'=>i<=fvs.length/\(∃v5 v6 v7 v8,σ = [some (.int n),some (.ref d),some v,some (.ref t),some (.ref e),v5,v6,v7,v8])/\FzD H' e o fvs/\Kp [d,e] H H'/\∃kv,H' d=some (.dT kv)/\PF n m H' kv (λu=>φ u + x * sh l (cutP ψ ((tms fvs).take i)) u)/\kv.length<=kvs.length + i) ?_ (λi σ H' h=>h.2.2.1) ?_ ?_
 ·refine⟨Nat.zero_le _,⟨none,none,none,none,rfl⟩,zaf,Kp.upd (by simp),kvs,?_,?_,Nat.le_refl _⟩
  ·rw[zao de];exact hd
  ·refine(pF.fix (zcl he)).congr λt => ?_
   rw[List.take_zero,zhp];unfold sh;split <;> grind
 ·rintro i kx vx σ H2 p b hk ⟨hi,⟨v5,v6,v7,v8,rfl⟩,hz,hk2,kv,hd2,pk,lk⟩ hp hb
  obtain⟨y,rfl,y0,hy,iy,ny⟩:=pG.ix hk
  have hlt:=za1 hk
  have hti:=zr7 ntd hy
  have tk:=zen hy
  have fx:Fix H H2:=hk2.fix λa ha ob hob=>by
   rcases List.mem_cons.mp ha with rfl | ha
   ·rw[hd]at hob;cases hob;exact .inl ⟨_,rfl⟩
   ·rw[List.mem_singleton.mp ha,he]at hob;cases hob;exact .inl ⟨_,rfl⟩
  refine⟨p,_,rfl,SqT.of zaf,rfl,_,_,rfl,_,_,rfl,rfl,?_⟩
  have e3:Same H2 (upd H2 p (.tup [.ref b,vx])):=Same.upd hp
  generalize upd H2 p (HO.tup [V.ref b,vx])=H3 at e3
  have hb3:=e3 _ _ hb
  rw[zeq]at hb3
  have fx3:Fix H H3:=fx.tr (.of e3)
  have ht3:=fx3.tup _ _ ht
  dsimp only[gName]
  show tComp _ _ _ _ _ _ _ _
  refine zlj (H1:=H3) (m:Int) (λσ=>∃v,σ = [v,some (.ref b),some (.ref t)]) (λ_=>true) (λi => .int (l.getD i 0 + y.getD i 0)) (by omega) (by omega) ?_ ⟨none,rfl⟩ ?_ λD6 H6 e6 hL6 => ?_
  ·exact λR hR=>⟨_,rfl,t,_,rfl,.inr (SqT.of ht3),by rw[List.length_map,tl.len];exact hR⟩
  ·rintro i σ' H4 hi ⟨z,rfl⟩ e4 Ny Nn hy hn
   unfold tYes
   dsimp only[gName]
   rw[if_pos rfl]
   have hi':i < m:=by omega
   rw[Int.zero_add]
   refine⟨_,rfl,_,rfl,t,_,_,_,rfl,rfl,SqT.of (e4 _ _ ht3),zk6 (by rw[tl.len];exact hi'),_,rfl,_,rfl,b,_,_,_,rfl,rfl,SqT.of (e4 _ _ hb3),zk6 (by rw[y0.len];exact hi'),_,_,rfl,rfl,?_⟩
   exact hy _ _ ⟨_,rfl⟩ (Same.refl _) rfl
  rw[List.filter_eq_self.mpr (λ_ _=>rfl),Int.toNat_natCast,zou tl.len y0.len]at hL6
  refine⟨D6,_,rfl,.inl ⟨SqL.of hL6,λsp hsp => ?_⟩⟩
  have e7:Same H6 (upd H6 sp (.tup ((addT l y).map V.int))):=Same.upd hsp
  have hs7:(upd H6 sp (HO.tup ((addT l y).map V.int))) sp=some (.tup ((addT l y).map V.int)):=zaf
  generalize upd H6 sp (HO.tup ((addT l y).map V.int))=H7 at e7 hs7
  have g7:=(e3.trans e6).trans e7
  have fx7:Fix H H7:=fx.tr (.of g7)
  dsimp only[gName]
  refine⟨_,rfl,_,rfl,_,rfl,F,fF,n,cF,v,vx,x,ψ y,k1,k2,rfl,n2,n9,hv.fix fx7,iy.fix fx7,lx,lψ y,by omega,λw8 H8 e8 hw8 => ?_⟩
  dsimp only[gName]
  have hd8:=e8 _ _ (g7 _ _ hd2)
  have hs8:=e8 _ _ hs7
  have cut0:cutP ψ ((tms fvs).take i) y=0:=zky hti
  have ll:y.length=l.length:=y0.len.trans tl.len.symm
  have val0 : φ (addT l y) + x * sh l (cutP ψ ((tms fvs).take i)) (addT l y) = φ (addT l y):=by rw[znc ll,cut0];grind
  have pk8:=pk.same (g7.trans e8)
  refine zgn (λσ' H'=>Same H8 H'/\∃v',σ'=[some (.int n),some (.ref d),some v,some (.ref t),some (.ref e),some (.ref b),some vx,some (.ref sp),some v']/\Rep n H' v' (φ (addT l y) + x * ψ y)) ?_ ?_
  rotate_left
  ·intro N hN
   refine⟨_,rfl,_,rfl,d,_,rfl,DGet.t hd8 (by rw[zeq];exact hs8),_,rfl,?_⟩
   cases hval:valV kv (ky (addT l y)) with
   | none=>
    have z:=pk8.out _ hval
    rw[val0]at z
    refine iteF (hN _ _ ⟨Same.refl _,w8,rfl,?_⟩)
    rw[z,show (0:F) + x * ψ y=x * ψ y by grind];exact hw8
   | some v0=>
    obtain⟨a1,a2⟩:=pk8.val _ v0 hval
    rw[val0]at a1
    refine iteT ⟨_,rfl,_,rfl,_,rfl,d,v0,rfl,?_,_,rfl,F,fF,n,cF,v0,w8,φ (addT l y),x * ψ y,k3,k1 + k2,rfl,n2,n9,a1,hw8,lφ _,lx.mul (lψ y),by omega,λv' H9 e9 hv'=>hN _ _ ⟨e9,v',rfl,hv'⟩⟩
    have:=DGet.t (k:=ky (addT l y)) hd8 (by rw[zeq];exact hs8)
    rw[hval]at this
    exact this
  rintro σ' H9 ⟨e9,v',rfl,hv'⟩
  have g9:=(g7.trans e8).trans e9
  have hd9:=e9 _ _ hd8
  have hs9:=e9 _ _ hs8
  have hz9:FzD H9 e o fvs:=g9 _ _ hz
  have hk9:Kp [d,e] H H9:=hk2.tr (.of g9)
  have pk9:=pk8.same e9
  refine⟨_,rfl,_,rfl,_,rfl,d,_,rfl,DPut.t hd9 (by rw[zeq];exact hs9) (by omega),?_⟩
  have fxA:=zcl (o := .dT (putK kv (ky (addT l y)) v')) hd9
  have hdA:(upd H9 d (.dT (putK kv (ky (addT l y)) v'))) d=some (.dT (putK kv (ky (addT l y)) v')):=zaf
  have hzA:FzD (upd H9 d (.dT (putK kv (ky (addT l y)) v'))) e o fvs:=(zao (Ne.symm de)).trans hz9
  have hkA:Kp [d,e] H (upd H9 d (.dT (putK kv (ky (addT l y)) v'))):=hk9.tr (Kp.upd (by simp))
  generalize upd H9 d (HO.dT (putK kv (ky (addT l y)) v'))=HA at fxA hdA hzA hkA
  refine⟨_,rfl,_,rfl,F,fF,n,cF,rfl,n2,λu HB eB hu => ?_⟩
  rw[zb1]at hu
  have hdB:=eB _ _ hdA
  have hsB:=eB _ _ (fxA.tup _ _ hs9)
  obtain⟨dn,z0,rd,rz,s1,s2,eq⟩:=zho (K:=K) ((hv'.fix fxA).same eB) hu
  refine⟨dn,z0,rd,rz,s1,s2,_,rfl,?_⟩
  have lp:=zdh kv (ky (addT l y)) v'
  rcases eq with⟨z,q⟩ | ⟨z,q⟩
  ·rw[q]
   refine iteT ?_
   refine⟨_,rfl,.inr (.inr (.inl ⟨rfl,.inr ⟨_,hdB⟩⟩)),_,rfl,d,sp,_,ky (addT l y),v',rfl,rfl,hdB,(by rw[zeq];exact hsB),(by rw[zks,if_pos rfl]),?_⟩
   refine⟨hlt,⟨_,_,_,_,rfl⟩,(zao (Ne.symm de)).trans (eB _ _ hzA),(hkA.tr (.of eB)).tr (Kp.upd (by simp)),_,zaf,?_,?_⟩
   ·rw[tk,<- zin ll,z,zp6]
    exact(((pk9.drop _).fix fxA).same eB).fix (zcl hdB)
   ·have:=zic (putK kv (ky (addT l y)) v') (ky (addT l y));omega
  ·rw[q]
   refine iteF ?_
   refine⟨hlt,⟨_,_,_,_,rfl⟩,eB _ _ hzA,hkA.tr (.of eB),_,hdB,?_,by omega⟩
   rw[tk,<- zin ll]
   exact(((pk9.put (T0.add tl y0) hv' z)).fix fxA).same eB
 ·rintro σ H2 ⟨_,⟨v5,v6,v7,v8,rfl⟩,hz,hk2,kv,hd2,pk,lk⟩
  rw[<- lt,List.take_length,zh9 λt ht=>pG.tmem.mpr ht]at pk
  refine .inr ⟨e,o,_,hz,λo' w' z => ?_,k _ kv (λb ob hb hbd => ?_) ?_ ?_ lk⟩
  ·have z':H e=some (.frz o' w'):=z
   rw[he]at z';cases z'
  ·by_cases be:b=e
   ·subst be;rw[zaf,<- he];exact hb
   ·rw[zao be]
    exact hk2 _ _ hb (by simp at hbd;simp[hbd,be])
  ·rw[zao de];exact hd2
  ·exact pk.fix (zgf (u := .dT []) hz (.inr (.inr ⟨_,_,rfl⟩)))
theorem scDrw:FnScope ["_law_p","_law_cell"] ["_law_p","_law_cell"] (defScope zcy):=⟨rfl,rfl,rfl,by decide +kernel,rfl,by decide +kernel,by decide +kernel⟩
set_option maxHeartbeats 4000000 in
theorem zuu(F:FunD K "_law_drawn" "_law_drawn" zcy .none f fd)(T:Txt K mg zap zab zai zal zae zam zac zad zan)(c_NouB:Cal P w K mg base CX0 1 "_law_nought" ["_law_p"] [] (spNouB 0))(c_SomeB:Cal P w K mg base CX0 3 "_law_some" ["_law_p","_law_cell"] [] spSomeB):FnOk P w K mg base CX0 4 f fd ["_law_p","_law_cell"] spDrw:=by
 refine F.okN (k:=3) scDrw (λvs H Q E h => ?_) (λcdv A outer s H vs Q E hr h => ?_)
 ·obtain⟨F,fF,n,cF,c,rfl,_⟩:=h
  rfl
 obtain⟨F,fF,n,cF,c,rfl,h⟩:=h
 refine⟨_,(zag (zbc (zat zed (zaw zcu (pv 1) (zak)) (zak) (nomark _)) (zaj (zas (pe_c c_NouB hr pass00 .nil ((zaa (pv 0) zah))))) zav)
  (zaj (zas (pe_c c_SomeB hr pass00 .nil ((zaa (pv 0) (zaa (zaw zee (pv 1) (zak)) zah))))))),?_⟩
 obtain⟨n2,k⟩:=h
 walk_at "rd"
 refine cEq (λc0 => ?_) (λc0 => ?_)
 ·refine⟨_,rfl,F,fF,n,cF,rfl,n2,λv H' e hv=>k 0 v H' (Lim.zero (by decide)) e (by rw[zb1]at hv;exact hv)⟩
 ·walk_at "rd"
  exact⟨F,fF,n,cF,_,rfl,n2,λx v H' _ l e hv=>k x v H' l e hv⟩
theorem scByP:FnScope ["_law_p","_law_numbers","_law_found","_law_k"] ["_law_p","_law_numbers"] (defScope zbf):=⟨rfl,rfl,rfl,by decide +kernel,rfl,by decide +kernel,by decide +kernel⟩
set_option maxHeartbeats 4000000 in
theorem zu1(F:FunD K "_law_by_powers" "_law_by_powers" zbf .none f fd)(T:Txt K mg zap zab zai zal zae zam zac zad zan)(c_NouB:Cal P w K mg base CX0 1 "_law_nought" ["_law_p"] [] (spNouB 0)):FnOk P w K mg base CX0 2 f fd ["_law_p","_law_numbers"] spByP:=by
 refine F.okN (k:=1) scByP (λvs H Q E h => ?_) (λcdv A outer s H vs Q E hr h => ?_)
 ·obtain⟨F,fF,n,cF,l,ys,xs,rfl,_⟩:=h
  rfl
 obtain⟨F,fF,n,cF,l,ys,xs,rfl,h⟩:=h
 refine⟨_,(zag (zau (i:=2) scByP.nd rfl (Or.inl rfl) (zc5))
  (zag (zf4 PassesOwn.never rfl (zev rfl T.b_range ((zaa (zay (zbq (K:=K) rfl) rfl T.b_len PySem.boot_len ((zaa (pv 1) zah))) zah))) (zb2 (i:=3) scByP.nd rfl (Or.inl rfl)) (zaj (zbc (zat (zkq hr.units) (zaz (r:=rIxL K) zd4 (pv 1) (pv 3) (λ_ _=>rfl)) (pe_c c_NouB hr pass00 .nil ((zaa (pv 0) zah))) (nomark _)) (zaj (zfc (uOne hr) (pv 2) (zc6 ((zaa (pv 3) zah))) (zaz (r:=rIxL K) zd4 (pv 1) (pv 3) (λ_ _=>rfl)) rfl)) zav)))
  (zaj (zas (pv 2))))),?_⟩
 obtain⟨n2,nl,l30,k⟩:=h
 intro d nd
 have e1:Same H (upd H d (.dT [])):=Same.upd nd
 have hd1:(upd H d (HO.dT [])) d=some (.dT []):=zaf
 generalize upd H d (HO.dT [])=H1 at e1 hd1
 have nl1:=nl.same e1
 dsimp only[gName]
 refine⟨_,rfl,l,_,rfl,.inl (SqL.of nl1.at_),_,rfl,by omega,by rw[nl.len];omega,?_⟩
 rw[nl.len,Int.toNat_natCast]
 refine zjg (λi σ H'=>i<=xs.length/\(∃v3,σ = [some (.int n),some (.ref l),some (.ref d),v3])/\Kp [d] H1 H'/\∃kv,H' d=some (.dT kv)/\PF n 1 H' kv (byP (xs.take i))/\kv.length<=i) ?_ ?_ ?_
 ·refine⟨Nat.zero_le _,⟨none,rfl⟩,Kp.refl _ _,[],hd1,PF.nil.congr λt => ?_,Nat.le_refl _⟩
  rw[List.take_zero,zsj]
 ·rintro i σ H2 hi ⟨_,⟨v3,rfl⟩,kp,kv,hd2,pf,lk⟩
  have dl:d≠l:=λz=>by rw[z,nl.at_]at nd;cases nd
  have nl2:NL n H2 l ys xs:=⟨kp _ _ nl1.at_ (by simp[Ne.symm dl]),nl.len,λj v hv=>(nl1.rep j v hv).fix (kp.fix λa ha ob hob=>by rw[List.mem_singleton.mp ha,hd1]at hob;cases hob;exact .inl ⟨_,rfl⟩)⟩
  have hy:ys[i]? = some (ys[i]'(by rw[nl.len];exact hi)):=List.getElem?_eq_getElem _
  generalize ys[i]'(by rw[nl.len];exact hi)=v at hy
  have hv:=nl2.rep i v hy
  have tk:xs.take (i + 1)=xs.take i ++ [xs.getD i 0]:=by rw[List.take_succ,List.getElem?_eq_getElem hi,show xs.getD i 0=xs[i] by simp[List.getD,hi]];rfl
  rw[Int.zero_add]
  dsimp only[gName]
  refine⟨_,rfl,_,rfl,l,_,_,_,rfl,rfl,SqL.of nl2.at_,zdz hy,_,rfl,F,fF,n,cF,rfl,n2,λu H3 e3 hu => ?_⟩
  rw[zb1]at hu
  obtain⟨dn,z0,rd,rz,s1,s2,eq⟩:=zho (K:=K) (hv.same e3) hu
  refine⟨dn,z0,rd,rz,s1,s2,_,rfl,?_⟩
  have tl:(xs.take i).length=i:=by rw[List.length_take];omega
  rcases eq with⟨z,q⟩ | ⟨z,q⟩
  ·rw[q]
   refine iteF ⟨hi,⟨_,rfl⟩,kp.tr (.of e3),kv,e3 _ _ hd2,?_,by omega⟩
   rw[tk,z,zol];exact pf.same e3
  ·rw[q]
   refine iteT ⟨_,rfl,_,rfl,l,_,_,_,rfl,rfl,SqL.of (e3 _ _ nl2.at_),zdz hy,_,rfl,_,rfl,(by show 1<=sizeLine;decide),λtt htt => ?_⟩
   have e4:Same H3 (upd H3 tt (.tup [.int i])):=Same.upd htt
   have ht4:(upd H3 tt (HO.tup [V.int i])) tt=some (.tup [.int i]):=zaf
   generalize upd H3 tt (HO.tup [V.int i])=H4 at e4 ht4
   have e34:=e3.trans e4
   have hd4:=e34 _ _ hd2
   refine⟨d,_,rfl,DPut.t (k:=ky [(i:Int)]) hd4 (by rw[zeq];exact ht4) (by rw[sizeLine_eq];omega),?_⟩
   refine⟨hi,⟨_,rfl⟩,(kp.tr (.of e34)).tr (Kp.upd (by simp)),_,zaf,?_,?_⟩
   ·rw[tk,zhw,tl]
    exact((pf.same e34).put (t0_1 i) (hv.same e34) z).fix (zcl hd4)
   ·have:=zdh kv (ky [(i:Int)]) v;omega
 ·rintro σ H2 ⟨_,⟨v3,rfl⟩,kp,kv,hd2,pf,lk⟩
  rw[List.take_length]at pf
  refine⟨_,rfl,k d H2 kv nd (λb o hb=>kp _ _ (e1 _ _ hb) (by simp;rintro rfl;rw[nd]at hb;cases hb)) hd2 pf (hds1 pf (zjr l30))⟩
theorem scDvr:FnScope ["_law_p","_law_number","_law_spot"] ["_law_p","_law_number","_law_spot"] (defScope zb4):=⟨rfl,rfl,rfl,by decide +kernel,rfl,by decide +kernel,by decide +kernel⟩
set_option maxHeartbeats 4000000 in
theorem zve(F:FunD K "_law_divisor" "_law_divisor" zb4 .none f fd)(T:Txt K mg zap zab zai zal zae zam zac zad zan)(c_Norm:Cal P w K mg base CX0 2 "_law_norm" ["_law_p","_law_top","_law_bottom"] [] spNormB)(c_Times:Cal P w K mg base CX0 3 "_law_times" ["_law_p","_law_one_here","_law_other"] [] spTimesB)(c_ByP:Cal P w K mg base CX0 2 "_law_by_powers" ["_law_p","_law_numbers"] [] spByP):FnOk P w K mg base CX0 4 f fd ["_law_p","_law_number","_law_spot"] spDvr:=by
 refine F.okN (k:=3) scDvr (λvs H Q E h => ?_) (λcdv A outer s H vs Q E hr h => ?_)
 ·obtain⟨F,fF,n,cF,v1,v2,a,s,rfl,_⟩:=h
  rfl
 obtain⟨F,fF,n,cF,v1,v2,a,s,rfl,h⟩:=h
 refine⟨_,(zaj (zas (pe_c c_ByP hr pass00 .nil ((zaa (pv 0) (zaa (zfa ((zaa (pe_c c_Times hr pass00 .nil ((zaa (pv 0) (zaa (pv 1) (zaa (pe_c c_Times hr pass00 .nil ((zaa (pv 0) (zaa (pe_c c_Norm hr pass00 .nil ((zaa (pv 0) (zaa (zlh zha zak) (zaa (zak) zah))))) (zaa (pv 2) zah))))) zah))))) (zaa (pv 1) zah)))) zah)))))),?_⟩
 obtain⟨n2,n9,ha,hs,la,ls,k⟩:=h
 refine⟨_,rfl,_,rfl,_,rfl,_,rfl,_,rfl,1,rfl,F,fF,n,cF,-1,1,rfl,n2,λ_=>⟨by decide,(by exact Nat.lt_of_lt_of_le (show 1 < 2 ^ 1 by decide) (Nat.pow_le_pow_right (by decide) (by decide)))⟩,λ_=>rfl,λx w H1 ex e1 hw => ?_⟩
 have x1:x = -1:=by rw[zfj,zkg,zfj]at ex;grind
 have lw:Lim n 1 x := .of (T := -1) (B:=1) (by decide) ex (by decide) (by decide)
 refine⟨_,rfl,F,fF,n,cF,w,v2,x,s,1,6,rfl,n2,n9,hw,hs.same e1,lw,ls,by decide,λw2 H2 e2 hw2 => ?_⟩
 have e12:=e1.trans e2
 refine⟨F,fF,n,cF,v1,w2,a,x * s,6,7,rfl,n2,n9,ha.same e12,hw2,la,(lw.mul ls).up (by decide),by decide,λw3 H3 e3 hw3 => ?_⟩
 refine⟨_,rfl,(by show 2<=sizeLine;decide),λp hp => ?_⟩
 have e4:Same H3 (upd H3 p (.lst [w3,v1])):=Same.upd hp
 have hp4:(upd H3 p (HO.lst [w3,v1])) p=some (.lst [w3,v1]):=zaf
 generalize upd H3 p (HO.lst [w3,v1])=H4 at e4 hp4
 have g4:=(e12.trans e3).trans e4
 refine⟨F,fF,n,cF,p,[w3,v1],[a * (x * s),a],rfl,n2,⟨hp4,rfl,λi v hv => ?_⟩,(by show 2<=30;decide),λd H' kvs nd e5 hd pf hds=>k d H' kvs ?_ (g4.trans e5) hd ?_ hds⟩
 ·match i with
  | 0=>cases hv;exact hw3.same e4
  | 1=>cases hv;exact ha.same g4
  | i + 2=>simp at hv
 ·exact g4.free nd
 ·rw[x1,show a * (-1 * s) = -(a * s) by grind]at pf
  exact pf
theorem scLaw:FnScope ["_law_script","_law_p","_law_weights","_law_ring","_law_spot","_law_number","_law_at","_law_row","_law_numbers","_law_f","_law_due","_law_held","_law_k","_law_handed","_law_handed_row","_law_found","_law_total","_law_again"] ["_law_script"] (defScope zhv):=⟨rfl,rfl,rfl,by decide +kernel,rfl,by decide +kernel,by decide +kernel⟩
set_option maxHeartbeats 4000000 in
theorem zvc(F:FunD K "law" "law" zhv .none f fd)(T:Txt K mg zap zab zai zal zae zam zac zad zan)(c_Cell:Cal P w K mg base CX0 1 "_law_cell_at" ["_law_script","_law_k"] [] (spCell K))(c_LRs:Cal P w K mg base CX0 2 "_law_rests" ["_law_cell"] [] spLRs)(c_LFld:Cal P w K mg base CX0 4 "_law_field" ["_law_p"] [] (spLFld zab zai))(c_LOrd:Cal P w K mg base CX0 3 "_law_order" ["_law_kind","_law_weights"] [] (spLOrdB zal zae zam zac))(k_RgInit:Mak P w K mg base (CXe P w) 2 "Ring" zap ["self","many","field","order"] [] (spRgInit zap zdi zal zae zam zac))(c_Drw:Cal P w K mg base CX0 4 "_law_drawn" ["_law_p","_law_cell"] [] spDrw)(c_SomeB:Cal P w K mg base CX0 3 "_law_some" ["_law_p","_law_cell"] [] spSomeB)(c_Dvr:Cal P w K mg base CX0 4 "_law_divisor" ["_law_p","_law_number","_law_spot"] [] spDvr)(c_OneB:Cal P w K mg base CX0 1 "_law_one" ["_law_p"] [] (spNouB 1))(c_ByP:Cal P w K mg base CX0 2 "_law_by_powers" ["_law_p","_law_numbers"] [] spByP)(c_NouB:Cal P w K mg base CX0 1 "_law_nought" ["_law_p"] [] (spNouB 0))(c_Times:Cal P w K mg base CX0 3 "_law_times" ["_law_p","_law_one_here","_law_other"] [] spTimesB)(c_Plus:Cal P w K mg base CX0 3 "_law_plus" ["_law_p","_law_one_here","_law_other"] [] spPlusB)(c_Cop:Cal P w K mg base CX0 1 "_law_copies" ["_law_row"] [] spCop)(c_Div:Cal P w K mg base CX0 14 "divided" ["ring","f","row"] [] (spDiv zap zab zai zal zae zam zac))(c_ArP:Cal P w K mg base CX0 4 "_law_are_polys" ["_law_p","_law_many","_law_count","_law_found"] [] spArP)(c_IsP:Cal P w K mg base CX0 3 "_law_is_poly" ["_law_p","_law_many","_law_found"] [] spIsP)(c_BD:Cal P w K mg base CX0 15 "brought_down" ["ring","f","row"] [] (spBD zap zab zai zal zae zam zac))(c_AddB:Cal P w K mg base CX0 4 "_law_add" ["_law_p","_law_total","_law_number","_law_term","_law_f"] [] spAddB)(hfld:∀n:Int,n<=9973->(n=0\/Pr n)->∃C,FldP P w K mg base C (AtN zab zai n) n){za0:Addr}(hord:∀(kd:Int) (ws:List Int),0<=kd->kd < 4->Nn ws->(∀x∈ws,x < 10 ^ 31)->∃C,OrdP P w K mg base za0 C (AtK zal zae zam zac kd ws) (rkk kd ws) (fbK kd ws)):FnOk P w K mg base CX0 17 f fd ["_law_script"] (spLaw K):=by
 refine F.okN (k:=16) scLaw (λvs H Q E h => ?_) (λcdv A outer s H vs Q E hr h => ?_)
 ·obtain⟨a,ns,rfl,_⟩:=h
  rfl
 obtain⟨a,ns,rfl,h⟩:=h
 refine⟨_,(zag (zau (i:=1) scLaw.nd rfl (Or.inr rfl) (pe_c c_LRs hr pass00 .nil ((zaa (pe_c c_Cell hr pass00 .nil ((zaa (pv 0) (zaa (zak) zah)))) zah))))
  (zag (zau (i:=2) scLaw.nd rfl (Or.inl rfl) (zfa ((zaa (zaw zcu (zaw zee (pe_c c_Cell hr pass00 .nil ((zaa (pv 0) (zaa (zak) zah)))) (zak)) (zaw zvh (zak) (zak))) zah))))
  (zag (zau (i:=3) scLaw.nd rfl (Or.inl rfl) (zmf k_RgInit hr passF .nil ((zaa (zak) (zaa (pe_c c_LFld hr pass00 .nil ((zaa (pv 1) zah))) (zaa (pe_c c_LOrd hr pass00 .nil ((zaa (zaw zcu (pe_c c_Cell hr pass00 .nil ((zaa (pv 0) (zaa (zak) zah)))) (zak)) (zaa (pv 2) zah)))) zah))))))
  (zag (zau (i:=4) scLaw.nd rfl (Or.inl rfl) (pe_c c_Drw hr pass00 .nil ((zaa (pv 1) (zaa (pe_c c_Cell hr pass00 .nil ((zaa (pv 0) (zaa (zak) zah)))) zah)))))
  (zag (zau (i:=5) scLaw.nd rfl (Or.inl rfl) (pe_c c_SomeB hr pass00 .nil ((zaa (pv 1) (zaa (pe_c c_Cell hr pass00 .nil ((zaa (pv 0) (zaa (zak) zah)))) zah)))))
  (zag (zau (i:=6) scLaw.nd rfl (Or.inr rfl) (zaw zcu (pe_c c_Cell hr pass00 .nil ((zaa (pv 0) (zaa (zak) zah)))) (zak)))
  (zag (zau (i:=7) scLaw.nd rfl (Or.inl rfl) (zaw zqw (zc8 (N:=["_law_k"]) (Blk.plain (by decide +kernel) (by decide +kernel) rfl (by decide +kernel) zjk) rfl (zev rfl T.b_range ((zaa (pv 6) zah))) (λC0 s0 H0 fp0=>zeu (i:=0) zjk rfl rfl) (λC0 s0 H0 fp0=>zdn) (λC0 s0 H0 fp0=>zc5)) (zfa ((zaa (pe_c c_Dvr hr pass00 .nil ((zaa (pv 1) (zaa (pv 5) (zaa (pv 4) zah))))) zah)))))
  (zag (zbc (zat zed (zaw zcu (zaw zee (pe_c c_Cell hr pass00 .nil ((zaa (pv 0) (zaa (zak) zah)))) (zak)) (zak)) (zak) (nomark _)) (zaj (zdo (ztn PySem.F.plainAttrs_list PySem.F.slot_list_append PySem.F.type_list_append zir (pv 7) ((zaa (pe_c c_Dvr hr pass00 .nil ((zaa (pv 1) (zaa (pe_c c_OneB hr pass00 .nil ((zaa (pv 1) zah))) (zaa (pe_c c_Drw hr pass00 .nil ((zaa (pv 1) (zaa (zaw zee (pe_c c_Cell hr pass00 .nil ((zaa (pv 0) (zaa (zak) zah)))) (zak)) zah)))) zah))))) zah))))) zav)
  (zag (znq (N:=["_law_cell","_law_p"]) (cl:=[("_law_p",s.heap.objs.size + 1)]) (mp:=[none,some 1]) (zb2 (i:=8) scLaw.nd rfl (Or.inl rfl)) (Blk.of rfl (by decide +kernel) rfl (by decide +kernel) zdv (zc7 rfl zez) (zlg (fs:=["_law_p"]) rfl (by decide +kernel)) rfl (zdy (zc3 rfl (.inl rfl) rfl zew))) rfl (ze0 (K:=K) rfl (zgh (zgb (K:=K) rfl) (pv 0) (zgk (zak)) (zgk (zak)))) (λC0 s0 H0 fp0=>zeu (i:=0) zdv rfl rfl) (λC0 s0 H0 fp0=>zdn) (λC0 s0 H0 fp0=>pe_c c_Drw hr pass00 .nil ((zaa (pv 1) (zaa (pv 0) zah)))))
  (zag (zau (i:=9) scLaw.nd rfl (Or.inl rfl) (pe_c c_ByP hr pass00 .nil ((zaa (pv 1) (zaa (pv 8) zah)))))
  (zag (zau (i:=10) scLaw.nd rfl (Or.inl rfl) (zfa (zah)))
  (zag (zau (i:=11) scLaw.nd rfl (Or.inl rfl) (pe_c c_NouB hr pass00 .nil ((zaa (pv 1) zah))))
  (zag (zf4 PassesOwn.never rfl (zev rfl T.b_range ((zaa (zay (zbq (K:=K) rfl) rfl T.b_len PySem.boot_len ((zaa (pv 8) zah))) zah))) (zb2 (i:=12) scLaw.nd rfl (Or.inl rfl)) (zag (zau (i:=11) scLaw.nd rfl (Or.inl rfl) (pe_c c_Plus hr pass00 .nil ((zaa (pv 1) (zaa (pe_c c_Times hr pass00 .nil ((zaa (pv 1) (zaa (pv 11) (zaa (pv 4) zah))))) (zaa (zaz (r:=rIxL K) zd4 (pv 8) (zaw ziy (zaw ziy (zay (zbq (K:=K) rfl) rfl T.b_len PySem.boot_len ((zaa (pv 8) zah))) (zak)) (pv 12)) (λ_ _=>rfl)) zah))))))
  (zaj (zau (i:=10) scLaw.nd rfl (Or.inl rfl) (zaw zqw (zfa ((zaa (pv 11) zah))) (pv 10))))))
  (zag (zau (i:=13) scLaw.nd rfl (Or.inl rfl) (zbt zfy rfl T.b_dict (by kernel_rfl) ((zaa (pv 9) zah))))
  (zag (zau (i:=14) scLaw.nd rfl (Or.inl rfl) (pe_c c_Cop hr pass00 .nil ((zaa (pv 7) zah))))
  (zag (zau (i:=15) scLaw.nd rfl (Or.inr rfl) (pe_c c_Div hr pass00 .nil ((zaa (pv 3) (zaa (pv 13) (zaa (pv 14) zah))))))
  (zag (zbc (PW.pt (zfe (zd0 (zdj (zay (zci (K:=K) rfl) rfl T.b_isinstance (by kernel_rfl) ((zaa (pv 15) (zaa (zff (v := .ty "tuple") rfl T.b_tuple (by kernel_rfl) rfl) zah)))))) (zfe (zat zid (zay (zbq (K:=K) rfl) rfl T.b_len PySem.boot_len ((zaa (pv 15) zah))) (zak) (nomark _)) (zfq (zd0 (zdj (pe_c c_ArP hr pass00 .nil ((zaa (pv 1) (zaa (zak) (zaa (zay (zbq (K:=K) rfl) rfl T.b_len PySem.boot_len ((zaa (pv 7) zah))) (zaa (zaz (r:=rIxT K) zax (pv 15) (zak) (λ_ _=>rfl)) zah)))))))))))) (zaj (zas (ze5))) zav)
  (zag (zbc (PW.pt (zfe (zd0 (zdj (pe_c c_IsP hr pass00 .nil ((zaa (pv 1) (zaa (zak) (zaa (zaz (r:=rIxT K) zax (pv 15) (zak) (λ_ _=>rfl)) zah))))))) (zfq (zat (ze2 (K:=K) rfl hr.units) (zaz (r:=rIxT K) zax (pv 15) (zak) (λ_ _=>rfl)) (pe_c c_ByP hr pass00 .nil ((zaa (pv 1) (zaa (zgh (zgb (K:=K) rfl) (pv 10) zj2 (zgk (zak))) zah)))) (nomark _))))) (zaj (zas (ze5))) zav)
  (zag (zbc (PW.pt (zfe (zat (ze2 (K:=K) rfl hr.units) (pe_c c_BD hr pass00 .nil ((zaa (pv 3) (zaa (pv 13) (zaa (pv 14) zah))))) (zaz (r:=rIxT K) zax (pv 15) (zak) (λ_ _=>rfl)) (nomark _)) (zfe (zat (ze2 (K:=K) rfl hr.units) (pv 13) (pv 9) (nomark _)) (zfq (zat (zss (K:=K) rfl (u70 hr)) (pv 14) (pv 7) (nomark _)))))) (zaj (zas (ze5))) zav)
  (zag (zbc (zat (zkq hr.units) (zc8 (N:=["_law_k","_law_at","_law_found"]) (cl:=[("_law_found",s.heap.objs.size + 3),("_law_at",s.heap.objs.size + 2)]) (mp:=[none,some 6,some 15]) (Blk.of rfl (by decide +kernel) rfl (by decide +kernel) zcg (zc7 rfl (zc7 rfl zez)) (zlg (fs:=["_law_found","_law_at"]) rfl (by decide +kernel)) rfl (zdy (zc3 rfl (.inl rfl) rfl (zc3 rfl (.inl rfl) rfl zew)))) rfl (zev rfl T.b_range ((zaa (zay (zbq (K:=K) rfl) rfl T.b_len PySem.boot_len ((zaa (pv 7) zah))) zah))) (λC0 s0 H0 fp0=>zeu (i:=0) zcg rfl rfl) (λC0 s0 H0 fp0=>zhy (PW.pt (zk7 (zat zid (pv 0) (pv 1) (nomark _)) (zia (zat (ze2 (K:=K) rfl hr.units) (zaz (r:=rIxL K) zd4 (zaz (r:=rIxT K) zax (pv 2) (zak) (λ_ _=>rfl)) (pv 0) (λ_ _=>rfl)) (zc5) (nomark _)))))) (λC0 s0 H0 fp0=>pv 0)) (zfa (zah)) (nomark _)) (zaj (zas (ze5))) zav)
  (zag (zau (i:=16) scLaw.nd rfl (Or.inl rfl) (zc5))
  (zag (zdo (pe_c c_AddB hr pass00 .nil ((zaa (pv 1) (zaa (pv 16) (zaa (pv 5) (zaa (zc6 ((zaa (zak) zah))) (zaa (zaz (r:=rIxL K) zd4 (zaz (r:=rIxT K) zax (pv 15) (zak) (λ_ _=>rfl)) (pv 6) (λ_ _=>rfl)) zah))))))))
  (zag (zbc (zat (ze2 (K:=K) rfl hr.units) (pv 16) (pe_c c_ByP hr pass00 .nil ((zaa (pv 1) (zaa (zgh (zgb (K:=K) rfl) (pv 10) (zgk (zak)) zj2) zah)))) (nomark _)) (zaj (zas (ze5))) zav)
  (zag (zdo (ziq (zaz (r:=rIxL K) zd4 (zaz (r:=rIxT K) zax (pv 15) (zak) (λ_ _=>rfl)) (pv 6) (λ_ _=>rfl))))
  (zag (zdo (ziq (zaz (r:=rIxT K) zax (pv 15) (zak) (λ_ _=>rfl))))
  (zag (zau (i:=17) scLaw.nd rfl (Or.inl rfl) (pe_c c_BD hr pass00 .nil ((zaa (pv 3) (zaa (pv 13) (zaa (pv 14) zah))))))
  (zaj (zas (zhe (zd3 (zj6 hr.units) (pv 17) (pe_c c_ByP hr pass00 .nil ((zaa (pv 1) (zaa (zgh (zgb (K:=K) rfl) (pv 10) zj2 (zgk (zak))) zah)))) (nomark _)) (zhe (zd3 (zj6 hr.units) (pv 13) (pv 9) (nomark _)) (zki (zd3 (ztc (K:=K) rfl (u70 hr)) (pv 14) (pv 7) (nomark _))))))))))))))))))))))))))))))))),?_⟩
 obtain⟨hS,h63,k⟩:=h
 refine⟨_,rfl,a,ns,0,rfl,hS,by decide,_,rfl,λn H1 e1 n2 n9 => ?_⟩
 dsimp only[gName]
 refine⟨_,rfl,a,ns,1,rfl,e1.seq hS,by decide,_,_,rfl,rfl,⟨by decide,by decide⟩,_,_,rfl,rfl,⟨by decide,by decide,by decide⟩,?_⟩
 have hT:(0:Int) < 10 ^ Int.toNat 30/\(10:Int) ^ Int.toNat 30 < 10 ^ 31:=by decide
 dsimp only
 generalize (10:Int) ^ Int.toNat 30=T10 at hT ⊢
 refine⟨_,_,rfl,rfl,hT.1,(by show 1<=sizeLine;decide),λl hl => ?_⟩
 have w0:0<=cellOf ns 1 / 4 % T10:=Int.emod_nonneg _ (by omega)
 have w1:cellOf ns 1 / 4 % T10 < 10 ^ 31:=Int.lt_trans (Int.emod_lt_of_pos _ hT.1) hT.2
 dsimp only[gName]
 generalize cellOf ns 1 / 4 % T10=wt at w0 w1 ⊢
 have e2:Same H1 (upd H1 l (.lst [V.int wt])):=Same.upd hl
 have hl2:(upd H1 l (HO.lst [V.int wt])) l=some (.lst ([wt].map V.int)):=zaf
 generalize upd H1 l (HO.lst [V.int wt])=H2 at e2 hl2 ⊢
 have g2:=e1.trans e2
 have wn:Nn [wt]:=λx hx=>by rw[List.mem_singleton.mp hx];exact w0
 have wb:∀x∈[wt],x < 10 ^ 31:=λx hx=>by rw[List.mem_singleton.mp hx];exact w1
 refine⟨_,rfl,n,rfl,n2,n9,λpf H3 e3 hpf => ?_⟩
 have kd0:0<=cellOf ns 1 % 4:=by omega
 have kd4:cellOf ns 1 % 4 < 4:=by omega
 refine⟨_,rfl,a,ns,1,rfl,(g2.trans e3).seq hS,by decide,_,_,rfl,rfl,(by show (0:Int) < 4;decide),?_⟩
 dsimp only
 generalize cellOf ns 1 % 4=kd at kd0 kd4 ⊢
 refine⟨_,rfl,l,kd,[wt],rfl,kd0,kd4,e3 _ _ hl2,(by show 1<=100;decide),wn,λpo H4 e4 hat x dx nx ndx ne => ?_⟩
 have e5:Same H4 (upd (upd H4 dx (.own x)) x (.ins zap dx [])):=λb o hb=>by
  rw[zao (zaq hb nx),zao (zaq hb ndx)];exact hb
 obtain⟨CO,O⟩:=hord kd [wt] kd0 kd4 wn wb
 refine⟨x,dx,1,pf,po,kd,[wt],rfl,zaf,kd0,kd4,wn,wb,O.oC.same e5 hat,.inl ⟨⟨by decide,by decide,?_⟩,λH5 h1 h2=>⟨rfl,?_⟩⟩⟩
 ·unfold fbK
  split
  ·exact decide_eq_true rfl
  ·rfl
 have e6:Same H4 H5:=λb o hb=>h2 b o (e5 _ _ hb) (zaq hb nx)
 have f5:=g2.trans ((e3.trans e4).trans e6)
 have hR:RgP zap zab zai zal zae zam zac H5 x ⟨1,pf,po,n,kd,[wt]⟩:=⟨n9,n2,Nat.le_refl 1,(by show 1<=4;decide),kd0,kd4,wn,wb,⟨dx,h1⟩,zif (.of (e4.trans e6)) hpf,O.oC.same e6 hat⟩
 clear e5 h1 h2 e6 hat O hpf e3 e4 nx ndx ne
 obtain⟨F,fF,cF⟩:=zvo n n2
 have hS5:=f5.seq hS
 clear f5 hS e1 e2 g2 hl2 hl
 dsimp only[gName]
 refine⟨_,rfl,_,rfl,a,ns,2,rfl,hS5,by decide,F,fF,n,cF,_,rfl,n2,λs vs H6 ls e6 hvs => ?_⟩
 dsimp only[gName]
 refine⟨_,rfl,_,rfl,a,ns,3,rfl,e6.seq hS5,by decide,F,fF,n,cF,_,rfl,n2,λaa va H7 az la e7 hva => ?_⟩
 dsimp only[gName]
 have hS7:=(e6.trans e7).seq hS5
 refine⟨_,rfl,a,ns,4,rfl,hS7,by decide,_,_,rfl,rfl,(by show (0:Int) < 3;decide),?_⟩
 obtain⟨p,ep,p3⟩:∃p:Nat,cellOf ns 4 % 3=(p:Int)/\p < 3:=⟨(cellOf ns 4 % 3).toNat,by omega,by omega⟩
 dsimp only[gName]
 rw[ep]
 have hvs7:=hvs.same e7
 have hR7:=hR.same (e6.trans e7)
 clear hvs hR hS5 e6 e7
 refine zmz (zex 0 p) (by omega) (λR hR=>⟨_,rfl,_,rfl,by omega,(by omega),by rw[Int.toNat_natCast];exact hR⟩) ⟨_,rfl⟩ λD H8 ds hD e8 hL ld nd hd => ?_
 refine⟨_,rfl,_,rfl,_,rfl,F,fF,n,cF,va,vs,aa,s,rfl,n2,n9,hva.same e8,hvs7.same e8,la,ls,λd H9 kv1 nd9 e9 hd9 pf9 hds9 => ?_⟩
 refine⟨(by show 1<=sizeLine;decide),λq hq => ?_⟩
 have eA:Same H9 (upd H9 q (.lst [V.ref d])):=Same.upd hq
 have hqA:(upd H9 q (HO.lst [V.ref d])) q=some (.lst [V.ref d]):=zaf
 generalize upd H9 q (HO.lst [V.ref d])=HA at eA hqA ⊢
 have gA:=e9.trans eA
 refine⟨D,q,_,_,rfl,rfl,gA _ _ hL,hqA,(by rw[List.length_map,ld];exact Nat.le_trans (show p + 1<=4 by omega) (by decide)),λb hb => ?_⟩
 have eB:Same HA (upd HA b (.lst (ds.map V.ref ++ [V.ref d]))):=Same.upd hb
 have hbB:(upd HA b (HO.lst (ds.map V.ref ++ [V.ref d]))) b=some (.lst ((ds ++ [d]).map V.ref)):=by rw[List.map_append];exact zaf
 dsimp only[gName]
 have b7:H7 b=none:=(e8.trans gA).free hb
 generalize upd HA b (HO.lst (ds.map V.ref ++ [V.ref d]))=HB at eB hbB ⊢
 have gB:=gA.trans eB
 have sB:Same H7 HB:=e8.trans gB
 have rc0:=RC.none (F:=F) (n:=n) (H:=HB) (ds:=ds) λd' hd'=>gB _ _ (hd d' hd').2.1
 have rc1:=rc0.push ((eA.trans eB) _ _ hd9) (pf9.same (eA.trans eB)) hds9
 rw[ld]at rc1
 have lin1:=Lin1.first (p:=p) (c := -(aa * s)) az
 have cm1:∀i:Nat,Cm n 27 (if i=p then byP [-(aa * s),aa] else λ_=>0):=zvl (p:=p) (zrh la ls) (λ_=>Cm.zero (by decide))
 have ln1:(ds ++ [d]).length=p + 1:=by rw[List.length_append,ld];rfl
 refine zgn (λσ H'=>∃(ds:List Addr) (kvss:List (List (List Key×V))) (gs:Nat->Po F),σ = [some (.ref a),some (.int n),some (.ref l),some (.ref x),some vs,some va,some (.int p),some (.ref b),none,none,none,none,none,none,none,none,none,none]/\Same H7 H'/\H' b=some (.lst (ds.map V.ref))/\RC n H' ds kvss gs/\Lin1 gs p (-(aa * s)) aa/\(∀i,Cm n 27 (gs i))/\p < ds.length/\ds.length<=4) ?_ λN hN => ?_
 rotate_left
 ·refine⟨_,rfl,a,ns,4,rfl,sB.seq hS7,by decide,_,_,rfl,rfl,⟨by decide,by decide⟩,_,_,rfl,rfl,(by show (0:Int) < 2;decide),rfl,_,rfl,?_⟩
  refine cEq (λc1 => ?_) (λc1 => ?_)
  ·refine⟨_,rfl,.inl ⟨rfl,_,SqL.of hbB⟩,_,rfl,_,rfl,F,fF,n,cF,rfl,n2,λv1 HC eC hv1 => ?_⟩
   refine⟨_,rfl,_,rfl,a,ns,4,rfl,(sB.trans eC).seq hS7,by decide,_,_,rfl,rfl,⟨by decide,by decide⟩,F,fF,n,cF,_,rfl,n2,λs2 v2 HD2 ls2 eD hv2 => ?_⟩
   rw[zfj]at hv1
   have l1:Lim n 6 (1:F) := .of (T:=1) (B:=1) (by decide) (by rw[zfj];grind) (by decide) (by decide)
   refine⟨F,fF,n,cF,v1,v2,1,s2,rfl,n2,n9,hv1.same eD,hv2,l1,ls2,λd2 HE kv2 nd2 eE hd2 pf2 hds2 => ?_⟩
   have gE:=(eC.trans eD).trans eE
   have hbE:=gE _ _ hbB
   have rc2:=(rc1.same gE).push hd2 pf2 hds2
   rw[ln1]at rc2
   refine⟨b,_,_,rfl,rfl,hbE,(by rw[List.length_map,ln1];exact Nat.lt_of_le_of_lt (show p + 1<=4 by omega) (by decide)),?_⟩
   refine hN _ _ ⟨ds ++ [d] ++ [d2],_,_,rfl,λb' o hb'=>(zao (zaq hb' b7)).trans ((sB.trans gE) _ _ hb'),(by have:=List.map_append (f:=V.ref) (l₁:=ds ++ [d]) (l₂:=[d2]);rw[this];exact zaf),rc2.keep (zfu hbE) λd' hd' o ho => ?_,Lin1.more lin1 (k:=p + 1) (by omega) (λz=>Lean.Grind.Field.zero_ne_one z.symm),zvl (zrh l1 ls2) cm1,(by rw[List.length_append,ln1];omega),(by rw[List.length_append,ln1];show p + 1 + 1<=4;omega)⟩
   obtain⟨kv,hk⟩:=rc2.mem hd'
   exact(zao (zdk hk hbE (by intro z;cases z))).trans ho
  ·exact hN _ _ ⟨_,_,_,rfl,sB,hbB,rc1,lin1,cm1,by omega,by omega⟩
 clear rc1 rc0 lin1 cm1 ln1 hbB gB sB eB gA eA hqA hq hds9 pf9 hd9 e9 nd9 hd nd ld hL e8 hD hb
 rintro σ0 H8 ⟨ds,kvss,gs,rfl,e8,hb8,rc8,lin,cm,pl,l4⟩
 have hS8:=e8.seq hS7
 obtain⟨cs,ec,lc⟩:=zvd ns
 refine zkz ⟨_,rfl,4,rfl,34,rfl,a,_,rfl,hS8,λq hq => ?_⟩
 rw[ec]
 have eq9:Same H8 (upd H8 q (.lst (cs.map V.int))):=Same.upd hq
 have hq9:(upd H8 q (HO.lst (cs.map V.int))) q=some (.lst (cs.map V.int)):=zaf
 generalize upd H8 q (HO.lst (cs.map V.int))=H9 at eq9 hq9 ⊢
 refine⟨q,rfl,⟨_,SqL.of hq9⟩,λD hD => ?_⟩
 refine zm0 (zet (SqL.of hq9)) hD (zl _ (by rw[List.length_map];omega)) (λσ=>∃v,σ = [v,some (.int n)]) (λ_=>true) (λi v H'=>∃x:F,Rep n H' v x/\Lim n 6 x) (λi v H1 H2 e ⟨y,a1,a2⟩=>⟨y,a1.same e,a2⟩) (λi v H1 ys ys' hy ⟨y,a1,a2⟩=>⟨y,a1.fix (zfu hy),a2⟩) ⟨none,rfl⟩ ?_ λHA ys eA hL hp => ?_
 ·rintro i v σ' HC hi ⟨z,rfl⟩ eC hv _ Ny Nn hy hn
  rw[List.getElem?_map]at hv
  cases hc:cs[i]? with
  | none=>rw[hc]at hv;cases hv
  | some c=>
   rw[hc]at hv
   injection hv with hv
   subst hv
   unfold tYes
   dsimp only[gName]
   rw[if_pos rfl]
   exact⟨_,rfl,_,rfl,F,fF,n,cF,c,rfl,n2,λy v H' ly e hy'=>hy _ _ _ ⟨_,rfl⟩ e ⟨y,hy',ly⟩ rfl⟩
 rw[List.filter_eq_self.mpr (λ_ _=>rfl)]at hp
 obtain⟨xs,lx,rx,mx⟩:=zrz hp
 have ly:=Paired.length hp
 rw[List.length_range,List.length_map]at ly
 have l30:xs.length<=30:=by omega
 have nl:NL n HA D ys xs:=⟨hL,lx,rx⟩
 dsimp only[gName]
 refine⟨_,rfl,_,rfl,F,fF,n,cF,D,ys,xs,rfl,n2,nl,l30,λf HB fvs nf eB hf pff hds => ?_⟩
 dsimp only[gName]
 refine⟨(by show 0<=sizeLine;decide),λu hu => ?_⟩
 have eC:Same HB (upd HB u (.lst [])):=Same.upd hu
 have huC:(upd HB u (HO.lst [])) u=some (.lst []):=zaf
 dsimp only[gName]
 generalize upd HB u (HO.lst [])=HC at eC huC ⊢
 refine⟨_,rfl,F,fF,n,cF,rfl,n2,λv0 HD eD hv0 => ?_⟩
 rw[zb1]at hv0
 dsimp only[gName]
 have s0:Same H8 HD:=(((eq9.trans eA).trans eB).trans eC).trans eD
 have nlD:NL n HD D ys xs:=nl.same ((eB.trans eC).trans eD)
 have duD:NL (F:=F) n HD u [] []:=⟨eD _ _ huC,rfl,(λi v hv=>by simp at hv)⟩
 have hvsD:=hvs7.same (e8.trans s0)
 refine⟨_,rfl,D,_,rfl,.inl (SqL.of nlD.at_),_,rfl,by omega,by rw[lx];omega,?_⟩
 rw[lx,Int.toNat_natCast]
 refine zjg (λi σ H'=>i<=xs.length/\∃(v12:Option V) (vh:V) (u:Addr) (ys':List V),σ = [some (.ref a),some (.int n),some (.ref l),some (.ref x),some vs,some va,some (.int p),some (.ref b),some (.ref D),some (.ref f),some (.ref u),some vh,v12,none,none,none,none,none]/\Same HD H'/\NL n H' u ys' (hor s (xs.drop (xs.length - i)))/\Rep n H' vh ((hor s (xs.drop (xs.length - i))).headD 0)) ?_ ?_ ?_
 ·refine⟨Nat.zero_le _,none,v0,u,[],rfl,Same.refl _,?_,?_⟩
  ·rw[Nat.sub_zero,List.drop_length];exact duD
  ·rw[Nat.sub_zero,List.drop_length];exact hv0
 ·rintro i σ H2 hi ⟨_,v12,vh,u2,ys2,rfl,e2,nl2,hvh⟩
  have hs2:=zp2 s hi
  have lh:Lim n 391 ((hor s (xs.drop (xs.length - i))).headD 0):=(zun ls λy hy=>mx y (List.mem_of_mem_drop hy)).up (by rw[List.length_drop];omega)
  have jl:xs.length - 1 - i < ys.length:=by omega
  have hy:ys[xs.length - 1 - i]? = some (ys[xs.length - 1 - i]'jl):=List.getElem?_eq_getElem _
  generalize ys[xs.length - 1 - i]'jl=vy at hy
  have hvy:=nlD.rep _ vy hy
  have lvy:Lim n 6 (xs.getD (xs.length - 1 - i) 0):=by
   rw[show xs.getD (xs.length - 1 - i) 0=xs[xs.length - 1 - i]'(by omega) by simp[List.getD,show xs.length - 1 - i < xs.length by omega]]
   exact mx _ (List.getElem_mem _)
  have l2:ys2.length=i:=by rw[nl2.len,zhu,List.length_drop];omega
  rw[Int.zero_add]
  dsimp only[gName]
  refine⟨_,rfl,_,rfl,_,rfl,_,rfl,F,fF,n,cF,vh,vs,_,s,391,6,rfl,n2,n9,hvh,hvsD.same e2,lh,ls,by decide,λw H3 e3 hw => ?_⟩
  have g3:=e2.trans e3
  refine⟨_,rfl,_,rfl,D,_,rfl,.inl (SqL.of (g3 _ _ nlD.at_)),_,_,rfl,rfl,_,rfl,_,_,rfl,rfl,D,_,_,vy,rfl,rfl,SqL.of (g3 _ _ nlD.at_),?_,F,fF,n,cF,w,vy,_,_,397,6,rfl,n2,n9,hw,hvy.same g3,lh.mul ls,lvy,by decide,λw2 H4 e4 hw2 => ?_⟩
  ·show atI ys ((ys.length:Int) - 1 - i)=some vy
   rw[show ((ys.length:Int) - 1 - i)=((xs.length - 1 - i:Nat):Int) by omega]
   exact zdz hy
  dsimp only[gName]
  refine⟨_,rfl,(by show 1<=sizeLine;decide),λq1 hq1 => ?_⟩
  have e5:Same H4 (upd H4 q1 (.lst [w2])):=Same.upd hq1
  have hq5:(upd H4 q1 (HO.lst [w2])) q1=some (.lst [w2]):=zaf
  generalize upd H4 q1 (HO.lst [w2])=H5 at e5 hq5 ⊢
  have g5:=(e3.trans e4).trans e5
  refine⟨_,rfl,q1,u2,_,_,rfl,rfl,hq5,g5 _ _ nl2.at_,(by rw[l2];exact Nat.le_trans (show 1 + i<=31 by omega) (by decide)),λu3 hu3 => ?_⟩
  have e6:Same H5 (upd H5 u3 (.lst ([w2] ++ ys2))):=Same.upd hu3
  refine⟨hi,_,w2,u3,w2 :: ys2,rfl,(e2.trans g5).trans e6,?_,?_⟩
  ·rw[hs2]
   exact NL.cons (nl2.same (g5.trans e6)) (hw2.same (e5.trans e6)) zaf
  ·rw[hs2]
   exact hw2.same (e5.trans e6)
 ·rintro σ H2 ⟨_,v12,vh,u2,ys2,rfl,e2,due,_⟩
  rw[Nat.sub_self,List.drop_zero]at due
  have s2:Same H8 H2:=s0.trans e2
  have t2:Same H7 H2:=e8.trans s2
  have hR2:=hR7.same t2
  have rc2:=rc8.same s2
  have hb2:=s2 _ _ hb8
  have hf2:=((eC.trans eD).trans e2) _ _ hf
  have pf2:=pff.same ((eC.trans eD).trans e2)
  have hva2:=hva.same t2
  clear hvsD duD nlD s0 hv0 eD huC eC hu hf pff eB nf nl ly rx lx hp hL eA hD hq9 eq9 hq lc ec hS8 rc8 hb8 e8 b7 hvs7 hR7 hva hS7 e2 s2 t2
  refine⟨_,rfl,f,fvs,rfl,hf2,hds,λfh nfh => ?_⟩
  have e3:Same H2 (upd H2 fh (.dT fvs)):=Same.upd nfh
  have hfh:(upd H2 fh (HO.dT fvs)) fh=some (.dT fvs):=zaf
  dsimp only[gName]
  generalize upd H2 fh (HO.dT fvs)=H3 at e3 hfh ⊢
  refine⟨_,rfl,b,ds,kvss,rfl,e3 _ _ hb2,rc2.len,by omega,λi d kvs h1 h2=>⟨((rc2.same e3).row i d kvs h1 h2).1,(rc2.row i d kvs h1 h2).2.2⟩,λDr dh H4 nDr e4 hDr ldh hdh => ?_⟩
  have g4:=e3.trans e4
  have rc4:=rc2.same g4
  have rch:RC n H4 dh kvss gs:=rc4.copy ldh hdh
  have hR4:=hR2.same g4
  have O1:OrdM (rkk kd [wt]) 1:=hR4.om
  have dvh:=dvh16 O1 lin cm mx l30
  have pfh:=pf2.same g4
  have hfh4:=e4 _ _ hfh
  have due4:=due.same g4
  have hb4:=g4 _ _ hb2
  have hf4:=g4 _ _ hf2
  have hva4:=hva2.same g4
  clear hfh e3 e4 hdh nDr nfh due hb2 hf2 pf2 rc2 hR2 hva2 g4
  dsimp only[gName]
  refine⟨_,rfl,_,rfl,_,rfl,F,fF,x,fh,Dr,⟨1,pf,po,n,kd,[wt]⟩,cF,dh,kvss,gs,fvs,byP xs,rng1 30,_,rfl,hR4,rch.toRow hDr (by omega),Lin1.tmb lin,hfh4,pfh,hds,dvh,λH5 pp ql rd qds qq S ρ R lds rvs e5 hpp qts lq hrd pr lo dv m1 m2 m3 => ?_⟩
  have pd:p < dh.length:=by omega
  obtain⟨hq,hρ⟩:=uniq16 O1 lin lo pd dv
  replace qts:Qts n 1 H5 ql qds qq:=qts
  replace pr:PF n 1 H5 rvs ρ:=pr
  dsimp only[gName]
  refine⟨_,rfl,_,_,_,_,_,rfl,rfl,.tup hpp,T.ktt,_,rfl,iteF ?_⟩
  refine⟨_,rfl,pp,_,rfl,.inr (SqT.of hpp),rfl,_,rfl,iteNS rfl ?_⟩
  refine⟨_,rfl,_,rfl,b,_,rfl,.inl (SqL.of (e5 _ _ hb4)),_,rfl,pp,_,0,_,rfl,rfl,SqT.of hpp,atI0,F,fF,n,cF,1,ql,qds,qq,?_,n2,by decide,by omega,qts,λH6 e6=>⟨_,rfl,iteF ?_⟩⟩
  ·rw[List.length_map,lq,ldh];rfl
  refine⟨_,rfl,_,rfl,pp,_,1,_,rfl,rfl,SqT.of (e6 _ _ hpp),atI1,F,fF,n,cF,1,rd,rvs,ρ,rfl,n2,by decide,e6 _ _ hrd,pr.same e6,λJ7 f7=>⟨_,rfl,iteF ?_⟩⟩
  have g7:=e6.trans f7
  have due7:=due4.same (e5.trans g7)
  refine⟨_,rfl,pp,_,1,_,rfl,rfl,SqT.of (g7 _ _ hpp),atI1,_,rfl,_,rfl,1,rfl,u2,_,rfl,SqL.of due7.at_,λq5 hq5 => ?_⟩
  rw[zt2]
  have f8:Same J7 (upd J7 q5 (.lst (ys2.take 1))):=Same.upd hq5
  have hq8:(upd J7 q5 (HO.lst (ys2.take 1))) q5=some (.lst (ys2.take 1)):=zaf
  generalize upd J7 q5 (HO.lst (ys2.take 1))=J8 at f8 hq8 ⊢
  refine⟨F,fF,n,cF,q5,_,_,rfl,n2,(due7.same f8).take1 hq8,(by rw[List.length_take];omega),λd9 J9 kv9 nd9 f9 hd9 pf9 hds9 => ?_⟩
  have c9:=g7.trans (f8.trans f9)
  refine zfg (c9 _ _ hrd) hd9 (pr.same c9) pf9 true hρ ⟨_,rfl,iteF ?_⟩
  have g9:=e5.trans c9
  refine⟨_,rfl,_,rfl,_,rfl,F,fF,x,fh,Dr,⟨1,pf,po,n,kd,[wt]⟩,cF,dh,kvss,gs,fvs,byP xs,rng1 30,_,rfl,hR4.same g9,(rch.same g9).toRow (g9 _ _ hDr) (by omega),Lin1.tmb lin,g9 _ _ hfh4,pfh.same g9,hds,dvh,λJA rd2 q2 S2 ρ2 R2 lds2 rv2 fA hrd2 pr2 lo2 dv2 _ => ?_⟩
  obtain⟨_,hρ2⟩:=uniq16 O1 lin lo2 pd dv2
  have cA:=c9.trans fA
  have gA:=g9.trans fA
  refine⟨_,rfl,pp,_,1,_,rfl,rfl,SqT.of (cA _ _ hpp),atI1,zfg hrd2 (cA _ _ hrd) pr2 (pr.same cA) true (λt=>(hρ2 t).trans (hρ t).symm) ⟨_,rfl,iteF ?_⟩⟩
  refine⟨_,rfl,_,rfl,zfg (gA _ _ hfh4) (gA _ _ hf4) (pfh.same gA) (pfh.same gA) true (λ_=>rfl) ⟨_,rfl,iteF ?_⟩⟩
  refine⟨_,rfl,_,rfl,zoe (gA _ _ hDr) (gA _ _ hb4) (rch.same gA) (rc4.same gA) true ⟨_,rfl,iteF ?_⟩⟩
  clear hrd2 pr2 lo2 dv2 hρ2 hd9 pf9 hds9 nd9 hq8 f8 hq5 due7
  refine zea (J:=Itr 0 ds.length) (H1:=JA) (zex 0 ds.length) (by omega) ?_ (λσ=>∃v,σ = [v,some (.int p),some (.ref pp)]) (λ_=>false) (λi => .int (0 + (i:Int))) ⟨none,rfl⟩ ?_ λD2 JB fB hL2 => ?_
  ·exact λR hR=>⟨_,rfl,b,_,rfl,.inl (SqL.of (gA _ _ hb4)),_,rfl,by omega,by rw[List.length_map];omega,by rw[List.length_map,Int.toNat_natCast];exact hR⟩
  ·rintro i v σ' JC hi ⟨z,rfl⟩ fC rfl Ny Nn hy hn
   dsimp only[gName]
   have cC:=cA.trans fC
   refine⟨_,rfl,_,rfl,rfl,_,rfl,?_⟩
   rw[Int.zero_add]
   refine cNe (λc => ?_) (λc => ?_)
   ·have li:i < qds.length:=by omega
    have hqi:qds[i]? = some (qds[i]'li):=List.getElem?_eq_getElem _
    generalize qds[i]'li=dq at hqi
    obtain⟨kvq,hdq,pfq⟩:=qts.row i dq hqi
    refine⟨_,rfl,pp,_,0,_,rfl,rfl,SqT.of (cC _ _ hpp),atI0,_,rfl,ql,_,_,_,rfl,rfl,SqL.of (cC _ _ qts.at_),zdz (by rw[List.getElem?_map,hqi];rfl),λe ne => ?_⟩
    have fe:Same JC (upd JC e (.dT [])):=Same.upd ne
    refine zfg ((cC.trans fe) _ _ hdq) zaf (pfq.same (cC.trans fe)) PF.nil true (λt => ?_) ⟨_,rfl,iteF (hn _ _ ⟨_,rfl⟩ fe rfl)⟩
    rw[hq i t,if_neg (by intro z;exact c (by rw[z]))]
   ·exact iteF (hn _ _ ⟨_,rfl⟩ (Same.refl _) rfl)
  rw[List.filter_eq_nil_iff.mpr (λ_ _=>by simp)]at hL2
  refine⟨(by show 0<=sizeLine;decide),λD3 hD3 => ?_⟩
  have fD:Same JB (upd JB D3 (.lst [])):=Same.upd hD3
  refine⟨.list [],.list [],.lst (SqL.of (fD _ _ hL2)) .nil,.lst (SqL.of zaf) .nil,rfl,rfl,_,rfl,iteF ?_⟩
  generalize upd JB D3 (HO.lst [])=JD at fD ⊢
  have cD:=cA.trans (fB.trans fD)
  have gD:=gA.trans (fB.trans fD)
  clear hL2 fB fD cA gA fA c9 g9 f9 g7 f7 e6
  dsimp only[gName]
  intro tt ntt
  have fE:Same JD (upd JD tt (.dT [])):=Same.upd ntt
  have htE:(upd JD tt (HO.dT [])) tt=some (.dT []):=zaf
  dsimp only[gName]
  generalize upd JD tt (HO.dT [])=JE at fE htE ⊢
  refine⟨_,rfl,_,rfl,_,rfl,(by show 1<=sizeLine;decide),λt0 ht0 => ?_⟩
  have fF2:Same JE (upd JE t0 (.tup [V.int 0])):=Same.upd ht0
  have ht0F:(upd JE t0 (HO.tup [V.int 0])) t0=some (.tup [V.int 0]):=zaf
  generalize upd JE t0 (HO.tup [V.int 0])=JF at fF2 ht0F ⊢
  have lp:p < qds.length:=by omega
  have hqp:qds[p]? = some (qds[p]'lp):=List.getElem?_eq_getElem _
  have mqp:qds[p]'lp∈qds:=List.getElem_mem _
  generalize qds[p]'lp=dq at hqp mqp
  obtain⟨kvq,hdq,pfq⟩:=qts.row p dq hqp
  replace pfq:=pfq.congr λt=>(hq p t).trans (by rw[if_pos rfl])
  have gDF:=fE.trans fF2
  have cF2:=cD.trans gDF
  have hqp':(qds.map V.ref)[p]? = some (.ref dq):=by rw[List.getElem?_map,hqp];rfl
  have tq:tt≠dq:=λz=>zaq (cD _ _ hdq) ntt z.symm
  have lk:kvq.length<=30:=by
   have:=zlb pfq (U:=rng1 30) (zjr (by rw[List.length_map,List.length_drop,zhu];omega))
   rw[zh4]at this;exact this
  refine⟨_,rfl,pp,_,0,_,rfl,rfl,SqT.of (cF2 _ _ hpp),atI0,_,rfl,ql,_,_,_,rfl,rfl,SqL.of (cF2 _ _ qts.at_),zdz hqp',F,fF,n,cF,1,tt,va,t0,dq,[],kvq,λ_=>0,byP (((hor s xs).drop 1).map (λh=>aa⁻¹ * h)),aa,[0],6,400,1,rfl,n2,n9,by decide,tq,hva4.same (gD.trans gDF),ht0F,t0_1 0,fF2 _ _ htE,cF2 _ _ hdq,PF.nil,pfq.same cF2,(Nat.lt_of_le_of_lt (show 0 + kvq.length<=30 by omega) (by decide)),la,zux az la ls mx l30,λ_=>Lim.zero (by decide),by decide,λJG kvt kpG htG pfG lG => ?_⟩
  have sG:Same JD JG:=λb' o hb'=>kpG _ _ (gDF _ _ hb') λz=>zaq hb' ntt (List.mem_singleton.mp z)
  have cG:=cD.trans sG
  have gG:=gD.trans sG
  have dueG:=due4.same gG
  refine⟨_,rfl,_,rfl,_,rfl,1,rfl,u2,_,rfl,SqL.of dueG.at_,λq6 hq6 => ?_⟩
  rw[zv6]
  have fH:Same JG (upd JG q6 (.lst (ys2.drop 1))):=Same.upd hq6
  have hqH:(upd JG q6 (HO.lst (ys2.drop 1))) q6=some (.lst (ys2.drop 1)):=zaf
  generalize upd JG q6 (HO.lst (ys2.drop 1))=JH at fH hqH ⊢
  refine⟨F,fF,n,cF,q6,_,_,rfl,n2,(dueG.same fH).drop1 hqH,(by rw[List.length_drop,zhu];omega),λd7 JI kv7 nd7 fI hd7 pf7 hds7 => ?_⟩
  have gHI:=fH.trans fI
  refine zfg (gHI _ _ htG) hd7 (pfG.same gHI) pf7 true (tot16 az (hor s xs)) ⟨_,rfl,iteF ?_⟩
  have cI:=cG.trans gHI
  have gI':=gG.trans gHI
  have hdqI:=cI _ _ hdq
  refine⟨_,rfl,pp,_,0,_,rfl,rfl,SqT.of (cI _ _ hpp),atI0,_,rfl,ql,_,_,_,rfl,rfl,SqL.of (cI _ _ qts.at_),zdz hqp',.inr (.inr (.inl ⟨rfl,.inr ⟨_,hdqI⟩⟩)),dq,kvq,rfl,rfl,hdqI,?_⟩
  have rq:rd≠dq:=λz=>m3 (by rw[z];exact mqp)
  have hrdJ:(upd JI dq (HO.dT [])) rd=some (.dT rvs):=(zao rq).trans (cI _ _ hrd)
  have hppJ:(upd JI dq (HO.dT [])) pp=some (.tup [.ref ql,.ref rd]):=(zao (zdk (cI _ _ hpp) hdqI (by intro z;cases z))).trans (cI _ _ hpp)
  have sJ:Same H4 (upd JI dq (HO.dT [])):=λb' o hb'=>(zao (zaq hb' (m2 dq mqp))).trans (gI' _ _ hb')
  generalize upd JI dq (HO.dT [])=JJ at hrdJ hppJ sJ ⊢
  refine⟨_,rfl,pp,_,1,_,rfl,rfl,SqT.of hppJ,atI1,.inr (.inr (.inl ⟨rfl,.inr ⟨_,hrdJ⟩⟩)),rd,rvs,rfl,rfl,hrdJ,?_⟩
  have sK:Same H4 (upd JJ rd (HO.dT [])):=λb' o hb'=>(zao (zaq hb' m1)).trans (sJ _ _ hb')
  generalize upd JJ rd (HO.dT [])=JK at sK ⊢
  refine⟨_,rfl,_,rfl,_,rfl,F,fF,x,fh,Dr,⟨1,pf,po,n,kd,[wt]⟩,cF,dh,kvss,gs,fvs,byP xs,rng1 30,_,rfl,hR4.same sK,(rch.same sK).toRow (sK _ _ hDr) (by omega),Lin1.tmb lin,sK _ _ hfh4,pfh.same sK,hds,dvh,λJL rd3 q3 S3 ρ3 R3 lds3 rv3 fL hrd3 pr3 lo3 dv3 _ => ?_⟩
  obtain⟨_,hρ3⟩:=uniq16 O1 lin lo3 pd dv3
  have sL:=sK.trans fL
  have dueL:=due4.same sL
  dsimp only[gName]
  refine⟨_,rfl,_,rfl,_,rfl,1,rfl,u2,_,rfl,SqL.of dueL.at_,λq8 hq8 => ?_⟩
  rw[zt2]
  have fM:Same JL (upd JL q8 (.lst (ys2.take 1))):=Same.upd hq8
  have hqM:(upd JL q8 (HO.lst (ys2.take 1))) q8=some (.lst (ys2.take 1)):=zaf
  generalize upd JL q8 (HO.lst (ys2.take 1))=JM at fM hqM ⊢
  refine⟨F,fF,n,cF,q8,_,_,rfl,n2,(dueL.same fM).take1 hqM,(by rw[List.length_take];omega),λd9 JN kv9 nd9 fN hd9 pf9 hds9 => ?_⟩
  have gMN:=fM.trans fN
  have sN:=sL.trans gMN
  refine zfg (gMN _ _ hrd3) hd9 (PF.same gMN pr3) pf9 false hρ3 ⟨_,rfl,iteT ?_⟩
  refine⟨_,rfl,_,rfl,zfg (sN _ _ hfh4) (sN _ _ hf4) (pfh.same sN) (pfh.same sN) false (λ_=>rfl) ⟨_,rfl,iteT ?_⟩⟩
  exact⟨_,rfl,_,rfl,zoe (sN _ _ hDr) (sN _ _ hb4) (rch.same sN) (rc4.same sN) false (k _)⟩
end
end K6
namespace PySem.W.Fast
def tw5632734195928734510:=0
def tw2913697528560244580:=0
def tw4252535312027650687:=0
def tw3833727817155256032:=0
def tw15503049653255138489:=0
def tw69199680985268774:=0
def tw5803010659194124798:=0
def tw6434234379963207199:=0
def tw7847698010708237121:=0
def tw17878161350746189778:=0
def tw18432813212869584472:=0
def tw17312507520640771173:=0
def tw17600148881719542321:=0
def tw3645916354612413791:=0
def tw2125067049090247796:=0
def tw14166747650183689776:=0
def tw2709433158050266555:=0
def tw11479320234466819676:=0
def tw17287064253539462459:=0
def tw7877340094865470128:=0
def tw4304435583526570019:=0
def tw2929017121250502986:=0
def tw254545360016306529:=0
def tw7248609909601445752:=0
def tw17724869117864163441:=0
def tw12067994791493567178:=0
def tw1246758806945821564:=0
def tw7381296007837199304:=0
def tw10538878790286732554:=0
def tw714828331355993273:=0
def tw13135742388750966252:=0
def tw902594182555156335:=0
def tw14830869456543962092:=0
def tw4151236191034120801:=0
def tw14022387708321557758:=0
def tw17296765754045504795:=0
def tw11206116515484060256:=0
def tw10679826468030709872:=0
def tw7558950311171867446:=0
def tw2585915623110377234:=0
def tw5296822135666376609:=0
def tw1385748767842891116:=0
def tw17945807237606566509:=0
def tw14212023626505332513:=0
def tw4221609836680592245:=0
def tw6980111437329973149:=0
def tw11641341744179359105:=0
def tw15354210727137403480:=0
def tw16607470565869053607:=0
def tw12837158744682778771:=0
def tw15504691051178395938:=0
def tw16690658797469223495:=0
def tw8842293027031349591:=0
def tw8323559087349755287:=0
def tw11640269623605322507:=0
def tw7330583349602713210:=0
def tw10823699449729220252:=0
def tw12331087715393138537:=0
def tw3430244222117619812:=0
def tw2088167460763243748:=0
def tw13546112128579503940:=0
def tw15498297962279969718:=0
def tw9852172356408090203:=0
def tw6615695172155557198:=0
def tw4763695094123793500:=0
def tw7806377808393514412:=0
def tw14147889847932145381:=0
def tw2811474815508304804:=0
def tw13762052386154874077:=0
def tw9950429038344387201:=0
def tw15925892032754994842:=0
def tw2499967498791156551:=0
def tw7567945523959218965:=0
def tw15863022385758485658:=0
def tw7857592240230116917:=0
def tw2933625058269527298:=0
def tw59700466671496334:=0
def tw8332770117051481932:=0
def tw17368194806743852378:=0
def tw5513879854869932012:=0
def tw1249640231530150741:=0
def tw6924981048922610422:=0
def tw12690876207901048890:=0
def tw348942533397992816:=0
def tw10914769594621263398:=0
def tw9720574680188403468:=0
def tw13255351296557021765:=0
def tw16573770211275273891:=0
def tw11730016057910756290:=0
def tw9866743143015819111:=0
def tw10036106635781676843:=0
def tw12459226696587007576:=0
def tw3626979016670554918:=0
def tw16633258036325497273:=0
def tw3171286307916336042:=0
def tw15721178166815456994:=0
def tw11933089944343711123:=0
def tw12960514042967878846:=0
def tw10947899692390829315:=0
def tw4829829590401325193:=0
def tw7109404645667218246:=0
def tw14881059098314359372:=0
def tw5804766092187593147:=0
def tw1016076572420083873:=0
def tw306252201322447632:=0
def tw13044313867849574163:=0
def tw16184087503303567823:=0
def tw8429451395906044726:=0
def tw15110342088897166706:=0
def tw4383749113087627488:=0
def tw7467871490960217408:=0
def tw8297973527508242950:=0
def tw1994134724305743746:=0
def tw1789481876281639216:=0
def tw3597678807995550327:=0
def tw251655371839217905:=0
def tw3078011051144388585:=0
def tw14438079135644999681:=0
def tw5133171021170484885:=0
def tw8467502997008989865:=0
def tw13550809837151686073:=0
def tw1983710682355394080:=0
def tw14547720653082326309:=0
def tw1973009418840697731:=0
def tw284403133906882931:=0
def tw17204925449787904208:=0
def tw15219086942900713114:=0
end PySem.W.Fast
namespace K6
open PySem L2
set_option maxHeartbeats 8000000 in
theorem all_mk{l:W.OpenLaw}{w:World}{K:W.Frag}{h:Heap}{mg:Str->Option Value}{fa:Addr}(X:K.In h)(G:h.Ns mainGlobals mg)(hfa:mg "law" = some (.ref fa))
  {zap:Addr} {zab:Addr} {zai:Addr} {zal:Addr} {zae:Addr} {zam:Addr} {zac:Addr} {zad:Addr} {zan:Addr} {f_0:Addr} {od_0 an_0:Option Addr} {sl_0:Array (Option Value)} {oc_0 kV_0 dc_0 pm_0 cd_0 ct_0:Value} {f_1:Addr} {od_1 an_1:Option Addr} {sl_1:Array (Option Value)} {oc_1 kV_1 dc_1 pm_1 cd_1 ct_1:Value} {f_2:Addr} {od_2 an_2:Option Addr} {sl_2:Array (Option Value)} {oc_2 kV_2 dc_2 pm_2 cd_2 ct_2:Value} {Cq_2:Addr} {f_3:Addr} {od_3 an_3:Option Addr} {sl_3:Array (Option Value)} {oc_3 kV_3 dc_3 pm_3 cd_3 ct_3:Value} {f_4:Addr} {od_4 an_4:Option Addr} {sl_4:Array (Option Value)} {oc_4 kV_4 dc_4 pm_4 cd_4 ct_4:Value} {f_5:Addr} {od_5 an_5:Option Addr} {sl_5:Array (Option Value)} {oc_5 kV_5 dc_5 pm_5 cd_5 ct_5:Value} {f_6:Addr} {od_6 an_6:Option Addr} {sl_6:Array (Option Value)} {oc_6 kV_6 dc_6 pm_6 cd_6 ct_6:Value} {T_6:Addr} {tu_6:Value} {td_6:Option Addr} {tn_6:Nat} {ts_6:Array (Option Value)} {tk_6:Tok} {f_7:Addr} {od_7 an_7:Option Addr} {sl_7:Array (Option Value)} {oc_7 kV_7 dc_7 pm_7 cd_7 ct_7:Value} {f_8:Addr} {od_8 an_8:Option Addr} {sl_8:Array (Option Value)} {oc_8 kV_8 dc_8 pm_8 cd_8 ct_8:Value} {f_9:Addr} {od_9 an_9:Option Addr} {sl_9:Array (Option Value)} {oc_9 kV_9 dc_9 pm_9 cd_9 ct_9:Value} {f_10:Addr} {od_10 an_10:Option Addr} {sl_10:Array (Option Value)} {oc_10 kV_10 dc_10 pm_10 cd_10 ct_10:Value} {f_11:Addr} {od_11 an_11:Option Addr} {sl_11:Array (Option Value)} {oc_11 kV_11 dc_11 pm_11 cd_11 ct_11:Value} {f_12:Addr} {od_12 an_12:Option Addr} {sl_12:Array (Option Value)} {oc_12 kV_12 dc_12 pm_12 cd_12 ct_12:Value} {f_13:Addr} {od_13 an_13:Option Addr} {sl_13:Array (Option Value)} {oc_13 kV_13 dc_13 pm_13 cd_13 ct_13:Value} {f_14:Addr} {od_14 an_14:Option Addr} {sl_14:Array (Option Value)} {oc_14 kV_14 dc_14 pm_14 cd_14 ct_14:Value} {f_15:Addr} {od_15 an_15:Option Addr} {sl_15:Array (Option Value)} {oc_15 kV_15 dc_15 pm_15 cd_15 ct_15:Value} {f_16:Addr} {od_16 an_16:Option Addr} {sl_16:Array (Option Value)} {oc_16 kV_16 dc_16 pm_16 cd_16 ct_16:Value} {f_17:Addr} {od_17 an_17:Option Addr} {sl_17:Array (Option Value)} {oc_17 kV_17 dc_17 pm_17 cd_17 ct_17:Value} {f_18:Addr} {od_18 an_18:Option Addr} {sl_18:Array (Option Value)} {oc_18 kV_18 dc_18 pm_18 cd_18 ct_18:Value} {f_19:Addr} {od_19 an_19:Option Addr} {sl_19:Array (Option Value)} {oc_19 kV_19 dc_19 pm_19 cd_19 ct_19:Value} {f_20:Addr} {od_20 an_20:Option Addr} {sl_20:Array (Option Value)} {oc_20 kV_20 dc_20 pm_20 cd_20 ct_20:Value} {f_21:Addr} {od_21 an_21:Option Addr} {sl_21:Array (Option Value)} {oc_21 kV_21 dc_21 pm_21 cd_21 ct_21:Value} {f_22:Addr} {od_22 an_22:Option Addr} {sl_22:Array (Option Value)} {oc_22 kV_22 dc_22 pm_22 cd_22 ct_22:Value} {f_23:Addr} {od_23 an_23:Option Addr} {sl_23:Array (Option Value)} {oc_23 kV_23 dc_23 pm_23 cd_23 ct_23:Value} {f_24:Addr} {od_24 an_24:Option Addr} {sl_24:Array (Option Value)} {oc_24 kV_24 dc_24 pm_24 cd_24 ct_24:Value} {f_25:Addr} {od_25 an_25:Option Addr} {sl_25:Array (Option Value)} {oc_25 kV_25 dc_25 pm_25 cd_25 ct_25:Value} {f_26:Addr} {od_26 an_26:Option Addr} {sl_26:Array (Option Value)} {oc_26 kV_26 dc_26 pm_26 cd_26 ct_26:Value} {f_27:Addr} {od_27 an_27:Option Addr} {sl_27:Array (Option Value)} {oc_27 kV_27 dc_27 pm_27 cd_27 ct_27:Value} {f_28:Addr} {od_28 an_28:Option Addr} {sl_28:Array (Option Value)} {oc_28 kV_28 dc_28 pm_28 cd_28 ct_28:Value} {f_29:Addr} {od_29 an_29:Option Addr} {sl_29:Array (Option Value)} {oc_29 kV_29 dc_29 pm_29 cd_29 ct_29:Value} {f_30:Addr} {od_30 an_30:Option Addr} {sl_30:Array (Option Value)} {oc_30 kV_30 dc_30 pm_30 cd_30 ct_30:Value} {f_31:Addr} {od_31 an_31:Option Addr} {sl_31:Array (Option Value)} {oc_31 kV_31 dc_31 pm_31 cd_31 ct_31:Value} {f_32:Addr} {od_32 an_32:Option Addr} {sl_32:Array (Option Value)} {oc_32 kV_32 dc_32 pm_32 cd_32 ct_32:Value} {f_33:Addr} {od_33 an_33:Option Addr} {sl_33:Array (Option Value)} {oc_33 kV_33 dc_33 pm_33 cd_33 ct_33:Value} {f_34:Addr} {od_34 an_34:Option Addr} {sl_34:Array (Option Value)} {oc_34 kV_34 dc_34 pm_34 cd_34 ct_34:Value} {f_35:Addr} {od_35 an_35:Option Addr} {sl_35:Array (Option Value)} {oc_35 kV_35 dc_35 pm_35 cd_35 ct_35:Value} {f_36:Addr} {od_36 an_36:Option Addr} {sl_36:Array (Option Value)} {oc_36 kV_36 dc_36 pm_36 cd_36 ct_36:Value} {f_37:Addr} {od_37 an_37:Option Addr} {sl_37:Array (Option Value)} {oc_37 kV_37 dc_37 pm_37 cd_37 ct_37:Value} {f_38:Addr} {od_38 an_38:Option Addr} {sl_38:Array (Option Value)} {oc_38 kV_38 dc_38 pm_38 cd_38 ct_38:Value} {f_39:Addr} {od_39 an_39:Option Addr} {sl_39:Array (Option Value)} {oc_39 kV_39 dc_39 pm_39 cd_39 ct_39:Value} {f_40:Addr} {od_40 an_40:Option Addr} {sl_40:Array (Option Value)} {oc_40 kV_40 dc_40 pm_40 cd_40 ct_40:Value} {f_41:Addr} {od_41 an_41:Option Addr} {sl_41:Array (Option Value)} {oc_41 kV_41 dc_41 pm_41 cd_41 ct_41:Value} {f_42:Addr} {od_42 an_42:Option Addr} {sl_42:Array (Option Value)} {oc_42 kV_42 dc_42 pm_42 cd_42 ct_42:Value} {f_43:Addr} {od_43 an_43:Option Addr} {sl_43:Array (Option Value)} {oc_43 kV_43 dc_43 pm_43 cd_43 ct_43:Value} {f_44:Addr} {od_44 an_44:Option Addr} {sl_44:Array (Option Value)} {oc_44 kV_44 dc_44 pm_44 cd_44 ct_44:Value} {f_45:Addr} {od_45 an_45:Option Addr} {sl_45:Array (Option Value)} {oc_45 kV_45 dc_45 pm_45 cd_45 ct_45:Value} {f_46:Addr} {od_46 an_46:Option Addr} {sl_46:Array (Option Value)} {oc_46 kV_46 dc_46 pm_46 cd_46 ct_46:Value} {f_47:Addr} {od_47 an_47:Option Addr} {sl_47:Array (Option Value)} {oc_47 kV_47 dc_47 pm_47 cd_47 ct_47:Value} {f_48:Addr} {od_48 an_48:Option Addr} {sl_48:Array (Option Value)} {oc_48 kV_48 dc_48 pm_48 cd_48 ct_48:Value} {f_49:Addr} {od_49 an_49:Option Addr} {sl_49:Array (Option Value)} {oc_49 kV_49 dc_49 pm_49 cd_49 ct_49:Value} {f_50:Addr} {od_50 an_50:Option Addr} {sl_50:Array (Option Value)} {oc_50 kV_50 dc_50 pm_50 cd_50 ct_50:Value} {f_51:Addr} {od_51 an_51:Option Addr} {sl_51:Array (Option Value)} {oc_51 kV_51 dc_51 pm_51 cd_51 ct_51:Value} {f_52:Addr} {od_52 an_52:Option Addr} {sl_52:Array (Option Value)} {oc_52 kV_52 dc_52 pm_52 cd_52 ct_52:Value} {f_53:Addr} {od_53 an_53:Option Addr} {sl_53:Array (Option Value)} {oc_53 kV_53 dc_53 pm_53 cd_53 ct_53:Value} {f_54:Addr} {od_54 an_54:Option Addr} {sl_54:Array (Option Value)} {oc_54 kV_54 dc_54 pm_54 cd_54 ct_54:Value} {f_55:Addr} {od_55 an_55:Option Addr} {sl_55:Array (Option Value)} {oc_55 kV_55 dc_55 pm_55 cd_55 ct_55:Value} {f_56:Addr} {od_56 an_56:Option Addr} {sl_56:Array (Option Value)} {oc_56 kV_56 dc_56 pm_56 cd_56 ct_56:Value} {f_57:Addr} {od_57 an_57:Option Addr} {sl_57:Array (Option Value)} {oc_57 kV_57 dc_57 pm_57 cd_57 ct_57:Value} {f_58:Addr} {od_58 an_58:Option Addr} {sl_58:Array (Option Value)} {oc_58 kV_58 dc_58 pm_58 cd_58 ct_58:Value} {f_59:Addr} {od_59 an_59:Option Addr} {sl_59:Array (Option Value)} {oc_59 kV_59 dc_59 pm_59 cd_59 ct_59:Value} {f_60:Addr} {od_60 an_60:Option Addr} {sl_60:Array (Option Value)} {oc_60 kV_60 dc_60 pm_60 cd_60 ct_60:Value} {f_61:Addr} {od_61 an_61:Option Addr} {sl_61:Array (Option Value)} {oc_61 kV_61 dc_61 pm_61 cd_61 ct_61:Value} {f_62:Addr} {od_62 an_62:Option Addr} {sl_62:Array (Option Value)} {oc_62 kV_62 dc_62 pm_62 cd_62 ct_62:Value} {f_63:Addr} {od_63 an_63:Option Addr} {sl_63:Array (Option Value)} {oc_63 kV_63 dc_63 pm_63 cd_63 ct_63:Value} {f_64:Addr} {od_64 an_64:Option Addr} {sl_64:Array (Option Value)} {oc_64 kV_64 dc_64 pm_64 cd_64 ct_64:Value} {f_65:Addr} {od_65 an_65:Option Addr} {sl_65:Array (Option Value)} {oc_65 kV_65 dc_65 pm_65 cd_65 ct_65:Value} {zei:Addr} {bm_NoLead:List Value} {nid_NoLead:String} {ini_NoLead B_NoLead:String} {zc9:Addr} {bm_NoOrder:List Value} {nid_NoOrder:String} {ini_NoOrder B_NoOrder:String} {zbr:Addr} {bm_NoOver:List Value} {nid_NoOver:String} {ini_NoOver B_NoOver:String} {zda:Addr} {bm_NoPrime:List Value} {nid_NoPrime:String} {ini_NoPrime B_NoPrime:String} {zdi:Addr} {bm_NoRing:List Value} {nid_NoRing:String} {ini_NoRing B_NoRing:String} {za0:Addr} {bm_NoTerm:List Value} {nid_NoTerm:String} {ini_NoTerm B_NoTerm:String} {tg_GREATEST_PRIME:Tok} {tg_LETTERS:Tok}
  (kf:W.nsIn K mainGlobals "Ring" = some (some (.ref zap)))
  (jw:W.plainGet K zap Str.empty=true)
  (jx:W.hasDictIn K zap=true)
  (jy:W.plainOver K zap=true)
  (j3:W.findIn K (.ref zap) "__setattr__" = some (some (.builtin "object.__setattr__")))
  (j4:W.makesIn K zap=true)
  (j5:W.keepIn K (.ref zap)=true)
  (ay:W.findIn K (.ref zap) "many" = some none)
  (am:W.findIn K (.ref zap) "field" = some none)
  (ao:W.findIn K (.ref zap) "order" = some none)
  (b8:W.nsIn K mainGlobals "Fractions" = some (some (.ref zab)))
  (a5:W.plainGet K zab Str.empty=true)
  (a6:W.hasDictIn K zab=true)
  (a7:W.plainOver K zab=true)
  (a8:W.findIn K (.ref zab) "__setattr__" = some (some (.builtin "object.__setattr__")))
  (a9:W.makesIn K zab=true)
  (ba:W.keepIn K (.ref zab)=true)
  (ac:W.findIn K (.ref zab) "prime" = some none)
  (j6:W.nsIn K mainGlobals "Rests" = some (some (.ref zai)))
  (ij:W.plainGet K zai Str.empty=true)
  (il:W.hasDictIn K zai=true)
  (io:W.plainOver K zai=true)
  (ip:W.findIn K (.ref zai) "__setattr__" = some (some (.builtin "object.__setattr__")))
  (iq:W.makesIn K zai=true)
  (ir:W.keepIn K (.ref zai)=true)
  (ai:W.findIn K (.ref zai) "prime" = some none)
  (j7:W.nsIn K mainGlobals "Order" = some (some (.ref zal)))
  (iu:W.plainGet K zal Str.empty=true)
  (iw:W.hasDictIn K zal=true)
  (iz:W.plainOver K zal=true)
  (i0:W.findIn K (.ref zal) "__setattr__" = some (some (.builtin "object.__setattr__")))
  (i7:W.makesIn K zal=true)
  (i8:W.findIn K (.ref zal) "__init__" = some (some (.builtin "object.__init__")))
  (i9:W.keepIn K (.ref zal)=true)
  (gi:W.nsIn K mainGlobals "Degrees" = some (some (.ref zae)))
  (ca:W.plainGet K zae Str.empty=true)
  (cb:W.hasDictIn K zae=true)
  (cf:W.plainOver K zae=true)
  (cg:W.findIn K (.ref zae) "__setattr__" = some (some (.builtin "object.__setattr__")))
  (ci:W.makesIn K zae=true)
  (cj:W.findIn K (.ref zae) "__init__" = some (some (.builtin "object.__init__")))
  (ck:W.keepIn K (.ref zae)=true)
  (j8:W.nsIn K mainGlobals "Tails" = some (some (.ref zam)))
  (ja:W.plainGet K zam Str.empty=true)
  (jb:W.hasDictIn K zam=true)
  (jc:W.plainOver K zam=true)
  (jd:W.findIn K (.ref zam) "__setattr__" = some (some (.builtin "object.__setattr__")))
  (je:W.makesIn K zam=true)
  (jf:W.findIn K (.ref zam) "__init__" = some (some (.builtin "object.__init__")))
  (jg:W.keepIn K (.ref zam)=true)
  (gj:W.nsIn K mainGlobals "Weights" = some (some (.ref zac)))
  (cn:W.plainGet K zac Str.empty=true)
  (cq:W.hasDictIn K zac=true)
  (cr:W.plainOver K zac=true)
  (cu:W.findIn K (.ref zac) "__setattr__" = some (some (.builtin "object.__setattr__")))
  (cv:W.makesIn K zac=true)
  (cw:W.keepIn K (.ref zac)=true)
  (ad:W.findIn K (.ref zac) "weights" = some none)
  (gk:W.nsIn K mainGlobals "Waiting" = some (some (.ref zad)))
  (cx:W.plainGet K zad Str.empty=true)
  (cy:W.hasDictIn K zad=true)
  (cz:W.plainOver K zad=true)
  (dg:W.findIn K (.ref zad) "__setattr__" = some (some (.builtin "object.__setattr__")))
  (di:W.makesIn K zad=true)
  (dk:W.keepIn K (.ref zad)=true)
  (ae:W.findIn K (.ref zad) "order" = some none)
  (af:W.findIn K (.ref zad) "known" = some none)
  (ag:W.findIn K (.ref zad) "queue" = some none)
  (j9:W.nsIn K mainGlobals "Leads" = some (some (.ref zan)))
  (jh:W.plainGet K zan Str.empty=true)
  (ji:W.hasDictIn K zan=true)
  (jk:W.plainOver K zan=true)
  (jm:W.findIn K (.ref zan) "__setattr__" = some (some (.builtin "object.__setattr__")))
  (jn:W.makesIn K zan=true)
  (jo:W.keepIn K (.ref zan)=true)
  (aj:W.findIn K (.ref zan) "pairs" = some none)
  (zwg:W.nsIn K mainGlobals "shared_divisor" = some (some (.ref f_0)))
  (zwh:K.lookup f_0=some ⟨oc_0,od_0,.func (W.fnOf "shared_divisor" "shared_divisor" (defArgs zbg) (defBody zbg) (defScope zbg) .none kV_0 dc_0 pm_0 an_0 cd_0 ct_0),sl_0⟩)
  (zwi:W.codeIn K cd_0 "shared_divisor" = true)
  (zwj:W.keepIn K (.ref f_0)=true)
  (zwk:W.nsIn K mainGlobals "is_prime" = some (some (.ref f_1)))
  (zwl:K.lookup f_1=some ⟨oc_1,od_1,.func (W.fnOf "is_prime" "is_prime" (defArgs zdu) (defBody zdu) (defScope zdu) .none kV_1 dc_1 pm_1 an_1 cd_1 ct_1),sl_1⟩)
  (zwm:W.codeIn K cd_1 "is_prime" = true)
  (zwn:W.keepIn K (.ref f_1)=true)
  (ml:W.nsIn K mainGlobals "Field" = some (some (.ref Cq_2)))
  (mn:W.readsIn K Cq_2 (.type "type")=true)
  (mo:W.findCls K (.ref Cq_2) (.type "type") "__init__" = some (.val (.ref f_2)))
  (mq:W.specialIn K (.ref Cq_2) "__getattribute__" = some (some (.builtin "type.__getattribute__")))
  (zwo:W.isFn K (.ref f_2)=true)
  (zwp:K.lookup f_2=some ⟨oc_2,od_2,.func (W.fnOf "__init__" "Field.__init__" (defArgs zbo) (defBody zbo) (defScope zbo) .none kV_2 dc_2 pm_2 an_2 cd_2 ct_2),sl_2⟩)
  (zwq:W.codeIn K cd_2 "Field.__init__" = true)
  (zwr:W.keepIn K (.ref f_2)=true)
  (ap:W.findIn K (.ref zab) "__init__" = some (some (.ref f_3)))
  (zws:W.isFn K (.ref f_3)=true)
  (zwt:K.lookup f_3=some ⟨oc_3,od_3,.func (W.fnOf "__init__" "Fractions.__init__" (defArgs za2) (defBody za2) (defScope za2) .none kV_3 dc_3 pm_3 an_3 cd_3 ct_3),sl_3⟩)
  (zwu:W.codeIn K cd_3 "Fractions.__init__" = true)
  (zwv:W.keepIn K (.ref f_3)=true)
  (aq:W.findIn K (.ref zab) "nought" = some (some (.ref f_4)))
  (zww:W.isFn K (.ref f_4)=true)
  (zwx:K.lookup f_4=some ⟨oc_4,od_4,.func (W.fnOf "nought" "Fractions.nought" (defArgs zba) (defBody zba) (defScope zba) .none kV_4 dc_4 pm_4 an_4 cd_4 ct_4),sl_4⟩)
  (zwy:W.codeIn K cd_4 "Fractions.nought" = true)
  (zwz:W.keepIn K (.ref f_4)=true)
  (ar:W.findIn K (.ref zab) "one" = some (some (.ref f_5)))
  (zw0:W.isFn K (.ref f_5)=true)
  (zw1:K.lookup f_5=some ⟨oc_5,od_5,.func (W.fnOf "one" "Fractions.one" (defArgs zbv) (defBody zbv) (defScope zbv) .none kV_5 dc_5 pm_5 an_5 cd_5 ct_5),sl_5⟩)
  (zw2:W.codeIn K cd_5 "Fractions.one" = true)
  (zw3:W.keepIn K (.ref f_5)=true)
  (au:W.findIn K (.ref zab) "made" = some (some (.ref f_6)))
  (zw4:W.isFn K (.ref f_6)=true)
  (zw5:K.lookup f_6=some ⟨oc_6,od_6,.func (W.fnOf "made" "Fractions.made" (defArgs zbj) (defBody zbj) (defScope zbj) (.ref T_6) kV_6 dc_6 pm_6 an_6 cd_6 ct_6),sl_6⟩)
  (zw6:K.lookup T_6=some ⟨tu_6,td_6,.seq #[.int 1 tk_6] tn_6,ts_6⟩)
  (zw7:W.codeIn K cd_6 "Fractions.made" = true)
  (zw8:W.keepIn K (.ref f_6)=true)
  (av:W.findIn K (.ref zab) "plus" = some (some (.ref f_7)))
  (zw9:W.isFn K (.ref f_7)=true)
  (zxa:K.lookup f_7=some ⟨oc_7,od_7,.func (W.fnOf "plus" "Fractions.plus" (defArgs zbi) (defBody zbi) (defScope zbi) .none kV_7 dc_7 pm_7 an_7 cd_7 ct_7),sl_7⟩)
  (zxb:W.codeIn K cd_7 "Fractions.plus" = true)
  (zxc:W.keepIn K (.ref f_7)=true)
  (aw:W.findIn K (.ref zab) "times" = some (some (.ref f_8)))
  (zxd:W.isFn K (.ref f_8)=true)
  (zxe:K.lookup f_8=some ⟨oc_8,od_8,.func (W.fnOf "times" "Fractions.times" (defArgs zbd) (defBody zbd) (defScope zbd) .none kV_8 dc_8 pm_8 an_8 cd_8 ct_8),sl_8⟩)
  (zxf:W.codeIn K cd_8 "Fractions.times" = true)
  (zxg:W.keepIn K (.ref f_8)=true)
  (ax:W.findIn K (.ref zab) "against" = some (some (.ref f_9)))
  (zxh:W.isFn K (.ref f_9)=true)
  (zxi:K.lookup f_9=some ⟨oc_9,od_9,.func (W.fnOf "against" "Fractions.against" (defArgs za4) (defBody za4) (defScope za4) .none kV_9 dc_9 pm_9 an_9 cd_9 ct_9),sl_9⟩)
  (zxj:W.codeIn K cd_9 "Fractions.against" = true)
  (zxk:W.keepIn K (.ref f_9)=true)
  (ak:W.findIn K (.ref zab) "turned" = some (some (.ref f_10)))
  (mr:W.isFn K (.ref f_10)=true)
  (mt:K.lookup f_10=some ⟨oc_10,od_10,.func (W.fnOf "turned" "Fractions.turned" (defArgs za7) (defBody za7) (defScope za7) .none kV_10 dc_10 pm_10 an_10 cd_10 ct_10),sl_10⟩)
  (mv:W.codeIn K cd_10 "Fractions.turned" = true)
  (mw:W.keepIn K (.ref f_10)=true)
  (al:W.findIn K (.ref zab) "over" = some (some (.ref f_11)))
  (dm:W.findIn K (.ref zai) "over" = some (some (.ref f_11)))
  (my:W.isFn K (.ref f_11)=true)
  (mz:K.lookup f_11=some ⟨oc_11,od_11,.func (W.fnOf "over" "Field.over" (defArgs zbz) (defBody zbz) (defScope zbz) .none kV_11 dc_11 pm_11 an_11 cd_11 ct_11),sl_11⟩)
  (m6:W.codeIn K cd_11 "Field.over" = true)
  (m7:W.keepIn K (.ref f_11)=true)
  (dt:W.findIn K (.ref zai) "__init__" = some (some (.ref f_12)))
  (m8:W.isFn K (.ref f_12)=true)
  (m9:K.lookup f_12=some ⟨oc_12,od_12,.func (W.fnOf "__init__" "Rests.__init__" (defArgs zbh) (defBody zbh) (defScope zbh) .none kV_12 dc_12 pm_12 an_12 cd_12 ct_12),sl_12⟩)
  (ng:W.codeIn K cd_12 "Rests.__init__" = true)
  (nh:W.keepIn K (.ref f_12)=true)
  (du:W.findIn K (.ref zai) "nought" = some (some (.ref f_13)))
  (ni:W.isFn K (.ref f_13)=true)
  (nk:K.lookup f_13=some ⟨oc_13,od_13,.func (W.fnOf "nought" "Rests.nought" (defArgs zb5) (defBody zb5) (defScope zb5) .none kV_13 dc_13 pm_13 an_13 cd_13 ct_13),sl_13⟩)
  (nr:W.codeIn K cd_13 "Rests.nought" = true)
  (nu:W.keepIn K (.ref f_13)=true)
  (dy:W.findIn K (.ref zai) "one" = some (some (.ref f_14)))
  (n5:W.isFn K (.ref f_14)=true)
  (n6:K.lookup f_14=some ⟨oc_14,od_14,.func (W.fnOf "one" "Rests.one" (defArgs zdb) (defBody zdb) (defScope zdb) .none kV_14 dc_14 pm_14 an_14 cd_14 ct_14),sl_14⟩)
  (n8:W.codeIn K cd_14 "Rests.one" = true)
  (og:W.keepIn K (.ref f_14)=true)
  (dz:W.findIn K (.ref zai) "plus" = some (some (.ref f_15)))
  (oh:W.isFn K (.ref f_15)=true)
  (oj:K.lookup f_15=some ⟨oc_15,od_15,.func (W.fnOf "plus" "Rests.plus" (defArgs zcz) (defBody zcz) (defScope zcz) .none kV_15 dc_15 pm_15 an_15 cd_15 ct_15),sl_15⟩)
  (ot:W.codeIn K cd_15 "Rests.plus" = true)
  (ou:W.keepIn K (.ref f_15)=true)
  (d5:W.findIn K (.ref zai) "times" = some (some (.ref f_16)))
  (ow:W.isFn K (.ref f_16)=true)
  (ox:K.lookup f_16=some ⟨oc_16,od_16,.func (W.fnOf "times" "Rests.times" (defArgs zcn) (defBody zcn) (defScope zcn) .none kV_16 dc_16 pm_16 an_16 cd_16 ct_16),sl_16⟩)
  (oy:W.codeIn K cd_16 "Rests.times" = true)
  (oz:W.keepIn K (.ref f_16)=true)
  (d6:W.findIn K (.ref zai) "against" = some (some (.ref f_17)))
  (o2:W.isFn K (.ref f_17)=true)
  (o3:K.lookup f_17=some ⟨oc_17,od_17,.func (W.fnOf "against" "Rests.against" (defArgs zbx) (defBody zbx) (defScope zbx) .none kV_17 dc_17 pm_17 an_17 cd_17 ct_17),sl_17⟩)
  (o4:W.codeIn K cd_17 "Rests.against" = true)
  (o5:W.keepIn K (.ref f_17)=true)
  (d8:W.findIn K (.ref zai) "turned" = some (some (.ref f_18)))
  (o6:W.isFn K (.ref f_18)=true)
  (o7:K.lookup f_18=some ⟨oc_18,od_18,.func (W.fnOf "turned" "Rests.turned" (defArgs zb8) (defBody zb8) (defScope zb8) .none kV_18 dc_18 pm_18 an_18 cd_18 ct_18),sl_18⟩)
  (o8:W.codeIn K cd_18 "Rests.turned" = true)
  (o9:W.keepIn K (.ref f_18)=true)
  (pc:W.nsIn K mainGlobals "degree" = some (some (.ref f_19)))
  (ph:K.lookup f_19=some ⟨oc_19,od_19,.func (W.fnOf "degree" "degree" (defArgs ze4) (defBody ze4) (defScope ze4) .none kV_19 dc_19 pm_19 an_19 cd_19 ct_19),sl_19⟩)
  (pj:W.codeIn K cd_19 "degree" = true)
  (pq:W.keepIn K (.ref f_19)=true)
  (fg:W.findIn K (.ref zal) "rank" = some (some (.ref f_20)))
  (p0:W.isFn K (.ref f_20)=true)
  (ko:W.specialIn K (.ref f_20) "__get__" = some (some (.builtin "function.__get__")))
  (kq:W.takesIn K (.ref f_20)=some false)
  (p6:K.lookup f_20=some ⟨oc_20,od_20,.func (W.fnOf "rank" "Order.rank" (defArgs zc1) (defBody zc1) (defScope zc1) .none kV_20 dc_20 pm_20 an_20 cd_20 ct_20),sl_20⟩)
  (p7:W.codeIn K cd_20 "Order.rank" = true)
  (p9:W.keepIn K (.ref f_20)=true)
  (bc:W.findIn K (.ref zae) "rank" = some (some (.ref f_21)))
  (qc:W.isFn K (.ref f_21)=true)
  (kr:W.specialIn K (.ref f_21) "__get__" = some (some (.builtin "function.__get__")))
  (kt:W.takesIn K (.ref f_21)=some false)
  (qe:K.lookup f_21=some ⟨oc_21,od_21,.func (W.fnOf "rank" "Degrees.rank" (defArgs zb9) (defBody zb9) (defScope zb9) .none kV_21 dc_21 pm_21 an_21 cd_21 ct_21),sl_21⟩)
  (qg:W.codeIn K cd_21 "Degrees.rank" = true)
  (qh:W.keepIn K (.ref f_21)=true)
  (fi:W.findIn K (.ref zam) "rank" = some (some (.ref f_22)))
  (qj:W.isFn K (.ref f_22)=true)
  (ku:W.specialIn K (.ref f_22) "__get__" = some (some (.builtin "function.__get__")))
  (k6:W.takesIn K (.ref f_22)=some false)
  (qk:K.lookup f_22=some ⟨oc_22,od_22,.func (W.fnOf "rank" "Tails.rank" (defArgs zcx) (defBody zcx) (defScope zcx) .none kV_22 dc_22 pm_22 an_22 cd_22 ct_22),sl_22⟩)
  (qm:W.codeIn K cd_22 "Tails.rank" = true)
  (qo:W.keepIn K (.ref f_22)=true)
  (bd:W.findIn K (.ref zac) "__init__" = some (some (.ref f_23)))
  (qp:W.isFn K (.ref f_23)=true)
  (qr:K.lookup f_23=some ⟨oc_23,od_23,.func (W.fnOf "__init__" "Weights.__init__" (defArgs za6) (defBody za6) (defScope za6) .none kV_23 dc_23 pm_23 an_23 cd_23 ct_23),sl_23⟩)
  (qu:W.codeIn K cd_23 "Weights.__init__" = true)
  (qv:W.keepIn K (.ref f_23)=true)
  (bf:W.findIn K (.ref zac) "rank" = some (some (.ref f_24)))
  (qw:W.isFn K (.ref f_24)=true)
  (k8:W.specialIn K (.ref f_24) "__get__" = some (some (.builtin "function.__get__")))
  (k9:W.takesIn K (.ref f_24)=some false)
  (qx:K.lookup f_24=some ⟨oc_24,od_24,.func (W.fnOf "rank" "Weights.rank" (defArgs zcb) (defBody zcb) (defScope zcb) .none kV_24 dc_24 pm_24 an_24 cd_24 ct_24),sl_24⟩)
  (qy:W.codeIn K cd_24 "Weights.rank" = true)
  (qz:W.keepIn K (.ref f_24)=true)
  (bh:W.findIn K (.ref zae) "fits" = some (some (.ref f_25)))
  (fj:W.findIn K (.ref zal) "fits" = some (some (.ref f_25)))
  (fk:W.findIn K (.ref zam) "fits" = some (some (.ref f_25)))
  (rc:W.isFn K (.ref f_25)=true)
  (rf:K.lookup f_25=some ⟨oc_25,od_25,.func (W.fnOf "fits" "Order.fits" (defArgs zcv) (defBody zcv) (defScope zcv) .none kV_25 dc_25 pm_25 an_25 cd_25 ct_25),sl_25⟩)
  (rg:W.codeIn K cd_25 "Order.fits" = true)
  (rh:W.keepIn K (.ref f_25)=true)
  (bi:W.findIn K (.ref zac) "fits" = some (some (.ref f_26)))
  (rj:W.isFn K (.ref f_26)=true)
  (rl:K.lookup f_26=some ⟨oc_26,od_26,.func (W.fnOf "fits" "Weights.fits" (defArgs zca) (defBody zca) (defScope zca) .none kV_26 dc_26 pm_26 an_26 cd_26 ct_26),sl_26⟩)
  (rm:W.codeIn K cd_26 "Weights.fits" = true)
  (r6:W.keepIn K (.ref f_26)=true)
  (bj:W.findIn K (.ref zae) "first_of" = some (some (.ref f_27)))
  (fm:W.findIn K (.ref zal) "first_of" = some (some (.ref f_27)))
  (fq:W.findIn K (.ref zam) "first_of" = some (some (.ref f_27)))
  (bn:W.findIn K (.ref zac) "first_of" = some (some (.ref f_27)))
  (r8:W.isFn K (.ref f_27)=true)
  (r9:K.lookup f_27=some ⟨oc_27,od_27,.func (W.fnOf "first_of" "Order.first_of" (defArgs zbn) (defBody zbn) (defScope zbn) .none kV_27 dc_27 pm_27 an_27 cd_27 ct_27),sl_27⟩)
  (se:W.codeIn K cd_27 "Order.first_of" = true)
  (sf:W.keepIn K (.ref f_27)=true)
  (gm:W.findIn K (.ref zap) "__init__" = some (some (.ref f_28)))
  (sg:W.isFn K (.ref f_28)=true)
  (sj:K.lookup f_28=some ⟨oc_28,od_28,.func (W.fnOf "__init__" "Ring.__init__" (defArgs zbu) (defBody zbu) (defScope zbu) .none kV_28 dc_28 pm_28 an_28 cd_28 ct_28),sl_28⟩)
  (sk:W.codeIn K cd_28 "Ring.__init__" = true)
  (su:W.keepIn K (.ref f_28)=true)
  (sv:W.nsIn K mainGlobals "product" = some (some (.ref f_29)))
  (sw:K.lookup f_29=some ⟨oc_29,od_29,.func (W.fnOf "product" "product" (defArgs zd9) (defBody zd9) (defScope zd9) .none kV_29 dc_29 pm_29 an_29 cd_29 ct_29),sl_29⟩)
  (sx:W.codeIn K cd_29 "product" = true)
  (sy:W.keepIn K (.ref f_29)=true)
  (tf:W.nsIn K mainGlobals "goes_into" = some (some (.ref f_30)))
  (tj:K.lookup f_30=some ⟨oc_30,od_30,.func (W.fnOf "goes_into" "goes_into" (defArgs zdc) (defBody zdc) (defScope zdc) .none kV_30 dc_30 pm_30 an_30 cd_30 ct_30),sl_30⟩)
  (tm:W.codeIn K cd_30 "goes_into" = true)
  (tw:W.keepIn K (.ref f_30)=true)
  (tz:W.nsIn K mainGlobals "left_over" = some (some (.ref f_31)))
  (t3:K.lookup f_31=some ⟨oc_31,od_31,.func (W.fnOf "left_over" "left_over" (defArgs zdd) (defBody zdd) (defScope zdd) .none kV_31 dc_31 pm_31 an_31 cd_31 ct_31),sl_31⟩)
  (t6:W.codeIn K cd_31 "left_over" = true)
  (t7:W.keepIn K (.ref f_31)=true)
  (t8:W.nsIn K mainGlobals "absorb" = some (some (.ref f_32)))
  (t9:K.lookup f_32=some ⟨oc_32,od_32,.func (W.fnOf "absorb" "absorb" (defArgs ze3) (defBody ze3) (defScope ze3) .none kV_32 dc_32 pm_32 an_32 cd_32 ct_32),sl_32⟩)
  (ua:W.codeIn K cd_32 "absorb" = true)
  (uc:W.keepIn K (.ref f_32)=true)
  (ud:W.nsIn K mainGlobals "scaled" = some (some (.ref f_33)))
  (ue:K.lookup f_33=some ⟨oc_33,od_33,.func (W.fnOf "scaled" "scaled" (defArgs zey) (defBody zey) (defScope zey) .none kV_33 dc_33 pm_33 an_33 cd_33 ct_33),sl_33⟩)
  (uf:W.codeIn K cd_33 "scaled" = true)
  (ug:W.keepIn K (.ref f_33)=true)
  (uh:W.nsIn K mainGlobals "first_term" = some (some (.ref f_34)))
  (ui:K.lookup f_34=some ⟨oc_34,od_34,.func (W.fnOf "first_term" "first_term" (defArgs zcw) (defBody zcw) (defScope zcw) .none kV_34 dc_34 pm_34 an_34 cd_34 ct_34),sl_34⟩)
  (uj:W.codeIn K cd_34 "first_term" = true)
  (ul:W.keepIn K (.ref f_34)=true)
  (bo:W.findIn K (.ref zad) "place_of" = some (some (.ref f_35)))
  (uq:W.isFn K (.ref f_35)=true)
  (ur:K.lookup f_35=some ⟨oc_35,od_35,.func (W.fnOf "place_of" "Waiting.place_of" (defArgs za9) (defBody za9) (defScope za9) .none kV_35 dc_35 pm_35 an_35 cd_35 ct_35),sl_35⟩)
  (ut:W.codeIn K cd_35 "Waiting.place_of" = true)
  (uu:W.keepIn K (.ref f_35)=true)
  (bq:W.findIn K (.ref zad) "put" = some (some (.ref f_36)))
  (uv:W.isFn K (.ref f_36)=true)
  (uw:K.lookup f_36=some ⟨oc_36,od_36,.func (W.fnOf "put" "Waiting.put" (defArgs zcj) (defBody zcj) (defScope zcj) .none kV_36 dc_36 pm_36 an_36 cd_36 ct_36),sl_36⟩)
  (ux:W.codeIn K cd_36 "Waiting.put" = true)
  (uz:W.keepIn K (.ref f_36)=true)
  (br:W.findIn K (.ref zad) "__init__" = some (some (.ref f_37)))
  (u4:W.isFn K (.ref f_37)=true)
  (u6:K.lookup f_37=some ⟨oc_37,od_37,.func (W.fnOf "__init__" "Waiting.__init__" (defArgs za8) (defBody za8) (defScope za8) .none kV_37 dc_37 pm_37 an_37 cd_37 ct_37),sl_37⟩)
  (u7:W.codeIn K cd_37 "Waiting.__init__" = true)
  (u8:W.keepIn K (.ref f_37)=true)
  (bv:W.findIn K (.ref zad) "is_empty" = some (some (.ref f_38)))
  (u9:W.isFn K (.ref f_38)=true)
  (vb:K.lookup f_38=some ⟨oc_38,od_38,.func (W.fnOf "is_empty" "Waiting.is_empty" (defArgs za5) (defBody za5) (defScope za5) .none kV_38 dc_38 pm_38 an_38 cd_38 ct_38),sl_38⟩)
  (vc:W.codeIn K cd_38 "Waiting.is_empty" = true)
  (ve:W.keepIn K (.ref f_38)=true)
  (bw:W.findIn K (.ref zad) "taken" = some (some (.ref f_39)))
  (vf:W.isFn K (.ref f_39)=true)
  (vg:K.lookup f_39=some ⟨oc_39,od_39,.func (W.fnOf "taken" "Waiting.taken" (defArgs zbw) (defBody zbw) (defScope zbw) .none kV_39 dc_39 pm_39 an_39 cd_39 ct_39),sl_39⟩)
  (vi:W.codeIn K cd_39 "Waiting.taken" = true)
  (vj:W.keepIn K (.ref f_39)=true)
  (fu:W.findIn K (.ref zan) "__init__" = some (some (.ref f_40)))
  (vk:W.isFn K (.ref f_40)=true)
  (vm:K.lookup f_40=some ⟨oc_40,od_40,.func (W.fnOf "__init__" "Leads.__init__" (defArgs zbl) (defBody zbl) (defScope zbl) .none kV_40 dc_40 pm_40 an_40 cd_40 ct_40),sl_40⟩)
  (vo:W.codeIn K cd_40 "Leads.__init__" = true)
  (vt:W.keepIn K (.ref f_40)=true)
  (fv:W.findIn K (.ref zan) "fitting" = some (some (.ref f_41)))
  (vw:W.isFn K (.ref f_41)=true)
  (vz:K.lookup f_41=some ⟨oc_41,od_41,.func (W.fnOf "fitting" "Leads.fitting" (defArgs zbs) (defBody zbs) (defScope zbs) .none kV_41 dc_41 pm_41 an_41 cd_41 ct_41),sl_41⟩)
  (wc:W.codeIn K cd_41 "Leads.fitting" = true)
  (wd:W.keepIn K (.ref f_41)=true)
  (we:W.nsIn K mainGlobals "divided" = some (some (.ref f_42)))
  (wf:K.lookup f_42=some ⟨oc_42,od_42,.func (W.fnOf "divided" "divided" (defArgs zd8) (defBody zd8) (defScope zd8) .none kV_42 dc_42 pm_42 an_42 cd_42 ct_42),sl_42⟩)
  (wg:W.codeIn K cd_42 "divided" = true)
  (wj:W.keepIn K (.ref f_42)=true)
  (wk:W.nsIn K mainGlobals "brought_down" = some (some (.ref f_43)))
  (wl:K.lookup f_43=some ⟨oc_43,od_43,.func (W.fnOf "brought_down" "brought_down" (defArgs zb6) (defBody zb6) (defScope zb6) .none kV_43 dc_43 pm_43 an_43 cd_43 ct_43),sl_43⟩)
  (wm:W.codeIn K cd_43 "brought_down" = true)
  (wo:W.keepIn K (.ref f_43)=true)
  (wq:W.nsIn K mainGlobals "_law_cell_at" = some (some (.ref f_44)))
  (wr:K.lookup f_44=some ⟨oc_44,od_44,.func (W.fnOf "_law_cell_at" "_law_cell_at" (defArgs zb7) (defBody zb7) (defScope zb7) .none kV_44 dc_44 pm_44 an_44 cd_44 ct_44),sl_44⟩)
  (wu:W.codeIn K cd_44 "_law_cell_at" = true)
  (wv:W.keepIn K (.ref f_44)=true)
  (ww:W.nsIn K mainGlobals "_law_gcd" = some (some (.ref f_45)))
  (wy:K.lookup f_45=some ⟨oc_45,od_45,.func (W.fnOf "_law_gcd" "_law_gcd" (defArgs zdr) (defBody zdr) (defScope zdr) .none kV_45 dc_45 pm_45 an_45 cd_45 ct_45),sl_45⟩)
  (wz:W.codeIn K cd_45 "_law_gcd" = true)
  (w4:W.keepIn K (.ref f_45)=true)
  (w6:W.nsIn K mainGlobals "_law_norm" = some (some (.ref f_46)))
  (xa:K.lookup f_46=some ⟨oc_46,od_46,.func (W.fnOf "_law_norm" "_law_norm" (defArgs zdf) (defBody zdf) (defScope zdf) .none kV_46 dc_46 pm_46 an_46 cd_46 ct_46),sl_46⟩)
  (xc:W.codeIn K cd_46 "_law_norm" = true)
  (xf:W.keepIn K (.ref f_46)=true)
  (xg:W.nsIn K mainGlobals "_law_times" = some (some (.ref f_47)))
  (xh:K.lookup f_47=some ⟨oc_47,od_47,.func (W.fnOf "_law_times" "_law_times" (defArgs zc0) (defBody zc0) (defScope zc0) .none kV_47 dc_47 pm_47 an_47 cd_47 ct_47),sl_47⟩)
  (xi:W.codeIn K cd_47 "_law_times" = true)
  (xj:W.keepIn K (.ref f_47)=true)
  (xl:W.nsIn K mainGlobals "_law_plus" = some (some (.ref f_48)))
  (xm:K.lookup f_48=some ⟨oc_48,od_48,.func (W.fnOf "_law_plus" "_law_plus" (defArgs zde) (defBody zde) (defScope zde) .none kV_48 dc_48 pm_48 an_48 cd_48 ct_48),sl_48⟩)
  (xn:W.codeIn K cd_48 "_law_plus" = true)
  (xo:W.keepIn K (.ref f_48)=true)
  (xp:W.nsIn K mainGlobals "_law_nought" = some (some (.ref f_49)))
  (xr:K.lookup f_49=some ⟨oc_49,od_49,.func (W.fnOf "_law_nought" "_law_nought" (defArgs zcm) (defBody zcm) (defScope zcm) .none kV_49 dc_49 pm_49 an_49 cd_49 ct_49),sl_49⟩)
  (xt:W.codeIn K cd_49 "_law_nought" = true)
  (xu:W.keepIn K (.ref f_49)=true)
  (xw:W.nsIn K mainGlobals "_law_one" = some (some (.ref f_50)))
  (xx:K.lookup f_50=some ⟨oc_50,od_50,.func (W.fnOf "_law_one" "_law_one" (defArgs zds) (defBody zds) (defScope zds) .none kV_50 dc_50 pm_50 an_50 cd_50 ct_50),sl_50⟩)
  (xz:W.codeIn K cd_50 "_law_one" = true)
  (x2:W.keepIn K (.ref f_50)=true)
  (x3:W.nsIn K mainGlobals "_law_some" = some (some (.ref f_51)))
  (x4:K.lookup f_51=some ⟨oc_51,od_51,.func (W.fnOf "_law_some" "_law_some" (defArgs zdg) (defBody zdg) (defScope zdg) .none kV_51 dc_51 pm_51 an_51 cd_51 ct_51),sl_51⟩)
  (x5:W.codeIn K cd_51 "_law_some" = true)
  (x6:W.keepIn K (.ref f_51)=true)
  (x8:W.nsIn K mainGlobals "_law_prime" = some (some (.ref f_52)))
  (x9:K.lookup f_52=some ⟨oc_52,od_52,.func (W.fnOf "_law_prime" "_law_prime" (defArgs zcr) (defBody zcr) (defScope zcr) .none kV_52 dc_52 pm_52 an_52 cd_52 ct_52),sl_52⟩)
  (ya:W.codeIn K cd_52 "_law_prime" = true)
  (yb:W.keepIn K (.ref f_52)=true)
  (yc:W.nsIn K mainGlobals "_law_rests" = some (some (.ref f_53)))
  (yd:K.lookup f_53=some ⟨oc_53,od_53,.func (W.fnOf "_law_rests" "_law_rests" (defArgs zct) (defBody zct) (defScope zct) .none kV_53 dc_53 pm_53 an_53 cd_53 ct_53),sl_53⟩)
  (ye:W.codeIn K cd_53 "_law_rests" = true)
  (yf:W.keepIn K (.ref f_53)=true)
  (yg:W.nsIn K mainGlobals "_law_whole" = some (some (.ref f_54)))
  (yh:K.lookup f_54=some ⟨oc_54,od_54,.func (W.fnOf "_law_whole" "_law_whole" (defArgs zc2) (defBody zc2) (defScope zc2) .none kV_54 dc_54 pm_54 an_54 cd_54 ct_54),sl_54⟩)
  (yi:W.codeIn K cd_54 "_law_whole" = true)
  (yj:W.keepIn K (.ref f_54)=true)
  (yk:W.nsIn K mainGlobals "_law_is_number" = some (some (.ref f_55)))
  (yl:K.lookup f_55=some ⟨oc_55,od_55,.func (W.fnOf "_law_is_number" "_law_is_number" (defArgs zbk) (defBody zbk) (defScope zbk) .none kV_55 dc_55 pm_55 an_55 cd_55 ct_55),sl_55⟩)
  (ym:W.codeIn K cd_55 "_law_is_number" = true)
  (yn:W.keepIn K (.ref f_55)=true)
  (yo:W.nsIn K mainGlobals "_law_is_poly" = some (some (.ref f_56)))
  (yq:K.lookup f_56=some ⟨oc_56,od_56,.func (W.fnOf "_law_is_poly" "_law_is_poly" (defArgs zcc) (defBody zcc) (defScope zcc) .none kV_56 dc_56 pm_56 an_56 cd_56 ct_56),sl_56⟩)
  (yr:W.codeIn K cd_56 "_law_is_poly" = true)
  (yt:W.keepIn K (.ref f_56)=true)
  (yu:W.nsIn K mainGlobals "_law_are_polys" = some (some (.ref f_57)))
  (yw:K.lookup f_57=some ⟨oc_57,od_57,.func (W.fnOf "_law_are_polys" "_law_are_polys" (defArgs zbm) (defBody zbm) (defScope zbm) .none kV_57 dc_57 pm_57 an_57 cd_57 ct_57),sl_57⟩)
  (yx:W.codeIn K cd_57 "_law_are_polys" = true)
  (yz:W.keepIn K (.ref f_57)=true)
  (y3:W.nsIn K mainGlobals "_law_field" = some (some (.ref f_58)))
  (y4:K.lookup f_58=some ⟨oc_58,od_58,.func (W.fnOf "_law_field" "_law_field" (defArgs zcs) (defBody zcs) (defScope zcs) .none kV_58 dc_58 pm_58 an_58 cd_58 ct_58),sl_58⟩)
  (y6:W.codeIn K cd_58 "_law_field" = true)
  (y8:W.keepIn K (.ref f_58)=true)
  (y9:W.nsIn K mainGlobals "_law_order" = some (some (.ref f_59)))
  (zc:K.lookup f_59=some ⟨oc_59,od_59,.func (W.fnOf "_law_order" "_law_order" (defArgs zcq) (defBody zcq) (defScope zcq) .none kV_59 dc_59 pm_59 an_59 cd_59 ct_59),sl_59⟩)
  (zd:W.codeIn K cd_59 "_law_order" = true)
  (ze:W.keepIn K (.ref f_59)=true)
  (zf:W.nsIn K mainGlobals "_law_copies" = some (some (.ref f_60)))
  (zg:K.lookup f_60=some ⟨oc_60,od_60,.func (W.fnOf "_law_copies" "_law_copies" (defArgs zck) (defBody zck) (defScope zck) .none kV_60 dc_60 pm_60 an_60 cd_60 ct_60),sl_60⟩)
  (zh:W.codeIn K cd_60 "_law_copies" = true)
  (zi:W.keepIn K (.ref f_60)=true)
  (zj:W.nsIn K mainGlobals "_law_add" = some (some (.ref f_61)))
  (zk:K.lookup f_61=some ⟨oc_61,od_61,.func (W.fnOf "_law_add" "_law_add" (defArgs zdt) (defBody zdt) (defScope zdt) .none kV_61 dc_61 pm_61 an_61 cd_61 ct_61),sl_61⟩)
  (zm:W.codeIn K cd_61 "_law_add" = true)
  (zo:W.keepIn K (.ref f_61)=true)
  (zq:W.nsIn K mainGlobals "_law_drawn" = some (some (.ref f_62)))
  (zt:K.lookup f_62=some ⟨oc_62,od_62,.func (W.fnOf "_law_drawn" "_law_drawn" (defArgs zcy) (defBody zcy) (defScope zcy) .none kV_62 dc_62 pm_62 an_62 cd_62 ct_62),sl_62⟩)
  (zu:W.codeIn K cd_62 "_law_drawn" = true)
  (zw:W.keepIn K (.ref f_62)=true)
  (zx:W.nsIn K mainGlobals "_law_by_powers" = some (some (.ref f_63)))
  (zy:K.lookup f_63=some ⟨oc_63,od_63,.func (W.fnOf "_law_by_powers" "_law_by_powers" (defArgs zbf) (defBody zbf) (defScope zbf) .none kV_63 dc_63 pm_63 an_63 cd_63 ct_63),sl_63⟩)
  (zz:W.codeIn K cd_63 "_law_by_powers" = true)
  (z9:W.keepIn K (.ref f_63)=true)
  (zv8:W.nsIn K mainGlobals "_law_divisor" = some (some (.ref f_64)))
  (zv9:K.lookup f_64=some ⟨oc_64,od_64,.func (W.fnOf "_law_divisor" "_law_divisor" (defArgs zb4) (defBody zb4) (defScope zb4) .none kV_64 dc_64 pm_64 an_64 cd_64 ct_64),sl_64⟩)
  (zwa:W.codeIn K cd_64 "_law_divisor" = true)
  (zwb:W.keepIn K (.ref f_64)=true)
  (zwc:W.nsIn K mainGlobals "law" = some (some (.ref f_65)))
  (zwd:K.lookup f_65=some ⟨oc_65,od_65,.func (W.fnOf "law" "law" (defArgs zhv) (defBody zhv) (defScope zhv) .none kV_65 dc_65 pm_65 an_65 cd_65 ct_65),sl_65⟩)
  (zwe:W.codeIn K cd_65 "law" = true)
  (zwf:W.keepIn K (.ref f_65)=true)
  (jp:W.nsIn K mainGlobals "NoLead" = some (some (.ref zei)))
  (gn:ExcBaseFacts B_NoLead nid_NoLead ini_NoLead bm_NoLead)
  (gq:W.excIn K zei bm_NoLead nid_NoLead=true)
  (gr:W.exmOne K (.ref zei) (.ref zei)=some true)
  (gt:W.nsIn K mainGlobals "NoOrder" = some (some (.ref zc9)))
  (fw:ExcBaseFacts B_NoOrder nid_NoOrder ini_NoOrder bm_NoOrder)
  (fy:W.excIn K zc9 bm_NoOrder nid_NoOrder=true)
  (f6:W.exmOne K (.ref zc9) (.ref zc9)=some true)
  (jt:W.nsIn K mainGlobals "NoOver" = some (some (.ref zbr)))
  (gu:ExcBaseFacts B_NoOver nid_NoOver ini_NoOver bm_NoOver)
  (gv:W.excIn K zbr bm_NoOver nid_NoOver=true)
  (gw:W.exmOne K (.ref zbr) (.ref zbr)=some true)
  (gx:W.nsIn K mainGlobals "NoPrime" = some (some (.ref zda)))
  (gc:ExcBaseFacts B_NoPrime nid_NoPrime ini_NoPrime bm_NoPrime)
  (gf:W.excIn K zda bm_NoPrime nid_NoPrime=true)
  (gg:W.exmOne K (.ref zda) (.ref zda)=some true)
  (ju:W.nsIn K mainGlobals "NoRing" = some (some (.ref zdi)))
  (gz:ExcBaseFacts B_NoRing nid_NoRing ini_NoRing bm_NoRing)
  (h7:W.excIn K zdi bm_NoRing nid_NoRing=true)
  (h8:W.exmOne K (.ref zdi) (.ref zdi)=some true)
  (jv:W.nsIn K mainGlobals "NoTerm" = some (some (.ref za0)))
  (h9:ExcBaseFacts B_NoTerm nid_NoTerm ini_NoTerm bm_NoTerm)
  (ie:W.excIn K za0 bm_NoTerm nid_NoTerm=true)
  (ig:W.exmOne K (.ref za0) (.ref za0)=some true)
  (lg:W.kitOne K (.type "int") (.type "int")=some true)
  (ln:W.kitOne K (.type "int") (.type "bool")=some false)
  (lr:W.kitOne K (.type "tuple") (.type "tuple")=some true)
  (lz:W.kitOne K (.type "dict") (.type "dict")=some true)
  (l6:W.kitOne K (.type "list") (.type "list")=some true)
  (l7:W.nsIn K mainGlobals "abs" = some none)
  (l8:W.nsIn K mainGlobals "all" = some none)
  (l9:W.nsIn K mainGlobals "any" = some none)
  (kh:W.nsIn K mainGlobals "bool" = some none)
  (ki:W.nsIn K mainGlobals "dict" = some none)
  (b9:W.nsIn K mainGlobals "enumerate" = some none)
  (ma:W.nsIn K mainGlobals "int" = some none)
  (b6:W.nsIn K mainGlobals "isinstance" = some none)
  (mf:W.nsIn K mainGlobals "len" = some none)
  (kl:W.nsIn K mainGlobals "list" = some none)
  (mh:W.nsIn K mainGlobals "max" = some none)
  (kc:W.nsIn K mainGlobals "range" = some none)
  (gh:W.nsIn K mainGlobals "reversed" = some none)
  (mi:W.nsIn K mainGlobals "sum" = some none)
  (ke:W.nsIn K mainGlobals "tuple" = some none)
  (mj:W.nsIn K mainGlobals "zip" = some none)
  (ah:W.nsIn K mainGlobals "GREATEST_PRIME" = some (some (.int 9973 tg_GREATEST_PRIME)))
  (ii:W.nsIn K mainGlobals "LETTERS" = some (some (.str "xyzt" tg_LETTERS)))
  : ∃fd:FuncData,(∀(s:Shared) (v:Value),BindsTo s fd ⟨[v],[]⟩ [("_law_script",v)])/\∀base:Heap,K.In base->base.Ns mainGlobals mg->FnOk l.prog w K mg base CX0 17 fa fd ["_law_script"] (spLaw K):=by
 have e:=hfa.symm.trans (W.mg_of X G zwc)
 cases e
 have T:Txt K mg zap zab zai zal zae zam zac zad zan:=⟨W.mg_none_of X G l7,W.mg_none_of X G l8,W.mg_none_of X G l9,W.mg_none_of X G kh,W.mg_none_of X G ki,W.mg_none_of X G b9,W.mg_none_of X G ma,W.mg_none_of X G b6,W.mg_none_of X G mf,W.mg_none_of X G kl,W.mg_none_of X G mh,W.mg_none_of X G kc,W.mg_none_of X G gh,W.mg_none_of X G mi,W.mg_none_of X G ke,W.mg_none_of X G mj,⟨jw,jx,jy,j3⟩,W.mg_of X G kf,ay,am,ao,⟨a5,a6,a7,a8⟩,W.mg_of X G b8,ac,⟨ij,il,io,ip⟩,W.mg_of X G j6,ai,⟨iu,iw,iz,i0⟩,W.mg_of X G j7,⟨i7,i8,i9⟩,⟨ca,cb,cf,cg⟩,W.mg_of X G gi,⟨ci,cj,ck⟩,⟨ja,jb,jc,jd⟩,W.mg_of X G j8,⟨je,jf,jg⟩,⟨cn,cq,cr,cu⟩,W.mg_of X G gj,ad,⟨cx,cy,cz,dg⟩,W.mg_of X G gk,ae,af,ag,⟨jh,ji,jk,jm⟩,W.mg_of X G j9,aj,⟨_,W.mg_of X G ah⟩,⟨_,W.mg_of X G ii⟩,lg,ln,lr,lz,l6⟩
 have F_0:=zar (st:=zbg) zwh zwi
 have b_0:=F_0.binds (ps:=["one","other"]) λ_ _ _ _ _ _ us hl=>match us,hl with | [_,_],_=>rfl
 have F_1:=zar (st:=zdu) zwl zwm
 have b_1:=F_1.binds (ps:=["number"]) λ_ _ _ _ _ _ us hl=>match us,hl with | [_],_=>rfl
 have F_2:=zar (st:=zbo) zwp zwq
 have b_2:=F_2.binds (ps:=["self","prime"]) λ_ _ _ _ _ _ us hl=>match us,hl with | [_,_],_=>rfl
 have F_3:=zar (st:=za2) zwt zwu
 have b_3:=F_3.binds (ps:=["self"]) λ_ _ _ _ _ _ us hl=>match us,hl with | [_],_=>rfl
 have F_4:=zar (st:=zba) zwx zwy
 have b_4:=F_4.binds (ps:=["self"]) λ_ _ _ _ _ _ us hl=>match us,hl with | [_],_=>rfl
 have F_5:=zar (st:=zbv) zw1 zw2
 have b_5:=F_5.binds (ps:=["self"]) λ_ _ _ _ _ _ us hl=>match us,hl with | [_],_=>rfl
 have F_6:=zar (st:=zbj) zw5 zw7
 have b_6:=F_6.bindsD (ps:=["self","top","bottom"]) (ds:=[]) zw6 rfl λ_ _ _ _ _ _ us hl=>by
  have hl:us.length=3:=by simpa using hl
  exact match us,hl with | [_,_,_],_=>⟨_,rfl,rfl⟩
 have bd_6:=F_6.bindsD (ps:=["self","top","bottom"]) (ds:=[.int 1 tk_6]) zw6 rfl λ_ _ _ _ _ _ us hl=>by
  have hl:us.length=2:=by simpa using hl
  exact match us,hl with | [_,_],_=>⟨_,rfl,rfl⟩
 have F_7:=zar (st:=zbi) zxa zxb
 have b_7:=F_7.binds (ps:=["self","a","b"]) λ_ _ _ _ _ _ us hl=>match us,hl with | [_,_,_],_=>rfl
 have F_8:=zar (st:=zbd) zxe zxf
 have b_8:=F_8.binds (ps:=["self","a","b"]) λ_ _ _ _ _ _ us hl=>match us,hl with | [_,_,_],_=>rfl
 have F_9:=zar (st:=za4) zxi zxj
 have b_9:=F_9.binds (ps:=["self","a"]) λ_ _ _ _ _ _ us hl=>match us,hl with | [_,_],_=>rfl
 have F_10:=zar (st:=za7) mt mv
 have b_10:=F_10.binds (ps:=["self","a"]) λ_ _ _ _ _ _ us hl=>match us,hl with | [_,_],_=>rfl
 have F_11:=zar (st:=zbz) mz m6
 have b_11:=F_11.binds (ps:=["self","a","b"]) λ_ _ _ _ _ _ us hl=>match us,hl with | [_,_,_],_=>rfl
 have F_12:=zar (st:=zbh) m9 ng
 have b_12:=F_12.binds (ps:=["self","prime"]) λ_ _ _ _ _ _ us hl=>match us,hl with | [_,_],_=>rfl
 have F_13:=zar (st:=zb5) nk nr
 have b_13:=F_13.binds (ps:=["self"]) λ_ _ _ _ _ _ us hl=>match us,hl with | [_],_=>rfl
 have F_14:=zar (st:=zdb) n6 n8
 have b_14:=F_14.binds (ps:=["self"]) λ_ _ _ _ _ _ us hl=>match us,hl with | [_],_=>rfl
 have F_15:=zar (st:=zcz) oj ot
 have b_15:=F_15.binds (ps:=["self","a","b"]) λ_ _ _ _ _ _ us hl=>match us,hl with | [_,_,_],_=>rfl
 have F_16:=zar (st:=zcn) ox oy
 have b_16:=F_16.binds (ps:=["self","a","b"]) λ_ _ _ _ _ _ us hl=>match us,hl with | [_,_,_],_=>rfl
 have F_17:=zar (st:=zbx) o3 o4
 have b_17:=F_17.binds (ps:=["self","a"]) λ_ _ _ _ _ _ us hl=>match us,hl with | [_,_],_=>rfl
 have F_18:=zar (st:=zb8) o7 o8
 have b_18:=F_18.binds (ps:=["self","a"]) λ_ _ _ _ _ _ us hl=>match us,hl with | [_,_],_=>rfl
 have F_19:=zar (st:=ze4) ph pj
 have b_19:=F_19.binds (ps:=["term"]) λ_ _ _ _ _ _ us hl=>match us,hl with | [_],_=>rfl
 have F_20:=zar (st:=zc1) p6 p7
 have b_20:=F_20.binds (ps:=["self","term"]) λ_ _ _ _ _ _ us hl=>match us,hl with | [_,_],_=>rfl
 have F_21:=zar (st:=zb9) qe qg
 have b_21:=F_21.binds (ps:=["self","term"]) λ_ _ _ _ _ _ us hl=>match us,hl with | [_,_],_=>rfl
 have F_22:=zar (st:=zcx) qk qm
 have b_22:=F_22.binds (ps:=["self","term"]) λ_ _ _ _ _ _ us hl=>match us,hl with | [_,_],_=>rfl
 have F_23:=zar (st:=za6) qr qu
 have b_23:=F_23.binds (ps:=["self","weights"]) λ_ _ _ _ _ _ us hl=>match us,hl with | [_,_],_=>rfl
 have F_24:=zar (st:=zcb) qx qy
 have b_24:=F_24.binds (ps:=["self","term"]) λ_ _ _ _ _ _ us hl=>match us,hl with | [_,_],_=>rfl
 have F_25:=zar (st:=zcv) rf rg
 have b_25:=F_25.binds (ps:=["self","many"]) λ_ _ _ _ _ _ us hl=>match us,hl with | [_,_],_=>rfl
 have F_26:=zar (st:=zca) rl rm
 have b_26:=F_26.binds (ps:=["self","many"]) λ_ _ _ _ _ _ us hl=>match us,hl with | [_,_],_=>rfl
 have F_27:=zar (st:=zbn) r9 se
 have b_27:=F_27.binds (ps:=["self","terms"]) λ_ _ _ _ _ _ us hl=>match us,hl with | [_,_],_=>rfl
 have F_28:=zar (st:=zbu) sj sk
 have b_28:=F_28.binds (ps:=["self","many","field","order"]) λ_ _ _ _ _ _ us hl=>match us,hl with | [_,_,_,_],_=>rfl
 have F_29:=zar (st:=zd9) sw sx
 have b_29:=F_29.binds (ps:=["one","other"]) λ_ _ _ _ _ _ us hl=>match us,hl with | [_,_],_=>rfl
 have F_30:=zar (st:=zdc) tj tm
 have b_30:=F_30.binds (ps:=["one","other"]) λ_ _ _ _ _ _ us hl=>match us,hl with | [_,_],_=>rfl
 have F_31:=zar (st:=zdd) t3 t6
 have b_31:=F_31.binds (ps:=["one","other"]) λ_ _ _ _ _ _ us hl=>match us,hl with | [_,_],_=>rfl
 have F_32:=zar (st:=ze3) t9 ua
 have b_32:=F_32.binds (ps:=["ring","total","f"]) λ_ _ _ _ _ _ us hl=>match us,hl with | [_,_,_],_=>rfl
 have F_33:=zar (st:=zey) ue uf
 have b_33:=F_33.binds (ps:=["ring","number","term","f"]) λ_ _ _ _ _ _ us hl=>match us,hl with | [_,_,_,_],_=>rfl
 have F_34:=zar (st:=zcw) ui uj
 have b_34:=F_34.binds (ps:=["ring","f"]) λ_ _ _ _ _ _ us hl=>match us,hl with | [_,_],_=>rfl
 have F_35:=zar (st:=za9) ur ut
 have b_35:=F_35.binds (ps:=["self","rank"]) λ_ _ _ _ _ _ us hl=>match us,hl with | [_,_],_=>rfl
 have F_36:=zar (st:=zcj) uw ux
 have b_36:=F_36.binds (ps:=["self","terms"]) λ_ _ _ _ _ _ us hl=>match us,hl with | [_,_],_=>rfl
 have F_37:=zar (st:=za8) u6 u7
 have b_37:=F_37.binds (ps:=["self","order","terms"]) λ_ _ _ _ _ _ us hl=>match us,hl with | [_,_,_],_=>rfl
 have F_38:=zar (st:=za5) vb vc
 have b_38:=F_38.binds (ps:=["self"]) λ_ _ _ _ _ _ us hl=>match us,hl with | [_],_=>rfl
 have F_39:=zar (st:=zbw) vg vi
 have b_39:=F_39.binds (ps:=["self"]) λ_ _ _ _ _ _ us hl=>match us,hl with | [_],_=>rfl
 have F_40:=zar (st:=zbl) vm vo
 have b_40:=F_40.binds (ps:=["self","ring","row"]) λ_ _ _ _ _ _ us hl=>match us,hl with | [_,_,_],_=>rfl
 have F_41:=zar (st:=zbs) vz wc
 have b_41:=F_41.binds (ps:=["self","term"]) λ_ _ _ _ _ _ us hl=>match us,hl with | [_,_],_=>rfl
 have F_42:=zar (st:=zd8) wf wg
 have b_42:=F_42.binds (ps:=["ring","f","row"]) λ_ _ _ _ _ _ us hl=>match us,hl with | [_,_,_],_=>rfl
 have F_43:=zar (st:=zb6) wl wm
 have b_43:=F_43.binds (ps:=["ring","f","row"]) λ_ _ _ _ _ _ us hl=>match us,hl with | [_,_,_],_=>rfl
 have F_44:=zar (st:=zb7) wr wu
 have b_44:=F_44.binds (ps:=["_law_script","_law_k"]) λ_ _ _ _ _ _ us hl=>match us,hl with | [_,_],_=>rfl
 have F_45:=zar (st:=zdr) wy wz
 have b_45:=F_45.binds (ps:=["_law_one_here","_law_other"]) λ_ _ _ _ _ _ us hl=>match us,hl with | [_,_],_=>rfl
 have F_46:=zar (st:=zdf) xa xc
 have b_46:=F_46.binds (ps:=["_law_p","_law_top","_law_bottom"]) λ_ _ _ _ _ _ us hl=>match us,hl with | [_,_,_],_=>rfl
 have F_47:=zar (st:=zc0) xh xi
 have b_47:=F_47.binds (ps:=["_law_p","_law_one_here","_law_other"]) λ_ _ _ _ _ _ us hl=>match us,hl with | [_,_,_],_=>rfl
 have F_48:=zar (st:=zde) xm xn
 have b_48:=F_48.binds (ps:=["_law_p","_law_one_here","_law_other"]) λ_ _ _ _ _ _ us hl=>match us,hl with | [_,_,_],_=>rfl
 have F_49:=zar (st:=zcm) xr xt
 have b_49:=F_49.binds (ps:=["_law_p"]) λ_ _ _ _ _ _ us hl=>match us,hl with | [_],_=>rfl
 have F_50:=zar (st:=zds) xx xz
 have b_50:=F_50.binds (ps:=["_law_p"]) λ_ _ _ _ _ _ us hl=>match us,hl with | [_],_=>rfl
 have F_51:=zar (st:=zdg) x4 x5
 have b_51:=F_51.binds (ps:=["_law_p","_law_cell"]) λ_ _ _ _ _ _ us hl=>match us,hl with | [_,_],_=>rfl
 have F_52:=zar (st:=zcr) x9 ya
 have b_52:=F_52.binds (ps:=["_law_cell"]) λ_ _ _ _ _ _ us hl=>match us,hl with | [_],_=>rfl
 have F_53:=zar (st:=zct) yd ye
 have b_53:=F_53.binds (ps:=["_law_cell"]) λ_ _ _ _ _ _ us hl=>match us,hl with | [_],_=>rfl
 have F_54:=zar (st:=zc2) yh yi
 have b_54:=F_54.binds (ps:=["_law_found"]) λ_ _ _ _ _ _ us hl=>match us,hl with | [_],_=>rfl
 have F_55:=zar (st:=zbk) yl ym
 have b_55:=F_55.binds (ps:=["_law_p","_law_found"]) λ_ _ _ _ _ _ us hl=>match us,hl with | [_,_],_=>rfl
 have F_56:=zar (st:=zcc) yq yr
 have b_56:=F_56.binds (ps:=["_law_p","_law_many","_law_found"]) λ_ _ _ _ _ _ us hl=>match us,hl with | [_,_,_],_=>rfl
 have F_57:=zar (st:=zbm) yw yx
 have b_57:=F_57.binds (ps:=["_law_p","_law_many","_law_count","_law_found"]) λ_ _ _ _ _ _ us hl=>match us,hl with | [_,_,_,_],_=>rfl
 have F_58:=zar (st:=zcs) y4 y6
 have b_58:=F_58.binds (ps:=["_law_p"]) λ_ _ _ _ _ _ us hl=>match us,hl with | [_],_=>rfl
 have F_59:=zar (st:=zcq) zc zd
 have b_59:=F_59.binds (ps:=["_law_kind","_law_weights"]) λ_ _ _ _ _ _ us hl=>match us,hl with | [_,_],_=>rfl
 have F_60:=zar (st:=zck) zg zh
 have b_60:=F_60.binds (ps:=["_law_row"]) λ_ _ _ _ _ _ us hl=>match us,hl with | [_],_=>rfl
 have F_61:=zar (st:=zdt) zk zm
 have b_61:=F_61.binds (ps:=["_law_p","_law_total","_law_number","_law_term","_law_f"]) λ_ _ _ _ _ _ us hl=>match us,hl with | [_,_,_,_,_],_=>rfl
 have F_62:=zar (st:=zcy) zt zu
 have b_62:=F_62.binds (ps:=["_law_p","_law_cell"]) λ_ _ _ _ _ _ us hl=>match us,hl with | [_,_],_=>rfl
 have F_63:=zar (st:=zbf) zy zz
 have b_63:=F_63.binds (ps:=["_law_p","_law_numbers"]) λ_ _ _ _ _ _ us hl=>match us,hl with | [_,_],_=>rfl
 have F_64:=zar (st:=zb4) zv9 zwa
 have b_64:=F_64.binds (ps:=["_law_p","_law_number","_law_spot"]) λ_ _ _ _ _ _ us hl=>match us,hl with | [_,_,_],_=>rfl
 have F_65:=zar (st:=zhv) zwd zwe
 have b_65:=F_65.binds (ps:=["_law_script"]) λ_ _ _ _ _ _ us hl=>match us,hl with | [_],_=>rfl
 refine⟨W.fnOf "law" "law" (defArgs zhv) (defBody zhv) (defScope zhv) .none kV_65 dc_65 pm_65 an_65 cd_65 ct_65,λs v => .of_eq rfl,λbase kb nb => ?_⟩
 have x_NoLead:Exc K mg base "NoLead" zei:=⟨⟨_,_,_,_,zhg kb nb jp gq,gn⟩,W.mg_of X G jp,gr⟩
 have x_NoOrder:Exc K mg base "NoOrder" zc9:=⟨⟨_,_,_,_,zhg kb nb gt fy,fw⟩,W.mg_of X G gt,f6⟩
 have x_NoOver:Exc K mg base "NoOver" zbr:=⟨⟨_,_,_,_,zhg kb nb jt gv,gu⟩,W.mg_of X G jt,gw⟩
 have x_NoPrime:Exc K mg base "NoPrime" zda:=⟨⟨_,_,_,_,zhg kb nb gx gf,gc⟩,W.mg_of X G gx,gg⟩
 have x_NoRing:Exc K mg base "NoRing" zdi:=⟨⟨_,_,_,_,zhg kb nb ju h7,gz⟩,W.mg_of X G ju,h8⟩
 have x_NoTerm:Exc K mg base "NoTerm" za0:=⟨⟨_,_,_,_,zhg kb nb jv ie,h9⟩,W.mg_of X G jv,ig⟩
 have G_Shared:=zl2 (P:=l.prog) (w:=w) (base:=base) F_0 T 
 have c_Shared:Cal _ _ _ _ _ _ _ _ _ _ _:=⟨_,_,G_Shared,b_0,zwj,W.mg_of X G zwg⟩
 have G_Prime:=zph (P:=l.prog) (w:=w) (base:=base) F_1 T 
 have c_Prime:Cal _ _ _ _ _ _ _ _ _ _ _:=⟨_,_,G_Prime,b_1,zwn,W.mg_of X G zwk⟩
 have G_FieldInit:=zi2 (P:=l.prog) (w:=w) (base:=base) F_2 T 
 have q_FieldInit:CCal _ _ _ _ _ _ _ _ _ _ _ _:=⟨_,_,_,G_FieldInit,b_2,⟨⟨_,mn,mo⟩,mq,zwr⟩,W.mg_of X G ml⟩
 have G_FracInit:=zjm (P:=l.prog) (w:=w) (base:=base) F_3 T q_FieldInit 
 have k_FracInit:Mak _ _ _ _ _ _ _ _ _ _ _ _:=⟨⟨_,_,G_FracInit,b_3,⟨a9,ap,zws,ba⟩⟩,T.mg_Fractions⟩
 have G_Nought:=zml (P:=l.prog) (w:=w) (base:=base) F_4 T 
 have mf_Nought:MCal l.prog w K mg base CX0 1 zab "nought" ["self"] [] (spNo 0 0 (AtF zab)):=⟨⟨_,_,((G_Nought).imp zsy).mono (by decide),b_4,⟨aq,zww,zwz⟩⟩,T.cl_Fractions⟩
 have G_One:=zt7 (P:=l.prog) (w:=w) (base:=base) F_5 T 
 have G_Made:=zr8 (P:=l.prog) (w:=w) (base:=base) F_6 T c_Shared x_NoOver 
 have m_Made:MCal _ _ _ _ _ _ _ _ _ _ _ _:=⟨⟨_,_,G_Made,b_6,⟨au,zw4,zw8⟩⟩,T.cl_Fractions⟩
 have G_PlusF:=zp0 (P:=l.prog) (w:=w) (base:=base) F_7 T c_Shared 
 have mf_PlusF:MCal l.prog w K mg base CX0 3 zab "plus" ["self","a","b"] [] (spPl 0 (AtF zab)):=⟨⟨_,_,((G_PlusF).imp zsk).mono (by decide),b_7,⟨av,zw9,zxc⟩⟩,T.cl_Fractions⟩
 have G_TimesF:=zmi (P:=l.prog) (w:=w) (base:=base) F_8 T c_Shared 
 have m_TimesF:MCal _ _ _ _ _ _ _ _ _ _ _ _:=⟨⟨_,_,G_TimesF,b_8,⟨aw,zxd,zxg⟩⟩,T.cl_Fractions⟩
 have mf_TimesF:MCal l.prog w K mg base CX0 3 zab "times" ["self","a","b"] [] (spTi 0 (AtF zab)):=⟨⟨_,_,((G_TimesF).imp ztk).mono (by decide),b_8,⟨aw,zxd,zxg⟩⟩,T.cl_Fractions⟩
 have G_AgF:=zvm (P:=l.prog) (w:=w) (base:=base) F_9 T 
 have mf_AgF:MCal l.prog w K mg base CX0 1 zab "against" ["self","a"] [] (spAg 0 (AtF zab)):=⟨⟨_,_,((G_AgF).imp zs5).mono (by decide),b_9,⟨ax,zxh,zxk⟩⟩,T.cl_Fractions⟩
 have G_TuF:=zt0 (P:=l.prog) (w:=w) (base:=base) F_10 T m_Made 
 have m_TuF:MCal _ _ _ _ _ _ _ _ _ _ _ _:=⟨⟨_,_,G_TuF,b_10,⟨ak,mr,mw⟩⟩,T.cl_Fractions⟩
 have G_OvF:=zvu (P:=l.prog) (w:=w) (base:=base) F_11 T m_TuF m_TimesF 
 have mf_OvF:MCal l.prog w K mg base (CXe l.prog w) 5 zab "over" ["self","a","b"] [] (spOv 0 (AtF zab)):=⟨⟨_,_,((G_OvF).imp zr3).mono (by decide),b_11,⟨al,my,m7⟩⟩,T.cl_Fractions⟩
 have G_RestsInit:=zja (P:=l.prog) (w:=w) (base:=base) F_12 T c_Prime q_FieldInit x_NoPrime 
 have k_RestsInit:Mak _ _ _ _ _ _ _ _ _ _ _ _:=⟨⟨_,_,G_RestsInit,b_12,⟨iq,dt,m8,ir⟩⟩,T.mg_Rests⟩
 have G_NoughtR:=zle (P:=l.prog) (w:=w) (base:=base) F_13 T 
 have mf_NoughtR:∀n:Int,K3.Pr n->MCal l.prog w K mg base CX0 1 zai "nought" ["self"] [] (spNo 0 n (AtR zai n)):=λn hn=>⟨⟨_,_,((G_NoughtR).imp (ztp hn (by decide) (by decide))).mono (by decide),b_13,⟨du,ni,nu⟩⟩,T.cl_Rests⟩
 have G_OneR:=zry (P:=l.prog) (w:=w) (base:=base) F_14 T 
 have G_PlusR:=zp9 (P:=l.prog) (w:=w) (base:=base) F_15 T 
 have mf_PlusR:∀n:Int,K3.Pr n->MCal l.prog w K mg base CX0 3 zai "plus" ["self","a","b"] [] (spPl n (AtR zai n)):=λn hn=>⟨⟨_,_,((G_PlusR).imp (zsg hn)).mono (by decide),b_15,⟨dz,oh,ou⟩⟩,T.cl_Rests⟩
 have G_TimesR:=znw (P:=l.prog) (w:=w) (base:=base) F_16 T 
 have m_TimesR:MCal _ _ _ _ _ _ _ _ _ _ _ _:=⟨⟨_,_,G_TimesR,b_16,⟨d5,ow,oz⟩⟩,T.cl_Rests⟩
 have mf_TimesR:∀n:Int,K3.Pr n->MCal l.prog w K mg base CX0 3 zai "times" ["self","a","b"] [] (spTi n (AtR zai n)):=λn hn=>⟨⟨_,_,((G_TimesR).imp (zs1 hn)).mono (by decide),b_16,⟨d5,ow,oz⟩⟩,T.cl_Rests⟩
 have G_AgR:=zvg (P:=l.prog) (w:=w) (base:=base) F_17 T 
 have mf_AgR:∀n:Int,K3.Pr n->MCal l.prog w K mg base CX0 1 zai "against" ["self","a"] [] (spAg n (AtR zai n)):=λn hn=>⟨⟨_,_,((G_AgR).imp (ztg hn)).mono (by decide),b_17,⟨d6,o2,o5⟩⟩,T.cl_Rests⟩
 have G_TuR:=ztx (P:=l.prog) (w:=w) (base:=base) F_18 T x_NoOver 
 have m_TuR:MCal _ _ _ _ _ _ _ _ _ _ _ _:=⟨⟨_,_,G_TuR,b_18,⟨d8,o6,o9⟩⟩,T.cl_Rests⟩
 have G_OvR:=zup (P:=l.prog) (w:=w) (base:=base) F_11 T m_TuR m_TimesR 
 have mf_OvR:∀n:Int,K3.Pr n->MCal l.prog w K mg base (CXe l.prog w) 5 zai "over" ["self","a","b"] [] (spOv n (AtR zai n)):=λn hn=>⟨⟨_,_,((G_OvR).imp (zr4 hn)).mono (by decide),b_11,⟨dm,my,m7⟩⟩,T.cl_Rests⟩
 have hfld:∀n:Int,n<=9973->(n=0\/K3.Pr n)->∃C,FldP l.prog w K mg base C (AtN zab zai n) n:=by
  rintro n n1 (rfl | n2)
  ·exact⟨zab,zur mf_Nought mf_PlusF mf_TimesF mf_AgF mf_OvF⟩
  ·exact⟨zai,zvv n2 (mf_NoughtR n n2) (mf_PlusR n n2) (mf_TimesR n n2) (mf_AgR n n2) (mf_OvR n n2)⟩
 have G_Deg:=zvq (P:=l.prog) (w:=w) (base:=base) F_19 T 
 have c_Deg:Cal _ _ _ _ _ _ _ _ _ _ _:=⟨_,_,G_Deg,b_19,pq,W.mg_of X G pc⟩
 have m_Rank_Order:MCal l.prog w K mg base CX0 3 zal "rank" ["self","term"] [] (spRank (AtO zal) rkL):=⟨⟨_,_,(zqa (P:=l.prog) (w:=w) (base:=base) F_20 T ).mono (by decide),b_20,⟨fg,p0,p9⟩⟩,T.cl_Order⟩
 have bm_Order:BM K zal "rank":=⟨⟨_,fg,⟨ko,kq,by decide⟩⟩⟩
 have m_Rank_Degrees:MCal l.prog w K mg base CX0 3 zae "rank" ["self","term"] [] (spRank (AtO zae) rkD):=⟨⟨_,_,(zpv (P:=l.prog) (w:=w) (base:=base) F_21 T c_Deg).mono (by decide),b_21,⟨bc,qc,qh⟩⟩,T.cl_Degrees⟩
 have bm_Degrees:BM K zae "rank":=⟨⟨_,bc,⟨kr,kt,by decide⟩⟩⟩
 have m_Rank_Tails:MCal l.prog w K mg base CX0 3 zam "rank" ["self","term"] [] (spRank (AtO zam) rkT):=⟨⟨_,_,(zp4 (P:=l.prog) (w:=w) (base:=base) F_22 T c_Deg).mono (by decide),b_22,⟨fi,qj,qo⟩⟩,T.cl_Tails⟩
 have bm_Tails:BM K zam "rank":=⟨⟨_,fi,⟨ku,k6,by decide⟩⟩⟩
 have G_WInit:=zo8 (P:=l.prog) (w:=w) (base:=base) F_23 T x_NoOrder 
 have k_WInit:Mak _ _ _ _ _ _ _ _ _ _ _ _:=⟨⟨_,_,G_WInit,b_23,⟨cv,bd,qp,cw⟩⟩,T.mg_Weights⟩
 have m_Rank_Weights:∀ws:List Int,Nn ws->(∀x∈ws,x < 10 ^ 31)->MCal l.prog w K mg base CX0 3 zac "rank" ["self","term"] [] (spRank (AtW zac ws) (rkW ws)):=λws h1 h2=>⟨⟨_,_,(zp5 (P:=l.prog) (w:=w) (base:=base) F_24 T h1 h2).mono (by decide),b_24,⟨bf,qw,qz⟩⟩,T.cl_Weights⟩
 have bm_Weights:BM K zac "rank":=⟨⟨_,bf,⟨k8,k9,by decide⟩⟩⟩
 have fit_Order:MCal l.prog w K mg base CX0 1 zal "fits" ["self","many"] [] (spFits (AtO zal) λ_=>true):=⟨⟨_,_,zhz (P:=l.prog) (w:=w) (base:=base) (At:=AtO zal) F_25 T,b_25,⟨fj,rc,rh⟩⟩,T.cl_Order⟩
 have fit_Degrees:MCal l.prog w K mg base CX0 1 zae "fits" ["self","many"] [] (spFits (AtO zae) λ_=>true):=⟨⟨_,_,zhz (P:=l.prog) (w:=w) (base:=base) (At:=AtO zae) F_25 T,b_25,⟨bh,rc,rh⟩⟩,T.cl_Degrees⟩
 have fit_Tails:MCal l.prog w K mg base CX0 1 zam "fits" ["self","many"] [] (spFits (AtO zam) λ_=>true):=⟨⟨_,_,zhz (P:=l.prog) (w:=w) (base:=base) (At:=AtO zam) F_25 T,b_25,⟨fk,rc,rh⟩⟩,T.cl_Tails⟩
 have fit_Weights:∀ws:List Int,MCal l.prog w K mg base CX0 1 zac "fits" ["self","many"] [] (spFits (AtW zac ws) λk=>decide ((ws.length:Int)=k)):=λws=>⟨⟨_,_,zql (P:=l.prog) (w:=w) (base:=base) (ws:=ws) F_26 T,b_26,⟨bi,rj,r6⟩⟩,T.cl_Weights⟩
 have first_Order:MCal l.prog w K mg base (CXe l.prog w) 6 zal "first_of" ["self","terms"] [] (spFirst (AtO zal) rkL za0):=⟨⟨_,_,zgd (P:=l.prog) (w:=w) (base:=base) F_27 T x_NoTerm (ordcO _) m_Rank_Order bm_Order,b_27,⟨fm,r8,sf⟩⟩,T.cl_Order⟩
 have first_Degrees:MCal l.prog w K mg base (CXe l.prog w) 6 zae "first_of" ["self","terms"] [] (spFirst (AtO zae) rkD za0):=⟨⟨_,_,zgd (P:=l.prog) (w:=w) (base:=base) F_27 T x_NoTerm (ordcO _) m_Rank_Degrees bm_Degrees,b_27,⟨bj,r8,sf⟩⟩,T.cl_Degrees⟩
 have first_Tails:MCal l.prog w K mg base (CXe l.prog w) 6 zam "first_of" ["self","terms"] [] (spFirst (AtO zam) rkT za0):=⟨⟨_,_,zgd (P:=l.prog) (w:=w) (base:=base) F_27 T x_NoTerm (ordcO _) m_Rank_Tails bm_Tails,b_27,⟨fq,r8,sf⟩⟩,T.cl_Tails⟩
 have first_Weights:∀ws:List Int,Nn ws->(∀x∈ws,x < 10 ^ 31)->MCal l.prog w K mg base (CXe l.prog w) 6 zac "first_of" ["self","terms"] [] (spFirst (AtW zac ws) (rkW ws) za0):=λws h1 h2=>⟨⟨_,_,zgd (P:=l.prog) (w:=w) (base:=base) F_27 T x_NoTerm (ordcW _ _) (m_Rank_Weights ws h1 h2) bm_Weights,b_27,⟨bn,r8,sf⟩⟩,T.cl_Weights⟩
 have hord:∀(kd:Int) (ws:List Int),0<=kd->kd < 4->Nn ws->(∀x∈ws,x < 10 ^ 31)->∃C,OrdP l.prog w K mg base za0 C (AtK zal zae zam zac kd ws) (rkk kd ws) (fbK kd ws):=by
  intro kd ws k0 k4 wn wb
  rcases(by omega:kd=0\/kd=1\/kd=2\/kd=3) with rfl | rfl | rfl | rfl
  ·rw[show rkk 0 ws=rkL from funext λxs=>by unfold rkk;simp,show fbK 0 ws=λ_=>true from funext λm=>by unfold fbK;simp]
   show ∃C,OrdP l.prog w K mg base za0 C (AtO zal) rkL _
   exact⟨zal,ordcO _,fit_Order,m_Rank_Order,first_Order⟩
  ·rw[show rkk 1 ws=rkD from funext λxs=>by unfold rkk;simp,show fbK 1 ws=λ_=>true from funext λm=>by unfold fbK;simp]
   show ∃C,OrdP l.prog w K mg base za0 C (AtO zae) rkD _
   exact⟨zae,ordcO _,fit_Degrees,m_Rank_Degrees,first_Degrees⟩
  ·rw[show rkk 2 ws=rkT from funext λxs=>by unfold rkk;simp,show fbK 2 ws=λ_=>true from funext λm=>by unfold fbK;simp]
   show ∃C,OrdP l.prog w K mg base za0 C (AtO zam) rkT _
   exact⟨zam,ordcO _,fit_Tails,m_Rank_Tails,first_Tails⟩
  ·rw[show rkk 3 ws=rkW ws from funext λxs=>by unfold rkk;simp,show fbK 3 ws=λm=>decide ((ws.length:Int)=m) from funext λm=>by unfold fbK;simp]
   show ∃C,OrdP l.prog w K mg base za0 C (AtW zac ws) (rkW ws) _
   exact⟨zac,ordcW _ _,fit_Weights ws,m_Rank_Weights ws wn wb,first_Weights ws wn wb⟩
 have G_RgInit:=zmr (P:=l.prog) (w:=w) (base:=base) F_28 T x_NoRing hord
 have k_RgInit:Mak _ _ _ _ _ _ _ _ _ _ _ _:=⟨⟨_,_,G_RgInit,b_28,⟨j4,gm,sg,j5⟩⟩,T.mg_Ring⟩
 have G_Prod:=ztf (P:=l.prog) (w:=w) (base:=base) F_29 T 
 have c_Prod:Cal _ _ _ _ _ _ _ _ _ _ _:=⟨_,_,G_Prod,b_29,sy,W.mg_of X G sv⟩
 have G_Goes:=ztm (P:=l.prog) (w:=w) (base:=base) F_30 T 
 have c_Goes:Cal _ _ _ _ _ _ _ _ _ _ _:=⟨_,_,G_Goes,b_30,tw,W.mg_of X G tf⟩
 have G_LeftO:=zo4 (P:=l.prog) (w:=w) (base:=base) F_31 T c_Goes x_NoTerm 
 have c_LeftO:Cal _ _ _ _ _ _ _ _ _ _ _:=⟨_,_,G_LeftO,b_31,t7,W.mg_of X G tz⟩
 have G_Absorb:=zoo (P:=l.prog) (w:=w) (base:=base) F_32 T hfld
 have c_Absorb:Cal _ _ _ _ _ _ _ _ _ _ _:=⟨_,_,G_Absorb,b_32,uc,W.mg_of X G t8⟩
 have G_Scal:=ztl (P:=l.prog) (w:=w) (base:=base) F_33 T c_Prod hfld
 have c_Scal:Cal _ _ _ _ _ _ _ _ _ _ _:=⟨_,_,G_Scal,b_33,ug,W.mg_of X G ud⟩
 have G_FT:=zv2 (P:=l.prog) (w:=w) (base:=base) F_34 T x_NoLead hord
 have c_FT:Cal _ _ _ _ _ _ _ _ _ _ _:=⟨_,_,G_FT,b_34,ul,W.mg_of X G uh⟩
 have G_Place:=zqh (P:=l.prog) (w:=w) (base:=base) F_35 T 
 have m_Place:MCal _ _ _ _ _ _ _ _ _ _ _ _:=⟨⟨_,_,G_Place,b_35,⟨bo,uq,uu⟩⟩,T.cl_Waiting⟩
 have G_Put:=zvi (P:=l.prog) (w:=w) (base:=base) F_36 T m_Place hord
 have m_Put:MCal _ _ _ _ _ _ _ _ _ _ _ _:=⟨⟨_,_,G_Put,b_36,⟨bq,uv,uz⟩⟩,T.cl_Waiting⟩
 have G_WaInit:=zno (P:=l.prog) (w:=w) (base:=base) F_37 T m_Put 
 have k_WaInit:Mak _ _ _ _ _ _ _ _ _ _ _ _:=⟨⟨_,_,G_WaInit,b_37,⟨di,br,u4,dk⟩⟩,T.mg_Waiting⟩
 have G_Emp:=zvr (P:=l.prog) (w:=w) (base:=base) F_38 T 
 have m_Emp:MCal _ _ _ _ _ _ _ _ _ _ _ _:=⟨⟨_,_,G_Emp,b_38,⟨bv,u9,ve⟩⟩,T.cl_Waiting⟩
 have G_Taken:=zqc (P:=l.prog) (w:=w) (base:=base) F_39 T 
 have m_Taken:MCal _ _ _ _ _ _ _ _ _ _ _ _:=⟨⟨_,_,G_Taken,b_39,⟨bw,vf,vj⟩⟩,T.cl_Waiting⟩
 have G_LeInit:=znd (P:=l.prog) (w:=w) (base:=base) F_40 T c_FT 
 have k_LeInit:Mak _ _ _ _ _ _ _ _ _ _ _ _:=⟨⟨_,_,G_LeInit,b_40,⟨jn,fu,vk,jo⟩⟩,T.mg_Leads⟩
 have G_Fit:=zud (P:=l.prog) (w:=w) (base:=base) F_41 T c_Goes 
 have m_Fit:MCal _ _ _ _ _ _ _ _ _ _ _ _:=⟨⟨_,_,G_Fit,b_41,⟨fv,vw,wd⟩⟩,T.cl_Leads⟩
 have G_Div:=zue (P:=l.prog) (w:=w) (base:=base) F_42 T k_LeInit k_WaInit m_Emp m_Taken m_Fit c_LeftO c_Scal m_Put c_Absorb hfld hord
 have c_Div:Cal _ _ _ _ _ _ _ _ _ _ _:=⟨_,_,G_Div,b_42,wj,W.mg_of X G we⟩
 have G_BD:=zv5 (P:=l.prog) (w:=w) (base:=base) F_43 T c_Div 
 have c_BD:Cal _ _ _ _ _ _ _ _ _ _ _:=⟨_,_,G_BD,b_43,wo,W.mg_of X G wk⟩
 have G_Cell:=zs0 (P:=l.prog) (w:=w) (base:=base) F_44 T 
 have c_Cell:Cal _ _ _ _ _ _ _ _ _ _ _:=⟨_,_,G_Cell,b_44,wv,W.mg_of X G wq⟩
 have G_Gcd:=zvb (P:=l.prog) (w:=w) (base:=base) F_45 T 
 have c_Gcd:Cal _ _ _ _ _ _ _ _ _ _ _:=⟨_,_,G_Gcd,b_45,w4,W.mg_of X G ww⟩
 have G_Norm:=zs8 (P:=l.prog) (w:=w) (base:=base) F_46 T c_Gcd 
 have c_Norm:Cal _ _ _ _ _ _ _ _ _ _ _:=⟨_,_,G_Norm,b_46,xf,W.mg_of X G w6⟩
 have G_Times:=zpm (P:=l.prog) (w:=w) (base:=base) F_47 T c_Norm 
 have c_Times:Cal _ _ _ _ _ _ _ _ _ _ _:=⟨_,_,G_Times,b_47,xj,W.mg_of X G xg⟩
 have G_Plus:=zsx (P:=l.prog) (w:=w) (base:=base) F_48 T c_Norm 
 have c_Plus:Cal _ _ _ _ _ _ _ _ _ _ _:=⟨_,_,G_Plus,b_48,xo,W.mg_of X G xl⟩
 have G_NouB:=zrp (P:=l.prog) (w:=w) (base:=base) F_49 T 
 have c_NouB:Cal _ _ _ _ _ _ _ _ _ _ _:=⟨_,_,G_NouB,b_49,xu,W.mg_of X G xp⟩
 have G_OneB:=zsf (P:=l.prog) (w:=w) (base:=base) F_50 T 
 have c_OneB:Cal _ _ _ _ _ _ _ _ _ _ _:=⟨_,_,G_OneB,b_50,x2,W.mg_of X G xw⟩
 have G_SomeB:=zor (P:=l.prog) (w:=w) (base:=base) F_51 T c_Norm 
 have c_SomeB:Cal _ _ _ _ _ _ _ _ _ _ _:=⟨_,_,G_SomeB,b_51,x6,W.mg_of X G x3⟩
 have G_LPb:=zt5 (P:=l.prog) (w:=w) (base:=base) F_52 T 
 have c_LPb:Cal _ _ _ _ _ _ _ _ _ _ _:=⟨_,_,G_LPb,b_52,yb,W.mg_of X G x8⟩
 have G_LRs:=zu8 (P:=l.prog) (w:=w) (base:=base) F_53 T c_LPb 
 have c_LRs:Cal _ _ _ _ _ _ _ _ _ _ _:=⟨_,_,G_LRs,b_53,yf,W.mg_of X G yc⟩
 have G_Whole:=zqd (P:=l.prog) (w:=w) (base:=base) F_54 T 
 have c_Whole:Cal _ _ _ _ _ _ _ _ _ _ _:=⟨_,_,G_Whole,b_54,yj,W.mg_of X G yg⟩
 have G_IsN:=zua (P:=l.prog) (w:=w) (base:=base) F_55 T c_Whole c_Gcd 
 have c_IsN:Cal _ _ _ _ _ _ _ _ _ _ _:=⟨_,_,G_IsN,b_55,yn,W.mg_of X G yk⟩
 have G_IsP:=zt4 (P:=l.prog) (w:=w) (base:=base) F_56 T c_IsN c_Whole 
 have c_IsP:Cal _ _ _ _ _ _ _ _ _ _ _:=⟨_,_,G_IsP,b_56,yt,W.mg_of X G yo⟩
 have G_ArP:=ztw (P:=l.prog) (w:=w) (base:=base) F_57 T c_IsP 
 have c_ArP:Cal _ _ _ _ _ _ _ _ _ _ _:=⟨_,_,G_ArP,b_57,yz,W.mg_of X G yu⟩
 have G_LFld:=zs9 (P:=l.prog) (w:=w) (base:=base) F_58 T k_FracInit k_RestsInit 
 have c_LFld:Cal _ _ _ _ _ _ _ _ _ _ _:=⟨_,_,G_LFld,b_58,y8,W.mg_of X G y3⟩
 have G_LOrd:=zrw (P:=l.prog) (w:=w) (base:=base) F_59 T k_WInit 
 have c_LOrd:Cal _ _ _ _ _ _ _ _ _ _ _:=⟨_,_,G_LOrd,b_59,ze,W.mg_of X G y9⟩
 have G_Cop:=zu4 (P:=l.prog) (w:=w) (base:=base) F_60 T 
 have c_Cop:Cal _ _ _ _ _ _ _ _ _ _ _:=⟨_,_,G_Cop,b_60,zi,W.mg_of X G zf⟩
 have G_AddB:=zsl (P:=l.prog) (w:=w) (base:=base) F_61 T c_Times c_Plus c_NouB 
 have c_AddB:Cal _ _ _ _ _ _ _ _ _ _ _:=⟨_,_,G_AddB,b_61,zo,W.mg_of X G zj⟩
 have G_Drw:=zuu (P:=l.prog) (w:=w) (base:=base) F_62 T c_NouB c_SomeB 
 have c_Drw:Cal _ _ _ _ _ _ _ _ _ _ _:=⟨_,_,G_Drw,b_62,zw,W.mg_of X G zq⟩
 have G_ByP:=zu1 (P:=l.prog) (w:=w) (base:=base) F_63 T c_NouB 
 have c_ByP:Cal _ _ _ _ _ _ _ _ _ _ _:=⟨_,_,G_ByP,b_63,z9,W.mg_of X G zx⟩
 have G_Dvr:=zve (P:=l.prog) (w:=w) (base:=base) F_64 T c_Norm c_Times c_ByP 
 have c_Dvr:Cal _ _ _ _ _ _ _ _ _ _ _:=⟨_,_,G_Dvr,b_64,zwb,W.mg_of X G zv8⟩
 exact zvc (P:=l.prog) (w:=w) (base:=base) F_65 T c_Cell c_LRs c_LFld c_LOrd k_RgInit c_Drw c_SomeB c_Dvr c_OneB c_ByP c_NouB c_Times c_Plus c_Cop c_Div c_ArP c_IsP c_BD c_AddB hfld hord
theorem walk{l:W.OpenLaw}{q:Program}{loose:List Str}{XP:(Str->Option Value)->Heap->Prop}{YP:World->Heap->Prop}{d:DefRec}{K:Params->W.Frag}(hn:l.most=some 63)(hdf:d.params.defaults=[])
  (hY:∀(w:World) (h:Heap),YP w h->(K w.params).In h)
  (F:∀(w:World) (mg:Str->Option Value) (fa:Addr) (h:Heap),(K w.params).In h->h.Ns mainGlobals mg->mg d.name=some (.ref fa) ->
   ∃fd:FuncData,(∀(s:Shared) (u:Value),BindsTo s fd ⟨[u],[]⟩ [("_law_script",u)])/\∀base:Heap,(K w.params).In base->base.Ns mainGlobals mg->FnOk l.prog w (K w.params) mg base CX0 17 fa fd ["_law_script"] (spLaw (K w.params))) :
  W.WalkO q loose XP YP l.row.toRowW d [] (λf vs=>PySem.call f vs):=
 L2.walk_of (n:=63) (k:=17) (x:="_law_script") (CX:=λ_=>CX0) (sp:=λw=>spLaw (K w.params)) hn (by decide) hdf ⟨rfl,by decide,by decide⟩ hY F (λ_ _ a ns hl _ hS=>⟨a,ns,rfl,hS,hl,λ_=>rfl⟩) λ_ _ _ _ _ z=>z
end K6
open PySem PySem.W PyProof.Rows
set_option maxRecDepth 100000 in
set_option maxHeartbeats 0 in
theorem PySem.Challenge.cw_idealroom_k16_divided_by_one_holds : PySem.Challenge.rw_idealroom_k16_divided_by_one.Holds := by
 w_on;o_law;k_head;(case hw=>w_witness2)
 k_fill
 refine K6.walk (l:=PySem.Challenge.rw_idealroom_k16_divided_by_one) rfl rfl (λw h Y=>W.kIn_of Y) ?F
 case F=>
  intro w mg fa h KX G hmg
  refine' K6.all_mk KX G hmg ?kf ?jw ?jx ?jy ?j3 ?j4 ?j5 ?ay ?am ?ao ?b8 ?a5 ?a6 ?a7 ?a8 ?a9 ?ba ?ac ?j6 ?ij ?il ?io ?ip ?iq ?ir ?ai ?j7 ?iu ?iw ?iz ?i0 ?i7 ?i8 ?i9 ?gi ?ca ?cb ?cf ?cg ?ci ?cj ?ck ?j8 ?ja ?jb ?jc ?jd ?je ?jf ?jg ?gj ?cn ?cq ?cr ?cu ?cv ?cw ?ad ?gk ?cx ?cy ?cz ?dg ?di ?dk ?ae ?af ?ag ?j9 ?jh ?ji ?jk ?jm ?jn ?jo ?aj ?zwg ?zwh ?zwi ?zwj ?zwk ?zwl ?zwm ?zwn ?ml ?mn ?mo ?mq ?zwo ?zwp ?zwq ?zwr ?ap ?zws ?zwt ?zwu ?zwv ?aq ?zww ?zwx ?zwy ?zwz ?ar ?zw0 ?zw1 ?zw2 ?zw3 ?au ?zw4 ?zw5 ?zw6 ?zw7 ?zw8 ?av ?zw9 ?zxa ?zxb ?zxc ?aw ?zxd ?zxe ?zxf ?zxg ?ax ?zxh ?zxi ?zxj ?zxk ?ak ?mr ?mt ?mv ?mw ?al ?dm ?my ?mz ?m6 ?m7 ?dt ?m8 ?m9 ?ng ?nh ?du ?ni ?nk ?nr ?nu ?dy ?n5 ?n6 ?n8 ?og ?dz ?oh ?oj ?ot ?ou ?d5 ?ow ?ox ?oy ?oz ?d6 ?o2 ?o3 ?o4 ?o5 ?d8 ?o6 ?o7 ?o8 ?o9 ?pc ?ph ?pj ?pq ?fg ?p0 ?ko ?kq ?p6 ?p7 ?p9 ?bc ?qc ?kr ?kt ?qe ?qg ?qh ?fi ?qj ?ku ?k6 ?qk ?qm ?qo ?bd ?qp ?qr ?qu ?qv ?bf ?qw ?k8 ?k9 ?qx ?qy ?qz ?bh ?fj ?fk ?rc ?rf ?rg ?rh ?bi ?rj ?rl ?rm ?r6 ?bj ?fm ?fq ?bn ?r8 ?r9 ?se ?sf ?gm ?sg ?sj ?sk ?su ?sv ?sw ?sx ?sy ?tf ?tj ?tm ?tw ?tz ?t3 ?t6 ?t7 ?t8 ?t9 ?ua ?uc ?ud ?ue ?uf ?ug ?uh ?ui ?uj ?ul ?bo ?uq ?ur ?ut ?uu ?bq ?uv ?uw ?ux ?uz ?br ?u4 ?u6 ?u7 ?u8 ?bv ?u9 ?vb ?vc ?ve ?bw ?vf ?vg ?vi ?vj ?fu ?vk ?vm ?vo ?vt ?fv ?vw ?vz ?wc ?wd ?we ?wf ?wg ?wj ?wk ?wl ?wm ?wo ?wq ?wr ?wu ?wv ?ww ?wy ?wz ?w4 ?w6 ?xa ?xc ?xf ?xg ?xh ?xi ?xj ?xl ?xm ?xn ?xo ?xp ?xr ?xt ?xu ?xw ?xx ?xz ?x2 ?x3 ?x4 ?x5 ?x6 ?x8 ?x9 ?ya ?yb ?yc ?yd ?ye ?yf ?yg ?yh ?yi ?yj ?yk ?yl ?ym ?yn ?yo ?yq ?yr ?yt ?yu ?yw ?yx ?yz ?y3 ?y4 ?y6 ?y8 ?y9 ?zc ?zd ?ze ?zf ?zg ?zh ?zi ?zj ?zk ?zm ?zo ?zq ?zt ?zu ?zw ?zx ?zy ?zz ?z9 ?zv8 ?zv9 ?zwa ?zwb ?zwc ?zwd ?zwe ?zwf ?jp ?gn ?gq ?gr ?gt ?fw ?fy ?f6 ?jt ?gu ?gv ?gw ?gx ?gc ?gf ?gg ?ju ?gz ?h7 ?h8 ?jv ?h9 ?ie ?ig ?lg ?ln ?lr ?lz ?l6 ?l7 ?l8 ?l9 ?kh ?ki ?b9 ?ma ?b6 ?mf ?kl ?mh ?kc ?gh ?mi ?ke ?mj ?ah ?ii
  (case kf=>k_is)
  (case jw=>k_is)
  (case jx=>k_is)
  (case jy=>k_is)
  (case j3=>k_is)
  (case j4=>k_is)
  (case j5=>k_is)
  (case ay=>k_is)
  (case am=>k_is)
  (case ao=>k_is)
  (case b8=>k_is)
  (case a5=>k_is)
  (case a6=>k_is)
  (case a7=>k_is)
  (case a8=>k_is)
  (case a9=>k_is)
  (case ba=>k_is)
  (case ac=>k_is)
  (case j6=>k_is)
  (case ij=>k_is)
  (case il=>k_is)
  (case io=>k_is)
  (case ip=>k_is)
  (case iq=>k_is)
  (case ir=>k_is)
  (case ai=>k_is)
  (case j7=>k_is)
  (case iu=>k_is)
  (case iw=>k_is)
  (case iz=>k_is)
  (case i0=>k_is)
  (case i7=>k_is)
  (case i8=>k_is)
  (case i9=>k_is)
  (case gi=>k_is)
  (case ca=>k_is)
  (case cb=>k_is)
  (case cf=>k_is)
  (case cg=>k_is)
  (case ci=>k_is)
  (case cj=>k_is)
  (case ck=>k_is)
  (case j8=>k_is)
  (case ja=>k_is)
  (case jb=>k_is)
  (case jc=>k_is)
  (case jd=>k_is)
  (case je=>k_is)
  (case jf=>k_is)
  (case jg=>k_is)
  (case gj=>k_is)
  (case cn=>k_is)
  (case cq=>k_is)
  (case cr=>k_is)
  (case cu=>k_is)
  (case cv=>k_is)
  (case cw=>k_is)
  (case ad=>k_is)
  (case gk=>k_is)
  (case cx=>k_is)
  (case cy=>k_is)
  (case cz=>k_is)
  (case dg=>k_is)
  (case di=>k_is)
  (case dk=>k_is)
  (case ae=>k_is)
  (case af=>k_is)
  (case ag=>k_is)
  (case j9=>k_is)
  (case jh=>k_is)
  (case ji=>k_is)
  (case jk=>k_is)
  (case jm=>k_is)
  (case jn=>k_is)
  (case jo=>k_is)
  (case aj=>k_is)
  (case zwg=>k_is)
  (case zwh=>k_is)
  (case zwi=>k_is)
  (case zwj=>k_is)
  (case zwk=>k_is)
  (case zwl=>k_is)
  (case zwm=>k_is)
  (case zwn=>k_is)
  (case ml=>k_is)
  (case mn=>k_is)
  (case mo=>k_is)
  (case mq=>k_is)
  (case zwo=>k_is)
  (case zwp=>k_is)
  (case zwq=>k_is)
  (case zwr=>k_is)
  (case ap=>k_is)
  (case zws=>k_is)
  (case zwt=>k_is)
  (case zwu=>k_is)
  (case zwv=>k_is)
  (case aq=>k_is)
  (case zww=>k_is)
  (case zwx=>k_is)
  (case zwy=>k_is)
  (case zwz=>k_is)
  (case ar=>k_is)
  (case zw0=>k_is)
  (case zw1=>k_is)
  (case zw2=>k_is)
  (case zw3=>k_is)
  (case au=>k_is)
  (case zw4=>k_is)
  (case zw5=>k_is)
  (case zw6=>k_is)
  (case zw7=>k_is)
  (case zw8=>k_is)
  (case av=>k_is)
  (case zw9=>k_is)
  (case zxa=>k_is)
  (case zxb=>k_is)
  (case zxc=>k_is)
  (case aw=>k_is)
  (case zxd=>k_is)
  (case zxe=>k_is)
  (case zxf=>k_is)
  (case zxg=>k_is)
  (case ax=>k_is)
  (case zxh=>k_is)
  (case zxi=>k_is)
  (case zxj=>k_is)
  (case zxk=>k_is)
  (case ak=>k_is)
  (case mr=>k_is)
  (case mt=>k_is)
  (case mv=>k_is)
  (case mw=>k_is)
  (case al=>k_is)
  (case dm=>k_is)
  (case my=>k_is)
  (case mz=>k_is)
  (case m6=>k_is)
  (case m7=>k_is)
  (case dt=>k_is)
  (case m8=>k_is)
  (case m9=>k_is)
  (case ng=>k_is)
  (case nh=>k_is)
  (case du=>k_is)
  (case ni=>k_is)
  (case nk=>k_is)
  (case nr=>k_is)
  (case nu=>k_is)
  (case dy=>k_is)
  (case n5=>k_is)
  (case n6=>k_is)
  (case n8=>k_is)
  (case og=>k_is)
  (case dz=>k_is)
  (case oh=>k_is)
  (case oj=>k_is)
  (case ot=>k_is)
  (case ou=>k_is)
  (case d5=>k_is)
  (case ow=>k_is)
  (case ox=>k_is)
  (case oy=>k_is)
  (case oz=>k_is)
  (case d6=>k_is)
  (case o2=>k_is)
  (case o3=>k_is)
  (case o4=>k_is)
  (case o5=>k_is)
  (case d8=>k_is)
  (case o6=>k_is)
  (case o7=>k_is)
  (case o8=>k_is)
  (case o9=>k_is)
  (case pc=>k_is)
  (case ph=>k_is)
  (case pj=>k_is)
  (case pq=>k_is)
  (case fg=>k_is)
  (case p0=>k_is)
  (case ko=>k_is)
  (case kq=>k_is)
  (case p6=>k_is)
  (case p7=>k_is)
  (case p9=>k_is)
  (case bc=>k_is)
  (case qc=>k_is)
  (case kr=>k_is)
  (case kt=>k_is)
  (case qe=>k_is)
  (case qg=>k_is)
  (case qh=>k_is)
  (case fi=>k_is)
  (case qj=>k_is)
  (case ku=>k_is)
  (case k6=>k_is)
  (case qk=>k_is)
  (case qm=>k_is)
  (case qo=>k_is)
  (case bd=>k_is)
  (case qp=>k_is)
  (case qr=>k_is)
  (case qu=>k_is)
  (case qv=>k_is)
  (case bf=>k_is)
  (case qw=>k_is)
  (case k8=>k_is)
  (case k9=>k_is)
  (case qx=>k_is)
  (case qy=>k_is)
  (case qz=>k_is)
  (case bh=>k_is)
  (case fj=>k_is)
  (case fk=>k_is)
  (case rc=>k_is)
  (case rf=>k_is)
  (case rg=>k_is)
  (case rh=>k_is)
  (case bi=>k_is)
  (case rj=>k_is)
  (case rl=>k_is)
  (case rm=>k_is)
  (case r6=>k_is)
  (case bj=>k_is)
  (case fm=>k_is)
  (case fq=>k_is)
  (case bn=>k_is)
  (case r8=>k_is)
  (case r9=>k_is)
  (case se=>k_is)
  (case sf=>k_is)
  (case gm=>k_is)
  (case sg=>k_is)
  (case sj=>k_is)
  (case sk=>k_is)
  (case su=>k_is)
  (case sv=>k_is)
  (case sw=>k_is)
  (case sx=>k_is)
  (case sy=>k_is)
  (case tf=>k_is)
  (case tj=>k_is)
  (case tm=>k_is)
  (case tw=>k_is)
  (case tz=>k_is)
  (case t3=>k_is)
  (case t6=>k_is)
  (case t7=>k_is)
  (case t8=>k_is)
  (case t9=>k_is)
  (case ua=>k_is)
  (case uc=>k_is)
  (case ud=>k_is)
  (case ue=>k_is)
  (case uf=>k_is)
  (case ug=>k_is)
  (case uh=>k_is)
  (case ui=>k_is)
  (case uj=>k_is)
  (case ul=>k_is)
  (case bo=>k_is)
  (case uq=>k_is)
  (case ur=>k_is)
  (case ut=>k_is)
  (case uu=>k_is)
  (case bq=>k_is)
  (case uv=>k_is)
  (case uw=>k_is)
  (case ux=>k_is)
  (case uz=>k_is)
  (case br=>k_is)
  (case u4=>k_is)
  (case u6=>k_is)
  (case u7=>k_is)
  (case u8=>k_is)
  (case bv=>k_is)
  (case u9=>k_is)
  (case vb=>k_is)
  (case vc=>k_is)
  (case ve=>k_is)
  (case bw=>k_is)
  (case vf=>k_is)
  (case vg=>k_is)
  (case vi=>k_is)
  (case vj=>k_is)
  (case fu=>k_is)
  (case vk=>k_is)
  (case vm=>k_is)
  (case vo=>k_is)
  (case vt=>k_is)
  (case fv=>k_is)
  (case vw=>k_is)
  (case vz=>k_is)
  (case wc=>k_is)
  (case wd=>k_is)
  (case we=>k_is)
  (case wf=>k_is)
  (case wg=>k_is)
  (case wj=>k_is)
  (case wk=>k_is)
  (case wl=>k_is)
  (case wm=>k_is)
  (case wo=>k_is)
  (case wq=>k_is)
  (case wr=>k_is)
  (case wu=>k_is)
  (case wv=>k_is)
  (case ww=>k_is)
  (case wy=>k_is)
  (case wz=>k_is)
  (case w4=>k_is)
  (case w6=>k_is)
  (case xa=>k_is)
  (case xc=>k_is)
  (case xf=>k_is)
  (case xg=>k_is)
  (case xh=>k_is)
  (case xi=>k_is)
  (case xj=>k_is)
  (case xl=>k_is)
  (case xm=>k_is)
  (case xn=>k_is)
  (case xo=>k_is)
  (case xp=>k_is)
  (case xr=>k_is)
  (case xt=>k_is)
  (case xu=>k_is)
  (case xw=>k_is)
  (case xx=>k_is)
  (case xz=>k_is)
  (case x2=>k_is)
  (case x3=>k_is)
  (case x4=>k_is)
  (case x5=>k_is)
  (case x6=>k_is)
  (case x8=>k_is)
  (case x9=>k_is)
  (case ya=>k_is)
  (case yb=>k_is)
  (case yc=>k_is)
  (case yd=>k_is)
  (case ye=>k_is)
  (case yf=>k_is)
  (case yg=>k_is)
  (case yh=>k_is)
  (case yi=>k_is)
  (case yj=>k_is)
  (case yk=>k_is)
  (case yl=>k_is)
  (case ym=>k_is)
  (case yn=>k_is)
  (case yo=>k_is)
  (case yq=>k_is)
  (case yr=>k_is)
  (case yt=>k_is)
  (case yu=>k_is)
  (case yw=>k_is)
  (case yx=>k_is)
  (case yz=>k_is)
  (case y3=>k_is)
  (case y4=>k_is)
  (case y6=>k_is)
  (case y8=>k_is)
  (case y9=>k_is)
  (case zc=>k_is)
  (case zd=>k_is)
  (case ze=>k_is)
  (case zf=>k_is)
  (case zg=>k_is)
  (case zh=>k_is)
  (case zi=>k_is)
  (case zj=>k_is)
  (case zk=>k_is)
  (case zm=>k_is)
  (case zo=>k_is)
  (case zq=>k_is)
  (case zt=>k_is)
  (case zu=>k_is)
  (case zw=>k_is)
  (case zx=>k_is)
  (case zy=>k_is)
  (case zz=>k_is)
  (case z9=>k_is)
  (case zv8=>k_is)
  (case zv9=>k_is)
  (case zwa=>k_is)
  (case zwb=>k_is)
  (case zwc=>k_is)
  (case zwd=>k_is)
  (case zwe=>k_is)
  (case zwf=>k_is)
  (case jp=>k_is)
  (case gn=>exact PySem.F.excBase_ValueError)
  (case gq=>k_exc)
  (case gr=>kts_exm)
  (case gt=>k_is)
  (case fw=>exact PySem.F.excBase_ValueError)
  (case fy=>k_exc)
  (case f6=>kts_exm)
  (case jt=>k_is)
  (case gu=>exact PySem.F.excBase_ValueError)
  (case gv=>k_exc)
  (case gw=>kts_exm)
  (case gx=>k_is)
  (case gc=>exact PySem.F.excBase_ValueError)
  (case gf=>k_exc)
  (case gg=>kts_exm)
  (case ju=>k_is)
  (case gz=>exact PySem.F.excBase_ValueError)
  (case h7=>k_exc)
  (case h8=>kts_exm)
  (case jv=>k_is)
  (case h9=>exact PySem.F.excBase_ValueError)
  (case ie=>k_exc)
  (case ig=>kts_exm)
  (case lg=>kit_is)
  (case ln=>kit_is)
  (case lr=>kit_is)
  (case lz=>kit_is)
  (case l6=>kit_is)
  (case l7=>k_is)
  (case l8=>k_is)
  (case l9=>k_is)
  (case kh=>k_is)
  (case ki=>k_is)
  (case b9=>k_is)
  (case ma=>k_is)
  (case b6=>k_is)
  (case mf=>k_is)
  (case kl=>k_is)
  (case mh=>k_is)
  (case kc=>k_is)
  (case gh=>k_is)
  (case mi=>k_is)
  (case ke=>k_is)
  (case mj=>k_is)
  (case ah=>k_is)
  (case ii=>k_is)
#print axioms PySem.Challenge.cw_idealroom_k16_divided_by_one_holds
