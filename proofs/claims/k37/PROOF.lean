import PyProof.Rows.All
import Wide.All
import OpenK.AllK
import Wide.FinOn
import Lean
import PyProof.EqAt
import PyProof.EqKinds
import PyProof.TupleCall
import KE.KSortTup
import KE.KLam
import KE.KNestM
import KE.KDictList
import KE.KRevIter
import PyProof.ExcArgsOwn
import PyProof.NsDelKeeps
import PySem.Challenge.RW_idealroom_k37_corner
set_option Elab.async false
set_option linter.all false
set_option maxRecDepth 100000
namespace L2
open PySem PySem.Spec PyProof.Rows
abbrev Key:=Sum Int Str
def keyIs:Key->Value->Bool
 | .inl k,v=>Value.isInt k v
 | .inr x,v=>Value.isStrOf x v
def keyH(w:World):Key->Int
 | .inl k=>hashInt k
 | .inr x=>hashStr w x
theorem zbi:∀{k:Key} {v:Value},keyIs k v=true->(∃i t,k=Sum.inl i/\v=Value.int i t)\/(∃x t,k=Sum.inr x/\v=Value.str x t)
 | .inl i,v,h=>by
  obtain⟨t,e⟩:=Value.isInt_shape (k:=i) (v:=v) h
  exact .inl ⟨i,t,rfl,e⟩
 | .inr x,v,h=>by
  obtain⟨t,e⟩:=Value.isStrOf_shape (x:=x) (v:=v) h
  exact .inr ⟨x,t,rfl,e⟩
theorem zla(i:Int)(t:Tok):keyIs (.inl i) (.int i t)=true:=by simp[keyIs,Value.isInt]
theorem zls(x:Str)(t:Tok):keyIs (.inr x) (.str x t)=true:=by simp[keyIs,Value.isStrOf]
theorem zrg(a b:Int):decide ((Sum.inl a:Key)=Sum.inl b)=(a == b):=by
 by_cases e:a=b
 ·subst e;simp
 ·have h:¬(Sum.inl a:Key)=Sum.inl b:=λq=>e (Sum.inl.inj q)
  rw[decide_eq_false h]
  exact(beq_eq_false_iff_ne.mpr e).symm
theorem zr9(a b:Str):decide ((Sum.inr a:Key)=Sum.inr b)=decide (a=b):=by
 by_cases e:a=b
 ·subst e;simp
 ·have h:¬(Sum.inr a:Key)=Sum.inr b:=λq=>e (Sum.inr.inj q)
  rw[decide_eq_false h,decide_eq_false e]
theorem zrq(a:Int)(b:Str):decide ((Sum.inl a:Key)=Sum.inr b)=false:=decide_eq_false (λq=>nomatch q)
theorem zrt(a:Str)(b:Int):decide ((Sum.inr a:Key)=Sum.inl b)=false:=decide_eq_false (λq=>nomatch q)
def mixKind(prog:Program)(w:World):PySem.KeyKind prog w Key where
 is:=keyIs
 hash:=keyH w
 inj:=λv a b ha hb=>by
  rcases zbi ha with⟨i,t,rfl,rfl⟩ | ⟨x,t,rfl,rfl⟩
  ·rcases zbi hb with⟨j,u,rfl,e⟩ | ⟨y,u,rfl,e⟩
   ·injection e with e1 _;rw[e1]
   ·exact nomatch e
  ·rcases zbi hb with⟨j,u,rfl,e⟩ | ⟨y,u,rfl,e⟩
   ·exact nomatch e
   ·injection e with e1 _;rw[e1]
 byValue:=λk v h=>by
  rcases zbi h with⟨i,t,rfl,rfl⟩ | ⟨x,t,rfl,rfl⟩ <;> rfl
 pyHash:=λhv h=>by
  rcases zbi hv with⟨i,t,rfl,rfl⟩ | ⟨x,t,rfl,rfl⟩
  ·exact wpAny_pyHash_int h
  ·exact wpAny_pyHash_str h
 eqBool:=λhu hv h=>by
  rcases zbi hu with⟨i,t,rfl,rfl⟩ | ⟨x,t,rfl,rfl⟩
  ·rcases zbi hv with⟨j,u,rfl,rfl⟩ | ⟨y,u,rfl,rfl⟩
   ·rw[zrg]at h;exact wpAny_eqBool_int h
   ·rw[zrq]at h;exact SeqAt.EqAt.int_str i t y u _ _ _ _ h
  ·rcases zbi hv with⟨j,u,rfl,rfl⟩ | ⟨y,u,rfl,rfl⟩
   ·rw[zrt]at h;exact SeqAt.EqAt.str_int x t j u _ _ _ _ h
   ·rw[zr9]at h;exact wpAny_eqBool_str h
 «strs»:=λk x t v h=>by
  rcases zbi h with⟨i,u,rfl,e⟩ | ⟨y,u,rfl,e⟩
  ·exact nomatch e
  ·injection e with e1 _
   subst e1
   cases v <;> rfl
theorem zig(prog:Program)(w:World)(i:Int)(t:Tok):(mixKind prog w).is (.inl i) (.int i t)=true:=zla i t
theorem zid(prog:Program)(w:World)(x:Str)(t:Tok):(mixKind prog w).is (.inr x) (.str x t)=true:=zls x t
end L2
namespace L2
open PySem PySem.Spec PyProof.Rows
inductive V where
 | non | bl (b:Bool) | int (i:Int) | str (x:Str) | byt (b:Array UInt8) | flt (b:UInt64) | ref (a:Addr) | ty (n:String)
 deriving DecidableEq
def RelV:V->Value->Prop
 | .non,u=>u=Value.none
 | .bl b,u=>u=Value.bool b
 | .int i,u=>∃t,u=Value.int i t
 | .str x,u=>∃t,u=Value.str x t
 | .byt b,u=>∃t,u=Value.bytes b t
 | .flt b,u=>∃t,u=Value.float b t
 | .ref a,u=>u=Value.ref a
 | .ty n,u=>u=Value.type n
abbrev Vals:List V->List Value->Prop:=Paired RelV
theorem Vals.length{xs:List V}{us:List Value}(r:Vals xs us):xs.length=us.length:=Paired.length r
theorem Vals.get:∀{xs:List V} {us:List Value} {i:Nat} {x:V},Vals xs us->xs[i]? = some x->∃u,us[i]? = some u/\RelV x u
 | _,_,_,_,.nil,e=>by simp at e
 | _,_,0,_,.cons r _,e=>by simp at e;subst e;exact⟨_,rfl,r⟩
 | _,_,i + 1,x,.cons _ t,e=>by
  obtain⟨u,h1,h2⟩:=Vals.get (i:=i) (x:=x) t (by simpa using e)
  exact⟨u,by simpa using h1,h2⟩
theorem Vals.append:∀{xs ys:List V} {us ws:List Value},Vals xs us->Vals ys ws->Vals (xs ++ ys) (us ++ ws)
 | _,_,_,_,.nil,s=>s
 | _,_,_,_,.cons r t,s => .cons r (Vals.append t s)
theorem Vals.take:∀{xs:List V} {us:List Value} (n:Nat),Vals xs us->Vals (xs.take n) (us.take n)
 | _,_,0,_ => .nil
 | _,_,_ + 1,.nil => .nil
 | _,_,n + 1,.cons r t => .cons r (Vals.take n t)
theorem Vals.drop:∀{xs:List V} {us:List Value} (n:Nat),Vals xs us->Vals (xs.drop n) (us.drop n)
 | _,_,0,r=>r
 | _,_,_ + 1,.nil => .nil
 | _,_,n + 1,.cons _ t=>Vals.drop n t
def RelO:Option V->Option Value->Prop
 | some v,some u=>RelV v u
 | none,none=>True
 | _,_=>False
def KV{κ : Type}:List (κ×V)->List (κ×Value)->Prop:=Paired fun(p : κ×V) (q : κ×Value)=>p.1=q.1/\RelV p.2 q.2
def kV:Key->V
 | .inl i => .int i
 | .inr x => .str x
inductive HO where
  | lst (xs:List V)
  | tup (xs:List V)
  | dK (kvs:List (Key×V)) | dT (kvs:List (List Key×V))
  | set (S:Int->Bool) (n:Nat)
  | ins (C dx:Addr) (fs:List (Str×V))
  | own (x:Addr)
  | xd (fs:List (Str×V))
  | met (f x:Addr)
  | rng (lo hi:Int)
  | frz (o:Obj) (u:HO)
  | tbl (ps:Array Value)
  | ext (φ : Heap->Prop)
abbrev Hp:=Addr->Option HO
def upd(H:Hp)(a:Addr)(o:HO):Hp:=λb=>if b=a then some o else H b
theorem zae{H:Hp}{a:Addr}{o:HO}:upd H a o a=some o:=by unfold upd;rw[if_pos rfl]
theorem zao{H:Hp}{a b:Addr}{o:HO}(h:b≠a):upd H a o b=H b:=by unfold upd;rw[if_neg h]
theorem zdb{H:Hp}{a b:Addr}{o u:HO}(h:H a=some o)(h':H b=some u)(d:o≠u):a≠b:=by
 intro e;subst e;rw[h]at h';exact d (Option.some.inj h')
theorem zaq{H:Hp}{a b:Addr}{o:HO}(h:H a=some o)(h':H b=none):a≠b:=by
 intro e;subst e;rw[h]at h';cases h'
section
variable(P:Program)(w:World)
def ObjOk(H:Hp)(h:Heap)(a:Addr):HO->Prop
 | .lst xs=>xs.length<=sizeLine/\∃(its:List Value) (n:Nat),Vals xs its/\h.get? a=some { cls := .type "list",data := .seq its.toArray n }
 | .tup xs=>xs.length<=sizeLine/\∃its:List Value,Vals xs its/\IsTup h a its.toArray
 | .dK kvs=>kvs.length<=sizeLine/\(a == sysModules)=false/\∃vs,KV kvs vs/\h.DictOf (mixKind P w) a vs
 | .dT kvs=>kvs.length<=sizeLine/\(a == sysModules)=false/\∃xs:List (List Key×Addr×Value),
   Paired (fun(p:List Key×V) (q:List Key×Addr×Value)=>p.1=q.1/\H q.2.1=some (.tup (p.1.map kV))/\RelV p.2 q.2.2) kvs xs /\
   ∃o es ep,h.get? a=some o/\o.ExactDict/\o.data = .dict es ep/\es.toList=xs.map (entryOfKey (tupleKind (mixKind P w)))/\(xs.map (·.1)).Nodup
 | .set S n=>h.SetOf (intKind P w) a S n
 | .ins C dx fs=>H dx=some (.own a)/\fs.length<=1000/\dx≠a/\h.get? a=some (W.instObj C dx) /\
   ∃mA,h.Ns1 dx mA/\(∀f,RelO (fs.lookup f) (mA f))/\PySem.Within mA (fs.map (·.1))
 | .own _=>∃o,h.get? a=some o
 | .xd fs=>∃mA,h.Ns1 a mA/\∀f,RelO (fs.lookup f) (mA f)
 | .rng lo hi=>∃t u v,h.get? a=some { cls := .type "range",data := .fields #[.int lo t,.int hi u,.int 1 v] }
 | .frz o u=>h.get? a=some o/\ObjOk H h a u
 | .tbl ps=>h.get? a=some { cls := .none,data := .fields ps }
 | .met f x=>h.get? a=some (W.methodObj (.ref f) (.ref x))
 | .ext φ=>φ h/\(∃o,h.get? a=some o)/\∀h1 h2:Heap,φ h1->(∀o,h1.get? a=some o->h2.get? a=some o)->φ h2
def HOk(H:Hp)(h:Heap):Prop:=∀a o,H a=some o->ObjOk P w H h a o
end
section
variable{P:Program}{w:World}{H H':Hp}{h h':Heap}{a:Addr}{o:HO}
theorem ObjOk.lt(x:ObjOk P w H h a o):a < h.objs.size:=by
 cases o with
 | lst xs=>obtain⟨_,_,_,_,e⟩:=x;exact Heap.lt_size e
 | tup xs=>obtain⟨_,_,_,p⟩:=x;exact p.lt
 | dK kvs=>obtain⟨_,_,_,_,o,_,_,e,_⟩:=x;exact Heap.lt_size e
 | dT kvs=>obtain⟨_,_,_,_,o,_,_,e,_⟩:=x;exact Heap.lt_size e
 | set S n=>obtain⟨o,_,_,_,e,_⟩:=x;exact Heap.lt_size e
 | ins C dx fs=>obtain⟨_,_,_,e,_⟩:=x;exact Heap.lt_size e
 | own y=>obtain⟨_,e⟩:=x;exact Heap.lt_size e
 | xd fs=>obtain⟨_,⟨_,_,_,e,_⟩,_⟩:=x;exact Heap.lt_size e
 | rng lo hi=>obtain⟨_,_,_,e⟩:=x;exact Heap.lt_size e
 | frz ob u=>obtain⟨e,_⟩:=x;exact Heap.lt_size e
 | tbl ps=>exact Heap.lt_size (show h.get? a=some _ from x)
 | met f y=>exact Heap.lt_size (show h.get? a=some _ from x)
 | ext φ=>obtain⟨_,⟨_,e⟩,_⟩:=x;exact Heap.lt_size e
theorem Paired.mapP{α β : Type}{F G : α->β->Prop}:∀{l₁:List α} {l₂:List β},Paired F l₁ l₂->(∀a b,F a b->G a b)->Paired G l₁ l₂
 | _,_,.nil,_ => .nil
 | _,_,.cons r t,f => .cons (f _ _ r) (Paired.mapP t f)
theorem Paired.imp'{α β : Type}{F G : α->β->Prop}(f:∀a b,F a b->G a b){l₁:List α}{l₂:List β}(r:Paired F l₁ l₂):Paired G l₁ l₂:=Paired.mapP r f
theorem ObjOk.stay(x:ObjOk P w H h a o)(k:∀b u,(b=a\/H b=some (.own a))->h.get? b=some u->h'.get? b=some u)
  (ho:∀b,H b=some (.own a)->H' b=some (.own a)) (ht:∀b xs,H b=some (.tup xs)->H' b=some (.tup xs)):ObjOk P w H' h' a o:=by
 induction o with
 | lst xs=>obtain⟨z,its,n,r,e⟩:=x;exact⟨z,its,n,r,k _ _ (.inl rfl) e⟩
 | tup xs=>obtain⟨z,its,r,ob,e,c⟩:=x;exact⟨z,its,r,ob,k _ _ (.inl rfl) e,c⟩
 | dK kvs=>obtain⟨z,y,vs,r,ob,es,ep,e,c⟩:=x;exact⟨z,y,vs,r,ob,es,ep,k _ _ (.inl rfl) e,c⟩
 | dT kvs=>
  obtain⟨z,y,xs,r,ob,es,ep,e,c⟩:=x
  exact⟨z,y,xs,Paired.mapP r λp q z=>⟨z.1,ht _ _ z.2.1,z.2.2⟩,ob,es,ep,k _ _ (.inl rfl) e,c⟩
 | set S n=>obtain⟨ob,es,ep,t,e,c⟩:=x;exact⟨ob,es,ep,t,k _ _ (.inl rfl) e,c⟩
 | ins C dx fs=>
  obtain⟨d,z,ne,e,mA,⟨od,es,ep,e2,c⟩,r⟩:=x
  exact⟨ho _ d,z,ne,k _ _ (.inl rfl) e,mA,⟨od,es,ep,k _ _ (.inr d) e2,c⟩,r⟩
 | own y=>obtain⟨ob,e⟩:=x;exact⟨ob,k _ _ (.inl rfl) e⟩
 | xd fs=>obtain⟨mA,⟨od,es,ep,e,c⟩,r⟩:=x;exact⟨mA,⟨od,es,ep,k _ _ (.inl rfl) e,c⟩,r⟩
 | rng lo hi=>obtain⟨t,u,v,e⟩:=x;exact⟨t,u,v,k _ _ (.inl rfl) e⟩
 | frz ob u ih=>obtain⟨e,q⟩:=x;exact⟨k _ _ (.inl rfl) e,ih q⟩
 | tbl ps=>
  have e:h.get? a=some { cls := .none,data := .fields ps }:=x
  show h'.get? a=some { cls := .none,data := .fields ps }
  exact k a _ (.inl rfl) e
 | met f y=>
  have e:h.get? a=some (W.methodObj (.ref f) (.ref y)):=x
  show h'.get? a=some (W.methodObj (.ref f) (.ref y))
  exact k a _ (.inl rfl) e
 | ext φ=>obtain⟨p,⟨o,e⟩,st⟩:=x;exact⟨st _ _ p λo q=>k _ _ (.inl rfl) q,⟨o,k _ _ (.inl rfl) e⟩,st⟩
theorem HOk.lt(x:HOk P w H h)(e:H a=some o):a < h.objs.size:=(x a o e).lt
theorem HOk.fresh(x:HOk P w H h)(e:h.objs.size<=a):H a=none:=by
 cases q:H a with
 | none=>rfl
 | some u=>exact absurd (Nat.lt_of_lt_of_le (x.lt q) e) (Nat.lt_irrefl _)
theorem HOk.kept(x:HOk P w H h)(k:∀b u,h.get? b=some u->h'.get? b=some u):HOk P w H h':=λa o e=>
 (x a o e).stay (λb u _ q=>k b u q) (λ_ q=>q) λ_ _ q=>q
theorem HOk.laid(x:HOk P w H h)(k:∀b u,h.get? b=some u->h'.get? b=some u)(hp:h.objs.size<=a)(new:ObjOk P w (upd H a o) h' a o):HOk P w (upd H a o) h':=λb u e=>by
 have hn:=x.fresh hp
 by_cases hb:b=a
 ·subst hb;rw[zae]at e;cases e;exact new
 ·rw[zao hb]at e
  exact(x b u e).stay (λc v _ q=>k c v q) (λc q=>by rw[zao (zaq q hn)];exact q) λc xs q=>by rw[zao (zaq q hn)];exact q
end
def Rd(H:Hp)(a:Addr)(u:HO):Prop:=H a=some u\/∃o,H a=some (.frz o u)
theorem Rd.ok{P:Program}{w:World}{H:Hp}{h:Heap}{a:Addr}{u:HO}(r:Rd H a u)(x:HOk P w H h):ObjOk P w H h a u:=by
 rcases r with r | ⟨o,r⟩
 ·exact x a u r
 ·obtain⟨_,q⟩:=x a _ r
  exact q
def Mut:Option HO->Prop
 | some (.lst _)=>True
 | some (.dK _)=>True
 | some (.dT _)=>True
 | some (.set _ _)=>True
 | some (.ins _ _ _)=>True
 | some (.ext _)=>True
 | _=>False
section
variable{P:Program}{w:World}{H:Hp}{h h':Heap}{x e:Addr}{o':HO}
theorem HOk.write(ok:HOk P w H h)(mu:Mut (H x))(he:e=x\/H e=some (.own x))(k:∀b u,b≠e->h.get? b=some u->h'.get? b=some u)(heo:∃u,h'.get? e=some u)
  (new:ObjOk P w (upd H x o') h' x o'):HOk P w (upd H x o') h':=λb u q=>by
 have nown:∀c y,H c=some (.own y)->c≠x:=λc y r z=>by subst z;rw[r]at mu;exact mu
 have ntup:∀c xs,H c=some (.tup xs)->c≠x:=λc xs r z=>by subst z;rw[r]at mu;exact mu
 by_cases hb:b=x
 ·subst hb;rw[zae]at q;cases q;exact new
 ·rw[zao hb]at q
  by_cases hbe:b=e
  ·have q':H b=some (.own x):=by
    rcases he with z | z
    ·exact absurd (hbe.trans z) hb
    ·rw[hbe];exact z
   rw[q]at q';cases q'
   obtain⟨v,hv⟩:=heo
   exact⟨v,by rw[hbe];exact hv⟩
  ·refine(ok b u q).stay (λc v hc r=>k c v ?_ r) (λc r=>by rw[zao (nown c b r)];exact r) λc xs r=>by rw[zao (ntup c xs r)];exact r
   rcases hc with rfl | hc
   ·exact hbe
   ·rintro rfl
    rcases he with z | z
    ·exact nown c b hc z
    ·rw[hc]at z;cases z;exact hb rfl
end
structure Un(fs ex:List Addr)(H H':Hp)(h h':Heap):Prop where
 keep:∀b o,h.get? b=some o->H b=none->b ∉ fs->b ∉ ex->h'.get? b=some o
 slot:∀b o,h.get? b=some o->H b=none->b∈fs->b ∉ ex->∃sl,h'.get? b=some { o with slots:=sl }
 free:∀b o,h.get? b=some o->H b=none->b ∉ ex->H' b=none
 there:∀b o,h.get? b=some o->b ∉ ex->∃o',h'.get? b=some o'
 tups:∀b xs,H b=some (.tup xs)->H' b=some (.tup xs)
 frzs:∀b o u,H b=some (.frz o u)->H' b=some (.frz o u)
 tbls:∀b ps,H b=some (.tbl ps)->∃more,H' b=some (.tbl (ps ++ more))
section
variable{fs fs' ex ex':List Addr}{H H1 H2:Hp}{h h1 h2 h':Heap}{a x e:Addr}{o:HO}
theorem Un.any(u:Un fs ex H H1 h h1){b:Addr}{ob:Obj}(q:h.get? b=some ob)(n:H b=none)(hx:b ∉ ex):∃sl,h1.get? b=some { ob with slots:=sl }:=by
 by_cases hb:b∈fs
 ·exact u.slot b ob q n hb hx
 ·exact⟨ob.slots,u.keep b ob q n hb hx⟩
theorem Un.kept(k:∀b u,h.get? b=some u->h'.get? b=some u):Un fs ex H H h h':=
 ⟨λb ob q _ _ _=>k b ob q,λb ob q _ _ _=>⟨ob.slots,k b ob q⟩,λ_ _ _ n _=>n,λb ob q _=>⟨ob,k b ob q⟩,λ_ _ q=>q,λ_ _ _ q=>q,λ_ ps q=>⟨#[],by rw[q];simp⟩⟩
theorem Un.refl:Un fs ex H H h h:=Un.kept λ_ _ q=>q
theorem Un.laid(k:∀b u,h.get? b=some u->h'.get? b=some u)(hp:h.objs.size<=a)(hn:H a=none):Un fs ex H (upd H a o) h h' where
 keep:=λb u q _ _ _=>k b u q
 slot:=λb u q _ _ _=>⟨u.slots,k b u q⟩
 free:=λb u q n _=>by rw[zao (Nat.ne_of_lt (Nat.lt_of_lt_of_le (Heap.lt_size q) hp))];exact n
 there:=λb u q _=>⟨u,k b u q⟩
 tups:=λb xs q=>by rw[zao (zaq q hn)];exact q
 frzs:=λb u xs q=>by rw[zao (zaq q hn)];exact q
 tbls:=λb ps q=>⟨#[],by rw[zao (zaq q hn),q];simp⟩
theorem Un.write(mu:Mut (H x))(he:e=x\/H e=some (.own x))(k:∀b u,b≠e->h.get? b=some u->h'.get? b=some u)(heo:∃u,h'.get? e=some u):Un fs ex H (upd H x o) h h':=by
 have hx:∀b,H b=none->b≠x:=λb n z=>by subst z;rw[n]at mu;exact mu
 have hb:∀b,H b=none->b≠e:=λb n z=>by
  subst z
  rcases he with r | r
  ·exact hx b n r
  ·rw[n]at r;cases r
 have hm:∀b u,H b=some u->¬Mut (some u)->b≠x:=λb u q nm z=>by subst z;rw[q]at mu;exact nm mu
 refine⟨λb u q n _ _=>k b u (hb b n) q,λb u q n _ _=>⟨u.slots,k b u (hb b n) q⟩,λb u q n _=>by rw[zao (hx b n)];exact n,λb u q _ => ?_,
  λb xs q=>by rw[zao (hm b _ q λz=>z)];exact q,λb u xs q=>by rw[zao (hm b _ q λz=>z)];exact q,λb ps q=>⟨#[],by rw[zao (hm b _ q λz=>z),q];simp⟩⟩
 by_cases hbe:b=e
 ·subst hbe;exact heo
 ·exact⟨u,k b u hbe q⟩
end
def trk(h:Heap)(H:Hp):List Addr:=(List.range h.objs.size).filter λa=>(H a).isSome
def hidT(h:Heap)(H:Hp):Heap:=W.hideAll h (trk h H)
theorem zl3(h:Heap)(H:Hp):(hidT h H).objs.size=h.objs.size:=W.hideAll_size _ _
theorem znh{h:Heap}{H:Hp}{b:Addr}{o:Obj}(e:h.get? b=some o)(n:H b=none):(hidT h H).get? b=some o:=
 W.hideAll_get _ e λhm=>by
  have q:(H b).isSome=true:=(List.mem_filter.mp hm).2
  rw[n]at q;simp at q
theorem zrc{h:Heap}{H:Hp}{b:Addr}{o:Obj}(e:(hidT h H).get? b=some o):h.get? b=some o/\H b=none:=by
 have e':h.get? b=some o:=W.of_hideAll (trk h H) e
 refine⟨e',?_⟩
 cases q:H b with
 | none=>rfl
 | some x=>
  have hm:b∈trk h H:=List.mem_filter.mpr ⟨List.mem_range.mpr (Heap.lt_size e'),by simp[q]⟩
  have z:(hidT h H).get? b=none:=W.hideAll_none (trk h H) hm
  rw[z]at e;cases e
def allNews(g h:Heap)(L:Addr):List (Addr×Obj):=(List.range h.objs.size).filterMap λa=>if a=L\/(g.get? a).isSome=true then none else(h.get? a).map λo=>(a,o)
def rest(g h:Heap)(L d:Addr):List (Addr×Obj):=(allNews g h L).filter λp=>decide (p.1≠d)
end L2
namespace L2
open PySem PySem.Spec PyProof.Rows
structure Mod(K:W.Frag)(mg:Str->Option Value)(base:Heap):Prop where
 kin:K.In base
 glob:base.Ns mainGlobals mg
 blt:∃mb,base.Ns builtinsNs mb/\∀x:Str,x≠"__name__"->mb x=bootBuiltins x
 nolimit:base.NoLimit
structure Cx where
 prog:Program
 w:World
 K:W.Frag
 mg:Str->Option Value
 base:Heap
 A:Around
 N:List Str
 s₀:Shared
 H₀:Hp
 env:Env
 outer:List Env
 stack:List Env
 ex:List Addr
 fn:Str->Bool
 calm:Bool
 pn:List (Addr×Obj)
 xe:Value->Shared->Prop
def frs(l:List Env):List Addr:=l.filterMap (·.frame)
abbrev Cx.fs(X:Cx):List Addr:=frs X.outer
def Vis(sc:Scope)(x:Str):Prop:=sc.names.lookup x=some .local\/sc.names.lookup x=some .cell\/sc.names.lookup x=some .free
def Loc(sc:Scope)(x:Str):Prop:=sc.names.lookup x=some .local\/sc.names.lookup x=some .cell
def Look(env:Env)(h:Heap)(m:Str->Option Value)(x:Str)(u:Value):Prop:=
 (env.kindOf x=some .local/\m x=some u)\/((env.kindOf x=some .cell\/env.kindOf x=some .free)/\∃c,env.cells.lookup x=some c/\h.IsCell c (some u))
structure Cx.Ok(X:Cx):Prop where
 mod:Mod X.K X.mg X.base
 kind:X.env.scope.kind = .function
 glob:X.env.globals=mainGlobals
 blt:X.env.builtins=builtinsNs
 above:X.s₀.heap.objs.size<=X.env.locals
 inj:∀x y c,X.env.cells.lookup x=some c->X.env.cells.lookup y=some c->x=y
 has:∀x,(X.env.kindOf x=some .cell\/X.env.kindOf x=some .free)->∃c,X.env.cells.lookup x=some c
 cab:∀x c,X.fn x=true->X.env.cells.lookup x=some c->X.s₀.heap.objs.size<=c
 hd:X.calm=true->X.A.handled=none
 frames:X.A.frames=some X.stack
 stk:X.stack=X.outer\/(X.stack=X.env :: X.outer/\X.env.frame=some X.env.locals)
 exf:∀b∈X.ex,b≠X.env.locals/\∀x c,X.env.cells.lookup x=some c->c≠b
 bs:∀b o,X.base.get? b=some o->X.s₀.heap.get? b=some o/\X.H₀ b=none
 bsz:X.base.objs.size<=X.s₀.heap.objs.size
 noex:∀b o,X.base.get? b=some o->b ∉ X.ex
 exfs:∀b∈X.ex,b ∉ X.fs
 funs:X.s₀.heap.FunFrames X.base X.outer
 frf:∀b∈X.fs,X.H₀ b=none
structure Inv(X:Cx)(pins:List (Addr×Obj))(σ : List (Option V))(H:Hp)(s:Shared):Prop where
 ok:X.Ok
 os:s.os=X.s₀.os
 bare:AllBare s.gens
 base:Un X.fs X.ex X.H₀ H X.s₀.heap s.heap
 loc:∃m,s.heap.Ns X.env.locals m/\∀(i:Nat) (x:Str) (v:V),X.N[i]? = some x->σ[i]? = some (some v)->Vis X.env.scope x->∃u,RelV v u/\Look X.env s.heap m x u
 cell:∀x c,X.env.cells.lookup x=some c->∃v,s.heap.IsCell c v
 free:H X.env.locals=none
 freeC:∀x c,X.env.cells.lookup x=some c->H c=none
 pin:∀p∈X.pn ++ pins,s.heap.get? p.1=some p.2/\H p.1=none/\p.1≠X.env.locals/\p.1 ∉ X.fs/\∀v,p.2.data≠.cell v
 hok:HOk X.prog X.w H s.heap
 len : σ.length=X.N.length
section
variable{X:Cx}{pins:List (Addr×Obj)}{σ : List (Option V)}{H H':Hp}{s:Shared}{h':Heap}
theorem Cx.Ok.nofr(ok:X.Ok){b:Addr}{o:Obj}(e:X.base.get? b=some o):b ∉ X.fs:=λhb=>by
 have:=(ok.funs.mem hb).1
 rw[e]at this;cases this
theorem Inv.bs(I:Inv X pins σ H s):∀b o,X.base.get? b=some o->s.heap.get? b=some o/\H b=none:=λb o e=>
 ⟨I.base.keep b o (I.ok.bs b o e).1 (I.ok.bs b o e).2 (I.ok.nofr e) (I.ok.noex b o e),I.base.free b o (I.ok.bs b o e).1 (I.ok.bs b o e).2 (I.ok.noex b o e)⟩
theorem Inv.bk(I:Inv X pins σ H s):∀b o,X.base.get? b=some o->s.heap.get? b=some o:=λb o e=>(I.bs b o e).1
theorem Inv.mod(I:Inv X pins σ H s):Mod X.K X.mg X.base:=I.ok.mod
theorem Inv.kIn(I:Inv X pins σ H s):X.K.In s.heap:=I.ok.mod.kin.keeps I.bk
theorem Inv.nolimit(I:Inv X pins σ H s):s.heap.NoLimit:=I.ok.mod.nolimit.keeps I.bk
theorem Inv.lt(I:Inv X pins σ H s):X.env.locals < s.heap.objs.size:=let ⟨_,hn,_⟩:=I.loc;hn.lt
theorem Inv.sz(I:Inv X pins σ H s):X.s₀.heap.objs.size<=s.heap.objs.size:=Nat.le_trans I.ok.above (Nat.le_of_lt I.lt)
theorem Inv.nofs(I:Inv X pins σ H s){a:Addr}(h:s.heap.objs.size<=a):a ∉ X.fs:=λhb=>by
 obtain⟨_,o,ho,_⟩:=I.ok.funs.mem hb
 exact absurd (Nat.lt_of_lt_of_le (Heap.lt_size ho) (Nat.le_trans I.sz h)) (Nat.lt_irrefl _)
theorem Inv.cne(I:Inv X pins σ H s):∀x c,X.env.cells.lookup x=some c->c≠X.env.locals:=λx c e z=>by
 obtain⟨v,o,ho,hd⟩:=I.cell x c e
 obtain⟨m,⟨o',es,ep,ho',hd',_⟩,_⟩:=I.loc
 rw[z,ho']at ho;cases ho;rw[hd']at hd;cases hd
theorem Inv.funs(I:Inv X pins σ H s):s.heap.FunFrames X.base X.outer:=by
 have all:∀(l:List Env),(∀b∈frs l,b∈X.fs)->X.s₀.heap.FunFrames X.base l->s.heap.FunFrames X.base l:=by
  intro l
  induction l with
  | nil=>intro _ _;trivial
  | cons env r ih=>
   intro hs hl
   obtain⟨hk,⟨L,o,hf,hn,ho,hd⟩,hr⟩:=hl
   have hL:L∈X.fs:=hs L (by unfold frs;rw[List.filterMap_cons,hf];exact List.mem_cons_self)
   obtain⟨sl,e⟩:=I.base.slot L o ho (I.ok.frf L hL) hL λz=>I.ok.exfs L z hL
   exact⟨hk,⟨L,_,hf,hn,e,hd⟩,ih (λb hb=>hs b (by unfold frs;rw[List.filterMap_cons,hf];exact List.mem_cons_of_mem _ hb)) hr⟩
 exact all X.outer (λ_ hb=>hb) I.ok.funs
theorem Inv.stack(I:Inv X pins σ H s):s.heap.FunFrames X.base X.stack:=by
 rcases I.ok.stk with e | ⟨e,hf⟩
 ·rw[e];exact I.funs
 ·rw[e]
  obtain⟨m,hn,_⟩:=I.loc
  refine .cons (by rw[I.ok.kind];decide) hf hn ?_ I.funs
  exact Heap.get?_none_of_le (Nat.le_trans I.ok.bsz I.ok.above)
theorem Inv.stkSub(I:Inv X pins σ H s):∀b∈frs X.stack,b∈X.env.locals :: X.fs:=λb hb=>by
 rcases I.ok.stk with e | ⟨e,hf⟩
 ·rw[e]at hb;exact List.mem_cons_of_mem _ hb
 ·rw[e]at hb
  unfold frs at hb
  rw[List.filterMap_cons,hf]at hb
  exact hb
theorem Inv.stkFree(I:Inv X pins σ H s):∀b∈frs X.stack,H b=none:=λb hb=>by
 rcases List.mem_cons.mp (I.stkSub b hb) with e | hb
 ·rw[e];exact I.free
 ·obtain⟨_,o,ho,_⟩:=I.ok.funs.mem hb
  exact I.base.free b o ho (I.ok.frf b hb) λz=>I.ok.exfs b z hb
theorem Inv.step{g':Array GenState}{t':Nat}{d':Drawn}{ch:List Addr}(I:Inv X pins σ H s)
  (hch:∀b∈ch,(b∈X.ex\/X.s₀.heap.objs.size<=b)/\b≠X.env.locals/\(∀x c,X.env.cells.lookup x=some c->c≠b)/\∀p∈X.pn ++ pins,p.1≠b)
  (keep:∀b o,b≠X.env.locals->b ∉ X.fs->b ∉ ch->s.heap.get? b=some o->H b=none->h'.get? b=some o)
  (slot:∀b o,b≠X.env.locals->b∈X.fs->b ∉ ch->s.heap.get? b=some o->H b=none->∃sl,h'.get? b=some { o with slots:=sl }) (free:∀b o,b ∉ ch->s.heap.get? b=some o->H b=none->H' b=none)
  (there:∀b o,b ∉ ch->s.heap.get? b=some o->∃o',h'.get? b=some o')
  (tups:∀b xs,H b=some (.tup xs)->H' b=some (.tup xs)) (frzs:∀b o u,H b=some (.frz o u)->H' b=some (.frz o u)) (tbls:∀b ps,H b=some (.tbl ps)->∃more,H' b=some (.tbl (ps ++ more)))
  (ns:∀m,s.heap.Ns X.env.locals m->h'.Ns X.env.locals m) (hok:HOk X.prog X.w H' h') (hg:AllBare g') :
  Inv X pins σ H' { s with heap:=h',gens:=g',drawn:=d',toks:=t' }:=by
 have neL:∀b o,X.s₀.heap.get? b=some o->b≠X.env.locals:=λb o e=>Nat.ne_of_lt (Nat.lt_of_lt_of_le (Heap.lt_size e) I.ok.above)
 have neC:∀b o,X.s₀.heap.get? b=some o->b ∉ X.ex->b ∉ ch:=λb o e hx hb=>by
  rcases(hch b hb).1 with z | z
  ·exact hx z
  ·exact absurd (Nat.lt_of_lt_of_le (Heap.lt_size e) z) (Nat.lt_irrefl _)
 have cellK:∀x c,X.env.cells.lookup x=some c->∀v,s.heap.IsCell c v->h'.IsCell c v:=λx c e v ⟨o,ho,hd⟩=>by
  have nch:c ∉ ch:=λz=>(hch c z).2.2.1 x c e rfl
  by_cases hc:c∈X.fs
  ·obtain⟨sl,q⟩:=slot c o (I.cne x c e) hc nch ho (I.freeC x c e)
   exact⟨_,q,hd⟩
  ·exact⟨o,keep c o (I.cne x c e) hc nch ho (I.freeC x c e),hd⟩
 refine⟨I.ok,I.os,hg,⟨λb o e n hb hx => ?_,λb o e n hb hx => ?_,λb o e n hx => ?_,λb o e hx => ?_,λb xs e=>tups b xs (I.base.tups b xs e),λb o xs e=>frzs b o xs (I.base.frzs b o xs e),λb ps e => ?_⟩,?_,λx c e => ?_,?_,λx c e => ?_,λp hp => ?_,hok,I.len⟩
 ·exact keep b o (neL b o e) hb (neC b o e hx) (I.base.keep b o e n hb hx) (I.base.free b o e n hx)
 ·obtain⟨sl,e1⟩:=I.base.slot b o e n hb hx
  obtain⟨sl',e2⟩:=slot b _ (neL b o e) hb (neC b o e hx) e1 (I.base.free b o e n hx)
  exact⟨sl',e2⟩
 ·obtain⟨o',e1⟩:=I.base.there b o e hx
  exact free b o' (neC b o e hx) e1 (I.base.free b o e n hx)
 ·obtain⟨o',e1⟩:=I.base.there b o e hx
  exact there b o' (neC b o e hx) e1
 ·obtain⟨m1,e1⟩:=I.base.tbls b ps e
  obtain⟨m2,e2⟩:=tbls b _ e1
  exact⟨m1 ++ m2,by rw[e2,Array.append_assoc]⟩
 ·obtain⟨m,hn,hl⟩:=I.loc
  refine⟨m,ns m hn,λi x v e1 e2 e3 => ?_⟩
  obtain⟨u,r,l⟩:=hl i x v e1 e2 e3
  refine⟨u,r,?_⟩
  rcases l with l | ⟨k,c,e,z⟩
  ·exact .inl l
  ·exact .inr ⟨k,c,e,cellK x c e _ z⟩
 ·obtain⟨v,z⟩:=I.cell x c e
  exact⟨v,cellK x c e v z⟩
 ·obtain⟨m,⟨o,_,_,ho,_⟩,_⟩:=I.loc
  exact free _ o (λz=>(hch _ z).2.1 rfl) ho I.free
 ·obtain⟨v,o,ho,hd⟩:=I.cell x c e
  exact free c o (λz=>(hch c z).2.2.1 x c e rfl) ho (I.freeC x c e)
 ·obtain⟨e,n,ne,nf,d⟩:=I.pin p hp
  have nch:p.1 ∉ ch:=λz=>(hch p.1 z).2.2.2 p hp rfl
  exact⟨keep p.1 p.2 ne nf nch e n,free p.1 p.2 nch e n,ne,nf,d⟩
theorem Inv.un{t':Nat}(I:Inv X pins σ H s)(u:Un X.fs [] H H' s.heap h')(hok:HOk X.prog X.w H' h'):Inv X pins σ H' { s with heap:=h',toks:=t' }:=by
 obtain⟨m,⟨o,es,ep,ho,r⟩,_⟩:=id I.loc
 obtain⟨sl,hL⟩:=u.any ho I.free (by simp)
 exact I.step (g':=s.gens) (d':=s.drawn) (ch:=[]) (λ_ z=>nomatch z) (λb o _ hb _ e n=>u.keep b o e n hb (by simp)) (λb o _ hb _ e n=>u.slot b o e n hb (by simp)) (λb o _ e n=>u.free b o e n (by simp)) (λb o _ e=>u.there b o e (by simp)) u.tups u.frzs u.tbls (λm' hm=>by
  obtain⟨o',es',ep',ho',r'⟩:=hm
  rw[ho]at ho';cases ho'
  exact⟨_,es',ep',hL,r'⟩) hok I.bare
theorem Inv.call{g':Array GenState}{t':Nat}{d':Drawn}{ch:List Addr}(I:Inv X pins σ H s)(u:Un (frs X.stack) ch H H' s.heap h')(hok:HOk X.prog X.w H' h')(hg:AllBare g')
  (hch:∀b∈ch,(b∈X.ex\/X.s₀.heap.objs.size<=b)/\b≠X.env.locals/\(∀x c,X.env.cells.lookup x=some c->c≠b)/\∀p∈X.pn ++ pins,p.1≠b) :
  Inv X pins σ H' { s with heap:=h',gens:=g',drawn:=d',toks:=t' }:=by
 obtain⟨m,⟨o,es,ep,ho,r⟩,_⟩:=id I.loc
 obtain⟨sl,hL⟩:=u.any ho I.free λz=>(hch _ z).2.1 rfl
 exact I.step (ch:=ch) hch (λb o hL hb hc e n=>u.keep b o e n (λz=>(List.mem_cons.mp (I.stkSub b z)).elim hL hb) hc) (λb o _ _ hc e n=>u.any e n hc) (λb o hc e n=>u.free b o e n hc) (λb o hc e=>u.there b o e hc) u.tups u.frzs u.tbls (λm' hm=>by
  obtain⟨o',es',ep',ho',r'⟩:=hm
  rw[ho]at ho';cases ho'
  exact⟨_,es',ep',hL,r'⟩) hok hg
theorem Inv.turned{t':Nat}{it:Addr}(I:Inv X pins σ H s)(k:∀b o,b≠it->s.heap.get? b=some o->h'.get? b=some o)(hn:H it=none)(hL:it≠X.env.locals)
  (h1:it∈X.ex\/X.s₀.heap.objs.size<=it) (h2:∀x c,X.env.cells.lookup x=some c->c≠it) (h3:∀p∈X.pn ++ pins,p.1≠it):Inv X pins σ H { s with heap:=h',toks:=t' }:=by
 have nit:∀b u,H b=some u->b≠it:=λb u e z=>by rw[z,hn]at e;cases e
 refine I.step (g':=s.gens) (d':=s.drawn) (ch:=[it]) (λb hb => ?_) (λb o _ _ hc e _=>k b o (λz=>hc (by simp[z])) e) (λb o _ _ hc e _=>⟨o.slots,k b o (λz=>hc (by simp[z])) e⟩) (λ_ _ _ _ n=>n)
  (λb o hc e=>⟨o,k b o (λz=>hc (by simp[z])) e⟩) (λ_ _ e=>e) (λ_ _ _ e=>e) (λb ps e=>⟨#[],by rw[e];simp⟩) (λm hm => ?_) (λb u e => ?_) I.bare
 ·have e:b=it:=by simpa using hb
  subst e
  exact⟨h1,hL,h2,h3⟩
 ·obtain⟨o,es,ep,ho,r⟩:=hm
  exact⟨o,es,ep,k _ o (Ne.symm hL) ho,r⟩
 ·refine(I.hok b u e).stay (λc v hc q=>k c v ?_ q) (λ_ q=>q) λ_ _ q=>q
  rcases hc with z | z
  ·rw[z];exact nit b u e
  ·exact nit c _ z
theorem Inv.tok(I:Inv X pins σ H s)(t:Nat):Inv X pins σ H { s with toks:=t }:=I.un (h':=s.heap) (t':=t) Un.refl I.hok
theorem Inv.kept{t':Nat}(I:Inv X pins σ H s)(k:∀b u,s.heap.get? b=some u->h'.get? b=some u):Inv X pins σ H { s with heap:=h',toks:=t' }:=I.un (Un.kept k) (I.hok.kept k)
theorem Inv.laid{a:Addr}{o:HO}{t':Nat}(I:Inv X pins σ H s)(k:∀b u,s.heap.get? b=some u->h'.get? b=some u)(hp:s.heap.objs.size<=a)(new:ObjOk X.prog X.w (upd H a o) h' a o) :
  Inv X pins σ (upd H a o) { s with heap:=h',toks:=t' }:=I.un (Un.laid k hp (I.hok.fresh hp)) (I.hok.laid k hp new)
theorem Inv.write{x e:Addr}{o:HO}{t':Nat}(I:Inv X pins σ H s)(mu:Mut (H x))(he:e=x\/H e=some (.own x))(k:∀b u,b≠e->s.heap.get? b=some u->h'.get? b=some u)(heo:∃u,h'.get? e=some u)
  (new:ObjOk X.prog X.w (upd H x o) h' x o):Inv X pins σ (upd H x o) { s with heap:=h',toks:=t' }:=I.un (Un.write mu he k heo) (I.hok.write mu he k heo new)
theorem Inv.pins_of{pins':List (Addr×Obj)}(I:Inv X pins σ H s)(h:∀p∈pins',s.heap.get? p.1=some p.2/\H p.1=none/\p.1≠X.env.locals/\p.1 ∉ X.fs/\∀v,p.2.data≠.cell v):Inv X pins' σ H s:=
 ⟨I.ok,I.os,I.bare,I.base,I.loc,I.cell,I.free,I.freeC,λp hp=>(List.mem_append.mp hp).elim (λz=>I.pin p (List.mem_append_left _ z)) (h p),I.hok,I.len⟩
theorem zgd{N:List Str}(hN:N.Nodup){i j:Nat}{x:Str}(a:N[i]? = some x)(b:N[j]? = some x):i=j:=by
 obtain⟨h1,e1⟩:=List.getElem?_eq_some_iff.mp a
 obtain⟨h2,e2⟩:=List.getElem?_eq_some_iff.mp b
 exact(List.getElem_inj hN).mp (e1.trans e2.symm)
theorem zkt{M:Model}{A:Around}{E:Value->Shared->Prop}{i:Nat}{x:Str}{v:V}{u:Value}{Q:Unit->Shared->Prop}(I:Inv X pins σ H s)(hN:X.N.Nodup)(hi:X.N[i]? = some x)(hx:Loc X.env.scope x)(r:RelV v u)
  (h:∀s',Inv X pins (σ.set i (some v)) H s'->(∃a,Heap.SameBut a s.heap s'.heap/\(a=X.env.locals\/X.env.cells.lookup x=some a))->Q () s') (hf:X.fn x=true\/X.env.scope.names.lookup x=some .local:=by first | exact .inl rfl | exact .inr rfl | assumption):wpAny M A (storeName X.env x u) Q E s:=by
 obtain⟨m,hn,hl⟩:=id I.loc
 have hcls:(X.env.scope.kind == .class || (X.env.scope.kind == .module && X.env.locals != X.env.globals))=false:=by rw[I.ok.kind];rfl
 have hiσ : i < σ.length:=by rw[I.len];exact(List.getElem?_eq_some_iff.mp hi).1
 have cne:=I.cne
 have tracked:∀{a:Addr} {h':Heap},(∃o,s.heap.get? a=some o/\H a=none)->Heap.SameBut a s.heap h'->HOk X.prog X.w H h':=fun{a h'} ha hs b ob e=>by
  obtain⟨_,_,hfree⟩:=ha
  refine(I.hok b ob e).stay (λc w' hc q=>(hs.2 c ?_).trans q) (λ_ q=>q) λ_ _ q=>q
  rintro rfl
  rcases hc with rfl | hc
  ·rw[hfree]at e;cases e
  ·rw[hfree]at hc;cases hc
 rcases hx with hk | hk
 ·refine wpAny_storeName_local hk hn (λh' hn' hs => ?_) hcls
  obtain⟨oL,_,_,hoL,_⟩:=id hn
  refine h _ ⟨I.ok,I.os,I.bare,⟨λb o e n hb hx => ?_,λb o e n hb hx => ?_,I.base.free,λb o e hx => ?_,I.base.tups,I.base.frzs,I.base.tbls⟩,⟨_,hn',λj y v' e1 e2 e3 => ?_⟩,λy c e => ?_,I.free,I.freeC,λp hp => ?_,tracked ⟨oL,hoL,I.free⟩ hs,by simpa using I.len⟩ ⟨_,hs,.inl rfl⟩
  ·exact(hs.2 b (Nat.ne_of_lt (Nat.lt_of_lt_of_le (Heap.lt_size e) I.ok.above))).trans (I.base.keep b o e n hb hx)
  ·obtain⟨sl,e1⟩:=I.base.slot b o e n hb hx
   exact⟨sl,(hs.2 b (Nat.ne_of_lt (Nat.lt_of_lt_of_le (Heap.lt_size e) I.ok.above))).trans e1⟩
  ·obtain⟨o',e1⟩:=I.base.there b o e hx
   exact⟨o',(hs.2 b (Nat.ne_of_lt (Nat.lt_of_lt_of_le (Heap.lt_size e) I.ok.above))).trans e1⟩
  ·by_cases hj:j=i
   ·subst hj
    rw[hi]at e1;cases e1
    rw[List.getElem?_set_self hiσ]at e2
    cases e2
    exact⟨u,r,.inl ⟨hk,by simp⟩⟩
   ·rw[List.getElem?_set_ne (Ne.symm hj)]at e2
    obtain⟨u',r',q⟩:=hl j y v' e1 e2 e3
    refine⟨u',r',?_⟩
    rcases q with⟨k,e⟩ | ⟨k,c,e,z⟩
    ·refine .inl ⟨k,?_⟩
     have:y≠x:=λe=>hj (zgd hN e1 (e ▸ hi))
     simp[this,e]
    ·exact .inr ⟨k,c,e,z.sameBut hs (cne y c e)⟩
  ·obtain⟨w',z⟩:=I.cell y c e
   exact⟨w',z.sameBut hs (cne y c e)⟩
  ·obtain⟨e,n,ne,nf,d⟩:=I.pin p hp
   exact⟨(hs.2 p.1 ne).trans e,n,ne,nf,d⟩
 ·have hfn:X.fn x=true:=by
   rcases hf with z | z
   ·exact z
   ·rw[z]at hk;cases hk
  obtain⟨c,hc⟩:=I.ok.has x (.inl hk)
  obtain⟨w',z⟩:=I.cell x c hc
  refine wpAny_storeName_cell I.ok.kind hk hc z (λh' hc' hs => ?_)
  obtain⟨oc,hoc,hocd⟩:=id z
  refine h { s with heap:=h' } ⟨I.ok,I.os,I.bare,⟨λb o e n hb hx => ?_,λb o e n hb hx => ?_,I.base.free,λb o e hx => ?_,I.base.tups,I.base.frzs,I.base.tbls⟩,⟨m,hn.sameBut hs (Ne.symm (cne x c hc)),λj y v' e1 e2 e3 => ?_⟩,λy c' e => ?_,I.free,I.freeC,λp hp => ?_,tracked ⟨oc,hoc,I.freeC x c hc⟩ hs,by simpa using I.len⟩ ⟨c,hs,.inr hc⟩
  ·exact(hs.2 b (Nat.ne_of_lt (Nat.lt_of_lt_of_le (Heap.lt_size e) (I.ok.cab x c hfn hc)))).trans (I.base.keep b o e n hb hx)
  ·obtain⟨sl,e1⟩:=I.base.slot b o e n hb hx
   exact⟨sl,(hs.2 b (Nat.ne_of_lt (Nat.lt_of_lt_of_le (Heap.lt_size e) (I.ok.cab x c hfn hc)))).trans e1⟩
  ·obtain⟨o',e1⟩:=I.base.there b o e hx
   exact⟨o',(hs.2 b (Nat.ne_of_lt (Nat.lt_of_lt_of_le (Heap.lt_size e) (I.ok.cab x c hfn hc)))).trans e1⟩
  ·by_cases hj:j=i
   ·subst hj
    rw[hi]at e1;cases e1
    rw[List.getElem?_set_self hiσ]at e2
    cases e2
    exact⟨u,r,.inr ⟨.inl hk,c,hc,hc'⟩⟩
   ·rw[List.getElem?_set_ne (Ne.symm hj)]at e2
    obtain⟨u',r',q⟩:=hl j y v' e1 e2 e3
    refine⟨u',r',?_⟩
    rcases q with q | ⟨k,c',e,z'⟩
    ·exact .inl q
    ·refine .inr ⟨k,c',e,z'.sameBut hs ?_⟩
     rintro rfl
     exact hj (zgd hN e1 (I.ok.inj _ _ _ e hc ▸ hi))
  ·by_cases hcc:c'=c
   ·subst hcc;exact⟨_,hc'⟩
   ·obtain⟨w2,z2⟩:=I.cell y c' e
    exact⟨w2,z2.sameBut hs hcc⟩
  ·obtain⟨e,n,ne,nf,d⟩:=I.pin p hp
   refine⟨(hs.2 p.1 ?_).trans e,n,ne,nf,d⟩
   intro q
   rw[q,hoc]at e
   have q':oc=p.2:=Option.some.inj e
   exact d w' (by rw[<- q'];exact hocd)
theorem ze3{M:Model}{A:Around}{E:Value->Shared->Prop}{i:Nat}{x:Str}{v:V}{u:Value}{Q:Unit->Shared->Prop}(I:Inv X pins σ H s)(hN:X.N.Nodup)(hi:X.N[i]? = some x)(hx:Loc X.env.scope x)(r:RelV v u)
  (h:∀s',Inv X pins (σ.set i (some v)) H s'->Q () s') (hf:X.fn x=true\/X.env.scope.names.lookup x=some .local:=by first | exact .inl rfl | exact .inr rfl | assumption):wpAny M A (storeName X.env x u) Q E s:=
 zkt I hN hi hx r (λs' I' _=>h s' I') hf
theorem Inv.call'{s':Shared}{ch:List Addr}(I:Inv X pins σ H s)(ho:s'.os=s.os)(u:Un (frs X.stack) ch H H' s.heap s'.heap)(hok:HOk X.prog X.w H' s'.heap)(hg:AllBare s'.gens)
  (hch:∀b∈ch,(b∈X.ex\/X.s₀.heap.objs.size<=b)/\b≠X.env.locals/\(∀x c,X.env.cells.lookup x=some c->c≠b)/\∀p∈X.pn ++ pins,p.1≠b):Inv X pins σ H' s':=by
 obtain⟨h',g',d',t',o'⟩:=s'
 have e:o'=s.os:=ho
 subst e
 exact I.call (g':=g') (t':=t') (d':=d') u hok hg hch
end
abbrev XK:=Value->Option Addr->Hp->Prop
abbrev St:=List (Option V)
abbrev VK:=V->Hp->Prop
abbrev TE:=St->Hp->VK->Prop
abbrev TT:=St->Hp->(Bool->Hp->Prop)->Prop
abbrev TA:=St->Hp->(List V->Hp->Prop)->Prop
structure Ends where
 nx:St->Hp->Prop
 rt:VK
 bk:St->Hp->Prop:=λ_ _=>False
 ct:St->Hp->Prop:=λ_ _=>False
abbrev TS:=Ends->St->Hp->Prop
def EP(X:Cx)(pins:List (Addr×Obj))(σ : St)(Q:VK)(u:Value)(s':Shared):Prop:=∃v H',Inv X pins σ H' s'/\RelV v u/\Q v H'
def TP(X:Cx)(pins:List (Addr×Obj))(σ : St)(Q:Bool->Hp->Prop)(b:Bool)(s':Shared):Prop:=∃H',Inv X pins σ H' s'/\Q b H'
def AP(X:Cx)(pins:List (Addr×Obj))(σ : St)(Q:List V->Hp->Prop)(us:List Value)(s':Shared):Prop:=∃vs H',Inv X pins σ H' s'/\Vals vs us/\Q vs H'
def SP(X:Cx)(pins:List (Addr×Obj))(D:Ends)(f:Flow)(s':Shared):Prop:=
 match f with
 | .next=>∃σ' H',Inv X pins σ' H' s'/\D.nx σ' H'
 | .brk=>∃σ' H',Inv X pins σ' H' s'/\D.bk σ' H'
 | .cont=>∃σ' H',Inv X pins σ' H' s'/\D.ct σ' H'
 | .ret u=>∃v σ' H',Inv X pins σ' H' s'/\RelV v u/\D.rt v H'
def PE(X:Cx)(e:Expr)(t:TE):Prop:=
 ∀(pins:List (Addr×Obj)) (s:Shared) (σ : St) (H:Hp) (Q:VK),Inv X pins σ H s->t σ H Q->wpAny (model X.prog X.w) X.A (eval e X.env) (EP X pins σ Q) X.xe s
def PT(X:Cx)(e:Expr)(t:TT):Prop:=
 ∀(pins:List (Addr×Obj)) (s:Shared) (σ : St) (H:Hp) (Q:Bool->Hp->Prop),Inv X pins σ H s->t σ H Q->wpAny (model X.prog X.w) X.A (isTrue e X.env (eval e X.env)) (TP X pins σ Q) X.xe s
def PW(X:Cx)(e:Expr)(t:TT):Prop:=
 ∀(whole:Sem Value) (pins:List (Addr×Obj)) (s:Shared) (σ : St) (H:Hp) (Q:Bool->Hp->Prop),Inv X pins σ H s->t σ H Q->wpAny (model X.prog X.w) X.A (isTrue e X.env whole) (TP X pins σ Q) X.xe s
theorem PW.pt{X:Cx}{e:Expr}{t:TT}(h:PW X e t):PT X e t:=h _
def PA(X:Cx)(es:List Expr)(t:TA):Prop:=
 ∀(pos:Pos) (pins:List (Addr×Obj)) (s:Shared) (σ : St) (H:Hp) (Q:List V->Hp->Prop),Inv X pins σ H s->t σ H Q->wpAny (model X.prog X.w) X.A (spliced (backTo pos (starEach es X.env))) (AP X pins σ Q) X.xe s
def PS(X:Cx)(st:Stmt)(t:TS):Prop:=
 ∀(pins:List (Addr×Obj)) (s:Shared) (σ : St) (H:Hp) (D:Ends),Inv X pins σ H s->t D σ H->wpAny (model X.prog X.w) X.A (exec st X.env) (SP X pins D) X.xe s
def PSs(X:Cx)(st:List Stmt)(t:TS):Prop:=
 ∀(pins:List (Addr×Obj)) (s:Shared) (σ : St) (H:Hp) (D:Ends),Inv X pins σ H s->t D σ H->wpAny (model X.prog X.w) X.A (execs st X.env) (SP X pins D) X.xe s
theorem thn{α : Type}{t:Sem α}{Q Q' : α->Shared->Prop}{M:Model}{A:Around}{E:Value->Shared->Prop}{s:Shared}(h:wpAny M A t Q E s)(hQ:∀a s,Q a s->Q' a s):wpAny M A t Q' E s:=wpAny_mono h hQ λ_ _ x=>x
end L2
namespace L2
open PySem PySem.Spec PyProof.Rows
section
variable{X:Cx}
def tVar(i:Nat):TE:=λσ H Q=>∃v,σ[i]? = some (some v)/\Q v H
def tC(v:V):TE:=λ_ H Q=>Q v H
theorem zr2{i:Nat}{x:Str}{pos:Pos}(hN:X.N[i]? = some x)(hv:Vis X.env.scope x)(hd:(x == ("__debug__" : Str))=false:=by decide)(hcd:(x == ("__classdict__" : Str))=false:=by decide):PE X (.Name x pos) (tVar i):=by
 intro pins s σ H Q I h
 obtain⟨v,e,h⟩:=h
 obtain⟨m,hn,hl⟩:=I.loc
 obtain⟨u,r,l⟩:=hl i x v hN e hv
 have fin:EP X pins σ Q u s:=⟨v,H,I,r,h⟩
 rcases l with⟨hk,hm⟩ | ⟨hk,c,hc,hcell⟩
 ·exact wpAny_Name (wpAny_loadName_local I.ok.kind hk hn hm fin) hd
 ·rcases hk with hk | hk
  ·exact wpAny_Name (wpAny_loadName_cell I.ok.kind hk hc hcell fin) hd
  ·exact wpAny_Name (wpAny_loadName_free I.ok.kind hk hc hcell fin hcd) hd
theorem zak{i j pos}:PE X (.Constant (.int i) j pos) (tC (.int i)):=λ_ _ _ H _ I h=>wpAny_Constant_int ⟨.int i,H,I.tok _,⟨_,rfl⟩,h⟩
theorem zd3{b j pos}:PE X (.Constant (.bool b) j pos) (tC (.bl b)):=λ_ _ _ H _ I h=>Constant_bool ⟨.bl b,H,I,rfl,h⟩
theorem ze8{j pos}:PE X (.Constant .none j pos) (tC .non):=λ_ _ _ H _ I h=>Constant_none ⟨.non,H,I,rfl,h⟩
theorem zf1{x j pos}:PE X (.Constant (.str x) j pos) (tC (.str x)):=λ_ _ _ H _ I h=>Calls.Constant_str ⟨.str x,H,I.tok _,⟨_,rfl⟩,h⟩
def Gl(X:Cx)(x:Str):Prop:=X.env.kindOf x=some .globalImplicit
theorem zdm{E:Value->Shared->Prop}{pins:List (Addr×Obj)}{s:Shared}{σ : St}{H:Hp}{x:Str}{u:Value}{pos:Pos}{Q:Value->Shared->Prop}(I:Inv X pins σ H s)(hg:Gl X x)(hm:X.mg x=some u)(h:Q u s)
  (hd:(x == ("__debug__" : Str))=false:=by decide):wpAny (model X.prog X.w) X.A (eval (.Name x pos) X.env) Q E s:=
 Calls.Name_function_global I.ok.kind hg (Calls.loadGlobal_global (by rw[I.ok.glob];exact I.mod.glob.keeps I.bk) hm h) hd
theorem zdh{E:Value->Shared->Prop}{pins:List (Addr×Obj)}{s:Shared}{σ : St}{H:Hp}{x:Str}{u:Value}{pos:Pos}{Q:Value->Shared->Prop}(I:Inv X pins σ H s)(hg:Gl X x)(hm:X.mg x=none)(hv:bootBuiltins x=some u)(h:Q u s)
  (hn:x≠"__name__":=by decide) (hd:(x == ("__debug__" : Str))=false:=by decide):wpAny (model X.prog X.w) X.A (eval (.Name x pos) X.env) Q E s:=by
 obtain⟨mb,h1,h2⟩:=I.mod.blt
 exact Calls.Name_function_global I.ok.kind hg (Calls.loadGlobal_builtin (by rw[I.ok.glob];exact I.mod.glob.keeps I.bk) hm (by rw[I.ok.blt];exact h1.keeps I.bk) ((h2 x hn).trans hv) h) hd
theorem zeq{x:Str}{v:V}{u:Value}{pos:Pos}(hg:Gl X x)(hm:X.mg x=some u)(r:RelV v u)(hd:(x == ("__debug__" : Str))=false:=by decide):PE X (.Name x pos) (tC v):=
 λ_ _ _ H _ I h=>zdm I hg hm ⟨v,H,I,r,h⟩ hd
theorem zfn{x:Str}{v:V}{u:Value}{pos:Pos}(hg:Gl X x)(hm:X.mg x=none)(hv:bootBuiltins x=some u)(r:RelV v u)(hn:x≠"__name__":=by decide)(hd:(x == ("__debug__" : Str))=false:=by decide):PE X (.Name x pos) (tC v):=
 λ_ _ _ H _ I h=>zdh I hg hm hv ⟨v,H,I,r,h⟩ hn hd
def t2I(ta tb:TE)(k:Int->Int->Hp->Prop):St->Hp->Prop:=λσ H=>ta σ H λx H1=>tb σ H1 λy H2=>∃i j,x = .int i/\y = .int j/\k i j H2
def tAdd(ta tb:TE):TE:=λσ H Q=>t2I ta tb (λi j H2=>Q (.int (i + j)) H2) σ H
def tSub(ta tb:TE):TE:=λσ H Q=>t2I ta tb (λi j H2=>Q (.int (i - j)) H2) σ H
def tMul(ta tb:TE):TE:=λσ H Q=>t2I ta tb (λi j H2=>(-(2 ^ 64) < i/\i < 2 ^ 64)/\Q (.int (i * j)) H2) σ H
variable{a b:Expr}{ta tb:TE}{pos:Pos}
def PC(X:Cx)(op:CmpOp)(a b:Expr)(t:TE):Prop:=
 ∀(pins:List (Addr×Obj)) (s:Shared) (σ : St) (H:Hp) (Q:VK),Inv X pins σ H s->t σ H Q ->
  wpAny (model X.prog X.w) X.A (eval a X.env) (λv s₁=>wpAny (model X.prog X.w) X.A (eval b X.env) (λu s₂=>wpAny (model X.prog X.w) X.A (compareOp op v u) (EP X pins σ Q) X.xe s₂) X.xe s₁) X.xe s
def tCmp(p:Int->Int->Bool)(ta tb:TE):TE:=λσ H Q=>t2I ta tb (λi j H2=>Q (.bl (p i j)) H2) σ H
abbrev tLt:TE->TE->TE:=tCmp λi j=>decide (i < j)
abbrev tLe:TE->TE->TE:=tCmp λi j=>decide (i<=j)
abbrev tGt:TE->TE->TE:=tCmp λi j=>decide (j < i)
abbrev tGe:TE->TE->TE:=tCmp λi j=>decide (j<=i)
abbrev tEqI:TE->TE->TE:=tCmp λi j=>decide (i=j)
abbrev tNeI:TE->TE->TE:=tCmp λi j => !decide (i=j)
def tIsN(ta:TE):TE:=λσ H Q=>ta σ H λx H1=>Q (.bl (decide (x = .non))) H1
def tNotN(ta:TE):TE:=λσ H Q=>ta σ H λx H1=>Q (.bl (!decide (x = .non))) H1
def tB(t:TE):TT:=λσ H Q=>t σ H λx H1=>∃c,x = .bl c/\Q c H1
theorem zc9{e:Expr}{t:TE}(h:PE X e t)(he:∀whole,isTrue e X.env whole=(do let v <- whole;standAt e.pos;holding [v] (truthy v)):=by intro _;rfl):PT X e (tB t):=by
 intro pins s σ H Q I hw
 refine isTrue_plain (thn (h pins s σ H _ I hw) λv s1 ⟨x,H1,I1,r1,q1⟩ => ?_) (he _)
 obtain⟨d,rfl,q⟩:=q1
 cases r1
 exact wpAny_truthy_bool ⟨H1,I1,q⟩
variable{tA tB':TT}{rest:List Expr}
def tAnd(t u:TT):TT:=λσ H Q=>t σ H λc H1=>if c=true then u σ H1 Q else Q false H1
def tOr(t u:TT):TT:=λσ H Q=>t σ H λc H1=>if c=true then Q true H1 else u σ H1 Q
def tNot(t:TT):TT:=λσ H Q=>t σ H λc H1=>Q (!c) H1
theorem zqp(ha:PT X a tA):PW X (.BoolOp .And [a] pos) tA:=by
 intro wh pins s σ H Q I h
 refine isTrue_and (thn (ha pins s σ H Q I h) λc s1 e => ?_)
 cases c with
 | true=>exact isTrue_and_nil e
 | false=>exact e
theorem ziy(ha:PT X a tA):PW X (.BoolOp .Or [a] pos) tA:=by
 intro wh pins s σ H Q I h
 refine isTrue_or (thn (ha pins s σ H Q I h) λc s1 e => ?_)
 cases c with
 | false=>exact isTrue_or_nil e
 | true=>exact e
theorem zrw(ha:PT X a tA)(hb:PW X (.BoolOp .And (b :: rest) pos) tB'):PW X (.BoolOp .And (a :: b :: rest) pos) (tAnd tA tB'):=by
 intro wh pins s σ H Q I h
 refine isTrue_and (thn (ha pins s σ H _ I h) λc s1 ⟨H1,I1,q1⟩ => ?_)
 cases c with
 | true=>exact hb wh pins s1 σ H1 Q I1 q1
 | false=>exact⟨H1,I1,q1⟩
theorem zj7(ha:PT X a tA)(hb:PW X (.BoolOp .Or (b :: rest) pos) tB'):PW X (.BoolOp .Or (a :: b :: rest) pos) (tOr tA tB'):=by
 intro wh pins s σ H Q I h
 refine isTrue_or (thn (ha pins s σ H _ I h) λc s1 ⟨H1,I1,q1⟩ => ?_)
 cases c with
 | true=>exact⟨H1,I1,q1⟩
 | false=>exact hb wh pins s1 σ H1 Q I1 q1
theorem zee(ha:PT X a tA):PT X (.UnaryOp .Not a pos) (tNot tA):=by
 intro pins s σ H Q I h
 exact isTrue_not (ha pins s σ H (λc H1=>Q (!c) H1) I h)
def tAndV(ta tb:TE):TE:=λσ H Q=>ta σ H λx H1=>∃c,x = .bl c/\if c=true then tb σ H1 Q else Q (.bl false) H1
def tOrV(ta tb:TE):TE:=λσ H Q=>ta σ H λx H1=>∃c,x = .bl c/\if c=true then Q (.bl true) H1 else tb σ H1 Q
def tNotV(ta:TE):TE:=λσ H Q=>ta σ H λx H1=>∃c,x = .bl c/\Q (.bl (!c)) H1
theorem zma{op}{t:TE}(h:PE X a t):PE X (.BoolOp op [a] pos) t:=λpins s σ H Q I hw=>BoolOp_one (h pins s σ H Q I hw)
theorem zi0(ha:PE X a ta)(hb:PE X (.BoolOp .And (b :: rest) pos) tb):PE X (.BoolOp .And (a :: b :: rest) pos) (tAndV ta tb):=by
 intro pins s σ H Q I h
 refine BoolOp_and (thn (ha pins s σ H _ I h) λv s1 ⟨x,H1,I1,r1,q1⟩ => ?_)
 obtain⟨c,rfl,q1⟩:=q1
 cases r1
 refine wpAny_truthy_bool ?_
 cases c with
 | true=>exact hb pins s1 σ H1 Q I1 q1
 | false=>exact⟨.bl false,H1,I1,rfl,q1⟩
theorem zos(ha:PE X a ta):PE X (.UnaryOp .Not a pos) (tNotV ta):=by
 intro pins s σ H Q I h
 refine UnaryOp_ (thn (ha pins s σ H _ I h) λv s1 ⟨x,H1,I1,r1,q1⟩ => ?_)
 obtain⟨c,rfl,q1⟩:=q1
 cases r1
 exact not_of (wpAny_truthy_bool ⟨.bl (!c),H1,I1,rfl,q1⟩)
def tIf(t:TT)(ta tb:TE):TE:=λσ H Q=>t σ H λc H1=>if c=true then ta σ H1 Q else tb σ H1 Q
theorem zop{c:Expr}(hc:PT X c tA)(ha:PE X a ta)(hb:PE X b tb):PE X (.IfExp c a b pos) (tIf tA ta tb):=by
 intro pins s σ H Q I h
 refine wpAny_IfExp (thn (hc pins s σ H _ I h) λd s1 ⟨H1,I1,q1⟩ => ?_)
 cases d with
 | true=>exact ha pins s1 σ H1 Q I1 q1
 | false=>exact hb pins s1 σ H1 Q I1 q1
end
end L2
namespace L2
open PySem PySem.Spec PyProof.Rows
def SqL(K:W.Frag)(H:Hp)(a:Addr)(xs:List V):Prop:=
 Rd H a (.lst xs) \/
  ∃(o:Obj) (its:Array Value) (n:Nat),K.lookup a=some o/\o.cls = .type "list"/\o.dict=none/\o.data = .seq its n/\its.size<=sizeLine/\Vals xs its.toList
def SqT(K:W.Frag)(H:Hp)(a:Addr)(xs:List V):Prop:=
 Rd H a (.tup xs) \/
  ∃(o:Obj) (its:Array Value) (n:Nat),K.lookup a=some o/\o.cls = .type "tuple"/\o.data = .seq its n/\its.size<=sizeLine/\Vals xs its.toList
def absV:Value->Option V
 | .none=>some .non
 | .bool b=>some (.bl b)
 | .int i _=>some (.int i)
 | .str x _=>some (.str x)
 | .bytes b _=>some (.byt b)
 | .float b _=>some (.flt b)
 | .ref a=>some (.ref a)
 | .type n=>some (.ty n)
 | _=>none
theorem RelV.abs{x:V}{u:Value}(r:RelV x u):absV u=some x:=by
 cases x with
 | non=>cases r;rfl
 | bl _=>cases r;rfl
 | int _=>obtain⟨t,rfl⟩:=r;rfl
 | str _=>obtain⟨t,rfl⟩:=r;rfl
 | byt _=>obtain⟨t,rfl⟩:=r;rfl
 | flt _=>obtain⟨t,rfl⟩:=r;rfl
 | ref _=>cases r;rfl
 | ty _=>cases r;rfl
theorem RelV.inj{x y:V}{u:Value}(r:RelV x u)(q:RelV y u):x=y:=Option.some.inj (r.abs.symm.trans q.abs)
theorem Vals.inj:∀{xs ys:List V} {us:List Value},Vals xs us->Vals ys us->xs=ys
 | _,_,_,.nil,.nil=>rfl
 | _,_,_,.cons r t,.cons r' t'=>by rw[r.inj r',Vals.inj t t']
section
variable{X:Cx}{pins:List (Addr×Obj)}{σ : St}{H:Hp}{s:Shared}{a:Addr}{xs ys:List V}
theorem SqL.of{K:W.Frag}(h:H a=some (.lst xs)):SqL K H a xs := .inl (.inl h)
theorem SqT.of{K:W.Frag}(h:H a=some (.tup xs)):SqT K H a xs := .inl (.inl h)
theorem Inv.list(I:Inv X pins σ H s)(h:SqL X.K H a xs):∃its:List Value,Vals xs its/\PlainL s.heap a its.toArray/\xs.length<=sizeLine:=by
 rcases h with h | ⟨o,its,n,hk,hc,hd,hs,hz,r⟩
 ·obtain⟨z,its,n,r,e⟩:=h.ok I.hok
  exact⟨its,r,⟨_,n,e,rfl,rfl,rfl⟩,z⟩
 ·refine⟨its.toList,r,⟨o,n,I.kIn a o hk,hc,hd,by simpa using hs⟩,?_⟩
  have e:=r.length
  simp only[Array.length_toList]at e
  omega
theorem Inv.tuple(I:Inv X pins σ H s)(h:SqT X.K H a xs):∃its:List Value,Vals xs its/\IsTup s.heap a its.toArray/\xs.length<=sizeLine:=by
 rcases h with h | ⟨o,its,n,hk,hc,hs,hz,r⟩
 ·obtain⟨z,its,r,p⟩:=h.ok I.hok
  exact⟨its,r,p,z⟩
 ·refine⟨its.toList,r,⟨o,I.kIn a o hk,hc,n,by simpa using hs⟩,?_⟩
  have e:=r.length
  simp only[Array.length_toList]at e
  omega
theorem Inv.list_inj(I:Inv X pins σ H s)(h:SqL X.K H a xs)(h':SqL X.K H a ys):xs=ys:=by
 obtain⟨its,r,⟨o,n,e,_,_,d⟩,_⟩:=I.list h
 obtain⟨its',r',⟨o',n',e',_,_,d'⟩,_⟩:=I.list h'
 rw[e]at e';cases e'
 rw[d]at d'
 injection d' with d1 _
 have:its=its':=by simpa using congrArg Array.toList d1
 subst this
 exact r.inj r'
theorem Inv.tuple_inj(I:Inv X pins σ H s)(h:SqT X.K H a xs)(h':SqT X.K H a ys):xs=ys:=by
 obtain⟨its,r,⟨o,e,_,n,d⟩,_⟩:=I.tuple h
 obtain⟨its',r',⟨o',e',_,n',d'⟩,_⟩:=I.tuple h'
 rw[e]at e';cases e'
 rw[d]at d'
 injection d' with d1 _
 have:its=its':=by simpa using congrArg Array.toList d1
 subst this
 exact r.inj r'
end
abbrev Cx.wish(X:Cx)(E:Value->Shared->Prop):Cx:={ X with xe:=E }
abbrev Cx.nox(X:Cx):Cx:=X.wish λ_ _=>False
theorem Cx.Ok.wish{X:Cx}(ok:X.Ok)(E:Value->Shared->Prop):(X.wish E).Ok:=
 ⟨ok.mod,ok.kind,ok.glob,ok.blt,ok.above,ok.inj,ok.has,ok.cab,ok.hd,ok.frames,ok.stk,ok.exf,ok.bs,ok.bsz,ok.noex,ok.exfs,ok.funs,ok.frf⟩
theorem Cx.Ok.unwish{X:Cx}{E:Value->Shared->Prop}(ok:(X.wish E).Ok):X.Ok:=
 ⟨ok.mod,ok.kind,ok.glob,ok.blt,ok.above,ok.inj,ok.has,ok.cab,ok.hd,ok.frames,ok.stk,ok.exf,ok.bs,ok.bsz,ok.noex,ok.exfs,ok.funs,ok.frf⟩
section
variable{X:Cx}{pins:List (Addr×Obj)}{σ : St}{H:Hp}{s:Shared}{E:Value->Shared->Prop}
theorem Inv.wish(I:Inv X pins σ H s)(E:Value->Shared->Prop):Inv (X.wish E) pins σ H s:=⟨I.ok.wish E,I.os,I.bare,I.base,I.loc,I.cell,I.free,I.freeC,I.pin,I.hok,I.len⟩
theorem Inv.unwish(I:Inv (X.wish E) pins σ H s):Inv X pins σ H s:=⟨I.ok.unwish,I.os,I.bare,I.base,I.loc,I.cell,I.free,I.freeC,I.pin,I.hok,I.len⟩
theorem SP.unwish{D:Ends}{f:Flow}{s':Shared}(h:SP (X.wish E) pins D f s'):SP X pins D f s':=by
 cases f with
 | next=>obtain⟨σ',H',I,q⟩:=h;exact⟨σ',H',I.unwish,q⟩
 | brk=>obtain⟨σ',H',I,q⟩:=h;exact⟨σ',H',I.unwish,q⟩
 | cont=>obtain⟨σ',H',I,q⟩:=h;exact⟨σ',H',I.unwish,q⟩
 | ret u=>obtain⟨v,σ',H',I,r,q⟩:=h;exact⟨v,σ',H',I.unwish,r,q⟩
theorem PSs.nox{st:List Stmt}{t:TS}(h:PSs X.nox st t):PSs X st t:=λpins s σ H D I hw=>
 wpAny_mono (h pins s σ H D (I.wish _) hw) (λ_ _ q=>q.unwish) λ_ _ z=>False.elim z
end
section
variable{X:Cx}{st:Stmt}{rest:List Stmt}{t u:TS}{e:Expr}{te:TE}{pos:Pos}
def tNext:TS:=λD σ H=>D.nx σ H
def tSeq(t u:TS):TS:=λD σ H=>t { D with nx:=u D } σ H
theorem zaz:PSs X [] tNext:=λ_ _ σ H _ I h=>wpAny_execs_nil ⟨σ,H,I,h⟩
theorem zag(h1:PS X st t)(h2:PSs X rest u):PSs X (st :: rest) (tSeq t u):=by
 intro pins s σ H D I h
 refine wpAny_execs_cons (thn (h1 pins s σ H { D with nx:=u D } I h) λf s1 q => ?_)
 cases f with
 | next=>
  obtain⟨σ',H',I',q⟩:=q
  exact h2 pins s1 σ' H' D I' q
 | ret v=>exact q
 | brk=>exact q
 | cont=>exact q
theorem zah(h1:PS X st t):PSs X [st] t:=by
 intro pins s σ H D I h
 refine wpAny_execs_cons (thn (h1 pins s σ H D I h) λf s1 q => ?_)
 cases f with
 | next=>exact wpAny_execs_nil q
 | ret v=>exact q
 | brk=>exact q
 | cont=>exact q
def tBreak:TS:=λD σ H=>D.bk σ H
def tCont:TS:=λD σ H=>D.ct σ H
theorem Inv.quiet{pins:List (Addr×Obj)}{σ : St}{H:Hp}{s:Shared}(I:Inv X pins σ H s):interactive X.env=false:=by simp[interactive,I.ok.kind]
def tDrop(te:TE):TS:=λD σ H=>te σ H λ_ H1=>D.nx σ H1
theorem zdr(he:PE X e te)(hs:swapsWith e none pos.line X.env=pure false:=by rfl):PS X (.Expr e pos) (tDrop te):=by
 intro pins s σ H D I h
 exact wpAny_Expr_any (thn (he pins s σ H _ I h) λv s1 ⟨x,H1,I1,r1,q1⟩=>⟨σ,H1,I1,q1⟩) I.quiet hs
def tRet(te:TE):TS:=λD σ H=>te σ H D.rt
theorem zar(he:PE X e te):PS X (.Return (some e) pos) (tRet te):=by
 intro pins s σ H D I h
 exact wpAny_Return_some (thn (he pins s σ H _ I h) λv s1 ⟨x,H1,I1,r1,q1⟩=>⟨x,σ,H1,I1,r1,q1⟩)
def tRetN:TS:=λD _ H=>D.rt .non H
def tIfS(c:TT)(t u:TS):TS:=λD σ H=>c σ H λb H1=>if b=true then t D σ H1 else u D σ H1
theorem zcd{c:Expr}{a b:List Stmt}{tc:TT}(hc:PT X c tc)(ha:PSs X a t)(hb:PSs X b u):PS X (.If c a b pos) (tIfS tc t u):=by
 intro pins s σ H D I h
 refine wpAny_If (thn (hc pins s σ H _ I h) λd s1 ⟨H1,I1,q1⟩ => ?_)
 cases d with
 | true=>exact ha pins s1 σ H1 D I1 q1
 | false=>exact hb pins s1 σ H1 D I1 q1
def tNever:TS:=λ_ _ _=>False
end
abbrev TG:=V->St->Hp->(St->Hp->Prop)->Prop
abbrev TGs:=List V->St->Hp->(St->Hp->Prop)->Prop
def PG(X:Cx)(target:Expr)(t:TG):Prop:=
 ∀(pins:List (Addr×Obj)) (s:Shared) (σ : St) (H:Hp) (v:V) (u:Value) (Q:St->Hp->Prop),Inv X pins σ H s->RelV v u->t v σ H Q ->
  wpAny (model X.prog X.w) X.A (assign target X.env u) (λ_ s'=>∃σ' H',Inv X pins σ' H' s'/\Q σ' H') X.xe s
def PGs(X:Cx)(ts:List Expr)(t:TGs):Prop:=
 ∀(pins:List (Addr×Obj)) (s:Shared) (σ : St) (H:Hp) (vs:List V) (us:List Value) (Q:St->Hp->Prop),Inv X pins σ H s->Vals vs us->t vs σ H Q ->
  wpAny (model X.prog X.w) X.A (assignInOrder ((assignEach ts X.env).map (·.2)) us) (λ_ s'=>∃σ' H',Inv X pins σ' H' s'/\Q σ' H') X.xe s
abbrev TSet:=V->V->V->Hp->(Hp->Prop)->Prop
def PSet(X:Cx)(t:TSet):Prop:=
 ∀(pins:List (Addr×Obj)) (s:Shared) (σ : St) (H:Hp) (o i v:V) (ov iv u:Value) (Q:Hp->Prop),Inv X pins σ H s->RelV o ov->RelV i iv->RelV v u->t o i v H Q ->
  wpAny (model X.prog X.w) X.A (setItem ov iv u) (λ_ s'=>∃H',Inv X pins σ H' s'/\Q H') X.xe s
abbrev TIp:=V->V->Hp->VK->Prop
def PIp(X:Cx)(op:Operator)(t:TIp):Prop:=
 ∀(pins:List (Addr×Obj)) (s:Shared) (σ : St) (H:Hp) (x y:V) (v u:Value) (Q:VK),Inv X pins σ H s->RelV x v->RelV y u->t x y H Q ->
  wpAny (model X.prog X.w) X.A (inplaceOp op v u) (EP X pins σ Q) X.xe s
section
variable{X:Cx}{pos:Pos}
def gName(i:Nat):TG:=λv σ H Q=>Q (σ.set i (some v)) H
theorem zbj{i:Nat}{x:Str}(hN:X.N.Nodup)(hi:X.N[i]? = some x)(hx:Loc X.env.scope x)(hf:X.fn x=true\/X.env.scope.names.lookup x=some .local:=by first | exact .inl rfl | exact .inr rfl | assumption):PG X (.Name x pos) (gName i):=by
 intro pins s σ H v u Q I r h
 exact wpAny_assign_Name (ze3 I hN hi hx r (λs' I'=>⟨_,H,I',h⟩) hf)
def gNil:TGs:=λvs σ H Q=>vs=[]/\Q σ H
def gCons(t:TG)(u:TGs):TGs:=λvs σ H Q=>∃v r,vs=v :: r/\t v σ H λσ' H'=>u r σ' H' Q
theorem zqu:PGs X [] gNil:=by
 intro pins s σ H vs us Q I r h
 obtain⟨e,h⟩:=h
 subst e
 cases r
 exact assignInOrder_nil ⟨σ,H,I,h⟩
theorem zi6{e:Expr}{es:List Expr}{t:TG}{u:TGs}(h1:PG X e t)(h2:PGs X es u)
  (hs:(assignEach (e :: es) X.env).map (·.2)=assign e X.env :: (assignEach es X.env).map (·.2):=by rfl):PGs X (e :: es) (gCons t u):=by
 intro pins s σ H vs us Q I r h
 obtain⟨v,vr,e1,h⟩:=h
 subst e1
 cases r with
 | cons r rr=>
  rw[hs]
  refine assignInOrder_cons (thn (h1 pins s σ H _ _ _ I r h) λ_ s1 ⟨σ1,H1,I1,q1⟩ => ?_)
  exact h2 pins s1 σ1 H1 _ _ Q I1 rr q1
def gTup(K:W.Frag)(n:Nat)(t:TGs):TG:=λv σ H Q=>∃a xs,v = .ref a/\SqT K H a xs/\xs.length=n/\t xs σ H Q
theorem zr5{es:List Expr}{k:Nat}{t:TGs}{n:Nat}(hc:X.calm=true)(h:PGs X es t)
  (hn:(assignEach es X.env).length=n:=by rfl) (hst:(assignEach es X.env).findIdx? (·.1)=none:=by rfl):PG X (.Tuple es k pos) (gTup X.K n t):=by
 intro pins s σ H v u Q I r hw
 obtain⟨a,xs,e1,hq,hl,hw⟩:=hw
 subst e1
 cases r
 obtain⟨its,rv,ht,hz⟩:=I.tuple hq
 refine assign_Tuple_tuple (I.ok.hd hc) ht (by simp[hn,<- hl,rv.length]) hst λh' hx => ?_
 have I1:Inv X pins σ H { s with heap:=h' }:=I.kept (t':=s.toks) λb o e=>hx b o (Nat.ne_of_lt (Heap.lt_size e)) e
 exact h pins _ σ H xs _ Q I1 (by simpa using rv) hw
def gSub(to ti:TE)(t:TSet):TG:=λv σ H Q=>to σ H λo H1=>ti σ H1 λi H2=>t o i v H2 λH3=>Q σ H3
def tAsg(te:TE)(g:TG):TS:=λD σ H=>te σ H λx H1=>g x σ H1 D.nx
theorem zau{i:Nat}{x:Str}{e:Expr}{te:TE}{pos':Pos}(hN:X.N.Nodup)(hi:X.N[i]? = some x)(hx:Loc X.env.scope x)(he:PE X e te)(hs:swapsWith e (some (.Name x pos')) pos.line X.env=pure false:=by rfl)(hf:X.fn x=true\/X.env.scope.names.lookup x=some .local:=by first | exact .inl rfl | exact .inr rfl | assumption) :
  PS X (.Assign [.Name x pos'] e pos) (tAsg te (gName i)):=by
 intro pins s σ H D I h
 refine wpAny_Assign_Name (thn (he pins s σ H _ I h) λv s1 ⟨y,H1,I1,r1,q1⟩ => ?_) hs
 exact ze3 I1 hN hi hx r1 (λs2 I2=>⟨_,H1,I2,q1⟩) hf
def tPar(i j:Nat)(ta:TA):TS:=λD σ H=>ta σ H λvs H1=>∃v w,vs=[v,w]/\D.nx ((σ.set i (some v)).set j (some w)) H1
def tAug(i:Nat)(te:TE)(ti:TIp):TS:=λD σ H=>∃x,σ[i]? = some (some x)/\te σ H λy H1=>ti x y H1 λz H2=>D.nx (σ.set i (some z)) H2
theorem zrd{i:Nat}{x:Str}{e:Expr}{te:TE}{op:Operator}{ti:TIp}{pos':Pos}(hN:X.N.Nodup)(hi:X.N[i]? = some x)(hx:Loc X.env.scope x)(he:PE X e te)(ho:PIp X op ti)(hf:X.fn x=true\/X.env.scope.names.lookup x=some .local:=by first | exact .inl rfl | exact .inr rfl | assumption) :
  PS X (.AugAssign (.Name x pos') op e pos) (tAug i te ti):=by
 intro pins s σ H D I h
 obtain⟨v,e1,h⟩:=h
 obtain⟨m,hn,hl⟩:=I.loc
 have vis:Vis X.env.scope x:=by rcases hx with k | k;exact .inl k;exact .inr (.inl k)
 obtain⟨u,r,l⟩:=hl i x v hi e1 vis
 refine wpAny_AugAssign_Name ?_
 have go:wpAny (model X.prog X.w) X.A (eval e X.env) (λw s₂=>wpAny (model X.prog X.w) X.A (inplaceOp op u w) (λr s₃=>wpAny (model X.prog X.w) X.A (storeName X.env x r) (λ_=>SP X pins D .next) X.xe s₃) X.xe s₂) X.xe s:=by
  refine thn (he pins s σ H _ I h) λw s1 ⟨y,H1,I1,r1,q1⟩ => ?_
  refine thn (ho pins s1 σ H1 v y u w _ I1 r r1 q1) λz s2 ⟨zv,H2,I2,r2,q2⟩ => ?_
  exact ze3 I2 hN hi hx r2 (λs3 I3=>⟨_,H2,I3,q2⟩) hf
 rcases l with⟨hk,hm⟩ | ⟨hk,c,hc,hcell⟩
 ·exact wpAny_loadName_local I.ok.kind hk hn hm go
 ·rcases hk with hk | hk
  ·exact wpAny_loadName_cell I.ok.kind hk hc hcell go
  ·rcases hx with k | k
   ·have:X.env.scope.names.lookup x=some .free:=hk
    rw[k]at this;cases this
   ·have:X.env.scope.names.lookup x=some .free:=hk
    rw[k]at this;cases this
def tAugS(to ti te:TE)(tget:V->V->Hp->VK->Prop)(tip:TIp)(tset:TSet):TS:=λD σ H=>to σ H λo H1=>ti σ H1 λi H2=>tget o i H2 λx H3=>te σ H3 λy H4=>tip x y H4 λz H5=>tset o i z H5 λH6=>D.nx σ H6
def PGet(X:Cx)(t:V->V->Hp->VK->Prop):Prop:=
 ∀(pins:List (Addr×Obj)) (s:Shared) (σ : St) (H:Hp) (o i:V) (ov iv:Value) (Q:VK),Inv X pins σ H s->RelV o ov->RelV i iv->t o i H Q ->
  wpAny (model X.prog X.w) X.A (getItem ov iv) (EP X pins σ Q) X.xe s
def ipI(f:Int->Int->Int):TIp:=λx y H Q=>∃i j,x = .int i/\y = .int j/\Q (.int (f i j)) H
theorem zrm:PIp X .Add (ipI λi j=>i + j):=by
 intro pins s σ H x y v u Q I r1 r2 h
 obtain⟨i,j,e1,e2,q⟩:=h
 subst e1;subst e2
 obtain⟨t,rfl⟩:=r1
 obtain⟨t',rfl⟩:=r2
 exact iadd_int ⟨.int _,H,I.tok _,⟨_,rfl⟩,q⟩
end
section
variable{X:Cx}{pos:Pos}
def tWhile(c:TT)(tb:TS):TS:=λD σ H=>∃W:Nat->St->Hp->Prop,(∃m,W m σ H)/\∀m σ H,W m σ H ->
 c σ H λb H1=>if b=true then ∃N:St->Hp->Prop,(∀σ' H',N σ' H'->∃m',m' < m/\W m' σ' H')/\tb { D with nx:=N,ct:=N,bk:=D.nx } σ H1 else D.nx σ H1
theorem zeg{c:Expr}{body:List Stmt}{tc:TT}{tb:TS}(hp:PassesOwn (model X.prog X.w) X.A X.env X.xe)(hc:PT X c tc)(hb:PSs X body tb):PS X (.While c body [] pos) (tWhile tc tb):=by
 intro pins s σ H D I h
 obtain⟨W,⟨m0,w0⟩,turn⟩:=h
 refine wpAny_While (codeAny_whileLoop (λn s'=>∃σ' H',Inv X pins σ' H' s'/\W n σ' H') ?_ m0 ⟨σ,H,I,w0⟩)
 rintro n s1 ⟨σ1,H1,I1,w1⟩
 refine wpAny_passesOwn hp (thn (hc pins s1 σ1 H1 _ I1 (turn n σ1 H1 w1)) λb s2 ⟨H2,I2,q2⟩ => ?_)
 cases b with
 | true=>
  obtain⟨N,hN,q2⟩:=q2
  rw[if_pos rfl]
  refine wpAny_passesOwn hp (thn (hb pins s2 σ1 H2 _ I2 q2) λf s3 q3 => ?_)
  cases f with
  | next=>
   obtain⟨σ3,H3,I3,n3⟩:=q3
   obtain⟨m',hm,w3⟩:=hN σ3 H3 n3
   exact⟨m',hm,σ3,H3,I3,w3⟩
  | cont=>
   obtain⟨σ3,H3,I3,n3⟩:=q3
   obtain⟨m',hm,w3⟩:=hN σ3 H3 n3
   exact⟨m',hm,σ3,H3,I3,w3⟩
  | brk=>exact q3
  | ret v=>exact q3
 | false=>
  rw[if_neg Bool.false_ne_true]
  exact wpAny_execs_nil ⟨σ1,H2,I2,q2⟩
end
structure It where
 go:Nat->Hp->Prop
 yld:Nat->Hp->V->Hp->Prop
 stop:Nat->Hp->Prop
def FpOk(X:Cx)(pins:List (Addr×Obj))(H:Hp)(b:Addr):Prop:=
 H b=none/\b≠X.env.locals/\b ∉ X.fs/\(b∈X.ex\/X.s₀.heap.objs.size<=b)/\(∀x c,X.env.cells.lookup x=some c->c≠b)/\∀p∈X.pn ++ pins,p.1≠b
theorem Inv.fpOk{X:Cx}{pins:List (Addr×Obj)}{σ : St}{H H':Hp}{s:Shared}{b:Addr}(I:Inv X pins σ H s)(hb:s.heap.objs.size<=b)(hn:H' b=none):FpOk X pins H' b:=by
 refine⟨hn,Nat.ne_of_gt (Nat.lt_of_lt_of_le I.lt hb),I.nofs hb,.inr (Nat.le_trans I.sz hb),λx c e z => ?_,λp hp z => ?_⟩
 ·obtain⟨v,q⟩:=I.cell x c e
  exact absurd (Nat.lt_of_lt_of_le q.lt (by rw[z];exact hb)) (Nat.lt_irrefl _)
 ·exact absurd (Nat.lt_of_lt_of_le (Heap.lt_size (I.pin p hp).1) (by rw[z];exact hb)) (Nat.lt_irrefl _)
structure Turn(P:Program)(w:World)(K:W.Frag)(tg:Expr)(J:It)(fp:List Addr)(it:Addr)(tn:Nat->Heap->Prop):Prop where
 mem:it∈fp
 obj:∀i h,tn i h->∀b∈fp,∃o,h.get? b=some o/\∀v,o.data≠.cell v
 keep:∀i h h',tn i h->(∀b∈fp,∀o,h.get? b=some o->h'.get? b=some o)->tn i h'
 item:∀(X:Cx),X.prog=P->X.w=w->X.K=K->X.calm=true->∀(i:Nat) (pins:List (Addr×Obj)) (s:Shared) (σ : St) (H:Hp) (E:Value->Shared->Prop),Inv X pins σ H s->(∀b∈fp,FpOk X pins H b)->tn i s.heap->J.go i H ->
  wpAny (model P w) X.A (pyNext (.ref it)) (λr s1=>∃u,r=some u /\
   wpAny (model P w) X.A (letOwnedTupleGo tg (.ref it) u) (λ_ s2=>∃x H',Inv X pins σ H' s2/\RelV x u/\J.yld i H x H'/\tn (i + 1) s2.heap/\∀b∈fp,H' b=none) E s1) E s
 done:∀(X:Cx),X.prog=P->X.w=w->X.K=K->X.calm=true->∀(i:Nat) (pins:List (Addr×Obj)) (s:Shared) (σ : St) (H:Hp) (E:Value->Shared->Prop),Inv X pins σ H s->(∀b∈fp,FpOk X pins H b)->tn i s.heap->J.stop i H ->
  wpAny (model P w) X.A (pyNext (.ref it)) (λr s1=>r=none/\Inv X pins σ H s1) E s
 self:∀(A:Around) (i:Nat) (s:Shared) (Q:Value->Shared->Prop) (E:Value->Shared->Prop),tn i s.heap->Q (.ref it) s->wpAny (model P w) A (pyIter (.ref it)) Q E s
abbrev TI:=St->Hp->(It->Hp->Prop)->Prop
def PIE(X:Cx)(pins:List (Addr×Obj))(σ : St)(tg:Expr)(R:It->Hp->Prop)(itv:Value)(s2:Shared):Prop:=
 ∃(it:Addr) (fp:List Addr) (tn:Nat->Heap->Prop) (J:It) (H':Hp),itv = .ref it/\Inv X pins σ H' s2/\Turn X.prog X.w X.K tg J fp it tn/\tn 0 s2.heap/\(∀b∈fp,FpOk X pins H' b)/\R J H'
def PI(X:Cx)(tg iter:Expr)(wi:TI):Prop:=
 ∀(pins:List (Addr×Obj)) (s:Shared) (σ : St) (H:Hp) (R:It->Hp->Prop),Inv X pins σ H s->wi σ H R ->
  wpAny (model X.prog X.w) X.A (eval iter X.env) (λv s1=>wpAny (model X.prog X.w) X.A (pyIter v) (PIE X pins σ tg R) X.xe s1) X.xe s
theorem znb{M:Model}{A:Around}{E:Value->Shared->Prop}{s:Shared}{tg:Expr}{it:Addr}{u:Value}{o:Obj}{n:String}{vs:Array Value}{Q:Unit->Shared->Prop}(ho:s.heap.get? it=some o)(hc:o.cls = .type n)(hd:o.data = .fields vs)
  (hn:["enumerate","zip","dict_itemiterator","dict_reverseitemiterator","odict_iterator","itertools.zip_longest","itertools.pairwise"].contains n=false) (hQ:Q () s):wpAny M A (letOwnedTupleGo tg (.ref it) u) Q E s:=by
 unfold letOwnedTupleGo
 cases tg <;> first
  | exact wpAny_pure hQ
  | (cases u <;> first
    | exact wpAny_pure hQ
    | (refine wpAny_bind (wpAny_load ho ?_)
       rw[hc,hd]
       show wpAny M A (if (["enumerate","zip","dict_itemiterator","dict_reverseitemiterator","odict_iterator","itertools.zip_longest","itertools.pairwise"].contains n && vs[0]? == some (rawInt _))=true then _ else _) Q E s
       rw[if_neg (by intro h;rw[hn,Bool.false_and]at h;cases h)]
       exact wpAny_pure hQ))
def Itl(K:W.Frag)(a:Addr):It:=
 ⟨λi H=>∃xs x,SqL K H a xs/\xs[i]? = some x,λi H x H'=>H'=H/\∀xs,SqL K H a xs->xs[i]? = some x,λi H=>∃xs,SqL K H a xs/\xs.length<=i⟩
def Itt(K:W.Frag)(a:Addr):It:=
 ⟨λi H=>∃xs x,SqT K H a xs/\xs[i]? = some x,λi H x H'=>H'=H/\∀xs,SqT K H a xs->xs[i]? = some x,λi H=>∃xs,SqT K H a xs/\xs.length<=i⟩
def Itr(lo:Int)(n:Nat):It:=⟨λi _=>i < n,λi H x H'=>H'=H/\x = .int (lo + i),λi _=>n<=i⟩
theorem zmj{P:Program}{w:World}{K:W.Frag}{tg:Expr}(a it:Addr):Turn P w K tg (Itl K a) [it] it (λi h=>h.IsListIter it a i) where
 mem:=by simp
 obj:=λi h st b hb=>by
  have e:b=it:=by simpa using hb
  subst e
  obtain⟨o,e,c,d⟩:=st
  exact⟨o,e,λv z=>by rw[d]at z;cases z⟩
 keep:=λi h h' st k=>st.at λo e=>k it (by simp) o e
 item:=by
  intro X hP hw hK hc i pins s σ H E I hf st hg
  subst hP hw hK
  obtain⟨xs,x,hq,hx⟩:=hg
  obtain⟨its,rv,p,hz⟩:=I.list hq
  obtain⟨u,hu,ru⟩:=rv.get hx
  obtain⟨f0,f1,f2,f3,f4,f5⟩:=hf it (by simp)
  refine wpAny_pyNext_list_item st p.isList (x:=u) (by simpa using hu) λh' st' sb => ?_
  have I1:Inv X pins σ H { s with heap:=h' }:=I.turned (t':=s.toks) (λb o hb e=>(sb.2 b hb).trans e) f0 f1 f3 f4 f5
  obtain⟨o,e,c,d⟩:=id st'
  exact⟨u,rfl,znb (s:={ s with heap:=h' }) e c d (by decide) ⟨x,H,I1,ru,⟨rfl,λys hy=>by rw[I.list_inj hy hq];exact hx⟩,st',λb hb=>(hf b hb).1⟩⟩
 done:=by
  intro X hP hw hK hc i pins s σ H E I hf st hg
  subst hP hw hK
  obtain⟨xs,hq,hx⟩:=hg
  obtain⟨its,rv,p,hz⟩:=I.list hq
  obtain⟨f0,f1,f2,f3,f4,f5⟩:=hf it (by simp)
  have hl:=rv.length
  exact wpAny_pyNext_list_end (I.ok.hd hc) st p.isList (by simp;omega) λh' eb=>⟨rfl,I.turned (t':=s.toks) (λb o hb e=>eb b o hb e) f0 f1 f3 f4 f5⟩
 self:=λ_ _ _ _ _ st h=>wpAny_pyIter_listiter st h
theorem zjx{P:Program}{w:World}{K:W.Frag}{tg:Expr}(a it:Addr):Turn P w K tg (Itt K a) [it] it (λi h=>h.IsTupleIter it a i) where
 mem:=by simp
 obj:=λi h st b hb=>by
  have e:b=it:=by simpa using hb
  subst e
  obtain⟨o,e,c,d⟩:=st
  exact⟨o,e,λv z=>by rw[d]at z;cases z⟩
 keep:=λi h h' st k=>st.at λo e=>k it (by simp) o e
 item:=by
  intro X hP hw hK hc i pins s σ H E I hf st hg
  subst hP hw hK
  obtain⟨xs,x,hq,hx⟩:=hg
  obtain⟨its,rv,p,hz⟩:=I.tuple hq
  obtain⟨u,hu,ru⟩:=rv.get hx
  obtain⟨f0,f1,f2,f3,f4,f5⟩:=hf it (by simp)
  refine wpAny_pyNext_tuple_item st (show s.heap.IsTuple a its.toArray from p) (x:=u) (by simpa using hu) λh' st' sb => ?_
  have I1:Inv X pins σ H { s with heap:=h' }:=I.turned (t':=s.toks) (λb o hb e=>(sb.2 b hb).trans e) f0 f1 f3 f4 f5
  obtain⟨o,e,c,d⟩:=id st'
  exact⟨u,rfl,znb (s:={ s with heap:=h' }) e c d (by decide) ⟨x,H,I1,ru,⟨rfl,λys hy=>by rw[I.tuple_inj hy hq];exact hx⟩,st',λb hb=>(hf b hb).1⟩⟩
 done:=by
  intro X hP hw hK hc i pins s σ H E I hf st hg
  subst hP hw hK
  obtain⟨xs,hq,hx⟩:=hg
  obtain⟨its,rv,p,hz⟩:=I.tuple hq
  obtain⟨f0,f1,f2,f3,f4,f5⟩:=hf it (by simp)
  have hl:=rv.length
  exact wpAny_pyNext_tuple_end (I.ok.hd hc) st (show s.heap.IsTuple a its.toArray from p) (by simp;omega) λh' eb=>⟨rfl,I.turned (t':=s.toks) (λb o hb e=>eb b o hb e) f0 f1 f3 f4 f5⟩
 self:=λ_ _ _ _ _ st h=>wpAny_pyIter_tupleiter st h
theorem zj2{P:Program}{w:World}{K:W.Frag}{tg:Expr}(it:Addr)(lo:Int)(n:Nat):Turn P w K tg (Itr lo n) [it] it (λi h=>IsRangeIter h it (lo + (i:Nat) * 1) ((n:Int) - (i:Nat)) 1) where
 mem:=by simp
 obj:=λi h st b hb=>by
  have e:b=it:=by simpa using hb
  subst e
  exact⟨_,st,λv z=>by
   have z':Data.fields _=Data.cell v:=z
   cases z'⟩
 keep:=λi h h' st k=>k it (by simp) _ st
 item:=by
  intro X hP hw hK hc i pins s σ H E I hf st hg
  subst hP hw hK
  obtain⟨f0,f1,f2,f3,f4,f5⟩:=hf it (by simp)
  have W:=Walks.range (prog:=X.prog) (w:=X.w) (I.ok.hd hc) it lo 1 n
  refine W.item i s _ _ hg st λv h' tk hv st' kk => ?_
  obtain⟨t,rfl⟩:=hv
  have I1:Inv X pins σ H { s with heap:=h',toks:=tk }:=I.turned (λb o hb e=>kk b o (by simpa using hb) e) f0 f1 f3 f4 f5
  refine⟨_,rfl,znb (s:={ s with heap:=h',toks:=tk }) (n:="range_iterator") st' rfl rfl (by decide) ⟨.int (lo + i),H,I1,⟨t,?_⟩,⟨rfl,rfl⟩,st',λb hb=>(hf b hb).1⟩⟩
  rw[Int.mul_one]
 done:=by
  intro X hP hw hK hc i pins s σ H E I hf st hg
  subst hP hw hK
  obtain⟨f0,f1,f2,f3,f4,f5⟩:=hf it (by simp)
  exact wpAny_pyNext_range_end (I.ok.hd hc) st (by have:n<=i:=hg;omega) λh' eb=>⟨rfl,I.turned (t':=s.toks) (λb o hb e=>eb b o hb e) f0 f1 f3 f4 f5⟩
 self:=λ_ _ _ _ _ st h=>wpAny_pyIter_rangeiter st h
end L2
namespace L2
open PySem PySem.Spec PyProof.Rows
section
variable{X:Cx}{tg:Expr}
def iList(K:W.Frag)(tl:TE):TI:=λσ H R=>tl σ H λx H1=>∃a,x = .ref a/\(∃xs,SqL K H1 a xs)/\R (Itl K a) H1
def iTup(K:W.Frag)(tl:TE):TI:=λσ H R=>tl σ H λx H1=>∃a,x = .ref a/\(∃xs,SqT K H1 a xs)/\R (Itt K a) H1
theorem zq9{l:Expr}{tl:TE}(hl:PE X l tl):PI X tg l (iList X.K tl):=by
 intro pins s σ H R I h
 refine thn (hl pins s σ H _ I h) λv s1 ⟨x,H1,I1,r1,q1⟩ => ?_
 obtain⟨a,e,⟨xs,hq⟩,q⟩:=q1
 subst e
 cases r1
 obtain⟨its,rv,p,hz⟩:=I1.list hq
 refine wpAny_pyIter_list p.isList ?_
 refine⟨s1.heap.objs.size,[s1.heap.objs.size],_,_,H1,rfl,I1.kept (t':=s1.toks) λb o e=>Heap.get?_push_of_some _ e,zmj a _,⟨_,Heap.get?_push_size _ rfl,rfl,rfl⟩,λb hb => ?_,q⟩
 have e:b=s1.heap.objs.size:=by simpa using hb
 subst e
 exact I1.fpOk (Nat.le_refl _) (I1.hok.fresh (Nat.le_refl _))
theorem zsd{l:Expr}{tl:TE}(hl:PE X l tl):PI X tg l (iTup X.K tl):=by
 intro pins s σ H R I h
 refine thn (hl pins s σ H _ I h) λv s1 ⟨x,H1,I1,r1,q1⟩ => ?_
 obtain⟨a,e,⟨xs,hq⟩,q⟩:=q1
 subst e
 cases r1
 obtain⟨its,rv,p,hz⟩:=I1.tuple hq
 refine wpAny_pyIter_tuple (show s1.heap.IsTuple a its.toArray from p) ?_
 refine⟨s1.heap.objs.size,[s1.heap.objs.size],_,_,H1,rfl,I1.kept (t':=s1.toks) λb o e=>Heap.get?_push_of_some _ e,zjx a _,⟨_,Heap.get?_push_size _ rfl,rfl,rfl⟩,λb hb => ?_,q⟩
 have e:b=s1.heap.objs.size:=by simpa using hb
 subst e
 exact I1.fpOk (Nat.le_refl _) (I1.hok.fresh (Nat.le_refl _))
theorem znv{pins:List (Addr×Obj)}{σ : St}{H:Hp}{s:Shared}{R:It->Hp->Prop}{E:Value->Shared->Prop}{lo hi:Int}{t u v:Tok}{tk:Nat}(I:Inv X pins σ H s)(h1 : -(2 ^ 62)<=lo)(h2:lo < 2 ^ 62)(h3 : -(2 ^ 62)<=hi)(h4:hi < 2 ^ 62)
  (q:R (Itr lo (hi - lo).toNat) H):wpAny (model X.prog X.w) X.A (pyIter (.ref s.heap.objs.size)) (PIE X pins σ tg R) E { s with heap:=s.heap.push { cls := .type "range",data := .fields #[.int lo t,.int hi u,.int 1 v] },toks:=tk }:=by
 refine wpAny_pyIter_range (IsRange.new ..) (small_one h1 h2 h3 h4) ?_
 have I1:Inv X pins σ H { s with heap:=s.heap.push { cls := .type "range",data := .fields #[.int lo t,.int hi u,.int 1 v] },toks:=tk }:=I.kept λb o e=>Heap.get?_push_of_some _ e
 refine⟨(s.heap.push { cls := .type "range",data := .fields #[.int lo t,.int hi u,.int 1 v] }).objs.size,[(s.heap.push { cls := .type "range",data := .fields #[.int lo t,.int hi u,.int 1 v] }).objs.size],_,_,H,rfl,
  I1.kept (t':=tk) λb o e=>Heap.get?_push_of_some _ e,zj2 _ lo (hi - lo).toNat,?_,λb hb => ?_,q⟩
 ·have e1:lo + ((0:Nat):Int) * 1=lo:=by simp
  have e2:(((hi - lo).toNat:Nat):Int) - ((0:Nat):Int)=Builtin.Range.rangeSize lo hi 1:=by rw[rangeSize_one];split <;> omega
  show IsRangeIter _ _ (lo + ((0:Nat):Int) * 1) ((((hi - lo).toNat:Nat):Int) - ((0:Nat):Int)) 1
  rw[e1,e2]
  exact Heap.get?_push_size _ rfl
 ·have e:b=(s.heap.push { cls := .type "range",data := .fields #[.int lo t,.int hi u,.int 1 v] }).objs.size:=by simpa using hb
  subst e
  exact I1.fpOk (Nat.le_refl _) (I1.hok.fresh (Nat.le_refl _))
def iRng1(ta:TA):TI:=λσ H R=>ta σ H λvs H1=>∃j:Int,vs=[.int j]/\-(2 ^ 62)<=j/\j < 2 ^ 62/\R (Itr 0 j.toNat) H1
def iRng2(ta:TA):TI:=λσ H R=>ta σ H λvs H1=>∃i j:Int,vs=[.int i,.int j]/\(-(2 ^ 62)<=i/\i < 2 ^ 62/\-(2 ^ 62)<=j/\j < 2 ^ 62)/\R (Itr i (j - i).toNat) H1
theorem zb9{a:Expr}{ta:TA}{p pos:Pos}(hg:Gl X "range")(hm:X.mg "range" = none)(ha:PA X [a] ta)(hs:starEach [a] X.env=[(false,eval a X.env)]:=by rfl):PI X tg (.Call (.Name "range" p) [a] [] pos) (iRng1 ta):=by
 intro pins s σ H R I h
 refine Call_ (zdh I hg hm boot_range (PyProof.Rows.callWith_type1 (thn (ha pos pins s σ H _ I h) λus s1 ⟨vs,H1,I1,r1,q1⟩ => ?_) hs rfl))
 obtain⟨j,e,q1,q2,q⟩:=q1
 subst e
 cases r1 with
 | cons r rr=>
  cases rr
  obtain⟨t,rfl⟩:=r
  exact call_range_1 (znv I1 (by omega) (by omega) q1 q2 (by simpa using q))
def tFor(wi:TI)(g:TG)(tb:TS):TS:=λD σ H=>wi σ H λJ H1=>∃W:Nat->Nat->St->Hp->Prop,(∃m,W 0 m σ H1)/\∀i m σ H,W i m σ H ->
 (J.stop i H/\D.nx σ H)\/(J.go i H/\∃N:St->Hp->Prop,(∀σ' H',N σ' H'->∃m',m' < m/\W (i + 1) m' σ' H')/\∀x H',J.yld i H x H'->g x σ H' λσ2 H2=>tb { D with nx:=N,ct:=N,bk:=D.nx } σ2 H2)
def pinsAt(fp:List Addr)(h:Heap):List (Addr×Obj):=fp.filterMap λb=>(h.get? b).map λo=>(b,o)
theorem zda{fp:List Addr}{h:Heap}{b:Addr}{o:Obj}(hb:b∈fp)(e:h.get? b=some o):(b,o)∈pinsAt fp h:=List.mem_filterMap.mpr ⟨b,hb,by rw[e];rfl⟩
theorem zkx{fp:List Addr}{h:Heap}{p:Addr×Obj}(hp:p∈pinsAt fp h):p.1∈fp/\h.get? p.1=some p.2:=by
 obtain⟨b,hb,e⟩:=List.mem_filterMap.mp hp
 cases q:h.get? b with
 | none=>rw[q]at e;cases e
 | some o=>
  rw[q]at e
  have e':(b,o)=p:=Option.some.inj e
  subst e'
  exact⟨hb,q⟩
theorem Inv.pinned{pins:List (Addr×Obj)}{σ : St}{H:Hp}{s:Shared}{fp:List Addr}(I:Inv X pins σ H s)(hf:∀b∈fp,FpOk X pins H b)(ho:∀b∈fp,∃o,s.heap.get? b=some o/\∀v,o.data≠.cell v):Inv X (pins ++ pinsAt fp s.heap) σ H s:=
 I.pins_of λp hp=>(List.mem_append.mp hp).elim (λz=>I.pin p (List.mem_append_right _ z)) λz=>by
  obtain⟨hb,e⟩:=zkx z
  obtain⟨f0,f1,f2,_⟩:=hf p.1 hb
  obtain⟨o,e',d⟩:=ho p.1 hb
  rw[e]at e';cases e'
  exact⟨e,f0,f1,f2,d⟩
theorem Inv.unpinned{pins pl:List (Addr×Obj)}{σ : St}{H:Hp}{s:Shared}(I:Inv X (pins ++ pl) σ H s):Inv X pins σ H s:=I.pins_of λp hp=>I.pin p (List.mem_append_right _ (List.mem_append_left _ hp))
theorem zdk{iter:Expr}{body:List Stmt}{wi:TI}{g:TG}{tb:TS}{pos:Pos}(hp:PassesOwn (model X.prog X.w) X.A X.env X.xe)(hc:X.calm=true)(hi:PI X tg iter wi)(hg:PG X tg g)(hb:PSs X body tb)
  (hs:∀x,foldedSetIterable iter X.env x=pure x:=by intro _;rfl):PS X (.For tg iter body [] pos) (tFor wi g tb):=by
 intro pins s σ H D I h
 refine wpAny_For (thn (hi pins s σ H _ I h) λv s1 h1=>thn h1 λitv s2 h2 => ?_) hs
 obtain⟨it,fp,tn,J,H2,e,I2,T,st2,f2,W,⟨m0,w0⟩,turn⟩:=h2
 subst e
 -- what stays true of the iterator's objects through the loop
 have stat:∀{H':Hp},(∀b∈fp,H' b=none)->∀b∈fp,FpOk X pins H' b:=λhn b hb=>⟨hn b hb,(f2 b hb).2⟩
 refine codeAny_forLoop_any (λn s'=>∃i σ' H',Inv X pins σ' H' s'/\tn i s'.heap/\(∀b∈fp,H' b=none)/\W i n σ' H') ?_ m0 ⟨0,σ,H2,I2,st2,λb hb=>(f2 b hb).1,w0⟩
 rintro n s3 ⟨i,σ3,H3,I3,st3,fr3,w3⟩
 rcases turn i n σ3 H3 w3 with⟨stop,qn⟩ | ⟨go,N,hN,step⟩
 ·refine wpAny_passesOwn hp (thn (T.done X rfl rfl rfl hc i pins s3 σ3 H3 X.xe I3 (stat fr3) st3 stop) λr s4 ⟨hr,I4⟩ => ?_)
  subst hr
  exact wpAny_execs_nil ⟨σ3,H3,I4,qn⟩
 ·refine wpAny_passesOwn hp (thn (T.item X rfl rfl rfl hc i pins s3 σ3 H3 X.xe I3 (stat fr3) st3 go) λr s4 ⟨u,hr,h4⟩ => ?_)
  subst hr
  refine wpAny_passesOwn hp (thn h4 λ_ s5 ⟨x,H5,I5,r5,y5,st5,fr5⟩ => ?_)
  have I5':=I5.pinned (stat fr5) (T.obj _ _ st5)
  refine wpAny_passesOwn hp (thn (hg _ s5 σ3 H5 x u _ I5' r5 (step x H5 y5)) λ_ s6 ⟨σ6,H6,I6,q6⟩ => ?_)
  refine wpAny_passesOwn hp (thn (hb _ s6 σ6 H6 _ I6 q6) λf s7 q7 => ?_)
  have again:∀{σ7:St} {H7:Hp},Inv X (pins ++ pinsAt fp s5.heap) σ7 H7 s7->N σ7 H7->∃m,m < n/\∃i σ' H',Inv X pins σ' H' s7/\tn i s7.heap/\(∀b∈fp,H' b=none)/\W i m σ' H':=fun{σ7 H7} I7 n7=>by
   obtain⟨m',hm,w7⟩:=hN σ7 H7 n7
   refine⟨m',hm,i + 1,σ7,H7,I7.unpinned,T.keep _ _ _ st5 λb hb o e=>(I7.pin (b,o) (List.mem_append_right _ (List.mem_append_right _ (zda hb e)))).1,λb hb => ?_,w7⟩
   obtain⟨o,e,d⟩:=T.obj _ _ st5 b hb
   exact(I7.pin (b,o) (List.mem_append_right _ (List.mem_append_right _ (zda hb e)))).2.1
  cases f with
  | next=>obtain⟨σ7,H7,I7,n7⟩:=q7;exact again I7 n7
  | cont=>obtain⟨σ7,H7,I7,n7⟩:=q7;exact again I7 n7
  | brk=>obtain⟨σ7,H7,I7,q7⟩:=q7;exact⟨σ7,H7,I7.unpinned,q7⟩
  | ret v=>obtain⟨x7,σ7,H7,I7,r7,q7⟩:=q7;exact⟨x7,σ7,H7,I7.unpinned,r7,q7⟩
end
theorem zd9{K:W.Frag}{a:Addr}{xs:List V}{g:TG}{tb:TS}{D:Ends}{σ : St}{H:Hp}(Pv:Nat->St->Hp->Prop)(h0:Pv 0 σ H)(hl:∀i σ H,i<=xs.length->Pv i σ H->SqL K H a xs)
  (hs:∀i x σ H,xs[i]? = some x->Pv i σ H->g x σ H λσ2 H2=>tb { D with nx:=Pv (i + 1),ct:=Pv (i + 1),bk:=D.nx } σ2 H2) (hd:∀σ H,Pv xs.length σ H->D.nx σ H) :
  ∃W:Nat->Nat->St->Hp->Prop,(∃m,W 0 m σ H)/\∀i m σ H,W i m σ H ->
   ((Itl K a).stop i H/\D.nx σ H)\/((Itl K a).go i H/\∃N:St->Hp->Prop,(∀σ' H',N σ' H'->∃m',m' < m/\W (i + 1) m' σ' H')/\∀x H',(Itl K a).yld i H x H'->g x σ H' λσ2 H2=>tb { D with nx:=N,ct:=N,bk:=D.nx } σ2 H2):=by
 refine⟨λi m σ H=>m=xs.length - i/\i<=xs.length/\Pv i σ H,⟨xs.length,by simp,Nat.zero_le _,h0⟩,?_⟩
 rintro i m σ H ⟨rfl,hi,p⟩
 have q:=hl i σ H hi p
 by_cases hlt:i < xs.length
 ·refine .inr ⟨⟨xs,xs[i],q,by simp[hlt]⟩,Pv (i + 1),λσ' H' p'=>⟨xs.length - (i + 1),by omega,rfl,hlt,p'⟩,λx H' y => ?_⟩
  obtain⟨e,y⟩:=y
  subst e
  exact hs i x σ _ (y xs q) p
 ·have e:i=xs.length:=by omega
  subst e
  exact .inl ⟨⟨xs,q,Nat.le_refl _⟩,hd σ H p⟩
theorem zcw{lo:Int}{n:Nat}{g:TG}{tb:TS}{D:Ends}{σ : St}{H:Hp}(Pv:Nat->St->Hp->Prop)(h0:Pv 0 σ H)
  (hs:∀i σ H,i < n->Pv i σ H->g (.int (lo + i)) σ H λσ2 H2=>tb { D with nx:=Pv (i + 1),ct:=Pv (i + 1),bk:=D.nx } σ2 H2) (hd:∀σ H,Pv n σ H->D.nx σ H) :
  ∃W:Nat->Nat->St->Hp->Prop,(∃m,W 0 m σ H)/\∀i m σ H,W i m σ H ->
   ((Itr lo n).stop i H/\D.nx σ H)\/((Itr lo n).go i H/\∃N:St->Hp->Prop,(∀σ' H',N σ' H'->∃m',m' < m/\W (i + 1) m' σ' H')/\∀x H',(Itr lo n).yld i H x H'->g x σ H' λσ2 H2=>tb { D with nx:=N,ct:=N,bk:=D.nx } σ2 H2):=by
 refine⟨λi m σ H=>m=n - i/\i<=n/\Pv i σ H,⟨n,by simp,Nat.zero_le _,h0⟩,?_⟩
 rintro i m σ H ⟨rfl,hi,p⟩
 by_cases hlt:i < n
 ·refine .inr ⟨hlt,Pv (i + 1),λσ' H' p'=>⟨n - (i + 1),by omega,rfl,hlt,p'⟩,λx H' y => ?_⟩
  obtain⟨e,y⟩:=y
  subst e y
  exact hs i σ _ hlt p
 ·have e:i=n:=by omega
  subst e
  exact .inl ⟨Nat.le_refl _,hd σ H p⟩
end L2
namespace L2
open PySem PySem.Spec PyProof.Rows
abbrev R2:=V->V->Hp->VK->Prop
def OpR(X:Cx)(f:Value->Value->Sem Value)(r:R2):Prop:=
 ∀(pins:List (Addr×Obj)) (s:Shared) (σ : St) (H:Hp) (x y:V) (v u:Value) (Q:VK),Inv X pins σ H s->RelV x v->RelV y u->r x y H Q ->
  wpAny (model X.prog X.w) X.A (f v u) (EP X pins σ Q) X.xe s
def UnR(X:Cx)(f:Value->Sem Value)(r:V->Hp->VK->Prop):Prop:=
 ∀(pins:List (Addr×Obj)) (s:Shared) (σ : St) (H:Hp) (x:V) (v:Value) (Q:VK),Inv X pins σ H s->RelV x v->r x H Q ->
  wpAny (model X.prog X.w) X.A (f v) (EP X pins σ Q) X.xe s
def CallR(X:Cx)(f:Value)(r:List V->Hp->VK->Prop):Prop:=
 ∀(pins:List (Addr×Obj)) (s:Shared) (σ : St) (H:Hp) (xs:List V) (us:List Value) (Q:VK),Inv X pins σ H s->Vals xs us->r xs H Q ->
  wpAny (model X.prog X.w) X.A (call f us) (EP X pins σ Q) X.xe s
def TruR(X:Cx)(r:V->Hp->(Bool->Hp->Prop)->Prop):Prop:=
 ∀(pins:List (Addr×Obj)) (s:Shared) (σ : St) (H:Hp) (x:V) (v:Value) (Q:Bool->Hp->Prop),Inv X pins σ H s->RelV x v->r x H Q ->
  wpAny (model X.prog X.w) X.A (truthy v) (TP X pins σ Q) X.xe s
def tOp(r:R2)(ta tb:TE):TE:=λσ H Q=>ta σ H λx H1=>tb σ H1 λy H2=>r x y H2 Q
def tUn(r:V->Hp->VK->Prop)(ta:TE):TE:=λσ H Q=>ta σ H λx H1=>r x H1 Q
def rI(C:Int->Int->Prop)(g:Int->Int->V):R2:=λx y H Q=>∃i j,x = .int i/\y = .int j/\C i j/\Q (g i j) H
def rI0(g:Int->Int->V):R2:=λx y H Q=>∃i j,x = .int i/\y = .int j/\Q (g i j) H
def rU(g:Int->V):V->Hp->VK->Prop:=λx H Q=>∃i,x = .int i/\Q (g i) H
section
variable{X:Cx}{a b c:Expr}{ta tb tc:TE}{pos:Pos}
theorem binT(ha:PE X a ta)(hb:PE X b tb){pins:List (Addr×Obj)}{s:Shared}{σ : St}{H:Hp}{R:V->V->Hp->Prop}(I:Inv X pins σ H s)
  (h:ta σ H λx H1=>tb σ H1 λy H2=>R x y H2) {Q:Value->Shared->Prop} {f:Value->Value->Sem Value}
  (hf:∀v u s2 x y H2,Inv X pins σ H2 s2->RelV x v->RelV y u->R x y H2->wpAny (model X.prog X.w) X.A (f v u) Q X.xe s2) :
  wpAny (model X.prog X.w) X.A (eval a X.env) (λv s₁=>wpAny (model X.prog X.w) X.A (eval b X.env) (λu s₂=>wpAny (model X.prog X.w) X.A (f v u) Q X.xe s₂) X.xe s₁) X.xe s:=by
 refine thn (ha pins s σ H _ I h) λv s1 ⟨x,H1,I1,r1,q1⟩ => ?_
 refine thn (hb pins s1 σ H1 _ I1 q1) λu s2 ⟨y,H2,I2,r2,q2⟩ => ?_
 exact hf v u s2 x y H2 I2 r1 r2 q2
theorem zax{op:Operator}{r:R2}(ho:OpR X (binaryOp op) r)(ha:PE X a ta)(hb:PE X b tb):PE X (.BinOp a op b pos) (tOp r ta tb):=by
 intro pins s σ H Q I h
 exact wpAny_BinOp (binT ha hb I h λv u s2 x y H2 I2 rx ry q=>ho pins s2 σ H2 x y v u Q I2 rx ry q)
theorem zse{op:UnaryOp}{r:V->Hp->VK->Prop}(ho:UnR X (unaryOp op) r)(ha:PE X a ta):PE X (.UnaryOp op a pos) (tUn r ta):=by
 intro pins s σ H Q I h
 exact UnaryOp_ (thn (ha pins s σ H _ I h) λv s1 ⟨x,H1,I1,r1,q1⟩=>ho pins s1 σ H1 x v Q I1 r1 q1)
theorem opI{f:Value->Value->Sem Value}{C:Int->Int->Prop}{g:Int->Int->Int}
  (rule:∀(i j:Int) (t u:Tok) (s:Shared) (Q:Value->Shared->Prop) (E:Value->Shared->Prop),C i j->Q (.int (g i j) s.toks) { s with toks:=s.toks + 1 }->wpAny (model X.prog X.w) X.A (f (.int i t) (.int j u)) Q E s) :
  OpR X f (rI C λi j => .int (g i j)):=by
 intro pins s σ H x y v u Q I rx ry h
 obtain⟨i,j,rfl,rfl,hc,q⟩:=h
 obtain⟨t,rfl⟩:=rx
 obtain⟨t',rfl⟩:=ry
 exact rule i j t t' s _ _ hc ⟨.int (g i j),H,I.tok _,⟨_,rfl⟩,q⟩
theorem opI0{f:Value->Value->Sem Value}{g:Int->Int->Int}
  (rule:∀(i j:Int) (t u:Tok) (s:Shared) (Q:Value->Shared->Prop) (E:Value->Shared->Prop),Q (.int (g i j) s.toks) { s with toks:=s.toks + 1 }->wpAny (model X.prog X.w) X.A (f (.int i t) (.int j u)) Q E s) :
  OpR X f (rI0 λi j => .int (g i j)):=by
 intro pins s σ H x y v u Q I rx ry h
 obtain⟨i,j,rfl,rfl,q⟩:=h
 obtain⟨t,rfl⟩:=rx
 obtain⟨t',rfl⟩:=ry
 exact rule i j t t' s _ _ ⟨.int (g i j),H,I.tok _,⟨_,rfl⟩,q⟩
theorem opB0{f:Value->Value->Sem Value}{g:Int->Int->Bool}
  (rule:∀(i j:Int) (t u:Tok) (s:Shared) (Q:Value->Shared->Prop) (E:Value->Shared->Prop),Q (.bool (g i j)) s->wpAny (model X.prog X.w) X.A (f (.int i t) (.int j u)) Q E s) :
  OpR X f (rI0 λi j => .bl (g i j)):=by
 intro pins s σ H x y v u Q I rx ry h
 obtain⟨i,j,rfl,rfl,q⟩:=h
 obtain⟨t,rfl⟩:=rx
 obtain⟨t',rfl⟩:=ry
 exact rule i j t t' s _ _ ⟨.bl (g i j),H,I,rfl,q⟩
def CDiv(i j:Int):Prop:=0 < j/\j < 1073741824
def CDivN(i j:Int):Prop:=j≠0/\j.natAbs < 1073741824
def CPow(i j:Int):Prop:=0<=j/\j<=1000000/\i.natAbs < 2 ^ 64
def CMul(i j:Int):Prop:=(-(2 ^ 64) < i/\i < 2 ^ 64)\/(-(2 ^ 64) < j/\j < 2 ^ 64)
theorem CMul.ok{i j:Int}(h:CMul i j):IntMulOk i j:=by
 rcases h with⟨h1,h2⟩ | ⟨h1,h2⟩
 ·exact .of_left (intBits_le_64 h1 h2)
 ·exact .of_right (intBits_le_64 h1 h2)
theorem zc5:OpR X (binaryOp .Add) (rI0 λi j => .int (i + j)):=opI0 λ_ _ _ _ _ _ _ q=>add_int q
theorem zjd:OpR X (binaryOp .Sub) (rI0 λi j => .int (i - j)):=opI0 λ_ _ _ _ _ _ _ q=>sub_int q
theorem zlc:OpR X (binaryOp .Mult) (rI CMul λi j => .int (i * j)):=opI λ_ _ _ _ _ _ _ hc q=>mul_int q hc.ok
theorem zd4:OpR X (binaryOp .FloorDiv) (rI CDiv λi j => .int (i / j)):=opI λi j _ _ _ _ _ hc q=>by
 have h1:(0:Int) < j:=hc.1
 have h2:j < 1073741824:=hc.2
 exact floordiv_int (by omega) (by rw[Int.fdiv_eq_ediv_of_nonneg i (by omega)];exact q) (.inl (PyProof.noPylong_small (by omega)))
theorem zc0:OpR X (binaryOp .Mod) (rI (λ_ j=>0 < j) λi j => .int (i % j)):=opI λi j _ _ _ _ _ hc q=>by
 have h1:(0:Int) < j:=hc
 exact mod_int' (by omega) (by rw[Int.fmod_eq_emod_of_nonneg i (by omega)];exact q)
theorem zib:OpR X (binaryOp .Mod) (rI (λ_ j=>j≠0) λi j => .int (i.fmod j)):=opI λ_ _ _ _ _ _ _ hc q=>mod_int' hc q
theorem zo5:OpR X (binaryOp .Pow) (rI CPow λi j => .int (i ^ j.toNat)):=opI λ_ _ _ _ _ _ _ hc q=>pow_int_small hc.1 hc.2.1 hc.2.2 q
theorem unI{f:Value->Sem Value}{g:Int->Int}
  (rule:∀(i:Int) (t:Tok) (s:Shared) (Q:Value->Shared->Prop) (E:Value->Shared->Prop),Q (.int (g i) s.toks) { s with toks:=s.toks + 1 }->wpAny (model X.prog X.w) X.A (f (.int i t)) Q E s) :
  UnR X f (rU λi => .int (g i)):=by
 intro pins s σ H x v Q I rx h
 obtain⟨i,rfl,q⟩:=h
 obtain⟨t,rfl⟩:=rx
 exact rule i t s _ _ ⟨.int (g i),H,I.tok _,⟨_,rfl⟩,q⟩
theorem zoy:UnR X (unaryOp .USub) (rU λi => .int (-i)):=unI λ_ _ _ _ _ q=>neg_int q
end
def scal:V->V->Bool
 | .non,.non=>true | .non,.int _=>true | .int _,.non=>true | .non,.bl _=>true | .bl _,.non=>true | .non,.str _=>true | .str _,.non=>true
 | .int _,.int _=>true | .bl _,.bl _=>true | .str _,.str _=>true | .byt _,.byt _=>true
 | .int _,.str _=>true | .str _,.int _=>true | .bl _,.str _=>true | .str _,.bl _=>true
 | _,_=>false
def rEq:R2:=λx y H Q=>scal x y=true/\Q (.bl (decide (x=y))) H
def rNe:R2:=λx y H Q=>scal x y=true/\Q (.bl (!decide (x=y))) H
theorem zgh{i j:Int}:decide (V.int i=V.int j)=(i == j):=by
 rw[Bool.eq_iff_iff]
 simp
theorem zoq{i j:Bool}:decide (V.bl i=V.bl j)=(i == j):=by
 rw[Bool.eq_iff_iff]
 simp
theorem zlh{i j:Str}:decide (V.str i=V.str j)=(i == j):=by
 rw[Bool.eq_iff_iff]
 simp
theorem zlx{i j:Array UInt8}:decide (V.byt i=V.byt j)=(i.toList == j.toList):=by
 rw[Bool.eq_iff_iff]
 cases i
 cases j
 simp
section
variable{X:Cx}{a b c:Expr}{ta tb tc:TE}{pos:Pos}
theorem za5{pins:List (Addr×Obj)}{σ : St}{H:Hp}{s:Shared}{Q:VK}{k k':Bool}(I:Inv X pins σ H s)(q:Q (.bl k) H)(e:k=k'):EP X pins σ Q (.bool k') s:=by
 subst e
 exact⟨.bl k,H,I,rfl,q⟩
theorem zdu:OpR X (compareOp .Eq) rEq:=by
 intro pins s σ H x y v u Q I rx ry h
 obtain⟨hs,q⟩:=h
 cases x with
 | non=>
  cases rx
  cases y with
  | non=>cases ry;exact PySem.EqNone.eq_none_none (za5 I q (by simp))
  | bl j=>cases ry;exact PySem.EqNone.eq_none_bool (za5 I q (by simp))
  | int j=>obtain⟨t',rfl⟩:=ry;exact PySem.EqNone.eq_none_int (za5 I q (by simp))
  | str j=>obtain⟨t',rfl⟩:=ry;exact PySem.EqNone.eq_none_str (za5 I q (by simp))
  | _=>exact absurd (show false=true from hs) Bool.false_ne_true
 | bl i=>
  cases rx
  cases y with
  | non=>cases ry;exact PySem.EqNone.eq_bool_none (za5 I q (by simp))
  | bl j=>cases ry;exact eq_bool (za5 I q zoq)
  | str j=>obtain⟨t',rfl⟩:=ry;exact PySem.EqMixed.eq_bool_str (za5 I q (by simp))
  | _=>exact absurd (show false=true from hs) Bool.false_ne_true
 | int i=>
  obtain⟨t,rfl⟩:=rx
  cases y with
  | non=>cases ry;exact PySem.EqNone.eq_int_none (za5 I q (by simp))
  | int j=>obtain⟨t',rfl⟩:=ry;exact eq_int (za5 I q zgh)
  | str j=>obtain⟨t',rfl⟩:=ry;exact PySem.EqMixed.eq_int_str (za5 I q (by simp))
  | _=>exact absurd (show false=true from hs) Bool.false_ne_true
 | str i=>
  obtain⟨t,rfl⟩:=rx
  cases y with
  | non=>cases ry;exact PySem.EqNone.eq_str_none (za5 I q (by simp))
  | bl j=>cases ry;exact PySem.EqMixed.eq_str_bool (za5 I q (by simp))
  | int j=>obtain⟨t',rfl⟩:=ry;exact PySem.EqMixed.eq_str_int (za5 I q (by simp))
  | str j=>obtain⟨t',rfl⟩:=ry;exact eq_str (za5 I q zlh)
  | _=>exact absurd (show false=true from hs) Bool.false_ne_true
 | byt i=>
  obtain⟨t,rfl⟩:=rx
  cases y with
  | byt j=>obtain⟨t',rfl⟩:=ry;exact W.eq_bytes (za5 I q zlx)
  | _=>exact absurd (show false=true from hs) Bool.false_ne_true
 | _=>cases y <;> exact absurd (show false=true from hs) Bool.false_ne_true
theorem zro:OpR X (compareOp .NotEq) rNe:=by
 intro pins s σ H x y v u Q I rx ry h
 obtain⟨hs,q⟩:=h
 cases x with
 | non=>
  cases rx
  cases y with
  | non=>cases ry;exact PySem.EqNone.ne_none_none (za5 I q (by simp))
  | bl j=>cases ry;exact PySem.EqNone.ne_none_bool (za5 I q (by simp))
  | int j=>obtain⟨t',rfl⟩:=ry;exact PySem.EqNone.ne_none_int (za5 I q (by simp))
  | str j=>obtain⟨t',rfl⟩:=ry;exact PySem.EqNone.ne_none_str (za5 I q (by simp))
  | _=>exact absurd (show false=true from hs) Bool.false_ne_true
 | bl i=>
  cases rx
  cases y with
  | non=>cases ry;exact PySem.EqNone.ne_bool_none (za5 I q (by simp))
  | bl j=>cases ry;exact ne_bool (za5 I q (congrArg not zoq))
  | str j=>obtain⟨t',rfl⟩:=ry;exact PySem.EqMixed.ne_bool_str (za5 I q (by simp))
  | _=>exact absurd (show false=true from hs) Bool.false_ne_true
 | int i=>
  obtain⟨t,rfl⟩:=rx
  cases y with
  | non=>cases ry;exact PySem.EqNone.ne_int_none (za5 I q (by simp))
  | int j=>obtain⟨t',rfl⟩:=ry;exact ne_int (za5 I q (congrArg not zgh))
  | str j=>obtain⟨t',rfl⟩:=ry;exact PySem.EqMixed.ne_int_str (za5 I q (by simp))
  | _=>exact absurd (show false=true from hs) Bool.false_ne_true
 | str i=>
  obtain⟨t,rfl⟩:=rx
  cases y with
  | non=>cases ry;exact PySem.EqNone.ne_str_none (za5 I q (by simp))
  | bl j=>cases ry;exact PySem.EqMixed.ne_str_bool (za5 I q (by simp))
  | int j=>obtain⟨t',rfl⟩:=ry;exact PySem.EqMixed.ne_str_int (za5 I q (by simp))
  | str j=>obtain⟨t',rfl⟩:=ry;exact ne_str (za5 I q (congrArg not zlh))
  | _=>exact absurd (show false=true from hs) Bool.false_ne_true
 | byt i=>
  obtain⟨t,rfl⟩:=rx
  cases y with
  | byt j=>obtain⟨t',rfl⟩:=ry;exact W.ne_bytes (za5 I q (congrArg not zlx))
  | _=>exact absurd (show false=true from hs) Bool.false_ne_true
 | _=>cases y <;> exact absurd (show false=true from hs) Bool.false_ne_true
theorem zm0:OpR X (compareOp .Lt) (rI0 λi j => .bl (decide (i < j))):=opB0 λ_ _ _ _ _ _ _ q=>lt_int q
theorem znj:OpR X (compareOp .LtE) (rI0 λi j => .bl (decide (i<=j))):=opB0 λ_ _ _ _ _ _ _ q=>le_int q
theorem znc:OpR X (compareOp .Gt) (rI0 λi j => .bl (decide (j < i))):=opB0 λ_ _ _ _ _ _ _ q=>gt_int q
theorem zo0:OpR X (compareOp .Is) (λx y H Q=>y = .non/\Q (.bl (decide (x = .non))) H):=by
 intro pins s σ H x y v u Q I rx ry h
 obtain⟨rfl,q⟩:=h
 cases ry
 refine is_none_gen (za5 I q ?_)
 cases x <;> first
  | (cases rx;rfl)
  | (obtain⟨t,rfl⟩:=rx;rfl)
theorem zqz:OpR X (compareOp .IsNot) (λx y H Q=>y = .non/\Q (.bl (!decide (x = .non))) H):=by
 intro pins s σ H x y v u Q I rx ry h
 obtain⟨rfl,q⟩:=h
 cases ry
 refine isnot_none_gen (za5 I q ?_)
 cases x <;> first
  | (cases rx;rfl)
  | (obtain⟨t,rfl⟩:=rx;rfl)
def isObj:HO->Bool
 | .lst _=>true
 | .ins _ _ _=>true
 | _=>false
theorem nomark(b:Expr){op:CmpOp}(h:op≠.In:=by decide)(h2:op≠.NotIn:=by decide):behindInMarks op b=false:=by
 have e1:(op == CmpOp.In)=false:=by cases op <;> first | rfl | exact absurd rfl h
 have e2:(op == CmpOp.NotIn)=false:=by cases op <;> first | rfl | exact absurd rfl h2
 cases b <;> simp[behindInMarks,e1,e2]
theorem zc3{op:CmpOp}{r:R2}(ho:OpR X (compareOp op) r)(ha:PE X a ta)(hb:PE X b tb)(hm:behindInMarks op b=false):PE X (.Compare a [op] [b] pos) (tOp r ta tb):=by
 intro pins s σ H Q I h
 exact wpAny_Compare1 (binT ha hb I h λv u s2 x y H2 I2 rx ry q=>ho pins s2 σ H2 x y v u Q I2 rx ry q) hm
def tTest(t:TE):TT:=λσ H Q=>t σ H λx H'=>∃k,x = .bl k/\Q k H'
theorem zav{op:CmpOp}{r:R2}(ho:OpR X (compareOp op) r)(ha:PE X a ta)(hb:PE X b tb)(hm:behindInMarks op b=false):PT X (.Compare a [op] [b] pos) (tTest (tOp r ta tb)):=by
 intro pins s σ H Q I h
 refine wpAny_isTrue_Compare1 (thn (ha pins s σ H _ I h) λv s1 ⟨x,H1,I1,r1,q1⟩=>thn (hb pins s1 σ H1 _ I1 q1) λu s2 ⟨y,H2,I2,r2,q2⟩=>
  thn (ho pins s2 σ H2 x y v u _ I2 r1 r2 q2) λc s3 ⟨z,H3,I3,r3,k,e,q3⟩ => ?_) hm
 subst e
 cases r3
 exact wpAny_truthy_bool ⟨H3,I3,q3⟩
def tChain(r r':R2)(ta tb tc:TE):TE:=λσ H Q=>ta σ H λx H1=>tb σ H1 λy H2=>r x y H2 λz H3=>∃k,z = .bl k /\
 (if k=true then tc σ H3 λw' H4=>r' y w' H4 Q else Q (.bl false) H3)
def TruV(K:W.Frag)(x:V)(H:Hp)(k:Bool):Prop:=
 match x with
 | .non=>k=false
 | .bl b=>k=b
 | .int i=>k=(i != 0)
 | .str y=>y.length<=sizeLine/\k=((y.length:Int) != 0)
 | .byt y=>y.size<=sizeLine/\k=((y.size:Int) != 0)
 | .ref p=>(∃xs,SqL K H p xs/\k = !xs.isEmpty)\/(∃xs,SqT K H p xs/\k = !xs.isEmpty)\/∃kvs,H p=some (.dK kvs)/\k = !kvs.isEmpty
 | _=>False
theorem line63:(sizeLine:Nat) < 2 ^ 63:=by rw[sizeLine_eq];decide
def PlainIxT(b:Expr):Prop:=∀o i,subscripted b false o i=operate [o,i] (getItem o i)
theorem vals1{x:V}{us:List Value}(r:Vals [x] us):∃u,us=[u]/\RelV x u:=by
 cases r with
 | cons r1 r2=>cases r2;exact⟨_,rfl,r1⟩
theorem vals2{x y:V}{us:List Value}(r:Vals [x,y] us):∃u w',us=[u,w']/\RelV x u/\RelV y w':=by
 cases r with
 | cons r1 r2=>
  cases r2 with
  | cons r3 r4=>cases r4;exact⟨_,_,rfl,r1,r3⟩
theorem zoe:CallR X (.builtin "abs") (λxs H Q=>∃i,xs=[.int i]/\Q (.int (if i < 0 then -i else i)) H):=by
 intro pins s σ H xs us Q I r h
 obtain⟨i,rfl,q⟩:=h
 obtain⟨u,rfl,t,rfl⟩:=vals1 r
 exact call_abs_int λu tk=>⟨.int (if i < 0 then -i else i),H,I.tok _,⟨_,rfl⟩,q⟩
theorem zmc(hc:X.calm=true):CallR X (.builtin "max") (λxs H Q=>∃i j,xs=[.int i,.int j]/\Q (.int (if j > i then j else i)) H):=by
 intro pins s σ H xs us Q I r h
 obtain⟨i,j,rfl,q⟩:=h
 obtain⟨u,w',rfl,⟨t,rfl⟩,⟨t',rfl⟩⟩:=vals2 r
 refine max_two_ints (I.ok.hd hc) λh' tk k=>⟨_,H,I.kept k,?_,q⟩
 by_cases hj:j > i
 ·rw[if_pos hj,if_pos hj];exact⟨_,rfl⟩
 ·rw[if_neg hj,if_neg hj];exact⟨_,rfl⟩
theorem zk0:CallR X (.type "int") (λxs H Q=>(∃i,xs=[.int i]/\Q (.int i) H)\/∃k,xs=[.bl k]/\Q (.int (if k then 1 else 0)) H):=by
 intro pins s σ H xs us Q I r h
 rcases h with⟨i,rfl,q⟩ | ⟨k,rfl,q⟩
 ·obtain⟨u,rfl,t,rfl⟩:=vals1 r
  exact call_int_int ⟨.int i,H,I,⟨_,rfl⟩,q⟩
 ·obtain⟨u,rfl,r1⟩:=vals1 r
  cases r1
  exact call_int_bool ⟨.int (if k then 1 else 0),H,I.tok _,⟨_,rfl⟩,q⟩
def LenV(K:W.Frag)(x:V)(H:Hp)(n:Nat):Prop:=
 match x with
 | .str y=>y.length<=sizeLine/\n=y.length
 | .byt y=>y.size<=sizeLine/\n=y.size
 | .ref p=>(∃xs,SqL K H p xs/\n=xs.length)\/∃xs,SqT K H p xs/\n=xs.length
 | _=>False
end
end L2
namespace L2
open PySem PySem.Spec PyProof.Rows
structure ObjM(h:Heap)(x dx C:Addr)(mA:Str->Option Value):Prop where
 obj:h.get? x=some (W.instObj C dx)
 ns:h.Ns1 dx mA
 ne:dx≠x
theorem zku{h:Heap}{dx:Addr}{mA:Str->Option Value}(n:h.Ns1 dx mA):∃od,h.get? dx=some od/\∀name,W.lookIn name od=some (mA name):=by
 obtain⟨o,es,ep,ho,hd,hk,_,hm⟩:=n
 refine⟨o,ho,λname => ?_⟩
 have e:=hm name
 unfold nsFind findBy at e
 rw[<- Array.find?_toList]at e
 unfold W.lookIn
 rw[hd]
 dsimp only
 split
 ·rename_i y q
  rw[q]at e
  exact congrArg some e
 ·rename_i q
  rw[q]at e
  have a:es.toList.any (·.refKey)=false:=by
   rw[List.any_eq_false]
   intro y hy
   obtain⟨z,t,hkey⟩:=hk y (Array.mem_toList_iff.mp hy)
   simp[DictEntry.refKey,hkey]
  have a':¬es.toList.any (·.refKey)=true:=by rw[a];exact Bool.false_ne_true
  rw[if_neg a']
  exact congrArg some e
theorem ObjM.look{h:Heap}{x dx C:Addr}{mA:Str->Option Value}(I:ObjM h x dx C mA):∃od,W.InstAt h x (W.instObj C dx) C (some od)/\∀name,W.lookIn name od=some (mA name):=
 let ⟨od,ho,hl⟩:=zku I.ns
 ⟨od,⟨I.obj,rfl,rfl,ho⟩,hl⟩
section
variable{prog:Program}{w:World}{A:Around}{E:Value->Shared->Prop}{s:Shared}{K:W.Frag}{x dx C f:Addr}{mA:Str->Option Value}{name:Str}{v:Value}
theorem zpt{expr:Bool}{Q:Value->Shared->Prop}(X:K.In s.heap)(I:ObjM s.heap x dx C mA)(hg:W.plainGet K C name=true)(hh:W.hasDictIn K C=true)
  (ha:W.findIn K (.ref C) name=some none) (hv:mA name=some v) (hv':W.handedIn v=true) (h:Q v { s with toks:=s.toks + 1 }) :
  wpAny (model prog w) A (getAttr (.ref x) name expr) Q E s:=by
 obtain⟨od,J,hl⟩:=I.look
 exact W.get_value X J (W.plainGet_of hg).1 (W.findObj_own hh ha rfl (by rw[hl,hv])) hv' h
theorem zm6{pl:Sem Bool}{Q:Value×List Value->Shared->Prop}(X:K.In s.heap)(I:ObjM s.heap x dx C mA)(hg:W.plainGet K C name=true)
  (hf:W.findIn K (.ref C) name=some (some (.ref f))) (ht:W.isFn K (.ref f)=true) (hv:mA name=none) (h:Q (.ref f,[.ref x]) s) :
  wpAny (model prog w) A (getMethod (.ref x) name pl) Q E s:=by
 obtain⟨od,J,hl⟩:=I.look
 exact W.method_fn X J (W.plainGet_of hg).1 (W.plainGet_of hg).2 hf (beq_iff_eq.mp ht) (by show (W.lookIn name od).map (·.isSome)=some false;rw[hl,hv];rfl) h
theorem zp3{ns:List Str}{Q:Unit->Shared->Prop}(X:K.In s.heap)(I:ObjM s.heap x dx C mA)
  (hs:W.findIn K (.ref C) "__setattr__" = some (some (.builtin "object.__setattr__"))) (hp:W.plainOver K C=true) (ht:W.takerIn K C name=some none) (hh:W.hasDictIn K C=true)
  (hw:PySem.Within mA ns) (hsz:ns.length<=sizeLine)
  (h:∀h',ObjM h' x dx C (λy=>if y=name then some v else mA y)->Heap.SameBut dx s.heap h'->Q () { s with heap:=h',toks:=s.toks + 2 }) :
  wpAny (model prog w) A (setAttr (.ref x) name v) Q E s:=by
 obtain⟨od,J,hl⟩:=I.look
 refine W.set_plain X J hs (W.osa_open (s:={ s with toks:=s.toks + 1 }) (r:=none) X J hp ht λb => ?_)
 obtain⟨cd,hc,hd'⟩:=W.any_some hh
 have hx:s.heap.get? x=some ⟨.ref C,some dx,.plain,#[]⟩:=I.obj
 refine wpAny_bind (wpAny_pure (wpAny_bind (wpAny_bind (wpAny_loadPart hx (wpAny_bind (W.Looks.here (s:={ s with toks:=s.toks + 1 }) (W.looks_clsIn X hc) ?_))))))
 rw[hd']
 refine wpAny_pure (a:=some dx) (wpAny_bind (wpAny_pure (wpAny_bind ?_)))
 refine wpAny_nsSet1 (s:={ s with toks:=s.toks + 1 }) I.ns λh' hn2 hs2 => ?_
 obtain⟨oD,esD,epD,hoD,hdD,hcD⟩:=hn2.count (PySem.Within.cons name v hw)
 refine wpAny_bind (wpAny_lookBehind hoD (by rw[hdD];exact pastItsLine_dict (Nat.le_trans hcD (by rw[List.length_cons];omega))) ?_)
 exact wpAny_pure (h _ ⟨(hs2.2 _ (Ne.symm I.ne)).trans I.obj,hn2,I.ne⟩ hs2)
theorem znz{R:Result->Shared->Prop}{vs:List Value}{kw:List (Str×Value)}(X:K.In s.heap)(hm:W.makesIn K C=true)
  (hi:W.findIn K (.ref C) "__init__" = some (some (.ref f))) (hf:W.typeIn K (.ref f)=some (.type "function"))
  (h:codeAny (model prog w) (A.under (.builtin "type.__call__" ⟨.ref C :: vs,kw⟩)) (.call (.ref f) ⟨.ref (s.heap.objs.size + 1) :: vs,kw⟩) (W.InitBack (s.heap.objs.size + 1) R)
   { s with heap:=(s.heap.push W.emptyDict).push (W.instObj C s.heap.objs.size) }) :
  codeAny (model prog w) A (.call (.ref C) ⟨vs,kw⟩) R s:=by
 obtain⟨hh,g,d,t,os⟩:=s
 exact W.make_core (W.makes_of X hm) (W.looks_findIn X hi) (λself=>W.bind_fn X self hf) (.inl rfl) h
theorem zkp{R:Result->Shared->Prop}(X:K.In s.heap)(hm:W.makesIn K C=true)
  (hi:W.findIn K (.ref C) "__init__" = some (some (.builtin "object.__init__")))
  (hb:∀self,W.Looks (model prog w) s.heap (bindSpecial (.builtin "object.__init__") self) (.builtin "object.__init__",[self]))
  (h:codeAny (model prog w) (A.under (.builtin "type.__call__" ⟨[.ref C],[]⟩)) (.call (.builtin "object.__init__") ⟨[.ref (s.heap.objs.size + 1)],[]⟩) (W.InitBack (s.heap.objs.size + 1) R)
   { s with heap:=(s.heap.push W.emptyDict).push (W.instObj C s.heap.objs.size) }) :
  codeAny (model prog w) A (.call (.ref C) ⟨[],[]⟩) R s:=by
 obtain⟨hh,g,d,t,os⟩:=s
 exact W.make_core (W.makes_of X hm) (W.looks_findIn X hi) hb (.inr ⟨rfl,rfl⟩) h
end
def putF(f:Str)(v:V):List (Str×V)->List (Str×V)
 | []=>[(f,v)]
 | (g,x) :: r=>if g=f then(g,v) :: r else(g,x) :: putF f v r
theorem zfr(f g:Str)(v:V):∀fs:List (Str×V),(putF f v fs).lookup g=if g=f then some v else fs.lookup g
 | []=>by
  show List.lookup g [(f,v)]=_
  by_cases h:g=f
  ·have hb:(g == f)=true:=beq_iff_eq.mpr h
   simp only[List.lookup,hb,if_pos h]
  ·have hb:(g == f)=false:=beq_eq_false_iff_ne.mpr h
   simp only[List.lookup,hb,if_neg h]
 | (k,x) :: r=>by
  have ih:=zfr f g v r
  rw[show putF f v ((k,x) :: r)=(if k=f then(k,v) :: r else(k,x) :: putF f v r) from rfl]
  by_cases hk:k=f
  ·rw[if_pos hk]
   by_cases h:g=k
   ·have hb:(g == k)=true:=beq_iff_eq.mpr h
    simp only[List.lookup,hb,if_pos (h.trans hk)]
   ·have hb:(g == k)=false:=beq_eq_false_iff_ne.mpr h
    simp only[List.lookup,hb,if_neg (λe:g=f=>h (e.trans hk.symm))]
  ·rw[if_neg hk]
   by_cases h:g=k
   ·have hb:(g == k)=true:=beq_iff_eq.mpr h
    simp only[List.lookup,hb,if_neg (λe:g=f=>hk (h.symm.trans e))]
   ·have hb:(g == k)=false:=beq_eq_false_iff_ne.mpr h
    simp only[List.lookup,hb]
    exact ih
theorem zfa(f:Str)(v:V):∀fs:List (Str×V),f∈(putF f v fs).map (·.1)/\∀g,g∈fs.map (·.1)->g∈(putF f v fs).map (·.1)
 | []=>⟨by simp[putF],λg h=>by simp at h⟩
 | (k,x) :: r=>by
  obtain⟨i1,i2⟩:=zfa f v r
  rw[show putF f v ((k,x) :: r)=(if k=f then(k,v) :: r else(k,x) :: putF f v r) from rfl]
  by_cases hk:k=f
  ·rw[if_pos hk]
   subst hk
   exact⟨by simp,λg h=>by simpa using h⟩
  ·rw[if_neg hk]
   refine⟨?_,λg h => ?_⟩
   ·rw[List.map_cons]
    exact List.mem_cons_of_mem _ i1
   ·rw[List.map_cons]at h ⊢
    rcases List.mem_cons.mp h with e | e
    ·exact List.mem_cons.mpr (.inl e)
    ·exact List.mem_cons_of_mem _ (i2 g e)
theorem zfb(f:Str)(v:V):∀fs:List (Str×V),(putF f v fs).length<=fs.length + 1
 | []=>by simp[putF]
 | (k,x) :: r=>by
  have ih:=zfb f v r
  rw[show putF f v ((k,x) :: r)=(if k=f then(k,v) :: r else(k,x) :: putF f v r) from rfl]
  by_cases hk:k=f
  ·rw[if_pos hk,List.length_cons,List.length_cons];omega
  ·rw[if_neg hk,List.length_cons,List.length_cons];omega
theorem RelO.some_of{v:V}{o:Option Value}(r:RelO (some v) o):∃u,o=some u/\RelV v u:=by
 cases o with
 | none=>exact(show False from r).elim
 | some u=>exact⟨u,rfl,r⟩
theorem RelO.none_of{o:Option Value}(r:RelO none o):o=none:=by
 cases o with
 | none=>rfl
 | some u=>exact(show False from r).elim
theorem zmb{v:V}{u:Value}(r:RelV v u):W.handedIn u=true:=by
 cases v with
 | non=>cases (show u=Value.none from r);rfl
 | bl b=>cases (show u=Value.bool b from r);rfl
 | int i=>obtain⟨t,e⟩:=(show ∃t,u=Value.int i t from r);cases e;rfl
 | str x=>obtain⟨t,e⟩:=(show ∃t,u=Value.str x t from r);cases e;rfl
 | byt b=>obtain⟨t,e⟩:=(show ∃t,u=Value.bytes b t from r);cases e;rfl
 | flt b=>obtain⟨t,e⟩:=(show ∃t,u=Value.float b t from r);cases e;rfl
 | ref a=>cases (show u=Value.ref a from r);rfl
 | ty n=>cases (show u=Value.type n from r);rfl
section
variable{P:Program}{w:World}{H H':Hp}{h h':Heap}{a C dx:Addr}{fs fs':List (Str×V)}
theorem zfs(hok:HOk P w H h)(e:H a=some (.ins C dx fs)):∃mA,ObjM h a dx C mA/\(∀f,RelO (fs.lookup f) (mA f))/\PySem.Within mA (fs.map (·.1))/\fs.length<=1000/\H dx=some (.own a):=by
 obtain⟨d,z,ne,ob,mA,n,r,q⟩:=(show ObjOk P w H h a (.ins C dx fs) from hok a _ e)
 exact⟨mA,⟨ob,n,ne⟩,r,q,z,d⟩
end
structure Cls(K:W.Frag)(C:Addr):Prop where
 pg:W.plainGet K C Str.empty=true
 hd:W.hasDictIn K C=true
 po:W.plainOver K C=true
 sa:W.findIn K (.ref C) "__setattr__" = some (some (.builtin "object.__setattr__"))
theorem Cls.get{K:W.Frag}{C:Addr}(c:Cls K C)(f:Str):W.plainGet K C f=true:=c.pg
def NoAttr(K:W.Frag)(C:Addr)(f:Str):Prop:=W.findIn K (.ref C) f=some none
theorem NoAttr.taker{K:W.Frag}{C:Addr}{f:Str}(n:NoAttr K C f):W.takerIn K C f=some none:=by
 unfold W.takerIn
 rw[show W.findIn K (.ref C) f=some none from n]
 rfl
structure Con(K:W.Frag)(C:Addr)(f:Str)(v:V)(u:Value):Prop where
 at_:W.findIn K (.ref C) f=some (some u)
 rel:RelV v u
 get:W.specialIn K u "__get__" = some none
 cp:W.copiedNames.contains f=false
structure Meth(K:W.Frag)(C:Addr)(m:Str)(f:Addr):Prop where
 at_:W.findIn K (.ref C) m=some (some (.ref f))
 fn:W.isFn K (.ref f)=true
 kp:W.keepIn K (.ref f)=true
section
variable{X:Cx}{pins:List (Addr×Obj)}{σ : St}{H:Hp}{s:Shared}{a C dx:Addr}{fs:List (Str×V)}{f:Str}{v:V}{A:Around}{E:Value->Shared->Prop}
theorem zj1{b:Bool}{Q:Value->Shared->Prop}(I:Inv X pins σ H s)(e:H a=some (.ins C dx fs))(c:Cls X.K C)(n:NoAttr X.K C f)(l:fs.lookup f=some v)
  (h:∀u s',Inv X pins σ H s'->RelV v u->Q u s'):wpAny (model X.prog X.w) A (getAttr (.ref a) f b) Q E s:=by
 obtain⟨mA,O,r,_,_,_⟩:=zfs I.hok e
 obtain⟨u,hu,ru⟩:=RelO.some_of (v:=v) (o:=mA f) (by rw[<- l];exact r f)
 exact zpt I.kIn O (c.get f) c.hd n hu (zmb ru) (h u _ (I.tok _) ru)
theorem zfz{m:Str}{g:Addr}{pl:Sem Bool}{Q:Value×List Value->Shared->Prop}(I:Inv X pins σ H s)(e:H a=some (.ins C dx fs))(c:Cls X.K C)(k:Meth X.K C m g)(l:fs.lookup m=none)
  (h:Q (.ref g,[.ref a]) s):wpAny (model X.prog X.w) A (getMethod (.ref a) m pl) Q E s:=by
 obtain⟨mA,O,r,_,_,_⟩:=zfs I.hok e
 have hn:mA m=none:=RelO.none_of (by rw[<- l];exact r m)
 exact zm6 I.kIn O (c.get m) k.at_ k.fn hn h
theorem zkf{y:V}{u:Value}{Q:Unit->Shared->Prop}(I:Inv X pins σ H s)(e:H a=some (.ins C dx fs))(c:Cls X.K C)(n:NoAttr X.K C f)(hl:fs.length < 1000)(ry:RelV y u)
  (h:∀s',Inv X pins σ (upd H a (.ins C dx (putF f y fs))) s'->Q () s'):wpAny (model X.prog X.w) A (setAttr (.ref a) f u) Q E s:=by
 obtain⟨mA,O,r,wi,_,ho⟩:=zfs I.hok e
 have hz:(fs.map (·.1)).length<=sizeLine:=by rw[List.length_map,sizeLine_eq];omega
 refine zp3 I.kIn O c.sa c.po n.taker c.hd wi hz λh' O' sb=>h _ ?_
 have hd:∃o,h'.get? dx=some o:=let ⟨o,_,_,e',_⟩:=O'.ns;⟨o,e'⟩
 refine I.write (x:=a) (e:=dx) (by rw[e];exact True.intro) (.inr ho) (λb q hb z=>(sb.2 b hb).trans z) hd ?_
 refine⟨by rw[zao O.ne];exact ho,?_,O.ne,O'.obj,_,O'.ns,λg => ?_,λg hg => ?_⟩
 ·have:=zfb f y fs;omega
 ·show RelO ((putF f y fs).lookup g) (if g=f then some u else mA g)
  rw[zfr]
  by_cases q:g=f
  ·rw[if_pos q,if_pos q];exact ry
  ·rw[if_neg q,if_neg q];exact r g
 ·by_cases q:g=f
  ·rw[q];exact(zfa f y fs).1
  ·refine(zfa f y fs).2 g (wi g λz=>hg ?_)
   show (if g=f then some u else mA g)=none
   rw[if_neg q];exact z
theorem Inv.made(I:Inv X pins σ H s):Inv X pins σ (upd (upd H s.heap.objs.size (.own (s.heap.objs.size + 1))) (s.heap.objs.size + 1) (.ins C s.heap.objs.size []))
  { s with heap:=(s.heap.push W.emptyDict).push (W.instObj C s.heap.objs.size) }:=by
 have e1:(s.heap.push W.emptyDict).get? s.heap.objs.size=some W.emptyDict:=Heap.get?_push_size s.heap rfl
 have e2:((s.heap.push W.emptyDict).push (W.instObj C s.heap.objs.size)).get? (s.heap.objs.size + 1)=some (W.instObj C s.heap.objs.size):=by
  have:=Heap.get?_push_size (s.heap.push W.emptyDict) (o:=W.instObj C s.heap.objs.size) rfl
  rwa [Heap.size_push]at this
 have e3:(s.heap.push W.emptyDict).Ns s.heap.objs.size (λ_=>none):=⟨W.emptyDict,#[],_,e1,rfl,(λe he=>absurd he (by simp)),λ_=>rfl⟩
 have I1:=I.laid (a:=s.heap.objs.size) (o := .own (s.heap.objs.size + 1)) (h':=s.heap.push W.emptyDict) (t':=s.toks) (λb u q=>Heap.get?_push_of_some _ q) (Nat.le_refl _) ⟨_,e1⟩
 refine I1.laid (a:=s.heap.objs.size + 1) (o := .ins C s.heap.objs.size []) (t':=s.toks) (λb u q=>Heap.get?_push_of_some _ q) (Nat.le_of_eq (Heap.size_push _ _)) ?_
 have ne:s.heap.objs.size≠s.heap.objs.size + 1:=Nat.ne_of_lt (Nat.lt_succ_self _)
 refine⟨by rw[zao ne,zae],Nat.zero_le _,ne,e2,λ_=>none,(Heap.Ns1.of_empty e3).at λo q=>Heap.get?_push_of_some _ q,λ_=>True.intro,λy hy=>absurd rfl hy⟩
theorem zio{prog:Program}{w:World}{env:Env}{e:Expr}{f:Str}{pos:Pos}{s:Shared}{Q:Value->Shared->Prop}(hb:attributeBase e f env (eval e env)=eval e env)
  (h:wpAny (model prog w) A (eval e env) (λo s₁=>wpAny (model prog w) A (getAttr o f true) Q E s₁) E s):wpAny (model prog w) A (eval (.Attribute e f pos) env) Q E s:=
 Attribute_any_ h (by rw[arm_eval_Attribute,hb])
end
def tFld(K:W.Frag)(ta:TE)(f:Str):TE:=λσ H Q=>ta σ H λx H1=>∃a C dx fs v,x = .ref a/\H1 a=some (.ins C dx fs)/\Cls K C/\NoAttr K C f/\fs.lookup f=some v/\Q v H1
def tCon(K:W.Frag)(ta:TE)(f:Str):TE:=λσ H Q=>ta σ H λx H1=>∃a C dx fs v u,x = .ref a/\H1 a=some (.ins C dx fs)/\Cls K C/\Con K C f v u/\fs.lookup f=none/\Q v H1
def sFld(K:W.Frag)(ta tv:TE)(f:Str):TS:=λD σ H=>tv σ H λy H1=>ta σ H1 λx H2=>∃a C dx fs,x = .ref a/\H2 a=some (.ins C dx fs)/\Cls K C/\NoAttr K C f/\fs.length < 1000 /\
 D.nx σ (upd H2 a (.ins C dx (putF f y fs)))
def InOp(X:Cx)(op:Operator)(rd:V->V->Hp->VK->Prop):Prop:=
 ∀(pins:List (Addr×Obj)) (s:Shared) (σ : St) (H:Hp) (x y:V) (u v:Value) (Q:VK),Inv X pins σ H s->RelV x u->RelV y v->rd x y H Q->wpAny (model X.prog X.w) X.A (inplaceOp op u v) (EP X pins σ Q) X.xe s
def sFldAug(K:W.Frag)(ta tv:TE)(rd:V->V->Hp->VK->Prop)(f:Str):TS:=λD σ H=>ta σ H λx H1=>∃a C dx fs v,x = .ref a/\H1 a=some (.ins C dx fs)/\Cls K C/\NoAttr K C f/\fs.lookup f=some v /\
 tv σ H1 λy H2=>rd v y H2 λz H3=>∃dx' fs',H3 a=some (.ins C dx' fs')/\fs'.length < 1000/\D.nx σ (upd H3 a (.ins C dx' (putF f z fs')))
section
variable{X:Cx}{o e value:Expr}{f:Str}{pos pos' tpos:Pos}{ta tv:TE}
theorem zsb(he:PE X e ta)(hb:attributeBase e f X.env (eval e X.env)=eval e X.env):PE X (.Attribute e f pos) (tFld X.K ta f):=by
 intro pins s σ H Q I h
 refine zio hb (thn (he pins s σ H _ I h) λu s1 ⟨x,H1,I1,rx,a,C,dx,fs,v,ex,ea,c,n,l,q⟩ => ?_)
 subst ex
 obtain rfl:u=Value.ref a:=rx
 exact zj1 I1 ea c n l λu' s2 I2 ru=>⟨v,H1,I2,ru,q⟩
theorem zhx(ha:PE X o ta)(hv:PE X value tv)(hs:swapsWith value (some (.Attribute o f pos')) pos.line X.env=pure false):PS X (.Assign [.Attribute o f pos'] value pos) (sFld X.K ta tv f):=by
 intro pins s σ H D I h
 refine plainObj_wpAny_Assign_Attribute (thn (hv pins s σ H _ I h) λu s1 ⟨y,H1,I1,ry,q⟩=>thn (ha pins s1 σ H1 _ I1 q) λov s2 ⟨x,H2,I2,rx,a,C,dx,fs,ex,ea,c,n,l,q2⟩ => ?_) hs
 subst ex
 obtain rfl:ov=Value.ref a:=rx
 exact zkf I2 ea c n l ry λs3 I3=>⟨σ,_,I3,q2⟩
def rAdd:V->V->Hp->VK->Prop:=λx y H Q=>∃i j,x = .int i/\y = .int j/\Q (.int (i + j)) H
def rSub:V->V->Hp->VK->Prop:=λx y H Q=>∃i j,x = .int i/\y = .int j/\Q (.int (i - j)) H
end
section
variable{X:Cx}{pins:List (Addr×Obj)}{σ : St}{H:Hp}{s:Shared}{A:Around}{E:Value->Shared->Prop}{Q:Value->Shared->Prop}{c:Value}{b:Bool}
inductive TyOf(K:W.Frag)(H:Hp):V->Value->Prop where
 | non:TyOf K H .non (.type "NoneType")
 | bl (x:Bool):TyOf K H (.bl x) (.type "bool")
 | int (i:Int):TyOf K H (.int i) (.type "int")
 | str (x:Str):TyOf K H (.str x) (.type "str")
 | flt (x:UInt64):TyOf K H (.flt x) (.type "float")
 | lst {a:Addr} {xs:List V} (e:H a=some (.lst xs)):TyOf K H (.ref a) (.type "list")
 | frz {a:Addr} {o:Obj} {xs:List V} (e:H a=some (.frz o (.lst xs))):TyOf K H (.ref a) (.type "list")
 | tup {a:Addr} {xs:List V} (e:H a=some (.tup xs)):TyOf K H (.ref a) (.type "tuple")
 | dK {a:Addr} {kvs:List (Key×V)} (e:H a=some (.dK kvs)):TyOf K H (.ref a) (.type "dict")
 | dT {a:Addr} {kvs:List (List Key×V)} (e:H a=some (.dT kvs)):TyOf K H (.ref a) (.type "dict")
 | ins {a C dx:Addr} {fs:List (Str×V)} (e:H a=some (.ins C dx fs)) (cl:Cls K C) (ha:W.findIn K (.ref C) "__class__" = some (some (.builtin "object.__class__")))
   (hn:W.specialIn K (.builtin "object.__class__") "__get__" = some (some (.builtin "getset_descriptor.__get__"))) (htk:W.takesIn K (.builtin "object.__class__")=some true)
   (hm:W.mroIn K C (.type "object")=some true):TyOf K H (.ref a) (.ref C)
theorem zl0{x:V}{u t:Value}(I:Inv X pins σ H s)(rx:RelV x u)(ty:TyOf X.K H x t)(e:W.kitOne X.K t c=some b)(h:∀tk,Q (.bool b) { s with toks:=tk }) :
  wpAny (model X.prog X.w) A (call (.builtin "isinstance") [u,c]) Q E s:=by
 cases ty with
 | non=>cases (show u=Value.none from rx);exact W.kia_one W.kitx_none I.kIn True.intro e (λz=>nomatch z) h
 | bl y=>cases (show u=Value.bool y from rx);exact W.kia_one W.kitx_bool I.kIn True.intro e (λz=>nomatch z) h
 | int i=>obtain⟨t,q⟩:=(show ∃t,u=Value.int i t from rx);cases q;exact W.kia_one W.kitx_int I.kIn True.intro e (λz=>nomatch z) h
 | str y=>obtain⟨t,q⟩:=(show ∃t,u=Value.str y t from rx);cases q;exact W.kia_one W.kitx_str I.kIn True.intro e (λz=>nomatch z) h
 | flt y=>obtain⟨t,q⟩:=(show ∃t,u=Value.float y t from rx);cases q;exact W.kia_one W.kitx_float I.kIn True.intro e (λz=>nomatch z) h
 | @lst a xs ea=>
  cases (show u=Value.ref a from rx)
  obtain⟨_,_,n,_,h1⟩:=(show ObjOk X.prog X.w H s.heap a (.lst xs) from I.hok a _ ea)
  exact W.kia_one W.kitx_list I.kIn ⟨_,h1,rfl⟩ e (λz=>nomatch z) h
 | @frz a ob xs ea=>
  cases (show u=Value.ref a from rx)
  obtain⟨_,_,_,n,_,h1⟩:=(show ObjOk X.prog X.w H s.heap a (.frz ob (.lst xs)) from I.hok a _ ea)
  exact W.kia_one W.kitx_list I.kIn ⟨_,h1,rfl⟩ e (λz=>nomatch z) h
 | @tup a xs ea=>
  cases (show u=Value.ref a from rx)
  obtain⟨_,_,_,p⟩:=(show ObjOk X.prog X.w H s.heap a (.tup xs) from I.hok a _ ea)
  obtain⟨o,h1,h2,_⟩:=p
  exact W.kia_one W.kitx_tuple I.kIn ⟨o,h1,h2⟩ e (λz=>nomatch z) h
 | @dK a kvs ea=>
  cases (show u=Value.ref a from rx)
  obtain⟨_,_,vs,_,p⟩:=(show ObjOk X.prog X.w H s.heap a (.dK kvs) from I.hok a _ ea)
  obtain⟨o,es,ep,h1,h2,_⟩:=p
  exact W.kia_one W.kitx_dict I.kIn ⟨o,h1,h2.1⟩ e (λz=>nomatch z) h
 | @dT a kvs ea=>
  cases (show u=Value.ref a from rx)
  obtain⟨_,_,xs,_,o,es,ep,h1,h2,_⟩:=(show ObjOk X.prog X.w H s.heap a (.dT kvs) from I.hok a _ ea)
  exact W.kia_one W.kitx_dict I.kIn ⟨o,h1,h2.1⟩ e (λz=>nomatch z) h
 | @ins a C dx fs ea cl ha hn htk hm=>
  cases (show u=Value.ref a from rx)
  obtain⟨mA,O,_⟩:=zfs I.hok ea
  obtain⟨od,J,_⟩:=O.look
  exact W.kia_one (W.kitx_own (cl.get _) cl.hd ha hn htk hm) I.kIn J e (λz=>nomatch z) h
end
end L2
namespace L2
open PySem PySem.Spec PyProof.Rows
structure Room(k:Nat)(A:Around):Prop where
 hd:A.handled=none
 dp:A.depth + 3 * k + 5 < recursionLimit
 un:A.units + 16 * k + 200 < cLine
theorem Room.mono{j k:Nat}{A:Around}(r:Room k A)(h:j<=k):Room j A:=⟨r.hd,by have:=r.dp;omega,by have:=r.un;omega⟩
theorem Room.deeper{k:Nat}{A:Around}(r:Room (k + 1) A)(env:Env):Room k (A.deeper env):=
 ⟨r.hd,by have:=r.dp;show A.depth + 1 + 3 * k + 5 < _;omega,by have:=r.un;show A.units + 3 + 16 * k + 200 < _;omega⟩
theorem Room.in1{k:Nat}{A:Around}(r:Room (k + 1) A):Room k A.in1:=
 ⟨r.hd,by have:=r.dp;show A.depth + 3 * k + 5 < _;omega,by have:=r.un;show A.units + 1 + 16 * k + 200 < _;omega⟩
theorem zkk{A:Around}{C:Addr}{us:List Value}{kw:List (Str×Value)}:(A.under (.builtin "type.__call__" ⟨.ref C :: us,kw⟩)).depth=A.depth + 1:=by
 first | rfl | simp[Around.under,Code.weight,Code.isCreation,Code.isGuard,Code.isCaller,Code.frames,Code.isFrame,guardIds]
theorem zkn{A:Around}{C:Addr}{us:List Value}{kw:List (Str×Value)}:(A.under (.builtin "type.__call__" ⟨.ref C :: us,kw⟩)).units=A.units + 1:=by
 first | rfl | simp[Around.under,Code.cUnits,Code.frames,Code.isFrame]
theorem Room.make{k:Nat}{A:Around}(r:Room (k + 1) A)(C:Addr)(us:List Value)(kw:List (Str×Value)):Room k (A.under (.builtin "type.__call__" ⟨.ref C :: us,kw⟩)):=
 ⟨r.hd,by have:=r.dp;rw[zkk];omega,by have:=r.un;rw[zkn];omega⟩
theorem Room.depth{k:Nat}{A:Around}(r:Room k A):A.depth < recursionLimit:=by have:=r.dp;omega
theorem Room.units{k:Nat}{A:Around}(r:Room k A):A.units + 64 < cLine:=by have:=r.un;omega
theorem Room.units0{k:Nat}{A:Around}(r:Room k A):A.units < cLine:=by have:=r.un;omega
def tNil:TA:=λ_ H Q=>Q [] H
def tCons(ta:TE)(tr:TA):TA:=λσ H Q=>ta σ H λx H1=>tr σ H1 λxs H2=>Q (x :: xs) H2
section
variable{X:Cx}{e:Expr}{es:List Expr}{te:TE}{t:TA}{pos:Pos}
theorem zaf:PA X [] tNil:=λ_ _ _ _ H Q I h=>Calls.spliced_nil ⟨[],H,I,.nil,h⟩
theorem zaa(ha:PE X e te)(hr:PA X es t)(hs:starEach (e :: es) X.env=(false,eval e X.env) :: starEach es X.env:=by rfl):PA X (e :: es) (tCons te t):=by
 intro pos pins s σ H Q I h
 rw[hs]
 show wpAny _ _ (spliced ((false,eval e X.env) :: backTo pos (starEach es X.env))) _ _ s
 refine Calls.spliced_cons (thn (ha pins s σ H _ I h) λu s1 ⟨x,H1,I1,r1,q1⟩ => ?_)
 exact thn (hr pos pins s1 σ H1 _ I1 q1) λus s2 ⟨xs,H2,I2,r2,q2⟩=>⟨x :: xs,H2,I2,.cons r1 r2,q2⟩
def tTup(t:TA):TE:=λσ H Q=>t σ H λxs H1=>xs.length<=sizeLine/\∀p,H1 p=none->Q (.ref p) (upd H1 p (.tup xs))
def tLst(t:TA):TE:=λσ H Q=>t σ H λxs H1=>xs.length<=sizeLine/\∀p,H1 p=none->Q (.ref p) (upd H1 p (.lst xs))
theorem zdq{x1}(h:PA X es t):PE X (.Tuple es x1 pos) (tTup t):=by
 intro pins s σ H Q I hq
 refine wpAny_Tuple_spliced (thn (h pos pins s σ H _ I hq) λus s1 ⟨xs,H1,I1,r,z,q⟩=>⟨by rw[<- r.length];exact z,?_⟩)
 have hf:H1 s1.heap.objs.size=none:=I1.hok.fresh (Nat.le_refl _)
 refine⟨.ref s1.heap.objs.size,upd H1 s1.heap.objs.size (.tup xs),I1.laid (t':=s1.toks) (λb u e=>Heap.get?_push_of_some _ e) (Nat.le_refl _) ?_,rfl,q _ hf⟩
 exact⟨z,us,r,⟨_,Heap.get?_push_size _ rfl,rfl,_,rfl⟩⟩
theorem zc2(h:PA X es t):PE X (.List es pos) (tLst t):=by
 intro pins s σ H Q I hq
 refine wpAny_List_spliced (thn (h pos pins s σ H _ I hq) λus s1 ⟨xs,H1,I1,r,z,q⟩=>⟨by rw[<- r.length];exact z,?_⟩)
 have hf:H1 s1.heap.objs.size=none:=I1.hok.fresh (Nat.le_refl _)
 refine⟨.ref s1.heap.objs.size,upd H1 s1.heap.objs.size (.lst xs),I1.laid (t':=s1.toks) (λb u e=>Heap.get?_push_of_some _ e) (Nat.le_refl _) ?_,rfl,q _ hf⟩
 exact⟨z,us,0,r,Heap.get?_push_size _ rfl⟩
end
abbrev Sp:=List V->Hp->VK->XK->Prop
abbrev CXT:=List Env->Hp->Shared->XK->Value->Shared->Prop
structure Env0(P:Program)(w:World)(K:W.Frag)(mg:Str->Option Value)(base:Heap)(A:Around)(outer:List Env)(s:Shared)(H:Hp):Prop where
 frames:A.frames=some outer
 mod:Mod K mg base
 bs:∀b o,base.get? b=some o->s.heap.get? b=some o/\H b=none
 bsz:base.objs.size<=s.heap.objs.size
 funs:s.heap.FunFrames base outer
 frf:∀b∈frs outer,H b=none
 hok:HOk P w H s.heap
 bare:AllBare s.gens
def CE(outer:List Env)(P:Program)(w:World)(H:Hp)(s:Shared)(Q:VK)(u:Value)(s':Shared):Prop:=
 ∃v H',s'.os=s.os/\AllBare s'.gens/\Un (frs outer) [] H H' s.heap s'.heap/\HOk P w H' s'.heap/\RelV v u/\Q v H'
def CR(CX:CXT)(outer:List Env)(P:Program)(w:World)(H:Hp)(s:Shared)(Q:VK)(E:XK)(r:Result)(s':Shared):Prop:=
 match r with
 | .ok (.ret u)=>CE outer P w H s Q u s'
 | .ok _=>False
 | .error e=>CX outer H s E e s'
structure FnOk(P:Program)(w:World)(K:W.Frag)(mg:Str->Option Value)(base:Heap)(CX:CXT)(k:Nat)(f:Addr)(fd:FuncData)(ps:List Str)(sp:Sp):Prop where
 len:∀vs H Q E,sp vs H Q E->vs.length=ps.length
 run:∀(A:Around) (outer:List Env) (s:Shared) (H:Hp) (args:Args) (us:List Value) (vs:List V) (Q:VK) (E:XK),Room k A->Env0 P w K mg base A outer s H->BindsTo s fd args (ps.zip us)->Vals vs us->sp vs H Q E ->
  codeAny (model P w) A (.call (.ref f) args) (CR CX outer P w H s Q E) s
theorem FnOk.mono{P:Program}{w:World}{K:W.Frag}{mg:Str->Option Value}{base:Heap}{CX:CXT}{j k:Nat}{f:Addr}{fd:FuncData}{ps:List Str}{sp:Sp}(F:FnOk P w K mg base CX j f fd ps sp)(h:j<=k) :
  FnOk P w K mg base CX k f fd ps sp:=⟨F.len,λA outer s H args us vs Q E hr=>F.run A outer s H args us vs Q E (hr.mono h)⟩
theorem Env0.make{P:Program}{w:World}{K:W.Frag}{mg:Str->Option Value}{base:Heap}{A:Around}{outer:List Env}{s:Shared}{H:Hp}(e:Env0 P w K mg base A outer s H)(C:Addr)(us:List Value)(kw:List (Str×Value)) :
  Env0 P w K mg base (A.under (.builtin "type.__call__" ⟨.ref C :: us,kw⟩)) outer s H:=⟨by first | exact e.frames | (simpa[Around.under,Code.envs,Code.isFrame,pushEnvs]using e.frames),e.mod,e.bs,e.bsz,e.funs,e.frf,e.hok,e.bare⟩
theorem Env0.in1{P:Program}{w:World}{K:W.Frag}{mg:Str->Option Value}{base:Heap}{A:Around}{outer:List Env}{s:Shared}{H:Hp}(e:Env0 P w K mg base A outer s H) :
  Env0 P w K mg base A.in1 outer s H:=⟨e.frames,e.mod,e.bs,e.bsz,e.funs,e.frf,e.hok,e.bare⟩
section
variable{X:Cx}{pins:List (Addr×Obj)}{σ : St}{H:Hp}{s s':Shared}
theorem Inv.env0(I:Inv X pins σ H s):Env0 X.prog X.w X.K X.mg X.base X.A X.stack s H:=
 ⟨I.ok.frames,I.ok.mod,I.bs,Nat.le_trans I.ok.bsz I.sz,I.stack,I.stkFree,I.hok,I.bare⟩
theorem Inv.after{Q:VK}{u:Value}(I:Inv X pins σ H s)(h:CE X.stack X.prog X.w H s Q u s'):EP X pins σ Q u s':=by
 obtain⟨v,H',os,bare,un,hok,r,q⟩:=h
 obtain⟨hh,g,d,t,os'⟩:=s'
 obtain rfl:os'=s.os:=os
 exact⟨v,H',I.call (h':=hh) (g':=g) (d':=d) (t':=t) (ch:=[]) un hok bare (λb z=>absurd z (by simp)),r,q⟩
end
def tCall(sp:Sp)(dvs:List V)(E:XK)(t:TA):TE:=λσ H Q=>t σ H λvs H1=>sp (vs ++ dvs) H1 Q E
def tMeth(C:Addr)(m:Str)(sp:Sp)(dvs:List V)(E:XK)(ta:TE)(t:TA):TE:=λσ H Q=>ta σ H λx H1=>∃a dx fs,x = .ref a/\H1 a=some (.ins C dx fs)/\fs.lookup m=none /\
 t σ H1 λvs H2=>sp (x :: (vs ++ dvs)) H2 Q E
def tMake(C:Addr)(sp:Sp)(dvs:List V)(E:XK)(t:TA):TE:=λσ H Q=>t σ H λvs H1=>∀x dx,H1 x=none->H1 dx=none->dx≠x ->
 sp (.ref x :: (vs ++ dvs)) (upd (upd H1 dx (.own x)) x (.ins C dx [])) (λv H2=>v = .non/\Q (.ref x) H2) E
def Binds(K:W.Frag)(fd:FuncData)(ps:List Str)(ds:List Value):Prop:=
 ∀(s:Shared) (us:List Value),K.In s.heap->(us ++ ds).length=ps.length->BindsTo s fd ⟨us,[]⟩ (ps.zip (us ++ ds))
theorem Binds.all{K:W.Frag}{fd:FuncData}{ps:List Str}(h:∀us:List Value,us.length=ps.length->bindArgs fd ⟨us,[]⟩=pure (ps.zip us)):Binds K fd ps []:=λs us _ hl=>by
 rw[List.append_nil]at hl ⊢
 exact .of_eq (h us hl)
def Passes(CX:CXT)(X:Cx)(E:XK):Prop:=∀(pins:List (Addr×Obj)) (σ : St) (H:Hp) (s:Shared) (e:Value) (s':Shared),Inv X pins σ H s->CX X.stack H s E e s'->X.xe e s'
section
variable{X:Cx}{CX:CXT}{k:Nat}{f C:Addr}{fd:FuncData}{ps:List Str}{sp:Sp}{dvs:List V}{ds:List Value}{E:XK}{x m:Str}{p pos apos:Pos}{e o:Expr}{es:List Expr}{ta:TE}{t:TA}
structure Mk(K:W.Frag)(C f:Addr):Prop where
 makes:W.makesIn K C=true
 init:W.findIn K (.ref C) "__init__" = some (some (.ref f))
 fn:W.isFn K (.ref f)=true
 kp:W.keepIn K (.ref C)=true
end
def PK(X:Cx)(kws:List Keyword)(t:TA):Prop:=
 ∀(pos:Pos) (pins:List (Addr×Obj)) (s:Shared) (σ : St) (H:Hp) (Q:List V->Hp->Prop),Inv X pins σ H s->t σ H Q->wpAny (model X.prog X.w) X.A (evalAll ((backToKw pos (keywordEach kws X.env)).map (·.2))) (AP X pins σ Q) X.xe s
section
variable{X:Cx}{CX:CXT}{k:Nat}{f C:Addr}{fd:FuncData}{ps ks:List Str}{sp:Sp}{E:XK}{x m:Str}{p pos apos kpos:Pos}{e o:Expr}{es:List Expr}{kws:List Keyword}{te ta:TE}{t tk:TA}{nm:Option Str}
structure KBinds(K:W.Frag)(fd:FuncData)(ps ks:List Str)(g:List Value->List Value->List Value)(gV:List V->List V->List V):Prop where
 to:∀(s:Shared) (us ws:List Value),K.In s.heap->(g us ws).length=ps.length->BindsTo s fd ⟨us,ks.zip ws⟩ (ps.zip (g us ws))
 rel:∀{vs:List V} {us:List Value} {zs:List V} {ws:List Value},Vals vs us->Vals zs ws->Vals (gV vs zs) (g us ws)
def tCallK(sp:Sp)(gV:List V->List V->List V)(E:XK)(t tk:TA):TE:=λσ H Q=>t σ H λvs H1=>tk σ H1 λzs H2=>sp (gV vs zs) H2 Q E
variable{g:List Value->List Value->List Value}{gV:List V->List V->List V}
end
structure FnScope(N P:List Str)(sc:Scope):Prop where
 kind:sc.kind = .function
 co:sc.isCoroutine=false
 gen:sc.isGenerator=false
 nd:N.Nodup
 pre:N.take P.length=P
 par:∀x∈P,sc.names.lookup x=some .local\/sc.names.lookup x=some .cell
 nofree:∀y∈sc.names,y.2≠.free
theorem zhi{kindOf:Str->Option NameKind}{x:Str}:∀{binds:List (Str×Value)} {m:Str->Option Value},(∀v,(x,v) ∉ binds)->bindL kindOf binds m x=m x
 | [],_,_=>rfl
 | (n,v) :: r,m,h=>by
  unfold bindL
  rw[zhi λw hw=>h w (List.mem_cons_of_mem _ hw)]
  split
  ·have:x≠n:=by rintro rfl;exact h v List.mem_cons_self
   simp[this]
  ·rfl
theorem zhd{kindOf:Str->Option NameKind}{x:Str}:∀{binds:List (Str×Value)} {m:Str->Option Value},(∀v,(x,v) ∉ binds)->bindC kindOf binds m x=m x
 | [],_,_=>rfl
 | (n,v) :: r,m,h=>by
  unfold bindC
  rw[zhd λw hw=>h w (List.mem_cons_of_mem _ hw)]
  split
  ·rfl
  ·have:x≠n:=by rintro rfl;exact h v List.mem_cons_self
   simp[this]
theorem zhr{kindOf:Str->Option NameKind}{x:Str}{v:Value}:∀{P:List Str} {vs:List Value} {i:Nat} {m:Str->Option Value},P.Nodup->P[i]? = some x->vs[i]? = some v->kindOf x=some .local ->
  bindL kindOf (P.zip vs) m x=some v
 | [],_,_,_,_,h,_,_=>by simp at h
 | _ :: _,[],_,_,_,_,h,_=>by simp at h
 | p :: P,w :: vs,0,m,nd,h1,h2,hk=>by
  simp at h1 h2;subst h1;subst h2
  show bindL kindOf ((p,w) :: P.zip vs) m p=_
  unfold bindL
  rw[zhi λv hv=>(List.nodup_cons.mp nd).1 (List.of_mem_zip hv).1,if_pos hk]
  simp
 | p :: P,w :: vs,i + 1,m,nd,h1,h2,hk=>by
  show bindL kindOf ((p,w) :: P.zip vs) m x=_
  unfold bindL
  exact zhr (i:=i) (List.nodup_cons.mp nd).2 (by simpa using h1) (by simpa using h2) hk
theorem zh1{kindOf:Str->Option NameKind}{x:Str}{v:Value}:∀{P:List Str} {vs:List Value} {i:Nat} {m:Str->Option Value},P.Nodup->P[i]? = some x->vs[i]? = some v->kindOf x≠some .local ->
  bindC kindOf (P.zip vs) m x=some v
 | [],_,_,_,_,h,_,_=>by simp at h
 | _ :: _,[],_,_,_,_,h,_=>by simp at h
 | p :: P,w :: vs,0,m,nd,h1,h2,hk=>by
  simp at h1 h2;subst h1;subst h2
  show bindC kindOf ((p,w) :: P.zip vs) m p=_
  unfold bindC
  rw[zhd λv hv=>(List.nodup_cons.mp nd).1 (List.of_mem_zip hv).1,if_neg hk]
  simp
 | p :: P,w :: vs,i + 1,m,nd,h1,h2,hk=>by
  show bindC kindOf ((p,w) :: P.zip vs) m x=_
  unfold bindC
  exact zh1 (i:=i) (List.nodup_cons.mp nd).2 (by simpa using h1) (by simpa using h2) hk
def start(N:List Str)(vs:List V):St:=vs.map some ++ List.replicate (N.length - vs.length) none
def cxOf(CX:CXT)(P:Program)(w:World)(K:W.Frag)(mg:Str->Option Value)(base:Heap)(N:List Str)(qual:Str)(scope:Scope)(f:Addr)(cd:Value)(A:Around)(outer:List Env)(s:Shared)(H:Hp)(E:XK):Cx where
 prog:=P
 w:=w
 K:=K
 mg:=mg
 base:=base
 A:=A.deeper (envOfC qual scope s.heap.objs.size f cd)
 N:=N
 s₀:=s
 H₀:=H
 env:=envOfC qual scope s.heap.objs.size f cd
 outer:=outer
 stack:=envOfC qual scope s.heap.objs.size f cd :: outer
 ex:=[]
 calm:=true
 fn:=λ_=>true
 pn:=[]
 xe:=λe s'=>wpAny (model P w) (A.deeper (envOfC qual scope s.heap.objs.size f cd)) (leaving (envOfC qual scope s.heap.objs.size f cd) e) (λ_ s''=>CX outer H s E e s'') (λe' s''=>CX outer H s E e' s'') s'
theorem zjp{sc:Scope}{n:Nat}{x:Str}(h:sc.names.lookup x=some .cell):∃c,(cellsFrom n sc.names []).lookup x=some c:=by
 have q:=W.cellsFrom_some sc.names n [] (.inl h)
 exact Option.isSome_iff_exists.mp q
theorem zll{CX:CXT}{P:Program}{w:World}{K:W.Frag}{mg:Str->Option Value}{base:Heap}{N ps:List Str}{qual:Str}{scope:Scope}{f:Addr}{cd:Value}{A:Around}{outer:List Env}{s s1:Shared}{H:Hp}{E:XK}{us:List Value}{vs:List V}
  (S:FnScope N ps scope) (hd:A.handled=none) (e0:Env0 P w K mg base A outer s H) (hl:vs.length=ps.length) (r:Vals vs us)
  (x:InCallC s s.heap.objs.size (bindL (envOfC qual scope s.heap.objs.size f cd).kindOf (ps.zip us) λ_=>none) (cellsFrom (s.heap.objs.size + 1) scope.names []) (bindC (envOfC qual scope s.heap.objs.size f cd).kindOf (ps.zip us) λ_=>none) s1) :
  Inv (cxOf CX P w K mg base N qual scope f cd A outer s H E) [] (start N vs) H s1:=by
 have hpl:ps.length<=N.length:=by have:=congrArg List.length S.pre;rw[List.length_take]at this;omega
 obtain⟨h1,tk,rfl,hk⟩:=x.done
 have noA:∀b:Addr,b ∉ (cxOf CX P w K mg base N qual scope f cd A outer s H E).ex:=λb z=>absurd (show b∈([]:List Addr) from z) (by simp)
 refine⟨⟨e0.mod,S.kind,rfl,rfl,Nat.le_refl _,λy z c h1 h2 => ?_,λy hy => ?_,λy c _ h => ?_,λ_=>hd,Around.frames_deeper e0.frames,.inr ⟨rfl,rfl⟩,λb z=>absurd z (noA b),e0.bs,e0.bsz,λb _ _=>noA b,λb z=>absurd z (noA b),e0.funs,e0.frf⟩,
  rfl,e0.bare,Un.kept hk,⟨_,x.toInCall.ns,λi y v h1 h2 h3 => ?_⟩,λy c h=>⟨_,x.cell y c h⟩,e0.hok.fresh (Nat.le_refl _),λy c h => ?_,λp hp=>absurd (show p∈([]:List (Addr×Obj)) from hp) (by simp),e0.hok.kept hk,?_⟩
 ·exact name_of_addr x.apart (PySem.mem_of_lookup h1) (PySem.mem_of_lookup h2)
 ·have hy:scope.names.lookup y=some .cell\/scope.names.lookup y=some .free:=hy
  rcases hy with hy | hy
  ·exact zjp hy
  ·exact absurd rfl (S.nofree _ (PySem.mem_of_lookup hy))
 ·exact Nat.le_of_lt (x.above y c (PySem.mem_of_lookup h))
 ·have hi:i < vs.length:=by
   unfold start at h2
   by_cases hi:i < vs.length
   ·exact hi
   ·rw[List.getElem?_append_right (by simpa using hi)]at h2
    rw[List.getElem?_replicate]at h2
    split at h2 <;> cases h2
  have ha:vs[i]? = some v:=by
   unfold start at h2
   rw[List.getElem?_append_left (by simpa using hi),List.getElem?_map]at h2
   cases e:vs[i]? with
   | none=>rw[e]at h2;cases h2
   | some a=>rw[e]at h2;cases h2;rfl
  obtain⟨u,hu,rv⟩:=r.get ha
  have hp:ps[i]? = some y:=by
   rw[<- S.pre,List.getElem?_take_of_lt (by omega)];exact h1
  have ndP:ps.Nodup:=by rw[<- S.pre];exact S.nd.sublist (List.take_sublist _ _)
  refine⟨u,rv,?_⟩
  rcases S.par y (List.mem_of_getElem? hp) with k | k
  ·exact .inl ⟨k,zhr ndP hp hu k⟩
  ·obtain⟨c,e⟩:=zjp (n:=s.heap.objs.size + 1) k
   refine .inr ⟨.inl k,c,e,?_⟩
   have q:=x.cell y c e
   rw[zh1 ndP hp hu (by show scope.names.lookup y≠_;rw[k];decide)]at q
   exact q
 ·exact e0.hok.fresh (Nat.le_of_lt (x.above y c (PySem.mem_of_lookup h)))
 ·unfold start
  show _=N.length
  rw[List.length_append,List.length_map,List.length_replicate]
  omega
theorem zpu{CX:CXT}{P:Program}{w:World}{K:W.Frag}{mg:Str->Option Value}{base:Heap}{k:Nat}{f:Addr}{name qual:Str}{params:Arguments}{body:List Stmt}{scope:Scope}{dV kV doc pm cdv ct oc:Value}{an od:Option Addr}
  {osl:Array (Option Value)} {N ps:List Str} {sp:Sp} (lk:K.lookup f=some ⟨oc,od,.func (W.fnOf name qual params body scope dV kV doc pm an cdv ct),osl⟩) (hcd:W.codeIn K cdv qual=true) (S:FnScope N ps scope)
  (len:∀vs H Q E,sp vs H Q E->vs.length=ps.length)
  (hbody:∀(A:Around) (outer:List Env) (s:Shared) (H:Hp) (vs:List V) (Q:VK) (E:XK),Room k (A.deeper (envOfC qual scope s.heap.objs.size f cdv))->sp vs H Q E ->
   ∃t,PSs (cxOf CX P w K mg base N qual scope f cdv A outer s H E) body t/\t { nx:=λ_ H'=>Q .non H',rt:=Q } (start N vs) H) :
  FnOk P w K mg base CX (k + 1) f (W.fnOf name qual params body scope dV kV doc pm an cdv ct) ps sp:=by
 refine⟨len,λA outer s H args us vs Q E hr e0 hb r hsp => ?_⟩
 have hl:=len _ _ _ _ hsp
 have KX:K.In s.heap:=e0.mod.kin.keeps λb o e=>(e0.bs b o e).1
 have lim:s.heap.NoLimit:=e0.mod.nolimit.keeps λb o e=>(e0.bs b o e).1
 have hkind:∀y∈ps.zip us,scope.names.lookup y.1=some .local\/(scope.names.lookup y.1=some .cell/\((cellsFrom (s.heap.objs.size + 1) scope.names []).lookup y.1).isSome=true):=fun⟨n,v⟩ hy=>by
  rcases S.par n (List.of_mem_zip hy).1 with q | q
  ·exact .inl q
  ·exact .inr ⟨q,W.cellsFrom_some _ _ _ (.inl q)⟩
 refine codeAny_call_function hr.depth (KX _ _ lk) rfl S.co S.gen rfl (W.codeRec_of KX hcd) (hb _ _ _ _ ?_)
 refine wpAny_newFunctionEnv_cells S.kind hkind λenv he s1 x => ?_
 subst he
 refine⟨lim.keeps x.toInCall.keep,codeAny_func ?_⟩
 obtain⟨t,ht,hq⟩:=hbody A outer s H vs Q E (hr.deeper _) hsp
 have I:Inv (cxOf CX P w K mg base N qual scope f cdv A outer s H E) [] (start N vs) H s1:=zll S hr.hd e0 hl r x
 refine wpAny_mono (ht [] s1 (start N vs) H _ I hq) (λfl s' hs => ?_) λe s' hs=>hs
 have fin:∀{σ':St} {H':Hp} {v:V} {u:Value},Inv (cxOf CX P w K mg base N qual scope f cdv A outer s H E) [] σ' H' s'->RelV v u->Q v H'->CE outer P w H s Q u s':=
  fun{σ' H' v u} J rv q=>⟨v,H',J.os,J.bare,J.base,J.hok,rv,q⟩
 cases fl with
 | ret u=>
  obtain⟨v,σ',H',J,rv,q⟩:=hs
  exact fin J rv q
 | next=>
  obtain⟨σ',H',J,q⟩:=hs
  exact fin (v:=V.non) (u:=Value.none) J rfl q
 | brk=>
  obtain⟨_,_,_,q⟩:=hs
  exact False.elim q
 | cont=>
  obtain⟨_,_,_,q⟩:=hs
  exact False.elim q
end L2
namespace L2
open PySem PySem.Spec PyProof.Rows
section
variable{X:Cx}{x:Str}{p pos:Pos}{e:Expr}{es:List Expr}{t:TA}{id T:String}{r:List V->Hp->VK->Prop}
def tCB(r:List V->Hp->VK->Prop)(t:TA):TE:=λσ H Q=>t σ H λvs H1=>r vs H1 Q
theorem zat(hc:CallR X (.builtin id) r)(hg:Gl X x)(hm:X.mg x=none)(hv:bootBuiltins x=some (.builtin id))(ha:PA X (e :: es) t)(hn:x≠"__name__":=by decide)(hdb:(x == ("__debug__" : Str))=false:=by decide)
  (he:starEach (e :: es) X.env=(false,eval e X.env) :: starEach es X.env:=by rfl) (hpl:(backTo pos (starEach es X.env)).any (·.1)=false:=by rfl):PE X (.Call (.Name x p) (e :: es) [] pos) (tCB r t):=by
 intro pins s σ H Q I h
 refine wpAny_Call_Name_kw (zdh I hg hm hv ?_ hn hdb)
 exact PyProof.Rows.callWith_builtin1 (thn (ha pos pins s σ H _ I h) λus s1 ⟨vs,H1,I1,r1,q1⟩=>hc pins s1 σ H1 vs us Q I1 r1 q1) he hpl
theorem za4(hc:CallR X (.type T) r)(hg:Gl X x)(hm:X.mg x=none)(hv:bootBuiltins x=some (.type T))(ha:PA X (e :: es) t)(hn:x≠"__name__":=by decide)(hdb:(x == ("__debug__" : Str))=false:=by decide)
  (he:starEach (e :: es) X.env=(false,eval e X.env) :: starEach es X.env:=by rfl) (hpl:(backTo pos (starEach es X.env)).any (·.1)=false:=by rfl):PE X (.Call (.Name x p) (e :: es) [] pos) (tCB r t):=by
 intro pins s σ H Q I h
 refine wpAny_Call_Name_kw (zdh I hg hm hv ?_ hn hdb)
 exact PyProof.Rows.callWith_type1 (thn (ha pos pins s σ H _ I h) λus s1 ⟨vs,H1,I1,r1,q1⟩=>hc pins s1 σ H1 vs us Q I1 r1 q1) he hpl
end
end L2
namespace HT
open PySem PyProof.Rows
def lexLt:List Int->List Int->Bool
 | [],[]=>false
 | [],_ :: _=>true
 | _ :: _,[]=>false
 | x :: xs,y :: ys=>if x=y then lexLt xs ys else decide (x < y)
theorem lexLt_cons(x y:Int)(xs ys:List Int):lexLt (x :: xs) (y :: ys)=if x=y then lexLt xs ys else decide (x < y):=rfl
theorem zgv:lexLt [] []=false:=rfl
theorem lexLt_nil_cons(y:Int)(ys:List Int):lexLt [] (y :: ys)=true:=rfl
theorem lexLt_cons_nil(x:Int)(xs:List Int):lexLt (x :: xs) []=false:=rfl
theorem eqAt_int(A:Around)(s:Shared)(a:Int)(t:Tok)(c:Int)(u:Tok):∃e,SeqAt.EqAt A s (.int a t) (.int c u) e/\(e=true↔a=c):=
 ⟨(a == c),SeqAt.EqAt.int_int a t c u,by simp⟩
section
open PySem.SeqAt
open PySem.AutoSeq1 (wpAny_loadPart')
open PySem.MeetsSeq PySem.MeetsSeq2 PySem.MeetsSeq3
end
section
variable{prog:Program}{w:World}{A:Around}{E:Value->Shared->Prop}{s:Shared}
theorem cat_tup{t b:Addr}{vs ws:List Value}{Q:Value->Shared->Prop}(ht:IsTup s.heap t vs.toArray)(hb:IsTup s.heap b ws.toArray)(hv:vs≠[])
  (h1:ws=[]->Q (.ref t) s) (h2:ws≠[]->Q (.ref s.heap.objs.size) { s with heap:=s.heap.push { cls := .type "tuple",data := .seq (vs ++ ws).toArray } })
  (hsz:vs.length + ws.length<=sizeLine):wpAny (model prog w) A (binaryOp .Add (.ref t) (.ref b)) Q E s:=by
 obtain⟨⟨cls,dd,data,sl⟩,ho,hc,n,hd⟩:=id ht
 obtain⟨⟨cls2,dd2,data2,sl2⟩,ho2,hc2,n2,hd2⟩:=id hb
 simp only at hc hd hc2 hd2
 subst hc hd hc2 hd2
 have e:vs.toArray ++ ws.toArray=(vs ++ ws).toArray:=by simp
 by_cases hw:ws=[]
 ·exact concat_meets ⟨_,ho,rfl⟩ ⟨_,ho2,rfl⟩ noFill_tuple_add seq_tuple_add PySem.F.slot_tuple_add PySem.F.entry_tuple_add (PySem.F.args_tuple_add_2 _ _)
   (tuple_addW1 t b vs.toArray ws.toArray n n2 dd dd2 sl sl2 (by simpa using hv) (by simp[hw])) ⟨ho,ho2,h1 hw⟩
 ·refine concat_meets ⟨_,ho,rfl⟩ ⟨_,ho2,rfl⟩ noFill_tuple_add seq_tuple_add PySem.F.slot_tuple_add PySem.F.entry_tuple_add (PySem.F.args_tuple_add_2 _ _)
   (tuple_addW2 t b vs.toArray ws.toArray n n2 dd dd2 sl sl2 (by simpa using hv) (by simpa using hw) (by rw[List.size_toArray,List.size_toArray];exact hsz)) ⟨ho,ho2,?_⟩
  rw[e]
  exact h2 hw
def sIx(n d:Nat):Option Int->Nat
 | none=>d
 | some v=>if v < 0 then(v + (n:Int)).toNat else min v.toNat n
theorem sIx_none(n d:Nat):sIx n d none=d:=rfl
theorem sIx_nat(n d k:Nat):sIx n d (some (k:Int))=min k n:=by
 show (if (k:Int) < 0 then((k:Int) + (n:Int)).toNat else min (k:Int).toNat n)=min k n
 rw[if_neg (by omega),Int.toNat_natCast]
end
end HT
namespace L2
open PySem PySem.Spec PyProof.Rows
abbrev TO:=St->Hp->(Option Int->Hp->Prop)->Prop
def PO(X:Cx)(e:Option Expr)(t:TO):Prop:=
 ∀(pins:List (Addr×Obj)) (s:Shared) (σ : St) (H:Hp) (Q:Option Int->Hp->Prop),Inv X pins σ H s->t σ H Q ->
  wpAny (model X.prog X.w) X.A (evalPart e X.env) (λu s'=>∃o H',Inv X pins σ H' s'/\IsPart u o/\Q o H') X.xe s
def tNoPart:TO:=λ_ H Q=>Q none H
def tPart(t:TE):TO:=λσ H Q=>t σ H λx H1=>∃i,x = .int i/\Q (some i) H1
theorem zct{ns:List Int}:∀{us:List Value},Vals (ns.map V.int) us->IntsAre us ns:=by
 induction ns with
 | nil=>intro us r;rw[List.map_nil]at r;cases r;exact .nil
 | cons n ns ih=>
  intro us r
  rw[List.map_cons]at r
  cases r with
  | cons r1 r2=>
   obtain⟨t,e⟩:=r1
   subst e
   exact .cons n t (ih r2)
section
variable{X:Cx}{e:Expr}{te:TE}{lo hi:Option Expr}{tl th:TO}{pos p2:Pos}
theorem zkq:PO X none tNoPart:=by
 intro pins s σ H Q I h
 rw[evalPart_none]
 exact wpAny_pure ⟨none,H,I,.none,h⟩
theorem zgr(h:PE X e te):PO X (some e) (tPart te):=by
 intro pins s σ H Q I hw
 rw[evalPart_some]
 refine thn (h pins s σ H _ I hw) λu s1 ⟨x,H1,I1,r1,q1⟩ => ?_
 obtain⟨i,rfl,q⟩:=q1
 obtain⟨t,rfl⟩:=r1
 exact⟨some i,H1,I1,.int i t,q⟩
def SlR(X:Cx)(r:V->Option Int->Option Int->Hp->VK->Prop):Prop:=
 ∀(pins:List (Addr×Obj)) (s:Shared) (σ : St) (H:Hp) (x:V) (v vl vu:Value) (lo hi:Option Int) (sl:Addr) (Q:VK),Inv X pins σ H s->RelV x v->s.heap.IsSliceOf sl vl vu .none->IsPart vl lo->IsPart vu hi->r x lo hi H Q ->
  ∃T id,typeLookup (.type T) "__getitem__" = pure (some (.builtin id))/\s.TypeIs v T/\wpAny (model X.prog X.w) X.A (getItem v (.ref sl)) (EP X pins σ Q) X.xe s
def tSl(r:V->Option Int->Option Int->Hp->VK->Prop)(te:TE)(tl th:TO):TE:=λσ H Q=>te σ H λx H1=>tl σ H1 λl H2=>th σ H2 λu H3=>r x l u H3 Q
theorem zgg{r:V->Option Int->Option Int->Hp->VK->Prop}(hr:SlR X r)(he:PE X e te)(hl:PO X lo tl)(hu:PO X hi th):PE X (.Subscript e (.Slice lo hi none p2) pos) (tSl r te tl th):=by
 intro pins s σ H Q I h
 refine Subscript_ (thn (he pins s σ H _ I h) λv s1 ⟨x,H1,I1,r1,q1⟩ => ?_)
 refine wpAny_Slice (thn (hl pins s1 σ H1 _ I1 q1) λvl s2 ⟨l,H2,I2,pl,q2⟩=>thn (hu pins s2 σ H2 _ I2 q2) λvu s3 ⟨u,H3,I3,pu,q3⟩ => ?_)
 rw[evalPart_none]
 refine wpAny_pure ?_
 have I4:Inv X pins σ H3 { s3 with heap:=s3.heap.push { cls := .type "slice",data := .fields #[vl,vu,.none] } }:=I3.kept (t':=s3.toks) λb ob q=>Heap.get?_push_of_some _ q
 obtain⟨T,id,hT,ht,hg⟩:=hr pins { s3 with heap:=s3.heap.push { cls := .type "slice",data := .fields #[vl,vu,.none] } } σ H3 x v vl vu l u s3.heap.objs.size Q I4 r1 (Heap.IsSliceOf.new ..) pl pu q3
 show wpAny (model X.prog X.w) X.A (subscriptTail e (.Slice lo hi none p2) v (.ref s3.heap.objs.size)) (EP X pins σ Q) X.xe { s3 with heap:=s3.heap.push { cls := .type "slice",data := .fields #[vl,vu,.none] } }
 exact tail_any (ops:=[.ref s3.heap.objs.size,v]) ht hT hg (by with_unfolding_all rfl)
def cutV(xs:List V)(lo hi:Option Int):List V:=(xs.drop (HT.sIx xs.length 0 lo)).take (HT.sIx xs.length xs.length hi - HT.sIx xs.length 0 lo)
theorem zil(xs:List V)(lo hi:Option Int):(cutV xs lo hi).length<=xs.length:=by
 unfold cutV
 rw[List.length_take,List.length_drop]
 omega
def rSlT(K:W.Frag):V->Option Int->Option Int->Hp->VK->Prop:=λx lo hi H Q=>∃a xs,x = .ref a/\SqT K H a xs /\
 ¬(HT.sIx xs.length 0 lo=0/\HT.sIx xs.length xs.length hi=xs.length)/\∀p,H p=none->Q (.ref p) (upd H p (.tup (cutV xs lo hi)))
def rLtT(K:W.Frag):R2:=λx y H Q=>∃a b ns ms,x = .ref a/\y = .ref b/\SqT K H a (ns.map V.int)/\SqT K H b (ms.map V.int)/\Q (.bl (HT.lexLt ns ms)) H
def rCatT(K:W.Frag):R2:=λx y H Q=>∃a b xs ys,x = .ref a/\y = .ref b/\SqT K H a xs/\SqT K H b ys/\xs≠[]/\xs.length + ys.length<=sizeLine /\
 (ys=[]->Q (.ref a) H)/\(ys≠[]->∀p,H p=none->Q (.ref p) (upd H p (.tup (xs ++ ys))))
theorem Vals.nil_iff{xs:List V}{us:List Value}(r:Vals xs us):us=[]↔xs=[]:=by
 cases r with
 | nil=>simp
 | cons _ _=>simp
theorem zd8:OpR X (binaryOp .Add) (rCatT X.K):=by
 intro pins s σ H x y v u Q I rx ry h
 obtain⟨a,b,xs,ys,rfl,rfl,ha,hb,hx,hz,q1,q2⟩:=h
 cases rx
 cases ry
 obtain⟨its,r1,p1,_⟩:=I.tuple ha
 obtain⟨its2,r2,p2,_⟩:=I.tuple hb
 refine HT.cat_tup p1 p2 (λz=>hx (r1.nil_iff.mp z)) (λz=>⟨.ref a,H,I,rfl,q1 (r2.nil_iff.mp z)⟩) (λz => ?_) (by rw[<- r1.length,<- r2.length];exact hz)
 refine⟨.ref s.heap.objs.size,_,I.laid (t':=s.toks) (o := .tup (xs ++ ys)) (λb ob q=>Heap.get?_push_of_some _ q) (Nat.le_refl _) ?_,rfl,q2 (λw=>z (r2.nil_iff.mpr w)) _ (I.hok.fresh (Nat.le_refl _))⟩
 exact⟨by rw[List.length_append];exact hz,_,r1.append r2,IsTup.new _ _⟩
end
end L2
namespace L2
open PySem PySem.Spec PyProof.Rows
def ixN(n:Nat)(i:Int):Option Nat:=if 0<=i then(if i < n then some i.toNat else none) else if -(n:Int)<=i then some (i + n).toNat else none
def atI{α : Type}(xs:List α)(i:Int):Option α:=(ixN xs.length i).bind λj=>xs[j]?
theorem zqm{n:Nat}{i:Int}{j:Nat}(h:ixN n i=some j):seqIndex? i n=some j/\j < n/\-(n:Int)<=i/\i < n:=by
 unfold ixN at h
 by_cases h0:0<=i
 ·rw[if_pos h0]at h
  by_cases h1:i < n
  ·rw[if_pos h1]at h
   have e:i.toNat=j:=Option.some.inj h
   exact⟨by rw[seqIndex_of h0 h1,e],by omega,by omega,h1⟩
  ·rw[if_neg h1]at h;cases h
 ·rw[if_neg h0]at h
  by_cases h1 : -(n:Int)<=i
  ·rw[if_pos h1]at h
   have e:(i + n).toNat=j:=Option.some.inj h
   exact⟨by rw[seqIndex_neg (by omega) h1,e],by omega,h1,by omega⟩
  ·rw[if_neg h1]at h;cases h
theorem zlv{α : Type}{xs:List α}{i:Int}{v : α}(h:atI xs i=some v):∃j,seqIndex? i xs.length=some j/\xs[j]? = some v/\j < xs.length/\-(xs.length:Int)<=i/\i < xs.length:=by
 unfold atI at h
 cases e:ixN xs.length i with
 | none=>rw[e]at h;cases h
 | some j=>
  rw[e]at h
  obtain⟨h1,h2,h3,h4⟩:=zqm e
  exact⟨j,h1,h,h2,h3,h4⟩
theorem zlw{α : Type}{xs:List α}{j:Nat}{v : α}(h:xs[j]? = some v):atI xs (j:Int)=some v:=by
 have hj:j < xs.length:=(List.getElem?_eq_some_iff.mp h).1
 have e:ixN xs.length (j:Int)=some j:=by
  unfold ixN
  rw[if_pos (by omega),if_pos (by omega)];simp
 unfold atI;rw[e];exact h
def PlainIx(b:Expr):Prop:=∀o i,subscripted b false o i=operate [o,i] (getItem o i)
def IxR(X:Cx)(r:R2):Prop:=
 ∀(value slice:Expr) (pins:List (Addr×Obj)) (s:Shared) (σ : St) (H:Hp) (x y:V) (v u:Value) (Q:VK),Inv X pins σ H s->RelV x v->RelV y u->r x y H Q ->
  subscripted slice false v u=operate [v,u] (getItem v u)->wpAny (model X.prog X.w) X.A (subscriptTail value slice v u) (EP X pins σ Q) X.xe s
def MtR(X:Cx)(id:String)(r:V->List V->Hp->VK->Prop):Prop:=
 ∀(pins:List (Addr×Obj)) (s:Shared) (σ : St) (H:Hp) (x:V) (xs:List V) (v:Value) (us:List Value) (Q:VK),Inv X pins σ H s->RelV x v->Vals xs us->r x xs H Q ->
  wpAny (model X.prog X.w) X.A (call (.builtin id) (v :: us)) (EP X pins σ Q) X.xe s
section
variable{X:Cx}{a b:Expr}{ta tb:TE}{pos:Pos}
theorem zdz{r:R2}(hr:IxR X r)(ha:PE X a ta)(hb:PE X b tb)(hs:PlainIx b):PE X (.Subscript a b pos) (tOp r ta tb):=by
 intro pins s σ H Q I h
 exact Subscript_ (binT ha hb I h λv u s2 x y H2 I2 rx ry q=>hr a b pins s2 σ H2 x y v u Q I2 rx ry q (hs _ _))
def rIxL(K:W.Frag):R2:=λx y H Q=>∃p xs i v,x = .ref p/\y = .int i/\SqL K H p xs/\atI xs i=some v/\Q v H
def rIxT(K:W.Frag):R2:=λx y H Q=>∃p xs i v,x = .ref p/\y = .int i/\SqT K H p xs/\atI xs i=some v/\Q v H
def rIxS:R2:=λx y H Q=>∃z i c,x = .str z/\y = .int i/\z.length<=sizeLine/\atI z.cps.toList i=some c/\Q (.str ⟨#[c]⟩) H
theorem zfg:IxR X (rIxL X.K):=by
 intro value slice pins s σ H x y v u Q I rx ry h hs
 obtain⟨p,xs,i,z,rfl,rfl,hq,he,q⟩:=h
 cases rx
 obtain⟨t,rfl⟩:=ry
 obtain⟨its,r,pl,hz⟩:=I.list hq
 obtain⟨j,h1,h2,h3,h4,h5⟩:=zlv he
 obtain⟨w,ew,rw'⟩:=r.get h2
 have hl:=r.length
 have hn:=line63
 have fin:EP X pins σ Q w s:=⟨z,H,I,rw',q⟩
 by_cases h0:0<=i
 ·have hj:i.toNat=j:=by
   rw[seqIndex_of h0 h5]at h1
   exact Option.some.inj h1
  exact item_listR pl.isList h0 (by omega) (by rw[hj];simpa using ew) fin hs
 ·have hj:(i + (its.toArray.size:Int)).toNat=j:=by
   rw[seqIndex_neg (by omega) h4]at h1
   rw[List.size_toArray,<- hl]
   exact Option.some.inj h1
  exact subscriptTail_builtinR (x:=w) pl.isList.typeIs slot_list_getitem.lookup
   (wpAny_getItem_list_neg (Q:=λr s'=>r=w/\EP X pins σ Q r s') pl.isList (by omega) (by rw[List.size_toArray] <;> omega) (by omega) (by rw[hj];simpa using ew) ⟨rfl,fin⟩) hs
theorem zdo:IxR X (rIxT X.K):=by
 intro value slice pins s σ H x y v u Q I rx ry h hs
 obtain⟨p,xs,i,z,rfl,rfl,hq,he,q⟩:=h
 cases rx
 obtain⟨t,rfl⟩:=ry
 obtain⟨its,r,pl,hz⟩:=I.tuple hq
 obtain⟨j,h1,h2,h3,h4,h5⟩:=zlv he
 obtain⟨w,ew,rw'⟩:=r.get h2
 have hl:=r.length
 have hn:=line63
 have fin:EP X pins σ Q w s:=⟨z,H,I,rw',q⟩
 exact subscriptTail_builtinR (x:=w) pl.typeIs slot_tuple_getitem.lookup
  (getItem_tuple (j:=j) (Q:=λr s'=>r=w/\EP X pins σ Q r s') pl (by omega) (by omega) (by rw[List.size_toArray,<- hl];exact h1) (by simpa using ew) ⟨rfl,fin⟩) hs
def rIx(K:W.Frag):R2:=λx y H Q=>rIxL K x y H Q\/rIxT K x y H Q\/rIxS x y H Q
theorem Inv.lst{pins:List (Addr×Obj)}{σ : St}{H:Hp}{s:Shared}{p:Addr}{xs:List V}(I:Inv X pins σ H s)(h:H p=some (.lst xs)) :
  ∃(its:List Value) (n:Nat),Vals xs its/\s.heap.get? p=some { cls := .type "list",data := .seq its.toArray n }/\xs.length<=sizeLine:=by
 obtain⟨z,its,n,r,e⟩:=I.hok p _ h
 exact⟨its,n,r,e,z⟩
def rSetL:V->V->V->Hp->(Hp->Prop)->Prop:=λo i v H Q=>∃p xs k j,o = .ref p/\i = .int k/\H p=some (.lst xs)/\ixN xs.length k=some j/\Q (upd H p (.lst (xs.set j v)))
theorem zg9(lo hi:Option Int)(n:Nat):(sliceBounds lo hi none n).1=((HT.sIx n 0 lo:Nat):Int)/\(sliceBounds lo hi none n).2.1=((HT.sIx n n hi:Nat):Int)/\(sliceBounds lo hi none n).2.2=1:=by
 refine⟨?_,?_,rfl⟩
 ·cases lo with
  | none=>simp[sliceBounds,HT.sIx]
  | some i=>
   simp only[sliceBounds,HT.sIx,Option.getD_none,show (1:Int) > 0 by decide,if_true]
   by_cases h:i < 0
   ·simp only[h,if_true] <;> omega
   ·simp only[h,if_false] <;> omega
 ·cases hi with
  | none=>simp[sliceBounds,HT.sIx]
  | some i=>
   simp only[sliceBounds,HT.sIx,Option.getD_none,show (1:Int) > 0 by decide,if_true]
   by_cases h:i < 0
   ·simp only[h,if_true] <;> omega
   ·simp only[h,if_false] <;> omega
theorem zgu(its:List Value)(lo hi:Option Int):slicePick its.toArray lo hi none=((its.drop (HT.sIx its.length 0 lo)).take (HT.sIx its.length its.length hi - HT.sIx its.length 0 lo)).toArray:=by
 obtain⟨h1,h2,h3⟩:=zg9 lo hi its.toArray.size
 unfold slicePick
 rw[h1,h2,h3]
 simp only[sliceRange_one,pick_run,List.size_toArray] <;> rfl
def rSlL(K:W.Frag):V->Option Int->Option Int->Hp->VK->Prop:=λx lo hi H Q=>∃a xs,x = .ref a/\SqL K H a xs/\∀p,H p=none->Q (.ref p) (upd H p (.lst (cutV xs lo hi)))
theorem zq6:SlR X (rSlL X.K):=by
 intro pins s σ H x v vl vu lo hi sl Q I rx hs pl pu h
 obtain⟨a,xs,rfl,hx,q⟩:=h
 cases rx
 obtain⟨its,r,ht,hz⟩:=I.list hx
 have hlen:=r.length
 refine⟨"list",_,slot_list_getitem.lookup,ht.isList.typeIs,?_⟩
 refine wpAny_getItem_list_slice ht.isList hs pl pu .none (by simp) ?_ (by rw[List.size_toArray] <;> omega)
 rw[zgu,<- hlen]
 refine⟨.ref s.heap.objs.size,_,I.laid (t':=s.toks) (o := .lst (cutV xs lo hi)) (λb ob q=>Heap.get?_push_of_some _ q) (Nat.le_refl _) ?_,rfl,q _ (I.hok.fresh (Nat.le_refl _))⟩
 exact⟨Nat.le_trans (zil xs lo hi) hz,_,0,(r.drop (HT.sIx xs.length 0 lo)).take (HT.sIx xs.length xs.length hi - HT.sIx xs.length 0 lo),Heap.get?_push_size _ rfl⟩
def flatV:V->Bool
 | .non=>true
 | .bl _=>true
 | .int _=>true
 | .str _=>true
 | _=>false
def eqV:V->V->Bool
 | .non,.non=>true
 | .bl a,.bl b=>a == b
 | .bl a,.int b=>(if a then 1 else 0) == b
 | .int a,.bl b=>a == (if b then 1 else 0)
 | .int a,.int b=>a == b
 | .str a,.str b=>a == b
 | _,_=>false
theorem zrj{A:Around}{s:Shared}{y x:V}{u v:Value}(ry:RelV y u)(rx:RelV x v)(fy:flatV y=true)(fx:flatV x=true):SeqAt.EqAt A s u v (eqV y x):=by
 cases y with
 | non=>
  cases ry
  cases x with
  | non=>cases rx;exact SeqAt.EqAt.same _
  | bl b=>cases rx;exact SeqAt.EqAt.none_bool b
  | int b=>obtain⟨t,rfl⟩:=rx;exact SeqAt.EqAt.none_int b t
  | str b=>obtain⟨t,rfl⟩:=rx;exact SeqAt.EqAt.none_str b t
  | _=>exact absurd (show false=true from fx) Bool.false_ne_true
 | bl a=>
  cases ry
  cases x with
  | non=>cases rx;exact SeqAt.EqAt.bool_none a
  | bl b=>cases rx;exact SeqAt.EqAt.bool_bool a b
  | int b=>obtain⟨t,rfl⟩:=rx;exact SeqAt.EqAt.bool_int a b t
  | str b=>obtain⟨t,rfl⟩:=rx;exact SeqAt.EqAt.bool_str a b t
  | _=>exact absurd (show false=true from fx) Bool.false_ne_true
 | int a=>
  obtain⟨t',rfl⟩:=ry
  cases x with
  | non=>cases rx;exact SeqAt.EqAt.int_none a t'
  | bl b=>cases rx;exact SeqAt.EqAt.int_bool a t' b
  | int b=>obtain⟨t,rfl⟩:=rx;exact SeqAt.EqAt.int_int a t' b t
  | str b=>obtain⟨t,rfl⟩:=rx;exact SeqAt.EqAt.int_str a t' b t
  | _=>exact absurd (show false=true from fx) Bool.false_ne_true
 | str a=>
  obtain⟨t',rfl⟩:=ry
  cases x with
  | non=>cases rx;exact SeqAt.EqAt.str_none a t'
  | bl b=>cases rx;exact SeqAt.EqAt.str_bool a t' b
  | int b=>obtain⟨t,rfl⟩:=rx;exact SeqAt.EqAt.str_int a t' b t
  | str b=>obtain⟨t,rfl⟩:=rx;exact SeqAt.EqAt.str_str a t' b t
  | _=>exact absurd (show false=true from fx) Bool.false_ne_true
 | _=>exact absurd (show false=true from fy) Bool.false_ne_true
def eqU(x:V)(u:Value):Bool:=match u with
 | .none=>eqV .non x
 | .bool b=>eqV (.bl b) x
 | .int i _=>eqV (.int i) x
 | .str z _=>eqV (.str z) x
 | _=>false
theorem zox{x y:V}{u:Value}(r:RelV y u)(f:flatV y=true):eqU x u=eqV y x:=by
 cases y with
 | non=>cases r;rfl
 | bl b=>cases r;rfl
 | int i=>obtain⟨t,rfl⟩:=r;rfl
 | str z=>obtain⟨t,rfl⟩:=r;rfl
 | _=>exact absurd (show false=true from f) Bool.false_ne_true
theorem zin{x:V}:∀{xs:List V} {us:List Value},Vals xs us->xs.all flatV=true->us.any (eqU x)=xs.any λy=>eqV y x
 | _,_,.nil,_=>rfl
 | y :: xs,u :: us,.cons r t,f=>by
  rw[List.all_cons,Bool.and_eq_true]at f
  rw[List.any_cons,List.any_cons,zox r f.1,zin t f.2]
theorem zg0{A:Around}{s:Shared}{x:V}{v:Value}(rx:RelV x v)(fx:flatV x=true):∀{xs:List V} {us:List Value},Vals xs us->xs.all flatV=true->∀u∈us,SeqAt.EqAt A s u v (eqU x u)
 | _,_,.nil,_=>λu hu=>by cases hu
 | y :: xs,u :: us,.cons r t,f=>λu' hu=>by
  rw[List.all_cons,Bool.and_eq_true]at f
  rcases List.mem_cons.mp hu with rfl | hu
  ·rw[zox r f.1];exact zrj r rx f.1 fx
  ·exact zg0 rx fx t f.2 u' hu
def inV(x:V)(xs:List V):Bool:=xs.any λy=>eqV y x
def rIn(K:W.Frag)(neg:Bool):R2:=λx y H Q=>∃p xs,y = .ref p/\(SqL K H p xs\/SqT K H p xs)/\flatV x=true/\xs.all flatV=true/\Q (.bl (if neg then !inV x xs else inV x xs)) H
theorem zhc:OpR X (compareOp .NotIn) (rIn X.K true):=by
 intro pins s σ H x y v u Q I rx ry h
 obtain⟨p,xs,rfl,hq,fx,fs,q⟩:=h
 cases ry
 rcases hq with hq | hq
 ·obtain⟨its,r,pl,hz⟩:=I.list hq
  refine SeqAt.notIn_listAt (eqU x) pl.isList (λw hw=>zg0 rx fx r fs w (by simpa using hw)) ⟨.bl _,H,I,rfl,?_⟩
  rw[show its.toArray.any (eqU x)=its.any (eqU x) by simp,zin r fs]
  exact q
 ·obtain⟨its,r,pl,hz⟩:=I.tuple hq
  refine SeqAt.notIn_tupleAt (eqU x) pl (λw hw=>zg0 rx fx r fs w (by simpa using hw)) ⟨.bl _,H,I,rfl,?_⟩
  rw[show its.toArray.any (eqU x)=its.any (eqU x) by simp,zin r fs]
  exact q
theorem zhu:CallR X (.builtin "len") (λxs H Q=>∃p ys,xs=[.ref p]/\(SqL X.K H p ys\/SqT X.K H p ys)/\Q (.int ys.length) H):=by
 intro pins s σ H xs us Q I r h
 obtain⟨p,ys,rfl,hq,q⟩:=h
 obtain⟨u,rfl,rx⟩:=vals1 r
 cases rx
 have hn:=line63
 rcases hq with hq | hq
 ·obtain⟨its,r',pl,hz⟩:=I.list hq
  have hlen:=r'.length
  exact Calls.call_len_list pl.isList (by simp only[List.size_toArray] <;> omega) ⟨.int ys.length,H,I.tok _,⟨s.toks + 1,by rw[List.size_toArray,hlen]⟩,q⟩
 ·obtain⟨its,r',pl,hz⟩:=I.tuple hq
  have hlen:=r'.length
  exact len_tuple pl (by simp only[List.size_toArray] <;> omega) ⟨.int ys.length,H,I.tok _,⟨s.toks + 1,by rw[List.size_toArray,hlen]⟩,q⟩
theorem zhw:CallR X (.builtin "len") (λxs H Q=>∃z,xs=[.str z]/\z.length<=sizeLine/\Q (.int z.length) H):=by
 intro pins s σ H xs us Q I r h
 obtain⟨z,rfl,hz,q⟩:=h
 obtain⟨u,rfl,t,rfl⟩:=vals1 r
 have hn:=line63
 exact len_str (by omega) ⟨.int z.length,H,I.tok _,⟨_,rfl⟩,q⟩
theorem zho:CallR X (.type "list") (λxs H Q=>∃p ys,xs=[.ref p]/\(SqL X.K H p ys\/SqT X.K H p ys)/\∀l,H l=none->Q (.ref l) (upd H l (.lst ys))):=by
 intro pins s σ H xs us Q I r h
 obtain⟨p,ys,rfl,hq,q⟩:=h
 obtain⟨u,rfl,rx⟩:=vals1 r
 cases rx
 have fin:∀(its:List Value),Vals ys its->ys.length<=sizeLine->∀(h':Heap) (c':Nat),(∀b o',s.heap.get? b=some o'->h'.get? b=some o') ->
   h'.get? s.heap.objs.size=some { cls := .type "list",dict:=none,data := .seq its.toArray c',slots := #[] }->EP X pins σ Q (.ref s.heap.objs.size) { s with heap:=h' }:=λits r' hz h' c' kp e=>
  ⟨.ref s.heap.objs.size,_,I.laid (t':=s.toks) kp (Nat.le_refl _) (show ObjOk X.prog X.w _ h' _ (.lst ys) from⟨hz,its,c',r',e⟩),rfl,q _ (I.hok.fresh (Nat.le_refl _))⟩
 rcases hq with hq | hq
 ·obtain⟨its,r',pl,hz⟩:=I.list hq
  have hlen:=r'.length
  obtain⟨o,ho,hc,n,hd⟩:=pl.isList
  exact call_list_seq p (.inl rfl) ho hc hd (λh' c' kp e=>fin its r' hz h' c' kp e) (by simp only[List.size_toArray] <;> omega)
 ·obtain⟨its,r',pl,hz⟩:=I.tuple hq
  have hlen:=r'.length
  obtain⟨o,ho,hc,n,hd⟩:=pl
  exact call_list_seq p (.inr rfl) ho hc hd (λh' c' kp e=>fin its r' hz h' c' kp e) (by simp only[List.size_toArray] <;> omega)
theorem zg1:CallR X (.type "tuple") (λxs H Q=>∃p ys,xs=[.ref p]/\((SqL X.K H p ys/\∀l,H l=none->Q (.ref l) (upd H l (.tup ys)))\/(SqT X.K H p ys/\Q (.ref p) H))):=by
 intro pins s σ H xs us Q I r h
 obtain⟨p,ys,rfl,h⟩:=h
 obtain⟨u,rfl,rx⟩:=vals1 r
 cases rx
 rcases h with⟨hq,q⟩ | ⟨hq,q⟩
 ·obtain⟨its,r',pl,hz⟩:=I.list hq
  have hlen:=r'.length
  refine call_tuple_list pl.isList (λh' kp => ?_) (by simp only[List.size_toArray] <;> omega)
  have I1:Inv X pins σ H { s with heap:=h' }:=I.kept (t':=s.toks) kp
  have I2:Inv X pins σ (upd H h'.objs.size (.tup ys)) { s with heap:=h'.push { cls := .type "tuple",data := .seq its.toArray } }:=
   I1.laid (t':=s.toks) (λb o e=>Heap.get?_push_of_some _ e) (Nat.le_refl _) (show ObjOk X.prog X.w _ _ _ (.tup ys) from⟨hz,its,r',IsTup.new _ _⟩)
  exact⟨.ref h'.objs.size,_,I2,rfl,q _ (I1.hok.fresh (Nat.le_refl _))⟩
 ·obtain⟨its,r',pl,hz⟩:=I.tuple hq
  exact call_tuple_same pl ⟨.ref p,H,I,rfl,q⟩
def tyV(K:W.Frag)(T:String)(x:V)(H:Hp):Prop:=match x with
 | .str _=>T = "str"
 | .int _=>T = "int"
 | .ref p=>(T = "list"/\∃xs,SqL K H p xs)\/(T = "tuple"/\∃o,K.lookup p=some o/\o.cls = .type "tuple"/\o.dict=none) \/
   (T = "dict"/\((∃kvs,H p=some (.dK kvs))\/∃kvs,H p=some (.dT kvs)))\/(T = "set"/\∃S n,H p=some (.set S n))
 | _=>False
theorem zo6{pins:List (Addr×Obj)}{σ : St}{H:Hp}{s:Shared}{T:String}{x:V}{v:Value}(I:Inv X pins σ H s)(r:RelV x v)(ty:tyV X.K T x H) :
  s.TypeIs v T/\∀a,v = .ref a->∃ob,s.heap.get? a=some ob/\ob.dict=none:=by
 cases x with
 | str z=>
  obtain⟨t,rfl⟩:=r
  cases (show T = "str" from ty)
  exact⟨typeIs_str s z t,λ_ e=>nomatch e⟩
 | int i=>
  obtain⟨t,rfl⟩:=r
  cases (show T = "int" from ty)
  exact⟨typeIs_int s i t,λ_ e=>nomatch e⟩
 | ref p=>
  cases r
  rcases ty with⟨rfl,xs,hq⟩ | ⟨rfl,o,hk,hc,hd⟩ | ⟨rfl,hk⟩ | ⟨rfl,S,n,hk⟩
  ·obtain⟨its,_,pl,_⟩:=I.list hq
   refine⟨pl.isList.typeIs,λa e => ?_⟩
   cases e
   obtain⟨o,n,e,c,hd,_⟩:=pl
   exact⟨o,e,hd⟩
  ·refine⟨⟨o,I.kIn p o hk,hc⟩,λa e => ?_⟩
   cases e
   exact⟨o,I.kIn _ o hk,hd⟩
  ·have z:∃o,s.heap.get? p=some o/\o.ExactDict:=by
    rcases hk with⟨kvs,hk⟩ | ⟨kvs,hk⟩
    ·obtain⟨_,_,_,_,o,_,_,e,ex,_⟩:=I.hok p _ hk
     exact⟨o,e,ex⟩
    ·obtain⟨_,_,_,_,o,_,_,e,ex,_⟩:=I.hok p _ hk
     exact⟨o,e,ex⟩
   obtain⟨o,e,ex⟩:=z
   refine⟨⟨o,e,ex.1⟩,λa e2 => ?_⟩
   cases e2
   exact⟨o,e,ex.2.1⟩
  ·obtain⟨o,_,_,_,e,ex,_⟩:=I.hok p _ hk
   refine⟨⟨o,e,ex.1⟩,λa e2 => ?_⟩
   cases e2
   exact⟨o,e,ex.2.1⟩
 | _=>exact False.elim ty
def tBM0(K:W.Frag)(T:String)(r:V->List V->Hp->VK->Prop)(to:TE):TE:=λσ H Q=>to σ H λx H1=>tyV K T x H1/\r x [] H1 Q
def tBM(K:W.Frag)(T:String)(r:V->List V->Hp->VK->Prop)(to:TE)(t:TA):TE:=λσ H Q=>to σ H λx H1=>tyV K T x H1/\t σ H1 λxs H2=>r x xs H2 Q
variable{o e:Expr}{es:List Expr}{to:TE}{t:TA}{name:Str}{apos cpos:Pos}{T id:String}{r:V->List V->Hp->VK->Prop}
theorem zsa(pa:PlainAttrs T)(slot:Slot T name id)(hty:typeOf (.builtin id)=pure (.type "method_descriptor"))(hm:MtR X id r)(ho:PE X o to)
  (hbase:attributeBase o name X.env (eval o X.env)=eval o X.env:=by rfl) (hline:(apos.endLine == cpos.line)=true:=by rfl):PE X (.Call (.Attribute o name apos) [] [] cpos) (tBM0 X.K T r to):=by
 intro pins s σ H Q I h
 refine wpAny_Call_method0_late hbase hline (thn (ho pins s σ H _ I h) λv s1 ⟨x,H1,I1,r1,ty,q1⟩ => ?_)
 obtain⟨h1,h2⟩:=zo6 I1 r1 ty
 exact⟨T,id,pa,slot,hty,h1,h2,Calls.callWith_builtin rfl (PySem.evalArgs_none (hm pins s1 σ H1 x [] v [] Q I1 r1 .nil q1))⟩
theorem zmq(pa:PlainAttrs T)(slot:Slot T name id)(hty:typeOf (.builtin id)=pure (.type "method_descriptor"))(hm:MtR X id r)(ho:PE X o to)(ha:PA X (e :: es) t)
  (hbase:attributeBase o name X.env (eval o X.env)=eval o X.env:=by rfl)
  (hfew:((backTo cpos (starEach (e :: es) X.env)).all (λx => !x.1) && (backToKw cpos (keywordEach [] X.env)).all (λx=>x.1.isSome)
   && decide ((e :: es).length + ([]:List Keyword).length + (if ([]:List Keyword).isEmpty then 0 else 1) < 30))=true:=by rfl)
  (hline:(apos.endLine == cpos.line)=true:=by rfl) (hs:starEach (e :: es) X.env=(false,eval e X.env) :: starEach es X.env:=by rfl) (hplain:(backTo cpos (starEach es X.env)).any (·.1)=false:=by rfl) :
  PE X (.Call (.Attribute o name apos) (e :: es) [] cpos) (tBM X.K T r to t):=by
 intro pins s σ H Q I h
 refine wpAny_Call_method_late hbase hfew hline rfl (thn (ho pins s σ H _ I h) λv s1 ⟨x,H1,I1,r1,ty,q1⟩ => ?_)
 obtain⟨h1,h2⟩:=zo6 I1 r1 ty
 refine⟨T,id,pa,slot,hty,h1,h2,?_⟩
 have hA:=ha cpos pins s1 σ H1 _ I1 q1
 rw[hs]at hA ⊢
 refine Calls.callWith_builtin (by show (false || (backTo cpos (starEach es X.env)).any (·.1))=false;rw[hplain] <;> rfl) (Calls.evalArgs_plain ?_)
 exact thn hA λus s2 ⟨vs,H2,I2,r2,q2⟩=>hm pins s2 σ H2 x vs v us Q I2 r1 r2 q2
/- xs.append(e),list.index on a module's tuple .. are MtR facts of 06m -/
end
end L2
namespace L2
open PySem PySem.Spec PyProof.Rows
def MtM(X:Cx)(id:String)(r:V->List V->Hp->VK->Prop):Prop:=
 ∀(pins:List (Addr×Obj)) (s:Shared) (σ : St) (H:Hp) (x:V) (xs:List V) (v:Value) (us:List Value) (Q:VK),Inv X pins σ H s->RelV x v->Vals xs us->r x xs H Q ->
  wpAny (model X.prog X.w) X.A (call (.builtin id) (v :: us)) (EP X pins σ Q) X.xe s
theorem Vals.one:∀{x:V} {us:List Value},Vals [x] us->∃u,us=[u]/\RelV x u
 | _,_,.cons r .nil=>⟨_,rfl,r⟩
theorem Vals.two:∀{x y:V} {us:List Value},Vals [x,y] us->∃u v,us=[u,v]/\RelV x u/\RelV y v
 | _,_,_,.cons r (.cons q .nil)=>⟨_,_,rfl,r,q⟩
theorem Vals.zero:∀{us:List Value},Vals [] us->us=[]
 | _,.nil=>rfl
theorem Vals.rep{xs:List V}{us:List Value}(h:Vals xs us):∀k:Nat,Vals (List.replicate k xs).flatten (List.replicate k us).flatten
 | 0 => .nil
 | k + 1=>by
  rw[List.replicate_succ,List.replicate_succ,List.flatten_cons,List.flatten_cons]
  exact Vals.append h (Vals.rep h k)
theorem zg6(its:List Value):∀(k:Nat) (acc:List Value),
  List.foldl (λx1 x2=>x1 ++ x2) acc.toArray (List.replicate k its.toArray)=(acc ++ (List.replicate k its).flatten).toArray
 | 0,acc=>by simp
 | k + 1,acc=>by
  have e:acc.toArray ++ its.toArray=(acc ++ its).toArray:=by simp
  have e2:(acc ++ its) ++ (List.replicate k its).flatten=acc ++ (List.replicate (k + 1) its).flatten:=by
   rw[List.replicate_succ,List.flatten_cons,List.append_assoc]
  rw[<- e2,<- zg6 its k (acc ++ its),<- e,List.replicate_succ,List.foldl_cons]
section
variable{X:Cx}{pins:List (Addr×Obj)}{σ : St}{H:Hp}{s:Shared}{l b:Addr}{xs ys zs:List V}
theorem Inv.lset{its its':List Value}{n:Nat}{f:Array Value->Array Value}{t':Nat}(I:Inv X pins σ H s)(hH:H l=some (.lst xs))
  (e:s.heap.get? l=some { cls := .type "list",data := .seq its.toArray n }) (hf:f its.toArray=its'.toArray) (hv:Vals ys its') (hz:ys.length<=sizeLine) :
  Inv X pins σ (upd H l (.lst ys)) { s with heap:=s.heap.update l (Obj.mapSeq f),toks:=t' }:=by
 have q:=PySem.IsL.update e f
 rw[hf]at q
 refine I.write (x:=l) (e:=l) (by rw[hH];exact trivial) (.inl rfl) (λb' u hb hu=>(Heap.get?_update_other s.heap (Obj.mapSeq f) (Ne.symm hb)).trans hu) ⟨_,q⟩ ?_
 exact⟨hz,its',_,hv,q⟩
theorem Inv.lnew{its:List Value}{t':Nat}(I:Inv X pins σ H s)(hv:Vals ys its)(hz:ys.length<=sizeLine) :
  Inv X pins σ (upd H s.heap.objs.size (.lst ys)) { s with heap:=s.heap.push { cls := .type "list",data := .seq its.toArray },toks:=t' }:=
 I.laid (λ_ _ q=>Heap.get?_push_of_some _ q) (Nat.le_refl _) ⟨hz,its,0,hv,Heap.get?_push_size _ rfl⟩
theorem Inv.fresh(I:Inv X pins σ H s):H s.heap.objs.size=none:=I.hok.fresh (Nat.le_refl _)
theorem Inv.lstM(I:Inv X pins σ H s)(hH:H l=some (.lst xs)):xs.length<=sizeLine/\∃(its:List Value) (n:Nat),Vals xs its/\xs.length=its.length/\s.heap.get? l=some { cls := .type "list",data := .seq its.toArray n }:=by
 obtain⟨z,its,n,r,e⟩:=I.hok l _ hH
 exact⟨z,its,n,r,r.length,e⟩
theorem notLongL{n:Nat}(h:n<=sizeLine):Builtin.List.listTooLong n=false:=by
 unfold Builtin.List.listTooLong
 exact decide_eq_false (by omega)
end
section
variable{X:Cx}
def rAppend:V->List V->Hp->VK->Prop:=λx vs H Q=>∃l xs y,x = .ref l/\vs=[y]/\H l=some (.lst xs)/\xs.length < sizeLine/\Q .non (upd H l (.lst (xs ++ [y])))
theorem zej:MtM X "list.append" rAppend:=by
 intro pins s σ H x vs v us Q I rx rv h
 obtain⟨l,xs,y,rfl,rfl,hH,hz,q⟩:=h
 cases rx
 obtain⟨u,rfl,ru⟩:=rv.one
 obtain⟨z,its,n,r,hl,e⟩:=I.lstM hH
 refine call_meets F.slot_list_append ⟨_,e,rfl⟩ F.entry_list_append (F.args_list_append_2 _ _) (PySem.list_append l its.toArray n u (by rw[List.size_toArray];omega)) ⟨e,?_⟩
 refine⟨.non,_,I.lset (its':=its ++ [u]) hH e (by simp) (r.append (.cons ru .nil)) ?_,rfl,q⟩
 rw[List.length_append,List.length_singleton]
 omega
def rExtend:V->List V->Hp->VK->Prop:=λx vs H Q=>∃l b xs zs,x = .ref l/\vs=[.ref b]/\H l=some (.lst xs)/\H b=some (.lst zs)/\xs.length + zs.length<=sizeLine/\Q .non (upd H l (.lst (xs ++ zs)))
theorem zk4:MtM X "list.extend" rExtend:=by
 intro pins s σ H x vs v us Q I rx rv h
 obtain⟨l,b,xs,zs,rfl,rfl,hH,hB,hz,q⟩:=h
 cases rx
 obtain⟨u,rfl,ru⟩:=rv.one
 cases ru
 obtain⟨z,its,n,r,hl,e⟩:=I.lstM hH
 obtain⟨z2,its2,n2,r2,hl2,e2⟩:=I.lstM hB
 have hsz:its.toArray.size + its2.toArray.size<=sizeLine:=by rw[List.size_toArray,List.size_toArray];omega
 have hlong:¬(!its.toArray.isEmpty && Builtin.List.listTooLong (its.toArray.size + its2.toArray.size))=true:=by
  rw[notLongL hsz,Bool.and_false]
  exact Bool.false_ne_true
 refine call_meets F.slot_list_extend ⟨_,e,rfl⟩ F.entry_list_extend (F.args_list_extend_2 _ _)
  (AutoSeq1.list_extend_list_list_0 l its.toArray n b its2.toArray n2 hlong (by rw[List.size_toArray];omega) (by omega)) ⟨e,e2,?_⟩
 refine⟨.non,_,I.lset (its':=its ++ its2) hH e (by simp) (r.append r2) ?_,rfl,q⟩
 rw[List.length_append]
 omega
def rPop:V->List V->Hp->VK->Prop:=λx vs H Q=>∃l xs y,x = .ref l/\vs=[]/\H l=some (.lst xs)/\xs[xs.length - 1]? = some y/\Q y (upd H l (.lst xs.dropLast))
def rPopAt:V->List V->Hp->VK->Prop:=λx vs H Q=>∃l xs i k y,x = .ref l/\vs=[.int i]/\H l=some (.lst xs)/\-(2 ^ 63)<=i/\i < 2 ^ 63/\seqIndex? i xs.length=some k/\xs[k]? = some y/\Q y (upd H l (.lst (xs.eraseIdx k)))
def rReverse:V->List V->Hp->VK->Prop:=λx vs H Q=>∃l xs,x = .ref l/\vs=[]/\H l=some (.lst xs)/\Q .non (upd H l (.lst xs.reverse))
def rClear:V->List V->Hp->VK->Prop:=λx vs H Q=>∃l xs,x = .ref l/\vs=[]/\H l=some (.lst xs)/\Q .non (upd H l (.lst []))
theorem znq:MtM X "list.clear" rClear:=by
 intro pins s σ H x vs v us Q I rx rv h
 obtain⟨l,xs,rfl,rfl,hH,q⟩:=h
 cases rx
 have hus:=rv.zero
 subst hus
 obtain⟨z,its,n,r,hl,e⟩:=I.lstM hH
 refine call_meets F.slot_list_clear ⟨_,e,rfl⟩ F.entry_list_clear (F.args_list_clear_1 _) (AutoSeq1.list_clear_list_0 l its.toArray n (by rw[List.size_toArray];omega)) ⟨e,?_⟩
 exact⟨.non,_,I.lset (its':=[]) (ys:=[]) hH e rfl .nil (Nat.zero_le _),rfl,q⟩
def rCat:R2:=λx y H Q=>∃l b xs zs,x = .ref l/\y = .ref b/\H l=some (.lst xs)/\H b=some (.lst zs)/\xs.length + zs.length<=sizeLine/\∀p,H p=none->Q (.ref p) (upd H p (.lst (xs ++ zs)))
theorem zk6:OpR X (binaryOp .Add) rCat:=by
 intro pins s σ H x y v u Q I rx ry h
 obtain⟨l,b,xs,zs,rfl,rfl,hH,hB,hz,q⟩:=h
 cases rx
 cases ry
 obtain⟨z,its,n,r,hl,e⟩:=I.lstM hH
 obtain⟨z2,its2,n2,r2,hl2,e2⟩:=I.lstM hB
 refine PySem.P.add_list e e2 ?_ (by rw[List.size_toArray,List.size_toArray];omega)
 have ea:its.toArray ++ its2.toArray=(its ++ its2).toArray:=by simp
 rw[ea]
 exact⟨.ref _,_,I.lnew (t':=s.toks) (r.append r2) (by rw[List.length_append];omega),rfl,q _ I.fresh⟩
def rRep:R2:=λx y H Q=>∃l k xs,x = .ref l/\y = .int k/\H l=some (.lst xs)/\-(2 ^ 63)<=k/\k < 2 ^ 63/\xs.length * k.toNat<=sizeLine /\
 ∀p,H p=none->Q (.ref p) (upd H p (.lst (List.replicate k.toNat xs).flatten))
theorem zl6{α : Type}(xs:List α)(k:Nat):(List.replicate k xs).flatten.length=k * xs.length:=by
 induction k with
 | zero=>simp
 | succ k ih=>rw[List.replicate_succ,List.flatten_cons,List.length_append,ih,Nat.succ_mul,Nat.add_comm]
end
section
variable{prog:Program}{w:World}{A:Around}{E:Value->Shared->Prop}{s:Shared}
end
section
variable{X:Cx}
end
end L2
namespace Att
open PySem PySem.W PySem.Calls PyProof.Rows
theorem zff{P:Params}{h:Heap}:∀(ns:List Int) (vs:List Value),WellAll P h vs (ns.map WData.int)->IntsAre vs ns:=by
 intro ns
 induction ns with
 | nil=>
  intro vs w
  rw[List.map_nil]at w
  cases w
  exact .nil
 | cons n ns ih=>
  intro vs w
  rw[List.map_cons]at w
  cases w with
  | cons a b=>
   cases a
   exact .cons _ _ (ih _ b)
theorem zme{l:OpenLaw}{n:Nat}(hn:l.most=some n){P:Params}{h:Heap}{args:List WData}{vals:List Value}
  (hpre:l.row.toRowW.claim.pre args=true) (hwl:WellAll P h vals args) :
  ∃a vs ns,vals=[Value.ref a]/\args=[WData.list (ns.map WData.int)]/\h.get? a=some { cls := .type "list",data := .seq vs.toArray }/\IntsAre vs ns/\ns.length<=n:=by
 have hsh:WShape.hasAll [] args [.list .int]=true:=(pre_splitW hpre).1
 have hc:l.pre.holds [] { args:=args }=true:=(pre_splitW hpre).2
 obtain⟨d,r,rfl,h1,h2⟩:=hasAllW_cons hsh
 obtain rfl:=hasAllW_nil h2
 obtain⟨xs,rfl,h3⟩:=hasW_list h1
 obtain⟨ns,rfl⟩:=items_int h3
 have hlen:ns.length<=n:=by
  unfold OpenLaw.pre at hc
  have h4:(WTm.not (.lt (.lit (.int (n:Int))) (.len (.arg 0)))).holds [] { args:=[.list (ns.map .int)] }=true:=by
   have h4:=(holds_andW hc).1
   rw[hn]at h4
   exact h4
  have h5:=condW_of h4 (w_not (w_lt w_lit (w_len_list (w_arg rfl))))
  rw[List.length_map]at h5
  refine Nat.le_of_not_lt λq => ?_
  have q':(n:Int) < ((ns.length:Nat):Int):=by omega
  first
   | (rw[decide_eq_true q']at h5;exact absurd h5 (by decide))
   | (simp at h5;omega)
 cases hwl with
 | cons w1 w2=>
  cases w2
  cases w1 with
  | list ho hall=>exact⟨_,_,ns,rfl,rfl,ho,zff ns _ hall,hlen⟩
theorem zlq(l:OpenLaw)(args:List WData):l.row.toRowW.claim.post args (.bool true) args=true:=
 postW_of (r:=l.row.toRowW) (X:=(true == true))
  (show WShape.has [] (.bool true) .bool=true by first | rfl | decide | simp[WShape.has,WShape.arms,WShape.armsAll])
  (show (WTm.eq .res (.lit (.bool true))).value [] { args:=args,res:=some (.bool true),after:=args }=some (.bool (true == true)) from w_eq_bool (w_res rfl) w_lit) rfl
theorem attach_call{l:OpenLaw}{n:Nat}{q:Program}{loose:List Str}{XP:(Str->Option Value)->Heap->Prop}{YP:World->Heap->Prop}{d:DefRec}
  (hn:l.most=some n) (hdf:d.params.defaults=[])
  (call:∀(w:World) (s₀ s₁:Shared) (mg mb:Str->Option Value) (fa:Addr) (o:Obj) (pm cd doc:Value) (a:Addr) (vs:List Value) (ns:List Int),
   Ground q loose [] XP w s₀ mg mb s₁.heap->YP w s₁.heap ->
   s₁.heap.get? fa=some o->o.data = .func (docDef d.name d.params d.body d.scope pm cd doc)->s₁.heap.CodeRec cd d.name->mg d.name=some (.ref fa) ->
   s₁.heap.get? a=some { cls := .type "list",data := .seq vs.toArray }->IntsAre vs ns->ns.length<=n->s₁.gens = #[] ->
   codeAny (model l.prog w) callerA (.call (.ref fa) ⟨[.ref a],[]⟩) (λr s'=>r = .ok (.ret (.bool true))/\OldK s₁.heap s'.heap/\s'.os=s₁.os/\AllBare s'.gens) s₁) :
  WalkO q loose XP YP l.row.toRowW d [] (λf vs=>PySem.call f vs):=by
 intro w s₀ s₁ mg mb G Y fa o pm cd doc dV kV ho hd hcd hD hmg hg args vals as hpre hlay hrd hwl hlo
 obtain rfl:dV = .none:=Dflts.none hD hdf
 obtain rfl:kV = .none:=Dflts.noKw hD
 obtain⟨a,vs,ns,rfl,rfl,hobj,hints,hlen⟩:=zme hn hpre hwl
 refine enter_call (codeAny_mono (call w s₀ s₁ mg mb fa o pm cd doc a vs ns G Y ho (fd_plain hd) hcd hmg hobj hints hlen hg) λr s' hq => ?_)
 obtain⟨rfl,h2,h3,h4⟩:=hq
 exact⟨.inl ⟨.bool true,.bool true,[],rfl,λ_=>rfl,.bool true,zlq l _,λ_=>⟨List.Pairwise.nil,λ_ hm=>(nomatch hm)⟩⟩,h2,h3,h4⟩
section
variable{prog:Program}{w:World}{A:Around}{E:Value->Shared->Prop}{s:Shared}{K:Frag}
def noObjs(h:Heap):Heap:={ h with objs := #[] }
def ledger(h:Heap)(L d:Addr):List (Addr×Obj):=(List.range h.objs.size).filterMap λa=>if a=L\/a=d then none else(h.get? a).map λo=>(a,o)
end
end Att
namespace L2
open PySem PySem.Spec PyProof.Rows
theorem zhs:∀{vs:List Value} {ns:List Int},IntsAre vs ns->Vals (ns.map V.int) vs
 | _,_,.nil => .nil
 | _,_,.cons n t h => .cons ⟨t,rfl⟩ (zhs h)
def Only(H:Hp):Prop:=∀b,H b=none\/∃o xs,H b=some (.frz o (.lst xs))
end L2
namespace L2
open PySem PySem.Spec PyProof.Rows
abbrev KOf{K:W.Frag}{h:Heap}(_:K.In h):W.Frag:=K
end L2
namespace L2
open PySem PySem.Spec PyProof.Rows
def inClass(s:Stmt)(j:Nat):Stmt:=match s with
 | .ClassDef _ _ _ body _ _ _ _ _ _ _=>body.getD j (.Pass ⟨0,0,0,0⟩)
 | _ => .Pass ⟨0,0,0,0⟩
def defArgs(s:Stmt):Arguments:=match s with
 | .FunctionDef _ a _ _ _ _ _ _ _ _=>a
 | _=>{ posonlyargs:=[],args:=[],vararg:=none,kwonlyargs:=[],kw_defaults:=[],kwarg:=none,defaults:=[] }
def defBody(s:Stmt):List Stmt:=match s with
 | .FunctionDef _ _ b _ _ _ _ _ _ _=>b
 | _=>[]
def defScope(s:Stmt):Scope:=match s with
 | .FunctionDef _ _ _ _ _ _ sc _ _ _=>sc
 | _=>{ kind := .function,names:=[],isGenerator:=false,isCoroutine:=false }
abbrev CX0:CXT:=λ_ _ _ _ _ _=>False
abbrev E0:XK:=λ_ _ _=>False
structure Fun(K:W.Frag)(x qual:Str)(st:Stmt)(f:Addr)(fd:FuncData):Prop where
 ex:∃(oc:Value) (od:Option Addr) (kV doc pm:Value) (an:Option Addr) (cdv ct:Value) (osl:Array (Option Value)),
  fd=W.fnOf x qual (defArgs st) (defBody st) (defScope st) .none kV doc pm an cdv ct/\K.lookup f=some ⟨oc,od,.func fd,osl⟩/\W.codeIn K cdv qual=true
 kp:W.keepIn K (.ref f)=true
section
variable{P:Program}{w:World}{K:W.Frag}{mg:Str->Option Value}{base:Heap}
end
section
variable{X:Cx}
theorem pv(i:Nat){x:Str}{pos:Pos}(hN:X.N[i]? = some x:=by rfl)(hv:Vis X.env.scope x:=by first | exact Or.inl rfl | exact Or.inr (Or.inl rfl) | exact Or.inr (Or.inr rfl))(hd:(x == ("__debug__" : Str))=false:=by decide)
  (hcd:(x == ("__classdict__" : Str))=false:=by decide):PE X (.Name x pos) (tVar i):=zr2 hN hv hd hcd
end
theorem iteF{A B:Prop}(h:B):if false=true then A else B:=by
 rw[if_neg Bool.false_ne_true]
 exact h
theorem iteT{A B:Prop}(h:A):if true=true then A else B:=by
 rw[if_pos rfl]
 exact h
def Same(H H':Hp):Prop:=∀b o,H b=some o->H' b=some o
theorem Same.refl(H:Hp):Same H H:=λ_ _ h=>h
theorem Same.trans{H H1 H2:Hp}(a:Same H H1)(b:Same H1 H2):Same H H2:=λc o h=>b c o (a c o h)
theorem Same.free{H H':Hp}(e:Same H H'){l:Addr}(h:H' l=Option.none):H l=Option.none:=by
 cases q:H l with
 | none=>rfl
 | some o=>
  rw[e l o q]at h
  cases h
theorem Same.seq{K:W.Frag}{H H':Hp}{a:Addr}{xs:List V}(e:Same H H')(h:SqL K H a xs):SqL K H' a xs:=by
 rcases h with(h | ⟨o,h⟩) | h
 ·exact .inl (.inl (e _ _ h))
 ·exact .inl (.inr ⟨o,e _ _ h⟩)
 ·exact .inr h
end L2
set_option Elab.async false
set_option linter.all false
set_option maxRecDepth 100000
namespace L2
open PySem PySem.Spec PyProof.Rows
abbrev kn(b:Bool):String:=if b then "tuple_iterator" else "list_iterator"
def SqAt(b:Bool)(h:Heap)(l:Addr)(items:Array Value):Prop:=match b with
 | true=>h.IsTuple l items
 | false=>h.IsList l items
def IterAt(b:Bool)(h:Heap)(it l:Addr)(i:Nat):Prop:=match b with
 | true=>h.IsTupleIter it l i
 | false=>h.IsListIter it l i
theorem SqAt.at{b:Bool}{h h':Heap}{l:Addr}{items:Array Value}(x:SqAt b h l items)(e:∀o,h.get? l=some o->h'.get? l=some o):SqAt b h' l items:=by
 cases b with
 | true=>obtain⟨o,ho,r⟩:=x;exact⟨o,e o ho,r⟩
 | false=>exact Heap.IsList.at x e
theorem IterAt.obj{b:Bool}{h:Heap}{it l:Addr}{i:Nat}(x:IterAt b h it l i):∃o,h.get? it=some o/\∀v,o.data≠.cell v:=by
 cases b <;> (obtain⟨o,ho,c,d⟩:=x;exact⟨o,ho,λv z=>by rw[d]at z;cases z⟩)
theorem IterAt.at{b:Bool}{h h':Heap}{it l:Addr}{i:Nat}(x:IterAt b h it l i)(e:∀o,h.get? it=some o->h'.get? it=some o):IterAt b h' it l i:=by
 cases b <;> (obtain⟨o,ho,r⟩:=x;exact⟨o,e o ho,r⟩)
section
variable{prog:Program}{w:World}{A:Around}{E:Value->Shared->Prop}{s:Shared}
theorem zgx{it t:Addr}{i:Nat}{items:Array Value}{x:Value}{Q:Value->Shared->Prop}(hit:s.heap.IsTupleIter it t i)(ht:s.heap.IsTuple t items)(hx:items[i]? = some x)
  (hQ:∀h',h'.IsTupleIter it t (i + 1)->Heap.SameBut it s.heap h'->Q x { s with heap:=h' }):wpAny (model prog w) A (Builtin.SmallTypes.nextOf (.ref it)) Q E s:=by
 obtain⟨o,ho,hc,hd⟩:=id hit;obtain⟨ol,hol,_,nl,hdl⟩:=ht
 unfold Builtin.SmallTypes.nextOf;refine wpAny_bind (wpAny_callSpecial?_slot (name:=Str.ofString "__next__") hit.typeIs F.slot_tuple_iterator_next (wpAny_call_entry F.slot_tuple_iterator_next hit.typeIs F.entry_tuple_iterator_next ?_ (F.args_tuple_iterator_next_1 _)))
 show wpAny _ _ (field (.ref it) 0 >>= _) _ _ s;refine wpAny_bind (wpAny_field ho hd (x := .ref t) rfl ?_)
 show wpAny _ _ (if (Value.ref t == Value.none)=true then _ else _) _ _ s;rw[if_neg (by intro z;cases z)]
 show wpAny _ _ (field (.ref it) 1 >>= _) _ _ s;refine wpAny_bind (wpAny_field ho hd (x := .int i 0) rfl ?_)
 show wpAny _ _ (seqItems? (.ref t) >>= _) _ _ s;refine wpAny_bind (wpAny_seqItems hol hdl ?_);simp only[Int.toNat_natCast,hx]
 refine wpAny_bind (wpAny_setField ho hd (by simp) (wpAny_pure ⟨x,rfl,wpAny_pure (hQ _ ⟨_,Heap.get?_update_self _ ho (Obj.isFreed_of_fields (Obj.data_mapFields hd _)),(Obj.cls_mapFields ..).trans hc,?_⟩ (Heap.SameBut.update ..))⟩))
 rw[Obj.data_mapFields hd];simp[rawInt]
theorem zh3{it t:Addr}{i:Nat}{items:Array Value}{Q:Value->Shared->Prop}(hh:A.handled=none)(hit:s.heap.IsTupleIter it t i)(ht:s.heap.IsTuple t items)(hx:items[i]? = none)
  (hE:∀h' e,Heap.ExtBut it s.heap h'->(∃o,h'.get? e=some o/\o.cls = .type "StopIteration")->E (.ref e) { s with heap:=h' }):wpAny (model prog w) A (Builtin.SmallTypes.nextOf (.ref it)) Q E s:=by
 obtain⟨o,ho,hc,hd⟩:=id hit;obtain⟨ol,hol,_,nl,hdl⟩:=ht
 unfold Builtin.SmallTypes.nextOf;refine wpAny_bind (wpAny_callSpecial?_slot (name:=Str.ofString "__next__") hit.typeIs F.slot_tuple_iterator_next (wpAny_call_entry F.slot_tuple_iterator_next hit.typeIs F.entry_tuple_iterator_next ?_ (F.args_tuple_iterator_next_1 _)))
 show wpAny _ _ (field (.ref it) 0 >>= _) _ _ s;refine wpAny_bind (wpAny_field ho hd (x := .ref t) rfl ?_)
 show wpAny _ _ (if (Value.ref t == Value.none)=true then _ else _) _ _ s;rw[if_neg (by intro z;cases z)]
 show wpAny _ _ (field (.ref it) 1 >>= _) _ _ s;refine wpAny_bind (wpAny_field ho hd (x := .int i 0) rfl ?_)
 show wpAny _ _ (seqItems? (.ref t) >>= _) _ _ s;refine wpAny_bind (wpAny_seqItems hol hdl ?_);simp only[Int.toNat_natCast,hx]
 refine wpAny_bind (wpAny_rule (wpAny_bind (wpAny_setField ho hd (by simp) ?_)));show wpAny _ _ (newExc (.type "StopIteration") [] >>= _) _ _ _
 refine wpAny_bind ?_;simp only[newExc,newTuple]
 refine wpAny_bind (wpAny_newObj_type ?_ (by size_fits));refine wpAny_bind (m:=firstArgMember _ _) (wpAny_of_eq (a:=Value.none) (by first | rfl | (simp only[firstArgMember];rfl)) ?_)
 refine wpAny_newObj_type ?_ (by size_fits);simp only[raiseNew];refine wpAny_bind (wpAny_handled ?_)
 first | rw[show A.in1.handled=none from hh] | rw[hh]
 refine wpAny_bind (wpAny_pure (wpAny_throw ?_));exact hE _ _ (((Heap.SameBut.update ..).extBut.push _).push _) ⟨_,Heap.get?_push_size _ rfl,rfl⟩
theorem zfh{b:Bool}{it l:Addr}{i:Nat}{items:Array Value}{x:Value}{Q:Value->Shared->Prop}(hit:IterAt b s.heap it l i)(hl:SqAt b s.heap l items)(hx:items[i]? = some x)
  (hQ:∀h',IterAt b h' it l (i + 1)->Heap.SameBut it s.heap h'->Q x { s with heap:=h' }):wpAny (model prog w) A (Builtin.SmallTypes.nextOf (.ref it)) Q E s:=by
 cases b with
 | true=>exact zgx hit hl hx hQ
 | false=>exact wpAny_nextOf_list_item hit hl hx hQ
theorem zjm{b:Bool}{it l:Addr}{i:Nat}{items:Array Value}{Q:Value->Shared->Prop}(hh:A.handled=none)(hit:IterAt b s.heap it l i)(hl:SqAt b s.heap l items)(hx:items[i]? = none)
  (hE:∀h' e,Heap.ExtBut it s.heap h'->(∃o,h'.get? e=some o/\o.cls = .type "StopIteration")->E (.ref e) { s with heap:=h' }):wpAny (model prog w) A (Builtin.SmallTypes.nextOf (.ref it)) Q E s:=by
 cases b with
 | true=>exact zh3 hh hit hl hx hE
 | false=>exact wpAny_nextOf_list_end hh hit hl hx hE
theorem zky{b:Bool}{l:Addr}{items:Array Value}{Q:Value->Shared->Prop}(hl:SqAt b s.heap l items)
  (hQ:Q (.ref s.heap.objs.size) { s with heap:=s.heap.push { cls := .type (kn b),data := .fields #[.ref l,.int 0 0] } }):wpAny (model prog w) A (pyIter (.ref l)) Q E s:=by
 cases b with
 | true=>exact wpAny_pyIter_tuple hl hQ
 | false=>exact wpAny_pyIter_list hl hQ
structure ZSt(b1 b2:Bool)(z TI TO i1 i2 l1 l2:Addr)(f0:Value)(k:Nat)(h:Heap):Prop where
 zip:IsZip h z TI TO f0
 ti:IsPair h TI (.ref i1) (.ref i2)
 to:∃a b,IsPair h TO a b
 it1:IterAt b1 h i1 l1 k
 it2:IterAt b2 h i2 l2 k
theorem ZSt.at{b1 b2:Bool}{z TI TO i1 i2 l1 l2:Addr}{f0:Value}{k:Nat}{h h':Heap}(x:ZSt b1 b2 z TI TO i1 i2 l1 l2 f0 k h)(e:∀b∈[z,TI,TO,i1,i2],∀o,h.get? b=some o->h'.get? b=some o) :
  ZSt b1 b2 z TI TO i1 i2 l1 l2 f0 k h':=
 ⟨e z (by simp) _ x.zip,e TI (by simp) _ x.ti,let ⟨a,b,q⟩:=x.to;⟨a,b,e TO (by simp) _ q⟩,x.it1.at λo q=>e i1 (by simp) o q,x.it2.at λo q=>e i2 (by simp) o q⟩
theorem zmm{b1 b2:Bool}{z TI TO i1 i2 l1 l2:Addr}{k:Nat}{xs ys:Array Value}{x y:Value}{Q:Value->Shared->Prop}(D:ZipApart z TI TO i1 i2 l1 l2)(S:ZSt b1 b2 z TI TO i1 i2 l1 l2 .none k s.heap)
  (hl1:SqAt b1 s.heap l1 xs) (hl2:SqAt b2 s.heap l2 ys) (hx:xs[k]? = some x) (hy:ys[k]? = some y)
  (hQ:∀h',ZSt b1 b2 z TI TO i1 i2 l1 l2 (rawInt s.heap.objs.size) (k + 1) h'->IsPair h' s.heap.objs.size x y->h'.objs.size=s.heap.objs.size + 1 ->
   (∀c o,c≠z->c≠TO->c≠i1->c≠i2->s.heap.get? c=some o->h'.get? c=some o)->Q (.ref s.heap.objs.size) { s with heap:=h' }) :
  wpAny (model prog w) A (Builtin.«zip.__next__» ⟨[.ref z],[]⟩) (λfin s'=>∃v,fin = .done (.ret v)/\Q v s') E s:=by
 obtain⟨hz,hTI,⟨a,b,hTO⟩,h1,h2⟩:=S
 show wpAny _ _ (field (.ref z) 2 >>= _) _ _ _;refine wpAny_bind (wpAny_field hz rfl (x := .bool false) rfl ?_)
 show wpAny _ _ (field (.ref z) 3 >>= _) _ _ _;refine wpAny_bind (wpAny_field hz rfl (x := .ref TI) rfl (wpAny_bind (wpAny_seqItems hTI rfl ?_)))
 show wpAny _ _ (Builtin.SmallTypes.ownedTupleIsFree (.ref z) >>= _) _ _ _;refine wpAny_bind ?_
 unfold Builtin.SmallTypes.ownedTupleIsFree;refine wpAny_bind (wpAny_field hz rfl (x := .none) rfl (wpAny_pure ?_));simp only[if_true]
 refine wpAny_bind (wpAny_rule (wpAny_bind (wpAny_field hz rfl (x := .ref TO) rfl ?_)))
 refine wpAny_bind (wpAny_setField_rec hz (by simp) λg1 z1 e1 => ?_)
 replace z1:IsZip g1 z TI TO .ellipsis:=z1;refine wpAny_bind ?_
 simp only[List.zipIdx_cons,List.zipIdx_nil,List.forIn_cons,List.forIn_nil];refine wpAny_bind (wpAny_bind (wpAny_onRaise ?_))
 show wpAny _ _ (Builtin.SmallTypes.nextOf (.ref i1) >>= _) _ _ _
 have k1:∀c o,c≠z->s.heap.get? c=some o->g1.get? c=some o:=λc o hc e=>e1.extBut c o hc e
 refine wpAny_bind (zfh (s:={ s with heap:=g1 }) (h1.at λo q=>k1 i1 o D.i1z q) (hl1.at λo q=>k1 l1 o D.l1z q) hx λg2 t2 e2=>wpAny_pure ?_)
 have k2:∀c o,c≠z->c≠i1->s.heap.get? c=some o->g2.get? c=some o:=λc o hc hd e=>e2.extBut c o hd (k1 c o hc e)
 have p2:IsPair g2 TO a b:=k2 TO _ D.TOz D.TOi1 hTO
 refine wpAny_bind (wpAny_seqItems p2 rfl (wpAny_bind (wpAny_updateSeq_pair p2 λg3 p3 e3 => ?_)))
 replace p3:IsPair g3 TO x b:=p3;refine wpAny_bind (wpAny_letGo (wpAny_pure ?_));refine wpAny_bind (wpAny_bind (wpAny_onRaise ?_))
 show wpAny _ _ (Builtin.SmallTypes.nextOf (.ref i2) >>= _) _ _ _
 have k3:∀c o,c≠z->c≠i1->c≠TO->s.heap.get? c=some o->g3.get? c=some o:=λc o hc hd he e=>e3.extBut c o he (k2 c o hc hd e)
 refine wpAny_bind (zfh (s:={ s with heap:=g3 }) (h2.at λo q=>k3 i2 o D.i2z D.i12.symm D.TOi2.symm q) (hl2.at λo q=>k3 l2 o D.l2z D.l2i1 D.l2TO q) hy λg4 t4 e4=>wpAny_pure ?_)
 have p4:IsPair g4 TO x b:=e4.extBut _ _ D.TOi2 p3
 refine wpAny_bind (wpAny_seqItems p4 rfl (wpAny_bind (wpAny_updateSeq_pair p4 λg5 p5 e5 => ?_)))
 replace p5:IsPair g5 TO x y:=p5;refine wpAny_bind (wpAny_letGo (wpAny_pure (wpAny_pure ?_)));refine wpAny_bind (wpAny_seqItems p5 rfl (wpAny_bind (wpAny_newTuple ?_)))
 have sz:g5.objs.size=s.heap.objs.size:=by rw[e5.1,e4.1,e3.1,e2.1,e1.1]
 have z5:IsZip g5 z TI TO .ellipsis:=e5.extBut _ _ D.TOz.symm (e4.extBut _ _ D.i2z.symm (e3.extBut _ _ D.TOz.symm (e2.extBut _ _ D.i1z.symm z1)))
 have k5:∀c o,c≠z->c≠TO->c≠i1->c≠i2->s.heap.get? c=some o->g5.get? c=some o:=λc o c1 c2 c3 c4 e=>e5.extBut _ _ c2 (e4.extBut _ _ c4 (k3 c o c1 c3 c2 e))
 have t5:IterAt b1 g5 i1 l1 (k + 1):=t2.at λo q=>e5.extBut _ _ D.TOi1.symm (e4.extBut _ _ D.i12 (e3.extBut _ _ D.TOi1.symm q))
 have u5:IterAt b2 g5 i2 l2 (k + 1):=t4.at λo q=>e5.extBut _ _ D.TOi2.symm q
 have zlt:z < g5.objs.size:=Heap.lt_size z5
 show wpAny _ _ (Builtin.SmallTypes.ownedTupleHandOut (.ref z) (.ref g5.objs.size) >>= _) _ _ _;refine wpAny_bind ?_
 unfold Builtin.SmallTypes.ownedTupleHandOut
 have z6:IsZip (g5.push { cls := .type "tuple",data := .seq #[x,y] }) z TI TO .ellipsis:=Heap.get?_push_of_some _ z5
 refine wpAny_bind (wpAny_setField_rec z6 (by simp) λg7 z7 e7 => ?_)
 replace z7:IsZip g7 z TI TO (rawInt g5.objs.size):=z7;refine wpAny_setField_rec z7 (by simp) λg8 z8 e8 => ?_
 replace z8:IsZip g8 z TI TO (rawInt g5.objs.size):=z8
 have up:∀c o,c≠z->g5.get? c=some o->g8.get? c=some o:=λc o c1 e=>e8.extBut _ _ c1 (e7.extBut _ _ c1 (Heap.get?_push_of_some _ e))
 have p8:IsPair g8 g5.objs.size x y:=e8.extBut _ _ (Nat.ne_of_gt zlt) (e7.extBut _ _ (Nat.ne_of_gt zlt) (Heap.get?_push_size _ rfl))
 have s8:g8.objs.size=g5.objs.size + 1:=by rw[e8.1,e7.1,Heap.size_push]
 rw[sz]at z8 p8 s8
 refine wpAny_pure ⟨_,rfl,?_⟩
 show Q (.ref g5.objs.size) _
 rw[sz]
 exact hQ g8 ⟨z8,up _ _ D.TIz (k5 TI _ D.TIz D.TITO D.TIi1 D.TIi2 hTI),⟨_,_,up _ _ D.TOz p5⟩,t5.at λo q=>up _ o D.i1z q,u5.at λo q=>up _ o D.i2z q⟩ p8 s8 λc o c1 c2 c3 c4 e=>up c o c1 (k5 c o c1 c2 c3 c4 e)
theorem zpx{b1 b2:Bool}{z TI TO i1 i2 l1 l2:Addr}{k:Nat}{xs ys:Array Value}{Q:Fin->Shared->Prop}(hh:A.handled=none)(D:ZipApart z TI TO i1 i2 l1 l2)(S:ZSt b1 b2 z TI TO i1 i2 l1 l2 .none k s.heap)
  (hl1:SqAt b1 s.heap l1 xs) (hl2:SqAt b2 s.heap l2 ys) (hend:xs[k]? = none\/ys[k]? = none)
  (hE:∀h' e,(∀c o,c≠z->c≠TO->c≠i1->c≠i2->s.heap.get? c=some o->h'.get? c=some o)->(∃o,h'.get? e=some o/\o.cls = .type "StopIteration")->E (.ref e) { s with heap:=h' }) :
  wpAny (model prog w) A (Builtin.«zip.__next__» ⟨[.ref z],[]⟩) Q E s:=by
 obtain⟨hz,hTI,⟨a,b,hTO⟩,h1,h2⟩:=S
 show wpAny _ _ (field (.ref z) 2 >>= _) _ _ _;refine wpAny_bind (wpAny_field hz rfl (x := .bool false) rfl ?_)
 show wpAny _ _ (field (.ref z) 3 >>= _) _ _ _;refine wpAny_bind (wpAny_field hz rfl (x := .ref TI) rfl (wpAny_bind (wpAny_seqItems hTI rfl ?_)))
 show wpAny _ _ (Builtin.SmallTypes.ownedTupleIsFree (.ref z) >>= _) _ _ _;refine wpAny_bind ?_
 unfold Builtin.SmallTypes.ownedTupleIsFree;refine wpAny_bind (wpAny_field hz rfl (x := .none) rfl (wpAny_pure ?_));simp only[if_true]
 refine wpAny_bind (wpAny_rule (wpAny_bind (wpAny_field hz rfl (x := .ref TO) rfl ?_)))
 refine wpAny_bind (wpAny_setField_rec hz (by simp) λg1 z1 e1 => ?_)
 replace z1:IsZip g1 z TI TO .ellipsis:=z1;refine wpAny_bind ?_
 simp only[List.zipIdx_cons,List.zipIdx_nil,List.forIn_cons,List.forIn_nil];refine wpAny_bind (wpAny_bind (wpAny_onRaise ?_))
 show wpAny _ _ (Builtin.SmallTypes.nextOf (.ref i1) >>= _) _ _ _
 have k1:∀c o,c≠z->s.heap.get? c=some o->g1.get? c=some o:=λc o hc e=>e1.extBut c o hc e
 cases hx:xs[k]? with
 | none=>
  refine wpAny_bind (zjm (s:={ s with heap:=g1 }) hh (h1.at λo q=>k1 i1 o D.i1z q) (hl1.at λo q=>k1 l1 o D.l1z q) hx λg2 e e2 he => ?_)
  obtain⟨oe,hoe,hce⟩:=he
  have z2:IsZip g2 z TI TO .ellipsis:=e2 _ _ D.i1z.symm z1
  have ez:e≠z:=λq=>by subst q;rw[z2]at hoe;cases hoe;simp at hce
  exact wpAny_setField_rec z2 (by simp) λg3 _ e3=>hE g3 e (λc o c1 _ c3 _ q=>e3.extBut _ _ c1 (e2 _ _ c3 (k1 c o c1 q))) ⟨oe,e3.extBut _ _ ez hoe,hce⟩
 | some x=>
  have hy:ys[k]? = none:=by
   rcases hend with q | q
   ·rw[hx]at q;cases q
   ·exact q
  refine wpAny_bind (zfh (s:={ s with heap:=g1 }) (h1.at λo q=>k1 i1 o D.i1z q) (hl1.at λo q=>k1 l1 o D.l1z q) hx λg2 t2 e2=>wpAny_pure ?_)
  have k2:∀c o,c≠z->c≠i1->s.heap.get? c=some o->g2.get? c=some o:=λc o hc hd e=>e2.extBut c o hd (k1 c o hc e)
  have p2:IsPair g2 TO a b:=k2 TO _ D.TOz D.TOi1 hTO
  refine wpAny_bind (wpAny_seqItems p2 rfl (wpAny_bind (wpAny_updateSeq_pair p2 λg3 p3 e3 => ?_)))
  refine wpAny_bind (wpAny_letGo (wpAny_pure ?_));refine wpAny_bind (wpAny_bind (wpAny_onRaise ?_))
  show wpAny _ _ (Builtin.SmallTypes.nextOf (.ref i2) >>= _) _ _ _
  have k3:∀c o,c≠z->c≠i1->c≠TO->s.heap.get? c=some o->g3.get? c=some o:=λc o hc hd he e=>e3.extBut c o he (k2 c o hc hd e)
  refine wpAny_bind (zjm (s:={ s with heap:=g3 }) hh (h2.at λo q=>k3 i2 o D.i2z D.i12.symm D.TOi2.symm q) (hl2.at λo q=>k3 l2 o D.l2z D.l2i1 D.l2TO q) hy λg4 e e4 he => ?_)
  obtain⟨oe,hoe,hce⟩:=he
  have z4:IsZip g4 z TI TO .ellipsis:=e4 _ _ D.i2z.symm (e3.extBut _ _ D.TOz.symm (e2.extBut _ _ D.i1z.symm z1))
  have ez:e≠z:=λq=>by subst q;rw[z4]at hoe;cases hoe;simp at hce
  exact wpAny_setField_rec z4 (by simp) λg5 _ e5=>hE g5 e (λc o c1 c2 c3 c4 q=>e5.extBut _ _ c1 (e4 _ _ c4 (k3 c o c1 c3 c2 q))) ⟨oe,e5.extBut _ _ ez hoe,hce⟩
end
end L2
namespace L2
open PySem PySem.Spec PyProof.Rows
abbrev zq1(b1:Bool)(h:Heap)(l1:Addr):Heap:=h.push { cls := .type (kn b1),data := .fields #[.ref l1,.int 0 0] }
abbrev zq2(b1 b2:Bool)(h:Heap)(l1 l2:Addr):Heap:=(zq1 b1 h l1).push { cls := .type (kn b2),data := .fields #[.ref l2,.int 0 0] }
abbrev zq3(b1 b2:Bool)(h:Heap)(l1 l2:Addr):Heap:=(zq2 b1 b2 h l1 l2).push { cls := .type "tuple",data := .seq #[.ref h.objs.size,.ref (zq1 b1 h l1).objs.size] }
abbrev zq4(b1 b2:Bool)(h:Heap)(l1 l2:Addr):Heap:=(zq3 b1 b2 h l1 l2).push { cls := .type "tuple",data := .seq #[.none,.none] }
abbrev zq5(b1 b2:Bool)(h:Heap)(l1 l2:Addr):Heap:=(zq4 b1 b2 h l1 l2).push { cls := .type "zip",data := .fields #[.none,.bool false,.bool false,.ref (zq2 b1 b2 h l1 l2).objs.size,.ref (zq3 b1 b2 h l1 l2).objs.size] }
theorem zn4(b1 b2:Bool)(l1 l2:Addr)(xs ys:Array Value):Meets (Builtin.«zip.__new__» ⟨[.type "zip",.ref l1,.ref l2],[]⟩) (λ_ R s=>SqAt b1 s.heap l1 xs/\SqAt b2 s.heap l2 ys /\
   R (.ok (.ret (.ref (zq4 b1 b2 s.heap l1 l2).objs.size))) { s with heap:=zq5 b1 b2 s.heap l1 l2 }):=
 .of_wp λprog w A R s h=>by
  obtain⟨hp,g,d,tk,os⟩:=s;obtain⟨hl1,hl2,h⟩:=h
  have hsub:=sub_zip
  have q1:SqAt b1 (Shared.heap ⟨hp,g,d,tk,os⟩) l1 xs:=hl1
  have q2:SqAt b2 (Shared.heap ⟨hp.push { cls := .type (kn b1),data := .fields #[.ref l1,.int 0 0] },g,d,tk,os⟩) l2 ys:=SqAt.at hl2 λo e=>Heap.get?_push_of_some _ e
  wp_walk using zky q1,zky q2
  exact⟨_,rfl,h⟩
theorem zm4{prog:Program}{w:World}{A:Around}{E:Value->Shared->Prop}{s:Shared}{b1 b2:Bool}{l1 l2:Addr}{xs ys:Array Value}{Q:Value->Shared->Prop}(hl1:SqAt b1 s.heap l1 xs)(hl2:SqAt b2 s.heap l2 ys)
  (h:∀h',ZSt b1 b2 (s.heap.objs.size + 4) (s.heap.objs.size + 2) (s.heap.objs.size + 3) s.heap.objs.size (s.heap.objs.size + 1) l1 l2 .none 0 h'->(∀c o,s.heap.get? c=some o->h'.get? c=some o)->h'.objs.size=s.heap.objs.size + 5 ->
   Q (.ref (s.heap.objs.size + 4)) { s with heap:=h' }):wpAny (model prog w) A (call (.type "zip") [.ref l1,.ref l2]) Q E s:=by
 refine callType_new F.called_zip (by decide) (F.typeCall_zip_2 _ _) (F.newCall_zip_2 _ _) (λobj=>F.args_object_init_3 obj _ _) F.entry_zip_new (zn4 b1 b2 l1 l2 xs ys) ⟨hl1,hl2,?_⟩
 have z1:(zq1 b1 s.heap l1).objs.size=s.heap.objs.size + 1:=Heap.size_push ..
 have z2:(zq2 b1 b2 s.heap l1 l2).objs.size=s.heap.objs.size + 2:=by rw[Heap.size_push,z1]
 have z3:(zq3 b1 b2 s.heap l1 l2).objs.size=s.heap.objs.size + 3:=by rw[Heap.size_push,z2]
 have z4:(zq4 b1 b2 s.heap l1 l2).objs.size=s.heap.objs.size + 4:=by rw[Heap.size_push,z3]
 have z5:(zq5 b1 b2 s.heap l1 l2).objs.size=s.heap.objs.size + 5:=by rw[Heap.size_push,z4]
 have up1:∀{h:Heap} {o:Obj} {c:Addr} {u:Obj},h.get? c=some u->(h.push o).get? c=some u:=λe=>Heap.get?_push_of_some _ e
 have g5:(zq5 b1 b2 s.heap l1 l2).get? (zq4 b1 b2 s.heap l1 l2).objs.size=some _:=Heap.get?_push_size _ rfl
 have g4:(zq5 b1 b2 s.heap l1 l2).get? (zq3 b1 b2 s.heap l1 l2).objs.size=some _:=up1 (Heap.get?_push_size _ rfl)
 have g3:(zq5 b1 b2 s.heap l1 l2).get? (zq2 b1 b2 s.heap l1 l2).objs.size=some _:=up1 (up1 (Heap.get?_push_size _ rfl))
 have g2:(zq5 b1 b2 s.heap l1 l2).get? (zq1 b1 s.heap l1).objs.size=some _:=up1 (up1 (up1 (Heap.get?_push_size _ rfl)))
 have g1:(zq5 b1 b2 s.heap l1 l2).get? s.heap.objs.size=some _:=up1 (up1 (up1 (up1 (Heap.get?_push_size _ rfl))))
 show _/\_
 rw[z2,z3,z4]at g5
 rw[z1,z2]at g3
 rw[z3]at g4
 rw[z1]at g2
 rw[z4]
 refine⟨⟨_,g5,rfl⟩,h _ ⟨g5,g3,⟨_,_,g4⟩,?_,?_⟩ (λc o x=>up1 (up1 (up1 (up1 (up1 x))))) z5⟩
 ·cases b1 <;> exact⟨_,g1,rfl,rfl⟩
 ·cases b2 <;> exact⟨_,g2,rfl,rfl⟩
theorem zfi{prog:Program}{w:World}{A:Around}{E:Value->Shared->Prop}{s:Shared}{b1 b2:Bool}{z TI TO i1 i2 l1 l2:Addr}{k:Nat}{xs ys:Array Value}{x y:Value}{Q:Option Value->Shared->Prop}(D:ZipApart z TI TO i1 i2 l1 l2)
  (S:ZSt b1 b2 z TI TO i1 i2 l1 l2 .none k s.heap) (hl1:SqAt b1 s.heap l1 xs) (hl2:SqAt b2 s.heap l2 ys) (hx:xs[k]? = some x) (hy:ys[k]? = some y)
  (hQ:∀h',ZSt b1 b2 z TI TO i1 i2 l1 l2 (rawInt s.heap.objs.size) (k + 1) h'->IsPair h' s.heap.objs.size x y->h'.objs.size=s.heap.objs.size + 1 ->
   (∀c o,c≠z->c≠TO->c≠i1->c≠i2->s.heap.get? c=some o->h'.get? c=some o)->Q (some (.ref s.heap.objs.size)) { s with heap:=h' }):wpAny (model prog w) A (pyNext (.ref z)) Q E s:=by
 have hT:s.TypeIs (.ref z) "zip":=⟨_,S.zip,rfl⟩;unfold pyNext
 refine wpAny_bind (wpAny_attempt (wpAny_callSpecial?_slot (name:=Str.ofString "__next__") hT F.slot_zip_next (wpAny_call_entry F.slot_zip_next hT F.entry_zip_next ?_ (F.args_zip_next_1 _))))
 exact zmm D S hl1 hl2 hx hy λh' a1 a2 a3 a4=>wpAny_pure (hQ h' a1 a2 a3 a4)
theorem zfw{prog:Program}{w:World}{A:Around}{E:Value->Shared->Prop}{s:Shared}{b1 b2:Bool}{z TI TO i1 i2 l1 l2:Addr}{k:Nat}{xs ys:Array Value}{Q:Option Value->Shared->Prop}(hh:A.handled=none)(D:ZipApart z TI TO i1 i2 l1 l2)
  (S:ZSt b1 b2 z TI TO i1 i2 l1 l2 .none k s.heap) (hl1:SqAt b1 s.heap l1 xs) (hl2:SqAt b2 s.heap l2 ys) (hend:xs[k]? = none\/ys[k]? = none)
  (hQ:∀h',(∀c o,c≠z->c≠TO->c≠i1->c≠i2->s.heap.get? c=some o->h'.get? c=some o)->Q none { s with heap:=h' }):wpAny (model prog w) A (pyNext (.ref z)) Q E s:=by
 have hT:s.TypeIs (.ref z) "zip":=⟨_,S.zip,rfl⟩;unfold pyNext
 refine wpAny_bind (wpAny_attempt (wpAny_callSpecial?_slot (name:=Str.ofString "__next__") hT F.slot_zip_next (wpAny_call_entry F.slot_zip_next hT F.entry_zip_next ?_ (F.args_zip_next_1 _))))
 refine zpx hh D S hl1 hl2 hend λh' e hk ⟨o,ho,hc⟩ => ?_
 exact wpAny_bind (wpAny_isInstance (T:="StopIteration") (b:=true) ⟨o,ho,hc⟩ isSubtype_stop (wpAny_pure (hQ _ hk)))
end L2
namespace L2
open PySem PySem.Spec PyProof.Rows
section
variable{prog:Program}{w:World}{A:Around}{R:Result->Shared->Prop}{s:Shared}
abbrev E00:Value->Shared->Prop:=λ_ _=>False
abbrev ifsOf(ifs:List Expr)(env:Env):Sem Bool:=
 forIn ifs true λc r=>if r=true then do
   let ok <- isTrue c env (eval c env)
   pure (ForInStep.yield ok)
  else pure (ForInStep.yield r)
theorem zke{elt tg iter:Expr}{ifs:List Expr}{scope:Scope}{pos:Pos}{it acc:Value}{env:Env}(J:Nat->Shared->Prop)
  (turn:∀n s,J n s->wpAny (model prog w) A (pyNext it) (λr s1=>match r with
   | none=>R (.ok .next) s1
   | some v=>wpAny (model prog w) A (letOwnedTupleGo tg it v) (λ_ s2=>wpAny (model prog w) A (assign tg env v) (λ_ s3=>
     wpAny (model prog w) A (ifsOf ifs env) (λok s4=>
      if ok=true then
       wpAny (model prog w) A (eval elt env) (λx s5=>wpAny (model prog w) A (call (.builtin "list.append") [acc,x]) (λ_ s6=>∃m,m < n/\J m s6) E00 s5) E00 s4
      else ∃m,m < n/\J m s4) E00 s3) E00 s2) E00 s1) E00 s)
  (n:Nat) (h:J n s):codeAny (model prog w) A (.compLoop (.ListComp elt [⟨tg,iter,ifs,0⟩] scope pos) 0 it acc env) R s:=by
 have fl:∀{α : Type} {t:Sem α} {Q : α->Shared->Prop} {E:Value->Shared->Prop} {s:Shared},wpAny (model prog w) A t Q E00 s->wpAny (model prog w) A t Q E s:=λh=>wpAny_mono h (λ_ _ q=>q) λ_ _ z=>z.elim
 refine codeAny_loop rfl J (λn s hJ => ?_) n h
 show wpAny _ A ((compTurn (.ListComp elt [⟨tg,iter,ifs,0⟩] scope pos) 0 it acc env).onRaise _) _ _ s
 refine wpAny_noted ?_
 rw[compTurn_list]
 refine wpAny_bind (wpAny_standAt (wpAny_bind (thn (fl (turn n s hJ)) λr s1 h1 => ?_)))
 cases r with
 | none=>exact wpAny_pure h1
 | some v=>
  refine wpAny_bind (thn (fl h1) λ_ s2 h2 => ?_)
  refine wpAny_bind (thn (fl h2) λ_ s3 h3 => ?_)
  refine wpAny_bind (thn (fl h3) λok s4 h4 => ?_)
  cases ok with
  | false=>exact wpAny_pure ⟨rfl,h4⟩
  | true=>
   refine wpAny_bind (wpAny_bind (thn (fl h4) λx s5 h5 => ?_))
   exact wpAny_bind (thn (fl h5) λ_ s6 h6=>wpAny_pure (wpAny_pure ⟨rfl,h6⟩))
end
def blk(X:Cx)(N:List Str)(scope:Scope)(cl:List (Str×Addr))(C:Addr)(s:Shared)(H:Hp)(fp:List Addr):Cx:=
 { X with N:=N,s₀:=s,H₀:=H,env:=compEnvC scope cl C X.env,outer:=X.stack,ex:=fp,fn:=λ_=>false,pn:=[],xe:=λ_ _=>False }
structure Blk(X:Cx)(N:List Str)(scope:Scope)(cl:List (Str×Addr))(mp:List (Option Nat)):Prop where
 clos:closureFor scope X.env=pure cl
 cell:∀y∈scope.names,y.2≠.cell
 kind:scope.kind = .function
 nms:∀y∈scope.names,y.2 = .local->scope.names.lookup y.1=some .local
 nd:N.Nodup
 sub:∀x c,cl.lookup x=some c->X.env.cells.lookup x=some c
 has:∀x,((relabel scope X.env).names.lookup x=some .cell\/(relabel scope X.env).names.lookup x=some .free)->∃c,cl.lookup x=some c
 len:mp.length=N.length
 map:∀(i j:Nat) (x:Str),mp[i]? = some (some j)->N[i]? = some x->X.N[j]? = some x/\(X.env.scope.names.lookup x=some .cell\/X.env.scope.names.lookup x=some .free) /\
  ((relabel scope X.env).names.lookup x=some .cell\/(relabel scope X.env).names.lookup x=some .free)
def st0(mp:List (Option Nat))(σ : St):St:=mp.map λo=>match o with
 | some j=>(σ[j]?).getD none
 | none=>none
section
variable{X:Cx}{pins:List (Addr×Obj)}{σ : St}{H:Hp}{s:Shared}{N:List Str}{scope:Scope}{cl:List (Str×Addr)}{mp:List (Option Nat)}{fp:List Addr}
theorem zqj(B:Blk X N scope cl mp)(I:Inv X pins σ H s)(f:∀b∈fp,FpOk X pins H b)(lt:∀b∈fp,b < s.heap.objs.size){h1:Heap}{t':Nat}(hns:h1.Ns s.heap.objs.size (λ_=>none))
  (k:∀b o,s.heap.get? b=some o->h1.get? b=some o):Inv (blk X N scope cl s.heap.objs.size s H fp) [] (st0 mp σ) H { s with heap:=h1,toks:=t' }:=by
 have fin:∀b∈fp,b ∉ frs X.stack:=λb hb z=>by
  obtain⟨_,f1,f2,_⟩:=f b hb
  rcases List.mem_cons.mp (I.stkSub b z) with e | e
  ·exact f1 e
  ·exact f2 e
 have ok:(blk X N scope cl s.heap.objs.size s H fp).Ok:=by
  refine⟨I.ok.mod,B.kind,I.ok.glob,I.ok.blt,Nat.le_refl _,λx y c h1 h2=>I.ok.inj x y c (B.sub x c h1) (B.sub y c h2),λx hx=>B.has x hx,(λx c hf=>nomatch (show false=true from hf)),I.ok.hd,I.ok.frames,.inl rfl,λb hb => ?_,I.bs,Nat.le_trans I.ok.bsz I.sz,λb o e hb => ?_,fin,I.stack,I.stkFree⟩
  ·obtain⟨f0,f1,f2,f3,f4,f5⟩:=f b hb
   exact⟨Nat.ne_of_lt (lt b hb),λx c e=>f4 x c (B.sub x c e)⟩
  ·obtain⟨f0,f1,f2,f3,f4,f5⟩:=f b hb
   rcases f3 with z | z
   ·exact I.ok.noex b o e z
   ·exact absurd (Nat.lt_of_lt_of_le (Heap.lt_size e) (Nat.le_trans I.ok.bsz z)) (Nat.lt_irrefl _)
 refine⟨ok,rfl,I.bare,Un.kept k,⟨_,hns,λi x v e1 e2 e3 => ?_⟩,λx c e => ?_,I.hok.fresh (Nat.le_refl _),λx c e=>I.freeC x c (B.sub x c e),λp hp=>absurd (show p∈([]:List (Addr×Obj)) from hp) (by simp),I.hok.kept k,?_⟩
 ·have e2':∃j,mp[i]? = some (some j)/\σ[j]? = some (some v):=by
   unfold st0 at e2
   rw[List.getElem?_map]at e2
   cases q:mp[i]? with
   | none=>rw[q]at e2;cases e2
   | some o=>
    rw[q]at e2
    cases o with
    | none=>cases e2
    | some j=>
     refine⟨j,rfl,?_⟩
     have e2'':(σ[j]?).getD none=some v:=Option.some.inj e2
     cases r : σ[j]? with
     | none=>rw[r]at e2'';cases e2''
     | some z=>rw[r]at e2'';exact congrArg some e2''
  obtain⟨j,hj,hv⟩:=e2'
  obtain⟨hN,ho,hi⟩:=B.map i j x hj e1
  obtain⟨m,hm,hl⟩:=I.loc
  obtain⟨u,r,l⟩:=hl j x v hN hv (ho.elim (λz => .inr (.inl z)) λz => .inr (.inr z))
  refine⟨u,r,.inr ⟨hi,?_⟩⟩
  rcases l with⟨z,_⟩ | ⟨_,c,ec,z⟩
  ·have z':X.env.scope.names.lookup x=some .local:=z
   rcases ho with ho | ho
   ·rw[z']at ho;cases ho
   ·rw[z']at ho;cases ho
  ·obtain⟨c',ec'⟩:=B.has x hi
   have q:=B.sub x c' ec'
   rw[ec]at q;cases q
   obtain⟨o,eo,d⟩:=z
   exact⟨c,ec',o,k c o eo,d⟩
 ·obtain⟨v,o,eo,d⟩:=I.cell x c (B.sub x c e)
  exact⟨v,o,k c o eo,d⟩
 ·show (st0 mp σ).length=N.length
  unfold st0
  rw[List.length_map];exact B.len
theorem zlk{N':List Str}{C:Addr}{H':Hp}{σ':St}{s':Shared}{h':Heap}(I:Inv X pins σ H s)(f:∀b∈fp,FpOk X pins H b)(hC:s.heap.objs.size<=C)
  (J:Inv (blk X N' scope cl C s H fp) [] σ' H' s') (sb:Heap.SameBut C s'.heap h'):Inv X pins σ H' { s' with heap:=h' }:=by
 have ub:Un (frs X.stack) fp H H' s.heap s'.heap:=J.base
 have ne:∀b o,s.heap.get? b=some o->b≠C:=λb o e=>Nat.ne_of_lt (Nat.lt_of_lt_of_le (Heap.lt_size e) hC)
 have u:Un (frs X.stack) fp H H' s.heap h':=by
  refine⟨λb o e n hb hx=>(sb.2 b (ne b o e)).trans (ub.keep b o e n hb hx),λb o e n hb hx => ?_,ub.free,λb o e hx => ?_,ub.tups,ub.frzs,ub.tbls⟩
  ·obtain⟨sl,q⟩:=ub.slot b o e n hb hx
   exact⟨sl,(sb.2 b (ne b o e)).trans q⟩
  ·obtain⟨o',q⟩:=ub.there b o e hx
   exact⟨o',(sb.2 b (ne b o e)).trans q⟩
 have fC:H' C=none:=J.free
 have ok':HOk X.prog X.w H' h':=λb ob e=>by
  have jok:HOk X.prog X.w H' s'.heap:=J.hok
  refine(jok b ob e).stay (λc v hc q=>(sb.2 c ?_).trans q) (λ_ q=>q) λ_ _ q=>q
  rintro rfl
  rcases hc with rfl | hc
  ·rw[fC]at e;cases e
  ·rw[fC]at hc;cases hc
 refine I.call' (s':={ s' with heap:=h' }) (ch:=fp) ?_ u ok' J.bare λb hb => ?_
 ·exact J.os
 ·obtain⟨f0,f1,f2,f3,f4,f5⟩:=f b hb
  exact⟨f3,f1,f4,f5⟩
end
def PTs(X:Cx)(ifs:List Expr)(t:TT):Prop:=
 ∀(pins:List (Addr×Obj)) (s:Shared) (σ : St) (H:Hp) (Q:Bool->Hp->Prop),Inv X pins σ H s->t σ H Q->wpAny (model X.prog X.w) X.A (ifsOf ifs X.env) (TP X pins σ Q) X.xe s
def tYes:TT:=λ_ H Q=>Q true H
theorem zbv{X:Cx}:PTs X [] tYes:=λ_ _ _ H _ I h=>wpAny_pure ⟨H,I,h⟩
theorem zgn{X:Cx}{c:Expr}{t:TT}(h:PT X c t):PTs X [c] t:=λpins s σ H Q I hw=>wpAny_tests_one (h pins s σ H Q I hw)
@[irreducible] def tComp (mp:List (Option Nat)) (wi:TI) (g:TG) (tc:TT) (te:TE):TE:=λσ H Q=>wi σ H λJ H1=>∀D,H1 D=none->∃W:Nat->Nat->List V->St->Hp->Prop,
 (∃m,W 0 m [] (st0 mp σ) (upd H1 D (.lst [])))/\∀i m ys σ' H',W i m ys σ' H'->H' D=some (.lst ys) /\
  ((J.stop i H'/\Q (.ref D) H')\/(J.go i H'/\ys.length < sizeLine/\∀x H2,J.yld i H' x H2->g x σ' H2 λσ2 H3=>tc σ2 H3 λb H4=>
   if b=true then te σ2 H4 λv H5=>H5 D=some (.lst ys)/\∃m',m' < m/\W (i + 1) m' (ys ++ [v]) σ2 (upd H5 D (.lst (ys ++ [v])))
   else ∃m',m' < m/\W (i + 1) m' ys σ2 H4))
def CompW(J:It)(D:Addr)(g:TG)(tc:TT)(te:TE)(Qf:Hp->Prop)(W:Nat->Nat->List V->St->Hp->Prop):Prop:=∀i m ys σ' H',W i m ys σ' H'->H' D=some (.lst ys) /\
  ((J.stop i H'/\Qf H')\/(J.go i H'/\ys.length < sizeLine/\∀x H2,J.yld i H' x H2->g x σ' H2 λσ2 H3=>tc σ2 H3 λb H4=>
   if b=true then te σ2 H4 λv H5=>H5 D=some (.lst ys)/\∃m',m' < m/\W (i + 1) m' (ys ++ [v]) σ2 (upd H5 D (.lst (ys ++ [v])))
   else ∃m',m' < m/\W (i + 1) m' ys σ2 H4))
theorem zf6{X:Cx}{N:List Str}{scope:Scope}{cl:List (Str×Addr)}{mp:List (Option Nat)}{elt tg iter:Expr}{ifs:List Expr}{g:TG}{tc:TT}{te:TE}{pos:Pos}(B:Blk X N scope cl mp)(hc:X.calm=true)
  (hg:∀C s H fp,PG (blk X N scope cl C s H fp) tg g) (ht:∀C s H fp,PTs (blk X N scope cl C s H fp) ifs tc) (he:∀C s H fp,PE (blk X N scope cl C s H fp) elt te)
  {pins:List (Addr×Obj)} {σ : St} {HD:Hp} {s:Shared} {fp:List Addr} {it D:Addr} {tn:Nat->Heap->Prop} {J:It} {Qf:Hp->Prop} {W:Nat->Nat->List V->St->Hp->Prop} {m0:Nat} {E:Value->Shared->Prop} {RR:Addr->Result->Shared->Prop}
  (I:Inv X pins σ HD s) (f:∀b∈fp,FpOk X pins HD b) (T:Turn X.prog X.w X.K tg J fp it tn) (st:tn 0 s.heap) (w0:W 0 m0 [] (st0 mp σ) HD) (turn:CompW J D g tc te Qf W)
  (hRR:∀C H' σ' s',s.heap.objs.size<=C->Inv (blk X N scope cl C s HD fp) [] σ' H' s'->Qf H'->RR C (.ok .next) s') :
  wpAny (model X.prog X.w) X.A (newFunctionEnv scope X.env.globals cl [] X.env.qual none .none (some X.env)) (λcenv s4=>
   codeAny (model X.prog X.w) X.A (.compStart (.ListComp elt [⟨tg,iter,ifs,0⟩] scope pos) 0 (.ref it) (.ref D) { cenv with scope:=relabel scope X.env }) (RR cenv.locals) s4) E s:=by
 have lt:∀b∈fp,b < s.heap.objs.size:=λb hb=>let ⟨o,e,_⟩:=T.obj _ _ st b hb;Heap.lt_size e
 refine wpAny_newFunctionEnv B.cell (by intro y hy;simp at hy) (λh3 hns hsb => ?_) B.kind
 have k3:∀b o,s.heap.get? b=some o->h3.get? b=some o:=λb o e=>(hsb.2 b (Nat.ne_of_lt (Heap.lt_size e))).trans (Heap.get?_push_of_some _ e)
 have JB:=zqj (t':=s.toks + ([]:List (Str×Value)).length) B I f lt hns k3
 have st3:tn 0 h3:=T.keep _ _ _ st λb _ o e=>k3 b o e
 have fin:∀b∈fp,b ∉ frs X.stack:=λb hb z=>by
  obtain⟨_,f1,f2,_⟩:=f b hb
  rcases List.mem_cons.mp (I.stkSub b z) with e | e
  ·exact f1 e
  ·exact f2 e
 have stat:∀{H':Hp},(∀b∈fp,H' b=none)->∀b∈fp,FpOk (blk X N scope cl s.heap.objs.size s HD fp) [] H' b:=fun{H'} hn b hb=>by
  obtain⟨f0,f1,f2,f3,f4,f5⟩:=f b hb
  exact⟨hn b hb,Nat.ne_of_lt (lt b hb),fin b hb,.inl hb,λx c e=>f4 x c (B.sub x c e),λp hp=>absurd (show p∈([]:List (Addr×Obj)) from hp) (by simp)⟩
 have loop:codeAny (model X.prog X.w) X.A (.compLoop (.ListComp elt [⟨tg,iter,ifs,0⟩] scope pos) 0 (.ref it) (.ref D) (compEnvC scope cl s.heap.objs.size X.env)) (RR s.heap.objs.size) { s with heap:=h3,toks:=s.toks + ([]:List (Str×Value)).length }:=by
  refine zke (λn s'=>∃i ys σ' H',Inv (blk X N scope cl s.heap.objs.size s HD fp) [] σ' H' s'/\tn i s'.heap/\(∀b∈fp,H' b=none)/\W i n ys σ' H') ?_ m0 ⟨0,[],_,HD,JB,st3,λb hb=>(f b hb).1,w0⟩
  rintro n s5 ⟨i,ys,σ5,H5,I5,st5,fr5,w5⟩
  obtain⟨hD,tr⟩:=turn i n ys σ5 H5 w5
  rcases tr with⟨stop,qn⟩ | ⟨go,hz,step⟩
  ·refine thn (T.done (blk X N scope cl s.heap.objs.size s HD fp) rfl rfl rfl hc i [] s5 σ5 H5 E00 I5 (stat fr5) st5 stop) λr s6 ⟨hr,I6⟩ => ?_
   subst hr
   exact hRR _ H5 σ5 s6 (Nat.le_refl _) I6 qn
  ·refine thn (T.item (blk X N scope cl s.heap.objs.size s HD fp) rfl rfl rfl hc i [] s5 σ5 H5 E00 I5 (stat fr5) st5 go) λr s6 ⟨u,hr,h6⟩ => ?_
   subst hr
   refine thn h6 λ_ s7 ⟨x,H7,I7,r7,y7,st7,fr7⟩ => ?_
   have I7':=I7.pinned (stat fr7) (T.obj _ _ st7)
   have again:∀{ys':List V} {σ8:St} {H8:Hp} {s8:Shared} {m':Nat},Inv (blk X N scope cl s.heap.objs.size s HD fp) ([] ++ pinsAt fp s7.heap) σ8 H8 s8->m' < n->W (i + 1) m' ys' σ8 H8 ->
     ∃m,m < n/\∃i ys σ' H',Inv (blk X N scope cl s.heap.objs.size s HD fp) [] σ' H' s8/\tn i s8.heap/\(∀b∈fp,H' b=none)/\W i m ys σ' H':=fun{ys' σ8 H8 s8 m'} I8 hm w8=>by
    refine⟨m',hm,i + 1,ys',σ8,H8,I8.unpinned,T.keep _ _ _ st7 λb hb o e=>(I8.pin (b,o) (List.mem_append_right _ (List.mem_append_right _ (zda hb e)))).1,λb hb => ?_,w8⟩
    obtain⟨o,e,d⟩:=T.obj _ _ st7 b hb
    exact(I8.pin (b,o) (List.mem_append_right _ (List.mem_append_right _ (zda hb e)))).2.1
   refine thn (hg _ _ _ _ _ s7 σ5 H7 x u _ I7' r7 (step x H7 y7)) λ_ s8 ⟨σ8,H8,I8,q8⟩ => ?_
   refine thn (ht _ _ _ _ _ s8 σ8 H8 _ I8 q8) λok s9 ⟨H9,I9,q9⟩ => ?_
   cases ok with
   | false=>
    rw[if_neg (by decide)]at q9
    obtain⟨m',hm,w9⟩:=q9
    rw[if_neg (by decide)]
    exact again I9 hm w9
   | true=>
    rw[if_pos rfl]at q9
    rw[if_pos rfl]
    refine thn (he _ _ _ _ _ s9 σ8 H9 _ I9 q9) λxv s10 ⟨v,H10,I10,r10,hD10,m',hm,w'⟩ => ?_
    refine thn (zej _ s10 σ8 H10 (.ref D) [v] (.ref D) [xv] (λ_ H'=>H'=upd H10 D (.lst (ys ++ [v]))) I10 rfl (.cons r10 .nil) ⟨D,ys,v,rfl,rfl,hD10,hz,rfl⟩) λ_ s11 ⟨_,H11,I11,_,e11⟩ => ?_
    subst e11
    exact again I11 hm w'
 exact codeAny_compStart_list loop (T.self _ 0 _ _ _ st3 loop)
theorem zbu{X:Cx}{N:List Str}{scope:Scope}{cl:List (Str×Addr)}{mp:List (Option Nat)}{elt tg iter:Expr}{ifs:List Expr}{wi:TI}{g:TG}{tc:TT}{te:TE}{pos:Pos}(B:Blk X N scope cl mp)(hc:X.calm=true)
  (hi:PI X tg iter wi) (hg:∀C s H fp,PG (blk X N scope cl C s H fp) tg g) (ht:∀C s H fp,PTs (blk X N scope cl C s H fp) ifs tc) (he:∀C s H fp,PE (blk X N scope cl C s H fp) elt te)
  (hs:∀x,foldedSetIterable iter X.env x=pure x:=by intro _;rfl):PE X (.ListComp elt [⟨tg,iter,ifs,0⟩] scope pos) (tComp mp wi g tc te):=by
 intro pins s σ H Q I h
 unfold tComp at h
 rw[eval_ListComp]
 refine wpAny_comprehension_free (use:=none) (cl:=cl) rfl hs B.clos B.kind B.nms (thn (hi pins s σ H _ I h) λv s1 h1=>thn h1 λitv s2 h2 => ?_)
 obtain⟨it,fp,tn,J,H2,rfl,I2,T,st2,f2,q⟩:=h2
 have lt2:∀b∈fp,b < s2.heap.objs.size:=λb hb=>let ⟨o,e,_⟩:=T.obj _ _ st2 b hb;Heap.lt_size e
 obtain⟨W,⟨m0,w0⟩,turn⟩:=q _ I2.fresh
 have ID:=I2.lnew (ys:=[]) (its:=[]) (t':=s2.toks) .nil (Nat.zero_le _)
 have fD':∀b∈fp,FpOk X pins (upd H2 s2.heap.objs.size (.lst [])) b:=λb hb=>by
  obtain⟨f0,r⟩:=f2 b hb
  exact⟨by rw[zao (Nat.ne_of_lt (lt2 b hb))];exact f0,r⟩
 refine wpAny_newObj_type (zf6 B hc hg ht he ID fD' T (T.keep _ _ _ st2 λb _ o e=>Heap.get?_push_of_some _ e) w0 turn λC H' σ' s' hC J' qf => ?_)
 obtain⟨m,hm,_⟩:=J'.loc
 exact⟨m,hm,λh' sb=>⟨.ref _,H',zlk ID fD' hC J' sb,rfl,qf⟩⟩
end L2
namespace L2
open PySem PySem.Spec PyProof.Rows
def SqX(K:W.Frag)(b:Bool)(H:Hp)(a:Addr)(xs:List V):Prop:=match b with
 | true=>SqT K H a xs
 | false=>SqL K H a xs
section
variable{X:Cx}{pins:List (Addr×Obj)}{σ : St}{H:Hp}{s:Shared}{b:Bool}{a:Addr}{xs ys:List V}
theorem Inv.sq(I:Inv X pins σ H s)(h:SqX X.K b H a xs):∃its:List Value,Vals xs its/\SqAt b s.heap a its.toArray:=by
 cases b with
 | true=>obtain⟨its,rv,p,_⟩:=I.tuple h;exact⟨its,rv,show s.heap.IsTuple a its.toArray from p⟩
 | false=>obtain⟨its,rv,p,_⟩:=I.list h;exact⟨its,rv,p.isList⟩
theorem Inv.sq_inj(I:Inv X pins σ H s)(h:SqX X.K b H a xs)(h':SqX X.K b H a ys):xs=ys:=by
 cases b with
 | true=>exact I.tuple_inj h h'
 | false=>exact I.list_inj h h'
theorem Inv.turnedL{ch:List Addr}{h':Heap}{t':Nat}(I:Inv X pins σ H s)(hf:∀b∈ch,FpOk X pins H b)(k:∀b o,b ∉ ch->s.heap.get? b=some o->h'.get? b=some o):Inv X pins σ H { s with heap:=h',toks:=t' }:=by
 have nch:∀b u,H b=some u->b ∉ ch:=λb u e z=>by have q:=(hf b z).1;rw[q]at e;cases e
 refine I.step (g':=s.gens) (d':=s.drawn) (ch:=ch) (λb hb => ?_) (λb o _ _ hc e _=>k b o hc e) (λb o _ _ hc e _=>⟨o.slots,k b o hc e⟩) (λ_ _ _ _ n=>n)
  (λb o hc e=>⟨o,k b o hc e⟩) (λ_ _ e=>e) (λ_ _ _ e=>e) (λb ps e=>⟨#[],by rw[e];simp⟩) (λm hm => ?_) (λb u e => ?_) I.bare
 ·obtain⟨f0,f1,f2,f3,f4,f5⟩:=hf b hb
  exact⟨f3,f1,f4,f5⟩
 ·obtain⟨o,es,ep,ho,r⟩:=hm
  exact⟨o,es,ep,k _ o (λz=>(hf _ z).2.1 rfl) ho,r⟩
 ·refine(I.hok b u e).stay (λc v hc q=>k c v ?_ q) (λ_ q=>q) λ_ _ q=>q
  rcases hc with z | z
  ·rw[z];exact nch b u e
  ·exact nch c _ z
theorem Inv.drawn{ch:List Addr}{h':Heap}{t':Nat}{p:Addr}{o:HO}(I:Inv X pins σ H s)(hf:∀b∈ch,FpOk X pins H b)(k:∀b o,b ∉ ch->s.heap.get? b=some o->h'.get? b=some o)(hp:s.heap.objs.size<=p)
  (new:ObjOk X.prog X.w (upd H p o) h' p o):Inv X pins σ (upd H p o) { s with heap:=h',toks:=t' }:=by
 have nch:∀b u,H b=some u->b ∉ ch:=λb u e z=>by have q:=(hf b z).1;rw[q]at e;cases e
 have hn:H p=none:=I.hok.fresh hp
 have np:∀b u,s.heap.get? b=some u->b≠p:=λb u e=>Nat.ne_of_lt (Nat.lt_of_lt_of_le (Heap.lt_size e) hp)
 refine I.step (g':=s.gens) (d':=s.drawn) (ch:=ch) (λb hb => ?_) (λb o _ _ hc e _=>k b o hc e) (λb o _ _ hc e _=>⟨o.slots,k b o hc e⟩) (λb o _ e n=>by rw[zao (np b o e)];exact n)
  (λb o hc e=>⟨o,k b o hc e⟩) (λb xs e=>by rw[zao (zaq e hn)];exact e) (λb o u e=>by rw[zao (zaq e hn)];exact e) (λb ps e=>⟨#[],by rw[zao (zaq e hn),e];simp⟩) (λm hm => ?_) (λb u e => ?_) I.bare
 ·obtain⟨f0,f1,f2,f3,f4,f5⟩:=hf b hb
  exact⟨f3,f1,f4,f5⟩
 ·obtain⟨o,es,ep,ho,r⟩:=hm
  exact⟨o,es,ep,k _ o (λz=>(hf _ z).2.1 rfl) ho,r⟩
 ·by_cases hb:b=p
  ·subst hb;rw[zae]at e;cases e;exact new
  ·rw[zao hb]at e
   refine(I.hok b u e).stay (λc v hc q=>k c v ?_ q) (λc q=>by rw[zao (zaq q hn)];exact q) λc xs q=>by rw[zao (zaq q hn)];exact q
   rcases hc with z | z
   ·rw[z];exact nch b u e
   ·exact nch c _ z
end
def Itz(K:W.Frag)(b1 b2:Bool)(a1 a2:Addr):It:=
 ⟨λi H=>∃xs ys x y,SqX K b1 H a1 xs/\SqX K b2 H a2 ys/\xs[i]? = some x/\ys[i]? = some y,
  λi H v H'=>∃p x y,H p=none/\v = .ref p/\H'=upd H p (.tup [x,y])/\(∀xs,SqX K b1 H a1 xs->xs[i]? = some x)/\∀ys,SqX K b2 H a2 ys->ys[i]? = some y,
  λi H=>∃xs ys,SqX K b1 H a1 xs/\SqX K b2 H a2 ys/\(xs.length<=i\/ys.length<=i)⟩
theorem znd{P:Program}{w:World}{K:W.Frag}{es:List Expr}{ek:Nat}{pos:Pos}(b1 b2:Bool){z TI TO i1 i2 a1 a2:Addr}(D:ZipApart z TI TO i1 i2 a1 a2) :
  Turn P w K (.Tuple es ek pos) (Itz K b1 b2 a1 a2) [z,TI,TO,i1,i2] z (λi h=>ZSt b1 b2 z TI TO i1 i2 a1 a2 .none i h) where
 mem:=by simp
 obj:=λi h st b hb=>by
  simp only[List.mem_cons,List.not_mem_nil,or_false]at hb
  rcases hb with rfl | rfl | rfl | rfl | rfl
  ·exact⟨_,st.zip,λv q=>by cases q⟩
  ·exact⟨_,st.ti,λv q=>by cases q⟩
  ·obtain⟨a,b,e⟩:=st.to
   exact⟨_,e,λv q=>by cases q⟩
  ·exact st.it1.obj
  ·exact st.it2.obj
 keep:=λi h h' st k=>st.at k
 item:=by
  intro X hP hw hK hc i pins s σ H E I hf st hg
  subst hP hw hK
  obtain⟨xs,ys,x,y,h1,h2,hx,hy⟩:=hg
  obtain⟨us,ru,q1⟩:=I.sq h1
  obtain⟨ws,rw',q2⟩:=I.sq h2
  obtain⟨u,eu,rx⟩:=ru.get hx
  obtain⟨v,ev,ry⟩:=rw'.get hy
  refine zfi D st q1 q2 (x:=u) (y:=v) (by simpa using eu) (by simpa using ev) λh' S p8 s8 k => ?_
  refine⟨_,rfl,wpAny_letOwnedTupleGo_zip S.zip λh'' z' e' => ?_⟩
  have zlt:z < s.heap.objs.size:=Heap.lt_size st.zip
  have zp:s.heap.objs.size≠z:=Nat.ne_of_gt zlt
  have kk:∀b o,b ∉ [z,TO,i1,i2]->s.heap.get? b=some o->h''.get? b=some o:=λb o hb e=>by
   simp only[List.mem_cons,List.not_mem_nil,or_false,not_or]at hb
   exact e'.extBut _ _ hb.1 (k b o hb.1 hb.2.1 hb.2.2.1 hb.2.2.2 e)
  have pp:IsPair h'' s.heap.objs.size u v:=e'.extBut _ _ zp p8
  refine⟨.ref s.heap.objs.size,upd H s.heap.objs.size (.tup [x,y]),I.drawn (t':=s.toks) (ch:=[z,TO,i1,i2]) (λb hb=>hf b ?_) kk (Nat.le_refl _) ?_,rfl,⟨_,x,y,I.fresh,rfl,rfl,λxs' hq => ?_,λys' hq => ?_⟩,?_,λb hb => ?_⟩
  ·simp only[List.mem_cons,List.not_mem_nil,or_false]at hb ⊢
   rcases hb with rfl | rfl | rfl | rfl <;> simp
  ·exact⟨by show 2<=sizeLine;rw[sizeLine_eq];decide,[u,v],.cons rx (.cons ry .nil),⟨_,pp,rfl,_,rfl⟩⟩
  ·rw[I.sq_inj hq h1];exact hx
  ·rw[I.sq_inj hq h2];exact hy
  ·exact⟨z',e'.extBut _ _ D.TIz S.ti,(let ⟨a,b,e⟩:=S.to;⟨a,b,e'.extBut _ _ D.TOz e⟩),S.it1.at λo q=>e'.extBut _ _ D.i1z q,S.it2.at λo q=>e'.extBut _ _ D.i2z q⟩
  ·obtain⟨o,e,_⟩:∃o,s.heap.get? b=some o/\∀v,o.data≠.cell v:=by
    simp only[List.mem_cons,List.not_mem_nil,or_false]at hb
    rcases hb with rfl | rfl | rfl | rfl | rfl
    ·exact⟨_,st.zip,λv q=>by cases q⟩
    ·exact⟨_,st.ti,λv q=>by cases q⟩
    ·obtain⟨a,b,e⟩:=st.to
     exact⟨_,e,λv q=>by cases q⟩
    ·exact st.it1.obj
    ·exact st.it2.obj
   rw[zao (Nat.ne_of_lt (Heap.lt_size e))]
   exact(hf b hb).1
 done:=by
  intro X hP hw hK hc i pins s σ H E I hf st hg
  subst hP hw hK
  obtain⟨xs,ys,h1,h2,hl⟩:=hg
  obtain⟨us,ru,q1⟩:=I.sq h1
  obtain⟨ws,rw',q2⟩:=I.sq h2
  have l1:=ru.length
  have l2:=rw'.length
  refine zfw (I.ok.hd hc) D st q1 q2 ?_ λh' k=>⟨rfl,I.turnedL (t':=s.toks) (ch:=[z,TO,i1,i2]) (λb hb=>hf b ?_) λb o hb e => ?_⟩
  ·rcases hl with hl | hl
   ·exact .inl (by simp;omega)
   ·exact .inr (by simp;omega)
  ·simp only[List.mem_cons,List.not_mem_nil,or_false]at hb ⊢
   rcases hb with rfl | rfl | rfl | rfl <;> simp
  ·simp only[List.mem_cons,List.not_mem_nil,or_false,not_or]at hb
   exact k b o hb.1 hb.2.1 hb.2.2.1 hb.2.2.2 e
 self:=λ_ _ _ _ _ st h=>wpAny_pyIter_zip st.zip h
def iZip(K:W.Frag)(b1 b2:Bool)(ta:TA):TI:=λσ H R=>ta σ H λvs H1=>∃a1 a2,vs=[.ref a1,.ref a2]/\(∃xs,SqX K b1 H1 a1 xs)/\(∃ys,SqX K b2 H1 a2 ys)/\R (Itz K b1 b2 a1 a2) H1
theorem zr6{X:Cx}{es:List Expr}{ek:Nat}{tpos p pos:Pos}(b1 b2:Bool){e1 e2:Expr}{ta:TA}(hg:Gl X "zip")(hm:X.mg "zip" = none)(ha:PA X [e1,e2] ta)
  (he:starEach [e1,e2] X.env=(false,eval e1 X.env) :: starEach [e2] X.env:=by rfl) (hpl:(backTo pos (starEach [e2] X.env)).any (·.1)=false:=by rfl) :
  PI X (.Tuple es ek tpos) (.Call (.Name "zip" p) [e1,e2] [] pos) (iZip X.K b1 b2 ta):=by
 intro pins s σ H R I h
 refine wpAny_Call_Name_kw (zdh I hg hm boot_zip ?_ (by decide) (by decide))
 refine PyProof.Rows.callWith_type1 (thn (ha pos pins s σ H _ I h) λus s1 ⟨vs,H1,I1,r1,a1,a2,ev,⟨xs,h1⟩,⟨ys,h2⟩,q⟩ => ?_) he hpl
 subst ev
 obtain⟨u1,u2,rfl,e1',e2'⟩:=r1.two
 cases e1';cases e2'
 obtain⟨us,ru,q1⟩:=I1.sq h1
 obtain⟨ws,rw',q2⟩:=I1.sq h2
 have lt1:a1 < s1.heap.objs.size:=by cases b1 <;> (obtain⟨o,e,_⟩:=q1;exact Heap.lt_size e)
 have lt2:a2 < s1.heap.objs.size:=by cases b2 <;> (obtain⟨o,e,_⟩:=q2;exact Heap.lt_size e)
 refine zm4 q1 q2 λh' S k z5=>wpAny_pyIter_zip S.zip ?_
 have I2:Inv X pins σ H1 { s1 with heap:=h' }:=I1.kept (t':=s1.toks) k
 refine⟨s1.heap.objs.size + 4,[s1.heap.objs.size + 4,s1.heap.objs.size + 2,s1.heap.objs.size + 3,s1.heap.objs.size,s1.heap.objs.size + 1],_,_,H1,rfl,I2,znd b1 b2 (zipApart_new lt1 lt2),S,λb hb => ?_,q⟩
 have hb':s1.heap.objs.size<=b:=by
  simp only[List.mem_cons,List.not_mem_nil,or_false]at hb
  rcases hb with rfl | rfl | rfl | rfl | rfl
  ·exact Nat.le_add_right _ 4
  ·exact Nat.le_add_right _ 2
  ·exact Nat.le_add_right _ 3
  ·exact Nat.le_refl _
  ·exact Nat.le_add_right _ 1
 exact I1.fpOk hb' (I1.hok.fresh hb')
end L2
namespace L2
open PySem PySem.Spec PyProof.Rows
theorem Same.upd{H:Hp}{p:Addr}{o:HO}(h:H p=none):Same H (upd H p o):=λb u e=>by rw[zao (zaq e h)];exact e
theorem Same.updR{H H':Hp}{p:Addr}{o:HO}(e:Same H H')(h:H p=none):Same H (L2.upd H' p o):=λb u q=>by rw[zao (zaq q h)];exact e b u q
theorem Same.seqT{K:W.Frag}{H H':Hp}{a:Addr}{xs:List V}(e:Same H H')(h:SqT K H a xs):SqT K H' a xs:=by
 rcases h with(h | ⟨o,h⟩) | h
 ·exact .inl (.inl (e _ _ h))
 ·exact .inl (.inr ⟨o,e _ _ h⟩)
 ·exact .inr h
theorem Same.sqX{K:W.Frag}{b:Bool}{H H':Hp}{a:Addr}{xs:List V}(e:Same H H')(h:SqX K b H a xs):SqX K b H' a xs:=by
 cases b with
 | true=>exact e.seqT h
 | false=>exact e.seq h
structure Walk(J:It)(H1:Hp)(n:Nat)(P:Nat->V->Hp->Prop):Prop where
 go:∀i H',Same H1 H'->i < n->J.go i H'
 stop:∀H',Same H1 H'->J.stop n H'
 yld:∀i H' x H2,Same H1 H'->i < n->J.yld i H' x H2->Same H' H2/\P i x H2
theorem zb6{K:W.Frag}{H1:Hp}{a:Addr}{xs:List V}(h:SqL K H1 a xs):Walk (Itl K a) H1 xs.length (λi x _=>xs[i]? = some x):=
 ⟨λi H' e hi=>⟨xs,xs[i],e.seq h,by simp[hi]⟩,λH' e=>⟨xs,e.seq h,Nat.le_refl _⟩,λi H' x H2 e hi y=>by
  obtain⟨rfl,q⟩:=y
  exact⟨Same.refl _,q xs (e.seq h)⟩⟩
theorem zni{K:W.Frag}{H1:Hp}{a:Addr}{xs:List V}(h:SqT K H1 a xs):Walk (Itt K a) H1 xs.length (λi x _=>xs[i]? = some x):=
 ⟨λi H' e hi=>⟨xs,xs[i],e.seqT h,by simp[hi]⟩,λH' e=>⟨xs,e.seqT h,Nat.le_refl _⟩,λi H' x H2 e hi y=>by
  obtain⟨rfl,q⟩:=y
  exact⟨Same.refl _,q xs (e.seqT h)⟩⟩
theorem zka{H1:Hp}(lo:Int)(n:Nat):Walk (Itr lo n) H1 n (λi x _=>x = .int (lo + i)):=
 ⟨λi H' e hi=>hi,λH' e=>Nat.le_refl _,λi H' x H2 e hi y=>by
  obtain⟨rfl,q⟩:=y
  exact⟨Same.refl _,q⟩⟩
theorem zmk{K:W.Frag}{b1 b2:Bool}{H1:Hp}{a1 a2:Addr}{xs ys:List V}(h1:SqX K b1 H1 a1 xs)(h2:SqX K b2 H1 a2 ys) :
  Walk (Itz K b1 b2 a1 a2) H1 (min xs.length ys.length) (λi v H=>∃p x y,v = .ref p/\H p=some (.tup [x,y])/\xs[i]? = some x/\ys[i]? = some y):=by
 refine⟨λi H' e hi => ?_,λH' e=>⟨xs,ys,e.sqX h1,e.sqX h2,?_⟩,λi H' x H2 e hi q => ?_⟩
 ·have i1:i < xs.length:=by omega
  have i2:i < ys.length:=by omega
  exact⟨xs,ys,xs[i],ys[i],e.sqX h1,e.sqX h2,by simp[i1],by simp[i2]⟩
 ·rcases Nat.le_total xs.length ys.length with q | q
  ·exact .inl (by omega)
  ·exact .inr (by omega)
 ·obtain⟨p,u,v,hp,rfl,rfl,q1,q2⟩:=q
  exact⟨Same.upd hp,p,u,v,rfl,zae,q1 xs (e.sqX h1),q2 ys (e.sqX h2)⟩
theorem ziq{J:It}{H1:Hp}{n:Nat}{P:Nat->V->Hp->Prop}{g:TG}{tc:TT}{te:TE}{Q:VK}{σ0:St}{D:Addr}(S:Walk J H1 n P)(hD:H1 D=none)(hn:n<=sizeLine)(Sv:St->Prop)(p:Nat->Bool)(F:Nat->V->Hp->Prop)
  (monoS:∀i v H H',Same H H'->F i v H->F i v H') (monoU:∀i v H a ys ys',H a=some (.lst ys)->F i v H->F i v (upd H a (.lst ys'))) (h0:Sv σ0)
  (step:∀i x σ' H2,i < n->Sv σ'->Same H1 H2->P i x H2->∀(Ny:V->St->Hp->Prop) (Nn:St->Hp->Prop),(∀v σ2 H5,Sv σ2->Same H2 H5->F i v H5->p i=true->Ny v σ2 H5)->(∀σ2 H4,Sv σ2->Same H2 H4->p i=false->Nn σ2 H4) ->
   g x σ' H2 λσ2 H3=>tc σ2 H3 λb H4=>if b=true then te σ2 H4 λv H5=>Ny v σ2 H5 else Nn σ2 H4)
  (hQ:∀H' ys,Same H1 H'->H' D=some (.lst ys)->Paired (λi v=>F i v H') ((List.range n).filter p) ys->Q (.ref D) H') :
  ∃W:Nat->Nat->List V->St->Hp->Prop,(∃m,W 0 m [] σ0 (upd H1 D (.lst [])))/\∀i m ys σ' H',W i m ys σ' H'->H' D=some (.lst ys) /\
  ((J.stop i H'/\Q (.ref D) H')\/(J.go i H'/\ys.length < sizeLine/\∀x H2,J.yld i H' x H2->g x σ' H2 λσ2 H3=>tc σ2 H3 λb H4=>
   if b=true then te σ2 H4 λv H5=>H5 D=some (.lst ys)/\∃m',m' < m/\W (i + 1) m' (ys ++ [v]) σ2 (upd H5 D (.lst (ys ++ [v])))
   else ∃m',m' < m/\W (i + 1) m' ys σ2 H4)):=by
 refine⟨λi m ys σ' H'=>m=n - i/\i<=n/\Sv σ'/\Same H1 H'/\H' D=some (.lst ys)/\Paired (λj v=>F j v H') ((List.range i).filter p) ys,⟨n,rfl,Nat.zero_le _,h0,Same.upd hD,zae,.nil⟩,?_⟩
 rintro i m ys σ' H' ⟨rfl,hi,hs,hS,hL,hF⟩
 refine⟨hL,?_⟩
 have rs:(List.range (i + 1)).filter p=(List.range i).filter p ++ (if p i=true then [i] else []):=by
  rw[List.range_succ,List.filter_append]
  cases q:p i <;> simp[q]
 by_cases hlt:i < n
 ·refine .inr ⟨S.go i H' hS hlt,?_,λx H2 y => ?_⟩
  ·have l1:=hF.length
   have l2:((List.range i).filter p).length<=(List.range i).length:=List.length_filter_le _ _
   rw[List.length_range]at l2
   omega
  ·obtain⟨e2,hP⟩:=S.yld i H' x H2 hS hlt y
   refine step i x σ' H2 hlt hs (hS.trans e2) hP _ _ (λv σ2 H5 s2 e5 f5 hp => ?_) λσ2 H4 s2 e4 hp => ?_
   ·have l5:H5 D=some (.lst ys):=e5 _ _ (e2 _ _ hL)
    refine⟨l5,n - (i + 1),by omega,rfl,hlt,s2,((hS.trans e2).trans e5).updR hD,zae,?_⟩
    rw[rs,if_pos hp]
    refine Paired.snoc (Paired.imp' (λj w q => ?_) hF) (monoU i v H5 D ys _ l5 f5)
    exact monoU j w H5 D ys _ l5 (monoS j w H' H5 (e2.trans e5) q)
   ·refine⟨n - (i + 1),by omega,rfl,hlt,s2,(hS.trans e2).trans e4,e4 _ _ (e2 _ _ hL),?_⟩
    rw[rs,if_neg (by rw[hp];decide),List.append_nil]
    exact Paired.imp' (λj w q=>monoS j w H' H4 (e2.trans e4) q) hF
 ·have e:i=n:=by omega
  subst e
  exact .inl ⟨S.stop H' hS,hQ H' ys hS hL hF⟩
theorem Paired.eq_map{β : Type}{f:Nat->β}:∀{l:List Nat} {ys:List β},Paired (λi v=>v=f i) l ys->ys=l.map f
 | _,_,.nil=>rfl
 | _,_,.cons r t=>by rw[List.map_cons,r,Paired.eq_map t]
theorem zfl{J:It}{H1:Hp}{n:Nat}{P:Nat->V->Hp->Prop}{g:TG}{tc:TT}{te:TE}{Q:VK}{σ0:St}{D:Addr}(S:Walk J H1 n P)(hD:H1 D=none)(hn:n<=sizeLine)(Sv:St->Prop)(p:Nat->Bool)(f:Nat->V)(h0:Sv σ0)
  (step:∀i x σ' H2,i < n->Sv σ'->Same H1 H2->P i x H2->∀(Ny:V->St->Hp->Prop) (Nn:St->Hp->Prop),(∀σ2 H5,Sv σ2->Same H2 H5->p i=true->Ny (f i) σ2 H5)->(∀σ2 H4,Sv σ2->Same H2 H4->p i=false->Nn σ2 H4) ->
   g x σ' H2 λσ2 H3=>tc σ2 H3 λb H4=>if b=true then te σ2 H4 λv H5=>Ny v σ2 H5 else Nn σ2 H4)
  (hQ:∀H',Same H1 H'->H' D=some (.lst (((List.range n).filter p).map f))->Q (.ref D) H') :
  ∃W:Nat->Nat->List V->St->Hp->Prop,(∃m,W 0 m [] σ0 (upd H1 D (.lst [])))/\∀i m ys σ' H',W i m ys σ' H'->H' D=some (.lst ys) /\
  ((J.stop i H'/\Q (.ref D) H')\/(J.go i H'/\ys.length < sizeLine/\∀x H2,J.yld i H' x H2->g x σ' H2 λσ2 H3=>tc σ2 H3 λb H4=>
   if b=true then te σ2 H4 λv H5=>H5 D=some (.lst ys)/\∃m',m' < m/\W (i + 1) m' (ys ++ [v]) σ2 (upd H5 D (.lst (ys ++ [v])))
   else ∃m',m' < m/\W (i + 1) m' ys σ2 H4)):=
 ziq S hD hn Sv p (λi v _=>v=f i) (λ_ _ _ _ _ q=>q) (λ_ _ _ _ _ _ _ q=>q) h0
  (λi x σ' H2 hi hs e hP Ny Nn hy hn'=>step i x σ' H2 hi hs e hP Ny Nn (λσ2 H5 s2 e5 hp=>hy _ σ2 H5 s2 e5 rfl hp) hn')
  λH' ys e hL hF=>hQ H' e (by rw[<- Paired.eq_map hF];exact hL)
end L2
namespace L2
open PySem PySem.Spec PyProof.Rows
theorem zez{env:Env}:∀{names:List (Str×NameKind)} {x:Str},names.lookup x=some .free ->
  (names.map fun(n,k)=>if (k == NameKind.free && env.scope.kind == .function && env.kindOf n == some .cell) then(n,NameKind.cell) else(n,k)).lookup x=some .cell \/
  (names.map fun(n,k)=>if (k == NameKind.free && env.scope.kind == .function && env.kindOf n == some .cell) then(n,NameKind.cell) else(n,k)).lookup x=some .free
 | [],_,h=>by simp at h
 | (n,k) :: r,x,h=>by
  have ih := @zez env r x
  rw[List.map_cons]
  cases hx:x == n with
  | true=>
   simp only[List.lookup_cons,hx]at h
   cases h
   by_cases hc:(NameKind.free == NameKind.free && env.scope.kind == .function && env.kindOf n == some .cell)=true
   ·dsimp only;rw[if_pos hc];simp only[List.lookup_cons,hx];exact .inl trivial
   ·dsimp only;rw[if_neg hc];simp only[List.lookup_cons,hx];exact .inr trivial
  | false=>
   simp only[List.lookup_cons,hx]at h
   by_cases hc:(k == NameKind.free && env.scope.kind == .function && env.kindOf n == some .cell)=true
   ·dsimp only;rw[if_pos hc];simp only[List.lookup_cons,hx];exact ih h
   ·dsimp only;rw[if_neg hc];simp only[List.lookup_cons,hx];exact ih h
theorem zey{env:Env}{names:List (Str×NameKind)}{x:Str}{k:NameKind}(hk:k = .cell\/k = .free)(nc:∀y∈names,y.2≠.cell)
  (h:(names.map fun(n,k)=>if (k == NameKind.free && env.scope.kind == .function && env.kindOf n == some .cell) then(n,NameKind.cell) else(n,k)).lookup x=some k):∃y∈names,y.1=x/\y.2 = .free:=by
 have m:=PySem.mem_of_lookup h
 obtain⟨⟨n,k0⟩,hm,e⟩:=List.mem_map.mp m
 dsimp only at e
 by_cases hc:(k0 == NameKind.free && env.scope.kind == .function && env.kindOf n == some .cell)=true
 ·rw[if_pos hc]at e
  simp only[Bool.and_eq_true,beq_iff_eq]at hc
  cases e
  exact⟨_,hm,rfl,hc.1.1⟩
 ·rw[if_neg hc]at e
  cases e
  refine⟨_,hm,rfl,?_⟩
  rcases hk with z | z
  ·exact absurd z (nc _ hm)
  ·exact z
theorem Blk.of{X:Cx}{N:List Str}{scope:Scope}{cl:List (Str×Addr)}{mp:List (Option Nat)}(clos:closureFor scope X.env=pure cl)(cell:∀y∈scope.names,y.2≠.cell)(kind:scope.kind = .function)
  (nms:∀y∈scope.names,y.2 = .local->scope.names.lookup y.1=some .local) (nd:N.Nodup) (sub:∀x c,cl.lookup x=some c->X.env.cells.lookup x=some c) (fr:∀y∈scope.names,y.2 = .free->∃c,cl.lookup y.1=some c) (len:mp.length=N.length)
  (map:∀(i j:Nat) (x:Str),mp[i]? = some (some j)->N[i]? = some x->X.N[j]? = some x/\(X.env.scope.names.lookup x=some .cell\/X.env.scope.names.lookup x=some .free)/\scope.names.lookup x=some .free):Blk X N scope cl mp:=by
 refine⟨clos,cell,kind,nms,nd,sub,λx hx => ?_,len,λi j x h1 h2 => ?_⟩
 ·have:∃y∈scope.names,y.1=x/\y.2 = .free:=hx.elim (λz=>zey (.inl rfl) cell z) λz=>zey (.inr rfl) cell z
  obtain⟨y,hy,rfl,hf⟩:=this
  exact fr y hy hf
 ·obtain⟨q1,q2,q3⟩:=map i j x h1 h2
  exact⟨q1,q2,zez q3⟩
theorem Blk.plain{X:Cx}{N:List Str}{scope:Scope}(fr:∀y∈scope.names,y.2≠.free)(cell:∀y∈scope.names,y.2≠.cell)(kind:scope.kind = .function)(nms:∀y∈scope.names,y.2 = .local->scope.names.lookup y.1=some .local)(nd:N.Nodup) :
  Blk X N scope [] (N.map λ_=>none):=
 Blk.of (closureFor_none fr) cell kind nms nd (λ_ _ h=>nomatch h) (λy hy h=>absurd h (fr y hy)) (List.length_map _) λi j x h=>by
  rw[List.getElem?_map]at h
  cases q:N[i]? with
  | none=>rw[q]at h;cases h
  | some z=>rw[q]at h;cases h
def zipV(p:Int->Int->Bool)(φ : Int->Int->V)(xs ys:List Int):List V:=((List.range (min xs.length ys.length)).filter λi=>p (xs.getD i 0) (ys.getD i 0)).map λi=>φ (xs.getD i 0) (ys.getD i 0)
theorem zcv{xs:List Int}{i:Nat}{v:V}(h:(xs.map V.int)[i]? = some v):v = .int (xs.getD i 0):=by
 rw[List.getElem?_map]at h
 cases q:xs[i]? with
 | none=>rw[q]at h;cases h
 | some z=>
  rw[q]at h
  have e:xs.getD i 0=z:=by rw[List.getD_eq_getElem?_getD,q];rfl
  rw[e];exact(Option.some.inj h).symm
theorem zqe{σ : St}(h : σ.length=2)(x y:V):(σ.set 0 (some x)).set 1 (some y)=[some x,some y]:=by
 match σ,h with
 | [_,_],_=>rfl
theorem zef{K:W.Frag}{b1 b2:Bool}{a b:Addr}{xs ys:List Int}{mp:List (Option Nat)}{ta:TA}{tc:TT}{te:TE}{σ : St}{H H1:Hp}{Q:VK}(p:Int->Int->Bool)(φ : Int->Int->V)(hmp:mp.length=2)(hta:∀R,R [.ref a,.ref b] H1->ta σ H R)
  (h1:SqX K b1 H1 a (xs.map V.int)) (h2:SqX K b2 H1 b (ys.map V.int)) (hz:xs.length<=1000)
  (htc:∀(i:Nat) H' (R:Bool->Hp->Prop),R (p (xs.getD i 0) (ys.getD i 0)) H'->tc [some (.int (xs.getD i 0)),some (.int (ys.getD i 0))] H' R)
  (hte:∀(i:Nat) H' (R:VK),p (xs.getD i 0) (ys.getD i 0)=true->R (φ (xs.getD i 0) (ys.getD i 0)) H'->te [some (.int (xs.getD i 0)),some (.int (ys.getD i 0))] H' R)
  (hQ:∀D H',Same H1 H'->H' D=some (.lst (zipV p φ xs ys))->Q (.ref D) H') :
  tComp mp (iZip K b1 b2 ta) (gTup K 2 (gCons (gName 0) (gCons (gName 1) gNil))) tc te σ H Q:=by
 unfold tComp
 refine hta _ ⟨a,b,rfl,⟨_,h1⟩,⟨_,h2⟩,λD hD => ?_⟩
 have W:=zmk h1 h2
 rw[List.length_map,List.length_map]at W
 refine zfl W hD (Nat.le_trans (Nat.min_le_left _ _) (Nat.le_trans hz (by rw[sizeLine_eq];decide))) (λσ=>σ.length=2) (λi=>p (xs.getD i 0) (ys.getD i 0)) (λi=>φ (xs.getD i 0) (ys.getD i 0)) (by unfold st0;rw[List.length_map];exact hmp) ?_ λH' e hL=>hQ D H' e hL
 rintro i v σ' H2 hi hs e ⟨q,u,w,rfl,hq,hu,hw⟩ Ny Nn hy hn
 rw[zcv hu,zcv hw]at hq
 refine⟨q,_,rfl,SqT.of hq,rfl,_,_,rfl,_,_,rfl,rfl,?_⟩
 rw[zqe hs]
 refine htc _ _ _ ?_
 cases hp:p (xs.getD i 0) (ys.getD i 0) with
 | true=>rw[if_pos rfl];exact hte _ _ _ hp (hy _ _ rfl (Same.refl _) hp)
 | false=>rw[if_neg (by decide)];exact hn _ _ rfl (Same.refl _) hp
end L2
namespace L2
open PySem PySem.Spec PyProof.Rows
theorem zhb{X:Cx}{K:W.Frag}{x y:Str}{px py tp:Pos}{k:Nat}(hK:X.K=K)(hc:X.calm=true)(hN:X.N=[x,y])(nd:([x,y]:List Str).Nodup)(hx:X.env.scope.names.lookup x=some .local)(hy:X.env.scope.names.lookup y=some .local) :
  PG X (.Tuple [.Name x px,.Name y py] k tp) (gTup K 2 (gCons (gName 0) (gCons (gName 1) gNil))):=by
 subst hK
 have nd':X.N.Nodup:=by rw[hN];exact nd
 exact zr5 hc (zi6 (zbj (i:=0) nd' (by rw[hN];rfl) (.inl hx) (.inr hx)) (zi6 (zbj (i:=1) nd' (by rw[hN];rfl) (.inl hy) (.inr hy)) zqu))
theorem zcz{X:Cx}{x:Str}{px:Pos}{i:Nat}(nd:X.N.Nodup)(hN:X.N[i]? = some x)(hx:X.env.scope.names.lookup x=some .local):PG X (.Name x px) (gName i):=zbj nd hN (.inl hx) (.inr hx)
end L2
namespace L2
open PySem PySem.Spec PyProof.Rows
theorem zf2{mp:List (Option Nat)}{ta:TA}{g:TG}{tc:TT}{te:TE}{σ : St}{H H1:Hp}{Q:VK}(n:Int)(Sv:St->Prop)(p:Nat->Bool)(f:Nat->V)(hn0:0<=n)(hn:n<=1000)(hta:∀R,R [.int n] H1->ta σ H R)(h0:Sv (st0 mp σ))
  (step:∀(i:Nat) σ' H2,(i:Int) < n->Sv σ'->Same H1 H2->∀(Ny:V->St->Hp->Prop) (Nn:St->Hp->Prop),(∀σ2 H5,Sv σ2->Same H2 H5->p i=true->Ny (f i) σ2 H5)->(∀σ2 H4,Sv σ2->Same H2 H4->p i=false->Nn σ2 H4) ->
   g (.int (0 + (i:Int))) σ' H2 λσ2 H3=>tc σ2 H3 λb H4=>if b=true then te σ2 H4 λv H5=>Ny v σ2 H5 else Nn σ2 H4)
  (hQ:∀D H',Same H1 H'->H' D=some (.lst (((List.range n.toNat).filter p).map f))->Q (.ref D) H'):tComp mp (iRng1 ta) g tc te σ H Q:=by
 unfold tComp
 refine hta _ ⟨n,rfl,by omega,by omega,λD hD => ?_⟩
 refine zfl (zka 0 n.toNat) hD (Nat.le_trans (show n.toNat<=1000 by omega) (by rw[sizeLine_eq];decide)) Sv p f h0 ?_ λH' e hL=>hQ D H' e hL
 rintro i v σ' H2 hi hs e rfl Ny Nn hy hn'
 exact step i σ' H2 (by omega) hs e Ny Nn hy hn'
end L2
namespace L2
open PySem PySem.Spec PyProof.Rows
end L2
namespace L2
open PySem PySem.Spec PyProof.Rows
theorem ObjOk.obj{P:Program}{w:World}{H:Hp}{h:Heap}{a:Addr}{o:HO}(x:ObjOk P w H h a o):∃ob,h.get? a=some ob:=by
 cases o with
 | lst xs=>obtain⟨_,_,_,_,e⟩:=x;exact⟨_,e⟩
 | tup xs=>obtain⟨_,_,_,ob,e,_⟩:=x;exact⟨_,e⟩
 | dK kvs=>obtain⟨_,_,_,_,o,_,_,e,_⟩:=x;exact⟨_,e⟩
 | dT kvs=>obtain⟨_,_,_,_,o,_,_,e,_⟩:=x;exact⟨_,e⟩
 | set S n=>obtain⟨o,_,_,_,e,_⟩:=x;exact⟨_,e⟩
 | ins C dx fs=>obtain⟨_,_,_,e,_⟩:=x;exact⟨_,e⟩
 | own y=>obtain⟨_,e⟩:=x;exact⟨_,e⟩
 | xd fs=>obtain⟨_,⟨_,_,_,e,_⟩,_⟩:=x;exact⟨_,e⟩
 | rng lo hi=>obtain⟨_,_,_,e⟩:=x;exact⟨_,e⟩
 | frz ob u=>obtain⟨e,_⟩:=x;exact⟨_,e⟩
 | tbl ps=>exact⟨_,show h.get? a=some _ from x⟩
 | met f y=>exact⟨_,show h.get? a=some _ from x⟩
 | ext φ=>obtain⟨_,⟨_,e⟩,_⟩:=x;exact⟨_,e⟩
structure Cov(B:Heap)(fs:List Addr)(H':Hp)(h:Heap):Prop where
 old:∀b o,h.get? b=some o->b ∉ fs->∃o',B.get? b=some o'
 trk:∀b u,H' b=some u->∃o',B.get? b=some o'
def CXe(P:Program)(w:World):CXT:=λouter H s E e s'=>∃(a:Addr) (cls a0:Value) (B:Heap) (H':Hp),e = .ref a/\s'.os=s.os/\AllBare s'.gens/\Un (frs outer) [] H H' s.heap s'.heap/\HOk P w H' s'.heap /\
 Heap.FlyingW B outer a cls a0 s'.heap/\Cov B (frs outer) H' s.heap/\E cls none H'
section
variable{P:Program}{w:World}{fs:List Addr}{H H':Hp}{h h1 h2 B:Heap}
theorem Heap.two{B h1 h2:Heap}(s1:B.StaysIn h1)(s2:B.StaysIn h2){b:Addr}{o o':Obj}(e:h1.get? b=some o)(q:B.get? b=some o'):h2.get? b=some o:=by
 have:=s1 b o' q
 rw[e]at this;cases this
 exact s2 b _ q
theorem zi2(u:Un fs [] H H' h h1)(cov:Cov B fs H' h)(s1:B.StaysIn h1)(s2:B.StaysIn h2)(sl:∀b o,b∈fs->h1.get? b=some o->∃sl,h2.get? b=some { o with slots:=sl }):Un fs [] H H' h h2:=by
 refine⟨λb o e n hb hx => ?_,λb o e n hb hx => ?_,u.free,λb o e hx => ?_,u.tups,u.frzs,u.tbls⟩
 ·obtain⟨o',q⟩:=cov.old b o e hb
  exact Heap.two s1 s2 (u.keep b o e n hb hx) q
 ·obtain⟨sl1,e1⟩:=u.slot b o e n hb hx
  obtain⟨sl2,e2⟩:=sl b _ hb e1
  exact⟨sl2,e2⟩
 ·by_cases hb:b∈fs
  ·obtain⟨o',e1⟩:=u.there b o e hx
   obtain⟨sl2,e2⟩:=sl b _ hb e1
   exact⟨_,e2⟩
  ·obtain⟨o',q⟩:=cov.old b o e hb
   exact⟨o',s2 b o' q⟩
theorem zix(ok:HOk P w H' h1)(trk:∀b u,H' b=some u->∃o',B.get? b=some o')(s1:B.StaysIn h1)(s2:B.StaysIn h2):HOk P w H' h2:=λb u e=>by
 refine(ok b u e).stay (λc v hc q => ?_) (λ_ q=>q) λ_ _ q=>q
 have:∃o',B.get? c=some o':=by
  rcases hc with rfl | hc
  ·exact trk c u e
  ·exact trk c _ hc
 obtain⟨o',q'⟩:=this
 exact Heap.two s1 s2 q q'
theorem zlb{base:Heap}{l:List Env}(ff:h1.FunFrames base l)(up:h1.UpToSlots h2):∀b o,b∈frs l->h1.get? b=some o->∃sl,h2.get? b=some { o with slots:=sl }:=λb o hb e=>by
 obtain⟨_,o',e',d⟩:=ff.mem hb
 rw[e]at e';cases e'
 exact up b o e d
end
def RaisesTo(X:Cx)(E:St->XK):Prop:=∀(pins:List (Addr×Obj)) (σ : St) (H:Hp) (s:Shared) (h':Heap) (e:Addr) (cls:Value) (args:List Value),Inv X pins σ H s->Heap.MadeExcOf s.heap h' e cls args->E σ cls none H->X.xe (.ref e) { s with heap:=h' }
def PassesS(CX:CXT)(X:Cx)(E:St->XK):Prop:=∀(pins:List (Addr×Obj)) (σ : St) (H:Hp) (s:Shared) (e:Value) (s':Shared),Inv X pins σ H s->CX X.stack H s (E σ) e s'->X.xe e s'
section
variable{P:Program}{w:World}{K:W.Frag}{mg:Str->Option Value}{base:Heap}{N:List Str}{qual:Str}{scope:Scope}{f:Addr}{cd:Value}{A:Around}{outer:List Env}{s₀:Shared}{H₀:Hp}{E:XK}
theorem zbs:RaisesTo (cxOf (CXe P w) P w K mg base N qual scope f cd A outer s₀ H₀ E) (λ_=>E):=by
 intro pins σ H s h' e cls args I hx hE
 have ff:=W.funFrames_hide (as:=frs (cxOf (CXe P w) P w K mg base N qual scope f cd A outer s₀ H₀ E).stack) I.stack λenv he a ha=>List.mem_filterMap.mpr ⟨env,he,ha⟩
 have stB:(W.hideAll s.heap (frs (cxOf (CXe P w) P w K mg base N qual scope f cd A outer s₀ H₀ E).stack)).StaysIn s.heap:=λb o e=>W.of_hideAll _ e
 have inB:∀b o,s.heap.get? b=some o->b ∉ frs (cxOf (CXe P w) P w K mg base N qual scope f cd A outer s₀ H₀ E).stack->(W.hideAll s.heap (frs (cxOf (CXe P w) P w K mg base N qual scope f cd A outer s₀ H₀ E).stack)).get? b=some o:=
  λb o e hb=>W.hideAll_get _ e hb
 refine wpAny_leaves_madeW (outer:=outer) I.ok.frames rfl stB ff hx λh'' t fl tup nt up => ?_
 have cov:Cov (W.hideAll s.heap (frs (cxOf (CXe P w) P w K mg base N qual scope f cd A outer s₀ H₀ E).stack)) (frs outer) H s₀.heap:=by
  refine⟨λb o e hb => ?_,λb u e => ?_⟩
  ·obtain⟨o1,e1⟩:=I.base.there b o e (by intro z;exact absurd (show b∈([]:List Addr) from z) (by simp))
   refine⟨o1,inB b o1 e1 λz => ?_⟩
   rcases List.mem_cons.mp (I.stkSub b z) with q | q
   ·exact absurd q (Nat.ne_of_lt (Nat.lt_of_lt_of_le (Heap.lt_size e) I.ok.above))
   ·exact hb q
  ·obtain⟨ob,eo⟩:=(I.hok b u e).obj
   exact⟨ob,inB b ob eo λz=>by rw[I.stkFree b z]at e;cases e⟩
 refine⟨e,cls,.ref t,_,H,rfl,I.os,I.bare,zi2 I.base cov stB fl.1 λb o hb eo => ?_,zix I.hok cov.trk stB fl.1,fl,cov,hE⟩
 obtain⟨_,o',e',d⟩:=I.funs.mem hb
 rw[eo]at e';cases e'
 exact up b o (hx.keeps b o eo) d
theorem ze0:PassesS (CXe P w) (cxOf (CXe P w) P w K mg base N qual scope f cd A outer s₀ H₀ E) (λ_=>E):=by
 intro pins σ H s e s' I hq
 obtain⟨a,cls,a0,B,H',rfl,os,bare,un,hok,fl,cov,hE⟩:=hq
 have I':=I.call' (ch:=[]) os un hok bare λb z=>absurd z (by simp)
 refine wpAny_leaves_onW (outer:=outer) I'.ok.frames rfl fl λh'' fl' up => ?_
 have cov0:Cov B (frs outer) H' s₀.heap:=by
  refine⟨λb o e hb => ?_,cov.trk⟩
  obtain⟨o1,e1⟩:=I.base.there b o e (by intro z;exact absurd (show b∈([]:List Addr) from z) (by simp))
  refine cov.old b o1 e1 λz => ?_
  rcases List.mem_cons.mp (I.stkSub b z) with q | q
  ·exact absurd q (Nat.ne_of_lt (Nat.lt_of_lt_of_le (Heap.lt_size e) I.ok.above))
  ·exact hb q
 exact⟨a,cls,a0,B,H',rfl,I'.os,I'.bare,zi2 I'.base cov0 fl.1 fl'.1 (zlb I'.funs up),zix I'.hok cov.trk fl.1 fl'.1,fl',cov0,hE⟩
end
def tCallS(sp:Sp)(dvs:List V)(E:St->XK)(t:TA):TE:=λσ H Q=>t σ H λvs H1=>sp (vs ++ dvs) H1 Q (E σ)
def tMethS(C:Addr)(m:Str)(sp:Sp)(dvs:List V)(E:St->XK)(ta:TE)(t:TA):TE:=λσ H Q=>ta σ H λx H1=>∃a dx fs,x = .ref a/\H1 a=some (.ins C dx fs)/\fs.lookup m=none /\
 t σ H1 λvs H2=>sp (x :: (vs ++ dvs)) H2 Q (E σ)
def tMakeS(C:Addr)(sp:Sp)(dvs:List V)(E:St->XK)(t:TA):TE:=λσ H Q=>t σ H λvs H1=>∀x dx,H1 x=none->H1 dx=none->dx≠x ->
 sp (.ref x :: (vs ++ dvs)) (upd (upd H1 dx (.own x)) x (.ins C dx [])) (λv H2=>v = .non/\Q (.ref x) H2) (E σ)
section
variable{X:Cx}{CX:CXT}{k:Nat}{f C:Addr}{fd:FuncData}{ps:List Str}{sp:Sp}{dvs:List V}{ds:List Value}{E:St->XK}{x m:Str}{p pos apos:Pos}{e o:Expr}{es:List Expr}{ta:TE}{t:TA}
theorem zgy{pins:List (Addr×Obj)}{σ : St}{H:Hp}{s:Shared}{Q:VK}{us:List Value}{vs:List V}(F:FnOk X.prog X.w X.K X.mg X.base CX k f fd ps sp)(hr:Room k X.A)(hb:Binds X.K fd ps ds)(hd:Vals dvs ds)(hx:PassesS CX X E)
  (I:Inv X pins σ H s) (r:Vals vs us) (h:sp (vs ++ dvs) H Q (E σ)):wpAny (model X.prog X.w) X.A (call (.ref f) us) (EP X pins σ Q) X.xe s:=by
 have r2:Vals (vs ++ dvs) (us ++ ds):=r.append hd
 have hl:(us ++ ds).length=ps.length:=by rw[<- r2.length];exact F.len _ _ _ _ h
 refine wpAny_call (codeAny_mono (F.run X.A X.stack s H ⟨us,[]⟩ (us ++ ds) (vs ++ dvs) Q (E σ) hr I.env0 (hb s us I.kIn hl) r2 h) λr s' hq => ?_)
 match r,hq with
 | .error e,hq=>exact hx pins σ H s e s' I hq
 | .ok (.ret u),hq=>exact I.after hq
 | .ok .next,hq=>exact False.elim hq
 | .ok .brk,hq=>exact False.elim hq
 | .ok .cont,hq=>exact False.elim hq
theorem zoi(F:FnOk X.prog X.w X.K X.mg X.base CX k f fd ps sp)(hr:Room k X.A)(hg:Gl X x)(hm:X.mg x=some (.ref f))(hk:W.keepIn X.K (.ref f)=true)(hb:Binds X.K fd ps ds)(hd:Vals dvs ds)(hx:PassesS CX X E)
  (ha:PA X (e :: es) t) (hdb:(x == ("__debug__" : Str))=false:=by decide) (he:starEach (e :: es) X.env=(false,eval e X.env) :: starEach es X.env:=by rfl) (hpl:(backTo pos (starEach es X.env)).any (·.1)=false:=by rfl) :
  PE X (.Call (.Name x p) (e :: es) [] pos) (tCallS sp dvs E t):=by
 intro pins s σ H Q I h
 refine wpAny_Call_Name_kw (zdm I hg hm (W.callWith_K (h₀:=X.base) I.ok.mod.kin hk (thn (ha pos pins s σ H _ I h) λus s1 ⟨vs,H1,I1,r,q⟩=>⟨I1.kIn,?_⟩) he hpl) hdb)
 exact zgy F hr hb hd hx I1 r q
theorem zoc{pl:Sem Bool}(he:PE X o ta)(c:Cls X.K C)(hm:Meth X.K C m f)(F:FnOk X.prog X.w X.K X.mg X.base CX k f fd ps sp)(hr:Room k X.A)(hb:Binds X.K fd ps ds)(hd:Vals dvs ds)(hx:PassesS CX X E)(ha:PA X (e :: es) t)
  (hst:starEach (e :: es) X.env=(false,eval e X.env) :: starEach es X.env:=by rfl) (hpl:(backTo pos (starEach es X.env)).any (·.1)=false:=by rfl)
  (ht:eval (.Call (.Attribute o m apos) (e :: es) [] pos) X.env=(do
   let ov <- eval o X.env
   standAt apos.atName
   let (f,first) <- holding [ov] (getMethod ov m pl)
   callWith pos f first (backTo pos (starEach (e :: es) X.env)) (backToKw pos (keywordEach [] X.env))):=by rfl) :
  PE X (.Call (.Attribute o m apos) (e :: es) [] pos) (tMethS C m sp dvs E ta t):=by
 intro pins s σ H Q I h
 refine W.methodCall_KW (pl:=pl) (thn (he pins s σ H _ I h) λu s1 ⟨x,H1,I1,rx,a,dx,fs,ex,ea,l,q⟩ => ?_) ht
 subst ex
 obtain rfl:u=Value.ref a:=rx
 refine zfz I1 ea c hm l (W.callWith_K (first:=[.ref a]) (h₀:=X.base) I.ok.mod.kin hm.kp (thn (ha pos pins s1 σ H1 _ I1 q) λus s2 ⟨vs,H2,I2,r,q2⟩=>⟨I2.kIn,?_⟩) hst hpl)
 exact zgy (us := .ref a :: us) (vs := .ref a :: vs) F hr hb hd hx I2 (.cons rfl r) q2
end
def tRaise(C:Addr)(E:St->XK)(t:TA):TS:=λ_ σ H=>t σ H λvs H1=>vs.length<=sizeLine/\E σ (.ref C) none H1
theorem zn9{X:Cx}{C:Addr}{x:Str}{bm:List Value}{newId initId B:String}{e:Expr}{es:List Expr}{t:TA}{np cpos pos:Pos}{E:St->XK}(O:OwnCls x C bm newId X.mg X.base)(FB:ExcBaseFacts B newId initId bm)(hc:X.calm=true)(hg:Gl X x)
  (hx:RaisesTo X E) (ha:PA X (e :: es) t) (he:starEach (e :: es) X.env=(false,eval e X.env) :: starEach es X.env:=by rfl) (hpl:(backTo cpos (starEach es X.env)).any (·.1)=false:=by rfl) (hd:(x == ("__debug__" : Str))=false:=by decide) :
  PS X (.Raise (some (.Call (.Name x np) (e :: es) [] cpos)) none pos) (tRaise C E t):=by
 intro pins s σ H D I h
 obtain⟨tl,N,nm,q,bs,hdct,sn,sub,ab,col,dd,k0,k1,k2,k3,k5,mN,hC,hN,hni,T⟩:=O.obj
 refine wpAny_Raise_call_subT (C:=C) (nm:=nm) (q:=q) (N:=N) (bs:=bs) (bm:=tl) (hdct:=hdct) (sn:=sn) (sub:=sub) (ab:=ab) (col:=col) (dd:=dd) (k0:=k0) (k1:=k1) (k2:=k2) (k3:=k3) (k5:=k5)
  FB (mN:=mN) (T.hasType FB.hasBase) (I.ok.hd hc) (by rw[he];show (false || (backTo cpos (starEach es X.env)).any (·.1))=false;rw[hpl];rfl) hni (zdm I hg O.bound ⟨rfl,?_⟩ hd)
 have ha':=ha cpos pins s σ H _ I h
 rw[he]at ha' ⊢
 refine Calls.evalArgs_plain (thn ha' λus s2 ⟨vs,H2,I2,r,hl,hE⟩=>⟨rfl,by rw[<- r.length];exact hl,I2.bk _ _ hC,hN.keeps I2.bk,T.keeps I2.bk,λh' e hm=>hx pins σ H2 s2 h' e _ _ I2 hm hE⟩)
end L2
namespace L2
open PySem PySem.Spec PyProof.Rows
theorem zd0{K:W.Frag}{h:Heap}{mg:Str->Option Value}{x:Str}{C:Addr}{bm:List Value}{nid:String}(X:K.In h)(G:h.Ns mainGlobals mg)(e:W.nsIn K mainGlobals x=some (some (.ref C)))(q:W.excIn K C bm nid=true):OwnCls x C bm nid mg h:=by
 have G':=W.mg_of X G e
 unfold W.excIn at q;split at q
 case h_2=>cases q
 rename_i dd cd sl ho;split at q
 case h_2=>cases q
 rename_i C' tl k0 k1 k2 k3 n k5 hm hs;simp only[Bool.and_eq_true,beq_iff_eq,Bool.not_eq_true']at q
 obtain⟨⟨⟨⟨⟨q1,q2⟩,q3⟩,q4⟩,q5⟩,q6⟩:=q;subst q1;subst q2
 obtain⟨c1,c2,c3,c4,c5,c6,c7,c8,c9,c10,c11⟩:=cd;dsimp only at hm q3 q5 q6;subst hm;subst q3
 have z:sl = #[k0,k1,k2,k3,some (.builtin n),k5]:=by obtain⟨l⟩:=sl;simp only at hs;rw[hs]
 subst z
 exact⟨G',tl,c4,c1,c5,c2,c6,c7,c8,c9,c10,dd,k0,k1,k2,k3,k5,_,X _ _ ho,.of_isNs (W.isNs_of_in X q5),W.nsMap_none_of_in X q5 q6,W.tail_of_in X q4⟩
end L2
namespace L2
open PySem PySem.Spec PyProof.Rows
abbrev Cx.wishP(X:Cx)(pl:List (Addr×Obj))(E:Value->Shared->Prop):Cx:={ X with pn:=X.pn ++ pl,xe:=E }
abbrev Cx.caught(X:Cx)(a:Addr):Cx:={ X with A:=X.A.mark (some (.ref a)),calm:=false,xe:=λ_ _=>False }
section
variable{X:Cx}{pins pl:List (Addr×Obj)}{σ : St}{H:Hp}{s:Shared}{E:Value->Shared->Prop}{a:Addr}
theorem Inv.wishP(I:Inv X pins σ H s)(E:Value->Shared->Prop):Inv (X.wishP pins E) [] σ H s:=
 ⟨⟨I.ok.mod,I.ok.kind,I.ok.glob,I.ok.blt,I.ok.above,I.ok.inj,I.ok.has,I.ok.cab,I.ok.hd,I.ok.frames,I.ok.stk,I.ok.exf,I.ok.bs,I.ok.bsz,I.ok.noex,I.ok.exfs,I.ok.funs,I.ok.frf⟩,I.os,I.bare,I.base,I.loc,I.cell,I.free,I.freeC,
  λp hp=>I.pin p (by simpa using hp),I.hok,I.len⟩
theorem Inv.unwishP(I:Inv (X.wishP pl E) pins σ H s):Inv X pl σ H s:=
 ⟨⟨I.ok.mod,I.ok.kind,I.ok.glob,I.ok.blt,I.ok.above,I.ok.inj,I.ok.has,I.ok.cab,I.ok.hd,I.ok.frames,I.ok.stk,I.ok.exf,I.ok.bs,I.ok.bsz,I.ok.noex,I.ok.exfs,I.ok.funs,I.ok.frf⟩,I.os,I.bare,I.base,I.loc,I.cell,I.free,I.freeC,
  λp hp=>I.pin p (List.mem_append_left _ hp),I.hok,I.len⟩
theorem Inv.caught(I:Inv X pins σ H s)(a:Addr):Inv (X.caught a) pins σ H s:=
 ⟨⟨I.ok.mod,I.ok.kind,I.ok.glob,I.ok.blt,I.ok.above,I.ok.inj,I.ok.has,I.ok.cab,(λz=>nomatch (show false=true from z)),I.ok.frames,I.ok.stk,I.ok.exf,I.ok.bs,I.ok.bsz,I.ok.noex,I.ok.exfs,I.ok.funs,I.ok.frf⟩,I.os,I.bare,I.base,I.loc,I.cell,I.free,I.freeC,
  I.pin,I.hok,I.len⟩
theorem Inv.uncaught(hd:X.calm=true->X.A.handled=none)(I:Inv (X.caught a) pins σ H s):Inv X pins σ H s:=
 ⟨⟨I.ok.mod,I.ok.kind,I.ok.glob,I.ok.blt,I.ok.above,I.ok.inj,I.ok.has,I.ok.cab,hd,I.ok.frames,I.ok.stk,I.ok.exf,I.ok.bs,I.ok.bsz,I.ok.noex,I.ok.exfs,I.ok.funs,I.ok.frf⟩,I.os,I.bare,I.base,I.loc,I.cell,I.free,I.freeC,
  I.pin,I.hok,I.len⟩
theorem SP.unwishP{D:Ends}{f:Flow}{s':Shared}(h:SP (X.wishP pl E) pins D f s'):SP X pl D f s':=by
 cases f with
 | next=>obtain⟨σ',H',I,q⟩:=h;exact⟨σ',H',I.unwishP,q⟩
 | brk=>obtain⟨σ',H',I,q⟩:=h;exact⟨σ',H',I.unwishP,q⟩
 | cont=>obtain⟨σ',H',I,q⟩:=h;exact⟨σ',H',I.unwishP,q⟩
 | ret u=>obtain⟨v,σ',H',I,r,q⟩:=h;exact⟨v,σ',H',I.unwishP,r,q⟩
theorem SP.uncaught{D:Ends}{f:Flow}{s':Shared}(hd:X.calm=true->X.A.handled=none)(h:SP (X.caught a) pins D f s'):SP X pins D f s':=by
 cases f with
 | next=>obtain⟨σ',H',I,q⟩:=h;exact⟨σ',H',I.uncaught hd,q⟩
 | brk=>obtain⟨σ',H',I,q⟩:=h;exact⟨σ',H',I.uncaught hd,q⟩
 | cont=>obtain⟨σ',H',I,q⟩:=h;exact⟨σ',H',I.uncaught hd,q⟩
 | ret u=>obtain⟨v,σ',H',I,r,q⟩:=h;exact⟨v,σ',H',I.uncaught hd,r,q⟩
end
def tTry(K:W.Frag)(c:Value)(tb:(St->XK)->TS)(th:TS):TS:=λD σ H=>tb (λσ' cls _ H'=>W.exmOne K cls c=some true/\th D σ' H') D σ H
end L2
namespace L2
open PySem PySem.Spec PyProof.Rows
theorem zfo{bs:List Bool}:∀{us:List Value},Vals (bs.map V.bl) us->LSm.BoolsAre us bs:=by
 induction bs with
 | nil=>intro us r;rw[List.map_nil]at r;cases r;exact .nil
 | cons n ns ih=>
  intro us r
  rw[List.map_cons]at r
  cases r with
  | cons r1 r2=>cases (show _=Value.bool n from r1);exact .cons n (ih r2)
section
variable{X:Cx}
theorem zlp(b:Bool)(hc:X.calm=true):CallR X (.builtin "sum") (λxs H Q=>∃(a:Addr) (ns:List Int),xs=[.ref a]/\SqX X.K b H a (ns.map V.int)/\Q (.int ns.sum) H):=by
 intro pins s σ H xs us Q I r h
 obtain⟨a,ns,rfl,hs,q⟩:=h
 obtain⟨u,rfl,ru⟩:=r.one
 cases ru
 obtain⟨its,rv,p⟩:=I.sq hs
 have hi:=zct rv
 obtain⟨ys,hy⟩:=hi.allInts.items
 have e2:preSum (numAt ys) ys.size=ns.sum:=by
  have e1:ns=ys.toList.map (·.1):=by
   rw[<- nums_intItems,<- hy];exact(show numsOf its.toArray.toList=ns from hi.numsOf).symm
  rw[preSum_eq,List.take_of_length_le (by simp),e1]
 rw[hy]at p
 cases b with
 | true=>exact W.ktm_sumG (I.ok.hd hc) p λh' tk t' hk=>⟨.int ns.sum,H,I.kept hk,⟨t',by rw[e2]⟩,q⟩
 | false=>exact sum_intListG (I.ok.hd hc) p λh' tk t' hk=>⟨.int ns.sum,H,I.kept hk,⟨t',by rw[e2]⟩,q⟩
theorem zl4(hc:X.calm=true):CallR X (.builtin "all") (λxs H Q=>∃(a:Addr) (bs:List Bool),xs=[.ref a]/\SqL X.K H a (bs.map V.bl)/\Q (.bl (bs.all id)) H):=by
 intro pins s σ H xs us Q I r h
 obtain⟨a,bs,rfl,hs,q⟩:=h
 obtain⟨u,rfl,ru⟩:=r.one
 cases ru
 obtain⟨its,rv,p,_⟩:=I.list hs
 have hb:=zfo rv
 have hl:=p.isList
 have lt:a < s.heap.objs.size:=by obtain⟨_,e,_⟩:=hl;exact Heap.lt_size e
 refine call_all_walk (wpAny_pyIter_list hl ⟨s.heap.objs.size,_,_,_,_,_,λi=>(bs[i]?).getD true,rfl,Walks.list (A:=X.A.in1) (I.ok.hd hc) _ a (Nat.ne_of_lt lt) its.toArray,⟨⟨_,Heap.get?_push_size _ rfl,rfl,rfl⟩,hl.push _⟩,λi v s' Q' E' hP hQ => ?_,λh' tk hk => ?_⟩)
 ·obtain⟨b,e,rfl⟩:=hb.get i v (by simpa using hP)
  simp only[e,Option.getD_some]at hQ;exact wpAny_truthy_bool hQ
 ·refine⟨.bl (bs.all id),H,I.kept (LSm.kept_iter hk),?_,q⟩
  show Value.bool _=Value.bool _
  rw[List.size_toArray,hb.length,LSm.range_all bs]
theorem zks(hc:X.calm=true):CallR X (.builtin "any") (λxs H Q=>∃(a:Addr) (bs:List Bool),xs=[.ref a]/\SqL X.K H a (bs.map V.bl)/\Q (.bl (bs.any id)) H):=by
 intro pins s σ H xs us Q I r h
 obtain⟨a,bs,rfl,hs,q⟩:=h
 obtain⟨u,rfl,ru⟩:=r.one
 cases ru
 obtain⟨its,rv,p,_⟩:=I.list hs
 have hb:=zfo rv
 have hl:=p.isList
 have lt:a < s.heap.objs.size:=by obtain⟨_,e,_⟩:=hl;exact Heap.lt_size e
 refine call_any_walk (wpAny_pyIter_list hl ⟨s.heap.objs.size,_,_,_,_,_,λi=>(bs[i]?).getD false,rfl,Walks.list (A:=X.A.in1) (I.ok.hd hc) _ a (Nat.ne_of_lt lt) its.toArray,⟨⟨_,Heap.get?_push_size _ rfl,rfl,rfl⟩,hl.push _⟩,λi v s' Q' E' hP hQ => ?_,λh' tk hk => ?_⟩)
 ·obtain⟨b,e,rfl⟩:=hb.get i v (by simpa using hP)
  simp only[e,Option.getD_some]at hQ;exact wpAny_truthy_bool hQ
 ·refine⟨.bl (bs.any id),H,I.kept (LSm.kept_iter hk),?_,q⟩
  show Value.bool _=Value.bool _
  rw[List.size_toArray,hb.length,LSm.range_any bs]
def clV:V->Option Value
 | .ty n=>some (.type n)
 | .ref a=>some (.ref a)
 | _=>none
theorem zh9:CallR X (.builtin "isinstance") (λxs H Q=>∃x y t c b,xs=[x,y]/\clV y=some c/\TyOf X.K H x t/\W.kitOne X.K t c=some b/\Q (.bl b) H):=by
 intro pins s σ H xs us Q I r h
 obtain⟨x,y,t,c,b,rfl,hy,ty,e,q⟩:=h
 obtain⟨u,v,rfl,ru,rv⟩:=r.two
 have ev:v=c:=by
  cases y with
  | ty n=>cases hy;exact rv
  | ref a=>cases hy;exact rv
  | _=>cases hy
 subst ev
 exact zl0 I ru ty e λtk=>⟨.bl b,H,I.tok _,rfl,q⟩
end
end L2
namespace L2
open PySem PySem.Spec PyProof.Rows
section
variable{P:Program}{w:World}{K:W.Frag}{mg:Str->Option Value}{base:Heap}
end
def CMulB(i j:Int):Prop:=i.natAbs < 2 ^ 4000/\j.natAbs < 2 ^ 4000
theorem zkw{X:Cx}:OpR X (binaryOp .Mult) (rI CMulB λi j => .int (i * j)):=opI λ_ _ _ _ _ _ _ hc q=>mul_int q (PySem.IntMulOk.of_bits (Nat.le_trans (intBits_le hc.1) (by decide)) (Nat.le_trans (intBits_le hc.2) (by decide)))
end L2
namespace L2
open PySem PySem.Spec PyProof.Rows
theorem PS.nox{X:Cx}{st:Stmt}{t:TS}(h:PS X.nox st t):PS X st t:=λpins s σ H D I hw=>wpAny_mono (h pins s σ H D (I.wish _) hw) (λ_ _ q=>SP.unwish q) λ_ _ z=>z.elim
structure CMeth(K:W.Frag)(C:Addr)(m:Str)(f:Addr):Prop where
 ex:∃mc,W.readsIn K C mc=true/\W.findCls K (.ref C) mc m=some (.val (.ref f))
 sp:W.specialIn K (.ref C) "__getattribute__" = some (some (.builtin "type.__getattribute__"))
 kp:W.keepIn K (.ref f)=true
section
variable{X:Cx}{CX:CXT}{k:Nat}{f C:Addr}{fd:FuncData}{ps:List Str}{sp:Sp}{dvs:List V}{ds:List Value}{E:St->XK}{x m:Str}{p pos apos:Pos}{e o:Expr}{es:List Expr}{ta:TE}{t:TA}
theorem zm3{pl:Sem Bool}(CM:CMeth X.K C m f)(hg:Gl X x)(hm:X.mg x=some (.ref C))(F:FnOk X.prog X.w X.K X.mg X.base CX k f fd ps sp)(hr:Room k X.A)(hb:Binds X.K fd ps ds)(hd:Vals dvs ds)(hx:PassesS CX X E)(ha:PA X (e :: es) t)
  (hdb:(x == ("__debug__" : Str))=false:=by decide) (hst:starEach (e :: es) X.env=(false,eval e X.env) :: starEach es X.env:=by rfl) (hpl:(backTo pos (starEach es X.env)).any (·.1)=false:=by rfl)
  (ht:eval (.Call (.Attribute (.Name x p) m apos) (e :: es) [] pos) X.env=(do
   let ov <- eval (.Name x p) X.env
   standAt apos.atName
   let (f,first) <- holding [ov] (getMethod ov m pl)
   callWith pos f first (backTo pos (starEach (e :: es) X.env)) (backToKw pos (keywordEach [] X.env))):=by rfl) :
  PE X (.Call (.Attribute (.Name x p) m apos) (e :: es) [] pos) (tCallS sp dvs E t):=by
 intro pins s σ H Q I h
 obtain⟨mc,q1,q2⟩:=CM.ex
 refine W.methodCall_KW (pl:=pl) (zdm I hg hm (W.method_cls I.kIn CM.sp (W.cls_value I.kIn q1 q2 rfl ?_)) hdb) ht
 have I1:=I.tok (s.toks + 1)
 refine W.callWith_K (first:=[]) (h₀:=X.base) I.ok.mod.kin CM.kp (thn (ha pos pins _ σ H _ I1 h) λus s2 ⟨vs,H2,I2,r,q⟩=>⟨I2.kIn,?_⟩) hst hpl
 exact zgy F hr hb hd hx I2 r q
theorem zhq{pins:List (Addr×Obj)}{σ : St}{H:Hp}{s:Shared}{Q:VK}{us:List Value}{vs:List V}(M:Mk X.K C f)(F:FnOk X.prog X.w X.K X.mg X.base CX k f fd ps sp)(hr:Room (k + 1) X.A)(hb:Binds X.K fd ps ds)(hd:Vals dvs ds)
  (hx:PassesS CX X E) (I:Inv X pins σ H s) (r:Vals vs us)
  (h:∀x dx,H x=none->H dx=none->dx≠x->sp (.ref x :: (vs ++ dvs)) (upd (upd H dx (.own x)) x (.ins C dx [])) (λv H2=>v = .non/\Q (.ref x) H2) (E σ)) :
  wpAny (model X.prog X.w) X.A (call (.ref C) us) (EP X pins σ Q) X.xe s:=by
 have hq:=h (s.heap.objs.size + 1) s.heap.objs.size (I.hok.fresh (Nat.le_succ _)) (I.hok.fresh (Nat.le_refl _)) (Nat.ne_of_lt (Nat.lt_succ_self _))
 have I2:=Inv.made (C:=C) I
 have r2:Vals (V.ref (s.heap.objs.size + 1) :: (vs ++ dvs)) (Value.ref (s.heap.objs.size + 1) :: (us ++ ds)) := .cons rfl (r.append hd)
 have hl:(Value.ref (s.heap.objs.size + 1) :: us ++ ds).length=ps.length:=by
  have e:=r2.length
  rw[F.len _ _ _ _ hq]at e
  exact e.symm
 refine wpAny_call (znz (f:=f) I.kIn M.makes M.init (beq_iff_eq.mp M.fn) (codeAny_mono (F.run _ X.stack _ _ ⟨Value.ref (s.heap.objs.size + 1) :: us,[]⟩ (Value.ref (s.heap.objs.size + 1) :: (us ++ ds)) _ _ (E σ) (hr.make C us [])
  (I2.env0.make C us []) (hb _ (Value.ref (s.heap.objs.size + 1) :: us) I2.kIn hl) r2 hq) λr s' hq' => ?_))
 match r,hq' with
 | .error e,hq'=>exact hx pins σ _ _ e s' I2 hq'
 | .ok (.ret u),hq'=>
  obtain⟨v,H',I3,rv,ev,q3⟩:=I2.after hq'
  subst ev
  exact⟨rv,⟨V.ref (s.heap.objs.size + 1),H',I3,rfl,q3⟩⟩
 | .ok .next,hq'=>exact False.elim hq'
 | .ok .brk,hq'=>exact False.elim hq'
 | .ok .cont,hq'=>exact False.elim hq'
theorem zna(M:Mk X.K C f)(F:FnOk X.prog X.w X.K X.mg X.base CX k f fd ps sp)(hr:Room (k + 1) X.A)(hg:Gl X x)(hm:X.mg x=some (.ref C))(hb:Binds X.K fd ps ds)(hd:Vals dvs ds)(hx:PassesS CX X E)
  (ha:PA X (e :: es) t) (hdb:(x == ("__debug__" : Str))=false:=by decide) (he:starEach (e :: es) X.env=(false,eval e X.env) :: starEach es X.env:=by rfl) (hpl:(backTo pos (starEach es X.env)).any (·.1)=false:=by rfl) :
  PE X (.Call (.Name x p) (e :: es) [] pos) (tMakeS C sp dvs E t):=by
 intro pins s σ H Q I h
 refine wpAny_Call_Name_kw (zdm I hg hm (W.callWith_K (h₀:=X.base) I.ok.mod.kin M.kp (thn (ha pos pins s σ H _ I h) λus s1 ⟨vs,H1,I1,r,q⟩=>⟨I1.kIn,?_⟩) he hpl) hdb)
 exact zhq M F hr hb hd hx I1 r q
end
end L2
set_option Elab.async false
set_option linter.all false
set_option maxRecDepth 100000
namespace L2
open PySem PySem.Spec PyProof.Rows
structure FunD(K:W.Frag)(x qual:Str)(st:Stmt)(dV:Value)(f:Addr)(fd:FuncData):Prop where
 ex:∃(oc:Value) (od:Option Addr) (kV doc pm:Value) (an:Option Addr) (cdv ct:Value) (osl:Array (Option Value)),
  fd=W.fnOf x qual (defArgs st) (defBody st) (defScope st) dV kV doc pm an cdv ct/\K.lookup f=some ⟨oc,od,.func fd,osl⟩/\W.codeIn K cdv qual=true
section
variable{P:Program}{w:World}{K:W.Frag}{mg:Str->Option Value}{base:Heap}{x qual:Str}{st:Stmt}{dV:Value}{f:Addr}{fd:FuncData}{N ps:List Str}{k:Nat}{sp:Sp}
theorem FunD.okN(F:FunD K x qual st dV f fd)(S:FnScope N ps (defScope st))(len:∀vs H Q E,sp vs H Q E->vs.length=ps.length)
  (hbody:∀(cdv:Value) (A:Around) (outer:List Env) (s:Shared) (H:Hp) (vs:List V) (Q:VK) (E:XK),Room k (A.deeper (envOfC qual (defScope st) s.heap.objs.size f cdv))->sp vs H Q E ->
   ∃t,PSs (cxOf CX0 P w K mg base N qual (defScope st) f cdv A outer s H E).nox (defBody st) t/\t { nx:=λ_ H'=>Q .non H',rt:=Q } (start N vs) H):FnOk P w K mg base CX0 (k + 1) f fd ps sp:=by
 obtain⟨oc,od,kV,doc,pm,an,cdv,ct,osl,rfl,lk,hcd⟩:=F.ex
 refine zpu lk hcd S len λA outer s H vs Q E hr hsp => ?_
 obtain⟨t,h,q⟩:=hbody cdv A outer s H vs Q E hr hsp
 exact⟨t,h.nox,q⟩
theorem FunD.okX(F:FunD K x qual st dV f fd)(S:FnScope N ps (defScope st))(len:∀vs H Q E,sp vs H Q E->vs.length=ps.length)
  (hbody:∀(cdv:Value) (A:Around) (outer:List Env) (s:Shared) (H:Hp) (vs:List V) (Q:VK) (E:XK),Room k (A.deeper (envOfC qual (defScope st) s.heap.objs.size f cdv))->sp vs H Q E ->
   ∃t,PSs (cxOf (CXe P w) P w K mg base N qual (defScope st) f cdv A outer s H E) (defBody st) t/\t { nx:=λ_ H'=>Q .non H',rt:=Q } (start N vs) H):FnOk P w K mg base (CXe P w) (k + 1) f fd ps sp:=by
 obtain⟨oc,od,kV,doc,pm,an,cdv,ct,osl,rfl,lk,hcd⟩:=F.ex
 exact zpu lk hcd S len λA outer s H vs Q E hr hsp=>hbody cdv A outer s H vs Q E hr hsp
theorem FunD.binds(F:FunD K x qual st .none f fd)
  (h:∀(kV doc pm:Value) (an:Option Addr) (cdv ct:Value) (us:List Value),us.length=ps.length->bindArgs (W.fnOf x qual (defArgs st) (defBody st) (defScope st) .none kV doc pm an cdv ct) ⟨us,[]⟩=pure (ps.zip us)):Binds K fd ps []:=by
 obtain⟨oc,od,kV,doc,pm,an,cdv,ct,osl,rfl,lk,hcd⟩:=F.ex
 exact .all (h kV doc pm an cdv ct)
theorem zas{oc:Value}{od an:Option Addr}{osl:Array (Option Value)}{kV doc pm cdv ct:Value}(l:K.lookup f=some ⟨oc,od,.func (W.fnOf x qual (defArgs st) (defBody st) (defScope st) dV kV doc pm an cdv ct),osl⟩)
  (c:W.codeIn K cdv qual=true):FunD K x qual st dV f (W.fnOf x qual (defArgs st) (defBody st) (defScope st) dV kV doc pm an cdv ct):=⟨⟨oc,od,kV,doc,pm,an,cdv,ct,osl,rfl,l,c⟩⟩
end
structure Cal(P:Program)(w:World)(K:W.Frag)(mg:Str->Option Value)(base:Heap)(CX:CXT)(k:Nat)(x:Str)(ps:List Str)(ds:List Value)(sp:Sp):Prop where
 ex:∃f fd,FnOk P w K mg base CX k f fd ps sp/\Binds K fd ps ds/\W.keepIn K (.ref f)=true/\mg x=some (.ref f)
structure MCal(P:Program)(w:World)(K:W.Frag)(mg:Str->Option Value)(base:Heap)(CX:CXT)(k:Nat)(C:Addr)(m:Str)(ps:List Str)(ds:List Value)(sp:Sp):Prop where
 ex:∃f fd,FnOk P w K mg base CX k f fd ps sp/\Binds K fd ps ds/\Meth K C m f
 cl:Cls K C
structure Mak(P:Program)(w:World)(K:W.Frag)(mg:Str->Option Value)(base:Heap)(CX:CXT)(k:Nat)(x:Str)(C:Addr)(ps:List Str)(ds:List Value)(sp:Sp):Prop where
 ex:∃f fd,FnOk P w K mg base CX k f fd ps sp/\Binds K fd ps ds/\Mk K C f
 at_:mg x=some (.ref C)
structure CCal(P:Program)(w:World)(K:W.Frag)(mg:Str->Option Value)(base:Heap)(CX:CXT)(k:Nat)(x:Str)(m:Str)(ps:List Str)(ds:List Value)(sp:Sp):Prop where
 ex:∃C f fd,FnOk P w K mg base CX k f fd ps sp/\Binds K fd ps ds/\CMeth K C m f/\mg x=some (.ref C)
structure Exc(K:W.Frag)(mg:Str->Option Value)(base:Heap)(x:Str)(C:Addr):Prop where
 ex:∃bm nid init B,OwnCls x C bm nid mg base/\ExcBaseFacts B nid init bm
 at_:mg x=some (.ref C)
 me:W.exmOne K (.ref C) (.ref C)=some true
theorem pass00{X:Cx}:PassesS CX0 X (λ_=>E0):=λ_ _ _ _ _ _ _ h=>h.elim
theorem passF{X:Cx}{P:Program}{w:World}:PassesS (CXe P w) X (λ_=>E0):=by
 rintro _ _ _ _ _ _ _ ⟨_,_,_,_,_,_,_,_,_,_,_,_,h⟩
 exact h.elim
section
variable{X:Cx}{CX:CXT}{k j:Nat}{C:Addr}{ps:List Str}{sp:Sp}{dvs:List V}{ds:List Value}{E:St->XK}{x m:Str}{p pos apos:Pos}{e o:Expr}{es:List Expr}{ta:TE}{t:TA}
theorem pe_c(c:Cal X.prog X.w X.K X.mg X.base CX k x ps ds sp)(hr:Room j X.A)(hx:PassesS CX X E)(hd:Vals dvs ds)(ha:PA X (e :: es) t)(hk:k<=j:=by decide)(hg:Gl X x:=by rfl)
  (hdb:(x == ("__debug__" : Str))=false:=by decide) (he:starEach (e :: es) X.env=(false,eval e X.env) :: starEach es X.env:=by rfl) (hpl:(backTo pos (starEach es X.env)).any (·.1)=false:=by rfl) :
  PE X (.Call (.Name x p) (e :: es) [] pos) (tCallS sp dvs E t):=by
 obtain⟨f,fd,F,hb,hk',hm⟩:=c.ex
 exact zoi F (hr.mono hk) hg hm hk' hb hd hx ha hdb he hpl
theorem pe_m{pl:Sem Bool}(c:MCal X.prog X.w X.K X.mg X.base CX k C m ps ds sp)(he:PE X o ta)(hr:Room j X.A)(hx:PassesS CX X E)(hd:Vals dvs ds)(ha:PA X (e :: es) t)(hk:k<=j:=by decide)
  (hst:starEach (e :: es) X.env=(false,eval e X.env) :: starEach es X.env:=by rfl) (hpl:(backTo pos (starEach es X.env)).any (·.1)=false:=by rfl)
  (ht:eval (.Call (.Attribute o m apos) (e :: es) [] pos) X.env=(do
   let ov <- eval o X.env
   standAt apos.atName
   let (f,first) <- holding [ov] (getMethod ov m pl)
   callWith pos f first (backTo pos (starEach (e :: es) X.env)) (backToKw pos (keywordEach [] X.env))):=by rfl) :
  PE X (.Call (.Attribute o m apos) (e :: es) [] pos) (tMethS C m sp dvs E ta t):=by
 obtain⟨f,fd,F,hb,hm⟩:=c.ex
 exact zoc he c.cl hm F (hr.mono hk) hb hd hx ha hst hpl ht
theorem zsl{pl:Sem Bool}(c:MCal X.prog X.w X.K X.mg X.base CX k C m ps ds sp)(he:PE X o ta)(hr:Room j X.A)(hx:PassesS CX X E)(hd:Vals dvs ds)(hk:k<=j:=by decide)
  (ht:eval (.Call (.Attribute o m apos) [] [] pos) X.env=(do
   let ov <- eval o X.env
   standAt apos.atName
   let (f,first) <- holding [ov] (getMethod ov m pl)
   callWith pos f first (backTo pos (starEach [] X.env)) (backToKw pos (keywordEach [] X.env))):=by rfl) :
  PE X (.Call (.Attribute o m apos) [] [] pos) (tMethS C m sp dvs E ta tNil):=by
 obtain⟨f,fd,F,hb,hm⟩:=c.ex
 intro pins s σ H Q I h
 refine W.methodCall_KW (pl:=pl) (thn (he pins s σ H _ I h) λu s1 ⟨x,H1,I1,rx,a,dx,fs,ex,ea,l,q⟩ => ?_) ht
 subst ex
 obtain rfl:u=Value.ref a:=rx
 refine zfz I1 ea c.cl hm l ?_
 exact W.callWith_K0 (first:=[.ref a]) I1.kIn hm.kp (zgy (us:=[.ref a]) (vs:=[.ref a]) F (hr.mono hk) hb hd hx I1 (.cons rfl .nil) q)
theorem zpd(c:Mak X.prog X.w X.K X.mg X.base CX k x C ps ds sp)(hr:Room j X.A)(hx:PassesS CX X E)(hd:Vals dvs ds)(ha:PA X (e :: es) t)(hk:k + 1<=j:=by decide)(hg:Gl X x:=by rfl)
  (hdb:(x == ("__debug__" : Str))=false:=by decide) (he:starEach (e :: es) X.env=(false,eval e X.env) :: starEach es X.env:=by rfl) (hpl:(backTo pos (starEach es X.env)).any (·.1)=false:=by rfl) :
  PE X (.Call (.Name x p) (e :: es) [] pos) (tMakeS C sp dvs E t):=by
 obtain⟨f,fd,F,hb,hm⟩:=c.ex
 exact zna hm F (hr.mono hk) hg c.at_ hb hd hx ha hdb he hpl
theorem zrr(c:Mak X.prog X.w X.K X.mg X.base CX k x C ps ds sp)(hr:Room j X.A)(hx:PassesS CX X E)(hd:Vals dvs ds)(hk:k + 1<=j:=by decide)(hg:Gl X x:=by rfl)(hdb:(x == ("__debug__" : Str))=false:=by decide) :
  PE X (.Call (.Name x p) [] [] pos) (tMakeS C sp dvs E tNil):=by
 obtain⟨f,fd,F,hb,hm⟩:=c.ex
 intro pins s σ H Q I h
 refine wpAny_Call_Name_kw (zdm I hg c.at_ ?_ hdb)
 exact W.callWith_K0 I.kIn hm.kp (zhq (us:=[]) hm F (hr.mono hk) hb hd hx I .nil h)
theorem zrn{pl:Sem Bool}(c:CCal X.prog X.w X.K X.mg X.base CX k x m ps ds sp)(hr:Room j X.A)(hx:PassesS CX X E)(hd:Vals dvs ds)(ha:PA X (e :: es) t)(hk:k<=j:=by decide)(hg:Gl X x:=by rfl)
  (hdb:(x == ("__debug__" : Str))=false:=by decide) (hst:starEach (e :: es) X.env=(false,eval e X.env) :: starEach es X.env:=by rfl) (hpl:(backTo pos (starEach es X.env)).any (·.1)=false:=by rfl)
  (ht:eval (.Call (.Attribute (.Name x p) m apos) (e :: es) [] pos) X.env=(do
   let ov <- eval (.Name x p) X.env
   standAt apos.atName
   let (f,first) <- holding [ov] (getMethod ov m pl)
   callWith pos f first (backTo pos (starEach (e :: es) X.env)) (backToKw pos (keywordEach [] X.env))):=by rfl) :
  PE X (.Call (.Attribute (.Name x p) m apos) (e :: es) [] pos) (tCallS sp dvs E t):=by
 obtain⟨C,f,fd,F,hb,hm,hmg⟩:=c.ex
 exact zm3 hm hg hmg F (hr.mono hk) hb hd hx ha hdb hst hpl ht
theorem zjy{np cpos:Pos}(x':Exc X.K X.mg X.base x C)(hc:X.calm=true)(hg:Gl X x)(hx:RaisesTo X E)(ha:PA X (e :: es) t)(he:starEach (e :: es) X.env=(false,eval e X.env) :: starEach es X.env:=by rfl)(hpl:(backTo cpos (starEach es X.env)).any (·.1)=false:=by rfl)(hd:(x == ("__debug__" : Str))=false:=by decide) :
  PS X (.Raise (some (.Call (.Name x np) (e :: es) [] cpos)) none pos) (tRaise C E t):=by
 obtain⟨bm,nid,init,B,O,FB⟩:=x'.ex
 exact zn9 O FB hc hg hx ha he hpl hd
end
theorem zoo{X:Cx}{x:Str}{i:Int}{pos:Pos}(hm:∃tk,X.mg x=some (.int i tk))(hg:Gl X x)(hd:(x == ("__debug__" : Str))=false:=by decide):PE X (.Name x pos) (tC (.int i)):=by
 obtain⟨tk,e⟩:=hm
 exact zeq hg e ⟨tk,rfl⟩ hd
def CDivB(_ j:Int):Prop:=j≠0/\j.natAbs < 2 ^ 8999
theorem zjf{X:Cx}:OpR X (binaryOp .FloorDiv) (rI CDivB λi j => .int (i.fdiv j)):=opI λ_ j _ _ _ _ _ hc q=>floordiv_int hc.1 q (.inl (PyProof.noPylong_of_log2 (by
 have h0:j.natAbs≠0:=λz=>hc.1 (Int.natAbs_eq_zero.mp z)
 exact Nat.lt_of_lt_of_le ((Nat.log2_lt h0).mpr hc.2) (by decide))))
theorem cEq{a b:Int}{A B:Prop}(h1:a=b->A)(h2:a≠b->B):if decide (V.int a=V.int b)=true then A else B:=by
 by_cases h:a=b
 ·rw[decide_eq_true (congrArg V.int h)];exact iteT (h1 h)
 ·rw[decide_eq_false λz=>h (by injection z)];exact iteF (h2 h)
theorem cNe{a b:Int}{A B:Prop}(h1:a≠b->A)(h2:a=b->B):if (!decide (V.int a=V.int b))=true then A else B:=by
 by_cases h:a=b
 ·rw[decide_eq_true (congrArg V.int h)];exact iteF (h2 h)
 ·rw[decide_eq_false λz=>h (by injection z)];exact iteT (h1 h)
theorem cD{c:Prop}[Decidable c]{A B:Prop}(h1:c->A)(h2:¬c->B):if decide c=true then A else B:=by
 by_cases h:c
 ·rw[decide_eq_true h];exact iteT (h1 h)
 ·rw[decide_eq_false h];exact iteF (h2 h)
theorem cN{c:Prop}[Decidable c]{A B:Prop}(h1:¬c->A)(h2:c->B):if (!decide c)=true then A else B:=by
 by_cases h:c
 ·rw[decide_eq_true h];exact iteF (h2 h)
 ·rw[decide_eq_false h];exact iteT (h1 h)
theorem cNB{b:Bool}{A B:Prop}(h1:b=false->A)(h2:b=true->B):if (!b)=true then A else B:=by
 cases b with
 | true=>exact iteF (h2 rfl)
 | false=>exact iteT (h1 rfl)
theorem dI{a b:Int}:decide (V.int a=V.int b)=decide (a=b):=by
 by_cases h:a=b
 ·rw[decide_eq_true (congrArg V.int h),decide_eq_true h]
 ·rw[decide_eq_false λz=>h (by injection z),decide_eq_false h]
end L2
namespace L2
open PySem PySem.Spec PyProof.Rows
mutual
inductive Rds(K:W.Frag)(H:Hp):V->PyData->Prop
 | non:Rds K H .non .none
 | bl (b:Bool):Rds K H (.bl b) (.bool b)
 | int (i:Int):Rds K H (.int i) (.int i)
 | str (x:Str):Rds K H (.str x) (.str x)
 | tup {a:Addr} {xs:List V} {ds:List PyData}:SqT K H a xs->RdsAll K H xs ds->Rds K H (.ref a) (.tuple ds)
 | lst {a:Addr} {xs:List V} {ds:List PyData}:SqL K H a xs->RdsAll K H xs ds->Rds K H (.ref a) (.list ds)
inductive RdsAll(K:W.Frag)(H:Hp):List V->List PyData->Prop
 | nil:RdsAll K H [] []
 | cons {x:V} {xs:List V} {d:PyData} {ds:List PyData}:Rds K H x d->RdsAll K H xs ds->RdsAll K H (x :: xs) (d :: ds)
end
theorem zjb{K:W.Frag}{H:Hp}:∀ns:List Int,RdsAll K H (ns.map V.int) (ns.map PyData.int)
 | [] => .nil
 | n :: ns => .cons (.int n) (zjb ns)
section
variable{X:Cx}{pins:List (Addr×Obj)}{σ : St}{H:Hp}{s:Shared}
mutual
theorem Inv.rds(I:Inv X pins σ H s):∀{v:V} {d:PyData} {u:Value},Rds X.K H v d->RelV v u->∃as,Reads s.heap u d as
 | _,_,_,.non,r=>by cases (show _=Value.none from r);exact⟨_,.none⟩
 | _,_,_,.bl b,r=>by cases (show _=Value.bool b from r);exact⟨_,.bool b⟩
 | _,_,_,.int i,r=>by obtain⟨t,rfl⟩:=r;exact⟨_,.int i t⟩
 | _,_,_,.str x,r=>by obtain⟨t,rfl⟩:=r;exact⟨_,.str x t⟩
 | _,_,_,.tup (a:=a) h hs,r=>by
  cases (show _=Value.ref a from r)
  obtain⟨its,rv,⟨o,ho,hc,n,hd⟩,_⟩:=I.tuple h
  obtain⟨as,q⟩:=Inv.rdsAll I hs rv
  exact⟨as,.tuple ho hc hd (by simpa using q)⟩
 | _,_,_,.lst (a:=a) h hs,r=>by
  cases (show _=Value.ref a from r)
  obtain⟨its,rv,p,_⟩:=I.list h
  obtain⟨o,ho,hc,n,hd⟩:=p.isList
  obtain⟨as,q⟩:=Inv.rdsAll I hs rv
  exact⟨_,.list ho hc hd (by simpa using q)⟩
theorem Inv.rdsAll(I:Inv X pins σ H s):∀{vs:List V} {ds:List PyData} {us:List Value},RdsAll X.K H vs ds->Vals vs us->∃as,ReadsAll s.heap us ds as
 | _,_,_,.nil,.nil=>⟨_,.nil⟩
 | _,_,_,.cons h hs,.cons r rs=>by
  obtain⟨as,q⟩:=Inv.rds I h r
  obtain⟨bs,p⟩:=Inv.rdsAll I hs rs
  exact⟨_,.cons q p⟩
end
end
section
variable{X:Cx}
theorem zsc(hu:X.A.units + 64 < cLine):OpR X (compareOp .Eq) (λx y H Q=>∃d e,Rds X.K H x d/\Rds X.K H y e/\SeqAt.shaped d=true/\SeqAt.shaped e=true/\Q (.bl (PyData.eqv d e)) H):=by
 intro pins s σ H x y u v Q I rx ry h
 obtain⟨d,e,hd,he,s1,s2,q⟩:=h
 obtain⟨as,ra⟩:=I.rds hd rx
 obtain⟨bs,rb⟩:=I.rds he ry
 exact eq_dataH ra rb s1 s2 hu ⟨.bl (PyData.eqv d e),H,I,rfl,q⟩
theorem zow(hu:X.A.units + 64 < cLine):OpR X (compareOp .NotEq) (λx y H Q=>∃d e,Rds X.K H x d/\Rds X.K H y e/\SeqAt.shaped d=true/\SeqAt.shaped e=true/\Q (.bl (!PyData.eqv d e)) H):=by
 intro pins s σ H x y u v Q I rx ry h
 obtain⟨d,e,hd,he,s1,s2,q⟩:=h
 obtain⟨as,ra⟩:=I.rds hd rx
 obtain⟨bs,rb⟩:=I.rds he ry
 exact ne_dataH ra rb s1 s2 hu ⟨.bl (!PyData.eqv d e),H,I,rfl,q⟩
end
section
variable{X:Cx}
def rEqT(K:W.Frag):R2:=λx y H Q=>∃(a b:Addr) (xs ys:List Int),x = .ref a/\y = .ref b/\SqT K H a (xs.map V.int)/\SqT K H b (ys.map V.int)/\Q (.bl (decide (xs=ys))) H
def rNeT(K:W.Frag):R2:=λx y H Q=>∃(a b:Addr) (xs ys:List Int),x = .ref a/\y = .ref b/\SqT K H a (xs.map V.int)/\SqT K H b (ys.map V.int)/\Q (.bl (!decide (xs=ys))) H
end
end L2
namespace HT
open PySem PyProof.Rows
section
open PySem.SeqAt
open PySem.AutoSeq1 (wpAny_loadPart')
open PySem.MeetsSeq PySem.MeetsSeq2 PySem.MeetsSeq3
theorem zm2(A:Around)(s:Shared)(a:Int)(t:Tok)(c:Int)(u:Tok)(prog:Program)(w:World)(E:Value->Shared->Prop)(Q:Value->Shared->Prop)(h:Q (.bool (decide (c < a))) s) :
  wpAny (model prog w) A (richCompare .Gt (.int a t) (.int c u)) Q E s:=
 (PyProof.Rows.gt_int h:wpAny (model prog w) A (compareOp .Gt (.int a t) (.int c u)) Q E s)
theorem zgw(l b:Addr)(items items2:Array Value)(n n2:Nat)(dd dd2:Option Addr)(sl sl2:Array (Option Value))(ns ms:List Int)(hi:IntsAre items.toList ns)(hj:IntsAre items2.toList ms) :
  Meets (Builtin.«tuple.__gt__» ⟨[.ref l,.ref b],[]⟩)
   (λ_ R s=>s.heap.get? l=some { cls := .type "tuple",dict:=dd,data := .seq items n,slots:=sl }/\s.heap.get? b=some { cls := .type "tuple",dict:=dd2,data := .seq items2 n2,slots:=sl2 } /\
    R (.ok (.ret (.bool (lexLt ms ns)))) s):=
 .of_wp λprog w A R s h=>by
  obtain⟨hp,g,d,tk,os⟩:=s;obtain⟨hl,hb,h⟩:=h
  have f2:=AutoSeq1.sub_tuple_tuple
  have z1:items.size=ns.length:=by rw[<- hi.length];simp
  have z2:items2.size=ms.length:=by rw[<- hj.length];simp
  wp_walk using wpAny_loadPart' hl,wpAny_loadPart' hb,wpAny_forIn_list _ (λrest b s'=>b.1=none/\s'=⟨hp,g,d,tk,os⟩/\∃(vs ws:List Value) (ns' ms':List Int),rest=vs.zip ws /\
   IntsAre vs ns'/\IntsAre ws ms'/\ns'.length + items2.size=ms'.length + items.size/\R (.ok (.ret (.bool (lexLt ms' ns')))) ⟨hp,g,d,tk,os⟩) _
  case turn=>
   rintro⟨y,x⟩ rest b s' ⟨hb',rfl,vs,ws,ns',ms',hz,hvi,hwi,hlen,hR⟩
   cases hvi with
   | nil=>rw[List.zip_nil_left]at hz;cases hz
   | cons a t hvi'=>
    cases hwi with
    | nil=>rw[List.zip_nil_right]at hz;cases hz
    | cons c u hwi'=>
     rw[List.zip_cons_cons]at hz
     injection hz with hyx hrest
     injection hyx with hy hx
     subst hy hx
     rw[lexLt_cons]at hR
     simp only[List.length_cons]at hlen
     obtain⟨e,he,hiff⟩:=eqAt_int A.in1 ⟨hp,g,d,tk,os⟩ a t c u
     refine wpAny_bind (he prog w _ _ ?_)
     cases e with
     | true=>
      rw[if_pos (hiff.mp rfl).symm]at hR
      wp_walk
      exact⟨rfl,rfl,_,_,_,_,hrest,hvi',hwi',by omega,hR⟩
     | false=>
      rw[if_neg (λq=>absurd (hiff.mpr q.symm) Bool.false_ne_true)]at hR
      have hri:=zm2 A.in1 ⟨hp,g,d,tk,os⟩ a t c u prog w
      wp_walk using hri
      exact⟨_,rfl,by simpa using hR⟩
  case fin=>
   rintro⟨b1,b2⟩ s' ⟨hb',rfl,vs,ws,ns',ms',hz,hvi,hwi,hlen,hR⟩
   simp only at hb'
   subst hb'
   have hv:lexLt ms' ns'=decide (items2.size < items.size):=by
    cases hvi with
    | nil=>
     cases hwi with
     | nil=>
      simp only[List.length_nil]at hlen
      rw[zgv]
      exact(decide_eq_false (by omega)).symm
     | cons c u hw=>
      simp only[List.length_nil,List.length_cons]at hlen
      rw[lexLt_cons_nil]
      exact(decide_eq_false (by omega)).symm
    | cons a t hv=>
     cases hwi with
     | nil=>
      simp only[List.length_nil,List.length_cons]at hlen
      rw[lexLt_nil_cons]
      exact(decide_eq_true (by omega)).symm
     | cons c u hw=>
      rw[List.zip_cons_cons]at hz
      cases hz
   rw[hv]at hR
   wp_walk
   exact⟨_,rfl,by simpa[Builtin.Tuple.tupleCompareSizes]using hR⟩
  case h=>
   exact⟨rfl,rfl,items.toList,items2.toList,ns,ms,rfl,hi,hj,by omega,h⟩
end
theorem gt_tupInts{prog:Program}{w:World}{A:Around}{E:Value->Shared->Prop}{s:Shared}{l b:Addr}{items items2:Array Value}{ns ms:List Int}{Q:Value->Shared->Prop}(hl:IsTup s.heap l items)(hb:IsTup s.heap b items2)(hi:IntsAre items.toList ns)(hj:IntsAre items2.toList ms)
  (hu:A.units < cLine) (h:Q (.bool (lexLt ms ns)) s):wpAny (model prog w) A (compareOp .Gt (.ref l) (.ref b)) Q E s:=by
 obtain⟨⟨cls,dd,data,sl⟩,ho,hc,n,hd⟩:=id hl
 obtain⟨⟨cls2,dd2,data2,sl2⟩,ho2,hc2,n2,hd2⟩:=id hb
 simp only at hc hd hc2 hd2
 subst hc hd hc2 hd2
 exact richCompare_meets_room (op := .Gt) ⟨_,ho,rfl⟩ ⟨_,ho2,rfl⟩ PySem.F.slot_tuple_gt PySem.F.entry_tuple_gt (PySem.F.args_tuple_gt_2 _ _) (zgw l b items items2 n n2 dd dd2 sl sl2 ns ms hi hj)
  ⟨ho,ho2,show Value.bool (lexLt ms ns)≠Value.notImplemented/\Q (.bool (lexLt ms ns)) s from⟨(λx=>nomatch x),h⟩⟩ hu
end HT
namespace L2
open PySem PySem.Spec PyProof.Rows
variable{X:Cx}
def rGtT(K:W.Frag):R2:=λx y H Q=>∃(a b:Addr) (ns ms:List Int),x = .ref a/\y = .ref b/\SqT K H a (ns.map V.int)/\SqT K H b (ms.map V.int)/\Q (.bl (HT.lexLt ms ns)) H
end L2
namespace PySem
namespace F
theorem zhp:Manifest.owners.lookup (String.ofList ['d','e','s','r','e','v','e','r'].reverse)=some Manifest.sig_reversed:=by kernel_rfl
theorem slot_rvd_next:Slot "reversed" "__next__" "reversed.__next__":=
 .of (owner:="reversed") (n:="__next__") (by rw[typeLookup_type,builtinLookup_eq_fast];kernel_rfl) (by decide +kernel) (by decide +kernel) (by decide +kernel)
  (by first | exact .inl (by decide +kernel) | exact .inr (by decide +kernel)) (by rw[isSubtype_type];kernel_rfl)
theorem entry_rvd_next:entryFor table "reversed.__next__" = some Builtin.«reversed.__next__»:=entryFor_of_tree (by kernel_rfl)
theorem args_rvd_next_1(a:Value):argsOk "reversed.__next__" ⟨[a],[]⟩:=by
 unfold argsOk;rw[signature?_of (id:="reversed.__next__") (n:=['_','_','t','x','e','n','_','_']) (o:=['d','e','s','r','e','v','e','r']) (by kernel_rfl) zhp];kernel_rfl
theorem slot_rvd_iter:Slot "reversed" "__iter__" "reversed.__iter__":=
 .of (owner:="reversed") (n:="__iter__") (by rw[typeLookup_type,builtinLookup_eq_fast];kernel_rfl) (by decide +kernel) (by decide +kernel) (by decide +kernel)
  (by first | exact .inl (by decide +kernel) | exact .inr (by decide +kernel)) (by rw[isSubtype_type];kernel_rfl)
theorem args_rvd_iter_1(a:Value):argsOk "reversed.__iter__" ⟨[a],[]⟩:=by
 unfold argsOk;rw[signature?_of (id:="reversed.__iter__") (n:=['_','_','r','e','t','i','_','_']) (o:=['d','e','s','r','e','v','e','r']) (by kernel_rfl) zhp];kernel_rfl
theorem entry_rvd_iter:entryFor table "reversed.__iter__" = some Builtin.«dict_keyiterator.__iter__»:=
 entryFor_alias (id':="dict_keyiterator.__iter__") (by kernel_rfl) (by first | rfl | decide +kernel | (unfold String.splitOn;simp +decide [String.splitOnAux])) (by decide +kernel) (by kernel_rfl)
theorem lookup_tuple_reversed:typeLookup (.type "tuple") "__reversed__" = pure none:=by rw[typeLookup_type,builtinLookup_eq_fast];kernel_rfl
theorem zgi:Slot "reversed" "__init__" "object.__init__":=
 .of (owner:="object") (n:="__init__") (by rw[typeLookup_type,builtinLookup_eq_fast];kernel_rfl) (by decide +kernel) (by decide +kernel) (by decide +kernel)
  (by first | exact .inl (by decide +kernel) | exact .inr (by decide +kernel)) (by rw[isSubtype_type];kernel_rfl)
theorem called_reversed:TypeCalled "reversed" "reversed.__new__" "object.__init__":=
 ⟨by decide +kernel,by decide +kernel,⟨_,_,mro_reversed⟩,made_reversed,by decide +kernel,by rw[isSubtype_type];kernel_rfl,zgi⟩
end F
end PySem
namespace L2
open PySem PySem.Spec PyProof.Rows PySem.MeetsSeq
theorem zmn(t:Addr)(items:Array Value):Meets (Builtin.«reversed.__new__» ⟨[.type "reversed",.ref t],[]⟩) (λ_ R s=>IsTup s.heap t items/\(items.size:Int) < 2 ^ 63 /\
   R (.ok (.ret (.ref s.heap.objs.size))) { s with heap:=s.heap.push { cls := .type "reversed",data := .fields #[.ref t,rawInt ((items.size:Int) - 1)] },toks:=s.toks + 1 + 1 }):=
 .of_wp λprog w A R s h=>by
  obtain⟨ht,hz,h⟩:=h
  unfold Builtin.«reversed.__new__»
  refine wpAny_bind (wpAny_of_eq (newClass_reversed _) ?_)
  try dsimp only
  refine wpAny_bind (wpAny_of_eq (a:=()) (by first | rfl | kernel_rfl) ?_)
  refine wpAny_bind (wpAny_of_eq (a:=()) (by first | rfl | kernel_rfl) ?_)
  try dsimp only
  refine wpAny_bind (wpAny_specialOf ht.typeIs F.lookup_tuple_reversed ?_)
  try dsimp only
  refine wpAny_bind ?_
  show wpAny _ _ (isInstance (.ref t) (.type "dict") >>= _) _ _ _
  refine wpAny_bind (wpAny_isInstance ht.typeIs F.sub_tuple_dict ?_)
  rw[if_neg Bool.false_ne_true]
  refine wpAny_bind (wpAny_specialOf ht.typeIs slot_tuple_getitem.lookup ?_)
  dsimp only
  rw[if_pos (by decide)]
  refine wpAny_pure ?_
  simp only[Bool.not_true,Bool.false_eq_true,if_false]
  refine wpAny_bind (len_tuple ht hz ?_)
  refine wpAny_bind (wpAny_of_eq (a:=some (items.size:Int)) rfl ?_)
  dsimp only
  refine wpAny_bind ?_
  unfold Builtin.SmallTypes.newRecord
  dsimp only
  refine wpAny_newObj_type ?_
  exact wpAny_pure ⟨_,rfl,h⟩
section
variable{prog:Program}{w:World}{A:Around}{E:Value->Shared->Prop}{s:Shared}
def IsRvd(h:Heap)(a t:Addr)(i:Int):Prop:=∃o,h.get? a=some o/\o.cls = .type "reversed"/\o.data = .fields #[.ref t,rawInt i]
theorem IsRvd.typeIs{a t:Addr}{i:Int}(x:IsRvd s.heap a t i):s.TypeIs (.ref a) "reversed":=let ⟨o,ho,hc,_⟩:=x;⟨o,ho,hc⟩
theorem zes{t:Addr}{items:Array Value}{Q:Value->Shared->Prop}(ht:IsTup s.heap t items)(hz:(items.size:Int) < 2 ^ 63)
  (h:Q (.ref s.heap.objs.size) { s with heap:=s.heap.push { cls := .type "reversed",data := .fields #[.ref t,rawInt ((items.size:Int) - 1)] },toks:=s.toks + 1 + 1 }):wpAny (model prog w) A (call (.type "reversed") [.ref t]) Q E s:=by
 refine callType_new F.called_reversed (by decide) (F.typeCall_reversed_1 _) (F.newCall_reversed_1 _) (λobj=>F.args_object_init_2 obj _) F.entry_reversed_new (zmn t items) ⟨ht,hz,?_⟩
 exact⟨⟨_,Heap.get?_push_size _ rfl,rfl⟩,h⟩
theorem zfe{it t:Addr}{i:Nat}{items:Array Value}{x:Value}{Q:Option Value->Shared->Prop}(hit:IsRvd s.heap it t (i:Int))(ht:IsTup s.heap t items)(hz:(items.size:Int) < 2 ^ 63)(hx:items[i]? = some x)
  (hQ:∀h',IsRvd h' it t ((i:Int) - 1)->Heap.SameBut it s.heap h'->Q (some x) { s with heap:=h',toks:=s.toks + 1 }):wpAny (model prog w) A (pyNext (.ref it)) Q E s:=by
 obtain⟨o,ho,hc,hd⟩:=id hit
 have hi:i < items.size:=by
  rcases Nat.lt_or_ge i items.size with q | q
  ·exact q
  ·rw[Array.getElem?_eq_none q]at hx;cases hx
 have hs:seqIndex? (i:Int) items.size=some i:=by
  unfold seqIndex?
  have n0:¬(i:Int) < 0:=by omega
  simp only[n0,if_false]
  rw[if_pos (by simp;omega)]
  simp
 unfold pyNext
 refine wpAny_bind (wpAny_attempt (wpAny_callSpecial?_slot (name:=Str.ofString "__next__") hit.typeIs F.slot_rvd_next
  (wpAny_call_entry F.slot_rvd_next hit.typeIs F.entry_rvd_next ?_ (F.args_rvd_next_1 _))))
 unfold Builtin.«reversed.__next__»
 refine wpAny_bind (wpAny_of_eq (a:=(Value.ref it,[])) rfl ?_)
 try dsimp only
 refine wpAny_bind (wpAny_field ho hd (x := .ref t) rfl ?_)
 refine wpAny_bind (wpAny_field ho hd (x:=rawInt (i:Int)) rfl ?_)
 show wpAny _ _ (if (i:Int) < 0 then _ else _) _ _ s
 rw[if_neg (by omega)]
 refine wpAny_bind (wpAny_specialOf ht.typeIs slot_tuple_getitem.lookup ?_)
 rw[if_neg (by simp)]
 refine wpAny_bind (wpAny_mkInt ?_)
 refine wpAny_bind (wpAny_attempt (getItem_tuple (j:=i) ht (by omega) (by omega) hs (by simpa using hx) ?_))
 dsimp only
 refine wpAny_bind (wpAny_field ho hd (x:=rawInt (i:Int)) rfl ?_)
 show wpAny _ _ (setField (.ref it) 1 (rawInt ((i:Int) - 1)) >>= _) _ _ _
 refine wpAny_bind (wpAny_setField ho hd (by simp) ?_)
 refine wpAny_pure ⟨x,rfl,wpAny_pure (hQ _ ?_ (Heap.SameBut.update ..))⟩
 exact⟨_,Heap.get?_update_self _ ho (Obj.isFreed_of_fields (Obj.data_mapFields hd _)),(Obj.cls_mapFields ..).trans hc,by
  rw[Obj.data_mapFields hd];simp⟩
theorem zfx{it t:Addr}{Q:Option Value->Shared->Prop}(hh:A.handled=none)(hit:IsRvd s.heap it t (-1))
  (hQ:∀h',Heap.ExtBut it s.heap h'->Q none { s with heap:=h' }):wpAny (model prog w) A (pyNext (.ref it)) Q E s:=by
 obtain⟨o,ho,hc,hd⟩:=id hit
 unfold pyNext
 refine wpAny_bind (wpAny_attempt (wpAny_callSpecial?_slot (name:=Str.ofString "__next__") hit.typeIs F.slot_rvd_next
  (wpAny_call_entry F.slot_rvd_next hit.typeIs F.entry_rvd_next ?_ (F.args_rvd_next_1 _))))
 unfold Builtin.«reversed.__next__»
 refine wpAny_bind (wpAny_of_eq (a:=(Value.ref it,[])) rfl ?_)
 try dsimp only
 refine wpAny_bind (wpAny_field ho hd (x := .ref t) rfl ?_)
 refine wpAny_bind (wpAny_field ho hd (x:=rawInt (-1)) rfl ?_)
 show wpAny _ _ (if (-1:Int) < 0 then _ else _) _ _ s
 rw[if_pos (by decide)]
 refine wpAny_bind (wpAny_rule ?_)
 refine wpAny_bind ?_
 show wpAny _ _ (setField (.ref it) 1 (rawInt (-1)) >>= _) _ _ _
 refine wpAny_bind (wpAny_setField ho hd (by simp) ?_)
 have ho2:=Heap.get?_update_self (Obj.mapFields λx=>x.setIfInBounds 1 (rawInt (-1))) ho (Obj.isFreed_of_fields (Obj.data_mapFields hd _))
 refine wpAny_setField ho2 (Obj.data_mapFields hd _) (by simp) ?_
 refine wpAny_bind ?_
 show wpAny _ _ (newExc (.type "StopIteration") [] >>= _) _ _ _
 refine wpAny_bind ?_
 simp only[newExc,newTuple]
 refine wpAny_bind (wpAny_newObj_type ?_ (by size_fits))
 refine wpAny_bind (m:=firstArgMember _ _) (wpAny_of_eq (a:=Value.none) (by first | rfl | (simp only[firstArgMember];rfl)) ?_)
 refine wpAny_newObj_type ?_ (by size_fits)
 simp only[raiseNew]
 refine wpAny_bind (wpAny_handled ?_)
 first | rw[show A.in1.handled=none from hh] | rw[hh]
 refine wpAny_bind (wpAny_pure (wpAny_throw ?_))
 refine wpAny_bind (wpAny_isInstance (T:="StopIteration") (b:=true) ⟨_,Heap.get?_push_size _ rfl,rfl⟩ isSubtype_stop ?_)
 exact wpAny_pure (hQ _ λb o hb e=>Heap.get?_push_of_some _ (Heap.get?_push_of_some _ ((Heap.SameBut.update ..).extBut b o hb ((Heap.SameBut.update ..).extBut b o hb e))))
theorem zf3{it t:Addr}{i:Int}{Q:Value->Shared->Prop}(hit:IsRvd s.heap it t i)(h:Q (.ref it) s):wpAny (model prog w) A (pyIter (.ref it)) Q E s:=by
 refine wpAny_pyIter_slot hit.typeIs F.slot_rvd_iter (wpAny_call_entry F.slot_rvd_iter hit.typeIs F.entry_rvd_iter ?_ (F.args_rvd_iter_1 _))
 show wpAny _ _ (ret (.ref it)) _ _ s
 exact wpAny_pure ⟨_,rfl,"reversed",_,hit.typeIs,F.slot_rvd_next.lookup,h⟩
end
def Itv(K:W.Frag)(a:Addr)(n:Nat):It:=
 ⟨λi H=>i < n/\∃xs,SqT K H a xs/\xs.length=n,λi H x H'=>H'=H/\∀xs,SqT K H a xs->xs[n - 1 - i]? = some x,λi H=>i=n⟩
theorem zns{P:Program}{w:World}{K:W.Frag}{tg:Expr}(a it:Addr)(n:Nat):Turn P w K tg (Itv K a n) [it] it (λi h=>IsRvd h it a ((n:Int) - 1 - (i:Int))) where
 mem:=by simp
 obj:=λi h st b hb=>by
  simp only[List.mem_cons,List.not_mem_nil,or_false]at hb
  subst hb
  obtain⟨o,ho,hc,hd⟩:=st
  exact⟨o,ho,λv q=>by rw[hd]at q;cases q⟩
 keep:=λi h h' st k=>by obtain⟨o,ho,r⟩:=st;exact⟨o,k it (by simp) o ho,r⟩
 item:=by
  intro X hP hw hK hc i pins s σ H E I hf st hg
  subst hP hw hK
  obtain⟨hi,xs,hx,hn⟩:=hg
  obtain⟨its,rv,p,hz⟩:=I.tuple hx
  have hl:=rv.length
  have hlt:=line63
  have e1:(n:Int) - 1 - (i:Int)=((n - 1 - i:Nat):Int):=by omega
  rw[e1]at st
  obtain⟨x,ex⟩:∃x,xs[n - 1 - i]? = some x:=⟨xs[n - 1 - i],by simp⟩
  obtain⟨u,eu,ru⟩:=rv.get ex
  refine zfe st p (by rw[List.size_toArray];omega) (x:=u) (by simpa using eu) λh' st' sb=>⟨u,rfl,?_⟩
  obtain⟨o,ho,hcl,hd⟩:=id st'
  refine znb (s:={ s with heap:=h',toks:=s.toks + 1 }) ho hcl hd (by decide) ?_
  obtain⟨f0,f1,f2,f3,f4,f5⟩:=hf it (by simp)
  have e2:((n - 1 - i:Nat):Int) - 1=(n:Int) - 1 - ((i + 1:Nat):Int):=by omega
  rw[e2]at st'
  exact⟨x,H,I.turned (t':=s.toks + 1) (λb o hb e=>sb.extBut b o hb e) f0 f1 f3 f4 f5,ru,⟨rfl,λys hy=>by rw[I.tuple_inj hy hx];exact ex⟩,st',λb hb=>(hf b hb).1⟩
 done:=by
  intro X hP hw hK hc i pins s σ H E I hf st hg
  subst hP hw hK
  obtain rfl:i=n:=hg
  have e1:(i:Int) - 1 - (i:Int) = -1:=by omega
  rw[e1]at st
  obtain⟨f0,f1,f2,f3,f4,f5⟩:=hf it (by simp)
  exact zfx (I.ok.hd hc) st λh' eb=>⟨rfl,I.turned (t':=s.toks) (λb o hb e=>eb b o hb e) f0 f1 f3 f4 f5⟩
 self:=λ_ _ _ _ _ st h=>zf3 st h
def iRvd(K:W.Frag)(ta:TA):TI:=λσ H R=>ta σ H λvs H1=>∃a xs,vs=[.ref a]/\SqT K H1 a xs/\R (Itv K a xs.length) H1
theorem zeb:bootBuiltins "reversed" = some (.type "reversed"):=by kernel_rfl
theorem zry{X:Cx}{tg:Expr}{p pos:Pos}{e1:Expr}{ta:TA}(hg:Gl X "reversed")(hm:X.mg "reversed" = none)(ha:PA X [e1] ta)
  (he:starEach [e1] X.env=(false,eval e1 X.env) :: starEach [] X.env:=by rfl) (hpl:(backTo pos (starEach [] X.env)).any (·.1)=false:=by rfl) :
  PI X tg (.Call (.Name "reversed" p) [e1] [] pos) (iRvd X.K ta):=by
 intro pins s σ H R I h
 refine wpAny_Call_Name_kw (zdh I hg hm zeb ?_ (by decide) (by decide))
 refine PyProof.Rows.callWith_type1 (thn (ha pos pins s σ H _ I h) λus s1 ⟨vs,H1,I1,r1,a,xs,ev,hx,q⟩ => ?_) he hpl
 subst ev
 obtain⟨u,rfl,ru⟩:=r1.one
 cases ru
 obtain⟨its,rv,pt,hz⟩:=I1.tuple hx
 have hl:=rv.length
 have hlt:=line63
 refine zes pt (by rw[List.size_toArray];omega) ?_
 have hit:IsRvd (s1.heap.push { cls := .type "reversed",data := .fields #[.ref a,rawInt ((its.toArray.size:Int) - 1)] }) s1.heap.objs.size a ((xs.length:Int) - 1 - ((0:Nat):Int)):=by
  refine⟨_,Heap.get?_push_size _ rfl,rfl,?_⟩
  have e:((its.toArray.size:Nat):Int) - 1=(xs.length:Int) - 1 - ((0:Nat):Int):=by rw[List.size_toArray,hl];omega
  rw[e]
 refine zf3 hit ?_
 have I2:Inv X pins σ H1 { s1 with heap:=s1.heap.push { cls := .type "reversed",data := .fields #[.ref a,rawInt ((its.toArray.size:Int) - 1)] },toks:=s1.toks + 1 + 1 }:=I1.kept (t':=s1.toks + 1 + 1) λb o e=>Heap.get?_push_of_some _ e
 refine⟨s1.heap.objs.size,[s1.heap.objs.size],_,_,H1,rfl,I2,zns a s1.heap.objs.size xs.length,hit,λb hb => ?_,q⟩
 obtain rfl:b=s1.heap.objs.size:=by simpa using hb
 exact I1.fpOk (Nat.le_refl _) (I1.hok.fresh (Nat.le_refl _))
theorem zi3{K:W.Frag}{H1:Hp}{a:Addr}{xs:List V}(h:SqT K H1 a xs):Walk (Itv K a xs.length) H1 xs.length (λi x _=>xs[xs.length - 1 - i]? = some x):=
 ⟨λi H' e hi=>⟨hi,xs,e.seqT h,rfl⟩,λH' e=>rfl,λi H' x H2 e hi y=>by
  obtain⟨rfl,q⟩:=y
  exact⟨Same.refl _,q xs (e.seqT h)⟩⟩
theorem zcu{J:It}{n:Nat}{P:Nat->V->Hp->Prop}{mp:List (Option Nat)}{wi:TI}{g:TG}{tc:TT}{te:TE}{σ : St}{H H1:Hp}{Q:VK}(S:Walk J H1 n P)(hn:n<=1000)(hwi:∀R,R J H1->wi σ H R)(Sv:St->Prop)(p:Nat->Bool)(f:Nat->V)(h0:Sv (st0 mp σ))
  (step:∀i x σ' H2,i < n->Sv σ'->Same H1 H2->P i x H2->∀(Ny:V->St->Hp->Prop) (Nn:St->Hp->Prop),(∀σ2 H5,Sv σ2->Same H2 H5->p i=true->Ny (f i) σ2 H5)->(∀σ2 H4,Sv σ2->Same H2 H4->p i=false->Nn σ2 H4) ->
   g x σ' H2 λσ2 H3=>tc σ2 H3 λb H4=>if b=true then te σ2 H4 λv H5=>Ny v σ2 H5 else Nn σ2 H4)
  (hQ:∀D H',Same H1 H'->H' D=some (.lst (((List.range n).filter p).map f))->Q (.ref D) H'):tComp mp wi g tc te σ H Q:=by
 unfold tComp
 refine hwi _ λD hD => ?_
 exact zfl S hD (Nat.le_trans hn (by rw[sizeLine_eq];decide)) Sv p f h0 step λH' e hL=>hQ D H' e hL
end L2
namespace L2
open PySem PySem.Spec PyProof.Rows
def blk1(X:Cx)(N:List Str)(scope:Scope)(cl:List (Str×Addr))(own:Str)(C:Addr)(s:Shared)(H:Hp)(fp:List Addr):Cx:=
 { X with N:=N,s₀:=s,H₀:=H,env:=compEnvC scope ((own,C + 1) :: cl) C X.env,outer:=X.stack,ex:=fp,fn:=λx=>decide (x=own),pn:=[],xe:=λ_ _=>False }
structure Blk1(X:Cx)(N:List Str)(scope:Scope)(cl:List (Str×Addr))(own:Str)(mp:List (Option Nat)):Prop where
 clos:closureFor scope X.env=pure cl
 cf:∀n,cellsFrom n scope.names cl=(own,n) :: cl
 pc:∀h:Heap,pushCells h scope.names=h.push { cls := .type "cell",data := .cell none }
 kind:scope.kind = .function
 nms:∀y∈scope.names,y.2 = .local->scope.names.lookup y.1=some .local
 nd:N.Nodup
 sub:∀x c,cl.lookup x=some c->X.env.cells.lookup x=some c
 has:∀x,((relabel scope X.env).names.lookup x=some .cell\/(relabel scope X.env).names.lookup x=some .free)->x=own\/∃c,cl.lookup x=some c
 len:mp.length=N.length
 map:∀(i j:Nat) (x:Str),mp[i]? = some (some j)->N[i]? = some x->x≠own/\X.N[j]? = some x/\(X.env.scope.names.lookup x=some .cell\/X.env.scope.names.lookup x=some .free) /\
  ((relabel scope X.env).names.lookup x=some .cell\/(relabel scope X.env).names.lookup x=some .free)
theorem zoj{own x:Str}{n c:Addr}{cl:List (Str×Addr)}(h:((own,n) :: cl).lookup x=some c):(x=own/\c=n)\/(x≠own/\cl.lookup x=some c):=by
 rw[List.lookup_cons]at h
 cases q:(x == own) with
 | true=>rw[q]at h;exact .inl ⟨eq_of_beq q,(Option.some.inj h).symm⟩
 | false=>
  rw[q]at h
  have nz:x≠own:=λz=>by
   rw[z,beq_self_eq_true]at q
   cases q
  exact .inr ⟨nz,h⟩
theorem zpl{own:Str}{n:Addr}{cl:List (Str×Addr)}:((own,n) :: cl).lookup own=some n:=by
 rw[List.lookup_cons,beq_self_eq_true]
theorem zqo{own x:Str}{n:Addr}{cl:List (Str×Addr)}(h:x≠own):((own,n) :: cl).lookup x=cl.lookup x:=by
 rw[List.lookup_cons]
 cases q:(x == own) with
 | true=>exact absurd (eq_of_beq q) h
 | false=>rfl
section
variable{X:Cx}{pins:List (Addr×Obj)}{σ : St}{H:Hp}{s:Shared}{N:List Str}{scope:Scope}{cl:List (Str×Addr)}{own:Str}{mp:List (Option Nat)}{fp:List Addr}
end
end L2
namespace L2
open PySem PySem.Spec PyProof.Rows
def SubC(cl cells:List (Str×Addr)):Prop:=∀x c,cl.lookup x=some c->cells.lookup x=some c
theorem zcp{cells:List (Str×Addr)}:SubC [] cells:=λ_ _ h=>nomatch h
theorem zbf{cl cells:List (Str×Addr)}{a:Str}{n:Addr}(h:cells.lookup a=some n)(t:SubC cl cells):SubC ((a,n) :: cl) cells:=λx c e=>by
 rcases zoj e with⟨rfl,rfl⟩ | ⟨_,e⟩
 ·exact h
 ·exact t x c e
theorem zk5:∀{cl:List (Str×Addr)} {x:Str},x∈cl.map (·.1)->∃c,cl.lookup x=some c
 | (a,n) :: cl,x,h=>by
  by_cases q:x=a
  ·exact⟨n,by rw[q];exact zpl⟩
  ·rcases List.mem_cons.mp h with z | z
   ·exact absurd z q
   ·obtain⟨c,e⟩:=zk5 z
    exact⟨c,(zqo q).trans e⟩
theorem zgp{names:List (Str×NameKind)}{cl:List (Str×Addr)}{fs:List Str}(e:cl.map (·.1)=fs)(h:∀y∈names,y.2 = .free->y.1∈fs):∀y∈names,y.2 = .free->∃c,cl.lookup y.1=some c:=
 λy hy hf=>zk5 (by rw[e];exact h y hy hf)
def MapC(X:Cx)(scope:Scope)(mp:List (Option Nat))(N:List Str):Prop:=∀(i j:Nat) (x:Str),mp[i]? = some (some j)->N[i]? = some x->X.N[j]? = some x/\(X.env.scope.names.lookup x=some .cell\/X.env.scope.names.lookup x=some .free)/\scope.names.lookup x=some .free
theorem zco{X:Cx}{scope:Scope}{N:List Str}:MapC X scope [] N:=λi j x h=>by simp at h
theorem zb7{X:Cx}{scope:Scope}{mp:List (Option Nat)}{N:List Str}{y:Str}(t:MapC X scope mp N):MapC X scope (none :: mp) (y :: N):=λi j x h1 h2=>by
 cases i with
 | zero=>cases h1
 | succ i=>exact t i j x (by simpa using h1) (by simpa using h2)
theorem zbc{X:Cx}{scope:Scope}{mp:List (Option Nat)}{N:List Str}{y:Str}{k:Nat}(h:X.N[k]? = some y)(hc:X.env.scope.names.lookup y=some .cell\/X.env.scope.names.lookup y=some .free)(hf:scope.names.lookup y=some .free)
  (t:MapC X scope mp N):MapC X scope (some k :: mp) (y :: N):=λi j x h1 h2=>by
 cases i with
 | zero=>
  simp only[List.getElem?_cons_zero,Option.some.injEq]at h1 h2
  subst h1 h2
  exact⟨h,hc,hf⟩
 | succ i=>exact t i j x (by simpa using h1) (by simpa using h2)
theorem zkd{J:It}{n:Nat}{P:Nat->V->Hp->Prop}{mp:List (Option Nat)}{wi:TI}{g:TG}{tc:TT}{te:TE}{σ : St}{H H1:Hp}{Q:VK}(S:Walk J H1 n P)(hn:n<=1000)(hwi:∀R,R J H1->wi σ H R)(Sv:St->Prop)(p:Nat->Bool)(F:Nat->V->Hp->Prop)
  (monoS:∀i v H H',Same H H'->F i v H->F i v H') (monoU:∀i v H a ys ys',H a=some (.lst ys)->F i v H->F i v (upd H a (.lst ys'))) (h0:Sv (st0 mp σ))
  (step:∀i x σ' H2,i < n->Sv σ'->Same H1 H2->P i x H2->∀(Ny:V->St->Hp->Prop) (Nn:St->Hp->Prop),(∀v σ2 H5,Sv σ2->Same H2 H5->F i v H5->p i=true->Ny v σ2 H5)->(∀σ2 H4,Sv σ2->Same H2 H4->p i=false->Nn σ2 H4) ->
   g x σ' H2 λσ2 H3=>tc σ2 H3 λb H4=>if b=true then te σ2 H4 λv H5=>Ny v σ2 H5 else Nn σ2 H4)
  (hQ:∀D H' ys,Same H1 H'->H' D=some (.lst ys)->Paired (λi v=>F i v H') ((List.range n).filter p) ys->Q (.ref D) H'):tComp mp wi g tc te σ H Q:=by
 unfold tComp
 refine hwi _ λD hD => ?_
 exact ziq S hD (Nat.le_trans hn (by rw[sizeLine_eq];decide)) Sv p F monoS monoU h0 step λH' ys e hL hF=>hQ D H' ys e hL hF
end L2
namespace L2
open PySem PySem.Spec PyProof.Rows
structure Mk0(K:W.Frag)(C:Addr):Prop where
 makes:W.makesIn K C=true
 init:W.findIn K (.ref C) "__init__" = some (some (.builtin "object.__init__"))
 kp:W.keepIn K (.ref C)=true
def tMk0(C:Addr):TE:=λ_ H Q=>∀x dx,H x=none->H dx=none->dx≠x->Q (.ref x) (upd (upd H dx (.own x)) x (.ins C dx []))
theorem zh4{X:Cx}{C:Addr}{x:Str}{p pos:Pos}(M:Mk0 X.K C)(hm:X.mg x=some (.ref C))(hg:Gl X x:=by rfl)(hdb:(x == ("__debug__" : Str))=false:=by decide):PE X (.Call (.Name x p) [] [] pos) (tMk0 C):=by
 intro pins s σ H Q I h
 refine wpAny_Call_Name_kw (zdm I hg hm (W.callWith_K0 I.kIn M.kp ?_) hdb)
 have hq:=h (s.heap.objs.size + 1) s.heap.objs.size (I.hok.fresh (Nat.le_succ _)) (I.hok.fresh (Nat.le_refl _)) (Nat.ne_of_lt (Nat.lt_succ_self _))
 have I2:=Inv.made (C:=C) I
 refine wpAny_call (zkp I.kIn M.makes M.init (λself=>W.Looks.of_pure (W.oi_bind self)) ?_)
 have Y:=W.makes_of (M:=model X.prog X.w) I.kIn M.makes
 have e2:((s.heap.push W.emptyDict).push (W.instObj C s.heap.objs.size)).get? (s.heap.objs.size + 1)=some (W.instObj C s.heap.objs.size):=by
  have:=Heap.get?_push_size (s.heap.push W.emptyDict) (o:=W.instObj C s.heap.objs.size) rfl
  rwa [Heap.size_push]at this
 have t1:W.Looks (model X.prog X.w) ((s.heap.push W.emptyDict).push (W.instObj C s.heap.objs.size)) (typeOf (.ref (s.heap.objs.size + 1))) (.ref C):=(W.Looks.ld e2).andThen .now
 have t2:W.Looks (model X.prog X.w) ((s.heap.push W.emptyDict).push (W.instObj C s.heap.objs.size)) (isInstance (.ref (s.heap.objs.size + 1)) (.type "object")) true:=
  t1.andThen (Y.top.keeps λb o e=>Heap.get?_push_of_some _ (Heap.get?_push_of_some _ e))
 refine codeAny_call_builtin W.oi_plain W.entry_oi (@W.check_slot (model X.prog X.w) _ _ _ "object.__init__" "object" "__init__" (.ref (s.heap.objs.size + 1)) [] [] _ W.oi_kind W.oi_split t2 (W.oi_args (.ref (s.heap.objs.size + 1))) ?_)
 rw[W.oi_run]
 exact wpAny_pure (And.intro rfl ⟨.ref (s.heap.objs.size + 1),_,I2,rfl,hq⟩)
end L2
namespace L2
open PySem PySem.Spec PyProof.Rows
abbrev yes2:Int->Int->Bool:=λ_ _=>true
theorem zmf(φ : Int->Int->Int)(xs ys:List Int):zipV yes2 (λx y => .int (φ x y)) xs ys=(List.zipWith φ xs ys).map V.int:=by
 unfold zipV
 rw[List.filter_eq_self.mpr (λ_ _=>rfl)]
 refine List.ext_getElem? λi => ?_
 rw[List.getElem?_map,List.getElem?_map,List.getElem?_zipWith]
 by_cases h:i < min xs.length ys.length
 ·have h1:i < xs.length:=by omega
  have h2:i < ys.length:=by omega
  rw[List.getElem?_range h,List.getElem?_eq_getElem h1,List.getElem?_eq_getElem h2]
  simp[List.getD,h1,h2]
 ·rw[List.getElem?_eq_none (by simpa using h)]
  rcases Nat.lt_or_ge i xs.length with q | q
  ·rw[List.getElem?_eq_none (l:=ys) (by omega)]
   cases xs[i]? <;> rfl
  ·rw[List.getElem?_eq_none (l:=xs) q];rfl
theorem zjh(xs:List Int)(f:Int->Int):(List.range xs.length).map (λi=>f (xs.getD (xs.length - 1 - i) 0))=xs.reverse.map f:=by
 refine List.ext_getElem? λi => ?_
 rw[List.getElem?_map,List.getElem?_map]
 by_cases h:i < xs.length
 ·rw[List.getElem?_range h,List.getElem?_reverse h,List.getElem?_eq_getElem (show xs.length - 1 - i < xs.length by omega)]
  simp[List.getD,show xs.length - 1 - i < xs.length by omega]
 ·rw[List.getElem?_eq_none (by simpa using h),List.getElem?_eq_none (by rw[List.length_reverse];omega)];rfl
end L2
namespace L2
open PySem PySem.Spec PyProof.Rows
theorem zld{X:Cx}{pins:List (Addr×Obj)}{σ0 σ : St}{H0 H':Hp}{s0 s':Shared}{C:Addr}{i:Nat}{x:Str}{pos':Pos}{v:V}{u:Value}{Nx:St->Hp->Prop}(I0:Inv X pins σ0 H0 s0)(hC:s0.heap.objs.size<=C)(I:Inv X pins σ H' s')(hn:H' C=none)
  (hns:∃m,s'.heap.Ns C m) (hg:PG X (.Name x pos') (gName i)) (r:RelV v u) (q:Nx (σ.set i (some v)) H') :
  wpAny (model X.prog X.w) X.A (assign (.Name x pos') X.env u) (λ_ s''=>∃m,s''.heap.Ns C m/\∀h',Heap.SameBut C s''.heap h'->∃σ2 H2,Inv X pins σ2 H2 { s'' with heap:=h' }/\Nx σ2 H2) X.xe s':=by
 obtain⟨m,o,es,ep,ho,hd,rest⟩:=hns
 have fp:FpOk X pins H' C:=I0.fpOk hC hn
 have I1:=I.pinned (fp:=[C]) (λb hb=>by
  obtain rfl:b=C:=by simpa using hb
  exact fp) (λb hb=>by
  obtain rfl:b=C:=by simpa using hb
  exact⟨o,ho,λv z=>by rw[hd]at z;cases z⟩)
 refine thn (hg _ _ _ _ _ _ Nx I1 r q) λ_ s2 ⟨σ2,H2,I2,q2⟩ => ?_
 have pn:=I2.pin (C,o) (List.mem_append_right _ (List.mem_append_right _ (zda (by simp) ho)))
 refine⟨m,⟨o,es,ep,pn.1,hd,rest⟩,λh' sb=>⟨σ2,H2,?_,q2⟩⟩
 obtain⟨f0,f1,f2,f3,f4,f5⟩:=fp
 exact I2.unpinned.turned (t':=s2.toks) (λb ob hb e=>sb.extBut b ob hb e) pn.2.1 f1 f3 f4 f5
theorem zf9{X:Cx}{N:List Str}{scope:Scope}{cl:List (Str×Addr)}{mp:List (Option Nat)}{elt tg iter:Expr}{ifs:List Expr}{wi:TI}{g:TG}{tc:TT}{te:TE}{pos pos' posA:Pos}{i:Nat}{x:Str}(hn:PG X (.Name x pos') (gName i))(B:Blk X N scope cl mp)(hc:X.calm=true)
  (hi:PI X tg iter wi) (hg:∀C s H fp,PG (blk X N scope cl C s H fp) tg g) (ht:∀C s H fp,PTs (blk X N scope cl C s H fp) ifs tc) (he:∀C s H fp,PE (blk X N scope cl C s H fp) elt te)
  (hs:∀x,foldedSetIterable iter X.env x=pure x:=by intro _;rfl) (hsw:swapsWith (.ListComp elt [⟨tg,iter,ifs,0⟩] scope pos) (some (.Name x pos')) posA.line X.env=pure true:=by rfl) :
  PS X (.Assign [.Name x pos'] (.ListComp elt [⟨tg,iter,ifs,0⟩] scope pos) posA) (tAsg (tComp mp wi g tc te) (gName i)):=by
 intro pins s σ H Dn I h
 unfold tAsg tComp at h
 rw[exec_Assign_Name_used _ _ _ _ hsw]
 refine wpAny_bind (wpAny_standAt (wpAny_bind ?_))
 show wpAny _ _ (comprehension (.ListComp elt [⟨tg,iter,ifs,0⟩] scope pos) scope X.env _ (newList []) false (eval iter X.env) (some (assign (.Name x pos') X.env)) >>= _) _ _ _
 refine wpAny_bind (wpAny_comprehension_free (use:=some (assign (.Name x pos') X.env)) (cl:=cl) rfl hs B.clos B.kind B.nms (thn (hi pins s σ H _ I h) λv s1 h1=>thn h1 λitv s2 h2 => ?_))
 obtain⟨it,fp,tn,J,H2,rfl,I2,T,st2,f2,q⟩:=h2
 have lt2:∀b∈fp,b < s2.heap.objs.size:=λb hb=>let ⟨o,e,_⟩:=T.obj _ _ st2 b hb;Heap.lt_size e
 obtain⟨W,⟨m0,w0⟩,turn⟩:=q _ I2.fresh
 have ID:=I2.lnew (ys:=[]) (its:=[]) (t':=s2.toks) .nil (Nat.zero_le _)
 have fD':∀b∈fp,FpOk X pins (upd H2 s2.heap.objs.size (.lst [])) b:=λb hb=>by
  obtain⟨f0,r⟩:=f2 b hb
  exact⟨by rw[zao (Nat.ne_of_lt (lt2 b hb))];exact f0,r⟩
 refine wpAny_newObj_type (zf6 B hc hg ht he ID fD' T (T.keep _ _ _ st2 λb _ o e=>Heap.get?_push_of_some _ e) w0 turn λC H' σ' s' hC J' qf => ?_)
 have hns:∃m,s'.heap.Ns C m:=let ⟨m,hm,_⟩:=J'.loc;⟨m,hm⟩
 have I3:Inv X pins σ H' { s' with heap:=s'.heap }:=zlk ID fD' hC J' (Heap.SameBut.refl _ _)
 exact thn (zld (v := .ref s2.heap.objs.size) ID hC I3 J'.free hns hn rfl qf) λ_ s4 ⟨m,hm,q4⟩=>⟨m,hm,λh' sb=>wpAny_pure (wpAny_pure (q4 h' sb))⟩
end L2
namespace L2
open PySem PySem.Spec PyProof.Rows
def rTupleOf(K:W.Frag):List V->Hp->VK->Prop:=λxs H Q=>∃p ys,xs=[.ref p]/\((SqL K H p ys/\∀l,H l=none->Q (.ref l) (upd H l (.tup ys)))\/(SqT K H p ys/\Q (.ref p) H))
def rListOf(K:W.Frag):List V->Hp->VK->Prop:=λxs H Q=>∃p ys,xs=[.ref p]/\(SqL K H p ys\/SqT K H p ys)/\∀l,H l=none->Q (.ref l) (upd H l (.lst ys))
def rLenSeq(K:W.Frag):List V->Hp->VK->Prop:=λxs H Q=>∃p ys,xs=[.ref p]/\(SqL K H p ys\/SqT K H p ys)/\Q (.int ys.length) H
def rSumX(K:W.Frag)(b:Bool):List V->Hp->VK->Prop:=λxs H Q=>∃(a:Addr) (ns:List Int),xs=[.ref a]/\SqX K b H a (ns.map V.int)/\Q (.int ns.sum) H
def rAllB(K:W.Frag):List V->Hp->VK->Prop:=λxs H Q=>∃(a:Addr) (bs:List Bool),xs=[.ref a]/\SqL K H a (bs.map V.bl)/\Q (.bl (bs.all id)) H
def rAnyB(K:W.Frag):List V->Hp->VK->Prop:=λxs H Q=>∃(a:Addr) (bs:List Bool),xs=[.ref a]/\SqL K H a (bs.map V.bl)/\Q (.bl (bs.any id)) H
def rIsInst(K:W.Frag):List V->Hp->VK->Prop:=λxs H Q=>∃x y t c b,xs=[x,y]/\clV y=some c/\TyOf K H x t/\W.kitOne K t c=some b/\Q (.bl b) H
section
variable{X:Cx}{K:W.Frag}
theorem zbb(hK:X.K=K):CallR X (.type "tuple") (rTupleOf K):=by subst hK;exact zg1
theorem zkc(hK:X.K=K):CallR X (.type "list") (rListOf K):=by subst hK;exact zho
theorem zen(hK:X.K=K):CallR X (.builtin "len") (rLenSeq K):=by subst hK;exact zhu
theorem zdd(hK:X.K=K)(b:Bool)(hc:X.calm=true):CallR X (.builtin "sum") (rSumX K b):=by subst hK;exact zlp b hc
theorem zfq(hK:X.K=K)(hc:X.calm=true):CallR X (.builtin "all") (rAllB K):=by subst hK;exact zl4 hc
theorem zfc(hK:X.K=K)(hc:X.calm=true):CallR X (.builtin "any") (rAnyB K):=by subst hK;exact zks hc
theorem zc1(hK:X.K=K):CallR X (.builtin "isinstance") (rIsInst K):=by subst hK;exact zh9
theorem zdp{e:Expr}{f:Str}{pos:Pos}{ta:TE}(hK:X.K=K)(he:PE X e ta)(hb:attributeBase e f X.env (eval e X.env)=eval e X.env):PE X (.Attribute e f pos) (tFld K ta f):=by subst hK;exact zsb he hb
theorem zbr{tg l:Expr}{tl:TE}(hK:X.K=K)(hl:PE X l tl):PI X tg l (iList K tl):=by subst hK;exact zq9 hl
theorem zpg{tg l:Expr}{tl:TE}(hK:X.K=K)(hl:PE X l tl):PI X tg l (iTup K tl):=by subst hK;exact zsd hl
theorem zfk{es:List Expr}{ek:Nat}{tpos p pos:Pos}(hK:X.K=K)(b1 b2:Bool){e1 e2:Expr}{ta:TA}(hg:Gl X "zip")(hm:X.mg "zip" = none)(ha:PA X [e1,e2] ta)
  (he:starEach [e1,e2] X.env=(false,eval e1 X.env) :: starEach [e2] X.env:=by rfl) (hpl:(backTo pos (starEach [e2] X.env)).any (·.1)=false:=by rfl) :
  PI X (.Tuple es ek tpos) (.Call (.Name "zip" p) [e1,e2] [] pos) (iZip K b1 b2 ta):=by subst hK;exact zr6 b1 b2 hg hm ha he hpl
theorem zlr{tg:Expr}{p pos:Pos}{e1:Expr}{ta:TA}(hK:X.K=K)(hg:Gl X "reversed")(hm:X.mg "reversed" = none)(ha:PA X [e1] ta)
  (he:starEach [e1] X.env=(false,eval e1 X.env) :: starEach [] X.env:=by rfl) (hpl:(backTo pos (starEach [] X.env)).any (·.1)=false:=by rfl) :
  PI X tg (.Call (.Name "reversed" p) [e1] [] pos) (iRvd K ta):=by subst hK;exact zry hg hm ha he hpl
theorem zgt(hK:X.K=K):SlR X (rSlL K):=by subst hK;exact zq6
end
end L2
set_option Elab.async false
set_option linter.all false
set_option maxRecDepth 100000
namespace L2
open PySem PySem.Spec PyProof.Rows
structure BMeth(K:W.Frag)(m:Str)(f:Addr):Prop where
 get:W.specialIn K (.ref f) "__get__" = some (some (.builtin "function.__get__"))
 tk:W.takesIn K (.ref f)=some false
 cp:W.copiedNames.contains m=false
theorem zh5{K:W.Frag}{C f:Addr}{name:Str}{od:Obj}{g:Value}(hh:W.hasDictIn K C=true)(ha:W.findIn K (.ref C) name=some (some (.ref f)))(hg:W.specialIn K (.ref f) "__get__" = some (some g))
  (ht:W.takesIn K (.ref f)=some false) (hc:W.copiedNames.contains name=false) (hl:W.lookIn name od=some none):W.findObj K C (some od) name=some (.bind g (.ref f)):=by
 obtain⟨cd,hc',hd⟩:=W.any_some hh
 unfold W.findObj
 have ho:W.ownOf cd (some od) name=some none:=by unfold W.ownOf;rw[if_pos hd];exact hl
 rw[hc',Option.bind_some,ha,Option.bind_some]
 simp only[hg,ht,Option.bind_some,ho,hc,Bool.false_and,Bool.false_eq_true,if_false]
section
variable{X:Cx}{pins:List (Addr×Obj)}{σ : St}{H:Hp}{s:Shared}{a C dx:Addr}{fs:List (Str×V)}{m:Str}{f:Addr}{A:Around}{E:Value->Shared->Prop}
theorem zhv{b:Bool}{Q:Value->Shared->Prop}(I:Inv X pins σ H s)(e:H a=some (.ins C dx fs))(c:Cls X.K C)(k:Meth X.K C m f)(kb:BMeth X.K m f)(l:fs.lookup m=none)
  (h:Q (.ref s.heap.objs.size) { s with heap:=s.heap.push (W.methodObj (.ref f) (.ref a)),toks:=s.toks + 1 }):wpAny (model X.prog X.w) A (getAttr (.ref a) m b) Q E s:=by
 obtain⟨mA,O,r,_,_,_⟩:=zfs I.hok e
 have hn:mA m=none:=RelO.none_of (by rw[<- l];exact r m)
 obtain⟨od,J,hl⟩:=O.look
 refine W.get_bind I.kIn J (W.plainGet_of (c.get m)).1 (zh5 c.hd k.at_ kb.get kb.tk kb.cp (by rw[hl,hn])) (W.plainGet_of (c.get m)).2 ?_
 exact wpAny_call (W.fn_get (s:={ s with toks:=s.toks + 1 }) I.kIn (beq_iff_eq.mp k.fn) (W.handed_on rfl h))
theorem Inv.repin{pa pb:List (Addr×Obj)}{b:Addr}{o o':Obj}{t':Nat}{h':Heap}{H₁:Hp}(I:Inv X (pa ++ (b,o) :: pb) σ H s)(f:FpOk X (pa ++ pb) H₁ b)(k:∀c u,c≠b->s.heap.get? c=some u->h'.get? c=some u)
  (e:h'.get? b=some o') (hc:∀v,o'.data≠.cell v):Inv X (pa ++ (b,o') :: pb) σ H { s with heap:=h',toks:=t' }:=by
 have pb':=I.pin (b,o) (List.mem_append_right _ (List.mem_append_right _ (.head _)))
 have I1:Inv X (pa ++ pb) σ H s:=I.pins_of λp hp=>I.pin p (List.mem_append_right _ ((List.mem_append.mp hp).elim (λz=>List.mem_append_left _ z) λz=>List.mem_append_right _ (.tail _ z)))
 have I2:=I1.turned (t':=t') (h':=h') (it:=b) k pb'.2.1 f.2.1 f.2.2.2.1 f.2.2.2.2.1 f.2.2.2.2.2
 refine I2.pins_of λp hp => ?_
 rcases List.mem_append.mp hp with z | z
 ·exact I2.pin p (List.mem_append_right _ (List.mem_append_left _ z))
 ·rcases List.mem_cons.mp z with rfl | z
  ·exact⟨e,pb'.2.1,f.2.1,f.2.2.1,hc⟩
  ·exact I2.pin p (List.mem_append_right _ (List.mem_append_right _ z))
theorem FpOk.more{pa:List (Addr×Obj)}{b:Addr}(f:FpOk X pins H b)(h:∀p∈pa,p.1≠b):FpOk X (pa ++ pins) H b:=by
 refine⟨f.1,f.2.1,f.2.2.1,f.2.2.2.1,f.2.2.2.2.1,λp hp => ?_⟩
 rcases List.mem_append.mp hp with z | z
 ·exact f.2.2.2.2.2 p (List.mem_append_left _ z)
 ·rcases List.mem_append.mp z with z | z
  ·exact h p z
  ·exact f.2.2.2.2.2 p (List.mem_append_right _ z)
end
def BRun(X:Cx)(q f a:Addr)(sp:V->Hp->VK->Prop):Prop:=∀(pins:List (Addr×Obj)) (s:Shared) (σ : St) (H:Hp) (Q:VK) (x:V) (u:Value),Inv X pins σ H s->(q,W.methodObj (.ref f) (.ref a))∈pins->RelV x u->sp x H Q ->
 wpAny (model X.prog X.w) X.A.in1 (call (.ref q) [u]) (EP X pins σ Q) (λ_ _=>False) s
theorem zqb{X:Cx}{k:Nat}{f:Addr}{fd:FuncData}{ps:List Str}{sp:Sp}{dvs:List V}{ds:List Value}{q a:Addr}(F:FnOk X.prog X.w X.K X.mg X.base CX0 k f fd ps sp)(hr:Room (k + 1) X.A)(hb:Binds X.K fd ps ds)(hd:Vals dvs ds) :
  BRun X q f a λx H Q=>sp (.ref a :: x :: dvs) H Q E0:=by
 intro pins s σ H Q x u I hq rx h
 have r2:Vals (.ref a :: x :: dvs) ([.ref a,u] ++ ds) := .cons rfl (.cons rx hd)
 have hl:([.ref a,u] ++ ds).length=ps.length:=by rw[<- r2.length];exact F.len _ _ _ _ h
 have ho:=(I.pin _ (List.mem_append_right _ hq)).1
 refine wpAny_call (W.method_call ho ?_)
 refine codeAny_mono (F.run X.A.in1 X.stack s H ⟨[.ref a,u],[]⟩ ([.ref a,u] ++ ds) (.ref a :: x :: dvs) Q E0 hr.in1 I.env0.in1 (hb s [.ref a,u] I.kIn hl) r2 h) λr s' hq => ?_
 match r,hq with
 | .error e,hq=>exact False.elim hq
 | .ok (.ret u),hq=>exact I.after hq
 | .ok .next,hq=>exact False.elim hq
 | .ok .brk,hq=>exact False.elim hq
 | .ok .cont,hq=>exact False.elim hq
def mxGo(K:W.Frag)(l:Addr)(all:List V)(sp:V->Hp->VK->Prop):List V->V->V->Hp->VK->Prop
 | [],b,_,H,Q=>Q b H
 | x :: xs,b,kb,H,Q=>sp x H λk H1=>H1 l=some (.lst all)/\∃(a c:Addr) (ns ms:List Int),k = .ref a/\kb = .ref c/\SqT K H1 a (ns.map V.int)/\SqT K H1 c (ms.map V.int) /\
  (HT.lexLt ms ns=true->mxGo K l all sp xs x k H1 Q)/\(HT.lexLt ms ns=false->mxGo K l all sp xs b kb H1 Q)
def mxAll(K:W.Frag)(l:Addr)(all:List V)(sp:V->Hp->VK->Prop):List V->Hp->VK->Prop
 | [],_,_=>False
 | x :: xs,H,Q=>sp x H λk H1=>H1 l=some (.lst all)/\mxGo K l all sp xs x k H1 Q
section
variable{X:Cx}{pins:List (Addr×Obj)}{σ : St}{l q It S f a:Addr}{all:List V}{sp:V->Hp->VK->Prop}{Q:VK}{H₁:Hp}
theorem zov{xs:List V}{us:List Value}(r:Vals xs us):∀{i:Nat} {x:V},xs[i]? = some x->∃u,us[i]? = some u/\RelV x u:=by
 induction r with
 | nil=>intro i x h;simp at h
 | cons r1 _ ih=>
  intro i x h
  cases i with
  | zero=>simp at h;subst h;exact⟨_,rfl,r1⟩
  | succ i=>simp at h;obtain⟨u,e,z⟩:=ih h;exact⟨u,by simpa using e,z⟩
theorem zr3(hh:X.A.handled=none)(hu:X.A.units + 1 < cLine)(B:BRun X q f a sp)(hlI:l≠It)(hSI:S≠It)(hqI:q≠It)(hqS:q≠S)(fI:FpOk X pins H₁ It)(fS:FpOk X pins H₁ S) :
  ∀(rest:List V) (j:Nat) (b kb:V) (ub ukb:Value) (c:Nat) (oI:Obj) (H:Hp) (s:Shared),all.drop (j + 1)=rest->mxGo X.K l all sp rest b kb H Q->H l=some (.lst all) ->
   Inv X ((It,oI) :: (S,seqObj "list" #[ub,ukb] c) :: (q,W.methodObj (.ref f) (.ref a)) :: pins) σ H s->s.heap.IsListIter It l (j + 1)->RelV b ub->RelV kb ukb ->
   codeAny (model X.prog X.w) X.A (.builtin "max.loop" ⟨[.ref It,.ref q,.ref S],[]⟩) (λr s'=>match r with | .ok (.ret v)=>EP X pins σ Q v s' | .ok _=>False | .error e=>X.xe e s') s:=by
 have hname:(toString "max" ++ toString ".loop" : String) = "max.loop":=by decide
 intro rest
 induction rest with
 | nil=>
  intro j b kb ub ukb c oI H s hdrop hgo hH I hit rb rkb
  have hlen:all.length<=j + 1:=List.drop_eq_nil_iff.mp hdrop
  obtain⟨its,n,rv,hl,_⟩:=I.lst hH
  have hls:s.heap.IsList l its.toArray:=⟨_,hl,rfl,n,rfl⟩
  have nS:=I.pin (S,seqObj "list" #[ub,ukb] c) (List.mem_append_right _ (.tail _ (.head _)))
  refine codeAny_builtin PySem.F.entry_max_loop ?_
  rw[Around.under_plainId PySem.F.plain_max_loop _]
  show wpAny _ X.A.in1 (seqItems? (.ref S) >>= _) _ _ _
  refine wpAny_bind (wpAny_seqItems nS.1 rfl ?_)
  show wpAny _ X.A.in1 (tryCatch (pyNext (.ref It)) _ >>= _) _ _ _
  refine wpAny_bind (wpAny_tryCatch (wpAny_pyNext_list_end (A:=X.A.in1) hh hit hls (by rw[List.getElem?_toArray,List.getElem?_eq_none];rw[<- rv.length];exact hlen) λh' he' => ?_))
  have pI:=I.pin (It,oI) (List.mem_append_right _ (.head _))
  have I1:Inv X ((S,seqObj "list" #[ub,ukb] c) :: (q,W.methodObj (.ref f) (.ref a)) :: pins) σ H s:=I.pins_of λp hp=>I.pin p (List.mem_append_right _ (.tail _ hp))
  have fI':=fI.more (pa:=[(S,seqObj "list" #[ub,ukb] c),(q,W.methodObj (.ref f) (.ref a))]) (by simp[hSI,hqI])
  have I2:=I1.turned (t':=s.toks) (h':=h') (it:=It) (λb' o hb e=>he' b' o hb e) pI.2.1 fI'.2.1 fI'.2.2.2.1 fI'.2.2.2.2.1 fI'.2.2.2.2.2
  have nS2:=I2.pin (S,seqObj "list" #[ub,ukb] c) (List.mem_append_right _ (.head _))
  show wpAny _ X.A.in1 (updateSeq S (λ_ => #[]) >>= _) _ _ _
  refine wpAny_bind ?_
  refine wpAny_updateSeq nS2.1 rfl (wpAny_bind (wpAny_letGo (wpAny_pure ?_)))
  have fS':=fS.more (pa:=[(q,W.methodObj (.ref f) (.ref a))]) (by simp[hqS])
  have I3:Inv X ((q,W.methodObj (.ref f) (.ref a)) :: pins) σ H { s with heap:=h' }:=I2.pins_of λp hp=>I2.pin p (List.mem_append_right _ (.tail _ hp))
  have sb:=Heap.SameBut.update h' S (Obj.mapSeq λ_=>(#[]:Array Value))
  have I4:=I3.turned (t':=s.toks) (h':=h'.update S (Obj.mapSeq λ_ => #[])) (it:=S) (λb' o hb e=>(sb.2 b' hb).trans e) nS2.2.1 fS'.2.1 fS'.2.2.2.1 fS'.2.2.2.2.1 fS'.2.2.2.2.2
  exact⟨b,H,I4.pins_of λp hp=>I4.pin p (List.mem_append_right _ (.tail _ hp)),rb,hgo⟩
 | cons x xs ih=>
  intro j b kb ub ukb c oI H s hdrop hgo hH I hit rb rkb
  have hx:all[j + 1]? = some x:=by rw[<- List.head?_drop,hdrop];rfl
  have hdrop':all.drop (j + 1 + 1)=xs:=by rw[<- List.tail_drop,hdrop];rfl
  obtain⟨its,n,rv,hl,_⟩:=I.lst hH
  have hls:s.heap.IsList l its.toArray:=⟨_,hl,rfl,n,rfl⟩
  obtain⟨u,hu',ru⟩:=zov rv hx
  have nS:=I.pin (S,seqObj "list" #[ub,ukb] c) (List.mem_append_right _ (.tail _ (.head _)))
  refine codeAny_builtin PySem.F.entry_max_loop ?_
  rw[Around.under_plainId PySem.F.plain_max_loop _]
  show wpAny _ X.A.in1 (seqItems? (.ref S) >>= _) _ _ _
  refine wpAny_bind (wpAny_seqItems nS.1 rfl ?_)
  show wpAny _ X.A.in1 (tryCatch (pyNext (.ref It)) _ >>= _) _ _ _
  refine wpAny_bind (wpAny_tryCatch (wpAny_pyNext_list_item hit hls (x:=u) (by rw[List.getElem?_toArray];exact hu') λh' hit' hs' => ?_))
  obtain⟨oI',hoI',hoc,hod⟩:=id hit'
  have fI':=fI.more (pa:=[(S,seqObj "list" #[ub,ukb] c),(q,W.methodObj (.ref f) (.ref a))]) (by simp[hSI,hqI])
  have I1:Inv X ((It,oI') :: (S,seqObj "list" #[ub,ukb] c) :: (q,W.methodObj (.ref f) (.ref a)) :: pins) σ H { s with heap:=h' }:=
   Inv.repin (pa:=[]) (t':=s.toks) I fI' (λb' o hb e=>(hs'.2 b' hb).trans e) hoI' (by intro v z;rw[hod]at z;cases z)
  show wpAny _ X.A.in1 (tryCatch (holding [u] (call (.ref q) [u])) _ >>= _) _ _ _
  refine wpAny_bind (wpAny_tryCatch (wpAny_holding (wpAny_mono (B _ _ σ H _ x u I1 (.tail _ (.tail _ (.head _))) ru hgo) (λuk s2 he => ?_) λ_ _ hF=>hF.elim)))
  obtain⟨k,H1,I2,rk,hH1,a',c',ns,ms,rfl,rfl,ha',hc',h1,h2⟩:=he
  obtain rfl:uk=Value.ref a':=rk
  obtain rfl:ukb=Value.ref c':=rkb
  obtain⟨it1,r1,p1,_⟩:=I2.tuple ha'
  obtain⟨it2,r2,p2,_⟩:=I2.tuple hc'
  have i1:IntsAre it1.toArray.toList ns:=zct r1
  have i2:IntsAre it2.toArray.toList ms:=zct r2
  have nS2:=I2.pin (S,seqObj "list" #[ub,.ref c'] c) (List.mem_append_right _ (.tail _ (.head _)))
  have nI2:=I2.pin (It,oI') (List.mem_append_right _ (.head _))
  have hit2:s2.heap.IsListIter It l (j + 1 + 1):=⟨oI',nI2.1,hoc,hod⟩
  show wpAny _ X.A.in1 (tryCatch (holding [u,.ref a'] (richCompare .Gt (.ref a') (.ref c') >>= _)) _ >>= _) _ _ _
  refine wpAny_bind (wpAny_tryCatch (wpAny_holding (wpAny_bind (HT.gt_tupInts (A:=X.A.in1) p1 p2 i1 i2 hu ?_))))
  refine wpAny_bind (wpAny_holding (wpAny_truthy_bool ?_))
  refine wpAny_bind (wpAny_letGo (wpAny_pure ?_))
  cases hb:HT.lexLt ms ns with
  | true=>
   have sb:=Heap.SameBut.update s2.heap S (Obj.mapSeq λ_ => #[u,.ref a'])
   obtain⟨c2,hc2⟩:∃c2,(s2.heap.update S (Obj.mapSeq λ_ => #[u,.ref a'])).get? S=some (seqObj "list" #[u,.ref a'] c2):=⟨_,get?_update_seq nS2.1 λ_ => #[u,.ref a']⟩
   simp only[if_true]
   refine wpAny_bind ?_
   refine wpAny_updateSeq nS2.1 rfl (wpAny_bind (wpAny_letGo ?_))
   rw[hname]
   have fS':FpOk X ((It,oI') :: (q,W.methodObj (.ref f) (.ref a)) :: pins) H₁ S:=fS.more (pa:=[(It,oI'),(q,W.methodObj (.ref f) (.ref a))]) (by simp[hSI.symm,hqS])
   have I3:Inv X ((It,oI') :: (S,seqObj "list" #[u,.ref a'] c2) :: (q,W.methodObj (.ref f) (.ref a)) :: pins) σ H1 { s2 with heap:=s2.heap.update S (Obj.mapSeq λ_ => #[u,.ref a']) }:=
    Inv.repin (pa:=[(It,oI')]) (t':=s2.toks) I2 fS' (λb' o hb' e=>(sb.2 b' hb').trans e) hc2 (by intro v z;cases z)
   exact wpAny_pure ⟨plainId_quiet PySem.F.plain_max_loop _,ih (j + 1) x (.ref a') u (.ref a') c2 oI' H1 _ hdrop' (h1 hb) hH1 I3 ⟨oI',(sb.2 It hSI.symm).trans nI2.1,hoc,hod⟩ ru rfl⟩
  | false=>
   simp only[Bool.false_eq_true,if_false]
   refine wpAny_bind (wpAny_letGo ?_)
   rw[hname]
   exact wpAny_pure ⟨plainId_quiet PySem.F.plain_max_loop _,ih (j + 1) b (.ref c') ub (.ref c') c oI' H1 _ hdrop' (h2 hb) hH1 I2 hit2 rb rfl⟩
end
end L2
namespace L2
open PySem PySem.Spec PyProof.Rows
structure BM(K:W.Frag)(C:Addr)(m:Str):Prop where
 ex:∃f,W.findIn K (.ref C) m=some (some (.ref f))/\BMeth K m f
def tMaxK(K:W.Frag)(C:Addr)(m:Str)(sp:Sp)(dvs:List V)(te ta:TE):TE:=λσ H Q=>te σ H λv H1=>ta σ H1 λo H2=>∃(a dx:Addr) (fs:List (Str×V)) (l:Addr) (all:List V),o = .ref a/\H2 a=some (.ins C dx fs)/\fs.lookup m=none /\
 v = .ref l/\H2 l=some (.lst all)/\mxAll K l all (λx H Q=>sp (.ref a :: x :: dvs) H Q E0) all H2 Q
section
variable{X:Cx}{k j:Nat}{C:Addr}{ps:List Str}{sp:Sp}{dvs:List V}{ds:List Value}{m:Str}{p pos apos kpos:Pos}{e o:Expr}{te ta:TE}
theorem Inv.pinNew{pins:List (Addr×Obj)}{σ : St}{H:Hp}{s:Shared}{ob:Obj}{t':Nat}(I:Inv X pins σ H s)(hf:ob.isFreed=false)(hc:∀v,ob.data≠.cell v):Inv X ((s.heap.objs.size,ob) :: pins) σ H { s with heap:=s.heap.push ob,toks:=t' }:=by
 have I1:Inv X pins σ H { s with heap:=s.heap.push ob,toks:=t' }:=I.kept λb u e=>Heap.get?_push_of_some _ e
 refine I1.pins_of λq hq => ?_
 rcases List.mem_cons.mp hq with rfl | hq
 ·exact⟨Heap.get?_push_size _ hf,I.hok.fresh (Nat.le_refl _),Nat.ne_of_gt I.lt,I.nofs (Nat.le_refl _),hc⟩
 ·exact I1.pin q (List.mem_append_right _ hq)
theorem zpa{pins:List (Addr×Obj)}{σ : St}{H:Hp}{s:Shared}{q f a l:Addr}{all:List V}{sp:V->Hp->VK->Prop}{Q:VK}(hr:Room j X.A)(B:BRun X q f a sp)(I:Inv X ((q,W.methodObj (.ref f) (.ref a)) :: pins) σ H s)
  (hH:H l=some (.lst all)) (h:mxAll X.K l all sp all H Q):wpAny (model X.prog X.w) X.A (call (.builtin "max") [.ref l] [(Str.ofString "key",.ref q)]) (EP X pins σ Q) X.xe s:=by
 have hname:(toString "max" ++ toString ".loop" : String) = "max.loop":=by decide
 have hh:X.A.handled=none:=hr.hd
 have hu:X.A.units + 1 < cLine:=by have:=hr.un;omega
 cases all with
 | nil=>exact False.elim h
 | cons x xs=>
  obtain⟨its,n,rv,hl,_⟩:=I.lst hH
  have hls:s.heap.IsList l its.toArray:=⟨_,hl,rfl,n,rfl⟩
  have hll:l < s.heap.objs.size:=Heap.lt_size hl
  refine kmk_tree PySem.F.kind_max PySem.F.plain_max PySem.F.entry_max (kmk_max_key _ _) ?_
  show wpAny _ X.A.in1 (Builtin.Builtins.bindParams "max" ["key","default"] 0 ⟨[],[(Str.ofString "key",.ref q)]⟩ >>= _) _ _ s
  refine wpAny_bind (wpAny_of_eq (show Builtin.Builtins.bindParams "max" ["key","default"] 0 ⟨[],[(Str.ofString "key",.ref q)]⟩=pure [some (.ref q),none] from rfl) ?_)
  refine wpAny_bind (wpAny_pure ?_)
  refine wpAny_bind (wpAny_pyIter_list hls ?_)
  refine wpAny_bind (wpAny_newList ?_ (Nat.zero_le _))
  rw[hname]
  have hS:(s.heap.push { cls := .type "list_iterator",data := .fields #[.ref l,.int 0 0] }).objs.size=s.heap.objs.size + 1:=size_push' ..
  have nq:=I.pin (q,W.methodObj (.ref f) (.ref a)) (List.mem_append_right _ (.head _))
  have hqz:q < s.heap.objs.size:=Heap.lt_size nq.1
  have I0:Inv X pins σ H s:=I.pins_of λp hp=>I.pin p (List.mem_append_right _ (.tail _ hp))
  have Ia:Inv X ((s.heap.objs.size,{ cls := .type "list_iterator",data := .fields #[.ref l,.int 0 0] }) :: (q,W.methodObj (.ref f) (.ref a)) :: pins) σ H { s with heap:=s.heap.push { cls := .type "list_iterator",data := .fields #[.ref l,.int 0 0] } }:=I.pinNew (t':=s.toks) rfl (by intro v z;cases z)
  have Ib:=Ia.pinNew (t':=s.toks) (ob:=seqObj "list" #[] 0) rfl (by intro v z;cases z)
  have fI:FpOk X pins H s.heap.objs.size:=I0.fpOk (Nat.le_refl _) (I.hok.fresh (Nat.le_refl _))
  have fS:FpOk X pins H (s.heap.push { cls := .type "list_iterator",data := .fields #[.ref l,.int 0 0] }).objs.size:=I0.fpOk (by rw[hS];exact Nat.le_succ _) (I.hok.fresh (by rw[hS];exact Nat.le_succ _))
  generalize hS0:(s.heap.push { cls := .type "list_iterator",data := .fields #[.ref l,.int 0 0] }).objs.size=S at *
  have hlI:l≠s.heap.objs.size:=Nat.ne_of_lt hll
  have hqI:q≠s.heap.objs.size:=Nat.ne_of_lt hqz
  have hSI:S≠s.heap.objs.size:=by rw[hS];exact Nat.ne_of_gt (Nat.lt_succ_self _)
  have hqS:q≠S:=by rw[hS];exact Nat.ne_of_lt (Nat.lt_succ_of_lt hqz)
  refine wpAny_pure ⟨plainId_quiet PySem.F.plain_max_loop _,?_⟩
  have nS:=Ib.pin (S,seqObj "list" #[] 0) (List.mem_append_right _ (by rw[<- hS0];exact .head _))
  have nI:=Ib.pin (s.heap.objs.size,_) (List.mem_append_right _ (.tail _ (.head _)))
  obtain⟨its',n',rv',hl',_⟩:=Ib.lst hH
  have hls':((s.heap.push { cls := .type "list_iterator",data := .fields #[.ref l,.int 0 0] }).push (seqObj "list" #[] 0)).IsList l its'.toArray:=⟨_,hl',rfl,n',rfl⟩
  obtain⟨u,hu',ru⟩:=zov (i:=0) rv' rfl
  refine codeAny_builtin PySem.F.entry_max_loop ?_
  rw[Around.under_plainId PySem.F.plain_max_loop _]
  show wpAny _ X.A.in1 (seqItems? (.ref S) >>= _) _ _ _
  refine wpAny_bind (wpAny_seqItems nS.1 rfl ?_)
  show wpAny _ X.A.in1 (tryCatch (pyNext (.ref s.heap.objs.size)) _ >>= _) _ _ _
  refine wpAny_bind (wpAny_tryCatch (wpAny_pyNext_list_item (i:=0) ⟨_,nI.1,rfl,rfl⟩ hls' (x:=u) (by rw[List.getElem?_toArray];exact hu') λh' hit' hs' => ?_))
  obtain⟨oI',hoI',hoc,hod⟩:=id hit'
  have Ic:Inv X ((s.heap.objs.size,oI') :: (S,seqObj "list" #[] 0) :: (q,W.methodObj (.ref f) (.ref a)) :: pins) σ H { s with heap:=h' }:=by
   have fI':FpOk X ([(S,seqObj "list" #[] 0)] ++ (q,W.methodObj (.ref f) (.ref a)) :: pins) H s.heap.objs.size:=fI.more (pa:=[(S,seqObj "list" #[] 0),(q,W.methodObj (.ref f) (.ref a))]) (by simp[hSI,hqI])
   have Iz:=Inv.repin (pa:=[(S,seqObj "list" #[] 0)]) (t':=s.toks) (h':=h') Ib fI' (λb' o hb e=>(hs'.2 b' hb).trans e) hoI' (by intro v z;rw[hod]at z;cases z)
   refine Iz.pins_of λp hp=>Iz.pin p (List.mem_append_right _ ?_)
   rcases List.mem_cons.mp hp with rfl | hp
   ·exact .tail _ (.head _)
   ·rcases List.mem_cons.mp hp with rfl | hp
    ·exact .head _
    ·exact .tail _ (.tail _ hp)
  show wpAny _ X.A.in1 (tryCatch (holding [u] (call (.ref q) [u])) _ >>= _) _ _ _
  refine wpAny_bind (wpAny_tryCatch (wpAny_holding (wpAny_mono (B _ _ σ H _ x u Ic (.tail _ (.tail _ (.head _))) ru h) (λuk s2 he => ?_) λ_ _ hF=>hF.elim)))
  obtain⟨kv,H1,I2,rk,hH1,hgo⟩:=he
  have nS2:=I2.pin (S,seqObj "list" #[] 0) (List.mem_append_right _ (.tail _ (.head _)))
  have nI2:=I2.pin (s.heap.objs.size,oI') (List.mem_append_right _ (.head _))
  have sb:=Heap.SameBut.update s2.heap S (Obj.mapSeq λ_ => #[u,uk])
  obtain⟨c2,hc2⟩:∃c2,(s2.heap.update S (Obj.mapSeq λ_ => #[u,uk])).get? S=some (seqObj "list" #[u,uk] c2):=⟨_,get?_update_seq nS2.1 λ_ => #[u,uk]⟩
  show wpAny _ X.A.in1 (updateSeq S (λ_ => #[u,uk]) >>= _) _ _ _
  refine wpAny_bind ?_
  refine wpAny_updateSeq nS2.1 rfl ?_
  rw[hname]
  have fS':FpOk X ((s.heap.objs.size,oI') :: (q,W.methodObj (.ref f) (.ref a)) :: pins) H S:=fS.more (pa:=[(s.heap.objs.size,oI'),(q,W.methodObj (.ref f) (.ref a))]) (by simp[hSI.symm,hqS])
  have I3:Inv X ((s.heap.objs.size,oI') :: (S,seqObj "list" #[u,uk] c2) :: (q,W.methodObj (.ref f) (.ref a)) :: pins) σ H1 { s2 with heap:=s2.heap.update S (Obj.mapSeq λ_ => #[u,uk]) }:=
   Inv.repin (pa:=[(s.heap.objs.size,oI')]) (t':=s2.toks) I2 fS' (λb' o hb' e=>(sb.2 b' hb').trans e) hc2 (by intro v z;cases z)
  exact wpAny_pure ⟨plainId_quiet PySem.F.plain_max_loop _,zr3 (H₁:=H) hh hu B hlI hSI hqI hqS fI fS xs 0 x kv u uk c2 oI' H1 _ rfl hgo hH1 I3 ⟨oI',(sb.2 _ hSI.symm).trans nI2.1,hoc,hod⟩ ru rk⟩
theorem zq8(c:MCal X.prog X.w X.K X.mg X.base CX0 k C m ps ds sp)(b:BM X.K C m)(he:PE X e te)(ho:PE X o ta)(hr:Room j X.A)(hd:Vals dvs ds)(hm:X.mg ("max" : Str)=none)(hk:k + 1<=j:=by decide)(hg:Gl X "max":=by rfl)
  (hb:attributeBase o m X.env (eval o X.env)=eval o X.env:=by rfl) (hs:starEach [e] X.env=(false,eval e X.env) :: starEach [] X.env:=by rfl) :
  PE X (.Call (.Name "max" p) [e] [⟨some "key",.Attribute o m apos,kpos⟩] pos) (tMaxK X.K C m sp dvs te ta):=by
 obtain⟨f,fd,F,hbi,hme⟩:=c.ex
 obtain⟨f',ef,kb⟩:=b.ex
 have:f'=f:=by have z:=hme.at_;rw[ef]at z;injection z with z;injection z with z;injection z
 subst this
 intro pins s σ H Q I h
 refine wpAny_Call_Name_kw (zdh I hg hm boot_max ?_)
 have h':tCons te tNil σ H (λvs H1=>match vs with
   | [v]=>ta σ H1 λo H2=>∃(a dx:Addr) (fs:List (Str×V)) (l:Addr) (all:List V),o = .ref a/\H2 a=some (.ins C dx fs)/\fs.lookup m=none /\
     v = .ref l/\H2 l=some (.lst all)/\mxAll X.K l all (λx H Q=>sp (.ref a :: x :: dvs) H Q E0) all H2 Q
   | _=>False):=h
 refine callWith_kw (thn ((zaa he zaf hs) pos pins s σ H _ I h') λus s1 ⟨vs,H1,I1,r1,q1⟩ => ?_) (by rw[hs];rfl) (by rw[hs];rfl)
 cases r1 with
 | nil=>exact False.elim q1
 | cons ru rr=>
  cases rr with
  | cons _ _=>exact False.elim q1
  | nil=>
   refine kwAll_cons (zio hb (thn (ho pins s1 σ H1 _ I1 q1) λuo s2 ⟨ov,H2,I2,ro,a,dx,fs,l,all,eo,ea,el,ev,eh,hmx⟩ => ?_))
   subst eo
   subst ev
   cases ro
   cases ru
   refine zhv I2 ea c.cl hme kb el (kwAll_nil ?_)
   have I3:=I2.pinNew (t':=s2.toks + 1) (ob:=W.methodObj (.ref f') (.ref a)) rfl (by intro v z;cases z)
   exact zpa hr (zqb F (hr.mono hk) hbi hd) I3 eh hmx
end
end L2
namespace L2
open PySem PySem.Spec PyProof.Rows
theorem Inv.unpin{X:Cx}{pins:List (Addr×Obj)}{σ : St}{H H₁:Hp}{s:Shared}{D:Addr}{xs:List V}{vs:List Value}{n:Nat}(I:Inv X ((D,seqObj "list" vs.toArray n) :: pins) σ H s)(f:FpOk X pins H₁ D)(r:Vals xs vs)(hz:xs.length<=sizeLine):Inv X pins σ (upd H D (.lst xs)) s:=by
 have pD:=I.pin (D,seqObj "list" vs.toArray n) (List.mem_append_right _ (.head _))
 have I1:Inv X pins σ H s:=I.pins_of λp hp=>I.pin p (List.mem_append_right _ (.tail _ hp))
 have ne:∀b o,H b=some o->b≠D:=λb o e z=>by rw[z,pD.2.1]at e;cases e
 have st:=I1.step (h':=s.heap) (H':=upd H D (.lst xs)) (g':=s.gens) (d':=s.drawn) (t':=s.toks) (ch:=[D])
  (λb hb=>by rw[List.mem_singleton.mp hb];exact⟨f.2.2.2.1,f.2.1,f.2.2.2.2.1,f.2.2.2.2.2⟩)
  (λb o _ _ _ e _=>e) (λb o _ _ _ e _=>⟨o.slots,e⟩) (λb o hb _ e=>by rw[zao (λz=>hb (by simp[z]))];exact e)
  (λb o _ e=>⟨o,e⟩) (λb xs e=>by rw[zao (ne b _ e)];exact e) (λb o u e=>by rw[zao (ne b _ e)];exact e) (λb ps e=>⟨#[],by rw[zao (ne b _ e)];simpa using e⟩)
  (λm hm=>hm) (λb o e => ?_) I1.bare
 ·exact st
 ·by_cases hb:b=D
  ·subst hb
   rw[zae]at e;cases e
   exact⟨hz,vs,n,r,pD.1⟩
  ·rw[zao hb]at e
   exact(I.hok b o e).stay (λc v hc q=>q) (λc q=>(by rw[zao (ne _ _ q)];exact q)) λc w q=>(by rw[zao (ne _ _ q)];exact q)
end L2
namespace TS
open PySem PyProof.Rows
local macro_rules | `(tactic| walk_at "sort gallop") => do `(tactic| delta $(Lean.mkIdent (Lean.mkPrivateNameCore `PySem.Builtin.List.W1All `PySem.Builtin.gallop)):ident)
structure Cmp(prog:Program)(w:World)(A:Around)(s:Shared)(kd:SortKind)(a₀:Array Keyed)(O:KeyOrd)(key:Keyed->O.α):Prop where
 ask:∀x∈a₀.toList,∀y∈a₀.toList,∀(Q:Bool->Shared->Prop) (E:Value->Shared->Prop),Q (O.blt (key x) (key y)) s->wpAny (model prog w) A (keyLt' kd x.1 y.1) Q E s
structure SB(kd:SortKind)(a₀:Array Keyed)(st:SortSt):Prop where
 kind:kindOf st=kd
 perm:(arrOf st).Perm a₀
 failed:failedOf st=none
section
variable{prog:Program}{w:World}{A:Around}{E:Value->Shared->Prop}{s:Shared}{kd:SortKind}{a₀:Array Keyed}{O:KeyOrd}{key:Keyed->O.α}
theorem SB.size{st:SortSt}(B:SB kd a₀ st):(arrOf st).size=a₀.size:=B.perm.size_eq
theorem SB.mem{st:SortSt}(B:SB kd a₀ st){x:Keyed}(h:x∈(arrOf st).toList):x∈a₀.toList:=(Array.perm_iff_toList_perm.mp B.perm).mem_iff.mp h
theorem zlo(C:Cmp prog w A s kd a₀ O key){st:SortSt}(hk:kindOf st=kd){x y:Keyed}(hx:x∈a₀.toList)(hy:y∈a₀.toList){Q:Option Bool->SortSt->Prop}(h:Q (some (O.blt (key x) (key y))) st) :
  wpS (model prog w) A E s ((sortPriv% PySem.Builtin.lt) x y) Q st:=by
 show wpS (model prog w) A E s (lt' x y) Q st
 rw[lt'_eq]
 refine wpS_bind (wpS_get ?_)
 rw[hk]
 exact wpS_bind (wpS_lift (wpAny_attempt (C.ask x hx y hy _ _ ⟨rfl,wpS_pure h⟩)))
theorem zap{arr:Array Keyed}{i:Nat}{x:Keyed}{st:SortSt}{Q:Keyed->SortSt->Prop}(hi:arr[i]? = some x)(h:Q x st):wpS (model prog w) A E s ((sortPriv% PySem.Builtin.elem) arr i) Q st:=by
 show wpS (model prog w) A E s (elem' arr i) Q st
 rw[elem'_eq,hi]
 exact wpS_pure h
def bey(O:KeyOrd)(left:Bool)(k x:O.α):Bool:=if left then O.blt x k else !(O.blt k x)
theorem zok(left:Bool){k x y:O.α}(h:O.kle x y)(hy:bey O left k y=true):bey O left k x=true:=by
 unfold bey at *
 cases left with
 | true=>
  simp only[if_true]at *
  exact KeyOrd.klt_of_kle_of_klt h hy
 | false=>
  simp only[Bool.false_eq_true,if_false,Bool.not_eq_true']at *
  exact KeyOrd.kle_trans (O:=O) h hy
theorem zba(C:Cmp prog w A s kd a₀ O key){left:Bool}{k:Keyed}{arr:Array Keyed}{base n hint:Nat}{st:SortSt}{Q:Option Nat->SortSt->Prop}(hkd:kindOf st=kd)(hk:k∈a₀.toList)(hsub:∀x∈arr.toList,x∈a₀.toList)(hn:base + n<=arr.size)(hh:hint < n)
  (hs:∀(i j:Nat) (x y:Keyed),i<=j->j < n->arr[base + i]? = some x->arr[base + j]? = some y->O.kle (key x) (key y))
  (h:∀r,r<=n->(∀(i:Nat) (x:Keyed),i < r->arr[base + i]? = some x->bey O left (key k) (key x)=true)->(∀(i:Nat) (x:Keyed),r<=i->i < n->arr[base + i]? = some x->bey O left (key k) (key x)=false)->Q (some r) st) :
  wpS (model prog w) A E s ((sortPriv% PySem.Builtin.gallop) left k arr base n hint) Q st:=by
 walk_at "sort gallop"
 extract_lets beyond z0 z1 jp m1 m2
 have hp:∀i,i < n->∃x,arr[base + i]? = some x/\x∈a₀.toList:=λi hi=>⟨arr[base + i]'(by omega),getElem?_pos ..,hsub _ (by simp)⟩
 generalize hpe:(λi:Nat=>bey O left (key k) (key (arr.getD (base + i) (.none,.none))))=p
 have hpx:∀(i:Nat) (x:Keyed),arr[base + i]? = some x->p i=bey O left (key k) (key x):=λi x e=>by
  rw[<- hpe];simp only[Array.getD_eq_getD_getElem?,e,Option.getD_some]
 have hb:∀(i:Nat) (st':SortSt) (Q':Option Bool->SortSt->Prop),i < n->kindOf st'=kd->Q' (some (p i)) st'->wpS (model prog w) A E s (beyond i) Q' st':=by
  intro i st' Q' hi hk' hq
  obtain⟨x,ex,mx⟩:=hp i hi
  refine wpS_bind (zap ex ?_)
  rw[hpx i x ex]at hq
  cases left with
  | true=>exact zlo C hk' mx hk hq
  | false=>
   refine wpS_bind (zlo C hk' hk mx (wpS_pure ?_))
   exact hq
 have hmono:∀i j,i<=j->j < n->p j=true->p i=true:=by
  intro i j hij hj hpj
  obtain⟨x,ex,_⟩:=hp i (by omega)
  obtain⟨y,ey,_⟩:=hp j hj
  rw[hpx j y ey]at hpj
  rw[hpx i x ex]
  exact zok left (hs i j x y hij hj ex ey) hpj
 have hjp:∀lo hi,lo<=hi->hi<=n->(∀i,i < lo->p i=true)->(∀i,hi<=i->i < n->p i=false)->∀a b,wpS (model prog w) A E s (jp () a b lo hi) Q st:=by
  intro lo hi hlh hhn hlo hhi a b
  refine wpS_bind (wpS_mono (wpS_forRange (I:=λx c st'=>st'=st/\∃l r,c=(none,l,r)/\l<=r/\r<=n/\r - l<=n - x/\(∀i,i < l->p i=true)/\(∀i,r<=i->i < n->p i=false))
   (Q:=λc st'=>st'=st/\∃r,c=(none,r,r)/\r<=n/\(∀i,i < r->p i=true)/\(∀i,r<=i->i < n->p i=false)) ?step ?fin ⟨rfl,lo,hi,rfl,hlh,hhn,by omega,hlo,hhi⟩) ?post)
  case fin=>
   rintro c st' ⟨rfl,l,r,rfl,h1,h2,h3,h4,h5⟩
   have:l=r:=by omega
   subst this
   exact⟨rfl,l,rfl,h2,h4,h5⟩
  case step=>
   rintro x c st' _ hx ⟨rfl,l,r,rfl,h1,h2,h3,h4,h5⟩
   dsimp only
   by_cases hge:l ≥ r
   ·rw[if_pos hge]
    have:l=r:=by omega
    subst this
    exact wpS_pure ⟨rfl,l,rfl,h2,h4,h5⟩
   ·rw[if_neg hge]
    refine wpS_bind (hb _ _ _ (by omega) hkd ?_)
    dsimp only
    cases hpm:p (l + (r - l) / 2) with
    | true=>
     simp only[if_true]
     exact wpS_pure ⟨rfl,_,r,rfl,by omega,h2,by omega,λi hi=>hmono i _ (by omega) (by omega) hpm,h5⟩
    | false=>
     simp only[Bool.false_eq_true,if_false]
     refine wpS_pure ⟨rfl,l,_,rfl,by omega,by omega,by omega,h4,λi hi hin => ?_⟩
     cases hpi:p i with
     | false=>rfl
     | true=>exact absurd (hmono _ i hi hin hpi) (by rw[hpm];simp)
  case post=>
   rintro c st' ⟨rfl,r,rfl,h2,h4,h5⟩
   refine wpS_pure (h r h2 (λi x hi e => ?_) λi x hi hin e => ?_)
   ·rw[<- hpx i x e];exact h4 i hi
   ·rw[<- hpx i x e];exact h5 i hi hin
 clear_value jp beyond
 refine wpS_bind (hb hint st _ hh hkd ?_)
 dsimp only
 cases hph:p hint with
 | true=>
  simp only[if_true]
  refine wpS_bind (wpS_mono (wpS_forRange (I:=λx c st'=>st'=st/\∃l o,c=(none,l,o)/\l < o/\l < n - hint/\x + 1<=o/\p (hint + l)=true)
   (Q:=λc st'=>st'=st/\∃l o,c=(none,l,o)/\l < o/\l < n - hint/\p (hint + l)=true/\(n - hint<=o\/p (hint + o)=false)) ?step ?fin ⟨rfl,0,1,rfl,by omega,by omega,by omega,hph⟩) ?post)
  case fin=>
   rintro c st' ⟨rfl,l,o,rfl,h1,h2,h3,h4⟩
   exact⟨rfl,l,o,rfl,h1,h2,h4,.inl (by omega)⟩
  case step=>
   rintro x c st' _ hx ⟨rfl,l,o,rfl,h1,h2,h3,h4⟩
   dsimp only
   by_cases hge:o ≥ n - hint
   ·rw[if_pos hge]
    exact wpS_pure ⟨rfl,l,o,rfl,h1,h2,h4,.inl hge⟩
   ·rw[if_neg hge]
    refine wpS_bind (hb _ _ _ (by omega) hkd ?_)
    dsimp only
    cases hpo:p (hint + o) with
    | true=>
     simp only[Bool.not_true,Bool.false_eq_true,if_false]
     exact wpS_pure ⟨rfl,o,2 * o + 1,rfl,by omega,by omega,by omega,hpo⟩
    | false=>
     simp only[Bool.not_false,if_true]
     exact wpS_pure ⟨rfl,l,o,rfl,h1,h2,h4,.inr hpo⟩
  case post=>
   rintro c st' ⟨rfl,l,o,rfl,h1,h2,h4,h5⟩
   refine hjp _ _ ?_ ?_ ?_ ?_ _ _
   ·show hint + l + 1<=hint + min o (n - hint)
    omega
   ·show hint + min o (n - hint)<=n
    omega
   ·intro i hi
    have hi':i < hint + l + 1:=hi
    exact hmono i (hint + l) (by omega) (by omega) h4
   ·intro i hi hin
    have hi':hint + min o (n - hint)<=i:=hi
    rcases h5 with h5 | h5
    ·omega
    ·cases hpi:p i with
     | false=>rfl
     | true=>exact absurd (hmono (hint + o) i (by omega) hin hpi) (by rw[h5];simp)
 | false=>
  simp only[Bool.false_eq_true,if_false]
  refine wpS_bind (wpS_mono (wpS_forRange (I:=λx c st'=>st'=st/\∃l o,c=(none,l,o)/\l < o/\l < hint + 1/\x + 1<=o/\p (hint - l)=false)
   (Q:=λc st'=>st'=st/\∃l o,c=(none,l,o)/\l < o/\l < hint + 1/\p (hint - l)=false/\(hint + 1<=o\/p (hint - o)=true)) ?step ?fin ⟨rfl,0,1,rfl,by omega,by omega,by omega,hph⟩) ?post)
  case fin=>
   rintro c st' ⟨rfl,l,o,rfl,h1,h2,h3,h4⟩
   exact⟨rfl,l,o,rfl,h1,h2,h4,.inl (by omega)⟩
  case step=>
   rintro x c st' _ hx ⟨rfl,l,o,rfl,h1,h2,h3,h4⟩
   dsimp only
   by_cases hge:o ≥ hint + 1
   ·rw[if_pos hge]
    exact wpS_pure ⟨rfl,l,o,rfl,h1,h2,h4,.inl hge⟩
   ·rw[if_neg hge]
    refine wpS_bind (hb _ _ _ (by omega) hkd ?_)
    dsimp only
    cases hpo:p (hint - o) with
    | true=>
     simp only[if_true]
     exact wpS_pure ⟨rfl,l,o,rfl,h1,h2,h4,.inr hpo⟩
    | false=>
     simp only[Bool.false_eq_true,if_false]
     exact wpS_pure ⟨rfl,o,2 * o + 1,rfl,by omega,by omega,by omega,hpo⟩
  case post=>
   rintro c st' ⟨rfl,l,o,rfl,h1,h2,h4,h5⟩
   refine hjp _ _ ?_ ?_ ?_ ?_ _ _
   ·show hint + 1 - min o (hint + 1)<=hint - l
    omega
   ·show hint - l<=n
    omega
   ·intro i hi
    have hi':i < hint + 1 - min o (hint + 1):=hi
    rcases h5 with h5 | h5
    ·omega
    ·exact hmono i (hint - o) (by omega) (by omega) h5
   ·intro i hi hin
    have hi':hint - l<=i:=hi
    cases hpi:p i with
    | false=>rfl
    | true=>exact absurd (hmono (hint - l) i hi' hin hpi) (by rw[h4];simp)
end
end TS
namespace TS
open PySem PyProof.Rows
local macro_rules | `(tactic| walk_at "sort setMinGallop") => do `(tactic| delta $(Lean.mkIdent (Lean.mkPrivateNameCore `PySem.Builtin.List.W1All `PySem.Builtin.setMinGallop)):ident)
local macro_rules | `(tactic| walk_at "sort mergeLo") => do `(tactic| delta $(Lean.mkIdent (Lean.mkPrivateNameCore `PySem.Builtin.List.W1All `PySem.Builtin.mergeLo)):ident)
section
variable{O:KeyOrd}(key:Keyed->O.α)
def Srt(l:List Keyed):Prop:=l.Pairwise λx y=>O.kle (key x) (key y)
structure Mrg(la lb o:List Keyed)(ia ib:Nat):Prop where
 perm:(o ++ (la.drop ia ++ lb.drop ib)).Perm (la ++ lb)
 srt:Srt key o
 lea:∀x∈o,∀y∈la.drop ia,O.kle (key x) (key y)
 leb:∀x∈o,∀y∈lb.drop ib,O.kle (key x) (key y)
def Res(la lb r:List Keyed):Prop:=r.Perm (la ++ lb)/\Srt key r
variable{key}{la lb o:List Keyed}{ia ib:Nat}{x:Keyed}
theorem zfv(e:la[ia]? = some x):la.drop ia=x :: la.drop (ia + 1):=by
 obtain⟨h,rfl⟩:=List.getElem?_eq_some_iff.mp e
 exact List.drop_eq_getElem_cons h
theorem Srt.drop(h:Srt key la)(n:Nat):Srt key (la.drop n):=List.Pairwise.sublist (List.drop_sublist _ _) h
theorem Srt.snoc(h:Srt key o)(hx:∀y∈o,O.kle (key y) (key x)):Srt key (o ++ [x]):=by
 refine List.pairwise_append.mpr ⟨h,List.pairwise_singleton _ _,λy hy z hz => ?_⟩
 rw[List.mem_singleton.mp hz];exact hx y hy
theorem Mrg.start:Mrg key la lb [] 0 0:=⟨by simp,List.Pairwise.nil,by simp,by simp⟩
theorem Mrg.push_a(sa:Srt key la)(M:Mrg key la lb o ia ib)(e:la[ia]? = some x)(h:∀y∈lb.drop ib,O.kle (key x) (key y)):Mrg key la lb (o ++ [x]) (ia + 1) ib:=by
 have d:=zfv e
 have s2:=sa.drop ia
 rw[d]at s2
 obtain⟨s3,_⟩:=List.pairwise_cons.mp s2
 refine⟨?_,M.srt.snoc λy hy=>M.lea y hy x (by rw[d];exact .head _),λy hy z hz => ?_,λy hy z hz => ?_⟩
 ·have p:=M.perm
  rw[d]at p
  simpa using p
 ·rcases List.mem_append.mp hy with hy | hy
  ·exact M.lea y hy z (by rw[d];exact .tail _ hz)
  ·rw[List.mem_singleton.mp hy];exact s3 z hz
 ·rcases List.mem_append.mp hy with hy | hy
  ·exact M.leb y hy z hz
  ·rw[List.mem_singleton.mp hy];exact h z hz
theorem Mrg.push_b(sb:Srt key lb)(M:Mrg key la lb o ia ib)(e:lb[ib]? = some x)(h:∀y∈la.drop ia,O.kle (key x) (key y)):Mrg key la lb (o ++ [x]) ia (ib + 1):=by
 have d:=zfv e
 have s2:=sb.drop ib
 rw[d]at s2
 obtain⟨s3,_⟩:=List.pairwise_cons.mp s2
 refine⟨?_,M.srt.snoc λy hy=>M.leb y hy x (by rw[d];exact .head _),λy hy z hz => ?_,λy hy z hz => ?_⟩
 ·have p:=M.perm
  rw[d]at p
  refine List.Perm.trans ?_ p
  simp only[List.append_assoc,List.singleton_append]
  exact List.Perm.append_left _ (List.perm_middle).symm
 ·rcases List.mem_append.mp hy with hy | hy
  ·exact M.lea y hy z hz
  ·rw[List.mem_singleton.mp hy];exact h z hz
 ·rcases List.mem_append.mp hy with hy | hy
  ·exact M.leb y hy z (by rw[d];exact .tail _ hz)
  ·rw[List.mem_singleton.mp hy];exact s3 z hz
theorem Mrg.app_a(sa:Srt key la):∀(k:Nat) {o:List Keyed} {ia:Nat},Mrg key la lb o ia ib->ia + k<=la.length->(∀i x,ia<=i->i < ia + k->la[i]? = some x->∀y∈lb.drop ib,O.kle (key x) (key y)) ->
  Mrg key la lb (o ++ (la.drop ia).take k) (ia + k) ib
 | 0,o,ia,M,_,_=>by simpa using M
 | k + 1,o,ia,M,hl,h=>by
  have e:la[ia]? = some la[ia]:=List.getElem?_eq_getElem (by omega)
  have M1:=M.push_a sa e (h ia _ (Nat.le_refl _) (by omega) e)
  have M2:=Mrg.app_a sa k M1 (by omega) λi x h1 h2 e'=>h i x (by omega) (by omega) e'
  rw[zfv e,List.take_succ_cons]
  have:ia + 1 + k=ia + (k + 1):=by omega
  rw[this]at M2
  simpa using M2
theorem Mrg.app_b(sb:Srt key lb):∀(k:Nat) {o:List Keyed} {ib:Nat},Mrg key la lb o ia ib->ib + k<=lb.length->(∀i x,ib<=i->i < ib + k->lb[i]? = some x->∀y∈la.drop ia,O.kle (key x) (key y)) ->
  Mrg key la lb (o ++ (lb.drop ib).take k) ia (ib + k)
 | 0,o,ib,M,_,_=>by simpa using M
 | k + 1,o,ib,M,hl,h=>by
  have e:lb[ib]? = some lb[ib]:=List.getElem?_eq_getElem (by omega)
  have M1:=M.push_b sb e (h ib _ (Nat.le_refl _) (by omega) e)
  have M2:=Mrg.app_b sb k M1 (by omega) λi x h1 h2 e'=>h i x (by omega) (by omega) e'
  rw[zfv e,List.take_succ_cons]
  have:ib + 1 + k=ib + (k + 1):=by omega
  rw[this]at M2
  simpa using M2
theorem Mrg.done(sa:Srt key la)(sb:Srt key lb)(M:Mrg key la lb o ia ib)(h:la.length<=ia\/lb.length<=ib):Res key la lb (o ++ la.drop ia ++ lb.drop ib):=by
 refine⟨by simpa using M.perm,?_⟩
 rcases h with h | h
 ·rw[List.drop_eq_nil_of_le h,List.append_nil]
  exact List.pairwise_append.mpr ⟨M.srt,sb.drop _,M.leb⟩
 ·rw[List.drop_eq_nil_of_le h,List.append_nil]
  exact List.pairwise_append.mpr ⟨M.srt,sa.drop _,M.lea⟩
theorem Mrg.last(sa:Srt key la)(sb:Srt key lb)(M:Mrg key la lb o ia ib)(h:∀x∈lb,∀y∈la.drop ia,O.kle (key x) (key y)):Res key la lb (o ++ lb.drop ib ++ la.drop ia):=by
 refine⟨?_,?_⟩
 ·refine List.Perm.trans ?_ M.perm
  rw[List.append_assoc]
  exact List.Perm.append_left _ List.perm_append_comm
 ·refine List.pairwise_append.mpr ⟨List.pairwise_append.mpr ⟨M.srt,sb.drop _,M.leb⟩,sa.drop _,λx hx y hy => ?_⟩
  rcases List.mem_append.mp hx with hx | hx
  ·exact M.lea x hx y hy
  ·exact h x (List.mem_of_mem_drop hx) y hy
theorem Srt.at{a:Array Keyed}(h:Srt key a.toList){i j:Nat}{x y:Keyed}(hij:i<=j)(ex:a[i]? = some x)(ey:a[j]? = some y):O.kle (key x) (key y):=by
 by_cases e:i=j
 ·subst e;rw[ex]at ey;cases ey;exact KeyOrd.kle_refl _
 ·obtain⟨hi,rfl⟩:=Array.getElem?_eq_some_iff.mp ex
  obtain⟨hj,rfl⟩:=Array.getElem?_eq_some_iff.mp ey
  exact(List.pairwise_iff_getElem.mp h) i j (by simpa using hi) (by simpa using hj) (by omega)
theorem Srt.head{a:Array Keyed}(h:Srt key a.toList){i:Nat}{x:Keyed}(ex:a[i]? = some x):∀y∈a.toList.drop i,O.kle (key x) (key y):=by
 intro y hy
 obtain⟨j,hj,e⟩:=List.mem_iff_getElem.mp hy
 rw[List.getElem_drop]at e
 refine h.at (j:=i + j) (by omega) ex ?_
 rw[List.length_drop]at hj
 rw[<- e]
 exact Array.getElem?_eq_some_iff.mpr ⟨by simp at hj;omega,by simp⟩
theorem ze4(a:Array Keyed)(i:Nat):(a.extract i a.size).toList=a.toList.drop i:=by
 simp only[Array.toList_extract,List.extract_eq_drop_take]
 exact List.take_of_length_le (by simp)
theorem zdg(a:Array Keyed)(i k:Nat):(a.extract i (i + k)).toList=(a.toList.drop i).take k:=by simp[List.extract_eq_drop_take]
end
section
variable{prog:Program}{w:World}{A:Around}{E:Value->Shared->Prop}{s:Shared}{kd:SortKind}{a₀:Array Keyed}{O:KeyOrd}{key:Keyed->O.α}
theorem ziv{g:Nat}{st:SortSt}{Q:Unit->SortSt->Prop}(h:Q () (SortSt.mk' (kindOf st) (arrOf st) (pendingOf st) g (failedOf st))):wpS (model prog w) A E s ((sortPriv% PySem.Builtin.setMinGallop) g) Q st:=by
 walk_at "sort setMinGallop"
 exact wpS_modify h
structure Same(st₀ st:SortSt):Prop where
 kind:kindOf st=kindOf st₀
 arr:arrOf st=arrOf st₀
 pend:pendingOf st=pendingOf st₀
 fail:failedOf st=failedOf st₀
theorem zga{g:Nat}{st₀ st:SortSt}{Q:Unit->SortSt->Prop}(S:Same st₀ st)(h:∀st1,Same st₀ st1->Q () st1):wpS (model prog w) A E s ((sortPriv% PySem.Builtin.setMinGallop) g) Q st:=
 ziv (h _ ⟨S.kind,S.arr,S.pend,S.fail⟩)
theorem zkj(C:Cmp prog w A s kd a₀ O key){a b:Array Keyed}{st:SortSt}{Q:Array Keyed->SortSt->Prop}(hkd:kindOf st=kd)(ha:∀x∈a.toList,x∈a₀.toList)(hb:∀x∈b.toList,x∈a₀.toList)(sa:Srt key a.toList)(sb:Srt key b.toList)
  (za:0 < a.size) (zb:0 < b.size) (h0:∀y∈a.toList,O.kle (key b[0]) (key y)) (hl:∀x∈b.toList,O.kle (key x) (key a[a.size - 1]))
  (h:∀r st',Res key a.toList b.toList r.toList->Same st st'->Q r st') :
  wpS (model prog w) A E s ((sortPriv% PySem.Builtin.mergeLo) a b) Q st:=by
 have ea:∀i,i < a.size->∃x,a[i]? = some x/\a.toList[i]? = some x/\x∈a₀.toList:=λi hi=>⟨a[i],getElem?_pos ..,by simp[hi],ha _ (by simp)⟩
 have eb:∀i,i < b.size->∃x,b[i]? = some x/\b.toList[i]? = some x/\x∈a₀.toList:=λi hi=>⟨b[i],getElem?_pos ..,by simp[hi],hb _ (by simp)⟩
 have lastA:∀ia,ia + 1=a.size->∀x∈b.toList,∀y∈a.toList.drop ia,O.kle (key x) (key y):=by
  intro ia e x hx y hy
  have hz:a.size - 1=ia:=by omega
  have:=hl x hx
  obtain⟨z,e1,e2,_⟩:=ea ia (by omega)
  rw[zfv e2,List.drop_eq_nil_of_le (by simp;omega)]at hy
  rw[List.mem_singleton.mp hy]
  have ez:a[a.size - 1]=z:=by
   have:=e1
   rw[getElem?_pos a ia (by omega)]at this
   injection this with this
   rw[<- this];congr 1
  rw[ez]at this
  exact this
 walk_at "sort mergeLo"
 extract_lets total done lastOfA i0 i1
 have hdone:∀out ia ib,Mrg key a.toList b.toList out.toList ia ib->(a.size<=ia\/b.size<=ib)->Res key a.toList b.toList (done out ia ib).toList:=by
  intro out ia ib M hz
  have:=M.done sa sb (by simpa using hz)
  show Res key _ _ (out ++ a.extract ia a.size ++ b.extract ib b.size).toList
  rw[Array.toList_append,Array.toList_append,ze4,ze4]
  exact this
 have hlast:∀out ia ib,Mrg key a.toList b.toList out.toList ia ib->ia + 1=a.size->Res key a.toList b.toList (lastOfA out ia ib).toList:=by
  intro out ia ib M hz
  have:=M.last sa sb (lastA ia hz)
  show Res key _ _ (out ++ b.extract ib b.size ++ a.extract ia a.size).toList
  rw[Array.toList_append,Array.toList_append,ze4,ze4]
  exact this
 have htot:total=a.size + b.size:=rfl
 clear_value total done lastOfA
 refine wpS_bind (wpS_lift (wpAny_rule ⟨rfl,?_⟩))
 obtain⟨b0,e0,e0',m0⟩:=eb 0 zb
 have hb0:b[0]=b0:=by rw[getElem?_pos b 0 zb]at e0;injection e0
 refine wpS_bind (zap e0 ?_)
 have M0:Mrg key a.toList b.toList (#[b0]:Array Keyed).toList 0 1:=Mrg.start.push_b sb e0' λy hy=>by rw[<- hb0];exact h0 y (by simpa using hy)
 have S0:Same st st:=⟨rfl,rfl,rfl,rfl⟩
 by_cases z1:b.size=1
 ·rw[if_pos (by show ((1:Nat) == b.size)=true;rw[z1];rfl)]
  exact wpS_pure (h _ _ (hdone _ _ _ M0 (.inr (by show b.size<=1;omega))) S0)
 rw[if_neg (by show ¬((1:Nat) == b.size)=true;simpa using λe=>z1 e.symm)]
 by_cases z2:a.size=1
 ·rw[if_pos (by show ((0:Nat) + 1 == a.size)=true;rw[z2];rfl)]
  exact wpS_pure (h _ _ (hlast _ _ _ M0 (by show 0 + 1=a.size;omega)) S0)
 rw[if_neg (by show ¬((0:Nat) + 1 == a.size)=true;simpa using λe=>z2 e.symm)]
 refine wpS_bind (wpS_get ?_)
 dsimp only
 refine wpS_bind (wpS_mono (wpS_forRange (I:=λx c st'=>Same st st'/\∃out ia ib g,c=(none,out,ia,ib,g)/\Mrg key a.toList b.toList out.toList ia ib/\ia + 1 < a.size/\ib < b.size/\x + 1<=ia + ib)
  (Q:=λc st'=>Same st st'/\∃r t,c=(some r,t)/\Res key a.toList b.toList r.toList) ?step ?fin ⟨S0,_,_,_,_,rfl,M0,by show 0 + 1 < a.size;omega,by show 1 < b.size;omega,Nat.le_refl 1⟩) ?post)
 case fin=>
  rintro c st' ⟨S,out,ia,ib,g,rfl,M,h1,h2,h3⟩
  exfalso
  omega
 case post=>
  rintro c st' ⟨S,r,t,rfl,hr⟩
  exact wpS_pure (h r st' hr S)
 case step=>
  rintro x c st' _ hx ⟨S,out,ia,ib,g,rfl,M,h1,h2,h3⟩
  dsimp only
  refine wpS_bind (wpS_mono (wpS_forRange (I:=λy c st'=>Same st st'/\∃out ia ib ac bc,c=(none,out,ia,ib,ac,bc)/\Mrg key a.toList b.toList out.toList ia ib/\ia + 1 < a.size/\ib < b.size/\x + 1 + y<=ia + ib)
   (Q:=λc st'=>Same st st'/\((∃r t,c=(some r,t)/\Res key a.toList b.toList r.toList)\/∃out ia ib ac bc,c=(none,out,ia,ib,ac,bc)/\Mrg key a.toList b.toList out.toList ia ib/\ia + 1 < a.size/\ib < b.size/\x + 2<=ia + ib)) ?istep ?ifin
   ⟨S,out,ia,ib,_,_,rfl,M,h1,h2,by omega⟩) ?ipost)
  case ifin=>
   rintro c st' ⟨S,out,ia,ib,ac,bc,rfl,M,h1,h2,h3⟩
   exact⟨S,.inr ⟨out,ia,ib,ac,bc,rfl,M,h1,h2,by omega⟩⟩
  case istep=>
   rintro y c st' _ hy ⟨S,out,ia,ib,ac,bc,rfl,M,h1,h2,h3⟩
   dsimp only
   obtain⟨p,ep,ep',mp⟩:=eb ib h2
   obtain⟨q,eq,eq',mq⟩:=ea ia (by omega)
   refine wpS_bind (zap ep (wpS_bind (zap eq (wpS_bind (zlo C (S.kind.trans hkd) mp mq ?_)))))
   dsimp only
   cases hlt:O.blt (key p) (key q) with
   | true=>
    simp only[if_true]
    refine wpS_bind (zap ep ?_)
    have M1:Mrg key a.toList b.toList (out.push p).toList ia (ib + 1):=by
     rw[Array.toList_push]
     exact M.push_b sb ep' λy hy=>KeyOrd.kle_trans (KeyOrd.kle_of_klt hlt) (sa.head eq y hy)
    by_cases z:ib + 1=b.size
    ·rw[if_pos (by simpa using z)]
     exact wpS_pure ⟨S,.inl ⟨_,_,rfl,hdone _ _ _ M1 (.inr (by omega))⟩⟩
    ·rw[if_neg (by simpa using z)]
     split
     ·exact wpS_pure ⟨S,.inr ⟨_,_,_,_,_,rfl,M1,h1,by omega,by omega⟩⟩
     ·exact wpS_pure ⟨S,_,_,_,_,_,rfl,M1,h1,by omega,by omega⟩
   | false=>
    simp only[Bool.false_eq_true,if_false]
    refine wpS_bind (zap eq ?_)
    have M1:Mrg key a.toList b.toList (out.push q).toList (ia + 1) ib:=by
     rw[Array.toList_push]
     exact M.push_a sa eq' λy hy=>KeyOrd.kle_trans (show O.kle (key q) (key p) from hlt) (sb.head ep y hy)
    by_cases z:ia + 1 + 1=a.size
    ·rw[if_pos (by simpa using z)]
     exact wpS_pure ⟨S,.inl ⟨_,_,rfl,hlast _ _ _ M1 z⟩⟩
    ·rw[if_neg (by simpa using z)]
     split
     ·exact wpS_pure ⟨S,.inr ⟨_,_,_,_,_,rfl,M1,by omega,h2,by omega⟩⟩
     ·exact wpS_pure ⟨S,_,_,_,_,_,rfl,M1,by omega,h2,by omega⟩
  case ipost=>
   rintro c st' ⟨S,⟨r,t,rfl,hr⟩ | ⟨out,ia,ib,ac,bc,rfl,M,h1,h2,h3⟩⟩
   ·dsimp only
    exact wpS_pure ⟨S,r,_,rfl,hr⟩
   dsimp only
   refine wpS_bind (wpS_lift (wpAny_rule ⟨rfl,?_⟩))
   refine wpS_bind (wpS_mono (wpS_forRange (I:=λy c st'=>Same st st'/\∃out ia ib g ac bc,c=(none,out,ia,ib,g,ac,bc)/\Mrg key a.toList b.toList out.toList ia ib/\ia + 1 < a.size/\ib < b.size/\x + 2<=ia + ib)
    (Q:=λc st'=>Same st st'/\((∃r t,c=(some r,t)/\Res key a.toList b.toList r.toList)\/∃out ia ib g ac bc,c=(none,out,ia,ib,g,ac,bc)/\Mrg key a.toList b.toList out.toList ia ib/\ia + 1 < a.size/\ib < b.size/\x + 2<=ia + ib)) ?gstep ?gfin
    ⟨S,out,ia,ib,_,_,_,rfl,M,h1,h2,h3⟩) ?gpost)
   case gfin=>
    rintro c st' ⟨S,out,ia,ib,g,ac,bc,rfl,M,h1,h2,h3⟩
    exact⟨S,.inr ⟨out,ia,ib,g,ac,bc,rfl,M,h1,h2,h3⟩⟩
   case gpost=>
    rintro c st' ⟨S,⟨r,t,rfl,hr⟩ | ⟨out,ia,ib,g,ac,bc,rfl,M,h1,h2,h3⟩⟩
    ·dsimp only
     exact wpS_pure ⟨S,r,_,rfl,hr⟩
    ·dsimp only
     refine wpS_bind (ziv (wpS_pure ⟨⟨S.kind,S.arr,S.pend,S.fail⟩,out,ia,ib,_,rfl,M,h1,h2,by omega⟩))
   case gstep=>
    rintro y c st' _ hy ⟨S,out,ia,ib,g,ac,bc,rfl,M,h1,h2,h3⟩
    obtain⟨p,ep,ep',mp⟩:=eb ib h2
    --GSTEP
    dsimp only
    by_cases hg:g > 1
    ·rw[if_pos hg]
     refine wpS_bind (zga S λst1 S' => ?_)
     refine wpS_bind (zap ep (wpS_bind (zba C (S'.kind.trans hkd) mp ha (by omega) (by omega) (λi j x y hij hj ex ey=>sa.at (by omega) ex ey) λk hk hk1 hk2 => ?_)))
     have M1:Mrg key a.toList b.toList (out ++ a.extract ia (ia + k)).toList (ia + k) ib:=by
      rw[Array.toList_append,zdg]
      refine M.app_a sa k (by simp;omega) λi z hi1 hi2 ez y hy => ?_
      have e1:=hk1 (i - ia) z (by omega) (by rw[show ia + (i - ia)=i by omega];simpa using ez)
      exact KeyOrd.kle_trans (show O.kle (key z) (key p) by simpa[bey,KeyOrd.kle]using e1) (sb.head ep y hy)
     have hrest:∀y∈a.toList.drop (ia + k),O.kle (key p) (key y):=by
      intro y hy
      obtain⟨j,hj,e⟩:=List.mem_iff_getElem.mp hy
      rw[List.length_drop]at hj
      rw[List.getElem_drop]at e
      have e1:=hk2 (k + j) y (by omega) (by simp at hj;omega) (by rw[<- e];exact Array.getElem?_eq_some_iff.mpr ⟨by simp at hj;omega,by simp;congr 1;omega⟩)
      exact KeyOrd.kle_of_klt (by simpa[bey,KeyOrd.klt]using e1)
     dsimp only
     by_cases hk0:k > 0
     ·rw[if_pos hk0]
      by_cases z1:ia + k + 1=a.size
      ·rw[if_pos (by simpa using z1)]
       exact wpS_pure ⟨S',.inl ⟨_,_,rfl,hlast _ _ _ M1 z1⟩⟩
      rw[if_neg (by simpa using z1)]
      by_cases z2:ia + k=a.size
      ·rw[if_pos (by simpa using z2)]
       exact wpS_pure ⟨S',.inl ⟨_,_,rfl,hdone _ _ _ M1 (.inl (by omega))⟩⟩
      rw[if_neg (by simpa using z2)]
      refine wpS_bind (zap ep ?_)
      have M2:Mrg key a.toList b.toList ((out ++ a.extract ia (ia + k)).push p).toList (ia + k) (ib + 1):=by
       rw[Array.toList_push]
       exact M1.push_b sb ep' hrest
      by_cases z:ib + 1=b.size
      ·rw[if_pos (by simpa using z)]
       exact wpS_pure ⟨S',.inl ⟨_,_,rfl,hdone _ _ _ M2 (.inr (by omega))⟩⟩
      rw[if_neg (by simpa using z)]
      obtain⟨q,eq,eq',mq⟩:=ea (ia + k) (by omega)
      refine wpS_bind (zap eq (wpS_bind (zba C (S'.kind.trans hkd) mq hb (by omega) (by omega) (λi j x y hij hj ex ey=>sb.at (by omega) ex ey) λk2 hk2' hj1 hj2 => ?_)))
      have M3:Mrg key a.toList b.toList ((out ++ a.extract ia (ia + k)).push p ++ b.extract (ib + 1) (ib + 1 + k2)).toList (ia + k) (ib + 1 + k2):=by
       rw[Array.toList_append,zdg]
       refine M2.app_b sb k2 (by simp;omega) λi z hi1 hi2 ez y hy => ?_
       have e1:=hj1 (i - (ib + 1)) z (by omega) (by rw[show ib + 1 + (i - (ib + 1))=i by omega];simpa using ez)
       exact KeyOrd.kle_trans (KeyOrd.kle_of_klt (show O.klt (key z) (key q) by simpa[bey,KeyOrd.klt]using e1)) (sa.head eq y hy)
      have hrest2:∀y∈b.toList.drop (ib + 1 + k2),O.kle (key q) (key y):=by
       intro y hy
       obtain⟨j,hj,e⟩:=List.mem_iff_getElem.mp hy
       rw[List.length_drop]at hj
       rw[List.getElem_drop]at e
       have e1:=hj2 (k2 + j) y (by omega) (by simp at hj;omega) (by rw[<- e];exact Array.getElem?_eq_some_iff.mpr ⟨by simp at hj;omega,by simp;congr 1;omega⟩)
       simpa[bey,KeyOrd.kle]using e1
      dsimp only
      by_cases hk20:k2 > 0
      ·rw[if_pos hk20]
       by_cases z3:ib + 1 + k2=b.size
       ·rw[if_pos (by simpa using z3)]
        exact wpS_pure ⟨S',.inl ⟨_,_,rfl,hdone _ _ _ M3 (.inr (by omega))⟩⟩
       rw[if_neg (by simpa using z3)]
       refine wpS_bind (zap eq ?_)
       have M4:Mrg key a.toList b.toList (((out ++ a.extract ia (ia + k)).push p ++ b.extract (ib + 1) (ib + 1 + k2)).push q).toList (ia + k + 1) (ib + 1 + k2):=by
        rw[Array.toList_push]
        exact M3.push_a sa eq' hrest2
       by_cases z4:ia + k + 1 + 1=a.size
       ·rw[if_pos (by simpa using z4)]
        exact wpS_pure ⟨S',.inl ⟨_,_,rfl,hlast _ _ _ M4 z4⟩⟩
       ·rw[if_neg (by simpa using z4)]
        split
        ·exact wpS_pure ⟨S',.inr ⟨_,_,_,_,_,_,rfl,M4,by omega,by omega,by omega⟩⟩
        ·exact wpS_pure ⟨S',_,_,_,_,_,_,rfl,M4,by omega,by omega,by omega⟩
      ·rw[if_neg hk20]
       have z5:k2=0:=by omega
       subst z5
       refine wpS_bind (zap eq ?_)
       have M4:Mrg key a.toList b.toList (((out ++ a.extract ia (ia + k)).push p).push q).toList (ia + k + 1) (ib + 1):=by
        rw[Array.toList_push]
        exact M2.push_a sa eq' hrest2
       by_cases z4:ia + k + 1 + 1=a.size
       ·rw[if_pos (by simpa using z4)]
        exact wpS_pure ⟨S',.inl ⟨_,_,rfl,hlast _ _ _ M4 z4⟩⟩
       ·rw[if_neg (by simpa using z4)]
        split
        ·exact wpS_pure ⟨S',.inr ⟨_,_,_,_,_,_,rfl,M4,by omega,by omega,by omega⟩⟩
        ·exact wpS_pure ⟨S',_,_,_,_,_,_,rfl,M4,by omega,by omega,by omega⟩
     ·rw[if_neg hk0]
      have z6:k=0:=by omega
      subst z6
      refine wpS_bind (zap ep ?_)
      have M2:Mrg key a.toList b.toList ((out).push p).toList (ia) (ib + 1):=by
       rw[Array.toList_push]
       exact M.push_b sb ep' hrest
      by_cases z:ib + 1=b.size
      ·rw[if_pos (by simpa using z)]
       exact wpS_pure ⟨S',.inl ⟨_,_,rfl,hdone _ _ _ M2 (.inr (by omega))⟩⟩
      rw[if_neg (by simpa using z)]
      obtain⟨q,eq,eq',mq⟩:=ea (ia) (by omega)
      refine wpS_bind (zap eq (wpS_bind (zba C (S'.kind.trans hkd) mq hb (by omega) (by omega) (λi j x y hij hj ex ey=>sb.at (by omega) ex ey) λk2 hk2' hj1 hj2 => ?_)))
      have M3:Mrg key a.toList b.toList ((out).push p ++ b.extract (ib + 1) (ib + 1 + k2)).toList (ia) (ib + 1 + k2):=by
       rw[Array.toList_append,zdg]
       refine M2.app_b sb k2 (by simp;omega) λi z hi1 hi2 ez y hy => ?_
       have e1:=hj1 (i - (ib + 1)) z (by omega) (by rw[show ib + 1 + (i - (ib + 1))=i by omega];simpa using ez)
       exact KeyOrd.kle_trans (KeyOrd.kle_of_klt (show O.klt (key z) (key q) by simpa[bey,KeyOrd.klt]using e1)) (sa.head eq y hy)
      have hrest2:∀y∈b.toList.drop (ib + 1 + k2),O.kle (key q) (key y):=by
       intro y hy
       obtain⟨j,hj,e⟩:=List.mem_iff_getElem.mp hy
       rw[List.length_drop]at hj
       rw[List.getElem_drop]at e
       have e1:=hj2 (k2 + j) y (by omega) (by simp at hj;omega) (by rw[<- e];exact Array.getElem?_eq_some_iff.mpr ⟨by simp at hj;omega,by simp;congr 1;omega⟩)
       simpa[bey,KeyOrd.kle]using e1
      dsimp only
      by_cases hk20:k2 > 0
      ·rw[if_pos hk20]
       by_cases z3:ib + 1 + k2=b.size
       ·rw[if_pos (by simpa using z3)]
        exact wpS_pure ⟨S',.inl ⟨_,_,rfl,hdone _ _ _ M3 (.inr (by omega))⟩⟩
       rw[if_neg (by simpa using z3)]
       refine wpS_bind (zap eq ?_)
       have M4:Mrg key a.toList b.toList (((out).push p ++ b.extract (ib + 1) (ib + 1 + k2)).push q).toList (ia + 1) (ib + 1 + k2):=by
        rw[Array.toList_push]
        exact M3.push_a sa eq' hrest2
       by_cases z4:ia + 1 + 1=a.size
       ·rw[if_pos (by simpa using z4)]
        exact wpS_pure ⟨S',.inl ⟨_,_,rfl,hlast _ _ _ M4 z4⟩⟩
       ·rw[if_neg (by simpa using z4)]
        split
        ·exact wpS_pure ⟨S',.inr ⟨_,_,_,_,_,_,rfl,M4,by omega,by omega,by omega⟩⟩
        ·exact wpS_pure ⟨S',_,_,_,_,_,_,rfl,M4,by omega,by omega,by omega⟩
      ·rw[if_neg hk20]
       have z5:k2=0:=by omega
       subst z5
       refine wpS_bind (zap eq ?_)
       have M4:Mrg key a.toList b.toList (((out).push p).push q).toList (ia + 1) (ib + 1):=by
        rw[Array.toList_push]
        exact M2.push_a sa eq' hrest2
       by_cases z4:ia + 1 + 1=a.size
       ·rw[if_pos (by simpa using z4)]
        exact wpS_pure ⟨S',.inl ⟨_,_,rfl,hlast _ _ _ M4 z4⟩⟩
       ·rw[if_neg (by simpa using z4)]
        split
        ·exact wpS_pure ⟨S',.inr ⟨_,_,_,_,_,_,rfl,M4,by omega,by omega,by omega⟩⟩
        ·exact wpS_pure ⟨S',_,_,_,_,_,_,rfl,M4,by omega,by omega,by omega⟩
    ·rw[if_neg hg]
     refine wpS_bind (zga S λst1 S' => ?_)
     refine wpS_bind (zap ep (wpS_bind (zba C (S'.kind.trans hkd) mp ha (by omega) (by omega) (λi j x y hij hj ex ey=>sa.at (by omega) ex ey) λk hk hk1 hk2 => ?_)))
     have M1:Mrg key a.toList b.toList (out ++ a.extract ia (ia + k)).toList (ia + k) ib:=by
      rw[Array.toList_append,zdg]
      refine M.app_a sa k (by simp;omega) λi z hi1 hi2 ez y hy => ?_
      have e1:=hk1 (i - ia) z (by omega) (by rw[show ia + (i - ia)=i by omega];simpa using ez)
      exact KeyOrd.kle_trans (show O.kle (key z) (key p) by simpa[bey,KeyOrd.kle]using e1) (sb.head ep y hy)
     have hrest:∀y∈a.toList.drop (ia + k),O.kle (key p) (key y):=by
      intro y hy
      obtain⟨j,hj,e⟩:=List.mem_iff_getElem.mp hy
      rw[List.length_drop]at hj
      rw[List.getElem_drop]at e
      have e1:=hk2 (k + j) y (by omega) (by simp at hj;omega) (by rw[<- e];exact Array.getElem?_eq_some_iff.mpr ⟨by simp at hj;omega,by simp;congr 1;omega⟩)
      exact KeyOrd.kle_of_klt (by simpa[bey,KeyOrd.klt]using e1)
     dsimp only
     by_cases hk0:k > 0
     ·rw[if_pos hk0]
      by_cases z1:ia + k + 1=a.size
      ·rw[if_pos (by simpa using z1)]
       exact wpS_pure ⟨S',.inl ⟨_,_,rfl,hlast _ _ _ M1 z1⟩⟩
      rw[if_neg (by simpa using z1)]
      by_cases z2:ia + k=a.size
      ·rw[if_pos (by simpa using z2)]
       exact wpS_pure ⟨S',.inl ⟨_,_,rfl,hdone _ _ _ M1 (.inl (by omega))⟩⟩
      rw[if_neg (by simpa using z2)]
      refine wpS_bind (zap ep ?_)
      have M2:Mrg key a.toList b.toList ((out ++ a.extract ia (ia + k)).push p).toList (ia + k) (ib + 1):=by
       rw[Array.toList_push]
       exact M1.push_b sb ep' hrest
      by_cases z:ib + 1=b.size
      ·rw[if_pos (by simpa using z)]
       exact wpS_pure ⟨S',.inl ⟨_,_,rfl,hdone _ _ _ M2 (.inr (by omega))⟩⟩
      rw[if_neg (by simpa using z)]
      obtain⟨q,eq,eq',mq⟩:=ea (ia + k) (by omega)
      refine wpS_bind (zap eq (wpS_bind (zba C (S'.kind.trans hkd) mq hb (by omega) (by omega) (λi j x y hij hj ex ey=>sb.at (by omega) ex ey) λk2 hk2' hj1 hj2 => ?_)))
      have M3:Mrg key a.toList b.toList ((out ++ a.extract ia (ia + k)).push p ++ b.extract (ib + 1) (ib + 1 + k2)).toList (ia + k) (ib + 1 + k2):=by
       rw[Array.toList_append,zdg]
       refine M2.app_b sb k2 (by simp;omega) λi z hi1 hi2 ez y hy => ?_
       have e1:=hj1 (i - (ib + 1)) z (by omega) (by rw[show ib + 1 + (i - (ib + 1))=i by omega];simpa using ez)
       exact KeyOrd.kle_trans (KeyOrd.kle_of_klt (show O.klt (key z) (key q) by simpa[bey,KeyOrd.klt]using e1)) (sa.head eq y hy)
      have hrest2:∀y∈b.toList.drop (ib + 1 + k2),O.kle (key q) (key y):=by
       intro y hy
       obtain⟨j,hj,e⟩:=List.mem_iff_getElem.mp hy
       rw[List.length_drop]at hj
       rw[List.getElem_drop]at e
       have e1:=hj2 (k2 + j) y (by omega) (by simp at hj;omega) (by rw[<- e];exact Array.getElem?_eq_some_iff.mpr ⟨by simp at hj;omega,by simp;congr 1;omega⟩)
       simpa[bey,KeyOrd.kle]using e1
      dsimp only
      by_cases hk20:k2 > 0
      ·rw[if_pos hk20]
       by_cases z3:ib + 1 + k2=b.size
       ·rw[if_pos (by simpa using z3)]
        exact wpS_pure ⟨S',.inl ⟨_,_,rfl,hdone _ _ _ M3 (.inr (by omega))⟩⟩
       rw[if_neg (by simpa using z3)]
       refine wpS_bind (zap eq ?_)
       have M4:Mrg key a.toList b.toList (((out ++ a.extract ia (ia + k)).push p ++ b.extract (ib + 1) (ib + 1 + k2)).push q).toList (ia + k + 1) (ib + 1 + k2):=by
        rw[Array.toList_push]
        exact M3.push_a sa eq' hrest2
       by_cases z4:ia + k + 1 + 1=a.size
       ·rw[if_pos (by simpa using z4)]
        exact wpS_pure ⟨S',.inl ⟨_,_,rfl,hlast _ _ _ M4 z4⟩⟩
       ·rw[if_neg (by simpa using z4)]
        split
        ·exact wpS_pure ⟨S',.inr ⟨_,_,_,_,_,_,rfl,M4,by omega,by omega,by omega⟩⟩
        ·exact wpS_pure ⟨S',_,_,_,_,_,_,rfl,M4,by omega,by omega,by omega⟩
      ·rw[if_neg hk20]
       have z5:k2=0:=by omega
       subst z5
       refine wpS_bind (zap eq ?_)
       have M4:Mrg key a.toList b.toList (((out ++ a.extract ia (ia + k)).push p).push q).toList (ia + k + 1) (ib + 1):=by
        rw[Array.toList_push]
        exact M2.push_a sa eq' hrest2
       by_cases z4:ia + k + 1 + 1=a.size
       ·rw[if_pos (by simpa using z4)]
        exact wpS_pure ⟨S',.inl ⟨_,_,rfl,hlast _ _ _ M4 z4⟩⟩
       ·rw[if_neg (by simpa using z4)]
        split
        ·exact wpS_pure ⟨S',.inr ⟨_,_,_,_,_,_,rfl,M4,by omega,by omega,by omega⟩⟩
        ·exact wpS_pure ⟨S',_,_,_,_,_,_,rfl,M4,by omega,by omega,by omega⟩
     ·rw[if_neg hk0]
      have z6:k=0:=by omega
      subst z6
      refine wpS_bind (zap ep ?_)
      have M2:Mrg key a.toList b.toList ((out).push p).toList (ia) (ib + 1):=by
       rw[Array.toList_push]
       exact M.push_b sb ep' hrest
      by_cases z:ib + 1=b.size
      ·rw[if_pos (by simpa using z)]
       exact wpS_pure ⟨S',.inl ⟨_,_,rfl,hdone _ _ _ M2 (.inr (by omega))⟩⟩
      rw[if_neg (by simpa using z)]
      obtain⟨q,eq,eq',mq⟩:=ea (ia) (by omega)
      refine wpS_bind (zap eq (wpS_bind (zba C (S'.kind.trans hkd) mq hb (by omega) (by omega) (λi j x y hij hj ex ey=>sb.at (by omega) ex ey) λk2 hk2' hj1 hj2 => ?_)))
      have M3:Mrg key a.toList b.toList ((out).push p ++ b.extract (ib + 1) (ib + 1 + k2)).toList (ia) (ib + 1 + k2):=by
       rw[Array.toList_append,zdg]
       refine M2.app_b sb k2 (by simp;omega) λi z hi1 hi2 ez y hy => ?_
       have e1:=hj1 (i - (ib + 1)) z (by omega) (by rw[show ib + 1 + (i - (ib + 1))=i by omega];simpa using ez)
       exact KeyOrd.kle_trans (KeyOrd.kle_of_klt (show O.klt (key z) (key q) by simpa[bey,KeyOrd.klt]using e1)) (sa.head eq y hy)
      have hrest2:∀y∈b.toList.drop (ib + 1 + k2),O.kle (key q) (key y):=by
       intro y hy
       obtain⟨j,hj,e⟩:=List.mem_iff_getElem.mp hy
       rw[List.length_drop]at hj
       rw[List.getElem_drop]at e
       have e1:=hj2 (k2 + j) y (by omega) (by simp at hj;omega) (by rw[<- e];exact Array.getElem?_eq_some_iff.mpr ⟨by simp at hj;omega,by simp;congr 1;omega⟩)
       simpa[bey,KeyOrd.kle]using e1
      dsimp only
      by_cases hk20:k2 > 0
      ·rw[if_pos hk20]
       by_cases z3:ib + 1 + k2=b.size
       ·rw[if_pos (by simpa using z3)]
        exact wpS_pure ⟨S',.inl ⟨_,_,rfl,hdone _ _ _ M3 (.inr (by omega))⟩⟩
       rw[if_neg (by simpa using z3)]
       refine wpS_bind (zap eq ?_)
       have M4:Mrg key a.toList b.toList (((out).push p ++ b.extract (ib + 1) (ib + 1 + k2)).push q).toList (ia + 1) (ib + 1 + k2):=by
        rw[Array.toList_push]
        exact M3.push_a sa eq' hrest2
       by_cases z4:ia + 1 + 1=a.size
       ·rw[if_pos (by simpa using z4)]
        exact wpS_pure ⟨S',.inl ⟨_,_,rfl,hlast _ _ _ M4 z4⟩⟩
       ·rw[if_neg (by simpa using z4)]
        split
        ·exact wpS_pure ⟨S',.inr ⟨_,_,_,_,_,_,rfl,M4,by omega,by omega,by omega⟩⟩
        ·exact wpS_pure ⟨S',_,_,_,_,_,_,rfl,M4,by omega,by omega,by omega⟩
      ·rw[if_neg hk20]
       have z5:k2=0:=by omega
       subst z5
       refine wpS_bind (zap eq ?_)
       have M4:Mrg key a.toList b.toList (((out).push p).push q).toList (ia + 1) (ib + 1):=by
        rw[Array.toList_push]
        exact M2.push_a sa eq' hrest2
       by_cases z4:ia + 1 + 1=a.size
       ·rw[if_pos (by simpa using z4)]
        exact wpS_pure ⟨S',.inl ⟨_,_,rfl,hlast _ _ _ M4 z4⟩⟩
       ·rw[if_neg (by simpa using z4)]
        split
        ·exact wpS_pure ⟨S',.inr ⟨_,_,_,_,_,_,rfl,M4,by omega,by omega,by omega⟩⟩
        ·exact wpS_pure ⟨S',_,_,_,_,_,_,rfl,M4,by omega,by omega,by omega⟩
end
end TS
namespace TS
open PySem PyProof.Rows
local macro_rules | `(tactic| walk_at "sort mergeHi") => do `(tactic| delta $(Lean.mkIdent (Lean.mkPrivateNameCore `PySem.Builtin.List.W1All `PySem.Builtin.mergeHi)):ident)
section
variable{O:KeyOrd}(key:Keyed->O.α)
structure MrgH(la lb o:List Keyed)(na nb:Nat):Prop where
 perm:(la.take na ++ lb.take nb ++ o.reverse).Perm (la ++ lb)
 srt:Srt key o.reverse
 lea:∀x∈la.take na,∀y∈o,O.kle (key x) (key y)
 leb:∀x∈lb.take nb,∀y∈o,O.kle (key x) (key y)
variable{key}{la lb o:List Keyed}{na nb:Nat}{x:Keyed}
theorem ze7(h:0 < na)(e:la[na - 1]? = some x):la.take na=la.take (na - 1) ++ [x]:=by
 obtain⟨hl,rfl⟩:=List.getElem?_eq_some_iff.mp e
 have:=List.take_succ_eq_append_getElem (l:=la) (i:=na - 1) hl
 rwa [show na - 1 + 1=na by omega]at this
theorem Srt.take(h:Srt key la)(n:Nat):Srt key (la.take n):=List.Pairwise.sublist (List.take_sublist _ _) h
theorem MrgH.start(hna:la.length<=na)(hnb:lb.length<=nb):MrgH key la lb [] na nb:=⟨by simp[List.take_of_length_le hna,List.take_of_length_le hnb],List.Pairwise.nil,by simp,by simp⟩
theorem MrgH.push_a(sa:Srt key la)(M:MrgH key la lb o na nb)(h0:0 < na)(e:la[na - 1]? = some x)(h:∀y∈lb.take nb,O.kle (key y) (key x)):MrgH key la lb (o ++ [x]) (na - 1) nb:=by
 have d:=ze7 h0 e
 have s2:=sa.take na
 rw[d]at s2
 have s3:=(List.pairwise_append.mp s2).2.2
 refine⟨?_,?_,λy hy z hz => ?_,λy hy z hz => ?_⟩
 ·have p:=M.perm
  rw[d]at p
  refine List.Perm.trans ?_ p
  simp only[List.reverse_append,List.reverse_singleton,List.append_assoc,List.singleton_append]
  refine List.Perm.append_left _ ?_
  exact List.perm_middle
 ·rw[List.reverse_append,List.reverse_singleton,List.singleton_append]
  exact List.pairwise_cons.mpr ⟨λy hy=>M.lea x (by rw[d];simp) y (by simpa using hy),M.srt⟩
 ·rcases List.mem_append.mp hz with hz | hz
  ·exact M.lea y (by rw[d];exact List.mem_append_left _ hy) z hz
  ·rw[List.mem_singleton.mp hz];exact s3 y hy x (by simp)
 ·rcases List.mem_append.mp hz with hz | hz
  ·exact M.leb y hy z hz
  ·rw[List.mem_singleton.mp hz];exact h y hy
theorem MrgH.push_b(sb:Srt key lb)(M:MrgH key la lb o na nb)(h0:0 < nb)(e:lb[nb - 1]? = some x)(h:∀y∈la.take na,O.kle (key y) (key x)):MrgH key la lb (o ++ [x]) na (nb - 1):=by
 have d:=ze7 h0 e
 have s2:=sb.take nb
 rw[d]at s2
 have s3:=(List.pairwise_append.mp s2).2.2
 refine⟨?_,?_,λy hy z hz => ?_,λy hy z hz => ?_⟩
 ·have p:=M.perm
  rw[d]at p
  refine List.Perm.trans ?_ p
  simp only[List.reverse_append,List.reverse_singleton,List.append_assoc,List.singleton_append]
  exact List.Perm.refl _
 ·rw[List.reverse_append,List.reverse_singleton,List.singleton_append]
  exact List.pairwise_cons.mpr ⟨λy hy=>M.leb x (by rw[d];simp) y (by simpa using hy),M.srt⟩
 ·rcases List.mem_append.mp hz with hz | hz
  ·exact M.lea y hy z hz
  ·rw[List.mem_singleton.mp hz];exact h y hy
 ·rcases List.mem_append.mp hz with hz | hz
  ·exact M.leb y (by rw[d];exact List.mem_append_left _ hy) z hz
  ·rw[List.mem_singleton.mp hz];exact s3 y hy x (by simp)
theorem MrgH.app_a(sa:Srt key la)(at_:Nat):∀(k:Nat) {o:List Keyed} {na:Nat},MrgH key la lb o na nb->na=at_ + k->na<=la.length->(∀i x,at_<=i->i < na->la[i]? = some x->∀y∈lb.take nb,O.kle (key y) (key x)) ->
  MrgH key la lb (o ++ ((la.take na).drop at_).reverse) at_ nb
 | 0,o,na,M,e,_,_=>by
  have:na=at_:=by omega
  subst this
  rw[List.drop_eq_nil_of_le (by simp;omega)]
  simpa using M
 | k + 1,o,na,M,e,hl,h=>by
  have ex:la[na - 1]? = some la[na - 1]:=List.getElem?_eq_getElem (by omega)
  have M1:=M.push_a sa (by omega) ex (h (na - 1) _ (by omega) (by omega) ex)
  have M2:=MrgH.app_a sa at_ k M1 (by omega) (by omega) λi x h1 h2 e'=>h i x h1 (by omega) e'
  rw[ze7 (by omega) ex,List.drop_append_of_le_length (by simp;omega),List.reverse_append]
  simpa using M2
theorem MrgH.app_b(sb:Srt key lb)(at_:Nat):∀(k:Nat) {o:List Keyed} {nb:Nat},MrgH key la lb o na nb->nb=at_ + k->nb<=lb.length->(∀i x,at_<=i->i < nb->lb[i]? = some x->∀y∈la.take na,O.kle (key y) (key x)) ->
  MrgH key la lb (o ++ ((lb.take nb).drop at_).reverse) na at_
 | 0,o,nb,M,e,_,_=>by
  have:nb=at_:=by omega
  subst this
  rw[List.drop_eq_nil_of_le (by simp;omega)]
  simpa using M
 | k + 1,o,nb,M,e,hl,h=>by
  have ex:lb[nb - 1]? = some lb[nb - 1]:=List.getElem?_eq_getElem (by omega)
  have M1:=M.push_b sb (by omega) ex (h (nb - 1) _ (by omega) (by omega) ex)
  have M2:=MrgH.app_b sb at_ k M1 (by omega) (by omega) λi x h1 h2 e'=>h i x h1 (by omega) e'
  rw[ze7 (by omega) ex,List.drop_append_of_le_length (by simp;omega),List.reverse_append]
  simpa using M2
theorem MrgH.done(sa:Srt key la)(sb:Srt key lb)(M:MrgH key la lb o na nb)(h:na=0\/nb=0):Res key la lb (la.take na ++ lb.take nb ++ o.reverse):=by
 refine⟨M.perm,?_⟩
 rcases h with rfl | rfl
 ·rw[List.take_zero,List.nil_append]
  exact List.pairwise_append.mpr ⟨sb.take _,M.srt,λx hx y hy=>M.leb x hx y (by simpa using hy)⟩
 ·rw[List.take_zero,List.append_nil]
  exact List.pairwise_append.mpr ⟨sa.take _,M.srt,λx hx y hy=>M.lea x hx y (by simpa using hy)⟩
theorem MrgH.first(sa:Srt key la)(sb:Srt key lb)(M:MrgH key la lb o na nb)(h:∀x∈lb.take nb,∀y∈la,O.kle (key x) (key y)):Res key la lb (lb.take nb ++ la.take na ++ o.reverse):=by
 refine⟨?_,?_⟩
 ·exact List.Perm.trans (List.Perm.append_right _ List.perm_append_comm) M.perm
 ·refine List.pairwise_append.mpr ⟨List.pairwise_append.mpr ⟨sb.take _,sa.take _,λx hx y hy=>h x hx y (List.mem_of_mem_take hy)⟩,M.srt,λx hx y hy => ?_⟩
  rcases List.mem_append.mp hx with hx | hx
  ·exact M.leb x hx y (by simpa using hy)
  ·exact M.lea x hx y (by simpa using hy)
theorem Srt.foot{a:Array Keyed}(h:Srt key a.toList){i:Nat}{x:Keyed}(hi:0 < i)(ex:a[i - 1]? = some x):∀y∈a.toList.take i,O.kle (key y) (key x):=by
 intro y hy
 obtain⟨j,hj,e⟩:=List.mem_iff_getElem.mp hy
 rw[List.getElem_take]at e
 rw[List.length_take]at hj
 refine h.at (i:=j) (j:=i - 1) (by omega) ?_ ex
 rw[<- e]
 exact Array.getElem?_eq_some_iff.mpr ⟨by simp at hj;omega,by simp⟩
theorem zju(a:Array Keyed)(i:Nat):(a.extract 0 i).toList=a.toList.take i:=by simp[List.extract_eq_drop_take]
theorem zd5(a:Array Keyed)(i j:Nat):(a.extract i j).toList=(a.toList.take j).drop i:=by simp[List.extract_eq_drop_take,List.drop_take]
end
section
variable{prog:Program}{w:World}{A:Around}{E:Value->Shared->Prop}{s:Shared}{kd:SortKind}{a₀:Array Keyed}{O:KeyOrd}{key:Keyed->O.α}
theorem zkh(C:Cmp prog w A s kd a₀ O key){a b:Array Keyed}{st:SortSt}{Q:Array Keyed->SortSt->Prop}(hkd:kindOf st=kd)(ha:∀x∈a.toList,x∈a₀.toList)(hb:∀x∈b.toList,x∈a₀.toList)(sa:Srt key a.toList)(sb:Srt key b.toList)
  (za:0 < a.size) (zb:0 < b.size) (h0:∀y∈a.toList,O.kle (key b[0]) (key y)) (hl:∀x∈b.toList,O.kle (key x) (key a[a.size - 1]))
  (h:∀r st',Res key a.toList b.toList r.toList->Same st st'->Q r st') :
  wpS (model prog w) A E s ((sortPriv% PySem.Builtin.mergeHi) a b) Q st:=by
 have ea:∀i,i < a.size->∃x,a[i]? = some x/\a.toList[i]? = some x/\x∈a₀.toList:=λi hi=>⟨a[i],getElem?_pos ..,by simp[hi],ha _ (by simp)⟩
 have eb:∀i,i < b.size->∃x,b[i]? = some x/\b.toList[i]? = some x/\x∈a₀.toList:=λi hi=>⟨b[i],getElem?_pos ..,by simp[hi],hb _ (by simp)⟩
 have firstB:∀x∈b.toList.take 1,∀y∈a.toList,O.kle (key x) (key y):=by
  intro x hx y hy
  obtain⟨z,e1,e2,_⟩:=eb 0 zb
  rw[ze7 (na:=1) (by omega) e2]at hx
  have ez:b[0]=z:=by rw[getElem?_pos b 0 zb]at e1;injection e1
  have hxz:x=z:=by simpa using hx
  rw[hxz,<- ez];exact h0 y hy
 walk_at "sort mergeHi"
 extract_lets total done firstOfB n1 n2 n3
 have hdone:∀out na nb,MrgH key a.toList b.toList out.toList na nb->(na=0\/nb=0)->Res key a.toList b.toList (done out na nb).toList:=by
  intro out na nb M hz
  have:=M.done sa sb hz
  show Res key _ _ (a.extract 0 na ++ b.extract 0 nb ++ out.reverse).toList
  rw[Array.toList_append,Array.toList_append,zju,zju,Array.toList_reverse]
  exact this
 have hfirst:∀out na nb,MrgH key a.toList b.toList out.toList na nb->nb=1->Res key a.toList b.toList (firstOfB out na nb).toList:=by
  intro out na nb M hz
  have:=M.first sa sb (by rw[hz];exact firstB)
  show Res key _ _ (b.extract 0 nb ++ a.extract 0 na ++ out.reverse).toList
  rw[Array.toList_append,Array.toList_append,zju,zju,Array.toList_reverse]
  exact this
 have htot:total=a.size + b.size:=rfl
 clear_value total done firstOfB
 refine wpS_bind (wpS_lift (wpAny_rule ⟨rfl,?_⟩))
 obtain⟨p0,e0,e0',m0⟩:=ea (a.size - 1) (by omega)
 have hp0:a[a.size - 1]=p0:=by rw[getElem?_pos a (a.size - 1) (by omega)]at e0;injection e0
 refine wpS_bind (zap (show a[n1]? = some p0 from e0) ?_)
 have M0:MrgH key a.toList b.toList (#[p0]:Array Keyed).toList (a.size - 1) b.size:=(MrgH.start (by simp) (by simp)).push_a sa za e0' λy hy=>by rw[<- hp0];exact hl y (List.mem_of_mem_take hy)
 have S0:Same st st:=⟨rfl,rfl,rfl,rfl⟩
 by_cases z1:a.size - 1=0
 ·rw[if_pos (by show ((a.size - 1:Nat) == 0)=true;rw[z1];rfl)]
  exact wpS_pure (h _ _ (hdone _ _ _ M0 (.inl z1)) S0)
 rw[if_neg (by show ¬((a.size - 1:Nat) == 0)=true;simpa using z1)]
 by_cases z2:b.size=1
 ·rw[if_pos (by show ((b.size:Nat) == 1)=true;rw[z2];rfl)]
  exact wpS_pure (h _ _ (hfirst _ _ _ M0 z2) S0)
 rw[if_neg (by show ¬((b.size:Nat) == 1)=true;simpa using z2)]
 refine wpS_bind (wpS_get ?_)
 dsimp only
 refine wpS_bind (wpS_mono (wpS_forRange (I:=λx c st'=>Same st st'/\∃na nb out g,c=(none,na,nb,out,g)/\MrgH key a.toList b.toList out.toList na nb/\0 < na/\na<=a.size/\1 < nb/\nb<=b.size/\na + nb + x + 1<=a.size + b.size)
  (Q:=λc st'=>Same st st'/\(∃r t,c=(some r,t)/\Res key a.toList b.toList r.toList)) ?step ?fin ⟨S0,_,_,_,_,rfl,M0,by omega,by omega,by omega,by omega,by omega⟩) ?post)
 case fin=>
  rintro c st' ⟨S,na,nb,out,g,rfl,M,h1,h1',h2,h2',h3⟩
  exfalso
  omega
 case post=>
  rintro c st' ⟨S,r,t,rfl,hr⟩
  exact wpS_pure (h r st' hr S)
 case step=>
  rintro x c st' _ hx ⟨S,na,nb,out,g,rfl,M,h1,h1',h2,h2',h3⟩
  dsimp only
  refine wpS_bind (wpS_mono (wpS_forRange (I:=λy c st'=>Same st st'/\∃na nb out ac bc,c=(none,na,nb,out,ac,bc)/\MrgH key a.toList b.toList out.toList na nb/\0 < na/\na<=a.size/\1 < nb/\nb<=b.size/\na + nb + x + 1 + y<=a.size + b.size)
   (Q:=λc st'=>Same st st'/\((∃r t,c=(some r,t)/\Res key a.toList b.toList r.toList)\/∃na nb out ac bc,c=(none,na,nb,out,ac,bc)/\MrgH key a.toList b.toList out.toList na nb/\0 < na/\na<=a.size/\1 < nb/\nb<=b.size/\na + nb + x + 2<=a.size + b.size)) ?istep ?ifin
   ⟨S,na,nb,out,_,_,rfl,M,h1,h1',h2,h2',by omega⟩) ?ipost)
  case ifin=>
   rintro c st' ⟨S,na,nb,out,ac,bc,rfl,M,h1,h1',h2,h2',h3⟩
   exact⟨S,.inr ⟨na,nb,out,ac,bc,rfl,M,h1,h1',h2,h2',by omega⟩⟩
  case istep=>
   rintro y c st' _ hy ⟨S,na,nb,out,ac,bc,rfl,M,h1,h1',h2,h2',h3⟩
   dsimp only
   obtain⟨p,ep,ep',mp⟩:=eb (nb - 1) (by omega)
   obtain⟨q,eq,eq',mq⟩:=ea (na - 1) (by omega)
   refine wpS_bind (zap ep (wpS_bind (zap eq (wpS_bind (zlo C (S.kind.trans hkd) mp mq ?_)))))
   dsimp only
   cases hlt:O.blt (key p) (key q) with
   | true=>
    simp only[if_true]
    refine wpS_bind (zap eq ?_)
    have M1:MrgH key a.toList b.toList (out.push q).toList (na - 1) nb:=by
     rw[Array.toList_push]
     exact M.push_a sa h1 eq' λy hy=>KeyOrd.kle_trans (sb.foot (by omega) ep y hy) (KeyOrd.kle_of_klt hlt)
    by_cases z:na - 1=0
    ·rw[if_pos (by simpa using z)]
     exact wpS_pure ⟨S,.inl ⟨_,_,rfl,hdone _ _ _ M1 (.inl z)⟩⟩
    ·rw[if_neg (by simpa using z)]
     split
     ·exact wpS_pure ⟨S,.inr ⟨_,_,_,_,_,rfl,M1,by omega,by omega,h2,h2',by omega⟩⟩
     ·exact wpS_pure ⟨S,_,_,_,_,_,rfl,M1,by omega,by omega,h2,h2',by omega⟩
   | false=>
    simp only[Bool.false_eq_true,if_false]
    refine wpS_bind (zap ep ?_)
    have M1:MrgH key a.toList b.toList (out.push p).toList na (nb - 1):=by
     rw[Array.toList_push]
     exact M.push_b sb (by omega) ep' λy hy=>KeyOrd.kle_trans (sa.foot h1 eq y hy) (show O.kle (key q) (key p) from hlt)
    by_cases z:nb - 1=1
    ·rw[if_pos (by simpa using z)]
     exact wpS_pure ⟨S,.inl ⟨_,_,rfl,hfirst _ _ _ M1 z⟩⟩
    ·rw[if_neg (by simpa using z)]
     split
     ·exact wpS_pure ⟨S,.inr ⟨_,_,_,_,_,rfl,M1,h1,h1',by omega,by omega,by omega⟩⟩
     ·exact wpS_pure ⟨S,_,_,_,_,_,rfl,M1,h1,h1',by omega,by omega,by omega⟩
  case ipost=>
   rintro c st' ⟨S,⟨r,t,rfl,hr⟩ | ⟨na,nb,out,ac,bc,rfl,M,h1,h1',h2,h2',h3⟩⟩
   ·dsimp only
    exact wpS_pure ⟨S,r,_,rfl,hr⟩
   dsimp only
   refine wpS_bind (wpS_lift (wpAny_rule ⟨rfl,?_⟩))
   refine wpS_bind (wpS_mono (wpS_forRange (I:=λy c st'=>Same st st'/\∃na nb out g ac bc,c=(none,na,nb,out,g,ac,bc)/\MrgH key a.toList b.toList out.toList na nb/\0 < na/\na<=a.size/\1 < nb/\nb<=b.size/\na + nb + x + 2<=a.size + b.size)
    (Q:=λc st'=>Same st st'/\((∃r t,c=(some r,t)/\Res key a.toList b.toList r.toList)\/∃na nb out g ac bc,c=(none,na,nb,out,g,ac,bc)/\MrgH key a.toList b.toList out.toList na nb/\0 < na/\na<=a.size/\1 < nb/\nb<=b.size/\na + nb + x + 2<=a.size + b.size)) ?gstep ?gfin
    ⟨S,na,nb,out,_,_,_,rfl,M,h1,h1',h2,h2',h3⟩) ?gpost)
   case gfin=>
    rintro c st' ⟨S,na,nb,out,g,ac,bc,rfl,M,h1,h1',h2,h2',h3⟩
    exact⟨S,.inr ⟨na,nb,out,g,ac,bc,rfl,M,h1,h1',h2,h2',h3⟩⟩
   case gpost=>
    rintro c st' ⟨S,⟨r,t,rfl,hr⟩ | ⟨na,nb,out,g,ac,bc,rfl,M,h1,h1',h2,h2',h3⟩⟩
    ·dsimp only
     exact wpS_pure ⟨S,r,_,rfl,hr⟩
    ·dsimp only
     refine wpS_bind (ziv (wpS_pure ⟨⟨S.kind,S.arr,S.pend,S.fail⟩,na,nb,out,_,rfl,M,h1,h1',h2,h2',by omega⟩))
   case gstep=>
    rintro y c st' _ hy ⟨S,na,nb,out,g,ac,bc,rfl,M,h1,h1',h2,h2',h3⟩
    obtain⟨p,ep,ep',mp⟩:=eb (nb - 1) (by omega)
    dsimp only
    by_cases hg:g > 1
    ·rw[if_pos hg]
     refine wpS_bind (zga S λst1 S' => ?_)
     refine wpS_bind (zap ep (wpS_bind (zba C (S'.kind.trans hkd) mp ha (by omega) (by omega) (λi j x y hij hj ex ey=>sa.at (by omega) ex ey) λat1 hk hk1 hk2 => ?_)))
     simp only[Nat.zero_add]at hk1 hk2
     have M1:MrgH key a.toList b.toList (out ++ (a.extract at1 na).reverse).toList at1 nb:=by
      rw[Array.toList_append,Array.toList_reverse,zd5]
      refine M.app_a sa at1 (na - at1) (by omega) (by simp;omega) λi z hi1 hi2 ez y hy => ?_
      have e1:=hk2 i z hi1 hi2 (by simpa using ez)
      exact KeyOrd.kle_trans (sb.foot (by omega) ep y hy) (KeyOrd.kle_of_klt (show O.klt (key p) (key z) by simpa[bey,KeyOrd.klt]using e1))
     have hrest:∀y∈a.toList.take at1,O.kle (key y) (key p):=by
      intro y hy
      obtain⟨j,hj,e⟩:=List.mem_iff_getElem.mp hy
      rw[List.length_take]at hj
      rw[List.getElem_take]at e
      have e1:=hk1 j y (by omega) (by rw[<- e];exact Array.getElem?_eq_some_iff.mpr ⟨by simp at hj;omega,by simp⟩)
      simpa[bey,KeyOrd.kle]using e1
     dsimp only
     by_cases hk0:na - at1 > 0
     ·rw[if_pos hk0]
      by_cases z1:at1=0
      ·rw[if_pos (by simpa using z1)]
       exact wpS_pure ⟨S',.inl ⟨_,_,rfl,hdone _ _ _ M1 (.inl z1)⟩⟩
      rw[if_neg (by simpa using z1)]
      refine wpS_bind (zap ep ?_)
      have M2:MrgH key a.toList b.toList ((out ++ (a.extract at1 na).reverse).push p).toList (at1) (nb - 1):=by
       rw[Array.toList_push]
       exact M1.push_b sb (by omega) ep' hrest
      by_cases z:nb - 1=1
      ·rw[if_pos (by simpa using z)]
       exact wpS_pure ⟨S',.inl ⟨_,_,rfl,hfirst _ _ _ M2 z⟩⟩
      rw[if_neg (by simpa using z)]
      obtain⟨q,eq,eq',mq⟩:=ea (at1 - 1) (by omega)
      refine wpS_bind (zap eq (wpS_bind (zba C (S'.kind.trans hkd) mq hb (by omega) (by omega) (λi j x y hij hj ex ey=>sb.at (by omega) ex ey) λat2 hk2' hj1 hj2 => ?_)))
      simp only[Nat.zero_add]at hj1 hj2
      have M3:MrgH key a.toList b.toList ((out ++ (a.extract at1 na).reverse).push p ++ (b.extract at2 (nb - 1)).reverse).toList (at1) at2:=by
       rw[Array.toList_append,Array.toList_reverse,zd5]
       refine M2.app_b sb at2 (nb - 1 - at2) (by omega) (by simp;omega) λi z hi1 hi2 ez y hy => ?_
       have e1:=hj2 i z hi1 hi2 (by simpa using ez)
       exact KeyOrd.kle_trans (sa.foot (by omega) eq y hy) (show O.kle (key q) (key z) by simpa[bey,KeyOrd.kle]using e1)
      have hrest2:∀y∈b.toList.take at2,O.kle (key y) (key q):=by
       intro y hy
       obtain⟨j,hj,e⟩:=List.mem_iff_getElem.mp hy
       rw[List.length_take]at hj
       rw[List.getElem_take]at e
       have e1:=hj1 j y (by omega) (by rw[<- e];exact Array.getElem?_eq_some_iff.mpr ⟨by simp at hj;omega,by simp⟩)
       exact KeyOrd.kle_of_klt (by simpa[bey,KeyOrd.klt]using e1)
      dsimp only
      by_cases hk20:nb - 1 - at2 > 0
      ·rw[if_pos hk20]
       by_cases z3:at2=1
       ·rw[if_pos (by simpa using z3)]
        exact wpS_pure ⟨S',.inl ⟨_,_,rfl,hfirst _ _ _ M3 z3⟩⟩
       rw[if_neg (by simpa using z3)]
       by_cases z5:at2=0
       ·rw[if_pos (by simpa using z5)]
        exact wpS_pure ⟨S',.inl ⟨_,_,rfl,hdone _ _ _ M3 (.inr z5)⟩⟩
       rw[if_neg (by simpa using z5)]
       refine wpS_bind (zap eq ?_)
       have M4:MrgH key a.toList b.toList (((out ++ (a.extract at1 na).reverse).push p ++ (b.extract at2 (nb - 1)).reverse).push q).toList (at1 - 1) (at2):=by
        rw[Array.toList_push]
        exact M3.push_a sa (by omega) eq' hrest2
       by_cases z4:at1 - 1=0
       ·rw[if_pos (by simpa using z4)]
        exact wpS_pure ⟨S',.inl ⟨_,_,rfl,hdone _ _ _ M4 (.inl z4)⟩⟩
       ·rw[if_neg (by simpa using z4)]
        split
        ·exact wpS_pure ⟨S',.inr ⟨_,_,_,_,_,_,rfl,M4,by omega,by omega,by omega,by omega,by omega⟩⟩
        ·exact wpS_pure ⟨S',_,_,_,_,_,_,rfl,M4,by omega,by omega,by omega,by omega,by omega⟩
      ·rw[if_neg hk20]
       have z5:at2=nb - 1:=by omega
       subst z5
       refine wpS_bind (zap eq ?_)
       have M4:MrgH key a.toList b.toList (((out ++ (a.extract at1 na).reverse).push p).push q).toList (at1 - 1) (nb - 1):=by
        rw[Array.toList_push]
        exact M2.push_a sa (by omega) eq' hrest2
       by_cases z4:at1 - 1=0
       ·rw[if_pos (by simpa using z4)]
        exact wpS_pure ⟨S',.inl ⟨_,_,rfl,hdone _ _ _ M4 (.inl z4)⟩⟩
       ·rw[if_neg (by simpa using z4)]
        split
        ·exact wpS_pure ⟨S',.inr ⟨_,_,_,_,_,_,rfl,M4,by omega,by omega,by omega,by omega,by omega⟩⟩
        ·exact wpS_pure ⟨S',_,_,_,_,_,_,rfl,M4,by omega,by omega,by omega,by omega,by omega⟩
     ·rw[if_neg hk0]
      have z6:at1=na:=by omega
      subst z6
      refine wpS_bind (zap ep ?_)
      have M2:MrgH key a.toList b.toList ((out).push p).toList (at1) (nb - 1):=by
       rw[Array.toList_push]
       exact M.push_b sb (by omega) ep' hrest
      by_cases z:nb - 1=1
      ·rw[if_pos (by simpa using z)]
       exact wpS_pure ⟨S',.inl ⟨_,_,rfl,hfirst _ _ _ M2 z⟩⟩
      rw[if_neg (by simpa using z)]
      obtain⟨q,eq,eq',mq⟩:=ea (at1 - 1) (by omega)
      refine wpS_bind (zap eq (wpS_bind (zba C (S'.kind.trans hkd) mq hb (by omega) (by omega) (λi j x y hij hj ex ey=>sb.at (by omega) ex ey) λat2 hk2' hj1 hj2 => ?_)))
      simp only[Nat.zero_add]at hj1 hj2
      have M3:MrgH key a.toList b.toList ((out).push p ++ (b.extract at2 (nb - 1)).reverse).toList (at1) at2:=by
       rw[Array.toList_append,Array.toList_reverse,zd5]
       refine M2.app_b sb at2 (nb - 1 - at2) (by omega) (by simp;omega) λi z hi1 hi2 ez y hy => ?_
       have e1:=hj2 i z hi1 hi2 (by simpa using ez)
       exact KeyOrd.kle_trans (sa.foot (by omega) eq y hy) (show O.kle (key q) (key z) by simpa[bey,KeyOrd.kle]using e1)
      have hrest2:∀y∈b.toList.take at2,O.kle (key y) (key q):=by
       intro y hy
       obtain⟨j,hj,e⟩:=List.mem_iff_getElem.mp hy
       rw[List.length_take]at hj
       rw[List.getElem_take]at e
       have e1:=hj1 j y (by omega) (by rw[<- e];exact Array.getElem?_eq_some_iff.mpr ⟨by simp at hj;omega,by simp⟩)
       exact KeyOrd.kle_of_klt (by simpa[bey,KeyOrd.klt]using e1)
      dsimp only
      by_cases hk20:nb - 1 - at2 > 0
      ·rw[if_pos hk20]
       by_cases z3:at2=1
       ·rw[if_pos (by simpa using z3)]
        exact wpS_pure ⟨S',.inl ⟨_,_,rfl,hfirst _ _ _ M3 z3⟩⟩
       rw[if_neg (by simpa using z3)]
       by_cases z5:at2=0
       ·rw[if_pos (by simpa using z5)]
        exact wpS_pure ⟨S',.inl ⟨_,_,rfl,hdone _ _ _ M3 (.inr z5)⟩⟩
       rw[if_neg (by simpa using z5)]
       refine wpS_bind (zap eq ?_)
       have M4:MrgH key a.toList b.toList (((out).push p ++ (b.extract at2 (nb - 1)).reverse).push q).toList (at1 - 1) (at2):=by
        rw[Array.toList_push]
        exact M3.push_a sa (by omega) eq' hrest2
       by_cases z4:at1 - 1=0
       ·rw[if_pos (by simpa using z4)]
        exact wpS_pure ⟨S',.inl ⟨_,_,rfl,hdone _ _ _ M4 (.inl z4)⟩⟩
       ·rw[if_neg (by simpa using z4)]
        split
        ·exact wpS_pure ⟨S',.inr ⟨_,_,_,_,_,_,rfl,M4,by omega,by omega,by omega,by omega,by omega⟩⟩
        ·exact wpS_pure ⟨S',_,_,_,_,_,_,rfl,M4,by omega,by omega,by omega,by omega,by omega⟩
      ·rw[if_neg hk20]
       have z5:at2=nb - 1:=by omega
       subst z5
       refine wpS_bind (zap eq ?_)
       have M4:MrgH key a.toList b.toList (((out).push p).push q).toList (at1 - 1) (nb - 1):=by
        rw[Array.toList_push]
        exact M2.push_a sa (by omega) eq' hrest2
       by_cases z4:at1 - 1=0
       ·rw[if_pos (by simpa using z4)]
        exact wpS_pure ⟨S',.inl ⟨_,_,rfl,hdone _ _ _ M4 (.inl z4)⟩⟩
       ·rw[if_neg (by simpa using z4)]
        split
        ·exact wpS_pure ⟨S',.inr ⟨_,_,_,_,_,_,rfl,M4,by omega,by omega,by omega,by omega,by omega⟩⟩
        ·exact wpS_pure ⟨S',_,_,_,_,_,_,rfl,M4,by omega,by omega,by omega,by omega,by omega⟩
    ·rw[if_neg hg]
     refine wpS_bind (zga S λst1 S' => ?_)
     refine wpS_bind (zap ep (wpS_bind (zba C (S'.kind.trans hkd) mp ha (by omega) (by omega) (λi j x y hij hj ex ey=>sa.at (by omega) ex ey) λat1 hk hk1 hk2 => ?_)))
     simp only[Nat.zero_add]at hk1 hk2
     have M1:MrgH key a.toList b.toList (out ++ (a.extract at1 na).reverse).toList at1 nb:=by
      rw[Array.toList_append,Array.toList_reverse,zd5]
      refine M.app_a sa at1 (na - at1) (by omega) (by simp;omega) λi z hi1 hi2 ez y hy => ?_
      have e1:=hk2 i z hi1 hi2 (by simpa using ez)
      exact KeyOrd.kle_trans (sb.foot (by omega) ep y hy) (KeyOrd.kle_of_klt (show O.klt (key p) (key z) by simpa[bey,KeyOrd.klt]using e1))
     have hrest:∀y∈a.toList.take at1,O.kle (key y) (key p):=by
      intro y hy
      obtain⟨j,hj,e⟩:=List.mem_iff_getElem.mp hy
      rw[List.length_take]at hj
      rw[List.getElem_take]at e
      have e1:=hk1 j y (by omega) (by rw[<- e];exact Array.getElem?_eq_some_iff.mpr ⟨by simp at hj;omega,by simp⟩)
      simpa[bey,KeyOrd.kle]using e1
     dsimp only
     by_cases hk0:na - at1 > 0
     ·rw[if_pos hk0]
      by_cases z1:at1=0
      ·rw[if_pos (by simpa using z1)]
       exact wpS_pure ⟨S',.inl ⟨_,_,rfl,hdone _ _ _ M1 (.inl z1)⟩⟩
      rw[if_neg (by simpa using z1)]
      refine wpS_bind (zap ep ?_)
      have M2:MrgH key a.toList b.toList ((out ++ (a.extract at1 na).reverse).push p).toList (at1) (nb - 1):=by
       rw[Array.toList_push]
       exact M1.push_b sb (by omega) ep' hrest
      by_cases z:nb - 1=1
      ·rw[if_pos (by simpa using z)]
       exact wpS_pure ⟨S',.inl ⟨_,_,rfl,hfirst _ _ _ M2 z⟩⟩
      rw[if_neg (by simpa using z)]
      obtain⟨q,eq,eq',mq⟩:=ea (at1 - 1) (by omega)
      refine wpS_bind (zap eq (wpS_bind (zba C (S'.kind.trans hkd) mq hb (by omega) (by omega) (λi j x y hij hj ex ey=>sb.at (by omega) ex ey) λat2 hk2' hj1 hj2 => ?_)))
      simp only[Nat.zero_add]at hj1 hj2
      have M3:MrgH key a.toList b.toList ((out ++ (a.extract at1 na).reverse).push p ++ (b.extract at2 (nb - 1)).reverse).toList (at1) at2:=by
       rw[Array.toList_append,Array.toList_reverse,zd5]
       refine M2.app_b sb at2 (nb - 1 - at2) (by omega) (by simp;omega) λi z hi1 hi2 ez y hy => ?_
       have e1:=hj2 i z hi1 hi2 (by simpa using ez)
       exact KeyOrd.kle_trans (sa.foot (by omega) eq y hy) (show O.kle (key q) (key z) by simpa[bey,KeyOrd.kle]using e1)
      have hrest2:∀y∈b.toList.take at2,O.kle (key y) (key q):=by
       intro y hy
       obtain⟨j,hj,e⟩:=List.mem_iff_getElem.mp hy
       rw[List.length_take]at hj
       rw[List.getElem_take]at e
       have e1:=hj1 j y (by omega) (by rw[<- e];exact Array.getElem?_eq_some_iff.mpr ⟨by simp at hj;omega,by simp⟩)
       exact KeyOrd.kle_of_klt (by simpa[bey,KeyOrd.klt]using e1)
      dsimp only
      by_cases hk20:nb - 1 - at2 > 0
      ·rw[if_pos hk20]
       by_cases z3:at2=1
       ·rw[if_pos (by simpa using z3)]
        exact wpS_pure ⟨S',.inl ⟨_,_,rfl,hfirst _ _ _ M3 z3⟩⟩
       rw[if_neg (by simpa using z3)]
       by_cases z5:at2=0
       ·rw[if_pos (by simpa using z5)]
        exact wpS_pure ⟨S',.inl ⟨_,_,rfl,hdone _ _ _ M3 (.inr z5)⟩⟩
       rw[if_neg (by simpa using z5)]
       refine wpS_bind (zap eq ?_)
       have M4:MrgH key a.toList b.toList (((out ++ (a.extract at1 na).reverse).push p ++ (b.extract at2 (nb - 1)).reverse).push q).toList (at1 - 1) (at2):=by
        rw[Array.toList_push]
        exact M3.push_a sa (by omega) eq' hrest2
       by_cases z4:at1 - 1=0
       ·rw[if_pos (by simpa using z4)]
        exact wpS_pure ⟨S',.inl ⟨_,_,rfl,hdone _ _ _ M4 (.inl z4)⟩⟩
       ·rw[if_neg (by simpa using z4)]
        split
        ·exact wpS_pure ⟨S',.inr ⟨_,_,_,_,_,_,rfl,M4,by omega,by omega,by omega,by omega,by omega⟩⟩
        ·exact wpS_pure ⟨S',_,_,_,_,_,_,rfl,M4,by omega,by omega,by omega,by omega,by omega⟩
      ·rw[if_neg hk20]
       have z5:at2=nb - 1:=by omega
       subst z5
       refine wpS_bind (zap eq ?_)
       have M4:MrgH key a.toList b.toList (((out ++ (a.extract at1 na).reverse).push p).push q).toList (at1 - 1) (nb - 1):=by
        rw[Array.toList_push]
        exact M2.push_a sa (by omega) eq' hrest2
       by_cases z4:at1 - 1=0
       ·rw[if_pos (by simpa using z4)]
        exact wpS_pure ⟨S',.inl ⟨_,_,rfl,hdone _ _ _ M4 (.inl z4)⟩⟩
       ·rw[if_neg (by simpa using z4)]
        split
        ·exact wpS_pure ⟨S',.inr ⟨_,_,_,_,_,_,rfl,M4,by omega,by omega,by omega,by omega,by omega⟩⟩
        ·exact wpS_pure ⟨S',_,_,_,_,_,_,rfl,M4,by omega,by omega,by omega,by omega,by omega⟩
     ·rw[if_neg hk0]
      have z6:at1=na:=by omega
      subst z6
      refine wpS_bind (zap ep ?_)
      have M2:MrgH key a.toList b.toList ((out).push p).toList (at1) (nb - 1):=by
       rw[Array.toList_push]
       exact M.push_b sb (by omega) ep' hrest
      by_cases z:nb - 1=1
      ·rw[if_pos (by simpa using z)]
       exact wpS_pure ⟨S',.inl ⟨_,_,rfl,hfirst _ _ _ M2 z⟩⟩
      rw[if_neg (by simpa using z)]
      obtain⟨q,eq,eq',mq⟩:=ea (at1 - 1) (by omega)
      refine wpS_bind (zap eq (wpS_bind (zba C (S'.kind.trans hkd) mq hb (by omega) (by omega) (λi j x y hij hj ex ey=>sb.at (by omega) ex ey) λat2 hk2' hj1 hj2 => ?_)))
      simp only[Nat.zero_add]at hj1 hj2
      have M3:MrgH key a.toList b.toList ((out).push p ++ (b.extract at2 (nb - 1)).reverse).toList (at1) at2:=by
       rw[Array.toList_append,Array.toList_reverse,zd5]
       refine M2.app_b sb at2 (nb - 1 - at2) (by omega) (by simp;omega) λi z hi1 hi2 ez y hy => ?_
       have e1:=hj2 i z hi1 hi2 (by simpa using ez)
       exact KeyOrd.kle_trans (sa.foot (by omega) eq y hy) (show O.kle (key q) (key z) by simpa[bey,KeyOrd.kle]using e1)
      have hrest2:∀y∈b.toList.take at2,O.kle (key y) (key q):=by
       intro y hy
       obtain⟨j,hj,e⟩:=List.mem_iff_getElem.mp hy
       rw[List.length_take]at hj
       rw[List.getElem_take]at e
       have e1:=hj1 j y (by omega) (by rw[<- e];exact Array.getElem?_eq_some_iff.mpr ⟨by simp at hj;omega,by simp⟩)
       exact KeyOrd.kle_of_klt (by simpa[bey,KeyOrd.klt]using e1)
      dsimp only
      by_cases hk20:nb - 1 - at2 > 0
      ·rw[if_pos hk20]
       by_cases z3:at2=1
       ·rw[if_pos (by simpa using z3)]
        exact wpS_pure ⟨S',.inl ⟨_,_,rfl,hfirst _ _ _ M3 z3⟩⟩
       rw[if_neg (by simpa using z3)]
       by_cases z5:at2=0
       ·rw[if_pos (by simpa using z5)]
        exact wpS_pure ⟨S',.inl ⟨_,_,rfl,hdone _ _ _ M3 (.inr z5)⟩⟩
       rw[if_neg (by simpa using z5)]
       refine wpS_bind (zap eq ?_)
       have M4:MrgH key a.toList b.toList (((out).push p ++ (b.extract at2 (nb - 1)).reverse).push q).toList (at1 - 1) (at2):=by
        rw[Array.toList_push]
        exact M3.push_a sa (by omega) eq' hrest2
       by_cases z4:at1 - 1=0
       ·rw[if_pos (by simpa using z4)]
        exact wpS_pure ⟨S',.inl ⟨_,_,rfl,hdone _ _ _ M4 (.inl z4)⟩⟩
       ·rw[if_neg (by simpa using z4)]
        split
        ·exact wpS_pure ⟨S',.inr ⟨_,_,_,_,_,_,rfl,M4,by omega,by omega,by omega,by omega,by omega⟩⟩
        ·exact wpS_pure ⟨S',_,_,_,_,_,_,rfl,M4,by omega,by omega,by omega,by omega,by omega⟩
      ·rw[if_neg hk20]
       have z5:at2=nb - 1:=by omega
       subst z5
       refine wpS_bind (zap eq ?_)
       have M4:MrgH key a.toList b.toList (((out).push p).push q).toList (at1 - 1) (nb - 1):=by
        rw[Array.toList_push]
        exact M2.push_a sa (by omega) eq' hrest2
       by_cases z4:at1 - 1=0
       ·rw[if_pos (by simpa using z4)]
        exact wpS_pure ⟨S',.inl ⟨_,_,rfl,hdone _ _ _ M4 (.inl z4)⟩⟩
       ·rw[if_neg (by simpa using z4)]
        split
        ·exact wpS_pure ⟨S',.inr ⟨_,_,_,_,_,_,rfl,M4,by omega,by omega,by omega,by omega,by omega⟩⟩
        ·exact wpS_pure ⟨S',_,_,_,_,_,_,rfl,M4,by omega,by omega,by omega,by omega,by omega⟩
end
end TS
namespace TS
open PySem PyProof.Rows
local macro_rules | `(tactic| walk_at "sort mergeAt") => do `(tactic| delta $(Lean.mkIdent (Lean.mkPrivateNameCore `PySem.Builtin.List.W1All `PySem.Builtin.mergeAt)):ident)
section
variable{O:KeyOrd}{key:Keyed->O.α}{la lb m:List Keyed}{k r:Nat}
theorem zh0(sa:Srt key la)(sb:Srt key lb)(h1:∀x∈la.take k,∀y∈lb,O.kle (key x) (key y))(h2:∀x∈la,∀y∈lb.drop r,O.kle (key x) (key y))(R:Res key (la.drop k) (lb.take r) m) :
  (la.take k ++ m ++ lb.drop r).Perm (la ++ lb)/\Srt key (la.take k ++ m ++ lb.drop r):=by
 have mem:∀x∈m,x∈la.drop k\/x∈lb.take r:=λx hx=>List.mem_append.mp (R.1.mem_iff.mp hx)
 have sa':Srt key (la.take k ++ la.drop k):=by rw[List.take_append_drop];exact sa
 have sb':Srt key (lb.take r ++ lb.drop r):=by rw[List.take_append_drop];exact sb
 refine⟨?_,List.pairwise_append.mpr ⟨List.pairwise_append.mpr ⟨sa.take _,R.2,λx hx y hy => ?_⟩,sb.drop _,λx hx y hy => ?_⟩⟩
 ·refine List.Perm.trans (List.Perm.append_right _ (List.Perm.append_left _ R.1)) ?_
  have:la.take k ++ (la.drop k ++ lb.take r) ++ lb.drop r=la ++ lb:=by
   conv=>rhs;rw[<- List.take_append_drop k la,<- List.take_append_drop r lb]
   simp only[List.append_assoc]
  rw[this]
 ·rcases mem y hy with hy | hy
  ·exact(List.pairwise_append.mp sa').2.2 x hx y hy
  ·exact h1 x hx y (List.mem_of_mem_take hy)
 ·rcases List.mem_append.mp hx with hx | hx
  ·exact h1 x hx y (List.mem_of_mem_drop hy)
  ·rcases mem x hx with hx | hx
   ·exact h2 x (List.mem_of_mem_drop hx) y hy
   ·exact(List.pairwise_append.mp sb').2.2 x hx y hy
theorem zev(off:Nat):∀(l:List Keyed) (k:Nat) (xs:Array Keyed) (P M R:List Keyed),xs.toList=P ++ M ++ R->P.length=off + k->M.length=l.length ->
  ((l.zipIdx k).foldl (λa (pj:Keyed×Nat)=>a.setIfInBounds (off + pj.2) pj.1) xs).toList=P ++ l ++ R
 | [],k,xs,P,M,R,e,hP,hM=>by
  have:M=[]:=List.eq_nil_of_length_eq_zero hM
  subst this
  simpa using e
 | x :: l,k,xs,P,M,R,e,hP,hM=>by
  cases M with
  | nil=>simp at hM
  | cons y M=>
   rw[List.zipIdx_cons,List.foldl_cons]
   have:=zev off l (k + 1) (xs.setIfInBounds (off + k) x) (P ++ [x]) M R ?_ (by simp;omega) (by simpa using hM)
   ·rw[this];simp
   ·rw[Array.toList_setIfInBounds,e,<- hP]
    simp
end
section
variable{prog:Program}{w:World}{A:Around}{E:Value->Shared->Prop}{s:Shared}{kd:SortKind}{a₀:Array Keyed}{O:KeyOrd}{key:Keyed->O.α}
theorem zpv{st st':SortSt}{Q:PUnit->SortSt->Prop}(h:∀st1,st1=st'->Q ⟨⟩ st1):wpS (model prog w) A E s (set st':StateT SortSt Sem PUnit) Q st:=by
 unfold wpS;rw[StateT.run_set];exact wpAny_pure ⟨rfl,h _ rfl⟩
theorem zj3(C:Cmp prog w A s kd a₀ O key){i sa na sb nb pw pw2:Nat}{P la lb R:List Keyed}{st:SortSt}{Q:Bool->SortSt->Prop}(B:SB kd a₀ st)(e1:(pendingOf st)[i]? = some (sa,na,pw))(e2:(pendingOf st)[i + 1]? = some (sb,nb,pw2))
  (harr:(arrOf st).toList=P ++ (la ++ (lb ++ R))) (hP:P.length=sa) (hla:la.length=na) (hlb:lb.length=nb) (hsb:sb=sa + na) (za:0 < na) (zb:0 < nb) (sA:Srt key la) (sB:Srt key lb)
  (h:∀m st',m.Perm (la ++ lb)->Srt key m->(arrOf st').toList=P ++ (m ++ R)->SB kd a₀ st'->pendingOf st'=((pendingOf st).setIfInBounds i (sa,na + nb,pw)).eraseIdxIfInBounds (i + 1)->Q true st') :
  wpS (model prog w) A E s ((sortPriv% PySem.Builtin.mergeAt) i) Q st:=by
 walk_at "sort mergeAt"
 refine wpS_bind (wpS_get ?_)
 dsimp only
 show wpS _ _ _ _ (match (pendingOf st)[i]?,(pendingOf st)[i + 1]? with | _,_=>_) _ _
 rw[e1,e2]
 dsimp only
 --BODY
 have hA:∀j,j < na->(arrOf st)[sa + j]? = la[j]?:=by
  intro j hj
  rw[<- Array.getElem?_toList,harr,List.getElem?_append_right (by omega),hP,List.getElem?_append_left (by omega)]
  congr 1;omega
 have hB:∀j,j < nb->(arrOf st)[sb + j]? = lb[j]?:=by
  intro j hj
  rw[<- Array.getElem?_toList,harr,List.getElem?_append_right (by omega),hP,List.getElem?_append_right (by omega),List.getElem?_append_left (by omega)]
  congr 1;omega
 have hsz:(arrOf st).size=sa + (na + (nb + R.length)):=by
  have:=congrArg List.length harr
  simp only[Array.length_toList,List.length_append]at this
  omega
 have inA:∀x∈la,x∈a₀.toList:=λx hx=>B.mem (by rw[harr];simp[hx])
 have inB:∀x∈lb,x∈a₀.toList:=λx hx=>B.mem (by rw[harr];simp[hx])
 have inAll:∀x∈(arrOf st).toList,x∈a₀.toList:=λx hx=>B.mem hx
 have sA':∀(i j:Nat) (x y:Keyed),i<=j->la[i]? = some x->la[j]? = some y->O.kle (key x) (key y):=λi j x y hij ex ey=>Srt.at (a:=la.toArray) sA hij (by simpa using ex) (by simpa using ey)
 have sB':∀(i j:Nat) (x y:Keyed),i<=j->lb[i]? = some x->lb[j]? = some y->O.kle (key x) (key y):=λi j x y hij ex ey=>Srt.at (a:=lb.toArray) sB hij (by simpa using ex) (by simpa using ey)
 refine wpS_bind (zpv λst1 hst1 => ?_)
 have B1:SB kd a₀ st1:=by rw[hst1];exact⟨B.kind,B.perm,B.failed⟩
 have ha1:arrOf st1=arrOf st:=by rw[hst1]
 have hp1:pendingOf st1=((pendingOf st).setIfInBounds i (sa,na + nb,pw)).eraseIdxIfInBounds (i + 1):=by rw[hst1]
 have kd1:kindOf st1=kd:=B1.kind
 have eb0:(arrOf st)[sb]? = some lb[0]:=by
  have:=hB 0 zb
  rw[Nat.add_zero]at this
  rw[this];exact List.getElem?_eq_getElem (by omega)
 refine wpS_bind (zap eb0 (wpS_bind (zba C kd1 (inB _ (by simp)) inAll (by show sa + na<=(arrOf st).size;omega) (by omega) (λi j x y hij hj ex ey=>sA' i j x y hij (by rw[<- hA i (by omega)];exact ex) (by rw[<- hA j hj];exact ey)) λk hk hk1 hk2 => ?_)))
 have b0le:∀y∈lb,O.kle (key lb[0]) (key y):=by
  intro y hy
  obtain⟨j,hj,e⟩:=List.mem_iff_getElem.mp hy
  exact sB' 0 j _ y (Nat.zero_le _) (List.getElem?_eq_getElem (by omega)) (by rw[<- e];exact List.getElem?_eq_getElem hj)
 have h1':∀x∈la.take k,∀y∈lb,O.kle (key x) (key y):=by
  intro x hx y hy
  obtain⟨j,hj,e⟩:=List.mem_iff_getElem.mp hx
  rw[List.length_take]at hj
  rw[List.getElem_take]at e
  have z:=hk1 j x (by omega) (by rw[hA j (by omega),<- e];exact List.getElem?_eq_getElem (by omega))
  exact KeyOrd.kle_trans (show O.kle (key x) (key lb[0]) by simpa[bey,KeyOrd.kle]using z) (b0le y hy)
 have h0':∀y∈la.drop k,O.kle (key lb[0]) (key y):=by
  intro y hy
  obtain⟨j,hj,e⟩:=List.mem_iff_getElem.mp hy
  rw[List.length_drop]at hj
  rw[List.getElem_drop]at e
  have z:=hk2 (k + j) y (by omega) (by omega) (by rw[hA (k + j) (by omega),<- e];exact List.getElem?_eq_getElem (by omega))
  exact KeyOrd.kle_of_klt (by simpa[bey,KeyOrd.klt]using z)
 dsimp only
 by_cases zk:na - k=0
 ·rw[if_pos (by simpa using zk)]
  refine wpS_pure (h (la ++ lb) st1 (List.Perm.refl _) (List.pairwise_append.mpr ⟨sA,sB,λx hx y hy=>h1' x (by rw[List.take_of_length_le (by omega)];exact hx) y hy⟩) (by rw[ha1,harr,List.append_assoc]) B1 hp1)
 rw[if_neg (by simpa using zk)]
 have ela:(arrOf st)[sa + k + (na - k) - 1]? = some la[na - 1]:=by
  have:=hA (na - 1) (by omega)
  rw[show sa + k + (na - k) - 1=sa + (na - 1) by omega,this];exact List.getElem?_eq_getElem (by omega)
 refine wpS_bind (zap ela (wpS_bind (zba C kd1 (inA _ (by simp)) inAll (by show sb + nb<=(arrOf st).size;omega) (by omega) (λi j x y hij hj ex ey=>sB' i j x y hij (by rw[<- hB i (by omega)];exact ex) (by rw[<- hB j hj];exact ey)) λr hr hr1 hr2 => ?_)))
 have lale:∀x∈la,O.kle (key x) (key la[na - 1]):=by
  intro x hx
  obtain⟨j,hj,e⟩:=List.mem_iff_getElem.mp hx
  exact sA' j (na - 1) x _ (by omega) (by rw[<- e];exact List.getElem?_eq_getElem hj) (List.getElem?_eq_getElem (by omega))
 have h2':∀x∈la,∀y∈lb.drop r,O.kle (key x) (key y):=by
  intro x hx y hy
  obtain⟨j,hj,e⟩:=List.mem_iff_getElem.mp hy
  rw[List.length_drop]at hj
  rw[List.getElem_drop]at e
  have z:=hr2 (r + j) y (by omega) (by omega) (by rw[hB (r + j) (by omega),<- e];exact List.getElem?_eq_getElem (by omega))
  exact KeyOrd.kle_trans (lale x hx) (by simpa[bey,KeyOrd.kle]using z)
 dsimp only
 by_cases zr:r=0
 ·rw[if_pos (by simpa using zr)]
  refine wpS_pure (h (la ++ lb) st1 (List.Perm.refl _) (List.pairwise_append.mpr ⟨sA,sB,λx hx y hy=>h2' x hx y (by rw[zr];simpa using hy)⟩) (by rw[ha1,harr,List.append_assoc]) B1 hp1)
 rw[if_neg (by simpa using zr)]
 have eX:((arrOf st).extract (sa + k) sb).toList=la.drop k:=by
  rw[zd5,harr,<- List.append_assoc,List.take_append_of_le_length (by simp;omega),List.take_of_length_le (by simp;omega),<- hP,List.drop_append,List.drop_eq_nil_of_le (by omega)]
  simp
 have eY:((arrOf st).extract sb (sb + r)).toList=lb.take r:=by
  rw[zdg,harr,<- List.append_assoc,List.drop_append,List.drop_eq_nil_of_le (by simp;omega)]
  rw[show sb - (P ++ la).length=0 by simp;omega,List.drop_zero,List.nil_append,List.take_append_of_le_length (by omega)]
 have zX:0 < ((arrOf st).extract (sa + k) sb).size:=by rw[<- Array.length_toList,eX,List.length_drop];omega
 have zY:0 < ((arrOf st).extract sb (sb + r)).size:=by rw[<- Array.length_toList,eY,List.length_take];omega
 have eY0:((arrOf st).extract sb (sb + r))[0]=lb[0]:=by
  have:=congrArg (λl=>l[0]?) eY
  simp only[Array.getElem?_toList]at this
  rw[getElem?_pos _ 0 zY,List.getElem?_take_of_lt (by omega),List.getElem?_eq_getElem (by omega)]at this
  injection this
 have eXl:((arrOf st).extract (sa + k) sb)[((arrOf st).extract (sa + k) sb).size - 1]=la[na - 1]:=by
  have hs:((arrOf st).extract (sa + k) sb).size=na - k:=by rw[<- Array.length_toList,eX,List.length_drop];omega
  have:=congrArg (λl=>l[na - k - 1]?) eX
  simp only[Array.getElem?_toList]at this
  rw[getElem?_pos _ (na - k - 1) (by omega),List.getElem?_drop,List.getElem?_eq_getElem (by omega)]at this
  injection this with this
  have e3:k + (na - k - 1)=na - 1:=by omega
  simp only[hs]
  rw[this]
  congr 1
 by_cases zle:na - k<=r
 ·rw[if_pos zle]
  refine wpS_bind (zkj C (st:=st1) kd1 (λx hx=>inA x (by rw[eX]at hx;exact List.mem_of_mem_drop hx)) (λx hx=>inB x (by rw[eY]at hx;exact List.mem_of_mem_take hx)) (by rw[eX];exact sA.drop _) (by rw[eY];exact sB.take _) zX zY (λy hy => ?_) (λx hx => ?_) λmm st2 hR S2 => ?_)
  ·rw[eX]at hy
   rw[eY0];exact h0' y hy
  ·rw[eY]at hx
   rw[eXl]
   obtain⟨j,hj,e⟩:=List.mem_iff_getElem.mp hx
   rw[List.length_take]at hj
   rw[List.getElem_take]at e
   have z:=hr1 j x (by omega) (by rw[hB j (by omega)];rw[<- e];exact List.getElem?_eq_getElem (by omega))
   exact KeyOrd.kle_of_klt (by simpa[bey,KeyOrd.klt]using z)
  rw[eX,eY]at hR
  obtain⟨mp,ms⟩:=zh0 sA sB h1' h2' hR
  have hw:=zev (sa + k) mm.toList 0 (arrOf st2) (P ++ la.take k) (la.drop k ++ lb.take r) (lb.drop r ++ R) (by
   rw[S2.arr,ha1,harr]
   conv=>lhs;rw[<- List.take_append_drop k la,<- List.take_append_drop r lb]
   simp only[List.append_assoc]) (by rw[List.length_append,List.length_take,hP];omega) (by rw[hR.1.length_eq])
  refine wpS_bind (wpS_modify (wpS_bind (wpS_get (wpS_pure ?_))))
  have hf:failedOf st2=none:=S2.fail.trans B1.failed
  show Q (failedOf st2).isNone _
  rw[hf]
  have hw':(List.foldl (λa (x:Keyed×Nat)=>a.setIfInBounds (sa + k + x.snd) x.fst) (arrOf st2) mm.toList.zipIdx).toList=P ++ ((la.take k ++ mm.toList ++ lb.drop r) ++ R):=by
   refine hw.trans ?_
   simp only[List.append_assoc]
  refine h _ _ mp ms hw' ⟨S2.kind.trans kd1,?_,hf⟩ (S2.pend.trans hp1)
  refine(Array.perm_iff_toList_perm.mpr ?_).trans B.perm
  refine List.Perm.trans (List.Perm.of_eq hw') ?_
  rw[harr,<- List.append_assoc la lb R]
  exact List.Perm.append_left _ (List.Perm.append_right _ mp)
 ·rw[if_neg zle]
  refine wpS_bind (zkh C (st:=st1) kd1 (λx hx=>inA x (by rw[eX]at hx;exact List.mem_of_mem_drop hx)) (λx hx=>inB x (by rw[eY]at hx;exact List.mem_of_mem_take hx)) (by rw[eX];exact sA.drop _) (by rw[eY];exact sB.take _) zX zY (λy hy => ?_) (λx hx => ?_) λmm st2 hR S2 => ?_)
  ·rw[eX]at hy
   rw[eY0];exact h0' y hy
  ·rw[eY]at hx
   rw[eXl]
   obtain⟨j,hj,e⟩:=List.mem_iff_getElem.mp hx
   rw[List.length_take]at hj
   rw[List.getElem_take]at e
   have z:=hr1 j x (by omega) (by rw[hB j (by omega)];rw[<- e];exact List.getElem?_eq_getElem (by omega))
   exact KeyOrd.kle_of_klt (by simpa[bey,KeyOrd.klt]using z)
  rw[eX,eY]at hR
  obtain⟨mp,ms⟩:=zh0 sA sB h1' h2' hR
  have hw:=zev (sa + k) mm.toList 0 (arrOf st2) (P ++ la.take k) (la.drop k ++ lb.take r) (lb.drop r ++ R) (by
   rw[S2.arr,ha1,harr]
   conv=>lhs;rw[<- List.take_append_drop k la,<- List.take_append_drop r lb]
   simp only[List.append_assoc]) (by rw[List.length_append,List.length_take,hP];omega) (by rw[hR.1.length_eq])
  refine wpS_bind (wpS_modify (wpS_bind (wpS_get (wpS_pure ?_))))
  have hf:failedOf st2=none:=S2.fail.trans B1.failed
  show Q (failedOf st2).isNone _
  rw[hf]
  have hw':(List.foldl (λa (x:Keyed×Nat)=>a.setIfInBounds (sa + k + x.snd) x.fst) (arrOf st2) mm.toList.zipIdx).toList=P ++ ((la.take k ++ mm.toList ++ lb.drop r) ++ R):=by
   refine hw.trans ?_
   simp only[List.append_assoc]
  refine h _ _ mp ms hw' ⟨S2.kind.trans kd1,?_,hf⟩ (S2.pend.trans hp1)
  refine(Array.perm_iff_toList_perm.mpr ?_).trans B.perm
  refine List.Perm.trans (List.Perm.of_eq hw') ?_
  rw[harr,<- List.append_assoc la lb R]
  exact List.Perm.append_left _ (List.Perm.append_right _ mp)
end
end TS
namespace TS
open PySem PyProof.Rows
local macro_rules | `(tactic| walk_at "sort ltAt") => do `(tactic| delta $(Lean.mkIdent (Lean.mkPrivateNameCore `PySem.Builtin.List.W1All `PySem.Builtin.ltAt)):ident)
local macro_rules | `(tactic| walk_at "sort countRun") => do `(tactic| delta $(Lean.mkIdent (Lean.mkPrivateNameCore `PySem.Builtin.List.W1All `PySem.Builtin.countRun)):ident)
local macro_rules | `(tactic| walk_at "sort binarySort") => do `(tactic| delta $(Lean.mkIdent (Lean.mkPrivateNameCore `PySem.Builtin.List.W1All `PySem.Builtin.binarySort)):ident)
section
variable{O:KeyOrd}(key:Keyed->O.α)
def Kf(xs:Array Keyed)(i:Nat):O.α:=key (xs.getD i (.none,.none))
def SegS(xs:Array Keyed)(lo n:Nat):Prop:=∀i j,lo<=i->i<=j->j < lo + n->O.kle (Kf key xs i) (Kf key xs j)
def SegD(xs:Array Keyed)(lo n:Nat):Prop:=∀i j,lo<=i->i<=j->j < lo + n->O.kle (Kf key xs j) (Kf key xs i)
variable{key}
theorem zec{xs ys:Array Keyed}{i j:Nat}(h:xs[i]? = ys[j]?):Kf key xs i=Kf key ys j:=by
 unfold Kf;rw[Array.getD_eq_getD_getElem?,Array.getD_eq_getD_getElem?,h]
theorem zfj{xs:Array Keyed}{i j:Nat}(hj:j<=xs.size)(k:Nat):Kf key (mirror xs i j ((j - i) / 2)) k=if i<=k/\k < j then Kf key xs (i + j - 1 - k) else Kf key xs k:=by
 have e:=getElem?_mirror_all (i:=i) hj k
 by_cases h1:i<=k/\k < j
 ·rw[if_pos h1]at e ⊢;exact zec e
 ·rw[if_neg h1]at e ⊢;exact zec e
theorem zcx{xs:Array Keyed}{i j:Nat}(hj:j<=xs.size)(heq:∀k,i<=k->k < j->Kf key xs k=Kf key xs (j - 1))(k:Nat):Kf key (mirror xs i j ((j - i) / 2)) k=Kf key xs k:=by
 rw[zfj hj]
 split
 ·rw[heq _ (by omega) (by omega),heq k (by omega) (by omega)]
 ·rfl
theorem zhl{xs:Array Keyed}{src d:Nat}(hs:src < xs.size)(hd:d<=src)(k:Nat) :
  Kf key (bubble xs src d) k=if k=src - d then Kf key xs src else if src - d < k/\k<=src then Kf key xs (k - 1) else Kf key xs k:=by
 have e:=getElem?_bubble hs d hd k
 by_cases h1:k=src - d
 ·rw[if_pos h1]at e ⊢;exact zec e
 ·rw[if_neg h1]at e ⊢
  by_cases h2:src - d < k/\k<=src
  ·rw[if_pos h2]at e ⊢;exact zec e
  ·rw[if_neg h2]at e ⊢;exact zec e
end
section
variable{O:KeyOrd}{key:Keyed->O.α}
theorem zra{xs:Array Keyed}{lo:Nat}:SegS key xs lo 1:=λi j h1 h2 h3=>by
 have:i=j:=by omega
 subst this;exact KeyOrd.kle_refl _
theorem zja{xs:Array Keyed}{lo x:Nat}(hs:SegS key xs lo x)(hx:1<=x)(hl:O.blt (Kf key xs (lo + x)) (Kf key xs (lo + x - 1))=false):SegS key xs lo (x + 1):=λi j h1 h2 h3=>by
 by_cases hj:j < lo + x
 ·exact hs i j h1 h2 hj
 ·have:j=lo + x:=by omega
  subst this
  by_cases hi:i=lo + x
  ·subst hi;exact KeyOrd.kle_refl _
  ·exact KeyOrd.kle_trans (hs i (lo + x - 1) h1 (by omega) (by omega)) hl
theorem zel{xs:Array Keyed}{lo x:Nat}(hs:SegD key xs lo x)(hx:1<=x)(hl:O.kle (Kf key xs (lo + x)) (Kf key xs (lo + x - 1))):SegD key xs lo (x + 1):=λi j h1 h2 h3=>by
 by_cases hj:j < lo + x
 ·exact hs i j h1 h2 hj
 ·have:j=lo + x:=by omega
  subst this
  by_cases hi:i=lo + x
  ·subst hi;exact KeyOrd.kle_refl _
  ·exact KeyOrd.kle_trans hl (hs i (lo + x - 1) h1 (by omega) (by omega))
theorem zeu{xs ys:Array Keyed}{lo x:Nat}(hs:SegD key xs lo x)(h:∀k,Kf key ys k=Kf key xs k):SegD key ys lo x:=λi j h1 h2 h3=>by
 rw[h,h];exact hs i j h1 h2 h3
theorem zia{xs:Array Keyed}{lo m:Nat}(hs:SegD key xs lo m)(hz:lo + m<=xs.size):SegS key (mirror xs lo (lo + m) ((lo + m - lo) / 2)) lo m:=λi j h1 h2 h3=>by
 rw[zfj hz,zfj hz,if_pos (by omega),if_pos (by omega)]
 exact hs _ _ (by omega) (by omega) (by omega)
end
structure Kp(lo:Nat)(st₀ st:SortSt):Prop where
 kind:kindOf st=kindOf st₀
 perm:(arrOf st).Perm (arrOf st₀)
 low:∀k,k < lo->(arrOf st)[k]? = (arrOf st₀)[k]?
 pend:pendingOf st=pendingOf st₀
 fail:failedOf st=failedOf st₀
theorem Kp.refl{lo:Nat}{st:SortSt}:Kp lo st st:=⟨rfl,Array.Perm.refl _,λ_ _=>rfl,rfl,rfl⟩
theorem Kp.mirror{lo i j:Nat}{st₀ st:SortSt}(h:Kp lo st₀ st)(hi:lo<=i)(hj:j<=(arrOf st).size):Kp lo st₀ (setArr st (mirror (arrOf st) i j ((j - i) / 2))):=
 ⟨h.kind,(mirror_perm _ _ _ _).trans h.perm,λk hk=>by
  refine Eq.trans ?_ (h.low k hk)
  show (PyProof.Rows.mirror (arrOf st) i j ((j - i) / 2))[k]? = _
  rw[getElem?_mirror_all hj,if_neg (by omega)],h.pend,h.fail⟩
theorem Kp.bubble{lo src d:Nat}{st₀ st:SortSt}(h:Kp lo st₀ st)(hs:src < (arrOf st).size)(hd:d + lo<=src):Kp lo st₀ (setArr st (bubble (arrOf st) src d)):=
 ⟨h.kind,(bubble_perm _ _ _).trans h.perm,λk hk=>by
  refine Eq.trans ?_ (h.low k hk)
  show (PyProof.Rows.bubble (arrOf st) src d)[k]? = _
  rw[getElem?_bubble hs d (by omega),if_neg (by omega),if_neg (by omega)],h.pend,h.fail⟩
section
variable{prog:Program}{w:World}{A:Around}{E:Value->Shared->Prop}{s:Shared}{kd:SortKind}{a₀:Array Keyed}{O:KeyOrd}{key:Keyed->O.α}
theorem SB.of_kp{lo:Nat}{st₀ st:SortSt}(B:SB kd a₀ st₀)(h:Kp lo st₀ st):SB kd a₀ st:=⟨h.kind.trans B.kind,h.perm.trans B.perm,h.fail.trans B.failed⟩
theorem zew(C:Cmp prog w A s kd a₀ O key){st:SortSt}(B:SB kd a₀ st){i j:Nat}(hi:i < a₀.size)(hj:j < a₀.size){Q:Option Bool->SortSt->Prop}(h:Q (some (O.blt (Kf key (arrOf st) i) (Kf key (arrOf st) j))) st) :
  wpS (model prog w) A E s ((sortPriv% PySem.Builtin.ltAt) i j) Q st:=by
 have hz:=B.size
 have e1:(arrOf st)[i]? = some (arrOf st)[i]:=getElem?_pos ..
 have e2:(arrOf st)[j]? = some (arrOf st)[j]:=getElem?_pos ..
 walk_at "sort ltAt"
 refine wpS_bind (wpS_get (wpS_bind (zap e1 (wpS_bind (zap e2 (zlo C B.kind (B.mem (by simp)) (B.mem (by simp)) ?_))))))
 unfold Kf at h
 rw[Array.getD_eq_getD_getElem?,Array.getD_eq_getD_getElem?,e1,e2]at h
 exact h
theorem zdw{st:SortSt}{i j:Nat}{Q:Unit->SortSt->Prop}(h:Q () (setArr st (mirror (arrOf st) i j ((j - i) / 2)))):wpS (model prog w) A E s ((sortPriv% PySem.Builtin.reverseSlice) i j) Q st:=by
 show wpS (model prog w) A E s (reverseSlice' i j) Q st
 rw[reverseSlice'_eq]
 exact wpS_modify h
theorem zh7{st:SortSt}{i j:Nat}{Q:Unit->SortSt->Prop}(h:Q () (setArr st (bubble (arrOf st) i (i - j)))):wpS (model prog w) A E s ((sortPriv% PySem.Builtin.moveDown) i j) Q st:=by
 show wpS (model prog w) A E s (moveDown' i j) Q st
 rw[moveDown'_eq]
 exact wpS_modify h
theorem zir(C:Cmp prog w A s kd a₀ O key){lo nrem:Nat}{st:SortSt}{Q:Option Nat->SortSt->Prop}(B:SB kd a₀ st)(h1:1<=nrem)(hn:lo + nrem<=a₀.size)
  (h:∀m st',1<=m->m<=nrem->SegS key (arrOf st') lo m->Kp lo st st'->Q (some m) st'):wpS (model prog w) A E s ((sortPriv% PySem.Builtin.countRun) lo nrem) Q st:=by
 have hz:(arrOf st).size=a₀.size:=B.size
 walk_at "sort countRun"
 refine wpS_bind (wpS_mono (wpS_forRange (I:=λx c st'=>st'=st/\c=(none,x)/\SegS key (arrOf st) lo x)
  (Q:=λc st'=>st'=st/\∃n,c=(none,n)/\1<=n/\n<=nrem/\SegS key (arrOf st) lo n/\(n=nrem\/O.klt (Kf key (arrOf st) (lo + n)) (Kf key (arrOf st) (lo + n - 1)))) ?step1 ?fin1 ⟨rfl,rfl,zra⟩) ?post1)
 case fin1=>
  rintro c st' ⟨rfl,rfl,hs'⟩
  rw[show max (1) nrem=nrem by omega]at hs' ⊢
  exact⟨rfl,nrem,rfl,by omega,Nat.le_refl _,hs',.inl rfl⟩
 case step1=>
  rintro x c st' hax hxn ⟨est,rfl,hs'⟩
  have hax':1<=x:=hax
  rw[est]
  dsimp only
  refine wpS_bind (zew C B (by omega) (by omega) ?_)
  cases hless:O.blt (Kf key (arrOf st) (lo + x)) (Kf key (arrOf st) (lo + x - 1)) with
  | true=>
   simp only[if_true]
   exact wpS_pure ⟨rfl,x,rfl,by omega,by omega,hs',.inr hless⟩
  | false=>
   simp only[Bool.false_eq_true,if_false]
   exact wpS_pure ⟨rfl,rfl,zja hs' (by omega) hless⟩
 case post1=>
  rintro c st' ⟨est,n,rfl,hn1,hnr,hs,hor⟩
  rw[est]
  extract_lets r0 n0 z0 z1 jp
  have hjp:∀st1,Kp lo st st1->n + 1<=nrem->SegD key (arrOf st1) lo (n + 1)->wpS (model prog w) A E s (jp ()) Q st1:=by
   intro st1 K1 hle hD
   refine wpS_bind (wpS_lift (wpAny_rule ⟨rfl,?_⟩))
   refine wpS_bind (wpS_mono (wpS_forRange (I:=λx c st'=>∃neq,c=(none,x,neq)/\Kp lo st st'/\SegD key (arrOf st') lo x/\neq + 1<=x/\(∀i,lo + x - (neq + 1)<=i->i < lo + x->Kf key (arrOf st') i=Kf key (arrOf st') (lo + x - 1)))
    (Q:=λc st'=>∃m neq,c=(none,m,neq)/\Kp lo st st'/\n + 1<=m/\m<=nrem/\SegD key (arrOf st') lo m/\neq + 1<=m/\(∀i,lo + m - (neq + 1)<=i->i < lo + m->Kf key (arrOf st') i=Kf key (arrOf st') (lo + m - 1))) ?step2 ?fin2
    ⟨0,rfl,K1,hD,by show 0 + 1<=n + 1;omega,λi h1 h2=>by congr 1;have:lo + (n + 1) - (0 + 1)<=i:=h1;have:i < lo + (n + 1):=h2;show i=lo + (n + 1) - 1;omega⟩) ?post2)
   case fin2=>
    rintro c st' ⟨neq,rfl,K,hD',hq,he⟩
    have hm:max (n + 1) nrem=nrem:=by omega
    have hD2:SegD key (arrOf st') lo (max (n + 1) nrem):=hD'
    have hq2:neq + 1<=max (n + 1) nrem:=hq
    have he2:∀i,lo + max (n + 1) nrem - (neq + 1)<=i->i < lo + max (n + 1) nrem->Kf key (arrOf st') i=Kf key (arrOf st') (lo + max (n + 1) nrem - 1):=he
    show ∃m neq',(none,max (n + 1) nrem,neq)=_/\_
    rw[hm]at hD2 hq2 he2 ⊢
    exact⟨nrem,neq,rfl,K,hle,Nat.le_refl _,hD2,hq2,he2⟩
   case step2=>
    rintro x c st' hax hxn ⟨neq,rfl,K,hD',hq,he⟩
    have hax':n + 1<=x:=hax
    have B':=B.of_kp K
    have hz':=B'.size
    dsimp only
    refine wpS_bind (zew C B' (by omega) (by omega) ?_)
    cases hless:O.blt (Kf key (arrOf st') (lo + x)) (Kf key (arrOf st') (lo + x - 1)) with
    | true=>
     simp only[if_true]
     have D1:=zel hD' (by omega) (KeyOrd.kle_of_klt hless)
     by_cases hneq:neq > 0
     ·rw[if_pos hneq]
      refine wpS_bind (zdw (wpS_pure ⟨0,rfl,K.mirror (by omega) (by omega),zeu D1 (zcx (by omega) he),by omega,λi h1 h2=>by congr 1;omega⟩))
     ·rw[if_neg hneq]
      exact wpS_pure ⟨0,rfl,K,D1,by omega,λi h1 h2=>by congr 1;omega⟩
    | false=>
     simp only[Bool.false_eq_true,if_false]
     refine wpS_bind (zew C B' (by omega) (by omega) ?_)
     cases hlarger:O.blt (Kf key (arrOf st') (lo + x - 1)) (Kf key (arrOf st') (lo + x)) with
     | true=>
      simp only[if_true]
      exact wpS_pure ⟨x,neq,rfl,K,hax',by omega,hD',hq,he⟩
     | false=>
      simp only[Bool.false_eq_true,if_false]
      have heqx:Kf key (arrOf st') (lo + x)=Kf key (arrOf st') (lo + x - 1):=KeyOrd.kle_antisymm hlarger hless
      refine wpS_pure ⟨neq + 1,rfl,K,zel hD' (by omega) (by rw[heqx];exact KeyOrd.kle_refl _),by omega,λi h1 h2 => ?_⟩
      rw[show lo + (x + 1) - 1=lo + x by omega]
      by_cases hix:i=lo + x
      ·subst hix;rfl
      ·rw[heqx];exact he i (by omega) (by omega)
   case post2=>
    rintro c st' ⟨m,neq,rfl,K,hm1,hm2,hD',hq,he⟩
    have B':=B.of_kp K
    have hz':=B'.size
    extract_lets r1 s1 m1 neq1 jp2
    have hjp2:∀st2,Kp lo st st2->SegD key (arrOf st2) lo m->wpS (model prog w) A E s (jp2 ()) Q st2:=by
     intro st2 K2 hD2
     have B2:=B.of_kp K2
     have hz2:=B2.size
     refine wpS_bind (zdw ?_)
     have K3:Kp lo st (setArr st2 (mirror (arrOf st2) lo (lo + m) ((lo + m - lo) / 2))):=K2.mirror (Nat.le_refl _) (by omega)
     have S3:SegS key (arrOf (setArr st2 (mirror (arrOf st2) lo (lo + m) ((lo + m - lo) / 2)))) lo m:=zia hD2 (by omega)
     show wpS _ _ _ _ _ _ (setArr st2 (mirror (arrOf st2) lo (lo + m) ((lo + m - lo) / 2)))
     generalize setArr st2 (mirror (arrOf st2) lo (lo + m) ((lo + m - lo) / 2))=st3 at K3 S3 ⊢
     have B3:=B.of_kp K3
     refine wpS_bind (wpS_mono (wpS_forRange (I:=λx c st'=>st'=st3/\c=(none,x)/\SegS key (arrOf st3) lo x)
      (Q:=λc st'=>st'=st3/\∃n,c=(none,n)/\m<=n/\n<=nrem/\SegS key (arrOf st3) lo n/\(n=nrem\/O.klt (Kf key (arrOf st3) (lo + n)) (Kf key (arrOf st3) (lo + n - 1)))) ?step3 ?fin3 ⟨rfl,rfl,S3⟩) ?post3)
     case fin3=>
      rintro c st' ⟨rfl,rfl,hs'⟩
      rw[show max (m) nrem=nrem by omega]at hs' ⊢
      exact⟨rfl,nrem,rfl,by omega,Nat.le_refl _,hs',.inl rfl⟩
     case step3=>
      rintro x c st' hax hxn ⟨est,rfl,hs'⟩
      have hax':m<=x:=hax
      rw[est]
      dsimp only
      refine wpS_bind (zew C B3 (by omega) (by omega) ?_)
      cases hless:O.blt (Kf key (arrOf st3) (lo + x)) (Kf key (arrOf st3) (lo + x - 1)) with
      | true=>
       simp only[if_true]
       exact wpS_pure ⟨rfl,x,rfl,by omega,by omega,hs',.inr hless⟩
      | false=>
       simp only[Bool.false_eq_true,if_false]
       exact wpS_pure ⟨rfl,rfl,zja hs' (by omega) hless⟩
     case post3=>
      rintro c st' ⟨rfl,m',rfl,h1',h2',hs',_⟩
      exact wpS_pure (h m' _ (by omega) h2' hs' K3)
    clear_value jp2
    show wpS _ _ _ _ (if neq > 0 then _ else _) _ _
    by_cases hneq:neq > 0
    ·rw[if_pos hneq]
     exact wpS_bind (zdw (hjp2 _ (K.mirror (by show lo<=lo + m - (neq + 1);omega) (by show lo + m<=_;omega)) (zeu hD' (zcx (by show lo + m<=_;omega) he))))
    ·rw[if_neg hneq]
     exact hjp2 _ K hD'
  clear_value jp
  show wpS _ _ _ _ (if (n == nrem)=true then _ else _) _ _
  by_cases hnn:n=nrem
  ·rw[if_pos (by simpa using hnn)]
   exact wpS_pure (h n st hn1 hnr hs Kp.refl)
  rw[if_neg (by simpa using hnn)]
  have hlt:O.klt (Kf key (arrOf st) (lo + n)) (Kf key (arrOf st) (lo + n - 1)):=hor.resolve_left hnn
  show wpS _ _ _ _ (if n > 1 then _ else _) _ _
  by_cases hgt:n > 1
  ·rw[if_pos hgt]
   refine wpS_bind (zew C B (by omega) (by show lo + n - 1 < _;omega) ?_)
   dsimp only
   show wpS _ _ _ _ (if O.blt (Kf key (arrOf st) lo) (Kf key (arrOf st) (lo + n - 1))=true then _ else _) _ _
   cases hrose:O.blt (Kf key (arrOf st) lo) (Kf key (arrOf st) (lo + n - 1)) with
   | true=>
    simp only[if_true]
    exact wpS_pure (h n st hn1 hnr hs Kp.refl)
   | false=>
    simp only[Bool.false_eq_true,if_false]
    have hall:∀k,lo<=k->k < lo + n->Kf key (arrOf st) k=Kf key (arrOf st) (lo + n - 1):=by
     intro k h1 h2
     have a1:=hs lo k (Nat.le_refl _) h1 h2
     have a2:=hs k (lo + n - 1) h1 (by omega) (by omega)
     exact KeyOrd.kle_antisymm a2 (KeyOrd.kle_trans hrose a1)
    refine wpS_bind (zdw (hjp _ (Kp.refl.mirror (Nat.le_refl _) (by show lo + n<=_;omega)) (by omega) (zeu (zel (λi j h1 h2 h3 => ?_) hn1 (KeyOrd.kle_of_klt hlt)) (zcx (by show lo + n<=_;omega) hall))))
    rw[hall i h1 (by omega),hall j (by omega) h3];exact KeyOrd.kle_refl _
  ·rw[if_neg hgt]
   have hn1':n=1:=by omega
   refine hjp _ Kp.refl (by omega) (zel (λi j h1 h2 h3 => ?_) hn1 (KeyOrd.kle_of_klt hlt))
   have:i=j:=by omega
   subst this;exact KeyOrd.kle_refl _
theorem zgk(C:Cmp prog w A s kd a₀ O key){lo n ok:Nat}{st:SortSt}{Q:Bool->SortSt->Prop}(B:SB kd a₀ st)(hok:ok<=n)(hn:lo + n<=a₀.size)(hs:SegS key (arrOf st) lo ok)
  (h:∀st',SegS key (arrOf st') lo n->Kp lo st st'->Q true st'):wpS (model prog w) A E s ((sortPriv% PySem.Builtin.binarySort) lo n ok) Q st:=by
 walk_at "sort binarySort"
 refine wpS_bind (wpS_mono (wpS_forRange (I:=λk c st'=>c=(none,())/\Kp lo st st'/\SegS key (arrOf st') lo (min k n))
  (Q:=λc st'=>c=(none,())/\Kp lo st st'/\SegS key (arrOf st') lo n) ?step ?fin ?init) ?post)
 case post=>
  rintro c st' ⟨rfl,K,hs'⟩
  exact wpS_pure (h st' hs' K)
 case init=>
  refine⟨rfl,Kp.refl,λi j h1 h2 h3 => ?_⟩
  by_cases ho:ok=0
  ·have:i=j:=by omega
   subst this;exact KeyOrd.kle_refl _
  ·exact hs i j h1 h2 (by omega)
 case fin=>
  rintro c st' ⟨hc,K,hs'⟩
  refine⟨hc,K,?_⟩
  rwa [show min (max (max ok 1) n) n=n by omega]at hs'
 case step=>
  rintro k c st' hak hkn ⟨rfl,K,hs'⟩
  rw[show min k n=k by omega]at hs'
  have B':=B.of_kp K
  have hz':=B'.size
  refine wpS_bind (wpS_mono (wpS_forRange (I:=λx c st''=>st''=st'/\∃l r,c=(none,l,r)/\l<=r/\r<=k/\r - l<=k - x /\
    (∀i,lo<=i->i < lo + l->O.kle (Kf key (arrOf st') i) (Kf key (arrOf st') (lo + k)))/\(∀i,lo + r<=i->i < lo + k->O.klt (Kf key (arrOf st') (lo + k)) (Kf key (arrOf st') i)))
   (Q:=λc st''=>st''=st'/\∃l r,c=(none,l,r)/\l<=k /\
    (∀i,lo<=i->i < lo + l->O.kle (Kf key (arrOf st') i) (Kf key (arrOf st') (lo + k)))/\(∀i,lo + l<=i->i < lo + k->O.klt (Kf key (arrOf st') (lo + k)) (Kf key (arrOf st') i))) ?istep ?ifin ?iinit) ?ipost)
  case iinit=>exact⟨rfl,0,k,rfl,by omega,by omega,by omega,λi hi=>by omega,λi h1 h2=>by omega⟩
  case ifin=>
   rintro c st'' ⟨rfl,l,r,rfl,hlr,hrk,hm,hlo,hhi⟩
   have:l=r:=by omega
   subst this
   exact⟨rfl,l,l,rfl,hrk,hlo,hhi⟩
  case istep=>
   rintro x c st'' _ hxk ⟨est,l,r,rfl,hlr,hrk,hm,hlo,hhi⟩
   rw[est]
   dsimp only
   by_cases hge:l ≥ r
   ·rw[if_pos hge]
    have:l=r:=by omega
    subst this
    exact wpS_pure ⟨rfl,l,l,rfl,hrk,hlo,hhi⟩
   ·rw[if_neg hge]
    refine wpS_bind (zew C B' (by omega) (by omega) ?_)
    cases hless:O.blt (Kf key (arrOf st') (lo + k)) (Kf key (arrOf st') (lo + (l + r) / 2)) with
    | true=>
     simp only[if_true]
     refine wpS_pure ⟨rfl,l,(l + r) / 2,rfl,by omega,by omega,by omega,hlo,λi h1 h2 => ?_⟩
     exact KeyOrd.klt_of_klt_of_kle hless (hs' _ _ (by omega) h1 h2)
    | false=>
     simp only[Bool.false_eq_true,if_false]
     refine wpS_pure ⟨rfl,(l + r) / 2 + 1,r,rfl,by omega,by omega,by omega,λi h1 h2 => ?_,hhi⟩
     exact KeyOrd.kle_trans (hs' i (lo + (l + r) / 2) h1 (by omega) (by omega)) (show O.kle _ _ from hless)
  case ipost=>
   rintro c st'' ⟨est,l,r,rfl,hlk,hlo,hhi⟩
   rw[est]
   dsimp only
   refine wpS_bind (zh7 (wpS_pure ⟨rfl,K.bubble (by omega) (by omega),?_⟩))
   rw[show min (k + 1) n=k + 1 by omega]
   have hks:lo + k < (arrOf st').size:=by omega
   intro i j hi hij hj
   show O.kle (Kf key (bubble (arrOf st') (lo + k) (lo + k - (lo + l))) i) (Kf key (bubble (arrOf st') (lo + k) (lo + k - (lo + l))) j)
   rw[zhl hks (by omega),zhl hks (by omega),show lo + k - (lo + k - (lo + l))=lo + l by omega]
   repeat' split
   all_goals first
    | (exfalso;omega)
    | exact KeyOrd.kle_refl _
    | exact hlo _ (by omega) (by omega)
    | exact KeyOrd.kle_of_klt (hhi _ (by omega) (by omega))
    | exact hs' _ _ (by omega) (by omega) (by omega)
end
end TS
namespace TS
open PySem PyProof.Rows
local macro_rules | `(tactic| walk_at "sort sortRuns") => do `(tactic| delta $(Lean.mkIdent (Lean.mkPrivateNameCore `PySem.Builtin.List.W1All `PySem.Builtin.sortRuns)):ident)
def sp2(x:Nat×Nat×Nat):Nat×Nat:=(x.1,x.2.1)
inductive Runs{O:KeyOrd}(key:Keyed->O.α):Nat->List (List Keyed)->List (Nat×Nat)->Prop
 | nil {off:Nat}:Runs key off [] []
 | cons {off:Nat} {r:List Keyed} {rs:List (List Keyed)} {ps:List (Nat×Nat)}:r≠[]->Srt key r->Runs key (off + r.length) rs ps->Runs key off (r :: rs) ((off,r.length) :: ps)
section
variable{O:KeyOrd}{key:Keyed->O.α}
theorem Runs.snoc:∀{off:Nat} {rs:List (List Keyed)} {ps:List (Nat×Nat)} {r:List Keyed},Runs key off rs ps->r≠[]->Srt key r->Runs key off (rs ++ [r]) (ps ++ [(off + rs.flatten.length,r.length)])
 | _,_,_,r,.nil,h1,h2 => .cons h1 h2 .nil
 | _,_,_,r,.cons a b h,h1,h2=>by
  have z:=h.snoc h1 h2
  rw[List.cons_append,List.cons_append]
  refine .cons a b ?_
  rw[List.flatten_cons,List.length_append,<- Nat.add_assoc]
  exact z
theorem Runs.enough:∀{off:Nat} {rs:List (List Keyed)} {ps:List (Nat×Nat)},Runs key off rs ps->ps.length<=rs.flatten.length
 | _,_,_,.nil=>by simp
 | _,_,_,.cons (r:=r) a b h=>by
  have:=h.enough
  have:0 < r.length:=List.length_pos_iff.mpr a
  rw[List.flatten_cons,List.length_append,List.length_cons];omega
theorem Runs.split:∀(i:Nat) {off:Nat} {rs:List (List Keyed)} {ps:List (Nat×Nat)},Runs key off rs ps->i + 1 < ps.length->∃(R1:List (List Keyed)) (la lb:List Keyed) (R2:List (List Keyed)) (p1 p2:List (Nat×Nat)),
  rs=R1 ++ la :: lb :: R2/\ps=p1 ++ (off + R1.flatten.length,la.length) :: (off + R1.flatten.length + la.length,lb.length) :: p2/\p1.length=i/\la≠[]/\lb≠[]/\Srt key la/\Srt key lb /\
  ∀m:List Keyed,Srt key m->m.length=la.length + lb.length->Runs key off (R1 ++ m :: R2) (p1 ++ (off + R1.flatten.length,m.length) :: p2)
 | 0,off,_,_,.cons (r:=la) a b (.cons (r:=lb) (rs:=R2) (ps:=p2) c d h),_=>by
  refine⟨[],la,lb,R2,[],p2,rfl,rfl,rfl,a,c,b,d,λm hm hl => .cons ?_ hm ?_⟩
  ·intro z;rw[z]at hl;exact a (List.eq_nil_of_length_eq_zero (by simp at hl;omega))
  ·rw[hl,<- Nat.add_assoc];exact h
 | i + 1,off,_,_,.cons (r:=r) (rs:=rs) (ps:=ps) a b h,hi=>by
  obtain⟨R1,la,lb,R2,p1,p2,e1,e2,e3,n1,n2,s1,s2,hm⟩:=h.split i (by simpa using hi)
  refine⟨r :: R1,la,lb,R2,(off,r.length) :: p1,p2,by rw[e1];rfl,by rw[e2,List.flatten_cons,List.length_append,<- Nat.add_assoc];rfl,by rw[List.length_cons,e3],n1,n2,s1,s2,λm h1 h2 => ?_⟩
  have z:=hm m h1 h2
  rw[List.flatten_cons,List.length_append,<- Nat.add_assoc]
  exact .cons a b z
 | 0,_,_,_,.nil,h=>by simp at h
 | 0,_,_,_,.cons _ _ .nil,h=>by simp at h
 | i + 1,_,_,_,.nil,h=>by simp at h
theorem zqr{xs:Array Keyed}{lo n:Nat}(h:SegS key xs lo n)(hz:lo + n<=xs.size):Srt key ((xs.toList.drop lo).take n):=by
 refine List.pairwise_iff_getElem.mpr λi j hi hj hij => ?_
 rw[List.length_take,List.length_drop]at hi hj
 have z:=h (lo + i) (lo + j) (by omega) (by omega) (by omega)
 unfold Kf at z
 rw[Array.getD_eq_getD_getElem?,Array.getD_eq_getD_getElem?,getElem?_pos xs (lo + i) (by omega),getElem?_pos xs (lo + j) (by omega)]at z
 simpa using z
theorem zhz{α β : Type}(f : α->β):∀(l:List α) (i:Nat),(l.eraseIdx i).map f=(l.map f).eraseIdx i
 | [],_=>rfl
 | _ :: _,0=>rfl
 | x :: l,i + 1=>by simp[zhz f l i]
theorem zki{f:Nat×Nat×Nat->Nat×Nat×Nat}(hf:∀x,sp2 (f x)=sp2 x)(l:List (Nat×Nat×Nat))(i:Nat):(l.modify i f).map sp2=l.map sp2:=by
 refine List.ext_getElem? λk => ?_
 rw[List.getElem?_map,List.getElem?_map,List.getElem?_modify]
 cases l[k]? with
 | none=>rfl
 | some x=>
  by_cases h:i=k
  ·simp[h,hf]
  ·simp[h]
end
section
variable{prog:Program}{w:World}{A:Around}{E:Value->Shared->Prop}{s:Shared}{kd:SortKind}{a₀:Array Keyed}{O:KeyOrd}{key:Keyed->O.α}
structure GR(kd:SortKind)(a₀:Array Keyed){O:KeyOrd}(key:Keyed->O.α)(rest:List Keyed)(lo:Nat)(st:SortSt):Prop where
 sb:SB kd a₀ st
 ex:∃runs:List (List Keyed),(arrOf st).toList=runs.flatten ++ rest/\runs.flatten.length=lo/\Runs key 0 runs ((pendingOf st).toList.map sp2)
theorem ze2(C:Cmp prog w A s kd a₀ O key){rest:List Keyed}{lo i:Nat}{st:SortSt}{Q:Bool->SortSt->Prop}(G:GR kd a₀ key rest lo st)(hi:i + 1 < (pendingOf st).size)
  (h:∀st',GR kd a₀ key rest lo st'->(pendingOf st').size + 1=(pendingOf st).size->Q true st'):wpS (model prog w) A E s ((sortPriv% PySem.Builtin.mergeAt) i) Q st:=by
 obtain⟨runs,harr,hlen,hR⟩:=G.ex
 obtain⟨R1,la,lb,R2,p1,p2,e1,e2,e3,n1,n2,s1,s2,hm⟩:=hR.split i (by simpa using hi)
 obtain⟨x1,hx1⟩:∃x,(pendingOf st)[i]? = some x:=⟨_,getElem?_pos _ i (by omega)⟩
 obtain⟨x2,hx2⟩:∃x,(pendingOf st)[i + 1]? = some x:=⟨_,getElem?_pos _ (i + 1) hi⟩
 obtain⟨a1,b1,c1⟩:=x1
 obtain⟨a2,b2,c2⟩:=x2
 have y1:((pendingOf st).toList.map sp2)[i]? = some (a1,b1):=by rw[List.getElem?_map,Array.getElem?_toList,hx1];rfl
 have y2:((pendingOf st).toList.map sp2)[i + 1]? = some (a2,b2):=by rw[List.getElem?_map,Array.getElem?_toList,hx2];rfl
 rw[e2]at y1 y2
 rw[List.getElem?_append_right (by omega),e3,Nat.sub_self]at y1
 rw[List.getElem?_append_right (by omega),e3,show i + 1 - i=1 by omega]at y2
 simp only[List.getElem?_cons_zero,List.getElem?_cons_succ,Option.some.injEq,Prod.mk.injEq,Nat.zero_add]at y1 y2
 obtain⟨rfl,rfl⟩:=y1
 obtain⟨rfl,rfl⟩:=y2
 refine zj3 C (P:=R1.flatten) (la:=la) (lb:=lb) (R:=R2.flatten ++ rest) G.sb hx1 hx2 (by rw[harr,e1];simp) rfl rfl rfl rfl (List.length_pos_iff.mpr n1) (List.length_pos_iff.mpr n2) s1 s2 λm st' pm sm ha B' hp => ?_
 have hml:m.length=la.length + lb.length:=by rw[pm.length_eq,List.length_append]
 have hps:(pendingOf st').toList.map sp2=p1 ++ (R1.flatten.length,m.length) :: p2:=by
  rw[hp]
  have hi2:i + 1 < ((pendingOf st).setIfInBounds i (R1.flatten.length,la.length + lb.length,c1)).size:=by rw[Array.size_setIfInBounds];exact hi
  unfold Array.eraseIdxIfInBounds
  rw[dif_pos hi2,Array.toList_eraseIdx,Array.toList_setIfInBounds,zhz,List.map_set,e2,<- e3,hml]
  simp[sp2,List.eraseIdx_append_of_length_le]
 refine h st' ⟨B',R1 ++ m :: R2,by rw[ha];simp,?_,?_⟩ ?_
 ·rw[<- hlen,e1];simp[hml];omega
 ·have z:=hm m sm hml
  rw[Nat.zero_add]at z
  rw[hps];exact z
 ·have l1:=congrArg List.length hps
  have l2:=congrArg List.length e2
  simp only[List.length_map,Array.length_toList,List.length_append,List.length_cons]at l1 l2
  omega
theorem zr7(c:Prop)[Decidable c](n:Nat):(if c then n - 1 else n)<=n:=by split <;> omega
theorem GR.kp{rest:List Keyed}{lo:Nat}{st st2:SortSt}(G:GR kd a₀ key rest lo st)(K:Kp lo st st2):GR kd a₀ key ((arrOf st2).toList.drop lo) lo st2:=by
 obtain⟨runs,harr,hlen,hR⟩:=G.ex
 refine⟨G.sb.of_kp K,runs,?_,hlen,by rw[K.pend];exact hR⟩
 have:(arrOf st2).toList.take lo=runs.flatten:=by
  have h1:(arrOf st2).toList.take lo=(arrOf st).toList.take lo:=by
   refine List.ext_getElem? λk => ?_
   by_cases hk:k < lo
   ·rw[List.getElem?_take_of_lt hk,List.getElem?_take_of_lt hk,Array.getElem?_toList,Array.getElem?_toList]
    exact K.low k hk
   ·rw[List.getElem?_eq_none (by rw[List.length_take];omega),List.getElem?_eq_none (by rw[List.length_take];omega)]
  rw[h1,harr,List.take_append_of_le_length (by omega),List.take_of_length_le (by omega)]
 rw[<- this,List.take_append_drop]
theorem GR.push{nr rest:List Keyed}{lo n:Nat}{st:SortSt}(G:GR kd a₀ key (nr ++ rest) lo st)(hn:nr.length=n)(h0:nr≠[])(hs:Srt key nr):GR kd a₀ key rest (lo + n) (SortSt.mk' (kindOf st) (arrOf st) ((pendingOf st).push (lo,n,0)) (gallopOf st) (failedOf st)):=by
 obtain⟨runs,harr,hlen,hR⟩:=G.ex
 refine⟨⟨G.sb.kind,G.sb.perm,G.sb.failed⟩,runs ++ [nr],?_,by simp[hlen,hn],?_⟩
 ·show (arrOf st).toList=_
  rw[harr];simp
 ·have z:=hR.snoc h0 hs
  rw[Nat.zero_add,hlen,hn]at z
  show Runs key 0 _ (((pendingOf st).push (lo,n,0)).toList.map sp2)
  rw[Array.toList_push,List.map_append]
  exact z
theorem GR.pow{rest:List Keyed}{lo:Nat}{st:SortSt}{f:Nat×Nat×Nat->Nat×Nat×Nat}{k:Nat}(hf:∀x,sp2 (f x)=sp2 x)(G:GR kd a₀ key rest lo st):GR kd a₀ key rest lo (SortSt.mk' (kindOf st) (arrOf st) ((pendingOf st).modify k f) (gallopOf st) (failedOf st)):=by
 obtain⟨runs,harr,hlen,hR⟩:=G.ex
 refine⟨⟨G.sb.kind,G.sb.perm,G.sb.failed⟩,runs,harr,hlen,?_⟩
 show Runs key 0 _ (((pendingOf st).modify k f).toList.map sp2)
 rw[Array.toList_modify,zki hf]
 exact hR
theorem Runs.one:∀{off:Nat} {rs:List (List Keyed)} {ps:List (Nat×Nat)},Runs key off rs ps->ps.length<=1->Srt key rs.flatten
 | _,_,_,.nil,_=>List.Pairwise.nil
 | _,_,_,.cons a b .nil,_=>by simpa using b
 | _,_,_,.cons _ _ (.cons _ _ _),h=>by simp at h
theorem zih(C:Cmp prog w A s kd a₀ O key){st:SortSt}{Q:Unit->SortSt->Prop}(B:SB kd a₀ st)(hp:pendingOf st = #[])
  (h:∀st',SB kd a₀ st'->Srt key (arrOf st').toList->Q () st'):wpS (model prog w) A E s sortRuns' Q st:=by
 unfold sortRuns'
 walk_at "sort sortRuns"
 refine wpS_bind (wpS_get ?_)
 extract_lets size minrun z0
 have hsize:size=a₀.size:=B.size
 clear_value size minrun
 have G0:GR kd a₀ key (arrOf st).toList 0 st:=⟨B,[],rfl,rfl,by rw[hp];exact .nil⟩
 refine wpS_bind (wpS_mono (wpS_forRange (I:=λx c st'=>∃lo,c=(none,lo)/\x<=lo/\lo<=size/\∃rest,GR kd a₀ key rest lo st')
  (Q:=λc st'=>c=(none,size)/\∃rest,GR kd a₀ key rest size st') ?step ?fin ⟨0,rfl,Nat.le_refl _,Nat.zero_le _,_,G0⟩) ?post)
 case fin=>
  rintro c st' ⟨lo,rfl,h1,h2,G⟩
  have:lo=size:=by omega
  subst this
  exact⟨rfl,G⟩
 case step=>
  rintro x c st' _ hx ⟨lo,rfl,h1,h2,rest,G⟩
  dsimp -zeta only
  by_cases hge:lo ≥ size
  ·rw[if_pos hge]
   have:lo=size:=by omega
   subst this
   exact wpS_pure ⟨rfl,rest,G⟩
  rw[if_neg hge]
  refine wpS_bind (zir C G.sb (by omega) (by omega) λm st2 hm1 hm2 hs2 K2 => ?_)
  have G2:=G.kp K2
  have hz2:=G2.sb.size
  extract_lets jp
  have hjp:∀n st3,1<=n->lo + n<=size->SegS key (arrOf st3) lo n->GR kd a₀ key ((arrOf st3).toList.drop lo) lo st3->wpS (model prog w) A E s (jp () n) (λr st'=>match r with
    | .done c'=>c'=(none,size)/\∃rest,GR kd a₀ key rest size st'
    | .yield c'=>∃lo,c'=(none,lo)/\x + 1<=lo/\lo<=size/\∃rest,GR kd a₀ key rest lo st') st3:=by
   intro n st3 hn1 hn2 hs3 G3
   have hz3:=G3.sb.size
   have sN:=zqr hs3 (by omega)
   have lN:(((arrOf st3).toList.drop lo).take n).length=n:=by rw[List.length_take,List.length_drop,Array.length_toList];omega
   have nN:((arrOf st3).toList.drop lo).take n≠[]:=by intro z;rw[z]at lN;simp at lN;omega
   rw[<- List.take_append_drop n ((arrOf st3).toList.drop lo)]at G3
   refine wpS_bind (wpS_get ?_)
   extract_lets y0 jp2
   have hjp2:∀st4,GR kd a₀ key (((arrOf st3).toList.drop lo).take n ++ ((arrOf st3).toList.drop lo).drop n) lo st4->wpS (model prog w) A E s (jp2 ()) (λr st'=>match r with
     | .done c'=>c'=(none,size)/\∃rest,GR kd a₀ key rest size st'
     | .yield c'=>∃lo,c'=(none,lo)/\x + 1<=lo/\lo<=size/\∃rest,GR kd a₀ key rest lo st') st4:=by
    intro st4 G4
    exact wpS_bind (wpS_modify (wpS_pure ⟨lo + n,rfl,by omega,hn2,_,G4.push lN nN sN⟩))
   clear_value jp2
   show wpS _ _ _ _ (match (pendingOf st3).back? with | _=>_) _ _
   cases hb:(pendingOf st3).back? with
   | none=>exact hjp2 st3 G3
   | some y=>
    obtain⟨y1,y2,y3⟩:=y
    dsimp only
    refine wpS_bind (wpS_mono (wpS_forRange (I:=λ_ c st'=>c=(none,())/\GR kd a₀ key (((arrOf st3).toList.drop lo).take n ++ ((arrOf st3).toList.drop lo).drop n) lo st')
     (Q:=λc st'=>c=(none,())/\GR kd a₀ key (((arrOf st3).toList.drop lo).take n ++ ((arrOf st3).toList.drop lo).drop n) lo st') ?mstep (λ_ _ z=>z) ⟨rfl,G3⟩) ?mpost)
    case mpost=>
     rintro c st4 ⟨rfl,G4⟩
     dsimp only
     refine wpS_bind (wpS_modify (hjp2 _ (G4.pow ?_)))
     rintro⟨_,_,_⟩;rfl
    case mstep=>
     rintro y c st4 _ hy ⟨rfl,G4⟩
     refine wpS_bind (wpS_get ?_)
     show wpS _ _ _ _ (match (if (pendingOf st4).size > 1 then(pendingOf st4)[(pendingOf st4).size - 2]? else none) with | _=>_) _ _
     by_cases hsz:(pendingOf st4).size > 1
     ·rw[if_pos hsz]
      obtain⟨⟨u1,u2,u3⟩,hu⟩:∃u,(pendingOf st4)[(pendingOf st4).size - 2]? = some u:=⟨_,getElem?_pos _ _ (by omega)⟩
      rw[hu]
      dsimp only
      split
      ·exact wpS_pure ⟨rfl,G4⟩
      ·refine wpS_bind (ze2 C G4 (by show (pendingOf st4).size - 2 + 1 < (pendingOf st4).size;omega) λst5 G5 _ => ?_)
       simp only[Bool.not_true,Bool.false_eq_true,if_false]
       exact wpS_pure ⟨rfl,G5⟩
     ·rw[if_neg hsz]
      exact wpS_pure ⟨rfl,G4⟩
  clear_value jp
  dsimp only
  by_cases hlt:m < minrun
  ·rw[if_pos hlt]
   refine wpS_bind (wpS_lift (wpAny_rule ⟨rfl,?_⟩))
   refine wpS_bind (zgk C G2.sb (by omega) (by omega) hs2 λst3 hs3 K3 => ?_)
   simp only[Bool.not_true,Bool.false_eq_true,if_false]
   refine wpS_mono (hjp (min (size - lo) minrun) st3 (by omega) (by omega) hs3 (G2.kp K3)) λr st' hr => ?_
   cases r <;> exact hr
  ·rw[if_neg hlt]
   refine wpS_mono (hjp m st2 hm1 (by omega) hs2 G2) λr st' hr => ?_
   cases r <;> exact hr
 case post=>
  rintro c st1 ⟨rfl,rest,G⟩
  dsimp only
  have hrest:rest=[]:=by
   obtain⟨runs,harr,hlen,hR⟩:=G.ex
   have l:=congrArg List.length harr
   rw[List.length_append,Array.length_toList,G.sb.size,hlen]at l
   exact List.eq_nil_of_length_eq_zero (by omega)
  subst hrest
  have hpe:(pendingOf st1).size<=size:=by
   obtain⟨runs,harr,hlen,hR⟩:=G.ex
   have:=hR.enough
   rw[hlen,List.length_map,Array.length_toList]at this
   exact this
  refine wpS_bind (wpS_mono (wpS_forRange (I:=λx c st'=>c=(none,())/\GR kd a₀ key [] size st'/\(pendingOf st').size + x<=size)
   (Q:=λc st'=>c=(none,())/\GR kd a₀ key [] size st'/\(pendingOf st').size<=1) ?fstep ?ffin ⟨rfl,G,by omega⟩) ?fpost)
  case ffin=>
   rintro c st' ⟨rfl,G',hz⟩
   exact⟨rfl,G',by omega⟩
  case fpost=>
   rintro c st' ⟨rfl,G',hz⟩
   obtain⟨runs,harr,hlen,hR⟩:=G'.ex
   refine wpS_pure (h st' G'.sb ?_)
   rw[harr,List.append_nil]
   exact hR.one (by rw[List.length_map,Array.length_toList];exact hz)
  case fstep=>
   rintro x c st' _ hx ⟨rfl,G',hz⟩
   refine wpS_bind (wpS_get ?_)
   show wpS _ _ _ _ (if (pendingOf st').size<=1 then _ else _) _ _
   by_cases hle:(pendingOf st').size<=1
   ·rw[if_pos hle]
    exact wpS_pure ⟨rfl,G',hle⟩
   ·rw[if_neg hle]
    refine wpS_bind (ze2 C G' ?_ λst5 G5 h5 => ?_)
    ·show (if _ then(pendingOf st').size - 2 - 1 else(pendingOf st').size - 2) + 1 < (pendingOf st').size
     exact Nat.lt_of_le_of_lt (Nat.succ_le_succ (zr7 _ _)) (by show (pendingOf st').size - 2 + 1 < (pendingOf st').size;omega)
    ·simp only[Bool.not_true,Bool.false_eq_true,if_false]
     exact wpS_pure ⟨rfl,G5,by omega⟩
end
end TS
namespace TS
open PySem PyProof.Rows
open HT (lexLt)
open PySem.W (KatLex kat_nil kat_cons kat_yes kat_no kat_one kat_lt)
theorem zfp:∀x:List Int,lexLt x x=false
 | []=>rfl
 | a :: x=>by rw[HT.lexLt_cons,if_pos rfl];exact zfp x
theorem zj6:∀{x y z:List Int},lexLt x y=true->lexLt y z=true->lexLt x z=true
 | [],[],_,h,_=>by cases h
 | [],_ :: _,[],_,h=>by cases h
 | [],_ :: _,_ :: _,_,_=>rfl
 | _ :: _,[],_,h,_=>by cases h
 | _ :: _,_ :: _,[],_,h=>by cases h
 | a :: x,b :: y,c :: z,h1,h2=>by
  rw[HT.lexLt_cons]at h1 h2 ⊢
  by_cases e1:a=b
  ·rw[if_pos e1]at h1
   by_cases e2:b=c
   ·rw[if_pos e2]at h2
    rw[if_pos (e1.trans e2)]
    exact zj6 h1 h2
   ·rw[if_neg e2]at h2
    rw[if_neg (by omega),e1]
    exact h2
  ·rw[if_neg e1]at h1
   have l1:a < b:=of_decide_eq_true h1
   by_cases e2:b=c
   ·rw[if_pos e2]at h2
    rw[if_neg (by omega)]
    exact decide_eq_true (by omega)
   ·rw[if_neg e2]at h2
    have l2:b < c:=of_decide_eq_true h2
    rw[if_neg (by omega)]
    exact decide_eq_true (by omega)
theorem zfu:∀{x y:List Int},x≠y->lexLt x y = !lexLt y x
 | [],[],h=>absurd rfl h
 | [],_ :: _,_=>rfl
 | _ :: _,[],_=>rfl
 | a :: x,b :: y,h=>by
  rw[HT.lexLt_cons,HT.lexLt_cons]
  by_cases e:a=b
  ·rw[if_pos e,if_pos e.symm]
   exact zfu λz=>h (by rw[e,z])
  ·rw[if_neg e,if_neg (Ne.symm e)]
   by_cases l:a < b
   ·rw[decide_eq_true l,decide_eq_false (by omega)];rfl
   ·rw[decide_eq_false l,decide_eq_true (by omega)];rfl
def lexO:KeyOrd where
 α:=List Int
 blt:=lexLt
 irrefl:=zfp
 trans:=λ_ _ _ h1 h2=>zj6 h1 h2
 negTrans:=λa b c h=>by
  cases q:lexLt a b with
  | true=>exact .inl rfl
  | false=>
   refine .inr ?_
   by_cases e:a=b
   ·rw[<- e];exact h
   ·have z:=zfu e
    rw[q]at z
    have z':lexLt b a=true:=by simpa using z.symm
    exact zj6 z' h
 total:=λa b h1 h2=>by
  by_cases e:a=b
  ·exact e
  ·have z:=zfu e
   rw[h1,h2]at z;cases z
section
variable{prog:Program}{w:World}{A:Around}{s:Shared}
theorem zj0(b:Bool){x y:Int}{t u:Tok}{Q:Bool->Shared->Prop}{E:Value->Shared->Prop}(h:Q (decide (x < y)) s):wpAny (model prog w) A (oneLt' b (.int x t) (.int y u)) Q E s:=by
 cases b with
 | true=>exact oneLt_int h
 | false=>exact kat_one _ _ (PyProof.Rows.lt_int (show W.BoolBack Q (.bool (decide (x < y))) s from h))
theorem zkz{b:Bool}{Q:Bool->Shared->Prop}:∀(ns ms:List Int) {vs us:List Value} (i:Nat) (fin:Bool),IntsAre vs ns->IntsAre us ms->fin=decide (ns.length < ms.length)->Q (lexLt ns ms) s ->
  KatLex prog w A b fin Q (vs.zip us) i s
 | [],[],vs,us,i,fin,hv,hu,hf,h=>by
  cases hv;cases hu
  rw[hf];exact kat_nil h
 | [],_ :: _,vs,us,i,fin,hv,hu,hf,h=>by
  cases hv;cases hu
  rw[HT.lexLt_nil_cons]at h
  rw[hf];exact kat_nil (by simpa using h)
 | _ :: _,[],vs,us,i,fin,hv,hu,hf,h=>by
  cases hv;cases hu
  rw[HT.lexLt_cons_nil]at h
  rw[hf];exact kat_nil (by simpa using h)
 | n :: ns,m :: ms,_,_,i,fin,.cons _ t hv,.cons _ u hu,hf,h=>by
  rw[List.zip_cons_cons]
  rw[HT.lexLt_cons]at h
  obtain⟨e,he,hiff⟩:=HT.eqAt_int A s n t m u
  refine kat_cons (he prog w _ _ ?_)
  cases e with
  | true=>
   rw[if_pos (hiff.mp rfl)]at h
   exact kat_yes (zkz ns ms (i + 1) fin hv hu (by rw[hf];simp) h)
  | false=>
   rw[if_neg (λq=>absurd (hiff.mpr q) Bool.false_ne_true)]at h
   exact kat_no (zj0 _ h)
def TupAt(h:Heap)(v:Value)(ns:List Int):Prop:=∃a its,v = .ref a/\IsTup h a its/\IntsAre its.toList ns
theorem TupAt.uniq{h:Heap}{v:Value}{ns ms:List Int}(h1:TupAt h v ns)(h2:TupAt h v ms):ns=ms:=by
 obtain⟨a,its,rfl,⟨o,e,_,n,d⟩,i1⟩:=h1
 obtain⟨a',its',ea,⟨o',e',_,n',d'⟩,i2⟩:=h2
 cases ea
 rw[e]at e';cases e'
 rw[d]at d';cases d'
 rw[<- i1.nums,<- i2.nums]
open Classical in
noncomputable def tupKey(h:Heap)(x:Keyed):List Int:=if e:∃ns,TupAt h x.1 ns then e.choose else []
theorem zeo{h:Heap}{x:Keyed}{ns:List Int}(t:TupAt h x.1 ns):tupKey h x=ns:=by
 unfold tupKey
 have e:∃ns,TupAt h x.1 ns:=⟨ns,t⟩
 rw[dif_pos e]
 exact e.choose_spec.uniq t
theorem zoa{a₀:Array Keyed}(b:Bool)(h:∀x∈a₀.toList,∃ns,TupAt s.heap x.1 ns):Cmp prog w A s (tuples' b) a₀ lexO (tupKey s.heap):=by
 refine⟨λx hx y hy Q E hq => ?_⟩
 obtain⟨ns,tx⟩:=h x hx
 obtain⟨ms,ty⟩:=h y hy
 rw[zeo tx,zeo ty]at hq
 obtain⟨a,its,ea,⟨o,e,_,n,d⟩,i1⟩:=tx
 obtain⟨a',its',ea',⟨o',e',_,n',d'⟩,i2⟩:=ty
 rw[ea,ea']
 refine kat_lt e d e' d' (zkz ns ms 0 _ i1 i2 ?_ hq)
 have l1:=i1.length
 have l2:=i2.length
 simp only[Array.length_toList]at l1 l2
 rw[l1,l2]
end
end TS
namespace TS
open PySem PyProof.Rows
open L2 (V Vals RelV)
section
variable{α β γ δ : Type}{R : α->β->Prop}
theorem ziu{l l':List β}(p:l.Perm l'):∀{k:List α},Paired R k l->∃k',k'.Perm k/\Paired R k' l':=by
 induction p with
 | nil=>intro k h;exact⟨k,.refl _,h⟩
 | cons x _ ih=>
  intro k h
  cases h with
  | cons r t=>
   obtain⟨k',p',h'⟩:=ih t
   exact⟨_ :: k',p'.cons _,.cons r h'⟩
 | swap x y l=>
  intro k h
  cases h with
  | cons r t=>
   cases t with
   | cons r' t=>exact⟨_ :: _ :: _,.swap _ _ _,.cons r' (.cons r t)⟩
 | trans _ _ ih1 ih2=>
  intro k h
  obtain⟨k1,p1,h1⟩:=ih1 h
  obtain⟨k2,p2,h2⟩:=ih2 h1
  exact⟨k2,p2.trans p1,h2⟩
theorem zjz{k:List α}{l:List β}(h:Paired R k l):∀p∈k,∃x∈l,R p x:=by
 induction h with
 | nil=>intro p hp;cases hp
 | cons r _ ih=>
  intro p hp
  rcases List.mem_cons.mp hp with rfl | hp
  ·exact⟨_,.head _,r⟩
  ·obtain⟨x,hx,z⟩:=ih p hp;exact⟨x,.tail _ hx,z⟩
theorem zim{k:List α}{l:List β}(h:Paired R k l):∀x∈l,∃p∈k,R p x:=by
 induction h with
 | nil=>intro p hp;cases hp
 | cons r _ ih=>
  intro p hp
  rcases List.mem_cons.mp hp with rfl | hp
  ·exact⟨_,.head _,r⟩
  ·obtain⟨x,hx,z⟩:=ih p hp;exact⟨x,.tail _ hx,z⟩
theorem ze9{S : β->β->Prop}{T : α->α->Prop}(hst:∀p q x y,R p x->R q y->S x y->T p q){k:List α}{l:List β}(h:Paired R k l):l.Pairwise S->k.Pairwise T:=by
 induction h with
 | nil=>intro _;exact .nil
 | cons r t ih=>
  intro hp
  obtain⟨h1,h2⟩:=List.pairwise_cons.mp hp
  refine List.pairwise_cons.mpr ⟨λq hq => ?_,ih h2⟩
  obtain⟨y,hy,z⟩:=zjz t q hq
  exact hst _ _ _ _ r z (h1 y hy)
theorem zj5{R' : γ->δ->Prop}{k:List α}{l:List β}(h:Paired R k l):∀{k':List γ} {l':List δ},Paired R' k' l'->Paired (λp x=>R p.1 x.1/\R' p.2 x.2) (k.zip k') (l.zip l'):=by
 induction h with
 | nil=>intro k' l' _;exact .nil
 | cons r _ ih=>
  intro k' l' h'
  cases h' with
  | nil=>exact .nil
  | cons r' t'=>exact .cons ⟨r,r'⟩ (ih t')
theorem paired_reverse{k:List α}{l:List β}(h:Paired R k l):Paired R k.reverse l.reverse:=by
 have app:∀{a b:List α} {c d:List β},Paired R a c->Paired R b d->Paired R (a ++ b) (c ++ d):=by
  intro a b c d h1 h2
  induction h1 with
  | nil=>exact h2
  | cons r _ ih=>exact .cons r ih
 induction h with
 | nil=>exact .nil
 | cons r _ ih=>
  rw[List.reverse_cons,List.reverse_cons]
  exact app ih (.cons r .nil)
theorem zkb{S : γ->δ->Prop}{f : α->γ}{g : β->δ}(hfg:∀p x,R p x->S (f p) (g x)){k:List α}{l:List β}(h:Paired R k l):Paired S (k.map f) (l.map g):=by
 induction h with
 | nil=>exact .nil
 | cons r _ ih=>exact .cons (hfg _ _ r) ih
end
section
variable{prog:Program}{w:World}{A:Around}{E:Value->Shared->Prop}{s:Shared}
theorem zno{b:Bool}{st:SortSt}{kS D:Addr}{ks:Array Value}{e e1:Nat}{P:PySem.Fin->Shared->Prop}(hk:s.heap.get? kS=some (seqObj "list" ks e))(hD:s.heap.get? D=some (seqObj "list" #[] e1))(hne:D≠kS)(hf:failedOf st=none)
  (hz:ks.size<=sizeLine) (hz2:(arrOf st).size<=sizeLine)
  (h:P (.done (.ret .none)) { s with heap:=(s.heap.update kS (Obj.mapSeq λ_ => #[])).update D (Obj.mapSeq λ_=>if b=true then((arrOf st).map (·.2)).reverse else(arrOf st).map (·.2)) }) :
  wpAny (model prog w) A (ksk_tail D b e1 (.ref kS) st) P E s:=by
 have s1:=Heap.SameBut.update s.heap kS (Obj.mapSeq λ_=>(#[]:Array Value))
 have hD1:(s.heap.update kS (Obj.mapSeq λ_=>(#[]:Array Value))).get? D=some (seqObj "list" #[] e1):=(s1.2 D hne).trans hD
 unfold ksk_tail
 dsimp only
 refine wpAny_bind (listUpdate_at hk rfl ?_ hz (Nat.zero_le _))
 refine wpAny_bind (wpAny_letGo ?_)
 refine wpAny_bind (seqEpoch_at hD1 rfl ?_)
 refine wpAny_bind (listUpdate_at hD1 rfl ?_ (Nat.zero_le _) (by
  split
  ·rw[Array.size_reverse,Array.size_map];omega
  ·rw[Array.size_map];omega))
 rw[hf]
 simp only[bne_self_eq_false,Bool.false_eq_true,if_false]
 exact wpAny_pure h
theorem zpm{b:Bool}{kS D:Addr}{ks vs:List Value}{kis:List (List Int)}{all:List V}{e e1:Nat}{P:PySem.Fin->Shared->Prop}(hk:s.heap.get? kS=some (seqObj "list" ks.toArray e))(hD:s.heap.get? D=some (seqObj "list" #[] e1))(hne:D≠kS)
  (hK:Paired (λns k=>TupAt s.heap k ns/\ns≠[]) kis ks) (hV:Vals all vs) (hl:ks.length=vs.length) (hz:vs.length<=sizeLine)
  (h:∀(ps:List (List Int×V)) (out:Array Value),ps.Perm (kis.zip all)->ps.Pairwise (λp q=>(if b=true then HT.lexLt p.1 q.1 else HT.lexLt q.1 p.1)=false)->Vals (ps.map (·.2)) out.toList ->
   P (.done (.ret .none)) { s with heap:=(s.heap.update kS (Obj.mapSeq λ_ => #[])).update D (Obj.mapSeq λ_=>out) }) :
  wpAny (model prog w) A (ksk_end D b vs.toArray e1 (.ref kS) ks.toArray) P E s:=by
 have hR:=zj5 hK hV
 have fin:∀st:SortSt,failedOf st=none->(arrOf st).toList.Perm (ks.zip vs)->(arrOf st).toList.Pairwise (λx y=>HT.lexLt (tupKey s.heap y) (tupKey s.heap x)=false)->wpAny (model prog w) A (ksk_tail D b e1 (.ref kS) st) P E s:=by
  intro st hf hp hs
  obtain⟨ps,pp,pr⟩:=ziu hp.symm hR
  have pw:ps.Pairwise (λp q=>HT.lexLt q.1 p.1=false):=ze9 (λp q x y r1 r2 z=>by rw[zeo r1.1.1,zeo r2.1.1]at z;exact z) pr hs
  have hlen:(arrOf st).size<=sizeLine:=by
   have:=hp.length_eq
   rw[Array.length_toList,List.length_zip]at this;omega
  have pm:Vals (ps.map (·.2)) ((arrOf st).toList.map (·.2)):=zkb (λp x r=>r.2) pr
  refine zno hk hD hne hf (by rw[List.size_toArray];omega) hlen ?_
  cases b with
  | false=>
   simp only[Bool.false_eq_true,if_false]
   exact h ps _ pp (by simpa using pw) (by rw[Array.toList_map];exact pm)
  | true=>
   simp only[if_true]
   refine h ps.reverse _ ((List.reverse_perm ps).trans pp) ?_ ?_
   ·simp only[if_true]
    rw[List.pairwise_reverse];exact pw
   ·rw[List.map_reverse,Array.toList_reverse,Array.toList_map]
    exact paired_reverse pm
 have step:∀t:Sem PySem.Fin,wpAny (model prog w) A t P E s->wpAny (model prog w) A (if b=true then(do let _ <- rule "list.sort.reverse";t) else t) P E s:=by
  intro t ht
  split
  ·exact wpAny_bind (wpAny_rule ht)
  ·exact ht
 have hz0:(if b=true then(ks.toArray.zip vs.toArray).reverse else ks.toArray.zip vs.toArray).toList.Perm (ks.zip vs):=by
  split
  ·rw[Array.toList_reverse,ksk_zip];exact List.reverse_perm _
  ·rw[ksk_zip]
 unfold ksk_end
 dsimp only
 refine step _ ?_
 by_cases h2:vs.toArray.size < 2
 ·rw[if_pos h2,if_pos h2]
  refine wpAny_bind (wpAny_pure ?_)
  refine wpAny_bind (wpAny_pure ?_)
  refine fin _ rfl hz0 ?_
  have hlz:=hz0.length_eq
  rw[List.length_zip]at hlz
  rw[List.size_toArray]at h2
  show List.Pairwise _ (if b=true then(ks.toArray.zip vs.toArray).reverse else ks.toArray.zip vs.toArray).toList
  generalize (if b=true then(ks.toArray.zip vs.toArray).reverse else ks.toArray.zip vs.toArray).toList=zs at hlz
  match zs,hlz with
  | [],_=>exact .nil
  | [_],_=>exact List.pairwise_singleton _ _
  | _ :: _ :: _,hlz=>simp at hlz;omega
 ·rw[if_neg h2,if_neg h2]
  have hT:∃fs:List Value,W.KatTups s.heap ks fs/\fs.length=ks.length/\∀v∈fs,∃n t,v = .int n t:=by
   clear hR fin hz0 hl h hk h2 hz
   induction hK with
   | nil=>exact⟨[],W.KatTups.nil,rfl,by simp⟩
   | cons r _ ih=>
    obtain⟨fs,t,l,q⟩:=ih
    obtain⟨⟨a,its,rfl,⟨o,e,c,n,d⟩,i⟩,ne⟩:=r
    obtain⟨ai⟩:=its
    cases i with
    | nil=>exact absurd rfl ne
    | cons m tk i=>
     refine⟨.int m tk :: fs,W.KatTups.cons e c d rfl t,by rw[List.length_cons,List.length_cons,l],λv hv => ?_⟩
     rcases List.mem_cons.mp hv with rfl | hv
     ·exact⟨m,tk,rfl⟩
     ·exact q v hv
  obtain⟨fs,tf,lf,qf⟩:=hT
  rw[List.size_toArray]at h2
  refine wpAny_bind (W.kat_kind (T := .type "int") tf (by omega) (λv hv => ?_) (by decide) ?_)
  ·obtain⟨n,t,rfl⟩:=qf v hv
   exact .now
  ·have C:Cmp prog w A s (tuples' (Value.type "int" != Value.type "tuple")) (if b=true then(ks.toArray.zip vs.toArray).reverse else ks.toArray.zip vs.toArray) lexO (tupKey s.heap):=by
    refine zoa _ λx hx => ?_
    obtain⟨p,hp,r⟩:=zim hR x (hz0.mem_iff.mp hx)
    exact⟨p.1,r.1.1⟩
   refine wpAny_bind (wpAny_mono (zih (E:=E) C (st:=SortSt.mk' _ _ #[] 7 none) ⟨rfl,Array.Perm.refl _,rfl⟩ rfl (Q:=λ_ st'=>SB (tuples' (Value.type "int" != Value.type "tuple")) (if b=true then(ks.toArray.zip vs.toArray).reverse else ks.toArray.zip vs.toArray) st'/\Srt (O:=lexO) (tupKey s.heap) (arrOf st').toList) λst' B' S'=>⟨B',S'⟩) ?_ λ_ _ x=>x)
   rintro⟨⟨⟩,st'⟩ s' ⟨rfl,B',S'⟩
   exact fin st' B'.failed ((Array.perm_iff_toList_perm.mp B'.perm).trans hz0) S'
end
end TS
namespace L2
open PySem PySem.Spec PyProof.Rows TS
def skGo(sp:V->Hp->VK->Prop):List V->List V->Hp->(List V->Hp->Prop)->Prop
 | [],ks,H,F=>F ks H
 | x :: xs,ks,H,F=>sp x H λk H1=>skGo sp xs (ks ++ [k]) H1 F
def skEnd(K:W.Frag)(b:Bool)(all:List V)(G:List V->Hp->Prop)(ks:List V)(H:Hp):Prop:=
 ∃kis:List (List Int),Paired (λns k=>∃t,k=V.ref t/\SqT K H t (ns.map V.int)/\ns≠[]) kis ks /\
  ∀ps:List (List Int×V),ps.Perm (kis.zip all)->ps.Pairwise (λp q=>(if b=true then HT.lexLt p.1 q.1 else HT.lexLt q.1 p.1)=false)->G (ps.map (·.2)) H
def BRunA(X:Cx)(A:Around)(σ : St)(pl:List (Addr×Obj))(q:Addr)(oq:Obj)(sp:V->Hp->VK->Prop):Prop:=∀(pins:List (Addr×Obj)) (s:Shared) (H:Hp) (Q:VK) (x:V) (u:Value),Inv X pins σ H s->(∀p∈(q,oq) :: pl,p∈pins)->RelV x u->sp x H Q ->
 wpAny (model X.prog X.w) A (call (.ref q) [u]) (EP X pins σ Q) (λ_ _=>False) s
theorem zn5{X:Cx}{k:Nat}{f:Addr}{fd:FuncData}{ps:List Str}{sp:Sp}{dvs:List V}{ds:List Value}{q a:Addr}{σ : St}{pl:List (Addr×Obj)}(F:FnOk X.prog X.w X.K X.mg X.base CX0 k f fd ps sp)(hr:Room (k + 1 + 1) X.A)(hb:Binds X.K fd ps ds)(hd:Vals dvs ds) :
  BRunA X X.A.in1.in1 σ pl q (W.methodObj (.ref f) (.ref a)) λx H Q=>sp (.ref a :: x :: dvs) H Q E0:=by
 intro pins s H Q x u I hin rx h
 have hq:=hin _ (.head _)
 have r2:Vals (.ref a :: x :: dvs) ([.ref a,u] ++ ds) := .cons rfl (.cons rx hd)
 have hl:([.ref a,u] ++ ds).length=ps.length:=by rw[<- r2.length];exact F.len _ _ _ _ h
 have ho:=(I.pin _ (List.mem_append_right _ hq)).1
 refine wpAny_call (W.method_call ho ?_)
 refine codeAny_mono (F.run X.A.in1.in1 X.stack s H ⟨[.ref a,u],[]⟩ ([.ref a,u] ++ ds) (.ref a :: x :: dvs) Q E0 hr.in1.in1 I.env0.in1.in1 (hb s [.ref a,u] I.kIn hl) r2 h) λr s' hq => ?_
 match r,hq with
 | .error e,hq=>exact False.elim hq
 | .ok (.ret u),hq=>exact I.after hq
 | .ok .next,hq=>exact False.elim hq
 | .ok .brk,hq=>exact False.elim hq
 | .ok .cont,hq=>exact False.elim hq
section
variable{X:Cx}{A:Around}{E:Value->Shared->Prop}{pins:List (Addr×Obj)}{σ : St}{q kS D:Addr}{oD oq:Obj}{sp:V->Hp->VK->Prop}{H₁:Hp}{F:List V->Hp->Prop}
theorem zpq(B:BRunA X A σ pins q oq sp)(hKD:D≠kS)(hKq:q≠kS)(fK:FpOk X pins H₁ kS){body:Value->PUnit->Sem (ForInStep PUnit)}
  (hb:∀(x:Value) (s:Shared) (R:Value->Shared->Prop),wpAny (model X.prog X.w) A (call (.ref q) [x]) (λk s'=>∃(kus:List Value) (e:Nat),s'.heap.get? kS=some (seqObj "list" kus.toArray e)/\kus.length<=sizeLine/\R k { s' with heap:=s'.heap.update kS (Obj.mapSeq (·.push k)) }) (λ_ _=>False) s ->
   wpAny (model X.prog X.w) A (body x ⟨⟩) (λr s'=>r = .yield ⟨⟩/\∃k,R k s') E s) :
  ∀(r:List V) (us:List Value) (ks:List V) (kus:List Value) (e:Nat) (H:Hp) (s:Shared),Vals r us->Vals ks kus->ks.length + r.length<=sizeLine->skGo sp r ks H F ->
   Inv X ((kS,seqObj "list" kus.toArray e) :: (D,oD) :: (q,oq) :: pins) σ H s ->
   wpAny (model X.prog X.w) A (forIn us PUnit.unit body) (λ_ s'=>∃ks' kus' e' H',Vals ks' kus'/\ks'.length=ks.length + r.length/\Inv X ((kS,seqObj "list" kus'.toArray e') :: (D,oD) :: (q,oq) :: pins) σ H' s'/\F ks' H') E s:=by
 intro r
 induction r with
 | nil=>
  intro us ks kus e H s hr hk hz h I
  cases hr
  rw[List.forIn_nil]
  exact wpAny_pure ⟨ks,kus,e,H,hk,rfl,I,h⟩
 | cons x r ih=>
  intro us ks kus e H s hr hk hz h I
  cases hr with
  | cons r1 t=>
   rename_i u us
   rw[List.forIn_cons]
   have hz':ks.length + (r.length + 1)<=sizeLine:=hz
   refine wpAny_bind (wpAny_mono (hb u s (λk s''=>∃kv H1 e',RelV kv k/\Inv X ((kS,seqObj "list" (kus ++ [k]).toArray e') :: (D,oD) :: (q,oq) :: pins) σ H1 s''/\skGo sp r (ks ++ [kv]) H1 F) ?_) (λrr s' hq => ?_) λ_ _ x=>x)
   ·refine wpAny_mono (B _ s H _ x u I (λp hp => .tail _ (.tail _ hp)) r1 h) (λk s' he => ?_) λ_ _ x=>x
    obtain⟨kv,H1,I2,rk,hgo⟩:=he
    have nk:=I2.pin (kS,seqObj "list" kus.toArray e) (List.mem_append_right _ (.head _))
    have sb:=Heap.SameBut.update s'.heap kS (Obj.mapSeq (·.push k))
    have ea:kus.toArray.push k=(kus ++ [k]).toArray:=by simp
    obtain⟨c2,hc2⟩:∃c2,(s'.heap.update kS (Obj.mapSeq (·.push k))).get? kS=some (seqObj "list" (kus ++ [k]).toArray c2):=⟨_,by rw[<- ea];exact get?_update_seq nk.1 (·.push k)⟩
    have fK':FpOk X ([] ++ ((D,oD) :: (q,oq) :: pins)) H₁ kS:=fK.more (pa:=[(D,oD),(q,oq)]) (by simp[hKD,hKq])
    exact⟨kus,e,nk.1,by rw[<- hk.length];omega,kv,H1,c2,rk,Inv.repin (pa:=[]) (t':=s'.toks) I2 fK' (λb' o hb' e'=>(sb.2 b' hb').trans e') hc2 (by intro v z;cases z),hgo⟩
   ·obtain⟨rfl,k,kv,H1,e',rk,I3,hgo⟩:=hq
    show wpAny (model X.prog X.w) A (forIn us PUnit.unit body) _ E s'
    refine wpAny_mono (ih us (ks ++ [kv]) (kus ++ [k]) e' H1 s' t (hk.append (.cons rk .nil)) (by simp;omega) hgo I3) (λ_ s4 hd => ?_) λ_ _ x=>x
    obtain⟨ks',kus',e4,H',v',l',I',f'⟩:=hd
    exact⟨ks',kus',e4,H',v',by rw[l'];simp;omega,I',f'⟩
theorem zmr{b:Bool}{all:List V}{vs:List Value}{n:Nat}{H:Hp}{s:Shared}{G:List V->Hp->Prop}(B:BRunA X A σ pins q oq sp)(hqD:q≠D)(fD:FpOk X pins H₁ D)(hV:Vals all vs)(hz:vs.length<=sizeLine)
  (I:Inv X ((D,seqObj "list" vs.toArray n) :: (q,oq) :: pins) σ H s) (h:skGo sp all [] H (skEnd X.K b all G)) :
  wpAny (model X.prog X.w) A (ksk_tree D (.ref q) b) (λfin s'=>fin = .done (.ret .none)/\∃out outv n' H',Vals out outv/\out.length<=sizeLine/\Inv X ((D,seqObj "list" outv.toArray n') :: (q,oq) :: pins) σ H' s'/\G out H') E s:=by
 have nD:=I.pin (D,seqObj "list" vs.toArray n) (List.mem_append_right _ (.head _))
 have nq:=I.pin (q,oq) (List.mem_append_right _ (.tail _ (.head _)))
 have s1:=Heap.SameBut.update s.heap D (Obj.mapSeq λ_=>(#[]:Array Value))
 obtain⟨e1,ho1⟩:∃e1,(s.heap.update D (Obj.mapSeq λ_=>(#[]:Array Value))).get? D=some (seqObj "list" #[] e1):=⟨_,get?_update_seq nD.1 λ_ => #[]⟩
 have fD':FpOk X ([] ++ ((q,oq) :: pins)) H₁ D:=fD.more (pa:=[(q,oq)]) (by simp[hqD])
 have I1:Inv X ((D,seqObj "list" #[] e1) :: (q,oq) :: pins) σ H { s with heap:=s.heap.update D (Obj.mapSeq λ_ => #[]) }:=
  Inv.repin (pa:=[]) (t':=s.toks) I fD' (λb' o hb' e'=>(s1.2 b' hb').trans e') ho1 (by intro v z;cases z)
 unfold ksk_tree
 refine wpAny_bind (listItems_at nD.1 rfl ?_)
 refine wpAny_bind (listUpdate_at nD.1 rfl ?_ (by rw[List.size_toArray];omega) (Nat.zero_le _))
 refine wpAny_bind (seqEpoch_at ho1 rfl ?_)
 refine wpAny_bind (wpAny_newTuple ?_ (by show vs.length<=_;omega))
 have I2:Inv X ((D,seqObj "list" #[] e1) :: (q,oq) :: pins) σ H { s with heap:=(s.heap.update D (Obj.mapSeq λ_ => #[])).push (seqObj "tuple" vs.toArray 0) }:=I1.kept (t':=s.toks) λb u e=>Heap.get?_push_of_some _ e
 refine wpAny_bind (wpAny_newList ?_ (Nat.zero_le _))
 refine wpAny_holding ?_
 have I3:=I2.pinNew (t':=s.toks) (ob:=seqObj "list" #[] 0) rfl (by intro v z;cases z)
 have fK:FpOk X pins H ((s.heap.update D (Obj.mapSeq λ_ => #[])).push (seqObj "tuple" vs.toArray 0)).objs.size:=by
  have I0:Inv X pins σ H { s with heap:=(s.heap.update D (Obj.mapSeq λ_ => #[])).push (seqObj "tuple" vs.toArray 0) }:=I2.pins_of λp hp=>I2.pin p (List.mem_append_right _ (.tail _ (.tail _ hp)))
  exact I0.fpOk (Nat.le_refl _) (I0.hok.fresh (Nat.le_refl _))
 have hDk:D≠((s.heap.update D (Obj.mapSeq λ_ => #[])).push (seqObj "tuple" vs.toArray 0)).objs.size:=Nat.ne_of_lt (Heap.lt_size (I2.pin (D,seqObj "list" #[] e1) (List.mem_append_right _ (.head _))).1)
 have hqk:q≠((s.heap.update D (Obj.mapSeq λ_ => #[])).push (seqObj "tuple" vs.toArray 0)).objs.size:=Nat.ne_of_lt (Heap.lt_size (I2.pin (q,oq) (List.mem_append_right _ (.tail _ (.head _)))).1)
 show wpAny _ _ (ksk_rest D (.ref q) b vs.toArray e1 (.ref ((s.heap.update D (Obj.mapSeq λ_ => #[])).push (seqObj "tuple" vs.toArray 0)).objs.size)) _ _ { s with heap:=((s.heap.update D (Obj.mapSeq λ_ => #[])).push (seqObj "tuple" vs.toArray 0)).push (seqObj "list" #[] 0) }
 have I3':Inv X ((((s.heap.update D (Obj.mapSeq λ_ => #[])).push (seqObj "tuple" vs.toArray 0)).objs.size,seqObj "list" ([]:List Value).toArray 0) :: (D,seqObj "list" #[] e1) :: (q,oq) :: pins) σ H { s with heap:=((s.heap.update D (Obj.mapSeq λ_ => #[])).push (seqObj "tuple" vs.toArray 0)).push (seqObj "list" #[] 0) }:=I3
 generalize ((s.heap.update D (Obj.mapSeq λ_ => #[])).push (seqObj "tuple" vs.toArray 0)).objs.size=kS at *
 generalize ({ s with heap:=((s.heap.update D (Obj.mapSeq λ_ => #[])).push (seqObj "tuple" vs.toArray 0)).push (seqObj "list" #[] 0) }:Shared)=s3 at *
 unfold ksk_rest
 refine wpAny_bind (wpAny_rule ?_)
 rw[<- Array.forIn_toList]
 refine wpAny_bind (wpAny_mono (zpq (F:=skEnd X.K b all G) (E:=E) B hDk hqk fK (λx s R hx => ?_) all vs [] [] 0 H s3 hV .nil (by rw[hV.length];simpa using hz) h I3') (λ_ s4 hd => ?_) λ_ _ x=>x)
 ·refine wpAny_bind (wpAny_attempt (wpAny_mono hx (λk s'' hk => ?_) λ_ _ hF=>hF.elim))
  obtain⟨kus,e,hk1,hk2,hR⟩:=hk
  dsimp only
  refine wpAny_bind (listUpdate_at hk1 rfl ?_ (by rw[List.size_toArray];omega) (by rw[Array.size_push,List.size_toArray];omega))
  exact wpAny_pure ⟨rfl,k,hR⟩
 ·obtain⟨ks,kus,e,H',hv',hl',I4,kis,hP,hG⟩:=hd
  have nk:=I4.pin (kS,seqObj "list" kus.toArray e) (List.mem_append_right _ (.head _))
  have nD4:=I4.pin (D,seqObj "list" #[] e1) (List.mem_append_right _ (.tail _ (.head _)))
  refine wpAny_bind (listItems_at nk.1 rfl ?_)
  have hlen:kus.length=vs.length:=by rw[<- hv'.length,hl',hV.length];simp
  have hK:Paired (λns k=>TupAt s4.heap k ns/\ns≠[]) kis kus:=by
   clear hG hl' hlen nk
   have key:∀{kis:List (List Int)} {ks:List V} {kus:List Value},Paired (λns k=>∃t,k=V.ref t/\SqT X.K H' t (ns.map V.int)/\ns≠[]) kis ks->Vals ks kus->Paired (λns k=>TupAt s4.heap k ns/\ns≠[]) kis kus:=by
    intro kis ks kus hp
    induction hp generalizing kus with
    | nil=>intro hv;cases hv;exact .nil
    | cons r _ ih=>
     intro hv
     cases hv with
     | cons r1 t=>
      obtain⟨tt,rfl,sq,ne⟩:=r
      cases r1
      obtain⟨it,rr,pt,_⟩:=I4.tuple sq
      exact .cons ⟨⟨tt,_,rfl,pt,zct rr⟩,ne⟩ (ih t)
   exact key hP hv'
  refine zpm nk.1 nD4.1 hDk hK hV hlen hz λps out pp pw pv=>⟨rfl,ps.map (·.2),out.toList,?_⟩
  have sa:=Heap.SameBut.update s4.heap kS (Obj.mapSeq λ_=>(#[]:Array Value))
  have hD5:(s4.heap.update kS (Obj.mapSeq λ_=>(#[]:Array Value))).get? D=some (seqObj "list" #[] e1):=(sa.2 D hDk).trans nD4.1
  have sb:=Heap.SameBut.update (s4.heap.update kS (Obj.mapSeq λ_=>(#[]:Array Value))) D (Obj.mapSeq λ_=>out)
  obtain⟨c2,hc2⟩:∃c2,((s4.heap.update kS (Obj.mapSeq λ_=>(#[]:Array Value))).update D (Obj.mapSeq λ_=>out)).get? D=some (seqObj "list" out c2):=⟨_,get?_update_seq hD5 λ_=>out⟩
  have I5:Inv X ((D,seqObj "list" #[] e1) :: (q,oq) :: pins) σ H' s4:=I4.pins_of λp hp=>I4.pin p (List.mem_append_right _ (.tail _ hp))
  have fK':=fK.more (pa:=[(D,seqObj "list" #[] e1),(q,oq)]) (by simp[hDk,hqk])
  have I6:=I5.turned (t':=s4.toks) (h':=s4.heap.update kS (Obj.mapSeq λ_ => #[])) (it:=kS) (λb' o hb' e'=>(sa.2 b' hb').trans e') nk.2.1 fK'.2.1 fK'.2.2.2.1 fK'.2.2.2.2.1 fK'.2.2.2.2.2
  have I7:Inv X ((D,seqObj "list" out.toList.toArray c2) :: (q,oq) :: pins) σ H' { s4 with heap:=(s4.heap.update kS (Obj.mapSeq λ_ => #[])).update D (Obj.mapSeq λ_=>out) }:=
   Inv.repin (s:={ s4 with heap:=s4.heap.update kS (Obj.mapSeq λ_ => #[]) }) (pa:=[]) (t':=s4.toks) I6 fD' (λb' o hb' e'=>(sb.2 b' hb').trans e') (by simpa using hc2) (by intro v z;cases z)
  exact⟨c2,H',pv,by
   have:=pp.length_eq
   rw[List.length_zip]at this
   rw[List.length_map,this,hV.length];omega,I7,hG ps pp pw⟩
end
end L2
namespace L2
open PySem PySem.Spec PyProof.Rows TS
def tSortK(K:W.Frag)(C:Addr)(m:Str)(sp:Sp)(dvs:List V)(b:Bool)(te ta:TE):TE:=λσ H Q=>te σ H λv H1=>ta σ H1 λo H2=>∃(a dx:Addr) (fs:List (Str×V)) (l:Addr) (all:List V),o = .ref a/\H2 a=some (.ins C dx fs)/\fs.lookup m=none /\
 v = .ref l/\H2 l=some (.lst all)/\skGo (λx H Q=>sp (.ref a :: x :: dvs) H Q E0) all [] H2 (skEnd K b all λout H'=>∀D,H' D=none->Q (.ref D) (upd H' D (.lst out)))
section
variable{X:Cx}{k j:Nat}{C:Addr}{ps:List Str}{sp:Sp}{dvs:List V}{ds:List Value}{m:Str}{p pos apos kpos rpos cpos:Pos}{e o:Expr}{te ta:TE}
theorem zfy{pins:List (Addr×Obj)}{σ : St}{H:Hp}{s:Shared}{q l:Addr}{oq:Obj}{all:List V}{sp:V->Hp->VK->Prop}{Q:VK}{kw:List (Str×Value)}{b:Bool}(ha1:argsOk "sorted" ⟨[.ref l],kw⟩)(ha2:∀x,argsOk "list.sort" ⟨[.ref x],kw⟩)
  (ht:∀x,Builtin.«list.sort» ⟨[.ref x],kw⟩=ksk_tree x (.ref q) b) (B:BRunA X X.A.in1.in1 σ pins q oq sp) (I:Inv X ((q,oq) :: pins) σ H s) (hH:H l=some (.lst all))
  (h:skGo sp all [] H (skEnd X.K b all λout H'=>∀D,H' D=none->Q (.ref D) (upd H' D (.lst out)))):wpAny (model X.prog X.w) X.A (call (.builtin "sorted") [.ref l] kw) (EP X pins σ Q) X.xe s:=by
 obtain⟨vs,n,hV,hl,hz⟩:=I.lst hH
 have hz':vs.length<=sizeLine:=by rw[<- hV.length];exact hz
 have hls:s.heap.IsList l vs.toArray:=⟨_,hl,rfl,n,rfl⟩
 refine call_function_entry_kw kind_sorted plain_sorted entry_sorted ha1 ?_
 unfold Builtin.«sorted»
 refine wpAny_bind (m:=checkCount "sorted" 1 1 _) (wpAny_pure ?_)
 refine wpAny_bind (collect_list hls ?_ hz')
 have keep0:∀b o,s.heap.get? b=some o->((s.heap.push (seqObj "list" #[] 0)).update s.heap.objs.size (Obj.mapSeq (· ++ vs.toArray))).get? b=some o:=λb o q=>by
  have hlt:b < s.heap.objs.size:=Heap.lt_size q
  rw[Heap.get?_update_ne _ _ _ _ (Nat.ne_of_lt hlt),Heap.get?_push_ne _ _ _ (Nat.ne_of_lt hlt)]
  exact q
 have I1:Inv X ((q,oq) :: pins) σ H { s with heap:=(s.heap.push (seqObj "list" #[] 0)).update s.heap.objs.size (Obj.mapSeq (· ++ vs.toArray)) }:=I.kept (t':=s.toks) keep0
 refine wpAny_bind (wpAny_newList ?_ hz')
 have I2:=I1.pinNew (t':=s.toks) (ob:=seqObj "list" vs.toArray 0) rfl (by intro v z;cases z)
 have I0:Inv X pins σ H { s with heap:=(s.heap.push (seqObj "list" #[] 0)).update s.heap.objs.size (Obj.mapSeq (· ++ vs.toArray)) }:=I1.pins_of λp hp=>I1.pin p (List.mem_append_right _ (.tail _ hp))
 have fD:FpOk X pins H ((s.heap.push (seqObj "list" #[] 0)).update s.heap.objs.size (Obj.mapSeq (· ++ vs.toArray))).objs.size:=I0.fpOk (Nat.le_refl _) (I0.hok.fresh (Nat.le_refl _))
 have hqD:q≠((s.heap.push (seqObj "list" #[] 0)).update s.heap.objs.size (Obj.mapSeq (· ++ vs.toArray))).objs.size:=Nat.ne_of_lt (Heap.lt_size (I1.pin (q,oq) (List.mem_append_right _ (.head _))).1)
 have nD:=I2.pin (((s.heap.push (seqObj "list" #[] 0)).update s.heap.objs.size (Obj.mapSeq (· ++ vs.toArray))).objs.size,seqObj "list" vs.toArray 0) (List.mem_append_right _ (.head _))
 refine wpAny_bind (wpAny_holding (wpAny_call_entry_kw PyProof.Rows.slot_list_sort ⟨_,nD.1,rfl⟩ PyProof.Rows.entry_list_sort ?body (ha2 _)))
 case body=>
  rw[ht]
  refine wpAny_mono (zmr B hqD fD hV hz' I2 h) (λfin s' hq => ?_) λ_ _ x=>x
  obtain⟨rfl,out,outv,n',H',v',lz,I',hG⟩:=hq
  refine⟨_,rfl,wpAny_pure ⟨_,rfl,?_⟩⟩
  have I3:Inv X ((((s.heap.push (seqObj "list" #[] 0)).update s.heap.objs.size (Obj.mapSeq (· ++ vs.toArray))).objs.size,seqObj "list" outv.toArray n') :: pins) σ H' s':=I'.pins_of λp hp=>I'.pin p (List.mem_append_right _ (by
   rcases List.mem_cons.mp hp with rfl | hp
   ·exact .head _
   ·exact .tail _ (.tail _ hp)))
  have nD':=I3.pin (((s.heap.push (seqObj "list" #[] 0)).update s.heap.objs.size (Obj.mapSeq (· ++ vs.toArray))).objs.size,seqObj "list" outv.toArray n') (List.mem_append_right _ (.head _))
  exact⟨.ref _,_,I3.unpin fD v' lz,rfl,hG _ nD'.2.1⟩
theorem zol{b:Bool}{jj:Nat}(c:MCal X.prog X.w X.K X.mg X.base CX0 k C m ps ds sp)(bm:BM X.K C m)(he:PE X e te)(ho:PE X o ta)(hr:Room j X.A)(hd:Vals dvs ds)(hm:X.mg ("sorted" : Str)=none)(hk:k + 1 + 1<=j:=by decide)(hg:Gl X "sorted":=by rfl)
  (hb:attributeBase o m X.env (eval o X.env)=eval o X.env:=by rfl) (hs:starEach [e] X.env=(false,eval e X.env) :: starEach [] X.env:=by rfl) :
  PE X (.Call (.Name "sorted" p) [e] [⟨some "key",.Attribute o m apos,kpos⟩,⟨some "reverse",.Constant (.bool b) jj cpos,rpos⟩] pos) (tSortK X.K C m sp dvs b te ta):=by
 obtain⟨f,fd,F,hbi,hme⟩:=c.ex
 obtain⟨f',ef,kb⟩:=bm.ex
 have:f'=f:=by have z:=hme.at_;rw[ef]at z;injection z with z;injection z with z;injection z
 subst this
 intro pins s σ H Q I h
 refine wpAny_Call_Name_kw (zdh I hg hm boot_sorted ?_)
 have h':tCons te tNil σ H (λvs H1=>match vs with
   | [v]=>ta σ H1 λo H2=>∃(a dx:Addr) (fs:List (Str×V)) (l:Addr) (all:List V),o = .ref a/\H2 a=some (.ins C dx fs)/\fs.lookup m=none /\
     v = .ref l/\H2 l=some (.lst all)/\skGo (λx H Q=>sp (.ref a :: x :: dvs) H Q E0) all [] H2 (skEnd X.K b all λout H'=>∀D,H' D=none->Q (.ref D) (upd H' D (.lst out)))
   | _=>False):=h
 refine callWith_kw (thn ((zaa he zaf hs) pos pins s σ H _ I h') λus s1 ⟨vs,H1,I1,r1,q1⟩ => ?_) (by rw[hs];rfl) (by rw[hs];rfl)
 cases r1 with
 | nil=>exact False.elim q1
 | cons ru rr=>
  cases rr with
  | cons _ _=>exact False.elim q1
  | nil=>
   refine kwAll_cons (zio hb (thn (ho pins s1 σ H1 _ I1 q1) λuo s2 ⟨ov,H2,I2,ro,a,dx,fs,l,all,eo,ea,el,ev,eh,hmx⟩ => ?_))
   subst eo
   subst ev
   cases ro
   cases ru
   refine zhv I2 ea c.cl hme kb el ?_
   have I3:=I2.pinNew (t':=s2.toks + 1) (ob:=W.methodObj (.ref f') (.ref a)) rfl (by intro v z;cases z)
   refine kwAll_cons (Constant_bool (kwAll_nil ?_))
   exact zfy (ksk_s2 _ _ _) (λx=>ksk_l2 _ _ _) (λx=>ksk_t2 _ x b) (zn5 F (hr.mono hk) hbi hd) I3 eh hmx
end
end L2
namespace LC
open PySem PyProof.Rows PySem.MeetsSeq3
end LC
namespace L2
open PySem PySem.Spec PyProof.Rows
variable{X:Cx}
def rGtL(K:W.Frag):R2:=λx y H Q=>∃(a b:Addr) (ns ms:List Int),x = .ref a/\y = .ref b/\H a=some (.lst (ns.map V.int))/\H b=some (.lst (ms.map V.int))/\Q (.bl (HT.lexLt ms ns)) H
end L2
namespace LC
open PySem PyProof.Rows TS
section
variable{prog:Program}{w:World}{A:Around}{s:Shared}
def LstAt(h:Heap)(v:Value)(ns:List Int):Prop:=∃a its n,v = .ref a/\h.get? a=some { cls := .type "list",dict:=none,data := .seq its n,slots := #[] }/\IntsAre its.toList ns
open Classical in
noncomputable def lstKey(h:Heap)(x:Keyed):List Int:=if e:∃ns,LstAt h x.1 ns then e.choose else []
end
end LC
namespace LC
open PySem PyProof.Rows TS
open L2 (V Vals RelV)
section
variable{prog:Program}{w:World}{A:Around}{E:Value->Shared->Prop}{s:Shared}
end
end LC
namespace L2
open PySem PySem.Spec PyProof.Rows TS LC
def tSortN(b:Bool)(te:TE):TE:=λσ H Q=>te σ H λv H1=>∃(l:Addr) (all:List V) (kis:List (List Int)),v = .ref l/\H1 l=some (.lst all)/\Paired (λns x=>∃t,x=V.ref t/\H1 t=some (.lst (ns.map V.int))) kis all /\
 ∀ps:List (List Int×V),ps.Perm (kis.zip all)->ps.Pairwise (λp q=>(if b=true then HT.lexLt p.1 q.1 else HT.lexLt q.1 p.1)=false)->∀D,H1 D=none->Q (.ref D) (upd H1 D (.lst (ps.map (·.2))))
section
variable{X:Cx}{j:Nat}{p pos rpos cpos:Pos}{e:Expr}{te:TE}
end
end L2
set_option Elab.async false
set_option linter.all false
set_option maxRecDepth 100000
namespace L2
open PySem PySem.Spec PyProof.Rows
section
variable{X:Cx}
def rCount(K:W.Frag):V->List V->Hp->VK->Prop:=λx vs H Q=>∃(l:Addr) (xs:List V) (y:V) (ds:List PyData) (d:PyData),x = .ref l/\vs=[y]/\SqL K H l xs/\RdsAll K H xs ds/\Rds K H y d /\
 PyData.canLayAll0 ds=true/\d.canLay0=true/\d.depth<=60/\Q (.int ((ds.countP λe=>PyData.eqv e d:Nat):Int)) H
end
end L2
namespace L2
open PySem PySem.Spec PyProof.Rows
theorem znt{J:It}{H1:Hp}{n:Nat}{P:Nat->V->Hp->Prop}{g:TG}{tc:TT}{te:TE}{Q:VK}{σ0:St}{D:Addr}(S:Walk J H1 n P)(hD:H1 D=none)(hn:n<=sizeLine)(Sv:St->Prop)(p:Nat->Bool)(F:Nat->V->Hp->Prop)
  (monoS:∀i v H H',Same H H'->F i v H->F i v H') (monoU:∀i v H ys ys',H D=some (.lst ys)->F i v H->F i v (upd H D (.lst ys'))) (h0:Sv σ0)
  (step:∀i x σ' H2,i < n->Sv σ'->Same H1 H2->P i x H2->(∃ys,H2 D=some (.lst ys))->∀(Ny:V->St->Hp->Prop) (Nn:St->Hp->Prop),(∀v σ2 H5,Sv σ2->Same H2 H5->F i v H5->p i=true->Ny v σ2 H5)->(∀σ2 H4,Sv σ2->Same H2 H4->p i=false->Nn σ2 H4) ->
   g x σ' H2 λσ2 H3=>tc σ2 H3 λb H4=>if b=true then te σ2 H4 λv H5=>Ny v σ2 H5 else Nn σ2 H4)
  (hQ:∀H' ys,Same H1 H'->H' D=some (.lst ys)->Paired (λi v=>F i v H') ((List.range n).filter p) ys->Q (.ref D) H') :
  ∃W:Nat->Nat->List V->St->Hp->Prop,(∃m,W 0 m [] σ0 (upd H1 D (.lst [])))/\∀i m ys σ' H',W i m ys σ' H'->H' D=some (.lst ys) /\
  ((J.stop i H'/\Q (.ref D) H')\/(J.go i H'/\ys.length < sizeLine/\∀x H2,J.yld i H' x H2->g x σ' H2 λσ2 H3=>tc σ2 H3 λb H4=>
   if b=true then te σ2 H4 λv H5=>H5 D=some (.lst ys)/\∃m',m' < m/\W (i + 1) m' (ys ++ [v]) σ2 (upd H5 D (.lst (ys ++ [v])))
   else ∃m',m' < m/\W (i + 1) m' ys σ2 H4)):=by
 refine⟨λi m ys σ' H'=>m=n - i/\i<=n/\Sv σ'/\Same H1 H'/\H' D=some (.lst ys)/\Paired (λj v=>F j v H') ((List.range i).filter p) ys,⟨n,rfl,Nat.zero_le _,h0,Same.upd hD,zae,.nil⟩,?_⟩
 rintro i m ys σ' H' ⟨rfl,hi,hs,hS,hL,hF⟩
 refine⟨hL,?_⟩
 have rs:(List.range (i + 1)).filter p=(List.range i).filter p ++ (if p i=true then [i] else []):=by
  rw[List.range_succ,List.filter_append]
  cases q:p i <;> simp[q]
 by_cases hlt:i < n
 ·refine .inr ⟨S.go i H' hS hlt,?_,λx H2 y => ?_⟩
  ·have l1:=hF.length
   have l2:((List.range i).filter p).length<=(List.range i).length:=List.length_filter_le _ _
   rw[List.length_range]at l2
   omega
  ·obtain⟨e2,hP⟩:=S.yld i H' x H2 hS hlt y
   refine step i x σ' H2 hlt hs (hS.trans e2) hP ⟨ys,e2 _ _ hL⟩ _ _ (λv σ2 H5 s2 e5 f5 hp => ?_) λσ2 H4 s2 e4 hp => ?_
   ·have l5:H5 D=some (.lst ys):=e5 _ _ (e2 _ _ hL)
    refine⟨l5,n - (i + 1),by omega,rfl,hlt,s2,((hS.trans e2).trans e5).updR hD,zae,?_⟩
    rw[rs,if_pos hp]
    refine Paired.snoc (Paired.imp' (λj w q => ?_) hF) (monoU i v H5 ys _ l5 f5)
    exact monoU j w H5 ys _ l5 (monoS j w H' H5 (e2.trans e5) q)
   ·refine⟨n - (i + 1),by omega,rfl,hlt,s2,(hS.trans e2).trans e4,e4 _ _ (e2 _ _ hL),?_⟩
    rw[rs,if_neg (by rw[hp];decide),List.append_nil]
    exact Paired.imp' (λj w q=>monoS j w H' H4 (e2.trans e4) q) hF
 ·have e:i=n:=by omega
  subst e
  exact .inl ⟨S.stop H' hS,hQ H' ys hS hL hF⟩
end L2
set_option Elab.async false
set_option linter.all false
set_option maxRecDepth 100000
namespace L2
open PySem PySem.Spec PyProof.Rows
section
variable{κ : Type}[DecidableEq κ]
def valV(kvs:List (κ×V))(k : κ):Option V:=(kvs.find? λkv=>decide (kv.1=k)).map (·.2)
def putK(kvs:List (κ×V))(k : κ)(v:V):List (κ×V):=
 if (kvs.any λkv=>decide (kv.1=k))=true then kvs.map (λkv=>if kv.1=k then(kv.1,v) else kv) else kvs ++ [(k,v)]
def dropK(kvs:List (κ×V))(k : κ):List (κ×V):=kvs.filter λkv=>decide (kv.1≠k)
theorem zi4{p : κ×V}{r:List (κ×V)}{k : κ}(e:p.1=k):valV (p :: r) k=some p.2:=by simp[valV,List.find?_cons,e]
theorem zje{p : κ×V}{r:List (κ×V)}{k : κ}(e:¬p.1=k):valV (p :: r) k=valV r k:=by simp[valV,List.find?_cons,e]
theorem zi9(k : κ):∀kvs:List (κ×V),(kvs.any λkv=>decide (kv.1=k))=(valV kvs k).isSome
 | []=>rfl
 | p :: r=>by
  rw[List.any_cons]
  by_cases e:p.1=k
  ·simp only[zi4 e,decide_eq_true e,Bool.true_or,Option.isSome_some]
  ·rw[zje e,decide_eq_false e,Bool.false_or];exact zi9 k r
theorem zd7(kvs:List (κ×V))(k : κ)(v:V):(putK kvs k v).length<=kvs.length + 1:=by
 unfold putK
 split
 ·rw[List.length_map];omega
 ·rw[List.length_append,List.length_cons,List.length_nil];omega
theorem RelO.isSome_eq{o:Option V}{u:Option Value}(r:RelO o u):o.isSome=u.isSome:=by
 cases o with
 | none=>cases u with
  | none=>rfl
  | some _=>exact(show False from r).elim
 | some _=>cases u with
  | none=>exact(show False from r).elim
  | some _=>rfl
theorem KV.any{kvs:List (κ×V)}{vs:List (κ×Value)}(r:KV kvs vs)(k : κ):(kvs.any λkv=>decide (kv.1=k))=vs.any λkv=>decide (kv.1=k):=by
 unfold KV at r
 induction r with
 | nil=>rfl
 | cons h t ih=>rw[List.any_cons,List.any_cons,ih,h.1]
theorem KV.repl{kvs:List (κ×V)}{vs:List (κ×Value)}(r:KV kvs vs)(k : κ){y:V}{u:Value}(ry:RelV y u) :
  KV (kvs.map λkv=>if kv.1=k then(kv.1,y) else kv) (vs.map λkv=>if kv.1=k then(kv.1,u) else kv):=by
 unfold KV at r ⊢
 induction r with
 | nil=>exact .nil
 | @cons p q ps qs h t ih=>
  rw[List.map_cons,List.map_cons]
  refine .cons ?_ ih
  obtain⟨h1,h2⟩:=h
  by_cases e:p.1=k
  ·rw[if_pos e,if_pos (h1.symm.trans e)];exact⟨h1,ry⟩
  ·rw[if_neg e,if_neg (λz=>e (h1.trans z))];exact⟨h1,h2⟩
theorem KV.put{kvs:List (κ×V)}{vs:List (κ×Value)}(r:KV kvs vs)(k : κ){y:V}{u:Value}(ry:RelV y u):KV (putK kvs k y) (stored vs k u):=by
 unfold putK stored
 rw[r.any k]
 by_cases e:(vs.any λkv=>decide (kv.1=k))=true
 ·rw[if_pos e,if_pos e];exact r.repl k ry
 ·rw[if_neg e,if_neg e];exact Paired.snoc r ⟨rfl,ry⟩
theorem KV.length{kvs:List (κ×V)}{vs:List (κ×Value)}(r:KV kvs vs):kvs.length=vs.length:=Paired.length r
end
theorem zr1{P:Program}{w:World}{k:Key}{u:Value}(r:RelV (kV k) u):(mixKind P w).is k u=true:=by
 cases k with
 | inl i=>obtain⟨t,e⟩:=(show ∃t,u=Value.int i t from r);subst e;exact zig P w i t
 | inr x=>obtain⟨t,e⟩:=(show ∃t,u=Value.str x t from r);subst e;exact zid P w x t
theorem zh2{P:Program}{w:World}:∀{ks:List Key} {us:List Value},Vals (ks.map kV) us->ItemsAre (mixKind P w) ks us
 | [],_,r=>by rw[List.map_nil]at r;cases r;exact .nil
 | k :: ks,_,r=>by
  rw[List.map_cons]at r
  cases r with
  | cons h t=>exact .cons (zr1 h) (zh2 t)
abbrev KT(H:Hp):List (List Key×V)->List (List Key×Addr×Value)->Prop:=Paired λp q=>p.1=q.1/\H q.2.1=some (.tup (p.1.map kV))/\RelV p.2 q.2.2
theorem KT.val{H:Hp}{kvs:List (List Key×V)}{xs:List (List Key×Addr×Value)}(r:KT H kvs xs)(k:List Key):RelO (valV kvs k) ((atKey xs k).map (·.2)):=by
 induction r with
 | nil=>exact True.intro
 | @cons p q ps qs h t ih=>
  obtain⟨h1,_,h2⟩:=h
  by_cases e:p.1=k
  ·have e':q.1=k:=h1.symm.trans e
   have b:atKey (q :: qs) k=some q.2:=by simp[atKey,List.find?_cons,e']
   rw[zi4 e,b];exact h2
  ·have e':¬q.1=k:=λz=>e (h1.trans z)
   have b:atKey (q :: qs) k=atKey qs k:=by simp[atKey,List.find?_cons,e']
   rw[zje e,b];exact ih
theorem KT.repl{H:Hp}{kvs:List (List Key×V)}{xs:List (List Key×Addr×Value)}(r:KT H kvs xs)(k:List Key){y:V}{u:Value}(ry:RelV y u) :
  KT H (kvs.map λkv=>if kv.1=k then(kv.1,y) else kv) (xs.map (putAt k u)):=by
 induction r with
 | nil=>exact .nil
 | @cons p q ps qs h t ih=>
  rw[List.map_cons,List.map_cons]
  refine .cons ?_ ih
  obtain⟨h1,h2,h3⟩:=h
  unfold putAt
  by_cases e:p.1=k
  ·rw[if_pos e,if_pos (h1.symm.trans e)];exact⟨h1,h2,ry⟩
  ·rw[if_neg e,if_neg (λz=>e (h1.trans z))];exact⟨h1,h2,h3⟩
theorem KT.put{H:Hp}{kvs:List (List Key×V)}{xs:List (List Key×Addr×Value)}(r:KT H kvs xs)(k:List Key){b:Addr}{y:V}{u:Value}(hb:H b=some (.tup (k.map kV)))(ry:RelV y u) :
  KT H (putK kvs k y) (storedH xs k b u):=by
 have e:(kvs.any λkv=>decide (kv.1=k))=(atKey xs k).isSome:=by
  rw[zi9,(r.val k).isSome_eq,Option.isSome_map]
 unfold putK storedH
 rw[e]
 by_cases q:(atKey xs k).isSome=true
 ·rw[if_pos q,if_pos q];exact r.repl k ry
 ·rw[if_neg q,if_neg q];exact Paired.snoc r ⟨rfl,hb,ry⟩
theorem KT.keeps{H H':Hp}{kvs:List (List Key×V)}{xs:List (List Key×Addr×Value)}(r:KT H kvs xs)(ht:∀b ys,H b=some (.tup ys)->H' b=some (.tup ys)):KT H' kvs xs:=
 Paired.mapP r λ_ _ z=>⟨z.1,ht _ _ z.2.1,z.2.2⟩
section
variable{P:Program}{w:World}{H:Hp}{h:Heap}{a:Addr}
theorem zrl{u:HO}(ok:HOk P w H h)(e:Rd H a u):ObjOk P w H h a u:=e.ok ok
theorem zsp{kvs:List (Key×V)}(ok:HOk P w H h)(e:Rd H a (.dK kvs)):kvs.length<=sizeLine/\(a == sysModules)=false/\∃vs,KV kvs vs/\h.DictOf (mixKind P w) a vs:=
 show ObjOk P w H h a (.dK kvs) from zrl ok e
theorem zsm{kvs:List (Key×V)}(ok:HOk P w H h)(e:H a=some (.dK kvs)):kvs.length<=sizeLine/\(a == sysModules)=false/\∃vs,KV kvs vs/\h.DictOf (mixKind P w) a vs:=zsp ok (.inl e)
theorem zlz{ks:List Key}(ok:HOk P w H h)(e:H a=some (.tup (ks.map kV))):(tupleKind (mixKind P w)).is h ks a:=by
 obtain⟨_,its,r,o,h1,h2,n,h3⟩:=(show ObjOk P w H h a (.tup (ks.map kV)) from ok a _ e)
 exact⟨o,its.toArray,n,h1,h2,h3,by simpa using zh2 r⟩
theorem zg7{kvs:List (List Key×V)}(ok:HOk P w H h)(e:Rd H a (.dT kvs)):kvs.length<=sizeLine/\(a == sysModules)=false /\
  ∃xs,KT H kvs xs/\h.DictOfH (tupleKind (mixKind P w)) a xs:=by
 obtain⟨z,y,xs,r,o,es,ep,h1,h2,h3,h4,h5⟩:=(show ObjOk P w H h a (.dT kvs) from zrl ok e)
 refine⟨z,y,xs,r,o,es,ep,h1,h2,h3,h4,λx hx => ?_,h5⟩
 have all:∀{l:List (List Key×V)} {m:List (List Key×Addr×Value)},KT H l m->∀x∈m,(tupleKind (mixKind P w)).is h x.1 x.2.1:=by
  intro l m q
  induction q with
  | nil=>intro x hx;exact nomatch hx
  | @cons p q ps qs hq t ih=>
   intro x hx
   rcases List.mem_cons.mp hx with e | hx
   ·subst e
    exact zlz ok (by rw[<- hq.1];exact hq.2.1)
   ·exact ih x hx
 exact all r x hx
theorem zp9{kvs:List (List Key×V)}(ok:HOk P w H h)(e:H a=some (.dT kvs)):kvs.length<=sizeLine/\(a == sysModules)=false /\
  ∃xs,KT H kvs xs/\h.DictOfH (tupleKind (mixKind P w)) a xs:=zg7 ok (.inl e)
end
def DGet(H:Hp)(a:Addr)(y:V)(r:Option V):Prop:=
 (∃kvs k,Rd H a (.dK kvs)/\y=kV k/\r=valV kvs k)\/∃kvs k b,Rd H a (.dT kvs)/\y = .ref b/\H b=some (.tup (k.map kV))/\r=valV kvs k
def DPut(H:Hp)(a:Addr)(y v:V)(H':Hp):Prop:=
 (∃kvs k,H a=some (.dK kvs)/\y=kV k/\kvs.length < sizeLine/\H'=upd H a (.dK (putK kvs k v))) \/
 ∃kvs k b,H a=some (.dT kvs)/\y = .ref b/\H b=some (.tup (k.map kV))/\kvs.length < sizeLine/\H'=upd H a (.dT (putK kvs k v))
theorem DPut.t{H:Hp}{a b:Addr}{kvs:List (List Key×V)}{k:List Key}{v:V}(e:H a=some (.dT kvs))(eb:H b=some (.tup (k.map kV)))(hl:kvs.length < sizeLine) :
  DPut H a (.ref b) v (upd H a (.dT (putK kvs k v))) := .inr ⟨kvs,k,b,e,rfl,eb,hl,rfl⟩
section
variable{X:Cx}{pins:List (Addr×Obj)}{σ : St}{H:Hp}{s:Shared}{a:Addr}{y v:V}{u r:Value}{o:Option V}{A:Around}{E:Value->Shared->Prop}
theorem Inv.big(I:Inv X pins σ H s):sysModules < s.heap.objs.size:=by
 have h:mainGlobals < s.heap.objs.size:=(I.mod.glob.keeps I.bk).lt
 exact Nat.lt_trans (by decide) h
theorem zis{h':Heap}{t':Nat}{ob:HO}(I:Inv X pins σ H s)(mu:Mut (H a))(hs:Heap.SameBut a s.heap h')(he:∃q,h'.get? a=some q)(new:ObjOk X.prog X.w (upd H a ob) h' a ob) :
  Inv X pins σ (upd H a ob) { s with heap:=h',toks:=t' }:=
 I.write (x:=a) (e:=a) mu (.inl rfl) (λb q hb z=>(hs.2 b hb).trans z) he new
theorem zr8{P:Program}{w:World}{H':Hp}{h':Heap}{kvs:List (Key×V)}{vs:List (Key×Value)}(z:kvs.length<=sizeLine)(hd:(a == sysModules)=false)(rel:KV kvs vs)(dd:h'.DictOf (mixKind P w) a vs) :
  ObjOk P w H' h' a (.dK kvs):=⟨z,hd,vs,rel,dd⟩
theorem zl5{H':Hp}{Q:Unit->Shared->Prop}(hu:A.units + 1 < cLine)(I:Inv X pins σ H s)(g:DPut H a y v H')(ry:RelV y u)(rv:RelV v r)(h:∀s',Inv X pins σ H' s'->Q () s') :
  wpAny (model X.prog X.w) A (setItem (.ref a) u r) Q E s:=by
 rcases g with⟨kvs,k,e,ey,l,eH⟩ | ⟨kvs,k,b,e,ey,eb,l,eH⟩
 ·subst ey eH
  obtain⟨z,hd,vs,rel,dd⟩:=zsm I.hok e
  have hz:vs.length<=sizeLine:=by rw[<- rel.length];exact z
  have hl:(putK kvs k v).length<=sizeLine:=by have:=zd7 kvs k v;omega
  refine wpAny_setItem_pairs (hsz:=hz) (zr1 ry) dd λh' dd' hs=>h _ ?_
  have he:∃q,h'.get? a=some q:=let ⟨q,_,_,hq,_⟩:=dd';⟨q,hq⟩
  exact zis I (by rw[e];exact True.intro) hs he (zr8 hl hd (rel.put k rv) dd')
 ·subst ey eH
  cases (show u=Value.ref b from ry)
  obtain⟨z,hd,xs,rel,dd⟩:=zp9 I.hok e
  have hz:xs.length<=sizeLine:=by rw[<- Paired.length rel];exact z
  have hl:(putK kvs k v).length<=sizeLine:=by have:=zd7 kvs k v;omega
  refine wpAny_setItem_heap (hsz:=hz) (tupleKind_room_in1 hu) (zlz I.hok eb) dd λh' dd' hs=>h _ ?_
  obtain⟨q,es,ep,hq,h2,h3,h4,_,h5⟩:=dd'
  refine zis I (by rw[e];exact True.intro) hs ⟨q,hq⟩ ⟨hl,hd,_,(rel.put k eb rv).keeps λc ys ec => ?_,q,es,ep,hq,h2,h3,h4,h5⟩
  rw[zao (zdb ec e (λz=>nomatch z))]
  exact ec
end
section
variable{X:Cx}{pins:List (Addr×Obj)}{σ : St}{H:Hp}{s:Shared}{a:Addr}{kvs:List (Key×V)}{k:Key}{u:Value}{A:Around}{E:Value->Shared->Prop}
end
def NoSl(i:Expr):Prop:=∀ov iv,subscripted i false ov iv=operate [ov,iv] (getItem ov iv)
def tDGet(td ty:TE):TE:=λσ H Q=>td σ H λx H1=>ty σ H1 λy H2=>∃a v,x = .ref a/\DGet H2 a y (some v)/\Q v H2
def tDIn(ty td:TE):TE:=λσ H Q=>ty σ H λy H1=>td σ H1 λx H2=>∃a o,x = .ref a/\DGet H2 a y o/\Q (.bl o.isSome) H2
def tDNotIn(ty td:TE):TE:=λσ H Q=>ty σ H λy H1=>td σ H1 λx H2=>∃a o,x = .ref a/\DGet H2 a y o/\Q (.bl (!o.isSome)) H2
def sDPut(td ty tv:TE):TS:=λD σ H=>tv σ H λv H1=>td σ H1 λx H2=>ty σ H2 λy H3=>∃a H4,x = .ref a/\DPut H3 a y v H4/\D.nx σ H4
def sDAug(td ty tv:TE)(rd:V->V->Hp->VK->Prop):TS:=λD σ H=>td σ H λx H1=>ty σ H1 λy H2=>∃a v,x = .ref a/\DGet H2 a y (some v) /\
 tv σ H2 λy2 H3=>rd v y2 H3 λz H4=>∃H5,DPut H4 a y z H5/\D.nx σ H5
def sDDel(td ty:TE):TS:=λD σ H=>td σ H λx H1=>ty σ H1 λy H2=>∃a kvs k,x = .ref a/\H2 a=some (.dK kvs)/\y=kV k/\(valV kvs k).isSome=true/\D.nx σ (upd H2 a (.dK (dropK kvs k)))
section
variable{X:Cx}{o i e value:Expr}{pos pos' tpos:Pos}{td ty tv:TE}
theorem zqv(hu:X.A.units + 1 < cLine)(ho:PE X o td)(hi:PE X i ty)(hv:PE X value tv)(hs:swapsWith value (some (.Subscript o i pos')) pos.line X.env=pure false) :
  PS X (.Assign [.Subscript o i pos'] value pos) (sDPut td ty tv):=by
 intro pins s σ H D I h
 refine wpAny_Assign_Subscript (thn (hv pins s σ H _ I h) λr s1 ⟨v,H1,I1,rv,q1⟩=>thn (ho pins s1 σ H1 _ I1 q1) λu s2 ⟨x,H2,I2,rx,q2⟩=>thn (hi pins s2 σ H2 _ I2 q2) λiv s3 ⟨y,H3,I3,ry,a,H4,ex,g,q3⟩ => ?_) hs
 subst ex
 obtain rfl:u=Value.ref a:=rx
 exact zl5 hu I3 g ry rv λs4 I4=>⟨σ,H4,I4,q3⟩
end
theorem zjj{P:Program}{w:World}{H:Hp}(h:Heap)(hb:sysModules < h.objs.size):ObjOk P w H (h.push { cls := .type "dict",data := .dict #[] }) h.objs.size (.dT []):=
 ⟨Nat.zero_le _,beq_eq_false_iff_ne.mpr (Ne.symm (Nat.ne_of_lt hb)),[],.nil,_,#[],0,Heap.get?_push_size _ rfl,⟨rfl,rfl,rfl⟩,rfl,rfl,List.nodup_nil⟩
def tDNewK:TE:=λ_ H Q=>∀p,H p=none->Q (.ref p) (upd H p (.dK []))
def tDNewT:TE:=λ_ H Q=>∀p,H p=none->Q (.ref p) (upd H p (.dT []))
section
variable{X:Cx}{pos:Pos}
theorem ze5:PE X (.Dict [] [] pos) tDNewT:=λpins s σ H Q I h=>
 wpAny_Dict_empty ⟨.ref s.heap.objs.size,_,I.laid (a:=s.heap.objs.size) (o := .dT []) (t':=s.toks) (λ_ _ q=>Heap.get?_push_of_some _ q) (Nat.le_refl _) (zjj s.heap I.big),rfl,h _ (I.hok.fresh (Nat.le_refl _))⟩
end
def tPairs:List (TE×TE)->St->Hp->(List (V×V)->Hp->Prop)->Prop
 | [],_,H,Q=>Q [] H
 | (tk,tv) :: r,σ,H,Q=>tk σ H λx H1=>tv σ H1 λy H2=>tPairs r σ H2 λps H3=>Q ((x,y) :: ps) H3
abbrev VV:List (V×V)->List (Value×Value)->Prop:=Paired λp q=>RelV p.1 q.1/\RelV p.2 q.2
def PPs(X:Cx)(pos:Pos)(keys:List (Option Expr))(values:List Expr)(trs:List (TE×TE)):Prop:=
 ∀(pins:List (Addr×Obj)) (s:Shared) (σ : St) (H:Hp) (Q:List (V×V)->Hp->Prop),Inv X pins σ H s->tPairs trs σ H Q ->
  wpAny (model X.prog X.w) X.A (evalPairs (pairTrees keys values X.env pos)) (λvs s'=>∃ps H',Inv X pins σ H' s'/\VV ps vs/\Q ps H') X.xe s
theorem zql{X:Cx}{pos:Pos}:PPs X pos [] [] []:=λpins s σ H Q I h=>pairTrees_nil_walk ⟨[],H,I,.nil,h⟩
theorem zmx{X:Cx}{pos:Pos}{k v:Expr}{ks:List (Option Expr)}{vs:List Expr}{tk tv:TE}{trs:List (TE×TE)}(hk:PE X k tk)(hv:PE X v tv)(hr:PPs X pos ks vs trs) :
  PPs X pos (some k :: ks) (v :: vs) ((tk,tv) :: trs):=λpins s σ H Q I h=>
 pairTrees_cons_walk (thn (hk pins s σ H _ I h) λu s1 ⟨x,H1,I1,rx,q1⟩=>thn (hv pins s1 σ H1 _ I1 q1) λw2 s2 ⟨y,H2,I2,ry,q2⟩=>
  thn (hr pins s2 σ H2 _ I2 q2) λws s3 ⟨ps,H3,I3,rel,q3⟩=>⟨(x,y) :: ps,H3,I3,.cons ⟨rx,ry⟩ rel,q3⟩)
def mergeK(kvs more:List (Key×V)):List (Key×V):=more.foldl (λacc kv=>putK acc kv.1 kv.2) kvs
def tDisp(trs:List (TE×TE)):TE:=λσ H Q=>∀p,H p=none->tPairs trs σ (upd H p (.dK [])) λps H2=>H2 p=some (.dK [])/\∃kvs:List (Key×V),ps=kvs.map (λkv=>(kV kv.1,kv.2))/\kvs.length<=15/\Q (.ref p) (upd H2 p (.dK (mergeK [] kvs)))
structure M1(X:Cx)(o:Expr)(m:Str)(apos:Pos)(e:Expr)(cpos:Pos):Prop where
 base:attributeBase o m X.env (eval o X.env)=eval o X.env
 few:((backTo cpos (starEach [e] X.env)).all (λx => !x.1) && (backToKw cpos (keywordEach [] X.env)).all (λx=>x.1.isSome)
  && decide (([e]:List Expr).length + ([]:List Keyword).length + (if ([]:List Keyword).isEmpty then 0 else 1) < 30))=true
 line:(apos.endLine == cpos.line)=true
 trees:backTo cpos (starEach [e] X.env)=[(false,eval e X.env)]
structure M2(X:Cx)(o:Expr)(m:Str)(apos:Pos)(e f:Expr)(cpos:Pos):Prop where
 base:attributeBase o m X.env (eval o X.env)=eval o X.env
 few:((backTo cpos (starEach [e,f] X.env)).all (λx => !x.1) && (backToKw cpos (keywordEach [] X.env)).all (λx=>x.1.isSome)
  && decide (([e,f]:List Expr).length + ([]:List Keyword).length + (if ([]:List Keyword).isEmpty then 0 else 1) < 30))=true
 line:(apos.endLine == cpos.line)=true
 trees:backTo cpos (starEach [e,f] X.env)=[(false,eval e X.env),(false,eval f X.env)]
def IsD(H:Hp)(a:Addr):Prop:=(∃kvs,Rd H a (.dK kvs))\/∃kvs,Rd H a (.dT kvs)
section
variable{X:Cx}{pins:List (Addr×Obj)}{σ : St}{H:Hp}{s:Shared}{a:Addr}{y d:V}{u r:Value}{o:Option V}{A:Around}{E:Value->Shared->Prop}
end
def tDGet1(td ty:TE):TE:=λσ H Q=>td σ H λx H1=>∃a,x = .ref a/\IsD H1 a/\ty σ H1 λy H2=>∃o,DGet H2 a y o/\Q (o.getD .non) H2
def tDGet2(td ty tx:TE):TE:=λσ H Q=>td σ H λx H1=>∃a,x = .ref a/\IsD H1 a/\ty σ H1 λy H2=>tx σ H2 λz H3=>∃o,DGet H3 a y o/\Q (o.getD z) H3
def tDPop1(td ty:TE):TE:=λσ H Q=>td σ H λx H1=>∃a,x = .ref a/\IsD H1 a/\ty σ H1 λy H2=>∃kvs k v,H2 a=some (.dK kvs)/\y=kV k/\valV kvs k=some v/\Q v (upd H2 a (.dK (dropK kvs k)))
def tDPop2(td ty tx:TE):TE:=λσ H Q=>td σ H λx H1=>∃a,x = .ref a/\IsD H1 a/\ty σ H1 λy H2=>tx σ H2 λz H3=>∃kvs k,H3 a=some (.dK kvs)/\y=kV k /\
 (∀v,valV kvs k=some v->Q v (upd H3 a (.dK (dropK kvs k))))/\(valV kvs k=none->Q z H3)
section
variable{X:Cx}{o e f:Expr}{apos cpos:Pos}{td ty tx:TE}
end
section
variable{X:Cx}{pins:List (Addr×Obj)}{σ : St}{H:Hp}{s:Shared}{a:Addr}{kvs:List (Key×V)}{A:Around}{E:Value->Shared->Prop}
end
section
variable{X:Cx}{pins:List (Addr×Obj)}{σ : St}{H:Hp}{s:Shared}{a:Addr}{y:V}{u:Value}{A:Around}{E:Value->Shared->Prop}
end
end L2
namespace L2
open PySem PySem.Spec PyProof.Rows
section
variable{X:Cx}{pins:List (Addr×Obj)}{σ : St}{H:Hp}{s:Shared}{d:Addr}{o:Obj}{u v:HO}
end
def Thw(H0:Hp)(H:Hp)(K:Hp->Prop):Prop:=K H\/∃d o u,H d=some (.frz o u)/\(∀o w,H0 d≠some (.frz o w))/\K (upd H d u)
section
variable{X:Cx}
def tThw(H0:Hp)(t:TE):TE:=λσ H Q=>t σ H λv H'=>Thw H0 H' (Q v)
end
end L2
namespace L2
open PySem PySem.Spec PyProof.Rows
section
variable{prog:Program}{w:World}{A:Around}{E:Value->Shared->Prop}{s:Shared}{it d:Addr}{i n ep:Nat}{es:Array DictEntry}{o:Obj}
theorem zon{e:DictEntry}{Q:Option Value->Shared->Prop}(hit:s.heap.IsKeyIter it d i n ep)(hod:s.heap.get? d=some o)(hdd:o.data = .dict es ep)(hn:es.size=n)(hx:es[i]? = some e)
  (hQ:∀h',h'.IsKeyIter it d (i + 1) n ep->Heap.SameBut it s.heap h'->Q (some e.key) { s with heap:=h' }):wpAny (model prog w) A (pyNext (.ref it)) Q E s:=by
 obtain⟨oi,hoi,hci,hdi⟩:=id hit
 have T:=hit.typeIs
 have own:Builtin.Dict_items.ownsTuple "dict_keyiterator" = false:=by decide
 have nn:¬((Value.ref d == Value.none)=true):=λz=>Bool.false_ne_true z
 unfold pyNext;refine wpAny_bind (wpAny_attempt (wpAny_callSpecial?_slot (name:=Str.ofString "__next__") T F.slot_dict_keyiterator_next (wpAny_call_entry F.slot_dict_keyiterator_next T F.entry_dict_keyiterator_next ?_ (F.args_dict_keyiterator_next_1 _))))
 refine wpAny_bind (wpAny_pure (wpAny_bind (wpAny_bind ?_)));refine wpAny_bind (wpAny_typeNameOfWhole_keyiter T (wpAny_pure (wpAny_bind (wpAny_fieldsOf hoi hdi ?_))))
 simp only[own,Bool.false_eq_true,if_false];show wpAny _ _ (if (Value.ref d == Value.none)=true then _ else _) _ _ s;rw[if_neg nn]
 refine wpAny_bind (wpAny_pure (wpAny_bind (wpAny_dictEntries hod hdd ?_)));rw[if_neg (by rw[hn];simp)]
 refine wpAny_bind (wpAny_pure (wpAny_bind (wpAny_dictEpoch hod hdd ?_)));rw[if_neg (by simp)]
 have lt:¬((i:Int) < 0):=by omega
 refine wpAny_pure ?_;simp only[lt,if_false,Int.toNat_natCast,hx]
 refine wpAny_bind (wpAny_bind (wpAny_typeNameOfWhole_keyiter T (wpAny_pure (wpAny_bind (wpAny_isOneOf_keyiter T ?_)))))
 show wpAny _ _ (setField (.ref it) 1 (rawInt ((i:Int) + 1)) >>= _) _ _ s;refine wpAny_bind (wpAny_setField hoi hdi (by simp) ?_)
 have hit':(s.heap.update it (Obj.mapFields (·.setIfInBounds 1 (rawInt ((i:Int) + 1))))).IsKeyIter it d (i + 1) n ep:=⟨_,Heap.get?_update_self _ hoi (Obj.isFreed_of_fields (Obj.data_mapFields hdi _)),(Obj.cls_mapFields ..).trans hci,by rw[Obj.data_mapFields hdi];simp[rawInt]⟩
 have T':Shared.TypeIs { s with heap:=s.heap.update it (Obj.mapFields (·.setIfInBounds 1 (rawInt ((i:Int) + 1)))) } (.ref it) "dict_keyiterator":=hit'.typeIs
 refine wpAny_bind (wpAny_holding (wpAny_bind (wpAny_isOneOf_keyiter T' ?_)));show wpAny _ _ (pure e.key) _ _ _
 exact wpAny_pure (wpAny_pure ⟨_,rfl,wpAny_pure (hQ _ hit' (Heap.SameBut.update ..))⟩)
theorem zne{A':Around}{Q:Option Value->Shared->Prop}{E':Value->Shared->Prop}(hh:A'.handled=none)(hQ:∀h',(∀b o,s.heap.get? b=some o->h'.get? b=some o)->Q none { s with heap:=h' }){P:Fin->Shared->Prop} :
  wpAny (model prog w) A' (newExc (.type "StopIteration") [] >>= λe=>raiseNew e) P (λe s'=>wpAny (model prog w) A (do if (<- isInstance e (.type "StopIteration"))=true then pure none else throw e) Q E' s') s:=by
 refine wpAny_bind ?_
 simp only[newExc,newTuple];refine wpAny_bind (wpAny_newObj_type (wpAny_bind (m:=firstArgMember _ _) (wpAny_of_eq (a:=Value.none) (by first | rfl | (simp only[firstArgMember];rfl)) (wpAny_newObj_type ?_ (by size_fits)))) (by size_fits))
 simp only[raiseNew];refine wpAny_bind (wpAny_handled ?_);rw[hh]
 refine wpAny_bind (wpAny_pure (wpAny_throw ?_))
 have sub:=isSubtype_stop;refine wpAny_bind (wpAny_isInstance (T:="StopIteration") (b:=true) ⟨_,Heap.get?_push_size _ rfl,rfl⟩ sub ?_)
 exact wpAny_pure (hQ _ λb o e=>Heap.get?_push_of_some _ (Heap.get?_push_of_some _ e))
theorem zp5{Q:Option Value->Shared->Prop}(hh:A.handled=none)(hit:s.heap.IsKeyIter it d i n ep)(hod:s.heap.get? d=some o)(hdd:o.data = .dict es ep)(hn:es.size=n)(hx:n<=i)
  (hQ:∀h',Heap.ExtBut it s.heap h'->Q none { s with heap:=h' }):wpAny (model prog w) A (pyNext (.ref it)) Q E s:=by
 obtain⟨oi,hoi,hci,hdi⟩:=id hit
 have T:=hit.typeIs
 have own:Builtin.Dict_items.ownsTuple "dict_keyiterator" = false:=by decide
 have nn:¬((Value.ref d == Value.none)=true):=λz=>Bool.false_ne_true z
 unfold pyNext;refine wpAny_bind (wpAny_attempt (wpAny_callSpecial?_slot (name:=Str.ofString "__next__") T F.slot_dict_keyiterator_next (wpAny_call_entry F.slot_dict_keyiterator_next T F.entry_dict_keyiterator_next ?_ (F.args_dict_keyiterator_next_1 _))))
 refine wpAny_bind (wpAny_pure (wpAny_bind (wpAny_bind ?_)));refine wpAny_bind (wpAny_typeNameOfWhole_keyiter T (wpAny_pure (wpAny_bind (wpAny_fieldsOf hoi hdi ?_))))
 simp only[own,Bool.false_eq_true,if_false];show wpAny _ _ (if (Value.ref d == Value.none)=true then _ else _) _ _ s;rw[if_neg nn]
 refine wpAny_bind (wpAny_pure (wpAny_bind (wpAny_dictEntries hod hdd ?_)));rw[if_neg (by rw[hn];simp)]
 refine wpAny_bind (wpAny_pure (wpAny_bind (wpAny_dictEpoch hod hdd ?_)));rw[if_neg (by simp)]
 have lt:¬((i:Int) < 0):=by omega
 have hx':es[i]? = none:=Array.getElem?_eq_none (by omega)
 refine wpAny_pure ?_;simp only[lt,if_false,Int.toNat_natCast,hx']
 refine wpAny_bind (wpAny_bind (wpAny_typeNameOfWhole_keyiter T (wpAny_pure ?_)))
 show wpAny _ _ (setField (.ref it) 0 .none >>= _) _ _ s;refine wpAny_bind (wpAny_setField hoi hdi (by simp) ?_)
 refine zne (A:=A) (A':=A.in1) (E':=E) hh λh' k => ?_
 exact hQ h' λb o hb e=>k b o ((Heap.SameBut.update ..).extBut b o hb e)
end
end L2
namespace L2
open PySem PySem.Spec PyProof.Rows
theorem Paired.at'{α β : Type}{F : α->β->Prop}:∀{l:List α} {m:List β},Paired F l m->∀{i:Nat} {a : α},l[i]? = some a->∃b,m[i]? = some b/\F a b
 | _,_,.nil,i,a,h=>by simp at h
 | _,_,.cons r _,0,a,h=>by simp at h;subst h;exact⟨_,rfl,r⟩
 | _,_,.cons _ t,i + 1,a,h=>by
  rw[List.getElem?_cons_succ]at h
  obtain⟨b,h1,h2⟩:=Paired.at' t h
  exact⟨b,by rw[List.getElem?_cons_succ];exact h1,h2⟩
def FzD(H:Hp)(d:Addr)(o:Obj)(kvs:List (List Key×V)):Prop:=H d=some (.frz o (.dT kvs))
def ItK(d:Addr)(o:Obj)(kvs:List (List Key×V)):It:=
 ⟨λi H=>FzD H d o kvs/\i < kvs.length,λi H x H'=>H'=H/\∃b k v,kvs[i]? = some (k,v)/\H b=some (.tup (k.map kV))/\x = .ref b,λi H=>FzD H d o kvs/\kvs.length<=i⟩
def ItI(d:Addr)(o:Obj)(kvs:List (List Key×V)):It:=
 ⟨λi H=>FzD H d o kvs/\i < kvs.length,λi H x H'=>∃p b k v,H p=none/\kvs[i]? = some (k,v)/\H b=some (.tup (k.map kV))/\x = .ref p/\H'=upd H p (.tup [.ref b,v]),λi H=>FzD H d o kvs/\kvs.length<=i⟩
section
variable{X:Cx}{pins:List (Addr×Obj)}{σ : St}{H:Hp}{s:Shared}{d:Addr}{o:Obj}{kvs:List (List Key×V)}{es:Array DictEntry}{ep:Nat}
end
end L2
namespace L2
open PySem PySem.Spec PyProof.Rows
section
variable{prog:Program}{w:World}{A:Around}{E:Value->Shared->Prop}{s:Shared}{d:Addr}{ep:Nat}{es:Array DictEntry}{o:Obj}
theorem zmi{Q:Value->Shared->Prop}(hs:(d == sysModules)=false)(T:s.TypeIs (.ref d) "dict")(ho:s.heap.get? d=some o)(hdd:o.data = .dict es ep)
  (hQ:Q (.ref s.heap.objs.size) { s with heap:=s.heap.push { cls := .type "dict_keyiterator",data := .fields #[.ref d,.int 0 0,.int es.size 0,.int ep 0] } }):wpAny (model prog w) A (pyIter (.ref d)) Q E s:=by
 refine wpAny_pyIter_slot T F.slot_dict_iter (wpAny_call_entry F.slot_dict_iter T F.entry_dict_iter ?_ (F.args_dict_iter_1 _))
 unfold Builtin.«dict.__iter__»;refine wpAny_bind ?_;unfold Builtin.Dict.dictSlotNone;refine wpAny_bind (wpAny_notOrdered_dict T (wpAny_pure ?_))
 have no:¬((d == sysModules)=true):=by rw[hs];exact Bool.false_ne_true
 show wpAny _ _ (Builtin.Dict.showsAll d >>= _) _ _ s;unfold Builtin.Dict.showsAll;rw[if_neg no]
 refine wpAny_bind (wpAny_pure (wpAny_bind (wpAny_dictEntries ho hdd (wpAny_bind (wpAny_dictEpoch ho hdd ?_)))))
 exact wpAny_bind (wpAny_newObj_type (wpAny_pure ⟨_,rfl,"dict_keyiterator",_,⟨_,Heap.get?_push_size _ rfl,rfl⟩,F.slot_dict_keyiterator_next.lookup,hQ⟩))
end
def iDictK(td:TE):TI:=λσ H R=>td σ H λx H1=>∃d kvs,x = .ref d/\Rd H1 d (.dT kvs)/\∀o,R (ItK d o kvs) (upd H1 d (.frz o (.dT kvs)))
def iDictI(td:TE):TI:=λσ H R=>td σ H λx H1=>∃d kvs,x = .ref d/\Rd H1 d (.dT kvs)/\∀o,R (ItI d o kvs) (upd H1 d (.frz o (.dT kvs)))
section
variable{X:Cx}{tg:Expr}{pins:List (Addr×Obj)}{σ : St}{H:Hp}{s:Shared}{d:Addr}{kvs:List (List Key×V)}
end
end L2
namespace L2
open PySem PySem.Spec PyProof.Rows
section
variable{prog:Program}{w:World}{κ : Type}[DecidableEq κ]{knd:HeapKind prog w κ}{A:Around}{E:Value->Shared->Prop}{s:Shared}
inductive HHits(A:Around)(s:Shared)(ys:List (κ×Addr×Value)):List (κ×Addr×Value)->Bool->Prop
 | nil:HHits A s ys [] true
 | miss {x : κ×Addr×Value} {r:List (κ×Addr×Value)}:atKey ys x.1=none->HHits A s ys (x :: r) false
 | hit {x : κ×Addr×Value} {p:Addr×Value} {r:List (κ×Addr×Value)} {e c:Bool}:atKey ys x.1=some p->SeqAt.EqAt A s x.2.2 p.2 e->HHits A s ys r c->HHits A s ys (x :: r) (e && c)
theorem HHits.inv{ys:List (κ×Addr×Value)}{x : κ×Addr×Value}{r:List (κ×Addr×Value)}{c:Bool}(h:HHits A s ys (x :: r) c) :
  (atKey ys x.1=none/\c=false)\/∃p e c',atKey ys x.1=some p/\SeqAt.EqAt A s x.2.2 p.2 e/\HHits A s ys r c'/\c=(e && c'):=by
 cases h with
 | miss a=>exact .inl ⟨a,rfl⟩
 | hit a b c=>exact .inr ⟨_,_,_,a,b,c,rfl⟩
theorem zf5{nm:String}{a b:Addr}{xs ys:List (κ×Addr×Value)}{r:Bool}{Q:Bool->Shared->Prop}(hu:knd.room A)(ha:(a == sysModules)=false)(hb:(b == sysModules)=false)(da:s.heap.DictOfH knd a xs)(db:s.heap.DictOfH knd b ys)
  (hits:xs.length=ys.length->HHits A s ys xs r) (h:Q (xs.length == ys.length && r) s):wpAny (model prog w) A (Builtin.Dict.samePairs nm a b) Q E s:=by
 obtain⟨oa,ea,pa,ga,_,ta,la,ka,na⟩:=da
 obtain⟨ob,eb,pb,gb,_,tb,lb,kb,nb⟩:=db
 have za:ea.size=xs.length:=size_of_entries la
 have zb:eb.size=ys.length:=size_of_entries lb
 have no1:¬((a == sysModules)=true):=by rw[ha];exact Bool.false_ne_true
 have no2:¬((b == sysModules)=true):=by rw[hb];exact Bool.false_ne_true
 unfold Builtin.Dict.samePairs Builtin.Dict.showsAll;rw[if_neg no1,if_neg no2]
 refine wpAny_bind (wpAny_pure (wpAny_bind (wpAny_pure (wpAny_bind (wpAny_dictEntries ga ta ?_)))));dsimp only;refine wpAny_bind (wpAny_dictEntries gb tb ?_)
 by_cases hz:xs.length=ys.length
 case neg=>
  have q1:(ea.size != eb.size)=true:=by rw[za,zb];simpa using hz
  have q2:(xs.length == ys.length)=false:=by simpa using hz
  rw[if_pos q1];rw[q2,Bool.false_and]at h
  exact wpAny_bind (wpAny_rule (wpAny_pure h))
 have q1:¬((ea.size != eb.size)=true):=by rw[za,zb,hz];simp
 have h':Q r s:=by simpa[hz]using h
 rw[if_neg q1];refine wpAny_bind (wpAny_dictEpoch ga ta (wpAny_bind ?_));rw[Std.Legacy.Range.forIn_eq_forIn_range'];simp only[Std.Legacy.Range.size,Nat.sub_zero,Nat.add_sub_cancel,Nat.div_one]
 refine wpAny_forIn_list _ (λrest c s'=>s'=s/\c=(none,())/\∃i,rest=List.range' i (ea.size - i)/\i<=ea.size/\HHits A s ys (xs.drop i) r) _ ?_ ?_ _ _ ⟨rfl,rfl,0,by simp,Nat.zero_le _,hits hz⟩
 ·rintro x rest c s' ⟨rfl,rfl,i,er,hi,hp⟩
  have lt:i < ea.size:=Nat.lt_of_not_le λz=>by rw[Nat.sub_eq_zero_of_le z]at er;simp at er
  have es:ea.size - i=(ea.size - (i + 1)) + 1:=by omega
  rw[es,List.range'_succ]at er;injection er with e1 e2;subst e1
  have lx:x < xs.length:=by omega
  have ex:ea[x]? = some (entryOfKey knd xs[x]):=by rw[entry_at la x,List.getElem?_eq_getElem lx];rfl
  have dr:xs.drop x=xs[x] :: xs.drop (x + 1):=List.drop_eq_getElem_cons lx
  refine wpAny_bind (wpAny_dictEntries ga ta ?_);rw[ex];rw[dr]at hp
  show wpAny _ _ (holding [Value.ref xs[x].2.1,xs[x].2.2] _ >>= _) _ _ _
  refine wpAny_bind (wpAny_holding (wpAny_bind (wpAny_dictFind_heap hu (ka _ (List.getElem_mem lx)) gb tb lb kb nb (λno => ?_) λj p hj => ?_)))
  ·rcases hp.inv with⟨_,er⟩ | ⟨p,_,_,hy,_⟩
   ·rw[er]at h';refine wpAny_pure ?_;show wpAny _ _ (if (!false)=true then _ else _) _ _ _;rw[if_pos (by decide)];exact wpAny_pure (wpAny_pure h')
   ·rw[atKey_none_of_get no]at hy;cases hy
  ·have lj:eb[j]? = some (entryOfKey knd (xs[x].1,p)):=by rw[entry_at lb j,hj];rfl
   refine wpAny_bind (wpAny_dictEntries gb tb ?_);rw[lj]
   rcases hp.inv with⟨hn,_⟩ | ⟨p',e,c',hy,he,hr,er⟩
   ·rw[atKey_of_get nb hj]at hn;cases hn
   rw[atKey_of_get nb hj]at hy;injection hy with hy;subst hy
   refine wpAny_holding (he prog w _ _ ?_)
   cases e with
   | false=>rw[er,Bool.false_and]at h';show wpAny _ _ (if (!false)=true then _ else _) _ _ _;rw[if_pos (by decide)];exact wpAny_pure (wpAny_pure h')
   | true=>
    rw[Bool.true_and]at er;rw[<- er]at hr
    show wpAny _ _ (if (!true)=true then _ else _) _ _ _;rw[if_neg (by decide)];refine wpAny_bind (wpAny_dictEpoch ga ta ?_);rw[if_neg (by simp)]
    exact wpAny_pure ⟨rfl,rfl,x + 1,e2,lt,hr⟩
 ·rintro c s' ⟨rfl,rfl,i,er,hi,hp⟩
  have ei:i=ea.size:=Nat.le_antisymm hi (Nat.le_of_not_lt λz=>by
   have es:ea.size - i=(ea.size - (i + 1)) + 1:=by omega
   rw[es,List.range'_succ]at er;cases er)
  refine wpAny_pure ?_;rw[ei,za,List.drop_length]at hp;cases hp;exact h'
theorem zjq{a b:Addr}{xs ys:List (κ×Addr×Value)}{r:Bool}{Q:Value->Shared->Prop}(hu:knd.room A.in1)(hc:A.units < cLine)(ha:(a == sysModules)=false)(hb:(b == sysModules)=false)(da:s.heap.DictOfH knd a xs)(db:s.heap.DictOfH knd b ys)
  (hits:xs.length=ys.length->HHits A.in1 s ys xs r) (h:Q (.bool (xs.length == ys.length && r)) s):wpAny (model prog w) A (compareOp .Eq (.ref a) (.ref b)) Q E s:=by
 refine wpAny_richCompare_same_room (op := .Eq) da.typeIs db.typeIs PySem.F.slot_dict_eq (wpAny_call_entry PySem.F.slot_dict_eq da.typeIs PySem.F.entry_dict_eq ?_ (PySem.F.args_dict_eq_2 _ _)) hc
 show wpAny _ _ (Builtin.Dict.dictSlotArgs "__eq__" ⟨[.ref a,.ref b],[]⟩ >>= _) _ _ s;refine wpAny_bind ?_;unfold Builtin.Dict.dictSlotArgs;refine wpAny_bind (wpAny_notOrdered_dict da.typeIs (wpAny_pure ?_))
 refine wpAny_bind (wpAny_isInstance (T:="dict") db.typeIs PySem.F.sub_dict_dict ?_);simp only[Bool.not_true,Bool.false_eq_true,if_false]
 refine wpAny_bind (wpAny_pure (wpAny_bind (wpAny_pure (wpAny_bind (zf5 hu ha hb da db hits (wpAny_pure ⟨_,rfl,(λx=>nomatch x),?_⟩))))))
 simpa using h
theorem znx{a b:Addr}{xs ys:List (κ×Addr×Value)}{r:Bool}{Q:Value->Shared->Prop}(hu:knd.room A.in1)(hc:A.units < cLine)(ha:(a == sysModules)=false)(hb:(b == sysModules)=false)(da:s.heap.DictOfH knd a xs)(db:s.heap.DictOfH knd b ys)
  (hits:xs.length=ys.length->HHits A.in1 s ys xs r) (h:Q (.bool (!(xs.length == ys.length && r))) s):wpAny (model prog w) A (compareOp .NotEq (.ref a) (.ref b)) Q E s:=by
 refine wpAny_richCompare_same_room (op := .NotEq) da.typeIs db.typeIs PySem.F.slot_dict_ne (wpAny_call_entry PySem.F.slot_dict_ne da.typeIs PySem.F.entry_dict_ne ?_ (PySem.F.args_dict_ne_2 _ _)) hc
 show wpAny _ _ (Builtin.Dict.dictSlotArgs "__ne__" ⟨[.ref a,.ref b],[]⟩ >>= _) _ _ s;refine wpAny_bind ?_;unfold Builtin.Dict.dictSlotArgs;refine wpAny_bind (wpAny_notOrdered_dict da.typeIs (wpAny_pure ?_))
 refine wpAny_bind (wpAny_isInstance (T:="dict") db.typeIs PySem.F.sub_dict_dict ?_);simp only[Bool.not_true,Bool.false_eq_true,if_false]
 refine wpAny_bind (wpAny_pure (wpAny_bind (wpAny_pure (wpAny_bind (zf5 hu ha hb da db hits (wpAny_pure ⟨_,rfl,(λx=>nomatch x),?_⟩))))))
 simpa using h
end
end L2
namespace L2
open PySem PySem.Spec PyProof.Rows
def KDs(K:W.Frag)(H:Hp):List (List Key×V)->List (List Key×PyData)->Prop:=Paired λp q=>p.1=q.1/\Rds K H p.2 q.2
def findKD(ys:List (List Key×PyData))(k:List Key):Option PyData:=(ys.find? λq=>decide (q.1=k)).map (·.2)
def eqKD(xs ys:List (List Key×PyData)):Bool:=xs.length == ys.length && xs.all λp=>match findKD ys p.1 with | some d=>PyData.eqv p.2 d | none=>false
def Flats(xs:List (List Key×PyData)):Prop:=∀p∈xs,p.2.canLay0=true/\p.2.depth<=60
section
variable{X:Cx}{pins:List (Addr×Obj)}{σ : St}{H:Hp}{s:Shared}
theorem zhj(I:Inv X pins σ H s):∀{kb:List (List Key×V)} {ys:List (List Key×Addr×Value)} {db:List (List Key×PyData)},KT H kb ys->KDs X.K H kb db->Flats db->∀k:List Key,
  (atKey ys k=none/\findKD db k=none)\/∃p d as,atKey ys k=some p/\findKD db k=some d/\Reads s.heap p.2 d as/\d.canLay0=true/\d.depth<=60
 | _,_,_,.nil,.nil,_,_ => .inl ⟨rfl,rfl⟩
 | _,_,_,.cons (a:=a) (b:=b) r t,.cons (b:=c) q u,fl,k=>by
  obtain⟨r1,r2,r3⟩:=r
  obtain⟨q1,q2⟩:=q
  by_cases e:a.1=k
  ·have e1:b.1=k:=r1.symm.trans e
   have e2:c.1=k:=q1.symm.trans e
   obtain⟨as,rd⟩:=I.rds q2 r3
   obtain⟨f1,f2⟩:=fl c (.head _)
   exact .inr ⟨b.2,c.2,as,by simp[atKey,List.find?_cons,e1],by simp[findKD,List.find?_cons,e2],rd,f1,f2⟩
  ·have e1:¬b.1=k:=λz=>e (r1.trans z)
   have e2:¬c.1=k:=λz=>e (q1.trans z)
   have z1:∀l,atKey (b :: l) k=atKey l k:=λl=>by simp[atKey,List.find?_cons,e1]
   have z2:∀l,findKD (c :: l) k=findKD l k:=λl=>by simp[findKD,List.find?_cons,e2]
   rw[z1,z2]
   exact zhj I t u (λp hp=>fl p (.tail _ hp)) k
theorem zf8{A:Around}(hu:A.units + 61 < cLine)(I:Inv X pins σ H s){kb:List (List Key×V)}{ys:List (List Key×Addr×Value)}{db:List (List Key×PyData)}(tb:KT H kb ys)(qb:KDs X.K H kb db)(fb:Flats db) :
  ∀{ka:List (List Key×V)} {xs:List (List Key×Addr×Value)} {da:List (List Key×PyData)},KT H ka xs->KDs X.K H ka da->Flats da->HHits A s ys xs (da.all λp=>match findKD db p.1 with | some d=>PyData.eqv p.2 d | none=>false)
 | _,_,_,.nil,.nil,_ => .nil
 | _,_,_,.cons (a:=a) (b:=b) r t,.cons (b:=c) q u,fl=>by
  obtain⟨r1,r2,r3⟩:=r
  obtain⟨q1,q2⟩:=q
  have ih:=zf8 hu I tb qb fb t u λp hp=>fl p (.tail _ hp)
  obtain⟨as,rd⟩:=I.rds q2 r3
  obtain⟨f1,f2⟩:=fl c (.head _)
  rw[List.all_cons]
  rcases zhj I tb qb fb b.1 with⟨h1,h2⟩ | ⟨p,d,bs,h1,h2,h3,h4,h5⟩
  ·rw[<- r1,q1]at h2;rw[h2];exact .miss h1
  ·rw[<- r1,q1]at h2;rw[h2]
   refine .hit h1 (SeqAt.eqAt_reads c.2 d A s _ _ as bs rd h3 f1 h4 ?_) ih
   have:=Nat.min_le_left c.2.depth d.depth
   omega
end
def rEqDT(K:W.Frag)(neg:Bool):R2:=λx y H Q=>∃(a b:Addr) (ka kb:List (List Key×V)) (da db:List (List Key×PyData)),x = .ref a/\y = .ref b/\Rd H a (.dT ka)/\Rd H b (.dT kb)/\KDs K H ka da/\KDs K H kb db/\Flats da/\Flats db/\Q (.bl (xor neg (eqKD da db))) H
section
variable{X:Cx}
theorem zpc(hu:X.A.units + 64 < cLine):OpR X (compareOp .Eq) (rEqDT X.K false):=by
 intro pins s σ H x y u v Q I rx ry h
 obtain⟨a,b,ka,kb,da,db,rfl,rfl,ha,hb,qa,qb,fa,fb,q⟩:=h
 cases rx
 cases ry
 obtain⟨_,sa,xs,ta,ea⟩:=zg7 I.hok ha
 obtain⟨_,sb,ys,tb,eb⟩:=zg7 I.hok hb
 have lx:xs.length=da.length:=(Paired.length ta).symm.trans (Paired.length qa)
 have ly:ys.length=db.length:=(Paired.length tb).symm.trans (Paired.length qb)
 refine zjq (knd:=tupleKind (mixKind X.prog X.w)) (tupleKind_room_in1 (by omega)) (by omega) sa sb ea eb (λ_=>zf8 (by show X.A.units + 1 + 61 < cLine;omega) I tb qb fb ta qa fa) ⟨.bl _,H,I,rfl,?_⟩
 rw[lx,ly]
 have:(false ^^ eqKD da db)=eqKD da db:=Bool.false_xor _
 rw[this]at q
 exact q
theorem zqc(hu:X.A.units + 64 < cLine):OpR X (compareOp .NotEq) (rEqDT X.K true):=by
 intro pins s σ H x y u v Q I rx ry h
 obtain⟨a,b,ka,kb,da,db,rfl,rfl,ha,hb,qa,qb,fa,fb,q⟩:=h
 cases rx
 cases ry
 obtain⟨_,sa,xs,ta,ea⟩:=zg7 I.hok ha
 obtain⟨_,sb,ys,tb,eb⟩:=zg7 I.hok hb
 have lx:xs.length=da.length:=(Paired.length ta).symm.trans (Paired.length qa)
 have ly:ys.length=db.length:=(Paired.length tb).symm.trans (Paired.length qb)
 refine znx (knd:=tupleKind (mixKind X.prog X.w)) (tupleKind_room_in1 (by omega)) (by omega) sa sb ea eb (λ_=>zf8 (by show X.A.units + 1 + 61 < cLine;omega) I tb qb fb ta qa fa) ⟨.bl _,H,I,rfl,?_⟩
 rw[lx,ly]
 have:(true ^^ eqKD da db) = !eqKD da db:=Bool.true_xor _
 rw[this]at q
 exact q
def rDClear:V->List V->Hp->VK->Prop:=λx vs H Q=>∃d kvs,x = .ref d/\vs=[]/\H d=some (.dT kvs)/\Q .non (upd H d (.dT []))
theorem zqk{pins:List (Addr×Obj)}{σ : St}{H:Hp}{s:Shared}{A:Around}{E:Value->Shared->Prop}{a b:Addr}{kvs:List (List Key×V)}{k:List Key}{v:V}{r:Value}{Q:Unit->Shared->Prop}(hu:A.units < cLine)(I:Inv X pins σ H s)(e:H a=some (.dT kvs))(eb:H b=some (.tup (k.map kV)))
  (l:kvs.length < sizeLine) (rv:RelV v r) (h:∀s',Inv X pins σ (upd H a (.dT (putK kvs k v))) s'->Q () s'):wpAny (model X.prog X.w) A (dictSet a (.ref b) r) Q E s:=by
 obtain⟨z,hd,xs,rel,dd⟩:=zp9 I.hok e
 have hz:xs.length<=sizeLine:=by rw[<- Paired.length rel];exact z
 have hl:(putK kvs k v).length<=sizeLine:=by have:=zd7 kvs k v;omega
 refine wpAny_dictSet_heap (hsz:=hz) (knd:=tupleKind (mixKind X.prog X.w)) hu (zlz I.hok eb) dd λh' dd' hs=>h _ ?_
 obtain⟨q,es,ep,hq,h2,h3,h4,_,h5⟩:=dd'
 refine zis I (by rw[e];exact True.intro) hs ⟨q,hq⟩ ⟨hl,hd,_,(rel.put k eb rv).keeps λc ys ec => ?_,q,es,ep,hq,h2,h3,h4,h5⟩
 rw[zao (zdb ec e (λz=>nomatch z))];exact ec
def tDisp1(tk tv:TE):TE:=λσ H Q=>∀p,H p=none->tk σ (upd H p (.dT [])) λx H1=>tv σ H1 λy H2=>∃b ks,x = .ref b/\H2 p=some (.dT [])/\H2 b=some (.tup (ks.map kV))/\Q (.ref p) (upd H2 p (.dT [(ks,y)]))
theorem zji{pos:Pos}{k v:Expr}{tk tv:TE}(hu:X.A.units < cLine)(hk:PE X k tk)(hv:PE X v tv):PE X (.Dict [some k] [v] pos) (tDisp1 tk tv):=by
 intro pins s σ H Q I q
 have hn:=I.hok.fresh (Nat.le_refl s.heap.objs.size)
 have I1:=I.laid (a:=s.heap.objs.size) (o := .dT []) (h':=s.heap.push { cls := .type "dict",data := .dict #[] }) (t':=s.toks) (λ_ _ q=>Heap.get?_push_of_some _ q) (Nat.le_refl _) (zjj s.heap I.big)
 refine wpAny_Dict_any rfl rfl (by simp) (by simp) ?_
 have P:PPs X pos [some k] [v] [(tk,tv)]:=zmx hk hv zql
 refine thn (P pins _ σ _ (λps H2=>match ps with | [(x,y)]=>∃b ks,x = .ref b/\H2 s.heap.objs.size=some (.dT [])/\H2 b=some (.tup (ks.map kV))/\Q (.ref s.heap.objs.size) (upd H2 s.heap.objs.size (.dT [(ks,y)])) | _=>False) I1 (q _ hn)) λws s2 ⟨ps,H2,I2,rel,hq⟩ => ?_
 rcases ws with _ | ⟨⟨c1,c2⟩,ws⟩
 ·cases rel;exact hq.elim
 cases rel with
 | cons r t=>
  cases t with
  | cons _ _=>exact hq.elim
  | nil=>
   obtain⟨r1,r2⟩:=r
   obtain⟨b,ks,ex,e1,e2,q2⟩:=hq
   dsimp only at ex r1 r2
   rw[ex]at r1
   obtain rfl:c1=Value.ref b:=r1
   unfold storeAll
   rw[List.forIn_cons]
   refine wpAny_bind (wpAny_bind (zqk hu I2 e1 e2 (by rw[sizeLine_eq];decide) r2 λs3 I3=>wpAny_pure ?_))
   exact wpAny_pure ⟨.ref s.heap.objs.size,_,I3,rfl,q2⟩
end
end L2
namespace L2
open PySem PySem.Spec PyProof.Rows
def pickS(x:Str)(lo hi:Option Int):List Nat:=Builtin.Str.strSliceIndices lo hi 1 x.length
def cutS(x:Str)(lo hi:Option Int):Str:=if ((pickS x lo hi).length == x.length)=true then x else⟨((pickS x lo hi).filterMap (x.cps[·]?)).toArray⟩
def rSlS:V->Option Int->Option Int->Hp->VK->Prop:=λx lo hi H Q=>∃z,x = .str z/\(cutS z lo hi).length<=sizeLine/\Q (.str (cutS z lo hi)) H
section
variable{X:Cx}
theorem zkg:fillsNumberSlot (.type "tuple") "mul" = pure false:=PySem.fillsNumberSlot_seq (id:="tuple.__mul__") (r:=some (.builtin "tuple.__rmul__")) F.slot_tuple_mul.lookup (by decide +kernel) F.slot_tuple_rmul.lookup (by decide +kernel)
theorem zkl:seqRepeat? (.type "tuple")=pure (some (.builtin "tuple.__mul__")):=by
 unfold seqRepeat?;rw[PySem.seqSlot_of (T:="tuple") (name:="__mul__") (id:="tuple.__mul__") F.slot_tuple_mul.lookup (by decide +kernel),PySem.seqSlot_of (T:="tuple") (name:="__rmul__") (id:="tuple.__rmul__") F.slot_tuple_rmul.lookup (by decide +kernel)];rfl
theorem znk(a:Int)(t:Tok)(l:Addr)(o:Obj)(its:Array Value)(n:Nat)(hd:o.data = .seq its n):Meets (Builtin.«int.__rmul__» ⟨[.int a t,.ref l],[]⟩) (λ_ R s=>s.heap.get? l=some o/\R (.ok (.ret Value.notImplemented)) s):=
 .of_wp λprog w A R s h=>by
  obtain⟨hp,g,d,tk,os⟩:=s
  obtain⟨hl,h⟩:=h
  wp_walk
  rw[hd]
  wp_walk
  exact⟨_,rfl,h⟩
def rRepT(K:W.Frag):R2:=λx y H Q=>∃(a:Addr) (xs:List V) (n:Int),x = .ref a/\y = .int n/\SqT K H a xs/\xs≠[]/\1<=n/\n<=1000/\xs.length * n.toNat<=1000 /\
 (n=1->Q (.ref a) H)/\(2<=n->∀p,H p=none->Q (.ref p) (upd H p (.tup (List.replicate n.toNat xs).flatten)))
theorem zp1:OpR X (binaryOp .Mult) (rRepT X.K):=by
 intro pins s σ H x y v u Q I rx ry h
 obtain⟨a,xs,n,rfl,rfl,hx,ne,n1,n2,hz,q1,q2⟩:=h
 cases rx
 obtain⟨t,rfl⟩:=ry
 obtain⟨its,r,ht,hl⟩:=I.tuple hx
 have T:s.TypeIs (.ref a) "tuple":=ht.typeIs
 have le:=r.length
 obtain⟨o,ho,hc,m,hd⟩:=id ht
 refine wpAny_binaryOp_repeat_ref (T:="tuple") (U:="int") (by decide) T (λs'=>typeIs_int s' n t) zkg F.fills_int_mul F.slot_int_rmul zkl F.slot_int_index.lookup
  (call_meets F.slot_int_rmul (typeIs_int s n t) F.entry_int_rmul (F.args_int_rmul_2 _ _) (znk n t a o its.toArray m hd) ⟨ho,rfl,T,wpAny_call_entry F.slot_tuple_mul T F.entry_tuple_mul ?_ (F.args_tuple_mul_2 _ _)⟩)
 show wpAny _ _ (asIndex (.int n t) >>= _) _ _ s
 refine wpAny_bind (wpAny_pure ?_);dsimp only
 have b1:(decide (n < -2 ^ 63) || decide (n ≥ 2 ^ 63))=false:=by rw[decide_eq_false (by omega),decide_eq_false (by omega)];rfl
 rw[if_neg (by rw[b1];exact Bool.false_ne_true)]
 refine wpAny_bind (wpAny_tupleItemsOf ho hd ?_)
 have em:its.toArray.isEmpty=false:=by
  cases its with
  | nil=>cases xs with
   | nil=>exact absurd rfl ne
   | cons _ _=>simp at le
  | cons _ _=>rfl
 by_cases c:n=1
 ·have b2:(its.toArray.isEmpty || n == 1)=true:=by rw[c];simp
  rw[if_pos b2]
  unfold Builtin.Tuple.tupleIsExact
  refine wpAny_bind (wpAny_bind (wpAny_typeOf T (wpAny_pure ?_)));rw[if_pos (by decide)]
  exact wpAny_bind (wpAny_rule (wpAny_pure ⟨_,rfl,.ref a,H,I,rfl,q1 c⟩))
 ·have b2:(its.toArray.isEmpty || n == 1)=false:=by rw[em];simpa using c
  have b3:(decide (n<=0) || its.toArray.isEmpty)=false:=by rw[em,decide_eq_false (by omega)];rfl
  have sz:its.toArray.size * n.toNat<=1000:=by rw[List.size_toArray,<- le];exact hz
  have sz':((its.toArray.size:Nat):Int) * n<=1000:=by
   have:n=((n.toNat:Nat):Int):=by omega
   rw[this];exact_mod_cast sz
  rw[if_neg (by rw[b2];exact Bool.false_ne_true),if_neg (by rw[b3];exact Bool.false_ne_true),if_neg (by omega)]
  have f0:List.foldl (λx1 x2=>x1 ++ x2) #[] (List.replicate n.toNat its.toArray)=(List.replicate n.toNat its).flatten.toArray:=by
   have:=zg6 its n.toNat []
   rw[List.nil_append]at this
   exact this
  have b4:Builtin.Tuple.tupleTooMany (((its.toArray.size:Nat):Int) * n)=false:=by
   unfold Builtin.Tuple.tupleTooMany
   simp only[decide_eq_false_iff_not]
   have z:=sizeLine_eq
   omega
  rw[if_neg (by rw[b4];exact Bool.false_ne_true),f0]
  unfold Builtin.Tuple.tupleExact
  have ln:((List.replicate n.toNat its).flatten).length<=sizeLine:=by
   rw[zl6,Nat.mul_comm,<- le,sizeLine_eq];omega
  refine wpAny_bind (wpAny_newObj_type (wpAny_pure ⟨_,rfl,.ref s.heap.objs.size,_,I.laid (t':=s.toks) (o := .tup (List.replicate n.toNat xs).flatten) (λb q z=>Heap.get?_push_of_some _ z) (Nat.le_refl _) ?_,rfl,q2 (by omega) _ I.fresh⟩) (by show Array.size _<=sizeLine;rw[List.size_toArray];exact ln))
  exact⟨by rw[zl6,Nat.mul_comm,sizeLine_eq];omega,_,r.rep n.toNat,IsTup.new _ _⟩
end
def Ends.thw(H0:Hp)(D:Ends):Ends:={ D with nx:=λσ H=>Thw H0 H (D.nx σ),rt:=λv H=>Thw H0 H (D.rt v) }
section
variable{X:Cx}{st:Stmt}{ss:List Stmt}{t:TS}
end
end L2
namespace L2
open PySem PySem.Spec PyProof.Rows
section
variable{prog:Program}{w:World}{A:Around}{E:Value->Shared->Prop}{s:Shared}
end
section
variable{X:Cx}
def upFrom(lo:Int)(n:Nat):List Int:=(List.range n).map λi:Nat=>lo + (i:Int)
def rRange2:List V->Hp->VK->Prop:=λxs H Q=>∃i j:Int,xs=[.int i,.int j]/\∀p,H p=none->Q (.ref p) (upd H p (.rng i j))
def rTupRng:List V->Hp->VK->Prop:=λxs H Q=>∃(p:Addr) (lo hi:Int),xs=[.ref p]/\H p=some (.rng lo hi)/\-1000<=lo/\lo<=1000/\-1000<=hi/\hi<=1000/\∀l,H l=none->Q (.ref l) (upd H l (.tup ((upFrom lo (hi - lo).toNat).map V.int)))
end
end L2
set_option Elab.async false
set_option linter.all false
set_option maxRecDepth 100000
namespace L2
open PySem PySem.Spec PyProof.Rows
section
variable{prog:Program}{w:World}{κ : Type}[DecidableEq κ]{knd:HeapKind prog w κ}{A:Around}{E:Value->Shared->Prop}{s:Shared}
end
section
variable{X:Cx}
def rDPop:V->List V->Hp->VK->Prop:=λx vs H Q=>∃d b kvs k v,x = .ref d/\vs=[.ref b]/\H d=some (.dT kvs)/\H b=some (.tup (k.map kV))/\valV kvs k=some v/\Q v (upd H d (.dT (dropK kvs k)))
end
section
variable{prog:Program}{w:World}{κ : Type}[DecidableEq κ]{knd:HeapKind prog w κ}{A:Around}{E:Value->Shared->Prop}{s:Shared}
end
end L2
namespace L2
open PySem PySem.Spec PyProof.Rows
def tTry2(K:W.Frag)(c1 c2:Value)(tb:(St->XK)->TS)(th1 th2:TS):TS:=λD σ H=>tb (λσ' cls _ H'=>(W.exmOne K cls c1=some true/\th1 D σ' H')\/(W.exmOne K cls c1=some false/\W.exmOne K cls c2=some true/\th2 D σ' H')) D σ H
end L2
namespace L2
open PySem PySem.Spec PyProof.Rows
theorem zom{prog:Program}{w:World}{A:Around}{E:Value->Shared->Prop}{s:Shared}{t b:Addr}{vs ws:List Value}{Q:Value->Shared->Prop}(ht:IsTup s.heap t vs.toArray)(hb:IsTup s.heap b ws.toArray)(hv:vs=[])
  (h1:Q (.ref b) s):wpAny (model prog w) A (binaryOp .Add (.ref t) (.ref b)) Q E s:=by
 obtain⟨⟨cls,dd,data,sl⟩,ho,hc,n,hd⟩:=id ht
 obtain⟨⟨cls2,dd2,data2,sl2⟩,ho2,hc2,n2,hd2⟩:=id hb
 simp only at hc hd hc2 hd2
 subst hc hd hc2 hd2
 exact concat_meets ⟨_,ho,rfl⟩ ⟨_,ho2,rfl⟩ noFill_tuple_add seq_tuple_add PySem.F.slot_tuple_add PySem.F.entry_tuple_add (PySem.F.args_tuple_add_2 _ _)
   (tuple_addW0 t b vs.toArray ws.toArray n n2 dd dd2 sl sl2 (by simp[hv])) ⟨ho,ho2,h1⟩
def rCatA(K:W.Frag):R2:=λx y H Q=>∃a b xs ys,x = .ref a/\y = .ref b/\SqT K H a xs/\SqT K H b ys/\xs.length + ys.length<=sizeLine /\
 (xs=[]->Q (.ref b) H)/\(xs≠[]->ys=[]->Q (.ref a) H)/\(xs≠[]->ys≠[]->∀p,H p=none->Q (.ref p) (upd H p (.tup (xs ++ ys))))
theorem zps{X:Cx}{K:W.Frag}(hK:X.K=K):OpR X (binaryOp .Add) (rCatA K):=by
 subst hK
 intro pins s σ H x y v u Q I rx ry h
 obtain⟨a,b,xs,ys,ex,ey,ha,hb,hz,q0,q1,q2⟩:=h
 by_cases c:xs=[]
 ·subst ex ey
  cases rx
  cases ry
  obtain⟨its,r1,p1,_⟩:=I.tuple ha
  obtain⟨its2,r2,p2,_⟩:=I.tuple hb
  exact zom p1 p2 (r1.nil_iff.mpr c) ⟨.ref b,H,I,rfl,q0 c⟩
 ·exact zd8 pins s σ H x y v u Q I rx ry ⟨a,b,xs,ys,ex,ey,ha,hb,c,hz,q1 c,q2 c⟩
end L2
namespace L2
open PySem PySem.Spec PyProof.Rows
def hsI(xs:List Int):Int:=reduceHash (Builtin.Tuple.tupleHashOf (xs.map hashInt))
theorem zek{α : Type}{f : α->Int}:∀{l:List α} {e : α},(l.map f).Nodup->e∈l->(l.filter λx=>f x == f e).length<=1
 | [],e,_,h=>by cases h
 | x :: l,e,hn,h=>by
  rw[List.map_cons,List.nodup_cons]at hn
  rw[List.filter_cons]
  by_cases q:f x=f e
  ·have z:(l.filter λy=>f y == f e)=[]:=by
    rw[List.filter_eq_nil_iff]
    intro y hy hb
    exact hn.1 (List.mem_map.mpr ⟨y,hy,(beq_iff_eq.mp hb).trans q.symm⟩)
   rw[if_pos (beq_iff_eq.mpr q),z];exact Nat.le_refl 1
  ·rw[if_neg (λz=>q (beq_iff_eq.mp z))]
   refine zek hn.2 ?_
   rcases List.mem_cons.mp h with z | z
   ·exact absurd (congrArg f z.symm) q
   ·exact z
section
variable{prog:Program}{w:World}{κ : Type}[DecidableEq κ]{kk:KeyKind prog w κ}{A:Around}{E:Value->Shared->Prop}{s:Shared}
theorem zij{a:Addr}{Q:Bool->Shared->Prop}(hT:s.TypeIs (.ref a) "tuple")(h:Q false s):wpAny (model prog w) A (Builtin.Dict.quietEq (.ref a)) Q E s:=by
 unfold Builtin.Dict.quietEq
 refine wpAny_bind (wpAny_specialOf hT F.slot_tuple_eq.lookup (wpAny_pure ?_))
 exact h
theorem zjw{nm:String}{o:Addr}{ob:Obj}{es:Array DictEntry}{ep:Nat}{xs:List (List κ×Addr×Value)}{Q:Array DictEntry->Shared->Prop}(hob:s.heap.get? o=some ob)(hdt:ob.data = .dict es ep)
  (he:es.toList=xs.map (entryOfKey (tupleKind kk))) (hk:∀x∈xs,(tupleKind kk).is s.heap x.1 x.2.1) (hn:(xs.map λx=>(tupleKind kk).hash x.1).Nodup) (h:Q es s):wpAny (model prog w) A (Builtin.Dict.entriesForEmpty nm o) Q E s:=by
 unfold Builtin.Dict.entriesForEmpty
 refine wpAny_bind (wpAny_dictEntries hob hdt ?_)
 refine wpAny_bind ?_
 rw[<- Array.forIn_toList]
 have hn':(es.toList.map (·.hash)).Nodup:=by rw[he,List.map_map];exact hn
 refine wpAny_forIn_list _ (λrest (_:PUnit) s'=>s'=s/\∀e∈rest,e∈es.toList) _ ?_ ?_ _ _ ⟨rfl,λe z=>z⟩
 ·rintro e rest b s' ⟨rfl,hin⟩
  have hm:=hin e List.mem_cons_self
  obtain⟨x,hx,rfl⟩:=List.mem_map.mp (by rw[<- he];exact hm)
  refine wpAny_bind (zij (IsTupleKey.typeIs (hk x hx)) ?_)
  simp only[Bool.not_false,if_true]
  have le:¬((es.filter λz=>z.hash == (entryOfKey (tupleKind kk) x).hash).size > 1):=by
   obtain⟨l⟩:=es
   have q:(l.filter λz=>z.hash == (entryOfKey (tupleKind kk) x).hash).length<=1:=zek (f:=λz:DictEntry=>z.hash) hn' hm
   have:(Array.filter (λz=>z.hash == (entryOfKey (tupleKind kk) x).hash) { toList:=l }).size=(l.filter λz=>z.hash == (entryOfKey (tupleKind kk) x).hash).length:=by simp
   omega
  rw[if_neg le]
  exact wpAny_pure ⟨rfl,λe he=>hin e (List.mem_cons_of_mem _ he)⟩
 ·rintro b s' ⟨rfl,_⟩
  exact wpAny_pure h
theorem mergeH{nm:String}{d o:Addr}{xs:List (List κ×Addr×Value)}{Q:Unit->Shared->Prop}(hdo:d≠o)(hoS:(o == sysModules)=false)
  (hd:s.heap.DictOfH (tupleKind kk) d []) (ho:s.heap.DictOfH (tupleKind kk) o xs) (hn:(xs.map λx=>(tupleKind kk).hash x.1).Nodup)
  (hQ:∀h',h'.DictOfH (tupleKind kk) d xs->Heap.SameBut d s.heap h'->Q () { s with heap:=h' }) (hsz:xs.length<=sizeLine) :
  wpAny (model prog w) A (Builtin.Dict.mergeDict nm d o) Q E s:=by
 obtain⟨od,esd,epd,hod,hcd,hdd,hed,hkd,hnd⟩:=id hd
 obtain⟨oo,eso,epo,hoo,hco,hdo',heo,hko,hno⟩:=id ho
 unfold Builtin.Dict.mergeDict
 rw[if_neg (by simpa using hdo)]
 unfold Builtin.Dict.showsAll
 rw[if_neg (by rw[hoS];exact Bool.false_ne_true)]
 refine wpAny_bind (wpAny_pure ?_)
 refine wpAny_bind (wpAny_dictEntries hoo hdo' ?_)
 have hde:esd.isEmpty=true:=by
  obtain⟨l⟩:=esd
  have:l=[]:=hed
  subst this;rfl
 cases xs with
 | nil=>
  have hoe:eso = #[]:=by
   obtain⟨l⟩:=eso
   have:l=[]:=heo
   subst this;rfl
  subst hoe
  have few:(decide ((#[]:Array DictEntry).size<=8) && (#[]:Array DictEntry).all λe=>(keyPart e.key).isSome)=true:=by simp
  simp only[few,Bool.not_true,Bool.false_eq_true,if_false]
  refine wpAny_bind (wpAny_dictEpoch hoo hdo' ?_)
  refine wpAny_bind (wpAny_dictEntries hoo hdo' ?_)
  refine wpAny_bind ?_
  rw[Std.Legacy.Range.forIn_eq_forIn_range']
  refine wpAny_forIn_list _ (λrest (_:PUnit) s'=>rest=[]/\s'=s) _ ?_ ?_ _ _ ⟨rfl,rfl⟩
  ·rintro x rest b s' ⟨z,_⟩;cases z
  ·rintro b s' ⟨_,rfl⟩
   exact wpAny_pure (hQ _ hd (Heap.SameBut.refl _ _))
 | cons x xs=>
  have hne:¬(eso.isEmpty=true):=by
   obtain⟨l⟩:=eso
   have:l=(x :: xs).map (entryOfKey (tupleKind kk)):=heo
   subst this;simp
  have few:(decide (eso.size<=8) && eso.all λe=>(keyPart e.key).isSome)=false:=by
   obtain⟨l⟩:=eso
   have:l=(x :: xs).map (entryOfKey (tupleKind kk)):=heo
   subst this
   have:(keyPart (entryOfKey (tupleKind kk) x).key).isSome=false:=rfl
   simp[this]
  simp only[few,Bool.not_false,if_true]
  refine wpAny_bind (wpAny_dictEntries hod hdd ?_)
  simp only[hde,if_true]
  refine wpAny_bind (zjw hoo hdo' heo hko hn ?_)
  rw[Bool.eq_false_iff.mpr hne]
  simp only[Bool.not_false,if_true]
  refine wpAny_bind (wpAny_updateDictKeysTo (hz':=by
   have:eso.size=(x :: xs).length:=by rw[<- Array.length_toList,heo,List.length_map]
   show eso.size<=_
   omega) hod hdd (wpAny_pure (hQ _ ⟨_,_,epd + 1,Heap.get?_update_self _ hod (Obj.isFreed_of_dict (Obj.data_mapDictKeys hdd _)),
   hcd.mapDictKeys _,Obj.data_mapDictKeys hdd _,heo,λx hx => ?_,hno⟩ (Heap.SameBut.update ..))))
  exact(tupleKind kk).keeps (hko x hx) hod hdd (Heap.SameBut.update ..)
theorem zj4{o:Addr}{xs:List (List κ×Addr×Value)}{Q:Value->Shared->Prop}(hoS:(o == sysModules)=false)(ho:s.heap.DictOfH (tupleKind kk) o xs)(hn:(xs.map λx=>(tupleKind kk).hash x.1).Nodup)(hsz:xs.length<=sizeLine)
  (h:∀h',h'.DictOfH (tupleKind kk) s.heap.objs.size xs->Heap.SameBut s.heap.objs.size (s.heap.push { cls := .type "dict",data := .dict #[] }) h'->Q (.ref s.heap.objs.size) { s with heap:=h' }) :
  wpAny (model prog w) A (call (.type "dict") [.ref o]) Q E s:=by
 refine callType_codes (Q₁:=λobj s₁=>obj = .ref s.heap.objs.size/\s₁={ s with heap:=s.heap.push { cls := .type "dict",data := .dict #[] } }) F.kt_called_dict (F.kt_typeCall_dict_1 _) F.entry_dict_init (kt_code_dict_new _ ⟨rfl,rfl⟩) ?_
 rintro obj s₁ ⟨rfl,rfl⟩
 have hnew:(s.heap.push { cls := .type "dict",data := .dict #[] }).DictOfH (tupleKind kk) s.heap.objs.size []:=⟨_,_,_,Heap.get?_push_size _ rfl,⟨rfl,rfl,rfl⟩,rfl,rfl,λx hx=>(by cases hx),List.nodup_nil⟩
 have hdo:s.heap.objs.size≠o:=by
  obtain⟨_,_,_,hg,_⟩:=ho
  exact λe=>absurd (Heap.lt_size hg) (by rw[e];exact Nat.lt_irrefl _)
 have ho':(s.heap.push { cls := .type "dict",data := .dict #[] }).DictOfH (tupleKind kk) o xs:=by
  obtain⟨ob,es,ep,h1,h2,h3,h4,h5,h6⟩:=ho
  refine⟨ob,es,ep,Heap.get?_push_of_some _ h1,h2,h3,h4,λx hx => ?_,h6⟩
  obtain⟨q1,q2,q3,q4,q5⟩:=h5 x hx
  exact⟨q1,q2,q3,Heap.get?_push_of_some _ q4,q5⟩
 refine⟨hnew.typeIs,F.args_dict_init_2 _ _,?_⟩
 unfold Builtin.«dict.__init__»
 refine wpAny_bind ?_
 unfold Builtin.Dict.selfAndRest
 refine wpAny_bind (wpAny_notOrdered_dict hnew.typeIs ?_)
 show wpAny _ _ (pure (s.heap.objs.size,[Value.ref o])) _ _ _
 refine wpAny_pure ?_
 show wpAny _ _ (Builtin.Dict.updateFrom "dict.__init__" s.heap.objs.size (.ref o) [] .none) _ _ _
 unfold Builtin.Dict.updateFrom
 refine wpAny_bind (wpAny_typeOf ho'.typeIs ?_)
 rw[if_neg (by decide)]
 refine wpAny_bind ?_
 unfold Builtin.Dict.merge
 refine wpAny_bind ?_
 unfold Builtin.Dict.readDirectly
 refine wpAny_bind (wpAny_isInstance ho'.typeIs isSubtype_dict_dict ?_)
 simp only[Bool.not_true,Bool.false_eq_true,if_false]
 refine wpAny_bind (wpAny_specialOf ho'.typeIs F.slot_dict_iter.lookup (wpAny_pure ?_))
 simp only[beq_self_eq_true,if_true]
 refine wpAny_bind (wpAny_pure ?_)
 refine mergeH (hsz:=hsz) hdo hoS hnew ho' hn λh' hd' hs' => ?_
 show wpAny _ _ (Builtin.Dict.addKeywords s.heap.objs.size [] >>= _) _ _ _
 exact wpAny_bind (wpAny_pure (wpAny_pure ⟨rfl,h h' hd' hs'⟩))
end
def HDs(kvs:List (List Key×V)):Prop:=∃ts:List (List Int),kvs.map (·.1)=ts.map (λt=>t.map Sum.inl)/\(ts.map hsI).Nodup
theorem KT.keysEq{H:Hp}{kvs:List (List Key×V)}{xs:List (List Key×Addr×Value)}(r:KT H kvs xs):xs.map (·.1)=kvs.map (·.1):=by
 induction r with
 | nil=>rfl
 | cons h t ih=>rw[List.map_cons,List.map_cons,ih,h.1]
section
variable{X:Cx}
theorem zqs(P:Program)(w:World)(t:List Int):(tupleKind (mixKind P w)).hash (t.map Sum.inl)=hsI t:=by
 show reduceHash (Builtin.Tuple.tupleHashOf ((t.map Sum.inl).map (mixKind P w).hash))=_
 rw[List.map_map];rfl
theorem zkm:CallR X (.type "dict") (λxs H Q=>∃d kvs,xs=[.ref d]/\H d=some (.dT kvs)/\HDs kvs/\∀p,H p=none->Q (.ref p) (upd H p (.dT kvs))):=by
 intro pins s σ H xs us Q I r h
 obtain⟨d,kvs,rfl,hH,⟨ts,hts,htn⟩,q⟩:=h
 obtain⟨u,rfl,rx⟩:=vals1 r
 cases rx
 obtain⟨z,hd,ys,rel,dd⟩:=zp9 I.hok hH
 have hz:ys.length<=sizeLine:=by rw[<- Paired.length rel];exact z
 have kys:ys.map (·.1)=kvs.map (·.1):=KT.keysEq rel
 have hn:(ys.map λx=>(tupleKind (mixKind X.prog X.w)).hash x.1).Nodup:=by
  have e:(ys.map λx=>(tupleKind (mixKind X.prog X.w)).hash x.1)=(ys.map (·.1)).map (tupleKind (mixKind X.prog X.w)).hash:=by rw[List.map_map];rfl
  rw[e,kys,hts,List.map_map]
  have e2:(ts.map ((tupleKind (mixKind X.prog X.w)).hash ∘ λt=>t.map Sum.inl))=ts.map hsI:=List.map_congr_left λt _=>zqs _ _ t
  rw[e2];exact htn
 refine zj4 (kk:=mixKind X.prog X.w) hd dd hn hz λh' dd' hs => ?_
 have kp:∀b o',s.heap.get? b=some o'->h'.get? b=some o':=λb o' e=>by
  rw[hs.2 b (Nat.ne_of_lt (Heap.lt_size e))];exact Heap.get?_push_of_some _ e
 obtain⟨o,es,ep,h1,h2,h3,h4,_,h5⟩:=dd'
 have nf:=I.hok.fresh (Nat.le_refl s.heap.objs.size)
 refine⟨.ref s.heap.objs.size,_,I.laid (t':=s.toks) kp (Nat.le_refl _) (show ObjOk X.prog X.w _ h' _ (.dT kvs) from⟨z,?_,ys,rel.keeps λc yy ec => ?_,o,es,ep,h1,h2,h3,h4,h5⟩),rfl,q _ nf⟩
 ·exact beq_eq_false_iff_ne.mpr (Nat.ne_of_gt I.big)
 ·rw[zao (λe=>by rw[e,nf]at ec;cases ec)];exact ec
end
end L2
namespace L2
open PySem PySem.Spec PyProof.Rows TS
def lamCx(X:Cx)(N:List Str)(qual:Str)(scope:Scope)(q c':Addr)(cl:List (Str×Addr))(A:Around)(s:Shared)(H:Hp):Cx where
 prog:=X.prog
 w:=X.w
 K:=X.K
 mg:=X.mg
 base:=X.base
 A:=A.deeper (W.envX qual scope s.heap.objs.size q (.ref c') cl)
 N:=N
 s₀:=s
 H₀:=H
 env:=W.envX qual scope s.heap.objs.size q (.ref c') cl
 outer:=X.stack
 stack:=W.envX qual scope s.heap.objs.size q (.ref c') cl :: X.stack
 ex:=[]
 calm:=true
 fn:=λ_=>false
 pn:=[]
 xe:=λ_ _=>False
section
variable{X:Cx}{pins:List (Addr×Obj)}{σ : St}{H:Hp}{s:Shared}{x y:Str}{qual:Str}{scope:Scope}{q c' c:Addr}{A:Around}{u uy:Value}{xv yv:V}
theorem zpf{h₁:Heap}{tk:Nat}(I:Inv X pins σ H s)(hA:A.frames=some X.stack)(hh:A.handled=none)(hk:scope.kind = .function)(hx:scope.names.lookup x=some .local)(hy:scope.names.lookup y=some .free)
  (ho:∀z,(scope.names.lookup z=some .cell\/scope.names.lookup z=some .free)->z=y) (hcy:X.env.cells.lookup y=some c) (hcc:s.heap.IsCell c (some uy)) (ry:RelV yv uy) (rx:RelV xv u)
  (hns:h₁.Ns s.heap.objs.size (λz=>[(x,u)].reverse.lookup z)) (hk₁:∀b o,s.heap.get? b=some o->h₁.get? b=some o) :
  Inv (lamCx X [x,y] qual scope q c' [(y,c)] A s H) [] [some xv,some yv] H { s with heap:=h₁,toks:=tk }:=by
 have lkc:∀z d,([(y,c)]:List (Str×Addr)).lookup z=some d->z=y/\d=c:=λz d h=>by
  rw[List.lookup_cons]at h
  split at h
  ·rename_i e
   exact⟨by simpa using e,by cases h;rfl⟩
  ·cases h
 have lky:([(y,c)]:List (Str×Addr)).lookup y=some c:=by rw[List.lookup_cons];simp
 have hc1:h₁.IsCell c (some uy):=let ⟨o,e,d⟩:=hcc;⟨o,hk₁ _ _ e,d⟩
 have hkd:∀z,Env.kindOf (W.envX qual scope s.heap.objs.size q (.ref c') [(y,c)]) z=scope.names.lookup z:=λ_=>rfl
 refine⟨⟨I.ok.mod,hk,rfl,rfl,Nat.le_refl _,λz z' d h1 h2=>(lkc _ _ h1).1.trans (lkc _ _ h2).1.symm,λz hz=>⟨c,?_⟩,λz d hf _=>absurd (show false=true from hf) Bool.false_ne_true,λ_=>hh,Around.frames_deeper hA,.inr ⟨rfl,rfl⟩,λb z=>(nomatch z),I.bs,Nat.le_trans I.ok.bsz I.sz,λb _ _ z=>(nomatch z),λb z=>(nomatch z),I.stack,I.stkFree⟩,
  rfl,I.bare,Un.kept hk₁,⟨_,hns,λi z v h1 h2 h3 => ?_⟩,λz d h=>⟨some uy,by rw[(lkc z d h).2];exact hc1⟩,I.hok.fresh (Nat.le_refl _),λz d h=>by rw[(lkc z d h).2];exact I.freeC y c hcy,λp hp=>(nomatch hp),I.hok.kept hk₁,rfl⟩
 ·have:=ho z hz
  subst this
  exact lky
 ·match i,h1,h2 with
  | 0,h1,h2=>
   cases h1
   cases h2
   exact⟨u,rx,.inl ⟨hx,by show List.lookup x [(x,u)]=some u;rw[List.lookup_cons];simp⟩⟩
  | 1,h1,h2=>
   cases h1
   cases h2
   exact⟨uy,ry,.inr ⟨.inr hy,c,lky,hc1⟩⟩
  | i + 2,h1,h2=>exact absurd (show (none:Option Str)=some z from h1) (by simp)
theorem zp2{oc:Obj}{vs:Array Value}{tq:Tok}{params:Arguments}{body:Expr}{pm ctv:Value}{t:TE}{Q:VK}(I:Inv X pins σ H s)(hq:(q,W.kla_obj "<lambda>" qual params body scope [(y,c)] pm c' ctv)∈pins)(hc':(c',oc)∈pins)
  (hd:oc.data = .fields vs) (hv:vs[1]? = some (.str qual tq)) (hA:A.frames=some X.stack) (hh:A.handled=none) (hr:A.depth < recursionLimit) (hk:scope.kind = .function) (hco:scope.isCoroutine=false) (hgen:scope.isGenerator=false)
  (hcell:∀x∈scope.names,x.2≠.cell) (hx:scope.names.lookup x=some .local) (hy:scope.names.lookup y=some .free) (ho:∀z,(scope.names.lookup z=some .cell\/scope.names.lookup z=some .free)->z=y)
  (hb:∀u,bindArgs (W.kla_fn "<lambda>" qual params body scope [(y,c)] pm (.ref c') ctv) ⟨[u],[]⟩=pure [(x,u)])
  (hcy:X.env.cells.lookup y=some c) (hcc:s.heap.IsCell c (some uy)) (ry:RelV yv uy) (rx:RelV xv u)
  (PEb:PE (lamCx X [x,y] qual scope q c' [(y,c)] A s H) body t) (h:t [some xv,some yv] H Q):wpAny (model X.prog X.w) A (call (.ref q) [u]) (EP X pins σ Q) (λ_ _=>False) s:=by
 have e1:=(I.pin _ (List.mem_append_right _ hq)).1
 have e2:=(I.pin _ (List.mem_append_right _ hc')).1
 refine wpAny_call (codeAny_mono (R:=CR CX0 X.stack X.prog X.w H s Q E0) (W.kla_callFunE hr e1 rfl hco hgen rfl ⟨c',oc,vs,tq,rfl,e2,hd,hv⟩ ?_) λr s' hq => ?_)
 ·rw[hb u]
  refine wpAny_pure (wpAny_newFunctionEnv hcell (λz hz => ?_) (λh₁ hns hsb => ?_) hk)
  ·obtain rfl:=List.mem_singleton.mp hz
   exact hx
  ·have hk₁:∀b o,s.heap.get? b=some o->h₁.get? b=some o:=λb o e=>hsb.extBut b o (Nat.ne_of_lt (Heap.lt_size e)) (Heap.get?_push_of_some _ e)
   refine⟨I.nolimit.keeps hk₁,?_⟩
   show codeAny _ _ (.expr body (W.envX qual scope s.heap.objs.size q (.ref c') [(y,c)])) _ _
   refine W.kla_codeExpr (wpAny_mono (PEb [] _ _ H Q (zpf I hA hh hk hx hy ho hcy hcc ry rx hns hk₁) h) (λv s' hv => ?_) λ_ _ z=>False.elim z)
   obtain⟨w,H',J,rw,qw⟩:=hv
   exact⟨w,H',J.os,J.bare,J.base,J.hok,rw,qw⟩
 ·match r,hq with
  | .error e,hq=>exact False.elim hq
  | .ok (.ret u),hq=>exact I.after hq
  | .ok .next,hq=>exact False.elim hq
  | .ok .brk,hq=>exact False.elim hq
  | .ok .cont,hq=>exact False.elim hq
theorem zn6{P cc:Addr}{params:Arguments}{body:Expr}{clos:List (Str×Addr)}{pos:Pos}{Qv:Value->Shared->Prop}{E:Value->Shared->Prop}(I:Inv X pins σ H s)(hcode:X.env.code = .ref cc)(C:W.CodeHd X.base cc P)
  (hT:H P=some (.tbl #[])) (hB:X.base.BuiltinsAt X.mg P) (hcl:closureFor scope X.env=pure clos) (hdef:defaultsOf params X.env=([],[]))
  (h:∀(q c':Addr) (oc:Obj) (vs:Array Value) (tq:Tok) (ctv:Value) (s':Shared),oc.data = .fields vs->vs[1]? = some (.str (X.env.qual ++ "<lambda>") tq)->H c'=none->c'≠P ->
   Inv X ((q,W.kla_obj "<lambda>" (X.env.qual ++ "<lambda>") params body scope clos ((X.mg "__name__").getD .none) c' ctv) :: (c',oc) :: pins) σ (upd H P (.tbl #[rawInt pos.line,rawInt pos.col,.ref c'])) s'->Qv (.ref q) s') :
  wpAny (model X.prog X.w) A (eval (.Lambda params body scope pos) X.env) Qv E s:=by
 have hP:s.heap.get? P=some (W.tabObj #[]):=I.hok P _ hT
 have hg:=I.mod.glob.keeps I.bk
 have hgP:mainGlobals≠P:=λz=>by
  obtain⟨o,es,ep,e,hd,_⟩:=hg
  rw[z,hP]at e;cases e;cases hd
 have hB':s.heap.BuiltinsAt X.mg P:=let ⟨bm,ob,b1,b2,b3,b4,b5,r⟩:=hB;⟨bm,ob,b1,b2,b3,b4,I.bk _ _ b5,r⟩
 refine W.kla_eval hdef (W.kla_makeFunction (ps := #[]) hcl I.ok.glob hg hcode (C.keeps I.bk) hP trivial rfl hgP hB' λc' ctv h' tk hx hge hlt hrec htb => ?_)
 obtain⟨c₂,oc,vs,tq,z2,hoc,hd,hv⟩:=hrec
 cases z2
 have hPl:P < s.heap.objs.size:=Heap.lt_size hP
 have hcP:c'≠P:=Nat.ne_of_gt (Nat.lt_of_lt_of_le hPl hge)
 have hcn:H c'=none:=I.hok.fresh hge
 have bP:∀b,H b=none->b≠P:=λb n z=>by subst z;rw[hT]at n;cases n
 have un:Un (frs X.stack) [] H (upd H P (.tbl #[rawInt pos.line,rawInt pos.col,.ref c'])) s.heap h':=
  ⟨λb o e n _ _=>hx b o (bP b n) e,λb o e n _ _=>⟨o.slots,hx b o (bP b n) e⟩,λb o e n _=>by rw[zao (bP b n)];exact n,
   λb o e _=>by
    by_cases hb:b=P
    ·subst hb;exact⟨_,htb⟩
    ·exact⟨_,hx b o hb e⟩,
   λb xs e=>by rw[zao (zdb e hT (by intro z;cases z))];exact e,λb o u e=>by rw[zao (zdb e hT (by intro z;cases z))];exact e,
   λb ps e=>by
    by_cases hb:b=P
    ·subst hb;rw[hT]at e;cases e;exact⟨#[rawInt pos.line,rawInt pos.col,.ref c'],by rw[zae];simp⟩
    ·exact⟨#[],by rw[zao hb,e];simp⟩⟩
 have hok':HOk X.prog X.w (upd H P (.tbl #[rawInt pos.line,rawInt pos.col,.ref c'])) h':=λb u e=>by
  by_cases hb:b=P
  ·subst hb;rw[zae]at e;cases e;exact htb
  ·rw[zao hb]at e
   refine(I.hok b u e).stay (λd v hdv r=>hx d v ?_ r) (λd r=>by rw[zao (zdb r hT (by intro z;cases z))];exact r) λd xs r=>by rw[zao (zdb r hT (by intro z;cases z))];exact r
   rcases hdv with rfl | r
   ·exact hb
   ·exact zdb r hT (by intro z;cases z)
 have I1:Inv X pins σ (upd H P (.tbl #[rawInt pos.line,rawInt pos.col,.ref c'])) { s with heap:=h',toks:=tk }:=I.call (g':=s.gens) (d':=s.drawn) (t':=tk) (ch:=[]) un hok' I.bare (λb z=>absurd z (by simp))
 have I2:=I1.pinNew (t':=tk) (ob:=W.kla_obj "<lambda>" (X.env.qual ++ "<lambda>") params body scope clos ((X.mg "__name__").getD .none) c' ctv) rfl (by intro v z;cases z)
 refine h _ c' oc vs tq ctv _ hd hv hcn hcP (I2.pins_of λp hp => ?_)
 rcases List.mem_cons.mp hp with rfl | hp
 ·exact I2.pin _ (List.mem_append_right _ (.head _))
 ·rcases List.mem_cons.mp hp with rfl | hp
  ·refine⟨Heap.get?_push_of_some _ hoc,by rw[zao hcP];exact hcn,Nat.ne_of_gt (Nat.lt_of_lt_of_le I.lt hge),I.nofs hge,λv z => ?_⟩
   rw[hd]at z;cases z
  ·exact I2.pin p (List.mem_append_right _ (.tail _ hp))
end
def tSortL(K:W.Frag)(P:Addr)(lp:Pos)(i:Nat)(tb:TE)(b:Bool)(te:TE):TE:=λσ H Q=>te σ H λv H1=>∃(l:Addr) (all:List V) (yv:V),v = .ref l/\H1 l=some (.lst all)/\σ[i]? = some (some yv)/\H1 P=some (.tbl #[]) /\
 ∀c',H1 c'=none->c'≠P->skGo (λx H Q=>tb [some x,some yv] H Q) all [] (upd H1 P (.tbl #[rawInt lp.line,rawInt lp.col,.ref c'])) (skEnd K b all λout H'=>∀D,H' D=none->Q (.ref D) (upd H' D (.lst out)))
theorem closure1{scope:Scope}{env:Env}{x y g:Str}{c:Addr}(hs:scope.names=[(x,.local),(y,.free),(g,.globalImplicit)])(h:env.cells.lookup y=some c):closureFor scope env=pure [(y,c)]:=by
 unfold closureFor
 rw[hs]
 simp[cellOf,h]
section
variable{X:Cx}{j i:Nat}{p pos kpos rpos cpos lp:Pos}{e body:Expr}{te tb:TE}{P cc:Addr}{params:Arguments}{scope:Scope}{x y g:Str}{kg:NameKind}
end
end L2
namespace L2
open PySem PySem.Spec PyProof.Rows
def OnlyT(P:Addr)(H:Hp):Prop:=(∀b,H b=none\/(∃o xs,H b=some (.frz o (.lst xs)))\/b=P)/\H P=some (.tbl #[])
theorem zl2{P:Program}{w:World}{K:W.Frag}{mg mb:Str->Option Value}{CX:CXT}{k:Nat}{fa a cc Pt:Addr}{fd:FuncData}{x:Str}{sp:Sp}{s₁:Shared}{vs:List Value}{ns:List Int}
  (KX:K.In s₁.heap) (hns:s₁.heap.Ns mainGlobals mg) (hb:s₁.heap.Ns builtinsNs mb) (hbb:∀x:Str,x≠"__name__"->mb x=bootBuiltins x) (hlim:s₁.heap.NoLimit) (hg:s₁.gens = #[])
  (hPt:s₁.heap.get? Pt=some (W.tabObj #[])) (hCd:W.CodeHd s₁.heap cc Pt) (hKP:K.lookup Pt=none)
  (hbm:∃bm ob,mg "__builtins__" = some (.ref bm)/\bm≠builtinsNs/\s₁.heap.get? bm=some ob/\ob.cls = .type "module"/\ob.dict=some builtinsNs/\ob.data = .plain)
  (ha:s₁.heap.get? a=some { cls := .type "list",data := .seq vs.toArray }) (hi:IntsAre vs ns) (hl:ns.length<=sizeLine) (hr:Room k callerA)
  (F:∀base:Heap,K.In base->base.Ns mainGlobals mg->base.BuiltinsAt mg Pt->FnOk P w K mg base CX k fa fd [x] sp) (hbind:∀(s:Shared) (u:Value),BindsTo s fd ⟨[u],[]⟩ [(x,u)])
  (hsp:∀H:Hp,OnlyT Pt H->SqL K H a (ns.map V.int)->sp [.ref a] H (λv _=>v = .bl true) λ_ _ _=>False)
  (hCX:∀H e s',CX [] H s₁ (λ_ _ _=>False) e s'->False) :
  codeAny (model P w) callerA (.call (.ref fa) ⟨[.ref a],[]⟩) (λr s'=>r = .ok (.ret (.bool true))/\OldK s₁.heap s'.heap/\s'.os=s₁.os/\AllBare s'.gens) s₁:=by
 have rv:=zhs hi
 have lenV:=hi.length
 have naP:a≠Pt:=λz=>by subst z;rw[ha]at hPt;cases hPt
 have core:∀H:Hp,OnlyT Pt H->SqL K H a (ns.map V.int)->HOk P w H s₁.heap->(∀b,H b≠none->b=a\/b=Pt)->(H a≠none->K.lookup a=none) ->
   codeAny (model P w) callerA (.call (.ref fa) ⟨[.ref a],[]⟩) (λr s'=>r = .ok (.ret (.bool true))/\OldK s₁.heap s'.heap/\s'.os=s₁.os/\AllBare s'.gens) s₁:=by
  intro H hO hS hok hA hK
  have base_of:∀{b:Addr} {o:Obj},s₁.heap.get? b=some o->H b=none->(hidT s₁.heap H).get? b=some o:=λe n=>znh e n
  have noS:∀{b:Addr} {o:Obj},s₁.heap.get? b=some o->(∀v n,o.data≠.seq v n)->(∀v,o.data≠.fields v)->H b=none:=fun{b o} e d1 d2=>by
   cases q:H b with
   | none=>rfl
   | some u=>
    exfalso
    rcases hA b (by rw[q];simp) with z | z
    ·subst z;rw[ha]at e;cases e;exact d1 _ _ rfl
    ·subst z;rw[hPt]at e;cases e;exact d2 _ rfl
  have nsK:∀{b:Addr} {m:Str->Option Value},s₁.heap.Ns b m->(hidT s₁.heap H).Ns b m:=fun{b m} ⟨o,es,ep,e,d,r⟩=>⟨o,es,ep,base_of e (noS e (λv n z=>by rw[d]at z;cases z) (λv z=>by rw[d]at z;cases z)),d,r⟩
  have hKb:K.In (hidT s₁.heap H):=λb o e=>base_of (KX b o e) (by
   cases q:H b with
   | none=>rfl
   | some u=>
    exfalso
    rcases hA b (by rw[q];simp) with z | z
    ·subst z;rw[hK (by rw[q];simp)]at e;cases e
    ·subst z;rw[hKP]at e;cases e)
  have hM:Mod K mg (hidT s₁.heap H):=⟨hKb,nsK hns,⟨mb,nsK hb,hbb⟩,let ⟨mc,h1,h2⟩:=hlim;⟨mc,nsK h1,h2⟩⟩
  have hBm:(hidT s₁.heap H).BuiltinsAt mg Pt:=by
   obtain⟨bm,ob,b1,b2,b3,b4,b5,b6⟩:=hbm
   refine⟨bm,ob,b1,b2,λz => ?_,λz => ?_,base_of b3 (noS b3 (λv n z=>by rw[b6]at z;cases z) (λv z=>by rw[b6]at z;cases z)),b4,b5,b6⟩
   ·obtain⟨o,es,ep,e,d,_⟩:=hns
    rw[z,e]at b3;cases b3;rw[d]at b6;cases b6
   ·rw[z,hPt]at b3;cases b3;cases b6
  have e0:Env0 P w K mg (hidT s₁.heap H) callerA [] s₁ H:=⟨rfl,hM,λb o e=>zrc e,Nat.le_of_eq (zl3 _ _),trivial,λb hb=>absurd (show b∈([]:List Addr) from hb) (by simp),hok,.of_eq hg⟩
  refine codeAny_mono ((F _ hKb (nsK hns) hBm).run callerA [] s₁ H ⟨[.ref a],[]⟩ [.ref a] [.ref a] _ _ hr e0 (hbind s₁ (.ref a)) (.cons rfl .nil) (hsp H hO hS)) λr s' h => ?_
  cases r with
  | error e=>exact(hCX H e s' h).elim
  | ok fl=>
   cases fl with
   | next=>exact False.elim h
   | brk=>exact False.elim h
   | cont=>exact False.elim h
   | ret u=>
    obtain⟨v,H',os,bare,un,hok',r',q⟩:=h
    have q':v = .bl true:=q
    subst q'
    obtain rfl:u=Value.bool true:=r'
    refine⟨rfl,⟨λb o e => ?_,λb o e=>un.there b o e (by simp)⟩,os,bare⟩
    cases q:H b with
    | none=>exact .inl (un.keep b o e q (by intro z;exact absurd (show b∈([]:List Addr) from z) (by simp)) (by simp))
    | some u=>
     rcases hO.1 b with z | ⟨ob,xs,z⟩ | z
     ·rw[q]at z;cases z
     ·have z2:=un.frzs b ob _ z
      obtain⟨e1,_⟩:=hok b _ z
      obtain⟨e2,_⟩:=hok' b _ z2
      rw[e]at e1;cases e1
      exact .inl e2
     ·subst z
      rw[hPt]at e;cases e
      obtain⟨more,z2⟩:=un.tbls b _ hO.2
      have e2:=hok' b _ z2
      obtain⟨oc,vc,_,_,_,_,_,_,_,c1,c2,c3,c4,_⟩:=hCd
      exact .inr (.inl ⟨⟨cc,oc,vc,c1,c2,c3,c4⟩,rfl,_,more,rfl,e2⟩)
 cases hk:K.lookup a with
 | some o=>
  have e:=KX a o hk
  rw[ha]at e
  cases e
  refine core (λb=>if b=Pt then some (.tbl #[]) else none) ⟨λb => ?_,if_pos rfl⟩ (.inr ⟨_,vs.toArray,_,hk,rfl,rfl,rfl,by rw[List.size_toArray,lenV];exact hl,by simpa using rv⟩) (λb u z => ?_) (λb z => ?_) λz=>absurd (if_neg naP) z
  ·by_cases hb:b=Pt
   ·exact .inr (.inr hb)
   ·exact .inl (if_neg hb)
  ·by_cases hb:b=Pt
   ·have z':=(if_pos hb).symm.trans z
    cases z'
    subst hb
    exact hPt
   ·have z':=(if_neg hb).symm.trans z
    cases z'
  ·by_cases hb:b=Pt
   ·exact .inr hb
   ·exact absurd (if_neg hb) z
 | none=>
  refine core (λb=>if b=a then some (.frz { cls := .type "list",data := .seq vs.toArray } (.lst (ns.map V.int))) else if b=Pt then some (.tbl #[]) else none) ⟨λb => ?_,(if_neg naP.symm).trans (if_pos rfl)⟩ (.inl (.inr ⟨{ cls := .type "list",data := .seq vs.toArray },if_pos rfl⟩)) (λb u z => ?_) (λb z => ?_) λ_=>hk
  ·by_cases hb:b=a
   ·exact .inr (.inl ⟨_,_,if_pos hb⟩)
   ·by_cases hp:b=Pt
    ·exact .inr (.inr hp)
    ·exact .inl ((if_neg hb).trans (if_neg hp))
  ·by_cases hb:b=a
   ·have z':=(if_pos hb).symm.trans z
    cases z'
    subst hb
    exact⟨ha,by rw[List.length_map];exact hl,vs,_,rv,ha⟩
   ·by_cases hp:b=Pt
    ·have z':=((if_neg hb).trans (if_pos hp)).symm.trans z
     cases z'
     subst hp
     exact hPt
    ·have z':=((if_neg hb).trans (if_neg hp)).symm.trans z
     cases z'
  ·by_cases hb:b=a
   ·exact .inl hb
   ·by_cases hp:b=Pt
    ·exact .inr hp
    ·exact absurd ((if_neg hb).trans (if_neg hp)) z
theorem walk_ofT{l:W.OpenLaw}{n k:Nat}{q:Program}{loose:List Str}{XP:(Str->Option Value)->Heap->Prop}{YP:World->Heap->Prop}{d:DefRec}{K:Params->W.Frag}{CX:World->CXT}{sp:World->Addr->Sp}{x:Str}
  (hn:l.most=some n) (hn2:n<=sizeLine) (hdf:d.params.defaults=[]) (hr:Room k callerA)
  (hY:∀(w:World) (h:Heap),YP w h->(K w.params).In h) (Pt:Addr)
  (hT:∀(w:World) (h:Heap),YP w h->h.get? Pt=some (W.tabObj #[]))
  (F:∀(w:World) (mg:Str->Option Value) (fa:Addr) (h:Heap),(K w.params).In h->h.Ns mainGlobals mg->mg d.name=some (.ref fa) ->
   ∃(cc:Addr) (fd:FuncData),W.codeHdIn (K w.params) cc Pt=true/\(K w.params).lookup Pt=none/\(∀(s:Shared) (u:Value),BindsTo s fd ⟨[u],[]⟩ [(x,u)]) /\
    ∀base:Heap,(K w.params).In base->base.Ns mainGlobals mg->base.BuiltinsAt mg Pt->FnOk l.prog w (K w.params) mg base (CX w) k fa fd [x] (sp w Pt))
  (hsp:∀(w:World) (H:Hp) (a:Addr) (ns:List Int),ns.length<=n->OnlyT Pt H->SqL (K w.params) H a (ns.map V.int)->sp w Pt [.ref a] H (λv _=>v = .bl true) λ_ _ _=>False)
  (hCX:∀(w:World) (H:Hp) (s:Shared) (e:Value) (s':Shared),CX w [] H s (λ_ _ _=>False) e s'->False) :
  W.WalkO q loose XP YP l.row.toRowW d [] (λf vs=>PySem.call f vs):=by
 refine Att.attach_call hn hdf λw s₀ s₁ mg mb fa o pm cd doc a vs ns G Y ho hd hcd hmg hobj hints hlen hg => ?_
 have KX:=hY w _ Y
 obtain⟨cc,fd,hcc,hkp,hb,hF⟩:=F w mg fa _ KX G.T.g hmg
 exact zl2 KX G.T.g G.T.b G.T.builtins G.T.nolimit hg (hT w _ Y) (W.codeHd_of_K KX hcc) hkp G.T.bmain hobj hints (Nat.le_trans hlen hn2) hr hF hb (λH hO hS=>hsp w H a ns hlen hO hS) λH e s'=>hCX w H s₁ e s'
end L2
namespace L2
open PySem PySem.Spec PyProof.Rows
section
variable{prog:Program}{w:World}{A:Around}{E:Value->Shared->Prop}{s:Shared}
structure ZStS(b2:Bool)(w1:Str)(t1:Tok)(z TI TO i1 i2 l2:Addr)(f0:Value)(k:Nat)(h:Heap):Prop where
 zip:IsZip h z TI TO f0
 ti:IsPair h TI (.ref i1) (.ref i2)
 to:∃a b,IsPair h TO a b
 it1:h.IsStrIter i1 "str_ascii_iterator" w1 t1 k
 it2:IterAt b2 h i2 l2 k
end
abbrev zs1(w1:Str)(t1:Tok)(h:Heap):Heap:=h.push { cls := .type (strIterType w1),data := .fields #[.str w1 t1,.int 0 0] }
abbrev zs2(w1:Str)(t1:Tok)(b2:Bool)(h:Heap)(l2:Addr):Heap:=(zs1 w1 t1 h).push { cls := .type (kn b2),data := .fields #[.ref l2,.int 0 0] }
abbrev zs3(w1:Str)(t1:Tok)(b2:Bool)(h:Heap)(l2:Addr):Heap:=(zs2 w1 t1 b2 h l2).push { cls := .type "tuple",data := .seq #[.ref h.objs.size,.ref (zs1 w1 t1 h).objs.size] }
abbrev zs4(w1:Str)(t1:Tok)(b2:Bool)(h:Heap)(l2:Addr):Heap:=(zs3 w1 t1 b2 h l2).push { cls := .type "tuple",data := .seq #[.none,.none] }
abbrev zs5(w1:Str)(t1:Tok)(b2:Bool)(h:Heap)(l2:Addr):Heap:=(zs4 w1 t1 b2 h l2).push { cls := .type "zip",data := .fields #[.none,.bool false,.bool false,.ref (zs2 w1 t1 b2 h l2).objs.size,.ref (zs3 w1 t1 b2 h l2).objs.size] }
 set_option maxHeartbeats 2000000 in
def ItzS(K:W.Frag)(b2:Bool)(w1:Str)(a2:Addr):It:=
 ⟨λi H=>∃ys x y,SqX K b2 H a2 ys/\w1.cps[i]? = some x/\ys[i]? = some y,
  λi H v H'=>∃p x y,H p=none/\v = .ref p/\H'=upd H p (.tup [.str ⟨#[x]⟩,y])/\w1.cps[i]? = some x/\∀ys,SqX K b2 H a2 ys->ys[i]? = some y,
  λi H=>∃ys,SqX K b2 H a2 ys/\(w1.cps.size<=i\/ys.length<=i)⟩
def iZipS(K:W.Frag)(b2:Bool)(ta:TA):TI:=λσ H R=>ta σ H λvs H1=>∃w1 a2,vs=[.str w1,.ref a2]/\strIterType w1 = "str_ascii_iterator"/\(∃ys,SqX K b2 H1 a2 ys)/\R (ItzS K b2 w1 a2) H1
end L2
namespace L2
open PySem PySem.Spec PyProof.Rows
section
variable{prog:Program}{w:World}{d:Addr}{ep:Nat}{es:Array DictEntry}{o:Obj}
theorem dsrc(hs:(d == sysModules)=false)(hc:o.cls = .type "dict")(hdd:o.data = .dict es ep):W.KdlSrc prog w "dict" d d es.size (λi v=>∃e,es[i]? = some e/\v=e.key) (λh=>h.get? d=some o) where
 type:=λs hm=>⟨o,hm,hc⟩
 there:=λ_ hm=>⟨Heap.lt_size hm,Heap.lt_size hm⟩
 keep:=λ_ _ hm hk=>hk d (.inl rfl) o hm
 notList:=by decide
 notTuple:=by decide
 hint:=λ_ _ s _ hm hq=>W.kdl_hint_dict (s:=s) ⟨o,hm,hc⟩ hq
 iter:=λA s hh hm=>⟨_,λi h=>h.IsKeyIter s.heap.objs.size d i es.size ep/\h.get? d=some o,(λ_ _ hq=>zmi hs ⟨o,hm,hc⟩ hm hdd hq),{
   sub:=λb hb=>by simp at hb;simp[hb]
   frame:=λ_ _ _ st hk=>⟨st.1.at λo e=>hk _ (by simp) o e,hk d (by simp) o st.2⟩
   item:=λi s' Q E hi st hQ=>by
    obtain⟨e,he⟩:∃e,es[i]? = some e:=⟨es[i],Array.getElem?_eq_getElem hi⟩
    refine zon st.1 st.2 hdd rfl he λh' hit' hs' => ?_
    exact hQ e.key h' s'.toks ⟨e,he,rfl⟩ ⟨hit',hs'.extBut d o (Nat.ne_of_lt (Heap.lt_size hm)) st.2⟩ λb o hb e=>hs'.extBut b o (λh=>hb (by simp[h])) e
   done:=λs' Q E st hQ=>zp5 hh st.1 st.2 hdd rfl (Nat.le_refl _) λh' he'=>hQ h' s'.toks λb o hb e=>he' b o (λh=>hb (by simp[h])) e
   self:=λ_ _ _ _ st hQ=>wpAny_pyIter_keyiter st.1 hQ },⟨⟨_,Heap.get?_push_size _ rfl,rfl,rfl⟩,Heap.get?_push_of_some _ hm⟩⟩
end
section
variable{X:Cx}
theorem zep(hc:X.calm=true):CallR X (.type "list") (λxs H Q=>∃d kvs,xs=[.ref d]/\Rd H d (.dT kvs)/\∀(l:Addr) (as:List Addr),H l=none->as.length=kvs.length->(∀(i:Nat) k x,kvs[i]? = some (k,x)->∃a,as[i]? = some a/\H a=some (.tup (k.map kV))) ->
  Q (.ref l) (upd H l (.lst (as.map V.ref)))):=by
 intro pins s σ H xs us Q I r h
 obtain⟨d,kvs,rfl,hd,q⟩:=h
 obtain⟨u,rfl,rx⟩:=vals1 r
 cases rx
 obtain⟨zl,hds,ys,rel,ob,es,ep,g1,g2,g3,g4,g5,g6⟩:=zg7 I.hok hd
 have le:es.size=kvs.length:=(size_of_entries g4).trans (Paired.length rel).symm
 refine W.kdl_call (dsrc hds g2.1 g3) (I.ok.hd hc) g1 (by omega) λh' tk acc c kp hS hI => ?_
 have row:∀(i:Nat) k x,kvs[i]? = some (k,x)->∃a,acc[i]? = some (.ref a)/\H a=some (.tup (k.map kV)):=λi k x hk=>by
  obtain⟨y,hy,e1,e2,e3⟩:=Paired.at' rel hk
  have hi:i < acc.size:=by
   rcases Nat.lt_or_ge i kvs.length with z | z
   ·rw[hI.1];omega
   ·rw[List.getElem?_eq_none z]at hk;cases hk
  obtain⟨e,he,hv⟩:=hI.2 i acc[i] (Array.getElem?_eq_getElem hi)
  have:es[i]? = some (entryOfKey (tupleKind (mixKind X.prog X.w)) y):=by
   have z:es.toList[i]? = some (entryOfKey (tupleKind (mixKind X.prog X.w)) y):=by rw[g4,List.getElem?_map,hy];rfl
   simpa using z
  rw[this]at he;injection he with he;subst he
  exact⟨y.2.1,by rw[Array.getElem?_eq_getElem hi,hv];rfl,e2⟩
 obtain⟨as,hl,has⟩:∃as:List Addr,as.length=kvs.length/\acc.toList=as.map Value.ref:=by
  have key:∀n,n<=kvs.length->∃as:List Addr,as.length=n/\acc.toList.take n=as.map Value.ref:=by
   intro n
   induction n with
   | zero=>intro _;exact⟨[],rfl,rfl⟩
   | succ n ih=>
    intro hn
    obtain⟨as,h1,h2⟩:=ih (by omega)
    obtain⟨⟨k,x⟩,hk⟩:∃p,kvs[n]? = some p:=⟨kvs[n],List.getElem?_eq_getElem (by omega)⟩
    obtain⟨a,ha,_⟩:=row n k x hk
    refine⟨as ++ [a],by rw[List.length_append,h1];rfl,?_⟩
    have ha':acc.toList[n]? = some (Value.ref a):=by simpa using ha
    rw[List.take_add_one,ha',h2,List.map_append];rfl
  obtain⟨as,h1,h2⟩:=key kvs.length (Nat.le_refl _)
  refine⟨as,h1,?_⟩
  rwa [List.take_of_length_le (by rw[Array.length_toList,hI.1];omega)]at h2
 have hD:h'.get? s.heap.objs.size=some { cls := .type "list",data := .seq (as.map Value.ref).toArray c }:=by rw[<- has];simpa using hS
 have vv:Vals (as.map V.ref) (as.map Value.ref):=by
  clear has hl row hD
  induction as with
  | nil=>exact .nil
  | cons a as ih=>exact .cons rfl ih
 refine⟨.ref s.heap.objs.size,_,I.laid (t':=tk) kp (Nat.le_refl _) ?_,rfl,q s.heap.objs.size as (I.hok.fresh (Nat.le_refl _)) hl λi k x hk => ?_⟩
 ·exact⟨by rw[List.length_map,hl];exact zl,_,c,vv,hD⟩
 ·obtain⟨a,ha,e⟩:=row i k x hk
  refine⟨a,?_,e⟩
  have ha':acc.toList[i]? = some (Value.ref a):=by simpa using ha
  rw[has,List.getElem?_map]at ha'
  cases q2:as[i]? with
  | none=>rw[q2]at ha';cases ha'
  | some b=>rw[q2]at ha';injection ha' with ha';injection ha' with ha';rw[ha']
def rJoin(K:W.Frag):V->List V->Hp->VK->Prop:=λx vs H Q=>∃sep l ws,x = .str sep/\vs=[.ref l]/\SqL K H l (ws.map V.str)/\JoinOk sep ws=true/\Q (.str (Txt.join sep ws)) H
end
end L2
namespace L2
open PySem PySem.Spec PyProof.Rows
def codeOfF(K:W.Frag)(f:Addr):Option Addr:=match K.lookup f with
 | some ⟨_,_,.func fd,_⟩=>(match fd.code with | .ref c=>some c | _=>none)
 | _=>none
section
variable{P:Program}{w:World}{K:W.Frag}{mg:Str->Option Value}{base:Heap}{x qual:Str}{st:Stmt}{dV:Value}{f:Addr}{fd:FuncData}{N ps:List Str}{k:Nat}{sp:Sp}
theorem FunD.okL{cc:Addr}(F:FunD K x qual st dV f fd)(hcc:codeOfF K f=some cc)(S:FnScope N ps (defScope st))(len:∀vs H Q E,sp vs H Q E->vs.length=ps.length)
  (hbody:∀(A:Around) (outer:List Env) (s:Shared) (H:Hp) (vs:List V) (Q:VK) (E:XK),Room k (A.deeper (envOfC qual (defScope st) s.heap.objs.size f (.ref cc)))->sp vs H Q E ->
   ∃t,PSs (cxOf CX0 P w K mg base N qual (defScope st) f (.ref cc) A outer s H E).nox (defBody st) t/\t { nx:=λ_ H'=>Q .non H',rt:=Q } (start N vs) H):FnOk P w K mg base CX0 (k + 1) f fd ps sp:=by
 obtain⟨oc,od,kV,doc,pm,an,cdv,ct,osl,rfl,lk,hcd⟩:=F.ex
 have e:cdv = .ref cc:=by
  unfold codeOfF at hcc
  rw[lk]at hcc
  cases cdv with
  | ref c=>injection hcc with z;rw[z]
  | _=>cases hcc
 subst e
 refine zpu lk hcd S len λA outer s H vs Q E hr hsp => ?_
 obtain⟨t,h,q⟩:=hbody A outer s H vs Q E hr hsp
 exact⟨t,h.nox,q⟩
end
end L2
namespace L2
open PySem PySem.Spec PyProof.Rows
def mxD(d:Int):List Int->Int
 | []=>d
 | x :: xs=>xs.foldl max x
section
variable{prog:Program}{w:World}{A:Around}{E:Value->Shared->Prop}{l It S:Addr}
end
def tMaxD(te td:TE):TE:=λσ H Q=>te σ H λv H1=>td σ H1 λdv H2=>∃(l:Addr) (xs:List Int) (d:Int),v = .ref l/\dv = .int d/\H2 l=some (.lst (xs.map V.int))/\Q (.int (mxD d xs)) H2
section
variable{X:Cx}{j:Nat}{p pos kpos:Pos}{e o:Expr}{te td:TE}
end
end L2
set_option Elab.async false
set_option linter.all false
set_option maxRecDepth 100000
namespace L2
open PySem PySem.Spec PyProof.Rows
theorem zkr:typeLookup (.type "list_reverseiterator") "__len__" = pure none:=by rw[typeLookup_type,builtinLookup_eq_fast];kernel_rfl
theorem znn:typeLookup (.type "list_reverseiterator") "__length_hint__" = pure (some (.builtin "list_reverseiterator.__length_hint__")):=by rw[typeLookup_type,builtinLookup_eq_fast];kernel_rfl
section
variable{prog:Program}{w:World}{A:Around}{E:Value->Shared->Prop}{s:Shared}{r l:Addr}
theorem zng{Q:Bool->Shared->Prop}(hT:s.TypeIs (.ref r) "list_reverseiterator")(h:Q false s):wpAny (model prog w) A (Builtin.List.listLengthHint (.ref r)) Q E s:=by
 unfold Builtin.List.listLengthHint
 refine wpAny_bind (wpAny_specialOf hT zkr ?_)
 show wpAny _ A (specialOf (Value.ref r) (Str.ofString "__length_hint__") >>= _) _ _ _
 refine wpAny_bind (wpAny_specialOf hT znn ?_)
 generalize hid:("list_reverseiterator.__length_hint__" : String)=id0
 wp_delta
 rw[show splitId id0=some ("list_reverseiterator","__length_hint__") from by subst hid;decide +kernel]
 subst hid
 refine wpAny_bind (wpAny_isInstance (b:=true) hT (by rw[isSubtype_type];kernel_rfl) ?_)
 exact wpAny_pure h
theorem zj9{items:Array Value}{R:Result->Shared->Prop}(hh:A.handled=none)(hit:s.heap.IsRevIter r l ((items.size:Int) - 1))(hl:s.heap.IsList l items)(hlr:l≠r)(S:Addr)(hSr:S≠r)(hSl:S≠l)(res:Value)(c₀:Nat)(hS:s.heap.get? S=some { cls := .type "list",data := .seq #[] c₀ })
  (hR:∀h' tk acc' c',(∀b o,b≠S->b≠r->s.heap.get? b=some o->h'.get? b=some o)->h'.get? S=some { cls := .type "list",dict:=none,data := .seq acc' c',slots := #[] }->ItemsOf (λi v=>items[items.size - 1 - i]? = some v) acc' items.size->R (.ok (.ret res)) { s with heap:=h',toks:=tk }) (hn:items.size<=sizeLine) :
  wpAny (model prog w) A.in1 (Builtin.List.listExtendWith (.ref S) (.ref r) res)
   (λfin s'=>match fin with | .done f=>R (.ok f) s' | .again c'=>c'.quiet=true/\codeAny (model prog w) A c' R s') (λe s'=>R (.error e) s') s:=by
 have W:=Walks.listRev (prog:=prog) (w:=w) (A:=A.in1) hh r l hlr items
 have hSf:S ∉ [r,l]:=by simp only[List.mem_cons,List.not_mem_nil,or_false,not_or];exact⟨hSr,hSl⟩
 have st:0<=items.size/\s.heap.IsRevIter r l ((items.size:Int) - 1 - ((0:Nat):Int))/\s.heap.IsList l items:=⟨Nat.zero_le _,by simpa using hit,hl⟩
 have key:∀(h:Heap) (c₁ tk:Nat),(0<=items.size/\h.IsRevIter r l ((items.size:Int) - 1 - ((0:Nat):Int))/\h.IsList l items)->(∀b o,b≠S->s.heap.get? b=some o->h.get? b=some o) ->
   h.get? S=some { cls := .type "list",data := .seq #[] c₁ }->codeAny (model prog w) A (.builtin "list.extend.loop" ⟨[.ref S,.ref r,res],[]⟩) R { s with heap:=h,toks:=tk }:=by
  intro h c₁ tk hst hk hS₁
  refine codeAny_extend_loopS W.toS hn S hSf res items.size 0 _ #[] c₁ rfl (Nat.zero_le _) hst hS₁ (ItemsOf.nil _) λs' acc' c' hm hS' hacc => ?_
  rw[Moved.eq_with hm]
  refine hR s'.heap s'.toks acc' c' (λb o hb hbr e=>hm.heap b o (λhmem => ?_) (hk b o hb e)) hS' hacc
  rcases List.mem_cons.mp hmem with e' | hmem
  ·exact hb e'
  ·exact hbr (List.mem_singleton.mp hmem)
 unfold Builtin.List.listExtendWith
 refine wpAny_bind (wpAny_typeOf (T:="list_reverseiterator") hit.typeIs ?_)
 have h1:Builtin.List.listSameRef (.ref S) (.ref r)=false:=by simp[Builtin.List.listSameRef,hSr]
 rw[if_neg (by rw[h1];decide)]
 refine wpAny_bind (wpAny_pyIter_revIter hit ?_)
 refine wpAny_bind (wpAny_holding (zng hit.typeIs ?_))
 rw[if_neg (by decide)]
 exact wpAny_pure ⟨plainId_quiet PySem.F.plain_extend_loop _,key _ c₀ _ st (λb o _ e=>e) hS⟩
theorem zob{items:Array Value}{R:Result->Shared->Prop}(hh:A.handled=none)(hit:s.heap.IsRevIter r l ((items.size:Int) - 1))(hl:s.heap.IsList l items)(hlr:l≠r)(S:Addr)(hSr:S≠r)(hSl:S≠l)(hS:s.heap.get? S=some { cls := .type "list",data := .seq #[] })
  (hR:∀h' tk acc' c',(∀b o,b≠S->b≠r->s.heap.get? b=some o->h'.get? b=some o)->h'.get? S=some { cls := .type "list",dict:=none,data := .seq acc' c',slots := #[] }->ItemsOf (λi v=>items[items.size - 1 - i]? = some v) acc' items.size->R (.ok (.ret .none)) { s with heap:=h',toks:=tk }) (hn:items.size<=sizeLine) :
  wpAny (model prog w) A.in1 (Builtin.«list.__init__» ⟨[.ref S,.ref r],[]⟩)
   (λfin s'=>match fin with | .done f=>R (.ok f) s' | .again c'=>c'.quiet=true/\codeAny (model prog w) A c' R s') (λe s'=>R (.error e) s') s:=by
 show wpAny _ _ (do let old <- Builtin.List.listItems (.ref S);Builtin.List.listUpdate (.ref S) (λ_ => #[]);letGo old.toList.reverse;Builtin.List.listExtendWith (.ref S) (.ref r) .none) _ _ s
 refine wpAny_bind ?_
 unfold Builtin.List.listItems
 refine wpAny_bind (wpAny_seqItems hS rfl (wpAny_pure ?_))
 show wpAny _ _ (updateSeq S (λ_ => #[]) >>= λ_=>letGo (#[]:Array Value).toList.reverse >>= λ_=>Builtin.List.listExtendWith (.ref S) (.ref r) .none) _ _ s
 refine wpAny_bind (wpAny_updateSeq hS rfl ?_)
 have hS₂:=Heap.get?_update_self (Obj.mapSeq (λ_=>(#[]:Array Value))) hS rfl
 have oth:∀b o,b≠S->s.heap.get? b=some o->(s.heap.update S (Obj.mapSeq (λ_=>(#[]:Array Value)))).get? b=some o:=
  λb o hb e=>(Heap.get?_update_other _ _ (Ne.symm hb)).trans e
 refine wpAny_bind (wpAny_letGo ?_)
 refine zj9 hh (hit.at λo e=>oth r o hSr.symm e) (hl.at λo e=>oth l o hSl.symm e) hlr S hSr hSl .none _ hS₂ (λh' tk acc' c' hk hS' hacc => ?_) hn
 exact hR h' tk acc' c' (λb o hb hbr e=>hk b o hb hbr (oth b o hb e)) hS' hacc
theorem zml{items:Array Value}{Q:Value->Shared->Prop}(hh:A.handled=none)(hit:s.heap.IsRevIter r l ((items.size:Int) - 1))(hl:s.heap.IsList l items)(hlr:l≠r)(hn:items.size<=sizeLine)
  (hQ:∀h' tk acc' c',(∀b o,b≠r->s.heap.get? b=some o->h'.get? b=some o)->h'.get? s.heap.objs.size=some { cls := .type "list",dict:=none,data := .seq acc' c',slots := #[] }->ItemsOf (λi v=>items[items.size - 1 - i]? = some v) acc' items.size->Q (.ref s.heap.objs.size) { s with heap:=h',toks:=tk }) :
  wpAny (model prog w) A (call (.type "list") [.ref r]) Q E s:=by
 refine callType_codes (Q₁:=λobj s₁=>obj = .ref s.heap.objs.size/\s₁={ s with heap:=s.heap.push { cls := .type "list",data := .seq #[] } }) PySem.F.called_list (PySem.F.typeCall_list_1 _) PySem.F.entry_list_init
  (code_list_new _ ⟨rfl,rfl⟩) λobj s₁ h₁ => ?_
 obtain⟨rfl,rfl⟩:=h₁
 have hS:(s.heap.push { cls := .type "list",data := .seq #[] }).get? s.heap.objs.size=some { cls := .type "list",data := .seq #[] }:=Heap.get?_push_size _ rfl
 have ltr:r < s.heap.objs.size:=let ⟨o,ho,_⟩:=hit;Heap.lt_size ho
 have ltl:l < s.heap.objs.size:=let ⟨o,ho,_⟩:=hl;Heap.lt_size ho
 refine⟨⟨_,hS,rfl⟩,PySem.F.args_list_init_2 _ _,zob (A:=A.in1) hh (hit.at λo e=>Heap.get?_push_of_some _ e) (hl.at λo e=>Heap.get?_push_of_some _ e) hlr _ (Nat.ne_of_gt ltr) (Nat.ne_of_gt ltl) hS (λh' tk acc' c' hk hS' hacc => ?_) hn⟩
 exact⟨rfl,hQ h' tk acc' c' (λb o hb e=>hk b o (Nat.ne_of_lt (Heap.lt_size e)) hb (Heap.get?_push_of_some _ e)) hS' hacc⟩
end
section
variable{X:Cx}
def tListRev(te:TE):TE:=λσ H Q=>te σ H λv H1=>∃(l:Addr) (ys:List V),v = .ref l/\H1 l=some (.lst ys)/\∀D,H1 D=none->Q (.ref D) (upd H1 D (.lst ys.reverse))
theorem zj8{e:Expr}{te:TE}{p1 p2 pos1 pos2:Pos}(he:PE X e te)(hc:X.calm=true)(hml:X.mg ("list" : Str)=none)(hmr:X.mg ("reversed" : Str)=none)(hgl:Gl X "list":=by rfl)(hgr:Gl X "reversed":=by rfl)
  (hs:starEach [e] X.env=(false,eval e X.env) :: starEach [] X.env:=by rfl)
  (hs2:starEach [Expr.Call (.Name "reversed" p2) [e] [] pos2] X.env=(false,eval (.Call (.Name "reversed" p2) [e] [] pos2) X.env) :: starEach [] X.env:=by rfl) :
  PE X (.Call (.Name "list" p1) [.Call (.Name "reversed" p2) [e] [] pos2] [] pos1) (tListRev te):=by
 intro pins s σ H Q I h
 refine wpAny_Call_Name_kw (zdh I hgl hml (u := .type "list") (by kernel_rfl) ?_ (by decide) (by decide))
 refine PyProof.Rows.callWith_type1 ?_ hs2 rfl
 rw[hs2]
 show wpAny _ _ (spliced ((false,eval (.Call (.Name "reversed" p2) [e] [] pos2) X.env) :: backTo pos1 (starEach [] X.env))) _ _ s
 refine Calls.spliced_cons ?_
 refine wpAny_Call_Name_kw (zdh I hgr hmr zeb ?_ (by decide) (by decide))
 refine PyProof.Rows.callWith_type1 ?_ hs rfl
 rw[hs]
 show wpAny _ _ (spliced ((false,eval e X.env) :: backTo pos2 (starEach [] X.env))) _ _ s
 refine Calls.spliced_cons (thn (he pins s σ H _ I h) λu s1 ⟨x,H1,I1,r1,l,ys,ex,hH,q⟩ => ?_)
 subst ex
 cases r1
 refine Calls.spliced_nil ?_
 obtain⟨its,n,hV,hl,hz⟩:=I1.lst hH
 have hls:s1.heap.IsList l its.toArray:=⟨_,hl,rfl,n,rfl⟩
 refine call_reversed_list hls ?_
 refine Calls.spliced_nil ?_
 have hit:(s1.heap.push (revObj l ((its.toArray.size:Int) - 1))).IsRevIter s1.heap.objs.size l ((its.toArray.size:Int) - 1):=⟨_,Heap.get?_push_size _ rfl,rfl,rfl⟩
 have hlt:l < s1.heap.objs.size:=Heap.lt_size hl
 have hzi:its.toArray.size<=sizeLine:=by rw[List.size_toArray,<- hV.length];exact hz
 refine zml (s:={ s1 with heap:=s1.heap.push (revObj l ((its.toArray.size:Int) - 1)) }) (I1.ok.hd hc) hit (hls.at λo e=>Heap.get?_push_of_some _ e) (Nat.ne_of_lt hlt) hzi λh' tk acc c kp hS hI => ?_
 have hD:(s1.heap.push (revObj l ((its.toArray.size:Int) - 1))).objs.size=s1.heap.objs.size + 1:=by simp[Heap.push]
 have kp':∀b o,s1.heap.get? b=some o->h'.get? b=some o:=λb o e=>kp b o (Nat.ne_of_lt (Heap.lt_size e)) (Heap.get?_push_of_some _ e)
 have ea:acc.toList=its.reverse:=by
  refine List.ext_getElem? λi => ?_
  have sz:acc.size=its.length:=by rw[hI.1,List.size_toArray]
  rcases Nat.lt_or_ge i its.length with c1 | c1
  ·have ha:i < acc.size:=by omega
   have e1:=hI.2 i acc[i] (Array.getElem?_eq_getElem ha)
   rw[List.size_toArray,List.getElem?_toArray]at e1
   rw[List.getElem?_reverse c1,e1]
   simp[ha]
  ·rw[List.getElem?_eq_none (l:=acc.toList) (by rw[Array.length_toList];omega),List.getElem?_eq_none (l:=its.reverse) (by rw[List.length_reverse];exact c1)]
 have hSD:h'.get? (s1.heap.push (revObj l ((its.toArray.size:Int) - 1))).objs.size=some { cls := .type "list",data := .seq its.reverse.toArray c }:=by rw[<- ea];simpa using hS
 have vr:Vals ys.reverse its.reverse:=TS.paired_reverse hV
 have new:ObjOk X.prog X.w (upd H1 (s1.heap.push (revObj l ((its.toArray.size:Int) - 1))).objs.size (.lst ys.reverse)) h' (s1.heap.push (revObj l ((its.toArray.size:Int) - 1))).objs.size (.lst ys.reverse):=⟨by rw[List.length_reverse];exact hz,_,c,vr,hSD⟩
 refine⟨.ref _,_,I1.laid (t':=tk) kp' (by rw[hD];omega) new,rfl,q _ (I1.hok.fresh (by rw[hD];omega))⟩
end
end L2
namespace L2
open PySem PySem.Spec PyProof.Rows
def mnV:List Int->V
 | [] => .non
 | x :: xs => .int (xs.foldl min x)
theorem zms(a v:Value):argsOk "min" ⟨[a],[(Str.ofString "default",v)]⟩:=by unfold argsOk;kernel_rfl
section
variable{prog:Program}{w:World}{A:Around}{E:Value->Shared->Prop}{l It S:Addr}
theorem zly{its:List Value}{xs:List Int}{dv:Value}{h0:Heap}{R:Result->Shared->Prop}(hh:A.handled=none)(hi:IntsAre its xs)(hl0:h0.IsList l its.toArray)(fI:h0.get? It=none)(fS:h0.get? S=none)(hSI:S≠It) :
  ∀(rest:List Int) (j:Nat) (b:Int) (t:Tok) (c:Nat) (s:Shared),xs.drop j=rest->(∀a o,h0.get? a=some o->s.heap.get? a=some o)->s.heap.IsListIter It l j->s.heap.get? S=some (seqObj "list" #[.int b t,.int b t] c) ->
   (∀h' tk t',(∀a o,h0.get? a=some o->h'.get? a=some o)->R (.ok (.ret (.int (rest.foldl min b) t'))) { s with heap:=h',toks:=tk }) ->
   codeAny (model prog w) A (.builtin "min.loop" ⟨[.ref It,.none,.ref S],[(Str.ofString "default",dv)]⟩) R s:=by
 have hname:(toString "min" ++ toString ".loop" : String) = "min.loop":=by decide
 have hlen:its.length=xs.length:=hi.length
 have ls:∀h:Heap,(∀a o,h0.get? a=some o->h.get? a=some o)->h.IsList l its.toArray:=λh k=>by
  obtain⟨o,ho,q⟩:=hl0
  exact⟨o,k _ _ ho,q⟩
 intro rest
 induction rest with
 | nil=>
  intro j b t c s hdrop kp hit hS hR
  have hj:xs.length<=j:=List.drop_eq_nil_iff.mp hdrop
  refine codeAny_builtin PySem.F.entry_min_loop ?_
  rw[Around.under_plainId PySem.F.plain_min_loop _]
  show wpAny _ A.in1 (seqItems? (.ref S) >>= _) _ _ _
  refine wpAny_bind (wpAny_seqItems hS rfl ?_)
  show wpAny _ A.in1 (tryCatch (pyNext (.ref It)) _ >>= _) _ _ _
  refine wpAny_bind (wpAny_tryCatch (wpAny_pyNext_list_end (A:=A.in1) hh hit (ls _ kp) (by rw[List.getElem?_toArray,List.getElem?_eq_none];omega) λh' he' => ?_))
  show wpAny _ A.in1 (updateSeq S (λ_ => #[]) >>= _) _ _ _
  have hS':h'.get? S=some (seqObj "list" #[.int b t,.int b t] c):=he' S _ hSI hS
  refine wpAny_bind ?_
  refine wpAny_updateSeq hS' rfl (wpAny_bind (wpAny_letGo (wpAny_pure ?_)))
  have sb:=Heap.SameBut.update h' S (Obj.mapSeq λ_=>(#[]:Array Value))
  refine hR _ s.toks t λa o e => ?_
  have aS:a≠S:=λz=>by subst z;rw[fS]at e;cases e
  have aI:a≠It:=λz=>by subst z;rw[fI]at e;cases e
  exact(sb.2 a aS).trans (he' a o aI (kp a o e))
 | cons x rest ih=>
  intro j b t c s hdrop kp hit hS hR
  have hx:xs[j]? = some x:=by rw[<- List.head?_drop,hdrop];rfl
  have hdrop':xs.drop (j + 1)=rest:=by rw[<- List.tail_drop,hdrop];rfl
  obtain⟨tx,hu⟩:=hi.get _ _ hx
  refine codeAny_builtin PySem.F.entry_min_loop ?_
  rw[Around.under_plainId PySem.F.plain_min_loop _]
  show wpAny _ A.in1 (seqItems? (.ref S) >>= _) _ _ _
  refine wpAny_bind (wpAny_seqItems hS rfl ?_)
  show wpAny _ A.in1 (tryCatch (pyNext (.ref It)) _ >>= _) _ _ _
  refine wpAny_bind (wpAny_tryCatch (wpAny_pyNext_list_item hit (ls _ kp) (x := .int x tx) (by rw[List.getElem?_toArray];exact hu) λh' hit' hs' => ?_))
  have kp':∀a o,h0.get? a=some o->h'.get? a=some o:=λa o e=>by
   have aI:a≠It:=λz=>by subst z;rw[fI]at e;cases e
   exact(hs'.2 a aI).trans (kp a o e)
  have hS':h'.get? S=some (seqObj "list" #[.int b t,.int b t] c):=(hs'.2 S hSI).trans hS
  show wpAny _ A.in1 (pure (Value.int x tx) >>= _) _ _ _
  refine wpAny_bind (wpAny_pure ?_)
  show wpAny _ A.in1 (tryCatch (holding [.int x tx,.int x tx] (richCompare .Lt (.int x tx) (.int b t) >>= _)) _ >>= _) _ _ _
  refine wpAny_bind (wpAny_tryCatch (wpAny_holding (wpAny_bind (wpAny_lt_int ?_))))
  refine wpAny_bind (wpAny_holding (wpAny_truthy_bool ?_))
  refine wpAny_bind (wpAny_letGo (wpAny_pure ?_))
  by_cases hb:x < b
  ·rw[decide_eq_true hb]
   simp only[if_true]
   have sb:=Heap.SameBut.update h' S (Obj.mapSeq λ_ => #[Value.int x tx,Value.int x tx])
   obtain⟨c2,hc2⟩:∃c2,(h'.update S (Obj.mapSeq λ_ => #[Value.int x tx,Value.int x tx])).get? S=some (seqObj "list" #[.int x tx,.int x tx] c2):=⟨_,get?_update_seq hS' λ_ => #[Value.int x tx,Value.int x tx]⟩
   refine wpAny_bind ?_
   refine wpAny_updateSeq hS' rfl (wpAny_bind (wpAny_letGo ?_))
   rw[hname]
   obtain⟨oI',hoI',hoc,hod⟩:=id hit'
   refine wpAny_pure ⟨plainId_quiet PySem.F.plain_min_loop _,ih (j + 1) x tx c2 _ hdrop' (λa o e => ?_) ⟨oI',(sb.2 It hSI.symm).trans hoI',hoc,hod⟩ hc2 λh2 tk t' k2 => ?_⟩
   ·have aS:a≠S:=λz=>by subst z;rw[fS]at e;cases e
    exact(sb.2 a aS).trans (kp' a o e)
   ·have e:min b x=x:=by omega
    have:=hR h2 tk t' k2
    rw[List.foldl_cons,e]at this
    exact this
  ·rw[decide_eq_false hb]
   simp only[Bool.false_eq_true,if_false]
   refine wpAny_bind (wpAny_letGo ?_)
   rw[hname]
   refine wpAny_pure ⟨plainId_quiet PySem.F.plain_min_loop _,ih (j + 1) b t c _ hdrop' kp' hit' hS' λh2 tk t' k2 => ?_⟩
   have e:min b x=b:=by omega
   have:=hR h2 tk t' k2
   rw[List.foldl_cons,e]at this
   exact this
theorem zn0{s:Shared}{its:List Value}{xs:List Int}{Q:Value->Shared->Prop}(hh:A.handled=none)(hls:s.heap.IsList l its.toArray)(hi:IntsAre its xs)
  (hQ:∀h' tk t',(∀a o,s.heap.get? a=some o->h'.get? a=some o)->Q (match xs with | [] => .none | x :: r => .int (r.foldl min x) t') { s with heap:=h',toks:=tk }) :
  wpAny (model prog w) A (call (.builtin "min") [.ref l] [(Str.ofString "default",.none)]) Q E s:=by
 have hname:(toString "min" ++ toString ".loop" : String) = "min.loop":=by decide
 have hlen:its.length=xs.length:=hi.length
 refine kmk_tree PySem.F.kind_min PySem.F.plain_min PySem.F.entry_min (zms _ _) ?_
 show wpAny _ A.in1 (Builtin.Builtins.bindParams "min" ["key","default"] 0 ⟨[],[(Str.ofString "default",.none)]⟩ >>= _) _ _ s
 refine wpAny_bind (wpAny_of_eq (show Builtin.Builtins.bindParams "min" ["key","default"] 0 ⟨[],[(Str.ofString "default",.none)]⟩=pure [none,some (.none)] from rfl) ?_)
 refine wpAny_bind (wpAny_pure ?_)
 refine wpAny_bind (wpAny_pyIter_list hls ?_)
 refine wpAny_bind (wpAny_newList ?_ (Nat.zero_le _))
 rw[hname]
 refine wpAny_pure ⟨plainId_quiet PySem.F.plain_min_loop _,?_⟩
 have hS:(s.heap.push { cls := .type "list_iterator",data := .fields #[.ref l,.int 0 0] }).objs.size=s.heap.objs.size + 1:=size_push' ..
 have k2:∀a o,s.heap.get? a=some o->((s.heap.push { cls := .type "list_iterator",data := .fields #[.ref l,.int 0 0] }).push (seqObj "list" #[] 0)).get? a=some o:=λa o e=>Heap.get?_push_of_some _ (Heap.get?_push_of_some _ e)
 have gI:((s.heap.push { cls := .type "list_iterator",data := .fields #[.ref l,.int 0 0] }).push (seqObj "list" #[] 0)).IsListIter s.heap.objs.size l 0:=⟨_,Heap.get?_push_of_some _ (Heap.get?_push_size _ rfl),rfl,rfl⟩
 have gS:((s.heap.push { cls := .type "list_iterator",data := .fields #[.ref l,.int 0 0] }).push (seqObj "list" #[] 0)).get? (s.heap.push { cls := .type "list_iterator",data := .fields #[.ref l,.int 0 0] }).objs.size=some (seqObj "list" #[] 0):=Heap.get?_push_size _ rfl
 have fI:s.heap.get? s.heap.objs.size=none:=Heap.get?_none_of_le (Nat.le_refl _)
 have fS:s.heap.get? (s.heap.push { cls := .type "list_iterator",data := .fields #[.ref l,.int 0 0] }).objs.size=none:=Heap.get?_none_of_le (by rw[hS];exact Nat.le_succ _)
 have hSI:(s.heap.push { cls := .type "list_iterator",data := .fields #[.ref l,.int 0 0] }).objs.size≠s.heap.objs.size:=by rw[hS];exact Nat.ne_of_gt (Nat.lt_succ_self _)
 generalize (s.heap.push { cls := .type "list_iterator",data := .fields #[.ref l,.int 0 0] }).objs.size=S at gS fS hSI ⊢
 generalize ((s.heap.push { cls := .type "list_iterator",data := .fields #[.ref l,.int 0 0] }).push (seqObj "list" #[] 0))=h1 at k2 gI gS
 have ls1:h1.IsList l its.toArray:=by obtain⟨o,ho,q⟩:=hls;exact⟨o,k2 _ _ ho,q⟩
 refine codeAny_builtin PySem.F.entry_min_loop ?_
 rw[Around.under_plainId PySem.F.plain_min_loop _]
 show wpAny _ A.in1 (seqItems? (.ref S) >>= _) _ _ _
 refine wpAny_bind (wpAny_seqItems gS rfl ?_)
 show wpAny _ A.in1 (tryCatch (pyNext (.ref s.heap.objs.size)) _ >>= _) _ _ _
 cases xs with
 | nil=>
  refine wpAny_bind (wpAny_tryCatch (wpAny_pyNext_list_end (A:=A.in1) hh gI ls1 (by rw[List.getElem?_toArray,List.getElem?_eq_none];rw[hlen];exact Nat.zero_le _) λh' he' => ?_))
  refine wpAny_bind (wpAny_rule (wpAny_pure ?_))
  refine hQ h' s.toks 0 λa o e=>he' a o (λz=>by subst z;rw[fI]at e;cases e) (k2 a o e)
 | cons x xs=>
  obtain⟨tx,hu⟩:=hi.get 0 x rfl
  refine wpAny_bind (wpAny_tryCatch (wpAny_pyNext_list_item gI ls1 (x := .int x tx) (by rw[List.getElem?_toArray];exact hu) λh' hit' hs' => ?_))
  have kp':∀a o,s.heap.get? a=some o->h'.get? a=some o:=λa o e=>(hs'.2 a (λz=>by subst z;rw[fI]at e;cases e)).trans (k2 a o e)
  have hS':h'.get? S=some (seqObj "list" #[] 0):=(hs'.2 S hSI).trans gS
  show wpAny _ A.in1 (pure (Value.int x tx) >>= _) _ _ _
  refine wpAny_bind (wpAny_pure ?_)
  show wpAny _ A.in1 (updateSeq S (λ_ => #[.int x tx,.int x tx]) >>= _) _ _ _
  have sb:=Heap.SameBut.update h' S (Obj.mapSeq λ_ => #[Value.int x tx,Value.int x tx])
  obtain⟨c2,hc2⟩:∃c2,(h'.update S (Obj.mapSeq λ_ => #[Value.int x tx,Value.int x tx])).get? S=some (seqObj "list" #[.int x tx,.int x tx] c2):=⟨_,get?_update_seq hS' λ_ => #[Value.int x tx,Value.int x tx]⟩
  refine wpAny_bind ?_
  refine wpAny_updateSeq hS' rfl ?_
  rw[hname]
  obtain⟨oI',hoI',hoc,hod⟩:=id hit'
  refine wpAny_pure ⟨plainId_quiet PySem.F.plain_min_loop _,zly hh hi hls fI fS hSI xs 1 x tx c2 _ rfl (λa o e => ?_) ⟨oI',(sb.2 _ hSI.symm).trans hoI',hoc,hod⟩ hc2 λh2 tk t' k2=>hQ h2 tk t' k2⟩
  exact(sb.2 a (λz=>by subst z;rw[fS]at e;cases e)).trans (kp' a o e)
end
def tMinD(te td:TE):TE:=λσ H Q=>te σ H λv H1=>td σ H1 λdv H2=>∃(l:Addr) (xs:List Int),v = .ref l/\dv = .non/\H2 l=some (.lst (xs.map V.int))/\Q (mnV xs) H2
section
variable{X:Cx}{j:Nat}{p pos kpos:Pos}{e o:Expr}{te td:TE}
theorem zpr(he:PE X e te)(ho:PE X o td)(hr:Room j X.A)(hm:X.mg ("min" : Str)=none)(hg:Gl X "min":=by rfl)
  (hs:starEach [e] X.env=(false,eval e X.env) :: starEach [] X.env:=by rfl) :
  PE X (.Call (.Name "min" p) [e] [⟨some "default",o,kpos⟩] pos) (tMinD te td):=by
 intro pins s σ H Q I h
 refine wpAny_Call_Name_kw (zdh I hg hm (u := .builtin "min") (by kernel_rfl) ?_)
 have h':tCons te tNil σ H (λvs H1=>match vs with
   | [v]=>td σ H1 λdv H2=>∃(l:Addr) (xs:List Int),v = .ref l/\dv = .non/\H2 l=some (.lst (xs.map V.int))/\Q (mnV xs) H2
   | _=>False):=h
 refine callWith_kw (thn ((zaa he zaf hs) pos pins s σ H _ I h') λus s1 ⟨vs,H1,I1,r1,q1⟩ => ?_) (by rw[hs];rfl) (by rw[hs];rfl)
 cases r1 with
 | nil=>exact False.elim q1
 | cons ru rr=>
  cases rr with
  | cons _ _=>exact False.elim q1
  | nil=>
   refine kwAll_cons (thn (ho pins s1 σ H1 _ I1 q1) λuo s2 ⟨ov,H2,I2,ro,l,xs,ev,eo,eh,q⟩ => ?_)
   subst eo
   subst ev
   cases ru
   cases ro
   refine kwAll_nil ?_
   obtain⟨its,n,rv,hl,_⟩:=I2.lst eh
   have hls:s2.heap.IsList l its.toArray:=⟨_,hl,rfl,n,rfl⟩
   refine zn0 hr.hd hls (zct rv) λh' tk t' k=>⟨mnV xs,H2,I2.kept k,?_,q⟩
   cases xs with
   | nil=>rfl
   | cons x r=>exact⟨t',rfl⟩
end
theorem zmg{X:Cx}(hc:X.calm=true){K:W.Frag}(hK:X.K=K):CallR X (.builtin "max") (λxs H Q=>∃t ys,xs=[.ref t]/\H t=some (.lst (ys.map V.int))/\ys≠[]/\∀M,M∈ys->(∀a∈ys,a<=M)->Q (.int M) H):=by
 subst hK
 intro pins s σ H xs us Q I r h
 obtain⟨t,ys,rfl,ht,ne,q⟩:=h
 obtain⟨u,rfl,rx⟩:=vals1 r
 cases rx
 obtain⟨its,nn,rv,hl0,_⟩:=I.lst ht
 have hT:s.heap.IsList t its.toArray:=⟨_,hl0,rfl,nn,rfl⟩
 have hlt:t < s.heap.objs.size:=by obtain⟨o,e,_⟩:=hT;exact Heap.lt_size e
 have hi:IntsAre its ys:=zct rv
 have hl:=hi.length
 have h0:0 < ys.length:=by cases ys with | nil=>exact absurd rfl ne | cons _ _=>simp
 refine call_max_walk (wpAny_pyIter_list hT ?_)
 refine⟨_,[s.heap.objs.size,t],[s.heap.objs.size],_,_,_,_,rfl,Walks.list (A:=X.A.in1) (I.ok.hd hc) _ t (Nat.ne_of_lt hlt) its.toArray,⟨⟨_,Heap.get?_push_size _ rfl,rfl,rfl⟩,hT.at λo e=>Heap.get?_push_of_some _ e⟩,λb hb => ?_,by simp;omega,CmpOf.ints_gt (λi=>ys.getD i 0) (λi v e => ?_),λv h' tk hP hk => ?_⟩
 ·show b < (s.heap.push _).objs.size
  rw[Heap.size_push]
  simp only[List.mem_cons,List.not_mem_nil,or_false]at hb
  rcases hb with z | z
  ·rw[z];exact Nat.lt_succ_self _
  ·rw[z];exact Nat.lt_succ_of_lt hlt
 ·have e':its[i]? = some v:=by simpa using e
  have hi':i < ys.length:=by
   rcases Nat.lt_or_ge i its.length with z | z
   ·omega
   ·rw[List.getElem?_eq_none z]at e';cases e'
  obtain⟨tx,hu⟩:=hi.get i ys[i] (List.getElem?_eq_getElem hi')
  rw[hu]at e'
  cases e'
  exact⟨tx,by simp[List.getD,hi']⟩
 ·obtain⟨b1,b2⟩:=argBest_gt (λi=>ys.getD i 0) (its.toArray.size - 1)
  have sz:its.toArray.size=ys.length:=by simp;omega
  rw[sz]at b1 b2
  have hP':its[argBest (λi j=>decide (ys.getD i 0 > ys.getD j 0)) (ys.length - 1)]? = some v:=by
   have:=hP
   rw[sz]at this
   simpa using this
  generalize argBest (λi j=>decide (ys.getD i 0 > ys.getD j 0)) (ys.length - 1)=m at b1 b2 hP'
  have hm:m < ys.length:=by omega
  obtain⟨tx,hu⟩:=hi.get m ys[m] (List.getElem?_eq_getElem hm)
  rw[hu]at hP'
  cases hP'
  refine⟨.int ys[m],H,I.kept (t':=tk) λb o e=>hk b o (λhmem => ?_) (Heap.get?_push_of_some _ e),⟨tx,rfl⟩,q _ (List.getElem_mem hm) λa ha => ?_⟩
  ·exact absurd (Heap.lt_size e) (by rw[List.mem_singleton.mp hmem];exact Nat.lt_irrefl _)
  ·obtain⟨j,hj,rfl⟩:=List.mem_iff_getElem.mp ha
   have:=b2 j (by omega)
   simpa[List.getD,hj,hm]using this
end L2
set_option Elab.async false
set_option linter.all false
set_option maxRecDepth 100000
namespace L2
open PySem PySem.Spec PySem.W PySem.Calls PyProof.Rows Builtin Builtin.ObjectAttr Builtin.Getset_descriptor
structure ExcI(K:Frag)(C:Addr):Prop where
 ga:findIn K (.ref C) "__getattribute__" = some (some (.builtin "BaseException.__getattribute__"))
 gn:findIn K (.ref C) "__getattr__" = some none
 cl:findIn K (.ref C) "__class__" = some (some (.builtin "object.__class__"))
 sp:specialIn K (.builtin "object.__class__") "__get__" = some (some (.builtin "getset_descriptor.__get__"))
 tk:takesIn K (.builtin "object.__class__")=some true
 mo:mroIn K C (.type "object")=some true
 mb:mroIn K C (.type "BaseException")=some true
 hd:hasDictIn K C=true
section
variable{prog:Program}{w:World}{A:Around}{E:Value->Shared->Prop}{s:Shared}{K:Frag}{x C:Addr}
theorem zrk{R:Result->Shared->Prop}{tp:Value}(X:K.In s.heap)(L0:∀M,Looks M s.heap (typeOf (.ref x)) (.ref C))(Z:ExcI K C)
  (h:R (.ok (.ret (.ref C))) s):codeAny (model prog w) A (.call (.builtin "getset_descriptor.__get__") ⟨[.builtin "object.__class__",.ref x,tp],[]⟩) R s:=by
 obtain⟨hh,g,dr,t,os⟩:=s
 have l0:=L0 (model prog w)
 have l1:=looks_mroIn (M:=model prog w) X Z.mo
 refine codeAny_call_builtin KF.slot_gs.plain KF.entry_gs (KF.slot_gs.check _ _ _ _ _ _ _ _ KF.type_class (KF.args_gs _ _ _) ?_)
 unfold Builtin.«getset_descriptor.__get__» descrGet
 rw[dga_obj];refine wpAny_bind (wpAny_pure ?_)
 unfold descrGetter descrCheckInstance descrNameAndClass isInstance;simp only[KF.owner_class]
 repeat lk
 refine⟨Code.quiet_builtin _ (by decide +kernel),codeAny_builtin KF.entry_class ?_⟩
 unfold Builtin.«object.__class__» shownTypeOf;repeat lk
 exact h
theorem zqy{M:Model}{h:Heap}(X:K.In h)(Z:ExcI K C):Looks M h (ObjectAttr.find (.ref x) (.ref C) "__class__") (.bind (.builtin "getset_descriptor.__get__") (.builtin "object.__class__")):=by
 have l1:=looks_findIn (M:=M) X Z.cl
 have l2:Looks M h (getOf (some (.builtin "object.__class__"))) (some (.builtin "getset_descriptor.__get__")):=looks_specialIn X Z.sp
 have l3:=looks_takesIn (M:=M) X Z.tk
 exact l1.andThen (l2.andThen ((show Looks M h (dataDescriptor? (some _) (some _)) (some (_,_)) from l3.andThen .now).andThen (Looks.tag .now)))
theorem zm7{tk:Tok}{Q:Fin->Shared->Prop}(X:K.In s.heap)(L0:∀M,Looks M s.heap (typeOf (.ref x)) (.ref C))(Z:ExcI K C)(h:Q (.done (.ret (.ref C))) s) :
  wpAny (model prog w) A (Builtin.«object.__getattribute__» ⟨[.ref x,.str "__class__" tk],[]⟩) Q E s:=by
 obtain⟨hh,g,dr,t,os⟩:=s
 have l0:=L0 (model prog w)
 have l1:=zqy (x:=x) (M:=model prog w) X Z
 refine wpAny_bind (wpAny_pure (wpAny_bind (wpAny_pure (wpAny_bind (l0.at (wpAny_bind (l1.at ?_)))))))
 show wpAny _ _ (bindTo _ _ _ _) _ _ _
 unfold bindTo
 refine wpAny_bind (wpAny_holding (wpAny_call (zrk (s:=⟨hh,g,dr,t,os⟩) X L0 Z ?_)))
 exact wpAny_pure h
theorem zmp{M:Model}{nv:Value}{Q:Unit->Shared->Prop}(X:K.In s.heap)(L0:∀M,Looks M s.heap (typeOf (.ref x)) (.ref C))(Z:ExcI K C)(h:Q () s) :
  wpAny M A (checkBuiltinCall "BaseException.__getattribute__" ⟨[.ref x,nv],[]⟩) Q E s:=by
 obtain⟨hh,g,dr,t,os⟩:=s
 have l0:=L0 M
 have l1:=looks_mroIn (M:=M) X Z.mb
 have hk:builtinKind "BaseException.__getattribute__" = some .slot:=by decide +kernel
 have hs:splitId "BaseException.__getattribute__" = some ("BaseException","__getattribute__"):=by decide +kernel
 have ha:=F.args_bexc_ga (.ref x) nv
 simp only[checkBuiltinCall,hk,hs]
 refine wpAny_bind ?_
 unfold isInstance
 repeat lk
 exact h
theorem zpo{Q:Option Value->Shared->Prop}(X:K.In s.heap)(L0:∀M,Looks M s.heap (typeOf (.ref x)) (.ref C))(Z:ExcI K C)(h:Q (some (.ref C)) { s with toks:=s.toks + 1 }) :
  wpAny (model prog w) A (getAttr? (.ref x) "__class__") Q E s:=by
 obtain⟨hh,g,dr,t,os⟩:=s
 have l0:=L0 (model prog w)
 have l1:=looks_findIn (M:=model prog w) X Z.ga
 have l2:=looks_findIn (M:=model prog w) X Z.gn
 have hx2:(Value.builtin "BaseException.__getattribute__" == Value.builtin "object.__getattribute__")=false:=by decide +kernel
 have hx1:(onTheHeap (Value.ref C) && Value.builtin "BaseException.__getattribute__" == Value.builtin "object.__getattribute__")=false:=by rw[hx2];rfl
 unfold getAttr? getAttrBy? getAttrBy
 refine wpAny_bind (wpAny_mkText (wpAny_bind (wpAny_attempt (wpAny_holding (wpAny_bind (l0.at (wpAny_bind (l1.at ?_))))))))
 dsimp only
 rw[if_neg (by rw[hx1];decide)]
 unfold getAttrByItsOwn hookBefore
 rw[if_pos (show onTheHeap (Value.ref C)=true from rfl)]
 refine wpAny_bind (l2.at (wpAny_bind (wpAny_attempt (wpAny_holding ?_))))
 have f3:bindSpecial (.builtin "BaseException.__getattribute__") (.ref x)=pure (.builtin "BaseException.__getattribute__",[.ref x]):=by
  have hop:withoutEnding? "BaseException.__getattribute__" "#opaque" = none:=by decide +kernel
  have hdat:withoutEnding? "BaseException.__getattribute__" "#data" = none:=by decide +kernel
  have hk:builtinKind "BaseException.__getattribute__" = some .slot:=by decide +kernel
  simp only[bindSpecial,typeOf,builtinType,hop,hdat,hk];rfl
 unfold callGetattribute boundAndCalled
 rw[if_neg (by simp),f3]
 refine wpAny_bind (wpAny_pure (wpAny_call (codeAny_call_builtin ?_ F.entry_bexc_ga (zmp (s:=⟨hh,g,dr,t + 1,os⟩) X L0 Z (zm7 (s:=⟨hh,g,dr,t + 1,os⟩) X L0 Z ?_)))))
 ·decide +kernel
 ·show wpAny _ _ (handedOut (.ref C)) _ _ _
  have hq:handedOut (Value.ref C)=pure (Value.ref C):=rfl
  rw[hq];exact wpAny_pure (wpAny_pure h)
def IsExc(a C:Addr)(h:Heap):Prop:=∃o,h.get? a=some o/\o.cls = .ref C
theorem zsh{a:Addr}(Z:ExcI K C):KitX K (.ref a) (.ref C) (IsExc a C) where
 ty:=λ_ _ _ ⟨_,e,c⟩=>c ▸ (Looks.ld e).andThen .now
 it:=λ_ _ X _=>by
  obtain⟨cd,hc,_⟩:=any_some Z.hd
  unfold clsIn at hc;split at hc
  ·rename_i ho
   intro _ _ _ _ k q;unfold isType loadHead
   exact wpAny_bind (wpAny_loadPart (k _ _ (X _ _ ho)) (wpAny_pure q))
  ·cases hc
 ne:=λh tp _ _ _ _ X htp=>by
  obtain⟨cd,hc,_⟩:=any_some Z.hd
  refine Bool.eq_false_iff.mpr λq => ?_
  cases Value.ref.inj (beq_iff_eq.mp q)
  unfold clsIn at hc;split at hc
  ·rename_i ho
   have z:=(X _ _ ho).symm.trans htp;cases z
  ·cases hc
 ca:=λX ⟨_,e,c⟩ k=>zpo X (λ_=>c ▸ (Looks.ld e).andThen .now) Z k
end
def excO(a C:Addr):HO := .ext (IsExc a C)
def rIsExc(K:Frag):List V->Hp->VK->Prop:=λxs H Q=>∃(a C:Addr) (y:V) (c:Value) (b:Bool),xs=[.ref a,y]/\clV y=some c/\H a=some (excO a C)/\ExcI K C/\kitOne K (.ref C) c=some b/\Q (.bl b) H
theorem zdc{X:Cx}{K:Frag}(hK:X.K=K):CallR X (.builtin "isinstance") (rIsExc K):=by
 subst hK
 intro pins s σ H xs us Q I r h
 obtain⟨a,C,y,c,b,rfl,hy,ha,Z,e,q⟩:=h
 obtain⟨u,v,rfl,ru,rv⟩:=r.two
 cases (show u=Value.ref a from ru)
 have ev:v=c:=by
  cases y with
  | ty n=>cases hy;exact rv
  | ref a=>cases hy;exact rv
  | _=>cases hy
 subst ev
 obtain⟨p,_⟩:=(show ObjOk X.prog X.w H s.heap a (.ext (IsExc a C)) from I.hok a _ ha)
 exact kia_one (zsh Z) I.kIn p e (λz=>nomatch z) λtk=>⟨.bl b,H,I.tok _,rfl,q⟩
end L2
namespace L2
open PySem PySem.Spec PyProof.Rows
def Ends.away(i:Nat)(D:Ends):Ends:={ D with nx:=λσ H=>D.nx (σ.set i none) H,bk:=λσ H=>D.bk (σ.set i none) H,ct:=λσ H=>D.ct (σ.set i none) H }
section
variable{X:Cx}{pins:List (Addr×Obj)}{σ : St}{H:Hp}{s:Shared}{i:Nat}{n:Str}{pos:Pos}
theorem Inv.away{h':Heap}{m:Str->Option Value}{v:Option Value}{t':Nat}(I:Inv X pins σ H s)(hN:X.N.Nodup)(hi:X.N[i]? = some n)(hl:X.env.scope.names.lookup n=some .local)
  (hm:∀(j:Nat) (x:Str) (v:V),X.N[j]? = some x->σ[j]? = some (some v)->Vis X.env.scope x->∃u,RelV v u/\Look X.env s.heap m x u) (hn0:s.heap.Ns X.env.locals m) (hn:h'.Ns X.env.locals (λx=>if x=n then v else m x)) (hs:Heap.SameBut X.env.locals s.heap h') :
  Inv X pins (σ.set i none) H { s with heap:=h',toks:=t' }:=by
 obtain⟨oL,_,_,hoL,_⟩:=id hn0
 have ne:∀b o,X.s₀.heap.get? b=some o->b≠X.env.locals:=λb o e=>Nat.ne_of_lt (Nat.lt_of_lt_of_le (Heap.lt_size e) I.ok.above)
 refine⟨I.ok,I.os,I.bare,⟨λb o e n hb hx=>(hs.2 b (ne b o e)).trans (I.base.keep b o e n hb hx),λb o e n hb hx => ?_,I.base.free,λb o e hx => ?_,I.base.tups,I.base.frzs,I.base.tbls⟩,⟨_,hn,λj y v' e1 e2 e3 => ?_⟩,λy c e => ?_,I.free,I.freeC,λp hp => ?_,λb ob e => ?_,by simpa using I.len⟩
 ·obtain⟨sl,e1⟩:=I.base.slot b o e n hb hx
  exact⟨sl,(hs.2 b (ne b o e)).trans e1⟩
 ·obtain⟨o',e1⟩:=I.base.there b o e hx
  exact⟨o',(hs.2 b (ne b o e)).trans e1⟩
 ·by_cases hj:j=i
  ·subst hj
   rw[List.getElem?_set_self' ]at e2
   cases q : σ[j]? <;> rw[q]at e2 <;> cases e2
  ·rw[List.getElem?_set_ne (Ne.symm hj)]at e2
   obtain⟨u',r',q⟩:=hm j y v' e1 e2 e3
   refine⟨u',r',?_⟩
   rcases q with⟨k,e⟩ | ⟨k,c,e,z⟩
   ·refine .inl ⟨k,?_⟩
    have:y≠n:=λe=>hj (zgd hN e1 (e ▸ hi))
    simp[this,e]
   ·exact .inr ⟨k,c,e,z.sameBut hs (I.cne y c e)⟩
 ·obtain⟨w',z⟩:=I.cell y c e
  exact⟨w',z.sameBut hs (I.cne y c e)⟩
 ·obtain⟨e,n,ne,nf,d⟩:=I.pin p hp
  exact⟨(hs.2 p.1 ne).trans e,n,ne,nf,d⟩
 ·refine(I.hok b ob e).stay (λc w' hc q=>(hs.2 c ?_).trans q) (λ_ q=>q) λ_ _ q=>q
  rintro rfl
  rcases hc with rfl | hc
  ·rw[I.free]at e;cases e
  ·rw[I.free]at hc;cases hc
theorem zg4{M:Model}{A:Around}{E:Value->Shared->Prop}{Q:Unit->Shared->Prop}(I:Inv X pins σ H s)(hN:X.N.Nodup)(hi:X.N[i]? = some n)(hl:X.env.scope.names.lookup n=some .local)
  (h:∀s',Inv X pins (σ.set i none) H s'->Q () s'):wpAny M A (do bindName X.env n .none;unbindBehindTheSuite X.env n pos) Q E s:=by
 obtain⟨m,hn,hm⟩:=id I.loc
 exact wpAny_nameGoes_keeps hl hn (by rw[I.ok.kind];rfl) λh' v hn' hs=>h _ (I.away hN hi hl hm hn hn' hs)
end
def tTryAs(K:W.Frag)(c:Value)(i:Nat)(tb:(St->XK)->TS)(th:TS):TS:=λD σ H=>tb (λσ' cls _ H'=>∃C,cls = .ref C/\W.exmOne K cls c=some true/\∀a,H' a=none->th (D.away i) (σ'.set i (some (.ref a))) (upd H' a (excO a C))) D σ H
theorem zny{X:Cx}{body suite:List Stmt}{b₀:Stmt}{x n:Str}{i:Nat}{c:Value}{np hpos pos:Pos}{tb:(St->XK)->TS}{th:TS}(hN:X.N.Nodup)(hi:X.N[i]? = some n)(hl:X.env.scope.names.lookup n=some .local)(hstk:X.stack=X.env :: X.outer)(hfr:X.env.frame=some X.env.locals)(hg:Gl X x)(hm:X.mg x=some c)
  (hb:∀(pl:List (Addr×Obj)) (E':Value->Shared->Prop) (E:St->XK),PassesS (CXe X.prog X.w) (X.wishP pl E') E->PSs (X.wishP pl E') body (tb E)) (hh:∀a,PSs (X.caught a) (b₀ :: suite) th) (hdb:(x == ("__debug__" : Str))=false:=by decide) :
  PS X (.Try body [.ExceptHandler (some (.Name x np)) (some n) (b₀ :: suite) hpos] [] [] pos) (tTryAs X.K c i tb th):=by
 intro pins s σ H D I h
 rw[arm_exec_Try]
 refine wpAny_bind (wpAny_standAt (wpAny_tryStmt_except ?_))
 have P:PassesS (CXe X.prog X.w) (X.wishP pins λe s1=>wpAny (model X.prog X.w) X.A (noteFrame e X.env) (λ_ s2=>wpAny (model X.prog X.w) X.A (setFlight e none) (λ_ s3=>
   wpAny (model X.prog X.w) X.A (handleBy e X.env [.ExceptHandler (some (.Name x np)) (some n) (b₀ :: suite) hpos]) (SP X pins D) X.xe s3) X.xe s2) X.xe s1) (λσ' cls _ H'=>∃C,cls = .ref C/\W.exmOne X.K cls c=some true/\∀a,H' a=none->th (D.away i) (σ'.set i (some (.ref a))) (upd H' a (excO a C))):=by
  intro pl σ1 H1 s1 e s2 I1 hq
  have J1:=I1.unwishP
  obtain⟨a,cls,a0,B,H',rfl,os,bare,un,hok,fl,cov,C,rfl,hx,hth⟩:=hq
  have fl:Heap.FlyingW B (X.env :: X.outer) a (.ref C) a0 s2.heap:=hstk ▸ fl
  have un:Un (frs X.stack) [] H1 H' s1.heap s2.heap:=un
  have cov:Cov B (frs X.stack) H' s1.heap:=cov
  have ff2:s2.heap.FunFrames B X.stack:=hstk ▸ fl.2.2.1
  have hfs:X.A.frames=some (X.env :: X.outer):=hstk ▸ I.ok.frames
  have nH:H' a=none:=by
   cases q:H' a with
   | none=>rfl
   | some u=>obtain⟨o',z⟩:=cov.trk a u q;rw[fl.2.1]at z;cases z
  have nf:a ∉ frs X.stack:=λhm=>by
   obtain⟨_,o,ho,hnf⟩:=ff2.mem hm
   obtain⟨oe,vs,_,_,_,he,_,hd,_⟩:=fl.2.2.2
   rw[he]at ho;cases ho;exact hnf vs hd
  have n1:∀o,s1.heap.get? a=some o->False:=λo q=>by obtain⟨o',z⟩:=cov.old a o q nf;rw[fl.2.1]at z;cases z
  refine wpAny_looks_onW hfs hfr fl λh3 held up3 => ?_
  refine wpAny_landsW held λh4 fl4 up4 => ?_
  have back:∀{h5:Heap},B.StaysIn h5->s2.heap.UpToSlots h5->Inv X pins σ1 H' { s2 with heap:=h5 }:=fun{h5} st up=>
   J1.call' (s':={ s2 with heap:=h5 }) (ch:=[]) os (zi2 un cov fl.1 st (zlb ff2 up)) (zix hok cov.trk fl.1 st) bare λb z=>absurd z (by simp)
  have back2:∀{h5:Heap},B.StaysIn h5->s2.heap.UpToSlots h5->IsExc a C h5->Inv X pins σ1 (upd H' a (excO a C)) { s2 with heap:=h5 }:=fun{h5} st up ie=>by
   have u5:=zi2 un cov fl.1 st (zlb ff2 up)
   have k5:=zix hok cov.trk fl.1 st
   have ne:∀{b:Addr} {u:HO},H' b=some u->b≠a:=fun{b u} e z=>by rw[z,nH]at e;cases e
   refine J1.call' (s':={ s2 with heap:=h5 }) (ch:=[]) os ⟨u5.keep,u5.slot,λb o e nb hx => ?_,u5.there,λb xs e => ?_,λb o u e => ?_,λb ps e => ?_⟩ (λb u e => ?_) bare λb z=>absurd z (by simp)
   ·rw[zao (show b≠a from λz=>n1 o (by rw[<- z];exact e))];exact u5.free b o e nb hx
   ·have q:=u5.tups b xs e;rw[zao (ne q)];exact q
   ·have q:=u5.frzs b o u e;rw[zao (ne q)];exact q
   ·obtain⟨more,q⟩:=u5.tbls b ps e;exact⟨more,by rw[zao (ne q)];exact q⟩
   ·by_cases hb:b=a
    ·subst hb
     rw[zae]at e;cases e
     obtain⟨o,ho,hc⟩:=ie
     exact⟨⟨o,ho,hc⟩,⟨o,ho⟩,λh1 h2 ⟨o,z1,z2⟩ k=>⟨o,k o z1,z2⟩⟩
    ·rw[zao hb]at e
     exact(k5 b u e).stay (λ_ _ _ q=>q) (λd q=>by rw[zao (ne q)];exact q) λd xs q=>by rw[zao (ne q)];exact q
  have J4:=back fl4.1 (up3.trans up4)
  refine wpAny_handleBy_cons (codeAny_handlers_test ?_) (by intro q;cases q)
  refine zdm (J4.caught a) hg hm ?_ hdb
  have LT:W.Looks (model X.prog X.w) h4 (typeOf (.ref a)) (.ref C):=by
   obtain⟨ob,hob,hc⟩:=fl4.there
   exact hc ▸ (W.Looks.ld hob).andThen .now
  refine W.exm_one J4.kIn LT hx _ _ _ _ (λ_ _ q=>q) ?_
  refine codeAny_handlers_suite_as (lands_againW fl4 λh5 fl5 up5 => ?_)
  have J5:=back2 fl5.1 ((up3.trans up4).trans up5) fl5.there
  refine ze3 J5 hN hi (.inl hl) (v := .ref a) rfl (λs6 J6 => ?_) (.inr hl)
  refine wpAny_mono (hh a pins _ _ _ (D.away i) (J6.caught a) (hth a nH)) (λf s7 q => ?_) λ_ _ z=>z.elim
  have q:=q.uncaught J6.ok.hd
  cases f with
  | next=>obtain⟨σ',H',I7,q⟩:=q;exact zg4 I7 hN hi hl λs8 I8=>⟨_,_,I8,q⟩
  | brk=>obtain⟨σ',H',I7,q⟩:=q;exact zg4 I7 hN hi hl λs8 I8=>⟨_,_,I8,q⟩
  | cont=>obtain⟨σ',H',I7,q⟩:=q;exact zg4 I7 hN hi hl λs8 I8=>⟨_,_,I8,q⟩
  | ret u=>obtain⟨v,σ',H',I7,r,q⟩:=q;exact zg4 I7 hN hi hl λs8 I8=>⟨v,_,_,I8,r,q⟩
 refine wpAny_mono (hb pins _ _ P [] s σ H D (I.wishP _) h) (λf s1 q => ?_) λ_ _ x=>x
 have q':=q.unwishP
 cases f with
 | next=>exact wpAny_execs_nil q'
 | brk=>exact q'
 | cont=>exact q'
 | ret u=>exact q'
end L2
namespace L2
open PySem PySem.Spec PyProof.Rows TS
section
variable{X:Cx}{j i:Nat}{p pos kpos rpos cpos lp:Pos}{e body:Expr}{te tb:TE}{P cc:Addr}{params:Arguments}{scope:Scope}{x y g:Str}{kg:NameKind}
theorem zl9(he:PE X e te)(hr:Room j X.A)(hm:X.mg ("sorted" : Str)=none)(hcode:X.env.code = .ref cc)(C:W.CodeHd X.base cc P)(hB:X.base.BuiltinsAt X.mg P)
  (hsc:scope.names=[(x,.local),(y,.free),(g,kg)]) (hkg:kg = .globalImplicit) (hxy:x≠y) (hgx:g≠x) (hgy:g≠y) (hk:scope.kind = .function) (hco:scope.isCoroutine=false) (hgen:scope.isGenerator=false) (hdef:defaultsOf params X.env=([],[]))
  (hb:∀qual c pm cv ctv u,bindArgs (W.kla_fn "<lambda>" qual params body scope [(y,c)] pm cv ctv) ⟨[u],[]⟩=pure [(x,u)])
  (hN:X.N[i]? = some y) (hy:X.env.scope.names.lookup y=some .cell)
  (PEb:∀(q c' c:Addr) (s:Shared) (H:Hp),PE (lamCx X [x,y] (X.env.qual ++ "<lambda>") scope q c' [(y,c)] X.A.in1.in1 s H) body tb)
  (hk2:1 + 1<=j:=by decide) (hgl:Gl X "sorted":=by rfl) (hs:starEach [e] X.env=(false,eval e X.env) :: starEach [] X.env:=by rfl) :
  PE X (.Call (.Name "sorted" p) [e] [⟨some "key",.Lambda params body scope lp,kpos⟩] pos) (tSortL X.K P lp i tb false te):=by
 intro pins s σ H Q I h
 subst hkg
 refine wpAny_Call_Name_kw (zdh I hgl hm boot_sorted ?_)
 have h':tCons te tNil σ H (λvs H1=>match vs with
   | [v]=>∃(l:Addr) (all:List V) (yv:V),v = .ref l/\H1 l=some (.lst all)/\σ[i]? = some (some yv)/\H1 P=some (.tbl #[]) /\
     ∀c',H1 c'=none->c'≠P->skGo (λx H Q=>tb [some x,some yv] H Q) all [] (upd H1 P (.tbl #[rawInt lp.line,rawInt lp.col,.ref c'])) (skEnd X.K false all λout H'=>∀D,H' D=none->Q (.ref D) (upd H' D (.lst out)))
   | _=>False):=h
 refine callWith_kw (thn ((zaa he zaf hs) pos pins s σ H _ I h') λus s1 ⟨vs,H1,I1,r1,q1⟩ => ?_) (by rw[hs];rfl) (by rw[hs];rfl)
 cases r1 with
 | nil=>exact False.elim q1
 | cons ru rr=>
  cases rr with
  | cons _ _=>exact False.elim q1
  | nil=>
   obtain⟨l,all,yv,ev,eh,hσ,hT,hmx⟩:=q1
   subst ev
   cases ru
   obtain⟨m,hns,hloc⟩:=I1.loc
   obtain⟨uy,ry,hlook⟩:=hloc i y yv hN hσ (.inr (.inl hy))
   have hlk:∃c,X.env.cells.lookup y=some c/\s1.heap.IsCell c (some uy):=by
    rcases hlook with⟨z,_⟩ | ⟨_,z⟩
    ·have z':X.env.scope.names.lookup y=some .local:=z
     rw[hy]at z';cases z'
    ·exact z
   obtain⟨c,hcy,_⟩:=hlk
   have nyx:(y == x)=false:=by simpa using λz:y=x=>hxy z.symm
   have ngx:(g == x)=false:=by simpa using hgx
   have ngy:(g == y)=false:=by simpa using hgy
   have lx:scope.names.lookup x=some .local:=by rw[hsc,List.lookup_cons];simp
   have ly:scope.names.lookup y=some .free:=by rw[hsc,List.lookup_cons,nyx,List.lookup_cons];simp
   have lo:∀z,(scope.names.lookup z=some .cell\/scope.names.lookup z=some .free)->z=y:=λz hz=>by
    by_cases e:z=y
    ·exact e
    ·exfalso
     have zy:(z == y)=false:=by simpa using e
     rw[hsc,List.lookup_cons,List.lookup_cons,List.lookup_cons,zy]at hz
     cases hzx:z == x <;> cases hzg:z == g <;> simp[hzx,hzg]at hz
   refine kwAll_cons (zn6 I1 hcode C hT hB (closure1 hsc hcy) hdef λq c' oc vs tq ctv s' hd hv hcn hcP I2 => ?_)
   refine kwAll_nil ?_
   refine thn (zfy (ksk_s1 _ _) (λx=>ksk_l1 _ _) (λx=>ksk_t1 _ x) (sp:=λx H Q=>tb [some x,some yv] H Q) ?_ I2 (by rw[zao (zdb eh hT (by intro z;cases z))];exact eh) (hmx c' hcn hcP)) λu s5 ⟨v,H5,I5,r5,q5⟩=>⟨v,H5,I5.pins_of λp hp=>I5.pin p (List.mem_append_right _ (.tail _ hp)),r5,q5⟩
   intro pins4 s4 H4 Q4 x4 u4 I4 hin rx4 h4
   obtain⟨m4,hns4,hloc4⟩:=I4.loc
   obtain⟨uy4,ry4,hlook4⟩:=hloc4 i y yv hN hσ (.inr (.inl hy))
   have hlk4:∃c,X.env.cells.lookup y=some c/\s4.heap.IsCell c (some uy4):=by
    rcases hlook4 with⟨z,_⟩ | ⟨_,z⟩
    ·have z':X.env.scope.names.lookup y=some .local:=z
     rw[hy]at z';cases z'
    ·exact z
   obtain⟨c4,hcy4,hcc4⟩:=hlk4
   rw[hcy]at hcy4;cases hcy4
   have hfr:X.A.in1.in1.frames=some X.stack:=I4.ok.frames
   refine zp2 (x:=x) (y:=y) I4 (hin _ (.head _)) (hin _ (.tail _ (.head _))) hd hv hfr hr.hd ?_ hk hco hgen ?_ lx ly lo (hb _ _ _ _ _) hcy hcc4 ry4 rx4 (PEb _ _ _ _ _) h4
   ·exact(Room.in1 (k:=0) (Room.in1 (k:=1) (hr.mono hk2))).depth
   ·intro z hz
    rw[hsc]at hz
    simp at hz
    rcases hz with rfl | rfl | rfl <;> simp
end
end L2
namespace L2
open PySem PySem.Spec PyProof.Rows MeetsSeq3
open AutoSeq1 (wpAny_loadPart')
section
variable{prog:Program}{w:World}
set_option maxHeartbeats 4000000 in
theorem zjs(l b:Addr)(xs ys:Array Value)(n n2:Nat)(neg:Bool)(hsz:xs.size=ys.size)(e:Nat->Bool)(k:Nat) :
  ∀(i:Nat),xs.size - i=k->MeetsIn prog w (Builtin.«list.__eq__.loop» ⟨[.ref l,.ref b,rawInt i,rawInt (if neg then 3 else 2)],[]⟩)
   (λA R s=>s.heap.get? l=some { cls := .type "list",data := .seq xs n }/\s.heap.get? b=some { cls := .type "list",data := .seq ys n2 } /\
    (∀j (h1:j < xs.size) (h2:j < ys.size) (E:Value->Shared->Prop) (Q:Bool->Shared->Prop),Q (e j) s->wpAny (model prog w) A.in1 (eqBool xs[j] ys[j]) Q E s) /\
    R (.ok (.ret (.bool (xor neg (((List.range xs.size).drop i).all e))))) s):=by
 induction k with
 | zero=>
  rintro i hk A R ⟨hp,g,d,tk,os⟩ ⟨hl,hb,he,h⟩
  cases neg <;>
  ·wp_walk using wpAny_loadPart' hl,wpAny_loadPart' hb
   have i1:xs[((i:Nat):Int).toNat]? = none:=by simp;omega
   have i2:ys[((i:Nat):Int).toNat]? = none:=by simp;omega
   have hd:(List.range xs.size).drop i=[]:=by simp;omega
   rw[hd]at h;rw[i1,i2]
   wp_walk using wpAny_loadPart' hl,wpAny_loadPart' hb
   first
    | (show R (.ok (.ret (.bool (xs.size == ys.size)))) _;rw[hsz];simpa using h)
    | (show R (.ok (.ret (.bool (xs.size != ys.size)))) _;rw[hsz];simpa using h)
 | succ k ih=>
  rintro i hk A R ⟨hp,g,d,tk,os⟩ ⟨hl,hb,he,h⟩
  have l1:i < xs.size:=by omega
  have l2:i < ys.size:=by omega
  have i1:xs[((i:Nat):Int).toNat]? = some xs[i]:=by simp[l1]
  have i2:ys[((i:Nat):Int).toNat]? = some ys[i]:=by simp[l2]
  have hd:(List.range xs.size).drop i=i :: (List.range xs.size).drop (i + 1):=by simp[List.drop_eq_getElem_cons,l1]
  have hc:((i:Int) + 1)=((i + 1:Nat):Int):=by push_cast;rfl
  have ih:=ih (i + 1) (by omega)
  rw[hd,List.all_cons]at h
  cases neg <;>
  ·wp_walk using wpAny_loadPart' hl,wpAny_loadPart' hb
   rw[i1,i2]
   refine wpAny_bind (he i l1 l2 _ _ ?_)
   cases hb':e i with
   | true=>
    rw[hb']at h
    wp_walk
    rw[hc]
    exact⟨plainId_quiet plain_eq_loop _,codeAny_builtin entry_eq_loop (by
     rw[Around.under_plainId plain_eq_loop _];exact ih A R _ ⟨hl,hb,he,by simpa using h⟩)⟩
   | false=>
    rw[hb']at h
    wp_walk using wpAny_loadPart' hl,wpAny_loadPart' hb
    rw[i1,i2]
    wp_walk
    simpa using h
set_option maxHeartbeats 4000000 in
theorem zn7(l b:Addr)(xs ys:Array Value)(n n2:Nat)(neg:Bool)(e:Nat->Bool) :
  MeetsIn prog w ((if neg then Builtin.«list.__ne__» else Builtin.«list.__eq__») ⟨[.ref l,.ref b],[]⟩)
   (λA R s=>s.heap.get? l=some { cls := .type "list",data := .seq xs n }/\s.heap.get? b=some { cls := .type "list",data := .seq ys n2 } /\
    (∀j (h1:j < xs.size) (h2:j < ys.size) (E:Value->Shared->Prop) (Q:Bool->Shared->Prop),Q (e j) s->wpAny (model prog w) A.in1 (eqBool xs[j] ys[j]) Q E s) /\
    R (.ok (.ret (.bool (xor neg (decide (xs.size=ys.size) && (List.range xs.size).all e))))) s):=by
 rintro A R ⟨hp,g,d,tk,os⟩ ⟨hl,hb,he,h⟩
 have f3:=AutoSeq1.sub_list_list
 by_cases hz:xs.size=ys.size
 ·have hne:¬(xs.size != ys.size)=true:=by simp[hz]
  rw[decide_eq_true hz,Bool.true_and]at h
  cases neg
  ·simp only[Bool.false_eq_true,if_false]
   wp_walk using wpAny_loadPart' hl,wpAny_loadPart' hb
   exact⟨plainId_quiet plain_eq_loop _,codeAny_builtin entry_eq_loop (by
    rw[Around.under_plainId plain_eq_loop _];exact zjs l b xs ys n n2 false hz e _ 0 rfl A R _ ⟨hl,hb,he,by simpa using h⟩)⟩
  ·simp only[if_true]
   wp_walk using wpAny_loadPart' hl,wpAny_loadPart' hb
   exact⟨plainId_quiet plain_eq_loop _,codeAny_builtin entry_eq_loop (by
    rw[Around.under_plainId plain_eq_loop _];exact zjs l b xs ys n n2 true hz e _ 0 rfl A R _ ⟨hl,hb,he,by simpa using h⟩)⟩
 ·have hne:(xs.size != ys.size)=true:=by simp[hz]
  rw[decide_eq_false hz,Bool.false_and]at h
  cases neg
  ·simp only[Bool.false_eq_true,if_false]
   wp_walk using wpAny_loadPart' hl,wpAny_loadPart' hb
   have q:(CmpOp.Eq == CmpOp.NotEq)=false:=by decide
   rw[q];simpa using h
  ·simp only[if_true]
   wp_walk using wpAny_loadPart' hl,wpAny_loadPart' hb
   simpa using h
end
section
variable{X:Cx}{pins:List (Addr×Obj)}{σ : St}{H:Hp}{s:Shared}
def DEq(K:W.Frag)(H:Hp)(a b:Addr)(c:Bool):Prop:=∃(ka kb:List (List Key×V)) (da db:List (List Key×PyData)),Rd H a (.dT ka)/\Rd H b (.dT kb)/\KDs K H ka da/\KDs K H kb db/\Flats da/\Flats db/\eqKD da db=c/\(a=b->c=true)
theorem zlj{a b:Addr}{c:Bool}{A:Around}{E:Value->Shared->Prop}{Q:Bool->Shared->Prop}(hu:A.units + 64 < cLine)(I:Inv X pins σ H s)(h:DEq X.K H a b c)(q:Q c s):wpAny (model X.prog X.w) A (eqBool (.ref a) (.ref b)) Q E s:=by
 obtain⟨ka,kb,da,db,ha,hb,qa,qb,fa,fb,e,e0⟩:=h
 obtain⟨_,sa,xs,ta,ea⟩:=zg7 I.hok ha
 obtain⟨_,sb,ys,tb,eb⟩:=zg7 I.hok hb
 have lx:xs.length=da.length:=(Paired.length ta).symm.trans (Paired.length qa)
 have ly:ys.length=db.length:=(Paired.length tb).symm.trans (Paired.length qb)
 unfold eqBool
 try with_reducible refine wpAny_holding ?_
 show wpAny _ _ (if (Value.ref a == Value.ref b)=true then _ else _) Q E s
 by_cases hab:(Value.ref a == Value.ref b)=true
 ·rw[if_pos hab]
  have:=e0 (Value.ref.inj (beq_iff_eq.mp hab))
  subst this
  exact wpAny_bind (wpAny_rule (wpAny_pure q))
 ·rw[if_neg hab]
  refine wpAny_bind (zjq (knd:=tupleKind (mixKind X.prog X.w)) (tupleKind_room_in1 (by omega)) (by omega) sa sb ea eb (λ_=>zf8 (by show A.units + 1 + 61 < cLine;omega) I tb qb fb ta qa fa) ?_)
  refine wpAny_truthy_bool ?_
  rw[lx,ly]
  show Q (eqKD da db) s
  rw[e];exact q
def rEqLD(K:W.Frag)(neg:Bool):R2:=λx y H Q=>∃(l b:Addr) (as bs:List Addr) (e:Nat->Bool),x = .ref l/\y = .ref b/\H l=some (.lst (as.map V.ref))/\H b=some (.lst (bs.map V.ref)) /\
 (∀(i:Nat) (p q:Addr),as[i]? = some p->bs[i]? = some q->DEq K H p q (e i))/\Q (.bl (xor neg (decide (as.length=bs.length) && (List.range as.length).all e))) H
theorem zfd:∀{as:List Addr} {us:List Value},Vals (as.map V.ref) us->us=as.map Value.ref
 | [],_,.nil=>rfl
 | a :: as,_,.cons r t=>by cases (show _=Value.ref a from r);rw[zfd t];rfl
theorem zi8{l b:Addr}{as bs:List Addr}{e:Nat->Bool}{neg:Bool}{Q:VK}(hu:X.A.units + 70 < cLine)(I:Inv X pins σ H s)(hl:H l=some (.lst (as.map V.ref)))(hb:H b=some (.lst (bs.map V.ref)))
  (he:∀(i:Nat) (p q:Addr),as[i]? = some p->bs[i]? = some q->DEq X.K H p q (e i)) (q:Q (.bl (xor neg (decide (as.length=bs.length) && (List.range as.length).all e))) H) :
  wpAny (model X.prog X.w) X.A (compareOp (if neg then .NotEq else .Eq) (.ref l) (.ref b)) (EP X pins σ Q) X.xe s:=by
 obtain⟨vs,n,hV,h1,hz⟩:=I.lst hl
 obtain⟨vs2,n2,hV2,h2,hz2⟩:=I.lst hb
 have e1:=zfd hV
 have e2:=zfd hV2
 subst e1 e2
 have T1:s.TypeIs (.ref l) "list":=⟨_,h1,rfl⟩
 have T2:s.TypeIs (.ref b) "list":=⟨_,h2,rfl⟩
 have body:=zn7 (prog:=X.prog) (w:=X.w) l b (as.map Value.ref).toArray (bs.map Value.ref).toArray n n2 neg e
 have sz:∀(z:List Addr),(z.map Value.ref).toArray.size=z.length:=λz=>by simp
 have inn:∀(R:Result->Shared->Prop),R (.ok (.ret (.bool (xor neg (decide (as.length=bs.length) && (List.range as.length).all e))))) s->(fun(A:Around) (R:Result->Shared->Prop) (s:Shared)=>s.heap.get? l=some { cls := .type "list",data := .seq (as.map Value.ref).toArray n }/\s.heap.get? b=some { cls := .type "list",data := .seq (bs.map Value.ref).toArray n2 } /\
    (∀j (h1:j < (as.map Value.ref).toArray.size) (h2:j < (bs.map Value.ref).toArray.size) (E:Value->Shared->Prop) (Q:Bool->Shared->Prop),Q (e j) s->wpAny (model X.prog X.w) A.in1 (eqBool (as.map Value.ref).toArray[j] (bs.map Value.ref).toArray[j]) Q E s) /\
    R (.ok (.ret (.bool (xor neg (decide ((as.map Value.ref).toArray.size=(bs.map Value.ref).toArray.size) && (List.range (as.map Value.ref).toArray.size).all e))))) s) X.A R s:=λR hR=>by
  refine⟨h1,h2,λj j1 j2 E' Q' hq => ?_,by rw[sz,sz];exact hR⟩
  rw[sz]at j1 j2
  have a1:(as.map Value.ref).toArray[j]'(by rw[sz];exact j1) = .ref as[j]:=by simp
  have a2:(bs.map Value.ref).toArray[j]'(by rw[sz];exact j2) = .ref bs[j]:=by simp
  rw[a1,a2]
  exact zlj (by show X.A.units + 1 + 64 < cLine;omega) I (he j _ _ (List.getElem?_eq_getElem j1) (List.getElem?_eq_getElem j2)) hq
 cases neg
 ·refine wpAny_richCompare_same_room (op := .Eq) T1 T2 PySem.F.slot_list_eq (call_meetsIn PySem.F.slot_list_eq T1 PySem.F.entry_list_eq (PySem.F.args_list_eq_2 _ _) body (inn _ ?_)) (by omega)
  exact⟨(λz=>nomatch z),.bl _,H,I,rfl,q⟩
 ·refine wpAny_richCompare_same_room (op := .NotEq) T1 T2 PySem.F.slot_list_ne (call_meetsIn PySem.F.slot_list_ne T1 PySem.F.entry_list_ne (PySem.F.args_list_ne_2 _ _) body (inn _ ?_)) (by omega)
  exact⟨(λz=>nomatch z),.bl _,H,I,rfl,q⟩
theorem zpe{K:W.Frag}(hK:X.K=K)(hu:X.A.units + 70 < cLine):OpR X (compareOp .Eq) (rEqLD K false):=by
 subst hK
 intro pins s σ H x y u v Q I rx ry h
 obtain⟨l,b,as,bs,e,rfl,rfl,hl,hb,he,q⟩:=h
 cases rx;cases ry
 exact zi8 (neg:=false) hu I hl hb he q
theorem zpk{K:W.Frag}(hK:X.K=K)(hu:X.A.units + 70 < cLine):OpR X (compareOp .NotEq) (rEqLD K true):=by
 subst hK
 intro pins s σ H x y u v Q I rx ry h
 obtain⟨l,b,as,bs,e,rfl,rfl,hl,hb,he,q⟩:=h
 cases rx;cases ry
 exact zi8 (neg:=true) hu I hl hb he q
end
end L2
namespace K1
def gI(a b:Int):Int:=((Int.gcd a b:Nat):Int)
theorem zou{a b:Int}(h:b≠0):0 < gI a b:=by
 have:0 < Int.gcd a b:=Int.gcd_pos_of_ne_zero_right a h
 unfold gI;omega
theorem zp4(a:Int)(h:0<=a):gI a 0=a:=by unfold gI;rw[Int.gcd_zero_right];omega
/-- one turn of the loop -/
theorem zqw{a b:Int}(ha:0<=a)(hb:0 < b):gI b (Int.fmod a b)=gI a b:=by
 unfold gI
 congr 1
 rw[Int.fmod_eq_emod_of_nonneg a (Int.le_of_lt hb)]
 show Nat.gcd b.natAbs (a % b).natAbs=Nat.gcd a.natAbs b.natAbs
 have e:(a % b).natAbs=a.natAbs % b.natAbs:=by
  have h1:a=(a.natAbs:Int):=by omega
  have h2:b=(b.natAbs:Int):=by omega
  conv=>lhs;rw[h1,h2]
  rw[<- Int.natCast_emod]
  exact Int.natAbs_natCast _
 rw[e,Nat.gcd_comm a.natAbs,Nat.gcd_rec b.natAbs a.natAbs,Nat.gcd_comm]
structure Gc(a0 b0 a b:Int):Prop where
 is:gI a b=gI a0 b0
theorem start{a b:Int}(ha:0<=a)(hb:0<=b):0<=a/\0<=b/\Gc a b a b:=⟨ha,hb,⟨rfl⟩⟩
theorem turn{a0 b0 a b:Int}(h:Gc a0 b0 a b)(ha:0<=a)(hb:0 < b):0<=b/\0<=Int.fmod a b/\Gc a0 b0 b (Int.fmod a b):=
 ⟨by omega,Int.fmod_nonneg_of_pos a hb,⟨(zqw ha hb).trans h.is⟩⟩
theorem less{a b:Int}(hb:0 < b):(Int.fmod a b).toNat < b.toNat:=by
 have:=Int.fmod_lt_of_pos a hb
 have:=Int.fmod_nonneg_of_pos a hb
 omega
theorem out{a0 b0 a b:Int}(h:Gc a0 b0 a b)(ha:0<=a)(hb:b=0):a=gI a0 b0:=by
 rw[<- h.is,hb,zp4 a ha]
/-- abs -/
theorem zrf(a b:Int):gI (if a < 0 then -a else a) (if b < 0 then -b else b)=gI a b:=by
 unfold gI
 congr 1
 have h (x:Int):(if x < 0 then -x else x).natAbs=x.natAbs:=by split <;> omega
 show Nat.gcd _ _=Nat.gcd _ _
 rw[h,h]
end K1
namespace K1
/-- by what top and bottom are divided,with the bottom's sign -/
def dv(t b:Int):Int:=if b < 0 then -(gI t b) else gI t b
def fT(t b:Int):Int:=t.fdiv (dv t b)
def fB(t b:Int):Int:=b.fdiv (dv t b)
end K1
namespace K1
def ab(a:Int):Int:=if a < 0 then -a else a
end K1
namespace K3
structure NoDiv(n d:Int):Prop where
 is:∀e:Int,2<=e->e < d->Int.fmod n e≠0
def Pr(n:Int):Prop:=2<=n/\∀e:Int,2<=e->e * e<=n->Int.fmod n e≠0
noncomputable def isP(n:Int):Bool := @decide (Pr n) (Classical.propDecidable _)
theorem zq7{n:Int}(h:Pr n):isP n=true := @decide_eq_true _ (Classical.propDecidable _) h
theorem zqi{n:Int}(h:¬Pr n):isP n=false := @decide_eq_false _ (Classical.propDecidable _) h
theorem small{d n:Int}(_h2:2<=d)(h:d * d<=n)(hn:n<=9973):d<=99:=by
 rcases(by omega:d<=99\/100<=d) with e | e
 ·exact e
 ·have:=Int.mul_le_mul e e (by decide) (by omega)
  omega
theorem start(n:Int):(2:Int)<=2/\(2:Int)<=101/\NoDiv n 2:=⟨by decide,by decide,⟨λe h1 h2=>by omega⟩⟩
theorem turn{n d:Int}(h:NoDiv n d)(hm:¬Int.fmod n d=0)(h2:2<=d)(hq:d * d<=n)(hn:n<=9973):2<=d + 1/\d + 1<=101/\NoDiv n (d + 1):=by
 have s:=small h2 hq hn
 refine⟨by omega,by omega,⟨λe h1 h3 => ?_⟩⟩
 rcases(by omega:e < d\/e=d) with q | q
 ·exact h.is e h1 q
 ·rw[q];exact hm
theorem less{n d:Int}(h2:2<=d)(hq:d * d<=n)(hn:n<=9973):(200 - (d + 1)).toNat < (200 - d).toNat:=by
 have s:=small h2 hq hn
 omega
theorem low{n:Int}(h:n < 2):false=isP n:=by
 exact(zqi λh'=>by have:=h'.1;omega).symm
theorem out{n d:Int}(h:NoDiv n d)(hn:2<=n)(h2:2<=d)(hq:¬d * d<=n):true=isP n:=by
 refine(zq7 ?_).symm
 refine⟨hn,λe h1 h3=>h.is e h1 ?_⟩
 rcases(by omega:e < d\/d<=e) with q | q
 ·exact q
 ·have:=Int.mul_le_mul q q (by omega) (by omega)
  omega
theorem found{n d:Int}(h2:2<=d)(hq:d * d<=n)(hm:Int.fmod n d=0):false=isP n:=by
 exact(zqi λh'=>h'.2 d h2 hq hm).symm
end K3
namespace K2
/-- the next prime -/
structure Up(n0 n:Int):Prop where
 le:n<=9973
/-- the number turned over: the loop's word -/
structure Tn(p a found left:Int):Prop where
 f0:0<=found
 f1:found < p
 l0:1<=left
 l1:left < p
 eq:(found * a - left) % p=0
end K2
namespace K2
end K2
namespace K6
open HT (lexLt)
/-! ### the order of tuples -/
theorem zfp:∀x:List Int,lexLt x x=false
 | []=>rfl
 | a :: x=>by rw[HT.lexLt_cons,if_pos rfl];exact zfp x
theorem zj6:∀{x y z:List Int},lexLt x y=true->lexLt y z=true->lexLt x z=true
 | [],[],_,h,_=>by cases h
 | [],_ :: _,[],_,h=>by cases h
 | [],_ :: _,_ :: _,_,_=>rfl
 | _ :: _,[],_,h,_=>by cases h
 | _ :: _,_ :: _,[],_,h=>by cases h
 | a :: x,b :: y,c :: z,h1,h2=>by
  rw[HT.lexLt_cons]at h1 h2 ⊢
  by_cases e1:a=b
  ·rw[if_pos e1]at h1
   by_cases e2:b=c
   ·rw[if_pos e2]at h2
    rw[if_pos (e1.trans e2)]
    exact zj6 h1 h2
   ·rw[if_neg e2]at h2
    rw[if_neg (by omega),e1]
    exact h2
  ·rw[if_neg e1]at h1
   have l1:a < b:=of_decide_eq_true h1
   by_cases e2:b=c
   ·rw[if_pos e2]at h2
    rw[if_neg (by omega)]
    exact decide_eq_true (by omega)
   ·rw[if_neg e2]at h2
    have l2:b < c:=of_decide_eq_true h2
    rw[if_neg (by omega)]
    exact decide_eq_true (by omega)
theorem zfu:∀{x y:List Int},x≠y->lexLt x y = !lexLt y x
 | [],[],h=>absurd rfl h
 | [],_ :: _,_=>rfl
 | _ :: _,[],_=>rfl
 | a :: x,b :: y,h=>by
  rw[HT.lexLt_cons,HT.lexLt_cons]
  by_cases e:a=b
  ·rw[if_pos e,if_pos e.symm]
   exact zfu λz=>h (by rw[e,z])
  ·rw[if_neg e,if_neg (Ne.symm e)]
   by_cases l:a < b
   ·rw[decide_eq_true l,decide_eq_false (by omega)];rfl
   ·rw[decide_eq_false l,decide_eq_true (by omega)];rfl
theorem zq0{x y:List Int}(h:lexLt x y=true):lexLt y x=false:=by
 by_cases e:x=y
 ·rw[e,zfp]at h;cases h
 ·have:=zfu e
  rw[h]at this
  cases q:lexLt y x with
  | true=>rw[q]at this;cases this
  | false=>rfl
abbrev vadd(x y:List Int):List Int:=List.zipWith (λa b=>a + b) x y
/-! ### the ranks -/
def rkL(t:List Int):List Int:=t
def rkD(t:List Int):List Int:=t.sum :: t
def rkT(t:List Int):List Int:=t.sum :: t.reverse.map λx => -x
def wsum(ws t:List Int):Int:=(List.zipWith (λa b=>a * b) t ws).sum
def rkW(ws t:List Int):List Int:=wsum ws t :: t
def zer(n:Nat):List Int:=List.replicate n 0
def Nn(t:List Int):Prop:=∀x∈t,0<=x
theorem zit:∀{a c:List Int},a.length=c.length->(vadd a c).sum=a.sum + c.sum
 | [],[],_=>rfl
 | _ :: _,[],h=>by simp at h
 | [],_ :: _,h=>by simp at h
 | x :: a,y :: c,h=>by
  have ih:=zit (a:=a) (c:=c) (by simpa using h)
  simp only[vadd,List.zipWith_cons_cons,List.sum_cons]at ih ⊢
  omega
theorem zjo:∀{ws a c:List Int},a.length=c.length->wsum ws (vadd a c)=wsum ws a + wsum ws c
 | _,[],[],_=>by simp[wsum,vadd]
 | _,_ :: _,[],h=>by simp at h
 | _,[],_ :: _,h=>by simp at h
 | [],x :: a,y :: c,h=>by simp[wsum,vadd]
 | w :: ws,x :: a,y :: c,h=>by
  have ih:=zjo (ws:=ws) (a:=a) (c:=c) (by simpa using h)
  simp only[wsum,vadd,List.zipWith_cons_cons,List.sum_cons]at ih ⊢
  rw[ih,Int.add_mul];omega
theorem zmd:∀{a c:List Int},(vadd a c).map (λx => -x)=vadd (a.map λx => -x) (c.map λx => -x)
 | [],_=>by simp[vadd]
 | _ :: _,[]=>by simp[vadd]
 | x :: a,y :: c=>by
  have ih:=zmd (a:=a) (c:=c)
  simp only[vadd,List.zipWith_cons_cons,List.map_cons]at ih ⊢
  rw[ih];congr 1;omega
/-- what the law asks of a rank,for terms of n powers -/
structure OrdM(rk:List Int->List Int)(n:Nat):Prop where
 add:∀a c:List Int,a.length=n->c.length=n->rk (vadd a c)=vadd (rk a) (rk c)
 inj:∀a b:List Int,a.length=n->b.length=n->rk a=rk b->a=b
 len:∀a b:List Int,a.length=n->b.length=n->(rk a).length=(rk b).length
 pos:∀a:List Int,a.length=n->Nn a->a≠zer n->lexLt (rk (zer n)) (rk a)=true
theorem zjg:∀{a:List Int},Nn a->0<=a.sum
 | [],_=>Int.le_refl 0
 | x :: a,h=>by
  have h1:=h x (.head _)
  have h2:=zjg (a:=a) λy hy=>h y (.tail _ hy)
  rw[List.sum_cons];omega
theorem zh8:∀n:Nat,(zer n).sum=0
 | 0=>rfl
 | n + 1=>by
  show ((0:Int) :: zer n).sum=0
  rw[List.sum_cons,zh8 n];rfl
theorem zik:∀{a:List Int},Nn a->a≠zer a.length->0 < a.sum
 | [],_,h=>absurd rfl h
 | x :: a,h,hne=>by
  have h1:=h x (.head _)
  have hn:Nn a:=λy hy=>h y (.tail _ hy)
  have h2:=zjg hn
  rw[List.sum_cons]
  by_cases e:x=0
  ·have:=zik (a:=a) hn λz=>hne (by
    show x :: a=0 :: zer a.length
    rw[e,<- z])
   omega
  ·omega
theorem zic:∀{a:List Int},Nn a->a≠zer a.length->lexLt (zer a.length) a=true
 | [],_,h=>absurd rfl h
 | x :: a,h,hne=>by
  have h1:=h x (.head _)
  show lexLt (0 :: zer a.length) (x :: a)=true
  rw[HT.lexLt_cons]
  by_cases e:0=x
  ·rw[if_pos e]
   exact zic (λy hy=>h y (.tail _ hy)) λz=>hne (by
    show x :: a=0 :: zer a.length
    rw[<- e,<- z])
  ·rw[if_neg e];exact decide_eq_true (by omega)
theorem ordL(n:Nat):OrdM rkL n:=⟨λ_ _ _ _=>rfl,λ_ _ _ _ h=>h,λ_ _ h1 h2=>h1.trans h2.symm,λa h1 h2 h3=>by subst h1;exact zic h2 h3⟩
theorem ordD(n:Nat):OrdM rkD n:=by
 refine⟨λa c h1 h2 => ?_,λa b _ _ h => ?_,λa b h1 h2 => ?_,λa h1 h2 h3 => ?_⟩
 ·show (vadd a c).sum :: vadd a c=(a.sum + c.sum) :: vadd a c
  rw[zit (h1.trans h2.symm)]
 ·injection h
 ·show (a.length + 1)=b.length + 1
  rw[h1,h2]
 ·subst h1
  show lexLt ((zer a.length).sum :: _) (a.sum :: _)=true
  rw[HT.lexLt_cons,zh8]
  have:=zik h2 h3
  rw[if_neg (by omega)]
  exact decide_eq_true this
theorem ordT(n:Nat):OrdM rkT n:=by
 refine⟨λa c h1 h2 => ?_,λa b _ _ h => ?_,λa b h1 h2 => ?_,λa h1 h2 h3 => ?_⟩
 ·show (vadd a c).sum :: ((vadd a c).reverse.map λx => -x)=(a.sum + c.sum) :: vadd (a.reverse.map λx => -x) (c.reverse.map λx => -x)
  rw[zit (h1.trans h2.symm),<- zmd]
  congr 2
  exact List.reverse_zipWith (h1.trans h2.symm)
 ·have h':a.reverse.map (λx => -x)=b.reverse.map (λx => -x):=by injection h
  have e:∀l:List Int,(l.map λx => -x).map (λx => -x)=l:=λl=>by
   rw[List.map_map]
   conv=>rhs;rw[<- List.map_id l]
   refine List.map_congr_left λx _ => ?_
   show - -x=x
   omega
  have h2:=congrArg (List.map λx => -x) h'
  rw[e,e]at h2
  exact List.reverse_inj.mp h2
 ·simp[rkT,h1,h2]
 ·subst h1
  show lexLt ((zer a.length).sum :: _) (a.sum :: _)=true
  rw[HT.lexLt_cons,zh8]
  have:=zik h2 h3
  rw[if_neg (by omega)]
  exact decide_eq_true this
theorem zk7:∀{ws a:List Int},Nn ws->Nn a->0<=wsum ws a
 | _,[],_,_=>by simp[wsum]
 | [],_ :: _,_,_=>by simp[wsum]
 | w :: ws,x :: a,h1,h2=>by
  have ih:=zk7 (ws:=ws) (a:=a) (λy hy=>h1 y (.tail _ hy)) λy hy=>h2 y (.tail _ hy)
  have:=Int.mul_nonneg (h2 x (.head _)) (h1 w (.head _))
  simp only[wsum,List.zipWith_cons_cons,List.sum_cons]at ih ⊢
  omega
theorem ziz:∀(ws:List Int) (n:Nat),wsum ws (zer n)=0
 | _,0=>by simp[wsum,zer]
 | [],n + 1=>by simp[wsum]
 | w :: ws,n + 1=>by
  have ih:=ziz ws n
  show (0 * w :: List.zipWith (λa b=>a * b) (zer n) ws).sum=0
  rw[List.sum_cons]
  unfold wsum at ih
  rw[ih];simp
theorem ordW{ws:List Int}(hw:Nn ws)(n:Nat):OrdM (rkW ws) n:=by
 refine⟨λa c h1 h2 => ?_,λa b _ _ h => ?_,λa b h1 h2 => ?_,λa h1 h2 h3 => ?_⟩
 ·show wsum ws (vadd a c) :: vadd a c=(wsum ws a + wsum ws c) :: vadd a c
  rw[zjo (h1.trans h2.symm)]
 ·injection h
 ·show (a.length + 1)=b.length + 1
  rw[h1,h2]
 ·subst h1
  show lexLt (wsum ws (zer a.length) :: zer a.length) (wsum ws a :: a)=true
  rw[HT.lexLt_cons,ziz]
  have:=zk7 hw h2
  by_cases e:0=wsum ws a
  ·rw[if_pos e];exact zic h2 h3
  ·rw[if_neg e];exact decide_eq_true (by omega)
/-! ### unknowns taken out -/
/-- of the first k some is not nought in l,all are nought in r -/
structure Out(k:Nat)(l r:List Int):Prop where
 len:l.length=r.length
 nl:Nn l
 nz:∃i,i < k/\i < l.length/\l.getD i 0≠0
 zr:∀i,i < k->r.getD i 0=0
/-- one power alone -/
def only(n at_:Nat)(p:Int):List Int:=(List.range n).map λi=>if i=at_ then p else 0
theorem only_len(n a:Nat)(p:Int):(only n a p).length=n:=by simp[only]
theorem only_get(n a:Nat)(p:Int)(i:Nat):(only n a p).getD i 0=if i < n/\i=a then p else 0:=by
 unfold only
 rw[List.getD_eq_getElem?_getD,List.getElem?_map]
 by_cases h:i < n
 ·rw[List.getElem?_range h]
  by_cases e:i=a
  ·subst e;simp[h]
  ·simp[e]
 ·rw[List.getElem?_eq_none (by simpa using h)];simp[h]
end K6
namespace K6
open L2 PySem
/-- what stands in the order of a mapped list is the map of a like list -/
theorem ze1{α β : Type}(f : α->β):∀{l m:List β},l.Perm m->∀m':List α,m=m'.map f->∃l':List α,l'.Perm m'/\l=l'.map f:=by
 intro l m h
 induction h with
 | nil=>intro m' e;exact⟨[],(by cases m' with | nil=>exact .nil | cons=>simp at e),rfl⟩
 | cons x _ ih=>
  intro m' e
  cases m' with
  | nil=>simp at e
  | cons y m'=>
   rw[List.map_cons]at e
   injection e with e1 e2
   obtain⟨l',p,q⟩:=ih m' e2
   exact⟨y :: l',p.cons y,by rw[q,e1];rfl⟩
 | swap x y l=>
  intro m' e
  cases m' with
  | nil=>simp at e
  | cons a m'=>
   cases m' with
   | nil=>simp at e
   | cons b m'=>
    simp only[List.map_cons]at e
    injection e with e1 e2
    injection e2 with e2 e3
    exact⟨b :: a :: m',List.Perm.swap a b m',by rw[e1,e2,e3];rfl⟩
 | trans _ _ ih1 ih2=>
  intro m' e
  obtain⟨l2,p2,q2⟩:=ih2 m' e
  obtain⟨l1,p1,q1⟩:=ih1 l2 q2
  exact⟨l1,p1.trans p2,q1⟩
theorem zfm{α β γ : Type}(f : α->γ):∀(xs:List α) (ys:List β),(xs.map f).zip ys=(xs.zip ys).map λp=>(f p.1,p.2)
 | [],_=>by simp
 | _ :: _,[]=>by simp
 | x :: xs,y :: ys=>by simp[zfm f xs ys]
/-- a term at v -/
def Trm(H:Hp)(xs:List Int)(v:V):Prop:=∃r,v = .ref r/\H r=some (.tup (xs.map V.int))
theorem Trm.same{H H':Hp}{xs:List Int}{v:V}(e:Same H H')(h:Trm H xs v):Trm H' xs v:=let ⟨r,a,b⟩:=h;⟨r,a,e _ _ b⟩
theorem pimp{α : Type}{R S : α->V->Prop}(h:∀a v,R a v->S a v):∀{l:List α} {ys:List V},Paired R l ys->Paired S l ys
 | _,_,.nil => .nil
 | _,_,.cons r t => .cons (h _ _ r) (pimp h t)
theorem psnoc{α : Type}{R : α->V->Prop}{a : α}{v:V}(r:R a v):∀{l:List α} {ys:List V},Paired R l ys->Paired R (l ++ [a]) (ys ++ [v])
 | _,_,.nil => .cons r .nil
 | _,_,.cons q t => .cons q (psnoc r t)
/-- of n powers -/
structure Tm(n:Nat)(xs:List Int):Prop where
 len:xs.length=n
 nn:Nn xs
 b:∀x∈xs,x < 10 ^ 31
end K6
namespace K6
open L2 PySem
/-- a term as a key -/
def ky(xs:List Int):List Key:=xs.map Sum.inl
theorem zn2(xs:List Int):(ky xs).map kV=xs.map V.int:=by unfold ky;rw[List.map_map];rfl
/-- a number of a field,as data -/
structure NmD(d:PyData):Prop where
 lay:d.canLay0=true
 dep:d.depth<=60
theorem NmD.refl{d:PyData}(h:NmD d):PyData.eqv d d=true:=SeqAt.eqv_refl _ h.lay
theorem zk1(i:Int):NmD (.int i):=⟨rfl,by simp[PyData.depth]⟩
theorem zjv(i j:Int):NmD (.tuple [.int i,.int j]):=⟨rfl,by simp[PyData.depth,PyData.depthAll]⟩
mutual
theorem Rds.same{K:W.Frag}{H H':Hp}(e:Same H H'):∀{v:V} {d:PyData},Rds K H v d->Rds K H' v d
 | _,_,.non => .non
 | _,_,.bl b => .bl b
 | _,_,.int i => .int i
 | _,_,.str x => .str x
 | _,_,.tup h hs => .tup (e.seqT h) (RdsAll.same e hs)
 | _,_,.lst h hs => .lst (e.seq h) (RdsAll.same e hs)
theorem RdsAll.same{K:W.Frag}{H H':Hp}(e:Same H H'):∀{vs:List V} {ds:List PyData},RdsAll K H vs ds->RdsAll K H' vs ds
 | _,_,.nil => .nil
 | _,_,.cons h hs => .cons (Rds.same e h) (RdsAll.same e hs)
end
theorem zmy{K:W.Frag}{H:Hp}{d a:Addr}{kvs:List (List Key×V)}{o:HO}{xs:List V}(e:H d=some (.dT kvs))(h:SqT K H a xs):SqT K (upd H d o) a xs:=by
 rcases h with(h | ⟨q,h⟩) | h
 ·exact .inl (.inl (by rw[zao (zdb h e (by intro z;cases z))];exact h))
 ·exact .inl (.inr ⟨q,by rw[zao (zdb h e (by intro z;cases z))];exact h⟩)
 ·exact .inr h
theorem znm{K:W.Frag}{H:Hp}{d a:Addr}{kvs:List (List Key×V)}{o:HO}{xs:List V}(e:H d=some (.dT kvs))(h:SqL K H a xs):SqL K (upd H d o) a xs:=by
 rcases h with(h | ⟨q,h⟩) | h
 ·exact .inl (.inl (by rw[zao (zdb h e (by intro z;cases z))];exact h))
 ·exact .inl (.inr ⟨q,by rw[zao (zdb h e (by intro z;cases z))];exact h⟩)
 ·exact .inr h
mutual
theorem Rds.updD{K:W.Frag}{H:Hp}{d:Addr}{kvs:List (List Key×V)}{o:HO}(e:H d=some (.dT kvs)):∀{v:V} {z:PyData},Rds K H v z->Rds K (upd H d o) v z
 | _,_,.non => .non
 | _,_,.bl b => .bl b
 | _,_,.int i => .int i
 | _,_,.str x => .str x
 | _,_,.tup h hs => .tup (zmy e h) (RdsAll.updD e hs)
 | _,_,.lst h hs => .lst (znm e h) (RdsAll.updD e hs)
theorem RdsAll.updD{K:W.Frag}{H:Hp}{d:Addr}{kvs:List (List Key×V)}{o:HO}(e:H d=some (.dT kvs)):∀{vs:List V} {ds:List PyData},RdsAll K H vs ds->RdsAll K (upd H d o) vs ds
 | _,_,.nil => .nil
 | _,_,.cons h hs => .cons (Rds.updD e h) (RdsAll.updD e hs)
end
theorem zof{K:W.Frag}{H:Hp}{r:Addr}{i j:Int}(h:H r=some (.tup [.int i,.int j])):Rds K H (.ref r) (.tuple [.int i,.int j]) := .tup (SqT.of h) (.cons (.int i) (.cons (.int j) .nil))
end K6
namespace K37
open L2 PySem
/-! terms that go into others,the corner -/
def goesI(xs ys:List Int):Bool:=(List.range xs.length).all λi=>decide (xs.getD i 0<=ys.getD i 0)
theorem goesI_iff{xs ys:List Int}:goesI xs ys=true↔∀i,i < xs.length->xs.getD i 0<=ys.getD i 0:=by
 unfold goesI
 rw[List.all_eq_true]
 constructor
 ·intro h i hi;have:=h i (List.mem_range.mpr hi);simpa using this
 ·intro h i hi;have:=h i (List.mem_range.mp hi);simpa using this
def outT(hs:List (List Int))(t:List Int):Bool := !(hs.any λh=>goesI h t)
theorem outT_iff{hs:List (List Int)}{t:List Int}:outT hs t=true↔∀h∈hs,goesI h t=false:=by
 unfold outT
 rw[Bool.not_eq_true',List.any_eq_false]
 exact⟨λq h hh=>by simpa using q h hh,λq h hh=>by simpa using q h hh⟩
def aloneAt(h:List Int)(i:Nat):Bool:=decide (h.sum=h.getD i 0)
/-- a term of m powers -/
structure T0(m:Nat)(t:List Int):Prop where
 len:t.length=m
 nn:∀i,0<=t.getD i 0
theorem T0.mem{m:Nat}{t:List Int}(h:T0 m t):∀x∈t,0<=x:=λx hx=>by
 obtain⟨j,hj,rfl⟩:=List.mem_iff_getElem.mp hx
 have:=h.nn j
 simpa[List.getD,hj]using this
theorem T0.of{m:Nat}{t:List Int}(hl:t.length=m)(h:∀x∈t,0<=x):T0 m t:=⟨hl,λi=>by
 rcases Nat.lt_or_ge i t.length with c | c
 ·have:=h t[i] (List.getElem_mem c);simpa[List.getD,c]using this
 ·simp[List.getD,List.getElem?_eq_none c]⟩
def up1(t:List Int)(i:Nat):List Int:=(List.range t.length).map λj=>if j=i then t.getD j 0 + 1 else t.getD j 0
theorem zgo{t:List Int}{i:Nat}:(up1 t i).length=t.length:=by simp[up1]
theorem zjn{t:List Int}{i j:Nat}(hj:j < t.length):(up1 t i).getD j 0=if j=i then t.getD j 0 + 1 else t.getD j 0:=by
 simp[up1,List.getD,hj]
def dn1(t:List Int)(i:Nat):List Int:=(List.range t.length).map λj=>if j=i then t.getD j 0 - 1 else t.getD j 0
theorem zdt{t:List Int}{i:Nat}:(dn1 t i).length=t.length:=by simp[dn1]
theorem zlu{t:List Int}{i j:Nat}(hj:j < t.length):(dn1 t i).getD j 0=if j=i then t.getD j 0 - 1 else t.getD j 0:=by
 simp[dn1,List.getD,hj]
theorem zgz{a b:List Int}(hl:a.length=b.length)(h:∀i,i < a.length->a.getD i 0=b.getD i 0):a=b:=by
 refine List.ext_getElem hl λi h1 h2 => ?_
 have:=h i h1
 simpa[List.getD,h1,h2]using this
theorem zp6{t:List Int}{i:Nat}(_hi:i < t.length):up1 (dn1 t i) i=t:=by
 refine zgz (by rw[zgo,zdt]) λj hj => ?_
 rw[zgo,zdt]at hj
 rw[zjn (by rw[zdt];exact hj),zlu hj]
 split <;> omega
theorem zei(f:Nat->Int):∀n,((List.range (n + 1)).map f).sum=((List.range n).map f).sum + f n:=λn=>by
 rw[List.range_succ,List.map_append,List.sum_append];simp
theorem znl(t:List Int):t.sum=((List.range t.length).map λj=>t.getD j 0).sum:=by
 congr 1
 refine List.ext_getElem (by simp) λi h1 h2 => ?_
 simp[List.getD,h1]
theorem zoz{f:Nat->Int}{c:Int}{i:Nat}:∀n,((List.range n).map λj=>if j=i then f j + c else f j).sum=((List.range n).map f).sum + (if i < n then c else 0)
 | 0=>by simp
 | n + 1=>by
  rw[zei,zei,zoz n]
  by_cases c1:n=i
  ·subst c1;simp;omega
  ·rw[if_neg c1]
   by_cases c2:i < n
   ·rw[if_pos c2,if_pos (by omega)];omega
   ·rw[if_neg c2,if_neg (by omega)];omega
theorem zmh{t:List Int}{i:Nat}(hi:i < t.length):(up1 t i).sum=t.sum + 1:=by
 unfold up1
 rw[zoz (f:=λj=>t.getD j 0) t.length,if_pos hi,<- znl]
theorem zlf{t:List Int}{i:Nat}(hi:i < t.length):(dn1 t i).sum=t.sum - 1:=by
 have:=zmh (t:=dn1 t i) (i:=i) (by rw[zdt];exact hi)
 rw[zp6 hi]at this;omega
theorem zo3{m:Nat}{t:List Int}{i:Nat}(h:T0 m t):T0 m (up1 t i):=⟨by rw[zgo,h.len],λj=>by
 rcases Nat.lt_or_ge j t.length with c | c
 ·rw[zjn c];have:=h.nn j;split <;> omega
 ·simp[up1,List.getD,List.getElem?_eq_none,c]⟩
theorem zjg{m:Nat}{t:List Int}(h:T0 m t):0<=t.sum:=by
 have:∀l:List Int,(∀x∈l,0<=x)->0<=l.sum:=λl=>by
  induction l with
  | nil=>intro _;simp
  | cons x l ih=>intro h;rw[List.sum_cons];have:=h x (by simp);have:=ih λy hy=>h y (by simp[hy]);omega
 exact this t h.mem
theorem zo2{m:Nat}{t:List Int}(h:T0 m t)(i:Nat):t.getD i 0<=t.sum:=by
 have:∀(l:List Int) (i:Nat),(∀x∈l,0<=x)->l.getD i 0<=l.sum/\0<=l.sum:=λl=>by
  induction l with
  | nil=>intro i _;simp
  | cons x l ih=>
   intro i h
   have h0:=h x (by simp)
   have hr:∀y∈l,0<=y:=λy hy=>h y (by simp[hy])
   rw[List.sum_cons]
   cases i with
   | zero=>have:=ih 0 hr;simp;omega
   | succ i=>have:=ih i hr;simp only[List.getD_cons_succ];omega
 exact(this t i h.mem).1
theorem zqh{h t:List Int}{i:Nat}(hl:h.length=t.length)(g:goesI h t=true):goesI h (up1 t i)=true:=by
 rw[goesI_iff]at g ⊢
 intro j hj
 have:=g j hj
 rw[zjn (by omega)]
 split <;> omega
theorem zor{m:Nat}{hs:List (List Int)}{t:List Int}{i:Nat}(hl:∀h∈hs,h.length=m)(lt:t.length=m)(o:outT hs (up1 t i)=true):outT hs t=true:=by
 rw[outT_iff]at o ⊢
 intro h hh
 have:=o h hh
 cases q:goesI h t with
 | false=>rfl
 | true=>rw[zqh (by rw[hl h hh,lt]) q]at this;cases this
/-- the terms of degree n that no head goes into -/
structure Lev(m:Nat)(hs:List (List Int))(n:Nat)(l:List (List Int)):Prop where
 nd:l.Nodup
 mem:∀t,t∈l↔T0 m t/\t.sum=n/\outT hs t=true
structure Fnd(m:Nat)(hs:List (List Int))(n:Nat)(l:List (List Int)):Prop where
 nd:l.Nodup
 mem:∀t,t∈l↔T0 m t/\t.sum < n/\outT hs t=true
theorem zmt{m:Nat}{hs l us:List (List Int)}{n:Nat}(hl:∀h∈hs,h.length=m)(h:Lev m hs n l)(nu:us.Nodup)(hu:∀u,u∈us↔∃t∈l,∃i,i < m/\u=up1 t i):Lev m hs (n + 1) (us.filter (outT hs)):=by
 refine⟨nu.filter _,λu => ?_⟩
 rw[List.mem_filter,hu]
 constructor
 ·rintro⟨⟨t,ht,i,hi,rfl⟩,o⟩
  obtain⟨a,b,c⟩:=(h.mem t).mp ht
  exact⟨zo3 a,by rw[zmh (by rw[a.len];exact hi),b];omega,o⟩
 ·rintro⟨a,b,o⟩
  obtain⟨i,hi,pi⟩:∃i,i < m/\1<=u.getD i 0:=by
   refine Classical.byContradiction λz => ?_
   have all0:∀x∈u,x=0:=λx hx=>by
    obtain⟨j,hj,rfl⟩:=List.mem_iff_getElem.mp hx
    have h1:=a.nn j
    have h2:¬1<=u.getD j 0:=λq=>z ⟨j,by rw[<- a.len];exact hj,q⟩
    have e:u.getD j 0=u[j]:=by simp[List.getD,hj]
    rw[e]at h1 h2;omega
   have:∀l:List Int,(∀x∈l,x=0)->l.sum=0:=λl=>by
    induction l with
    | nil=>intro _;rfl
    | cons x l ih=>intro h;rw[List.sum_cons,h x (by simp),ih λy hy=>h y (by simp[hy])];rfl
   have:=this u all0
   omega
  have li:i < u.length:=by rw[a.len];exact hi
  have e:=zp6 li
  refine⟨⟨dn1 u i,(h.mem _).mpr ⟨⟨by rw[zdt,a.len],λj => ?_⟩,by rw[zlf li,b];omega,?_⟩,i,hi,e.symm⟩,o⟩
  ·rcases Nat.lt_or_ge j u.length with c | c
   ·rw[zlu c];have:=a.nn j
    split
    ·rename_i z;subst z;omega
    ·exact this
   ·simp[dn1,List.getD,List.getElem?_eq_none,c]
  ·exact zor (i:=i) hl (by rw[zdt,a.len]) (by rw[e];exact o)
theorem zog{m:Nat}{hs l f:List (List Int)}{n:Nat}(h:Lev m hs n l)(hf:Fnd m hs n f):Fnd m hs (n + 1) (f ++ l):=by
 refine⟨List.nodup_append.mpr ⟨hf.nd,h.nd,λa ha b hb e => ?_⟩,λt => ?_⟩
 ·subst e
  have:=((hf.mem a).mp ha).2.1
  have:=((h.mem a).mp hb).2.1
  omega
 ·rw[List.mem_append,hf.mem,h.mem]
  constructor
  ·rintro(⟨a,b,c⟩ | ⟨a,b,c⟩)
   ·exact⟨a,by omega,c⟩
   ·exact⟨a,by omega,c⟩
  ·rintro⟨a,b,c⟩
   rcases(by omega:t.sum < (n:Int)\/(n:Int)<=t.sum) with q | q
   ·exact .inl ⟨a,q,c⟩
   ·exact .inr ⟨a,by omega,c⟩
/-- an unknown alone bounds the powers -/
theorem zjr{m:Nat}{hs:List (List Int)}{h t:List Int}{i:Nat}(hh:h∈hs)(h0:T0 m h)(al:aloneAt h i=true)(_ht:T0 m t)(o:outT hs t=true):t.getD i 0 < h.getD i 0:=by
 refine Classical.byContradiction λz => ?_
 have g:goesI h t=true:=goesI_iff.mpr λj hj=>by
  by_cases c:j=i
  ·subst c;omega
  ·have e:h.sum=h.getD i 0:=of_decide_eq_true al
   have nn:=h0.nn j
   have:h.getD j 0 + h.getD i 0<=h.sum:=by
    have two:∀(l:List Int) (a b:Nat),a≠b->(∀x∈l,0<=x)->l.getD a 0 + l.getD b 0<=l.sum:=λl=>by
     induction l with
     | nil=>intro a b _ _;simp
     | cons x l ih=>
      intro a b ab hx
      have hr:∀y∈l,0<=y:=λy hy=>hx y (by simp[hy])
      have h0:=hx x (by simp)
      rw[List.sum_cons]
      have lt:=zo2 (T0.of rfl hr)
      cases a with
      | zero=>
       cases b with
       | zero=>exact absurd rfl ab
       | succ b=>have:=lt b;simp only[List.getD_cons_zero,List.getD_cons_succ];omega
      | succ a=>
       cases b with
       | zero=>have:=lt a;simp only[List.getD_cons_zero,List.getD_cons_succ];omega
       | succ b=>have:=ih a b (by omega) hr;simp only[List.getD_cons_succ];omega
    exact two h j i c h0.mem
   have:t.getD j 0 ≥ 0:=_ht.nn j
   omega
 have:=outT_iff.mp o h hh
 rw[g]at this;cases this
theorem zot{m:Nat}{t:List Int}(h:T0 m t){B:Nat}(hb:∀i,i < m->t.getD i 0 < B):t.sum<=m * B:=by
 have:∀l:List Int,(∀x∈l,x<=B)->l.sum<=l.length * B:=λl=>by
  induction l with
  | nil=>intro _;simp
  | cons x l ih=>
   intro h
   have h1:=h x (by simp)
   have h2:=ih λy hy=>h y (by simp[hy])
   rw[List.sum_cons,List.length_cons,Int.natCast_add,Int.add_mul]
   simp only[Int.natCast_one,Int.one_mul]
   omega
 have q:=this t λx hx=>by
  obtain⟨j,hj,rfl⟩:=List.mem_iff_getElem.mp hx
  have:=hb j (by rw[<- h.len];exact hj)
  have e:t.getD j 0=t[j]:=by simp[List.getD,hj]
  omega
 rw[h.len]at q;exact q
theorem znw{t:List Int}{i m:Nat}(lt:t.length=m)(hi:i < m):List.zipWith (· + ·) t (K6.only m i 1)=up1 t i:=by
 refine zgz (by rw[List.length_zipWith,K6.only_len,zgo,lt];omega) λj hj => ?_
 rw[List.length_zipWith,K6.only_len]at hj
 have hj1:j < t.length:=by omega
 have ho:j < (K6.only m i 1).length:=by rw[K6.only_len];omega
 have og:=K6.only_get m i 1 j
 have e1:(K6.only m i 1).getD j 0=(K6.only m i 1)[j]:=by simp[List.getD,ho]
 rw[zjn hj1]
 have:(List.zipWith (· + ·) t (K6.only m i 1)).getD j 0=t.getD j 0 + (K6.only m i 1).getD j 0:=by simp[List.getD,List.getElem?_zipWith,hj1,ho]
 rw[this,og]
 by_cases c:j=i
 ·rw[if_pos ⟨by omega,c⟩,if_pos c]
 ·rw[if_neg (λz=>c z.2),if_neg c];omega
theorem zk3{m:Nat}{hs:List (List Int)}{n:Nat}(hl:∀h∈hs,h.length=m)(h:∀t,T0 m t->t.sum=n->outT hs t=true->False):∀(d:Nat) (t:List Int),T0 m t->t.sum=(n:Int) + d->outT hs t=true->False
 | 0,t,a,b,o=>h t a (by omega) o
 | d + 1,t,a,b,o=>by
  obtain⟨i,hi,pi⟩:∃i,i < m/\1<=t.getD i 0:=by
   refine Classical.byContradiction λz => ?_
   have all0:∀x∈t,x=0:=λx hx=>by
    obtain⟨j,hj,rfl⟩:=List.mem_iff_getElem.mp hx
    have h1:=a.nn j
    have h2:¬1<=t.getD j 0:=λq=>z ⟨j,by rw[<- a.len];exact hj,q⟩
    have e:t.getD j 0=t[j]:=by simp[List.getD,hj]
    rw[e]at h1 h2;omega
   have:∀l:List Int,(∀x∈l,x=0)->l.sum=0:=λl=>by
    induction l with
    | nil=>intro _;rfl
    | cons x l ih=>intro h;rw[List.sum_cons,h x (by simp),ih λy hy=>h y (by simp[hy])];rfl
   have:=this t all0
   omega
  have li:i < t.length:=by rw[a.len];exact hi
  have e:=zp6 li
  refine zk3 hl h d (dn1 t i) ⟨by rw[zdt,a.len],λj => ?_⟩ (by rw[zlf li,b];omega) (zor (i:=i) hl (by rw[zdt,a.len]) (by rw[e];exact o))
  rcases Nat.lt_or_ge j t.length with c | c
  ·rw[zlu c];have:=a.nn j
   split
   ·rename_i z;subst z;omega
   ·exact this
  ·simp[dn1,List.getD,c]
theorem T0.zero(m:Nat):T0 m (List.replicate m 0):=⟨List.length_replicate,λi=>by
 rcases Nat.lt_or_ge i m with c | c
 ·simp[List.getD,c]
 ·simp[List.getD,c]⟩
theorem znu(m:Nat):(List.replicate m (0:Int)).sum=0:=by
 induction m with
 | zero=>rfl
 | succ m ih=>rw[List.replicate_succ,List.sum_cons,ih];rfl
theorem zqg{m:Nat}{t:List Int}(h:T0 m t)(e:t.sum=0):t=List.replicate m 0:=by
 refine zgz (by rw[h.len,List.length_replicate]) λi hi => ?_
 have:=zo2 h i
 have:=h.nn i
 have hz:(List.replicate m (0:Int)).getD i 0=0:=by
  rcases Nat.lt_or_ge i m with c | c
  ·simp[List.getD,c]
  ·simp[List.getD,c]
 omega
theorem lev0{m:Nat}{hs:List (List Int)}:Lev m hs 0 ([List.replicate m 0].filter (outT hs)):=by
 refine⟨(show [List.replicate m (0:Int)].Nodup by simp).filter _,λt => ?_⟩
 rw[List.mem_filter,List.mem_singleton]
 constructor
 ·rintro⟨rfl,o⟩
  exact⟨T0.zero m,znu m,o⟩
 ·rintro⟨a,b,o⟩
  exact⟨zqg a (by omega),o⟩
theorem fnd0{m:Nat}{hs:List (List Int)}:Fnd m hs 0 []:=⟨List.nodup_nil,λt=>by
 constructor
 ·intro h;cases h
 ·rintro⟨a,b,_⟩
  have:=zjg a;omega⟩
/-- at the last all are found -/
theorem zqd{m:Nat}{hs f:List (List Int)}{n:Nat}(hl:∀h∈hs,h.length=m)(h:Lev m hs n [])(hf:Fnd m hs n f)(t:List Int):t∈f↔T0 m t/\outT hs t=true:=by
 rw[hf.mem]
 constructor
 ·rintro⟨a,_,c⟩;exact⟨a,c⟩
 ·rintro⟨a,c⟩
  refine⟨a,?_,c⟩
  refine Classical.byContradiction λz => ?_
  exact zk3 hl (λt a b o=>by have:=(h.mem t).mpr ⟨a,b,o⟩;cases this) (t.sum - n).toNat t a (by omega) c
/-- the bounds by unknowns alone -/
theorem zjl{m:Nat}{hs:List (List Int)}(h0:∀h∈hs,T0 m h/\∀i,h.getD i 0<=200)(al:∀i,i < m->hs.any (λh=>aloneAt h i)=true){t:List Int}(a:T0 m t)(o:outT hs t=true):∀i,t.getD i 0 < 200\/(m<=i/\t.getD i 0=0):=λi=>by
 rcases Nat.lt_or_ge i m with c | c
 ·obtain⟨h,hh,q⟩:=List.any_eq_true.mp (al i c)
  have:=zjr hh (h0 h hh).1 q a o
  have:=(h0 h hh).2 i
  exact .inl (by omega)
 ·exact .inr ⟨c,by simp[List.getD,List.getElem?_eq_none,a.len,c]⟩
end K37
namespace K37
open L2 PySem
/-! the terms below the powers that stand alone -/
def leastAt(hs:List (List Int))(i:Nat):List Int:=(hs.filter λh=>aloneAt h i).map λh=>h.getD i 0
def lw:List Int->Int
 | []=>0
 | x :: xs=>xs.foldl min x
theorem zed:∀(xs:List Int) (x:Int),xs.foldl min x=x\/xs.foldl min x∈xs
 | [],x => .inl rfl
 | a :: xs,x=>by
  rw[List.foldl_cons]
  rcases zed xs (min x a) with h | h
  ·rw[h]
   rcases Int.le_total x a with c | c
   ·left;omega
   ·right;rw[show min x a=a by omega];simp
  ·right;exact List.mem_cons_of_mem _ h
theorem zln{l:List Int}(h:l≠[]):lw l∈l:=by
 cases l with
 | nil=>exact absurd rfl h
 | cons x xs=>
  show xs.foldl min x∈x :: xs
  rcases zed xs x with q | q
  ·rw[q];simp
  ·exact List.mem_cons_of_mem _ q
theorem least_any{hs:List (List Int)}{i:Nat}:leastAt hs i≠[]↔hs.any (λh=>aloneAt h i)=true:=by
 unfold leastAt
 rw[List.any_eq_true]
 constructor
 ·intro h
  cases q:hs.filter λh=>aloneAt h i with
  | nil=>rw[q]at h;exact absurd rfl h
  | cons x l=>
   have:x∈hs.filter λh=>aloneAt h i:=by rw[q];simp
   exact⟨x,(List.mem_filter.mp this).1,(List.mem_filter.mp this).2⟩
 ·rintro⟨x,hx,hq⟩ z
  have:x∈hs.filter λh=>aloneAt h i:=List.mem_filter.mpr ⟨hx,hq⟩
  rw[List.map_eq_nil_iff.mp z]at this;cases this
def boxL(bs:List Int):List (List Int):=bs.foldl (λacc b=>acc.flatMap λt=>(List.range b.toNat).map fun(a:Nat)=>t ++ [(a:Int)]) [[]]
theorem zem(bs:List Int)(b:Int):boxL (bs ++ [b])=(boxL bs).flatMap λt=>(List.range b.toNat).map fun(a:Nat)=>t ++ [(a:Int)]:=by
 unfold boxL
 rw[List.foldl_append];rfl
theorem zgs{α : Type}{P:List α->Prop}(h0:P [])(hs:∀l a,P l->P (l ++ [a]))(l:List α):P l:=by
 have:∀n (l:List α),l.length=n->P l:=λn=>by
  induction n with
  | zero=>intro l hl;rw[List.length_eq_zero_iff.mp hl];exact h0
  | succ n ih=>
   intro l hl
   have ne:l≠[]:=λz=>by rw[z]at hl;simp at hl
   rw[<- List.dropLast_concat_getLast ne]
   exact hs _ _ (ih _ (by rw[List.length_dropLast,hl];rfl))
 exact this _ l rfl
theorem zcy{l:List Int}{a:Int}{i:Nat}:(l ++ [a]).getD i 0=if i < l.length then l.getD i 0 else if i=l.length then a else 0:=by
 by_cases c:i < l.length
 ·rw[if_pos c];simp[List.getD,List.getElem?_append_left c]
 ·rw[if_neg c]
  by_cases d:i=l.length
  ·rw[if_pos d];subst d;simp[List.getD]
  ·rw[if_neg d];simp[List.getD,List.getElem?_eq_none,show l.length + 1<=i by omega]
theorem zgc(bs:List Int):∀t,t∈boxL bs↔t.length=bs.length/\∀i,i < bs.length->0<=t.getD i 0/\t.getD i 0 < bs.getD i 0:=by
 refine zgs (P:=λbs=>∀t,t∈boxL bs↔t.length=bs.length/\∀i,i < bs.length->0<=t.getD i 0/\t.getD i 0 < bs.getD i 0) ?_ ?_ bs
 ·intro t
  show t∈[[]]↔_
  rw[List.mem_singleton]
  constructor
  ·rintro rfl;exact⟨rfl,λi hi=>by simp at hi⟩
  ·rintro⟨h,_⟩;exact List.length_eq_zero_iff.mp h
 ·intro bs b ih t
  rw[zem,List.mem_flatMap]
  constructor
  ·rintro⟨u,hu,ht⟩
   obtain⟨a,ha,rfl⟩:=List.mem_map.mp ht
   have ha:=List.mem_range.mp ha
   obtain⟨h1,h2⟩:=(ih u).mp hu
   refine⟨by simp[h1],λi hi => ?_⟩
   rw[List.length_append]at hi
   simp only[List.length_singleton]at hi
   rw[zcy,zcy,h1]
   by_cases c:i < bs.length
   ·rw[if_pos c,if_pos c];exact h2 i c
   ·have:i=bs.length:=by omega
    rw[if_neg c,if_neg c,if_pos this,if_pos this];omega
  ·rintro⟨h1,h2⟩
   rw[List.length_append]at h1 h2
   simp only[List.length_singleton]at h1 h2
   have ne:t≠[]:=λz=>by rw[z]at h1;simp at h1
   obtain⟨u,x,rfl⟩:∃u x,t=u ++ [x]:=⟨t.dropLast,t.getLast ne,(List.dropLast_concat_getLast ne).symm⟩
   simp only[List.length_append,List.length_singleton]at h1
   have lu:u.length=bs.length:=by omega
   have hx:=h2 bs.length (by omega)
   rw[zcy,zcy,lu,if_neg (by omega),if_pos rfl,if_neg (by omega),if_pos rfl]at hx
   refine⟨u,(ih u).mpr ⟨lu,λi hi => ?_⟩,List.mem_map.mpr ⟨x.toNat,List.mem_range.mpr (by omega),?_⟩⟩
   ·have:=h2 i (by omega)
    rw[zcy,zcy,lu,if_pos hi,if_pos hi]at this
    exact this
   ·rw[show ((x.toNat:Nat):Int)=x by omega]
theorem zf0{α β : Type}{f : α->List β}:∀{l:List α},l.Nodup->(∀a∈l,(f a).Nodup)->(∀a∈l,∀b∈l,∀x,x∈f a->x∈f b->a=b)->(l.flatMap f).Nodup
 | [],_,_,_=>List.nodup_nil
 | a :: l,nd,h1,h2=>by
  rw[List.flatMap_cons]
  rw[List.nodup_cons]at nd
  refine List.nodup_append.mpr ⟨h1 a (by simp),zf0 nd.2 (λb hb=>h1 b (by simp[hb])) (λb hb c hc x=>h2 b (by simp[hb]) c (by simp[hc]) x),λx hx y hy e => ?_⟩
  subst e
  obtain⟨b,hb,hxb⟩:=List.mem_flatMap.mp hy
  have:=h2 a (by simp) b (by simp[hb]) x hx hxb
  subst this
  exact nd.1 hb
theorem zpj(bs:List Int):(boxL bs).Nodup:=by
 refine zgs (P:=λbs=>(boxL bs).Nodup) (by show ([[]]:List (List Int)).Nodup;simp) (λbs b ih => ?_) bs
 rw[zem]
 refine zf0 ih (λt _ => ?_) (λa _ b _ x hx hy => ?_)
 ·exact(List.nodup_range).map _ (λx y h z=>h (by simp at z;omega))
 ·obtain⟨p,_,rfl⟩:=List.mem_map.mp hx
  obtain⟨q,_,e⟩:=List.mem_map.mp hy
  exact((List.append_inj' e rfl).1).symm
theorem zgj{α β : Type}{f : α->List β}{n:Nat}:∀{l:List α},(∀a∈l,(f a).length<=n)->(l.flatMap f).length<=l.length * n
 | [],_=>by simp
 | a :: l,h=>by
  rw[List.flatMap_cons,List.length_append,List.length_cons,Nat.add_mul]
  have:=h a (by simp)
  have:=zgj (f:=f) (l:=l) λb hb=>h b (by simp[hb])
  omega
theorem zgl{B:Nat}(bs:List Int):(∀b∈bs,b<=(B:Int))->(boxL bs).length<=B ^ bs.length:=by
 refine zgs (P:=fun(bs:List Int)=>(∀b∈bs,b<=(B:Int))->(boxL bs).length<=B ^ bs.length) (λ_=>by show ([[]]:List (List Int)).length<=_;simp) (λbs b ih h => ?_) bs
 rw[zem,List.length_append,List.length_singleton,Nat.pow_succ]
 refine Nat.le_trans (zgj (n:=B) λt _ => ?_) (Nat.mul_le_mul_right _ (ih λc hc=>h c (by simp[hc])))
 rw[List.length_map,List.length_range]
 have:=h b (by simp)
 omega
theorem zhy{α : Type}[DecidableEq α]:∀{l l':List α},l.Nodup->(∀a∈l,a∈l')->l.length<=l'.length
 | [],_,_,_=>by simp
 | a :: l,l',nd,h=>by
  rw[List.nodup_cons]at nd
  have:=zhy (l:=l) (l':=l'.erase a) nd.2 λb hb=>by
   have hb':=h b (by simp[hb])
   exact(List.mem_erase_of_ne (λe=>nd.1 (by rw[<- e];exact hb))).mpr hb'
  rw[List.length_erase_of_mem (h a (by simp))]at this
  have:0 < l'.length:=List.length_pos_of_mem (h a (by simp))
  rw[List.length_cons];omega
/-- what is out lies below the least powers alone -/
theorem zl8{m:Nat}{hs:List (List Int)}{bs:List Int}(h0:∀h∈hs,T0 m h)(lb:bs.length=m)(hb:∀i,i < m->leastAt hs i≠[]/\bs.getD i 0=lw (leastAt hs i))(t:List Int):t∈(boxL bs).filter (outT hs)↔T0 m t/\outT hs t=true:=by
 rw[List.mem_filter,zgc]
 constructor
 ·rintro⟨⟨h1,h2⟩,o⟩
  refine⟨⟨by omega,λi => ?_⟩,o⟩
  rcases Nat.lt_or_ge i bs.length with c | c
  ·exact(h2 i c).1
  ·simp[List.getD,List.getElem?_eq_none,show t.length<=i by omega]
 ·rintro⟨a,o⟩
  refine⟨⟨by rw[a.len,lb],λi hi=>⟨a.nn i,?_⟩⟩,o⟩
  obtain⟨ne,e⟩:=hb i (by omega)
  rw[e]
  have:=zln ne
  obtain⟨h,hh,eh⟩:=List.mem_map.mp this
  rw[<- eh]
  exact zjr (List.mem_filter.mp hh).1 (h0 h (List.mem_filter.mp hh).1) (List.mem_filter.mp hh).2 a o
end K37
namespace K6
open PySem L2
def top(i:Nat):Stmt:=PySem.Challenge.pw_idealroom_k37_corner.main.body.getD i (.Pass ⟨0,0,0,0⟩)
abbrev zc7:Stmt:=top 14
abbrev zcg:Stmt:=top 15
abbrev zdx:Stmt:=top 16
abbrev zet:Stmt:=top 17
abbrev zb0:Stmt:=inClass (top 35) 0
abbrev zbn:Stmt:=inClass (top 36) 0
abbrev zbw:Stmt:=inClass (top 37) 0
abbrev za3:Stmt:=inClass (top 38) 0
abbrev zbm:Stmt:=inClass (top 38) 1
abbrev zb4:Stmt:=inClass (top 35) 5
abbrev zbp:Stmt:=inClass (top 38) 3
abbrev za6:Stmt:=inClass (top 35) 3
abbrev zbg:Stmt:=inClass (top 35) 2
abbrev zbh:Stmt:=inClass (top 41) 0
abbrev zci:Stmt:=inClass (top 41) 2
abbrev zcs:Stmt:=top 23
abbrev za8:Stmt:=inClass (top 24) 0
abbrev zay:Stmt:=inClass (top 25) 0
abbrev za7:Stmt:=inClass (top 26) 0
abbrev za9:Stmt:=top 28
abbrev zbz:Stmt:=top 30
abbrev zc6:Stmt:=top 31
abbrev za0:Stmt:=top 29
abbrev zb3:Stmt:=top 32
abbrev zb5:Stmt:=top 19
abbrev zdv:Stmt:=top 33
abbrev zbo:Stmt:=top 43
abbrev zbe:Stmt:=top 44
abbrev zby:Stmt:=top 45
abbrev zb2:Stmt:=top 46
abbrev zcr:Stmt:=top 47
abbrev zb1:Stmt:=top 48
abbrev zbq:Stmt:=top 50
abbrev zcj:Stmt:=top 49
abbrev zbl:Stmt:=top 53
abbrev zce:Stmt:=top 54
abbrev za2:Stmt:=top 56
abbrev zcf:Stmt:=top 57
abbrev zch:Stmt:=top 55
abbrev zcq:Stmt:=top 58
abbrev zbx:Stmt:=top 52
abbrev zbd:Stmt:=top 59
abbrev zgq:Stmt:=top 60
structure Txt(K:W.Frag)(mg:Str->Option Value)(zam zad zan zai zac zaj zab:Addr):Prop where
 b_ValueError:mg "ValueError" = none
 b_abs:mg "abs" = none
 b_all:mg "all" = none
 b_any:mg "any" = none
 b_bool:mg "bool" = none
 b_dict:mg "dict" = none
 b_int:mg "int" = none
 b_isinstance:mg "isinstance" = none
 b_len:mg "len" = none
 b_list:mg "list" = none
 b_max:mg "max" = none
 b_min:mg "min" = none
 b_range:mg "range" = none
 b_reversed:mg "reversed" = none
 b_sorted:mg "sorted" = none
 b_sum:mg "sum" = none
 b_tuple:mg "tuple" = none
 b_zip:mg "zip" = none
 cl_Ring:Cls K zam
 mg_Ring:mg "Ring" = some (.ref zam)
 na_Ring_many:NoAttr K zam "many"
 na_Ring_field:NoAttr K zam "field"
 na_Ring_order:NoAttr K zam "order"
 cl_Fractions:Cls K zad
 mg_Fractions:mg "Fractions" = some (.ref zad)
 na_Fractions_prime:NoAttr K zad "prime"
 cl_Rests:Cls K zan
 mg_Rests:mg "Rests" = some (.ref zan)
 na_Rests_prime:NoAttr K zan "prime"
 cl_Order:Cls K zai
 mg_Order:mg "Order" = some (.ref zai)
 n0_Order:Mk0 K zai
 cl_Degrees:Cls K zac
 mg_Degrees:mg "Degrees" = some (.ref zac)
 n0_Degrees:Mk0 K zac
 cl_Tails:Cls K zaj
 mg_Tails:mg "Tails" = some (.ref zaj)
 n0_Tails:Mk0 K zaj
 cl_Weights:Cls K zab
 mg_Weights:mg "Weights" = some (.ref zab)
 na_Weights_weights:NoAttr K zab "weights"
 g_GREATEST_PRIME:∃tk,mg "GREATEST_PRIME" = some (.int 9973 tk)
 g_LETTERS:∃tk,mg "LETTERS" = some (.str "xyzt" tk)
 kii:W.kitOne K (.type "int") (.type "int")=some true
 kib:W.kitOne K (.type "int") (.type "bool")=some false
 ktt:W.kitOne K (.type "tuple") (.type "tuple")=some true
 kll:W.kitOne K (.type "list") (.type "list")=some true
theorem zdl:(["power","further"]:List Str).Nodup:=by decide +kernel
theorem zd1:(["power","bound"]:List Str).Nodup:=by decide +kernel
theorem zc8:(["place","at","power"]:List Str).Nodup:=by decide +kernel
theorem zjk:(["power"]:List Str).Nodup:=by decide +kernel
theorem zhn:(["weight"]:List Str).Nodup:=by decide +kernel
theorem zdn:(["power","weight"]:List Str).Nodup:=by decide +kernel
theorem zex:(["lead","term"]:List Str).Nodup:=by decide +kernel
theorem zeh:(["term","leads"]:List Str).Nodup:=by decide +kernel
theorem zf7:(["lead","at"]:List Str).Nodup:=by decide +kernel
theorem zg8:(["f","ring"]:List Str).Nodup:=by decide +kernel
theorem zea:(["_law_a"]:List Str).Nodup:=by decide +kernel
theorem zdj:(["_law_a","_law_w"]:List Str).Nodup:=by decide +kernel
theorem zcn:(["_law_head","_law_at"]:List Str).Nodup:=by decide +kernel
theorem zdi:(["_law_a","_law_b"]:List Str).Nodup:=by decide +kernel
theorem za1:(["_law_cell","_law_fixed","_law_many","_law_p"]:List Str).Nodup:=by decide +kernel
theorem zbt:(["_law_j","_law_k","_law_top"]:List Str).Nodup:=by decide +kernel
theorem zb8:(["_law_term","_law_heads"]:List Str).Nodup:=by decide +kernel
theorem zhm:(["_law_f"]:List Str).Nodup:=by decide +kernel
theorem uOne{k:Nat}{A:Around}(r:Room k A):A.units + 1 < cLine:=by have:=r.units;omega
theorem znp{X:Cx}{x:Str}{i:Str}{pos:Pos}(hm:∃tk,X.mg x=some (.str i tk))(hg:Gl X x)(hd:(x == ("__debug__" : Str))=false:=by decide):PE X (.Name x pos) (tC (.str i)):=by
 obtain⟨tk,e⟩:=hm
 exact zeq hg e ⟨tk,rfl⟩ hd
end K6
namespace K6
open PySem L2
open K1 K2 K3 K37
def spField(K:W.Frag):Sp:=λvs H Q _=>∃(p C dx:Addr) (v:V),vs=[.ref p,v]/\H p=some (.ins C dx [])/\Cls K C/\NoAttr K C "prime"/\Q .non (upd H p (.ins C dx [("prime",v)]))
def spFracInit(CF:Addr):Sp:=λvs H Q _=>∃(p dx:Addr),vs=[.ref p]/\H p=some (.ins CF dx [])/\Q .non (upd H p (.ins CF dx [("prime",.int 0)]))
def cellOf(ns:List Int)(k:Int):Int:=ns.getD k.toNat 0
def spCell(K:W.Frag):Sp:=λvs H Q _=>∃(a:Addr) (ns:List Int) (k:Int),vs=[.ref a,.int k]/\SqL K H a (ns.map V.int)/\0<=k/\Q (.int (cellOf ns k)) H
theorem zp7{ns:List Int}{k:Int}(h0:0<=k)(h:k < (ns.length:Int)):atI (ns.map V.int) k=some (.int (cellOf ns k)):=by
 have hk:k.toNat < ns.length:=by omega
 have ek:k=((k.toNat:Nat):Int):=by omega
 have q:atI (ns.map V.int) ((k.toNat:Nat):Int)=some (.int ns[k.toNat]):=zlw (by rw[List.getElem?_map,List.getElem?_eq_getElem hk] <;> rfl)
 rw[<- ek]at q
 rw[q]
 unfold cellOf
 rw[List.getD_eq_getElem?_getD,List.getElem?_eq_getElem hk];rfl
def spPrime:Sp:=λvs H Q _=>∃(n:Int),vs=[.int n]/\n<=9973/\Q (.bl (isP n)) H
def spRests(CR NP:Addr):Sp:=λvs H Q E=>∃(p dx:Addr) (n:Int),vs=[.ref p,.int n]/\H p=some (.ins CR dx []) /\
 ((n<=9973/\isP n=true/\Q .non (upd H p (.ins CR dx [("prime",.int n)])))\/((9973 < n\/isP n=false)/\E (.ref NP) none H))
theorem zjc{d n:Int}(h2:2<=d)(h:d<=101) : -(2 ^ 64) < d/\d < 2 ^ 64:=by omega
theorem up{n a b:Nat}(h:n < 2 ^ a)(hab:a<=b):n < 2 ^ b:=Nat.lt_of_lt_of_le h (Nat.pow_le_pow_right (by decide) hab)
theorem zso{a b:Int}{n:Nat}(hb:b≠0)(h:b.natAbs < n):gI a b≠0/\(gI a b).natAbs < n:=by
 have:=zou (a:=a) hb
 refine⟨by omega,Nat.lt_of_le_of_lt ?_ h⟩
 unfold gI
 rw[Int.natAbs_natCast]
 exact Nat.le_of_dvd (by omega) (Nat.gcd_dvd_right _ _)
def NumR(CR:Addr)(H:Hp)(p dx:Addr)(n:Int):Prop:=H p=some (.ins CR dx [("prime",.int n)])/\Pr n/\n<=9973
/-- a term's powers -/
structure Pws(xs:List Int):Prop where
 len:xs.length<=100
 ne:xs≠[]
 nn:Nn xs
 hi:∀x∈xs,x < 10 ^ 31
theorem zo7(xs:List Int)(i:Nat):xs.getD i 0=0\/xs.getD i 0∈xs:=by
 rw[List.getD_eq_getElem?_getD]
 cases q:xs[i]? with
 | none=>exact .inl rfl
 | some v=>exact .inr (List.mem_of_getElem? q)
theorem Nn.getD{xs:List Int}(h:Nn xs)(i:Nat):0<=xs.getD i 0:=by
 rcases zo7 xs i with q | q
 ·omega
 ·exact h _ q
theorem bits{xs:List Int}(h1:Nn xs)(h2:∀x∈xs,x < 10 ^ 31)(i:Nat):(xs.getD i 0).natAbs < 2 ^ 4000:=by
 have h0:=h1.getD i
 have h3:(xs.getD i 0).natAbs < 2 ^ 110:=by
  have e:((2 ^ 110:Nat):Int)=2 ^ 110:=by decide
  have l:(10:Int) ^ 31 < 2 ^ 110:=by decide
  rcases zo7 xs i with q | q
  ·omega
  ·have:=h2 _ q;omega
 exact Nat.lt_of_lt_of_le h3 (Nat.pow_le_pow_right (by decide) (by decide))
structure OrdC(C:Addr)(At:Hp->Addr->Prop):Prop where
 same:∀{H H':Hp} {p:Addr},Same H H'->At H p->At H' p
 ins:∀{H:Hp} {p:Addr},At H p->∃dx fs,H p=some (.ins C dx fs)/\∀m:Str,¬m = "weights"->fs.lookup m=none
def AtO(C:Addr)(H:Hp)(p:Addr):Prop:=∃dx,H p=some (.ins C dx [])
def AtW(C:Addr)(ws:List Int)(H:Hp)(p:Addr):Prop:=∃dx wt,H p=some (.ins C dx [("weights",.ref wt)])/\H wt=some (.tup (ws.map V.int))
theorem no_W(v:V)(m:Str)(h:¬m = "weights"):([("weights",v)]:List (Str×V)).lookup m=none:=by
 have e:(m == (Str.ofString "weights"))=false:=by
  cases q:(m == (Str.ofString "weights")) with
  | true=>exact absurd (eq_of_beq q) h
  | false=>rfl
 simp only[List.lookup,e]
theorem ordcO(C:Addr):OrdC C (AtO C):=⟨λe ⟨dx,h⟩=>⟨dx,e _ _ h⟩,fun⟨dx,h⟩=>⟨dx,[],h,λ_ _=>rfl⟩⟩
theorem ordcW(C:Addr)(ws:List Int):OrdC C (AtW C ws):=⟨λe ⟨dx,wt,h1,h2⟩=>⟨dx,wt,e _ _ h1,e _ _ h2⟩,fun⟨dx,wt,h,_⟩=>⟨dx,_,h,no_W _⟩⟩
def spDeg(K:W.Frag):Sp:=λvs H Q _=>∃(a:Addr) (xs:List Int),vs=[.ref a]/\SqT K H a (xs.map V.int)/\Q (.int xs.sum) H
def spRank(At:Hp->Addr->Prop)(rk:List Int->List Int):Sp:=λvs H Q _=>∃(p t:Addr) (xs:List Int),vs=[.ref p,.ref t]/\At H p/\H t=some (.tup (xs.map V.int))/\Pws xs/\∀r H',Same H H'->H' r=some (.tup ((rk xs).map V.int))->Q (.ref r) H'
def spWInit(K:W.Frag)(C NO:Addr):Sp:=λvs H Q E=>∃(p dx l:Addr) (ws:List Int),vs=[.ref p,.ref l]/\H p=some (.ins C dx [])/\SqL K H l (ws.map V.int)/\ws.length<=100 /\
 ((Nn ws/\∀wt H',H' p=some (.ins C dx [("weights",.ref wt)])->H' wt=some (.tup (ws.map V.int))->(∀b o,H b=some o->b≠p->H' b=some o)->Q .non H')\/(¬Nn ws/\∀H',Same H H'->E (.ref NO) none H'))
def AtK(CO CD CT CW:Addr)(k:Int)(ws:List Int):Hp->Addr->Prop:=if k=0 then AtO CO else if k=1 then AtO CD else if k=2 then AtO CT else AtW CW ws
def spOrder(K:W.Frag)(CO CD CT CW:Addr):Sp:=λvs H Q _=>∃(k:Int) (l:Addr) (ws:List Int),vs=[.int k,.ref l]/\SqL K H l (ws.map V.int)/\ws.length<=100/\Nn ws/\∀p H',Same H H'->AtK CO CD CT CW k ws H' p->Q (.ref p) H'
noncomputable instance instDecNn(ws:List Int):Decidable (Nn ws):=Classical.propDecidable _
theorem zp0(ws:List Int):((List.range ws.length).map λi=>decide (ws.getD i 0 < 0)).any id = !decide (Nn ws):=by
 by_cases h:Nn ws
 ·rw[decide_eq_true h,Bool.not_true,List.any_eq_false]
  intro b hb
  obtain⟨i,_,rfl⟩:=List.mem_map.mp hb
  have:=h.getD i
  show decide (ws.getD i 0 < 0)≠true
  rw[decide_eq_false (by omega)]
  decide
 ·rw[decide_eq_false h,Bool.not_false,List.any_eq_true]
  have:∃x∈ws,x < 0:=Classical.byContradiction λz=>h λx hx=>by
   rcases(by omega:x < 0\/0<=x) with q | q
   ·exact absurd ⟨x,hx,q⟩ z
   ·exact q
  obtain⟨x,hx,q⟩:=this
  obtain⟨i,hi,e⟩:=List.mem_iff_getElem.mp hx
  exact⟨_,List.mem_map.mpr ⟨i,List.mem_range.mpr hi,rfl⟩,by simp[List.getD,hi,e,q]⟩
def spFall(At:Hp->Addr->Prop)(rk:List Int->List Int):Sp:=λvs H Q _=>∃(p l:Addr) (ys:List V) (xss:List (List Int)),vs=[.ref p,.ref l]/\At H p/\H l=some (.lst ys)/\Paired (Trm H) xss ys/\(∀xs∈xss,Pws xs) /\
 ∀D H' (ps:List (List Int×V)),Same H H'->ps.Perm (xss.zip ys)->ps.Pairwise (λp q=>HT.lexLt (rk p.1) (rk q.1)=false)->H' D=some (.lst (ps.map (·.2)))->Q (.ref D) H'
def spFirst(At:Hp->Addr->Prop)(rk:List Int->List Int)(NT:Addr):Sp:=λvs H Q E=>∃(p l:Addr) (ys:List V) (xss:List (List Int)),vs=[.ref p,.ref l]/\At H p/\H l=some (.lst ys)/\Paired (Trm H) xss ys/\(∀xs∈xss,Pws xs) /\
 ((ys=[]/\E (.ref NT) none H)\/(ys≠[]/\∀H' xs v,Same H H'->(xs,v)∈xss.zip ys->(∀p∈xss.zip ys,HT.lexLt (rk xs) (rk p.1)=false)->Q v H'))
def spFits(At:Hp->Addr->Prop)(b:Int->Bool):Sp:=λvs H Q _=>∃(p:Addr) (k:Int),vs=[.ref p,.int k]/\At H p/\∀H',Same H H'->Q (.bl (b k)) H'
/-- the keys one by one -/
theorem zk2{K:W.Frag}{At:Hp->Addr->Prop}{rk:List Int->List Int}{C p:Addr}(oC:OrdC C At)(ne:∀xs,Pws xs->rk xs≠[]){F:List V->Hp->Prop}:∀(xss:List (List Int)) (ys ks:List V) (kis:List (List Int)) (H H1:Hp),Same H H1->At H1 p->Paired (Trm H1) xss ys->(∀xs∈xss,Pws xs) ->
  Paired (λns k=>∃t,k=V.ref t/\SqT K H1 t (ns.map V.int)/\ns≠[]) kis ks ->
  (∀ks' H',Same H H'->Paired (λns k=>∃t,k=V.ref t/\SqT K H' t (ns.map V.int)/\ns≠[]) (kis ++ xss.map rk) ks'->F ks' H') ->
  skGo (λx H Q=>spRank At rk [.ref p,x] H Q E0) ys ks H1 F
 | [],_,ks,kis,H,H1,e,_,.nil,_,hk,hF=>by
  have:=hF ks H1 e (by simpa using hk)
  exact this
 | xs :: xss,_,ks,kis,H,H1,e,hp,.cons ⟨r,er,hr⟩ t,hw,hk,hF=>by
  subst er
  refine⟨p,r,xs,rfl,hp,hr,hw xs (.head _),λk H2 e2 hk2 => ?_⟩
  refine zk2 oC ne xss _ _ (kis ++ [rk xs]) H H2 (e.trans e2) (oC.same e2 hp) (pimp (λ_ _ h=>h.same e2) t) (λx hx=>hw x (.tail _ hx)) (psnoc ⟨k,rfl,SqT.of hk2,ne xs (hw xs (.head _))⟩ (pimp (λ_ _ ⟨t,q1,q2,q3⟩=>⟨t,q1,e2.seqT q2,q3⟩) hk)) λks' H' e' hk'=>hF ks' H' e' ?_
  simpa using hk'
/-- the greatest so far -/
theorem zif{K:W.Frag}{At:Hp->Addr->Prop}{rk:List Int->List Int}{C p l:Addr}{all:List V}(oC:OrdC C At){Q:VK}:∀(xss:List (List Int)) (ys:List V) (xb:List Int) (b:V) (c:Addr) (H H1:Hp) (done:List (List Int)),Same H H1->At H1 p->H1 l=some (.lst all)->Paired (Trm H1) xss ys->(∀xs∈xss,Pws xs) ->
  SqT K H1 c ((rk xb).map V.int)->(∀d∈done,HT.lexLt (rk xb) (rk d)=false) ->
  (∀H' x v,Same H H'->((x,v)=(xb,b)\/(x,v)∈xss.zip ys)->(∀d∈done,HT.lexLt (rk x) (rk d)=false)->(∀d∈xss,HT.lexLt (rk x) (rk d)=false)->Q v H') ->
  mxGo K l all (λx H Q=>spRank At rk [.ref p,x] H Q E0) ys b (.ref c) H1 Q
 | [],_,xb,b,c,H,H1,done,e,_,_,.nil,_,_,hd,hQ=>hQ H1 xb b e (.inl rfl) hd (λ_ h=>nomatch h)
 | xs :: xss,_ :: ys,xb,b,c,H,H1,done,e,hp,hl,.cons ⟨r,er,hr⟩ t,hw,hc,hd,hQ=>by
  subst er
  refine⟨p,r,xs,rfl,hp,hr,hw xs (.head _),λk H2 e2 hk2'=>have hk2:=SqT.of (K:=K) hk2';⟨e2 _ _ hl,k,c,rk xs,rk xb,rfl,rfl,hk2,e2.seqT hc,λhlt => ?_,λhge => ?_⟩⟩
  ·refine zif oC xss ys xs (.ref r) k H H2 (xs :: xb :: done) (e.trans e2) (oC.same e2 hp) (e2 _ _ hl) (pimp (λ_ _ h=>h.same e2) t) (λx hx=>hw x (.tail _ hx)) hk2 (λd h => ?_) λH' x v e' hm h1 h2=>hQ H' x v e' (.inr ?_) (λd hd'=>h1 d (.tail _ (.tail _ hd'))) (λd hd' => ?_)
   ·rcases List.mem_cons.mp h with rfl | h
    ·exact zfp _
    rcases List.mem_cons.mp h with rfl | h
    ·exact zq0 hlt
    ·cases q:HT.lexLt (rk xs) (rk d) with
     | false=>rfl
     | true=>have:=zj6 hlt q;rw[hd d h]at this;cases this
   ·rcases hm with hm | hm
    ·rw[hm];exact .head _
    ·exact .tail _ hm
   ·rcases List.mem_cons.mp hd' with rfl | hd'
    ·exact h1 d (.head _)
    ·exact h2 d hd'
  ·refine zif oC xss ys xb b c H H2 (xs :: done) (e.trans e2) (oC.same e2 hp) (e2 _ _ hl) (pimp (λ_ _ h=>h.same e2) t) (λx hx=>hw x (.tail _ hx)) (e2.seqT hc) (λd h => ?_) λH' x v e' hm h1 h2=>hQ H' x v e' ?_ (λd hd'=>h1 d (.tail _ hd')) (λd hd' => ?_)
   ·rcases List.mem_cons.mp h with rfl | h
    ·exact hge
    ·exact hd d h
   ·rcases hm with hm | hm
    ·exact .inl hm
    ·exact .inr (.tail _ hm)
   ·rcases List.mem_cons.mp hd' with rfl | hd'
    ·exact h1 d (.head _)
    ·exact h2 d hd'
theorem zru{K:W.Frag}{At:Hp->Addr->Prop}{rk:List Int->List Int}{C p l:Addr}{all:List V}(oC:OrdC C At){Q:VK}:∀(xss:List (List Int)) (ys:List V) (H:Hp),At H p->H l=some (.lst all)->Paired (Trm H) xss ys->(∀xs∈xss,Pws xs)->ys≠[] ->
  (∀H' x v,Same H H'->(x,v)∈xss.zip ys->(∀q∈xss.zip ys,HT.lexLt (rk x) (rk q.1)=false)->Q v H') ->
  mxAll K l all (λx H Q=>spRank At rk [.ref p,x] H Q E0) ys H Q
 | [],_,H,_,_,.nil,_,ne,_=>absurd rfl ne
 | xs :: xss,_ :: ys,H,hp,hl,.cons ⟨r,er,hr⟩ t,hw,_,k=>by
  subst er
  refine⟨p,r,xs,rfl,hp,hr,hw xs (.head _),λk' H2 e2 hk2'=>have hk2:=SqT.of (K:=K) hk2';⟨e2 _ _ hl,?_⟩⟩
  refine zif oC xss ys xs (.ref r) k' H H2 [xs] e2 (oC.same e2 hp) (e2 _ _ hl) (pimp (λ_ _ h=>h.same e2) t) (λx hx=>hw x (.tail _ hx)) hk2 (λd hd => ?_) λH' x v e' hm g1 g2=>k H' x v e' ?_ λq hq' => ?_
  ·rw[List.mem_singleton.mp hd];exact zfp _
  ·rcases hm with hm | hm
   ·rw[hm];exact .head _
   ·exact .tail _ hm
  ·rcases List.mem_cons.mp hq' with rfl | hq'
   ·exact g1 _ (.head _)
   ·exact g2 _ (List.of_mem_zip hq').1
def rkk(kd:Int)(ws xs:List Int):List Int:=if kd=0 then rkL xs else if kd=3 then rkW ws xs else if kd=1 then rkD xs else rkT xs
def AtF(CF:Addr)(H:Hp)(p:Addr):Prop:=∃dx,H p=some (.ins CF dx [("prime",.int 0)])
def AtR(CR:Addr)(n:Int)(H:Hp)(p:Addr):Prop:=∃dx,NumR CR H p dx n
/-- n=0: the fractions -/
def AtN(CF CR:Addr)(n:Int):Hp->Addr->Prop:=if n=0 then AtF CF else AtR CR n
/-- the ring's object -/
def RgO(CG:Addr)(dx:Addr)(m:Int)(pf po:Addr):HO := .ins CG dx [("many",.int m),("field",.ref pf),("order",.ref po)]
def RgAt(CG:Addr)(H:Hp)(r:Addr)(m:Int)(pf po:Addr):Prop:=∃dx,H r=some (RgO CG dx m pf po)
theorem no_G{m:Int}{pf po:Addr}(x:Str)(h1:¬x = "many")(h2:¬x = "field")(h3:¬x = "order"):([("many",V.int m),("field",.ref pf),("order",.ref po)]:List (Str×V)).lookup x=none:=by
 have e:∀y:Str,¬x=y->(x == y)=false:=λy h=>by
  cases q:(x == y) with
  | true=>exact absurd (eq_of_beq q) h
  | false=>rfl
 simp only[List.lookup,e _ h1,e _ h2,e _ h3]
def fbK(kd:Int)(ws:List Int)(m:Int):Bool:=if kd=3 then decide ((ws.length:Int)=m) else true
def okR(kd:Int)(ws:List Int)(m:Int):Prop:=1<=m/\m<=4/\fbK kd ws m=true
def spRgInit(CG NR CO CD CT CW:Addr):Sp:=λvs H Q E=>∃(r dx:Addr) (m:Int) (pf po:Addr) (kd:Int) (ws:List Int),vs=[.ref r,.int m,.ref pf,.ref po]/\H r=some (.ins CG dx [])/\0<=kd/\kd < 4/\Nn ws/\(∀x∈ws,x < 10 ^ 31)/\AtK CO CD CT CW kd ws H po /\
 ((okR kd ws m/\∀H',H' r=some (RgO CG dx m pf po)->(∀b o,H b=some o->b≠r->H' b=some o)->Q .non H')\/(¬okR kd ws m/\∀H',Same H H'->E (.ref NR) none H'))
def spAlone:Sp:=λvs H Q _=>∃(m a p:Int),vs=[.int m,.int a,.int p]/\1<=m/\m<=10/\0<=a/\∀r H',Same H H'->H' r=some (.tup ((only m.toNat a.toNat p).map V.int))->Q (.ref r) H'
theorem znr:((("xyzt" : Str).length:Nat):Int)=4:=by decide +kernel
theorem zpb(n:Nat):(List.replicate n [V.int 0]).flatten=(zer n).map V.int:=by unfold zer;rw[List.map_replicate];simp
def spUnit(CG:Addr):Sp:=λvs H Q _=>∃(r:Addr) (m:Int) (pf po:Addr),vs=[.ref r]/\RgAt CG H r m pf po/\1<=m/\m<=4/\∀t H',Same H H'->H' t=some (.tup ((zer m.toNat).map V.int))->Q (.ref t) H'
theorem zqa(ns:List Int)(lo hi:Option Int):∃ms:List Int,cutV (ns.map V.int) lo hi=ms.map V.int/\ms.length<=ns.length:=by
 refine⟨(ns.drop (HT.sIx ns.length 0 lo)).take (HT.sIx ns.length ns.length hi - HT.sIx ns.length 0 lo),?_,?_⟩
 ·unfold cutV
  rw[List.length_map,List.map_take,List.map_drop]
 ·rw[List.length_take,List.length_drop];omega
/-- a number of the field,as it lies -/
def NV(n:Int)(H:Hp)(v:V)(z:Int×Int):Prop:=if n=0 then ∃r,v = .ref r/\H r=some (.tup [.int z.1,.int z.2]) else v = .int z.1
theorem NV.same{n:Int}{H H':Hp}{v:V}{z:Int×Int}(e:Same H H')(h:NV n H v z):NV n H' v z:=by
 unfold NV at h ⊢
 by_cases c:n=0
 ·rw[if_pos c]at h ⊢
  obtain⟨r,a,b⟩:=h;exact⟨r,a,e _ _ b⟩
 ·rw[if_neg c]at h ⊢
  exact h
theorem nv_0{H:Hp}{v:V}{z:Int×Int}:NV 0 H v z↔∃r,v = .ref r/\H r=some (.tup [.int z.1,.int z.2]):=by unfold NV;rw[if_pos rfl]
theorem nv_n{n:Int}(h:n≠0){H:Hp}{v:V}{z:Int×Int}:NV n H v z↔v = .int z.1:=by unfold NV;rw[if_neg h]
theorem NV.rds{n:Int}{K:W.Frag}{H:Hp}{v:V}{z:Int×Int}(h:NV n H v z):∃d,Rds K H v d/\NmD d/\d=(if n=0 then PyData.tuple [.int z.1,.int z.2] else .int z.1):=by
 by_cases c:n=0
 ·subst c
  obtain⟨r,rfl,hr⟩:=nv_0.mp h
  exact⟨_,zof hr,zjv _ _,by rw[if_pos rfl]⟩
 ·have:=(nv_n c).mp h
  subst this
  exact⟨_,.int _,zk1 _,by rw[if_neg c]⟩
def dtZ(n:Int)(z:Int×Int):PyData:=if n=0 then PyData.tuple [.int z.1,.int z.2] else .int z.1
theorem zg5(n:Int)(z:Int×Int):NmD (dtZ n z):=by unfold dtZ;split;exact zjv _ _;exact zk1 _
theorem NV.dt{n:Int}{K:W.Frag}{H:Hp}{v:V}{z:Int×Int}(h:NV n H v z):Rds K H v (dtZ n z):=by
 obtain⟨d,r,_,e⟩:=h.rds (K:=K)
 unfold dtZ
 rw[<- e];exact r
structure OrdE(P:Program)(w:World)(K:W.Frag)(mg:Str->Option Value)(base:Heap)(NT C:Addr)(At:Hp->Addr->Prop)(rk:List Int->List Int)(fb:Int->Bool):Prop where
 oC:OrdC C At
 fits:MCal P w K mg base CX0 1 C "fits" ["self","many"] [] (spFits At fb)
 fall:MCal P w K mg base CX0 6 C "falling" ["self","terms"] [] (spFall At rk)
 first:MCal P w K mg base (CXe P w) 6 C "first_of" ["self","terms"] [] (spFirst At rk NT)
theorem atI0{a b:V}:atI [a,b] 0=some a:=rfl
theorem atI1{a b:V}:atI [a,b] 1=some b:=rfl
theorem zl(n:Nat)(h:n<=10000000):n<=sizeLine:=Nat.le_trans h (by rw[sizeLine_eq];decide)
theorem zlt(n:Nat)(h:n<=10000000):n < sizeLine:=Nat.lt_of_le_of_lt h (by rw[sizeLine_eq];decide)
def spProd(K:W.Frag):Sp:=λvs H Q _=>∃(a b:Addr) (xs ys:List Int),vs=[.ref a,.ref b]/\SqT K H a (xs.map V.int)/\SqT K H b (ys.map V.int)/\xs.length<=1000/\∀r H',Same H H'->H' r=some (.tup ((List.zipWith (· + ·) xs ys).map V.int))->Q (.ref r) H'
def spGoes(K:W.Frag):Sp:=λvs H Q _=>∃(a b:Addr) (xs ys:List Int),vs=[.ref a,.ref b]/\SqT K H a (xs.map V.int)/\SqT K H b (ys.map V.int)/\xs.length=ys.length/\xs.length<=1000/\∀H',Same H H'->Q (.bl (goesI xs ys)) H'
def spPA(K:W.Frag):Sp:=λvs H Q _=>∃(a:Addr) (i:Nat) (xs:List Int),vs=[.ref a,.int i]/\SqT K H a (xs.map V.int)/\i < xs.length/\Q (.bl (aloneAt xs i)) H
/-- a list of terms of m powers -/
structure TL(m:Nat)(H:Hp)(l:Addr)(ys:List V)(xss:List (List Int)):Prop where
 at_:H l=some (.lst ys)
 tm:Paired (Trm H) xss ys
 t0:∀x∈xss,T0 m x
 b:ys.length<=1000
theorem TL.same{m:Nat}{H H':Hp}{l:Addr}{ys:List V}{xss:List (List Int)}(e:Same H H')(h:TL m H l ys xss):TL m H' l ys xss:=⟨e _ _ h.at_,pimp (λ_ _ q=>q.same e) h.tm,h.t0,h.b⟩
theorem pget{α : Type}{R : α->V->Prop}:∀{l:List α} {ys:List V},Paired R l ys->∀{i:Nat} {v:V},ys[i]? = some v->∃a,l[i]? = some a/\R a v
 | _,_,.nil,_,_,h=>by simp at h
 | _,_,.cons r t,0,_,h=>by simp at h;subst h;exact⟨_,rfl,r⟩
 | _,_,.cons r t,i + 1,_,h=>by simp at h;exact pget t h
theorem TL.get{m:Nat}{H:Hp}{l:Addr}{ys:List V}{xss:List (List Int)}(h:TL m H l ys xss){i:Nat}{v:V}(hv:ys[i]? = some v):∃x r,xss[i]? = some x/\v = .ref r/\H r=some (.tup (x.map V.int))/\T0 m x:=by
 obtain⟨x,hx,r,e,q⟩:=pget h.tm hv
 exact⟨x,r,hx,e,q,h.t0 x (List.mem_of_getElem? hx)⟩
theorem TL.len{m:Nat}{H:Hp}{l:Addr}{ys:List V}{xss:List (List Int)}(h:TL m H l ys xss):xss.length=ys.length:=Paired.length h.tm
theorem zg2{xs:List Int}{i:Nat}(h:i < xs.length):atI (xs.map V.int) (i:Int)=some (.int (xs.getD i 0)):=zlw (by simp[List.getD,h])
theorem zcm{α : Type}{dd : α}{q : α->Bool}:∀{l:List α},((List.range l.length).filter λi=>q (l.getD i dd)).map (λi=>l.getD i dd)=l.filter q
 | []=>rfl
 | x :: l=>by
  have ih:=zcm (dd:=dd) (q:=q) (l:=l)
  rw[List.length_cons,List.range_succ_eq_map,List.filter_cons,List.filter_cons,List.filter_map]
  have e:(λi=>q ((x :: l).getD i dd)) ∘ Nat.succ=λi=>q (l.getD i dd):=by funext i;rfl
  have e0:(x :: l).getD 0 dd=x:=rfl
  rw[e,e0]
  split
  ·rw[List.map_cons,List.map_map,e0,<- ih];rfl
  ·rw[List.map_map,<- ih];rfl
theorem pmapl{α β : Type}{R : β->V->Prop}{f : α->β}:∀{l:List α} {ys:List V},Paired (λi v=>R (f i) v) l ys->Paired R (l.map f) ys
 | _,_,.nil => .nil
 | _,_,.cons r t => .cons r (pmapl t)
theorem zft{f:List Int->Bool}:∀{l:List (List Int)},((List.range l.length).map λi=>f (l.getD i [])).any id=l.any f
 | []=>rfl
 | x :: l=>by
  rw[List.length_cons,List.range_succ_eq_map,List.map_cons,List.map_map,List.any_cons,List.any_cons]
  have:=zft (f:=f) (l:=l)
  rw[<- this]
  rfl
theorem zd6{H:Hp}{a:Addr}{ys zs:List V}{x:List Int}{v:V}(ha:H a=some (.lst ys))(h:Trm H x v):Trm (upd H a (.lst zs)) x v:=by
 obtain⟨r,rfl,q⟩:=h
 exact⟨r,rfl,by rw[zao (zdb q ha (by intro z;cases z))];exact q⟩
theorem zf4{J:It}{n:Nat}{P:Nat->V->Hp->Prop}{mp:List (Option Nat)}{wi:TI}{g:TG}{tc:TT}{te:TE}{σ : St}{H H1:Hp}{Q:VK}(S:Walk J H1 n P)(hn:n<=1000)(hwi:∀R,R J H1->wi σ H R)(Sv:St->Prop)(p:Nat->Bool)(F:Nat->V->Hp->Prop)
  (monoS:∀i v H H',Same H H'->F i v H->F i v H') (monoU:∀i v H a ys ys',H a=some (.lst ys)->F i v H->F i v (upd H a (.lst ys'))) (h0:Sv (st0 mp σ))
  (step:∀i x σ' H2,i < n->Sv σ'->Same H1 H2->P i x H2->∀(Ny:V->St->Hp->Prop) (Nn:St->Hp->Prop),(∀v σ2 H5,Sv σ2->Same H2 H5->F i v H5->p i=true->Ny v σ2 H5)->(∀σ2 H4,Sv σ2->Same H2 H4->p i=false->Nn σ2 H4) ->
   g x σ' H2 λσ2 H3=>tc σ2 H3 λb H4=>if b=true then te σ2 H4 λv H5=>Ny v σ2 H5 else Nn σ2 H4)
  (hQ:∀D H' ys,H1 D=none->Same H1 H'->H' D=some (.lst ys)->Paired (λi v=>F i v H') ((List.range n).filter p) ys->Q (.ref D) H'):tComp mp wi g tc te σ H Q:=by
 unfold tComp
 refine hwi _ λD hD => ?_
 exact ziq S hD (Nat.le_trans hn (by rw[sizeLine_eq];decide)) Sv p F monoS monoU h0 step λH' ys e hL hF=>hQ D H' ys hD e hL hF
def spOut1:Sp:=λvs H Q _=>∃(l t:Addr) (m:Nat) (ys:List V) (hs:List (List Int)) (x:List Int),vs=[.ref l,.ref t]/\m<=4/\TL m H l ys hs/\H t=some (.tup (x.map V.int))/\T0 m x/\∀H',Same H H'->Q (.bl (outT hs x)) H'
def spOuts:Sp:=λvs H Q _=>∃(l t:Addr) (m:Nat) (ys zs:List V) (hs ts:List (List Int)),vs=[.ref l,.ref t]/\m<=4/\TL m H l ys hs/\TL m H t zs ts/\∀D H' us,H D=none->Same H H'->TL m H' D us (ts.filter (outT hs))->Q (.ref D) H'
def spSteps(CG:Addr):Sp:=λvs H Q _=>∃(r l:Addr) (m:Nat) (pf po:Addr) (ys:List V) (ts:List (List Int)),vs=[.ref r,.ref l]/\RgAt CG H r m pf po/\1<=m/\m<=4/\TL m H l ys ts/\ys.length<=200 /\
 ∀D H' zs us,Same H H'->TL m H' D zs us->us.Nodup->(∀u,u∈us↔∃t∈ts,∃i,i < m/\u=up1 t i)->Q (.ref D) H'
def spEnd(CG EE:Addr):Sp:=λvs H Q E=>∃(r l:Addr) (m:Nat) (pf po:Addr) (ys:List V) (hs:List (List Int)),vs=[.ref r,.ref l]/\RgAt CG H r m pf po/\1<=m/\m<=4/\TL m H l ys hs /\
 (((∀i,i < m->hs.any (λh=>aloneAt h i)=true)/\∀H',Same H H'->Q .non H')\/(¬(∀i,i < m->hs.any (λh=>aloneAt h i)=true)/\∀H',Same H H'->E (.ref EE) none H'))
def un(k:List Key):List Int:=k.map λx=>match x with | .inl i=>i | .inr _=>0
theorem zhg:∀xs:List Int,un (ky xs)=xs
 | []=>rfl
 | x :: xs=>by show x :: un (ky xs)=_;rw[zhg xs]
theorem zlg{a b:List Int}(h:ky a=ky b):a=b:=by rw[<- zhg a,<- zhg b,h]
def addU(us:List (List Int))(u:List Int):List (List Int):=if u∈us then us else us ++ [u]
theorem zp8{us:List (List Int)}{u:List Int}(h:us.Nodup):(addU us u).Nodup:=by
 unfold addU
 split
 ·exact h
 ·rename_i c
  exact List.nodup_append.mpr ⟨h,by simp,λa ha b hb e=>c (by rw[List.mem_singleton.mp hb]at e;rw[<- e];exact ha)⟩
theorem zod{us:List (List Int)}{u x:List Int}:x∈addU us u↔x∈us\/x=u:=by
 unfold addU
 split
 ·rename_i c
  exact⟨.inl,λh=>h.elim id λe=>by rw[e];exact c⟩
 ·simp
theorem zm9{us:List (List Int)}{u:List Int}:(addU us u).length<=us.length + 1:=by
 unfold addU
 split
 ·omega
 ·simp
theorem zko{kvs:List (List Key×V)}{us:List (List Int)}{u:List Int}{v:V}(h:kvs.map (·.1)=us.map ky):(putK kvs (ky u) v).map (·.1)=(addU us u).map ky:=by
 unfold putK addU
 have q:(kvs.any λkv=>decide (kv.1=ky u))=true↔u∈us:=by
  rw[List.any_eq_true]
  constructor
  ·rintro⟨p,hp,e⟩
   have:p.1∈us.map ky:=by rw[<- h];exact List.mem_map.mpr ⟨p,hp,rfl⟩
   obtain⟨t,ht,et⟩:=List.mem_map.mp this
   have e:=of_decide_eq_true e
   rw[<- et]at e
   rw[<- zlg e];exact ht
  ·intro hu
   have:ky u∈kvs.map (·.1):=by rw[h];exact List.mem_map.mpr ⟨u,hu,rfl⟩
   obtain⟨p,hp,e⟩:=List.mem_map.mp this
   exact⟨p,hp,decide_eq_true e⟩
 by_cases c:u∈us
 ·rw[if_pos (q.mpr c),if_pos c,<- h,List.map_map]
  refine List.map_congr_left λp _ => ?_
  show (if p.1=ky u then(p.1,v) else p).1=p.1
  split <;> rfl
 ·rw[if_neg (λz=>c (q.mp z)),if_neg c,List.map_append,List.map_append,h];rfl
theorem zgm{m:Nat}{H:Hp}{l:Addr}{kvs:List (List Key×V)}{us:List (List Int)}{as:List Addr}(h:kvs.map (·.1)=us.map ky)(la:as.length=kvs.length)(hi:∀(i:Nat) k x,kvs[i]? = some (k,x)->∃a,as[i]? = some a/\H a=some (.tup (k.map kV))):Paired (Trm H) us (as.map V.ref):=by
 have lu:us.length=kvs.length:=by have:=congrArg List.length h;simpa using this.symm
 have key:∀n,n<=us.length->Paired (Trm H) (us.take n) ((as.map V.ref).take n):=λn=>by
  induction n with
  | zero=>intro _;simp;exact .nil
  | succ n ih=>
   intro hn
   have hk:n < kvs.length:=by omega
   obtain⟨a,ha,hH⟩:=hi n kvs[n].1 kvs[n].2 (by simp[hk])
   have eu:ky (us[n]'(by omega))=kvs[n].1:=by
    have:=congrArg (λx=>x[n]?) h
    simp[hk,show n < us.length by omega]at this
    exact this.symm
   rw[List.take_add_one,List.take_add_one]
   have e1:us[n]? = some (us[n]'(by omega)):=List.getElem?_eq_getElem (by omega)
   have e2:(as.map V.ref)[n]? = some (.ref a):=by rw[List.getElem?_map,ha];rfl
   rw[e1,e2]
   refine psnoc ⟨a,rfl,?_⟩ (ih (by omega))
   rw[<- eu,zn2]at hH;exact hH
 have:=key us.length (Nat.le_refl _)
 rwa [List.take_length,List.take_of_length_le (by rw[List.length_map];omega)]at this
/-- a polynomial as it lies: its keys are terms,its numbers are those of the field -/
structure PK(n:Int)(m:Nat)(H:Hp)(kvs:List (List Key×V)):Prop where
 row:∀p∈kvs,∃t,p.1=ky t/\T0 m t/\(∀i,t.getD i 0<=200)/\∃z,NV n H p.2 z
 nd:(kvs.map (·.1)).Nodup
 b:kvs.length<=1000
theorem PK.same{n:Int}{m:Nat}{H H':Hp}{kvs:List (List Key×V)}(e:Same H H')(h:PK n m H kvs):PK n m H' kvs:=⟨λp hp=>let ⟨t,a,b,c,z,d⟩:=h.row p hp;⟨t,a,b,c,z,d.same e⟩,h.nd,h.b⟩
theorem zo4{n:Int}{K:W.Frag}{H:Hp}:∀{kvs:List (List Key×V)},(∀p∈kvs,∃z,NV n H p.2 z)->∃da,KDs K H kvs da/\Flats da
 | [],_=>⟨[],.nil,λ_ z=>by cases z⟩
 | p :: l,h=>by
  obtain⟨z,hz⟩:=h p (.head _)
  obtain⟨da,h1,h2⟩:=zo4 (K:=K) (kvs:=l) λq hq=>h q (.tail _ hq)
  refine⟨(p.1,dtZ n z) :: da,.cons ⟨rfl,hz.dt⟩ h1,λq hq => ?_⟩
  rcases List.mem_cons.mp hq with rfl | hq
  ·exact⟨(zg5 _ _).lay,(zg5 _ _).dep⟩
  ·exact h2 q hq
theorem PK.kds{n:Int}{m:Nat}{K:W.Frag}{H:Hp}{kvs:List (List Key×V)}(h:PK n m H kvs):∃da,KDs K H kvs da/\Flats da:=zo4 λp hp=>let ⟨_,_,_,_,z⟩:=h.row p hp;z
theorem zk8{m:Nat}{t:List Int}(h:T0 m t)(m1:1<=m)(m4:m<=4)(hb:∀i,t.getD i 0<=200):Pws t:=⟨by rw[h.len];omega,λz=>by have:=h.len;rw[z]at this;simp at this;omega,h.mem,λx hx=>by
 obtain⟨j,hj,rfl⟩:=List.mem_iff_getElem.mp hx
 have:=hb j
 have e:t.getD j 0=t[j]:=by simp[List.getD,hj]
 rw[e]at this
 exact Int.lt_of_le_of_lt this (by decide)⟩
theorem pz{R:List Int->V->Prop}:∀{l:List (List Int)} {ys:List V},Paired R l ys->∀p∈l.zip ys,R p.1 p.2
 | _,_,.nil,p,hp=>by cases hp
 | _,_,.cons r t,p,hp=>by
  rcases List.mem_cons.mp hp with rfl | hp
  ·exact r
  ·exact pz t p hp
theorem zo1{α β : Type}:∀{l:List α} {l':List β} {a : α},l.length=l'.length->a∈l->∃b,(a,b)∈l.zip l'
 | [],_,_,_,h=>by cases h
 | x :: l,[],_,h,_=>by simp at h
 | x :: l,y :: l',a,h,ha=>by
  rcases List.mem_cons.mp ha with rfl | ha
  ·exact⟨y,by simp⟩
  ·obtain⟨b,hb⟩:=zo1 (by simpa using h) ha
   exact⟨b,by simp[hb]⟩
def spFT(CG CO CD CT CW NL:Addr):Sp:=λvs H Q E=>∃(r d:Addr) (m:Nat) (pf po:Addr) (n kd:Int) (ws:List Int) (kvs:List (List Key×V)),vs=[.ref r,.ref d]/\RgAt CG H r m pf po/\AtK CO CD CT CW kd ws H po/\1<=m/\m<=4/\0<=kd/\kd < 4/\Nn ws/\(∀x∈ws,x < 10 ^ 31)/\H d=some (.dT kvs)/\PK n m H kvs/\kvs≠[] /\
 ∀H' t v,Same H H'->Trm H' t v->ky t∈kvs.map (·.1)->(∀p∈kvs,HT.lexLt (rkk kd ws t) (rkk kd ws (un p.1))=false)->Q v H'
def tds(xss:List (List Int)):List PyData:=xss.map λxs=>PyData.tuple (xs.map PyData.int)
theorem zdy{K:W.Frag}{H:Hp}:∀{xss:List (List Int)} {ys:List V},Paired (Trm H) xss ys->RdsAll K H ys (tds xss)
 | _,_,.nil => .nil
 | _,_,.cons ⟨r,er,hr⟩ t=>by subst er;exact .cons (.tup (SqT.of hr) (zjb _)) (zdy t)
theorem zie:∀xss:List (List Int),PyData.canLayAll0 (tds xss)=true
 | []=>rfl
 | xs :: xss=>by
  have h:=zie xss
  simp only[tds,List.map_cons,PyData.canLayAll0,PyData.canLay0,W.ke_canLayAll0]at h ⊢
  rw[h];rfl
theorem zhh:∀xss:List (List Int),PyData.depthAll (tds xss)<=2
 | []=>by simp[tds,PyData.depthAll]
 | xs :: xss=>by
  have h:=zhh xss
  simp only[tds,List.map_cons,PyData.depthAll,PyData.depth,W.ke_depthAll]at h ⊢
  omega
theorem zde(xss:List (List Int)):SeqAt.shaped (.list (tds xss))=true:=by
 have h1:=zie xss
 have h2:=zhh xss
 unfold SeqAt.shaped
 rw[PyData.canLay0,PyData.depth,h1,Bool.true_and,decide_eq_true_eq]
 omega
theorem zi5(xss:List (List Int)):PyData.eqv (.list (tds xss)) (.list (tds xss))=true:=SeqAt.eqv_refl _ (by rw[PyData.canLay0];exact zie xss)
def HeadOf(rk:List Int->List Int)(h:List Int)(kvs:List (List Key×V)):Prop:=ky h∈kvs.map (·.1)/\∀p∈kvs,HT.lexLt (rk h) (rk (un p.1))=false
/-- a list of polynomials -/
structure PL(n:Int)(m:Nat)(H:Hp)(b:Addr)(ds:List Addr)(kvss:List (List (List Key×V))):Prop where
 at_:H b=some (.lst (ds.map V.ref))
 len:ds.length=kvss.length
 row:∀(i:Nat) (d:Addr) (kvs:List (List Key×V)),ds[i]? = some d->kvss[i]? = some kvs->H d=some (.dT kvs)/\PK n m H kvs
 b:ds.length<=100
theorem PL.same{n:Int}{m:Nat}{H H':Hp}{b:Addr}{ds:List Addr}{kvss:List (List (List Key×V))}(e:Same H H')(h:PL n m H b ds kvss):PL n m H' b ds kvss:=⟨e _ _ h.at_,h.len,λi d kvs h1 h2=>⟨e _ _ (h.row i d kvs h1 h2).1,(h.row i d kvs h1 h2).2.same e⟩,h.b⟩
def Heads(rk:List Int->List Int)(kvss:List (List (List Key×V)))(hs:List (List Int)):Prop:=Paired (HeadOf rk) hs (kvss.filter λk=>decide (k≠[]))
theorem zmz{X:Cx}{K:W.Frag}(hK:X.K=K)(hu:X.A.units + 64 < cLine):OpR X (compareOp .NotEq) (rEqDT K true):=by
 subst hK;exact zqc hu
theorem zha{α β : Type}{A : β->V->Prop}{B : β->α->Prop}{f:Nat->α}:∀{is:List Nat} {vs:List V},Paired (λi v=>∃h,A h v/\B h (f i)) is vs->∃hs,Paired A hs vs/\Paired B hs (is.map f)
 | _,_,.nil=>⟨[],.nil,.nil⟩
 | _,_,.cons ⟨h,a,b⟩ t=>by
  obtain⟨hs,p,q⟩:=zha t
  exact⟨h :: hs,.cons a p,.cons b q⟩
theorem pmem{α β : Type}{R : α->β->Prop}:∀{l:List α} {l':List β},Paired R l l'->∀a∈l,∃b∈l',R a b
 | _,_,.nil,a,h=>by cases h
 | _,_,.cons r t,a,h=>by
  rcases List.mem_cons.mp h with rfl | h
  ·exact⟨_,.head _,r⟩
  ·obtain⟨b,hb,q⟩:=pmem t a h
   exact⟨b,.tail _ hb,q⟩
theorem zds{α : Type}{R : α->V->Prop}:∀{ps:List (α×V)},(∀p∈ps,R p.1 p.2)->Paired R (ps.map (·.1)) (ps.map (·.2))
 | [],_ => .nil
 | p :: ps,h => .cons (h p (.head _)) (zds λq hq=>h q (.tail _ hq))
theorem papp{α : Type}{R : α->V->Prop}:∀{l l':List α} {ys zs:List V},Paired R l ys->Paired R l' zs->Paired R (l ++ l') (ys ++ zs)
 | _,_,_,_,.nil,h=>h
 | _,_,_,_,.cons r t,h => .cons r (papp t h)
theorem zh6{α β : Type}:∀{l:List α} {l':List β},l.length<=l'.length->(l.zip l').map (·.1)=l
 | [],_,_=>by simp
 | x :: l,[],h=>by simp at h
 | x :: l,y :: l',h=>by simp only[List.zip_cons_cons,List.map_cons];rw[zh6 (by simpa using h)]
theorem zmo(xss:List (List Int)):PyData.eqv (.list (tds xss)) (.list [])=decide (xss=[]):=by
 cases xss with
 | nil=>rfl
 | cons w ws=>rfl
theorem PL.heads{n:Int}{m:Nat}{H:Hp}{b:Addr}{ds:List Addr}{kvss:List (List (List Key×V))}(hb:PL n m H b ds kvss){rk:List Int->List Int}{hs:List (List Int)}(hh:Heads rk kvss hs):∀h∈hs,T0 m h/\∀i,h.getD i 0<=200:=λh hm=>by
 obtain⟨kvs,hk,hm,_⟩:=pmem hh h hm
 obtain⟨j,hj,ej⟩:=List.mem_iff_getElem.mp (List.mem_filter.mp hk).1
 have:=(hb.row j (ds[j]'(by rw[hb.len];exact hj)) kvs (List.getElem?_eq_getElem _) (by rw[List.getElem?_eq_getElem hj,ej])).2
 obtain⟨p,hp,ep⟩:=List.mem_map.mp hm
 obtain⟨t,et,t0,tb,_⟩:=this.row p hp
 rw[et]at ep
 rw[<- zlg ep]
 exact⟨t0,tb⟩
def spCor(CG CO CD CT CW EE:Addr):Sp:=λvs H Q E=>∃(r b:Addr) (m:Nat) (pf po:Addr) (n kd:Int) (ws:List Int) (ds:List Addr) (kvss:List (List (List Key×V))),vs=[.ref r,.ref b]/\RgAt CG H r m pf po/\AtK CO CD CT CW kd ws H po/\1<=m/\m<=4/\0<=kd/\kd < 4/\Nn ws/\(∀x∈ws,x < 10 ^ 31)/\PL n m H b ds kvss /\
 ∀hs,Heads (rkk kd ws) kvss hs->((∀i,i < m->hs.any (λh=>aloneAt h i)=true)/\(∀l:List (List Int),l.Nodup->(∀t∈l,T0 m t/\outT hs t=true)->l.length<=200) /\
   ∀D H' ys cs,H D=none->Same H H'->TL m H' D ys cs->cs.Nodup->(∀t,t∈cs↔T0 m t/\outT hs t=true)->cs.Pairwise (λa b=>HT.lexLt (rkk kd ws b) (rkk kd ws a)=false)->Q (.ref D) H') \/
  (¬(∀i,i < m->hs.any (λh=>aloneAt h i)=true)/\∀H',Same H H'->E (.ref EE) none H')
def spPrime2:Sp:=λvs H Q _=>∃(n:Int),vs=[.int n]/\2<=n/\n<=9973/\Q (.bl (isP n)) H
def spLPr:Sp:=λvs H Q _=>∃(c:Int),vs=[.int c]/\∀(n:Int) H',Same H H'->(n=0\/Pr n)->n<=9973->Q (.int n) H'
theorem tab4{r:Int}(h0:0<=r)(h1:r < 4):∃v:Int,1<=v/\v<=9972/\atI [V.int 1,V.int 6,V.int 120,V.int 9972] r=some (.int v):=by
 rcases(by omega:r=0\/r=1\/r=2\/r=3) with h | h | h | h <;> subst h
 ·exact⟨1,by decide,by decide,rfl⟩
 ·exact⟨6,by decide,by decide,rfl⟩
 ·exact⟨120,by decide,by decide,rfl⟩
 ·exact⟨9972,by decide,by decide,rfl⟩
theorem zre:isP 2=true:=zq7 ⟨by decide,λe h1 h2=>by
 exfalso
 have:=Int.mul_le_mul h1 h1 (by decide) (by omega)
 omega⟩
theorem zsk{n:Int}(h:isP n=true):Pr n:=by
 by_cases q:Pr n
 ·exact q
 ·rw[zqi q]at h;cases h
def spLFld(CF CR:Addr):Sp:=λvs H Q _=>∃(n:Int),vs=[.int n]/\(n=0\/Pr n)/\n<=9973/\∀pf H',Same H H'->AtN CF CR n H' pf->Q (.ref pf) H'
def spWay:Sp:=λvs H Q _=>∃(c:Int) (m:Nat),vs=[.int c,.int m]/\m<=4/\∀r l ws H',Same H H'->H' r=some (.tup [.int (c % 4),.ref l])->H' l=some (.lst (ws.map V.int))->ws.length=m->Nn ws->(∀x∈ws,x < 10 ^ 31)->Q (.ref r) H'
theorem tab5{r:Int}(h0:0<=r)(h1:r < 5):∃v:Int,0<=v/\v < 10 ^ 31/\atI [V.int 0,V.int 1,V.int 2,V.int 7,V.int (10 ^ (Int.toNat 20) + 3)] r=some (.int v):=by
 have e:(10:Int) ^ (Int.toNat 20) + 3=100000000000000000003:=by decide
 rcases(by omega:r=0\/r=1\/r=2\/r=3\/r=4) with h | h | h | h | h <;> subst h
 ·exact⟨0,by decide,by decide,rfl⟩
 ·exact⟨1,by decide,by decide,rfl⟩
 ·exact⟨2,by decide,by decide,rfl⟩
 ·exact⟨7,by decide,by decide,rfl⟩
 ·exact⟨10 ^ (Int.toNat 20) + 3,by rw[e];decide,by rw[e];decide,rfl⟩
def spLOrd(K:W.Frag)(CO CD CT CW:Addr):Sp:=λvs H Q _=>∃(r l:Addr) (kd:Int) (ws:List Int),vs=[.ref r]/\H r=some (.tup [.int kd,.ref l])/\0<=kd/\kd < 4/\H l=some (.lst (ws.map V.int))/\ws.length<=100/\Nn ws/\∀p H',Same H H'->AtK CO CD CT CW kd ws H' p->Q (.ref p) H'
def spLRank:Sp:=λvs H Q _=>∃(r l t:Addr) (kd:Int) (ws xs:List Int),vs=[.ref r,.ref t]/\H r=some (.tup [.int kd,.ref l])/\0<=kd/\kd < 4/\H l=some (.lst (ws.map V.int))/\Nn ws/\(∀x∈ws,x < 10 ^ 31)/\H t=some (.tup (xs.map V.int))/\Pws xs/\∀p H',Same H H'->H' p=some (.tup ((rkk kd ws xs).map V.int))->Q (.ref p) H'
def spRed:Sp:=λvs H Q _=>∃(t b:Int),vs=[.int t,.int b]/\1<=b/\b.natAbs < 2 ^ 400/\t.natAbs < 2 ^ 400/\∀r H',Same H H'->H' r=some (.tup [.int (t / gI t b),.int (b / gI t b)])->Q (.ref r) H'
theorem e20:(10:Int) ^ (Int.toNat 20)=100000000000000000000:=by decide
theorem bd400{a:Int}(h:a.natAbs<=200000000000000000000000000000000000000000000000000000000000):a.natAbs < 2 ^ 400:=Nat.lt_of_le_of_lt h (Nat.lt_of_lt_of_le (show 200000000000000000000000000000000000000000000000000000000000 < 2 ^ 200 by decide) (Nat.pow_le_pow_right (by decide) (by decide)))
def spNz:Sp:=λvs H Q _=>∃(n c:Int),vs=[.int n,.int c]/\(n=0\/Pr n)/\n<=9973/\∀v z H',Same H H'->NV n H' v z->Q v H'
/-- the greatest power of a drawn term -/
def topM(m:Nat):Int:=[0,100,10,4,3].getD m 0
theorem tabM{m:Nat}(m1:1<=m)(m4:m<=4):atI [V.int 99,V.int 9,V.int 3,V.int 2] ((m:Int) - 1)=some (.int (topM m - 1)):=by
 rcases(by omega:m=1\/m=2\/m=3\/m=4) with h | h | h | h <;> subst h <;> rfl
theorem tabN{m:Nat}(m1:1<=m)(m4:m<=4):atI [V.int 100,V.int 10,V.int 4,V.int 3] ((m:Int) - 1)=some (.int (topM m)):=by
 rcases(by omega:m=1\/m=2\/m=3\/m=4) with h | h | h | h <;> subst h <;> rfl
theorem zi7{m:Nat}(m1:1<=m)(m4:m<=4):3<=topM m/\topM m<=100:=by
 rcases(by omega:m=1\/m=2\/m=3\/m=4) with h | h | h | h <;> subst h <;> decide
/-- nought or one term with a number -/
def Mn(n:Int)(m:Nat)(H:Hp)(kvs:List (List Key×V)):Prop:=kvs=[]\/∃t v z,kvs=[(ky t,v)]/\T0 m t/\(∀i,t.getD i 0<=topM m)/\NV n H v z
theorem Mn.same{n:Int}{m:Nat}{H H':Hp}{kvs:List (List Key×V)}(e:Same H H')(h:Mn n m H kvs):Mn n m H' kvs:=h.elim .inl fun⟨t,v,z,a,b,c,d⟩ => .inr ⟨t,v,z,a,b,c,d.same e⟩
theorem NV.updD{n:Int}{H:Hp}{v:V}{z:Int×Int}{d:Addr}{kvs:List (List Key×V)}{o:HO}(e:H d=some (.dT kvs))(h:NV n H v z):NV n (upd H d o) v z:=by
 by_cases c:n=0
 ·subst c
  obtain⟨r,rfl,hr⟩:=nv_0.mp h
  exact nv_0.mpr ⟨r,rfl,by rw[zao (zdb hr e (by intro z;cases z))];exact hr⟩
 ·exact(nv_n c).mpr ((nv_n c).mp h)
def spMono:Sp:=λvs H Q _=>∃(n:Int) (m:Nat) (c:Int) (fx:Bool),vs=[.int n,.int m,.int c,.bl fx]/\(n=0\/Pr n)/\n<=9973/\1<=m/\m<=4/\∀d kvs H',Same H H'->H' d=some (.dT kvs)->Mn n m H' kvs->Q (.ref d) H'
def spLst(K:W.Frag):Sp:=λvs H Q _=>∃(l:Addr) (m i:Nat) (ys:List V) (hs:List (List Int)),vs=[.ref l,.int m,.int i]/\TL m H l ys hs/\i < m/\m<=4/\∀H',Same H H'->Q (mnV ((hs.filter λh=>aloneAt h i).map λh=>h.getD i 0)) H'
def spFree:Sp:=λvs H Q _=>∃(l t:Addr) (m:Nat) (ys:List V) (hs:List (List Int)) (x:List Int),vs=[.ref l,.ref t]/\m<=4/\TL m H l ys hs/\H t=some (.tup (x.map V.int))/\T0 m x/\∀H',Same H H'->Q (.bl (outT hs x)) H'
/-- a list of noughts and of terms with a number -/
structure ML(n:Int)(m:Nat)(H:Hp)(b:Addr)(ds:List Addr)(kvss:List (List (List Key×V))):Prop where
 at_:H b=some (.lst (ds.map V.ref))
 len:ds.length=kvss.length
 row:∀(i:Nat) (d:Addr) (kvs:List (List Key×V)),ds[i]? = some d->kvss[i]? = some kvs->H d=some (.dT kvs)/\Mn n m H kvs
theorem ML.same{n:Int}{m:Nat}{H H':Hp}{b:Addr}{ds:List Addr}{kvss:List (List (List Key×V))}(e:Same H H')(h:ML n m H b ds kvss):ML n m H' b ds kvss:=⟨e _ _ h.at_,h.len,λi d kvs h1 h2=>⟨e _ _ (h.row i d kvs h1 h2).1,(h.row i d kvs h1 h2).2.same e⟩⟩
def spRows(K:W.Frag):Sp:=λvs H Q _=>∃(n:Int) (m:Nat) (a:Addr) (ns:List Int),vs=[.int n,.int m,.ref a]/\(n=0\/Pr n)/\n<=9973/\1<=m/\m<=4/\SqL K H a (ns.map V.int)/\ns.length<=63/\∀b ds kvss H',Same H H'->ML n m H' b ds kvss->ds.length<=67->Q (.ref b) H'
/-- a comprehension's turns -/
def CGo(J:It)(H1:Hp)(D:Addr)(g:TG)(tc:TT)(te:TE)(σ0:St)(Q:VK):Prop:=∃W:Nat->Nat->List V->St->Hp->Prop,(∃m,W 0 m [] σ0 (upd H1 D (.lst [])))/\∀i m ys σ' H',W i m ys σ' H'->H' D=some (.lst ys) /\
  ((J.stop i H'/\Q (.ref D) H')\/(J.go i H'/\ys.length < sizeLine/\∀x H2,J.yld i H' x H2->g x σ' H2 λσ2 H3=>tc σ2 H3 λb H4=>
   if b=true then te σ2 H4 λv H5=>H5 D=some (.lst ys)/\∃m',m' < m/\W (i + 1) m' (ys ++ [v]) σ2 (upd H5 D (.lst (ys ++ [v])))
   else ∃m',m' < m/\W (i + 1) m' ys σ2 H4))
theorem zjt{mp:List (Option Nat)}{wi:TI}{g:TG}{tc:TT}{te:TE}{σ : St}{H:Hp}{Q:VK}(h:wi σ H λJ H1=>∀D,H1 D=none->CGo J H1 D g tc te (st0 mp σ) Q):tComp mp wi g tc te σ H Q:=by unfold tComp;exact h
theorem zl7{J:It}{H1:Hp}{n:Nat}{P:Nat->V->Hp->Prop}{g:TG}{tc:TT}{te:TE}{Q:VK}{σ0:St}{D:Addr}(S:Walk J H1 n P)(hD:H1 D=none)(hn:n<=sizeLine)(Sv:St->Prop)(p:Nat->Bool)(F:Nat->V->Hp->Prop)
  (monoS:∀i v H H',Same H H'->F i v H->F i v H') (monoU:∀i v H ys ys',H D=some (.lst ys)->F i v H->F i v (upd H D (.lst ys'))) (h0:Sv σ0)
  (step:∀i x σ' H2,i < n->Sv σ'->Same H1 H2->P i x H2->(∃ys,H2 D=some (.lst ys))->∀(Ny:V->St->Hp->Prop) (Nn:St->Hp->Prop),(∀v σ2 H5,Sv σ2->Same H2 H5->F i v H5->p i=true->Ny v σ2 H5)->(∀σ2 H4,Sv σ2->Same H2 H4->p i=false->Nn σ2 H4) ->
   g x σ' H2 λσ2 H3=>tc σ2 H3 λb H4=>if b=true then te σ2 H4 λv H5=>Ny v σ2 H5 else Nn σ2 H4)
  (hQ:∀H' ys,Same H1 H'->H' D=some (.lst ys)->Paired (λi v=>F i v H') ((List.range n).filter p) ys->Q (.ref D) H'):CGo J H1 D g tc te σ0 Q:=znt S hD hn Sv p F monoS monoU h0 step hQ
theorem NV.updX{n:Int}{H:Hp}{v:V}{z:Int×Int}{d:Addr}{o o':HO}(e:H d=some o)(nt:∀xs,o≠.tup xs)(h:NV n H v z):NV n (upd H d o') v z:=by
 by_cases c:n=0
 ·subst c
  obtain⟨r,rfl,hr⟩:=nv_0.mp h
  exact nv_0.mpr ⟨r,rfl,by rw[zao (zdb hr e (λz=>nt _ z.symm))];exact hr⟩
 ·exact(nv_n c).mpr ((nv_n c).mp h)
theorem Mn.updL{n:Int}{m:Nat}{H:Hp}{kvs:List (List Key×V)}{d:Addr}{ys zs:List V}(e:H d=some (.lst ys))(h:Mn n m H kvs):Mn n m (upd H d (.lst zs)) kvs:=h.elim .inl fun⟨t,v,z,a,b,c,q⟩ => .inr ⟨t,v,z,a,b,c,q.updX e (by intro _ z;cases z)⟩
theorem zr4{A:Addr->List (List Key×V)->Prop}:∀{is:List Nat} {ys:List V},Paired (λ_ v=>∃d kvs,v=V.ref d/\A d kvs) is ys->∃(ds:List Addr) (kvss:List (List (List Key×V))),ys=ds.map V.ref/\ds.length=kvss.length/\ds.length=is.length/\∀(i:Nat) (d:Addr) (kvs:List (List Key×V)),ds[i]? = some d->kvss[i]? = some kvs->A d kvs
 | _,_,.nil=>⟨[],[],rfl,rfl,rfl,λi d kvs h=>by simp at h⟩
 | _,_,.cons ⟨d,kvs,e,a⟩ t=>by
  obtain⟨ds,kvss,h1,h2,h3,h4⟩:=zr4 t
  refine⟨d :: ds,kvs :: kvss,by rw[List.map_cons,h1,e],by simp[h2],by simp[h3],λi d' kvs' q1 q2 => ?_⟩
  cases i with
  | zero=>simp at q1 q2;subst q1 q2;exact a
  | succ i=>simp at q1 q2;exact h4 i d' kvs' q1 q2
theorem cutR(ds:List Addr)(lo hi:Option Int):cutV (ds.map V.ref) lo hi=((ds.drop (HT.sIx ds.length 0 lo)).take (HT.sIx ds.length ds.length hi - HT.sIx ds.length 0 lo)).map V.ref:=by
 unfold cutV
 rw[List.length_map,List.map_take,List.map_drop]
/-- cut,one put in,and what is behind -/
theorem zri{A:Addr->List (List Key×V)->Prop}{ds:List Addr}{kvss:List (List (List Key×V))}(hl:ds.length=kvss.length)(h:∀(i:Nat) (d:Addr) (kvs:List (List Key×V)),ds[i]? = some d->kvss[i]? = some kvs->A d kvs){d:Addr}{kvs:List (List Key×V)}(a:A d kvs)(p q r u:Nat)(hb:q + (ds.length - r)<=ds.length):∃(ds':List Addr) (kvss':List (List (List Key×V))),(ds.drop p).take q ++ [d] ++ (ds.drop r).take u=ds'/\ds'.length=kvss'.length/\ds'.length<=ds.length + 1/\∀(i:Nat) (d:Addr) (kvs:List (List Key×V)),ds'[i]? = some d->kvss'[i]? = some kvs->A d kvs:=by
 refine⟨_,(kvss.drop p).take q ++ [kvs] ++ (kvss.drop r).take u,rfl,by simp[hl],by simp;omega,?_⟩
 have key:∀p' q' (i:Nat) (d':Addr) (kvs':List (List Key×V)),((ds.drop p').take q')[i]? = some d'->((kvss.drop p').take q')[i]? = some kvs'->A d' kvs':=λp' q' i d' kvs' h1 h2=>by
  rw[List.getElem?_take]at h1 h2
  split at h1
  ·rename_i c
   rw[if_pos c]at h2
   rw[List.getElem?_drop]at h1 h2
   exact h _ _ _ h1 h2
  ·cases h1
 have l1:((ds.drop p).take q).length=((kvss.drop p).take q).length:=by simp[hl]
 intro i d' kvs' h1 h2
 rcases Nat.lt_or_ge i ((ds.drop p).take q).length with c | c
 ·rw[List.append_assoc,List.getElem?_append_left c]at h1
  rw[List.append_assoc,List.getElem?_append_left (by omega)]at h2
  exact key p q i d' kvs' h1 h2
 ·rw[List.append_assoc,List.getElem?_append_right c]at h1
  rw[List.append_assoc,List.getElem?_append_right (by omega),<- l1]at h2
  generalize i - ((ds.drop p).take q).length=j at h1 h2
  cases j with
  | zero=>simp at h1 h2;subst h1 h2;exact a
  | succ j=>simp only[List.singleton_append,List.getElem?_cons_succ]at h1 h2;exact key r u j d' kvs' h1 h2
theorem zi1{K:W.Frag}{f:V->Hp->VK->Prop}{rk:List Int->List Int}{OK:Hp->Prop}(hf:∀(x:V) (H1:Hp) (xs:List Int) (Q:VK),OK H1->Trm H1 xs x->Pws xs->(∀p H',Same H1 H'->H' p=some (.tup ((rk xs).map V.int))->Q (.ref p) H')->f x H1 Q)(okS:∀H1 H2,Same H1 H2->OK H1->OK H2)(ne:∀xs,Pws xs->rk xs≠[]){F:List V->Hp->Prop} :
  ∀(xss:List (List Int)) (ys ks:List V) (kis:List (List Int)) (H H1:Hp),Same H H1->OK H1->Paired (Trm H1) xss ys->(∀xs∈xss,Pws xs) ->
  Paired (λns k=>∃t,k=V.ref t/\SqT K H1 t (ns.map V.int)/\ns≠[]) kis ks ->
  (∀ks' H',Same H H'->Paired (λns k=>∃t,k=V.ref t/\SqT K H' t (ns.map V.int)/\ns≠[]) (kis ++ xss.map rk) ks'->F ks' H') ->
  skGo f ys ks H1 F
 | [],_,ks,kis,H,H1,e,_,.nil,_,hk,hF=>by
  have:=hF ks H1 e (by simpa using hk)
  exact this
 | xs :: xss,_,ks,kis,H,H1,e,hp,.cons hr t,hw,hk,hF=>by
  refine hf _ H1 xs _ hp hr (hw xs (.head _)) λk H2 e2 hk2 => ?_
  refine zi1 hf okS ne xss _ _ (kis ++ [rk xs]) H H2 (e.trans e2) (okS _ _ e2 hp) (pimp (λ_ _ h=>h.same e2) t) (λx hx=>hw x (.tail _ hx)) (psnoc ⟨k,rfl,SqT.of hk2,ne xs (hw xs (.head _))⟩ (pimp (λ_ _ ⟨t,q1,q2,q3⟩=>⟨t,q1,e2.seqT q2,q3⟩) hk)) λks' H' e' hk'=>hF ks' H' e' ?_
  simpa using hk'
/-- all but the table at Pt is as it was -/
def ButT(Pt:Addr)(H H':Hp):Prop:=∀b o,H b=some o->b≠Pt->H' b=some o
theorem zrz{kd:Int}{ws xs:List Int}(h:Pws xs):rkk kd ws xs≠[]:=by
 unfold rkk
 split
 ·exact h.ne
 ·split
  ·exact List.cons_ne_nil _ _
  ·split <;> exact List.cons_ne_nil _ _
theorem zg3{m j:Nat}(m1:1<=m)(m4:m<=4)(hj:j<=m):(topM m).toNat ^ j<=100:=by
 rcases(by omega:m=1\/m=2\/m=3\/m=4) with h | h | h | h <;> subst h
 ·rcases(by omega:j=0\/j=1) with h | h <;> subst h <;> decide
 ·rcases(by omega:j=0\/j=1\/j=2) with h | h | h <;> subst h <;> decide
 ·rcases(by omega:j=0\/j=1\/j=2\/j=3) with h | h | h | h <;> subst h <;> decide
 ·rcases(by omega:j=0\/j=1\/j=2\/j=3\/j=4) with h | h | h | h | h <;> subst h <;> decide
def spDue(Pt:Addr):Sp:=λvs H Q _=>∃(r g l:Addr) (m:Nat) (kd:Int) (ws:List Int) (ys:List V) (hs:List (List Int)),vs=[.ref r,.ref g,.int m]/\H r=some (.tup [.int kd,.ref l])/\H l=some (.lst (ws.map V.int))/\0<=kd/\kd < 4/\Nn ws/\(∀x∈ws,x < 10 ^ 31)/\1<=m/\m<=4/\TL m H g ys hs/\(∀h∈hs,∀i,h.getD i 0<=topM m)/\H Pt=some (.tbl #[]) /\
 (((∃i,i < m/\leastAt hs i=[])/\∀H',Same H H'->Q .non H')\/((∀i,i < m->leastAt hs i≠[])/\∀D H' us cs,H D=none->ButT Pt H H'->TL m H' D us cs->cs.Nodup->(∀t,t∈cs↔T0 m t/\outT hs t=true)->cs.Pairwise (λa b=>HT.lexLt (rkk kd ws b) (rkk kd ws a)=false)->Q (.ref D) H'))
theorem zkv(l:List Int):(l=[]/\mnV l = .non)\/(l≠[]/\mnV l = .int (lw l)):=by
 cases l with
 | nil=>exact .inl ⟨rfl,rfl⟩
 | cons x xs=>exact .inr ⟨List.cons_ne_nil _ _,rfl⟩
theorem zqq{K:W.Frag}{H:Hp}{a b:Addr}{xs ys:List V}{Q:VK}(ha:H a=some (.tup xs))(hb:H b=some (.tup ys))(hy:ys≠[])(hz:xs.length + ys.length<=sizeLine)(q:∀r H',Same H H'->H' r=some (.tup (xs ++ ys))->Q (.ref r) H'):rCatA K (.ref a) (.ref b) H Q:=
 ⟨a,b,xs,ys,rfl,rfl,SqT.of ha,SqT.of hb,hz,λc=>q b H (Same.refl _) (by rw[c];exact hb),λ_ c=>absurd c hy,λ_ _ p hp=>q p _ (Same.upd hp) zae⟩
theorem zhf{α β : Type}{f : α->List β}{l:List α}{i:Nat}{a : α}(h:l[i]? = some a):(l.take (i + 1)).flatMap f=(l.take i).flatMap f ++ f a:=by
 rw[List.take_add_one,h,List.flatMap_append];simp
def spWhole:Sp:=λvs H Q _=>∃(i:Int),vs=[.int i]/\Q (.bl true) H
def spIsT:Sp:=λvs H Q _=>∃(D:Addr) (m:Nat) (ys:List V) (cs:List (List Int)),vs=[.ref D]/\m<=4/\TL m H D ys cs/\∀H',Same H H'->Q (.bl true) H'
theorem zhk:∀{da:List (List Key×PyData)} {p:List Key×PyData},(da.map (·.1)).Nodup->p∈da->findKD da p.1=some p.2
 | [],p,_,hp=>by cases hp
 | q :: l,p,nd,hp=>by
  rw[List.map_cons,List.nodup_cons]at nd
  rcases List.mem_cons.mp hp with rfl | hp
  ·simp[findKD]
  ·have ne:¬q.1=p.1:=λe=>nd.1 (by rw[e];exact List.mem_map.mpr ⟨p,hp,rfl⟩)
   have:=zhk nd.2 hp
   unfold findKD at this ⊢
   rw[List.find?_cons_of_neg (by rw[decide_eq_false ne];decide)]
   exact this
theorem zk9{da:List (List Key×PyData)}(nd:(da.map (·.1)).Nodup)(h:∀p∈da,NmD p.2):eqKD da da=true:=by
 unfold eqKD
 rw[beq_self_eq_true,Bool.true_and,List.all_eq_true]
 intro p hp
 rw[zhk nd hp]
 exact(h p hp).refl
theorem zo9{kd:Int}(k0:0<=kd)(k4:kd < 4){ws:List Int}{n:Nat}(wn:Nn ws){a b:List Int}(la:a.length=n)(lb:b.length=n)(h1:HT.lexLt (rkk kd ws a) (rkk kd ws b)=false)(h2:HT.lexLt (rkk kd ws b) (rkk kd ws a)=false):a=b:=by
 have e:rkk kd ws a=rkk kd ws b:=Classical.byContradiction λne=>by
  have:=zfu ne
  rw[h1,h2]at this;cases this
 rcases(by omega:kd=0\/kd=1\/kd=2\/kd=3) with rfl | rfl | rfl | rfl
 ·exact(ordL n).inj a b la lb (by simpa[rkk]using e)
 ·exact(ordD n).inj a b la lb (by simpa[rkk]using e)
 ·exact(ordT n).inj a b la lb (by simpa[rkk]using e)
 ·exact(ordW wn n).inj a b la lb (by simpa[rkk]using e)
theorem u70{k:Nat}{A:Around}(h:Room k A):A.units + 70 < cLine:=by have:=h.un;omega
def hsOf(kvss:List (List (List Key×V))):List (List Int):=kvss.flatMap λkvs=>kvs.map λp=>un p.1
def Mono1(kvs:List (List Key×V)):Prop:=kvs=[]\/∃t v,kvs=[(ky t,v)]
theorem Mn.mono{n:Int}{m:Nat}{H:Hp}{kvs:List (List Key×V)}(h:Mn n m H kvs):Mono1 kvs:=h.elim .inl fun⟨t,v,_,e,_⟩ => .inr ⟨t,v,e⟩
theorem zdf{rk:List Int->List Int}:∀{kvss:List (List (List Key×V))} {hs:List (List Int)},(∀kvs∈kvss,Mono1 kvs)->Heads rk kvss hs->hs=hsOf kvss
 | [],hs,_,h=>by cases h;rfl
 | kvs :: l,hs,hm,h=>by
  unfold Heads at h
  rw[List.filter_cons]at h
  unfold hsOf
  rw[List.flatMap_cons]
  rcases hm kvs (by simp) with e | ⟨t,v,e⟩
  ·subst e
   rw[if_neg (by simp)]at h
   exact zdf (λk hk=>hm k (by simp[hk])) h
  ·subst e
   rw[if_pos (by simp)]at h
   cases h with
   | cons r q=>
    rename_i x xs
    have ih:=zdf (rk:=rk) (λk hk=>hm k (by simp[hk])) q
    have ex:x=t:=by
     have:=r.1
     simp at this
     exact zlg this
    rw[ex,ih]
    show t :: hsOf l=[un (ky t)] ++ hsOf l
    rw[zhg];rfl
theorem bt{Pt:Addr}{H H':Hp}{b:Addr}{o:HO}{ps:Array Value}(h:ButT Pt H H')(hT:H Pt=some (.tbl ps))(hb:H b=some o)(no:∀ps,o≠.tbl ps):H' b=some o:=h b o hb λe=>by
 rw[e,hT]at hb;cases hb;exact no _ rfl
theorem NV.but{n:Int}{Pt:Addr}{H H':Hp}{ps:Array Value}(h:ButT Pt H H')(hT:H Pt=some (.tbl ps)){v:V}{z:Int×Int}(q:NV n H v z):NV n H' v z:=by
 by_cases c:n=0
 ·subst c
  obtain⟨r,rfl,hr⟩:=nv_0.mp q
  exact nv_0.mpr ⟨r,rfl,bt h hT hr (by intro _ z;cases z)⟩
 ·exact(nv_n c).mpr ((nv_n c).mp q)
theorem TL.but{m:Nat}{Pt:Addr}{H H':Hp}{ps:Array Value}(h:ButT Pt H H')(hT:H Pt=some (.tbl ps)){l:Addr}{ys:List V}{xss:List (List Int)}(q:TL m H l ys xss):TL m H' l ys xss:=
 ⟨bt h hT q.at_ (by intro _ z;cases z),pimp (λ_ _ ⟨r,e,hr⟩=>⟨r,e,bt h hT hr (by intro _ z;cases z)⟩) q.tm,q.t0,q.b⟩
theorem Mn.but{n:Int}{m:Nat}{Pt:Addr}{H H':Hp}{ps:Array Value}(h:ButT Pt H H')(hT:H Pt=some (.tbl ps)){kvs:List (List Key×V)}(q:Mn n m H kvs):Mn n m H' kvs:=q.elim .inl fun⟨t,v,z,a,b,c,d⟩ => .inr ⟨t,v,z,a,b,c,d.but h hT⟩
theorem ML.but{n:Int}{m:Nat}{Pt:Addr}{H H':Hp}{ps:Array Value}(h:ButT Pt H H')(hT:H Pt=some (.tbl ps)){b:Addr}{ds:List Addr}{kvss:List (List (List Key×V))}(q:ML n m H b ds kvss):ML n m H' b ds kvss:=
 ⟨bt h hT q.at_ (by intro _ z;cases z),q.len,λi d kvs h1 h2=>⟨bt h hT (q.row i d kvs h1 h2).1 (by intro _ z;cases z),(q.row i d kvs h1 h2).2.but h hT⟩⟩
theorem zqt{CO CD CT CW:Addr}{kd:Int}{ws:List Int}{Pt:Addr}{H H':Hp}{ps:Array Value}(h:ButT Pt H H')(hT:H Pt=some (.tbl ps)){p:Addr}(q:AtK CO CD CT CW kd ws H p):AtK CO CD CT CW kd ws H' p:=by
 have o:∀C,AtO C H p->AtO C H' p:=λC ⟨dx,z⟩=>⟨dx,bt h hT z (by intro _ z;cases z)⟩
 have w:AtW CW ws H p->AtW CW ws H' p:=fun⟨dx,wt,z1,z2⟩=>⟨dx,wt,bt h hT z1 (by intro _ z;cases z),bt h hT z2 (by intro _ z;cases z)⟩
 unfold AtK at q ⊢
 by_cases c0:kd=0
 ·rw[if_pos c0]at q ⊢;exact o _ q
 ·rw[if_neg c0]at q ⊢
  by_cases c1:kd=1
  ·rw[if_pos c1]at q ⊢;exact o _ q
  ·rw[if_neg c1]at q ⊢
   by_cases c2:kd=2
   ·rw[if_pos c2]at q ⊢;exact o _ q
   ·rw[if_neg c2]at q ⊢;exact w q
theorem Mn.pk{n:Int}{m:Nat}{H:Hp}{kvs:List (List Key×V)}(m1:1<=m)(m4:m<=4)(h:Mn n m H kvs):PK n m H kvs:=by
 rcases h with e | ⟨t,v,z,e,t0,tb,nv⟩
 ·subst e;exact⟨(λp hp=>by cases hp),List.nodup_nil,by simp⟩
 ·subst e
  refine⟨λp hp => ?_,by simp,by simp⟩
  rw[List.mem_singleton.mp hp]
  exact⟨t,rfl,t0,λi=>by have:=tb i;have:=(zi7 m1 m4).2;omega,z,nv⟩
theorem Mn.hds{n:Int}{m:Nat}{H:Hp}{kvs:List (List Key×V)}(h:Mn n m H kvs):HDs kvs:=by
 rcases h with e | ⟨t,v,z,e,_⟩
 ·subst e;exact⟨[],rfl,List.nodup_nil⟩
 ·subst e;exact⟨[t],rfl,by simp⟩
theorem Mn.deq{n:Int}{m:Nat}{K:W.Frag}{H:Hp}{kvs:List (List Key×V)}{a b:Addr}(h:Mn n m H kvs)(ha:H a=some (.dT kvs))(hb:H b=some (.dT kvs)):DEq K H a b true:=by
 rcases h with e | ⟨t,v,z,e,_,_,nv⟩
 ·subst e
  exact⟨[],[],[],[],.inl ha,.inl hb,.nil,.nil,(λ_ z=>by cases z),(λ_ z=>by cases z),rfl,λ_=>rfl⟩
 ·subst e
  refine⟨_,_,[(ky t,dtZ n z)],[(ky t,dtZ n z)],.inl ha,.inl hb,.cons ⟨rfl,nv.dt⟩ .nil,.cons ⟨rfl,nv.dt⟩ .nil,?_,?_,zk9 (by simp) (λp hp=>by rw[List.mem_singleton.mp hp];exact zg5 _ _),λ_=>rfl⟩
  all_goals
   intro p hp
   rw[List.mem_singleton.mp hp]
   exact⟨(zg5 _ _).lay,(zg5 _ _).dep⟩
/-- two sorted lists of the same terms are one -/
theorem zgf{m:Nat}{kd:Int}{ws:List Int}(k0:0<=kd)(k4:kd < 4)(wn:Nn ws):∀{l l':List (List Int)},l.Nodup->l'.Nodup->(∀t,t∈l↔t∈l')->(∀t∈l,t.length=m)->l.Pairwise (λa b=>HT.lexLt (rkk kd ws b) (rkk kd ws a)=false)->l'.Pairwise (λa b=>HT.lexLt (rkk kd ws b) (rkk kd ws a)=false)->l=l'
 | [],l',_,_,h,_,_,_=>by
  cases l' with
  | nil=>rfl
  | cons x l'=>have:=(h x).mpr (by simp);cases this
 | a :: l,[],_,_,h,_,_,_=>by have:=(h a).mp (by simp);cases this
 | a :: l,b :: l',n1,n2,h,hl,p1,p2=>by
  rw[List.nodup_cons]at n1 n2
  rw[List.pairwise_cons]at p1 p2
  have hb:b∈a :: l:=(h b).mpr (by simp)
  have ha:a∈b :: l':=(h a).mp (by simp)
  have e:a=b:=by
   rcases List.mem_cons.mp hb with z | z
   ·exact z.symm
   ·rcases List.mem_cons.mp ha with y | y
    ·exact y
    ·exact zo9 (n:=m) k0 k4 wn (hl a (by simp)) (hl b hb) (p2.1 a y) (p1.1 b z)
  subst e
  rw[zgf (l:=l) (l':=l') k0 k4 wn n1.2 n2.2 (λt => ?_) (λt ht=>hl t (by simp[ht])) p1.2 p2.2]
  constructor
  ·intro ht
   rcases List.mem_cons.mp ((h t).mp (by simp[ht])) with z | z
   ·subst z;exact absurd ht n1.1
   ·exact z
  ·intro ht
   rcases List.mem_cons.mp ((h t).mpr (by simp[ht])) with z | z
   ·subst z;exact absurd ht n2.1
   ·exact z
theorem zlm{kvss:List (List (List Key×V))}{i:Nat}{kvs:List (List Key×V)}(h:kvss[i]? = some kvs):hsOf (kvss.take (i + 1))=hsOf (kvss.take i) ++ kvs.map λp=>un p.1:=by
 unfold hsOf
 exact zhf h
theorem ziw{l:List (List (List Key×V))}(h:∀kvs∈l,kvs.length<=1):(hsOf l).length<=l.length:=by
 have:=zgj (f:=λkvs:List (List Key×V)=>kvs.map λp=>un p.1) (n:=1) (l:=l) λa ha=>by rw[List.length_map];exact h a ha
 unfold hsOf;omega
theorem Mono1.len{kvs:List (List Key×V)}(h:Mono1 kvs):kvs.length<=1:=by
 rcases h with e | ⟨t,v,e⟩ <;> subst e <;> simp
theorem Mono1.key{kvs:List (List Key×V)}(h:Mono1 kvs):kvs.map (·.1)=(kvs.map λp=>un p.1).map ky:=by
 rcases h with e | ⟨t,v,e⟩ <;> subst e
 ·rfl
 ·show [ky t]=[ky (un (ky t))];rw[zhg]
theorem zpn{A:Nat->Addr->Prop}{n:Nat}{ys:List V}(h:Paired (λi v=>∃d,v=V.ref d/\A i d) (List.range n) ys):∃ds:List Addr,ys=ds.map V.ref/\ds.length=n/\∀i d,ds[i]? = some d->A i d:=by
 have key:∀{l:List Nat} {ys:List V},Paired (λi v=>∃d,v=V.ref d/\A i d) l ys->∃ds:List Addr,ys=ds.map V.ref:=fun{l ys} h=>by
  induction h with
  | nil=>exact⟨[],rfl⟩
  | cons r _ ih=>obtain⟨d,e,_⟩:=r;obtain⟨ds,q⟩:=ih;exact⟨d :: ds,by rw[List.map_cons,e,q]⟩
 obtain⟨ds,e⟩:=key h
 have lh:=Paired.length h
 rw[List.length_range,e,List.length_map]at lh
 refine⟨ds,e,lh.symm,λi d hd => ?_⟩
 have hv:ys[i]? = some (.ref d):=by rw[e,List.getElem?_map,hd];rfl
 obtain⟨j,hj,d',ed,q⟩:=pget h hv
 have hi:i < n:=by rw[lh];exact(List.getElem?_eq_some_iff.mp hd).1
 rw[List.getElem?_range hi]at hj
 injection hj with hj;subst hj
 injection ed with ed;subst ed
 exact q
theorem ML.ge{n:Int}{m:Nat}{H:Hp}{b:Addr}{ds:List Addr}{kvss:List (List (List Key×V))}(h:ML n m H b ds kvss){i:Nat}{d:Addr}(hd:ds[i]? = some d):∃kvs,kvss[i]? = some kvs/\H d=some (.dT kvs)/\Mn n m H kvs:=by
 have hi:i < kvss.length:=by rw[<- h.len];exact(List.getElem?_eq_some_iff.mp hd).1
 exact⟨_,List.getElem?_eq_getElem hi,h.row i d _ hd (List.getElem?_eq_getElem hi)⟩
theorem ML.all{n:Int}{m:Nat}{H:Hp}{b:Addr}{ds:List Addr}{kvss:List (List (List Key×V))}(h:ML n m H b ds kvss):∀kvs∈kvss,Mn n m H kvs:=λkvs hk=>by
 obtain⟨j,hj,ej⟩:=List.mem_iff_getElem.mp hk
 obtain⟨kvs',e,_,q⟩:=h.ge (i:=j) (d:=ds[j]'(by rw[h.len];exact hj)) (List.getElem?_eq_getElem _)
 rw[List.getElem?_eq_getElem hj,ej]at e
 injection e with e;subst e;exact q
theorem ML.heads{n:Int}{m:Nat}{H:Hp}{b:Addr}{ds:List Addr}{kvss:List (List (List Key×V))}(h:ML n m H b ds kvss):∀x∈hsOf kvss,T0 m x/\∀i,x.getD i 0<=topM m:=λx hx=>by
 obtain⟨kvs,hk,hp⟩:=List.mem_flatMap.mp hx
 obtain⟨p,hp,rfl⟩:=List.mem_map.mp hp
 rcases h.all kvs hk with e | ⟨t,v,z,e,t0,tb,_⟩
 ·subst e;cases hp
 ·subst e
  rw[List.mem_singleton.mp hp]
  show T0 m (un (ky t))/\∀i,(un (ky t)).getD i 0<=topM m
  rw[zhg]
  exact⟨t0,tb⟩
theorem ML.pl{n:Int}{m:Nat}{H:Hp}{b:Addr}{ds:List Addr}{kvss:List (List (List Key×V))}(m1:1<=m)(m4:m<=4)(ld:ds.length<=67)(h:ML n m H b ds kvss):PL n m H b ds kvss:=⟨h.at_,h.len,λi d kvs h1 h2=>⟨(h.row i d kvs h1 h2).1,(h.row i d kvs h1 h2).2.pk m1 m4⟩,by omega⟩
def spLaw(K:W.Frag)(Pt:Addr):Sp:=λvs H Q _=>∃(a:Addr) (ns:List Int),vs=[.ref a]/\SqL K H a (ns.map V.int)/\ns.length<=63/\H Pt=some (.tbl #[])/\∀H',Q (.bl true) H'
end K6
namespace K6
open PySem L2
open K1 K2 K3 K37
section
variable{P:Program}{w:World}{K:W.Frag}{mg:Str->Option Value}{base:Heap}{f:Addr}{fd:FuncData}{zam zad zan zai zac zaj zab:Addr}{zal zck zc4 zca zcb zcc zcl zaw zd2 zbk:Addr}
local macro_rules | `(tactic| walk_at "sd") => `(tactic| first
 | assumption | (dsimp only;omega) | (dsimp only;decide) | exact⟨by decide,by decide⟩ | exact⟨by decide,by decide,by decide⟩ | exact Or.inl ⟨by decide,by decide⟩ | exact⟨by omega,by omega⟩ | exact Or.inl ⟨by omega,by omega⟩ | exact Or.inr ⟨by decide,by decide⟩ | exact Or.inr ⟨by omega,by omega⟩)
local macro_rules | `(tactic| walk_at "rd") => `(tactic| repeat first
 | refine⟨_,rfl,?_⟩ | refine⟨_,_,rfl,rfl,?_⟩ | refine And.intro rfl ?_ | refine And.intro (by walk_at "sd") ?_ | with_reducible refine iteT ?_ | with_reducible refine iteF ?_ | (apply ixT_of;assumption;rfl))
local macro_rules | `(tactic| walk_at "clo") => `(tactic| exact h)
theorem scProd:FnScope ["one","other"] ["one","other"] (defScope zc7):=⟨rfl,rfl,rfl,by decide +kernel,rfl,by decide +kernel,by decide +kernel⟩
set_option maxHeartbeats 4000000 in
theorem zph(F:FunD K "product" "product" zc7 .none f fd)(T:Txt K mg zam zad zan zai zac zaj zab)   : FnOk P w K mg base CX0 1 f fd ["one","other"] (spProd K):=by
 refine F.okN (k:=0) scProd (λvs H Q E h => ?_) (λcdv A outer s H vs Q E hr h => ?_)
 ·obtain⟨a,b,xs,ys,rfl,_⟩:=h
  rfl
 obtain⟨a,b,xs,ys,rfl,h⟩:=h
 refine⟨_,(zah (zar (za4 (zbb (K:=K) rfl) rfl T.b_tuple (by kernel_rfl) ((zaa (zbu (N:=["power","further"]) (Blk.plain (by decide +kernel) (by decide +kernel) rfl (by decide +kernel) zdl) rfl (zfk (K:=K) rfl true true rfl T.b_zip ((zaa (pv 0) (zaa (pv 1) zaf)))) (λC0 s0 H0 fp0=>zhb (K:=K) rfl rfl rfl zdl rfl rfl) (λC0 s0 H0 fp0=>zbv) (λC0 s0 H0 fp0=>zax zc5 (pv 0) (pv 1))) zaf))))),?_⟩
 obtain⟨ha,hb,hl,k⟩:=h
 show tComp _ _ _ _ _ _ _ _
 refine zef (K:=K) (b1:=true) (b2:=true) (a:=a) (b:=b) (xs:=xs) (ys:=ys) yes2 (λx y => .int (x + y)) (by rfl) ?_ ha hb hl ?_ ?_ λD H' e hL => ?_
 ·exact λR hR=>⟨_,rfl,_,rfl,hR⟩
 ·exact λ_ _ _ h=>h
 ·exact λi H' R _ h=>⟨_,rfl,_,rfl,_,_,rfl,rfl,h⟩
 rw[zmf (λx y=>x + y)]at hL
 refine⟨D,_,rfl,.inl ⟨SqL.of hL,λr hr => ?_⟩⟩
 exact k r _ (e.trans (Same.upd hr)) zae
theorem scGoes:FnScope ["one","other"] ["one","other"] (defScope zcg):=⟨rfl,rfl,rfl,by decide +kernel,rfl,by decide +kernel,by decide +kernel⟩
set_option maxHeartbeats 4000000 in
theorem zqx(F:FunD K "goes_into" "goes_into" zcg .none f fd)(T:Txt K mg zam zad zan zai zac zaj zab)   : FnOk P w K mg base CX0 1 f fd ["one","other"] (spGoes K):=by
 refine F.okN (k:=0) scGoes (λvs H Q E h => ?_) (λcdv A outer s H vs Q E hr h => ?_)
 ·obtain⟨a,b,xs,ys,rfl,_⟩:=h
  rfl
 obtain⟨a,b,xs,ys,rfl,h⟩:=h
 refine⟨_,(zah (zar (zat (zfq (K:=K) rfl rfl) rfl T.b_all (by kernel_rfl) ((zaa (zbu (N:=["power","bound"]) (Blk.plain (by decide +kernel) (by decide +kernel) rfl (by decide +kernel) zd1) rfl (zfk (K:=K) rfl true true rfl T.b_zip ((zaa (pv 0) (zaa (pv 1) zaf)))) (λC0 s0 H0 fp0=>zhb (K:=K) rfl rfl rfl zd1 rfl rfl) (λC0 s0 H0 fp0=>zbv) (λC0 s0 H0 fp0=>zc3 znj (pv 0) (pv 1) (nomark _))) zaf))))),?_⟩
 obtain⟨ha,hb,he,hl,k⟩:=h
 show tComp _ _ _ _ _ _ _ _
 refine zef (K:=K) (b1:=true) (b2:=true) (a:=a) (b:=b) (xs:=xs) (ys:=ys) yes2 (λx y => .bl (decide (x<=y))) (by rfl) ?_ ha hb hl ?_ ?_ λD H' e hL => ?_
 ·exact λR hR=>⟨_,rfl,_,rfl,hR⟩
 ·exact λ_ _ _ h=>h
 ·exact λi H' R _ h=>⟨_,rfl,_,rfl,_,_,rfl,rfl,h⟩
 refine⟨D,(List.range xs.length).map λi=>decide (xs.getD i 0<=ys.getD i 0),rfl,SqL.of ?_,?_⟩
 ·rw[hL]
  unfold zipV
  rw[List.filter_eq_self.mpr (λ_ _=>rfl),List.map_map,<- he,Nat.min_self]
  rfl
 ·have e2:((List.range xs.length).map λi=>decide (xs.getD i 0<=ys.getD i 0)).all id=goesI xs ys:=by
   unfold goesI
   rw[List.all_map];rfl
  rw[e2]
  exact k _ e
theorem scDeg:FnScope ["term"] ["term"] (defScope zdx):=⟨rfl,rfl,rfl,by decide +kernel,rfl,by decide +kernel,by decide +kernel⟩
set_option maxHeartbeats 4000000 in
theorem zsj(F:FunD K "degree" "degree" zdx .none f fd)(T:Txt K mg zam zad zan zai zac zaj zab)   : FnOk P w K mg base CX0 1 f fd ["term"] (spDeg K):=by
 refine F.okN (k:=0) scDeg (λvs H Q E h => ?_) (λcdv A outer s H vs Q E hr h => ?_)
 ·obtain⟨a,xs,rfl,_⟩:=h
  rfl
 obtain⟨a,xs,rfl,h⟩:=h
 refine⟨_,(zah (zar (zat (zdd (K:=K) rfl true rfl) rfl T.b_sum (by kernel_rfl) ((zaa (pv 0) zaf))))),?_⟩
 obtain⟨h1,k⟩:=h
 exact⟨_,rfl,a,xs,rfl,h1,k⟩
theorem scAlone:FnScope ["many","at","power"] ["many","at","power"] (defScope zet):=⟨rfl,rfl,rfl,by decide +kernel,rfl,by decide +kernel,by decide +kernel⟩
set_option maxHeartbeats 4000000 in
theorem zmu(F:FunD K "alone" "alone" zet .none f fd)(T:Txt K mg zam zad zan zai zac zaj zab)   : FnOk P w K mg base CX0 1 f fd ["many","at","power"] spAlone:=by
 refine F.okN (k:=0) scAlone (λvs H Q E h => ?_) (λcdv A outer s H vs Q E hr h => ?_)
 ·obtain⟨m,a,p,rfl,_⟩:=h
  rfl
 obtain⟨m,a,p,rfl,h⟩:=h
 refine⟨_,(zah (zar (za4 (zbb (K:=K) rfl) rfl T.b_tuple (by kernel_rfl) ((zaa (zbu (N:=["place","at","power"]) (cl:=[("power",s.heap.objs.size + 2),("at",s.heap.objs.size + 1)]) (mp:=[none,some 1,some 2]) (Blk.of rfl (by decide +kernel) rfl (by decide +kernel) zc8 (zbf rfl (zbf rfl zcp)) (zgp (fs:=["power","at"]) rfl (by decide +kernel)) rfl (zb7 (zbc rfl (.inl rfl) rfl (zbc rfl (.inl rfl) rfl zco)))) rfl (zb9 rfl T.b_range ((zaa (pv 0) zaf))) (λC0 s0 H0 fp0=>zcz (i:=0) zc8 rfl rfl) (λC0 s0 H0 fp0=>zbv) (λC0 s0 H0 fp0=>zop (zav zdu (pv 0) (pv 1) (nomark _)) (pv 2) (zak))) zaf))))),?_⟩
 obtain⟨m1,m2,a0,k⟩:=h
 show tComp _ _ _ _ _ _ _ _
 refine zf2 (H1:=H) m (λσ=>∃v,σ = [v,some (.int a),some (.int p)]) (λ_=>true) (λi => .int (if i=a.toNat then p else 0)) (by omega) (by omega) ?_ ⟨none,rfl⟩ ?_ λD H' e hL => ?_
 ·exact λR hR=>⟨_,rfl,hR⟩
 ·rintro i σ' H2 hi ⟨z,rfl⟩ e Ny Nn hy hn
  unfold gName tYes
  dsimp only
  rw[if_pos rfl]
  have q:=hy [some (.int (0 + (i:Int))),some (.int a),some (.int p)] H2 ⟨_,rfl⟩ (Same.refl _) rfl
  refine⟨_,rfl,_,rfl,rfl,_,rfl,cEq (λc => ?_) (λc => ?_)⟩
  ·rw[if_pos (by omega)]at q
   exact⟨_,rfl,q⟩
  ·rw[if_neg (by omega)]at q
   exact q
 rw[List.filter_eq_self.mpr (λ_ _=>rfl)]at hL
 refine⟨D,_,rfl,.inl ⟨SqL.of hL,λl hl=>k l _ (e.updR (e.free hl)) ?_⟩⟩
 rw[zae]
 unfold only
 rw[List.map_map]
 rfl
theorem scRankO:FnScope ["self","term"] ["self","term"] (defScope zb0):=⟨rfl,rfl,rfl,by decide +kernel,rfl,by decide +kernel,by decide +kernel⟩
set_option maxHeartbeats 4000000 in
theorem zoh(F:FunD K "rank" "Order.rank" zb0 .none f fd)(T:Txt K mg zam zad zan zai zac zaj zab)   : FnOk P w K mg base CX0 1 f fd ["self","term"] (spRank (AtO zai) rkL):=by
 refine F.okN (k:=0) scRankO (λvs H Q E h => ?_) (λcdv A outer s H vs Q E hr h => ?_)
 ·obtain⟨p,t,xs,rfl,_⟩:=h
  rfl
 obtain⟨p,t,xs,rfl,h⟩:=h
 refine⟨_,(zah (zar (za4 (zbb (K:=K) rfl) rfl T.b_tuple (by kernel_rfl) ((zaa (pv 1) zaf))))),?_⟩
 obtain⟨hp,ht0,px,k⟩:=h
 have ht:=SqT.of (K:=K) ht0
 exact⟨_,rfl,t,_,rfl,.inr ⟨ht,k t H (Same.refl _) ht0⟩⟩
theorem scRankD:FnScope ["self","term"] ["self","term"] (defScope zbn):=⟨rfl,rfl,rfl,by decide +kernel,rfl,by decide +kernel,by decide +kernel⟩
set_option maxHeartbeats 4000000 in
theorem zm5(F:FunD K "rank" "Degrees.rank" zbn .none f fd)(T:Txt K mg zam zad zan zai zac zaj zab)(c_Deg:Cal P w K mg base CX0 1 "degree" ["term"] [] (spDeg K)):FnOk P w K mg base CX0 2 f fd ["self","term"] (spRank (AtO zac) rkD):=by
 refine F.okN (k:=1) scRankD (λvs H Q E h => ?_) (λcdv A outer s H vs Q E hr h => ?_)
 ·obtain⟨p,t,xs,rfl,_⟩:=h
  rfl
 obtain⟨p,t,xs,rfl,h⟩:=h
 refine⟨_,(zah (zar (zax zd8 (zdq ((zaa (pe_c c_Deg hr pass00 .nil ((zaa (pv 1) zaf))) zaf))) (za4 (zbb (K:=K) rfl) rfl T.b_tuple (by kernel_rfl) ((zaa (pv 1) zaf)))))),?_⟩
 obtain⟨hp,ht0,px,k⟩:=h
 have ht:=SqT.of (K:=K) ht0
 refine⟨_,rfl,t,xs,rfl,ht,(by show 1<=sizeLine;decide),λl hl => ?_⟩
 have e1:Same H (upd H l (HO.tup [V.int xs.sum])):=Same.upd hl
 refine⟨_,rfl,t,_,rfl,.inr ⟨e1.seqT ht,?_⟩⟩
 refine⟨_,_,_,_,rfl,rfl,SqT.of (zae),e1.seqT ht,by simp,by simp;exact Nat.le_trans (Nat.add_le_add_left px.len 1) (by rw[sizeLine_eq];decide),λz => ?_,λ_ r hr' => ?_⟩
 ·exact absurd (List.map_eq_nil_iff.mp z) px.ne
 ·exact k r _ (e1.updR (e1.free hr')) zae
theorem scRankT:FnScope ["self","term"] ["self","term"] (defScope zbw):=⟨rfl,rfl,rfl,by decide +kernel,rfl,by decide +kernel,by decide +kernel⟩
set_option maxHeartbeats 4000000 in
theorem znf(F:FunD K "rank" "Tails.rank" zbw .none f fd)(T:Txt K mg zam zad zan zai zac zaj zab)(c_Deg:Cal P w K mg base CX0 1 "degree" ["term"] [] (spDeg K)):FnOk P w K mg base CX0 2 f fd ["self","term"] (spRank (AtO zaj) rkT):=by
 refine F.okN (k:=1) scRankT (λvs H Q E h => ?_) (λcdv A outer s H vs Q E hr h => ?_)
 ·obtain⟨p,t,xs,rfl,_⟩:=h
  rfl
 obtain⟨p,t,xs,rfl,h⟩:=h
 refine⟨_,(zah (zar (zax zd8 (zdq ((zaa (pe_c c_Deg hr pass00 .nil ((zaa (pv 1) zaf))) zaf))) (za4 (zbb (K:=K) rfl) rfl T.b_tuple (by kernel_rfl) ((zaa (zbu (N:=["power"]) (Blk.plain (by decide +kernel) (by decide +kernel) rfl (by decide +kernel) zjk) rfl (zlr (K:=K) rfl rfl T.b_reversed ((zaa (pv 1) zaf))) (λC0 s0 H0 fp0=>zcz (i:=0) zjk rfl rfl) (λC0 s0 H0 fp0=>zbv) (λC0 s0 H0 fp0=>zse zoy (pv 0))) zaf)))))),?_⟩
 obtain⟨hp,ht0,px,k⟩:=h
 have ht:=SqT.of (K:=K) ht0
 refine⟨_,rfl,t,xs,rfl,ht,(by show 1<=sizeLine;decide),λl hl => ?_⟩
 have e1:Same H (upd H l (HO.tup [V.int xs.sum])):=Same.upd hl
 have ht1:=e1.seqT ht
 have lm:(xs.map V.int).length=xs.length:=List.length_map _
 show tComp _ _ _ _ _ _ _ _
 refine zcu (J:=Itv K t (xs.map V.int).length) (H1:=upd H l (HO.tup [V.int xs.sum])) (zi3 ht1) (by rw[lm];exact Nat.le_trans px.len (by decide)) ?_ (λσ=>σ.length=1) (λ_=>true) (λi => .int (-(xs.getD (xs.length - 1 - i) 0))) rfl ?_ λD H' e hL => ?_
 ·exact λR hR=>⟨_,rfl,t,_,rfl,ht1,hR⟩
 ·rintro i x σ' H2 hi hs e hx Ny Nn hy hn
  rw[lm]at hx
  rw[zcv hx]
  match σ',hs with
  | [_],_=>exact⟨_,rfl,_,rfl,hy _ _ rfl (Same.refl _) rfl⟩
 rw[List.filter_eq_self.mpr (λ_ _=>rfl),lm]at hL
 have eL:(List.range xs.length).map (λi=>V.int (-(xs.getD (xs.length - 1 - i) 0)))=(xs.reverse.map λx => -x).map V.int:=by
  rw[<- zjh xs λx => -x,List.map_map];rfl
 rw[eL]at hL
 refine⟨D,_,rfl,.inl ⟨SqL.of hL,λm hm => ?_⟩⟩
 have e2:Same H' (upd H' m (HO.tup ((xs.reverse.map λx => -x).map V.int))):=Same.upd hm
 have e3:=(e1.trans e).trans e2
 refine⟨l,m,_,_,rfl,rfl,SqT.of (e2 _ _ (e _ _ zae)),SqT.of zae,by simp,by simp;exact Nat.le_trans (Nat.add_le_add_left px.len 1) (by rw[sizeLine_eq];decide),λz => ?_,λ_ r hr' => ?_⟩
 ·exact absurd (by simpa using z) px.ne
 ·exact k r _ (e3.updR (e3.free hr')) zae
theorem scWInit:FnScope ["self","weights"] ["self","weights"] (defScope za3):=⟨rfl,rfl,rfl,by decide +kernel,rfl,by decide +kernel,by decide +kernel⟩
set_option maxHeartbeats 4000000 in
theorem zm8(F:FunD K "__init__" "Weights.__init__" za3 .none f fd)(T:Txt K mg zam zad zan zai zac zaj zab)(x_NoOrder:Exc K mg base "NoOrder" zcb)  : FnOk P w K mg base (CXe P w) 1 f fd ["self","weights"] (spWInit K zab zcb):=by
 refine F.okX (k:=0) scWInit (λvs H Q E h => ?_) (λcdv A outer s H vs Q E hr h => ?_)
 ·obtain⟨p,dx,l,ws,rfl,_⟩:=h
  rfl
 obtain⟨p,dx,l,ws,rfl,h⟩:=h
 refine⟨_,(zag (zcd (zc9 (zat (zfc (K:=K) rfl rfl) rfl T.b_any (by kernel_rfl) ((zaa (zbu (N:=["weight"]) (Blk.plain (by decide +kernel) (by decide +kernel) rfl (by decide +kernel) zhn) rfl (zbr (K:=K) rfl (pv 1)) (λC0 s0 H0 fp0=>zcz (i:=0) zhn rfl rfl) (λC0 s0 H0 fp0=>zbv) (λC0 s0 H0 fp0=>zc3 zm0 (pv 0) (zak) (nomark _))) zaf)))) (zah (zjy x_NoOrder rfl rfl zbs ((zaa (zf1) zaf)))) zaz)
  (zah (zhx (pv 0) (za4 (zbb (K:=K) rfl) rfl T.b_tuple (by kernel_rfl) ((zaa (pv 1) zaf))) rfl))),?_⟩
 obtain⟨hp,hl,hlen,k⟩:=h
 have lm:(ws.map V.int).length=ws.length:=List.length_map _
 show tComp _ _ _ _ _ _ _ _
 refine zcu (J:=Itl K l) (H1:=H) (zb6 hl) (by rw[lm];exact Nat.le_trans hlen (by decide)) ?_ (λσ=>σ.length=1) (λ_=>true) (λi => .bl (decide (ws.getD i 0 < 0))) rfl ?_ λD H' e hL => ?_
 ·exact λR hR=>⟨_,rfl,l,rfl,⟨_,hl⟩,hR⟩
 ·rintro i x σ' H2 hi hs e hx Ny Nn hy hn
  rw[zcv hx]
  match σ',hs with
  | [_],_=>exact⟨_,rfl,_,_,rfl,rfl,hy _ _ rfl (Same.refl _) rfl⟩
 rw[List.filter_eq_self.mpr (λ_ _=>rfl),lm]at hL
 have eL:(List.range ws.length).map (λi=>V.bl (decide (ws.getD i 0 < 0)))=((List.range ws.length).map λi=>decide (ws.getD i 0 < 0)).map V.bl:=by rw[List.map_map];rfl
 rw[eL]at hL
 refine⟨D,_,rfl,SqL.of hL,_,rfl,?_⟩
 rw[zp0]
 refine cN (λc => ?_) (λc => ?_)
 ·refine⟨(by show 1<=sizeLine;decide),?_⟩
  rcases k with⟨q,_⟩ | ⟨_,q⟩
  ·exact absurd q c
  ·exact q H' e
 rcases k with⟨_,k⟩ | ⟨q,_⟩
 case inr=>exact absurd c q
 refine⟨_,rfl,l,_,rfl,.inl ⟨e.seq hl,λm hm => ?_⟩⟩
 have e2:Same H' (upd H' m (HO.tup (ws.map V.int))):=Same.upd hm
 have hp2:=e2 _ _ (e _ _ hp)
 have npm:m≠p:=λz=>by subst z;rw[e _ _ hp]at hm;cases hm
 refine⟨_,rfl,p,zab,dx,[],rfl,hp2,T.cl_Weights,T.na_Weights_weights,(by show 0 < 1000;decide),?_⟩
 refine k m _ zae (by rw[zao npm];exact zae) λb o hb nb => ?_
 rw[zao nb]
 exact e2 _ _ (e _ _ hb)
theorem scRankW:FnScope ["self","term","weighed"] ["self","term"] (defScope zbm):=⟨rfl,rfl,rfl,by decide +kernel,rfl,by decide +kernel,by decide +kernel⟩
set_option maxHeartbeats 4000000 in
theorem zn1{ws:List Int}(F:FunD K "rank" "Weights.rank" zbm .none f fd)(T:Txt K mg zam zad zan zai zac zaj zab)  (hwn:Nn ws) (hwb:∀x∈ws,x < 10 ^ 31):FnOk P w K mg base CX0 1 f fd ["self","term"] (spRank (AtW zab ws) (rkW ws)):=by
 refine F.okN (k:=0) scRankW (λvs H Q E h => ?_) (λcdv A outer s H vs Q E hr h => ?_)
 ·obtain⟨p,t,xs,rfl,_⟩:=h
  rfl
 obtain⟨p,t,xs,rfl,h⟩:=h
 refine⟨_,(zag (zau (i:=2) scRankW.nd rfl (Or.inl rfl) (zat (zdd (K:=K) rfl false rfl) rfl T.b_sum (by kernel_rfl) ((zaa (zbu (N:=["power","weight"]) (Blk.plain (by decide +kernel) (by decide +kernel) rfl (by decide +kernel) zdn) rfl (zfk (K:=K) rfl true true rfl T.b_zip ((zaa (pv 1) (zaa (zdp (K:=K) rfl (pv 0) rfl) zaf)))) (λC0 s0 H0 fp0=>zhb (K:=K) rfl rfl rfl zdn rfl rfl) (λC0 s0 H0 fp0=>zbv) (λC0 s0 H0 fp0=>zax zkw (pv 0) (pv 1))) zaf))))
  (zah (zar (zax zd8 (zdq ((zaa (pv 2) zaf))) (za4 (zbb (K:=K) rfl) rfl T.b_tuple (by kernel_rfl) ((zaa (pv 1) zaf))))))),?_⟩
 obtain⟨hp,ht0,px,k⟩:=h
 have ht:=SqT.of (K:=K) ht0
 obtain⟨dx,wt,hq,hw⟩:=id hp
 show tComp _ _ _ _ _ _ _ _
 refine zef (K:=K) (b1:=true) (b2:=true) (a:=t) (b:=wt) (xs:=xs) (ys:=ws) yes2 (λx y => .int (x * y)) (by rfl) ?_ ht (SqT.of hw) (Nat.le_trans px.len (by decide)) ?_ ?_ λD H' e hL => ?_
 ·exact λR hR=>⟨_,rfl,_,rfl,p,zab,dx,_,_,rfl,hq,T.cl_Weights,T.na_Weights_weights,rfl,hR⟩
 ·exact λ_ _ _ h=>h
 ·exact λi H' R _ h=>⟨_,rfl,_,rfl,_,_,rfl,rfl,⟨bits px.nn px.hi i,bits hwn hwb i⟩,h⟩
 rw[zmf]at hL
 refine⟨D,_,rfl,SqL.of hL,?_⟩
 refine⟨_,rfl,(by show 1<=sizeLine;decide),λl hl => ?_⟩
 have e1:Same H' (upd H' l (HO.tup [V.int (wsum ws xs)])):=Same.upd hl
 have e2:=e.trans e1
 refine⟨_,rfl,t,_,rfl,.inr ⟨e2.seqT ht,?_⟩⟩
 refine⟨_,_,_,_,rfl,rfl,SqT.of (zae),e2.seqT ht,by simp,by simp;exact Nat.le_trans (Nat.add_le_add_left px.len 1) (by rw[sizeLine_eq];decide),λz => ?_,λ_ r hr' => ?_⟩
 ·exact absurd (List.map_eq_nil_iff.mp z) px.ne
 ·exact k r _ (e2.updR (e2.free hr')) zae
theorem scFitsO:FnScope ["self","many"] ["self","many"] (defScope zb4):=⟨rfl,rfl,rfl,by decide +kernel,rfl,by decide +kernel,by decide +kernel⟩
set_option maxHeartbeats 4000000 in
theorem zge{At:Hp->Addr->Prop}(F:FunD K "fits" "Order.fits" zb4 .none f fd)(T:Txt K mg zam zad zan zai zac zaj zab)   : FnOk P w K mg base CX0 1 f fd ["self","many"] (spFits At λ_=>true):=by
 refine F.okN (k:=0) scFitsO (λvs H Q E h => ?_) (λcdv A outer s H vs Q E hr h => ?_)
 ·obtain⟨p,k,rfl,_⟩:=h
  rfl
 obtain⟨p,k,rfl,h⟩:=h
 refine⟨_,(zah (zar (zd3))),?_⟩
 exact h.2 H (Same.refl _)
theorem scFitsW:FnScope ["self","many"] ["self","many"] (defScope zbp):=⟨rfl,rfl,rfl,by decide +kernel,rfl,by decide +kernel,by decide +kernel⟩
set_option maxHeartbeats 4000000 in
theorem zn3{ws:List Int}(F:FunD K "fits" "Weights.fits" zbp .none f fd)(T:Txt K mg zam zad zan zai zac zaj zab)   : FnOk P w K mg base CX0 1 f fd ["self","many"] (spFits (AtW zab ws) λk=>decide ((ws.length:Int)=k)):=by
 refine F.okN (k:=0) scFitsW (λvs H Q E h => ?_) (λcdv A outer s H vs Q E hr h => ?_)
 ·obtain⟨p,k,rfl,_⟩:=h
  rfl
 obtain⟨p,k,rfl,h⟩:=h
 refine⟨_,(zah (zar (zc3 zdu (zat (zen (K:=K) rfl) rfl T.b_len PySem.boot_len ((zaa (zdp (K:=K) rfl (pv 0) rfl) zaf))) (pv 1) (nomark _)))),?_⟩
 obtain⟨hp,q⟩:=h
 obtain⟨dx,wt,hq,hw⟩:=id hp
 refine⟨_,rfl,p,zab,dx,_,_,rfl,hq,T.cl_Weights,T.na_Weights_weights,rfl,wt,_,rfl,.inr (SqT.of hw),?_⟩
 rw[List.length_map]
 walk_at "rd"
 have:=q H (Same.refl _)
 rw[dI]
 exact this
theorem scFirst:FnScope ["self","terms"] ["self","terms"] (defScope za6):=⟨rfl,rfl,rfl,by decide +kernel,rfl,by decide +kernel,by decide +kernel⟩
set_option maxHeartbeats 4000000 in
theorem ze6{C:Addr}{At:Hp->Addr->Prop}{rk:List Int->List Int}(F:FunD K "first_of" "Order.first_of" za6 .none f fd)(T:Txt K mg zam zad zan zai zac zaj zab)(x_NoTerm:Exc K mg base "NoTerm" zaw)(oC:OrdC C At)(mR:MCal P w K mg base CX0 3 C "rank" ["self","term"] [] (spRank At rk))(bR:BM K C "rank"):FnOk P w K mg base (CXe P w) 6 f fd ["self","terms"] (spFirst At rk zaw):=by
 refine F.okX (k:=5) scFirst (λvs H Q E h => ?_) (λcdv A outer s H vs Q E hr h => ?_)
 ·obtain⟨p,l,ys,xss,rfl,_⟩:=h
  rfl
 obtain⟨p,l,ys,xss,rfl,h⟩:=h
 refine⟨_,(zag (zcd (zav zdu (zat (zen (K:=K) rfl) rfl T.b_len PySem.boot_len ((zaa (pv 1) zaf))) (zak) (nomark _)) (zah (zjy x_NoTerm rfl rfl zbs ((zaa (zf1) zaf)))) zaz)
  (zah (zar (zq8 mR bR (pv 1) (pv 0) hr .nil T.b_max)))),?_⟩
 obtain⟨hp,hl,ht,hw,k⟩:=h
 obtain⟨dx,fs,hq,nl⟩:=oC.ins hp
 refine⟨_,rfl,l,_,rfl,.inl (SqL.of hl),?_⟩
 walk_at "rd"
 refine cEq (λc => ?_) (λc => ?_)
 ·refine⟨(by show 1<=sizeLine;decide),?_⟩
  have y0:ys=[]:=List.length_eq_zero_iff.mp (by omega)
  rcases k with⟨_,k⟩ | ⟨q,_⟩
  ·exact k
  ·exact absurd y0 q
 rcases k with⟨q,_⟩ | ⟨_,k⟩
 ·rw[q]at c;exact absurd rfl c
 refine⟨_,rfl,_,rfl,p,dx,fs,l,ys,rfl,hq,nl "rank" (by decide +kernel),rfl,hl,?_⟩
 exact zru oC xss ys H hp hl ht hw (λz=>by rw[z]at c;exact c rfl) k
theorem scFall:FnScope ["self","terms"] ["self","terms"] (defScope zbg):=⟨rfl,rfl,rfl,by decide +kernel,rfl,by decide +kernel,by decide +kernel⟩
set_option maxHeartbeats 4000000 in
theorem zgb{C:Addr}{At:Hp->Addr->Prop}{rk:List Int->List Int}(F:FunD K "falling" "Order.falling" zbg .none f fd)(T:Txt K mg zam zad zan zai zac zaj zab)  (oC:OrdC C At) (mR:MCal P w K mg base CX0 3 C "rank" ["self","term"] [] (spRank At rk)) (bR:BM K C "rank") (ne:∀xs,Pws xs->rk xs≠[]):FnOk P w K mg base CX0 6 f fd ["self","terms"] (spFall At rk):=by
 refine F.okN (k:=5) scFall (λvs H Q E h => ?_) (λcdv A outer s H vs Q E hr h => ?_)
 ·obtain⟨p,l,ys,xss,rfl,_⟩:=h
  rfl
 obtain⟨p,l,ys,xss,rfl,h⟩:=h
 refine⟨_,(zah (zar (zol mR bR (pv 1) (pv 0) hr .nil T.b_sorted))),?_⟩
 obtain⟨hp,hl,ht,hw,k⟩:=h
 obtain⟨dx,fs,hq,nl⟩:=oC.ins hp
 refine⟨_,rfl,_,rfl,p,dx,fs,l,ys,rfl,hq,nl "rank" (by decide +kernel),rfl,hl,?_⟩
 refine zk2 (K:=K) oC ne xss ys [] [] H H (Same.refl _) hp ht hw .nil λks' H' e hk => ?_
 refine⟨xss.map rk,hk,λps' hp' hs' D hD => ?_⟩
 rw[zfm]at hp'
 obtain⟨ps,q1,rfl⟩:=ze1 _ hp' _ rfl
 rw[List.pairwise_map]at hs'
 refine k D _ ps (e.updR (e.free hD)) q1 (hs'.imp λh=>by simpa using h) ?_
 rw[zae,List.map_map]
 rfl
theorem scRgInit:FnScope ["self","many","field","order"] ["self","many","field","order"] (defScope zbh):=⟨rfl,rfl,rfl,by decide +kernel,rfl,by decide +kernel,by decide +kernel⟩
set_option maxHeartbeats 4000000 in
theorem zli(F:FunD K "__init__" "Ring.__init__" zbh .none f fd)(T:Txt K mg zam zad zan zai zac zaj zab)(x_NoRing:Exc K mg base "NoRing" zcl){zaw:Addr}(hord:∀(kd:Int) (ws:List Int),0<=kd->kd < 4->Nn ws->(∀x∈ws,x < 10 ^ 31)->∃C,OrdE P w K mg base zaw C (AtK zai zac zaj zab kd ws) (rkk kd ws) (fbK kd ws)):FnOk P w K mg base (CXe P w) 2 f fd ["self","many","field","order"] (spRgInit zam zcl zai zac zaj zab):=by
 refine F.okX (k:=1) scRgInit (λvs H Q E h => ?_) (λcdv A outer s H vs Q E hr h => ?_)
 ·obtain⟨r,dx,m,pf,po,kd,ws,rfl,_⟩:=h
  rfl
 obtain⟨r,dx,m,pf,po,kd,ws,rfl,h⟩:=h
 obtain⟨C,O⟩:=hord kd ws h.2.1 h.2.2.1 h.2.2.2.1 h.2.2.2.2.1
 refine⟨_,(zag (zcd (PW.pt (zj7 (zav zm0 (pv 1) (zak) (nomark _)) (zj7 (zav znc (pv 1) (zat zhw rfl T.b_len PySem.boot_len ((zaa (znp T.g_LETTERS rfl) zaf))) (nomark _)) (ziy (zee (zc9 (pe_m O.fits (pv 3) hr pass00 .nil ((zaa (pv 1) zaf))))))))) (zah (zjy x_NoRing rfl rfl zbs ((zaa (zf1) zaf)))) zaz)
  (zag (zhx (pv 0) (pv 1) rfl)
  (zag (zhx (pv 0) (pv 2) rfl)
  (zah (zhx (pv 0) (pv 3) rfl))))),?_⟩
 obtain⟨hr0,k0,k4,wn,wb,hat,k⟩:=h
 have no:¬okR kd ws m->∀H',Same H H'->E (.ref zcl) none H':=λq=>by
  rcases k with⟨z,_⟩ | ⟨_,z⟩
  ·exact absurd z q
  ·exact z
 walk_at "rd"
 refine cD (λc => ?_) (λc => ?_)
 ·exact⟨(by show 1<=sizeLine;decide),no (λz=>by have:=z.1;omega) H (Same.refl _)⟩
 refine⟨_,rfl,_,rfl,(by decide +kernel),?_⟩
 rw[znr]
 walk_at "rd"
 refine cD (λc1 => ?_) (λc1 => ?_)
 ·exact⟨(by show 1<=sizeLine;decide),no (λz=>by have:=z.2.1;omega) H (Same.refl _)⟩
 obtain⟨dO,fs,hq,nl⟩:=O.oC.ins hat
 refine⟨_,rfl,po,dO,fs,rfl,hq,nl "fits" (by decide +kernel),_,rfl,po,m,rfl,hat,λH1 e1 => ?_⟩
 refine⟨_,rfl,cNB (λc2 => ?_) (λc2 => ?_)⟩
 ·exact⟨(by show 1<=sizeLine;decide),no (λz=>by rw[z.2.2]at c2;cases c2) H1 e1⟩
 rcases k with⟨_,k⟩ | ⟨q,_⟩
 case inr=>exact absurd ⟨by omega,by omega,c2⟩ q
 have hr1:=e1 _ _ hr0
 refine⟨_,rfl,_,rfl,r,zam,dx,_,rfl,hr1,T.cl_Ring,T.na_Ring_many,(by show 0 < 1000;decide),?_⟩
 refine⟨_,rfl,_,rfl,r,zam,dx,_,rfl,zae,T.cl_Ring,T.na_Ring_field,(by show 1 < 1000;decide),?_⟩
 refine⟨_,rfl,_,rfl,r,zam,dx,_,rfl,zae,T.cl_Ring,T.na_Ring_order,(by show 2 < 1000;decide),?_⟩
 refine k _ zae λb o hb ne => ?_
 rw[zao ne,zao ne,zao ne]
 exact e1 _ _ hb
theorem scUnit:FnScope ["self"] ["self"] (defScope zci):=⟨rfl,rfl,rfl,by decide +kernel,rfl,by decide +kernel,by decide +kernel⟩
set_option maxHeartbeats 4000000 in
theorem zpz(F:FunD K "unit" "Ring.unit" zci .none f fd)(T:Txt K mg zam zad zan zai zac zaj zab)   : FnOk P w K mg base CX0 1 f fd ["self"] (spUnit zam):=by
 refine F.okN (k:=0) scUnit (λvs H Q E h => ?_) (λcdv A outer s H vs Q E hr h => ?_)
 ·obtain⟨r,m,pf,po,rfl,_⟩:=h
  rfl
 obtain⟨r,m,pf,po,rfl,h⟩:=h
 refine⟨_,(zah (zar (zax zp1 (zdq ((zaa (zak) zaf))) (zdp (K:=K) rfl (pv 0) rfl)))),?_⟩
 obtain⟨⟨dx,hr0⟩,m1,m2,k⟩:=h
 refine⟨(by show 1<=sizeLine;decide),λt0 ht0 => ?_⟩
 have e1:Same H (upd H t0 (HO.tup [V.int 0])):=Same.upd ht0
 refine⟨_,rfl,r,zam,dx,_,_,rfl,e1 _ _ hr0,T.cl_Ring,T.na_Ring_many,rfl,?_⟩
 refine⟨t0,[.int 0],m,rfl,rfl,SqT.of zae,by simp,m1,by omega,by simp;omega,λe => ?_,λh2 p hp => ?_⟩
 ·subst e
  exact k t0 _ e1 zae
 ·rw[zpb]
  exact k p _ (e1.updR (e1.free hp)) zae
theorem scPrime:FnScope ["number","divisor"] ["number"] (defScope zcs):=⟨rfl,rfl,rfl,by decide +kernel,rfl,by decide +kernel,by decide +kernel⟩
set_option maxHeartbeats 4000000 in
theorem zn8(F:FunD K "is_prime" "is_prime" zcs .none f fd)(T:Txt K mg zam zad zan zai zac zaj zab)   : FnOk P w K mg base CX0 1 f fd ["number"] spPrime:=by
 refine F.okN (k:=0) scPrime (λvs H Q E h => ?_) (λcdv A outer s H vs Q E hr h => ?_)
 ·obtain⟨n,rfl,_⟩:=h
  rfl
 obtain⟨n,rfl,h⟩:=h
 refine⟨_,(zag (zcd (zav zm0 (pv 0) (zak) (nomark _)) (zah (zar (zd3))) zaz)
  (zag (zau (i:=1) scPrime.nd rfl (Or.inl rfl) (zak))
  (zag (zeg PassesOwn.never (zav znj (zax zlc (pv 1) (pv 1)) (pv 0) (nomark _)) (zag (zcd (zav zdu (zax zib (pv 0) (pv 1)) (zak) (nomark _)) (zah (zar (zd3))) zaz)
  (zah (zrd (i:=1) scPrime.nd rfl (Or.inl rfl) (zak) zrm))))
  (zah (zar (zd3)))))),?_⟩
 obtain⟨hn,k⟩:=h
 walk_at "rd"
 refine cD (λc => ?_) (λc => ?_)
 ·show Q (.bl false) H
  rw[low c]
  exact k
 refine⟨λm σ H'=>∃d:Int,m=(200 - d).toNat/\σ = [some (.int n),some (.int d)]/\H'=H/\2<=d/\d<=101/\NoDiv n d,⟨_,2,rfl,rfl,rfl,K3.start n⟩,?_⟩
 rintro m σ H' ⟨d,rfl,rfl,rfl,h2,h3,hd⟩
 refine⟨_,rfl,_,rfl,_,_,rfl,rfl,.inl (zjc (n:=n) h2 h3),?_⟩
 walk_at "rd"
 refine cD (λq => ?_) (λq => ?_)
 ·refine⟨λσ' H''=>σ'=[some (.int n),some (.int (d + 1))]/\H''=H'/\¬Int.fmod n d=0,?_,?_⟩
  ·rintro σ' H'' ⟨rfl,rfl,nz⟩
   exact⟨(200 - (d + 1)).toNat,K3.less h2 q hn,d + 1,rfl,rfl,rfl,K3.turn hd nz h2 q hn⟩
  ·refine⟨_,rfl,_,rfl,_,_,rfl,rfl,(by show d≠0;omega),?_⟩
   walk_at "rd"
   refine cEq (λz => ?_) (λz => ?_)
   ·show Q (.bl false) H'
    rw[found h2 q z]
    exact k
   ·walk_at "rd"
    exact z
 ·show Q (.bl true) H'
  rw[K3.out hd (by omega) h2 q]
  exact k
theorem scFieldInit:FnScope ["self","prime"] ["self","prime"] (defScope za8):=⟨rfl,rfl,rfl,by decide +kernel,rfl,by decide +kernel,by decide +kernel⟩
set_option maxHeartbeats 4000000 in
theorem zht(F:FunD K "__init__" "Field.__init__" za8 .none f fd)(T:Txt K mg zam zad zan zai zac zaj zab)   : FnOk P w K mg base CX0 1 f fd ["self","prime"] (spField K):=by
 refine F.okN (k:=0) scFieldInit (λvs H Q E h => ?_) (λcdv A outer s H vs Q E hr h => ?_)
 ·obtain⟨p,C,dx,v,rfl,_⟩:=h
  rfl
 obtain⟨p,C,dx,v,rfl,h⟩:=h
 refine⟨_,(zah (zhx (pv 0) (pv 1) rfl)),?_⟩
 obtain⟨hp,hc,ha,k⟩:=h
 exact⟨_,rfl,_,rfl,p,C,dx,[],rfl,hp,hc,ha,(by show 0 < 1000;decide),k⟩
theorem scFracInit:FnScope ["self"] ["self"] (defScope zay):=⟨rfl,rfl,rfl,by decide +kernel,rfl,by decide +kernel,by decide +kernel⟩
set_option maxHeartbeats 4000000 in
theorem zii(F:FunD K "__init__" "Fractions.__init__" zay .none f fd)(T:Txt K mg zam zad zan zai zac zaj zab)(q_FieldInit:CCal P w K mg base CX0 1 "Field" "__init__" ["self","prime"] [] (spField K)):FnOk P w K mg base CX0 2 f fd ["self"] (spFracInit zad):=by
 refine F.okN (k:=1) scFracInit (λvs H Q E h => ?_) (λcdv A outer s H vs Q E hr h => ?_)
 ·obtain⟨p,dx,rfl,_⟩:=h
  rfl
 obtain⟨p,dx,rfl,h⟩:=h
 refine⟨_,(zah (zdr (zrn q_FieldInit hr pass00 .nil ((zaa (pv 0) (zaa (zak) zaf)))))),?_⟩
 obtain⟨hp,k⟩:=h
 exact⟨_,rfl,p,_,dx,_,rfl,hp,T.cl_Fractions,T.na_Fractions_prime,k⟩
theorem scRestsInit:FnScope ["self","prime"] ["self","prime"] (defScope za7):=⟨rfl,rfl,rfl,by decide +kernel,rfl,by decide +kernel,by decide +kernel⟩
set_option maxHeartbeats 4000000 in
theorem zhe(F:FunD K "__init__" "Rests.__init__" za7 .none f fd)(T:Txt K mg zam zad zan zai zac zaj zab)(c_Prime:Cal P w K mg base CX0 1 "is_prime" ["number"] [] spPrime)(q_FieldInit:CCal P w K mg base CX0 1 "Field" "__init__" ["self","prime"] [] (spField K))(x_NoPrime:Exc K mg base "NoPrime" zcc)  : FnOk P w K mg base (CXe P w) 2 f fd ["self","prime"] (spRests zan zcc):=by
 refine F.okX (k:=1) scRestsInit (λvs H Q E h => ?_) (λcdv A outer s H vs Q E hr h => ?_)
 ·obtain⟨p,dx,n,rfl,_⟩:=h
  rfl
 obtain⟨p,dx,n,rfl,h⟩:=h
 refine⟨_,(zag (zcd (PW.pt (zj7 (zav znc (pv 1) (zoo T.g_GREATEST_PRIME rfl) (nomark _)) (ziy (zee (zc9 (pe_c c_Prime hr pass00 .nil ((zaa (pv 1) zaf)))))))) (zah (zjy x_NoPrime rfl rfl zbs ((zaa (zf1) zaf)))) zaz)
  (zah (zdr (zrn q_FieldInit hr pass00 .nil ((zaa (pv 0) (zaa (pv 1) zaf))))))),?_⟩
 obtain⟨hp,k⟩:=h
 walk_at "rd"
 refine cD (λc => ?_) (λc => ?_)
 ·walk_at "rd"
  refine⟨(by show 1<=sizeLine;decide),?_⟩
  rcases k with⟨q,_⟩ | ⟨_,q⟩
  ·omega
  ·exact q
 ·refine⟨_,rfl,n,rfl,by omega,_,rfl,?_⟩
  rcases k with⟨_,q1,q2⟩ | ⟨q1,q2⟩
  ·rw[q1]
   refine iteF ?_
   exact⟨_,rfl,_,rfl,p,zan,dx,_,rfl,hp,T.cl_Rests,T.na_Rests_prime,q2⟩
  ·have q:isP n=false:=q1.resolve_left c
   rw[q]
   exact iteT ⟨(by show 1<=sizeLine;decide),q2⟩
theorem scPA:FnScope ["term","at"] ["term","at"] (defScope za9):=⟨rfl,rfl,rfl,by decide +kernel,rfl,by decide +kernel,by decide +kernel⟩
set_option maxHeartbeats 4000000 in
theorem zsq(F:FunD K "is_power_alone" "is_power_alone" za9 .none f fd)(T:Txt K mg zam zad zan zai zac zaj zab)(c_Deg:Cal P w K mg base CX0 1 "degree" ["term"] [] (spDeg K)):FnOk P w K mg base CX0 2 f fd ["term","at"] (spPA K):=by
 refine F.okN (k:=1) scPA (λvs H Q E h => ?_) (λcdv A outer s H vs Q E hr h => ?_)
 ·obtain⟨a,i,xs,rfl,_⟩:=h
  rfl
 obtain⟨a,i,xs,rfl,h⟩:=h
 refine⟨_,(zah (zar (zc3 zdu (pe_c c_Deg hr pass00 .nil ((zaa (pv 0) zaf))) (zdz (r:=rIxT K) zdo (pv 0) (pv 1) (λ_ _=>rfl)) (nomark _)))),?_⟩
 obtain⟨ha,hi,k⟩:=h
 walk_at "rd"
 refine⟨a,xs,rfl,ha,?_⟩
 refine⟨_,rfl,_,rfl,a,_,_,_,rfl,rfl,ha,zg2 hi,rfl,?_⟩
 rw[zgh]
 exact k
theorem scOut1:FnScope ["leads","term"] ["leads","term"] (defScope zbz):=⟨rfl,rfl,rfl,by decide +kernel,rfl,by decide +kernel,by decide +kernel⟩
set_option maxHeartbeats 4000000 in
theorem zpw(F:FunD K "is_outside" "is_outside" zbz .none f fd)(T:Txt K mg zam zad zan zai zac zaj zab)(c_Goes:Cal P w K mg base CX0 1 "goes_into" ["one","other"] [] (spGoes K)):FnOk P w K mg base CX0 2 f fd ["leads","term"] spOut1:=by
 refine F.okN (k:=1) scOut1 (λvs H Q E h => ?_) (λcdv A outer s H vs Q E hr h => ?_)
 ·obtain⟨l,t,m,ys,hs,x,rfl,_⟩:=h
  rfl
 obtain⟨l,t,m,ys,hs,x,rfl,h⟩:=h
 refine⟨_,(zah (zar (zos (zat (zfc (K:=K) rfl rfl) rfl T.b_any (by kernel_rfl) ((zaa (zbu (N:=["lead","term"]) (cl:=[("term",s.heap.objs.size + 1)]) (mp:=[none,some 1]) (Blk.of rfl (by decide +kernel) rfl (by decide +kernel) zex (zbf rfl zcp) (zgp (fs:=["term"]) rfl (by decide +kernel)) rfl (zb7 (zbc rfl (.inl rfl) rfl zco))) rfl (zbr (K:=K) rfl (pv 0)) (λC0 s0 H0 fp0=>zcz (i:=0) zex rfl rfl) (λC0 s0 H0 fp0=>zbv) (λC0 s0 H0 fp0=>pe_c c_Goes hr pass00 .nil ((zaa (pv 0) (zaa (pv 1) zaf))))) zaf)))))),?_⟩
 obtain⟨m4,hl,ht,x0,k⟩:=h
 show tComp _ _ _ _ _ _ _ _
 refine zcu (J:=Itl K l) (H1:=H) (zb6 (SqL.of hl.at_)) hl.b ?_ (λσ=>∃v,σ = [v,some (.ref t)]) (λ_=>true) (λi => .bl (goesI (hs.getD i []) x)) ⟨none,rfl⟩ ?_ λD H' e hL => ?_
 ·exact λR hR=>⟨_,rfl,l,rfl,⟨_,SqL.of hl.at_⟩,hR⟩
 ·rintro i v σ' H2 hi ⟨z,rfl⟩ e2 hv Ny Nn hy hn
  obtain⟨h1,r,hh,rfl,hr1,t1⟩:=(hl.same e2).get hv
  unfold gName tYes
  dsimp only
  rw[if_pos rfl]
  refine⟨_,rfl,_,rfl,r,t,h1,x,rfl,SqT.of hr1,SqT.of (e2 _ _ ht),by rw[t1.len,x0.len],by rw[t1.len];omega,λH3 e3 => ?_⟩
  have q:=hy [some (.ref r),some (.ref t)] H3 ⟨_,rfl⟩ e3 rfl
  have eg:hs.getD i []=h1:=by simp[List.getD,hh]
  rw[eg]at q
  exact q
 rw[List.filter_eq_self.mpr (λ_ _=>rfl)]at hL
 refine⟨D,(List.range ys.length).map λi=>goesI (hs.getD i []) x,rfl,SqL.of (by rw[hL,List.map_map];rfl),?_⟩
 have e2:((List.range ys.length).map λi=>goesI (hs.getD i []) x).any id=hs.any λh=>goesI h x:=by
  rw[<- hl.len]
  exact zft (f:=λh=>goesI h x)
 rw[e2]
 exact⟨_,rfl,k _ e⟩
theorem scOuts:FnScope ["leads","terms"] ["leads","terms"] (defScope zc6):=⟨rfl,rfl,rfl,by decide +kernel,rfl,by decide +kernel,by decide +kernel⟩
set_option maxHeartbeats 4000000 in
theorem zqf(F:FunD K "outside" "outside" zc6 .none f fd)(T:Txt K mg zam zad zan zai zac zaj zab)(c_Out1:Cal P w K mg base CX0 2 "is_outside" ["leads","term"] [] spOut1):FnOk P w K mg base CX0 3 f fd ["leads","terms"] spOuts:=by
 refine F.okN (k:=2) scOuts (λvs H Q E h => ?_) (λcdv A outer s H vs Q E hr h => ?_)
 ·obtain⟨l,t,m,ys,zs,hs,ts,rfl,_⟩:=h
  rfl
 obtain⟨l,t,m,ys,zs,hs,ts,rfl,h⟩:=h
 refine⟨_,(zah (zar (zbu (N:=["term","leads"]) (cl:=[("leads",s.heap.objs.size + 1)]) (mp:=[none,some 0]) (Blk.of rfl (by decide +kernel) rfl (by decide +kernel) zeh (zbf rfl zcp) (zgp (fs:=["leads"]) rfl (by decide +kernel)) rfl (zb7 (zbc rfl (.inl rfl) rfl zco))) rfl (zbr (K:=K) rfl (pv 1)) (λC0 s0 H0 fp0=>zcz (i:=0) zeh rfl rfl) (λC0 s0 H0 fp0=>zgn (zc9 (pe_c c_Out1 hr pass00 .nil ((zaa (pv 1) (zaa (pv 0) zaf)))))) (λC0 s0 H0 fp0=>pv 0)))),?_⟩
 obtain⟨m4,hl,ht,k⟩:=h
 show tComp _ _ _ _ _ _ _ _
 refine zf4 (J:=Itl K t) (H1:=H) (zb6 (SqL.of ht.at_)) ht.b ?_ (λσ=>∃v,σ = [v,some (.ref l)]) (λi=>outT hs (ts.getD i [])) (λi v H'=>Trm H' (ts.getD i []) v) (λi v H1 H2 e h=>h.same e) (λi v H1 a y1 y2 ha h=>zd6 ha h) ⟨none,rfl⟩ ?_ λD H' us nD e hL hp => ?_
 ·exact λR hR=>⟨_,rfl,t,rfl,⟨_,SqL.of ht.at_⟩,hR⟩
 ·rintro i v σ' H2 hi ⟨z,rfl⟩ e2 hv Ny Nn hy hn
  obtain⟨t1,r,hh,rfl,hr1,t0⟩:=(ht.same e2).get hv
  have eg:ts.getD i []=t1:=by simp[List.getD,hh]
  unfold gName
  dsimp only
  refine⟨_,rfl,_,rfl,l,r,m,ys,hs,t1,rfl,m4,hl.same e2,hr1,t0,λH3 e3=>⟨_,rfl,?_⟩⟩
  dsimp only
  cases o:outT hs t1 with
  | true=>
   rw[if_pos rfl]
   exact⟨_,rfl,hy _ _ _ ⟨_,rfl⟩ e3 (by rw[eg];exact⟨r,rfl,e3 _ _ hr1⟩) (by rw[eg];exact o)⟩
  | false=>exact iteF (hn _ _ ⟨_,rfl⟩ e3 (by rw[eg];exact o))
 rw[<- ht.len]at hp
 have hp2:=pmapl (R:=Trm H') (f:=λi=>ts.getD i []) hp
 rw[zcm (q:=outT hs)]at hp2
 refine k D H' us nD e ⟨hL,hp2,λx hx=>ht.t0 x (List.mem_filter.mp hx).1,?_⟩
 rw[<- Paired.length hp2]
 exact Nat.le_trans (List.length_filter_le _ _) (by rw[ht.len];exact ht.b)
theorem scEnd:FnScope ["ring","leads","at"] ["ring","leads"] (defScope za0):=⟨rfl,rfl,rfl,by decide +kernel,rfl,by decide +kernel,by decide +kernel⟩
set_option maxHeartbeats 4000000 in
theorem zrx{zal:Addr}(F:FunD K "check_not_endless" "check_not_endless" za0 .none f fd)(T:Txt K mg zam zad zan zai zac zaj zab)(c_PA:Cal P w K mg base CX0 2 "is_power_alone" ["term","at"] [] (spPA K))(x_Endless:Exc K mg base "Endless" zal)  : FnOk P w K mg base (CXe P w) 3 f fd ["ring","leads"] (spEnd zam zal):=by
 refine F.okX (k:=2) scEnd (λvs H Q E h => ?_) (λcdv A outer s H vs Q E hr h => ?_)
 ·obtain⟨r,l,m,pf,po,ys,hs,rfl,_⟩:=h
  rfl
 obtain⟨r,l,m,pf,po,ys,hs,rfl,h⟩:=h
 refine⟨_,(zah (zdk PassesOwn.leaving rfl (zb9 rfl T.b_range ((zaa (zdp (K:=K) rfl (pv 0) rfl) zaf))) (zbj (i:=2) scEnd.nd rfl (Or.inr rfl)) (zah (zcd (zee (zc9 (zat (zfc (K:=K) rfl rfl) rfl T.b_any (by kernel_rfl) ((zaa (zbu (N:=["lead","at"]) (cl:=[("at",s.heap.objs.size + 1)]) (mp:=[none,some 2]) (Blk.of rfl (by decide +kernel) rfl (by decide +kernel) zf7 (zbf rfl zcp) (zgp (fs:=["at"]) rfl (by decide +kernel)) rfl (zb7 (zbc rfl (.inl rfl) rfl zco))) rfl (zbr (K:=K) rfl (pv 1)) (λC0 s0 H0 fp0=>zcz (i:=0) zf7 rfl rfl) (λC0 s0 H0 fp0=>zbv) (λC0 s0 H0 fp0=>pe_c c_PA hr pass00 .nil ((zaa (pv 0) (zaa (pv 1) zaf))))) zaf))))) (zah (zjy x_Endless rfl rfl zbs ((zaa (zf1) zaf)))) zaz)))),?_⟩
 obtain⟨⟨dx,hr0⟩,m1,m4,hl,k⟩:=h
 walk_at "rd"
 refine⟨r,zam,dx,_,_,rfl,hr0,T.cl_Ring,T.na_Ring_many,rfl,(m:Int),rfl,by omega,by omega,?_⟩
 have mt:((m:Int)).toNat=m:=by omega
 rw[mt]
 refine zcw (lo:=0) (n:=m) (λj σ H'=>Same H H'/\(∃v,σ = [some (.ref r),some (.ref l),v])/\∀i,i < j->hs.any (λh=>aloneAt h i)=true) ?_ ?_ ?_
 ·exact⟨Same.refl _,⟨none,rfl⟩,λi hi=>by omega⟩
 ·rintro j σ H3 hj ⟨e3,⟨v,rfl⟩,al⟩
  rw[Int.zero_add]
  unfold gName
  dsimp only
  have hl3:=hl.same e3
  show tComp _ _ _ _ _ _ _ _
  refine zcu (J:=Itl K l) (H1:=H3) (zb6 (SqL.of hl3.at_)) hl.b ?_ (λσ=>∃v,σ = [v,some (.int j)]) (λ_=>true) (λi => .bl (aloneAt (hs.getD i []) j)) ⟨none,rfl⟩ ?_ λD H4 e4 hL => ?_
  ·exact λR hR=>⟨_,rfl,l,rfl,⟨_,SqL.of hl3.at_⟩,hR⟩
  ·rintro i v σ' H5 hi ⟨z,rfl⟩ e5 hv Ny Nn hy hn
   obtain⟨h1,r1,hh,rfl,hr1,t1⟩:=(hl3.same e5).get hv
   unfold tYes
   dsimp only
   rw[if_pos rfl]
   refine⟨_,rfl,_,rfl,r1,j,h1,rfl,SqT.of hr1,by rw[t1.len];exact hj,?_⟩
   have q:=hy [some (.ref r1),some (.int j)] H5 ⟨_,rfl⟩ (Same.refl _) rfl
   have eg:hs.getD i []=h1:=by simp[List.getD,hh]
   rw[eg]at q
   exact q
  rw[List.filter_eq_self.mpr (λ_ _=>rfl)]at hL
  refine⟨D,(List.range ys.length).map λi=>aloneAt (hs.getD i []) j,rfl,SqL.of (by rw[hL,List.map_map];rfl),?_⟩
  have e2:((List.range ys.length).map λi=>aloneAt (hs.getD i []) j).any id=hs.any λh=>aloneAt h j:=by
   rw[<- hl.len]
   exact zft (f:=λh=>aloneAt h j)
  rw[e2]
  refine⟨_,rfl,?_⟩
  cases c:hs.any λh=>aloneAt h j with
  | true=>
   refine iteF ⟨e3.trans e4,⟨_,rfl⟩,λi hi => ?_⟩
   rcases(by omega:i < j\/i=j) with q | q
   ·exact al i q
   ·rw[q];exact c
  | false=>
   refine iteT ⟨(by show 1<=sizeLine;decide),?_⟩
   rcases k with⟨q,_⟩ | ⟨_,k⟩
   ·rw[q j hj]at c;cases c
   ·exact k _ (e3.trans e4)
 ·rintro σ H3 ⟨e3,⟨v,rfl⟩,al⟩
  rcases k with⟨_,k⟩ | ⟨q,_⟩
  ·exact k _ e3
  ·exact absurd al q
theorem scSteps:FnScope ["ring","terms","found","term","at"] ["ring","terms"] (defScope zb3):=⟨rfl,rfl,rfl,by decide +kernel,rfl,by decide +kernel,by decide +kernel⟩
set_option maxHeartbeats 4000000 in
theorem zmw(F:FunD K "steps_from" "steps_from" zb3 .none f fd)(T:Txt K mg zam zad zan zai zac zaj zab)(c_Alone:Cal P w K mg base CX0 1 "alone" ["many","at","power"] [] spAlone)(c_Prod:Cal P w K mg base CX0 1 "product" ["one","other"] [] (spProd K)):FnOk P w K mg base CX0 2 f fd ["ring","terms"] (spSteps zam):=by
 refine F.okN (k:=1) scSteps (λvs H Q E h => ?_) (λcdv A outer s H vs Q E hr h => ?_)
 ·obtain⟨r,l,m,pf,po,ys,ts,rfl,_⟩:=h
  rfl
 obtain⟨r,l,m,pf,po,ys,ts,rfl,h⟩:=h
 refine⟨_,(zag (zau (i:=2) scSteps.nd rfl (Or.inl rfl) (ze5))
  (zag (zdk PassesOwn.never rfl (zbr (K:=K) rfl (pv 1)) (zbj (i:=3) scSteps.nd rfl (Or.inl rfl)) (zah (zdk PassesOwn.never rfl (zb9 rfl T.b_range ((zaa (zdp (K:=K) rfl (pv 0) rfl) zaf))) (zbj (i:=4) scSteps.nd rfl (Or.inl rfl)) (zah (zqv (uOne hr) (pv 2) (pe_c c_Prod hr pass00 .nil ((zaa (pv 3) (zaa (pe_c c_Alone hr pass00 .nil ((zaa (zdp (K:=K) rfl (pv 0) rfl) (zaa (pv 4) (zaa (zak) zaf))))) zaf)))) (zd3) rfl)))))
  (zah (zar (za4 (zep rfl) rfl T.b_list (by kernel_rfl) ((zaa (pv 2) zaf))))))),?_⟩
 obtain⟨⟨dx,hr0⟩,m1,m4,hl,b2,k⟩:=h
 intro d nd0
 have e1:Same H (upd H d (.dT [])):=Same.upd nd0
 have hd1:(upd H d (HO.dT [])) d=some (.dT []):=zae
 generalize upd H d (HO.dT [])=H1 at e1 hd1
 have mt:((m:Int)).toNat=m:=by omega
 refine⟨_,rfl,l,rfl,⟨_,SqL.of (hl.same e1).at_⟩,?_⟩
 refine zd9 (K:=K) (a:=l) (xs:=ys) (λi σ H'=>Same H H'/\(∃v3 v4,σ = [some (.ref r),some (.ref l),some (.ref d),v3,v4])/\∃(kv:List (List Key×V)) (us:List (List Int)),H' d=some (.dT kv)/\kv.map (·.1)=us.map ky/\us.Nodup/\us.length<=4 * i/\∀u,u∈us↔∃t∈ts.take i,∃q,q < m/\u=up1 t q) ?_ (λi σ H' _ h=>SqL.of (hl.same h.1).at_) ?_ ?_
 ·exact⟨e1,⟨none,none,rfl⟩,[],[],hd1,rfl,List.nodup_nil,by simp,λu=>by simp⟩
 ·rintro i x σ H2 hx ⟨e2,⟨v3,v4,rfl⟩,kv,us,hd2,hk,nu,lu,mu⟩
  obtain⟨t,rt,ht,rfl,hrt,t0⟩:=(hl.same e2).get hx
  have hi:i < ys.length:=by
   rcases Nat.lt_or_ge i ys.length with c | c
   ·exact c
   ·rw[List.getElem?_eq_none c]at hx;cases hx
  have hit:i < ts.length:=by rw[hl.len];exact hi
  have tk:ts.take (i + 1)=ts.take i ++ [t]:=by rw[List.take_add_one,ht];rfl
  show tFor _ _ _ _ _ _
  refine⟨_,rfl,r,zam,dx,_,_,rfl,e2 _ _ hr0,T.cl_Ring,T.na_Ring_many,rfl,(m:Int),rfl,by omega,by omega,?_⟩
  rw[mt]
  refine zcw (lo:=0) (n:=m) (λj σ H'=>Same H H'/\(∃v4,σ = [some (.ref r),some (.ref l),some (.ref d),some (.ref rt),v4])/\H' rt=some (.tup (t.map V.int))/\∃(kv:List (List Key×V)) (us:List (List Int)),H' d=some (.dT kv)/\kv.map (·.1)=us.map ky/\us.Nodup/\us.length<=4 * i + j/\∀u,u∈us↔(∃t∈ts.take i,∃q,q < m/\u=up1 t q)\/∃q,q < j/\u=up1 t q) ?_ ?_ ?_
  ·exact⟨e2,⟨_,rfl⟩,hrt,kv,us,hd2,hk,nu,by omega,λu=>by rw[mu];exact⟨.inl,λh=>h.elim id fun⟨q,z,_⟩=>by omega⟩⟩
  ·rintro j σ H3 hj ⟨e3,⟨v4,rfl⟩,hrt3,kv3,us3,hd3,hk3,nu3,lu3,mu3⟩
   rw[Int.zero_add]
   unfold gName
   dsimp only
   refine⟨_,rfl,_,rfl,_,rfl,r,zam,dx,_,_,rfl,e3 _ _ hr0,T.cl_Ring,T.na_Ring_many,rfl,_,rfl,(m:Int),(j:Int),1,rfl,by omega,by omega,by omega,λra H4 e4 hra => ?_⟩
   refine⟨rt,ra,t,_,rfl,SqT.of (e4 _ _ hrt3),SqT.of hra,by rw[t0.len];omega,λrp H5 e5 hrp => ?_⟩
   rw[mt,Int.toNat_natCast,znw t0.len hj]at hrp
   have g5:=e4.trans e5
   have hd5:=g5 _ _ hd3
   have lk:kv3.length=us3.length:=by have:=congrArg List.length hk3;simpa using this
   refine⟨d,_,rfl,DPut.t (k:=ky (up1 t j)) hd5 (by rw[zn2];exact hrp) (zlt _ (by omega)),?_⟩
   have ndH:H d=none:=nd0
   have e6:Same H (upd H5 d (.dT (putK kv3 (ky (up1 t j)) (.bl true)))):=λb o hb=>by
    rw[zao (λz=>by rw[z,ndH]at hb;cases hb)]
    exact g5 _ _ (e3 _ _ hb)
   refine⟨e6,⟨_,rfl⟩,?_,_,addU us3 (up1 t j),zae,zko hk3,zp8 nu3,Nat.le_trans zm9 (by omega),λu => ?_⟩
   ·rw[zao (zdb (g5 _ _ hrt3) hd5 (by intro z;cases z))];exact g5 _ _ hrt3
   ·rw[zod,mu3]
    constructor
    ·rintro((h1 | ⟨q,h2,h3⟩) | h1)
     ·exact .inl h1
     ·exact .inr ⟨q,by omega,h3⟩
     ·exact .inr ⟨j,by omega,h1⟩
    ·rintro(h1 | ⟨q,h2,h3⟩)
     ·exact .inl (.inl h1)
     ·rcases(by omega:q < j\/q=j) with c | c
      ·exact .inl (.inr ⟨q,c,h3⟩)
      ·rw[c]at h3;exact .inr h3
  ·rintro σ H3 ⟨e3,⟨v4,rfl⟩,hrt3,kv3,us3,hd3,hk3,nu3,lu3,mu3⟩
   refine⟨e3,⟨_,_,rfl⟩,kv3,us3,hd3,hk3,nu3,by omega,λu => ?_⟩
   rw[mu3,tk]
   constructor
   ·rintro(⟨t',h1,q,h2,h3⟩ | ⟨q,h2,h3⟩)
    ·exact⟨t',List.mem_append.mpr (.inl h1),q,h2,h3⟩
    ·exact⟨t,by simp,q,h2,h3⟩
   ·rintro⟨t',h1,q,h2,h3⟩
    rcases List.mem_append.mp h1 with h1 | h1
    ·exact .inl ⟨t',h1,q,h2,h3⟩
    ·rw[List.mem_singleton.mp h1]at h3;exact .inr ⟨q,h2,h3⟩
 ·rintro σ H2 ⟨e2,⟨v3,v4,rfl⟩,kv,us,hd2,hk,nu,lu,mu⟩
  rw[<- hl.len,List.take_length]at mu
  refine⟨_,rfl,d,kv,rfl,.inl hd2,λD as hD la has => ?_⟩
  have eD:Same H2 (upd H2 D (.lst (as.map V.ref))):=Same.upd hD
  have hp:=zgm (m:=m) (l:=D) hk la has
  have lus:us.length=kv.length:=by have:=congrArg List.length hk;simpa using this.symm
  refine k D _ _ us (e2.trans eD) ⟨zae,pimp (λ_ _ h=>h.same eD) hp,λu hu => ?_,by rw[List.length_map,la,<- lus];omega⟩ nu mu
  obtain⟨t,ht,q,_,rfl⟩:=(mu u).mp hu
  exact zo3 (hl.t0 t ht)
theorem scFT:FnScope ["ring","f"] ["ring","f"] (defScope zb5):=⟨rfl,rfl,rfl,by decide +kernel,rfl,by decide +kernel,by decide +kernel⟩
set_option maxHeartbeats 4000000 in
theorem zsn{zca:Addr}(F:FunD K "first_term" "first_term" zb5 .none f fd)(T:Txt K mg zam zad zan zai zac zaj zab)(x_NoLead:Exc K mg base "NoLead" zca){zaw:Addr}(hord:∀(kd:Int) (ws:List Int),0<=kd->kd < 4->Nn ws->(∀x∈ws,x < 10 ^ 31)->∃C,OrdE P w K mg base zaw C (AtK zai zac zaj zab kd ws) (rkk kd ws) (fbK kd ws)):FnOk P w K mg base (CXe P w) 8 f fd ["ring","f"] (spFT zam zai zac zaj zab zca):=by
 refine F.okX (k:=7) scFT (λvs H Q E h => ?_) (λcdv A outer s H vs Q E hr h => ?_)
 ·obtain⟨r,d,m,pf,po,n,kd,ws,kvs,rfl,_⟩:=h
  rfl
 obtain⟨r,d,m,pf,po,n,kd,ws,kvs,rfl,h⟩:=h
 obtain⟨C,O⟩:=hord kd ws h.2.2.2.2.1 h.2.2.2.2.2.1 h.2.2.2.2.2.2.1 h.2.2.2.2.2.2.2.1
 refine⟨_,(zag (zcd (zav (zpc hr.units) (pv 1) (ze5) (nomark _)) (zah (zjy x_NoLead rfl rfl zbs ((zaa (zf1) zaf)))) zaz)
  (zah (zar (pe_m O.first (zdp (K:=K) rfl (pv 0) rfl) hr ze0 .nil ((zaa (za4 (zep rfl) rfl T.b_list (by kernel_rfl) ((zaa (pv 1) zaf))) zaf)))))),?_⟩
 obtain⟨⟨dx,hr0⟩,hk,m1,m4,k0,k4,wn,wb,hd,pk,ne,k⟩:=h
 walk_at "rd"
 intro d2 nd2
 have e1:Same H (upd H d2 (.dT [])):=Same.upd nd2
 have hd2:(upd H d2 (HO.dT [])) d2=some (.dT []):=zae
 generalize upd H d2 (HO.dT [])=H1 at e1 hd2
 obtain⟨da,kds,fl⟩:=(pk.same e1).kds (K:=K)
 have ld:kvs.length=da.length:=Paired.length kds
 refine⟨d,d2,kvs,[],da,[],rfl,rfl,.inl (e1 _ _ hd),.inl hd2,kds,.nil,fl,(λ_ z=>by cases z),_,rfl,?_⟩
 have eq0:eqKD da []=false:=by
  unfold eqKD
  cases da with
  | nil=>exact absurd (List.length_eq_zero_iff.mp ld) ne
  | cons x l=>rfl
 rw[eq0]
 refine iteF ?_
 obtain⟨dO,fs,hO,nl⟩:=O.oC.ins hk
 refine⟨_,rfl,r,zam,dx,_,_,rfl,e1 _ _ hr0,T.cl_Ring,T.na_Ring_order,rfl,po,dO,fs,rfl,e1 _ _ hO,nl "first_of" (by decide +kernel),_,rfl,d,kvs,rfl,.inl (e1 _ _ hd),λl as hl la hi => ?_⟩
 have e2:Same H1 (upd H1 l (.lst (as.map V.ref))):=Same.upd hl
 have g2:=e1.trans e2
 have ek:kvs.map (·.1)=(kvs.map λp=>un p.1).map ky:=by
  rw[List.map_map]
  refine List.map_congr_left λp hp => ?_
  obtain⟨t,a,_⟩:=pk.row p hp
  show p.1=ky (un p.1)
  rw[a,zhg]
 have hp:=zgm (m:=m) (l:=l) ek la hi
 have pw:∀xs∈kvs.map λp=>un p.1,Pws xs:=λxs hx=>by
  obtain⟨p,hp,rfl⟩:=List.mem_map.mp hx
  obtain⟨t,a,t0,tb,_⟩:=pk.row p hp
  rw[a,zhg]
  exact zk8 t0 m1 m4 tb
 have ne2:as.map V.ref≠[]:=λz=>ne (List.length_eq_zero_iff.mp (by rw[<- la];have:=congrArg List.length z;simpa using this))
 refine⟨po,l,as.map V.ref,kvs.map λp=>un p.1,rfl,O.oC.same g2 hk,zae,pimp (λ_ _ q=>q.same e2) hp,pw,.inr ⟨ne2,λH' xs v e3 hm hx => ?_⟩⟩
 have g3:=g2.trans e3
 have hp3:=pimp (λ_ _ q=>(q.same e2).same e3) hp
 refine k H' xs v g3 (pz hp3 _ hm) ?_ λp hp' => ?_
 ·have:=(List.of_mem_zip hm).1
  rw[ek];exact List.mem_map.mpr ⟨xs,this,rfl⟩
 ·obtain⟨v',hv'⟩:=zo1 (l:=kvs.map λp=>un p.1) (l':=as.map V.ref) (by rw[List.length_map,List.length_map,la]) (List.mem_map.mpr ⟨p,hp',rfl⟩)
  exact hx _ hv'
theorem scCor:FnScope ["ring","base","leads","found","edge"] ["ring","base"] (defScope zdv):=⟨rfl,rfl,rfl,by decide +kernel,rfl,by decide +kernel,by decide +kernel⟩
set_option maxHeartbeats 4000000 in
theorem zrs{zal zca:Addr}(F:FunD K "corner" "corner" zdv .none f fd)(T:Txt K mg zam zad zan zai zac zaj zab)(c_FT:Cal P w K mg base (CXe P w) 8 "first_term" ["ring","f"] [] (spFT zam zai zac zaj zab zca))(c_End:Cal P w K mg base (CXe P w) 3 "check_not_endless" ["ring","leads"] [] (spEnd zam zal))(m_Unit:MCal P w K mg base CX0 1 zam "unit" ["self"] [] (spUnit zam))(c_Outs:Cal P w K mg base CX0 3 "outside" ["leads","terms"] [] spOuts)(c_Steps:Cal P w K mg base CX0 2 "steps_from" ["ring","terms"] [] (spSteps zam)){zaw:Addr}(hord:∀(kd:Int) (ws:List Int),0<=kd->kd < 4->Nn ws->(∀x∈ws,x < 10 ^ 31)->∃C,OrdE P w K mg base zaw C (AtK zai zac zaj zab kd ws) (rkk kd ws) (fbK kd ws)):FnOk P w K mg base (CXe P w) 9 f fd ["ring","base"] (spCor zam zai zac zaj zab zal):=by
 refine F.okX (k:=8) scCor (λvs H Q E h => ?_) (λcdv A outer s H vs Q E hr h => ?_)
 ·obtain⟨r,b,m,pf,po,n,kd,ws,ds,kvss,rfl,_⟩:=h
  rfl
 obtain⟨r,b,m,pf,po,n,kd,ws,ds,kvss,rfl,h⟩:=h
 obtain⟨C,O⟩:=hord kd ws h.2.2.2.2.1 h.2.2.2.2.2.1 h.2.2.2.2.2.2.1 h.2.2.2.2.2.2.2.1
 refine⟨_,(zag (zf9 (N:=["f","ring"]) (cl:=[("ring",s.heap.objs.size + 1)]) (mp:=[none,some 0]) (zbj (i:=2) scCor.nd rfl (Or.inl rfl)) (Blk.of rfl (by decide +kernel) rfl (by decide +kernel) zg8 (zbf rfl zcp) (zgp (fs:=["ring"]) rfl (by decide +kernel)) rfl (zb7 (zbc rfl (.inl rfl) rfl zco))) rfl (zbr (K:=K) rfl (pv 1)) (λC0 s0 H0 fp0=>zcz (i:=0) zg8 rfl rfl) (λC0 s0 H0 fp0=>zgn (zav (zmz (K:=K) rfl hr.units) (pv 0) (ze5) (nomark _))) (λC0 s0 H0 fp0=>pe_c c_FT hr passF .nil ((zaa (pv 1) (zaa (pv 0) zaf)))))
  (zag (zdr (pe_c c_End hr ze0 .nil ((zaa (pv 0) (zaa (pv 2) zaf)))))
  (zag (zau (i:=3) scCor.nd rfl (Or.inl rfl) (zc2 (zaf)))
  (zag (zau (i:=4) scCor.nd rfl (Or.inl rfl) (pe_c c_Outs hr pass00 .nil ((zaa (pv 2) (zaa (zc2 ((zaa (zsl m_Unit (pv 0) hr pass00 .nil) zaf))) zaf)))))
  (zag (PS.nox (zeg PassesOwn.never (zav (zow hr.units) (pv 4) (zc2 (zaf)) (nomark _)) (zag (zdr (zmq PySem.F.plainAttrs_list PySem.F.slot_list_extend PySem.F.type_list_extend zk4 (pv 3) ((zaa (pv 4) zaf))))
  (zah (zau (i:=4) scCor.nd rfl (Or.inl rfl) (pe_c c_Outs hr pass00 .nil ((zaa (pv 2) (zaa (pe_c c_Steps hr pass00 .nil ((zaa (pv 0) (zaa (pv 4) zaf)))) zaf)))))))))
  (zah (zar (zj8 (pe_m O.fall (zdp (K:=K) rfl (pv 0) rfl) hr pass00 .nil (zaa (pv 3) zaf)) rfl T.b_list T.b_reversed)))))))),?_⟩
 obtain⟨⟨dx,hr0⟩,hk,m1,m4,k0,k4,wn,wb,hb,k⟩:=h
 show tComp _ _ _ _ _ _ _ _
 have lb:(ds.map V.ref).length=kvss.length:=by rw[List.length_map,hb.len]
 refine zkd (J:=Itl K b) (H1:=H) (zb6 (SqL.of hb.at_)) (by rw[List.length_map];have:=hb.b;omega) ?_ (λσ=>∃v,σ = [v,some (.ref r)]) (λi=>decide (kvss.getD i []≠[])) (λi v H'=>∃h,Trm H' h v/\HeadOf (rkk kd ws) h (kvss.getD i [])) (λi v H1 H2 e ⟨h,h1,h2⟩=>⟨h,h1.same e,h2⟩) (λi v H1 a y1 y2 ha ⟨h,h1,h2⟩=>⟨h,zd6 ha h1,h2⟩) ⟨none,rfl⟩ ?_ λld H1 ls e1 hL hp => ?_
 ·exact λR hR=>⟨_,rfl,b,rfl,⟨_,SqL.of hb.at_⟩,hR⟩
 ·rintro i v σ' H2 hi ⟨z,rfl⟩ e2 hv Ny Nn hy hn
  rw[List.length_map]at hi
  have hik:i < kvss.length:=by rw[<- hb.len];exact hi
  have hdi:ds[i]? = some ds[i]:=List.getElem?_eq_getElem hi
  have hki:kvss[i]? = some kvss[i]:=List.getElem?_eq_getElem hik
  have ev:v = .ref ds[i]:=by
   rw[List.getElem?_map,hdi]at hv
   exact(Option.some.inj hv).symm
  subst ev
  have eg:kvss.getD i []=kvss[i]:=by simp[List.getD,hki]
  obtain⟨hd2,pk2⟩:=(hb.same e2).row i _ _ hdi hki
  rw[eg]at hy hn
  generalize kvss[i]=kvs at hd2 pk2 hy hn
  generalize ds[i]=d at hd2
  unfold gName
  dsimp only
  refine⟨_,rfl,?_⟩
  intro d2 nd2
  have e3:Same H2 (upd H2 d2 (.dT [])):=Same.upd nd2
  have hd3:(upd H2 d2 (HO.dT [])) d2=some (.dT []):=zae
  generalize upd H2 d2 (HO.dT [])=H3 at e3 hd3
  obtain⟨da,kds,fl⟩:=(pk2.same e3).kds (K:=K)
  have ldd:kvs.length=da.length:=Paired.length kds
  refine⟨d,d2,kvs,[],da,[],rfl,rfl,.inl (e3 _ _ hd2),.inl hd3,kds,.nil,fl,(λ_ z=>by cases z),_,rfl,?_⟩
  by_cases c:kvs=[]
  ·have ed:da=[]:=List.length_eq_zero_iff.mp (by rw[<- ldd,c];rfl)
   rw[ed]
   exact iteF (hn _ _ ⟨_,rfl⟩ e3 (by rw[decide_eq_false_iff_not];exact λq=>q c))
  ·have eq0:eqKD da []=false:=by
    unfold eqKD
    cases da with
    | nil=>exact absurd (List.length_eq_zero_iff.mp ldd) c
    | cons x l=>rfl
   rw[eq0]
   have g3:=e2.trans e3
   refine iteT ⟨_,rfl,_,rfl,r,d,m,pf,po,n,kd,ws,kvs,rfl,⟨dx,g3 _ _ hr0⟩,O.oC.same g3 hk,m1,m4,k0,k4,wn,wb,e3 _ _ hd2,pk2.same e3,c,λH' t v e4 ht hm hx => ?_⟩
   exact hy v _ H' ⟨_,rfl⟩ (e3.trans e4) ⟨t,ht,hm,hx⟩ (decide_eq_true c)
 rw[lb]at hp
 obtain⟨hs,hp1,hp2⟩:=zha (A:=Trm H1) (B:=HeadOf (rkk kd ws)) (f:=λi=>kvss.getD i []) hp
 rw[zcm (q:=λk=>decide (k≠[]))]at hp2
 have hh:Heads (rkk kd ws) kvss hs:=hp2
 have h0:=hb.heads hh
 have hT1:TL m H1 ld ls hs:=⟨hL,hp1,λx hx=>(h0 x hx).1,by
  have h1:=Paired.length hp1
  have h2:=Paired.length hp2
  have h3:=List.length_filter_le (λk=>decide (k≠[])) kvss
  have:=hb.b;rw[hb.len]at this;omega⟩
 have k:=k hs hh
 unfold gName
 dsimp only
 refine⟨_,rfl,_,rfl,r,ld,m,pf,po,ls,hs,rfl,⟨dx,e1 _ _ hr0⟩,m1,m4,hT1,?_⟩
 rcases k with⟨al,bd,k⟩ | ⟨nal,k⟩
 rotate_left
 ·exact .inr ⟨nal,λH' e'=>k H' (e1.trans e')⟩
 refine .inl ⟨al,λH2 e2 => ?_⟩
 refine⟨Nat.zero_le _,λfl nf => ?_⟩
 have e3:Same H2 (upd H2 fl (.lst [])):=Same.upd nf
 have hf3:(upd H2 fl (HO.lst [])) fl=some (.lst []):=zae
 generalize upd H2 fl (HO.lst [])=H3 at e3 hf3
 have g2:=e1.trans e2
 have g3:=g2.trans e3
 refine⟨_,rfl,_,rfl,r,dx,_,rfl,g3 _ _ hr0,no_G _ (by decide +kernel) (by decide +kernel) (by decide +kernel),r,(m:Int),pf,po,rfl,⟨dx,g3 _ _ hr0⟩,by omega,by omega,λut H4 e4 hut => ?_⟩
 refine⟨(by show 1<=sizeLine;decide),λul nul => ?_⟩
 have e5:Same H4 (upd H4 ul (.lst [.ref ut])):=Same.upd nul
 have hul:(upd H4 ul (HO.lst [.ref ut])) ul=some (.lst [.ref ut]):=zae
 generalize upd H4 ul (HO.lst [.ref ut])=H5 at e5 hul
 have mt:((m:Int)).toNat=m:=by omega
 rw[mt]at hut
 have hl5:TL m H5 ld ls hs:=(((hT1.same e2).same e3).same e4).same e5
 have hu5:TL m H5 ul [.ref ut] [zer m]:=⟨hul,.cons ⟨ut,rfl,e5 _ _ hut⟩ .nil,λx hx=>by rw[List.mem_singleton.mp hx];exact T0.zero m,by simp⟩
 refine⟨ld,ul,m,ls,[.ref ut],hs,[zer m],rfl,m4,hl5,hu5,λed H6 zs ned e6 hT6 => ?_⟩
 have g26:Same H2 H6:=((e3.trans e4).trans e5).trans e6
 have hf6:H6 fl=some (.lst []):=e6 _ _ (e5 _ _ (e4 _ _ hf3))
 have hlen:∀h∈hs,h.length=m:=λh hh=>(h0 h hh).1.len
 have lev00:Lev m hs 0 ([zer m].filter (outT hs)):=lev0
 have hne6:fl≠ed:=λz=>by
  have q1:=e5 _ _ (e4 _ _ hf3)
  rw[z,ned]at q1;cases q1
 show tWhile _ _ _ _ _
 refine⟨λkk σ H'=>∃(nn:Nat) (ed:Addr) (zs fsv:List V) (es fs:List (List Int)),kk + nn=1000/\σ = [some (.ref r),some (.ref b),some (.ref ld),some (.ref fl),some (.ref ed)]/\Same H2 H'/\H' fl=some (.lst fsv)/\Paired (Trm H') fs fsv/\Fnd m hs nn fs/\TL m H' ed zs es/\Lev m hs nn es/\fl≠ed,⟨1000,0,ed,zs,[],_,[],rfl,rfl,g26,hf6,.nil,fnd0,hT6,lev00,hne6⟩,?_⟩
 rintro kk σ H7 ⟨nn,ed7,zs7,fsv,es,fs,ek,rfl,s7,hf7,hp7,fn7,hT7,lv7,ne7⟩
 have les:es.length<=200:=bd es lv7.nd λt ht=>⟨((lv7.mem t).mp ht).1,((lv7.mem t).mp ht).2.2⟩
 have lfs:fs.length<=200:=bd fs fn7.nd λt ht=>⟨((fn7.mem t).mp ht).1,((fn7.mem t).mp ht).2.2⟩
 have lz7:zs7.length<=200:=by rw[<- hT7.len];exact les
 have lf7:fsv.length<=200:=by rw[<- Paired.length hp7];exact lfs
 refine⟨_,rfl,Nat.zero_le _,λel nel => ?_⟩
 have s8:Same H7 (upd H7 el (.lst [])):=Same.upd nel
 have he8:(upd H7 el (HO.lst [])) el=some (.lst []):=zae
 generalize upd H7 el (HO.lst [])=H8 at s8 he8
 have hT8:=hT7.same s8
 refine⟨.list (tds es),.list [],.lst (SqL.of hT8.at_) (zdy hT8.tm),.lst (SqL.of he8) .nil,zde es,rfl,_,rfl,?_⟩
 rw[zmo]
 by_cases c:es=[]
 ·rw[decide_eq_true c]
  refine iteF ?_
  subst c
  have all:=zqd hlen lv7 fn7
  have g8:Same H H8:=(g2.trans s7).trans s8
  obtain⟨dO,fo,hO,nl⟩:=O.oC.ins hk
  have pw:∀x∈fs,Pws x:=λx hx=>by
   obtain⟨a,o⟩:=(all x).mp hx
   exact zk8 a m1 m4 λi=>by rcases zjl h0 al a o i with q | q <;> omega
  refine⟨_,rfl,r,zam,dx,_,_,rfl,g8 _ _ hr0,T.cl_Ring,T.na_Ring_order,rfl,po,dO,fo,rfl,g8 _ _ hO,nl "falling" (by decide +kernel),_,rfl,po,fl,fsv,fs,rfl,O.oC.same g8 hk,s8 _ _ hf7,pimp (λ_ _ q=>q.same s8) hp7,pw,λD H9 ps s9 pp pq hD => ?_⟩
  refine⟨D,_,rfl,hD,λD2 nD2 => ?_⟩
  have s10:Same H9 (upd H9 D2 (.lst (ps.map (·.2)).reverse)):=Same.upd nD2
  have pt:∀p∈ps,Trm H9 p.1 p.2:=λp hp=>((pz hp7 p (pp.mem_iff.mp hp)).same s8).same s9
  have e1':(ps.map (·.1)).Perm fs:=by
   have:=pp.map (·.1)
   rwa [zh6 (by rw[<- Paired.length hp7];exact Nat.le_refl _)]at this
  have p10:=TS.paired_reverse (pimp (λ_ _ q=>q.same s10) (zds pt))
  refine k D2 _ _ (ps.map (·.1)).reverse ((g8.trans s9).free nD2) ((g8.trans s9).trans s10) ⟨zae,p10,λx hx => ?_,?_⟩ ?_ ?_ ?_
  ·exact((all x).mp (e1'.mem_iff.mp (List.mem_reverse.mp hx))).1
  ·rw[List.length_reverse,List.length_map]
   have:=e1'.length_eq
   rw[List.length_map]at this
   omega
  ·exact(List.reverse_perm _).nodup_iff.mpr (e1'.nodup_iff.mpr fn7.nd)
  ·intro t
   rw[List.mem_reverse,e1'.mem_iff];exact all t
  ·rw[List.pairwise_reverse,List.pairwise_map]
   exact pq
 ·rw[decide_eq_false c]
  refine iteT ⟨λσ' H'=>∃m',m' < kk/\∃(nn:Nat) (ed:Addr) (zs fsv:List V) (es fs:List (List Int)),m' + nn=1000/\σ'=[some (.ref r),some (.ref b),some (.ref ld),some (.ref fl),some (.ref ed)]/\Same H2 H'/\H' fl=some (.lst fsv)/\Paired (Trm H') fs fsv/\Fnd m hs nn fs/\TL m H' ed zs es/\Lev m hs nn es/\fl≠ed,λσ' H' h=>h,?_⟩
  have hf8:=s8 _ _ hf7
  refine⟨_,rfl,.inl ⟨rfl,_,SqL.of hf8⟩,_,rfl,fl,ed7,fsv,zs7,rfl,rfl,hf8,hT8.at_,zl _ (by omega),?_⟩
  have keep:∀x o,H8 x=some o->x≠fl->(upd H8 fl (.lst (fsv ++ zs7))) x=some o:=λx o hx nx=>by rw[zao nx];exact hx
  have hf9:(upd H8 fl (HO.lst (fsv ++ zs7))) fl=some (.lst (fsv ++ zs7)):=zae
  have tk:∀a v,Trm H8 a v->Trm (upd H8 fl (HO.lst (fsv ++ zs7))) a v:=λa v h=>zd6 hf8 h
  generalize upd H8 fl (HO.lst (fsv ++ zs7))=H9 at keep hf9 tk
  have s29:Same H2 H9:=λx o hx=>keep x o (s8 _ _ (s7 _ _ hx)) (zaq hx nf)
  have g9:Same H H9:=g2.trans s29
  have hT9:TL m H9 ed7 zs7 es:=⟨keep _ _ hT8.at_ (Ne.symm ne7),pimp tk hT8.tm,hT8.t0,hT8.b⟩
  have hl9:TL m H9 ld ls hs:=(hT1.same e2).same s29
  dsimp only
  refine⟨_,rfl,_,rfl,_,rfl,r,ed7,m,pf,po,zs7,es,rfl,⟨dx,g9 _ _ hr0⟩,m1,m4,hT9,lz7,λsd HA zA us sA hTA nu mu => ?_⟩
  refine⟨ld,sd,m,ls,zA,hs,us,rfl,m4,hl9.same sA,hTA,λed' HB zB ned' sB hTB => ?_⟩
  have hfB:=sB _ _ (sA _ _ hf9)
  refine⟨kk - 1,?_,nn + 1,ed',zB,fsv ++ zs7,_,fs ++ es,?_,rfl,(s29.trans sA).trans sB,hfB,papp (pimp (λa v h=>((tk a v (h.same s8)).same sA).same sB) hp7) (pimp (λa v h=>(h.same sA).same sB) hT9.tm),zog lv7 fn7,hTB,zmt hlen lv7 nu mu,λz => ?_⟩
  ·have:nn < 1000:=by
    obtain⟨t,ht⟩:=List.exists_mem_of_ne_nil es c
    obtain⟨a,b1,o⟩:=(lv7.mem t).mp ht
    have:=zot a (B:=200) λi hi=>by rcases zjl h0 al a o i with q | q <;> omega
    have:(m:Int) * (200:Nat)<=800:=by omega
    omega
   omega
  ·have:nn < 1000:=by
    obtain⟨t,ht⟩:=List.exists_mem_of_ne_nil es c
    obtain⟨a,b1,o⟩:=(lv7.mem t).mp ht
    have:=zot a (B:=200) λi hi=>by rcases zjl h0 al a o i with q | q <;> omega
    have:(m:Int) * (200:Nat)<=800:=by omega
    omega
   omega
  ·have q1:=sA _ _ hf9
   rw[z,ned']at q1;cases q1
theorem scCell:FnScope ["_law_script","_law_k"] ["_law_script","_law_k"] (defScope zbo):=⟨rfl,rfl,rfl,by decide +kernel,rfl,by decide +kernel,by decide +kernel⟩
set_option maxHeartbeats 4000000 in
theorem zqn(F:FunD K "_law_cell_at" "_law_cell_at" zbo .none f fd)(T:Txt K mg zam zad zan zai zac zaj zab)   : FnOk P w K mg base CX0 1 f fd ["_law_script","_law_k"] (spCell K):=by
 refine F.okN (k:=0) scCell (λvs H Q E h => ?_) (λcdv A outer s H vs Q E hr h => ?_)
 ·obtain⟨a,ns,k,rfl,_⟩:=h
  rfl
 obtain⟨a,ns,k,rfl,h⟩:=h
 refine⟨_,(zag (zcd (zav zm0 (pv 1) (zat (zen (K:=K) rfl) rfl T.b_len PySem.boot_len ((zaa (pv 0) zaf))) (nomark _)) (zah (zar (zdz (r:=rIxL K) zfg (pv 0) (pv 1) (λ_ _=>rfl)))) zaz)
  (zah (zar (zak)))),?_⟩
 obtain⟨hS,h0,q⟩:=h
 have hl:(ns.map V.int).length=ns.length:=List.length_map _
 refine⟨_,rfl,_,rfl,a,_,rfl,.inl hS,?_⟩
 walk_at "rd"
 refine cD (λc => ?_) (λc => ?_)
 ·rw[hl]at c
  exact⟨_,rfl,_,rfl,a,_,_,_,rfl,rfl,hS,zp7 h0 c,q⟩
 ·rw[hl]at c
  have e:cellOf ns k=0:=by unfold cellOf;rw[List.getD_eq_getElem?_getD,List.getElem?_eq_none (by omega)];rfl
  rw[e]at q
  exact q
theorem scLPrime:FnScope ["_law_number_here","_law_by"] ["_law_number_here"] (defScope zbe):=⟨rfl,rfl,rfl,by decide +kernel,rfl,by decide +kernel,by decide +kernel⟩
set_option maxHeartbeats 4000000 in
theorem zl1(F:FunD K "_law_is_prime" "_law_is_prime" zbe .none f fd)(T:Txt K mg zam zad zan zai zac zaj zab)   : FnOk P w K mg base CX0 1 f fd ["_law_number_here"] spPrime2:=by
 refine F.okN (k:=0) scLPrime (λvs H Q E h => ?_) (λcdv A outer s H vs Q E hr h => ?_)
 ·obtain⟨n,rfl,_⟩:=h
  rfl
 obtain⟨n,rfl,h⟩:=h
 refine⟨_,(zag (zau (i:=1) scLPrime.nd rfl (Or.inl rfl) (zak))
  (zag (zeg PassesOwn.never (zav znj (zax zlc (pv 1) (pv 1)) (pv 0) (nomark _)) (zag (zcd (zav zdu (zax zib (pv 0) (pv 1)) (zak) (nomark _)) (zah (zar (zd3))) zaz)
  (zah (zau (i:=1) scLPrime.nd rfl (Or.inl rfl) (zax zc5 (pv 1) (zak))))))
  (zah (zar (zd3))))),?_⟩
 obtain⟨hn2,hn,k⟩:=h
 refine⟨λm σ H'=>∃d:Int,m=(200 - d).toNat/\σ = [some (.int n),some (.int d)]/\H'=H/\2<=d/\d<=101/\NoDiv n d,⟨_,2,rfl,rfl,rfl,K3.start n⟩,?_⟩
 rintro m σ H' ⟨d,rfl,rfl,rfl,h2,h3,hd⟩
 refine⟨_,rfl,_,rfl,_,_,rfl,rfl,.inl (zjc (n:=n) h2 h3),?_⟩
 walk_at "rd"
 refine cD (λq => ?_) (λq => ?_)
 ·refine⟨λσ' H''=>σ'=[some (.int n),some (.int (d + 1))]/\H''=H'/\¬Int.fmod n d=0,?_,?_⟩
  ·rintro σ' H'' ⟨rfl,rfl,nz⟩
   exact⟨(200 - (d + 1)).toNat,K3.less h2 q hn,d + 1,rfl,rfl,rfl,K3.turn hd nz h2 q hn⟩
  ·refine⟨_,rfl,_,rfl,_,_,rfl,rfl,(by show d≠0;omega),?_⟩
   walk_at "rd"
   refine cEq (λz => ?_) (λz => ?_)
   ·show Q (.bl false) H'
    rw[found h2 q z]
    exact k
   ·walk_at "rd"
    exact z
 ·show Q (.bl true) H'
  rw[K3.out hd hn2 h2 q]
  exact k
theorem scLPr:FnScope ["_law_cell","_law_number_here"] ["_law_cell"] (defScope zby):=⟨rfl,rfl,rfl,by decide +kernel,rfl,by decide +kernel,by decide +kernel⟩
set_option maxHeartbeats 4000000 in
theorem zrv(F:FunD K "_law_prime" "_law_prime" zby .none f fd)(T:Txt K mg zam zad zan zai zac zaj zab)(c_LPrime:Cal P w K mg base CX0 1 "_law_is_prime" ["_law_number_here"] [] spPrime2):FnOk P w K mg base CX0 2 f fd ["_law_cell"] spLPr:=by
 refine F.okN (k:=1) scLPr (λvs H Q E h => ?_) (λcdv A outer s H vs Q E hr h => ?_)
 ·obtain⟨c,rfl,_⟩:=h
  rfl
 obtain⟨c,rfl,h⟩:=h
 refine⟨_,(zag (zcd (zav zdu (zax zc0 (pv 0) (zak)) (zak) (nomark _)) (zah (zar (zak))) zaz)
  (zag (zau (i:=1) scLPr.nd rfl (Or.inl rfl) (zax zc5 (zak) (zax zc0 (zax zd4 (pv 0) (zak)) (zdz (r:=rIxL K) zfg (zc2 ((zaa (zak) (zaa (zak) (zaa (zak) (zaa (zak) zaf)))))) (zax zc0 (pv 0) (zak)) (λ_ _=>rfl)))))
  (zag (zeg PassesOwn.never (zee (zc9 (pe_c c_LPrime hr pass00 .nil ((zaa (pv 1) zaf))))) (zah (zau (i:=1) scLPr.nd rfl (Or.inl rfl) (zax zjd (pv 1) (zak)))))
  (zah (zar (pv 1)))))),?_⟩
 have k:=h
 walk_at "rd"
 refine cEq (λc0 => ?_) (λc0 => ?_)
 ·exact k 0 H (Same.refl _) (.inl rfl) (by decide)
 refine⟨_,rfl,_,_,rfl,rfl,⟨by decide,by decide⟩,(by show 4<=sizeLine;decide),λl hl => ?_⟩
 obtain⟨v,v1,v2,hv⟩:=tab4 (r:=c % 4) (by omega) (by omega)
 have e1:Same H (upd H l (.lst [.int 1,.int 6,.int 120,.int 9972])):=Same.upd hl
 refine⟨_,rfl,_,_,rfl,rfl,(by show (0:Int) < 4;decide),l,_,_,_,rfl,rfl,SqL.of zae,hv,_,_,rfl,rfl,(by show 0 < v;omega),_,_,rfl,rfl,?_⟩
 generalize upd H l (HO.lst [V.int 1,V.int 6,V.int 120,V.int 9972])=H1 at e1
 have b0:=Int.emod_nonneg (c / 4) (show v≠0 by omega)
 have b1:=Int.emod_lt_of_pos (c / 4) (show 0 < v by omega)
 refine⟨λm σ H'=>∃n:Int,m=n.toNat/\σ = [some (.int c),some (.int n)]/\H'=H1/\2<=n/\n<=9973,⟨_,_,rfl,rfl,rfl,by omega,by omega⟩,?_⟩
 rintro m σ H' ⟨n,rfl,rfl,rfl,h2,hn⟩
 refine⟨_,rfl,n,rfl,h2,hn,_,rfl,?_⟩
 refine cNB (λc1 => ?_) (λc1 => ?_)
 ·refine⟨λσ' H''=>σ'=[some (.int c),some (.int (n - 1))]/\H''=H',?_,?_⟩
  ·rintro σ' H'' ⟨rfl,rfl⟩
   have n2:n≠2:=λz=>by rw[z,zre]at c1;cases c1
   exact⟨(n - 1).toNat,by omega,n - 1,rfl,rfl,rfl,by omega,by omega⟩
  ·walk_at "rd"
   rfl
 ·exact⟨_,rfl,k n H' e1 (.inr (zsk c1)) hn⟩
theorem scLFld:FnScope ["_law_p"] ["_law_p"] (defScope zb2):=⟨rfl,rfl,rfl,by decide +kernel,rfl,by decide +kernel,by decide +kernel⟩
set_option maxHeartbeats 4000000 in
theorem zpy(F:FunD K "_law_field" "_law_field" zb2 .none f fd)(T:Txt K mg zam zad zan zai zac zaj zab)(k_RestsInit:Mak P w K mg base (CXe P w) 2 "Rests" zan ["self","prime"] [] (spRests zan zcc))(k_FracInit:Mak P w K mg base CX0 2 "Fractions" zad ["self"] [] (spFracInit zad)):FnOk P w K mg base CX0 5 f fd ["_law_p"] (spLFld zad zan):=by
 refine F.okN (k:=4) scLFld (λvs H Q E h => ?_) (λcdv A outer s H vs Q E hr h => ?_)
 ·obtain⟨n,rfl,_⟩:=h
  rfl
 obtain⟨n,rfl,h⟩:=h
 refine⟨_,(zag (zcd (zav znc (pv 0) (zak) (nomark _)) (zah (zar (zpd k_RestsInit hr passF .nil ((zaa (pv 0) zaf))))) zaz)
  (zah (zar (zrr k_FracInit hr pass00 .nil)))),?_⟩
 obtain⟨n2,n1,k⟩:=h
 walk_at "rd"
 refine cD (λc => ?_) (λc => ?_)
 ·have hp:Pr n:=n2.resolve_left (by omega)
  refine⟨_,rfl,λx dx nx ndx ne => ?_⟩
  refine⟨x,dx,n,rfl,zae,.inl ⟨n1,zq7 hp,rfl,?_⟩⟩
  refine k x _ (λb o e => ?_) ?_
  ·rw[zao (zaq e nx),zao (zaq e nx),zao (zaq e ndx)]
   exact e
  ·unfold AtN
   rw[if_neg (by omega)]
   exact⟨dx,zae,hp,n1⟩
 ·have n0:n=0:=by
   rcases n2 with z | z
   ·exact z
   ·have:=z.1;omega
  subst n0
  intro x dx nx ndx ne
  refine⟨x,dx,rfl,zae,rfl,?_⟩
  refine k x _ (λb o e => ?_) ?_
  ·rw[zao (zaq e nx),zao (zaq e nx),zao (zaq e ndx)]
   exact e
  ·unfold AtN
   rw[if_pos rfl]
   exact⟨dx,zae⟩
theorem scWay:FnScope ["_law_cell","_law_many","_law_weights","_law_left","_law_k"] ["_law_cell","_law_many"] (defScope zcr):=⟨rfl,rfl,rfl,by decide +kernel,rfl,by decide +kernel,by decide +kernel⟩
set_option maxHeartbeats 4000000 in
theorem zsg(F:FunD K "_law_way" "_law_way" zcr .none f fd)(T:Txt K mg zam zad zan zai zac zaj zab)   : FnOk P w K mg base CX0 1 f fd ["_law_cell","_law_many"] spWay:=by
 refine F.okN (k:=0) scWay (λvs H Q E h => ?_) (λcdv A outer s H vs Q E hr h => ?_)
 ·obtain⟨c,m,rfl,_⟩:=h
  rfl
 obtain⟨c,m,rfl,h⟩:=h
 refine⟨_,(zag (zau (i:=2) scWay.nd rfl (Or.inl rfl) (zc2 (zaf)))
  (zag (zau (i:=3) scWay.nd rfl (Or.inl rfl) (zax zd4 (pv 0) (zak)))
  (zag (zdk PassesOwn.never rfl (zb9 rfl T.b_range ((zaa (pv 1) zaf))) (zbj (i:=4) scWay.nd rfl (Or.inl rfl)) (zag (zdr (zmq PySem.F.plainAttrs_list PySem.F.slot_list_append PySem.F.type_list_append zej (pv 2) ((zaa (zdz (r:=rIxL K) zfg (zc2 ((zaa (zak) (zaa (zak) (zaa (zak) (zaa (zak) (zaa (zax zc5 (zax zo5 (zak) (zak)) (zak)) zaf))))))) (zax zc0 (pv 3) (zak)) (λ_ _=>rfl)) zaf))))
  (zah (zau (i:=3) scWay.nd rfl (Or.inl rfl) (zax zd4 (pv 3) (zak))))))
  (zah (zar (zdq ((zaa (zax zc0 (pv 0) (zak)) (zaa (pv 2) zaf))))))))),?_⟩
 obtain⟨m4,k⟩:=h
 refine⟨Nat.zero_le _,λl hl => ?_⟩
 have e1:Same H (upd H l (.lst [])):=Same.upd hl
 have hl1:(upd H l (HO.lst [])) l=some (.lst []):=zae
 generalize upd H l (HO.lst [])=H1 at e1 hl1
 refine⟨_,rfl,_,_,rfl,rfl,⟨by decide,by decide⟩,_,rfl,(m:Int),rfl,by omega,by omega,?_⟩
 have mt:((m:Int)).toNat=m:=by omega
 refine zcw (lo:=0) (n:=(m:Int).toNat) (λj σ H'=>Same H H'/\∃(ws:List Int) (lf:Int) (v4:Option V),σ = [some (.int c),some (.int m),some (.ref l),some (.int lf),v4]/\H' l=some (.lst (ws.map V.int))/\ws.length=j/\Nn ws/\∀x∈ws,x < 10 ^ 31) ?_ ?_ ?_
 ·exact⟨e1,[],_,none,rfl,hl1,rfl,(λx hx=>by cases hx),λx hx=>by cases hx⟩
 ·rintro j σ H3 hj ⟨e3,ws,lf,v4,rfl,hl3,lw,wn,wb⟩
  rw[mt]at hj
  unfold gName
  dsimp only
  obtain⟨v,v0,v1,hv⟩:=tab5 (r:=lf % 5) (by omega) (by omega)
  refine⟨_,rfl,.inl ⟨rfl,_,SqL.of hl3⟩,?_⟩
  refine⟨_,_,rfl,rfl,⟨by decide,by decide,by decide⟩,_,_,rfl,rfl,(by show 5<=sizeLine;decide),λq hq => ?_⟩
  have nql:l≠q:=λz=>by rw[z,hq]at hl3;cases hl3
  have zz:(ws.map V.int).length < sizeLine:=zlt _ (by rw[List.length_map];omega)
  refine⟨_,rfl,_,_,rfl,rfl,(by show (0:Int) < 5;decide),q,_,_,_,rfl,rfl,SqL.of zae,hv,l,ws.map V.int,.int v,rfl,rfl,(by rw[zao nql];exact hl3),zz,?_⟩
  refine⟨_,rfl,_,_,rfl,rfl,⟨by decide,by decide⟩,?_⟩
  refine⟨(e3.updR (e3.free hq)).updR hl,ws ++ [v],_,_,rfl,?_,by rw[List.length_append,lw];rfl,λy hy => ?_,λy hy => ?_⟩
  ·rw[zae,List.map_append];rfl
  ·rcases List.mem_append.mp hy with hy | hy
   ·exact wn y hy
   ·rw[List.mem_singleton.mp hy];exact v0
  ·rcases List.mem_append.mp hy with hy | hy
   ·exact wb y hy
   ·rw[List.mem_singleton.mp hy];exact v1
 ·rintro σ H3 ⟨e3,ws,lf,v4,rfl,hl3,lw,wn,wb⟩
  rw[mt]at lw
  refine⟨_,rfl,_,_,rfl,rfl,(by show (0:Int) < 4;decide),_,rfl,(by show 2<=sizeLine;decide),λp hp => ?_⟩
  have e4:Same H3 (upd H3 p (.tup [.int (c % 4),.ref l])):=Same.upd hp
  exact k p l ws _ (e3.trans e4) zae (e4 _ _ hl3) lw wn wb
theorem scLOrd:FnScope ["_law_way_here"] ["_law_way_here"] (defScope zb1):=⟨rfl,rfl,rfl,by decide +kernel,rfl,by decide +kernel,by decide +kernel⟩
set_option maxHeartbeats 4000000 in
theorem zrb(F:FunD K "_law_order" "_law_order" zb1 .none f fd)(T:Txt K mg zam zad zan zai zac zaj zab)(k_WInit:Mak P w K mg base (CXe P w) 1 "Weights" zab ["self","weights"] [] (spWInit K zab zcb)):FnOk P w K mg base CX0 3 f fd ["_law_way_here"] (spLOrd K zai zac zaj zab):=by
 refine F.okN (k:=2) scLOrd (λvs H Q E h => ?_) (λcdv A outer s H vs Q E hr h => ?_)
 ·obtain⟨r,l,kd,ws,rfl,_⟩:=h
  rfl
 obtain⟨r,l,kd,ws,rfl,h⟩:=h
 refine⟨_,(zag (zcd (zav zdu (zdz (r:=rIxT K) zdo (pv 0) (zak) (λ_ _=>rfl)) (zak) (nomark _)) (zah (zar (zh4 T.n0_Degrees T.mg_Degrees))) zaz)
  (zag (zcd (zav zdu (zdz (r:=rIxT K) zdo (pv 0) (zak) (λ_ _=>rfl)) (zak) (nomark _)) (zah (zar (zh4 T.n0_Tails T.mg_Tails))) zaz)
  (zag (zcd (zav zdu (zdz (r:=rIxT K) zdo (pv 0) (zak) (λ_ _=>rfl)) (zak) (nomark _)) (zah (zar (zpd k_WInit hr passF .nil ((zaa (za4 (zkc (K:=K) rfl) rfl T.b_list (by kernel_rfl) ((zaa (zdz (r:=rIxT K) zdo (pv 0) (zak) (λ_ _=>rfl)) zaf))) zaf))))) zaz)
  (zah (zar (zh4 T.n0_Order T.mg_Order)))))),?_⟩
 obtain⟨hr0,k0,k4,hl,hlen,hn,q⟩:=h
 have mk:∀{C:Addr} {H:Hp} {p dx:Addr},H p=none->H dx=none->Same H (upd (upd H dx (.own p)) p (.ins C dx [])):=fun{C H p dx} np ndx b o e=>by
  rw[zao (zaq e np),zao (zaq e ndx)]
  exact e
 refine⟨_,rfl,r,_,_,_,rfl,rfl,SqT.of hr0,atI0,?_⟩
 refine⟨rfl,_,rfl,cEq (λc => ?_) (λc => ?_)⟩
 ·intro p dx np ndx ne
  exact q p _ (mk np ndx) (by unfold AtK;rw[if_neg (by omega),if_pos c];exact⟨dx,zae⟩)
 refine⟨_,rfl,r,_,_,_,rfl,rfl,SqT.of hr0,atI0,?_⟩
 refine⟨rfl,_,rfl,cEq (λc1 => ?_) (λc1 => ?_)⟩
 ·intro p dx np ndx ne
  exact q p _ (mk np ndx) (by unfold AtK;rw[if_neg (by omega),if_neg (by omega),if_pos c1];exact⟨dx,zae⟩)
 refine⟨_,rfl,r,_,_,_,rfl,rfl,SqT.of hr0,atI0,?_⟩
 refine⟨rfl,_,rfl,cEq (λc2 => ?_) (λc2 => ?_)⟩
 ·refine⟨_,rfl,r,_,_,_,rfl,rfl,SqT.of hr0,atI1,l,_,rfl,.inl (SqL.of hl),λm hm => ?_⟩
  have e1:Same H (upd H m (HO.lst (ws.map V.int))):=Same.upd hm
  intro p dx np ndx ne
  have e2:=mk (C:=zab) np ndx
  refine⟨p,dx,m,ws,rfl,zae,SqL.of (e2 _ _ zae),hlen,.inl ⟨hn,λwt H' h1 h2 h3=>⟨rfl,q p H' (λb o e=>h3 b o (e2 _ _ (e1 _ _ e)) (zaq (e1 _ _ e) np)) ?_⟩⟩⟩
  unfold AtK
  rw[if_neg (by omega),if_neg (by omega),if_neg (by omega)]
  exact⟨dx,wt,h1,h2⟩
 ·intro p dx np ndx ne
  exact q p _ (mk np ndx) (by unfold AtK;rw[if_pos (by omega)];exact⟨dx,zae⟩)
theorem scRed:FnScope ["_law_top","_law_bottom","_law_one","_law_other","_law_rest"] ["_law_top","_law_bottom"] (defScope zbq):=⟨rfl,rfl,rfl,by decide +kernel,rfl,by decide +kernel,by decide +kernel⟩
set_option maxHeartbeats 4000000 in
theorem zrh(F:FunD K "_law_reduced" "_law_reduced" zbq .none f fd)(T:Txt K mg zam zad zan zai zac zaj zab)   : FnOk P w K mg base CX0 1 f fd ["_law_top","_law_bottom"] spRed:=by
 refine F.okN (k:=0) scRed (λvs H Q E h => ?_) (λcdv A outer s H vs Q E hr h => ?_)
 ·obtain⟨t,b,rfl,_⟩:=h
  rfl
 obtain⟨t,b,rfl,h⟩:=h
 refine⟨_,(zag (zau (i:=2) scRed.nd rfl (Or.inl rfl) (zat zoe rfl T.b_abs (by kernel_rfl) ((zaa (pv 0) zaf))))
  (zag (zau (i:=3) scRed.nd rfl (Or.inl rfl) (pv 1))
  (zag (zeg PassesOwn.never (zav zro (pv 3) (zak) (nomark _)) (zag (zau (i:=4) scRed.nd rfl (Or.inl rfl) (zax zib (pv 2) (pv 3)))
  (zag (zau (i:=2) scRed.nd rfl (Or.inl rfl) (pv 3))
  (zah (zau (i:=3) scRed.nd rfl (Or.inl rfl) (pv 4))))))
  (zah (zar (zdq ((zaa (zax zjf (pv 0) (pv 2)) (zaa (zax zjf (pv 1) (pv 2)) zaf))))))))),?_⟩
 obtain⟨b1,hb,ht,k⟩:=h
 walk_at "rd"
 refine⟨λm σ H'=>∃(a' b':Int) (v:Option V),m=b'.toNat/\σ = [some (.int t),some (.int b),some (.int a'),some (.int b'),v]/\H'=H/\0<=a'/\0<=b'/\Gc (if t < 0 then -t else t) b a' b',⟨_,_,_,none,rfl,rfl,rfl,K1.start (by split <;> omega) (by omega)⟩,?_⟩
 rintro m σ H' ⟨a',b',v,rfl,rfl,rfl,h1,h2,hg⟩
 walk_at "rd"
 refine cNe (λc => ?_) (λc => ?_)
 ·refine⟨λσ' H''=>∃v',σ'=[some (.int t),some (.int b),some (.int b'),some (.int (a'.fmod b')),v']/\H''=H',?_,?_⟩
  ·rintro σ' H'' ⟨v',rfl,rfl⟩
   exact⟨(a'.fmod b').toNat,K1.less (by omega),_,_,v',rfl,rfl,rfl,K1.turn hg h1 (by omega)⟩
  ·refine⟨_,rfl,_,rfl,_,_,rfl,rfl,c,?_⟩
   walk_at "rd"
   rfl
 ·have eg:a'=gI t b:=by
   rw[K1.out hg h1 c]
   have:=zrf t b
   rwa [if_neg (by omega:¬b < 0)]at this
  have gp:0 < gI t b:=zou (by omega)
  obtain⟨g0,gb⟩:=zso (a:=t) (show b≠0 by omega) hb
  subst eg
  refine⟨_,rfl,_,rfl,_,_,rfl,rfl,⟨g0,up gb (by decide)⟩,_,rfl,_,rfl,_,_,rfl,rfl,⟨g0,up gb (by decide)⟩,(by show 2<=sizeLine;decide),λr hr => ?_⟩
  refine k r _ (Same.upd hr) ?_
  dsimp only
  rw[zae,Int.fdiv_eq_ediv_of_nonneg _ (Int.le_of_lt gp),Int.fdiv_eq_ediv_of_nonneg _ (Int.le_of_lt gp)]
theorem scLRank:FnScope ["_law_way_here","_law_term"] ["_law_way_here","_law_term"] (defScope zcj):=⟨rfl,rfl,rfl,by decide +kernel,rfl,by decide +kernel,by decide +kernel⟩
set_option maxHeartbeats 4000000 in
theorem zmv(F:FunD K "_law_rank" "_law_rank" zcj .none f fd)(T:Txt K mg zam zad zan zai zac zaj zab)   : FnOk P w K mg base CX0 1 f fd ["_law_way_here","_law_term"] spLRank:=by
 refine F.okN (k:=0) scLRank (λvs H Q E h => ?_) (λcdv A outer s H vs Q E hr h => ?_)
 ·obtain⟨r,l,t,kd,ws,xs,rfl,_⟩:=h
  rfl
 obtain⟨r,l,t,kd,ws,xs,rfl,h⟩:=h
 refine⟨_,(zag (zcd (zav zdu (zdz (r:=rIxT K) zdo (pv 0) (zak) (λ_ _=>rfl)) (zak) (nomark _)) (zah (zar (zax zd8 (zdq ((zaa (zat (zdd (K:=K) rfl true rfl) rfl T.b_sum (by kernel_rfl) ((zaa (pv 1) zaf))) zaf))) (pv 1)))) zaz)
  (zag (zcd (zav zdu (zdz (r:=rIxT K) zdo (pv 0) (zak) (λ_ _=>rfl)) (zak) (nomark _)) (zah (zar (zax zd8 (zdq ((zaa (zat (zdd (K:=K) rfl true rfl) rfl T.b_sum (by kernel_rfl) ((zaa (pv 1) zaf))) zaf))) (za4 (zbb (K:=K) rfl) rfl T.b_tuple (by kernel_rfl) ((zaa (zbu (N:=["_law_a"]) (Blk.plain (by decide +kernel) (by decide +kernel) rfl (by decide +kernel) zea) rfl (zlr (K:=K) rfl rfl T.b_reversed ((zaa (pv 1) zaf))) (λC0 s0 H0 fp0=>zcz (i:=0) zea rfl rfl) (λC0 s0 H0 fp0=>zbv) (λC0 s0 H0 fp0=>zse zoy (pv 0))) zaf)))))) zaz)
  (zag (zcd (zav zdu (zdz (r:=rIxT K) zdo (pv 0) (zak) (λ_ _=>rfl)) (zak) (nomark _)) (zah (zar (zax zd8 (zdq ((zaa (zat (zdd (K:=K) rfl false rfl) rfl T.b_sum (by kernel_rfl) ((zaa (zbu (N:=["_law_a","_law_w"]) (Blk.plain (by decide +kernel) (by decide +kernel) rfl (by decide +kernel) zdj) rfl (zfk (K:=K) rfl true false rfl T.b_zip ((zaa (pv 1) (zaa (zdz (r:=rIxT K) zdo (pv 0) (zak) (λ_ _=>rfl)) zaf)))) (λC0 s0 H0 fp0=>zhb (K:=K) rfl rfl rfl zdj rfl rfl) (λC0 s0 H0 fp0=>zbv) (λC0 s0 H0 fp0=>zax zkw (pv 0) (pv 1))) zaf))) zaf))) (pv 1)))) zaz)
  (zah (zar (pv 1)))))),?_⟩
 obtain⟨hr0,k0,k4,hl,wn,wb,ht,px,k⟩:=h
 refine⟨_,rfl,r,_,_,_,rfl,rfl,SqT.of hr0,atI0,?_⟩
 refine⟨rfl,_,rfl,cEq (λc => ?_) (λc => ?_)⟩
 ·refine⟨_,rfl,t,xs,rfl,SqT.of ht,(by show 1<=sizeLine;decide),λl1 hl1 => ?_⟩
  have e1:Same H (upd H l1 (HO.tup [V.int xs.sum])):=Same.upd hl1
  refine⟨_,rfl,?_⟩
  refine⟨l1,t,_,_,rfl,rfl,SqT.of (zae),SqT.of (e1 _ _ ht),by simp,by simp;exact Nat.le_trans (Nat.add_le_add_left px.len 1) (by rw[sizeLine_eq];decide),λz => ?_,λ_ p hp => ?_⟩
  ·exact absurd (List.map_eq_nil_iff.mp z) px.ne
  ·refine k p _ (e1.updR (e1.free hp)) ?_
   rw[zae]
   unfold rkk
   rw[if_neg (by omega),if_neg (by omega),if_pos c]
   rfl
 refine⟨_,rfl,r,_,_,_,rfl,rfl,SqT.of hr0,atI0,?_⟩
 refine⟨rfl,_,rfl,cEq (λc1 => ?_) (λc1 => ?_)⟩
 ·refine⟨_,rfl,t,xs,rfl,SqT.of ht,(by show 1<=sizeLine;decide),λl1 hl1 => ?_⟩
  have e1:Same H (upd H l1 (HO.tup [V.int xs.sum])):=Same.upd hl1
  have ht1:SqT K (upd H l1 (HO.tup [V.int xs.sum])) t (xs.map V.int):=SqT.of (e1 _ _ ht)
  have lm:(xs.map V.int).length=xs.length:=List.length_map _
  show tComp _ _ _ _ _ _ _ _
  refine zcu (J:=Itv K t (xs.map V.int).length) (H1:=upd H l1 (HO.tup [V.int xs.sum])) (zi3 ht1) (by rw[lm];exact Nat.le_trans px.len (by decide)) ?_ (λσ=>σ.length=1) (λ_=>true) (λi => .int (-(xs.getD (xs.length - 1 - i) 0))) rfl ?_ λD H' e hL => ?_
  ·exact λR hR=>⟨_,rfl,t,_,rfl,ht1,hR⟩
  ·rintro i x σ' H2 hi hs e hx Ny Nn hy hn
   rw[lm]at hx
   rw[zcv hx]
   match σ',hs with
   | [_],_=>exact⟨_,rfl,_,rfl,hy _ _ rfl (Same.refl _) rfl⟩
  rw[List.filter_eq_self.mpr (λ_ _=>rfl),lm]at hL
  have eL:(List.range xs.length).map (λi=>V.int (-(xs.getD (xs.length - 1 - i) 0)))=(xs.reverse.map λx => -x).map V.int:=by
   rw[<- zjh xs λx => -x,List.map_map];rfl
  rw[eL]at hL
  refine⟨D,_,rfl,.inl ⟨SqL.of hL,λm hm => ?_⟩⟩
  have e2:Same H' (upd H' m (HO.tup ((xs.reverse.map λx => -x).map V.int))):=Same.upd hm
  have e3:=(e1.trans e).trans e2
  refine⟨l1,m,_,_,rfl,rfl,SqT.of (e2 _ _ (e _ _ zae)),SqT.of zae,by simp,by simp;exact Nat.le_trans (Nat.add_le_add_left px.len 1) (by rw[sizeLine_eq];decide),λz => ?_,λ_ p hp => ?_⟩
  ·exact absurd (by simpa using z) px.ne
  ·refine k p _ (e3.updR (e3.free hp)) ?_
   rw[zae]
   unfold rkk
   rw[if_neg (by omega),if_neg (by omega),if_neg (by omega)]
   rfl
 refine⟨_,rfl,r,_,_,_,rfl,rfl,SqT.of hr0,atI0,?_⟩
 refine⟨rfl,_,rfl,cEq (λc2 => ?_) (λc2 => ?_)⟩
 ·show tComp _ _ _ _ _ _ _ _
  refine zef (K:=K) (b1:=true) (b2:=false) (a:=t) (b:=l) (xs:=xs) (ys:=ws) yes2 (λx y => .int (x * y)) (by rfl) ?_ (SqT.of ht) (SqL.of hl) (Nat.le_trans px.len (by decide)) ?_ ?_ λD H' e hL => ?_
  ·exact λR hR=>⟨_,rfl,_,rfl,r,_,_,_,rfl,rfl,SqT.of hr0,atI1,hR⟩
  ·exact λ_ _ _ h=>h
  ·exact λi H' R _ h=>⟨_,rfl,_,rfl,_,_,rfl,rfl,⟨bits px.nn px.hi i,bits wn wb i⟩,h⟩
  rw[zmf]at hL
  refine⟨D,_,rfl,SqL.of hL,(by show 1<=sizeLine;decide),λl1 hl1 => ?_⟩
  have e1:Same H' (upd H' l1 (HO.tup [V.int (wsum ws xs)])):=Same.upd hl1
  have e2:=e.trans e1
  refine⟨_,rfl,?_⟩
  refine⟨l1,t,_,_,rfl,rfl,SqT.of (zae),SqT.of (e2 _ _ ht),by simp,by simp;exact Nat.le_trans (Nat.add_le_add_left px.len 1) (by rw[sizeLine_eq];decide),λz => ?_,λ_ p hp => ?_⟩
  ·exact absurd (List.map_eq_nil_iff.mp z) px.ne
  ·refine k p _ (e2.updR (e2.free hp)) ?_
   rw[zae]
   unfold rkk
   rw[if_neg (by omega),if_pos c2]
   rfl
 ·refine⟨_,rfl,k t H (Same.refl _) ?_⟩
  unfold rkk
  rw[if_pos (by omega)]
  exact ht
theorem scNz:FnScope ["_law_p","_law_cell"] ["_law_p","_law_cell"] (defScope zbl):=⟨rfl,rfl,rfl,by decide +kernel,rfl,by decide +kernel,by decide +kernel⟩
set_option maxHeartbeats 4000000 in
theorem zsr(F:FunD K "_law_nonzero" "_law_nonzero" zbl .none f fd)(T:Txt K mg zam zad zan zai zac zaj zab)(c_Red:Cal P w K mg base CX0 1 "_law_reduced" ["_law_top","_law_bottom"] [] spRed):FnOk P w K mg base CX0 2 f fd ["_law_p","_law_cell"] spNz:=by
 refine F.okN (k:=1) scNz (λvs H Q E h => ?_) (λcdv A outer s H vs Q E hr h => ?_)
 ·obtain⟨n,c,rfl,_⟩:=h
  rfl
 obtain⟨n,c,rfl,h⟩:=h
 refine⟨_,(zag (zcd (zav znc (pv 0) (zak) (nomark _)) (zah (zar (zax zc5 (zak) (zax zc0 (pv 1) (zat (zmc rfl) rfl T.b_max (by kernel_rfl) ((zaa (zak) (zaa (zax zjd (pv 0) (zak)) zaf)))))))) zaz)
  (zah (zar (pe_c c_Red hr pass00 .nil ((zaa (zax zc5 (zak) (zax zc0 (pv 1) (zax zo5 (zak) (zak)))) (zaa (zax zc5 (zak) (zax zc0 (zax zd4 (pv 1) (zak)) (zak))) zaf))))))),?_⟩
 obtain⟨n2,n1,k⟩:=h
 walk_at "rd"
 by_cases c0:0 < n
 ·rw[decide_eq_true c0]
  refine iteT ?_
  have p0:(0:Int) < (if n - 1 > 1 then n - 1 else 1):=by split <;> omega
  refine⟨_,rfl,_,rfl,_,_,rfl,rfl,_,_,rfl,_,_,rfl,rfl,p0,_,_,rfl,rfl,?_⟩
  exact k _ (1 + c % (if n - 1 > 1 then n - 1 else 1),0) H (Same.refl _) ((nv_n (by omega)).mpr rfl)
 ·rw[decide_eq_false c0]
  have n0:n=0:=by
   rcases n2 with q | q
   ·exact q
   ·have:=q.1;omega
  have q2:(0:Int) < 10 ^ (Int.toNat 20):=by rw[e20];decide
  have r3:=Int.emod_nonneg c (Int.ne_of_gt q2)
  have r4:=Int.emod_lt_of_pos c q2
  refine iteF ⟨_,rfl,_,_,rfl,rfl,⟨by decide,by decide,by decide⟩,_,_,rfl,rfl,q2,_,_,rfl,rfl,_,rfl,_,_,rfl,rfl,⟨by decide,by decide⟩,_,_,rfl,rfl,(by show (0:Int) < 7;decide),_,_,rfl,rfl,?_⟩
  refine⟨_,_,rfl,by show 1<=1 + c / 3 % 7;omega,bd400 (by omega),bd400 (by rw[e20]at r3 r4 ⊢;omega),λr H' e hr => ?_⟩
  subst n0
  exact k (.ref r) ((1 + c % 10 ^ Int.toNat 20) / gI (1 + c % 10 ^ Int.toNat 20) (1 + c / 3 % 7),(1 + c / 3 % 7) / gI (1 + c % 10 ^ Int.toNat 20) (1 + c / 3 % 7)) H' e (nv_0.mpr ⟨r,rfl,hr⟩)
theorem scMono:FnScope ["_law_p","_law_many","_law_cell","_law_fixed","_law_top","_law_powers","_law_left","_law_k"] ["_law_p","_law_many","_law_cell","_law_fixed"] (defScope zce):=⟨rfl,rfl,rfl,by decide +kernel,rfl,by decide +kernel,by decide +kernel⟩
set_option maxHeartbeats 4000000 in
theorem zpi(F:FunD K "_law_mono" "_law_mono" zce .none f fd)(T:Txt K mg zam zad zan zai zac zaj zab)(c_Nz:Cal P w K mg base CX0 2 "_law_nonzero" ["_law_p","_law_cell"] [] spNz):FnOk P w K mg base CX0 3 f fd ["_law_p","_law_many","_law_cell","_law_fixed"] spMono:=by
 refine F.okN (k:=2) scMono (λvs H Q E h => ?_) (λcdv A outer s H vs Q E hr h => ?_)
 ·obtain⟨n,m,c,fx,rfl,_⟩:=h
  rfl
 obtain⟨n,m,c,fx,rfl,h⟩:=h
 refine⟨_,(zag (zau (i:=4) scMono.nd rfl (Or.inl rfl) (zdz (r:=rIxL K) zfg (zc2 ((zaa (zak) (zaa (zak) (zaa (zak) (zaa (zak) zaf)))))) (zax zjd (pv 1) (zak)) (λ_ _=>rfl)))
  (zag (zau (i:=5) scMono.nd rfl (Or.inl rfl) (zc2 (zaf)))
  (zag (zau (i:=6) scMono.nd rfl (Or.inl rfl) (pv 2))
  (zag (zdk PassesOwn.never rfl (zb9 rfl T.b_range ((zaa (pv 1) zaf))) (zbj (i:=7) scMono.nd rfl (Or.inl rfl)) (zag (zdr (zmq PySem.F.plainAttrs_list PySem.F.slot_list_append PySem.F.type_list_append zej (pv 5) ((zaa (zax zc0 (pv 6) (zax zc5 (pv 4) (zak))) zaf))))
  (zah (zau (i:=6) scMono.nd rfl (Or.inl rfl) (zax zd4 (pv 6) (zax zc5 (pv 4) (zak)))))))
  (zag (zcd (PW.pt (zrw (zav zdu (zat (zmg rfl rfl) rfl T.b_max (by kernel_rfl) ((zaa (pv 5) zaf))) (zak) (nomark _)) (zqp (zee (zc9 (pv 3)))))) (zah (zar (ze5))) zaz)
  (zah (zar (zji hr.units0 (za4 (zbb (K:=K) rfl) rfl T.b_tuple (by kernel_rfl) ((zaa (pv 5) zaf))) (pe_c c_Nz hr pass00 .nil ((zaa (pv 0) (zaa (pv 2) zaf)))))))))))),?_⟩
 obtain⟨n2,n1,m1,m4,k⟩:=h
 obtain⟨t3,t100⟩:=zi7 m1 m4
 refine⟨(by show 4<=sizeLine;decide),λq hq => ?_⟩
 refine⟨_,rfl,_,_,rfl,rfl,q,_,_,_,rfl,rfl,SqL.of zae,tabM m1 m4,?_⟩
 have e0:Same H (upd H q (.lst [V.int 99,V.int 9,V.int 3,V.int 2])):=Same.upd hq
 generalize upd H q (HO.lst [V.int 99,V.int 9,V.int 3,V.int 2])=H0 at e0
 dsimp only[gName]
 refine⟨Nat.zero_le _,λl hl => ?_⟩
 have e1:Same H0 (upd H0 l (.lst [])):=Same.upd hl
 have hl1:(upd H0 l (HO.lst [])) l=some (.lst []):=zae
 generalize upd H0 l (HO.lst [])=H1 at e1 hl1
 have g1:=e0.trans e1
 have hlH:H l=none:=e0.free hl
 refine⟨_,rfl,?_⟩
 have mt:((m:Int)).toNat=m:=by omega
 refine⟨_,rfl,(m:Int),rfl,by omega,by omega,?_⟩
 rw[mt]
 refine zcw (lo:=0) (n:=m) (λj σ H'=>Same H H'/\∃(ps:List Int) (lf:Int) (v7:Option V),σ = [some (.int n),some (.int m),some (.int c),some (.bl fx),some (.int (topM m - 1)),some (.ref l),some (.int lf),v7]/\H' l=some (.lst (ps.map V.int))/\ps.length=j/\∀x∈ps,0<=x/\x<=topM m) ?_ ?_ ?_
 ·exact⟨g1,[],c,none,rfl,hl1,rfl,λx hx=>by cases hx⟩
 ·rintro j σ H3 hj ⟨e3,ps,lf,v7,rfl,hl3,lw,wb⟩
  unfold gName
  dsimp only
  have zz:(ps.map V.int).length < sizeLine:=zlt _ (by rw[List.length_map];omega)
  have tp:(0:Int) < topM m - 1 + 1:=by omega
  refine⟨_,rfl,.inl ⟨rfl,_,SqL.of hl3⟩,?_⟩
  refine⟨_,rfl,_,rfl,_,_,rfl,rfl,_,_,rfl,rfl,tp,l,ps.map V.int,_,rfl,rfl,hl3,zz,?_⟩
  refine⟨_,rfl,_,rfl,_,_,rfl,rfl,_,_,rfl,rfl,⟨tp,by omega⟩,?_⟩
  ·have b0:=Int.emod_nonneg lf (Int.ne_of_gt tp)
   have b1:=Int.emod_lt_of_pos lf tp
   refine⟨e3.updR hlH,ps ++ [lf % (topM m - 1 + 1)],_,_,rfl,?_,by rw[List.length_append,lw];rfl,λy hy => ?_⟩
   ·rw[zae,List.map_append];rfl
   ·rcases List.mem_append.mp hy with hy | hy
    ·exact wb y hy
    ·rw[List.mem_singleton.mp hy];omega
 ·rintro σ H3 ⟨e3,ps,lf,v7,rfl,hl3,lw,wb⟩
  have ne:ps≠[]:=λz=>by rw[z]at lw;simp at lw;omega
  have fin:∀H4,Same H3 H4->tDisp1 (tCB (rTupleOf K) (tCons (tVar 5) tNil)) (tCallS spNz [] (λx=>E0) (tCons (tVar 0) (tCons (tVar 2) tNil))) [some (.int n),some (.int m),some (.int c),some (.bl fx),some (.int (topM m - 1)),some (.ref l),some (.int lf),v7] H4 Q:=λH4 e4=>by
   intro d nd
   have e5:Same H4 (upd H4 d (.dT [])):=Same.upd nd
   have hd5:(upd H4 d (HO.dT [])) d=some (.dT []):=zae
   generalize upd H4 d (HO.dT [])=H5 at e5 hd5
   refine⟨_,rfl,l,_,rfl,.inl ⟨SqL.of (e5 _ _ (e4 _ _ hl3)),λtp ntp => ?_⟩⟩
   have e6:Same H5 (upd H5 tp (.tup (ps.map V.int))):=Same.upd ntp
   have htp:(upd H5 tp (HO.tup (ps.map V.int))) tp=some (.tup (ps.map V.int)):=zae
   generalize upd H5 tp (HO.tup (ps.map V.int))=H6 at e6 htp
   refine⟨_,rfl,_,rfl,n,c,rfl,n2,n1,λv z H7 e7 nv => ?_⟩
   have hd7:=e7 _ _ (e6 _ _ hd5)
   have g7:Same H H7:=(((e3.trans e4).trans e5).trans e6).trans e7
   have ndH:H d=none:=(e3.trans e4).free nd
   have t0:T0 m ps:=T0.of lw λx hx=>(wb x hx).1
   refine⟨tp,ky ps,rfl,hd7,by rw[zn2];exact e7 _ _ htp,k d _ _ (g7.updR ndH) zae (.inr ⟨ps,v,z,rfl,t0,λi => ?_,nv.updD hd7⟩)⟩
   rcases Nat.lt_or_ge i ps.length with q | q
   ·have:=(wb ps[i] (List.getElem_mem q)).2
    simpa[List.getD,q]using this
   ·have:ps.getD i 0=0:=by simp[List.getD,List.getElem?_eq_none q]
    omega
  refine⟨_,rfl,l,ps,rfl,hl3,ne,λM hM hx=>⟨rfl,_,rfl,?_⟩⟩
  have new:∀d,H3 d=none->Q (.ref d) (upd H3 d (.dT [])):=λd nd=>k d [] _ (e3.trans (Same.upd nd)) zae (.inl rfl)
  by_cases c0:M=0
  ·rw[show decide (V.int M=V.int 0)=true from decide_eq_true (by rw[c0])]
   refine iteT ⟨_,rfl,_,rfl,?_⟩
   cases fx with
   | true=>exact iteF (fin _ (Same.refl _))
   | false=>exact iteT new
  ·rw[show decide (V.int M=V.int 0)=false from decide_eq_false (λz=>c0 (by injection z))]
   exact iteF (iteF (fin _ (Same.refl _)))
theorem scLst:FnScope ["_law_heads","_law_many","_law_at","_law_alone"] ["_law_heads","_law_many","_law_at"] (defScope za2):=⟨rfl,rfl,rfl,by decide +kernel,rfl,by decide +kernel,by decide +kernel⟩
set_option maxHeartbeats 4000000 in
theorem zsi(F:FunD K "_law_least_alone" "_law_least_alone" za2 .none f fd)(T:Txt K mg zam zad zan zai zac zaj zab)   : FnOk P w K mg base CX0 1 f fd ["_law_heads","_law_many","_law_at"] (spLst K):=by
 refine F.okN (k:=0) scLst (λvs H Q E h => ?_) (λcdv A outer s H vs Q E hr h => ?_)
 ·obtain⟨l,m,i,ys,hs,rfl,_⟩:=h
  rfl
 obtain⟨l,m,i,ys,hs,rfl,h⟩:=h
 refine⟨_,(zag (zf9 (N:=["_law_head","_law_at"]) (cl:=[("_law_at",s.heap.objs.size + 1)]) (mp:=[none,some 2]) (zbj (i:=3) scLst.nd rfl (Or.inl rfl)) (Blk.of rfl (by decide +kernel) rfl (by decide +kernel) zcn (zbf rfl zcp) (zgp (fs:=["_law_at"]) rfl (by decide +kernel)) rfl (zb7 (zbc rfl (.inl rfl) rfl zco))) rfl (zbr (K:=K) rfl (pv 0)) (λC0 s0 H0 fp0=>zcz (i:=0) zcn rfl rfl) (λC0 s0 H0 fp0=>zgn (zav zdu (zat (zdd (K:=K) rfl true rfl) rfl T.b_sum (by kernel_rfl) ((zaa (pv 0) zaf))) (zdz (r:=rIxT K) zdo (pv 0) (pv 1) (λ_ _=>rfl)) (nomark _))) (λC0 s0 H0 fp0=>zdz (r:=rIxT K) zdo (pv 0) (pv 1) (λ_ _=>rfl)))
  (zah (zar (zpr (pv 3) (ze8) hr T.b_min)))),?_⟩
 obtain⟨hl,im,m4,k⟩:=h
 show tComp _ _ _ _ _ _ _ _
 refine zcu (J:=Itl K l) (H1:=H) (zb6 (SqL.of hl.at_)) hl.b ?_ (λσ=>∃v,σ = [v,some (.int i)]) (λj=>aloneAt (hs.getD j []) i) (λj => .int ((hs.getD j []).getD i 0)) ⟨none,rfl⟩ ?_ λD H' e hL => ?_
 ·exact λR hR=>⟨_,rfl,l,rfl,⟨_,SqL.of hl.at_⟩,hR⟩
 ·rintro j v σ' H2 hj ⟨z,rfl⟩ e2 hv Ny Nn hy hn
  obtain⟨h1,r,hh,rfl,hr1,t1⟩:=(hl.same e2).get hv
  have eg:hs.getD j []=h1:=by simp[List.getD,hh]
  rw[eg]at hy hn
  have il:i < h1.length:=by rw[t1.len];exact im
  unfold gName
  dsimp only
  refine⟨_,rfl,r,h1,rfl,SqT.of hr1,_,rfl,_,rfl,r,_,_,_,rfl,rfl,SqT.of hr1,zg2 il,rfl,_,rfl,?_⟩
  rw[zgh]
  cases c:aloneAt h1 i with
  | true=>
   have e3:(h1.sum == h1.getD i 0)=true:=c
   rw[e3]
   exact iteT ⟨_,rfl,_,rfl,r,_,_,_,rfl,rfl,SqT.of hr1,zg2 il,hy _ _ ⟨_,rfl⟩ (Same.refl _) c⟩
  | false=>
   have e3:(h1.sum == h1.getD i 0)=false:=c
   rw[e3]
   exact iteF (hn _ _ ⟨_,rfl⟩ (Same.refl _) c)
 unfold gName
 dsimp only
 have el:((List.range ys.length).filter λj=>aloneAt (hs.getD j []) i).map (λj=>V.int ((hs.getD j []).getD i 0))=((hs.filter λh=>aloneAt h i).map λh=>h.getD i 0).map V.int:=by
  rw[<- hl.len,<- zcm (dd:=[]) (q:=λh=>aloneAt h i) (l:=hs),List.map_map,List.map_map]
  rfl
 rw[el]at hL
 exact⟨_,rfl,D,_,rfl,rfl,hL,k _ e⟩
theorem scFree:FnScope ["_law_heads","_law_term","_law_head"] ["_law_heads","_law_term"] (defScope zcf):=⟨rfl,rfl,rfl,by decide +kernel,rfl,by decide +kernel,by decide +kernel⟩
set_option maxHeartbeats 4000000 in
theorem zpp(F:FunD K "_law_free" "_law_free" zcf .none f fd)(T:Txt K mg zam zad zan zai zac zaj zab)   : FnOk P w K mg base CX0 1 f fd ["_law_heads","_law_term"] spFree:=by
 refine F.okN (k:=0) scFree (λvs H Q E h => ?_) (λcdv A outer s H vs Q E hr h => ?_)
 ·obtain⟨l,t,m,ys,hs,x,rfl,_⟩:=h
  rfl
 obtain⟨l,t,m,ys,hs,x,rfl,h⟩:=h
 refine⟨_,(zag (zdk PassesOwn.never rfl (zbr (K:=K) rfl (pv 0)) (zbj (i:=2) scFree.nd rfl (Or.inl rfl)) (zah (zcd (zc9 (zat (zfq (K:=K) rfl rfl) rfl T.b_all (by kernel_rfl) ((zaa (zbu (N:=["_law_a","_law_b"]) (Blk.plain (by decide +kernel) (by decide +kernel) rfl (by decide +kernel) zdi) rfl (zfk (K:=K) rfl true true rfl T.b_zip ((zaa (pv 2) (zaa (pv 1) zaf)))) (λC0 s0 H0 fp0=>zhb (K:=K) rfl rfl rfl zdi rfl rfl) (λC0 s0 H0 fp0=>zbv) (λC0 s0 H0 fp0=>zc3 znj (pv 0) (pv 1) (nomark _))) zaf)))) (zah (zar (zd3))) zaz)))
  (zah (zar (zd3)))),?_⟩
 obtain⟨m4,hl,ht,x0,k⟩:=h
 refine⟨_,rfl,l,rfl,⟨_,SqL.of hl.at_⟩,?_⟩
 refine zd9 (K:=K) (a:=l) (xs:=ys) (λi σ H'=>Same H H'/\(∃v2,σ = [some (.ref l),some (.ref t),v2])/\∀j,j < i->goesI (hs.getD j []) x=false) ?_ (λi σ H' _ h=>SqL.of (hl.same h.1).at_) ?_ ?_
 ·exact⟨Same.refl _,⟨none,rfl⟩,λj hj=>by omega⟩
 ·rintro i v σ H2 hv ⟨e2,⟨v2,rfl⟩,no⟩
  obtain⟨h1,r,hh,rfl,hr1,t1⟩:=(hl.same e2).get hv
  have eg:hs.getD i []=h1:=by simp[List.getD,hh]
  unfold gName
  dsimp only
  show tComp _ _ _ _ _ _ _ _
  refine zef (K:=K) (b1:=true) (b2:=true) (a:=r) (b:=t) (xs:=h1) (ys:=x) yes2 (λx y => .bl (decide (x<=y))) (by rfl) ?_ (SqT.of hr1) (SqT.of (e2 _ _ ht)) (by rw[t1.len];omega) ?_ ?_ λD H' e hL => ?_
  ·exact λR hR=>⟨_,rfl,_,rfl,hR⟩
  ·exact λ_ _ _ h=>h
  ·exact λi H' R _ h=>⟨_,rfl,_,rfl,_,_,rfl,rfl,h⟩
  refine⟨D,(List.range h1.length).map λi=>decide (h1.getD i 0<=x.getD i 0),rfl,SqL.of ?_,?_⟩
  ·rw[hL]
   unfold zipV
   rw[List.filter_eq_self.mpr (λ_ _=>rfl),List.map_map,show x.length=h1.length by rw[x0.len,t1.len],Nat.min_self]
   rfl
  ·have e3:((List.range h1.length).map λi=>decide (h1.getD i 0<=x.getD i 0)).all id=goesI h1 x:=by
    unfold goesI
    rw[List.all_map];rfl
   rw[e3]
   refine⟨_,rfl,?_⟩
   cases c:goesI h1 x with
   | true=>
    refine iteT ?_
    have o:outT hs x=false:=by
     cases o:outT hs x with
     | false=>rfl
     | true=>
      have:=outT_iff.mp o h1 (List.mem_of_getElem? hh)
      rw[c]at this;cases this
    have q:=k H' (e2.trans e)
    rw[o]at q
    exact q
   | false=>
    refine iteF ⟨e2.trans e,⟨_,rfl⟩,λj hj => ?_⟩
    rcases(by omega:j < i\/j=i) with q | q
    ·exact no j q
    ·rw[q,eg];exact c
 ·rintro σ H2 ⟨e2,⟨v2,rfl⟩,no⟩
  have o:outT hs x=true:=outT_iff.mpr λh hh=>by
   obtain⟨j,hj,rfl⟩:=List.mem_iff_getElem.mp hh
   have:=no j (by rw[<- hl.len];exact hj)
   simpa[List.getD,hj]using this
  have q:=k H2 e2
  rw[o]at q
  exact q
theorem scRows:FnScope ["_law_p","_law_many","_law_script","_law_fixed","_law_rows_here","_law_k","_law_cell","_law_top","_law_alone","_law_at"] ["_law_p","_law_many","_law_script"] (defScope zch):=⟨rfl,rfl,rfl,by decide +kernel,rfl,by decide +kernel,by decide +kernel⟩
set_option maxHeartbeats 4000000 in
theorem zo8(F:FunD K "_law_rows" "_law_rows" zch .none f fd)(T:Txt K mg zam zad zan zai zac zaj zab)(c_Cell:Cal P w K mg base CX0 1 "_law_cell_at" ["_law_script","_law_k"] [] (spCell K))(c_Mono:Cal P w K mg base CX0 3 "_law_mono" ["_law_p","_law_many","_law_cell","_law_fixed"] [] spMono)(c_Nz:Cal P w K mg base CX0 2 "_law_nonzero" ["_law_p","_law_cell"] [] spNz):FnOk P w K mg base CX0 4 f fd ["_law_p","_law_many","_law_script"] (spRows K):=by
 refine F.okN (k:=3) scRows (λvs H Q E h => ?_) (λcdv A outer s H vs Q E hr h => ?_)
 ·obtain⟨n,m,a,ns,rfl,_⟩:=h
  rfl
 obtain⟨n,m,a,ns,rfl,h⟩:=h
 refine⟨_,(zag (zau (i:=3) scRows.nd rfl (Or.inr rfl) (zc3 zdu (zax zc0 (pe_c c_Cell hr pass00 .nil ((zaa (pv 2) (zaa (zak) zaf)))) (zak)) (zak) (nomark _)))
  (zag (zf9 (N:=["_law_cell","_law_fixed","_law_many","_law_p"]) (cl:=[("_law_p",s.heap.objs.size + 1),("_law_many",s.heap.objs.size + 2),("_law_fixed",s.heap.objs.size + 3)]) (mp:=[none,some 3,some 1,some 0]) (zbj (i:=4) scRows.nd rfl (Or.inl rfl)) (Blk.of rfl (by decide +kernel) rfl (by decide +kernel) za1 (zbf rfl (zbf rfl (zbf rfl zcp))) (zgp (fs:=["_law_p","_law_many","_law_fixed"]) rfl (by decide +kernel)) rfl (zb7 (zbc rfl (.inl rfl) rfl (zbc rfl (.inl rfl) rfl (zbc rfl (.inl rfl) rfl zco))))) rfl (zbr (K:=K) rfl (zgg (zgt (K:=K) rfl) (pv 2) (zgr (zak)) (zgr (zak)))) (λC0 s0 H0 fp0=>zcz (i:=0) za1 rfl rfl) (λC0 s0 H0 fp0=>zbv) (λC0 s0 H0 fp0=>pe_c c_Mono hr pass00 .nil ((zaa (pv 3) (zaa (pv 2) (zaa (pv 0) (zaa (pv 1) zaf)))))))
  (zag (zdk PassesOwn.never rfl (zb9 rfl T.b_range ((zaa (pv 1) zaf))) (zbj (i:=5) scRows.nd rfl (Or.inr rfl)) (zag (zau (i:=6) scRows.nd rfl (Or.inl rfl) (pe_c c_Cell hr pass00 .nil ((zaa (pv 2) (zaa (zax zc5 (zak) (pv 5)) zaf)))))
  (zah (zcd (zav zro (zax zc0 (pv 6) (zak)) (zak) (nomark _)) (zag (zau (i:=7) scRows.nd rfl (Or.inr rfl) (zax zc5 (zak) (zax zc0 (zax zd4 (pv 6) (zak)) (zdz (r:=rIxL K) zfg (zc2 ((zaa (zak) (zaa (zak) (zaa (zak) (zaa (zak) zaf)))))) (zax zjd (pv 1) (zak)) (λ_ _=>rfl)))))
  (zag (zau (i:=8) scRows.nd rfl (Or.inl rfl) (zji hr.units0 (za4 (zbb (K:=K) rfl) rfl T.b_tuple (by kernel_rfl) ((zaa (zbu (N:=["_law_j","_law_k","_law_top"]) (cl:=[("_law_top",s.heap.objs.size + 5),("_law_k",s.heap.objs.size + 4)]) (mp:=[none,some 5,some 7]) (Blk.of rfl (by decide +kernel) rfl (by decide +kernel) zbt (zbf rfl (zbf rfl zcp)) (zgp (fs:=["_law_top","_law_k"]) rfl (by decide +kernel)) rfl (zb7 (zbc rfl (.inl rfl) rfl (zbc rfl (.inl rfl) rfl zco)))) rfl (zb9 rfl T.b_range ((zaa (pv 1) zaf))) (λC0 s0 H0 fp0=>zcz (i:=0) zbt rfl rfl) (λC0 s0 H0 fp0=>zbv) (λC0 s0 H0 fp0=>zax zlc (pv 2) (za4 zk0 rfl T.b_int (by kernel_rfl) ((zaa (zc3 zdu (pv 0) (pv 1) (nomark _)) zaf))))) zaf))) (pe_c c_Nz hr pass00 .nil ((zaa (pv 0) (zaa (pv 6) zaf))))))
  (zag (zau (i:=9) scRows.nd rfl (Or.inl rfl) (zax zc0 (zax zd4 (pv 6) (zak)) (zax zc5 (zat (zen (K:=K) rfl) rfl T.b_len PySem.boot_len ((zaa (pv 4) zaf))) (zak))))
  (zah (zau (i:=4) scRows.nd rfl (Or.inl rfl) (zax zk6 (zax zk6 (zgg (zgt (K:=K) rfl) (pv 4) zkq (zgr (pv 9))) (zc2 ((zaa (pv 8) zaf)))) (zgg (zgt (K:=K) rfl) (pv 4) (zgr (pv 9)) zkq))))))) zaz))))
  (zah (zar (pv 4)))))),?_⟩
 obtain⟨n2,n1,m1,m4,hS,h63,k⟩:=h
 obtain⟨t3,t100⟩:=zi7 m1 m4
 refine⟨_,rfl,a,ns,3,rfl,hS,by decide,_,_,rfl,rfl,(by show (0:Int) < 8;decide),rfl,?_⟩
 dsimp only[gName]
 generalize decide (V.int (cellOf ns 3 % 8)=V.int 1)=fx
 obtain⟨cs,ec,lc⟩:=zqa ns (some 8) (some 48)
 have mt:((m:Int)).toNat=m:=by omega
 refine zjt ?_
 refine⟨_,rfl,8,rfl,48,rfl,a,_,rfl,hS,λq hq => ?_⟩
 rw[ec]
 have e1:Same H (upd H q (.lst (cs.map V.int))):=Same.upd hq
 have hq1:(upd H q (HO.lst (cs.map V.int))) q=some (.lst (cs.map V.int)):=zae
 generalize upd H q (HO.lst (cs.map V.int))=H1 at e1 hq1
 refine⟨q,rfl,⟨_,SqL.of hq1⟩,λD hD => ?_⟩
 refine zl7 (zb6 (SqL.of hq1)) hD (zl _ (by rw[List.length_map];omega)) (λσ=>∃v,σ = [v,some (.bl fx),some (.int m),some (.int n)]) (λ_=>true) (λi v H'=>∃d kvs,v = .ref d/\H' d=some (.dT kvs)/\Mn n m H' kvs) (λi v H1 H2 e ⟨d,kvs,a1,a2,a3⟩=>⟨d,kvs,a1,e _ _ a2,a3.same e⟩) (λi v H1 ys ys' hy ⟨d,kvs,a1,a2,a3⟩=>⟨d,kvs,a1,by rw[zao (zdb a2 hy (by intro z;cases z))];exact a2,a3.updL hy⟩) ⟨none,rfl⟩ ?_ λH2 ys e2 hL hp => ?_
 ·rintro i v σ' H2 hi ⟨z,rfl⟩ e2 hv _ Ny Nn hy hn
  obtain⟨cv,rfl⟩:∃cv:Int,v = .int cv:=by
   rw[List.getElem?_map]at hv
   cases q:cs[i]? with
   | none=>rw[q]at hv;cases hv
   | some cv=>rw[q]at hv;exact⟨cv,(Option.some.inj hv).symm⟩
  unfold tYes
  dsimp only[gName]
  rw[if_pos rfl]
  exact⟨_,rfl,_,rfl,_,rfl,_,rfl,n,m,cv,fx,rfl,n2,n1,m1,m4,λd kvs H' e hd mn=>hy _ _ _ ⟨_,rfl⟩ e ⟨d,kvs,rfl,hd,mn⟩ rfl⟩
 obtain⟨ds,kvss,hys,hlen,hdl,hrow⟩:=zr4 (A:=λd kvs=>H2 d=some (.dT kvs)/\Mn n m H2 kvs) hp
 have hdl40:ds.length<=63:=by
  rw[hdl,List.filter_eq_self.mpr (λ_ _=>rfl),List.length_range,List.length_map];omega
 rw[hys]at hL
 have g2:=e1.trans e2
 dsimp only[gName]
 refine⟨_,rfl,(m:Int),rfl,by omega,by omega,?_⟩
 rw[mt]
 refine zcw (lo:=0) (n:=m) (λj σ H'=>Same H H'/\∃(b:Addr) (v5 v6 v7 v8 v9:Option V) (ds:List Addr) (kvss:List (List (List Key×V))),σ = [some (.int n),some (.int m),some (.ref a),some (.bl fx),some (.ref b),v5,v6,v7,v8,v9]/\ML n m H' b ds kvss/\ds.length<=63 + j) ?_ ?_ ?_
 ·exact⟨g2,D,none,none,none,none,none,ds,kvss,rfl,⟨hL,hlen,hrow⟩,by omega⟩
 ·rintro j σ H3 hj ⟨e3,b,v5,v6,v7,v8,v9,ds,kvss,rfl,hm,lb⟩
  rw[Int.zero_add]
  dsimp only[gName]
  refine⟨_,rfl,_,rfl,_,_,rfl,rfl,a,ns,_,rfl,e3.seq hS,by omega,?_⟩
  generalize cellOf ns (4 + (j:Int))=c
  dsimp only[gName]
  refine⟨_,rfl,_,_,rfl,rfl,(by show (0:Int) < 8;decide),rfl,_,rfl,?_⟩
  by_cases c3:c % 8=3
  ·rw[show (!decide (V.int (c % 8)=V.int 3))=false by rw[decide_eq_true (by rw[c3])];rfl]
   exact iteF ⟨e3,b,_,_,_,_,_,ds,kvss,rfl,hm,by omega⟩
  rw[show (!decide (V.int (c % 8)=V.int 3))=true by rw[decide_eq_false (λz=>c3 (by injection z))];rfl]
  have tp:(0:Int) < topM m:=by omega
  refine iteT ⟨_,rfl,_,_,rfl,rfl,⟨by decide,by decide⟩,(by show 4<=sizeLine;decide),λq4 hq4 => ?_⟩
  refine⟨_,rfl,_,_,rfl,rfl,q4,_,_,_,rfl,rfl,SqL.of zae,tabN m1 m4,_,_,rfl,rfl,tp,_,_,rfl,rfl,?_⟩
  have e4:Same H3 (upd H3 q4 (.lst [V.int 100,V.int 10,V.int 4,V.int 3])):=Same.upd hq4
  generalize upd H3 q4 (HO.lst [V.int 100,V.int 10,V.int 4,V.int 3])=H4 at e4
  obtain⟨top,etop,tp1,tp2⟩:∃top:Int,1 + c / 8 % topM m=top/\1<=top/\top<=topM m:=⟨_,rfl,by have:=Int.emod_nonneg (c / 8) (Int.ne_of_gt tp);omega,by have:=Int.emod_lt_of_pos (c / 8) tp;omega⟩
  dsimp only[gName]
  rw[etop]
  intro d nd
  have e5:Same H4 (upd H4 d (.dT [])):=Same.upd nd
  have hd5:(upd H4 d (HO.dT [])) d=some (.dT []):=zae
  generalize upd H4 d (HO.dT [])=H5 at e5 hd5
  refine zf2 (H1:=H5) (m:Int) (λσ=>∃v,σ = [v,some (.int j),some (.int top)]) (λ_=>true) (λi => .int (top * (if i=j then 1 else 0))) (by omega) (by omega) ?_ ⟨none,rfl⟩ ?_ λD6 H6 e6 hL6 => ?_
  ·exact λR hR=>⟨_,rfl,hR⟩
  ·rintro i σ' H2 hi ⟨z,rfl⟩ e Ny Nn hy hn
   unfold tYes
   dsimp only[gName]
   rw[if_pos rfl]
   have q:=hy [some (.int (0 + (i:Int))),some (.int j),some (.int top)] H2 ⟨_,rfl⟩ (Same.refl _) rfl
   refine⟨_,rfl,_,rfl,_,rfl,rfl,.inr ⟨_,rfl,_,_,rfl,rfl,.inl ⟨by omega,by omega⟩,?_⟩⟩
   by_cases ij:i=j
   ·rw[if_pos ij]at q
    rw[decide_eq_true (show V.int (0 + (i:Int))=V.int (j:Int) by rw[ij,Int.zero_add])]
    exact q
   ·rw[if_neg ij]at q
    rw[decide_eq_false (show ¬V.int (0 + (i:Int))=V.int (j:Int) from λz=>ij (by injection z;omega))]
    exact q
  rw[mt,List.filter_eq_self.mpr (λ_ _=>rfl)]at hL6
  obtain⟨tl,etl⟩:∃tl:List Int,tl=(List.range m).map λi=>top * (if i=j then 1 else 0):=⟨_,rfl⟩
  have el6:((List.range m).map λi=>V.int (top * (if i=j then 1 else 0)))=tl.map V.int:=by rw[etl,List.map_map];rfl
  rw[el6]at hL6
  have tl0:T0 m tl:=T0.of (by rw[etl];simp) λx hx=>by
   rw[etl]at hx
   obtain⟨i,_,rfl⟩:=List.mem_map.mp hx
   split <;> omega
  have tlb:∀i,tl.getD i 0<=topM m:=λi=>by
   rcases Nat.lt_or_ge i tl.length with q | q
   ·have hx:=List.getElem_mem q
    have e:tl.getD i 0=tl[i]:=by simp[List.getD,q]
    rw[e]
    generalize tl[i]=x at hx
    rw[etl]at hx
    obtain⟨i,_,rfl⟩:=List.mem_map.mp hx
    split <;> omega
   ·have:tl.getD i 0=0:=by simp[List.getD,List.getElem?_eq_none q]
    omega
  refine⟨D6,_,rfl,.inl ⟨SqL.of hL6,λtp ntp => ?_⟩⟩
  have e7:Same H6 (upd H6 tp (.tup (tl.map V.int))):=Same.upd ntp
  have htp:(upd H6 tp (HO.tup (tl.map V.int))) tp=some (.tup (tl.map V.int)):=zae
  generalize upd H6 tp (HO.tup (tl.map V.int))=H7 at e7 htp
  refine⟨_,rfl,_,rfl,n,c,rfl,n2,n1,λv z H8 e8 nv => ?_⟩
  have hd8:=e8 _ _ (e7 _ _ (e6 _ _ hd5))
  refine⟨tp,ky tl,rfl,hd8,by rw[zn2];exact e8 _ _ htp,?_⟩
  have g8:Same H3 H8:=(((e4.trans e5).trans e6).trans e7).trans e8
  have nd3:H3 d=none:=e4.free nd
  have e9:Same H3 (upd H8 d (.dT [(ky tl,v)])):=g8.updR nd3
  have hd9:(upd H8 d (HO.dT [(ky tl,v)])) d=some (.dT [(ky tl,v)]):=zae
  have mn9:Mn n m (upd H8 d (HO.dT [(ky tl,v)])) [(ky tl,v)] := .inr ⟨tl,v,z,rfl,tl0,tlb,nv.updD hd8⟩
  generalize upd H8 d (HO.dT [(ky tl,v)])=H9 at e9 hd9 mn9
  have hm9:=hm.same e9
  dsimp only[gName]
  have lp:(0:Int) < ((ds.map V.ref).length:Int) + 1:=by omega
  refine⟨_,rfl,_,_,rfl,rfl,⟨by decide,by decide⟩,_,rfl,b,_,rfl,.inl (SqL.of hm9.at_),_,_,rfl,rfl,_,_,rfl,rfl,lp,?_⟩
  obtain⟨at_,eat,at0,at1⟩:∃at_:Nat,c / 16 % (((ds.map V.ref).length:Int) + 1)=(at_:Int)/\0<=at_/\at_<=ds.length:=by
   have h1:=Int.emod_nonneg (c / 16) (Int.ne_of_gt lp)
   have h2:=Int.emod_lt_of_pos (c / 16) lp
   rw[List.length_map]at h1 h2 ⊢
   exact⟨(c / 16 % ((ds.length:Int) + 1)).toNat,by omega,by omega,by omega⟩
  dsimp only[gName]
  rw[eat]
  refine⟨_,rfl,_,rfl,(at_:Int),rfl,b,_,rfl,SqL.of hm9.at_,λp1 hp1 => ?_⟩
  rw[cutR]
  obtain⟨x1,ex1⟩:∃x1,x1=(ds.drop (HT.sIx ds.length 0 none)).take (HT.sIx ds.length ds.length (some (at_:Int)) - HT.sIx ds.length 0 none):=⟨_,rfl⟩
  rw[<- ex1]
  have eA:Same H9 (upd H9 p1 (.lst (x1.map V.ref))):=Same.upd hp1
  have hA:(upd H9 p1 (HO.lst (x1.map V.ref))) p1=some (.lst (x1.map V.ref)):=zae
  generalize upd H9 p1 (HO.lst (x1.map V.ref))=HA at eA hA
  refine⟨_,rfl,(by show 1<=sizeLine;decide),λp2 hp2 => ?_⟩
  have eB:Same HA (upd HA p2 (.lst [V.ref d])):=Same.upd hp2
  have hB:(upd HA p2 (HO.lst [V.ref d])) p2=some (.lst [V.ref d]):=zae
  generalize upd HA p2 (HO.lst [V.ref d])=HB at eB hB
  have lx1:x1.length<=ds.length:=by rw[ex1,List.length_take,List.length_drop];omega
  refine⟨p1,p2,_,_,rfl,rfl,eB _ _ hA,hB,zl _ (by rw[List.length_map];simp;omega),λp3 hp3 => ?_⟩
  have eC:Same HB (upd HB p3 (.lst (x1.map V.ref ++ [V.ref d]))):=Same.upd hp3
  have hC:(upd HB p3 (HO.lst (x1.map V.ref ++ [V.ref d]))) p3=some (.lst (x1.map V.ref ++ [V.ref d])):=zae
  generalize upd HB p3 (HO.lst (x1.map V.ref ++ [V.ref d]))=HC at eC hC
  have gC:=(eA.trans eB).trans eC
  refine⟨_,rfl,_,rfl,(at_:Int),rfl,b,_,rfl,SqL.of (gC _ _ hm9.at_),λp4 hp4 => ?_⟩
  rw[cutR]
  obtain⟨x2,ex2⟩:∃x2,x2=(ds.drop (HT.sIx ds.length 0 (some (at_:Int)))).take (HT.sIx ds.length ds.length none - HT.sIx ds.length 0 (some (at_:Int))):=⟨_,rfl⟩
  rw[<- ex2]
  have eD:Same HC (upd HC p4 (.lst (x2.map V.ref))):=Same.upd hp4
  have hD4:(upd HC p4 (HO.lst (x2.map V.ref))) p4=some (.lst (x2.map V.ref)):=zae
  generalize upd HC p4 (HO.lst (x2.map V.ref))=HD at eD hD4
  have lx2:x2.length<=ds.length:=by rw[ex2,List.length_take,List.length_drop];omega
  refine⟨p3,p4,_,_,rfl,rfl,eD _ _ hC,hD4,zl _ (by simp;omega),λp5 hp5 => ?_⟩
  have eE:Same HD (upd HD p5 (.lst (x1.map V.ref ++ [V.ref d] ++ x2.map V.ref))):=Same.upd hp5
  have hE:(upd HD p5 (HO.lst (x1.map V.ref ++ [V.ref d] ++ x2.map V.ref))) p5=some (.lst (x1.map V.ref ++ [V.ref d] ++ x2.map V.ref)):=zae
  generalize upd HD p5 (HO.lst (x1.map V.ref ++ [V.ref d] ++ x2.map V.ref))=HE at eE hE
  have gE:=(gC.trans eD).trans eE
  have hmE:=hm9.same gE
  obtain⟨ds',kvss',eds,hl',hb',hrow'⟩:=zri (A:=λd kvs=>HE d=some (.dT kvs)/\Mn n m HE kvs) hmE.len hmE.row (d:=d) (kvs:=[(ky tl,v)]) ⟨gE _ _ hd9,mn9.same gE⟩ (HT.sIx ds.length 0 none) (HT.sIx ds.length ds.length (some (at_:Int)) - HT.sIx ds.length 0 none) (HT.sIx ds.length 0 (some (at_:Int))) (HT.sIx ds.length ds.length none - HT.sIx ds.length 0 (some (at_:Int))) (by rw[HT.sIx_none,HT.sIx_nat,HT.sIx_nat];omega)
  rw[<- ex1,<- ex2]at eds
  refine⟨(e3.trans e9).trans gE,p5,_,_,_,_,_,ds',kvss',rfl,⟨?_,hl',hrow'⟩,by omega⟩
  rw[hE,<- eds,List.map_append,List.map_append];rfl
 ·rintro σ H3 ⟨e3,b,v5,v6,v7,v8,v9,ds,kvss,rfl,hm,lb⟩
  exact⟨_,rfl,k b ds kvss H3 e3 hm (by omega)⟩
theorem scDue:FnScope ["_law_way_here","_law_heads","_law_many","_law_some","_law_at","_law_least","_law_longer","_law_term","_law_a"] ["_law_way_here","_law_heads","_law_many"] (defScope zcq):=⟨rfl,rfl,rfl,by decide +kernel,rfl,by decide +kernel,by decide +kernel⟩
set_option maxHeartbeats 4000000 in
theorem zrp(F:FunD K "_law_due" "_law_due" zcq .none f fd)(T:Txt K mg zam zad zan zai zac zaj zab)(c_Lst:Cal P w K mg base CX0 1 "_law_least_alone" ["_law_heads","_law_many","_law_at"] [] (spLst K))(c_Free:Cal P w K mg base CX0 1 "_law_free" ["_law_heads","_law_term"] [] spFree){cc Pt:Addr}(hcc:codeOfF K f=some cc)(hCd:W.CodeHd base cc Pt)(hBd:base.BuiltinsAt mg Pt)(c_LRank:Cal P w K mg base CX0 1 "_law_rank" ["_law_way_here","_law_term"] [] spLRank):FnOk P w K mg base CX0 8 f fd ["_law_way_here","_law_heads","_law_many"] (spDue Pt):=by
 refine F.okL hcc (k:=7) scDue (λvs H Q E h => ?_) (λA outer s H vs Q E hr h => ?_)
 ·obtain⟨r,g,l,m,kd,ws,ys,hs,rfl,_⟩:=h
  rfl
 obtain⟨r,g,l,m,kd,ws,ys,hs,rfl,h⟩:=h
 refine⟨_,(zag (zau (i:=3) scDue.nd rfl (Or.inl rfl) (zc2 ((zaa (zdq (zaf)) zaf))))
  (zag (zdk PassesOwn.never rfl (zb9 rfl T.b_range ((zaa (pv 2) zaf))) (zbj (i:=4) scDue.nd rfl (Or.inl rfl)) (zag (zau (i:=5) scDue.nd rfl (Or.inl rfl) (pe_c c_Lst hr pass00 .nil ((zaa (pv 1) (zaa (pv 2) (zaa (pv 4) zaf))))))
  (zag (zcd (zav zo0 (pv 5) (ze8) (nomark _)) (zah (zar (ze8))) zaz)
  (zag (zau (i:=6) scDue.nd rfl (Or.inl rfl) (zc2 (zaf)))
  (zag (zdk PassesOwn.never rfl (zbr (K:=K) rfl (pv 3)) (zbj (i:=7) scDue.nd rfl (Or.inl rfl)) (zah (zdk PassesOwn.never rfl (zb9 rfl T.b_range ((zaa (pv 5) zaf))) (zbj (i:=8) scDue.nd rfl (Or.inl rfl)) (zah (zdr (zmq PySem.F.plainAttrs_list PySem.F.slot_list_append PySem.F.type_list_append zej (pv 6) ((zaa (zax (zps (K:=K) rfl) (pv 7) (zdq ((zaa (pv 8) zaf)))) zaf))))))))
  (zah (zau (i:=3) scDue.nd rfl (Or.inl rfl) (pv 6))))))))
  (zah (zar (zl9 (x:="_law_one") (y:="_law_way_here") (g:="_law_rank") (i:=0) (cc:=cc) (P:=Pt) (zbu (N:=["_law_term","_law_heads"]) (cl:=[("_law_heads",s.heap.objs.size + 2)]) (mp:=[none,some 1]) (Blk.of rfl (by decide +kernel) rfl (by decide +kernel) zb8 (zbf rfl zcp) (zgp (fs:=["_law_heads"]) rfl (by decide +kernel)) rfl (zb7 (zbc rfl (.inl rfl) rfl zco))) rfl (zbr (K:=K) rfl (pv 3)) (λC0 s0 H0 fp0=>zcz (i:=0) zb8 rfl rfl) (λC0 s0 H0 fp0=>zgn (zc9 (pe_c c_Free hr pass00 .nil ((zaa (pv 1) (zaa (pv 0) zaf)))))) (λC0 s0 H0 fp0=>pv 0)) hr T.b_sorted rfl hCd hBd rfl rfl (by decide +kernel) (by decide +kernel) (by decide +kernel) rfl rfl rfl rfl (λ_ _ _ _ _ _=>rfl) rfl rfl (λq c1 c2 s1 H1=>pe_c c_LRank (Room.deeper (k:=4) (Room.in1 (k:=5) (Room.in1 (k:=6) hr)) _) pass00 .nil (zaa (pv 1) (zaa (pv 0) zaf)))))))),?_⟩
 obtain⟨hr0,hl0,k0,k4,wn,wb,m1,m4,hh,hb,hT,k⟩:=h
 obtain⟨t3,t100⟩:=zi7 m1 m4
 have mt:((m:Int)).toNat=m:=by omega
 have hlen:∀h∈hs,h.length=m:=λh q=>(hh.t0 h q).len
 have lwb:∀i,leastAt hs i≠[]->0<=lw (leastAt hs i)/\lw (leastAt hs i)<=topM m:=λi ne=>by
  have lm:=zln ne
  obtain⟨h,q,e⟩:=List.mem_map.mp lm
  have e:h.getD i 0=lw (leastAt hs i):=e
  rw[<- e]
  exact⟨(hh.t0 h (List.mem_filter.mp q).1).nn i,hb h (List.mem_filter.mp q).1 i⟩
 refine⟨Nat.zero_le _,λp0 hp0=>⟨(by show 1<=sizeLine;decide),λl0 hl0' => ?_⟩⟩
 have e0:Same H (upd H p0 (.tup [])):=Same.upd hp0
 have hp1:(upd H p0 (HO.tup [])) p0=some (.tup []):=zae
 generalize upd H p0 (HO.tup [])=H0 at e0 hp1 hl0'
 have e1:Same H0 (upd H0 l0 (.lst [.ref p0])):=Same.upd hl0'
 have hl1:(upd H0 l0 (HO.lst [.ref p0])) l0=some (.lst [.ref p0]):=zae
 generalize upd H0 l0 (HO.lst [V.ref p0])=H1 at e1 hl1
 have g1:=e0.trans e1
 dsimp only[gName]
 refine⟨_,rfl,(m:Int),rfl,by omega,by omega,?_⟩
 rw[mt]
 refine zcw (lo:=0) (n:=m) (λj σ H'=>Same H H'/\∃(b:Addr) (v4 v5 v6 v7 v8:Option V) (bs:List Int) (zs:List V),σ = [some (.ref r),some (.ref g),some (.int m),some (.ref b),v4,v5,v6,v7,v8]/\H' b=some (.lst zs)/\Paired (Trm H') (boxL bs) zs/\bs.length=j/\∀i,i < j->leastAt hs i≠[]/\bs.getD i 0=lw (leastAt hs i)) ?_ ?_ ?_
 ·exact⟨g1,l0,none,none,none,none,none,[],_,rfl,hl1,.cons ⟨p0,rfl,e1 _ _ hp1⟩ .nil,rfl,λi hi=>by omega⟩
 ·rintro j σ H3 hj ⟨e3,b,v4,v5,v6,v7,v8,bs,zs,rfl,hb3,hz3,lb,hbs⟩
  rw[Int.zero_add]
  dsimp only[gName]
  refine⟨_,rfl,_,rfl,_,rfl,g,m,j,ys,hs,rfl,hh.same e3,hj,m4,λH4 e4 => ?_⟩
  have g4:=e3.trans e4
  dsimp only[gName]
  refine⟨_,rfl,rfl,_,rfl,?_⟩
  rcases zkv (leastAt hs j) with⟨ne,ev⟩ | ⟨ne,ev⟩
  ·rw[show mnV ((hs.filter λh=>aloneAt h j).map λh=>h.getD j 0) = .non from ev]
   refine iteT ?_
   rcases k with⟨_,k⟩ | ⟨k,_⟩
   ·exact k _ g4
   ·exact absurd ne (k j hj)
  rw[show mnV ((hs.filter λh=>aloneAt h j).map λh=>h.getD j 0) = .int (lw (leastAt hs j)) from ev]
  refine iteF ?_
  obtain⟨lw0,lw1⟩:=lwb j ne
  generalize el:lw (leastAt hs j)=L at lw0 lw1
  obtain⟨n,rfl⟩:∃n:Nat,L=(n:Int):=⟨L.toNat,by omega⟩
  have bsb:∀c∈bs ++ [(n:Int)],c<=(((topM m).toNat:Nat):Int):=λc hc=>by
   rcases List.mem_append.mp hc with hc | hc
   ·obtain⟨i,hi,rfl⟩:=List.mem_iff_getElem.mp hc
    obtain⟨n1,n2⟩:=hbs i (by omega)
    have:=(lwb i n1).2
    have e:bs.getD i 0=bs[i]:=by simp[List.getD,hi]
    omega
   ·rw[List.mem_singleton.mp hc];omega
  have lbx:(boxL (bs ++ [(n:Int)])).length<=100:=Nat.le_trans (zgl _ bsb) (zg3 m1 m4 (by rw[List.length_append,lb];exact hj))
  have snoc:boxL (bs ++ [(n:Int)])=(boxL bs).flatMap λt=>(List.range n).map fun(a:Nat)=>t ++ [(a:Int)]:=by rw[zem,Int.toNat_natCast]
  have lenb:∀x∈boxL bs,x.length=j:=λx hx=>by rw[((zgc bs x).mp hx).1,lb]
  refine⟨Nat.zero_le _,λl6 nl6 => ?_⟩
  have e6:Same H4 (upd H4 l6 (.lst [])):=Same.upd nl6
  have hl6:(upd H4 l6 (HO.lst [])) l6=some (.lst []):=zae
  generalize upd H4 l6 (HO.lst [])=H6 at e6 hl6
  have hb4:=e4 _ _ hb3
  have hz4:=pimp (λ_ _ q=>Trm.same e4 q) hz3
  have lzs:(boxL bs).length=zs.length:=Paired.length hz4
  refine⟨_,rfl,b,rfl,⟨_,SqL.of (e6 _ _ hb4)⟩,?_⟩
  refine zd9 (K:=K) (a:=b) (xs:=zs) (λi σ H'=>Same H4 H'/\∃(v7 v8:Option V) (us:List V),σ = [some (.ref r),some (.ref g),some (.int m),some (.ref b),some (.int j),some (.int n),some (.ref l6),v7,v8]/\H' l6=some (.lst us)/\Paired (Trm H') (((boxL bs).take i).flatMap λt=>(List.range n).map fun(a:Nat)=>t ++ [(a:Int)]) us) ?_ (λi σ H' _ h=>SqL.of (h.1 _ _ hb4)) ?_ ?_
  ·exact⟨e6,_,_,[],rfl,hl6,by simp;exact .nil⟩
  ·rintro i x σ H7 hx ⟨e7,v7,v8,us,rfl,hl7,hp7⟩
   obtain⟨t,ht,tt,rfl,htt⟩:=pget hz4 hx
   have htt7:=e7 _ _ htt
   have tl:=lenb t (List.mem_of_getElem? ht)
   show tFor _ _ _ _ _ _
   refine⟨_,rfl,(n:Int),rfl,by omega,by omega,?_⟩
   rw[Int.toNat_natCast]
   refine zcw (lo:=0) (n:=n) (λa σ H'=>Same H4 H'/\∃(v8:Option V) (us:List V),σ = [some (.ref r),some (.ref g),some (.int m),some (.ref b),some (.int j),some (.int n),some (.ref l6),some (.ref tt),v8]/\H' l6=some (.lst us)/\Paired (Trm H') ((((boxL bs).take i).flatMap λt=>(List.range n).map fun(a:Nat)=>t ++ [(a:Int)]) ++ (List.range a).map fun(a:Nat)=>t ++ [(a:Int)]) us) ?_ ?_ ?_
   ·exact⟨e7,_,us,rfl,hl7,by simpa using hp7⟩
   ·rintro a σ H8 ha ⟨e8,v8,us,rfl,hl8,hp8⟩
    rw[Int.zero_add]
    dsimp only[gName]
    have lus:us.length < 200:=by
     have h1:=Paired.length hp8
     rw[<- h1]
     have h2:((((boxL bs).take i).flatMap λt=>(List.range n).map fun(a:Nat)=>t ++ [(a:Int)]) ++ (List.range a).map fun(a:Nat)=>t ++ [(a:Int)]).length<=(boxL (bs ++ [(n:Int)])).length + 100:=by
      rw[List.length_append,List.length_map,List.length_range]
      have:(((boxL bs).take i).flatMap λt=>(List.range n).map fun(a:Nat)=>t ++ [(a:Int)]).length<=(boxL (bs ++ [(n:Int)])).length:=by
       rw[snoc]
       conv=>rhs;rw[<- List.take_append_drop i (boxL bs),List.flatMap_append,List.length_append]
       omega
      omega
     have:a < 100:=by omega
     rw[List.length_append,List.length_map,List.length_range]at h2 ⊢
     have:(((boxL bs).take i).flatMap λt=>(List.range n).map fun(a:Nat)=>t ++ [(a:Int)]).length<=(boxL (bs ++ [(n:Int)])).length:=by
      rw[snoc]
      conv=>rhs;rw[<- List.take_append_drop i (boxL bs),List.flatMap_append,List.length_append]
      omega
     omega
    refine⟨_,rfl,.inl ⟨rfl,_,SqL.of hl8⟩,?_⟩
    refine⟨_,rfl,_,rfl,(by show 1<=sizeLine;decide),λq hq => ?_⟩
    have e9:Same H8 (upd H8 q (.tup [.int a])):=Same.upd hq
    have hq9:(upd H8 q (HO.tup [.int a])) q=some (.tup [.int a]):=zae
    generalize upd H8 q (HO.tup [V.int a])=H9 at e9 hq9
    refine zqq (e9 _ _ (e8 _ _ htt)) hq9 (List.cons_ne_nil _ _) (zl _ (by rw[List.length_map,tl];simp;omega)) λrr HA eA hrr => ?_
    have gA:=e9.trans eA
    refine⟨l6,us,_,rfl,rfl,gA _ _ hl8,zlt _ (by omega),?_⟩
    refine⟨(e8.trans gA).updR nl6,_,_,rfl,zae,?_⟩
    rw[List.range_succ,List.map_append,<- List.append_assoc]
    refine psnoc ?_ (pimp (λ_ _ z=>zd6 (gA _ _ hl8) z) (pimp (λ_ _ z=>Trm.same gA z) hp8))
    refine zd6 (gA _ _ hl8) ⟨rr,rfl,?_⟩
    rw[hrr,List.map_append];rfl
   ·rintro σ H8 ⟨e8,v8,us,rfl,hl8,hp8⟩
    exact⟨e8,_,_,us,rfl,hl8,by rw[zhf ht];exact hp8⟩
  ·rintro σ H7 ⟨e7,v7,v8,us,rfl,hl7,hp7⟩
   rw[<- lzs,List.take_length,<- snoc]at hp7
   refine⟨_,rfl,?_⟩
   refine⟨g4.trans e7,l6,_,_,_,_,_,bs ++ [(n:Int)],us,rfl,hl7,hp7,by rw[List.length_append,lb];rfl,λi hi => ?_⟩
   rw[zcy,lb]
   rcases(by omega:i < j\/i=j) with c | c
   ·rw[if_pos c];exact hbs i c
   ·subst c
    rw[if_neg (by omega),if_pos rfl];exact⟨ne,el.symm⟩
 ·rintro σ H3 ⟨e3,b,v4,v5,v6,v7,v8,bs,zs,rfl,hb3,hz3,lb,hbs⟩
  have lzs:(boxL bs).length=zs.length:=Paired.length hz3
  have bsb:∀c∈bs,c<=(((topM m).toNat:Nat):Int):=λc hc=>by
   obtain⟨i,hi,rfl⟩:=List.mem_iff_getElem.mp hc
   obtain⟨n1,n2⟩:=hbs i (by omega)
   have:=(lwb i n1).2
   have e:bs.getD i 0=bs[i]:=by simp[List.getD,hi]
   omega
  have lbx:(boxL bs).length<=100:=Nat.le_trans (zgl _ bsb) (zg3 m1 m4 (by omega))
  have bx0:∀x∈boxL bs,T0 m x:=λx hx=>by
   obtain⟨h1,h2⟩:=(zgc bs x).mp hx
   refine T0.of (by omega) λy hy => ?_
   obtain⟨i,hi,rfl⟩:=List.mem_iff_getElem.mp hy
   have:=(h2 i (by omega)).1
   simpa[List.getD,hi]using this
  have hl3:TL m H3 b zs (boxL bs):=⟨hb3,hz3,bx0,by omega⟩
  have hg3:=hh.same e3
  rcases k with⟨⟨i,hi,z⟩,_⟩ | ⟨_,k⟩
  ·exact absurd z (hbs i hi).1
  show tComp _ _ _ _ _ _ _ _
  refine zf4 (J:=Itl K b) (H1:=H3) (zb6 (SqL.of hl3.at_)) hl3.b ?_ (λσ=>∃v,σ = [v,some (.ref g)]) (λi=>outT hs ((boxL bs).getD i [])) (λi v H'=>Trm H' ((boxL bs).getD i []) v) (λi v H1 H2 e h=>h.same e) (λi v H1 a y1 y2 ha h=>zd6 ha h) ⟨none,rfl⟩ ?_ λD H4 us nD e4 hL hp => ?_
  ·exact λR hR=>⟨_,rfl,b,rfl,⟨_,SqL.of hl3.at_⟩,hR⟩
  ·rintro i v σ' H5 hi ⟨z,rfl⟩ e5 hv Ny Nn hy hn
   obtain⟨t1,rt,ht1,rfl,hr1,t0⟩:=(hl3.same e5).get hv
   have eg:(boxL bs).getD i []=t1:=by simp[List.getD,ht1]
   unfold gName
   dsimp only
   refine⟨_,rfl,_,rfl,g,rt,m,ys,hs,t1,rfl,m4,hg3.same e5,hr1,t0,λH6 e6=>⟨_,rfl,?_⟩⟩
   dsimp only
   cases o:outT hs t1 with
   | true=>
    rw[if_pos rfl]
    exact⟨_,rfl,hy _ _ _ ⟨_,rfl⟩ e6 (by rw[eg];exact⟨rt,rfl,e6 _ _ hr1⟩) (by rw[eg];exact o)⟩
   | false=>exact iteF (hn _ _ ⟨_,rfl⟩ e6 (by rw[eg];exact o))
  rw[<- lzs]at hp
  have hp2:=pmapl (R:=Trm H4) (f:=λi=>(boxL bs).getD i []) hp
  rw[zcm (q:=outT hs)]at hp2
  generalize efs:(boxL bs).filter (outT hs)=fs at hp2
  have nfs:fs.Nodup:=by rw[<- efs];exact(zpj bs).filter _
  have mfs:∀t,t∈fs↔T0 m t/\outT hs t=true:=by rw[<- efs];exact zl8 hh.t0 lb hbs
  have lfs:fs.length<=100:=by rw[<- efs];exact Nat.le_trans (List.length_filter_le _ _) lbx
  have g4:=e3.trans e4
  have h200:∀h∈hs,T0 m h/\∀i,h.getD i 0<=200:=λh q=>⟨hh.t0 h q,λi=>by have:=hb h q i;omega⟩
  have al:∀i,i < m->hs.any (λh=>aloneAt h i)=true:=λi hi=>least_any.mp (hbs i hi).1
  have pw:∀x∈fs,Pws x:=λx hx=>by
   obtain⟨a,o⟩:=(mfs x).mp hx
   exact zk8 a m1 m4 λi=>by rcases zjl h200 al a o i with q | q <;> omega
  have hT4:=g4 _ _ hT
  refine⟨D,us,.ref r,rfl,hL,rfl,hT4,λc' hc' ncP => ?_⟩
  have ntP:∀{b:Addr} {xs:List V},H4 b=some (.tup xs)->b≠Pt:=fun{b xs} hb=>zdb hb hT4 (by intro z;cases z)
  have nlP:∀{b:Addr} {xs:List V},H4 b=some (.lst xs)->b≠Pt:=fun{b xs} hb=>zdb hb hT4 (by intro z;cases z)
  have b5:∀b o,H4 b=some o->b≠Pt->∀u,(upd H4 Pt u) b=some o:=λb o hb nb u=>by rw[zao nb];exact hb
  generalize eu:HO.tbl _=u
  have b5:∀b o,H4 b=some o->b≠Pt->(upd H4 Pt u) b=some o:=λb o hb nb=>b5 b o hb nb u
  have hP5:(upd H4 Pt u) Pt=some u:=zae
  generalize upd H4 Pt u=H5 at b5 hP5
  refine zi1 (K:=K) (rk:=rkk kd ws) (OK:=λH'=>H' r=some (.tup [.int kd,.ref l])/\H' l=some (.lst (ws.map V.int))) ?_ (λ_ _ e ⟨q1,q2⟩=>⟨e _ _ q1,e _ _ q2⟩) (λxs h=>zrz h) fs us [] [] H5 H5 (Same.refl _) ⟨b5 _ _ (g4 _ _ hr0) (ntP (g4 _ _ hr0)),b5 _ _ (g4 _ _ hl0) (nlP (g4 _ _ hl0))⟩ (pimp (λ_ _ ⟨a,q1,q2⟩=>⟨a,q1,b5 _ _ q2 (ntP q2)⟩) hp2) pw .nil λks' H6 e6 hk => ?_
  ·rintro x H7 xs Q' ⟨o1,o2⟩ ⟨a,rfl,ha⟩ px kk
   exact⟨_,rfl,_,rfl,r,l,a,kd,ws,xs,rfl,o1,k0,k4,o2,wn,wb,ha,px,kk⟩
  refine⟨fs.map (rkk kd ws),hk,λps' hp' hs' D2 hD2 => ?_⟩
  rw[zfm]at hp'
  obtain⟨ps,pp,rfl⟩:=ze1 _ hp' _ rfl
  rw[List.pairwise_map]at hs'
  have em:(ps.map λp=>(rkk kd ws p.1,p.2)).map (λx=>x.2)=ps.map (·.2):=by rw[List.map_map];rfl
  rw[em]
  have e7:Same H6 (upd H6 D2 (.lst (ps.map (·.2)))):=Same.upd hD2
  have pt:∀p∈ps,Trm (upd H6 D2 (.lst (ps.map (·.2)))) p.1 p.2:=λp hp=>by
   obtain⟨a,q1,q2⟩:=pz hp2 p (pp.mem_iff.mp hp)
   exact⟨a,q1,e7 _ _ (e6 _ _ (b5 _ _ q2 (ntP q2)))⟩
  have e1':(ps.map (·.1)).Perm fs:=by
   have:=pp.map (·.1)
   rwa [zh6 (by rw[<- Paired.length hp2];exact Nat.le_refl _)]at this
  have nH:H D2=none:=by
   cases q:H D2 with
   | none=>rfl
   | some o=>
    by_cases c:D2=Pt
    ·have:=e6 _ _ hP5
     rw[<- c,hD2]at this;cases this
    ·have:=e6 _ _ (b5 _ _ (g4 _ _ q) c)
     rw[hD2]at this;cases this
  refine k D2 _ _ (ps.map (·.1)) nH (λb o hb nb=>e7 _ _ (e6 _ _ (b5 _ _ (g4 _ _ hb) nb))) ⟨zae,zds pt,λx hx => ?_,?_⟩ ?_ ?_ ?_
  ·exact((mfs x).mp (e1'.mem_iff.mp hx)).1
  ·have:=e1'.length_eq
   rw[List.length_map]at this ⊢
   omega
  ·exact e1'.nodup_iff.mpr nfs
  ·intro t;rw[e1'.mem_iff];exact mfs t
  ·rw[List.pairwise_map]
   exact hs'.imp λh=>by simpa using h
theorem scWhole:FnScope ["_law_found"] ["_law_found"] (defScope zbx):=⟨rfl,rfl,rfl,by decide +kernel,rfl,by decide +kernel,by decide +kernel⟩
set_option maxHeartbeats 4000000 in
theorem zm1(F:FunD K "_law_whole" "_law_whole" zbx .none f fd)(T:Txt K mg zam zad zan zai zac zaj zab)   : FnOk P w K mg base CX0 1 f fd ["_law_found"] spWhole:=by
 refine F.okN (k:=0) scWhole (λvs H Q E h => ?_) (λcdv A outer s H vs Q E hr h => ?_)
 ·obtain⟨i,rfl,_⟩:=h
  rfl
 obtain⟨i,rfl,h⟩:=h
 refine⟨_,(zah (zar (zi0 (zat (zc1 (K:=K) rfl) rfl T.b_isinstance (by kernel_rfl) ((zaa (pv 0) (zaa (zfn (v := .ty "int") rfl T.b_int (by kernel_rfl) rfl) zaf)))) (zma (zos (zat (zc1 (K:=K) rfl) rfl T.b_isinstance (by kernel_rfl) ((zaa (pv 0) (zaa (zfn (v := .ty "bool") rfl T.b_bool (by kernel_rfl) rfl) zaf))))))))),?_⟩
 exact⟨_,rfl,_,_,_,_,_,rfl,rfl,.int i,T.kii,_,rfl,iteT ⟨_,rfl,_,_,_,_,_,rfl,rfl,.int i,T.kib,_,rfl,h⟩⟩
theorem scIsT:FnScope ["_law_found","_law_term"] ["_law_found"] (defScope zbd):=⟨rfl,rfl,rfl,by decide +kernel,rfl,by decide +kernel,by decide +kernel⟩
set_option maxHeartbeats 4000000 in
theorem zsf(F:FunD K "_law_is_terms" "_law_is_terms" zbd .none f fd)(T:Txt K mg zam zad zan zai zac zaj zab)(c_Whole:Cal P w K mg base CX0 1 "_law_whole" ["_law_found"] [] spWhole):FnOk P w K mg base CX0 2 f fd ["_law_found"] spIsT:=by
 refine F.okN (k:=1) scIsT (λvs H Q E h => ?_) (λcdv A outer s H vs Q E hr h => ?_)
 ·obtain⟨D,m,ys,cs,rfl,_⟩:=h
  rfl
 obtain⟨D,m,ys,cs,rfl,h⟩:=h
 refine⟨_,(zag (zcd (zee (zc9 (zat (zc1 (K:=K) rfl) rfl T.b_isinstance (by kernel_rfl) ((zaa (pv 0) (zaa (zfn (v := .ty "list") rfl T.b_list (by kernel_rfl) rfl) zaf)))))) (zah (zar (zd3))) zaz)
  (zag (zdk PassesOwn.never rfl (zbr (K:=K) rfl (pv 0)) (zbj (i:=1) scIsT.nd rfl (Or.inl rfl)) (zah (zcd (PW.pt (zj7 (zee (zc9 (zat (zc1 (K:=K) rfl) rfl T.b_isinstance (by kernel_rfl) ((zaa (pv 1) (zaa (zfn (v := .ty "tuple") rfl T.b_tuple (by kernel_rfl) rfl) zaf)))))) (ziy (zee (zc9 (zat (zfq (K:=K) rfl rfl) rfl T.b_all (by kernel_rfl) ((zaa (zbu (N:=["_law_a"]) (Blk.plain (by decide +kernel) (by decide +kernel) rfl (by decide +kernel) zea) rfl (zpg (K:=K) rfl (pv 1)) (λC0 s0 H0 fp0=>zcz (i:=0) zea rfl rfl) (λC0 s0 H0 fp0=>zbv) (λC0 s0 H0 fp0=>pe_c c_Whole hr pass00 .nil ((zaa (pv 0) zaf)))) zaf)))))))) (zah (zar (zd3))) zaz)))
  (zah (zar (zd3))))),?_⟩
 obtain⟨m4,hl,k⟩:=h
 refine⟨_,rfl,_,_,_,_,_,rfl,rfl,.lst hl.at_,T.kll,_,rfl,iteF ?_⟩
 refine⟨_,rfl,D,rfl,⟨_,SqL.of hl.at_⟩,?_⟩
 refine zd9 (K:=K) (a:=D) (xs:=ys) (λi σ H'=>Same H H'/\∃v1,σ = [some (.ref D),v1]) ⟨Same.refl _,none,rfl⟩ (λi σ H' _ h=>SqL.of (hl.same h.1).at_) ?_ ?_
 ·rintro i v σ H2 hv ⟨e2,v1,rfl⟩
  obtain⟨t,r,ht,rfl,hr1,t0⟩:=(hl.same e2).get hv
  unfold gName
  dsimp only
  refine⟨_,rfl,_,_,_,_,_,rfl,rfl,.tup hr1,T.ktt,_,rfl,iteF ?_⟩
  show tComp _ _ _ _ _ _ _ _
  refine zcu (J:=Itt K r) (H1:=H2) (zni (SqT.of hr1)) (by rw[List.length_map,t0.len];omega) ?_ (λσ=>∃v,σ = [v]) (λ_=>true) (λi => .bl true) ⟨none,rfl⟩ ?_ λD2 H3 e3 hL => ?_
  ·exact λR hR=>⟨_,rfl,r,rfl,⟨_,SqT.of hr1⟩,hR⟩
  ·rintro j v σ' H4 hj ⟨z,rfl⟩ e4 hv Ny Nn hy hn
   rw[List.getElem?_map]at hv
   cases q:t[j]? with
   | none=>rw[q]at hv;cases hv
   | some a=>
    rw[q]at hv
    injection hv with hv
    subst hv
    unfold tYes
    dsimp only
    rw[if_pos rfl]
    exact⟨_,rfl,a,rfl,hy _ _ ⟨_,rfl⟩ (Same.refl _) rfl⟩
  rw[List.filter_eq_self.mpr (λ_ _=>rfl)]at hL
  refine⟨D2,(List.range (t.map V.int).length).map λ_=>true,rfl,SqL.of (by rw[hL,List.map_map];rfl),?_⟩
  have ea:((List.range (t.map V.int).length).map λ_=>true).all id=true:=by simp
  rw[ea]
  exact⟨_,rfl,iteF ⟨e2.trans e3,_,rfl⟩⟩
 ·rintro σ H2 ⟨e2,v1,rfl⟩
  exact k _ e2
theorem scLaw:FnScope ["_law_script","_law_p","_law_many","_law_way_here","_law_rows_here","_law_heads","_law_f","_law_handed","_law_caught","_law_found","_law_ring","e","_law_due_here","_law_some"] ["_law_script"] (defScope zgq):=⟨rfl,rfl,rfl,by decide +kernel,rfl,by decide +kernel,by decide +kernel⟩
set_option maxHeartbeats 4000000 in
theorem zr0(F:FunD K "law" "law" zgq .none f fd)(T:Txt K mg zam zad zan zai zac zaj zab)(c_Cell:Cal P w K mg base CX0 1 "_law_cell_at" ["_law_script","_law_k"] [] (spCell K))(c_LPr:Cal P w K mg base CX0 2 "_law_prime" ["_law_cell"] [] spLPr)(c_Way:Cal P w K mg base CX0 1 "_law_way" ["_law_cell","_law_many"] [] spWay)(c_Rows:Cal P w K mg base CX0 4 "_law_rows" ["_law_p","_law_many","_law_script"] [] (spRows K))(c_LFld:Cal P w K mg base CX0 5 "_law_field" ["_law_p"] [] (spLFld zad zan))(c_LOrd:Cal P w K mg base CX0 3 "_law_order" ["_law_way_here"] [] (spLOrd K zai zac zaj zab))(k_RgInit:Mak P w K mg base (CXe P w) 2 "Ring" zam ["self","many","field","order"] [] (spRgInit zam zcl zai zac zaj zab))(c_IsT:Cal P w K mg base CX0 2 "_law_is_terms" ["_law_found"] [] spIsT)(x_RoomError:Exc K mg base "RoomError" zbk)(x_NoBase:Exc K mg base "NoBase" zck)(x_NoBox:Exc K mg base "NoBox" zc4)(x_Open:Exc K mg base "Open" zd2)(x_Endless:Exc K mg base "Endless" zal){Pt zaw:Addr}(hord:∀(kd:Int) (ws:List Int),0<=kd->kd < 4->Nn ws->(∀x∈ws,x < 10 ^ 31)->∃C,OrdE P w K mg base zaw C (AtK zai zac zaj zab kd ws) (rkk kd ws) (fbK kd ws))(cCor:Cal P w K mg base (CXe P w) 9 "corner" ["ring","base"] [] (spCor zam zai zac zaj zab zal))(cDue:Cal P w K mg base CX0 8 "_law_due" ["_law_way_here","_law_heads","_law_many"] [] (spDue Pt))(q_exm:W.exmOne K (.ref zal) (.ref zbk)=some true)(q_exi:ExcI K zal)(q_k1:W.kitOne K (.ref zal) (.ref zck)=some false)(q_k2:W.kitOne K (.ref zal) (.ref zc4)=some false)(q_k3:W.kitOne K (.ref zal) (.ref zd2)=some false)(q_k4:W.kitOne K (.ref zal) (.ref zal)=some true)(q_k5:W.kitOne K (.ref zal) (.type "ValueError")=some true):FnOk P w K mg base CX0 11 f fd ["_law_script"] (spLaw K Pt):=by
 refine F.okN (k:=10) scLaw (λvs H Q E h => ?_) (λcdv A outer s H vs Q E hr h => ?_)
 ·obtain⟨a,ns,rfl,_⟩:=h
  rfl
 obtain⟨a,ns,rfl,h⟩:=h
 refine⟨_,(zag (zau (i:=1) scLaw.nd rfl (Or.inl rfl) (pe_c c_LPr hr pass00 .nil ((zaa (pe_c c_Cell hr pass00 .nil ((zaa (pv 0) (zaa (zak) zaf)))) zaf))))
  (zag (zau (i:=2) scLaw.nd rfl (Or.inl rfl) (zax zc5 (zak) (zax zc0 (pe_c c_Cell hr pass00 .nil ((zaa (pv 0) (zaa (zak) zaf)))) (zak))))
  (zag (zau (i:=3) scLaw.nd rfl (Or.inl rfl) (pe_c c_Way hr pass00 .nil ((zaa (pe_c c_Cell hr pass00 .nil ((zaa (pv 0) (zaa (zak) zaf)))) (zaa (pv 2) zaf)))))
  (zag (zau (i:=4) scLaw.nd rfl (Or.inl rfl) (pe_c c_Rows hr pass00 .nil ((zaa (pv 1) (zaa (pv 2) (zaa (pv 0) zaf))))))
  (zag (zau (i:=5) scLaw.nd rfl (Or.inl rfl) (zc2 (zaf)))
  (zag (zdk PassesOwn.never rfl (zbr (K:=K) rfl (pv 4)) (zbj (i:=6) scLaw.nd rfl (Or.inl rfl)) (zah (zau (i:=5) scLaw.nd rfl (Or.inl rfl) (zax zk6 (pv 5) (za4 (zep rfl) rfl T.b_list (by kernel_rfl) ((zaa (pv 6) zaf)))))))
  (zag (zf9 (N:=["_law_f"]) (zbj (i:=7) scLaw.nd rfl (Or.inl rfl)) (Blk.plain (by decide +kernel) (by decide +kernel) rfl (by decide +kernel) zhm) rfl (zbr (K:=K) rfl (pv 4)) (λC0 s0 H0 fp0=>zcz (i:=0) zhm rfl rfl) (λC0 s0 H0 fp0=>zbv) (λC0 s0 H0 fp0=>za4 zkm rfl T.b_dict (by kernel_rfl) ((zaa (pv 0) zaf))))
  (zag (zau (i:=8) scLaw.nd rfl (Or.inl rfl) (ze8))
  (zag (zau (i:=9) scLaw.nd rfl (Or.inl rfl) (ze8))
  (zag (zau (i:=10) scLaw.nd rfl (Or.inl rfl) (zpd k_RgInit hr passF .nil ((zaa (pv 2) (zaa (pe_c c_LFld hr pass00 .nil ((zaa (pv 1) zaf))) (zaa (pe_c c_LOrd hr pass00 .nil ((zaa (pv 3) zaf))) zaf))))))
  (zag (zny (i:=11) scLaw.nd rfl rfl rfl rfl rfl x_RoomError.at_ (λpl E' E hP=>(zah (zau (i:=9) scLaw.nd rfl (Or.inl rfl) (pe_c cCor hr hP .nil ((zaa (pv 10) (zaa (pv 7) zaf))))))) (λa=>(zah (zau (i:=8) scLaw.nd rfl (Or.inl rfl) (pv 11)))))
  (zag (zau (i:=12) scLaw.nd rfl (Or.inl rfl) (pe_c cDue hr pass00 .nil ((zaa (pv 3) (zaa (pv 5) (zaa (pv 2) zaf))))))
  (zag (zcd (zav (zpk (K:=K) rfl (u70 hr)) (pv 7) (pv 4) (nomark _)) (zah (zar (zd3))) zaz)
  (zag (zcd (zav zo0 (pv 12) (ze8) (nomark _)) (zag (zau (i:=13) scLaw.nd rfl (Or.inl rfl) (zc2 ((zaa (zat (zdc (K:=K) rfl) rfl T.b_isinstance (by kernel_rfl) ((zaa (pv 8) (zaa (zeq (v := .ref zck) rfl x_NoBase.at_ rfl) zaf)))) (zaa (zat (zdc (K:=K) rfl) rfl T.b_isinstance (by kernel_rfl) ((zaa (pv 8) (zaa (zeq (v := .ref zc4) rfl x_NoBox.at_ rfl) zaf)))) (zaa (zat (zdc (K:=K) rfl) rfl T.b_isinstance (by kernel_rfl) ((zaa (pv 8) (zaa (zeq (v := .ref zd2) rfl x_Open.at_ rfl) zaf)))) zaf))))))
  (zah (zar (zi0 (zat (zdc (K:=K) rfl) rfl T.b_isinstance (by kernel_rfl) ((zaa (pv 8) (zaa (zeq (v := .ref zal) rfl x_Endless.at_ rfl) zaf)))) (zi0 (zat (zdc (K:=K) rfl) rfl T.b_isinstance (by kernel_rfl) ((zaa (pv 8) (zaa (zfn (v := .ty "ValueError") rfl T.b_ValueError (by kernel_rfl) rfl) zaf)))) (zma (zc3 zhc (zd3) (pv 13) rfl))))))) zaz)
  (zag (zcd (PW.pt (zj7 (zav zqz (pv 8) (ze8) (nomark _)) (zj7 (zee (zc9 (pe_c c_IsT hr pass00 .nil ((zaa (pv 9) zaf))))) (ziy (zav (zow hr.units) (pv 9) (pv 12) (nomark _)))))) (zah (zar (zd3))) zaz)
  (zag (zdr (zsa PySem.F.plainAttrs_list PySem.F.slot_list_clear PySem.F.type_list_clear znq (pv 9)))
  (zah (zar (zi0 (zc3 (zsc hr.units) (pe_c cCor hr passF .nil ((zaa (pv 10) (zaa (pv 7) zaf)))) (pv 12) (nomark _)) (zma (zc3 (zpe (K:=K) rfl (u70 hr)) (pv 7) (pv 4) (nomark _)))))))))))))))))))))),?_⟩
 obtain⟨hS,h63,hT,k⟩:=h
 refine⟨_,rfl,a,ns,0,rfl,hS,by decide,_,rfl,λn H1 e1 n2 n1 => ?_⟩
 refine⟨_,rfl,a,ns,1,rfl,e1.seq hS,by decide,_,_,rfl,rfl,(by show (0:Int) < 4;decide),_,_,rfl,rfl,?_⟩
 obtain⟨m,em,m1,m4⟩:∃m:Nat,1 + cellOf ns 1 % 4=(m:Int)/\1<=m/\m<=4:=⟨(1 + cellOf ns 1 % 4).toNat,by omega,by omega,by omega⟩
 dsimp only[gName]
 rw[em]
 refine⟨_,rfl,a,ns,2,rfl,e1.seq hS,by decide,_,rfl,cellOf ns 2,m,rfl,m4,λr l ws H2 e2 hr2 hl2 lw wn wb => ?_⟩
 have g2:=e1.trans e2
 dsimp only[gName]
 refine⟨_,rfl,_,rfl,_,rfl,n,m,a,ns,rfl,n2,n1,m1,m4,g2.seq hS,h63,λb ds kvss H3 e3 hm3 ld => ?_⟩
 have g3:=g2.trans e3
 dsimp only[gName]
 refine⟨Nat.zero_le _,λl5 nl5 => ?_⟩
 have e4:Same H3 (upd H3 l5 (.lst [])):=Same.upd nl5
 have hl5:(upd H3 l5 (HO.lst [])) l5=some (.lst []):=zae
 generalize upd H3 l5 (HO.lst [])=H4 at e4 hl5
 have mono:∀kvs∈kvss,Mono1 kvs:=λkvs hk=>(hm3.all kvs hk).mono
 have lk:kvss.length<=67:=by rw[<- hm3.len];exact ld
 refine⟨_,rfl,b,rfl,⟨_,SqL.of (e4 _ _ hm3.at_)⟩,?_⟩
 refine zd9 (K:=K) (a:=b) (xs:=ds.map V.ref) (λi σ H'=>Same H3 H'/\∃(g:Addr) (v6:Option V) (hv:List V),σ = [some (.ref a),some (.int n),some (.int m),some (.ref r),some (.ref b),some (.ref g),v6,none,none,none,none,none,none,none]/\H' g=some (.lst hv)/\Paired (Trm H') (hsOf (kvss.take i)) hv) ?_ (λi σ H' _ h=>SqL.of ((hm3.same h.1).at_)) ?_ ?_
 ·exact⟨e4,l5,none,[],rfl,hl5,.nil⟩
 ·rintro i x σ H5 hx ⟨e5,g,v6,hv,rfl,hg5,hp5⟩
  rw[List.getElem?_map]at hx
  cases hd:ds[i]? with
  | none=>rw[hd]at hx;cases hx
  | some d=>
   rw[hd]at hx
   injection hx with hx
   subst hx
   obtain⟨kvs,hk,hd5,mn5⟩:=(hm3.same e5).ge hd
   have lhv:hv.length<=67:=by
    rw[<- Paired.length hp5]
    refine Nat.le_trans (ziw λkvs hk=>(mono kvs (List.mem_of_mem_take hk)).len) ?_
    rw[List.length_take];omega
   dsimp only[gName]
   refine⟨_,rfl,_,rfl,d,kvs,rfl,.inl hd5,λl6 as nl6 la has => ?_⟩
   have e6:Same H5 (upd H5 l6 (.lst (as.map V.ref))):=Same.upd nl6
   have hl6:(upd H5 l6 (HO.lst (as.map V.ref))) l6=some (.lst (as.map V.ref)):=zae
   have hp6:=zgm (m:=m) (l:=l6) mn5.mono.key la has
   generalize upd H5 l6 (HO.lst (as.map V.ref))=H6 at e6 hl6
   have l1:=mn5.mono.len
   refine⟨g,l6,hv,_,rfl,rfl,e6 _ _ hg5,hl6,zl _ (by rw[List.length_map,la];omega),λl7 nl7 => ?_⟩
   have e7:Same H6 (upd H6 l7 (.lst (hv ++ as.map V.ref))):=Same.upd nl7
   refine⟨(e5.trans e6).trans e7,l7,_,_,rfl,zae,?_⟩
   rw[zlm hk]
   exact papp (pimp (λ_ _ q=>(Trm.same e6 q).same e7) hp5) (pimp (λ_ _ q=>(Trm.same e6 q).same e7) hp6)
 rintro σ H5 ⟨e5,g,v6,hv,rfl,hg5,hp5⟩
 rw[List.length_map,hm3.len,List.take_length]at hp5
 have hm5:=hm3.same e5
 have hh5:TL m H5 g hv (hsOf kvss):=⟨hg5,hp5,λx hx=>(hm3.heads x hx).1,by
  rw[<- Paired.length hp5]
  have:=ziw λkvs hk=>(mono kvs hk).len
  omega⟩
 have g5:=g3.trans e5
 refine zjt ?_
 refine⟨_,rfl,b,rfl,⟨_,SqL.of hm5.at_⟩,λD hD => ?_⟩
 refine zl7 (zb6 (SqL.of hm5.at_)) hD (zl _ (by rw[List.length_map];omega)) (λσ=>∃v,σ = [v]) (λ_=>true) (λi v H'=>∃d,v = .ref d/\H' d=some (.dT (kvss.getD i []))) (λi v H1 H2 e ⟨d,a1,a2⟩=>⟨d,a1,e _ _ a2⟩) (λi v H1 ys ys' hy ⟨d,a1,a2⟩=>⟨d,a1,by rw[zao (zdb a2 hy (by intro z;cases z))];exact a2⟩) ⟨none,rfl⟩ ?_ λH6 ys e6 hL hp => ?_
 ·rintro i v σ' H6 hi ⟨z,rfl⟩ e6 hv _ Ny Nn hy hn
  rw[List.getElem?_map]at hv
  cases hd:ds[i]? with
  | none=>rw[hd]at hv;cases hv
  | some d=>
   rw[hd]at hv
   injection hv with hv
   subst hv
   obtain⟨kvs,hk,hd5,mn5⟩:=(hm5.same e6).ge hd
   have eg:kvss.getD i []=kvs:=by simp[List.getD,hk]
   unfold tYes
   dsimp only[gName]
   rw[if_pos rfl]
   refine⟨_,rfl,d,kvs,rfl,hd5,mn5.hds,λp hp => ?_⟩
   exact hy _ _ _ ⟨_,rfl⟩ (Same.upd hp) ⟨p,rfl,by rw[eg];exact zae⟩ rfl
 rw[List.filter_eq_self.mpr (λ_ _=>rfl)]at hp
 obtain⟨dh,eys,ldh,hdh⟩:=zpn hp
 rw[List.length_map]at ldh
 rw[eys]at hL
 have g6:=g5.trans e6
 have hm6:=hm5.same e6
 have hh6:ML n m H6 D dh kvss:=⟨hL,by rw[ldh,hm3.len],λi d kvs h1 h2=>by
  have:=hdh i d h1
  have eg:kvss.getD i []=kvs:=by simp[List.getD,h2]
  rw[eg]at this
  exact⟨this,hm6.all kvs (List.mem_of_getElem? h2)⟩⟩
 dsimp only[gName]
 have k0:0<=cellOf ns 2 % 4:=by omega
 have k4:cellOf ns 2 % 4 < 4:=by omega
 obtain⟨CO,O⟩:=hord (cellOf ns 2 % 4) ws k0 k4 wn wb
 have g26:Same H2 H6:=(e3.trans e5).trans e6
 refine⟨_,rfl,_,rfl,n,rfl,n2,n1,λpf H7 e7 hpf => ?_⟩
 have g27:=g26.trans e7
 refine⟨_,rfl,r,l,cellOf ns 2 % 4,ws,rfl,g27 _ _ hr2,k0,k4,g27 _ _ hl2,by omega,wn,λpo H8 e8 hat x dx nx ndx ne => ?_⟩
 have e9:Same H8 (upd (upd H8 dx (.own x)) x (.ins zam dx [])):=λb o hb=>by
  rw[zao (zaq hb nx),zao (zaq hb ndx)];exact hb
 refine⟨x,dx,m,pf,po,cellOf ns 2 % 4,ws,rfl,zae,k0,k4,wn,wb,O.oC.same e9 hat,.inl ⟨⟨by omega,by omega,?_⟩,λHA h1 h2=>⟨rfl,?_⟩⟩⟩
 ·unfold fbK
  split
  ·exact decide_eq_true (by omega)
  ·rfl
 have eA:Same H8 HA:=λb o hb=>h2 b o (e9 _ _ hb) (zaq hb nx)
 have hatA:=O.oC.same eA hat
 have gA:Same H6 HA:=(e7.trans e8).trans eA
 have g2A:=g26.trans gA
 have hmA:=hm6.same gA
 have hhA:=hh6.same gA
 have hTLA:=hh5.same (e6.trans gA)
 have hTA:=(g6.trans gA) _ _ hT
 generalize ekd:cellOf ns 2 % 4=kd at *
 generalize ehs:hsOf kvss=hs at *
 have hb200:∀h∈hs,T0 m h/\∀i,h.getD i 0<=topM m:=by rw[<- ehs];exact hm3.heads
 dsimp only[gName]
 by_cases al:∀i,i < m->hs.any (λh=>aloneAt h i)=true
 ·have bd:∀l:List (List Int),l.Nodup->(∀t∈l,T0 m t/\outT hs t=true)->l.length<=200:=λl nl hl=>by
   have hbs:∀i,i < m->leastAt hs i≠[]/\((List.range m).map λi=>K37.lw (leastAt hs i)).getD i 0=K37.lw (leastAt hs i):=λi hi=>⟨least_any.mpr (al i hi),by simp[List.getD,hi]⟩
   have:=zhy (l':=(boxL ((List.range m).map λi=>K37.lw (leastAt hs i))).filter (outT hs)) nl λt ht=>(zl8 (λh q=>(hb200 h q).1) (by simp) hbs t).mpr (hl t ht)
   refine Nat.le_trans this (Nat.le_trans (List.length_filter_le _ _) (Nat.le_trans (zgl (B:=(topM m).toNat) _ λc hc => ?_) (Nat.le_trans (zg3 m1 m4 (by simp)) (by decide))))
   obtain⟨i,hi,rfl⟩:=List.mem_map.mp hc
   have ne:=least_any.mpr (al i (List.mem_range.mp hi))
   have lm:=zln ne
   obtain⟨h,q,e⟩:=List.mem_map.mp lm
   have e:h.getD i 0=K37.lw (leastAt hs i):=e
   rw[<- e]
   have:=(hb200 h (List.mem_filter.mp q).1).2 i
   omega
  refine⟨_,rfl,_,rfl,x,D,m,pf,po,n,kd,ws,dh,kvss,rfl,⟨dx,h1⟩,hatA,m1,m4,k0,k4,wn,wb,hhA.pl m1 m4 (by omega),λhs' hh' => ?_⟩
  obtain rfl:hs'=hs:=(zdf mono hh').trans ehs
  refine .inl ⟨al,bd,λD2 HB ys2 cs nD2 eB hT2 nd2 mem2 srt2 => ?_⟩
  have hTB:=eB _ _ hTA
  dsimp only[gName]
  refine⟨_,rfl,_,rfl,_,rfl,r,g,l,m,kd,ws,hv,hs',rfl,eB _ _ (g2A _ _ hr2),eB _ _ (g2A _ _ hl2),k0,k4,wn,wb,m1,m4,hTLA.same eB,λh q=>(hb200 h q).2,hTB,.inr ⟨λi hi=>least_any.mpr (al i hi),λD3 HC us3 cs3 nD3 bC hT3 nd3 mem3 srt3 => ?_⟩⟩
  have ecs:cs=cs3:=zgf (m:=m) k0 k4 wn nd2 nd3 (λt=>by rw[mem2,mem3]) (λt ht=>((mem2 t).mp ht).1.len) srt2 srt3
  subst ecs
  have hmC:=(hmA.same eB).but bC hTB
  have hhC:=(hhA.same eB).but bC hTB
  have hT2C:=hT2.but bC hTB
  have allT:∀(l1 l2:List Addr),l1.length=l2.length->(decide (l1.length=l2.length) && (List.range l1.length).all λ_=>true)=true:=λl1 l2 e=>by rw[decide_eq_true e];simp
  have deq:∀{H':Hp},ML n m H' D dh kvss->ML n m H' b ds kvss->∀(i:Nat) (p q:Addr),dh[i]? = some p->ds[i]? = some q->DEq K H' p q true:=fun{H'} a1 a2 i p q z1 z2=>by
   obtain⟨kvs,y1,y2,y3⟩:=a1.ge z1
   obtain⟨kvs',y1',y2',y3'⟩:=a2.ge z2
   rw[y1]at y1';cases y1'
   exact y3.deq y2 y2'
  dsimp only[gName]
  refine⟨_,rfl,_,rfl,D,b,dh,ds,λ_=>true,rfl,rfl,hhC.at_,hmC.at_,deq hhC hmC,_,rfl,?_⟩
  rw[allT dh ds ldh]
  refine iteF ?_
  refine⟨_,rfl,rfl,_,rfl,iteF ?_⟩
  refine⟨_,rfl,rfl,_,rfl,iteF ?_⟩
  refine⟨_,rfl,D2,m,ys2,cs,rfl,m4,hT2C,λHD eD=>⟨_,rfl,iteF ?_⟩⟩
  have hT2D:=hT2C.same eD
  have hT3D:=hT3.same eD
  refine⟨_,rfl,_,rfl,.list (tds cs),.list (tds cs),.lst (SqL.of hT2D.at_) (zdy hT2D.tm),.lst (SqL.of hT3D.at_) (zdy hT3D.tm),zde cs,zde cs,_,rfl,?_⟩
  rw[zi5 cs]
  refine iteF ?_
  refine⟨_,rfl,.inl ⟨rfl,_,SqL.of hT2D.at_⟩,D2,ys2,rfl,rfl,hT2D.at_,?_⟩
  have bE:ButT Pt HA (upd HD D2 (.lst [])):=λb o hb nb=>by
   rw[zao (zaq hb nD2)];exact eD _ _ (bC _ _ (eB _ _ hb) nb)
  have n32:D3≠D2:=λz=>by rw[z,hT2.at_]at nD3;cases nD3
  have hT3E:TL m (upd HD D2 (.lst [])) D3 us3 cs:=⟨by rw[zao n32];exact hT3D.at_,pimp (λ_ _ q=>zd6 hT2D.at_ q) hT3D.tm,hT3D.t0,hT3D.b⟩
  generalize upd HD D2 (HO.lst [])=HE at bE hT3E
  refine⟨_,rfl,_,rfl,x,D,m,pf,po,n,kd,ws,dh,kvss,rfl,⟨dx,bt bE hTA h1 (by intro _ z;cases z)⟩,zqt bE hTA hatA,m1,m4,k0,k4,wn,wb,(hhA.but bE hTA).pl m1 m4 (by omega),λhs2 hh2 => ?_⟩
  obtain rfl:hs2=hs':=(zdf mono hh2).trans ehs
  refine .inl ⟨al,bd,λD4 HF ys4 cs4 nD4 eF hT4 nd4 mem4 srt4 => ?_⟩
  have ecs:cs4=cs:=zgf (m:=m) k0 k4 wn nd4 nd3 (λt=>by rw[mem4,mem3]) (λt ht=>((mem4 t).mp ht).1.len) srt4 srt3
  subst ecs
  have hT3F:=hT3E.same eF
  refine⟨_,rfl,.list (tds cs4),.list (tds cs4),.lst (SqL.of hT4.at_) (zdy hT4.tm),.lst (SqL.of hT3F.at_) (zdy hT3F.tm),zde cs4,zde cs4,_,rfl,?_⟩
  rw[zi5 cs4]
  refine iteT ?_
  have hhF:=(hhA.but bE hTA).same eF
  have hmF:=(hmA.but bE hTA).same eF
  refine⟨_,rfl,_,rfl,D,b,dh,ds,λ_=>true,rfl,rfl,hhF.at_,hmF.at_,deq hhF hmF,?_⟩
  rw[allT dh ds ldh]
  exact k _
 ·refine⟨_,rfl,_,rfl,x,D,m,pf,po,n,kd,ws,dh,kvss,rfl,⟨dx,h1⟩,hatA,m1,m4,k0,k4,wn,wb,hhA.pl m1 m4 (by omega),λhs' hh' => ?_⟩
  obtain rfl:hs'=hs:=(zdf mono hh').trans ehs
  refine .inr ⟨al,λHB eB=>⟨zal,rfl,q_exm,λax nax => ?_⟩⟩
  have eC:Same HB (upd HB ax (excO ax zal)):=Same.upd nax
  have hxC:(upd HB ax (excO ax zal)) ax=some (excO ax zal):=zae
  generalize upd HB ax (excO ax zal)=HC at eC hxC
  refine⟨_,rfl,?_⟩
  dsimp only[gName,Ends.away]
  have gC:=eB.trans eC
  have hTC:=gC _ _ hTA
  obtain⟨i,hi,z⟩:∃i,i < m/\leastAt hs' i=[]:=Classical.byContradiction λq=>al λi hi=>least_any.mp λz=>q ⟨i,hi,z⟩
  refine⟨_,rfl,_,rfl,_,rfl,r,g,l,m,kd,ws,hv,hs',rfl,gC _ _ (g2A _ _ hr2),gC _ _ (g2A _ _ hl2),k0,k4,wn,wb,m1,m4,hTLA.same gC,λh q=>(hb200 h q).2,hTC,.inl ⟨⟨i,hi,z⟩,λHD eD => ?_⟩⟩
  have gD:=gC.trans eD
  have hmD:=hmA.same gD
  have hhD:=hhA.same gD
  have hxD:=eD _ _ hxC
  have allT:∀(l1 l2:List Addr),l1.length=l2.length->(decide (l1.length=l2.length) && (List.range l1.length).all λ_=>true)=true:=λl1 l2 e=>by rw[decide_eq_true e];simp
  dsimp only[gName]
  refine⟨_,rfl,_,rfl,D,b,dh,ds,λ_=>true,rfl,rfl,hhD.at_,hmD.at_,λi p q z1 z2 => ?_,_,rfl,?_⟩
  ·obtain⟨kvs,y1,y2,y3⟩:=hhD.ge z1
   obtain⟨kvs',y1',y2',y3'⟩:=hmD.ge z2
   rw[y1]at y1';cases y1'
   exact y3.deq y2 y2'
  rw[allT dh ds ldh]
  refine iteF ?_
  refine⟨_,rfl,rfl,_,rfl,iteT ?_⟩
  refine⟨_,rfl,ax,zal,_,_,false,rfl,rfl,hxD,q_exi,q_k1,_,rfl,ax,zal,_,_,false,rfl,rfl,hxD,q_exi,q_k2,_,rfl,ax,zal,_,_,false,rfl,rfl,hxD,q_exi,q_k3,(by show 3<=sizeLine;decide),λl13 nl13 => ?_⟩
  have hxE:=(Same.upd (o:=HO.lst [V.bl false,V.bl false,V.bl false]) nl13) _ _ hxD
  dsimp only[gName]
  refine⟨_,rfl,ax,zal,_,_,true,rfl,rfl,hxE,q_exi,q_k4,_,rfl,iteT ⟨_,rfl,ax,zal,_,_,true,rfl,rfl,hxE,q_exi,q_k5,_,rfl,iteT ⟨_,rfl,l13,_,rfl,.inl (SqL.of zae),rfl,rfl,?_⟩⟩⟩
  exact k _
end
end K6
namespace PySem.W.Fast
def tw15010793356433539164:=0
def tw12388231137614287479:=0
def tw17181871327603291553:=0
def tw18348946940425187883:=0
def tw191361124123227446:=0
def tw11252665559286169005:=0
def tw12770690706400874271:=0
def tw14381915705765340038:=0
def tw2297383620736335200:=0
def tw5701676365804822160:=0
def tw1773735870497575203:=0
def tw8477500003019509399:=0
def tw3759396888701884686:=0
def tw11214205616096072431:=0
def tw1407162442304354647:=0
def tw10996774243121063677:=0
def tw5969167166514255386:=0
def tw18342500671328882270:=0
def tw7592999172996293699:=0
def tw7937935171682111618:=0
def tw6731759244474104345:=0
def tw10170602633488319667:=0
def tw1508773733530421002:=0
def tw17506059473764234958:=0
def tw16434870394034706162:=0
def tw18157576791859217172:=0
def tw17150628339933696832:=0
def tw13006190850166943900:=0
def tw14619921540855756269:=0
def tw6987010207964936285:=0
def tw11825784780126063688:=0
def tw10318089453685173665:=0
def tw15665275597261261905:=0
def tw10974567644024505001:=0
def tw13864476187115138454:=0
def tw12679163092779281392:=0
def tw14987609914012923072:=0
def tw2836062410187325736:=0
def tw7733672388546381761:=0
def tw1330755801604843088:=0
def tw15891847475852268725:=0
def tw4112668661809945852:=0
def tw9146656039396703775:=0
def tw2477824623274296575:=0
def tw500894418758635628:=0
def tw14394124844560367974:=0
def tw18143380165913866212:=0
def tw12410377439895576113:=0
def tw910824945193185677:=0
def tw7973941894968596251:=0
def tw14217568780277259938:=0
def tw14629851902950958994:=0
def tw11857476547527982237:=0
def tw2819165655666422950:=0
def tw3589147144966502136:=0
def tw17169214207757365344:=0
def tw10850942861552566801:=0
def tw15089053787109162318:=0
def tw3423523039523968637:=0
def tw12176833334131976053:=0
def tw5715278338906373210:=0
def tw12317199452519937838:=0
def tw11331956608569278756:=0
def tw4715404241274274287:=0
def tw16465255684858028487:=0
def tw16968877197772209139:=0
def tw7160605928858710035:=0
def tw11822601462538782017:=0
def tw14714206635802324663:=0
def tw16402645452233703132:=0
def tw12683326144277887675:=0
def tw5886081666428247583:=0
def tw1624005835411223728:=0
def tw17354211486844271403:=0
def tw8438215935077217164:=0
def tw11571824613371093811:=0
def tw14649235706873863863:=0
def tw10062151320208126562:=0
def tw1310391759616540732:=0
def tw4141716309265421387:=0
def tw13473820297091545372:=0
def tw6100399197875379614:=0
def tw3841917682503223308:=0
def tw14680690281018602656:=0
def tw8010984799020711181:=0
def tw18430042249864590476:=0
def tw12629238862132282146:=0
def tw466370918640829213:=0
def tw12714169781425838594:=0
def tw13577941000073322924:=0
def tw4993168446660763809:=0
def tw18219904878690671797:=0
def tw15731987391544913379:=0
def tw5728579642154941978:=0
def tw3521486062852272490:=0
def tw10330097767011452265:=0
def tw9051362928190249077:=0
def tw17637466450465858710:=0
def tw14709123535800393759:=0
def tw7031064388609311540:=0
def tw14142764603453568864:=0
def tw15268042049009608673:=0
def tw18102596071155849758:=0
def tw4990389041554235948:=0
def tw341534109638263714:=0
def tw13622642028115102088:=0
def tw3616896129706801198:=0
def tw9126603679085823193:=0
def tw345241633525312569:=0
def tw3220216386324907307:=0
def tw4218319615171622905:=0
def tw10619778907118634937:=0
def tw17443874000371521206:=0
def tw6781778176008401199:=0
def tw11868471758179259750:=0
def tw16989214424968041621:=0
def tw18200428731489124377:=0
def tw14157246064204524342:=0
end PySem.W.Fast
namespace K6
open PySem L2
set_option maxHeartbeats 8000000 in
theorem all_mk{l:W.OpenLaw}{w:World}{K:W.Frag}{h:Heap}{mg:Str->Option Value}{fa:Addr}(X:K.In h)(G:h.Ns mainGlobals mg)(hfa:mg "law" = some (.ref fa))
  {zam:Addr} {zad:Addr} {zan:Addr} {zai:Addr} {zac:Addr} {zaj:Addr} {zab:Addr} {f_0:Addr} {od_0 an_0:Option Addr} {sl_0:Array (Option Value)} {oc_0 kV_0 dc_0 pm_0 cd_0 ct_0:Value} {f_1:Addr} {od_1 an_1:Option Addr} {sl_1:Array (Option Value)} {oc_1 kV_1 dc_1 pm_1 cd_1 ct_1:Value} {f_2:Addr} {od_2 an_2:Option Addr} {sl_2:Array (Option Value)} {oc_2 kV_2 dc_2 pm_2 cd_2 ct_2:Value} {f_3:Addr} {od_3 an_3:Option Addr} {sl_3:Array (Option Value)} {oc_3 kV_3 dc_3 pm_3 cd_3 ct_3:Value} {f_4:Addr} {od_4 an_4:Option Addr} {sl_4:Array (Option Value)} {oc_4 kV_4 dc_4 pm_4 cd_4 ct_4:Value} {f_5:Addr} {od_5 an_5:Option Addr} {sl_5:Array (Option Value)} {oc_5 kV_5 dc_5 pm_5 cd_5 ct_5:Value} {f_6:Addr} {od_6 an_6:Option Addr} {sl_6:Array (Option Value)} {oc_6 kV_6 dc_6 pm_6 cd_6 ct_6:Value} {f_7:Addr} {od_7 an_7:Option Addr} {sl_7:Array (Option Value)} {oc_7 kV_7 dc_7 pm_7 cd_7 ct_7:Value} {f_8:Addr} {od_8 an_8:Option Addr} {sl_8:Array (Option Value)} {oc_8 kV_8 dc_8 pm_8 cd_8 ct_8:Value} {f_9:Addr} {od_9 an_9:Option Addr} {sl_9:Array (Option Value)} {oc_9 kV_9 dc_9 pm_9 cd_9 ct_9:Value} {f_10:Addr} {od_10 an_10:Option Addr} {sl_10:Array (Option Value)} {oc_10 kV_10 dc_10 pm_10 cd_10 ct_10:Value} {f_11:Addr} {od_11 an_11:Option Addr} {sl_11:Array (Option Value)} {oc_11 kV_11 dc_11 pm_11 cd_11 ct_11:Value} {f_12:Addr} {od_12 an_12:Option Addr} {sl_12:Array (Option Value)} {oc_12 kV_12 dc_12 pm_12 cd_12 ct_12:Value} {f_13:Addr} {od_13 an_13:Option Addr} {sl_13:Array (Option Value)} {oc_13 kV_13 dc_13 pm_13 cd_13 ct_13:Value} {f_14:Addr} {od_14 an_14:Option Addr} {sl_14:Array (Option Value)} {oc_14 kV_14 dc_14 pm_14 cd_14 ct_14:Value} {f_15:Addr} {od_15 an_15:Option Addr} {sl_15:Array (Option Value)} {oc_15 kV_15 dc_15 pm_15 cd_15 ct_15:Value} {f_16:Addr} {od_16 an_16:Option Addr} {sl_16:Array (Option Value)} {oc_16 kV_16 dc_16 pm_16 cd_16 ct_16:Value} {Cq_16:Addr} {f_17:Addr} {od_17 an_17:Option Addr} {sl_17:Array (Option Value)} {oc_17 kV_17 dc_17 pm_17 cd_17 ct_17:Value} {f_18:Addr} {od_18 an_18:Option Addr} {sl_18:Array (Option Value)} {oc_18 kV_18 dc_18 pm_18 cd_18 ct_18:Value} {f_19:Addr} {od_19 an_19:Option Addr} {sl_19:Array (Option Value)} {oc_19 kV_19 dc_19 pm_19 cd_19 ct_19:Value} {f_20:Addr} {od_20 an_20:Option Addr} {sl_20:Array (Option Value)} {oc_20 kV_20 dc_20 pm_20 cd_20 ct_20:Value} {f_21:Addr} {od_21 an_21:Option Addr} {sl_21:Array (Option Value)} {oc_21 kV_21 dc_21 pm_21 cd_21 ct_21:Value} {f_22:Addr} {od_22 an_22:Option Addr} {sl_22:Array (Option Value)} {oc_22 kV_22 dc_22 pm_22 cd_22 ct_22:Value} {f_23:Addr} {od_23 an_23:Option Addr} {sl_23:Array (Option Value)} {oc_23 kV_23 dc_23 pm_23 cd_23 ct_23:Value} {f_24:Addr} {od_24 an_24:Option Addr} {sl_24:Array (Option Value)} {oc_24 kV_24 dc_24 pm_24 cd_24 ct_24:Value} {f_25:Addr} {od_25 an_25:Option Addr} {sl_25:Array (Option Value)} {oc_25 kV_25 dc_25 pm_25 cd_25 ct_25:Value} {f_26:Addr} {od_26 an_26:Option Addr} {sl_26:Array (Option Value)} {oc_26 kV_26 dc_26 pm_26 cd_26 ct_26:Value} {f_27:Addr} {od_27 an_27:Option Addr} {sl_27:Array (Option Value)} {oc_27 kV_27 dc_27 pm_27 cd_27 ct_27:Value} {f_28:Addr} {od_28 an_28:Option Addr} {sl_28:Array (Option Value)} {oc_28 kV_28 dc_28 pm_28 cd_28 ct_28:Value} {f_29:Addr} {od_29 an_29:Option Addr} {sl_29:Array (Option Value)} {oc_29 kV_29 dc_29 pm_29 cd_29 ct_29:Value} {f_30:Addr} {od_30 an_30:Option Addr} {sl_30:Array (Option Value)} {oc_30 kV_30 dc_30 pm_30 cd_30 ct_30:Value} {f_31:Addr} {od_31 an_31:Option Addr} {sl_31:Array (Option Value)} {oc_31 kV_31 dc_31 pm_31 cd_31 ct_31:Value} {f_32:Addr} {od_32 an_32:Option Addr} {sl_32:Array (Option Value)} {oc_32 kV_32 dc_32 pm_32 cd_32 ct_32:Value} {f_33:Addr} {od_33 an_33:Option Addr} {sl_33:Array (Option Value)} {oc_33 kV_33 dc_33 pm_33 cd_33 ct_33:Value} {f_34:Addr} {od_34 an_34:Option Addr} {sl_34:Array (Option Value)} {oc_34 kV_34 dc_34 pm_34 cd_34 ct_34:Value} {f_35:Addr} {od_35 an_35:Option Addr} {sl_35:Array (Option Value)} {oc_35 kV_35 dc_35 pm_35 cd_35 ct_35:Value} {f_36:Addr} {od_36 an_36:Option Addr} {sl_36:Array (Option Value)} {oc_36 kV_36 dc_36 pm_36 cd_36 ct_36:Value} {f_37:Addr} {od_37 an_37:Option Addr} {sl_37:Array (Option Value)} {oc_37 kV_37 dc_37 pm_37 cd_37 ct_37:Value} {f_38:Addr} {od_38 an_38:Option Addr} {sl_38:Array (Option Value)} {oc_38 kV_38 dc_38 pm_38 cd_38 ct_38:Value} {f_39:Addr} {od_39 an_39:Option Addr} {sl_39:Array (Option Value)} {oc_39 kV_39 dc_39 pm_39 cd_39 ct_39:Value} {f_40:Addr} {od_40 an_40:Option Addr} {sl_40:Array (Option Value)} {oc_40 kV_40 dc_40 pm_40 cd_40 ct_40:Value} {f_41:Addr} {od_41 an_41:Option Addr} {sl_41:Array (Option Value)} {oc_41 kV_41 dc_41 pm_41 cd_41 ct_41:Value} {f_42:Addr} {od_42 an_42:Option Addr} {sl_42:Array (Option Value)} {oc_42 kV_42 dc_42 pm_42 cd_42 ct_42:Value} {zal:Addr} {bm_Endless:List Value} {nid_Endless:String} {ini_Endless B_Endless:String} {zck:Addr} {bm_NoBase:List Value} {nid_NoBase:String} {ini_NoBase B_NoBase:String} {zc4:Addr} {bm_NoBox:List Value} {nid_NoBox:String} {ini_NoBox B_NoBox:String} {zca:Addr} {bm_NoLead:List Value} {nid_NoLead:String} {ini_NoLead B_NoLead:String} {zcb:Addr} {bm_NoOrder:List Value} {nid_NoOrder:String} {ini_NoOrder B_NoOrder:String} {zcc:Addr} {bm_NoPrime:List Value} {nid_NoPrime:String} {ini_NoPrime B_NoPrime:String} {zcl:Addr} {bm_NoRing:List Value} {nid_NoRing:String} {ini_NoRing B_NoRing:String} {zaw:Addr} {bm_NoTerm:List Value} {nid_NoTerm:String} {ini_NoTerm B_NoTerm:String} {zd2:Addr} {bm_Open:List Value} {nid_Open:String} {ini_Open B_Open:String} {zbk:Addr} {bm_RoomError:List Value} {nid_RoomError:String} {ini_RoomError B_RoomError:String} {tg_GREATEST_PRIME:Tok} {tg_LETTERS:Tok}
  (iu:W.nsIn K mainGlobals "Ring" = some (some (.ref zam)))
  (gl:W.plainGet K zam Str.empty=true)
  (gm:W.hasDictIn K zam=true)
  (gq:W.plainOver K zam=true)
  (gr:W.findIn K (.ref zam) "__setattr__" = some (some (.builtin "object.__setattr__")))
  (gs:W.makesIn K zam=true)
  (gt:W.keepIn K (.ref zam)=true)
  (ak:W.findIn K (.ref zam) "many" = some none)
  (ah:W.findIn K (.ref zam) "field" = some none)
  (aj:W.findIn K (.ref zam) "order" = some none)
  (bb:W.nsIn K mainGlobals "Fractions" = some (some (.ref zad)))
  (am:W.plainGet K zad Str.empty=true)
  (ao:W.hasDictIn K zad=true)
  (ap:W.plainOver K zad=true)
  (aq:W.findIn K (.ref zad) "__setattr__" = some (some (.builtin "object.__setattr__")))
  (ar:W.makesIn K zad=true)
  (au:W.keepIn K (.ref zad)=true)
  (aa:W.findIn K (.ref zad) "prime" = some none)
  (gu:W.nsIn K mainGlobals "Rests" = some (some (.ref zan)))
  (ee:W.plainGet K zan Str.empty=true)
  (en:W.hasDictIn K zan=true)
  (fc:W.plainOver K zan=true)
  (fe:W.findIn K (.ref zan) "__setattr__" = some (some (.builtin "object.__setattr__")))
  (fg:W.makesIn K zan=true)
  (fh:W.keepIn K (.ref zan)=true)
  (af:W.findIn K (.ref zan) "prime" = some none)
  (gv:W.nsIn K mainGlobals "Order" = some (some (.ref zai)))
  (fi:W.plainGet K zai Str.empty=true)
  (fj:W.hasDictIn K zai=true)
  (fk:W.plainOver K zai=true)
  (fm:W.findIn K (.ref zai) "__setattr__" = some (some (.builtin "object.__setattr__")))
  (fq:W.makesIn K zai=true)
  (ft:W.findIn K (.ref zai) "__init__" = some (some (.builtin "object.__init__")))
  (fu:W.keepIn K (.ref zai)=true)
  (cz:W.nsIn K mainGlobals "Degrees" = some (some (.ref zac)))
  (bj:W.plainGet K zac Str.empty=true)
  (bn:W.hasDictIn K zac=true)
  (bo:W.plainOver K zac=true)
  (bp:W.findIn K (.ref zac) "__setattr__" = some (some (.builtin "object.__setattr__")))
  (bq:W.makesIn K zac=true)
  (br:W.findIn K (.ref zac) "__init__" = some (some (.builtin "object.__init__")))
  (bu:W.keepIn K (.ref zac)=true)
  (gw:W.nsIn K mainGlobals "Tails" = some (some (.ref zaj)))
  (fv:W.plainGet K zaj Str.empty=true)
  (fw:W.hasDictIn K zaj=true)
  (fz:W.plainOver K zaj=true)
  (f6:W.findIn K (.ref zaj) "__setattr__" = some (some (.builtin "object.__setattr__")))
  (f7:W.makesIn K zaj=true)
  (f8:W.findIn K (.ref zaj) "__init__" = some (some (.builtin "object.__init__")))
  (f9:W.keepIn K (.ref zaj)=true)
  (dc:W.nsIn K mainGlobals "Weights" = some (some (.ref zab)))
  (bv:W.plainGet K zab Str.empty=true)
  (bw:W.hasDictIn K zab=true)
  (bx:W.plainOver K zab=true)
  (bz:W.findIn K (.ref zab) "__setattr__" = some (some (.builtin "object.__setattr__")))
  (b7:W.makesIn K zab=true)
  (b8:W.keepIn K (.ref zab)=true)
  (ad:W.findIn K (.ref zab) "weights" = some none)
  (sx:W.nsIn K mainGlobals "product" = some (some (.ref f_0)))
  (sy:K.lookup f_0=some ⟨oc_0,od_0,.func (W.fnOf "product" "product" (defArgs zc7) (defBody zc7) (defScope zc7) .none kV_0 dc_0 pm_0 an_0 cd_0 ct_0),sl_0⟩)
  (tj:W.codeIn K cd_0 "product" = true)
  (tu:W.keepIn K (.ref f_0)=true)
  (tw:W.nsIn K mainGlobals "goes_into" = some (some (.ref f_1)))
  (tz:K.lookup f_1=some ⟨oc_1,od_1,.func (W.fnOf "goes_into" "goes_into" (defArgs zcg) (defBody zcg) (defScope zcg) .none kV_1 dc_1 pm_1 an_1 cd_1 ct_1),sl_1⟩)
  (t6:W.codeIn K cd_1 "goes_into" = true)
  (t7:W.keepIn K (.ref f_1)=true)
  (t8:W.nsIn K mainGlobals "degree" = some (some (.ref f_2)))
  (t9:K.lookup f_2=some ⟨oc_2,od_2,.func (W.fnOf "degree" "degree" (defArgs zdx) (defBody zdx) (defScope zdx) .none kV_2 dc_2 pm_2 an_2 cd_2 ct_2),sl_2⟩)
  (ua:W.codeIn K cd_2 "degree" = true)
  (uc:W.keepIn K (.ref f_2)=true)
  (ud:W.nsIn K mainGlobals "alone" = some (some (.ref f_3)))
  (ue:K.lookup f_3=some ⟨oc_3,od_3,.func (W.fnOf "alone" "alone" (defArgs zet) (defBody zet) (defScope zet) .none kV_3 dc_3 pm_3 an_3 cd_3 ct_3),sl_3⟩)
  (uf:W.codeIn K cd_3 "alone" = true)
  (ug:W.keepIn K (.ref f_3)=true)
  (de:W.findIn K (.ref zai) "rank" = some (some (.ref f_4)))
  (uh:W.isFn K (.ref f_4)=true)
  (jm:W.specialIn K (.ref f_4) "__get__" = some (some (.builtin "function.__get__")))
  (jn:W.takesIn K (.ref f_4)=some false)
  (ui:K.lookup f_4=some ⟨oc_4,od_4,.func (W.fnOf "rank" "Order.rank" (defArgs zb0) (defBody zb0) (defScope zb0) .none kV_4 dc_4 pm_4 an_4 cd_4 ct_4),sl_4⟩)
  (uj:W.codeIn K cd_4 "Order.rank" = true)
  (um:W.keepIn K (.ref f_4)=true)
  (be:W.findIn K (.ref zac) "rank" = some (some (.ref f_5)))
  (uq:W.isFn K (.ref f_5)=true)
  (jo:W.specialIn K (.ref f_5) "__get__" = some (some (.builtin "function.__get__")))
  (jq:W.takesIn K (.ref f_5)=some false)
  (ur:K.lookup f_5=some ⟨oc_5,od_5,.func (W.fnOf "rank" "Degrees.rank" (defArgs zbn) (defBody zbn) (defScope zbn) .none kV_5 dc_5 pm_5 an_5 cd_5 ct_5),sl_5⟩)
  (uu:W.codeIn K cd_5 "Degrees.rank" = true)
  (uv:W.keepIn K (.ref f_5)=true)
  (df:W.findIn K (.ref zaj) "rank" = some (some (.ref f_6)))
  (uw:W.isFn K (.ref f_6)=true)
  (jr:W.specialIn K (.ref f_6) "__get__" = some (some (.builtin "function.__get__")))
  (js:W.takesIn K (.ref f_6)=some false)
  (ux:K.lookup f_6=some ⟨oc_6,od_6,.func (W.fnOf "rank" "Tails.rank" (defArgs zbw) (defBody zbw) (defScope zbw) .none kV_6 dc_6 pm_6 an_6 cd_6 ct_6),sl_6⟩)
  (uz:W.codeIn K cd_6 "Tails.rank" = true)
  (u0:W.keepIn K (.ref f_6)=true)
  (bf:W.findIn K (.ref zab) "__init__" = some (some (.ref f_7)))
  (u6:W.isFn K (.ref f_7)=true)
  (u7:K.lookup f_7=some ⟨oc_7,od_7,.func (W.fnOf "__init__" "Weights.__init__" (defArgs za3) (defBody za3) (defScope za3) .none kV_7 dc_7 pm_7 an_7 cd_7 ct_7),sl_7⟩)
  (u8:W.codeIn K cd_7 "Weights.__init__" = true)
  (u9:W.keepIn K (.ref f_7)=true)
  (bg:W.findIn K (.ref zab) "rank" = some (some (.ref f_8)))
  (va:W.isFn K (.ref f_8)=true)
  (jt:W.specialIn K (.ref f_8) "__get__" = some (some (.builtin "function.__get__")))
  (ju:W.takesIn K (.ref f_8)=some false)
  (vb:K.lookup f_8=some ⟨oc_8,od_8,.func (W.fnOf "rank" "Weights.rank" (defArgs zbm) (defBody zbm) (defScope zbm) .none kV_8 dc_8 pm_8 an_8 cd_8 ct_8),sl_8⟩)
  (vd:W.codeIn K cd_8 "Weights.rank" = true)
  (ve:W.keepIn K (.ref f_8)=true)
  (bh:W.findIn K (.ref zac) "fits" = some (some (.ref f_9)))
  (dg:W.findIn K (.ref zai) "fits" = some (some (.ref f_9)))
  (di:W.findIn K (.ref zaj) "fits" = some (some (.ref f_9)))
  (vf:W.isFn K (.ref f_9)=true)
  (vg:K.lookup f_9=some ⟨oc_9,od_9,.func (W.fnOf "fits" "Order.fits" (defArgs zb4) (defBody zb4) (defScope zb4) .none kV_9 dc_9 pm_9 an_9 cd_9 ct_9),sl_9⟩)
  (vh:W.codeIn K cd_9 "Order.fits" = true)
  (vi:W.keepIn K (.ref f_9)=true)
  (av:W.findIn K (.ref zab) "fits" = some (some (.ref f_10)))
  (jv:W.isFn K (.ref f_10)=true)
  (jw:K.lookup f_10=some ⟨oc_10,od_10,.func (W.fnOf "fits" "Weights.fits" (defArgs zbp) (defBody zbp) (defScope zbp) .none kV_10 dc_10 pm_10 an_10 cd_10 ct_10),sl_10⟩)
  (jx:W.codeIn K cd_10 "Weights.fits" = true)
  (jy:W.keepIn K (.ref f_10)=true)
  (aw:W.findIn K (.ref zac) "first_of" = some (some (.ref f_11)))
  (b9:W.findIn K (.ref zai) "first_of" = some (some (.ref f_11)))
  (cb:W.findIn K (.ref zaj) "first_of" = some (some (.ref f_11)))
  (ay:W.findIn K (.ref zab) "first_of" = some (some (.ref f_11)))
  (jz:W.isFn K (.ref f_11)=true)
  (j0:K.lookup f_11=some ⟨oc_11,od_11,.func (W.fnOf "first_of" "Order.first_of" (defArgs za6) (defBody za6) (defScope za6) .none kV_11 dc_11 pm_11 an_11 cd_11 ct_11),sl_11⟩)
  (j3:W.codeIn K cd_11 "Order.first_of" = true)
  (j4:W.keepIn K (.ref f_11)=true)
  (az:W.findIn K (.ref zac) "falling" = some (some (.ref f_12)))
  (ce:W.findIn K (.ref zai) "falling" = some (some (.ref f_12)))
  (cg:W.findIn K (.ref zaj) "falling" = some (some (.ref f_12)))
  (a5:W.findIn K (.ref zab) "falling" = some (some (.ref f_12)))
  (j5:W.isFn K (.ref f_12)=true)
  (j6:K.lookup f_12=some ⟨oc_12,od_12,.func (W.fnOf "falling" "Order.falling" (defArgs zbg) (defBody zbg) (defScope zbg) .none kV_12 dc_12 pm_12 an_12 cd_12 ct_12),sl_12⟩)
  (j7:W.codeIn K cd_12 "Order.falling" = true)
  (j8:W.keepIn K (.ref f_12)=true)
  (dj:W.findIn K (.ref zam) "__init__" = some (some (.ref f_13)))
  (j9:W.isFn K (.ref f_13)=true)
  (kc:K.lookup f_13=some ⟨oc_13,od_13,.func (W.fnOf "__init__" "Ring.__init__" (defArgs zbh) (defBody zbh) (defScope zbh) .none kV_13 dc_13 pm_13 an_13 cd_13 ct_13),sl_13⟩)
  (ke:W.codeIn K cd_13 "Ring.__init__" = true)
  (kf:W.keepIn K (.ref f_13)=true)
  (dk:W.findIn K (.ref zam) "unit" = some (some (.ref f_14)))
  (kh:W.isFn K (.ref f_14)=true)
  (ki:K.lookup f_14=some ⟨oc_14,od_14,.func (W.fnOf "unit" "Ring.unit" (defArgs zci) (defBody zci) (defScope zci) .none kV_14 dc_14 pm_14 an_14 cd_14 ct_14),sl_14⟩)
  (kj:W.codeIn K cd_14 "Ring.unit" = true)
  (kl:W.keepIn K (.ref f_14)=true)
  (km:W.nsIn K mainGlobals "is_prime" = some (some (.ref f_15)))
  (ko:K.lookup f_15=some ⟨oc_15,od_15,.func (W.fnOf "is_prime" "is_prime" (defArgs zcs) (defBody zcs) (defScope zcs) .none kV_15 dc_15 pm_15 an_15 cd_15 ct_15),sl_15⟩)
  (kq:W.codeIn K cd_15 "is_prime" = true)
  (kr:W.keepIn K (.ref f_15)=true)
  (i3:W.nsIn K mainGlobals "Field" = some (some (.ref Cq_16)))
  (i4:W.readsIn K Cq_16 (.type "type")=true)
  (i5:W.findCls K (.ref Cq_16) (.type "type") "__init__" = some (.val (.ref f_16)))
  (i6:W.specialIn K (.ref Cq_16) "__getattribute__" = some (some (.builtin "type.__getattribute__")))
  (kt:W.isFn K (.ref f_16)=true)
  (ku:K.lookup f_16=some ⟨oc_16,od_16,.func (W.fnOf "__init__" "Field.__init__" (defArgs za8) (defBody za8) (defScope za8) .none kV_16 dc_16 pm_16 an_16 cd_16 ct_16),sl_16⟩)
  (kx:W.codeIn K cd_16 "Field.__init__" = true)
  (kz:W.keepIn K (.ref f_16)=true)
  (ag:W.findIn K (.ref zad) "__init__" = some (some (.ref f_17)))
  (k6:W.isFn K (.ref f_17)=true)
  (k7:K.lookup f_17=some ⟨oc_17,od_17,.func (W.fnOf "__init__" "Fractions.__init__" (defArgs zay) (defBody zay) (defScope zay) .none kV_17 dc_17 pm_17 an_17 cd_17 ct_17),sl_17⟩)
  (k8:W.codeIn K cd_17 "Fractions.__init__" = true)
  (k9:W.keepIn K (.ref f_17)=true)
  (ci:W.findIn K (.ref zan) "__init__" = some (some (.ref f_18)))
  (lg:W.isFn K (.ref f_18)=true)
  (ll:K.lookup f_18=some ⟨oc_18,od_18,.func (W.fnOf "__init__" "Rests.__init__" (defArgs za7) (defBody za7) (defScope za7) .none kV_18 dc_18 pm_18 an_18 cd_18 ct_18),sl_18⟩)
  (lq:W.codeIn K cd_18 "Rests.__init__" = true)
  (lr:W.keepIn K (.ref f_18)=true)
  (lv:W.nsIn K mainGlobals "is_power_alone" = some (some (.ref f_19)))
  (l4:K.lookup f_19=some ⟨oc_19,od_19,.func (W.fnOf "is_power_alone" "is_power_alone" (defArgs za9) (defBody za9) (defScope za9) .none kV_19 dc_19 pm_19 an_19 cd_19 ct_19),sl_19⟩)
  (l8:W.codeIn K cd_19 "is_power_alone" = true)
  (l9:W.keepIn K (.ref f_19)=true)
  (ma:W.nsIn K mainGlobals "is_outside" = some (some (.ref f_20)))
  (md:K.lookup f_20=some ⟨oc_20,od_20,.func (W.fnOf "is_outside" "is_outside" (defArgs zbz) (defBody zbz) (defScope zbz) .none kV_20 dc_20 pm_20 an_20 cd_20 ct_20),sl_20⟩)
  (mf:W.codeIn K cd_20 "is_outside" = true)
  (mh:W.keepIn K (.ref f_20)=true)
  (mi:W.nsIn K mainGlobals "outside" = some (some (.ref f_21)))
  (mj:K.lookup f_21=some ⟨oc_21,od_21,.func (W.fnOf "outside" "outside" (defArgs zc6) (defBody zc6) (defScope zc6) .none kV_21 dc_21 pm_21 an_21 cd_21 ct_21),sl_21⟩)
  (ml:W.codeIn K cd_21 "outside" = true)
  (mr:W.keepIn K (.ref f_21)=true)
  (mv:W.nsIn K mainGlobals "check_not_endless" = some (some (.ref f_22)))
  (mw:K.lookup f_22=some ⟨oc_22,od_22,.func (W.fnOf "check_not_endless" "check_not_endless" (defArgs za0) (defBody za0) (defScope za0) .none kV_22 dc_22 pm_22 an_22 cd_22 ct_22),sl_22⟩)
  (my:W.codeIn K cd_22 "check_not_endless" = true)
  (mz:W.keepIn K (.ref f_22)=true)
  (m3:W.nsIn K mainGlobals "steps_from" = some (some (.ref f_23)))
  (m5:K.lookup f_23=some ⟨oc_23,od_23,.func (W.fnOf "steps_from" "steps_from" (defArgs zb3) (defBody zb3) (defScope zb3) .none kV_23 dc_23 pm_23 an_23 cd_23 ct_23),sl_23⟩)
  (m6:W.codeIn K cd_23 "steps_from" = true)
  (m7:W.keepIn K (.ref f_23)=true)
  (m8:W.nsIn K mainGlobals "first_term" = some (some (.ref f_24)))
  (m9:K.lookup f_24=some ⟨oc_24,od_24,.func (W.fnOf "first_term" "first_term" (defArgs zb5) (defBody zb5) (defScope zb5) .none kV_24 dc_24 pm_24 an_24 cd_24 ct_24),sl_24⟩)
  (ng:W.codeIn K cd_24 "first_term" = true)
  (nh:W.keepIn K (.ref f_24)=true)
  (ni:W.nsIn K mainGlobals "corner" = some (some (.ref f_25)))
  (nj:K.lookup f_25=some ⟨oc_25,od_25,.func (W.fnOf "corner" "corner" (defArgs zdv) (defBody zdv) (defScope zdv) .none kV_25 dc_25 pm_25 an_25 cd_25 ct_25),sl_25⟩)
  (nw:W.codeIn K cd_25 "corner" = true)
  (ny:W.keepIn K (.ref f_25)=true)
  (n4:W.nsIn K mainGlobals "_law_cell_at" = some (some (.ref f_26)))
  (n5:K.lookup f_26=some ⟨oc_26,od_26,.func (W.fnOf "_law_cell_at" "_law_cell_at" (defArgs zbo) (defBody zbo) (defScope zbo) .none kV_26 dc_26 pm_26 an_26 cd_26 ct_26),sl_26⟩)
  (n6:W.codeIn K cd_26 "_law_cell_at" = true)
  (n8:W.keepIn K (.ref f_26)=true)
  (n9:W.nsIn K mainGlobals "_law_is_prime" = some (some (.ref f_27)))
  (oh:K.lookup f_27=some ⟨oc_27,od_27,.func (W.fnOf "_law_is_prime" "_law_is_prime" (defArgs zbe) (defBody zbe) (defScope zbe) .none kV_27 dc_27 pm_27 an_27 cd_27 ct_27),sl_27⟩)
  (oj:W.codeIn K cd_27 "_law_is_prime" = true)
  (om:W.keepIn K (.ref f_27)=true)
  (ot:W.nsIn K mainGlobals "_law_prime" = some (some (.ref f_28)))
  (ou:K.lookup f_28=some ⟨oc_28,od_28,.func (W.fnOf "_law_prime" "_law_prime" (defArgs zby) (defBody zby) (defScope zby) .none kV_28 dc_28 pm_28 an_28 cd_28 ct_28),sl_28⟩)
  (ow:W.codeIn K cd_28 "_law_prime" = true)
  (ox:W.keepIn K (.ref f_28)=true)
  (oy:W.nsIn K mainGlobals "_law_field" = some (some (.ref f_29)))
  (oz:K.lookup f_29=some ⟨oc_29,od_29,.func (W.fnOf "_law_field" "_law_field" (defArgs zb2) (defBody zb2) (defScope zb2) .none kV_29 dc_29 pm_29 an_29 cd_29 ct_29),sl_29⟩)
  (o0:W.codeIn K cd_29 "_law_field" = true)
  (o3:W.keepIn K (.ref f_29)=true)
  (o4:W.nsIn K mainGlobals "_law_way" = some (some (.ref f_30)))
  (o5:K.lookup f_30=some ⟨oc_30,od_30,.func (W.fnOf "_law_way" "_law_way" (defArgs zcr) (defBody zcr) (defScope zcr) .none kV_30 dc_30 pm_30 an_30 cd_30 ct_30),sl_30⟩)
  (o6:W.codeIn K cd_30 "_law_way" = true)
  (o7:W.keepIn K (.ref f_30)=true)
  (o8:W.nsIn K mainGlobals "_law_order" = some (some (.ref f_31)))
  (o9:K.lookup f_31=some ⟨oc_31,od_31,.func (W.fnOf "_law_order" "_law_order" (defArgs zb1) (defBody zb1) (defScope zb1) .none kV_31 dc_31 pm_31 an_31 cd_31 ct_31),sl_31⟩)
  (pd:W.codeIn K cd_31 "_law_order" = true)
  (pe:W.keepIn K (.ref f_31)=true)
  (ph:W.nsIn K mainGlobals "_law_reduced" = some (some (.ref f_32)))
  (p6:K.lookup f_32=some ⟨oc_32,od_32,.func (W.fnOf "_law_reduced" "_law_reduced" (defArgs zbq) (defBody zbq) (defScope zbq) .none kV_32 dc_32 pm_32 an_32 cd_32 ct_32),sl_32⟩)
  (p7:W.codeIn K cd_32 "_law_reduced" = true)
  (p9:W.keepIn K (.ref f_32)=true)
  (qc:W.nsIn K mainGlobals "_law_rank" = some (some (.ref f_33)))
  (qd:K.lookup f_33=some ⟨oc_33,od_33,.func (W.fnOf "_law_rank" "_law_rank" (defArgs zcj) (defBody zcj) (defScope zcj) .none kV_33 dc_33 pm_33 an_33 cd_33 ct_33),sl_33⟩)
  (qe:W.codeIn K cd_33 "_law_rank" = true)
  (qg:W.keepIn K (.ref f_33)=true)
  (qh:W.nsIn K mainGlobals "_law_nonzero" = some (some (.ref f_34)))
  (qi:K.lookup f_34=some ⟨oc_34,od_34,.func (W.fnOf "_law_nonzero" "_law_nonzero" (defArgs zbl) (defBody zbl) (defScope zbl) .none kV_34 dc_34 pm_34 an_34 cd_34 ct_34),sl_34⟩)
  (qj:W.codeIn K cd_34 "_law_nonzero" = true)
  (qk:W.keepIn K (.ref f_34)=true)
  (ql:W.nsIn K mainGlobals "_law_mono" = some (some (.ref f_35)))
  (qm:K.lookup f_35=some ⟨oc_35,od_35,.func (W.fnOf "_law_mono" "_law_mono" (defArgs zce) (defBody zce) (defScope zce) .none kV_35 dc_35 pm_35 an_35 cd_35 ct_35),sl_35⟩)
  (qo:W.codeIn K cd_35 "_law_mono" = true)
  (qp:W.keepIn K (.ref f_35)=true)
  (qq:W.nsIn K mainGlobals "_law_least_alone" = some (some (.ref f_36)))
  (qr:K.lookup f_36=some ⟨oc_36,od_36,.func (W.fnOf "_law_least_alone" "_law_least_alone" (defArgs za2) (defBody za2) (defScope za2) .none kV_36 dc_36 pm_36 an_36 cd_36 ct_36),sl_36⟩)
  (qt:W.codeIn K cd_36 "_law_least_alone" = true)
  (qu:W.keepIn K (.ref f_36)=true)
  (qv:W.nsIn K mainGlobals "_law_free" = some (some (.ref f_37)))
  (qx:K.lookup f_37=some ⟨oc_37,od_37,.func (W.fnOf "_law_free" "_law_free" (defArgs zcf) (defBody zcf) (defScope zcf) .none kV_37 dc_37 pm_37 an_37 cd_37 ct_37),sl_37⟩)
  (qy:W.codeIn K cd_37 "_law_free" = true)
  (qz:W.keepIn K (.ref f_37)=true)
  (rc:W.nsIn K mainGlobals "_law_rows" = some (some (.ref f_38)))
  (re:K.lookup f_38=some ⟨oc_38,od_38,.func (W.fnOf "_law_rows" "_law_rows" (defArgs zch) (defBody zch) (defScope zch) .none kV_38 dc_38 pm_38 an_38 cd_38 ct_38),sl_38⟩)
  (rf:W.codeIn K cd_38 "_law_rows" = true)
  (rg:W.keepIn K (.ref f_38)=true)
  (rh:W.nsIn K mainGlobals "_law_due" = some (some (.ref f_39)))
  (ri:K.lookup f_39=some ⟨oc_39,od_39,.func (W.fnOf "_law_due" "_law_due" (defArgs zcq) (defBody zcq) (defScope zcq) .none kV_39 dc_39 pm_39 an_39 cd_39 ct_39),sl_39⟩)
  (rj:W.codeIn K cd_39 "_law_due" = true)
  (rl:W.keepIn K (.ref f_39)=true)
  (rm:W.nsIn K mainGlobals "_law_whole" = some (some (.ref f_40)))
  (rn:K.lookup f_40=some ⟨oc_40,od_40,.func (W.fnOf "_law_whole" "_law_whole" (defArgs zbx) (defBody zbx) (defScope zbx) .none kV_40 dc_40 pm_40 an_40 cd_40 ct_40),sl_40⟩)
  (rq:W.codeIn K cd_40 "_law_whole" = true)
  (rz:W.keepIn K (.ref f_40)=true)
  (r6:W.nsIn K mainGlobals "_law_is_terms" = some (some (.ref f_41)))
  (r8:K.lookup f_41=some ⟨oc_41,od_41,.func (W.fnOf "_law_is_terms" "_law_is_terms" (defArgs zbd) (defBody zbd) (defScope zbd) .none kV_41 dc_41 pm_41 an_41 cd_41 ct_41),sl_41⟩)
  (r9:W.codeIn K cd_41 "_law_is_terms" = true)
  (se:W.keepIn K (.ref f_41)=true)
  (sf:W.nsIn K mainGlobals "law" = some (some (.ref f_42)))
  (sg:K.lookup f_42=some ⟨oc_42,od_42,.func (W.fnOf "law" "law" (defArgs zgq) (defBody zgq) (defScope zgq) .none kV_42 dc_42 pm_42 an_42 cd_42 ct_42),sl_42⟩)
  (sh:W.codeIn K cd_42 "law" = true)
  (si:W.keepIn K (.ref f_42)=true)
  (dl:W.nsIn K mainGlobals "Endless" = some (some (.ref zal)))
  (cj:ExcBaseFacts B_Endless nid_Endless ini_Endless bm_Endless)
  (ck:W.excIn K zal bm_Endless nid_Endless=true)
  (cm:W.exmOne K (.ref zal) (.ref zal)=some true)
  (gc:W.nsIn K mainGlobals "NoBase" = some (some (.ref zck)))
  (dm:ExcBaseFacts B_NoBase nid_NoBase ini_NoBase bm_NoBase)
  (dn:W.excIn K zck bm_NoBase nid_NoBase=true)
  (dq:W.exmOne K (.ref zck) (.ref zck)=some true)
  (gx:W.nsIn K mainGlobals "NoBox" = some (some (.ref zc4)))
  (gd:ExcBaseFacts B_NoBox nid_NoBox ini_NoBox bm_NoBox)
  (gf:W.excIn K zc4 bm_NoBox nid_NoBox=true)
  (gg:W.exmOne K (.ref zc4) (.ref zc4)=some true)
  (gh:W.nsIn K mainGlobals "NoLead" = some (some (.ref zca)))
  (du:ExcBaseFacts B_NoLead nid_NoLead ini_NoLead bm_NoLead)
  (dw:W.excIn K zca bm_NoLead nid_NoLead=true)
  (dy:W.exmOne K (.ref zca) (.ref zca)=some true)
  (dz:W.nsIn K mainGlobals "NoOrder" = some (some (.ref zcb)))
  (cn:ExcBaseFacts B_NoOrder nid_NoOrder ini_NoOrder bm_NoOrder)
  (cq:W.excIn K zcb bm_NoOrder nid_NoOrder=true)
  (cr:W.exmOne K (.ref zcb) (.ref zcb)=some true)
  (d0:W.nsIn K mainGlobals "NoPrime" = some (some (.ref zcc)))
  (cu:ExcBaseFacts B_NoPrime nid_NoPrime ini_NoPrime bm_NoPrime)
  (cw:W.excIn K zcc bm_NoPrime nid_NoPrime=true)
  (cx:W.exmOne K (.ref zcc) (.ref zcc)=some true)
  (gi:W.nsIn K mainGlobals "NoRing" = some (some (.ref zcl)))
  (d3:ExcBaseFacts B_NoRing nid_NoRing ini_NoRing bm_NoRing)
  (d4:W.excIn K zcl bm_NoRing nid_NoRing=true)
  (d5:W.exmOne K (.ref zcl) (.ref zcl)=some true)
  (gj:W.nsIn K mainGlobals "NoTerm" = some (some (.ref zaw)))
  (d6:ExcBaseFacts B_NoTerm nid_NoTerm ini_NoTerm bm_NoTerm)
  (d7:W.excIn K zaw bm_NoTerm nid_NoTerm=true)
  (d8:W.exmOne K (.ref zaw) (.ref zaw)=some true)
  (iw:W.nsIn K mainGlobals "Open" = some (some (.ref zd2)))
  (gy:ExcBaseFacts B_Open nid_Open ini_Open bm_Open)
  (gz:W.excIn K zd2 bm_Open nid_Open=true)
  (h7:W.exmOne K (.ref zd2) (.ref zd2)=some true)
  (bi:W.nsIn K mainGlobals "RoomError" = some (some (.ref zbk)))
  (a6:ExcBaseFacts B_RoomError nid_RoomError ini_RoomError bm_RoomError)
  (a7:W.excIn K zbk bm_RoomError nid_RoomError=true)
  (a8:W.exmOne K (.ref zbk) (.ref zbk)=some true)
  (i7:W.kitOne K (.type "int") (.type "int")=some true)
  (i8:W.kitOne K (.type "int") (.type "bool")=some false)
  (i9:W.kitOne K (.type "tuple") (.type "tuple")=some true)
  (ja:W.kitOne K (.type "list") (.type "list")=some true)
  (h8:W.findIn K (.ref zal) "__getattribute__" = some (some (.builtin "BaseException.__getattribute__")))
  (h9:W.findIn K (.ref zal) "__getattr__" = some none)
  (ic:W.findIn K (.ref zal) "__class__" = some (some (.builtin "object.__class__")))
  (ig:W.specialIn K (.builtin "object.__class__") "__get__" = some (some (.builtin "getset_descriptor.__get__")))
  (ii:W.takesIn K (.builtin "object.__class__")=some true)
  (ik:W.mroIn K zal (.type "object")=some true)
  (io:W.mroIn K zal (.type "BaseException")=some true)
  (ip:W.hasDictIn K zal=true)
  (jb:W.exmOne K (.ref zal) (.ref zbk)=some true)
  (sj:W.kitOne K (.ref zal) (.ref zck)=some false)
  (sk:W.kitOne K (.ref zal) (.ref zc4)=some false)
  (sr:W.kitOne K (.ref zal) (.ref zd2)=some false)
  (su:W.kitOne K (.ref zal) (.ref zal)=some true)
  (sv:W.kitOne K (.ref zal) (.type "ValueError")=some true)
  (a9:W.nsIn K mainGlobals "ValueError" = some none)
  (jc:W.nsIn K mainGlobals "abs" = some none)
  (jd:W.nsIn K mainGlobals "all" = some none)
  (je:W.nsIn K mainGlobals "any" = some none)
  (ix:W.nsIn K mainGlobals "bool" = some none)
  (iy:W.nsIn K mainGlobals "dict" = some none)
  (jf:W.nsIn K mainGlobals "int" = some none)
  (ba:W.nsIn K mainGlobals "isinstance" = some none)
  (jg:W.nsIn K mainGlobals "len" = some none)
  (iz:W.nsIn K mainGlobals "list" = some none)
  (jh:W.nsIn K mainGlobals "max" = some none)
  (ji:W.nsIn K mainGlobals "min" = some none)
  (iq:W.nsIn K mainGlobals "range" = some none)
  (cy:W.nsIn K mainGlobals "reversed" = some none)
  (gk:W.nsIn K mainGlobals "sorted" = some none)
  (jk:W.nsIn K mainGlobals "sum" = some none)
  (ir:W.nsIn K mainGlobals "tuple" = some none)
  (jl:W.nsIn K mainGlobals "zip" = some none)
  (ae:W.nsIn K mainGlobals "GREATEST_PRIME" = some (some (.int 9973 tg_GREATEST_PRIME)))
  (d9:W.nsIn K mainGlobals "LETTERS" = some (some (.str "xyzt" tg_LETTERS)))
  {cc Pt:Addr} (sw:cd_39 = .ref cc) (vj:W.codeHdIn K cc Pt=true) (vk:K.lookup Pt=none)
  : ∃(cc:Addr) (fd:FuncData),W.codeHdIn K cc Pt=true/\K.lookup Pt=none/\(∀(s:Shared) (v:Value),BindsTo s fd ⟨[v],[]⟩ [("_law_script",v)])/\∀base:Heap,K.In base->base.Ns mainGlobals mg->base.BuiltinsAt mg Pt->FnOk l.prog w K mg base CX0 11 fa fd ["_law_script"] (spLaw K Pt):=by
 have e:=hfa.symm.trans (W.mg_of X G sf)
 cases e
 have T:Txt K mg zam zad zan zai zac zaj zab:=⟨W.mg_none_of X G a9,W.mg_none_of X G jc,W.mg_none_of X G jd,W.mg_none_of X G je,W.mg_none_of X G ix,W.mg_none_of X G iy,W.mg_none_of X G jf,W.mg_none_of X G ba,W.mg_none_of X G jg,W.mg_none_of X G iz,W.mg_none_of X G jh,W.mg_none_of X G ji,W.mg_none_of X G iq,W.mg_none_of X G cy,W.mg_none_of X G gk,W.mg_none_of X G jk,W.mg_none_of X G ir,W.mg_none_of X G jl,⟨gl,gm,gq,gr⟩,W.mg_of X G iu,ak,ah,aj,⟨am,ao,ap,aq⟩,W.mg_of X G bb,aa,⟨ee,en,fc,fe⟩,W.mg_of X G gu,af,⟨fi,fj,fk,fm⟩,W.mg_of X G gv,⟨fq,ft,fu⟩,⟨bj,bn,bo,bp⟩,W.mg_of X G cz,⟨bq,br,bu⟩,⟨fv,fw,fz,f6⟩,W.mg_of X G gw,⟨f7,f8,f9⟩,⟨bv,bw,bx,bz⟩,W.mg_of X G dc,ad,⟨_,W.mg_of X G ae⟩,⟨_,W.mg_of X G d9⟩,i7,i8,i9,ja⟩
 have F_0:=zas (st:=zc7) sy tj
 have b_0:=F_0.binds (ps:=["one","other"]) λ_ _ _ _ _ _ us hl=>match us,hl with | [_,_],_=>rfl
 have F_1:=zas (st:=zcg) tz t6
 have b_1:=F_1.binds (ps:=["one","other"]) λ_ _ _ _ _ _ us hl=>match us,hl with | [_,_],_=>rfl
 have F_2:=zas (st:=zdx) t9 ua
 have b_2:=F_2.binds (ps:=["term"]) λ_ _ _ _ _ _ us hl=>match us,hl with | [_],_=>rfl
 have F_3:=zas (st:=zet) ue uf
 have b_3:=F_3.binds (ps:=["many","at","power"]) λ_ _ _ _ _ _ us hl=>match us,hl with | [_,_,_],_=>rfl
 have F_4:=zas (st:=zb0) ui uj
 have b_4:=F_4.binds (ps:=["self","term"]) λ_ _ _ _ _ _ us hl=>match us,hl with | [_,_],_=>rfl
 have F_5:=zas (st:=zbn) ur uu
 have b_5:=F_5.binds (ps:=["self","term"]) λ_ _ _ _ _ _ us hl=>match us,hl with | [_,_],_=>rfl
 have F_6:=zas (st:=zbw) ux uz
 have b_6:=F_6.binds (ps:=["self","term"]) λ_ _ _ _ _ _ us hl=>match us,hl with | [_,_],_=>rfl
 have F_7:=zas (st:=za3) u7 u8
 have b_7:=F_7.binds (ps:=["self","weights"]) λ_ _ _ _ _ _ us hl=>match us,hl with | [_,_],_=>rfl
 have F_8:=zas (st:=zbm) vb vd
 have b_8:=F_8.binds (ps:=["self","term"]) λ_ _ _ _ _ _ us hl=>match us,hl with | [_,_],_=>rfl
 have F_9:=zas (st:=zb4) vg vh
 have b_9:=F_9.binds (ps:=["self","many"]) λ_ _ _ _ _ _ us hl=>match us,hl with | [_,_],_=>rfl
 have F_10:=zas (st:=zbp) jw jx
 have b_10:=F_10.binds (ps:=["self","many"]) λ_ _ _ _ _ _ us hl=>match us,hl with | [_,_],_=>rfl
 have F_11:=zas (st:=za6) j0 j3
 have b_11:=F_11.binds (ps:=["self","terms"]) λ_ _ _ _ _ _ us hl=>match us,hl with | [_,_],_=>rfl
 have F_12:=zas (st:=zbg) j6 j7
 have b_12:=F_12.binds (ps:=["self","terms"]) λ_ _ _ _ _ _ us hl=>match us,hl with | [_,_],_=>rfl
 have F_13:=zas (st:=zbh) kc ke
 have b_13:=F_13.binds (ps:=["self","many","field","order"]) λ_ _ _ _ _ _ us hl=>match us,hl with | [_,_,_,_],_=>rfl
 have F_14:=zas (st:=zci) ki kj
 have b_14:=F_14.binds (ps:=["self"]) λ_ _ _ _ _ _ us hl=>match us,hl with | [_],_=>rfl
 have F_15:=zas (st:=zcs) ko kq
 have b_15:=F_15.binds (ps:=["number"]) λ_ _ _ _ _ _ us hl=>match us,hl with | [_],_=>rfl
 have F_16:=zas (st:=za8) ku kx
 have b_16:=F_16.binds (ps:=["self","prime"]) λ_ _ _ _ _ _ us hl=>match us,hl with | [_,_],_=>rfl
 have F_17:=zas (st:=zay) k7 k8
 have b_17:=F_17.binds (ps:=["self"]) λ_ _ _ _ _ _ us hl=>match us,hl with | [_],_=>rfl
 have F_18:=zas (st:=za7) ll lq
 have b_18:=F_18.binds (ps:=["self","prime"]) λ_ _ _ _ _ _ us hl=>match us,hl with | [_,_],_=>rfl
 have F_19:=zas (st:=za9) l4 l8
 have b_19:=F_19.binds (ps:=["term","at"]) λ_ _ _ _ _ _ us hl=>match us,hl with | [_,_],_=>rfl
 have F_20:=zas (st:=zbz) md mf
 have b_20:=F_20.binds (ps:=["leads","term"]) λ_ _ _ _ _ _ us hl=>match us,hl with | [_,_],_=>rfl
 have F_21:=zas (st:=zc6) mj ml
 have b_21:=F_21.binds (ps:=["leads","terms"]) λ_ _ _ _ _ _ us hl=>match us,hl with | [_,_],_=>rfl
 have F_22:=zas (st:=za0) mw my
 have b_22:=F_22.binds (ps:=["ring","leads"]) λ_ _ _ _ _ _ us hl=>match us,hl with | [_,_],_=>rfl
 have F_23:=zas (st:=zb3) m5 m6
 have b_23:=F_23.binds (ps:=["ring","terms"]) λ_ _ _ _ _ _ us hl=>match us,hl with | [_,_],_=>rfl
 have F_24:=zas (st:=zb5) m9 ng
 have b_24:=F_24.binds (ps:=["ring","f"]) λ_ _ _ _ _ _ us hl=>match us,hl with | [_,_],_=>rfl
 have F_25:=zas (st:=zdv) nj nw
 have b_25:=F_25.binds (ps:=["ring","base"]) λ_ _ _ _ _ _ us hl=>match us,hl with | [_,_],_=>rfl
 have F_26:=zas (st:=zbo) n5 n6
 have b_26:=F_26.binds (ps:=["_law_script","_law_k"]) λ_ _ _ _ _ _ us hl=>match us,hl with | [_,_],_=>rfl
 have F_27:=zas (st:=zbe) oh oj
 have b_27:=F_27.binds (ps:=["_law_number_here"]) λ_ _ _ _ _ _ us hl=>match us,hl with | [_],_=>rfl
 have F_28:=zas (st:=zby) ou ow
 have b_28:=F_28.binds (ps:=["_law_cell"]) λ_ _ _ _ _ _ us hl=>match us,hl with | [_],_=>rfl
 have F_29:=zas (st:=zb2) oz o0
 have b_29:=F_29.binds (ps:=["_law_p"]) λ_ _ _ _ _ _ us hl=>match us,hl with | [_],_=>rfl
 have F_30:=zas (st:=zcr) o5 o6
 have b_30:=F_30.binds (ps:=["_law_cell","_law_many"]) λ_ _ _ _ _ _ us hl=>match us,hl with | [_,_],_=>rfl
 have F_31:=zas (st:=zb1) o9 pd
 have b_31:=F_31.binds (ps:=["_law_way_here"]) λ_ _ _ _ _ _ us hl=>match us,hl with | [_],_=>rfl
 have F_32:=zas (st:=zbq) p6 p7
 have b_32:=F_32.binds (ps:=["_law_top","_law_bottom"]) λ_ _ _ _ _ _ us hl=>match us,hl with | [_,_],_=>rfl
 have F_33:=zas (st:=zcj) qd qe
 have b_33:=F_33.binds (ps:=["_law_way_here","_law_term"]) λ_ _ _ _ _ _ us hl=>match us,hl with | [_,_],_=>rfl
 have F_34:=zas (st:=zbl) qi qj
 have b_34:=F_34.binds (ps:=["_law_p","_law_cell"]) λ_ _ _ _ _ _ us hl=>match us,hl with | [_,_],_=>rfl
 have F_35:=zas (st:=zce) qm qo
 have b_35:=F_35.binds (ps:=["_law_p","_law_many","_law_cell","_law_fixed"]) λ_ _ _ _ _ _ us hl=>match us,hl with | [_,_,_,_],_=>rfl
 have F_36:=zas (st:=za2) qr qt
 have b_36:=F_36.binds (ps:=["_law_heads","_law_many","_law_at"]) λ_ _ _ _ _ _ us hl=>match us,hl with | [_,_,_],_=>rfl
 have F_37:=zas (st:=zcf) qx qy
 have b_37:=F_37.binds (ps:=["_law_heads","_law_term"]) λ_ _ _ _ _ _ us hl=>match us,hl with | [_,_],_=>rfl
 have F_38:=zas (st:=zch) re rf
 have b_38:=F_38.binds (ps:=["_law_p","_law_many","_law_script"]) λ_ _ _ _ _ _ us hl=>match us,hl with | [_,_,_],_=>rfl
 have F_39:=zas (st:=zcq) ri rj
 have b_39:=F_39.binds (ps:=["_law_way_here","_law_heads","_law_many"]) λ_ _ _ _ _ _ us hl=>match us,hl with | [_,_,_],_=>rfl
 have F_40:=zas (st:=zbx) rn rq
 have b_40:=F_40.binds (ps:=["_law_found"]) λ_ _ _ _ _ _ us hl=>match us,hl with | [_],_=>rfl
 have F_41:=zas (st:=zbd) r8 r9
 have b_41:=F_41.binds (ps:=["_law_found"]) λ_ _ _ _ _ _ us hl=>match us,hl with | [_],_=>rfl
 have F_42:=zas (st:=zgq) sg sh
 have b_42:=F_42.binds (ps:=["_law_script"]) λ_ _ _ _ _ _ us hl=>match us,hl with | [_],_=>rfl
 refine⟨cc,W.fnOf "law" "law" (defArgs zgq) (defBody zgq) (defScope zgq) .none kV_42 dc_42 pm_42 an_42 cd_42 ct_42,vj,vk,λs v => .of_eq rfl,λbase kb nb hBd => ?_⟩
 have hcc:codeOfF K f_39=some cc:=by unfold codeOfF;rw[ri,sw]
 have x_Endless:Exc K mg base "Endless" zal:=⟨⟨_,_,_,_,zd0 kb nb dl ck,cj⟩,W.mg_of X G dl,cm⟩
 have x_NoBase:Exc K mg base "NoBase" zck:=⟨⟨_,_,_,_,zd0 kb nb gc dn,dm⟩,W.mg_of X G gc,dq⟩
 have x_NoBox:Exc K mg base "NoBox" zc4:=⟨⟨_,_,_,_,zd0 kb nb gx gf,gd⟩,W.mg_of X G gx,gg⟩
 have x_NoLead:Exc K mg base "NoLead" zca:=⟨⟨_,_,_,_,zd0 kb nb gh dw,du⟩,W.mg_of X G gh,dy⟩
 have x_NoOrder:Exc K mg base "NoOrder" zcb:=⟨⟨_,_,_,_,zd0 kb nb dz cq,cn⟩,W.mg_of X G dz,cr⟩
 have x_NoPrime:Exc K mg base "NoPrime" zcc:=⟨⟨_,_,_,_,zd0 kb nb d0 cw,cu⟩,W.mg_of X G d0,cx⟩
 have x_NoRing:Exc K mg base "NoRing" zcl:=⟨⟨_,_,_,_,zd0 kb nb gi d4,d3⟩,W.mg_of X G gi,d5⟩
 have x_NoTerm:Exc K mg base "NoTerm" zaw:=⟨⟨_,_,_,_,zd0 kb nb gj d7,d6⟩,W.mg_of X G gj,d8⟩
 have x_Open:Exc K mg base "Open" zd2:=⟨⟨_,_,_,_,zd0 kb nb iw gz,gy⟩,W.mg_of X G iw,h7⟩
 have x_RoomError:Exc K mg base "RoomError" zbk:=⟨⟨_,_,_,_,zd0 kb nb bi a7,a6⟩,W.mg_of X G bi,a8⟩
 have G_Prod:=zph (P:=l.prog) (w:=w) (base:=base) F_0 T 
 have c_Prod:Cal _ _ _ _ _ _ _ _ _ _ _:=⟨_,_,G_Prod,b_0,tu,W.mg_of X G sx⟩
 have G_Goes:=zqx (P:=l.prog) (w:=w) (base:=base) F_1 T 
 have c_Goes:Cal _ _ _ _ _ _ _ _ _ _ _:=⟨_,_,G_Goes,b_1,t7,W.mg_of X G tw⟩
 have G_Deg:=zsj (P:=l.prog) (w:=w) (base:=base) F_2 T 
 have c_Deg:Cal _ _ _ _ _ _ _ _ _ _ _:=⟨_,_,G_Deg,b_2,uc,W.mg_of X G t8⟩
 have G_Alone:=zmu (P:=l.prog) (w:=w) (base:=base) F_3 T 
 have c_Alone:Cal _ _ _ _ _ _ _ _ _ _ _:=⟨_,_,G_Alone,b_3,ug,W.mg_of X G ud⟩
 have m_Rank_Order:MCal l.prog w K mg base CX0 3 zai "rank" ["self","term"] [] (spRank (AtO zai) rkL):=⟨⟨_,_,(zoh (P:=l.prog) (w:=w) (base:=base) F_4 T ).mono (by decide),b_4,⟨de,uh,um⟩⟩,T.cl_Order⟩
 have bm_Order:BM K zai "rank":=⟨⟨_,de,⟨jm,jn,by decide⟩⟩⟩
 have m_Rank_Degrees:MCal l.prog w K mg base CX0 3 zac "rank" ["self","term"] [] (spRank (AtO zac) rkD):=⟨⟨_,_,(zm5 (P:=l.prog) (w:=w) (base:=base) F_5 T c_Deg).mono (by decide),b_5,⟨be,uq,uv⟩⟩,T.cl_Degrees⟩
 have bm_Degrees:BM K zac "rank":=⟨⟨_,be,⟨jo,jq,by decide⟩⟩⟩
 have m_Rank_Tails:MCal l.prog w K mg base CX0 3 zaj "rank" ["self","term"] [] (spRank (AtO zaj) rkT):=⟨⟨_,_,(znf (P:=l.prog) (w:=w) (base:=base) F_6 T c_Deg).mono (by decide),b_6,⟨df,uw,u0⟩⟩,T.cl_Tails⟩
 have bm_Tails:BM K zaj "rank":=⟨⟨_,df,⟨jr,js,by decide⟩⟩⟩
 have G_WInit:=zm8 (P:=l.prog) (w:=w) (base:=base) F_7 T x_NoOrder 
 have k_WInit:Mak _ _ _ _ _ _ _ _ _ _ _ _:=⟨⟨_,_,G_WInit,b_7,⟨b7,bf,u6,b8⟩⟩,T.mg_Weights⟩
 have m_Rank_Weights:∀ws:List Int,Nn ws->(∀x∈ws,x < 10 ^ 31)->MCal l.prog w K mg base CX0 3 zab "rank" ["self","term"] [] (spRank (AtW zab ws) (rkW ws)):=λws h1 h2=>⟨⟨_,_,(zn1 (P:=l.prog) (w:=w) (base:=base) F_8 T h1 h2).mono (by decide),b_8,⟨bg,va,ve⟩⟩,T.cl_Weights⟩
 have bm_Weights:BM K zab "rank":=⟨⟨_,bg,⟨jt,ju,by decide⟩⟩⟩
 have fit_Order:MCal l.prog w K mg base CX0 1 zai "fits" ["self","many"] [] (spFits (AtO zai) λ_=>true):=⟨⟨_,_,zge (P:=l.prog) (w:=w) (base:=base) (At:=AtO zai) F_9 T,b_9,⟨dg,vf,vi⟩⟩,T.cl_Order⟩
 have fit_Degrees:MCal l.prog w K mg base CX0 1 zac "fits" ["self","many"] [] (spFits (AtO zac) λ_=>true):=⟨⟨_,_,zge (P:=l.prog) (w:=w) (base:=base) (At:=AtO zac) F_9 T,b_9,⟨bh,vf,vi⟩⟩,T.cl_Degrees⟩
 have fit_Tails:MCal l.prog w K mg base CX0 1 zaj "fits" ["self","many"] [] (spFits (AtO zaj) λ_=>true):=⟨⟨_,_,zge (P:=l.prog) (w:=w) (base:=base) (At:=AtO zaj) F_9 T,b_9,⟨di,vf,vi⟩⟩,T.cl_Tails⟩
 have fit_Weights:∀ws:List Int,MCal l.prog w K mg base CX0 1 zab "fits" ["self","many"] [] (spFits (AtW zab ws) λk=>decide ((ws.length:Int)=k)):=λws=>⟨⟨_,_,zn3 (P:=l.prog) (w:=w) (base:=base) (ws:=ws) F_10 T,b_10,⟨av,jv,jy⟩⟩,T.cl_Weights⟩
 have first_Order:MCal l.prog w K mg base (CXe l.prog w) 6 zai "first_of" ["self","terms"] [] (spFirst (AtO zai) rkL zaw):=⟨⟨_,_,ze6 (P:=l.prog) (w:=w) (base:=base) F_11 T x_NoTerm (ordcO _) m_Rank_Order bm_Order,b_11,⟨b9,jz,j4⟩⟩,T.cl_Order⟩
 have first_Degrees:MCal l.prog w K mg base (CXe l.prog w) 6 zac "first_of" ["self","terms"] [] (spFirst (AtO zac) rkD zaw):=⟨⟨_,_,ze6 (P:=l.prog) (w:=w) (base:=base) F_11 T x_NoTerm (ordcO _) m_Rank_Degrees bm_Degrees,b_11,⟨aw,jz,j4⟩⟩,T.cl_Degrees⟩
 have first_Tails:MCal l.prog w K mg base (CXe l.prog w) 6 zaj "first_of" ["self","terms"] [] (spFirst (AtO zaj) rkT zaw):=⟨⟨_,_,ze6 (P:=l.prog) (w:=w) (base:=base) F_11 T x_NoTerm (ordcO _) m_Rank_Tails bm_Tails,b_11,⟨cb,jz,j4⟩⟩,T.cl_Tails⟩
 have first_Weights:∀ws:List Int,Nn ws->(∀x∈ws,x < 10 ^ 31)->MCal l.prog w K mg base (CXe l.prog w) 6 zab "first_of" ["self","terms"] [] (spFirst (AtW zab ws) (rkW ws) zaw):=λws h1 h2=>⟨⟨_,_,ze6 (P:=l.prog) (w:=w) (base:=base) F_11 T x_NoTerm (ordcW _ _) (m_Rank_Weights ws h1 h2) bm_Weights,b_11,⟨ay,jz,j4⟩⟩,T.cl_Weights⟩
 have fall_Order:MCal l.prog w K mg base CX0 6 zai "falling" ["self","terms"] [] (spFall (AtO zai) rkL):=⟨⟨_,_,zgb (P:=l.prog) (w:=w) (base:=base) F_12 T (ordcO _) m_Rank_Order bm_Order (λxs h=>h.ne),b_12,⟨ce,j5,j8⟩⟩,T.cl_Order⟩
 have fall_Degrees:MCal l.prog w K mg base CX0 6 zac "falling" ["self","terms"] [] (spFall (AtO zac) rkD):=⟨⟨_,_,zgb (P:=l.prog) (w:=w) (base:=base) F_12 T (ordcO _) m_Rank_Degrees bm_Degrees (λ_ _=>List.cons_ne_nil _ _),b_12,⟨az,j5,j8⟩⟩,T.cl_Degrees⟩
 have fall_Tails:MCal l.prog w K mg base CX0 6 zaj "falling" ["self","terms"] [] (spFall (AtO zaj) rkT):=⟨⟨_,_,zgb (P:=l.prog) (w:=w) (base:=base) F_12 T (ordcO _) m_Rank_Tails bm_Tails (λ_ _=>List.cons_ne_nil _ _),b_12,⟨cg,j5,j8⟩⟩,T.cl_Tails⟩
 have fall_Weights:∀ws:List Int,Nn ws->(∀x∈ws,x < 10 ^ 31)->MCal l.prog w K mg base CX0 6 zab "falling" ["self","terms"] [] (spFall (AtW zab ws) (rkW ws)):=λws h1 h2=>⟨⟨_,_,zgb (P:=l.prog) (w:=w) (base:=base) F_12 T (ordcW _ _) (m_Rank_Weights ws h1 h2) bm_Weights (λ_ _=>List.cons_ne_nil _ _),b_12,⟨a5,j5,j8⟩⟩,T.cl_Weights⟩
 have hord:∀(kd:Int) (ws:List Int),0<=kd->kd < 4->Nn ws->(∀x∈ws,x < 10 ^ 31)->∃C,OrdE l.prog w K mg base zaw C (AtK zai zac zaj zab kd ws) (rkk kd ws) (fbK kd ws):=by
  intro kd ws k0 k4 wn wb
  rcases(by omega:kd=0\/kd=1\/kd=2\/kd=3) with rfl | rfl | rfl | rfl
  ·rw[show rkk 0 ws=rkL from funext λxs=>by unfold rkk;simp,show fbK 0 ws=λ_=>true from funext λm=>by unfold fbK;simp]
   show ∃C,OrdE l.prog w K mg base zaw C (AtO zai) rkL _
   exact⟨zai,ordcO _,fit_Order,fall_Order,first_Order⟩
  ·rw[show rkk 1 ws=rkD from funext λxs=>by unfold rkk;simp,show fbK 1 ws=λ_=>true from funext λm=>by unfold fbK;simp]
   show ∃C,OrdE l.prog w K mg base zaw C (AtO zac) rkD _
   exact⟨zac,ordcO _,fit_Degrees,fall_Degrees,first_Degrees⟩
  ·rw[show rkk 2 ws=rkT from funext λxs=>by unfold rkk;simp,show fbK 2 ws=λ_=>true from funext λm=>by unfold fbK;simp]
   show ∃C,OrdE l.prog w K mg base zaw C (AtO zaj) rkT _
   exact⟨zaj,ordcO _,fit_Tails,fall_Tails,first_Tails⟩
  ·rw[show rkk 3 ws=rkW ws from funext λxs=>by unfold rkk;simp,show fbK 3 ws=λm=>decide ((ws.length:Int)=m) from funext λm=>by unfold fbK;simp]
   show ∃C,OrdE l.prog w K mg base zaw C (AtW zab ws) (rkW ws) _
   exact⟨zab,ordcW _ _,fit_Weights ws,fall_Weights ws wn wb,first_Weights ws wn wb⟩
 have G_RgInit:=zli (P:=l.prog) (w:=w) (base:=base) F_13 T x_NoRing hord
 have k_RgInit:Mak _ _ _ _ _ _ _ _ _ _ _ _:=⟨⟨_,_,G_RgInit,b_13,⟨gs,dj,j9,gt⟩⟩,T.mg_Ring⟩
 have G_Unit:=zpz (P:=l.prog) (w:=w) (base:=base) F_14 T 
 have m_Unit:MCal _ _ _ _ _ _ _ _ _ _ _ _:=⟨⟨_,_,G_Unit,b_14,⟨dk,kh,kl⟩⟩,T.cl_Ring⟩
 have G_Prime:=zn8 (P:=l.prog) (w:=w) (base:=base) F_15 T 
 have c_Prime:Cal _ _ _ _ _ _ _ _ _ _ _:=⟨_,_,G_Prime,b_15,kr,W.mg_of X G km⟩
 have G_FieldInit:=zht (P:=l.prog) (w:=w) (base:=base) F_16 T 
 have q_FieldInit:CCal _ _ _ _ _ _ _ _ _ _ _ _:=⟨_,_,_,G_FieldInit,b_16,⟨⟨_,i4,i5⟩,i6,kz⟩,W.mg_of X G i3⟩
 have G_FracInit:=zii (P:=l.prog) (w:=w) (base:=base) F_17 T q_FieldInit 
 have k_FracInit:Mak _ _ _ _ _ _ _ _ _ _ _ _:=⟨⟨_,_,G_FracInit,b_17,⟨ar,ag,k6,au⟩⟩,T.mg_Fractions⟩
 have G_RestsInit:=zhe (P:=l.prog) (w:=w) (base:=base) F_18 T c_Prime q_FieldInit x_NoPrime 
 have k_RestsInit:Mak _ _ _ _ _ _ _ _ _ _ _ _:=⟨⟨_,_,G_RestsInit,b_18,⟨fg,ci,lg,fh⟩⟩,T.mg_Rests⟩
 have G_PA:=zsq (P:=l.prog) (w:=w) (base:=base) F_19 T c_Deg 
 have c_PA:Cal _ _ _ _ _ _ _ _ _ _ _:=⟨_,_,G_PA,b_19,l9,W.mg_of X G lv⟩
 have G_Out1:=zpw (P:=l.prog) (w:=w) (base:=base) F_20 T c_Goes 
 have c_Out1:Cal _ _ _ _ _ _ _ _ _ _ _:=⟨_,_,G_Out1,b_20,mh,W.mg_of X G ma⟩
 have G_Outs:=zqf (P:=l.prog) (w:=w) (base:=base) F_21 T c_Out1 
 have c_Outs:Cal _ _ _ _ _ _ _ _ _ _ _:=⟨_,_,G_Outs,b_21,mr,W.mg_of X G mi⟩
 have G_End:=zrx (P:=l.prog) (w:=w) (base:=base) F_22 T c_PA x_Endless 
 have c_End:Cal _ _ _ _ _ _ _ _ _ _ _:=⟨_,_,G_End,b_22,mz,W.mg_of X G mv⟩
 have G_Steps:=zmw (P:=l.prog) (w:=w) (base:=base) F_23 T c_Alone c_Prod 
 have c_Steps:Cal _ _ _ _ _ _ _ _ _ _ _:=⟨_,_,G_Steps,b_23,m7,W.mg_of X G m3⟩
 have G_FT:=zsn (P:=l.prog) (w:=w) (base:=base) F_24 T x_NoLead hord
 have c_FT:Cal _ _ _ _ _ _ _ _ _ _ _:=⟨_,_,G_FT,b_24,nh,W.mg_of X G m8⟩
 have G_Cor:=zrs (P:=l.prog) (w:=w) (base:=base) F_25 T c_FT c_End m_Unit c_Outs c_Steps hord
 have cCor:Cal _ _ _ _ _ _ _ _ _ _ _:=⟨_,_,G_Cor,b_25,ny,W.mg_of X G ni⟩
 have G_Cell:=zqn (P:=l.prog) (w:=w) (base:=base) F_26 T 
 have c_Cell:Cal _ _ _ _ _ _ _ _ _ _ _:=⟨_,_,G_Cell,b_26,n8,W.mg_of X G n4⟩
 have G_LPrime:=zl1 (P:=l.prog) (w:=w) (base:=base) F_27 T 
 have c_LPrime:Cal _ _ _ _ _ _ _ _ _ _ _:=⟨_,_,G_LPrime,b_27,om,W.mg_of X G n9⟩
 have G_LPr:=zrv (P:=l.prog) (w:=w) (base:=base) F_28 T c_LPrime 
 have c_LPr:Cal _ _ _ _ _ _ _ _ _ _ _:=⟨_,_,G_LPr,b_28,ox,W.mg_of X G ot⟩
 have G_LFld:=zpy (P:=l.prog) (w:=w) (base:=base) F_29 T k_RestsInit k_FracInit 
 have c_LFld:Cal _ _ _ _ _ _ _ _ _ _ _:=⟨_,_,G_LFld,b_29,o3,W.mg_of X G oy⟩
 have G_Way:=zsg (P:=l.prog) (w:=w) (base:=base) F_30 T 
 have c_Way:Cal _ _ _ _ _ _ _ _ _ _ _:=⟨_,_,G_Way,b_30,o7,W.mg_of X G o4⟩
 have G_LOrd:=zrb (P:=l.prog) (w:=w) (base:=base) F_31 T k_WInit 
 have c_LOrd:Cal _ _ _ _ _ _ _ _ _ _ _:=⟨_,_,G_LOrd,b_31,pe,W.mg_of X G o8⟩
 have G_Red:=zrh (P:=l.prog) (w:=w) (base:=base) F_32 T 
 have c_Red:Cal _ _ _ _ _ _ _ _ _ _ _:=⟨_,_,G_Red,b_32,p9,W.mg_of X G ph⟩
 have G_LRank:=zmv (P:=l.prog) (w:=w) (base:=base) F_33 T 
 have c_LRank:Cal _ _ _ _ _ _ _ _ _ _ _:=⟨_,_,G_LRank,b_33,qg,W.mg_of X G qc⟩
 have G_Nz:=zsr (P:=l.prog) (w:=w) (base:=base) F_34 T c_Red 
 have c_Nz:Cal _ _ _ _ _ _ _ _ _ _ _:=⟨_,_,G_Nz,b_34,qk,W.mg_of X G qh⟩
 have G_Mono:=zpi (P:=l.prog) (w:=w) (base:=base) F_35 T c_Nz 
 have c_Mono:Cal _ _ _ _ _ _ _ _ _ _ _:=⟨_,_,G_Mono,b_35,qp,W.mg_of X G ql⟩
 have G_Lst:=zsi (P:=l.prog) (w:=w) (base:=base) F_36 T 
 have c_Lst:Cal _ _ _ _ _ _ _ _ _ _ _:=⟨_,_,G_Lst,b_36,qu,W.mg_of X G qq⟩
 have G_Free:=zpp (P:=l.prog) (w:=w) (base:=base) F_37 T 
 have c_Free:Cal _ _ _ _ _ _ _ _ _ _ _:=⟨_,_,G_Free,b_37,qz,W.mg_of X G qv⟩
 have G_Rows:=zo8 (P:=l.prog) (w:=w) (base:=base) F_38 T c_Cell c_Mono c_Nz 
 have c_Rows:Cal _ _ _ _ _ _ _ _ _ _ _:=⟨_,_,G_Rows,b_38,rg,W.mg_of X G rc⟩
 have G_Due:=zrp (P:=l.prog) (w:=w) (base:=base) F_39 T c_Lst c_Free hcc (W.codeHd_of_K kb vj) hBd c_LRank
 have cDue:Cal _ _ _ _ _ _ _ _ _ _ _:=⟨_,_,G_Due,b_39,rl,W.mg_of X G rh⟩
 have G_Whole:=zm1 (P:=l.prog) (w:=w) (base:=base) F_40 T 
 have c_Whole:Cal _ _ _ _ _ _ _ _ _ _ _:=⟨_,_,G_Whole,b_40,rz,W.mg_of X G rm⟩
 have G_IsT:=zsf (P:=l.prog) (w:=w) (base:=base) F_41 T c_Whole 
 have c_IsT:Cal _ _ _ _ _ _ _ _ _ _ _:=⟨_,_,G_IsT,b_41,se,W.mg_of X G r6⟩
 exact zr0 (P:=l.prog) (w:=w) (base:=base) F_42 T c_Cell c_LPr c_Way c_Rows c_LFld c_LOrd k_RgInit c_IsT x_RoomError x_NoBase x_NoBox x_Open x_Endless hord cCor cDue jb ⟨h8,h9,ic,ig,ii,ik,io,ip⟩ sj sk sr su sv
theorem walk{l:W.OpenLaw}{q:Program}{loose:List Str}{XP:(Str->Option Value)->Heap->Prop}{YP:World->Heap->Prop}{d:DefRec}{K:Params->W.Frag}(hn:l.most=some 63)(hdf:d.params.defaults=[])
  (hY:∀(w:World) (h:Heap),YP w h->(K w.params).In h) (Pt:Addr) (hT:∀(w:World) (h:Heap),YP w h->h.get? Pt=some (W.tabObj #[]))
  (F:∀(w:World) (mg:Str->Option Value) (fa:Addr) (h:Heap),(K w.params).In h->h.Ns mainGlobals mg->mg d.name=some (.ref fa) ->
   ∃(cc:Addr) (fd:FuncData),W.codeHdIn (K w.params) cc Pt=true/\(K w.params).lookup Pt=none/\(∀(s:Shared) (u:Value),BindsTo s fd ⟨[u],[]⟩ [("_law_script",u)])/\∀base:Heap,(K w.params).In base->base.Ns mainGlobals mg->base.BuiltinsAt mg Pt->FnOk l.prog w (K w.params) mg base CX0 11 fa fd ["_law_script"] (spLaw (K w.params) Pt)) :
  W.WalkO q loose XP YP l.row.toRowW d [] (λf vs=>PySem.call f vs):=
 L2.walk_ofT (n:=63) (k:=11) (x:="_law_script") (CX:=λ_=>CX0) (sp:=λw Pt=>spLaw (K w.params) Pt) hn (by decide) hdf ⟨rfl,by decide,by decide⟩ hY Pt hT F (λ_ _ a ns hl hO hS=>⟨a,ns,rfl,hS,hl,hO.2,λ_=>rfl⟩) λ_ _ _ _ _ z=>z
end K6
open PySem PySem.W PyProof.Rows
set_option maxRecDepth 100000 in
set_option maxHeartbeats 0 in
theorem PySem.Challenge.cw_idealroom_k37_corner_holds : PySem.Challenge.rw_idealroom_k37_corner.Holds := by
 w_on;o_law;k_head;(case hw=>w_witness2)
 k_fill
 refine K6.walk (l:=PySem.Challenge.rw_idealroom_k37_corner) rfl rfl (λw h Y=>W.km_in_of Y) _ (λw h Y=>W.km_tabs_of Y _ (List.Mem.head _)) ?F
 case F=>
  intro w mg fa h KX G hmg
  refine' K6.all_mk KX G hmg ?iu ?gl ?gm ?gq ?gr ?gs ?gt ?ak ?ah ?aj ?bb ?am ?ao ?ap ?aq ?ar ?au ?aa ?gu ?ee ?en ?fc ?fe ?fg ?fh ?af ?gv ?fi ?fj ?fk ?fm ?fq ?ft ?fu ?cz ?bj ?bn ?bo ?bp ?bq ?br ?bu ?gw ?fv ?fw ?fz ?f6 ?f7 ?f8 ?f9 ?dc ?bv ?bw ?bx ?bz ?b7 ?b8 ?ad ?sx ?sy ?tj ?tu ?tw ?tz ?t6 ?t7 ?t8 ?t9 ?ua ?uc ?ud ?ue ?uf ?ug ?de ?uh ?jm ?jn ?ui ?uj ?um ?be ?uq ?jo ?jq ?ur ?uu ?uv ?df ?uw ?jr ?js ?ux ?uz ?u0 ?bf ?u6 ?u7 ?u8 ?u9 ?bg ?va ?jt ?ju ?vb ?vd ?ve ?bh ?dg ?di ?vf ?vg ?vh ?vi ?av ?jv ?jw ?jx ?jy ?aw ?b9 ?cb ?ay ?jz ?j0 ?j3 ?j4 ?az ?ce ?cg ?a5 ?j5 ?j6 ?j7 ?j8 ?dj ?j9 ?kc ?ke ?kf ?dk ?kh ?ki ?kj ?kl ?km ?ko ?kq ?kr ?i3 ?i4 ?i5 ?i6 ?kt ?ku ?kx ?kz ?ag ?k6 ?k7 ?k8 ?k9 ?ci ?lg ?ll ?lq ?lr ?lv ?l4 ?l8 ?l9 ?ma ?md ?mf ?mh ?mi ?mj ?ml ?mr ?mv ?mw ?my ?mz ?m3 ?m5 ?m6 ?m7 ?m8 ?m9 ?ng ?nh ?ni ?nj ?nw ?ny ?n4 ?n5 ?n6 ?n8 ?n9 ?oh ?oj ?om ?ot ?ou ?ow ?ox ?oy ?oz ?o0 ?o3 ?o4 ?o5 ?o6 ?o7 ?o8 ?o9 ?pd ?pe ?ph ?p6 ?p7 ?p9 ?qc ?qd ?qe ?qg ?qh ?qi ?qj ?qk ?ql ?qm ?qo ?qp ?qq ?qr ?qt ?qu ?qv ?qx ?qy ?qz ?rc ?re ?rf ?rg ?rh ?ri ?rj ?rl ?rm ?rn ?rq ?rz ?r6 ?r8 ?r9 ?se ?sf ?sg ?sh ?si ?dl ?cj ?ck ?cm ?gc ?dm ?dn ?dq ?gx ?gd ?gf ?gg ?gh ?du ?dw ?dy ?dz ?cn ?cq ?cr ?d0 ?cu ?cw ?cx ?gi ?d3 ?d4 ?d5 ?gj ?d6 ?d7 ?d8 ?iw ?gy ?gz ?h7 ?bi ?a6 ?a7 ?a8 ?i7 ?i8 ?i9 ?ja ?h8 ?h9 ?ic ?ig ?ii ?ik ?io ?ip ?jb ?sj ?sk ?sr ?su ?sv ?a9 ?jc ?jd ?je ?ix ?iy ?jf ?ba ?jg ?iz ?jh ?ji ?iq ?cy ?gk ?jk ?ir ?jl ?ae ?d9 ?sw ?vj ?vk
  (case iu=>k_is)
  (case gl=>k_is)
  (case gm=>k_is)
  (case gq=>k_is)
  (case gr=>k_is)
  (case gs=>k_is)
  (case gt=>k_is)
  (case ak=>k_is)
  (case ah=>k_is)
  (case aj=>k_is)
  (case bb=>k_is)
  (case am=>k_is)
  (case ao=>k_is)
  (case ap=>k_is)
  (case aq=>k_is)
  (case ar=>k_is)
  (case au=>k_is)
  (case aa=>k_is)
  (case gu=>k_is)
  (case ee=>k_is)
  (case en=>k_is)
  (case fc=>k_is)
  (case fe=>k_is)
  (case fg=>k_is)
  (case fh=>k_is)
  (case af=>k_is)
  (case gv=>k_is)
  (case fi=>k_is)
  (case fj=>k_is)
  (case fk=>k_is)
  (case fm=>k_is)
  (case fq=>k_is)
  (case ft=>k_is)
  (case fu=>k_is)
  (case cz=>k_is)
  (case bj=>k_is)
  (case bn=>k_is)
  (case bo=>k_is)
  (case bp=>k_is)
  (case bq=>k_is)
  (case br=>k_is)
  (case bu=>k_is)
  (case gw=>k_is)
  (case fv=>k_is)
  (case fw=>k_is)
  (case fz=>k_is)
  (case f6=>k_is)
  (case f7=>k_is)
  (case f8=>k_is)
  (case f9=>k_is)
  (case dc=>k_is)
  (case bv=>k_is)
  (case bw=>k_is)
  (case bx=>k_is)
  (case bz=>k_is)
  (case b7=>k_is)
  (case b8=>k_is)
  (case ad=>k_is)
  (case sx=>k_is)
  (case sy=>k_is)
  (case tj=>k_is)
  (case tu=>k_is)
  (case tw=>k_is)
  (case tz=>k_is)
  (case t6=>k_is)
  (case t7=>k_is)
  (case t8=>k_is)
  (case t9=>k_is)
  (case ua=>k_is)
  (case uc=>k_is)
  (case ud=>k_is)
  (case ue=>k_is)
  (case uf=>k_is)
  (case ug=>k_is)
  (case de=>k_is)
  (case uh=>k_is)
  (case jm=>k_is)
  (case jn=>k_is)
  (case ui=>k_is)
  (case uj=>k_is)
  (case um=>k_is)
  (case be=>k_is)
  (case uq=>k_is)
  (case jo=>k_is)
  (case jq=>k_is)
  (case ur=>k_is)
  (case uu=>k_is)
  (case uv=>k_is)
  (case df=>k_is)
  (case uw=>k_is)
  (case jr=>k_is)
  (case js=>k_is)
  (case ux=>k_is)
  (case uz=>k_is)
  (case u0=>k_is)
  (case bf=>k_is)
  (case u6=>k_is)
  (case u7=>k_is)
  (case u8=>k_is)
  (case u9=>k_is)
  (case bg=>k_is)
  (case va=>k_is)
  (case jt=>k_is)
  (case ju=>k_is)
  (case vb=>k_is)
  (case vd=>k_is)
  (case ve=>k_is)
  (case bh=>k_is)
  (case dg=>k_is)
  (case di=>k_is)
  (case vf=>k_is)
  (case vg=>k_is)
  (case vh=>k_is)
  (case vi=>k_is)
  (case av=>k_is)
  (case jv=>k_is)
  (case jw=>k_is)
  (case jx=>k_is)
  (case jy=>k_is)
  (case aw=>k_is)
  (case b9=>k_is)
  (case cb=>k_is)
  (case ay=>k_is)
  (case jz=>k_is)
  (case j0=>k_is)
  (case j3=>k_is)
  (case j4=>k_is)
  (case az=>k_is)
  (case ce=>k_is)
  (case cg=>k_is)
  (case a5=>k_is)
  (case j5=>k_is)
  (case j6=>k_is)
  (case j7=>k_is)
  (case j8=>k_is)
  (case dj=>k_is)
  (case j9=>k_is)
  (case kc=>k_is)
  (case ke=>k_is)
  (case kf=>k_is)
  (case dk=>k_is)
  (case kh=>k_is)
  (case ki=>k_is)
  (case kj=>k_is)
  (case kl=>k_is)
  (case km=>k_is)
  (case ko=>k_is)
  (case kq=>k_is)
  (case kr=>k_is)
  (case i3=>k_is)
  (case i4=>k_is)
  (case i5=>k_is)
  (case i6=>k_is)
  (case kt=>k_is)
  (case ku=>k_is)
  (case kx=>k_is)
  (case kz=>k_is)
  (case ag=>k_is)
  (case k6=>k_is)
  (case k7=>k_is)
  (case k8=>k_is)
  (case k9=>k_is)
  (case ci=>k_is)
  (case lg=>k_is)
  (case ll=>k_is)
  (case lq=>k_is)
  (case lr=>k_is)
  (case lv=>k_is)
  (case l4=>k_is)
  (case l8=>k_is)
  (case l9=>k_is)
  (case ma=>k_is)
  (case md=>k_is)
  (case mf=>k_is)
  (case mh=>k_is)
  (case mi=>k_is)
  (case mj=>k_is)
  (case ml=>k_is)
  (case mr=>k_is)
  (case mv=>k_is)
  (case mw=>k_is)
  (case my=>k_is)
  (case mz=>k_is)
  (case m3=>k_is)
  (case m5=>k_is)
  (case m6=>k_is)
  (case m7=>k_is)
  (case m8=>k_is)
  (case m9=>k_is)
  (case ng=>k_is)
  (case nh=>k_is)
  (case ni=>k_is)
  (case nj=>k_is)
  (case nw=>k_is)
  (case ny=>k_is)
  (case n4=>k_is)
  (case n5=>k_is)
  (case n6=>k_is)
  (case n8=>k_is)
  (case n9=>k_is)
  (case oh=>k_is)
  (case oj=>k_is)
  (case om=>k_is)
  (case ot=>k_is)
  (case ou=>k_is)
  (case ow=>k_is)
  (case ox=>k_is)
  (case oy=>k_is)
  (case oz=>k_is)
  (case o0=>k_is)
  (case o3=>k_is)
  (case o4=>k_is)
  (case o5=>k_is)
  (case o6=>k_is)
  (case o7=>k_is)
  (case o8=>k_is)
  (case o9=>k_is)
  (case pd=>k_is)
  (case pe=>k_is)
  (case ph=>k_is)
  (case p6=>k_is)
  (case p7=>k_is)
  (case p9=>k_is)
  (case qc=>k_is)
  (case qd=>k_is)
  (case qe=>k_is)
  (case qg=>k_is)
  (case qh=>k_is)
  (case qi=>k_is)
  (case qj=>k_is)
  (case qk=>k_is)
  (case ql=>k_is)
  (case qm=>k_is)
  (case qo=>k_is)
  (case qp=>k_is)
  (case qq=>k_is)
  (case qr=>k_is)
  (case qt=>k_is)
  (case qu=>k_is)
  (case qv=>k_is)
  (case qx=>k_is)
  (case qy=>k_is)
  (case qz=>k_is)
  (case rc=>k_is)
  (case re=>k_is)
  (case rf=>k_is)
  (case rg=>k_is)
  (case rh=>k_is)
  (case ri=>k_is)
  (case rj=>k_is)
  (case rl=>k_is)
  (case rm=>k_is)
  (case rn=>k_is)
  (case rq=>k_is)
  (case rz=>k_is)
  (case r6=>k_is)
  (case r8=>k_is)
  (case r9=>k_is)
  (case se=>k_is)
  (case sf=>k_is)
  (case sg=>k_is)
  (case sh=>k_is)
  (case si=>k_is)
  (case dl=>k_is)
  (case cj=>exact PySem.F.excBase_ValueError)
  (case ck=>k_exc)
  (case cm=>kts_exm)
  (case gc=>k_is)
  (case dm=>exact PySem.F.excBase_ValueError)
  (case dn=>k_exc)
  (case dq=>kts_exm)
  (case gx=>k_is)
  (case gd=>exact PySem.F.excBase_ValueError)
  (case gf=>k_exc)
  (case gg=>kts_exm)
  (case gh=>k_is)
  (case du=>exact PySem.F.excBase_ValueError)
  (case dw=>k_exc)
  (case dy=>kts_exm)
  (case dz=>k_is)
  (case cn=>exact PySem.F.excBase_ValueError)
  (case cq=>k_exc)
  (case cr=>kts_exm)
  (case d0=>k_is)
  (case cu=>exact PySem.F.excBase_ValueError)
  (case cw=>k_exc)
  (case cx=>kts_exm)
  (case gi=>k_is)
  (case d3=>exact PySem.F.excBase_ValueError)
  (case d4=>k_exc)
  (case d5=>kts_exm)
  (case gj=>k_is)
  (case d6=>exact PySem.F.excBase_ValueError)
  (case d7=>k_exc)
  (case d8=>kts_exm)
  (case iw=>k_is)
  (case gy=>exact PySem.F.excBase_ValueError)
  (case gz=>k_exc)
  (case h7=>kts_exm)
  (case bi=>k_is)
  (case a6=>exact PySem.F.excBase_ValueError)
  (case a7=>k_exc)
  (case a8=>kts_exm)
  (case i7=>kit_is)
  (case i8=>kit_is)
  (case i9=>kit_is)
  (case ja=>kit_is)
  (case h8=>k_is)
  (case h9=>k_is)
  (case ic=>k_is)
  (case ig=>k_is)
  (case ii=>k_is)
  (case ik=>k_is)
  (case io=>k_is)
  (case ip=>k_is)
  (case jb=>kts_exm)
  (case sj=>kit_is)
  (case sk=>kit_is)
  (case sr=>kit_is)
  (case su=>kit_is)
  (case sv=>kit_is)
  (case a9=>k_is)
  (case jc=>k_is)
  (case jd=>k_is)
  (case je=>k_is)
  (case ix=>k_is)
  (case iy=>k_is)
  (case jf=>k_is)
  (case ba=>k_is)
  (case jg=>k_is)
  (case iz=>k_is)
  (case jh=>k_is)
  (case ji=>k_is)
  (case iq=>k_is)
  (case cy=>k_is)
  (case gk=>k_is)
  (case jk=>k_is)
  (case ir=>k_is)
  (case jl=>k_is)
  (case ae=>k_is)
  (case d9=>k_is)
  (case sw=>exact rfl)
  (case vj=>kernel_rfl)
  (case vk=>kernel_rfl)
#print axioms PySem.Challenge.cw_idealroom_k37_corner_holds
