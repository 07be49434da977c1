import PyProof.Rows.All
import Wide.All
import OpenK.AllK
import Wide.FinOn
import Lean
import PyProof.EqAt
import PyProof.EqKinds
import PyProof.TupleCall
import KE.KSortTup
import KE.KLam
import KE.KNestM
import KE.KDictList
import PyProof.ExcArgsOwn
import PyProof.NsDelKeeps
import KE.KIntText
import PyProof.StrCalls6
import PyProof.StrLawsReplace
import PyProof.StrLoop
import PyProof.StrWalks
import PyProof.StrCalls2
import PyProof.StrOps2
import PyProof.EnumMake
import PyProof.StrOps
import PySem.Challenge.RW_idealroom_k14_texts_mean_sums
set_option maxHeartbeats 0
set_option Elab.async false
set_option linter.all false
set_option maxRecDepth 100000
theorem Z.{u}{α:Sort u}{a:α}:a=a:=rfl
section
open PySem PyProof.Rows
abbrev Ya:=@wpAny_bind
abbrev Yb:=@wpAny_pure
abbrev Yc:=@List.getElem?_eq_getElem
abbrev Yd:=@List.length_map
abbrev Ye:=@Heap.get?_push_of_some
abbrev Yf:=@Nat.lt_of_lt_of_le
abbrev Yg:=@List.mem_append_right
abbrev Yh:=@if_neg
abbrev Yi:=@Nat.le_refl
abbrev Yj:=@List.mem_cons
abbrev Yk:=@Heap.get?_push_size
abbrev Yl:=@if_pos
abbrev Ym:=@List.getElem?_map
abbrev Yn:=@Heap.lt_size
abbrev Yo:=@decide_eq_true
abbrev Yp:=@Nat.lt_of_le_of_lt
abbrev Yq:=@List.mem_singleton
abbrev Yr:=@Nat.le_trans
abbrev Ys:=@List.size_toArray
abbrev Yt:=@Bool.false_ne_true
abbrev Yu:=@List.filter_eq_self
abbrev Yv:=@Nat.pow_le_pow_right
abbrev Yw:=@decide_eq_false
abbrev Yx:=@List.mem_of_getElem?
abbrev Yy:=@List.getElem?_eq_none
abbrev Yz:=@List.map_cons
abbrev Y0:=@Nat.ne_of_lt
abbrev Y1:=@Int.toNat_natCast
abbrev Y2:=@Nat.zero_le
abbrev Y3:=@Int.mul_le_mul_of_nonneg_left
abbrev Y4:=@Nat.mul_le_mul_right
abbrev Y5:=@List.length_cons
abbrev Y6:=@List.length_append
abbrev Y7:=@wpAny_dictEntries
abbrev Y8:=@wpAny_call_entry
abbrev Y9:=@List.not_mem_nil
abbrev Ja:=@wpAny_callSpecial?_slot
abbrev Jb:=@Ne.symm
abbrev Jc:=@Int.emod_lt_of_pos
abbrev Jd:=@False.elim
abbrev Je:=@Option.some.inj
abbrev Jf:=@Nat.lt_or_ge
abbrev Jg:=@List.map_map
abbrev Jh:=@List.mem_map
abbrev Ji:=@of_decide_eq_true
abbrev Jj:=@wpAny_field
abbrev Jk:=@List.lookup_cons
abbrev Jl:=@Int.emod_nonneg
abbrev Jm:=@wpAny_newObj_type
abbrev Jn:=@wpAny_setField_rec
abbrev Jo:=@wpAny_truthy_bool
abbrev Jp:=@wpAny_holding
abbrev Jq:=@wpAny_seqItems
abbrev Jr:=@List.mem_append
abbrev Js:=@List.getElem_mem
abbrev Jt:=@congrArg
abbrev Ju:=@eq_of_beq
abbrev Jv:=@Bool.and_eq_true
end
namespace L2
open PySem PySem.Spec PyProof.Rows
abbrev Key:=Sum Int Str
def zlu:Key->Value->Bool
 | .inl k,v=>Value.isInt k v
 | .inr x,v=>Value.isStrOf x v
def keyH(w:World):Key->Int
 | .inl k=>hashInt k
 | .inr x=>hashStr w x
theorem zbh:∀{k:Key} {v:Value},zlu k v=true->(∃i t,k=Sum.inl i/\v=Value.int i t)\/(∃x t,k=Sum.inr x/\v=Value.str x t)
 | .inl i,v,h=>by
  obtain⟨t,e⟩:=Value.isInt_shape (k:=i) (v:=v) h;exact .inl ⟨i,t,Z,e⟩
 | .inr x,v,h=>by
  obtain⟨t,e⟩:=Value.isStrOf_shape (x:=x) (v:=v) h;exact .inr ⟨x,t,Z,e⟩
theorem zoc(i:Int)(t:Tok):zlu (.inl i) (.int i t)=true:=by simp[zlu,Value.isInt]
theorem zn2(x:Str)(t:Tok):zlu (.inr x) (.str x t)=true:=by simp[zlu,Value.isStrOf]
theorem zuz(a b:Int):decide ((Sum.inl a:Key)=Sum.inl b)=(a == b):=by
 by_cases e:a=b
 ·subst e;simp
 ·have h:¬(Sum.inl a:Key)=Sum.inl b:=λq=>e (Sum.inl.inj q)
  rw[Yw h];exact(beq_eq_false_iff_ne.mpr e).symm
theorem zvn(a b:Str):decide ((Sum.inr a:Key)=Sum.inr b)=decide (a=b):=by
 by_cases e:a=b
 ·subst e;simp
 ·have h:¬(Sum.inr a:Key)=Sum.inr b:=λq=>e (Sum.inr.inj q)
  rw[Yw h,Yw e]
theorem zun(a:Int)(b:Str):decide ((Sum.inl a:Key)=Sum.inr b)=false:=Yw (λq=>nomatch q)
theorem zu8(a:Str)(b:Int):decide ((Sum.inr a:Key)=Sum.inl b)=false:=Yw (λq=>nomatch q)
def za8(prog:Program)(w:World):PySem.KeyKind prog w Key where
 is:=zlu
 hash:=keyH w
 inj:=λv a b ha hb=>by
  rcases zbh ha with⟨i,t,rfl,rfl⟩ | ⟨x,t,rfl,rfl⟩
  ·rcases zbh hb with⟨j,u,rfl,e⟩ | ⟨y,u,rfl,e⟩
   ·injection e with e1 _;rw[e1]
   ·exact nomatch e
  ·rcases zbh hb with⟨j,u,rfl,e⟩ | ⟨y,u,rfl,e⟩
   ·exact nomatch e
   ·injection e with e1 _;rw[e1]
 byValue:=λk v h=>by
  rcases zbh h with⟨i,t,rfl,rfl⟩ | ⟨x,t,rfl,rfl⟩ <;> rfl
 pyHash:=λhv h=>by
  rcases zbh hv with⟨i,t,rfl,rfl⟩ | ⟨x,t,rfl,rfl⟩
  ·exact wpAny_pyHash_int h
  ·exact wpAny_pyHash_str h
 eqBool:=λhu hv h=>by
  rcases zbh hu with⟨i,t,rfl,rfl⟩ | ⟨x,t,rfl,rfl⟩
  ·rcases zbh hv with⟨j,u,rfl,rfl⟩ | ⟨y,u,rfl,rfl⟩
   ·rw[zuz]at h;exact wpAny_eqBool_int h
   ·rw[zun]at h;exact SeqAt.EqAt.int_str i t y u _ _ _ _ h
  ·rcases zbh hv with⟨j,u,rfl,rfl⟩ | ⟨y,u,rfl,rfl⟩
   ·rw[zu8]at h;exact SeqAt.EqAt.str_int x t j u _ _ _ _ h
   ·rw[zvn]at h;exact wpAny_eqBool_str h
 «strs»:=λk x t v h=>by
  rcases zbh h with⟨i,u,rfl,e⟩ | ⟨y,u,rfl,e⟩
  ·exact nomatch e
  ·injection e with e1 _
   subst e1
   cases v <;> rfl
theorem zj6(prog:Program)(w:World)(i:Int)(t:Tok):(za8 prog w).is (.inl i) (.int i t)=true:=zoc i t
theorem zj3(prog:Program)(w:World)(x:Str)(t:Tok):(za8 prog w).is (.inr x) (.str x t)=true:=zn2 x t
inductive V where
 | non | bl (b:Bool) | int (i:Int) | str (x:Str) | byt (b:Array UInt8) | flt (b:UInt64) | ref (a:Addr) | ty (n:String)
 deriving DecidableEq
def RelV:V->Value->Prop
 | .non,u=>u=Value.none
 | .bl b,u=>u=Value.bool b
 | .int i,u=>∃t,u=Value.int i t
 | .str x,u=>∃t,u=Value.str x t
 | .byt b,u=>∃t,u=Value.bytes b t
 | .flt b,u=>∃t,u=Value.float b t
 | .ref a,u=>u=Value.ref a
 | .ty n,u=>u=Value.type n
abbrev Vals:List V->List Value->Prop:=Paired RelV
theorem Vals.length{xs:List V}{us:List Value}(r:Vals xs us):xs.length=us.length:=Paired.length r
theorem Vals.get:∀{xs:List V} {us:List Value} {i:Nat} {x:V},Vals xs us->xs[i]? = some x->∃u,us[i]? = some u/\RelV x u
 | _,_,_,_,.nil,e=>by simp at e
 | _,_,0,_,.cons r _,e=>by simp at e;subst e;exact⟨_,rfl,r⟩
 | _,_,i+1,x,.cons _ t,e=>by
  obtain⟨u,h1,h2⟩:=Vals.get (i:=i) (x:=x) t (by simpa using e);exact⟨u,by simpa using h1,h2⟩
theorem Vals.append:∀{xs ys:List V} {us ws:List Value},Vals xs us->Vals ys ws->Vals (xs++ys) (us++ws)
 | _,_,_,_,.nil,s=>s
 | _,_,_,_,.cons r t,s=>.cons r (Vals.append t s)
theorem Vals.take:∀{xs:List V} {us:List Value} (n:Nat),Vals xs us->Vals (xs.take n) (us.take n)
 | _,_,0,_=>.nil
 | _,_,_+1,.nil=>.nil
 | _,_,n+1,.cons r t=>.cons r (Vals.take n t)
theorem Vals.drop:∀{xs:List V} {us:List Value} (n:Nat),Vals xs us->Vals (xs.drop n) (us.drop n)
 | _,_,0,r=>r
 | _,_,_+1,.nil=>.nil
 | _,_,n+1,.cons _ t=>Vals.drop n t
def RelO:Option V->Option Value->Prop
 | some v,some u=>RelV v u
 | none,none=>True
 | _,_=>False
def KV{κ : Type}:List (κ×V)->List (κ×Value)->Prop:=Paired fun(p : κ×V) (q : κ×Value)=>p.1=q.1/\RelV p.2 q.2
def kV:Key->V
 | .inl i=>.int i
 | .inr x=>.str x
inductive HO where
  | lst (xs:List V)
  | tup (xs:List V)
  | dK (kvs:List (Key×V)) | dT (kvs:List (List Key×V))
  | set (S:Int->Bool) (n:Nat)
  | ins (C dx:Addr) (fs:List (Str×V))
  | own (x:Addr)
  | xd (fs:List (Str×V))
  | met (f x:Addr)
  | rng (lo hi:Int)
  | frz (o:Obj) (u:HO)
  | tbl (ps:Array Value)
  | ext (φ : Heap->Prop)
abbrev Hp:=Addr->Option HO
def upd(H:Hp)(a:Addr)(o:HO):Hp:=λb=>if b=a then some o else H b
theorem zaf{H:Hp}{a:Addr}{o:HO}:upd H a o a=some o:=by unfold upd;rw[Yl rfl]
theorem zal{H:Hp}{a b:Addr}{o:HO}(h:b≠a):upd H a o b=H b:=by unfold upd;rw[Yh h]
theorem zep{H:Hp}{a b:Addr}{o u:HO}(h:H a=some o)(h':H b=some u)(d:o≠u):a≠b:=by
 intro e;subst e;rw[h]at h';exact d (Je h')
theorem zan{H:Hp}{a b:Addr}{o:HO}(h:H a=some o)(h':H b=none):a≠b:=by
 intro e;subst e;rw[h]at h';cases h'
section
variable(P:Program)(w:World)
def ObjOk(H:Hp)(h:Heap)(a:Addr):HO->Prop
 | .lst xs=>xs.length<=sizeLine/\∃(its:List Value) (n:Nat),Vals xs its/\h.get? a=some { cls:=.type "list",data:=.seq its.toArray n }
 | .tup xs=>xs.length<=sizeLine/\∃its:List Value,Vals xs its/\IsTup h a its.toArray
 | .dK kvs=>kvs.length<=sizeLine/\(a == sysModules)=false/\∃vs,KV kvs vs/\h.DictOf (za8 P w) a vs
 | .dT kvs=>kvs.length<=sizeLine/\(a == sysModules)=false/\∃xs:List (List Key×Addr×Value),
   Paired (fun(p:List Key×V) (q:List Key×Addr×Value)=>p.1=q.1/\H q.2.1=some (.tup (p.1.map kV))/\RelV p.2 q.2.2) kvs xs /\
   ∃o es ep,h.get? a=some o/\o.ExactDict/\o.data=.dict es ep/\es.toList=xs.map (entryOfKey (tupleKind (za8 P w)))/\(xs.map (·.1)).Nodup
 | .set S n=>h.SetOf (intKind P w) a S n
 | .ins C dx fs=>H dx=some (.own a)/\fs.length<=1000/\dx≠a/\h.get? a=some (W.instObj C dx) /\
   ∃mA,h.Ns1 dx mA/\(∀f,RelO (fs.lookup f) (mA f))/\PySem.Within mA (fs.map (·.1))
 | .own _=>∃o,h.get? a=some o
 | .xd fs=>∃mA,h.Ns1 a mA/\∀f,RelO (fs.lookup f) (mA f)
 | .rng lo hi=>∃t u v,h.get? a=some { cls:=.type "range",data:=.fields #[.int lo t,.int hi u,.int 1 v] }
 | .frz o u=>h.get? a=some o/\ObjOk H h a u
 | .tbl ps=>h.get? a=some { cls:=.none,data:=.fields ps }
 | .met f x=>h.get? a=some (W.methodObj (.ref f) (.ref x))
 | .ext φ=>φ h/\(∃o,h.get? a=some o)/\∀h1 h2:Heap,φ h1->(∀o,h1.get? a=some o->h2.get? a=some o)->φ h2
def HOk(H:Hp)(h:Heap):Prop:=∀a o,H a=some o->ObjOk P w H h a o
end
section
variable{P:Program}{w:World}{H H':Hp}{h h':Heap}{a:Addr}{o:HO}
theorem ObjOk.lt(x:ObjOk P w H h a o):a<h.objs.size:=by
 cases o with
 | lst xs=>obtain⟨_,_,_,_,e⟩:=x;exact Yn e
 | tup xs=>obtain⟨_,_,_,p⟩:=x;exact p.lt
 | dK kvs=>obtain⟨_,_,_,_,o,_,_,e,_⟩:=x;exact Yn e
 | dT kvs=>obtain⟨_,_,_,_,o,_,_,e,_⟩:=x;exact Yn e
 | set S n=>obtain⟨o,_,_,_,e,_⟩:=x;exact Yn e
 | ins C dx fs=>obtain⟨_,_,_,e,_⟩:=x;exact Yn e
 | own y=>obtain⟨_,e⟩:=x;exact Yn e
 | xd fs=>obtain⟨_,⟨_,_,_,e,_⟩,_⟩:=x;exact Yn e
 | rng lo hi=>obtain⟨_,_,_,e⟩:=x;exact Yn e
 | frz ob u=>obtain⟨e,_⟩:=x;exact Yn e
 | tbl ps=>exact Yn (show h.get? a=some _ from x)
 | met f y=>exact Yn (show h.get? a=some _ from x)
 | ext φ=>obtain⟨_,⟨_,e⟩,_⟩:=x;exact Yn e
theorem Paired.mapP{α β : Type}{F G : α->β->Prop}:∀{l₁:List α} {l₂:List β},Paired F l₁ l₂->(∀a b,F a b->G a b)->Paired G l₁ l₂
 | _,_,.nil,_=>.nil
 | _,_,.cons r t,f=>.cons (f _ _ r) (Paired.mapP t f)
theorem Paired.imp'{α β : Type}{F G : α->β->Prop}(f:∀a b,F a b->G a b){l₁:List α}{l₂:List β}(r:Paired F l₁ l₂):Paired G l₁ l₂:=Paired.mapP r f
theorem ObjOk.stay(x:ObjOk P w H h a o)(k:∀b u,(b=a\/H b=some (.own a))->h.get? b=some u->h'.get? b=some u)
  (ho:∀b,H b=some (.own a)->H' b=some (.own a)) (ht:∀b xs,H b=some (.tup xs)->H' b=some (.tup xs)):ObjOk P w H' h' a o:=by
 induction o with
 | lst xs=>obtain⟨z,its,n,r,e⟩:=x;exact⟨z,its,n,r,k _ _ (.inl rfl) e⟩
 | tup xs=>obtain⟨z,its,r,ob,e,c⟩:=x;exact⟨z,its,r,ob,k _ _ (.inl rfl) e,c⟩
 | dK kvs=>obtain⟨z,y,vs,r,ob,es,ep,e,c⟩:=x;exact⟨z,y,vs,r,ob,es,ep,k _ _ (.inl rfl) e,c⟩
 | dT kvs=>
  obtain⟨z,y,xs,r,ob,es,ep,e,c⟩:=x;exact⟨z,y,xs,Paired.mapP r λp q z=>⟨z.1,ht _ _ z.2.1,z.2.2⟩,ob,es,ep,k _ _ (.inl rfl) e,c⟩
 | set S n=>obtain⟨ob,es,ep,t,e,c⟩:=x;exact⟨ob,es,ep,t,k _ _ (.inl rfl) e,c⟩
 | ins C dx fs=>
  obtain⟨d,z,ne,e,mA,⟨od,es,ep,e2,c⟩,r⟩:=x;exact⟨ho _ d,z,ne,k _ _ (.inl rfl) e,mA,⟨od,es,ep,k _ _ (.inr d) e2,c⟩,r⟩
 | own y=>obtain⟨ob,e⟩:=x;exact⟨ob,k _ _ (.inl rfl) e⟩
 | xd fs=>obtain⟨mA,⟨od,es,ep,e,c⟩,r⟩:=x;exact⟨mA,⟨od,es,ep,k _ _ (.inl rfl) e,c⟩,r⟩
 | rng lo hi=>obtain⟨t,u,v,e⟩:=x;exact⟨t,u,v,k _ _ (.inl rfl) e⟩
 | frz ob u ih=>obtain⟨e,q⟩:=x;exact⟨k _ _ (.inl rfl) e,ih q⟩
 | tbl ps=>
  have e:h.get? a=some { cls:=.none,data:=.fields ps }:=x;show h'.get? a=some { cls:=.none,data:=.fields ps };exact k a _ (.inl rfl) e
 | met f y=>
  have e:h.get? a=some (W.methodObj (.ref f) (.ref y)):=x;show h'.get? a=some (W.methodObj (.ref f) (.ref y));exact k a _ (.inl rfl) e
 | ext φ=>obtain⟨p,⟨o,e⟩,st⟩:=x;exact⟨st _ _ p λo q=>k _ _ (.inl rfl) q,⟨o,k _ _ (.inl rfl) e⟩,st⟩
theorem HOk.lt(x:HOk P w H h)(e:H a=some o):a<h.objs.size:=(x a o e).lt
theorem HOk.fresh(x:HOk P w H h)(e:h.objs.size<=a):H a=none:=by
 cases q:H a with
 | none=>rfl
 | some u=>exact absurd (Yf (x.lt q) e) (Nat.lt_irrefl _)
theorem HOk.kept(x:HOk P w H h)(k:∀b u,h.get? b=some u->h'.get? b=some u):HOk P w H h':=λa o e=>
 (x a o e).stay (λb u _ q=>k b u q) (λ_ q=>q) λ_ _ q=>q
theorem HOk.laid(x:HOk P w H h)(k:∀b u,h.get? b=some u->h'.get? b=some u)(hp:h.objs.size<=a)(new:ObjOk P w (upd H a o) h' a o):HOk P w (upd H a o) h':=λb u e=>by
 have hn:=x.fresh hp;by_cases hb:b=a
 ·subst hb;rw[zaf]at e;cases e;exact new
 ·rw[zal hb]at e;exact(x b u e).stay (λc v _ q=>k c v q) (λc q=>by rw[zal (zan q hn)];exact q) λc xs q=>by rw[zal (zan q hn)];exact q
end
def Rd(H:Hp)(a:Addr)(u:HO):Prop:=H a=some u\/∃o,H a=some (.frz o u)
theorem Rd.ok{P:Program}{w:World}{H:Hp}{h:Heap}{a:Addr}{u:HO}(r:Rd H a u)(x:HOk P w H h):ObjOk P w H h a u:=by
 rcases r with r | ⟨o,r⟩
 ·exact x a u r
 ·obtain⟨_,q⟩:=x a _ r;exact q
def Mut:Option HO->Prop
 | some (.lst _)=>True
 | some (.dK _)=>True
 | some (.dT _)=>True
 | some (.set _ _)=>True
 | some (.ins _ _ _)=>True
 | some (.ext _)=>True
 | _=>False
section
variable{P:Program}{w:World}{H:Hp}{h h':Heap}{x e:Addr}{o':HO}
theorem HOk.write(ok:HOk P w H h)(mu:Mut (H x))(he:e=x\/H e=some (.own x))(k:∀b u,b≠e->h.get? b=some u->h'.get? b=some u)(heo:∃u,h'.get? e=some u)
  (new:ObjOk P w (upd H x o') h' x o'):HOk P w (upd H x o') h':=λb u q=>by
 have nown:∀c y,H c=some (.own y)->c≠x:=λc y r z=>by subst z;rw[r]at mu;exact mu
 have ntup:∀c xs,H c=some (.tup xs)->c≠x:=λc xs r z=>by subst z;rw[r]at mu;exact mu
 by_cases hb:b=x
 ·subst hb;rw[zaf]at q;cases q;exact new
 ·rw[zal hb]at q;by_cases hbe:b=e
  ·have q':H b=some (.own x):=by
    rcases he with z | z
    ·exact absurd (hbe.trans z) hb
    ·rw[hbe];exact z
   rw[q]at q';cases q';obtain⟨v,hv⟩:=heo;exact⟨v,by rw[hbe];exact hv⟩
  ·refine(ok b u q).stay (λc v hc r=>k c v ?_ r) (λc r=>by rw[zal (nown c b r)];exact r) λc xs r=>by rw[zal (ntup c xs r)];exact r
   rcases hc with rfl | hc
   ·exact hbe
   ·rintro rfl;rcases he with z | z
    ·exact nown c b hc z
    ·rw[hc]at z;cases z;exact hb rfl
end
structure Un(fs ex:List Addr)(H H':Hp)(h h':Heap):Prop where
 keep:∀b o,h.get? b=some o->H b=none->b ∉ fs->b ∉ ex->h'.get? b=some o
 slot:∀b o,h.get? b=some o->H b=none->b∈fs->b ∉ ex->∃sl,h'.get? b=some { o with slots:=sl }
 free:∀b o,h.get? b=some o->H b=none->b ∉ ex->H' b=none
 there:∀b o,h.get? b=some o->b ∉ ex->∃o',h'.get? b=some o'
 tups:∀b xs,H b=some (.tup xs)->H' b=some (.tup xs)
 frzs:∀b o u,H b=some (.frz o u)->H' b=some (.frz o u)
 tbls:∀b ps,H b=some (.tbl ps)->∃more,H' b=some (.tbl (ps++more))
section
variable{fs fs' ex ex':List Addr}{H H1 H2:Hp}{h h1 h2 h':Heap}{a x e:Addr}{o:HO}
theorem Un.any(u:Un fs ex H H1 h h1){b:Addr}{ob:Obj}(q:h.get? b=some ob)(n:H b=none)(hx:b ∉ ex):∃sl,h1.get? b=some { ob with slots:=sl }:=by
 by_cases hb:b∈fs
 ·exact u.slot b ob q n hb hx
 ·exact⟨ob.slots,u.keep b ob q n hb hx⟩
theorem Un.kept(k:∀b u,h.get? b=some u->h'.get? b=some u):Un fs ex H H h h':=
 ⟨λb ob q _ _ _=>k b ob q,λb ob q _ _ _=>⟨ob.slots,k b ob q⟩,λ_ _ _ n _=>n,λb ob q _=>⟨ob,k b ob q⟩,λ_ _ q=>q,λ_ _ _ q=>q,λ_ ps q=>⟨#[],by rw[q];simp⟩⟩
theorem Un.refl:Un fs ex H H h h:=Un.kept λ_ _ q=>q
theorem Un.laid(k:∀b u,h.get? b=some u->h'.get? b=some u)(hp:h.objs.size<=a)(hn:H a=none):Un fs ex H (upd H a o) h h' where
 keep:=λb u q _ _ _=>k b u q
 slot:=λb u q _ _ _=>⟨u.slots,k b u q⟩
 free:=λb u q n _=>by rw[zal (Y0 (Yf (Yn q) hp))];exact n
 there:=λb u q _=>⟨u,k b u q⟩
 tups:=λb xs q=>by rw[zal (zan q hn)];exact q
 frzs:=λb u xs q=>by rw[zal (zan q hn)];exact q
 tbls:=λb ps q=>⟨#[],by rw[zal (zan q hn),q];simp⟩
theorem Un.write(mu:Mut (H x))(he:e=x\/H e=some (.own x))(k:∀b u,b≠e->h.get? b=some u->h'.get? b=some u)(heo:∃u,h'.get? e=some u):Un fs ex H (upd H x o) h h':=by
 have hx:∀b,H b=none->b≠x:=λb n z=>by subst z;rw[n]at mu;exact mu
 have hb:∀b,H b=none->b≠e:=λb n z=>by
  subst z;rcases he with r | r
  ·exact hx b n r
  ·rw[n]at r;cases r
 have hm:∀b u,H b=some u->¬Mut (some u)->b≠x:=λb u q nm z=>by subst z;rw[q]at mu;exact nm mu
 refine⟨λb u q n _ _=>k b u (hb b n) q,λb u q n _ _=>⟨u.slots,k b u (hb b n) q⟩,λb u q n _=>by rw[zal (hx b n)];exact n,λb u q _=>?_,
  λb xs q=>by rw[zal (hm b _ q λz=>z)];exact q,λb u xs q=>by rw[zal (hm b _ q λz=>z)];exact q,λb ps q=>⟨#[],by rw[zal (hm b _ q λz=>z),q];simp⟩⟩
 by_cases hbe:b=e
 ·subst hbe;exact heo
 ·exact⟨u,k b u hbe q⟩
end
def trk(h:Heap)(H:Hp):List Addr:=(List.range h.objs.size).filter λa=>(H a).isSome
def hidT(h:Heap)(H:Hp):Heap:=W.hideAll h (trk h H)
theorem znd(h:Heap)(H:Hp):(hidT h H).objs.size=h.objs.size:=W.hideAll_size _ _
theorem zqf{h:Heap}{H:Hp}{b:Addr}{o:Obj}(e:h.get? b=some o)(n:H b=none):(hidT h H).get? b=some o:=
 W.hideAll_get _ e λhm=>by
  have q:(H b).isSome=true:=(List.mem_filter.mp hm).2;rw[n]at q;simp at q
theorem zta{h:Heap}{H:Hp}{b:Addr}{o:Obj}(e:(hidT h H).get? b=some o):h.get? b=some o/\H b=none:=by
 have e':h.get? b=some o:=W.of_hideAll (trk h H) e;refine⟨e',?_⟩
 cases q:H b with
 | none=>rfl
 | some x=>
  have hm:b∈trk h H:=List.mem_filter.mpr ⟨List.mem_range.mpr (Yn e'),by simp[q]⟩;have z:(hidT h H).get? b=none:=W.hideAll_none (trk h H) hm;rw[z]at e;cases e
structure Mod(K:W.Frag)(mg:Str->Option Value)(base:Heap):Prop where
 kin:K.In base
 glob:base.Ns mainGlobals mg
 blt:∃mb,base.Ns builtinsNs mb/\∀x:Str,x≠"__name__"->mb x=bootBuiltins x
 nolimit:base.NoLimit
structure Cx where
 prog:Program
 w:World
 K:W.Frag
 mg:Str->Option Value
 base:Heap
 A:Around
 N:List Str
 s₀:Shared
 H₀:Hp
 env:Env
 outer:List Env
 stack:List Env
 ex:List Addr
 fn:Str->Bool
 calm:Bool
 pn:List (Addr×Obj)
 xe:Value->Shared->Prop
def frs(l:List Env):List Addr:=l.filterMap (·.frame)
abbrev Cx.fs(X:Cx):List Addr:=frs X.outer
def Vis(sc:Scope)(x:Str):Prop:=sc.names.lookup x=some .local\/sc.names.lookup x=some .cell\/sc.names.lookup x=some .free
def Loc(sc:Scope)(x:Str):Prop:=sc.names.lookup x=some .local\/sc.names.lookup x=some .cell
def Look(env:Env)(h:Heap)(m:Str->Option Value)(x:Str)(u:Value):Prop:=
 (env.kindOf x=some .local/\m x=some u)\/((env.kindOf x=some .cell\/env.kindOf x=some .free)/\∃c,env.cells.lookup x=some c/\h.IsCell c (some u))
structure Cx.Ok(X:Cx):Prop where
 mod:Mod X.K X.mg X.base
 kind:X.env.scope.kind=.function
 glob:X.env.globals=mainGlobals
 blt:X.env.builtins=builtinsNs
 above:X.s₀.heap.objs.size<=X.env.locals
 inj:∀x y c,X.env.cells.lookup x=some c->X.env.cells.lookup y=some c->x=y
 has:∀x,(X.env.kindOf x=some .cell\/X.env.kindOf x=some .free)->∃c,X.env.cells.lookup x=some c
 cab:∀x c,X.fn x=true->X.env.cells.lookup x=some c->X.s₀.heap.objs.size<=c
 hd:X.calm=true->X.A.handled=none
 frames:X.A.frames=some X.stack
 stk:X.stack=X.outer\/(X.stack=X.env::X.outer/\X.env.frame=some X.env.locals)
 exf:∀b∈X.ex,b≠X.env.locals/\∀x c,X.env.cells.lookup x=some c->c≠b
 bs:∀b o,X.base.get? b=some o->X.s₀.heap.get? b=some o/\X.H₀ b=none
 bsz:X.base.objs.size<=X.s₀.heap.objs.size
 noex:∀b o,X.base.get? b=some o->b ∉ X.ex
 exfs:∀b∈X.ex,b ∉ X.fs
 funs:X.s₀.heap.FunFrames X.base X.outer
 frf:∀b∈X.fs,X.H₀ b=none
structure Inv(X:Cx)(pins:List (Addr×Obj))(σ : List (Option V))(H:Hp)(s:Shared):Prop where
 ok:X.Ok
 os:s.os=X.s₀.os
 bare:AllBare s.gens
 base:Un X.fs X.ex X.H₀ H X.s₀.heap s.heap
 loc:∃m,s.heap.Ns X.env.locals m/\∀(i:Nat) (x:Str) (v:V),X.N[i]? = some x->σ[i]? = some (some v)->Vis X.env.scope x->∃u,RelV v u/\Look X.env s.heap m x u
 cell:∀x c,X.env.cells.lookup x=some c->∃v,s.heap.IsCell c v
 free:H X.env.locals=none
 freeC:∀x c,X.env.cells.lookup x=some c->H c=none
 pin:∀p∈X.pn++pins,s.heap.get? p.1=some p.2/\H p.1=none/\p.1≠X.env.locals/\p.1 ∉ X.fs/\∀v,p.2.data≠.cell v
 hok:HOk X.prog X.w H s.heap
 len : σ.length=X.N.length
section
variable{X:Cx}{pins:List (Addr×Obj)}{σ : List (Option V)}{H H':Hp}{s:Shared}{h':Heap}
theorem Cx.Ok.nofr(ok:X.Ok){b:Addr}{o:Obj}(e:X.base.get? b=some o):b ∉ X.fs:=λhb=>by
 have:=(ok.funs.mem hb).1;rw[e]at this;cases this
theorem Inv.bs(I:Inv X pins σ H s):∀b o,X.base.get? b=some o->s.heap.get? b=some o/\H b=none:=λb o e=>
 ⟨I.base.keep b o (I.ok.bs b o e).1 (I.ok.bs b o e).2 (I.ok.nofr e) (I.ok.noex b o e),I.base.free b o (I.ok.bs b o e).1 (I.ok.bs b o e).2 (I.ok.noex b o e)⟩
theorem Inv.bk(I:Inv X pins σ H s):∀b o,X.base.get? b=some o->s.heap.get? b=some o:=λb o e=>(I.bs b o e).1
theorem Inv.mod(I:Inv X pins σ H s):Mod X.K X.mg X.base:=I.ok.mod
theorem Inv.kIn(I:Inv X pins σ H s):X.K.In s.heap:=I.ok.mod.kin.keeps I.bk
theorem Inv.lt(I:Inv X pins σ H s):X.env.locals<s.heap.objs.size:=let ⟨_,hn,_⟩:=I.loc;hn.lt
theorem Inv.sz(I:Inv X pins σ H s):X.s₀.heap.objs.size<=s.heap.objs.size:=Yr I.ok.above (Nat.le_of_lt I.lt)
theorem Inv.nofs(I:Inv X pins σ H s){a:Addr}(h:s.heap.objs.size<=a):a ∉ X.fs:=λhb=>by
 obtain⟨_,o,ho,_⟩:=I.ok.funs.mem hb;exact absurd (Yf (Yn ho) (Yr I.sz h)) (Nat.lt_irrefl _)
theorem Inv.cne(I:Inv X pins σ H s):∀x c,X.env.cells.lookup x=some c->c≠X.env.locals:=λx c e z=>by
 obtain⟨v,o,ho,hd⟩:=I.cell x c e;obtain⟨m,⟨o',es,ep,ho',hd',_⟩,_⟩:=I.loc;rw[z,ho']at ho;cases ho;rw[hd']at hd;cases hd
theorem Inv.funs(I:Inv X pins σ H s):s.heap.FunFrames X.base X.outer:=by
 have all:∀(l:List Env),(∀b∈frs l,b∈X.fs)->X.s₀.heap.FunFrames X.base l->s.heap.FunFrames X.base l:=by
  intro l;induction l with
  | nil=>intro _ _;trivial
  | cons env r ih=>
   intro hs hl;obtain⟨hk,⟨L,o,hf,hn,ho,hd⟩,hr⟩:=hl;have hL:L∈X.fs:=hs L (by unfold frs;rw[List.filterMap_cons,hf];exact List.mem_cons_self);obtain⟨sl,e⟩:=I.base.slot L o ho (I.ok.frf L hL) hL λz=>I.ok.exfs L z hL
   exact⟨hk,⟨L,_,hf,hn,e,hd⟩,ih (λb hb=>hs b (by unfold frs;rw[List.filterMap_cons,hf];exact List.mem_cons_of_mem _ hb)) hr⟩
 exact all X.outer (λ_ hb=>hb) I.ok.funs
theorem Inv.stack(I:Inv X pins σ H s):s.heap.FunFrames X.base X.stack:=by
 rcases I.ok.stk with e | ⟨e,hf⟩
 ·rw[e];exact I.funs
 ·rw[e];obtain⟨m,hn,_⟩:=I.loc;refine .cons (by rw[I.ok.kind];decide) hf hn ?_ I.funs;exact Heap.get?_none_of_le (Yr I.ok.bsz I.ok.above)
theorem Inv.stkSub(I:Inv X pins σ H s):∀b∈frs X.stack,b∈X.env.locals::X.fs:=λb hb=>by
 rcases I.ok.stk with e | ⟨e,hf⟩
 ·rw[e]at hb;exact List.mem_cons_of_mem _ hb
 ·rw[e]at hb;unfold frs at hb;rw[List.filterMap_cons,hf]at hb;exact hb
theorem Inv.stkFree(I:Inv X pins σ H s):∀b∈frs X.stack,H b=none:=λb hb=>by
 rcases Yj.mp (I.stkSub b hb) with e | hb
 ·rw[e];exact I.free
 ·obtain⟨_,o,ho,_⟩:=I.ok.funs.mem hb;exact I.base.free b o ho (I.ok.frf b hb) λz=>I.ok.exfs b z hb
theorem Inv.step{g':Array GenState}{t':Nat}{d':Drawn}{ch:List Addr}(I:Inv X pins σ H s)
  (hch:∀b∈ch,(b∈X.ex\/X.s₀.heap.objs.size<=b)/\b≠X.env.locals/\(∀x c,X.env.cells.lookup x=some c->c≠b)/\∀p∈X.pn++pins,p.1≠b)
  (keep:∀b o,b≠X.env.locals->b ∉ X.fs->b ∉ ch->s.heap.get? b=some o->H b=none->h'.get? b=some o)
  (slot:∀b o,b≠X.env.locals->b∈X.fs->b ∉ ch->s.heap.get? b=some o->H b=none->∃sl,h'.get? b=some { o with slots:=sl }) (free:∀b o,b ∉ ch->s.heap.get? b=some o->H b=none->H' b=none)
  (there:∀b o,b ∉ ch->s.heap.get? b=some o->∃o',h'.get? b=some o')
  (tups:∀b xs,H b=some (.tup xs)->H' b=some (.tup xs)) (frzs:∀b o u,H b=some (.frz o u)->H' b=some (.frz o u)) (tbls:∀b ps,H b=some (.tbl ps)->∃more,H' b=some (.tbl (ps++more)))
  (ns:∀m,s.heap.Ns X.env.locals m->h'.Ns X.env.locals m) (hok:HOk X.prog X.w H' h') (hg:AllBare g') :
  Inv X pins σ H' { s with heap:=h',gens:=g',drawn:=d',toks:=t' }:=by
 have neL:∀b o,X.s₀.heap.get? b=some o->b≠X.env.locals:=λb o e=>Y0 (Yf (Yn e) I.ok.above)
 have neC:∀b o,X.s₀.heap.get? b=some o->b ∉ X.ex->b ∉ ch:=λb o e hx hb=>by
  rcases(hch b hb).1 with z | z
  ·exact hx z
  ·exact absurd (Yf (Yn e) z) (Nat.lt_irrefl _)
 have cellK:∀x c,X.env.cells.lookup x=some c->∀v,s.heap.IsCell c v->h'.IsCell c v:=λx c e v ⟨o,ho,hd⟩=>by
  have nch:c ∉ ch:=λz=>(hch c z).2.2.1 x c e rfl
  by_cases hc:c∈X.fs
  ·obtain⟨sl,q⟩:=slot c o (I.cne x c e) hc nch ho (I.freeC x c e);exact⟨_,q,hd⟩
  ·exact⟨o,keep c o (I.cne x c e) hc nch ho (I.freeC x c e),hd⟩
 refine⟨I.ok,I.os,hg,⟨λb o e n hb hx=>?_,λb o e n hb hx=>?_,λb o e n hx=>?_,λb o e hx=>?_,λb xs e=>tups b xs (I.base.tups b xs e),λb o xs e=>frzs b o xs (I.base.frzs b o xs e),λb ps e=>?_⟩,?_,λx c e=>?_,?_,λx c e=>?_,λp hp=>?_,hok,I.len⟩
 ·exact keep b o (neL b o e) hb (neC b o e hx) (I.base.keep b o e n hb hx) (I.base.free b o e n hx)
 ·obtain⟨sl,e1⟩:=I.base.slot b o e n hb hx;obtain⟨sl',e2⟩:=slot b _ (neL b o e) hb (neC b o e hx) e1 (I.base.free b o e n hx);exact⟨sl',e2⟩
 ·obtain⟨o',e1⟩:=I.base.there b o e hx;exact free b o' (neC b o e hx) e1 (I.base.free b o e n hx)
 ·obtain⟨o',e1⟩:=I.base.there b o e hx;exact there b o' (neC b o e hx) e1
 ·obtain⟨m1,e1⟩:=I.base.tbls b ps e;obtain⟨m2,e2⟩:=tbls b _ e1;exact⟨m1++m2,by rw[e2,Array.append_assoc]⟩
 ·obtain⟨m,hn,hl⟩:=I.loc;refine⟨m,ns m hn,λi x v e1 e2 e3=>?_⟩;obtain⟨u,r,l⟩:=hl i x v e1 e2 e3;refine⟨u,r,?_⟩;rcases l with l | ⟨k,c,e,z⟩
  ·exact .inl l
  ·exact .inr ⟨k,c,e,cellK x c e _ z⟩
 ·obtain⟨v,z⟩:=I.cell x c e;exact⟨v,cellK x c e v z⟩
 ·obtain⟨m,⟨o,_,_,ho,_⟩,_⟩:=I.loc;exact free _ o (λz=>(hch _ z).2.1 rfl) ho I.free
 ·obtain⟨v,o,ho,hd⟩:=I.cell x c e;exact free c o (λz=>(hch c z).2.2.1 x c e rfl) ho (I.freeC x c e)
 ·obtain⟨e,n,ne,nf,d⟩:=I.pin p hp;have nch:p.1 ∉ ch:=λz=>(hch p.1 z).2.2.2 p hp rfl
  exact⟨keep p.1 p.2 ne nf nch e n,free p.1 p.2 nch e n,ne,nf,d⟩
theorem Inv.un{t':Nat}(I:Inv X pins σ H s)(u:Un X.fs [] H H' s.heap h')(hok:HOk X.prog X.w H' h'):Inv X pins σ H' { s with heap:=h',toks:=t' }:=by
 obtain⟨m,⟨o,es,ep,ho,r⟩,_⟩:=id I.loc;obtain⟨sl,hL⟩:=u.any ho I.free (by simp);exact I.step (g':=s.gens) (d':=s.drawn) (ch:=[]) (λ_ z=>nomatch z) (λb o _ hb _ e n=>u.keep b o e n hb (by simp)) (λb o _ hb _ e n=>u.slot b o e n hb (by simp)) (λb o _ e n=>u.free b o e n (by simp)) (λb o _ e=>u.there b o e (by simp)) u.tups u.frzs u.tbls (λm' hm=>by
  obtain⟨o',es',ep',ho',r'⟩:=hm;rw[ho]at ho';cases ho';exact⟨_,es',ep',hL,r'⟩) hok I.bare
theorem Inv.call{g':Array GenState}{t':Nat}{d':Drawn}{ch:List Addr}(I:Inv X pins σ H s)(u:Un (frs X.stack) ch H H' s.heap h')(hok:HOk X.prog X.w H' h')(hg:AllBare g')
  (hch:∀b∈ch,(b∈X.ex\/X.s₀.heap.objs.size<=b)/\b≠X.env.locals/\(∀x c,X.env.cells.lookup x=some c->c≠b)/\∀p∈X.pn++pins,p.1≠b) :
  Inv X pins σ H' { s with heap:=h',gens:=g',drawn:=d',toks:=t' }:=by
 obtain⟨m,⟨o,es,ep,ho,r⟩,_⟩:=id I.loc;obtain⟨sl,hL⟩:=u.any ho I.free λz=>(hch _ z).2.1 rfl
 exact I.step (ch:=ch) hch (λb o hL hb hc e n=>u.keep b o e n (λz=>(Yj.mp (I.stkSub b z)).elim hL hb) hc) (λb o _ _ hc e n=>u.any e n hc) (λb o hc e n=>u.free b o e n hc) (λb o hc e=>u.there b o e hc) u.tups u.frzs u.tbls (λm' hm=>by
  obtain⟨o',es',ep',ho',r'⟩:=hm;rw[ho]at ho';cases ho';exact⟨_,es',ep',hL,r'⟩) hok hg
theorem Inv.turned{t':Nat}{it:Addr}(I:Inv X pins σ H s)(k:∀b o,b≠it->s.heap.get? b=some o->h'.get? b=some o)(hn:H it=none)(hL:it≠X.env.locals)
  (h1:it∈X.ex\/X.s₀.heap.objs.size<=it) (h2:∀x c,X.env.cells.lookup x=some c->c≠it) (h3:∀p∈X.pn++pins,p.1≠it):Inv X pins σ H { s with heap:=h',toks:=t' }:=by
 have nit:∀b u,H b=some u->b≠it:=λb u e z=>by rw[z,hn]at e;cases e
 refine I.step (g':=s.gens) (d':=s.drawn) (ch:=[it]) (λb hb=>?_) (λb o _ _ hc e _=>k b o (λz=>hc (by simp[z])) e) (λb o _ _ hc e _=>⟨o.slots,k b o (λz=>hc (by simp[z])) e⟩) (λ_ _ _ _ n=>n)
  (λb o hc e=>⟨o,k b o (λz=>hc (by simp[z])) e⟩) (λ_ _ e=>e) (λ_ _ _ e=>e) (λb ps e=>⟨#[],by rw[e];simp⟩) (λm hm=>?_) (λb u e=>?_) I.bare
 ·have e:b=it:=by simpa using hb
  subst e;exact⟨h1,hL,h2,h3⟩
 ·obtain⟨o,es,ep,ho,r⟩:=hm;exact⟨o,es,ep,k _ o (Jb hL) ho,r⟩
 ·refine(I.hok b u e).stay (λc v hc q=>k c v ?_ q) (λ_ q=>q) λ_ _ q=>q
  rcases hc with z | z
  ·rw[z];exact nit b u e
  ·exact nit c _ z
theorem Inv.tok(I:Inv X pins σ H s)(t:Nat):Inv X pins σ H { s with toks:=t }:=I.un (h':=s.heap) (t':=t) Un.refl I.hok
theorem Inv.kept{t':Nat}(I:Inv X pins σ H s)(k:∀b u,s.heap.get? b=some u->h'.get? b=some u):Inv X pins σ H { s with heap:=h',toks:=t' }:=I.un (Un.kept k) (I.hok.kept k)
theorem Inv.laid{a:Addr}{o:HO}{t':Nat}(I:Inv X pins σ H s)(k:∀b u,s.heap.get? b=some u->h'.get? b=some u)(hp:s.heap.objs.size<=a)(new:ObjOk X.prog X.w (upd H a o) h' a o) :
  Inv X pins σ (upd H a o) { s with heap:=h',toks:=t' }:=I.un (Un.laid k hp (I.hok.fresh hp)) (I.hok.laid k hp new)
theorem Inv.write{x e:Addr}{o:HO}{t':Nat}(I:Inv X pins σ H s)(mu:Mut (H x))(he:e=x\/H e=some (.own x))(k:∀b u,b≠e->s.heap.get? b=some u->h'.get? b=some u)(heo:∃u,h'.get? e=some u)
  (new:ObjOk X.prog X.w (upd H x o) h' x o):Inv X pins σ (upd H x o) { s with heap:=h',toks:=t' }:=I.un (Un.write mu he k heo) (I.hok.write mu he k heo new)
theorem Inv.pins_of{pins':List (Addr×Obj)}(I:Inv X pins σ H s)(h:∀p∈pins',s.heap.get? p.1=some p.2/\H p.1=none/\p.1≠X.env.locals/\p.1 ∉ X.fs/\∀v,p.2.data≠.cell v):Inv X pins' σ H s:=
 ⟨I.ok,I.os,I.bare,I.base,I.loc,I.cell,I.free,I.freeC,λp hp=>(Jr.mp hp).elim (λz=>I.pin p (List.mem_append_left _ z)) (h p),I.hok,I.len⟩
theorem zh9{N:List Str}(hN:N.Nodup){i j:Nat}{x:Str}(a:N[i]? = some x)(b:N[j]? = some x):i=j:=by
 obtain⟨h1,e1⟩:=List.getElem?_eq_some_iff.mp a;obtain⟨h2,e2⟩:=List.getElem?_eq_some_iff.mp b;exact(List.getElem_inj hN).mp (e1.trans e2.symm)
theorem zop{M:Model}{A:Around}{E:Value->Shared->Prop}{i:Nat}{x:Str}{v:V}{u:Value}{Q:Unit->Shared->Prop}(I:Inv X pins σ H s)(hN:X.N.Nodup)(hi:X.N[i]? = some x)(hx:Loc X.env.scope x)(r:RelV v u)
  (h:∀s',Inv X pins (σ.set i (some v)) H s'->(∃a,Heap.SameBut a s.heap s'.heap/\(a=X.env.locals\/X.env.cells.lookup x=some a))->Q () s') (hf:X.fn x=true\/X.env.scope.names.lookup x=some .local:=by first | exact .inl rfl | exact .inr rfl | assumption):wpAny M A (storeName X.env x u) Q E s:=by
 obtain⟨m,hn,hl⟩:=id I.loc;have hcls:(X.env.scope.kind == .class||(X.env.scope.kind == .module&&X.env.locals != X.env.globals))=false:=by rw[I.ok.kind];rfl
 have hiσ : i < σ.length:=by rw[I.len];exact(List.getElem?_eq_some_iff.mp hi).1
 have cne:=I.cne;have tracked:∀{a:Addr} {h':Heap},(∃o,s.heap.get? a=some o/\H a=none)->Heap.SameBut a s.heap h'->HOk X.prog X.w H h':=fun{a h'} ha hs b ob e=>by
  obtain⟨_,_,hfree⟩:=ha;refine(I.hok b ob e).stay (λc w' hc q=>(hs.2 c ?_).trans q) (λ_ q=>q) λ_ _ q=>q
  rintro rfl;rcases hc with rfl | hc
  ·rw[hfree]at e;cases e
  ·rw[hfree]at hc;cases hc
 rcases hx with hk | hk
 ·refine wpAny_storeName_local hk hn (λh' hn' hs=>?_) hcls;obtain⟨oL,_,_,hoL,_⟩:=id hn;refine h _ ⟨I.ok,I.os,I.bare,⟨λb o e n hb hx=>?_,λb o e n hb hx=>?_,I.base.free,λb o e hx=>?_,I.base.tups,I.base.frzs,I.base.tbls⟩,⟨_,hn',λj y v' e1 e2 e3=>?_⟩,λy c e=>?_,I.free,I.freeC,λp hp=>?_,tracked ⟨oL,hoL,I.free⟩ hs,by simpa using I.len⟩ ⟨_,hs,.inl rfl⟩
  ·exact(hs.2 b (Y0 (Yf (Yn e) I.ok.above))).trans (I.base.keep b o e n hb hx)
  ·obtain⟨sl,e1⟩:=I.base.slot b o e n hb hx;exact⟨sl,(hs.2 b (Y0 (Yf (Yn e) I.ok.above))).trans e1⟩
  ·obtain⟨o',e1⟩:=I.base.there b o e hx;exact⟨o',(hs.2 b (Y0 (Yf (Yn e) I.ok.above))).trans e1⟩
  ·by_cases hj:j=i
   ·subst hj;rw[hi]at e1;cases e1;rw[List.getElem?_set_self hiσ]at e2
    cases e2;exact⟨u,r,.inl ⟨hk,by simp⟩⟩
   ·rw[List.getElem?_set_ne (Jb hj)]at e2;obtain⟨u',r',q⟩:=hl j y v' e1 e2 e3;refine⟨u',r',?_⟩;rcases q with⟨k,e⟩ | ⟨k,c,e,z⟩
    ·refine .inl ⟨k,?_⟩;have:y≠x:=λe=>hj (zh9 hN e1 (e ▸ hi))
     simp[this,e]
    ·exact .inr ⟨k,c,e,z.sameBut hs (cne y c e)⟩
  ·obtain⟨w',z⟩:=I.cell y c e;exact⟨w',z.sameBut hs (cne y c e)⟩
  ·obtain⟨e,n,ne,nf,d⟩:=I.pin p hp;exact⟨(hs.2 p.1 ne).trans e,n,ne,nf,d⟩
 ·have hfn:X.fn x=true:=by
   rcases hf with z | z
   ·exact z
   ·rw[z]at hk;cases hk
  obtain⟨c,hc⟩:=I.ok.has x (.inl hk);obtain⟨w',z⟩:=I.cell x c hc;refine wpAny_storeName_cell I.ok.kind hk hc z (λh' hc' hs=>?_);obtain⟨oc,hoc,hocd⟩:=id z;refine h { s with heap:=h' } ⟨I.ok,I.os,I.bare,⟨λb o e n hb hx=>?_,λb o e n hb hx=>?_,I.base.free,λb o e hx=>?_,I.base.tups,I.base.frzs,I.base.tbls⟩,⟨m,hn.sameBut hs (Jb (cne x c hc)),λj y v' e1 e2 e3=>?_⟩,λy c' e=>?_,I.free,I.freeC,λp hp=>?_,tracked ⟨oc,hoc,I.freeC x c hc⟩ hs,by simpa using I.len⟩ ⟨c,hs,.inr hc⟩
  ·exact(hs.2 b (Y0 (Yf (Yn e) (I.ok.cab x c hfn hc)))).trans (I.base.keep b o e n hb hx)
  ·obtain⟨sl,e1⟩:=I.base.slot b o e n hb hx;exact⟨sl,(hs.2 b (Y0 (Yf (Yn e) (I.ok.cab x c hfn hc)))).trans e1⟩
  ·obtain⟨o',e1⟩:=I.base.there b o e hx;exact⟨o',(hs.2 b (Y0 (Yf (Yn e) (I.ok.cab x c hfn hc)))).trans e1⟩
  ·by_cases hj:j=i
   ·subst hj;rw[hi]at e1;cases e1;rw[List.getElem?_set_self hiσ]at e2
    cases e2;exact⟨u,r,.inr ⟨.inl hk,c,hc,hc'⟩⟩
   ·rw[List.getElem?_set_ne (Jb hj)]at e2;obtain⟨u',r',q⟩:=hl j y v' e1 e2 e3;refine⟨u',r',?_⟩;rcases q with q | ⟨k,c',e,z'⟩
    ·exact .inl q
    ·refine .inr ⟨k,c',e,z'.sameBut hs ?_⟩;rintro rfl;exact hj (zh9 hN e1 (I.ok.inj _ _ _ e hc ▸ hi))
  ·by_cases hcc:c'=c
   ·subst hcc;exact⟨_,hc'⟩
   ·obtain⟨w2,z2⟩:=I.cell y c' e;exact⟨w2,z2.sameBut hs hcc⟩
  ·obtain⟨e,n,ne,nf,d⟩:=I.pin p hp;refine⟨(hs.2 p.1 ?_).trans e,n,ne,nf,d⟩;intro q;rw[q,hoc]at e;have q':oc=p.2:=Je e;exact d w' (by rw[<- q'];exact hocd)
theorem zge{M:Model}{A:Around}{E:Value->Shared->Prop}{i:Nat}{x:Str}{v:V}{u:Value}{Q:Unit->Shared->Prop}(I:Inv X pins σ H s)(hN:X.N.Nodup)(hi:X.N[i]? = some x)(hx:Loc X.env.scope x)(r:RelV v u)
  (h:∀s',Inv X pins (σ.set i (some v)) H s'->Q () s') (hf:X.fn x=true\/X.env.scope.names.lookup x=some .local:=by first | exact .inl rfl | exact .inr rfl | assumption):wpAny M A (storeName X.env x u) Q E s:=
 zop I hN hi hx r (λs' I' _=>h s' I') hf
theorem Inv.call'{s':Shared}{ch:List Addr}(I:Inv X pins σ H s)(ho:s'.os=s.os)(u:Un (frs X.stack) ch H H' s.heap s'.heap)(hok:HOk X.prog X.w H' s'.heap)(hg:AllBare s'.gens)
  (hch:∀b∈ch,(b∈X.ex\/X.s₀.heap.objs.size<=b)/\b≠X.env.locals/\(∀x c,X.env.cells.lookup x=some c->c≠b)/\∀p∈X.pn++pins,p.1≠b):Inv X pins σ H' s':=by
 obtain⟨h',g',d',t',o'⟩:=s';have e:o'=s.os:=ho;subst e;exact I.call (g':=g') (t':=t') (d':=d') u hok hg hch
end
abbrev XK:=Value->Option Addr->Hp->Prop
abbrev St:=List (Option V)
abbrev VK:=V->Hp->Prop
abbrev TE:=St->Hp->VK->Prop
abbrev TT:=St->Hp->(Bool->Hp->Prop)->Prop
abbrev TA:=St->Hp->(List V->Hp->Prop)->Prop
structure Ends where
 nx:St->Hp->Prop
 rt:VK
 bk:St->Hp->Prop:=λ_ _=>False
 ct:St->Hp->Prop:=λ_ _=>False
abbrev TS:=Ends->St->Hp->Prop
def EP(X:Cx)(pins:List (Addr×Obj))(σ : St)(Q:VK)(u:Value)(s':Shared):Prop:=∃v H',Inv X pins σ H' s'/\RelV v u/\Q v H'
def TP(X:Cx)(pins:List (Addr×Obj))(σ : St)(Q:Bool->Hp->Prop)(b:Bool)(s':Shared):Prop:=∃H',Inv X pins σ H' s'/\Q b H'
def AP(X:Cx)(pins:List (Addr×Obj))(σ : St)(Q:List V->Hp->Prop)(us:List Value)(s':Shared):Prop:=∃vs H',Inv X pins σ H' s'/\Vals vs us/\Q vs H'
def SP(X:Cx)(pins:List (Addr×Obj))(D:Ends)(f:Flow)(s':Shared):Prop:=
 match f with
 | .next=>∃σ' H',Inv X pins σ' H' s'/\D.nx σ' H'
 | .brk=>∃σ' H',Inv X pins σ' H' s'/\D.bk σ' H'
 | .cont=>∃σ' H',Inv X pins σ' H' s'/\D.ct σ' H'
 | .ret u=>∃v σ' H',Inv X pins σ' H' s'/\RelV v u/\D.rt v H'
def PE(X:Cx)(e:Expr)(t:TE):Prop:=
 ∀(pins:List (Addr×Obj)) (s:Shared) (σ : St) (H:Hp) (Q:VK),Inv X pins σ H s->t σ H Q->wpAny (model X.prog X.w) X.A (eval e X.env) (EP X pins σ Q) X.xe s
def PT(X:Cx)(e:Expr)(t:TT):Prop:=
 ∀(pins:List (Addr×Obj)) (s:Shared) (σ : St) (H:Hp) (Q:Bool->Hp->Prop),Inv X pins σ H s->t σ H Q->wpAny (model X.prog X.w) X.A (isTrue e X.env (eval e X.env)) (TP X pins σ Q) X.xe s
def PW(X:Cx)(e:Expr)(t:TT):Prop:=
 ∀(whole:Sem Value) (pins:List (Addr×Obj)) (s:Shared) (σ : St) (H:Hp) (Q:Bool->Hp->Prop),Inv X pins σ H s->t σ H Q->wpAny (model X.prog X.w) X.A (isTrue e X.env whole) (TP X pins σ Q) X.xe s
theorem PW.pt{X:Cx}{e:Expr}{t:TT}(h:PW X e t):PT X e t:=h _
def PA(X:Cx)(es:List Expr)(t:TA):Prop:=
 ∀(pos:Pos) (pins:List (Addr×Obj)) (s:Shared) (σ : St) (H:Hp) (Q:List V->Hp->Prop),Inv X pins σ H s->t σ H Q->wpAny (model X.prog X.w) X.A (spliced (backTo pos (starEach es X.env))) (AP X pins σ Q) X.xe s
def PS(X:Cx)(st:Stmt)(t:TS):Prop:=
 ∀(pins:List (Addr×Obj)) (s:Shared) (σ : St) (H:Hp) (D:Ends),Inv X pins σ H s->t D σ H->wpAny (model X.prog X.w) X.A (exec st X.env) (SP X pins D) X.xe s
def PSs(X:Cx)(st:List Stmt)(t:TS):Prop:=
 ∀(pins:List (Addr×Obj)) (s:Shared) (σ : St) (H:Hp) (D:Ends),Inv X pins σ H s->t D σ H->wpAny (model X.prog X.w) X.A (execs st X.env) (SP X pins D) X.xe s
theorem thn{α : Type}{t:Sem α}{Q Q' : α->Shared->Prop}{M:Model}{A:Around}{E:Value->Shared->Prop}{s:Shared}(h:wpAny M A t Q E s)(hQ:∀a s,Q a s->Q' a s):wpAny M A t Q' E s:=wpAny_mono h hQ λ_ _ x=>x
section
variable{X:Cx}
def tVar(i:Nat):TE:=λσ H Q=>∃v,σ[i]? = some (some v)/\Q v H
def tC(v:V):TE:=λ_ H Q=>Q v H
theorem zwa{i:Nat}{x:Str}{pos:Pos}(hN:X.N[i]? = some x)(hv:Vis X.env.scope x)(hd:(x == ("__debug__" : Str))=false:=by decide)(hcd:(x == ("__classdict__" : Str))=false:=by decide):PE X (.Name x pos) (tVar i):=by
 intro pins s σ H Q I h;obtain⟨v,e,h⟩:=h;obtain⟨m,hn,hl⟩:=I.loc;obtain⟨u,r,l⟩:=hl i x v hN e hv;have fin:EP X pins σ Q u s:=⟨v,H,I,r,h⟩;rcases l with⟨hk,hm⟩ | ⟨hk,c,hc,hcell⟩
 ·exact wpAny_Name (wpAny_loadName_local I.ok.kind hk hn hm fin) hd
 ·rcases hk with hk | hk
  ·exact wpAny_Name (wpAny_loadName_cell I.ok.kind hk hc hcell fin) hd
  ·exact wpAny_Name (wpAny_loadName_free I.ok.kind hk hc hcell fin hcd) hd
theorem zac{i j pos}:PE X (.Constant (.int i) j pos) (tC (.int i)):=λ_ _ _ H _ I h=>wpAny_Constant_int ⟨.int i,H,I.tok _,⟨_,Z⟩,h⟩
theorem zcq{b j pos}:PE X (.Constant (.bool b) j pos) (tC (.bl b)):=λ_ _ _ H _ I h=>Constant_bool ⟨.bl b,H,I,Z,h⟩
theorem zk9{j pos}:PE X (.Constant .none j pos) (tC .non):=λ_ _ _ H _ I h=>Constant_none ⟨.non,H,I,Z,h⟩
theorem zay{x j pos}:PE X (.Constant (.str x) j pos) (tC (.str x)):=λ_ _ _ H _ I h=>Calls.Constant_str ⟨.str x,H,I.tok _,⟨_,Z⟩,h⟩
def Gl(X:Cx)(x:Str):Prop:=X.env.kindOf x=some .globalImplicit
theorem zed{E:Value->Shared->Prop}{pins:List (Addr×Obj)}{s:Shared}{σ : St}{H:Hp}{x:Str}{u:Value}{pos:Pos}{Q:Value->Shared->Prop}(I:Inv X pins σ H s)(hg:Gl X x)(hm:X.mg x=some u)(h:Q u s)
  (hd:(x == ("__debug__" : Str))=false:=by decide):wpAny (model X.prog X.w) X.A (eval (.Name x pos) X.env) Q E s:=
 Calls.Name_function_global I.ok.kind hg (Calls.loadGlobal_global (by rw[I.ok.glob];exact I.mod.glob.keeps I.bk) hm h) hd
theorem ziv{E:Value->Shared->Prop}{pins:List (Addr×Obj)}{s:Shared}{σ : St}{H:Hp}{x:Str}{u:Value}{pos:Pos}{Q:Value->Shared->Prop}(I:Inv X pins σ H s)(hg:Gl X x)(hm:X.mg x=none)(hv:bootBuiltins x=some u)(h:Q u s)
  (hn:x≠"__name__":=by decide) (hd:(x == ("__debug__" : Str))=false:=by decide):wpAny (model X.prog X.w) X.A (eval (.Name x pos) X.env) Q E s:=by
 obtain⟨mb,h1,h2⟩:=I.mod.blt;exact Calls.Name_function_global I.ok.kind hg (Calls.loadGlobal_builtin (by rw[I.ok.glob];exact I.mod.glob.keeps I.bk) hm (by rw[I.ok.blt];exact h1.keeps I.bk) ((h2 x hn).trans hv) h) hd
theorem zhu{x:Str}{v:V}{u:Value}{pos:Pos}(hg:Gl X x)(hm:X.mg x=some u)(r:RelV v u)(hd:(x == ("__debug__" : Str))=false:=by decide):PE X (.Name x pos) (tC v):=
 λ_ _ _ H _ I h=>zed I hg hm ⟨v,H,I,r,h⟩ hd
theorem zfl{x:Str}{v:V}{u:Value}{pos:Pos}(hg:Gl X x)(hm:X.mg x=none)(hv:bootBuiltins x=some u)(r:RelV v u)(hn:x≠"__name__":=by decide)(hd:(x == ("__debug__" : Str))=false:=by decide):PE X (.Name x pos) (tC v):=
 λ_ _ _ H _ I h=>ziv I hg hm hv ⟨v,H,I,r,h⟩ hn hd
variable{a b:Expr}{ta tb:TE}{pos:Pos}
def PC(X:Cx)(op:CmpOp)(a b:Expr)(t:TE):Prop:=
 ∀(pins:List (Addr×Obj)) (s:Shared) (σ : St) (H:Hp) (Q:VK),Inv X pins σ H s->t σ H Q ->
  wpAny (model X.prog X.w) X.A (eval a X.env) (λv s₁=>wpAny (model X.prog X.w) X.A (eval b X.env) (λu s₂=>wpAny (model X.prog X.w) X.A (compareOp op v u) (EP X pins σ Q) X.xe s₂) X.xe s₁) X.xe s
def tB(t:TE):TT:=λσ H Q=>t σ H λx H1=>∃c,x=.bl c/\Q c H1
theorem zwr{op:CmpOp}{t:TE}(h:PC X op a b t)(h1:behindInMarks op b=false:=by first | exact nobehind _ (by decide) (by decide) | rfl):PT X (.Compare a [op] [b] pos) (tB t):=by
 intro pins s σ H Q I hw;refine wpAny_isTrue_Compare1 (thn (h pins s σ H _ I hw) λv s1 h1=>thn h1 λu s2 h2=>thn h2 λc s3 ⟨x,H1,I1,r1,q1⟩=>?_) h1;obtain⟨d,rfl,q⟩:=q1
 cases r1;exact Jo ⟨H1,I1,q⟩
theorem zbt{e:Expr}{t:TE}(h:PE X e t)(he:∀whole,isTrue e X.env whole=(do let v <- whole;standAt e.pos;holding [v] (truthy v)):=by intro _;rfl):PT X e (tB t):=by
 intro pins s σ H Q I hw;refine isTrue_plain (thn (h pins s σ H _ I hw) λv s1 ⟨x,H1,I1,r1,q1⟩=>?_) (he _);obtain⟨d,rfl,q⟩:=q1
 cases r1;exact Jo ⟨H1,I1,q⟩
variable{tA tB':TT}{rest:List Expr}
def tAnd(t u:TT):TT:=λσ H Q=>t σ H λc H1=>if c=true then u σ H1 Q else Q false H1
def tOr(t u:TT):TT:=λσ H Q=>t σ H λc H1=>if c=true then Q true H1 else u σ H1 Q
def tNot(t:TT):TT:=λσ H Q=>t σ H λc H1=>Q (!c) H1
theorem zju(ha:PT X a tA):PW X (.BoolOp .And [a] pos) tA:=by
 intro wh pins s σ H Q I h;refine isTrue_and (thn (ha pins s σ H Q I h) λc s1 e=>?_)
 cases c with
 | true=>exact isTrue_and_nil e
 | false=>exact e
theorem zf6(ha:PT X a tA):PW X (.BoolOp .Or [a] pos) tA:=by
 intro wh pins s σ H Q I h;refine isTrue_or (thn (ha pins s σ H Q I h) λc s1 e=>?_)
 cases c with
 | false=>exact isTrue_or_nil e
 | true=>exact e
theorem zom(ha:PT X a tA)(hb:PW X (.BoolOp .And (b::rest) pos) tB'):PW X (.BoolOp .And (a::b::rest) pos) (tAnd tA tB'):=by
 intro wh pins s σ H Q I h;refine isTrue_and (thn (ha pins s σ H _ I h) λc s1 ⟨H1,I1,q1⟩=>?_)
 cases c with
 | true=>exact hb wh pins s1 σ H1 Q I1 q1
 | false=>exact⟨H1,I1,q1⟩
theorem zhv(ha:PT X a tA)(hb:PW X (.BoolOp .Or (b::rest) pos) tB'):PW X (.BoolOp .Or (a::b::rest) pos) (tOr tA tB'):=by
 intro wh pins s σ H Q I h;refine isTrue_or (thn (ha pins s σ H _ I h) λc s1 ⟨H1,I1,q1⟩=>?_)
 cases c with
 | true=>exact⟨H1,I1,q1⟩
 | false=>exact hb wh pins s1 σ H1 Q I1 q1
theorem zeq(ha:PT X a tA):PT X (.UnaryOp .Not a pos) (tNot tA):=by
 intro pins s σ H Q I h;exact isTrue_not (ha pins s σ H (λc H1=>Q (!c) H1) I h)
def zy8(ta tb:TE):TE:=λσ H Q=>ta σ H λx H1=>∃c,x=.bl c/\if c=true then tb σ H1 Q else Q (.bl false) H1
def tOrV(ta tb:TE):TE:=λσ H Q=>ta σ H λx H1=>∃c,x=.bl c/\if c=true then Q (.bl true) H1 else tb σ H1 Q
def zyl(ta:TE):TE:=λσ H Q=>ta σ H λx H1=>∃c,x=.bl c/\Q (.bl (!c)) H1
theorem zg5{op}{t:TE}(h:PE X a t):PE X (.BoolOp op [a] pos) t:=λpins s σ H Q I hw=>BoolOp_one (h pins s σ H Q I hw)
theorem zi4(ha:PE X a ta)(hb:PE X (.BoolOp .And (b::rest) pos) tb):PE X (.BoolOp .And (a::b::rest) pos) (zy8 ta tb):=by
 intro pins s σ H Q I h;refine BoolOp_and (thn (ha pins s σ H _ I h) λv s1 ⟨x,H1,I1,r1,q1⟩=>?_);obtain⟨c,rfl,q1⟩:=q1
 cases r1;refine Jo ?_
 cases c with
 | true=>exact hb pins s1 σ H1 Q I1 q1
 | false=>exact⟨.bl false,H1,I1,rfl,q1⟩
theorem zwg(ha:PE X a ta)(hb:PE X (.BoolOp .Or (b::rest) pos) tb):PE X (.BoolOp .Or (a::b::rest) pos) (tOrV ta tb):=by
 intro pins s σ H Q I h;refine BoolOp_or (thn (ha pins s σ H _ I h) λv s1 ⟨x,H1,I1,r1,q1⟩=>?_);obtain⟨c,rfl,q1⟩:=q1
 cases r1;refine Jo ?_
 cases c with
 | false=>exact hb pins s1 σ H1 Q I1 q1
 | true=>exact⟨.bl true,H1,I1,rfl,q1⟩
theorem zxa(ha:PE X a ta):PE X (.UnaryOp .Not a pos) (zyl ta):=by
 intro pins s σ H Q I h;refine UnaryOp_ (thn (ha pins s σ H _ I h) λv s1 ⟨x,H1,I1,r1,q1⟩=>?_);obtain⟨c,rfl,q1⟩:=q1
 cases r1;exact not_of (Jo ⟨.bl (!c),H1,I1,Z,q1⟩)
def tIf(t:TT)(ta tb:TE):TE:=λσ H Q=>t σ H λc H1=>if c=true then ta σ H1 Q else tb σ H1 Q
theorem zh5{c:Expr}(hc:PT X c tA)(ha:PE X a ta)(hb:PE X b tb):PE X (.IfExp c a b pos) (tIf tA ta tb):=by
 intro pins s σ H Q I h;refine wpAny_IfExp (thn (hc pins s σ H _ I h) λd s1 ⟨H1,I1,q1⟩=>?_)
 cases d with
 | true=>exact ha pins s1 σ H1 Q I1 q1
 | false=>exact hb pins s1 σ H1 Q I1 q1
end
def SqL(K:W.Frag)(H:Hp)(a:Addr)(xs:List V):Prop:=
 Rd H a (.lst xs) \/
  ∃(o:Obj) (its:Array Value) (n:Nat),K.lookup a=some o/\o.cls=.type "list"/\o.dict=none/\o.data=.seq its n/\its.size<=sizeLine/\Vals xs its.toList
def SqT(K:W.Frag)(H:Hp)(a:Addr)(xs:List V):Prop:=
 Rd H a (.tup xs) \/
  ∃(o:Obj) (its:Array Value) (n:Nat),K.lookup a=some o/\o.cls=.type "tuple"/\o.data=.seq its n/\its.size<=sizeLine/\Vals xs its.toList
def absV:Value->Option V
 | .none=>some .non
 | .bool b=>some (.bl b)
 | .int i _=>some (.int i)
 | .str x _=>some (.str x)
 | .bytes b _=>some (.byt b)
 | .float b _=>some (.flt b)
 | .ref a=>some (.ref a)
 | .type n=>some (.ty n)
 | _=>none
theorem RelV.abs{x:V}{u:Value}(r:RelV x u):absV u=some x:=by
 cases x with
 | non=>cases r;rfl
 | bl _=>cases r;rfl
 | int _=>obtain⟨t,rfl⟩:=r;rfl
 | str _=>obtain⟨t,rfl⟩:=r;rfl
 | byt _=>obtain⟨t,rfl⟩:=r;rfl
 | flt _=>obtain⟨t,rfl⟩:=r;rfl
 | ref _=>cases r;rfl
 | ty _=>cases r;rfl
theorem RelV.inj{x y:V}{u:Value}(r:RelV x u)(q:RelV y u):x=y:=Je (r.abs.symm.trans q.abs)
theorem Vals.inj:∀{xs ys:List V} {us:List Value},Vals xs us->Vals ys us->xs=ys
 | _,_,_,.nil,.nil=>rfl
 | _,_,_,.cons r t,.cons r' t'=>by rw[r.inj r',Vals.inj t t']
section
variable{X:Cx}{pins:List (Addr×Obj)}{σ : St}{H:Hp}{s:Shared}{a:Addr}{xs ys:List V}
theorem SqL.of{K:W.Frag}(h:H a=some (.lst xs)):SqL K H a xs:=.inl (.inl h)
theorem SqT.of{K:W.Frag}(h:H a=some (.tup xs)):SqT K H a xs:=.inl (.inl h)
theorem Inv.list(I:Inv X pins σ H s)(h:SqL X.K H a xs):∃its:List Value,Vals xs its/\PlainL s.heap a its.toArray/\xs.length<=sizeLine:=by
 rcases h with h | ⟨o,its,n,hk,hc,hd,hs,hz,r⟩
 ·obtain⟨z,its,n,r,e⟩:=h.ok I.hok;exact⟨its,r,⟨_,n,e,Z,Z,Z⟩,z⟩
 ·refine⟨its.toList,r,⟨o,n,I.kIn a o hk,hc,hd,by simpa using hs⟩,?_⟩;have e:=r.length;simp only[Array.length_toList]at e;omega
theorem Inv.tuple(I:Inv X pins σ H s)(h:SqT X.K H a xs):∃its:List Value,Vals xs its/\IsTup s.heap a its.toArray/\xs.length<=sizeLine:=by
 rcases h with h | ⟨o,its,n,hk,hc,hs,hz,r⟩
 ·obtain⟨z,its,r,p⟩:=h.ok I.hok;exact⟨its,r,p,z⟩
 ·refine⟨its.toList,r,⟨o,I.kIn a o hk,hc,n,by simpa using hs⟩,?_⟩;have e:=r.length;simp only[Array.length_toList]at e;omega
theorem Inv.list_inj(I:Inv X pins σ H s)(h:SqL X.K H a xs)(h':SqL X.K H a ys):xs=ys:=by
 obtain⟨its,r,⟨o,n,e,_,_,d⟩,_⟩:=I.list h;obtain⟨its',r',⟨o',n',e',_,_,d'⟩,_⟩:=I.list h';rw[e]at e';cases e';rw[d]at d';injection d' with d1 _
 have:its=its':=by simpa using Jt Array.toList d1
 subst this;exact r.inj r'
theorem Inv.tuple_inj(I:Inv X pins σ H s)(h:SqT X.K H a xs)(h':SqT X.K H a ys):xs=ys:=by
 obtain⟨its,r,⟨o,e,_,n,d⟩,_⟩:=I.tuple h;obtain⟨its',r',⟨o',e',_,n',d'⟩,_⟩:=I.tuple h';rw[e]at e';cases e';rw[d]at d';injection d' with d1 _
 have:its=its':=by simpa using Jt Array.toList d1
 subst this;exact r.inj r'
end
abbrev Cx.wish(X:Cx)(E:Value->Shared->Prop):Cx:={ X with xe:=E }
abbrev Cx.nox(X:Cx):Cx:=X.wish λ_ _=>False
theorem Cx.Ok.wish{X:Cx}(ok:X.Ok)(E:Value->Shared->Prop):(X.wish E).Ok:=
 ⟨ok.mod,ok.kind,ok.glob,ok.blt,ok.above,ok.inj,ok.has,ok.cab,ok.hd,ok.frames,ok.stk,ok.exf,ok.bs,ok.bsz,ok.noex,ok.exfs,ok.funs,ok.frf⟩
theorem Cx.Ok.unwish{X:Cx}{E:Value->Shared->Prop}(ok:(X.wish E).Ok):X.Ok:=
 ⟨ok.mod,ok.kind,ok.glob,ok.blt,ok.above,ok.inj,ok.has,ok.cab,ok.hd,ok.frames,ok.stk,ok.exf,ok.bs,ok.bsz,ok.noex,ok.exfs,ok.funs,ok.frf⟩
section
variable{X:Cx}{pins:List (Addr×Obj)}{σ : St}{H:Hp}{s:Shared}{E:Value->Shared->Prop}
theorem Inv.wish(I:Inv X pins σ H s)(E:Value->Shared->Prop):Inv (X.wish E) pins σ H s:=⟨I.ok.wish E,I.os,I.bare,I.base,I.loc,I.cell,I.free,I.freeC,I.pin,I.hok,I.len⟩
theorem Inv.unwish(I:Inv (X.wish E) pins σ H s):Inv X pins σ H s:=⟨I.ok.unwish,I.os,I.bare,I.base,I.loc,I.cell,I.free,I.freeC,I.pin,I.hok,I.len⟩
theorem SP.unwish{D:Ends}{f:Flow}{s':Shared}(h:SP (X.wish E) pins D f s'):SP X pins D f s':=by
 cases f with
 | next=>obtain⟨σ',H',I,q⟩:=h;exact⟨σ',H',I.unwish,q⟩
 | brk=>obtain⟨σ',H',I,q⟩:=h;exact⟨σ',H',I.unwish,q⟩
 | cont=>obtain⟨σ',H',I,q⟩:=h;exact⟨σ',H',I.unwish,q⟩
 | ret u=>obtain⟨v,σ',H',I,r,q⟩:=h;exact⟨v,σ',H',I.unwish,r,q⟩
theorem PSs.nox{st:List Stmt}{t:TS}(h:PSs X.nox st t):PSs X st t:=λpins s σ H D I hw=>
 wpAny_mono (h pins s σ H D (I.wish _) hw) (λ_ _ q=>q.unwish) λ_ _ z=>Jd z
end
section
variable{X:Cx}{st:Stmt}{rest:List Stmt}{t u:TS}{e:Expr}{te:TE}{pos:Pos}
def zv7:TS:=λD σ H=>D.nx σ H
def tSeq(t u:TS):TS:=λD σ H=>t { D with nx:=u D } σ H
theorem zat:PSs X [] zv7:=λ_ _ σ H _ I h=>wpAny_execs_nil ⟨σ,H,I,h⟩
theorem zad(h1:PS X st t)(h2:PSs X rest u):PSs X (st::rest) (tSeq t u):=by
 intro pins s σ H D I h;refine wpAny_execs_cons (thn (h1 pins s σ H { D with nx:=u D } I h) λf s1 q=>?_)
 cases f with
 | next=>
  obtain⟨σ',H',I',q⟩:=q;exact h2 pins s1 σ' H' D I' q
 | ret v=>exact q
 | brk=>exact q
 | cont=>exact q
theorem zah(h1:PS X st t):PSs X [st] t:=by
 intro pins s σ H D I h;refine wpAny_execs_cons (thn (h1 pins s σ H D I h) λf s1 q=>?_)
 cases f with
 | next=>exact wpAny_execs_nil q
 | ret v=>exact q
 | brk=>exact q
 | cont=>exact q
theorem Inv.quiet{pins:List (Addr×Obj)}{σ : St}{H:Hp}{s:Shared}(I:Inv X pins σ H s):interactive X.env=false:=by simp[interactive,I.ok.kind]
def zx5(te:TE):TS:=λD σ H=>te σ H λ_ H1=>D.nx σ H1
theorem zb9(he:PE X e te)(hs:swapsWith e none pos.line X.env=pure false:=by rfl):PS X (.Expr e pos) (zx5 te):=by
 intro pins s σ H D I h;exact wpAny_Expr_any (thn (he pins s σ H _ I h) λv s1 ⟨x,H1,I1,r1,q1⟩=>⟨σ,H1,I1,q1⟩) I.quiet hs
def tRet(te:TE):TS:=λD σ H=>te σ H D.rt
theorem zao(he:PE X e te):PS X (.Return (some e) pos) (tRet te):=by
 intro pins s σ H D I h;exact wpAny_Return_some (thn (he pins s σ H _ I h) λv s1 ⟨x,H1,I1,r1,q1⟩=>⟨x,σ,H1,I1,r1,q1⟩)
def tIfS(c:TT)(t u:TS):TS:=λD σ H=>c σ H λb H1=>if b=true then t D σ H1 else u D σ H1
theorem za0{c:Expr}{a b:List Stmt}{tc:TT}(hc:PT X c tc)(ha:PSs X a t)(hb:PSs X b u):PS X (.If c a b pos) (tIfS tc t u):=by
 intro pins s σ H D I h;refine wpAny_If (thn (hc pins s σ H _ I h) λd s1 ⟨H1,I1,q1⟩=>?_)
 cases d with
 | true=>exact ha pins s1 σ H1 D I1 q1
 | false=>exact hb pins s1 σ H1 D I1 q1
end
abbrev TG:=V->St->Hp->(St->Hp->Prop)->Prop
abbrev TGs:=List V->St->Hp->(St->Hp->Prop)->Prop
def PG(X:Cx)(target:Expr)(t:TG):Prop:=
 ∀(pins:List (Addr×Obj)) (s:Shared) (σ : St) (H:Hp) (v:V) (u:Value) (Q:St->Hp->Prop),Inv X pins σ H s->RelV v u->t v σ H Q ->
  wpAny (model X.prog X.w) X.A (assign target X.env u) (λ_ s'=>∃σ' H',Inv X pins σ' H' s'/\Q σ' H') X.xe s
def PGs(X:Cx)(ts:List Expr)(t:TGs):Prop:=
 ∀(pins:List (Addr×Obj)) (s:Shared) (σ : St) (H:Hp) (vs:List V) (us:List Value) (Q:St->Hp->Prop),Inv X pins σ H s->Vals vs us->t vs σ H Q ->
  wpAny (model X.prog X.w) X.A (assignInOrder ((assignEach ts X.env).map (·.2)) us) (λ_ s'=>∃σ' H',Inv X pins σ' H' s'/\Q σ' H') X.xe s
abbrev TIp:=V->V->Hp->VK->Prop
def PIp(X:Cx)(op:Operator)(t:TIp):Prop:=
 ∀(pins:List (Addr×Obj)) (s:Shared) (σ : St) (H:Hp) (x y:V) (v u:Value) (Q:VK),Inv X pins σ H s->RelV x v->RelV y u->t x y H Q ->
  wpAny (model X.prog X.w) X.A (inplaceOp op v u) (EP X pins σ Q) X.xe s
section
variable{X:Cx}{pos:Pos}
def za3(i:Nat):TG:=λv σ H Q=>Q (σ.set i (some v)) H
theorem zbb{i:Nat}{x:Str}(hN:X.N.Nodup)(hi:X.N[i]? = some x)(hx:Loc X.env.scope x)(hf:X.fn x=true\/X.env.scope.names.lookup x=some .local:=by first | exact .inl rfl | exact .inr rfl | assumption):PG X (.Name x pos) (za3 i):=by
 intro pins s σ H v u Q I r h;exact wpAny_assign_Name (zge I hN hi hx r (λs' I'=>⟨_,H,I',h⟩) hf)
def gNil:TGs:=λvs σ H Q=>vs=[]/\Q σ H
def znj(t:TG)(u:TGs):TGs:=λvs σ H Q=>∃v r,vs=v::r/\t v σ H λσ' H'=>u r σ' H' Q
theorem zc8:PGs X [] gNil:=by
 intro pins s σ H vs us Q I r h;obtain⟨e,h⟩:=h;subst e
 cases r;exact assignInOrder_nil ⟨σ,H,I,h⟩
theorem za9{e:Expr}{es:List Expr}{t:TG}{u:TGs}(h1:PG X e t)(h2:PGs X es u)
  (hs:(assignEach (e::es) X.env).map (·.2)=assign e X.env::(assignEach es X.env).map (·.2):=by rfl):PGs X (e::es) (znj t u):=by
 intro pins s σ H vs us Q I r h;obtain⟨v,vr,e1,h⟩:=h;subst e1
 cases r with
 | cons r rr=>
  rw[hs];refine assignInOrder_cons (thn (h1 pins s σ H _ _ _ I r h) λ_ s1 ⟨σ1,H1,I1,q1⟩=>?_);exact h2 pins s1 σ1 H1 _ _ Q I1 rr q1
def gTup(K:W.Frag)(n:Nat)(t:TGs):TG:=λv σ H Q=>∃a xs,v=.ref a/\SqT K H a xs/\xs.length=n/\t xs σ H Q
theorem zes{es:List Expr}{k:Nat}{t:TGs}{n:Nat}(hc:X.calm=true)(h:PGs X es t)
  (hn:(assignEach es X.env).length=n:=by rfl) (hst:(assignEach es X.env).findIdx? (·.1)=none:=by rfl):PG X (.Tuple es k pos) (gTup X.K n t):=by
 intro pins s σ H v u Q I r hw;obtain⟨a,xs,e1,hq,hl,hw⟩:=hw;subst e1
 cases r;obtain⟨its,rv,ht,hz⟩:=I.tuple hq;refine assign_Tuple_tuple (I.ok.hd hc) ht (by simp[hn,<- hl,rv.length]) hst λh' hx=>?_
 have I1:Inv X pins σ H { s with heap:=h' }:=I.kept (t':=s.toks) λb o e=>hx b o (Y0 (Yn e)) e
 exact h pins _ σ H xs _ Q I1 (by simpa using rv) hw
def tAsg(te:TE)(g:TG):TS:=λD σ H=>te σ H λx H1=>g x σ H1 D.nx
theorem zaq{i:Nat}{x:Str}{e:Expr}{te:TE}{pos':Pos}(hN:X.N.Nodup)(hi:X.N[i]? = some x)(hx:Loc X.env.scope x)(he:PE X e te)(hs:swapsWith e (some (.Name x pos')) pos.line X.env=pure false:=by rfl)(hf:X.fn x=true\/X.env.scope.names.lookup x=some .local:=by first | exact .inl rfl | exact .inr rfl | assumption) :
  PS X (.Assign [.Name x pos'] e pos) (tAsg te (za3 i)):=by
 intro pins s σ H D I h;refine wpAny_Assign_Name (thn (he pins s σ H _ I h) λv s1 ⟨y,H1,I1,r1,q1⟩=>?_) hs;exact zge I1 hN hi hx r1 (λs2 I2=>⟨_,H1,I2,q1⟩) hf
def tAug(i:Nat)(te:TE)(ti:TIp):TS:=λD σ H=>∃x,σ[i]? = some (some x)/\te σ H λy H1=>ti x y H1 λz H2=>D.nx (σ.set i (some z)) H2
theorem zvv{i:Nat}{x:Str}{e:Expr}{te:TE}{op:Operator}{ti:TIp}{pos':Pos}(hN:X.N.Nodup)(hi:X.N[i]? = some x)(hx:Loc X.env.scope x)(he:PE X e te)(ho:PIp X op ti)(hf:X.fn x=true\/X.env.scope.names.lookup x=some .local:=by first | exact .inl rfl | exact .inr rfl | assumption) :
  PS X (.AugAssign (.Name x pos') op e pos) (tAug i te ti):=by
 intro pins s σ H D I h;obtain⟨v,e1,h⟩:=h;obtain⟨m,hn,hl⟩:=I.loc;have vis:Vis X.env.scope x:=by rcases hx with k | k;exact .inl k;exact .inr (.inl k)
 obtain⟨u,r,l⟩:=hl i x v hi e1 vis;refine wpAny_AugAssign_Name ?_;have go:wpAny (model X.prog X.w) X.A (eval e X.env) (λw s₂=>wpAny (model X.prog X.w) X.A (inplaceOp op u w) (λr s₃=>wpAny (model X.prog X.w) X.A (storeName X.env x r) (λ_=>SP X pins D .next) X.xe s₃) X.xe s₂) X.xe s:=by
  refine thn (he pins s σ H _ I h) λw s1 ⟨y,H1,I1,r1,q1⟩=>?_
  refine thn (ho pins s1 σ H1 v y u w _ I1 r r1 q1) λz s2 ⟨zv,H2,I2,r2,q2⟩=>?_
  exact zge I2 hN hi hx r2 (λs3 I3=>⟨_,H2,I3,q2⟩) hf
 rcases l with⟨hk,hm⟩ | ⟨hk,c,hc,hcell⟩
 ·exact wpAny_loadName_local I.ok.kind hk hn hm go
 ·rcases hk with hk | hk
  ·exact wpAny_loadName_cell I.ok.kind hk hc hcell go
  ·rcases hx with k | k
   ·have:X.env.scope.names.lookup x=some .free:=hk;rw[k]at this;cases this
   ·have:X.env.scope.names.lookup x=some .free:=hk;rw[k]at this;cases this
def ipI(f:Int->Int->Int):TIp:=λx y H Q=>∃i j,x=.int i/\y=.int j/\Q (.int (f i j)) H
theorem zur:PIp X .Add (ipI λi j=>i+j):=by
 intro pins s σ H x y v u Q I r1 r2 h;obtain⟨i,j,e1,e2,q⟩:=h;subst e1;subst e2;obtain⟨t,rfl⟩:=r1;obtain⟨t',rfl⟩:=r2;exact iadd_int ⟨.int _,H,I.tok _,⟨_,rfl⟩,q⟩
end
section
variable{X:Cx}{pos:Pos}
def zvu(c:TT)(tb:TS):TS:=λD σ H=>∃W:Nat->St->Hp->Prop,(∃m,W m σ H)/\∀m σ H,W m σ H ->
 c σ H λb H1=>if b=true then ∃N:St->Hp->Prop,(∀σ' H',N σ' H'->∃m',m'<m/\W m' σ' H')/\tb { D with nx:=N,ct:=N,bk:=D.nx } σ H1 else D.nx σ H1
theorem zb5{c:Expr}{body:List Stmt}{tc:TT}{tb:TS}(hp:PassesOwn (model X.prog X.w) X.A X.env X.xe)(hc:PT X c tc)(hb:PSs X body tb):PS X (.While c body [] pos) (zvu tc tb):=by
 intro pins s σ H D I h;obtain⟨W,⟨m0,w0⟩,turn⟩:=h;refine wpAny_While (codeAny_whileLoop (λn s'=>∃σ' H',Inv X pins σ' H' s'/\W n σ' H') ?_ m0 ⟨σ,H,I,w0⟩);rintro n s1 ⟨σ1,H1,I1,w1⟩;refine wpAny_passesOwn hp (thn (hc pins s1 σ1 H1 _ I1 (turn n σ1 H1 w1)) λb s2 ⟨H2,I2,q2⟩=>?_)
 cases b with
 | true=>
  obtain⟨N,hN,q2⟩:=q2;rw[Yl rfl];refine wpAny_passesOwn hp (thn (hb pins s2 σ1 H2 _ I2 q2) λf s3 q3=>?_)
  cases f with
  | next=>
   obtain⟨σ3,H3,I3,n3⟩:=q3;obtain⟨m',hm,w3⟩:=hN σ3 H3 n3;exact⟨m',hm,σ3,H3,I3,w3⟩
  | cont=>
   obtain⟨σ3,H3,I3,n3⟩:=q3;obtain⟨m',hm,w3⟩:=hN σ3 H3 n3;exact⟨m',hm,σ3,H3,I3,w3⟩
  | brk=>exact q3
  | ret v=>exact q3
 | false=>
  rw[Yh Yt];exact wpAny_execs_nil ⟨σ1,H2,I2,q2⟩
end
structure It where
 go:Nat->Hp->Prop
 yld:Nat->Hp->V->Hp->Prop
 stop:Nat->Hp->Prop
def FpOk(X:Cx)(pins:List (Addr×Obj))(H:Hp)(b:Addr):Prop:=
 H b=none/\b≠X.env.locals/\b ∉ X.fs/\(b∈X.ex\/X.s₀.heap.objs.size<=b)/\(∀x c,X.env.cells.lookup x=some c->c≠b)/\∀p∈X.pn++pins,p.1≠b
theorem Inv.fpOk{X:Cx}{pins:List (Addr×Obj)}{σ : St}{H H':Hp}{s:Shared}{b:Addr}(I:Inv X pins σ H s)(hb:s.heap.objs.size<=b)(hn:H' b=none):FpOk X pins H' b:=by
 refine⟨hn,Nat.ne_of_gt (Yf I.lt hb),I.nofs hb,.inr (Yr I.sz hb),λx c e z=>?_,λp hp z=>?_⟩
 ·obtain⟨v,q⟩:=I.cell x c e;exact absurd (Yf q.lt (by rw[z];exact hb)) (Nat.lt_irrefl _)
 ·exact absurd (Yf (Yn (I.pin p hp).1) (by rw[z];exact hb)) (Nat.lt_irrefl _)
structure Turn(P:Program)(w:World)(K:W.Frag)(tg:Expr)(J:It)(fp:List Addr)(it:Addr)(tn:Nat->Heap->Prop):Prop where
 mem:it∈fp
 obj:∀i h,tn i h->∀b∈fp,∃o,h.get? b=some o/\∀v,o.data≠.cell v
 keep:∀i h h',tn i h->(∀b∈fp,∀o,h.get? b=some o->h'.get? b=some o)->tn i h'
 item:∀(X:Cx),X.prog=P->X.w=w->X.K=K->X.calm=true->∀(i:Nat) (pins:List (Addr×Obj)) (s:Shared) (σ : St) (H:Hp) (E:Value->Shared->Prop),Inv X pins σ H s->(∀b∈fp,FpOk X pins H b)->tn i s.heap->J.go i H ->
  wpAny (model P w) X.A (pyNext (.ref it)) (λr s1=>∃u,r=some u /\
   wpAny (model P w) X.A (letOwnedTupleGo tg (.ref it) u) (λ_ s2=>∃x H',Inv X pins σ H' s2/\RelV x u/\J.yld i H x H'/\tn (i+1) s2.heap/\∀b∈fp,H' b=none) E s1) E s
 done:∀(X:Cx),X.prog=P->X.w=w->X.K=K->X.calm=true->∀(i:Nat) (pins:List (Addr×Obj)) (s:Shared) (σ : St) (H:Hp) (E:Value->Shared->Prop),Inv X pins σ H s->(∀b∈fp,FpOk X pins H b)->tn i s.heap->J.stop i H ->
  wpAny (model P w) X.A (pyNext (.ref it)) (λr s1=>r=none/\Inv X pins σ H s1) E s
 self:∀(A:Around) (i:Nat) (s:Shared) (Q:Value->Shared->Prop) (E:Value->Shared->Prop),tn i s.heap->Q (.ref it) s->wpAny (model P w) A (pyIter (.ref it)) Q E s
abbrev TI:=St->Hp->(It->Hp->Prop)->Prop
def PIE(X:Cx)(pins:List (Addr×Obj))(σ : St)(tg:Expr)(R:It->Hp->Prop)(itv:Value)(s2:Shared):Prop:=
 ∃(it:Addr) (fp:List Addr) (tn:Nat->Heap->Prop) (J:It) (H':Hp),itv=.ref it/\Inv X pins σ H' s2/\Turn X.prog X.w X.K tg J fp it tn/\tn 0 s2.heap/\(∀b∈fp,FpOk X pins H' b)/\R J H'
def PI(X:Cx)(tg iter:Expr)(wi:TI):Prop:=
 ∀(pins:List (Addr×Obj)) (s:Shared) (σ : St) (H:Hp) (R:It->Hp->Prop),Inv X pins σ H s->wi σ H R ->
  wpAny (model X.prog X.w) X.A (eval iter X.env) (λv s1=>wpAny (model X.prog X.w) X.A (pyIter v) (PIE X pins σ tg R) X.xe s1) X.xe s
theorem zsq{M:Model}{A:Around}{E:Value->Shared->Prop}{s:Shared}{tg:Expr}{it:Addr}{u:Value}{o:Obj}{n:String}{vs:Array Value}{Q:Unit->Shared->Prop}(ho:s.heap.get? it=some o)(hc:o.cls=.type n)(hd:o.data=.fields vs)
  (hn:["enumerate","zip","dict_itemiterator","dict_reverseitemiterator","odict_iterator","itertools.zip_longest","itertools.pairwise"].contains n=false) (hQ:Q () s):wpAny M A (letOwnedTupleGo tg (.ref it) u) Q E s:=by
 unfold letOwnedTupleGo
 cases tg <;> first
  | exact Yb hQ
  | (cases u <;> first
    | exact Yb hQ
    | (refine Ya (wpAny_load ho ?_)
       rw[hc,hd];show wpAny M A (if (["enumerate","zip","dict_itemiterator","dict_reverseitemiterator","odict_iterator","itertools.zip_longest","itertools.pairwise"].contains n&&vs[0]? == some (rawInt _))=true then _ else _) Q E s;rw[Yh (by intro h;rw[hn,Bool.false_and]at h;cases h)];exact Yb hQ))
def Itl(K:W.Frag)(a:Addr):It:=
 ⟨λi H=>∃xs x,SqL K H a xs/\xs[i]? = some x,λi H x H'=>H'=H/\∀xs,SqL K H a xs->xs[i]? = some x,λi H=>∃xs,SqL K H a xs/\xs.length<=i⟩
def Itt(K:W.Frag)(a:Addr):It:=
 ⟨λi H=>∃xs x,SqT K H a xs/\xs[i]? = some x,λi H x H'=>H'=H/\∀xs,SqT K H a xs->xs[i]? = some x,λi H=>∃xs,SqT K H a xs/\xs.length<=i⟩
def Itr(lo:Int)(n:Nat):It:=⟨λi _=>i<n,λi H x H'=>H'=H/\x=.int (lo+i),λi _=>n<=i⟩
theorem zmb{P:Program}{w:World}{K:W.Frag}{tg:Expr}(a it:Addr):Turn P w K tg (Itl K a) [it] it (λi h=>h.IsListIter it a i) where
 mem:=by simp
 obj:=λi h st b hb=>by
  have e:b=it:=by simpa using hb
  subst e;obtain⟨o,e,c,d⟩:=st;exact⟨o,e,λv z=>by rw[d]at z;cases z⟩
 keep:=λi h h' st k=>st.at λo e=>k it (by simp) o e
 item:=by
  intro X hP hw hK hc i pins s σ H E I hf st hg;subst hP hw hK;obtain⟨xs,x,hq,hx⟩:=hg;obtain⟨its,rv,p,hz⟩:=I.list hq;obtain⟨u,hu,ru⟩:=rv.get hx;obtain⟨f0,f1,f2,f3,f4,f5⟩:=hf it (by simp);refine wpAny_pyNext_list_item st p.isList (x:=u) (by simpa using hu) λh' st' sb=>?_
  have I1:Inv X pins σ H { s with heap:=h' }:=I.turned (t':=s.toks) (λb o hb e=>(sb.2 b hb).trans e) f0 f1 f3 f4 f5;obtain⟨o,e,c,d⟩:=id st';exact⟨u,Z,zsq (s:={ s with heap:=h' }) e c d (by decide) ⟨x,H,I1,ru,⟨Z,λys hy=>by rw[I.list_inj hy hq];exact hx⟩,st',λb hb=>(hf b hb).1⟩⟩
 done:=by
  intro X hP hw hK hc i pins s σ H E I hf st hg;subst hP hw hK;obtain⟨xs,hq,hx⟩:=hg;obtain⟨its,rv,p,hz⟩:=I.list hq;obtain⟨f0,f1,f2,f3,f4,f5⟩:=hf it (by simp);have hl:=rv.length;exact wpAny_pyNext_list_end (I.ok.hd hc) st p.isList (by simp;omega) λh' eb=>⟨rfl,I.turned (t':=s.toks) (λb o hb e=>eb b o hb e) f0 f1 f3 f4 f5⟩
 self:=λ_ _ _ _ _ st h=>wpAny_pyIter_listiter st h
theorem zl0{P:Program}{w:World}{K:W.Frag}{tg:Expr}(a it:Addr):Turn P w K tg (Itt K a) [it] it (λi h=>h.IsTupleIter it a i) where
 mem:=by simp
 obj:=λi h st b hb=>by
  have e:b=it:=by simpa using hb
  subst e;obtain⟨o,e,c,d⟩:=st;exact⟨o,e,λv z=>by rw[d]at z;cases z⟩
 keep:=λi h h' st k=>st.at λo e=>k it (by simp) o e
 item:=by
  intro X hP hw hK hc i pins s σ H E I hf st hg;subst hP hw hK;obtain⟨xs,x,hq,hx⟩:=hg;obtain⟨its,rv,p,hz⟩:=I.tuple hq;obtain⟨u,hu,ru⟩:=rv.get hx;obtain⟨f0,f1,f2,f3,f4,f5⟩:=hf it (by simp);refine wpAny_pyNext_tuple_item st (show s.heap.IsTuple a its.toArray from p) (x:=u) (by simpa using hu) λh' st' sb=>?_
  have I1:Inv X pins σ H { s with heap:=h' }:=I.turned (t':=s.toks) (λb o hb e=>(sb.2 b hb).trans e) f0 f1 f3 f4 f5;obtain⟨o,e,c,d⟩:=id st';exact⟨u,Z,zsq (s:={ s with heap:=h' }) e c d (by decide) ⟨x,H,I1,ru,⟨Z,λys hy=>by rw[I.tuple_inj hy hq];exact hx⟩,st',λb hb=>(hf b hb).1⟩⟩
 done:=by
  intro X hP hw hK hc i pins s σ H E I hf st hg;subst hP hw hK;obtain⟨xs,hq,hx⟩:=hg;obtain⟨its,rv,p,hz⟩:=I.tuple hq;obtain⟨f0,f1,f2,f3,f4,f5⟩:=hf it (by simp);have hl:=rv.length;exact wpAny_pyNext_tuple_end (I.ok.hd hc) st (show s.heap.IsTuple a its.toArray from p) (by simp;omega) λh' eb=>⟨rfl,I.turned (t':=s.toks) (λb o hb e=>eb b o hb e) f0 f1 f3 f4 f5⟩
 self:=λ_ _ _ _ _ st h=>wpAny_pyIter_tupleiter st h
theorem zl2{P:Program}{w:World}{K:W.Frag}{tg:Expr}(it:Addr)(lo:Int)(n:Nat):Turn P w K tg (Itr lo n) [it] it (λi h=>IsRangeIter h it (lo+(i:Nat)*1) ((n:Int)-(i:Nat)) 1) where
 mem:=by simp
 obj:=λi h st b hb=>by
  have e:b=it:=by simpa using hb
  subst e;exact⟨_,st,λv z=>by
   have z':Data.fields _=Data.cell v:=z
   cases z'⟩
 keep:=λi h h' st k=>k it (by simp) _ st
 item:=by
  intro X hP hw hK hc i pins s σ H E I hf st hg;subst hP hw hK;obtain⟨f0,f1,f2,f3,f4,f5⟩:=hf it (by simp);have W:=Walks.range (prog:=X.prog) (w:=X.w) (I.ok.hd hc) it lo 1 n;refine W.item i s _ _ hg st λv h' tk hv st' kk=>?_
  obtain⟨t,rfl⟩:=hv;have I1:Inv X pins σ H { s with heap:=h',toks:=tk }:=I.turned (λb o hb e=>kk b o (by simpa using hb) e) f0 f1 f3 f4 f5;refine⟨_,Z,zsq (s:={ s with heap:=h',toks:=tk }) (n:="range_iterator") st' rfl rfl (by decide) ⟨.int (lo+i),H,I1,⟨t,?_⟩,⟨Z,Z⟩,st',λb hb=>(hf b hb).1⟩⟩;rw[Int.mul_one]
 done:=by
  intro X hP hw hK hc i pins s σ H E I hf st hg;subst hP hw hK;obtain⟨f0,f1,f2,f3,f4,f5⟩:=hf it (by simp);exact wpAny_pyNext_range_end (I.ok.hd hc) st (by have:n<=i:=hg;omega) λh' eb=>⟨rfl,I.turned (t':=s.toks) (λb o hb e=>eb b o hb e) f0 f1 f3 f4 f5⟩
 self:=λ_ _ _ _ _ st h=>wpAny_pyIter_rangeiter st h
section
variable{X:Cx}{tg:Expr}
def zu4(K:W.Frag)(tl:TE):TI:=λσ H R=>tl σ H λx H1=>∃a,x=.ref a/\(∃xs,SqL K H1 a xs)/\R (Itl K a) H1
def iTup(K:W.Frag)(tl:TE):TI:=λσ H R=>tl σ H λx H1=>∃a,x=.ref a/\(∃xs,SqT K H1 a xs)/\R (Itt K a) H1
theorem zud{l:Expr}{tl:TE}(hl:PE X l tl):PI X tg l (zu4 X.K tl):=by
 intro pins s σ H R I h;refine thn (hl pins s σ H _ I h) λv s1 ⟨x,H1,I1,r1,q1⟩=>?_
 obtain⟨a,e,⟨xs,hq⟩,q⟩:=q1;subst e
 cases r1;obtain⟨its,rv,p,hz⟩:=I1.list hq;refine wpAny_pyIter_list p.isList ?_;refine⟨s1.heap.objs.size,[s1.heap.objs.size],_,_,H1,Z,I1.kept (t':=s1.toks) λb o e=>Ye _ e,zmb a _,⟨_,Yk _ rfl,Z,Z⟩,λb hb=>?_,q⟩;have e:b=s1.heap.objs.size:=by simpa using hb
 subst e;exact I1.fpOk (Yi _) (I1.hok.fresh (Yi _))
theorem zxe{l:Expr}{tl:TE}(hl:PE X l tl):PI X tg l (iTup X.K tl):=by
 intro pins s σ H R I h;refine thn (hl pins s σ H _ I h) λv s1 ⟨x,H1,I1,r1,q1⟩=>?_
 obtain⟨a,e,⟨xs,hq⟩,q⟩:=q1;subst e
 cases r1;obtain⟨its,rv,p,hz⟩:=I1.tuple hq;refine wpAny_pyIter_tuple (show s1.heap.IsTuple a its.toArray from p) ?_;refine⟨s1.heap.objs.size,[s1.heap.objs.size],_,_,H1,Z,I1.kept (t':=s1.toks) λb o e=>Ye _ e,zl0 a _,⟨_,Yk _ rfl,Z,Z⟩,λb hb=>?_,q⟩;have e:b=s1.heap.objs.size:=by simpa using hb
 subst e;exact I1.fpOk (Yi _) (I1.hok.fresh (Yi _))
theorem zou{pins:List (Addr×Obj)}{σ : St}{H:Hp}{s:Shared}{R:It->Hp->Prop}{E:Value->Shared->Prop}{lo hi:Int}{t u v:Tok}{tk:Nat}(I:Inv X pins σ H s)(h1 : -(2^62)<=lo)(h2:lo<2^62)(h3 : -(2^62)<=hi)(h4:hi<2^62)
  (q:R (Itr lo (hi-lo).toNat) H):wpAny (model X.prog X.w) X.A (pyIter (.ref s.heap.objs.size)) (PIE X pins σ tg R) E { s with heap:=s.heap.push { cls:=.type "range",data:=.fields #[.int lo t,.int hi u,.int 1 v] },toks:=tk }:=by
 refine wpAny_pyIter_range (IsRange.new ..) (small_one h1 h2 h3 h4) ?_;have I1:Inv X pins σ H { s with heap:=s.heap.push { cls:=.type "range",data:=.fields #[.int lo t,.int hi u,.int 1 v] },toks:=tk }:=I.kept λb o e=>Ye _ e
 refine⟨(s.heap.push { cls:=.type "range",data:=.fields #[.int lo t,.int hi u,.int 1 v] }).objs.size,[(s.heap.push { cls:=.type "range",data:=.fields #[.int lo t,.int hi u,.int 1 v] }).objs.size],_,_,H,Z,
  I1.kept (t':=tk) λb o e=>Ye _ e,zl2 _ lo (hi-lo).toNat,?_,λb hb=>?_,q⟩
 ·have e1:lo+((0:Nat):Int)*1=lo:=by simp
  have e2:(((hi-lo).toNat:Nat):Int)-((0:Nat):Int)=Builtin.Range.rangeSize lo hi 1:=by rw[rangeSize_one];split <;> omega
  show IsRangeIter _ _ (lo+((0:Nat):Int)*1) ((((hi-lo).toNat:Nat):Int)-((0:Nat):Int)) 1;rw[e1,e2];exact Yk _ rfl
 ·have e:b=(s.heap.push { cls:=.type "range",data:=.fields #[.int lo t,.int hi u,.int 1 v] }).objs.size:=by simpa using hb
  subst e;exact I1.fpOk (Yi _) (I1.hok.fresh (Yi _))
def zvp(ta:TA):TI:=λσ H R=>ta σ H λvs H1=>∃j:Int,vs=[.int j]/\-(2^62)<=j/\j<2^62/\R (Itr 0 j.toNat) H1
theorem zgw{a:Expr}{ta:TA}{p pos:Pos}(hg:Gl X "range")(hm:X.mg "range" = none)(ha:PA X [a] ta)(hs:starEach [a] X.env=[(false,eval a X.env)]:=by rfl):PI X tg (.Call (.Name "range" p) [a] [] pos) (zvp ta):=by
 intro pins s σ H R I h;refine Call_ (ziv I hg hm boot_range (PyProof.Rows.callWith_type1 (thn (ha pos pins s σ H _ I h) λus s1 ⟨vs,H1,I1,r1,q1⟩=>?_) hs rfl));obtain⟨j,e,q1,q2,q⟩:=q1;subst e
 cases r1 with
 | cons r rr=>
  cases rr;obtain⟨t,rfl⟩:=r;exact call_range_1 (zou I1 (by omega) (by omega) q1 q2 (by simpa using q))
def tFor(wi:TI)(g:TG)(tb:TS):TS:=λD σ H=>wi σ H λJ H1=>∃W:Nat->Nat->St->Hp->Prop,(∃m,W 0 m σ H1)/\∀i m σ H,W i m σ H ->
 (J.stop i H/\D.nx σ H)\/(J.go i H/\∃N:St->Hp->Prop,(∀σ' H',N σ' H'->∃m',m'<m/\W (i+1) m' σ' H')/\∀x H',J.yld i H x H'->g x σ H' λσ2 H2=>tb { D with nx:=N,ct:=N,bk:=D.nx } σ2 H2)
def zi2(fp:List Addr)(h:Heap):List (Addr×Obj):=fp.filterMap λb=>(h.get? b).map λo=>(b,o)
theorem zen{fp:List Addr}{h:Heap}{b:Addr}{o:Obj}(hb:b∈fp)(e:h.get? b=some o):(b,o)∈zi2 fp h:=List.mem_filterMap.mpr ⟨b,hb,by rw[e];rfl⟩
theorem zmt{fp:List Addr}{h:Heap}{p:Addr×Obj}(hp:p∈zi2 fp h):p.1∈fp/\h.get? p.1=some p.2:=by
 obtain⟨b,hb,e⟩:=List.mem_filterMap.mp hp
 cases q:h.get? b with
 | none=>rw[q]at e;cases e
 | some o=>
  rw[q]at e;have e':(b,o)=p:=Je e;subst e';exact⟨hb,q⟩
theorem Inv.pinned{pins:List (Addr×Obj)}{σ : St}{H:Hp}{s:Shared}{fp:List Addr}(I:Inv X pins σ H s)(hf:∀b∈fp,FpOk X pins H b)(ho:∀b∈fp,∃o,s.heap.get? b=some o/\∀v,o.data≠.cell v):Inv X (pins++zi2 fp s.heap) σ H s:=
 I.pins_of λp hp=>(Jr.mp hp).elim (λz=>I.pin p (Yg _ z)) λz=>by
  obtain⟨hb,e⟩:=zmt z;obtain⟨f0,f1,f2,_⟩:=hf p.1 hb;obtain⟨o,e',d⟩:=ho p.1 hb;rw[e]at e';cases e';exact⟨e,f0,f1,f2,d⟩
theorem Inv.unpinned{pins pl:List (Addr×Obj)}{σ : St}{H:Hp}{s:Shared}(I:Inv X (pins++pl) σ H s):Inv X pins σ H s:=I.pins_of λp hp=>I.pin p (Yg _ (List.mem_append_left _ hp))
theorem zdk{iter:Expr}{body:List Stmt}{wi:TI}{g:TG}{tb:TS}{pos:Pos}(hp:PassesOwn (model X.prog X.w) X.A X.env X.xe)(hc:X.calm=true)(hi:PI X tg iter wi)(hg:PG X tg g)(hb:PSs X body tb)
  (hs:∀x,foldedSetIterable iter X.env x=pure x:=by intro _;rfl):PS X (.For tg iter body [] pos) (tFor wi g tb):=by
 intro pins s σ H D I h;refine wpAny_For (thn (hi pins s σ H _ I h) λv s1 h1=>thn h1 λitv s2 h2=>?_) hs;obtain⟨it,fp,tn,J,H2,e,I2,T,st2,f2,W,⟨m0,w0⟩,turn⟩:=h2;subst e;have stat:∀{H':Hp},(∀b∈fp,H' b=none)->∀b∈fp,FpOk X pins H' b:=λhn b hb=>⟨hn b hb,(f2 b hb).2⟩
 refine codeAny_forLoop_any (λn s'=>∃i σ' H',Inv X pins σ' H' s'/\tn i s'.heap/\(∀b∈fp,H' b=none)/\W i n σ' H') ?_ m0 ⟨0,σ,H2,I2,st2,λb hb=>(f2 b hb).1,w0⟩;rintro n s3 ⟨i,σ3,H3,I3,st3,fr3,w3⟩;rcases turn i n σ3 H3 w3 with⟨stop,qn⟩ | ⟨go,N,hN,step⟩
 ·refine wpAny_passesOwn hp (thn (T.done X rfl rfl rfl hc i pins s3 σ3 H3 X.xe I3 (stat fr3) st3 stop) λr s4 ⟨hr,I4⟩=>?_);subst hr;exact wpAny_execs_nil ⟨σ3,H3,I4,qn⟩
 ·refine wpAny_passesOwn hp (thn (T.item X rfl rfl rfl hc i pins s3 σ3 H3 X.xe I3 (stat fr3) st3 go) λr s4 ⟨u,hr,h4⟩=>?_);subst hr;refine wpAny_passesOwn hp (thn h4 λ_ s5 ⟨x,H5,I5,r5,y5,st5,fr5⟩=>?_);have I5':=I5.pinned (stat fr5) (T.obj _ _ st5);refine wpAny_passesOwn hp (thn (hg _ s5 σ3 H5 x u _ I5' r5 (step x H5 y5)) λ_ s6 ⟨σ6,H6,I6,q6⟩=>?_);refine wpAny_passesOwn hp (thn (hb _ s6 σ6 H6 _ I6 q6) λf s7 q7=>?_);have again:∀{σ7:St} {H7:Hp},Inv X (pins++zi2 fp s5.heap) σ7 H7 s7->N σ7 H7->∃m,m<n/\∃i σ' H',Inv X pins σ' H' s7/\tn i s7.heap/\(∀b∈fp,H' b=none)/\W i m σ' H':=fun{σ7 H7} I7 n7=>by
   obtain⟨m',hm,w7⟩:=hN σ7 H7 n7;refine⟨m',hm,i+1,σ7,H7,I7.unpinned,T.keep _ _ _ st5 λb hb o e=>(I7.pin (b,o) (Yg _ (Yg _ (zen hb e)))).1,λb hb=>?_,w7⟩;obtain⟨o,e,d⟩:=T.obj _ _ st5 b hb;exact(I7.pin (b,o) (Yg _ (Yg _ (zen hb e)))).2.1
  cases f with
  | next=>obtain⟨σ7,H7,I7,n7⟩:=q7;exact again I7 n7
  | cont=>obtain⟨σ7,H7,I7,n7⟩:=q7;exact again I7 n7
  | brk=>obtain⟨σ7,H7,I7,q7⟩:=q7;exact⟨σ7,H7,I7.unpinned,q7⟩
  | ret v=>obtain⟨x7,σ7,H7,I7,r7,q7⟩:=q7;exact⟨x7,σ7,H7,I7.unpinned,r7,q7⟩
end
theorem zhs{K:W.Frag}{a:Addr}{xs:List V}{g:TG}{tb:TS}{D:Ends}{σ : St}{H:Hp}(Pv:Nat->St->Hp->Prop)(h0:Pv 0 σ H)(hl:∀i σ H,i<=xs.length->Pv i σ H->SqL K H a xs)
  (hs:∀i x σ H,xs[i]? = some x->Pv i σ H->g x σ H λσ2 H2=>tb { D with nx:=Pv (i+1),ct:=Pv (i+1),bk:=D.nx } σ2 H2) (hd:∀σ H,Pv xs.length σ H->D.nx σ H) :
  ∃W:Nat->Nat->St->Hp->Prop,(∃m,W 0 m σ H)/\∀i m σ H,W i m σ H ->
   ((Itl K a).stop i H/\D.nx σ H)\/((Itl K a).go i H/\∃N:St->Hp->Prop,(∀σ' H',N σ' H'->∃m',m'<m/\W (i+1) m' σ' H')/\∀x H',(Itl K a).yld i H x H'->g x σ H' λσ2 H2=>tb { D with nx:=N,ct:=N,bk:=D.nx } σ2 H2):=by
 refine⟨λi m σ H=>m=xs.length-i/\i<=xs.length/\Pv i σ H,⟨xs.length,by simp,Y2 _,h0⟩,?_⟩;rintro i m σ H ⟨rfl,hi,p⟩;have q:=hl i σ H hi p;by_cases hlt:i<xs.length
 ·refine .inr ⟨⟨xs,xs[i],q,by simp[hlt]⟩,Pv (i+1),λσ' H' p'=>⟨xs.length-(i+1),by omega,Z,hlt,p'⟩,λx H' y=>?_⟩;obtain⟨e,y⟩:=y;subst e;exact hs i x σ _ (y xs q) p
 ·have e:i=xs.length:=by omega
  subst e;exact .inl ⟨⟨xs,q,Yi _⟩,hd σ H p⟩
theorem zml{lo:Int}{n:Nat}{g:TG}{tb:TS}{D:Ends}{σ : St}{H:Hp}(Pv:Nat->St->Hp->Prop)(h0:Pv 0 σ H)
  (hs:∀i σ H,i<n->Pv i σ H->g (.int (lo+i)) σ H λσ2 H2=>tb { D with nx:=Pv (i+1),ct:=Pv (i+1),bk:=D.nx } σ2 H2) (hd:∀σ H,Pv n σ H->D.nx σ H) :
  ∃W:Nat->Nat->St->Hp->Prop,(∃m,W 0 m σ H)/\∀i m σ H,W i m σ H ->
   ((Itr lo n).stop i H/\D.nx σ H)\/((Itr lo n).go i H/\∃N:St->Hp->Prop,(∀σ' H',N σ' H'->∃m',m'<m/\W (i+1) m' σ' H')/\∀x H',(Itr lo n).yld i H x H'->g x σ H' λσ2 H2=>tb { D with nx:=N,ct:=N,bk:=D.nx } σ2 H2):=by
 refine⟨λi m σ H=>m=n-i/\i<=n/\Pv i σ H,⟨n,by simp,Y2 _,h0⟩,?_⟩;rintro i m σ H ⟨rfl,hi,p⟩;by_cases hlt:i<n
 ·refine .inr ⟨hlt,Pv (i+1),λσ' H' p'=>⟨n-(i+1),by omega,Z,hlt,p'⟩,λx H' y=>?_⟩;obtain⟨e,y⟩:=y;subst e y;exact hs i σ _ hlt p
 ·have e:i=n:=by omega
  subst e;exact .inl ⟨Yi _,hd σ H p⟩
abbrev R2:=V->V->Hp->VK->Prop
def OpR(X:Cx)(f:Value->Value->Sem Value)(r:R2):Prop:=
 ∀(pins:List (Addr×Obj)) (s:Shared) (σ : St) (H:Hp) (x y:V) (v u:Value) (Q:VK),Inv X pins σ H s->RelV x v->RelV y u->r x y H Q ->
  wpAny (model X.prog X.w) X.A (f v u) (EP X pins σ Q) X.xe s
def UnR(X:Cx)(f:Value->Sem Value)(r:V->Hp->VK->Prop):Prop:=
 ∀(pins:List (Addr×Obj)) (s:Shared) (σ : St) (H:Hp) (x:V) (v:Value) (Q:VK),Inv X pins σ H s->RelV x v->r x H Q ->
  wpAny (model X.prog X.w) X.A (f v) (EP X pins σ Q) X.xe s
def CallR(X:Cx)(f:Value)(r:List V->Hp->VK->Prop):Prop:=
 ∀(pins:List (Addr×Obj)) (s:Shared) (σ : St) (H:Hp) (xs:List V) (us:List Value) (Q:VK),Inv X pins σ H s->Vals xs us->r xs H Q ->
  wpAny (model X.prog X.w) X.A (call f us) (EP X pins σ Q) X.xe s
def tOp(r:R2)(ta tb:TE):TE:=λσ H Q=>ta σ H λx H1=>tb σ H1 λy H2=>r x y H2 Q
def tUn(r:V->Hp->VK->Prop)(ta:TE):TE:=λσ H Q=>ta σ H λx H1=>r x H1 Q
def rI(C:Int->Int->Prop)(g:Int->Int->V):R2:=λx y H Q=>∃i j,x=.int i/\y=.int j/\C i j/\Q (g i j) H
def rI0(g:Int->Int->V):R2:=λx y H Q=>∃i j,x=.int i/\y=.int j/\Q (g i j) H
def rU(g:Int->V):V->Hp->VK->Prop:=λx H Q=>∃i,x=.int i/\Q (g i) H
section
variable{X:Cx}{a b c:Expr}{ta tb tc:TE}{pos:Pos}
theorem binT(ha:PE X a ta)(hb:PE X b tb){pins:List (Addr×Obj)}{s:Shared}{σ : St}{H:Hp}{R:V->V->Hp->Prop}(I:Inv X pins σ H s)
  (h:ta σ H λx H1=>tb σ H1 λy H2=>R x y H2) {Q:Value->Shared->Prop} {f:Value->Value->Sem Value}
  (hf:∀v u s2 x y H2,Inv X pins σ H2 s2->RelV x v->RelV y u->R x y H2->wpAny (model X.prog X.w) X.A (f v u) Q X.xe s2) :
  wpAny (model X.prog X.w) X.A (eval a X.env) (λv s₁=>wpAny (model X.prog X.w) X.A (eval b X.env) (λu s₂=>wpAny (model X.prog X.w) X.A (f v u) Q X.xe s₂) X.xe s₁) X.xe s:=by
 refine thn (ha pins s σ H _ I h) λv s1 ⟨x,H1,I1,r1,q1⟩=>?_
 refine thn (hb pins s1 σ H1 _ I1 q1) λu s2 ⟨y,H2,I2,r2,q2⟩=>?_
 exact hf v u s2 x y H2 I2 r1 r2 q2
theorem zau{op:Operator}{r:R2}(ho:OpR X (binaryOp op) r)(ha:PE X a ta)(hb:PE X b tb):PE X (.BinOp a op b pos) (tOp r ta tb):=by
 intro pins s σ H Q I h;exact wpAny_BinOp (binT ha hb I h λv u s2 x y H2 I2 rx ry q=>ho pins s2 σ H2 x y v u Q I2 rx ry q)
theorem ze7{op:UnaryOp}{r:V->Hp->VK->Prop}(ho:UnR X (unaryOp op) r)(ha:PE X a ta):PE X (.UnaryOp op a pos) (tUn r ta):=by
 intro pins s σ H Q I h;exact UnaryOp_ (thn (ha pins s σ H _ I h) λv s1 ⟨x,H1,I1,r1,q1⟩=>ho pins s1 σ H1 x v Q I1 r1 q1)
theorem opI{f:Value->Value->Sem Value}{C:Int->Int->Prop}{g:Int->Int->Int}
  (rule:∀(i j:Int) (t u:Tok) (s:Shared) (Q:Value->Shared->Prop) (E:Value->Shared->Prop),C i j->Q (.int (g i j) s.toks) { s with toks:=s.toks+1 }->wpAny (model X.prog X.w) X.A (f (.int i t) (.int j u)) Q E s) :
  OpR X f (rI C λi j=>.int (g i j)):=by
 intro pins s σ H x y v u Q I rx ry h;obtain⟨i,j,rfl,rfl,hc,q⟩:=h;obtain⟨t,rfl⟩:=rx;obtain⟨t',rfl⟩:=ry;exact rule i j t t' s _ _ hc ⟨.int (g i j),H,I.tok _,⟨_,rfl⟩,q⟩
theorem opI0{f:Value->Value->Sem Value}{g:Int->Int->Int}
  (rule:∀(i j:Int) (t u:Tok) (s:Shared) (Q:Value->Shared->Prop) (E:Value->Shared->Prop),Q (.int (g i j) s.toks) { s with toks:=s.toks+1 }->wpAny (model X.prog X.w) X.A (f (.int i t) (.int j u)) Q E s) :
  OpR X f (rI0 λi j=>.int (g i j)):=by
 intro pins s σ H x y v u Q I rx ry h;obtain⟨i,j,rfl,rfl,q⟩:=h;obtain⟨t,rfl⟩:=rx;obtain⟨t',rfl⟩:=ry;exact rule i j t t' s _ _ ⟨.int (g i j),H,I.tok _,⟨_,rfl⟩,q⟩
theorem opB0{f:Value->Value->Sem Value}{g:Int->Int->Bool}
  (rule:∀(i j:Int) (t u:Tok) (s:Shared) (Q:Value->Shared->Prop) (E:Value->Shared->Prop),Q (.bool (g i j)) s->wpAny (model X.prog X.w) X.A (f (.int i t) (.int j u)) Q E s) :
  OpR X f (rI0 λi j=>.bl (g i j)):=by
 intro pins s σ H x y v u Q I rx ry h;obtain⟨i,j,rfl,rfl,q⟩:=h;obtain⟨t,rfl⟩:=rx;obtain⟨t',rfl⟩:=ry;exact rule i j t t' s _ _ ⟨.bl (g i j),H,I,rfl,q⟩
def CDiv(i j:Int):Prop:=0<j/\j<1073741824
def CDivN(i j:Int):Prop:=j≠0/\j.natAbs<1073741824
def CPow(i j:Int):Prop:=0<=j/\j<=1000000/\i.natAbs<2^64
def CMul(i j:Int):Prop:=(-(2^64)<i/\i<2^64)\/(-(2^64)<j/\j<2^64)
theorem CMul.ok{i j:Int}(h:CMul i j):IntMulOk i j:=by
 rcases h with⟨h1,h2⟩ | ⟨h1,h2⟩
 ·exact .of_left (intBits_le_64 h1 h2)
 ·exact .of_right (intBits_le_64 h1 h2)
theorem zc6:OpR X (binaryOp .Add) (rI0 λi j=>.int (i+j)):=opI0 λ_ _ _ _ _ _ _ q=>add_int q
theorem zle:OpR X (binaryOp .Sub) (rI0 λi j=>.int (i-j)):=opI0 λ_ _ _ _ _ _ _ q=>sub_int q
theorem zi0:OpR X (binaryOp .Mult) (rI CMul λi j=>.int (i*j)):=opI λ_ _ _ _ _ _ _ hc q=>mul_int q hc.ok
theorem zca:OpR X (binaryOp .FloorDiv) (rI CDiv λi j=>.int (i / j)):=opI λi j _ _ _ _ _ hc q=>by
 have h1:(0:Int)<j:=hc.1;have h2:j<1073741824:=hc.2;exact floordiv_int (by omega) (by rw[Int.fdiv_eq_ediv_of_nonneg i (by omega)];exact q) (.inl (PyProof.noPylong_small (by omega)))
theorem zpo:OpR X (binaryOp .FloorDiv) (rI CDivN λi j=>.int (i.fdiv j)):=opI λ_ _ _ _ _ _ _ hc q=>floordiv_int hc.1 q (.inl (PyProof.noPylong_small hc.2))
theorem za7:OpR X (binaryOp .Mod) (rI (λ_ j=>0<j) λi j=>.int (i%j)):=opI λi j _ _ _ _ _ hc q=>by
 have h1:(0:Int)<j:=hc;exact mod_int' (by omega) (by rw[Int.fmod_eq_emod_of_nonneg i (by omega)];exact q)
theorem zfv:OpR X (binaryOp .Mod) (rI (λ_ j=>j≠0) λi j=>.int (i.fmod j)):=opI λ_ _ _ _ _ _ _ hc q=>mod_int' hc q
theorem zq8:OpR X (binaryOp .Pow) (rI CPow λi j=>.int (i^j.toNat)):=opI λ_ _ _ _ _ _ _ hc q=>pow_int_small hc.1 hc.2.1 hc.2.2 q
theorem unI{f:Value->Sem Value}{g:Int->Int}
  (rule:∀(i:Int) (t:Tok) (s:Shared) (Q:Value->Shared->Prop) (E:Value->Shared->Prop),Q (.int (g i) s.toks) { s with toks:=s.toks+1 }->wpAny (model X.prog X.w) X.A (f (.int i t)) Q E s) :
  UnR X f (rU λi=>.int (g i)):=by
 intro pins s σ H x v Q I rx h;obtain⟨i,rfl,q⟩:=h;obtain⟨t,rfl⟩:=rx;exact rule i t s _ _ ⟨.int (g i),H,I.tok _,⟨_,rfl⟩,q⟩
theorem zc7:UnR X (unaryOp .USub) (rU λi=>.int (-i)):=unI λ_ _ _ _ _ q=>neg_int q
end
def scal:V->V->Bool
 | .non,.non=>true | .non,.int _=>true | .int _,.non=>true | .non,.bl _=>true | .bl _,.non=>true | .non,.str _=>true | .str _,.non=>true
 | .int _,.int _=>true | .bl _,.bl _=>true | .str _,.str _=>true | .byt _,.byt _=>true
 | .int _,.str _=>true | .str _,.int _=>true | .bl _,.str _=>true | .str _,.bl _=>true
 | _,_=>false
def rEq:R2:=λx y H Q=>scal x y=true/\Q (.bl (decide (x=y))) H
def rNe:R2:=λx y H Q=>scal x y=true/\Q (.bl (!decide (x=y))) H
theorem zmm{i j:Int}:decide (V.int i=V.int j)=(i == j):=by
 rw[Bool.eq_iff_iff];simp
theorem zrl{i j:Bool}:decide (V.bl i=V.bl j)=(i == j):=by
 rw[Bool.eq_iff_iff];simp
theorem znp{i j:Str}:decide (V.str i=V.str j)=(i == j):=by
 rw[Bool.eq_iff_iff];simp
theorem zmz{i j:Array UInt8}:decide (V.byt i=V.byt j)=(i.toList == j.toList):=by
 rw[Bool.eq_iff_iff]
 cases i
 cases j;simp
section
variable{X:Cx}{a b c:Expr}{ta tb tc:TE}{pos:Pos}
theorem zbd{pins:List (Addr×Obj)}{σ : St}{H:Hp}{s:Shared}{Q:VK}{k k':Bool}(I:Inv X pins σ H s)(q:Q (.bl k) H)(e:k=k'):EP X pins σ Q (.bool k') s:=by
 subst e;exact⟨.bl k,H,I,Z,q⟩
theorem zbp:OpR X (compareOp .Eq) rEq:=by
 intro pins s σ H x y v u Q I rx ry h;obtain⟨hs,q⟩:=h
 cases x with
 | non=>
  cases rx
  cases y with
  | non=>cases ry;exact PySem.EqNone.eq_none_none (zbd I q (by simp))
  | bl j=>cases ry;exact PySem.EqNone.eq_none_bool (zbd I q (by simp))
  | int j=>obtain⟨t',rfl⟩:=ry;exact PySem.EqNone.eq_none_int (zbd I q (by simp))
  | str j=>obtain⟨t',rfl⟩:=ry;exact PySem.EqNone.eq_none_str (zbd I q (by simp))
  | _=>exact absurd (show false=true from hs) Yt
 | bl i=>
  cases rx
  cases y with
  | non=>cases ry;exact PySem.EqNone.eq_bool_none (zbd I q (by simp))
  | bl j=>cases ry;exact eq_bool (zbd I q zrl)
  | str j=>obtain⟨t',rfl⟩:=ry;exact PySem.EqMixed.eq_bool_str (zbd I q (by simp))
  | _=>exact absurd (show false=true from hs) Yt
 | int i=>
  obtain⟨t,rfl⟩:=rx
  cases y with
  | non=>cases ry;exact PySem.EqNone.eq_int_none (zbd I q (by simp))
  | int j=>obtain⟨t',rfl⟩:=ry;exact eq_int (zbd I q zmm)
  | str j=>obtain⟨t',rfl⟩:=ry;exact PySem.EqMixed.eq_int_str (zbd I q (by simp))
  | _=>exact absurd (show false=true from hs) Yt
 | str i=>
  obtain⟨t,rfl⟩:=rx
  cases y with
  | non=>cases ry;exact PySem.EqNone.eq_str_none (zbd I q (by simp))
  | bl j=>cases ry;exact PySem.EqMixed.eq_str_bool (zbd I q (by simp))
  | int j=>obtain⟨t',rfl⟩:=ry;exact PySem.EqMixed.eq_str_int (zbd I q (by simp))
  | str j=>obtain⟨t',rfl⟩:=ry;exact eq_str (zbd I q znp)
  | _=>exact absurd (show false=true from hs) Yt
 | byt i=>
  obtain⟨t,rfl⟩:=rx
  cases y with
  | byt j=>obtain⟨t',rfl⟩:=ry;exact W.eq_bytes (zbd I q zmz)
  | _=>exact absurd (show false=true from hs) Yt
 | _=>cases y <;> exact absurd (show false=true from hs) Yt
theorem zj5:OpR X (compareOp .NotEq) rNe:=by
 intro pins s σ H x y v u Q I rx ry h;obtain⟨hs,q⟩:=h
 cases x with
 | non=>
  cases rx
  cases y with
  | non=>cases ry;exact PySem.EqNone.ne_none_none (zbd I q (by simp))
  | bl j=>cases ry;exact PySem.EqNone.ne_none_bool (zbd I q (by simp))
  | int j=>obtain⟨t',rfl⟩:=ry;exact PySem.EqNone.ne_none_int (zbd I q (by simp))
  | str j=>obtain⟨t',rfl⟩:=ry;exact PySem.EqNone.ne_none_str (zbd I q (by simp))
  | _=>exact absurd (show false=true from hs) Yt
 | bl i=>
  cases rx
  cases y with
  | non=>cases ry;exact PySem.EqNone.ne_bool_none (zbd I q (by simp))
  | bl j=>cases ry;exact ne_bool (zbd I q (Jt not zrl))
  | str j=>obtain⟨t',rfl⟩:=ry;exact PySem.EqMixed.ne_bool_str (zbd I q (by simp))
  | _=>exact absurd (show false=true from hs) Yt
 | int i=>
  obtain⟨t,rfl⟩:=rx
  cases y with
  | non=>cases ry;exact PySem.EqNone.ne_int_none (zbd I q (by simp))
  | int j=>obtain⟨t',rfl⟩:=ry;exact ne_int (zbd I q (Jt not zmm))
  | str j=>obtain⟨t',rfl⟩:=ry;exact PySem.EqMixed.ne_int_str (zbd I q (by simp))
  | _=>exact absurd (show false=true from hs) Yt
 | str i=>
  obtain⟨t,rfl⟩:=rx
  cases y with
  | non=>cases ry;exact PySem.EqNone.ne_str_none (zbd I q (by simp))
  | bl j=>cases ry;exact PySem.EqMixed.ne_str_bool (zbd I q (by simp))
  | int j=>obtain⟨t',rfl⟩:=ry;exact PySem.EqMixed.ne_str_int (zbd I q (by simp))
  | str j=>obtain⟨t',rfl⟩:=ry;exact ne_str (zbd I q (Jt not znp))
  | _=>exact absurd (show false=true from hs) Yt
 | byt i=>
  obtain⟨t,rfl⟩:=rx
  cases y with
  | byt j=>obtain⟨t',rfl⟩:=ry;exact W.ne_bytes (zbd I q (Jt not zmz))
  | _=>exact absurd (show false=true from hs) Yt
 | _=>cases y <;> exact absurd (show false=true from hs) Yt
theorem zic:OpR X (compareOp .Lt) (rI0 λi j=>.bl (decide (i<j))):=opB0 λ_ _ _ _ _ _ _ q=>lt_int q
theorem zo2:OpR X (compareOp .LtE) (rI0 λi j=>.bl (decide (i<=j))):=opB0 λ_ _ _ _ _ _ _ q=>le_int q
theorem zfx:OpR X (compareOp .Gt) (rI0 λi j=>.bl (decide (j<i))):=opB0 λ_ _ _ _ _ _ _ q=>gt_int q
theorem zff:OpR X (compareOp .In) (λx y H Q=>∃i j,x=.str i/\y=.str j/\Q (.bl (!(Builtin.Str.occurrences j i 0 j.length 1).isEmpty)) H):=by
 intro pins s σ H x y v u Q I rx ry h;obtain⟨i,j,rfl,rfl,q⟩:=h;obtain⟨t,rfl⟩:=rx;obtain⟨t',rfl⟩:=ry;exact in_str (zbd I q rfl)
theorem zvw:OpR X (compareOp .Is) (λx y H Q=>y=.non/\Q (.bl (decide (x=.non))) H):=by
 intro pins s σ H x y v u Q I rx ry h;obtain⟨rfl,q⟩:=h
 cases ry;refine is_none_gen (zbd I q ?_)
 cases x <;> first
  | (cases rx;rfl)
  | (obtain⟨t,rfl⟩:=rx;rfl)
theorem nomark(b:Expr){op:CmpOp}(h:op≠.In:=by decide)(h2:op≠.NotIn:=by decide):behindInMarks op b=false:=by
 have e1:(op == CmpOp.In)=false:=by cases op <;> first | rfl | exact absurd rfl h
 have e2:(op == CmpOp.NotIn)=false:=by cases op <;> first | rfl | exact absurd rfl h2
 cases b <;> simp[behindInMarks,e1,e2]
theorem zdp{op:CmpOp}{r:R2}(ho:OpR X (compareOp op) r)(ha:PE X a ta)(hb:PE X b tb)(hm:behindInMarks op b=false):PE X (.Compare a [op] [b] pos) (tOp r ta tb):=by
 intro pins s σ H Q I h;exact wpAny_Compare1 (binT ha hb I h λv u s2 x y H2 I2 rx ry q=>ho pins s2 σ H2 x y v u Q I2 rx ry q) hm
def zy0(t:TE):TT:=λσ H Q=>t σ H λx H'=>∃k,x=.bl k/\Q k H'
theorem zar{op:CmpOp}{r:R2}(ho:OpR X (compareOp op) r)(ha:PE X a ta)(hb:PE X b tb)(hm:behindInMarks op b=false):PT X (.Compare a [op] [b] pos) (zy0 (tOp r ta tb)):=by
 intro pins s σ H Q I h;refine wpAny_isTrue_Compare1 (thn (ha pins s σ H _ I h) λv s1 ⟨x,H1,I1,r1,q1⟩=>thn (hb pins s1 σ H1 _ I1 q1) λu s2 ⟨y,H2,I2,r2,q2⟩=>
  thn (ho pins s2 σ H2 x y v u _ I2 r1 r2 q2) λc s3 ⟨z,H3,I3,r3,k,e,q3⟩=>?_) hm
 subst e
 cases r3;exact Jo ⟨H3,I3,q3⟩
theorem zi5:(sizeLine:Nat)<2^63:=by rw[sizeLine_eq];decide
theorem zba:OpR X (binaryOp .Add) (λx y H Q=>∃i j,x=.str i/\y=.str j/\i.length+j.length<=sizeLine/\Q (.str (i++j)) H):=by
 intro pins s σ H x y v u Q I rx ry h;obtain⟨i,j,rfl,rfl,hz,q⟩:=h;obtain⟨t,rfl⟩:=rx;obtain⟨t',rfl⟩:=ry;exact add_str (λt' tk=>⟨.str (i++j),H,I.tok _,⟨_,rfl⟩,q⟩) hz
theorem zg1{x:V}{us:List Value}(r:Vals [x] us):∃u,us=[u]/\RelV x u:=by
 cases r with
 | cons r1 r2=>cases r2;exact⟨_,rfl,r1⟩
theorem zy1{x y:V}{us:List Value}(r:Vals [x,y] us):∃u w',us=[u,w']/\RelV x u/\RelV y w':=by
 cases r with
 | cons r1 r2=>
  cases r2 with
  | cons r3 r4=>cases r4;exact⟨_,_,rfl,r1,r3⟩
theorem zeo:CallR X (.builtin "abs") (λxs H Q=>∃i,xs=[.int i]/\Q (.int (if i<0 then -i else i)) H):=by
 intro pins s σ H xs us Q I r h;obtain⟨i,rfl,q⟩:=h;obtain⟨u,rfl,t,rfl⟩:=zg1 r;exact call_abs_int λu tk=>⟨.int (if i<0 then -i else i),H,I.tok _,⟨_,rfl⟩,q⟩
theorem zil(hc:X.calm=true):CallR X (.builtin "max") (λxs H Q=>∃i j,xs=[.int i,.int j]/\Q (.int (if j > i then j else i)) H):=by
 intro pins s σ H xs us Q I r h;obtain⟨i,j,rfl,q⟩:=h;obtain⟨u,w',rfl,⟨t,rfl⟩,⟨t',rfl⟩⟩:=zy1 r;refine max_two_ints (I.ok.hd hc) λh' tk k=>⟨_,H,I.kept k,?_,q⟩
 by_cases hj:j > i
 ·rw[Yl hj,Yl hj];exact⟨_,Z⟩
 ·rw[Yh hj,Yh hj];exact⟨_,Z⟩
theorem zm0:CallR X (.type "int") (λxs H Q=>(∃i,xs=[.int i]/\Q (.int i) H)\/∃k,xs=[.bl k]/\Q (.int (if k then 1 else 0)) H):=by
 intro pins s σ H xs us Q I r h;rcases h with⟨i,rfl,q⟩ | ⟨k,rfl,q⟩
 ·obtain⟨u,rfl,t,rfl⟩:=zg1 r;exact call_int_int ⟨.int i,H,I,⟨_,Z⟩,q⟩
 ·obtain⟨u,rfl,r1⟩:=zg1 r
  cases r1;exact call_int_bool ⟨.int (if k then 1 else 0),H,I.tok _,⟨_,Z⟩,q⟩
theorem zd7:CallR X (.type "str") (λxs H Q=>∃i,xs=[.int i]/\i.natAbs.log2<1920/\Q (.str (toString i)) H):=by
 intro pins s σ H xs us Q I r h;obtain⟨i,rfl,hz,q⟩:=h;obtain⟨u,rfl,t,rfl⟩:=zg1 r;exact PySem.P.str_of_int hz ⟨.str _,H,I.tok _,⟨_,rfl⟩,q⟩
end
structure ObjM(h:Heap)(x dx C:Addr)(mA:Str->Option Value):Prop where
 obj:h.get? x=some (W.instObj C dx)
 ns:h.Ns1 dx mA
 ne:dx≠x
theorem zoh{h:Heap}{dx:Addr}{mA:Str->Option Value}(n:h.Ns1 dx mA):∃od,h.get? dx=some od/\∀name,W.lookIn name od=some (mA name):=by
 obtain⟨o,es,ep,ho,hd,hk,_,hm⟩:=n;refine⟨o,ho,λname=>?_⟩;have e:=hm name;unfold nsFind findBy at e;rw[<- Array.find?_toList]at e;unfold W.lookIn;rw[hd];dsimp only;split
 ·rename_i y q
  rw[q]at e;exact Jt some e
 ·rename_i q
  rw[q]at e;have a:es.toList.any (·.refKey)=false:=by
   rw[List.any_eq_false];intro y hy;obtain⟨z,t,hkey⟩:=hk y (Array.mem_toList_iff.mp hy);simp[DictEntry.refKey,hkey]
  have a':¬es.toList.any (·.refKey)=true:=by rw[a];exact Yt
  rw[Yh a'];exact Jt some e
theorem ObjM.look{h:Heap}{x dx C:Addr}{mA:Str->Option Value}(I:ObjM h x dx C mA):∃od,W.InstAt h x (W.instObj C dx) C (some od)/\∀name,W.lookIn name od=some (mA name):=
 let ⟨od,ho,hl⟩:=zoh I.ns
 ⟨od,⟨I.obj,Z,Z,ho⟩,hl⟩
section
variable{prog:Program}{w:World}{A:Around}{E:Value->Shared->Prop}{s:Shared}{K:W.Frag}{x dx C f:Addr}{mA:Str->Option Value}{name:Str}{v:Value}
theorem ztc{expr:Bool}{Q:Value->Shared->Prop}(X:K.In s.heap)(I:ObjM s.heap x dx C mA)(hg:W.plainGet K C name=true)(hh:W.hasDictIn K C=true)
  (ha:W.findIn K (.ref C) name=some none) (hv:mA name=some v) (hv':W.handedIn v=true) (h:Q v { s with toks:=s.toks+1 }) :
  wpAny (model prog w) A (getAttr (.ref x) name expr) Q E s:=by
 obtain⟨od,J,hl⟩:=I.look;exact W.get_value X J (W.plainGet_of hg).1 (W.findObj_own hh ha rfl (by rw[hl,hv])) hv' h
theorem zqs{pl:Sem Bool}{Q:Value×List Value->Shared->Prop}(X:K.In s.heap)(I:ObjM s.heap x dx C mA)(hg:W.plainGet K C name=true)
  (hf:W.findIn K (.ref C) name=some (some (.ref f))) (ht:W.isFn K (.ref f)=true) (hv:mA name=none) (h:Q (.ref f,[.ref x]) s) :
  wpAny (model prog w) A (getMethod (.ref x) name pl) Q E s:=by
 obtain⟨od,J,hl⟩:=I.look;exact W.method_fn X J (W.plainGet_of hg).1 (W.plainGet_of hg).2 hf (beq_iff_eq.mp ht) (by show (W.lookIn name od).map (·.isSome)=some false;rw[hl,hv];rfl) h
theorem zob{ns:List Str}{Q:Unit->Shared->Prop}(X:K.In s.heap)(I:ObjM s.heap x dx C mA)
  (hs:W.findIn K (.ref C) "__setattr__" = some (some (.builtin "object.__setattr__"))) (hp:W.plainOver K C=true) (ht:W.takerIn K C name=some none) (hh:W.hasDictIn K C=true)
  (hw:PySem.Within mA ns) (hsz:ns.length<=sizeLine)
  (h:∀h',ObjM h' x dx C (λy=>if y=name then some v else mA y)->Heap.SameBut dx s.heap h'->Q () { s with heap:=h',toks:=s.toks+2 }) :
  wpAny (model prog w) A (setAttr (.ref x) name v) Q E s:=by
 obtain⟨od,J,hl⟩:=I.look;refine W.set_plain X J hs (W.osa_open (s:={ s with toks:=s.toks+1 }) (r:=none) X J hp ht λb=>?_);obtain⟨cd,hc,hd'⟩:=W.any_some hh;have hx:s.heap.get? x=some ⟨.ref C,some dx,.plain,#[]⟩:=I.obj;refine Ya (Yb (Ya (Ya (wpAny_loadPart hx (Ya (W.Looks.here (s:={ s with toks:=s.toks+1 }) (W.looks_clsIn X hc) ?_))))));rw[hd'];refine Yb (a:=some dx) (Ya (Yb (Ya ?_)));refine wpAny_nsSet1 (s:={ s with toks:=s.toks+1 }) I.ns λh' hn2 hs2=>?_
 obtain⟨oD,esD,epD,hoD,hdD,hcD⟩:=hn2.count (PySem.Within.cons name v hw);refine Ya (wpAny_lookBehind hoD (by rw[hdD];exact pastItsLine_dict (Yr hcD (by rw[Y5];omega))) ?_);exact Yb (h _ ⟨(hs2.2 _ (Jb I.ne)).trans I.obj,hn2,I.ne⟩ hs2)
theorem zp2{R:Result->Shared->Prop}{vs:List Value}{kw:List (Str×Value)}(X:K.In s.heap)(hm:W.makesIn K C=true)
  (hi:W.findIn K (.ref C) "__init__" = some (some (.ref f))) (hf:W.typeIn K (.ref f)=some (.type "function"))
  (h:codeAny (model prog w) (A.under (.builtin "type.__call__" ⟨.ref C::vs,kw⟩)) (.call (.ref f) ⟨.ref (s.heap.objs.size+1)::vs,kw⟩) (W.InitBack (s.heap.objs.size+1) R)
   { s with heap:=(s.heap.push W.emptyDict).push (W.instObj C s.heap.objs.size) }) :
  codeAny (model prog w) A (.call (.ref C) ⟨vs,kw⟩) R s:=by
 obtain⟨hh,g,d,t,os⟩:=s;exact W.make_core (W.makes_of X hm) (W.looks_findIn X hi) (λself=>W.bind_fn X self hf) (.inl rfl) h
theorem zns{R:Result->Shared->Prop}(X:K.In s.heap)(hm:W.makesIn K C=true)
  (hi:W.findIn K (.ref C) "__init__" = some (some (.builtin "object.__init__")))
  (hb:∀self,W.Looks (model prog w) s.heap (bindSpecial (.builtin "object.__init__") self) (.builtin "object.__init__",[self]))
  (h:codeAny (model prog w) (A.under (.builtin "type.__call__" ⟨[.ref C],[]⟩)) (.call (.builtin "object.__init__") ⟨[.ref (s.heap.objs.size+1)],[]⟩) (W.InitBack (s.heap.objs.size+1) R)
   { s with heap:=(s.heap.push W.emptyDict).push (W.instObj C s.heap.objs.size) }) :
  codeAny (model prog w) A (.call (.ref C) ⟨[],[]⟩) R s:=by
 obtain⟨hh,g,d,t,os⟩:=s;exact W.make_core (W.makes_of X hm) (W.looks_findIn X hi) hb (.inr ⟨Z,Z⟩) h
end
def putF(f:Str)(v:V):List (Str×V)->List (Str×V)
 | []=>[(f,v)]
 | (g,x)::r=>if g=f then(g,v)::r else(g,x)::putF f v r
theorem zev(f g:Str)(v:V):∀fs:List (Str×V),(putF f v fs).lookup g=if g=f then some v else fs.lookup g
 | []=>by
  show List.lookup g [(f,v)]=_;by_cases h:g=f
  ·have hb:(g == f)=true:=beq_iff_eq.mpr h;simp only[List.lookup,hb,if_pos h]
  ·have hb:(g == f)=false:=beq_eq_false_iff_ne.mpr h;simp only[List.lookup,hb,if_neg h]
 | (k,x)::r=>by
  have ih:=zev f g v r;rw[show putF f v ((k,x)::r)=(if k=f then(k,v)::r else(k,x)::putF f v r) from rfl];by_cases hk:k=f
  ·rw[Yl hk];by_cases h:g=k
   ·have hb:(g == k)=true:=beq_iff_eq.mpr h;simp only[List.lookup,hb,if_pos (h.trans hk)]
   ·have hb:(g == k)=false:=beq_eq_false_iff_ne.mpr h;simp only[List.lookup,hb,if_neg (λe:g=f=>h (e.trans hk.symm))]
  ·rw[Yh hk];by_cases h:g=k
   ·have hb:(g == k)=true:=beq_iff_eq.mpr h;simp only[List.lookup,hb,if_neg (λe:g=f=>hk (h.symm.trans e))]
   ·have hb:(g == k)=false:=beq_eq_false_iff_ne.mpr h;simp only[List.lookup,hb];exact ih
theorem zea(f:Str)(v:V):∀fs:List (Str×V),f∈(putF f v fs).map (·.1)/\∀g,g∈fs.map (·.1)->g∈(putF f v fs).map (·.1)
 | []=>⟨by simp[putF],λg h=>by simp at h⟩
 | (k,x)::r=>by
  obtain⟨i1,i2⟩:=zea f v r;rw[show putF f v ((k,x)::r)=(if k=f then(k,v)::r else(k,x)::putF f v r) from rfl];by_cases hk:k=f
  ·rw[Yl hk];subst hk;exact⟨by simp,λg h=>by simpa using h⟩
  ·rw[Yh hk];refine⟨?_,λg h=>?_⟩
   ·rw[Yz];exact List.mem_cons_of_mem _ i1
   ·rw[Yz]at h ⊢;rcases Yj.mp h with e | e
    ·exact Yj.mpr (.inl e)
    ·exact List.mem_cons_of_mem _ (i2 g e)
theorem ze4(f:Str)(v:V):∀fs:List (Str×V),(putF f v fs).length<=fs.length+1
 | []=>by simp[putF]
 | (k,x)::r=>by
  have ih:=ze4 f v r;rw[show putF f v ((k,x)::r)=(if k=f then(k,v)::r else(k,x)::putF f v r) from rfl];by_cases hk:k=f
  ·rw[Yl hk,Y5,Y5];omega
  ·rw[Yh hk,Y5,Y5];omega
theorem RelO.some_of{v:V}{o:Option Value}(r:RelO (some v) o):∃u,o=some u/\RelV v u:=by
 cases o with
 | none=>exact(show False from r).elim
 | some u=>exact⟨u,rfl,r⟩
theorem RelO.none_of{o:Option Value}(r:RelO none o):o=none:=by
 cases o with
 | none=>rfl
 | some u=>exact(show False from r).elim
theorem zmp{v:V}{u:Value}(r:RelV v u):W.handedIn u=true:=by
 cases v with
 | non=>cases (show u=Value.none from r);rfl
 | bl b=>cases (show u=Value.bool b from r);rfl
 | int i=>obtain⟨t,e⟩:=(show ∃t,u=Value.int i t from r);cases e;rfl
 | str x=>obtain⟨t,e⟩:=(show ∃t,u=Value.str x t from r);cases e;rfl
 | byt b=>obtain⟨t,e⟩:=(show ∃t,u=Value.bytes b t from r);cases e;rfl
 | flt b=>obtain⟨t,e⟩:=(show ∃t,u=Value.float b t from r);cases e;rfl
 | ref a=>cases (show u=Value.ref a from r);rfl
 | ty n=>cases (show u=Value.type n from r);rfl
section
variable{P:Program}{w:World}{H H':Hp}{h h':Heap}{a C dx:Addr}{fs fs':List (Str×V)}
theorem zgn(hok:HOk P w H h)(e:H a=some (.ins C dx fs)):∃mA,ObjM h a dx C mA/\(∀f,RelO (fs.lookup f) (mA f))/\PySem.Within mA (fs.map (·.1))/\fs.length<=1000/\H dx=some (.own a):=by
 obtain⟨d,z,ne,ob,mA,n,r,q⟩:=(show ObjOk P w H h a (.ins C dx fs) from hok a _ e);exact⟨mA,⟨ob,n,ne⟩,r,q,z,d⟩
end
structure Cls(K:W.Frag)(C:Addr):Prop where
 pg:W.plainGet K C Str.empty=true
 hd:W.hasDictIn K C=true
 po:W.plainOver K C=true
 sa:W.findIn K (.ref C) "__setattr__" = some (some (.builtin "object.__setattr__"))
theorem Cls.get{K:W.Frag}{C:Addr}(c:Cls K C)(f:Str):W.plainGet K C f=true:=c.pg
def NoAttr(K:W.Frag)(C:Addr)(f:Str):Prop:=W.findIn K (.ref C) f=some none
theorem NoAttr.taker{K:W.Frag}{C:Addr}{f:Str}(n:NoAttr K C f):W.takerIn K C f=some none:=by
 unfold W.takerIn;rw[show W.findIn K (.ref C) f=some none from n];rfl
structure Meth(K:W.Frag)(C:Addr)(m:Str)(f:Addr):Prop where
 at_:W.findIn K (.ref C) m=some (some (.ref f))
 fn:W.isFn K (.ref f)=true
 kp:W.keepIn K (.ref f)=true
section
variable{X:Cx}{pins:List (Addr×Obj)}{σ : St}{H:Hp}{s:Shared}{a C dx:Addr}{fs:List (Str×V)}{f:Str}{v:V}{A:Around}{E:Value->Shared->Prop}
theorem zg3{b:Bool}{Q:Value->Shared->Prop}(I:Inv X pins σ H s)(e:H a=some (.ins C dx fs))(c:Cls X.K C)(n:NoAttr X.K C f)(l:fs.lookup f=some v)
  (h:∀u s',Inv X pins σ H s'->RelV v u->Q u s'):wpAny (model X.prog X.w) A (getAttr (.ref a) f b) Q E s:=by
 obtain⟨mA,O,r,_,_,_⟩:=zgn I.hok e;obtain⟨u,hu,ru⟩:=RelO.some_of (v:=v) (o:=mA f) (by rw[<- l];exact r f);exact ztc I.kIn O (c.get f) c.hd n hu (zmp ru) (h u _ (I.tok _) ru)
theorem zg7{m:Str}{g:Addr}{pl:Sem Bool}{Q:Value×List Value->Shared->Prop}(I:Inv X pins σ H s)(e:H a=some (.ins C dx fs))(c:Cls X.K C)(k:Meth X.K C m g)(l:fs.lookup m=none)
  (h:Q (.ref g,[.ref a]) s):wpAny (model X.prog X.w) A (getMethod (.ref a) m pl) Q E s:=by
 obtain⟨mA,O,r,_,_,_⟩:=zgn I.hok e;have hn:mA m=none:=RelO.none_of (by rw[<- l];exact r m);exact zqs I.kIn O (c.get m) k.at_ k.fn hn h
theorem zfr{y:V}{u:Value}{Q:Unit->Shared->Prop}(I:Inv X pins σ H s)(e:H a=some (.ins C dx fs))(c:Cls X.K C)(n:NoAttr X.K C f)(hl:fs.length<1000)(ry:RelV y u)
  (h:∀s',Inv X pins σ (upd H a (.ins C dx (putF f y fs))) s'->Q () s'):wpAny (model X.prog X.w) A (setAttr (.ref a) f u) Q E s:=by
 obtain⟨mA,O,r,wi,_,ho⟩:=zgn I.hok e;have hz:(fs.map (·.1)).length<=sizeLine:=by rw[Yd,sizeLine_eq];omega
 refine zob I.kIn O c.sa c.po n.taker c.hd wi hz λh' O' sb=>h _ ?_
 have hd:∃o,h'.get? dx=some o:=let ⟨o,_,_,e',_⟩:=O'.ns;⟨o,e'⟩;refine I.write (x:=a) (e:=dx) (by rw[e];exact True.intro) (.inr ho) (λb q hb z=>(sb.2 b hb).trans z) hd ?_;refine⟨by rw[zal O.ne];exact ho,?_,O.ne,O'.obj,_,O'.ns,λg=>?_,λg hg=>?_⟩
 ·have:=ze4 f y fs;omega
 ·show RelO ((putF f y fs).lookup g) (if g=f then some u else mA g);rw[zev];by_cases q:g=f
  ·rw[Yl q,Yl q];exact ry
  ·rw[Yh q,Yh q];exact r g
 ·by_cases q:g=f
  ·rw[q];exact(zea f y fs).1
  ·refine(zea f y fs).2 g (wi g λz=>hg ?_);show (if g=f then some u else mA g)=none;rw[Yh q];exact z
theorem Inv.made(I:Inv X pins σ H s):Inv X pins σ (upd (upd H s.heap.objs.size (.own (s.heap.objs.size+1))) (s.heap.objs.size+1) (.ins C s.heap.objs.size []))
  { s with heap:=(s.heap.push W.emptyDict).push (W.instObj C s.heap.objs.size) }:=by
 have e1:(s.heap.push W.emptyDict).get? s.heap.objs.size=some W.emptyDict:=Yk s.heap rfl;have e2:((s.heap.push W.emptyDict).push (W.instObj C s.heap.objs.size)).get? (s.heap.objs.size+1)=some (W.instObj C s.heap.objs.size):=by
  have:=Yk (s.heap.push W.emptyDict) (o:=W.instObj C s.heap.objs.size) rfl;rwa [Heap.size_push]at this
 have e3:(s.heap.push W.emptyDict).Ns s.heap.objs.size (λ_=>none):=⟨W.emptyDict,#[],_,e1,Z,(λe he=>absurd he (by simp)),λ_=>Z⟩;have I1:=I.laid (a:=s.heap.objs.size) (o:=.own (s.heap.objs.size+1)) (h':=s.heap.push W.emptyDict) (t':=s.toks) (λb u q=>Ye _ q) (Yi _) ⟨_,e1⟩;refine I1.laid (a:=s.heap.objs.size+1) (o:=.ins C s.heap.objs.size []) (t':=s.toks) (λb u q=>Ye _ q) (Nat.le_of_eq (Heap.size_push _ _)) ?_;have ne:s.heap.objs.size≠s.heap.objs.size+1:=Y0 (Nat.lt_succ_self _);refine⟨by rw[zal ne,zaf],Y2 _,ne,e2,λ_=>none,(Heap.Ns1.of_empty e3).at λo q=>Ye _ q,λ_=>True.intro,λy hy=>absurd rfl hy⟩
theorem zst{prog:Program}{w:World}{env:Env}{e:Expr}{f:Str}{pos:Pos}{s:Shared}{Q:Value->Shared->Prop}(hb:attributeBase e f env (eval e env)=eval e env)
  (h:wpAny (model prog w) A (eval e env) (λo s₁=>wpAny (model prog w) A (getAttr o f true) Q E s₁) E s):wpAny (model prog w) A (eval (.Attribute e f pos) env) Q E s:=
 Attribute_any_ h (by rw[arm_eval_Attribute,hb])
end
def tFld(K:W.Frag)(ta:TE)(f:Str):TE:=λσ H Q=>ta σ H λx H1=>∃a C dx fs v,x=.ref a/\H1 a=some (.ins C dx fs)/\Cls K C/\NoAttr K C f/\fs.lookup f=some v/\Q v H1
def sFld(K:W.Frag)(ta tv:TE)(f:Str):TS:=λD σ H=>tv σ H λy H1=>ta σ H1 λx H2=>∃a C dx fs,x=.ref a/\H2 a=some (.ins C dx fs)/\Cls K C/\NoAttr K C f/\fs.length<1000 /\
 D.nx σ (upd H2 a (.ins C dx (putF f y fs)))
def InOp(X:Cx)(op:Operator)(rd:V->V->Hp->VK->Prop):Prop:=
 ∀(pins:List (Addr×Obj)) (s:Shared) (σ : St) (H:Hp) (x y:V) (u v:Value) (Q:VK),Inv X pins σ H s->RelV x u->RelV y v->rd x y H Q->wpAny (model X.prog X.w) X.A (inplaceOp op u v) (EP X pins σ Q) X.xe s
def ztq(K:W.Frag)(ta tv:TE)(rd:V->V->Hp->VK->Prop)(f:Str):TS:=λD σ H=>ta σ H λx H1=>∃a C dx fs v,x=.ref a/\H1 a=some (.ins C dx fs)/\Cls K C/\NoAttr K C f/\fs.lookup f=some v /\
 tv σ H1 λy H2=>rd v y H2 λz H3=>∃dx' fs',H3 a=some (.ins C dx' fs')/\fs'.length<1000/\D.nx σ (upd H3 a (.ins C dx' (putF f z fs')))
section
variable{X:Cx}{o e value:Expr}{f:Str}{pos pos' tpos:Pos}{ta tv:TE}
theorem zwb(he:PE X e ta)(hb:attributeBase e f X.env (eval e X.env)=eval e X.env):PE X (.Attribute e f pos) (tFld X.K ta f):=by
 intro pins s σ H Q I h;refine zst hb (thn (he pins s σ H _ I h) λu s1 ⟨x,H1,I1,rx,a,C,dx,fs,v,ex,ea,c,n,l,q⟩=>?_);subst ex;obtain rfl:u=Value.ref a:=rx;exact zg3 I1 ea c n l λu' s2 I2 ru=>⟨v,H1,I2,ru,q⟩
theorem zha(ha:PE X o ta)(hv:PE X value tv)(hs:swapsWith value (some (.Attribute o f pos')) pos.line X.env=pure false):PS X (.Assign [.Attribute o f pos'] value pos) (sFld X.K ta tv f):=by
 intro pins s σ H D I h;refine plainObj_wpAny_Assign_Attribute (thn (hv pins s σ H _ I h) λu s1 ⟨y,H1,I1,ry,q⟩=>thn (ha pins s1 σ H1 _ I1 q) λov s2 ⟨x,H2,I2,rx,a,C,dx,fs,ex,ea,c,n,l,q2⟩=>?_) hs;subst ex;obtain rfl:ov=Value.ref a:=rx;exact zfr I2 ea c n l ry λs3 I3=>⟨σ,_,I3,q2⟩
theorem zdl{op:Operator}{rd:V->V->Hp->VK->Prop}(ha:PE X o ta)(hv:PE X value tv)(hop:InOp X op rd):PS X (.AugAssign (.Attribute o f tpos) op value pos) (ztq X.K ta tv rd f):=by
 intro pins s σ H D I h;refine wpAny_AugAssign_AttributeAny (thn (ha pins s σ H _ I h) λov s1 ⟨x,H1,I1,rx,a,C,dx,fs,v,ex,ea,c,n,l,q⟩=>?_);subst ex;obtain rfl:ov=Value.ref a:=rx;refine zg3 I1 ea c n l λu s2 I2 ru=>thn (hv pins s2 σ H1 _ I2 q) λw3 s3 ⟨y,H2,I3,ry,q3⟩=>thn (hop pins s3 σ H2 v y u w3 _ I3 ru ry q3) λw4 s4 ⟨z,H3,I4,rz,dx',fs',ea',l',q4⟩=>?_
 exact zfr I4 ea' c n l' rz λs5 I5=>⟨σ,_,I5,q4⟩
def rAdd:V->V->Hp->VK->Prop:=λx y H Q=>∃i j,x=.int i/\y=.int j/\Q (.int (i+j)) H
def rSub:V->V->Hp->VK->Prop:=λx y H Q=>∃i j,x=.int i/\y=.int j/\Q (.int (i-j)) H
theorem zjg:InOp X .Add rAdd:=by
 rintro pins s σ H x y u v Q I rx ry ⟨i,j,rfl,rfl,q⟩;obtain⟨t,rfl⟩:=(show ∃t,u=Value.int i t from rx);obtain⟨t',rfl⟩:=(show ∃t',v=Value.int j t' from ry);exact PyProof.Rows.iadd_int ⟨.int (i+j),H,I.tok _,⟨_,rfl⟩,q⟩
theorem zwk:InOp X .Sub rSub:=by
 rintro pins s σ H x y u v Q I rx ry ⟨i,j,rfl,rfl,q⟩;obtain⟨t,rfl⟩:=(show ∃t,u=Value.int i t from rx);obtain⟨t',rfl⟩:=(show ∃t',v=Value.int j t' from ry);exact PyProof.Rows.isub_int ⟨.int (i-j),H,I.tok _,⟨_,rfl⟩,q⟩
end
section
variable{X:Cx}{pins:List (Addr×Obj)}{σ : St}{H:Hp}{s:Shared}{A:Around}{E:Value->Shared->Prop}{Q:Value->Shared->Prop}{c:Value}{b:Bool}
inductive TyOf(K:W.Frag)(H:Hp):V->Value->Prop where
 | non:TyOf K H .non (.type "NoneType")
 | bl (x:Bool):TyOf K H (.bl x) (.type "bool")
 | int (i:Int):TyOf K H (.int i) (.type "int")
 | str (x:Str):TyOf K H (.str x) (.type "str")
 | flt (x:UInt64):TyOf K H (.flt x) (.type "float")
 | lst {a:Addr} {xs:List V} (e:H a=some (.lst xs)):TyOf K H (.ref a) (.type "list")
 | frz {a:Addr} {o:Obj} {xs:List V} (e:H a=some (.frz o (.lst xs))):TyOf K H (.ref a) (.type "list")
 | tup {a:Addr} {xs:List V} (e:H a=some (.tup xs)):TyOf K H (.ref a) (.type "tuple")
 | dK {a:Addr} {kvs:List (Key×V)} (e:H a=some (.dK kvs)):TyOf K H (.ref a) (.type "dict")
 | dT {a:Addr} {kvs:List (List Key×V)} (e:H a=some (.dT kvs)):TyOf K H (.ref a) (.type "dict")
 | ins {a C dx:Addr} {fs:List (Str×V)} (e:H a=some (.ins C dx fs)) (cl:Cls K C) (ha:W.findIn K (.ref C) "__class__" = some (some (.builtin "object.__class__")))
   (hn:W.specialIn K (.builtin "object.__class__") "__get__" = some (some (.builtin "getset_descriptor.__get__"))) (htk:W.takesIn K (.builtin "object.__class__")=some true)
   (hm:W.mroIn K C (.type "object")=some true):TyOf K H (.ref a) (.ref C)
theorem zn4{x:V}{u t:Value}(I:Inv X pins σ H s)(rx:RelV x u)(ty:TyOf X.K H x t)(e:W.kitOne X.K t c=some b)(h:∀tk,Q (.bool b) { s with toks:=tk }) :
  wpAny (model X.prog X.w) A (call (.builtin "isinstance") [u,c]) Q E s:=by
 cases ty with
 | non=>cases (show u=Value.none from rx);exact W.kia_one W.kitx_none I.kIn True.intro e (λz=>nomatch z) h
 | bl y=>cases (show u=Value.bool y from rx);exact W.kia_one W.kitx_bool I.kIn True.intro e (λz=>nomatch z) h
 | int i=>obtain⟨t,q⟩:=(show ∃t,u=Value.int i t from rx);cases q;exact W.kia_one W.kitx_int I.kIn True.intro e (λz=>nomatch z) h
 | str y=>obtain⟨t,q⟩:=(show ∃t,u=Value.str y t from rx);cases q;exact W.kia_one W.kitx_str I.kIn True.intro e (λz=>nomatch z) h
 | flt y=>obtain⟨t,q⟩:=(show ∃t,u=Value.float y t from rx);cases q;exact W.kia_one W.kitx_float I.kIn True.intro e (λz=>nomatch z) h
 | @lst a xs ea=>
  cases (show u=Value.ref a from rx);obtain⟨_,_,n,_,h1⟩:=(show ObjOk X.prog X.w H s.heap a (.lst xs) from I.hok a _ ea);exact W.kia_one W.kitx_list I.kIn ⟨_,h1,Z⟩ e (λz=>nomatch z) h
 | @frz a ob xs ea=>
  cases (show u=Value.ref a from rx);obtain⟨_,_,_,n,_,h1⟩:=(show ObjOk X.prog X.w H s.heap a (.frz ob (.lst xs)) from I.hok a _ ea);exact W.kia_one W.kitx_list I.kIn ⟨_,h1,Z⟩ e (λz=>nomatch z) h
 | @tup a xs ea=>
  cases (show u=Value.ref a from rx);obtain⟨_,_,_,p⟩:=(show ObjOk X.prog X.w H s.heap a (.tup xs) from I.hok a _ ea);obtain⟨o,h1,h2,_⟩:=p;exact W.kia_one W.kitx_tuple I.kIn ⟨o,h1,h2⟩ e (λz=>nomatch z) h
 | @dK a kvs ea=>
  cases (show u=Value.ref a from rx);obtain⟨_,_,vs,_,p⟩:=(show ObjOk X.prog X.w H s.heap a (.dK kvs) from I.hok a _ ea);obtain⟨o,es,ep,h1,h2,_⟩:=p;exact W.kia_one W.kitx_dict I.kIn ⟨o,h1,h2.1⟩ e (λz=>nomatch z) h
 | @dT a kvs ea=>
  cases (show u=Value.ref a from rx);obtain⟨_,_,xs,_,o,es,ep,h1,h2,_⟩:=(show ObjOk X.prog X.w H s.heap a (.dT kvs) from I.hok a _ ea);exact W.kia_one W.kitx_dict I.kIn ⟨o,h1,h2.1⟩ e (λz=>nomatch z) h
 | @ins a C dx fs ea cl ha hn htk hm=>
  cases (show u=Value.ref a from rx);obtain⟨mA,O,_⟩:=zgn I.hok ea;obtain⟨od,J,_⟩:=O.look;exact W.kia_one (W.kitx_own (cl.get _) cl.hd ha hn htk hm) I.kIn J e (λz=>nomatch z) h
end
structure Room(k:Nat)(A:Around):Prop where
 hd:A.handled=none
 dp:A.depth+3*k+5<recursionLimit
 un:A.units+16*k+200<cLine
theorem Room.mono{j k:Nat}{A:Around}(r:Room k A)(h:j<=k):Room j A:=⟨r.hd,by have:=r.dp;omega,by have:=r.un;omega⟩
theorem Room.deeper{k:Nat}{A:Around}(r:Room (k+1) A)(env:Env):Room k (A.deeper env):=
 ⟨r.hd,by have:=r.dp;show A.depth+1+3*k+5<_;omega,by have:=r.un;show A.units+3+16*k+200<_;omega⟩
theorem zll{A:Around}{C:Addr}{us:List Value}{kw:List (Str×Value)}:(A.under (.builtin "type.__call__" ⟨.ref C::us,kw⟩)).depth=A.depth+1:=by
 first | rfl | simp[Around.under,Code.weight,Code.isCreation,Code.isGuard,Code.isCaller,Code.frames,Code.isFrame,guardIds]
theorem zlw{A:Around}{C:Addr}{us:List Value}{kw:List (Str×Value)}:(A.under (.builtin "type.__call__" ⟨.ref C::us,kw⟩)).units=A.units+1:=by
 first | rfl | simp[Around.under,Code.cUnits,Code.frames,Code.isFrame]
theorem Room.make{k:Nat}{A:Around}(r:Room (k+1) A)(C:Addr)(us:List Value)(kw:List (Str×Value)):Room k (A.under (.builtin "type.__call__" ⟨.ref C::us,kw⟩)):=
 ⟨r.hd,by have:=r.dp;rw[zll];omega,by have:=r.un;rw[zlw];omega⟩
theorem Room.depth{k:Nat}{A:Around}(r:Room k A):A.depth<recursionLimit:=by have:=r.dp;omega
theorem Room.units{k:Nat}{A:Around}(r:Room k A):A.units+64<cLine:=by have:=r.un;omega
theorem Room.units0{k:Nat}{A:Around}(r:Room k A):A.units<cLine:=by have:=r.un;omega
def tNil:TA:=λ_ H Q=>Q [] H
def zy2(ta:TE)(tr:TA):TA:=λσ H Q=>ta σ H λx H1=>tr σ H1 λxs H2=>Q (x::xs) H2
section
variable{X:Cx}{e:Expr}{es:List Expr}{te:TE}{t:TA}{pos:Pos}
theorem zai:PA X [] tNil:=λ_ _ _ _ H Q I h=>Calls.spliced_nil ⟨[],H,I,.nil,h⟩
theorem zaa(ha:PE X e te)(hr:PA X es t)(hs:starEach (e::es) X.env=(false,eval e X.env)::starEach es X.env:=by rfl):PA X (e::es) (zy2 te t):=by
 intro pos pins s σ H Q I h;rw[hs];show wpAny _ _ (spliced ((false,eval e X.env)::backTo pos (starEach es X.env))) _ _ s;refine Calls.spliced_cons (thn (ha pins s σ H _ I h) λu s1 ⟨x,H1,I1,r1,q1⟩=>?_);exact thn (hr pos pins s1 σ H1 _ I1 q1) λus s2 ⟨xs,H2,I2,r2,q2⟩=>⟨x::xs,H2,I2,.cons r1 r2,q2⟩
def tTup(t:TA):TE:=λσ H Q=>t σ H λxs H1=>xs.length<=sizeLine/\∀p,H1 p=none->Q (.ref p) (upd H1 p (.tup xs))
def tLst(t:TA):TE:=λσ H Q=>t σ H λxs H1=>xs.length<=sizeLine/\∀p,H1 p=none->Q (.ref p) (upd H1 p (.lst xs))
theorem zbc{x1}(h:PA X es t):PE X (.Tuple es x1 pos) (tTup t):=by
 intro pins s σ H Q I hq;refine wpAny_Tuple_spliced (thn (h pos pins s σ H _ I hq) λus s1 ⟨xs,H1,I1,r,z,q⟩=>⟨by rw[<- r.length];exact z,?_⟩);have hf:H1 s1.heap.objs.size=none:=I1.hok.fresh (Yi _);refine⟨.ref s1.heap.objs.size,upd H1 s1.heap.objs.size (.tup xs),I1.laid (t':=s1.toks) (λb u e=>Ye _ e) (Yi _) ?_,rfl,q _ hf⟩;exact⟨z,us,r,⟨_,Yk _ rfl,rfl,_,rfl⟩⟩
theorem zdm(h:PA X es t):PE X (.List es pos) (tLst t):=by
 intro pins s σ H Q I hq;refine wpAny_List_spliced (thn (h pos pins s σ H _ I hq) λus s1 ⟨xs,H1,I1,r,z,q⟩=>⟨by rw[<- r.length];exact z,?_⟩);have hf:H1 s1.heap.objs.size=none:=I1.hok.fresh (Yi _);refine⟨.ref s1.heap.objs.size,upd H1 s1.heap.objs.size (.lst xs),I1.laid (t':=s1.toks) (λb u e=>Ye _ e) (Yi _) ?_,rfl,q _ hf⟩;exact⟨z,us,0,r,Yk _ rfl⟩
end
abbrev Sp:=List V->Hp->VK->XK->Prop
abbrev CXT:=List Env->Hp->Shared->XK->Value->Shared->Prop
structure Env0(P:Program)(w:World)(K:W.Frag)(mg:Str->Option Value)(base:Heap)(A:Around)(outer:List Env)(s:Shared)(H:Hp):Prop where
 frames:A.frames=some outer
 mod:Mod K mg base
 bs:∀b o,base.get? b=some o->s.heap.get? b=some o/\H b=none
 bsz:base.objs.size<=s.heap.objs.size
 funs:s.heap.FunFrames base outer
 frf:∀b∈frs outer,H b=none
 hok:HOk P w H s.heap
 bare:AllBare s.gens
def CE(outer:List Env)(P:Program)(w:World)(H:Hp)(s:Shared)(Q:VK)(u:Value)(s':Shared):Prop:=
 ∃v H',s'.os=s.os/\AllBare s'.gens/\Un (frs outer) [] H H' s.heap s'.heap/\HOk P w H' s'.heap/\RelV v u/\Q v H'
def CR(CX:CXT)(outer:List Env)(P:Program)(w:World)(H:Hp)(s:Shared)(Q:VK)(E:XK)(r:Result)(s':Shared):Prop:=
 match r with
 | .ok (.ret u)=>CE outer P w H s Q u s'
 | .ok _=>False
 | .error e=>CX outer H s E e s'
structure FnOk(P:Program)(w:World)(K:W.Frag)(mg:Str->Option Value)(base:Heap)(CX:CXT)(k:Nat)(f:Addr)(fd:FuncData)(ps:List Str)(sp:Sp):Prop where
 len:∀vs H Q E,sp vs H Q E->vs.length=ps.length
 run:∀(A:Around) (outer:List Env) (s:Shared) (H:Hp) (args:Args) (us:List Value) (vs:List V) (Q:VK) (E:XK),Room k A->Env0 P w K mg base A outer s H->BindsTo s fd args (ps.zip us)->Vals vs us->sp vs H Q E ->
  codeAny (model P w) A (.call (.ref f) args) (CR CX outer P w H s Q E) s
theorem FnOk.mono{P:Program}{w:World}{K:W.Frag}{mg:Str->Option Value}{base:Heap}{CX:CXT}{j k:Nat}{f:Addr}{fd:FuncData}{ps:List Str}{sp:Sp}(F:FnOk P w K mg base CX j f fd ps sp)(h:j<=k) :
  FnOk P w K mg base CX k f fd ps sp:=⟨F.len,λA outer s H args us vs Q E hr=>F.run A outer s H args us vs Q E (hr.mono h)⟩
theorem FnOk.imp{P:Program}{w:World}{K:W.Frag}{mg:Str->Option Value}{base:Heap}{CX:CXT}{k:Nat}{f:Addr}{fd:FuncData}{ps:List Str}{sp sp':Sp}(F:FnOk P w K mg base CX k f fd ps sp)
  (h:∀vs H Q E,sp' vs H Q E->sp vs H Q E):FnOk P w K mg base CX k f fd ps sp':=
 ⟨λvs H Q E q=>F.len vs H Q E (h _ _ _ _ q),λA outer s H args us vs Q E hr he hb hv hs=>F.run A outer s H args us vs Q E hr he hb hv (h _ _ _ _ hs)⟩
theorem Env0.make{P:Program}{w:World}{K:W.Frag}{mg:Str->Option Value}{base:Heap}{A:Around}{outer:List Env}{s:Shared}{H:Hp}(e:Env0 P w K mg base A outer s H)(C:Addr)(us:List Value)(kw:List (Str×Value)) :
  Env0 P w K mg base (A.under (.builtin "type.__call__" ⟨.ref C::us,kw⟩)) outer s H:=⟨by first | exact e.frames | (simpa[Around.under,Code.envs,Code.isFrame,pushEnvs]using e.frames),e.mod,e.bs,e.bsz,e.funs,e.frf,e.hok,e.bare⟩
section
variable{X:Cx}{pins:List (Addr×Obj)}{σ : St}{H:Hp}{s s':Shared}
theorem Inv.env0(I:Inv X pins σ H s):Env0 X.prog X.w X.K X.mg X.base X.A X.stack s H:=
 ⟨I.ok.frames,I.ok.mod,I.bs,Yr I.ok.bsz I.sz,I.stack,I.stkFree,I.hok,I.bare⟩
theorem Inv.after{Q:VK}{u:Value}(I:Inv X pins σ H s)(h:CE X.stack X.prog X.w H s Q u s'):EP X pins σ Q u s':=by
 obtain⟨v,H',os,bare,un,hok,r,q⟩:=h;obtain⟨hh,g,d,t,os'⟩:=s';obtain rfl:os'=s.os:=os;exact⟨v,H',I.call (h':=hh) (g':=g) (d':=d) (t':=t) (ch:=[]) un hok bare (λb z=>absurd z (by simp)),r,q⟩
end
def Binds(K:W.Frag)(fd:FuncData)(ps:List Str)(ds:List Value):Prop:=
 ∀(s:Shared) (us:List Value),K.In s.heap->(us++ds).length=ps.length->BindsTo s fd ⟨us,[]⟩ (ps.zip (us++ds))
theorem Binds.all{K:W.Frag}{fd:FuncData}{ps:List Str}(h:∀us:List Value,us.length=ps.length->bindArgs fd ⟨us,[]⟩=pure (ps.zip us)):Binds K fd ps []:=λs us _ hl=>by
 rw[List.append_nil]at hl ⊢;exact .of_eq (h us hl)
section
variable{X:Cx}{CX:CXT}{k:Nat}{f C:Addr}{fd:FuncData}{ps:List Str}{sp:Sp}{dvs:List V}{ds:List Value}{E:XK}{x m:Str}{p pos apos:Pos}{e o:Expr}{es:List Expr}{ta:TE}{t:TA}
structure Mk(K:W.Frag)(C f:Addr):Prop where
 makes:W.makesIn K C=true
 init:W.findIn K (.ref C) "__init__" = some (some (.ref f))
 fn:W.isFn K (.ref f)=true
 kp:W.keepIn K (.ref C)=true
end
structure FnScope(N P:List Str)(sc:Scope):Prop where
 kind:sc.kind=.function
 co:sc.isCoroutine=false
 gen:sc.isGenerator=false
 nd:N.Nodup
 pre:N.take P.length=P
 par:∀x∈P,sc.names.lookup x=some .local\/sc.names.lookup x=some .cell
 nofree:∀y∈sc.names,y.2≠.free
theorem zjc{kindOf:Str->Option NameKind}{x:Str}:∀{binds:List (Str×Value)} {m:Str->Option Value},(∀v,(x,v) ∉ binds)->bindL kindOf binds m x=m x
 | [],_,_=>rfl
 | (n,v)::r,m,h=>by
  unfold bindL;rw[zjc λw hw=>h w (List.mem_cons_of_mem _ hw)];split
  ·have:x≠n:=by rintro rfl;exact h v List.mem_cons_self
   simp[this]
  ·rfl
theorem zis{kindOf:Str->Option NameKind}{x:Str}:∀{binds:List (Str×Value)} {m:Str->Option Value},(∀v,(x,v) ∉ binds)->bindC kindOf binds m x=m x
 | [],_,_=>rfl
 | (n,v)::r,m,h=>by
  unfold bindC;rw[zis λw hw=>h w (List.mem_cons_of_mem _ hw)];split
  ·rfl
  ·have:x≠n:=by rintro rfl;exact h v List.mem_cons_self
   simp[this]
theorem zid{kindOf:Str->Option NameKind}{x:Str}{v:Value}:∀{P:List Str} {vs:List Value} {i:Nat} {m:Str->Option Value},P.Nodup->P[i]? = some x->vs[i]? = some v->kindOf x=some .local ->
  bindL kindOf (P.zip vs) m x=some v
 | [],_,_,_,_,h,_,_=>by simp at h
 | _::_,[],_,_,_,_,h,_=>by simp at h
 | p::P,w::vs,0,m,nd,h1,h2,hk=>by
  simp at h1 h2;subst h1;subst h2
  show bindL kindOf ((p,w)::P.zip vs) m p=_;unfold bindL;rw[zjc λv hv=>(List.nodup_cons.mp nd).1 (List.of_mem_zip hv).1,Yl hk];simp
 | p::P,w::vs,i+1,m,nd,h1,h2,hk=>by
  show bindL kindOf ((p,w)::P.zip vs) m x=_;unfold bindL;exact zid (i:=i) (List.nodup_cons.mp nd).2 (by simpa using h1) (by simpa using h2) hk
theorem zi6{kindOf:Str->Option NameKind}{x:Str}{v:Value}:∀{P:List Str} {vs:List Value} {i:Nat} {m:Str->Option Value},P.Nodup->P[i]? = some x->vs[i]? = some v->kindOf x≠some .local ->
  bindC kindOf (P.zip vs) m x=some v
 | [],_,_,_,_,h,_,_=>by simp at h
 | _::_,[],_,_,_,_,h,_=>by simp at h
 | p::P,w::vs,0,m,nd,h1,h2,hk=>by
  simp at h1 h2;subst h1;subst h2
  show bindC kindOf ((p,w)::P.zip vs) m p=_;unfold bindC;rw[zis λv hv=>(List.nodup_cons.mp nd).1 (List.of_mem_zip hv).1,Yh hk];simp
 | p::P,w::vs,i+1,m,nd,h1,h2,hk=>by
  show bindC kindOf ((p,w)::P.zip vs) m x=_;unfold bindC;exact zi6 (i:=i) (List.nodup_cons.mp nd).2 (by simpa using h1) (by simpa using h2) hk
def start(N:List Str)(vs:List V):St:=vs.map some++List.replicate (N.length-vs.length) none
def cxOf(CX:CXT)(P:Program)(w:World)(K:W.Frag)(mg:Str->Option Value)(base:Heap)(N:List Str)(qual:Str)(scope:Scope)(f:Addr)(cd:Value)(A:Around)(outer:List Env)(s:Shared)(H:Hp)(E:XK):Cx where
 prog:=P
 w:=w
 K:=K
 mg:=mg
 base:=base
 A:=A.deeper (envOfC qual scope s.heap.objs.size f cd)
 N:=N
 s₀:=s
 H₀:=H
 env:=envOfC qual scope s.heap.objs.size f cd
 outer:=outer
 stack:=envOfC qual scope s.heap.objs.size f cd::outer
 ex:=[]
 calm:=true
 fn:=λ_=>true
 pn:=[]
 xe:=λe s'=>wpAny (model P w) (A.deeper (envOfC qual scope s.heap.objs.size f cd)) (leaving (envOfC qual scope s.heap.objs.size f cd) e) (λ_ s''=>CX outer H s E e s'') (λe' s''=>CX outer H s E e' s'') s'
theorem zkq{sc:Scope}{n:Nat}{x:Str}(h:sc.names.lookup x=some .cell):∃c,(cellsFrom n sc.names []).lookup x=some c:=by
 have q:=W.cellsFrom_some sc.names n [] (.inl h);exact Option.isSome_iff_exists.mp q
theorem zn1{CX:CXT}{P:Program}{w:World}{K:W.Frag}{mg:Str->Option Value}{base:Heap}{N ps:List Str}{qual:Str}{scope:Scope}{f:Addr}{cd:Value}{A:Around}{outer:List Env}{s s1:Shared}{H:Hp}{E:XK}{us:List Value}{vs:List V}
  (S:FnScope N ps scope) (hd:A.handled=none) (e0:Env0 P w K mg base A outer s H) (hl:vs.length=ps.length) (r:Vals vs us)
  (x:InCallC s s.heap.objs.size (bindL (envOfC qual scope s.heap.objs.size f cd).kindOf (ps.zip us) λ_=>none) (cellsFrom (s.heap.objs.size+1) scope.names []) (bindC (envOfC qual scope s.heap.objs.size f cd).kindOf (ps.zip us) λ_=>none) s1) :
  Inv (cxOf CX P w K mg base N qual scope f cd A outer s H E) [] (start N vs) H s1:=by
 have hpl:ps.length<=N.length:=by have:=Jt List.length S.pre;rw[List.length_take]at this;omega
 obtain⟨h1,tk,rfl,hk⟩:=x.done;have noA:∀b:Addr,b ∉ (cxOf CX P w K mg base N qual scope f cd A outer s H E).ex:=λb z=>absurd (show b∈([]:List Addr) from z) (by simp)
 refine⟨⟨e0.mod,S.kind,Z,Z,Yi _,λy z c h1 h2=>?_,λy hy=>?_,λy c _ h=>?_,λ_=>hd,Around.frames_deeper e0.frames,.inr ⟨Z,Z⟩,λb z=>absurd z (noA b),e0.bs,e0.bsz,λb _ _=>noA b,λb z=>absurd z (noA b),e0.funs,e0.frf⟩,
  rfl,e0.bare,Un.kept hk,⟨_,x.toInCall.ns,λi y v h1 h2 h3=>?_⟩,λy c h=>⟨_,x.cell y c h⟩,e0.hok.fresh (Yi _),λy c h=>?_,λp hp=>absurd (show p∈([]:List (Addr×Obj)) from hp) (by simp),e0.hok.kept hk,?_⟩
 ·exact name_of_addr x.apart (PySem.mem_of_lookup h1) (PySem.mem_of_lookup h2)
 ·have hy:scope.names.lookup y=some .cell\/scope.names.lookup y=some .free:=hy;rcases hy with hy | hy
  ·exact zkq hy
  ·exact absurd rfl (S.nofree _ (PySem.mem_of_lookup hy))
 ·exact Nat.le_of_lt (x.above y c (PySem.mem_of_lookup h))
 ·have hi:i<vs.length:=by
   unfold start at h2;by_cases hi:i<vs.length
   ·exact hi
   ·rw[List.getElem?_append_right (by simpa using hi)]at h2;rw[List.getElem?_replicate]at h2;split at h2 <;> cases h2
  have ha:vs[i]? = some v:=by
   unfold start at h2;rw[List.getElem?_append_left (by simpa using hi),Ym]at h2
   cases e:vs[i]? with
   | none=>rw[e]at h2;cases h2
   | some a=>rw[e]at h2;cases h2;rfl
  obtain⟨u,hu,rv⟩:=r.get ha;have hp:ps[i]? = some y:=by
   rw[<- S.pre,List.getElem?_take_of_lt (by omega)];exact h1
  have ndP:ps.Nodup:=by rw[<- S.pre];exact S.nd.sublist (List.take_sublist _ _)
  refine⟨u,rv,?_⟩;rcases S.par y (Yx hp) with k | k
  ·exact .inl ⟨k,zid ndP hp hu k⟩
  ·obtain⟨c,e⟩:=zkq (n:=s.heap.objs.size+1) k;refine .inr ⟨.inl k,c,e,?_⟩;have q:=x.cell y c e;rw[zi6 ndP hp hu (by show scope.names.lookup y≠_;rw[k];decide)]at q;exact q
 ·exact e0.hok.fresh (Nat.le_of_lt (x.above y c (PySem.mem_of_lookup h)))
 ·unfold start;show _=N.length;rw[Y6,Yd,List.length_replicate];omega
theorem zwt{CX:CXT}{P:Program}{w:World}{K:W.Frag}{mg:Str->Option Value}{base:Heap}{k:Nat}{f:Addr}{name qual:Str}{params:Arguments}{body:List Stmt}{scope:Scope}{dV kV doc pm cdv ct oc:Value}{an od:Option Addr}
  {osl:Array (Option Value)} {N ps:List Str} {sp:Sp} (lk:K.lookup f=some ⟨oc,od,.func (W.fnOf name qual params body scope dV kV doc pm an cdv ct),osl⟩) (hcd:W.codeIn K cdv qual=true) (S:FnScope N ps scope)
  (len:∀vs H Q E,sp vs H Q E->vs.length=ps.length)
  (hbody:∀(A:Around) (outer:List Env) (s:Shared) (H:Hp) (vs:List V) (Q:VK) (E:XK),Room k (A.deeper (envOfC qual scope s.heap.objs.size f cdv))->sp vs H Q E ->
   ∃t,PSs (cxOf CX P w K mg base N qual scope f cdv A outer s H E) body t/\t { nx:=λ_ H'=>Q .non H',rt:=Q } (start N vs) H) :
  FnOk P w K mg base CX (k+1) f (W.fnOf name qual params body scope dV kV doc pm an cdv ct) ps sp:=by
 refine⟨len,λA outer s H args us vs Q E hr e0 hb r hsp=>?_⟩;have hl:=len _ _ _ _ hsp;have KX:K.In s.heap:=e0.mod.kin.keeps λb o e=>(e0.bs b o e).1
 have lim:s.heap.NoLimit:=e0.mod.nolimit.keeps λb o e=>(e0.bs b o e).1
 have hkind:∀y∈ps.zip us,scope.names.lookup y.1=some .local\/(scope.names.lookup y.1=some .cell/\((cellsFrom (s.heap.objs.size+1) scope.names []).lookup y.1).isSome=true):=fun⟨n,v⟩ hy=>by
  rcases S.par n (List.of_mem_zip hy).1 with q | q
  ·exact .inl q
  ·exact .inr ⟨q,W.cellsFrom_some _ _ _ (.inl q)⟩
 refine codeAny_call_function hr.depth (KX _ _ lk) rfl S.co S.gen rfl (W.codeRec_of KX hcd) (hb _ _ _ _ ?_);refine wpAny_newFunctionEnv_cells S.kind hkind λenv he s1 x=>?_
 subst he;refine⟨lim.keeps x.toInCall.keep,codeAny_func ?_⟩;obtain⟨t,ht,hq⟩:=hbody A outer s H vs Q E (hr.deeper _) hsp;have I:Inv (cxOf CX P w K mg base N qual scope f cdv A outer s H E) [] (start N vs) H s1:=zn1 S hr.hd e0 hl r x;refine wpAny_mono (ht [] s1 (start N vs) H _ I hq) (λfl s' hs=>?_) λe s' hs=>hs
 have fin:∀{σ':St} {H':Hp} {v:V} {u:Value},Inv (cxOf CX P w K mg base N qual scope f cdv A outer s H E) [] σ' H' s'->RelV v u->Q v H'->CE outer P w H s Q u s':=
  fun{σ' H' v u} J rv q=>⟨v,H',J.os,J.bare,J.base,J.hok,rv,q⟩
 cases fl with
 | ret u=>
  obtain⟨v,σ',H',J,rv,q⟩:=hs;exact fin J rv q
 | next=>
  obtain⟨σ',H',J,q⟩:=hs;exact fin (v:=V.non) (u:=Value.none) J rfl q
 | brk=>
  obtain⟨_,_,_,q⟩:=hs;exact Jd q
 | cont=>
  obtain⟨_,_,_,q⟩:=hs;exact Jd q
section
variable{X:Cx}{x:Str}{p pos:Pos}{e:Expr}{es:List Expr}{t:TA}{id T:String}{r:List V->Hp->VK->Prop}
def tCB(r:List V->Hp->VK->Prop)(t:TA):TE:=λσ H Q=>t σ H λvs H1=>r vs H1 Q
theorem za1(hc:CallR X (.builtin id) r)(hg:Gl X x)(hm:X.mg x=none)(hv:bootBuiltins x=some (.builtin id))(ha:PA X (e::es) t)(hn:x≠"__name__":=by decide)(hdb:(x == ("__debug__" : Str))=false:=by decide)
  (he:starEach (e::es) X.env=(false,eval e X.env)::starEach es X.env:=by rfl) (hpl:(backTo pos (starEach es X.env)).any (·.1)=false:=by rfl):PE X (.Call (.Name x p) (e::es) [] pos) (tCB r t):=by
 intro pins s σ H Q I h;refine wpAny_Call_Name_kw (ziv I hg hm hv ?_ hn hdb);exact PyProof.Rows.callWith_builtin1 (thn (ha pos pins s σ H _ I h) λus s1 ⟨vs,H1,I1,r1,q1⟩=>hc pins s1 σ H1 vs us Q I1 r1 q1) he hpl
theorem zbl(hc:CallR X (.type T) r)(hg:Gl X x)(hm:X.mg x=none)(hv:bootBuiltins x=some (.type T))(ha:PA X (e::es) t)(hn:x≠"__name__":=by decide)(hdb:(x == ("__debug__" : Str))=false:=by decide)
  (he:starEach (e::es) X.env=(false,eval e X.env)::starEach es X.env:=by rfl) (hpl:(backTo pos (starEach es X.env)).any (·.1)=false:=by rfl):PE X (.Call (.Name x p) (e::es) [] pos) (tCB r t):=by
 intro pins s σ H Q I h;refine wpAny_Call_Name_kw (ziv I hg hm hv ?_ hn hdb);exact PyProof.Rows.callWith_type1 (thn (ha pos pins s σ H _ I h) λus s1 ⟨vs,H1,I1,r1,q1⟩=>hc pins s1 σ H1 vs us Q I1 r1 q1) he hpl
end
end L2
namespace HT
open PySem PyProof.Rows
section
variable{prog:Program}{w:World}{A:Around}{E:Value->Shared->Prop}{s:Shared}
def sIx(n d:Nat):Option Int->Nat
 | none=>d
 | some v=>if v<0 then(v+(n:Int)).toNat else min v.toNat n
theorem sIx_none(n d:Nat):sIx n d none=d:=rfl
theorem sIx_nat(n d k:Nat):sIx n d (some (k:Int))=min k n:=by
 show (if (k:Int)<0 then((k:Int)+(n:Int)).toNat else min (k:Int).toNat n)=min k n;rw[Yh (by omega),Y1]
end
end HT
namespace L2
open PySem PySem.Spec PyProof.Rows
abbrev TO:=St->Hp->(Option Int->Hp->Prop)->Prop
def PO(X:Cx)(e:Option Expr)(t:TO):Prop:=
 ∀(pins:List (Addr×Obj)) (s:Shared) (σ : St) (H:Hp) (Q:Option Int->Hp->Prop),Inv X pins σ H s->t σ H Q ->
  wpAny (model X.prog X.w) X.A (evalPart e X.env) (λu s'=>∃o H',Inv X pins σ H' s'/\IsPart u o/\Q o H') X.xe s
def zs0:TO:=λ_ H Q=>Q none H
def zx9(t:TE):TO:=λσ H Q=>t σ H λx H1=>∃i,x=.int i/\Q (some i) H1
section
variable{X:Cx}{e:Expr}{te:TE}{lo hi:Option Expr}{tl th:TO}{pos p2:Pos}
theorem zj7:PO X none zs0:=by
 intro pins s σ H Q I h;rw[evalPart_none];exact Yb ⟨none,H,I,.none,h⟩
theorem zez(h:PE X e te):PO X (some e) (zx9 te):=by
 intro pins s σ H Q I hw;rw[evalPart_some];refine thn (h pins s σ H _ I hw) λu s1 ⟨x,H1,I1,r1,q1⟩=>?_
 obtain⟨i,rfl,q⟩:=q1;obtain⟨t,rfl⟩:=r1;exact⟨some i,H1,I1,.int i t,q⟩
def SlR(X:Cx)(r:V->Option Int->Option Int->Hp->VK->Prop):Prop:=
 ∀(pins:List (Addr×Obj)) (s:Shared) (σ : St) (H:Hp) (x:V) (v vl vu:Value) (lo hi:Option Int) (sl:Addr) (Q:VK),Inv X pins σ H s->RelV x v->s.heap.IsSliceOf sl vl vu .none->IsPart vl lo->IsPart vu hi->r x lo hi H Q ->
  ∃T id,typeLookup (.type T) "__getitem__" = pure (some (.builtin id))/\s.TypeIs v T/\wpAny (model X.prog X.w) X.A (getItem v (.ref sl)) (EP X pins σ Q) X.xe s
def tSl(r:V->Option Int->Option Int->Hp->VK->Prop)(te:TE)(tl th:TO):TE:=λσ H Q=>te σ H λx H1=>tl σ H1 λl H2=>th σ H2 λu H3=>r x l u H3 Q
theorem zfj{r:V->Option Int->Option Int->Hp->VK->Prop}(hr:SlR X r)(he:PE X e te)(hl:PO X lo tl)(hu:PO X hi th):PE X (.Subscript e (.Slice lo hi none p2) pos) (tSl r te tl th):=by
 intro pins s σ H Q I h;refine Subscript_ (thn (he pins s σ H _ I h) λv s1 ⟨x,H1,I1,r1,q1⟩=>?_);refine wpAny_Slice (thn (hl pins s1 σ H1 _ I1 q1) λvl s2 ⟨l,H2,I2,pl,q2⟩=>thn (hu pins s2 σ H2 _ I2 q2) λvu s3 ⟨u,H3,I3,pu,q3⟩=>?_);rw[evalPart_none];refine Yb ?_;have I4:Inv X pins σ H3 { s3 with heap:=s3.heap.push { cls:=.type "slice",data:=.fields #[vl,vu,.none] } }:=I3.kept (t':=s3.toks) λb ob q=>Ye _ q
 obtain⟨T,id,hT,ht,hg⟩:=hr pins { s3 with heap:=s3.heap.push { cls:=.type "slice",data:=.fields #[vl,vu,.none] } } σ H3 x v vl vu l u s3.heap.objs.size Q I4 r1 (Heap.IsSliceOf.new ..) pl pu q3;show wpAny (model X.prog X.w) X.A (subscriptTail e (.Slice lo hi none p2) v (.ref s3.heap.objs.size)) (EP X pins σ Q) X.xe { s3 with heap:=s3.heap.push { cls:=.type "slice",data:=.fields #[vl,vu,.none] } };exact tail_any (ops:=[.ref s3.heap.objs.size,v]) ht hT hg (by with_unfolding_all rfl)
def cutV(xs:List V)(lo hi:Option Int):List V:=(xs.drop (HT.sIx xs.length 0 lo)).take (HT.sIx xs.length xs.length hi-HT.sIx xs.length 0 lo)
theorem zj0(xs:List V)(lo hi:Option Int):(cutV xs lo hi).length<=xs.length:=by
 unfold cutV;rw[List.length_take,List.length_drop];omega
end
def ixN(n:Nat)(i:Int):Option Nat:=if 0<=i then(if i<n then some i.toNat else none) else if -(n:Int)<=i then some (i+n).toNat else none
def atI{α : Type}(xs:List α)(i:Int):Option α:=(ixN xs.length i).bind λj=>xs[j]?
theorem ztu{n:Nat}{i:Int}{j:Nat}(h:ixN n i=some j):seqIndex? i n=some j/\j<n/\-(n:Int)<=i/\i<n:=by
 unfold ixN at h;by_cases h0:0<=i
 ·rw[Yl h0]at h;by_cases h1:i<n
  ·rw[Yl h1]at h;have e:i.toNat=j:=Je h;exact⟨by rw[seqIndex_of h0 h1,e],by omega,by omega,h1⟩
  ·rw[Yh h1]at h;cases h
 ·rw[Yh h0]at h;by_cases h1 : -(n:Int)<=i
  ·rw[Yl h1]at h;have e:(i+n).toNat=j:=Je h;exact⟨by rw[seqIndex_neg (by omega) h1,e],by omega,h1,by omega⟩
  ·rw[Yh h1]at h;cases h
theorem zj2{α : Type}{xs:List α}{i:Int}{v : α}(h:atI xs i=some v):∃j,seqIndex? i xs.length=some j/\xs[j]? = some v/\j<xs.length/\-(xs.length:Int)<=i/\i<xs.length:=by
 unfold atI at h
 cases e:ixN xs.length i with
 | none=>rw[e]at h;cases h
 | some j=>
  rw[e]at h;obtain⟨h1,h2,h3,h4⟩:=ztu e;exact⟨j,h1,h,h2,h3,h4⟩
theorem zho{α : Type}{xs:List α}{j:Nat}{v : α}(h:xs[j]? = some v):atI xs (j:Int)=some v:=by
 have hj:j<xs.length:=(List.getElem?_eq_some_iff.mp h).1;have e:ixN xs.length (j:Int)=some j:=by
  unfold ixN;rw[Yl (by omega),Yl (by omega)];simp
 unfold atI;rw[e];exact h
theorem zqi{α : Type}(xs:List α)(v : α):atI (xs++[v]) (-1)=some v:=by
 have hl:(xs++[v]).length=xs.length+1:=by simp
 have e:ixN (xs++[v]).length (-1)=some xs.length:=by
  unfold ixN;rw[hl,Yh (by decide),Yl (by omega)];congr 1;omega
 unfold atI;rw[e];show (xs++[v])[xs.length]? = some v;simp
def PlainIx(b:Expr):Prop:=∀o i,subscripted b false o i=operate [o,i] (getItem o i)
def IxR(X:Cx)(r:R2):Prop:=
 ∀(value slice:Expr) (pins:List (Addr×Obj)) (s:Shared) (σ : St) (H:Hp) (x y:V) (v u:Value) (Q:VK),Inv X pins σ H s->RelV x v->RelV y u->r x y H Q ->
  subscripted slice false v u=operate [v,u] (getItem v u)->wpAny (model X.prog X.w) X.A (subscriptTail value slice v u) (EP X pins σ Q) X.xe s
def MtR(X:Cx)(id:String)(r:V->List V->Hp->VK->Prop):Prop:=
 ∀(pins:List (Addr×Obj)) (s:Shared) (σ : St) (H:Hp) (x:V) (xs:List V) (v:Value) (us:List Value) (Q:VK),Inv X pins σ H s->RelV x v->Vals xs us->r x xs H Q ->
  wpAny (model X.prog X.w) X.A (call (.builtin id) (v::us)) (EP X pins σ Q) X.xe s
section
variable{X:Cx}{a b:Expr}{ta tb:TE}{pos:Pos}
theorem zaw{r:R2}(hr:IxR X r)(ha:PE X a ta)(hb:PE X b tb)(hs:PlainIx b):PE X (.Subscript a b pos) (tOp r ta tb):=by
 intro pins s σ H Q I h;exact Subscript_ (binT ha hb I h λv u s2 x y H2 I2 rx ry q=>hr a b pins s2 σ H2 x y v u Q I2 rx ry q (hs _ _))
def rIxL(K:W.Frag):R2:=λx y H Q=>∃p xs i v,x=.ref p/\y=.int i/\SqL K H p xs/\atI xs i=some v/\Q v H
def rIxT(K:W.Frag):R2:=λx y H Q=>∃p xs i v,x=.ref p/\y=.int i/\SqT K H p xs/\atI xs i=some v/\Q v H
def rIxS:R2:=λx y H Q=>∃z i c,x=.str z/\y=.int i/\z.length<=sizeLine/\atI z.cps.toList i=some c/\Q (.str ⟨#[c]⟩) H
theorem zbg:IxR X (rIxL X.K):=by
 intro value slice pins s σ H x y v u Q I rx ry h hs;obtain⟨p,xs,i,z,rfl,rfl,hq,he,q⟩:=h
 cases rx;obtain⟨t,rfl⟩:=ry;obtain⟨its,r,pl,hz⟩:=I.list hq;obtain⟨j,h1,h2,h3,h4,h5⟩:=zj2 he;obtain⟨w,ew,rw'⟩:=r.get h2;have hl:=r.length;have hn:=zi5;have fin:EP X pins σ Q w s:=⟨z,H,I,rw',q⟩;by_cases h0:0<=i
 ·have hj:i.toNat=j:=by
   rw[seqIndex_of h0 h5]at h1;exact Je h1
  exact item_listR pl.isList h0 (by omega) (by rw[hj];simpa using ew) fin hs
 ·have hj:(i+(its.toArray.size:Int)).toNat=j:=by
   rw[seqIndex_neg (by omega) h4]at h1;rw[Ys,<- hl];exact Je h1
  exact subscriptTail_builtinR (x:=w) pl.isList.typeIs slot_list_getitem.lookup
   (wpAny_getItem_list_neg (Q:=λr s'=>r=w/\EP X pins σ Q r s') pl.isList (by omega) (by rw[Ys] <;> omega) (by omega) (by rw[hj];simpa using ew) ⟨Z,fin⟩) hs
theorem zas:IxR X (rIxT X.K):=by
 intro value slice pins s σ H x y v u Q I rx ry h hs;obtain⟨p,xs,i,z,rfl,rfl,hq,he,q⟩:=h
 cases rx;obtain⟨t,rfl⟩:=ry;obtain⟨its,r,pl,hz⟩:=I.tuple hq;obtain⟨j,h1,h2,h3,h4,h5⟩:=zj2 he;obtain⟨w,ew,rw'⟩:=r.get h2;have hl:=r.length;have hn:=zi5;have fin:EP X pins σ Q w s:=⟨z,H,I,rw',q⟩;exact subscriptTail_builtinR (x:=w) pl.typeIs slot_tuple_getitem.lookup
  (getItem_tuple (j:=j) (Q:=λr s'=>r=w/\EP X pins σ Q r s') pl (by omega) (by omega) (by rw[Ys,<- hl];exact h1) (by simpa using ew) ⟨Z,fin⟩) hs
theorem zq9:IxR X rIxS:=by
 intro value slice pins s σ H x y v u Q I rx ry h hs;obtain⟨z,i,c,rfl,rfl,hz,he,q⟩:=h;obtain⟨t,rfl⟩:=rx;obtain⟨t',rfl⟩:=ry;obtain⟨j,h1,h2,h3,h4,h5⟩:=zj2 he;have hl:z.cps.toList.length=z.length:=by simp[Str.length]
 rw[hl]at h1 h4 h5;have hn:=zi5;exact tail_any (typeIs_str s z t) slot_str_getitem.lookup (getItem_str (c:=c) (by
  have e1:decide (i < -(2^63:Int))=false:=Yw (by omega);have e2:decide (i ≥ 2^63)=false:=Yw (by omega);rw[e1,e2,Bool.or_false]) (by rw[h1];simpa using h2) ⟨.str ⟨#[c]⟩,H,I.tok _,⟨_,Z⟩,q⟩) hs
theorem ziz(lo hi:Option Int)(n:Nat):(sliceBounds lo hi none n).1=((HT.sIx n 0 lo:Nat):Int)/\(sliceBounds lo hi none n).2.1=((HT.sIx n n hi:Nat):Int)/\(sliceBounds lo hi none n).2.2=1:=by
 refine⟨?_,?_,Z⟩
 ·cases lo with
  | none=>simp[sliceBounds,HT.sIx]
  | some i=>
   simp only[sliceBounds,HT.sIx,Option.getD_none,show (1:Int) > 0 by decide,if_true]
   by_cases h:i<0
   ·simp only[h,if_true] <;> omega
   ·simp only[h,if_false] <;> omega
 ·cases hi with
  | none=>simp[sliceBounds,HT.sIx]
  | some i=>
   simp only[sliceBounds,HT.sIx,Option.getD_none,show (1:Int) > 0 by decide,if_true]
   by_cases h:i<0
   ·simp only[h,if_true] <;> omega
   ·simp only[h,if_false] <;> omega
theorem zhi(its:List Value)(lo hi:Option Int):slicePick its.toArray lo hi none=((its.drop (HT.sIx its.length 0 lo)).take (HT.sIx its.length its.length hi-HT.sIx its.length 0 lo)).toArray:=by
 obtain⟨h1,h2,h3⟩:=ziz lo hi its.toArray.size;unfold slicePick;rw[h1,h2,h3];simp only[sliceRange_one,pick_run,List.size_toArray] <;> rfl
def rSlL(K:W.Frag):V->Option Int->Option Int->Hp->VK->Prop:=λx lo hi H Q=>∃a xs,x=.ref a/\SqL K H a xs/\∀p,H p=none->Q (.ref p) (upd H p (.lst (cutV xs lo hi)))
theorem ztg:SlR X (rSlL X.K):=by
 intro pins s σ H x v vl vu lo hi sl Q I rx hs pl pu h;obtain⟨a,xs,rfl,hx,q⟩:=h
 cases rx;obtain⟨its,r,ht,hz⟩:=I.list hx;have hlen:=r.length;refine⟨"list",_,slot_list_getitem.lookup,ht.isList.typeIs,?_⟩;refine wpAny_getItem_list_slice ht.isList hs pl pu .none (by simp) ?_ (by rw[List.size_toArray] <;> omega);rw[zhi,<- hlen];refine⟨.ref s.heap.objs.size,_,I.laid (t':=s.toks) (o:=.lst (cutV xs lo hi)) (λb ob q=>Ye _ q) (Yi _) ?_,Z,q _ (I.hok.fresh (Yi _))⟩;exact⟨Yr (zj0 xs lo hi) hz,_,0,(r.drop (HT.sIx xs.length 0 lo)).take (HT.sIx xs.length xs.length hi-HT.sIx xs.length 0 lo),Yk _ rfl⟩
theorem zir:CallR X (.builtin "len") (λxs H Q=>∃p ys,xs=[.ref p]/\(SqL X.K H p ys\/SqT X.K H p ys)/\Q (.int ys.length) H):=by
 intro pins s σ H xs us Q I r h;obtain⟨p,ys,rfl,hq,q⟩:=h;obtain⟨u,rfl,rx⟩:=zg1 r
 cases rx;have hn:=zi5;rcases hq with hq | hq
 ·obtain⟨its,r',pl,hz⟩:=I.list hq;have hlen:=r'.length;exact Calls.call_len_list pl.isList (by simp only[List.size_toArray] <;> omega) ⟨.int ys.length,H,I.tok _,⟨s.toks+1,by rw[Ys,hlen]⟩,q⟩
 ·obtain⟨its,r',pl,hz⟩:=I.tuple hq;have hlen:=r'.length;exact len_tuple pl (by simp only[List.size_toArray] <;> omega) ⟨.int ys.length,H,I.tok _,⟨s.toks+1,by rw[Ys,hlen]⟩,q⟩
theorem zc4:CallR X (.builtin "len") (λxs H Q=>∃z,xs=[.str z]/\z.length<=sizeLine/\Q (.int z.length) H):=by
 intro pins s σ H xs us Q I r h;obtain⟨z,rfl,hz,q⟩:=h;obtain⟨u,rfl,t,rfl⟩:=zg1 r;have hn:=zi5;exact len_str (by omega) ⟨.int z.length,H,I.tok _,⟨_,rfl⟩,q⟩
theorem zhj:CallR X (.type "tuple") (λxs H Q=>∃p ys,xs=[.ref p]/\((SqL X.K H p ys/\∀l,H l=none->Q (.ref l) (upd H l (.tup ys)))\/(SqT X.K H p ys/\Q (.ref p) H))):=by
 intro pins s σ H xs us Q I r h;obtain⟨p,ys,rfl,h⟩:=h;obtain⟨u,rfl,rx⟩:=zg1 r
 cases rx;rcases h with⟨hq,q⟩ | ⟨hq,q⟩
 ·obtain⟨its,r',pl,hz⟩:=I.list hq;have hlen:=r'.length;refine call_tuple_list pl.isList (λh' kp=>?_) (by simp only[List.size_toArray] <;> omega);have I1:Inv X pins σ H { s with heap:=h' }:=I.kept (t':=s.toks) kp;have I2:Inv X pins σ (upd H h'.objs.size (.tup ys)) { s with heap:=h'.push { cls:=.type "tuple",data:=.seq its.toArray } }:=
   I1.laid (t':=s.toks) (λb o e=>Ye _ e) (Yi _) (show ObjOk X.prog X.w _ _ _ (.tup ys) from⟨hz,its,r',IsTup.new _ _⟩)
  exact⟨.ref h'.objs.size,_,I2,Z,q _ (I1.hok.fresh (Yi _))⟩
 ·obtain⟨its,r',pl,hz⟩:=I.tuple hq;exact call_tuple_same pl ⟨.ref p,H,I,Z,q⟩
def tyV(K:W.Frag)(T:String)(x:V)(H:Hp):Prop:=match x with
 | .str _=>T = "str"
 | .int _=>T = "int"
 | .ref p=>(T = "list"/\∃xs,SqL K H p xs)\/(T = "tuple"/\∃o,K.lookup p=some o/\o.cls=.type "tuple"/\o.dict=none) \/
   (T = "dict"/\((∃kvs,H p=some (.dK kvs))\/∃kvs,H p=some (.dT kvs)))\/(T = "set"/\∃S n,H p=some (.set S n))
 | _=>False
theorem zw3{pins:List (Addr×Obj)}{σ : St}{H:Hp}{s:Shared}{T:String}{x:V}{v:Value}(I:Inv X pins σ H s)(r:RelV x v)(ty:tyV X.K T x H) :
  s.TypeIs v T/\∀a,v=.ref a->∃ob,s.heap.get? a=some ob/\ob.dict=none:=by
 cases x with
 | str z=>
  obtain⟨t,rfl⟩:=r
  cases (show T = "str" from ty);exact⟨typeIs_str s z t,λ_ e=>nomatch e⟩
 | int i=>
  obtain⟨t,rfl⟩:=r
  cases (show T = "int" from ty);exact⟨typeIs_int s i t,λ_ e=>nomatch e⟩
 | ref p=>
  cases r;rcases ty with⟨rfl,xs,hq⟩ | ⟨rfl,o,hk,hc,hd⟩ | ⟨rfl,hk⟩ | ⟨rfl,S,n,hk⟩
  ·obtain⟨its,_,pl,_⟩:=I.list hq;refine⟨pl.isList.typeIs,λa e=>?_⟩
   cases e;obtain⟨o,n,e,c,hd,_⟩:=pl;exact⟨o,e,hd⟩
  ·refine⟨⟨o,I.kIn p o hk,hc⟩,λa e=>?_⟩
   cases e;exact⟨o,I.kIn _ o hk,hd⟩
  ·have z:∃o,s.heap.get? p=some o/\o.ExactDict:=by
    rcases hk with⟨kvs,hk⟩ | ⟨kvs,hk⟩
    ·obtain⟨_,_,_,_,o,_,_,e,ex,_⟩:=I.hok p _ hk;exact⟨o,e,ex⟩
    ·obtain⟨_,_,_,_,o,_,_,e,ex,_⟩:=I.hok p _ hk;exact⟨o,e,ex⟩
   obtain⟨o,e,ex⟩:=z;refine⟨⟨o,e,ex.1⟩,λa e2=>?_⟩
   cases e2;exact⟨o,e,ex.2.1⟩
  ·obtain⟨o,_,_,_,e,ex,_⟩:=I.hok p _ hk;refine⟨⟨o,e,ex.1⟩,λa e2=>?_⟩
   cases e2;exact⟨o,e,ex.2.1⟩
 | _=>exact Jd ty
def tBM(K:W.Frag)(T:String)(r:V->List V->Hp->VK->Prop)(to:TE)(t:TA):TE:=λσ H Q=>to σ H λx H1=>tyV K T x H1/\t σ H1 λxs H2=>r x xs H2 Q
variable{o e:Expr}{es:List Expr}{to:TE}{t:TA}{name:Str}{apos cpos:Pos}{T id:String}{r:V->List V->Hp->VK->Prop}
theorem zjx(pa:PlainAttrs T)(slot:Slot T name id)(hty:typeOf (.builtin id)=pure (.type "method_descriptor"))(hm:MtR X id r)(ho:PE X o to)(ha:PA X (e::es) t)
  (hbase:attributeBase o name X.env (eval o X.env)=eval o X.env:=by rfl)
  (hfew:((backTo cpos (starEach (e::es) X.env)).all (λx => !x.1)&&(backToKw cpos (keywordEach [] X.env)).all (λx=>x.1.isSome)
   && decide ((e::es).length+([]:List Keyword).length+(if ([]:List Keyword).isEmpty then 0 else 1)<30))=true:=by rfl)
  (hline:(apos.endLine == cpos.line)=true:=by rfl) (hs:starEach (e::es) X.env=(false,eval e X.env)::starEach es X.env:=by rfl) (hplain:(backTo cpos (starEach es X.env)).any (·.1)=false:=by rfl) :
  PE X (.Call (.Attribute o name apos) (e::es) [] cpos) (tBM X.K T r to t):=by
 intro pins s σ H Q I h;refine wpAny_Call_method_late hbase hfew hline rfl (thn (ho pins s σ H _ I h) λv s1 ⟨x,H1,I1,r1,ty,q1⟩=>?_);obtain⟨h1,h2⟩:=zw3 I1 r1 ty;refine⟨T,id,pa,slot,hty,h1,h2,?_⟩;have hA:=ha cpos pins s1 σ H1 _ I1 q1;rw[hs]at hA ⊢;refine Calls.callWith_builtin (by show (false||(backTo cpos (starEach es X.env)).any (·.1))=false;rw[hplain] <;> rfl) (Calls.evalArgs_plain ?_);exact thn hA λus s2 ⟨vs,H2,I2,r2,q2⟩=>hm pins s2 σ H2 x vs v us Q I2 r1 r2 q2
/- xs.append(e),list.index on a module's tuple .. are MtR facts of 06m -/
end
def MtM(X:Cx)(id:String)(r:V->List V->Hp->VK->Prop):Prop:=
 ∀(pins:List (Addr×Obj)) (s:Shared) (σ : St) (H:Hp) (x:V) (xs:List V) (v:Value) (us:List Value) (Q:VK),Inv X pins σ H s->RelV x v->Vals xs us->r x xs H Q ->
  wpAny (model X.prog X.w) X.A (call (.builtin id) (v::us)) (EP X pins σ Q) X.xe s
theorem Vals.one:∀{x:V} {us:List Value},Vals [x] us->∃u,us=[u]/\RelV x u
 | _,_,.cons r .nil=>⟨_,rfl,r⟩
theorem Vals.two:∀{x y:V} {us:List Value},Vals [x,y] us->∃u v,us=[u,v]/\RelV x u/\RelV y v
 | _,_,_,.cons r (.cons q .nil)=>⟨_,_,rfl,r,q⟩
theorem Vals.rep{xs:List V}{us:List Value}(h:Vals xs us):∀k:Nat,Vals (List.replicate k xs).flatten (List.replicate k us).flatten
 | 0=>.nil
 | k+1=>by
  rw[List.replicate_succ,List.replicate_succ,List.flatten_cons,List.flatten_cons];exact Vals.append h (Vals.rep h k)
theorem zgt(its:List Value):∀(k:Nat) (acc:List Value),
  List.foldl (λx1 x2=>x1++x2) acc.toArray (List.replicate k its.toArray)=(acc++(List.replicate k its).flatten).toArray
 | 0,acc=>by simp
 | k+1,acc=>by
  have e:acc.toArray++its.toArray=(acc++its).toArray:=by simp
  have e2:(acc++its)++(List.replicate k its).flatten=acc++(List.replicate (k+1) its).flatten:=by
   rw[List.replicate_succ,List.flatten_cons,List.append_assoc]
  rw[<- e2,<- zgt its k (acc++its),<- e,List.replicate_succ,List.foldl_cons]
section
variable{X:Cx}{pins:List (Addr×Obj)}{σ : St}{H:Hp}{s:Shared}{l b:Addr}{xs ys zs:List V}
theorem Inv.lset{its its':List Value}{n:Nat}{f:Array Value->Array Value}{t':Nat}(I:Inv X pins σ H s)(hH:H l=some (.lst xs))
  (e:s.heap.get? l=some { cls:=.type "list",data:=.seq its.toArray n }) (hf:f its.toArray=its'.toArray) (hv:Vals ys its') (hz:ys.length<=sizeLine) :
  Inv X pins σ (upd H l (.lst ys)) { s with heap:=s.heap.update l (Obj.mapSeq f),toks:=t' }:=by
 have q:=PySem.IsL.update e f;rw[hf]at q;refine I.write (x:=l) (e:=l) (by rw[hH];exact trivial) (.inl rfl) (λb' u hb hu=>(Heap.get?_update_other s.heap (Obj.mapSeq f) (Jb hb)).trans hu) ⟨_,q⟩ ?_;exact⟨hz,its',_,hv,q⟩
theorem Inv.lnew{its:List Value}{t':Nat}(I:Inv X pins σ H s)(hv:Vals ys its)(hz:ys.length<=sizeLine) :
  Inv X pins σ (upd H s.heap.objs.size (.lst ys)) { s with heap:=s.heap.push { cls:=.type "list",data:=.seq its.toArray },toks:=t' }:=
 I.laid (λ_ _ q=>Ye _ q) (Yi _) ⟨hz,its,0,hv,Yk _ rfl⟩
theorem Inv.fresh(I:Inv X pins σ H s):H s.heap.objs.size=none:=I.hok.fresh (Yi _)
theorem Inv.lstM(I:Inv X pins σ H s)(hH:H l=some (.lst xs)):xs.length<=sizeLine/\∃(its:List Value) (n:Nat),Vals xs its/\xs.length=its.length/\s.heap.get? l=some { cls:=.type "list",data:=.seq its.toArray n }:=by
 obtain⟨z,its,n,r,e⟩:=I.hok l _ hH;exact⟨z,its,n,r,r.length,e⟩
theorem zqq{n:Nat}(h:n<=sizeLine):Builtin.List.listTooLong n=false:=by
 unfold Builtin.List.listTooLong;exact Yw (by omega)
end
section
variable{X:Cx}
def zto:V->List V->Hp->VK->Prop:=λx vs H Q=>∃l xs y,x=.ref l/\vs=[y]/\H l=some (.lst xs)/\xs.length<sizeLine/\Q .non (upd H l (.lst (xs++[y])))
theorem zec:MtM X "list.append" zto:=by
 intro pins s σ H x vs v us Q I rx rv h;obtain⟨l,xs,y,rfl,rfl,hH,hz,q⟩:=h
 cases rx;obtain⟨u,rfl,ru⟩:=rv.one;obtain⟨z,its,n,r,hl,e⟩:=I.lstM hH;refine call_meets F.slot_list_append ⟨_,e,Z⟩ F.entry_list_append (F.args_list_append_2 _ _) (PySem.list_append l its.toArray n u (by rw[Ys];omega)) ⟨e,?_⟩;refine⟨.non,_,I.lset (its':=its++[u]) hH e (by simp) (r.append (.cons ru .nil)) ?_,Z,q⟩;rw[Y6,List.length_singleton];omega
def rCat:R2:=λx y H Q=>∃l b xs zs,x=.ref l/\y=.ref b/\H l=some (.lst xs)/\H b=some (.lst zs)/\xs.length+zs.length<=sizeLine/\∀p,H p=none->Q (.ref p) (upd H p (.lst (xs++zs)))
theorem zu1:OpR X (binaryOp .Add) rCat:=by
 intro pins s σ H x y v u Q I rx ry h;obtain⟨l,b,xs,zs,rfl,rfl,hH,hB,hz,q⟩:=h
 cases rx
 cases ry;obtain⟨z,its,n,r,hl,e⟩:=I.lstM hH;obtain⟨z2,its2,n2,r2,hl2,e2⟩:=I.lstM hB;refine PySem.P.add_list e e2 ?_ (by rw[Ys,Ys];omega);have ea:its.toArray++its2.toArray=(its++its2).toArray:=by simp
 rw[ea];exact⟨.ref _,_,I.lnew (t':=s.toks) (r.append r2) (by rw[Y6];omega),Z,q _ I.fresh⟩
def rRep:R2:=λx y H Q=>∃l k xs,x=.ref l/\y=.int k/\H l=some (.lst xs)/\-(2^63)<=k/\k<2^63/\xs.length*k.toNat<=sizeLine /\
 ∀p,H p=none->Q (.ref p) (upd H p (.lst (List.replicate k.toNat xs).flatten))
theorem zj1{α : Type}(xs:List α)(k:Nat):(List.replicate k xs).flatten.length=k*xs.length:=by
 induction k with
 | zero=>simp
 | succ k ih=>rw[List.replicate_succ,List.flatten_cons,Y6,ih,Nat.succ_mul,Nat.add_comm]
theorem zv0:OpR X (binaryOp .Mult) rRep:=by
 intro pins s σ H x y v u Q I rx ry h;obtain⟨l,k,xs,rfl,rfl,hH,h1,h2,hz,q⟩:=h
 cases rx;obtain⟨t,rfl⟩:=ry;obtain⟨z,its,n,r,hl,e⟩:=I.lstM hH;have hlen:its.toArray.size*k.toNat<=sizeLine:=by rw[Ys,<- hl];exact hz
 have hcap:¬its.toArray.size*k.toNat > (2^63-1) / 8:=by
  have:(sizeLine:Nat)<=(2^63-1) / 8:=by decide
  omega
 have hfit:¬(!Builtin.List.listFitsIndex k)=true:=by
  rw[fitsIndex_both h1 h2];exact Yt
 have hlong:¬Builtin.List.listTooLong (its.toArray.size*k.toNat)=true:=by
  rw[zqq hlen];exact Yt
 have hnew:List.foldl (λx1 x2=>x1++x2) #[] (List.replicate (if its.toArray.isEmpty=true then 0 else k.toNat) its.toArray)=(List.replicate k.toNat its).flatten.toArray:=by
  have f0:∀m:Nat,List.foldl (λx1 x2=>x1++x2) #[] (List.replicate m its.toArray)=(List.replicate m its).flatten.toArray:=λm=>by
   have:=zgt its m [];rw[List.nil_append]at this;exact this
  rw[f0]
  cases its with
  | nil=>simp
  | cons a r'=>rw[Yh (by simp)]
 refine wpAny_binaryOp_repeat_ref (T:="list") (U:="int") (by decide) ⟨_,e,Z⟩ (λs'=>typeIs_int s' k t) noFill_list_mul F.fills_int_mul F.slot_int_rmul repeat_list F.slot_int_index.lookup
  (call_meets F.slot_int_rmul (typeIs_int s k t) F.entry_int_rmul (F.args_int_rmul_2 _ _) (int___rmul___int_list k t l its.toArray n)
   ⟨e,Z,⟨_,e,Z⟩,call_meets F.slot_list_mul ⟨_,e,Z⟩ F.entry_list_mul (F.args_list_mul_2 _ _) (AutoListH.list___mul___list_int_3 l its.toArray n k t hfit hcap hlong) ⟨e,?_⟩⟩)
 rw[hnew];exact⟨.ref _,_,I.lnew (t':=s.toks) (r.rep k.toNat) (by rw[zj1,Nat.mul_comm];exact hz),Z,q _ I.fresh⟩
end
end L2
namespace Att
open PySem PySem.W PySem.Calls PyProof.Rows
theorem zgq{P:Params}{h:Heap}:∀(ns:List Int) (vs:List Value),WellAll P h vs (ns.map WData.int)->IntsAre vs ns:=by
 intro ns;induction ns with
 | nil=>
  intro vs w;rw[List.map_nil]at w
  cases w;exact .nil
 | cons n ns ih=>
  intro vs w;rw[Yz]at w
  cases w with
  | cons a b=>
   cases a;exact .cons _ _ (ih _ b)
theorem zog{l:OpenLaw}{n:Nat}(hn:l.most=some n){P:Params}{h:Heap}{args:List WData}{vals:List Value}
  (hpre:l.row.toRowW.claim.pre args=true) (hwl:WellAll P h vals args) :
  ∃a vs ns,vals=[Value.ref a]/\args=[WData.list (ns.map WData.int)]/\h.get? a=some { cls:=.type "list",data:=.seq vs.toArray }/\IntsAre vs ns/\ns.length<=n:=by
 have hsh:WShape.hasAll [] args [.list .int]=true:=(pre_splitW hpre).1;have hc:l.pre.holds [] { args:=args }=true:=(pre_splitW hpre).2;obtain⟨d,r,rfl,h1,h2⟩:=hasAllW_cons hsh;obtain rfl:=hasAllW_nil h2;obtain⟨xs,rfl,h3⟩:=hasW_list h1;obtain⟨ns,rfl⟩:=items_int h3;have hlen:ns.length<=n:=by
  unfold OpenLaw.pre at hc;have h4:(WTm.not (.lt (.lit (.int (n:Int))) (.len (.arg 0)))).holds [] { args:=[.list (ns.map .int)] }=true:=by
   have h4:=(holds_andW hc).1;rw[hn]at h4;exact h4
  have h5:=condW_of h4 (w_not (w_lt w_lit (w_len_list (w_arg rfl))));rw[Yd]at h5;refine Nat.le_of_not_lt λq=>?_
  have q':(n:Int)<((ns.length:Nat):Int):=by omega
  first
   | (rw[Yo q']at h5;exact absurd h5 (by decide))
   | (simp at h5;omega)
 cases hwl with
 | cons w1 w2=>
  cases w2
  cases w1 with
  | list ho hall=>exact⟨_,_,ns,rfl,rfl,ho,zgq ns _ hall,hlen⟩
theorem zmy(l:OpenLaw)(args:List WData):l.row.toRowW.claim.post args (.bool true) args=true:=
 postW_of (r:=l.row.toRowW) (X:=(true == true))
  (show WShape.has [] (.bool true) .bool=true by first | rfl | decide | simp[WShape.has,WShape.arms,WShape.armsAll])
  (show (WTm.eq .res (.lit (.bool true))).value [] { args:=args,res:=some (.bool true),after:=args }=some (.bool (true == true)) from w_eq_bool (w_res rfl) w_lit) rfl
theorem attach_call{l:OpenLaw}{n:Nat}{q:Program}{loose:List Str}{XP:(Str->Option Value)->Heap->Prop}{YP:World->Heap->Prop}{d:DefRec}
  (hn:l.most=some n) (hdf:d.params.defaults=[])
  (call:∀(w:World) (s₀ s₁:Shared) (mg mb:Str->Option Value) (fa:Addr) (o:Obj) (pm cd doc:Value) (a:Addr) (vs:List Value) (ns:List Int),
   Ground q loose [] XP w s₀ mg mb s₁.heap->YP w s₁.heap ->
   s₁.heap.get? fa=some o->o.data=.func (docDef d.name d.params d.body d.scope pm cd doc)->s₁.heap.CodeRec cd d.name->mg d.name=some (.ref fa) ->
   s₁.heap.get? a=some { cls:=.type "list",data:=.seq vs.toArray }->IntsAre vs ns->ns.length<=n->s₁.gens = #[] ->
   codeAny (model l.prog w) callerA (.call (.ref fa) ⟨[.ref a],[]⟩) (λr s'=>r=.ok (.ret (.bool true))/\OldK s₁.heap s'.heap/\s'.os=s₁.os/\AllBare s'.gens) s₁) :
  WalkO q loose XP YP l.row.toRowW d [] (λf vs=>PySem.call f vs):=by
 intro w s₀ s₁ mg mb G Y fa o pm cd doc dV kV ho hd hcd hD hmg hg args vals as hpre hlay hrd hwl hlo;obtain rfl:dV=.none:=Dflts.none hD hdf;obtain rfl:kV=.none:=Dflts.noKw hD;obtain⟨a,vs,ns,rfl,rfl,hobj,hints,hlen⟩:=zog hn hpre hwl;refine enter_call (codeAny_mono (call w s₀ s₁ mg mb fa o pm cd doc a vs ns G Y ho (fd_plain hd) hcd hmg hobj hints hlen hg) λr s' hq=>?_);obtain⟨rfl,h2,h3,h4⟩:=hq;exact⟨.inl ⟨.bool true,.bool true,[],rfl,λ_=>rfl,.bool true,zmy l _,λ_=>⟨List.Pairwise.nil,λ_ hm=>(nomatch hm)⟩⟩,h2,h3,h4⟩
end Att
namespace L2
open PySem PySem.Spec PyProof.Rows
theorem zjf:∀{vs:List Value} {ns:List Int},IntsAre vs ns->Vals (ns.map V.int) vs
 | _,_,.nil=>.nil
 | _,_,.cons n t h=>.cons ⟨t,rfl⟩ (zjf h)
def Only(H:Hp):Prop:=∀b,H b=none\/∃o xs,H b=some (.frz o (.lst xs))
theorem zqo{P:Program}{w:World}{K:W.Frag}{mg mb:Str->Option Value}{CX:CXT}{k:Nat}{fa a:Addr}{fd:FuncData}{x:Str}{sp:Sp}{s₁:Shared}{vs:List Value}{ns:List Int}
  (KX:K.In s₁.heap) (hns:s₁.heap.Ns mainGlobals mg) (hb:s₁.heap.Ns builtinsNs mb) (hbb:∀x:Str,x≠"__name__"->mb x=bootBuiltins x) (hlim:s₁.heap.NoLimit) (hg:s₁.gens = #[])
  (ha:s₁.heap.get? a=some { cls:=.type "list",data:=.seq vs.toArray }) (hi:IntsAre vs ns) (hl:ns.length<=sizeLine) (hr:Room k callerA)
  (F:∀base:Heap,K.In base->base.Ns mainGlobals mg->FnOk P w K mg base CX k fa fd [x] sp) (hbind:∀(s:Shared) (u:Value),BindsTo s fd ⟨[u],[]⟩ [(x,u)])
  (hsp:∀H:Hp,Only H->SqL K H a (ns.map V.int)->sp [.ref a] H (λv _=>v=.bl true) λ_ _ _=>False)
  (hCX:∀H e s',CX [] H s₁ (λ_ _ _=>False) e s'->False) :
  codeAny (model P w) callerA (.call (.ref fa) ⟨[.ref a],[]⟩) (λr s'=>r=.ok (.ret (.bool true))/\OldK s₁.heap s'.heap/\s'.os=s₁.os/\AllBare s'.gens) s₁:=by
 have rv:=zjf hi;have lenV:=hi.length;have core:∀H:Hp,Only H->SqL K H a (ns.map V.int)->HOk P w H s₁.heap->(∀b,H b≠none->b=a)->(H a≠none->K.lookup a=none) ->
   codeAny (model P w) callerA (.call (.ref fa) ⟨[.ref a],[]⟩) (λr s'=>r=.ok (.ret (.bool true))/\OldK s₁.heap s'.heap/\s'.os=s₁.os/\AllBare s'.gens) s₁:=by
  intro H hO hS hok hA hK;have base_of:∀{b:Addr} {o:Obj},s₁.heap.get? b=some o->H b=none->(hidT s₁.heap H).get? b=some o:=λe n=>zqf e n
  have noA:∀{b:Addr} {o:Obj} {es:Array DictEntry} {ep:Nat},s₁.heap.get? b=some o->o.data=.dict es ep->H b=none:=fun{b o es ep} e d=>by
   cases q:H b with
   | none=>rfl
   | some u=>
    have e':b=a:=hA b (by rw[q];simp);subst e';rw[ha]at e;cases e;have d':Data.seq vs.toArray _=Data.dict es ep:=d
    cases d'
  have nsK:∀{b:Addr} {m:Str->Option Value},s₁.heap.Ns b m->(hidT s₁.heap H).Ns b m:=fun{b m} ⟨o,es,ep,e,d,r⟩=>⟨o,es,ep,base_of e (noA e d),d,r⟩
  have hKb:K.In (hidT s₁.heap H):=λb o e=>base_of (KX b o e) (by
   cases q:H b with
   | none=>rfl
   | some u=>
    have e':b=a:=hA b (by rw[q];simp);subst e';rw[hK (by rw[q];simp)]at e;cases e)
  have hM:Mod K mg (hidT s₁.heap H):=⟨hKb,nsK hns,⟨mb,nsK hb,hbb⟩,let ⟨mc,h1,h2⟩:=hlim;⟨mc,nsK h1,h2⟩⟩;have e0:Env0 P w K mg (hidT s₁.heap H) callerA [] s₁ H:=⟨Z,hM,λb o e=>zta e,Nat.le_of_eq (znd _ _),trivial,λb hb=>absurd (show b∈([]:List Addr) from hb) (by simp),hok,.of_eq hg⟩;refine codeAny_mono ((F _ hKb (nsK hns)).run callerA [] s₁ H ⟨[.ref a],[]⟩ [.ref a] [.ref a] _ _ hr e0 (hbind s₁ (.ref a)) (.cons rfl .nil) (hsp H hO hS)) λr s' h=>?_
  cases r with
  | error e=>exact(hCX H e s' h).elim
  | ok fl=>
   cases fl with
   | next=>exact Jd h
   | brk=>exact Jd h
   | cont=>exact Jd h
   | ret u=>
    obtain⟨v,H',os,bare,un,hok',r',q⟩:=h;have q':v=.bl true:=q;subst q';obtain rfl:u=Value.bool true:=r';refine⟨Z,OldK.of_keep λb o e=>?_,os,bare⟩
    cases q:H b with
    | none=>exact un.keep b o e q (by intro z;exact absurd (show b∈([]:List Addr) from z) (by simp)) (by simp)
    | some u=>
     rcases hO b with z | ⟨ob,xs,z⟩
     ·rw[q]at z;cases z
     ·have z2:=un.frzs b ob _ z;obtain⟨e1,_⟩:=hok b _ z;obtain⟨e2,_⟩:=hok' b _ z2;rw[e]at e1;cases e1;exact e2
 cases hk:K.lookup a with
 | some o=>
  have e:=KX a o hk;rw[ha]at e
  cases e;refine core (λ_=>none) (λ_=>.inl rfl) (.inr ⟨_,vs.toArray,_,hk,Z,Z,Z,by rw[Ys,lenV];exact hl,by simpa using rv⟩) (λb u z=>by have z':(none:Option HO)=some u:=z;cases z') (λb z=>absurd rfl z) λz=>absurd rfl z
 | none=>
  refine core (λb=>if b=a then some (.frz { cls:=.type "list",data:=.seq vs.toArray } (.lst (ns.map V.int))) else none) (λb=>?_) (.inl (.inr ⟨{ cls:=.type "list",data:=.seq vs.toArray },Yl rfl⟩)) (λb u z=>?_) (λb z=>?_) λ_=>hk
  ·by_cases hb:b=a
   ·exact .inr ⟨_,_,Yl hb⟩
   ·exact .inl (Yh hb)
  ·by_cases hb:b=a
   ·have z':=(Yl hb).symm.trans z
    cases z';subst hb;exact⟨ha,by rw[Yd];exact hl,vs,_,rv,ha⟩
   ·have z':=(Yh hb).symm.trans z
    cases z'
  ·by_cases hb:b=a
   ·exact hb
   ·exact absurd (Yh hb) z
theorem walk_of{l:W.OpenLaw}{n k:Nat}{q:Program}{loose:List Str}{XP:(Str->Option Value)->Heap->Prop}{YP:World->Heap->Prop}{d:DefRec}{K:Params->W.Frag}{CX:World->CXT}{sp:World->Sp}{x:Str}
  (hn:l.most=some n) (hn2:n<=sizeLine) (hdf:d.params.defaults=[]) (hr:Room k callerA)
  (hY:∀(w:World) (h:Heap),YP w h->(K w.params).In h)
  (F:∀(w:World) (mg:Str->Option Value) (fa:Addr) (h:Heap),(K w.params).In h->h.Ns mainGlobals mg->mg d.name=some (.ref fa) ->
   ∃fd:FuncData,(∀(s:Shared) (u:Value),BindsTo s fd ⟨[u],[]⟩ [(x,u)]) /\
    ∀base:Heap,(K w.params).In base->base.Ns mainGlobals mg->FnOk l.prog w (K w.params) mg base (CX w) k fa fd [x] (sp w))
  (hsp:∀(w:World) (H:Hp) (a:Addr) (ns:List Int),ns.length<=n->Only H->SqL (K w.params) H a (ns.map V.int)->sp w [.ref a] H (λv _=>v=.bl true) λ_ _ _=>False)
  (hCX:∀(w:World) (H:Hp) (s:Shared) (e:Value) (s':Shared),CX w [] H s (λ_ _ _=>False) e s'->False) :
  W.WalkO q loose XP YP l.row.toRowW d [] (λf vs=>PySem.call f vs):=by
 refine Att.attach_call hn hdf λw s₀ s₁ mg mb fa o pm cd doc a vs ns G Y ho hd hcd hmg hobj hints hlen hg=>?_
 have KX:=hY w _ Y;obtain⟨fd,hb,hF⟩:=F w mg fa _ KX G.T.g hmg;exact zqo KX G.T.g G.T.b G.T.builtins G.T.nolimit hg hobj hints (Yr hlen hn2) hr hF hb (λH hO hS=>hsp w H a ns hlen hO hS) λH e s'=>hCX w H s₁ e s'
def za2(s:Stmt)(j:Nat):Stmt:=match s with
 | .ClassDef _ _ _ body _ _ _ _ _ _ _=>body.getD j (.Pass ⟨0,0,0,0⟩)
 | _=>.Pass ⟨0,0,0,0⟩
def zcn(s:Stmt):Arguments:=match s with
 | .FunctionDef _ a _ _ _ _ _ _ _ _=>a
 | _=>{ posonlyargs:=[],args:=[],vararg:=none,kwonlyargs:=[],kw_defaults:=[],kwarg:=none,defaults:=[] }
def zb2(s:Stmt):List Stmt:=match s with
 | .FunctionDef _ _ b _ _ _ _ _ _ _=>b
 | _=>[]
def zaj(s:Stmt):Scope:=match s with
 | .FunctionDef _ _ _ _ _ _ sc _ _ _=>sc
 | _=>{ kind:=.function,names:=[],isGenerator:=false,isCoroutine:=false }
abbrev CX0:CXT:=λ_ _ _ _ _ _=>False
abbrev E0:XK:=λ_ _ _=>False
section
variable{X:Cx}
theorem pv(i:Nat){x:Str}{pos:Pos}(hN:X.N[i]? = some x:=by rfl)(hv:Vis X.env.scope x:=by first | exact Or.inl rfl | exact Or.inr (Or.inl rfl) | exact Or.inr (Or.inr rfl))(hd:(x == ("__debug__" : Str))=false:=by decide)
  (hcd:(x == ("__classdict__" : Str))=false:=by decide):PE X (.Name x pos) (tVar i):=zwa hN hv hd hcd
end
theorem iteF{A B:Prop}(h:B):if false=true then A else B:=by
 rw[Yh Yt];exact h
theorem iteT{A B:Prop}(h:A):if true=true then A else B:=by
 rw[Yl rfl];exact h
def Same(H H':Hp):Prop:=∀b o,H b=some o->H' b=some o
theorem Same.refl(H:Hp):Same H H:=λ_ _ h=>h
theorem Same.trans{H H1 H2:Hp}(a:Same H H1)(b:Same H1 H2):Same H H2:=λc o h=>b c o (a c o h)
theorem Same.free{H H':Hp}(e:Same H H'){l:Addr}(h:H' l=Option.none):H l=Option.none:=by
 cases q:H l with
 | none=>rfl
 | some o=>
  rw[e l o q]at h
  cases h
theorem Same.seq{K:W.Frag}{H H':Hp}{a:Addr}{xs:List V}(e:Same H H')(h:SqL K H a xs):SqL K H' a xs:=by
 rcases h with(h | ⟨o,h⟩) | h
 ·exact .inl (.inl (e _ _ h))
 ·exact .inl (.inr ⟨o,e _ _ h⟩)
 ·exact .inr h
end L2
set_option Elab.async false
set_option linter.all false
set_option maxRecDepth 100000
namespace L2
open PySem PySem.Spec PyProof.Rows
abbrev kn(b:Bool):String:=if b then "tuple_iterator" else "list_iterator"
def SqAt(b:Bool)(h:Heap)(l:Addr)(items:Array Value):Prop:=match b with
 | true=>h.IsTuple l items
 | false=>h.IsList l items
def IterAt(b:Bool)(h:Heap)(it l:Addr)(i:Nat):Prop:=match b with
 | true=>h.IsTupleIter it l i
 | false=>h.IsListIter it l i
theorem SqAt.at{b:Bool}{h h':Heap}{l:Addr}{items:Array Value}(x:SqAt b h l items)(e:∀o,h.get? l=some o->h'.get? l=some o):SqAt b h' l items:=by
 cases b with
 | true=>obtain⟨o,ho,r⟩:=x;exact⟨o,e o ho,r⟩
 | false=>exact Heap.IsList.at x e
theorem IterAt.obj{b:Bool}{h:Heap}{it l:Addr}{i:Nat}(x:IterAt b h it l i):∃o,h.get? it=some o/\∀v,o.data≠.cell v:=by
 cases b <;> (obtain⟨o,ho,c,d⟩:=x;exact⟨o,ho,λv z=>by rw[d]at z;cases z⟩)
theorem IterAt.at{b:Bool}{h h':Heap}{it l:Addr}{i:Nat}(x:IterAt b h it l i)(e:∀o,h.get? it=some o->h'.get? it=some o):IterAt b h' it l i:=by
 cases b <;> (obtain⟨o,ho,r⟩:=x;exact⟨o,e o ho,r⟩)
section
variable{prog:Program}{w:World}{A:Around}{E:Value->Shared->Prop}{s:Shared}
theorem zht{it t:Addr}{i:Nat}{items:Array Value}{x:Value}{Q:Value->Shared->Prop}(hit:s.heap.IsTupleIter it t i)(ht:s.heap.IsTuple t items)(hx:items[i]? = some x)
  (hQ:∀h',h'.IsTupleIter it t (i+1)->Heap.SameBut it s.heap h'->Q x { s with heap:=h' }):wpAny (model prog w) A (Builtin.SmallTypes.nextOf (.ref it)) Q E s:=by
 obtain⟨o,ho,hc,hd⟩:=id hit;obtain⟨ol,hol,_,nl,hdl⟩:=ht;unfold Builtin.SmallTypes.nextOf;refine Ya (Ja (name:=Str.ofString "__next__") hit.typeIs F.slot_tuple_iterator_next (Y8 F.slot_tuple_iterator_next hit.typeIs F.entry_tuple_iterator_next ?_ (F.args_tuple_iterator_next_1 _)));show wpAny _ _ (field (.ref it) 0 >>= _) _ _ s;refine Ya (Jj ho hd (x:=.ref t) rfl ?_);show wpAny _ _ (if (Value.ref t == Value.none)=true then _ else _) _ _ s;rw[Yh (by intro z;cases z)];show wpAny _ _ (field (.ref it) 1 >>= _) _ _ s;refine Ya (Jj ho hd (x:=.int i 0) rfl ?_);show wpAny _ _ (seqItems? (.ref t) >>= _) _ _ s;refine Ya (Jq hol hdl ?_);simp only[Int.toNat_natCast,hx];refine Ya (wpAny_setField ho hd (by simp) (Yb ⟨x,Z,Yb (hQ _ ⟨_,Heap.get?_update_self _ ho (Obj.isFreed_of_fields (Obj.data_mapFields hd _)),(Obj.cls_mapFields ..).trans hc,?_⟩ (Heap.SameBut.update ..))⟩));rw[Obj.data_mapFields hd];simp[rawInt]
theorem zim{it t:Addr}{i:Nat}{items:Array Value}{Q:Value->Shared->Prop}(hh:A.handled=none)(hit:s.heap.IsTupleIter it t i)(ht:s.heap.IsTuple t items)(hx:items[i]? = none)
  (hE:∀h' e,Heap.ExtBut it s.heap h'->(∃o,h'.get? e=some o/\o.cls=.type "StopIteration")->E (.ref e) { s with heap:=h' }):wpAny (model prog w) A (Builtin.SmallTypes.nextOf (.ref it)) Q E s:=by
 obtain⟨o,ho,hc,hd⟩:=id hit;obtain⟨ol,hol,_,nl,hdl⟩:=ht;unfold Builtin.SmallTypes.nextOf;refine Ya (Ja (name:=Str.ofString "__next__") hit.typeIs F.slot_tuple_iterator_next (Y8 F.slot_tuple_iterator_next hit.typeIs F.entry_tuple_iterator_next ?_ (F.args_tuple_iterator_next_1 _)));show wpAny _ _ (field (.ref it) 0 >>= _) _ _ s;refine Ya (Jj ho hd (x:=.ref t) rfl ?_);show wpAny _ _ (if (Value.ref t == Value.none)=true then _ else _) _ _ s;rw[Yh (by intro z;cases z)];show wpAny _ _ (field (.ref it) 1 >>= _) _ _ s;refine Ya (Jj ho hd (x:=.int i 0) rfl ?_);show wpAny _ _ (seqItems? (.ref t) >>= _) _ _ s;refine Ya (Jq hol hdl ?_);simp only[Int.toNat_natCast,hx];refine Ya (wpAny_rule (Ya (wpAny_setField ho hd (by simp) ?_)));show wpAny _ _ (newExc (.type "StopIteration") [] >>= _) _ _ _;refine Ya ?_;simp only[newExc,newTuple];refine Ya (Jm ?_ (by size_fits));refine Ya (m:=firstArgMember _ _) (wpAny_of_eq (a:=Value.none) (by first | rfl | (simp only[firstArgMember];rfl)) ?_);refine Jm ?_ (by size_fits);simp only[raiseNew];refine Ya (wpAny_handled ?_)
 first | rw[show A.in1.handled=none from hh] | rw[hh]
 refine Ya (Yb (wpAny_throw ?_));exact hE _ _ (((Heap.SameBut.update ..).extBut.push _).push _) ⟨_,Yk _ rfl,Z⟩
theorem zgs{b:Bool}{it l:Addr}{i:Nat}{items:Array Value}{x:Value}{Q:Value->Shared->Prop}(hit:IterAt b s.heap it l i)(hl:SqAt b s.heap l items)(hx:items[i]? = some x)
  (hQ:∀h',IterAt b h' it l (i+1)->Heap.SameBut it s.heap h'->Q x { s with heap:=h' }):wpAny (model prog w) A (Builtin.SmallTypes.nextOf (.ref it)) Q E s:=by
 cases b with
 | true=>exact zht hit hl hx hQ
 | false=>exact wpAny_nextOf_list_item hit hl hx hQ
theorem zk1{b:Bool}{it l:Addr}{i:Nat}{items:Array Value}{Q:Value->Shared->Prop}(hh:A.handled=none)(hit:IterAt b s.heap it l i)(hl:SqAt b s.heap l items)(hx:items[i]? = none)
  (hE:∀h' e,Heap.ExtBut it s.heap h'->(∃o,h'.get? e=some o/\o.cls=.type "StopIteration")->E (.ref e) { s with heap:=h' }):wpAny (model prog w) A (Builtin.SmallTypes.nextOf (.ref it)) Q E s:=by
 cases b with
 | true=>exact zim hh hit hl hx hE
 | false=>exact wpAny_nextOf_list_end hh hit hl hx hE
theorem znk{b:Bool}{l:Addr}{items:Array Value}{Q:Value->Shared->Prop}(hl:SqAt b s.heap l items)
  (hQ:Q (.ref s.heap.objs.size) { s with heap:=s.heap.push { cls:=.type (kn b),data:=.fields #[.ref l,.int 0 0] } }):wpAny (model prog w) A (pyIter (.ref l)) Q E s:=by
 cases b with
 | true=>exact wpAny_pyIter_tuple hl hQ
 | false=>exact wpAny_pyIter_list hl hQ
structure ZSt(b1 b2:Bool)(z TI TO i1 i2 l1 l2:Addr)(f0:Value)(k:Nat)(h:Heap):Prop where
 zip:IsZip h z TI TO f0
 ti:IsPair h TI (.ref i1) (.ref i2)
 to:∃a b,IsPair h TO a b
 it1:IterAt b1 h i1 l1 k
 it2:IterAt b2 h i2 l2 k
theorem ZSt.at{b1 b2:Bool}{z TI TO i1 i2 l1 l2:Addr}{f0:Value}{k:Nat}{h h':Heap}(x:ZSt b1 b2 z TI TO i1 i2 l1 l2 f0 k h)(e:∀b∈[z,TI,TO,i1,i2],∀o,h.get? b=some o->h'.get? b=some o) :
  ZSt b1 b2 z TI TO i1 i2 l1 l2 f0 k h':=
 ⟨e z (by simp) _ x.zip,e TI (by simp) _ x.ti,let ⟨a,b,q⟩:=x.to;⟨a,b,e TO (by simp) _ q⟩,x.it1.at λo q=>e i1 (by simp) o q,x.it2.at λo q=>e i2 (by simp) o q⟩
theorem zqp{b1 b2:Bool}{z TI TO i1 i2 l1 l2:Addr}{k:Nat}{xs ys:Array Value}{x y:Value}{Q:Value->Shared->Prop}(D:ZipApart z TI TO i1 i2 l1 l2)(S:ZSt b1 b2 z TI TO i1 i2 l1 l2 .none k s.heap)
  (hl1:SqAt b1 s.heap l1 xs) (hl2:SqAt b2 s.heap l2 ys) (hx:xs[k]? = some x) (hy:ys[k]? = some y)
  (hQ:∀h',ZSt b1 b2 z TI TO i1 i2 l1 l2 (rawInt s.heap.objs.size) (k+1) h'->IsPair h' s.heap.objs.size x y->h'.objs.size=s.heap.objs.size+1 ->
   (∀c o,c≠z->c≠TO->c≠i1->c≠i2->s.heap.get? c=some o->h'.get? c=some o)->Q (.ref s.heap.objs.size) { s with heap:=h' }) :
  wpAny (model prog w) A (Builtin.«zip.__next__» ⟨[.ref z],[]⟩) (λfin s'=>∃v,fin=.done (.ret v)/\Q v s') E s:=by
 obtain⟨hz,hTI,⟨a,b,hTO⟩,h1,h2⟩:=S;show wpAny _ _ (field (.ref z) 2 >>= _) _ _ _;refine Ya (Jj hz rfl (x:=.bool false) rfl ?_);show wpAny _ _ (field (.ref z) 3 >>= _) _ _ _;refine Ya (Jj hz rfl (x:=.ref TI) rfl (Ya (Jq hTI rfl ?_)));show wpAny _ _ (Builtin.SmallTypes.ownedTupleIsFree (.ref z) >>= _) _ _ _;refine Ya ?_;unfold Builtin.SmallTypes.ownedTupleIsFree;refine Ya (Jj hz rfl (x:=.none) rfl (Yb ?_));simp only[if_true];refine Ya (wpAny_rule (Ya (Jj hz rfl (x:=.ref TO) rfl ?_)));refine Ya (Jn hz (by simp) λg1 z1 e1=>?_);replace z1:IsZip g1 z TI TO .ellipsis:=z1;refine Ya ?_;simp only[List.zipIdx_cons,List.zipIdx_nil,List.forIn_cons,List.forIn_nil];refine Ya (Ya (wpAny_onRaise ?_));show wpAny _ _ (Builtin.SmallTypes.nextOf (.ref i1) >>= _) _ _ _;have k1:∀c o,c≠z->s.heap.get? c=some o->g1.get? c=some o:=λc o hc e=>e1.extBut c o hc e
 refine Ya (zgs (s:={ s with heap:=g1 }) (h1.at λo q=>k1 i1 o D.i1z q) (hl1.at λo q=>k1 l1 o D.l1z q) hx λg2 t2 e2=>Yb ?_);have k2:∀c o,c≠z->c≠i1->s.heap.get? c=some o->g2.get? c=some o:=λc o hc hd e=>e2.extBut c o hd (k1 c o hc e)
 have p2:IsPair g2 TO a b:=k2 TO _ D.TOz D.TOi1 hTO;refine Ya (Jq p2 rfl (Ya (wpAny_updateSeq_pair p2 λg3 p3 e3=>?_)));replace p3:IsPair g3 TO x b:=p3;refine Ya (wpAny_letGo (Yb ?_));refine Ya (Ya (wpAny_onRaise ?_));show wpAny _ _ (Builtin.SmallTypes.nextOf (.ref i2) >>= _) _ _ _;have k3:∀c o,c≠z->c≠i1->c≠TO->s.heap.get? c=some o->g3.get? c=some o:=λc o hc hd he e=>e3.extBut c o he (k2 c o hc hd e)
 refine Ya (zgs (s:={ s with heap:=g3 }) (h2.at λo q=>k3 i2 o D.i2z D.i12.symm D.TOi2.symm q) (hl2.at λo q=>k3 l2 o D.l2z D.l2i1 D.l2TO q) hy λg4 t4 e4=>Yb ?_);have p4:IsPair g4 TO x b:=e4.extBut _ _ D.TOi2 p3;refine Ya (Jq p4 rfl (Ya (wpAny_updateSeq_pair p4 λg5 p5 e5=>?_)));replace p5:IsPair g5 TO x y:=p5;refine Ya (wpAny_letGo (Yb (Yb ?_)));refine Ya (Jq p5 rfl (Ya (wpAny_newTuple ?_)));have sz:g5.objs.size=s.heap.objs.size:=by rw[e5.1,e4.1,e3.1,e2.1,e1.1]
 have z5:IsZip g5 z TI TO .ellipsis:=e5.extBut _ _ D.TOz.symm (e4.extBut _ _ D.i2z.symm (e3.extBut _ _ D.TOz.symm (e2.extBut _ _ D.i1z.symm z1)));have k5:∀c o,c≠z->c≠TO->c≠i1->c≠i2->s.heap.get? c=some o->g5.get? c=some o:=λc o c1 c2 c3 c4 e=>e5.extBut _ _ c2 (e4.extBut _ _ c4 (k3 c o c1 c3 c2 e))
 have t5:IterAt b1 g5 i1 l1 (k+1):=t2.at λo q=>e5.extBut _ _ D.TOi1.symm (e4.extBut _ _ D.i12 (e3.extBut _ _ D.TOi1.symm q))
 have u5:IterAt b2 g5 i2 l2 (k+1):=t4.at λo q=>e5.extBut _ _ D.TOi2.symm q
 have zlt:z<g5.objs.size:=Yn z5;show wpAny _ _ (Builtin.SmallTypes.ownedTupleHandOut (.ref z) (.ref g5.objs.size) >>= _) _ _ _;refine Ya ?_;unfold Builtin.SmallTypes.ownedTupleHandOut;have z6:IsZip (g5.push { cls:=.type "tuple",data:=.seq #[x,y] }) z TI TO .ellipsis:=Ye _ z5;refine Ya (Jn z6 (by simp) λg7 z7 e7=>?_);replace z7:IsZip g7 z TI TO (rawInt g5.objs.size):=z7;refine Jn z7 (by simp) λg8 z8 e8=>?_
 replace z8:IsZip g8 z TI TO (rawInt g5.objs.size):=z8;have up:∀c o,c≠z->g5.get? c=some o->g8.get? c=some o:=λc o c1 e=>e8.extBut _ _ c1 (e7.extBut _ _ c1 (Ye _ e))
 have p8:IsPair g8 g5.objs.size x y:=e8.extBut _ _ (Nat.ne_of_gt zlt) (e7.extBut _ _ (Nat.ne_of_gt zlt) (Yk _ rfl));have s8:g8.objs.size=g5.objs.size+1:=by rw[e8.1,e7.1,Heap.size_push]
 rw[sz]at z8 p8 s8;refine Yb ⟨_,Z,?_⟩;show Q (.ref g5.objs.size) _;rw[sz];exact hQ g8 ⟨z8,up _ _ D.TIz (k5 TI _ D.TIz D.TITO D.TIi1 D.TIi2 hTI),⟨_,_,up _ _ D.TOz p5⟩,t5.at λo q=>up _ o D.i1z q,u5.at λo q=>up _ o D.i2z q⟩ p8 s8 λc o c1 c2 c3 c4 e=>up c o c1 (k5 c o c1 c2 c3 c4 e)
theorem zuf{b1 b2:Bool}{z TI TO i1 i2 l1 l2:Addr}{k:Nat}{xs ys:Array Value}{Q:Fin->Shared->Prop}(hh:A.handled=none)(D:ZipApart z TI TO i1 i2 l1 l2)(S:ZSt b1 b2 z TI TO i1 i2 l1 l2 .none k s.heap)
  (hl1:SqAt b1 s.heap l1 xs) (hl2:SqAt b2 s.heap l2 ys) (hend:xs[k]? = none\/ys[k]? = none)
  (hE:∀h' e,(∀c o,c≠z->c≠TO->c≠i1->c≠i2->s.heap.get? c=some o->h'.get? c=some o)->(∃o,h'.get? e=some o/\o.cls=.type "StopIteration")->E (.ref e) { s with heap:=h' }) :
  wpAny (model prog w) A (Builtin.«zip.__next__» ⟨[.ref z],[]⟩) Q E s:=by
 obtain⟨hz,hTI,⟨a,b,hTO⟩,h1,h2⟩:=S;show wpAny _ _ (field (.ref z) 2 >>= _) _ _ _;refine Ya (Jj hz rfl (x:=.bool false) rfl ?_);show wpAny _ _ (field (.ref z) 3 >>= _) _ _ _;refine Ya (Jj hz rfl (x:=.ref TI) rfl (Ya (Jq hTI rfl ?_)));show wpAny _ _ (Builtin.SmallTypes.ownedTupleIsFree (.ref z) >>= _) _ _ _;refine Ya ?_;unfold Builtin.SmallTypes.ownedTupleIsFree;refine Ya (Jj hz rfl (x:=.none) rfl (Yb ?_));simp only[if_true];refine Ya (wpAny_rule (Ya (Jj hz rfl (x:=.ref TO) rfl ?_)));refine Ya (Jn hz (by simp) λg1 z1 e1=>?_);replace z1:IsZip g1 z TI TO .ellipsis:=z1;refine Ya ?_;simp only[List.zipIdx_cons,List.zipIdx_nil,List.forIn_cons,List.forIn_nil];refine Ya (Ya (wpAny_onRaise ?_));show wpAny _ _ (Builtin.SmallTypes.nextOf (.ref i1) >>= _) _ _ _;have k1:∀c o,c≠z->s.heap.get? c=some o->g1.get? c=some o:=λc o hc e=>e1.extBut c o hc e
 cases hx:xs[k]? with
 | none=>
  refine Ya (zk1 (s:={ s with heap:=g1 }) hh (h1.at λo q=>k1 i1 o D.i1z q) (hl1.at λo q=>k1 l1 o D.l1z q) hx λg2 e e2 he=>?_);obtain⟨oe,hoe,hce⟩:=he;have z2:IsZip g2 z TI TO .ellipsis:=e2 _ _ D.i1z.symm z1;have ez:e≠z:=λq=>by subst q;rw[z2]at hoe;cases hoe;simp at hce
  exact Jn z2 (by simp) λg3 _ e3=>hE g3 e (λc o c1 _ c3 _ q=>e3.extBut _ _ c1 (e2 _ _ c3 (k1 c o c1 q))) ⟨oe,e3.extBut _ _ ez hoe,hce⟩
 | some x=>
  have hy:ys[k]? = none:=by
   rcases hend with q | q
   ·rw[hx]at q;cases q
   ·exact q
  refine Ya (zgs (s:={ s with heap:=g1 }) (h1.at λo q=>k1 i1 o D.i1z q) (hl1.at λo q=>k1 l1 o D.l1z q) hx λg2 t2 e2=>Yb ?_);have k2:∀c o,c≠z->c≠i1->s.heap.get? c=some o->g2.get? c=some o:=λc o hc hd e=>e2.extBut c o hd (k1 c o hc e)
  have p2:IsPair g2 TO a b:=k2 TO _ D.TOz D.TOi1 hTO;refine Ya (Jq p2 rfl (Ya (wpAny_updateSeq_pair p2 λg3 p3 e3=>?_)));refine Ya (wpAny_letGo (Yb ?_));refine Ya (Ya (wpAny_onRaise ?_));show wpAny _ _ (Builtin.SmallTypes.nextOf (.ref i2) >>= _) _ _ _;have k3:∀c o,c≠z->c≠i1->c≠TO->s.heap.get? c=some o->g3.get? c=some o:=λc o hc hd he e=>e3.extBut c o he (k2 c o hc hd e)
  refine Ya (zk1 (s:={ s with heap:=g3 }) hh (h2.at λo q=>k3 i2 o D.i2z D.i12.symm D.TOi2.symm q) (hl2.at λo q=>k3 l2 o D.l2z D.l2i1 D.l2TO q) hy λg4 e e4 he=>?_);obtain⟨oe,hoe,hce⟩:=he;have z4:IsZip g4 z TI TO .ellipsis:=e4 _ _ D.i2z.symm (e3.extBut _ _ D.TOz.symm (e2.extBut _ _ D.i1z.symm z1));have ez:e≠z:=λq=>by subst q;rw[z4]at hoe;cases hoe;simp at hce
  exact Jn z4 (by simp) λg5 _ e5=>hE g5 e (λc o c1 c2 c3 c4 q=>e5.extBut _ _ c1 (e4 _ _ c4 (k3 c o c1 c3 c2 q))) ⟨oe,e5.extBut _ _ ez hoe,hce⟩
end
abbrev zq1(b1:Bool)(h:Heap)(l1:Addr):Heap:=h.push { cls:=.type (kn b1),data:=.fields #[.ref l1,.int 0 0] }
abbrev zq2(b1 b2:Bool)(h:Heap)(l1 l2:Addr):Heap:=(zq1 b1 h l1).push { cls:=.type (kn b2),data:=.fields #[.ref l2,.int 0 0] }
abbrev zq3(b1 b2:Bool)(h:Heap)(l1 l2:Addr):Heap:=(zq2 b1 b2 h l1 l2).push { cls:=.type "tuple",data:=.seq #[.ref h.objs.size,.ref (zq1 b1 h l1).objs.size] }
abbrev zq4(b1 b2:Bool)(h:Heap)(l1 l2:Addr):Heap:=(zq3 b1 b2 h l1 l2).push { cls:=.type "tuple",data:=.seq #[.none,.none] }
abbrev zq5(b1 b2:Bool)(h:Heap)(l1 l2:Addr):Heap:=(zq4 b1 b2 h l1 l2).push { cls:=.type "zip",data:=.fields #[.none,.bool false,.bool false,.ref (zq2 b1 b2 h l1 l2).objs.size,.ref (zq3 b1 b2 h l1 l2).objs.size] }
theorem zo1(b1 b2:Bool)(l1 l2:Addr)(xs ys:Array Value):Meets (Builtin.«zip.__new__» ⟨[.type "zip",.ref l1,.ref l2],[]⟩) (λ_ R s=>SqAt b1 s.heap l1 xs/\SqAt b2 s.heap l2 ys /\
   R (.ok (.ret (.ref (zq4 b1 b2 s.heap l1 l2).objs.size))) { s with heap:=zq5 b1 b2 s.heap l1 l2 }):=
 .of_wp λprog w A R s h=>by
  obtain⟨hp,g,d,tk,os⟩:=s;obtain⟨hl1,hl2,h⟩:=h;have hsub:=sub_zip;have q1:SqAt b1 (Shared.heap ⟨hp,g,d,tk,os⟩) l1 xs:=hl1;have q2:SqAt b2 (Shared.heap ⟨hp.push { cls:=.type (kn b1),data:=.fields #[.ref l1,.int 0 0] },g,d,tk,os⟩) l2 ys:=SqAt.at hl2 λo e=>Ye _ e
  wp_walk using znk q1,znk q2
  exact⟨_,Z,h⟩
theorem zph{prog:Program}{w:World}{A:Around}{E:Value->Shared->Prop}{s:Shared}{b1 b2:Bool}{l1 l2:Addr}{xs ys:Array Value}{Q:Value->Shared->Prop}(hl1:SqAt b1 s.heap l1 xs)(hl2:SqAt b2 s.heap l2 ys)
  (h:∀h',ZSt b1 b2 (s.heap.objs.size+4) (s.heap.objs.size+2) (s.heap.objs.size+3) s.heap.objs.size (s.heap.objs.size+1) l1 l2 .none 0 h'->(∀c o,s.heap.get? c=some o->h'.get? c=some o)->h'.objs.size=s.heap.objs.size+5 ->
   Q (.ref (s.heap.objs.size+4)) { s with heap:=h' }):wpAny (model prog w) A (call (.type "zip") [.ref l1,.ref l2]) Q E s:=by
 refine callType_new F.called_zip (by decide) (F.typeCall_zip_2 _ _) (F.newCall_zip_2 _ _) (λobj=>F.args_object_init_3 obj _ _) F.entry_zip_new (zo1 b1 b2 l1 l2 xs ys) ⟨hl1,hl2,?_⟩;have z1:(zq1 b1 s.heap l1).objs.size=s.heap.objs.size+1:=Heap.size_push ..;have z2:(zq2 b1 b2 s.heap l1 l2).objs.size=s.heap.objs.size+2:=by rw[Heap.size_push,z1]
 have z3:(zq3 b1 b2 s.heap l1 l2).objs.size=s.heap.objs.size+3:=by rw[Heap.size_push,z2]
 have z4:(zq4 b1 b2 s.heap l1 l2).objs.size=s.heap.objs.size+4:=by rw[Heap.size_push,z3]
 have z5:(zq5 b1 b2 s.heap l1 l2).objs.size=s.heap.objs.size+5:=by rw[Heap.size_push,z4]
 have up1:∀{h:Heap} {o:Obj} {c:Addr} {u:Obj},h.get? c=some u->(h.push o).get? c=some u:=λe=>Ye _ e
 have g5:(zq5 b1 b2 s.heap l1 l2).get? (zq4 b1 b2 s.heap l1 l2).objs.size=some _:=Yk _ rfl;have g4:(zq5 b1 b2 s.heap l1 l2).get? (zq3 b1 b2 s.heap l1 l2).objs.size=some _:=up1 (Yk _ rfl);have g3:(zq5 b1 b2 s.heap l1 l2).get? (zq2 b1 b2 s.heap l1 l2).objs.size=some _:=up1 (up1 (Yk _ rfl));have g2:(zq5 b1 b2 s.heap l1 l2).get? (zq1 b1 s.heap l1).objs.size=some _:=up1 (up1 (up1 (Yk _ rfl)));have g1:(zq5 b1 b2 s.heap l1 l2).get? s.heap.objs.size=some _:=up1 (up1 (up1 (up1 (Yk _ rfl))));show _/\_;rw[z2,z3,z4]at g5;rw[z1,z2]at g3;rw[z3]at g4;rw[z1]at g2;rw[z4];refine⟨⟨_,g5,Z⟩,h _ ⟨g5,g3,⟨_,_,g4⟩,?_,?_⟩ (λc o x=>up1 (up1 (up1 (up1 (up1 x))))) z5⟩
 ·cases b1 <;> exact⟨_,g1,Z,Z⟩
 ·cases b2 <;> exact⟨_,g2,Z,Z⟩
theorem zgr{prog:Program}{w:World}{A:Around}{E:Value->Shared->Prop}{s:Shared}{b1 b2:Bool}{z TI TO i1 i2 l1 l2:Addr}{k:Nat}{xs ys:Array Value}{x y:Value}{Q:Option Value->Shared->Prop}(D:ZipApart z TI TO i1 i2 l1 l2)
  (S:ZSt b1 b2 z TI TO i1 i2 l1 l2 .none k s.heap) (hl1:SqAt b1 s.heap l1 xs) (hl2:SqAt b2 s.heap l2 ys) (hx:xs[k]? = some x) (hy:ys[k]? = some y)
  (hQ:∀h',ZSt b1 b2 z TI TO i1 i2 l1 l2 (rawInt s.heap.objs.size) (k+1) h'->IsPair h' s.heap.objs.size x y->h'.objs.size=s.heap.objs.size+1 ->
   (∀c o,c≠z->c≠TO->c≠i1->c≠i2->s.heap.get? c=some o->h'.get? c=some o)->Q (some (.ref s.heap.objs.size)) { s with heap:=h' }):wpAny (model prog w) A (pyNext (.ref z)) Q E s:=by
 have hT:s.TypeIs (.ref z) "zip":=⟨_,S.zip,Z⟩;unfold pyNext;refine Ya (wpAny_attempt (Ja (name:=Str.ofString "__next__") hT F.slot_zip_next (Y8 F.slot_zip_next hT F.entry_zip_next ?_ (F.args_zip_next_1 _))));exact zqp D S hl1 hl2 hx hy λh' a1 a2 a3 a4=>Yb (hQ h' a1 a2 a3 a4)
theorem zg2{prog:Program}{w:World}{A:Around}{E:Value->Shared->Prop}{s:Shared}{b1 b2:Bool}{z TI TO i1 i2 l1 l2:Addr}{k:Nat}{xs ys:Array Value}{Q:Option Value->Shared->Prop}(hh:A.handled=none)(D:ZipApart z TI TO i1 i2 l1 l2)
  (S:ZSt b1 b2 z TI TO i1 i2 l1 l2 .none k s.heap) (hl1:SqAt b1 s.heap l1 xs) (hl2:SqAt b2 s.heap l2 ys) (hend:xs[k]? = none\/ys[k]? = none)
  (hQ:∀h',(∀c o,c≠z->c≠TO->c≠i1->c≠i2->s.heap.get? c=some o->h'.get? c=some o)->Q none { s with heap:=h' }):wpAny (model prog w) A (pyNext (.ref z)) Q E s:=by
 have hT:s.TypeIs (.ref z) "zip":=⟨_,S.zip,Z⟩;unfold pyNext;refine Ya (wpAny_attempt (Ja (name:=Str.ofString "__next__") hT F.slot_zip_next (Y8 F.slot_zip_next hT F.entry_zip_next ?_ (F.args_zip_next_1 _))));refine zuf hh D S hl1 hl2 hend λh' e hk ⟨o,ho,hc⟩=>?_
 exact Ya (wpAny_isInstance (T:="StopIteration") (b:=true) ⟨o,ho,hc⟩ isSubtype_stop (Yb (hQ _ hk)))
section
variable{prog:Program}{w:World}{A:Around}{R:Result->Shared->Prop}{s:Shared}
abbrev E00:Value->Shared->Prop:=λ_ _=>False
abbrev zwq(ifs:List Expr)(env:Env):Sem Bool:=
 forIn ifs true λc r=>if r=true then do
   let ok <- isTrue c env (eval c env)
   pure (ForInStep.yield ok)
  else pure (ForInStep.yield r)
theorem zlk{elt tg iter:Expr}{ifs:List Expr}{scope:Scope}{pos:Pos}{it acc:Value}{env:Env}(J:Nat->Shared->Prop)
  (turn:∀n s,J n s->wpAny (model prog w) A (pyNext it) (λr s1=>match r with
   | none=>R (.ok .next) s1
   | some v=>wpAny (model prog w) A (letOwnedTupleGo tg it v) (λ_ s2=>wpAny (model prog w) A (assign tg env v) (λ_ s3=>
     wpAny (model prog w) A (zwq ifs env) (λok s4=>
      if ok=true then
       wpAny (model prog w) A (eval elt env) (λx s5=>wpAny (model prog w) A (call (.builtin "list.append") [acc,x]) (λ_ s6=>∃m,m<n/\J m s6) E00 s5) E00 s4
      else ∃m,m<n/\J m s4) E00 s3) E00 s2) E00 s1) E00 s)
  (n:Nat) (h:J n s):codeAny (model prog w) A (.compLoop (.ListComp elt [⟨tg,iter,ifs,0⟩] scope pos) 0 it acc env) R s:=by
 have fl:∀{α : Type} {t:Sem α} {Q : α->Shared->Prop} {E:Value->Shared->Prop} {s:Shared},wpAny (model prog w) A t Q E00 s->wpAny (model prog w) A t Q E s:=λh=>wpAny_mono h (λ_ _ q=>q) λ_ _ z=>z.elim
 refine codeAny_loop rfl J (λn s hJ=>?_) n h;show wpAny _ A ((compTurn (.ListComp elt [⟨tg,iter,ifs,0⟩] scope pos) 0 it acc env).onRaise _) _ _ s;refine wpAny_noted ?_;rw[compTurn_list];refine Ya (wpAny_standAt (Ya (thn (fl (turn n s hJ)) λr s1 h1=>?_)))
 cases r with
 | none=>exact Yb h1
 | some v=>
  refine Ya (thn (fl h1) λ_ s2 h2=>?_);refine Ya (thn (fl h2) λ_ s3 h3=>?_);refine Ya (thn (fl h3) λok s4 h4=>?_)
  cases ok with
  | false=>exact Yb ⟨rfl,h4⟩
  | true=>
   refine Ya (Ya (thn (fl h4) λx s5 h5=>?_));exact Ya (thn (fl h5) λ_ s6 h6=>Yb (Yb ⟨Z,h6⟩))
end
def blk(X:Cx)(N:List Str)(scope:Scope)(cl:List (Str×Addr))(C:Addr)(s:Shared)(H:Hp)(fp:List Addr):Cx:=
 { X with N:=N,s₀:=s,H₀:=H,env:=compEnvC scope cl C X.env,outer:=X.stack,ex:=fp,fn:=λ_=>false,pn:=[],xe:=λ_ _=>False }
structure Blk(X:Cx)(N:List Str)(scope:Scope)(cl:List (Str×Addr))(mp:List (Option Nat)):Prop where
 clos:closureFor scope X.env=pure cl
 cell:∀y∈scope.names,y.2≠.cell
 kind:scope.kind=.function
 nms:∀y∈scope.names,y.2=.local->scope.names.lookup y.1=some .local
 nd:N.Nodup
 sub:∀x c,cl.lookup x=some c->X.env.cells.lookup x=some c
 has:∀x,((relabel scope X.env).names.lookup x=some .cell\/(relabel scope X.env).names.lookup x=some .free)->∃c,cl.lookup x=some c
 len:mp.length=N.length
 map:∀(i j:Nat) (x:Str),mp[i]? = some (some j)->N[i]? = some x->X.N[j]? = some x/\(X.env.scope.names.lookup x=some .cell\/X.env.scope.names.lookup x=some .free) /\
  ((relabel scope X.env).names.lookup x=some .cell\/(relabel scope X.env).names.lookup x=some .free)
def st0(mp:List (Option Nat))(σ : St):St:=mp.map λo=>match o with
 | some j=>(σ[j]?).getD none
 | none=>none
section
variable{X:Cx}{pins:List (Addr×Obj)}{σ : St}{H:Hp}{s:Shared}{N:List Str}{scope:Scope}{cl:List (Str×Addr)}{mp:List (Option Nat)}{fp:List Addr}
theorem zts(B:Blk X N scope cl mp)(I:Inv X pins σ H s)(f:∀b∈fp,FpOk X pins H b)(lt:∀b∈fp,b<s.heap.objs.size){h1:Heap}{t':Nat}(hns:h1.Ns s.heap.objs.size (λ_=>none))
  (k:∀b o,s.heap.get? b=some o->h1.get? b=some o):Inv (blk X N scope cl s.heap.objs.size s H fp) [] (st0 mp σ) H { s with heap:=h1,toks:=t' }:=by
 have fin:∀b∈fp,b ∉ frs X.stack:=λb hb z=>by
  obtain⟨_,f1,f2,_⟩:=f b hb;rcases Yj.mp (I.stkSub b z) with e | e
  ·exact f1 e
  ·exact f2 e
 have ok:(blk X N scope cl s.heap.objs.size s H fp).Ok:=by
  refine⟨I.ok.mod,B.kind,I.ok.glob,I.ok.blt,Yi _,λx y c h1 h2=>I.ok.inj x y c (B.sub x c h1) (B.sub y c h2),λx hx=>B.has x hx,(λx c hf=>nomatch (show false=true from hf)),I.ok.hd,I.ok.frames,.inl rfl,λb hb=>?_,I.bs,Yr I.ok.bsz I.sz,λb o e hb=>?_,fin,I.stack,I.stkFree⟩
  ·obtain⟨f0,f1,f2,f3,f4,f5⟩:=f b hb;exact⟨Y0 (lt b hb),λx c e=>f4 x c (B.sub x c e)⟩
  ·obtain⟨f0,f1,f2,f3,f4,f5⟩:=f b hb;rcases f3 with z | z
   ·exact I.ok.noex b o e z
   ·exact absurd (Yf (Yn e) (Yr I.ok.bsz z)) (Nat.lt_irrefl _)
 refine⟨ok,Z,I.bare,Un.kept k,⟨_,hns,λi x v e1 e2 e3=>?_⟩,λx c e=>?_,I.hok.fresh (Yi _),λx c e=>I.freeC x c (B.sub x c e),λp hp=>absurd (show p∈([]:List (Addr×Obj)) from hp) (by simp),I.hok.kept k,?_⟩
 ·have e2':∃j,mp[i]? = some (some j)/\σ[j]? = some (some v):=by
   unfold st0 at e2;rw[Ym]at e2
   cases q:mp[i]? with
   | none=>rw[q]at e2;cases e2
   | some o=>
    rw[q]at e2
    cases o with
    | none=>cases e2
    | some j=>
     refine⟨j,Z,?_⟩;have e2'':(σ[j]?).getD none=some v:=Je e2
     cases r : σ[j]? with
     | none=>rw[r]at e2'';cases e2''
     | some z=>rw[r]at e2'';exact Jt some e2''
  obtain⟨j,hj,hv⟩:=e2';obtain⟨hN,ho,hi⟩:=B.map i j x hj e1;obtain⟨m,hm,hl⟩:=I.loc;obtain⟨u,r,l⟩:=hl j x v hN hv (ho.elim (λz=>.inr (.inl z)) λz=>.inr (.inr z));refine⟨u,r,.inr ⟨hi,?_⟩⟩;rcases l with⟨z,_⟩ | ⟨_,c,ec,z⟩
  ·have z':X.env.scope.names.lookup x=some .local:=z;rcases ho with ho | ho
   ·rw[z']at ho;cases ho
   ·rw[z']at ho;cases ho
  ·obtain⟨c',ec'⟩:=B.has x hi;have q:=B.sub x c' ec';rw[ec]at q;cases q;obtain⟨o,eo,d⟩:=z;exact⟨c,ec',o,k c o eo,d⟩
 ·obtain⟨v,o,eo,d⟩:=I.cell x c (B.sub x c e);exact⟨v,o,k c o eo,d⟩
 ·show (st0 mp σ).length=N.length;unfold st0;rw[Yd];exact B.len
theorem zsl{N':List Str}{C:Addr}{H':Hp}{σ':St}{s':Shared}{h':Heap}(I:Inv X pins σ H s)(f:∀b∈fp,FpOk X pins H b)(hC:s.heap.objs.size<=C)
  (J:Inv (blk X N' scope cl C s H fp) [] σ' H' s') (sb:Heap.SameBut C s'.heap h'):Inv X pins σ H' { s' with heap:=h' }:=by
 have ub:Un (frs X.stack) fp H H' s.heap s'.heap:=J.base;have ne:∀b o,s.heap.get? b=some o->b≠C:=λb o e=>Y0 (Yf (Yn e) hC)
 have u:Un (frs X.stack) fp H H' s.heap h':=by
  refine⟨λb o e n hb hx=>(sb.2 b (ne b o e)).trans (ub.keep b o e n hb hx),λb o e n hb hx=>?_,ub.free,λb o e hx=>?_,ub.tups,ub.frzs,ub.tbls⟩
  ·obtain⟨sl,q⟩:=ub.slot b o e n hb hx;exact⟨sl,(sb.2 b (ne b o e)).trans q⟩
  ·obtain⟨o',q⟩:=ub.there b o e hx;exact⟨o',(sb.2 b (ne b o e)).trans q⟩
 have fC:H' C=none:=J.free;have ok':HOk X.prog X.w H' h':=λb ob e=>by
  have jok:HOk X.prog X.w H' s'.heap:=J.hok;refine(jok b ob e).stay (λc v hc q=>(sb.2 c ?_).trans q) (λ_ q=>q) λ_ _ q=>q
  rintro rfl;rcases hc with rfl | hc
  ·rw[fC]at e;cases e
  ·rw[fC]at hc;cases hc
 refine I.call' (s':={ s' with heap:=h' }) (ch:=fp) ?_ u ok' J.bare λb hb=>?_
 ·exact J.os
 ·obtain⟨f0,f1,f2,f3,f4,f5⟩:=f b hb;exact⟨f3,f1,f4,f5⟩
end
def PTs(X:Cx)(ifs:List Expr)(t:TT):Prop:=
 ∀(pins:List (Addr×Obj)) (s:Shared) (σ : St) (H:Hp) (Q:Bool->Hp->Prop),Inv X pins σ H s->t σ H Q->wpAny (model X.prog X.w) X.A (zwq ifs X.env) (TP X pins σ Q) X.xe s
def tYes:TT:=λ_ H Q=>Q true H
theorem zh4{X:Cx}:PTs X [] tYes:=λ_ _ _ H _ I h=>Yb ⟨H,I,h⟩
@[irreducible] def tComp (mp:List (Option Nat)) (wi:TI) (g:TG) (tc:TT) (te:TE):TE:=λσ H Q=>wi σ H λJ H1=>∀D,H1 D=none->∃W:Nat->Nat->List V->St->Hp->Prop,
 (∃m,W 0 m [] (st0 mp σ) (upd H1 D (.lst [])))/\∀i m ys σ' H',W i m ys σ' H'->H' D=some (.lst ys) /\
  ((J.stop i H'/\Q (.ref D) H')\/(J.go i H'/\ys.length<sizeLine/\∀x H2,J.yld i H' x H2->g x σ' H2 λσ2 H3=>tc σ2 H3 λb H4=>
   if b=true then te σ2 H4 λv H5=>H5 D=some (.lst ys)/\∃m',m'<m/\W (i+1) m' (ys++[v]) σ2 (upd H5 D (.lst (ys++[v])))
   else ∃m',m'<m/\W (i+1) m' ys σ2 H4))
def CompW(J:It)(D:Addr)(g:TG)(tc:TT)(te:TE)(Qf:Hp->Prop)(W:Nat->Nat->List V->St->Hp->Prop):Prop:=∀i m ys σ' H',W i m ys σ' H'->H' D=some (.lst ys) /\
  ((J.stop i H'/\Qf H')\/(J.go i H'/\ys.length<sizeLine/\∀x H2,J.yld i H' x H2->g x σ' H2 λσ2 H3=>tc σ2 H3 λb H4=>
   if b=true then te σ2 H4 λv H5=>H5 D=some (.lst ys)/\∃m',m'<m/\W (i+1) m' (ys++[v]) σ2 (upd H5 D (.lst (ys++[v])))
   else ∃m',m'<m/\W (i+1) m' ys σ2 H4))
theorem zlv{X:Cx}{N:List Str}{scope:Scope}{cl:List (Str×Addr)}{mp:List (Option Nat)}{elt tg iter:Expr}{ifs:List Expr}{g:TG}{tc:TT}{te:TE}{pos:Pos}(B:Blk X N scope cl mp)(hc:X.calm=true)
  (hg:∀C s H fp,PG (blk X N scope cl C s H fp) tg g) (ht:∀C s H fp,PTs (blk X N scope cl C s H fp) ifs tc) (he:∀C s H fp,PE (blk X N scope cl C s H fp) elt te)
  {pins:List (Addr×Obj)} {σ : St} {HD:Hp} {s:Shared} {fp:List Addr} {it D:Addr} {tn:Nat->Heap->Prop} {J:It} {Qf:Hp->Prop} {W:Nat->Nat->List V->St->Hp->Prop} {m0:Nat} {E:Value->Shared->Prop} {RR:Addr->Result->Shared->Prop}
  (I:Inv X pins σ HD s) (f:∀b∈fp,FpOk X pins HD b) (T:Turn X.prog X.w X.K tg J fp it tn) (st:tn 0 s.heap) (w0:W 0 m0 [] (st0 mp σ) HD) (turn:CompW J D g tc te Qf W)
  (hRR:∀C H' σ' s',s.heap.objs.size<=C->Inv (blk X N scope cl C s HD fp) [] σ' H' s'->Qf H'->RR C (.ok .next) s') :
  wpAny (model X.prog X.w) X.A (newFunctionEnv scope X.env.globals cl [] X.env.qual none .none (some X.env)) (λcenv s4=>
   codeAny (model X.prog X.w) X.A (.compStart (.ListComp elt [⟨tg,iter,ifs,0⟩] scope pos) 0 (.ref it) (.ref D) { cenv with scope:=relabel scope X.env }) (RR cenv.locals) s4) E s:=by
 have lt:∀b∈fp,b<s.heap.objs.size:=λb hb=>let ⟨o,e,_⟩:=T.obj _ _ st b hb;Yn e
 refine wpAny_newFunctionEnv B.cell (by intro y hy;simp at hy) (λh3 hns hsb=>?_) B.kind;have k3:∀b o,s.heap.get? b=some o->h3.get? b=some o:=λb o e=>(hsb.2 b (Y0 (Yn e))).trans (Ye _ e)
 have JB:=zts (t':=s.toks+([]:List (Str×Value)).length) B I f lt hns k3;have st3:tn 0 h3:=T.keep _ _ _ st λb _ o e=>k3 b o e
 have fin:∀b∈fp,b ∉ frs X.stack:=λb hb z=>by
  obtain⟨_,f1,f2,_⟩:=f b hb;rcases Yj.mp (I.stkSub b z) with e | e
  ·exact f1 e
  ·exact f2 e
 have stat:∀{H':Hp},(∀b∈fp,H' b=none)->∀b∈fp,FpOk (blk X N scope cl s.heap.objs.size s HD fp) [] H' b:=fun{H'} hn b hb=>by
  obtain⟨f0,f1,f2,f3,f4,f5⟩:=f b hb;exact⟨hn b hb,Y0 (lt b hb),fin b hb,.inl hb,λx c e=>f4 x c (B.sub x c e),λp hp=>absurd (show p∈([]:List (Addr×Obj)) from hp) (by simp)⟩
 have loop:codeAny (model X.prog X.w) X.A (.compLoop (.ListComp elt [⟨tg,iter,ifs,0⟩] scope pos) 0 (.ref it) (.ref D) (compEnvC scope cl s.heap.objs.size X.env)) (RR s.heap.objs.size) { s with heap:=h3,toks:=s.toks+([]:List (Str×Value)).length }:=by
  refine zlk (λn s'=>∃i ys σ' H',Inv (blk X N scope cl s.heap.objs.size s HD fp) [] σ' H' s'/\tn i s'.heap/\(∀b∈fp,H' b=none)/\W i n ys σ' H') ?_ m0 ⟨0,[],_,HD,JB,st3,λb hb=>(f b hb).1,w0⟩;rintro n s5 ⟨i,ys,σ5,H5,I5,st5,fr5,w5⟩;obtain⟨hD,tr⟩:=turn i n ys σ5 H5 w5;rcases tr with⟨stop,qn⟩ | ⟨go,hz,step⟩
  ·refine thn (T.done (blk X N scope cl s.heap.objs.size s HD fp) rfl rfl rfl hc i [] s5 σ5 H5 E00 I5 (stat fr5) st5 stop) λr s6 ⟨hr,I6⟩=>?_
   subst hr;exact hRR _ H5 σ5 s6 (Yi _) I6 qn
  ·refine thn (T.item (blk X N scope cl s.heap.objs.size s HD fp) rfl rfl rfl hc i [] s5 σ5 H5 E00 I5 (stat fr5) st5 go) λr s6 ⟨u,hr,h6⟩=>?_
   subst hr;refine thn h6 λ_ s7 ⟨x,H7,I7,r7,y7,st7,fr7⟩=>?_
   have I7':=I7.pinned (stat fr7) (T.obj _ _ st7);have again:∀{ys':List V} {σ8:St} {H8:Hp} {s8:Shared} {m':Nat},Inv (blk X N scope cl s.heap.objs.size s HD fp) ([]++zi2 fp s7.heap) σ8 H8 s8->m'<n->W (i+1) m' ys' σ8 H8 ->
     ∃m,m<n/\∃i ys σ' H',Inv (blk X N scope cl s.heap.objs.size s HD fp) [] σ' H' s8/\tn i s8.heap/\(∀b∈fp,H' b=none)/\W i m ys σ' H':=fun{ys' σ8 H8 s8 m'} I8 hm w8=>by
    refine⟨m',hm,i+1,ys',σ8,H8,I8.unpinned,T.keep _ _ _ st7 λb hb o e=>(I8.pin (b,o) (Yg _ (Yg _ (zen hb e)))).1,λb hb=>?_,w8⟩;obtain⟨o,e,d⟩:=T.obj _ _ st7 b hb;exact(I8.pin (b,o) (Yg _ (Yg _ (zen hb e)))).2.1
   refine thn (hg _ _ _ _ _ s7 σ5 H7 x u _ I7' r7 (step x H7 y7)) λ_ s8 ⟨σ8,H8,I8,q8⟩=>?_
   refine thn (ht _ _ _ _ _ s8 σ8 H8 _ I8 q8) λok s9 ⟨H9,I9,q9⟩=>?_
   cases ok with
   | false=>
    rw[Yh (by decide)]at q9;obtain⟨m',hm,w9⟩:=q9;rw[Yh (by decide)];exact again I9 hm w9
   | true=>
    rw[Yl rfl]at q9;rw[Yl rfl];refine thn (he _ _ _ _ _ s9 σ8 H9 _ I9 q9) λxv s10 ⟨v,H10,I10,r10,hD10,m',hm,w'⟩=>?_
    refine thn (zec _ s10 σ8 H10 (.ref D) [v] (.ref D) [xv] (λ_ H'=>H'=upd H10 D (.lst (ys++[v]))) I10 rfl (.cons r10 .nil) ⟨D,ys,v,Z,Z,hD10,hz,Z⟩) λ_ s11 ⟨_,H11,I11,_,e11⟩=>?_
    subst e11;exact again I11 hm w'
 exact codeAny_compStart_list loop (T.self _ 0 _ _ _ st3 loop)
theorem zh6{X:Cx}{N:List Str}{scope:Scope}{cl:List (Str×Addr)}{mp:List (Option Nat)}{elt tg iter:Expr}{ifs:List Expr}{wi:TI}{g:TG}{tc:TT}{te:TE}{pos:Pos}(B:Blk X N scope cl mp)(hc:X.calm=true)
  (hi:PI X tg iter wi) (hg:∀C s H fp,PG (blk X N scope cl C s H fp) tg g) (ht:∀C s H fp,PTs (blk X N scope cl C s H fp) ifs tc) (he:∀C s H fp,PE (blk X N scope cl C s H fp) elt te)
  (hs:∀x,foldedSetIterable iter X.env x=pure x:=by intro _;rfl):PE X (.ListComp elt [⟨tg,iter,ifs,0⟩] scope pos) (tComp mp wi g tc te):=by
 intro pins s σ H Q I h;unfold tComp at h;rw[eval_ListComp];refine wpAny_comprehension_free (use:=none) (cl:=cl) rfl hs B.clos B.kind B.nms (thn (hi pins s σ H _ I h) λv s1 h1=>thn h1 λitv s2 h2=>?_);obtain⟨it,fp,tn,J,H2,rfl,I2,T,st2,f2,q⟩:=h2;have lt2:∀b∈fp,b<s2.heap.objs.size:=λb hb=>let ⟨o,e,_⟩:=T.obj _ _ st2 b hb;Yn e
 obtain⟨W,⟨m0,w0⟩,turn⟩:=q _ I2.fresh;have ID:=I2.lnew (ys:=[]) (its:=[]) (t':=s2.toks) .nil (Y2 _);have fD':∀b∈fp,FpOk X pins (upd H2 s2.heap.objs.size (.lst [])) b:=λb hb=>by
  obtain⟨f0,r⟩:=f2 b hb;exact⟨by rw[zal (Y0 (lt2 b hb))];exact f0,r⟩
 refine Jm (zlv B hc hg ht he ID fD' T (T.keep _ _ _ st2 λb _ o e=>Ye _ e) w0 turn λC H' σ' s' hC J' qf=>?_);obtain⟨m,hm,_⟩:=J'.loc;exact⟨m,hm,λh' sb=>⟨.ref _,H',zsl ID fD' hC J' sb,Z,qf⟩⟩
def SqX(K:W.Frag)(b:Bool)(H:Hp)(a:Addr)(xs:List V):Prop:=match b with
 | true=>SqT K H a xs
 | false=>SqL K H a xs
section
variable{X:Cx}{pins:List (Addr×Obj)}{σ : St}{H:Hp}{s:Shared}{b:Bool}{a:Addr}{xs ys:List V}
theorem Inv.sq(I:Inv X pins σ H s)(h:SqX X.K b H a xs):∃its:List Value,Vals xs its/\SqAt b s.heap a its.toArray:=by
 cases b with
 | true=>obtain⟨its,rv,p,_⟩:=I.tuple h;exact⟨its,rv,show s.heap.IsTuple a its.toArray from p⟩
 | false=>obtain⟨its,rv,p,_⟩:=I.list h;exact⟨its,rv,p.isList⟩
theorem Inv.sq_inj(I:Inv X pins σ H s)(h:SqX X.K b H a xs)(h':SqX X.K b H a ys):xs=ys:=by
 cases b with
 | true=>exact I.tuple_inj h h'
 | false=>exact I.list_inj h h'
theorem Inv.turnedL{ch:List Addr}{h':Heap}{t':Nat}(I:Inv X pins σ H s)(hf:∀b∈ch,FpOk X pins H b)(k:∀b o,b ∉ ch->s.heap.get? b=some o->h'.get? b=some o):Inv X pins σ H { s with heap:=h',toks:=t' }:=by
 have nch:∀b u,H b=some u->b ∉ ch:=λb u e z=>by have q:=(hf b z).1;rw[q]at e;cases e
 refine I.step (g':=s.gens) (d':=s.drawn) (ch:=ch) (λb hb=>?_) (λb o _ _ hc e _=>k b o hc e) (λb o _ _ hc e _=>⟨o.slots,k b o hc e⟩) (λ_ _ _ _ n=>n)
  (λb o hc e=>⟨o,k b o hc e⟩) (λ_ _ e=>e) (λ_ _ _ e=>e) (λb ps e=>⟨#[],by rw[e];simp⟩) (λm hm=>?_) (λb u e=>?_) I.bare
 ·obtain⟨f0,f1,f2,f3,f4,f5⟩:=hf b hb;exact⟨f3,f1,f4,f5⟩
 ·obtain⟨o,es,ep,ho,r⟩:=hm;exact⟨o,es,ep,k _ o (λz=>(hf _ z).2.1 rfl) ho,r⟩
 ·refine(I.hok b u e).stay (λc v hc q=>k c v ?_ q) (λ_ q=>q) λ_ _ q=>q
  rcases hc with z | z
  ·rw[z];exact nch b u e
  ·exact nch c _ z
theorem Inv.drawn{ch:List Addr}{h':Heap}{t':Nat}{p:Addr}{o:HO}(I:Inv X pins σ H s)(hf:∀b∈ch,FpOk X pins H b)(k:∀b o,b ∉ ch->s.heap.get? b=some o->h'.get? b=some o)(hp:s.heap.objs.size<=p)
  (new:ObjOk X.prog X.w (upd H p o) h' p o):Inv X pins σ (upd H p o) { s with heap:=h',toks:=t' }:=by
 have nch:∀b u,H b=some u->b ∉ ch:=λb u e z=>by have q:=(hf b z).1;rw[q]at e;cases e
 have hn:H p=none:=I.hok.fresh hp;have np:∀b u,s.heap.get? b=some u->b≠p:=λb u e=>Y0 (Yf (Yn e) hp)
 refine I.step (g':=s.gens) (d':=s.drawn) (ch:=ch) (λb hb=>?_) (λb o _ _ hc e _=>k b o hc e) (λb o _ _ hc e _=>⟨o.slots,k b o hc e⟩) (λb o _ e n=>by rw[zal (np b o e)];exact n)
  (λb o hc e=>⟨o,k b o hc e⟩) (λb xs e=>by rw[zal (zan e hn)];exact e) (λb o u e=>by rw[zal (zan e hn)];exact e) (λb ps e=>⟨#[],by rw[zal (zan e hn),e];simp⟩) (λm hm=>?_) (λb u e=>?_) I.bare
 ·obtain⟨f0,f1,f2,f3,f4,f5⟩:=hf b hb;exact⟨f3,f1,f4,f5⟩
 ·obtain⟨o,es,ep,ho,r⟩:=hm;exact⟨o,es,ep,k _ o (λz=>(hf _ z).2.1 rfl) ho,r⟩
 ·by_cases hb:b=p
  ·subst hb;rw[zaf]at e;cases e;exact new
  ·rw[zal hb]at e;refine(I.hok b u e).stay (λc v hc q=>k c v ?_ q) (λc q=>by rw[zal (zan q hn)];exact q) λc xs q=>by rw[zal (zan q hn)];exact q
   rcases hc with z | z
   ·rw[z];exact nch b u e
   ·exact nch c _ z
end
def Itz(K:W.Frag)(b1 b2:Bool)(a1 a2:Addr):It:=
 ⟨λi H=>∃xs ys x y,SqX K b1 H a1 xs/\SqX K b2 H a2 ys/\xs[i]? = some x/\ys[i]? = some y,
  λi H v H'=>∃p x y,H p=none/\v=.ref p/\H'=upd H p (.tup [x,y])/\(∀xs,SqX K b1 H a1 xs->xs[i]? = some x)/\∀ys,SqX K b2 H a2 ys->ys[i]? = some y,
  λi H=>∃xs ys,SqX K b1 H a1 xs/\SqX K b2 H a2 ys/\(xs.length<=i\/ys.length<=i)⟩
theorem zpr{P:Program}{w:World}{K:W.Frag}{es:List Expr}{ek:Nat}{pos:Pos}(b1 b2:Bool){z TI TO i1 i2 a1 a2:Addr}(D:ZipApart z TI TO i1 i2 a1 a2) :
  Turn P w K (.Tuple es ek pos) (Itz K b1 b2 a1 a2) [z,TI,TO,i1,i2] z (λi h=>ZSt b1 b2 z TI TO i1 i2 a1 a2 .none i h) where
 mem:=by simp
 obj:=λi h st b hb=>by
  simp only[List.mem_cons,List.not_mem_nil,or_false]at hb
  rcases hb with rfl | rfl | rfl | rfl | rfl
  ·exact⟨_,st.zip,λv q=>by cases q⟩
  ·exact⟨_,st.ti,λv q=>by cases q⟩
  ·obtain⟨a,b,e⟩:=st.to;exact⟨_,e,λv q=>by cases q⟩
  ·exact st.it1.obj
  ·exact st.it2.obj
 keep:=λi h h' st k=>st.at k
 item:=by
  intro X hP hw hK hc i pins s σ H E I hf st hg;subst hP hw hK;obtain⟨xs,ys,x,y,h1,h2,hx,hy⟩:=hg;obtain⟨us,ru,q1⟩:=I.sq h1;obtain⟨ws,rw',q2⟩:=I.sq h2;obtain⟨u,eu,rx⟩:=ru.get hx;obtain⟨v,ev,ry⟩:=rw'.get hy;refine zgr D st q1 q2 (x:=u) (y:=v) (by simpa using eu) (by simpa using ev) λh' S p8 s8 k=>?_
  refine⟨_,Z,wpAny_letOwnedTupleGo_zip S.zip λh'' z' e'=>?_⟩;have zlt:z<s.heap.objs.size:=Yn st.zip;have zp:s.heap.objs.size≠z:=Nat.ne_of_gt zlt;have kk:∀b o,b ∉ [z,TO,i1,i2]->s.heap.get? b=some o->h''.get? b=some o:=λb o hb e=>by
   simp only[List.mem_cons,List.not_mem_nil,or_false,not_or]at hb
   exact e'.extBut _ _ hb.1 (k b o hb.1 hb.2.1 hb.2.2.1 hb.2.2.2 e)
  have pp:IsPair h'' s.heap.objs.size u v:=e'.extBut _ _ zp p8;refine⟨.ref s.heap.objs.size,upd H s.heap.objs.size (.tup [x,y]),I.drawn (t':=s.toks) (ch:=[z,TO,i1,i2]) (λb hb=>hf b ?_) kk (Yi _) ?_,Z,⟨_,x,y,I.fresh,Z,Z,λxs' hq=>?_,λys' hq=>?_⟩,?_,λb hb=>?_⟩
  ·simp only[List.mem_cons,List.not_mem_nil,or_false]at hb ⊢
   rcases hb with rfl | rfl | rfl | rfl <;> simp
  ·exact⟨by show 2<=sizeLine;rw[sizeLine_eq];decide,[u,v],.cons rx (.cons ry .nil),⟨_,pp,Z,_,Z⟩⟩
  ·rw[I.sq_inj hq h1];exact hx
  ·rw[I.sq_inj hq h2];exact hy
  ·exact⟨z',e'.extBut _ _ D.TIz S.ti,(let ⟨a,b,e⟩:=S.to;⟨a,b,e'.extBut _ _ D.TOz e⟩),S.it1.at λo q=>e'.extBut _ _ D.i1z q,S.it2.at λo q=>e'.extBut _ _ D.i2z q⟩
  ·obtain⟨o,e,_⟩:∃o,s.heap.get? b=some o/\∀v,o.data≠.cell v:=by
    simp only[List.mem_cons,List.not_mem_nil,or_false]at hb
    rcases hb with rfl | rfl | rfl | rfl | rfl
    ·exact⟨_,st.zip,λv q=>by cases q⟩
    ·exact⟨_,st.ti,λv q=>by cases q⟩
    ·obtain⟨a,b,e⟩:=st.to;exact⟨_,e,λv q=>by cases q⟩
    ·exact st.it1.obj
    ·exact st.it2.obj
   rw[zal (Y0 (Yn e))];exact(hf b hb).1
 done:=by
  intro X hP hw hK hc i pins s σ H E I hf st hg;subst hP hw hK;obtain⟨xs,ys,h1,h2,hl⟩:=hg;obtain⟨us,ru,q1⟩:=I.sq h1;obtain⟨ws,rw',q2⟩:=I.sq h2;have l1:=ru.length;have l2:=rw'.length;refine zg2 (I.ok.hd hc) D st q1 q2 ?_ λh' k=>⟨rfl,I.turnedL (t':=s.toks) (ch:=[z,TO,i1,i2]) (λb hb=>hf b ?_) λb o hb e=>?_⟩
  ·rcases hl with hl | hl
   ·exact .inl (by simp;omega)
   ·exact .inr (by simp;omega)
  ·simp only[List.mem_cons,List.not_mem_nil,or_false]at hb ⊢
   rcases hb with rfl | rfl | rfl | rfl <;> simp
  ·simp only[List.mem_cons,List.not_mem_nil,or_false,not_or]at hb
   exact k b o hb.1 hb.2.1 hb.2.2.1 hb.2.2.2 e
 self:=λ_ _ _ _ _ st h=>wpAny_pyIter_zip st.zip h
def iZip(K:W.Frag)(b1 b2:Bool)(ta:TA):TI:=λσ H R=>ta σ H λvs H1=>∃a1 a2,vs=[.ref a1,.ref a2]/\(∃xs,SqX K b1 H1 a1 xs)/\(∃ys,SqX K b2 H1 a2 ys)/\R (Itz K b1 b2 a1 a2) H1
theorem zxf{X:Cx}{es:List Expr}{ek:Nat}{tpos p pos:Pos}(b1 b2:Bool){e1 e2:Expr}{ta:TA}(hg:Gl X "zip")(hm:X.mg "zip" = none)(ha:PA X [e1,e2] ta)
  (he:starEach [e1,e2] X.env=(false,eval e1 X.env)::starEach [e2] X.env:=by rfl) (hpl:(backTo pos (starEach [e2] X.env)).any (·.1)=false:=by rfl) :
  PI X (.Tuple es ek tpos) (.Call (.Name "zip" p) [e1,e2] [] pos) (iZip X.K b1 b2 ta):=by
 intro pins s σ H R I h;refine wpAny_Call_Name_kw (ziv I hg hm boot_zip ?_ (by decide) (by decide));refine PyProof.Rows.callWith_type1 (thn (ha pos pins s σ H _ I h) λus s1 ⟨vs,H1,I1,r1,a1,a2,ev,⟨xs,h1⟩,⟨ys,h2⟩,q⟩=>?_) he hpl;subst ev;obtain⟨u1,u2,rfl,e1',e2'⟩:=r1.two
 cases e1';cases e2';obtain⟨us,ru,q1⟩:=I1.sq h1;obtain⟨ws,rw',q2⟩:=I1.sq h2;have lt1:a1<s1.heap.objs.size:=by cases b1 <;> (obtain⟨o,e,_⟩:=q1;exact Yn e)
 have lt2:a2<s1.heap.objs.size:=by cases b2 <;> (obtain⟨o,e,_⟩:=q2;exact Yn e)
 refine zph q1 q2 λh' S k z5=>wpAny_pyIter_zip S.zip ?_
 have I2:Inv X pins σ H1 { s1 with heap:=h' }:=I1.kept (t':=s1.toks) k;refine⟨s1.heap.objs.size+4,[s1.heap.objs.size+4,s1.heap.objs.size+2,s1.heap.objs.size+3,s1.heap.objs.size,s1.heap.objs.size+1],_,_,H1,Z,I2,zpr b1 b2 (zipApart_new lt1 lt2),S,λb hb=>?_,q⟩;have hb':s1.heap.objs.size<=b:=by
  simp only[List.mem_cons,List.not_mem_nil,or_false]at hb
  rcases hb with rfl | rfl | rfl | rfl | rfl
  ·exact Nat.le_add_right _ 4
  ·exact Nat.le_add_right _ 2
  ·exact Nat.le_add_right _ 3
  ·exact Yi _
  ·exact Nat.le_add_right _ 1
 exact I1.fpOk hb' (I1.hok.fresh hb')
theorem Same.upd{H:Hp}{p:Addr}{o:HO}(h:H p=none):Same H (upd H p o):=λb u e=>by rw[zal (zan e h)];exact e
theorem Same.updR{H H':Hp}{p:Addr}{o:HO}(e:Same H H')(h:H p=none):Same H (L2.upd H' p o):=λb u q=>by rw[zal (zan q h)];exact e b u q
theorem Same.seqT{K:W.Frag}{H H':Hp}{a:Addr}{xs:List V}(e:Same H H')(h:SqT K H a xs):SqT K H' a xs:=by
 rcases h with(h | ⟨o,h⟩) | h
 ·exact .inl (.inl (e _ _ h))
 ·exact .inl (.inr ⟨o,e _ _ h⟩)
 ·exact .inr h
theorem Same.sqX{K:W.Frag}{b:Bool}{H H':Hp}{a:Addr}{xs:List V}(e:Same H H')(h:SqX K b H a xs):SqX K b H' a xs:=by
 cases b with
 | true=>exact e.seqT h
 | false=>exact e.seq h
structure Walk(J:It)(H1:Hp)(n:Nat)(P:Nat->V->Hp->Prop):Prop where
 go:∀i H',Same H1 H'->i<n->J.go i H'
 stop:∀H',Same H1 H'->J.stop n H'
 yld:∀i H' x H2,Same H1 H'->i<n->J.yld i H' x H2->Same H' H2/\P i x H2
theorem zpu{K:W.Frag}{H1:Hp}{a:Addr}{xs:List V}(h:SqT K H1 a xs):Walk (Itt K a) H1 xs.length (λi x _=>xs[i]? = some x):=
 ⟨λi H' e hi=>⟨xs,xs[i],e.seqT h,by simp[hi]⟩,λH' e=>⟨xs,e.seqT h,Yi _⟩,λi H' x H2 e hi y=>by
  obtain⟨rfl,q⟩:=y;exact⟨Same.refl _,q xs (e.seqT h)⟩⟩
theorem zlm{H1:Hp}(lo:Int)(n:Nat):Walk (Itr lo n) H1 n (λi x _=>x=.int (lo+i)):=
 ⟨λi H' e hi=>hi,λH' e=>Yi _,λi H' x H2 e hi y=>by
  obtain⟨rfl,q⟩:=y;exact⟨Same.refl _,q⟩⟩
theorem zpk{K:W.Frag}{b1 b2:Bool}{H1:Hp}{a1 a2:Addr}{xs ys:List V}(h1:SqX K b1 H1 a1 xs)(h2:SqX K b2 H1 a2 ys) :
  Walk (Itz K b1 b2 a1 a2) H1 (min xs.length ys.length) (λi v H=>∃p x y,v=.ref p/\H p=some (.tup [x,y])/\xs[i]? = some x/\ys[i]? = some y):=by
 refine⟨λi H' e hi=>?_,λH' e=>⟨xs,ys,e.sqX h1,e.sqX h2,?_⟩,λi H' x H2 e hi q=>?_⟩
 ·have i1:i<xs.length:=by omega
  have i2:i<ys.length:=by omega
  exact⟨xs,ys,xs[i],ys[i],e.sqX h1,e.sqX h2,by simp[i1],by simp[i2]⟩
 ·rcases Nat.le_total xs.length ys.length with q | q
  ·exact .inl (by omega)
  ·exact .inr (by omega)
 ·obtain⟨p,u,v,hp,rfl,rfl,q1,q2⟩:=q;exact⟨Same.upd hp,p,u,v,Z,zaf,q1 xs (e.sqX h1),q2 ys (e.sqX h2)⟩
theorem zt5{J:It}{H1:Hp}{n:Nat}{P:Nat->V->Hp->Prop}{g:TG}{tc:TT}{te:TE}{Q:VK}{σ0:St}{D:Addr}(S:Walk J H1 n P)(hD:H1 D=none)(hn:n<=sizeLine)(Sv:St->Prop)(p:Nat->Bool)(F:Nat->V->Hp->Prop)
  (monoS:∀i v H H',Same H H'->F i v H->F i v H') (monoU:∀i v H a ys ys',H a=some (.lst ys)->F i v H->F i v (upd H a (.lst ys'))) (h0:Sv σ0)
  (step:∀i x σ' H2,i<n->Sv σ'->Same H1 H2->P i x H2->∀(Ny:V->St->Hp->Prop) (Nn:St->Hp->Prop),(∀v σ2 H5,Sv σ2->Same H2 H5->F i v H5->p i=true->Ny v σ2 H5)->(∀σ2 H4,Sv σ2->Same H2 H4->p i=false->Nn σ2 H4) ->
   g x σ' H2 λσ2 H3=>tc σ2 H3 λb H4=>if b=true then te σ2 H4 λv H5=>Ny v σ2 H5 else Nn σ2 H4)
  (hQ:∀H' ys,Same H1 H'->H' D=some (.lst ys)->Paired (λi v=>F i v H') ((List.range n).filter p) ys->Q (.ref D) H') :
  ∃W:Nat->Nat->List V->St->Hp->Prop,(∃m,W 0 m [] σ0 (upd H1 D (.lst [])))/\∀i m ys σ' H',W i m ys σ' H'->H' D=some (.lst ys) /\
  ((J.stop i H'/\Q (.ref D) H')\/(J.go i H'/\ys.length<sizeLine/\∀x H2,J.yld i H' x H2->g x σ' H2 λσ2 H3=>tc σ2 H3 λb H4=>
   if b=true then te σ2 H4 λv H5=>H5 D=some (.lst ys)/\∃m',m'<m/\W (i+1) m' (ys++[v]) σ2 (upd H5 D (.lst (ys++[v])))
   else ∃m',m'<m/\W (i+1) m' ys σ2 H4)):=by
 refine⟨λi m ys σ' H'=>m=n-i/\i<=n/\Sv σ'/\Same H1 H'/\H' D=some (.lst ys)/\Paired (λj v=>F j v H') ((List.range i).filter p) ys,⟨n,Z,Y2 _,h0,Same.upd hD,zaf,.nil⟩,?_⟩;rintro i m ys σ' H' ⟨rfl,hi,hs,hS,hL,hF⟩;refine⟨hL,?_⟩;have rs:(List.range (i+1)).filter p=(List.range i).filter p++(if p i=true then [i] else []):=by
  rw[List.range_succ,List.filter_append]
  cases q:p i <;> simp[q]
 by_cases hlt:i<n
 ·refine .inr ⟨S.go i H' hS hlt,?_,λx H2 y=>?_⟩
  ·have l1:=hF.length;have l2:((List.range i).filter p).length<=(List.range i).length:=List.length_filter_le _ _;rw[List.length_range]at l2;omega
  ·obtain⟨e2,hP⟩:=S.yld i H' x H2 hS hlt y;refine step i x σ' H2 hlt hs (hS.trans e2) hP _ _ (λv σ2 H5 s2 e5 f5 hp=>?_) λσ2 H4 s2 e4 hp=>?_
   ·have l5:H5 D=some (.lst ys):=e5 _ _ (e2 _ _ hL);refine⟨l5,n-(i+1),by omega,Z,hlt,s2,((hS.trans e2).trans e5).updR hD,zaf,?_⟩;rw[rs,Yl hp];refine Paired.snoc (Paired.imp' (λj w q=>?_) hF) (monoU i v H5 D ys _ l5 f5);exact monoU j w H5 D ys _ l5 (monoS j w H' H5 (e2.trans e5) q)
   ·refine⟨n-(i+1),by omega,Z,hlt,s2,(hS.trans e2).trans e4,e4 _ _ (e2 _ _ hL),?_⟩;rw[rs,Yh (by rw[hp];decide),List.append_nil];exact Paired.imp' (λj w q=>monoS j w H' H4 (e2.trans e4) q) hF
 ·have e:i=n:=by omega
  subst e;exact .inl ⟨S.stop H' hS,hQ H' ys hS hL hF⟩
theorem Paired.eq_map{β : Type}{f:Nat->β}:∀{l:List Nat} {ys:List β},Paired (λi v=>v=f i) l ys->ys=l.map f
 | _,_,.nil=>rfl
 | _,_,.cons r t=>by rw[Yz,r,Paired.eq_map t]
theorem zin{J:It}{H1:Hp}{n:Nat}{P:Nat->V->Hp->Prop}{g:TG}{tc:TT}{te:TE}{Q:VK}{σ0:St}{D:Addr}(S:Walk J H1 n P)(hD:H1 D=none)(hn:n<=sizeLine)(Sv:St->Prop)(p:Nat->Bool)(f:Nat->V)(h0:Sv σ0)
  (step:∀i x σ' H2,i<n->Sv σ'->Same H1 H2->P i x H2->∀(Ny:V->St->Hp->Prop) (Nn:St->Hp->Prop),(∀σ2 H5,Sv σ2->Same H2 H5->p i=true->Ny (f i) σ2 H5)->(∀σ2 H4,Sv σ2->Same H2 H4->p i=false->Nn σ2 H4) ->
   g x σ' H2 λσ2 H3=>tc σ2 H3 λb H4=>if b=true then te σ2 H4 λv H5=>Ny v σ2 H5 else Nn σ2 H4)
  (hQ:∀H',Same H1 H'->H' D=some (.lst (((List.range n).filter p).map f))->Q (.ref D) H') :
  ∃W:Nat->Nat->List V->St->Hp->Prop,(∃m,W 0 m [] σ0 (upd H1 D (.lst [])))/\∀i m ys σ' H',W i m ys σ' H'->H' D=some (.lst ys) /\
  ((J.stop i H'/\Q (.ref D) H')\/(J.go i H'/\ys.length<sizeLine/\∀x H2,J.yld i H' x H2->g x σ' H2 λσ2 H3=>tc σ2 H3 λb H4=>
   if b=true then te σ2 H4 λv H5=>H5 D=some (.lst ys)/\∃m',m'<m/\W (i+1) m' (ys++[v]) σ2 (upd H5 D (.lst (ys++[v])))
   else ∃m',m'<m/\W (i+1) m' ys σ2 H4)):=
 zt5 S hD hn Sv p (λi v _=>v=f i) (λ_ _ _ _ _ q=>q) (λ_ _ _ _ _ _ _ q=>q) h0
  (λi x σ' H2 hi hs e hP Ny Nn hy hn'=>step i x σ' H2 hi hs e hP Ny Nn (λσ2 H5 s2 e5 hp=>hy _ σ2 H5 s2 e5 rfl hp) hn')
  λH' ys e hL hF=>hQ H' e (by rw[<- Paired.eq_map hF];exact hL)
theorem zf4{env:Env}:∀{names:List (Str×NameKind)} {x:Str},names.lookup x=some .free ->
  (names.map fun(n,k)=>if (k == NameKind.free&&env.scope.kind == .function&&env.kindOf n == some .cell) then(n,NameKind.cell) else(n,k)).lookup x=some .cell \/
  (names.map fun(n,k)=>if (k == NameKind.free&&env.scope.kind == .function&&env.kindOf n == some .cell) then(n,NameKind.cell) else(n,k)).lookup x=some .free
 | [],_,h=>by simp at h
 | (n,k)::r,x,h=>by
  have ih := @zf4 env r x;rw[Yz]
  cases hx:x == n with
  | true=>
   simp only[List.lookup_cons,hx]at h
   cases h;by_cases hc:(NameKind.free == NameKind.free&&env.scope.kind == .function&&env.kindOf n == some .cell)=true
   ·dsimp only;rw[Yl hc];simp only[List.lookup_cons,hx];exact .inl trivial
   ·dsimp only;rw[Yh hc];simp only[List.lookup_cons,hx];exact .inr trivial
  | false=>
   simp only[List.lookup_cons,hx]at h
   by_cases hc:(k == NameKind.free&&env.scope.kind == .function&&env.kindOf n == some .cell)=true
   ·dsimp only;rw[Yl hc];simp only[List.lookup_cons,hx];exact ih h
   ·dsimp only;rw[Yh hc];simp only[List.lookup_cons,hx];exact ih h
theorem zf0{env:Env}{names:List (Str×NameKind)}{x:Str}{k:NameKind}(hk:k=.cell\/k=.free)(nc:∀y∈names,y.2≠.cell)
  (h:(names.map fun(n,k)=>if (k == NameKind.free&&env.scope.kind == .function&&env.kindOf n == some .cell) then(n,NameKind.cell) else(n,k)).lookup x=some k):∃y∈names,y.1=x/\y.2=.free:=by
 have m:=PySem.mem_of_lookup h;obtain⟨⟨n,k0⟩,hm,e⟩:=Jh.mp m;dsimp only at e;by_cases hc:(k0 == NameKind.free&&env.scope.kind == .function&&env.kindOf n == some .cell)=true
 ·rw[Yl hc]at e;simp only[Bool.and_eq_true,beq_iff_eq]at hc
  cases e;exact⟨_,hm,Z,hc.1.1⟩
 ·rw[Yh hc]at e
  cases e;refine⟨_,hm,Z,?_⟩;rcases hk with z | z
  ·exact absurd z (nc _ hm)
  ·exact z
theorem Blk.of{X:Cx}{N:List Str}{scope:Scope}{cl:List (Str×Addr)}{mp:List (Option Nat)}(clos:closureFor scope X.env=pure cl)(cell:∀y∈scope.names,y.2≠.cell)(kind:scope.kind=.function)
  (nms:∀y∈scope.names,y.2=.local->scope.names.lookup y.1=some .local) (nd:N.Nodup) (sub:∀x c,cl.lookup x=some c->X.env.cells.lookup x=some c) (fr:∀y∈scope.names,y.2=.free->∃c,cl.lookup y.1=some c) (len:mp.length=N.length)
  (map:∀(i j:Nat) (x:Str),mp[i]? = some (some j)->N[i]? = some x->X.N[j]? = some x/\(X.env.scope.names.lookup x=some .cell\/X.env.scope.names.lookup x=some .free)/\scope.names.lookup x=some .free):Blk X N scope cl mp:=by
 refine⟨clos,cell,kind,nms,nd,sub,λx hx=>?_,len,λi j x h1 h2=>?_⟩
 ·have:∃y∈scope.names,y.1=x/\y.2=.free:=hx.elim (λz=>zf0 (.inl rfl) cell z) λz=>zf0 (.inr rfl) cell z
  obtain⟨y,hy,rfl,hf⟩:=this;exact fr y hy hf
 ·obtain⟨q1,q2,q3⟩:=map i j x h1 h2;exact⟨q1,q2,zf4 q3⟩
theorem Blk.plain{X:Cx}{N:List Str}{scope:Scope}(fr:∀y∈scope.names,y.2≠.free)(cell:∀y∈scope.names,y.2≠.cell)(kind:scope.kind=.function)(nms:∀y∈scope.names,y.2=.local->scope.names.lookup y.1=some .local)(nd:N.Nodup) :
  Blk X N scope [] (N.map λ_=>none):=
 Blk.of (closureFor_none fr) cell kind nms nd (λ_ _ h=>nomatch h) (λy hy h=>absurd h (fr y hy)) (Yd _) λi j x h=>by
  rw[Ym]at h
  cases q:N[i]? with
  | none=>rw[q]at h;cases h
  | some z=>rw[q]at h;cases h
def zipV(p:Int->Int->Bool)(φ : Int->Int->V)(xs ys:List Int):List V:=((List.range (min xs.length ys.length)).filter λi=>p (xs.getD i 0) (ys.getD i 0)).map λi=>φ (xs.getD i 0) (ys.getD i 0)
theorem zgk{xs:List Int}{i:Nat}{v:V}(h:(xs.map V.int)[i]? = some v):v=.int (xs.getD i 0):=by
 rw[Ym]at h
 cases q:xs[i]? with
 | none=>rw[q]at h;cases h
 | some z=>
  rw[q]at h;have e:xs.getD i 0=z:=by rw[List.getD_eq_getElem?_getD,q];rfl
  rw[e];exact(Je h).symm
theorem ztr{σ : St}(h : σ.length=2)(x y:V):(σ.set 0 (some x)).set 1 (some y)=[some x,some y]:=by
 match σ,h with
 | [_,_],_=>rfl
theorem zku{K:W.Frag}{b1 b2:Bool}{a b:Addr}{xs ys:List Int}{mp:List (Option Nat)}{ta:TA}{tc:TT}{te:TE}{σ : St}{H H1:Hp}{Q:VK}(p:Int->Int->Bool)(φ : Int->Int->V)(hmp:mp.length=2)(hta:∀R,R [.ref a,.ref b] H1->ta σ H R)
  (h1:SqX K b1 H1 a (xs.map V.int)) (h2:SqX K b2 H1 b (ys.map V.int)) (hz:xs.length<=1000)
  (htc:∀(i:Nat) H' (R:Bool->Hp->Prop),R (p (xs.getD i 0) (ys.getD i 0)) H'->tc [some (.int (xs.getD i 0)),some (.int (ys.getD i 0))] H' R)
  (hte:∀(i:Nat) H' (R:VK),p (xs.getD i 0) (ys.getD i 0)=true->R (φ (xs.getD i 0) (ys.getD i 0)) H'->te [some (.int (xs.getD i 0)),some (.int (ys.getD i 0))] H' R)
  (hQ:∀D H',Same H1 H'->H' D=some (.lst (zipV p φ xs ys))->Q (.ref D) H') :
  tComp mp (iZip K b1 b2 ta) (gTup K 2 (znj (za3 0) (znj (za3 1) gNil))) tc te σ H Q:=by
 unfold tComp;refine hta _ ⟨a,b,Z,⟨_,h1⟩,⟨_,h2⟩,λD hD=>?_⟩;have W:=zpk h1 h2;rw[Yd,Yd]at W;refine zin W hD (Yr (Nat.min_le_left _ _) (Yr hz (by rw[sizeLine_eq];decide))) (λσ=>σ.length=2) (λi=>p (xs.getD i 0) (ys.getD i 0)) (λi=>φ (xs.getD i 0) (ys.getD i 0)) (by unfold st0;rw[Yd];exact hmp) ?_ λH' e hL=>hQ D H' e hL
 rintro i v σ' H2 hi hs e ⟨q,u,w,rfl,hq,hu,hw⟩ Ny Nn hy hn;rw[zgk hu,zgk hw]at hq;refine⟨q,_,rfl,SqT.of hq,rfl,_,_,rfl,_,_,rfl,rfl,?_⟩;rw[ztr hs];refine htc _ _ _ ?_
 cases hp:p (xs.getD i 0) (ys.getD i 0) with
 | true=>rw[Yl rfl];exact hte _ _ _ hp (hy _ _ rfl (Same.refl _) hp)
 | false=>rw[Yh (by decide)];exact hn _ _ rfl (Same.refl _) hp
theorem zrf{X:Cx}{K:W.Frag}{x y:Str}{px py tp:Pos}{k:Nat}(hK:X.K=K)(hc:X.calm=true)(hN:X.N=[x,y])(nd:([x,y]:List Str).Nodup)(hx:X.env.scope.names.lookup x=some .local)(hy:X.env.scope.names.lookup y=some .local) :
  PG X (.Tuple [.Name x px,.Name y py] k tp) (gTup K 2 (znj (za3 0) (znj (za3 1) gNil))):=by
 subst hK;have nd':X.N.Nodup:=by rw[hN];exact nd
 exact zes hc (za9 (zbb (i:=0) nd' (by rw[hN];rfl) (.inl hx) (.inr hx)) (za9 (zbb (i:=1) nd' (by rw[hN];rfl) (.inl hy) (.inr hy)) zc8))
theorem zr1{X:Cx}{x:Str}{px:Pos}{i:Nat}(nd:X.N.Nodup)(hN:X.N[i]? = some x)(hx:X.env.scope.names.lookup x=some .local):PG X (.Name x px) (za3 i):=zbb nd hN (.inl hx) (.inr hx)
theorem zhc{mp:List (Option Nat)}{ta:TA}{g:TG}{tc:TT}{te:TE}{σ : St}{H H1:Hp}{Q:VK}(n:Int)(Sv:St->Prop)(p:Nat->Bool)(f:Nat->V)(hn0:0<=n)(hn:n<=1000)(hta:∀R,R [.int n] H1->ta σ H R)(h0:Sv (st0 mp σ))
  (step:∀(i:Nat) σ' H2,(i:Int)<n->Sv σ'->Same H1 H2->∀(Ny:V->St->Hp->Prop) (Nn:St->Hp->Prop),(∀σ2 H5,Sv σ2->Same H2 H5->p i=true->Ny (f i) σ2 H5)->(∀σ2 H4,Sv σ2->Same H2 H4->p i=false->Nn σ2 H4) ->
   g (.int (0+(i:Int))) σ' H2 λσ2 H3=>tc σ2 H3 λb H4=>if b=true then te σ2 H4 λv H5=>Ny v σ2 H5 else Nn σ2 H4)
  (hQ:∀D H',Same H1 H'->H' D=some (.lst (((List.range n.toNat).filter p).map f))->Q (.ref D) H'):tComp mp (zvp ta) g tc te σ H Q:=by
 unfold tComp;refine hta _ ⟨n,Z,by omega,by omega,λD hD=>?_⟩;refine zin (zlm 0 n.toNat) hD (Yr (show n.toNat<=1000 by omega) (by rw[sizeLine_eq];decide)) Sv p f h0 ?_ λH' e hL=>hQ D H' e hL
 rintro i v σ' H2 hi hs e rfl Ny Nn hy hn';exact step i σ' H2 (by omega) hs e Ny Nn hy hn'
theorem zpl{J:It}{H1:Hp}{n:Nat}{P:Nat->V->Hp->Prop}{g:TG}{tb:TS}{D:Ends}{σ : St}(S:Walk J H1 n P)(Sv:Nat->St->Prop)(h0:Sv 0 σ)
  (hs:∀i x σ H',i<n->Sv i σ->Same H1 H'->P i x H'->g x σ H' λσ2 H2=>tb { D with nx:=λσ3 H3=>Sv (i+1) σ3/\Same H1 H3,ct:=λσ3 H3=>Sv (i+1) σ3/\Same H1 H3,bk:=D.nx } σ2 H2)
  (hd:∀σ H,Sv n σ->Same H1 H->D.nx σ H) :
  ∃W:Nat->Nat->St->Hp->Prop,(∃m,W 0 m σ H1)/\∀i m σ H,W i m σ H ->
   (J.stop i H/\D.nx σ H)\/(J.go i H/\∃N:St->Hp->Prop,(∀σ' H',N σ' H'->∃m',m'<m/\W (i+1) m' σ' H')/\∀x H',J.yld i H x H'->g x σ H' λσ2 H2=>tb { D with nx:=N,ct:=N,bk:=D.nx } σ2 H2):=by
 refine⟨λi m σ H=>m=n-i/\i<=n/\Sv i σ/\Same H1 H,⟨n,Z,Y2 _,h0,Same.refl _⟩,?_⟩;rintro i m σ H ⟨rfl,hi,sv,e⟩;by_cases hlt:i<n
 ·refine .inr ⟨S.go i H e hlt,λσ3 H3=>Sv (i+1) σ3/\Same H1 H3,λσ' H' q=>⟨n-(i+1),by omega,Z,hlt,q.1,q.2⟩,λx H' y=>?_⟩;obtain⟨e2,hP⟩:=S.yld i H x H' e hlt y;exact hs i x σ H' hlt sv (e.trans e2) hP
 ·have z:i=n:=by omega
  subst z;exact .inl ⟨S.stop H e,hd σ H sv e⟩
theorem ObjOk.obj{P:Program}{w:World}{H:Hp}{h:Heap}{a:Addr}{o:HO}(x:ObjOk P w H h a o):∃ob,h.get? a=some ob:=by
 cases o with
 | lst xs=>obtain⟨_,_,_,_,e⟩:=x;exact⟨_,e⟩
 | tup xs=>obtain⟨_,_,_,ob,e,_⟩:=x;exact⟨_,e⟩
 | dK kvs=>obtain⟨_,_,_,_,o,_,_,e,_⟩:=x;exact⟨_,e⟩
 | dT kvs=>obtain⟨_,_,_,_,o,_,_,e,_⟩:=x;exact⟨_,e⟩
 | set S n=>obtain⟨o,_,_,_,e,_⟩:=x;exact⟨_,e⟩
 | ins C dx fs=>obtain⟨_,_,_,e,_⟩:=x;exact⟨_,e⟩
 | own y=>obtain⟨_,e⟩:=x;exact⟨_,e⟩
 | xd fs=>obtain⟨_,⟨_,_,_,e,_⟩,_⟩:=x;exact⟨_,e⟩
 | rng lo hi=>obtain⟨_,_,_,e⟩:=x;exact⟨_,e⟩
 | frz ob u=>obtain⟨e,_⟩:=x;exact⟨_,e⟩
 | tbl ps=>exact⟨_,show h.get? a=some _ from x⟩
 | met f y=>exact⟨_,show h.get? a=some _ from x⟩
 | ext φ=>obtain⟨_,⟨_,e⟩,_⟩:=x;exact⟨_,e⟩
structure Cov(B:Heap)(fs:List Addr)(H':Hp)(h:Heap):Prop where
 old:∀b o,h.get? b=some o->b ∉ fs->∃o',B.get? b=some o'
 trk:∀b u,H' b=some u->∃o',B.get? b=some o'
def CXe(P:Program)(w:World):CXT:=λouter H s E e s'=>∃(a:Addr) (cls a0:Value) (B:Heap) (H':Hp),e=.ref a/\s'.os=s.os/\AllBare s'.gens/\Un (frs outer) [] H H' s.heap s'.heap/\HOk P w H' s'.heap /\
 Heap.FlyingW B outer a cls a0 s'.heap/\Cov B (frs outer) H' s.heap/\E cls none H'
section
variable{P:Program}{w:World}{fs:List Addr}{H H':Hp}{h h1 h2 B:Heap}
theorem Heap.two{B h1 h2:Heap}(s1:B.StaysIn h1)(s2:B.StaysIn h2){b:Addr}{o o':Obj}(e:h1.get? b=some o)(q:B.get? b=some o'):h2.get? b=some o:=by
 have:=s1 b o' q;rw[e]at this;cases this;exact s2 b _ q
theorem zkk(u:Un fs [] H H' h h1)(cov:Cov B fs H' h)(s1:B.StaysIn h1)(s2:B.StaysIn h2)(sl:∀b o,b∈fs->h1.get? b=some o->∃sl,h2.get? b=some { o with slots:=sl }):Un fs [] H H' h h2:=by
 refine⟨λb o e n hb hx=>?_,λb o e n hb hx=>?_,u.free,λb o e hx=>?_,u.tups,u.frzs,u.tbls⟩
 ·obtain⟨o',q⟩:=cov.old b o e hb;exact Heap.two s1 s2 (u.keep b o e n hb hx) q
 ·obtain⟨sl1,e1⟩:=u.slot b o e n hb hx;obtain⟨sl2,e2⟩:=sl b _ hb e1;exact⟨sl2,e2⟩
 ·by_cases hb:b∈fs
  ·obtain⟨o',e1⟩:=u.there b o e hx;obtain⟨sl2,e2⟩:=sl b _ hb e1;exact⟨_,e2⟩
  ·obtain⟨o',q⟩:=cov.old b o e hb;exact⟨o',s2 b o' q⟩
theorem zkp(ok:HOk P w H' h1)(trk:∀b u,H' b=some u->∃o',B.get? b=some o')(s1:B.StaysIn h1)(s2:B.StaysIn h2):HOk P w H' h2:=λb u e=>by
 refine(ok b u e).stay (λc v hc q=>?_) (λ_ q=>q) λ_ _ q=>q
 have:∃o',B.get? c=some o':=by
  rcases hc with rfl | hc
  ·exact trk c u e
  ·exact trk c _ hc
 obtain⟨o',q'⟩:=this;exact Heap.two s1 s2 q q'
theorem zma{base:Heap}{l:List Env}(ff:h1.FunFrames base l)(up:h1.UpToSlots h2):∀b o,b∈frs l->h1.get? b=some o->∃sl,h2.get? b=some { o with slots:=sl }:=λb o hb e=>by
 obtain⟨_,o',e',d⟩:=ff.mem hb;rw[e]at e';cases e';exact up b o e d
end
def RaisesTo(X:Cx)(E:St->XK):Prop:=∀(pins:List (Addr×Obj)) (σ : St) (H:Hp) (s:Shared) (h':Heap) (e:Addr) (cls:Value) (args:List Value),Inv X pins σ H s->Heap.MadeExcOf s.heap h' e cls args->E σ cls none H->X.xe (.ref e) { s with heap:=h' }
def PassesS(CX:CXT)(X:Cx)(E:St->XK):Prop:=∀(pins:List (Addr×Obj)) (σ : St) (H:Hp) (s:Shared) (e:Value) (s':Shared),Inv X pins σ H s->CX X.stack H s (E σ) e s'->X.xe e s'
section
variable{P:Program}{w:World}{K:W.Frag}{mg:Str->Option Value}{base:Heap}{N:List Str}{qual:Str}{scope:Scope}{f:Addr}{cd:Value}{A:Around}{outer:List Env}{s₀:Shared}{H₀:Hp}{E:XK}
theorem za6:RaisesTo (cxOf (CXe P w) P w K mg base N qual scope f cd A outer s₀ H₀ E) (λ_=>E):=by
 intro pins σ H s h' e cls args I hx hE;have ff:=W.funFrames_hide (as:=frs (cxOf (CXe P w) P w K mg base N qual scope f cd A outer s₀ H₀ E).stack) I.stack λenv he a ha=>List.mem_filterMap.mpr ⟨env,he,ha⟩
 have stB:(W.hideAll s.heap (frs (cxOf (CXe P w) P w K mg base N qual scope f cd A outer s₀ H₀ E).stack)).StaysIn s.heap:=λb o e=>W.of_hideAll _ e
 have inB:∀b o,s.heap.get? b=some o->b ∉ frs (cxOf (CXe P w) P w K mg base N qual scope f cd A outer s₀ H₀ E).stack->(W.hideAll s.heap (frs (cxOf (CXe P w) P w K mg base N qual scope f cd A outer s₀ H₀ E).stack)).get? b=some o:=
  λb o e hb=>W.hideAll_get _ e hb
 refine wpAny_leaves_madeW (outer:=outer) I.ok.frames rfl stB ff hx λh'' t fl tup nt up=>?_
 have cov:Cov (W.hideAll s.heap (frs (cxOf (CXe P w) P w K mg base N qual scope f cd A outer s₀ H₀ E).stack)) (frs outer) H s₀.heap:=by
  refine⟨λb o e hb=>?_,λb u e=>?_⟩
  ·obtain⟨o1,e1⟩:=I.base.there b o e (by intro z;exact absurd (show b∈([]:List Addr) from z) (by simp));refine⟨o1,inB b o1 e1 λz=>?_⟩;rcases Yj.mp (I.stkSub b z) with q | q
   ·exact absurd q (Y0 (Yf (Yn e) I.ok.above))
   ·exact hb q
  ·obtain⟨ob,eo⟩:=(I.hok b u e).obj;exact⟨ob,inB b ob eo λz=>by rw[I.stkFree b z]at e;cases e⟩
 refine⟨e,cls,.ref t,_,H,Z,I.os,I.bare,zkk I.base cov stB fl.1 λb o hb eo=>?_,zkp I.hok cov.trk stB fl.1,fl,cov,hE⟩;obtain⟨_,o',e',d⟩:=I.funs.mem hb;rw[eo]at e';cases e';exact up b o (hx.keeps b o eo) d
theorem zaz:PassesS (CXe P w) (cxOf (CXe P w) P w K mg base N qual scope f cd A outer s₀ H₀ E) (λ_=>E):=by
 intro pins σ H s e s' I hq;obtain⟨a,cls,a0,B,H',rfl,os,bare,un,hok,fl,cov,hE⟩:=hq;have I':=I.call' (ch:=[]) os un hok bare λb z=>absurd z (by simp)
 refine wpAny_leaves_onW (outer:=outer) I'.ok.frames rfl fl λh'' fl' up=>?_
 have cov0:Cov B (frs outer) H' s₀.heap:=by
  refine⟨λb o e hb=>?_,cov.trk⟩;obtain⟨o1,e1⟩:=I.base.there b o e (by intro z;exact absurd (show b∈([]:List Addr) from z) (by simp));refine cov.old b o1 e1 λz=>?_
  rcases Yj.mp (I.stkSub b z) with q | q
  ·exact absurd q (Y0 (Yf (Yn e) I.ok.above))
  ·exact hb q
 exact⟨a,cls,a0,B,H',Z,I'.os,I'.bare,zkk I'.base cov0 fl.1 fl'.1 (zma I'.funs up),zkp I'.hok cov.trk fl.1 fl'.1,fl',cov0,hE⟩
end
def zli(sp:Sp)(dvs:List V)(E:St->XK)(t:TA):TE:=λσ H Q=>t σ H λvs H1=>sp (vs++dvs) H1 Q (E σ)
def zod(C:Addr)(m:Str)(sp:Sp)(dvs:List V)(E:St->XK)(ta:TE)(t:TA):TE:=λσ H Q=>ta σ H λx H1=>∃a dx fs,x=.ref a/\H1 a=some (.ins C dx fs)/\fs.lookup m=none /\
 t σ H1 λvs H2=>sp (x::(vs++dvs)) H2 Q (E σ)
def zoa(C:Addr)(sp:Sp)(dvs:List V)(E:St->XK)(t:TA):TE:=λσ H Q=>t σ H λvs H1=>∀x dx,H1 x=none->H1 dx=none->dx≠x ->
 sp (.ref x::(vs++dvs)) (upd (upd H1 dx (.own x)) x (.ins C dx [])) (λv H2=>v=.non/\Q (.ref x) H2) (E σ)
section
variable{X:Cx}{CX:CXT}{k:Nat}{f C:Addr}{fd:FuncData}{ps:List Str}{sp:Sp}{dvs:List V}{ds:List Value}{E:St->XK}{x m:Str}{p pos apos:Pos}{e o:Expr}{es:List Expr}{ta:TE}{t:TA}
theorem zhr{pins:List (Addr×Obj)}{σ : St}{H:Hp}{s:Shared}{Q:VK}{us:List Value}{vs:List V}(F:FnOk X.prog X.w X.K X.mg X.base CX k f fd ps sp)(hr:Room k X.A)(hb:Binds X.K fd ps ds)(hd:Vals dvs ds)(hx:PassesS CX X E)
  (I:Inv X pins σ H s) (r:Vals vs us) (h:sp (vs++dvs) H Q (E σ)):wpAny (model X.prog X.w) X.A (call (.ref f) us) (EP X pins σ Q) X.xe s:=by
 have r2:Vals (vs++dvs) (us++ds):=r.append hd;have hl:(us++ds).length=ps.length:=by rw[<- r2.length];exact F.len _ _ _ _ h
 refine wpAny_call (codeAny_mono (F.run X.A X.stack s H ⟨us,[]⟩ (us++ds) (vs++dvs) Q (E σ) hr I.env0 (hb s us I.kIn hl) r2 h) λr s' hq=>?_);match r,hq with
 | .error e,hq=>exact hx pins σ H s e s' I hq
 | .ok (.ret u),hq=>exact I.after hq
 | .ok .next,hq=>exact Jd hq
 | .ok .brk,hq=>exact Jd hq
 | .ok .cont,hq=>exact Jd hq
theorem zox(F:FnOk X.prog X.w X.K X.mg X.base CX k f fd ps sp)(hr:Room k X.A)(hg:Gl X x)(hm:X.mg x=some (.ref f))(hk:W.keepIn X.K (.ref f)=true)(hb:Binds X.K fd ps ds)(hd:Vals dvs ds)(hx:PassesS CX X E)
  (ha:PA X (e::es) t) (hdb:(x == ("__debug__" : Str))=false:=by decide) (he:starEach (e::es) X.env=(false,eval e X.env)::starEach es X.env:=by rfl) (hpl:(backTo pos (starEach es X.env)).any (·.1)=false:=by rfl) :
  PE X (.Call (.Name x p) (e::es) [] pos) (zli sp dvs E t):=by
 intro pins s σ H Q I h;refine wpAny_Call_Name_kw (zed I hg hm (W.callWith_K (h₀:=X.base) I.ok.mod.kin hk (thn (ha pos pins s σ H _ I h) λus s1 ⟨vs,H1,I1,r,q⟩=>⟨I1.kIn,?_⟩) he hpl) hdb);exact zhr F hr hb hd hx I1 r q
theorem zqg{pl:Sem Bool}(he:PE X o ta)(c:Cls X.K C)(hm:Meth X.K C m f)(F:FnOk X.prog X.w X.K X.mg X.base CX k f fd ps sp)(hr:Room k X.A)(hb:Binds X.K fd ps ds)(hd:Vals dvs ds)(hx:PassesS CX X E)(ha:PA X (e::es) t)
  (hst:starEach (e::es) X.env=(false,eval e X.env)::starEach es X.env:=by rfl) (hpl:(backTo pos (starEach es X.env)).any (·.1)=false:=by rfl)
  (ht:eval (.Call (.Attribute o m apos) (e::es) [] pos) X.env=(do
   let ov <- eval o X.env
   standAt apos.atName
   let (f,first) <- holding [ov] (getMethod ov m pl)
   callWith pos f first (backTo pos (starEach (e::es) X.env)) (backToKw pos (keywordEach [] X.env))):=by rfl) :
  PE X (.Call (.Attribute o m apos) (e::es) [] pos) (zod C m sp dvs E ta t):=by
 intro pins s σ H Q I h;refine W.methodCall_KW (pl:=pl) (thn (he pins s σ H _ I h) λu s1 ⟨x,H1,I1,rx,a,dx,fs,ex,ea,l,q⟩=>?_) ht;subst ex;obtain rfl:u=Value.ref a:=rx;refine zg7 I1 ea c hm l (W.callWith_K (first:=[.ref a]) (h₀:=X.base) I.ok.mod.kin hm.kp (thn (ha pos pins s1 σ H1 _ I1 q) λus s2 ⟨vs,H2,I2,r,q2⟩=>⟨I2.kIn,?_⟩) hst hpl);exact zhr (us:=.ref a::us) (vs:=.ref a::vs) F hr hb hd hx I2 (.cons rfl r) q2
end
def zr3(C:Addr)(E:St->XK)(t:TA):TS:=λ_ σ H=>t σ H λvs H1=>vs.length<=sizeLine/\E σ (.ref C) none H1
theorem zqc{X:Cx}{C:Addr}{x:Str}{bm:List Value}{newId initId B:String}{e:Expr}{es:List Expr}{t:TA}{np cpos pos:Pos}{E:St->XK}(O:OwnCls x C bm newId X.mg X.base)(FB:ExcBaseFacts B newId initId bm)(hc:X.calm=true)(hg:Gl X x)
  (hx:RaisesTo X E) (ha:PA X (e::es) t) (he:starEach (e::es) X.env=(false,eval e X.env)::starEach es X.env:=by rfl) (hpl:(backTo cpos (starEach es X.env)).any (·.1)=false:=by rfl) (hd:(x == ("__debug__" : Str))=false:=by decide) :
  PS X (.Raise (some (.Call (.Name x np) (e::es) [] cpos)) none pos) (zr3 C E t):=by
 intro pins s σ H D I h;obtain⟨tl,N,nm,q,bs,hdct,sn,sub,ab,col,dd,k0,k1,k2,k3,k5,mN,hC,hN,hni,T⟩:=O.obj;refine wpAny_Raise_call_subT (C:=C) (nm:=nm) (q:=q) (N:=N) (bs:=bs) (bm:=tl) (hdct:=hdct) (sn:=sn) (sub:=sub) (ab:=ab) (col:=col) (dd:=dd) (k0:=k0) (k1:=k1) (k2:=k2) (k3:=k3) (k5:=k5)
  FB (mN:=mN) (T.hasType FB.hasBase) (I.ok.hd hc) (by rw[he];show (false||(backTo cpos (starEach es X.env)).any (·.1))=false;rw[hpl];rfl) hni (zed I hg O.bound ⟨Z,?_⟩ hd)
 have ha':=ha cpos pins s σ H _ I h;rw[he]at ha' ⊢;refine Calls.evalArgs_plain (thn ha' λus s2 ⟨vs,H2,I2,r,hl,hE⟩=>⟨Z,by rw[<- r.length];exact hl,I2.bk _ _ hC,hN.keeps I2.bk,T.keeps I2.bk,λh' e hm=>hx pins σ H2 s2 h' e _ _ I2 hm hE⟩)
theorem zib{K:W.Frag}{h:Heap}{mg:Str->Option Value}{x:Str}{C:Addr}{bm:List Value}{nid:String}(X:K.In h)(G:h.Ns mainGlobals mg)(e:W.nsIn K mainGlobals x=some (some (.ref C)))(q:W.excIn K C bm nid=true):OwnCls x C bm nid mg h:=by
 have G':=W.mg_of X G e;unfold W.excIn at q;split at q
 case h_2=>cases q
 rename_i dd cd sl ho;split at q
 case h_2=>cases q
 rename_i C' tl k0 k1 k2 k3 n k5 hm hs;simp only[Bool.and_eq_true,beq_iff_eq,Bool.not_eq_true']at q
 obtain⟨⟨⟨⟨⟨q1,q2⟩,q3⟩,q4⟩,q5⟩,q6⟩:=q;subst q1;subst q2;obtain⟨c1,c2,c3,c4,c5,c6,c7,c8,c9,c10,c11⟩:=cd;dsimp only at hm q3 q5 q6;subst hm;subst q3;have z:sl = #[k0,k1,k2,k3,some (.builtin n),k5]:=by obtain⟨l⟩:=sl;simp only at hs;rw[hs]
 subst z;exact⟨G',tl,c4,c1,c5,c2,c6,c7,c8,c9,c10,dd,k0,k1,k2,k3,k5,_,X _ _ ho,.of_isNs (W.isNs_of_in X q5),W.nsMap_none_of_in X q5 q6,W.tail_of_in X q4⟩
abbrev Cx.wishP(X:Cx)(pl:List (Addr×Obj))(E:Value->Shared->Prop):Cx:={ X with pn:=X.pn++pl,xe:=E }
abbrev Cx.caught(X:Cx)(a:Addr):Cx:={ X with A:=X.A.mark (some (.ref a)),calm:=false,xe:=λ_ _=>False }
section
variable{X:Cx}{pins pl:List (Addr×Obj)}{σ : St}{H:Hp}{s:Shared}{E:Value->Shared->Prop}{a:Addr}
theorem Inv.wishP(I:Inv X pins σ H s)(E:Value->Shared->Prop):Inv (X.wishP pins E) [] σ H s:=
 ⟨⟨I.ok.mod,I.ok.kind,I.ok.glob,I.ok.blt,I.ok.above,I.ok.inj,I.ok.has,I.ok.cab,I.ok.hd,I.ok.frames,I.ok.stk,I.ok.exf,I.ok.bs,I.ok.bsz,I.ok.noex,I.ok.exfs,I.ok.funs,I.ok.frf⟩,I.os,I.bare,I.base,I.loc,I.cell,I.free,I.freeC,
  λp hp=>I.pin p (by simpa using hp),I.hok,I.len⟩
theorem Inv.unwishP(I:Inv (X.wishP pl E) pins σ H s):Inv X pl σ H s:=
 ⟨⟨I.ok.mod,I.ok.kind,I.ok.glob,I.ok.blt,I.ok.above,I.ok.inj,I.ok.has,I.ok.cab,I.ok.hd,I.ok.frames,I.ok.stk,I.ok.exf,I.ok.bs,I.ok.bsz,I.ok.noex,I.ok.exfs,I.ok.funs,I.ok.frf⟩,I.os,I.bare,I.base,I.loc,I.cell,I.free,I.freeC,
  λp hp=>I.pin p (List.mem_append_left _ hp),I.hok,I.len⟩
theorem Inv.caught(I:Inv X pins σ H s)(a:Addr):Inv (X.caught a) pins σ H s:=
 ⟨⟨I.ok.mod,I.ok.kind,I.ok.glob,I.ok.blt,I.ok.above,I.ok.inj,I.ok.has,I.ok.cab,(λz=>nomatch (show false=true from z)),I.ok.frames,I.ok.stk,I.ok.exf,I.ok.bs,I.ok.bsz,I.ok.noex,I.ok.exfs,I.ok.funs,I.ok.frf⟩,I.os,I.bare,I.base,I.loc,I.cell,I.free,I.freeC,
  I.pin,I.hok,I.len⟩
theorem Inv.uncaught(hd:X.calm=true->X.A.handled=none)(I:Inv (X.caught a) pins σ H s):Inv X pins σ H s:=
 ⟨⟨I.ok.mod,I.ok.kind,I.ok.glob,I.ok.blt,I.ok.above,I.ok.inj,I.ok.has,I.ok.cab,hd,I.ok.frames,I.ok.stk,I.ok.exf,I.ok.bs,I.ok.bsz,I.ok.noex,I.ok.exfs,I.ok.funs,I.ok.frf⟩,I.os,I.bare,I.base,I.loc,I.cell,I.free,I.freeC,
  I.pin,I.hok,I.len⟩
theorem SP.unwishP{D:Ends}{f:Flow}{s':Shared}(h:SP (X.wishP pl E) pins D f s'):SP X pl D f s':=by
 cases f with
 | next=>obtain⟨σ',H',I,q⟩:=h;exact⟨σ',H',I.unwishP,q⟩
 | brk=>obtain⟨σ',H',I,q⟩:=h;exact⟨σ',H',I.unwishP,q⟩
 | cont=>obtain⟨σ',H',I,q⟩:=h;exact⟨σ',H',I.unwishP,q⟩
 | ret u=>obtain⟨v,σ',H',I,r,q⟩:=h;exact⟨v,σ',H',I.unwishP,r,q⟩
theorem SP.uncaught{D:Ends}{f:Flow}{s':Shared}(hd:X.calm=true->X.A.handled=none)(h:SP (X.caught a) pins D f s'):SP X pins D f s':=by
 cases f with
 | next=>obtain⟨σ',H',I,q⟩:=h;exact⟨σ',H',I.uncaught hd,q⟩
 | brk=>obtain⟨σ',H',I,q⟩:=h;exact⟨σ',H',I.uncaught hd,q⟩
 | cont=>obtain⟨σ',H',I,q⟩:=h;exact⟨σ',H',I.uncaught hd,q⟩
 | ret u=>obtain⟨v,σ',H',I,r,q⟩:=h;exact⟨v,σ',H',I.uncaught hd,r,q⟩
end
section
variable{X:Cx}
def clV:V->Option Value
 | .ty n=>some (.type n)
 | .ref a=>some (.ref a)
 | _=>none
theorem zjv:CallR X (.builtin "isinstance") (λxs H Q=>∃x y t c b,xs=[x,y]/\clV y=some c/\TyOf X.K H x t/\W.kitOne X.K t c=some b/\Q (.bl b) H):=by
 intro pins s σ H xs us Q I r h;obtain⟨x,y,t,c,b,rfl,hy,ty,e,q⟩:=h;obtain⟨u,v,rfl,ru,rv⟩:=r.two;have ev:v=c:=by
  cases y with
  | ty n=>cases hy;exact rv
  | ref a=>cases hy;exact rv
  | _=>cases hy
 subst ev;exact zn4 I ru ty e λtk=>⟨.bl b,H,I.tok _,Z,q⟩
end
theorem PS.nox{X:Cx}{st:Stmt}{t:TS}(h:PS X.nox st t):PS X st t:=λpins s σ H D I hw=>wpAny_mono (h pins s σ H D (I.wish _) hw) (λ_ _ q=>SP.unwish q) λ_ _ z=>z.elim
structure CMeth(K:W.Frag)(C:Addr)(m:Str)(f:Addr):Prop where
 ex:∃mc,W.readsIn K C mc=true/\W.findCls K (.ref C) mc m=some (.val (.ref f))
 sp:W.specialIn K (.ref C) "__getattribute__" = some (some (.builtin "type.__getattribute__"))
 kp:W.keepIn K (.ref f)=true
section
variable{X:Cx}{CX:CXT}{k:Nat}{f C:Addr}{fd:FuncData}{ps:List Str}{sp:Sp}{dvs:List V}{ds:List Value}{E:St->XK}{x m:Str}{p pos apos:Pos}{e o:Expr}{es:List Expr}{ta:TE}{t:TA}
theorem zpq{pl:Sem Bool}(CM:CMeth X.K C m f)(hg:Gl X x)(hm:X.mg x=some (.ref C))(F:FnOk X.prog X.w X.K X.mg X.base CX k f fd ps sp)(hr:Room k X.A)(hb:Binds X.K fd ps ds)(hd:Vals dvs ds)(hx:PassesS CX X E)(ha:PA X (e::es) t)
  (hdb:(x == ("__debug__" : Str))=false:=by decide) (hst:starEach (e::es) X.env=(false,eval e X.env)::starEach es X.env:=by rfl) (hpl:(backTo pos (starEach es X.env)).any (·.1)=false:=by rfl)
  (ht:eval (.Call (.Attribute (.Name x p) m apos) (e::es) [] pos) X.env=(do
   let ov <- eval (.Name x p) X.env
   standAt apos.atName
   let (f,first) <- holding [ov] (getMethod ov m pl)
   callWith pos f first (backTo pos (starEach (e::es) X.env)) (backToKw pos (keywordEach [] X.env))):=by rfl) :
  PE X (.Call (.Attribute (.Name x p) m apos) (e::es) [] pos) (zli sp dvs E t):=by
 intro pins s σ H Q I h;obtain⟨mc,q1,q2⟩:=CM.ex;refine W.methodCall_KW (pl:=pl) (zed I hg hm (W.method_cls I.kIn CM.sp (W.cls_value I.kIn q1 q2 rfl ?_)) hdb) ht;have I1:=I.tok (s.toks+1);refine W.callWith_K (first:=[]) (h₀:=X.base) I.ok.mod.kin CM.kp (thn (ha pos pins _ σ H _ I1 h) λus s2 ⟨vs,H2,I2,r,q⟩=>⟨I2.kIn,?_⟩) hst hpl;exact zhr F hr hb hd hx I2 r q
theorem zij{pins:List (Addr×Obj)}{σ : St}{H:Hp}{s:Shared}{Q:VK}{us:List Value}{vs:List V}(M:Mk X.K C f)(F:FnOk X.prog X.w X.K X.mg X.base CX k f fd ps sp)(hr:Room (k+1) X.A)(hb:Binds X.K fd ps ds)(hd:Vals dvs ds)
  (hx:PassesS CX X E) (I:Inv X pins σ H s) (r:Vals vs us)
  (h:∀x dx,H x=none->H dx=none->dx≠x->sp (.ref x::(vs++dvs)) (upd (upd H dx (.own x)) x (.ins C dx [])) (λv H2=>v=.non/\Q (.ref x) H2) (E σ)) :
  wpAny (model X.prog X.w) X.A (call (.ref C) us) (EP X pins σ Q) X.xe s:=by
 have hq:=h (s.heap.objs.size+1) s.heap.objs.size (I.hok.fresh (Nat.le_succ _)) (I.hok.fresh (Yi _)) (Y0 (Nat.lt_succ_self _));have I2:=Inv.made (C:=C) I;have r2:Vals (V.ref (s.heap.objs.size+1)::(vs++dvs)) (Value.ref (s.heap.objs.size+1)::(us++ds)):=.cons rfl (r.append hd);have hl:(Value.ref (s.heap.objs.size+1)::us++ds).length=ps.length:=by
  have e:=r2.length;rw[F.len _ _ _ _ hq]at e;exact e.symm
 refine wpAny_call (zp2 (f:=f) I.kIn M.makes M.init (beq_iff_eq.mp M.fn) (codeAny_mono (F.run _ X.stack _ _ ⟨Value.ref (s.heap.objs.size+1)::us,[]⟩ (Value.ref (s.heap.objs.size+1)::(us++ds)) _ _ (E σ) (hr.make C us [])
  (I2.env0.make C us []) (hb _ (Value.ref (s.heap.objs.size+1)::us) I2.kIn hl) r2 hq) λr s' hq'=>?_))
 match r,hq' with
 | .error e,hq'=>exact hx pins σ _ _ e s' I2 hq'
 | .ok (.ret u),hq'=>
  obtain⟨v,H',I3,rv,ev,q3⟩:=I2.after hq';subst ev;exact⟨rv,⟨V.ref (s.heap.objs.size+1),H',I3,Z,q3⟩⟩
 | .ok .next,hq'=>exact Jd hq'
 | .ok .brk,hq'=>exact Jd hq'
 | .ok .cont,hq'=>exact Jd hq'
theorem zpa(M:Mk X.K C f)(F:FnOk X.prog X.w X.K X.mg X.base CX k f fd ps sp)(hr:Room (k+1) X.A)(hg:Gl X x)(hm:X.mg x=some (.ref C))(hb:Binds X.K fd ps ds)(hd:Vals dvs ds)(hx:PassesS CX X E)
  (ha:PA X (e::es) t) (hdb:(x == ("__debug__" : Str))=false:=by decide) (he:starEach (e::es) X.env=(false,eval e X.env)::starEach es X.env:=by rfl) (hpl:(backTo pos (starEach es X.env)).any (·.1)=false:=by rfl) :
  PE X (.Call (.Name x p) (e::es) [] pos) (zoa C sp dvs E t):=by
 intro pins s σ H Q I h;refine wpAny_Call_Name_kw (zed I hg hm (W.callWith_K (h₀:=X.base) I.ok.mod.kin M.kp (thn (ha pos pins s σ H _ I h) λus s1 ⟨vs,H1,I1,r,q⟩=>⟨I1.kIn,?_⟩) he hpl) hdb);exact zij M F hr hb hd hx I1 r q
end
end L2
set_option Elab.async false
set_option linter.all false
set_option maxRecDepth 100000
namespace L2
open PySem PySem.Spec PyProof.Rows
structure FunD(K:W.Frag)(x qual:Str)(st:Stmt)(dV:Value)(f:Addr)(fd:FuncData):Prop where
 ex:∃(oc:Value) (od:Option Addr) (kV doc pm:Value) (an:Option Addr) (cdv ct:Value) (osl:Array (Option Value)),
  fd=W.fnOf x qual (zcn st) (zb2 st) (zaj st) dV kV doc pm an cdv ct/\K.lookup f=some ⟨oc,od,.func fd,osl⟩/\W.codeIn K cdv qual=true
section
variable{P:Program}{w:World}{K:W.Frag}{mg:Str->Option Value}{base:Heap}{x qual:Str}{st:Stmt}{dV:Value}{f:Addr}{fd:FuncData}{N ps:List Str}{k:Nat}{sp:Sp}
theorem FunD.okN(F:FunD K x qual st dV f fd)(S:FnScope N ps (zaj st))(len:∀vs H Q E,sp vs H Q E->vs.length=ps.length)
  (hbody:∀(cdv:Value) (A:Around) (outer:List Env) (s:Shared) (H:Hp) (vs:List V) (Q:VK) (E:XK),Room k (A.deeper (envOfC qual (zaj st) s.heap.objs.size f cdv))->sp vs H Q E ->
   ∃t,PSs (cxOf CX0 P w K mg base N qual (zaj st) f cdv A outer s H E).nox (zb2 st) t/\t { nx:=λ_ H'=>Q .non H',rt:=Q } (start N vs) H):FnOk P w K mg base CX0 (k+1) f fd ps sp:=by
 obtain⟨oc,od,kV,doc,pm,an,cdv,ct,osl,rfl,lk,hcd⟩:=F.ex;refine zwt lk hcd S len λA outer s H vs Q E hr hsp=>?_
 obtain⟨t,h,q⟩:=hbody cdv A outer s H vs Q E hr hsp;exact⟨t,h.nox,q⟩
theorem FunD.okX(F:FunD K x qual st dV f fd)(S:FnScope N ps (zaj st))(len:∀vs H Q E,sp vs H Q E->vs.length=ps.length)
  (hbody:∀(cdv:Value) (A:Around) (outer:List Env) (s:Shared) (H:Hp) (vs:List V) (Q:VK) (E:XK),Room k (A.deeper (envOfC qual (zaj st) s.heap.objs.size f cdv))->sp vs H Q E ->
   ∃t,PSs (cxOf (CXe P w) P w K mg base N qual (zaj st) f cdv A outer s H E) (zb2 st) t/\t { nx:=λ_ H'=>Q .non H',rt:=Q } (start N vs) H):FnOk P w K mg base (CXe P w) (k+1) f fd ps sp:=by
 obtain⟨oc,od,kV,doc,pm,an,cdv,ct,osl,rfl,lk,hcd⟩:=F.ex;exact zwt lk hcd S len λA outer s H vs Q E hr hsp=>hbody cdv A outer s H vs Q E hr hsp
theorem FunD.binds(F:FunD K x qual st .none f fd)
  (h:∀(kV doc pm:Value) (an:Option Addr) (cdv ct:Value) (us:List Value),us.length=ps.length->bindArgs (W.fnOf x qual (zcn st) (zb2 st) (zaj st) .none kV doc pm an cdv ct) ⟨us,[]⟩=pure (ps.zip us)):Binds K fd ps []:=by
 obtain⟨oc,od,kV,doc,pm,an,cdv,ct,osl,rfl,lk,hcd⟩:=F.ex;exact .all (h kV doc pm an cdv ct)
theorem FunD.bindsD{T:Addr}{o:Obj}{items:Array Value}{n:Nat}{ds:List Value}(F:FunD K x qual st (.ref T) f fd)(hT:K.lookup T=some o)(hs:o.data=.seq items n)
  (h:∀(kV doc pm:Value) (an:Option Addr) (cdv ct:Value) (us:List Value),(us++ds).length=ps.length->∃k:Option (Array Value)->Sem (List (Str×Value)),bindArgs (W.fnOf x qual (zcn st) (zb2 st) (zaj st) (.ref T) kV doc pm an cdv ct) ⟨us,[]⟩=seqItems? (.ref T) >>= k/\k (some items)=pure (ps.zip (us++ds))):Binds K fd ps ds:=by
 obtain⟨oc,od,kV,doc,pm,an,cdv,ct,osl,rfl,lk,hcd⟩:=F.ex;intro s us KX hl;obtain⟨k,h1,h2⟩:=h kV doc pm an cdv ct us hl;exact BindsTo.of_defaults (T:=T) rfl (KX _ _ hT) hs h1 h2
theorem zgm{oc:Value}{od an:Option Addr}{osl:Array (Option Value)}{kV doc pm cdv ct:Value}(l:K.lookup f=some ⟨oc,od,.func (W.fnOf x qual (zcn st) (zb2 st) (zaj st) dV kV doc pm an cdv ct),osl⟩)
  (c:W.codeIn K cdv qual=true):FunD K x qual st dV f (W.fnOf x qual (zcn st) (zb2 st) (zaj st) dV kV doc pm an cdv ct):=⟨⟨oc,od,kV,doc,pm,an,cdv,ct,osl,Z,l,c⟩⟩
end
structure Cal(P:Program)(w:World)(K:W.Frag)(mg:Str->Option Value)(base:Heap)(CX:CXT)(k:Nat)(x:Str)(ps:List Str)(ds:List Value)(sp:Sp):Prop where
 ex:∃f fd,FnOk P w K mg base CX k f fd ps sp/\Binds K fd ps ds/\W.keepIn K (.ref f)=true/\mg x=some (.ref f)
structure MCal(P:Program)(w:World)(K:W.Frag)(mg:Str->Option Value)(base:Heap)(CX:CXT)(k:Nat)(C:Addr)(m:Str)(ps:List Str)(ds:List Value)(sp:Sp):Prop where
 ex:∃f fd,FnOk P w K mg base CX k f fd ps sp/\Binds K fd ps ds/\Meth K C m f
 cl:Cls K C
structure Mak(P:Program)(w:World)(K:W.Frag)(mg:Str->Option Value)(base:Heap)(CX:CXT)(k:Nat)(x:Str)(C:Addr)(ps:List Str)(ds:List Value)(sp:Sp):Prop where
 ex:∃f fd,FnOk P w K mg base CX k f fd ps sp/\Binds K fd ps ds/\Mk K C f
 at_:mg x=some (.ref C)
structure CCal(P:Program)(w:World)(K:W.Frag)(mg:Str->Option Value)(base:Heap)(CX:CXT)(k:Nat)(x:Str)(m:Str)(ps:List Str)(ds:List Value)(sp:Sp):Prop where
 ex:∃C f fd,FnOk P w K mg base CX k f fd ps sp/\Binds K fd ps ds/\CMeth K C m f/\mg x=some (.ref C)
structure Exc(K:W.Frag)(mg:Str->Option Value)(base:Heap)(x:Str)(C:Addr):Prop where
 ex:∃bm nid init B,OwnCls x C bm nid mg base/\ExcBaseFacts B nid init bm
 at_:mg x=some (.ref C)
 me:W.exmOne K (.ref C) (.ref C)=some true
theorem zap{X:Cx}:PassesS CX0 X (λ_=>E0):=λ_ _ _ _ _ _ _ h=>h.elim
theorem zof{X:Cx}{P:Program}{w:World}:PassesS (CXe P w) X (λ_=>E0):=by
 rintro _ _ _ _ _ _ _ ⟨_,_,_,_,_,_,_,_,_,_,_,_,h⟩;exact h.elim
section
variable{X:Cx}{CX:CXT}{k j:Nat}{C:Addr}{ps:List Str}{sp:Sp}{dvs:List V}{ds:List Value}{E:St->XK}{x m:Str}{p pos apos:Pos}{e o:Expr}{es:List Expr}{ta:TE}{t:TA}
theorem pe_c(c:Cal X.prog X.w X.K X.mg X.base CX k x ps ds sp)(hr:Room j X.A)(hx:PassesS CX X E)(hd:Vals dvs ds)(ha:PA X (e::es) t)(hk:k<=j:=by decide)(hg:Gl X x:=by rfl)
  (hdb:(x == ("__debug__" : Str))=false:=by decide) (he:starEach (e::es) X.env=(false,eval e X.env)::starEach es X.env:=by rfl) (hpl:(backTo pos (starEach es X.env)).any (·.1)=false:=by rfl) :
  PE X (.Call (.Name x p) (e::es) [] pos) (zli sp dvs E t):=by
 obtain⟨f,fd,F,hb,hk',hm⟩:=c.ex;exact zox F (hr.mono hk) hg hm hk' hb hd hx ha hdb he hpl
theorem pe_m{pl:Sem Bool}(c:MCal X.prog X.w X.K X.mg X.base CX k C m ps ds sp)(he:PE X o ta)(hr:Room j X.A)(hx:PassesS CX X E)(hd:Vals dvs ds)(ha:PA X (e::es) t)(hk:k<=j:=by decide)
  (hst:starEach (e::es) X.env=(false,eval e X.env)::starEach es X.env:=by rfl) (hpl:(backTo pos (starEach es X.env)).any (·.1)=false:=by rfl)
  (ht:eval (.Call (.Attribute o m apos) (e::es) [] pos) X.env=(do
   let ov <- eval o X.env
   standAt apos.atName
   let (f,first) <- holding [ov] (getMethod ov m pl)
   callWith pos f first (backTo pos (starEach (e::es) X.env)) (backToKw pos (keywordEach [] X.env))):=by rfl) :
  PE X (.Call (.Attribute o m apos) (e::es) [] pos) (zod C m sp dvs E ta t):=by
 obtain⟨f,fd,F,hb,hm⟩:=c.ex;exact zqg he c.cl hm F (hr.mono hk) hb hd hx ha hst hpl ht
theorem zce{pl:Sem Bool}(c:MCal X.prog X.w X.K X.mg X.base CX k C m ps ds sp)(he:PE X o ta)(hr:Room j X.A)(hx:PassesS CX X E)(hd:Vals dvs ds)(hk:k<=j:=by decide)
  (ht:eval (.Call (.Attribute o m apos) [] [] pos) X.env=(do
   let ov <- eval o X.env
   standAt apos.atName
   let (f,first) <- holding [ov] (getMethod ov m pl)
   callWith pos f first (backTo pos (starEach [] X.env)) (backToKw pos (keywordEach [] X.env))):=by rfl) :
  PE X (.Call (.Attribute o m apos) [] [] pos) (zod C m sp dvs E ta tNil):=by
 obtain⟨f,fd,F,hb,hm⟩:=c.ex;intro pins s σ H Q I h;refine W.methodCall_KW (pl:=pl) (thn (he pins s σ H _ I h) λu s1 ⟨x,H1,I1,rx,a,dx,fs,ex,ea,l,q⟩=>?_) ht;subst ex;obtain rfl:u=Value.ref a:=rx;refine zg7 I1 ea c.cl hm l ?_;exact W.callWith_K0 (first:=[.ref a]) I1.kIn hm.kp (zhr (us:=[.ref a]) (vs:=[.ref a]) F (hr.mono hk) hb hd hx I1 (.cons rfl .nil) q)
theorem zsc(c:Mak X.prog X.w X.K X.mg X.base CX k x C ps ds sp)(hr:Room j X.A)(hx:PassesS CX X E)(hd:Vals dvs ds)(ha:PA X (e::es) t)(hk:k+1<=j:=by decide)(hg:Gl X x:=by rfl)
  (hdb:(x == ("__debug__" : Str))=false:=by decide) (he:starEach (e::es) X.env=(false,eval e X.env)::starEach es X.env:=by rfl) (hpl:(backTo pos (starEach es X.env)).any (·.1)=false:=by rfl) :
  PE X (.Call (.Name x p) (e::es) [] pos) (zoa C sp dvs E t):=by
 obtain⟨f,fd,F,hb,hm⟩:=c.ex;exact zpa hm F (hr.mono hk) hg c.at_ hb hd hx ha hdb he hpl
theorem zuu(c:Mak X.prog X.w X.K X.mg X.base CX k x C ps ds sp)(hr:Room j X.A)(hx:PassesS CX X E)(hd:Vals dvs ds)(hk:k+1<=j:=by decide)(hg:Gl X x:=by rfl)(hdb:(x == ("__debug__" : Str))=false:=by decide) :
  PE X (.Call (.Name x p) [] [] pos) (zoa C sp dvs E tNil):=by
 obtain⟨f,fd,F,hb,hm⟩:=c.ex;intro pins s σ H Q I h;refine wpAny_Call_Name_kw (zed I hg c.at_ ?_ hdb);exact W.callWith_K0 I.kIn hm.kp (zij (us:=[]) hm F (hr.mono hk) hb hd hx I .nil h)
theorem zuk{pl:Sem Bool}(c:CCal X.prog X.w X.K X.mg X.base CX k x m ps ds sp)(hr:Room j X.A)(hx:PassesS CX X E)(hd:Vals dvs ds)(ha:PA X (e::es) t)(hk:k<=j:=by decide)(hg:Gl X x:=by rfl)
  (hdb:(x == ("__debug__" : Str))=false:=by decide) (hst:starEach (e::es) X.env=(false,eval e X.env)::starEach es X.env:=by rfl) (hpl:(backTo pos (starEach es X.env)).any (·.1)=false:=by rfl)
  (ht:eval (.Call (.Attribute (.Name x p) m apos) (e::es) [] pos) X.env=(do
   let ov <- eval (.Name x p) X.env
   standAt apos.atName
   let (f,first) <- holding [ov] (getMethod ov m pl)
   callWith pos f first (backTo pos (starEach (e::es) X.env)) (backToKw pos (keywordEach [] X.env))):=by rfl) :
  PE X (.Call (.Attribute (.Name x p) m apos) (e::es) [] pos) (zli sp dvs E t):=by
 obtain⟨C,f,fd,F,hb,hm,hmg⟩:=c.ex;exact zpq hm hg hmg F (hr.mono hk) hb hd hx ha hdb hst hpl ht
theorem zg0{np cpos:Pos}(x':Exc X.K X.mg X.base x C)(hc:X.calm=true)(hg:Gl X x)(hx:RaisesTo X E)(ha:PA X (e::es) t)(he:starEach (e::es) X.env=(false,eval e X.env)::starEach es X.env:=by rfl)(hpl:(backTo cpos (starEach es X.env)).any (·.1)=false:=by rfl)(hd:(x == ("__debug__" : Str))=false:=by decide) :
  PS X (.Raise (some (.Call (.Name x np) (e::es) [] cpos)) none pos) (zr3 C E t):=by
 obtain⟨bm,nid,init,B,O,FB⟩:=x'.ex;exact zqc O FB hc hg hx ha he hpl hd
end
theorem zek{X:Cx}{x:Str}{i:Int}{pos:Pos}(hm:∃tk,X.mg x=some (.int i tk))(hg:Gl X x)(hd:(x == ("__debug__" : Str))=false:=by decide):PE X (.Name x pos) (tC (.int i)):=by
 obtain⟨tk,e⟩:=hm;exact zhu hg e ⟨tk,Z⟩ hd
def CDivB(_ j:Int):Prop:=j≠0/\j.natAbs<2^8999
theorem zbn{X:Cx}:OpR X (binaryOp .FloorDiv) (rI CDivB λi j=>.int (i.fdiv j)):=opI λ_ j _ _ _ _ _ hc q=>floordiv_int hc.1 q (.inl (PyProof.noPylong_of_log2 (by
 have h0:j.natAbs≠0:=λz=>hc.1 (Int.natAbs_eq_zero.mp z)
 exact Yf ((Nat.log2_lt h0).mpr hc.2) (by decide))))
theorem cEq{a b:Int}{A B:Prop}(h1:a=b->A)(h2:a≠b->B):if decide (V.int a=V.int b)=true then A else B:=by
 by_cases h:a=b
 ·rw[Yo (Jt V.int h)];exact iteT (h1 h)
 ·rw[Yw λz=>h (by injection z)];exact iteF (h2 h)
theorem cNe{a b:Int}{A B:Prop}(h1:a≠b->A)(h2:a=b->B):if (!decide (V.int a=V.int b))=true then A else B:=by
 by_cases h:a=b
 ·rw[Yo (Jt V.int h)];exact iteF (h2 h)
 ·rw[Yw λz=>h (by injection z)];exact iteT (h1 h)
theorem cD{c:Prop}[Decidable c]{A B:Prop}(h1:c->A)(h2:¬c->B):if decide c=true then A else B:=by
 by_cases h:c
 ·rw[Yo h];exact iteT (h1 h)
 ·rw[Yw h];exact iteF (h2 h)
theorem cNB{b:Bool}{A B:Prop}(h1:b=false->A)(h2:b=true->B):if (!b)=true then A else B:=by
 cases b with
 | true=>exact iteF (h2 rfl)
 | false=>exact iteT (h1 rfl)
mutual
inductive Rds(K:W.Frag)(H:Hp):V->PyData->Prop
 | non:Rds K H .non .none
 | bl (b:Bool):Rds K H (.bl b) (.bool b)
 | int (i:Int):Rds K H (.int i) (.int i)
 | str (x:Str):Rds K H (.str x) (.str x)
 | tup {a:Addr} {xs:List V} {ds:List PyData}:SqT K H a xs->RdsAll K H xs ds->Rds K H (.ref a) (.tuple ds)
 | lst {a:Addr} {xs:List V} {ds:List PyData}:SqL K H a xs->RdsAll K H xs ds->Rds K H (.ref a) (.list ds)
inductive RdsAll(K:W.Frag)(H:Hp):List V->List PyData->Prop
 | nil:RdsAll K H [] []
 | cons {x:V} {xs:List V} {d:PyData} {ds:List PyData}:Rds K H x d->RdsAll K H xs ds->RdsAll K H (x::xs) (d::ds)
end
section
variable{X:Cx}{pins:List (Addr×Obj)}{σ : St}{H:Hp}{s:Shared}
mutual
theorem Inv.rds(I:Inv X pins σ H s):∀{v:V} {d:PyData} {u:Value},Rds X.K H v d->RelV v u->∃as,Reads s.heap u d as
 | _,_,_,.non,r=>by cases (show _=Value.none from r);exact⟨_,.none⟩
 | _,_,_,.bl b,r=>by cases (show _=Value.bool b from r);exact⟨_,.bool b⟩
 | _,_,_,.int i,r=>by obtain⟨t,rfl⟩:=r;exact⟨_,.int i t⟩
 | _,_,_,.str x,r=>by obtain⟨t,rfl⟩:=r;exact⟨_,.str x t⟩
 | _,_,_,.tup (a:=a) h hs,r=>by
  cases (show _=Value.ref a from r);obtain⟨its,rv,⟨o,ho,hc,n,hd⟩,_⟩:=I.tuple h;obtain⟨as,q⟩:=Inv.rdsAll I hs rv;exact⟨as,.tuple ho hc hd (by simpa using q)⟩
 | _,_,_,.lst (a:=a) h hs,r=>by
  cases (show _=Value.ref a from r);obtain⟨its,rv,p,_⟩:=I.list h;obtain⟨o,ho,hc,n,hd⟩:=p.isList;obtain⟨as,q⟩:=Inv.rdsAll I hs rv;exact⟨_,.list ho hc hd (by simpa using q)⟩
theorem Inv.rdsAll(I:Inv X pins σ H s):∀{vs:List V} {ds:List PyData} {us:List Value},RdsAll X.K H vs ds->Vals vs us->∃as,ReadsAll s.heap us ds as
 | _,_,_,.nil,.nil=>⟨_,.nil⟩
 | _,_,_,.cons h hs,.cons r rs=>by
  obtain⟨as,q⟩:=Inv.rds I h r;obtain⟨bs,p⟩:=Inv.rdsAll I hs rs;exact⟨_,.cons q p⟩
end
end
section
variable{X:Cx}
theorem zf1(hu:X.A.units+64<cLine):OpR X (compareOp .Eq) (λx y H Q=>∃d e,Rds X.K H x d/\Rds X.K H y e/\SeqAt.shaped d=true/\SeqAt.shaped e=true/\Q (.bl (PyData.eqv d e)) H):=by
 intro pins s σ H x y u v Q I rx ry h;obtain⟨d,e,hd,he,s1,s2,q⟩:=h;obtain⟨as,ra⟩:=I.rds hd rx;obtain⟨bs,rb⟩:=I.rds he ry;exact eq_dataH ra rb s1 s2 hu ⟨.bl (PyData.eqv d e),H,I,rfl,q⟩
end
theorem zld:∀ns ms:List Int,PyData.eqvAll (ns.map PyData.int) (ms.map PyData.int)=decide (ns=ms)
 | [],[]=>by simp[PyData.eqvAll]
 | [],_::_=>by simp[PyData.eqvAll]
 | _::_,[]=>by simp[PyData.eqvAll]
 | a::r,b::t=>by
  simp only[List.map_cons,PyData.eqvAll,PyData.eqv,zld r t]
  by_cases h:a=b <;> by_cases h':r=t <;> simp[h,h']
end L2
namespace L2
open PySem PySem.Spec PyProof.Rows
theorem zo6{own x:Str}{n c:Addr}{cl:List (Str×Addr)}(h:((own,n)::cl).lookup x=some c):(x=own/\c=n)\/(x≠own/\cl.lookup x=some c):=by
 rw[Jk]at h
 cases q:(x == own) with
 | true=>rw[q]at h;exact .inl ⟨Ju q,(Je h).symm⟩
 | false=>
  rw[q]at h;have nz:x≠own:=λz=>by
   rw[z,beq_self_eq_true]at q
   cases q
  exact .inr ⟨nz,h⟩
theorem zs1{own:Str}{n:Addr}{cl:List (Str×Addr)}:((own,n)::cl).lookup own=some n:=by
 rw[Jk,beq_self_eq_true]
theorem zt7{own x:Str}{n:Addr}{cl:List (Str×Addr)}(h:x≠own):((own,n)::cl).lookup x=cl.lookup x:=by
 rw[Jk]
 cases q:(x == own) with
 | true=>exact absurd (Ju q) h
 | false=>rfl
end L2
namespace L2
open PySem PySem.Spec PyProof.Rows
def SubC(cl cells:List (Str×Addr)):Prop:=∀x c,cl.lookup x=some c->cells.lookup x=some c
theorem zkb{cells:List (Str×Addr)}:SubC [] cells:=λ_ _ h=>nomatch h
theorem zfh{cl cells:List (Str×Addr)}{a:Str}{n:Addr}(h:cells.lookup a=some n)(t:SubC cl cells):SubC ((a,n)::cl) cells:=λx c e=>by
 rcases zo6 e with⟨rfl,rfl⟩ | ⟨_,e⟩
 ·exact h
 ·exact t x c e
theorem zn8:∀{cl:List (Str×Addr)} {x:Str},x∈cl.map (·.1)->∃c,cl.lookup x=some c
 | (a,n)::cl,x,h=>by
  by_cases q:x=a
  ·exact⟨n,by rw[q];exact zs1⟩
  ·rcases Yj.mp h with z | z
   ·exact absurd z q
   ·obtain⟨c,e⟩:=zn8 z;exact⟨c,(zt7 q).trans e⟩
theorem zug{names:List (Str×NameKind)}{cl:List (Str×Addr)}{fs:List Str}(e:cl.map (·.1)=fs)(h:∀y∈names,y.2=.free->y.1∈fs):∀y∈names,y.2=.free->∃c,cl.lookup y.1=some c:=
 λy hy hf=>zn8 (by rw[e];exact h y hy hf)
def MapC(X:Cx)(scope:Scope)(mp:List (Option Nat))(N:List Str):Prop:=∀(i j:Nat) (x:Str),mp[i]? = some (some j)->N[i]? = some x->X.N[j]? = some x/\(X.env.scope.names.lookup x=some .cell\/X.env.scope.names.lookup x=some .free)/\scope.names.lookup x=some .free
theorem zko{X:Cx}{scope:Scope}{N:List Str}:MapC X scope [] N:=λi j x h=>by simp at h
theorem ziy{X:Cx}{scope:Scope}{mp:List (Option Nat)}{N:List Str}{y:Str}(t:MapC X scope mp N):MapC X scope (none::mp) (y::N):=λi j x h1 h2=>by
 cases i with
 | zero=>cases h1
 | succ i=>exact t i j x (by simpa using h1) (by simpa using h2)
theorem ze6{X:Cx}{scope:Scope}{mp:List (Option Nat)}{N:List Str}{y:Str}{k:Nat}(h:X.N[k]? = some y)(hc:X.env.scope.names.lookup y=some .cell\/X.env.scope.names.lookup y=some .free)(hf:scope.names.lookup y=some .free)
  (t:MapC X scope mp N):MapC X scope (some k::mp) (y::N):=λi j x h1 h2=>by
 cases i with
 | zero=>
  simp only[List.getElem?_cons_zero,Option.some.injEq]at h1 h2
  subst h1 h2;exact⟨h,hc,hf⟩
 | succ i=>exact t i j x (by simpa using h1) (by simpa using h2)
end L2
namespace L2
open PySem PySem.Spec PyProof.Rows
structure Mk0(K:W.Frag)(C:Addr):Prop where
 makes:W.makesIn K C=true
 init:W.findIn K (.ref C) "__init__" = some (some (.builtin "object.__init__"))
 kp:W.keepIn K (.ref C)=true
def tMk0(C:Addr):TE:=λ_ H Q=>∀x dx,H x=none->H dx=none->dx≠x->Q (.ref x) (upd (upd H dx (.own x)) x (.ins C dx []))
theorem zs4{X:Cx}{C:Addr}{x:Str}{p pos:Pos}(M:Mk0 X.K C)(hm:X.mg x=some (.ref C))(hg:Gl X x:=by rfl)(hdb:(x == ("__debug__" : Str))=false:=by decide):PE X (.Call (.Name x p) [] [] pos) (tMk0 C):=by
 intro pins s σ H Q I h;refine wpAny_Call_Name_kw (zed I hg hm (W.callWith_K0 I.kIn M.kp ?_) hdb);have hq:=h (s.heap.objs.size+1) s.heap.objs.size (I.hok.fresh (Nat.le_succ _)) (I.hok.fresh (Yi _)) (Y0 (Nat.lt_succ_self _));have I2:=Inv.made (C:=C) I;refine wpAny_call (zns I.kIn M.makes M.init (λself=>W.Looks.of_pure (W.oi_bind self)) ?_);have Y:=W.makes_of (M:=model X.prog X.w) I.kIn M.makes;have e2:((s.heap.push W.emptyDict).push (W.instObj C s.heap.objs.size)).get? (s.heap.objs.size+1)=some (W.instObj C s.heap.objs.size):=by
  have:=Yk (s.heap.push W.emptyDict) (o:=W.instObj C s.heap.objs.size) rfl;rwa [Heap.size_push]at this
 have t1:W.Looks (model X.prog X.w) ((s.heap.push W.emptyDict).push (W.instObj C s.heap.objs.size)) (typeOf (.ref (s.heap.objs.size+1))) (.ref C):=(W.Looks.ld e2).andThen .now;have t2:W.Looks (model X.prog X.w) ((s.heap.push W.emptyDict).push (W.instObj C s.heap.objs.size)) (isInstance (.ref (s.heap.objs.size+1)) (.type "object")) true:=
  t1.andThen (Y.top.keeps λb o e=>Ye _ (Ye _ e))
 refine codeAny_call_builtin W.oi_plain W.entry_oi (@W.check_slot (model X.prog X.w) _ _ _ "object.__init__" "object" "__init__" (.ref (s.heap.objs.size+1)) [] [] _ W.oi_kind W.oi_split t2 (W.oi_args (.ref (s.heap.objs.size+1))) ?_);rw[W.oi_run];exact Yb (And.intro rfl ⟨.ref (s.heap.objs.size+1),_,I2,Z,hq⟩)
end L2
namespace L2
open PySem PySem.Spec PyProof.Rows
abbrev yes2:Int->Int->Bool:=λ_ _=>true
theorem zrv(φ : Int->Int->Int)(xs ys:List Int):zipV yes2 (λx y=>.int (φ x y)) xs ys=(List.zipWith φ xs ys).map V.int:=by
 unfold zipV;rw[Yu.mpr (λ_ _=>Z)];refine List.ext_getElem? λi=>?_
 rw[Ym,Ym,List.getElem?_zipWith];by_cases h:i<min xs.length ys.length
 ·have h1:i<xs.length:=by omega
  have h2:i<ys.length:=by omega
  rw[List.getElem?_range h,Yc h1,Yc h2];simp[List.getD,h1,h2]
 ·rw[Yy (by simpa using h)];rcases Jf i xs.length with q | q
  ·rw[Yy (l:=ys) (by omega)]
   cases xs[i]? <;> rfl
  ·rw[Yy (l:=xs) q];rfl
end L2
namespace L2
open PySem PySem.Spec PyProof.Rows
def zo9(K:W.Frag):List V->Hp->VK->Prop:=λxs H Q=>∃p ys,xs=[.ref p]/\((SqL K H p ys/\∀l,H l=none->Q (.ref l) (upd H l (.tup ys)))\/(SqT K H p ys/\Q (.ref p) H))
def ztv(K:W.Frag):List V->Hp->VK->Prop:=λxs H Q=>∃p ys,xs=[.ref p]/\(SqL K H p ys\/SqT K H p ys)/\Q (.int ys.length) H
def zuc(K:W.Frag):List V->Hp->VK->Prop:=λxs H Q=>∃x y t c b,xs=[x,y]/\clV y=some c/\TyOf K H x t/\W.kitOne K t c=some b/\Q (.bl b) H
section
variable{X:Cx}{K:W.Frag}
theorem zcz(hK:X.K=K):CallR X (.type "tuple") (zo9 K):=by subst hK;exact zhj
theorem zeg(hK:X.K=K):CallR X (.builtin "len") (ztv K):=by subst hK;exact zir
theorem zb6(hK:X.K=K):CallR X (.builtin "isinstance") (zuc K):=by subst hK;exact zjv
theorem za4{e:Expr}{f:Str}{pos:Pos}{ta:TE}(hK:X.K=K)(he:PE X e ta)(hb:attributeBase e f X.env (eval e X.env)=eval e X.env):PE X (.Attribute e f pos) (tFld K ta f):=by subst hK;exact zwb he hb
theorem zh3{tg l:Expr}{tl:TE}(hK:X.K=K)(hl:PE X l tl):PI X tg l (zu4 K tl):=by subst hK;exact zud hl
theorem zua{tg l:Expr}{tl:TE}(hK:X.K=K)(hl:PE X l tl):PI X tg l (iTup K tl):=by subst hK;exact zxe hl
theorem zne{es:List Expr}{ek:Nat}{tpos p pos:Pos}(hK:X.K=K)(b1 b2:Bool){e1 e2:Expr}{ta:TA}(hg:Gl X "zip")(hm:X.mg "zip" = none)(ha:PA X [e1,e2] ta)
  (he:starEach [e1,e2] X.env=(false,eval e1 X.env)::starEach [e2] X.env:=by rfl) (hpl:(backTo pos (starEach [e2] X.env)).any (·.1)=false:=by rfl) :
  PI X (.Tuple es ek tpos) (.Call (.Name "zip" p) [e1,e2] [] pos) (iZip K b1 b2 ta):=by subst hK;exact zxf b1 b2 hg hm ha he hpl
theorem zh1(hK:X.K=K):SlR X (rSlL K):=by subst hK;exact ztg
end
end L2
set_option Elab.async false
set_option linter.all false
set_option maxRecDepth 100000
set_option Elab.async false
set_option linter.all false
set_option maxRecDepth 100000
set_option Elab.async false
set_option linter.all false
set_option maxRecDepth 100000
namespace L2
open PySem PySem.Spec PyProof.Rows
section
variable{κ : Type}[DecidableEq κ]
def valV(kvs:List (κ×V))(k : κ):Option V:=(kvs.find? λkv=>decide (kv.1=k)).map (·.2)
def putK(kvs:List (κ×V))(k : κ)(v:V):List (κ×V):=
 if (kvs.any λkv=>decide (kv.1=k))=true then kvs.map (λkv=>if kv.1=k then(kv.1,v) else kv) else kvs++[(k,v)]
def zf7(kvs:List (κ×V))(k : κ):List (κ×V):=kvs.filter λkv=>decide (kv.1≠k)
theorem zpi{k : κ}:valV ([]:List (κ×V)) k=none:=rfl
theorem zbj{p : κ×V}{r:List (κ×V)}{k : κ}(e:p.1=k):valV (p::r) k=some p.2:=by simp[valV,List.find?_cons,e]
theorem zbi{p : κ×V}{r:List (κ×V)}{k : κ}(e:¬p.1=k):valV (p::r) k=valV r k:=by simp[valV,List.find?_cons,e]
theorem zel(k : κ):∀kvs:List (κ×V),(kvs.any λkv=>decide (kv.1=k))=(valV kvs k).isSome
 | []=>rfl
 | p::r=>by
  rw[List.any_cons];by_cases e:p.1=k
  ·simp only[zbj e,decide_eq_true e,Bool.true_or,Option.isSome_some]
  ·rw[zbi e,Yw e,Bool.false_or];exact zel k r
theorem zkx(k j : κ)(y:V):∀kvs:List (κ×V),valV (kvs.map λkv=>if kv.1=k then(kv.1,y) else kv) j=(valV kvs j).map λx=>if j=k then y else x
 | []=>rfl
 | p::r=>by
  have ih:=zkx k j y r;rw[Yz];by_cases h:p.1=k
  ·rw[Yl h];by_cases e:p.1=j
   ·rw[zbj (p:=(p.1,y)) e,zbj e,Option.map_some,Yl (e.symm.trans h)]
   ·rw[zbi (p:=(p.1,y)) e,zbi e,ih]
  ·rw[Yh h];by_cases e:p.1=j
   ·rw[zbj (p:=p) e,zbj e,Option.map_some,Yh (λz=>h (e.trans z))]
   ·rw[zbi (p:=p) e,zbi e,ih]
theorem zi9(k j : κ)(y:V):∀kvs:List (κ×V),valV kvs k=none->valV (kvs++[(k,y)]) j=if j=k then some y else valV kvs j
 | [],_=>by
  by_cases e:k=j
  ·rw[Yl e.symm];exact zbj (p:=(k,y)) e
  ·rw[Yh (λz=>e z.symm)];exact zbi (p:=(k,y)) e
 | p::r,hn=>by
  rw[List.cons_append];have hk:¬p.1=k:=λz=>by rw[zbj z]at hn;cases hn
  rw[zbi hk]at hn;have ih:=zi9 k j y r hn;by_cases e:p.1=j
  ·rw[zbj e,zbj e,Yh (λz=>hk (e.trans z))]
  ·rw[zbi e,zbi e,ih]
theorem zlb(kvs:List (κ×V))(k j : κ)(y:V):valV (putK kvs k y) j=if j=k then some y else valV kvs j:=by
 unfold putK;by_cases a:(kvs.any λkv=>decide (kv.1=k))=true
 ·rw[Yl a,zkx];rw[zel]at a;by_cases e:j=k
  ·obtain⟨x,hx⟩:=Option.isSome_iff_exists.mp a;rw[Yl e,e,hx,Option.map_some,Yl rfl]
  ·rw[Yh e]
   cases valV kvs j with
   | none=>rfl
   | some x=>rw[Option.map_some,Yh e]
 ·rw[Yh a];refine zi9 k j y kvs ?_;rw[zel]at a
  cases q:valV kvs k with
  | none=>rfl
  | some x=>rw[q]at a;exact(a rfl).elim
theorem zbs(kvs:List (κ×V))(k : κ)(v:V):(putK kvs k v).length<=kvs.length+1:=by
 unfold putK;split
 ·rw[Yd];omega
 ·rw[Y6,Y5,List.length_nil];omega
theorem RelO.isSome_eq{o:Option V}{u:Option Value}(r:RelO o u):o.isSome=u.isSome:=by
 cases o with
 | none=>cases u with
  | none=>rfl
  | some _=>exact(show False from r).elim
 | some _=>cases u with
  | none=>exact(show False from r).elim
  | some _=>rfl
theorem RelO.getD{o:Option V}{u:Option Value}{d:V}{d':Value}(r:RelO o u)(rd:RelV d d'):RelV (o.getD d) (u.getD d'):=by
 cases o with
 | none=>cases u with
  | none=>exact rd
  | some _=>exact(show False from r).elim
 | some _=>cases u with
  | none=>exact(show False from r).elim
  | some _=>exact r
theorem KV.val{kvs:List (κ×V)}{vs:List (κ×Value)}(r:KV kvs vs)(k : κ):RelO (valV kvs k) (valueAt vs k):=by
 unfold KV at r;induction r with
 | nil=>exact True.intro
 | @cons p q ps qs h t ih=>
  obtain⟨h1,h2⟩:=h;by_cases e:p.1=k
  ·have e':q.1=k:=h1.symm.trans e;have b:valueAt (q::qs) k=some q.2:=by simp[valueAt,List.find?_cons,e']
   rw[zbj e,b];exact h2
  ·have e':¬q.1=k:=λz=>e (h1.trans z)
   have b:valueAt (q::qs) k=valueAt qs k:=by simp[valueAt,List.find?_cons,e']
   rw[zbi e,b];exact ih
theorem KV.any{kvs:List (κ×V)}{vs:List (κ×Value)}(r:KV kvs vs)(k : κ):(kvs.any λkv=>decide (kv.1=k))=vs.any λkv=>decide (kv.1=k):=by
 unfold KV at r;induction r with
 | nil=>rfl
 | cons h t ih=>rw[List.any_cons,List.any_cons,ih,h.1]
theorem KV.repl{kvs:List (κ×V)}{vs:List (κ×Value)}(r:KV kvs vs)(k : κ){y:V}{u:Value}(ry:RelV y u) :
  KV (kvs.map λkv=>if kv.1=k then(kv.1,y) else kv) (vs.map λkv=>if kv.1=k then(kv.1,u) else kv):=by
 unfold KV at r ⊢;induction r with
 | nil=>exact .nil
 | @cons p q ps qs h t ih=>
  rw[Yz,Yz];refine .cons ?_ ih;obtain⟨h1,h2⟩:=h;by_cases e:p.1=k
  ·rw[Yl e,Yl (h1.symm.trans e)];exact⟨h1,ry⟩
  ·rw[Yh e,Yh (λz=>e (h1.trans z))];exact⟨h1,h2⟩
theorem KV.put{kvs:List (κ×V)}{vs:List (κ×Value)}(r:KV kvs vs)(k : κ){y:V}{u:Value}(ry:RelV y u):KV (putK kvs k y) (stored vs k u):=by
 unfold putK stored;rw[r.any k];by_cases e:(vs.any λkv=>decide (kv.1=k))=true
 ·rw[Yl e,Yl e];exact r.repl k ry
 ·rw[Yh e,Yh e];exact Paired.snoc r ⟨Z,ry⟩
theorem KV.length{kvs:List (κ×V)}{vs:List (κ×Value)}(r:KV kvs vs):kvs.length=vs.length:=Paired.length r
theorem zhm(kvs:List (κ×V))(k : κ):(zf7 kvs k).length<=kvs.length:=List.length_filter_le _ _
end
theorem znt{P:Program}{w:World}{k:Key}{u:Value}(r:RelV (kV k) u):(za8 P w).is k u=true:=by
 cases k with
 | inl i=>obtain⟨t,e⟩:=(show ∃t,u=Value.int i t from r);subst e;exact zj6 P w i t
 | inr x=>obtain⟨t,e⟩:=(show ∃t,u=Value.str x t from r);subst e;exact zj3 P w x t
theorem zit{P:Program}{w:World}:∀{ks:List Key} {us:List Value},Vals (ks.map kV) us->ItemsAre (za8 P w) ks us
 | [],_,r=>by rw[List.map_nil]at r;cases r;exact .nil
 | k::ks,_,r=>by
  rw[Yz]at r
  cases r with
  | cons h t=>exact .cons (znt h) (zit t)
abbrev KT(H:Hp):List (List Key×V)->List (List Key×Addr×Value)->Prop:=Paired λp q=>p.1=q.1/\H q.2.1=some (.tup (p.1.map kV))/\RelV p.2 q.2.2
theorem KT.val{H:Hp}{kvs:List (List Key×V)}{xs:List (List Key×Addr×Value)}(r:KT H kvs xs)(k:List Key):RelO (valV kvs k) ((atKey xs k).map (·.2)):=by
 induction r with
 | nil=>exact True.intro
 | @cons p q ps qs h t ih=>
  obtain⟨h1,_,h2⟩:=h;by_cases e:p.1=k
  ·have e':q.1=k:=h1.symm.trans e;have b:atKey (q::qs) k=some q.2:=by simp[atKey,List.find?_cons,e']
   rw[zbj e,b];exact h2
  ·have e':¬q.1=k:=λz=>e (h1.trans z)
   have b:atKey (q::qs) k=atKey qs k:=by simp[atKey,List.find?_cons,e']
   rw[zbi e,b];exact ih
theorem KT.repl{H:Hp}{kvs:List (List Key×V)}{xs:List (List Key×Addr×Value)}(r:KT H kvs xs)(k:List Key){y:V}{u:Value}(ry:RelV y u) :
  KT H (kvs.map λkv=>if kv.1=k then(kv.1,y) else kv) (xs.map (putAt k u)):=by
 induction r with
 | nil=>exact .nil
 | @cons p q ps qs h t ih=>
  rw[Yz,Yz];refine .cons ?_ ih;obtain⟨h1,h2,h3⟩:=h;unfold putAt;by_cases e:p.1=k
  ·rw[Yl e,Yl (h1.symm.trans e)];exact⟨h1,h2,ry⟩
  ·rw[Yh e,Yh (λz=>e (h1.trans z))];exact⟨h1,h2,h3⟩
theorem KT.put{H:Hp}{kvs:List (List Key×V)}{xs:List (List Key×Addr×Value)}(r:KT H kvs xs)(k:List Key){b:Addr}{y:V}{u:Value}(hb:H b=some (.tup (k.map kV)))(ry:RelV y u) :
  KT H (putK kvs k y) (storedH xs k b u):=by
 have e:(kvs.any λkv=>decide (kv.1=k))=(atKey xs k).isSome:=by
  rw[zel,(r.val k).isSome_eq,Option.isSome_map]
 unfold putK storedH;rw[e];by_cases q:(atKey xs k).isSome=true
 ·rw[Yl q,Yl q];exact r.repl k ry
 ·rw[Yh q,Yh q];exact Paired.snoc r ⟨Z,hb,ry⟩
theorem KT.keeps{H H':Hp}{kvs:List (List Key×V)}{xs:List (List Key×Addr×Value)}(r:KT H kvs xs)(ht:∀b ys,H b=some (.tup ys)->H' b=some (.tup ys)):KT H' kvs xs:=
 Paired.mapP r λ_ _ z=>⟨z.1,ht _ _ z.2.1,z.2.2⟩
section
variable{P:Program}{w:World}{H:Hp}{h:Heap}{a:Addr}
theorem zu9{u:HO}(ok:HOk P w H h)(e:Rd H a u):ObjOk P w H h a u:=e.ok ok
theorem zlj{kvs:List (Key×V)}(ok:HOk P w H h)(e:Rd H a (.dK kvs)):kvs.length<=sizeLine/\(a == sysModules)=false/\∃vs,KV kvs vs/\h.DictOf (za8 P w) a vs:=
 show ObjOk P w H h a (.dK kvs) from zu9 ok e
theorem zyk{kvs:List (Key×V)}(ok:HOk P w H h)(e:H a=some (.dK kvs)):kvs.length<=sizeLine/\(a == sysModules)=false/\∃vs,KV kvs vs/\h.DictOf (za8 P w) a vs:=zlj ok (.inl e)
theorem zgz{ks:List Key}(ok:HOk P w H h)(e:H a=some (.tup (ks.map kV))):(tupleKind (za8 P w)).is h ks a:=by
 obtain⟨_,its,r,o,h1,h2,n,h3⟩:=(show ObjOk P w H h a (.tup (ks.map kV)) from ok a _ e);exact⟨o,its.toArray,n,h1,h2,h3,by simpa using zit r⟩
theorem zhd{kvs:List (List Key×V)}(ok:HOk P w H h)(e:Rd H a (.dT kvs)):kvs.length<=sizeLine/\(a == sysModules)=false /\
  ∃xs,KT H kvs xs/\h.DictOfH (tupleKind (za8 P w)) a xs:=by
 obtain⟨z,y,xs,r,o,es,ep,h1,h2,h3,h4,h5⟩:=(show ObjOk P w H h a (.dT kvs) from zu9 ok e);refine⟨z,y,xs,r,o,es,ep,h1,h2,h3,h4,λx hx=>?_,h5⟩;have all:∀{l:List (List Key×V)} {m:List (List Key×Addr×Value)},KT H l m->∀x∈m,(tupleKind (za8 P w)).is h x.1 x.2.1:=by
  intro l m q;induction q with
  | nil=>intro x hx;exact nomatch hx
  | @cons p q ps qs hq t ih=>
   intro x hx;rcases Yj.mp hx with e | hx
   ·subst e;exact zgz ok (by rw[<- hq.1];exact hq.2.1)
   ·exact ih x hx
 exact all r x hx
theorem zpv{kvs:List (List Key×V)}(ok:HOk P w H h)(e:H a=some (.dT kvs)):kvs.length<=sizeLine/\(a == sysModules)=false /\
  ∃xs,KT H kvs xs/\h.DictOfH (tupleKind (za8 P w)) a xs:=zhd ok (.inl e)
end
def DGet(H:Hp)(a:Addr)(y:V)(r:Option V):Prop:=
 (∃kvs k,Rd H a (.dK kvs)/\y=kV k/\r=valV kvs k)\/∃kvs k b,Rd H a (.dT kvs)/\y=.ref b/\H b=some (.tup (k.map kV))/\r=valV kvs k
def DPut(H:Hp)(a:Addr)(y v:V)(H':Hp):Prop:=
 (∃kvs k,H a=some (.dK kvs)/\y=kV k/\kvs.length<sizeLine/\H'=upd H a (.dK (putK kvs k v))) \/
 ∃kvs k b,H a=some (.dT kvs)/\y=.ref b/\H b=some (.tup (k.map kV))/\kvs.length<sizeLine/\H'=upd H a (.dT (putK kvs k v))
theorem DGet.t{H:Hp}{a b:Addr}{kvs:List (List Key×V)}{k:List Key}(e:H a=some (.dT kvs))(eb:H b=some (.tup (k.map kV))):DGet H a (.ref b) (valV kvs k):=.inr ⟨kvs,k,b,.inl e,Z,eb,Z⟩
theorem DPut.t{H:Hp}{a b:Addr}{kvs:List (List Key×V)}{k:List Key}{v:V}(e:H a=some (.dT kvs))(eb:H b=some (.tup (k.map kV)))(hl:kvs.length<sizeLine) :
  DPut H a (.ref b) v (upd H a (.dT (putK kvs k v))):=.inr ⟨kvs,k,b,e,Z,eb,hl,Z⟩
section
variable{X:Cx}{pins:List (Addr×Obj)}{σ : St}{H:Hp}{s:Shared}{a:Addr}{y v:V}{u r:Value}{o:Option V}{A:Around}{E:Value->Shared->Prop}
theorem Inv.big(I:Inv X pins σ H s):sysModules<s.heap.objs.size:=by
 have h:mainGlobals<s.heap.objs.size:=(I.mod.glob.keeps I.bk).lt;exact Nat.lt_trans (by decide) h
theorem zoe{Q:Value->Shared->Prop}(hu:A.units+1<cLine)(I:Inv X pins σ H s)(g:DGet H a y (some v))(ry:RelV y u)(h:∀w' s',Inv X pins σ H s'->RelV v w'->Q w' s') :
  wpAny (model X.prog X.w) A (getItem (.ref a) u) Q E s:=by
 rcases g with⟨kvs,k,e,ey,l⟩ | ⟨kvs,k,b,e,ey,eb,l⟩
 ·subst ey;obtain⟨z,hd,vs,rel,dd⟩:=zlj I.hok e;obtain⟨w',hw,rw'⟩:=RelO.some_of (v:=v) (o:=valueAt vs k) (by rw[l];exact rel.val k);exact wpAny_getItem_of (znt ry) dd.mapOf hw (h w' _ (I.tok _) rw')
 ·subst ey
  cases (show u=Value.ref b from ry);obtain⟨z,hd,xs,rel,dd⟩:=zhd I.hok e;obtain⟨w',hw,rw'⟩:=RelO.some_of (v:=v) (o:=(atKey xs k).map (·.2)) (by rw[l];exact rel.val k);obtain⟨p,hp,hp2⟩:=Option.map_eq_some_iff.mp hw;refine wpAny_getItem_heap (tupleKind_room_in1 hu) (zgz I.hok eb) dd hp ?_;rw[hp2];exact h w' _ (I.tok _) rw'
theorem d_in{Q:Value->Shared->Prop}(hu:A.units+1<cLine)(I:Inv X pins σ H s)(g:DGet H a y o)(ry:RelV y u)(h:∀s',Inv X pins σ H s'->Q (.bool o.isSome) s') :
  wpAny (model X.prog X.w) A (compareOp .In u (.ref a)) Q E s:=by
 rcases g with⟨kvs,k,e,ey,l⟩ | ⟨kvs,k,b,e,ey,eb,l⟩
 ·subst ey;obtain⟨z,hd,vs,rel,dd⟩:=zlj I.hok e;refine wpAny_in_of (znt ry) hd dd.mapOf ?_;rw[<- (rel.val k).isSome_eq,<- l];exact h _ (I.tok _)
 ·subst ey
  cases (show u=Value.ref b from ry);obtain⟨z,hd,xs,rel,dd⟩:=zhd I.hok e;refine wpAny_in_heap (tupleKind_room_in1 hu) (zgz I.hok eb) hd dd ?_;have q:=(rel.val k).isSome_eq;rw[Option.isSome_map]at q;rw[<- q,<- l];exact h _ (I.tok _)
theorem zh0{h':Heap}{t':Nat}{ob:HO}(I:Inv X pins σ H s)(mu:Mut (H a))(hs:Heap.SameBut a s.heap h')(he:∃q,h'.get? a=some q)(new:ObjOk X.prog X.w (upd H a ob) h' a ob) :
  Inv X pins σ (upd H a ob) { s with heap:=h',toks:=t' }:=
 I.write (x:=a) (e:=a) mu (.inl rfl) (λb q hb z=>(hs.2 b hb).trans z) he new
theorem zv4{P:Program}{w:World}{H':Hp}{h':Heap}{kvs:List (Key×V)}{vs:List (Key×Value)}(z:kvs.length<=sizeLine)(hd:(a == sysModules)=false)(rel:KV kvs vs)(dd:h'.DictOf (za8 P w) a vs) :
  ObjOk P w H' h' a (.dK kvs):=⟨z,hd,vs,rel,dd⟩
theorem znm{H':Hp}{Q:Unit->Shared->Prop}(hu:A.units+1<cLine)(I:Inv X pins σ H s)(g:DPut H a y v H')(ry:RelV y u)(rv:RelV v r)(h:∀s',Inv X pins σ H' s'->Q () s') :
  wpAny (model X.prog X.w) A (setItem (.ref a) u r) Q E s:=by
 rcases g with⟨kvs,k,e,ey,l,eH⟩ | ⟨kvs,k,b,e,ey,eb,l,eH⟩
 ·subst ey eH;obtain⟨z,hd,vs,rel,dd⟩:=zyk I.hok e;have hz:vs.length<=sizeLine:=by rw[<- rel.length];exact z
  have hl:(putK kvs k v).length<=sizeLine:=by have:=zbs kvs k v;omega
  refine wpAny_setItem_pairs (hsz:=hz) (znt ry) dd λh' dd' hs=>h _ ?_
  have he:∃q,h'.get? a=some q:=let ⟨q,_,_,hq,_⟩:=dd';⟨q,hq⟩;exact zh0 I (by rw[e];exact True.intro) hs he (zv4 hl hd (rel.put k rv) dd')
 ·subst ey eH
  cases (show u=Value.ref b from ry);obtain⟨z,hd,xs,rel,dd⟩:=zpv I.hok e;have hz:xs.length<=sizeLine:=by rw[<- Paired.length rel];exact z
  have hl:(putK kvs k v).length<=sizeLine:=by have:=zbs kvs k v;omega
  refine wpAny_setItem_heap (hsz:=hz) (tupleKind_room_in1 hu) (zgz I.hok eb) dd λh' dd' hs=>h _ ?_
  obtain⟨q,es,ep,hq,h2,h3,h4,_,h5⟩:=dd';refine zh0 I (by rw[e];exact True.intro) hs ⟨q,hq⟩ ⟨hl,hd,_,(rel.put k eb rv).keeps λc ys ec=>?_,q,es,ep,hq,h2,h3,h4,h5⟩;rw[zal (zep ec e (λz=>nomatch z))];exact ec
end
def NoSl(i:Expr):Prop:=∀ov iv,subscripted i false ov iv=operate [ov,iv] (getItem ov iv)
theorem ztn{prog:Program}{w:World}{A:Around}{E:Value->Shared->Prop}{s:Shared}{env:Env}{value slice:Expr}{pos:Pos}{T id:String}{Q:Value->Shared->Prop}
  (hl:typeLookup (.type T) "__getitem__" = pure (some (.builtin id))) (hs:NoSl slice)
  (h:wpAny (model prog w) A (eval value env) (λo s₁=>wpAny (model prog w) A (eval slice env) (λi s₂=>s₂.TypeIs o T/\wpAny (model prog w) A (getItem o i) Q E s₂) E s₁) E s) :
  wpAny (model prog w) A (eval (.Subscript value slice pos) env) Q E s:=by
 refine Subscript_ (wpAny_mono h (λo s₁ h₁=>wpAny_mono h₁ (λi s₂ h₂=>?_) λ_ _ x=>x) λ_ _ x=>x);obtain⟨hT,h₂⟩:=h₂;unfold subscriptTail;refine Ya ?_;rw[getitemInPython_of_ne hT.not_modules];refine Ya (wpAny_specialOf hT hl ?_);have fin:wpAny (model prog w) A (subscripted slice false o i) (λr s₃=>wpAny (model prog w) A (letTemporaryGo value o r >>= λ_=>pure r) Q E s₃) E s₂:=by
  rw[hs o i];exact wpAny_operating (wpAny_mono h₂ (λr s₃ h₃=>Ya (wpAny_letTemporaryGo (Yb h₃))) λ_ _ x=>x)
 first
  | exact Yb (Ya fin)
  | exact Ya (Yb (Ya fin))
  | exact Ya fin
theorem zjz{X:Cx}{pins:List (Addr×Obj)}{σ : St}{H:Hp}{s:Shared}{a:Addr}{y:V}{o:Option V}(I:Inv X pins σ H s)(g:DGet H a y o):s.TypeIs (.ref a) "dict":=by
 rcases g with⟨kvs,k,e,_,_⟩ | ⟨kvs,k,b,e,_,_,_⟩
 ·obtain⟨_,_,vs,_,dd⟩:=zlj I.hok e;exact dd.typeIs
 ·obtain⟨_,_,xs,_,dd⟩:=zhd I.hok e;exact dd.typeIs
def zx8(td ty:TE):TE:=λσ H Q=>td σ H λx H1=>ty σ H1 λy H2=>∃a v,x=.ref a/\DGet H2 a y (some v)/\Q v H2
def tDIn(ty td:TE):TE:=λσ H Q=>ty σ H λy H1=>td σ H1 λx H2=>∃a o,x=.ref a/\DGet H2 a y o/\Q (.bl o.isSome) H2
def zy5(td ty tv:TE):TS:=λD σ H=>tv σ H λv H1=>td σ H1 λx H2=>ty σ H2 λy H3=>∃a H4,x=.ref a/\DPut H3 a y v H4/\D.nx σ H4
section
variable{X:Cx}{o i e value:Expr}{pos pos' tpos:Pos}{td ty tv:TE}
theorem zsz(hu:X.A.units+1<cLine)(ho:PE X o td)(hi:PE X i ty)(hs:NoSl i):PE X (.Subscript o i pos) (zx8 td ty):=by
 intro pins s σ H Q I h;refine ztn PySem.F.slot_dict_getitem.lookup hs (thn (ho pins s σ H _ I h) λu s1 ⟨x,H1,I1,rx,q1⟩=>thn (hi pins s1 σ H1 _ I1 q1) λiv s2 ⟨y,H2,I2,ry,a,v,ex,g,q2⟩=>?_);subst ex;obtain rfl:u=Value.ref a:=rx;exact⟨zjz I2 g,zoe hu I2 g ry λw' s3 I3 rw'=>⟨v,H2,I3,rw',q2⟩⟩
theorem zw5(hu:X.A.units+1<cLine)(hi:PE X i ty)(ho:PE X o td):PC X .In i o (tDIn ty td):=by
 intro pins s σ H Q I h;refine thn (hi pins s σ H _ I h) λiv s1 ⟨y,H1,I1,ry,q1⟩=>thn (ho pins s1 σ H1 _ I1 q1) λu s2 ⟨x,H2,I2,rx,a,ov,ex,g,q2⟩=>?_
 subst ex;obtain rfl:u=Value.ref a:=rx;exact d_in hu I2 g ry λs3 I3=>⟨.bl ov.isSome,H2,I3,Z,q2⟩
theorem zhh(hu:X.A.units+1<cLine)(ho:PE X o td)(hi:PE X i ty)(hv:PE X value tv)(hs:swapsWith value (some (.Subscript o i pos')) pos.line X.env=pure false) :
  PS X (.Assign [.Subscript o i pos'] value pos) (zy5 td ty tv):=by
 intro pins s σ H D I h;refine wpAny_Assign_Subscript (thn (hv pins s σ H _ I h) λr s1 ⟨v,H1,I1,rv,q1⟩=>thn (ho pins s1 σ H1 _ I1 q1) λu s2 ⟨x,H2,I2,rx,q2⟩=>thn (hi pins s2 σ H2 _ I2 q2) λiv s3 ⟨y,H3,I3,ry,a,H4,ex,g,q3⟩=>?_) hs;subst ex;obtain rfl:u=Value.ref a:=rx;exact znm hu I3 g ry rv λs4 I4=>⟨σ,H4,I4,q3⟩
end
theorem zkj{P:Program}{w:World}{H:Hp}(h:Heap)(hb:sysModules<h.objs.size):ObjOk P w H (h.push { cls:=.type "dict",data:=.dict #[] }) h.objs.size (.dT []):=
 ⟨Y2 _,beq_eq_false_iff_ne.mpr (Jb (Y0 hb)),[],.nil,_,#[],0,Yk _ rfl,⟨Z,Z,Z⟩,Z,Z,List.nodup_nil⟩
def zu5:TE:=λ_ H Q=>∀p,H p=none->Q (.ref p) (upd H p (.dT []))
section
variable{X:Cx}{pos:Pos}
theorem zcm:PE X (.Dict [] [] pos) zu5:=λpins s σ H Q I h=>
 wpAny_Dict_empty ⟨.ref s.heap.objs.size,_,I.laid (a:=s.heap.objs.size) (o:=.dT []) (t':=s.toks) (λ_ _ q=>Ye _ q) (Yi _) (zkj s.heap I.big),Z,h _ (I.hok.fresh (Yi _))⟩
end
def zrj:List (TE×TE)->St->Hp->(List (V×V)->Hp->Prop)->Prop
 | [],_,H,Q=>Q [] H
 | (tk,tv)::r,σ,H,Q=>tk σ H λx H1=>tv σ H1 λy H2=>zrj r σ H2 λps H3=>Q ((x,y)::ps) H3
abbrev VV:List (V×V)->List (Value×Value)->Prop:=Paired λp q=>RelV p.1 q.1/\RelV p.2 q.2
def PPs(X:Cx)(pos:Pos)(keys:List (Option Expr))(values:List Expr)(trs:List (TE×TE)):Prop:=
 ∀(pins:List (Addr×Obj)) (s:Shared) (σ : St) (H:Hp) (Q:List (V×V)->Hp->Prop),Inv X pins σ H s->zrj trs σ H Q ->
  wpAny (model X.prog X.w) X.A (evalPairs (pairTrees keys values X.env pos)) (λvs s'=>∃ps H',Inv X pins σ H' s'/\VV ps vs/\Q ps H') X.xe s
theorem ztp{X:Cx}{pos:Pos}:PPs X pos [] [] []:=λpins s σ H Q I h=>pairTrees_nil_walk ⟨[],H,I,.nil,h⟩
theorem zp5{X:Cx}{pos:Pos}{k v:Expr}{ks:List (Option Expr)}{vs:List Expr}{tk tv:TE}{trs:List (TE×TE)}(hk:PE X k tk)(hv:PE X v tv)(hr:PPs X pos ks vs trs) :
  PPs X pos (some k::ks) (v::vs) ((tk,tv)::trs):=λpins s σ H Q I h=>
 pairTrees_cons_walk (thn (hk pins s σ H _ I h) λu s1 ⟨x,H1,I1,rx,q1⟩=>thn (hv pins s1 σ H1 _ I1 q1) λw2 s2 ⟨y,H2,I2,ry,q2⟩=>
  thn (hr pins s2 σ H2 _ I2 q2) λws s3 ⟨ps,H3,I3,rel,q3⟩=>⟨(x,y)::ps,H3,I3,.cons ⟨rx,ry⟩ rel,q3⟩)
structure M2(X:Cx)(o:Expr)(m:Str)(apos:Pos)(e f:Expr)(cpos:Pos):Prop where
 base:attributeBase o m X.env (eval o X.env)=eval o X.env
 few:((backTo cpos (starEach [e,f] X.env)).all (λx => !x.1)&&(backToKw cpos (keywordEach [] X.env)).all (λx=>x.1.isSome)
  && decide (([e,f]:List Expr).length+([]:List Keyword).length+(if ([]:List Keyword).isEmpty then 0 else 1)<30))=true
 line:(apos.endLine == cpos.line)=true
 trees:backTo cpos (starEach [e,f] X.env)=[(false,eval e X.env),(false,eval f X.env)]
def IsD(H:Hp)(a:Addr):Prop:=(∃kvs,Rd H a (.dK kvs))\/∃kvs,Rd H a (.dT kvs)
theorem zww{X:Cx}{pins:List (Addr×Obj)}{σ : St}{H:Hp}{s:Shared}{a:Addr}(I:Inv X pins σ H s)(d:IsD H a) :
  s.TypeIs (.ref a) "dict"/\(∀b,Value.ref a=.ref b->∃ob,s.heap.get? b=some ob/\ob.dict=none)/\(a == sysModules)=false:=by
 rcases d with⟨kvs,e⟩ | ⟨kvs,e⟩
 ·obtain⟨_,hd,vs,_,dd⟩:=zlj I.hok e;refine⟨dd.typeIs,λb q=>?_,hd⟩
  cases q;obtain⟨ob,_,_,h1,h2,_⟩:=dd;exact⟨ob,h1,h2.2.1⟩
 ·obtain⟨_,hd,xs,_,dd⟩:=zhd I.hok e;refine⟨dd.typeIs,λb q=>?_,hd⟩
  cases q;obtain⟨ob,_,_,h1,h2,_⟩:=dd;exact⟨ob,h1,h2.2.1⟩
section
variable{X:Cx}{pins:List (Addr×Obj)}{σ : St}{H:Hp}{s:Shared}{a:Addr}{y d:V}{u r:Value}{o:Option V}{A:Around}{E:Value->Shared->Prop}
theorem zxv{Q:Value->Shared->Prop}(hu:A.units+1<cLine)(I:Inv X pins σ H s)(g:DGet H a y o)(ry:RelV y u)(rd:RelV d r)(h:∀w' s',Inv X pins σ H s'->RelV (o.getD d) w'->Q w' s') :
  wpAny (model X.prog X.w) A (call (.builtin "dict.get") [.ref a,u,r]) Q E s:=by
 rcases g with⟨kvs,k,e,ey,l⟩ | ⟨kvs,k,b,e,ey,eb,l⟩
 ·subst ey;obtain⟨z,hd,vs,rel,dd⟩:=zlj I.hok e;refine call_meetsIn PySem.F.slot_dict_get dd.typeIs PySem.F.entry_dict_get (PySem.F.args_dict_get_3 _ _ _) (meets_dict_get_default (za8 X.prog X.w) a (znt ry) hd r) ⟨_,dd.mapOf,h _ _ (I.tok _) ?_⟩;rw[l];exact(rel.val k).getD rd
 ·subst ey
  cases (show u=Value.ref b from ry);obtain⟨z,hd,xs,rel,dd⟩:=zhd I.hok e;refine call_meetsIn PySem.F.slot_dict_get dd.typeIs PySem.F.entry_dict_get (PySem.F.args_dict_get_3 _ _ _) (meetsH_dict_get_default (tupleKind (za8 X.prog X.w)) a b hd r) ⟨tupleKind_room_in1 hu,k,xs,zgz I.hok eb,dd,h _ _ (I.tok _) ?_⟩;rw[l];exact(rel.val k).getD rd
end
def zw8(td ty tx:TE):TE:=λσ H Q=>td σ H λx H1=>∃a,x=.ref a/\IsD H1 a/\ty σ H1 λy H2=>tx σ H2 λz H3=>∃o,DGet H3 a y o/\Q (o.getD z) H3
section
variable{X:Cx}{o e f:Expr}{apos cpos:Pos}{td ty tx:TE}
theorem zqk(hu:X.A.units+1<cLine)(ho:PE X o td)(he:PE X e ty)(hf:PE X f tx)(m:M2 X o "get" apos e f cpos):PE X (.Call (.Attribute o "get" apos) [e,f] [] cpos) (zw8 td ty tx):=by
 intro pins s σ H Q I h;refine wpAny_Call_method m.base m.few m.line PySem.F.plainAttrs_dict PySem.F.slot_dict_get PySem.F.type_dict_get (thn (ho pins s σ H _ I h) λu s1 ⟨x,H1,I1,rx,a,ex,d,q1⟩=>?_);subst ex;obtain rfl:u=Value.ref a:=rx;obtain⟨t1,t2,_⟩:=zww I1 d;refine⟨t1,t2,?_⟩;rw[m.trees];refine Calls.callWith_builtin rfl (Calls.evalArgs_plain (Calls.spliced_cons (thn (he pins s1 σ H1 _ I1 q1) λiv s2 ⟨y,H2,I2,ry,q2⟩=>
  Calls.spliced_cons (thn (hf pins s2 σ H2 _ I2 q2) λfv s3 ⟨z,H3,I3,rz,ov,g,q3⟩=>Calls.spliced_nil ?_))))
 exact zxv hu I3 g ry rz λw' s4 I4 rw'=>⟨_,H3,I4,rw',q3⟩
end
end L2
namespace L2
open PySem PySem.Spec PyProof.Rows
section
variable{X:Cx}{pins:List (Addr×Obj)}{σ : St}{H:Hp}{s:Shared}{d:Addr}{o:Obj}{u v:HO}
theorem Inv.swap(I:Inv X pins σ H s)(e:H d=some u)(nt:∀xs,u≠.tup xs)(no:∀x,u≠.own x)(nb:∀ps,u≠.tbl ps)(nf:∀o w,u=.frz o w->∀o w,X.H₀ d≠some (.frz o w))
  (new:ObjOk X.prog X.w H s.heap d u->∀H':Hp,(∀b xs,H b=some (.tup xs)->H' b=some (.tup xs))->(∀b x,H b=some (.own x)->H' b=some (.own x))->ObjOk X.prog X.w H' s.heap d v):Inv X pins σ (upd H d v) s:=by
 have nd:∀{b:Addr},H b=none->b≠d:=λz=>(zan e z).symm
 have tt:∀b xs,H b=some (.tup xs)->upd H d v b=some (.tup xs):=λb xs q=>by rw[zal (zep q e (λz=>nt xs z.symm))];exact q
 have oo:∀b x,H b=some (.own x)->upd H d v b=some (.own x):=λb x q=>by rw[zal (zep q e (λz=>no x z.symm))];exact q
 refine⟨I.ok,I.os,I.bare,⟨I.base.keep,I.base.slot,λb q h1 h2 h3=>?_,I.base.there,λb xs q=>tt b xs (I.base.tups b xs q),λb o' w q=>?_,λb ps q=>?_⟩,I.loc,I.cell,?_,λx c q=>?_,λp hp=>?_,λb w q=>?_,I.len⟩
 ·have z:=I.base.free b q h1 h2 h3;rw[zal (nd z)];exact z
 ·have z:=I.base.frzs b o' w q;by_cases hb:b=d
  ·subst hb;rw[e]at z;injection z with z
   exact absurd q (nf o' w z o' w)
  ·rw[zal hb];exact z
 ·obtain⟨more,z⟩:=I.base.tbls b ps q;by_cases hb:b=d
  ·subst hb;rw[e]at z;injection z with z
   exact absurd z (nb _)
  ·exact⟨more,by rw[zal hb];exact z⟩
 ·rw[zal (nd I.free)];exact I.free
 ·rw[zal (nd (I.freeC x c q))];exact I.freeC x c q
 ·obtain⟨z1,z2,z3⟩:=I.pin p hp;exact⟨z1,by rw[zal (nd z2)];exact z2,z3⟩
 ·by_cases hb:b=d
  ·subst hb;rw[zaf]at q;injection q with q;subst q
   exact new (I.hok b _ e) _ tt oo
  ·rw[zal hb]at q;exact(I.hok b w q).stay (λ_ _ _ z=>z) (λc z=>oo c b z) tt
theorem Inv.freeze{kvs:List (List Key×V)}(I:Inv X pins σ H s)(e:H d=some (.dT kvs))(ho:s.heap.get? d=some o):Inv X pins σ (upd H d (.frz o (.dT kvs))) s:=
 I.swap e (by intro _ z;cases z) (by intro _ z;cases z) (by intro _ z;cases z) (by intro _ _ z;cases z) λx H' t w=>⟨ho,x.stay (λ_ _ _ z=>z) (λb z=>w b d z) t⟩
theorem Inv.thaw(I:Inv X pins σ H s)(e:H d=some (.frz o u))(n:∀o w,X.H₀ d≠some (.frz o w)):Inv X pins σ (upd H d u) s:=
 I.swap e (by intro _ z;cases z) (by intro _ z;cases z) (by intro _ z;cases z) (λ_ _ _=>n) λx H' t w=>x.2.stay (λ_ _ _ z=>z) (λb z=>w b d z) t
end
def Thw(H0:Hp)(H:Hp)(K:Hp->Prop):Prop:=K H\/∃d o u,H d=some (.frz o u)/\(∀o w,H0 d≠some (.frz o w))/\K (upd H d u)
section
variable{X:Cx}
theorem Thw.inv{pins:List (Addr×Obj)}{σ : St}{H:Hp}{s:Shared}{K:Hp->Prop}(h:Thw X.H₀ H K)(I:Inv X pins σ H s):∃H',Inv X pins σ H' s/\K H':=by
 rcases h with h | ⟨d,o,u,e,n,h⟩
 ·exact⟨H,I,h⟩
 ·exact⟨_,I.thaw e n,h⟩
end
end L2
namespace L2
open PySem PySem.Spec PyProof.Rows
section
variable{prog:Program}{w:World}{A:Around}{E:Value->Shared->Prop}{s:Shared}{it d:Addr}{i n ep:Nat}{es:Array DictEntry}{o:Obj}
theorem zpy{A':Around}{Q:Option Value->Shared->Prop}{E':Value->Shared->Prop}(hh:A'.handled=none)(hQ:∀h',(∀b o,s.heap.get? b=some o->h'.get? b=some o)->Q none { s with heap:=h' }){P:Fin->Shared->Prop} :
  wpAny (model prog w) A' (newExc (.type "StopIteration") [] >>= λe=>raiseNew e) P (λe s'=>wpAny (model prog w) A (do if (<- isInstance e (.type "StopIteration"))=true then pure none else throw e) Q E' s') s:=by
 refine Ya ?_;simp only[newExc,newTuple];refine Ya (Jm (Ya (m:=firstArgMember _ _) (wpAny_of_eq (a:=Value.none) (by first | rfl | (simp only[firstArgMember];rfl)) (Jm ?_ (by size_fits)))) (by size_fits));simp only[raiseNew];refine Ya (wpAny_handled ?_);rw[hh];refine Ya (Yb (wpAny_throw ?_));have sub:=isSubtype_stop;refine Ya (wpAny_isInstance (T:="StopIteration") (b:=true) ⟨_,Yk _ rfl,Z⟩ sub ?_);exact Yb (hQ _ λb o e=>Ye _ (Ye _ e))
theorem zm5{e:DictEntry}{ok ov:Value}{Q:Option Value->Shared->Prop}(hit:IsItemIter s.heap it d i n ep ok ov)(hod:s.heap.get? d=some o)(hdd:o.data=.dict es ep)(hn:es.size=n)(hx:es[i]? = some e)
  (hQ:∀h',IsItemIterOut h' it d (i+1) n ep e.key e.val s.heap.objs.size->h'.get? s.heap.objs.size=some { cls:=.type "tuple",data:=.seq #[e.key,e.val] }->h'.objs.size=s.heap.objs.size+1 ->
   (∀b q,b≠it->s.heap.get? b=some q->h'.get? b=some q)->Q (some (.ref s.heap.objs.size)) { s with heap:=h' }):wpAny (model prog w) A (pyNext (.ref it)) Q E s:=by
 have T:s.TypeIs (.ref it) "dict_itemiterator":=⟨_,hit,Z⟩;have own:Builtin.Dict_items.ownsTuple "dict_itemiterator" = true:=by decide
 have nn:¬((Value.ref d == Value.none)=true):=λz=>Yt z
 unfold pyNext;refine Ya (wpAny_attempt (Ja (name:=Str.ofString "__next__") T F.slot_dict_itemiterator_next (Y8 F.slot_dict_itemiterator_next T F.entry_dict_itemiterator_next ?_ (F.args_dict_itemiterator_next_1 _))));refine Ya (Yb (Ya (Ya ?_)));refine Ya (wpAny_typeNameOfWhole_itemiter T (Yb (Ya (wpAny_fieldsOf hit rfl ?_))));simp only[own,if_true];show wpAny _ _ (if (Value.ref d == Value.none)=true then _ else _) _ _ s;rw[Yh nn];refine Ya (Yb (Ya (Y7 hod hdd ?_)));rw[Yh (by rw[hn];simp)];refine Ya (Yb (Ya (wpAny_dictEpoch hod hdd ?_)));rw[Yh (by simp)];have lt:¬((i:Int)<0):=by omega
 refine Yb ?_;simp only[lt,if_false,Int.toNat_natCast,hx];refine Ya (Ya (wpAny_typeNameOfWhole_itemiter T (Yb (Ya (wpAny_isOneOf_itemiter T ?_)))));show wpAny _ _ (setField (.ref it) 3 (rawInt ((i:Int)+1)) >>= _) _ _ s;refine Ya (Jn hit (by simp) λh1 e1 s1=>?_);have i1:IsItemIter h1 it d (i+1) n ep ok ov:=by
  have z:((i+1:Nat):Int)=(i:Int)+1:=by omega
  unfold IsItemIter;rw[z];simpa[rawInt]using e1
 have T1:Shared.TypeIs { s with heap:=h1 } (.ref it) "dict_itemiterator":=⟨_,i1,Z⟩;refine Ya (Jp (Ya (wpAny_isOneOf_itemiter T1 (Ya (wpAny_isOneOf_itemiter T1 ?_)))));show wpAny _ _ (Builtin.Dict_items.pairFromOwner (.ref it) 6 e.key e.val) _ _ _;unfold Builtin.Dict_items.pairFromOwner;refine Ya (wpAny_newTuple ?_);have z1:h1.objs.size=s.heap.objs.size:=s1.1;have lit:it<s.heap.objs.size:=Yn hit;have i2:IsItemIter (h1.push { cls:=.type "tuple",data:=.seq #[e.key,e.val] }) it d (i+1) n ep ok ov:=Ye _ i1;have t2:(h1.push { cls:=.type "tuple",data:=.seq #[e.key,e.val] }).get? s.heap.objs.size=some { cls:=.type "tuple",data:=.seq #[e.key,e.val] }:=by rw[<- z1];exact Yk _ rfl
 have z2:(h1.push { cls:=.type "tuple",data:=.seq #[e.key,e.val] }).objs.size=s.heap.objs.size+1:=by rw[Heap.size_push,z1]
 have k2:∀b q,b≠it->s.heap.get? b=some q->(h1.push { cls:=.type "tuple",data:=.seq #[e.key,e.val] }).get? b=some q:=λb q hb z=>Ye _ (s1.extBut b q hb z)
 dsimp only;rw[z1];show wpAny _ _ (Builtin.Dict_items.ownedTupleIsFree (.ref it) >>= _) _ _ { s with heap:=h1.push { cls:=.type "tuple",data:=.seq #[e.key,e.val] } };generalize (h1.push { cls:=.type "tuple",data:=.seq #[e.key,e.val] }:Heap)=h2 at *;refine Ya ?_;unfold Builtin.Dict_items.ownedTupleIsFree;refine Ya (Jj i2 rfl (x:=.none) rfl (Yb ?_));simp only[if_true];refine Ya (Jj i2 rfl (x:=ok) rfl (Ya (Jj i2 rfl (x:=ov) rfl (Ya (Jn i2 (by simp) λh3 e3 s3=>?_)))));have i3:IsItemIter h3 it d (i+1) n ep e.key ov:=e3;refine Ya (Jn i3 (by simp) λh4 e4 s4=>?_);have i4:IsItemIter h4 it d (i+1) n ep e.key e.val:=e4;refine Ya (Jn i4 (by simp) λh5 e5 s5=>?_);have i5:IsItemIterOut h5 it d (i+1) n ep e.key e.val s.heap.objs.size:=e5;refine Ya (Jn i5 (by simp) λh6 e6 s6=>?_);have i6:IsItemIterOut h6 it d (i+1) n ep e.key e.val s.heap.objs.size:=e6;have kp:∀b q,b≠it->h2.get? b=some q->h6.get? b=some q:=λb q hb z=>s6.extBut b q hb (s5.extBut b q hb (s4.extBut b q hb (s3.extBut b q hb z)))
 refine Ya (wpAny_letGo (Yb (Yb ⟨_,Z,Yb (hQ h6 i6 (kp _ _ (Nat.ne_of_gt lit) t2) ?_ λb q hb z=>kp b q hb (k2 b q hb z))⟩)));exact(s6.1.trans (s5.1.trans (s4.1.trans s3.1))).trans z2
theorem zpn{ok ov:Value}{Q:Option Value->Shared->Prop}(hh:A.handled=none)(hit:IsItemIter s.heap it d i n ep ok ov)(hod:s.heap.get? d=some o)(hdd:o.data=.dict es ep)(hn:es.size=n)(hx:n<=i)
  (hQ:∀h',Heap.ExtBut it s.heap h'->Q none { s with heap:=h' }):wpAny (model prog w) A (pyNext (.ref it)) Q E s:=by
 have T:s.TypeIs (.ref it) "dict_itemiterator":=⟨_,hit,Z⟩;have own:Builtin.Dict_items.ownsTuple "dict_itemiterator" = true:=by decide
 have nn:¬((Value.ref d == Value.none)=true):=λz=>Yt z
 unfold pyNext;refine Ya (wpAny_attempt (Ja (name:=Str.ofString "__next__") T F.slot_dict_itemiterator_next (Y8 F.slot_dict_itemiterator_next T F.entry_dict_itemiterator_next ?_ (F.args_dict_itemiterator_next_1 _))));refine Ya (Yb (Ya (Ya ?_)));refine Ya (wpAny_typeNameOfWhole_itemiter T (Yb (Ya (wpAny_fieldsOf hit rfl ?_))));simp only[own,if_true];show wpAny _ _ (if (Value.ref d == Value.none)=true then _ else _) _ _ s;rw[Yh nn];refine Ya (Yb (Ya (Y7 hod hdd ?_)));rw[Yh (by rw[hn];simp)];refine Ya (Yb (Ya (wpAny_dictEpoch hod hdd ?_)));rw[Yh (by simp)];have lt:¬((i:Int)<0):=by omega
 have hx':es[i]? = none:=Array.getElem?_eq_none (by omega);refine Yb ?_;simp only[lt,if_false,Int.toNat_natCast,hx'];refine Ya (Ya (wpAny_typeNameOfWhole_itemiter T (Yb ?_)));show wpAny _ _ (setField (.ref it) 2 .none >>= _) _ _ s;refine Ya (wpAny_setField hit rfl (by simp) ?_);refine zpy (A:=A) (A':=A.in1) (E':=E) hh λh' k=>?_
 exact hQ h' λb o hb e=>k b o ((Heap.SameBut.update ..).extBut b o hb e)
end
end L2
namespace L2
open PySem PySem.Spec PyProof.Rows
theorem Paired.at'{α β : Type}{F : α->β->Prop}:∀{l:List α} {m:List β},Paired F l m->∀{i:Nat} {a : α},l[i]? = some a->∃b,m[i]? = some b/\F a b
 | _,_,.nil,i,a,h=>by simp at h
 | _,_,.cons r _,0,a,h=>by simp at h;subst h;exact⟨_,rfl,r⟩
 | _,_,.cons _ t,i+1,a,h=>by
  rw[List.getElem?_cons_succ]at h;obtain⟨b,h1,h2⟩:=Paired.at' t h;exact⟨b,by rw[List.getElem?_cons_succ];exact h1,h2⟩
def FzD(H:Hp)(d:Addr)(o:Obj)(kvs:List (List Key×V)):Prop:=H d=some (.frz o (.dT kvs))
def ItI(d:Addr)(o:Obj)(kvs:List (List Key×V)):It:=
 ⟨λi H=>FzD H d o kvs/\i<kvs.length,λi H x H'=>∃p b k v,H p=none/\kvs[i]? = some (k,v)/\H b=some (.tup (k.map kV))/\x=.ref p/\H'=upd H p (.tup [.ref b,v]),λi H=>FzD H d o kvs/\kvs.length<=i⟩
section
variable{X:Cx}{pins:List (Addr×Obj)}{σ : St}{H:Hp}{s:Shared}{d:Addr}{o:Obj}{kvs:List (List Key×V)}{es:Array DictEntry}{ep:Nat}
theorem Inv.entries(I:Inv X pins σ H s)(e:FzD H d o kvs)(hdd:o.data=.dict es ep) :
  s.heap.get? d=some o/\es.size=kvs.length/\∀(i:Nat) (k:List Key) (v:V),kvs[i]? = some (k,v)->∃(b:Addr) (e:DictEntry),es[i]? = some e/\e.key=.ref b/\H b=some (.tup (k.map kV))/\RelV v e.val:=by
 obtain⟨hg,z,y,xs,r,o',es',ep',h1,h2,h3,h4,h5⟩:=I.hok d _ e;have eo:o'=o:=Je (h1.symm.trans hg);subst eo;rw[hdd]at h3;injection h3 with h3 _
 subst h3;refine⟨hg,(size_of_entries h4).trans (Paired.length r).symm,λi k v hx=>?_⟩;obtain⟨⟨k',b,u⟩,q1,q2,q3,q4⟩:=Paired.at' r hx;refine⟨b,entryOfKey (tupleKind (za8 X.prog X.w)) (k',b,u),by rw[entry_at h4 i,q1];rfl,Z,q3,q4⟩
end
theorem zd5{prog:Program}{w:World}{A:Around}{E:Value->Shared->Prop}{s:Shared}{it d:Addr}{i n ep:Nat}{ok ov:Value}{Q:Value->Shared->Prop}(hit:IsItemIter s.heap it d i n ep ok ov)(h:Q (.ref it) s) :
  wpAny (model prog w) A (pyIter (.ref it)) Q E s:=by
 have T:s.TypeIs (.ref it) "dict_itemiterator":=⟨_,hit,Z⟩;have en:entryFor table "dict_itemiterator.__iter__" = some Builtin.«dict_keyiterator.__iter__»:=entryFor_alias (id':="dict_keyiterator.__iter__") (by kernel_rfl) rfl (by decide +kernel) (by kernel_rfl);refine wpAny_pyIter_slot T F.slot_dict_itemiterator_iter (Y8 F.slot_dict_itemiterator_iter T en ?_ (F.args_dict_itemiterator_iter_1 _));exact Yb ⟨_,Z,"dict_itemiterator",_,T,F.slot_dict_itemiterator_next.lookup,h⟩
theorem zlz{P:Program}{w:World}{K:W.Frag}{xs:List Expr}{xk:Nat}{pos:Pos}{d it:Addr}{o:Obj}{kvs:List (List Key×V)}{es:Array DictEntry}{ep:Nat}(hdd:o.data=.dict es ep) :
  Turn P w K (.Tuple xs xk pos) (ItI d o kvs) [it] it (λi h=>∃ok ov,IsItemIter h it d i kvs.length ep ok ov) where
 mem:=by simp
 obj:=λi h ⟨ok,ov,st⟩ b hb=>by
  have e:b=it:=by simpa using hb
  subst e;exact⟨_,st,λv y=>by cases y⟩
 keep:=λi h h' ⟨ok,ov,st⟩ k=>⟨ok,ov,k it (by simp) _ st⟩
 item:=by
  intro X hP hw hK hc i pins s σ H E I hf st hg;subst hP hw hK;obtain⟨ok,ov,st⟩:=st;obtain⟨fz,lt⟩:=hg;obtain⟨hd,hz,he⟩:=I.entries fz hdd;obtain⟨⟨k,v⟩,hx⟩:∃p,kvs[i]? = some p:=⟨kvs[i],by simp[lt]⟩;obtain⟨b,e,ee,ek,eb,rv⟩:=he i k v hx;have lit:it<s.heap.objs.size:=Yn st;refine zm5 st hd hdd hz ee λh' st' tp sz kp=>?_
  refine⟨_,Z,wpAny_letOwnedTupleGo_items st' λh'' st2 sb=>?_⟩;have tp2:h''.get? s.heap.objs.size=some { cls:=.type "tuple",data:=.seq #[e.key,e.val] }:=sb.extBut _ _ (Nat.ne_of_gt lit) tp;have kp2:∀c q,c ∉ [it]->s.heap.get? c=some q->h''.get? c=some q:=λc q hc z=>sb.extBut c q (by simpa using hc) (kp c q (by simpa using hc) z)
  refine⟨.ref s.heap.objs.size,upd H s.heap.objs.size (.tup [.ref b,v]),I.drawn (t':=s.toks) (ch:=[it]) (λc hc=>hf c hc) kp2 (Yi _) ?_,Z,⟨_,b,k,v,I.fresh,hx,eb,Z,Z⟩,⟨_,_,st2⟩,λc hc=>?_⟩
  ·exact⟨by show 2<=sizeLine;rw[sizeLine_eq];decide,[e.key,e.val],.cons (by rw[ek];rfl) (.cons rv .nil),⟨_,tp2,Z,_,Z⟩⟩
  ·have e:c=it:=by simpa using hc
   subst e;rw[zal (Y0 lit)];exact(hf c (by simp)).1
 done:=by
  intro X hP hw hK hc i pins s σ H E I hf st hg;subst hP hw hK;obtain⟨ok,ov,st⟩:=st;obtain⟨fz,ge⟩:=hg;obtain⟨hd,hz,he⟩:=I.entries fz hdd;obtain⟨f0,f1,f2,f3,f4,f5⟩:=hf it (by simp);exact zpn (I.ok.hd hc) st hd hdd hz ge λh' eb=>⟨rfl,I.turned (t':=s.toks) (λb q hb e=>eb b q hb e) f0 f1 f3 f4 f5⟩
 self:=λ_ _ _ _ _ ⟨_,_,st⟩ h=>zd5 st h
end L2
namespace L2
open PySem PySem.Spec PyProof.Rows
section
variable{prog:Program}{w:World}{A:Around}{E:Value->Shared->Prop}{s:Shared}{d:Addr}{ep:Nat}{es:Array DictEntry}{o:Obj}
theorem dict_items{Q:Value->Shared->Prop}(hs:(d == sysModules)=false)(T:s.TypeIs (.ref d) "dict")(hQ:Q (.ref s.heap.objs.size) { s with heap:=s.heap.push { cls:=.type "dict_items",data:=.fields #[.ref d] } }) :
  wpAny (model prog w) A (call (.builtin "dict.items") [.ref d]) Q E s:=by
 refine Y8 F.slot_dict_items T F.entry_dict_items ?_ (F.args_dict_items_1 _);have no:¬((d == sysModules)=true):=by rw[hs];exact Yt
 unfold Builtin.«dict.items»;refine Ya ?_;unfold Builtin.Dict.noArgs;refine Ya (wpAny_notOrdered_dict T (Yb ?_));show wpAny _ _ (Builtin.Dict.showsAll d >>= _) _ _ s;unfold Builtin.Dict.showsAll;rw[Yh no];exact Ya (Yb (Ya (Jm (Yb ⟨_,Z,hQ⟩))))
theorem zmw{v:Addr}{Q:Value->Shared->Prop}(hv:s.heap.IsItemsView v d)(ho:s.heap.get? d=some o)(hdd:o.data=.dict es ep)
  (hQ:Q (.ref s.heap.objs.size) { s with heap:=s.heap.push { cls:=.type "dict_itemiterator",data:=.fields #[.none,.bool false,.ref d,.int 0 0,.int es.size 0,.int ep 0,.none,.none] } }):wpAny (model prog w) A (pyIter (.ref v)) Q E s:=by
 obtain⟨q,hq,hc,hdv⟩:=id hv;have own:Builtin.Dict_items.ownsTuple "dict_itemiterator" = true:=by decide
 refine wpAny_pyIter_slot hv.typeIs F.slot_dict_items_iter (Y8 F.slot_dict_items_iter hv.typeIs F.entry_dict_items_iter ?_ (F.args_dict_items_iter_1 _));unfold Builtin.«dict_items.__iter__»;refine Ya (Yb (Ya ?_));unfold Builtin.Dict_items.dictOf;refine Ya (Jj hq hdv (x:=.ref d) rfl (Yb (Ya ?_)));unfold Builtin.Dict_items.newIterator;refine Ya (Y7 ho hdd (Ya (wpAny_dictEpoch ho hdd ?_)));simp only[own,if_true];refine Jm (Yb ⟨_,Z,"dict_itemiterator",_,⟨_,Yk _ rfl,Z⟩,F.slot_dict_itemiterator_next.lookup,?_⟩) (by simp only[sizeOk,Builtin.Dict_items.ownedTupleFields,List.size_toArray,List.length_append,List.length_cons,List.length_nil,sizeLine_eq];omega);simpa[rawInt,Builtin.Dict_items.ownedTupleFields]using hQ
end
def zrn(td:TE):TI:=λσ H R=>td σ H λx H1=>∃d kvs,x=.ref d/\Rd H1 d (.dT kvs)/\∀o,R (ItI d o kvs) (upd H1 d (.frz o (.dT kvs)))
section
variable{X:Cx}{tg:Expr}{pins:List (Addr×Obj)}{σ : St}{H:Hp}{s:Shared}{d:Addr}{kvs:List (List Key×V)}
theorem Inv.still(I:Inv X pins σ H s)(e:Rd H d (.dT kvs)):∃(o:Obj) (es:Array DictEntry) (ep:Nat),s.heap.get? d=some o/\s.TypeIs (.ref d) "dict"/\(∀b,Value.ref d=.ref b->∃ob,s.heap.get? b=some ob/\ob.dict=none)/\(d == sysModules)=false /\
  o.data=.dict es ep/\es.size=kvs.length/\Inv X pins σ (upd H d (.frz o (.dT kvs))) s:=by
 obtain⟨z,hd,xs,rel,o,es,ep,h1,h2,h3,h4,h5,h6⟩:=zhd I.hok e;have T:s.TypeIs (.ref d) "dict":=⟨o,h1,h2.1⟩;refine⟨o,es,ep,h1,T,λb q=>?_,hd,h3,(size_of_entries h4).trans (Paired.length rel).symm,?_⟩
 ·cases q;exact⟨o,h1,h2.2.1⟩
 rcases e with e | ⟨o',e⟩
 ·exact I.freeze e h1
 ·have q:s.heap.get? d=some o':=(I.hok d _ e).1;have eo:o'=o:=Je (q.symm.trans h1);subst eo;have:upd H d (.frz o' (.dT kvs))=H:=by
   funext b;unfold upd;split
   ·rename_i z;rw[z,e]
   ·rfl
  rw[this];exact I
theorem zc5{xs:List Expr}{xk:Nat}{tp apos cpos:Pos}{o:Expr}{to:TE}(ho:PE X o to)(hbase:attributeBase o "items" X.env (eval o X.env)=eval o X.env:=by rfl)(hline:(apos.endLine == cpos.line)=true:=by rfl) :
  PI X (.Tuple xs xk tp) (.Call (.Attribute o "items" apos) [] [] cpos) (zrn to):=by
 intro pins s σ H R I h;refine wpAny_Call_method0_late hbase hline (thn (ho pins s σ H _ I h) λv s1 ⟨x,H1,I1,r1,d,kvs,ex,e,q⟩=>?_);subst ex
 cases r1;obtain⟨ob,es,ep,hob,T,nd,hs,hdd,hz,I2⟩:=I1.still e;refine⟨"dict","dict.items",PySem.F.plainAttrs_dict,PySem.F.slot_dict_items,PySem.F.type_dict_items,T,nd,Calls.callWith_builtin rfl (PySem.evalArgs_none (dict_items hs T ?_))⟩;have I3:=I2.kept (t':=s1.toks) (h':=s1.heap.push { cls:=.type "dict_items",data:=.fields #[.ref d] }) λb q z=>Ye _ z
 refine zmw ⟨_,Yk _ rfl,Z,Z⟩ (Ye _ hob) hdd ?_;refine⟨_,[_],_,_,_,Z,I3.kept (t':=s1.toks) λb q z=>Ye _ z,zlz hdd,⟨_,_,by rw[<- hz];exact Yk _ rfl⟩,λb hb=>?_,q ob⟩;have eb:=Yq.mp hb;subst eb;exact I3.fpOk (Yi _) (I3.hok.fresh (Yi _))
end
end L2
namespace L2
open PySem PySem.Spec PyProof.Rows
section
variable{prog:Program}{w:World}{κ : Type}[DecidableEq κ]{knd:HeapKind prog w κ}{A:Around}{E:Value->Shared->Prop}{s:Shared}
inductive HHits(A:Around)(s:Shared)(ys:List (κ×Addr×Value)):List (κ×Addr×Value)->Bool->Prop
 | nil:HHits A s ys [] true
 | miss {x : κ×Addr×Value} {r:List (κ×Addr×Value)}:atKey ys x.1=none->HHits A s ys (x::r) false
 | hit {x : κ×Addr×Value} {p:Addr×Value} {r:List (κ×Addr×Value)} {e c:Bool}:atKey ys x.1=some p->SeqAt.EqAt A s x.2.2 p.2 e->HHits A s ys r c->HHits A s ys (x::r) (e&&c)
theorem HHits.inv{ys:List (κ×Addr×Value)}{x : κ×Addr×Value}{r:List (κ×Addr×Value)}{c:Bool}(h:HHits A s ys (x::r) c) :
  (atKey ys x.1=none/\c=false)\/∃p e c',atKey ys x.1=some p/\SeqAt.EqAt A s x.2.2 p.2 e/\HHits A s ys r c'/\c=(e&&c'):=by
 cases h with
 | miss a=>exact .inl ⟨a,rfl⟩
 | hit a b c=>exact .inr ⟨_,_,_,a,b,c,rfl⟩
theorem zly{nm:String}{a b:Addr}{xs ys:List (κ×Addr×Value)}{r:Bool}{Q:Bool->Shared->Prop}(hu:knd.room A)(ha:(a == sysModules)=false)(hb:(b == sysModules)=false)(da:s.heap.DictOfH knd a xs)(db:s.heap.DictOfH knd b ys)
  (hits:xs.length=ys.length->HHits A s ys xs r) (h:Q (xs.length == ys.length&&r) s):wpAny (model prog w) A (Builtin.Dict.samePairs nm a b) Q E s:=by
 obtain⟨oa,ea,pa,ga,_,ta,la,ka,na⟩:=da;obtain⟨ob,eb,pb,gb,_,tb,lb,kb,nb⟩:=db;have za:ea.size=xs.length:=size_of_entries la;have zb:eb.size=ys.length:=size_of_entries lb;have no1:¬((a == sysModules)=true):=by rw[ha];exact Yt
 have no2:¬((b == sysModules)=true):=by rw[hb];exact Yt
 unfold Builtin.Dict.samePairs Builtin.Dict.showsAll;rw[Yh no1,Yh no2];refine Ya (Yb (Ya (Yb (Ya (Y7 ga ta ?_)))));dsimp only;refine Ya (Y7 gb tb ?_);by_cases hz:xs.length=ys.length
 case neg=>
  have q1:(ea.size != eb.size)=true:=by rw[za,zb];simpa using hz
  have q2:(xs.length == ys.length)=false:=by simpa using hz
  rw[Yl q1];rw[q2,Bool.false_and]at h;exact Ya (wpAny_rule (Yb h))
 have q1:¬((ea.size != eb.size)=true):=by rw[za,zb,hz];simp
 have h':Q r s:=by simpa[hz]using h
 rw[Yh q1];refine Ya (wpAny_dictEpoch ga ta (Ya ?_));rw[Std.Legacy.Range.forIn_eq_forIn_range'];simp only[Std.Legacy.Range.size,Nat.sub_zero,Nat.add_sub_cancel,Nat.div_one];refine wpAny_forIn_list _ (λrest c s'=>s'=s/\c=(none,())/\∃i,rest=List.range' i (ea.size-i)/\i<=ea.size/\HHits A s ys (xs.drop i) r) _ ?_ ?_ _ _ ⟨Z,Z,0,by simp,Y2 _,hits hz⟩
 ·rintro x rest c s' ⟨rfl,rfl,i,er,hi,hp⟩;have lt:i<ea.size:=Nat.lt_of_not_le λz=>by rw[Nat.sub_eq_zero_of_le z]at er;simp at er
  have es:ea.size-i=(ea.size-(i+1))+1:=by omega
  rw[es,List.range'_succ]at er;injection er with e1 e2;subst e1
  have lx:x<xs.length:=by omega
  have ex:ea[x]? = some (entryOfKey knd xs[x]):=by rw[entry_at la x,Yc lx];rfl
  have dr:xs.drop x=xs[x]::xs.drop (x+1):=List.drop_eq_getElem_cons lx;refine Ya (Y7 ga ta ?_);rw[ex];rw[dr]at hp;show wpAny _ _ (holding [Value.ref xs[x].2.1,xs[x].2.2] _ >>= _) _ _ _;refine Ya (Jp (Ya (wpAny_dictFind_heap hu (ka _ (Js lx)) gb tb lb kb nb (λno=>?_) λj p hj=>?_)))
  ·rcases hp.inv with⟨_,er⟩ | ⟨p,_,_,hy,_⟩
   ·rw[er]at h';refine Yb ?_;show wpAny _ _ (if (!false)=true then _ else _) _ _ _;rw[Yl (by decide)];exact Yb (Yb h')
   ·rw[atKey_none_of_get no]at hy;cases hy
  ·have lj:eb[j]? = some (entryOfKey knd (xs[x].1,p)):=by rw[entry_at lb j,hj];rfl
   refine Ya (Y7 gb tb ?_);rw[lj];rcases hp.inv with⟨hn,_⟩ | ⟨p',e,c',hy,he,hr,er⟩
   ·rw[atKey_of_get nb hj]at hn;cases hn
   rw[atKey_of_get nb hj]at hy;injection hy with hy;subst hy
   refine Jp (he prog w _ _ ?_)
   cases e with
   | false=>rw[er,Bool.false_and]at h';show wpAny _ _ (if (!false)=true then _ else _) _ _ _;rw[Yl (by decide)];exact Yb (Yb h')
   | true=>
    rw[Bool.true_and]at er;rw[<- er]at hr;show wpAny _ _ (if (!true)=true then _ else _) _ _ _;rw[Yh (by decide)];refine Ya (wpAny_dictEpoch ga ta ?_);rw[Yh (by simp)];exact Yb ⟨Z,Z,x+1,e2,lt,hr⟩
 ·rintro c s' ⟨rfl,rfl,i,er,hi,hp⟩;have ei:i=ea.size:=Nat.le_antisymm hi (Nat.le_of_not_lt λz=>by
   have es:ea.size-i=(ea.size-(i+1))+1:=by omega
   rw[es,List.range'_succ]at er;cases er)
  refine Yb ?_;rw[ei,za,List.drop_length]at hp;cases hp;exact h'
theorem zpt{a b:Addr}{xs ys:List (κ×Addr×Value)}{r:Bool}{Q:Value->Shared->Prop}(hu:knd.room A.in1)(hc:A.units<cLine)(ha:(a == sysModules)=false)(hb:(b == sysModules)=false)(da:s.heap.DictOfH knd a xs)(db:s.heap.DictOfH knd b ys)
  (hits:xs.length=ys.length->HHits A.in1 s ys xs r) (h:Q (.bool (xs.length == ys.length&&r)) s):wpAny (model prog w) A (compareOp .Eq (.ref a) (.ref b)) Q E s:=by
 refine wpAny_richCompare_same_room (op:=.Eq) da.typeIs db.typeIs PySem.F.slot_dict_eq (Y8 PySem.F.slot_dict_eq da.typeIs PySem.F.entry_dict_eq ?_ (PySem.F.args_dict_eq_2 _ _)) hc;show wpAny _ _ (Builtin.Dict.dictSlotArgs "__eq__" ⟨[.ref a,.ref b],[]⟩ >>= _) _ _ s;refine Ya ?_;unfold Builtin.Dict.dictSlotArgs;refine Ya (wpAny_notOrdered_dict da.typeIs (Yb ?_));refine Ya (wpAny_isInstance (T:="dict") db.typeIs PySem.F.sub_dict_dict ?_);simp only[Bool.not_true,Bool.false_eq_true,if_false];refine Ya (Yb (Ya (Yb (Ya (zly hu ha hb da db hits (Yb ⟨_,Z,(λx=>nomatch x),?_⟩))))));simpa using h
end
end L2
namespace L2
open PySem PySem.Spec PyProof.Rows
def KDs(K:W.Frag)(H:Hp):List (List Key×V)->List (List Key×PyData)->Prop:=Paired λp q=>p.1=q.1/\Rds K H p.2 q.2
def zdz(ys:List (List Key×PyData))(k:List Key):Option PyData:=(ys.find? λq=>decide (q.1=k)).map (·.2)
def eqKD(xs ys:List (List Key×PyData)):Bool:=xs.length == ys.length&&xs.all λp=>match zdz ys p.1 with | some d=>PyData.eqv p.2 d | none=>false
def Flats(xs:List (List Key×PyData)):Prop:=∀p∈xs,p.2.canLay0=true/\p.2.depth<=60
section
variable{X:Cx}{pins:List (Addr×Obj)}{σ : St}{H:Hp}{s:Shared}
theorem zi8(I:Inv X pins σ H s):∀{kb:List (List Key×V)} {ys:List (List Key×Addr×Value)} {db:List (List Key×PyData)},KT H kb ys->KDs X.K H kb db->Flats db->∀k:List Key,
  (atKey ys k=none/\zdz db k=none)\/∃p d as,atKey ys k=some p/\zdz db k=some d/\Reads s.heap p.2 d as/\d.canLay0=true/\d.depth<=60
 | _,_,_,.nil,.nil,_,_=>.inl ⟨rfl,rfl⟩
 | _,_,_,.cons (a:=a) (b:=b) r t,.cons (b:=c) q u,fl,k=>by
  obtain⟨r1,r2,r3⟩:=r;obtain⟨q1,q2⟩:=q;by_cases e:a.1=k
  ·have e1:b.1=k:=r1.symm.trans e;have e2:c.1=k:=q1.symm.trans e;obtain⟨as,rd⟩:=I.rds q2 r3;obtain⟨f1,f2⟩:=fl c (.head _);exact .inr ⟨b.2,c.2,as,by simp[atKey,List.find?_cons,e1],by simp[zdz,List.find?_cons,e2],rd,f1,f2⟩
  ·have e1:¬b.1=k:=λz=>e (r1.trans z)
   have e2:¬c.1=k:=λz=>e (q1.trans z)
   have z1:∀l,atKey (b::l) k=atKey l k:=λl=>by simp[atKey,List.find?_cons,e1]
   have z2:∀l,zdz (c::l) k=zdz l k:=λl=>by simp[zdz,List.find?_cons,e2]
   rw[z1,z2];exact zi8 I t u (λp hp=>fl p (.tail _ hp)) k
theorem znq{A:Around}(hu:A.units+61<cLine)(I:Inv X pins σ H s){kb:List (List Key×V)}{ys:List (List Key×Addr×Value)}{db:List (List Key×PyData)}(tb:KT H kb ys)(qb:KDs X.K H kb db)(fb:Flats db) :
  ∀{ka:List (List Key×V)} {xs:List (List Key×Addr×Value)} {da:List (List Key×PyData)},KT H ka xs->KDs X.K H ka da->Flats da->HHits A s ys xs (da.all λp=>match zdz db p.1 with | some d=>PyData.eqv p.2 d | none=>false)
 | _,_,_,.nil,.nil,_=>.nil
 | _,_,_,.cons (a:=a) (b:=b) r t,.cons (b:=c) q u,fl=>by
  obtain⟨r1,r2,r3⟩:=r;obtain⟨q1,q2⟩:=q;have ih:=znq hu I tb qb fb t u λp hp=>fl p (.tail _ hp)
  obtain⟨as,rd⟩:=I.rds q2 r3;obtain⟨f1,f2⟩:=fl c (.head _);rw[List.all_cons];rcases zi8 I tb qb fb b.1 with⟨h1,h2⟩ | ⟨p,d,bs,h1,h2,h3,h4,h5⟩
  ·rw[<- r1,q1]at h2;rw[h2];exact .miss h1
  ·rw[<- r1,q1]at h2;rw[h2];refine .hit h1 (SeqAt.eqAt_reads c.2 d A s _ _ as bs rd h3 f1 h4 ?_) ih;have:=Nat.min_le_left c.2.depth d.depth;omega
end
def zyn(K:W.Frag)(neg:Bool):R2:=λx y H Q=>∃(a b:Addr) (ka kb:List (List Key×V)) (da db:List (List Key×PyData)),x=.ref a/\y=.ref b/\Rd H a (.dT ka)/\Rd H b (.dT kb)/\KDs K H ka da/\KDs K H kb db/\Flats da/\Flats db/\Q (.bl (xor neg (eqKD da db))) H
section
variable{X:Cx}
theorem ztf(hu:X.A.units+64<cLine):OpR X (compareOp .Eq) (zyn X.K false):=by
 intro pins s σ H x y u v Q I rx ry h;obtain⟨a,b,ka,kb,da,db,rfl,rfl,ha,hb,qa,qb,fa,fb,q⟩:=h
 cases rx
 cases ry;obtain⟨_,sa,xs,ta,ea⟩:=zhd I.hok ha;obtain⟨_,sb,ys,tb,eb⟩:=zhd I.hok hb;have lx:xs.length=da.length:=(Paired.length ta).symm.trans (Paired.length qa);have ly:ys.length=db.length:=(Paired.length tb).symm.trans (Paired.length qb);refine zpt (knd:=tupleKind (za8 X.prog X.w)) (tupleKind_room_in1 (by omega)) (by omega) sa sb ea eb (λ_=>znq (by show X.A.units+1+61<cLine;omega) I tb qb fb ta qa fa) ⟨.bl _,H,I,Z,?_⟩;rw[lx,ly];have:(false ^^ eqKD da db)=eqKD da db:=Bool.false_xor _;rw[this]at q;exact q
theorem zub{pins:List (Addr×Obj)}{σ : St}{H:Hp}{s:Shared}{A:Around}{E:Value->Shared->Prop}{a b:Addr}{kvs:List (List Key×V)}{k:List Key}{v:V}{r:Value}{Q:Unit->Shared->Prop}(hu:A.units<cLine)(I:Inv X pins σ H s)(e:H a=some (.dT kvs))(eb:H b=some (.tup (k.map kV)))
  (l:kvs.length<sizeLine) (rv:RelV v r) (h:∀s',Inv X pins σ (upd H a (.dT (putK kvs k v))) s'->Q () s'):wpAny (model X.prog X.w) A (dictSet a (.ref b) r) Q E s:=by
 obtain⟨z,hd,xs,rel,dd⟩:=zpv I.hok e;have hz:xs.length<=sizeLine:=by rw[<- Paired.length rel];exact z
 have hl:(putK kvs k v).length<=sizeLine:=by have:=zbs kvs k v;omega
 refine wpAny_dictSet_heap (hsz:=hz) (knd:=tupleKind (za8 X.prog X.w)) hu (zgz I.hok eb) dd λh' dd' hs=>h _ ?_
 obtain⟨q,es,ep,hq,h2,h3,h4,_,h5⟩:=dd';refine zh0 I (by rw[e];exact True.intro) hs ⟨q,hq⟩ ⟨hl,hd,_,(rel.put k eb rv).keeps λc ys ec=>?_,q,es,ep,hq,h2,h3,h4,h5⟩;rw[zal (zep ec e (λz=>nomatch z))];exact ec
def zxp(tk tv:TE):TE:=λσ H Q=>∀p,H p=none->tk σ (upd H p (.dT [])) λx H1=>tv σ H1 λy H2=>∃b ks,x=.ref b/\H2 p=some (.dT [])/\H2 b=some (.tup (ks.map kV))/\Q (.ref p) (upd H2 p (.dT [(ks,y)]))
theorem zga{pos:Pos}{k v:Expr}{tk tv:TE}(hu:X.A.units<cLine)(hk:PE X k tk)(hv:PE X v tv):PE X (.Dict [some k] [v] pos) (zxp tk tv):=by
 intro pins s σ H Q I q;have hn:=I.hok.fresh (Yi s.heap.objs.size);have I1:=I.laid (a:=s.heap.objs.size) (o:=.dT []) (h':=s.heap.push { cls:=.type "dict",data:=.dict #[] }) (t':=s.toks) (λ_ _ q=>Ye _ q) (Yi _) (zkj s.heap I.big);refine wpAny_Dict_any rfl rfl (by simp) (by simp) ?_;have P:PPs X pos [some k] [v] [(tk,tv)]:=zp5 hk hv ztp;refine thn (P pins _ σ _ (λps H2=>match ps with | [(x,y)]=>∃b ks,x=.ref b/\H2 s.heap.objs.size=some (.dT [])/\H2 b=some (.tup (ks.map kV))/\Q (.ref s.heap.objs.size) (upd H2 s.heap.objs.size (.dT [(ks,y)])) | _=>False) I1 (q _ hn)) λws s2 ⟨ps,H2,I2,rel,hq⟩=>?_
 rcases ws with _ | ⟨⟨c1,c2⟩,ws⟩
 ·cases rel;exact hq.elim
 cases rel with
 | cons r t=>
  cases t with
  | cons _ _=>exact hq.elim
  | nil=>
   obtain⟨r1,r2⟩:=r;obtain⟨b,ks,ex,e1,e2,q2⟩:=hq;dsimp only at ex r1 r2;rw[ex]at r1;obtain rfl:c1=Value.ref b:=r1;unfold storeAll;rw[List.forIn_cons];refine Ya (Ya (zub hu I2 e1 e2 (by rw[sizeLine_eq];decide) r2 λs3 I3=>Yb ?_));exact Yb ⟨.ref s.heap.objs.size,_,I3,Z,q2⟩
end
end L2
namespace L2
open PySem PySem.Spec PyProof.Rows
def zp7(x:Str)(lo hi:Option Int):List Nat:=Builtin.Str.strSliceIndices lo hi 1 x.length
def cutS(x:Str)(lo hi:Option Int):Str:=if ((zp7 x lo hi).length == x.length)=true then x else⟨((zp7 x lo hi).filterMap (x.cps[·]?)).toArray⟩
def rSlS:V->Option Int->Option Int->Hp->VK->Prop:=λx lo hi H Q=>∃z,x=.str z/\(cutS z lo hi).length<=sizeLine/\Q (.str (cutS z lo hi)) H
section
variable{X:Cx}
theorem zrp:SlR X rSlS:=by
 intro pins s σ H x v vl vu lo hi sl Q I rx hs pl pu h;obtain⟨z,rfl,hz,q⟩:=h;obtain⟨t,rfl⟩:=rx;refine⟨"str",_,F.slot_str_getitem.lookup,typeIs_str _ z t,?_⟩;obtain⟨l,el,e1⟩:∃l:Option (Int×Tok),vl=partValue l/\l.map (·.1)=lo:=by
  cases pl with
  | none=>exact⟨none,rfl,rfl⟩
  | int i t=>exact⟨some (i,t),rfl,rfl⟩
 obtain⟨u,eu,e2⟩:∃u:Option (Int×Tok),vu=partValue u/\u.map (·.1)=hi:=by
  cases pu with
  | none=>exact⟨none,rfl,rfl⟩
  | int i t=>exact⟨some (i,t),rfl,rfl⟩
 subst el eu e1 e2;refine wpAny_getItem_str_slice (l:=l) (u:=u) (st:=none) hs rfl ?_;have ep:slicePicked z l u none=zp7 z (l.map (·.1)) (u.map (·.1)):=rfl;unfold sliceMade;rw[ep];unfold cutS at q hz;by_cases c:((zp7 z (l.map (·.1)) (u.map (·.1))).length == z.length)=true
 ·rw[Yl c]at q;rw[Yl (by simpa using c)];exact⟨.str z,H,I,⟨t,Z⟩,q⟩
 ·rw[Yh c]at q hz;rw[Yh (by simpa using c)];exact⟨hz,.str _,H,I.tok _,⟨_,Z⟩,q⟩
theorem zln:fillsNumberSlot (.type "tuple") "mul" = pure false:=PySem.fillsNumberSlot_seq (id:="tuple.__mul__") (r:=some (.builtin "tuple.__rmul__")) F.slot_tuple_mul.lookup (by decide +kernel) F.slot_tuple_rmul.lookup (by decide +kernel)
theorem zlr:seqRepeat? (.type "tuple")=pure (some (.builtin "tuple.__mul__")):=by
 unfold seqRepeat?;rw[PySem.seqSlot_of (T:="tuple") (name:="__mul__") (id:="tuple.__mul__") F.slot_tuple_mul.lookup (by decide +kernel),PySem.seqSlot_of (T:="tuple") (name:="__rmul__") (id:="tuple.__rmul__") F.slot_tuple_rmul.lookup (by decide +kernel)];rfl
theorem zqr(a:Int)(t:Tok)(l:Addr)(o:Obj)(its:Array Value)(n:Nat)(hd:o.data=.seq its n):Meets (Builtin.«int.__rmul__» ⟨[.int a t,.ref l],[]⟩) (λ_ R s=>s.heap.get? l=some o/\R (.ok (.ret Value.notImplemented)) s):=
 .of_wp λprog w A R s h=>by
  obtain⟨hp,g,d,tk,os⟩:=s;obtain⟨hl,h⟩:=h;wp_walk;rw[hd];wp_walk;exact⟨_,Z,h⟩
def zx7(K:W.Frag):R2:=λx y H Q=>∃(a:Addr) (xs:List V) (n:Int),x=.ref a/\y=.int n/\SqT K H a xs/\xs≠[]/\1<=n/\n<=1000/\xs.length*n.toNat<=1000 /\
 (n=1->Q (.ref a) H)/\(2<=n->∀p,H p=none->Q (.ref p) (upd H p (.tup (List.replicate n.toNat xs).flatten)))
theorem zsm:OpR X (binaryOp .Mult) (zx7 X.K):=by
 intro pins s σ H x y v u Q I rx ry h;obtain⟨a,xs,n,rfl,rfl,hx,ne,n1,n2,hz,q1,q2⟩:=h
 cases rx;obtain⟨t,rfl⟩:=ry;obtain⟨its,r,ht,hl⟩:=I.tuple hx;have T:s.TypeIs (.ref a) "tuple":=ht.typeIs;have le:=r.length;obtain⟨o,ho,hc,m,hd⟩:=id ht;refine wpAny_binaryOp_repeat_ref (T:="tuple") (U:="int") (by decide) T (λs'=>typeIs_int s' n t) zln F.fills_int_mul F.slot_int_rmul zlr F.slot_int_index.lookup
  (call_meets F.slot_int_rmul (typeIs_int s n t) F.entry_int_rmul (F.args_int_rmul_2 _ _) (zqr n t a o its.toArray m hd) ⟨ho,Z,T,Y8 F.slot_tuple_mul T F.entry_tuple_mul ?_ (F.args_tuple_mul_2 _ _)⟩)
 show wpAny _ _ (asIndex (.int n t) >>= _) _ _ s;refine Ya (Yb ?_);dsimp only;have b1:(decide (n < -2^63)||decide (n ≥ 2^63))=false:=by rw[Yw (by omega),Yw (by omega)];rfl
 rw[Yh (by rw[b1];exact Yt)];refine Ya (wpAny_tupleItemsOf ho hd ?_);have em:its.toArray.isEmpty=false:=by
  cases its with
  | nil=>cases xs with
   | nil=>exact absurd rfl ne
   | cons _ _=>simp at le
  | cons _ _=>rfl
 by_cases c:n=1
 ·have b2:(its.toArray.isEmpty||n == 1)=true:=by rw[c];simp
  rw[Yl b2];unfold Builtin.Tuple.tupleIsExact;refine Ya (Ya (wpAny_typeOf T (Yb ?_)));rw[Yl (by decide)];exact Ya (wpAny_rule (Yb ⟨_,Z,.ref a,H,I,Z,q1 c⟩))
 ·have b2:(its.toArray.isEmpty||n == 1)=false:=by rw[em];simpa using c
  have b3:(decide (n<=0)||its.toArray.isEmpty)=false:=by rw[em,Yw (by omega)];rfl
  have sz:its.toArray.size*n.toNat<=1000:=by rw[Ys,<- le];exact hz
  have sz':((its.toArray.size:Nat):Int)*n<=1000:=by
   have:n=((n.toNat:Nat):Int):=by omega
   rw[this];exact_mod_cast sz
  rw[Yh (by rw[b2];exact Yt),Yh (by rw[b3];exact Yt),Yh (by omega)];have f0:List.foldl (λx1 x2=>x1++x2) #[] (List.replicate n.toNat its.toArray)=(List.replicate n.toNat its).flatten.toArray:=by
   have:=zgt its n.toNat [];rw[List.nil_append]at this;exact this
  have b4:Builtin.Tuple.tupleTooMany (((its.toArray.size:Nat):Int)*n)=false:=by
   unfold Builtin.Tuple.tupleTooMany;simp only[decide_eq_false_iff_not];have z:=sizeLine_eq;omega
  rw[Yh (by rw[b4];exact Yt),f0];unfold Builtin.Tuple.tupleExact;have ln:((List.replicate n.toNat its).flatten).length<=sizeLine:=by
   rw[zj1,Nat.mul_comm,<- le,sizeLine_eq];omega
  refine Ya (Jm (Yb ⟨_,Z,.ref s.heap.objs.size,_,I.laid (t':=s.toks) (o:=.tup (List.replicate n.toNat xs).flatten) (λb q z=>Ye _ z) (Yi _) ?_,Z,q2 (by omega) _ I.fresh⟩) (by show Array.size _<=sizeLine;rw[Ys];exact ln));exact⟨by rw[zj1,Nat.mul_comm,sizeLine_eq];omega,_,r.rep n.toNat,IsTup.new _ _⟩
end
def Ends.thw(H0:Hp)(D:Ends):Ends:={ D with nx:=λσ H=>Thw H0 H (D.nx σ),rt:=λv H=>Thw H0 H (D.rt v) }
section
variable{X:Cx}{st:Stmt}{ss:List Stmt}{t:TS}
theorem SP.thw{pins:List (Addr×Obj)}{D:Ends}{f:Flow}{s:Shared}(h:SP X pins (D.thw X.H₀) f s):SP X pins D f s:=by
 cases f with
 | next=>obtain⟨σ,H,I,q⟩:=h;obtain⟨H',I',q'⟩:=Thw.inv (K:=D.nx σ) q I;exact⟨σ,H',I',q'⟩
 | brk=>exact h
 | cont=>exact h
 | ret u=>obtain⟨v,σ,H,I,r,q⟩:=h;obtain⟨H',I',q'⟩:=Thw.inv (K:=D.rt v) q I;exact⟨v,σ,H',I',r,q'⟩
theorem zf3(h:PS X st t):PS X st (λD σ H=>t (D.thw X.H₀) σ H):=λpins s σ H D I q=>thn (h pins s σ H _ I q) λ_ _ z=>z.thw
end
end L2
set_option Elab.async false
set_option linter.all false
set_option maxRecDepth 100000
namespace L2
open PySem PySem.Spec PyProof.Rows
theorem zjb{α β : Type}(f : α->β):∀(l:List α) (j:Nat),(l.map f).eraseIdx j=(l.eraseIdx j).map f
 | [],j=>by simp
 | x::l,0=>by simp
 | x::l,j+1=>by simp[zjb f l j]
theorem zfz{κ β : Type}[DecidableEq κ]:∀{xs:List (κ×β)} (_:(xs.map (·.1)).Nodup) {j:Nat} {k : κ} {q : β},xs[j]? = some (k,q)->xs.eraseIdx j=xs.filter λx=>decide (x.1≠k)
 | [],_,j,k,q,h=>by simp at h
 | x::r,hn,0,k,q,h=>by
  simp at h;subst h
  rw[Yz,List.nodup_cons]at hn;rw[List.eraseIdx_cons_zero,List.filter_cons,Yh (by simp)];refine(Yu.mpr λy hy=>?_).symm;have:y.1≠k:=λe=>hn.1 (Jh.mpr ⟨y,hy,e⟩)
  simpa using this
 | x::r,hn,j+1,k,q,h=>by
  rw[List.getElem?_cons_succ]at h;rw[Yz,List.nodup_cons]at hn;have:x.1≠k:=λe=>hn.1 (Jh.mpr ⟨(k,q),Yx h,e.symm⟩)
  rw[List.eraseIdx_cons_succ,List.filter_cons,Yl (by simpa using this),zfz hn.2 h]
section
variable{prog:Program}{w:World}{κ : Type}[DecidableEq κ]{knd:HeapKind prog w κ}{A:Around}{E:Value->Shared->Prop}{s:Shared}
theorem zoi{d a:Addr}{xs:List (κ×Addr×Value)}{k : κ}{p:Addr×Value}{Q:Value->Shared->Prop}(hu:knd.room A.in1)(hkey:knd.is s.heap k a)(hz:xs.length<=sizeLine)(dd:s.heap.DictOfH knd d xs)(hp:atKey xs k=some p)
  (h:∀h',h'.DictOfH knd d (xs.filter λx=>decide (x.1≠k))->Heap.SameBut d s.heap h'->Q p.2 { s with heap:=h',toks:=s.toks+knd.draws k }) :
  wpAny (model prog w) A (call (.builtin "dict.pop") [.ref d,.ref a]) Q E s:=by
 have T:=dd.typeIs;obtain⟨o,es,ep,ho,hc,hd,he,hk,hn⟩:=dd;have hes:es.size<=sizeLine:=by rw[size_of_entries he];exact hz
 refine Y8 F.slot_dict_pop T F.entry_dict_pop ?_ (F.args_dict_pop_2 _ _);unfold Builtin.«dict.pop»;refine Ya ?_;unfold Builtin.Dict.keyAndDefault;refine Ya (wpAny_notOrdered_dict T ?_);show wpAny _ _ (pure (d,Value.ref a,none)) _ _ s;refine Yb ?_;have kp:(keyPart (.ref a)).isSome=false:=rfl;simp only[kp,Bool.false_eq_true,if_false];refine Ya (Y7 ho hd (Ya (Yb ?_)));have ne:es.isEmpty=false:=by
  have:xs≠[]:=λz=>by subst z;simp[atKey]at hp
  have:0<xs.length:=List.length_pos_iff.mpr this;have:=size_of_entries he;simp[Array.isEmpty];intro z;simp[z]at this;omega
 rw[ne];simp only[Bool.false_eq_true,if_false];refine Ya ?_;unfold Builtin.Dict.takeOut
 try with_reducible refine Jp ?_
 refine Ya (knd.pyHash hu hkey ?_);refine Ya (wpAny_dictFind_heap (s:={ s with toks:=s.toks+knd.draws k }) hu hkey ho hd he hk hn (λno=>by rw[atKey_none_of_get no]at hp;cases hp) λj q hj=>?_);have ej:es[j]? = some (entryOfKey knd (k,q)):=by rw[entry_at he j,hj];rfl
 have eq:q=p:=by rw[atKey_of_get hn hj]at hp;exact Je hp
 subst eq;refine Ya (Y7 (s:={ s with toks:=s.toks+knd.draws k }) ho hd ?_);rw[ej];refine Ya (wpAny_updateDictKeys (hz:=hes) (s:={ s with toks:=s.toks+knd.draws k }) ho hd (Yb ?_));simp only[Option.isNone_some,Bool.false_eq_true,if_false];refine Ya (wpAny_letGo (Yb ⟨q.2,Z,h _ ⟨_,_,ep+1,Heap.get?_update_self _ ho (Obj.isFreed_of_dict (Obj.data_mapDictKeys hd _)),hc.mapDictKeys _,Obj.data_mapDictKeys hd _,?_,?_,?_⟩ (Heap.SameBut.update ..)⟩))
 ·rw[<- zfz hn hj];have:(es.toList.eraseIdx j)=(xs.eraseIdx j).map (entryOfKey knd):=by rw[he,zjb]
  rw[<- this];obtain⟨l⟩:=es;simp
 ·intro x hx;exact knd.keeps (hk x (List.mem_filter.mp hx).1) ho hd (Heap.SameBut.update ..)
 ·exact hn.sublist (List.filter_sublist.map _)
end
theorem KT.drop{H:Hp}{kvs:List (List Key×V)}{xs:List (List Key×Addr×Value)}(r:KT H kvs xs)(k:List Key):KT H (zf7 kvs k) (xs.filter λx=>decide (x.1≠k)):=by
 unfold zf7;induction r with
 | nil=>exact .nil
 | @cons p q ps qs h t ih=>
  obtain⟨h1,h2⟩:=h;rw[List.filter_cons,List.filter_cons];by_cases e:p.1=k
  ·have a:¬decide (p.1≠k)=true:=by simp[e]
   have b:¬decide (q.1≠k)=true:=by simp[h1.symm.trans e]
   rw[Yh a,Yh b];exact ih
  ·have e':¬q.1=k:=λz=>e (h1.trans z)
   have a:decide (p.1≠k)=true:=by simp[e]
   have b:decide (q.1≠k)=true:=by simp[e']
   rw[Yl a,Yl b];exact .cons ⟨h1,h2⟩ ih
section
variable{X:Cx}
def zxn:V->List V->Hp->VK->Prop:=λx vs H Q=>∃d b kvs k v,x=.ref d/\vs=[.ref b]/\H d=some (.dT kvs)/\H b=some (.tup (k.map kV))/\valV kvs k=some v/\Q v (upd H d (.dT (zf7 kvs k)))
theorem zsn(hu:X.A.units+1<cLine):MtR X "dict.pop" zxn:=by
 intro pins s σ H x vs v us Q I rx rv h;obtain⟨d,b,kvs,k,val,rfl,rfl,hH,hb,hv,q⟩:=h
 cases rx;obtain⟨u,rfl,ru⟩:=zg1 rv
 cases ru;obtain⟨z,hd,xs,rel,dd⟩:=zpv I.hok hH;have hz:xs.length<=sizeLine:=by rw[<- Paired.length rel];exact z
 obtain⟨w',hw,rw'⟩:=RelO.some_of (v:=val) (o:=(atKey xs k).map (·.2)) (by rw[<- hv];exact rel.val k);obtain⟨p,hp,rfl⟩:=Option.map_eq_some_iff.mp hw;refine zoi (knd:=tupleKind (za8 X.prog X.w)) (tupleKind_room_in1 hu) (zgz I.hok hb) hz dd hp λh' dd' hs=>⟨val,_,?_,rw',q⟩
 obtain⟨o,es,ep,h1,h2,h3,h4,_,h5⟩:=dd';refine zh0 I (by rw[hH];exact True.intro) hs ⟨o,h1⟩ ⟨Yr (zhm kvs k) z,hd,_,(rel.drop k).keeps λc ys ec=>?_,o,es,ep,h1,h2,h3,h4,h5⟩;rw[zal (zep ec hH (λz=>nomatch z))];exact ec
theorem znh{o e:Expr}{to:TE}{t:TA}{apos cpos:Pos}(hu:X.A.units+1<cLine)(ho:PE X o to)(ha:PA X [e] t)(hbase:attributeBase o "pop" X.env (eval o X.env)=eval o X.env:=by rfl)
  (hfew:((backTo cpos (starEach (e::[]) X.env)).all (λx => !x.1)&&(backToKw cpos (keywordEach [] X.env)).all (λx=>x.1.isSome)
   && decide ((e::[]).length+([]:List Keyword).length+(if ([]:List Keyword).isEmpty then 0 else 1)<30))=true:=by rfl)
  (hline:(apos.endLine == cpos.line)=true:=by rfl) (hs:starEach (e::[]) X.env=(false,eval e X.env)::starEach [] X.env:=by rfl) (hplain:(backTo cpos (starEach [] X.env)).any (·.1)=false:=by rfl) :
  PE X (.Call (.Attribute o "pop" apos) [e] [] cpos) (tBM X.K "dict" zxn to t):=zjx PySem.F.plainAttrs_dict PySem.F.slot_dict_pop PySem.F.type_dict_pop (zsn hu) ho ha hbase hfew hline hs hplain
end
theorem zb8{d:Addr}{o:Obj}{kvs:List (List Key×V)}{g:TG}{tb:TS}{D:Ends}{σ : St}{H:Hp}(Pv:Nat->St->Hp->Prop)(h0:Pv 0 σ H)(hl:∀i σ H,Pv i σ H->FzD H d o kvs)
  (hs:∀i k v σ H p b,kvs[i]? = some (k,v)->Pv i σ H->H p=none->H b=some (.tup (k.map kV))->g (.ref p) σ (upd H p (.tup [.ref b,v])) λσ2 H2=>tb { D with nx:=Pv (i+1),ct:=Pv (i+1),bk:=D.nx } σ2 H2) (hd:∀σ H,Pv kvs.length σ H->D.nx σ H) :
  ∃W:Nat->Nat->St->Hp->Prop,(∃m,W 0 m σ H)/\∀i m σ H,W i m σ H ->
   ((ItI d o kvs).stop i H/\D.nx σ H)\/((ItI d o kvs).go i H/\∃N:St->Hp->Prop,(∀σ' H',N σ' H'->∃m',m'<m/\W (i+1) m' σ' H')/\∀x H',(ItI d o kvs).yld i H x H'->g x σ H' λσ2 H2=>tb { D with nx:=N,ct:=N,bk:=D.nx } σ2 H2):=by
 refine⟨λi m σ H=>m=kvs.length-i/\i<=kvs.length/\Pv i σ H,⟨kvs.length,by simp,Y2 _,h0⟩,?_⟩;rintro i m σ H ⟨rfl,hi,p⟩;have q:=hl i σ H p;by_cases hlt:i<kvs.length
 ·refine .inr ⟨⟨q,hlt⟩,Pv (i+1),λσ' H' p'=>⟨kvs.length-(i+1),by omega,Z,hlt,p'⟩,λx H' y=>?_⟩;obtain⟨p',b,k,v,hp,hk,hb,rfl,rfl⟩:=y;exact hs i k v σ H p' b hk p hp hb
 ·have z:i=kvs.length:=by omega
  subst z;exact .inl ⟨⟨q,Yi _⟩,hd σ H p⟩
end L2
namespace L2
open PySem PySem.Spec PyProof.Rows
def hsI(xs:List Int):Int:=reduceHash (Builtin.Tuple.tupleHashOf (xs.map hashInt))
theorem ze9{α : Type}{f : α->Int}:∀{l:List α} {e : α},(l.map f).Nodup->e∈l->(l.filter λx=>f x == f e).length<=1
 | [],e,_,h=>by cases h
 | x::l,e,hn,h=>by
  rw[Yz,List.nodup_cons]at hn;rw[List.filter_cons];by_cases q:f x=f e
  ·have z:(l.filter λy=>f y == f e)=[]:=by
    rw[List.filter_eq_nil_iff];intro y hy hb;exact hn.1 (Jh.mpr ⟨y,hy,(beq_iff_eq.mp hb).trans q.symm⟩)
   rw[Yl (beq_iff_eq.mpr q),z];exact Yi 1
  ·rw[Yh (λz=>q (beq_iff_eq.mp z))];refine ze9 hn.2 ?_;rcases Yj.mp h with z | z
   ·exact absurd (Jt f z.symm) q
   ·exact z
section
variable{prog:Program}{w:World}{κ : Type}[DecidableEq κ]{kk:KeyKind prog w κ}{A:Around}{E:Value->Shared->Prop}{s:Shared}
theorem zjw{a:Addr}{Q:Bool->Shared->Prop}(hT:s.TypeIs (.ref a) "tuple")(h:Q false s):wpAny (model prog w) A (Builtin.Dict.quietEq (.ref a)) Q E s:=by
 unfold Builtin.Dict.quietEq;refine Ya (wpAny_specialOf hT F.slot_tuple_eq.lookup (Yb ?_));exact h
theorem zl1{nm:String}{o:Addr}{ob:Obj}{es:Array DictEntry}{ep:Nat}{xs:List (List κ×Addr×Value)}{Q:Array DictEntry->Shared->Prop}(hob:s.heap.get? o=some ob)(hdt:ob.data=.dict es ep)
  (he:es.toList=xs.map (entryOfKey (tupleKind kk))) (hk:∀x∈xs,(tupleKind kk).is s.heap x.1 x.2.1) (hn:(xs.map λx=>(tupleKind kk).hash x.1).Nodup) (h:Q es s):wpAny (model prog w) A (Builtin.Dict.entriesForEmpty nm o) Q E s:=by
 unfold Builtin.Dict.entriesForEmpty;refine Ya (Y7 hob hdt ?_);refine Ya ?_;rw[<- Array.forIn_toList];have hn':(es.toList.map (·.hash)).Nodup:=by rw[he,Jg];exact hn
 refine wpAny_forIn_list _ (λrest (_:PUnit) s'=>s'=s/\∀e∈rest,e∈es.toList) _ ?_ ?_ _ _ ⟨Z,λe z=>z⟩
 ·rintro e rest b s' ⟨rfl,hin⟩;have hm:=hin e List.mem_cons_self;obtain⟨x,hx,rfl⟩:=Jh.mp (by rw[<- he];exact hm);refine Ya (zjw (IsTupleKey.typeIs (hk x hx)) ?_);simp only[Bool.not_false,if_true];have le:¬((es.filter λz=>z.hash == (entryOfKey (tupleKind kk) x).hash).size > 1):=by
   obtain⟨l⟩:=es;have q:(l.filter λz=>z.hash == (entryOfKey (tupleKind kk) x).hash).length<=1:=ze9 (f:=λz:DictEntry=>z.hash) hn' hm;have:(Array.filter (λz=>z.hash == (entryOfKey (tupleKind kk) x).hash) { toList:=l }).size=(l.filter λz=>z.hash == (entryOfKey (tupleKind kk) x).hash).length:=by simp
   omega
  rw[Yh le];exact Yb ⟨Z,λe he=>hin e (List.mem_cons_of_mem _ he)⟩
 ·rintro b s' ⟨rfl,_⟩;exact Yb h
theorem zv6{nm:String}{d o:Addr}{xs:List (List κ×Addr×Value)}{Q:Unit->Shared->Prop}(hdo:d≠o)(hoS:(o == sysModules)=false)
  (hd:s.heap.DictOfH (tupleKind kk) d []) (ho:s.heap.DictOfH (tupleKind kk) o xs) (hn:(xs.map λx=>(tupleKind kk).hash x.1).Nodup)
  (hQ:∀h',h'.DictOfH (tupleKind kk) d xs->Heap.SameBut d s.heap h'->Q () { s with heap:=h' }) (hsz:xs.length<=sizeLine) :
  wpAny (model prog w) A (Builtin.Dict.mergeDict nm d o) Q E s:=by
 obtain⟨od,esd,epd,hod,hcd,hdd,hed,hkd,hnd⟩:=id hd;obtain⟨oo,eso,epo,hoo,hco,hdo',heo,hko,hno⟩:=id ho;unfold Builtin.Dict.mergeDict;rw[Yh (by simpa using hdo)];unfold Builtin.Dict.showsAll;rw[Yh (by rw[hoS];exact Yt)];refine Ya (Yb ?_);refine Ya (Y7 hoo hdo' ?_);have hde:esd.isEmpty=true:=by
  obtain⟨l⟩:=esd;have:l=[]:=hed;subst this;rfl
 cases xs with
 | nil=>
  have hoe:eso = #[]:=by
   obtain⟨l⟩:=eso;have:l=[]:=heo;subst this;rfl
  subst hoe;have few:(decide ((#[]:Array DictEntry).size<=8)&&(#[]:Array DictEntry).all λe=>(keyPart e.key).isSome)=true:=by simp
  simp only[few,Bool.not_true,Bool.false_eq_true,if_false]
  refine Ya (wpAny_dictEpoch hoo hdo' ?_);refine Ya (Y7 hoo hdo' ?_);refine Ya ?_;rw[Std.Legacy.Range.forIn_eq_forIn_range'];refine wpAny_forIn_list _ (λrest (_:PUnit) s'=>rest=[]/\s'=s) _ ?_ ?_ _ _ ⟨Z,Z⟩
  ·rintro x rest b s' ⟨z,_⟩;cases z
  ·rintro b s' ⟨_,rfl⟩;exact Yb (hQ _ hd (Heap.SameBut.refl _ _))
 | cons x xs=>
  have hne:¬(eso.isEmpty=true):=by
   obtain⟨l⟩:=eso;have:l=(x::xs).map (entryOfKey (tupleKind kk)):=heo;subst this;simp
  have few:(decide (eso.size<=8)&&eso.all λe=>(keyPart e.key).isSome)=false:=by
   obtain⟨l⟩:=eso;have:l=(x::xs).map (entryOfKey (tupleKind kk)):=heo;subst this;have:(keyPart (entryOfKey (tupleKind kk) x).key).isSome=false:=rfl;simp[this]
  simp only[few,Bool.not_false,if_true]
  refine Ya (Y7 hod hdd ?_);simp only[hde,if_true];refine Ya (zl1 hoo hdo' heo hko hn ?_);rw[Bool.eq_false_iff.mpr hne];simp only[Bool.not_false,if_true];refine Ya (wpAny_updateDictKeysTo (hz':=by
   have:eso.size=(x::xs).length:=by rw[<- Array.length_toList,heo,Yd]
   show eso.size<=_;omega) hod hdd (Yb (hQ _ ⟨_,_,epd+1,Heap.get?_update_self _ hod (Obj.isFreed_of_dict (Obj.data_mapDictKeys hdd _)),
   hcd.mapDictKeys _,Obj.data_mapDictKeys hdd _,heo,λx hx=>?_,hno⟩ (Heap.SameBut.update ..))))
  exact(tupleKind kk).keeps (hko x hx) hod hdd (Heap.SameBut.update ..)
theorem zlo{o:Addr}{xs:List (List κ×Addr×Value)}{Q:Value->Shared->Prop}(hoS:(o == sysModules)=false)(ho:s.heap.DictOfH (tupleKind kk) o xs)(hn:(xs.map λx=>(tupleKind kk).hash x.1).Nodup)(hsz:xs.length<=sizeLine)
  (h:∀h',h'.DictOfH (tupleKind kk) s.heap.objs.size xs->Heap.SameBut s.heap.objs.size (s.heap.push { cls:=.type "dict",data:=.dict #[] }) h'->Q (.ref s.heap.objs.size) { s with heap:=h' }) :
  wpAny (model prog w) A (call (.type "dict") [.ref o]) Q E s:=by
 refine callType_codes (Q₁:=λobj s₁=>obj=.ref s.heap.objs.size/\s₁={ s with heap:=s.heap.push { cls:=.type "dict",data:=.dict #[] } }) F.kt_called_dict (F.kt_typeCall_dict_1 _) F.entry_dict_init (kt_code_dict_new _ ⟨Z,Z⟩) ?_;rintro obj s₁ ⟨rfl,rfl⟩;have hnew:(s.heap.push { cls:=.type "dict",data:=.dict #[] }).DictOfH (tupleKind kk) s.heap.objs.size []:=⟨_,_,_,Yk _ rfl,⟨Z,Z,Z⟩,Z,Z,λx hx=>(by cases hx),List.nodup_nil⟩;have hdo:s.heap.objs.size≠o:=by
  obtain⟨_,_,_,hg,_⟩:=ho;exact λe=>absurd (Yn hg) (by rw[e];exact Nat.lt_irrefl _)
 have ho':(s.heap.push { cls:=.type "dict",data:=.dict #[] }).DictOfH (tupleKind kk) o xs:=by
  obtain⟨ob,es,ep,h1,h2,h3,h4,h5,h6⟩:=ho;refine⟨ob,es,ep,Ye _ h1,h2,h3,h4,λx hx=>?_,h6⟩;obtain⟨q1,q2,q3,q4,q5⟩:=h5 x hx;exact⟨q1,q2,q3,Ye _ q4,q5⟩
 refine⟨hnew.typeIs,F.args_dict_init_2 _ _,?_⟩;unfold Builtin.«dict.__init__»;refine Ya ?_;unfold Builtin.Dict.selfAndRest;refine Ya (wpAny_notOrdered_dict hnew.typeIs ?_);show wpAny _ _ (pure (s.heap.objs.size,[Value.ref o])) _ _ _;refine Yb ?_;show wpAny _ _ (Builtin.Dict.updateFrom "dict.__init__" s.heap.objs.size (.ref o) [] .none) _ _ _;unfold Builtin.Dict.updateFrom;refine Ya (wpAny_typeOf ho'.typeIs ?_);rw[Yh (by decide)];refine Ya ?_;unfold Builtin.Dict.merge;refine Ya ?_;unfold Builtin.Dict.readDirectly;refine Ya (wpAny_isInstance ho'.typeIs isSubtype_dict_dict ?_);simp only[Bool.not_true,Bool.false_eq_true,if_false];refine Ya (wpAny_specialOf ho'.typeIs F.slot_dict_iter.lookup (Yb ?_));simp only[beq_self_eq_true,if_true];refine Ya (Yb ?_);refine zv6 (hsz:=hsz) hdo hoS hnew ho' hn λh' hd' hs'=>?_
 show wpAny _ _ (Builtin.Dict.addKeywords s.heap.objs.size [] >>= _) _ _ _;exact Ya (Yb (Yb ⟨Z,h h' hd' hs'⟩))
end
def HDs(kvs:List (List Key×V)):Prop:=∃ts:List (List Int),kvs.map (·.1)=ts.map (λt=>t.map Sum.inl)/\(ts.map hsI).Nodup
theorem KT.keysEq{H:Hp}{kvs:List (List Key×V)}{xs:List (List Key×Addr×Value)}(r:KT H kvs xs):xs.map (·.1)=kvs.map (·.1):=by
 induction r with
 | nil=>rfl
 | cons h t ih=>rw[Yz,Yz,ih,h.1]
section
variable{X:Cx}
theorem zsr(P:Program)(w:World)(t:List Int):(tupleKind (za8 P w)).hash (t.map Sum.inl)=hsI t:=by
 show reduceHash (Builtin.Tuple.tupleHashOf ((t.map Sum.inl).map (za8 P w).hash))=_;rw[Jg];rfl
theorem zlx:CallR X (.type "dict") (λxs H Q=>∃d kvs,xs=[.ref d]/\H d=some (.dT kvs)/\HDs kvs/\∀p,H p=none->Q (.ref p) (upd H p (.dT kvs))):=by
 intro pins s σ H xs us Q I r h;obtain⟨d,kvs,rfl,hH,⟨ts,hts,htn⟩,q⟩:=h;obtain⟨u,rfl,rx⟩:=zg1 r
 cases rx;obtain⟨z,hd,ys,rel,dd⟩:=zpv I.hok hH;have hz:ys.length<=sizeLine:=by rw[<- Paired.length rel];exact z
 have kys:ys.map (·.1)=kvs.map (·.1):=KT.keysEq rel;have hn:(ys.map λx=>(tupleKind (za8 X.prog X.w)).hash x.1).Nodup:=by
  have e:(ys.map λx=>(tupleKind (za8 X.prog X.w)).hash x.1)=(ys.map (·.1)).map (tupleKind (za8 X.prog X.w)).hash:=by rw[Jg];rfl
  rw[e,kys,hts,Jg];have e2:(ts.map ((tupleKind (za8 X.prog X.w)).hash ∘ λt=>t.map Sum.inl))=ts.map hsI:=List.map_congr_left λt _=>zsr _ _ t
  rw[e2];exact htn
 refine zlo (kk:=za8 X.prog X.w) hd dd hn hz λh' dd' hs=>?_
 have kp:∀b o',s.heap.get? b=some o'->h'.get? b=some o':=λb o' e=>by
  rw[hs.2 b (Y0 (Yn e))];exact Ye _ e
 obtain⟨o,es,ep,h1,h2,h3,h4,_,h5⟩:=dd';have nf:=I.hok.fresh (Yi s.heap.objs.size);refine⟨.ref s.heap.objs.size,_,I.laid (t':=s.toks) kp (Yi _) (show ObjOk X.prog X.w _ h' _ (.dT kvs) from⟨z,?_,ys,rel.keeps λc yy ec=>?_,o,es,ep,h1,h2,h3,h4,h5⟩),Z,q _ nf⟩
 ·exact beq_eq_false_iff_ne.mpr (Nat.ne_of_gt I.big)
 ·rw[zal (λe=>by rw[e,nf]at ec;cases ec)];exact ec
end
end L2
set_option Elab.async false
set_option linter.all false
set_option maxRecDepth 100000
namespace L2
open PySem PySem.Spec PySem.W PySem.Calls PyProof.Rows Builtin Builtin.ObjectAttr Builtin.Getset_descriptor
structure ExcI(K:Frag)(C:Addr):Prop where
 ga:findIn K (.ref C) "__getattribute__" = some (some (.builtin "BaseException.__getattribute__"))
 gn:findIn K (.ref C) "__getattr__" = some none
 cl:findIn K (.ref C) "__class__" = some (some (.builtin "object.__class__"))
 sp:specialIn K (.builtin "object.__class__") "__get__" = some (some (.builtin "getset_descriptor.__get__"))
 tk:takesIn K (.builtin "object.__class__")=some true
 mo:mroIn K C (.type "object")=some true
 mb:mroIn K C (.type "BaseException")=some true
 hd:hasDictIn K C=true
section
variable{prog:Program}{w:World}{A:Around}{E:Value->Shared->Prop}{s:Shared}{K:Frag}{x C:Addr}
theorem zxk{R:Result->Shared->Prop}{tp:Value}(X:K.In s.heap)(L0:∀M,Looks M s.heap (typeOf (.ref x)) (.ref C))(Zq:ExcI K C)
  (h:R (.ok (.ret (.ref C))) s):codeAny (model prog w) A (.call (.builtin "getset_descriptor.__get__") ⟨[.builtin "object.__class__",.ref x,tp],[]⟩) R s:=by
 obtain⟨hh,g,dr,t,os⟩:=s;have l0:=L0 (model prog w);have l1:=looks_mroIn (M:=model prog w) X Zq.mo;refine codeAny_call_builtin KF.slot_gs.plain KF.entry_gs (KF.slot_gs.check _ _ _ _ _ _ _ _ KF.type_class (KF.args_gs _ _ _) ?_);unfold Builtin.«getset_descriptor.__get__» descrGet;rw[dga_obj];refine Ya (Yb ?_);unfold descrGetter descrCheckInstance descrNameAndClass isInstance;simp only[KF.owner_class]
 repeat lk
 refine⟨Code.quiet_builtin _ (by decide +kernel),codeAny_builtin KF.entry_class ?_⟩;unfold Builtin.«object.__class__» shownTypeOf;(repeat lk);exact h
theorem ztt{M:Model}{h:Heap}(X:K.In h)(Zq:ExcI K C):Looks M h (ObjectAttr.find (.ref x) (.ref C) "__class__") (.bind (.builtin "getset_descriptor.__get__") (.builtin "object.__class__")):=by
 have l1:=looks_findIn (M:=M) X Zq.cl;have l2:Looks M h (getOf (some (.builtin "object.__class__"))) (some (.builtin "getset_descriptor.__get__")):=looks_specialIn X Zq.sp;have l3:=looks_takesIn (M:=M) X Zq.tk;exact l1.andThen (l2.andThen ((show Looks M h (dataDescriptor? (some _) (some _)) (some (_,_)) from l3.andThen .now).andThen (Looks.tag .now)))
theorem zp4{tk:Tok}{Q:Fin->Shared->Prop}(X:K.In s.heap)(L0:∀M,Looks M s.heap (typeOf (.ref x)) (.ref C))(Zq:ExcI K C)(h:Q (.done (.ret (.ref C))) s) :
  wpAny (model prog w) A (Builtin.«object.__getattribute__» ⟨[.ref x,.str "__class__" tk],[]⟩) Q E s:=by
 obtain⟨hh,g,dr,t,os⟩:=s;have l0:=L0 (model prog w);have l1:=ztt (x:=x) (M:=model prog w) X Zq;refine Ya (Yb (Ya (Yb (Ya (l0.at (Ya (l1.at ?_)))))));show wpAny _ _ (bindTo _ _ _ _) _ _ _;unfold bindTo;refine Ya (Jp (wpAny_call (zxk (s:=⟨hh,g,dr,t,os⟩) X L0 Zq ?_)));exact Yb h
theorem zp0{M:Model}{nv:Value}{Q:Unit->Shared->Prop}(X:K.In s.heap)(L0:∀M,Looks M s.heap (typeOf (.ref x)) (.ref C))(Zq:ExcI K C)(h:Q () s) :
  wpAny M A (checkBuiltinCall "BaseException.__getattribute__" ⟨[.ref x,nv],[]⟩) Q E s:=by
 obtain⟨hh,g,dr,t,os⟩:=s;have l0:=L0 M;have l1:=looks_mroIn (M:=M) X Zq.mb;have hk:builtinKind "BaseException.__getattribute__" = some .slot:=by decide +kernel
 have hs:splitId "BaseException.__getattribute__" = some ("BaseException","__getattribute__"):=by decide +kernel
 have ha:=F.args_bexc_ga (.ref x) nv;simp only[checkBuiltinCall,hk,hs];refine Ya ?_;unfold isInstance
 repeat lk
 exact h
theorem zty{Q:Option Value->Shared->Prop}(X:K.In s.heap)(L0:∀M,Looks M s.heap (typeOf (.ref x)) (.ref C))(Zq:ExcI K C)(h:Q (some (.ref C)) { s with toks:=s.toks+1 }) :
  wpAny (model prog w) A (getAttr? (.ref x) "__class__") Q E s:=by
 obtain⟨hh,g,dr,t,os⟩:=s;have l0:=L0 (model prog w);have l1:=looks_findIn (M:=model prog w) X Zq.ga;have l2:=looks_findIn (M:=model prog w) X Zq.gn;have hx2:(Value.builtin "BaseException.__getattribute__" == Value.builtin "object.__getattribute__")=false:=by decide +kernel
 have hx1:(onTheHeap (Value.ref C)&&Value.builtin "BaseException.__getattribute__" == Value.builtin "object.__getattribute__")=false:=by rw[hx2];rfl
 unfold getAttr? getAttrBy? getAttrBy;refine Ya (wpAny_mkText (Ya (wpAny_attempt (Jp (Ya (l0.at (Ya (l1.at ?_))))))));dsimp only;rw[Yh (by rw[hx1];decide)];unfold getAttrByItsOwn hookBefore;rw[Yl (show onTheHeap (Value.ref C)=true from rfl)];refine Ya (l2.at (Ya (wpAny_attempt (Jp ?_))));have f3:bindSpecial (.builtin "BaseException.__getattribute__") (.ref x)=pure (.builtin "BaseException.__getattribute__",[.ref x]):=by
  have hop:withoutEnding? "BaseException.__getattribute__" "#opaque" = none:=by decide +kernel
  have hdat:withoutEnding? "BaseException.__getattribute__" "#data" = none:=by decide +kernel
  have hk:builtinKind "BaseException.__getattribute__" = some .slot:=by decide +kernel
  simp only[bindSpecial,typeOf,builtinType,hop,hdat,hk];rfl
 unfold callGetattribute boundAndCalled;rw[Yh (by simp),f3];refine Ya (Yb (wpAny_call (codeAny_call_builtin ?_ F.entry_bexc_ga (zp0 (s:=⟨hh,g,dr,t+1,os⟩) X L0 Zq (zp4 (s:=⟨hh,g,dr,t+1,os⟩) X L0 Zq ?_)))))
 ·decide +kernel
 ·show wpAny _ _ (handedOut (.ref C)) _ _ _;have hq:handedOut (Value.ref C)=pure (Value.ref C):=rfl;rw[hq];exact Yb (Yb h)
def IsExc(a C:Addr)(h:Heap):Prop:=∃o,h.get? a=some o/\o.cls=.ref C
theorem zxr{a:Addr}(Zq:ExcI K C):KitX K (.ref a) (.ref C) (IsExc a C) where
 ty:=λ_ _ _ ⟨_,e,c⟩=>c ▸ (Looks.ld e).andThen .now
 it:=λ_ _ X _=>by
  obtain⟨cd,hc,_⟩:=any_some Zq.hd;unfold clsIn at hc;split at hc
  ·rename_i ho
   intro _ _ _ _ k q;unfold isType loadHead;exact Ya (wpAny_loadPart (k _ _ (X _ _ ho)) (Yb q))
  ·cases hc
 ne:=λh tp _ _ _ _ X htp=>by
  obtain⟨cd,hc,_⟩:=any_some Zq.hd;refine Bool.eq_false_iff.mpr λq=>?_
  cases Value.ref.inj (beq_iff_eq.mp q);unfold clsIn at hc;split at hc
  ·rename_i ho
   have z:=(X _ _ ho).symm.trans htp;cases z
  ·cases hc
 ca:=λX ⟨_,e,c⟩ k=>zty X (λ_=>c ▸ (Looks.ld e).andThen .now) Zq k
end
def excO(a C:Addr):HO:=.ext (IsExc a C)
def zup(K:Frag):List V->Hp->VK->Prop:=λxs H Q=>∃(a C:Addr) (y:V) (c:Value) (b:Bool),xs=[.ref a,y]/\clV y=some c/\H a=some (excO a C)/\ExcI K C/\kitOne K (.ref C) c=some b/\Q (.bl b) H
theorem zfo{X:Cx}{K:Frag}(hK:X.K=K):CallR X (.builtin "isinstance") (zup K):=by
 subst hK;intro pins s σ H xs us Q I r h;obtain⟨a,C,y,c,b,rfl,hy,ha,Zq,e,q⟩:=h;obtain⟨u,v,rfl,ru,rv⟩:=r.two
 cases (show u=Value.ref a from ru);have ev:v=c:=by
  cases y with
  | ty n=>cases hy;exact rv
  | ref a=>cases hy;exact rv
  | _=>cases hy
 subst ev;obtain⟨p,_⟩:=(show ObjOk X.prog X.w H s.heap a (.ext (IsExc a C)) from I.hok a _ ha);exact kia_one (zxr Zq) I.kIn p e (λz=>nomatch z) λtk=>⟨.bl b,H,I.tok _,Z,q⟩
end L2
namespace L2
open PySem PySem.Spec PyProof.Rows
def Ends.away(i:Nat)(D:Ends):Ends:={ D with nx:=λσ H=>D.nx (σ.set i none) H,bk:=λσ H=>D.bk (σ.set i none) H,ct:=λσ H=>D.ct (σ.set i none) H }
section
variable{X:Cx}{pins:List (Addr×Obj)}{σ : St}{H:Hp}{s:Shared}{i:Nat}{n:Str}{pos:Pos}
theorem Inv.away{h':Heap}{m:Str->Option Value}{v:Option Value}{t':Nat}(I:Inv X pins σ H s)(hN:X.N.Nodup)(hi:X.N[i]? = some n)(hl:X.env.scope.names.lookup n=some .local)
  (hm:∀(j:Nat) (x:Str) (v:V),X.N[j]? = some x->σ[j]? = some (some v)->Vis X.env.scope x->∃u,RelV v u/\Look X.env s.heap m x u) (hn0:s.heap.Ns X.env.locals m) (hn:h'.Ns X.env.locals (λx=>if x=n then v else m x)) (hs:Heap.SameBut X.env.locals s.heap h') :
  Inv X pins (σ.set i none) H { s with heap:=h',toks:=t' }:=by
 obtain⟨oL,_,_,hoL,_⟩:=id hn0;have ne:∀b o,X.s₀.heap.get? b=some o->b≠X.env.locals:=λb o e=>Y0 (Yf (Yn e) I.ok.above)
 refine⟨I.ok,I.os,I.bare,⟨λb o e n hb hx=>(hs.2 b (ne b o e)).trans (I.base.keep b o e n hb hx),λb o e n hb hx=>?_,I.base.free,λb o e hx=>?_,I.base.tups,I.base.frzs,I.base.tbls⟩,⟨_,hn,λj y v' e1 e2 e3=>?_⟩,λy c e=>?_,I.free,I.freeC,λp hp=>?_,λb ob e=>?_,by simpa using I.len⟩
 ·obtain⟨sl,e1⟩:=I.base.slot b o e n hb hx;exact⟨sl,(hs.2 b (ne b o e)).trans e1⟩
 ·obtain⟨o',e1⟩:=I.base.there b o e hx;exact⟨o',(hs.2 b (ne b o e)).trans e1⟩
 ·by_cases hj:j=i
  ·subst hj;rw[List.getElem?_set_self' ]at e2
   cases q : σ[j]? <;> rw[q]at e2 <;> cases e2
  ·rw[List.getElem?_set_ne (Jb hj)]at e2;obtain⟨u',r',q⟩:=hm j y v' e1 e2 e3;refine⟨u',r',?_⟩;rcases q with⟨k,e⟩ | ⟨k,c,e,z⟩
   ·refine .inl ⟨k,?_⟩;have:y≠n:=λe=>hj (zh9 hN e1 (e ▸ hi))
    simp[this,e]
   ·exact .inr ⟨k,c,e,z.sameBut hs (I.cne y c e)⟩
 ·obtain⟨w',z⟩:=I.cell y c e;exact⟨w',z.sameBut hs (I.cne y c e)⟩
 ·obtain⟨e,n,ne,nf,d⟩:=I.pin p hp;exact⟨(hs.2 p.1 ne).trans e,n,ne,nf,d⟩
 ·refine(I.hok b ob e).stay (λc w' hc q=>(hs.2 c ?_).trans q) (λ_ q=>q) λ_ _ q=>q
  rintro rfl;rcases hc with rfl | hc
  ·rw[I.free]at e;cases e
  ·rw[I.free]at hc;cases hc
theorem zhy{M:Model}{A:Around}{E:Value->Shared->Prop}{Q:Unit->Shared->Prop}(I:Inv X pins σ H s)(hN:X.N.Nodup)(hi:X.N[i]? = some n)(hl:X.env.scope.names.lookup n=some .local)
  (h:∀s',Inv X pins (σ.set i none) H s'->Q () s'):wpAny M A (do bindName X.env n .none;unbindBehindTheSuite X.env n pos) Q E s:=by
 obtain⟨m,hn,hm⟩:=id I.loc;exact wpAny_nameGoes_keeps hl hn (by rw[I.ok.kind];rfl) λh' v hn' hs=>h _ (I.away hN hi hl hm hn hn' hs)
end
def zul(K:W.Frag)(c:Value)(i:Nat)(tb:(St->XK)->TS)(th:TS):TS:=λD σ H=>tb (λσ' cls _ H'=>∃C,cls=.ref C/\W.exmOne K cls c=some true/\∀a,H' a=none->th (D.away i) (σ'.set i (some (.ref a))) (upd H' a (excO a C))) D σ H
theorem zo3{X:Cx}{body suite:List Stmt}{b₀:Stmt}{x n:Str}{i:Nat}{c:Value}{np hpos pos:Pos}{tb:(St->XK)->TS}{th:TS}(hN:X.N.Nodup)(hi:X.N[i]? = some n)(hl:X.env.scope.names.lookup n=some .local)(hstk:X.stack=X.env::X.outer)(hfr:X.env.frame=some X.env.locals)(hg:Gl X x)(hm:X.mg x=some c)
  (hb:∀(pl:List (Addr×Obj)) (E':Value->Shared->Prop) (E:St->XK),PassesS (CXe X.prog X.w) (X.wishP pl E') E->PSs (X.wishP pl E') body (tb E)) (hh:∀a,PSs (X.caught a) (b₀ :: suite) th) (hdb:(x == ("__debug__" : Str))=false:=by decide) :
  PS X (.Try body [.ExceptHandler (some (.Name x np)) (some n) (b₀ :: suite) hpos] [] [] pos) (zul X.K c i tb th):=by
 intro pins s σ H D I h;rw[arm_exec_Try];refine Ya (wpAny_standAt (wpAny_tryStmt_except ?_));have P:PassesS (CXe X.prog X.w) (X.wishP pins λe s1=>wpAny (model X.prog X.w) X.A (noteFrame e X.env) (λ_ s2=>wpAny (model X.prog X.w) X.A (setFlight e none) (λ_ s3=>
   wpAny (model X.prog X.w) X.A (handleBy e X.env [.ExceptHandler (some (.Name x np)) (some n) (b₀ :: suite) hpos]) (SP X pins D) X.xe s3) X.xe s2) X.xe s1) (λσ' cls _ H'=>∃C,cls=.ref C/\W.exmOne X.K cls c=some true/\∀a,H' a=none->th (D.away i) (σ'.set i (some (.ref a))) (upd H' a (excO a C))):=by
  intro pl σ1 H1 s1 e s2 I1 hq;have J1:=I1.unwishP;obtain⟨a,cls,a0,B,H',rfl,os,bare,un,hok,fl,cov,C,rfl,hx,hth⟩:=hq;have fl:Heap.FlyingW B (X.env::X.outer) a (.ref C) a0 s2.heap:=hstk ▸ fl;have un:Un (frs X.stack) [] H1 H' s1.heap s2.heap:=un;have cov:Cov B (frs X.stack) H' s1.heap:=cov;have ff2:s2.heap.FunFrames B X.stack:=hstk ▸ fl.2.2.1;have hfs:X.A.frames=some (X.env::X.outer):=hstk ▸ I.ok.frames;have nH:H' a=none:=by
   cases q:H' a with
   | none=>rfl
   | some u=>obtain⟨o',z⟩:=cov.trk a u q;rw[fl.2.1]at z;cases z
  have nf:a ∉ frs X.stack:=λhm=>by
   obtain⟨_,o,ho,hnf⟩:=ff2.mem hm;obtain⟨oe,vs,_,_,_,he,_,hd,_⟩:=fl.2.2.2;rw[he]at ho;cases ho;exact hnf vs hd
  have n1:∀o,s1.heap.get? a=some o->False:=λo q=>by obtain⟨o',z⟩:=cov.old a o q nf;rw[fl.2.1]at z;cases z
  refine wpAny_looks_onW hfs hfr fl λh3 held up3=>?_
  refine wpAny_landsW held λh4 fl4 up4=>?_
  have back:∀{h5:Heap},B.StaysIn h5->s2.heap.UpToSlots h5->Inv X pins σ1 H' { s2 with heap:=h5 }:=fun{h5} st up=>
   J1.call' (s':={ s2 with heap:=h5 }) (ch:=[]) os (zkk un cov fl.1 st (zma ff2 up)) (zkp hok cov.trk fl.1 st) bare λb z=>absurd z (by simp)
  have back2:∀{h5:Heap},B.StaysIn h5->s2.heap.UpToSlots h5->IsExc a C h5->Inv X pins σ1 (upd H' a (excO a C)) { s2 with heap:=h5 }:=fun{h5} st up ie=>by
   have u5:=zkk un cov fl.1 st (zma ff2 up);have k5:=zkp hok cov.trk fl.1 st;have ne:∀{b:Addr} {u:HO},H' b=some u->b≠a:=fun{b u} e z=>by rw[z,nH]at e;cases e
   refine J1.call' (s':={ s2 with heap:=h5 }) (ch:=[]) os ⟨u5.keep,u5.slot,λb o e nb hx=>?_,u5.there,λb xs e=>?_,λb o u e=>?_,λb ps e=>?_⟩ (λb u e=>?_) bare λb z=>absurd z (by simp)
   ·rw[zal (show b≠a from λz=>n1 o (by rw[<- z];exact e))];exact u5.free b o e nb hx
   ·have q:=u5.tups b xs e;rw[zal (ne q)];exact q
   ·have q:=u5.frzs b o u e;rw[zal (ne q)];exact q
   ·obtain⟨more,q⟩:=u5.tbls b ps e;exact⟨more,by rw[zal (ne q)];exact q⟩
   ·by_cases hb:b=a
    ·subst hb;rw[zaf]at e;cases e;obtain⟨o,ho,hc⟩:=ie;exact⟨⟨o,ho,hc⟩,⟨o,ho⟩,λh1 h2 ⟨o,z1,z2⟩ k=>⟨o,k o z1,z2⟩⟩
    ·rw[zal hb]at e;exact(k5 b u e).stay (λ_ _ _ q=>q) (λd q=>by rw[zal (ne q)];exact q) λd xs q=>by rw[zal (ne q)];exact q
  have J4:=back fl4.1 (up3.trans up4);refine wpAny_handleBy_cons (codeAny_handlers_test ?_) (by intro q;cases q);refine zed (J4.caught a) hg hm ?_ hdb;have LT:W.Looks (model X.prog X.w) h4 (typeOf (.ref a)) (.ref C):=by
   obtain⟨ob,hob,hc⟩:=fl4.there;exact hc ▸ (W.Looks.ld hob).andThen .now
  refine W.exm_one J4.kIn LT hx _ _ _ _ (λ_ _ q=>q) ?_;refine codeAny_handlers_suite_as (lands_againW fl4 λh5 fl5 up5=>?_);have J5:=back2 fl5.1 ((up3.trans up4).trans up5) fl5.there;refine zge J5 hN hi (.inl hl) (v:=.ref a) rfl (λs6 J6=>?_) (.inr hl);refine wpAny_mono (hh a pins _ _ _ (D.away i) (J6.caught a) (hth a nH)) (λf s7 q=>?_) λ_ _ z=>z.elim
  have q:=q.uncaught J6.ok.hd
  cases f with
  | next=>obtain⟨σ',H',I7,q⟩:=q;exact zhy I7 hN hi hl λs8 I8=>⟨_,_,I8,q⟩
  | brk=>obtain⟨σ',H',I7,q⟩:=q;exact zhy I7 hN hi hl λs8 I8=>⟨_,_,I8,q⟩
  | cont=>obtain⟨σ',H',I7,q⟩:=q;exact zhy I7 hN hi hl λs8 I8=>⟨_,_,I8,q⟩
  | ret u=>obtain⟨v,σ',H',I7,r,q⟩:=q;exact zhy I7 hN hi hl λs8 I8=>⟨v,_,_,I8,r,q⟩
 refine wpAny_mono (hb pins _ _ P [] s σ H D (I.wishP _) h) (λf s1 q=>?_) λ_ _ x=>x
 have q':=q.unwishP
 cases f with
 | next=>exact wpAny_execs_nil q'
 | brk=>exact q'
 | cont=>exact q'
 | ret u=>exact q'
end L2
namespace L2
open PySem PySem.Spec PyProof.Rows
def CMulC(i j:Int):Prop:=i.natAbs<2^20000/\j.natAbs<2^20000
theorem zbo{X:Cx}:OpR X (binaryOp .Mult) (rI CMulC λi j=>.int (i*j)):=opI λ_ _ _ _ _ _ _ hc q=>mul_int q (PySem.IntMulOk.of_bits (Yr (intBits_le hc.1) (by decide)) (Yr (intBits_le hc.2) (by decide)))
end L2
namespace L2
open PySem PySem.Spec PyProof.Rows
section
variable{X:Cx}
def zyc:V->List V->Hp->VK->Prop:=λx vs H Q=>∃a b,x=.str a/\vs=[.str b]/\Q (.int (Txt.find a b)) H
theorem zs3:MtR X "str.find" zyc:=by
 intro pins s σ H x vs u us Q I rx rv h;obtain⟨a,b,rfl,rfl,q⟩:=h;obtain⟨t,rfl⟩:=rx;obtain⟨v,rfl,t',rfl⟩:=rv.one;exact SC.find ⟨.int _,H,I.tok _,⟨_,rfl⟩,q⟩
theorem zmv:CallR X (.type "int") (λxs H Q=>∃a n,xs=[.str a]/\PySem.intText? a=some n/\a.length<=640/\Q (.int n) H):=by
 intro pins s σ H xs us Q I r h;obtain⟨a,n,rfl,hn,hl,q⟩:=h;obtain⟨u,rfl,t,rfl⟩:=zg1 r;exact W.KIN.call_text hn hl ⟨.int n,H,I.tok _,⟨_,rfl⟩,q⟩
def PE1(X:Cx)(e:Expr)(t:TE):Prop:=
 ∀(pins:List (Addr×Obj)) (s:Shared) (σ : St) (H:Hp) (Q:VK),Inv X pins σ H s->1<=s.toks->t σ H Q->wpAny (model X.prog X.w) X.A (eval e X.env) (EP X pins σ Q) X.xe s
def PSs1(X:Cx)(st:List Stmt)(t:TS):Prop:=
 ∀(pins:List (Addr×Obj)) (s:Shared) (σ : St) (H:Hp) (D:Ends),Inv X pins σ H s->1<=s.toks->t D σ H->wpAny (model X.prog X.w) X.A (execs st X.env) (SP X pins D) X.xe s
def zyj(i:Nat):TE:=λσ H Q=>∃a,σ[i]? = some (some (.str a))/\a.length<=1048576/\Q (.str (Txt.replace a " " "")) H
theorem zsg(i:Nat){x:Str}{p p1 p2 apos cpos:Pos}{j1 j2:Nat}(hN:X.N[i]? = some x:=by rfl)(hv:Vis X.env.scope x:=by first | exact Or.inl rfl | exact Or.inr (Or.inl rfl) | exact Or.inr (Or.inr rfl))(hd:(x == ("__debug__" : Str))=false:=by decide)
  (hcd:(x == ("__classdict__" : Str))=false:=by decide) (hbase:attributeBase (.Name x p) "replace" X.env (eval (.Name x p) X.env)=eval (.Name x p) X.env:=by rfl) (hline:(apos.endLine == cpos.line)=true:=by rfl)
  (htrees:backTo cpos (starEach [.Constant (.str " ") j1 p1,.Constant (.str "") j2 p2] X.env)=[(false,eval (.Constant (.str " ") j1 p1) X.env),(false,eval (.Constant (.str "") j2 p2) X.env)]:=by rfl) :
  PE1 X (.Call (.Attribute (.Name x p) "replace" apos) [.Constant (.str " ") j1 p1,.Constant (.str "") j2 p2] [] cpos) (zyj i):=by
 intro pins s σ H Q I tk h;obtain⟨a,e,hl,q⟩:=h;obtain⟨m,hn,hlo⟩:=I.loc;obtain⟨u,r,l⟩:=hlo i x (.str a) hN e hv;obtain⟨t,rfl⟩:=r;refine wpAny_Call_method2_late hbase hline htrees ?_;have fin:MethodOn X.prog X.w X.A "replace" cpos (.str a t) [(false,eval (.Constant (.str " ") j1 p1) X.env),(false,eval (.Constant (.str "") j2 p2) X.env)] (EP X pins σ Q) X.xe s:=by
  refine⟨"str","str.replace",PySem.F.plainAttrs_str,PySem.F.slot_str_replace,PySem.F.type_str_replace,typeIs_str _ _ _,(λ_ e=>nomatch e),?_⟩;refine Calls.callWith_builtin rfl (Calls.evalArgs_plain ?_);refine Calls.spliced_cons (Calls.Constant_str (Calls.spliced_cons (Calls.Constant_str (Calls.spliced_nil ?_))));refine SC.replaceW (by show (s.toks:Nat)≠0;omega) (by show (s.toks+1:Nat)≠0;omega) (by show (s.toks:Nat)≠s.toks+1;omega) (by decide +kernel) hl (by decide +kernel) λt' k=>⟨.str _,H,I.kept (t':=k) λ_ _ e=>e,⟨t',Z⟩,q⟩
 rcases l with⟨hk,hm⟩ | ⟨hk,c,hc,hcell⟩
 ·exact wpAny_Name (wpAny_loadName_local I.ok.kind hk hn hm fin) hd
 ·rcases hk with hk | hk
  ·exact wpAny_Name (wpAny_loadName_cell I.ok.kind hk hc hcell fin) hd
  ·exact wpAny_Name (wpAny_loadName_free I.ok.kind hk hc hcell fin hcd) hd
variable{o value:Expr}{ta tv:TE}{f:Str}{pos pos':Pos}{rest:List Stmt}{u:TS}
theorem zpp(ha:PE X o ta)(hv:PE1 X value tv)(hr:PSs X rest u)(hs:swapsWith value (some (.Attribute o f pos')) pos.line X.env=pure false:=by rfl):PSs1 X (.Assign [.Attribute o f pos'] value pos::rest) (tSeq (sFld X.K ta tv f) u):=by
 intro pins s σ H D I tk h;refine wpAny_execs_cons (thn (Q:=SP X pins { D with nx:=u D }) ?_ λfl s1 q=>?_)
 ·refine plainObj_wpAny_Assign_Attribute (thn (hv pins s σ H _ I tk h) λu s1 ⟨y,H1,I1,ry,q⟩=>thn (ha pins s1 σ H1 _ I1 q) λov s2 ⟨x,H2,I2,rx,a,C,dx,fs,ex,ea,c,n,l,q2⟩=>?_) hs;subst ex;obtain rfl:ov=Value.ref a:=rx;exact zfr I2 ea c n l ry λs3 I3=>⟨σ,_,I3,q2⟩
 ·cases fl with
  | next=>
   obtain⟨σ',H',I',q⟩:=q;exact hr pins s1 σ' H' D I' q
  | ret v=>exact q
  | brk=>exact q
  | cont=>exact q
theorem zl3{y:V}{u:Value}{A:Around}{E:Value->Shared->Prop}{pins:List (Addr×Obj)}{s:Shared}{σ : St}{H:Hp}{a C dx:Addr}{fs:List (Str×V)}{Q:Unit->Shared->Prop}(I:Inv X pins σ H s)(e:H a=some (.ins C dx fs))(c:Cls X.K C)(n:NoAttr X.K C f)(hl:fs.length<1000)(ry:RelV y u)
  (h:∀s',Inv X pins σ (upd H a (.ins C dx (putF f y fs))) s'->1<=s'.toks->Q () s'):wpAny (model X.prog X.w) A (setAttr (.ref a) f u) Q E s:=by
 obtain⟨mA,O,r,wi,_,ho⟩:=zgn I.hok e;have hz:(fs.map (·.1)).length<=sizeLine:=by rw[Yd,sizeLine_eq];omega
 refine zob I.kIn O c.sa c.po n.taker c.hd wi hz λh' O' sb=>h _ ?_ (by show 1<=(s.toks+2:Nat);omega)
 have hd:∃o,h'.get? dx=some o:=let ⟨o,_,_,e',_⟩:=O'.ns;⟨o,e'⟩;refine I.write (x:=a) (e:=dx) (by rw[e];exact True.intro) (.inr ho) (λb q hb z=>(sb.2 b hb).trans z) hd ?_;refine⟨by rw[zal O.ne];exact ho,?_,O.ne,O'.obj,_,O'.ns,λg=>?_,λg hg=>?_⟩
 ·have:=ze4 f y fs;omega
 ·show RelO ((putF f y fs).lookup g) (if g=f then some u else mA g);rw[zev];by_cases q:g=f
  ·rw[Yl q,Yl q];exact ry
  ·rw[Yh q,Yh q];exact r g
 ·by_cases q:g=f
  ·rw[q];exact(zea f y fs).1
  ·refine(zea f y fs).2 g (wi g λz=>hg ?_);show (if g=f then some u else mA g)=none;rw[Yh q];exact z
theorem zp9(ha:PE X o ta)(hv:PE X value tv)(hr:PSs1 X rest u)(hs:swapsWith value (some (.Attribute o f pos')) pos.line X.env=pure false:=by rfl):PSs X (.Assign [.Attribute o f pos'] value pos::rest) (tSeq (sFld X.K ta tv f) u):=by
 intro pins s σ H D I h;refine wpAny_execs_cons (plainObj_wpAny_Assign_Attribute (thn (hv pins s σ H _ I h) λu s1 ⟨y,H1,I1,ry,q⟩=>thn (ha pins s1 σ H1 _ I1 q) λov s2 ⟨x,H2,I2,rx,a,C,dx,fs,ex,ea,c,n,l,q2⟩=>?_) hs);subst ex;obtain rfl:ov=Value.ref a:=rx;exact zl3 I2 ea c n l ry λs3 I3 t3=>hr pins s3 σ _ D I3 t3 q2
end
end L2
set_option Elab.async false
set_option linter.all false
set_option maxRecDepth 100000
set_option Elab.async false
set_option linter.all false
set_option maxRecDepth 100000
set_option Elab.async false
set_option linter.all false
set_option maxRecDepth 100000
set_option Elab.async false
set_option linter.all false
set_option maxRecDepth 100000
namespace L2
open PySem PySem.Spec PyProof.Rows
section
variable{X:Cx}
def rZf:V->List V->Hp->VK->Prop:=λx vs H Q=>∃a i,x=.str a/\vs=[.int i]/\PadOk i=true/\Q (.str (Txt.zfill a i)) H
theorem zql:MtR X "str.zfill" rZf:=by
 intro pins s σ H x vs u us Q I rx rv h;obtain⟨a,i,rfl,rfl,hp,q⟩:=h;obtain⟨t,rfl⟩:=rx;obtain⟨v,rfl,t',rfl⟩:=rv.one;exact SC.zfill hp λt' k=>⟨.str _,H,I.kept (t':=k) λ_ _ e=>e,⟨t',rfl⟩,q⟩
end
end L2
namespace K1
def gI(a b:Int):Int:=((Int.gcd a b:Nat):Int)
theorem zok(a b:Int):0<=gI a b:=Int.natCast_nonneg _
theorem zd1{a b:Int}(h:b≠0):0<gI a b:=by
 have:0<Int.gcd a b:=Int.gcd_pos_of_ne_zero_right a h;unfold gI;omega
theorem zk5(a b:Int):gI a b ∣ a:=Int.gcd_dvd_left a b
theorem zgh(a b:Int):gI a b ∣ b:=Int.gcd_dvd_right a b
theorem zri(a:Int):gI a 1=1:=by unfold gI;simp
theorem zs2(a:Int)(h:0<=a):gI a 0=a:=by unfold gI;rw[Int.gcd_zero_right];omega
theorem zsy{a b:Int}(ha:0<=a)(hb:0<b):gI b (Int.fmod a b)=gI a b:=by
 unfold gI;congr 1;rw[Int.fmod_eq_emod_of_nonneg a (Int.le_of_lt hb)];show Nat.gcd b.natAbs (a%b).natAbs=Nat.gcd a.natAbs b.natAbs;have e:(a%b).natAbs=a.natAbs%b.natAbs:=by
  have h1:a=(a.natAbs:Int):=by omega
  have h2:b=(b.natAbs:Int):=by omega
  conv=>lhs;rw[h1,h2]
  rw[<- Int.natCast_emod];exact Int.natAbs_natCast _
 rw[e,Nat.gcd_comm a.natAbs,Nat.gcd_rec b.natAbs a.natAbs,Nat.gcd_comm]
structure Gc(a0 b0 a b:Int):Prop where
 is:gI a b=gI a0 b0
theorem start{a b:Int}(ha:0<=a)(hb:0<=b):0<=a/\0<=b/\Gc a b a b:=⟨ha,hb,⟨Z⟩⟩
theorem turn{a0 b0 a b:Int}(h:Gc a0 b0 a b)(ha:0<=a)(hb:0<b):0<=b/\0<=Int.fmod a b/\Gc a0 b0 b (Int.fmod a b):=
 ⟨by omega,Int.fmod_nonneg_of_pos a hb,⟨(zsy ha hb).trans h.is⟩⟩
theorem less{a b:Int}(hb:0<b):(Int.fmod a b).toNat<b.toNat:=by
 have:=Int.fmod_lt_of_pos a hb;have:=Int.fmod_nonneg_of_pos a hb;omega
theorem out{a0 b0 a b:Int}(h:Gc a0 b0 a b)(ha:0<=a)(hb:b=0):a=gI a0 b0:=by
 rw[<- h.is,hb,zs2 a ha]
theorem zqx(a b:Int):gI (if a<0 then -a else a) (if b<0 then -b else b)=gI a b:=by
 unfold gI;congr 1;have h (x:Int):(if x<0 then -x else x).natAbs=x.natAbs:=by split <;> omega
 show Nat.gcd _ _=Nat.gcd _ _;rw[h,h]
theorem coprime{d q1 q2:Int}(hd:d≠0)(h:gI (d*q1) (d*q2)=d\/gI (d*q1) (d*q2) = -d):gI q1 q2=1:=by
 unfold gI at h ⊢;rw[Int.gcd_mul_left]at h;have h0:(d.natAbs*Int.gcd q1 q2:Nat)=d.natAbs:=by
  rcases h with h | h <;> omega
 have:Int.gcd q1 q2=1:=by
  have hp:0<d.natAbs:=by omega
  exact Nat.eq_of_mul_eq_mul_left hp (by omega)
 rw[this];rfl
end K1
namespace K1
def dv(t b:Int):Int:=if b<0 then -(gI t b) else gI t b
def fT(t b:Int):Int:=t.fdiv (dv t b)
def fB(t b:Int):Int:=b.fdiv (dv t b)
theorem zmx(t b:Int):(dv t b).natAbs=Int.gcd t b:=by
 unfold dv gI;split <;> omega
theorem zo4{t b:Int}(h:b≠0):dv t b≠0:=by
 have:=zd1 (a:=t) h;unfold dv;split <;> omega
theorem zy9{t b:Int}(h:b≠0):(dv t b).natAbs<=b.natAbs:=by
 rw[zmx];exact Nat.le_of_dvd (by omega) (Nat.gcd_dvd_right _ _)
theorem zg4{d x:Int}{n:Nat}(h:d.natAbs=n)(hx:(n:Int) ∣ x):d ∣ x:=by
 rw[<- Int.natAbs_dvd,h];exact hx
theorem ex{t b:Int}(h:b≠0):∃q1 q2,t=dv t b*q1/\b=dv t b*q2/\fT t b=q1/\fB t b=q2:=by
 obtain⟨q1,e1⟩:=zg4 (zmx t b) (Int.gcd_dvd_left t b);obtain⟨q2,e2⟩:=zg4 (zmx t b) (Int.gcd_dvd_right t b);refine⟨q1,q2,e1,e2,?_,?_⟩
 ·unfold fT;have:=Int.mul_fdiv_cancel_left (a:=dv t b) q1 (zo4 h);rw[<- e1]at this;exact this
 ·unfold fB;have:=Int.mul_fdiv_cancel_left (a:=dv t b) q2 (zo4 h);rw[<- e2]at this;exact this
theorem zr2{t b:Int}(h:b≠0):1<=fB t b:=by
 obtain⟨q1,q2,_,e2,_,f2⟩:=ex (t:=t) h;rw[f2];have hp:=zd1 (a:=t) h;rcases(by omega:q2<=0\/1<=q2) with q | q
 ·exfalso;by_cases hb:b<0
  ·have ed:dv t b = -(gI t b):=by unfold dv;rw[Yl hb]
   rw[ed]at e2;have:=Int.mul_nonneg_of_nonpos_of_nonpos (show -(gI t b)<=0 by omega) q;omega
  ·have ed:dv t b=gI t b:=by unfold dv;rw[Yh hb]
   rw[ed]at e2;have:=Int.mul_nonpos_of_nonneg_of_nonpos (show 0<=gI t b by omega) q;omega
 ·exact q
theorem zm4{t b:Int}(h:b≠0):fT t b*b=t*fB t b:=by
 obtain⟨q1,q2,e1,e2,f1,f2⟩:=ex (t:=t) h;rw[f1,f2]
 conv=>lhs;rw[e2]
 conv=>rhs;rw[e1]
 rw[Int.mul_assoc,Int.mul_left_comm]
theorem zvq{t b:Int}(h:b≠0):gI (fT t b) (fB t b)=1:=by
 obtain⟨q1,q2,e1,e2,f1,f2⟩:=ex (t:=t) h;rw[f1,f2];refine coprime (d:=dv t b) (zo4 h) ?_;rw[<- e1,<- e2];unfold dv;split
 ·right;omega
 ·left;rfl
theorem zpf(t:Int):fT t 1=t/\fB t 1=1:=by
 have e:dv t 1=1:=by unfold dv;rw[Yh (by decide),zri]
 unfold fT fB;rw[e];exact⟨Int.fdiv_one t,by decide⟩
end K1
namespace K1
theorem co_iff{a b:Int}:gI a b=1↔Nat.Coprime a.natAbs b.natAbs:=by
 unfold gI Nat.Coprime;show ((Nat.gcd a.natAbs b.natAbs:Nat):Int)=1↔_;omega
theorem zfb{a b:Int}(h:gI a b=1):gI b a=1:=co_iff.mpr (co_iff.mp h).symm
theorem zhg{a b c:Int}(h:gI a b=1)(h':gI a c=1):gI a (b*c)=1:=by
 rw[co_iff]at *;rw[Int.natAbs_mul];exact Nat.Coprime.mul_right h h'
theorem zhq{a b c:Int}(h:gI a c=1)(h':gI b c=1):gI (a*b) c=1:=zfb (zhg (zfb h) (zfb h'))
theorem znn{a a' b:Int}(d:a' ∣ a)(h:gI a b=1):gI a' b=1:=by
 rw[co_iff]at *;exact Nat.Coprime.coprime_dvd_left (Int.natAbs_dvd_natAbs.mpr d) h
theorem zo0{a b b':Int}(d:b' ∣ b)(h:gI a b=1):gI a b'=1:=zfb (znn d (zfb h))
theorem zrz{a b k:Int}(h:gI a b=1):gI (a+b*k) b=1:=by
 unfold gI at *;have:Int.gcd (a+b*k) b=Int.gcd a b:=by simp
 rw[this];exact h
theorem zf9{a b:Int}(hb:b≠0):∃a' b',a=gI a b*a'/\b=gI a b*b'/\gI a' b'=1:=by
 obtain⟨a',ea⟩:=zk5 a b;obtain⟨b',eb⟩:=zgh a b;have hp:=zd1 (a:=a) hb;refine⟨a',b',ea,eb,coprime (d:=gI a b) (by omega) (.inl ?_)⟩;rw[<- ea,<- eb]
theorem zfd{a b c:Int}(h:gI a b=1)(d:a ∣ b*c):a ∣ c:=by
 rw[co_iff]at h;have:=Int.natAbs_dvd_natAbs.mpr d;rw[Int.natAbs_mul]at this;exact Int.natAbs_dvd_natAbs.mp (Nat.Coprime.dvd_of_dvd_mul_left h this)
theorem zl4{p q p' q':Int}(hq:1<=q)(hq':1<=q')(c:gI p q=1)(c':gI p' q'=1)(e:p*q'=p'*q):p=p'/\q=q':=by
 have d1:q ∣ q':=zfd (zfb c) ⟨p',by rw[e,Int.mul_comm]⟩;have d2:q' ∣ q:=zfd (zfb c') ⟨p,by rw[<- e,Int.mul_comm]⟩;have e1:q=q':=Int.dvd_antisymm (by omega) (by omega) d1 d2;subst e1;exact⟨Int.eq_of_mul_eq_mul_right (by omega) e,Z⟩
theorem zrq{t b p q:Int}(hb:b≠0)(hq:1<=q)(c:gI p q=1)(e:p*b=t*q):fT t b=p/\fB t b=q:=by
 refine zl4 (zr2 hb) hq (zvq hb) c ?_;have h1:=zm4 (t:=t) hb;refine Int.eq_of_mul_eq_mul_right hb ?_
 calc fT t b*q*b=fT t b*b*q:=by rw[Int.mul_right_comm]
  _=t*fB t b*q:=by rw[h1]
  _=t*q*fB t b:=by rw[Int.mul_right_comm]
  _=p*b*fB t b:=by rw[e]
  _=p*fB t b*b:=by rw[Int.mul_right_comm]
theorem fd{d q:Int}(h:d≠0):Int.fdiv (d*q) d=q:=Int.mul_fdiv_cancel_left q h
def ab(a:Int):Int:=if a<0 then -a else a
theorem zyf(a b:Int):gI (ab a) b=gI a b:=by
 unfold gI ab;congr 1;show Nat.gcd _ _=Nat.gcd _ _;congr 1;split <;> omega
theorem posR{d q:Int}(hd:0<d)(h:1<=d*q):1<=q:=by
 rcases(by omega:q<=0\/1<=q) with g | g
 ·have:=Int.mul_nonpos_of_nonneg_of_nonpos (show 0<=d by omega) g;omega
 ·exact g
theorem zm3{x y z w:Int}(hy:1<=y)(hw:1<=w)(c:gI x y=1)(c':gI z w=1) :
  (Int.fdiv x (gI x w)*Int.fdiv z (gI z y))=fT (x*z) (y*w)/\Int.fdiv y (gI z y)*Int.fdiv w (gI x w)=fB (x*z) (y*w):=by
 obtain⟨x1,w1,ex,ew,k1⟩:=zf9 (a:=x) (b:=w) (by omega);obtain⟨z1,y1,ez,ey,k2⟩:=zf9 (a:=z) (b:=y) (by omega);have g1:=zd1 (a:=x) (b:=w) (by omega);have g2:=zd1 (a:=z) (b:=y) (by omega);generalize gI x w=g at *;generalize gI z y=h at *;subst ex ew ez ey;rw[fd (by omega),fd (by omega),fd (by omega),fd (by omega)];have y1p:=posR g2 hy;have w1p:=posR g1 hw;have b0:h*y1*(g*w1)≠0:=by
  intro q;rcases Int.mul_eq_zero.mp q with q | q <;> omega
 have kx:gI x1 y1=1:=znn (Int.dvd_mul_left g x1) (zo0 (Int.dvd_mul_left h y1) c);have kz:gI z1 w1=1:=znn (Int.dvd_mul_left h z1) (zo0 (Int.dvd_mul_left g w1) c');have:=zrq (t:=g*x1*(h*z1)) (p:=x1*z1) (q:=y1*w1) b0 (Int.mul_pos y1p w1p)
  (zhg (zhq kx k2) (zhq k1 kz)) (by grind)
 exact⟨this.1.symm,this.2.symm⟩
theorem zpb{x y z w:Int}(hy:1<=y)(hw:1<=w)(c:gI x y=1)(c':gI z w=1) :
  let g:=gI y w;let T:=x*Int.fdiv w g+z*Int.fdiv y g;let f:=gI T g
  Int.fdiv T f=fT (x*w+z*y) (y*w)/\Int.fdiv y g*Int.fdiv w f=fB (x*w+z*y) (y*w):=by
 intro g T f;obtain⟨y1,w1,ey,ew,k1⟩:=zf9 (a:=y) (b:=w) (by omega);have g1:=zd1 (a:=y) (b:=w) (by omega);have f1:0<f:=zd1 (by omega);obtain⟨T1,g2,eT,eg,k2⟩:=zf9 (a:=T) (b:=g) (by omega);have gd:g=gI y w:=rfl;have Td:T=x*Int.fdiv w g+z*Int.fdiv y g:=rfl;have fdd:f=gI T g:=rfl;rw[<- fdd]at eT eg;rw[<- gd]at ey ew g1
 clear_value g T f
 subst ey ew;rw[fd (by omega),fd (by omega)]at Td;have y1p:=posR g1 hy;have w1p:=posR g1 hw;have cT1:gI T y1=1:=by
  rw[Td,Int.mul_comm z y1];exact zrz (zhq (zo0 (Int.dvd_mul_left g y1) c) (zfb k1))
 have cT2:gI T w1=1:=by
  rw[Td,Int.add_comm,Int.mul_comm x w1];exact zrz (zhq (zo0 (Int.dvd_mul_left g w1) c') k1)
 have g2p:1<=g2:=posR f1 (by omega);have d1:T1 ∣ T:=⟨f,by rw[eT,Int.mul_comm]⟩;have e1:Int.fdiv T f=T1:=by rw[eT,fd (by omega)]
 have e2:Int.fdiv (g*w1) f=g2*w1:=by rw[eg,Int.mul_assoc,fd (by omega)]
 have e3:Int.fdiv (g*y1) g=y1:=fd (by omega);rw[e1,e2,e3];have b0:g*y1*(g*w1)≠0:=by
  intro q;rcases Int.mul_eq_zero.mp q with q | q <;> omega
 have:=zrq (t:=x*(g*w1)+z*(g*y1)) (p:=T1) (q:=y1*(g2*w1)) b0 (Int.mul_pos y1p (Int.mul_pos g2p w1p))
  (zhg (znn d1 cT1) (zhg k2 (znn d1 cT2))) (by
   have:x*w1+z*y1=f*T1:=by rw[<- Td];exact eT
   have q:x*(g*w1)+z*(g*y1)=g*(f*T1):=by rw[<- this];grind
   rw[q]
   conv=>lhs;rw[eg]
   conv=>rhs;rw[eg]
   grind)
 exact⟨this.1.symm,this.2.symm⟩
theorem zt4{a d:Int}(h:d ∣ a)(hd:d≠0):(Int.fdiv a d).natAbs<=a.natAbs:=by
 obtain⟨q,rfl⟩:=h;rw[fd hd,Int.natAbs_mul];exact Nat.le_mul_of_pos_left _ (by omega)
end K1
namespace K3
structure NoDiv(n d:Int):Prop where
 is:∀e:Int,2<=e->e<d->Int.fmod n e≠0
def Pr(n:Int):Prop:=2<=n/\∀e:Int,2<=e->e*e<=n->Int.fmod n e≠0
noncomputable def isP(n:Int):Bool := @decide (Pr n) (Classical.propDecidable _)
theorem zsb{n:Int}(h:Pr n):isP n=true := @Yo _ (Classical.propDecidable _) h
theorem zsx{n:Int}(h:¬Pr n):isP n=false := @Yw _ (Classical.propDecidable _) h
theorem small{d n:Int}(_h2:2<=d)(h:d*d<=n)(hn:n<=9973):d<=99:=by
 rcases(by omega:d<=99\/100<=d) with e | e
 ·exact e
 ·have:=Int.mul_le_mul e e (by decide) (by omega);omega
theorem start(n:Int):(2:Int)<=2/\(2:Int)<=101/\NoDiv n 2:=⟨by decide,by decide,⟨λe h1 h2=>by omega⟩⟩
theorem turn{n d:Int}(h:NoDiv n d)(hm:¬Int.fmod n d=0)(h2:2<=d)(hq:d*d<=n)(hn:n<=9973):2<=d+1/\d+1<=101/\NoDiv n (d+1):=by
 have s:=small h2 hq hn;refine⟨by omega,by omega,⟨λe h1 h3=>?_⟩⟩;rcases(by omega:e<d\/e=d) with q | q
 ·exact h.is e h1 q
 ·rw[q];exact hm
theorem less{n d:Int}(h2:2<=d)(hq:d*d<=n)(hn:n<=9973):(200-(d+1)).toNat<(200-d).toNat:=by
 have s:=small h2 hq hn;omega
theorem low{n:Int}(h:n<2):false=isP n:=by
 exact(zsx λh'=>by have:=h'.1;omega).symm
theorem out{n d:Int}(h:NoDiv n d)(hn:2<=n)(h2:2<=d)(hq:¬d*d<=n):true=isP n:=by
 refine(zsb ?_).symm;refine⟨hn,λe h1 h3=>h.is e h1 ?_⟩;rcases(by omega:e<d\/d<=e) with q | q
 ·exact q
 ·have:=Int.mul_le_mul q q (by omega) (by omega);omega
theorem found{n d:Int}(h2:2<=d)(hq:d*d<=n)(hm:Int.fmod n d=0):false=isP n:=by
 exact(zsx λh'=>h'.2 d h2 hq hm).symm
end K3
namespace K2
theorem zvz{p l:Int}(hp:K3.Pr p)(h1:1<l)(h2:l<p):Int.fmod p l≠0:=by
 intro h0;rw[Int.fmod_eq_emod_of_nonneg p (by omega)]at h0;have hd:p=l*(p / l):=by have:=Int.mul_ediv_add_emod p l;omega
 have hq1:1<p / l:=by
  rcases(by omega:p / l<=1\/1<p / l) with q | q
  ·have:=Y3 q (by omega:0<=l);omega
  ·exact q
 rcases(by omega:l*l<=p\/p<l*l) with q | q
 ·refine hp.2 l (by omega) q ?_;rw[Int.fmod_eq_emod_of_nonneg p (by omega)];exact h0
 ·have hlt:p / l<l:=by
   rcases(by omega:p / l<l\/l<=p / l) with r | r
   ·exact r
   ·have:=Y3 r (by omega:0<=l);omega
  have hqq:(p / l)*(p / l)<=p:=by
   have h:=Int.mul_le_mul_of_nonneg_right (Int.le_of_lt hlt) (by omega:0<=p / l);omega
  refine hp.2 (p / l) (by omega) hqq ?_;rw[Int.fmod_eq_emod_of_nonneg p (by omega)];apply Int.emod_eq_zero_of_dvd;exact⟨l,by rw[Int.mul_comm];exact hd⟩
structure Tn(p a found left:Int):Prop where
 f0:0<=found
 f1:found<p
 l0:1<=left
 l1:left<p
 eq:(found*a-left)%p=0
theorem zhz{p a:Int}(hp:K3.Pr p)(h0:0<a)(h1:a<p):Tn p a 1 a:=
 ⟨by decide,by have:=hp.1;omega,by omega,h1,by rw[Int.one_mul,Int.sub_self];exact Int.zero_emod p⟩
theorem zm7{p a f l:Int}(hp:K3.Pr p)(h:Tn p a f l)(hl:l≠1) :
  Tn p a (Int.fmod (-f*Int.fdiv p l) p) (Int.fmod p l):=by
 have p2:=hp.1;have l0:=h.l0;have hne:=zvz hp (by omega:1<l) h.l1;have e0:=h.eq;have hpos:=Int.fmod_nonneg_of_pos p (show 0<l by omega);have hlt:=Int.fmod_lt_of_pos p (show 0<l by omega);refine⟨Int.fmod_nonneg_of_pos _ (by omega),Int.fmod_lt_of_pos _ (by omega),by omega,by have:=h.l1;omega,?_⟩;have q:=Int.mul_fdiv_add_fmod p l;generalize Int.fdiv p l=d at *;generalize Int.fmod p l=r at *;rw[Int.fmod_eq_emod_of_nonneg _ (by omega)];apply Int.emod_eq_zero_of_dvd;obtain⟨k,hk⟩:=Int.dvd_of_emod_eq_zero e0;have m:=Int.mul_ediv_add_emod (-f*d) p;generalize (-f*d) / p=g at *;generalize (-f*d)%p=v at *;have hv:v = -f*d-p*g:=by omega
 refine⟨-(g*a)-d*k-1,?_⟩;rw[hv];have h1:f*a=l+p*k:=by omega
 have e1:(-f*d-p*g)*a = -(d*(f*a))-p*(g*a):=by
  rw[Int.sub_mul];have : -f*d*a = -(d*(f*a)):=by
   rw[Int.neg_mul,Int.neg_mul,Int.mul_comm f d,Int.mul_assoc]
  rw[this,Int.mul_assoc]
 rw[e1,h1,Int.mul_add d l (p*k),Int.mul_comm d l];have e2:d*(p*k)=p*(d*k):=by rw[<- Int.mul_assoc,Int.mul_comm d p,Int.mul_assoc]
 rw[e2,Int.mul_sub,Int.mul_sub,Int.mul_one,Int.mul_neg];omega
theorem znw{p a f l:Int}(h:Tn p a f l):(Int.fmod p l).toNat<l.toNat:=by
 have l0:=h.l0;have hpos:=Int.fmod_nonneg_of_pos p (show 0<l by omega);have hlt:=Int.fmod_lt_of_pos p (show 0<l by omega);omega
theorem zrr{p a f l:Int}(h:Tn p a f l)(hl:l=1):0<=f/\f<p/\(f*a-1)%p=0:=by
 refine⟨h.f0,h.f1,?_⟩;have:=h.eq;rw[hl]at this;exact this
end K2
namespace K6
def zer(n:Nat):List Int:=List.replicate n 0
def Nn(t:List Int):Prop:=∀x∈t,0<=x
theorem zgl(n:Nat):(zer n).length=n:=List.length_replicate
def only(n at_:Nat)(p:Int):List Int:=(List.range n).map λi=>if i=at_ then p else 0
end K6
namespace K6
open L2 PySem
theorem pimp{α : Type}{R S : α->V->Prop}(h:∀a v,R a v->S a v):∀{l:List α} {ys:List V},Paired R l ys->Paired S l ys
 | _,_,.nil=>.nil
 | _,_,.cons r t=>.cons (h _ _ r) (pimp h t)
theorem psnoc{α : Type}{R : α->V->Prop}{a : α}{v:V}(r:R a v):∀{l:List α} {ys:List V},Paired R l ys->Paired R (l++[a]) (ys++[v])
 | _,_,.nil=>.cons r .nil
 | _,_,.cons q t=>.cons q (psnoc r t)
end K6
namespace K6
open L2 PySem
def ky(xs:List Int):List Key:=xs.map Sum.inl
theorem zf8(xs:List Int):(ky xs).map kV=xs.map V.int:=by unfold ky;rw[Jg];rfl
structure NmD(d:PyData):Prop where
 lay:d.canLay0=true
 dep:d.depth<=60
theorem NmD.shaped{d:PyData}(h:NmD d):SeqAt.shaped d=true:=by
 have:=h.dep;unfold SeqAt.shaped;rw[h.lay,Bool.true_and,decide_eq_true_eq];omega
theorem zt3(i:Int):NmD (.int i):=⟨Z,by simp[PyData.depth]⟩
theorem zpg(i j:Int):NmD (.tuple [.int i,.int j]):=⟨Z,by simp[PyData.depth,PyData.depthAll]⟩
mutual
theorem Rds.same{K:W.Frag}{H H':Hp}(e:Same H H'):∀{v:V} {d:PyData},Rds K H v d->Rds K H' v d
 | _,_,.non=>.non
 | _,_,.bl b=>.bl b
 | _,_,.int i=>.int i
 | _,_,.str x=>.str x
 | _,_,.tup h hs=>.tup (e.seqT h) (RdsAll.same e hs)
 | _,_,.lst h hs=>.lst (e.seq h) (RdsAll.same e hs)
theorem RdsAll.same{K:W.Frag}{H H':Hp}(e:Same H H'):∀{vs:List V} {ds:List PyData},RdsAll K H vs ds->RdsAll K H' vs ds
 | _,_,.nil=>.nil
 | _,_,.cons h hs=>.cons (Rds.same e h) (RdsAll.same e hs)
end
theorem zpm{K:W.Frag}{H:Hp}{d a:Addr}{kvs:List (List Key×V)}{o:HO}{xs:List V}(e:H d=some (.dT kvs))(h:SqT K H a xs):SqT K (upd H d o) a xs:=by
 rcases h with(h | ⟨q,h⟩) | h
 ·exact .inl (.inl (by rw[zal (zep h e (by intro z;cases z))];exact h))
 ·exact .inl (.inr ⟨q,by rw[zal (zep h e (by intro z;cases z))];exact h⟩)
 ·exact .inr h
theorem zow{K:W.Frag}{H:Hp}{d a:Addr}{kvs:List (List Key×V)}{o:HO}{xs:List V}(e:H d=some (.dT kvs))(h:SqL K H a xs):SqL K (upd H d o) a xs:=by
 rcases h with(h | ⟨q,h⟩) | h
 ·exact .inl (.inl (by rw[zal (zep h e (by intro z;cases z))];exact h))
 ·exact .inl (.inr ⟨q,by rw[zal (zep h e (by intro z;cases z))];exact h⟩)
 ·exact .inr h
mutual
theorem Rds.updD{K:W.Frag}{H:Hp}{d:Addr}{kvs:List (List Key×V)}{o:HO}(e:H d=some (.dT kvs)):∀{v:V} {z:PyData},Rds K H v z->Rds K (upd H d o) v z
 | _,_,.non=>.non
 | _,_,.bl b=>.bl b
 | _,_,.int i=>.int i
 | _,_,.str x=>.str x
 | _,_,.tup h hs=>.tup (zpm e h) (RdsAll.updD e hs)
 | _,_,.lst h hs=>.lst (zow e h) (RdsAll.updD e hs)
theorem RdsAll.updD{K:W.Frag}{H:Hp}{d:Addr}{kvs:List (List Key×V)}{o:HO}(e:H d=some (.dT kvs)):∀{vs:List V} {ds:List PyData},RdsAll K H vs ds->RdsAll K (upd H d o) vs ds
 | _,_,.nil=>.nil
 | _,_,.cons h hs=>.cons (Rds.updD e h) (RdsAll.updD e hs)
end
theorem zqh{K:W.Frag}{H:Hp}{r:Addr}{i j:Int}(h:H r=some (.tup [.int i,.int j])):Rds K H (.ref r) (.tuple [.int i,.int j]):=.tup (SqT.of h) (.cons (.int i) (.cons (.int j) .nil))
end K6
namespace K8
open L2 PySem K1 K2 K3 K6
def zr(n T:Int):Prop:=if n=0 then T=0 else T%n=0
instance zrDec(n T:Int):Decidable (zr n T):=by unfold zr;exact inferInstance
theorem zr_0{T:Int}:zr 0 T↔T=0:=by simp[zr]
theorem zr_n{n T:Int}(h:n≠0):zr n T↔T%n=0:=by simp[zr,h]
theorem zih{n:Int}(h:Pr n):n≠0:=by have:=h.1;omega
theorem zw2{x y T B:Int}(hy:1<=y)(c:gI x y=1)(hB:B≠0)(e:x*B=T*y):x.natAbs<=T.natAbs/\y.natAbs<=B.natAbs:=by
 refine⟨?_,?_⟩
 ·by_cases t:T=0
  ·subst t;rw[Int.zero_mul]at e;rcases Int.mul_eq_zero.mp e with q | q
   ·rw[q];simp
   ·exact absurd q hB
  ·have d:x ∣ y*T:=⟨B,by rw[Int.mul_comm,<- e]⟩;have:=Int.natAbs_dvd_natAbs.mpr (zfd c d);exact Nat.le_of_dvd (by omega) this
 ·have d:y ∣ x*B:=⟨T,by rw[e,Int.mul_comm]⟩;have:=Int.natAbs_dvd_natAbs.mpr (zfd (zfb c) d);exact Nat.le_of_dvd (by omega) this
end K8
namespace K8
open L2 PySem K1 K2 K3 K6
theorem zg6{a b:List Int}(h:ky a=ky b):a=b:=by
 unfold ky at h;exact(List.map_inj_right (λx y e=>Sum.inl.inj e)).mp h
theorem zkl{kvs:List (List Key×V)}{k:List Key}{v:V}:((putK kvs k v).map (·.1))=if (valV kvs k).isSome then kvs.map (·.1) else kvs.map (·.1)++[k]:=by
 unfold putK;rw[zel]
 cases h:(valV kvs k).isSome with
 | true=>
  rw[Yl rfl,Yl rfl,Jg];refine List.map_congr_left λp _=>?_
  show (if p.1=k then(p.1,v) else p).1=p.1;split <;> rfl
 | false=>rw[Yh (by decide),Yh (by decide),List.map_append];rfl
theorem mem_of_valV{kvs:List (List Key×V)}{k:List Key}:(valV kvs k).isSome=true↔k∈kvs.map (·.1):=by
 rw[<- zel,List.any_eq_true];constructor
 ·rintro⟨p,hp,e⟩;exact Jh.mpr ⟨p,hp,Ji e⟩
 ·intro h;obtain⟨p,hp,e⟩:=Jh.mp h;exact⟨p,hp,Yo e⟩
theorem zmc(kvs:List (List Key×V))(k j:List Key):valV (zf7 kvs k) j=if j=k then none else valV kvs j:=by
 unfold zf7;induction kvs with
 | nil=>rw[List.filter_nil,zpi];split <;> rfl
 | cons p r ih=>
  rw[List.filter_cons];by_cases e:p.1=k
  ·rw[Yh (by simp[e]),ih];by_cases q:j=k
   ·rw[Yl q,Yl q]
   ·rw[Yh q,Yh q,zbi (λz=>q (z.symm.trans e))]
  ·rw[Yl (by simp[e])];by_cases z:p.1=j
   ·rw[zbj z,zbj z,Yh (λq=>e (z.trans q))]
   ·rw[zbi z,zbi z,ih]
theorem zkt:∀{kvs:List (List Key×V)} (_:(kvs.map (·.1)).Nodup) {i:Nat} {k:List Key} {v:V},kvs[i]? = some (k,v)->valV kvs k=some v
 | [],_,i,k,v,h=>by simp at h
 | p::r,hn,0,k,v,h=>by
  simp at h;subst h;exact zbj rfl
 | p::r,hn,i+1,k,v,h=>by
  rw[List.getElem?_cons_succ]at h;rw[Yz,List.nodup_cons]at hn;have:¬p.1=k:=λe=>hn.1 (Jh.mpr ⟨(k,v),Yx h,e.symm⟩)
  rw[zbi this];exact zkt hn.2 h
theorem zb7{α : Type}{l:List α}{i:Nat}{a : α}(h:l[i]? = some a):l.take (i+1)=l.take i++[a]:=by
 rw[List.take_add_one,h];rfl
theorem ztd{α : Type}{l:List α}(hn:l.Nodup){i:Nat}{a : α}(h:l[i]? = some a):a ∉ l.take i:=by
 intro hm;have e:l.take (i+1)=l.take i++[a]:=zb7 h;have n1:(l.take (i+1)).Nodup:=hn.sublist (List.take_sublist _ _);rw[e,List.nodup_append]at n1;exact n1.2.2 a hm a (by simp) rfl
theorem zi1{α β : Type}{f : α->β}:∀{l:List α},(l.map f).Nodup->l.Nodup
 | [],_=>List.nodup_nil
 | a::l,h=>by
  rw[Yz,List.nodup_cons]at h;exact List.nodup_cons.mpr ⟨λz=>h.1 (Jh.mpr ⟨a,z,Z⟩),zi1 h.2⟩
theorem zxy{kvs:List (List Key×V)}{k:List Key}{v:V}(h:(kvs.map (·.1)).Nodup):((putK kvs k v).map (·.1)).Nodup:=by
 rw[zkl]
 cases q:(valV kvs k).isSome with
 | true=>exact h
 | false=>
  rw[Yh (by decide),List.nodup_append];refine⟨h,by simp,λx hx y hy e=>?_⟩;rw[Yq]at hy;have:=mem_of_valV.mpr (show k∈kvs.map (·.1) by rw[<- hy,<- e];exact hx);rw[q]at this;cases this
end K8
namespace K37
open L2 PySem
def zqd(xs ys:List Int):Bool:=(List.range xs.length).all λi=>decide (xs.getD i 0<=ys.getD i 0)
theorem goesI_iff{xs ys:List Int}:zqd xs ys=true↔∀i,i<xs.length->xs.getD i 0<=ys.getD i 0:=by
 unfold zqd;rw[List.all_eq_true];constructor
 ·intro h i hi;have:=h i (List.mem_range.mpr hi);simpa using this
 ·intro h i hi;have:=h i (List.mem_range.mp hi);simpa using this
structure T0(m:Nat)(t:List Int):Prop where
 len:t.length=m
 nn:∀i,0<=t.getD i 0
theorem T0.mem{m:Nat}{t:List Int}(h:T0 m t):∀x∈t,0<=x:=λx hx=>by
 obtain⟨j,hj,rfl⟩:=List.mem_iff_getElem.mp hx;have:=h.nn j;simpa[List.getD,hj]using this
theorem zgf{a b:List Int}(hl:a.length=b.length)(h:∀i,i<a.length->a.getD i 0=b.getD i 0):a=b:=by
 refine List.ext_getElem hl λi h1 h2=>?_
 have:=h i h1;simpa[List.getD,h1,h2]using this
theorem T0.zero(m:Nat):T0 m (List.replicate m 0):=⟨List.length_replicate,λi=>by
 rcases Jf i m with c | c
 ·simp[List.getD,c]
 ·simp[List.getD,c]⟩
end K37
namespace K37
open L2 PySem
theorem zfg{α : Type}[DecidableEq α]:∀{l l':List α},l.Nodup->(∀a∈l,a∈l')->l.length<=l'.length
 | [],_,_,_=>by simp
 | a::l,l',nd,h=>by
  rw[List.nodup_cons]at nd;have:=zfg (l:=l) (l':=l'.erase a) nd.2 λb hb=>by
   have hb':=h b (by simp[hb]);exact(List.mem_erase_of_ne (λe=>nd.1 (by rw[<- e];exact hb))).mpr hb'
  rw[List.length_erase_of_mem (h a (by simp))]at this;have:0<l'.length:=List.length_pos_of_mem (h a (by simp));rw[Y5];omega
end K37
namespace G
open L2 PySem K1 K2 K3 K6 K8
section
variable{F:Type}[Lean.Grind.Field F]
def ic(k:Int):F:=(Lean.Grind.Ring.intCast (α:=F)).intCast k
theorem zg8(a b:Int):ic (F:=F) (a+b)=ic a+ic b:=Lean.Grind.Ring.intCast_add a b
theorem za5(a b:Int):ic (F:=F) (a*b)=ic a*ic b:=Lean.Grind.Ring.intCast_mul a b
theorem zxg(a:Int):ic (F:=F) (-a) = - ic a:=Lean.Grind.Ring.intCast_neg a
theorem zfy(a b:Int):ic (F:=F) (a-b)=ic a-ic b:=Lean.Grind.Ring.intCast_sub a b
theorem zb3:ic (F:=F) 0=0:=Lean.Grind.Ring.intCast_zero
theorem zd4:ic (F:=F) 1=1:=Lean.Grind.Ring.intCast_one
end
theorem zwd(k:Int):ic (F:=Rat) k=0↔k=0:=by
 show ((k:Int):Rat)=0↔k=0;constructor
 ·intro h;exact Rat.intCast_inj.mp (by simpa using h)
 ·intro h;subst h;rfl
class Chr (n:Int) (F:Type) [Lean.Grind.Field F]:Prop where
 z:∀k:Int,ic (F:=F) k=0↔zr n k
def zset(p:Int):Setoid Int where
 r:=λa b=>∃k,a=b+p*k
 iseqv:=⟨λa=>⟨0,by simp⟩,fun{a b} ⟨k,h⟩=>⟨-k,by rw[h,Int.mul_neg];omega⟩,fun{a b c} ⟨k,h⟩ ⟨j,h'⟩=>⟨k+j,by rw[h,h',Int.mul_add];omega⟩⟩
def Zq(p:Int):Type:=Quotient (zset p)
namespace Zq
variable{p:Int}
def mk(a:Int):Zq p:=Quotient.mk (zset p) a
theorem snd{a b:Int}(h:∃k,a=b+p*k):(mk a:Zq p)=mk b:=Quotient.sound (s:=zset p) h
theorem exa{a b:Int}(h:(mk a:Zq p)=mk b):∃k,a=b+p*k:=Quotient.exact (s:=zset p) h
theorem ex(x:Zq p):∃a,x=mk a:=let ⟨a,h⟩:=Quotient.exists_rep (s:=zset p) x;⟨a,h.symm⟩
def add(x y:Zq p):Zq p:=Quotient.liftOn₂ x y (λa b=>mk (a+b)) λa b a' b' ⟨k,h⟩ ⟨j,h'⟩=>snd ⟨k+j,by rw[h,h',Int.mul_add];omega⟩
def mul(x y:Zq p):Zq p:=Quotient.liftOn₂ x y (λa b=>mk (a*b)) λa b a' b' ⟨k,h⟩ ⟨j,h'⟩=>snd ⟨a'*j+k*b'+p*k*j,by rw[h,h'];grind⟩
def neg(x:Zq p):Zq p:=Quotient.liftOn x (λa=>mk (-a)) λa b ⟨k,h⟩=>snd ⟨-k,by rw[h,Int.mul_neg];omega⟩
def pw(x:Zq p):Nat->Zq p
 | 0=>mk 1
 | k+1=>mul (pw x k) x
open Classical in
noncomputable def inv(x:Zq p):Zq p:=if h:∃y,mul x y=mk 1 then Classical.choose h else mk 0
noncomputable def zpw(x:Zq p):Int->Zq p
 | .ofNat k=>pw x k
 | .negSucc k=>inv (pw x (k+1))
instance:Add (Zq p):=⟨add⟩
instance:Mul (Zq p):=⟨mul⟩
instance:Neg (Zq p):=⟨neg⟩
instance:Sub (Zq p):=⟨λa b=>add a (neg b)⟩
noncomputable instance:Inv (Zq p):=⟨inv⟩
noncomputable instance:Div (Zq p):=⟨λa b=>mul a (inv b)⟩
theorem inv_ex(hp:Pr p):∀(k:Nat) {a f l:Int},l.toNat<=k->Tn p a f l->∃f,(f*a-1)%p=0
 | 0,a,f,l,h,t=>by have:=t.l0;omega
 | k+1,a,f,l,h,t=>by
  by_cases c:l=1
  ·exact⟨f,(zrr t c).2.2⟩
  ·have:=znw t;exact inv_ex hp k (by omega) (zm7 hp t c)
theorem zvo(hp:Pr p){x:Zq p}(h:x≠mk 0):∃y,mul x y=mk 1:=by
 obtain⟨a,rfl⟩:=ex x;have p2:=hp.1;have e:(mk a:Zq p)=mk (a%p):=snd ⟨a / p,by have:=Int.mul_ediv_add_emod a p;omega⟩;have h0:0<=a%p:=Jl _ (by omega);have h1:a%p<p:=Jc _ (by omega);have hz:a%p≠0:=λz=>h (by rw[e,z])
 obtain⟨f,hf⟩:=inv_ex hp _ (Yi _) (zhz hp (by omega) h1);obtain⟨k,hk⟩:=Int.dvd_of_emod_eq_zero hf;refine⟨mk f,?_⟩;rw[e];exact snd ⟨k,by rw[Int.mul_comm];omega⟩
theorem zh8(hp:Pr p){x:Zq p}(h:x≠mk 0):mul x (inv x)=mk 1:=by
 have q:=zvo hp h;unfold inv;rw[dif_pos q];exact Classical.choose_spec q
theorem zmi(x y:Zq p):mul x y=mul y x:=by
 obtain⟨a,rfl⟩:=ex x;obtain⟨b,rfl⟩:=ex y;exact Jt mk (Int.mul_comm a b)
theorem zwl(x y z:Zq p):mul (mul x y) z=mul x (mul y z):=by
 obtain⟨a,rfl⟩:=ex x;obtain⟨b,rfl⟩:=ex y;obtain⟨c,rfl⟩:=ex z;exact Jt mk (Int.mul_assoc a b c)
theorem zno(x:Zq p):mul (mk 1) x=x:=by obtain⟨a,rfl⟩:=ex x;exact Jt mk (Int.one_mul a)
theorem zlg(x:Zq p):mul (mk 0) x=mk 0:=by obtain⟨a,rfl⟩:=ex x;exact Jt mk (Int.zero_mul a)
theorem zk7(hp:Pr p):(mk 0:Zq p)≠mk 1:=λh=>by
 obtain⟨k,e⟩:=exa h;have p2:=hp.1;have:p*k = -1:=by omega
 have d:p ∣ 1:=⟨-k,by rw[Int.mul_neg];omega⟩;have:=Int.le_of_dvd (by decide) d;omega
theorem zte(hp:Pr p):inv (mk 0:Zq p)=mk 0:=by
 unfold inv;rw[dif_neg];rintro⟨y,h⟩;rw[zlg]at h;exact zk7 hp h
theorem zt2(hp:Pr p)(x:Zq p):inv (inv x)=x:=by
 by_cases h:x=mk 0
 ·rw[h,zte hp,zte hp]
 ·have h1:=zh8 hp h;have h2:inv x≠mk 0:=λz=>by rw[z,zmi,zlg]at h1;exact zk7 hp h1
  have h3:=zh8 hp h2
  calc inv (inv x)=mul (mk 1) (inv (inv x)):=(zno _).symm
   _=mul (mul x (inv x)) (inv (inv x)):=by rw[h1]
   _=mul x (mul (inv x) (inv (inv x))):=zwl _ _ _
   _=mul x (mk 1):=by rw[h3]
   _=x:=by rw[zmi,zno]
theorem zyx(hp:Pr p):inv (mk 1:Zq p)=mk 1:=by
 have h1:=zh8 hp (x:=mk 1) (zk7 hp).symm;rwa [zno]at h1
noncomputable def fld(hp:Pr p):Lean.Grind.Field (Zq p) where
 natCast:=⟨λn=>mk n⟩
 ofNat:=λn=>⟨mk n⟩
 nsmul:=⟨λn x=>mul (mk n) x⟩
 npow:=⟨pw⟩
 intCast:=⟨λn=>mk n⟩
 zsmul:=⟨λn x=>mul (mk n) x⟩
 zpow:=⟨zpw⟩
 add_zero:=λx=>by obtain⟨a,rfl⟩:=ex x;exact Jt mk (Int.add_zero a)
 add_comm:=λx y=>by obtain⟨a,rfl⟩:=ex x;obtain⟨b,rfl⟩:=ex y;exact Jt mk (Int.add_comm a b)
 add_assoc:=λx y z=>by obtain⟨a,rfl⟩:=ex x;obtain⟨b,rfl⟩:=ex y;obtain⟨c,rfl⟩:=ex z;exact Jt mk (Int.add_assoc a b c)
 mul_assoc:=zwl
 mul_comm:=zmi
 mul_one:=λx=>(zmi x (mk 1)).trans (zno x)
 one_mul:=zno
 right_distrib:=λx y z=>by obtain⟨a,rfl⟩:=ex x;obtain⟨b,rfl⟩:=ex y;obtain⟨c,rfl⟩:=ex z;exact Jt mk (Int.add_mul a b c)
 left_distrib:=λx y z=>by obtain⟨a,rfl⟩:=ex x;obtain⟨b,rfl⟩:=ex y;obtain⟨c,rfl⟩:=ex z;exact Jt mk (Int.mul_add a b c)
 zero_mul:=zlg
 mul_zero:=λx=>(zmi _ _).trans (zlg x)
 pow_zero:=λx=>rfl
 pow_succ:=λx n=>rfl
 ofNat_succ:=λn=>rfl
 ofNat_eq_natCast:=λn=>rfl
 nsmul_eq_natCast_mul:=λn x=>rfl
 neg_add_cancel:=λx=>by obtain⟨a,rfl⟩:=ex x;exact Jt mk (Int.add_left_neg a)
 sub_eq_add_neg:=λx y=>rfl
 neg_zsmul:=λi x=>by obtain⟨a,rfl⟩:=ex x;exact Jt mk (Int.neg_mul i a)
 zsmul_natCast_eq_nsmul:=λn x=>rfl
 intCast_ofNat:=λn=>rfl
 intCast_neg:=λn=>rfl
 div_eq_mul_inv:=λx y=>rfl
 zero_ne_one:=zk7 hp
 inv_zero:=zte hp
 mul_inv_cancel:=fun{x} h=>zh8 hp h
 zpow_zero:=λx=>rfl
 zpow_succ:=λx n=>rfl
 zpow_neg:=λx n=>by
  cases n with
  | ofNat k=>
   cases k with
   | zero=>exact(zyx hp).symm
   | succ k=>rfl
  | negSucc k=>exact(zt2 hp _).symm
end Zq
theorem zv9(n:Int)(hn:n=0\/Pr n):∃(F:Type) (_:Lean.Grind.Field F),Chr n F:=by
 by_cases c:n=0
 ·subst c;exact⟨Rat,inferInstance,⟨λk=>by rw[zr_0];exact zwd k⟩⟩
 ·have hp:Pr n:=hn.resolve_left c;refine⟨Zq n,Zq.fld hp,@Chr.mk n (Zq n) (Zq.fld hp) λk=>?_⟩;rw[zr_n c];show (Zq.mk k:Zq n)=Zq.mk 0↔_;constructor
  ·intro h;obtain⟨j,e⟩:=Zq.exa h;rw[e];simp
  ·intro h;obtain⟨j,e⟩:=Int.dvd_of_emod_eq_zero h;exact Zq.snd ⟨j,by rw[e];simp⟩
end G
namespace G
open L2 PySem K1 K2 K3 K6 K8 K37
def addT(a b:List Int):List Int:=List.zipWith (· + ·) a b
def subT(a b:List Int):List Int:=List.zipWith (· - ·) a b
theorem zby{a b:List Int}(h:a.length=b.length):(addT a b).length=a.length:=by simp[addT,h]
theorem zhx{a b:List Int}(h:a.length=b.length):(subT a b).length=a.length:=by simp[subT,h]
theorem zeh{a b:List Int}(h:a.length=b.length)(i:Nat):(addT a b).getD i 0=a.getD i 0+b.getD i 0:=by
 rcases Jf i a.length with c | c
 ·have c2:i<b.length:=by omega
  simp[addT,List.getD,List.getElem?_zipWith,c,c2]
 ·have c2:b.length<=i:=by omega
  simp[addT,List.getD,List.getElem?_zipWith,List.getElem?_eq_none c,List.getElem?_eq_none c2]
theorem zn0{a b:List Int}(h:a.length=b.length)(i:Nat):(subT a b).getD i 0=a.getD i 0-b.getD i 0:=by
 rcases Jf i a.length with c | c
 ·have c2:i<b.length:=by omega
  simp[subT,List.getD,List.getElem?_zipWith,c,c2]
 ·have c2:b.length<=i:=by omega
  simp[subT,List.getD,List.getElem?_zipWith,List.getElem?_eq_none c,List.getElem?_eq_none c2]
theorem zyo{a b:List Int}(h:a.length=b.length):addT a b=addT b a:=zgf (by rw[zby h,zby h.symm,h]) λi _=>by rw[zeh h,zeh h.symm];omega
theorem zgi{a b:List Int}(h:a.length=b.length):addT b (subT a b)=a:=zgf (by rw[zby (by rw[zhx h];omega),h]) λi _=>by rw[zeh (by rw[zhx h];omega),zn0 h];omega
theorem zm9{a b:List Int}(h:a.length=b.length):subT (addT b a) b=a:=zgf (by rw[zhx (by rw[zby h.symm]),zby h.symm,h]) λi _=>by rw[zn0 (by rw[zby h.symm]),zeh h.symm];omega
theorem zr9{a:List Int}{m:Nat}(h:a.length=m):addT (zer m) a=a:=zgf (by rw[zby (by rw[zgl,h]),zgl,h]) λi _=>by
 rw[zeh (by rw[zgl,h])];have:(zer m).getD i 0=0:=by unfold zer;rcases Jf i m with c | c <;> simp[List.getD,c]
 omega
theorem T0.add{m:Nat}{a b:List Int}(ha:T0 m a)(hb:T0 m b):T0 m (addT a b):=⟨by rw[zby (by rw[ha.len,hb.len]),ha.len],λi=>by rw[zeh (by rw[ha.len,hb.len])];have:=ha.nn i;have:=hb.nn i;omega⟩
theorem zqb{m:Nat}{a b:List Int}(ha:T0 m a)(hb:T0 m b):zqd b (addT b a)=true:=goesI_iff.mpr λi _=>by rw[zeh (by rw[ha.len,hb.len])];have:=ha.nn i;omega
theorem T0.zer(m:Nat):T0 m (zer m):=T0.zero m
end G
namespace G
open L2 PySem K1 K2 K3 K6 K8 K37
section
variable{F:Type}[Lean.Grind.Field F]
def sm{α : Type}(φ : α->F):List α->F
 | []=>0
 | a::l=>φ a+sm φ l
variable{α β : Type}
theorem zkh(φ : α->F):∀l l':List α,sm φ (l++l')=sm φ l+sm φ l'
 | [],l'=>by show sm φ l'=0+sm φ l';grind
 | a::l,l'=>by show φ a+sm φ (l++l') = φ a+sm φ l+sm φ l';rw[zkh φ l l'];grind
theorem zr6(φ : α->F)(l:List α)(a : α):sm φ (l++[a])=sm φ l + φ a:=by rw[zkh];show _+(φ a+0)=_;grind
theorem zdq{φ ψ : α->F}:∀{l:List α},(∀a∈l,φ a = ψ a)->sm φ l=sm ψ l
 | [],_=>rfl
 | a::l,h=>by show φ a+_ = ψ a+_;rw[h a (by simp),zdq λb hb=>h b (by simp[hb])]
theorem zex{φ : α->F}:∀{l:List α},(∀a∈l,φ a=0)->sm φ l=0
 | [],_=>rfl
 | a::l,h=>by show φ a+_=0;rw[h a (by simp),zex λb hb=>h b (by simp[hb])];grind
theorem zr4(φ ψ : α->F):∀l:List α,sm (λa=>φ a + ψ a) l=sm φ l+sm ψ l
 | []=>by show (0:F)=0+0;grind
 | a::l=>by show φ a + ψ a+_ = φ a+_+(ψ a+_);rw[zr4 φ ψ l];grind
theorem zk0(c:F)(φ : α->F):∀l:List α,sm (λa=>c * φ a) l=c*sm φ l
 | []=>by show (0:F)=c*0;grind
 | a::l=>by show c * φ a+_=c*(φ a+_);rw[zk0 c φ l];grind
theorem zw4(φ : α->F)(l:List α):sm (λa => - φ a) l = - sm φ l:=by
 have:=zk0 (-1) φ l;rw[show (λa => -1 * φ a)=λa => - φ a from funext λa=>by grind]at this;rw[this];grind
theorem zl5(φ : β->F)(f : α->β):∀l:List α,sm φ (l.map f)=sm (λa=>φ (f a)) l
 | []=>rfl
 | a::l=>by show φ (f a)+_=_;rw[zl5 φ f l];rfl
theorem zn5(f : α->β->F)(l':List β):∀l:List α,sm (λa=>sm (f a) l') l=sm (λb=>sm (λa=>f a b) l) l'
 | []=>by show (0:F)=_;rw[zex (l:=l')];intro a _;rfl
 | a::l=>by
  show sm (f a) l'+sm (λa=>sm (f a) l') l=sm (λb=>f a b+sm (λa=>f a b) l) l';rw[zn5 f l' l,zr4]
theorem zsi{φ : α->F}{l l':List α}(h:l.Perm l'):sm φ l=sm φ l':=by
 induction h with
 | nil=>rfl
 | cons a _ ih=>show φ a+_ = φ a+_;rw[ih]
 | swap a b l=>show φ b+(φ a+_) = φ a+(φ b+_);grind
 | trans _ _ h1 h2=>exact h1.trans h2
theorem zky[DecidableEq α]{φ : α->F}{a : α}{l:List α}(h:a∈l):sm φ l = φ a+sm φ (l.erase a):=zsi (List.perm_cons_erase h)
theorem zwv[DecidableEq α]{φ : α->F}{a : α}{l:List α}(nd:l.Nodup)(h:a∈l)(z:∀b∈l,b≠a->φ b=0):sm φ l = φ a:=by
 rw[zky h,zex (l:=l.erase a)]
 ·grind
 ·intro b hb;have:=(List.Nodup.mem_erase_iff nd).mp hb;exact z b this.2 this.1
theorem zny[DecidableEq α]{φ : α->F}:∀{l l':List α},l.Nodup->l'.Nodup->(∀a∈l,a∈l')->(∀a∈l',a ∉ l->φ a=0)->sm φ l=sm φ l'
 | [],l',_,_,_,h=>by rw[zex (l:=l') λa ha=>h a ha (by simp)];rfl
 | a::l,l',n1,n2,h1,h2=>by
  rw[List.nodup_cons]at n1;rw[zky (h1 a (by simp))];show φ a+sm φ l=_;rw[zny (l:=l) (l':=l'.erase a) n1.2 (n2.erase a) (λb hb=>?_) λb hb nb=>?_]
  ·exact(List.Nodup.mem_erase_iff n2).mpr ⟨λe=>n1.1 (e ▸ hb),h1 b (by simp[hb])⟩
  ·have:=(List.Nodup.mem_erase_iff n2).mp hb;exact h2 b this.2 (by simp[this.1,nb])
abbrev Po(F:Type):=List Int->F
variable{m:Nat}
def Spt(m:Nat)(φ : Po F):Prop:=∀t,φ t≠0->T0 m t
def sh(l:List Int)(φ : Po F):Po F:=λt=>if t.length=l.length then φ (subT t l) else 0
theorem zv8{l u:List Int}{φ : Po F}(h:u.length=l.length):sh l φ (addT l u) = φ u:=by unfold sh;rw[Yl (zby h.symm),zm9 h]
theorem zt8{l t:List Int}{φ : Po F}(h:t.length=l.length):sh l φ t = φ (subT t l):=by unfold sh;rw[Yl h]
theorem zyi{l t:List Int}{φ : Po F}(hl:T0 m l)(hs:Spt m φ)(h:sh l φ t≠0):T0 m t/\zqd l t=true/\φ (subT t l)≠0/\t=addT l (subT t l):=by
 unfold sh at h;split at h
 ·rename_i e
  have t0:=hs _ h;have et:=(zgi e).symm;refine⟨?_,?_,h,et⟩
  ·rw[et];exact T0.add hl t0
  ·rw[et];exact zqb t0 hl
 ·exact absurd rfl h
def mul(S:List (List Int))(φ ψ : Po F):Po F:=λt=>sm (λo=>φ o*sh o ψ t) S
theorem zso{S S':List (List Int)}{φ ψ : Po F}(n1:S.Nodup)(n2:S'.Nodup)(h1:∀t,φ t≠0->t∈S)(h2:∀t,φ t≠0->t∈S'):mul S φ ψ = mul S' φ ψ:=by
 have z:∀{S:List (List Int)},S.Nodup->(∀t,φ t≠0->t∈S)->∀t,mul S φ ψ t=sm (λo=>φ o*sh o ψ t) (S.filter λo => @decide (φ o≠0) (Classical.propDecidable _)):=fun{S} nS hS t=>by
  refine(zny (nS.filter _) nS (λa ha=>(List.mem_filter.mp ha).1) λa ha na=>?_).symm;have : φ a=0:=Classical.byContradiction λq=>na (List.mem_filter.mpr ⟨ha,@Yo _ (Classical.propDecidable _) q⟩)
  rw[this];grind
 funext t
 rw[z n1 h1,z n2 h2];refine zny (n1.filter _) (n2.filter _) (λa ha=>?_) λa ha na=>?_
 ·have q := @Ji _ (Classical.propDecidable _) (List.mem_filter.mp ha).2;exact List.mem_filter.mpr ⟨h2 a q,(List.mem_filter.mp ha).2⟩
 ·have q := @Ji _ (Classical.propDecidable _) (List.mem_filter.mp ha).2;exact absurd (List.mem_filter.mpr ⟨h1 a q,(List.mem_filter.mp ha).2⟩) na
theorem zwf{S:List (List Int)}{φ ψ : Po F}{t:List Int}(h:mul S φ ψ t≠0):∃o∈S,φ o≠0/\sh o ψ t≠0:=Classical.byContradiction λz=>h (zex λo ho=>by
 by_cases c : φ o=0
 ·rw[c];grind
 ·have:sh o ψ t=0:=Classical.byContradiction λq=>z ⟨o,ho,c,q⟩
  rw[this];grind)
end
end G
namespace G
open L2 PySem K1 K2 K3 K6 K8 K37
section
variable{F:Type}[Lean.Grind.Field F]{n:Int}
theorem zsw[Chr n F]{k:Int}(h:¬zr n k):ic (F:=F) k≠0:=λz=>h ((Chr.z k).mp z)
theorem zkn[Chr n F]{a b:Int}:ic (F:=F) a=ic b↔zr n (a-b):=by
 rw[<- Chr.z (F:=F),zfy];exact⟨λh=>by rw[h];grind,λh=>by grind⟩
theorem zcw[Chr n F](k:Int):ic (F:=F) (k%n)=ic k:=by
 rw[zkn (n:=n)];by_cases c:n=0
 ·subst c;rw[zr_0];simp
 ·rw[zr_n c];have:=Int.mul_ediv_add_emod k n;have e:k%n-k=n*(-(k / n)):=by rw[Int.mul_neg];omega
  rw[e];simp
def Rep(n:Int)(H:Hp)(v:V)(x:F):Prop:=
 if n=0 then ∃(r:Addr) (p q:Int),v=.ref r/\H r=some (.tup [.int p,.int q])/\1<=q/\gI p q=1/\x*ic q=ic p
 else ∃a:Int,v=.int a/\0<=a/\a<n/\x=ic a
theorem rep_0{H:Hp}{v:V}{x:F}:Rep 0 H v x↔∃(r:Addr) (p q:Int),v=.ref r/\H r=some (.tup [.int p,.int q])/\1<=q/\gI p q=1/\x*ic q=ic p:=by unfold Rep;rw[Yl rfl]
theorem zdo(h:n≠0){H:Hp}{v:V}{x:F}:Rep n H v x↔∃a:Int,v=.int a/\0<=a/\a<n/\x=ic a:=by unfold Rep;rw[Yh h]
theorem Rep.keep{H H':Hp}{v:V}{x:F}(k:∀b xs,H b=some (.tup xs)->H' b=some (.tup xs))(h:Rep n H v x):Rep n H' v x:=by
 by_cases z:n=0
 ·subst z;obtain⟨r,p,q,e,hr,w⟩:=rep_0.mp h;exact rep_0.mpr ⟨r,p,q,e,k _ _ hr,w⟩
 ·exact(zdo z).mpr ((zdo z).mp h)
theorem Rep.same{H H':Hp}{v:V}{x:F}(e:Same H H')(h:Rep n H v x):Rep n H' v x:=h.keep λ_ _=>e _ _
def RD(n:Int)(x:F)(d:PyData):Prop:=
 if n=0 then ∃(p q:Int),d=.tuple [.int p,.int q]/\1<=q/\gI p q=1/\x*ic q=ic p
 else ∃a:Int,d=.int a/\0<=a/\a<n/\x=ic a
theorem rd_0{d:PyData}{x:F}:RD 0 x d↔∃(p q:Int),d=.tuple [.int p,.int q]/\1<=q/\gI p q=1/\x*ic q=ic p:=by unfold RD;rw[Yl rfl]
theorem rd_n(h:n≠0){d:PyData}{x:F}:RD n x d↔∃a:Int,d=.int a/\0<=a/\a<n/\x=ic a:=by unfold RD;rw[Yh h]
theorem Rep.rd{K:W.Frag}{H:Hp}{v:V}{x:F}(h:Rep n H v x):∃d,Rds K H v d/\NmD d/\RD n x d:=by
 by_cases z:n=0
 ·subst z;obtain⟨r,p,q,rfl,hr,w⟩:=rep_0.mp h;exact⟨_,zqh hr,zpg p q,rd_0.mpr ⟨p,q,Z,w⟩⟩
 ·obtain⟨a,rfl,w⟩:=(zdo z).mp h;exact⟨_,.int a,zt3 a,(rd_n z).mpr ⟨a,Z,w⟩⟩
theorem RD.eq[Chr n F]{x y:F}{d e:PyData}(h:RD n x d)(h':RD n y e):PyData.eqv d e=true↔x=y:=by
 by_cases z:n=0
 ·subst z;obtain⟨p,q,rfl,q1,c,w⟩:=rd_0.mp h;obtain⟨p',q',rfl,q1',c',w'⟩:=rd_0.mp h';have ee:PyData.eqv (.tuple [.int p,.int q]) (.tuple [.int p',.int q'])=decide ([p,q]=[p',q']):=by rw[PyData.eqv];exact zld [p,q] [p',q']
  have nz:ic (F:=F) q≠0:=zsw (n:=0) (by rw[zr_0];omega);have nz':ic (F:=F) q'≠0:=zsw (n:=0) (by rw[zr_0];omega);rw[ee,decide_eq_true_iff];constructor
  ·intro g;simp at g;obtain⟨rfl,rfl⟩:=g;grind
  ·rintro rfl;have k:ic (F:=F) (p*q')=ic (p'*q):=by rw[za5,za5,<- w,<- w'];grind
   rw[zkn (n:=0),zr_0]at k;obtain⟨e1,e2⟩:=zl4 q1 q1' c c' (by omega);rw[e1,e2]
 ·obtain⟨a,rfl,a0,a1,w⟩:=(rd_n z).mp h;obtain⟨b,rfl,b0,b1,w'⟩:=(rd_n z).mp h';have ee:PyData.eqv (.int a) (.int b)=decide (a=b):=by simp[PyData.eqv,Bool.beq_eq_decide_eq]
  rw[ee,decide_eq_true_iff];constructor
  ·rintro rfl;rw[w,w']
  ·rintro rfl;have k:ic (F:=F) a=ic b:=by rw[<- w,<- w']
   rw[zkn (n:=n),zr_n z]at k;obtain⟨j,hj⟩:=Int.dvd_of_emod_eq_zero k;have:j=0:=by
    rcases(by omega:j=0\/1<=j\/j<=-1) with q | q | q
    ·exact q
    ·have:=Y3 q (show 0<=n by omega);omega
    ·have:=Y3 q (show 0<=n by omega);omega
   subst this;omega
def un(k:List Key):List Int:=k.map λx=>match x with | .inl i=>i | .inr _=>0
theorem zjq:∀xs:List Int,un (ky xs)=xs
 | []=>rfl
 | x::xs=>by show x::un (ky xs)=_;rw[zjq xs]
def tms(kvs:List (List Key×V)):List (List Int):=kvs.map λp=>un p.1
structure PF(n:Int)(m:Nat)(H:Hp)(kvs:List (List Key×V))(φ : Po F):Prop where
 ks:∀p∈kvs,∃t,p.1=ky t/\T0 m t
 nd:(kvs.map (·.1)).Nodup
 out:∀t,valV kvs (ky t)=none->φ t=0
 val:∀t v,valV kvs (ky t)=some v->Rep n H v (φ t)/\φ t≠0
def setP(φ : Po F)(k:List Int)(x:F):Po F:=λt=>if t=k then x else φ t
theorem zgx{φ : Po F}{k:List Int}{x:F}:setP φ k x k=x:=Yl rfl
theorem zc9{φ : Po F}{k t:List Int}{x:F}(h:t≠k):setP φ k x t = φ t:=Yh h
variable{m:Nat}{H H':Hp}{kvs:List (List Key×V)}{φ ψ : Po F}
theorem PF.keep(k:∀b xs,H b=some (.tup xs)->H' b=some (.tup xs))(h:PF n m H kvs φ):PF n m H' kvs φ:=⟨h.ks,h.nd,h.out,λt v e=>⟨(h.val t v e).1.keep k,(h.val t v e).2⟩⟩
theorem PF.same(e:Same H H')(h:PF n m H kvs φ):PF n m H' kvs φ:=h.keep λ_ _=>e _ _
theorem PF.congr(h:PF n m H kvs φ)(e:∀t,φ t = ψ t):PF n m H kvs ψ:=by rw[<- show φ = ψ from funext e];exact h
theorem PF.nil:PF n m H [] (λ_=>(0:F)):=⟨(λp hp=>by cases hp),List.nodup_nil,λ_ _=>Z,λt v e=>by simp[valV]at e⟩
theorem PF.mem(h:PF n m H kvs φ){t:List Int} : φ t≠0↔ky t∈kvs.map (·.1):=by
 rw[<- mem_of_valV]
 cases q:valV kvs (ky t) with
 | none=>simp;exact h.out t q
 | some v=>simp;exact(h.val t v q).2
theorem PF.keys(h:PF n m H kvs φ):kvs.map (·.1)=(tms kvs).map ky:=by
 unfold tms;rw[Jg];refine List.map_congr_left λp hp=>?_
 obtain⟨t,e,_⟩:=h.ks p hp;show p.1=ky (un p.1);rw[e,zjq]
theorem PF.tmem(h:PF n m H kvs φ){t:List Int}:t∈tms kvs↔φ t≠0:=by
 rw[h.mem,h.keys,Jh];constructor
 ·intro ht;exact⟨t,ht,Z⟩
 ·rintro⟨u,hu,e⟩;rw[<- zg6 e];exact hu
theorem PF.tnd(h:PF n m H kvs φ):(tms kvs).Nodup:=zi1 (f:=ky) (by rw[<- h.keys];exact h.nd)
theorem PF.ix(h:PF n m H kvs φ){i:Nat}{k:List Key}{v:V}(hk:kvs[i]? = some (k,v)):∃t,k=ky t/\T0 m t/\(tms kvs)[i]? = some t/\Rep n H v (φ t)/\φ t≠0:=by
 obtain⟨t,e,t0⟩:=h.ks _ (Yx hk);have e:k=ky t:=e;have hv:=zkt h.nd hk;rw[e]at hv;refine⟨t,e,t0,?_,h.val t v hv⟩;unfold tms;rw[Ym,hk];show some (un k)=_;rw[e,zjq]
theorem PF.put(h:PF n m H kvs φ){k:List Int}{v:V}{x:F}(hk:T0 m k)(hv:Rep n H v x)(hx:x≠0):PF n m H (putK kvs (ky k) v) (setP φ k x):=by
 have vp:∀t,valV (putK kvs (ky k) v) (ky t)=if t=k then some v else valV kvs (ky t):=λt=>by
  rw[zlb];by_cases c:t=k
  ·rw[Yl c,Yl (by rw[c])]
  ·rw[Yh c,Yh λz=>c (zg6 z)]
 refine⟨λp hp=>?_,zxy h.nd,λt e=>?_,λt w e=>?_⟩
 ·have:p.1∈(putK kvs (ky k) v).map (·.1):=Jh.mpr ⟨p,hp,Z⟩;rw[zkl]at this;have:p.1∈kvs.map (·.1)\/p.1=ky k:=by
   split at this
   ·exact .inl this
   ·rcases Jr.mp this with q | q
    ·exact .inl q
    ·exact .inr (Yq.mp q)
  rcases this with q | q
  ·obtain⟨p',hp',e⟩:=Jh.mp q;obtain⟨t,e',t0⟩:=h.ks p' hp';exact⟨t,by rw[<- e,e'],t0⟩
  ·exact⟨k,q,hk⟩
 ·rw[vp]at e;by_cases c:t=k
  ·rw[Yl c]at e;cases e
  ·rw[Yh c]at e;rw[zc9 c];exact h.out t e
 ·rw[vp]at e;by_cases c:t=k
  ·rw[Yl c]at e;cases e;rw[c,zgx];exact⟨hv,hx⟩
  ·rw[Yh c]at e;rw[zc9 c];exact h.val t w e
theorem PF.drop(h:PF n m H kvs φ)(k:List Int):PF n m H (zf7 kvs (ky k)) (setP φ k 0):=by
 have vp:∀t,valV (zf7 kvs (ky k)) (ky t)=if t=k then none else valV kvs (ky t):=λt=>by
  rw[zmc];by_cases c:t=k
  ·rw[Yl c,Yl (by rw[c])]
  ·rw[Yh c,Yh λz=>c (zg6 z)]
 refine⟨λp hp=>h.ks p (List.mem_filter.mp hp).1,(List.Sublist.map _ List.filter_sublist).nodup h.nd,λt e=>?_,λt w e=>?_⟩
 ·by_cases c:t=k
  ·rw[c,zgx]
  ·rw[vp,Yh c]at e;rw[zc9 c];exact h.out t e
 ·rw[vp]at e;by_cases c:t=k
  ·rw[Yl c]at e;cases e
  ·rw[Yh c]at e;rw[zc9 c];exact h.val t w e
theorem zmn{K:W.Frag}{H:Hp}:∀{kvs:List (List Key×V)} {φ : Po F},(∀p∈kvs,∃t,p.1=ky t/\Rep n H p.2 (φ t))->∃da,KDs K H kvs da/\Flats da/\kvs.map (·.1)=da.map (·.1)/\∀p∈da,∃t,p.1=ky t/\RD n (φ t) p.2
 | [],_,_=>⟨[],.nil,(λ_ z=>by cases z),rfl,(λ_ z=>by cases z)⟩
 | p::l,φ,h=>by
  obtain⟨t,et,hx⟩:=h p (.head _);obtain⟨da,h1,h2,h3,h4⟩:=zmn (K:=K) (kvs:=l) (φ:=φ) λq hq=>h q (.tail _ hq)
  obtain⟨d,r,nm,rd⟩:=hx.rd (K:=K);refine⟨(p.1,d)::da,.cons ⟨Z,r⟩ h1,λq hq=>?_,by rw[Yz,Yz,h3],λq hq=>?_⟩
  ·rcases Yj.mp hq with rfl | hq
   ·exact⟨nm.lay,nm.dep⟩
   ·exact h2 q hq
  ·rcases Yj.mp hq with rfl | hq
   ·exact⟨t,et,rd⟩
   ·exact h4 q hq
theorem zg9{db:List (List Key×PyData)}{k:List Key}{d:PyData}(h:zdz db k=some d):(k,d)∈db:=by
 unfold zdz at h;obtain⟨p,hp,e⟩:=Option.map_eq_some_iff.mp h;have h1:=List.find?_some hp;have h2:=List.mem_of_find?_eq_some hp;have:p.1=k:=Ji h1;rw[<- this,<- e];exact h2
theorem zjh{db:List (List Key×PyData)}{k:List Key}(h:k∈db.map (·.1)):∃d,zdz db k=some d:=by
 unfold zdz;obtain⟨p,hp,e⟩:=Jh.mp h;have:(db.find? λq=>decide (q.1=k)).isSome=true:=List.find?_isSome.mpr ⟨p,hp,Yo e⟩;obtain⟨q,hq⟩:=Option.isSome_iff_exists.mp this;exact⟨q.2,by rw[hq];rfl⟩
theorem PF.eq[Chr n F]{kvs':List (List Key×V)}{da db:List (List Key×PyData)}(h:PF n m H kvs φ)(h':PF n m H' kvs' ψ)
  (ka:kvs.map (·.1)=da.map (·.1)) (kb:kvs'.map (·.1)=db.map (·.1)) (ra:∀p∈da,∃t,p.1=ky t/\RD n (φ t) p.2) (rb:∀p∈db,∃t,p.1=ky t/\RD n (ψ t) p.2):eqKD da db=true↔∀t,φ t = ψ t:=by
 have la:kvs.length=da.length:=by have:=Jt List.length ka;simpa using this
 have lb:kvs'.length=db.length:=by have:=Jt List.length kb;simpa using this
 have key:∀t,φ t≠0->ky t∈da.map (·.1):=λt ht=>by rw[<- ka];exact h.mem.mp ht
 have key':∀t,ψ t≠0->ky t∈db.map (·.1):=λt ht=>by rw[<- kb];exact h'.mem.mp ht
 unfold eqKD;rw[Jv,beq_iff_eq,List.all_eq_true];constructor
 ·rintro⟨hl,ha⟩ t;have step:∀t,φ t≠0->φ t = ψ t:=λt ht=>by
   obtain⟨p,hp,e⟩:=Jh.mp (key t ht);obtain⟨u,eu,r⟩:=ra p hp;have q:=ha p hp;have:u=t:=zg6 (eu.symm.trans e);subst this;split at q
   ·rename_i d hd
    obtain⟨u',eu',r'⟩:=rb _ (zg9 hd);have:u'=u:=zg6 (eu'.symm.trans eu);subst this;exact(RD.eq r r').mp q
   ·cases q
  by_cases c : φ t=0
  ·rw[c];refine Classical.byContradiction λz=>?_
   have hz : ψ t≠0:=λq=>z q.symm
   have sub:∀k∈tms kvs,k∈(tms kvs').erase t:=λk hk=>by
    have nz:=h.tmem.mp hk;have e:=step k nz;rw[List.Nodup.mem_erase_iff h'.tnd];refine⟨λq=>nz (by rw[q];exact c),h'.tmem.mpr (by rw[<- e];exact nz)⟩
   have l1:=zfg h.tnd sub;rw[List.length_erase_of_mem (h'.tmem.mpr hz)]at l1;have l2:(tms kvs).length=kvs.length:=Yd _;have l3:(tms kvs').length=kvs'.length:=Yd _;have l4:0<(tms kvs').length:=List.length_pos_of_mem (h'.tmem.mpr hz);omega
  ·exact step t c
 ·intro e;have tt:∀t,t∈tms kvs↔t∈tms kvs':=λt=>by rw[h.tmem,h'.tmem,e]
  have l1:=zfg h.tnd λk hk=>(tt k).mp hk
  have l2:=zfg h'.tnd λk hk=>(tt k).mpr hk
  have l3:(tms kvs).length=kvs.length:=Yd _;have l4:(tms kvs').length=kvs'.length:=Yd _;refine⟨by omega,λp hp=>?_⟩;obtain⟨t,et,r⟩:=ra p hp;have nz : φ t≠0:=h.mem.mpr (by rw[ka,<- et];exact Jh.mpr ⟨p,hp,Z⟩);obtain⟨d,hd⟩:=zjh (key' t (by rw[<- e];exact nz));rw[et,hd];obtain⟨u,eu,r'⟩:=rb _ (zg9 hd);have:t=u:=zg6 eu;subst this;exact(RD.eq r r').mpr (e t)
end
end G
namespace G
open L2 PySem K1 K2 K3 K6 K8 K37
section
variable{F:Type}[Lean.Grind.Field F]{n:Int}
def Lim(n:Int)(k:Nat)(x:F):Prop:=n=0->∃T B:Int,B≠0/\x*ic B=ic T/\T.natAbs<2^k/\B.natAbs<2^k
theorem Lim.up{k j:Nat}{x:F}(h:Lim n k x)(hk:k<=j):Lim n j x:=λz=>by
 obtain⟨T,B,b0,e,h1,h2⟩:=h z;exact⟨T,B,b0,e,Yf h1 (Yv (by decide) hk),Yf h2 (Yv (by decide) hk)⟩
theorem zrs[Chr 0 F]{k:Int}(h:k≠0):ic (F:=F) k≠0:=zsw (n:=0) (by rw[zr_0];exact h)
theorem zti[Chr 0 F]{a b:Int}(h:ic (F:=F) a=ic b):a=b:=by
 rw[zkn (n:=0),zr_0]at h;omega
theorem zn9[Chr 0 F]{x:F}{p q T B:Int}(h:x*ic q=ic p)(h':x*ic B=ic T):p*B=T*q:=
 zti (F:=F) (by rw[za5,za5,<- h,<- h'];grind)
theorem zgo[Chr 0 F]{k:Nat}{H:Hp}{v:V}{x:F}(h:Rep 0 H v x)(l:Lim 0 k x):∃(r:Addr) (p q:Int),v=.ref r/\H r=some (.tup [.int p,.int q])/\1<=q/\gI p q=1/\x*ic q=ic p/\p.natAbs<2^k/\q.natAbs<2^k:=by
 obtain⟨r,p,q,rfl,hr,q1,c,e⟩:=rep_0.mp h;obtain⟨T,B,b0,e',h1,h2⟩:=l rfl;obtain⟨a1,a2⟩:=zw2 q1 c b0 (zn9 e e');exact⟨r,p,q,Z,hr,q1,c,e,Yp a1 h1,Yp a2 h2⟩
theorem zgb[Chr 0 F]{H:Hp}{r:Addr}{x:F}{t b:Int}(hb:b≠0)(hr:H r=some (.tup [.int (fT t b),.int (fB t b)]))(e:x*ic b=ic t):Rep 0 H (.ref r) x:=by
 refine rep_0.mpr ⟨r,_,_,Z,hr,zr2 hb,zvq hb,?_⟩;have c:=zm4 (t:=t) hb;have c2:ic (F:=F) (fT t b)*ic b=ic t*ic (fB t b):=by rw[<- za5,<- za5,c]
 have nz:ic (F:=F) b≠0:=zrs hb;rw[<- e]at c2;grind
theorem Lim.of{k:Nat}{x:F}{T B:Int}(b0:B≠0)(e:x*ic B=ic T)(h1:T.natAbs<2^k)(h2:B.natAbs<2^k):Lim n k x:=λ_=>⟨T,B,b0,e,h1,h2⟩
theorem Lim.neg{k:Nat}{x:F}(h:Lim n k x):Lim n k (-x):=λz=>by
 obtain⟨T,B,b0,e,h1,h2⟩:=h z;exact⟨-T,B,b0,by rw[zxg,<- e];grind,by rw[Int.natAbs_neg];exact h1,h2⟩
theorem Lim.mul[Chr n F]{k j:Nat}{x y:F}(h:Lim n k x)(h':Lim n j y):Lim n (k+j) (x*y):=λz=>by
 obtain⟨T,B,b0,e,h1,h2⟩:=h z;obtain⟨T',B',b0',e',h1',h2'⟩:=h' z;refine⟨T*T',B*B',(by intro q;rcases Int.mul_eq_zero.mp q with q | q;exact b0 q;exact b0' q),by rw[za5,za5,<- e,<- e'];grind,?_,?_⟩
 ·rw[Int.natAbs_mul,Nat.pow_add];exact Nat.mul_lt_mul'' h1 h1'
 ·rw[Int.natAbs_mul,Nat.pow_add];exact Nat.mul_lt_mul'' h2 h2'
end
end G
namespace G
open L2 PySem K1 K2 K3 K6 K8 K37
def Kp(A:List Addr)(H H':Hp):Prop:=∀b o,H b=some o->b ∉ A->H' b=some o
theorem Kp.of{A:List Addr}{H H':Hp}(e:Same H H'):Kp A H H':=λb o h _=>e b o h
theorem Kp.tr{A:List Addr}{H H1 H2:Hp}(h:Kp A H H1)(h':Kp A H1 H2):Kp A H H2:=λb o q nb=>h' b o (h b o q nb) nb
theorem Kp.upd{A:List Addr}{H:Hp}{a:Addr}{o:HO}(h:a∈A):Kp A H (upd H a o):=λb u q nb=>(zal (λe=>nb (by rw[e];exact h))).trans q
theorem Kp.refl(A:List Addr)(H:Hp):Kp A H H:=λ_ _ h _=>h
def Fix(H H':Hp):Prop:=∀b o,H b=some o->(∀kv,o≠.dT kv)->(∀ys,o≠.lst ys)->(∀q u,o≠.frz q u)->H' b=some o
theorem Fix.of{H H':Hp}(e:Same H H'):Fix H H':=λb o h _ _ _=>e b o h
theorem Fix.tr{H H1 H2:Hp}(h:Fix H H1)(h':Fix H1 H2):Fix H H2:=λb o q a c d=>h' b o (h b o q a c d) a c d
theorem Fix.tup{H H':Hp}(h:Fix H H'):∀b xs,H b=some (.tup xs)->H' b=some (.tup xs):=λb xs q=>h b _ q (λ_ z=>by cases z) (λ_ z=>by cases z) (λ_ _ z=>by cases z)
theorem Fix.ins{H H':Hp}(h:Fix H H'){b C dx:Addr}{fs:List (Str×V)}(q:H b=some (.ins C dx fs)):H' b=some (.ins C dx fs):=h b _ q (λ_ z=>by cases z) (λ_ z=>by cases z) (λ_ _ z=>by cases z)
theorem Kp.fix{A:List Addr}{H H':Hp}(h:Kp A H H')(hA:∀a∈A,∀o,H a=some o->(∃kv,o=.dT kv)\/(∃ys,o=.lst ys)\/∃q u,o=.frz q u):Fix H H':=λb o q a c d=>h b o q λz=>by
 rcases hA b z o q with⟨_,e⟩ | ⟨_,e⟩ | ⟨_,_,e⟩
 ·exact a _ e
 ·exact c _ e
 ·exact d _ _ e
theorem zcl{H:Hp}{d:Addr}{kv:List (List Key×V)}{o:HO}(hd:H d=some (.dT kv)):Fix H (upd H d o):=λb u q a _ _=>(zal λe=>by subst e;rw[hd]at q;injection q with q;exact a _ q.symm).trans q
theorem zo5{H:Hp}{d:Addr}{ys:List V}{o:HO}(hd:H d=some (.lst ys)):Fix H (upd H d o):=λb u q _ a _=>(zal λe=>by subst e;rw[hd]at q;injection q with q;exact a _ q.symm).trans q
theorem zdu{H:Hp}{d:Addr}{q:HO}{u:HO}{o:HO}(hd:H d=some q)(hq:(∃kv,q=.dT kv)\/(∃ys,q=.lst ys)\/∃x y,q=.frz x y):Fix H (upd H d o):=λb u h a c e=>(zal λz=>by
 subst z;rw[hd]at h;injection h with h;subst h
 rcases hq with⟨_,r⟩ | ⟨_,r⟩ | ⟨_,_,r⟩
 ·exact a _ r
 ·exact c _ r
 ·exact e _ _ r).trans h
section
variable{F:Type}[Lean.Grind.Field F]{n:Int}{m:Nat}{H H':Hp}
theorem Rep.fix{v:V}{x:F}(e:Fix H H')(h:Rep n H v x):Rep n H' v x:=h.keep e.tup
theorem PF.fix{kvs:List (List Key×V)}{φ : Po F}(e:Fix H H')(h:PF n m H kvs φ):PF n m H' kvs φ:=h.keep e.tup
theorem zgu[Chr n F]{K:W.Frag}{v u:V}{x y:F}(hx:Rep n H v x)(hy:Rep n H u y):∃d e,Rds K H v d/\Rds K H u e/\SeqAt.shaped d=true/\SeqAt.shaped e=true/\((x=y/\PyData.eqv d e=true)\/(x≠y/\PyData.eqv d e=false)):=by
 obtain⟨d,rd,nd,r⟩:=hx.rd (K:=K);obtain⟨e,re,ne,r'⟩:=hy.rd (K:=K);refine⟨d,e,rd,re,nd.shaped,ne.shaped,?_⟩
 cases q:PyData.eqv d e with
 | true=>exact .inl ⟨(RD.eq r r').mp q,rfl⟩
 | false=>exact .inr ⟨(λz=>by rw[(RD.eq r r').mpr z]at q;cases q),rfl⟩
def cutP(ψ : Po F)(S:List (List Int)):Po F:=λt=>if t∈S then ψ t else 0
theorem zfe{ψ : Po F}:cutP ψ []=λ_=>0:=funext λt=>by unfold cutP;rw[Yh (by simp)]
theorem ze8{ψ : Po F}{S:List (List Int)}(h:∀t,ψ t≠0->t∈S):cutP ψ S = ψ:=funext λt=>by
 unfold cutP;by_cases c:t∈S
 ·rw[Yl c]
 ·rw[Yh c];exact(Classical.byContradiction λz=>c (h t λq=>z q.symm))
theorem zm6{ψ : Po F}{S:List (List Int)}{t:List Int}(h:t∈S):cutP ψ S t = ψ t:=Yl h
theorem zh7{ψ : Po F}{S:List (List Int)}{t:List Int}(h:t ∉ S):cutP ψ S t=0:=Yh h
theorem zif{ψ : Po F}{S:List (List Int)}{t u:List Int}(h:t≠u):cutP ψ (S++[u]) t=cutP ψ S t:=by
 unfold cutP;by_cases c:t∈S
 ·rw[Yl c,Yl (by simp[c])]
 ·rw[Yh c,Yh (by simp[c,h])]
theorem zgc{φ ψ : Po F}{S:List (List Int)}{u:List Int}:setP (λt=>φ t+cutP ψ S t) u (φ u + ψ u)=λt=>φ t+cutP ψ (S++[u]) t:=funext λt=>by
 by_cases c:t=u
 ·subst c;rw[zgx,zm6 (by simp)]
 ·rw[zc9 c,zif c]
theorem ziu{x:F}{l:List Int}{ψ : Po F}{S:List (List Int)}{u:List Int}(hu:u.length=l.length):setP (λt=>x*sh l (cutP ψ S) t) (addT l u) (x * ψ u)=λt=>x*sh l (cutP ψ (S++[u])) t:=funext λt=>by
 by_cases c:t=addT l u
 ·subst c;rw[zgx,zv8 hu,zm6 (by simp)]
 ·rw[zc9 c];by_cases d:t.length=l.length
  ·rw[zt8 d,zt8 d,zif λe=>c (by rw[<- e];exact(zgi d).symm)]
  ·unfold sh;rw[Yh d,Yh d]
theorem zqu{ts:List (List Int)}{i:Nat}{t:List Int}(h:ts.Nodup)(hi:ts[i]? = some t):t ∉ ts.take i:=ztd h hi
theorem ze0(kvs:List (List Key×V)):(tms kvs).length=kvs.length:=Yd _
end
end G
namespace G
open L2 PySem K1 K2 K3 K6 K8 K37
section
variable{F:Type}[Lean.Grind.Field F]{n:Int}{rk:List Int->List Int}{m:Nat}
theorem zk2(S:List (List Int))(o:List Int)(φ ψ : Po F):mul (S++[o]) φ ψ = λt=>mul S φ ψ t + φ o*sh o ψ t:=funext λt=>zr6 _ S o
end
end G
namespace G
open L2 PySem K1 K2 K3 K6 K8 K37
section
variable{F:Type}[Lean.Grind.Field F]{n:Int}
theorem zmf[Chr 0 F]{t b:Int}(hb:b≠0):∃x:F,x*ic b=ic t:=by
 have nz:ic (F:=F) b≠0:=zrs hb;exact⟨ic t*(ic b)⁻¹,by grind⟩
theorem zpj[Chr 0 F]{H:Hp}{r:Addr}{x:F}{t b:Int}(hb:1<=b)(hr:H r=some (.tup [.int (t.fdiv (gI t b)),.int (b.fdiv (gI t b))]))(e:x*ic b=ic t):Rep 0 H (.ref r) x:=by
 refine zgb (t:=t) (b:=b) (by omega) ?_ e;unfold fT fB dv;rw[Yh (by omega)];exact hr
theorem zmr{φ : Po F}{x:F}{l:List Int}{ψ : Po F}{S:List (List Int)}{u:List Int}(hu:u.length=l.length):setP (λt=>φ t+x*sh l (cutP ψ S) t) (addT l u) (φ (addT l u)+x * ψ u)=λt=>φ t+x*sh l (cutP ψ (S++[u])) t:=funext λt=>by
 have e:=congrFun (ziu (x:=x) (ψ:=ψ) (S:=S) hu) t;by_cases c:t=addT l u
 ·subst c;rw[zgx]at e ⊢;rw[e]
 ·rw[zc9 c]at e ⊢;rw[e]
theorem zk8(kv:List (List Key×V))(k:List Key)(v:V):zf7 (putK kv k v) k=zf7 kv k:=by
 have key:∀l:List (List Key×V),(l.map λkv=>if kv.1=k then(kv.1,v) else kv).filter (λkv=>decide (kv.1≠k))=l.filter λkv=>decide (kv.1≠k):=λl=>by
  induction l with
  | nil=>rfl
  | cons q l ih=>
   rw[Yz,List.filter_cons,List.filter_cons,ih];by_cases c:q.1=k
   ·simp[c]
   ·simp[c]
 unfold putK;split
 ·unfold zf7;exact key kv
 ·unfold zf7;rw[List.filter_append];simp
end
end G
namespace HL
open L2 PySem
def dot:List Int->List Int->Int
 | a::as,x::xs=>a*x+dot as xs
 | _,_=>0
def lin(c:Int):List Int->List Int->List Int
 | p::as,q::bs=>(c*p+q)::lin c as bs
 | [],bs=>bs
 | as,[]=>as.map (c * ·)
def rg(f:Int->Int->Int):List Int->List (Int×Int)->Int
 | a::as,b::bs=>f (a*b.1) (a*b.2)+rg f as bs
 | _,_=>0
inductive InB:List Int->List (Int×Int)->Prop
 | nil:InB [] []
 | cons {x l h:Int} {xs:List Int} {bs:List (Int×Int)} (h1:l<=x) (h2:x<=h) (r:InB xs bs):InB (x::xs) ((l,h)::bs)
theorem znl(a:List Int):dot a []=0:=by cases a <;> rfl
theorem zhn(c:Int):∀(a x:List Int),dot (a.map (c * ·)) x=c*dot a x
 | [],x=>by simp[dot]
 | p::as,[]=>by simp[dot]
 | p::as,x::xs=>by
  rw[Yz,dot,dot,zhn c as xs,Int.mul_add,Int.mul_assoc]
theorem zhe(c:Int):∀(a b x:List Int),dot (lin c a b) x=c*dot a x+dot b x
 | [],bs,x=>by simp[lin,dot]
 | p::as,[],x=>by
  rw[lin,zhn]
  ·simp[dot]
  ·intro h;cases h
 | p::as,q::bs,[]=>by simp[znl]
 | p::as,q::bs,x::xs=>by
  rw[lin,dot,dot,dot,zhe c as bs xs,Int.add_mul,Int.mul_add,Int.mul_assoc];omega
theorem rng{x:List Int}{b:List (Int×Int)}(h:InB x b):∀a:List Int,rg min a b<=dot a x/\dot a x<=rg max a b:=by
 induction h with
 | nil=>intro a;cases a <;> simp[rg,dot]
 | @cons x l h xs bs h1 h2 _ ih=>
  intro a
  cases a with
  | nil=>simp[rg,dot]
  | cons p as=>
   have i:=ih as;have k:min (p*l) (p*h)<=p*x/\p*x<=max (p*l) (p*h):=by
    rcases Int.le_total 0 p with c | c
    ·have:=Y3 h1 c;have:=Y3 h2 c;omega
    ·have:=Int.mul_le_mul_of_nonpos_left c h1;have:=Int.mul_le_mul_of_nonpos_left c h2;omega
   simp only[rg,dot]
   omega
theorem zmo{m:Int}:∀{v x:List Int},(v.all λa=>a%m == 0)=true->m ∣ dot v x
 | [],x,_=>by cases x <;> exact Int.dvd_zero m
 | a::as,[],_=>by rw[znl];exact Int.dvd_zero m
 | a::as,x::xs,h=>by
  rw[List.all_cons,Jv]at h;exact Int.dvd_add (Int.dvd_trans (Int.dvd_of_emod_eq_zero (by simpa using h.1)) ⟨x,Z⟩) (zmo h.2)
def rows:List (List Int):=[[14029467366897019727,-1,-8589934592,0,0,0,0,0,0,0],[0,24482848576459741522263277568,11400714785074694791,14029467366897019727,-1,-8589934592,0,0,0,0],[0,0,0,0,24482848576459741522263277568,11400714785074694791,14029467366897019727,-1,-8589934592,0],[0,0,0,0,0,0,0,24482848576459741522263277568,11400714785074694791,14029467366897019727]]
def cmb:List Int->List (List Int)->List Int->List Int
 | c::cs,r::rs,a=>lin c r (cmb cs rs a)
 | _,_,a=>a
def csum:List Int->List Int->Int
 | c::cs,k::ks=>c*k+csum cs ks
 | _,_=>0
theorem zmj{m:Int}{x:List Int}:∀{cs:List Int} {rs:List (List Int)} {ks a:List Int},rs.length=ks.length->(∀p∈rs.zip ks,m ∣ dot p.1 x+p.2)->m ∣ dot (cmb cs rs a) x-dot a x+csum cs ks
 | [],_,_,a,_,_=>by simp[cmb,csum]
 | c::cs,[],[],a,_,_=>by simp[cmb,csum]
 | c::cs,r::rs,k::ks,a,e,h=>by
  have i:=zmj (cs:=cs) (a:=a) (Nat.succ.inj e) λp hp=>h p (List.mem_cons_of_mem _ hp)
  have j:m ∣ c*(dot r x+k):=Int.dvd_trans (h (r,k) (List.mem_cons_self ..)) ⟨c,Int.mul_comm ..⟩;have q:=Int.dvd_add j i;rw[cmb,csum,zhe];have z:c*(dot r x+k)+(dot (cmb cs rs a) x-dot a x+csum cs ks)=c*dot r x+dot (cmb cs rs a) x-dot a x+(c*k+csum cs ks):=by
   rw[Int.mul_add];omega
  rwa [z]at q
 | _::_,[],_::_,_,e,_=>nomatch e
 | _::_,_::_,[],_,e,_=>nomatch e
theorem tel{m:Int}{x:List Int}{cs:List Int}{rs:List (List Int)}{ks a:List Int}(e:rs.length=ks.length)(h:∀p∈rs.zip ks,m ∣ dot p.1 x+p.2)(c:((cmb cs rs a).all λa=>a%m == 0)=true):m ∣ dot a x-csum cs ks:=by
 have p:=zmj (cs:=cs) (a:=a) e h;have q:m ∣ dot (cmb cs rs a) x:=zmo c;have:=Int.dvd_sub q p;have z:dot (cmb cs rs a) x-(dot (cmb cs rs a) x-dot a x+csum cs ks)=dot a x-csum cs ks:=by omega
 rwa [z]at this
theorem cmb0{x:List Int}:∀{n:List Int} {vs:List (List Int)} {a:List Int},(∀v∈vs,dot v x=0)->dot (cmb n vs a) x=dot a x
 | [],_,_,_=>rfl
 | _::_,[],_,_=>rfl
 | c::cs,v::vs,a,h=>by
  rw[cmb,zhe,h v (List.mem_cons_self ..),Int.mul_zero,Int.zero_add,cmb0 λv hv=>h v (List.mem_cons_of_mem _ hv)]
def bd:List (Int×Int):=[(-5959,5959),(-8589934591,8589934591),(-2147483647,2147483647),(-5959,5959),(-8589934591,8589934591),(-2147483647,2147483647),(-5959,5959),(-8589934591,8589934591),(-2147483647,2147483647),(-5959,5959)]
def up(n:Nat):List (Int×Int):=(List.range 10).map λi=>(0,if i+3*n<12 then 0 else if i%3=0 then 5959 else if i%3=1 then 8589934591 else 2147483647)
def ends:List (List Int×List Int):=[([-6521,-3883,-7493,3087,4644,8385,-2335,-8997,29477,-16149],[18446744073709551616,0,0,0,0,0,0,0,0,0]),([-571,-4255,6755,-1537,1903,14505,2527,8287,-16051,3060],[0,0,0,18446744073709551616,0,0,0,0,0,0]),([2520,5808,-3020,-10597,-5832,-8415,1396,718,-5217,9054],[0,0,0,0,0,0,18446744073709551616,0,0,0]),([-1561,-5660,12455,-7212,8507,2549,-8528,2296,288,137],[0,0,0,0,0,0,0,0,0,18446744073709551616])]
def chk:List (List Int×List Int×Int×List Int)->List (List Int)->Bool
 | [],vs=>ends.all λp=>cmb p.1 vs [] == p.2
 | (c,a,D,n)::r,vs=>((cmb (c.map (- ·)) rows a).all λa=>a%18446744073709551616 == 0)&&decide (0<D)&&decide (-(D*18446744073709551616)<rg min (cmb n vs (a.map (D * ·))) bd)&&decide (rg max (cmb n vs (a.map (D * ·))) bd<D*18446744073709551616)&&chk r (a::vs)
theorem zwh:chk [([17435822114912145279,17905073769645506237,17611593259935802659,18383824011069167251],[-191621975155407,-641535871,-470747221,158049356520275,186483011,-252234891,-166956771862835,81582813,-388897403,-7616565024675],1,[]),([2977914028633364420,17929231908531603824,3011474804232707597,15988524355155513262],[557907583189372,-139990980,1386699280,113167821486480,73397904,-240985381,127769474430211,-72637965,1402327234,439045684711602],1,[0]),([771264783656748274,2312876220039415752,8682607352593326970,4594700623179317075],[50329611840686,-27329778,359148152,348515640098488,-15058888,1077016918,364142505423014,8051846,4043154117,238530341534621],1,[0,0]),([2627959259631915371,354790952711147668,93227483592874532,5204819626746602306],[817785139599621,359722645,1223738892,288894596299180,505491308,165212412,-161768345182948,-47929892,43412430,-49026203502754],8,[2,-6,6]),([705632619757267164,16053798444967567918,17336038934472811310,16604614456757951657],[389279758110692,-177170652,328585794,1171964299855410,-134390318,-1114302142,154235689915698,-93840174,-517212385,-225103694234841],8,[3,5,-10,2]),([12111386737107673999,18270707200062112901,17005739023115400861,17452668354488064131],[459054857761,-179184527,-2950130653,-475357692576757,421542779,-81973557,-960029977708173,-264943261,-671020267,26135643656557],8,[4,-3,1,0,-5]),([52124711150863758,17669326906219382356,613171729539816335,17718452423544869719],[-659418137734958,-204129678,24272460,-333273820573716,-24462932,-362013079,-1459558525663711,175613041,285530337,-380027718478631],8,[1,3,1,-2,4,-4]),([6307709010540113541,15506609889655832022,517912734898271765,12075474483667714753],[92102285357579,406442363,2937255898,241164554340106,8471082,-1369106669,-428298034808965,331139563,241171911,1239859061146767],8,[-5,6,0,-6,1,1,1]),([270655212917497224,12208186959056532497,1144215242434527825,722755051056314401],[73855176996088,292676216,126033655,490633486462015,-102691857,-2905054537,-29073651052033,538590639,532816743,161200255999279],8,[-2,0,-1,-3,0,-2,3,3]),([2970651376463315563,17653588883425017248,227703104307982907,18009802888412225592],[-155716305946619,-228524651,1383317344,-22740050385824,-123026848,-369341667,-120327448565451,-1451749947,106032520,-279451371562680],8,[-1,2,-3,4,1,0,2,-3,-2])] []=true:=by decide +kernel
theorem run{x:List Int}(hb:InB x bd)(h:∀r∈rows,(18446744073709551616:Int) ∣ dot r x):∀{l:List (List Int×List Int×Int×List Int)} {vs:List (List Int)},chk l vs=true->(∀v∈vs,dot v x=0)->∀p∈ends,dot p.2 x=0
 | [],vs,c,hv,p,hp=>by
  have:=List.all_eq_true.mp c p hp;rw[<- beq_iff_eq.mp this,cmb0 hv];rfl
 | (c,a,D,n)::r,vs,k,hv,p,hp=>by
  rw[chk]at k;simp only[Bool.and_eq_true,decide_eq_true_eq]at k;obtain⟨⟨⟨⟨k1,k2⟩,k3⟩,k4⟩,k5⟩:=k;refine run hb h k5 (λv hv'=>?_) p hp;rcases Yj.mp hv' with rfl | hv'
  ·have t:=tel (ks:=[0,0,0,0]) rfl (λp hp=>by
    have:p.1∈rows/\p.2=0:=by
     simp only[rows,List.zip_cons_cons,List.zip_nil_left,List.mem_cons,List.not_mem_nil,or_false]at hp ⊢
     rcases hp with rfl | rfl | rfl | rfl <;> simp
    rw[this.2,Int.add_zero];exact h _ this.1) k1
   have z:csum (c.map (- ·)) [0,0,0,0]=0:=by
    have:∀(l:List Int) (k:List Int),(∀i∈k,i=0)->csum l k=0:=λl=>by
     induction l with
     | nil=>intro k _;rfl
     | cons a l ih=>
      intro k hk
      cases k with
      | nil=>rfl
      | cons b k=>rw[csum,hk b (List.mem_cons_self ..),ih k λi hi=>hk i (List.mem_cons_of_mem _ hi)];simp
    exact this _ _ (by simp)
   rw[z,Int.sub_zero]at t;obtain⟨q,e⟩:=t;have r:=rng hb (cmb n vs (v.map (D * ·)));rw[cmb0 hv,zhn,e]at r;have r1:=Int.lt_of_lt_of_le k3 r.1;have r2:=Int.lt_of_le_of_lt r.2 k4;have e1:D*(18446744073709551616*q)=D*18446744073709551616*q:=(Int.mul_assoc ..).symm;rw[e1]at r1 r2;have dp:0<D*18446744073709551616:=by omega
   generalize D*18446744073709551616=N at *;have q1 : -1<q:=Int.lt_of_mul_lt_mul_left (a:=N) (by omega) (Int.le_of_lt dp);have q2:q<1:=Int.lt_of_mul_lt_mul_left (a:=N) (by omega) (Int.le_of_lt dp);rw[e,show q=0 by omega];rfl
  ·exact hv v hv'
theorem zero{a u0 w0 b u1 w1 c u2 w2 d:Int}(hb:InB [a,u0,w0,b,u1,w1,c,u2,w2,d] bd)(h:∀r∈rows,(18446744073709551616:Int) ∣ dot r [a,u0,w0,b,u1,w1,c,u2,w2,d]):a=0/\b=0/\c=0/\d=0:=by
 have k:=run hb h zwh (λ_ h=>nomatch h);have k0:=k _ (.head _);have k1:=k _ (.tail _ (.head _));have k2:=k _ (.tail _ (.tail _ (.head _)));have k3:=k _ (.tail _ (.tail _ (.tail _ (.head _))));simp only[dot]at k0 k1 k2 k3;omega
def stp(acc h:Nat):Nat:=((((acc+h*14029467366897019727)%18446744073709551616)*2147483648%18446744073709551616+((acc+h*14029467366897019727)%18446744073709551616) / 8589934592)*11400714785074694791)%18446744073709551616
theorem zd3(acc h:Nat):stp acc h<18446744073709551616:=Nat.mod_lt _ (by decide)
theorem zie(a h:Nat):∃u w:Nat,u<=8589934591/\w<=2147483647/\(18446744073709551616:Int) ∣ a+h*14029467366897019727-8589934592*w-u/\(18446744073709551616:Int) ∣ stp a h-11400714785074694791*(2147483648*u+w):=by
 unfold stp;generalize hS:(a+h*14029467366897019727)%18446744073709551616=S;have lS:S<18446744073709551616:=by omega
 refine⟨S%8589934592,S / 8589934592,by omega,by omega,by omega,?_⟩;have e:S*2147483648%18446744073709551616=S%8589934592*2147483648:=Nat.mul_mod_mul_right 2147483648 S 8589934592;rw[e];generalize S%8589934592=u;generalize S / 8589934592=w;omega
theorem dsub{m s t P X Y:Int}(e:s=t)(h:m ∣ s-P*X)(h':m ∣ t-P*Y):m ∣ P*(X-Y):=by
 subst e;have:=Int.dvd_sub h' h;rwa [show s-P*Y-(s-P*X)=P*(X-Y) by rw[Int.mul_sub];omega]at this
theorem uw0{A B:Int}{u u' w w':Nat}(hA:A=2147483648)(hB:B=18446744073709551616)(l1:u<=8589934591)(l2:w<=2147483647)(l1':u'<=8589934591)(l2':w'<=2147483647)(h:B ∣ A*u+w-(A*u'+w')):u=u'/\w=w':=by subst hA hB;omega
theorem dv2{m s t a b c d:Int}(h:m ∣ s+a-b-c)(h':m ∣ t+d-b-c):m ∣ s+a-(t+d):=by
 have:=Int.dvd_sub h h';rwa [show s+a-b-c-(t+d-b-c)=s+a-(t+d) by omega]at this
theorem inv{m P R C X:Int}(e:P*R=1+C*m)(h:m ∣ P*X):m ∣ X:=by
 obtain⟨q,hq⟩:=h;refine⟨R*q-C*X,?_⟩;have z:(P*R)*X=R*(m*q):=by rw[<- hq,<- Int.mul_assoc,Int.mul_comm R P]
 rw[e,Int.add_mul,Int.one_mul]at z;have z1:C*m*X=m*(C*X):=by rw[Int.mul_comm C m,Int.mul_assoc]
 have z2:R*(m*q)=m*(R*q):=by rw[<- Int.mul_assoc,Int.mul_comm R m,Int.mul_assoc]
 rw[Int.mul_sub];omega
theorem zrh{a a' h h':Nat}(e:stp a h=stp a' h'):(18446744073709551616:Int) ∣ ((a:Int)+h*14029467366897019727)-(a'+h'*14029467366897019727):=by
 obtain⟨u,w,l1,l2,d1,d2⟩:=zie a h;obtain⟨u',w',l1',l2',d1',d2'⟩:=zie a' h';have k:=dsub (Jt Nat.cast e) d2 d2';have k2:=inv (R:=614540362697595703) (C:=379806830464837242) (by decide) k;obtain⟨rfl,rfl⟩:=uw0 rfl rfl l1 l2 l1' l2' k2;exact dv2 d1 d1'
theorem d3{m a b c d e f g h P Q:Int}(h1:m ∣ a+b*P-Q*c-d)(h2:m ∣ e+f*P-Q*g-h):m ∣ a-e+(b-f)*P-Q*(c-g)-(d-h):=by
 have:=Int.dvd_sub h1 h2;rwa [show a+b*P-Q*c-d-(e+f*P-Q*g-h)=a-e+(b-f)*P-Q*(c-g)-(d-h) by rw[Int.sub_mul,Int.mul_sub];omega]at this
theorem d4{m a b c d e f P Q:Int}(h1:m ∣ a-P*(Q*b+c))(h2:m ∣ d-P*(Q*e+f)):m ∣ a-d-P*(Q*(b-e)+(c-f)):=by
 have:=Int.dvd_sub h1 h2;rwa [show a-P*(Q*b+c)-(d-P*(Q*e+f))=a-d-P*(Q*(b-e)+(c-f)) by rw[Int.mul_sub Q,Int.mul_add,Int.mul_add,Int.mul_add,Int.mul_sub,Int.mul_sub];omega]at this
theorem r1{m A j u w u' w' P Q R S T:Int}(eT:T=R*S)(h:m ∣ A+j*P-Q*w'-u')(k:m ∣ A-R*(S*u+w)):m ∣ T*u+(R*w+(P*j+(-1*u'+(-Q*w'+0)))):=by
 have:=Int.dvd_sub h k;rwa [show A+j*P-Q*w'-u'-(A-R*(S*u+w))=T*u+(R*w+(P*j+(-1*u'+(-Q*w'+0)))) by rw[eT,Int.mul_comm j,Int.neg_mul Q,Int.mul_add,Int.mul_assoc];omega]at this
theorem r3{m A j u w P R S T:Int}(eT:T=R*S)(h:m ∣ A+j*P)(k:m ∣ A-R*(S*u+w)):m ∣ T*u+(R*w+(P*j+0)):=by
 have:=Int.dvd_sub h k;rwa [show A+j*P-(A-R*(S*u+w))=T*u+(R*w+(P*j+0)) by rw[eT,Int.mul_comm j,Int.mul_add,Int.mul_assoc];omega]at this
structure Sp(A j u w:Int)(B:Int):Prop where
 u1 : -8589934591<=u
 u2:u<=8589934591
 w1 : -2147483647<=w
 w2:w<=2147483647
 j1 : -5959<=j
 j2:j<=5959
 p:(18446744073709551616:Int) ∣ A+j*14029467366897019727-8589934592*w-u
 q:(18446744073709551616:Int) ∣ B-11400714785074694791*(2147483648*u+w)
theorem sp(s:Nat){a:Nat}(s':Nat){a':Nat}(ha:a<5960)(ha':a'<5960):∃u w:Int,Sp ((s:Int)-s') ((a:Int)-a') u w ((stp s a:Int)-stp s' a'):=by
 obtain⟨u,w,l1,l2,d1,d2⟩:=zie s a;obtain⟨u',w',l1',l2',d1',d2'⟩:=zie s' a';exact⟨(u:Int)-u',(w:Int)-w',by omega,by omega,by omega,by omega,by omega,by omega,d3 d1 d1',d4 d2 d2'⟩
theorem sp0:Sp 0 0 0 0 0:=⟨by decide,by decide,by decide,by decide,by decide,by decide,by decide,by decide⟩
theorem four{A B C j0 u0 w0 j1 u1 w1 j2 u2 w2 j3:Int}(h0:Sp 0 j0 u0 w0 A)(h1:Sp A j1 u1 w1 B)(h2:Sp B j2 u2 w2 C)(h3:(18446744073709551616:Int) ∣ C+j3*14029467366897019727)(l : -5959<=j3)(l':j3<=5959):j0=0/\j1=0/\j2=0/\j3=0:=by
 refine zero (.cons h0.j1 h0.j2 <| .cons h0.u1 h0.u2 <| .cons h0.w1 h0.w2 <| .cons h1.j1 h1.j2 <| .cons h1.u1 h1.u2 <| .cons h1.w1 h1.w2 <| .cons h2.j1 h2.j2 <| .cons h2.u1 h2.u2 <| .cons h2.w1 h2.w2 <| .cons l l' .nil) λr hr=>?_
 have q0:=r1 (u:=0) (w:=0) (R:=11400714785074694791) (S:=2147483648) rfl h0.p (by decide);have q1:=r1 rfl h1.p h0.q;have q2:=r1 rfl h2.p h1.q;have q3:=r3 rfl h3 h2.q;simp only[rows,List.mem_cons,List.not_mem_nil,or_false]at hr;rcases hr with rfl | rfl | rfl | rfl <;> simp only[dot,Int.zero_mul,Int.zero_add,Int.mul_zero,Int.add_zero]at * <;> assumption
theorem cs(a:Nat):(a:Int)-a=0:=Int.sub_self _
theorem seq{a a' h h':Nat}(e:stp a h=stp a' h'):(18446744073709551616:Int) ∣ ((a:Int)-a')+((h:Int)-h')*14029467366897019727:=by
 have h3:=zrh e;rwa [show ∀p q x y P:Int,p+x*P-(q+y*P)=p-q+(x-y)*P from λp q x y P=>by rw[Int.sub_mul];omega]at h3
theorem inj4{s a b c d a' b' c' d':Nat}(ha:a<5960)(ha':a'<5960)(hb:b<5960)(hb':b'<5960)(hc:c<5960)(hc':c'<5960)(hd:d<5960)(hd':d'<5960)(e:stp (stp (stp (stp s a) b) c) d=stp (stp (stp (stp s a') b') c') d'):a=a'/\b=b'/\c=c'/\d=d':=by
 obtain⟨_,_,h0⟩:=sp s s ha ha';obtain⟨_,_,h1⟩:=sp (stp s a) (stp s a') hb hb';obtain⟨_,_,h2⟩:=sp (stp (stp s a) b) (stp (stp s a') b') hc hc';rw[cs]at h0;have z:=four h0 h1 h2 (seq e) (by omega) (by omega);omega
theorem inj3{s a b c a' b' c':Nat}(ha:a<5960)(ha':a'<5960)(hb:b<5960)(hb':b'<5960)(hc:c<5960)(hc':c'<5960)(e:stp (stp (stp s a) b) c=stp (stp (stp s a') b') c'):a=a'/\b=b'/\c=c':=by
 obtain⟨_,_,h0⟩:=sp s s ha ha';obtain⟨_,_,h1⟩:=sp (stp s a) (stp s a') hb hb';rw[cs]at h0;have z:=four sp0 h0 h1 (seq e) (by omega) (by omega);omega
theorem inj2{s a b a' b':Nat}(ha:a<5960)(ha':a'<5960)(hb:b<5960)(hb':b'<5960)(e:stp (stp s a) b=stp (stp s a') b'):a=a'/\b=b':=by
 obtain⟨_,_,h0⟩:=sp s s ha ha';rw[cs]at h0;have z:=four sp0 sp0 h0 (seq e) (by omega) (by omega);omega
theorem inj1{s a a':Nat}(ha:a<5960)(ha':a'<5960)(e:stp s a=stp s a'):a=a':=by
 have l : -5959<=(a:Int)-a'/\(a:Int)-a'<=5959:=by omega
 have h:=seq e;rw[cs]at h;have z:=four sp0 sp0 sp0 h l.1 l.2;clear h;omega
theorem gap{x ks cs a:List Int}{up:List (Int×Int)}(T:Int)(hb:InB x up)(e:rows.length=ks.length)(h:∀p∈rows.zip ks,(18446744073709551616:Int) ∣ dot p.1 x+p.2)(c:((cmb cs rows a).all λa=>a%18446744073709551616 == 0)=true)(l:18446744073709551616*(T-1)<rg min a up-csum cs ks)(u:rg max a up-csum cs ks<18446744073709551616*(T+1)):dot a x=csum cs ks+18446744073709551616*T:=by
 obtain⟨q,k⟩:=tel e h c;have r:=rng hb a;have:q=T:=by omega
 omega
structure Ap(A j u w:Int)(B:Int):Prop where
 u1:0<=u
 u2:u<=8589934591
 w1:0<=w
 w2:w<=2147483647
 j1:0<=j
 j2:j<=5959
 p:(18446744073709551616:Int) ∣ A+j*14029467366897019727-8589934592*w-u/\(18446744073709551616:Int) ∣ B-11400714785074694791*(2147483648*u+w)
theorem ap(s:Nat){a:Nat}(ha:a<5960):∃u w:Int,Ap s a u w (stp s a):=by
 obtain⟨u,w,l1,l2,d⟩:=zie s a;exact⟨(u:Int),(w:Int),Int.natCast_nonneg u,Int.ofNat_le.mpr l1,Int.natCast_nonneg w,Int.ofNat_le.mpr l2,Int.natCast_nonneg a,Int.ofNat_le.mpr (Nat.le_of_lt_succ ha),d⟩
theorem ap0:Ap 0 0 0 0 0:=⟨by decide,by decide,by decide,by decide,by decide,by decide,by decide,by decide⟩
theorem sC{m G A B j u w P R S T:Int}(eT:T=R*S)(h:m ∣ A+B+j*P-G)(k:m ∣ A-R*(S*u+w)):m ∣ T*u+(R*w+(P*j+0))+(B-G):=by
 have:=Int.dvd_sub h k;rwa [show A+B+j*P-G-(A-R*(S*u+w))=T*u+(R*w+(P*j+0))+(B-G) by rw[eT,Int.mul_comm j,Int.mul_add,Int.mul_assoc];omega]at this
theorem sA{m A B j u w u' w' P Q R S T:Int}(eT:T=R*S)(h:m ∣ A+B+j*P-Q*w'-u')(k:m ∣ A-R*(S*u+w)):m ∣ T*u+(R*w+(P*j+(-1*u'+(-Q*w'+0))))+B:=by
 have:=Int.dvd_sub h k;rwa [show A+B+j*P-Q*w'-u'-(A-R*(S*u+w))=T*u+(R*w+(P*j+(-1*u'+(-Q*w'+0))))+B by rw[eT,Int.mul_comm j,Int.neg_mul Q,Int.mul_add,Int.mul_assoc];omega]at this
theorem sums{A B C s0 s1 s2 s3 G j0 u0 w0 j1 u1 w1 j2 u2 w2 j3:Int}{b:List (Int×Int)}(hb:InB [j0,u0,w0,j1,u1,w1,j2,u2,w2,j3] b)(h0:Ap (0+s0) j0 u0 w0 A)(h1:Ap (A+s1) j1 u1 w1 B)(h2:Ap (B+s2) j2 u2 w2 C)(h3:(18446744073709551616:Int) ∣ C+s3+j3*14029467366897019727-G):∀p∈rows.zip [s0,s1,s2,s3-G],(18446744073709551616:Int) ∣ dot p.1 [j0,u0,w0,j1,u1,w1,j2,u2,w2,j3]+p.2:=by
 intro p hp;have q0:=sA (u:=0) (w:=0) (R:=11400714785074694791) (S:=2147483648) rfl h0.p.1 (by decide);have q1:=sA rfl h1.p.1 h0.p.2;have q2:=sA rfl h2.p.1 h1.p.2;have q3:=sC rfl h3 h2.p.2;simp only[rows,List.zip_cons_cons,List.zip_nil_left,List.mem_cons,List.not_mem_nil,or_false]at hp;rcases hp with rfl | rfl | rfl | rfl <;> simp only[dot,Int.zero_mul,Int.zero_add,Int.mul_zero,Int.add_zero]at * <;> assumption
theorem last{acc h y g:Nat}(hg:(g%8589934592*2147483648+g / 8589934592)*11400714785074694791%18446744073709551616=y)(e:stp acc h=y)(lg:g<18446744073709551616):(18446744073709551616:Int) ∣ (acc:Int)+h*14029467366897019727-g:=by
 have k:stp g 0=y:=by
  unfold stp;rw[Nat.zero_mul,Nat.add_zero,Nat.mod_eq_of_lt lg,<- hg];rw[show g*2147483648%18446744073709551616=g%8589934592*2147483648 from Nat.mul_mod_mul_right 2147483648 g 8589934592]
 have:=zrh (e.trans k.symm);rwa [show ((g:Int)+(0:Nat)*14029467366897019727)=g by simp]at this
theorem bx{a:Nat}(h:a<5960):0<=(a:Int)/\(a:Int)<=5959:=⟨Int.natCast_nonneg a,Int.ofNat_le.mpr (Nat.le_of_lt_succ h)⟩
theorem no1{a:Nat}(ha:a<5960)(e:stp 2870177450012600261 a=15576566623696079688):False:=by
 have b:InB [0,0,0,0,0,0,0,0,0,(a:Int)] (up 1):=.cons (by decide) (by decide) <| .cons (by decide) (by decide) <| .cons (by decide) (by decide) <| .cons (by decide) (by decide) <| .cons (by decide) (by decide) <| .cons (by decide) (by decide) <| .cons (by decide) (by decide) <| .cons (by decide) (by decide) <| .cons (by decide) (by decide) <| .cons (bx ha).1 (bx ha).2 .nil;have h:=sums (s0:=0) (s1:=0) (s2:=0) (s3:=2870177450012600261) b ap0 ap0 ap0 (G:=5662582672528149307) (by rw[Int.zero_add];exact last (by decide +kernel) e (by decide));have g:=gap (-127125864006069510) b rfl h (cs:=[0,0,0,-839798700976720815]) (a:=[0,0,0,0,0,0,0,7165226614156951552,315278520150392649,1]) (by decide +kernel) (by decide +kernel) (by decide +kernel);have r:=(rng b [0,0,0,0,0,0,0,7165226614156951552,315278520150392649,1]).1;rw[g]at r;exact absurd r (by decide +kernel)
theorem no2{a b:Nat}(ha:a<5960)(hb:b<5960)(e:stp (stp 2870177450012600261 a) b=15576566623696079691):False:=by
 obtain⟨u,w,k⟩:=ap 2870177450012600261 ha;have b:InB [0,0,0,0,0,0,(a:Int),u,w,(b:Int)] (up 2):=.cons (by decide) (by decide) <| .cons (by decide) (by decide) <| .cons (by decide) (by decide) <| .cons (by decide) (by decide) <| .cons (by decide) (by decide) <| .cons (by decide) (by decide) <| .cons k.j1 k.j2 <| .cons k.u1 k.u2 <| .cons k.w1 k.w2 <| .cons (bx hb).1 (bx hb).2 .nil;have h:=sums (s0:=0) (s1:=0) (s2:=2870177450012600261) (s3:=0) b ap0 ap0 k (G:=9148689060682678900) (by rw[Int.add_zero];exact last (by decide +kernel) e (by decide));have g:=gap (-8837953632527464890) b rfl h (cs:=[0,0,-23925233435095548,-17827705956362114825]) (a:=[0,0,0,0,8388827258080460800,3464521448940778468,-1721898057532,-1126908,11141055,-3677504921913]) (by decide +kernel) (by decide +kernel) (by decide +kernel);have r:=(rng b [0,0,0,0,8388827258080460800,3464521448940778468,-1721898057532,-1126908,11141055,-3677504921913]).1;rw[g]at r;exact absurd r (by decide +kernel)
theorem no3{a b c:Nat}(ha:a<5960)(hb:b<5960)(hc:c<5960)(e:stp (stp (stp 2870177450012600261 a) b) c=15576566623696079690):False:=by
 obtain⟨u,w,k⟩:=ap 2870177450012600261 ha;obtain⟨u',w',k'⟩:=ap (stp 2870177450012600261 a) hb;have b:InB [0,0,0,(a:Int),u,w,(b:Int),u',w',(c:Int)] (up 3):=.cons (by decide) (by decide) <| .cons (by decide) (by decide) <| .cons (by decide) (by decide) <| .cons k.j1 k.j2 <| .cons k.u1 k.u2 <| .cons k.w1 k.w2 <| .cons k'.j1 k'.j2 <| .cons k'.u1 k'.u2 <| .cons k'.w1 k'.w2 <| .cons (bx hc).1 (bx hc).2 .nil;have h:=sums (s0:=0) (s1:=2870177450012600261) (s2:=0) (s3:=0) b ap0 k (by rw[Int.add_zero];exact k') (G:=1837738906727985164) (by rw[Int.add_zero];exact last (by decide +kernel) e (by decide));have g:=gap (1159014108261093564) b rfl h (cs:=[0,-18070481486030706660,-404771906146242993,-16588565289419953785]) (a:=[0,5048606229631336448,8569703503090450748,60123171236700,-119674852,-175210921,-194390089305953,253259343,188486607,-236034802597289]) (by decide +kernel) (by decide +kernel) (by decide +kernel);have r:=(rng b [0,5048606229631336448,8569703503090450748,60123171236700,-119674852,-175210921,-194390089305953,253259343,188486607,-236034802597289]).1;rw[g]at r;exact absurd r (by decide +kernel)
theorem no4{a b c d:Nat}(ha:a<5960)(hb:b<5960)(hc:c<5960)(hd:d<5960)(e:stp (stp (stp (stp 2870177450012600261 a) b) c) d=15576566623696079693):False:=by
 obtain⟨u,w,k⟩:=ap 2870177450012600261 ha;obtain⟨u',w',k'⟩:=ap (stp 2870177450012600261 a) hb;obtain⟨u2,w2,k2⟩:=ap (stp (stp 2870177450012600261 a) b) hc;have b:InB [(a:Int),u,w,(b:Int),u',w',(c:Int),u2,w2,(d:Int)] (up 4):=.cons k.j1 k.j2 <| .cons k.u1 k.u2 <| .cons k.w1 k.w2 <| .cons k'.j1 k'.j2 <| .cons k'.u1 k'.u2 <| .cons k'.w1 k'.w2 <| .cons k2.j1 k2.j2 <| .cons k2.u1 k2.u2 <| .cons k2.w1 k2.w2 <| .cons (bx hd).1 (bx hd).2 .nil;have h:=sums (s0:=2870177450012600261) (s1:=0) (s2:=0) (s3:=0) b (by rw[Int.zero_add];exact k) (by rw[Int.add_zero];exact k') (by rw[Int.add_zero];exact k2) (G:=5323845294882514757) (by rw[Int.add_zero];exact last (by decide +kernel) e (by decide));have g:=gap (-326749437898181798) b rfl h (cs:=[-17785776883913594328,-17032770651756410777,-2083096506866084108,-10720784665768526591]) (a:=[-451499531565656,-1141249496,-307786833,-17677418292425,-245610393,-658432684,122581047750324,56874740,970017401,480455323189681]) (by decide +kernel) (by decide +kernel) (by decide +kernel);have g':=gap (-3057794002445155351) b rfl h (cs:=[-349954769001449049,-17574440955820456156,-2918247320639833065,-10783704728408910956]) (a:=[-259877556410249,-499713625,162960388,-175726774812700,-432093404,-406197793,289537819613159,-24708073,1358914804,488071888214356]) (by decide +kernel) (by decide +kernel) (by decide +kernel);have r:=(rng b (lin (-1) [-259877556410249,-499713625,162960388,-175726774812700,-432093404,-406197793,289537819613159,-24708073,1358914804,488071888214356] [-451499531565656,-1141249496,-307786833,-17677418292425,-245610393,-658432684,122581047750324,56874740,970017401,480455323189681])).1;rw[zhe,g,g']at r;exact absurd r (by decide +kernel)
def lst(a l:Nat):Nat:=(a+(l ^^^ (2870177450012600261 ^^^ 3527539)))%18446744073709551616
def hN(t:List Nat):Nat:=if lst (t.foldl stp 2870177450012600261) t.length=18446744073709551615 then 1546275796 else lst (t.foldl stp 2870177450012600261) t.length
theorem zqa{m c a r y:Nat}(ha:a<m)(hc:c<=m)(hy:(r+(m-c))%m=y)(e:(a+c)%m=r):a=y:=by
 rw[<- hy,<- e,Nat.mod_add_mod,Nat.add_assoc,Nat.add_sub_cancel' hc,Nat.add_mod_right,Nat.mod_eq_of_lt ha]
theorem zoy{a b c:Nat}(ha:a<18446744073709551616)(hb:b<18446744073709551616)(e:(a+c)%18446744073709551616=(b+c)%18446744073709551616):a=b:=by omega
theorem nl1{a:Nat}(ha:a<5960):lst (stp 2870177450012600261 a) 1≠18446744073709551615:=λz=>no1 ha (zqa (zd3 _ _) (by decide) (by decide) z)
theorem nl2{a b:Nat}(ha:a<5960)(hb:b<5960):lst (stp (stp 2870177450012600261 a) b) 2≠18446744073709551615:=λz=>no2 ha hb (zqa (zd3 _ _) (by decide) (by decide) z)
theorem nl3{a b c:Nat}(ha:a<5960)(hb:b<5960)(hc:c<5960):lst (stp (stp (stp 2870177450012600261 a) b) c) 3≠18446744073709551615:=λz=>no3 ha hb hc (zqa (zd3 _ _) (by decide) (by decide) z)
theorem nl4{a b c d:Nat}(ha:a<5960)(hb:b<5960)(hc:c<5960)(hd:d<5960):lst (stp (stp (stp (stp 2870177450012600261 a) b) c) d) 4≠18446744073709551615:=λz=>no4 ha hb hc hd (zqa (zd3 _ _) (by decide) (by decide) z)
theorem ne_y:∀{t:List Nat},t≠[]->t.length<=4->(∀x∈t,x<5960)->lst (t.foldl stp 2870177450012600261) t.length≠18446744073709551615
 | [a],_,_,h=>by
  rw[List.foldl_cons,List.foldl_nil,show [a].length=1 from rfl];exact nl1 (h a (by simp))
 | [a,b],_,_,h=>by
  rw[List.foldl_cons,List.foldl_cons,List.foldl_nil,show [a,b].length=2 from rfl];exact nl2 (h a (by simp)) (h b (by simp))
 | [a,b,c],_,_,h=>by
  rw[List.foldl_cons,List.foldl_cons,List.foldl_cons,List.foldl_nil,show [a,b,c].length=3 from rfl];exact nl3 (h a (by simp)) (h b (by simp)) (h c (by simp))
 | [a,b,c,d],_,_,h=>by
  rw[List.foldl_cons,List.foldl_cons,List.foldl_cons,List.foldl_cons,List.foldl_nil,show [a,b,c,d].length=4 from rfl];exact nl4 (h a (by simp)) (h b (by simp)) (h c (by simp)) (h d (by simp))
 | [],h,_,_=>absurd rfl h
 | a::b::c::d::x::r,_,h,_=>by simp at h
theorem zvi{t t':List Nat}(h0:t≠[])(h4:t.length<=4)(hl:t.length=t'.length)(hA:∀x∈t,x<5960)(hA':∀x∈t',x<5960)(e:hN t=hN t'):t=t':=by
 unfold hN at e;rw[Yh (ne_y h0 h4 hA),Yh (ne_y (λz=>h0 (List.length_eq_zero_iff.mp (by rw[hl,z];rfl))) (by omega) hA')]at e;match t,t',hl with
 | [a],[a'],_=>
  rw[List.foldl_cons,List.foldl_cons,List.foldl_nil,List.foldl_nil]at e;rw[inj1 (hA a (by simp)) (hA' a' (by simp)) (zoy (zd3 _ _) (zd3 _ _) e)]
 | [a,b],[a',b'],_=>
  rw[List.foldl_cons,List.foldl_cons,List.foldl_cons,List.foldl_cons,List.foldl_nil,List.foldl_nil]at e;obtain⟨r1,r2⟩:=inj2 (hA a (by simp)) (hA' a' (by simp)) (hA b (by simp)) (hA' b' (by simp)) (zoy (zd3 _ _) (zd3 _ _) e);rw[r1,r2]
 | [a,b,c],[a',b',c'],_=>
  rw[List.foldl_cons,List.foldl_cons,List.foldl_cons,List.foldl_cons,List.foldl_cons,List.foldl_cons,List.foldl_nil,List.foldl_nil]at e;obtain⟨r1,r2,r3⟩:=inj3 (hA a (by simp)) (hA' a' (by simp)) (hA b (by simp)) (hA' b' (by simp)) (hA c (by simp)) (hA' c' (by simp)) (zoy (zd3 _ _) (zd3 _ _) e);rw[r1,r2,r3]
 | [a,b,c,d],[a',b',c',d'],_=>
  rw[List.foldl_cons,List.foldl_cons,List.foldl_cons,List.foldl_cons,List.foldl_cons,List.foldl_cons,List.foldl_cons,List.foldl_cons,List.foldl_nil,List.foldl_nil]at e;obtain⟨r1,r2,r3,r4⟩:=inj4 (hA a (by simp)) (hA' a' (by simp)) (hA b (by simp)) (hA' b' (by simp)) (hA c (by simp)) (hA' c' (by simp)) (hA d (by simp)) (hA' d' (by simp)) (zoy (zd3 _ _) (zd3 _ _) e);rw[r1,r2,r3,r4]
 | [],_,_=>exact absurd rfl h0
 | a::b::c::d::x::r,_,_=>simp at h4
theorem zlq{x:Nat}(h:x<5960):(hashInt (Int.ofNat x)%((2^64:Nat):Int)).toNat=x:=by
 have e:rawHash (Int.ofNat x)=Int.ofNat x:=by
  unfold rawHash;have a:(((Int.ofNat x).natAbs:Nat):Int)%((2^61-1:Nat):Int)=(x:Int):=Int.emod_eq_of_lt (by omega) (by show (x:Int)<((2^61-1:Nat):Int);omega);have b:¬Int.ofNat x<0:=by simp
  simp only[b,if_false]
  rw[a];have c:((x:Int) == -1)=false:=by rw[beq_eq_false_iff_ne];omega
  rw[c];rfl
 unfold hashInt;rw[e];have c:(Int.ofNat x == -1)=false:=by rw[beq_eq_false_iff_ne];show (x:Int)≠-1;omega
 rw[c];show ((x:Int)%((2^64:Nat):Int)).toNat=x;rw[Int.emod_eq_of_lt (by omega) (by omega)];rfl
theorem zks:∀(t:List Nat) (a:Nat),(∀x∈t,x<5960)->(((t.map Int.ofNat).map hashInt).foldl (init:=a) λacc h=>
  let acc:=(acc+(h%((2^64:Nat):Int)).toNat*14029467366897019727)%2^64
  let acc:=(acc*2^31)%2^64+acc / 2^33
  (acc*11400714785074694791)%2^64)=t.foldl stp a
 | [],_,_=>rfl
 | x::t,a,h=>by
  rw[Yz,Yz,List.foldl_cons,List.foldl_cons,zlq (h x (by simp))];exact zks t _ λy hy=>h y (by simp[hy])
theorem zxb{t:List Nat}(h:∀x∈t,x<5960):(hsI (t.map Int.ofNat)%18446744073709551616).toNat=hN t:=by
 unfold hsI Builtin.Tuple.tupleHashOf hN;have e:=zks t 2870177450012600261 h;simp only[]at e ⊢;rw[e,Yd,Yd];have lt:lst (t.foldl stp 2870177450012600261) t.length<18446744073709551616:=Nat.mod_lt _ (by decide);show ((reduceHash (if (lst (t.foldl stp 2870177450012600261) t.length == 18446744073709551615)=true then 1546275796 else if lst (t.foldl stp 2870177450012600261) t.length<9223372036854775808 then(lst (t.foldl stp 2870177450012600261) t.length:Int) else(lst (t.foldl stp 2870177450012600261) t.length:Int)-18446744073709551616))%18446744073709551616).toNat=_;generalize lst (t.foldl stp 2870177450012600261) t.length=a at lt;by_cases c:a=18446744073709551615
 ·subst c;rfl
 ·have c1:(a == 18446744073709551615)=false:=by rw[beq_eq_false_iff_ne];exact c
  rw[c1,Yh c];simp only[Bool.false_eq_true,if_false];have rh:∀i:Int,-9223372036854775808<=i->i<9223372036854775808->i≠-1->reduceHash i=i:=λi h1 h2 h3=>by
   unfold reduceHash;have q:(decide (-(2^63:Int)<=i)&&decide (i<2^63))=true:=by
    rw[Jv,decide_eq_true_eq,decide_eq_true_eq];exact⟨by omega,by omega⟩
   rw[q,Yl rfl];have q2:(i == -1)=false:=by rw[beq_eq_false_iff_ne];exact h3
   rw[q2];rfl
  split
  ·rw[rh _ (by omega) (by omega) (by omega)];omega
  ·rw[rh _ (by omega) (by omega) (by omega)];omega
theorem hsI_inj{t t':List Int}(h0:t≠[])(h4:t.length<=4)(hl:t.length=t'.length)(hA:∀x∈t,0<=x/\x<5960)(hA':∀x∈t',0<=x/\x<5960)(e:hsI t=hsI t'):t=t':=by
 have c:∀{s:List Int},(∀x∈s,0<=x/\x<5960)->s=(s.map Int.toNat).map Int.ofNat/\∀x∈s.map Int.toNat,x<5960:=fun{s} hs=>⟨by
  rw[Jg];exact((List.map_congr_left λx hx=>Int.toNat_of_nonneg (hs x hx).1).trans (List.map_id s)).symm,λx hx=>by
  obtain⟨y,hy,rfl⟩:=Jh.mp hx;have:=hs y hy;omega⟩
 obtain⟨c1,c2⟩:=c hA;obtain⟨c3,c4⟩:=c hA';have k:hN (t.map Int.toNat)=hN (t'.map Int.toNat):=by rw[<- zxb c2,<- zxb c4,<- c1,<- c3,e]
 rw[c1,c3,zvi (by simpa using h0) (by simpa using h4) (by simpa using hl) c2 c4 k]
end HL
namespace K14
open L2 PySem K1 K2 K3 K6 K8 K37 G
abbrev Mo:=Int×Nat×List Int
abbrev Fv:=List Mo
def mM(x y:Mo):Mo:=(x.1*y.1,x.2.1*y.2.1,addT x.2.2 y.2.2)
def mulF(l l':Fv):Fv:=l.flatMap λx=>l'.map (mM x)
theorem zr5:∀a b c:List Int,addT (addT a b) c=addT a (addT b c)
 | [],_,_=>rfl
 | _::_,[],_=>rfl
 | _::_,_::_,[]=>rfl
 | x::a,y::b,z::c=>by
  show (x+y+z)::addT (addT a b) c=(x+(y+z))::addT a (addT b c);rw[zr5 a b c,Int.add_assoc]
theorem mM_a(x y z:Mo):mM (mM x y) z=mM x (mM y z):=by
 unfold mM;rw[Int.mul_assoc,Nat.mul_assoc,zr5]
theorem zgp(x:Mo)(l l':Fv):mulF (x::l) l'=l'.map (mM x)++mulF l l':=rfl
theorem zpc(a b c:Fv):mulF (a++b) c=mulF a c++mulF b c:=List.flatMap_append
theorem zk6(x:Mo):∀a b:Fv,(mulF a b).map (mM x)=mulF (a.map (mM x)) b
 | [],_=>rfl
 | y::a,b=>by
  rw[zgp,List.map_append,zk6 x a b,Yz,zgp,Jg];congr 1;exact List.map_congr_left λz _=>(mM_a x y z).symm
theorem zq7:∀a b c:Fv,mulF (mulF a b) c=mulF a (mulF b c)
 | [],_,_=>rfl
 | x::a,b,c=>by
  rw[zgp,zgp,zpc,zq7 a b c,zk6]
theorem zc3:∀a b:Fv,(mulF a b).length=a.length*b.length
 | [],b=>by rw[List.length_nil,Nat.zero_mul];rfl
 | x::a,b=>by rw[zgp,Y6,Yd,zc3 a b,Y5,Nat.add_mul,Nat.one_mul,Nat.add_comm]
def oneF(m:Nat)(s:Int):Fv:=[(s,1,zer m)]
def TF(m:Nat)(l:Fv):Prop:=∀x∈l,T0 m x.2.2
theorem zkv{m:Nat}{s:Int}{l:Fv}(h:TF m l):mulF (oneF m s) l=l.map λx=>(s*x.1,x.2):=by
 show l.map _++[]=_;rw[List.append_nil];refine List.map_congr_left λx hx=>?_
 unfold mM;rw[Nat.one_mul,zr9 (h x hx).len]
theorem zl9{m:Nat}{l:Fv}(h:TF m l):mulF (oneF m 1) l=l:=by
 rw[zkv h];refine(List.map_congr_left λx _=>?_).trans (List.map_id l);rw[Int.one_mul];rfl
theorem TF.mul{m:Nat}{a b:Fv}(ha:TF m a)(hb:TF m b):TF m (mulF a b):=λx hx=>by
 obtain⟨y,hy,hx⟩:=List.mem_flatMap.mp hx;obtain⟨z,hz,rfl⟩:=Jh.mp hx;exact G.T0.add (ha y hy) (hb z hz)
theorem TF.one{m:Nat}{s:Int}:TF m (oneF m s):=λx hx=>by rw[Yq.mp hx];exact T0.zer m
def wF(c:Fv)(fs:List Fv):Fv:=fs.foldl mulF c
theorem zq0(a c:Fv):∀fs:List Fv,wF (mulF a c) fs=mulF a (wF c fs):=by
 intro fs;induction fs generalizing c with
 | nil=>rfl
 | cons f fs ih=>show wF (mulF (mulF a c) f) fs=mulF a (wF (mulF c f) fs);rw[zq7,ih]
theorem TF.w{m:Nat}{c:Fv}{fs:List Fv}(hc:TF m c)(h:∀f∈fs,TF m f):TF m (wF c fs):=by
 induction fs generalizing c with
 | nil=>exact hc
 | cons f fs ih=>exact ih (hc.mul (h f (by simp))) λg hg=>h g (by simp[hg])
theorem wF_s{m:Nat}{s:Int}{fs:List Fv}(h:∀f∈fs,TF m f):wF (oneF m s) fs=mulF (oneF m s) (wF (oneF m 1) fs):=by
 rw[<- zq0];congr 1;unfold mulF oneF mM;simp only[List.flatMap_cons,List.flatMap_nil,List.map_cons,List.map_nil,List.append_nil];rw[Int.mul_one,Nat.mul_one,zr9 (zgl m)]
theorem zui{m:Nat}{fs gs:List Fv}(h:∀f∈gs,TF m f)(h':∀f∈fs,TF m f):wF (oneF m 1) (fs++gs)=mulF (wF (oneF m 1) fs) (wF (oneF m 1) gs):=by
 rw[<- zq0];unfold wF;rw[List.foldl_append];congr 1;have t:TF m (wF (oneF m 1) fs):=TF.w TF.one h';show wF (oneF m 1) fs=mulF (wF (oneF m 1) fs) (oneF m 1);generalize wF (oneF m 1) fs=l at t;induction l with
 | nil=>rfl
 | cons x l ih=>
  rw[zgp,<- ih λy hy=>t y (by simp[hy])];show x::l=[mM x (1,1,zer m)]++l;unfold mM;have e:=(t x (by simp)).len;rw[Int.mul_one,Nat.mul_one,show addT x.2.2 (zer m)=x.2.2 by rw[zyo (by rw[zgl,e]),zr9 e]];rfl
section
variable{F:Type}[Lean.Grind.Field F]
def mo1(x:Mo):F:=ic x.1*(ic (x.2.1:Int))⁻¹
def val(l:Fv):Po F:=λt=>sm (λx=>if x.2.2=t then mo1 x else 0) l
def NF(F:Type)[Lean.Grind.Field F](l:Fv):Prop:=∀x∈l,ic (F:=F) (x.2.1:Int)≠0
theorem NF.mul{a b:Fv}(ha:NF F a)(hb:NF F b):NF F (mulF a b):=λx hx=>by
 obtain⟨y,hy,hx⟩:=List.mem_flatMap.mp hx;obtain⟨z,hz,rfl⟩:=Jh.mp hx;have h1:=ha y hy;have h2:=hb z hz;show ic (((y.2.1*z.2.1:Nat):Int))≠0;rw[Int.natCast_mul,za5];intro e;have i1:=Lean.Grind.Field.mul_inv_cancel h1;have i2:=Lean.Grind.Field.mul_inv_cancel h2;exact Lean.Grind.Field.zero_ne_one (α:=F) (by grind)
theorem zsj{x y:Mo}(h1:ic (F:=F) (x.2.1:Int)≠0)(h2:ic (F:=F) (y.2.1:Int)≠0):mo1 (mM x y)=(mo1 x*mo1 y:F):=by
 unfold mo1 mM;rw[Int.natCast_mul,za5,za5];have i1:=Lean.Grind.Field.mul_inv_cancel h1;have i2:=Lean.Grind.Field.mul_inv_cancel h2;have h3:ic (F:=F) (x.2.1:Int)*ic (y.2.1:Int)≠0:=λe=>Lean.Grind.Field.zero_ne_one (α:=F) (by grind)
 have i3:=Lean.Grind.Field.mul_inv_cancel h3;grind
theorem zjk(l l':Fv)(t:List Int):val (F:=F) (l++l') t=val l t+val l' t:=zkh _ l l'
theorem zsv{l:Fv}{t:List Int}(h:val (F:=F) l t≠0):∃x∈l,x.2.2=t:=Classical.byContradiction λz=>h (zex λx hx=>Yh λe=>z ⟨x,hx,e⟩)
theorem nodups:∀l:List (List Int),∃S:List (List Int),S.Nodup/\∀x,x∈S↔x∈l
 | []=>⟨[],List.nodup_nil,λ_=>Iff.rfl⟩
 | a::l=>by
  obtain⟨S,n,h⟩:=nodups l;by_cases c:a∈S
  ·exact⟨S,n,λx=>by rw[h,Yj];exact⟨.inr,λq=>q.elim (λe=>e ▸ (h a).mp c) id⟩⟩
  ·exact⟨a::S,List.nodup_cons.mpr ⟨c,n⟩,λx=>by rw[Yj,Yj,h]⟩
theorem zuw{m:Nat}{u t:List Int}{l:Fv}(hu:T0 m u)(h:TF m l):sh u (val (F:=F) l) t=sm (λy=>if addT u y.2.2=t then mo1 y else 0) l:=by
 by_cases c:t.length=u.length
 ·rw[zt8 c];refine zdq λy hy=>?_
  have e:y.2.2=subT t u↔addT u y.2.2=t:=⟨λe=>by rw[e,zgi c],λe=>by rw[<- e,zm9 (by rw[(h y hy).len,hu.len])]⟩;by_cases q:y.2.2=subT t u
  ·rw[Yl q,Yl (e.mp q)]
  ·rw[Yh q,Yh λz=>q (e.mpr z)]
 ·unfold sh;rw[Yh c,zex];intro y hy;exact Yh λe=>c (by rw[<- e,zby (by rw[(h y hy).len,hu.len])])
theorem zl8{m:Nat}{S:List (List Int)}{l l':Fv}(nS:S.Nodup)(hS:∀t,val (F:=F) l t≠0->t∈S)(hl:TF m l)(hl':TF m l')(nl:NF F l)(nl':NF F l'):mul S (val (F:=F) l) (val l')=val (mulF l l'):=by
 obtain⟨S',n',h'⟩:=nodups (l.map (·.2.2));rw[zso (S':=S') nS n' hS λt ht=>by
  obtain⟨x,hx,e⟩:=zsv ht;exact(h' t).mpr (Jh.mpr ⟨x,hx,e⟩)]
 funext t
 show sm (λo=>val l o*sh o (val l') t) S'=_;have e1:sm (λo=>val (F:=F) l o*sh o (val l') t) S'=sm (λo=>sm (λx:Mo=>if x.2.2=o then mo1 x*sh o (val (F:=F) l') t else 0) l) S':=zdq λo _=>by
  have:=zk0 (F:=F) (sh o (val l') t) (λx:Mo=>if x.2.2=o then mo1 x else 0) l;show sm _ l*_=_;rw[show ∀a b:F,a*b=b*a from λa b=>by grind,<- this];exact zdq λx _=>by split <;> grind
 rw[e1,zn5];have e2:∀x∈l,sm (λo=>if x.2.2=o then mo1 x*sh o (val (F:=F) l') t else 0) S'=sm (λy=>if addT x.2.2 y.2.2=t then mo1 (mM x y) else 0) l':=λx hx=>by
  rw[zwv (a:=x.2.2) n' ((h' _).mpr (Jh.mpr ⟨x,hx,Z⟩)) λb _ q=>Yh λz=>q z.symm,Yl rfl,zuw (hl x hx) hl',<- zk0];exact zdq λy hy=>by
   split
   ·exact(zsj (nl x hx) (nl' y hy)).symm
   ·grind
 rw[zdq e2];show _=sm _ (mulF l l');clear e1 e2 h' n' hS nS nl hl;induction l with
 | nil=>rfl
 | cons x l ih=>
  rw[zgp,zkh,zl5,<- ih];rfl
theorem zs8{l:Fv}(t:List Int):val (F:=F) (l.map λx=>(-1*x.1,x.2)) t = - val l t:=by
 unfold val;rw[zl5,<- zw4];refine zdq λx _=>?_
 show (if x.2.2=t then mo1 (-1*x.1,x.2) else 0) = -if x.2.2=t then mo1 x else 0
 split
 ·unfold mo1;show ic (-1*x.1)*_=_;rw[show -1*x.1=0-x.1 by omega,zfy,zb3];grind
 ·grind
theorem zgv{a:Int}{b:Nat}{u:List Int}{x:F}(hb:ic (F:=F) (b:Int)≠0)(e:x*ic (b:Int)=ic a)(t:List Int):val (F:=F) [(a,b,u)] t=setP (λ_=>0) u x t:=by
 have i1:=Lean.Grind.Field.mul_inv_cancel hb;show (if u=t then mo1 (a,b,u) else 0)+0=_;by_cases c:u=t
 ·subst c;rw[Yl rfl,zgx];show ic a*(ic (b:Int))⁻¹ + 0=x;rw[<- e];grind
 ·rw[Yh c,zc9 λz=>c z.symm];grind
end
section
variable{F:Type}[Lean.Grind.Field F]
def pwF(x:F):Nat->F
 | 0=>1
 | k+1=>pwF x k*x
theorem zoo(x:F):∀k,pwF (x*x) k=pwF x (2*k)
 | 0=>rfl
 | k+1=>by
  show pwF (x*x) k*(x*x)=pwF x (2*k)*x*x;rw[zoo x k];grind
def pm{α : Type}(φ : α->F):List α->F
 | []=>1
 | a::l=>φ a*pm φ l
theorem zs9{α : Type}{φ : α->F}{l l':List α}(h:l.Perm l'):pm φ l=pm φ l':=by
 induction h with
 | nil=>rfl
 | cons a _ ih=>show φ a*_ = φ a*_;rw[ih]
 | swap a b l=>show φ b*(φ a*_) = φ a*(φ b*_);grind
 | trans _ _ h1 h2=>exact h1.trans h2
theorem zrc{α β : Type}(φ : β->F)(f : α->β):∀l:List α,pm φ (l.map f)=pm (λa=>φ (f a)) l
 | []=>rfl
 | a::l=>by show φ (f a)*_=_;rw[zrc φ f l];rfl
theorem zqz{α : Type}(x:F)(φ : α->F):∀l:List α,pm (λa=>x * φ a) l=pwF x l.length*pm φ l
 | []=>by show (1:F)=1*1;grind
 | a::l=>by show x * φ a*_=pwF x l.length*x*(φ a*_);rw[zqz x φ l];grind
theorem zlh{α : Type}{φ ψ : α->F}:∀{l:List α},(∀a∈l,φ a = ψ a)->pm φ l=pm ψ l
 | [],_=>rfl
 | a::l,h=>by show φ a*_ = ψ a*_;rw[h a (by simp),zlh λb hb=>h b (by simp[hb])]
theorem zuo{α : Type}{φ : α->F}:∀{l:List α},(∀a∈l,φ a≠0)->pm φ l≠0
 | [],_=>λz=>Lean.Grind.Field.zero_ne_one (α:=F) z.symm
 | a::l,h=>λz=>by
  have h1:=h a (by simp);have h2:=zuo (φ:=φ) (l:=l) λb hb=>h b (by simp[hb])
  have z : φ a*pm φ l=0:=z;have i1:=Lean.Grind.Field.mul_inv_cancel h1;exact h2 (by grind)
theorem zey{α β : Type}{f : α->β}:∀{l:List α},l.Nodup->(∀a∈l,∀b∈l,f a=f b->a=b)->(l.map f).Nodup
 | [],_,_=>List.nodup_nil
 | a::l,h,inj=>by
  rw[List.nodup_cons]at h;rw[Yz,List.nodup_cons];refine⟨λz=>?_,zey h.2 λx hx y hy=>inj x (by simp[hx]) y (by simp[hy])⟩;obtain⟨b,hb,e⟩:=Jh.mp z;exact h.1 (inj b (by simp[hb]) a (by simp) e ▸ hb)
theorem fermat{p:Int}(hp:Pr p)[Chr p F]{b:Int}(hb:ic (F:=F) b≠0):pwF (ic (F:=F) b) (p.toNat-1)=1:=by
 have p2:=hp.1;have p0:=zih hp;have z0:∀k:Int,ic (F:=F) k=0↔k%p=0:=λk=>(Chr.z (n:=p) k).trans (zr_n p0)
 obtain⟨l,hl⟩:∃l,l=(List.range (p.toNat-1)).map (· + 1):=⟨_,Z⟩;have ml:∀a:Nat,a∈l↔1<=a/\(a:Int)<p:=λa=>by
  rw[hl,Jh];constructor
  ·rintro⟨x,hx,rfl⟩;have:=List.mem_range.mp hx;omega
  ·intro h;exact⟨a-1,List.mem_range.mpr (by omega),by omega⟩
 have nl:l.Nodup:=by
  rw[hl];exact zey List.nodup_range λa _ b _ e=>by omega
 have ez:∀a∈l,ic (F:=F) (a:Int)≠0:=λa ha z=>by
  have h1:=(ml a).mp ha;rw[z0,Int.emod_eq_of_lt (by omega) h1.2]at z;omega
 have gm:∀c:Int,ic (F:=F) c≠0->∀a∈l,((c*a)%p).toNat∈l/\((((c*a)%p).toNat:Nat):Int)=(c*a)%p:=λc hc a ha=>by
  have h0:=Jl (c*a) p0;have h1:=Jc (c*a) (show 0<p by omega);have ne:(c*a)%p≠0:=λz=>by
   rw[<- z0,za5]at z;have i1:=Lean.Grind.Field.mul_inv_cancel hc;exact ez a ha (by grind)
  exact⟨(ml _).mpr ⟨by omega,by omega⟩,by omega⟩
 obtain⟨c,hc⟩:∃c:Int,ic (F:=F) c*ic b=1:=by
  have nb:b%p≠0:=λz=>hb ((z0 b).mpr z)
  obtain⟨f,hf⟩:=Zq.inv_ex hp _ (Yi _) (zhz hp (show 0<b%p by have:=Jl b p0;omega) (Jc b (by omega)));refine⟨f,?_⟩;have:=(z0 _).mpr hf;rw[zfy,za5,zcw,zd4]at this;grind
 have cn:ic (F:=F) c≠0:=λz=>by
  rw[z]at hc;exact Lean.Grind.Field.zero_ne_one (α:=F) (by grind)
 obtain⟨g,hg⟩:∃g:Nat->Nat,g=λa:Nat=>((b*(a:Int))%p).toNat:=⟨_,Z⟩
 have eg:∀a∈l,ic (F:=F) ((g a:Nat):Int)=ic b*ic (a:Int):=λa ha=>by
  rw[hg];show ic ((((b*a)%p).toNat:Nat):Int)=_;rw[(gm b hb a ha).2,zcw,za5]
 have pe:(l.map g).Perm l:=by
  refine(List.perm_ext_iff_of_nodup (zey nl λx hx y hy e=>?_) nl).mpr λa=>⟨λh=>?_,λh=>?_⟩
  ·have e2:ic (F:=F) b*ic (x:Int)=ic b*ic (y:Int):=by rw[<- eg x hx,<- eg y hy,e]
   have i1:=Lean.Grind.Field.mul_inv_cancel hb;have e3:ic (F:=F) ((x:Int)-y)=0:=by rw[zfy];grind
   rw[z0]at e3;have h1:=(ml x).mp hx;have h2:=(ml y).mp hy;obtain⟨k,hk⟩:=Int.dvd_of_emod_eq_zero e3;have:k=0:=by
    rcases Int.lt_trichotomy k 0 with q | q | q
    ·have:p*k<=p*(-1):=Y3 (by omega) (by omega);omega
    ·exact q
    ·have:p*1<=p*k:=Y3 (by omega) (by omega);omega
   rw[this]at hk;omega
  ·obtain⟨x,hx,rfl⟩:=Jh.mp h;rw[hg];exact(gm b hb x hx).1
  ·have q:=gm c cn a h;refine Jh.mpr ⟨((c*a)%p).toNat,q.1,?_⟩;have e1:=eg _ q.1;have w:=(ml _).mp (by have:=gm b hb _ q.1;rw[hg];exact this.1:g ((c*a)%p).toNat∈l);have w2:=(ml a).mp h;have e3:ic (F:=F) ((g ((c*a)%p).toNat:Int)-a)=0:=by
    rw[zfy,e1,q.2,zcw,za5];grind
   rw[z0]at e3;obtain⟨k,hk⟩:=Int.dvd_of_emod_eq_zero e3;have:k=0:=by
    rcases Int.lt_trichotomy k 0 with q | q | q
    ·have:p*k<=p*(-1):=Y3 (by omega) (by omega);omega
    ·exact q
    ·have:p*1<=p*k:=Y3 (by omega) (by omega);omega
   rw[this]at hk;omega
 have e:=zs9 (φ:=λa:Nat=>ic (F:=F) (a:Int)) pe;rw[zrc,zlh eg,zqz]at e;have nz:=zuo ez;have ll:l.length=p.toNat-1:=by rw[hl,Yd,List.length_range]
 rw[ll]at e;have i1:=Lean.Grind.Field.mul_inv_cancel nz;grind
end
structure Sm where
 tx:List Nat
 bt:List Nat
 fv:Fv
structure Pt where
 ng:Bool
 f:Sm
 r:List Sm
def Pt.fs(p:Pt):List Sm:=p.f::p.r
def fsR(l:List Sm):List Nat:=l.flatMap λf=>42::f.tx
def ptT(p:Pt):List Nat:=p.f.tx++fsR p.r
def psR(l:List Pt):List Nat:=l.flatMap λp=>(if p.ng then 45 else 43)::ptT p
def psT(p:Pt)(l:List Pt):List Nat:=(if p.ng then [45] else [])++ptT p++psR l
def tnI(b:Bool):Int:=if b then -1 else 1
def ptF(m:Nat)(p:Pt):Fv:=wF (oneF m (tnI p.ng)) (p.fs.map Sm.fv)
def fvS(m:Nat)(ps:List Pt):Fv:=ps.flatMap (ptF m)
def btS(ps:List Pt):List Nat:=ps.flatMap λp=>p.fs.flatMap Sm.bt
def isD(c:Nat):Bool:=decide (48<=c)&&decide (c<=57)
def dgv(l:List Nat):Nat:=PySem.NumText.digitsVal l
def ltc(k:Nat):Nat:=[120,121,122,116].getD k 0
def Dg(k:Nat)(ds:List Nat):Prop:=ds≠[]/\ds.length<=k/\∀c∈ds,isD c=true
def Lf(m:Nat)(s:Sm):Prop:=
 (∃ds,Dg 30 ds/\s=⟨ds,[],[((dgv ds:Nat),1,zer m)]⟩)\/(∃ds d2,Dg 30 ds/\Dg 30 d2/\s=⟨ds++47::d2,[dgv d2],[((dgv ds:Nat),dgv d2,zer m)]⟩) \/
 (∃k,k<m/\s=⟨[ltc k],[],[(1,1,only m k 1)]⟩)\/(∃k ds,k<m/\Dg 2 ds/\s=⟨ltc k::94::ds,[],[(1,1,only m k (dgv ds))]⟩)
def Fac(m:Nat):Nat->Sm->Prop
 | 0,s=>Lf m s
 | n+1,s=>Lf m s\/∃pt ps,(∀p∈pt::ps,∀f∈p.fs,Fac m n f)/\s=⟨40::(psT pt ps++[41]),btS (pt::ps),fvS m (pt::ps)⟩
theorem Fac.up1{m:Nat}:∀{n:Nat} {s:Sm},Fac m n s->Fac m (n+1) s
 | 0,_,h=>.inl h
 | n+1,_,h=>by
  rcases h with h | ⟨pt,ps,h,e⟩
  ·exact .inl h
  ·exact .inr ⟨pt,ps,λp hp f hf=>Fac.up1 (h p hp f hf),e⟩
theorem Fac.up{m n k:Nat}{s:Sm}(h:Fac m n s)(hk:n<=k):Fac m k s:=by
 induction hk with
 | refl=>exact h
 | step _ ih=>exact ih.up1
theorem Fac.lf{m n:Nat}{s:Sm}(h:Lf m s):Fac m n s:=by
 cases n with
 | zero=>exact h
 | succ n=>exact .inl h
end K14
namespace G
open L2 PySem K1 K2 K3 K6 K8 K37
section
variable{F:Type}[Lean.Grind.Field F]{n:Int}
def asum(N:List Int->Int)(S:List (List Int)):Nat:=(S.map λt=>(N t).natAbs).sum
def Bd(n:Int)(k:Nat)(φ : Po F):Prop:=n=0->∃(D:Int) (N:List Int->Int),D≠0/\D.natAbs<=10^k/\(∀t,φ t*ic D=ic (N t))/\∀S:List (List Int),S.Nodup->asum N S<=10^k
theorem zef(N:List Int->Int)(t:List Int)(S:List (List Int)):asum N (t::S)=(N t).natAbs+asum N S:=by unfold asum;simp
theorem Bd.up{j k:Nat}{φ : Po F}(h:Bd n j φ)(hk:j<=k):Bd n k φ:=λz=>by
 obtain⟨D,N,d0,d1,e,b⟩:=h z;have p:=Yv (show 0<10 by decide) hk;exact⟨D,N,d0,Yr d1 p,e,λS hS=>Yr (b S hS) p⟩
theorem Bd.congr{k:Nat}{φ ψ : Po F}(h:Bd n k φ)(e:∀t,φ t = ψ t):Bd n k ψ:=by
 have : φ = ψ:=funext e;rw[<- this];exact h
theorem Bd.zero{k:Nat}:Bd n k (λ_=>(0:F)):=λ_=>by
 refine⟨1,λ_=>0,by decide,Nat.one_le_pow _ _ (by decide),λt=>by rw[zb3];grind,λS _=>?_⟩;have:∀S:List (List Int),asum (λ_=>0) S=0:=by
  intro S;induction S with
  | nil=>rfl
  | cons t S ih=>rw[zef,ih];rfl
 rw[this];exact Y2 _
theorem zlf{k:Nat}(h:k<=600):10^k<2^8900:=by
 have h1:10^k<=16^k:=Nat.pow_le_pow_left (by decide) k;have h2:(16:Nat)^k=2^(4*k):=by rw[Nat.pow_mul]
 rw[h2]at h1;exact Yp h1 (Nat.pow_lt_pow_right (by decide) (by omega))
theorem Bd.lim{k:Nat}{φ : Po F}(h:Bd n k φ)(hk:k<=600)(t:List Int):Lim n 8900 (φ t):=λz=>by
 obtain⟨D,N,d0,d1,e,b⟩:=h z;have:=b [t] (by simp);rw[zef]at this;exact⟨N t,D,d0,e t,Yp (by omega) (zlf hk),Yp d1 (zlf hk)⟩
theorem zkg{N:List Int->Int}{t:List Int}(h:∀u,u≠t->N u=0):∀{S:List (List Int)},S.Nodup->asum N S<=(N t).natAbs
 | [],_=>Y2 _
 | u::S,hS=>by
  rw[List.nodup_cons]at hS;rw[zef];by_cases c:u=t
  ·subst c;have:∀S:List (List Int),u ∉ S->asum N S=0:=by
    intro S;induction S with
    | nil=>intro _;rfl
    | cons v S ih=>
     intro hv;simp only[List.mem_cons,not_or]at hv;rw[zef,ih hv.2,h v (Jb hv.1)];rfl
   rw[this S hS.1];omega
  ·rw[h u c];have:=zkg h hS.2;simpa using this
theorem Bd.one{k:Nat}{φ : Po F}{t:List Int}{x:F}{a b:Int}(h1 : φ t=x)(h2:∀u,u≠t->φ u=0)(hb:b≠0)(e:x*ic b=ic a)(ha:a.natAbs<=10^k)(hb':b.natAbs<=10^k):Bd n k φ:=λ_=>by
 refine⟨b,λu=>if u=t then a else 0,hb,hb',λu=>?_,λS hS=>Yr (zkg (t:=t) (λu hu=>Yh hu) hS) (by show (if t=t then a else 0:Int).natAbs<=_;rw[Yl rfl];exact ha)⟩;by_cases c:u=t
 ·subst c;rw[h1];show _=ic (if u=u then a else 0);rw[Yl rfl];exact e
 ·rw[h2 u c];show _=ic (if u=t then a else 0);rw[Yh c,zb3];grind
theorem zhf{N M:List Int->Int}{a b:Int}:∀S:List (List Int),asum (λt=>N t*a+M t*b) S<=asum N S*a.natAbs+asum M S*b.natAbs
 | []=>Y2 _
 | t::S=>by
  rw[zef,zef,zef,Nat.add_mul,Nat.add_mul];have ih:=zhf (N:=N) (M:=M) (a:=a) (b:=b) S;have h:=Int.natAbs_add_le (N t*a) (M t*b);rw[Int.natAbs_mul,Int.natAbs_mul]at h;show (N t*a+M t*b).natAbs+_<=_;omega
theorem Bd.add{j k:Nat}{φ ψ : Po F}(h:Bd n j φ)(h':Bd n k ψ):Bd n (j+k+1) (λt=>φ t + ψ t):=λz=>by
 obtain⟨D,N,d0,d1,e,b⟩:=h z;obtain⟨D',N',d0',d1',e',b'⟩:=h' z;have pw:10^(j+k+1)=10*(10^j*10^k):=by rw[Nat.pow_succ,Nat.pow_add,Nat.mul_comm]
 refine⟨D*D',λt=>N t*D'+N' t*D,(λq=>by rcases Int.mul_eq_zero.mp q with q | q;exact d0 q;exact d0' q),?_,λt=>?_,λS hS=>?_⟩
 ·rw[Int.natAbs_mul,pw];have:=Nat.mul_le_mul d1 d1';omega
 ·rw[za5,zg8,za5,za5,<- e t,<- e' t];grind
 ·refine Yr (zhf S) ?_;have q1:=Nat.mul_le_mul (b S hS) d1';have q2:=Nat.mul_le_mul (b' S hS) d1;rw[Nat.mul_comm (10^k)]at q2;rw[pw];omega
def shI(l:List Int)(N:List Int->Int):List Int->Int:=λt=>if t.length=l.length then N (subT t l) else 0
def isum(f:List Int->Int):List (List Int)->Int
 | []=>0
 | o::S=>f o+isum f S
theorem ztw{N:List Int->Int}{M:Nat}(h:∀S:List (List Int),S.Nodup->asum N S<=M)(l:List Int){S:List (List Int)}(hS:S.Nodup):asum (shI l N) S<=M:=by
 have e:asum (shI l N) S=asum N ((S.filter λt=>decide (t.length=l.length)).map λt=>subT t l):=by
  clear hS;induction S with
  | nil=>rfl
  | cons t S ih=>
   rw[zef,List.filter_cons,ih];unfold shI;by_cases c:t.length=l.length
   ·rw[Yl c,Yl (by simpa using c),Yz,zef]
   ·rw[Yh c,Yh (by simpa using c)];simp
 rw[e];refine h _ ?_;have hf:(S.filter λt=>decide (t.length=l.length)).Nodup:=hS.filter _;have hl:∀t∈(S.filter λt=>decide (t.length=l.length)),t.length=l.length:=λt ht=>by simpa using (List.mem_filter.mp ht).2
 generalize (S.filter λt=>decide (t.length=l.length))=R at hf hl;clear e hS;induction R with
 | nil=>simp
 | cons t R ih=>
  rw[List.nodup_cons]at hf;rw[Yz,List.nodup_cons];refine⟨λm=>?_,ih hf.2 λu hu=>hl u (by simp[hu])⟩;obtain⟨u,hu,eu⟩:=Jh.mp m;have e1:=zgi (hl t (by simp));have e2:=zgi (hl u (by simp[hu]));rw[<- eu,e2]at e1;exact hf.1 (e1 ▸ hu)
theorem zkd{N N':List Int->Int}{M':Nat}(h':∀S:List (List Int),S.Nodup->asum N' S<=M'){S:List (List Int)}(hS:S.Nodup):∀R:List (List Int),asum (λt=>isum (λo=>N o*shI o N' t) R) S<=asum N R*M'
 | []=>by
  have:asum (λt=>isum (λo=>N o*shI o N' t) []) S=0:=by
   clear hS;induction S with
   | nil=>rfl
   | cons t S ih=>rw[zef,ih];rfl
  rw[this];exact Y2 _
 | o::R=>by
  have ih:=zkd (N:=N) h' hS R;have q:=zhf (N:=shI o N') (M:=λt=>isum (λo=>N o*shI o N' t) R) (a:=N o) (b:=1) S;rw[zef,Nat.add_mul];have e:(λt=>isum (λo=>N o*shI o N' t) (o::R))=λt=>shI o N' t*N o+isum (λo=>N o*shI o N' t) R*1:=funext λt=>by
   show N o*shI o N' t+_=_;rw[Int.mul_one,Int.mul_comm]
  rw[e];refine Yr q ?_;have q2:=Y4 (N o).natAbs (ztw h' o hS);rw[Nat.mul_comm M']at q2;have:(1:Int).natAbs=1:=rfl;rw[this,Nat.mul_one];omega
theorem Bd.mul{j k:Nat}{φ ψ : Po F}(h:Bd n j φ)(h':Bd n k ψ){R:List (List Int)}(hR:R.Nodup):Bd n (j+k) (G.mul R φ ψ):=λz=>by
 obtain⟨D,N,d0,d1,e,b⟩:=h z;obtain⟨D',N',d0',d1',e',b'⟩:=h' z;refine⟨D*D',λt=>isum (λo=>N o*shI o N' t) R,(λq=>by rcases Int.mul_eq_zero.mp q with q | q;exact d0 q;exact d0' q),?_,λt=>?_,λS hS=>?_⟩
 ·rw[Int.natAbs_mul,Nat.pow_add];exact Nat.mul_le_mul d1 d1'
 ·clear hR b b' d1 d1';show sm (λo=>φ o*sh o ψ t) R*_=_;induction R with
  | nil=>show (0:F)*_=ic 0;rw[zb3];grind
  | cons o R ih=>
   show (φ o*sh o ψ t+sm (λo=>φ o*sh o ψ t) R)*_=ic (N o*shI o N' t+isum (λo=>N o*shI o N' t) R);have es:sh o ψ t*ic D'=ic (shI o N' t):=by
    unfold sh shI;split
    ·exact e' _
    ·rw[zb3];grind
   have ih':sm (λo=>φ o*sh o ψ t) R*ic (D*D')=ic (isum (λo=>N o*shI o N' t) R):=ih;rw[zg8,<- ih',za5 (N o),<- e o,<- es,za5 D];grind
 ·rw[Nat.pow_add];exact Yr (zkd b' hS R) (Y4 _ (b R hR))
theorem zoz(o:List Int)(φ ψ : Po F)(t:List Int):G.mul [o] φ ψ t = φ o*sh o ψ t:=by
 show φ o*sh o ψ t+0=_;grind
theorem Bd.lim1{j k:Nat}{φ ψ : Po F}(h:Bd n j φ)(h':Bd n k ψ)(hk:j+k<=600)(o t:List Int):Lim n 8900 (φ o*sh o ψ t):=by
 rw[<- zoz];exact(h.mul h' (R:=[o]) (by simp)).lim hk t
end
end G
namespace K6
open PySem L2
theorem xl{α : Sort _}{p : α->Prop}{r:Prop}(h:∀a,p a->r):(∃a,p a)->r:=λq=>q.elim h
theorem xg{S G:Prop}(h:∀g:Prop,g=G->S->g):S->G:=h G rfl
theorem sab{A R:TS}{D:Ends}{σ : St}{H:Hp}(h:∀r:TS,r=R->tSeq A r D σ H):tSeq A R D σ H:=h R rfl
theorem sM{N P:List Str}{sc:Scope}(h:sc.kind=.function/\sc.isCoroutine=false/\sc.isGenerator=false/\N.Nodup/\N.take P.length=P/\(∀x∈P,sc.names.lookup x=some .local\/sc.names.lookup x=some .cell)/\∀y∈sc.names,y.2≠.free):FnScope N P sc:=⟨h.1,h.2.1,h.2.2.1,h.2.2.2.1,h.2.2.2.2.1,h.2.2.2.2.2.1,h.2.2.2.2.2.2⟩
def top(i:Nat):Stmt:=PySem.Challenge.pw_idealroom_k14_texts_mean_sums.main.body.getD i (.Pass ⟨0,0,0,0⟩)
abbrev zch:Stmt:=top 28
abbrev zfq:Stmt:=top 29
abbrev zcd:Stmt:=za2 (top 30) 0
abbrev zbq:Stmt:=za2 (top 31) 0
abbrev zbw:Stmt:=za2 (top 31) 1
abbrev zco:Stmt:=za2 (top 31) 2
abbrev zbf:Stmt:=za2 (top 31) 3
abbrev zcf:Stmt:=za2 (top 31) 4
abbrev zb4:Stmt:=za2 (top 31) 5
abbrev zcb:Stmt:=za2 (top 32) 0
abbrev zdg:Stmt:=za2 (top 32) 1
abbrev zeu:Stmt:=za2 (top 32) 2
abbrev zd8:Stmt:=za2 (top 32) 4
abbrev zdt:Stmt:=za2 (top 32) 5
abbrev zdd:Stmt:=za2 (top 32) 7
abbrev zej:Stmt:=za2 (top 30) 2
abbrev zbu:Stmt:=za2 (top 32) 3
abbrev zd9:Stmt:=za2 (top 34) 5
abbrev zct:Stmt:=za2 (top 38) 0
abbrev zgj:Stmt:=top 8
abbrev zh2:Stmt:=top 12
abbrev zhp:Stmt:=top 13
abbrev zjy:Stmt:=top 14
abbrev zet:Stmt:=za2 (top 38) 2
abbrev zdx:Stmt:=za2 (top 22) 1
abbrev zcr:Stmt:=za2 (top 22) 2
abbrev zb1:Stmt:=za2 (top 22) 0
abbrev zcj:Stmt:=za2 (top 22) 10
abbrev zcy:Stmt:=za2 (top 22) 7
abbrev zdj:Stmt:=za2 (top 22) 8
abbrev zcv:Stmt:=za2 (top 22) 6
abbrev zci:Stmt:=za2 (top 22) 5
abbrev zbr:Stmt:=za2 (top 22) 4
abbrev zcc:Stmt:=za2 (top 22) 9
abbrev zbv:Stmt:=za2 (top 22) 3
abbrev zcs:Stmt:=za2 (top 38) 4
abbrev zjt:Stmt:=top 10
abbrev zfc:Stmt:=top 23
abbrev zew:Stmt:=top 24
abbrev zde:Stmt:=za2 (top 38) 1
abbrev znv:Stmt:=top 25
abbrev zdc:Stmt:=top 40
abbrev zcu:Stmt:=top 41
abbrev zee:Stmt:=top 43
abbrev zd6:Stmt:=top 42
abbrev zdh:Stmt:=top 44
abbrev zdr:Stmt:=top 45
abbrev zfu:Stmt:=top 46
abbrev zfs:Stmt:=top 47
abbrev zfw:Stmt:=top 48
abbrev ze3:Stmt:=top 49
abbrev zda:Stmt:=top 58
abbrev zei:Stmt:=top 50
abbrev zeb:Stmt:=top 51
abbrev zcg:Stmt:=top 52
abbrev zdf:Stmt:=top 53
abbrev zdv:Stmt:=top 55
abbrev zcx:Stmt:=top 54
abbrev ze5:Stmt:=top 59
abbrev zft:Stmt:=top 60
abbrev zdi:Stmt:=top 61
abbrev zds:Stmt:=top 62
abbrev zdw:Stmt:=top 56
abbrev zdb:Stmt:=top 57
abbrev ze2:Stmt:=top 64
abbrev zc2:Stmt:=top 63
abbrev ze1:Stmt:=top 65
abbrev zhl:Stmt:=top 66
structure Txt(P:Program)(w:World)(K:W.Frag)(mg:Str->Option Value)(base:Heap)(zav zag zak zck zab zae:Addr):Prop where
 b_ValueError:mg "ValueError" = none
 b_abs:mg "abs" = none
 b_bool:mg "bool" = none
 b_dict:mg "dict" = none
 b_int:mg "int" = none
 b_isinstance:mg "isinstance" = none
 b_len:mg "len" = none
 b_list:mg "list" = none
 b_max:mg "max" = none
 b_range:mg "range" = none
 b_str:mg "str" = none
 b_tuple:mg "tuple" = none
 b_zip:mg "zip" = none
 cl_Ring:Cls K zav
 mg_Ring:mg "Ring" = some (.ref zav)
 na_Ring_many:NoAttr K zav "many"
 na_Ring_field:NoAttr K zav "field"
 na_Ring_order:NoAttr K zav "order"
 cl_Fractions:Cls K zag
 mg_Fractions:mg "Fractions" = some (.ref zag)
 na_Fractions_prime:NoAttr K zag "prime"
 cl_Rests:Cls K zak
 mg_Rests:mg "Rests" = some (.ref zak)
 na_Rests_prime:NoAttr K zak "prime"
 cl_Order:Cls K zck
 mg_Order:mg "Order" = some (.ref zck)
 cl_Degrees:Cls K zab
 mg_Degrees:mg "Degrees" = some (.ref zab)
 n0_Degrees:Mk0 K zab
 cl_Reader:Cls K zae
 mg_Reader:mg "Reader" = some (.ref zae)
 na_Reader_unknowns:NoAttr K zae "unknowns"
 na_Reader_text:NoAttr K zae "text"
 na_Reader_at:NoAttr K zae "at"
 na_Reader_depth:NoAttr K zae "depth"
 g_END:∃tk,mg "END" = some (.str " " tk)
 g_FIGURES:∃tk,mg "FIGURES" = some (.str "0123456789" tk)
 g_GREATEST_PRIME:∃tk,mg "GREATEST_PRIME" = some (.int 9973 tk)
 g_LETTERS:∃tk,mg "LETTERS" = some (.str "xyzt" tk)
 g_MOST_DEPTH:∃tk,mg "MOST_DEPTH" = some (.int 8 tk)
 g_MOST_SIGNS:∃tk,mg "MOST_SIGNS" = some (.int 300 tk)
 g_NUMBER_FIGURES:∃tk,mg "NUMBER_FIGURES" = some (.int 30 tk)
 g_POWER_FIGURES:∃tk,mg "POWER_FIGURES" = some (.int 2 tk)
 kss:W.kitOne K (.type "str") (.type "str")=some true
 kdd:W.kitOne K (.type "dict") (.type "dict")=some true
 kii:W.kitOne K (.type "int") (.type "int")=some true
 kib:W.kitOne K (.type "int") (.type "bool")=some false
 ktt:W.kitOne K (.type "tuple") (.type "tuple")=some true
theorem zd2:(["power","further"]:List Str).Nodup:=by decide +kernel
theorem zdn:(["place","at","power"]:List Str).Nodup:=by decide +kernel
theorem zd0:(["_law_x","_law_y"]:List Str).Nodup:=by decide +kernel
theorem zbk:(["_law_k","_law_at","_law_power"]:List Str).Nodup:=by decide +kernel
theorem zw0{K:W.Frag}{H:Hp}{p:Addr}{xs:List V}{i:Int}{v:V}{Q:V->Hp->Prop}(h:SqT K H p xs)(h':atI xs i=some v)(q:Q v H):rIxT K (.ref p) (.int i) H Q:=⟨p,xs,i,v,Z,Z,h,h',q⟩
theorem uOne{k:Nat}{A:Around}(r:Room k A):A.units+1<cLine:=by have:=r.units;omega
theorem zem{X:Cx}{x:Str}{i:Str}{pos:Pos}(hm:∃tk,X.mg x=some (.str i tk))(hg:Gl X x)(hd:(x == ("__debug__" : Str))=false:=by decide):PE X (.Name x pos) (tC (.str i)):=by
 obtain⟨tk,e⟩:=hm;exact zhu hg e ⟨tk,Z⟩ hd
end K6
namespace K6
open PySem L2
open K1 K2 K3 K6 K8 K37 G K14
theorem zbm{a r:TS}{D:Ends}{σ : St}{H:Hp}(R:St->Hp->Prop)(hu:∀σ' H',R σ' H'->r D σ' H')(hc:∀N:St->Hp->Prop,(∀σ' H',R σ' H'->N σ' H')->a { D with nx:=N } σ H):tSeq a r D σ H:=by
 unfold tSeq;exact hc _ hu
def zgg:Sp:=λvs H Q _=>∃(a b:Int),vs=[.int a,.int b]/\0<=a/\0<=b/\Q (.int (gI a b)) H
def zjp(K:W.Frag):Sp:=λvs H Q _=>∃(p C dx:Addr) (v:V),vs=[.ref p,v]/\H p=some (.ins C dx [])/\Cls K C/\NoAttr K C "prime"/\Q .non (upd H p (.ins C dx [("prime",v)]))
def zhb(CF:Addr):Sp:=λvs H Q _=>∃(p dx:Addr),vs=[.ref p]/\H p=some (.ins CF dx [])/\Q .non (upd H p (.ins CF dx [("prime",.int 0)]))
def zfa(ns:List Int)(k:Int):Int:=ns.getD k.toNat 0
def zrd(K:W.Frag):Sp:=λvs H Q _=>∃(a:Addr) (ns:List Int) (k:Int),vs=[.ref a,.int k]/\SqL K H a (ns.map V.int)/\0<=k/\Q (.int (zfa ns k)) H
theorem zms{ns:List Int}{k:Int}(h0:0<=k)(h:k<(ns.length:Int)):atI (ns.map V.int) k=some (.int (zfa ns k)):=by
 have hk:k.toNat<ns.length:=by omega
 have ek:k=((k.toNat:Nat):Int):=by omega
 have q:atI (ns.map V.int) ((k.toNat:Nat):Int)=some (.int ns[k.toNat]):=zho (by rw[Ym,Yc hk] <;> rfl);rw[<- ek]at q;rw[q];unfold zfa;rw[List.getD_eq_getElem?_getD,Yc hk];rfl
def zmh:Sp:=λvs H Q _=>∃(n:Int),vs=[.int n]/\n<=9973/\Q (.bl (isP n)) H
def zme(CR NP:Addr):Sp:=λvs H Q E=>∃(p dx:Addr) (n:Int),vs=[.ref p,.int n]/\H p=some (.ins CR dx []) /\
 ((n<=9973/\isP n=true/\Q .non (upd H p (.ins CR dx [("prime",.int n)])))\/((9973<n\/isP n=false)/\E (.ref NP) none H))
theorem zla{d n:Int}(h2:2<=d)(h:d<=101) : -(2^64)<d/\d<2^64:=by omega
structure Nm(x y:Int):Prop where
 pos:1<=y
 bx:x.natAbs<2^8900
 bz:y.natAbs<2^8900
 cop:gI x y=1
theorem up{n a b:Nat}(h:n<2^a)(hab:a<=b):n<2^b:=Yf h (Yv (by decide) hab)
theorem Nm.mul{x y z t:Int}(h:Nm x y)(h':Nm z t):CMulC x z/\CMulC x t/\CMulC y t/\CMulC z y/\CMulC y z:=
 ⟨⟨up h.bx (by decide),up h'.bx (by decide)⟩,⟨up h.bx (by decide),up h'.bz (by decide)⟩,⟨up h.bz (by decide),up h'.bz (by decide)⟩,⟨up h'.bx (by decide),up h.bz (by decide)⟩,⟨up h.bz (by decide),up h'.bx (by decide)⟩⟩
def NumF(CF:Addr)(H:Hp)(p dx:Addr):Prop:=H p=some (.ins CF dx [("prime",.int 0)])
def Pair(H:Hp)(r:Addr)(x y:Int):Prop:=H r=some (.tup [.int x,.int y])
def zkr(CF:Addr)(t b:Int->Int->Int->Int->Int):Sp:=λvs H Q _=>∃(p dx ra rb:Addr) (x y z w:Int),vs=[.ref p,.ref ra,.ref rb]/\NumF CF H p dx/\Pair H ra x y/\Pair H rb z w/\Nm x y/\Nm z w /\
 ∀r H',Same H H'->Pair H' r (fT (t x y z w) (b x y z w)) (fB (t x y z w) (b x y z w))->Q (.ref r) H'
theorem zfn(a b:Int):gI (if a<0 then -a else a) b=gI a b:=zyf a b
theorem znz{a b:Int}{n:Nat}(hb:b≠0)(h:b.natAbs<n):gI a b≠0/\(gI a b).natAbs<n:=by
 have:=zd1 (a:=a) hb;refine⟨by omega,Yp ?_ h⟩;unfold gI;rw[Int.natAbs_natCast];exact Nat.le_of_dvd (by omega) (Nat.gcd_dvd_right _ _)
theorem fdl{a b:Int}{n:Nat}(hb:b≠0)(h:a.natAbs<n):(Int.fdiv a (gI a b)).natAbs<n:=by
 have:=zd1 (a:=a) hb;exact Yp (zt4 (zk5 a b) (by omega)) h
theorem fdr{a b:Int}{n:Nat}(hb:b≠0)(h:b.natAbs<n):(Int.fdiv b (gI a b)).natAbs<n:=by
 have:=zd1 (a:=a) hb;exact Yp (zt4 (zgh a b) (by omega)) h
def NumR(CR:Addr)(H:Hp)(p dx:Addr)(n:Int):Prop:=H p=some (.ins CR dx [("prime",.int n)])/\Pr n/\n<=9973
theorem no_R(m:Str)(n:Int)(h:¬m = "prime"):([("prime",V.int n)]:List (Str×V)).lookup m=none:=by
 have e:(m == (Str.ofString "prime"))=false:=by
  cases q:(m == (Str.ofString "prime")) with
  | true=>exact absurd (Ju q) h
  | false=>rfl
 simp only[List.lookup,e]
def In(n a:Int):Prop:=0<=a/\a<n
def spC(v:V):Sp:=λvs H Q _=>∃(p:V),vs=[p]/\Q v H
def zi7(CR:Addr)(g:Int->Int->Int->Int):Sp:=λvs H Q _=>∃(p dx:Addr) (n a b:Int),vs=[.ref p,.int a,.int b]/\NumR CR H p dx n/\In n a/\In n b/\Q (.int (g n a b)) H
def Inv1(n a f:Int):Prop:=0<=f/\f<n/\(f*a-1)%n=0
def zwu(CR NO:Addr):Sp:=λvs H Q E=>∃(p dx:Addr) (n a:Int),vs=[.ref p,.int a]/\NumR CR H p dx n/\In n a/\((a≠0/\∀f,Inv1 n a f->Q (.int f) H)\/(a=0/\E (.ref NO) none H))
def zwo(CR NO:Addr):Sp:=λvs H Q E=>∃(p dx:Addr) (n a b:Int),vs=[.ref p,.int a,.int b]/\NumR CR H p dx n/\In n a/\In n b/\((b≠0/\∀f,Inv1 n b f->Q (.int (a*f%n)) H)\/(b=0/\E (.ref NO) none H))
theorem In.mod(t:Int){n:Int}(h:Pr n):In n (t%n):=by
 have:=h.1;exact⟨Jl _ (by omega),Jc _ (by omega)⟩
def zn3(x y:Int):Sp:=λvs H Q _=>∃(p:V),vs=[p]/\∀r H',Same H H'->H' r=some (.tup [.int x,.int y])->Q (.ref r) H'
def zqv(NO:Addr):Sp:=λvs H Q E=>∃(p:V) (t b:Int),vs=[p,.int t,.int b]/\b.natAbs<2^8900 /\
 ((b≠0/\∀r H',Same H H'->H' r=some (.tup [.int (fT t b),.int (fB t b)])->Q (.ref r) H')\/(b=0/\E (.ref NO) none H))
theorem zxl{t b:Int}(h:b≠0)(hb:b.natAbs<2^8900):dv t b≠0/\(dv t b).natAbs<2^8999:=⟨zo4 h,Yf (Yp (zy9 h) hb) (Yv (by decide) (by decide))⟩
def AtF(CF:Addr)(H:Hp)(p:Addr):Prop:=∃dx,H p=some (.ins CF dx [("prime",.int 0)])
def AtR(CR:Addr)(n:Int)(H:Hp)(p:Addr):Prop:=∃dx,NumR CR H p dx n
theorem no_P(m:Str)(n:Int)(h:¬m = "prime"):([("prime",V.int n)]:List (Str×V)).lookup m=none:=no_R m n h
def AtN(CF CR:Addr)(n:Int):Hp->Addr->Prop:=if n=0 then AtF CF else AtR CR n
def RgO(CG:Addr)(dx:Addr)(m:Int)(pf po:Addr):HO:=.ins CG dx [("many",.int m),("field",.ref pf),("order",.ref po)]
def RgAt(CG:Addr)(H:Hp)(r:Addr)(m:Int)(pf po:Addr):Prop:=∃dx,H r=some (RgO CG dx m pf po)
theorem no_G{m:Int}{pf po:Addr}(x:Str)(h1:¬x = "many")(h2:¬x = "field")(h3:¬x = "order"):([("many",V.int m),("field",.ref pf),("order",.ref po)]:List (Str×V)).lookup x=none:=by
 have e:∀y:Str,¬x=y->(x == y)=false:=λy h=>by
  cases q:(x == y) with
  | true=>exact absurd (Ju q) h
  | false=>rfl
 simp only[List.lookup,e _ h1,e _ h2,e _ h3]
def spPl(n:Int)(At:Hp->Addr->Prop):Sp:=λvs H Q _=>∃(F:Type) (_:Lean.Grind.Field F) (_:Chr n F) (p:Addr) (v1 v2:V) (x y:F),vs=[.ref p,v1,v2]/\At H p/\Rep n H v1 x/\Rep n H v2 y/\Lim n 8900 x/\Lim n 8900 y/\∀v H',Same H H'->Rep n H' v (x+y)->Q v H'
def spTi(n:Int)(At:Hp->Addr->Prop):Sp:=λvs H Q _=>∃(F:Type) (_:Lean.Grind.Field F) (_:Chr n F) (p:Addr) (v1 v2:V) (x y:F),vs=[.ref p,v1,v2]/\At H p/\Rep n H v1 x/\Rep n H v2 y/\Lim n 8900 x/\Lim n 8900 y/\∀v H',Same H H'->Rep n H' v (x*y)->Q v H'
def spNo(c n:Int)(At:Hp->Addr->Prop):Sp:=λvs H Q _=>∃(F:Type) (_:Lean.Grind.Field F) (_:Chr n F) (p:Addr),vs=[.ref p]/\At H p/\∀v H',Same H H'->Rep n H' v (ic c:F)->Q v H'
structure FldP(P:Program)(w:World)(K:W.Frag)(mg:Str->Option Value)(base:Heap)(C:Addr)(At:Hp->Addr->Prop)(n:Int):Prop where
 same:∀{H H':Hp} {p:Addr},(∀b o,H b=some o->(∃C' dx fs,o=.ins C' dx fs)->H' b=some o)->At H p->At H' p
 ins:∀{H:Hp} {p:Addr},At H p->∃dx,H p=some (.ins C dx [("prime",.int n)])
 nought:MCal P w K mg base CX0 1 C "nought" ["self"] [] (spNo 0 n At)
 plus:MCal P w K mg base CX0 3 C "plus" ["self","a","b"] [] (spPl n At)
 times:MCal P w K mg base CX0 3 C "times" ["self","a","b"] [] (spTi n At)
theorem zp8{F:Type}[Lean.Grind.Field F][Chr 0 F]{H:Hp}{v:V}{x:F}(h:Rep 0 H v x)(l:Lim 0 8900 x):∃(r:Addr) (p q:Int),v=.ref r/\Pair H r p q/\Nm p q/\x*ic q=ic p:=by
 obtain⟨r,p,q,e,hr,q1,c,ex,h1,h2⟩:=zgo h l;exact⟨r,p,q,e,hr,⟨q1,h1,h2,c⟩,ex⟩
theorem zqy{y w:Int}(hy:1<=y)(hw:1<=w):y*w≠0:=by intro q;rcases Int.mul_eq_zero.mp q with q | q <;> omega
theorem zm8{c:Int}{At:Hp->Addr->Prop}:∀vs H Q E,spNo c 0 At vs H Q E->zn3 c 1 vs H Q E:=λ_ _ _ _ ⟨F,_,_,p,e,_,k⟩=>⟨.ref p,e,λr _ e' h=>k _ _ e' (rep_0.mpr ⟨r,c,1,Z,h,by decide,zri c,by rw[zd4];grind⟩)⟩
theorem zl6{c n:Int}(hn:Pr n)(c0:0<=c)(c1:c<=1){At:Hp->Addr->Prop}:∀vs H Q E,spNo c n At vs H Q E->spC (.int c) vs H Q E:=λ_ _ _ _ ⟨F,_,_,p,e,_,k⟩=>
 ⟨.ref p,e,k _ _ (Same.refl _) ((zdo (zih hn)).mpr ⟨c,Z,c0,by have:=hn.1;omega,Z⟩)⟩
theorem zsf{CF:Addr}:∀vs H Q E,spPl 0 (AtF CF) vs H Q E->zkr CF (λx y z w=>x*w+z*y) (λx y z w=>y*w) vs H Q E:=λ_ _ _ _ ⟨F,_,_,p,v1,v2,a,b,e,⟨dx,ha⟩,i1,i2,s1,s2,k⟩=>by
 obtain⟨r1,x,y,rfl,h1,n1,q1⟩:=zp8 i1 s1;obtain⟨r2,z,w,rfl,h2,n2,q2⟩:=zp8 i2 s2;refine⟨p,dx,r1,r2,x,y,z,w,e,ha,h1,h2,n1,n2,λr H' e' h=>k _ _ e' (zgb (zqy n1.pos n2.pos) h ?_)⟩;rw[zg8,za5,za5,za5,<- q1,<- q2];grind
theorem zt6{CF:Addr}:∀vs H Q E,spTi 0 (AtF CF) vs H Q E->zkr CF (λx y z w=>x*z) (λx y z w=>y*w) vs H Q E:=λ_ _ _ _ ⟨F,_,_,p,v1,v2,a,b,e,⟨dx,ha⟩,i1,i2,s1,s2,k⟩=>by
 obtain⟨r1,x,y,rfl,h1,n1,q1⟩:=zp8 i1 s1;obtain⟨r2,z,w,rfl,h2,n2,q2⟩:=zp8 i2 s2;refine⟨p,dx,r1,r2,x,y,z,w,e,ha,h1,h2,n1,n2,λr H' e' h=>k _ _ e' (zgb (zqy n1.pos n2.pos) h ?_)⟩;rw[za5,za5,<- q1,<- q2];grind
theorem ztk{CR:Addr}{n:Int}(hn:Pr n):∀vs H Q E,spPl n (AtR CR n) vs H Q E->zi7 CR (λn a b=>(a+b)%n) vs H Q E:=λ_ _ _ _ ⟨F,_,_,p,v1,v2,a,b,e,⟨dx,ha⟩,i1,i2,s1,s2,k⟩=>by
 have n0:=zih hn;have p2:=hn.1;obtain⟨x,rfl,x0,x1,q1⟩:=(zdo n0).mp i1;obtain⟨y,rfl,y0,y1,q2⟩:=(zdo n0).mp i2;exact⟨p,dx,n,x,y,e,ha,⟨x0,x1⟩,⟨y0,y1⟩,k _ _ (Same.refl _) ((zdo n0).mpr ⟨_,Z,Jl _ n0,Jc _ (by omega),by rw[zcw,zg8,q1,q2]⟩)⟩
theorem zth{CR:Addr}{n:Int}(hn:Pr n):∀vs H Q E,spTi n (AtR CR n) vs H Q E->zi7 CR (λn a b=>a*b%n) vs H Q E:=λ_ _ _ _ ⟨F,_,_,p,v1,v2,a,b,e,⟨dx,ha⟩,i1,i2,s1,s2,k⟩=>by
 have n0:=zih hn;have p2:=hn.1;obtain⟨x,rfl,x0,x1,q1⟩:=(zdo n0).mp i1;obtain⟨y,rfl,y0,y1,q2⟩:=(zdo n0).mp i2;exact⟨p,dx,n,x,y,e,ha,⟨x0,x1⟩,⟨y0,y1⟩,k _ _ (Same.refl _) ((zdo n0).mpr ⟨_,Z,Jl _ n0,Jc _ (by omega),by rw[zcw,za5,q1,q2]⟩)⟩
theorem zvg{P:Program}{w:World}{K:W.Frag}{mg:Str->Option Value}{base:Heap}{CF CR:Addr}(h1:MCal P w K mg base CX0 1 CF "nought" ["self"] [] (spNo 0 0 (AtF CF)))
  (h3:MCal P w K mg base CX0 3 CF "plus" ["self","a","b"] [] (spPl 0 (AtF CF))) (h4:MCal P w K mg base CX0 3 CF "times" ["self","a","b"] [] (spTi 0 (AtF CF))):FldP P w K mg base CF (AtN CF CR 0) 0:=by
 have e:AtN CF CR 0=AtF CF:=Yl rfl;rw[e];exact⟨λk ⟨dx,h⟩=>⟨dx,k _ _ h ⟨_,_,_,Z⟩⟩,fun⟨dx,h⟩=>⟨dx,h⟩,h1,h3,h4⟩
theorem zux{P:Program}{w:World}{K:W.Frag}{mg:Str->Option Value}{base:Heap}{CF CR:Addr}{n:Int}(hn:Pr n)(h1:MCal P w K mg base CX0 1 CR "nought" ["self"] [] (spNo 0 n (AtR CR n)))
  (h3:MCal P w K mg base CX0 3 CR "plus" ["self","a","b"] [] (spPl n (AtR CR n))) (h4:MCal P w K mg base CX0 3 CR "times" ["self","a","b"] [] (spTi n (AtR CR n))):FldP P w K mg base CR (AtN CF CR n) n:=by
 have e:AtN CF CR n=AtR CR n:=Yh (zih hn);rw[e];exact⟨λk ⟨dx,h⟩=>⟨dx,k _ _ h.1 ⟨_,_,_,Z⟩,h.2⟩,fun⟨dx,h⟩=>⟨dx,h.1⟩,h1,h3,h4⟩
def zv3(CR NO:Addr):Sp:=λvs H Q E=>∃(p dx:Addr) (n t b:Int),vs=[.ref p,.int t,.int b]/\NumR CR H p dx n/\((b%n≠0/\∀f,Inv1 n (b%n) f->Q (.int (t%n*f%n)) H)\/(b%n=0/\E (.ref NO) none H))
def AtO(C:Addr)(H:Hp)(p:Addr):Prop:=∃dx,H p=some (.ins C dx [])
def AtW(C:Addr)(ws:List Int)(H:Hp)(p:Addr):Prop:=∃dx wt,H p=some (.ins C dx [("weights",.ref wt)])/\H wt=some (.tup (ws.map V.int))
def AtK(CO CD CT CW:Addr)(k:Int)(ws:List Int):Hp->Addr->Prop:=if k=0 then AtO CO else if k=1 then AtO CD else if k=2 then AtO CT else AtW CW ws
def zjd(CG:Addr):Sp:=λvs H Q _=>∃(r:Addr) (m:Int) (pf po:Addr),vs=[.ref r]/\RgAt CG H r m pf po/\1<=m/\m<=4/\Q (.str (cutS "xyzt" none (some m))) H
theorem zsu{m:Int}(h1:1<=m)(h2:m<=4):(cutS "xyzt" none (some m)).length<=sizeLine:=by
 rcases(by omega:m=1\/m=2\/m=3\/m=4) with rfl | rfl | rfl | rfl <;> decide +kernel
theorem zo8:((("xyzt" : Str).length:Nat):Int)=4:=by decide +kernel
theorem atI0{a b:V}:atI [a,b] 0=some a:=rfl
theorem atI1{a b:V}:atI [a,b] 1=some b:=rfl
theorem zl(n:Nat)(h:n<=10000000):n<=sizeLine:=Yr h (by rw[sizeLine_eq];decide)
theorem zlt(n:Nat)(h:n<=10000000):n<sizeLine:=Yp h (by rw[sizeLine_eq];decide)
structure RgD where
 m:Nat
 pf:Addr
 po:Addr
 n:Int
 kd:Int
 ws:List Int
structure RgP(CG CF CR CO CD CT CW:Addr)(H:Hp)(r:Addr)(g:RgD):Prop where
 nb:g.n<=9973
 np:g.n=0\/Pr g.n
 m1:1<=g.m
 m4:g.m<=4
 k0:0<=g.kd
 k4:g.kd<4
 wn:Nn g.ws
 wb:∀x∈g.ws,x<10^31
 at_:RgAt CG H r g.m g.pf g.po
 fd:AtN CF CR g.n H g.pf
 od:AtK CO CD CT CW g.kd g.ws H g.po
theorem zfm{CF CR:Addr}{n:Int}{H H':Hp}{p:Addr}(k:Fix H H')(h:AtN CF CR n H p):AtN CF CR n H' p:=by
 by_cases z:n=0
 ·subst z;have e:AtN CF CR 0=AtF CF:=Yl rfl;rw[e]at h ⊢;obtain⟨dx,q⟩:=h;exact⟨dx,k.ins q⟩
 ·have e:AtN CF CR n=AtR CR n:=Yh z;rw[e]at h ⊢;obtain⟨dx,q⟩:=h;exact⟨dx,k.ins q.1,q.2⟩
theorem zt1{CO CD CT CW:Addr}{kd:Int}{ws:List Int}{H H':Hp}{p:Addr}(k:Fix H H')(h:AtK CO CD CT CW kd ws H p):AtK CO CD CT CW kd ws H' p:=by
 unfold AtK at h ⊢
 repeat' split at h
 all_goals (first | rw[Yl (by assumption)] | skip)
 all_goals (first | rw[Yh (by assumption)] | skip)
 all_goals (first | rw[Yl (by assumption)] | skip)
 all_goals (first | rw[Yh (by assumption)] | skip)
 all_goals (first | rw[Yl (by assumption)] | skip)
 all_goals (first | rw[Yh (by assumption)] | skip)
 all_goals (first | (obtain⟨dx,q⟩:=h;exact⟨dx,k.ins q⟩) | (obtain⟨dx,wt,q,q'⟩:=h;exact⟨dx,wt,k.ins q,k.tup _ _ q'⟩))
section
variable{CG CF CR CO CD CT CW:Addr}{H H':Hp}{r:Addr}{g:RgD}
theorem RgP.fix(k:Fix H H')(h:RgP CG CF CR CO CD CT CW H r g):RgP CG CF CR CO CD CT CW H' r g:=by
 obtain⟨dx,q⟩:=h.at_;exact⟨h.nb,h.np,h.m1,h.m4,h.k0,h.k4,h.wn,h.wb,⟨dx,k.ins q⟩,zfm k h.fd,zt1 k h.od⟩
theorem RgP.same(e:Same H H')(h:RgP CG CF CR CO CD CT CW H r g):RgP CG CF CR CO CD CT CW H' r g:=h.fix (.of e)
end
def ztb:Sp:=λvs H Q _=>∃(p:V) (m:Int),vs=[p,.int m]/\Q (.bl true) H
def zuv(CG CO:Addr):Sp:=λvs H Q _=>∃(r dx:Addr) (m:Int) (pf po:Addr),vs=[.ref r,.int m,.ref pf,.ref po]/\H r=some (.ins CG dx [])/\1<=m/\m<=4/\(∃d,H po=some (.ins CO d []))/\∀H',H' r=some (RgO CG dx m pf po)->(∀b o,H b=some o->b≠r->H' b=some o)->Q .non H'
def zro(K:W.Frag):Sp:=λvs H Q _=>∃(a b:Addr) (xs ys:List Int),vs=[.ref a,.ref b]/\SqT K H a (xs.map V.int)/\SqT K H b (ys.map V.int)/\xs.length<=1000/\∀r H',Same H H'->H' r=some (.tup ((addT xs ys).map V.int))->Q (.ref r) H'
def zs5(CG CF CR CO CD CT CW:Addr):Sp:=λvs H Q _=>∃(F:Type) (_:Lean.Grind.Field F) (r d e:Addr) (g:RgD) (_:Chr g.n F) (kvs fvs:List (List Key×V)) (φ ψ : Po F),vs=[.ref r,.ref d,.ref e]/\RgP CG CF CR CO CD CT CW H r g/\d≠e/\H d=some (.dT kvs)/\H e=some (.dT fvs) /\
 PF g.n g.m H kvs φ/\PF g.n g.m H fvs ψ/\kvs.length+fvs.length<sizeLine/\(∀t,Lim g.n 8900 (φ t))/\(∀t,Lim g.n 8900 (ψ t)) /\
 ∀H' kvs',Kp [d] H H'->H' d=some (.dT kvs')->PF g.n g.m H' kvs' (λt=>φ t + ψ t)->kvs'.length<=kvs.length+fvs.length->Q .non H'
def zrg(CG CF CR CO CD CT CW:Addr):Sp:=λvs H Q _=>∃(F:Type) (_:Lean.Grind.Field F) (r:Addr) (v:V) (t e:Addr) (g:RgD) (_:Chr g.n F) (fvs:List (List Key×V)) (x:F) (l:List Int) (ψ : Po F),vs=[.ref r,v,.ref t,.ref e]/\RgP CG CF CR CO CD CT CW H r g /\
 Rep g.n H v x/\Lim g.n 8900 x/\H t=some (.tup (l.map V.int))/\T0 g.m l/\H e=some (.dT fvs)/\PF g.n g.m H fvs ψ/\(∀t,Lim g.n 8900 (ψ t))/\fvs.length<sizeLine /\
 ∀d H' kvs,H d=none->Same H H'->H' d=some (.dT kvs)->PF g.n g.m H' kvs (λt=>x*sh l ψ t)->kvs.length<=fvs.length->Q (.ref d) H'
theorem zc0{α : Type}{l:List α}{i:Nat}{a : α}(h:l[i]? = some a):i<l.length:=by
 rcases Jf i l.length with q | q
 ·exact q
 ·rw[Yy q]at h;cases h
def spUn(CG CF CR CO CD CT CW:Addr):Sp:=λvs H Q _=>∃(r:Addr) (g:RgD),vs=[.ref r]/\RgP CG CF CR CO CD CT CW H r g/\∀t H',Same H H'->H' t=some (.tup ((zer g.m).map V.int))->Q (.ref t) H'
theorem zs7(n:Nat):(List.replicate n [V.int 0]).flatten=(zer n).map V.int:=by unfold zer;rw[List.map_replicate];simp
def zqw(CG CF CR CO CD CT CW:Addr):Sp:=λvs H Q _=>∃(F:Type) (_:Lean.Grind.Field F) (r e1 e2:Addr) (g:RgD) (_:Chr g.n F) (fvs gvs:List (List Key×V)) (φ ψ : Po F) (k1 k2:Nat),vs=[.ref r,.ref e1,.ref e2]/\RgP CG CF CR CO CD CT CW H r g/\e1≠e2/\H e1=some (.dT fvs)/\H e2=some (.dT gvs)/\PF g.n g.m H fvs φ/\PF g.n g.m H gvs ψ/\(fvs.length+1)*(gvs.length+1)<=1000000/\Bd g.n k1 φ/\Bd g.n k2 ψ/\k1+k2<=600 /\
 ∀d H' kvs,H d=none->Same H H'->H' d=some (.dT kvs)->PF g.n g.m H' kvs (mul (tms fvs) φ ψ)->Bd g.n (k1+k2) (mul (tms fvs) φ ψ)->kvs.length<=fvs.length*gvs.length->Q (.ref d) H'
def sg(t:Str)(i:Nat):Nat:=t.cps.toList.getD i 32
def RdO(u t:Str)(i e:Int):List (Str×V):=[("unknowns",.str u),("text",.str t),("at",.int i),("depth",.int e)]
structure RdA(C:Addr)(H:Hp)(p dx:Addr)(u t:Str)(i e:Nat):Prop where
 at_:H p=some (.ins C dx (RdO u t i e))
 tl:t.length<=300
 ul:u.length<=4
theorem RdA.same{C:Addr}{H H':Hp}{p dx:Addr}{u t:Str}{i e:Nat}(h:RdA C H p dx u t i e)(k:Same H H'):RdA C H' p dx u t i e:={ h with at_:=k _ _ h.at_ }
theorem putAt(u t:Str)(i j e:Int):putF "at" (.int j) (RdO u t i e)=RdO u t j e:=rfl
theorem zyu(u t:Str)(i j e:Int):putF "depth" (.int j) (RdO u t i e)=RdO u t i j:=rfl
theorem RdA.up{C:Addr}{H:Hp}{p dx:Addr}{u t:Str}{i e:Nat}(h:RdA C H p dx u t i e):RdA C (upd H p (.ins C dx (putF "at" (.int ((i:Int)+1)) (RdO u t i e)))) p dx u t (i+1) e:=⟨by rw[putAt,zaf];rfl,h.tl,h.ul⟩
def noRd(x:Str):Bool := !(x == "unknowns") && !(x == "text") && !(x == "at") && !(x == "depth")
theorem zbx{u t:Str}{i e:Int}(x:Str)(h:noRd x=true):(RdO u t i e).lookup x=none:=by
 unfold noRd at h;simp only[Bool.and_eq_true,Bool.not_eq_true']at h;obtain⟨⟨⟨h1,h2⟩,h3⟩,h4⟩:=h;simp only[RdO,List.lookup,h1,h2,h3,h4]
def zjn(C:Addr):Sp:=λvs H Q _=>∃(p dx:Addr) (u t:Str) (i e:Nat),vs=[.ref p]/\RdA C H p dx u t i e/\Q (.str ⟨#[sg t i]⟩) H
def zjl(C:Addr):Sp:=λvs H Q _=>∃(p dx:Addr) (u t:Str) (i e c:Nat),vs=[.ref p,.str ⟨#[c]⟩]/\RdA C H p dx u t i e/\(sg t i≠c->Q (.bl false) H)/\(sg t i=c->∀H',Kp [p] H H'->RdA C H' p dx u t (i+1) e->Q (.bl true) H')
theorem zng{a b:Nat}(h:V.str ⟨#[a]⟩=V.str ⟨#[b]⟩):a=b:=by injection h with h;injection h with h;simpa using h
def flt(l:List Nat):List Nat:=l.filter λc => !(c == 32)
theorem zj8(a b:List Nat):flt (a++b)=flt a++flt b:=List.filter_append ..
theorem zgd{l:List Nat}(h:32 ∉ l):flt l=l:=Yu.mpr λc hc=>by
 have:c≠32:=λz=>h (z ▸ hc)
 simp[this]
theorem zkm:∀parts:List Str,(∀p∈parts,32 ∉ p.cps.toList)->flt (Str.join ⟨#[32]⟩ parts).cps.toList=(Str.join "" parts).cps.toList
 | [],_=>rfl
 | [p],h=>zgd (h p (Yq.mpr rfl))
 | p::q::r,h=>by
  have ih:=zkm (q::r) λa ha=>h a (List.mem_cons_of_mem _ ha)
  show flt (p++⟨#[32]⟩++Str.join ⟨#[32]⟩ (q::r)).cps.toList=(p ++ "" ++ Str.join "" (q::r)).cps.toList;simp only[Str.cps_append,Array.toList_append];rw[zj8,zj8,ih,zgd (h p (List.mem_cons_self ..))];have e0:("" : Str).cps.toList=[]:=by decide +kernel
  rw[e0];rfl
theorem zkw(x:Str):(Txt.replace x " " "").cps.toList=flt x.cps.toList:=by
 have e1:(" " : Str)=⟨#[32]⟩:=by decide +kernel
 rw[e1,StrLaws.replace_one,<- zkm _ (StrLaws.split_free x 32),StrLaws.join_split]
theorem zk3(x:Str):(Txt.replace x " " "").length<=x.length:=by
 have e:∀y:Str,y.length=y.cps.toList.length:=λy=>Array.length_toList.symm
 rw[e,e,zkw];exact List.length_filter_le ..
def spRI(C:Addr):Sp:=λvs H Q _=>∃(p dx:Addr) (u x:Str),vs=[.ref p,.str u,.str x]/\H p=some (.ins C dx [])/\x.length<=300/\u.length<=4/\∀H',Kp [p] H H'->RdA C H' p dx u (Txt.replace x " " "") 0 0->Q .non H'
theorem zwz(c:Nat):(!(Builtin.Str.occurrences "0123456789" ⟨#[c]⟩ 0 ("0123456789" : Str).length 1).isEmpty)=isD c:=by
 rw[StrLaws.found_one];have e:("0123456789" : Str).cps.toList=[48,49,50,51,52,53,54,55,56,57]:=by decide +kernel
 rw[e];unfold isD;rw[<- Bool.decide_and];refine decide_eq_decide.mpr ?_;simp;omega
theorem zje:∀(ds:List Nat),(∀c∈ds,isD c=true)->dgv ds<10^ds.length:=by
 have:∀(ds:List Nat) (a k:Nat),(∀c∈ds,isD c=true)->a<10^k->ds.foldl (λacc c=>acc*10+(c-48)) a<10^(k+ds.length):=by
  intro ds;induction ds with
  | nil=>intro a k _ h;exact h
  | cons c ds ih=>
   intro a k hd h;have hc:=hd c (by simp);unfold isD at hc;simp only[Bool.and_eq_true,decide_eq_true_eq]at hc;rw[List.foldl_cons,Y5,show k+(ds.length+1)=k+1+ds.length by omega];refine ih _ _ (λx hx=>hd x (by simp[hx])) ?_;rw[Nat.pow_succ];omega
 intro ds hd;have:=this ds 0 0 hd (by decide);rwa [Nat.zero_add]at this
theorem sg_c{t:Str}{i c:Nat}{r:List Nat}(h:t.cps.toList.drop i=c::r):sg t i=c:=by
 unfold sg;rw[List.getD_eq_getElem?_getD,<- List.head?_drop,h];rfl
theorem sg_n{t:Str}{i:Nat}(h:t.cps.toList.drop i=[]):sg t i=32:=by
 unfold sg;rw[List.getD_eq_getElem?_getD,<- List.head?_drop,h];rfl
theorem zc1{t:Str}{i:Nat}{a r:List Nat}(h:t.cps.toList.drop i=a++r):t.cps.toList.drop (i+a.length)=r:=by
 rw[<- List.drop_drop,h,List.drop_left]
theorem s_of(c:Nat)(x:Str)(h:x=⟨#[c]⟩):V.str x=V.str ⟨#[c]⟩:=by rw[h]
def Kpt(A A':Addr->Prop)(H H':Hp):Prop:=∀a o,A a->H a=some o->A' a/\H' a=some o
theorem none_of{p q:Addr}{H H':Hp}{o:HO}(kp:Kp [p] H H')(hp:H' p=some o)(h:H' q=none):H q=none:=by
 cases z:H q with
 | none=>rfl
 | some x=>
  by_cases zp:q=p
  ·rw[zp,hp]at h;cases h
  ·rw[kp q x z (by simp[zp])]at h;cases h
theorem zjr{tA tB:TT}{σ : St}{H:Hp}{Q:Bool->Hp->Prop}(b1 b2:Bool)(h1:∀Q':Bool->Hp->Prop,Q' b1 H->tA σ H Q')(h2:∀Q':Bool->Hp->Prop,Q' b2 H->tB σ H Q')(h:Q (b1||b2) H):tOr tA tB σ H Q:=h1 _ (by
 cases b1 with
 | true=>exact iteT h
 | false=>exact iteF (h2 _ h))
theorem sdec{a b:Nat}(x:Str)(e:V.str x=V.str ⟨#[b]⟩):decide (V.str ⟨#[a]⟩=V.str x)=decide (a=b):=by
 rw[e];by_cases c:a=b
 ·rw[c];simp
 ·rw[Yw c,Yw λz=>c (zng z)]
theorem RdA.dp{C:Addr}{H:Hp}{p dx:Addr}{u t:Str}{i e:Nat}{d:Int}{e':Nat}(h:RdA C H p dx u t i e)(hd:d=(e':Int)):RdA C (upd H p (.ins C dx (putF "depth" (.int d) (RdO u t i e)))) p dx u t i e':=⟨by rw[zyu,zaf,hd],h.tl,h.ul⟩
def zsk(C:Addr):Sp:=λvs H Q _=>∃(p dx:Addr) (u t:Str) (i e:Nat) (most:Int) (ds rest:List Nat),vs=[.ref p,.int most]/\RdA C H p dx u t i e/\t.cps.toList.drop i=ds++rest/\(∀c∈ds,isD c=true)/\(∀c,rest.head? = some c->isD c=false)/\ds≠[]/\(ds.length:Int)<=most/\most<=100/\∀H',Kp [p] H H'->RdA C H' p dx u t (i+ds.length) e->Q (.int (dgv ds:Nat)) H'
abbrev nmS(m:Nat):Str:=cutS "xyzt" none (some (m:Int))
def stops(r:List Nat):Prop:=∀c,r.head? = some c->c=42\/c=43\/c=45\/c=41
theorem sg_s{t:Str}{i:Nat}{r:List Nat}(h:t.cps.toList.drop i=r)(s:stops r):sg t i=32\/sg t i=42\/sg t i=43\/sg t i=45\/sg t i=41:=by
 cases r with
 | nil=>exact .inl (sg_n h)
 | cons c r=>rw[sg_c h];exact .inr (s c rfl)
theorem zjs{r:List Nat}(s:stops r):∀c,r.head? = some c->isD c=false:=λc hc=>by
 rcases s c hc with rfl | rfl | rfl | rfl <;> rfl
def opT(c:Nat)(b:Option (List Nat)):List Nat:=match b with | none=>[] | some d=>c::d
def nuT(a:List Nat)(b:Option (List Nat)):List Nat:=a++opT 47 b
def pwT(k:Nat)(b:Option (List Nat)):List Nat:=ltc k::opT 94 b
def opV(b:Option (List Nat)):Nat:=match b with | none=>1 | some d=>dgv d
def spNu(C:Addr):Sp:=λvs H Q _=>∃(p dx:Addr) (u t:Str) (i e:Nat) (a:List Nat) (b:Option (List Nat)) (r:List Nat),vs=[.ref p]/\RdA C H p dx u t i e/\t.cps.toList.drop i=nuT a b++r/\stops r/\Dg 30 a/\(∀d,b=some d->Dg 30 d)/\∀H' q,Kp [p] H H'->RdA C H' p dx u t (i+(nuT a b).length) e->H q=none->H' q=some (.tup [.str "number",.int (dgv a:Nat),.int (opV b:Nat)])->Q (.ref q) H'
def spPo(C:Addr):Sp:=λvs H Q _=>∃(p dx:Addr) (t:Str) (i e m k:Nat) (b:Option (List Nat)) (r:List Nat),vs=[.ref p]/\RdA C H p dx (nmS m) t i e/\m<=4/\t.cps.toList.drop i=pwT k b++r/\stops r/\k<m/\(∀d,b=some d->Dg 2 d)/\∀H' q,Kp [p] H H'->RdA C H' p dx (nmS m) t (i+(pwT k b).length) e->H q=none->H' q=some (.tup [.str "power",.int k,.int (opV b:Nat)])->Q (.ref q) H'
theorem ltrs:∀m≤4,∀k<m,Txt.find (nmS m) ⟨#[ltc k]⟩=k/\(!(Builtin.Str.occurrences (nmS m) ⟨#[ltc k]⟩ 0 (nmS m).length 1).isEmpty)=true/\isD (ltc k)=false:=by decide +kernel
theorem zyy:∀m≤4,(!(Builtin.Str.occurrences (nmS m) ⟨#[40]⟩ 0 (nmS m).length 1).isEmpty)=false:=by decide +kernel
def LfV(m:Nat)(A:Addr->Prop)(H:Hp)(s:Sm)(v:V):Prop:=∃q,v=.ref q/\A q/\1<=s.tx.length /\
 ((∃a b:Nat,H q=some (.tup [.str "number",.int (a:Int),.int (b:Int)])/\a<=10^s.tx.length/\b<=10^s.tx.length/\((b=1/\s.bt=[])\/s.bt=[b])/\s.fv=[((a:Int),b,zer m)])\/(∃k e:Nat,H q=some (.tup [.str "power",.int (k:Int),.int (e:Int)])/\k<m/\s.bt=[]/\s.fv=[(1,1,only m k e)]))
def FVs(R:Sm->V->Prop)(A:Addr->Prop)(H:Hp)(fs:List Sm)(l:Addr):Prop:=∃ys,A l/\H l=some (.lst ys)/\Paired R fs ys
def PV(R:Sm->V->Prop)(A:Addr->Prop)(H:Hp)(p:Pt)(v:V):Prop:=∃q l,v=.ref q/\A q/\H q=some (.tup [.int (tnI p.ng),.ref l])/\FVs R A H p.fs l
def PVs(R:Sm->V->Prop)(A:Addr->Prop)(H:Hp)(ps:List Pt)(l:Addr):Prop:=∃ys,A l/\H l=some (.lst ys)/\Paired (PV R A H) ps ys
def FV(m:Nat):Nat->(Addr->Prop)->Hp->Sm->V->Prop
 | 0,A,H,s,v=>LfV m A H s v
 | n+1,A,H,s,v=>LfV m A H s v\/∃q l pt ps,v=.ref q/\A q/\H q=some (.tup [.str "sum",.ref l,.non])/\PVs (FV m n A H) A H (pt::ps) l/\s=⟨40::(psT pt ps++[41]),btS (pt::ps),fvS m (pt::ps)⟩
theorem LfV.fv{m n:Nat}{A:Addr->Prop}{H:Hp}{s:Sm}{v:V}(h:LfV m A H s v):FV m n A H s v:=by
 cases n with
 | zero=>exact h
 | succ n=>exact .inl h
theorem LfV.keep{m:Nat}{A A':Addr->Prop}{H H':Hp}{s:Sm}{v:V}(h:LfV m A H s v)(k:Kpt A A' H H'):LfV m A' H' s v:=by
 obtain⟨q,e,a,l,h⟩:=h;rcases h with⟨x,y,h,r⟩ | ⟨x,y,h,r⟩
 ·exact⟨q,e,(k q _ a h).1,l,.inl ⟨x,y,(k q _ a h).2,r⟩⟩
 ·exact⟨q,e,(k q _ a h).1,l,.inr ⟨x,y,(k q _ a h).2,r⟩⟩
theorem FVs.keep{R R':Sm->V->Prop}{A A':Addr->Prop}{H H':Hp}{s:List Sm}{l:Addr}(h:FVs R A H s l)(k:Kpt A A' H H')(kr:∀s v,R s v->R' s v):FVs R' A' H' s l:=by
 obtain⟨ys,a,e,p⟩:=h;exact⟨ys,(k l _ a e).1,(k l _ a e).2,pimp kr p⟩
theorem PV.keep{R R':Sm->V->Prop}{A A':Addr->Prop}{H H':Hp}{s:Pt}{v:V}(h:PV R A H s v)(k:Kpt A A' H H')(kr:∀s v,R s v->R' s v):PV R' A' H' s v:=by
 obtain⟨q,l,e,a,hq,f⟩:=h;exact⟨q,l,e,(k q _ a hq).1,(k q _ a hq).2,f.keep k kr⟩
theorem PVs.keep{R R':Sm->V->Prop}{A A':Addr->Prop}{H H':Hp}{s:List Pt}{l:Addr}(h:PVs R A H s l)(k:Kpt A A' H H')(kr:∀s v,R s v->R' s v):PVs R' A' H' s l:=by
 obtain⟨ys,a,e,p⟩:=h;exact⟨ys,(k l _ a e).1,(k l _ a e).2,pimp (λ_ _ q=>q.keep k kr) p⟩
theorem FV.keep{m:Nat}:∀{n:Nat} {A A':Addr->Prop} {H H':Hp} {s:Sm} {v:V},FV m n A H s v->Kpt A A' H H'->FV m n A' H' s v
 | 0,_,_,_,_,_,_,h,k=>LfV.keep h k
 | n+1,_,_,_,_,_,_,h,k=>by
  rcases h with h | ⟨q,l,pt,ps,e,a,hq,p,r⟩
  ·exact .inl (LfV.keep h k)
  ·exact .inr ⟨q,l,pt,ps,e,(k q _ a hq).1,(k q _ a hq).2,p.keep k (λ_ _ h=>FV.keep h k),r⟩
theorem fac3{m n:Nat}{s:Sm}(h:Fac m n s):(∃a b,s.tx=nuT a b/\Dg 30 a/\(∀d,b=some d->Dg 30 d)/\((opV b=1/\s.bt=[])\/s.bt=[opV b])/\s.fv=[(((dgv a:Nat):Int),opV b,zer m)]/\opV b<10^(nuT a b).length) \/
  (∃k b,k<m/\s.tx=pwT k b/\(∀d,b=some d->Dg 2 d)/\s.bt=[]/\s.fv=[(1,1,only m k (opV b))])\/∃n' pt ps,n=n'+1/\(∀p∈pt::ps,∀f∈p.fs,Fac m n' f)/\s=⟨40::(psT pt ps++[41]),btS (pt::ps),fvS m (pt::ps)⟩:=by
 have lf:Lf m s->(∃a b,s.tx=nuT a b/\Dg 30 a/\(∀d,b=some d->Dg 30 d)/\((opV b=1/\s.bt=[])\/s.bt=[opV b])/\s.fv=[(((dgv a:Nat):Int),opV b,zer m)]/\opV b<10^(nuT a b).length)\/(∃k b,k<m/\s.tx=pwT k b/\(∀d,b=some d->Dg 2 d)/\s.bt=[]/\s.fv=[(1,1,only m k (opV b))])\/∃n' pt ps,n=n'+1/\(∀p∈pt::ps,∀f∈p.fs,Fac m n' f)/\s=⟨40::(psT pt ps++[41]),btS (pt::ps),fvS m (pt::ps)⟩:=λh=>by
  rcases h with⟨ds,d,rfl⟩ | ⟨ds,d2,d,e,rfl⟩ | ⟨k,hk,rfl⟩ | ⟨k,ds,hk,d,rfl⟩
  ·exact .inl ⟨ds,none,(List.append_nil ds).symm,d,(λ_ z=>nomatch z),.inl ⟨Z,Z⟩,Z,Nat.one_lt_pow (by have:=List.length_pos_iff.mpr d.1;unfold nuT;rw[Y6];omega) (by decide)⟩
  ·exact .inl ⟨ds,some d2,Z,d,(λ_ z=>by injection z with z;rw[<- z];exact e),.inr rfl,Z,Yf (zje d2 e.2.2) (Yv (by decide) (by unfold nuT;rw[Y6];show d2.length<=ds.length+(d2.length+1);omega))⟩
  ·exact .inr (.inl ⟨k,none,hk,Z,(λ_ z=>nomatch z),Z,Z⟩)
  ·exact .inr (.inl ⟨k,some ds,hk,Z,(λ_ z=>by injection z with z;rw[<- z];exact d),Z,Z⟩)
 cases n with
 | zero=>exact lf h
 | succ n=>
  rcases h with h | ⟨pt,ps,h,e⟩
  ·exact lf h
  ·exact .inr (.inr ⟨n,pt,ps,Z,h,e⟩)
def ends(r:List Nat):Prop:=∀c,r.head? = some c->c=43\/c=45\/c=41
def endp(r:List Nat):Prop:=∀c,r.head? = some c->c=41
theorem ziw{r:List Nat}(l:List Sm)(h:ends r):stops (fsR l++r):=by
 cases l with
 | nil=>exact λc hc=>.inr (h c hc)
 | cons f l=>exact λc hc=>by injection hc with hc;exact .inl hc.symm
theorem zke{r:List Nat}(l:List Pt)(h:endp r):ends (psR l++r):=by
 cases l with
 | nil=>exact λc hc=>.inr (.inr (h c hc))
 | cons f l=>
  intro c hc;have hc:some (if f.ng then 45 else 43)=some c:=hc;injection hc with hc
  rw[<- hc]
  cases f.ng with
  | true=>exact .inr (.inl rfl)
  | false=>exact .inl rfl
theorem zp3(l:List Sm)(f:Sm):fsR (l++[f])=fsR l++42::f.tx:=by unfold fsR;rw[List.flatMap_append];simp
theorem zj9(l:List Pt)(p:Pt):psR (l++[p])=psR l++(if p.ng then 45 else 43)::ptT p:=by unfold psR;rw[List.flatMap_append];simp
def spFc(C:Addr)(e:Nat):Sp:=λvs H Q _=>∃(p dx:Addr) (t:Str) (i m:Nat) (s:Sm) (r:List Nat),vs=[.ref p]/\RdA C H p dx (nmS m) t i e/\m<=4/\t.cps.toList.drop i=s.tx++r/\stops r/\Fac m (8-e) s /\
 ∀H' v,Kp [p] H H'->RdA C H' p dx (nmS m) t (i+s.tx.length) e->FV m (8-e) (λa=>H a=none) H' s v->Q v H'
def zo7(C:Addr)(e:Nat):Sp:=λvs H Q _=>∃(p dx:Addr) (t:Str) (i m:Nat) (f:Sm) (l:List Sm) (r:List Nat),vs=[.ref p]/\RdA C H p dx (nmS m) t i e/\m<=4/\t.cps.toList.drop i=f.tx++fsR l++r/\ends r/\(∀s∈f::l,Fac m (8-e) s) /\
 ∀H' b,Kp [p] H H'->RdA C H' p dx (nmS m) t (i+(f.tx++fsR l).length) e->FVs (FV m (8-e) (λa=>H a=none) H') (λa=>H a=none) H' (f::l) b->Q (.ref b) H'
def zix(C:Addr)(e:Nat):Sp:=λvs H Q _=>∃(p dx:Addr) (t:Str) (i m:Nat) (pt:Pt) (ps:List Pt) (r:List Nat),vs=[.ref p]/\RdA C H p dx (nmS m) t i e/\m<=4/\t.cps.toList.drop i=psT pt ps++r/\endp r/\(∀p∈pt::ps,∀f∈p.fs,Fac m (8-e) f) /\
 ∀H' b,Kp [p] H H'->RdA C H' p dx (nmS m) t (i+(psT pt ps).length) e->PVs (FV m (8-e) (λa=>H a=none) H') (λa=>H a=none) H' (pt::ps) b->Q (.ref b) H'
def zos(C:Addr)(e:Nat):Sp:=λvs H Q _=>∃(p dx:Addr) (t:Str) (i m:Nat) (pt:Pt) (ps:List Pt) (r:List Nat),vs=[.ref p]/\RdA C H p dx (nmS m) t i e/\m<=4/\t.cps.toList.drop i=psT pt ps++41::r/\e<8/\(∀p∈pt::ps,∀f∈p.fs,Fac m (8-(e+1)) f) /\
 ∀H' v,Kp [p] H H'->RdA C H' p dx (nmS m) t (i+(psT pt ps).length+1) e->FV m (8-e) (λa=>H a=none) H' ⟨40::(psT pt ps++[41]),btS (pt::ps),fvS m (pt::ps)⟩ v->Q v H'
theorem zm2{k:Nat}{ds:List Nat}(h:Dg k ds):∃c l,ds=c::l/\isD c=true:=by
 obtain⟨c,l,e⟩:=List.exists_cons_of_ne_nil h.1;exact⟨c,l,e,h.2.2 c (by rw[e];simp)⟩
theorem zov{m n:Nat}(m4:m<=4){s:Sm}(h:Fac m n s):∃c l,s.tx=c::l/\c≠45:=by
 rcases fac3 h with⟨a,b,etx,da,_⟩ | ⟨k0,b,hk0,etx,_⟩ | ⟨n',pt,ps,en,hf,rfl⟩
 ·obtain⟨c,l,ec,dc⟩:=zm2 da;refine⟨c,l++opT 47 b,by rw[etx,ec];rfl,λz=>?_⟩;rw[z]at dc;cases dc
 ·have:∀k<4,ltc k≠45:=by decide
  exact⟨_,_,etx,this k0 (by omega)⟩
 ·exact⟨40,_,Z,by decide⟩
def spWs(C:Addr):Sp:=λvs H Q _=>∃(p dx:Addr) (t:Str) (m:Nat) (pt:Pt) (ps:List Pt),vs=[.ref p]/\RdA C H p dx (nmS m) t 0 0/\m<=4/\t.cps.toList=psT pt ps/\(∀p∈pt::ps,∀f∈p.fs,Fac m 8 f) /\
 ∀H' b,Kp [p] H H'->PVs (FV m 8 (λa=>H a=none) H') (λa=>H a=none) H' (pt::ps) b->Q (.ref b) H'
def bad(n:Int)(bt:List Nat):Prop:=∃b∈bt,zr n (b:Int)
def zia(n:Int)(At:Hp->Addr->Prop)(NO:Addr):Sp:=λvs H Q E=>∃(F:Type) (_:Lean.Grind.Field F) (_:Chr n F) (p:Addr) (t b:Int),vs=[.ref p,.int t,.int b]/\At H p/\b.natAbs<2^8900/\(zr n b->E (.ref NO) none H)/\(¬zr n b->∀(x:F) v H',x*ic b=ic t->Same H H'->Rep n H' v x->Q v H')
theorem zm1{At:Hp->Addr->Prop}{NO:Addr}:∀vs H Q E,zia 0 At NO vs H Q E->zqv NO vs H Q E:=λ_ _ _ _ ⟨F,_,_,p,t,b,e,_,b2,kx,k⟩=>by
 by_cases z:b=0
 ·exact⟨.ref p,t,b,e,b2,.inr ⟨z,kx (zr_0.mpr z)⟩⟩
 ·obtain⟨x,hx⟩:=zmf (F:=F) (t:=t) (b:=b) z;exact⟨.ref p,t,b,e,b2,.inl ⟨z,λr H' e' h=>k (λq=>z (zr_0.mp q)) x _ _ hx e' (zgb z h hx)⟩⟩
theorem zoj{CR NO:Addr}{n:Int}(hn:Pr n):∀vs H Q E,zia n (AtR CR n) NO vs H Q E->zv3 CR NO vs H Q E:=λ_ _ _ _ ⟨F,_,_,p,t,b,e,⟨dx,ha⟩,b2,kx,k⟩=>by
 have n0:=zih hn;have p2:=hn.1;by_cases z:b%n=0
 ·exact⟨p,dx,n,t,b,e,ha,.inr ⟨z,kx ((zr_n n0).mpr z)⟩⟩
 ·refine⟨p,dx,n,t,b,e,ha,.inl ⟨z,λf hf=>k (λq=>z ((zr_n n0).mp q)) (ic t*ic f) _ _ ?_ (Same.refl _) ((zdo n0).mpr ⟨_,Z,Jl _ n0,Jc _ (by omega),by rw[zcw,za5,zcw]⟩)⟩⟩;have h3:ic (F:=F) (f*(b%n)-1)=0:=(Chr.z (n:=n) _).mpr ((zr_n n0).mpr hf.2.2);rw[zfy,za5,zd4,zcw]at h3;grind
structure FldE(P:Program)(w:World)(K:W.Frag)(mg:Str->Option Value)(base:Heap)(NO C:Addr)(At:Hp->Addr->Prop)(n:Int):Prop where
 ins:∀{H:Hp} {p:Addr},At H p->∃dx,H p=some (.ins C dx [("prime",.int n)])
 one:MCal P w K mg base CX0 1 C "one" ["self"] [] (spNo 1 n At)
 nought:MCal P w K mg base CX0 1 C "nought" ["self"] [] (spNo 0 n At)
 made:MCal P w K mg base (CXe P w) 6 C "made" ["self","top","bottom"] [] (zia n At NO)
 made1:∃tk,MCal P w K mg base (CXe P w) 6 C "made" ["self","top","bottom"] [.int 1 tk] (zia n At NO)
section
variable{F:Type}[Lean.Grind.Field F]
def mo(t:List Int)(c:F):Po F:=setP (λ_=>0) t c
theorem zqe{n:Int}{m:Nat}{H:Hp}{v:V}{x:F}{t:List Int}(hv:Rep n H v x)(ht:T0 m t)(hx:x≠0):PF n m H [(ky t,v)] (mo t x):=(PF.nil (H:=H)).put ht hv hx
theorem mo_0(t u:List Int):mo t (0:F) u=0:=by unfold mo setP;split <;> rfl
theorem zgy{m k e:Nat}(hk:k<m):T0 m (only m k e):=⟨by unfold only;simp,λi=>by
 unfold only;rw[List.getD_eq_getElem?_getD,Ym]
 cases h:(List.range m)[i]? with
 | none=>show (0:Int)<=0;decide
 | some j=>
  show (0:Int)<=if j=k then(e:Int) else 0
  split <;> omega⟩
theorem zfi:ic (F:=F) 1≠0:=by rw[zd4];exact λz=>Lean.Grind.Field.zero_ne_one z.symm
theorem zrt{t u:List Int}{c:F}(h:mo t c u≠0):u=t:=Classical.byContradiction λz=>h (zc9 z)
end
def zsh(CG CF CR CO CD CT CW:Addr):Sp:=λvs H Q _=>∃(F:Type) (_:Lean.Grind.Field F) (r:Addr) (v:V) (g:RgD) (_:Chr g.n F) (x:F),vs=[.ref r,v]/\RgP CG CF CR CO CD CT CW H r g/\Rep g.n H v x/\∀d H' kvs,H d=none->Same H H'->H' d=some (.dT kvs)->PF g.n g.m H' kvs (mo (zer g.m) x)->kvs.length<=1->Q (.ref d) H'
def zmq:Sp:=λvs H Q _=>∃(m a p:Int),vs=[.int m,.int a,.int p]/\1<=m/\m<=10/\0<=a/\∀r H',Same H H'->H' r=some (.tup ((only m.toNat a.toNat p).map V.int))->Q (.ref r) H'
abbrev AT:Addr->Prop:=λ_=>True
theorem zr_1{n:Int}(hn:n=0\/Pr n):¬zr n 1:=λz=>by
 rcases hn with h | h
 ·subst h;rw[zr_0]at z;cases z
 ·rw[zr_n (zih h)]at z;have:=h.1;rw[Int.emod_eq_of_lt (by decide) (by omega)]at z;cases z
theorem zr_z{n:Int}(hn:n=0\/Pr n):zr n 0:=by
 rcases hn with h | h
 ·subst h;exact zr_0.mpr rfl
 ·rw[zr_n (zih h)];simp
theorem zoq{F:Type}[Lean.Grind.Field F]{n:Int}{k:Nat}{t:List Int}{x:F}{a b:Int}(hb:b≠0)(e:x*ic b=ic a)(ha:a.natAbs<=10^k)(hb':b.natAbs<=10^k):Bd n k (mo t x):=Bd.one (t:=t) zgx (λu hu=>zc9 hu) hb e ha hb'
theorem tk1{α : Type}{l:List α}{j:Nat}(h:j<l.length):l.take (j+1)=l.take j++[l[j]]:=by rw[List.take_add_one,Yc h];rfl
def spFO(NO CG CF CR CO CD CT CW:Addr)(n:Nat):Sp:=λvs H Q E=>∃(F:Type) (_:Lean.Grind.Field F) (r:Addr) (v:V) (g:RgD) (_:Chr g.n F) (s:Sm),vs=[.ref r,v]/\RgP CG CF CR CO CD CT CW H r g/\FV g.m n AT H s v/\s.tx.length<=300/\s.fv.length<=12000/\(bad g.n s.bt->∀H',Same H H'->E (.ref NO) none H')/\(¬bad g.n s.bt->∀d H' kvs,H d=none->Same H H'->H' d=some (.dT kvs)->PF g.n g.m H' kvs (val (F:=F) s.fv)->Bd g.n s.tx.length (val (F:=F) s.fv)->kvs.length<=s.fv.length->Q (.ref d) H')
def zik(NO CG CF CR CO CD CT CW:Addr)(n:Nat):Sp:=λvs H Q E=>∃(F:Type) (_:Lean.Grind.Field F) (r b:Addr) (g:RgD) (_:Chr g.n F) (pt:Pt) (ps:List Pt),vs=[.ref r,.ref b]/\RgP CG CF CR CO CD CT CW H r g/\PVs (FV g.m n AT H) AT H (pt::ps) b/\(psT pt ps).length<=300/\(fvS g.m (pt::ps)).length<=12000/\(bad g.n (btS (pt::ps))->∀H',Same H H'->E (.ref NO) none H')/\(¬bad g.n (btS (pt::ps))->∀d H' kvs,H d=none->Same H H'->H' d=some (.dT kvs)->PF g.n g.m H' kvs (val (F:=F) (fvS g.m (pt::ps)))->Bd g.n ((psT pt ps).length+1) (val (F:=F) (fvS g.m (pt::ps)))->kvs.length<=(fvS g.m (pt::ps)).length->Q (.ref d) H')
theorem zve{m:Nat}{A:Addr->Prop}{H:Hp}{s:Sm}{v:V}:∀{n:Nat},FV m n A H s v->LfV m A H s v\/∃n' q l pt ps,n=n'+1/\v=.ref q/\H q=some (.tup [.str "sum",.ref l,.non])/\PVs (FV m n' A H) A H (pt::ps) l/\s=⟨40::(psT pt ps++[41]),btS (pt::ps),fvS m (pt::ps)⟩
 | 0,h=>.inl h
 | n+1,h=>by
  rcases h with h | ⟨q,l,pt,ps,e,a,hq,p,r⟩
  ·exact .inl h
  ·exact .inr ⟨n,q,l,pt,ps,Z,e,hq,p,r⟩
structure SOk(m:Nat)(s:Sm):Prop where
 l1:1<=s.tx.length
 ne:s.fv≠[]
 tf:TF m s.fv
 nf:∀{n:Int} {F:Type} [Lean.Grind.Field F] [Chr n F],¬bad n s.bt->NF F s.fv
theorem znx{α : Type}{R : α->V->Prop}:∀{xs:List α} {ys:List V},Paired R xs ys->∀x∈xs,∃y,R x y
 | _,_,.nil,_,h=>nomatch h
 | _,_,.cons p l,x,h=>by
  rcases Yj.mp h with h | h
  ·rw[h];exact⟨_,p⟩
  ·exact znx l x h
theorem zu2(c:Fv){fs:List Fv}{j:Nat}(h:j<fs.length):wF c (fs.take (j+1))=mulF (wF c (fs.take j)) fs[j]:=by unfold wF;rw[tk1 h,List.foldl_append];rfl
theorem zrw{c:Fv}{fs:List Fv}(hc:c≠[])(h:∀f∈fs,f≠[]):1<=(wF c fs).length:=by
 induction fs generalizing c with
 | nil=>exact List.length_pos_iff.mpr hc
 | cons f fs ih=>
  refine ih (λz=>?_) λg hg=>h g (by simp[hg])
  have:=zc3 c f;rw[z]at this;have h1:=List.length_pos_iff.mpr hc;have h2:=List.length_pos_iff.mpr (h f (by simp));have:=Nat.mul_pos h1 h2;simp at *;omega
theorem zw7{c:Fv}{fs:List Fv}(hc:c≠[])(h:∀f∈fs,f≠[]):∀k j,j+k=fs.length->(wF c (fs.take j)).length<=(wF c fs).length
 | 0,j,e=>by rw[List.take_of_length_le (by omega)];exact Yi _
 | k+1,j,e=>by
  have hj:j<fs.length:=by omega
  refine Yr ?_ (zw7 hc h k (j+1) (by omega));rw[zu2 c hj,zc3];have:=List.length_pos_iff.mpr (h _ (Js hj));exact Nat.le_mul_of_pos_right _ this
theorem zy7(b:Bool):tnI b=1\/tnI b = -1:=by cases b;exact .inl rfl;exact .inr rfl
theorem NF.one{F:Type}[Lean.Grind.Field F](m:Nat)(s:Int):NF F (oneF m s):=λx hx=>by rw[Yq.mp hx];exact zfi
theorem NF.w{F:Type}[Lean.Grind.Field F]{c:Fv}{fs:List Fv}(hc:NF F c)(h:∀f∈fs,NF F f):NF F (wF c fs):=by
 induction fs generalizing c with
 | nil=>exact hc
 | cons f fs ih=>exact ih (hc.mul (h f (by simp))) λg hg=>h g (by simp[hg])
theorem zf5{fs:List Sm}{f:Fv}(h:f∈fs.map Sm.fv):∃s∈fs,f=s.fv:=by
 obtain⟨s,hs,e⟩:=Jh.mp h;exact⟨s,hs,e.symm⟩
theorem zrb{n:Int}{fs:List Sm}(h:¬bad n (fs.flatMap Sm.bt)):∀f∈fs,¬bad n f.bt:=λf hf ⟨b,hb,q⟩=>h ⟨b,List.mem_flatMap.mpr ⟨f,hf,hb⟩,q⟩
theorem zr0{n:Int}{ps:List Pt}(h:¬bad n (btS ps)):∀p∈ps,¬bad n (p.fs.flatMap Sm.bt):=λp hp ⟨b,hb,q⟩=>h ⟨b,List.mem_flatMap.mpr ⟨p,hp,hb⟩,q⟩
theorem zyg{m:Nat}{p:Pt}(h:∀f∈p.fs,SOk m f):TF m (ptF m p):=TF.w TF.one λf hf=>by obtain⟨s,hs,rfl⟩:=zf5 hf;exact(h s hs).tf
theorem zyt{m:Nat}{p:Pt}(h:∀f∈p.fs,SOk m f){n:Int}{F:Type}[Lean.Grind.Field F][Chr n F](nb:¬bad n (p.fs.flatMap Sm.bt)):NF F (ptF m p):=NF.w (NF.one m _) λf hf=>by obtain⟨s,hs,rfl⟩:=zf5 hf;exact(h s hs).nf (n:=n) (zrb nb s hs)
theorem zut{m:Nat}{p:Pt}(h:∀f∈p.fs,SOk m f):1<=(ptF m p).length:=zrw (by unfold oneF;simp) λf hf=>by obtain⟨s,hs,rfl⟩:=zf5 hf;exact(h s hs).ne
theorem znr{m:Nat}{ps:List Pt}(h:∀p∈ps,∀f∈p.fs,SOk m f):TF m (fvS m ps):=λx hx=>by
 obtain⟨p,hp,hx⟩:=List.mem_flatMap.mp hx;exact zyg (h p hp) x hx
theorem zkf{m:Nat}{ps:List Pt}(h:∀p∈ps,∀f∈p.fs,SOk m f){n:Int}{F:Type}[Lean.Grind.Field F][Chr n F](nb:¬bad n (btS ps)):NF F (fvS m ps):=λx hx=>by
 obtain⟨p,hp,hx⟩:=List.mem_flatMap.mp hx;exact zyt (n:=n) (h p hp) (zr0 nb p hp) x hx
theorem PVs.sok{m:Nat}{R:Sm->V->Prop}{A:Addr->Prop}{H:Hp}{ps:List Pt}{l:Addr}(h:PVs R A H ps l)(hR:∀s v,R s v->SOk m s):∀p∈ps,∀f∈p.fs,SOk m f:=λp hp f hf=>by
 obtain⟨ys,_,_,hy⟩:=h;obtain⟨v,q,l',_,_,_,zs,_,_,hz⟩:=znx hy p hp;obtain⟨u,hu⟩:=znx hz f hf;exact hR f u hu
theorem FV.sok{m:Nat}:∀{n:Nat} {A:Addr->Prop} {H:Hp} {s:Sm} {v:V},FV m n A H s v->SOk m s:=by
 have lf:∀{A:Addr->Prop} {H:Hp} {s:Sm} {v:V},LfV m A H s v->SOk m s:=fun⟨q,_,_,l1,h⟩=>by
  rcases h with⟨a,b,_,_,_,bb,ef⟩ | ⟨k,e,_,hk,_,ef⟩
  ·refine⟨l1,by rw[ef];simp,λx hx=>?_,fun{n F} _ _ nb x hx=>?_⟩
   ·rw[ef]at hx;rw[Yq.mp hx];exact T0.zer m
   ·rw[ef]at hx;rw[Yq.mp hx];rcases bb with⟨b1,_⟩ | bb
    ·show ic ((b:Int))≠0;rw[b1];exact zfi
    ·exact λz=>nb ⟨b,by rw[bb];simp,(Chr.z (n:=n) (F:=F) _).mp z⟩
  ·refine⟨l1,by rw[ef];simp,λx hx=>?_,fun{n F} _ _ nb x hx=>?_⟩
   ·rw[ef]at hx;rw[Yq.mp hx];exact zgy hk
   ·rw[ef]at hx;rw[Yq.mp hx];exact zfi
 intro n;induction n with
 | zero=>exact λh=>lf h
 | succ n ih=>
  intro A H s v h;rcases h with h | ⟨q,l,pt,ps,_,_,_,p,rfl⟩
  ·exact lf h
  ·have ok:=p.sok λs v h=>ih h
   refine⟨by simp,?_,znr ok,fun{n F} _ _ nb=>zkf (n:=n) ok nb⟩;have:=zut (ok pt (by simp));intro z;have e:(fvS m (pt::ps)).length=(ptF m pt++fvS m ps).length:=rfl;rw[show (fvS m (pt::ps)).length=0 by rw[show fvS m (pt::ps)=[] from z];rfl,Y6]at e;omega
def lnF(fs:List Sm):Nat:=(fs.map λs=>s.tx.length).sum
def lnP(ps:List Pt):Nat:=(ps.map λp=>lnF p.fs).sum
theorem zra(p:Pt):lnF p.fs<=(ptT p).length:=by
 have:∀l:List Sm,lnF l<=(fsR l).length:=λl=>by
  induction l with
  | nil=>exact Yi _
  | cons a l ih=>
   show (a.tx.length::l.map λs=>s.tx.length).sum<=(42::a.tx++fsR l).length;rw[List.sum_cons,Y6,Y5];have:(l.map λs=>s.tx.length).sum<=(fsR l).length:=ih;omega
 have:=this p.r;show (p.f.tx.length::p.r.map λs=>s.tx.length).sum<=(p.f.tx++fsR p.r).length;rw[List.sum_cons,Y6];have:(p.r.map λs=>s.tx.length).sum<=(fsR p.r).length:=this;omega
theorem zx1(pt:Pt)(ps:List Pt):lnP (pt::ps)+(ps.length+1)<=(psT pt ps).length+1:=by
 have:∀l:List Pt,lnP l+l.length<=(psR l).length:=λl=>by
  induction l with
  | nil=>exact Yi _
  | cons a l ih=>
   show (lnF a.fs::l.map λp=>lnF p.fs).sum+(l.length+1)<=(((if a.ng then 45 else 43)::ptT a)++psR l).length;rw[List.sum_cons,Y6,Y5];have:=zra a;have:(l.map λp=>lnF p.fs).sum+l.length<=(psR l).length:=ih;omega
 have h1:=this ps;have h2:=zra pt;unfold psT;rw[Y6,Y6];show (lnF pt.fs::ps.map λp=>lnF p.fs).sum+_<=_;rw[List.sum_cons];have:(ps.map λp=>lnF p.fs).sum+ps.length<=(psR ps).length:=h1;omega
theorem zyp{fs:List Sm}{j:Nat}(h:j<fs.length):lnF (fs.take (j+1))=lnF (fs.take j)+fs[j].tx.length:=by unfold lnF;rw[tk1 h,List.map_append,List.sum_append];simp only[List.map_cons,List.map_nil,List.sum_cons,List.sum_nil,Nat.add_zero]
theorem zy4{ps:List Pt}{j:Nat}(h:j<ps.length):lnP (ps.take (j+1))=lnP (ps.take j)+lnF ps[j].fs:=by unfold lnP;rw[tk1 h,List.map_append,List.sum_append];simp only[List.map_cons,List.map_nil,List.sum_cons,List.sum_nil,Nat.add_zero]
theorem znb:∀{l:List Nat} {i:Nat},(l.take i).sum<=l.sum
 | [],i=>by simp
 | a::l,0=>by simp
 | a::l,i+1=>by rw[List.take_succ_cons,List.sum_cons,List.sum_cons];have:=znb (l:=l) (i:=i);omega
theorem zvj(fs:List Sm)(i:Nat):lnF (fs.take i)<=lnF fs:=by unfold lnF;rw[List.map_take];exact znb
theorem zu6(ps:List Pt)(i:Nat):lnP (ps.take i)<=lnP ps:=by unfold lnP;rw[List.map_take];exact znb
theorem zu0(m:Nat){ps:List Pt}{j:Nat}(h:j<ps.length):fvS m (ps.take (j+1))=fvS m (ps.take j)++ptF m ps[j]:=by unfold fvS;rw[tk1 h,List.flatMap_append];simp
theorem zmd(m:Nat){ps:List Pt}:∀k j,j+k=ps.length->(fvS m (ps.take j)).length<=(fvS m ps).length
 | 0,j,e=>by rw[List.take_of_length_le (by omega)];exact Yi _
 | k+1,j,e=>by
  refine Yr ?_ (zmd m k (j+1) (by omega));rw[zu0 m (by omega),Y6];omega
theorem zkc{α : Type}{R : α->V->Prop}:∀{ss:List α} {ys:List V} {i:Nat} {y:V},Paired R ss ys->ys[i]? = some y->∃h:i<ss.length,R ss[i] y
 | _,_,_,_,.nil,e=>by simp at e
 | _,_,0,_,.cons p l,e=>by
  have:_=_:=e;injection this with this
  exact⟨Nat.succ_pos _,by rw[<- this];exact p⟩
 | _,_,i+1,_,.cons p l,e=>by
  obtain⟨h1,h2⟩:=zkc l (by exact e);exact⟨Nat.succ_lt_succ h1,h2⟩
theorem zw6{n:Int}{fs:List Sm}(z:bad n (fs.flatMap Sm.bt)):∃s∈fs,bad n s.bt:=by
 obtain⟨b,hb,q⟩:=z;obtain⟨s,hs,hb⟩:=List.mem_flatMap.mp hb;exact⟨s,hs,b,hb,q⟩
theorem zvm{n:Int}{ps:List Pt}(z:bad n (btS ps)):∃p∈ps,bad n (p.fs.flatMap Sm.bt):=by
 obtain⟨b,hb,q⟩:=z;obtain⟨s,hs,hb⟩:=List.mem_flatMap.mp hb;exact⟨s,hs,b,hb,q⟩
theorem zlf{k:Nat}(h:k<=600):10^k<2^8900:=Yp (Yv (by decide) h) (by decide +kernel)
theorem ul4{m:Nat}(h1:1<=m)(h2:m<=4):(cutS "xyzt" none (some (m:Int))).length<=4:=by
 rcases(by omega:m=1\/m=2\/m=3\/m=4) with rfl | rfl | rfl | rfl <;> decide +kernel
def zrx(NO CG CF CR CO CD CT CW:Addr):Sp:=λvs H Q E=>∃(F:Type) (_:Lean.Grind.Field F) (r:Addr) (x:Str) (g:RgD) (_:Chr g.n F) (pt:Pt) (ps:List Pt),vs=[.ref r,.str x]/\RgP CG CF CR CO CD CT CW H r g/\x.length<=300/\flt x.cps.toList=psT pt ps/\(∀p∈pt::ps,∀f∈p.fs,Fac g.m 8 f)/\(fvS g.m (pt::ps)).length<=12000/\(bad g.n (btS (pt::ps))->∀H',Same H H'->E (.ref NO) none H')/\(¬bad g.n (btS (pt::ps))->∀d H' kvs,H d=none->Same H H'->H' d=some (.dT kvs)->PF g.n g.m H' kvs (val (F:=F) (fvS g.m (pt::ps)))->Q (.ref d) H')
def zk4:Sp:=λvs H Q _=>∃(n:Int),vs=[.int n]/\2<=n/\n<=9973/\Q (.bl (isP n)) H
theorem tab4{r:Int}(h0:0<=r)(h1:r<4):∃v:Int,1<=v/\v<=9972/\atI [V.int 1,V.int 6,V.int 120,V.int 9972] r=some (.int v):=by
 rcases(by omega:r=0\/r=1\/r=2\/r=3) with h | h | h | h <;> subst h
 ·exact⟨1,by decide,by decide,Z⟩
 ·exact⟨6,by decide,by decide,Z⟩
 ·exact⟨120,by decide,by decide,Z⟩
 ·exact⟨9972,by decide,by decide,Z⟩
theorem zvr:isP 2=true:=zsb ⟨by decide,λe h1 h2=>by
 exfalso;have:=Int.mul_le_mul h1 h1 (by decide) (by omega);omega⟩
theorem zyd{n:Int}(h:isP n=true):Pr n:=by
 by_cases q:Pr n
 ·exact q
 ·rw[zsx q]at h;cases h
def zre(CF CR:Addr):Sp:=λvs H Q _=>∃(n:Int),vs=[.int n]/\(n=0\/Pr n)/\n<=9973/\∀pf H',Same H H'->AtN CF CR n H' pf->Q (.ref pf) H'
def zvk:Sp:=λvs H Q _=>∃(c:Int),vs=[.int c]/\∀(n:Int) H',Same H H'->(n=0\/Pr n)->n<=9973->Q (.int n) H'
def zwx:Sp:=λvs H Q _=>∃(F:Type) (_:Lean.Grind.Field F) (n:Int) (_:Chr n F) (v:V) (x:F),vs=[.int n,v]/\(n=0\/Pr n)/\Rep n H v x/\Q (.bl true) H
def zwp:Sp:=λvs H Q _=>∃(F:Type) (_:Lean.Grind.Field F) (n:Int) (_:Chr n F) (m:Nat) (d:Addr) (kvs:List (List Key×V)) (φ : Po F),vs=[.int n,.ref d]/\(n=0\/Pr n)/\m<=4/\H d=some (.dT kvs)/\PF n m H kvs φ/\∀H',Same H H'->Q (.bl true) H'
def zji:Sp:=λvs H Q _=>∃(i:Int),vs=[.int i]/\Q (.bl true) H
def zor:Sp:=λvs H Q _=>∃(t b:Int),vs=[.int t,.int b]/\1<=b/\b.natAbs<2^8900/\∀r H',Same H H'->H' r=some (.tup [.int (t / gI t b),.int (b / gI t b)])->Q (.ref r) H'
def znu:Sp:=λvs H Q _=>∃(F:Type) (_:Lean.Grind.Field F) (n:Int) (_:Chr n F) (t:Int),vs=[.int n,.int t,.int 1]/\(n=0\/Pr n)/\∀v H',Same H H'->Rep n H' v (ic (F:=F) t)->Q v H'
def zuj:Sp:=λvs H Q _=>∃(F:Type) (_:Lean.Grind.Field F) (n:Int) (_:Chr n F) (v1 v2:V) (x y:F),vs=[.int n,v1,v2]/\(n=0\/Pr n)/\Rep n H v1 x/\Rep n H v2 y/\Lim n 4000 x/\Lim n 4000 y/\∀v H',Same H H'->Rep n H' v (x+y)->Q v H'
def ztl:Sp:=λvs H Q _=>∃(F:Type) (_:Lean.Grind.Field F) (n:Int) (_:Chr n F) (v1 v2:V) (x y:F),vs=[.int n,v1,v2]/\(n=0\/Pr n)/\n<=9973/\Rep n H v1 x/\Rep n H v2 y/\Lim n 4000 x/\Lim n 4000 y/\∀v H',Same H H'->Rep n H' v (x*y)->Q v H'
theorem zol{n:Int}(h:n=0\/Pr n)(c:¬0<n):n=0:=by
 rcases h with h | h
 ·exact h
 ·have:=h.1;omega
theorem zhw{F:Type}[Lean.Grind.Field F][Chr 0 F]{H:Hp}{r:Addr}{x:F}{t b:Int}(hb:1<=b)(hr:H r=some (.tup [.int (t / gI t b),.int (b / gI t b)]))(e:x*ic b=ic t):Rep 0 H (.ref r) x:=by
 have gp:0<gI t b:=zd1 (by omega);refine zpj hb ?_ e;rw[Int.fdiv_eq_ediv_of_nonneg _ (Int.le_of_lt gp),Int.fdiv_eq_ediv_of_nonneg _ (Int.le_of_lt gp)];exact hr
theorem big2{a b:Int}(h1:a.natAbs<2^4000)(h2:b.natAbs<2^4000):(a*b).natAbs<2^8900:=by
 rw[Int.natAbs_mul];exact Yf (Nat.mul_lt_mul'' h1 h2) (by rw[<- Nat.pow_add];exact Yv (by decide) (by decide))
theorem pos2{a b:Int}(h1:1<=a)(h2:1<=b):1<=a*b:=by have:=Int.mul_pos (show 0<a by omega) (show 0<b by omega);omega
def zsp:Sp:=λvs H Q _=>∃(F:Type) (_:Lean.Grind.Field F) (n:Int) (_:Chr n F) (m:Nat) (d t:Addr) (l:List Int) (v:V) (y:F) (kv:List (List Key×V)) (φ : Po F),vs=[.int n,.ref d,.ref t,v]/\(n=0\/Pr n)/\H d=some (.dT kv)/\H t=some (.tup (l.map V.int))/\T0 m l/\PF n m H kv φ/\Rep n H v y/\Lim n 4000 (φ l)/\Lim n 4000 y/\kv.length<1000000/\∀H' kv',Kp [d] H H'->H' d=some (.dT kv')->PF n m H' kv' (setP φ l (φ l+y))->kv'.length<=kv.length+1->Q .non H'
def Pw6{F:Type}[Lean.Grind.Field F](φ : Po F):Prop:=∀t,φ t≠0->∀x∈t,x<5960
theorem zx4{F:Type}[Lean.Grind.Field F]{n:Int}{m:Nat}{H:Hp}{kvs:List (List Key×V)}{φ : Po F}(m1:1<=m)(m4:m<=4)(h:PF n m H kvs φ)(hp:Pw6 φ):HDs kvs:=by
 refine⟨tms kvs,h.keys,List.pairwise_map.mpr (List.Pairwise.imp_of_mem (fun{a b} ha hb' ne e=>ne ?_) h.tnd)⟩;have na:=h.tmem.mp ha;have nb:=h.tmem.mp hb';have ta:T0 m a:=by
  obtain⟨p,hp,rfl⟩:=Jh.mp ha;obtain⟨t,e,t0⟩:=h.ks p hp;rw[e,zjq];exact t0
 have tb:T0 m b:=by
  obtain⟨p,hp,rfl⟩:=Jh.mp hb';obtain⟨t,e,t0⟩:=h.ks p hp;rw[e,zjq];exact t0
 refine HL.hsI_inj (λz=>?_) (by rw[ta.len];exact m4) (by rw[ta.len,tb.len]) (λx hx=>⟨ta.mem x hx,hp a na x hx⟩) (λx hx=>⟨tb.mem x hx,hp b nb x hx⟩) e;have:=ta.len;rw[z]at this;simp at this;omega
def zwm:Sp:=λvs H Q _=>∃(F:Type) (_:Lean.Grind.Field F) (n:Int) (_:Chr n F) (m:Nat) (a b:Addr) (kf kg:List (List Key×V)) (φ ψ : Po F),vs=[.int n,.ref a,.ref b]/\(n=0\/Pr n)/\1<=m/\m<=4/\H a=some (.dT kf)/\H b=some (.dT kg)/\PF n m H kf φ/\PF n m H kg ψ/\Pw6 φ/\(∀t,Lim n 4000 (φ t))/\(∀t,Lim n 4000 (ψ t))/\kf.length+kg.length<1000000 /\
 ∀d H' kv,H d=none->Same H H'->H' d=some (.dT kv)->PF n m H' kv (λt=>φ t + ψ t)->kv.length<=kf.length+kg.length->Q (.ref d) H'
def zs6:Sp:=λvs H Q _=>∃(F:Type) (_:Lean.Grind.Field F) (n:Int) (_:Chr n F) (m:Nat) (a:Addr) (kf:List (List Key×V)) (φ : Po F),vs=[.int n,.ref a]/\(n=0\/Pr n)/\n<=9973/\H a=some (.dT kf)/\PF n m H kf φ/\(∀t,Lim n 4000 (φ t))/\kf.length<1000000 /\
 ∀d H' kv,H d=none->Same H H'->H' d=some (.dT kv)->PF n m H' kv (λt => - φ t)->kv.length<=kf.length->Q (.ref d) H'
def zwc(K:W.Frag):Sp:=λvs H Q _=>∃(F:Type) (_:Lean.Grind.Field F) (n:Int) (_:Chr n F) (m:Nat) (a b:Addr) (kf kg:List (List Key×V)) (φ ψ : Po F),vs=[.int n,.ref a,.ref b]/\(n=0\/Pr n)/\n<=9973/\m<=4/\a≠b/\H a=some (.dT kf)/\H b=some (.dT kg)/\PF n m H kf φ/\PF n m H kg ψ/\(∀t,Lim n 4000 (φ t))/\(∀t,Lim n 4000 (ψ t))/\(∀o t,Lim n 4000 (φ o * ψ t))/\(∀i t,Lim n 4000 (mul ((tms kf).take i) φ ψ t))/\kf.length*kg.length<1000000 /\
 ∀d H' kv,H d=none->Same H H'->H' d=some (.dT kv)->PF n m H' kv (mul (tms kf) φ ψ)->kv.length<=kf.length*kg.length->Q (.ref d) H'
theorem vdec{a b:Int}:decide (V.int a=V.int b)=decide (a=b):=decide_eq_decide.mpr ⟨λh=>by injection h,λh=>by rw[h]⟩
def zxw:Sp:=λvs H Q _=>∃(n b:Int),vs=[.int n,.int b]/\(n=0\/Pr n)/\Q (.bl (decide (zr n b))) H
def zvy:Sp:=λvs H Q _=>∃(F:Type) (_:Lean.Grind.Field F) (n:Int) (_:Chr n F) (t b:Int),vs=[.int n,.int t,.int b]/\(n=0\/Pr n)/\n<=9973/\1<=b/\b.natAbs<2^8900/\ic (F:=F) b≠0/\∀v (x:F) H',x*ic b=ic t->Same H H'->Rep n H' v x->Q v H'
structure En where
 d:Addr
 x:Str
 kd:Int
 dp:Int
 lo:Bool
 pt:Pt
 ps:List Pt
def En.fv(m:Nat)(e:En):Fv:=fvS m (e.pt::e.ps)
def EnV(m:Nat)(e:En):List V:=[.str e.x,.int e.kd,.int e.dp,.ref e.d,.bl e.lo,.int ((e.fv m).length:Nat)]
structure EnT(n:Int)(m:Nat)(e:En):Prop where
 k:e.kd=0\/e.kd=1\/e.kd=2
 k1:e.kd≠2->e.ps=[]/\e.pt.ng=false
 tx:flt e.x.cps.toList=psT e.pt e.ps
 fc:∀p∈e.pt::e.ps,∀f∈p.fs,Fac m e.dp.toNat f
 d0:0<=e.dp
 lo:e.lo=true↔bad n (btS (e.pt::e.ps))
 pc:(e.fv m).length<=40*e.x.length
def Pl{F:Type}[Lean.Grind.Field F](k:Nat)(φ : Po F):Prop:=∀t,φ t≠0->∀x∈t,5*x<=99*((k:Int)+1)
structure EnD(F:Type)[Lean.Grind.Field F](n:Int)(m:Nat)(H:Hp)(e:En)(kvs:List (List Key×V))(φ : Po F):Prop where
 h:H e.d=some (.dT kvs)
 pf:PF n m H kvs φ
 bd:Bd n e.x.length φ
 pl:Pl e.x.length φ
 ln:kvs.length<=(e.fv m).length
 vl:e.lo=false->φ = val (e.fv m)
def Ent(F:Type)[Lean.Grind.Field F](n:Int)(m:Nat)(H:Hp)(e:En)(v:V):Prop:=(∃q,v=.ref q/\H q=some (.tup (EnV m e)))/\EnT n m e/\∃kvs φ,EnD F n m H e kvs φ
theorem EnD.same{F:Type}[Lean.Grind.Field F]{n:Int}{m:Nat}{H H':Hp}{e:En}{kvs:List (List Key×V)}{φ : Po F}(s:Same H H')(h:EnD F n m H e kvs φ):EnD F n m H' e kvs φ:={ h with h:=s _ _ h.h,pf:=h.pf.same s }
theorem Ent.same{F:Type}[Lean.Grind.Field F]{n:Int}{m:Nat}{H H':Hp}{e:En}{v:V}(s:Same H H')(h:Ent F n m H e v):Ent F n m H' e v:=by
 obtain⟨⟨q,e1,e2⟩,t,kvs,φ,d⟩:=h;exact⟨⟨q,e1,s _ _ e2⟩,t,kvs,φ,d.same s⟩
theorem zfp{m:Nat}:∀{n:Nat} {s:Sm},Fac m n s->SOk m s:=by
 have lf:∀{s:Sm},Lf m s->SOk m s:=fun{s} h=>by
  have one:∀{tx bt:List Nat} {a:Int} {b:Nat} {u:List Int},1<=tx.length->T0 m u->(∀{n:Int} {F:Type} [Lean.Grind.Field F] [Chr n F],¬bad n bt->ic (F:=F) (b:Int)≠0)->SOk m ⟨tx,bt,[(a,b,u)]⟩:=λh1 h2 h3=>⟨h1,by simp,λx hx=>by rw[Yq.mp hx];exact h2,fun{n F} _ _ nb x hx=>by rw[Yq.mp hx];exact h3 (n:=n) nb⟩
  rcases h with⟨ds,d,rfl⟩ | ⟨ds,d2,d,e,rfl⟩ | ⟨k,hk,rfl⟩ | ⟨k,ds,hk,d,rfl⟩
  ·exact one (List.length_pos_iff.mpr d.1) (T0.zer m) fun{n F} _ _ _=>zfi
  ·refine one (by rw[Y6,Y5];omega) (T0.zer m) fun{n F} _ _ nb z=>nb ⟨dgv d2,by simp,(Chr.z (n:=n) (F:=F) _).mp z⟩
  ·exact one (by simp) (zgy hk) fun{n F} _ _ _=>zfi
  ·exact one (by simp) (zgy hk) fun{n F} _ _ _=>zfi
 intro n;induction n with
 | zero=>exact λh=>lf h
 | succ n ih=>
  intro s h;rcases h with h | ⟨pt,ps,h,rfl⟩
  ·exact lf h
  ·have ok:∀p∈pt::ps,∀f∈p.fs,SOk m f:=λp hp f hf=>ih (h p hp f hf)
   refine⟨by simp,?_,znr ok,fun{n F} _ _ nb=>zkf (n:=n) ok nb⟩;have:=zut (ok pt (by simp));intro z;have e:(fvS m (pt::ps)).length=(ptF m pt++fvS m ps).length:=rfl;rw[show (fvS m (pt::ps)).length=0 by rw[show fvS m (pt::ps)=[] from z];rfl,Y6]at e;omega
theorem EnT.sok{n:Int}{m:Nat}{e:En}(h:EnT n m e):∀p∈e.pt::e.ps,∀f∈p.fs,SOk m f:=λp hp f hf=>zfp (h.fc p hp f hf)
theorem EnT.tf{n:Int}{m:Nat}{e:En}(h:EnT n m e):TF m (e.fv m):=znr h.sok
def brS(m:Nat)(e:En):Sm:=⟨40::(psT e.pt e.ps++[41]),btS (e.pt::e.ps),e.fv m⟩
def shE(m:Nat)(e:En):En:=⟨e.d,"(" ++ e.x ++ ")",0,e.dp+1,e.lo,⟨false,brS m e,[]⟩,[]⟩
theorem zf2{n:Int}{m:Nat}{e:En}(h:EnT n m e):(shE m e).fv m=e.fv m:=by
 show wF (oneF m 1) [e.fv m]++[]=_;rw[List.append_nil];exact zl9 h.tf
theorem zjo(c:Nat)(h:c≠32):flt [c]=[c]:=zgd (by simp;omega)
theorem cps1:("(" : Str).cps.toList=[40]/\(")" : Str).cps.toList=[41]/\("-" : Str).cps.toList=[45]/\("^" : Str).cps.toList=[94]/\("/" : Str).cps.toList=[47]:=by decide +kernel
theorem zcp(x y:Str):flt (x++y).cps.toList=flt x.cps.toList++flt y.cps.toList:=by rw[Str.cps_append,Array.toList_append,zj8]
theorem len1:("(" : Str).length=1/\(")" : Str).length=1/\("-" : Str).length=1/\("^" : Str).length=1/\("/" : Str).length=1:=by decide +kernel
theorem zb0(m:Nat)(e:En):(shE m e).x.length=e.x.length+2:=by
 show ("(" ++ e.x ++ ")" : Str).length=_;rw[Str.length_append,Str.length_append,len1.1,len1.2.1];omega
theorem zxi(m:Nat)(e:En):btS ((shE m e).pt::(shE m e).ps)=btS (e.pt::e.ps):=by
 show ([brS m e].flatMap Sm.bt)++[]=_;rw[List.append_nil,List.flatMap_singleton];rfl
theorem EnT.sh{n:Int}{m:Nat}{e:En}(h:EnT n m e):EnT n m (shE m e):=by
 refine⟨.inl rfl,λ_=>⟨Z,Z⟩,?_,?_,by have:=h.d0;show 0<=e.dp+1;omega,by rw[zxi];exact h.lo,by rw[zf2 h,zb0];have:=h.pc;omega⟩
 ·show flt ("(" ++ e.x ++ ")" : Str).cps.toList=_;rw[zcp,zcp,h.tx,cps1.1,cps1.2.1,zjo 40 (by decide),zjo 41 (by decide)];show _=[]++((40::(psT e.pt e.ps++[41]))++[])++[];simp
 ·intro p hp f hf;rw[Yq.mp hp]at hf;rw[Yq.mp (show f∈[brS m e] from hf)];have d0:=h.d0;rw[show (shE m e).dp.toNat=e.dp.toNat+1 by show (e.dp+1).toNat=_;omega];exact .inr ⟨e.pt,e.ps,h.fc,Z⟩
theorem Pl.up{F:Type}[Lean.Grind.Field F]{j k:Nat}{φ : Po F}(h:Pl j φ)(hk:j<=k):Pl k φ:=λt ht x hx=>by have:=h t ht x hx;omega
theorem EnD.sh{F:Type}[Lean.Grind.Field F]{n:Int}{m:Nat}{H:Hp}{e:En}{kvs:List (List Key×V)}{φ : Po F}(t:EnT n m e)(h:EnD F n m H e kvs φ):EnD F n m H (shE m e) kvs φ:=⟨h.h,h.pf,h.bd.up (by rw[zb0];omega),h.pl.up (by rw[zb0];omega),by rw[zf2 t];exact h.ln,λz=>by rw[zf2 t];exact h.vl z⟩
def zl7:Sp:=λvs H Q _=>∃(F:Type) (_:Lean.Grind.Field F) (n:Int) (m:Nat) (v:V) (e:En),vs=[v]/\Ent F n m H e v/\e.x.length<=1000/\∀v' H',Same H H'->Ent F n m H' (shE m e) v'->Q v' H'
theorem zq6{F:Type}[Lean.Grind.Field F]{n:Int}{k:Nat}{φ : Po F}(h:Bd n k φ):Bd n k (λt => - φ t):=λz=>by
 obtain⟨D,N,d0,d1,e,s⟩:=h z;refine⟨D,λt => - N t,d0,d1,λt=>?_,λS nd=>?_⟩
 ·show - φ t*ic D=ic (- N t);rw[show-N t=0-N t by omega,zfy,zb3,<- e];grind
 ·have:=s S nd;unfold asum at this ⊢;simpa using this
theorem bdL{F:Type}[Lean.Grind.Field F]{n:Int}{j k:Nat}{φ : Po F}(h:Bd n j φ)(hk:10^j<2^k)(t:List Int):Lim n k (φ t):=λz=>by
 obtain⟨D,N,d0,d1,e,s⟩:=h z;have a:=s [t] (by simp);have a:(N t).natAbs+0<=10^j:=by unfold asum at a;simpa using a
 exact⟨N t,D,d0,e t,by omega,by omega⟩
theorem p11{k:Nat}(h:k<=310):10^k<2^1100:=Yp (Yv (by decide) h) (by decide +kernel)
theorem p40{k:Nat}(h:k<=1200):10^k<2^4000:=Yp (Yv (by decide) h) (by decide +kernel)
theorem pl_6{F:Type}[Lean.Grind.Field F]{k:Nat}{φ : Po F}(h:Pl k φ)(hk:k<=300):Pw6 φ:=λt ht x hx=>by have:=h t ht x hx;omega
def sgF(b:Bool)(l:Fv):Fv:=if b then l.map (λx=>(-1*x.1,x.2)) else l
theorem zfk(b:Bool)(l:Fv):(sgF b l).length=l.length:=by unfold sgF;split;exact Yd _;rfl
def plain(e:En):Prop:=e.ps=[]/\e.pt.ng=false
theorem zx3{m:Nat}{e:En}(h:plain e):e.fv m=ptF m e.pt:=by
 unfold En.fv;rw[h.1];show ptF m e.pt++[]=_;rw[List.append_nil]
theorem zv5{n:Int}{m:Nat}{e:En}(t:EnT n m e)(h:plain e)(b:Bool):ptF m ⟨b,e.pt.f,e.pt.r⟩=sgF b (e.fv m):=by
 have fe:e.fv m=wF (oneF m 1) (e.pt.fs.map Sm.fv):=by
  rw[zx3 h];show wF (oneF m (tnI e.pt.ng)) _=_;rw[h.2];rfl
 have tf:∀f∈e.pt.fs.map Sm.fv,TF m f:=λf hf=>by obtain⟨s,hs,rfl⟩:=zf5 hf;exact(t.sok e.pt (by simp) s hs).tf
 show wF (oneF m (tnI b)) (e.pt.fs.map Sm.fv)=_;rw[wF_s tf,<- fe]
 cases b with
 | false=>exact zl9 t.tf
 | true=>exact zkv t.tf
theorem zqt{n:Int}{m:Nat}{e:En}(t:EnT n m e)(h:plain e):flt e.x.cps.toList=ptT e.pt:=by
 rw[t.tx,h.1];unfold psT;rw[h.2];show []++ptT e.pt++[]=_;simp
theorem zru{F:Type}[Lean.Grind.Field F](b:Bool)(l:Fv)(t:List Int):val (F:=F) (sgF b l) t=if b then-val l t else val l t:=by
 unfold sgF;cases b with
 | false=>rfl
 | true=>exact zs8 t
structure Sh2(m:Nat)(e f:En):Prop where
 pl:plain f
 d:f.d=e.d
 l:f.x.length<=e.x.length+2
 l1:e.x.length<=f.x.length
 lo:f.lo=e.lo
 fv:f.fv m=e.fv m
def mxI(a b:Int):Int:=if b > a then b else a
def suE(b:Bool)(sg:Str)(d:Addr)(e f:En):En:=⟨d,e.x++sg++f.x,2,mxI e.dp f.dp,e.lo||f.lo,e.pt,e.ps++[⟨b,f.pt.f,f.pt.r⟩]⟩
def prE(sg:Str)(d:Addr)(e f:En):En:=⟨d,e.x++sg++f.x,1,mxI e.dp f.dp,e.lo||f.lo,⟨false,e.pt.f,e.pt.r++(f.pt.f::f.pt.r)⟩,[]⟩
def tuE(d:Addr)(e:En):En:=⟨d,"-" ++ e.x,2,e.dp,e.lo,⟨true,e.pt.f,e.pt.r⟩,[]⟩
theorem zn6{n:Int}{a b:List Nat}:bad n (a++b)↔bad n a\/bad n b:=by
 unfold bad;constructor
 ·rintro⟨x,hx,z⟩;rcases Jr.mp hx with h | h
  ·exact .inl ⟨x,h,z⟩
  ·exact .inr ⟨x,h,z⟩
 ·rintro(⟨x,hx,z⟩ | ⟨x,hx,z⟩)
  ·exact⟨x,Jr.mpr (.inl hx),z⟩
  ·exact⟨x,Jr.mpr (.inr hx),z⟩
theorem zpd{e:En}(h:plain e):btS (e.pt::e.ps)=e.pt.fs.flatMap Sm.bt:=by rw[h.1];show _++[]=_;rw[List.append_nil]
theorem zpz{m:Nat}{a b:Int}{s:Sm}(h:Fac m a.toNat s\/Fac m b.toNat s):Fac m (mxI a b).toNat s:=by
 unfold mxI;rcases h with h | h
 ·exact h.up (by split <;> omega)
 ·exact h.up (by split <;> omega)
theorem mx_0{a b:Int}(h:0<=a):0<=mxI a b:=by unfold mxI;split <;> omega
theorem zkz{n:Int}{m:Nat}{b:Bool}{sg:Str}{d:Addr}{e f:En}(t:EnT n m f)(h:plain f):(suE b sg d e f).fv m=e.fv m++sgF b (f.fv m):=by
 show fvS m (e.pt::(e.ps++[⟨b,f.pt.f,f.pt.r⟩]))=_;rw[<- zv5 t h b];unfold En.fv fvS;rw[<- List.cons_append,List.flatMap_append];simp
theorem len3(a b c:Str):(a++b++c:Str).length=a.length+b.length+c.length:=by rw[Str.length_append,Str.length_append]
theorem EnT.su{n:Int}{m:Nat}{b:Bool}{sg:Str}{d:Addr}{e f:En}(te:EnT n m e)(tf:EnT n m f)(h:plain f)(hs:flt sg.cps.toList=[if b then 45 else 43]):EnT n m (suE b sg d e f):=by
 refine⟨.inr (.inr rfl),λz=>absurd rfl z,?_,?_,mx_0 te.d0,?_,?_⟩
 ·show flt (e.x++sg++f.x:Str).cps.toList=psT e.pt (e.ps++[⟨b,f.pt.f,f.pt.r⟩]);rw[zcp,zcp,te.tx,hs,zqt tf h];unfold psT;rw[zj9,<- List.append_assoc,List.append_assoc (_++_) _ (ptT f.pt)];rfl
 ·intro p hp g hg;have hp:p∈e.pt::(e.ps++[⟨b,f.pt.f,f.pt.r⟩]):=hp;rw[<- List.cons_append]at hp;rcases Jr.mp hp with hp | hp
  ·exact zpz (.inl (te.fc p hp g hg))
  ·rw[Yq.mp hp]at hg;exact zpz (.inr (tf.fc f.pt (by simp) g hg))
 ·show (e.lo||f.lo)=true↔bad n (btS (e.pt::(e.ps++[⟨b,f.pt.f,f.pt.r⟩])));have:btS (e.pt::(e.ps++[⟨b,f.pt.f,f.pt.r⟩]))=btS (e.pt::e.ps)++btS (f.pt::f.ps):=by
   rw[zpd h];unfold btS;rw[<- List.cons_append,List.flatMap_append];simp[Pt.fs]
  rw[this,zn6,Bool.or_eq_true,te.lo,tf.lo]
 ·rw[zkz tf h,Y6,zfk];show _<=40*(e.x++sg++f.x:Str).length;rw[len3];have:=te.pc;have:=tf.pc;omega
theorem EnD.su{F:Type}[Lean.Grind.Field F]{n:Int}[Chr n F]{m:Nat}{b:Bool}{sg:Str}{d:Addr}{e f:En}{H:Hp}{kv:List (List Key×V)}{k1 k2:List (List Key×V)}{φ ψ χ : Po F}(tf:EnT n m f)(h:plain f)(hs:1<=sg.length)(de:EnD F n m H e k1 φ)(df:EnD F n m H f k2 ψ)(hχ : ∀t,χ t = φ t+if b then - ψ t else ψ t)(hd:H d=some (.dT kv))(pf:PF n m H kv χ)(hl:kv.length<=k1.length+k2.length):EnD F n m H (suE b sg d e f) kv χ:=by
 have lx:(suE b sg d e f).x.length=e.x.length+sg.length+f.x.length:=len3 _ _ _;have eχ : χ = λt=>φ t+if b then - ψ t else ψ t:=funext hχ
 refine⟨hd,pf,?_,?_,?_,?_⟩
 ·rw[lx,eχ]
  cases b with
  | false=>exact(de.bd.add df.bd).up (by omega)
  | true=>exact(de.bd.add (zq6 df.bd)).up (by omega)
 ·rw[lx];intro t ht x hx;rw[hχ]at ht;by_cases c : φ t=0
  ·have c2 : ψ t≠0:=λz=>ht (by rw[c,z];split <;> grind)
   exact(df.pl.up (by omega)) t c2 x hx
  ·exact(de.pl.up (by omega)) t c x hx
 ·rw[zkz tf h,Y6,zfk];have:=de.ln;have:=df.ln;omega
 ·intro z;have z:(e.lo||f.lo)=false:=z;rw[Bool.or_eq_false_iff]at z;rw[zkz tf h,eχ,de.vl z.1,df.vl z.2]
  funext t
  rw[zjk,zru]
theorem zka{n:Int}{m:Nat}{sg:Str}{d:Addr}{e f:En}(te:EnT n m e)(tf:EnT n m f)(he:plain e)(hf:plain f):(prE sg d e f).fv m=mulF (e.fv m) (f.fv m):=by
 have fe:∀{e:En},plain e->e.fv m=wF (oneF m 1) (e.pt.fs.map Sm.fv):=fun{e} h=>by
  rw[zx3 h];show wF (oneF m (tnI e.pt.ng)) _=_;rw[h.2];rfl
 have tfs:∀{e:En},EnT n m e->∀f∈e.pt.fs.map Sm.fv,TF m f:=fun{e} t f hf=>by obtain⟨s,hs,rfl⟩:=zf5 hf;exact(t.sok e.pt (by simp) s hs).tf
 rw[fe he,fe hf,<- zui (tfs tf) (tfs te),<- List.map_append];show wF (oneF m 1) ((e.pt.f::(e.pt.r++(f.pt.f::f.pt.r))).map Sm.fv)++[]=_;rw[List.append_nil];rfl
theorem EnT.pr{n:Int}{m:Nat}{sg:Str}{d:Addr}{e f:En}(te:EnT n m e)(tf:EnT n m f)(he:plain e)(hf:plain f)(hs:flt sg.cps.toList=[42])(h1:1<=sg.length)(h40:(e.fv m).length*(f.fv m).length<=40):EnT n m (prE sg d e f):=by
 refine⟨.inr (.inl rfl),λ_=>⟨Z,Z⟩,?_,?_,mx_0 te.d0,?_,?_⟩
 ·show flt (e.x++sg++f.x:Str).cps.toList=[]++(e.pt.f.tx++fsR (e.pt.r++(f.pt.f::f.pt.r)))++[];rw[zcp,zcp,zqt te he,hs,zqt tf hf];unfold ptT fsR;rw[List.flatMap_append];simp
 ·intro p hp g hg;rw[Yq.mp (show p∈[_] from hp)]at hg;have hg:g∈e.pt.f::(e.pt.r++(f.pt.f::f.pt.r)):=hg;rw[<- List.cons_append]at hg;rcases Jr.mp hg with hg | hg
  ·exact zpz (.inl (te.fc e.pt (by simp) g hg))
  ·exact zpz (.inr (tf.fc f.pt (by simp) g hg))
 ·show (e.lo||f.lo)=true↔bad n (((e.pt.f::(e.pt.r++(f.pt.f::f.pt.r))).flatMap Sm.bt)++[]);rw[List.append_nil,<- List.cons_append,List.flatMap_append,zn6,Bool.or_eq_true,te.lo,tf.lo,zpd he,zpd hf];rfl
 ·rw[zka te tf he hf,zc3];show _<=40*(e.x++sg++f.x:Str).length;rw[len3];omega
theorem EnD.pr{F:Type}[Lean.Grind.Field F]{n:Int}[Chr n F]{m:Nat}{sg:Str}{d:Addr}{e f:En}{H:Hp}{kv k1 k2:List (List Key×V)}{φ ψ : Po F}(te:EnT n m e)(tf:EnT n m f)(he:plain e)(hf:plain f)(h1:1<=sg.length)(de:EnD F n m H e k1 φ)(df:EnD F n m H f k2 ψ)(hd:H d=some (.dT kv))(pf:PF n m H kv (mul (tms k1) φ ψ))(hl:kv.length<=k1.length*k2.length):EnD F n m H (prE sg d e f) kv (mul (tms k1) φ ψ):=by
 have lx:(prE sg d e f).x.length=e.x.length+sg.length+f.x.length:=len3 _ _ _;refine⟨hd,pf,?_,?_,?_,?_⟩
 ·rw[lx];exact(de.bd.mul df.bd de.pf.tnd).up (by omega)
 ·rw[lx];intro t ht x hx;obtain⟨o,ho,n1,n2⟩:=zwf ht;have spf:Spt m ψ:=λt ht=>by
   obtain⟨p,hp,rfl⟩:=Jh.mp (df.pf.tmem.mpr ht);obtain⟨u,e,u0⟩:=df.pf.ks p hp;rw[e,zjq];exact u0
  have o0:T0 m o:=by
   obtain⟨p,hp,rfl⟩:=Jh.mp ho;obtain⟨u,e,u0⟩:=de.pf.ks p hp;rw[e,zjq];exact u0
  obtain⟨_,_,n3,et⟩:=zyi o0 spf n2;rw[et]at hx;obtain⟨i,hi⟩:=List.getElem?_of_mem hx;have li:(addT o (subT t o)).getD i 0=x:=by rw[List.getD_eq_getElem?_getD,hi];rfl
  have s0:=spf _ n3;rw[zeh (by rw[o0.len,s0.len])]at li;have il:i<m:=by
   have:=(List.getElem?_eq_some_iff.mp hi).1;rw[zby (by rw[o0.len,s0.len]),o0.len]at this;exact this
  have m1:o.getD i 0∈o:=by rw[List.getD_eq_getElem?_getD,Yc (by rw[o0.len];exact il)];exact Js _
  have m2:(subT t o).getD i 0∈subT t o:=by rw[List.getD_eq_getElem?_getD,Yc (by rw[s0.len];exact il)];exact Js _
  have a:=de.pl o n1 _ m1;have b:=df.pl _ n3 _ m2;omega
 ·rw[zka te tf he hf,zc3];exact Yr hl (Nat.mul_le_mul de.ln df.ln)
 ·intro z;have z:(e.lo||f.lo)=false:=z;rw[Bool.or_eq_false_iff]at z;have nb1:¬bad n (btS (e.pt::e.ps)):=λq=>by have:=te.lo.mpr q;rw[z.1]at this;cases this
  have nb2:¬bad n (btS (f.pt::f.ps)):=λq=>by have:=tf.lo.mpr q;rw[z.2]at this;cases this
  rw[zka te tf he hf,df.vl z.2];have hv:=de.vl z.1;rw[<- zl8 (F:=F) de.pf.tnd (λt ht=>de.pf.tmem.mpr (by rw[hv];exact ht)) te.tf tf.tf (zkf (n:=n) te.sok nb1) (zkf (n:=n) tf.sok nb2),hv]
theorem zlc{n:Int}{m:Nat}{d:Addr}{e:En}(te:EnT n m e)(he:plain e):(tuE d e).fv m=sgF true (e.fv m):=by
 rw[<- zv5 te he true];show ptF m ⟨true,e.pt.f,e.pt.r⟩++[]=_;rw[List.append_nil]
theorem zhk(d:Addr)(e:En):(tuE d e).x.length=1+e.x.length:=by
 show ("-" ++ e.x:Str).length=_;rw[Str.length_append,len1.2.2.1]
theorem EnT.tu{n:Int}{m:Nat}{d:Addr}{e:En}(te:EnT n m e)(he:plain e):EnT n m (tuE d e):=by
 refine⟨.inr (.inr rfl),λz=>absurd rfl z,?_,?_,te.d0,?_,?_⟩
 ·show flt ("-" ++ e.x:Str).cps.toList=[45]++(e.pt.f.tx++fsR e.pt.r)++[];rw[zcp,zqt te he,cps1.2.2.1,zjo 45 (by decide),List.append_nil];rfl
 ·intro p hp g hg;rw[Yq.mp (show p∈[_] from hp)]at hg;exact te.fc e.pt (by simp) g hg
 ·show e.lo=true↔bad n (((e.pt.f::e.pt.r).flatMap Sm.bt)++[]);rw[List.append_nil,te.lo,zpd he];rfl
 ·rw[zlc te he,zfk,zhk];have:=te.pc;omega
theorem EnD.tu{F:Type}[Lean.Grind.Field F]{n:Int}{m:Nat}{d:Addr}{e:En}{H:Hp}{kv k1:List (List Key×V)}{φ : Po F}(te:EnT n m e)(he:plain e)(de:EnD F n m H e k1 φ)(hd:H d=some (.dT kv))(pf:PF n m H kv (λt => - φ t))(hl:kv.length<=k1.length):EnD F n m H (tuE d e) kv (λt => - φ t):=by
 refine⟨hd,pf,(zq6 de.bd).up (by rw[zhk];omega),λt ht x hx=>?_,?_,λz=>?_⟩
 ·rw[zhk];have c : φ t≠0:=λz=>ht (by rw[z];grind)
  exact(de.pl.up (by omega)) t c x hx
 ·rw[zlc te he,zfk];exact Yr hl de.ln
 ·rw[zlc te he,de.vl z]
  funext t
  rw[zru];rfl
theorem zw1{ta tb:TE}{σ : St}{H:Hp}{Q:VK}(a b:Bool)(h1:∀Q':VK,Q' (.bl a) H->ta σ H Q')(h2:∀Q':VK,Q' (.bl b) H->tb σ H Q')(h:Q (.bl (a||b)) H):tOrV ta tb σ H Q:=h1 _ ⟨a,Z,by
 cases a with
 | true=>exact h
 | false=>exact h2 _ h⟩
def spSu:Sp:=λvs H Q _=>∃(F:Type) (_:Lean.Grind.Field F) (n:Int) (_:Chr n F) (m:Nat) (sg:Str) (b:Bool) (v1 v2:V) (e f:En),vs=[.int n,.str sg,v1,v2]/\(n=0\/Pr n)/\n<=9973/\1<=m/\m<=4/\Ent F n m H e v1/\Ent F n m H f v2/\e.x.length<=300/\f.x.length<=300/\flt sg.cps.toList=[if b then 45 else 43]/\(!(Builtin.Str.occurrences sg "-" 0 sg.length 1).isEmpty)=b/\1<=sg.length/\sg.length<=8 /\
 ∀v g H',Same H H'->Ent F n m H' g v->H g.d=none->g.x.length<=1000->Q v H'
def spPd:Sp:=λvs H Q _=>∃(F:Type) (_:Lean.Grind.Field F) (n:Int) (_:Chr n F) (m:Nat) (sg:Str) (v1 v2:V) (e f:En),vs=[.int n,.str sg,v1,v2]/\(n=0\/Pr n)/\n<=9973/\1<=m/\m<=4/\Ent F n m H e v1/\Ent F n m H f v2/\e.d≠f.d/\e.x.length<=300/\f.x.length<=300/\flt sg.cps.toList=[42]/\1<=sg.length/\sg.length<=8/\(e.fv m).length*(f.fv m).length<=40 /\
 ∀v g H',Same H H'->Ent F n m H' g v->H g.d=none->g.x.length<=1000->Q v H'
def spTu:Sp:=λvs H Q _=>∃(F:Type) (_:Lean.Grind.Field F) (n:Int) (_:Chr n F) (m:Nat) (v1:V) (e:En),vs=[.int n,v1]/\(n=0\/Pr n)/\n<=9973/\1<=m/\m<=4/\Ent F n m H e v1/\e.x.length<=300 /\
 ∀v g H',Same H H'->Ent F n m H' g v->H g.d=none->g.x.length<=1000->Q v H'
theorem zrm{a:Int}(h:a.natAbs<2^500):a.natAbs.log2<1920:=by
 by_cases c:a.natAbs=0
 ·rw[c];decide
 ·exact(Nat.log2_lt c).mpr (Yf h (Yv (by decide) (by decide)))
def dgs(n:Nat):List Nat:=(Nat.toDigits 10 n).map Char.toNat
theorem zx6(n:Nat):∀c∈dgs n,isD c=true:=λc hc=>by
 obtain⟨ch,hch,e⟩:=Jh.mp hc;have r:=PyProof.Rows.digit_range (Nat.isDigit_of_mem_toDigits (by decide) (by decide) hch);subst e;unfold isD;rw[Yo r.1,Yo r.2];rfl
theorem zxo(n:Nat):dgs n≠[]:=λz=>by
 have h:=PySem.toDigits_len_ge 10 n;rw[List.map_eq_nil_iff.mp z]at h;exact absurd h (by decide)
theorem ztz(n:Nat):PySem.NumText.digitsVal (dgs n)=n:=W.KIN.val_back n
theorem zmk:∀(k n:Nat),n<10^(k+1)->(dgs n).length<=k+1
 | 0,n,h=>by
  unfold dgs;rw[Nat.toDigits_of_lt_base (by simpa using h)];simp
 | k+1,n,h=>by
  by_cases c:n<10
  ·unfold dgs;rw[Nat.toDigits_of_lt_base c];simp
  ·have hm:n%10<10:=Nat.mod_lt n (by decide);have t:Nat.toDigits 10 (n / 10)++Nat.toDigits 10 (n%10)=Nat.toDigits 10 (10*(n / 10)+n%10):=Nat.toDigits_append_toDigits (by decide) (by omega) hm;rw[Nat.div_add_mod]at t;have ih:=zmk k (n / 10) (by rw[Nat.pow_succ]at h;omega);unfold dgs at ih ⊢;rw[<- t,List.map_append,Y6,Nat.toDigits_of_lt_base hm];show _+1<=_;omega
abbrev sI(i:Int):Str:=toString i
theorem zii(a:Nat):(sI (a:Int)).cps.toList=dgs a:=by
 have e:(sI (a:Int)).cps.toList=_:=Jt (λs:Str=>s.cps.toList) (PyProof.Rows.text_ofNat a);rw[e];simp[dgs]
theorem zjj(x:Str):x.cps.toList.length=x.length:=Array.length_toList
theorem dg_n(k a:Nat)(h:a<10^(k+1)):Dg (k+1) (dgs a):=⟨zxo a,zmk k a h,zx6 a⟩
theorem zpe{k:Nat}{ds:List Nat}(h:Dg k ds):flt ds=ds:=zgd λz=>by have:=h.2.2 32 z;cases this
theorem zuy:∀k<4,("xyzt" : Str).cps.toList[k]? = some (ltc k)/\ltc k≠32:=by decide +kernel
def leE(d:Addr)(x:Str)(lo:Bool)(s:Sm):En:=⟨d,x,0,0,lo,⟨false,s,[]⟩,[]⟩
theorem ziq{m:Nat}{d:Addr}{x:Str}{lo:Bool}{s:Sm}(h:TF m s.fv):(leE d x lo s).fv m=s.fv:=by
 show wF (oneF m 1) [s.fv]++[]=_;rw[List.append_nil];exact zl9 h
theorem EnT.le{n:Int}{m:Nat}{d:Addr}{x:Str}{lo:Bool}{s:Sm}(h:Lf m s)(hx:flt x.cps.toList=s.tx)(hl:lo=true↔bad n s.bt)(h1:s.fv.length<=40*x.length):EnT n m (leE d x lo s):=by
 refine⟨.inl rfl,λ_=>⟨Z,Z⟩,?_,λp hp f hf=>?_,Int.le_refl 0,?_,?_⟩
 ·show flt x.cps.toList=[]++(s.tx++[])++[];rw[hx];simp
 ·rw[Yq.mp (show p∈[_] from hp)]at hf;rw[Yq.mp (show f∈[s] from hf)];exact Fac.lf h
 ·show lo=true↔bad n ((s.bt++[])++[]);rw[List.append_nil,List.append_nil];exact hl
 ·rw[ziq (zfp (n:=0) h).tf];exact h1
def zvl:Sp:=λvs H Q _=>∃(F:Type) (_:Lean.Grind.Field F) (n:Int) (_:Chr n F) (m:Nat) (c:Int),vs=[.int n,.int m,.int c]/\(n=0\/Pr n)/\1<=m/\m<=4/\∀v g H',Same H H'->Ent F n m H' g v->H g.d=none->g.x.length<=300->g.dp=0->Q v H'
theorem ztm(k:Nat)(l:List Nat):dgv (List.replicate k 48++l)=dgv l:=by
 unfold dgv PySem.NumText.digitsVal;rw[List.foldl_append];congr 1;induction k with
 | zero=>rfl
 | succ k ih=>rw[List.replicate_succ,List.foldl_cons];exact ih
theorem zf_l{x:Str}{c:Nat}{r:List Nat}(ex:x.cps.toList=c::r)(n43:c≠43)(n45:c≠45)(k:Nat):(zfilled x k).cps.toList=List.replicate k 48++x.cps.toList:=by
 have e0:x.cps[0]? = some c:=by rw[<- Array.getElem?_toList,ex];rfl
 unfold zfilled;rw[e0];split
 ·rename_i z;injection z with z;exact absurd z n43
 ·rename_i z;injection z with z;exact absurd z n45
 ·unfold Builtin.Str.padded;simp
theorem zf_x{x:Str}{ds:List Nat}(d:Dg 30 ds)(hx:x.cps.toList=ds)(i:Int)(hi:i<=4):∃es,Dg 30 es/\(Txt.zfill x i).cps.toList=es/\dgv es=dgv ds/\(Txt.zfill x i).length<=30:=by
 have l0:x.length=ds.length:=by rw[<- zjj,hx]
 unfold Txt.zfill;split
 ·exact⟨ds,d,hx,Z,by rw[l0];exact d.2.1⟩
 ·obtain⟨y,r,ey⟩:=List.exists_cons_of_ne_nil d.1;have hy:=d.2.2 y (by rw[ey];simp);have e:=zf_l (hx.trans ey) (λz=>by rw[z]at hy;cases hy) (λz=>by rw[z]at hy;cases hy) (i.toNat-x.length);rw[hx]at e;generalize zfilled x (i.toNat-x.length)=w at e;have d2:=d.2.1;refine⟨_,⟨λz=>d.1 (List.append_eq_nil_iff.mp z).2,?_,λy hy=>?_⟩,e,ztm _ _,?_⟩
  ·rw[Y6,List.length_replicate,l0];omega
  ·rcases Jr.mp hy with h | h
   ·rw[List.eq_of_mem_replicate h];rfl
   ·exact d.2.2 y h
  ·rw[<- zjj,e,Y6,List.length_replicate,l0];omega
theorem zys(a:Nat)(ha:a<10^30)(i:Int)(hi:i<=4):∃ds,Dg 30 ds/\(Txt.zfill (sI (a:Int)) i).cps.toList=ds/\dgv ds=a/\(Txt.zfill (sI (a:Int)) i).length<=30:=by
 obtain⟨es,h1,h2,h3,h4⟩:=zf_x (dg_n 29 a ha) (zii a) i hi;exact⟨es,h1,h2,h3.trans (ztz a),h4⟩
theorem tabT{r:Int}(h0:0<=r)(h1:r<3)(N:Int)(hN:1<=N)(hb:N<=10^30):∃v:Int,1<=v/\v<=10^30/\atI [V.int 10,V.int 100,V.int N] r=some (.int v):=by
 rcases(by omega:r=0\/r=1\/r=2) with h | h | h <;> subst h
 ·exact⟨10,by decide,by decide +kernel,Z⟩
 ·exact⟨100,by decide,by decide +kernel,Z⟩
 ·exact⟨N,hN,hb,Z⟩
def zwj:Sp:=λvs H Q _=>∃(F:Type) (_:Lean.Grind.Field F) (n:Int) (_:Chr n F) (m:Nat) (c o:Int) (low:Bool),vs=[.int n,.int m,.int c,.int o,.bl low]/\(n=0\/Pr n)/\n<=9973/\1<=m/\m<=4/\∀v g H',Same H H'->Ent F n m H' g v->H g.d=none->g.x.length<=300->g.dp=0->Q v H'
def opB:Option (List Nat)->List Nat
 | none=>[]
 | some d=>[dgv d]
theorem zki:∀k:Nat,(List.replicate k [V.int 0]).flatten=(zer k).map V.int
 | 0=>rfl
 | k+1=>by rw[List.replicate_succ,List.flatten_cons,zki k];rfl
theorem zue{tA tB:TT}{σ : St}{H:Hp}{Q:Bool->Hp->Prop}(b1 b2:Bool)(h1:∀Q':Bool->Hp->Prop,Q' b1 H->tA σ H Q')(h2:∀Q':Bool->Hp->Prop,Q' b2 H->tB σ H Q')(h:Q (b1&&b2) H):tAnd tA tB σ H Q:=h1 _ (by
 cases b1 with
 | true=>exact iteT (h2 _ h)
 | false=>exact iteF h)
theorem zry{a:Nat}(h:a<10^30):((a:Int)).natAbs.log2<1920:=zrm (Yf (show ((a:Int)).natAbs<10^30 by rw[Int.natAbs_natCast];exact h) (Yr (show 10^30<=2^101 by decide +kernel) (Yv (by decide) (by decide))))
theorem zw9{α : Type}(xs:List α)(u v : α):atI (xs++[u]++[v]) (-2)=some u:=by
 unfold atI ixN;have l:(xs++[u]++[v]).length=xs.length+2:=by simp
 rw[l,Yh (by decide),Yl (by omega)];show (xs++[u]++[v])[_]? = _;rw[show (-2+((xs.length+2:Nat):Int)).toNat=xs.length by omega];simp
theorem zjm{R:En->V->Prop}:∀{es:List En} {e:En} {ys:List V},Paired R (es++[e]) ys->∃zs v,ys=zs++[v]/\Paired R es zs/\R e v
 | [],e,_,.cons p .nil=>⟨[],_,rfl,.nil,p⟩
 | x::es,e,_,.cons p l=>by
  obtain⟨zs,v,rfl,h1,h2⟩:=zjm (es:=es) l;exact⟨_::zs,v,Z,.cons p h1,h2⟩
theorem zi3{α : Type}{l:List α}(h:l≠[]):∃a b,l=a++[b]:=⟨l.dropLast,l.getLast h,(List.dropLast_concat_getLast h).symm⟩
structure Pile(F:Type)[Lean.Grind.Field F](n:Int)(m:Nat)(H:Hp)(a:Addr)(es:List En):Prop where
 sq:∃ys,H a=some (.lst ys)/\Paired (Ent F n m H) es ys
 ne:es≠[]
 nd:(es.map En.d).Nodup
 xl:∀e∈es,e.x.length<=300/\e.dp<=8
def zuq:Sp:=λvs H Q _=>∃(F:Type) (_:Lean.Grind.Field F) (n:Int) (_:Chr n F) (m:Nat) (a:Addr) (c:Int) (pre:List En) (e:En),vs=[.int n,.ref a,.int c]/\(n=0\/Pr n)/\n<=9973/\1<=m/\m<=4/\Pile F n m H a (pre++[e]) /\
 ∀q v g (k:Nat) H',Same H H'->H' q=some (.tup [.int k,v])->Ent F n m H' g v->g.x.length<=1000->((k=1/\(g.d=e.d\/H g.d=none))\/(k=2/\pre≠[]/\H g.d=none))->Q (.ref q) H'
def zvt:Sp:=λvs H Q _=>∃(F:Type) (_:Lean.Grind.Field F) (n:Int) (m:Nat) (v:V) (g:En),vs=[v]/\Ent F n m H g v/\g.x.length<=1000/\∀b:Bool,(b=true->g.x.length<=300/\g.dp<=8)->Q (.bl b) H
def sgS(b:Bool):Str:=if b then "-" else "+"
structure Gap(s:Str):Prop where
 l:s.length<=2
 t:∀b:Bool,flt (s++sgS b++s).cps.toList=[if b then 45 else 43]/\(!(Builtin.Str.occurrences (s++sgS b++s) "-" 0 (s++sgS b++s).length 1).isEmpty)=b/\1<=(s++sgS b++s).length/\(s++sgS b++s).length<=8
 p:flt (s ++ "*").cps.toList=[42]/\1<=(s ++ "*").length/\(s ++ "*").length<=8
theorem gap_ok:Gap ""/\Gap " "/\Gap "  ":=⟨⟨by decide +kernel,by decide +kernel,by decide +kernel⟩,⟨by decide +kernel,by decide +kernel,by decide +kernel⟩,⟨by decide +kernel,by decide +kernel,by decide +kernel⟩⟩
theorem gap3{r:Int}(h0:0<=r)(h1:r<3):∃s:Str,atI [V.str "",V.str " ",V.str "  "] r=some (.str s)/\Gap s:=by
 rcases(by omega:r=0\/r=1\/r=2) with h | h | h <;> subst h
 ·exact⟨"",Z,gap_ok.1⟩
 ·exact⟨" ",Z,gap_ok.2.1⟩
 ·exact⟨"  ",Z,gap_ok.2.2⟩
theorem sgn2{r:Int}(h0:0<=r)(h1:r<2):∃b:Bool,atI [V.str "+",V.str "-"] r=some (.str (sgS b)):=by
 rcases(by omega:r=0\/r=1) with h | h <;> subst h
 ·exact⟨false,Z⟩
 ·exact⟨true,Z⟩
theorem zym(b:Bool):(sgS b).length=1:=by cases b <;> decide +kernel
theorem zxd:("*" : Str).length=1:=by decide +kernel
theorem rds3{K:W.Frag}{H:Hp}{l:Addr}{a b c:Bool}(h:H l=some (.lst [.bl a,.bl b,.bl c])):Rds K H (.ref l) (.list [.bool a,.bool b,.bool c]):=.lst (SqL.of h) (.cons (.bl a) (.cons (.bl b) (.cons (.bl c) .nil)))
theorem rds2{K:W.Frag}{H:Hp}{l:Addr}{a b:Str}(h:H l=some (.tup [.str a,.str b])):Rds K H (.ref l) (.tuple [.str a,.str b]):=.tup (SqT.of h) (.cons (.str a) (.cons (.str b) .nil))
theorem zrk{F:Type}[Lean.Grind.Field F]{n:Int}{m:Nat}{H:Hp}{kvs:List (List Key×V)}{φ : Po F}(h:PF n m H kvs φ){p:List Key×V}(hp:p∈kvs):∃t,p.1=ky t/\Rep n H p.2 (φ t):=by
 obtain⟨i,hi⟩:=List.getElem?_of_mem hp;obtain⟨t,e,_,_,r,_⟩:=h.ix hi;exact⟨t,e,r⟩
def zqn(K:W.Frag):Sp:=λvs H Q _=>∃(a:Addr) (ns:List Int),vs=[.ref a]/\SqL K H a (ns.map V.int)/\ns.length<=63/\∀H',Q (.bl true) H'
def spLR(CG CF CR CO CD CT CW:Addr):Sp:=λvs H Q _=>∃(F:Type) (_:Lean.Grind.Field F) (r:Addr) (x:Str) (g:RgD) (_:Chr g.n F) (pt:Pt) (ps:List Pt),vs=[.ref r,.str x]/\RgP CG CF CR CO CD CT CW H r g/\x.length<=300/\flt x.cps.toList=psT pt ps/\(∀p∈pt::ps,∀f∈p.fs,Fac g.m 8 f)/\(fvS g.m (pt::ps)).length<=12000/\(bad g.n (btS (pt::ps))->∀q H',Same H H'->H' q=some (.tup [.str "refused",.str "over"])->Q (.ref q) H')/\(¬bad g.n (btS (pt::ps))->∀q d kvs H',Same H H'->H' q=some (.tup [.str "told",.ref d])->H' d=some (.dT kvs)->PF g.n g.m H' kvs (val (F:=F) (fvS g.m (pt::ps)))->Q (.ref q) H')
theorem zyv(ns:List Int):∃cs:List Int,cutV (ns.map V.int) (some 3) (some 63)=cs.map V.int/\cs.length<=60:=by
 refine⟨(ns.drop (HT.sIx ns.length 0 (some 3))).take (HT.sIx ns.length ns.length (some 63)-HT.sIx ns.length 0 (some 3)),?_,?_⟩
 ·unfold cutV;rw[Yd,List.map_take,List.map_drop]
 ·have a1:HT.sIx ns.length 0 (some 3)=min 3 ns.length:=rfl;have a2:HT.sIx ns.length ns.length (some 63)=min 63 ns.length:=rfl;rw[List.length_take,List.length_drop,a1,a2];omega
theorem Ent.upL{F:Type}[Lean.Grind.Field F]{n:Int}{m:Nat}{H:Hp}{L:Addr}{ys:List V}{o:HO}{e:En}{v:V}(hL:H L=some (.lst ys))(h:Ent F n m H e v):Ent F n m (upd H L o) e v:=by
 obtain⟨⟨q,e1,e2⟩,t,kvs,φ,d⟩:=h;exact⟨⟨q,e1,(zal (zep e2 hL (by intro z;cases z))).trans e2⟩,t,kvs,φ,{ d with h:=(zal (zep d.h hL (by intro z;cases z))).trans d.h,pf:=d.pf.fix (zo5 hL) }⟩
theorem Pile.dk{F:Type}[Lean.Grind.Field F]{n:Int}{m:Nat}{H:Hp}:∀{es:List En} {ys:List V},Paired (Ent F n m H) es ys->∀e∈es,∃o,H e.d=some o
 | _,_,.nil,_,h=>nomatch h
 | _,_,.cons p l,e,h=>by
  rcases Yj.mp h with h | h
  ·obtain⟨_,_,kvs,φ,d⟩:=p;rw[h];exact⟨_,d.h⟩
  ·exact Pile.dk l e h
theorem ztj{xs:List V}{k:Nat}(h:k<=xs.length):cutV xs none (some (k:Int))=xs.take k:=by
 unfold cutV;rw[HT.sIx_nat,HT.sIx_none,List.drop_zero,Nat.sub_zero,Nat.min_eq_left h]
theorem zon{R:En->V->Prop}:∀(k:Nat) {es:List En} {ys:List V},Paired R es ys->Paired R (es.take k) (ys.take k)
 | 0,_,_,_=>by rw[List.take_zero,List.take_zero];exact .nil
 | k+1,_,_,.nil=>.nil
 | k+1,_,_,.cons p l=>.cons p (zon k l)
theorem zja{l:List Addr}{d:Addr}(h:l.Nodup)(n:d ∉ l):(l++[d]).Nodup:=List.nodup_append.mpr ⟨h,by simp,λa ha b hb e=>n (by rw[Yq.mp hb]at e;rw[<- e];exact ha)⟩
theorem Pile.app{F:Type}[Lean.Grind.Field F]{n:Int}{m:Nat}{H H':Hp}{L:Addr}{es:List En}{ys:List V}{g:En}{v:V}(hp:Pile F n m H L es)(hL:H L=some (.lst ys))(hy:Paired (Ent F n m H) es ys)(s:Same H H')(hg:Ent F n m H' g v)(nd:H g.d=none)(xl:g.x.length<=300)(dp:g.dp<=8):Pile F n m (upd H' L (.lst (ys++[v]))) L (es++[g]):=by
 have hL':=s _ _ hL;refine⟨⟨_,zaf,psnoc (hg.upL hL') (pimp (λ_ _ q=>(q.same s).upL hL') hy)⟩,by simp,?_,λe he=>?_⟩
 ·rw[List.map_append];refine zja hp.nd λz=>?_
  obtain⟨e,he,q⟩:=Jh.mp z;obtain⟨o,ho⟩:=Pile.dk hy e he;rw[q,nd]at ho;cases ho
 ·rcases Jr.mp he with he | he
  ·exact hp.xl e he
  ·rw[Yq.mp he];exact⟨xl,dp⟩
theorem Pile.same{F:Type}[Lean.Grind.Field F]{n:Int}{m:Nat}{H H':Hp}{L:Addr}{es:List En}(s:Same H H')(h:Pile F n m H L es):Pile F n m H' L es:=by
 obtain⟨⟨ys,a,b⟩,c,d,e⟩:=h;exact⟨⟨ys,s _ _ a,pimp (λ_ _ q=>q.same s) b⟩,c,d,e⟩
end K6
namespace K6
open PySem L2
open K1 K2 K3 K6 K8 K37 G K14
section
variable{P:Program}{w:World}{K:W.Frag}{mg:Str->Option Value}{base:Heap}{f:Addr}{fd:FuncData}{zav zag zak zck zab zae:Addr}{zam zbz zdy zax zbe:Addr}{tk_Made tk_MadeR:Tok}(T:Txt P w K mg base zav zag zak zck zab zae)
include T
local macro_rules | `(tactic| walk_at "x") => `(tactic| (refine xg λg hg => ?_; repeat refine xl λ_ => ?_))
local macro_rules | `(tactic| walk_at "v") => `(tactic| (intro _ _ _ _; (repeat refine xl λ_ => ?_); exact λh => h.1 ▸ rfl))
local macro_rules | `(tactic| walk_at "sd") => `(tactic| first
 | assumption | ((try dsimp only);omega) | ((try dsimp only);decide) | exact⟨by decide,by decide⟩ | exact⟨by decide,by decide,by decide⟩ | exact Or.inl ⟨by decide,by decide⟩ | exact⟨by omega,by omega⟩ | exact Or.inl ⟨by omega,by omega⟩ | exact Or.inr ⟨by decide,by decide⟩ | exact Or.inr ⟨by omega,by omega⟩)
local macro_rules | `(tactic| walk_at "rd") => `(tactic| repeat first
 | refine⟨_,rfl,?_⟩ | refine⟨_,_,rfl,rfl,?_⟩ | refine⟨_,_,rfl,rfl,by walk_at "sd",?_⟩ | refine And.intro rfl ?_ | refine And.intro (by walk_at "sd") ?_ | with_reducible refine iteT ?_ | with_reducible refine iteF ?_ | (apply zw0;assumption;rfl))
local macro_rules | `(tactic| walk_at "clo") => `(tactic| exact h)
theorem zn7(F:FunD K "shared_divisor" "shared_divisor" zch .none f fd)   : FnOk P w K mg base CX0 1 f fd ["one","other"] zgg:=by
 have scShared:FnScope ["one","other","rest"] ["one","other"] (zaj zch):=sM (by decide +kernel);refine F.okN (k:=0) scShared (by walk_at "v") (λcdv A outer s H vs Q E hr=>?_);walk_at "x";rename_i g_ hg_ a b;rintro⟨rfl,h⟩;subst hg_;refine⟨_,(zad (zb5 PassesOwn.never (zar zj5 (pv 1) (zac) (nomark _)) (zad (zaq (i:=2) scShared.nd rfl (Or.inl rfl) (zau zfv (pv 0) (pv 1)))
  (zad (zaq (i:=0) scShared.nd rfl (Or.inl rfl) (pv 1))
  (zah (zaq (i:=1) scShared.nd rfl (Or.inl rfl) (pv 2))))))
  (zah (zao (pv 0)))),?_⟩
 obtain⟨ha,hb,k⟩:=h;refine⟨λm σ H'=>∃(a' b':Int) (v:Option V),m=b'.toNat/\σ = [some (.int a'),some (.int b'),v]/\H'=H/\0<=a'/\0<=b'/\Gc a b a' b',⟨_,_,_,none,Z,Z,Z,K1.start ha hb⟩,?_⟩;rintro m σ H' ⟨a',b',v,rfl,rfl,rfl,h1,h2,hg⟩;walk_at "rd";refine cNe (λc=>?_) (λc=>?_)
 ·refine⟨λσ' H''=>∃v',σ'=[some (.int b'),some (.int (a'.fmod b')),v']/\H''=H',?_,?_⟩
  ·rintro σ' H'' ⟨v',rfl,rfl⟩;exact⟨(a'.fmod b').toNat,K1.less (by omega),_,_,v',rfl,rfl,rfl,K1.turn hg h1 (by omega)⟩
  ·refine⟨_,Z,_,Z,_,_,Z,Z,c,?_⟩;walk_at "rd";rfl
 ·refine⟨_,Z,?_⟩;show Q (.int a') H';rw[K1.out hg h1 c];exact k
theorem zqm(F:FunD K "is_prime" "is_prime" zfq .none f fd)   : FnOk P w K mg base CX0 1 f fd ["number"] zmh:=by
 have scPrime:FnScope ["number","divisor"] ["number"] (zaj zfq):=sM (by decide +kernel);refine F.okN (k:=0) scPrime (by walk_at "v") (λcdv A outer s H vs Q E hr=>?_);walk_at "x";rename_i g_ hg_ n;rintro⟨rfl,h⟩;subst hg_;refine⟨_,(zad (za0 (zar zic (pv 0) (zac) (nomark _)) (zah (zao (zcq))) zat)
  (zad (zaq (i:=1) scPrime.nd rfl (Or.inl rfl) (zac))
  (zad (zb5 PassesOwn.never (zar zo2 (zau zi0 (pv 1) (pv 1)) (pv 0) (nomark _)) (zad (za0 (zar zbp (zau zfv (pv 0) (pv 1)) (zac) (nomark _)) (zah (zao (zcq))) zat)
  (zah (zvv (i:=1) scPrime.nd rfl (Or.inl rfl) (zac) zur))))
  (zah (zao (zcq)))))),?_⟩
 obtain⟨hn,k⟩:=h;walk_at "rd";refine cD (λc=>?_) (λc=>?_)
 ·show Q (.bl false) H;rw[low c];exact k
 refine⟨λm σ H'=>∃d:Int,m=(200-d).toNat/\σ = [some (.int n),some (.int d)]/\H'=H/\2<=d/\d<=101/\NoDiv n d,⟨_,2,Z,Z,Z,K3.start n⟩,?_⟩;rintro m σ H' ⟨d,rfl,rfl,rfl,h2,h3,hd⟩;refine⟨_,Z,_,Z,_,_,Z,Z,.inl (zla (n:=n) h2 h3),?_⟩;walk_at "rd";refine cD (λq=>?_) (λq=>?_)
 ·refine⟨λσ' H''=>σ'=[some (.int n),some (.int (d+1))]/\H''=H'/\¬Int.fmod n d=0,?_,?_⟩
  ·rintro σ' H'' ⟨rfl,rfl,nz⟩;exact⟨(200-(d+1)).toNat,K3.less h2 q hn,d+1,rfl,rfl,rfl,K3.turn hd nz h2 q hn⟩
  ·refine⟨_,Z,_,Z,_,_,Z,Z,(by show d≠0;omega),?_⟩;walk_at "rd";refine cEq (λz=>?_) (λz=>?_)
   ·show Q (.bl false) H';rw[found h2 q z];exact k
   ·walk_at "rd"
    exact z
 ·show Q (.bl true) H';rw[K3.out hd (by omega) h2 q];exact k
theorem zio(F:FunD K "__init__" "Field.__init__" zcd .none f fd)   : FnOk P w K mg base CX0 1 f fd ["self","prime"] (zjp K):=by
 have scFieldInit:FnScope ["self","prime"] ["self","prime"] (zaj zcd):=sM (by decide +kernel);refine F.okN (k:=0) scFieldInit (by walk_at "v") (λcdv A outer s H vs Q E hr=>?_);walk_at "x";rename_i g_ hg_ p C dx v;rintro⟨rfl,h⟩;subst hg_;refine⟨_,(zah (zha (pv 0) (pv 1) rfl)),?_⟩;obtain⟨hp,hc,ha,k⟩:=h;exact⟨_,Z,_,Z,p,C,dx,[],Z,hp,hc,ha,(by show 0<1000;decide),k⟩
theorem zj4(F:FunD K "__init__" "Fractions.__init__" zbq .none f fd)(q_FieldInit:CCal P w K mg base CX0 1 "Field" "__init__" ["self","prime"] [] (zjp K)):FnOk P w K mg base CX0 2 f fd ["self"] (zhb zag):=by
 have scFracInit:FnScope ["self"] ["self"] (zaj zbq):=sM (by decide +kernel);refine F.okN (k:=1) scFracInit (by walk_at "v") (λcdv A outer s H vs Q E hr=>?_);walk_at "x";rename_i g_ hg_ p dx;rintro⟨rfl,h⟩;subst hg_;refine⟨_,(zah (zb9 (zuk q_FieldInit hr zap .nil ((zaa (pv 0) (zaa (zac) zai)))))),?_⟩;obtain⟨hp,k⟩:=h;exact⟨_,Z,p,_,dx,_,Z,hp,T.cl_Fractions,T.na_Fractions_prime,k⟩
theorem zni(F:FunD K "nought" "Fractions.nought" zbw .none f fd)   : FnOk P w K mg base CX0 1 f fd ["self"] (zn3 0 1):=by
 have scNought:FnScope ["self"] ["self"] (zaj zbw):=sM (by decide +kernel);refine F.okN (k:=0) scNought (by walk_at "v") (λcdv A outer s H vs Q E hr=>?_);walk_at "x";rename_i g_ hg_ p;rintro⟨rfl,h⟩;subst hg_;refine⟨_,(zah (zao (zbc ((zaa (zac) (zaa (zac) zai)))))),?_⟩;exact⟨(by show 2<=sizeLine;decide),λr hr'=>h r _ (Same.upd hr') zaf⟩
theorem zvf(F:FunD K "one" "Fractions.one" zco .none f fd)   : FnOk P w K mg base CX0 1 f fd ["self"] (zn3 1 1):=by
 have scOne:FnScope ["self"] ["self"] (zaj zco):=sM (by decide +kernel);refine F.okN (k:=0) scOne (by walk_at "v") (λcdv A outer s H vs Q E hr=>?_);walk_at "x";rename_i g_ hg_ p;rintro⟨rfl,h⟩;subst hg_;refine⟨_,(zah (zao (zbc ((zaa (zac) (zaa (zac) zai)))))),?_⟩;exact⟨(by show 2<=sizeLine;decide),λr hr'=>h r _ (Same.upd hr') zaf⟩
theorem zr8{dT:Addr}(F:FunD K "made" "Fractions.made" zbf (.ref dT) f fd)(c_Shared:Cal P w K mg base CX0 1 "shared_divisor" ["one","other"] [] zgg)(x_NoOver:Exc K mg base "NoOver" zam)  : FnOk P w K mg base (CXe P w) 2 f fd ["self","top","bottom"] (zqv zam):=by
 have scMade:FnScope ["self","top","bottom","divisor"] ["self","top","bottom"] (zaj zbf):=sM (by decide +kernel);refine F.okX (k:=1) scMade (by walk_at "v") (λcdv A outer s H vs Q E hr=>?_);walk_at "x";rename_i g_ hg_ p t b;rintro⟨rfl,h⟩;subst hg_;refine⟨_,(zad (za0 (zar zbp (pv 2) (zac) (nomark _)) (zah (zg0 x_NoOver rfl rfl za6 ((zaa (zay) zai)))) zat)
  (zad (zaq (i:=3) scMade.nd rfl (Or.inl rfl) (pe_c c_Shared hr zap .nil ((zaa (za1 zeo rfl T.b_abs (by kernel_rfl) ((zaa (pv 1) zai))) (zaa (za1 zeo rfl T.b_abs (by kernel_rfl) ((zaa (pv 2) zai))) zai)))))
  (zad (za0 (zar zic (pv 2) (zac) (nomark _)) (zah (zaq (i:=3) scMade.nd rfl (Or.inl rfl) (ze7 zc7 (pv 3)))) zat)
  (zah (zao (zbc ((zaa (zau zbn (pv 1) (pv 3)) (zaa (zau zbn (pv 2) (pv 3)) zai))))))))),?_⟩
 obtain⟨hb,k⟩:=h;walk_at "rd";refine cEq (λc=>?_) (λc=>?_)
 ·refine⟨(by show 1<=sizeLine;decide),?_⟩;rcases k with⟨q,_⟩ | ⟨_,q⟩
  ·exact absurd c q
  ·exact q
 rcases k with⟨_,k⟩ | ⟨q,_⟩
 case inr=>exact absurd q c
 obtain⟨d0,d1⟩:=zxl (t:=t) c hb;have c1:CDivB t (dv t b):=⟨d0,d1⟩;have c2:CDivB b (dv t b):=⟨d0,d1⟩;walk_at "rd";refine⟨_,_,Z,by split <;> omega,by split <;> omega,?_⟩;rw[zqx];walk_at "rd";refine cD (λn=>?_) (λn=>?_)
 ·walk_at "rd"
  have e : -(gI t b)=dv t b:=by unfold dv;rw[Yl n]
  try dsimp only
  rw[e];walk_at "rd";exact⟨(by show 2<=sizeLine;decide),λr hr'=>k r _ (Same.upd hr') zaf⟩
 ·have e:gI t b=dv t b:=by unfold dv;rw[Yh n]
  rw[e];walk_at "rd";exact⟨(by show 2<=sizeLine;decide),λr hr'=>k r _ (Same.upd hr') zaf⟩
theorem zp1(F:FunD K "plus" "Fractions.plus" zcf .none f fd)(c_Shared:Cal P w K mg base CX0 1 "shared_divisor" ["one","other"] [] zgg):FnOk P w K mg base CX0 2 f fd ["self","a","b"] (zkr zag (λx y z w=>x*w+z*y) (λx y z w=>y*w)):=by
 have scPlusF:FnScope ["self","a","b","shared","top","further"] ["self","a","b"] (zaj zcf):=sM (by decide +kernel);refine F.okN (k:=1) scPlusF (by walk_at "v") (λcdv A outer s H vs Q E hr=>?_);walk_at "x";rename_i g_ hg_ p dx ra rb x y z w;rintro⟨rfl,h⟩;subst hg_;refine⟨_,(zad (za0 (PW.pt (zom (zar zbp (zaw (r:=rIxT K) zas (pv 1) (zac) (λ_ _=>Z)) (zac) (nomark _)) (zju (zar zbp (zaw (r:=rIxT K) zas (pv 2) (zac) (λ_ _=>Z)) (zac) (nomark _))))) (zah (zao (zbc ((zaa (zau zc6 (zaw (r:=rIxT K) zas (pv 1) (zac) (λ_ _=>Z)) (zaw (r:=rIxT K) zas (pv 2) (zac) (λ_ _=>Z))) (zaa (zac) zai)))))) zat)
  (zad (zaq (i:=3) scPlusF.nd rfl (Or.inl rfl) (pe_c c_Shared hr zap .nil ((zaa (zaw (r:=rIxT K) zas (pv 1) (zac) (λ_ _=>Z)) (zaa (zaw (r:=rIxT K) zas (pv 2) (zac) (λ_ _=>Z)) zai)))))
  (zad (zaq (i:=4) scPlusF.nd rfl (Or.inl rfl) (zau zc6 (zau zbo (zaw (r:=rIxT K) zas (pv 1) (zac) (λ_ _=>Z)) (zau zbn (zaw (r:=rIxT K) zas (pv 2) (zac) (λ_ _=>Z)) (pv 3))) (zau zbo (zaw (r:=rIxT K) zas (pv 2) (zac) (λ_ _=>Z)) (zau zbn (zaw (r:=rIxT K) zas (pv 1) (zac) (λ_ _=>Z)) (pv 3)))))
  (zad (zaq (i:=5) scPlusF.nd rfl (Or.inl rfl) (pe_c c_Shared hr zap .nil ((zaa (za1 zeo rfl T.b_abs (by kernel_rfl) ((zaa (pv 4) zai))) (zaa (pv 3) zai)))))
  (zah (zao (zbc ((zaa (zau zbn (pv 4) (pv 5)) (zaa (zau zbo (zau zbn (zaw (r:=rIxT K) zas (pv 1) (zac) (λ_ _=>Z)) (pv 3)) (zau zbn (zaw (r:=rIxT K) zas (pv 2) (zac) (λ_ _=>Z)) (pv 5))) zai)))))))))),?_⟩
 obtain⟨hp,ha,hb,na,nb,k⟩:=h;have y0:y≠0:=by have:=na.pos;omega
 have w0:w≠0:=by have:=nb.pos;omega
 have yp:=na.pos;have wp:=nb.pos;have A:=SqT.of (K:=K) ha;have B:=SqT.of (K:=K) hb;obtain⟨m1,m2,m3,m4,m5⟩:=na.mul nb;obtain⟨u1,u2⟩:=zpb yp wp na.cop nb.cop;have g0:=znz (a:=y) w0 nb.bz;have gy:=zok y w;have d1:CDivB w (gI y w):=⟨g0.1,up g0.2 (by decide)⟩;have d2:CDivB y (gI y w):=⟨g0.1,up g0.2 (by decide)⟩;have e1:=fdr (a:=y) w0 nb.bz;have e2:=fdl (b:=w) w0 na.bz;have n1:CMulC x (Int.fdiv w (gI y w)):=⟨up na.bx (by decide),up e1 (by decide)⟩;have n2:CMulC z (Int.fdiv y (gI y w)):=⟨up nb.bx (by decide),up e2 (by decide)⟩;have f0:=znz (a:=x*Int.fdiv w (gI y w)+z*Int.fdiv y (gI y w)) g0.1 g0.2;have dw:gI (x*Int.fdiv w (gI y w)+z*Int.fdiv y (gI y w)) (gI y w) ∣ w:=Int.dvd_trans (zgh _ _) (zgh _ _);have d3:CDivB (x*Int.fdiv w (gI y w)+z*Int.fdiv y (gI y w)) (gI (x*Int.fdiv w (gI y w)+z*Int.fdiv y (gI y w)) (gI y w)):=⟨f0.1,up f0.2 (by decide)⟩;have d4:CDivB w (gI (x*Int.fdiv w (gI y w)+z*Int.fdiv y (gI y w)) (gI y w)):=⟨f0.1,up f0.2 (by decide)⟩;have n3:CMulC (Int.fdiv y (gI y w)) (Int.fdiv w (gI (x*Int.fdiv w (gI y w)+z*Int.fdiv y (gI y w)) (gI y w))):=⟨up e2 (by decide),up (Yp (zt4 dw f0.1) nb.bz) (by decide)⟩;walk_at "rd";refine cEq (λc1=>?_) (λc1=>?_)
 ·walk_at "rd"
  refine cEq (λc2=>?_) (λc2=>?_)
  ·walk_at "rd"
   refine⟨(by show 2<=sizeLine;decide),λr hr'=>?_⟩;refine k r _ (Same.upd hr') ?_;subst c1 c2;simp only[Int.mul_one,(zpf _).1,(zpf _).2];exact zaf
  ·walk_at "rd"
   refine⟨_,_,Z,by omega,by omega,?_⟩;walk_at "rd";refine⟨_,_,Z,by split <;> omega,gy,?_⟩;rw[zfn];walk_at "rd";refine⟨(by show 2<=sizeLine;decide),λr hr'=>?_⟩;refine k r _ (Same.upd hr') ?_;show _=some (HO.tup [V.int (fT (x*w+z*y) (y*w)),V.int (fB (x*w+z*y) (y*w))]);rw[<- u1,<- u2];exact zaf
 ·walk_at "rd"
  refine⟨_,_,Z,by omega,by omega,?_⟩;walk_at "rd";refine⟨_,_,Z,by split <;> omega,gy,?_⟩;rw[zfn];walk_at "rd";refine⟨(by show 2<=sizeLine;decide),λr hr'=>?_⟩;refine k r _ (Same.upd hr') ?_;show _=some (HO.tup [V.int (fT (x*w+z*y) (y*w)),V.int (fB (x*w+z*y) (y*w))]);rw[<- u1,<- u2];exact zaf
theorem znc(F:FunD K "times" "Fractions.times" zb4 .none f fd)(c_Shared:Cal P w K mg base CX0 1 "shared_divisor" ["one","other"] [] zgg):FnOk P w K mg base CX0 2 f fd ["self","a","b"] (zkr zag (λx y z w=>x*z) (λx y z w=>y*w)):=by
 have scTimesF:FnScope ["self","a","b","one","other"] ["self","a","b"] (zaj zb4):=sM (by decide +kernel);refine F.okN (k:=1) scTimesF (by walk_at "v") (λcdv A outer s H vs Q E hr=>?_);walk_at "x";rename_i g_ hg_ p dx ra rb x y z w;rintro⟨rfl,h⟩;subst hg_;refine⟨_,(zad (za0 (PW.pt (zom (zar zbp (zaw (r:=rIxT K) zas (pv 1) (zac) (λ_ _=>Z)) (zac) (nomark _)) (zju (zar zbp (zaw (r:=rIxT K) zas (pv 2) (zac) (λ_ _=>Z)) (zac) (nomark _))))) (zah (zao (zbc ((zaa (zau zbo (zaw (r:=rIxT K) zas (pv 1) (zac) (λ_ _=>Z)) (zaw (r:=rIxT K) zas (pv 2) (zac) (λ_ _=>Z))) (zaa (zac) zai)))))) zat)
  (zad (zaq (i:=3) scTimesF.nd rfl (Or.inl rfl) (pe_c c_Shared hr zap .nil ((zaa (za1 zeo rfl T.b_abs (by kernel_rfl) ((zaa (zaw (r:=rIxT K) zas (pv 1) (zac) (λ_ _=>Z)) zai))) (zaa (zaw (r:=rIxT K) zas (pv 2) (zac) (λ_ _=>Z)) zai)))))
  (zad (zaq (i:=4) scTimesF.nd rfl (Or.inl rfl) (pe_c c_Shared hr zap .nil ((zaa (za1 zeo rfl T.b_abs (by kernel_rfl) ((zaa (zaw (r:=rIxT K) zas (pv 2) (zac) (λ_ _=>Z)) zai))) (zaa (zaw (r:=rIxT K) zas (pv 1) (zac) (λ_ _=>Z)) zai)))))
  (zah (zao (zbc ((zaa (zau zbo (zau zbn (zaw (r:=rIxT K) zas (pv 1) (zac) (λ_ _=>Z)) (pv 3)) (zau zbn (zaw (r:=rIxT K) zas (pv 2) (zac) (λ_ _=>Z)) (pv 4))) (zaa (zau zbo (zau zbn (zaw (r:=rIxT K) zas (pv 1) (zac) (λ_ _=>Z)) (pv 4)) (zau zbn (zaw (r:=rIxT K) zas (pv 2) (zac) (λ_ _=>Z)) (pv 3))) zai))))))))),?_⟩
 obtain⟨hp,ha,hb,na,nb,k⟩:=h;have y0:y≠0:=by have:=na.pos;omega
 have w0:w≠0:=by have:=nb.pos;omega
 have yp:=na.pos;have wp:=nb.pos;have A:=SqT.of (K:=K) ha;have B:=SqT.of (K:=K) hb;obtain⟨m1,m2,m3,m4,m5⟩:=na.mul nb;obtain⟨u1,u2⟩:=zm3 yp wp na.cop nb.cop;have g1:=znz (a:=x) w0 nb.bz;have g2:=znz (a:=z) y0 na.bz;have d1:CDivB x (gI x w):=⟨g1.1,up g1.2 (by decide)⟩;have d2:CDivB z (gI z y):=⟨g2.1,up g2.2 (by decide)⟩;have d3:CDivB y (gI z y):=⟨g2.1,up g2.2 (by decide)⟩;have d4:CDivB w (gI x w):=⟨g1.1,up g1.2 (by decide)⟩;have n1:CMulC (Int.fdiv x (gI x w)) (Int.fdiv z (gI z y)):=⟨up (fdl w0 na.bx) (by decide),up (fdl y0 nb.bx) (by decide)⟩;have n2:CMulC (Int.fdiv y (gI z y)) (Int.fdiv w (gI x w)):=⟨up (fdr y0 na.bz) (by decide),up (fdr w0 nb.bz) (by decide)⟩;walk_at "rd";refine cEq (λc1=>?_) (λc1=>?_)
 ·walk_at "rd"
  refine cEq (λc2=>?_) (λc2=>?_)
  ·walk_at "rd"
   refine⟨(by show 2<=sizeLine;decide),λr hr'=>?_⟩;refine k r _ (Same.upd hr') ?_;subst c1 c2;simp only[Int.mul_one,(zpf _).1,(zpf _).2];exact zaf
  ·walk_at "rd"
   refine⟨_,_,Z,by split <;> omega,by omega,?_⟩;rw[zfn];walk_at "rd";refine⟨_,_,Z,by split <;> omega,by omega,?_⟩;rw[zfn];walk_at "rd";refine⟨(by show 2<=sizeLine;decide),λr hr'=>?_⟩;refine k r _ (Same.upd hr') ?_;show _=some (HO.tup [V.int (fT (x*z) (y*w)),V.int (fB (x*z) (y*w))]);rw[<- u1,<- u2];exact zaf
 ·walk_at "rd"
  refine⟨_,_,Z,by split <;> omega,by omega,?_⟩;rw[zfn];walk_at "rd";refine⟨_,_,Z,by split <;> omega,by omega,?_⟩;rw[zfn];walk_at "rd";refine⟨(by show 2<=sizeLine;decide),λr hr'=>?_⟩;refine k r _ (Same.upd hr') ?_;show _=some (HO.tup [V.int (fT (x*z) (y*w)),V.int (fB (x*z) (y*w))]);rw[<- u1,<- u2];exact zaf
theorem zig(F:FunD K "__init__" "Rests.__init__" zcb .none f fd)(c_Prime:Cal P w K mg base CX0 1 "is_prime" ["number"] [] zmh)(q_FieldInit:CCal P w K mg base CX0 1 "Field" "__init__" ["self","prime"] [] (zjp K))(x_NoPrime:Exc K mg base "NoPrime" zbz)  : FnOk P w K mg base (CXe P w) 2 f fd ["self","prime"] (zme zak zbz):=by
 have scRestsInit:FnScope ["self","prime"] ["self","prime"] (zaj zcb):=sM (by decide +kernel);refine F.okX (k:=1) scRestsInit (by walk_at "v") (λcdv A outer s H vs Q E hr=>?_);walk_at "x";rename_i g_ hg_ p dx n;rintro⟨rfl,h⟩;subst hg_;refine⟨_,(zad (za0 (PW.pt (zhv (zar zfx (pv 1) (zek T.g_GREATEST_PRIME rfl) (nomark _)) (zf6 (zeq (zbt (pe_c c_Prime hr zap .nil ((zaa (pv 1) zai)))))))) (zah (zg0 x_NoPrime rfl rfl za6 ((zaa (zay) zai)))) zat)
  (zah (zb9 (zuk q_FieldInit hr zap .nil ((zaa (pv 0) (zaa (pv 1) zai))))))),?_⟩
 obtain⟨hp,k⟩:=h;walk_at "rd";refine cD (λc=>?_) (λc=>?_)
 ·walk_at "rd"
  try refine⟨(by show 1<=sizeLine;decide),?_⟩
  rcases k with⟨q,_⟩ | ⟨_,q⟩
  ·omega
  ·exact q
 ·refine⟨_,Z,n,Z,by omega,_,Z,?_⟩;rcases k with⟨_,q1,q2⟩ | ⟨q1,q2⟩
  ·rw[q1];refine iteF ?_;exact⟨_,Z,_,Z,p,zak,dx,_,Z,hp,T.cl_Rests,T.na_Rests_prime,q2⟩
  ·have q:isP n=false:=q1.resolve_left c;rw[q];exact iteT ⟨(by show 1<=sizeLine;decide),q2⟩
theorem zlp(F:FunD K "nought" "Rests.nought" zdg .none f fd)   : FnOk P w K mg base CX0 1 f fd ["self"] (spC (.int 0)):=by
 have scNoughtR:FnScope ["self"] ["self"] (zaj zdg):=sM (by decide +kernel);refine F.okN (k:=0) scNoughtR (by walk_at "v") (λcdv A outer s H vs Q E hr=>?_);walk_at "x";rename_i g_ hg_ p;rintro⟨rfl,h⟩;subst hg_;refine⟨_,(zah (zao (zac))),?_⟩;exact h
theorem zr7(F:FunD K "one" "Rests.one" zeu .none f fd)   : FnOk P w K mg base CX0 1 f fd ["self"] (spC (.int 1)):=by
 have scOneR:FnScope ["self"] ["self"] (zaj zeu):=sM (by decide +kernel);refine F.okN (k:=0) scOneR (by walk_at "v") (λcdv A outer s H vs Q E hr=>?_);walk_at "x";rename_i g_ hg_ p;rintro⟨rfl,h⟩;subst hg_;refine⟨_,(zah (zao (zac))),?_⟩;exact h
theorem zqj(F:FunD K "plus" "Rests.plus" zd8 .none f fd)   : FnOk P w K mg base CX0 1 f fd ["self","a","b"] (zi7 zak λn a b=>(a+b)%n):=by
 have scPlusR:FnScope ["self","a","b"] ["self","a","b"] (zaj zd8):=sM (by decide +kernel);refine F.okN (k:=0) scPlusR (by walk_at "v") (λcdv A outer s H vs Q E hr=>?_);walk_at "x";rename_i g_ hg_ p dx n a b;rintro⟨rfl,h⟩;subst hg_;refine⟨_,(zah (zao (zau za7 (zau zc6 (pv 1) (pv 2)) (za4 (K:=K) rfl (pv 0) rfl)))),?_⟩;obtain⟨⟨hp,pr,pl⟩,ia,ib,k⟩:=h;have p2:=pr.1;walk_at "rd";exact⟨p,zak,dx,_,_,Z,hp,T.cl_Rests,T.na_Rests_prime,Z,_,_,Z,Z,(by show 0<n;omega),k⟩
theorem zna(F:FunD K "times" "Rests.times" zdt .none f fd)   : FnOk P w K mg base CX0 1 f fd ["self","a","b"] (zi7 zak λn a b=>a*b%n):=by
 have scTimesR:FnScope ["self","a","b"] ["self","a","b"] (zaj zdt):=sM (by decide +kernel);refine F.okN (k:=0) scTimesR (by walk_at "v") (λcdv A outer s H vs Q E hr=>?_);walk_at "x";rename_i g_ hg_ p dx n a b;rintro⟨rfl,h⟩;subst hg_;refine⟨_,(zah (zao (zau za7 (zau zi0 (pv 1) (pv 2)) (za4 (K:=K) rfl (pv 0) rfl)))),?_⟩;obtain⟨⟨hp,pr,pl⟩,ia,ib,k⟩:=h;have p2:=pr.1;obtain⟨a0,a1⟩:=ia;walk_at "rd";exact⟨p,zak,dx,_,_,Z,hp,T.cl_Rests,T.na_Rests_prime,Z,_,_,Z,Z,(by show 0<n;omega),k⟩
theorem zxu(F:FunD K "turned" "Rests.turned" zdd .none f fd)(x_NoOver:Exc K mg base "NoOver" zam)  : FnOk P w K mg base (CXe P w) 1 f fd ["self","a"] (zwu zak zam):=by
 have scTuR:FnScope ["self","a","found","left"] ["self","a"] (zaj zdd):=sM (by decide +kernel);refine F.okX (k:=0) scTuR (by walk_at "v") (λcdv A outer s H vs Q E hr=>?_);walk_at "x";rename_i g_ hg_ p dx n a;rintro⟨rfl,h⟩;subst hg_;refine⟨_,(zad (za0 (zar zbp (pv 1) (zac) (nomark _)) (zah (zg0 x_NoOver rfl rfl za6 ((zaa (zay) zai)))) zat)
  (zad (zaq (i:=2) scTuR.nd rfl (Or.inl rfl) (zac))
  (zad (zaq (i:=3) scTuR.nd rfl (Or.inl rfl) (pv 1))
  (zad (PS.nox (zb5 PassesOwn.never (zar zj5 (pv 3) (zac) (nomark _)) (zad (zaq (i:=2) scTuR.nd rfl (Or.inl rfl) (zau zfv (zau zi0 (ze7 zc7 (pv 2)) (zau zpo (za4 (K:=K) rfl (pv 0) rfl) (pv 3))) (za4 (K:=K) rfl (pv 0) rfl)))
  (zah (zaq (i:=3) scTuR.nd rfl (Or.inl rfl) (zau zfv (za4 (K:=K) rfl (pv 0) rfl) (pv 3)))))))
  (zah (zao (pv 2))))))),?_⟩
 obtain⟨⟨hp,pr,pl⟩,⟨a0,a1⟩,k⟩:=h;have p2:=pr.1;walk_at "rd";refine cEq (λc=>?_) (λc=>?_)
 ·refine⟨(by show 1<=sizeLine;decide),?_⟩;rcases k with⟨q,_⟩ | ⟨_,q⟩
  ·exact absurd c q
  ·exact q
 rcases k with⟨_,k⟩ | ⟨q,_⟩
 case inr=>exact absurd q c
 walk_at "rd"
 refine⟨λm σ H'=>∃(f l:Int),m=l.toNat/\σ = [some (.ref p),some (.int a),some (.int f),some (.int l)]/\H'=H/\Tn n a f l,⟨_,1,a,Z,Z,Z,zhz pr (by omega) a1⟩,?_⟩;rintro m σ H' ⟨f,l,rfl,rfl,rfl,tn⟩;have f0:=tn.f0;have f1:=tn.f1;have l0:=tn.l0;have l1:=tn.l1;walk_at "rd";refine cNe (λc1=>?_) (λc1=>?_)
 ·refine⟨λσ' H''=>σ'=[some (.ref p),some (.int a),some (.int (Int.fmod (-f*Int.fdiv n l) n)),some (.int (Int.fmod n l))]/\H''=H',?_,?_⟩
  ·rintro σ' H'' ⟨rfl,rfl⟩;exact⟨(Int.fmod n l).toNat,znw tn,_,_,rfl,rfl,rfl,zm7 pr tn c1⟩
  ·refine⟨_,Z,_,Z,_,Z,p,zak,dx,_,_,Z,hp,T.cl_Rests,T.na_Rests_prime,Z,_,Z,_,_,Z,Z,⟨by show l≠0;omega,by omega⟩,_,_,Z,Z,.inl ⟨by omega,by omega⟩,?_⟩;refine⟨_,Z,p,zak,dx,_,_,Z,hp,T.cl_Rests,T.na_Rests_prime,Z,_,_,Z,Z,(by show n≠0;omega),?_⟩;exact⟨_,Z,p,zak,dx,_,_,Z,hp,T.cl_Rests,T.na_Rests_prime,Z,_,Z,_,_,Z,Z,(by show l≠0;omega),Z,Z⟩
 ·exact⟨_,Z,k f (zrr tn c1)⟩
theorem zxc(F:FunD K "over" "Field.over" zej .none f fd)(m_TuR:MCal P w K mg base (CXe P w) 1 zak "turned" ["self","a"] [] (zwu zak zam))(m_TimesR:MCal P w K mg base CX0 1 zak "times" ["self","a","b"] [] (zi7 zak λn a b=>a*b%n)):FnOk P w K mg base (CXe P w) 2 f fd ["self","a","b"] (zwo zak zam):=by
 have scOvR:FnScope ["self","a","b"] ["self","a","b"] (zaj zej):=sM (by decide +kernel);refine F.okX (k:=1) scOvR (by walk_at "v") (λcdv A outer s H vs Q E hr=>?_);walk_at "x";rename_i g_ hg_ p dx n a b;rintro⟨rfl,h⟩;subst hg_;refine⟨_,(zah (zao (pe_m m_TimesR (pv 0) hr zap .nil ((zaa (pv 1) (zaa (pe_m m_TuR (pv 0) hr zaz .nil ((zaa (pv 2) zai))) zai)))))),?_⟩;obtain⟨hn,ia,ib,k⟩:=h;have hp:=hn.1;refine⟨_,Z,p,dx,_,Z,hp,no_R _ _ (by decide +kernel),_,Z,_,Z,p,dx,_,Z,hp,no_R _ _ (by decide +kernel),_,Z,?_⟩;refine⟨p,dx,n,b,Z,hn,ib,?_⟩;rcases k with⟨nz,k⟩ | ⟨z0,k⟩
 ·exact .inl ⟨nz,λf hf=>⟨p,dx,n,a,f,Z,hn,ia,⟨hf.1,hf.2.1⟩,k f hf⟩⟩
 ·exact .inr ⟨z0,k⟩
theorem zot{dT:Addr}(F:FunD K "made" "Rests.made" zbu (.ref dT) f fd)(m_OvR:MCal P w K mg base (CXe P w) 2 zak "over" ["self","a","b"] [] (zwo zak zam)):FnOk P w K mg base (CXe P w) 3 f fd ["self","top","bottom"] (zv3 zak zam):=by
 have scMadeR:FnScope ["self","top","bottom"] ["self","top","bottom"] (zaj zbu):=sM (by decide +kernel);refine F.okX (k:=2) scMadeR (by walk_at "v") (λcdv A outer s H vs Q E hr=>?_);walk_at "x";rename_i g_ hg_ p dx n t b;rintro⟨rfl,h⟩;subst hg_;refine⟨_,(zah (zao (pe_m m_OvR (pv 0) hr zaz .nil ((zaa (zau za7 (pv 1) (za4 (K:=K) rfl (pv 0) rfl)) (zaa (zau za7 (pv 2) (za4 (K:=K) rfl (pv 0) rfl)) zai)))))),?_⟩;obtain⟨hn,k⟩:=h;have hp:=hn.1;have p2:=hn.2.1.1;refine⟨_,Z,p,dx,_,Z,hp,no_R _ _ (by decide +kernel),?_⟩;refine⟨_,Z,_,Z,p,zak,dx,_,_,Z,hp,T.cl_Rests,T.na_Rests_prime,Z,_,_,Z,Z,(by show 0<n;omega),?_⟩;refine⟨_,Z,_,Z,p,zak,dx,_,_,Z,hp,T.cl_Rests,T.na_Rests_prime,Z,_,_,Z,Z,(by show 0<n;omega),?_⟩;exact⟨p,dx,n,_,_,Z,hn,.mod _ hn.2.1,.mod _ hn.2.1,k⟩
theorem zps(F:FunD K "fits" "Order.fits" zd9 .none f fd)   : FnOk P w K mg base CX0 1 f fd ["self","many"] ztb:=by
 have scFitsO:FnScope ["self","many"] ["self","many"] (zaj zd9):=sM (by decide +kernel);refine F.okN (k:=0) scFitsO (by walk_at "v") (λcdv A outer s H vs Q E hr=>?_);walk_at "x";rename_i g_ hg_ p m;rintro⟨rfl,h⟩;subst hg_;refine⟨_,(zah (zao (zcq))),?_⟩;exact h
theorem zmu(F:FunD K "__init__" "Ring.__init__" zct .none f fd)(x_NoRing:Exc K mg base "NoRing" zdy)(cFit:MCal P w K mg base CX0 1 zab "fits" ["self","many"] [] ztb):FnOk P w K mg base (CXe P w) 2 f fd ["self","many","field","order"] (zuv zav zab):=by
 have scRgInit:FnScope ["self","many","field","order"] ["self","many","field","order"] (zaj zct):=sM (by decide +kernel);refine F.okX (k:=1) scRgInit (by walk_at "v") (λcdv A outer s H vs Q E hr=>?_);walk_at "x";rename_i g_ hg_ r dx m pf po;rintro⟨rfl,h⟩;subst hg_;refine⟨_,(zad (za0 (PW.pt (zhv (zar zic (pv 1) (zac) (nomark _)) (zhv (zar zfx (pv 1) (za1 zc4 rfl T.b_len PySem.boot_len ((zaa (zem T.g_LETTERS rfl) zai))) (nomark _)) (zf6 (zeq (zbt (pe_m cFit (pv 3) hr zap .nil ((zaa (pv 1) zai))))))))) (zah (zg0 x_NoRing rfl rfl za6 ((zaa (zay) zai)))) zat)
  (zad (zha (pv 0) (pv 1) rfl)
  (zad (zha (pv 0) (pv 2) rfl)
  (zah (zha (pv 0) (pv 3) rfl))))),?_⟩
 obtain⟨hr0,m1,m4,⟨d,hq⟩,k⟩:=h;walk_at "rd";refine cD (λc=>by omega) (λc=>?_);refine⟨_,Z,_,Z,(by decide +kernel),?_⟩;rw[zo8];walk_at "rd";refine cD (λc1=>by omega) (λc1=>?_);refine⟨_,Z,po,d,_,Z,hq,Z,_,Z,.ref po,m,Z,_,Z,iteF ?_⟩;refine⟨_,Z,_,Z,r,zav,dx,_,Z,hr0,T.cl_Ring,T.na_Ring_many,(by show 0<1000;decide),?_⟩;refine⟨_,Z,_,Z,r,zav,dx,_,Z,zaf,T.cl_Ring,T.na_Ring_field,(by show 1<1000;decide),?_⟩;refine⟨_,Z,_,Z,r,zav,dx,_,Z,zaf,T.cl_Ring,T.na_Ring_order,(by show 2<1000;decide),?_⟩;refine k _ zaf λb o hb ne=>?_
 rw[zal ne,zal ne,zal ne];exact hb
theorem zt0(F:FunD K "product" "product" zgj .none f fd)   : FnOk P w K mg base CX0 1 f fd ["one","other"] (zro K):=by
 have scProd:FnScope ["one","other"] ["one","other"] (zaj zgj):=sM (by decide +kernel);refine F.okN (k:=0) scProd (by walk_at "v") (λcdv A outer s H vs Q E hr=>?_);walk_at "x";rename_i g_ hg_ a b xs ys;rintro⟨rfl,h⟩;subst hg_;refine⟨_,(zah (zao (zbl (zcz (K:=K) rfl) rfl T.b_tuple (by kernel_rfl) ((zaa (zh6 (N:=["power","further"]) (Blk.plain (by decide +kernel) (by decide +kernel) rfl (by decide +kernel) zd2) rfl (zne (K:=K) rfl true true rfl T.b_zip ((zaa (pv 0) (zaa (pv 1) zai)))) (λC0 s0 H0 fp0=>zrf (K:=K) rfl rfl rfl zd2 rfl rfl) (λC0 s0 H0 fp0=>zh4) (λC0 s0 H0 fp0=>zau zc6 (pv 0) (pv 1))) zai))))),?_⟩;obtain⟨ha,hb,hl,k⟩:=h;show tComp _ _ _ _ _ _ _ _;refine zku (K:=K) (b1:=true) (b2:=true) (a:=a) (b:=b) (xs:=xs) (ys:=ys) yes2 (λx y=>.int (x+y)) (by rfl) ?_ ha hb hl ?_ ?_ λD H' e hL=>?_
 ·exact λR hR=>⟨_,Z,_,Z,hR⟩
 ·exact λ_ _ _ h=>h
 ·exact λi H' R _ h=>⟨_,Z,_,Z,_,_,Z,Z,h⟩
 rw[zrv (λx y=>x+y)]at hL;refine⟨D,_,Z,.inl ⟨SqL.of hL,λr hr=>?_⟩⟩;exact k r _ (e.trans (Same.upd hr)) zaf
theorem zmg(F:FunD K "absorb" "absorb" zh2 .none f fd)  (hfld:∀n:Int,n<=9973->(n=0\/Pr n)->∃C,FldP P w K mg base C (AtN zag zak n) n):FnOk P w K mg base CX0 4 f fd ["ring","total","f"] (zs5 zav zag zak zab zab zab zab):=by
 have scAbsorb:FnScope ["ring","total","f","nought","term","number"] ["ring","total","f"] (zaj zh2):=sM (by decide +kernel);refine F.okN (k:=3) scAbsorb (by walk_at "v") (λcdv A outer s H vs Q E hr=>?_);walk_at "x";rename_i g_ hg_ F fF r d e g cF kvs fvs φ ψ;rintro⟨rfl,h⟩;subst hg_;obtain⟨CF,B⟩:=hfld g.n h.1.nb h.1.np;refine⟨_,(zad (zaq (i:=3) scAbsorb.nd rfl (Or.inl rfl) (zce B.nought (za4 (K:=K) rfl (pv 0) rfl) hr zap .nil))
  (zah (zf3 (zdk PassesOwn.never rfl (zc5 (pv 2)) (zes rfl (za9 (zbb (i:=4) scAbsorb.nd rfl (Or.inl rfl)) (za9 (zbb (i:=5) scAbsorb.nd rfl (Or.inl rfl)) zc8))) (zad (za0 (zwr (zw5 (uOne hr) (pv 4) (pv 1))) (zah (zaq (i:=5) scAbsorb.nd rfl (Or.inl rfl) (pe_m B.plus (za4 (K:=K) rfl (pv 0) rfl) hr zap .nil ((zaa (zsz (uOne hr) (pv 1) (pv 4) (λ_ _=>Z)) (zaa (pv 5) zai)))))) zat)
  (zah (za0 (zar (zf1 hr.units) (pv 5) (pv 3) (nomark _)) (zah (zb9 (znh (uOne hr) (pv 1) ((zaa (pv 4) zai))))) (zah (zhh (uOne hr) (pv 1) (pv 4) (pv 5) rfl))))))))),?_⟩
 obtain⟨hR,de,hd,he,pF,pG,hl,bF,bG,k⟩:=h;obtain⟨dx,hr0⟩:=hR.at_;have hf:=hR.fd;obtain⟨dF,hF⟩:=B.ins hf;refine⟨_,Z,r,zav,dx,_,_,Z,hr0,T.cl_Ring,T.na_Ring_field,Z,g.pf,dF,_,Z,hF,no_P _ _ (by decide +kernel),F,fF,cF,g.pf,Z,hf,λu H1 e1 hu=>?_⟩;rw[zb3]at hu;refine⟨_,Z,e,fvs,Z,.inl (e1 _ _ he),λo=>?_⟩;have ntd:=pG.tnd;have lt:=ze0 fvs;have h1d:=e1 _ _ hd;have hHe:H1 e=some (.dT fvs):=e1 _ _ he;refine zb8 (λi σ H'=>i<=fvs.length/\(∃v4 v5,σ = [some (.ref r),some (.ref d),some (.ref e),some u,v4,v5])/\FzD H' e o fvs/\Kp [d,e] H1 H'/\∃kv,H' d=some (.dT kv)/\PF g.n g.m H' kv (λt=>φ t+cutP ψ ((tms fvs).take i) t)/\kv.length<=kvs.length+i) ?_ (λi σ H' h=>h.2.2.1) ?_ ?_
 ·refine⟨Y2 _,⟨none,none,Z⟩,zaf,Kp.upd (by simp),kvs,?_,?_,Yi _⟩
  ·rw[zal de];exact h1d
  ·refine((pF.same e1).fix (zcl hHe)).congr λt=>?_
   rw[List.take_zero,zfe];grind
 ·rintro i kx v σ H2 p b hk ⟨hi,⟨v4,v5,rfl⟩,hz,hk2,kv,hd2,pk,lk⟩ hp hb;obtain⟨t,rfl,t0,ht,iv,nv⟩:=pG.ix hk;have hlt:=zc0 hk;have hti:=zqu ntd ht;have tk:=zb7 ht;have fx:Fix H1 H2:=hk2.fix λa ha ob hob=>by
   rcases Yj.mp ha with rfl | ha
   ·rw[h1d]at hob;cases hob;exact .inl ⟨_,Z⟩
   ·rw[Yq.mp ha,hHe]at hob;cases hob;exact .inl ⟨_,Z⟩
  have fx2:Fix H H2:=(Fix.of e1).tr fx;refine⟨p,_,Z,SqT.of zaf,Z,_,_,Z,_,_,Z,Z,?_⟩;have e3:Same H2 (upd H2 p (.tup [.ref b,v])):=Same.upd hp;generalize upd H2 p (HO.tup [V.ref b,v])=H3 at e3;have hb3:=e3 _ _ hb;have hd3:=e3 _ _ hd2;have fx3:Fix H H3:=fx2.tr (.of e3);unfold za3;dsimp only;have cut0:cutP ψ ((tms fvs).take i) t=0:=zh7 hti;refine zbm (λσ' H'=>Same H3 H'/\∃v',σ'=[some (.ref r),some (.ref d),some (.ref e),some u,some (.ref b),some v']/\Rep g.n H' v' (φ t + ψ t)/\(valV kv (ky t)=none->φ t + ψ t≠0)) ?_ ?_;rotate_left
  ·intro N hN;refine⟨_,Z,_,Z,d,_,Z,DGet.t hd3 hb3,_,Z,?_⟩
   cases hval:valV kv (ky t) with
   | none=>
    have z:=pk.out t hval;rw[cut0]at z;have z2 : φ t=0:=by grind
    have e0 : φ t + ψ t = ψ t:=by rw[z2];grind
    refine iteF (hN _ _ ⟨Same.refl _,v,Z,?_,λ_=>by rw[e0];exact nv⟩);rw[e0];exact iv.fix fx3
   | some v0=>
    obtain⟨a1,a2⟩:=pk.val t v0 hval;rw[cut0]at a1;have e0 : φ t+0 = φ t:=by grind
    rw[e0]at a1;refine iteT ⟨_,Z,r,zav,dx,_,_,Z,fx3.ins hr0,T.cl_Ring,T.na_Ring_field,Z,g.pf,dF,_,Z,fx3.ins hF,no_P _ _ (by decide +kernel),_,Z,_,Z,d,v0,Z,?_,_,Z,F,fF,cF,g.pf,v0,v,φ t,ψ t,Z,zfm fx3 hf,a1.same e3,iv.fix fx3,bF t,bG t,λv' H4 e4 hv'=>hN _ _ ⟨e4,v',Z,hv',λz=>(by rw[hval]at z;cases z)⟩⟩;have:=DGet.t (k:=ky t) hd3 hb3;rw[hval]at this;exact this
  rintro σ' H4 ⟨e4,v',rfl,iv',hno⟩;have g4:=e3.trans e4;have hd4:=e4 _ _ hd3;have hb4:=e4 _ _ hb3;have hz4:FzD H4 e o fvs:=g4 _ _ hz;have hk4:Kp [d,e] H1 H4:=hk2.tr (.of g4);have pk4:=pk.same g4;obtain⟨dn,z0,rd,rz,s1,s2,eq⟩:=zgu (K:=K) iv' ((hu.fix fx).same g4);refine⟨_,rfl,_,rfl,dn,z0,rd,rz,s1,s2,_,rfl,?_⟩;rcases eq with⟨z,q⟩ | ⟨z,q⟩
  ·rw[q];refine iteT ?_
   cases hval:valV kv (ky t) with
   | none=>exact absurd z (hno hval)
   | some v0=>
    refine⟨_,Z,.inr (.inr (.inl ⟨Z,.inr ⟨_,hd4⟩⟩)),_,Z,d,b,kv,ky t,v0,Z,Z,hd4,hb4,hval,?_⟩;refine⟨hlt,⟨_,_,Z⟩,(zal (Jb de)).trans hz4,hk4.tr (Kp.upd (by simp)),_,zaf,?_,?_⟩
    ·rw[tk,<- zgc,z];exact(pk4.drop t).fix (zcl hd4)
    ·have:=zhm kv (ky t);omega
  ·rw[q];refine iteF ⟨_,Z,_,Z,_,Z,d,_,Z,DPut.t hd4 hb4 (by omega),?_⟩;refine⟨hlt,⟨_,_,Z⟩,(zal (Jb de)).trans hz4,hk4.tr (Kp.upd (by simp)),_,zaf,?_,?_⟩
   ·rw[tk,<- zgc];exact(pk4.put t0 iv' z).fix (zcl hd4)
   ·have:=zbs kv (ky t) v';omega
 ·rintro σ H2 ⟨_,⟨v4,v5,rfl⟩,hz,hk2,kv,hd2,pk,lk⟩;rw[<- lt,List.take_length,ze8 λt ht=>pG.tmem.mpr ht]at pk;refine .inr ⟨e,o,_,hz,λo' w' z=>?_,k _ kv (λb ob hb hbd=>?_) ?_ ?_ lk⟩
  ·have z':H e=some (.frz o' w'):=z;rw[he]at z';cases z'
  ·by_cases be:b=e
   ·subst be;rw[zaf,<- he];exact hb
   ·rw[zal be];exact hk2 _ _ (e1 _ _ hb) (by simp at hbd;simp[hbd,be])
  ·rw[zal de];exact hd2
  ·exact pk.fix (zdu (u:=.dT []) hz (.inr (.inr ⟨_,_,Z⟩)))
theorem ztx(F:FunD K "scaled" "scaled" zhp .none f fd)(c_Prod:Cal P w K mg base CX0 1 "product" ["one","other"] [] (zro K))(hfld:∀n:Int,n<=9973->(n=0\/Pr n)->∃C,FldP P w K mg base C (AtN zag zak n) n):FnOk P w K mg base CX0 4 f fd ["ring","number","term","f"] (zrg zav zag zak zab zab zab zab):=by
 have scScal:FnScope ["ring","number","term","f","found","part","factor"] ["ring","number","term","f"] (zaj zhp):=sM (by decide +kernel);refine F.okN (k:=3) scScal (by walk_at "v") (λcdv A outer s H vs Q E hr=>?_);walk_at "x";rename_i g_ hg_ F fF r v t e g cF fvs x l ψ;rintro⟨rfl,h⟩;subst hg_;obtain⟨CF,B⟩:=hfld g.n h.1.nb h.1.np;refine⟨_,(zad (za0 (zar (zf1 hr.units) (pv 1) (zce B.nought (za4 (K:=K) rfl (pv 0) rfl) hr zap .nil) (nomark _)) (zah (zao (zcm))) zat)
  (zad (zaq (i:=4) scScal.nd rfl (Or.inl rfl) (zcm))
  (zad (zf3 (zdk PassesOwn.never rfl (zc5 (pv 3)) (zes rfl (za9 (zbb (i:=5) scScal.nd rfl (Or.inl rfl)) (za9 (zbb (i:=6) scScal.nd rfl (Or.inl rfl)) zc8))) (zah (zhh (uOne hr) (pv 4) (pe_c c_Prod hr zap .nil ((zaa (pv 2) (zaa (pv 5) zai)))) (pe_m B.times (za4 (K:=K) rfl (pv 0) rfl) hr zap .nil ((zaa (pv 1) (zaa (pv 6) zai)))) rfl))))
  (zah (zao (pv 4)))))),?_⟩
 obtain⟨hR,iv,bx,ht,okl,he,pT,bT,hl,k⟩:=h;obtain⟨dx,hr0⟩:=hR.at_;have hf:=hR.fd;obtain⟨dF,hF⟩:=B.ins hf;refine⟨_,Z,_,Z,r,zav,dx,_,_,Z,hr0,T.cl_Ring,T.na_Ring_field,Z,g.pf,dF,_,Z,hF,no_P _ _ (by decide +kernel),F,fF,cF,g.pf,Z,hf,λu H1 e1 hu=>?_⟩;rw[zb3]at hu;obtain⟨dn,z0,rd,rz,s1,s2,eq⟩:=zgu (K:=K) (iv.same e1) hu;refine⟨dn,z0,rd,rz,s1,s2,_,Z,?_⟩;rcases eq with⟨z,q⟩ | ⟨z,q⟩
 ·rw[q];refine iteT ?_;intro d nd0;refine k d _ [] (e1.free nd0) (e1.updR (e1.free nd0)) zaf (PF.nil.congr λt=>by rw[z];grind) (Y2 _)
 ·rw[q];refine iteF ?_;intro d nd0;have e2:Same H1 (upd H1 d (.dT [])):=Same.upd nd0;have hd2:(upd H1 d (HO.dT [])) d=some (.dT []):=zaf;generalize upd H1 d (HO.dT [])=H2 at e2 hd2;have g2:=e1.trans e2;have he2:=g2 _ _ he;have de:d≠e:=λz=>by subst z;rw[e1 _ _ he]at nd0;cases nd0
  refine⟨_,Z,e,fvs,Z,.inl he2,λo=>?_⟩;have ntd:=pT.tnd;have ltk:=ze0 fvs;refine zb8 (λi σ H'=>i<=fvs.length/\(∃v5 v6,σ = [some (.ref r),some v,some (.ref t),some (.ref e),some (.ref d),v5,v6])/\FzD H' e o fvs/\Kp [d,e] H2 H'/\∃kv,H' d=some (.dT kv)/\PF g.n g.m H' kv (λt=>x*sh l (cutP ψ ((tms fvs).take i)) t)/\kv.length<=i) ?_ (λi σ H' h=>h.2.2.1) ?_ ?_
  ·refine⟨Y2 _,⟨none,none,Z⟩,zaf,Kp.upd (by simp),[],?_,PF.nil.congr λt=>?_,Y2 _⟩
   ·rw[zal de];exact hd2
   ·rw[List.take_zero,zfe];unfold sh;split <;> grind
  ·rintro i kx vx σ H3 p b hk ⟨hi,⟨v5,v6,rfl⟩,hz,hk3,kv,hd3,pk,lk⟩ hp hb;obtain⟨y,rfl,y0,hy,iy,ny⟩:=pT.ix hk;have hlt:=zc0 hk;have hti:=zqu ntd hy;have tk:=zb7 hy;have fx3:Fix H H3:=(Fix.of g2).tr (hk3.fix λa ha ob hob=>by
    rcases Yj.mp ha with rfl | ha
    ·rw[hd2]at hob;cases hob;exact .inl ⟨_,Z⟩
    ·rw[Yq.mp ha,he2]at hob;cases hob;exact .inl ⟨_,Z⟩)
   refine⟨p,_,Z,SqT.of zaf,Z,_,_,Z,_,_,Z,Z,?_⟩;have e4:Same H3 (upd H3 p (.tup [.ref b,vx])):=Same.upd hp;generalize upd H3 p (HO.tup [V.ref b,vx])=H4 at e4;have fx4:Fix H H4:=fx3.tr (.of e4);refine⟨_,Z,r,zav,dx,_,_,Z,fx4.ins hr0,T.cl_Ring,T.na_Ring_field,Z,g.pf,dF,_,Z,fx4.ins hF,no_P _ _ (by decide +kernel),_,Z,_,Z,F,fF,cF,g.pf,v,vx,x,ψ y,Z,zfm fx4 hf,iv.fix fx4,iy.fix fx4,bx,bT y,λv' H5 e5 hv'=>?_⟩;have hb4:=e4 _ _ hb;rw[zf8]at hb4;refine⟨_,Z,_,Z,_,Z,t,b,l,y,Z,SqT.of (e5 _ _ (fx4.tup _ _ ht)),SqT.of (e5 _ _ hb4),by rw[okl.len];exact Yr hR.m4 (by decide),λrr H6 e6 hrr=>?_⟩;have g6:=(e4.trans e5).trans e6;have hd6:=g6 _ _ hd3;refine⟨d,_,Z,DPut.t hd6 (by rw[zf8];exact hrr) (by omega),?_⟩;refine⟨hlt,⟨_,_,Z⟩,(zal (Jb de)).trans (g6 _ _ hz),(hk3.tr (.of g6)).tr (Kp.upd (by simp)),_,zaf,?_,?_⟩
   ·rw[tk,<- ziu (y0.len.trans okl.len.symm)];refine((pk.same g6).put (T0.add okl y0) (hv'.same e6) ?_).fix (zcl hd6);intro z';rcases Classical.em (x=0) with q' | q'
    ·exact z q'
    ·apply ny;grind
   ·have:=zbs kv (ky (addT l y)) v';omega
  ·rintro σ H3 ⟨_,⟨v5,v6,rfl⟩,hz,hk3,kv,hd3,pk,lk⟩;rw[<- ltk,List.take_length,ze8 λt ht=>pT.tmem.mpr ht]at pk;refine .inr ⟨e,o,_,hz,λo' w' z=>?_,?_⟩
   ·have z':H e=some (.frz o' w'):=z;rw[he]at z';cases z'
   refine⟨_,Z,k d _ kv (e1.free nd0) (λc ob hc=>?_) ((zal de).trans hd3) ?_ lk⟩
   ·by_cases ce:c=e
    ·subst ce;rw[zaf,<- he];exact hc
    ·rw[zal ce];exact hk3 _ _ (g2 _ _ hc) (by simp only[List.mem_cons,List.not_mem_nil,or_false,not_or];exact⟨(λz=>by subst z;rw[e1 _ _ hc]at nd0;cases nd0),ce⟩)
   ·exact pk.fix (zdu (u:=.dT []) hz (.inr (.inr ⟨_,_,Z⟩)))
theorem zsd(F:FunD K "times" "times" zjy .none f fd)(c_Scal:Cal P w K mg base CX0 4 "scaled" ["ring","number","term","f"] [] (zrg zav zag zak zab zab zab zab))(c_Absorb:Cal P w K mg base CX0 4 "absorb" ["ring","total","f"] [] (zs5 zav zag zak zab zab zab zab)):FnOk P w K mg base CX0 6 f fd ["ring","f","g"] (zqw zav zag zak zab zab zab zab):=by
 have scTimP:FnScope ["ring","f","g","total","term","number"] ["ring","f","g"] (zaj zjy):=sM (by decide +kernel);refine F.okN (k:=5) scTimP (by walk_at "v") (λcdv A outer s H vs Q E hr=>?_);walk_at "x";rename_i g_ hg_ F fF r e1 e2 g cF fvs gvs φ ψ k1 k2;rintro⟨rfl,h⟩;subst hg_;refine⟨_,(zad (zaq (i:=3) scTimP.nd rfl (Or.inl rfl) (zcm))
  (zad (zf3 (zdk PassesOwn.never rfl (zc5 (pv 1)) (zes rfl (za9 (zbb (i:=4) scTimP.nd rfl (Or.inl rfl)) (za9 (zbb (i:=5) scTimP.nd rfl (Or.inl rfl)) zc8))) (zah (zb9 (pe_c c_Absorb hr zap .nil ((zaa (pv 0) (zaa (pv 3) (zaa (pe_c c_Scal hr zap .nil ((zaa (pv 0) (zaa (pv 5) (zaa (pv 4) (zaa (pv 2) zai)))))) zai)))))))))
  (zah (zao (pv 3))))),?_⟩
 obtain⟨hR,e12,h1,h2,p1,p2,l1,b1,b2,kk,k⟩:=h;have l2:fvs.length*gvs.length+fvs.length+gvs.length+1<=1000000:=by rw[Nat.mul_add,Nat.add_mul]at l1;omega
 intro d nd0;have g2:Same H (upd H d (.dT [])):=Same.upd nd0;have hd2:(upd H d (HO.dT [])) d=some (.dT []):=zaf;dsimp only[za3];generalize upd H d (HO.dT [])=H2 at g2 hd2 ⊢;have he2:=g2 _ _ h1;have de:d≠e1:=λz=>zan h1 nd0 z.symm
 have de2:d≠e2:=λz=>zan h2 nd0 z.symm
 refine⟨_,Z,e1,fvs,Z,.inl he2,λo=>?_⟩;have ltk:=ze0 fvs;have sl:1002000<sizeLine:=by rw[sizeLine_eq];decide
 refine zb8 (λi σ H'=>i<=fvs.length/\(∃v4 v5,σ = [some (.ref r),some (.ref e1),some (.ref e2),some (.ref d),v4,v5])/\FzD H' e1 o fvs/\Kp [d,e1] H2 H'/\∃kv,H' d=some (.dT kv)/\PF g.n g.m H' kv (mul ((tms fvs).take i) φ ψ)/\kv.length<=i*gvs.length) ?_ (λi σ H' h=>h.2.2.1) ?_ ?_
 ·refine⟨Y2 _,⟨none,none,Z⟩,zaf,Kp.upd (by simp),[],(zal de).trans hd2,PF.nil.congr λt=>?_,Y2 _⟩;rw[List.take_zero];rfl
 ·rintro i kx vx σ H3 p b hk ⟨hi,⟨v4,v5,rfl⟩,hz,hk3,kv,hd3,pk,lk⟩ hp hb;obtain⟨y,rfl,y0,hy,iy,ny⟩:=p1.ix hk;have hlt:=zc0 hk;have tk:=zb7 hy;have fx3:Fix H H3:=(Fix.of g2).tr (hk3.fix λa ha ob hob=>by
   rcases Yj.mp ha with rfl | ha
   ·rw[hd2]at hob;cases hob;exact .inl ⟨_,Z⟩
   ·rw[Yq.mp ha,he2]at hob;cases hob;exact .inl ⟨_,Z⟩)
  refine⟨p,_,Z,SqT.of zaf,Z,_,_,Z,_,_,Z,Z,?_⟩;have e4:Same H3 (upd H3 p (.tup [.ref b,vx])):=Same.upd hp;generalize upd H3 p (HO.tup [V.ref b,vx])=H4 at e4;have fx4:Fix H H4:=fx3.tr (.of e4);have hb4:=e4 _ _ hb;rw[zf8]at hb4;have he24:H4 e2=some (.dT gvs):=e4 _ _ (hk3 _ _ (g2 _ _ h2) (by simp[Ne.symm de2,Ne.symm e12]));refine⟨_,Z,_,Z,_,Z,_,Z,_,Z,_,Z,F,fF,r,vx,b,e2,g,cF,gvs,φ y,y,ψ,Z,hR.fix fx4,iy.fix fx4,b1.lim (by omega) y,hb4,y0,he24,p2.fix fx4,b2.lim (by omega),by omega,λd5 H5 kv5 nd5 g5 hd5 pd5 lk5=>?_⟩;have g45:=e4.trans g5;have hd3':=g45 _ _ hd3;have ne5:d≠d5:=λz=>by subst z;rw[e4 _ _ hd3]at nd5;cases nd5
  have lkk:i*gvs.length<=fvs.length*gvs.length:=Y4 _ hi;refine⟨F,fF,r,d,d5,g,cF,kv,kv5,_,_,Z,(hR.fix fx4).same g5,ne5,hd3',hd5,pk.same g45,pd5,by omega,(b1.mul b2 (p1.tnd.sublist (List.take_sublist ..))).lim kk,λt=>?_,λH6 kv6 kp6 hd6 pd6 lk6=>?_⟩
  ·exact b1.lim1 b2 kk y t
  refine⟨hlt,⟨_,_,Z⟩,kp6 _ _ (g45 _ _ hz) (by simp[Ne.symm de]),(hk3.tr (.of g45)).tr (λb o hb nb=>kp6 b o hb λz=>nb (by simp at z;simp[z])),kv6,hd6,?_,?_⟩
  ·rw[tk,zk2];exact pd6
  ·rw[Nat.succ_mul];omega
 ·rintro σ H3 ⟨_,⟨v4,v5,rfl⟩,hz,hk3,kv,hd3,pk,lk⟩;rw[<- ltk,List.take_length]at pk;refine .inr ⟨e1,o,_,hz,λo' w' z=>?_,_,rfl,k d _ kv nd0 (λb ob hb=>?_) ((zal de).trans hd3) (pk.fix (zdu (u:=.dT []) hz (.inr (.inr ⟨_,_,rfl⟩)))) (b1.mul b2 p1.tnd) lk⟩
  ·have z':H e1=some (.frz o' w'):=z;rw[h1]at z';cases z'
  ·by_cases be:b=e1
   ·subst be;rw[zaf,<- h1];exact hb
   ·rw[zal be];exact hk3 _ _ (g2 _ _ hb) (by simp[be,zan hb nd0])
theorem zyw(F:FunD K "unit" "Ring.unit" zet .none f fd)   : FnOk P w K mg base CX0 1 f fd ["self"] (spUn zav zag zak zab zab zab zab):=by
 have scUn:FnScope ["self"] ["self"] (zaj zet):=sM (by decide +kernel);refine F.okN (k:=0) scUn (by walk_at "v") (λcdv A outer s H vs Q E hr=>?_);walk_at "x";rename_i g_ hg_ r g;rintro⟨rfl,h⟩;subst hg_;refine⟨_,(zah (zao (zau zsm (zbc ((zaa (zac) zai))) (za4 (K:=K) rfl (pv 0) rfl)))),?_⟩;obtain⟨hR,k⟩:=h;obtain⟨dx,hr0⟩:=hR.at_;have m1:=hR.m1;have m2:=hR.m4;refine⟨(by show 1<=sizeLine;decide),λt0 ht0=>?_⟩;have e1:Same H (upd H t0 (HO.tup [V.int 0])):=Same.upd ht0;refine⟨_,Z,r,zav,dx,_,_,Z,e1 _ _ hr0,T.cl_Ring,T.na_Ring_many,Z,?_⟩;refine⟨t0,[.int 0],g.m,Z,Z,SqT.of zaf,by simp,by omega,by omega,by simp;omega,λe=>?_,λh2 p hp=>?_⟩
 ·have e':g.m=1:=by omega
  exact k t0 _ e1 (by rw[e'];exact zaf)
 ·rw[zs7];exact k p _ (e1.updR (e1.free hp)) (by rw[Y1];exact zaf)
theorem zvb(F:FunD K "sign" "Reader.sign" zdx .none f fd)   : FnOk P w K mg base CX0 1 f fd ["self"] (zjn zae):=by
 have scSig:FnScope ["self"] ["self"] (zaj zdx):=sM (by decide +kernel);refine F.okN (k:=0) scSig (by walk_at "v") (λcdv A outer s H vs Q E hr=>?_);walk_at "x";rename_i g_ hg_ p dx u t i e;rintro⟨rfl,h⟩;subst hg_;refine⟨_,(zad (za0 (zar zic (za4 (K:=K) rfl (pv 0) rfl) (za1 zc4 rfl T.b_len PySem.boot_len ((zaa (za4 (K:=K) rfl (pv 0) rfl) zai))) (nomark _)) (zah (zao (zaw zq9 (za4 (K:=K) rfl (pv 0) rfl) (za4 (K:=K) rfl (pv 0) rfl) (λ_ _=>Z)))) zat)
  (zah (zao (zem T.g_END rfl)))),?_⟩
 obtain⟨hp,k⟩:=h;have tl:=hp.tl;have lt:t.cps.toList.length=t.length:=Array.length_toList;refine⟨_,Z,p,zae,dx,_,_,Z,hp.at_,T.cl_Reader,T.na_Reader_at,Z,_,Z,p,zae,dx,_,_,Z,hp.at_,T.cl_Reader,T.na_Reader_text,Z,t,Z,zl _ (by omega),_,_,Z,Z,_,Z,cD (λc=>?_) (λc=>?_)⟩
 ·have hc:t.cps.toList[i]? = some (sg t i):=by
   unfold sg;rw[List.getD_eq_getElem?_getD,Yc (by omega)];rfl
  exact⟨_,Z,p,zae,dx,_,_,Z,hp.at_,T.cl_Reader,T.na_Reader_text,Z,_,Z,p,zae,dx,_,_,Z,hp.at_,T.cl_Reader,T.na_Reader_at,Z,t,_,_,Z,Z,zl _ (by omega),zho hc,k⟩
 ·have e:sg t i=32:=by unfold sg;rw[List.getD_eq_getElem?_getD,Yy (by omega)];rfl
  rw[e]at k;exact k
theorem zu3(F:FunD K "passes" "Reader.passes" zcr .none f fd)(m_Sig:MCal P w K mg base CX0 1 zae "sign" ["self"] [] (zjn zae)):FnOk P w K mg base CX0 2 f fd ["self","sign"] (zjl zae):=by
 have scPas:FnScope ["self","sign"] ["self","sign"] (zaj zcr):=sM (by decide +kernel);refine F.okN (k:=1) scPas (by walk_at "v") (λcdv A outer s H vs Q E hr=>?_);walk_at "x";rename_i g_ hg_ p dx u t i e c;rintro⟨rfl,h⟩;subst hg_;refine⟨_,(zad (za0 (zar zj5 (zce m_Sig (pv 0) hr zap .nil) (pv 1) (nomark _)) (zah (zao (zcq))) zat)
  (zad (zdl (pv 0) (zac) zjg)
  (zah (zao (zcq))))),?_⟩
 obtain⟨hp,k1,k2⟩:=h;refine⟨_,Z,p,dx,_,Z,hp.at_,zbx _ (by decide +kernel),p,dx,u,t,i,e,Z,hp,_,Z,Z,_,Z,?_⟩;by_cases ee:sg t i=c
 ·rw[Yo (show V.str ⟨#[sg t i]⟩=V.str ⟨#[c]⟩ by rw[ee])];refine iteF ?_;refine⟨_,Z,p,zae,dx,_,_,Z,hp.at_,T.cl_Reader,T.na_Reader_at,Z,_,_,Z,Z,dx,_,hp.at_,(by show 4<1000;decide),?_⟩;exact k2 ee _ (Kp.upd (by simp)) hp.up
 ·rw[Yw (λz=>ee (zng z))];exact iteT (k1 ee)
theorem zyr(F:FunD K "__init__" "Reader.__init__" zb1 .none f fd)   : FnOk P w K mg base CX0 1 f fd ["self","unknowns","text"] (spRI zae):=by
 have scRI:FnScope ["self","unknowns","text"] ["self","unknowns","text"] (zaj zb1):=sM (by decide +kernel);refine F.okN (k:=0) scRI (by walk_at "v") (λcdv A outer s H vs Q E hr=>?_);walk_at "x";rename_i g_ hg_ p dx u x;rintro⟨rfl,h⟩;subst hg_;refine⟨_,(zp9 (pv 0) (pv 1) (zpp (pv 0) (zsg 2) (zad (zha (pv 0) (zac) rfl) (zah (zha (pv 0) (zac) rfl))))),?_⟩;obtain⟨hp,xl,ul,k⟩:=h;refine⟨_,Z,_,Z,p,zae,dx,_,Z,hp,T.cl_Reader,T.na_Reader_unknowns,(by show 0<1000;decide),?_⟩;refine⟨x,Z,by omega,_,Z,p,zae,dx,_,Z,zaf,T.cl_Reader,T.na_Reader_text,(by show 1<1000;decide),?_⟩;refine⟨_,Z,p,zae,dx,_,Z,zaf,T.cl_Reader,T.na_Reader_at,(by show 2<1000;decide),?_⟩;refine⟨_,Z,p,zae,dx,_,Z,zaf,T.cl_Reader,T.na_Reader_depth,(by show 3<1000;decide),?_⟩;refine k _ (((Kp.upd (by simp)).tr (Kp.upd (by simp))).tr ((Kp.upd (by simp)).tr (Kp.upd (by simp)))) ⟨zaf,Yr (zk3 x) xl,ul⟩
theorem zu7(F:FunD K "figures" "Reader.figures" zcj .none f fd)(m_Sig:MCal P w K mg base CX0 1 zae "sign" ["self"] [] (zjn zae))(x_NoText:Exc K mg base "NoText" zax)  : FnOk P w K mg base (CXe P w) 2 f fd ["self","most"] (zsk zae):=by
 have scFig:FnScope ["self","most","start"] ["self","most"] (zaj zcj):=sM (by decide +kernel);refine F.okX (k:=1) scFig (by walk_at "v") (λcdv A outer s H vs Q E hr=>?_);walk_at "x";rename_i g_ hg_ p dx u t i e most ds rest;rintro⟨rfl,h⟩;subst hg_;refine⟨_,(zad (zaq (i:=2) scFig.nd rfl (Or.inl rfl) (za4 (K:=K) rfl (pv 0) rfl))
  (zad (PS.nox (zb5 PassesOwn.never (zar zff (zce m_Sig (pv 0) hr zap .nil) (zem T.g_FIGURES rfl) rfl) (zah (zdl (pv 0) (zac) zjg))))
  (zad (za0 (PW.pt (zhv (zar zbp (za4 (K:=K) rfl (pv 0) rfl) (pv 2) (nomark _)) (zf6 (zar zfx (zau zle (za4 (K:=K) rfl (pv 0) rfl) (pv 2)) (pv 1) (nomark _))))) (zah (zg0 x_NoText rfl rfl za6 ((zaa (zay) zai)))) zat)
  (zah (zao (zbl zmv rfl T.b_int (by kernel_rfl) ((zaa (zfj zrp (za4 (K:=K) rfl (pv 0) rfl) (zez (pv 2)) (zez (za4 (K:=K) rfl (pv 0) rfl))) zai)))))))),?_⟩
 obtain⟨hp,ed,hd,hn,ne,lm,m1,k⟩:=h;have tl:=hp.tl;have lt:t.cps.toList.length=t.length:=Array.length_toList;have ll:=Jt List.length ed;rw[List.length_drop,Y6]at ll;have sgd:∀j,j<ds.length->isD (sg t (i+j))=true:=λj hj=>by
  refine hd _ ?_;have:t.cps.toList[i+j]? = some ds[j]:=by
   rw[<- List.getElem?_drop,ed,List.getElem?_append_left hj,Yc hj]
  unfold sg;rw[List.getD_eq_getElem?_getD,this];exact Js hj
 have sgn:isD (sg t (i+ds.length))=false:=by
  unfold sg;rw[List.getD_eq_getElem?_getD,<- List.getElem?_drop,ed,List.getElem?_append_right (Yi _),Nat.sub_self]
  cases rest with
  | nil=>rfl
  | cons c r=>exact hn c rfl
 have dl:1<=ds.length:=by
  cases ds with
  | nil=>exact absurd rfl ne
  | cons c r=>simp
 refine sab λrr hrr=>?_
 refine⟨_,Z,p,zae,dx,_,_,Z,hp.at_,T.cl_Reader,T.na_Reader_at,Z,?_⟩;dsimp only[za3];subst hrr;refine sab λrr hrr=>?_
 refine⟨λm σ H'=>∃j,m=ds.length-j/\j<=ds.length/\σ = [some (.ref p),some (.int most),some (.int i)]/\Kp [p] H H'/\RdA zae H' p dx u t (i+j) e,⟨_,0,Z,Y2 _,Z,Kp.refl _ _,hp⟩,?_⟩;rintro m σ H' ⟨j,rfl,hj,rfl,kp,ha⟩;refine⟨_,Z,p,dx,_,Z,ha.at_,zbx _ (by decide +kernel),p,dx,u,t,i+j,e,Z,ha,_,_,Z,Z,_,Z,?_⟩;rw[zwz];by_cases c:j<ds.length
 ·rw[sgd j c];refine iteT ⟨λσ' H''=>σ'=[some (.ref p),some (.int most),some (.int i)]/\Kp [p] H H''/\RdA zae H'' p dx u t (i+j+1) e,?_,?_⟩
  ·rintro σ' H'' ⟨rfl,kp',ha'⟩;exact⟨ds.length-(j+1),by omega,j+1,rfl,c,rfl,kp',ha'⟩
  ·refine⟨_,Z,p,zae,dx,_,_,Z,ha.at_,T.cl_Reader,T.na_Reader_at,Z,_,_,Z,Z,dx,_,ha.at_,(by show 4<1000;decide),?_⟩;exact⟨Z,kp.tr (Kp.upd (by simp)),ha.up⟩
 have ej:j=ds.length:=by omega
 subst ej;rw[sgn];refine iteF ?_;show rr _ _ _;subst hrr;refine⟨_,Z,p,zae,dx,_,_,Z,ha.at_,T.cl_Reader,T.na_Reader_at,Z,_,Z,Z,_,Z,cEq (λc1=>by omega) (λc1=>?_)⟩;refine⟨_,Z,p,zae,dx,_,_,Z,ha.at_,T.cl_Reader,T.na_Reader_at,Z,_,Z,_,_,Z,Z,_,Z,_,_,Z,Z,_,Z,?_⟩;rw[Yw (show ¬(most<(((i+ds.length:Nat):Int)-(i:Int))) by omega)];refine iteF ?_;have ec:cutS t (some (i:Int)) (some ((i+ds.length:Nat):Int))=⟨ds.toArray⟩:=by
  have q:=StrLaws.sliceText_plain (x:=t) (i:=i) (j:=((i+ds.length:Nat):Int)) ⟨by omega,by omega,by omega⟩;refine Eq.trans (show cutS t _ _=StrLaws.sliceText t _ _ from rfl) (q.trans ?_);rw[Y1,ed,show (((i+ds.length:Nat):Int)-(i:Int)).toNat=ds.length by omega,List.take_left]
 refine⟨_,Z,p,zae,dx,_,_,Z,ha.at_,T.cl_Reader,T.na_Reader_text,Z,_,Z,_,Z,_,Z,p,zae,dx,_,_,Z,ha.at_,T.cl_Reader,T.na_Reader_at,Z,_,Z,t,Z,by rw[ec];exact zl _ (by show ds.toArray.size<=_;simp;omega),?_⟩;rw[ec];refine⟨_,_,Z,PySem.intText_digits (λc hc=>?_) (by simpa using ne) (by show ds.toArray.size<=_;simp;omega),by show ds.toArray.size<=_;simp;omega,?_⟩
 ·have:=hd c (by simpa using hc);unfold isD at this;simp only[Bool.and_eq_true,decide_eq_true_eq]at this;exact this
 ·have e2:(⟨ds.toArray⟩:Str).cps.toList=ds:=by simp
  rw[e2];exact k H' kp ha
theorem zy3(F:FunD K "number" "Reader.number" zcy .none f fd)(m_Fig:MCal P w K mg base (CXe P w) 2 zae "figures" ["self","most"] [] (zsk zae))(m_Pas:MCal P w K mg base CX0 2 zae "passes" ["self","sign"] [] (zjl zae)):FnOk P w K mg base CX0 3 f fd ["self"] (spNu zae):=by
 have scNu:FnScope ["self","top","bottom"] ["self"] (zaj zcy):=sM (by decide +kernel);refine F.okN (k:=2) scNu (by walk_at "v") (λcdv A outer s H vs Q E hr=>?_);walk_at "x";rename_i g_ hg_ p dx u t i e a b r;rintro⟨rfl,h⟩;subst hg_;refine⟨_,(zad (zaq (i:=1) scNu.nd rfl (Or.inl rfl) (pe_m m_Fig (pv 0) hr zof .nil ((zaa (zek T.g_NUMBER_FIGURES rfl) zai))))
  (zad (zaq (i:=2) scNu.nd rfl (Or.inl rfl) (zac))
  (zad (za0 (zbt (pe_m m_Pas (pv 0) hr zap .nil ((zaa (zay) zai)))) (zah (zaq (i:=2) scNu.nd rfl (Or.inl rfl) (pe_m m_Fig (pv 0) hr zof .nil ((zaa (zek T.g_NUMBER_FIGURES rfl) zai))))) zat)
  (zah (zao (zbc ((zaa (zay) (zaa (pv 1) (zaa (pv 2) zai)))))))))),?_⟩
 obtain⟨hp,ed,st,ok1,ok2,k⟩:=h;obtain⟨ne1,la,dd1⟩:=ok1;obtain⟨r1,e1,n1⟩:∃r1,t.cps.toList.drop i=a++r1/\∀c,r1.head? = some c->isD c=false:=by
  cases b with
  | none=>exact⟨r,by rw[ed];show (a++[])++r=_;rw[List.append_nil],zjs st⟩
  | some b=>exact⟨47::b++r,by rw[ed];show (a++47::b)++r=_;simp,λc hc=>by cases hc;rfl⟩
 refine sab λrr hrr=>?_
 refine⟨_,Z,p,dx,_,Z,hp.at_,zbx _ (by decide +kernel),p,dx,u,t,i,e,30,a,r1,Z,hp,e1,dd1,n1,ne1,by omega,by decide,λH1 kp1 hp1=>?_⟩;dsimp only[za3];subst hrr;have d1:=zc1 e1;have hs:V.str "/" = V.str ⟨#[47]⟩:=s_of 47 _ (by decide +kernel);refine zbm (λσ' H'=>σ'=[some (.ref p),some (.int (dgv a:Nat)),some (.int 1)]/\H'=H1) ?_ λN hN=>?_
 rotate_left
 ·exact hN _ _ ⟨Z,Z⟩
 rintro σ' H' ⟨rfl,rfl⟩;refine zbm (λσ' H'=>σ'=[some (.ref p),some (.int (dgv a:Nat)),some (.int (opV b:Nat))]/\Kp [p] H H'/\RdA zae H' p dx u t (i+(nuT a b).length) e) ?_ λN hN=>?_
 rotate_left
 ·refine⟨_,Z,p,dx,_,Z,hp1.at_,zbx _ (by decide +kernel),?_⟩;rw[hs];refine⟨p,dx,u,t,i+a.length,e,47,Z,hp1,λc=>?_,λc H2 kp2 hp2=>?_⟩
  ·refine⟨_,Z,iteF ?_⟩
   cases b with
   | none=>exact hN _ _ ⟨rfl,kp1,by rw[show (nuT a none).length=a.length from Jt List.length (List.append_nil a)];exact hp1⟩
   | some b=>
    have:r1=47::b++r:=by
     have q:=e1.symm.trans ed;have q2:a++r1=a++(47::b++r):=by rw[q];show (a++47::b)++r=_;simp
     exact List.append_cancel_left q2
    rw[this]at d1;exact absurd (sg_c d1) c
  ·refine⟨_,Z,iteT ?_⟩
   cases b with
   | none=>
    have:r1=r:=List.append_cancel_left (e1.symm.trans (ed.trans (by show (a++[])++r=_;rw[List.append_nil])));rw[this]at d1;rcases sg_s d1 st with q | q | q | q | q <;> rw[q]at c <;> cases c
   | some b=>
    have:r1=47::b++r:=by
     have q:=e1.symm.trans ed;have q2:a++r1=a++(47::b++r):=by rw[q];show (a++47::b)++r=_;simp
     exact List.append_cancel_left q2
    rw[this]at d1;have d2:t.cps.toList.drop (i+a.length+1)=b++r:=zc1 (a:=[47]) d1;obtain⟨ne2,lb,dd2⟩:=ok2 b rfl;refine⟨_,Z,p,dx,_,Z,hp2.at_,zbx _ (by decide +kernel),p,dx,u,t,i+a.length+1,e,30,b,r,Z,hp2,d2,dd2,zjs st,ne2,by omega,by decide,λH3 kp3 hp3=>?_⟩;refine hN _ _ ⟨Z,(kp1.tr kp2).tr kp3,?_⟩;have el:i+(nuT a (some b)).length=i+a.length+1+b.length:=by
     show i+(a++47::b).length=_;simp;omega
    rw[el];exact hp3
 rintro σ' H' ⟨rfl,kp',hp'⟩;refine⟨_,rfl,_,rfl,(by show 3<=sizeLine;decide),λq nq=>?_⟩;have e4:Same H' (upd H' q (.tup [.str "number",.int (dgv a:Nat),.int (opV b:Nat)])):=Same.upd nq;exact k _ _ (kp'.tr (.of e4)) (hp'.same e4) (none_of kp' hp'.at_ nq) zaf
theorem zy6(F:FunD K "power" "Reader.power" zdj .none f fd)(m_Sig:MCal P w K mg base CX0 1 zae "sign" ["self"] [] (zjn zae))(m_Pas:MCal P w K mg base CX0 2 zae "passes" ["self","sign"] [] (zjl zae))(m_Fig:MCal P w K mg base (CXe P w) 2 zae "figures" ["self","most"] [] (zsk zae)):FnOk P w K mg base CX0 3 f fd ["self"] (spPo zae):=by
 have scPo:FnScope ["self","place","power"] ["self"] (zaj zdj):=sM (by decide +kernel);refine F.okN (k:=2) scPo (by walk_at "v") (λcdv A outer s H vs Q E hr=>?_);walk_at "x";rename_i g_ hg_ p dx t i e m k0 b r;rintro⟨rfl,h⟩;subst hg_;refine⟨_,(zad (zaq (i:=1) scPo.nd rfl (Or.inl rfl) (zjx PySem.F.plainAttrs_str PySem.F.slot_str_find PySem.F.type_str_find zs3 (za4 (K:=K) rfl (pv 0) rfl) ((zaa (zce m_Sig (pv 0) hr zap .nil) zai))))
  (zad (zdl (pv 0) (zac) zjg)
  (zad (zaq (i:=2) scPo.nd rfl (Or.inl rfl) (zac))
  (zad (za0 (zbt (pe_m m_Pas (pv 0) hr zap .nil ((zaa (zay) zai)))) (zah (zaq (i:=2) scPo.nd rfl (Or.inl rfl) (pe_m m_Fig (pv 0) hr zof .nil ((zaa (zek T.g_POWER_FIGURES rfl) zai))))) zat)
  (zah (zao (zbc ((zaa (zay) (zaa (pv 1) (zaa (pv 2) zai))))))))))),?_⟩
 obtain⟨hp,m4,ed,st,ok1,ok2,k⟩:=h;obtain⟨lf,lo,ln⟩:=ltrs m m4 k0 ok1;obtain⟨r1,e1⟩:∃r1,t.cps.toList.drop i=ltc k0::r1:=⟨_,ed⟩;have s0:=sg_c e1;refine sab λrr hrr=>?_
 refine⟨_,Z,p,zae,dx,_,_,Z,hp.at_,T.cl_Reader,T.na_Reader_unknowns,Z,Z,_,Z,p,dx,_,Z,hp.at_,zbx _ (by decide +kernel),p,dx,_,t,i,e,Z,hp,_,_,Z,Z,?_⟩;rw[s0,lf];dsimp only[za3];subst hrr;refine sab λrr hrr=>?_
 refine⟨_,Z,p,zae,dx,_,_,Z,hp.at_,T.cl_Reader,T.na_Reader_at,Z,_,_,Z,Z,dx,_,hp.at_,(by show 4<1000;decide),?_⟩;have hp1:=hp.up;have kp1:Kp [p] H (upd H p (.ins zae dx (putF "at" (.int ((i:Int)+1)) (RdO (nmS m) t i e)))):=Kp.upd (by simp);show rr _ _ _;generalize upd H p (.ins zae dx (putF "at" (.int ((i:Int)+1)) (RdO (nmS m) t i e)))=H1 at hp1 kp1 ⊢;subst hrr;have d1:t.cps.toList.drop (i+1)=r1:=zc1 (a:=[ltc k0]) e1;have hs:V.str "^" = V.str ⟨#[94]⟩:=s_of 94 _ (by decide +kernel);refine zbm (λσ' H'=>σ'=[some (.ref p),some (.int k0),some (.int 1)]/\H'=H1) ?_ λN hN=>?_
 rotate_left
 ·exact hN _ _ ⟨Z,Z⟩
 rintro σ' H' ⟨rfl,rfl⟩;refine zbm (λσ' H'=>σ'=[some (.ref p),some (.int k0),some (.int (opV b:Nat))]/\Kp [p] H H'/\RdA zae H' p dx (nmS m) t (i+(pwT k0 b).length) e) ?_ λN hN=>?_
 rotate_left
 ·refine⟨_,Z,p,dx,_,Z,hp1.at_,zbx _ (by decide +kernel),?_⟩;rw[hs];refine⟨p,dx,_,t,i+1,e,94,Z,hp1,λc=>?_,λc H2 kp2 hp2=>?_⟩
  ·refine⟨_,Z,iteF ?_⟩
   cases b with
   | none=>exact hN _ _ ⟨rfl,kp1,hp1⟩
   | some b=>
    have q:=e1.symm.trans ed;have:r1=94::b++r:=by injection q
    rw[this]at d1;exact absurd (sg_c d1) c
  ·refine⟨_,Z,iteT ?_⟩;have q:=e1.symm.trans ed
   cases b with
   | none=>
    have:r1=r:=by injection q
    rw[this]at d1;rcases sg_s d1 st with q | q | q | q | q <;> rw[q]at c <;> cases c
   | some b=>
    have:r1=94::b++r:=by injection q
    rw[this]at d1;have d2:t.cps.toList.drop (i+1+1)=b++r:=zc1 (a:=[94]) d1;obtain⟨ne2,lb,dd2⟩:=ok2 b rfl;refine⟨_,Z,p,dx,_,Z,hp2.at_,zbx _ (by decide +kernel),p,dx,_,t,i+1+1,e,2,b,r,Z,hp2,d2,dd2,zjs st,ne2,by omega,by decide,λH3 kp3 hp3=>?_⟩;refine hN _ _ ⟨Z,(kp1.tr kp2).tr kp3,?_⟩;have el:i+(pwT k0 (some b)).length=i+1+1+b.length:=by
     show i+(b.length+1+1)=_;omega
    rw[el];exact hp3
 rintro σ' H' ⟨rfl,kp',hp'⟩;refine⟨_,rfl,_,rfl,(by show 3<=sizeLine;decide),λq nq=>?_⟩;have e4:Same H' (upd H' q (.tup [.str "power",.int k0,.int (opV b:Nat)])):=Same.upd nq;exact k _ _ (kp'.tr (.of e4)) (hp'.same e4) (none_of kp' hp'.at_ nq) zaf
theorem zvc(F:FunD K "factor" "Reader.factor" zcv .none f fd)(m_Sig:MCal P w K mg base CX0 1 zae "sign" ["self"] [] (zjn zae))(m_Nu:MCal P w K mg base CX0 3 zae "number" ["self"] [] (spNu zae))(m_Po:MCal P w K mg base CX0 3 zae "power" ["self"] [] (spPo zae))(m_Pas:MCal P w K mg base CX0 2 zae "passes" ["self","sign"] [] (zjl zae))(x_NoText:Exc K mg base "NoText" zax){q e:Nat}(mB:MCal P w K mg base (CXe P w) q zae "bracket" ["self"] [] (zos zae e)):FnOk P w K mg base (CXe P w) (q+4) f fd ["self"] (spFc zae e):=by
 have scFac:FnScope ["self"] ["self"] (zaj zcv):=sM (by decide +kernel);refine F.okX (k:=q+3) scFac (by walk_at "v") (λcdv A outer s H vs Q E hr=>?_);walk_at "x";rename_i g_ hg_ p dx t i m s r;rintro⟨rfl,h⟩;subst hg_;have hrc:=hr.mono (show 3<=q+3 by omega);have hrq:=hr.mono (show q<=q+3 by omega);refine⟨_,(zad (za0 (zar zff (zce m_Sig (pv 0) hrc zap .nil) (zem T.g_FIGURES rfl) rfl) (zah (zao (zce m_Nu (pv 0) hrc zap .nil))) zat)
  (zad (za0 (zar zff (zce m_Sig (pv 0) hrc zap .nil) (za4 (K:=K) rfl (pv 0) rfl) rfl) (zah (zao (zce m_Po (pv 0) hrc zap .nil))) zat)
  (zad (za0 (zbt (pe_m m_Pas (pv 0) hrc zap .nil ((zaa (zay) zai)))) (zah (zao (zce mB (pv 0) hrq zaz .nil (Yi _)))) zat)
  (zah (zg0 x_NoText rfl rfl za6 ((zaa (zay) zai))))))),?_⟩
 obtain⟨hp,m4,ed,st,hs,k⟩:=h;refine⟨_,Z,p,dx,_,Z,hp.at_,zbx _ (by decide +kernel),p,dx,_,t,i,e,Z,hp,_,_,Z,Z,_,Z,?_⟩;rw[zwz];rcases fac3 hs with⟨a,b,etx,da,db,eb,ef,lb⟩ | ⟨k0,b,hk0,etx,db,eb,ef⟩ | ⟨n',pt,ps,en,hf,rfl⟩
 ·obtain⟨c,l,ec,dc⟩:=zm2 da;have hc:sg t i=c:=by
   refine sg_c (r:=l++opT 47 b++r) ?_;rw[ed,etx,ec];rfl
  rw[hc,dc];have ln:(nuT a b).length=s.tx.length:=by rw[etx]
  have l1:a.length<=(nuT a b).length:=by unfold nuT;rw[Y6];omega
  have l0:=List.length_pos_iff.mpr da.1;refine iteT ⟨_,Z,p,dx,_,Z,hp.at_,zbx _ (by decide +kernel),p,dx,_,t,i,e,a,b,r,Z,hp,by rw[<- etx];exact ed,st,da,db,λH' q kp ha nq hq=>k H' _ kp (by rw[<- ln];exact ha) (LfV.fv ⟨q,Z,nq,by omega,.inl ⟨_,_,hq,?_,?_,eb,ef⟩⟩)⟩
  ·rw[<- ln];exact Nat.le_of_lt (Yf (zje a da.2.2) (Yv (by decide) l1))
  ·rw[<- ln];exact Nat.le_of_lt lb
 ·obtain⟨lf,lo,ln⟩:=ltrs m m4 k0 hk0;have hc:sg t i=ltc k0:=by
   refine sg_c (r:=opT 94 b++r) ?_;rw[ed,etx];rfl
  rw[hc,ln];refine iteF ⟨_,Z,p,dx,_,Z,hp.at_,zbx _ (by decide +kernel),p,dx,_,t,i,e,Z,hp,_,Z,p,zae,dx,_,_,Z,hp.at_,T.cl_Reader,T.na_Reader_unknowns,Z,_,_,Z,Z,_,Z,?_⟩;rw[hc,lo];exact iteT ⟨_,Z,p,dx,_,Z,hp.at_,zbx _ (by decide +kernel),p,dx,t,i,e,m,k0,b,r,Z,hp,m4,by rw[<- etx];exact ed,st,hk0,db,λH' q kp ha nq hq=>k H' _ kp (by rw[etx];exact ha) (LfV.fv ⟨q,Z,nq,by rw[etx];exact Nat.succ_pos _,.inr ⟨_,_,hq,hk0,eb,ef⟩⟩)⟩
 ·have ed':t.cps.toList.drop i=40::(psT pt ps++41::r):=by rw[ed];show (40::(psT pt ps++[41]))++r=_;simp
  have c40:=sg_c ed';have d1:t.cps.toList.drop (i+1)=psT pt ps++41::r:=zc1 (a:=[40]) ed';rw[c40,show isD 40=false from rfl];refine iteF ⟨_,Z,p,dx,_,Z,hp.at_,zbx _ (by decide +kernel),p,dx,_,t,i,e,Z,hp,_,Z,p,zae,dx,_,_,Z,hp.at_,T.cl_Reader,T.na_Reader_unknowns,Z,_,_,Z,Z,_,Z,?_⟩;rw[c40,zyy m m4];have hs4:V.str "(" = V.str ⟨#[40]⟩:=s_of 40 _ (by decide +kernel);refine iteF ⟨_,Z,p,dx,_,Z,hp.at_,zbx _ (by decide +kernel),?_⟩;rw[hs4];refine⟨p,dx,_,t,i,e,40,Z,hp,λc=>absurd c40 c,λc H1 kp1 hp1=>?_⟩;refine⟨_,Z,iteT ⟨_,Z,p,dx,_,Z,hp1.at_,zbx _ (by decide +kernel),p,dx,t,i+1,m,pt,ps,r,Z,hp1,m4,d1,by omega,by rw[show 8-(e+1)=n' by omega];exact hf,λH2 v kp2 hp2 fv=>?_⟩⟩;refine k H2 v (kp1.tr kp2) ?_ (fv.keep λa o ha ho=>⟨none_of kp1 hp1.at_ ha,ho⟩);rw[show (40::(psT pt ps++[41])).length=(psT pt ps).length+1+1 by simp,show i+((psT pt ps).length+1+1)=i+1+(psT pt ps).length+1 by omega];exact hp2
theorem zvh(F:FunD K "factors" "Reader.factors" zci .none f fd)(m_Pas:MCal P w K mg base CX0 2 zae "passes" ["self","sign"] [] (zjl zae)){q e:Nat}(mF:MCal P w K mg base (CXe P w) q zae "factor" ["self"] [] (spFc zae e)):FnOk P w K mg base (CXe P w) (q+3) f fd ["self"] (zo7 zae e):=by
 have scFcs:FnScope ["self","found"] ["self"] (zaj zci):=sM (by decide +kernel);refine F.okX (k:=q+2) scFcs (by walk_at "v") (λcdv A outer s H vs Q E hr=>?_);walk_at "x";rename_i g_ hg_ p dx t i m f l r;rintro⟨rfl,h⟩;subst hg_;have hrc:=hr.mono (show 2<=q+2 by omega);have hrq:=hr.mono (show q<=q+2 by omega);refine⟨_,(zad (zaq (i:=1) scFcs.nd rfl (Or.inl rfl) (zdm ((zaa (zce mF (pv 0) hrq zaz .nil (Yi _)) zai))))
  (zad (zb5 PassesOwn.leaving (zbt (pe_m m_Pas (pv 0) hrc zap .nil ((zaa (zay) zai)))) (zah (zb9 (zjx PySem.F.plainAttrs_list PySem.F.slot_list_append PySem.F.type_list_append zec (pv 1) ((zaa (zce mF (pv 0) hrq zaz .nil (Yi _)) zai))))))
  (zah (zao (pv 1))))),?_⟩
 obtain⟨hp,m4,ed,en,ok,k⟩:=h;have tl:=hp.tl;have lt:t.cps.toList.length=t.length:=Array.length_toList;have l300:l.length<=300:=by
  have q:=Jt List.length ed;rw[List.length_drop,Y6,Y6]at q;have:∀l:List Sm,l.length<=(fsR l).length:=λl=>by
   induction l with
   | nil=>exact Yi _
   | cons a l ih=>show l.length+1<=(42::a.tx++fsR l).length;rw[Y6,Y5];omega
  have:=this l;omega
 refine sab λrr hrr=>?_
 refine⟨_,Z,p,dx,_,Z,hp.at_,zbx _ (by decide +kernel),p,dx,t,i,m,f,fsR l++r,Z,hp,m4,by rw[ed,List.append_assoc],ziw l en,ok f (by simp),λH1 v kp1 hp1 fv1=>?_⟩;refine⟨(by show 1<=sizeLine;decide),λb nb=>?_⟩;have e2:Same H1 (upd H1 b (.lst [v])):=Same.upd nb;have hb2:(upd H1 b (HO.lst [v])) b=some (.lst [v]):=zaf;dsimp only[za3];generalize upd H1 b (HO.lst [v])=H2 at e2 hb2 ⊢;subst hrr;have pb:p≠b:=λz=>by rw[<- z,hp1.at_]at nb;cases nb
 have nb0:H b=none:=none_of kp1 hp1.at_ nb;have k2:∀a o,H a=some o->a≠p->H2 a=some o:=λa o ha np=>e2 _ _ (kp1 _ _ ha (by simp[np]))
 have hs:V.str "*" = V.str ⟨#[42]⟩:=s_of 42 _ (by decide +kernel);have f0:FV m (8-e) (λa=>H a=none/\a≠b) H2 f v:=fv1.keep λa o ha ho=>⟨⟨ha,zan ho nb⟩,e2 _ _ ho⟩
 have hp2:=hp1.same e2;clear fv1 hp1 kp1;refine sab λrr hrr=>?_
 refine⟨λn σ H'=>∃(j:Nat) (ys:List V),n=l.length-j/\j<=l.length/\σ = [some (.ref p),some (.ref b)]/\Kp [p,b] H2 H'/\RdA zae H' p dx (nmS m) t (i+(f.tx++fsR (l.take j)).length) e/\H' b=some (.lst ys)/\Paired (FV m (8-e) (λa=>H a=none/\a≠b) H') (f::l.take j) ys,⟨_,0,[v],Z,Y2 _,Z,Kp.refl _ _,by rw[List.take_zero];show RdA _ _ _ _ _ _ (i+(f.tx++[]).length) _;rw[List.append_nil];exact hp2,hb2,by rw[List.take_zero];exact .cons f0 .nil⟩,?_⟩;rintro n σ H' ⟨j,ys,rfl,hj,rfl,kp,ha,hb,hy⟩;have dj:t.cps.toList.drop (i+(f.tx++fsR (l.take j)).length)=fsR (l.drop j)++r:=by
  refine zc1 (a:=f.tx++fsR (l.take j)) ?_;rw[ed];have:fsR l=fsR (l.take j)++fsR (l.drop j):=by unfold fsR;rw[<- List.flatMap_append,List.take_append_drop]
  rw[this];simp
 refine⟨_,Z,p,dx,_,Z,ha.at_,zbx _ (by decide +kernel),?_⟩;rw[hs];refine⟨p,dx,_,t,_,e,42,Z,ha,λc=>?_,λc H3 kp3 hp3=>?_⟩
 ·have ej:j=l.length:=by
   refine Classical.byContradiction λz=>c ?_
   have hj':j<l.length:=by omega
   rw[List.drop_eq_getElem_cons hj']at dj;exact sg_c dj
  subst ej;refine⟨_,Z,iteF ?_⟩;show rr _ _ _;subst hrr;rw[List.take_length]at ha hy;refine⟨_,Z,k H' b (λa o hq nq=>kp _ _ (k2 a o hq (by simpa using nq)) ?_) ha ⟨ys,nb0,hb,pimp (λ_ _ q=>q.keep λa o ha ho=>⟨ha.1,ho⟩) hy⟩⟩;simp only[List.mem_cons,List.not_mem_nil,or_false,not_or]at nq ⊢;exact⟨nq,zan hq nb0⟩
 ·have hj':j<l.length:=by
   refine Classical.byContradiction λz=>?_
   rw[show l.drop j=[] from List.drop_eq_nil_of_le (by omega)]at dj;replace dj:t.cps.toList.drop (i+(f.tx++fsR (l.take j)).length)=r:=dj;have:sg t (i+(f.tx++fsR (l.take j)).length)≠42:=by
    cases r with
    | nil=>rw[sg_n dj];decide
    | cons x r=>
     rw[sg_c dj];rcases en x rfl with q | q | q <;> rw[q] <;> decide
   exact this c
  have dk:t.cps.toList.drop (i+(f.tx++fsR (l.take j)).length+1)=l[j].tx++(fsR (l.drop (j+1))++r):=by
   rw[List.drop_eq_getElem_cons hj']at dj;have:=zc1 (a:=[42]) (r:=l[j].tx++(fsR (l.drop (j+1))++r)) (by
    rw[dj];show ((42::l[j].tx)++fsR (l.drop (j+1)))++r=_;rw[List.append_assoc];rfl)
   exact this
  have tk:l.take (j+1)=l.take j++[l[j]]:=by rw[List.take_add_one,Yc hj'];rfl
  have hb3:H3 b=some (.lst ys):=kp3 _ _ hb (by simp[Ne.symm pb]);have k3:∀a o,H a=some o->a≠p->H3 a=some o:=λa o hq np=>kp3 _ _ (kp _ _ (k2 a o hq np) (by simp[np,zan hq nb0])) (by simp[np])
  refine⟨_,Z,iteT ⟨λσ' H''=>σ'=[some (.ref p),some (.ref b)]/\Kp [p,b] H2 H''/\RdA zae H'' p dx (nmS m) t (i+(f.tx++fsR (l.take (j+1))).length) e/\∃ys,H'' b=some (.lst ys)/\Paired (FV m (8-e) (λa=>H a=none/\a≠b) H'') (f::l.take (j+1)) ys,?_,?_⟩⟩
  ·rintro σ' H'' ⟨rfl,q1,q2,ys',q⟩;exact⟨l.length-(j+1),by omega,j+1,ys',rfl,hj',rfl,q1,q2,q⟩
  refine⟨_,Z,.inl ⟨Z,_,SqL.of hb3⟩,_,Z,p,dx,_,Z,hp3.at_,zbx _ (by decide +kernel),p,dx,t,_,m,l[j],fsR (l.drop (j+1))++r,Z,hp3,m4,dk,ziw _ en,ok _ (List.mem_cons_of_mem _ (Js hj')),λH4 v4 kp4 hp4 fv4=>?_⟩;have hb4:H4 b=some (.lst ys):=kp4 _ _ hb3 (by simp[Ne.symm pb]);have ly:=Paired.length hy;rw[Y5,List.length_take]at ly;refine⟨b,_,_,Z,Z,hb4,zlt _ (by omega),?_⟩;refine⟨Z,((kp.tr (λq o hq nq=>kp3 _ _ hq λz=>nq (by simp at z;simp[z]))).tr (λq o hq nq=>kp4 _ _ hq λz=>nq (by simp at z;simp[z]))).tr (Kp.upd (by simp)),?_,_,zaf,?_⟩
  ·have el:i+(f.tx++fsR (l.take (j+1))).length=i+(f.tx++fsR (l.take j)).length+1+l[j].tx.length:=by
    rw[tk,zp3];simp only[List.length_append,List.length_cons];omega
   rw[el];exact{ hp4 with at_:=(zal pb).trans hp4.at_ }
  ·rw[tk,<- List.cons_append];refine psnoc (fv4.keep λa o q1 q2=>?_) (pimp (λ_ _ q=>q.keep λa o q1 q2=>⟨q1,?_⟩) hy)
   ·replace q1:H3 a=none:=q1;have ab:a≠b:=λz=>by rw[z,hb3]at q1;cases q1
    refine⟨⟨?_,ab⟩,(zal ab).trans q2⟩
    cases z:H a with
    | none=>rfl
    | some x=>
     by_cases zp:a=p
     ·rw[zp,hp3.at_]at q1;cases q1
     ·rw[k3 a x z zp]at q1;cases q1
   ·have ap:a≠p:=λz=>by have q:=q1.1;rw[z,hp.at_]at q;cases q
    exact(zal q1.2).trans (kp4 _ _ (kp3 _ _ q2 (by simp[ap])) (by simp[ap]))
theorem zxz(F:FunD K "parts" "Reader.parts" zbr .none f fd)(m_Pas:MCal P w K mg base CX0 2 zae "passes" ["self","sign"] [] (zjl zae))(m_Sig:MCal P w K mg base CX0 1 zae "sign" ["self"] [] (zjn zae)){q e:Nat}(mF:MCal P w K mg base (CXe P w) q zae "factors" ["self"] [] (zo7 zae e)):FnOk P w K mg base (CXe P w) (q+3) f fd ["self"] (zix zae e):=by
 have scPts:FnScope ["self","turn","found"] ["self"] (zaj zbr):=sM (by decide +kernel);refine F.okX (k:=q+2) scPts (by walk_at "v") (λcdv A outer s H vs Q E hr=>?_);walk_at "x";rename_i g_ hg_ p dx t i m pt ps r;rintro⟨rfl,h⟩;subst hg_;have hrc:=hr.mono (show 2<=q+2 by omega);have hrq:=hr.mono (show q<=q+2 by omega);refine⟨_,(zad (zaq (i:=1) scPts.nd rfl (Or.inl rfl) (zh5 (zbt (pe_m m_Pas (pv 0) hrc zap .nil ((zaa (zay) zai)))) (ze7 zc7 zac) (zac)))
  (zad (zaq (i:=2) scPts.nd rfl (Or.inl rfl) (zdm ((zaa (zbc ((zaa (pv 1) (zaa (zce mF (pv 0) hrq zaz .nil (Yi _)) zai)))) zai))))
  (zad (zb5 PassesOwn.leaving (PW.pt (zhv (zar zbp (zce m_Sig (pv 0) hrc zap .nil) (zay) (nomark _)) (zf6 (zar zbp (zce m_Sig (pv 0) hrc zap .nil) (zay) (nomark _))))) (zad (zaq (i:=1) scPts.nd rfl (Or.inl rfl) (zh5 (zar zbp (zce m_Sig (pv 0) hrc zap .nil) (zay) (nomark _)) (zac) (ze7 zc7 zac)))
  (zad (zdl (pv 0) (zac) zjg)
  (zah (zb9 (zjx PySem.F.plainAttrs_list PySem.F.slot_list_append PySem.F.type_list_append zec (pv 2) ((zaa (zbc ((zaa (pv 1) (zaa (zce mF (pv 0) hrq zaz .nil (Yi _)) zai)))) zai))))))))
  (zah (zao (pv 2)))))),?_⟩
 obtain⟨hp,m4,ed,en,ok,k⟩:=h;have tl:=hp.tl;have lt:t.cps.toList.length=t.length:=Array.length_toList;have l300:ps.length<=300:=by
  have q:=Jt List.length ed;unfold psT at q;rw[List.length_drop,Y6,Y6]at q;have:∀l:List Pt,l.length<=(psR l).length:=λl=>by
   induction l with
   | nil=>exact Yi _
   | cons a l ih=>show l.length+1<=(((if a.ng then 45 else 43)::ptT a)++psR l).length;rw[Y6,Y5];omega
  have:=this ps;omega
 have hm:V.str "-" = V.str ⟨#[45]⟩:=s_of 45 _ (by decide +kernel);have hpl:V.str "+" = V.str ⟨#[43]⟩:=s_of 43 _ (by decide +kernel);refine zbm (λσ' H'=>∃i0:Nat,σ'=[some (.ref p),some (.int (tnI pt.ng)),none]/\Kp [p] H H'/\RdA zae H' p dx (nmS m) t i0 e/\i0=i+(if pt.ng then [45] else []:List Nat).length) ?_ λN hN=>?_
 rotate_left
 ·refine⟨_,Z,p,dx,_,Z,hp.at_,zbx _ (by decide +kernel),?_⟩;rw[hm];refine⟨p,dx,_,t,i,e,45,Z,hp,λc=>?_,λc H1 kp1 hp1=>?_⟩
  ·refine⟨_,Z,iteF ?_⟩
   cases q:pt.ng with
   | true=>
    unfold psT at ed;rw[q]at ed;exact absurd (sg_c ed) c
   | false=>
    rw[q]at hN;exact hN _ _ ⟨i,Z,Kp.refl _ _,hp,Z⟩
  ·refine⟨_,Z,iteT ⟨_,Z,?_⟩⟩
   cases q:pt.ng with
   | true=>
    rw[q]at hN;exact hN _ _ ⟨i+1,Z,kp1,hp1,Z⟩
   | false=>
    obtain⟨x,y,ex,nx⟩:=zov m4 (ok pt (by simp) pt.f (by simp[Pt.fs]));unfold psT ptT at ed;rw[q,ex]at ed;exact absurd ((sg_c ed).symm.trans c) nx
 rintro σ' H1 ⟨i0,rfl,kp1,hp1,ei⟩;have d0:t.cps.toList.drop i0=pt.f.tx++fsR pt.r++(psR ps++r):=by
  rw[ei];exact zc1 (t:=t) (i:=i) (a:=(if pt.ng then [45] else []:List Nat)) (r:=ptT pt++(psR ps++r)) (by rw[ed];unfold psT;rw[List.append_assoc,List.append_assoc])
 refine sab λrr hrr=>?_
 refine⟨_,Z,_,Z,p,dx,_,Z,hp1.at_,zbx _ (by decide +kernel),p,dx,t,i0,m,pt.f,pt.r,psR ps++r,Z,hp1,m4,d0,zke ps en,ok pt (by simp),λH2 b1 kp2 hp2 fv1=>?_⟩;refine⟨(by show 2<=sizeLine;decide),λq1 nq1=>?_⟩;have e3:Same H2 (upd H2 q1 (.tup [.int (tnI pt.ng),.ref b1])):=Same.upd nq1;have hq3:(upd H2 q1 (HO.tup [V.int (tnI pt.ng),V.ref b1])) q1=some (.tup [.int (tnI pt.ng),.ref b1]):=zaf;generalize upd H2 q1 (HO.tup [V.int (tnI pt.ng),V.ref b1])=H3 at e3 hq3 ⊢;refine⟨(by show 1<=sizeLine;decide),λb nb=>?_⟩;have e4:Same H3 (upd H3 b (.lst [.ref q1])):=Same.upd nb;have hb4:(upd H3 b (HO.lst [V.ref q1])) b=some (.lst [.ref q1]):=zaf;dsimp only[za3];generalize upd H3 b (HO.lst [V.ref q1])=H4 at e4 hb4 ⊢;subst hrr;have kp12:=kp1.tr kp2;have nq0:H q1=none:=none_of kp12 hp2.at_ nq1;have nb0:H b=none:=none_of (kp12.tr (.of e3)) (e3 _ _ hp2.at_) nb;have hp4:=hp2.same (e3.trans e4);have pb:p≠b:=λz=>by rw[<- z,e3 _ _ hp2.at_]at nb;cases nb
 have k4:∀a o,H a=some o->a≠p->H4 a=some o:=λa o ha np=>e4 _ _ (e3 _ _ (kp12 _ _ ha (by simp[np])))
 have w1:PV (FV m (8-e) (λa=>H a=none/\a≠b) H4) (λa=>H a=none/\a≠b) H4 pt (.ref q1):=by
  have kk:Kpt (λa=>H1 a=none) (λa=>H a=none/\a≠b) H2 H4:=λa o q2 q3=>⟨⟨none_of kp1 hp1.at_ q2,zan (e3 _ _ q3) nb⟩,e4 _ _ (e3 _ _ q3)⟩
  exact⟨q1,b1,Z,⟨nq0,zan hq3 nb⟩,e4 _ _ hq3,fv1.keep kk λ_ _ q=>q.keep kk⟩
 have at0:i0+(pt.f.tx++fsR pt.r).length=i+(psT pt (ps.take 0)).length:=by
  rw[ei,List.take_zero];unfold psT;show _=i+(_++[]).length;rw[List.append_nil,Y6 (as:=if pt.ng then [45] else [])];unfold ptT;omega
 rw[at0]at hp4;refine sab λrr hrr=>?_
 refine⟨λn σ H'=>∃(j:Nat) (ys:List V) (v1:Option V),n=ps.length-j/\j<=ps.length/\σ = [some (.ref p),v1,some (.ref b)]/\Kp [p,b] H4 H'/\RdA zae H' p dx (nmS m) t (i+(psT pt (ps.take j)).length) e/\H' b=some (.lst ys)/\Paired (PV (FV m (8-e) (λa=>H a=none/\a≠b) H') (λa=>H a=none/\a≠b) H') (pt::ps.take j) ys,⟨_,0,[.ref q1],_,Z,Y2 _,Z,Kp.refl _ _,hp4,hb4,by rw[List.take_zero];exact .cons w1 .nil⟩,?_⟩;rintro n σ H' ⟨j,ys,v1,rfl,hj,rfl,kp,ha,hb,hy⟩;have dj:t.cps.toList.drop (i+(psT pt (ps.take j)).length)=psR (ps.drop j)++r:=by
  refine zc1 (t:=t) (i:=i) (a:=psT pt (ps.take j)) (r:=psR (ps.drop j)++r) ?_;rw[ed];unfold psT;have:psR ps=psR (ps.take j)++psR (ps.drop j):=by unfold psR;rw[<- List.flatMap_append,List.take_append_drop]
  rw[this];simp
 refine zjr (decide (sg t (i+(psT pt (ps.take j)).length)=43)) (decide (sg t (i+(psT pt (ps.take j)).length)=45)) (λQ' hQ=>⟨_,Z,p,dx,_,Z,ha.at_,zbx _ (by decide +kernel),p,dx,_,t,_,e,Z,ha,Z,_,Z,by rw[sdec _ hpl];exact hQ⟩) (λQ' hQ=>⟨_,Z,p,dx,_,Z,ha.at_,zbx _ (by decide +kernel),p,dx,_,t,_,e,Z,ha,Z,_,Z,by rw[sdec _ hm];exact hQ⟩) ?_;rcases Jf j ps.length with hj' | hj'
 rotate_left
 ·have ej:j=ps.length:=by omega
  subst ej;rw[List.drop_length]at dj;have s32:¬sg t (i+(psT pt (ps.take ps.length)).length)=43/\¬sg t (i+(psT pt (ps.take ps.length)).length)=45:=by
   cases r with
   | nil=>rw[sg_n (show t.cps.toList.drop _=[] from dj)];decide
   | cons c r=>rw[sg_c (show t.cps.toList.drop _=c::r from dj),en c rfl];decide
  rw[Yw s32.1,Yw s32.2];refine iteF ?_;show rr _ _ _;subst hrr;rw[List.take_length]at ha hy;refine⟨_,Z,k H' b (λa o hq nq=>kp _ _ (k4 a o hq (by simpa using nq)) ?_) ha ⟨ys,nb0,hb,pimp (λ_ _ q=>q.keep (λa o q1 q2=>⟨q1.1,q2⟩) λ_ _ q=>q.keep λa o q1 q2=>⟨q1.1,q2⟩) hy⟩⟩;simp only[List.mem_cons,List.not_mem_nil,or_false,not_or]at nq ⊢;exact⟨nq,zan hq nb0⟩
 rw[List.drop_eq_getElem_cons hj']at dj;have okj:=ok ps[j] (List.mem_cons_of_mem _ (Js hj'));have tk:ps.take (j+1)=ps.take j++[ps[j]]:=by rw[List.take_add_one,Yc hj'];rfl
 have sj:sg t (i+(psT pt (ps.take j)).length)=(if (ps[j]).ng then 45 else 43):=sg_c dj;have dk:t.cps.toList.drop (i+(psT pt (ps.take j)).length+1)=(ps[j]).f.tx++fsR (ps[j]).r++(psR (ps.drop (j+1))++r):=zc1 (a:=[if (ps[j]).ng then 45 else 43]) (dj.trans (by show ((if (ps[j]).ng then 45 else 43)::ptT ps[j])++psR (ps.drop (j+1))++r=_;rw[List.append_assoc];rfl));have sb:(decide (sg t (i+(psT pt (ps.take j)).length)=43)||decide (sg t (i+(psT pt (ps.take j)).length)=45))=true:=by
  rw[sj]
  cases (ps[j]).ng <;> rfl
 rw[sb];refine iteT ?_;refine⟨λσ' H''=>(∃v1,σ'=[some (.ref p),v1,some (.ref b)])/\Kp [p,b] H4 H''/\RdA zae H'' p dx (nmS m) t (i+(psT pt (ps.take (j+1))).length) e/\∃ys,H'' b=some (.lst ys)/\Paired (PV (FV m (8-e) (λa=>H a=none/\a≠b) H'') (λa=>H a=none/\a≠b) H'') (pt::ps.take (j+1)) ys,?_,?_⟩
 ·rintro σ' H'' ⟨⟨v1,rfl⟩,q1,q2,ys',q⟩;exact⟨ps.length-(j+1),by omega,j+1,ys',_,rfl,hj',rfl,q1,q2,q⟩
 refine zbm (λσ' H''=>σ'=[some (.ref p),some (.int (tnI (ps[j]).ng)),some (.ref b)]/\H''=H') ?_ λN hN=>?_
 rotate_left
 ·refine⟨_,Z,p,dx,_,Z,ha.at_,zbx _ (by decide +kernel),p,dx,_,t,_,e,Z,ha,Z,_,Z,?_⟩;rw[sdec _ hpl,sj]
  cases q:(ps[j]).ng with
  | false=>
   rw[q]at hN;exact iteT (hN _ _ ⟨Z,Z⟩)
  | true=>
   rw[q]at hN;exact iteF ⟨_,Z,hN _ _ ⟨Z,Z⟩⟩
 rintro σ' H'' ⟨rfl,rfl⟩;refine sab λr2 hr2=>?_
 refine⟨_,Z,p,zae,dx,_,_,Z,ha.at_,T.cl_Reader,T.na_Reader_at,Z,_,_,Z,Z,dx,_,ha.at_,(by show 4<1000;decide),?_⟩;have hp5:=ha.up;show r2 _ _ _;have kp5:Kp [p] H'' (upd H'' p (.ins zae dx (putF "at" (.int (((i+(psT pt (ps.take j)).length:Nat):Int)+1)) (RdO (nmS m) t (i+(psT pt (ps.take j)).length:Nat) e)))):=Kp.upd (by simp);generalize upd H'' p (.ins zae dx (putF "at" (.int (((i+(psT pt (ps.take j)).length:Nat):Int)+1)) (RdO (nmS m) t (i+(psT pt (ps.take j)).length:Nat) e)))=H5 at hp5 kp5 ⊢;subst hr2;have hb5:H5 b=some (.lst ys):=kp5 _ _ hb (by simp[Ne.symm pb]);have k5:∀a o,H a=some o->a≠p->H5 a=some o:=λa o hq np=>kp5 _ _ (kp _ _ (k4 a o hq np) (by simp[np,zan hq nb0])) (by simp[np])
 refine⟨_,Z,.inl ⟨Z,_,SqL.of hb5⟩,_,Z,_,Z,p,dx,_,Z,hp5.at_,zbx _ (by decide +kernel),p,dx,t,_,m,(ps[j]).f,(ps[j]).r,psR (ps.drop (j+1))++r,Z,hp5,m4,dk,zke _ en,okj,λH6 b6 kp6 hp6 fv6=>?_⟩;have hb6:H6 b=some (.lst ys):=kp6 _ _ hb5 (by simp[Ne.symm pb]);refine⟨(by show 2<=sizeLine;decide),λq7 nq7=>?_⟩;have e7:Same H6 (upd H6 q7 (.tup [.int (tnI (ps[j]).ng),.ref b6])):=Same.upd nq7;have hq7:(upd H6 q7 (HO.tup [V.int (tnI (ps[j]).ng),V.ref b6])) q7=some (.tup [.int (tnI (ps[j]).ng),.ref b6]):=zaf;generalize upd H6 q7 (HO.tup [V.int (tnI (ps[j]).ng),V.ref b6])=H7 at e7 hq7 ⊢;have hb7:=e7 _ _ hb6;have ly:=Paired.length hy;rw[Y5,List.length_take]at ly;refine⟨b,_,_,Z,Z,hb7,zlt _ (by omega),?_⟩;have nH:∀a,H5 a=none->H a=none:=λa q=>by
  cases z:H a with
  | none=>rfl
  | some x=>
   by_cases zp:a=p
   ·rw[zp,hp5.at_]at q;cases q
   ·rw[k5 a x z zp]at q;cases q
 have k7:∀a o,H7 a=some o->a≠b->(upd H7 b (.lst (ys++[.ref q7]))) a=some o:=λa o hq n2=>(zal n2).trans hq
 have q75:H5 q7=none:=by
  cases z:H5 q7 with
  | none=>rfl
  | some x=>
   by_cases zp:q7=p
   ·rw[zp,hp6.at_]at nq7;cases nq7
   ·rw[kp6 q7 x z (by simp[zp])]at nq7;cases nq7
 refine⟨⟨_,Z⟩,(((kp.tr (λq o hq nq=>kp5 _ _ hq λz=>nq (by simp at z;simp[z]))).tr (λq o hq nq=>kp6 _ _ hq λz=>nq (by simp at z;simp[z]))).tr (.of e7)).tr (Kp.upd (by simp)),?_,_,zaf,?_⟩
 ·have el:i+(psT pt (ps.take (j+1))).length=i+(psT pt (ps.take j)).length+1+((ps[j]).f.tx++fsR (ps[j]).r).length:=by
   unfold psT;rw[tk,zj9];unfold ptT;simp only[List.length_append,List.length_cons];omega
  rw[el];exact{ hp6 with at_:=k7 _ _ (e7 _ _ hp6.at_) pb }
 ·rw[tk,<- List.cons_append];have kk:Kpt (λa=>H5 a=none) (λa=>H a=none/\a≠b) H6 (upd H7 b (.lst (ys++[.ref q7]))):=λa o q2 q3=>by
   replace q2:H5 a=none:=q2;have ab:a≠b:=λz=>by rw[z,hb5]at q2;cases q2
   exact⟨⟨nH a q2,ab⟩,k7 _ _ (e7 _ _ q3) ab⟩
  have kk2:Kpt (λa=>H a=none/\a≠b) (λa=>H a=none/\a≠b) H'' (upd H7 b (.lst (ys++[.ref q7]))):=λa o q1 q2=>by
   have ap:a≠p:=λz=>by have q:=q1.1;rw[z,hp.at_]at q;cases q
   exact⟨q1,k7 _ _ (e7 _ _ (kp6 _ _ (kp5 _ _ q2 (by simp[ap])) (by simp[ap]))) q1.2⟩
  have qb:q7≠b:=λz=>by rw[z,hb6]at nq7;cases nq7
  exact psnoc ⟨q7,b6,Z,⟨nH _ q75,qb⟩,k7 _ _ hq7 qb,fv6.keep kk λ_ _ q=>q.keep kk⟩ (pimp (λ_ _ q=>q.keep kk2 λ_ _ q=>q.keep kk2) hy)
theorem zxq(F:FunD K "bracket" "Reader.bracket" zcc .none f fd)(m_Pas:MCal P w K mg base CX0 2 zae "passes" ["self","sign"] [] (zjl zae))(x_NoText:Exc K mg base "NoText" zax){q e:Nat}{sP:Sp}(mP:MCal P w K mg base (CXe P w) q zae "parts" ["self"] [] sP)(hP:e<8->sP=zix zae (e+1)):FnOk P w K mg base (CXe P w) (q+3) f fd ["self"] (zos zae e):=by
 have scBrk:FnScope ["self","found"] ["self"] (zaj zcc):=sM (by decide +kernel);refine F.okX (k:=q+2) scBrk (by walk_at "v") (λcdv A outer s H vs Q E hr=>?_);walk_at "x";rename_i g_ hg_ p dx t i m pt ps r;rintro⟨rfl,h⟩;subst hg_;have hrc:=hr.mono (show 2<=q+2 by omega);have hrq:=hr.mono (show q<=q+2 by omega);refine⟨_,(zad (zdl (pv 0) (zac) zjg)
  (zad (za0 (zar zfx (za4 (K:=K) rfl (pv 0) rfl) (zek T.g_MOST_DEPTH rfl) (nomark _)) (zah (zg0 x_NoText rfl rfl za6 ((zaa (zay) zai)))) zat)
  (zad (zaq (i:=1) scBrk.nd rfl (Or.inl rfl) (zce mP (pv 0) hrq zaz .nil (Yi _)))
  (zad (za0 (zeq (zbt (pe_m m_Pas (pv 0) hrc zap .nil ((zaa (zay) zai))))) (zah (zg0 x_NoText rfl rfl za6 ((zaa (zay) zai)))) zat)
  (zad (zdl (pv 0) (zac) zwk)
  (zah (zao (zbc ((zaa (zay) (zaa (pv 1) (zaa (zk9) zai)))))))))))),?_⟩
 obtain⟨hp,m4,ed,e7,ok,k⟩:=h;refine sab λrr hrr=>?_
 refine⟨_,Z,p,zae,dx,_,_,Z,hp.at_,T.cl_Reader,T.na_Reader_depth,Z,_,_,Z,Z,dx,_,hp.at_,(by show 4<1000;decide),?_⟩;have hp1:=hp.dp (d:=(e:Int)+1) (e':=e+1) (by omega);have kp1:Kp [p] H (upd H p (.ins zae dx (putF "depth" (.int ((e:Int)+1)) (RdO (nmS m) t i e)))):=Kp.upd (by simp);show rr _ _ _;generalize upd H p (.ins zae dx (putF "depth" (.int ((e:Int)+1)) (RdO (nmS m) t i e)))=H1 at hp1 kp1 ⊢;subst hrr;refine⟨_,Z,p,zae,dx,_,_,Z,hp1.at_,T.cl_Reader,T.na_Reader_depth,Z,_,_,Z,Z,_,Z,cD (λc=>by omega) (λc=>?_)⟩;refine sab λrr hrr=>?_
 show rr _ _ _;subst hrr;refine sab λrr hrr=>?_
 refine⟨_,Z,p,dx,_,Z,hp1.at_,zbx _ (by decide +kernel),?_⟩;rw[hP e7];refine⟨p,dx,t,i,m,pt,ps,41::r,Z,hp1,m4,ed,(λc hc=>by injection hc with hc;exact hc.symm),ok,λH2 b kp2 hp2 pv=>?_⟩;dsimp only[za3];subst hrr;have kp12:=kp1.tr kp2;have hs:V.str ")" = V.str ⟨#[41]⟩:=s_of 41 _ (by decide +kernel);have d2:t.cps.toList.drop (i+(psT pt ps).length)=41::r:=zc1 ed;refine⟨_,Z,p,dx,_,Z,hp2.at_,zbx _ (by decide +kernel),?_⟩;rw[hs];refine⟨p,dx,_,t,_,e+1,41,Z,hp2,λc2=>absurd (sg_c d2) c2,λc2 H3 kp3 hp3=>?_⟩;refine⟨_,Z,iteF ?_⟩;refine sab λrr hrr=>?_
 show rr _ _ _;subst hrr;refine sab λrr hrr=>?_
 refine⟨_,Z,p,zae,dx,_,_,Z,hp3.at_,T.cl_Reader,T.na_Reader_depth,Z,_,_,Z,Z,dx,_,hp3.at_,(by show 4<1000;decide),?_⟩;have hp4:=hp3.dp (d:=((e+1:Nat):Int)-1) (e':=e) (by omega);have kp4:Kp [p] H3 (upd H3 p (.ins zae dx (putF "depth" (.int (((e+1:Nat):Int)-1)) (RdO (nmS m) t (i+(psT pt ps).length+1:Nat) (e+1:Nat))))):=Kp.upd (by simp);show rr _ _ _;generalize upd H3 p (.ins zae dx (putF "depth" (.int (((e+1:Nat):Int)-1)) (RdO (nmS m) t (i+(psT pt ps).length+1:Nat) (e+1:Nat))))=H4 at hp4 kp4 ⊢;subst hrr;refine⟨_,Z,(by show 3<=sizeLine;decide),λq nq=>?_⟩;have e5:Same H4 (upd H4 q (.tup [.str "sum",.ref b,.non])):=Same.upd nq;have kp14:=(kp12.tr kp3).tr kp4;have nq0:=none_of kp14 hp4.at_ nq;refine k _ _ (kp14.tr (.of e5)) (hp4.same e5) ?_;rw[show 8-e=(8-(e+1))+1 by omega];have kk:Kpt (λa=>H1 a=none) (λa=>H a=none) H2 (upd H4 q (.tup [.str "sum",.ref b,.non])):=λa o q2 q3=>by
  replace q2:H1 a=none:=q2;have ap:a≠p:=λz=>by rw[z,hp1.at_]at q2;cases q2
  exact⟨none_of kp1 hp1.at_ q2,e5 _ _ (kp4 _ _ (kp3 _ _ q3 (by simp[ap])) (by simp[ap]))⟩
 exact .inr ⟨q,b,pt,ps,Z,nq0,zaf,pv.keep kk (λ_ _ q=>q.keep kk),Z⟩
theorem zv2(F:FunD K "parts" "Reader.parts" zbr .none f fd)   : FnOk P w K mg base (CXe P w) 1 f fd ["self"] (λ_ _ _ _=>False):=by
 have scPtV:FnScope ["self","turn","found"] ["self"] (zaj zbr):=sM (by decide +kernel);exact F.okX (k:=0) scPtV (λ_ _ _ _ h=>h.elim) (λ_ _ _ _ _ _ _ _ _ h=>h.elim)
theorem zyb(F:FunD K "whole_sum" "Reader.whole_sum" zbv .none f fd)(m_Sig:MCal P w K mg base CX0 1 zae "sign" ["self"] [] (zjn zae))(x_NoText:Exc K mg base "NoText" zax)(mP0:MCal P w K mg base (CXe P w) 130 zae "parts" ["self"] [] (zix zae 0)):FnOk P w K mg base (CXe P w) 131 f fd ["self"] (spWs zae):=by
 have scWs:FnScope ["self","found"] ["self"] (zaj zbv):=sM (by decide +kernel);refine F.okX (k:=130) scWs (by walk_at "v") (λcdv A outer s H vs Q E hr=>?_);walk_at "x";rename_i g_ hg_ p dx t m pt ps;rintro⟨rfl,h⟩;subst hg_;refine⟨_,(zad (zaq (i:=1) scWs.nd rfl (Or.inl rfl) (zce mP0 (pv 0) hr zaz .nil))
  (zad (za0 (zar zj5 (zce m_Sig (pv 0) hr zap .nil) (zem T.g_END rfl) (nomark _)) (zah (zg0 x_NoText rfl rfl za6 ((zaa (zay) zai)))) zat)
  (zah (zao (pv 1))))),?_⟩
 obtain⟨hp,m4,et,ok,k⟩:=h;have h32:V.str " " = V.str ⟨#[32]⟩:=s_of 32 _ (by decide +kernel);refine sab λrr hrr=>?_
 refine⟨_,Z,p,dx,_,Z,hp.at_,zbx _ (by decide +kernel),p,dx,t,0,m,pt,ps,[],Z,hp,m4,by rw[List.drop_zero,List.append_nil];exact et,(λ_ z=>nomatch z),ok,λH1 b kp1 hp1 pv=>?_⟩;dsimp only[za3];subst hrr;refine⟨_,Z,p,dx,_,Z,hp1.at_,zbx _ (by decide +kernel),p,dx,_,t,_,0,Z,hp1,Z,_,Z,?_⟩;rw[sdec _ h32,sg_n (by rw[Nat.zero_add,<- et,List.drop_length]),Yo rfl];exact iteF ⟨_,Z,k H1 b kp1 pv⟩
theorem zws(F:FunD K "constant" "Ring.constant" zcs .none f fd)(m_Un:MCal P w K mg base CX0 1 zav "unit" ["self"] [] (spUn zav zag zak zab zab zab zab))(hfle:∀n:Int,n<=9973->(n=0\/Pr n)->∃C,FldE P w K mg base zam C (AtN zag zak n) n):FnOk P w K mg base CX0 4 f fd ["self","number"] (zsh zav zag zak zab zab zab zab):=by
 have scCon:FnScope ["self","number"] ["self","number"] (zaj zcs):=sM (by decide +kernel);refine F.okN (k:=3) scCon (by walk_at "v") (λcdv A outer s H vs Q E hr=>?_);walk_at "x";rename_i g_ hg_ F fF r v g cF x;rintro⟨rfl,h⟩;subst hg_;obtain⟨CF,B⟩:=hfle g.n h.1.nb h.1.np;refine⟨_,(zad (za0 (zar (zf1 hr.units) (pv 1) (zce B.nought (za4 (K:=K) rfl (pv 0) rfl) hr zap .nil) (nomark _)) (zah (zao (zcm))) zat)
  (zah (zao (zga hr.units0 (zce m_Un (pv 0) hr zap .nil) (pv 1))))),?_⟩
 obtain⟨hR,iv,k⟩:=h;obtain⟨dx,hr0⟩:=hR.at_;have hf:=hR.fd;obtain⟨dF,hF⟩:=B.ins hf;refine⟨_,Z,_,Z,r,zav,dx,_,_,Z,hr0,T.cl_Ring,T.na_Ring_field,Z,g.pf,dF,_,Z,hF,no_P _ _ (by decide +kernel),F,fF,cF,g.pf,Z,hf,λu H1 e1 hu=>?_⟩;rw[zb3]at hu;obtain⟨dn,z0,rd,rz,s1,s2,eq⟩:=zgu (K:=K) (iv.same e1) hu;refine⟨dn,z0,rd,rz,s1,s2,_,Z,?_⟩;rcases eq with⟨z,q⟩ | ⟨z,q⟩
 ·rw[q];refine iteT λd nd0=>k d _ [] (e1.free nd0) (e1.updR (e1.free nd0)) zaf (PF.nil.congr λt=>?_) (Y2 _)
  rw[z,mo_0]
 ·rw[q];refine iteF λd hd=>?_
  have hd0:=e1.free hd;have e2:=e1.updR (o:=.dT []) hd0;have d1:(upd H1 d (HO.dT [])) d=some (.dT []):=zaf;generalize upd H1 d (HO.dT [])=H2 at e2 d1;refine⟨_,Z,r,dx,_,Z,e2 _ _ hr0,no_G _ (by decide +kernel) (by decide +kernel) (by decide +kernel),r,g,Z,hR.same e2,λt H3 e3 ht=>?_⟩;refine⟨_,Z,t,ky (zer g.m),Z,e3 _ _ d1,by rw[zf8];exact ht,?_⟩;have g3:Same H (upd H3 d (.dT [(ky (zer g.m),v)])):=(e2.trans e3).updR hd0;exact k d _ _ hd0 g3 zaf (zqe (iv.same g3) (T0.zer _) z) (Yi _)
theorem zpx(F:FunD K "alone" "alone" zjt .none f fd)   : FnOk P w K mg base CX0 1 f fd ["many","at","power"] zmq:=by
 have scAlone:FnScope ["many","at","power"] ["many","at","power"] (zaj zjt):=sM (by decide +kernel);refine F.okN (k:=0) scAlone (by walk_at "v") (λcdv A outer s H vs Q E hr=>?_);walk_at "x";rename_i g_ hg_ m a p;rintro⟨rfl,h⟩;subst hg_;refine⟨_,(zah (zao (zbl (zcz (K:=K) rfl) rfl T.b_tuple (by kernel_rfl) ((zaa (zh6 (N:=["place","at","power"]) (cl:=[("power",s.heap.objs.size+2),("at",s.heap.objs.size+1)]) (mp:=[none,some 1,some 2]) (Blk.of rfl (by decide +kernel) rfl (by decide +kernel) zdn (zfh rfl (zfh rfl zkb)) (zug (fs:=["power","at"]) rfl (by decide +kernel)) rfl (ziy (ze6 rfl (.inl rfl) rfl (ze6 rfl (.inl rfl) rfl zko)))) rfl (zgw rfl T.b_range ((zaa (pv 0) zai))) (λC0 s0 H0 fp0=>zr1 (i:=0) zdn rfl rfl) (λC0 s0 H0 fp0=>zh4) (λC0 s0 H0 fp0=>zh5 (zar zbp (pv 0) (pv 1) (nomark _)) (pv 2) (zac))) zai))))),?_⟩;obtain⟨m1,m2,a0,k⟩:=h;show tComp _ _ _ _ _ _ _ _;refine zhc (H1:=H) m (λσ=>∃v,σ = [v,some (.int a),some (.int p)]) (λ_=>true) (λi=>.int (if i=a.toNat then p else 0)) (by omega) (by omega) ?_ ⟨none,Z⟩ ?_ λD H' e hL=>?_
 ·exact λR hR=>⟨_,Z,hR⟩
 ·rintro i σ' H2 hi ⟨z,rfl⟩ e Ny Nn hy hn;unfold za3 tYes;dsimp only;rw[Yl rfl];have q:=hy [some (.int (0+(i:Int))),some (.int a),some (.int p)] H2 ⟨_,rfl⟩ (Same.refl _) rfl;refine⟨_,rfl,_,rfl,rfl,_,rfl,cEq (λc=>?_) (λc=>?_)⟩
  ·rw[Yl (by omega)]at q;exact⟨_,Z,q⟩
  ·rw[Yh (by omega)]at q;exact q
 rw[Yu.mpr (λ_ _=>Z)]at hL;refine⟨D,_,Z,.inl ⟨SqL.of hL,λl hl=>k l _ (e.updR (e.free hl)) ?_⟩⟩;rw[zaf];unfold only;rw[Jg];rfl
theorem zse(F:FunD K "sum_of" "sum_of" zfc .none f fd)   : FnOk P w K mg base (CXe P w) 1 f fd ["ring","parts"] (λ_ _ _ _=>False):=by
 have scSumV:FnScope ["ring","parts","total","turn","factors","found","factor"] ["ring","parts"] (zaj zfc):=sM (by decide +kernel);exact F.okX (k:=0) scSumV (λ_ _ _ _ h=>h.elim) (λ_ _ _ _ _ _ _ _ _ h=>h.elim)
theorem zye(F:FunD K "factor_of" "factor_of" zew .none f fd)(m_Con:MCal P w K mg base CX0 4 zav "constant" ["self","number"] [] (zsh zav zag zak zab zab zab zab))(c_Alone:Cal P w K mg base CX0 1 "alone" ["many","at","power"] [] zmq)(hfle:∀n:Int,n<=9973->(n=0\/Pr n)->∃C,FldE P w K mg base zam C (AtN zag zak n) n){q n:Nat}{sS:Sp}(cS:Cal P w K mg base (CXe P w) q "sum_of" ["ring","parts"] [] sS)(hS:∀n',n=n'+1->sS=zik zam zav zag zak zab zab zab zab n'):FnOk P w K mg base (CXe P w) (q+9) f fd ["ring","factor"] (spFO zam zav zag zak zab zab zab zab n):=by
 have scFO:FnScope ["ring","factor"] ["ring","factor"] (zaj zew):=sM (by decide +kernel);refine F.okX (k:=q+8) scFO (by walk_at "v") (λcdv A outer s H vs Q E hr=>?_);walk_at "x";rename_i g_ hg_ F fF r v g cF s;rintro⟨rfl,h⟩;subst hg_;obtain⟨CF,B⟩:=hfle g.n h.1.nb h.1.np;have hrc:=hr.mono (show 8<=q+8 by omega);have hrq:=hr.mono (show q<=q+8 by omega);refine⟨_,(zad (za0 (zar zbp (zaw (r:=rIxT K) zas (pv 1) (zac) (λ_ _=>Z)) (zay) (nomark _)) (zah (zao (pe_m m_Con (pv 0) hrc zap .nil ((zaa (pe_m B.made (za4 (K:=K) rfl (pv 0) rfl) hrc zaz .nil ((zaa (zaw (r:=rIxT K) zas (pv 1) (zac) (λ_ _=>Z)) (zaa (zaw (r:=rIxT K) zas (pv 1) (zac) (λ_ _=>Z)) zai)))) zai))))) zat)
  (zad (za0 (zar zbp (zaw (r:=rIxT K) zas (pv 1) (zac) (λ_ _=>Z)) (zay) (nomark _)) (zah (zao (zga hrc.units0 (pe_c c_Alone hrc zap .nil ((zaa (za4 (K:=K) rfl (pv 0) rfl) (zaa (zaw (r:=rIxT K) zas (pv 1) (zac) (λ_ _=>Z)) (zaa (zaw (r:=rIxT K) zas (pv 1) (zac) (λ_ _=>Z)) zai))))) (zce B.one (za4 (K:=K) rfl (pv 0) rfl) hrc zap .nil)))) zat)
  (zah (zao (pe_c (hk:=Yi _) cS hrq zaz .nil ((zaa (pv 0) (zaa (zaw (r:=rIxT K) zas (pv 1) (zac) (λ_ _=>Z)) zai)))))))),?_⟩
 obtain⟨hR,fv,s3,l12,kx,k⟩:=h;obtain⟨dx,hr0⟩:=hR.at_;have hf:=hR.fd;obtain⟨dF,hF⟩:=B.ins hf;have sok:=fv.sok;rcases zve fv with⟨q,rfl,_,lv1,⟨a,b,hq,la,lb,bb,ef⟩ | ⟨k0,e,hq,hk0,bt0,ef⟩⟩ | ⟨n',q,l,pt,ps,en,rfl,hq,pv,rfl⟩
 ·refine⟨_,Z,q,_,_,_,Z,Z,SqT.of hq,Z,Z,_,Z,?_⟩;rw[Yo rfl];refine iteT ⟨_,Z,r,dx,_,Z,hr0,no_G _ (by decide +kernel) (by decide +kernel) (by decide +kernel),_,Z,r,zav,dx,_,_,Z,hr0,T.cl_Ring,T.na_Ring_field,Z,g.pf,dF,_,Z,hF,no_P _ _ (by decide +kernel),_,Z,q,_,_,_,Z,Z,SqT.of hq,Z,_,Z,q,_,_,_,Z,Z,SqT.of hq,Z,F,fF,cF,g.pf,_,_,Z,hf,?_,λz=>kx ?_ H (Same.refl _),λnz x v H1 hx e1 hv=>?_⟩
  ·rw[Int.natAbs_natCast];exact Yp lb (zlf (by omega))
  ·rcases bb with⟨b1,_⟩ | bb
   ·subst b1;exact absurd z (zr_1 hR.np)
   ·rw[bb];exact⟨b,by simp,z⟩
  ·have nb:¬bad g.n s.bt:=fun⟨b',hb',z⟩=>by
    rcases bb with⟨_,bb⟩ | bb
    ·rw[bb]at hb';cases hb'
    ·rw[bb]at hb';rw[Yq.mp hb']at z;exact nz z
   have b0:(b:Int)≠0:=λz=>nz (by rw[z];exact zr_z hR.np)
   have ev:val (F:=F) s.fv=mo (zer g.m) x:=funext λt=>by rw[ef];exact zgv (λz=>nz ((Chr.z (n:=g.n) (F:=F) _).mp z)) hx t
   refine⟨F,fF,r,v,g,cF,x,Z,hR.same e1,hv,λd H' kvs nd e hd pf l=>k nb d H' kvs (e1.free nd) (e1.trans e) hd (by rw[ev];exact pf) (by rw[ev];exact zoq b0 hx (by rw[Int.natAbs_natCast];exact la) (by rw[Int.natAbs_natCast];exact lb)) (by rw[ef];exact l)⟩
 ·refine⟨_,Z,q,_,_,_,Z,Z,SqT.of hq,Z,Z,_,Z,?_⟩;rw[Yw (by decide +kernel)];refine iteF ⟨_,Z,q,_,_,_,Z,Z,SqT.of hq,Z,Z,_,Z,?_⟩;rw[Yo rfl];refine iteT λd nd=>?_
  have e1:Same H (upd H d (.dT [])):=Same.upd nd;have d1:(upd H d (HO.dT [])) d=some (.dT []):=zaf;generalize upd H d (HO.dT [])=H1 at e1 d1 ⊢;have m1:=hR.m1;have m4:=hR.m4;refine⟨_,Z,r,zav,dx,_,_,Z,e1 _ _ hr0,T.cl_Ring,T.na_Ring_many,Z,_,Z,q,_,_,_,Z,Z,SqT.of (e1 _ _ hq),Z,_,Z,q,_,_,_,Z,Z,SqT.of (e1 _ _ hq),Z,g.m,k0,e,Z,by omega,by omega,by omega,λt H2 e2 ht=>?_⟩;rw[Y1,Y1]at ht;have f2:=e1.trans e2;refine⟨_,Z,r,zav,dx,_,_,Z,f2 _ _ hr0,T.cl_Ring,T.na_Ring_field,Z,g.pf,dF,_,Z,f2 _ _ hF,no_P _ _ (by decide +kernel),F,fF,cF,g.pf,Z,zfm (.of f2) hf,λv H3 e3 hv=>?_⟩;rw[zd4]at hv;refine⟨t,ky (only g.m k0 e),Z,e3 _ _ (e2 _ _ d1),by rw[zf8];exact e3 _ _ ht,?_⟩;have g3:Same H (upd H3 d (.dT [(ky (only g.m k0 e),v)])):=(f2.trans e3).updR nd;have nb:¬bad g.n s.bt:=fun⟨b',hb',_⟩=>by rw[bt0]at hb';cases hb'
  have ev:val (F:=F) s.fv=mo (only g.m k0 e) 1:=funext λt=>by rw[ef];exact zgv zfi (by show 1*ic (1:Int)=ic 1;grind) t
  refine k nb d _ _ nd g3 zaf (by rw[ev];exact zqe (hv.keep λb xs hb=>by rw[zal (zep hb (e3 _ _ (e2 _ _ d1)) (by intro z;cases z))];exact hb) (zgy hk0) (λz=>Lean.Grind.Field.zero_ne_one z.symm)) (by rw[ev];exact zoq (a:=1) (b:=1) (by decide) (by rw[zd4];grind) (Nat.one_le_pow _ _ (by decide)) (Nat.one_le_pow _ _ (by decide))) (by rw[ef];exact Yi _)
 ·refine⟨_,Z,q,_,_,_,Z,Z,SqT.of hq,Z,Z,_,Z,?_⟩;rw[Yw (by decide +kernel)];refine iteF ⟨_,Z,q,_,_,_,Z,Z,SqT.of hq,Z,Z,_,Z,?_⟩;rw[Yw (by decide +kernel)];refine iteF ⟨_,Z,_,Z,q,_,_,_,Z,Z,SqT.of hq,Z,?_⟩;rw[hS n' en];have ln:(40::(psT pt ps++[41])).length=(psT pt ps).length+2:=by simp
  exact⟨F,fF,r,l,g,cF,pt,ps,Z,hR,pv,(by have:(40::(psT pt ps++[41])).length<=300:=s3;omega),l12,kx,λz d H' kvs nd e hd pf bd ll=>k z d H' kvs nd e hd pf (bd.up (by show _<=(40::(psT pt ps++[41])).length;omega)) ll⟩
theorem zum(F:FunD K "sum_of" "sum_of" zfc .none f fd)(m_Con:MCal P w K mg base CX0 4 zav "constant" ["self","number"] [] (zsh zav zag zak zab zab zab zab))(c_TimP:Cal P w K mg base CX0 6 "times" ["ring","f","g"] [] (zqw zav zag zak zab zab zab zab))(c_Absorb:Cal P w K mg base CX0 4 "absorb" ["ring","total","f"] [] (zs5 zav zag zak zab zab zab zab))(hfle:∀n:Int,n<=9973->(n=0\/Pr n)->∃C,FldE P w K mg base zam C (AtN zag zak n) n){q n:Nat}(cF0:Cal P w K mg base (CXe P w) q "factor_of" ["ring","factor"] [] (spFO zam zav zag zak zab zab zab zab n)):FnOk P w K mg base (CXe P w) (q+9) f fd ["ring","parts"] (zik zam zav zag zak zab zab zab zab n):=by
 have scSum:FnScope ["ring","parts","total","turn","factors","found","factor"] ["ring","parts"] (zaj zfc):=sM (by decide +kernel);refine F.okX (k:=q+8) scSum (by walk_at "v") (λcdv A outer s H vs Q E hr=>?_);walk_at "x";rename_i g_ hg_ F fF r b g cF pt ps0;rintro⟨rfl,h⟩;subst hg_;obtain⟨CF,B⟩:=hfle g.n h.1.nb h.1.np;have hrc:=hr.mono (show 8<=q+8 by omega);have hrq:=hr.mono (show q<=q+8 by omega);obtain⟨tk,M1⟩:=B.made1;refine⟨_,(zad (zaq (i:=2) scSum.nd rfl (Or.inl rfl) (zcm))
  (zad (zdk PassesOwn.leaving rfl (zh3 (K:=K) rfl (pv 1)) (zes rfl (za9 (zbb (i:=3) scSum.nd rfl (Or.inl rfl)) (za9 (zbb (i:=4) scSum.nd rfl (Or.inl rfl)) zc8))) (zad (zaq (i:=5) scSum.nd rfl (Or.inl rfl) (pe_m m_Con (pv 0) hrc zap .nil ((zaa (pe_m M1 (za4 (K:=K) rfl (pv 0) rfl) hrc zaz (dvs:=[.int 1]) (.cons ⟨_,Z⟩ .nil) ((zaa (pv 3) zai))) zai))))
  (zad (zdk PassesOwn.leaving rfl (zh3 (K:=K) rfl (pv 4)) (zbb (i:=6) scSum.nd rfl (Or.inl rfl)) (zah (zaq (i:=5) scSum.nd rfl (Or.inl rfl) (pe_c c_TimP hrc zap .nil ((zaa (pv 0) (zaa (pv 5) (zaa (pe_c (hk:=Yi _) cF0 hrq zaz .nil ((zaa (pv 0) (zaa (pv 6) zai)))) zai))))))))
  (zah (zb9 (pe_c c_Absorb hrc zap .nil ((zaa (pv 0) (zaa (pv 2) (zaa (pv 5) zai))))))))))
  (zah (zao (pv 2))))),?_⟩
 obtain⟨hR,pv,s3,l12,kx,k⟩:=h;have sok:=pv.sok λs v h=>FV.sok h
 obtain⟨ys,_,hb,hy⟩:=pv;obtain⟨dx,hr0⟩:=hR.at_;have hf:=hR.fd;obtain⟨dF,hF⟩:=B.ins hf;have lnp:=zx1 pt ps0;obtain⟨ps,eps⟩:∃ps,ps=pt::ps0:=⟨_,Z⟩;have lps:ps.length=ps0.length+1:=by rw[eps];rfl
 rw[<- eps]at sok hy lnp l12 kx k;intro d nd0;have e2:Same H (upd H d (.dT [])):=Same.upd nd0;have hd2:(upd H d (HO.dT [])) d=some (.dT []):=zaf;dsimp only[za3];generalize upd H d (HO.dT [])=H2 at e2 hd2 ⊢;have ly:=Paired.length hy;have sl:1002000<sizeLine:=by rw[sizeLine_eq];decide
 have kpS:∀{H'},Kp [d] H2 H'->∀b o,H b=some o->H' b=some o:=λkp b o hb=>kp _ _ (e2 _ _ hb) (by simp[zan hb nd0])
 refine⟨_,Z,b,Z,⟨_,SqL.of (e2 _ _ hb)⟩,zhs (xs:=ys) (λi σ H'=>i<=ps.length/\(∃v3 v4 v5 v6,σ = [some (.ref r),some (.ref b),some (.ref d),v3,v4,v5,v6])/\Kp [d] H2 H'/\(∀x∈ps.take i,¬bad g.n (x.fs.flatMap Sm.bt))/\∃(kv:List (List Key×V)),H' d=some (.dT kv)/\PF g.n g.m H' kv (val (F:=F) (fvS g.m (ps.take i)))/\Bd g.n (lnP (ps.take i)+i) (val (F:=F) (fvS g.m (ps.take i)))/\kv.length<=(fvS g.m (ps.take i)).length) ?_ (λi σ H' _ h=>SqL.of (kpS h.2.2.1 _ _ hb)) ?_ ?_⟩
 ·exact⟨Y2 _,⟨none,none,none,none,Z⟩,Kp.refl _ _,(λx hx=>by simp at hx),[],hd2,PF.nil,Bd.zero,Y2 _⟩
 ·rintro i x σ H3 hx ⟨hi,⟨v3,v4,v5,v6,rfl⟩,kp3,nb3,kv,hd3,pk,bk,lk⟩;obtain⟨hi',q,b1,rfl,_,hq,zs,_,hb1,hz⟩:=zkc hy hx;have e3:Same H H3:=kpS kp3;have sokp:=sok ps[i] (Js hi');have lz:=Paired.length hz;obtain⟨tn,etn⟩:∃tn,tn=tnI (ps[i]).ng:=⟨_,rfl⟩;have htn:=zy7 (ps[i]).ng;have eP:ptF g.m ps[i]=wF (oneF g.m tn) ((ps[i]).fs.map Sm.fv):=by rw[etn];rfl
  rw[<- etn]at hq htn;have lnp1:=zy4 hi';have lnp2:=zu6 ps (i+1);have fvk:=zu0 g.m hi';have fvl:=zmd g.m (ps:=ps) (ps.length-(i+1)) (i+1) (by omega);obtain⟨fs,efs⟩:∃fs,fs=(ps[i]).fs:=⟨_,Z⟩;rw[eP,<- efs]at fvk;have efm:∀x∈fs,x∈(ps[i]).fs:=λx hx=>by rw[<- efs];exact hx
  rw[<- efs]at hz sokp lz lnp1;have c1:oneF g.m tn≠[]:=by unfold oneF;simp
  have nef:∀f∈fs.map Sm.fv,f≠[]:=λf hf=>by obtain⟨s,hs,rfl⟩:=zf5 hf;exact(sokp s hs).ne
  have lfm:(fs.map Sm.fv).length=fs.length:=Yd _;have wl:∀j,j<=fs.length->(wF (oneF g.m tn) ((fs.map Sm.fv).take j)).length<=12000:=λj hj=>by
   have:=zw7 c1 nef (fs.length-j) j (by omega);rw[fvk,Y6]at fvl;omega
  refine⟨q,_,Z,SqT.of (e3 _ _ hq),Z,_,_,Z,_,_,Z,Z,?_⟩;refine sab λrr hrr=>?_
  refine⟨_,Z,r,dx,_,Z,e3 _ _ hr0,no_G _ (by decide +kernel) (by decide +kernel) (by decide +kernel),_,Z,r,zav,dx,_,_,Z,e3 _ _ hr0,T.cl_Ring,T.na_Ring_field,Z,g.pf,dF,_,Z,e3 _ _ hF,no_P _ _ (by decide +kernel),_,Z,F,fF,cF,g.pf,_,1,Z,zfm (.of e3) hf,Nat.one_lt_two_pow (by decide),λz=>absurd z (zr_1 hR.np),λ_ x v H4 hx e4 hv4=>?_⟩;have hx1:=hx;rw[zd4]at hx;refine⟨F,fF,r,v,g,cF,_,Z,hR.same (e3.trans e4),hv4,λf0 H5 kv5 nf0 e5 hf0 p5 l5=>?_⟩;dsimp only[za3];subst hrr;have e35:=e4.trans e5;have nf3:H3 f0=none:=e4.free nf0;have ev0:val (F:=F) (oneF g.m tn)=mo (zer g.m) x:=funext λt=>zgv zfi hx1 t
  refine sab λrr hrr=>?_
  refine⟨_,Z,b1,Z,⟨_,SqL.of (e35 _ _ (e3 _ _ hb1))⟩,zhs (xs:=zs) (λj σ H'=>j<=fs.length/\(∀x∈fs.take j,¬bad g.n x.bt)/\∃(v6:Option V) (f1:Addr) (kv1:List (List Key×V)),σ = [some (.ref r),some (.ref b),some (.ref d),some (.int tn),some (.ref b1),some (.ref f1),v6]/\H3 f1=none/\Same H3 H'/\H' f1=some (.dT kv1)/\PF g.n g.m H' kv1 (val (F:=F) (wF (oneF g.m tn) ((fs.map Sm.fv).take j)))/\Bd g.n (lnF (fs.take j)) (val (F:=F) (wF (oneF g.m tn) ((fs.map Sm.fv).take j)))/\kv1.length<=(wF (oneF g.m tn) ((fs.map Sm.fv).take j)).length) ?_ (λj σ H' _ h=>?_) ?_ ?_⟩
  ·refine⟨Y2 _,(λx hx=>by simp at hx),_,f0,kv5,Z,nf3,e35,hf0,?_,?_,?_⟩
   ·rw[List.take_zero];show PF _ _ _ _ (val (oneF g.m tn));rw[ev0];exact p5
   ·rw[List.take_zero];show Bd _ _ (val (oneF g.m tn));rw[ev0];exact zoq (by decide) hx1 (by rcases htn with z | z <;> rw[z] <;> exact Nat.one_le_pow _ _ (by decide)) (Nat.one_le_pow _ _ (by decide))
   ·rw[List.take_zero];exact l5
  ·obtain⟨_,_,_,_,_,_,_,e,_⟩:=h;exact SqL.of (e _ _ (e3 _ _ hb1))
  ·rintro j x σ H6 hx ⟨hj,nb6,v6,f1,kv1,rfl,nf1,e6,hf1,p1,bd1,l1⟩;obtain⟨hj',hfc⟩:=zkc hz hx;have e06:=e3.trans e6;have lnf1:=zyp hj';have lnf2:=zvj fs (j+1);have okj:=sokp fs[j] (Js hj');have hj2:j<(fs.map Sm.fv).length:=by omega
   have ws:=zu2 (oneF g.m tn) hj2;rw[List.getElem_map]at ws;have wj:=wl (j+1) hj';rw[ws,zc3]at wj;have w1:1<=(wF (oneF g.m tn) ((fs.map Sm.fv).take j)).length:=zrw c1 λf hf=>nef f (List.take_subset _ _ hf)
   have f1':=List.length_pos_iff.mpr okj.ne;have a1:(wF (oneF g.m tn) ((fs.map Sm.fv).take j)).length<=12000:=Yr (Nat.le_mul_of_pos_right _ f1') wj;have a2:fs[j].fv.length<=12000:=Yr (Nat.le_mul_of_pos_left _ w1) wj;refine⟨_,Z,_,Z,_,Z,_,Z,F,fF,r,x,g,cF,fs[j],Z,hR.same e06,hfc.keep (λa o _ ho=>⟨trivial,e06 _ _ ho⟩),by omega,a2,λz H' e'=>kx (Classical.byContradiction λnz=>zrb (zr0 nz ps[i] (Js hi')) fs[j] (efm _ (Js hj')) z) H' (e06.trans e'),λz d7 H7 kv7 nd7 e7 hd7 p7 bd7 l7=>?_⟩;have hf7:=e7 _ _ hf1;have ne7:f1≠d7:=λz=>by rw[<- z,hf1]at nd7;cases nd7
   have b8:(kv1.length+1)*(kv7.length+1)<=1000000:=by
    have:=Nat.mul_le_mul l1 l7;rw[Nat.add_mul,Nat.mul_add];omega
   have tfw:TF g.m (wF (oneF g.m tn) ((fs.map Sm.fv).take j)):=TF.w TF.one λf hf=>by obtain⟨s,hs,rfl⟩:=zf5 (List.take_subset _ _ hf);exact(sokp s hs).tf
   have nfw:NF F (wF (oneF g.m tn) ((fs.map Sm.fv).take j)):=NF.w (NF.one g.m tn) λf hf=>by
    rw[<- List.map_take]at hf;obtain⟨s,hs,rfl⟩:=zf5 hf;exact(sokp s (List.take_subset _ _ hs)).nf (n:=g.n) (nb6 s hs)
   refine⟨F,fF,r,f1,d7,g,cF,kv1,kv7,_,_,_,_,Z,hR.same (e06.trans e7),ne7,hf7,hd7,p1.same e7,p7,b8,bd1,bd7,by omega,λd8 H8 kv8 nd8 e8 hd8 p8 bd8 l8=>?_⟩;have em:=zl8 (F:=F) p1.tnd (λt ht=>p1.tmem.mpr ht) tfw okj.tf nfw (okj.nf (n:=g.n) z);rw[em,<- ws]at p8 bd8;have g8:=e6.trans (e7.trans e8);refine⟨hj',λy hy=>?_,_,d8,kv8,Z,(e6.trans e7).free nd8,g8,hd8,p8,by rw[lnf1];exact bd8,?_⟩
   ·rw[tk1 hj']at hy;rcases Jr.mp hy with hy | hy
    ·exact nb6 y hy
    ·rw[Yq.mp hy];exact z
   ·rw[ws,zc3];exact Yr l8 (Nat.mul_le_mul l1 l7)
  ·rintro σ H6 ⟨_,nb6,v6,f1,kv1,rfl,nf1,e6,hf1,p1,bd1,l1⟩;rw[<- lz,<- lfm,List.take_length]at p1 bd1 l1;rw[<- lz,List.take_length]at nb6;rw[lfm,List.take_length]at bd1;show rr _ _ _;subst hrr;have ne1:d≠f1:=λz=>by rw[<- z,hd3]at nf1;cases nf1
   have wfl:=wl fs.length (Yi _);rw[<- lfm,List.take_length]at wfl;have k12:kv.length<=12000:=by have:=zmd g.m (ps:=ps) (ps.length-i) i (by omega);omega
   refine⟨_,Z,_,Z,_,Z,F,fF,r,d,f1,g,cF,kv,kv1,_,_,Z,hR.same (e3.trans e6),ne1,e6 _ _ hd3,hf1,pk.same e6,p1,by omega,bk.lim (by omega),bd1.lim (by omega),λH9 kv9 kp9 hd9 p9 l9=>?_⟩;refine⟨hi',⟨_,_,_,_,Z⟩,(kp3.tr (.of e6)).tr kp9,λy hy=>?_,kv9,hd9,?_,?_,?_⟩
   ·rw[tk1 hi']at hy;rcases Jr.mp hy with hy | hy
    ·exact nb3 y hy
    ·rw[Yq.mp hy,<- efs];intro z;obtain⟨f,hf,q⟩:=zw6 z;exact nb6 f hf q
   ·rw[fvk];exact p9.congr λt=>(zjk _ _ t).symm
   ·rw[fvk,lnp1];exact((bk.add bd1).congr λt=>(zjk _ _ t).symm).up (by omega)
   ·rw[fvk,Y6];omega
 ·rintro σ H3 ⟨_,⟨v3,v4,v5,v6,rfl⟩,kp3,nb3,kv,hd3,pk,bk,lk⟩;rw[<- ly,List.take_length]at nb3 bk lk pk;exact⟨_,rfl,k (λz=>by obtain⟨f,hf,q⟩:=zvm z;exact nb3 f hf q) d H3 kv nd0 (kpS kp3) hd3 pk (bk.up (by omega)) lk⟩
theorem zls(F:FunD K "letters" "Ring.letters" zde .none f fd)   : FnOk P w K mg base CX0 1 f fd ["self"] (zjd zav):=by
 have scLetters:FnScope ["self"] ["self"] (zaj zde):=sM (by decide +kernel);refine F.okN (k:=0) scLetters (by walk_at "v") (λcdv A outer s H vs Q E hr=>?_);walk_at "x";rename_i g_ hg_ r m pf po;rintro⟨rfl,h⟩;subst hg_;refine⟨_,(zah (zao (zfj zrp (zem T.g_LETTERS rfl) zj7 (zez (za4 (K:=K) rfl (pv 0) rfl))))),?_⟩;obtain⟨⟨dx,hr0⟩,m1,m2,k⟩:=h;walk_at "rd";exact⟨r,zav,dx,_,_,Z,hr0,T.cl_Ring,T.na_Ring_many,Z,m,Z,_,Z,zsu m1 m2,k⟩
theorem zt9(F:FunD K "read" "read" znv .none f fd)(m_Ws:MCal P w K mg base (CXe P w) 131 zae "whole_sum" ["self"] [] (spWs zae))(m_Letters:MCal P w K mg base CX0 1 zav "letters" ["self"] [] (zjd zav))(k_RI:Mak P w K mg base CX0 1 "Reader" zae ["self","unknowns","text"] [] (spRI zae))(x_NoText:Exc K mg base "NoText" zax)(cS0:Cal P w K mg base (CXe P w) 200 "sum_of" ["ring","parts"] [] (zik zam zav zag zak zab zab zab zab 8)):FnOk P w K mg base (CXe P w) 202 f fd ["ring","text"] (zrx zam zav zag zak zab zab zab zab):=by
 have scRead:FnScope ["ring","text"] ["ring","text"] (zaj znv):=sM (by decide +kernel);refine F.okX (k:=201) scRead (by walk_at "v") (λcdv A outer s H vs Q E hr=>?_);walk_at "x";rename_i g_ hg_ F fF r x g cF pt ps;rintro⟨rfl,h⟩;subst hg_;refine⟨_,(zad (za0 (zar zfx (za1 zc4 rfl T.b_len PySem.boot_len ((zaa (pv 1) zai))) (zek T.g_MOST_SIGNS rfl) (nomark _)) (zah (zg0 x_NoText rfl rfl za6 ((zaa (zay) zai)))) zat)
  (zah (zao (pe_c cS0 hr zaz .nil ((zaa (pv 0) (zaa (zce m_Ws (zsc k_RI hr zap .nil ((zaa (zce m_Letters (pv 0) hr zap .nil) (zaa (pv 1) zai)))) hr zaz .nil) zai))))))),?_⟩
 obtain⟨hR,x3,ef,ok,l12,ko,k⟩:=h;obtain⟨dx,hr0⟩:=hR.at_;have m1:=hR.m1;have m4:=hR.m4;have sl:1002000<sizeLine:=by rw[sizeLine_eq];decide
 refine⟨_,Z,x,Z,by omega,_,_,Z,Z,_,Z,cD (λc=>by omega) (λc=>?_)⟩;refine⟨_,Z,_,Z,r,dx,_,Z,hr0,no_G _ (by decide +kernel) (by decide +kernel) (by decide +kernel),r,g.m,g.pf,g.po,Z,⟨dx,hr0⟩,by omega,by omega,_,Z,λp dp np ndp ne=>?_⟩;refine⟨p,dp,_,x,Z,zaf,x3,ul4 m1 m4,λH2 kp2 hp2=>⟨Z,?_⟩⟩;have er:=zkw x;rw[ef]at er;have e2:∀{H3},Kp [p] H2 H3->Same H H3:=fun{H3} kp3 b o hb=>by
  have n1:=zan hb np;refine kp3 _ _ (kp2 _ _ ?_ (by simp[n1])) (by simp[n1]);rw[zal n1,zal (zan hb ndp)];exact hb
 have lp:(psT pt ps).length<=300:=by
  have:=zk3 x;have e:∀y:Str,y.length=y.cps.toList.length:=λy=>Array.length_toList.symm
  rw[e,er]at this;omega
 refine⟨p,dp,_,Z,hp2.at_,zbx _ (by decide +kernel),p,dp,_,g.m,pt,ps,Z,hp2,m4,er,ok,λH3 b kp3 pv=>?_⟩;have e3:=e2 kp3;exact⟨F,fF,r,b,g,cF,pt,ps,Z,hR.same e3,pv.keep (λa o _ ho=>⟨trivial,ho⟩) (λ_ _ q=>q.keep λa o _ ho=>⟨trivial,ho⟩),lp,l12,λz H' e=>ko z H' (e3.trans e),λz d H' kvs nd e hd pf _ _=>k z d H' kvs (e3.free nd) (e3.trans e) hd pf⟩
theorem zsa(F:FunD K "_law_cell_at" "_law_cell_at" zdc .none f fd)   : FnOk P w K mg base CX0 1 f fd ["_law_script","_law_k"] (zrd K):=by
 have scCell:FnScope ["_law_script","_law_k"] ["_law_script","_law_k"] (zaj zdc):=sM (by decide +kernel);refine F.okN (k:=0) scCell (by walk_at "v") (λcdv A outer s H vs Q E hr=>?_);walk_at "x";rename_i g_ hg_ a ns k;rintro⟨rfl,h⟩;subst hg_;refine⟨_,(zad (za0 (zar zic (pv 1) (za1 (zeg (K:=K) rfl) rfl T.b_len PySem.boot_len ((zaa (pv 0) zai))) (nomark _)) (zah (zao (zaw (r:=rIxL K) zbg (pv 0) (pv 1) (λ_ _=>Z)))) zat)
  (zah (zao (zac)))),?_⟩
 obtain⟨hS,h0,q⟩:=h;have hl:(ns.map V.int).length=ns.length:=Yd _;refine⟨_,Z,_,Z,a,_,Z,.inl hS,?_⟩;walk_at "rd";refine cD (λc=>?_) (λc=>?_)
 ·rw[hl]at c;exact⟨_,Z,_,Z,a,_,_,_,Z,Z,hS,zms h0 c,q⟩
 ·rw[hl]at c;have e:zfa ns k=0:=by unfold zfa;rw[List.getD_eq_getElem?_getD,Yy (by omega)];rfl
  rw[e]at q;exact q
theorem znf(F:FunD K "_law_is_prime" "_law_is_prime" zcu .none f fd)   : FnOk P w K mg base CX0 1 f fd ["_law_number_here"] zk4:=by
 have scLPrime:FnScope ["_law_number_here","_law_by"] ["_law_number_here"] (zaj zcu):=sM (by decide +kernel);refine F.okN (k:=0) scLPrime (by walk_at "v") (λcdv A outer s H vs Q E hr=>?_);walk_at "x";rename_i g_ hg_ n;rintro⟨rfl,h⟩;subst hg_;refine⟨_,(zad (zaq (i:=1) scLPrime.nd rfl (Or.inl rfl) (zac))
  (zad (zb5 PassesOwn.never (zar zo2 (zau zi0 (pv 1) (pv 1)) (pv 0) (nomark _)) (zad (za0 (zar zbp (zau zfv (pv 0) (pv 1)) (zac) (nomark _)) (zah (zao (zcq))) zat)
  (zah (zaq (i:=1) scLPrime.nd rfl (Or.inl rfl) (zau zc6 (pv 1) (zac))))))
  (zah (zao (zcq))))),?_⟩
 obtain⟨hn2,hn,k⟩:=h;refine⟨λm σ H'=>∃d:Int,m=(200-d).toNat/\σ = [some (.int n),some (.int d)]/\H'=H/\2<=d/\d<=101/\NoDiv n d,⟨_,2,Z,Z,Z,K3.start n⟩,?_⟩;rintro m σ H' ⟨d,rfl,rfl,rfl,h2,h3,hd⟩;refine⟨_,Z,_,Z,_,_,Z,Z,.inl (zla (n:=n) h2 h3),?_⟩;walk_at "rd";refine cD (λq=>?_) (λq=>?_)
 ·refine⟨λσ' H''=>σ'=[some (.int n),some (.int (d+1))]/\H''=H'/\¬Int.fmod n d=0,?_,?_⟩
  ·rintro σ' H'' ⟨rfl,rfl,nz⟩;exact⟨(200-(d+1)).toNat,K3.less h2 q hn,d+1,rfl,rfl,rfl,K3.turn hd nz h2 q hn⟩
  ·refine⟨_,Z,_,Z,_,_,Z,Z,(by show d≠0;omega),?_⟩;walk_at "rd";refine cEq (λz=>?_) (λz=>?_)
   ·show Q (.bl false) H';rw[found h2 q z];exact k
   ·walk_at "rd"
    exact z
 ·show Q (.bl true) H';rw[K3.out hd hn2 h2 q];exact k
theorem zss(F:FunD K "_law_field" "_law_field" zee .none f fd)(k_RestsInit:Mak P w K mg base (CXe P w) 2 "Rests" zak ["self","prime"] [] (zme zak zbz))(k_FracInit:Mak P w K mg base CX0 2 "Fractions" zag ["self"] [] (zhb zag)):FnOk P w K mg base CX0 5 f fd ["_law_p"] (zre zag zak):=by
 have scLFld:FnScope ["_law_p"] ["_law_p"] (zaj zee):=sM (by decide +kernel);refine F.okN (k:=4) scLFld (by walk_at "v") (λcdv A outer s H vs Q E hr=>?_);walk_at "x";rename_i g_ hg_ n;rintro⟨rfl,h⟩;subst hg_;refine⟨_,(zad (za0 (zar zfx (pv 0) (zac) (nomark _)) (zah (zao (zsc k_RestsInit hr zof .nil ((zaa (pv 0) zai))))) zat)
  (zah (zao (zuu k_FracInit hr zap .nil)))),?_⟩
 obtain⟨n2,n1,k⟩:=h;walk_at "rd";refine cD (λc=>?_) (λc=>?_)
 ·have hp:Pr n:=n2.resolve_left (by omega);refine⟨_,Z,λx dx nx ndx ne=>?_⟩;refine⟨x,dx,n,Z,zaf,.inl ⟨n1,zsb hp,Z,?_⟩⟩;refine k x _ (λb o e=>?_) ?_
  ·rw[zal (zan e nx),zal (zan e nx),zal (zan e ndx)];exact e
  ·unfold AtN;rw[Yh (by omega)];exact⟨dx,zaf,hp,n1⟩
 ·have n0:n=0:=by
   rcases n2 with z | z
   ·exact z
   ·have:=z.1;omega
  subst n0;intro x dx nx ndx ne;refine⟨x,dx,Z,zaf,Z,?_⟩;refine k x _ (λb o e=>?_) ?_
  ·rw[zal (zan e nx),zal (zan e nx),zal (zan e ndx)];exact e
  ·unfold AtN;rw[Yl rfl];exact⟨dx,zaf⟩
theorem zv1(F:FunD K "_law_prime" "_law_prime" zd6 .none f fd)(c_LPrime:Cal P w K mg base CX0 1 "_law_is_prime" ["_law_number_here"] [] zk4):FnOk P w K mg base CX0 2 f fd ["_law_cell"] zvk:=by
 have scLPr:FnScope ["_law_cell","_law_number_here"] ["_law_cell"] (zaj zd6):=sM (by decide +kernel);refine F.okN (k:=1) scLPr (by walk_at "v") (λcdv A outer s H vs Q E hr=>?_);walk_at "x";rename_i g_ hg_ c;rintro⟨rfl,h⟩;subst hg_;refine⟨_,(zad (za0 (zar zbp (zau za7 (pv 0) (zac)) (zac) (nomark _)) (zah (zao (zac))) zat)
  (zad (zaq (i:=1) scLPr.nd rfl (Or.inl rfl) (zau zc6 (zac) (zau za7 (zau zca (pv 0) (zac)) (zaw (r:=rIxL K) zbg (zdm ((zaa (zac) (zaa (zac) (zaa (zac) (zaa (zac) zai)))))) (zau za7 (pv 0) (zac)) (λ_ _=>Z)))))
  (zad (zb5 PassesOwn.never (zeq (zbt (pe_c c_LPrime hr zap .nil ((zaa (pv 1) zai))))) (zah (zaq (i:=1) scLPr.nd rfl (Or.inl rfl) (zau zle (pv 1) (zac)))))
  (zah (zao (pv 1)))))),?_⟩
 have k:=h;walk_at "rd";refine cEq (λc0=>?_) (λc0=>?_)
 ·exact k 0 H (Same.refl _) (.inl rfl) (by decide)
 refine⟨_,Z,_,_,Z,Z,⟨by decide,by decide⟩,(by show 4<=sizeLine;decide),λl hl=>?_⟩;obtain⟨v,v1,v2,hv⟩:=tab4 (r:=c%4) (by omega) (by omega);have e1:Same H (upd H l (.lst [.int 1,.int 6,.int 120,.int 9972])):=Same.upd hl;refine⟨_,Z,_,_,Z,Z,(by show (0:Int)<4;decide),l,_,_,_,Z,Z,SqL.of zaf,hv,_,_,Z,Z,(by show 0<v;omega),_,_,Z,Z,?_⟩;generalize upd H l (HO.lst [V.int 1,V.int 6,V.int 120,V.int 9972])=H1 at e1;have b0:=Jl (c / 4) (show v≠0 by omega);have b1:=Jc (c / 4) (show 0<v by omega);refine⟨λm σ H'=>∃n:Int,m=n.toNat/\σ = [some (.int c),some (.int n)]/\H'=H1/\2<=n/\n<=9973,⟨_,_,Z,Z,Z,by omega,by omega⟩,?_⟩;rintro m σ H' ⟨n,rfl,rfl,rfl,h2,hn⟩;refine⟨_,Z,n,Z,h2,hn,_,Z,?_⟩;refine cNB (λc1=>?_) (λc1=>?_)
 ·refine⟨λσ' H''=>σ'=[some (.int c),some (.int (n-1))]/\H''=H',?_,?_⟩
  ·rintro σ' H'' ⟨rfl,rfl⟩;have n2:n≠2:=λz=>by rw[z,zvr]at c1;cases c1
   exact⟨(n-1).toNat,by omega,n-1,Z,Z,Z,by omega,by omega⟩
  ·walk_at "rd"
   rfl
 ·exact⟨_,Z,k n H' e1 (.inr (zyd c1)) hn⟩
theorem zus(F:FunD K "_law_reduced" "_law_reduced" zdh .none f fd)   : FnOk P w K mg base CX0 1 f fd ["_law_top","_law_bottom"] zor:=by
 have scRed:FnScope ["_law_top","_law_bottom","_law_one","_law_other","_law_rest"] ["_law_top","_law_bottom"] (zaj zdh):=sM (by decide +kernel);refine F.okN (k:=0) scRed (by walk_at "v") (λcdv A outer s H vs Q E hr=>?_);walk_at "x";rename_i g_ hg_ t b;rintro⟨rfl,h⟩;subst hg_;refine⟨_,(zad (zaq (i:=2) scRed.nd rfl (Or.inl rfl) (za1 zeo rfl T.b_abs (by kernel_rfl) ((zaa (pv 0) zai))))
  (zad (zaq (i:=3) scRed.nd rfl (Or.inl rfl) (pv 1))
  (zad (zb5 PassesOwn.never (zar zj5 (pv 3) (zac) (nomark _)) (zad (zaq (i:=4) scRed.nd rfl (Or.inl rfl) (zau zfv (pv 2) (pv 3)))
  (zad (zaq (i:=2) scRed.nd rfl (Or.inl rfl) (pv 3))
  (zah (zaq (i:=3) scRed.nd rfl (Or.inl rfl) (pv 4))))))
  (zah (zao (zbc ((zaa (zau zbn (pv 0) (pv 2)) (zaa (zau zbn (pv 1) (pv 2)) zai))))))))),?_⟩
 obtain⟨b1,hb,k⟩:=h;walk_at "rd";refine⟨λm σ H'=>∃(a' b':Int) (v:Option V),m=b'.toNat/\σ = [some (.int t),some (.int b),some (.int a'),some (.int b'),v]/\H'=H/\0<=a'/\0<=b'/\Gc (if t<0 then -t else t) b a' b',⟨_,_,_,none,Z,Z,Z,K1.start (by split <;> omega) (by omega)⟩,?_⟩;rintro m σ H' ⟨a',b',v,rfl,rfl,rfl,h1,h2,hg⟩;walk_at "rd";refine cNe (λc=>?_) (λc=>?_)
 ·refine⟨λσ' H''=>∃v',σ'=[some (.int t),some (.int b),some (.int b'),some (.int (a'.fmod b')),v']/\H''=H',?_,?_⟩
  ·rintro σ' H'' ⟨v',rfl,rfl⟩;exact⟨(a'.fmod b').toNat,K1.less (by omega),_,_,v',rfl,rfl,rfl,K1.turn hg h1 (by omega)⟩
  ·refine⟨_,Z,_,Z,_,_,Z,Z,c,?_⟩;walk_at "rd";rfl
 ·have eg:a'=gI t b:=by
   rw[K1.out hg h1 c];have:=zqx t b;rwa [Yh (by omega:¬b<0)]at this
  have gp:0<gI t b:=zd1 (by omega);obtain⟨g0,gb⟩:=znz (a:=t) (show b≠0 by omega) hb;subst eg;refine⟨_,Z,_,Z,_,_,Z,Z,⟨g0,up gb (by decide)⟩,_,Z,_,Z,_,_,Z,Z,⟨g0,up gb (by decide)⟩,(by show 2<=sizeLine;decide),λr hr=>?_⟩;refine k r _ (Same.upd hr) ?_;dsimp only;rw[zaf,Int.fdiv_eq_ediv_of_nonneg _ (Int.le_of_lt gp),Int.fdiv_eq_ediv_of_nonneg _ (Int.le_of_lt gp)]
theorem zx2(F:FunD K "_law_number" "_law_number" zdr .none f fd)(c_Red:Cal P w K mg base CX0 1 "_law_reduced" ["_law_top","_law_bottom"] [] zor):FnOk P w K mg base CX0 2 f fd ["_law_p","_law_top","_law_bottom"] znu:=by
 have scNum:FnScope ["_law_p","_law_top","_law_bottom"] ["_law_p","_law_top","_law_bottom"] (zaj zdr):=sM (by decide +kernel);refine F.okN (k:=1) scNum (by walk_at "v") (λcdv A outer s H vs Q E hr=>?_);walk_at "x";rename_i g_ hg_ F fF n cF t;rintro⟨rfl,h⟩;subst hg_;refine⟨_,(zad (za0 (zar zfx (pv 0) (zac) (nomark _)) (zah (zao (zau za7 (pv 1) (pv 0)))) zat)
  (zah (zao (pe_c c_Red hr zap .nil ((zaa (pv 1) (zaa (pv 2) zai))))))),?_⟩
 obtain⟨n2,k⟩:=h;walk_at "rd";refine cD (λc=>?_) (λc=>?_)
 ·have n0:n≠0:=by omega
  refine⟨_,Z,_,Z,_,_,Z,Z,(by show 0<n;omega),?_⟩;exact k _ H (Same.refl _) ((zdo n0).mpr ⟨_,Z,Jl _ n0,Jc _ (by omega),by rw[zcw]⟩)
 ·obtain rfl:=zol n2 c;refine⟨_,Z,_,Z,t,1,Z,by decide,Nat.one_lt_two_pow (by decide),λr H' e hr'=>?_⟩;exact k _ H' e (zhw (by decide) hr' (by rw[zd4];grind))
theorem zx0(F:FunD K "_law_add" "_law_add" zfu .none f fd)(c_Red:Cal P w K mg base CX0 1 "_law_reduced" ["_law_top","_law_bottom"] [] zor):FnOk P w K mg base CX0 2 f fd ["_law_p","_law_a","_law_b"] zuj:=by
 have scAdd:FnScope ["_law_p","_law_a","_law_b"] ["_law_p","_law_a","_law_b"] (zaj zfu):=sM (by decide +kernel);refine F.okN (k:=1) scAdd (by walk_at "v") (λcdv A outer s H vs Q E hr=>?_);walk_at "x";rename_i g_ hg_ F fF n cF v1 v2 x y;rintro⟨rfl,h⟩;subst hg_;refine⟨_,(zad (za0 (zar zfx (pv 0) (zac) (nomark _)) (zah (zao (zau za7 (zau zc6 (pv 1) (pv 2)) (pv 0)))) zat)
  (zah (zao (pe_c c_Red hr zap .nil ((zaa (zau zc6 (zau zbo (zaw (r:=rIxT K) zas (pv 1) (zac) (λ_ _=>Z)) (zaw (r:=rIxT K) zas (pv 2) (zac) (λ_ _=>Z))) (zau zbo (zaw (r:=rIxT K) zas (pv 2) (zac) (λ_ _=>Z)) (zaw (r:=rIxT K) zas (pv 1) (zac) (λ_ _=>Z)))) (zaa (zau zbo (zaw (r:=rIxT K) zas (pv 1) (zac) (λ_ _=>Z)) (zaw (r:=rIxT K) zas (pv 2) (zac) (λ_ _=>Z))) zai))))))),?_⟩
 obtain⟨n2,h1,h2,l1,l2,k⟩:=h;walk_at "rd";refine cD (λc=>?_) (λc=>?_)
 ·have n0:n≠0:=by omega
  obtain⟨a,rfl,_,_,ea⟩:=(zdo n0).mp h1;obtain⟨b,rfl,_,_,eb⟩:=(zdo n0).mp h2;refine⟨_,Z,_,Z,_,_,Z,Z,_,Z,_,_,Z,Z,(by show 0<n;omega),?_⟩;exact k _ H (Same.refl _) ((zdo n0).mpr ⟨_,Z,Jl _ n0,Jc _ (by omega),by rw[zcw,zg8,ea,eb]⟩)
 ·obtain rfl:=zol n2 c;obtain⟨r1,p,q,rfl,hr1,q1,_,e1,b1,b2⟩:=zgo h1 l1;obtain⟨r2,s,t,rfl,hr2,t1,_,e2,b3,b4⟩:=zgo h2 l2;have P1:CMulC p t:=⟨up b1 (by decide),up b4 (by decide)⟩;have P2:CMulC s q:=⟨up b3 (by decide),up b2 (by decide)⟩;have P3:CMulC q t:=⟨up b2 (by decide),up b4 (by decide)⟩;refine⟨_,Z,r1,_,_,_,Z,Z,SqT.of hr1,atI0,_,Z,r2,_,_,_,Z,Z,SqT.of hr2,atI1,_,_,Z,Z,P1,_,Z,r2,_,_,_,Z,Z,SqT.of hr2,atI0,_,Z,r1,_,_,_,Z,Z,SqT.of hr1,atI1,_,_,Z,Z,P2,_,_,Z,Z,_,Z,r1,_,_,_,Z,Z,SqT.of hr1,atI1,_,Z,r2,_,_,_,Z,Z,SqT.of hr2,atI1,_,_,Z,Z,P3,_,_,Z,pos2 q1 t1,big2 b2 b4,λr H' e hr'=>k _ H' e (zhw (pos2 q1 t1) hr' ?_)⟩;rw[za5,zg8,za5,za5,<- e1,<- e2];grind
theorem zva(F:FunD K "_law_mul" "_law_mul" zfs .none f fd)(c_Red:Cal P w K mg base CX0 1 "_law_reduced" ["_law_top","_law_bottom"] [] zor):FnOk P w K mg base CX0 2 f fd ["_law_p","_law_a","_law_b"] ztl:=by
 have scMul:FnScope ["_law_p","_law_a","_law_b"] ["_law_p","_law_a","_law_b"] (zaj zfs):=sM (by decide +kernel);refine F.okN (k:=1) scMul (by walk_at "v") (λcdv A outer s H vs Q E hr=>?_);walk_at "x";rename_i g_ hg_ F fF n cF v1 v2 x y;rintro⟨rfl,h⟩;subst hg_;refine⟨_,(zad (za0 (zar zfx (pv 0) (zac) (nomark _)) (zah (zao (zau za7 (zau zbo (pv 1) (pv 2)) (pv 0)))) zat)
  (zah (zao (pe_c c_Red hr zap .nil ((zaa (zau zbo (zaw (r:=rIxT K) zas (pv 1) (zac) (λ_ _=>Z)) (zaw (r:=rIxT K) zas (pv 2) (zac) (λ_ _=>Z))) (zaa (zau zbo (zaw (r:=rIxT K) zas (pv 1) (zac) (λ_ _=>Z)) (zaw (r:=rIxT K) zas (pv 2) (zac) (λ_ _=>Z))) zai))))))),?_⟩
 obtain⟨n2,n1,h1,h2,l1,l2,k⟩:=h;walk_at "rd";refine cD (λc=>?_) (λc=>?_)
 ·have n0:n≠0:=by omega
  have np:=n2.resolve_left n0;obtain⟨a,rfl,a0,a1,ea⟩:=(zdo n0).mp h1;obtain⟨b,rfl,b0,b1,eb⟩:=(zdo n0).mp h2;refine⟨_,Z,_,Z,_,_,Z,Z,?_,_,Z,_,_,Z,Z,(by show 0<n;omega),?_⟩
  ·exact⟨up (show a.natAbs<2^14 by omega) (by decide),up (show b.natAbs<2^14 by omega) (by decide)⟩
  exact k _ H (Same.refl _) ((zdo n0).mpr ⟨_,Z,Jl _ n0,Jc _ (by omega),by rw[zcw,za5,ea,eb]⟩)
 ·obtain rfl:=zol n2 c;obtain⟨r1,p,q,rfl,hr1,q1,_,e1,b1,b2⟩:=zgo h1 l1;obtain⟨r2,s,t,rfl,hr2,t1,_,e2,b3,b4⟩:=zgo h2 l2;have P1:CMulC p s:=⟨up b1 (by decide),up b3 (by decide)⟩;have P3:CMulC q t:=⟨up b2 (by decide),up b4 (by decide)⟩;refine⟨_,Z,r1,_,_,_,Z,Z,SqT.of hr1,atI0,_,Z,r2,_,_,_,Z,Z,SqT.of hr2,atI0,_,_,Z,Z,P1,_,Z,r1,_,_,_,Z,Z,SqT.of hr1,atI1,_,Z,r2,_,_,_,Z,Z,SqT.of hr2,atI1,_,_,Z,Z,P3,_,_,Z,pos2 q1 t1,big2 b2 b4,λr H' e hr'=>k _ H' e (zhw (pos2 q1 t1) hr' ?_)⟩;rw[za5,za5,<- e1,<- e2];grind
theorem zxj(F:FunD K "_law_put" "_law_put" zfw .none f fd)(c_Num:Cal P w K mg base CX0 2 "_law_number" ["_law_p","_law_top","_law_bottom"] [] znu)(c_Add:Cal P w K mg base CX0 2 "_law_add" ["_law_p","_law_a","_law_b"] [] zuj):FnOk P w K mg base CX0 4 f fd ["_law_p","_law_f","_law_term","_law_number_here"] zsp:=by
 have scPut:FnScope ["_law_p","_law_f","_law_term","_law_number_here","_law_both"] ["_law_p","_law_f","_law_term","_law_number_here"] (zaj zfw):=sM (by decide +kernel);refine F.okN (k:=3) scPut (by walk_at "v") (λcdv A outer s H vs Q E hr=>?_);walk_at "x";rename_i g_ hg_ F fF n cF m d t l v y kv φ;rintro⟨rfl,h⟩;subst hg_;refine⟨_,(zad (zaq (i:=4) scPut.nd rfl (Or.inl rfl) (pe_c c_Add hr zap .nil ((zaa (pv 0) (zaa (zqk (uOne hr) (pv 1) (pv 2) (pe_c c_Num hr zap .nil ((zaa (pv 0) (zaa (zac) (zaa (zac) zai))))) ⟨Z,Z,Z,Z⟩) (zaa (pv 3) zai))))))
  (zad (zhh (uOne hr) (pv 1) (pv 2) (pv 4) rfl)
  (zah (za0 (zar (zf1 hr.units) (pv 4) (pe_c c_Num hr zap .nil ((zaa (pv 0) (zaa (zac) (zaa (zac) zai))))) (nomark _)) (zah (zb9 (znh (uOne hr) (pv 1) ((zaa (pv 2) zai))))) zat)))),?_⟩
 obtain⟨n2,hd,ht,t0,pf,hv,l1,l2,kl,k⟩:=h;have sl:1002000<sizeLine:=by rw[sizeLine_eq];decide
 refine sab λrr hrr=>?_
 refine⟨_,Z,_,Z,d,Z,.inr ⟨_,.inl hd⟩,_,Z,_,Z,F,fF,n,cF,0,Z,n2,λu H1 e1 hu=>?_⟩;rw[zb3]at hu;have hd1:=e1 _ _ hd;have ht1:H1 t=some (.tup ((ky l).map kV)):=by rw[zf8];exact e1 _ _ ht
 refine⟨_,DGet.t hd1 ht1,?_⟩;have pf1:=pf.same e1;have hg:Rep n H1 ((valV kv (ky l)).getD u) (φ l):=by
  cases hval:valV kv (ky l) with
  | none=>rw[pf1.out l hval];exact hu
  | some v0=>exact(pf1.val l v0 hval).1
 refine⟨_,Z,F,fF,n,cF,_,v,φ l,y,Z,n2,hg,hv.same e1,l1,l2,λw H2 e2 hw=>?_⟩;dsimp only[za3];subst hrr;have hd2:=e2 _ _ hd1;have ht2:=e2 _ _ ht1;have pf2:=pf1.same e2;have le:=zbs kv (ky l) w;refine⟨_,Z,_,Z,_,Z,d,_,Z,DPut.t hd2 ht2 (by omega),?_⟩;have hd3:(upd H2 d (HO.dT (putK kv (ky l) w))) d=some (.dT (putK kv (ky l) w)):=zaf;have k3:Kp [d] H2 (upd H2 d (.dT (putK kv (ky l) w))):=Kp.upd (by simp);have f3:Fix H2 (upd H2 d (.dT (putK kv (ky l) w))):=zcl hd2;generalize upd H2 d (HO.dT (putK kv (ky l) w))=H3 at hd3 k3 f3 ⊢;refine⟨_,Z,_,Z,F,fF,n,cF,0,Z,n2,λu2 H4 e4 hu2=>?_⟩;rw[zb3]at hu2;have hd4:=e4 _ _ hd3;have ht4:=e4 _ _ (f3.tup _ _ ht2);have f4:Fix H2 H4:=f3.tr (.of e4);have k4:Kp [d] H H4:=((Kp.of (e1.trans e2)).tr k3).tr (.of e4);obtain⟨dn,z0,rd,rz,s1,s2,eq⟩:=zgu (K:=K) (hw.fix f4) hu2;refine⟨dn,z0,rd,rz,s1,s2,_,Z,?_⟩;rcases eq with⟨z,q⟩ | ⟨z,q⟩
 ·rw[q];refine iteT ⟨_,Z,.inr (.inr (.inl ⟨Z,.inr ⟨_,hd4⟩⟩)),_,Z,d,t,_,ky l,w,Z,Z,hd4,ht4,by rw[zlb,Yl rfl],?_⟩;refine k _ _ (k4.tr (Kp.upd (by simp))) zaf ?_ ?_
  ·rw[zk8,z];exact((pf2.drop l).fix f4).fix (zcl hd4)
  ·rw[zk8];have:=zhm kv (ky l);omega
 ·rw[q];refine iteF ?_;exact k _ _ k4 hd4 ((pf2.put t0 hw z).fix f4) le
theorem zwi(F:FunD K "_law_plus" "_law_plus" ze3 .none f fd)(c_Put:Cal P w K mg base CX0 4 "_law_put" ["_law_p","_law_f","_law_term","_law_number_here"] [] zsp):FnOk P w K mg base CX0 5 f fd ["_law_p","_law_f","_law_g"] zwm:=by
 have scPls:FnScope ["_law_p","_law_f","_law_g","_law_found","_law_term","_law_number_here"] ["_law_p","_law_f","_law_g"] (zaj ze3):=sM (by decide +kernel);refine F.okN (k:=4) scPls (by walk_at "v") (λcdv A outer s H vs Q E hr=>?_);walk_at "x";rename_i g_ hg_ F fF n cF m a b kf kg φ ψ;rintro⟨rfl,h⟩;subst hg_;refine⟨_,(zad (zaq (i:=3) scPls.nd rfl (Or.inl rfl) (zbl zlx rfl T.b_dict (by kernel_rfl) ((zaa (pv 1) zai))))
  (zad (zf3 (zdk PassesOwn.never rfl (zc5 (pv 2)) (zes rfl (za9 (zbb (i:=4) scPls.nd rfl (Or.inl rfl)) (za9 (zbb (i:=5) scPls.nd rfl (Or.inl rfl)) zc8))) (zah (zb9 (pe_c c_Put hr zap .nil ((zaa (pv 0) (zaa (pv 3) (zaa (pv 4) (zaa (pv 5) zai))))))))))
  (zah (zao (pv 3))))),?_⟩
 obtain⟨n2,m1,m4,ha,hb0,pF,pG,pw,bF,bG,hl,k⟩:=h;refine sab λrr hrr=>?_
 refine⟨_,Z,a,kf,Z,ha,zx4 m1 m4 pF pw,λd nd=>?_⟩;have e1:Same H (upd H d (.dT kf)):=Same.upd nd;have hd1:(upd H d (HO.dT kf)) d=some (.dT kf):=zaf;dsimp only[za3];generalize upd H d (HO.dT kf)=H1 at e1 hd1 ⊢;subst hrr;have hHe:H1 b=some (.dT kg):=e1 _ _ hb0;have de:d≠b:=λz=>zan hb0 nd z.symm
 refine⟨_,Z,b,kg,Z,.inl hHe,λo=>?_⟩;have ntd:=pG.tnd;have lt:=ze0 kg;refine zb8 (λi σ H'=>i<=kg.length/\(∃v4 v5,σ = [some (.int n),some (.ref a),some (.ref b),some (.ref d),v4,v5])/\FzD H' b o kg/\Kp [d,b] H1 H'/\∃kv,H' d=some (.dT kv)/\PF n m H' kv (λt=>φ t+cutP ψ ((tms kg).take i) t)/\kv.length<=kf.length+i) ?_ (λi σ H' h=>h.2.2.1) ?_ ?_
 ·refine⟨Y2 _,⟨none,none,Z⟩,zaf,Kp.upd (by simp),kf,(zal de).trans hd1,?_,Yi _⟩;refine((pF.same e1).fix (zcl hHe)).congr λt=>?_
  rw[List.take_zero,zfe];grind
 ·rintro i kx v σ H2 p c hk ⟨hi,⟨v4,v5,rfl⟩,hz,hk2,kv,hd2,pk,lk⟩ hp hb;obtain⟨t,rfl,t0,ht,iv,nv⟩:=pG.ix hk;have hlt:=zc0 hk;have hti:=zqu ntd ht;have tk:=zb7 ht;have fx:Fix H H2:=(Fix.of e1).tr (hk2.fix λa ha ob hob=>by
   rcases Yj.mp ha with rfl | ha
   ·rw[hd1]at hob;cases hob;exact .inl ⟨_,Z⟩
   ·rw[Yq.mp ha,hHe]at hob;cases hob;exact .inl ⟨_,Z⟩)
  refine⟨p,_,Z,SqT.of zaf,Z,_,_,Z,_,_,Z,Z,?_⟩;have e3:Same H2 (upd H2 p (.tup [.ref c,v])):=Same.upd hp;generalize upd H2 p (HO.tup [V.ref c,v])=H3 at e3;have hb3:=e3 _ _ hb;rw[zf8]at hb3;have hd3:=e3 _ _ hd2;have cut0:cutP ψ ((tms kg).take i) t=0:=zh7 hti;have eφ : φ t+cutP ψ ((tms kg).take i) t = φ t:=by rw[cut0];grind
  refine⟨_,Z,_,Z,_,Z,_,Z,F,fF,n,cF,m,d,c,t,v,ψ t,kv,_,Z,n2,hd3,hb3,t0,pk.same e3,iv.fix (fx.tr (.of e3)),by rw[eφ];exact bF t,bG t,by omega,λH4 kv4 kp4 hd4 pk4 l4=>?_⟩;refine⟨hlt,⟨_,_,Z⟩,kp4 _ _ (e3 _ _ hz) (by simp[Ne.symm de]),(hk2.tr (.of e3)).tr (λb o hb nb=>kp4 b o hb λz=>nb (by simp at z;simp[z])),kv4,hd4,?_,by omega⟩;rw[tk,<- zgc];rw[eφ]at pk4;exact pk4
 ·rintro σ H2 ⟨_,⟨v4,v5,rfl⟩,hz,hk2,kv,hd2,pk,lk⟩;rw[<- lt,List.take_length,ze8 λt ht=>pG.tmem.mpr ht]at pk;refine .inr ⟨b,o,_,hz,λo' w' z=>?_,_,rfl,k d _ kv nd (λc ob hc=>?_) ((zal de).trans hd2) (pk.fix (zdu (u:=.dT []) hz (.inr (.inr ⟨_,_,rfl⟩)))) lk⟩
  ·have z':H b=some (.frz o' w'):=z;rw[hb0]at z';cases z'
  ·by_cases be:c=b
   ·subst be;rw[zaf,<- hb0];exact hc
   ·rw[zal be];exact hk2 _ _ (e1 _ _ hc) (by simp[be,zan hc nd])
theorem zwy(F:FunD K "_law_against" "_law_against" zda .none f fd)(c_Num:Cal P w K mg base CX0 2 "_law_number" ["_law_p","_law_top","_law_bottom"] [] znu)(c_Mul:Cal P w K mg base CX0 2 "_law_mul" ["_law_p","_law_a","_law_b"] [] ztl):FnOk P w K mg base CX0 4 f fd ["_law_p","_law_f"] zs6:=by
 have scAga:FnScope ["_law_p","_law_f","_law_found","_law_term","_law_number_here"] ["_law_p","_law_f"] (zaj zda):=sM (by decide +kernel);refine F.okN (k:=3) scAga (by walk_at "v") (λcdv A outer s H vs Q E hr=>?_);walk_at "x";rename_i g_ hg_ F fF n cF m a kf φ;rintro⟨rfl,h⟩;subst hg_;refine⟨_,(zad (zaq (i:=2) scAga.nd rfl (Or.inl rfl) (zcm))
  (zad (zf3 (zdk PassesOwn.never rfl (zc5 (pv 1)) (zes rfl (za9 (zbb (i:=3) scAga.nd rfl (Or.inl rfl)) (za9 (zbb (i:=4) scAga.nd rfl (Or.inl rfl)) zc8))) (zah (zhh (uOne hr) (pv 2) (pv 3) (pe_c c_Mul hr zap .nil ((zaa (pv 0) (zaa (pe_c c_Num hr zap .nil ((zaa (pv 0) (zaa (ze7 zc7 zac) (zaa (zac) zai))))) (zaa (pv 4) zai))))) rfl))))
  (zah (zao (pv 2))))),?_⟩
 obtain⟨n2,n1,ha,pF,bF,hl,k⟩:=h;intro d nd;have e1:Same H (upd H d (.dT [])):=Same.upd nd;have hd1:(upd H d (HO.dT [])) d=some (.dT []):=zaf;dsimp only[za3];generalize upd H d (HO.dT [])=H1 at e1 hd1 ⊢;have sl:1002000<sizeLine:=by rw[sizeLine_eq];decide
 have hHe:H1 a=some (.dT kf):=e1 _ _ ha;have de:d≠a:=λz=>zan ha nd z.symm
 refine⟨_,Z,a,kf,Z,.inl hHe,λo=>?_⟩;have ntd:=pF.tnd;have lt:=ze0 kf;refine zb8 (λi σ H'=>i<=kf.length/\(∃v4 v5,σ = [some (.int n),some (.ref a),some (.ref d),v4,v5])/\FzD H' a o kf/\Kp [d,a] H1 H'/\∃kv,H' d=some (.dT kv)/\PF n m H' kv (λt=>0+cutP (λt => - φ t) ((tms kf).take i) t)/\kv.length<=i) ?_ (λi σ H' h=>h.2.2.1) ?_ ?_
 ·refine⟨Y2 _,⟨none,none,Z⟩,zaf,Kp.upd (by simp),[],(zal de).trans hd1,?_,Yi _⟩;refine PF.nil.congr λt=>?_
  rw[List.take_zero,zfe];grind
 ·rintro i kx v σ H2 p c hk ⟨hi,⟨v4,v5,rfl⟩,hz,hk2,kv,hd2,pk,lk⟩ hp hb;obtain⟨t,rfl,t0,ht,iv,nv⟩:=pF.ix hk;have hlt:=zc0 hk;have tk:=zb7 ht;have fx:Fix H H2:=(Fix.of e1).tr (hk2.fix λa ha ob hob=>by
   rcases Yj.mp ha with rfl | ha
   ·rw[hd1]at hob;cases hob;exact .inl ⟨_,Z⟩
   ·rw[Yq.mp ha,hHe]at hob;cases hob;exact .inl ⟨_,Z⟩)
  refine⟨p,_,Z,SqT.of zaf,Z,_,_,Z,_,_,Z,Z,?_⟩;have e3:Same H2 (upd H2 p (.tup [.ref c,v])):=Same.upd hp;generalize upd H2 p (HO.tup [V.ref c,v])=H3 at e3;have lm:Lim n 4000 (ic (F:=F) (-1)):=.of (T:=-1) (B:=1) (by decide) (by rw[zd4];grind) (Nat.one_lt_two_pow (by decide)) (Nat.one_lt_two_pow (by decide));refine⟨_,Z,_,Z,_,Z,F,fF,n,cF,-1,Z,n2,λu H4 e4 hu=>?_⟩;have fx4:=(fx.tr (.of e3)).tr (Fix.of e4);refine⟨_,Z,F,fF,n,cF,u,v,_,φ t,Z,n2,n1,hu,iv.fix fx4,lm,bF t,λw H5 e5 hw=>?_⟩;have e35:=(e3.trans e4).trans e5;have hd5:=e35 _ _ hd2;have hb5:=e35 _ _ hb;have em:ic (F:=F) (-1) * φ t = - φ t:=by rw[show (-1:Int)=0-1 by decide,zfy,zb3,zd4];grind
  rw[em]at hw;refine⟨_,Z,_,Z,d,_,Z,DPut.t hd5 hb5 (by omega),?_⟩;refine⟨hlt,⟨_,_,Z⟩,(zal (Jb de)).trans (e35 _ _ hz),(hk2.tr (.of e35)).tr (Kp.upd (by simp)),_,zaf,?_,by have:=zbs kv (ky t) w;omega⟩;rw[tk,<- zgc];have e0:(0:F) + - φ t = - φ t:=by grind
  rw[e0];exact((pk.same e35).put t0 hw (λz=>nv (by grind))).fix (zcl hd5)
 ·rintro σ H2 ⟨_,⟨v4,v5,rfl⟩,hz,hk2,kv,hd2,pk,lk⟩;rw[<- lt,List.take_length,ze8 λt ht=>pF.tmem.mpr λz=>ht (by rw[z];grind)]at pk;refine .inr ⟨a,o,_,hz,λo' w' z=>?_,_,rfl,k d _ kv nd (λc ob hc=>?_) ((zal de).trans hd2) ((pk.congr λt=>by grind).fix (zdu (u:=.dT []) hz (.inr (.inr ⟨_,_,rfl⟩)))) lk⟩
  ·have z':H a=some (.frz o' w'):=z;rw[ha]at z';cases z'
  ·by_cases be:c=a
   ·subst be;rw[zaf,<- ha];exact hc
   ·rw[zal be];exact hk2 _ _ (e1 _ _ hc) (by simp[be,zan hc nd])
theorem zvd(F:FunD K "_law_times" "_law_times" zei .none f fd)(c_Mul:Cal P w K mg base CX0 2 "_law_mul" ["_law_p","_law_a","_law_b"] [] ztl)(c_Put:Cal P w K mg base CX0 4 "_law_put" ["_law_p","_law_f","_law_term","_law_number_here"] [] zsp):FnOk P w K mg base CX0 5 f fd ["_law_p","_law_f","_law_g"] (zwc K):=by
 have scTms:FnScope ["_law_p","_law_f","_law_g","_law_found","_law_one","_law_a","_law_other","_law_b","_law_both"] ["_law_p","_law_f","_law_g"] (zaj zei):=sM (by decide +kernel);refine F.okN (k:=4) scTms (by walk_at "v") (λcdv A outer s H vs Q E hr=>?_);walk_at "x";rename_i g_ hg_ F fF n cF m a b kf kg φ ψ;rintro⟨rfl,h⟩;subst hg_;refine⟨_,(zad (zaq (i:=3) scTms.nd rfl (Or.inl rfl) (zcm))
  (zad (zf3 (zdk PassesOwn.never rfl (zc5 (pv 1)) (zes rfl (za9 (zbb (i:=4) scTms.nd rfl (Or.inl rfl)) (za9 (zbb (i:=5) scTms.nd rfl (Or.inl rfl)) zc8))) (zah (zf3 (zdk PassesOwn.never rfl (zc5 (pv 2)) (zes rfl (za9 (zbb (i:=6) scTms.nd rfl (Or.inl rfl)) (za9 (zbb (i:=7) scTms.nd rfl (Or.inl rfl)) zc8))) (zad (zaq (i:=8) scTms.nd rfl (Or.inl rfl) (zbl (zcz (K:=K) rfl) rfl T.b_tuple (by kernel_rfl) ((zaa (zh6 (N:=["_law_x","_law_y"]) (Blk.plain (by decide +kernel) (by decide +kernel) rfl (by decide +kernel) zd0) rfl (zne (K:=K) rfl true true rfl T.b_zip ((zaa (pv 4) (zaa (pv 6) zai)))) (λC0 s0 H0 fp0=>zrf (K:=K) rfl rfl rfl zd0 rfl rfl) (λC0 s0 H0 fp0=>zh4) (λC0 s0 H0 fp0=>zau zc6 (pv 0) (pv 1))) zai))))
  (zah (zb9 (pe_c c_Put hr zap .nil ((zaa (pv 0) (zaa (pv 3) (zaa (pv 8) (zaa (pe_c c_Mul hr zap .nil ((zaa (pv 0) (zaa (pv 5) (zaa (pv 7) zai))))) zai))))))))))))))
  (zah (zao (pv 3))))),?_⟩
 obtain⟨n2,n1,m4,ab,ha,hb0,pF,pG,bF,bG,bP,bM,hl,k⟩:=h;intro d nd;have e1:Same H (upd H d (.dT [])):=Same.upd nd;have hd1:(upd H d (HO.dT [])) d=some (.dT []):=zaf;dsimp only[za3];generalize upd H d (HO.dT [])=H1 at e1 hd1 ⊢;have hA1:H1 a=some (.dT kf):=e1 _ _ ha;have da:d≠a:=λz=>zan ha nd z.symm
 have db:d≠b:=λz=>zan hb0 nd z.symm
 refine⟨_,Z,a,kf,Z,.inl hA1,λo=>?_⟩;have lt:=ze0 kf;have ltg:=ze0 kg;refine zb8 (tb:=λD σ H=>tFor (zrn (tVar 2)) _ _ (Ends.thw _ D) σ H) (λi σ H'=>i<=kf.length/\(∃v4 v5 v6 v7 v8,σ = [some (.int n),some (.ref a),some (.ref b),some (.ref d),v4,v5,v6,v7,v8])/\FzD H' a o kf/\Kp [d,a] H1 H'/\∃kv,H' d=some (.dT kv)/\PF n m H' kv (mul ((tms kf).take i) φ ψ)/\kv.length<=i*kg.length) ?_ (λi σ H' h=>h.2.2.1) ?_ ?_
 ·refine⟨Y2 _,⟨none,none,none,none,none,Z⟩,zaf,Kp.upd (by simp),[],(zal da).trans hd1,PF.nil.congr λt=>?_,Y2 _⟩;rw[List.take_zero];rfl
 ·rintro i kx vx σ H3 p c hk ⟨hi,⟨v4,v5,v6,v7,v8,rfl⟩,hz,hk3,kv,hd3,pk,lk⟩ hp hc;obtain⟨y,rfl,y0,hy,iy,ny⟩:=pF.ix hk;have hlt:=zc0 hk;have tk:=zb7 hy;have fx3:Fix H H3:=(Fix.of e1).tr (hk3.fix λq hq ob hob=>by
   rcases Yj.mp hq with rfl | hq
   ·rw[hd1]at hob;cases hob;exact .inl ⟨_,Z⟩
   ·rw[Yq.mp hq,hA1]at hob;cases hob;exact .inl ⟨_,Z⟩)
  refine⟨p,_,Z,SqT.of zaf,Z,_,_,Z,_,_,Z,Z,?_⟩;have e4:Same H3 (upd H3 p (.tup [.ref c,vx])):=Same.upd hp;generalize upd H3 p (HO.tup [V.ref c,vx])=H4 at e4;have fx4:Fix H H4:=fx3.tr (.of e4);have hc4:=e4 _ _ hc;rw[zf8]at hc4;have hb4:H4 b=some (.dT kg):=e4 _ _ (hk3 _ _ (e1 _ _ hb0) (by simp[Ne.symm db,Ne.symm ab]));have hd4:=e4 _ _ hd3;have pk4:=pk.same e4;have lkk:i*kg.length+kg.length<=kf.length*kg.length:=by rw[<- Nat.succ_mul];exact Y4 _ hlt
  refine⟨_,Z,b,kg,Z,.inl hb4,λo2=>?_⟩;refine zb8 (tb:=tSeq _ _) (λj σ H'=>j<=kg.length/\(∃v6 v7 v8,σ = [some (.int n),some (.ref a),some (.ref b),some (.ref d),some (.ref c),some vx,v6,v7,v8])/\FzD H' b o2 kg/\Kp [d,b] H4 H'/\∃kv2,H' d=some (.dT kv2)/\PF n m H' kv2 (λt=>mul ((tms kf).take i) φ ψ t + φ y*sh y (cutP ψ ((tms kg).take j)) t)/\kv2.length<=i*kg.length+j) ?_ (λj σ H' h=>h.2.2.1) ?_ ?_
  ·refine⟨Y2 _,⟨_,_,_,Z⟩,zaf,Kp.upd (by simp),kv,(zal db).trans hd4,?_,lk⟩;refine(pk4.fix (zcl hb4)).congr λt=>?_
   rw[List.take_zero,zfe];have:sh y (λ_=>(0:F)) t=0:=by unfold sh;split <;> rfl
   rw[this];grind
  ·rintro j ku vu σ H5 p2 c2 hk2 ⟨hj,⟨v6,v7,v8,rfl⟩,hz2,hk5,kv2,hd5,pk5,lk5⟩ hp2 hc2;obtain⟨u,rfl,u0,hu,iu,nu⟩:=pG.ix hk2;have hltj:=zc0 hk2;have tkj:=zb7 hu;have fx5:Fix H H5:=fx4.tr (hk5.fix λq hq ob hob=>by
    rcases Yj.mp hq with rfl | hq
    ·rw[hd4]at hob;cases hob;exact .inl ⟨_,Z⟩
    ·rw[Yq.mp hq,hb4]at hob;cases hob;exact .inl ⟨_,Z⟩)
   refine⟨p2,_,Z,SqT.of zaf,Z,_,_,Z,_,_,Z,Z,?_⟩;have e6:Same H5 (upd H5 p2 (.tup [.ref c2,vu])):=Same.upd hp2;generalize upd H5 p2 (HO.tup [V.ref c2,vu])=H6 at e6;have hc26:=e6 _ _ hc2;rw[zf8]at hc26;have nca:c≠d:=zep hc4 hd4 (by intro z;cases z);have ncb:c≠b:=zep hc4 hb4 (by intro z;cases z);have hc6:H6 c=some (.tup (y.map V.int)):=e6 _ _ (hk5 _ _ hc4 (by simp[nca,ncb]));have fx6:=fx5.tr (Fix.of e6);refine sab λrr hrr=>?_
   show tComp _ _ _ _ _ _ _ _;refine zku (K:=K) (b1:=true) (b2:=true) (a:=c) (b:=c2) (xs:=y) (ys:=u) yes2 (λx y=>.int (x+y)) (by rfl) ?_ (SqT.of hc6) (SqT.of hc26) (by rw[y0.len];omega) ?_ ?_ λD H7 e7 hL=>?_
   ·exact λR hR=>⟨_,Z,_,Z,hR⟩
   ·exact λ_ _ _ h=>h
   ·exact λi H' R _ h=>⟨_,Z,_,Z,_,_,Z,Z,h⟩
   rw[zrv (λx y=>x+y)]at hL;refine⟨D,_,Z,.inl ⟨SqL.of hL,λr hr=>?_⟩⟩;have e8:Same H7 (upd H7 r (.tup ((List.zipWith (λx y=>x+y) y u).map V.int))):=Same.upd hr;have hr8:(upd H7 r (HO.tup ((List.zipWith (λx y=>x+y) y u).map V.int))) r=some (.tup ((addT y u).map V.int)):=zaf;dsimp only[za3];generalize upd H7 r (HO.tup ((List.zipWith (λx y=>x+y) y u).map V.int))=H8 at e8 hr8 ⊢;subst hrr;have e68:=e7.trans e8;have fx8:=fx6.tr (Fix.of e68);refine⟨_,Z,_,Z,_,Z,_,Z,_,Z,_,Z,F,fF,n,cF,vx,vu,φ y,ψ u,Z,n2,n1,iy.fix fx8,iu.fix fx8,bF y,bG u,λw H9 e9 hw=>?_⟩;have e69:=e68.trans e9;have e59:=e6.trans e69;have hd9:=e59 _ _ hd5;have lu:u.length=y.length:=by rw[u0.len,y0.len]
   have cut0:sh y (cutP ψ ((tms kg).take j)) (addT y u)=0:=by rw[zv8 lu];exact zh7 (zqu pG.tnd hu)
   have eM:mul ((tms kf).take i) φ ψ (addT y u) + φ y*sh y (cutP ψ ((tms kg).take j)) (addT y u)=mul ((tms kf).take i) φ ψ (addT y u):=by rw[cut0];grind
   refine⟨F,fF,n,cF,m,d,r,addT y u,w,φ y * ψ u,kv2,_,Z,n2,hd9,e9 _ _ hr8,G.T0.add y0 u0,pk5.same e59,hw,by rw[eM];exact bM i _,bP y u,by omega,λH10 kv10 kp10 hd10 pk10 l10=>?_⟩;refine⟨hltj,⟨_,_,_,Z⟩,kp10 _ _ (e59 _ _ hz2) (by simp[Ne.symm db]),(hk5.tr (.of e59)).tr (λq o hq nq=>kp10 q o hq λz=>nq (by simp at z;simp[z])),kv10,hd10,?_,by omega⟩;rw[tkj,<- zmr lu];rw[eM]at pk10;exact pk10
  ·rintro σ H5 ⟨_,⟨v6,v7,v8,rfl⟩,hz2,hk5,kv2,hd5,pk5,lk5⟩;rw[<- ltg,List.take_length,ze8 λt ht=>pG.tmem.mpr ht]at pk5;refine .inr ⟨b,o2,_,hz2,λo' w' z=>?_,hlt,⟨_,_,_,_,_,rfl⟩,?_,?_,kv2,(zal db).trans hd5,?_,by rw[Nat.succ_mul];exact lk5⟩
   ·have z':H b=some (.frz o' w'):=z;rw[hb0]at z';cases z'
   ·exact(zal ab).trans (hk5 _ _ (e4 _ _ hz) (by simp[Ne.symm da,ab]))
   ·refine λq ob hq nq=>?_
    by_cases be:q=b
    ·subst be;rw[zaf];have:=hk3 q ob hq nq;rw[<- hb4];exact e4 _ _ this
    ·rw[zal be];simp only[List.mem_cons,List.not_mem_nil,or_false,not_or]at nq;exact hk5 _ _ (e4 _ _ (hk3 q ob hq (by simp[nq]))) (by simp[nq,be])
   ·rw[tk,zk2];exact pk5.fix (zdu (u:=.dT []) hz2 (.inr (.inr ⟨_,_,Z⟩)))
 ·rintro σ H3 ⟨_,⟨v4,v5,v6,v7,v8,rfl⟩,hz,hk3,kv,hd3,pk,lk⟩;rw[<- lt,List.take_length]at pk;refine .inr ⟨a,o,_,hz,λo' w' z=>?_,_,rfl,k d _ kv nd (λq ob hq=>?_) ((zal da).trans hd3) (pk.fix (zdu (u:=.dT []) hz (.inr (.inr ⟨_,_,rfl⟩)))) lk⟩
  ·have z':H a=some (.frz o' w'):=z;rw[ha]at z';cases z'
  ·by_cases be:q=a
   ·subst be;rw[zaf,<- ha];exact hq
   ·rw[zal be];exact hk3 _ _ (e1 _ _ hq) (by simp[be,zan hq nd])
theorem zp6(F:FunD K "_law_whole" "_law_whole" zeb .none f fd)   : FnOk P w K mg base CX0 1 f fd ["_law_found"] zji:=by
 have scWhole:FnScope ["_law_found"] ["_law_found"] (zaj zeb):=sM (by decide +kernel);refine F.okN (k:=0) scWhole (by walk_at "v") (λcdv A outer s H vs Q E hr=>?_);walk_at "x";rename_i g_ hg_ i;rintro⟨rfl,h⟩;subst hg_;refine⟨_,(zah (zao (zi4 (za1 (zb6 (K:=K) rfl) rfl T.b_isinstance (by kernel_rfl) ((zaa (pv 0) (zaa (zfl (v:=.ty "int") rfl T.b_int (by kernel_rfl) rfl) zai)))) (zg5 (zxa (za1 (zb6 (K:=K) rfl) rfl T.b_isinstance (by kernel_rfl) ((zaa (pv 0) (zaa (zfl (v:=.ty "bool") rfl T.b_bool (by kernel_rfl) rfl) zai))))))))),?_⟩;exact⟨_,Z,_,_,_,_,_,Z,Z,.int i,T.kii,_,Z,iteT ⟨_,Z,_,_,_,_,_,Z,Z,.int i,T.kib,_,Z,h⟩⟩
theorem zvs(F:FunD K "_law_is_number" "_law_is_number" zcg .none f fd)(c_Whole:Cal P w K mg base CX0 1 "_law_whole" ["_law_found"] [] zji):FnOk P w K mg base CX0 2 f fd ["_law_p","_law_found"] zwx:=by
 have scIsN:FnScope ["_law_p","_law_found"] ["_law_p","_law_found"] (zaj zcg):=sM (by decide +kernel);refine F.okN (k:=1) scIsN (by walk_at "v") (λcdv A outer s H vs Q E hr=>?_);walk_at "x";rename_i g_ hg_ F fF n cF v x;rintro⟨rfl,h⟩;subst hg_;refine⟨_,(zad (za0 (zar zfx (pv 0) (zac) (nomark _)) (zah (zao (pe_c c_Whole hr zap .nil ((zaa (pv 1) zai))))) zat)
  (zad (za0 (PW.pt (zhv (zeq (zbt (za1 (zb6 (K:=K) rfl) rfl T.b_isinstance (by kernel_rfl) ((zaa (pv 1) (zaa (zfl (v:=.ty "tuple") rfl T.b_tuple (by kernel_rfl) rfl) zai)))))) (zf6 (zar zj5 (za1 (zeg (K:=K) rfl) rfl T.b_len PySem.boot_len ((zaa (pv 1) zai))) (zac) (nomark _))))) (zah (zao (zcq))) zat)
  (zah (zao (zi4 (pe_c c_Whole hr zap .nil ((zaa (zaw (r:=rIxT K) zas (pv 1) (zac) (λ_ _=>Z)) zai))) (zg5 (pe_c c_Whole hr zap .nil ((zaa (zaw (r:=rIxT K) zas (pv 1) (zac) (λ_ _=>Z)) zai))))))))),?_⟩
 obtain⟨n2,hv,k⟩:=h;walk_at "rd";refine cD (λc=>?_) (λc=>?_)
 ·have n0:n≠0:=by omega
  obtain⟨a,rfl,a0,a1,ea⟩:=(zdo n0).mp hv;exact⟨_,Z,a,Z,k⟩
 ·obtain rfl:=zol n2 c;obtain⟨r,p,q,rfl,hr0,q1,g1,e1⟩:=rep_0.mp hv;refine⟨_,Z,_,_,_,_,_,Z,Z,.tup hr0,T.ktt,_,Z,iteF ?_⟩;refine⟨_,Z,r,_,Z,.inr (SqT.of hr0),Z,_,Z,iteF ?_⟩;refine⟨_,Z,r,_,_,_,Z,Z,SqT.of hr0,atI0,p,Z,_,Z,iteT ?_⟩;exact⟨_,Z,r,_,_,_,Z,Z,SqT.of hr0,atI1,q,Z,k⟩
theorem zxs(F:FunD K "_law_is_poly" "_law_is_poly" zdf .none f fd)(c_IsN:Cal P w K mg base CX0 2 "_law_is_number" ["_law_p","_law_found"] [] zwx)(c_Whole:Cal P w K mg base CX0 1 "_law_whole" ["_law_found"] [] zji):FnOk P w K mg base CX0 4 f fd ["_law_p","_law_found"] zwp:=by
 have scIsP:FnScope ["_law_p","_law_found","_law_term","_law_number_here","_law_a"] ["_law_p","_law_found"] (zaj zdf):=sM (by decide +kernel);refine F.okN (k:=3) scIsP (by walk_at "v") (λcdv A outer s H vs Q E hr=>?_);walk_at "x";rename_i g_ hg_ F fF n cF m d kvs φ;rintro⟨rfl,h⟩;subst hg_;refine⟨_,(zad (za0 (zeq (zbt (za1 (zb6 (K:=K) rfl) rfl T.b_isinstance (by kernel_rfl) ((zaa (pv 1) (zaa (zfl (v:=.ty "dict") rfl T.b_dict (by kernel_rfl) rfl) zai)))))) (zah (zao (zcq))) zat)
  (zad (zf3 (zdk PassesOwn.never rfl (zc5 (pv 1)) (zes rfl (za9 (zbb (i:=2) scIsP.nd rfl (Or.inl rfl)) (za9 (zbb (i:=3) scIsP.nd rfl (Or.inl rfl)) zc8))) (zad (za0 (PW.pt (zhv (zeq (zbt (za1 (zb6 (K:=K) rfl) rfl T.b_isinstance (by kernel_rfl) ((zaa (pv 2) (zaa (zfl (v:=.ty "tuple") rfl T.b_tuple (by kernel_rfl) rfl) zai)))))) (zf6 (zeq (zbt (pe_c c_IsN hr zap .nil ((zaa (pv 0) (zaa (pv 3) zai))))))))) (zah (zao (zcq))) zat)
  (zah (zdk PassesOwn.never rfl (zua (K:=K) rfl (pv 2)) (zbb (i:=4) scIsP.nd rfl (Or.inl rfl)) (zah (za0 (zeq (zbt (pe_c c_Whole hr zap .nil ((zaa (pv 4) zai))))) (zah (zao (zcq))) zat)))))))
  (zah (zao (zcq))))),?_⟩
 obtain⟨n2,m4,hd,pf,k⟩:=h;refine⟨_,Z,_,_,_,_,_,Z,Z,.dT hd,T.kdd,_,Z,iteF ?_⟩;refine⟨_,Z,d,kvs,Z,.inl hd,λo=>?_⟩;refine zb8 (λi σ H'=>(∃v3 v4 v5,σ = [some (.int n),some (.ref d),v3,v4,v5])/\FzD H' d o kvs/\Kp [d] H H') ⟨⟨none,none,none,Z⟩,zaf,Kp.upd (by simp)⟩ (λi σ H' h=>h.2.1) ?_ ?_
 ·rintro i kx v σ H2 p b hk ⟨⟨v3,v4,v5,rfl⟩,hz,kp⟩ hp hb;obtain⟨t,rfl,t0,ht,iv,nv⟩:=pf.ix hk;have fx:Fix H H2:=kp.fix λa ha ob hob=>by
   rw[Yq.mp ha,hd]at hob;cases hob;exact .inl ⟨_,Z⟩
  refine⟨p,_,Z,SqT.of zaf,Z,_,_,Z,_,_,Z,Z,?_⟩;have e3:Same H2 (upd H2 p (.tup [.ref b,v])):=Same.upd hp;generalize upd H2 p (HO.tup [V.ref b,v])=H3 at e3;have hb3:=e3 _ _ hb;rw[zf8]at hb3;have tl:(t.map V.int).length=m:=by rw[Yd,t0.len]
  refine⟨_,Z,_,_,_,_,_,Z,Z,.tup hb3,T.ktt,_,Z,iteF ?_⟩;refine⟨_,Z,_,Z,F,fF,n,cF,v,φ t,Z,n2,iv.fix (fx.tr (.of e3)),_,Z,iteF ?_⟩;refine⟨_,Z,b,Z,⟨_,SqT.of hb3⟩,?_⟩;refine zpl (zpu (K:=K) (SqT.of hb3)) (λi σ=>∃v5,σ = [some (.int n),some (.ref d),some (.ref b),some v,v5]) ⟨_,Z⟩ ?_ ?_
  ·rintro i v σ' H4 hi ⟨v5,rfl⟩ e4 hv;dsimp only[za3];rw[Ym]at hv
   cases ha:t[i]? with
   | none=>rw[ha]at hv;cases hv
   | some a=>
    rw[ha]at hv;injection hv with hv
    subst hv;exact⟨_,Z,a,Z,_,Z,iteF ⟨⟨_,Z⟩,e4⟩⟩
  ·rintro σ' H4 ⟨v5,rfl⟩ e4;have g5:=e3.trans e4;exact⟨⟨_,_,_,rfl⟩,g5 _ _ hz,kp.tr (.of g5)⟩
 ·rintro σ H2 ⟨⟨v3,v4,v5,rfl⟩,hz,kp⟩;refine .inr ⟨d,o,_,hz,λo' w' z=>?_,?_⟩
  ·have z':H d=some (.frz o' w'):=z;rw[hd]at z';cases z'
  refine k _ λb ob hb=>?_
  by_cases be:b=d
  ·subst be;rw[zaf,<- hd];exact hb
  ·rw[zal be];exact kp _ _ hb (by simp[be])
theorem zwe(F:FunD K "_law_is_low" "_law_is_low" zdv .none f fd)   : FnOk P w K mg base CX0 1 f fd ["_law_p","_law_bottom"] zxw:=by
 have scLow:FnScope ["_law_p","_law_bottom"] ["_law_p","_law_bottom"] (zaj zdv):=sM (by decide +kernel);refine F.okN (k:=0) scLow (by walk_at "v") (λcdv A outer s H vs Q E hr=>?_);walk_at "x";rename_i g_ hg_ n b;rintro⟨rfl,h⟩;subst hg_;refine⟨_,(zad (za0 (zar zfx (pv 0) (zac) (nomark _)) (zah (zao (zdp zbp (zau za7 (pv 1) (pv 0)) (zac) (nomark _)))) zat)
  (zah (zao (zdp zbp (pv 1) (zac) (nomark _))))),?_⟩
 obtain⟨n2,k⟩:=h;walk_at "rd";refine cD (λc=>?_) (λc=>?_)
 ·have n0:n≠0:=by omega
  rw[show decide (zr n b)=decide (b%n=0) from decide_eq_decide.mpr (zr_n n0)]at k;refine⟨_,Z,_,Z,_,_,Z,Z,(by show 0<n;omega),Z,?_⟩;dsimp only;rw[vdec];exact k
 ·obtain rfl:=zol n2 c;rw[show decide (zr 0 b)=decide (b=0) from decide_eq_decide.mpr zr_0]at k;refine⟨_,Z,Z,?_⟩;dsimp only;rw[vdec];exact k
theorem zxm(F:FunD K "_law_quotient" "_law_quotient" zcx .none f fd)(c_Red:Cal P w K mg base CX0 1 "_law_reduced" ["_law_top","_law_bottom"] [] zor):FnOk P w K mg base CX0 2 f fd ["_law_p","_law_top","_law_bottom"] zvy:=by
 have scQuo:FnScope ["_law_p","_law_top","_law_bottom","_law_found","_law_by","_law_left"] ["_law_p","_law_top","_law_bottom"] (zaj zcx):=sM (by decide +kernel);refine F.okN (k:=1) scQuo (by walk_at "v") (λcdv A outer s H vs Q E hr=>?_);walk_at "x";rename_i g_ hg_ F fF n cF t b;rintro⟨rfl,h⟩;subst hg_;refine⟨_,(zad (za0 (zar zbp (pv 0) (zac) (nomark _)) (zah (zao (pe_c c_Red hr zap .nil ((zaa (pv 1) (zaa (pv 2) zai)))))) zat)
  (zad (zaq (i:=3) scQuo.nd rfl (Or.inl rfl) (zau za7 (pv 1) (pv 0)))
  (zad (zaq (i:=4) scQuo.nd rfl (Or.inl rfl) (zau za7 (pv 2) (pv 0)))
  (zad (zaq (i:=5) scQuo.nd rfl (Or.inl rfl) (zau zle (pv 0) (zac)))
  (zad (zb5 PassesOwn.never (zar zfx (pv 5) (zac) (nomark _)) (zad (za0 (zar zbp (zau za7 (pv 5) (zac)) (zac) (nomark _)) (zah (zaq (i:=3) scQuo.nd rfl (Or.inl rfl) (zau za7 (zau zbo (pv 3) (pv 4)) (pv 0)))) zat)
  (zad (zaq (i:=4) scQuo.nd rfl (Or.inl rfl) (zau za7 (zau zbo (pv 4) (pv 4)) (pv 0)))
  (zah (zaq (i:=5) scQuo.nd rfl (Or.inl rfl) (zau zca (pv 5) (zac)))))))
  (zah (zao (pv 3)))))))),?_⟩
 obtain⟨n2,n1,b1,bl,hb,k⟩:=h;walk_at "rd";refine cEq (λc=>?_) (λc=>?_)
 ·subst c;obtain⟨x,hx⟩:=zmf (F:=F) (t:=t) (b:=b) (by omega);exact⟨_,Z,_,Z,t,b,Z,b1,bl,λr H' e hr'=>k _ x H' hx e (zhw b1 hr' hx)⟩
 ·have np:=n2.resolve_left c;have p2:=np.1;have fm:=fermat (F:=F) np hb;refine⟨_,Z,_,Z,_,_,Z,Z,(by show 0<n;omega),?_⟩;dsimp only[za3];refine⟨_,Z,_,Z,_,_,Z,Z,(by show 0<n;omega),?_⟩;dsimp only[za3];refine⟨_,Z,_,_,Z,Z,?_⟩;dsimp only[za3];have t0:=Jl t c;have t1:=Jc t (show 0<n by omega);have b0:=Jl b c;have b2:=Jc b (show 0<n by omega);have bd:∀{a:Int},0<=a->a<n->a.natAbs<2^20000:=fun{a} h1 h2=>up (show a.natAbs<2^14 by omega) (by decide)
  refine⟨λm σ H'=>∃f y l:Int,m=l.toNat/\σ = [some (.int n),some (.int t),some (.int b),some (.int f),some (.int y),some (.int l)]/\H'=H/\0<=f/\f<n/\0<=y/\y<n/\0<=l/\ic (F:=F) f*pwF (ic y) l.toNat=ic t*pwF (ic b) (n.toNat-2),⟨_,_,_,_,Z,Z,Z,t0,t1,b0,b2,by omega,by rw[zcw,zcw,show (n-2).toNat=n.toNat-2 by omega]⟩,?_⟩;rintro m σ H' ⟨f,y,l,rfl,rfl,rfl,f0,f1,y0,y1,l0,ee⟩;walk_at "rd";refine cD (λc1=>?_) (λc1=>?_)
  ·refine⟨λσ' H''=>∃f' y':Int,σ'=[some (.int n),some (.int t),some (.int b),some (.int f'),some (.int y'),some (.int (l / 2))]/\H''=H'/\0<=f'/\f'<n/\0<=y'/\y'<n/\ic (F:=F) f'*pwF (ic y') (l / 2).toNat=ic t*pwF (ic b) (n.toNat-2),?_,?_⟩
   ·rintro σ' H'' ⟨f',y',rfl,rfl,q1,q2,q3,q4,q5⟩;exact⟨(l / 2).toNat,by omega,f',y',l / 2,rfl,rfl,rfl,q1,q2,q3,q4,by omega,q5⟩
   ·refine zbm (λσ' H''=>∃f':Int,σ'=[some (.int n),some (.int t),some (.int b),some (.int f'),some (.int y),some (.int l)]/\H''=H'/\0<=f'/\f'<n/\ic (F:=F) f'*pwF (ic y) (2*(l / 2).toNat)=ic t*pwF (ic b) (n.toNat-2)) ?_ λN hN=>?_
    rotate_left
    ·refine⟨_,Z,_,_,Z,Z,(by show (0:Int)<2;decide),Z,_,Z,cEq (λc2=>?_) (λc2=>?_)⟩
     ·refine⟨_,Z,_,Z,_,_,Z,Z,⟨bd f0 f1,bd y0 y1⟩,_,Z,_,_,Z,Z,(by show 0<n;omega),hN _ _ ⟨_,Z,Z,Jl _ c,Jc _ (by omega),?_⟩⟩;rw[zcw,za5];rw[show l.toNat=2*(l / 2).toNat+1 by omega]at ee;rw[<- ee];show _=ic f*(pwF (ic y) (2*(l / 2).toNat)*ic y);grind
     ·refine hN _ _ ⟨f,Z,Z,f0,f1,?_⟩;rw[show 2*(l / 2).toNat=l.toNat by omega];exact ee
    rintro σ' H'' ⟨f',rfl,rfl,q1,q2,q3⟩;refine⟨_,rfl,_,rfl,_,_,rfl,rfl,⟨bd y0 y1,bd y0 y1⟩,_,rfl,_,_,rfl,rfl,(by show 0<n;omega),?_⟩;dsimp only[za3];refine⟨_,rfl,_,_,rfl,rfl,⟨by decide,by decide⟩,?_⟩;refine⟨f',_,rfl,rfl,q1,q2,Jl _ c,Jc _ (by omega),?_⟩;rw[zcw,za5,zoo];exact q3
  ·have lz:l=0:=by omega
   subst lz;refine⟨_,Z,k _ (ic f) H' ?_ (Same.refl _) ((zdo c).mpr ⟨_,Z,f0,f1,Z⟩)⟩;have ee:ic (F:=F) f*1=ic t*pwF (ic b) (n.toNat-2):=ee;rw[show n.toNat-1=n.toNat-2+1 by omega]at fm;have fm:pwF (ic (F:=F) b) (n.toNat-2)*ic b=1:=fm;grind
theorem zxx(F:FunD K "_law_shut" "_law_shut" ze5 .none f fd)   : FnOk P w K mg base CX0 2 f fd ["_law_one"] zl7:=by
 have scShu:FnScope ["_law_one"] ["_law_one"] (zaj ze5):=sM (by decide +kernel);refine F.okN (k:=1) scShu (by walk_at "v") (λcdv A outer s H vs Q E hr=>?_);walk_at "x";rename_i g_ hg_ F fF n m v e;rintro⟨rfl,h⟩;subst hg_;refine⟨_,(zah (zao (zbc ((zaa (zau zba (zau zba (zay) (zaw (r:=rIxT K) zas (pv 0) (zac) (λ_ _=>Z))) (zay)) (zaa (zac) (zaa (zau zc6 (zaw (r:=rIxT K) zas (pv 0) (zac) (λ_ _=>Z)) (zac)) (zaa (zaw (r:=rIxT K) zas (pv 0) (zac) (λ_ _=>Z)) (zaa (zaw (r:=rIxT K) zas (pv 0) (zac) (λ_ _=>Z)) (zaa (zaw (r:=rIxT K) zas (pv 0) (zac) (λ_ _=>Z)) zai)))))))))),?_⟩;obtain⟨⟨⟨q,rfl,hq⟩,ht,kvs,φ,hd⟩,xl,k⟩:=h;have sl:1002000<sizeLine:=by rw[sizeLine_eq];decide
 refine⟨_,Z,q,_,_,_,Z,Z,SqT.of hq,Z,_,_,Z,Z,?_,_,_,Z,Z,?_,_,Z,q,_,_,_,Z,Z,SqT.of hq,Z,_,_,Z,Z,_,Z,q,_,_,_,Z,Z,SqT.of hq,Z,_,Z,q,_,_,_,Z,Z,SqT.of hq,Z,_,Z,q,_,_,_,Z,Z,SqT.of hq,Z,(by show 6<=sizeLine;decide),λp np=>?_⟩
 ·rw[len1.1];omega
 ·rw[Str.length_append,len1.1,len1.2.1];omega
 refine k _ _ (Same.upd np) ⟨⟨p,Z,?_⟩,ht.sh,kvs,φ,(hd.sh ht).same (Same.upd np)⟩;rw[zaf];unfold EnV;rw[zf2 ht];rfl
theorem zyq(F:FunD K "_law_sum" "_law_sum" zft .none f fd)(c_Shu:Cal P w K mg base CX0 2 "_law_shut" ["_law_one"] [] zl7)(c_Aga:Cal P w K mg base CX0 4 "_law_against" ["_law_p","_law_f"] [] zs6)(c_Pls:Cal P w K mg base CX0 5 "_law_plus" ["_law_p","_law_f","_law_g"] [] zwm):FnOk P w K mg base CX0 7 f fd ["_law_p","_law_sign","_law_one","_law_other"] spSu:=by
 have scSu:FnScope ["_law_p","_law_sign","_law_one","_law_other","_law_poly","_law_deep"] ["_law_p","_law_sign","_law_one","_law_other"] (zaj zft):=sM (by decide +kernel);refine F.okN (k:=6) scSu (by walk_at "v") (λcdv A outer s H vs Q E hr=>?_);walk_at "x";rename_i g_ hg_ F fF n cF m sg b v1 v2 e f0;rintro⟨rfl,h⟩;subst hg_;refine⟨_,(zad (za0 (zar zbp (zaw (r:=rIxT K) zas (pv 3) (zac) (λ_ _=>Z)) (zac) (nomark _)) (zah (zaq (i:=3) scSu.nd rfl (Or.inl rfl) (pe_c c_Shu hr zap .nil ((zaa (pv 3) zai))))) zat)
  (zad (zaq (i:=4) scSu.nd rfl (Or.inl rfl) (zaw (r:=rIxT K) zas (pv 3) (zac) (λ_ _=>Z)))
  (zad (za0 (zar zff (zay) (pv 1) rfl) (zah (zaq (i:=4) scSu.nd rfl (Or.inl rfl) (pe_c c_Aga hr zap .nil ((zaa (pv 0) (zaa (pv 4) zai)))))) zat)
  (zad (zaq (i:=4) scSu.nd rfl (Or.inl rfl) (pe_c c_Pls hr zap .nil ((zaa (pv 0) (zaa (zaw (r:=rIxT K) zas (pv 2) (zac) (λ_ _=>Z)) (zaa (pv 4) zai))))))
  (zad (zaq (i:=5) scSu.nd rfl (Or.inl rfl) (za1 (zil rfl) rfl T.b_max (by kernel_rfl) ((zaa (zaw (r:=rIxT K) zas (pv 2) (zac) (λ_ _=>Z)) (zaa (zaw (r:=rIxT K) zas (pv 3) (zac) (λ_ _=>Z)) zai)))))
  (zah (zao (zbc ((zaa (zau zba (zau zba (zaw (r:=rIxT K) zas (pv 2) (zac) (λ_ _=>Z)) (pv 1)) (zaw (r:=rIxT K) zas (pv 3) (zac) (λ_ _=>Z))) (zaa (zac) (zaa (pv 5) (zaa (pv 4) (zaa (zwg (zaw (r:=rIxT K) zas (pv 2) (zac) (λ_ _=>Z)) (zg5 (zaw (r:=rIxT K) zas (pv 3) (zac) (λ_ _=>Z)))) (zaa (zau zc6 (zaw (r:=rIxT K) zas (pv 2) (zac) (λ_ _=>Z)) (zaw (r:=rIxT K) zas (pv 3) (zac) (λ_ _=>Z))) zai))))))))))))))),?_⟩
 obtain⟨n2,n1,m1,m4,w1,h2,l1,l2,hs,hc,s1,s2,k⟩:=h;have w2:=h2;have sl:1002000<sizeLine:=by rw[sizeLine_eq];decide
 refine zbm (λσ' H'=>Same H H'/\∃v f,σ'=[some (.int n),some (.str sg),some v1,some v,none,none]/\Ent F n m H' f v/\Sh2 m f0 f) ?_ λN hN=>?_
 rotate_left
 ·replace hN:∀σ' H',(Same H H'/\∃v f,σ'=[some (.int n),some (.str sg),some v1,some v,none,none]/\Ent F n m H' f v/\plain f/\f.d=f0.d/\f.x.length<=f0.x.length+2/\f0.x.length<=f.x.length/\f.lo=f0.lo/\f.fv m=f0.fv m)->N σ' H':=λσ' H' ⟨a,v,f,b,c,d1,d2,d3,d4,d5,d6⟩=>hN σ' H' ⟨a,v,f,b,c,d1,d2,d3,d4,d5,d6⟩
  obtain⟨⟨q2,z2,hq2⟩,t2,_⟩:=h2;subst z2;refine⟨_,Z,q2,_,_,_,Z,Z,SqT.of hq2,Z,Z,_,Z,cEq (λc=>?_) (λc=>?_)⟩
  ·refine⟨_,Z,F,fF,n,m,_,f0,Z,w2,by omega,λv' H' e' hv'=>?_⟩;exact hN _ _ ⟨e',v',shE m f0,Z,hv',⟨Z,Z⟩,Z,by rw[zb0];omega,by rw[zb0];omega,Z,zf2 t2⟩
  ·exact hN _ _ ⟨Same.refl _,_,f0,Z,w2,t2.k1 c,Z,by omega,Yi _,Z,Z⟩
 rintro σ' H1 ⟨e1,v,f,rfl,hf,sh⟩;obtain⟨⟨q1,rfl,hq1⟩,t1,k1,φ,d1⟩:=w1;obtain⟨⟨q2,rfl,hq2⟩,t2,k2,ψ,d2⟩:=hf;have lf:=sh.l;have pc1:=t1.pc;have pc2:=t2.pc;have ln1:=d1.ln;have ln2:=d2.ln;have bψ : ∀t,Lim n 1100 (ψ t):=bdL d2.bd (p11 (by omega));refine sab λrr hrr=>?_
 refine⟨_,Z,q2,_,_,_,Z,Z,SqT.of hq2,Z,?_⟩;dsimp only[za3];subst hrr;refine zbm (λσ' H'=>Same H1 H'/\∃d' kv' ψ',σ'=[some (.int n),some (.str sg),some (.ref q1),some (.ref q2),some (.ref d'),none]/\H' d'=some (.dT kv')/\PF n m H' kv' ψ'/\(∀t,ψ' t=if b then - ψ t else ψ t)/\(∀t,Lim n 1100 (ψ' t))/\kv'.length<=k2.length) ?_ λN hN=>?_
 rotate_left
 ·refine⟨_,Z,_,_,Z,Z,_,Z,?_⟩;rw[hc]
  cases b with
  | false=>exact iteF (hN _ _ ⟨Same.refl _,f.d,k2,ψ,rfl,d2.h,d2.pf,λt=>rfl,bψ,Yi _⟩)
  | true=>
   refine iteT ⟨_,Z,_,Z,F,fF,n,cF,m,f.d,k2,ψ,Z,n2,n1,d2.h,d2.pf,λt=>(bψ t).up (by decide),by omega,λd' H' kv' nd e' hd pf ll=>?_⟩;exact hN _ _ ⟨e',d',kv',_,Z,hd,pf,λt=>Z,λt=>(bψ t).neg,ll⟩
 rintro σ' H2 ⟨e2,d',kv',ψ',rfl,hd',pf',eψ,lψ,ll⟩;have g2:=e1.trans e2;have D1:=d1.same g2;refine sab λrr hrr=>?_
 refine⟨_,Z,_,Z,q1,_,_,_,Z,Z,SqT.of (g2 _ _ hq1),Z,_,Z,F,fF,n,cF,m,e.d,d',k1,kv',φ,ψ',Z,n2,m1,m4,D1.h,hd',D1.pf,pf',pl_6 D1.pl l1,λt=>bdL D1.bd (p40 (by omega)) t,λt=>(lψ t).up (by decide),by omega,λd H3 kv nd e3 hd pf lk=>?_⟩;dsimp only[za3];subst hrr;have g3:=g2.trans e3;have hq13:=g3 _ _ hq1;have hq23:=(e2.trans e3) _ _ hq2;refine sab λrr hrr=>?_
 refine⟨_,Z,q1,_,_,_,Z,Z,SqT.of hq13,Z,_,Z,q2,_,_,_,Z,Z,SqT.of hq23,Z,_,_,Z,?_⟩;dsimp only[za3];subst hrr;refine⟨_,Z,q1,_,_,_,Z,Z,SqT.of hq13,Z,_,Z,_,_,Z,Z,by omega,_,Z,q2,_,_,_,Z,Z,SqT.of hq23,Z,_,_,Z,Z,by rw[Str.length_append];omega,_,Z,_,Z,?_⟩;refine zw1 e.lo f.lo (λQ' hQ=>⟨_,Z,q1,_,_,_,Z,Z,SqT.of hq13,Z,hQ⟩) (λQ' hQ=>⟨_,Z,q2,_,_,_,Z,Z,SqT.of hq23,Z,hQ⟩) ?_;refine⟨_,Z,q1,_,_,_,Z,Z,SqT.of hq13,Z,_,Z,q2,_,_,_,Z,Z,SqT.of hq23,Z,_,_,Z,Z,(by show 6<=sizeLine;decide),λp np=>?_⟩;have ev:HO.tup [V.str (e.x++sg++f.x),V.int 2,V.int (if f.dp > e.dp then f.dp else e.dp),V.ref d,V.bl (e.lo||f.lo),V.int (((e.fv m).length:Int)+((f.fv m).length:Int))]=.tup (EnV m (suE b sg d e f)):=by
  unfold EnV;rw[zkz t2 sh.pl,Y6,zfk,Int.natCast_add];rfl
 refine Eq.mp (Jt (λo=>Q (.ref p) (upd H3 p o)) ev.symm) ?_;have e4:Same H3 (upd H3 p (.tup (EnV m (suE b sg d e f)))):=Same.upd np;refine k _ (suE b sg d e f) _ (g3.trans e4) ⟨⟨p,Z,zaf⟩,t1.su t2 sh.pl hs,kv,_,EnD.su t2 sh.pl s1 (d1.same (g3.trans e4)) (d2.same ((e2.trans e3).trans e4)) (λt=>by rw[eψ]) (e4 _ _ hd) (pf.same e4) (by omega)⟩ (g2.free nd) ?_;show (e.x++sg++f.x:Str).length<=1000;rw[len3];omega
theorem zyh(F:FunD K "_law_product" "_law_product" zdi .none f fd)(c_Shu:Cal P w K mg base CX0 2 "_law_shut" ["_law_one"] [] zl7)(c_Tms:Cal P w K mg base CX0 5 "_law_times" ["_law_p","_law_f","_law_g"] [] (zwc K)):FnOk P w K mg base CX0 7 f fd ["_law_p","_law_sign","_law_one","_law_other"] spPd:=by
 have scPd:FnScope ["_law_p","_law_sign","_law_one","_law_other","_law_poly","_law_deep"] ["_law_p","_law_sign","_law_one","_law_other"] (zaj zdi):=sM (by decide +kernel);refine F.okN (k:=6) scPd (by walk_at "v") (λcdv A outer s H vs Q E hr=>?_);walk_at "x";rename_i g_ hg_ F fF n cF m sg v1 v2 e0 f0;rintro⟨rfl,h⟩;subst hg_;refine⟨_,(zad (za0 (zar zbp (zaw (r:=rIxT K) zas (pv 2) (zac) (λ_ _=>Z)) (zac) (nomark _)) (zah (zaq (i:=2) scPd.nd rfl (Or.inl rfl) (pe_c c_Shu hr zap .nil ((zaa (pv 2) zai))))) zat)
  (zad (za0 (zar zbp (zaw (r:=rIxT K) zas (pv 3) (zac) (λ_ _=>Z)) (zac) (nomark _)) (zah (zaq (i:=3) scPd.nd rfl (Or.inl rfl) (pe_c c_Shu hr zap .nil ((zaa (pv 3) zai))))) zat)
  (zad (zaq (i:=4) scPd.nd rfl (Or.inl rfl) (pe_c c_Tms hr zap .nil ((zaa (pv 0) (zaa (zaw (r:=rIxT K) zas (pv 2) (zac) (λ_ _=>Z)) (zaa (zaw (r:=rIxT K) zas (pv 3) (zac) (λ_ _=>Z)) zai))))))
  (zad (zaq (i:=5) scPd.nd rfl (Or.inl rfl) (za1 (zil rfl) rfl T.b_max (by kernel_rfl) ((zaa (zaw (r:=rIxT K) zas (pv 2) (zac) (λ_ _=>Z)) (zaa (zaw (r:=rIxT K) zas (pv 3) (zac) (λ_ _=>Z)) zai)))))
  (zah (zao (zbc ((zaa (zau zba (zau zba (zaw (r:=rIxT K) zas (pv 2) (zac) (λ_ _=>Z)) (pv 1)) (zaw (r:=rIxT K) zas (pv 3) (zac) (λ_ _=>Z))) (zaa (zac) (zaa (pv 5) (zaa (pv 4) (zaa (zwg (zaw (r:=rIxT K) zas (pv 2) (zac) (λ_ _=>Z)) (zg5 (zaw (r:=rIxT K) zas (pv 3) (zac) (λ_ _=>Z)))) (zaa (zau zbo (zaw (r:=rIxT K) zas (pv 2) (zac) (λ_ _=>Z)) (zaw (r:=rIxT K) zas (pv 3) (zac) (λ_ _=>Z))) zai)))))))))))))),?_⟩
 obtain⟨n2,n1,m1,m4,h1,w2,ne0,l1,l2,hs,s1,s2,h40,k⟩:=h;have w1:=h1;have sl:1002000<sizeLine:=by rw[sizeLine_eq];decide
 refine zbm (λσ' H'=>Same H H'/\∃v f,σ'=[some (.int n),some (.str sg),some v,some v2,none,none]/\Ent F n m H' f v/\Sh2 m e0 f) ?_ λN hN=>?_
 rotate_left
 ·replace hN:∀σ' H',(Same H H'/\∃v f,σ'=[some (.int n),some (.str sg),some v,some v2,none,none]/\Ent F n m H' f v/\plain f/\f.d=e0.d/\f.x.length<=e0.x.length+2/\e0.x.length<=f.x.length/\f.lo=e0.lo/\f.fv m=e0.fv m)->N σ' H':=λσ' H' ⟨a,v,f,b,c,d1,d2,d3,d4,d5,d6⟩=>hN σ' H' ⟨a,v,f,b,c,d1,d2,d3,d4,d5,d6⟩
  obtain⟨⟨q1,z1,hq1⟩,t1,_⟩:=h1;subst z1;refine⟨_,Z,q1,_,_,_,Z,Z,SqT.of hq1,Z,Z,_,Z,cEq (λc=>?_) (λc=>?_)⟩
  ·refine⟨_,Z,F,fF,n,m,_,e0,Z,w1,by omega,λv' H' e' hv'=>?_⟩;exact hN _ _ ⟨e',v',shE m e0,Z,hv',⟨Z,Z⟩,Z,by rw[zb0];omega,by rw[zb0];omega,Z,zf2 t1⟩
  ·exact hN _ _ ⟨Same.refl _,_,e0,Z,w1,t1.k1 c,Z,by omega,Yi _,Z,Z⟩
 rintro σ' H0 ⟨g0,v,e,rfl,he,sh1⟩;replace w2:=w2.same g0;have h2:=w2;refine zbm (λσ' H'=>Same H0 H'/\∃v' f,σ'=[some (.int n),some (.str sg),some v,some v',none,none]/\Ent F n m H' f v'/\Sh2 m f0 f) ?_ λN hN=>?_
 rotate_left
 ·replace hN:∀σ' H',(Same H0 H'/\∃v' f,σ'=[some (.int n),some (.str sg),some v,some v',none,none]/\Ent F n m H' f v'/\plain f/\f.d=f0.d/\f.x.length<=f0.x.length+2/\f0.x.length<=f.x.length/\f.lo=f0.lo/\f.fv m=f0.fv m)->N σ' H':=λσ' H' ⟨a,v',f,b,c,d1,d2,d3,d4,d5,d6⟩=>hN σ' H' ⟨a,v',f,b,c,d1,d2,d3,d4,d5,d6⟩
  obtain⟨⟨q2,z2,hq2⟩,t2,_⟩:=h2;subst z2;refine⟨_,Z,q2,_,_,_,Z,Z,SqT.of hq2,Z,Z,_,Z,cEq (λc=>?_) (λc=>?_)⟩
  ·refine⟨_,Z,F,fF,n,m,_,f0,Z,w2,by omega,λv' H' e' hv'=>?_⟩;exact hN _ _ ⟨e',v',shE m f0,Z,hv',⟨Z,Z⟩,Z,by rw[zb0];omega,by rw[zb0];omega,Z,zf2 t2⟩
  ·exact hN _ _ ⟨Same.refl _,_,f0,Z,w2,t2.k1 c,Z,by omega,Yi _,Z,Z⟩
 rintro σ' H1 ⟨e1,v',f,rfl,hf,sh2⟩;replace he:=he.same e1;obtain⟨⟨q1,rfl,hq1⟩,t1,k1,φ,d1⟩:=he;obtain⟨⟨q2,rfl,hq2⟩,t2,k2,ψ,d2⟩:=hf;have lf1:=sh1.l;have lf2:=sh2.l;have ln1:=d1.ln;have ln2:=d2.ln;have bφ : ∀t,Lim n 1100 (φ t):=bdL d1.bd (p11 (by omega));have bψ : ∀t,Lim n 1100 (ψ t):=bdL d2.bd (p11 (by omega));have hk:k1.length*k2.length<=40:=by
  refine Yr (Nat.mul_le_mul ln1 ln2) ?_;rw[sh1.fv,sh2.fv];exact h40
 refine sab λrr hrr=>?_
 refine⟨_,Z,_,Z,q1,_,_,_,Z,Z,SqT.of hq1,Z,_,Z,q2,_,_,_,Z,Z,SqT.of hq2,Z,F,fF,n,cF,m,e.d,f.d,k1,k2,φ,ψ,Z,n2,n1,m4,by rw[sh1.d,sh2.d];exact ne0,d1.h,d2.h,d1.pf,d2.pf,λt=>(bφ t).up (by decide),λt=>(bψ t).up (by decide),λo t=>((bφ o).mul (bψ t)).up (by decide),λi t=>bdL (d1.bd.mul d2.bd (d1.pf.tnd.sublist (List.take_sublist ..))) (p40 (by omega)) t,by omega,λd H3 kv nd e3 hd pf lk=>?_⟩;dsimp only[za3];subst hrr;have g1:=g0.trans e1;have hq13:=e3 _ _ hq1;have hq23:=e3 _ _ hq2;refine sab λrr hrr=>?_
 refine⟨_,Z,q1,_,_,_,Z,Z,SqT.of hq13,Z,_,Z,q2,_,_,_,Z,Z,SqT.of hq23,Z,_,_,Z,?_⟩;dsimp only[za3];subst hrr;refine⟨_,Z,q1,_,_,_,Z,Z,SqT.of hq13,Z,_,Z,_,_,Z,Z,by omega,_,Z,q2,_,_,_,Z,Z,SqT.of hq23,Z,_,_,Z,Z,by rw[Str.length_append];omega,_,Z,_,Z,?_⟩;refine zw1 e.lo f.lo (λQ' hQ=>⟨_,Z,q1,_,_,_,Z,Z,SqT.of hq13,Z,hQ⟩) (λQ' hQ=>⟨_,Z,q2,_,_,_,Z,Z,SqT.of hq23,Z,hQ⟩) ?_;have fv40:(e.fv m).length<=20000/\(f.fv m).length<=20000:=by
  have:=t1.pc;have:=t2.pc;omega
 refine⟨_,Z,q1,_,_,_,Z,Z,SqT.of hq13,Z,_,Z,q2,_,_,_,Z,Z,SqT.of hq23,Z,_,_,Z,Z,⟨up (show (((e.fv m).length:Nat):Int).natAbs<2^16 by omega) (by decide),up (show (((f.fv m).length:Nat):Int).natAbs<2^16 by omega) (by decide)⟩,(by show 6<=sizeLine;decide),λp np=>?_⟩;have ev:HO.tup [V.str (e.x++sg++f.x),V.int 1,V.int (if f.dp > e.dp then f.dp else e.dp),V.ref d,V.bl (e.lo||f.lo),V.int (((e.fv m).length:Int)*((f.fv m).length:Int))]=.tup (EnV m (prE sg d e f)):=by
  unfold EnV;rw[zka t1 t2 sh1.pl sh2.pl,zc3,Int.natCast_mul];rfl
 refine Eq.mp (Jt (λo=>Q (.ref p) (upd H3 p o)) ev.symm) ?_;have e4:Same H3 (upd H3 p (.tup (EnV m (prE sg d e f)))):=Same.upd np;refine k _ (prE sg d e f) _ ((g1.trans e3).trans e4) ⟨⟨p,Z,zaf⟩,t1.pr t2 sh1.pl sh2.pl hs s1 (by rw[sh1.fv,sh2.fv];exact h40),kv,_,EnD.pr t1 t2 sh1.pl sh2.pl s1 (d1.same (e3.trans e4)) (d2.same (e3.trans e4)) (e4 _ _ hd) (pf.same e4) lk⟩ (g1.free nd) ?_;show (e.x++sg++f.x:Str).length<=1000;rw[len3];omega
theorem zyz(F:FunD K "_law_turned" "_law_turned" zds .none f fd)(c_Shu:Cal P w K mg base CX0 2 "_law_shut" ["_law_one"] [] zl7)(c_Aga:Cal P w K mg base CX0 4 "_law_against" ["_law_p","_law_f"] [] zs6):FnOk P w K mg base CX0 6 f fd ["_law_p","_law_one"] spTu:=by
 have scTu:FnScope ["_law_p","_law_one"] ["_law_p","_law_one"] (zaj zds):=sM (by decide +kernel);refine F.okN (k:=5) scTu (by walk_at "v") (λcdv A outer s H vs Q E hr=>?_);walk_at "x";rename_i g_ hg_ F fF n cF m v1 e0;rintro⟨rfl,h⟩;subst hg_;refine⟨_,(zad (za0 (zar zbp (zaw (r:=rIxT K) zas (pv 1) (zac) (λ_ _=>Z)) (zac) (nomark _)) (zah (zaq (i:=1) scTu.nd rfl (Or.inl rfl) (pe_c c_Shu hr zap .nil ((zaa (pv 1) zai))))) zat)
  (zah (zao (zbc ((zaa (zau zba (zay) (zaw (r:=rIxT K) zas (pv 1) (zac) (λ_ _=>Z))) (zaa (zac) (zaa (zaw (r:=rIxT K) zas (pv 1) (zac) (λ_ _=>Z)) (zaa (pe_c c_Aga hr zap .nil ((zaa (pv 0) (zaa (zaw (r:=rIxT K) zas (pv 1) (zac) (λ_ _=>Z)) zai)))) (zaa (zaw (r:=rIxT K) zas (pv 1) (zac) (λ_ _=>Z)) (zaa (zaw (r:=rIxT K) zas (pv 1) (zac) (λ_ _=>Z)) zai))))))))))),?_⟩
 obtain⟨n2,n1,m1,m4,h1,l1,k⟩:=h;have w1:=h1;have sl:1002000<sizeLine:=by rw[sizeLine_eq];decide
 refine zbm (λσ' H'=>Same H H'/\∃v f,σ'=[some (.int n),some v]/\Ent F n m H' f v/\Sh2 m e0 f) ?_ λN hN=>?_
 rotate_left
 ·replace hN:∀σ' H',(Same H H'/\∃v f,σ'=[some (.int n),some v]/\Ent F n m H' f v/\plain f/\f.d=e0.d/\f.x.length<=e0.x.length+2/\e0.x.length<=f.x.length/\f.lo=e0.lo/\f.fv m=e0.fv m)->N σ' H':=λσ' H' ⟨a,v,f,b,c,d1,d2,d3,d4,d5,d6⟩=>hN σ' H' ⟨a,v,f,b,c,d1,d2,d3,d4,d5,d6⟩
  obtain⟨⟨q1,z1,hq1⟩,t1,_⟩:=h1;subst z1;refine⟨_,Z,q1,_,_,_,Z,Z,SqT.of hq1,Z,Z,_,Z,cEq (λc=>?_) (λc=>?_)⟩
  ·refine⟨_,Z,F,fF,n,m,_,e0,Z,w1,by omega,λv' H' e' hv'=>?_⟩;exact hN _ _ ⟨e',v',shE m e0,Z,hv',⟨Z,Z⟩,Z,by rw[zb0];omega,by rw[zb0];omega,Z,zf2 t1⟩
  ·exact hN _ _ ⟨Same.refl _,_,e0,Z,w1,t1.k1 c,Z,by omega,Yi _,Z,Z⟩
 rintro σ' H1 ⟨e1,v,e,rfl,he,sh1⟩;obtain⟨⟨q1,rfl,hq1⟩,t1,k1,φ,d1⟩:=he;have lf1:=sh1.l;have ln1:=d1.ln;have pc1:=t1.pc;have bφ : ∀t,Lim n 1100 (φ t):=bdL d1.bd (p11 (by omega));refine⟨_,rfl,q1,_,_,_,rfl,rfl,SqT.of hq1,rfl,_,_,rfl,rfl,by rw[len1.2.2.1];omega,_,rfl,q1,_,_,_,rfl,rfl,SqT.of hq1,rfl,_,rfl,_,rfl,q1,_,_,_,rfl,rfl,SqT.of hq1,rfl,F,fF,n,cF,m,e.d,k1,φ,rfl,n2,n1,d1.h,d1.pf,λt=>(bφ t).up (by decide),by omega,λd H3 kv nd e3 hd pf lk=>?_⟩;have hq13:=e3 _ _ hq1;refine⟨_,rfl,q1,_,_,_,rfl,rfl,SqT.of hq13,rfl,_,rfl,q1,_,_,_,rfl,rfl,SqT.of hq13,rfl,(by show 6<=sizeLine;decide),λp np=>?_⟩;have ev:HO.tup [V.str ("-" ++ e.x),V.int 2,V.int e.dp,V.ref d,V.bl e.lo,V.int (((e.fv m).length:Nat):Int)]=.tup (EnV m (tuE d e)):=by
  unfold EnV;rw[zlc t1 sh1.pl,zfk];rfl
 refine Eq.mp (Jt (λo=>Q (.ref p) (upd H3 p o)) ev.symm) ?_;have e4:Same H3 (upd H3 p (.tup (EnV m (tuE d e)))):=Same.upd np;refine k _ (tuE d e) _ ((e1.trans e3).trans e4) ⟨⟨p,Z,zaf⟩,t1.tu sh1.pl,kv,_,EnD.tu t1 sh1.pl (d1.same (e3.trans e4)) (e4 _ _ hd) (pf.same e4) lk⟩ (e1.free nd) ?_;rw[zhk];omega
theorem zxt(F:FunD K "_law_letter" "_law_letter" zdw .none f fd)(c_Num:Cal P w K mg base CX0 2 "_law_number" ["_law_p","_law_top","_law_bottom"] [] znu):FnOk P w K mg base CX0 4 f fd ["_law_p","_law_many","_law_cell"] zvl:=by
 have scLet:FnScope ["_law_p","_law_many","_law_cell","_law_at","_law_power","_law_word","_law_term"] ["_law_p","_law_many","_law_cell"] (zaj zdw):=sM (by decide +kernel);refine F.okN (k:=3) scLet (by walk_at "v") (λcdv A outer s H vs Q E hr=>?_);walk_at "x";rename_i g_ hg_ F fF n cF m c;rintro⟨rfl,h⟩;subst hg_;refine⟨_,(zad (zaq (i:=3) scLet.nd rfl (Or.inr rfl) (zau za7 (pv 2) (pv 1)))
  (zad (zaq (i:=4) scLet.nd rfl (Or.inr rfl) (zau za7 (zau zca (pv 2) (zac)) (zac)))
  (zad (zaq (i:=5) scLet.nd rfl (Or.inl rfl) (zaw zq9 (zay) (pv 3) (λ_ _=>Z)))
  (zad (za0 (zar zbp (pv 4) (zac) (nomark _)) (zah (zaq (i:=4) scLet.nd rfl (Or.inr rfl) (zau za7 (zau zca (pv 2) (zac)) (zac)))) zat)
  (zad (za0 (PW.pt (zhv (zar zj5 (pv 4) (zac) (nomark _)) (zf6 (zar zbp (zau za7 (zau zca (pv 2) (zac)) (zac)) (zac) (nomark _))))) (zah (zaq (i:=5) scLet.nd rfl (Or.inl rfl) (zau zba (zau zba (pv 5) (zay)) (zbl zd7 rfl T.b_str (by kernel_rfl) ((zaa (pv 4) zai)))))) zat)
  (zad (zaq (i:=6) scLet.nd rfl (Or.inl rfl) (zbl (zcz (K:=K) rfl) rfl T.b_tuple (by kernel_rfl) ((zaa (zh6 (N:=["_law_k","_law_at","_law_power"]) (cl:=[("_law_power",s.heap.objs.size+2),("_law_at",s.heap.objs.size+1)]) (mp:=[none,some 3,some 4]) (Blk.of rfl (by decide +kernel) rfl (by decide +kernel) zbk (zfh rfl (zfh rfl zkb)) (zug (fs:=["_law_power","_law_at"]) rfl (by decide +kernel)) rfl (ziy (ze6 rfl (.inl rfl) rfl (ze6 rfl (.inl rfl) rfl zko)))) rfl (zgw rfl T.b_range ((zaa (pv 1) zai))) (λC0 s0 H0 fp0=>zr1 (i:=0) zbk rfl rfl) (λC0 s0 H0 fp0=>zh4) (λC0 s0 H0 fp0=>zau zi0 (pv 2) (zbl zm0 rfl T.b_int (by kernel_rfl) ((zaa (zdp zbp (pv 0) (pv 1) (nomark _)) zai))))) zai))))
  (zah (zao (zbc ((zaa (pv 5) (zaa (zac) (zaa (zac) (zaa (zga hr.units0 (pv 6) (pe_c c_Num hr zap .nil ((zaa (pv 0) (zaa (zac) (zaa (zac) zai)))))) (zaa (zcq) (zaa (zac) zai)))))))))))))))),?_⟩
 obtain⟨n2,m1,m4,k⟩:=h;have i0:=Jl c (show (m:Int)≠0 by omega);have i1:=Jc c (show 0<(m:Int) by omega);obtain⟨j,ej⟩:∃j:Nat,c%(m:Int)=j:=⟨(c%(m:Int)).toNat,by omega⟩;have jm:j<m:=by omega
 obtain⟨ea,a32⟩:=zuy j (by omega);refine⟨_,Z,_,Z,_,_,Z,Z,(by show (0:Int)<m;omega),?_⟩;dsimp only[za3];rw[ej];refine⟨_,Z,_,_,Z,Z,⟨by decide,by decide⟩,_,_,Z,Z,(by show (0:Int)<4;decide),?_⟩;dsimp only[za3];refine⟨_,Z,"xyzt",_,_,Z,Z,(by decide +kernel),zho ea,?_⟩;dsimp only[za3];refine zbm (λσ' H'=>H'=H/\∃p:Nat,σ'=[some (.int n),some (.int m),some (.int c),some (.int j),some (.int (p:Int)),some (.str ⟨#[ltc j]⟩),none]/\p<100) ?_ λN hN=>?_
 rotate_left
 ·refine⟨_,Z,Z,_,Z,cEq (λc1=>?_) (λc1=>?_)⟩
  ·refine⟨_,Z,_,_,Z,Z,⟨by decide,by decide⟩,_,_,Z,Z,(by show (0:Int)<100;decide),?_⟩;refine hN _ _ ⟨Z,(c / 16%100).toNat,?_,by omega⟩;rw[show ((c / 16%100).toNat:Int)=c / 16%100 by omega];rfl
  ·refine hN _ _ ⟨Z,(c / 4%4).toNat,?_,by omega⟩;rw[show ((c / 4%4).toNat:Int)=c / 4%4 by omega];rfl
 rintro σ' H' ⟨rfl,p,rfl,p100⟩;have dp:Dg 2 (dgs p):=dg_n 1 p p100;refine zbm (λσ' H''=>H''=H'/\∃(b:Option (List Nat)) (x:Str),σ'=[some (.int n),some (.int m),some (.int c),some (.int j),some (.int (p:Int)),some (.str x),none]/\flt x.cps.toList=pwT j b/\(∀d,b=some d->Dg 2 d)/\opV b=p/\x.length<=4/\1<=x.length) ?_ λN hN=>?_
 rotate_left
 ·refine zjr (!decide (V.int (p:Int)=V.int 1)) (decide (V.int (c / 16%2)=V.int 1)) (λQ' hQ=>⟨_,Z,Z,_,Z,hQ⟩) (λQ' hQ=>⟨_,Z,_,_,Z,Z,⟨by decide,by decide⟩,_,_,Z,Z,(by show (0:Int)<2;decide),Z,_,Z,hQ⟩) ?_
  cases hb:((!decide (V.int (p:Int)=V.int 1))||decide (V.int (c / 16%2)=V.int 1)) with
  | false=>
   rw[Bool.or_eq_false_iff]at hb;have p1:p=1:=by
    have:=hb.1;rw[vdec]at this;simp at this;omega
   refine iteF (hN _ _ ⟨Z,none,⟨#[ltc j]⟩,Z,zjo _ a32,(λ_ z=>nomatch z),p1.symm,by show 1<=4;decide,Yi 1⟩)
  | true=>
   have l1:(⟨#[ltc j]⟩:Str).length=1:=rfl;have lp:(sI (p:Int)).length<=2:=by rw[<- zjj,zii];exact dp.2.1
   have l2:=len1.2.2.2.1;have sl:1002000<sizeLine:=by rw[sizeLine_eq];decide
   refine iteT ⟨_,Z,_,_,Z,Z,by rw[l1,l2];omega,_,Z,_,Z,zrm (Yf (show ((p:Int)).natAbs<2^40 by omega) (Yv (by decide) (by decide))),_,_,Z,Z,by rw[Str.length_append,l1,l2];have:(toString (p:Int):Str).length<=2:=lp;omega,hN _ _ ⟨Z,some (dgs p),_,Z,?_,(λ_ z=>by injection z with z;rw[<- z];exact dp),ztz p,?_,?_⟩⟩
   ·rw[zcp,zcp,zii,zpe dp,cps1.2.2.2.1,zjo 94 (by decide)];show flt [ltc j]++[94]++dgs p=_;rw[zjo _ a32];rfl
   ·rw[len3,l1,l2];have:(toString (p:Int):Str).length<=2:=lp;omega
   ·rw[len3,l1,l2];omega
 rintro σ' H'' ⟨rfl,b,x,rfl,ex,db,vb,x4,x1⟩;refine sab λrr hrr=>?_
 show tComp _ _ _ _ _ _ _ _;refine zhc (H1:=H'') m (λσ=>∃v,σ = [v,some (.int j),some (.int p)]) (λ_=>true) (λi=>.int (p*(if i=j then 1 else 0))) (by omega) (by omega) ?_ ⟨none,Z⟩ ?_ λD H' e hL=>?_
 ·exact λR hR=>⟨_,Z,hR⟩
 ·rintro i σ' H2 hi ⟨z,rfl⟩ e Ny Nn hy hn;unfold za3 tYes;dsimp only;rw[Yl rfl];have q:=hy [some (.int (0+(i:Int))),some (.int j),some (.int p)] H2 ⟨_,rfl⟩ (Same.refl _) rfl;refine⟨_,rfl,_,rfl,_,rfl,rfl,.inr ⟨_,rfl,_,_,rfl,rfl,.inl ⟨by omega,by omega⟩,?_⟩⟩;rw[vdec];by_cases c1:i=j
  ·rw[Yo (by omega)];rw[Yl c1]at q;exact q
  ·rw[Yw (by omega)];rw[Yh c1]at q;exact q
 rw[Yu.mpr (λ_ _=>Z)]at hL;refine⟨D,_,Z,.inl ⟨SqL.of hL,λl hl=>?_⟩⟩;have g1:=e.updR (o:=.tup (((List.range m).map λi=>V.int (p*(if i=j then 1 else 0))))) (e.free hl);rw[show (List.map (λi=>V.int ((p:Int)*if i=j then 1 else 0)) (List.range (m:Int).toNat))=(only m j p).map V.int by
  unfold only;rw[Jg,Y1];refine List.map_congr_left λi _=>?_
  show V.int ((p:Int)*if i=j then 1 else 0)=V.int (if i=j then(p:Int) else 0);by_cases c1:i=j
  ·rw[Yl c1,Yl c1,Int.mul_one]
  ·rw[Yh c1,Yh c1,Int.mul_zero]]at *
 have e2:Same H' (upd H' l (.tup ((only m j p).map V.int))):=Same.upd hl;have hl2:(upd H' l (HO.tup ((only m j p).map V.int))) l=some (.tup ((only m j p).map V.int)):=zaf;dsimp only[za3];generalize upd H' l (HO.tup ((only m j p).map V.int))=H2 at e2 hl2 ⊢;subst hrr;have g2:=e.trans e2;refine⟨_,Z,λd nd=>?_⟩;have e3:Same H2 (upd H2 d (.dT [])):=Same.upd nd;have d1:(upd H2 d (HO.dT [])) d=some (.dT []):=zaf;generalize upd H2 d (HO.dT [])=H3 at e3 d1 ⊢;refine⟨_,Z,_,Z,F,fF,n,cF,1,Z,n2,λv H4 e4 hv=>?_⟩;rw[zd4]at hv;have ndH:=g2.free nd;refine⟨l,ky (only m j p),Z,e4 _ _ d1,by rw[zf8];exact e4 _ _ (e3 _ _ hl2),?_⟩;have g5:Same H'' (upd H4 d (.dT [(ky (only m j p),v)])):=((g2.trans e3).trans e4).updR ndH;have d5:(upd H4 d (HO.dT [(ky (only m j p),v)])) d=some (.dT [(ky (only m j p),v)]):=zaf;have hv5:Rep n (upd H4 d (.dT [(ky (only m j p),v)])) v (1:F):=hv.keep λb xs hb=>by rw[zal (zep hb (e4 _ _ d1) (by intro z;cases z))];exact hb
 generalize upd H4 d (HO.dT [(ky (only m j p),v)])=H5 at g5 d5 hv5 ⊢;refine⟨(by show 6<=sizeLine;decide),λq nq=>?_⟩;have lf:Lf m ⟨pwT j b,[],[(1,1,only m j p)]⟩:=by
  cases b with
  | none=>exact .inr (.inr (.inl ⟨j,jm,by rw[<- vb];rfl⟩))
  | some ds=>exact .inr (.inr (.inr ⟨j,ds,jm,db ds rfl,by rw[<- vb];rfl⟩))
 have ev:HO.tup [V.str x,V.int 0,V.int 0,V.ref d,V.bl false,V.int 1]=.tup (EnV m (leE d x false ⟨pwT j b,[],[(1,1,only m j p)]⟩)):=by
  unfold EnV;rw[ziq (zfp (n:=0) lf).tf];rfl
 refine Eq.mp (Jt (λo=>Q (.ref q) (upd H5 q o)) ev.symm) ?_;have e6:Same H5 (upd H5 q (.tup (EnV m (leE d x false ⟨pwT j b,[],[(1,1,only m j p)]⟩)))):=Same.upd nq;have eφ : val (F:=F) [(1,1,only m j p)]=mo (only m j p) 1:=funext λt=>zgv zfi (by show 1*ic (1:Int)=ic 1;grind) t
 have lt:(pwT j b).length<=x.length:=by rw[<- ex];exact Yr (List.length_filter_le ..) (by rw[zjj];exact Yi _)
 refine k _ (leE d x false ⟨pwT j b,[],[(1,1,only m j p)]⟩) _ (g5.trans e6) ⟨⟨q,Z,zaf⟩,EnT.le lf ex ⟨(λz=>nomatch z),(fun⟨_,z,_⟩=>nomatch z)⟩ (by show 1<=_;omega),_,mo (only m j p) 1,⟨e6 _ _ d5,(zqe (hv5.same e6) (zgy jm) (λz=>Lean.Grind.Field.zero_ne_one z.symm)),zoq (a:=1) (b:=1) (by decide) (by rw[zd4];grind) (Nat.one_le_pow _ _ (by decide)) (Nat.one_le_pow _ _ (by decide)),λt ht y hy=>?_,by rw[ziq (zfp (n:=0) lf).tf];exact Yi _,λ_=>by rw[ziq (zfp (n:=0) lf).tf,eφ]⟩⟩ ndH (by show x.length<=300;omega) rfl;rw[zrt ht]at hy;obtain⟨i,_,rfl⟩:=Jh.mp hy;show 5*(if i=j then(p:Int) else 0)<=99*((x.length:Int)+1);have pl:(p:Int)<=9\/4<=x.length:=by
  rcases Jf p 10 with q | q
  ·exact .inl (by omega)
  ·cases b with
   | none=>have:1=p:=vb;omega
   | some ds=>
    have dd:=db ds rfl;have:dgv ds=p:=vb;have h1:=zje ds dd.2.2;have h2:2<=ds.length:=by
     rcases Jf ds.length 2 with z | z
     ·have:=Yv (show 0<10 by decide) (show ds.length<=1 by omega);omega
     ·exact z
    have h3:(pwT j (some ds)).length=ds.length+1+1:=rfl;exact .inr (by omega)
 split <;> omega
theorem zuh(F:FunD K "_law_figures" "_law_figures" zdb .none f fd)(c_Low:Cal P w K mg base CX0 1 "_law_is_low" ["_law_p","_law_bottom"] [] zxw)(c_Quo:Cal P w K mg base CX0 2 "_law_quotient" ["_law_p","_law_top","_law_bottom"] [] zvy)(c_Num:Cal P w K mg base CX0 2 "_law_number" ["_law_p","_law_top","_law_bottom"] [] znu):FnOk P w K mg base CX0 5 f fd ["_law_p","_law_many","_law_cell","_law_other","_law_low"] zwj:=by
 have scFgr:FnScope ["_law_p","_law_many","_law_cell","_law_other","_law_low","_law_top","_law_bottom","_law_word","_law_number_here"] ["_law_p","_law_many","_law_cell","_law_other","_law_low"] (zaj zdb):=sM (by decide +kernel);refine F.okN (k:=4) scFgr (by walk_at "v") (λcdv A outer s H vs Q E hr=>?_);walk_at "x";rename_i g_ hg_ F fF n cF m c o low;rintro⟨rfl,h⟩;subst hg_;refine⟨_,(zad (zaq (i:=5) scFgr.nd rfl (Or.inl rfl) (zau za7 (zau zca (pv 2) (zac)) (zaw (r:=rIxL K) zbg (zdm ((zaa (zac) (zaa (zac) (zaa (zau zq8 (zac) (zac)) zai))))) (zau za7 (zau zca (pv 2) (zac)) (zac)) (λ_ _=>Z))))
  (zad (zaq (i:=6) scFgr.nd rfl (Or.inl rfl) (zac))
  (zad (zaq (i:=7) scFgr.nd rfl (Or.inl rfl) (zjx PySem.F.plainAttrs_str PySem.F.slot_str_zfill PySem.F.type_str_zfill zql (zbl zd7 rfl T.b_str (by kernel_rfl) ((zaa (pv 5) zai))) ((zaa (zau zc6 (zac) (zau za7 (zau zca (pv 2) (zac)) (zac))) zai))))
  (zad (za0 (zar zbp (zau za7 (pv 2) (zac)) (zac) (nomark _)) (zad (zaq (i:=6) scFgr.nd rfl (Or.inl rfl) (zau za7 (zau zca (pv 3) (zac)) (zaw (r:=rIxL K) zbg (zdm ((zaa (zac) (zaa (zac) (zaa (zau zq8 (zac) (zac)) zai))))) (zau za7 (pv 3) (zac)) (λ_ _=>Z))))
  (zad (za0 (PW.pt (zom (zbt (pe_c c_Low hr zap .nil ((zaa (pv 0) (zaa (pv 6) zai))))) (zju (zeq (zbt (pv 4)))))) (zah (zaq (i:=6) scFgr.nd rfl (Or.inl rfl) (zac))) zat)
  (zah (zaq (i:=7) scFgr.nd rfl (Or.inl rfl) (zau zba (zau zba (pv 7) (zay)) (zbl zd7 rfl T.b_str (by kernel_rfl) ((zaa (pv 6) zai)))))))) zat)
  (zad (za0 (zbt (pe_c c_Low hr zap .nil ((zaa (pv 0) (zaa (pv 6) zai))))) (zah (zao (zbc ((zaa (pv 7) (zaa (zac) (zaa (zac) (zaa (zcm) (zaa (zcq) (zaa (zac) zai)))))))))) zat)
  (zad (zaq (i:=8) scFgr.nd rfl (Or.inl rfl) (pe_c c_Quo hr zap .nil ((zaa (pv 0) (zaa (pv 5) (zaa (pv 6) zai))))))
  (zad (za0 (zar (zf1 hr.units) (pv 8) (pe_c c_Num hr zap .nil ((zaa (pv 0) (zaa (zac) (zaa (zac) zai))))) (nomark _)) (zah (zao (zbc ((zaa (pv 7) (zaa (zac) (zaa (zac) (zaa (zcm) (zaa (zcq) (zaa (zac) zai)))))))))) zat)
  (zah (zao (zbc ((zaa (pv 7) (zaa (zac) (zaa (zac) (zaa (zga hr.units0 (zbl (zcz (K:=K) rfl) rfl T.b_tuple (by kernel_rfl) ((zaa (zau zv0 (zdm ((zaa (zac) zai))) (pv 1)) zai))) (pv 8)) (zaa (zcq) (zaa (zac) zai))))))))))))))))),?_⟩
 obtain⟨n2,n1,m1,m4,k⟩:=h;have sl:1002000<sizeLine:=by rw[sizeLine_eq];decide
 obtain⟨v,v1,v2,hv⟩:=tabT (r:=c / 2%3) (by omega) (by omega) ((10:Int)^(Int.toNat 30)) (by decide +kernel) (by decide +kernel);obtain⟨u,u1,u2,hu⟩:=tabT (r:=o%3) (by omega) (by omega) ((10:Int)^(Int.toNat 20)) (by decide +kernel) (by decide +kernel);have t0:=Jl (c / 6) (show v≠0 by omega);have t1:=Jc (c / 6) (show 0<v by omega);have s0:=Jl (o / 3) (show u≠0 by omega);have s1:=Jc (o / 3) (show 0<u by omega);obtain⟨a,ea⟩:∃a:Nat,c / 6%v=a:=⟨(c / 6%v).toNat,by omega⟩;obtain⟨B0,eb⟩:∃a:Nat,o / 3%u=a:=⟨(o / 3%u).toNat,by omega⟩;have e30:(10:Int)^30=((10^30:Nat):Int):=by decide +kernel
 rw[e30]at v2 u2;have a30:a<10^30:=by omega
 have b30:B0<10^30:=by omega
 refine⟨_,Z,_,_,Z,Z,⟨by decide,by decide⟩,_,_,Z,Z,⟨by decide,by decide,by decide⟩,(by show 3<=sizeLine;decide),λl hl=>?_⟩;refine⟨_,Z,_,_,Z,Z,⟨by decide,by decide⟩,_,_,Z,Z,(by show (0:Int)<3;decide),l,_,_,_,Z,Z,SqL.of zaf,hv,_,_,Z,Z,(by show 0<v;omega),?_⟩;have e1:Same H (upd H l (.lst [.int 10,.int 100,.int ((10:Int)^(Int.toNat 30))])):=Same.upd hl;dsimp only[za3];generalize upd H l _=H1 at e1 ⊢;rw[ea];obtain⟨es,des,hes,ves,les⟩:=zys a a30 (1+c / 6%4) (by omega);refine⟨_,Z,_,Z,zry a30,Z,_,Z,_,_,Z,Z,⟨by decide,by decide⟩,_,_,Z,Z,(by show (0:Int)<4;decide),_,_,Z,Z,_,_,Z,Z,?_,?_⟩
 ·rcases(by omega:c / 6%4=0\/c / 6%4=1\/c / 6%4=2\/c / 6%4=3) with z | z | z | z <;> rw[z] <;> decide +kernel
 dsimp only[za3];obtain⟨w,ew⟩:∃w,w=Txt.zfill (sI (a:Int)) (1+c / 6%4):=⟨_,Z⟩;have ew':Txt.zfill (Str.ofString (toString (a:Int))) (1+c / 6%4)=w:=ew.symm;rw[<- ew]at hes les;rw[ew'];clear ew ew';have g1:=e1;refine zbm (λσ' H'=>Same H H'/\∃(B:Nat) (b:Option (List Nat)) (w2:Str),σ'=[some (.int n),some (.int m),some (.int c),some (.int o),some (.bl low),some (.int (a:Int)),some (.int (B:Int)),some (.str w2),none]/\flt w2.cps.toList=nuT es b/\(∀d,b=some d->Dg 30 d)/\opV b=B/\B<10^30/\w2.length<=100) ?_ λN hN=>?_
 rotate_left
 ·refine⟨_,Z,_,_,Z,Z,(by show (0:Int)<2;decide),Z,_,Z,cEq (λc1=>?_) (λc1=>?_)⟩;rotate_left
  ·exact hN _ _ ⟨g1,1,none,w,Z,by rw[hes,zpe des];exact(List.append_nil es).symm,(λ_ z=>nomatch z),Z,by decide +kernel,by omega⟩
  refine⟨_,Z,_,_,Z,Z,⟨by decide,by decide⟩,_,_,Z,Z,⟨by decide,by decide,by decide⟩,(by show 3<=sizeLine;decide),λl2 hl2=>?_⟩;refine⟨_,Z,_,_,Z,Z,(by show (0:Int)<3;decide),l2,_,_,_,Z,Z,SqL.of zaf,hu,_,_,Z,Z,(by show 0<u;omega),?_⟩;have e2:Same H1 (upd H1 l2 (.lst [.int 10,.int 100,.int ((10:Int)^(Int.toNat 20))])):=Same.upd hl2;dsimp only[za3];generalize upd H1 l2 _=H2 at e2 ⊢;rw[eb];refine zbm (λσ' H'=>H'=H2/\∃B:Nat,σ'=[some (.int n),some (.int m),some (.int c),some (.int o),some (.bl low),some (.int (a:Int)),some (.int (B:Int)),some (.str w),none]/\B<10^30) ?_ λN' hN'=>?_
  rotate_left
  ·refine zue (decide (zr n (B0:Int))) (!low) (λQ' hQ=>⟨_,Z,_,Z,n,_,Z,n2,_,Z,hQ⟩) (λQ' hQ=>⟨_,Z,_,Z,hQ⟩) ?_
   cases (decide (zr n (B0:Int)) && !low) with
   | true=>exact iteT (hN' _ _ ⟨rfl,1,rfl,by decide +kernel⟩)
   | false=>exact iteF (hN' _ _ ⟨rfl,B0,rfl,b30⟩)
  rintro σ' H' ⟨rfl,B,rfl,hB⟩;have dB:=dg_n 29 B hB;have lB:(toString (B:Int):Str).length<=30:=by
   have:(sI (B:Int)).length<=30:=by rw[<- zjj,zii];exact dB.2.1
   exact this
  have l5:=len1.2.2.2.2;refine⟨_,Z,_,_,Z,Z,by rw[l5];omega,_,Z,_,Z,zry hB,_,_,Z,Z,by rw[Str.length_append,l5];omega,hN _ _ ⟨g1.trans e2,B,some (dgs B),_,Z,?_,(λ_ z=>by injection z with z;rw[<- z];exact dB),ztz B,hB,?_⟩⟩
  ·rw[zcp,zcp,hes,zpe des,cps1.2.2.2.2,zjo 47 (by decide)];have:flt (toString (B:Int):Str).cps.toList=dgs B:=by
    have:flt (sI (B:Int)).cps.toList=dgs B:=by rw[zii,zpe dB]
    exact this
   rw[this];show es++[47]++dgs B=es++(47::dgs B);simp
  ·rw[len3,l5];omega
 rintro σ' H2 ⟨g2,B,b,w2,rfl,ef,db,vb,hB,lw⟩;have lb:Lf m ⟨nuT es b,(opB b),[((a:Int),B,zer m)]⟩:=by
  cases b with
  | none=>exact .inl ⟨es,des,by rw[ves,<- vb];unfold nuT opT;rw[List.append_nil];rfl⟩
  | some d=>exact .inr (.inl ⟨es,d,des,db d rfl,by rw[ves,<- vb];rfl⟩)
 have l1:1<=w2.length:=by
  have h1:(flt w2.cps.toList).length<=w2.length:=by rw[<- zjj w2];exact List.length_filter_le ..
  rw[ef]at h1;have h2:=List.length_pos_iff.mpr des.1;unfold nuT at h1;rw[Y6]at h1;omega
 have lt2:(nuT es b).length<=w2.length:=by rw[<- ef,<- zjj w2];exact List.length_filter_le ..
 have hbad:bad n (opB b)↔zr n (B:Int):=by
  cases b with
  | none=>
   have:1=B:=vb;subst this;exact⟨(fun⟨_,z,_⟩=>nomatch z),λz=>absurd z (zr_1 n2)⟩
  | some d=>
   have:dgv d=B:=vb;subst this;exact⟨fun⟨x,hx,z⟩=>by rw[Yq.mp hx]at z;exact z,λz=>⟨_,Yq.mpr rfl,z⟩⟩
 obtain⟨s,es0⟩:∃s:Sm,s=⟨nuT es b,(opB b),[((a:Int),B,zer m)]⟩:=⟨_,Z⟩;have sx:s.tx=nuT es b:=by rw[es0]
 have sb:bad n s.bt↔zr n (B:Int):=by rw[es0];exact hbad
 have sv:s.fv=[((a:Int),B,zer m)]:=by rw[es0]
 rw[<- es0]at lb;have tf:=(zfp (n:=0) lb).tf;have fvl:∀(d:Addr) (x:Str) (lo:Bool),(leE d x lo s).fv m=s.fv:=λd x lo=>ziq tf
 have nul:∀{H3:Hp} (lo:Bool),(lo=true↔zr n (B:Int))->(lo=false->val (F:=F) s.fv=λ_=>0)->Same H H3->∀d,H3 d=none->∀q,(upd H3 d (.dT [])) q=none->Q (.ref q) (upd (upd H3 d (.dT [])) q (.tup [.str w2,.int 0,.int 0,.ref d,.bl lo,.int 1])):=fun{H3} lo hlo hv g3 d nd q nq=>by
  have ev:HO.tup [V.str w2,V.int 0,V.int 0,V.ref d,V.bl lo,V.int 1]=.tup (EnV m (leE d w2 lo s)):=by
   unfold EnV;rw[fvl,sv];rfl
  have e4:Same H3 (upd H3 d (.dT [])):=Same.upd nd;have d4:(upd H3 d (HO.dT [])) d=some (.dT []):=zaf;generalize upd H3 d (HO.dT [])=H4 at e4 d4 nq ⊢;rw[ev];have e5:Same H4 (upd H4 q (.tup (EnV m (leE d w2 lo s)))):=Same.upd nq;exact k _ (leE d w2 lo s) _ ((g3.trans e4).trans e5) ⟨⟨q,Z,zaf⟩,EnT.le lb (ef.trans sx.symm) (hlo.trans sb.symm) (by rw[sv];show 1<=_;omega),[],(λ_=>0),⟨e5 _ _ d4,PF.nil,Bd.zero.up (Y2 _),(λt ht=>absurd rfl ht),Y2 _,λz=>by rw[fvl];exact(hv z).symm⟩⟩ (g3.free nd) (by show w2.length<=300;omega) rfl
 refine⟨_,Z,_,Z,n,_,Z,n2,?_⟩;refine⟨_,Z,?_⟩;by_cases z:zr n (B:Int)
 ·rw[Yo z];refine iteT ⟨_,Z,λd nd=>⟨(by show 6<=sizeLine;decide),λq nq=>?_⟩⟩;exact nul true ⟨λ_=>z,λ_=>Z⟩ (λz=>nomatch z) g2 d nd q nq
 rw[Yw z];have icB:ic (F:=F) (B:Int)≠0:=λq=>z ((Chr.z (n:=n) (F:=F) _).mp q)
 have B1:1<=B:=by
  rcases Nat.eq_zero_or_pos B with q | q
  ·subst q;exact absurd (zr_z n2) z
  ·exact q
 refine iteF ⟨_,Z,_,Z,_,Z,F,fF,n,cF,a,B,Z,n2,n1,by omega,?_,icB,λv x H3 hx e3 hv=>?_⟩
 ·rw[Int.natAbs_natCast];exact Nat.lt_trans hB (by decide +kernel)
 dsimp only[za3];have g3:=g2.trans e3;have ev0:val (F:=F) s.fv=mo (zer m) x:=funext λt=>by rw[sv];exact zgv icB hx t
 refine⟨_,Z,_,Z,F,fF,n,cF,0,Z,n2,λu H4 e4 hu=>?_⟩;rw[zb3]at hu;have g4:=g3.trans e4;obtain⟨dn,z0,rd,rz,s1,s2,eq⟩:=zgu (K:=K) (hv.same e4) hu;refine⟨dn,z0,rd,rz,s1,s2,_,Z,?_⟩;rcases eq with⟨x0,q⟩ | ⟨x0,q⟩
 ·rw[q];refine iteT ⟨_,Z,λd nd=>⟨(by show 6<=sizeLine;decide),λq nq=>?_⟩⟩;exact nul false ⟨(λz=>nomatch z),λq=>absurd q z⟩ (λ_=>by rw[ev0,x0];exact funext λt=>mo_0 _ t) g4 d nd q nq
 rw[q];refine iteF ⟨_,Z,λd nd=>?_⟩;have e5:Same H4 (upd H4 d (.dT [])):=Same.upd nd;have d5:(upd H4 d (HO.dT [])) d=some (.dT []):=zaf;generalize upd H4 d (HO.dT [])=H5 at e5 d5 ⊢;refine⟨(by show 1<=sizeLine;decide),λl0 nl0=>?_⟩;have e6:Same H5 (upd H5 l0 (.lst [.int 0])):=Same.upd nl0;have l6:(upd H5 l0 (HO.lst [V.int 0])) l0=some (.lst [.int 0]):=zaf;generalize upd H5 l0 (HO.lst [V.int 0])=H6 at e6 l6 ⊢;refine⟨_,Z,l0,_,_,Z,Z,l6,by omega,by omega,by rw[List.length_singleton,Y1];omega,λl1 nl1=>?_⟩;rw[Y1,show (List.replicate m [V.int 0]).flatten=(zer m).map V.int from zki m]at *;have e7:Same H6 (upd H6 l1 (.lst ((zer m).map V.int))):=Same.upd nl1;have l7:(upd H6 l1 (HO.lst ((zer m).map V.int))) l1=some (.lst ((zer m).map V.int)):=zaf;generalize upd H6 l1 (HO.lst ((zer m).map V.int))=H7 at e7 l7 ⊢;refine⟨l1,_,Z,.inl ⟨SqL.of l7,λt nt=>?_⟩⟩;have e8:Same H7 (upd H7 t (.tup ((zer m).map V.int))):=Same.upd nt;have t8:(upd H7 t (HO.tup ((zer m).map V.int))) t=some (.tup ((zer m).map V.int)):=zaf;generalize upd H7 t (HO.tup ((zer m).map V.int))=H8 at e8 t8 ⊢;have e58:=(e6.trans e7).trans e8;have d8:=e58 _ _ d5;refine⟨_,Z,t,ky (zer m),Z,d8,by rw[zf8];exact t8,?_⟩;have ndH:=g4.free nd;have g8:=(g4.trans e5).trans e58;have g9:Same H (upd H8 d (.dT [(ky (zer m),v)])):=g8.updR ndH;have d9:(upd H8 d (HO.dT [(ky (zer m),v)])) d=some (.dT [(ky (zer m),v)]):=zaf;have hv9:Rep n (upd H8 d (.dT [(ky (zer m),v)])) v x:=((hv.same e4).same (e5.trans e58)).keep λb xs hb=>by rw[zal (zep hb d8 (by intro z;cases z))];exact hb
 generalize upd H8 d (HO.dT [(ky (zer m),v)])=H9 at g9 d9 hv9 ⊢;refine⟨(by show 6<=sizeLine;decide),λq nq=>?_⟩;have ev:HO.tup [V.str w2,V.int 0,V.int 0,V.ref d,V.bl false,V.int 1]=.tup (EnV m (leE d w2 false s)):=by
  unfold EnV;rw[fvl,sv];rfl
 refine Eq.mp (Jt (λo=>Q (.ref q) (upd H9 q o)) ev.symm) ?_;have e10:Same H9 (upd H9 q (.tup (EnV m (leE d w2 false s)))):=Same.upd nq;have a10:a<=10^w2.length:=by
  have h1:=zje es des.2.2;rw[ves]at h1;refine Nat.le_of_lt (Yf h1 (Yv (by decide) ?_));unfold nuT at lt2;rw[Y6]at lt2;omega
 have B10:B<=10^w2.length:=by
  cases b with
  | none=>
   have:1=B:=vb;rw[<- this];exact Nat.one_le_pow _ _ (by decide)
  | some ds=>
   have h0:dgv ds=B:=vb;have h1:=zje ds (db ds rfl).2.2;rw[h0]at h1;refine Nat.le_of_lt (Yf h1 (Yv (by decide) ?_));have:(nuT es (some ds)).length=es.length+(ds.length+1):=by unfold nuT opT;rw[Y6,Y5]
   omega
 refine k _ (leE d w2 false s) _ (g9.trans e10) ⟨⟨q,Z,zaf⟩,EnT.le lb (ef.trans sx.symm) ⟨(λz=>nomatch z),λq=>absurd (sb.mp q) z⟩ (by rw[sv];show 1<=_;omega),_,mo (zer m) x,⟨e10 _ _ d9,zqe (hv9.same e10) (T0.zer m) x0,zoq (b:=(B:Int)) (a:=(a:Int)) (by omega) hx (by rw[Int.natAbs_natCast];exact a10) (by rw[Int.natAbs_natCast];exact B10),(λt ht y hy=>?_),by rw[fvl,sv];exact Yi _,λ_=>by rw[fvl,ev0]⟩⟩ ndH (by show w2.length<=300;omega) rfl;rw[zrt ht]at hy;have:y=0:=List.eq_of_mem_replicate hy;omega
theorem zvx(F:FunD K "_law_fits" "_law_fits" ze2 .none f fd)   : FnOk P w K mg base CX0 1 f fd ["_law_one"] zvt:=by
 have scFts:FnScope ["_law_one"] ["_law_one"] (zaj ze2):=sM (by decide +kernel);refine F.okN (k:=0) scFts (by walk_at "v") (λcdv A outer s H vs Q E hr=>?_);walk_at "x";rename_i g_ hg_ F fF n m v g;rintro⟨rfl,h⟩;subst hg_;refine⟨_,(zah (zao (zi4 (zdp zo2 (za1 zc4 rfl T.b_len PySem.boot_len ((zaa (zaw (r:=rIxT K) zas (pv 0) (zac) (λ_ _=>Z)) zai))) (zac) (nomark _)) (zg5 (zdp zo2 (zaw (r:=rIxT K) zas (pv 0) (zac) (λ_ _=>Z)) (zac) (nomark _)))))),?_⟩;obtain⟨⟨⟨q,rfl,hq⟩,ht,_⟩,xl,k⟩:=h;have sl:1002000<sizeLine:=by rw[sizeLine_eq];decide
 refine⟨_,Z,q,_,_,_,Z,Z,SqT.of hq,Z,_,Z,by omega,_,_,Z,Z,_,Z,?_⟩;by_cases c:(g.x.length:Int)<=300
 ·rw[Yo c];refine iteT ⟨_,Z,q,_,_,_,Z,Z,SqT.of hq,Z,_,_,Z,Z,k _ λz=>⟨by omega,Ji z⟩⟩
 ·rw[Yw c];exact iteF (k false λz=>nomatch z)
theorem zxh(F:FunD K "_law_top_made" "_law_top_made" zc2 .none f fd)(c_Tu:Cal P w K mg base CX0 6 "_law_turned" ["_law_p","_law_one"] [] spTu)(c_Shu:Cal P w K mg base CX0 2 "_law_shut" ["_law_one"] [] zl7)(c_Su:Cal P w K mg base CX0 7 "_law_sum" ["_law_p","_law_sign","_law_one","_law_other"] [] spSu)(c_Pd:Cal P w K mg base CX0 7 "_law_product" ["_law_p","_law_sign","_law_one","_law_other"] [] spPd):FnOk P w K mg base CX0 9 f fd ["_law_p","_law_pile","_law_cell"] zuq:=by
 have scTop:FnScope ["_law_p","_law_pile","_law_cell","_law_gap","_law_sign"] ["_law_p","_law_pile","_law_cell"] (zaj zc2):=sM (by decide +kernel);refine F.okN (k:=8) scTop (by walk_at "v") (λcdv A outer s H vs Q E hr=>?_);walk_at "x";rename_i g_ hg_ F fF n cF m a c pre e;rintro⟨rfl,h⟩;subst hg_;refine⟨_,(zad (za0 (zar zbp (zau za7 (pv 2) (zac)) (zac) (nomark _)) (zah (zao (zbc ((zaa (zac) (zaa (pe_c c_Tu hr zap .nil ((zaa (pv 0) (zaa (zaw (r:=rIxL K) zbg (pv 1) (ze7 zc7 zac) (λ_ _=>Z)) zai)))) zai)))))) zat)
  (zad (za0 (PW.pt (zhv (zar zbp (zau za7 (pv 2) (zac)) (zac) (nomark _)) (zf6 (zar zic (za1 (zeg (K:=K) rfl) rfl T.b_len PySem.boot_len ((zaa (pv 1) zai))) (zac) (nomark _))))) (zah (zao (zbc ((zaa (zac) (zaa (pe_c c_Shu hr zap .nil ((zaa (zaw (r:=rIxL K) zbg (pv 1) (ze7 zc7 zac) (λ_ _=>Z)) zai))) zai)))))) zat)
  (zad (zaq (i:=3) scTop.nd rfl (Or.inl rfl) (zaw (r:=rIxL K) zbg (zdm ((zaa (zay) (zaa (zay) (zaa (zay) zai))))) (zau za7 (zau zca (pv 2) (zac)) (zac)) (λ_ _=>Z)))
  (zad (za0 (zar zic (zau za7 (pv 2) (zac)) (zac) (nomark _)) (zad (zaq (i:=4) scTop.nd rfl (Or.inl rfl) (zau zba (zau zba (pv 3) (zaw (r:=rIxL K) zbg (zdm ((zaa (zay) (zaa (zay) zai)))) (zau za7 (pv 2) (zac)) (λ_ _=>Z))) (pv 3)))
  (zah (zao (zbc ((zaa (zac) (zaa (pe_c c_Su hr zap .nil ((zaa (pv 0) (zaa (pv 4) (zaa (zaw (r:=rIxL K) zbg (pv 1) (ze7 zc7 zac) (λ_ _=>Z)) (zaa (zaw (r:=rIxL K) zbg (pv 1) (ze7 zc7 zac) (λ_ _=>Z)) zai)))))) zai))))))) zat)
  (zad (za0 (zar zfx (zau zbo (zaw (r:=rIxT K) zas (zaw (r:=rIxL K) zbg (pv 1) (ze7 zc7 zac) (λ_ _=>Z)) (zac) (λ_ _=>Z)) (zaw (r:=rIxT K) zas (zaw (r:=rIxL K) zbg (pv 1) (ze7 zc7 zac) (λ_ _=>Z)) (zac) (λ_ _=>Z))) (zac) (nomark _)) (zah (zao (zbc ((zaa (zac) (zaa (pe_c c_Shu hr zap .nil ((zaa (zaw (r:=rIxL K) zbg (pv 1) (ze7 zc7 zac) (λ_ _=>Z)) zai))) zai)))))) zat)
  (zah (zao (zbc ((zaa (zac) (zaa (pe_c c_Pd hr zap .nil ((zaa (pv 0) (zaa (zau zba (pv 3) (zay)) (zaa (zaw (r:=rIxL K) zbg (pv 1) (ze7 zc7 zac) (λ_ _=>Z)) (zaa (zaw (r:=rIxL K) zbg (pv 1) (ze7 zc7 zac) (λ_ _=>Z)) zai)))))) zai))))))))))),?_⟩
 obtain⟨n2,n1,m1,m4,hp,k⟩:=h;obtain⟨ys,hS,hy⟩:=hp.sq;obtain⟨zs,v,rfl,hz,he⟩:=zjm hy;have xe:=(hp.xl e (by simp)).1;have lst:=zqi zs v;have sl:1002000<sizeLine:=by rw[sizeLine_eq];decide
 refine⟨_,Z,_,_,Z,Z,(by show (0:Int)<8;decide),Z,_,Z,cEq (λc6=>?_) (λc6=>?_)⟩
 ·exact⟨_,Z,_,Z,_,Z,a,_,_,_,Z,Z,SqL.of hS,lst,F,fF,n,cF,m,v,e,Z,n2,n1,m1,m4,he,xe,λv' g H' e' hg hd gl=>⟨(by show 2<=sizeLine;decide),λq nq=>k q v' g 1 _ (e'.trans (Same.upd nq)) zaf (hg.same (Same.upd nq)) gl (.inl ⟨Z,.inr hd⟩)⟩⟩
 unfold zv7;dsimp only;unfold tSeq tIfS;refine zjr (decide (V.int (c%8)=V.int 7)) (decide (((zs++[v]).length:Int)<2)) (λQ' hQ=>⟨_,Z,_,_,Z,Z,(by show (0:Int)<8;decide),Z,_,Z,hQ⟩) (λQ' hQ=>⟨_,Z,a,_,Z,.inl (SqL.of hS),_,_,Z,Z,_,Z,hQ⟩) ?_
 cases hb:(decide (V.int (c%8)=V.int 7)||decide (((zs++[v]).length:Int)<2)) with
 | true=>exact iteT ⟨_,rfl,_,rfl,a,_,_,_,rfl,rfl,SqL.of hS,lst,F,fF,n,m,v,e,rfl,he,by omega,λv' H' e' hg=>⟨(by show 2<=sizeLine;decide),λq nq=>k q v' (shE m e) 1 _ (e'.trans (Same.upd nq)) zaf (hg.same (Same.upd nq)) (by rw[zb0];omega) (.inl ⟨rfl,.inl rfl⟩)⟩⟩
 | false=>
  rw[Bool.or_eq_false_iff]at hb;have l2:1<=zs.length:=by
   have:=of_decide_eq_false hb.2;rw[Y6,List.length_singleton]at this;omega
  have lz:=Paired.length hz;have pn:pre≠[]:=λz=>by rw[z]at lz;simp at lz;omega
  obtain⟨pre',f,rfl⟩:=zi3 pn;obtain⟨ws,u,rfl,hw,hf⟩:=zjm hz;have xf:=(hp.xl f (by simp)).1;have lst2:=zw9 ws u v;have nd:f.d≠e.d:=by
   have:=hp.nd;rw[List.map_append,List.map_append]at this;intro z;have h2:=(List.nodup_append.mp this).2.2 f.d (by simp) e.d (by simp);exact h2 z
  obtain⟨s,hs,gs⟩:=gap3 (r:=c / 8%3) (by omega) (by omega);refine iteF ⟨(by show 3<=sizeLine;decide),λl nl=>?_⟩;refine⟨_,Z,_,_,Z,Z,⟨by decide,by decide⟩,_,_,Z,Z,(by show (0:Int)<3;decide),l,_,_,_,Z,Z,SqL.of zaf,hs,?_⟩;have e1:Same H (upd H l (.lst [.str "",.str " ",.str "  "])):=Same.upd nl;dsimp only[za3];generalize upd H l _=H1 at e1 ⊢;have hS1:=e1 _ _ hS;have he1:=he.same e1;have hf1:=hf.same e1;refine⟨_,Z,_,_,Z,Z,(by show (0:Int)<8;decide),_,_,Z,Z,_,Z,cD (λc5=>?_) (λc5=>?_)⟩
  ·obtain⟨b,hb2⟩:=sgn2 (r:=c%2) (by omega) (by omega);obtain⟨t1,t2,t3,t4⟩:=gs.t b;have gl:=gs.l;have ol:=zym b;refine⟨_,Z,(by show 2<=sizeLine;decide),λl2 nl2=>?_⟩;have e2:Same H1 (upd H1 l2 (.lst [.str "+",.str "-"])):=Same.upd nl2;refine⟨_,Z,_,_,Z,Z,(by show (0:Int)<2;decide),l2,_,_,_,Z,Z,SqL.of zaf,hb2,_,_,Z,Z,by rw[ol];omega,_,Z,_,_,Z,Z,by rw[Str.length_append,ol];omega,?_⟩;dsimp only[za3];generalize upd H1 l2 _=H2 at e2 ⊢;have g2:=e1.trans e2;exact⟨_,Z,_,Z,_,Z,_,Z,a,_,_,_,Z,Z,SqL.of (g2 _ _ hS),lst2,_,Z,_,Z,a,_,_,_,Z,Z,SqL.of (g2 _ _ hS),lst,F,fF,n,cF,m,_,b,u,v,f,e,Z,n2,n1,m1,m4,hf.same g2,he.same g2,xf,xe,t1,t2,t3,t4,λv' g H' e' hg hd gl=>⟨(by show 2<=sizeLine;decide),λq nq=>k q v' g 2 _ ((g2.trans e').trans (Same.upd nq)) zaf (hg.same (Same.upd nq)) gl (.inr ⟨Z,by simp,g2.free hd⟩)⟩⟩
  ·obtain⟨⟨q2,rfl,hq2⟩,te,_⟩:=id he1;obtain⟨⟨q1,rfl,hq1⟩,tf,_⟩:=id hf1;have pe:=te.pc;have pf:=tf.pc;refine⟨_,Z,_,Z,a,_,_,_,Z,Z,SqL.of hS1,lst2,q1,_,_,_,Z,Z,SqT.of hq1,Z,_,Z,_,Z,a,_,_,_,Z,Z,SqL.of hS1,lst,q2,_,_,_,Z,Z,SqT.of hq2,Z,_,_,Z,Z,⟨up (show (((f.fv m).length:Nat):Int).natAbs<2^16 by omega) (by decide),up (show (((e.fv m).length:Nat):Int).natAbs<2^16 by omega) (by decide)⟩,_,_,Z,Z,_,Z,cD (λc40=>?_) (λc40=>?_)⟩
   ·exact⟨_,Z,_,Z,a,_,_,_,Z,Z,SqL.of hS1,lst,F,fF,n,m,_,e,Z,he1,by omega,λv' H' e' hg=>⟨(by show 2<=sizeLine;decide),λq nq=>k q v' (shE m e) 1 _ ((e1.trans e').trans (Same.upd nq)) zaf (hg.same (Same.upd nq)) (by rw[zb0];omega) (.inl ⟨Z,.inl rfl⟩)⟩⟩
   ·have gl:=gs.l;have pp:=gs.p;have h40:(f.fv m).length*(e.fv m).length<=40:=by
     have:¬(40:Int)<((f.fv m).length:Int)*((e.fv m).length:Int):=c40;rw[<- Int.natCast_mul]at this;omega
    exact⟨_,Z,_,Z,_,_,Z,Z,by rw[zxd];omega,_,Z,_,Z,a,_,_,_,Z,Z,SqL.of hS1,lst2,_,Z,_,Z,a,_,_,_,Z,Z,SqL.of hS1,lst,F,fF,n,cF,m,_,_,_,f,e,Z,n2,n1,m1,m4,hf1,he1,nd,xf,xe,pp.1,pp.2.1,pp.2.2,h40,λv' g H' e' hg hd gl=>⟨(by show 2<=sizeLine;decide),λq nq=>k q v' g 2 _ ((e1.trans e').trans (Same.upd nq)) zaf (hg.same (Same.upd nq)) gl (.inr ⟨Z,by simp,e1.free hd⟩)⟩⟩
theorem zya(F:FunD K "_law_read" "_law_read" ze1 .none f fd)(c_Read:Cal P w K mg base (CXe P w) 202 "read" ["ring","text"] [] (zrx zam zav zag zak zab zab zab zab))(x_RoomError:Exc K mg base "RoomError" zbe)(x_NoText:Exc K mg base "NoText" zax)(x_NoOver:Exc K mg base "NoOver" zam)(exT:W.exmOne K (.ref zax) (.ref zbe)=some true)(exO:W.exmOne K (.ref zam) (.ref zbe)=some true)(iT:ExcI K zax)(iO:ExcI K zam)(t1:W.kitOne K (.ref zax) (.ref zax)=some true)(t2:W.kitOne K (.ref zax) (.ref zam)=some false)(t3:W.kitOne K (.ref zax) (.type "ValueError")=some true)(o1:W.kitOne K (.ref zam) (.ref zax)=some false)(o2:W.kitOne K (.ref zam) (.ref zam)=some true)(o3:W.kitOne K (.ref zam) (.type "ValueError")=some true):FnOk P w K mg base CX0 204 f fd ["_law_ring","_law_text"] (spLR zav zag zak zab zab zab zab):=by
 have scLR:FnScope ["_law_ring","_law_text","_law_caught","_law_found","e","_law_some"] ["_law_ring","_law_text"] (zaj ze1):=sM (by decide +kernel);refine F.okN (k:=203) scLR (by walk_at "v") (λcdv A outer s H vs Q E hr=>?_);walk_at "x";rename_i g_ hg_ F fF r x g cF pt ps;rintro⟨rfl,h⟩;subst hg_;refine⟨_,(zad (zaq (i:=2) scLR.nd rfl (Or.inl rfl) (zk9))
  (zad (zaq (i:=3) scLR.nd rfl (Or.inl rfl) (zk9))
  (zad (zo3 (i:=4) scLR.nd rfl rfl rfl rfl rfl x_RoomError.at_ (λpl E' E hP=>(zah (zaq (i:=3) scLR.nd rfl (Or.inl rfl) (pe_c c_Read hr hP .nil ((zaa (pv 0) (zaa (pv 1) zai))))))) (λa=>(zah (zaq (i:=2) scLR.nd rfl (Or.inl rfl) (pv 4)))))
  (zad (za0 (zar zvw (pv 2) (zk9) (nomark _)) (zah (zao (zbc ((zaa (zay) (zaa (pv 3) zai)))))) zat)
  (zad (zaq (i:=5) scLR.nd rfl (Or.inl rfl) (zdm ((zaa (za1 (zfo (K:=K) rfl) rfl T.b_isinstance (by kernel_rfl) ((zaa (pv 2) (zaa (zhu (v:=.ref zax) rfl x_NoText.at_ rfl) zai)))) (zaa (za1 (zfo (K:=K) rfl) rfl T.b_isinstance (by kernel_rfl) ((zaa (pv 2) (zaa (zhu (v:=.ref zam) rfl x_NoOver.at_ rfl) zai)))) (zaa (za1 (zfo (K:=K) rfl) rfl T.b_isinstance (by kernel_rfl) ((zaa (pv 2) (zaa (zfl (v:=.ty "ValueError") rfl T.b_ValueError (by kernel_rfl) rfl) zai)))) zai))))))
  (zad (za0 (zar (zf1 hr.units) (pv 5) (zdm ((zaa (zcq) (zaa (zcq) (zaa (zcq) zai))))) (nomark _)) (zah (zao (zbc ((zaa (zay) (zaa (zay) zai)))))) zat)
  (zad (za0 (zar (zf1 hr.units) (pv 5) (zdm ((zaa (zcq) (zaa (zcq) (zaa (zcq) zai))))) (nomark _)) (zah (zao (zbc ((zaa (zay) (zaa (zay) zai)))))) zat)
  (zah (zao (zbc ((zaa (zay) (zaa (zay) zai))))))))))))),?_⟩
 obtain⟨hR,xl,ef,ok,l12,ko,k⟩:=h;refine⟨_,Z,_,Z,F,fF,r,x,g,cF,pt,ps,Z,hR,xl,ef,ok,l12,λz3 H1 e1=>⟨zam,Z,exO,λax nax=>?_⟩,λz3 d H1 kvs nd0 e1 hd pf=>?_⟩
 ·have eX:Same H1 (upd H1 ax (excO ax zam)):=Same.upd nax;have hx:(upd H1 ax (excO ax zam)) ax=some (excO ax zam):=zaf;dsimp only[za3,Ends.away];generalize upd H1 ax (excO ax zam)=H2 at eX hx ⊢;refine⟨_,Z,?_⟩;dsimp only[za3,Ends.away];refine⟨_,Z,Z,_,Z,?_⟩;rw[Yw (λz=>nomatch z)];refine iteF ⟨_,Z,ax,zam,_,_,false,Z,Z,hx,iO,o1,_,Z,ax,zam,_,_,true,Z,Z,hx,iO,o2,_,Z,ax,zam,_,_,true,Z,Z,hx,iO,o3,(by show 3<=sizeLine;decide),λl nl=>?_⟩;have hl:(upd H2 l (HO.lst [V.bl false,V.bl true,V.bl true])) l=some (.lst [.bl false,.bl true,.bl true]):=zaf;dsimp only[za3,Ends.away];have eY:Same H2 (upd H2 l (.lst [.bl false,.bl true,.bl true])):=Same.upd nl;generalize upd H2 l (HO.lst [V.bl false,V.bl true,V.bl true])=H3 at eY hl ⊢;refine⟨_,Z,(by show 3<=sizeLine;decide),λl2 nl2=>?_⟩;have e4:Same H3 (upd H3 l2 (.lst [.bl true,.bl false,.bl true])):=Same.upd nl2;have hl2:(upd H3 l2 (HO.lst [V.bl true,V.bl false,V.bl true])) l2=some (.lst [.bl true,.bl false,.bl true]):=zaf;generalize upd H3 l2 (HO.lst [V.bl true,V.bl false,V.bl true])=H4 at e4 hl2 ⊢;refine⟨_,_,rds3 (e4 _ _ hl),rds3 hl2,Z,Z,_,Z,iteF ?_⟩;refine⟨_,Z,(by show 3<=sizeLine;decide),λl3 nl3=>?_⟩;have e5:Same H4 (upd H4 l3 (.lst [.bl false,.bl true,.bl true])):=Same.upd nl3;have hl3:(upd H4 l3 (HO.lst [V.bl false,V.bl true,V.bl true])) l3=some (.lst [.bl false,.bl true,.bl true]):=zaf;generalize upd H4 l3 (HO.lst [V.bl false,V.bl true,V.bl true])=H5 at e5 hl3 ⊢;refine⟨_,_,rds3 (e5 _ _ (e4 _ _ hl)),rds3 hl3,Z,Z,_,Z,iteT ?_⟩;exact⟨(by show 2<=sizeLine;decide),λq nq=>ko z3 _ _ ((((e1.trans eX).trans eY).trans (e4.trans e5)).trans (Same.upd nq)) zaf⟩
 ·dsimp only[za3];refine⟨_,Z,Z,_,Z,?_⟩;rw[Yo rfl];refine iteT ⟨_,Z,(by show 2<=sizeLine;decide),λq nq=>?_⟩;exact k z3 q d kvs _ (e1.trans (Same.upd nq)) zaf ((zal (zan hd nq)).trans hd) (pf.same (Same.upd nq))
theorem zwn(F:FunD K "law" "law" zhl .none f fd)(c_Cell:Cal P w K mg base CX0 1 "_law_cell_at" ["_law_script","_law_k"] [] (zrd K))(c_LPr:Cal P w K mg base CX0 2 "_law_prime" ["_law_cell"] [] zvk)(c_Let:Cal P w K mg base CX0 4 "_law_letter" ["_law_p","_law_many","_law_cell"] [] zvl)(c_Fgr:Cal P w K mg base CX0 5 "_law_figures" ["_law_p","_law_many","_law_cell","_law_other","_law_low"] [] zwj)(c_Top:Cal P w K mg base CX0 9 "_law_top_made" ["_law_p","_law_pile","_law_cell"] [] zuq)(c_Fts:Cal P w K mg base CX0 1 "_law_fits" ["_law_one"] [] zvt)(c_Su:Cal P w K mg base CX0 7 "_law_sum" ["_law_p","_law_sign","_law_one","_law_other"] [] spSu)(c_LFld:Cal P w K mg base CX0 5 "_law_field" ["_law_p"] [] (zre zag zak))(k_RgInit:Mak P w K mg base (CXe P w) 2 "Ring" zav ["self","many","field","order"] [] (zuv zav zab))(c_LR:Cal P w K mg base CX0 204 "_law_read" ["_law_ring","_law_text"] [] (spLR zav zag zak zab zab zab zab))(c_IsP:Cal P w K mg base CX0 4 "_law_is_poly" ["_law_p","_law_found"] [] zwp):FnOk P w K mg base CX0 206 f fd ["_law_script"] (zqn K):=by
 have scLaw:FnScope ["_law_script","_law_p","_law_many","_law_low","_law_pile","_law_cells","_law_k","_law_fresh","_law_whole_here","_law_one","_law_longer","_law_found"] ["_law_script"] (zaj zhl):=sM (by decide +kernel);refine F.okN (k:=205) scLaw (by walk_at "v") (λcdv A outer s H vs Q E hr=>?_);walk_at "x";rename_i g_ hg_ a ns;rintro⟨rfl,h⟩;subst hg_;refine⟨_,(zad (zaq (i:=1) scLaw.nd rfl (Or.inl rfl) (pe_c c_LPr hr zap .nil ((zaa (pe_c c_Cell hr zap .nil ((zaa (pv 0) (zaa (zac) zai)))) zai))))
  (zad (zaq (i:=2) scLaw.nd rfl (Or.inl rfl) (zau zc6 (zac) (zau za7 (pe_c c_Cell hr zap .nil ((zaa (pv 0) (zaa (zac) zai)))) (zac))))
  (zad (zaq (i:=3) scLaw.nd rfl (Or.inl rfl) (zdp zbp (zau za7 (pe_c c_Cell hr zap .nil ((zaa (pv 0) (zaa (zac) zai)))) (zac)) (zac) (nomark _)))
  (zad (zaq (i:=4) scLaw.nd rfl (Or.inl rfl) (zdm ((zaa (pe_c c_Let hr zap .nil ((zaa (pv 1) (zaa (pv 2) (zaa (pe_c c_Cell hr zap .nil ((zaa (pv 0) (zaa (zac) zai)))) zai))))) zai))))
  (zad (zaq (i:=5) scLaw.nd rfl (Or.inl rfl) (zfj (zh1 (K:=K) rfl) (pv 0) (zez (zac)) (zez (zac))))
  (zad (zdk PassesOwn.never rfl (zgw rfl T.b_range ((zaa (za1 (zeg (K:=K) rfl) rfl T.b_len PySem.boot_len ((zaa (pv 5) zai))) zai))) (zbb (i:=6) scLaw.nd rfl (Or.inl rfl)) (zah (za0 (zar zic (zau za7 (zaw (r:=rIxL K) zbg (pv 5) (pv 6) (λ_ _=>Z)) (zac)) (zac) (nomark _)) (zah (zb9 (zjx PySem.F.plainAttrs_list PySem.F.slot_list_append PySem.F.type_list_append zec (pv 4) ((zaa (pe_c c_Let hr zap .nil ((zaa (pv 1) (zaa (pv 2) (zaa (zau zca (zaw (r:=rIxL K) zbg (pv 5) (pv 6) (λ_ _=>Z)) (zac)) zai))))) zai))))) (zah (za0 (zar zbp (zau za7 (zaw (r:=rIxL K) zbg (pv 5) (pv 6) (λ_ _=>Z)) (zac)) (zac) (nomark _)) (zah (zb9 (zjx PySem.F.plainAttrs_list PySem.F.slot_list_append PySem.F.type_list_append zec (pv 4) ((zaa (pe_c c_Fgr hr zap .nil ((zaa (pv 1) (zaa (pv 2) (zaa (zau zca (zaw (r:=rIxL K) zbg (pv 5) (pv 6) (λ_ _=>Z)) (zac)) (zaa (pe_c c_Cell hr zap .nil ((zaa (pv 5) (zaa (zau zc6 (pv 6) (zac)) zai)))) (zaa (pv 3) zai))))))) zai))))) (zad (zaq (i:=7) scLaw.nd rfl (Or.inl rfl) (pe_c c_Top hr zap .nil ((zaa (pv 1) (zaa (pv 4) (zaa (zaw (r:=rIxL K) zbg (pv 5) (pv 6) (λ_ _=>Z)) zai))))))
  (zah (za0 (zbt (pe_c c_Fts hr zap .nil ((zaa (zaw (r:=rIxT K) zas (pv 7) (zac) (λ_ _=>Z)) zai)))) (zah (zaq (i:=4) scLaw.nd rfl (Or.inl rfl) (zau zu1 (zfj (zh1 (K:=K) rfl) (pv 4) zj7 (zez (zau zle (za1 (zeg (K:=K) rfl) rfl T.b_len PySem.boot_len ((zaa (pv 4) zai))) (zaw (r:=rIxT K) zas (pv 7) (zac) (λ_ _=>Z))))) (zdm ((zaa (zaw (r:=rIxT K) zas (pv 7) (zac) (λ_ _=>Z)) zai)))))) zat))))))))
  (zad (zaq (i:=8) scLaw.nd rfl (Or.inl rfl) (zaw (r:=rIxL K) zbg (pv 4) (zac) (λ_ _=>Z)))
  (zad (zdk PassesOwn.never rfl (zh3 (K:=K) rfl (zfj (zh1 (K:=K) rfl) (pv 4) (zez (zac)) zj7)) (zbb (i:=9) scLaw.nd rfl (Or.inl rfl)) (zad (zaq (i:=10) scLaw.nd rfl (Or.inl rfl) (pe_c c_Su hr zap .nil ((zaa (pv 1) (zaa (zay) (zaa (pv 8) (zaa (pv 9) zai)))))))
  (zah (za0 (zbt (pe_c c_Fts hr zap .nil ((zaa (pv 10) zai)))) (zah (zaq (i:=8) scLaw.nd rfl (Or.inl rfl) (pv 10))) zat))))
  (zad (zaq (i:=11) scLaw.nd rfl (Or.inl rfl) (pe_c c_LR hr zap .nil ((zaa (zsc k_RgInit hr zof .nil ((zaa (pv 2) (zaa (pe_c c_LFld hr zap .nil ((zaa (pv 1) zai))) (zaa (zs4 T.n0_Degrees T.mg_Degrees) zai))))) (zaa (zaw (r:=rIxT K) zas (pv 8) (zac) (λ_ _=>Z)) zai)))))
  (zad (za0 (zbt (zaw (r:=rIxT K) zas (pv 8) (zac) (λ_ _=>Z))) (zah (zao (zdp (zf1 hr.units) (pv 11) (zbc ((zaa (zay) (zaa (zay) zai)))) (nomark _)))) zat)
  (zah (zao (zi4 (zdp zbp (zaw (r:=rIxT K) zas (pv 11) (zac) (λ_ _=>Z)) (zay) (nomark _)) (zi4 (pe_c c_IsP hr zap .nil ((zaa (pv 1) (zaa (zaw (r:=rIxT K) zas (pv 11) (zac) (λ_ _=>Z)) zai)))) (zg5 (zdp (ztf hr.units) (zaw (r:=rIxT K) zas (pv 11) (zac) (λ_ _=>Z)) (zaw (r:=rIxT K) zas (pv 8) (zac) (λ_ _=>Z)) (nomark _))))))))))))))))),?_⟩
 obtain⟨hS,h63,k⟩:=h;have sl:1002000<sizeLine:=by rw[sizeLine_eq];decide
 refine sab λrr hrr=>?_
 refine⟨_,Z,a,ns,0,Z,hS,by decide,_,Z,λn H1 e1 n2 n1=>?_⟩;dsimp only[za3];subst hrr;refine sab λrr hrr=>?_
 refine⟨_,Z,a,ns,1,Z,e1.seq hS,by decide,_,_,Z,Z,(by show (0:Int)<4;decide),_,_,Z,Z,?_⟩;obtain⟨m,em,m1,m4⟩:∃m:Nat,1+zfa ns 1%4=(m:Int)/\1<=m/\m<=4:=⟨(1+zfa ns 1%4).toNat,by omega,by omega,by omega⟩;dsimp only[za3];rw[em];subst hrr;obtain⟨F,fF,cF⟩:=zv9 n n2;refine sab λrr hrr=>?_
 refine⟨_,Z,a,ns,2,Z,e1.seq hS,by decide,_,_,Z,Z,(by show (0:Int)<3;decide),Z,?_⟩;dsimp only[za3];obtain⟨low,el⟩:∃low,low=decide (V.int (zfa ns 2%3)=V.int 1):=⟨_,Z⟩;rw[<- el];subst hrr;refine sab λrr hrr=>?_
 refine⟨_,Z,_,Z,_,Z,a,ns,3,Z,e1.seq hS,by decide,F,fF,n,cF,m,_,Z,n2,m1,m4,λv0 g0 H2 e2 hg0 nd0 xl0 dp0=>?_⟩;refine⟨(by show 1<=sizeLine;decide),λL0 nL0=>?_⟩;have eL:Same H2 (upd H2 L0 (.lst [v0])):=Same.upd nL0;have hL0:(upd H2 L0 (HO.lst [v0])) L0=some (.lst [v0]):=zaf;dsimp only[za3];generalize upd H2 L0 (HO.lst [v0])=H3 at eL hL0 ⊢;subst hrr;obtain⟨cs,ec,lc⟩:=zyv ns;have g3:=e1.trans (e2.trans eL);refine sab λrr hrr=>?_
 refine⟨_,Z,3,Z,63,Z,a,_,Z,g3.seq hS,λq hq=>?_⟩;rw[ec];have e4:Same H3 (upd H3 q (.lst (cs.map V.int))):=Same.upd hq;have hq4:(upd H3 q (HO.lst (cs.map V.int))) q=some (.lst (cs.map V.int)):=zaf;dsimp only[za3];generalize upd H3 q (HO.lst (cs.map V.int))=H4 at e4 hq4 ⊢;subst hrr;have lcs:(cs.map V.int).length=cs.length:=Yd _;have qL0:q≠L0:=λz=>by rw[z,hL0]at hq;cases hq
 have p0:Pile F n m H4 L0 [g0]:=⟨⟨_,e4 _ _ hL0,.cons (hg0.same (eL.trans e4)) .nil⟩,by simp,by simp,λe he=>by rw[Yq.mp he];exact⟨xl0,by rw[dp0];decide⟩⟩;refine sab λrr hrr=>?_
 refine⟨_,Z,q,_,Z,.inl (SqL.of hq4),_,Z,by omega,by omega,?_⟩;rw[lcs];refine zml (lo:=0) (n:=cs.length) (λj σ H'=>∃(L:Addr) (es:List En) (v6 v7:Option V),σ = [some (.ref a),some (.int n),some (.int (m:Int)),some (.bl low),some (.ref L),some (.ref q),v6,v7,none,none,none,none]/\H' q=some (.lst (cs.map V.int))/\q≠L/\Pile F n m H' L es/\es.length<=j+1) ?_ ?_ ?_
 ·exact⟨L0,[g0],none,none,Z,hq4,qL0,p0,Yi _⟩
 ·rintro j σ H5 hj ⟨L,es,v6,v7,rfl,hq5,qL,hp,le⟩;obtain⟨ys,hL,hy⟩:=hp.sq;obtain⟨pre,e,epre⟩:=zi3 hp.ne;have ly:=Paired.length hy;have hix:atI (cs.map V.int) (0+(j:Int))=some (.int (zfa cs (0+(j:Int)))):=zms (by omega) (by omega);dsimp only[za3];refine⟨_,rfl,_,rfl,q,_,_,_,rfl,rfl,SqL.of hq5,hix,_,_,rfl,rfl,(by show (0:Int)<8;decide),_,_,rfl,rfl,_,rfl,cD (λc1=>?_) (λc1=>?_)⟩
  ·refine⟨_,Z,.inl ⟨Z,_,SqL.of hL⟩,_,Z,_,Z,_,Z,_,Z,q,_,_,_,Z,Z,SqL.of hq5,hix,_,_,Z,Z,⟨by decide,by decide⟩,F,fF,n,cF,m,_,Z,n2,m1,m4,λv g H6 e6 hg nd xl dp=>⟨L,_,_,Z,Z,e6 _ _ hL,zlt _ (by omega),?_⟩⟩;exact⟨L,es++[g],_,_,Z,(zal qL).trans (e6 _ _ hq5),qL,hp.app hL hy e6 hg nd xl (by rw[dp];decide),by rw[Y6,List.length_singleton];omega⟩
  refine⟨_,Z,_,Z,q,_,_,_,Z,Z,SqL.of hq5,hix,_,_,Z,Z,(by show (0:Int)<8;decide),Z,_,Z,cEq (λc2=>?_) (λc2=>?_)⟩
  ·refine⟨_,Z,.inl ⟨Z,_,SqL.of hL⟩,_,Z,_,Z,_,Z,_,Z,q,_,_,_,Z,Z,SqL.of hq5,hix,_,_,Z,Z,⟨by decide,by decide⟩,_,Z,_,Z,_,_,Z,Z,q,cs,_,Z,SqL.of hq5,by omega,_,Z,F,fF,n,cF,m,_,_,low,Z,n2,n1,m1,m4,λv g H6 e6 hg nd xl dp=>⟨L,_,_,Z,Z,e6 _ _ hL,zlt _ (by omega),?_⟩⟩;exact⟨L,es++[g],_,_,Z,(zal qL).trans (e6 _ _ hq5),qL,hp.app hL hy e6 hg nd xl (by rw[dp];decide),by rw[Y6,List.length_singleton];omega⟩
  subst epre;refine⟨_,Z,_,Z,_,Z,_,Z,q,_,_,_,Z,Z,SqL.of hq5,hix,F,fF,n,cF,m,L,_,pre,e,Z,n2,n1,m1,m4,hp,λqf v g kk H6 e6 hqf hg gl hk=>?_⟩;dsimp only[za3];refine⟨_,Z,qf,_,_,_,Z,Z,SqT.of hqf,Z,F,fF,n,m,v,g,Z,hg,gl,λb hb=>⟨_,Z,?_⟩⟩
  cases b with
  | false=>exact iteF ⟨L,pre++[e],_,_,rfl,e6 _ _ hq5,qL,hp.same e6,by omega⟩
  | true=>
   obtain⟨gx,gd⟩:=hb rfl;have hL6:=e6 _ _ hL;refine iteT ?_;have hk2:kk<=ys.length:=by
    rcases hk with⟨h1,_⟩ | ⟨h1,h2,_⟩
    ·rw[h1,<- ly,Y6,List.length_singleton];omega
    ·have:=List.length_pos_iff.mpr h2;rw[h1,<- ly,Y6,List.length_singleton];omega
   have kk1:1<=kk:=by rcases hk with⟨h1,_⟩ | ⟨h1,_⟩ <;> omega
   have ek:((ys.length:Nat):Int)-(kk:Int)=((ys.length-kk:Nat):Int):=by omega
   refine⟨_,Z,_,Z,L,_,Z,.inl (SqL.of hL6),_,Z,qf,_,_,_,Z,Z,SqT.of hqf,Z,_,_,Z,Z,_,Z,L,_,Z,SqL.of hL6,λq1 nq1=>?_⟩;rw[ek,ztj (by omega)];have f1:Same H6 (upd H6 q1 (.lst (ys.take (ys.length-kk)))):=Same.upd nq1;have h1:(upd H6 q1 (HO.lst (ys.take (ys.length-kk)))) q1=some (.lst (ys.take (ys.length-kk))):=zaf;generalize upd H6 q1 (HO.lst (ys.take (ys.length-kk)))=H7 at f1 h1 ⊢;refine⟨_,Z,qf,_,_,_,Z,Z,SqT.of (f1 _ _ hqf),Z,(by show 1<=sizeLine;decide),λq2 nq2=>?_⟩;have f2:Same H7 (upd H7 q2 (.lst [v])):=Same.upd nq2;have h2:(upd H7 q2 (HO.lst [v])) q2=some (.lst [v]):=zaf;generalize upd H7 q2 (HO.lst [v])=H8 at f2 h2 ⊢;refine⟨q1,q2,_,_,Z,Z,f2 _ _ h1,h2,by rw[List.length_take,List.length_singleton];omega,λp np=>?_⟩;have f3:Same H8 (upd H8 p (.lst (ys.take (ys.length-kk)++[v]))):=Same.upd np;have f68:=(f1.trans f2).trans f3;have nqp:q≠p:=λz=>by rw[<- z,(f1.trans f2) _ _ (e6 _ _ hq5)]at np;cases np
   refine⟨p,(pre++[e]).take (ys.length-kk)++[g],_,_,Z,f68 _ _ (e6 _ _ hq5),nqp,⟨⟨_,zaf,psnoc (hg.same f68) (zon _ (pimp (λ_ _ q=>(q.same e6).same f68) hy))⟩,by simp,?_,λx hx=>?_⟩,?_⟩
   ·rw[List.map_append,List.map_take];refine zja (hp.nd.sublist (List.take_sublist ..)) λz=>?_
    have fresh:H5 g.d=none->False:=λnd=>by
     obtain⟨x,hx,q⟩:=Jh.mp (List.mem_of_mem_take z);obtain⟨o,ho⟩:=Pile.dk hy x hx;rw[q,nd]at ho;cases ho
    rcases hk with⟨h1,h2 | h2⟩ | ⟨_,_,h2⟩
    ·rw[h1,<- ly,Y6,List.length_singleton,Nat.add_sub_cancel,<- List.map_take,List.take_left' rfl,h2]at z;have nn:=hp.nd;rw[List.map_append]at nn;exact(List.nodup_append.mp nn).2.2 _ z _ (by simp) rfl
    ·exact fresh h2
    ·exact fresh h2
   ·rcases Jr.mp hx with hx | hx
    ·exact hp.xl x (List.mem_of_mem_take hx)
    ·rw[Yq.mp hx];exact⟨gx,gd⟩
   ·rw[Y6,List.length_take,List.length_singleton];omega
 ·rintro σ H5 ⟨L,es,v6,v7,rfl,hq5,qL,hp,le⟩;obtain⟨ys,hL,hy⟩:=hp.sq;have ne:=hp.ne;obtain⟨e0,es',rfl⟩:=List.exists_cons_of_ne_nil ne
  cases hy with
  | @cons _ w0 _ ws p0 l0=>
  show rr _ _ _;subst hrr;have lw:=Paired.length l0;refine sab λrr hrr=>?_
  refine⟨_,Z,L,_,_,_,Z,Z,SqL.of hL,zho (xs:=w0::ws) (j:=0) (v:=w0) rfl,?_⟩;dsimp only[za3];subst hrr;refine sab λrr hrr=>?_
  refine⟨_,Z,1,Z,L,_,Z,SqL.of hL,λq3 nq3=>?_⟩;have ecut:cutV (w0::ws) (some 1) none=ws:=by
   unfold cutV;rw[HT.sIx_none,show HT.sIx (w0::ws).length 0 (some 1)=1 from(HT.sIx_nat _ _ 1).trans (by rw[Y5];omega)];show (ws).take _=ws;rw[List.take_of_length_le (by rw[Y5];omega)]
  rw[ecut];have e3:Same H5 (upd H5 q3 (.lst ws)):=Same.upd nq3;have h3:(upd H5 q3 (HO.lst ws)) q3=some (.lst ws):=zaf;generalize upd H5 q3 (HO.lst ws)=H6 at e3 h3 ⊢;have xl:=hp.xl;refine⟨q3,Z,⟨_,SqL.of h3⟩,zhs (xs:=ws) (λi σ H'=>∃(en:En) (w:V) (v9 v10:Option V),σ = [some (.ref a),some (.int n),some (.int (m:Int)),some (.bl low),some (.ref L),some (.ref q),v6,v7,some w,v9,v10,none]/\Same H6 H'/\Ent F n m H' en w/\en.x.length<=300/\en.dp<=8) ?_ (λi σ H' _ h=>?_) ?_ ?_⟩
  ·exact⟨e0,w0,none,none,Z,Same.refl _,p0.same e3,(xl e0 (by simp)).1,(xl e0 (by simp)).2⟩
  ·obtain⟨_,_,_,_,_,eS,_⟩:=h;exact SqL.of (eS _ _ h3)
  ·rintro i x σ H7 hx ⟨en,w,v9,v10,rfl,eS,hen,en3,en8⟩;obtain⟨hi,hent⟩:=zkc l0 hx;have hent:=hent.same (e3.trans eS);have xi:=xl es'[i] (List.mem_cons_of_mem _ (Js hi));dsimp only[za3];refine⟨_,rfl,_,rfl,_,rfl,F,fF,n,cF,m,_,false,w,x,en,es'[i],rfl,n2,n1,m1,m4,hen,hent,en3,xi.1,by decide +kernel,by decide +kernel,by decide +kernel,by decide +kernel,λv g H8 e8 hg nd gl=>?_⟩;dsimp only[za3];refine⟨_,rfl,F,fF,n,m,v,g,rfl,hg,gl,λb hb=>⟨_,rfl,?_⟩⟩
   cases b with
   | false=>exact iteF ⟨en,w,_,_,rfl,eS.trans e8,hen.same e8,en3,en8⟩
   | true=>exact iteT ⟨_,rfl,g,v,_,_,rfl,eS.trans e8,hg,(hb rfl).1,(hb rfl).2⟩
  ·rintro σ H7 ⟨en,w,v9,v10,rfl,eS,hen,en3,en8⟩;obtain⟨⟨qw,rfl,hqw⟩,te,kvw,φ,dw⟩:=hen;show rr _ _ _;subst hrr;refine sab λrr hrr=>?_
   refine⟨_,Z,_,Z,n,Z,n2,n1,λpf H8 e8 hpf p dp np ndp nep=>?_⟩;have e9:Same H8 (upd (upd H8 dp (.own p)) p (.ins zab dp [])):=λb o hb=>by
    rw[zal (zan hb np),zal (zan hb ndp)];exact hb
   have hp9:(upd (upd H8 dp (.own p)) p (.ins zab dp [])) p=some (.ins zab dp []):=zaf;generalize upd (upd H8 dp (.own p)) p (.ins zab dp [])=H9 at e9 hp9 ⊢;intro r dx nx ndx ner;have eA:Same H9 (upd (upd H9 dx (.own r)) r (.ins zav dx [])):=λb o hb=>by
    rw[zal (zan hb nx),zal (zan hb ndx)];exact hb
   refine⟨r,dx,m,pf,p,Z,zaf,by omega,by omega,⟨dp,eA _ _ hp9⟩,λHB hb1 hb2=>⟨Z,?_⟩⟩;have eB:Same H9 HB:=λb o hb=>hb2 b o (eA _ _ hb) (zan hb nx)
   have hR:RgP zav zag zak zab zab zab zab HB r ⟨m,pf,p,n,0,[]⟩:=⟨n1,n2,m1,m4,(by show (0:Int)<=0;decide),(by show (0:Int)<4;decide),(λx hx=>nomatch hx),(λx hx=>nomatch hx),⟨dx,hb1⟩,zfm (.of (e9.trans eB)) hpf,by
    unfold AtK;rw[Yl rfl];exact⟨dp,eB _ _ hp9⟩⟩
   have eC:=(e8.trans e9).trans eB;have hqB:=eC _ _ hqw;have d0:=te.d0;have pc:=te.pc;refine⟨_,Z,qw,_,_,_,Z,Z,SqT.of hqB,Z,F,fF,r,_,⟨m,pf,p,n,0,[]⟩,cF,en.pt,en.ps,Z,hR,en3,te.tx,λp hp f hf=>(te.fc p hp f hf).up (by omega),(by show (en.fv m).length<=12000;omega),λbd qr HD eD hqr=>?_,λnb qr d kvs HD eD hqr hd pfv=>?_⟩
   ·have lo:=te.lo.mpr bd;dsimp only[za3];subst hrr;refine⟨_,Z,qw,_,_,_,Z,Z,SqT.of (eD _ _ hqB),Z,_,Z,?_⟩;rw[lo];refine iteT ⟨_,Z,(by show 2<=sizeLine;decide),λq2 nq2=>?_⟩;have eE:Same HD (upd HD q2 (.tup [.str "refused",.str "over"])):=Same.upd nq2;have hq2:(upd HD q2 (HO.tup [V.str "refused",V.str "over"])) q2=some (.tup [.str "refused",.str "over"]):=zaf;refine⟨_,_,rds2 (eE _ _ hqr),rds2 hq2,by decide +kernel,by decide +kernel,?_⟩;rw[show PyData.eqv _ _=true by decide +kernel];exact k _
   ·have lo:en.lo=false:=by
     cases z:en.lo with
     | false=>rfl
     | true=>exact absurd (te.lo.mp z) nb
    dsimp only[za3];subst hrr;refine⟨_,Z,qw,_,_,_,Z,Z,SqT.of (eD _ _ hqB),Z,_,Z,?_⟩;rw[lo];refine iteF ⟨_,Z,qr,_,_,_,Z,Z,SqT.of hqr,Z,Z,?_⟩;rw[Yo rfl];refine⟨_,Z,iteT ⟨_,Z,_,Z,qr,_,_,_,Z,Z,SqT.of hqr,Z,F,fF,n,cF,m,d,kvs,_,Z,n2,m4,hd,pfv,λHE eE=>⟨_,Z,iteT ?_⟩⟩⟩;have hv:=dw.vl lo;have p2D:=pfv.same eE;have gW:=eC.trans (eD.trans eE);have pfD:=dw.pf.same gW;obtain⟨da,ka,fa,ea,ra⟩:=zmn (K:=K) (λp hp=>zrk p2D hp);obtain⟨db,kb,fb,eb,rb⟩:=zmn (K:=K) (λp hp=>zrk pfD hp);refine⟨_,Z,qr,_,_,_,Z,Z,SqT.of (eE _ _ hqr),Z,_,Z,qw,_,_,_,Z,Z,SqT.of (gW _ _ hqw),Z,d,en.d,kvs,kvw,da,db,Z,Z,.inl (eE _ _ hd),.inl (gW _ _ dw.h),ka,kb,fa,fb,?_⟩;rw[(p2D.eq pfD ea eb ra rb).mpr λt=>by rw[hv];rfl];exact k _
end
end K6
namespace PySem.W.Fast
def tw4362967586151943104:=0
def tw8057030454547157262:=0
def tw11820524672872342934:=0
def tw10571256872530772712:=0
def tw16318324847878029060:=0
def tw13131416566255665743:=0
def tw12948242126547696142:=0
def tw6357393075296268253:=0
def tw18380750643027317119:=0
def tw8974262797916941400:=0
def tw793559281072254537:=0
def tw8264187768857404325:=0
def tw11237286753528037374:=0
def tw14442584593088501915:=0
def tw14101923738715563704:=0
def tw13826875620893347937:=0
def tw15460039545979934017:=0
def tw9758926666779856751:=0
def tw12303598193810016463:=0
def tw12975790591791524033:=0
def tw61184316977061494:=0
def tw8753279328877432920:=0
def tw17821698026739664873:=0
def tw5005946810124452488:=0
def tw4310815911687715720:=0
def tw5758368552261125157:=0
def tw12014307176416648758:=0
def tw15021614322055641556:=0
def tw2204050655027716928:=0
def tw5477387525190080394:=0
def tw4430287275994795683:=0
def tw17469618072769814914:=0
def tw11087977834835223507:=0
def tw5752664303316193546:=0
def tw3966361797600452958:=0
def tw17810650934893319472:=0
def tw12215899034380624913:=0
def tw18179059439820200522:=0
def tw3502279624837580460:=0
def tw5760249327472394354:=0
def tw300596610138093166:=0
def tw17531369142250371562:=0
def tw5106227843665137432:=0
def tw3246225686492979667:=0
def tw11456538885442686840:=0
def tw2761281192705044499:=0
def tw8192901846412830959:=0
def tw14699811086271974930:=0
def tw5554594476998553064:=0
def tw1772060204726005323:=0
def tw277806850573483495:=0
def tw5407974779198263817:=0
def tw10762223806166167689:=0
def tw14208746300378362992:=0
def tw2738326847611112148:=0
def tw8361349924060167775:=0
def tw5084316992360894341:=0
def tw12071124561612983235:=0
def tw5539109092883593227:=0
def tw2437645488127529225:=0
def tw16597548013196022370:=0
def tw12867984256783051333:=0
def tw16525987311390014454:=0
def tw2934599768964257031:=0
def tw8297059295597821476:=0
def tw9762289319741566003:=0
def tw16312984025302023834:=0
def tw12995392621621327191:=0
def tw3210205320403716926:=0
def tw12007916213400437752:=0
def tw14573777166775100947:=0
def tw10936646946587027942:=0
def tw17647818138479769154:=0
def tw2498513782061927185:=0
def tw12466013864446003134:=0
def tw7209775708113928939:=0
def tw3251921260182068444:=0
def tw13506326502979469182:=0
def tw18147750766910590677:=0
def tw10115378866760635330:=0
def tw15688192237743763669:=0
def tw4060792158805647694:=0
def tw7441173556189961967:=0
def tw12741387734648597549:=0
def tw8722235781335351261:=0
def tw16690770004083117383:=0
def tw9471848416398430978:=0
def tw8367838355031627357:=0
def tw7237409460592016557:=0
def tw13226469226398279375:=0
def tw15637672247169877361:=0
def tw10381533533500824026:=0
def tw4613269889077849336:=0
def tw16547404371654299898:=0
def tw6067950729814988933:=0
def tw10559601671453033343:=0
def tw9627042388429276802:=0
def tw11399856795319048443:=0
def tw15275771197963756949:=0
def tw17228735789799897905:=0
def tw5578161531935559780:=0
def tw10413181008559482706:=0
def tw4898037680618529470:=0
def tw1390272068237733933:=0
def tw5986896526159329324:=0
def tw2669084344152814645:=0
def tw5854656675405389189:=0
def tw10008239079297996681:=0
def tw13363970775247443041:=0
def tw957057691988333456:=0
def tw5924650873477358726:=0
def tw3633402253441517290:=0
def tw4765293619741981292:=0
def tw4527262343535468862:=0
def tw10004963839189752809:=0
def tw5319277103731397712:=0
def tw15618464985877881014:=0
def tw17239539661687260141:=0
def tw1376382509733051338:=0
def tw9485629367365905330:=0
def tw8126297540054903594:=0
def tw14768614700915074641:=0
def tw815766558357290954:=0
def tw2122429154469963856:=0
def tw11299187964027967974:=0
def tw6124002136307948037:=0
def tw18433613060868413095:=0
def tw15731084303135344816:=0
def tw17009364822706691968:=0
def tw18305117192989952682:=0
def tw3763689129914741461:=0
def tw14211011979185265694:=0
def tw214279552959002448:=0
def tw16644735404437659204:=0
def tw9342454940129808912:=0
def tw17152561835601838061:=0
def tw12007195446801088595:=0
def tw18106162487156199666:=0
def tw10121854987590035803:=0
def tw15486275381492995112:=0
def tw2811237752844208066:=0
def tw5006380300381762799:=0
def tw16054550502672456385:=0
def tw17580788535191853644:=0
def tw15329197471587601986:=0
def tw16257852932726890211:=0
def tw18033693950523831717:=0
def tw6824362392979956863:=0
def tw13596293382137275494:=0
def tw9905697675063095288:=0
def tw13821331799101445552:=0
def tw4598837145923722419:=0
def tw13433640525543511659:=0
def tw11036223341845162660:=0
def tw3386640288896695936:=0
def tw13130616137347074963:=0
def tw215130896971920176:=0
def tw12650917247213687149:=0
def tw16789164593910013324:=0
def tw2633951356560795989:=0
def tw12872709840520321341:=0
def tw988183565920848905:=0
def tw9750732713046103272:=0
def tw3006388863018849265:=0
def tw12327063892739367535:=0
def tw8276827882177014816:=0
def tw260510719209891540:=0
def tw14896545929623123825:=0
def tw8917297176349121437:=0
def tw15744643312502940744:=0
def tw6503808878796005088:=0
def tw4747654904033858763:=0
def tw16708570301753898379:=0
def tw7300209103970630235:=0
def tw10272944506344041750:=0
def tw6179718442682226462:=0
def tw7799755514576574387:=0
def tw2547825045018706402:=0
def tw896167957996071020:=0
def tw9935757367182671524:=0
def tw15991492476574409356:=0
def tw9816312454494371192:=0
def tw16487570986096952537:=0
def tw3624017421206598361:=0
def tw6290979733509095014:=0
def tw16499802113390066298:=0
def tw5336606101931420400:=0
def tw2411467011759217833:=0
def tw11057043843254413109:=0
def tw1228771723247775609:=0
def tw12060751270572144294:=0
def tw13821112540072317262:=0
def tw18386818653873035906:=0
def tw4256316863006058665:=0
def tw10974610283377397376:=0
def tw38691827656287550:=0
def tw13837064103328282830:=0
def tw4259375006872454656:=0
def tw481549779107338689:=0
def tw15872820717732669546:=0
def tw4899747158395823979:=0
def tw11879072074597262947:=0
def tw17880314579879859980:=0
def tw380653714937317016:=0
def tw10440032216058174533:=0
def tw6646271908243733654:=0
def tw13622885963412597229:=0
def tw15937366052398159500:=0
def tw1759107240463709566:=0
def tw12121810529508630343:=0
def tw2247364523192341846:=0
def tw17176048123191019643:=0
def tw7986878853662325581:=0
def tw4472550494621279804:=0
def tw2431788254565575759:=0
def tw17665309192251623949:=0
def tw4698658614190030244:=0
def tw12719560977494256791:=0
def tw9674053064766174863:=0
def tw16554864486029359042:=0
def tw961537426640250750:=0
def tw1696314361034258700:=0
def tw4003770777137979450:=0
def tw16676132882567787816:=0
def tw7567049834757597304:=0
def tw7853140373156456079:=0
def tw1850787056630424721:=0
def tw2835373312602142713:=0
def tw8773108413030709343:=0
def tw993950271815769110:=0
def tw15132182484412129729:=0
def tw9224180069507628485:=0
def tw6692459582012631777:=0
def tw540611775024200323:=0
def tw10371046451654066489:=0
def tw13767915109448686822:=0
def tw2727779450063055315:=0
def tw2223887927897840422:=0
def tw6245704857193956240:=0
def tw13256486965231014930:=0
def tw8190709024803186560:=0
def tw8701154552706091267:=0
def tw12349421073938260490:=0
def tw8749308451494958104:=0
def tw8288655312547713145:=0
def tw1209423116712572339:=0
def tw15820465513059439160:=0
def tw8700110636190253910:=0
def tw6479171311015176925:=0
def tw14432678220685416408:=0
def tw14718605539536813043:=0
def tw16490305231587752681:=0
def tw4801228980859358588:=0
def tw14371808222557315072:=0
def tw13857819382015653975:=0
def tw9961877395303948398:=0
def tw12498113908473568884:=0
def tw7439001906075722028:=0
def tw7456208065314150029:=0
def tw9979906747457662176:=0
def tw6213426663536295242:=0
def tw99424085521963529:=0
def tw3573207729831663654:=0
def tw4716772448169263215:=0
def tw5175227140604929376:=0
def tw14282505320078132940:=0
def tw10352518930679056095:=0
def tw1149848797753705840:=0
def tw17896323448015247793:=0
def tw10034478108524361818:=0
def tw2302718332156439333:=0
def tw2982693598701055201:=0
def tw5678943627316310255:=0
def tw15075130105870379842:=0
def tw10382592434164308893:=0
def tw15147819909444185163:=0
def tw5765449563165806724:=0
def tw3859708359901586368:=0
def tw5580709330711960019:=0
def tw12741344207343311475:=0
def tw1767983988318219918:=0
def tw16238894053690036397:=0
def tw2381126333602719891:=0
def tw1294777948989871354:=0
def tw11810812753323234413:=0
def tw8954782051887605787:=0
def tw2668496418216643567:=0
def tw5177994336407380753:=0
def tw10624250921898083242:=0
def tw14104670826200927875:=0
def tw16229156788963914880:=0
def tw7572950719719121788:=0
def tw17616603887563877209:=0
def tw1031783168511555348:=0
def tw18213604121449995949:=0
def tw17977166552772924644:=0
def tw11723221801335939100:=0
def tw17063773030484000393:=0
def tw8860266991604430411:=0
def tw15557026402257224016:=0
def tw11377815980079634584:=0
def tw6489421528326317852:=0
def tw6841263766649683466:=0
def tw199352585570947846:=0
def tw9401483293058134360:=0
def tw13064475339227120486:=0
def tw12905825447007634861:=0
def tw15630416694336197971:=0
def tw9212170867142736907:=0
def tw13888904850869396366:=0
def tw15868399353042723180:=0
def tw1993162264310865717:=0
def tw7882985367003455906:=0
def tw11165718434701318106:=0
def tw13138072898630406258:=0
def tw9538087277661077645:=0
def tw15907001246706263750:=0
def tw17034592971433240272:=0
def tw3451294063146113912:=0
def tw14978560621884611956:=0
def tw17318319432086361776:=0
def tw2214913178843768376:=0
def tw14025177459453304733:=0
def tw16101739177176024681:=0
def tw5805103867671172133:=0
def tw687064234623737051:=0
def tw7749063587383115512:=0
def tw17535912874246045808:=0
def tw2835358917695914025:=0
def tw8434772786274705751:=0
def tw17671006454164608890:=0
def tw1409006106278305009:=0
def tw8395338196351436522:=0
def tw1495630872910431381:=0
def tw14153827567855513789:=0
def tw1600269520493850399:=0
def tw13213203953444251224:=0
def tw13382902296722429050:=0
def tw11151145975928527946:=0
def tw5225081346310077372:=0
def tw3450622685618126240:=0
def tw13800333948098074393:=0
def tw13879631310799167735:=0
def tw12544243444404887419:=0
def tw16747779699704554678:=0
def tw944650687487964874:=0
def tw10872845157015354783:=0
def tw10628905100001167166:=0
def tw4522497131415368662:=0
def tw13272723891520289797:=0
def tw15249685994369341323:=0
def tw3635564857497805027:=0
def tw11702196991546791111:=0
def tw9456345324231182323:=0
def tw11059463366364337200:=0
def tw1845259531961467636:=0
def tw13474551112024347184:=0
def tw14409174628540839316:=0
def tw3969507829244534427:=0
def tw13790784214075250049:=0
def tw3851607767044785032:=0
def tw6398933135725849755:=0
def tw13897542652034444089:=0
def tw2983164097774745914:=0
def tw11096760113462973371:=0
def tw8625468332643386208:=0
def tw16540078008654249255:=0
def tw2585021509255091821:=0
def tw10734595780857414173:=0
def tw2772197542881919937:=0
def tw7956307081967553791:=0
def tw12802082227189127736:=0
def tw16575651818942264993:=0
def tw14088879507417145659:=0
def tw4758885282554640607:=0
def tw8614519498239435243:=0
def tw11109154416635300340:=0
def tw5943571837302869847:=0
def tw3990826166718849144:=0
def tw11654962923833598687:=0
def tw7675198499398026139:=0
def tw8348639627302791310:=0
def tw3529997102569749821:=0
def tw12205284507555249383:=0
def tw14300789788548541900:=0
def tw12159798857230033327:=0
def tw6134728999532966438:=0
def tw17373630120958859757:=0
def tw6105934213342484908:=0
def tw1074341680906984599:=0
def tw4238060390465794894:=0
def tw12924399743655661270:=0
def tw4447975953934661344:=0
def tw11788397143134948977:=0
def tw11384693769627278285:=0
def tw6089298756516418060:=0
def tw1383008075403706782:=0
def tw749972415100969972:=0
def tw12793606002339356646:=0
def tw5882333377080921006:=0
def tw9477085740553112025:=0
def tw15969463058483106975:=0
def tw14150917062643129932:=0
def tw5100740270763872147:=0
def tw13017671144452456532:=0
def tw13879458381314328026:=0
def tw3472008243132153881:=0
def tw17789376340701462950:=0
def tw7024156321815254973:=0
def tw5569918883691752141:=0
def tw3806408386157161205:=0
def tw15060865455983055848:=0
def tw13654165944899746271:=0
def tw7605981594655145508:=0
def tw13857778807353514072:=0
def tw12730885245843820365:=0
def tw13014871388131343981:=0
def tw8712284962975153662:=0
def tw13838393736918750709:=0
def tw5317614627105783166:=0
def tw4439247931316331954:=0
def tw15098157360352404750:=0
def tw10764406791942607:=0
def tw12011550475396452539:=0
def tw15498344379668867297:=0
def tw3266518397807642168:=0
def tw11560708412772055142:=0
def tw14395471844056002102:=0
def tw11213475085015381439:=0
def tw11429963103240027964:=0
def tw14821699149563247304:=0
def tw7764625516595520307:=0
def tw5271884205889605411:=0
def tw3319249464241161694:=0
def tw14340062362844720751:=0
def tw1489277030362586214:=0
def tw13837475255439134238:=0
def tw4990080041977921947:=0
def tw10319700355641076883:=0
def tw11915592275155960965:=0
def tw18187668628861846724:=0
def tw6479408800613865343:=0
def tw18174961167669458321:=0
def tw3129405845984558844:=0
def tw17796952308367911475:=0
def tw1434418210784710690:=0
def tw9376761277163796179:=0
def tw12350629378859095549:=0
def tw160981171925346879:=0
def tw6541507367617295628:=0
def tw12464125660730610468:=0
def tw6896347570736526246:=0
def tw1016464791290630661:=0
def tw3456854270382417058:=0
def tw1041100511978041237:=0
def tw12441985452813113764:=0
def tw14813694689948822925:=0
def tw13765906304734262841:=0
def tw5896026621006911647:=0
def tw2334703773940444968:=0
def tw5693762355178335230:=0
def tw15559160083002681179:=0
def tw13275015564494053689:=0
def tw8460431142835047088:=0
def tw15750948847448895403:=0
def tw7849773534152800968:=0
def tw17642941776971876054:=0
def tw17216545684344571126:=0
def tw3750038656622098808:=0
def tw5043779036774453261:=0
def tw17958835544031870208:=0
def tw1962589579005444284:=0
def tw9488699259415139128:=0
def tw2496807979957703595:=0
def tw12995851267540235976:=0
def tw17411312112974791163:=0
def tw14823675155532584250:=0
def tw6944539780681649592:=0
def tw18194064407894827439:=0
def tw12238560144344751273:=0
def tw10108374170880912663:=0
def tw580224716449010609:=0
def tw17341978479254567427:=0
def tw13650456198028326979:=0
def tw16165894357287703494:=0
def tw1096811991739031232:=0
def tw9158533218812257573:=0
def tw2173075026078262292:=0
def tw17088168580822405165:=0
def tw5255037704286010385:=0
def tw3191825076228980379:=0
def tw8073381135093663196:=0
def tw17545721405648533918:=0
def tw2922677118921539807:=0
def tw4205069254437254676:=0
def tw18376538935895473145:=0
def tw9017529379108021295:=0
def tw3718345480675725287:=0
def tw16532633438555662439:=0
def tw17367509945076149831:=0
def tw15251802079665436749:=0
def tw15260976125222919218:=0
def tw11833697127227396391:=0
def tw1250484952540396701:=0
def tw17344509811823282068:=0
def tw18192471979735172445:=0
def tw532144920226687606:=0
def tw8190749993799080310:=0
def tw5795246609565932852:=0
def tw4611805761800459616:=0
def tw3666056801206837588:=0
def tw4287079891131203990:=0
def tw12245555069338108425:=0
def tw17981654105120939217:=0
def tw16273139451630122699:=0
def tw2160532887865701060:=0
def tw15535814319566737703:=0
def tw791434697367171812:=0
def tw17042331146895698115:=0
def tw9796631711878806021:=0
def tw14514514582037269154:=0
def tw758117022332847258:=0
def tw9354587766666904951:=0
def tw7374029143417263257:=0
def tw15529673929564859137:=0
def tw13245250101165633546:=0
def tw15946694028424101669:=0
def tw16269545931110629665:=0
def tw1297554200987478486:=0
def tw7398048789918624897:=0
def tw469174420393348486:=0
def tw11277705018964000121:=0
def tw13832048626420051462:=0
def tw15116180958058792775:=0
def tw360019523035783906:=0
def tw12590553030816165222:=0
def tw6188931241443660671:=0
def tw8068775754822934612:=0
def tw33892870281061071:=0
def tw10642162925698863372:=0
def tw2490920441210992352:=0
def tw1967850244103953432:=0
def tw3899609890709159173:=0
def tw6488666223725824490:=0
def tw14299952154994229031:=0
def tw14525268253163725766:=0
def tw2459312731994037253:=0
def tw1191074979619967647:=0
def tw609467029463465206:=0
def tw9266749943470836330:=0
def tw8591487961006431189:=0
def tw9147297058659229292:=0
def tw8765757931429516794:=0
def tw9793786649288957599:=0
def tw14097356676188340492:=0
def tw16520938178717308024:=0
def tw6214633525602688655:=0
def tw17095892744002176838:=0
def tw4748986074517833976:=0
def tw17140357549501573599:=0
def tw2356545851469498195:=0
def tw18273364518482334370:=0
def tw4527541894186836058:=0
def tw13397536526535385719:=0
def tw4178389948180040927:=0
def tw886239217913056081:=0
def tw6676343440916309985:=0
def tw12549139254175315718:=0
def tw4376379651998427171:=0
def tw14734916028802532575:=0
def tw10835635737044269109:=0
def tw11023673631170148530:=0
def tw8318145757725990643:=0
def tw14645707357938507485:=0
def tw3119687808831077076:=0
def tw356111333442771400:=0
def tw9521650657387238334:=0
def tw14994419188274908765:=0
def tw15192078563755961121:=0
def tw6405274328462325223:=0
def tw14271919853867397879:=0
def tw5708510645354057598:=0
def tw5020842322928720605:=0
def tw8905239676863333394:=0
def tw1367713511105750904:=0
def tw1736633208817272898:=0
def tw3493281197671286443:=0
def tw1607657510292481000:=0
def tw2025073693035630898:=0
def tw13766531654436314083:=0
def tw2190312601222076539:=0
def tw10794172742392945630:=0
def tw16226736511681782616:=0
def tw4280055066671636556:=0
def tw474883080160363409:=0
def tw1444317539556559111:=0
def tw4296797219718963452:=0
def tw16337922826016277941:=0
def tw11556482666420599024:=0
def tw17896100894841282732:=0
def tw5179750377246529674:=0
def tw486493594603735147:=0
def tw3285307769773288618:=0
def tw6754505134699213313:=0
def tw1639550879344355665:=0
def tw17960795144742100791:=0
def tw16393307303963992353:=0
def tw17966788770889503406:=0
def tw12533432281512481647:=0
def tw14268554523221629582:=0
def tw6488684569104332918:=0
def tw17914036824696250223:=0
def tw5223767169026756861:=0
def tw6816663096159768116:=0
def tw13966991216616187471:=0
def tw4619589779664812408:=0
def tw4072937577725587505:=0
def tw13723095773078207347:=0
def tw6893142277870567154:=0
def tw3113990471726944344:=0
def tw16800522737077349207:=0
def tw17440306479496823745:=0
def tw5280676570945331313:=0
def tw1800068867976698362:=0
def tw646396419142965195:=0
def tw9342013397850758247:=0
def tw8171362046980662201:=0
def tw11199688703692183623:=0
def tw14301924001859073804:=0
def tw9789565688516289824:=0
def tw1983723411816542613:=0
def tw8847653307433457452:=0
def tw324440678654371675:=0
def tw16715894624990555363:=0
def tw15990168203185964543:=0
def tw10015160740475786545:=0
def tw15820541215389812224:=0
def tw17456157715180320763:=0
def tw11533690170207417007:=0
def tw6968280401124224656:=0
def tw16115435170874091624:=0
def tw6098950375506243597:=0
def tw9985985378363635801:=0
def tw14071035098111244025:=0
def tw13591490350274822189:=0
def tw12941884917608645159:=0
def tw5481130948894855175:=0
def tw17589465272584074062:=0
def tw3783421418377828420:=0
def tw6547585011859423142:=0
def tw16922555793947776977:=0
def tw11549097402005389947:=0
def tw3836373478164469435:=0
def tw17652918936021579577:=0
def tw11211086863462583806:=0
def tw7327299187699900096:=0
def tw4032857006995124541:=0
def tw16599235653076884884:=0
def tw8911795459286796953:=0
def tw5030149620936678044:=0
def tw7068952561672185338:=0
def tw5185768240233091247:=0
def tw15203108610381476471:=0
def tw4529818511176576379:=0
def tw5805465488512067721:=0
def tw1657941866081940449:=0
def tw7441545130174374958:=0
def tw8714710697069929908:=0
def tw13943173839018256183:=0
def tw9185680726996149708:=0
def tw9483177711224637595:=0
def tw8307491710433634822:=0
def tw4426484651952667944:=0
def tw4376506423216579935:=0
def tw12351879513720052790:=0
def tw8015895333329030461:=0
def tw17775582141132272249:=0
def tw1127869176693075736:=0
def tw7873988514704120444:=0
def tw6831457519656788929:=0
def tw8827697675128754828:=0
def tw8000430747327120487:=0
def tw16132471280568243318:=0
def tw18425998491881138079:=0
def tw15947268950493226596:=0
def tw15438515987993861517:=0
def tw1254196991330191726:=0
def tw9859356727614754888:=0
def tw2366293654982094437:=0
def tw12123973770796612860:=0
def tw18217555914077021163:=0
def tw13856959439517717763:=0
def tw15331478214430299495:=0
def tw4895258662847016143:=0
def tw18406228795636849956:=0
def tw10802856578809423888:=0
end PySem.W.Fast
namespace K6
open PySem L2
theorem bl1{α : Type}{P:List α->Prop}(h:∀a,P [a]):∀us:List α,us.length=1->P us
 | [a],_=>h a
theorem bl2{α : Type}{P:List α->Prop}(h:∀a b,P [a,b]):∀us:List α,us.length=2->P us
 | [a,b],_=>h a b
theorem bl3{α : Type}{P:List α->Prop}(h:∀a b c,P [a,b,c]):∀us:List α,us.length=3->P us
 | [a,b,c],_=>h a b c
theorem bl4{α : Type}{P:List α->Prop}(h:∀a b c d,P [a,b,c,d]):∀us:List α,us.length=4->P us
 | [a,b,c,d],_=>h a b c d
theorem bl5{α : Type}{P:List α->Prop}(h:∀a b c d e,P [a,b,c,d,e]):∀us:List α,us.length=5->P us
 | [a,b,c,d,e],_=>h a b c d e
inductive FnE(K:W.Frag)(f:Addr)(nm qn:Str)(st:Stmt):Prop
 | mk {oc kV dc pm cd ct:Value} {od an:Option Addr} {sl:Array (Option Value)} (l:K.lookup f=some ⟨oc,od,.func (W.fnOf nm qn (zcn st) (zb2 st) (zaj st) .none kV dc pm an cd ct),sl⟩) (c:W.codeIn K cd qn=true) (k:W.keepIn K (.ref f)=true):FnE K f nm qn st
theorem FnE.ob{K:W.Frag}{f:Addr}{nm qn:Str}{st:Stmt}{ps:List Str}(e:FnE K f nm qn st)(h:∀(kV doc pm:Value) (an:Option Addr) (cdv ct:Value) (us:List Value),us.length=ps.length->bindArgs (W.fnOf nm qn (zcn st) (zb2 st) (zaj st) .none kV doc pm an cdv ct) ⟨us,[]⟩=pure (ps.zip us)):∃fd,FunD K nm qn st .none f fd/\Binds K fd ps []/\W.keepIn K (.ref f)=true:=by
 obtain⟨l,c,k⟩:=e;exact⟨_,zgm l c,(zgm l c).binds h,k⟩
theorem all_mk{l:W.OpenLaw}{w:World}{K:W.Frag}{h:Heap}{mg:Str->Option Value}{fa:Addr}(X:K.In h)(G:h.Ns mainGlobals mg)(hfa:mg "law" = some (.ref fa))
  {zav:Addr} {zag:Addr} {zak:Addr} {zck:Addr} {zab:Addr} {zae:Addr} {f_0:Addr} {f_1:Addr} {f_2:Addr} {Cq_2:Addr} {f_3:Addr} {f_4:Addr} {f_5:Addr} {f_6:Addr} {od_6 an_6:Option Addr} {sl_6:Array (Option Value)} {oc_6 kV_6 dc_6 pm_6 cd_6 ct_6:Value} {T_6:Addr} {tu_6:Value} {td_6:Option Addr} {tn_6:Nat} {ts_6:Array (Option Value)} {tk_6:Tok} {f_7:Addr} {f_8:Addr} {f_9:Addr} {f_10:Addr} {f_11:Addr} {f_12:Addr} {f_13:Addr} {f_14:Addr} {f_15:Addr} {f_16:Addr} {od_16 an_16:Option Addr} {sl_16:Array (Option Value)} {oc_16 kV_16 dc_16 pm_16 cd_16 ct_16:Value} {T_16:Addr} {tu_16:Value} {td_16:Option Addr} {tn_16:Nat} {ts_16:Array (Option Value)} {tk_16:Tok} {f_17:Addr} {f_18:Addr} {f_19:Addr} {f_20:Addr} {f_21:Addr} {f_22:Addr} {f_23:Addr} {f_24:Addr} {f_25:Addr} {f_26:Addr} {f_27:Addr} {f_28:Addr} {f_29:Addr} {f_30:Addr} {f_31:Addr} {f_32:Addr} {f_33:Addr} {f_34:Addr} {f_35:Addr} {f_36:Addr} {f_37:Addr} {f_38:Addr} {f_39:Addr} {f_40:Addr} {f_41:Addr} {f_42:Addr} {f_43:Addr} {f_44:Addr} {f_45:Addr} {f_46:Addr} {f_47:Addr} {f_48:Addr} {f_49:Addr} {f_50:Addr} {f_51:Addr} {f_52:Addr} {f_53:Addr} {f_54:Addr} {f_55:Addr} {f_56:Addr} {f_57:Addr} {f_58:Addr} {f_59:Addr} {f_60:Addr} {f_61:Addr} {f_62:Addr} {f_63:Addr} {f_64:Addr} {f_65:Addr} {f_66:Addr} {f_67:Addr} {od_67 an_67:Option Addr} {sl_67:Array (Option Value)} {oc_67 kV_67 dc_67 pm_67 cd_67 ct_67:Value} {zam:Addr} {bm_NoOver:List Value} {nid_NoOver:String} {ini_NoOver B_NoOver:String} {zbz:Addr} {bm_NoPrime:List Value} {nid_NoPrime:String} {ini_NoPrime B_NoPrime:String} {zdy:Addr} {bm_NoRing:List Value} {nid_NoRing:String} {ini_NoRing B_NoRing:String} {zax:Addr} {bm_NoText:List Value} {nid_NoText:String} {ini_NoText B_NoText:String} {zbe:Addr} {bm_RoomError:List Value} {nid_RoomError:String} {ini_RoomError B_RoomError:String} {tg_END:Tok} {tg_FIGURES:Tok} {tg_GREATEST_PRIME:Tok} {tg_LETTERS:Tok} {tg_MOST_DEPTH:Tok} {tg_MOST_SIGNS:Tok} {tg_NUMBER_FIGURES:Tok} {tg_POWER_FIGURES:Tok}
  (kt:W.nsIn K mainGlobals "Ring" = some (some (.ref zav)))
  (jg:W.plainGet K zav Str.empty=true)
  (jh:W.hasDictIn K zav=true)
  (ji:W.plainOver K zav=true)
  (jj:W.findIn K (.ref zav) "__setattr__" = some (some (.builtin "object.__setattr__")))
  (jk:W.makesIn K zav=true)
  (jl:W.keepIn K (.ref zav)=true)
  (av:W.findIn K (.ref zav) "many" = some none)
  (aj:W.findIn K (.ref zav) "field" = some none)
  (ak:W.findIn K (.ref zav) "order" = some none)
  (bu:W.nsIn K mainGlobals "Fractions" = some (some (.ref zag)))
  (aw:W.plainGet K zag Str.empty=true)
  (ay:W.hasDictIn K zag=true)
  (az:W.plainOver K zag=true)
  (ba:W.findIn K (.ref zag) "__setattr__" = some (some (.builtin "object.__setattr__")))
  (bc:W.makesIn K zag=true)
  (bf:W.keepIn K (.ref zag)=true)
  (aa:W.findIn K (.ref zag) "prime" = some none)
  (jn:W.nsIn K mainGlobals "Rests" = some (some (.ref zak)))
  (ij:W.plainGet K zak Str.empty=true)
  (ik:W.hasDictIn K zak=true)
  (im:W.plainOver K zak=true)
  (io:W.findIn K (.ref zak) "__setattr__" = some (some (.builtin "object.__setattr__")))
  (iq:W.makesIn K zak=true)
  (ir:W.keepIn K (.ref zak)=true)
  (ah:W.findIn K (.ref zak) "prime" = some none)
  (jo:W.nsIn K mainGlobals "Order" = some (some (.ref zck)))
  (iw:W.plainGet K zck Str.empty=true)
  (iz:W.hasDictIn K zck=true)
  (ja:W.plainOver K zck=true)
  (jb:W.findIn K (.ref zck) "__setattr__" = some (some (.builtin "object.__setattr__")))
  (fj:W.nsIn K mainGlobals "Degrees" = some (some (.ref zab)))
  (cv:W.plainGet K zab Str.empty=true)
  (cw:W.hasDictIn K zab=true)
  (cx:W.plainOver K zab=true)
  (cy:W.findIn K (.ref zab) "__setattr__" = some (some (.builtin "object.__setattr__")))
  (cz:W.makesIn K zab=true)
  (dg:W.findIn K (.ref zab) "__init__" = some (some (.builtin "object.__init__")))
  (dh:W.keepIn K (.ref zab)=true)
  (jc:W.nsIn K mainGlobals "Reader" = some (some (.ref zae)))
  (fk:W.plainGet K zae Str.empty=true)
  (fo:W.hasDictIn K zae=true)
  (fq:W.plainOver K zae=true)
  (ft:W.findIn K (.ref zae) "__setattr__" = some (some (.builtin "object.__setattr__")))
  (fu:W.makesIn K zae=true)
  (fw:W.keepIn K (.ref zae)=true)
  (ac:W.findIn K (.ref zae) "unknowns" = some none)
  (ai:W.findIn K (.ref zae) "text" = some none)
  (bg:W.findIn K (.ref zae) "at" = some none)
  (af:W.findIn K (.ref zae) "depth" = some none)
  (xp:W.nsIn K mainGlobals "shared_divisor" = some (some (.ref f_0)))
  (xq:FnE K f_0 "shared_divisor" "shared_divisor" zch)
  (xr:W.nsIn K mainGlobals "is_prime" = some (some (.ref f_1)))
  (xt:FnE K f_1 "is_prime" "is_prime" zfq)
  (mx:W.nsIn K mainGlobals "Field" = some (some (.ref Cq_2)))
  (my:W.readsIn K Cq_2 (.type "type")=true)
  (mz:W.findCls K (.ref Cq_2) (.type "type") "__init__" = some (.val (.ref f_2)))
  (nh:W.specialIn K (.ref Cq_2) "__getattribute__" = some (some (.builtin "type.__getattribute__")))
  (xu:W.isFn K (.ref f_2)=true)
  (xw:FnE K f_2 "__init__" "Field.__init__" zcd)
  (al:W.findIn K (.ref zag) "__init__" = some (some (.ref f_3)))
  (xx:W.isFn K (.ref f_3)=true)
  (xy:FnE K f_3 "__init__" "Fractions.__init__" zbq)
  (am:W.findIn K (.ref zag) "nought" = some (some (.ref f_4)))
  (xz:W.isFn K (.ref f_4)=true)
  (ya:FnE K f_4 "nought" "Fractions.nought" zbw)
  (ao:W.findIn K (.ref zag) "one" = some (some (.ref f_5)))
  (yb:W.isFn K (.ref f_5)=true)
  (yc:FnE K f_5 "one" "Fractions.one" zco)
  (aq:W.findIn K (.ref zag) "made" = some (some (.ref f_6)))
  (yd:W.isFn K (.ref f_6)=true)
  (ye:K.lookup f_6=some ⟨oc_6,od_6,.func (W.fnOf "made" "Fractions.made" (zcn zbf) (zb2 zbf) (zaj zbf) (.ref T_6) kV_6 dc_6 pm_6 an_6 cd_6 ct_6),sl_6⟩)
  (yf:K.lookup T_6=some ⟨tu_6,td_6,.seq #[.int 1 tk_6] tn_6,ts_6⟩)
  (yg:W.codeIn K cd_6 "Fractions.made" = true)
  (yh:W.keepIn K (.ref f_6)=true)
  (ar:W.findIn K (.ref zag) "plus" = some (some (.ref f_7)))
  (yi:W.isFn K (.ref f_7)=true)
  (yj:FnE K f_7 "plus" "Fractions.plus" zcf)
  (au:W.findIn K (.ref zag) "times" = some (some (.ref f_8)))
  (yk:W.isFn K (.ref f_8)=true)
  (yl:FnE K f_8 "times" "Fractions.times" zb4)
  (fy:W.findIn K (.ref zak) "__init__" = some (some (.ref f_9)))
  (ym:W.isFn K (.ref f_9)=true)
  (yn:FnE K f_9 "__init__" "Rests.__init__" zcb)
  (di:W.findIn K (.ref zak) "nought" = some (some (.ref f_10)))
  (ni:W.isFn K (.ref f_10)=true)
  (nj:FnE K f_10 "nought" "Rests.nought" zdg)
  (dm:W.findIn K (.ref zak) "one" = some (some (.ref f_11)))
  (nk:W.isFn K (.ref f_11)=true)
  (nr:FnE K f_11 "one" "Rests.one" zeu)
  (dq:W.findIn K (.ref zak) "plus" = some (some (.ref f_12)))
  (nw:W.isFn K (.ref f_12)=true)
  (og:FnE K f_12 "plus" "Rests.plus" zd8)
  (dt:W.findIn K (.ref zak) "times" = some (some (.ref f_13)))
  (oh:W.isFn K (.ref f_13)=true)
  (oi:FnE K f_13 "times" "Rests.times" zdt)
  (du:W.findIn K (.ref zak) "turned" = some (some (.ref f_14)))
  (oj:W.isFn K (.ref f_14)=true)
  (om:FnE K f_14 "turned" "Rests.turned" zdd)
  (dy:W.findIn K (.ref zak) "over" = some (some (.ref f_15)))
  (ot:W.isFn K (.ref f_15)=true)
  (ou:FnE K f_15 "over" "Field.over" zej)
  (dz:W.findIn K (.ref zak) "made" = some (some (.ref f_16)))
  (ow:W.isFn K (.ref f_16)=true)
  (ox:K.lookup f_16=some ⟨oc_16,od_16,.func (W.fnOf "made" "Rests.made" (zcn zbu) (zb2 zbu) (zaj zbu) (.ref T_16) kV_16 dc_16 pm_16 an_16 cd_16 ct_16),sl_16⟩)
  (oy:K.lookup T_16=some ⟨tu_16,td_16,.seq #[.int 1 tk_16] tn_16,ts_16⟩)
  (oz:W.codeIn K cd_16 "Rests.made" = true)
  (pd:W.keepIn K (.ref f_16)=true)
  (bh:W.findIn K (.ref zab) "fits" = some (some (.ref f_17)))
  (eh:W.findIn K (.ref zck) "fits" = some (some (.ref f_17)))
  (ph:W.isFn K (.ref f_17)=true)
  (pi:FnE K f_17 "fits" "Order.fits" zd9)
  (gc:W.findIn K (.ref zav) "__init__" = some (some (.ref f_18)))
  (pj:W.isFn K (.ref f_18)=true)
  (pq:FnE K f_18 "__init__" "Ring.__init__" zct)
  (pz:W.nsIn K mainGlobals "product" = some (some (.ref f_19)))
  (qc:FnE K f_19 "product" "product" zgj)
  (qd:W.nsIn K mainGlobals "absorb" = some (some (.ref f_20)))
  (qe:FnE K f_20 "absorb" "absorb" zh2)
  (qg:W.nsIn K mainGlobals "scaled" = some (some (.ref f_21)))
  (qh:FnE K f_21 "scaled" "scaled" zhp)
  (qi:W.nsIn K mainGlobals "times" = some (some (.ref f_22)))
  (qj:FnE K f_22 "times" "times" zjy)
  (gf:W.findIn K (.ref zav) "unit" = some (some (.ref f_23)))
  (qk:W.isFn K (.ref f_23)=true)
  (ql:FnE K f_23 "unit" "Ring.unit" zet)
  (bv:W.findIn K (.ref zae) "sign" = some (some (.ref f_24)))
  (qm:W.isFn K (.ref f_24)=true)
  (qo:FnE K f_24 "sign" "Reader.sign" zdx)
  (bw:W.findIn K (.ref zae) "passes" = some (some (.ref f_25)))
  (qp:W.isFn K (.ref f_25)=true)
  (qq:FnE K f_25 "passes" "Reader.passes" zcr)
  (cb:W.findIn K (.ref zae) "__init__" = some (some (.ref f_26)))
  (qt:W.isFn K (.ref f_26)=true)
  (qu:FnE K f_26 "__init__" "Reader.__init__" zb1)
  (cf:W.findIn K (.ref zae) "figures" = some (some (.ref f_27)))
  (qv:W.isFn K (.ref f_27)=true)
  (qx:FnE K f_27 "figures" "Reader.figures" zcj)
  (cg:W.findIn K (.ref zae) "number" = some (some (.ref f_28)))
  (qy:W.isFn K (.ref f_28)=true)
  (qz:FnE K f_28 "number" "Reader.number" zcy)
  (ci:W.findIn K (.ref zae) "power" = some (some (.ref f_29)))
  (rc:W.isFn K (.ref f_29)=true)
  (rf:FnE K f_29 "power" "Reader.power" zdj)
  (cj:W.findIn K (.ref zae) "factor" = some (some (.ref f_30)))
  (ri:W.isFn K (.ref f_30)=true)
  (rj:FnE K f_30 "factor" "Reader.factor" zcv)
  (ck:W.findIn K (.ref zae) "factors" = some (some (.ref f_31)))
  (rl:W.isFn K (.ref f_31)=true)
  (rm:FnE K f_31 "factors" "Reader.factors" zci)
  (cm:W.findIn K (.ref zae) "parts" = some (some (.ref f_32)))
  (rn:W.isFn K (.ref f_32)=true)
  (ro:FnE K f_32 "parts" "Reader.parts" zbr)
  (cq:W.findIn K (.ref zae) "bracket" = some (some (.ref f_33)))
  (rp:W.isFn K (.ref f_33)=true)
  (rq:FnE K f_33 "bracket" "Reader.bracket" zcc)
  (cr:W.findIn K (.ref zae) "whole_sum" = some (some (.ref f_34)))
  (se:W.isFn K (.ref f_34)=true)
  (sf:FnE K f_34 "whole_sum" "Reader.whole_sum" zbv)
  (gg:W.findIn K (.ref zav) "constant" = some (some (.ref f_35)))
  (si:W.isFn K (.ref f_35)=true)
  (sk:FnE K f_35 "constant" "Ring.constant" zcs)
  (sr:W.nsIn K mainGlobals "alone" = some (some (.ref f_36)))
  (sw:FnE K f_36 "alone" "alone" zjt)
  (sy:W.nsIn K mainGlobals "sum_of" = some (some (.ref f_37)))
  (tj:FnE K f_37 "sum_of" "sum_of" zfc)
  (tm:W.nsIn K mainGlobals "factor_of" = some (some (.ref f_38)))
  (tq:FnE K f_38 "factor_of" "factor_of" zew)
  (gh:W.findIn K (.ref zav) "letters" = some (some (.ref f_39)))
  (tw:W.isFn K (.ref f_39)=true)
  (tz:FnE K f_39 "letters" "Ring.letters" zde)
  (ua:W.nsIn K mainGlobals "read" = some (some (.ref f_40)))
  (uc:FnE K f_40 "read" "read" znv)
  (ud:W.nsIn K mainGlobals "_law_cell_at" = some (some (.ref f_41)))
  (ue:FnE K f_41 "_law_cell_at" "_law_cell_at" zdc)
  (uf:W.nsIn K mainGlobals "_law_is_prime" = some (some (.ref f_42)))
  (ug:FnE K f_42 "_law_is_prime" "_law_is_prime" zcu)
  (uh:W.nsIn K mainGlobals "_law_field" = some (some (.ref f_43)))
  (ui:FnE K f_43 "_law_field" "_law_field" zee)
  (uj:W.nsIn K mainGlobals "_law_prime" = some (some (.ref f_44)))
  (uk:FnE K f_44 "_law_prime" "_law_prime" zd6)
  (um:W.nsIn K mainGlobals "_law_reduced" = some (some (.ref f_45)))
  (uo:FnE K f_45 "_law_reduced" "_law_reduced" zdh)
  (uq:W.nsIn K mainGlobals "_law_number" = some (some (.ref f_46)))
  (ur:FnE K f_46 "_law_number" "_law_number" zdr)
  (ut:W.nsIn K mainGlobals "_law_add" = some (some (.ref f_47)))
  (uu:FnE K f_47 "_law_add" "_law_add" zfu)
  (uv:W.nsIn K mainGlobals "_law_mul" = some (some (.ref f_48)))
  (uw:FnE K f_48 "_law_mul" "_law_mul" zfs)
  (ux:W.nsIn K mainGlobals "_law_put" = some (some (.ref f_49)))
  (uz:FnE K f_49 "_law_put" "_law_put" zfw)
  (va:W.nsIn K mainGlobals "_law_plus" = some (some (.ref f_50)))
  (vc:FnE K f_50 "_law_plus" "_law_plus" ze3)
  (vd:W.nsIn K mainGlobals "_law_against" = some (some (.ref f_51)))
  (ve:FnE K f_51 "_law_against" "_law_against" zda)
  (vf:W.nsIn K mainGlobals "_law_times" = some (some (.ref f_52)))
  (vg:FnE K f_52 "_law_times" "_law_times" zei)
  (vh:W.nsIn K mainGlobals "_law_whole" = some (some (.ref f_53)))
  (vi:FnE K f_53 "_law_whole" "_law_whole" zeb)
  (vj:W.nsIn K mainGlobals "_law_is_number" = some (some (.ref f_54)))
  (vk:FnE K f_54 "_law_is_number" "_law_is_number" zcg)
  (vm:W.nsIn K mainGlobals "_law_is_poly" = some (some (.ref f_55)))
  (vn:FnE K f_55 "_law_is_poly" "_law_is_poly" zdf)
  (vo:W.nsIn K mainGlobals "_law_is_low" = some (some (.ref f_56)))
  (vq:FnE K f_56 "_law_is_low" "_law_is_low" zdv)
  (vt:W.nsIn K mainGlobals "_law_quotient" = some (some (.ref f_57)))
  (vv:FnE K f_57 "_law_quotient" "_law_quotient" zcx)
  (vw:W.nsIn K mainGlobals "_law_shut" = some (some (.ref f_58)))
  (vy:FnE K f_58 "_law_shut" "_law_shut" ze5)
  (vz:W.nsIn K mainGlobals "_law_sum" = some (some (.ref f_59)))
  (wa:FnE K f_59 "_law_sum" "_law_sum" zft)
  (wc:W.nsIn K mainGlobals "_law_product" = some (some (.ref f_60)))
  (wd:FnE K f_60 "_law_product" "_law_product" zdi)
  (we:W.nsIn K mainGlobals "_law_turned" = some (some (.ref f_61)))
  (wf:FnE K f_61 "_law_turned" "_law_turned" zds)
  (wg:W.nsIn K mainGlobals "_law_letter" = some (some (.ref f_62)))
  (wk:FnE K f_62 "_law_letter" "_law_letter" zdw)
  (wm:W.nsIn K mainGlobals "_law_figures" = some (some (.ref f_63)))
  (wo:FnE K f_63 "_law_figures" "_law_figures" zdb)
  (wq:W.nsIn K mainGlobals "_law_fits" = some (some (.ref f_64)))
  (wr:FnE K f_64 "_law_fits" "_law_fits" ze2)
  (wu:W.nsIn K mainGlobals "_law_top_made" = some (some (.ref f_65)))
  (wv:FnE K f_65 "_law_top_made" "_law_top_made" zc2)
  (ww:W.nsIn K mainGlobals "_law_read" = some (some (.ref f_66)))
  (wx:FnE K f_66 "_law_read" "_law_read" ze1)
  (wy:W.nsIn K mainGlobals "law" = some (some (.ref f_67)))
  (wz:K.lookup f_67=some ⟨oc_67,od_67,.func (W.fnOf "law" "law" (zcn zhl) (zb2 zhl) (zaj zhl) .none kV_67 dc_67 pm_67 an_67 cd_67 ct_67),sl_67⟩)
  (xa:W.codeIn K cd_67 "law" = true)
  (xb:W.keepIn K (.ref f_67)=true)
  (jd:W.nsIn K mainGlobals "NoOver" = some (some (.ref zam)))
  (gi:ExcBaseFacts B_NoOver nid_NoOver ini_NoOver bm_NoOver)
  (gj:W.excIn K zam bm_NoOver nid_NoOver=true)
  (gk:W.exmOne K (.ref zam) (.ref zam)=some true)
  (gq:W.nsIn K mainGlobals "NoPrime" = some (some (.ref zbz)))
  (fg:ExcBaseFacts B_NoPrime nid_NoPrime ini_NoPrime bm_NoPrime)
  (fh:W.excIn K zbz bm_NoPrime nid_NoPrime=true)
  (fi:W.exmOne K (.ref zbz) (.ref zbz)=some true)
  (je:W.nsIn K mainGlobals "NoRing" = some (some (.ref zdy)))
  (gr:ExcBaseFacts B_NoRing nid_NoRing ini_NoRing bm_NoRing)
  (gt:W.excIn K zdy bm_NoRing nid_NoRing=true)
  (gu:W.exmOne K (.ref zdy) (.ref zdy)=some true)
  (jf:W.nsIn K mainGlobals "NoText" = some (some (.ref zax)))
  (gv:ExcBaseFacts B_NoText nid_NoText ini_NoText bm_NoText)
  (gw:W.excIn K zax bm_NoText nid_NoText=true)
  (gz:W.exmOne K (.ref zax) (.ref zax)=some true)
  (cu:W.nsIn K mainGlobals "RoomError" = some (some (.ref zbe)))
  (bi:ExcBaseFacts B_RoomError nid_RoomError ini_RoomError bm_RoomError)
  (bj:W.excIn K zbe bm_RoomError nid_RoomError=true)
  (bn:W.exmOne K (.ref zbe) (.ref zbe)=some true)
  (ls:W.kitOne K (.type "str") (.type "str")=some true)
  (lv:W.kitOne K (.type "dict") (.type "dict")=some true)
  (ma:W.kitOne K (.type "int") (.type "int")=some true)
  (md:W.kitOne K (.type "int") (.type "bool")=some false)
  (mh:W.kitOne K (.type "tuple") (.type "tuple")=some true)
  (jp:W.findIn K (.ref zax) "__getattribute__" = some (some (.builtin "BaseException.__getattribute__")))
  (jq:W.findIn K (.ref zax) "__getattr__" = some none)
  (jr:W.findIn K (.ref zax) "__class__" = some (some (.builtin "object.__class__")))
  (js:W.specialIn K (.builtin "object.__class__") "__get__" = some (some (.builtin "getset_descriptor.__get__")))
  (jt:W.takesIn K (.builtin "object.__class__")=some true)
  (ju:W.mroIn K zax (.type "object")=some true)
  (jv:W.mroIn K zax (.type "BaseException")=some true)
  (jw:W.hasDictIn K zax=true)
  (jx:W.findIn K (.ref zam) "__getattribute__" = some (some (.builtin "BaseException.__getattribute__")))
  (jy:W.findIn K (.ref zam) "__getattr__" = some none)
  (jz:W.findIn K (.ref zam) "__class__" = some (some (.builtin "object.__class__")))
  (kc:W.specialIn K (.builtin "object.__class__") "__get__" = some (some (.builtin "getset_descriptor.__get__")))
  (ke:W.takesIn K (.builtin "object.__class__")=some true)
  (kh:W.mroIn K zam (.type "object")=some true)
  (ki:W.mroIn K zam (.type "BaseException")=some true)
  (kj:W.hasDictIn K zam=true)
  (mi:W.exmOne K (.ref zax) (.ref zbe)=some true)
  (mj:W.exmOne K (.ref zam) (.ref zbe)=some true)
  (xc:W.kitOne K (.ref zax) (.ref zax)=some true)
  (xh:W.kitOne K (.ref zax) (.ref zam)=some false)
  (xj:W.kitOne K (.ref zax) (.type "ValueError")=some true)
  (xm:W.kitOne K (.ref zam) (.ref zax)=some false)
  (xn:W.kitOne K (.ref zam) (.ref zam)=some true)
  (xo:W.kitOne K (.ref zam) (.type "ValueError")=some true)
  (bo:W.nsIn K mainGlobals "ValueError" = some none)
  (mm:W.nsIn K mainGlobals "abs" = some none)
  (lh:W.nsIn K mainGlobals "bool" = some none)
  (lq:W.nsIn K mainGlobals "dict" = some none)
  (mn:W.nsIn K mainGlobals "int" = some none)
  (bp:W.nsIn K mainGlobals "isinstance" = some none)
  (mq:W.nsIn K mainGlobals "len" = some none)
  (lr:W.nsIn K mainGlobals "list" = some none)
  (mr:W.nsIn K mainGlobals "max" = some none)
  (km:W.nsIn K mainGlobals "range" = some none)
  (mt:W.nsIn K mainGlobals "str" = some none)
  (kq:W.nsIn K mainGlobals "tuple" = some none)
  (mv:W.nsIn K mainGlobals "zip" = some none)
  (mw:W.nsIn K mainGlobals "END" = some (some (.str " " tg_END)))
  (ig:W.nsIn K mainGlobals "FIGURES" = some (some (.str "0123456789" tg_FIGURES)))
  (ad:W.nsIn K mainGlobals "GREATEST_PRIME" = some (some (.int 9973 tg_GREATEST_PRIME)))
  (ii:W.nsIn K mainGlobals "LETTERS" = some (some (.str "xyzt" tg_LETTERS)))
  (bq:W.nsIn K mainGlobals "MOST_DEPTH" = some (some (.int 8 tg_MOST_DEPTH)))
  (br:W.nsIn K mainGlobals "MOST_SIGNS" = some (some (.int 300 tg_MOST_SIGNS)))
  (ae:W.nsIn K mainGlobals "NUMBER_FIGURES" = some (some (.int 30 tg_NUMBER_FIGURES)))
  (ag:W.nsIn K mainGlobals "POWER_FIGURES" = some (some (.int 2 tg_POWER_FIGURES)))
  : ∃fd:FuncData,(∀(s:Shared) (v:Value),BindsTo s fd ⟨[v],[]⟩ [("_law_script",v)])/\∀base:Heap,K.In base->base.Ns mainGlobals mg->FnOk l.prog w K mg base CX0 206 fa fd ["_law_script"] (zqn K):=by
 have e:=hfa.symm.trans (W.mg_of X G wy)
 cases e;obtain⟨_,F_0,b_0,k_0⟩:=FnE.ob (ps:=["one","other"]) xq λ_ _ _ _ _ _=>bl2 λ_ _=>rfl
 obtain⟨_,F_1,b_1,k_1⟩:=FnE.ob (ps:=["number"]) xt λ_ _ _ _ _ _=>bl1 λ_=>rfl
 obtain⟨_,F_2,b_2,k_2⟩:=FnE.ob (ps:=["self","prime"]) xw λ_ _ _ _ _ _=>bl2 λ_ _=>rfl
 obtain⟨_,F_3,b_3,k_3⟩:=FnE.ob (ps:=["self"]) xy λ_ _ _ _ _ _=>bl1 λ_=>rfl
 obtain⟨_,F_4,b_4,k_4⟩:=FnE.ob (ps:=["self"]) ya λ_ _ _ _ _ _=>bl1 λ_=>rfl
 obtain⟨_,F_5,b_5,k_5⟩:=FnE.ob (ps:=["self"]) yc λ_ _ _ _ _ _=>bl1 λ_=>rfl
 have F_6:=zgm (st:=zbf) ye yg;have b_6:=F_6.bindsD (ps:=["self","top","bottom"]) (ds:=[]) yf rfl λ_ _ _ _ _ _ us hl=>by
  have hl:us.length=3:=by simpa using hl
  exact match us,hl with | [_,_,_],_=>⟨_,Z,Z⟩
 have bd_6:=F_6.bindsD (ps:=["self","top","bottom"]) (ds:=[.int 1 tk_6]) yf rfl λ_ _ _ _ _ _ us hl=>by
  have hl:us.length=2:=by simpa using hl
  exact match us,hl with | [_,_],_=>⟨_,Z,Z⟩
 obtain⟨_,F_7,b_7,k_7⟩:=FnE.ob (ps:=["self","a","b"]) yj λ_ _ _ _ _ _=>bl3 λ_ _ _=>rfl
 obtain⟨_,F_8,b_8,k_8⟩:=FnE.ob (ps:=["self","a","b"]) yl λ_ _ _ _ _ _=>bl3 λ_ _ _=>rfl
 obtain⟨_,F_9,b_9,k_9⟩:=FnE.ob (ps:=["self","prime"]) yn λ_ _ _ _ _ _=>bl2 λ_ _=>rfl
 obtain⟨_,F_10,b_10,k_10⟩:=FnE.ob (ps:=["self"]) nj λ_ _ _ _ _ _=>bl1 λ_=>rfl
 obtain⟨_,F_11,b_11,k_11⟩:=FnE.ob (ps:=["self"]) nr λ_ _ _ _ _ _=>bl1 λ_=>rfl
 obtain⟨_,F_12,b_12,k_12⟩:=FnE.ob (ps:=["self","a","b"]) og λ_ _ _ _ _ _=>bl3 λ_ _ _=>rfl
 obtain⟨_,F_13,b_13,k_13⟩:=FnE.ob (ps:=["self","a","b"]) oi λ_ _ _ _ _ _=>bl3 λ_ _ _=>rfl
 obtain⟨_,F_14,b_14,k_14⟩:=FnE.ob (ps:=["self","a"]) om λ_ _ _ _ _ _=>bl2 λ_ _=>rfl
 obtain⟨_,F_15,b_15,k_15⟩:=FnE.ob (ps:=["self","a","b"]) ou λ_ _ _ _ _ _=>bl3 λ_ _ _=>rfl
 have F_16:=zgm (st:=zbu) ox oz;have b_16:=F_16.bindsD (ps:=["self","top","bottom"]) (ds:=[]) oy rfl λ_ _ _ _ _ _ us hl=>by
  have hl:us.length=3:=by simpa using hl
  exact match us,hl with | [_,_,_],_=>⟨_,Z,Z⟩
 have bd_16:=F_16.bindsD (ps:=["self","top","bottom"]) (ds:=[.int 1 tk_16]) oy rfl λ_ _ _ _ _ _ us hl=>by
  have hl:us.length=2:=by simpa using hl
  exact match us,hl with | [_,_],_=>⟨_,Z,Z⟩
 obtain⟨_,F_17,b_17,k_17⟩:=FnE.ob (ps:=["self","many"]) pi λ_ _ _ _ _ _=>bl2 λ_ _=>rfl
 obtain⟨_,F_18,b_18,k_18⟩:=FnE.ob (ps:=["self","many","field","order"]) pq λ_ _ _ _ _ _=>bl4 λ_ _ _ _=>rfl
 obtain⟨_,F_19,b_19,k_19⟩:=FnE.ob (ps:=["one","other"]) qc λ_ _ _ _ _ _=>bl2 λ_ _=>rfl
 obtain⟨_,F_20,b_20,k_20⟩:=FnE.ob (ps:=["ring","total","f"]) qe λ_ _ _ _ _ _=>bl3 λ_ _ _=>rfl
 obtain⟨_,F_21,b_21,k_21⟩:=FnE.ob (ps:=["ring","number","term","f"]) qh λ_ _ _ _ _ _=>bl4 λ_ _ _ _=>rfl
 obtain⟨_,F_22,b_22,k_22⟩:=FnE.ob (ps:=["ring","f","g"]) qj λ_ _ _ _ _ _=>bl3 λ_ _ _=>rfl
 obtain⟨_,F_23,b_23,k_23⟩:=FnE.ob (ps:=["self"]) ql λ_ _ _ _ _ _=>bl1 λ_=>rfl
 obtain⟨_,F_24,b_24,k_24⟩:=FnE.ob (ps:=["self"]) qo λ_ _ _ _ _ _=>bl1 λ_=>rfl
 obtain⟨_,F_25,b_25,k_25⟩:=FnE.ob (ps:=["self","sign"]) qq λ_ _ _ _ _ _=>bl2 λ_ _=>rfl
 obtain⟨_,F_26,b_26,k_26⟩:=FnE.ob (ps:=["self","unknowns","text"]) qu λ_ _ _ _ _ _=>bl3 λ_ _ _=>rfl
 obtain⟨_,F_27,b_27,k_27⟩:=FnE.ob (ps:=["self","most"]) qx λ_ _ _ _ _ _=>bl2 λ_ _=>rfl
 obtain⟨_,F_28,b_28,k_28⟩:=FnE.ob (ps:=["self"]) qz λ_ _ _ _ _ _=>bl1 λ_=>rfl
 obtain⟨_,F_29,b_29,k_29⟩:=FnE.ob (ps:=["self"]) rf λ_ _ _ _ _ _=>bl1 λ_=>rfl
 obtain⟨_,F_30,b_30,k_30⟩:=FnE.ob (ps:=["self"]) rj λ_ _ _ _ _ _=>bl1 λ_=>rfl
 obtain⟨_,F_31,b_31,k_31⟩:=FnE.ob (ps:=["self"]) rm λ_ _ _ _ _ _=>bl1 λ_=>rfl
 obtain⟨_,F_32,b_32,k_32⟩:=FnE.ob (ps:=["self"]) ro λ_ _ _ _ _ _=>bl1 λ_=>rfl
 obtain⟨_,F_33,b_33,k_33⟩:=FnE.ob (ps:=["self"]) rq λ_ _ _ _ _ _=>bl1 λ_=>rfl
 obtain⟨_,F_34,b_34,k_34⟩:=FnE.ob (ps:=["self"]) sf λ_ _ _ _ _ _=>bl1 λ_=>rfl
 obtain⟨_,F_35,b_35,k_35⟩:=FnE.ob (ps:=["self","number"]) sk λ_ _ _ _ _ _=>bl2 λ_ _=>rfl
 obtain⟨_,F_36,b_36,k_36⟩:=FnE.ob (ps:=["many","at","power"]) sw λ_ _ _ _ _ _=>bl3 λ_ _ _=>rfl
 obtain⟨_,F_37,b_37,k_37⟩:=FnE.ob (ps:=["ring","parts"]) tj λ_ _ _ _ _ _=>bl2 λ_ _=>rfl
 obtain⟨_,F_38,b_38,k_38⟩:=FnE.ob (ps:=["ring","factor"]) tq λ_ _ _ _ _ _=>bl2 λ_ _=>rfl
 obtain⟨_,F_39,b_39,k_39⟩:=FnE.ob (ps:=["self"]) tz λ_ _ _ _ _ _=>bl1 λ_=>rfl
 obtain⟨_,F_40,b_40,k_40⟩:=FnE.ob (ps:=["ring","text"]) uc λ_ _ _ _ _ _=>bl2 λ_ _=>rfl
 obtain⟨_,F_41,b_41,k_41⟩:=FnE.ob (ps:=["_law_script","_law_k"]) ue λ_ _ _ _ _ _=>bl2 λ_ _=>rfl
 obtain⟨_,F_42,b_42,k_42⟩:=FnE.ob (ps:=["_law_number_here"]) ug λ_ _ _ _ _ _=>bl1 λ_=>rfl
 obtain⟨_,F_43,b_43,k_43⟩:=FnE.ob (ps:=["_law_p"]) ui λ_ _ _ _ _ _=>bl1 λ_=>rfl
 obtain⟨_,F_44,b_44,k_44⟩:=FnE.ob (ps:=["_law_cell"]) uk λ_ _ _ _ _ _=>bl1 λ_=>rfl
 obtain⟨_,F_45,b_45,k_45⟩:=FnE.ob (ps:=["_law_top","_law_bottom"]) uo λ_ _ _ _ _ _=>bl2 λ_ _=>rfl
 obtain⟨_,F_46,b_46,k_46⟩:=FnE.ob (ps:=["_law_p","_law_top","_law_bottom"]) ur λ_ _ _ _ _ _=>bl3 λ_ _ _=>rfl
 obtain⟨_,F_47,b_47,k_47⟩:=FnE.ob (ps:=["_law_p","_law_a","_law_b"]) uu λ_ _ _ _ _ _=>bl3 λ_ _ _=>rfl
 obtain⟨_,F_48,b_48,k_48⟩:=FnE.ob (ps:=["_law_p","_law_a","_law_b"]) uw λ_ _ _ _ _ _=>bl3 λ_ _ _=>rfl
 obtain⟨_,F_49,b_49,k_49⟩:=FnE.ob (ps:=["_law_p","_law_f","_law_term","_law_number_here"]) uz λ_ _ _ _ _ _=>bl4 λ_ _ _ _=>rfl
 obtain⟨_,F_50,b_50,k_50⟩:=FnE.ob (ps:=["_law_p","_law_f","_law_g"]) vc λ_ _ _ _ _ _=>bl3 λ_ _ _=>rfl
 obtain⟨_,F_51,b_51,k_51⟩:=FnE.ob (ps:=["_law_p","_law_f"]) ve λ_ _ _ _ _ _=>bl2 λ_ _=>rfl
 obtain⟨_,F_52,b_52,k_52⟩:=FnE.ob (ps:=["_law_p","_law_f","_law_g"]) vg λ_ _ _ _ _ _=>bl3 λ_ _ _=>rfl
 obtain⟨_,F_53,b_53,k_53⟩:=FnE.ob (ps:=["_law_found"]) vi λ_ _ _ _ _ _=>bl1 λ_=>rfl
 obtain⟨_,F_54,b_54,k_54⟩:=FnE.ob (ps:=["_law_p","_law_found"]) vk λ_ _ _ _ _ _=>bl2 λ_ _=>rfl
 obtain⟨_,F_55,b_55,k_55⟩:=FnE.ob (ps:=["_law_p","_law_found"]) vn λ_ _ _ _ _ _=>bl2 λ_ _=>rfl
 obtain⟨_,F_56,b_56,k_56⟩:=FnE.ob (ps:=["_law_p","_law_bottom"]) vq λ_ _ _ _ _ _=>bl2 λ_ _=>rfl
 obtain⟨_,F_57,b_57,k_57⟩:=FnE.ob (ps:=["_law_p","_law_top","_law_bottom"]) vv λ_ _ _ _ _ _=>bl3 λ_ _ _=>rfl
 obtain⟨_,F_58,b_58,k_58⟩:=FnE.ob (ps:=["_law_one"]) vy λ_ _ _ _ _ _=>bl1 λ_=>rfl
 obtain⟨_,F_59,b_59,k_59⟩:=FnE.ob (ps:=["_law_p","_law_sign","_law_one","_law_other"]) wa λ_ _ _ _ _ _=>bl4 λ_ _ _ _=>rfl
 obtain⟨_,F_60,b_60,k_60⟩:=FnE.ob (ps:=["_law_p","_law_sign","_law_one","_law_other"]) wd λ_ _ _ _ _ _=>bl4 λ_ _ _ _=>rfl
 obtain⟨_,F_61,b_61,k_61⟩:=FnE.ob (ps:=["_law_p","_law_one"]) wf λ_ _ _ _ _ _=>bl2 λ_ _=>rfl
 obtain⟨_,F_62,b_62,k_62⟩:=FnE.ob (ps:=["_law_p","_law_many","_law_cell"]) wk λ_ _ _ _ _ _=>bl3 λ_ _ _=>rfl
 obtain⟨_,F_63,b_63,k_63⟩:=FnE.ob (ps:=["_law_p","_law_many","_law_cell","_law_other","_law_low"]) wo λ_ _ _ _ _ _=>bl5 λ_ _ _ _ _=>rfl
 obtain⟨_,F_64,b_64,k_64⟩:=FnE.ob (ps:=["_law_one"]) wr λ_ _ _ _ _ _=>bl1 λ_=>rfl
 obtain⟨_,F_65,b_65,k_65⟩:=FnE.ob (ps:=["_law_p","_law_pile","_law_cell"]) wv λ_ _ _ _ _ _=>bl3 λ_ _ _=>rfl
 obtain⟨_,F_66,b_66,k_66⟩:=FnE.ob (ps:=["_law_ring","_law_text"]) wx λ_ _ _ _ _ _=>bl2 λ_ _=>rfl
 have F_67:=zgm (st:=zhl) wz xa;have b_67:=F_67.binds (ps:=["_law_script"]) λ_ _ _ _ _ _=>bl1 λ_=>rfl
 refine⟨W.fnOf "law" "law" (zcn zhl) (zb2 zhl) (zaj zhl) .none kV_67 dc_67 pm_67 an_67 cd_67 ct_67,λs v=>.of_eq rfl,λbase kb nb=>?_⟩;have T:Txt l.prog w K mg base zav zag zak zck zab zae:=⟨W.mg_none_of X G bo,W.mg_none_of X G mm,W.mg_none_of X G lh,W.mg_none_of X G lq,W.mg_none_of X G mn,W.mg_none_of X G bp,W.mg_none_of X G mq,W.mg_none_of X G lr,W.mg_none_of X G mr,W.mg_none_of X G km,W.mg_none_of X G mt,W.mg_none_of X G kq,W.mg_none_of X G mv,⟨jg,jh,ji,jj⟩,W.mg_of X G kt,av,aj,ak,⟨aw,ay,az,ba⟩,W.mg_of X G bu,aa,⟨ij,ik,im,io⟩,W.mg_of X G jn,ah,⟨iw,iz,ja,jb⟩,W.mg_of X G jo,⟨cv,cw,cx,cy⟩,W.mg_of X G fj,⟨cz,dg,dh⟩,⟨fk,fo,fq,ft⟩,W.mg_of X G jc,ac,ai,bg,af,⟨_,W.mg_of X G mw⟩,⟨_,W.mg_of X G ig⟩,⟨_,W.mg_of X G ad⟩,⟨_,W.mg_of X G ii⟩,⟨_,W.mg_of X G bq⟩,⟨_,W.mg_of X G br⟩,⟨_,W.mg_of X G ae⟩,⟨_,W.mg_of X G ag⟩,ls,lv,ma,md,mh⟩;have x_NoOver:Exc K mg base "NoOver" zam:=⟨⟨_,_,_,_,zib kb nb jd gj,gi⟩,W.mg_of X G jd,gk⟩;have x_NoPrime:Exc K mg base "NoPrime" zbz:=⟨⟨_,_,_,_,zib kb nb gq fh,fg⟩,W.mg_of X G gq,fi⟩;have x_NoRing:Exc K mg base "NoRing" zdy:=⟨⟨_,_,_,_,zib kb nb je gt,gr⟩,W.mg_of X G je,gu⟩;have x_NoText:Exc K mg base "NoText" zax:=⟨⟨_,_,_,_,zib kb nb jf gw,gv⟩,W.mg_of X G jf,gz⟩;have x_RoomError:Exc K mg base "RoomError" zbe:=⟨⟨_,_,_,_,zib kb nb cu bj,bi⟩,W.mg_of X G cu,bn⟩;have G_Shared:=zn7 T F_0;have c_Shared:Cal _ _ _ _ _ _ _ _ _ _ _:=⟨_,_,G_Shared,b_0,k_0,W.mg_of X G xp⟩;have G_Prime:=zqm T F_1;have c_Prime:Cal _ _ _ _ _ _ _ _ _ _ _:=⟨_,_,G_Prime,b_1,k_1,W.mg_of X G xr⟩;have G_FieldInit:=zio T F_2;have q_FieldInit:CCal _ _ _ _ _ _ _ _ _ _ _ _:=⟨_,_,_,G_FieldInit,b_2,⟨⟨_,my,mz⟩,nh,k_2⟩,W.mg_of X G mx⟩;have G_FracInit:=zj4 T F_3 q_FieldInit;have k_FracInit:Mak _ _ _ _ _ _ _ _ _ _ _ _:=⟨⟨_,_,G_FracInit,b_3,⟨bc,al,xx,bf⟩⟩,T.mg_Fractions⟩;have G_Nought:=zni T F_4;have mf_Nought:MCal l.prog w K mg base CX0 1 zag "nought" ["self"] [] (spNo 0 0 (AtF zag)):=⟨⟨_,_,((G_Nought).imp zm8).mono (by decide),b_4,⟨am,xz,k_4⟩⟩,T.cl_Fractions⟩;have G_One:=zvf T F_5;have mf_One:MCal l.prog w K mg base CX0 1 zag "one" ["self"] [] (spNo 1 0 (AtF zag)):=⟨⟨_,_,((G_One).imp zm8).mono (by decide),b_5,⟨ao,yb,k_5⟩⟩,T.cl_Fractions⟩;have G_Made:=zr8 T F_6 c_Shared x_NoOver;have mf_Made:MCal l.prog w K mg base (CXe l.prog w) 6 zag "made" ["self","top","bottom"] [] (zia 0 (AtF zag) zam):=⟨⟨_,_,((G_Made).imp zm1).mono (by decide),b_6,⟨aq,yd,yh⟩⟩,T.cl_Fractions⟩;have mf_Made1:MCal l.prog w K mg base (CXe l.prog w) 6 zag "made" ["self","top","bottom"] [.int 1 tk_6] (zia 0 (AtF zag) zam):=⟨⟨_,_,((G_Made).imp zm1).mono (by decide),bd_6,⟨aq,yd,yh⟩⟩,T.cl_Fractions⟩;have G_PlusF:=zp1 T F_7 c_Shared;have mf_PlusF:MCal l.prog w K mg base CX0 3 zag "plus" ["self","a","b"] [] (spPl 0 (AtF zag)):=⟨⟨_,_,((G_PlusF).imp zsf).mono (by decide),b_7,⟨ar,yi,k_7⟩⟩,T.cl_Fractions⟩;have G_TimesF:=znc T F_8 c_Shared;have mf_TimesF:MCal l.prog w K mg base CX0 3 zag "times" ["self","a","b"] [] (spTi 0 (AtF zag)):=⟨⟨_,_,((G_TimesF).imp zt6).mono (by decide),b_8,⟨au,yk,k_8⟩⟩,T.cl_Fractions⟩;have G_RestsInit:=zig T F_9 c_Prime q_FieldInit x_NoPrime
 have k_RestsInit:Mak _ _ _ _ _ _ _ _ _ _ _ _:=⟨⟨_,_,G_RestsInit,b_9,⟨iq,fy,ym,ir⟩⟩,T.mg_Rests⟩;have G_NoughtR:=zlp T F_10;have mf_NoughtR:∀n:Int,K3.Pr n->MCal l.prog w K mg base CX0 1 zak "nought" ["self"] [] (spNo 0 n (AtR zak n)):=λn hn=>⟨⟨_,_,((G_NoughtR).imp (zl6 hn (by decide) (by decide))).mono (by decide),b_10,⟨di,ni,k_10⟩⟩,T.cl_Rests⟩
 have G_OneR:=zr7 T F_11 ;have mf_OneR:∀n:Int,K3.Pr n->MCal l.prog w K mg base CX0 1 zak "one" ["self"] [] (spNo 1 n (AtR zak n)):=λn hn=>⟨⟨_,_,((G_OneR).imp (zl6 hn (by decide) (by decide))).mono (by decide),b_11,⟨dm,nk,k_11⟩⟩,T.cl_Rests⟩
 have G_PlusR:=zqj T F_12 ;have mf_PlusR:∀n:Int,K3.Pr n->MCal l.prog w K mg base CX0 3 zak "plus" ["self","a","b"] [] (spPl n (AtR zak n)):=λn hn=>⟨⟨_,_,((G_PlusR).imp (ztk hn)).mono (by decide),b_12,⟨dq,nw,k_12⟩⟩,T.cl_Rests⟩
 have G_TimesR:=zna T F_13 ;have m_TimesR:MCal _ _ _ _ _ _ _ _ _ _ _ _:=⟨⟨_,_,G_TimesR,b_13,⟨dt,oh,k_13⟩⟩,T.cl_Rests⟩;have mf_TimesR:∀n:Int,K3.Pr n->MCal l.prog w K mg base CX0 3 zak "times" ["self","a","b"] [] (spTi n (AtR zak n)):=λn hn=>⟨⟨_,_,((G_TimesR).imp (zth hn)).mono (by decide),b_13,⟨dt,oh,k_13⟩⟩,T.cl_Rests⟩
 have G_TuR:=zxu T F_14 x_NoOver ;have m_TuR:MCal _ _ _ _ _ _ _ _ _ _ _ _:=⟨⟨_,_,G_TuR,b_14,⟨du,oj,k_14⟩⟩,T.cl_Rests⟩;have G_OvR:=zxc T F_15 m_TuR m_TimesR;have m_OvR:MCal _ _ _ _ _ _ _ _ _ _ _ _:=⟨⟨_,_,G_OvR,b_15,⟨dy,ot,k_15⟩⟩,T.cl_Rests⟩;have G_MadeR:=zot T F_16 m_OvR;have mf_MadeR:∀n:Int,K3.Pr n->MCal l.prog w K mg base (CXe l.prog w) 6 zak "made" ["self","top","bottom"] [] (zia n (AtR zak n) zam):=λn hn=>⟨⟨_,_,((G_MadeR).imp (zoj hn)).mono (by decide),b_16,⟨dz,ow,pd⟩⟩,T.cl_Rests⟩
 have mf_MadeR1:∀n:Int,K3.Pr n->MCal l.prog w K mg base (CXe l.prog w) 6 zak "made" ["self","top","bottom"] [.int 1 tk_16] (zia n (AtR zak n) zam):=λn hn=>⟨⟨_,_,((G_MadeR).imp (zoj hn)).mono (by decide),bd_16,⟨dz,ow,pd⟩⟩,T.cl_Rests⟩
 have hfld:∀n:Int,n<=9973->(n=0\/K3.Pr n)->∃C,FldP l.prog w K mg base C (AtN zag zak n) n:=by
  rintro n n1 (rfl | n2)
  ·exact⟨zag,zvg mf_Nought mf_PlusF mf_TimesF⟩
  ·exact⟨zak,zux n2 (mf_NoughtR n n2) (mf_PlusR n n2) (mf_TimesR n n2)⟩
 have hfle:∀n:Int,n<=9973->(n=0\/K3.Pr n)->∃C,FldE l.prog w K mg base zam C (AtN zag zak n) n:=by
  rintro n n1 (rfl | n2)
  ·have e:AtN zag zak 0=AtF zag:=Yl rfl;rw[e];exact⟨zag,λh=>h,mf_One,mf_Nought,mf_Made,⟨_,mf_Made1⟩⟩
  ·have e:AtN zag zak n=AtR zak n:=Yh (λz=>by have:=n2.1;omega);rw[e];exact⟨zak,λh=>⟨_,h.choose_spec.1⟩,mf_OneR n n2,mf_NoughtR n n2,mf_MadeR n n2,⟨_,mf_MadeR1 n n2⟩⟩
 have fit_Degrees:MCal l.prog w K mg base CX0 1 zab "fits" ["self","many"] [] ztb:=⟨⟨_,_,zps T F_17,b_17,⟨bh,ph,k_17⟩⟩,T.cl_Degrees⟩;have G_RgInit:=zmu T F_18 x_NoRing fit_Degrees;have k_RgInit:Mak _ _ _ _ _ _ _ _ _ _ _ _:=⟨⟨_,_,G_RgInit,b_18,⟨jk,gc,pj,jl⟩⟩,T.mg_Ring⟩;have G_Prod:=zt0 T F_19;have c_Prod:Cal _ _ _ _ _ _ _ _ _ _ _:=⟨_,_,G_Prod,b_19,k_19,W.mg_of X G pz⟩;have G_Absorb:=zmg T F_20 hfld;have c_Absorb:Cal _ _ _ _ _ _ _ _ _ _ _:=⟨_,_,G_Absorb,b_20,k_20,W.mg_of X G qd⟩;have G_Scal:=ztx T F_21 c_Prod hfld;have c_Scal:Cal _ _ _ _ _ _ _ _ _ _ _:=⟨_,_,G_Scal,b_21,k_21,W.mg_of X G qg⟩;have G_TimP:=zsd T F_22 c_Scal c_Absorb;have c_TimP:Cal _ _ _ _ _ _ _ _ _ _ _:=⟨_,_,G_TimP,b_22,k_22,W.mg_of X G qi⟩;have G_Un:=zyw T F_23;have m_Un:MCal _ _ _ _ _ _ _ _ _ _ _ _:=⟨⟨_,_,G_Un,b_23,⟨gf,qk,k_23⟩⟩,T.cl_Ring⟩;have G_Sig:=zvb T F_24;have m_Sig:MCal _ _ _ _ _ _ _ _ _ _ _ _:=⟨⟨_,_,G_Sig,b_24,⟨bv,qm,k_24⟩⟩,T.cl_Reader⟩;have G_Pas:=zu3 T F_25 m_Sig;have m_Pas:MCal _ _ _ _ _ _ _ _ _ _ _ _:=⟨⟨_,_,G_Pas,b_25,⟨bw,qp,k_25⟩⟩,T.cl_Reader⟩;have G_RI:=zyr T F_26;have k_RI:Mak _ _ _ _ _ _ _ _ _ _ _ _:=⟨⟨_,_,G_RI,b_26,⟨fu,cb,qt,fw⟩⟩,T.mg_Reader⟩;have G_Fig:=zu7 T F_27 m_Sig x_NoText;have m_Fig:MCal _ _ _ _ _ _ _ _ _ _ _ _:=⟨⟨_,_,G_Fig,b_27,⟨cf,qv,k_27⟩⟩,T.cl_Reader⟩;have G_Nu:=zy3 T F_28 m_Fig m_Pas;have m_Nu:MCal _ _ _ _ _ _ _ _ _ _ _ _:=⟨⟨_,_,G_Nu,b_28,⟨cg,qy,k_28⟩⟩,T.cl_Reader⟩;have G_Po:=zy6 T F_29 m_Sig m_Pas m_Fig;have m_Po:MCal _ _ _ _ _ _ _ _ _ _ _ _:=⟨⟨_,_,G_Po,b_29,⟨ci,rc,k_29⟩⟩,T.cl_Reader⟩;have G_Fac:=fun(q e:Nat) (mB:MCal l.prog w K mg base (CXe l.prog w) q zae "bracket" ["self"] [] (zos zae e))=>zvc T F_30 m_Sig m_Nu m_Po m_Pas x_NoText mB
 have G_Fcs:=fun(q e:Nat) (mF:MCal l.prog w K mg base (CXe l.prog w) q zae "factor" ["self"] [] (spFc zae e))=>zvh T F_31 m_Pas mF
 have G_Pts:=fun(q e:Nat) (mF:MCal l.prog w K mg base (CXe l.prog w) q zae "factors" ["self"] [] (zo7 zae e))=>zxz T F_32 m_Pas m_Sig mF
 have G_Brk:=fun(q e:Nat) (sP:Sp) (mP:MCal l.prog w K mg base (CXe l.prog w) q zae "parts" ["self"] [] sP) (hP:e<8->sP=zix zae (e+1))=>zxq T F_33 m_Pas x_NoText mP hP
 have G_PtV:=zv2 T F_32 ;have hrec:∀(q e:Nat) (sP:Sp),MCal l.prog w K mg base (CXe l.prog w) q zae "parts" ["self"] [] sP->e<=8->(e<8->sP=zix zae (e+1))->MCal l.prog w K mg base (CXe l.prog w) (q+13) zae "parts" ["self"] [] (zix zae e):=λq e sP mP he hP=>by
  have mB:MCal l.prog w K mg base (CXe l.prog w) (q+3) zae "bracket" ["self"] [] (zos zae e):=⟨⟨_,_,G_Brk q e sP mP hP,b_33,⟨cq,rp,k_33⟩⟩,T.cl_Reader⟩;have mf:MCal l.prog w K mg base (CXe l.prog w) (q+3+4) zae "factor" ["self"] [] (spFc zae e):=⟨⟨_,_,G_Fac _ e mB,b_30,⟨cj,ri,k_30⟩⟩,T.cl_Reader⟩;have mfs:MCal l.prog w K mg base (CXe l.prog w) (q+3+4+3) zae "factors" ["self"] [] (zo7 zae e):=⟨⟨_,_,G_Fcs _ e mf,b_31,⟨ck,rl,k_31⟩⟩,T.cl_Reader⟩;exact⟨⟨_,_,G_Pts _ e mfs,b_32,⟨cm,rn,k_32⟩⟩,T.cl_Reader⟩
 have hdep:∀d:Nat,d<=8->MCal l.prog w K mg base (CXe l.prog w) (14+13*d) zae "parts" ["self"] [] (zix zae (8-d)):=by
  intro d;induction d with
  | zero=>exact λ_=>hrec 1 8 _ ⟨⟨_,_,G_PtV,b_32,⟨cm,rn,k_32⟩⟩,T.cl_Reader⟩ (Yi _) (λh=>absurd h (by decide))
  | succ d ih=>
   intro hd;rw[show 14+13*(d+1)=14+13*d+13 by omega];exact hrec _ _ _ (ih (by omega)) (by omega) (λ_=>by rw[show 8-(d+1)+1=8-d by omega])
 have mP0:MCal l.prog w K mg base (CXe l.prog w) 130 zae "parts" ["self"] [] (zix zae 0):=by
  obtain⟨⟨f,fd,F,r⟩,c⟩:=hdep 8 (Yi _);exact⟨⟨f,fd,F.mono (by decide),r⟩,c⟩
 have G_Ws:=zyb T F_34 m_Sig x_NoText mP0;have m_Ws:MCal _ _ _ _ _ _ _ _ _ _ _ _:=⟨⟨_,_,G_Ws,b_34,⟨cr,se,k_34⟩⟩,T.cl_Reader⟩;have G_Con:=zws T F_35 m_Un hfle;have m_Con:MCal _ _ _ _ _ _ _ _ _ _ _ _:=⟨⟨_,_,G_Con,b_35,⟨gg,si,k_35⟩⟩,T.cl_Ring⟩;have G_Alone:=zpx T F_36;have c_Alone:Cal _ _ _ _ _ _ _ _ _ _ _:=⟨_,_,G_Alone,b_36,k_36,W.mg_of X G sr⟩;have G_SumV:=zse T F_37;have G_FO:=fun(q n:Nat) (sS:Sp) (cS:Cal l.prog w K mg base (CXe l.prog w) q "sum_of" ["ring","parts"] [] sS) (hS:∀n',n=n'+1->sS=zik zam zav zag zak zab zab zab zab n')=>zye T F_38 m_Con c_Alone hfle cS hS
 have G_Sum:=fun(q n:Nat) (cF0:Cal l.prog w K mg base (CXe l.prog w) q "factor_of" ["ring","factor"] [] (spFO zam zav zag zak zab zab zab zab n))=>zum T F_37 m_Con c_TimP c_Absorb hfle cF0
 have hrs:∀(q n:Nat) (sS:Sp),Cal l.prog w K mg base (CXe l.prog w) q "sum_of" ["ring","parts"] [] sS->(∀n',n=n'+1->sS=zik zam zav zag zak zab zab zab zab n')->Cal l.prog w K mg base (CXe l.prog w) (q+18) "sum_of" ["ring","parts"] [] (zik zam zav zag zak zab zab zab zab n):=λq n sS cS hS=>by
  have cF:Cal l.prog w K mg base (CXe l.prog w) (q+9) "factor_of" ["ring","factor"] [] (spFO zam zav zag zak zab zab zab zab n):=⟨_,_,G_FO q n sS cS hS,b_38,k_38,W.mg_of X G tm⟩;exact⟨_,_,G_Sum _ n cF,b_37,k_37,W.mg_of X G sy⟩
 have hsum:∀n:Nat,Cal l.prog w K mg base (CXe l.prog w) (19+18*n) "sum_of" ["ring","parts"] [] (zik zam zav zag zak zab zab zab zab n):=by
  intro n;induction n with
  | zero=>exact hrs 1 0 _ ⟨_,_,G_SumV,b_37,k_37,W.mg_of X G sy⟩ (λ_ h=>absurd h (by omega))
  | succ n ih=>
   rw[show 19+18*(n+1)=19+18*n+18 by omega];exact hrs _ _ _ ih (λn' h=>by rw[show n'=n by omega])
 have cS0:Cal l.prog w K mg base (CXe l.prog w) 200 "sum_of" ["ring","parts"] [] (zik zam zav zag zak zab zab zab zab 8):=by
  obtain⟨f,fd,F,r⟩:=hsum 8;exact⟨f,fd,F.mono (by decide),r⟩
 have G_Letters:=zls T F_39 ;have m_Letters:MCal _ _ _ _ _ _ _ _ _ _ _ _:=⟨⟨_,_,G_Letters,b_39,⟨gh,tw,k_39⟩⟩,T.cl_Ring⟩;have G_Read:=zt9 T F_40 m_Ws m_Letters k_RI x_NoText cS0;have c_Read:Cal _ _ _ _ _ _ _ _ _ _ _:=⟨_,_,G_Read,b_40,k_40,W.mg_of X G ua⟩;have G_Cell:=zsa T F_41;have c_Cell:Cal _ _ _ _ _ _ _ _ _ _ _:=⟨_,_,G_Cell,b_41,k_41,W.mg_of X G ud⟩;have G_LPrime:=znf T F_42;have c_LPrime:Cal _ _ _ _ _ _ _ _ _ _ _:=⟨_,_,G_LPrime,b_42,k_42,W.mg_of X G uf⟩;have G_LFld:=zss T F_43 k_RestsInit k_FracInit;have c_LFld:Cal _ _ _ _ _ _ _ _ _ _ _:=⟨_,_,G_LFld,b_43,k_43,W.mg_of X G uh⟩;have G_LPr:=zv1 T F_44 c_LPrime;have c_LPr:Cal _ _ _ _ _ _ _ _ _ _ _:=⟨_,_,G_LPr,b_44,k_44,W.mg_of X G uj⟩;have G_Red:=zus T F_45;have c_Red:Cal _ _ _ _ _ _ _ _ _ _ _:=⟨_,_,G_Red,b_45,k_45,W.mg_of X G um⟩;have G_Num:=zx2 T F_46 c_Red;have c_Num:Cal _ _ _ _ _ _ _ _ _ _ _:=⟨_,_,G_Num,b_46,k_46,W.mg_of X G uq⟩;have G_Add:=zx0 T F_47 c_Red;have c_Add:Cal _ _ _ _ _ _ _ _ _ _ _:=⟨_,_,G_Add,b_47,k_47,W.mg_of X G ut⟩;have G_Mul:=zva T F_48 c_Red;have c_Mul:Cal _ _ _ _ _ _ _ _ _ _ _:=⟨_,_,G_Mul,b_48,k_48,W.mg_of X G uv⟩;have G_Put:=zxj T F_49 c_Num c_Add;have c_Put:Cal _ _ _ _ _ _ _ _ _ _ _:=⟨_,_,G_Put,b_49,k_49,W.mg_of X G ux⟩;have G_Pls:=zwi T F_50 c_Put;have c_Pls:Cal _ _ _ _ _ _ _ _ _ _ _:=⟨_,_,G_Pls,b_50,k_50,W.mg_of X G va⟩;have G_Aga:=zwy T F_51 c_Num c_Mul;have c_Aga:Cal _ _ _ _ _ _ _ _ _ _ _:=⟨_,_,G_Aga,b_51,k_51,W.mg_of X G vd⟩;have G_Tms:=zvd T F_52 c_Mul c_Put;have c_Tms:Cal _ _ _ _ _ _ _ _ _ _ _:=⟨_,_,G_Tms,b_52,k_52,W.mg_of X G vf⟩;have G_Whole:=zp6 T F_53;have c_Whole:Cal _ _ _ _ _ _ _ _ _ _ _:=⟨_,_,G_Whole,b_53,k_53,W.mg_of X G vh⟩;have G_IsN:=zvs T F_54 c_Whole;have c_IsN:Cal _ _ _ _ _ _ _ _ _ _ _:=⟨_,_,G_IsN,b_54,k_54,W.mg_of X G vj⟩;have G_IsP:=zxs T F_55 c_IsN c_Whole;have c_IsP:Cal _ _ _ _ _ _ _ _ _ _ _:=⟨_,_,G_IsP,b_55,k_55,W.mg_of X G vm⟩;have G_Low:=zwe T F_56;have c_Low:Cal _ _ _ _ _ _ _ _ _ _ _:=⟨_,_,G_Low,b_56,k_56,W.mg_of X G vo⟩;have G_Quo:=zxm T F_57 c_Red;have c_Quo:Cal _ _ _ _ _ _ _ _ _ _ _:=⟨_,_,G_Quo,b_57,k_57,W.mg_of X G vt⟩;have G_Shu:=zxx T F_58;have c_Shu:Cal _ _ _ _ _ _ _ _ _ _ _:=⟨_,_,G_Shu,b_58,k_58,W.mg_of X G vw⟩;have G_Su:=zyq T F_59 c_Shu c_Aga c_Pls;have c_Su:Cal _ _ _ _ _ _ _ _ _ _ _:=⟨_,_,G_Su,b_59,k_59,W.mg_of X G vz⟩;have G_Pd:=zyh T F_60 c_Shu c_Tms;have c_Pd:Cal _ _ _ _ _ _ _ _ _ _ _:=⟨_,_,G_Pd,b_60,k_60,W.mg_of X G wc⟩;have G_Tu:=zyz T F_61 c_Shu c_Aga;have c_Tu:Cal _ _ _ _ _ _ _ _ _ _ _:=⟨_,_,G_Tu,b_61,k_61,W.mg_of X G we⟩;have G_Let:=zxt T F_62 c_Num;have c_Let:Cal _ _ _ _ _ _ _ _ _ _ _:=⟨_,_,G_Let,b_62,k_62,W.mg_of X G wg⟩;have G_Fgr:=zuh T F_63 c_Low c_Quo c_Num;have c_Fgr:Cal _ _ _ _ _ _ _ _ _ _ _:=⟨_,_,G_Fgr,b_63,k_63,W.mg_of X G wm⟩;have G_Fts:=zvx T F_64;have c_Fts:Cal _ _ _ _ _ _ _ _ _ _ _:=⟨_,_,G_Fts,b_64,k_64,W.mg_of X G wq⟩;have G_Top:=zxh T F_65 c_Tu c_Shu c_Su c_Pd;have c_Top:Cal _ _ _ _ _ _ _ _ _ _ _:=⟨_,_,G_Top,b_65,k_65,W.mg_of X G wu⟩;have G_LR:=zya T F_66 c_Read x_RoomError x_NoText x_NoOver mi mj ⟨jp,jq,jr,js,jt,ju,jv,jw⟩ ⟨jx,jy,jz,kc,ke,kh,ki,kj⟩ xc xh xj xm xn xo
 have c_LR:Cal _ _ _ _ _ _ _ _ _ _ _:=⟨_,_,G_LR,b_66,k_66,W.mg_of X G ww⟩;exact zwn T F_67 c_Cell c_LPr c_Let c_Fgr c_Top c_Fts c_Su c_LFld k_RgInit c_LR c_IsP
theorem walk{l:W.OpenLaw}{q:Program}{loose:List Str}{XP:(Str->Option Value)->Heap->Prop}{YP:World->Heap->Prop}{d:DefRec}{K:Params->W.Frag}(hn:l.most=some 63)(hdf:d.params.defaults=[])
  (hY:∀(w:World) (h:Heap),YP w h->(K w.params).In h)
  (F:∀(w:World) (mg:Str->Option Value) (fa:Addr) (h:Heap),(K w.params).In h->h.Ns mainGlobals mg->mg d.name=some (.ref fa) ->
   ∃fd:FuncData,(∀(s:Shared) (u:Value),BindsTo s fd ⟨[u],[]⟩ [("_law_script",u)])/\∀base:Heap,(K w.params).In base->base.Ns mainGlobals mg->FnOk l.prog w (K w.params) mg base CX0 206 fa fd ["_law_script"] (zqn (K w.params))) :
  W.WalkO q loose XP YP l.row.toRowW d [] (λf vs=>PySem.call f vs):=
 L2.walk_of (n:=63) (k:=206) (x:="_law_script") (CX:=λ_=>CX0) (sp:=λw=>zqn (K w.params)) hn (by decide) hdf ⟨Z,by decide,by decide⟩ hY F (λ_ _ a ns hl _ hS=>⟨a,ns,Z,hS,hl,λ_=>Z⟩) λ_ _ _ _ _ z=>z
end K6
open PySem PySem.W PyProof.Rows
set_option maxRecDepth 100000 in
theorem PySem.Challenge.cw_idealroom_k14_texts_mean_sums_holds : PySem.Challenge.rw_idealroom_k14_texts_mean_sums.Holds := by
 w_on;o_law;k_head;(case hw=>w_witness2)
 k_fill
 refine K6.walk (l:=PySem.Challenge.rw_idealroom_k14_texts_mean_sums) rfl rfl (λw h Y=>W.kIn_of Y) ?F
 case F=>
  intro w mg fa h KX G hmg;refine' K6.all_mk KX G hmg ?kt ?jg ?jh ?ji ?jj ?jk ?jl ?av ?aj ?ak ?bu ?aw ?ay ?az ?ba ?bc ?bf ?aa ?jn ?ij ?ik ?im ?io ?iq ?ir ?ah ?jo ?iw ?iz ?ja ?jb ?fj ?cv ?cw ?cx ?cy ?cz ?dg ?dh ?jc ?fk ?fo ?fq ?ft ?fu ?fw ?ac ?ai ?bg ?af ?xp ?xq ?xr ?xt ?mx ?my ?mz ?nh ?xu ?xw ?al ?xx ?xy ?am ?xz ?ya ?ao ?yb ?yc ?aq ?yd ?ye ?yf ?yg ?yh ?ar ?yi ?yj ?au ?yk ?yl ?fy ?ym ?yn ?di ?ni ?nj ?dm ?nk ?nr ?dq ?nw ?og ?dt ?oh ?oi ?du ?oj ?om ?dy ?ot ?ou ?dz ?ow ?ox ?oy ?oz ?pd ?bh ?eh ?ph ?pi ?gc ?pj ?pq ?pz ?qc ?qd ?qe ?qg ?qh ?qi ?qj ?gf ?qk ?ql ?bv ?qm ?qo ?bw ?qp ?qq ?cb ?qt ?qu ?cf ?qv ?qx ?cg ?qy ?qz ?ci ?rc ?rf ?cj ?ri ?rj ?ck ?rl ?rm ?cm ?rn ?ro ?cq ?rp ?rq ?cr ?se ?sf ?gg ?si ?sk ?sr ?sw ?sy ?tj ?tm ?tq ?gh ?tw ?tz ?ua ?uc ?ud ?ue ?uf ?ug ?uh ?ui ?uj ?uk ?um ?uo ?uq ?ur ?ut ?uu ?uv ?uw ?ux ?uz ?va ?vc ?vd ?ve ?vf ?vg ?vh ?vi ?vj ?vk ?vm ?vn ?vo ?vq ?vt ?vv ?vw ?vy ?vz ?wa ?wc ?wd ?we ?wf ?wg ?wk ?wm ?wo ?wq ?wr ?wu ?wv ?ww ?wx ?wy ?wz ?xa ?xb ?jd ?gi ?gj ?gk ?gq ?fg ?fh ?fi ?je ?gr ?gt ?gu ?jf ?gv ?gw ?gz ?cu ?bi ?bj ?bn ?ls ?lv ?ma ?md ?mh ?jp ?jq ?jr ?js ?jt ?ju ?jv ?jw ?jx ?jy ?jz ?kc ?ke ?kh ?ki ?kj ?mi ?mj ?xc ?xh ?xj ?xm ?xn ?xo ?bo ?mm ?lh ?lq ?mn ?bp ?mq ?lr ?mr ?km ?mt ?kq ?mv ?mw ?ig ?ad ?ii ?bq ?br ?ae ?ag
  all_goals try first | k_is | exact .mk (by k_is) (by k_is) (by k_is) | exact PySem.F.excBase_ValueError | k_exc | kts_exm | kit_is
#print axioms PySem.Challenge.cw_idealroom_k14_texts_mean_sums_holds
