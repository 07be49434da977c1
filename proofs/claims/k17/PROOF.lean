import PyProof.Rows.All
import Wide.All
import OpenK.AllK
import Wide.FinOn
import Lean
import PyProof.EqAt
import PyProof.EqKinds
import PyProof.TupleCall
import KE.KSortTup
import KE.KLam
import KE.KNestM
import KE.KDictList
import KE.KRevIter
import PyProof.ExcArgsOwn
import PyProof.NsDelKeeps
import PyProof.WalksEnum
import PyProof.EnumMake
import PySem.Challenge.RW_idealroom_k17_divided_identity
set_option maxHeartbeats 0
set_option Elab.async false
set_option linter.all false
set_option maxRecDepth 100000
theorem Z.{u}{α:Sort u}{a:α}:a=a:=rfl
section
open PySem PyProof.Rows
abbrev Ya:=@wpAny_bind
abbrev Yb:=@wpAny_pure
abbrev Yc:=@List.getElem?_eq_getElem
abbrev Yd:=@List.length_map
abbrev Ye:=@Heap.get?_push_of_some
abbrev Yf:=@Nat.lt_of_lt_of_le
abbrev Yg:=@List.mem_append_right
abbrev Yh:=@if_neg
abbrev Yi:=@Nat.le_refl
abbrev Yj:=@List.mem_cons
abbrev Yk:=@Heap.get?_push_size
abbrev Yl:=@if_pos
abbrev Ym:=@List.getElem?_map
abbrev Yn:=@Heap.lt_size
abbrev Yo:=@decide_eq_true
abbrev Yp:=@Nat.lt_of_le_of_lt
abbrev Yq:=@List.mem_singleton
abbrev Yr:=@Nat.le_trans
abbrev Ys:=@List.size_toArray
abbrev Yt:=@Bool.false_ne_true
abbrev Yu:=@List.filter_eq_self
abbrev Yv:=@Nat.pow_le_pow_right
abbrev Yw:=@decide_eq_false
abbrev Yx:=@List.mem_of_getElem?
abbrev Yy:=@List.getElem?_eq_none
abbrev Yz:=@List.map_cons
abbrev Y0:=@Nat.ne_of_lt
abbrev Y1:=@Int.toNat_natCast
abbrev Y2:=@Nat.zero_le
abbrev Y3:=@Int.mul_le_mul_of_nonneg_left
abbrev Y4:=@Nat.mul_le_mul_right
abbrev Y5:=@List.length_cons
abbrev Y6:=@List.length_append
abbrev Y7:=@wpAny_dictEntries
abbrev Y8:=@wpAny_call_entry
abbrev Y9:=@List.not_mem_nil
abbrev Ja:=@List.length_eq_zero_iff
abbrev Jb:=@wpAny_callSpecial?_slot
abbrev Jc:=@Ne.symm
abbrev Jd:=@Int.emod_lt_of_pos
abbrev Je:=@List.mem_iff_getElem?
abbrev Jf:=@False.elim
abbrev Jg:=@Option.some.inj
abbrev Jh:=@Nat.lt_or_ge
abbrev Ji:=@List.map_map
abbrev Jj:=@List.mem_map
abbrev Jk:=@of_decide_eq_true
abbrev Jl:=@wpAny_field
abbrev Jm:=@List.lookup_cons
abbrev Jn:=@Int.emod_nonneg
abbrev Jo:=@wpAny_newObj_type
abbrev Jp:=@wpAny_setField_rec
abbrev Jq:=@wpAny_truthy_bool
abbrev Jr:=@wpAny_holding
abbrev Js:=@wpAny_seqItems
abbrev Jt:=@wpAny_tryCatch
abbrev Ju:=@wpAny_richCompare_same_room
abbrev Jv:=@List.mem_append
abbrev Jw:=@List.getElem_mem
abbrev Jx:=@congrArg
abbrev Jy:=@eq_of_beq
abbrev Jz:=@Bool.and_eq_true
end
namespace L2
open PySem PySem.Spec PyProof.Rows
abbrev Key:=Sum Int Str
def znp:Key->Value->Bool
 | .inl k,v=>Value.isInt k v
 | .inr x,v=>Value.isStrOf x v
def keyH(w:World):Key->Int
 | .inl k=>hashInt k
 | .inr x=>hashStr w x
theorem zbu:∀{k:Key} {v:Value},znp k v=true->(∃i t,k=Sum.inl i/\v=Value.int i t)\/(∃x t,k=Sum.inr x/\v=Value.str x t)
 | .inl i,v,h=>by
  obtain⟨t,e⟩:=Value.isInt_shape (k:=i) (v:=v) h;exact .inl ⟨i,t,Z,e⟩
 | .inr x,v,h=>by
  obtain⟨t,e⟩:=Value.isStrOf_shape (x:=x) (v:=v) h;exact .inr ⟨x,t,Z,e⟩
theorem zoj(i:Int)(t:Tok):znp (.inl i) (.int i t)=true:=by simp[znp,Value.isInt]
theorem zpx(x:Str)(t:Tok):znp (.inr x) (.str x t)=true:=by simp[znp,Value.isStrOf]
theorem zzh(a b:Int):decide ((Sum.inl a:Key)=Sum.inl b)=(a == b):=by
 by_cases e:a=b
 ·subst e;simp
 ·have h:¬(Sum.inl a:Key)=Sum.inl b:=λq=>e (Sum.inl.inj q)
  rw[Yw h];exact(beq_eq_false_iff_ne.mpr e).symm
theorem zyz(a b:Str):decide ((Sum.inr a:Key)=Sum.inr b)=decide (a=b):=by
 by_cases e:a=b
 ·subst e;simp
 ·have h:¬(Sum.inr a:Key)=Sum.inr b:=λq=>e (Sum.inr.inj q)
  rw[Yw h,Yw e]
theorem zz3(a:Int)(b:Str):decide ((Sum.inl a:Key)=Sum.inr b)=false:=Yw (λq=>nomatch q)
theorem zys(a:Str)(b:Int):decide ((Sum.inr a:Key)=Sum.inl b)=false:=Yw (λq=>nomatch q)
def za8(prog:Program)(w:World):PySem.KeyKind prog w Key where
 is:=znp
 hash:=keyH w
 inj:=λv a b ha hb=>by
  rcases zbu ha with⟨i,t,rfl,rfl⟩ | ⟨x,t,rfl,rfl⟩
  ·rcases zbu hb with⟨j,u,rfl,e⟩ | ⟨y,u,rfl,e⟩
   ·injection e with e1 _;rw[e1]
   ·exact nomatch e
  ·rcases zbu hb with⟨j,u,rfl,e⟩ | ⟨y,u,rfl,e⟩
   ·exact nomatch e
   ·injection e with e1 _;rw[e1]
 byValue:=λk v h=>by
  rcases zbu h with⟨i,t,rfl,rfl⟩ | ⟨x,t,rfl,rfl⟩ <;> rfl
 pyHash:=λhv h=>by
  rcases zbu hv with⟨i,t,rfl,rfl⟩ | ⟨x,t,rfl,rfl⟩
  ·exact wpAny_pyHash_int h
  ·exact wpAny_pyHash_str h
 eqBool:=λhu hv h=>by
  rcases zbu hu with⟨i,t,rfl,rfl⟩ | ⟨x,t,rfl,rfl⟩
  ·rcases zbu hv with⟨j,u,rfl,rfl⟩ | ⟨y,u,rfl,rfl⟩
   ·rw[zzh]at h;exact wpAny_eqBool_int h
   ·rw[zz3]at h;exact SeqAt.EqAt.int_str i t y u _ _ _ _ h
  ·rcases zbu hv with⟨j,u,rfl,rfl⟩ | ⟨y,u,rfl,rfl⟩
   ·rw[zys]at h;exact SeqAt.EqAt.str_int x t j u _ _ _ _ h
   ·rw[zyz]at h;exact wpAny_eqBool_str h
 «strs»:=λk x t v h=>by
  rcases zbu h with⟨i,u,rfl,e⟩ | ⟨y,u,rfl,e⟩
  ·exact nomatch e
  ·injection e with e1 _
   subst e1
   cases v <;> rfl
theorem zli(prog:Program)(w:World)(i:Int)(t:Tok):(za8 prog w).is (.inl i) (.int i t)=true:=zoj i t
theorem zk8(prog:Program)(w:World)(x:Str)(t:Tok):(za8 prog w).is (.inr x) (.str x t)=true:=zpx x t
inductive V where
 | non | bl (b:Bool) | int (i:Int) | str (x:Str) | byt (b:Array UInt8) | flt (b:UInt64) | ref (a:Addr) | ty (n:String)
 deriving DecidableEq
def RelV:V->Value->Prop
 | .non,u=>u=Value.none
 | .bl b,u=>u=Value.bool b
 | .int i,u=>∃t,u=Value.int i t
 | .str x,u=>∃t,u=Value.str x t
 | .byt b,u=>∃t,u=Value.bytes b t
 | .flt b,u=>∃t,u=Value.float b t
 | .ref a,u=>u=Value.ref a
 | .ty n,u=>u=Value.type n
abbrev Vals:List V->List Value->Prop:=Paired RelV
theorem Vals.length{xs:List V}{us:List Value}(r:Vals xs us):xs.length=us.length:=Paired.length r
theorem Vals.get:∀{xs:List V} {us:List Value} {i:Nat} {x:V},Vals xs us->xs[i]? = some x->∃u,us[i]? = some u/\RelV x u
 | _,_,_,_,.nil,e=>by simp at e
 | _,_,0,_,.cons r _,e=>by simp at e;subst e;exact⟨_,rfl,r⟩
 | _,_,i+1,x,.cons _ t,e=>by
  obtain⟨u,h1,h2⟩:=Vals.get (i:=i) (x:=x) t (by simpa using e);exact⟨u,by simpa using h1,h2⟩
theorem Vals.append:∀{xs ys:List V} {us ws:List Value},Vals xs us->Vals ys ws->Vals (xs++ys) (us++ws)
 | _,_,_,_,.nil,s=>s
 | _,_,_,_,.cons r t,s=>.cons r (Vals.append t s)
theorem Vals.take:∀{xs:List V} {us:List Value} (n:Nat),Vals xs us->Vals (xs.take n) (us.take n)
 | _,_,0,_=>.nil
 | _,_,_+1,.nil=>.nil
 | _,_,n+1,.cons r t=>.cons r (Vals.take n t)
theorem Vals.drop:∀{xs:List V} {us:List Value} (n:Nat),Vals xs us->Vals (xs.drop n) (us.drop n)
 | _,_,0,r=>r
 | _,_,_+1,.nil=>.nil
 | _,_,n+1,.cons _ t=>Vals.drop n t
def RelO:Option V->Option Value->Prop
 | some v,some u=>RelV v u
 | none,none=>True
 | _,_=>False
def KV{κ : Type}:List (κ×V)->List (κ×Value)->Prop:=Paired fun(p : κ×V) (q : κ×Value)=>p.1=q.1/\RelV p.2 q.2
def kV:Key->V
 | .inl i=>.int i
 | .inr x=>.str x
inductive HO where
  | lst (xs:List V)
  | tup (xs:List V)
  | dK (kvs:List (Key×V)) | dT (kvs:List (List Key×V))
  | set (S:Int->Bool) (n:Nat)
  | ins (C dx:Addr) (fs:List (Str×V))
  | own (x:Addr)
  | xd (fs:List (Str×V))
  | met (f x:Addr)
  | rng (lo hi:Int)
  | frz (o:Obj) (u:HO)
  | tbl (ps:Array Value)
  | ext (φ : Heap->Prop)
abbrev Hp:=Addr->Option HO
def upd(H:Hp)(a:Addr)(o:HO):Hp:=λb=>if b=a then some o else H b
theorem zab{H:Hp}{a:Addr}{o:HO}:upd H a o a=some o:=by unfold upd;rw[Yl rfl]
theorem zai{H:Hp}{a b:Addr}{o:HO}(h:b≠a):upd H a o b=H b:=by unfold upd;rw[Yh h]
theorem zbs{H:Hp}{a b:Addr}{o u:HO}(h:H a=some o)(h':H b=some u)(d:o≠u):a≠b:=by
 intro e;subst e;rw[h]at h';exact d (Jg h')
theorem zam{H:Hp}{a b:Addr}{o:HO}(h:H a=some o)(h':H b=none):a≠b:=by
 intro e;subst e;rw[h]at h';cases h'
section
variable(P:Program)(w:World)
def ObjOk(H:Hp)(h:Heap)(a:Addr):HO->Prop
 | .lst xs=>xs.length<=sizeLine/\∃(its:List Value) (n:Nat),Vals xs its/\h.get? a=some { cls:=.type "list",data:=.seq its.toArray n }
 | .tup xs=>xs.length<=sizeLine/\∃its:List Value,Vals xs its/\IsTup h a its.toArray
 | .dK kvs=>kvs.length<=sizeLine/\(a == sysModules)=false/\∃vs,KV kvs vs/\h.DictOf (za8 P w) a vs
 | .dT kvs=>kvs.length<=sizeLine/\(a == sysModules)=false/\∃xs:List (List Key×Addr×Value),
   Paired (fun(p:List Key×V) (q:List Key×Addr×Value)=>p.1=q.1/\H q.2.1=some (.tup (p.1.map kV))/\RelV p.2 q.2.2) kvs xs /\
   ∃o es ep,h.get? a=some o/\o.ExactDict/\o.data=.dict es ep/\es.toList=xs.map (entryOfKey (tupleKind (za8 P w)))/\(xs.map (·.1)).Nodup
 | .set S n=>h.SetOf (intKind P w) a S n
 | .ins C dx fs=>H dx=some (.own a)/\fs.length<=1000/\dx≠a/\h.get? a=some (W.instObj C dx) /\
   ∃mA,h.Ns1 dx mA/\(∀f,RelO (fs.lookup f) (mA f))/\PySem.Within mA (fs.map (·.1))
 | .own _=>∃o,h.get? a=some o
 | .xd fs=>∃mA,h.Ns1 a mA/\∀f,RelO (fs.lookup f) (mA f)
 | .rng lo hi=>∃t u v,h.get? a=some { cls:=.type "range",data:=.fields #[.int lo t,.int hi u,.int 1 v] }
 | .frz o u=>h.get? a=some o/\ObjOk H h a u
 | .tbl ps=>h.get? a=some { cls:=.none,data:=.fields ps }
 | .met f x=>h.get? a=some (W.methodObj (.ref f) (.ref x))
 | .ext φ=>φ h/\(∃o,h.get? a=some o)/\∀h1 h2:Heap,φ h1->(∀o,h1.get? a=some o->h2.get? a=some o)->φ h2
def HOk(H:Hp)(h:Heap):Prop:=∀a o,H a=some o->ObjOk P w H h a o
end
section
variable{P:Program}{w:World}{H H':Hp}{h h':Heap}{a:Addr}{o:HO}
theorem ObjOk.lt(x:ObjOk P w H h a o):a<h.objs.size:=by
 cases o with
 | lst xs=>obtain⟨_,_,_,_,e⟩:=x;exact Yn e
 | tup xs=>obtain⟨_,_,_,p⟩:=x;exact p.lt
 | dK kvs=>obtain⟨_,_,_,_,o,_,_,e,_⟩:=x;exact Yn e
 | dT kvs=>obtain⟨_,_,_,_,o,_,_,e,_⟩:=x;exact Yn e
 | set S n=>obtain⟨o,_,_,_,e,_⟩:=x;exact Yn e
 | ins C dx fs=>obtain⟨_,_,_,e,_⟩:=x;exact Yn e
 | own y=>obtain⟨_,e⟩:=x;exact Yn e
 | xd fs=>obtain⟨_,⟨_,_,_,e,_⟩,_⟩:=x;exact Yn e
 | rng lo hi=>obtain⟨_,_,_,e⟩:=x;exact Yn e
 | frz ob u=>obtain⟨e,_⟩:=x;exact Yn e
 | tbl ps=>exact Yn (show h.get? a=some _ from x)
 | met f y=>exact Yn (show h.get? a=some _ from x)
 | ext φ=>obtain⟨_,⟨_,e⟩,_⟩:=x;exact Yn e
theorem Paired.mapP{α β : Type}{F G : α->β->Prop}:∀{l₁:List α} {l₂:List β},Paired F l₁ l₂->(∀a b,F a b->G a b)->Paired G l₁ l₂
 | _,_,.nil,_=>.nil
 | _,_,.cons r t,f=>.cons (f _ _ r) (Paired.mapP t f)
theorem Paired.imp'{α β : Type}{F G : α->β->Prop}(f:∀a b,F a b->G a b){l₁:List α}{l₂:List β}(r:Paired F l₁ l₂):Paired G l₁ l₂:=Paired.mapP r f
theorem ObjOk.stay(x:ObjOk P w H h a o)(k:∀b u,(b=a\/H b=some (.own a))->h.get? b=some u->h'.get? b=some u)
  (ho:∀b,H b=some (.own a)->H' b=some (.own a)) (ht:∀b xs,H b=some (.tup xs)->H' b=some (.tup xs)):ObjOk P w H' h' a o:=by
 induction o with
 | lst xs=>obtain⟨z,its,n,r,e⟩:=x;exact⟨z,its,n,r,k _ _ (.inl rfl) e⟩
 | tup xs=>obtain⟨z,its,r,ob,e,c⟩:=x;exact⟨z,its,r,ob,k _ _ (.inl rfl) e,c⟩
 | dK kvs=>obtain⟨z,y,vs,r,ob,es,ep,e,c⟩:=x;exact⟨z,y,vs,r,ob,es,ep,k _ _ (.inl rfl) e,c⟩
 | dT kvs=>
  obtain⟨z,y,xs,r,ob,es,ep,e,c⟩:=x;exact⟨z,y,xs,Paired.mapP r λp q z=>⟨z.1,ht _ _ z.2.1,z.2.2⟩,ob,es,ep,k _ _ (.inl rfl) e,c⟩
 | set S n=>obtain⟨ob,es,ep,t,e,c⟩:=x;exact⟨ob,es,ep,t,k _ _ (.inl rfl) e,c⟩
 | ins C dx fs=>
  obtain⟨d,z,ne,e,mA,⟨od,es,ep,e2,c⟩,r⟩:=x;exact⟨ho _ d,z,ne,k _ _ (.inl rfl) e,mA,⟨od,es,ep,k _ _ (.inr d) e2,c⟩,r⟩
 | own y=>obtain⟨ob,e⟩:=x;exact⟨ob,k _ _ (.inl rfl) e⟩
 | xd fs=>obtain⟨mA,⟨od,es,ep,e,c⟩,r⟩:=x;exact⟨mA,⟨od,es,ep,k _ _ (.inl rfl) e,c⟩,r⟩
 | rng lo hi=>obtain⟨t,u,v,e⟩:=x;exact⟨t,u,v,k _ _ (.inl rfl) e⟩
 | frz ob u ih=>obtain⟨e,q⟩:=x;exact⟨k _ _ (.inl rfl) e,ih q⟩
 | tbl ps=>
  have e:h.get? a=some { cls:=.none,data:=.fields ps }:=x;show h'.get? a=some { cls:=.none,data:=.fields ps };exact k a _ (.inl rfl) e
 | met f y=>
  have e:h.get? a=some (W.methodObj (.ref f) (.ref y)):=x;show h'.get? a=some (W.methodObj (.ref f) (.ref y));exact k a _ (.inl rfl) e
 | ext φ=>obtain⟨p,⟨o,e⟩,st⟩:=x;exact⟨st _ _ p λo q=>k _ _ (.inl rfl) q,⟨o,k _ _ (.inl rfl) e⟩,st⟩
theorem HOk.lt(x:HOk P w H h)(e:H a=some o):a<h.objs.size:=(x a o e).lt
theorem HOk.fresh(x:HOk P w H h)(e:h.objs.size<=a):H a=none:=by
 cases q:H a with
 | none=>rfl
 | some u=>exact absurd (Yf (x.lt q) e) (Nat.lt_irrefl _)
theorem HOk.kept(x:HOk P w H h)(k:∀b u,h.get? b=some u->h'.get? b=some u):HOk P w H h':=λa o e=>
 (x a o e).stay (λb u _ q=>k b u q) (λ_ q=>q) λ_ _ q=>q
theorem HOk.laid(x:HOk P w H h)(k:∀b u,h.get? b=some u->h'.get? b=some u)(hp:h.objs.size<=a)(new:ObjOk P w (upd H a o) h' a o):HOk P w (upd H a o) h':=λb u e=>by
 have hn:=x.fresh hp;by_cases hb:b=a
 ·subst hb;rw[zab]at e;cases e;exact new
 ·rw[zai hb]at e;exact(x b u e).stay (λc v _ q=>k c v q) (λc q=>by rw[zai (zam q hn)];exact q) λc xs q=>by rw[zai (zam q hn)];exact q
end
def Rd(H:Hp)(a:Addr)(u:HO):Prop:=H a=some u\/∃o,H a=some (.frz o u)
theorem Rd.ok{P:Program}{w:World}{H:Hp}{h:Heap}{a:Addr}{u:HO}(r:Rd H a u)(x:HOk P w H h):ObjOk P w H h a u:=by
 rcases r with r | ⟨o,r⟩
 ·exact x a u r
 ·obtain⟨_,q⟩:=x a _ r;exact q
def Mut:Option HO->Prop
 | some (.lst _)=>True
 | some (.dK _)=>True
 | some (.dT _)=>True
 | some (.set _ _)=>True
 | some (.ins _ _ _)=>True
 | some (.ext _)=>True
 | _=>False
section
variable{P:Program}{w:World}{H:Hp}{h h':Heap}{x e:Addr}{o':HO}
theorem HOk.write(ok:HOk P w H h)(mu:Mut (H x))(he:e=x\/H e=some (.own x))(k:∀b u,b≠e->h.get? b=some u->h'.get? b=some u)(heo:∃u,h'.get? e=some u)
  (new:ObjOk P w (upd H x o') h' x o'):HOk P w (upd H x o') h':=λb u q=>by
 have nown:∀c y,H c=some (.own y)->c≠x:=λc y r z=>by subst z;rw[r]at mu;exact mu
 have ntup:∀c xs,H c=some (.tup xs)->c≠x:=λc xs r z=>by subst z;rw[r]at mu;exact mu
 by_cases hb:b=x
 ·subst hb;rw[zab]at q;cases q;exact new
 ·rw[zai hb]at q;by_cases hbe:b=e
  ·have q':H b=some (.own x):=by
    rcases he with z | z
    ·exact absurd (hbe.trans z) hb
    ·rw[hbe];exact z
   rw[q]at q';cases q';obtain⟨v,hv⟩:=heo;exact⟨v,by rw[hbe];exact hv⟩
  ·refine(ok b u q).stay (λc v hc r=>k c v ?_ r) (λc r=>by rw[zai (nown c b r)];exact r) λc xs r=>by rw[zai (ntup c xs r)];exact r
   rcases hc with rfl | hc
   ·exact hbe
   ·rintro rfl;rcases he with z | z
    ·exact nown c b hc z
    ·rw[hc]at z;cases z;exact hb rfl
end
structure Un(fs ex:List Addr)(H H':Hp)(h h':Heap):Prop where
 keep:∀b o,h.get? b=some o->H b=none->b ∉ fs->b ∉ ex->h'.get? b=some o
 slot:∀b o,h.get? b=some o->H b=none->b∈fs->b ∉ ex->∃sl,h'.get? b=some { o with slots:=sl }
 free:∀b o,h.get? b=some o->H b=none->b ∉ ex->H' b=none
 there:∀b o,h.get? b=some o->b ∉ ex->∃o',h'.get? b=some o'
 tups:∀b xs,H b=some (.tup xs)->H' b=some (.tup xs)
 frzs:∀b o u,H b=some (.frz o u)->H' b=some (.frz o u)
 tbls:∀b ps,H b=some (.tbl ps)->∃more,H' b=some (.tbl (ps++more))
section
variable{fs fs' ex ex':List Addr}{H H1 H2:Hp}{h h1 h2 h':Heap}{a x e:Addr}{o:HO}
theorem Un.any(u:Un fs ex H H1 h h1){b:Addr}{ob:Obj}(q:h.get? b=some ob)(n:H b=none)(hx:b ∉ ex):∃sl,h1.get? b=some { ob with slots:=sl }:=by
 by_cases hb:b∈fs
 ·exact u.slot b ob q n hb hx
 ·exact⟨ob.slots,u.keep b ob q n hb hx⟩
theorem Un.kept(k:∀b u,h.get? b=some u->h'.get? b=some u):Un fs ex H H h h':=
 ⟨λb ob q _ _ _=>k b ob q,λb ob q _ _ _=>⟨ob.slots,k b ob q⟩,λ_ _ _ n _=>n,λb ob q _=>⟨ob,k b ob q⟩,λ_ _ q=>q,λ_ _ _ q=>q,λ_ ps q=>⟨#[],by rw[q];simp⟩⟩
theorem Un.refl:Un fs ex H H h h:=Un.kept λ_ _ q=>q
theorem Un.laid(k:∀b u,h.get? b=some u->h'.get? b=some u)(hp:h.objs.size<=a)(hn:H a=none):Un fs ex H (upd H a o) h h' where
 keep:=λb u q _ _ _=>k b u q
 slot:=λb u q _ _ _=>⟨u.slots,k b u q⟩
 free:=λb u q n _=>by rw[zai (Y0 (Yf (Yn q) hp))];exact n
 there:=λb u q _=>⟨u,k b u q⟩
 tups:=λb xs q=>by rw[zai (zam q hn)];exact q
 frzs:=λb u xs q=>by rw[zai (zam q hn)];exact q
 tbls:=λb ps q=>⟨#[],by rw[zai (zam q hn),q];simp⟩
theorem Un.write(mu:Mut (H x))(he:e=x\/H e=some (.own x))(k:∀b u,b≠e->h.get? b=some u->h'.get? b=some u)(heo:∃u,h'.get? e=some u):Un fs ex H (upd H x o) h h':=by
 have hx:∀b,H b=none->b≠x:=λb n z=>by subst z;rw[n]at mu;exact mu
 have hb:∀b,H b=none->b≠e:=λb n z=>by
  subst z;rcases he with r | r
  ·exact hx b n r
  ·rw[n]at r;cases r
 have hm:∀b u,H b=some u->¬Mut (some u)->b≠x:=λb u q nm z=>by subst z;rw[q]at mu;exact nm mu
 refine⟨λb u q n _ _=>k b u (hb b n) q,λb u q n _ _=>⟨u.slots,k b u (hb b n) q⟩,λb u q n _=>by rw[zai (hx b n)];exact n,λb u q _=>?_,
  λb xs q=>by rw[zai (hm b _ q λz=>z)];exact q,λb u xs q=>by rw[zai (hm b _ q λz=>z)];exact q,λb ps q=>⟨#[],by rw[zai (hm b _ q λz=>z),q];simp⟩⟩
 by_cases hbe:b=e
 ·subst hbe;exact heo
 ·exact⟨u,k b u hbe q⟩
end
def trk(h:Heap)(H:Hp):List Addr:=(List.range h.objs.size).filter λa=>(H a).isSome
def hidT(h:Heap)(H:Hp):Heap:=W.hideAll h (trk h H)
theorem zo7(h:Heap)(H:Hp):(hidT h H).objs.size=h.objs.size:=W.hideAll_size _ _
theorem zro{h:Heap}{H:Hp}{b:Addr}{o:Obj}(e:h.get? b=some o)(n:H b=none):(hidT h H).get? b=some o:=
 W.hideAll_get _ e λhm=>by
  have q:(H b).isSome=true:=(List.mem_filter.mp hm).2;rw[n]at q;simp at q
theorem zwq{h:Heap}{H:Hp}{b:Addr}{o:Obj}(e:(hidT h H).get? b=some o):h.get? b=some o/\H b=none:=by
 have e':h.get? b=some o:=W.of_hideAll (trk h H) e;refine⟨e',?_⟩
 cases q:H b with
 | none=>rfl
 | some x=>
  have hm:b∈trk h H:=List.mem_filter.mpr ⟨List.mem_range.mpr (Yn e'),by simp[q]⟩;have z:(hidT h H).get? b=none:=W.hideAll_none (trk h H) hm;rw[z]at e;cases e
structure Mod(K:W.Frag)(mg:Str->Option Value)(base:Heap):Prop where
 kin:K.In base
 glob:base.Ns mainGlobals mg
 blt:∃mb,base.Ns builtinsNs mb/\∀x:Str,x≠"__name__"->mb x=bootBuiltins x
 nolimit:base.NoLimit
structure Cx where
 prog:Program
 w:World
 K:W.Frag
 mg:Str->Option Value
 base:Heap
 A:Around
 N:List Str
 s₀:Shared
 H₀:Hp
 env:Env
 outer:List Env
 stack:List Env
 ex:List Addr
 fn:Str->Bool
 calm:Bool
 pn:List (Addr×Obj)
 xe:Value->Shared->Prop
def frs(l:List Env):List Addr:=l.filterMap (·.frame)
abbrev Cx.fs(X:Cx):List Addr:=frs X.outer
def Vis(sc:Scope)(x:Str):Prop:=sc.names.lookup x=some .local\/sc.names.lookup x=some .cell\/sc.names.lookup x=some .free
def Loc(sc:Scope)(x:Str):Prop:=sc.names.lookup x=some .local\/sc.names.lookup x=some .cell
def Look(env:Env)(h:Heap)(m:Str->Option Value)(x:Str)(u:Value):Prop:=
 (env.kindOf x=some .local/\m x=some u)\/((env.kindOf x=some .cell\/env.kindOf x=some .free)/\∃c,env.cells.lookup x=some c/\h.IsCell c (some u))
structure Cx.Ok(X:Cx):Prop where
 mod:Mod X.K X.mg X.base
 kind:X.env.scope.kind=.function
 glob:X.env.globals=mainGlobals
 blt:X.env.builtins=builtinsNs
 above:X.s₀.heap.objs.size<=X.env.locals
 inj:∀x y c,X.env.cells.lookup x=some c->X.env.cells.lookup y=some c->x=y
 has:∀x,(X.env.kindOf x=some .cell\/X.env.kindOf x=some .free)->∃c,X.env.cells.lookup x=some c
 cab:∀x c,X.fn x=true->X.env.cells.lookup x=some c->X.s₀.heap.objs.size<=c
 hd:X.calm=true->X.A.handled=none
 frames:X.A.frames=some X.stack
 stk:X.stack=X.outer\/(X.stack=X.env::X.outer/\X.env.frame=some X.env.locals)
 exf:∀b∈X.ex,b≠X.env.locals/\∀x c,X.env.cells.lookup x=some c->c≠b
 bs:∀b o,X.base.get? b=some o->X.s₀.heap.get? b=some o/\X.H₀ b=none
 bsz:X.base.objs.size<=X.s₀.heap.objs.size
 noex:∀b o,X.base.get? b=some o->b ∉ X.ex
 exfs:∀b∈X.ex,b ∉ X.fs
 funs:X.s₀.heap.FunFrames X.base X.outer
 frf:∀b∈X.fs,X.H₀ b=none
structure Inv(X:Cx)(pins:List (Addr×Obj))(σ : List (Option V))(H:Hp)(s:Shared):Prop where
 ok:X.Ok
 os:s.os=X.s₀.os
 bare:AllBare s.gens
 base:Un X.fs X.ex X.H₀ H X.s₀.heap s.heap
 loc:∃m,s.heap.Ns X.env.locals m/\∀(i:Nat) (x:Str) (v:V),X.N[i]? = some x->σ[i]? = some (some v)->Vis X.env.scope x->∃u,RelV v u/\Look X.env s.heap m x u
 cell:∀x c,X.env.cells.lookup x=some c->∃v,s.heap.IsCell c v
 free:H X.env.locals=none
 freeC:∀x c,X.env.cells.lookup x=some c->H c=none
 pin:∀p∈X.pn++pins,s.heap.get? p.1=some p.2/\H p.1=none/\p.1≠X.env.locals/\p.1 ∉ X.fs/\∀v,p.2.data≠.cell v
 hok:HOk X.prog X.w H s.heap
 len : σ.length=X.N.length
section
variable{X:Cx}{pins:List (Addr×Obj)}{σ : List (Option V)}{H H':Hp}{s:Shared}{h':Heap}
theorem Cx.Ok.nofr(ok:X.Ok){b:Addr}{o:Obj}(e:X.base.get? b=some o):b ∉ X.fs:=λhb=>by
 have:=(ok.funs.mem hb).1;rw[e]at this;cases this
theorem Inv.bs(I:Inv X pins σ H s):∀b o,X.base.get? b=some o->s.heap.get? b=some o/\H b=none:=λb o e=>
 ⟨I.base.keep b o (I.ok.bs b o e).1 (I.ok.bs b o e).2 (I.ok.nofr e) (I.ok.noex b o e),I.base.free b o (I.ok.bs b o e).1 (I.ok.bs b o e).2 (I.ok.noex b o e)⟩
theorem Inv.bk(I:Inv X pins σ H s):∀b o,X.base.get? b=some o->s.heap.get? b=some o:=λb o e=>(I.bs b o e).1
theorem Inv.mod(I:Inv X pins σ H s):Mod X.K X.mg X.base:=I.ok.mod
theorem Inv.kIn(I:Inv X pins σ H s):X.K.In s.heap:=I.ok.mod.kin.keeps I.bk
theorem Inv.nolimit(I:Inv X pins σ H s):s.heap.NoLimit:=I.ok.mod.nolimit.keeps I.bk
theorem Inv.lt(I:Inv X pins σ H s):X.env.locals<s.heap.objs.size:=let ⟨_,hn,_⟩:=I.loc;hn.lt
theorem Inv.sz(I:Inv X pins σ H s):X.s₀.heap.objs.size<=s.heap.objs.size:=Yr I.ok.above (Nat.le_of_lt I.lt)
theorem Inv.nofs(I:Inv X pins σ H s){a:Addr}(h:s.heap.objs.size<=a):a ∉ X.fs:=λhb=>by
 obtain⟨_,o,ho,_⟩:=I.ok.funs.mem hb;exact absurd (Yf (Yn ho) (Yr I.sz h)) (Nat.lt_irrefl _)
theorem Inv.cne(I:Inv X pins σ H s):∀x c,X.env.cells.lookup x=some c->c≠X.env.locals:=λx c e z=>by
 obtain⟨v,o,ho,hd⟩:=I.cell x c e;obtain⟨m,⟨o',es,ep,ho',hd',_⟩,_⟩:=I.loc;rw[z,ho']at ho;cases ho;rw[hd']at hd;cases hd
theorem Inv.funs(I:Inv X pins σ H s):s.heap.FunFrames X.base X.outer:=by
 have all:∀(l:List Env),(∀b∈frs l,b∈X.fs)->X.s₀.heap.FunFrames X.base l->s.heap.FunFrames X.base l:=by
  intro l;induction l with
  | nil=>intro _ _;trivial
  | cons env r ih=>
   intro hs hl;obtain⟨hk,⟨L,o,hf,hn,ho,hd⟩,hr⟩:=hl;have hL:L∈X.fs:=hs L (by unfold frs;rw[List.filterMap_cons,hf];exact List.mem_cons_self);obtain⟨sl,e⟩:=I.base.slot L o ho (I.ok.frf L hL) hL λz=>I.ok.exfs L z hL
   exact⟨hk,⟨L,_,hf,hn,e,hd⟩,ih (λb hb=>hs b (by unfold frs;rw[List.filterMap_cons,hf];exact List.mem_cons_of_mem _ hb)) hr⟩
 exact all X.outer (λ_ hb=>hb) I.ok.funs
theorem Inv.stack(I:Inv X pins σ H s):s.heap.FunFrames X.base X.stack:=by
 rcases I.ok.stk with e | ⟨e,hf⟩
 ·rw[e];exact I.funs
 ·rw[e];obtain⟨m,hn,_⟩:=I.loc;refine .cons (by rw[I.ok.kind];decide) hf hn ?_ I.funs;exact Heap.get?_none_of_le (Yr I.ok.bsz I.ok.above)
theorem Inv.stkSub(I:Inv X pins σ H s):∀b∈frs X.stack,b∈X.env.locals::X.fs:=λb hb=>by
 rcases I.ok.stk with e | ⟨e,hf⟩
 ·rw[e]at hb;exact List.mem_cons_of_mem _ hb
 ·rw[e]at hb;unfold frs at hb;rw[List.filterMap_cons,hf]at hb;exact hb
theorem Inv.stkFree(I:Inv X pins σ H s):∀b∈frs X.stack,H b=none:=λb hb=>by
 rcases Yj.mp (I.stkSub b hb) with e | hb
 ·rw[e];exact I.free
 ·obtain⟨_,o,ho,_⟩:=I.ok.funs.mem hb;exact I.base.free b o ho (I.ok.frf b hb) λz=>I.ok.exfs b z hb
theorem Inv.step{g':Array GenState}{t':Nat}{d':Drawn}{ch:List Addr}(I:Inv X pins σ H s)
  (hch:∀b∈ch,(b∈X.ex\/X.s₀.heap.objs.size<=b)/\b≠X.env.locals/\(∀x c,X.env.cells.lookup x=some c->c≠b)/\∀p∈X.pn++pins,p.1≠b)
  (keep:∀b o,b≠X.env.locals->b ∉ X.fs->b ∉ ch->s.heap.get? b=some o->H b=none->h'.get? b=some o)
  (slot:∀b o,b≠X.env.locals->b∈X.fs->b ∉ ch->s.heap.get? b=some o->H b=none->∃sl,h'.get? b=some { o with slots:=sl }) (free:∀b o,b ∉ ch->s.heap.get? b=some o->H b=none->H' b=none)
  (there:∀b o,b ∉ ch->s.heap.get? b=some o->∃o',h'.get? b=some o')
  (tups:∀b xs,H b=some (.tup xs)->H' b=some (.tup xs)) (frzs:∀b o u,H b=some (.frz o u)->H' b=some (.frz o u)) (tbls:∀b ps,H b=some (.tbl ps)->∃more,H' b=some (.tbl (ps++more)))
  (ns:∀m,s.heap.Ns X.env.locals m->h'.Ns X.env.locals m) (hok:HOk X.prog X.w H' h') (hg:AllBare g') :
  Inv X pins σ H' { s with heap:=h',gens:=g',drawn:=d',toks:=t' }:=by
 have neL:∀b o,X.s₀.heap.get? b=some o->b≠X.env.locals:=λb o e=>Y0 (Yf (Yn e) I.ok.above)
 have neC:∀b o,X.s₀.heap.get? b=some o->b ∉ X.ex->b ∉ ch:=λb o e hx hb=>by
  rcases(hch b hb).1 with z | z
  ·exact hx z
  ·exact absurd (Yf (Yn e) z) (Nat.lt_irrefl _)
 have cellK:∀x c,X.env.cells.lookup x=some c->∀v,s.heap.IsCell c v->h'.IsCell c v:=λx c e v ⟨o,ho,hd⟩=>by
  have nch:c ∉ ch:=λz=>(hch c z).2.2.1 x c e rfl
  by_cases hc:c∈X.fs
  ·obtain⟨sl,q⟩:=slot c o (I.cne x c e) hc nch ho (I.freeC x c e);exact⟨_,q,hd⟩
  ·exact⟨o,keep c o (I.cne x c e) hc nch ho (I.freeC x c e),hd⟩
 refine⟨I.ok,I.os,hg,⟨λb o e n hb hx=>?_,λb o e n hb hx=>?_,λb o e n hx=>?_,λb o e hx=>?_,λb xs e=>tups b xs (I.base.tups b xs e),λb o xs e=>frzs b o xs (I.base.frzs b o xs e),λb ps e=>?_⟩,?_,λx c e=>?_,?_,λx c e=>?_,λp hp=>?_,hok,I.len⟩
 ·exact keep b o (neL b o e) hb (neC b o e hx) (I.base.keep b o e n hb hx) (I.base.free b o e n hx)
 ·obtain⟨sl,e1⟩:=I.base.slot b o e n hb hx;obtain⟨sl',e2⟩:=slot b _ (neL b o e) hb (neC b o e hx) e1 (I.base.free b o e n hx);exact⟨sl',e2⟩
 ·obtain⟨o',e1⟩:=I.base.there b o e hx;exact free b o' (neC b o e hx) e1 (I.base.free b o e n hx)
 ·obtain⟨o',e1⟩:=I.base.there b o e hx;exact there b o' (neC b o e hx) e1
 ·obtain⟨m1,e1⟩:=I.base.tbls b ps e;obtain⟨m2,e2⟩:=tbls b _ e1;exact⟨m1++m2,by rw[e2,Array.append_assoc]⟩
 ·obtain⟨m,hn,hl⟩:=I.loc;refine⟨m,ns m hn,λi x v e1 e2 e3=>?_⟩;obtain⟨u,r,l⟩:=hl i x v e1 e2 e3;refine⟨u,r,?_⟩;rcases l with l | ⟨k,c,e,z⟩
  ·exact .inl l
  ·exact .inr ⟨k,c,e,cellK x c e _ z⟩
 ·obtain⟨v,z⟩:=I.cell x c e;exact⟨v,cellK x c e v z⟩
 ·obtain⟨m,⟨o,_,_,ho,_⟩,_⟩:=I.loc;exact free _ o (λz=>(hch _ z).2.1 rfl) ho I.free
 ·obtain⟨v,o,ho,hd⟩:=I.cell x c e;exact free c o (λz=>(hch c z).2.2.1 x c e rfl) ho (I.freeC x c e)
 ·obtain⟨e,n,ne,nf,d⟩:=I.pin p hp;have nch:p.1 ∉ ch:=λz=>(hch p.1 z).2.2.2 p hp rfl
  exact⟨keep p.1 p.2 ne nf nch e n,free p.1 p.2 nch e n,ne,nf,d⟩
theorem Inv.un{t':Nat}(I:Inv X pins σ H s)(u:Un X.fs [] H H' s.heap h')(hok:HOk X.prog X.w H' h'):Inv X pins σ H' { s with heap:=h',toks:=t' }:=by
 obtain⟨m,⟨o,es,ep,ho,r⟩,_⟩:=id I.loc;obtain⟨sl,hL⟩:=u.any ho I.free (by simp);exact I.step (g':=s.gens) (d':=s.drawn) (ch:=[]) (λ_ z=>nomatch z) (λb o _ hb _ e n=>u.keep b o e n hb (by simp)) (λb o _ hb _ e n=>u.slot b o e n hb (by simp)) (λb o _ e n=>u.free b o e n (by simp)) (λb o _ e=>u.there b o e (by simp)) u.tups u.frzs u.tbls (λm' hm=>by
  obtain⟨o',es',ep',ho',r'⟩:=hm;rw[ho]at ho';cases ho';exact⟨_,es',ep',hL,r'⟩) hok I.bare
theorem Inv.call{g':Array GenState}{t':Nat}{d':Drawn}{ch:List Addr}(I:Inv X pins σ H s)(u:Un (frs X.stack) ch H H' s.heap h')(hok:HOk X.prog X.w H' h')(hg:AllBare g')
  (hch:∀b∈ch,(b∈X.ex\/X.s₀.heap.objs.size<=b)/\b≠X.env.locals/\(∀x c,X.env.cells.lookup x=some c->c≠b)/\∀p∈X.pn++pins,p.1≠b) :
  Inv X pins σ H' { s with heap:=h',gens:=g',drawn:=d',toks:=t' }:=by
 obtain⟨m,⟨o,es,ep,ho,r⟩,_⟩:=id I.loc;obtain⟨sl,hL⟩:=u.any ho I.free λz=>(hch _ z).2.1 rfl
 exact I.step (ch:=ch) hch (λb o hL hb hc e n=>u.keep b o e n (λz=>(Yj.mp (I.stkSub b z)).elim hL hb) hc) (λb o _ _ hc e n=>u.any e n hc) (λb o hc e n=>u.free b o e n hc) (λb o hc e=>u.there b o e hc) u.tups u.frzs u.tbls (λm' hm=>by
  obtain⟨o',es',ep',ho',r'⟩:=hm;rw[ho]at ho';cases ho';exact⟨_,es',ep',hL,r'⟩) hok hg
theorem Inv.turned{t':Nat}{it:Addr}(I:Inv X pins σ H s)(k:∀b o,b≠it->s.heap.get? b=some o->h'.get? b=some o)(hn:H it=none)(hL:it≠X.env.locals)
  (h1:it∈X.ex\/X.s₀.heap.objs.size<=it) (h2:∀x c,X.env.cells.lookup x=some c->c≠it) (h3:∀p∈X.pn++pins,p.1≠it):Inv X pins σ H { s with heap:=h',toks:=t' }:=by
 have nit:∀b u,H b=some u->b≠it:=λb u e z=>by rw[z,hn]at e;cases e
 refine I.step (g':=s.gens) (d':=s.drawn) (ch:=[it]) (λb hb=>?_) (λb o _ _ hc e _=>k b o (λz=>hc (by simp[z])) e) (λb o _ _ hc e _=>⟨o.slots,k b o (λz=>hc (by simp[z])) e⟩) (λ_ _ _ _ n=>n)
  (λb o hc e=>⟨o,k b o (λz=>hc (by simp[z])) e⟩) (λ_ _ e=>e) (λ_ _ _ e=>e) (λb ps e=>⟨#[],by rw[e];simp⟩) (λm hm=>?_) (λb u e=>?_) I.bare
 ·have e:b=it:=by simpa using hb
  subst e;exact⟨h1,hL,h2,h3⟩
 ·obtain⟨o,es,ep,ho,r⟩:=hm;exact⟨o,es,ep,k _ o (Jc hL) ho,r⟩
 ·refine(I.hok b u e).stay (λc v hc q=>k c v ?_ q) (λ_ q=>q) λ_ _ q=>q
  rcases hc with z | z
  ·rw[z];exact nit b u e
  ·exact nit c _ z
theorem Inv.tok(I:Inv X pins σ H s)(t:Nat):Inv X pins σ H { s with toks:=t }:=I.un (h':=s.heap) (t':=t) Un.refl I.hok
theorem Inv.kept{t':Nat}(I:Inv X pins σ H s)(k:∀b u,s.heap.get? b=some u->h'.get? b=some u):Inv X pins σ H { s with heap:=h',toks:=t' }:=I.un (Un.kept k) (I.hok.kept k)
theorem Inv.laid{a:Addr}{o:HO}{t':Nat}(I:Inv X pins σ H s)(k:∀b u,s.heap.get? b=some u->h'.get? b=some u)(hp:s.heap.objs.size<=a)(new:ObjOk X.prog X.w (upd H a o) h' a o) :
  Inv X pins σ (upd H a o) { s with heap:=h',toks:=t' }:=I.un (Un.laid k hp (I.hok.fresh hp)) (I.hok.laid k hp new)
theorem Inv.write{x e:Addr}{o:HO}{t':Nat}(I:Inv X pins σ H s)(mu:Mut (H x))(he:e=x\/H e=some (.own x))(k:∀b u,b≠e->s.heap.get? b=some u->h'.get? b=some u)(heo:∃u,h'.get? e=some u)
  (new:ObjOk X.prog X.w (upd H x o) h' x o):Inv X pins σ (upd H x o) { s with heap:=h',toks:=t' }:=I.un (Un.write mu he k heo) (I.hok.write mu he k heo new)
theorem Inv.pins_of{pins':List (Addr×Obj)}(I:Inv X pins σ H s)(h:∀p∈pins',s.heap.get? p.1=some p.2/\H p.1=none/\p.1≠X.env.locals/\p.1 ∉ X.fs/\∀v,p.2.data≠.cell v):Inv X pins' σ H s:=
 ⟨I.ok,I.os,I.bare,I.base,I.loc,I.cell,I.free,I.freeC,λp hp=>(Jv.mp hp).elim (λz=>I.pin p (List.mem_append_left _ z)) (h p),I.hok,I.len⟩
theorem zmm{N:List Str}(hN:N.Nodup){i j:Nat}{x:Str}(a:N[i]? = some x)(b:N[j]? = some x):i=j:=by
 obtain⟨h1,e1⟩:=List.getElem?_eq_some_iff.mp a;obtain⟨h2,e2⟩:=List.getElem?_eq_some_iff.mp b;exact(List.getElem_inj hN).mp (e1.trans e2.symm)
theorem zoc{M:Model}{A:Around}{E:Value->Shared->Prop}{i:Nat}{x:Str}{v:V}{u:Value}{Q:Unit->Shared->Prop}(I:Inv X pins σ H s)(hN:X.N.Nodup)(hi:X.N[i]? = some x)(hx:Loc X.env.scope x)(r:RelV v u)
  (h:∀s',Inv X pins (σ.set i (some v)) H s'->(∃a,Heap.SameBut a s.heap s'.heap/\(a=X.env.locals\/X.env.cells.lookup x=some a))->Q () s') (hf:X.fn x=true\/X.env.scope.names.lookup x=some .local:=by first | exact .inl rfl | exact .inr rfl | assumption):wpAny M A (storeName X.env x u) Q E s:=by
 obtain⟨m,hn,hl⟩:=id I.loc;have hcls:(X.env.scope.kind == .class||(X.env.scope.kind == .module&&X.env.locals != X.env.globals))=false:=by rw[I.ok.kind];rfl
 have hiσ : i < σ.length:=by rw[I.len];exact(List.getElem?_eq_some_iff.mp hi).1
 have cne:=I.cne;have tracked:∀{a:Addr} {h':Heap},(∃o,s.heap.get? a=some o/\H a=none)->Heap.SameBut a s.heap h'->HOk X.prog X.w H h':=fun{a h'} ha hs b ob e=>by
  obtain⟨_,_,hfree⟩:=ha;refine(I.hok b ob e).stay (λc w' hc q=>(hs.2 c ?_).trans q) (λ_ q=>q) λ_ _ q=>q
  rintro rfl;rcases hc with rfl | hc
  ·rw[hfree]at e;cases e
  ·rw[hfree]at hc;cases hc
 rcases hx with hk | hk
 ·refine wpAny_storeName_local hk hn (λh' hn' hs=>?_) hcls;obtain⟨oL,_,_,hoL,_⟩:=id hn;refine h _ ⟨I.ok,I.os,I.bare,⟨λb o e n hb hx=>?_,λb o e n hb hx=>?_,I.base.free,λb o e hx=>?_,I.base.tups,I.base.frzs,I.base.tbls⟩,⟨_,hn',λj y v' e1 e2 e3=>?_⟩,λy c e=>?_,I.free,I.freeC,λp hp=>?_,tracked ⟨oL,hoL,I.free⟩ hs,by simpa using I.len⟩ ⟨_,hs,.inl rfl⟩
  ·exact(hs.2 b (Y0 (Yf (Yn e) I.ok.above))).trans (I.base.keep b o e n hb hx)
  ·obtain⟨sl,e1⟩:=I.base.slot b o e n hb hx;exact⟨sl,(hs.2 b (Y0 (Yf (Yn e) I.ok.above))).trans e1⟩
  ·obtain⟨o',e1⟩:=I.base.there b o e hx;exact⟨o',(hs.2 b (Y0 (Yf (Yn e) I.ok.above))).trans e1⟩
  ·by_cases hj:j=i
   ·subst hj;rw[hi]at e1;cases e1;rw[List.getElem?_set_self hiσ]at e2
    cases e2;exact⟨u,r,.inl ⟨hk,by simp⟩⟩
   ·rw[List.getElem?_set_ne (Jc hj)]at e2;obtain⟨u',r',q⟩:=hl j y v' e1 e2 e3;refine⟨u',r',?_⟩;rcases q with⟨k,e⟩ | ⟨k,c,e,z⟩
    ·refine .inl ⟨k,?_⟩;have:y≠x:=λe=>hj (zmm hN e1 (e ▸ hi))
     simp[this,e]
    ·exact .inr ⟨k,c,e,z.sameBut hs (cne y c e)⟩
  ·obtain⟨w',z⟩:=I.cell y c e;exact⟨w',z.sameBut hs (cne y c e)⟩
  ·obtain⟨e,n,ne,nf,d⟩:=I.pin p hp;exact⟨(hs.2 p.1 ne).trans e,n,ne,nf,d⟩
 ·have hfn:X.fn x=true:=by
   rcases hf with z | z
   ·exact z
   ·rw[z]at hk;cases hk
  obtain⟨c,hc⟩:=I.ok.has x (.inl hk);obtain⟨w',z⟩:=I.cell x c hc;refine wpAny_storeName_cell I.ok.kind hk hc z (λh' hc' hs=>?_);obtain⟨oc,hoc,hocd⟩:=id z;refine h { s with heap:=h' } ⟨I.ok,I.os,I.bare,⟨λb o e n hb hx=>?_,λb o e n hb hx=>?_,I.base.free,λb o e hx=>?_,I.base.tups,I.base.frzs,I.base.tbls⟩,⟨m,hn.sameBut hs (Jc (cne x c hc)),λj y v' e1 e2 e3=>?_⟩,λy c' e=>?_,I.free,I.freeC,λp hp=>?_,tracked ⟨oc,hoc,I.freeC x c hc⟩ hs,by simpa using I.len⟩ ⟨c,hs,.inr hc⟩
  ·exact(hs.2 b (Y0 (Yf (Yn e) (I.ok.cab x c hfn hc)))).trans (I.base.keep b o e n hb hx)
  ·obtain⟨sl,e1⟩:=I.base.slot b o e n hb hx;exact⟨sl,(hs.2 b (Y0 (Yf (Yn e) (I.ok.cab x c hfn hc)))).trans e1⟩
  ·obtain⟨o',e1⟩:=I.base.there b o e hx;exact⟨o',(hs.2 b (Y0 (Yf (Yn e) (I.ok.cab x c hfn hc)))).trans e1⟩
  ·by_cases hj:j=i
   ·subst hj;rw[hi]at e1;cases e1;rw[List.getElem?_set_self hiσ]at e2
    cases e2;exact⟨u,r,.inr ⟨.inl hk,c,hc,hc'⟩⟩
   ·rw[List.getElem?_set_ne (Jc hj)]at e2;obtain⟨u',r',q⟩:=hl j y v' e1 e2 e3;refine⟨u',r',?_⟩;rcases q with q | ⟨k,c',e,z'⟩
    ·exact .inl q
    ·refine .inr ⟨k,c',e,z'.sameBut hs ?_⟩;rintro rfl;exact hj (zmm hN e1 (I.ok.inj _ _ _ e hc ▸ hi))
  ·by_cases hcc:c'=c
   ·subst hcc;exact⟨_,hc'⟩
   ·obtain⟨w2,z2⟩:=I.cell y c' e;exact⟨w2,z2.sameBut hs hcc⟩
  ·obtain⟨e,n,ne,nf,d⟩:=I.pin p hp;refine⟨(hs.2 p.1 ?_).trans e,n,ne,nf,d⟩;intro q;rw[q,hoc]at e;have q':oc=p.2:=Jg e;exact d w' (by rw[<- q'];exact hocd)
theorem zjm{M:Model}{A:Around}{E:Value->Shared->Prop}{i:Nat}{x:Str}{v:V}{u:Value}{Q:Unit->Shared->Prop}(I:Inv X pins σ H s)(hN:X.N.Nodup)(hi:X.N[i]? = some x)(hx:Loc X.env.scope x)(r:RelV v u)
  (h:∀s',Inv X pins (σ.set i (some v)) H s'->Q () s') (hf:X.fn x=true\/X.env.scope.names.lookup x=some .local:=by first | exact .inl rfl | exact .inr rfl | assumption):wpAny M A (storeName X.env x u) Q E s:=
 zoc I hN hi hx r (λs' I' _=>h s' I') hf
theorem Inv.call'{s':Shared}{ch:List Addr}(I:Inv X pins σ H s)(ho:s'.os=s.os)(u:Un (frs X.stack) ch H H' s.heap s'.heap)(hok:HOk X.prog X.w H' s'.heap)(hg:AllBare s'.gens)
  (hch:∀b∈ch,(b∈X.ex\/X.s₀.heap.objs.size<=b)/\b≠X.env.locals/\(∀x c,X.env.cells.lookup x=some c->c≠b)/\∀p∈X.pn++pins,p.1≠b):Inv X pins σ H' s':=by
 obtain⟨h',g',d',t',o'⟩:=s';have e:o'=s.os:=ho;subst e;exact I.call (g':=g') (t':=t') (d':=d') u hok hg hch
end
abbrev XK:=Value->Option Addr->Hp->Prop
abbrev St:=List (Option V)
abbrev VK:=V->Hp->Prop
abbrev TE:=St->Hp->VK->Prop
abbrev TT:=St->Hp->(Bool->Hp->Prop)->Prop
abbrev TA:=St->Hp->(List V->Hp->Prop)->Prop
structure Ends where
 nx:St->Hp->Prop
 rt:VK
 bk:St->Hp->Prop:=λ_ _=>False
 ct:St->Hp->Prop:=λ_ _=>False
abbrev TS:=Ends->St->Hp->Prop
def EP(X:Cx)(pins:List (Addr×Obj))(σ : St)(Q:VK)(u:Value)(s':Shared):Prop:=∃v H',Inv X pins σ H' s'/\RelV v u/\Q v H'
def TP(X:Cx)(pins:List (Addr×Obj))(σ : St)(Q:Bool->Hp->Prop)(b:Bool)(s':Shared):Prop:=∃H',Inv X pins σ H' s'/\Q b H'
def AP(X:Cx)(pins:List (Addr×Obj))(σ : St)(Q:List V->Hp->Prop)(us:List Value)(s':Shared):Prop:=∃vs H',Inv X pins σ H' s'/\Vals vs us/\Q vs H'
def SP(X:Cx)(pins:List (Addr×Obj))(D:Ends)(f:Flow)(s':Shared):Prop:=
 match f with
 | .next=>∃σ' H',Inv X pins σ' H' s'/\D.nx σ' H'
 | .brk=>∃σ' H',Inv X pins σ' H' s'/\D.bk σ' H'
 | .cont=>∃σ' H',Inv X pins σ' H' s'/\D.ct σ' H'
 | .ret u=>∃v σ' H',Inv X pins σ' H' s'/\RelV v u/\D.rt v H'
def PE(X:Cx)(e:Expr)(t:TE):Prop:=
 ∀(pins:List (Addr×Obj)) (s:Shared) (σ : St) (H:Hp) (Q:VK),Inv X pins σ H s->t σ H Q->wpAny (model X.prog X.w) X.A (eval e X.env) (EP X pins σ Q) X.xe s
def PT(X:Cx)(e:Expr)(t:TT):Prop:=
 ∀(pins:List (Addr×Obj)) (s:Shared) (σ : St) (H:Hp) (Q:Bool->Hp->Prop),Inv X pins σ H s->t σ H Q->wpAny (model X.prog X.w) X.A (isTrue e X.env (eval e X.env)) (TP X pins σ Q) X.xe s
def PW(X:Cx)(e:Expr)(t:TT):Prop:=
 ∀(whole:Sem Value) (pins:List (Addr×Obj)) (s:Shared) (σ : St) (H:Hp) (Q:Bool->Hp->Prop),Inv X pins σ H s->t σ H Q->wpAny (model X.prog X.w) X.A (isTrue e X.env whole) (TP X pins σ Q) X.xe s
theorem PW.pt{X:Cx}{e:Expr}{t:TT}(h:PW X e t):PT X e t:=h _
def PA(X:Cx)(es:List Expr)(t:TA):Prop:=
 ∀(pos:Pos) (pins:List (Addr×Obj)) (s:Shared) (σ : St) (H:Hp) (Q:List V->Hp->Prop),Inv X pins σ H s->t σ H Q->wpAny (model X.prog X.w) X.A (spliced (backTo pos (starEach es X.env))) (AP X pins σ Q) X.xe s
def PS(X:Cx)(st:Stmt)(t:TS):Prop:=
 ∀(pins:List (Addr×Obj)) (s:Shared) (σ : St) (H:Hp) (D:Ends),Inv X pins σ H s->t D σ H->wpAny (model X.prog X.w) X.A (exec st X.env) (SP X pins D) X.xe s
def PSs(X:Cx)(st:List Stmt)(t:TS):Prop:=
 ∀(pins:List (Addr×Obj)) (s:Shared) (σ : St) (H:Hp) (D:Ends),Inv X pins σ H s->t D σ H->wpAny (model X.prog X.w) X.A (execs st X.env) (SP X pins D) X.xe s
theorem thn{α : Type}{t:Sem α}{Q Q' : α->Shared->Prop}{M:Model}{A:Around}{E:Value->Shared->Prop}{s:Shared}(h:wpAny M A t Q E s)(hQ:∀a s,Q a s->Q' a s):wpAny M A t Q' E s:=wpAny_mono h hQ λ_ _ x=>x
section
variable{X:Cx}
def tVar(i:Nat):TE:=λσ H Q=>∃v,σ[i]? = some (some v)/\Q v H
def tC(v:V):TE:=λ_ H Q=>Q v H
theorem zz2{i:Nat}{x:Str}{pos:Pos}(hN:X.N[i]? = some x)(hv:Vis X.env.scope x)(hd:(x == ("__debug__" : Str))=false:=by decide)(hcd:(x == ("__classdict__" : Str))=false:=by decide):PE X (.Name x pos) (tVar i):=by
 intro pins s σ H Q I h;obtain⟨v,e,h⟩:=h;obtain⟨m,hn,hl⟩:=I.loc;obtain⟨u,r,l⟩:=hl i x v hN e hv;have fin:EP X pins σ Q u s:=⟨v,H,I,r,h⟩;rcases l with⟨hk,hm⟩ | ⟨hk,c,hc,hcell⟩
 ·exact wpAny_Name (wpAny_loadName_local I.ok.kind hk hn hm fin) hd
 ·rcases hk with hk | hk
  ·exact wpAny_Name (wpAny_loadName_cell I.ok.kind hk hc hcell fin) hd
  ·exact wpAny_Name (wpAny_loadName_free I.ok.kind hk hc hcell fin hcd) hd
theorem zaf{i j pos}:PE X (.Constant (.int i) j pos) (tC (.int i)):=λ_ _ _ H _ I h=>wpAny_Constant_int ⟨.int i,H,I.tok _,⟨_,Z⟩,h⟩
theorem zd7{b j pos}:PE X (.Constant (.bool b) j pos) (tC (.bl b)):=λ_ _ _ H _ I h=>Constant_bool ⟨.bl b,H,I,Z,h⟩
theorem zmw{j pos}:PE X (.Constant .none j pos) (tC .non):=λ_ _ _ H _ I h=>Constant_none ⟨.non,H,I,Z,h⟩
theorem zgi{x j pos}:PE X (.Constant (.str x) j pos) (tC (.str x)):=λ_ _ _ H _ I h=>Calls.Constant_str ⟨.str x,H,I.tok _,⟨_,Z⟩,h⟩
def Gl(X:Cx)(x:Str):Prop:=X.env.kindOf x=some .globalImplicit
theorem zfw{E:Value->Shared->Prop}{pins:List (Addr×Obj)}{s:Shared}{σ : St}{H:Hp}{x:Str}{u:Value}{pos:Pos}{Q:Value->Shared->Prop}(I:Inv X pins σ H s)(hg:Gl X x)(hm:X.mg x=some u)(h:Q u s)
  (hd:(x == ("__debug__" : Str))=false:=by decide):wpAny (model X.prog X.w) X.A (eval (.Name x pos) X.env) Q E s:=
 Calls.Name_function_global I.ok.kind hg (Calls.loadGlobal_global (by rw[I.ok.glob];exact I.mod.glob.keeps I.bk) hm h) hd
theorem zft{E:Value->Shared->Prop}{pins:List (Addr×Obj)}{s:Shared}{σ : St}{H:Hp}{x:Str}{u:Value}{pos:Pos}{Q:Value->Shared->Prop}(I:Inv X pins σ H s)(hg:Gl X x)(hm:X.mg x=none)(hv:bootBuiltins x=some u)(h:Q u s)
  (hn:x≠"__name__":=by decide) (hd:(x == ("__debug__" : Str))=false:=by decide):wpAny (model X.prog X.w) X.A (eval (.Name x pos) X.env) Q E s:=by
 obtain⟨mb,h1,h2⟩:=I.mod.blt;exact Calls.Name_function_global I.ok.kind hg (Calls.loadGlobal_builtin (by rw[I.ok.glob];exact I.mod.glob.keeps I.bk) hm (by rw[I.ok.blt];exact h1.keeps I.bk) ((h2 x hn).trans hv) h) hd
theorem zn0{x:Str}{v:V}{u:Value}{pos:Pos}(hg:Gl X x)(hm:X.mg x=some u)(r:RelV v u)(hd:(x == ("__debug__" : Str))=false:=by decide):PE X (.Name x pos) (tC v):=
 λ_ _ _ H _ I h=>zfw I hg hm ⟨v,H,I,r,h⟩ hd
theorem zf2{x:Str}{v:V}{u:Value}{pos:Pos}(hg:Gl X x)(hm:X.mg x=none)(hv:bootBuiltins x=some u)(r:RelV v u)(hn:x≠"__name__":=by decide)(hd:(x == ("__debug__" : Str))=false:=by decide):PE X (.Name x pos) (tC v):=
 λ_ _ _ H _ I h=>zft I hg hm hv ⟨v,H,I,r,h⟩ hn hd
variable{a b:Expr}{ta tb:TE}{pos:Pos}
def PC(X:Cx)(op:CmpOp)(a b:Expr)(t:TE):Prop:=
 ∀(pins:List (Addr×Obj)) (s:Shared) (σ : St) (H:Hp) (Q:VK),Inv X pins σ H s->t σ H Q ->
  wpAny (model X.prog X.w) X.A (eval a X.env) (λv s₁=>wpAny (model X.prog X.w) X.A (eval b X.env) (λu s₂=>wpAny (model X.prog X.w) X.A (compareOp op v u) (EP X pins σ Q) X.xe s₂) X.xe s₁) X.xe s
def tB(t:TE):TT:=λσ H Q=>t σ H λx H1=>∃c,x=.bl c/\Q c H1
theorem zlx{op:CmpOp}{t:TE}(h:PC X op a b t)(h1:behindInMarks op b=false:=by first | exact nobehind _ (by decide) (by decide) | rfl):PT X (.Compare a [op] [b] pos) (tB t):=by
 intro pins s σ H Q I hw;refine wpAny_isTrue_Compare1 (thn (h pins s σ H _ I hw) λv s1 h1=>thn h1 λu s2 h2=>thn h2 λc s3 ⟨x,H1,I1,r1,q1⟩=>?_) h1;obtain⟨d,rfl,q⟩:=q1
 cases r1;exact Jq ⟨H1,I1,q⟩
theorem zb5{e:Expr}{t:TE}(h:PE X e t)(he:∀whole,isTrue e X.env whole=(do let v <- whole;standAt e.pos;holding [v] (truthy v)):=by intro _;rfl):PT X e (tB t):=by
 intro pins s σ H Q I hw;refine isTrue_plain (thn (h pins s σ H _ I hw) λv s1 ⟨x,H1,I1,r1,q1⟩=>?_) (he _);obtain⟨d,rfl,q⟩:=q1
 cases r1;exact Jq ⟨H1,I1,q⟩
variable{tA tB':TT}{rest:List Expr}
def tAnd(t u:TT):TT:=λσ H Q=>t σ H λc H1=>if c=true then u σ H1 Q else Q false H1
def tOr(t u:TT):TT:=λσ H Q=>t σ H λc H1=>if c=true then Q true H1 else u σ H1 Q
def tNot(t:TT):TT:=λσ H Q=>t σ H λc H1=>Q (!c) H1
theorem zhu(ha:PT X a tA):PW X (.BoolOp .And [a] pos) tA:=by
 intro wh pins s σ H Q I h;refine isTrue_and (thn (ha pins s σ H Q I h) λc s1 e=>?_)
 cases c with
 | true=>exact isTrue_and_nil e
 | false=>exact e
theorem zfm(ha:PT X a tA):PW X (.BoolOp .Or [a] pos) tA:=by
 intro wh pins s σ H Q I h;refine isTrue_or (thn (ha pins s σ H Q I h) λc s1 e=>?_)
 cases c with
 | false=>exact isTrue_or_nil e
 | true=>exact e
theorem zkp(ha:PT X a tA)(hb:PW X (.BoolOp .And (b::rest) pos) tB'):PW X (.BoolOp .And (a::b::rest) pos) (tAnd tA tB'):=by
 intro wh pins s σ H Q I h;refine isTrue_and (thn (ha pins s σ H _ I h) λc s1 ⟨H1,I1,q1⟩=>?_)
 cases c with
 | true=>exact hb wh pins s1 σ H1 Q I1 q1
 | false=>exact⟨H1,I1,q1⟩
theorem zfk(ha:PT X a tA)(hb:PW X (.BoolOp .Or (b::rest) pos) tB'):PW X (.BoolOp .Or (a::b::rest) pos) (tOr tA tB'):=by
 intro wh pins s σ H Q I h;refine isTrue_or (thn (ha pins s σ H _ I h) λc s1 ⟨H1,I1,q1⟩=>?_)
 cases c with
 | true=>exact⟨H1,I1,q1⟩
 | false=>exact hb wh pins s1 σ H1 Q I1 q1
theorem zch(ha:PT X a tA):PT X (.UnaryOp .Not a pos) (tNot tA):=by
 intro pins s σ H Q I h;exact isTrue_not (ha pins s σ H (λc H1=>Q (!c) H1) I h)
def z0x(ta tb:TE):TE:=λσ H Q=>ta σ H λx H1=>∃c,x=.bl c/\if c=true then tb σ H1 Q else Q (.bl false) H1
def z0z(ta:TE):TE:=λσ H Q=>ta σ H λx H1=>∃c,x=.bl c/\Q (.bl (!c)) H1
theorem zmd{op}{t:TE}(h:PE X a t):PE X (.BoolOp op [a] pos) t:=λpins s σ H Q I hw=>BoolOp_one (h pins s σ H Q I hw)
theorem zih(ha:PE X a ta)(hb:PE X (.BoolOp .And (b::rest) pos) tb):PE X (.BoolOp .And (a::b::rest) pos) (z0x ta tb):=by
 intro pins s σ H Q I h;refine BoolOp_and (thn (ha pins s σ H _ I h) λv s1 ⟨x,H1,I1,r1,q1⟩=>?_);obtain⟨c,rfl,q1⟩:=q1
 cases r1;refine Jq ?_
 cases c with
 | true=>exact hb pins s1 σ H1 Q I1 q1
 | false=>exact⟨.bl false,H1,I1,rfl,q1⟩
theorem zyf(ha:PE X a ta):PE X (.UnaryOp .Not a pos) (z0z ta):=by
 intro pins s σ H Q I h;refine UnaryOp_ (thn (ha pins s σ H _ I h) λv s1 ⟨x,H1,I1,r1,q1⟩=>?_);obtain⟨c,rfl,q1⟩:=q1
 cases r1;exact not_of (Jq ⟨.bl (!c),H1,I1,Z,q1⟩)
def tIf(t:TT)(ta tb:TE):TE:=λσ H Q=>t σ H λc H1=>if c=true then ta σ H1 Q else tb σ H1 Q
theorem zso{c:Expr}(hc:PT X c tA)(ha:PE X a ta)(hb:PE X b tb):PE X (.IfExp c a b pos) (tIf tA ta tb):=by
 intro pins s σ H Q I h;refine wpAny_IfExp (thn (hc pins s σ H _ I h) λd s1 ⟨H1,I1,q1⟩=>?_)
 cases d with
 | true=>exact ha pins s1 σ H1 Q I1 q1
 | false=>exact hb pins s1 σ H1 Q I1 q1
end
def SqL(K:W.Frag)(H:Hp)(a:Addr)(xs:List V):Prop:=
 Rd H a (.lst xs) \/
  ∃(o:Obj) (its:Array Value) (n:Nat),K.lookup a=some o/\o.cls=.type "list"/\o.dict=none/\o.data=.seq its n/\its.size<=sizeLine/\Vals xs its.toList
def SqT(K:W.Frag)(H:Hp)(a:Addr)(xs:List V):Prop:=
 Rd H a (.tup xs) \/
  ∃(o:Obj) (its:Array Value) (n:Nat),K.lookup a=some o/\o.cls=.type "tuple"/\o.data=.seq its n/\its.size<=sizeLine/\Vals xs its.toList
def absV:Value->Option V
 | .none=>some .non
 | .bool b=>some (.bl b)
 | .int i _=>some (.int i)
 | .str x _=>some (.str x)
 | .bytes b _=>some (.byt b)
 | .float b _=>some (.flt b)
 | .ref a=>some (.ref a)
 | .type n=>some (.ty n)
 | _=>none
theorem RelV.abs{x:V}{u:Value}(r:RelV x u):absV u=some x:=by
 cases x with
 | non=>cases r;rfl
 | bl _=>cases r;rfl
 | int _=>obtain⟨t,rfl⟩:=r;rfl
 | str _=>obtain⟨t,rfl⟩:=r;rfl
 | byt _=>obtain⟨t,rfl⟩:=r;rfl
 | flt _=>obtain⟨t,rfl⟩:=r;rfl
 | ref _=>cases r;rfl
 | ty _=>cases r;rfl
theorem RelV.inj{x y:V}{u:Value}(r:RelV x u)(q:RelV y u):x=y:=Jg (r.abs.symm.trans q.abs)
theorem Vals.inj:∀{xs ys:List V} {us:List Value},Vals xs us->Vals ys us->xs=ys
 | _,_,_,.nil,.nil=>rfl
 | _,_,_,.cons r t,.cons r' t'=>by rw[r.inj r',Vals.inj t t']
section
variable{X:Cx}{pins:List (Addr×Obj)}{σ : St}{H:Hp}{s:Shared}{a:Addr}{xs ys:List V}
theorem SqL.of{K:W.Frag}(h:H a=some (.lst xs)):SqL K H a xs:=.inl (.inl h)
theorem SqT.of{K:W.Frag}(h:H a=some (.tup xs)):SqT K H a xs:=.inl (.inl h)
theorem Inv.list(I:Inv X pins σ H s)(h:SqL X.K H a xs):∃its:List Value,Vals xs its/\PlainL s.heap a its.toArray/\xs.length<=sizeLine:=by
 rcases h with h | ⟨o,its,n,hk,hc,hd,hs,hz,r⟩
 ·obtain⟨z,its,n,r,e⟩:=h.ok I.hok;exact⟨its,r,⟨_,n,e,Z,Z,Z⟩,z⟩
 ·refine⟨its.toList,r,⟨o,n,I.kIn a o hk,hc,hd,by simpa using hs⟩,?_⟩;have e:=r.length;simp only[Array.length_toList]at e;omega
theorem Inv.tuple(I:Inv X pins σ H s)(h:SqT X.K H a xs):∃its:List Value,Vals xs its/\IsTup s.heap a its.toArray/\xs.length<=sizeLine:=by
 rcases h with h | ⟨o,its,n,hk,hc,hs,hz,r⟩
 ·obtain⟨z,its,r,p⟩:=h.ok I.hok;exact⟨its,r,p,z⟩
 ·refine⟨its.toList,r,⟨o,I.kIn a o hk,hc,n,by simpa using hs⟩,?_⟩;have e:=r.length;simp only[Array.length_toList]at e;omega
theorem Inv.list_inj(I:Inv X pins σ H s)(h:SqL X.K H a xs)(h':SqL X.K H a ys):xs=ys:=by
 obtain⟨its,r,⟨o,n,e,_,_,d⟩,_⟩:=I.list h;obtain⟨its',r',⟨o',n',e',_,_,d'⟩,_⟩:=I.list h';rw[e]at e';cases e';rw[d]at d';injection d' with d1 _
 have:its=its':=by simpa using Jx Array.toList d1
 subst this;exact r.inj r'
theorem Inv.tuple_inj(I:Inv X pins σ H s)(h:SqT X.K H a xs)(h':SqT X.K H a ys):xs=ys:=by
 obtain⟨its,r,⟨o,e,_,n,d⟩,_⟩:=I.tuple h;obtain⟨its',r',⟨o',e',_,n',d'⟩,_⟩:=I.tuple h';rw[e]at e';cases e';rw[d]at d';injection d' with d1 _
 have:its=its':=by simpa using Jx Array.toList d1
 subst this;exact r.inj r'
end
abbrev Cx.wish(X:Cx)(E:Value->Shared->Prop):Cx:={ X with xe:=E }
abbrev Cx.nox(X:Cx):Cx:=X.wish λ_ _=>False
theorem Cx.Ok.wish{X:Cx}(ok:X.Ok)(E:Value->Shared->Prop):(X.wish E).Ok:=
 ⟨ok.mod,ok.kind,ok.glob,ok.blt,ok.above,ok.inj,ok.has,ok.cab,ok.hd,ok.frames,ok.stk,ok.exf,ok.bs,ok.bsz,ok.noex,ok.exfs,ok.funs,ok.frf⟩
theorem Cx.Ok.unwish{X:Cx}{E:Value->Shared->Prop}(ok:(X.wish E).Ok):X.Ok:=
 ⟨ok.mod,ok.kind,ok.glob,ok.blt,ok.above,ok.inj,ok.has,ok.cab,ok.hd,ok.frames,ok.stk,ok.exf,ok.bs,ok.bsz,ok.noex,ok.exfs,ok.funs,ok.frf⟩
section
variable{X:Cx}{pins:List (Addr×Obj)}{σ : St}{H:Hp}{s:Shared}{E:Value->Shared->Prop}
theorem Inv.wish(I:Inv X pins σ H s)(E:Value->Shared->Prop):Inv (X.wish E) pins σ H s:=⟨I.ok.wish E,I.os,I.bare,I.base,I.loc,I.cell,I.free,I.freeC,I.pin,I.hok,I.len⟩
theorem Inv.unwish(I:Inv (X.wish E) pins σ H s):Inv X pins σ H s:=⟨I.ok.unwish,I.os,I.bare,I.base,I.loc,I.cell,I.free,I.freeC,I.pin,I.hok,I.len⟩
theorem SP.unwish{D:Ends}{f:Flow}{s':Shared}(h:SP (X.wish E) pins D f s'):SP X pins D f s':=by
 cases f with
 | next=>obtain⟨σ',H',I,q⟩:=h;exact⟨σ',H',I.unwish,q⟩
 | brk=>obtain⟨σ',H',I,q⟩:=h;exact⟨σ',H',I.unwish,q⟩
 | cont=>obtain⟨σ',H',I,q⟩:=h;exact⟨σ',H',I.unwish,q⟩
 | ret u=>obtain⟨v,σ',H',I,r,q⟩:=h;exact⟨v,σ',H',I.unwish,r,q⟩
theorem PSs.nox{st:List Stmt}{t:TS}(h:PSs X.nox st t):PSs X st t:=λpins s σ H D I hw=>
 wpAny_mono (h pins s σ H D (I.wish _) hw) (λ_ _ q=>q.unwish) λ_ _ z=>Jf z
end
section
variable{X:Cx}{st:Stmt}{rest:List Stmt}{t u:TS}{e:Expr}{te:TE}{pos:Pos}
def z0d:TS:=λD σ H=>D.nx σ H
def tSeq(t u:TS):TS:=λD σ H=>t { D with nx:=u D } σ H
theorem zav:PSs X [] z0d:=λ_ _ σ H _ I h=>wpAny_execs_nil ⟨σ,H,I,h⟩
theorem zad(h1:PS X st t)(h2:PSs X rest u):PSs X (st::rest) (tSeq t u):=by
 intro pins s σ H D I h;refine wpAny_execs_cons (thn (h1 pins s σ H { D with nx:=u D } I h) λf s1 q=>?_)
 cases f with
 | next=>
  obtain⟨σ',H',I',q⟩:=q;exact h2 pins s1 σ' H' D I' q
 | ret v=>exact q
 | brk=>exact q
 | cont=>exact q
theorem zae(h1:PS X st t):PSs X [st] t:=by
 intro pins s σ H D I h;refine wpAny_execs_cons (thn (h1 pins s σ H D I h) λf s1 q=>?_)
 cases f with
 | next=>exact wpAny_execs_nil q
 | ret v=>exact q
 | brk=>exact q
 | cont=>exact q
theorem Inv.quiet{pins:List (Addr×Obj)}{σ : St}{H:Hp}{s:Shared}(I:Inv X pins σ H s):interactive X.env=false:=by simp[interactive,I.ok.kind]
def zx4(te:TE):TS:=λD σ H=>te σ H λ_ H1=>D.nx σ H1
theorem zc6(he:PE X e te)(hs:swapsWith e none pos.line X.env=pure false:=by rfl):PS X (.Expr e pos) (zx4 te):=by
 intro pins s σ H D I h;exact wpAny_Expr_any (thn (he pins s σ H _ I h) λv s1 ⟨x,H1,I1,r1,q1⟩=>⟨σ,H1,I1,q1⟩) I.quiet hs
def tRet(te:TE):TS:=λD σ H=>te σ H D.rt
theorem zan(he:PE X e te):PS X (.Return (some e) pos) (tRet te):=by
 intro pins s σ H D I h;exact wpAny_Return_some (thn (he pins s σ H _ I h) λv s1 ⟨x,H1,I1,r1,q1⟩=>⟨x,σ,H1,I1,r1,q1⟩)
def tIfS(c:TT)(t u:TS):TS:=λD σ H=>c σ H λb H1=>if b=true then t D σ H1 else u D σ H1
theorem zba{c:Expr}{a b:List Stmt}{tc:TT}(hc:PT X c tc)(ha:PSs X a t)(hb:PSs X b u):PS X (.If c a b pos) (tIfS tc t u):=by
 intro pins s σ H D I h;refine wpAny_If (thn (hc pins s σ H _ I h) λd s1 ⟨H1,I1,q1⟩=>?_)
 cases d with
 | true=>exact ha pins s1 σ H1 D I1 q1
 | false=>exact hb pins s1 σ H1 D I1 q1
end
abbrev TG:=V->St->Hp->(St->Hp->Prop)->Prop
abbrev TGs:=List V->St->Hp->(St->Hp->Prop)->Prop
def PG(X:Cx)(target:Expr)(t:TG):Prop:=
 ∀(pins:List (Addr×Obj)) (s:Shared) (σ : St) (H:Hp) (v:V) (u:Value) (Q:St->Hp->Prop),Inv X pins σ H s->RelV v u->t v σ H Q ->
  wpAny (model X.prog X.w) X.A (assign target X.env u) (λ_ s'=>∃σ' H',Inv X pins σ' H' s'/\Q σ' H') X.xe s
def PGs(X:Cx)(ts:List Expr)(t:TGs):Prop:=
 ∀(pins:List (Addr×Obj)) (s:Shared) (σ : St) (H:Hp) (vs:List V) (us:List Value) (Q:St->Hp->Prop),Inv X pins σ H s->Vals vs us->t vs σ H Q ->
  wpAny (model X.prog X.w) X.A (assignInOrder ((assignEach ts X.env).map (·.2)) us) (λ_ s'=>∃σ' H',Inv X pins σ' H' s'/\Q σ' H') X.xe s
abbrev TIp:=V->V->Hp->VK->Prop
def PIp(X:Cx)(op:Operator)(t:TIp):Prop:=
 ∀(pins:List (Addr×Obj)) (s:Shared) (σ : St) (H:Hp) (x y:V) (v u:Value) (Q:VK),Inv X pins σ H s->RelV x v->RelV y u->t x y H Q ->
  wpAny (model X.prog X.w) X.A (inplaceOp op v u) (EP X pins σ Q) X.xe s
section
variable{X:Cx}{pos:Pos}
def za0(i:Nat):TG:=λv σ H Q=>Q (σ.set i (some v)) H
theorem zbb{i:Nat}{x:Str}(hN:X.N.Nodup)(hi:X.N[i]? = some x)(hx:Loc X.env.scope x)(hf:X.fn x=true\/X.env.scope.names.lookup x=some .local:=by first | exact .inl rfl | exact .inr rfl | assumption):PG X (.Name x pos) (za0 i):=by
 intro pins s σ H v u Q I r h;exact wpAny_assign_Name (zjm I hN hi hx r (λs' I'=>⟨_,H,I',h⟩) hf)
def gNil:TGs:=λvs σ H Q=>vs=[]/\Q σ H
def zle(t:TG)(u:TGs):TGs:=λvs σ H Q=>∃v r,vs=v::r/\t v σ H λσ' H'=>u r σ' H' Q
theorem zfz:PGs X [] gNil:=by
 intro pins s σ H vs us Q I r h;obtain⟨e,h⟩:=h;subst e
 cases r;exact assignInOrder_nil ⟨σ,H,I,h⟩
theorem zbw{e:Expr}{es:List Expr}{t:TG}{u:TGs}(h1:PG X e t)(h2:PGs X es u)
  (hs:(assignEach (e::es) X.env).map (·.2)=assign e X.env::(assignEach es X.env).map (·.2):=by rfl):PGs X (e::es) (zle t u):=by
 intro pins s σ H vs us Q I r h;obtain⟨v,vr,e1,h⟩:=h;subst e1
 cases r with
 | cons r rr=>
  rw[hs];refine assignInOrder_cons (thn (h1 pins s σ H _ _ _ I r h) λ_ s1 ⟨σ1,H1,I1,q1⟩=>?_);exact h2 pins s1 σ1 H1 _ _ Q I1 rr q1
def gTup(K:W.Frag)(n:Nat)(t:TGs):TG:=λv σ H Q=>∃a xs,v=.ref a/\SqT K H a xs/\xs.length=n/\t xs σ H Q
theorem zhz{es:List Expr}{k:Nat}{t:TGs}{n:Nat}(hc:X.calm=true)(h:PGs X es t)
  (hn:(assignEach es X.env).length=n:=by rfl) (hst:(assignEach es X.env).findIdx? (·.1)=none:=by rfl):PG X (.Tuple es k pos) (gTup X.K n t):=by
 intro pins s σ H v u Q I r hw;obtain⟨a,xs,e1,hq,hl,hw⟩:=hw;subst e1
 cases r;obtain⟨its,rv,ht,hz⟩:=I.tuple hq;refine assign_Tuple_tuple (I.ok.hd hc) ht (by simp[hn,<- hl,rv.length]) hst λh' hx=>?_
 have I1:Inv X pins σ H { s with heap:=h' }:=I.kept (t':=s.toks) λb o e=>hx b o (Y0 (Yn e)) e
 exact h pins _ σ H xs _ Q I1 (by simpa using rv) hw
def tAsg(te:TE)(g:TG):TS:=λD σ H=>te σ H λx H1=>g x σ H1 D.nx
theorem zaw{i:Nat}{x:Str}{e:Expr}{te:TE}{pos':Pos}(hN:X.N.Nodup)(hi:X.N[i]? = some x)(hx:Loc X.env.scope x)(he:PE X e te)(hs:swapsWith e (some (.Name x pos')) pos.line X.env=pure false:=by rfl)(hf:X.fn x=true\/X.env.scope.names.lookup x=some .local:=by first | exact .inl rfl | exact .inr rfl | assumption) :
  PS X (.Assign [.Name x pos'] e pos) (tAsg te (za0 i)):=by
 intro pins s σ H D I h;refine wpAny_Assign_Name (thn (he pins s σ H _ I h) λv s1 ⟨y,H1,I1,r1,q1⟩=>?_) hs;exact zjm I1 hN hi hx r1 (λs2 I2=>⟨_,H1,I2,q1⟩) hf
def tAug(i:Nat)(te:TE)(ti:TIp):TS:=λD σ H=>∃x,σ[i]? = some (some x)/\te σ H λy H1=>ti x y H1 λz H2=>D.nx (σ.set i (some z)) H2
theorem zyy{i:Nat}{x:Str}{e:Expr}{te:TE}{op:Operator}{ti:TIp}{pos':Pos}(hN:X.N.Nodup)(hi:X.N[i]? = some x)(hx:Loc X.env.scope x)(he:PE X e te)(ho:PIp X op ti)(hf:X.fn x=true\/X.env.scope.names.lookup x=some .local:=by first | exact .inl rfl | exact .inr rfl | assumption) :
  PS X (.AugAssign (.Name x pos') op e pos) (tAug i te ti):=by
 intro pins s σ H D I h;obtain⟨v,e1,h⟩:=h;obtain⟨m,hn,hl⟩:=I.loc;have vis:Vis X.env.scope x:=by rcases hx with k | k;exact .inl k;exact .inr (.inl k)
 obtain⟨u,r,l⟩:=hl i x v hi e1 vis;refine wpAny_AugAssign_Name ?_;have go:wpAny (model X.prog X.w) X.A (eval e X.env) (λw s₂=>wpAny (model X.prog X.w) X.A (inplaceOp op u w) (λr s₃=>wpAny (model X.prog X.w) X.A (storeName X.env x r) (λ_=>SP X pins D .next) X.xe s₃) X.xe s₂) X.xe s:=by
  refine thn (he pins s σ H _ I h) λw s1 ⟨y,H1,I1,r1,q1⟩=>?_
  refine thn (ho pins s1 σ H1 v y u w _ I1 r r1 q1) λz s2 ⟨zv,H2,I2,r2,q2⟩=>?_
  exact zjm I2 hN hi hx r2 (λs3 I3=>⟨_,H2,I3,q2⟩) hf
 rcases l with⟨hk,hm⟩ | ⟨hk,c,hc,hcell⟩
 ·exact wpAny_loadName_local I.ok.kind hk hn hm go
 ·rcases hk with hk | hk
  ·exact wpAny_loadName_cell I.ok.kind hk hc hcell go
  ·rcases hx with k | k
   ·have:X.env.scope.names.lookup x=some .free:=hk;rw[k]at this;cases this
   ·have:X.env.scope.names.lookup x=some .free:=hk;rw[k]at this;cases this
def ipI(f:Int->Int->Int):TIp:=λx y H Q=>∃i j,x=.int i/\y=.int j/\Q (.int (f i j)) H
theorem zxv:PIp X .Add (ipI λi j=>i+j):=by
 intro pins s σ H x y v u Q I r1 r2 h;obtain⟨i,j,e1,e2,q⟩:=h;subst e1;subst e2;obtain⟨t,rfl⟩:=r1;obtain⟨t',rfl⟩:=r2;exact iadd_int ⟨.int _,H,I.tok _,⟨_,rfl⟩,q⟩
end
section
variable{X:Cx}{pos:Pos}
def zxo(c:TT)(tb:TS):TS:=λD σ H=>∃W:Nat->St->Hp->Prop,(∃m,W m σ H)/\∀m σ H,W m σ H ->
 c σ H λb H1=>if b=true then ∃N:St->Hp->Prop,(∀σ' H',N σ' H'->∃m',m'<m/\W m' σ' H')/\tb { D with nx:=N,ct:=N,bk:=D.nx } σ H1 else D.nx σ H1
theorem zei{c:Expr}{body:List Stmt}{tc:TT}{tb:TS}(hp:PassesOwn (model X.prog X.w) X.A X.env X.xe)(hc:PT X c tc)(hb:PSs X body tb):PS X (.While c body [] pos) (zxo tc tb):=by
 intro pins s σ H D I h;obtain⟨W,⟨m0,w0⟩,turn⟩:=h;refine wpAny_While (codeAny_whileLoop (λn s'=>∃σ' H',Inv X pins σ' H' s'/\W n σ' H') ?_ m0 ⟨σ,H,I,w0⟩);rintro n s1 ⟨σ1,H1,I1,w1⟩;refine wpAny_passesOwn hp (thn (hc pins s1 σ1 H1 _ I1 (turn n σ1 H1 w1)) λb s2 ⟨H2,I2,q2⟩=>?_)
 cases b with
 | true=>
  obtain⟨N,hN,q2⟩:=q2;rw[Yl rfl];refine wpAny_passesOwn hp (thn (hb pins s2 σ1 H2 _ I2 q2) λf s3 q3=>?_)
  cases f with
  | next=>
   obtain⟨σ3,H3,I3,n3⟩:=q3;obtain⟨m',hm,w3⟩:=hN σ3 H3 n3;exact⟨m',hm,σ3,H3,I3,w3⟩
  | cont=>
   obtain⟨σ3,H3,I3,n3⟩:=q3;obtain⟨m',hm,w3⟩:=hN σ3 H3 n3;exact⟨m',hm,σ3,H3,I3,w3⟩
  | brk=>exact q3
  | ret v=>exact q3
 | false=>
  rw[Yh Yt];exact wpAny_execs_nil ⟨σ1,H2,I2,q2⟩
end
structure It where
 go:Nat->Hp->Prop
 yld:Nat->Hp->V->Hp->Prop
 stop:Nat->Hp->Prop
def FpOk(X:Cx)(pins:List (Addr×Obj))(H:Hp)(b:Addr):Prop:=
 H b=none/\b≠X.env.locals/\b ∉ X.fs/\(b∈X.ex\/X.s₀.heap.objs.size<=b)/\(∀x c,X.env.cells.lookup x=some c->c≠b)/\∀p∈X.pn++pins,p.1≠b
theorem Inv.fpOk{X:Cx}{pins:List (Addr×Obj)}{σ : St}{H H':Hp}{s:Shared}{b:Addr}(I:Inv X pins σ H s)(hb:s.heap.objs.size<=b)(hn:H' b=none):FpOk X pins H' b:=by
 refine⟨hn,Nat.ne_of_gt (Yf I.lt hb),I.nofs hb,.inr (Yr I.sz hb),λx c e z=>?_,λp hp z=>?_⟩
 ·obtain⟨v,q⟩:=I.cell x c e;exact absurd (Yf q.lt (by rw[z];exact hb)) (Nat.lt_irrefl _)
 ·exact absurd (Yf (Yn (I.pin p hp).1) (by rw[z];exact hb)) (Nat.lt_irrefl _)
structure Turn(P:Program)(w:World)(K:W.Frag)(tg:Expr)(J:It)(fp:List Addr)(it:Addr)(tn:Nat->Heap->Prop):Prop where
 mem:it∈fp
 obj:∀i h,tn i h->∀b∈fp,∃o,h.get? b=some o/\∀v,o.data≠.cell v
 keep:∀i h h',tn i h->(∀b∈fp,∀o,h.get? b=some o->h'.get? b=some o)->tn i h'
 item:∀(X:Cx),X.prog=P->X.w=w->X.K=K->X.calm=true->∀(i:Nat) (pins:List (Addr×Obj)) (s:Shared) (σ : St) (H:Hp) (E:Value->Shared->Prop),Inv X pins σ H s->(∀b∈fp,FpOk X pins H b)->tn i s.heap->J.go i H ->
  wpAny (model P w) X.A (pyNext (.ref it)) (λr s1=>∃u,r=some u /\
   wpAny (model P w) X.A (letOwnedTupleGo tg (.ref it) u) (λ_ s2=>∃x H',Inv X pins σ H' s2/\RelV x u/\J.yld i H x H'/\tn (i+1) s2.heap/\∀b∈fp,H' b=none) E s1) E s
 done:∀(X:Cx),X.prog=P->X.w=w->X.K=K->X.calm=true->∀(i:Nat) (pins:List (Addr×Obj)) (s:Shared) (σ : St) (H:Hp) (E:Value->Shared->Prop),Inv X pins σ H s->(∀b∈fp,FpOk X pins H b)->tn i s.heap->J.stop i H ->
  wpAny (model P w) X.A (pyNext (.ref it)) (λr s1=>r=none/\Inv X pins σ H s1) E s
 self:∀(A:Around) (i:Nat) (s:Shared) (Q:Value->Shared->Prop) (E:Value->Shared->Prop),tn i s.heap->Q (.ref it) s->wpAny (model P w) A (pyIter (.ref it)) Q E s
abbrev TI:=St->Hp->(It->Hp->Prop)->Prop
def PIE(X:Cx)(pins:List (Addr×Obj))(σ : St)(tg:Expr)(R:It->Hp->Prop)(itv:Value)(s2:Shared):Prop:=
 ∃(it:Addr) (fp:List Addr) (tn:Nat->Heap->Prop) (J:It) (H':Hp),itv=.ref it/\Inv X pins σ H' s2/\Turn X.prog X.w X.K tg J fp it tn/\tn 0 s2.heap/\(∀b∈fp,FpOk X pins H' b)/\R J H'
def PI(X:Cx)(tg iter:Expr)(wi:TI):Prop:=
 ∀(pins:List (Addr×Obj)) (s:Shared) (σ : St) (H:Hp) (R:It->Hp->Prop),Inv X pins σ H s->wi σ H R ->
  wpAny (model X.prog X.w) X.A (eval iter X.env) (λv s1=>wpAny (model X.prog X.w) X.A (pyIter v) (PIE X pins σ tg R) X.xe s1) X.xe s
theorem zqn{M:Model}{A:Around}{E:Value->Shared->Prop}{s:Shared}{tg:Expr}{it:Addr}{u:Value}{o:Obj}{n:String}{vs:Array Value}{Q:Unit->Shared->Prop}(ho:s.heap.get? it=some o)(hc:o.cls=.type n)(hd:o.data=.fields vs)
  (hn:["enumerate","zip","dict_itemiterator","dict_reverseitemiterator","odict_iterator","itertools.zip_longest","itertools.pairwise"].contains n=false) (hQ:Q () s):wpAny M A (letOwnedTupleGo tg (.ref it) u) Q E s:=by
 unfold letOwnedTupleGo
 cases tg <;> first
  | exact Yb hQ
  | (cases u <;> first
    | exact Yb hQ
    | (refine Ya (wpAny_load ho ?_)
       rw[hc,hd];show wpAny M A (if (["enumerate","zip","dict_itemiterator","dict_reverseitemiterator","odict_iterator","itertools.zip_longest","itertools.pairwise"].contains n&&vs[0]? == some (rawInt _))=true then _ else _) Q E s;rw[Yh (by intro h;rw[hn,Bool.false_and]at h;cases h)];exact Yb hQ))
def Itl(K:W.Frag)(a:Addr):It:=
 ⟨λi H=>∃xs x,SqL K H a xs/\xs[i]? = some x,λi H x H'=>H'=H/\∀xs,SqL K H a xs->xs[i]? = some x,λi H=>∃xs,SqL K H a xs/\xs.length<=i⟩
def Itt(K:W.Frag)(a:Addr):It:=
 ⟨λi H=>∃xs x,SqT K H a xs/\xs[i]? = some x,λi H x H'=>H'=H/\∀xs,SqT K H a xs->xs[i]? = some x,λi H=>∃xs,SqT K H a xs/\xs.length<=i⟩
def Itr(lo:Int)(n:Nat):It:=⟨λi _=>i<n,λi H x H'=>H'=H/\x=.int (lo+i),λi _=>n<=i⟩
theorem zo3{P:Program}{w:World}{K:W.Frag}{tg:Expr}(a it:Addr):Turn P w K tg (Itl K a) [it] it (λi h=>h.IsListIter it a i) where
 mem:=by simp
 obj:=λi h st b hb=>by
  have e:b=it:=by simpa using hb
  subst e;obtain⟨o,e,c,d⟩:=st;exact⟨o,e,λv z=>by rw[d]at z;cases z⟩
 keep:=λi h h' st k=>st.at λo e=>k it (by simp) o e
 item:=by
  intro X hP hw hK hc i pins s σ H E I hf st hg;subst hP hw hK;obtain⟨xs,x,hq,hx⟩:=hg;obtain⟨its,rv,p,hz⟩:=I.list hq;obtain⟨u,hu,ru⟩:=rv.get hx;obtain⟨f0,f1,f2,f3,f4,f5⟩:=hf it (by simp);refine wpAny_pyNext_list_item st p.isList (x:=u) (by simpa using hu) λh' st' sb=>?_
  have I1:Inv X pins σ H { s with heap:=h' }:=I.turned (t':=s.toks) (λb o hb e=>(sb.2 b hb).trans e) f0 f1 f3 f4 f5;obtain⟨o,e,c,d⟩:=id st';exact⟨u,Z,zqn (s:={ s with heap:=h' }) e c d (by decide) ⟨x,H,I1,ru,⟨Z,λys hy=>by rw[I.list_inj hy hq];exact hx⟩,st',λb hb=>(hf b hb).1⟩⟩
 done:=by
  intro X hP hw hK hc i pins s σ H E I hf st hg;subst hP hw hK;obtain⟨xs,hq,hx⟩:=hg;obtain⟨its,rv,p,hz⟩:=I.list hq;obtain⟨f0,f1,f2,f3,f4,f5⟩:=hf it (by simp);have hl:=rv.length;exact wpAny_pyNext_list_end (I.ok.hd hc) st p.isList (by simp;omega) λh' eb=>⟨rfl,I.turned (t':=s.toks) (λb o hb e=>eb b o hb e) f0 f1 f3 f4 f5⟩
 self:=λ_ _ _ _ _ st h=>wpAny_pyIter_listiter st h
theorem zm7{P:Program}{w:World}{K:W.Frag}{tg:Expr}(a it:Addr):Turn P w K tg (Itt K a) [it] it (λi h=>h.IsTupleIter it a i) where
 mem:=by simp
 obj:=λi h st b hb=>by
  have e:b=it:=by simpa using hb
  subst e;obtain⟨o,e,c,d⟩:=st;exact⟨o,e,λv z=>by rw[d]at z;cases z⟩
 keep:=λi h h' st k=>st.at λo e=>k it (by simp) o e
 item:=by
  intro X hP hw hK hc i pins s σ H E I hf st hg;subst hP hw hK;obtain⟨xs,x,hq,hx⟩:=hg;obtain⟨its,rv,p,hz⟩:=I.tuple hq;obtain⟨u,hu,ru⟩:=rv.get hx;obtain⟨f0,f1,f2,f3,f4,f5⟩:=hf it (by simp);refine wpAny_pyNext_tuple_item st (show s.heap.IsTuple a its.toArray from p) (x:=u) (by simpa using hu) λh' st' sb=>?_
  have I1:Inv X pins σ H { s with heap:=h' }:=I.turned (t':=s.toks) (λb o hb e=>(sb.2 b hb).trans e) f0 f1 f3 f4 f5;obtain⟨o,e,c,d⟩:=id st';exact⟨u,Z,zqn (s:={ s with heap:=h' }) e c d (by decide) ⟨x,H,I1,ru,⟨Z,λys hy=>by rw[I.tuple_inj hy hq];exact hx⟩,st',λb hb=>(hf b hb).1⟩⟩
 done:=by
  intro X hP hw hK hc i pins s σ H E I hf st hg;subst hP hw hK;obtain⟨xs,hq,hx⟩:=hg;obtain⟨its,rv,p,hz⟩:=I.tuple hq;obtain⟨f0,f1,f2,f3,f4,f5⟩:=hf it (by simp);have hl:=rv.length;exact wpAny_pyNext_tuple_end (I.ok.hd hc) st (show s.heap.IsTuple a its.toArray from p) (by simp;omega) λh' eb=>⟨rfl,I.turned (t':=s.toks) (λb o hb e=>eb b o hb e) f0 f1 f3 f4 f5⟩
 self:=λ_ _ _ _ _ st h=>wpAny_pyIter_tupleiter st h
theorem znv{P:Program}{w:World}{K:W.Frag}{tg:Expr}(it:Addr)(lo:Int)(n:Nat):Turn P w K tg (Itr lo n) [it] it (λi h=>IsRangeIter h it (lo+(i:Nat)*1) ((n:Int)-(i:Nat)) 1) where
 mem:=by simp
 obj:=λi h st b hb=>by
  have e:b=it:=by simpa using hb
  subst e;exact⟨_,st,λv z=>by
   have z':Data.fields _=Data.cell v:=z
   cases z'⟩
 keep:=λi h h' st k=>k it (by simp) _ st
 item:=by
  intro X hP hw hK hc i pins s σ H E I hf st hg;subst hP hw hK;obtain⟨f0,f1,f2,f3,f4,f5⟩:=hf it (by simp);have W:=Walks.range (prog:=X.prog) (w:=X.w) (I.ok.hd hc) it lo 1 n;refine W.item i s _ _ hg st λv h' tk hv st' kk=>?_
  obtain⟨t,rfl⟩:=hv;have I1:Inv X pins σ H { s with heap:=h',toks:=tk }:=I.turned (λb o hb e=>kk b o (by simpa using hb) e) f0 f1 f3 f4 f5;refine⟨_,Z,zqn (s:={ s with heap:=h',toks:=tk }) (n:="range_iterator") st' rfl rfl (by decide) ⟨.int (lo+i),H,I1,⟨t,?_⟩,⟨Z,Z⟩,st',λb hb=>(hf b hb).1⟩⟩;rw[Int.mul_one]
 done:=by
  intro X hP hw hK hc i pins s σ H E I hf st hg;subst hP hw hK;obtain⟨f0,f1,f2,f3,f4,f5⟩:=hf it (by simp);exact wpAny_pyNext_range_end (I.ok.hd hc) st (by have:n<=i:=hg;omega) λh' eb=>⟨rfl,I.turned (t':=s.toks) (λb o hb e=>eb b o hb e) f0 f1 f3 f4 f5⟩
 self:=λ_ _ _ _ _ st h=>wpAny_pyIter_rangeiter st h
section
variable{X:Cx}{tg:Expr}
def zuo(K:W.Frag)(tl:TE):TI:=λσ H R=>tl σ H λx H1=>∃a,x=.ref a/\(∃xs,SqL K H1 a xs)/\R (Itl K a) H1
def iTup(K:W.Frag)(tl:TE):TI:=λσ H R=>tl σ H λx H1=>∃a,x=.ref a/\(∃xs,SqT K H1 a xs)/\R (Itt K a) H1
theorem zv7{l:Expr}{tl:TE}(hl:PE X l tl):PI X tg l (zuo X.K tl):=by
 intro pins s σ H R I h;refine thn (hl pins s σ H _ I h) λv s1 ⟨x,H1,I1,r1,q1⟩=>?_
 obtain⟨a,e,⟨xs,hq⟩,q⟩:=q1;subst e
 cases r1;obtain⟨its,rv,p,hz⟩:=I1.list hq;refine wpAny_pyIter_list p.isList ?_;refine⟨s1.heap.objs.size,[s1.heap.objs.size],_,_,H1,Z,I1.kept (t':=s1.toks) λb o e=>Ye _ e,zo3 a _,⟨_,Yk _ rfl,Z,Z⟩,λb hb=>?_,q⟩;have e:b=s1.heap.objs.size:=by simpa using hb
 subst e;exact I1.fpOk (Yi _) (I1.hok.fresh (Yi _))
theorem zyn{l:Expr}{tl:TE}(hl:PE X l tl):PI X tg l (iTup X.K tl):=by
 intro pins s σ H R I h;refine thn (hl pins s σ H _ I h) λv s1 ⟨x,H1,I1,r1,q1⟩=>?_
 obtain⟨a,e,⟨xs,hq⟩,q⟩:=q1;subst e
 cases r1;obtain⟨its,rv,p,hz⟩:=I1.tuple hq;refine wpAny_pyIter_tuple (show s1.heap.IsTuple a its.toArray from p) ?_;refine⟨s1.heap.objs.size,[s1.heap.objs.size],_,_,H1,Z,I1.kept (t':=s1.toks) λb o e=>Ye _ e,zm7 a _,⟨_,Yk _ rfl,Z,Z⟩,λb hb=>?_,q⟩;have e:b=s1.heap.objs.size:=by simpa using hb
 subst e;exact I1.fpOk (Yi _) (I1.hok.fresh (Yi _))
theorem zly{pins:List (Addr×Obj)}{σ : St}{H:Hp}{s:Shared}{R:It->Hp->Prop}{E:Value->Shared->Prop}{lo hi:Int}{t u v:Tok}{tk:Nat}(I:Inv X pins σ H s)(h1 : -(2^62)<=lo)(h2:lo<2^62)(h3 : -(2^62)<=hi)(h4:hi<2^62)
  (q:R (Itr lo (hi-lo).toNat) H):wpAny (model X.prog X.w) X.A (pyIter (.ref s.heap.objs.size)) (PIE X pins σ tg R) E { s with heap:=s.heap.push { cls:=.type "range",data:=.fields #[.int lo t,.int hi u,.int 1 v] },toks:=tk }:=by
 refine wpAny_pyIter_range (IsRange.new ..) (small_one h1 h2 h3 h4) ?_;have I1:Inv X pins σ H { s with heap:=s.heap.push { cls:=.type "range",data:=.fields #[.int lo t,.int hi u,.int 1 v] },toks:=tk }:=I.kept λb o e=>Ye _ e
 refine⟨(s.heap.push { cls:=.type "range",data:=.fields #[.int lo t,.int hi u,.int 1 v] }).objs.size,[(s.heap.push { cls:=.type "range",data:=.fields #[.int lo t,.int hi u,.int 1 v] }).objs.size],_,_,H,Z,
  I1.kept (t':=tk) λb o e=>Ye _ e,znv _ lo (hi-lo).toNat,?_,λb hb=>?_,q⟩
 ·have e1:lo+((0:Nat):Int)*1=lo:=by simp
  have e2:(((hi-lo).toNat:Nat):Int)-((0:Nat):Int)=Builtin.Range.rangeSize lo hi 1:=by rw[rangeSize_one];split <;> omega
  show IsRangeIter _ _ (lo+((0:Nat):Int)*1) ((((hi-lo).toNat:Nat):Int)-((0:Nat):Int)) 1;rw[e1,e2];exact Yk _ rfl
 ·have e:b=(s.heap.push { cls:=.type "range",data:=.fields #[.int lo t,.int hi u,.int 1 v] }).objs.size:=by simpa using hb
  subst e;exact I1.fpOk (Yi _) (I1.hok.fresh (Yi _))
def zy4(ta:TA):TI:=λσ H R=>ta σ H λvs H1=>∃j:Int,vs=[.int j]/\-(2^62)<=j/\j<2^62/\R (Itr 0 j.toNat) H1
def zz7(ta:TA):TI:=λσ H R=>ta σ H λvs H1=>∃i j:Int,vs=[.int i,.int j]/\(-(2^62)<=i/\i<2^62/\-(2^62)<=j/\j<2^62)/\R (Itr i (j-i).toNat) H1
theorem zbq{a:Expr}{ta:TA}{p pos:Pos}(hg:Gl X "range")(hm:X.mg "range" = none)(ha:PA X [a] ta)(hs:starEach [a] X.env=[(false,eval a X.env)]:=by rfl):PI X tg (.Call (.Name "range" p) [a] [] pos) (zy4 ta):=by
 intro pins s σ H R I h;refine Call_ (zft I hg hm boot_range (PyProof.Rows.callWith_type1 (thn (ha pos pins s σ H _ I h) λus s1 ⟨vs,H1,I1,r1,q1⟩=>?_) hs rfl));obtain⟨j,e,q1,q2,q⟩:=q1;subst e
 cases r1 with
 | cons r rr=>
  cases rr;obtain⟨t,rfl⟩:=r;exact call_range_1 (zly I1 (by omega) (by omega) q1 q2 (by simpa using q))
theorem zox{a b:Expr}{ta:TA}{p pos:Pos}(hg:Gl X "range")(hm:X.mg "range" = none)(ha:PA X [a,b] ta)(hs:starEach [a,b] X.env=[(false,eval a X.env),(false,eval b X.env)]:=by rfl)(hs2:starEach [b] X.env=[(false,eval b X.env)]:=by rfl) :
  PI X tg (.Call (.Name "range" p) [a,b] [] pos) (zz7 ta):=by
 intro pins s σ H R I h;refine Call_ (zft I hg hm boot_range (PyProof.Rows.callWith_type1 (thn (ha pos pins s σ H _ I h) λus s1 ⟨vs,H1,I1,r1,q1⟩=>?_) (by rw[hs,hs2]) (by rw[hs2];rfl)));obtain⟨i,j,e,⟨q1,q2,q3,q4⟩,q⟩:=q1;subst e
 cases r1 with
 | cons r rr=>
  cases rr with
  | cons r' rr=>
   cases rr;obtain⟨t,rfl⟩:=r;obtain⟨t',rfl⟩:=r';exact call_range_2 (zly I1 q1 q2 q3 q4 q)
def tFor(wi:TI)(g:TG)(tb:TS):TS:=λD σ H=>wi σ H λJ H1=>∃W:Nat->Nat->St->Hp->Prop,(∃m,W 0 m σ H1)/\∀i m σ H,W i m σ H ->
 (J.stop i H/\D.nx σ H)\/(J.go i H/\∃N:St->Hp->Prop,(∀σ' H',N σ' H'->∃m',m'<m/\W (i+1) m' σ' H')/\∀x H',J.yld i H x H'->g x σ H' λσ2 H2=>tb { D with nx:=N,ct:=N,bk:=D.nx } σ2 H2)
def zjp(fp:List Addr)(h:Heap):List (Addr×Obj):=fp.filterMap λb=>(h.get? b).map λo=>(b,o)
theorem zd6{fp:List Addr}{h:Heap}{b:Addr}{o:Obj}(hb:b∈fp)(e:h.get? b=some o):(b,o)∈zjp fp h:=List.mem_filterMap.mpr ⟨b,hb,by rw[e];rfl⟩
theorem zon{fp:List Addr}{h:Heap}{p:Addr×Obj}(hp:p∈zjp fp h):p.1∈fp/\h.get? p.1=some p.2:=by
 obtain⟨b,hb,e⟩:=List.mem_filterMap.mp hp
 cases q:h.get? b with
 | none=>rw[q]at e;cases e
 | some o=>
  rw[q]at e;have e':(b,o)=p:=Jg e;subst e';exact⟨hb,q⟩
theorem Inv.pinned{pins:List (Addr×Obj)}{σ : St}{H:Hp}{s:Shared}{fp:List Addr}(I:Inv X pins σ H s)(hf:∀b∈fp,FpOk X pins H b)(ho:∀b∈fp,∃o,s.heap.get? b=some o/\∀v,o.data≠.cell v):Inv X (pins++zjp fp s.heap) σ H s:=
 I.pins_of λp hp=>(Jv.mp hp).elim (λz=>I.pin p (Yg _ z)) λz=>by
  obtain⟨hb,e⟩:=zon z;obtain⟨f0,f1,f2,_⟩:=hf p.1 hb;obtain⟨o,e',d⟩:=ho p.1 hb;rw[e]at e';cases e';exact⟨e,f0,f1,f2,d⟩
theorem Inv.unpinned{pins pl:List (Addr×Obj)}{σ : St}{H:Hp}{s:Shared}(I:Inv X (pins++pl) σ H s):Inv X pins σ H s:=I.pins_of λp hp=>I.pin p (Yg _ (List.mem_append_left _ hp))
theorem zdt{iter:Expr}{body:List Stmt}{wi:TI}{g:TG}{tb:TS}{pos:Pos}(hp:PassesOwn (model X.prog X.w) X.A X.env X.xe)(hc:X.calm=true)(hi:PI X tg iter wi)(hg:PG X tg g)(hb:PSs X body tb)
  (hs:∀x,foldedSetIterable iter X.env x=pure x:=by intro _;rfl):PS X (.For tg iter body [] pos) (tFor wi g tb):=by
 intro pins s σ H D I h;refine wpAny_For (thn (hi pins s σ H _ I h) λv s1 h1=>thn h1 λitv s2 h2=>?_) hs;obtain⟨it,fp,tn,J,H2,e,I2,T,st2,f2,W,⟨m0,w0⟩,turn⟩:=h2;subst e;have stat:∀{H':Hp},(∀b∈fp,H' b=none)->∀b∈fp,FpOk X pins H' b:=λhn b hb=>⟨hn b hb,(f2 b hb).2⟩
 refine codeAny_forLoop_any (λn s'=>∃i σ' H',Inv X pins σ' H' s'/\tn i s'.heap/\(∀b∈fp,H' b=none)/\W i n σ' H') ?_ m0 ⟨0,σ,H2,I2,st2,λb hb=>(f2 b hb).1,w0⟩;rintro n s3 ⟨i,σ3,H3,I3,st3,fr3,w3⟩;rcases turn i n σ3 H3 w3 with⟨stop,qn⟩ | ⟨go,N,hN,step⟩
 ·refine wpAny_passesOwn hp (thn (T.done X rfl rfl rfl hc i pins s3 σ3 H3 X.xe I3 (stat fr3) st3 stop) λr s4 ⟨hr,I4⟩=>?_);subst hr;exact wpAny_execs_nil ⟨σ3,H3,I4,qn⟩
 ·refine wpAny_passesOwn hp (thn (T.item X rfl rfl rfl hc i pins s3 σ3 H3 X.xe I3 (stat fr3) st3 go) λr s4 ⟨u,hr,h4⟩=>?_);subst hr;refine wpAny_passesOwn hp (thn h4 λ_ s5 ⟨x,H5,I5,r5,y5,st5,fr5⟩=>?_);have I5':=I5.pinned (stat fr5) (T.obj _ _ st5);refine wpAny_passesOwn hp (thn (hg _ s5 σ3 H5 x u _ I5' r5 (step x H5 y5)) λ_ s6 ⟨σ6,H6,I6,q6⟩=>?_);refine wpAny_passesOwn hp (thn (hb _ s6 σ6 H6 _ I6 q6) λf s7 q7=>?_);have again:∀{σ7:St} {H7:Hp},Inv X (pins++zjp fp s5.heap) σ7 H7 s7->N σ7 H7->∃m,m<n/\∃i σ' H',Inv X pins σ' H' s7/\tn i s7.heap/\(∀b∈fp,H' b=none)/\W i m σ' H':=fun{σ7 H7} I7 n7=>by
   obtain⟨m',hm,w7⟩:=hN σ7 H7 n7;refine⟨m',hm,i+1,σ7,H7,I7.unpinned,T.keep _ _ _ st5 λb hb o e=>(I7.pin (b,o) (Yg _ (Yg _ (zd6 hb e)))).1,λb hb=>?_,w7⟩;obtain⟨o,e,d⟩:=T.obj _ _ st5 b hb;exact(I7.pin (b,o) (Yg _ (Yg _ (zd6 hb e)))).2.1
  cases f with
  | next=>obtain⟨σ7,H7,I7,n7⟩:=q7;exact again I7 n7
  | cont=>obtain⟨σ7,H7,I7,n7⟩:=q7;exact again I7 n7
  | brk=>obtain⟨σ7,H7,I7,q7⟩:=q7;exact⟨σ7,H7,I7.unpinned,q7⟩
  | ret v=>obtain⟨x7,σ7,H7,I7,r7,q7⟩:=q7;exact⟨x7,σ7,H7,I7.unpinned,r7,q7⟩
end
theorem zji{K:W.Frag}{a:Addr}{xs:List V}{g:TG}{tb:TS}{D:Ends}{σ : St}{H:Hp}(Pv:Nat->St->Hp->Prop)(h0:Pv 0 σ H)(hl:∀i σ H,i<=xs.length->Pv i σ H->SqL K H a xs)
  (hs:∀i x σ H,xs[i]? = some x->Pv i σ H->g x σ H λσ2 H2=>tb { D with nx:=Pv (i+1),ct:=Pv (i+1),bk:=D.nx } σ2 H2) (hd:∀σ H,Pv xs.length σ H->D.nx σ H) :
  ∃W:Nat->Nat->St->Hp->Prop,(∃m,W 0 m σ H)/\∀i m σ H,W i m σ H ->
   ((Itl K a).stop i H/\D.nx σ H)\/((Itl K a).go i H/\∃N:St->Hp->Prop,(∀σ' H',N σ' H'->∃m',m'<m/\W (i+1) m' σ' H')/\∀x H',(Itl K a).yld i H x H'->g x σ H' λσ2 H2=>tb { D with nx:=N,ct:=N,bk:=D.nx } σ2 H2):=by
 refine⟨λi m σ H=>m=xs.length-i/\i<=xs.length/\Pv i σ H,⟨xs.length,by simp,Y2 _,h0⟩,?_⟩;rintro i m σ H ⟨rfl,hi,p⟩;have q:=hl i σ H hi p;by_cases hlt:i<xs.length
 ·refine .inr ⟨⟨xs,xs[i],q,by simp[hlt]⟩,Pv (i+1),λσ' H' p'=>⟨xs.length-(i+1),by omega,Z,hlt,p'⟩,λx H' y=>?_⟩;obtain⟨e,y⟩:=y;subst e;exact hs i x σ _ (y xs q) p
 ·have e:i=xs.length:=by omega
  subst e;exact .inl ⟨⟨xs,q,Yi _⟩,hd σ H p⟩
theorem ze2{lo:Int}{n:Nat}{g:TG}{tb:TS}{D:Ends}{σ : St}{H:Hp}(Pv:Nat->St->Hp->Prop)(h0:Pv 0 σ H)
  (hs:∀i σ H,i<n->Pv i σ H->g (.int (lo+i)) σ H λσ2 H2=>tb { D with nx:=Pv (i+1),ct:=Pv (i+1),bk:=D.nx } σ2 H2) (hd:∀σ H,Pv n σ H->D.nx σ H) :
  ∃W:Nat->Nat->St->Hp->Prop,(∃m,W 0 m σ H)/\∀i m σ H,W i m σ H ->
   ((Itr lo n).stop i H/\D.nx σ H)\/((Itr lo n).go i H/\∃N:St->Hp->Prop,(∀σ' H',N σ' H'->∃m',m'<m/\W (i+1) m' σ' H')/\∀x H',(Itr lo n).yld i H x H'->g x σ H' λσ2 H2=>tb { D with nx:=N,ct:=N,bk:=D.nx } σ2 H2):=by
 refine⟨λi m σ H=>m=n-i/\i<=n/\Pv i σ H,⟨n,by simp,Y2 _,h0⟩,?_⟩;rintro i m σ H ⟨rfl,hi,p⟩;by_cases hlt:i<n
 ·refine .inr ⟨hlt,Pv (i+1),λσ' H' p'=>⟨n-(i+1),by omega,Z,hlt,p'⟩,λx H' y=>?_⟩;obtain⟨e,y⟩:=y;subst e y;exact hs i σ _ hlt p
 ·have e:i=n:=by omega
  subst e;exact .inl ⟨Yi _,hd σ H p⟩
abbrev R2:=V->V->Hp->VK->Prop
def OpR(X:Cx)(f:Value->Value->Sem Value)(r:R2):Prop:=
 ∀(pins:List (Addr×Obj)) (s:Shared) (σ : St) (H:Hp) (x y:V) (v u:Value) (Q:VK),Inv X pins σ H s->RelV x v->RelV y u->r x y H Q ->
  wpAny (model X.prog X.w) X.A (f v u) (EP X pins σ Q) X.xe s
def UnR(X:Cx)(f:Value->Sem Value)(r:V->Hp->VK->Prop):Prop:=
 ∀(pins:List (Addr×Obj)) (s:Shared) (σ : St) (H:Hp) (x:V) (v:Value) (Q:VK),Inv X pins σ H s->RelV x v->r x H Q ->
  wpAny (model X.prog X.w) X.A (f v) (EP X pins σ Q) X.xe s
def CallR(X:Cx)(f:Value)(r:List V->Hp->VK->Prop):Prop:=
 ∀(pins:List (Addr×Obj)) (s:Shared) (σ : St) (H:Hp) (xs:List V) (us:List Value) (Q:VK),Inv X pins σ H s->Vals xs us->r xs H Q ->
  wpAny (model X.prog X.w) X.A (call f us) (EP X pins σ Q) X.xe s
def tOp(r:R2)(ta tb:TE):TE:=λσ H Q=>ta σ H λx H1=>tb σ H1 λy H2=>r x y H2 Q
def tUn(r:V->Hp->VK->Prop)(ta:TE):TE:=λσ H Q=>ta σ H λx H1=>r x H1 Q
def rI(C:Int->Int->Prop)(g:Int->Int->V):R2:=λx y H Q=>∃i j,x=.int i/\y=.int j/\C i j/\Q (g i j) H
def rI0(g:Int->Int->V):R2:=λx y H Q=>∃i j,x=.int i/\y=.int j/\Q (g i j) H
def rU(g:Int->V):V->Hp->VK->Prop:=λx H Q=>∃i,x=.int i/\Q (g i) H
section
variable{X:Cx}{a b c:Expr}{ta tb tc:TE}{pos:Pos}
theorem binT(ha:PE X a ta)(hb:PE X b tb){pins:List (Addr×Obj)}{s:Shared}{σ : St}{H:Hp}{R:V->V->Hp->Prop}(I:Inv X pins σ H s)
  (h:ta σ H λx H1=>tb σ H1 λy H2=>R x y H2) {Q:Value->Shared->Prop} {f:Value->Value->Sem Value}
  (hf:∀v u s2 x y H2,Inv X pins σ H2 s2->RelV x v->RelV y u->R x y H2->wpAny (model X.prog X.w) X.A (f v u) Q X.xe s2) :
  wpAny (model X.prog X.w) X.A (eval a X.env) (λv s₁=>wpAny (model X.prog X.w) X.A (eval b X.env) (λu s₂=>wpAny (model X.prog X.w) X.A (f v u) Q X.xe s₂) X.xe s₁) X.xe s:=by
 refine thn (ha pins s σ H _ I h) λv s1 ⟨x,H1,I1,r1,q1⟩=>?_
 refine thn (hb pins s1 σ H1 _ I1 q1) λu s2 ⟨y,H2,I2,r2,q2⟩=>?_
 exact hf v u s2 x y H2 I2 r1 r2 q2
theorem zaq{op:Operator}{r:R2}(ho:OpR X (binaryOp op) r)(ha:PE X a ta)(hb:PE X b tb):PE X (.BinOp a op b pos) (tOp r ta tb):=by
 intro pins s σ H Q I h;exact wpAny_BinOp (binT ha hb I h λv u s2 x y H2 I2 rx ry q=>ho pins s2 σ H2 x y v u Q I2 rx ry q)
theorem zng{op:UnaryOp}{r:V->Hp->VK->Prop}(ho:UnR X (unaryOp op) r)(ha:PE X a ta):PE X (.UnaryOp op a pos) (tUn r ta):=by
 intro pins s σ H Q I h;exact UnaryOp_ (thn (ha pins s σ H _ I h) λv s1 ⟨x,H1,I1,r1,q1⟩=>ho pins s1 σ H1 x v Q I1 r1 q1)
theorem opI{f:Value->Value->Sem Value}{C:Int->Int->Prop}{g:Int->Int->Int}
  (rule:∀(i j:Int) (t u:Tok) (s:Shared) (Q:Value->Shared->Prop) (E:Value->Shared->Prop),C i j->Q (.int (g i j) s.toks) { s with toks:=s.toks+1 }->wpAny (model X.prog X.w) X.A (f (.int i t) (.int j u)) Q E s) :
  OpR X f (rI C λi j=>.int (g i j)):=by
 intro pins s σ H x y v u Q I rx ry h;obtain⟨i,j,rfl,rfl,hc,q⟩:=h;obtain⟨t,rfl⟩:=rx;obtain⟨t',rfl⟩:=ry;exact rule i j t t' s _ _ hc ⟨.int (g i j),H,I.tok _,⟨_,rfl⟩,q⟩
theorem opI0{f:Value->Value->Sem Value}{g:Int->Int->Int}
  (rule:∀(i j:Int) (t u:Tok) (s:Shared) (Q:Value->Shared->Prop) (E:Value->Shared->Prop),Q (.int (g i j) s.toks) { s with toks:=s.toks+1 }->wpAny (model X.prog X.w) X.A (f (.int i t) (.int j u)) Q E s) :
  OpR X f (rI0 λi j=>.int (g i j)):=by
 intro pins s σ H x y v u Q I rx ry h;obtain⟨i,j,rfl,rfl,q⟩:=h;obtain⟨t,rfl⟩:=rx;obtain⟨t',rfl⟩:=ry;exact rule i j t t' s _ _ ⟨.int (g i j),H,I.tok _,⟨_,rfl⟩,q⟩
theorem opB0{f:Value->Value->Sem Value}{g:Int->Int->Bool}
  (rule:∀(i j:Int) (t u:Tok) (s:Shared) (Q:Value->Shared->Prop) (E:Value->Shared->Prop),Q (.bool (g i j)) s->wpAny (model X.prog X.w) X.A (f (.int i t) (.int j u)) Q E s) :
  OpR X f (rI0 λi j=>.bl (g i j)):=by
 intro pins s σ H x y v u Q I rx ry h;obtain⟨i,j,rfl,rfl,q⟩:=h;obtain⟨t,rfl⟩:=rx;obtain⟨t',rfl⟩:=ry;exact rule i j t t' s _ _ ⟨.bl (g i j),H,I,rfl,q⟩
def CDiv(i j:Int):Prop:=0<j/\j<1073741824
def CDivN(i j:Int):Prop:=j≠0/\j.natAbs<1073741824
def CPow(i j:Int):Prop:=0<=j/\j<=1000000/\i.natAbs<2^64
def CMul(i j:Int):Prop:=(-(2^64)<i/\i<2^64)\/(-(2^64)<j/\j<2^64)
theorem CMul.ok{i j:Int}(h:CMul i j):IntMulOk i j:=by
 rcases h with⟨h1,h2⟩ | ⟨h1,h2⟩
 ·exact .of_left (intBits_le_64 h1 h2)
 ·exact .of_right (intBits_le_64 h1 h2)
theorem zb4:OpR X (binaryOp .Add) (rI0 λi j=>.int (i+j)):=opI0 λ_ _ _ _ _ _ _ q=>add_int q
theorem zkl:OpR X (binaryOp .Sub) (rI0 λi j=>.int (i-j)):=opI0 λ_ _ _ _ _ _ _ q=>sub_int q
theorem zia:OpR X (binaryOp .Mult) (rI CMul λi j=>.int (i*j)):=opI λ_ _ _ _ _ _ _ hc q=>mul_int q hc.ok
theorem zcv:OpR X (binaryOp .FloorDiv) (rI CDiv λi j=>.int (i / j)):=opI λi j _ _ _ _ _ hc q=>by
 have h1:(0:Int)<j:=hc.1;have h2:j<1073741824:=hc.2;exact floordiv_int (by omega) (by rw[Int.fdiv_eq_ediv_of_nonneg i (by omega)];exact q) (.inl (PyProof.noPylong_small (by omega)))
theorem zrr:OpR X (binaryOp .FloorDiv) (rI CDivN λi j=>.int (i.fdiv j)):=opI λ_ _ _ _ _ _ _ hc q=>floordiv_int hc.1 q (.inl (PyProof.noPylong_small hc.2))
theorem zbr:OpR X (binaryOp .Mod) (rI (λ_ j=>0<j) λi j=>.int (i%j)):=opI λi j _ _ _ _ _ hc q=>by
 have h1:(0:Int)<j:=hc;exact mod_int' (by omega) (by rw[Int.fmod_eq_emod_of_nonneg i (by omega)];exact q)
theorem zhh:OpR X (binaryOp .Mod) (rI (λ_ j=>j≠0) λi j=>.int (i.fmod j)):=opI λ_ _ _ _ _ _ _ hc q=>mod_int' hc q
theorem ztx:OpR X (binaryOp .Pow) (rI CPow λi j=>.int (i^j.toNat)):=opI λ_ _ _ _ _ _ _ hc q=>pow_int_small hc.1 hc.2.1 hc.2.2 q
theorem unI{f:Value->Sem Value}{g:Int->Int}
  (rule:∀(i:Int) (t:Tok) (s:Shared) (Q:Value->Shared->Prop) (E:Value->Shared->Prop),Q (.int (g i) s.toks) { s with toks:=s.toks+1 }->wpAny (model X.prog X.w) X.A (f (.int i t)) Q E s) :
  UnR X f (rU λi=>.int (g i)):=by
 intro pins s σ H x v Q I rx h;obtain⟨i,rfl,q⟩:=h;obtain⟨t,rfl⟩:=rx;exact rule i t s _ _ ⟨.int (g i),H,I.tok _,⟨_,rfl⟩,q⟩
theorem zij:UnR X (unaryOp .USub) (rU λi=>.int (-i)):=unI λ_ _ _ _ _ q=>neg_int q
end
def scal:V->V->Bool
 | .non,.non=>true | .non,.int _=>true | .int _,.non=>true | .non,.bl _=>true | .bl _,.non=>true | .non,.str _=>true | .str _,.non=>true
 | .int _,.int _=>true | .bl _,.bl _=>true | .str _,.str _=>true | .byt _,.byt _=>true
 | .int _,.str _=>true | .str _,.int _=>true | .bl _,.str _=>true | .str _,.bl _=>true
 | _,_=>false
def rEq:R2:=λx y H Q=>scal x y=true/\Q (.bl (decide (x=y))) H
def rNe:R2:=λx y H Q=>scal x y=true/\Q (.bl (!decide (x=y))) H
theorem zjl{i j:Int}:decide (V.int i=V.int j)=(i == j):=by
 rw[Bool.eq_iff_iff];simp
theorem ztv{i j:Bool}:decide (V.bl i=V.bl j)=(i == j):=by
 rw[Bool.eq_iff_iff];simp
theorem zpd{i j:Str}:decide (V.str i=V.str j)=(i == j):=by
 rw[Bool.eq_iff_iff];simp
theorem zou{i j:Array UInt8}:decide (V.byt i=V.byt j)=(i.toList == j.toList):=by
 rw[Bool.eq_iff_iff]
 cases i
 cases j;simp
section
variable{X:Cx}{a b c:Expr}{ta tb tc:TE}{pos:Pos}
theorem zbi{pins:List (Addr×Obj)}{σ : St}{H:Hp}{s:Shared}{Q:VK}{k k':Bool}(I:Inv X pins σ H s)(q:Q (.bl k) H)(e:k=k'):EP X pins σ Q (.bool k') s:=by
 subst e;exact⟨.bl k,H,I,Z,q⟩
theorem zdq:OpR X (compareOp .Eq) rEq:=by
 intro pins s σ H x y v u Q I rx ry h;obtain⟨hs,q⟩:=h
 cases x with
 | non=>
  cases rx
  cases y with
  | non=>cases ry;exact PySem.EqNone.eq_none_none (zbi I q (by simp))
  | bl j=>cases ry;exact PySem.EqNone.eq_none_bool (zbi I q (by simp))
  | int j=>obtain⟨t',rfl⟩:=ry;exact PySem.EqNone.eq_none_int (zbi I q (by simp))
  | str j=>obtain⟨t',rfl⟩:=ry;exact PySem.EqNone.eq_none_str (zbi I q (by simp))
  | _=>exact absurd (show false=true from hs) Yt
 | bl i=>
  cases rx
  cases y with
  | non=>cases ry;exact PySem.EqNone.eq_bool_none (zbi I q (by simp))
  | bl j=>cases ry;exact eq_bool (zbi I q ztv)
  | str j=>obtain⟨t',rfl⟩:=ry;exact PySem.EqMixed.eq_bool_str (zbi I q (by simp))
  | _=>exact absurd (show false=true from hs) Yt
 | int i=>
  obtain⟨t,rfl⟩:=rx
  cases y with
  | non=>cases ry;exact PySem.EqNone.eq_int_none (zbi I q (by simp))
  | int j=>obtain⟨t',rfl⟩:=ry;exact eq_int (zbi I q zjl)
  | str j=>obtain⟨t',rfl⟩:=ry;exact PySem.EqMixed.eq_int_str (zbi I q (by simp))
  | _=>exact absurd (show false=true from hs) Yt
 | str i=>
  obtain⟨t,rfl⟩:=rx
  cases y with
  | non=>cases ry;exact PySem.EqNone.eq_str_none (zbi I q (by simp))
  | bl j=>cases ry;exact PySem.EqMixed.eq_str_bool (zbi I q (by simp))
  | int j=>obtain⟨t',rfl⟩:=ry;exact PySem.EqMixed.eq_str_int (zbi I q (by simp))
  | str j=>obtain⟨t',rfl⟩:=ry;exact eq_str (zbi I q zpd)
  | _=>exact absurd (show false=true from hs) Yt
 | byt i=>
  obtain⟨t,rfl⟩:=rx
  cases y with
  | byt j=>obtain⟨t',rfl⟩:=ry;exact W.eq_bytes (zbi I q zou)
  | _=>exact absurd (show false=true from hs) Yt
 | _=>cases y <;> exact absurd (show false=true from hs) Yt
theorem zkn:OpR X (compareOp .NotEq) rNe:=by
 intro pins s σ H x y v u Q I rx ry h;obtain⟨hs,q⟩:=h
 cases x with
 | non=>
  cases rx
  cases y with
  | non=>cases ry;exact PySem.EqNone.ne_none_none (zbi I q (by simp))
  | bl j=>cases ry;exact PySem.EqNone.ne_none_bool (zbi I q (by simp))
  | int j=>obtain⟨t',rfl⟩:=ry;exact PySem.EqNone.ne_none_int (zbi I q (by simp))
  | str j=>obtain⟨t',rfl⟩:=ry;exact PySem.EqNone.ne_none_str (zbi I q (by simp))
  | _=>exact absurd (show false=true from hs) Yt
 | bl i=>
  cases rx
  cases y with
  | non=>cases ry;exact PySem.EqNone.ne_bool_none (zbi I q (by simp))
  | bl j=>cases ry;exact ne_bool (zbi I q (Jx not ztv))
  | str j=>obtain⟨t',rfl⟩:=ry;exact PySem.EqMixed.ne_bool_str (zbi I q (by simp))
  | _=>exact absurd (show false=true from hs) Yt
 | int i=>
  obtain⟨t,rfl⟩:=rx
  cases y with
  | non=>cases ry;exact PySem.EqNone.ne_int_none (zbi I q (by simp))
  | int j=>obtain⟨t',rfl⟩:=ry;exact ne_int (zbi I q (Jx not zjl))
  | str j=>obtain⟨t',rfl⟩:=ry;exact PySem.EqMixed.ne_int_str (zbi I q (by simp))
  | _=>exact absurd (show false=true from hs) Yt
 | str i=>
  obtain⟨t,rfl⟩:=rx
  cases y with
  | non=>cases ry;exact PySem.EqNone.ne_str_none (zbi I q (by simp))
  | bl j=>cases ry;exact PySem.EqMixed.ne_str_bool (zbi I q (by simp))
  | int j=>obtain⟨t',rfl⟩:=ry;exact PySem.EqMixed.ne_str_int (zbi I q (by simp))
  | str j=>obtain⟨t',rfl⟩:=ry;exact ne_str (zbi I q (Jx not zpd))
  | _=>exact absurd (show false=true from hs) Yt
 | byt i=>
  obtain⟨t,rfl⟩:=rx
  cases y with
  | byt j=>obtain⟨t',rfl⟩:=ry;exact W.ne_bytes (zbi I q (Jx not zou))
  | _=>exact absurd (show false=true from hs) Yt
 | _=>cases y <;> exact absurd (show false=true from hs) Yt
theorem zh4:OpR X (compareOp .Lt) (rI0 λi j=>.bl (decide (i<j))):=opB0 λ_ _ _ _ _ _ _ q=>lt_int q
theorem zvs:OpR X (compareOp .LtE) (rI0 λi j=>.bl (decide (i<=j))):=opB0 λ_ _ _ _ _ _ _ q=>le_int q
theorem zhw:OpR X (compareOp .Gt) (rI0 λi j=>.bl (decide (j<i))):=opB0 λ_ _ _ _ _ _ _ q=>gt_int q
theorem zxn:OpR X (compareOp .Is) (λx y H Q=>y=.non/\Q (.bl (decide (x=.non))) H):=by
 intro pins s σ H x y v u Q I rx ry h;obtain⟨rfl,q⟩:=h
 cases ry;refine is_none_gen (zbi I q ?_)
 cases x <;> first
  | (cases rx;rfl)
  | (obtain⟨t,rfl⟩:=rx;rfl)
theorem zww:OpR X (compareOp .IsNot) (λx y H Q=>y=.non/\Q (.bl (!decide (x=.non))) H):=by
 intro pins s σ H x y v u Q I rx ry h;obtain⟨rfl,q⟩:=h
 cases ry;refine isnot_none_gen (zbi I q ?_)
 cases x <;> first
  | (cases rx;rfl)
  | (obtain⟨t,rfl⟩:=rx;rfl)
theorem nomark(b:Expr){op:CmpOp}(h:op≠.In:=by decide)(h2:op≠.NotIn:=by decide):behindInMarks op b=false:=by
 have e1:(op == CmpOp.In)=false:=by cases op <;> first | rfl | exact absurd rfl h
 have e2:(op == CmpOp.NotIn)=false:=by cases op <;> first | rfl | exact absurd rfl h2
 cases b <;> simp[behindInMarks,e1,e2]
theorem zdb{op:CmpOp}{r:R2}(ho:OpR X (compareOp op) r)(ha:PE X a ta)(hb:PE X b tb)(hm:behindInMarks op b=false):PE X (.Compare a [op] [b] pos) (tOp r ta tb):=by
 intro pins s σ H Q I h;exact wpAny_Compare1 (binT ha hb I h λv u s2 x y H2 I2 rx ry q=>ho pins s2 σ H2 x y v u Q I2 rx ry q) hm
def z0i(t:TE):TT:=λσ H Q=>t σ H λx H'=>∃k,x=.bl k/\Q k H'
theorem zap{op:CmpOp}{r:R2}(ho:OpR X (compareOp op) r)(ha:PE X a ta)(hb:PE X b tb)(hm:behindInMarks op b=false):PT X (.Compare a [op] [b] pos) (z0i (tOp r ta tb)):=by
 intro pins s σ H Q I h;refine wpAny_isTrue_Compare1 (thn (ha pins s σ H _ I h) λv s1 ⟨x,H1,I1,r1,q1⟩=>thn (hb pins s1 σ H1 _ I1 q1) λu s2 ⟨y,H2,I2,r2,q2⟩=>
  thn (ho pins s2 σ H2 x y v u _ I2 r1 r2 q2) λc s3 ⟨z,H3,I3,r3,k,e,q3⟩=>?_) hm
 subst e
 cases r3;exact Jq ⟨H3,I3,q3⟩
def zyj(r r':R2)(ta tb tc:TE):TE:=λσ H Q=>ta σ H λx H1=>tb σ H1 λy H2=>r x y H2 λz H3=>∃k,z=.bl k /\
 (if k=true then tc σ H3 λw' H4=>r' y w' H4 Q else Q (.bl false) H3)
theorem zs8{op op':CmpOp}{r r':R2}(ho:OpR X (compareOp op) r)(ho':OpR X (compareOp op') r')(ha:PE X a ta)(hb:PE X b tb)(hc:PE X c tc)
  (hm:lastMarks [op,op'] [b,c]=false:=by with_unfolding_all rfl):PE X (.Compare a [op,op'] [b,c] pos) (zyj r r' ta tb tc):=by
 intro pins s σ H Q I h;refine Compare_chain (thn (ha pins s σ H _ I h) λv s1 ⟨x,H1,I1,r1,q1⟩=>chain_link (thn (hb pins s1 σ H1 _ I1 q1) λu s2 ⟨y,H2,I2,r2,q2⟩=>
  thn (ho pins s2 σ H2 x y v u _ I2 r1 r2 q2) λd s3 ⟨z,H3,I3,r3,k,e,q3⟩=>?_)) hm
 subst e
 cases r3;refine Jq ?_
 cases k with
 | false=>exact ite_ff ⟨.bl false,H3,I3,rfl,q3⟩
 | true=>exact ite_tt (chain_last (thn (hc pins s3 σ H3 _ I3 q3) λw' s4 ⟨z',H4,I4,r4,q4⟩=>ho' pins s4 σ H4 y z' u w' Q I4 r2 r4 q4))
theorem zik:(sizeLine:Nat)<2^63:=by rw[sizeLine_eq];decide
theorem zi3{x:V}{us:List Value}(r:Vals [x] us):∃u,us=[u]/\RelV x u:=by
 cases r with
 | cons r1 r2=>cases r2;exact⟨_,rfl,r1⟩
theorem zfh:CallR X (.builtin "abs") (λxs H Q=>∃i,xs=[.int i]/\Q (.int (if i<0 then -i else i)) H):=by
 intro pins s σ H xs us Q I r h;obtain⟨i,rfl,q⟩:=h;obtain⟨u,rfl,t,rfl⟩:=zi3 r;exact call_abs_int λu tk=>⟨.int (if i<0 then -i else i),H,I.tok _,⟨_,rfl⟩,q⟩
end
structure ObjM(h:Heap)(x dx C:Addr)(mA:Str->Option Value):Prop where
 obj:h.get? x=some (W.instObj C dx)
 ns:h.Ns1 dx mA
 ne:dx≠x
theorem zpm{h:Heap}{dx:Addr}{mA:Str->Option Value}(n:h.Ns1 dx mA):∃od,h.get? dx=some od/\∀name,W.lookIn name od=some (mA name):=by
 obtain⟨o,es,ep,ho,hd,hk,_,hm⟩:=n;refine⟨o,ho,λname=>?_⟩;have e:=hm name;unfold nsFind findBy at e;rw[<- Array.find?_toList]at e;unfold W.lookIn;rw[hd];dsimp only;split
 ·rename_i y q
  rw[q]at e;exact Jx some e
 ·rename_i q
  rw[q]at e;have a:es.toList.any (·.refKey)=false:=by
   rw[List.any_eq_false];intro y hy;obtain⟨z,t,hkey⟩:=hk y (Array.mem_toList_iff.mp hy);simp[DictEntry.refKey,hkey]
  have a':¬es.toList.any (·.refKey)=true:=by rw[a];exact Yt
  rw[Yh a'];exact Jx some e
theorem ObjM.look{h:Heap}{x dx C:Addr}{mA:Str->Option Value}(I:ObjM h x dx C mA):∃od,W.InstAt h x (W.instObj C dx) C (some od)/\∀name,W.lookIn name od=some (mA name):=
 let ⟨od,ho,hl⟩:=zpm I.ns
 ⟨od,⟨I.obj,Z,Z,ho⟩,hl⟩
section
variable{prog:Program}{w:World}{A:Around}{E:Value->Shared->Prop}{s:Shared}{K:W.Frag}{x dx C f:Addr}{mA:Str->Option Value}{name:Str}{v:Value}
theorem zv4{expr:Bool}{Q:Value->Shared->Prop}(X:K.In s.heap)(I:ObjM s.heap x dx C mA)(hg:W.plainGet K C name=true)(hh:W.hasDictIn K C=true)
  (ha:W.findIn K (.ref C) name=some none) (hv:mA name=some v) (hv':W.handedIn v=true) (h:Q v { s with toks:=s.toks+1 }) :
  wpAny (model prog w) A (getAttr (.ref x) name expr) Q E s:=by
 obtain⟨od,J,hl⟩:=I.look;exact W.get_value X J (W.plainGet_of hg).1 (W.findObj_own hh ha rfl (by rw[hl,hv])) hv' h
theorem zsy{pl:Sem Bool}{Q:Value×List Value->Shared->Prop}(X:K.In s.heap)(I:ObjM s.heap x dx C mA)(hg:W.plainGet K C name=true)
  (hf:W.findIn K (.ref C) name=some (some (.ref f))) (ht:W.isFn K (.ref f)=true) (hv:mA name=none) (h:Q (.ref f,[.ref x]) s) :
  wpAny (model prog w) A (getMethod (.ref x) name pl) Q E s:=by
 obtain⟨od,J,hl⟩:=I.look;exact W.method_fn X J (W.plainGet_of hg).1 (W.plainGet_of hg).2 hf (beq_iff_eq.mp ht) (by show (W.lookIn name od).map (·.isSome)=some false;rw[hl,hv];rfl) h
theorem zvd{ns:List Str}{Q:Unit->Shared->Prop}(X:K.In s.heap)(I:ObjM s.heap x dx C mA)
  (hs:W.findIn K (.ref C) "__setattr__" = some (some (.builtin "object.__setattr__"))) (hp:W.plainOver K C=true) (ht:W.takerIn K C name=some none) (hh:W.hasDictIn K C=true)
  (hw:PySem.Within mA ns) (hsz:ns.length<=sizeLine)
  (h:∀h',ObjM h' x dx C (λy=>if y=name then some v else mA y)->Heap.SameBut dx s.heap h'->Q () { s with heap:=h',toks:=s.toks+2 }) :
  wpAny (model prog w) A (setAttr (.ref x) name v) Q E s:=by
 obtain⟨od,J,hl⟩:=I.look;refine W.set_plain X J hs (W.osa_open (s:={ s with toks:=s.toks+1 }) (r:=none) X J hp ht λb=>?_);obtain⟨cd,hc,hd'⟩:=W.any_some hh;have hx:s.heap.get? x=some ⟨.ref C,some dx,.plain,#[]⟩:=I.obj;refine Ya (Yb (Ya (Ya (wpAny_loadPart hx (Ya (W.Looks.here (s:={ s with toks:=s.toks+1 }) (W.looks_clsIn X hc) ?_))))));rw[hd'];refine Yb (a:=some dx) (Ya (Yb (Ya ?_)));refine wpAny_nsSet1 (s:={ s with toks:=s.toks+1 }) I.ns λh' hn2 hs2=>?_
 obtain⟨oD,esD,epD,hoD,hdD,hcD⟩:=hn2.count (PySem.Within.cons name v hw);refine Ya (wpAny_lookBehind hoD (by rw[hdD];exact pastItsLine_dict (Yr hcD (by rw[Y5];omega))) ?_);exact Yb (h _ ⟨(hs2.2 _ (Jc I.ne)).trans I.obj,hn2,I.ne⟩ hs2)
theorem zrm{R:Result->Shared->Prop}{vs:List Value}{kw:List (Str×Value)}(X:K.In s.heap)(hm:W.makesIn K C=true)
  (hi:W.findIn K (.ref C) "__init__" = some (some (.ref f))) (hf:W.typeIn K (.ref f)=some (.type "function"))
  (h:codeAny (model prog w) (A.under (.builtin "type.__call__" ⟨.ref C::vs,kw⟩)) (.call (.ref f) ⟨.ref (s.heap.objs.size+1)::vs,kw⟩) (W.InitBack (s.heap.objs.size+1) R)
   { s with heap:=(s.heap.push W.emptyDict).push (W.instObj C s.heap.objs.size) }) :
  codeAny (model prog w) A (.call (.ref C) ⟨vs,kw⟩) R s:=by
 obtain⟨hh,g,d,t,os⟩:=s;exact W.make_core (W.makes_of X hm) (W.looks_findIn X hi) (λself=>W.bind_fn X self hf) (.inl rfl) h
theorem zo1{R:Result->Shared->Prop}(X:K.In s.heap)(hm:W.makesIn K C=true)
  (hi:W.findIn K (.ref C) "__init__" = some (some (.builtin "object.__init__")))
  (hb:∀self,W.Looks (model prog w) s.heap (bindSpecial (.builtin "object.__init__") self) (.builtin "object.__init__",[self]))
  (h:codeAny (model prog w) (A.under (.builtin "type.__call__" ⟨[.ref C],[]⟩)) (.call (.builtin "object.__init__") ⟨[.ref (s.heap.objs.size+1)],[]⟩) (W.InitBack (s.heap.objs.size+1) R)
   { s with heap:=(s.heap.push W.emptyDict).push (W.instObj C s.heap.objs.size) }) :
  codeAny (model prog w) A (.call (.ref C) ⟨[],[]⟩) R s:=by
 obtain⟨hh,g,d,t,os⟩:=s;exact W.make_core (W.makes_of X hm) (W.looks_findIn X hi) hb (.inr ⟨Z,Z⟩) h
end
def putF(f:Str)(v:V):List (Str×V)->List (Str×V)
 | []=>[(f,v)]
 | (g,x)::r=>if g=f then(g,v)::r else(g,x)::putF f v r
theorem zhd(f g:Str)(v:V):∀fs:List (Str×V),(putF f v fs).lookup g=if g=f then some v else fs.lookup g
 | []=>by
  show List.lookup g [(f,v)]=_;by_cases h:g=f
  ·have hb:(g == f)=true:=beq_iff_eq.mpr h;simp only[List.lookup,hb,if_pos h]
  ·have hb:(g == f)=false:=beq_eq_false_iff_ne.mpr h;simp only[List.lookup,hb,if_neg h]
 | (k,x)::r=>by
  have ih:=zhd f g v r;rw[show putF f v ((k,x)::r)=(if k=f then(k,v)::r else(k,x)::putF f v r) from rfl];by_cases hk:k=f
  ·rw[Yl hk];by_cases h:g=k
   ·have hb:(g == k)=true:=beq_iff_eq.mpr h;simp only[List.lookup,hb,if_pos (h.trans hk)]
   ·have hb:(g == k)=false:=beq_eq_false_iff_ne.mpr h;simp only[List.lookup,hb,if_neg (λe:g=f=>h (e.trans hk.symm))]
  ·rw[Yh hk];by_cases h:g=k
   ·have hb:(g == k)=true:=beq_iff_eq.mpr h;simp only[List.lookup,hb,if_neg (λe:g=f=>hk (h.symm.trans e))]
   ·have hb:(g == k)=false:=beq_eq_false_iff_ne.mpr h;simp only[List.lookup,hb];exact ih
theorem zhm(f:Str)(v:V):∀fs:List (Str×V),f∈(putF f v fs).map (·.1)/\∀g,g∈fs.map (·.1)->g∈(putF f v fs).map (·.1)
 | []=>⟨by simp[putF],λg h=>by simp at h⟩
 | (k,x)::r=>by
  obtain⟨i1,i2⟩:=zhm f v r;rw[show putF f v ((k,x)::r)=(if k=f then(k,v)::r else(k,x)::putF f v r) from rfl];by_cases hk:k=f
  ·rw[Yl hk];subst hk;exact⟨by simp,λg h=>by simpa using h⟩
  ·rw[Yh hk];refine⟨?_,λg h=>?_⟩
   ·rw[Yz];exact List.mem_cons_of_mem _ i1
   ·rw[Yz]at h ⊢;rcases Yj.mp h with e | e
    ·exact Yj.mpr (.inl e)
    ·exact List.mem_cons_of_mem _ (i2 g e)
theorem zhf(f:Str)(v:V):∀fs:List (Str×V),(putF f v fs).length<=fs.length+1
 | []=>by simp[putF]
 | (k,x)::r=>by
  have ih:=zhf f v r;rw[show putF f v ((k,x)::r)=(if k=f then(k,v)::r else(k,x)::putF f v r) from rfl];by_cases hk:k=f
  ·rw[Yl hk,Y5,Y5];omega
  ·rw[Yh hk,Y5,Y5];omega
theorem RelO.some_of{v:V}{o:Option Value}(r:RelO (some v) o):∃u,o=some u/\RelV v u:=by
 cases o with
 | none=>exact(show False from r).elim
 | some u=>exact⟨u,rfl,r⟩
theorem RelO.none_of{o:Option Value}(r:RelO none o):o=none:=by
 cases o with
 | none=>rfl
 | some u=>exact(show False from r).elim
theorem zqq{v:V}{u:Value}(r:RelV v u):W.handedIn u=true:=by
 cases v with
 | non=>cases (show u=Value.none from r);rfl
 | bl b=>cases (show u=Value.bool b from r);rfl
 | int i=>obtain⟨t,e⟩:=(show ∃t,u=Value.int i t from r);cases e;rfl
 | str x=>obtain⟨t,e⟩:=(show ∃t,u=Value.str x t from r);cases e;rfl
 | byt b=>obtain⟨t,e⟩:=(show ∃t,u=Value.bytes b t from r);cases e;rfl
 | flt b=>obtain⟨t,e⟩:=(show ∃t,u=Value.float b t from r);cases e;rfl
 | ref a=>cases (show u=Value.ref a from r);rfl
 | ty n=>cases (show u=Value.type n from r);rfl
section
variable{P:Program}{w:World}{H H':Hp}{h h':Heap}{a C dx:Addr}{fs fs':List (Str×V)}
theorem zhs(hok:HOk P w H h)(e:H a=some (.ins C dx fs)):∃mA,ObjM h a dx C mA/\(∀f,RelO (fs.lookup f) (mA f))/\PySem.Within mA (fs.map (·.1))/\fs.length<=1000/\H dx=some (.own a):=by
 obtain⟨d,z,ne,ob,mA,n,r,q⟩:=(show ObjOk P w H h a (.ins C dx fs) from hok a _ e);exact⟨mA,⟨ob,n,ne⟩,r,q,z,d⟩
end
structure Cls(K:W.Frag)(C:Addr):Prop where
 pg:W.plainGet K C Str.empty=true
 hd:W.hasDictIn K C=true
 po:W.plainOver K C=true
 sa:W.findIn K (.ref C) "__setattr__" = some (some (.builtin "object.__setattr__"))
theorem Cls.get{K:W.Frag}{C:Addr}(c:Cls K C)(f:Str):W.plainGet K C f=true:=c.pg
def NoAttr(K:W.Frag)(C:Addr)(f:Str):Prop:=W.findIn K (.ref C) f=some none
theorem NoAttr.taker{K:W.Frag}{C:Addr}{f:Str}(n:NoAttr K C f):W.takerIn K C f=some none:=by
 unfold W.takerIn;rw[show W.findIn K (.ref C) f=some none from n];rfl
structure Meth(K:W.Frag)(C:Addr)(m:Str)(f:Addr):Prop where
 at_:W.findIn K (.ref C) m=some (some (.ref f))
 fn:W.isFn K (.ref f)=true
 kp:W.keepIn K (.ref f)=true
section
variable{X:Cx}{pins:List (Addr×Obj)}{σ : St}{H:Hp}{s:Shared}{a C dx:Addr}{fs:List (Str×V)}{f:Str}{v:V}{A:Around}{E:Value->Shared->Prop}
theorem znc{b:Bool}{Q:Value->Shared->Prop}(I:Inv X pins σ H s)(e:H a=some (.ins C dx fs))(c:Cls X.K C)(n:NoAttr X.K C f)(l:fs.lookup f=some v)
  (h:∀u s',Inv X pins σ H s'->RelV v u->Q u s'):wpAny (model X.prog X.w) A (getAttr (.ref a) f b) Q E s:=by
 obtain⟨mA,O,r,_,_,_⟩:=zhs I.hok e;obtain⟨u,hu,ru⟩:=RelO.some_of (v:=v) (o:=mA f) (by rw[<- l];exact r f);exact zv4 I.kIn O (c.get f) c.hd n hu (zqq ru) (h u _ (I.tok _) ru)
theorem zh8{m:Str}{g:Addr}{pl:Sem Bool}{Q:Value×List Value->Shared->Prop}(I:Inv X pins σ H s)(e:H a=some (.ins C dx fs))(c:Cls X.K C)(k:Meth X.K C m g)(l:fs.lookup m=none)
  (h:Q (.ref g,[.ref a]) s):wpAny (model X.prog X.w) A (getMethod (.ref a) m pl) Q E s:=by
 obtain⟨mA,O,r,_,_,_⟩:=zhs I.hok e;have hn:mA m=none:=RelO.none_of (by rw[<- l];exact r m);exact zsy I.kIn O (c.get m) k.at_ k.fn hn h
theorem zno{y:V}{u:Value}{Q:Unit->Shared->Prop}(I:Inv X pins σ H s)(e:H a=some (.ins C dx fs))(c:Cls X.K C)(n:NoAttr X.K C f)(hl:fs.length<1000)(ry:RelV y u)
  (h:∀s',Inv X pins σ (upd H a (.ins C dx (putF f y fs))) s'->Q () s'):wpAny (model X.prog X.w) A (setAttr (.ref a) f u) Q E s:=by
 obtain⟨mA,O,r,wi,_,ho⟩:=zhs I.hok e;have hz:(fs.map (·.1)).length<=sizeLine:=by rw[Yd,sizeLine_eq];omega
 refine zvd I.kIn O c.sa c.po n.taker c.hd wi hz λh' O' sb=>h _ ?_
 have hd:∃o,h'.get? dx=some o:=let ⟨o,_,_,e',_⟩:=O'.ns;⟨o,e'⟩;refine I.write (x:=a) (e:=dx) (by rw[e];exact True.intro) (.inr ho) (λb q hb z=>(sb.2 b hb).trans z) hd ?_;refine⟨by rw[zai O.ne];exact ho,?_,O.ne,O'.obj,_,O'.ns,λg=>?_,λg hg=>?_⟩
 ·have:=zhf f y fs;omega
 ·show RelO ((putF f y fs).lookup g) (if g=f then some u else mA g);rw[zhd];by_cases q:g=f
  ·rw[Yl q,Yl q];exact ry
  ·rw[Yh q,Yh q];exact r g
 ·by_cases q:g=f
  ·rw[q];exact(zhm f y fs).1
  ·refine(zhm f y fs).2 g (wi g λz=>hg ?_);show (if g=f then some u else mA g)=none;rw[Yh q];exact z
theorem Inv.made(I:Inv X pins σ H s):Inv X pins σ (upd (upd H s.heap.objs.size (.own (s.heap.objs.size+1))) (s.heap.objs.size+1) (.ins C s.heap.objs.size []))
  { s with heap:=(s.heap.push W.emptyDict).push (W.instObj C s.heap.objs.size) }:=by
 have e1:(s.heap.push W.emptyDict).get? s.heap.objs.size=some W.emptyDict:=Yk s.heap rfl;have e2:((s.heap.push W.emptyDict).push (W.instObj C s.heap.objs.size)).get? (s.heap.objs.size+1)=some (W.instObj C s.heap.objs.size):=by
  have:=Yk (s.heap.push W.emptyDict) (o:=W.instObj C s.heap.objs.size) rfl;rwa [Heap.size_push]at this
 have e3:(s.heap.push W.emptyDict).Ns s.heap.objs.size (λ_=>none):=⟨W.emptyDict,#[],_,e1,Z,(λe he=>absurd he (by simp)),λ_=>Z⟩;have I1:=I.laid (a:=s.heap.objs.size) (o:=.own (s.heap.objs.size+1)) (h':=s.heap.push W.emptyDict) (t':=s.toks) (λb u q=>Ye _ q) (Yi _) ⟨_,e1⟩;refine I1.laid (a:=s.heap.objs.size+1) (o:=.ins C s.heap.objs.size []) (t':=s.toks) (λb u q=>Ye _ q) (Nat.le_of_eq (Heap.size_push _ _)) ?_;have ne:s.heap.objs.size≠s.heap.objs.size+1:=Y0 (Nat.lt_succ_self _);refine⟨by rw[zai ne,zab],Y2 _,ne,e2,λ_=>none,(Heap.Ns1.of_empty e3).at λo q=>Ye _ q,λ_=>True.intro,λy hy=>absurd rfl hy⟩
theorem zpn{prog:Program}{w:World}{env:Env}{e:Expr}{f:Str}{pos:Pos}{s:Shared}{Q:Value->Shared->Prop}(hb:attributeBase e f env (eval e env)=eval e env)
  (h:wpAny (model prog w) A (eval e env) (λo s₁=>wpAny (model prog w) A (getAttr o f true) Q E s₁) E s):wpAny (model prog w) A (eval (.Attribute e f pos) env) Q E s:=
 Attribute_any_ h (by rw[arm_eval_Attribute,hb])
end
def tFld(K:W.Frag)(ta:TE)(f:Str):TE:=λσ H Q=>ta σ H λx H1=>∃a C dx fs v,x=.ref a/\H1 a=some (.ins C dx fs)/\Cls K C/\NoAttr K C f/\fs.lookup f=some v/\Q v H1
def sFld(K:W.Frag)(ta tv:TE)(f:Str):TS:=λD σ H=>tv σ H λy H1=>ta σ H1 λx H2=>∃a C dx fs,x=.ref a/\H2 a=some (.ins C dx fs)/\Cls K C/\NoAttr K C f/\fs.length<1000 /\
 D.nx σ (upd H2 a (.ins C dx (putF f y fs)))
section
variable{X:Cx}{o e value:Expr}{f:Str}{pos pos' tpos:Pos}{ta tv:TE}
theorem zxj(he:PE X e ta)(hb:attributeBase e f X.env (eval e X.env)=eval e X.env):PE X (.Attribute e f pos) (tFld X.K ta f):=by
 intro pins s σ H Q I h;refine zpn hb (thn (he pins s σ H _ I h) λu s1 ⟨x,H1,I1,rx,a,C,dx,fs,v,ex,ea,c,n,l,q⟩=>?_);subst ex;obtain rfl:u=Value.ref a:=rx;exact znc I1 ea c n l λu' s2 I2 ru=>⟨v,H1,I2,ru,q⟩
theorem zgj(ha:PE X o ta)(hv:PE X value tv)(hs:swapsWith value (some (.Attribute o f pos')) pos.line X.env=pure false):PS X (.Assign [.Attribute o f pos'] value pos) (sFld X.K ta tv f):=by
 intro pins s σ H D I h;refine plainObj_wpAny_Assign_Attribute (thn (hv pins s σ H _ I h) λu s1 ⟨y,H1,I1,ry,q⟩=>thn (ha pins s1 σ H1 _ I1 q) λov s2 ⟨x,H2,I2,rx,a,C,dx,fs,ex,ea,c,n,l,q2⟩=>?_) hs;subst ex;obtain rfl:ov=Value.ref a:=rx;exact zno I2 ea c n l ry λs3 I3=>⟨σ,_,I3,q2⟩
end
section
variable{X:Cx}{pins:List (Addr×Obj)}{σ : St}{H:Hp}{s:Shared}{A:Around}{E:Value->Shared->Prop}{Q:Value->Shared->Prop}{c:Value}{b:Bool}
inductive TyOf(K:W.Frag)(H:Hp):V->Value->Prop where
 | non:TyOf K H .non (.type "NoneType")
 | bl (x:Bool):TyOf K H (.bl x) (.type "bool")
 | int (i:Int):TyOf K H (.int i) (.type "int")
 | str (x:Str):TyOf K H (.str x) (.type "str")
 | flt (x:UInt64):TyOf K H (.flt x) (.type "float")
 | lst {a:Addr} {xs:List V} (e:H a=some (.lst xs)):TyOf K H (.ref a) (.type "list")
 | frz {a:Addr} {o:Obj} {xs:List V} (e:H a=some (.frz o (.lst xs))):TyOf K H (.ref a) (.type "list")
 | tup {a:Addr} {xs:List V} (e:H a=some (.tup xs)):TyOf K H (.ref a) (.type "tuple")
 | dK {a:Addr} {kvs:List (Key×V)} (e:H a=some (.dK kvs)):TyOf K H (.ref a) (.type "dict")
 | dT {a:Addr} {kvs:List (List Key×V)} (e:H a=some (.dT kvs)):TyOf K H (.ref a) (.type "dict")
 | ins {a C dx:Addr} {fs:List (Str×V)} (e:H a=some (.ins C dx fs)) (cl:Cls K C) (ha:W.findIn K (.ref C) "__class__" = some (some (.builtin "object.__class__")))
   (hn:W.specialIn K (.builtin "object.__class__") "__get__" = some (some (.builtin "getset_descriptor.__get__"))) (htk:W.takesIn K (.builtin "object.__class__")=some true)
   (hm:W.mroIn K C (.type "object")=some true):TyOf K H (.ref a) (.ref C)
theorem zqe{x:V}{u t:Value}(I:Inv X pins σ H s)(rx:RelV x u)(ty:TyOf X.K H x t)(e:W.kitOne X.K t c=some b)(h:∀tk,Q (.bool b) { s with toks:=tk }) :
  wpAny (model X.prog X.w) A (call (.builtin "isinstance") [u,c]) Q E s:=by
 cases ty with
 | non=>cases (show u=Value.none from rx);exact W.kia_one W.kitx_none I.kIn True.intro e (λz=>nomatch z) h
 | bl y=>cases (show u=Value.bool y from rx);exact W.kia_one W.kitx_bool I.kIn True.intro e (λz=>nomatch z) h
 | int i=>obtain⟨t,q⟩:=(show ∃t,u=Value.int i t from rx);cases q;exact W.kia_one W.kitx_int I.kIn True.intro e (λz=>nomatch z) h
 | str y=>obtain⟨t,q⟩:=(show ∃t,u=Value.str y t from rx);cases q;exact W.kia_one W.kitx_str I.kIn True.intro e (λz=>nomatch z) h
 | flt y=>obtain⟨t,q⟩:=(show ∃t,u=Value.float y t from rx);cases q;exact W.kia_one W.kitx_float I.kIn True.intro e (λz=>nomatch z) h
 | @lst a xs ea=>
  cases (show u=Value.ref a from rx);obtain⟨_,_,n,_,h1⟩:=(show ObjOk X.prog X.w H s.heap a (.lst xs) from I.hok a _ ea);exact W.kia_one W.kitx_list I.kIn ⟨_,h1,Z⟩ e (λz=>nomatch z) h
 | @frz a ob xs ea=>
  cases (show u=Value.ref a from rx);obtain⟨_,_,_,n,_,h1⟩:=(show ObjOk X.prog X.w H s.heap a (.frz ob (.lst xs)) from I.hok a _ ea);exact W.kia_one W.kitx_list I.kIn ⟨_,h1,Z⟩ e (λz=>nomatch z) h
 | @tup a xs ea=>
  cases (show u=Value.ref a from rx);obtain⟨_,_,_,p⟩:=(show ObjOk X.prog X.w H s.heap a (.tup xs) from I.hok a _ ea);obtain⟨o,h1,h2,_⟩:=p;exact W.kia_one W.kitx_tuple I.kIn ⟨o,h1,h2⟩ e (λz=>nomatch z) h
 | @dK a kvs ea=>
  cases (show u=Value.ref a from rx);obtain⟨_,_,vs,_,p⟩:=(show ObjOk X.prog X.w H s.heap a (.dK kvs) from I.hok a _ ea);obtain⟨o,es,ep,h1,h2,_⟩:=p;exact W.kia_one W.kitx_dict I.kIn ⟨o,h1,h2.1⟩ e (λz=>nomatch z) h
 | @dT a kvs ea=>
  cases (show u=Value.ref a from rx);obtain⟨_,_,xs,_,o,es,ep,h1,h2,_⟩:=(show ObjOk X.prog X.w H s.heap a (.dT kvs) from I.hok a _ ea);exact W.kia_one W.kitx_dict I.kIn ⟨o,h1,h2.1⟩ e (λz=>nomatch z) h
 | @ins a C dx fs ea cl ha hn htk hm=>
  cases (show u=Value.ref a from rx);obtain⟨mA,O,_⟩:=zhs I.hok ea;obtain⟨od,J,_⟩:=O.look;exact W.kia_one (W.kitx_own (cl.get _) cl.hd ha hn htk hm) I.kIn J e (λz=>nomatch z) h
end
structure Room(k:Nat)(A:Around):Prop where
 hd:A.handled=none
 dp:A.depth+3*k+5<recursionLimit
 un:A.units+16*k+200<cLine
theorem Room.mono{j k:Nat}{A:Around}(r:Room k A)(h:j<=k):Room j A:=⟨r.hd,by have:=r.dp;omega,by have:=r.un;omega⟩
theorem Room.deeper{k:Nat}{A:Around}(r:Room (k+1) A)(env:Env):Room k (A.deeper env):=
 ⟨r.hd,by have:=r.dp;show A.depth+1+3*k+5<_;omega,by have:=r.un;show A.units+3+16*k+200<_;omega⟩
theorem Room.in1{k:Nat}{A:Around}(r:Room (k+1) A):Room k A.in1:=
 ⟨r.hd,by have:=r.dp;show A.depth+3*k+5<_;omega,by have:=r.un;show A.units+1+16*k+200<_;omega⟩
theorem znk{A:Around}{C:Addr}{us:List Value}{kw:List (Str×Value)}:(A.under (.builtin "type.__call__" ⟨.ref C::us,kw⟩)).depth=A.depth+1:=by
 first | rfl | simp[Around.under,Code.weight,Code.isCreation,Code.isGuard,Code.isCaller,Code.frames,Code.isFrame,guardIds]
theorem znt{A:Around}{C:Addr}{us:List Value}{kw:List (Str×Value)}:(A.under (.builtin "type.__call__" ⟨.ref C::us,kw⟩)).units=A.units+1:=by
 first | rfl | simp[Around.under,Code.cUnits,Code.frames,Code.isFrame]
theorem Room.make{k:Nat}{A:Around}(r:Room (k+1) A)(C:Addr)(us:List Value)(kw:List (Str×Value)):Room k (A.under (.builtin "type.__call__" ⟨.ref C::us,kw⟩)):=
 ⟨r.hd,by have:=r.dp;rw[znk];omega,by have:=r.un;rw[znt];omega⟩
theorem Room.depth{k:Nat}{A:Around}(r:Room k A):A.depth<recursionLimit:=by have:=r.dp;omega
theorem Room.units{k:Nat}{A:Around}(r:Room k A):A.units+64<cLine:=by have:=r.un;omega
theorem Room.units0{k:Nat}{A:Around}(r:Room k A):A.units<cLine:=by have:=r.un;omega
def tNil:TA:=λ_ H Q=>Q [] H
def zvj(ta:TE)(tr:TA):TA:=λσ H Q=>ta σ H λx H1=>tr σ H1 λxs H2=>Q (x::xs) H2
section
variable{X:Cx}{e:Expr}{es:List Expr}{te:TE}{t:TA}{pos:Pos}
theorem zac:PA X [] tNil:=λ_ _ _ _ H Q I h=>Calls.spliced_nil ⟨[],H,I,.nil,h⟩
theorem zaa(ha:PE X e te)(hr:PA X es t)(hs:starEach (e::es) X.env=(false,eval e X.env)::starEach es X.env:=by rfl):PA X (e::es) (zvj te t):=by
 intro pos pins s σ H Q I h;rw[hs];show wpAny _ _ (spliced ((false,eval e X.env)::backTo pos (starEach es X.env))) _ _ s;refine Calls.spliced_cons (thn (ha pins s σ H _ I h) λu s1 ⟨x,H1,I1,r1,q1⟩=>?_);exact thn (hr pos pins s1 σ H1 _ I1 q1) λus s2 ⟨xs,H2,I2,r2,q2⟩=>⟨x::xs,H2,I2,.cons r1 r2,q2⟩
def tTup(t:TA):TE:=λσ H Q=>t σ H λxs H1=>xs.length<=sizeLine/\∀p,H1 p=none->Q (.ref p) (upd H1 p (.tup xs))
def tLst(t:TA):TE:=λσ H Q=>t σ H λxs H1=>xs.length<=sizeLine/\∀p,H1 p=none->Q (.ref p) (upd H1 p (.lst xs))
theorem zca{x1}(h:PA X es t):PE X (.Tuple es x1 pos) (tTup t):=by
 intro pins s σ H Q I hq;refine wpAny_Tuple_spliced (thn (h pos pins s σ H _ I hq) λus s1 ⟨xs,H1,I1,r,z,q⟩=>⟨by rw[<- r.length];exact z,?_⟩);have hf:H1 s1.heap.objs.size=none:=I1.hok.fresh (Yi _);refine⟨.ref s1.heap.objs.size,upd H1 s1.heap.objs.size (.tup xs),I1.laid (t':=s1.toks) (λb u e=>Ye _ e) (Yi _) ?_,rfl,q _ hf⟩;exact⟨z,us,r,⟨_,Yk _ rfl,rfl,_,rfl⟩⟩
theorem zeu(h:PA X es t):PE X (.List es pos) (tLst t):=by
 intro pins s σ H Q I hq;refine wpAny_List_spliced (thn (h pos pins s σ H _ I hq) λus s1 ⟨xs,H1,I1,r,z,q⟩=>⟨by rw[<- r.length];exact z,?_⟩);have hf:H1 s1.heap.objs.size=none:=I1.hok.fresh (Yi _);refine⟨.ref s1.heap.objs.size,upd H1 s1.heap.objs.size (.lst xs),I1.laid (t':=s1.toks) (λb u e=>Ye _ e) (Yi _) ?_,rfl,q _ hf⟩;exact⟨z,us,0,r,Yk _ rfl⟩
end
abbrev Sp:=List V->Hp->VK->XK->Prop
abbrev CXT:=List Env->Hp->Shared->XK->Value->Shared->Prop
structure Env0(P:Program)(w:World)(K:W.Frag)(mg:Str->Option Value)(base:Heap)(A:Around)(outer:List Env)(s:Shared)(H:Hp):Prop where
 frames:A.frames=some outer
 mod:Mod K mg base
 bs:∀b o,base.get? b=some o->s.heap.get? b=some o/\H b=none
 bsz:base.objs.size<=s.heap.objs.size
 funs:s.heap.FunFrames base outer
 frf:∀b∈frs outer,H b=none
 hok:HOk P w H s.heap
 bare:AllBare s.gens
def CE(outer:List Env)(P:Program)(w:World)(H:Hp)(s:Shared)(Q:VK)(u:Value)(s':Shared):Prop:=
 ∃v H',s'.os=s.os/\AllBare s'.gens/\Un (frs outer) [] H H' s.heap s'.heap/\HOk P w H' s'.heap/\RelV v u/\Q v H'
def CR(CX:CXT)(outer:List Env)(P:Program)(w:World)(H:Hp)(s:Shared)(Q:VK)(E:XK)(r:Result)(s':Shared):Prop:=
 match r with
 | .ok (.ret u)=>CE outer P w H s Q u s'
 | .ok _=>False
 | .error e=>CX outer H s E e s'
structure FnOk(P:Program)(w:World)(K:W.Frag)(mg:Str->Option Value)(base:Heap)(CX:CXT)(k:Nat)(f:Addr)(fd:FuncData)(ps:List Str)(sp:Sp):Prop where
 len:∀vs H Q E,sp vs H Q E->vs.length=ps.length
 run:∀(A:Around) (outer:List Env) (s:Shared) (H:Hp) (args:Args) (us:List Value) (vs:List V) (Q:VK) (E:XK),Room k A->Env0 P w K mg base A outer s H->BindsTo s fd args (ps.zip us)->Vals vs us->sp vs H Q E ->
  codeAny (model P w) A (.call (.ref f) args) (CR CX outer P w H s Q E) s
theorem FnOk.mono{P:Program}{w:World}{K:W.Frag}{mg:Str->Option Value}{base:Heap}{CX:CXT}{j k:Nat}{f:Addr}{fd:FuncData}{ps:List Str}{sp:Sp}(F:FnOk P w K mg base CX j f fd ps sp)(h:j<=k) :
  FnOk P w K mg base CX k f fd ps sp:=⟨F.len,λA outer s H args us vs Q E hr=>F.run A outer s H args us vs Q E (hr.mono h)⟩
theorem FnOk.imp{P:Program}{w:World}{K:W.Frag}{mg:Str->Option Value}{base:Heap}{CX:CXT}{k:Nat}{f:Addr}{fd:FuncData}{ps:List Str}{sp sp':Sp}(F:FnOk P w K mg base CX k f fd ps sp)
  (h:∀vs H Q E,sp' vs H Q E->sp vs H Q E):FnOk P w K mg base CX k f fd ps sp':=
 ⟨λvs H Q E q=>F.len vs H Q E (h _ _ _ _ q),λA outer s H args us vs Q E hr he hb hv hs=>F.run A outer s H args us vs Q E hr he hb hv (h _ _ _ _ hs)⟩
theorem Env0.make{P:Program}{w:World}{K:W.Frag}{mg:Str->Option Value}{base:Heap}{A:Around}{outer:List Env}{s:Shared}{H:Hp}(e:Env0 P w K mg base A outer s H)(C:Addr)(us:List Value)(kw:List (Str×Value)) :
  Env0 P w K mg base (A.under (.builtin "type.__call__" ⟨.ref C::us,kw⟩)) outer s H:=⟨by first | exact e.frames | (simpa[Around.under,Code.envs,Code.isFrame,pushEnvs]using e.frames),e.mod,e.bs,e.bsz,e.funs,e.frf,e.hok,e.bare⟩
theorem Env0.in1{P:Program}{w:World}{K:W.Frag}{mg:Str->Option Value}{base:Heap}{A:Around}{outer:List Env}{s:Shared}{H:Hp}(e:Env0 P w K mg base A outer s H) :
  Env0 P w K mg base A.in1 outer s H:=⟨e.frames,e.mod,e.bs,e.bsz,e.funs,e.frf,e.hok,e.bare⟩
section
variable{X:Cx}{pins:List (Addr×Obj)}{σ : St}{H:Hp}{s s':Shared}
theorem Inv.env0(I:Inv X pins σ H s):Env0 X.prog X.w X.K X.mg X.base X.A X.stack s H:=
 ⟨I.ok.frames,I.ok.mod,I.bs,Yr I.ok.bsz I.sz,I.stack,I.stkFree,I.hok,I.bare⟩
theorem Inv.after{Q:VK}{u:Value}(I:Inv X pins σ H s)(h:CE X.stack X.prog X.w H s Q u s'):EP X pins σ Q u s':=by
 obtain⟨v,H',os,bare,un,hok,r,q⟩:=h;obtain⟨hh,g,d,t,os'⟩:=s';obtain rfl:os'=s.os:=os;exact⟨v,H',I.call (h':=hh) (g':=g) (d':=d) (t':=t) (ch:=[]) un hok bare (λb z=>absurd z (by simp)),r,q⟩
end
def Binds(K:W.Frag)(fd:FuncData)(ps:List Str)(ds:List Value):Prop:=
 ∀(s:Shared) (us:List Value),K.In s.heap->(us++ds).length=ps.length->BindsTo s fd ⟨us,[]⟩ (ps.zip (us++ds))
theorem Binds.all{K:W.Frag}{fd:FuncData}{ps:List Str}(h:∀us:List Value,us.length=ps.length->bindArgs fd ⟨us,[]⟩=pure (ps.zip us)):Binds K fd ps []:=λs us _ hl=>by
 rw[List.append_nil]at hl ⊢;exact .of_eq (h us hl)
section
variable{X:Cx}{CX:CXT}{k:Nat}{f C:Addr}{fd:FuncData}{ps:List Str}{sp:Sp}{dvs:List V}{ds:List Value}{E:XK}{x m:Str}{p pos apos:Pos}{e o:Expr}{es:List Expr}{ta:TE}{t:TA}
structure Mk(K:W.Frag)(C f:Addr):Prop where
 makes:W.makesIn K C=true
 init:W.findIn K (.ref C) "__init__" = some (some (.ref f))
 fn:W.isFn K (.ref f)=true
 kp:W.keepIn K (.ref C)=true
end
structure FnScope(N P:List Str)(sc:Scope):Prop where
 kind:sc.kind=.function
 co:sc.isCoroutine=false
 gen:sc.isGenerator=false
 nd:N.Nodup
 pre:N.take P.length=P
 par:∀x∈P,sc.names.lookup x=some .local\/sc.names.lookup x=some .cell
 nofree:∀y∈sc.names,y.2≠.free
theorem zkd{kindOf:Str->Option NameKind}{x:Str}:∀{binds:List (Str×Value)} {m:Str->Option Value},(∀v,(x,v) ∉ binds)->bindL kindOf binds m x=m x
 | [],_,_=>rfl
 | (n,v)::r,m,h=>by
  unfold bindL;rw[zkd λw hw=>h w (List.mem_cons_of_mem _ hw)];split
  ·have:x≠n:=by rintro rfl;exact h v List.mem_cons_self
   simp[this]
  ·rfl
theorem zjz{kindOf:Str->Option NameKind}{x:Str}:∀{binds:List (Str×Value)} {m:Str->Option Value},(∀v,(x,v) ∉ binds)->bindC kindOf binds m x=m x
 | [],_,_=>rfl
 | (n,v)::r,m,h=>by
  unfold bindC;rw[zjz λw hw=>h w (List.mem_cons_of_mem _ hw)];split
  ·rfl
  ·have:x≠n:=by rintro rfl;exact h v List.mem_cons_self
   simp[this]
theorem zj6{kindOf:Str->Option NameKind}{x:Str}{v:Value}:∀{P:List Str} {vs:List Value} {i:Nat} {m:Str->Option Value},P.Nodup->P[i]? = some x->vs[i]? = some v->kindOf x=some .local ->
  bindL kindOf (P.zip vs) m x=some v
 | [],_,_,_,_,h,_,_=>by simp at h
 | _::_,[],_,_,_,_,h,_=>by simp at h
 | p::P,w::vs,0,m,nd,h1,h2,hk=>by
  simp at h1 h2;subst h1;subst h2
  show bindL kindOf ((p,w)::P.zip vs) m p=_;unfold bindL;rw[zkd λv hv=>(List.nodup_cons.mp nd).1 (List.of_mem_zip hv).1,Yl hk];simp
 | p::P,w::vs,i+1,m,nd,h1,h2,hk=>by
  show bindL kindOf ((p,w)::P.zip vs) m x=_;unfold bindL;exact zj6 (i:=i) (List.nodup_cons.mp nd).2 (by simpa using h1) (by simpa using h2) hk
theorem zku{kindOf:Str->Option NameKind}{x:Str}{v:Value}:∀{P:List Str} {vs:List Value} {i:Nat} {m:Str->Option Value},P.Nodup->P[i]? = some x->vs[i]? = some v->kindOf x≠some .local ->
  bindC kindOf (P.zip vs) m x=some v
 | [],_,_,_,_,h,_,_=>by simp at h
 | _::_,[],_,_,_,_,h,_=>by simp at h
 | p::P,w::vs,0,m,nd,h1,h2,hk=>by
  simp at h1 h2;subst h1;subst h2
  show bindC kindOf ((p,w)::P.zip vs) m p=_;unfold bindC;rw[zjz λv hv=>(List.nodup_cons.mp nd).1 (List.of_mem_zip hv).1,Yh hk];simp
 | p::P,w::vs,i+1,m,nd,h1,h2,hk=>by
  show bindC kindOf ((p,w)::P.zip vs) m x=_;unfold bindC;exact zku (i:=i) (List.nodup_cons.mp nd).2 (by simpa using h1) (by simpa using h2) hk
def start(N:List Str)(vs:List V):St:=vs.map some++List.replicate (N.length-vs.length) none
def cxOf(CX:CXT)(P:Program)(w:World)(K:W.Frag)(mg:Str->Option Value)(base:Heap)(N:List Str)(qual:Str)(scope:Scope)(f:Addr)(cd:Value)(A:Around)(outer:List Env)(s:Shared)(H:Hp)(E:XK):Cx where
 prog:=P
 w:=w
 K:=K
 mg:=mg
 base:=base
 A:=A.deeper (envOfC qual scope s.heap.objs.size f cd)
 N:=N
 s₀:=s
 H₀:=H
 env:=envOfC qual scope s.heap.objs.size f cd
 outer:=outer
 stack:=envOfC qual scope s.heap.objs.size f cd::outer
 ex:=[]
 calm:=true
 fn:=λ_=>true
 pn:=[]
 xe:=λe s'=>wpAny (model P w) (A.deeper (envOfC qual scope s.heap.objs.size f cd)) (leaving (envOfC qual scope s.heap.objs.size f cd) e) (λ_ s''=>CX outer H s E e s'') (λe' s''=>CX outer H s E e' s'') s'
theorem zmr{sc:Scope}{n:Nat}{x:Str}(h:sc.names.lookup x=some .cell):∃c,(cellsFrom n sc.names []).lookup x=some c:=by
 have q:=W.cellsFrom_some sc.names n [] (.inl h);exact Option.isSome_iff_exists.mp q
theorem zqg{CX:CXT}{P:Program}{w:World}{K:W.Frag}{mg:Str->Option Value}{base:Heap}{N ps:List Str}{qual:Str}{scope:Scope}{f:Addr}{cd:Value}{A:Around}{outer:List Env}{s s1:Shared}{H:Hp}{E:XK}{us:List Value}{vs:List V}
  (S:FnScope N ps scope) (hd:A.handled=none) (e0:Env0 P w K mg base A outer s H) (hl:vs.length=ps.length) (r:Vals vs us)
  (x:InCallC s s.heap.objs.size (bindL (envOfC qual scope s.heap.objs.size f cd).kindOf (ps.zip us) λ_=>none) (cellsFrom (s.heap.objs.size+1) scope.names []) (bindC (envOfC qual scope s.heap.objs.size f cd).kindOf (ps.zip us) λ_=>none) s1) :
  Inv (cxOf CX P w K mg base N qual scope f cd A outer s H E) [] (start N vs) H s1:=by
 have hpl:ps.length<=N.length:=by have:=Jx List.length S.pre;rw[List.length_take]at this;omega
 obtain⟨h1,tk,rfl,hk⟩:=x.done;have noA:∀b:Addr,b ∉ (cxOf CX P w K mg base N qual scope f cd A outer s H E).ex:=λb z=>absurd (show b∈([]:List Addr) from z) (by simp)
 refine⟨⟨e0.mod,S.kind,Z,Z,Yi _,λy z c h1 h2=>?_,λy hy=>?_,λy c _ h=>?_,λ_=>hd,Around.frames_deeper e0.frames,.inr ⟨Z,Z⟩,λb z=>absurd z (noA b),e0.bs,e0.bsz,λb _ _=>noA b,λb z=>absurd z (noA b),e0.funs,e0.frf⟩,
  rfl,e0.bare,Un.kept hk,⟨_,x.toInCall.ns,λi y v h1 h2 h3=>?_⟩,λy c h=>⟨_,x.cell y c h⟩,e0.hok.fresh (Yi _),λy c h=>?_,λp hp=>absurd (show p∈([]:List (Addr×Obj)) from hp) (by simp),e0.hok.kept hk,?_⟩
 ·exact name_of_addr x.apart (PySem.mem_of_lookup h1) (PySem.mem_of_lookup h2)
 ·have hy:scope.names.lookup y=some .cell\/scope.names.lookup y=some .free:=hy;rcases hy with hy | hy
  ·exact zmr hy
  ·exact absurd rfl (S.nofree _ (PySem.mem_of_lookup hy))
 ·exact Nat.le_of_lt (x.above y c (PySem.mem_of_lookup h))
 ·have hi:i<vs.length:=by
   unfold start at h2;by_cases hi:i<vs.length
   ·exact hi
   ·rw[List.getElem?_append_right (by simpa using hi)]at h2;rw[List.getElem?_replicate]at h2;split at h2 <;> cases h2
  have ha:vs[i]? = some v:=by
   unfold start at h2;rw[List.getElem?_append_left (by simpa using hi),Ym]at h2
   cases e:vs[i]? with
   | none=>rw[e]at h2;cases h2
   | some a=>rw[e]at h2;cases h2;rfl
  obtain⟨u,hu,rv⟩:=r.get ha;have hp:ps[i]? = some y:=by
   rw[<- S.pre,List.getElem?_take_of_lt (by omega)];exact h1
  have ndP:ps.Nodup:=by rw[<- S.pre];exact S.nd.sublist (List.take_sublist _ _)
  refine⟨u,rv,?_⟩;rcases S.par y (Yx hp) with k | k
  ·exact .inl ⟨k,zj6 ndP hp hu k⟩
  ·obtain⟨c,e⟩:=zmr (n:=s.heap.objs.size+1) k;refine .inr ⟨.inl k,c,e,?_⟩;have q:=x.cell y c e;rw[zku ndP hp hu (by show scope.names.lookup y≠_;rw[k];decide)]at q;exact q
 ·exact e0.hok.fresh (Nat.le_of_lt (x.above y c (PySem.mem_of_lookup h)))
 ·unfold start;show _=N.length;rw[Y6,Yd,List.length_replicate];omega
theorem zv8{CX:CXT}{P:Program}{w:World}{K:W.Frag}{mg:Str->Option Value}{base:Heap}{k:Nat}{f:Addr}{name qual:Str}{params:Arguments}{body:List Stmt}{scope:Scope}{dV kV doc pm cdv ct oc:Value}{an od:Option Addr}
  {osl:Array (Option Value)} {N ps:List Str} {sp:Sp} (lk:K.lookup f=some ⟨oc,od,.func (W.fnOf name qual params body scope dV kV doc pm an cdv ct),osl⟩) (hcd:W.codeIn K cdv qual=true) (S:FnScope N ps scope)
  (len:∀vs H Q E,sp vs H Q E->vs.length=ps.length)
  (hbody:∀(A:Around) (outer:List Env) (s:Shared) (H:Hp) (vs:List V) (Q:VK) (E:XK),Room k (A.deeper (envOfC qual scope s.heap.objs.size f cdv))->sp vs H Q E ->
   ∃t,PSs (cxOf CX P w K mg base N qual scope f cdv A outer s H E) body t/\t { nx:=λ_ H'=>Q .non H',rt:=Q } (start N vs) H) :
  FnOk P w K mg base CX (k+1) f (W.fnOf name qual params body scope dV kV doc pm an cdv ct) ps sp:=by
 refine⟨len,λA outer s H args us vs Q E hr e0 hb r hsp=>?_⟩;have hl:=len _ _ _ _ hsp;have KX:K.In s.heap:=e0.mod.kin.keeps λb o e=>(e0.bs b o e).1
 have lim:s.heap.NoLimit:=e0.mod.nolimit.keeps λb o e=>(e0.bs b o e).1
 have hkind:∀y∈ps.zip us,scope.names.lookup y.1=some .local\/(scope.names.lookup y.1=some .cell/\((cellsFrom (s.heap.objs.size+1) scope.names []).lookup y.1).isSome=true):=fun⟨n,v⟩ hy=>by
  rcases S.par n (List.of_mem_zip hy).1 with q | q
  ·exact .inl q
  ·exact .inr ⟨q,W.cellsFrom_some _ _ _ (.inl q)⟩
 refine codeAny_call_function hr.depth (KX _ _ lk) rfl S.co S.gen rfl (W.codeRec_of KX hcd) (hb _ _ _ _ ?_);refine wpAny_newFunctionEnv_cells S.kind hkind λenv he s1 x=>?_
 subst he;refine⟨lim.keeps x.toInCall.keep,codeAny_func ?_⟩;obtain⟨t,ht,hq⟩:=hbody A outer s H vs Q E (hr.deeper _) hsp;have I:Inv (cxOf CX P w K mg base N qual scope f cdv A outer s H E) [] (start N vs) H s1:=zqg S hr.hd e0 hl r x;refine wpAny_mono (ht [] s1 (start N vs) H _ I hq) (λfl s' hs=>?_) λe s' hs=>hs
 have fin:∀{σ':St} {H':Hp} {v:V} {u:Value},Inv (cxOf CX P w K mg base N qual scope f cdv A outer s H E) [] σ' H' s'->RelV v u->Q v H'->CE outer P w H s Q u s':=
  fun{σ' H' v u} J rv q=>⟨v,H',J.os,J.bare,J.base,J.hok,rv,q⟩
 cases fl with
 | ret u=>
  obtain⟨v,σ',H',J,rv,q⟩:=hs;exact fin J rv q
 | next=>
  obtain⟨σ',H',J,q⟩:=hs;exact fin (v:=V.non) (u:=Value.none) J rfl q
 | brk=>
  obtain⟨_,_,_,q⟩:=hs;exact Jf q
 | cont=>
  obtain⟨_,_,_,q⟩:=hs;exact Jf q
section
variable{X:Cx}{x:Str}{p pos:Pos}{e:Expr}{es:List Expr}{t:TA}{id T:String}{r:List V->Hp->VK->Prop}
def tCB(r:List V->Hp->VK->Prop)(t:TA):TE:=λσ H Q=>t σ H λvs H1=>r vs H1 Q
theorem zau(hc:CallR X (.builtin id) r)(hg:Gl X x)(hm:X.mg x=none)(hv:bootBuiltins x=some (.builtin id))(ha:PA X (e::es) t)(hn:x≠"__name__":=by decide)(hdb:(x == ("__debug__" : Str))=false:=by decide)
  (he:starEach (e::es) X.env=(false,eval e X.env)::starEach es X.env:=by rfl) (hpl:(backTo pos (starEach es X.env)).any (·.1)=false:=by rfl):PE X (.Call (.Name x p) (e::es) [] pos) (tCB r t):=by
 intro pins s σ H Q I h;refine wpAny_Call_Name_kw (zft I hg hm hv ?_ hn hdb);exact PyProof.Rows.callWith_builtin1 (thn (ha pos pins s σ H _ I h) λus s1 ⟨vs,H1,I1,r1,q1⟩=>hc pins s1 σ H1 vs us Q I1 r1 q1) he hpl
theorem za4(hc:CallR X (.type T) r)(hg:Gl X x)(hm:X.mg x=none)(hv:bootBuiltins x=some (.type T))(ha:PA X (e::es) t)(hn:x≠"__name__":=by decide)(hdb:(x == ("__debug__" : Str))=false:=by decide)
  (he:starEach (e::es) X.env=(false,eval e X.env)::starEach es X.env:=by rfl) (hpl:(backTo pos (starEach es X.env)).any (·.1)=false:=by rfl):PE X (.Call (.Name x p) (e::es) [] pos) (tCB r t):=by
 intro pins s σ H Q I h;refine wpAny_Call_Name_kw (zft I hg hm hv ?_ hn hdb);exact PyProof.Rows.callWith_type1 (thn (ha pos pins s σ H _ I h) λus s1 ⟨vs,H1,I1,r1,q1⟩=>hc pins s1 σ H1 vs us Q I1 r1 q1) he hpl
end
end L2
namespace HT
open PySem PyProof.Rows
def lexLt:List Int->List Int->Bool
 | [],[]=>false
 | [],_::_=>true
 | _::_,[]=>false
 | x::xs,y::ys=>if x=y then lexLt xs ys else decide (x<y)
theorem lexLt_cons(x y:Int)(xs ys:List Int):lexLt (x::xs) (y::ys)=if x=y then lexLt xs ys else decide (x<y):=rfl
theorem zge:lexLt [] []=false:=rfl
theorem zfq(y:Int)(ys:List Int):lexLt [] (y::ys)=true:=rfl
theorem zfl(x:Int)(xs:List Int):lexLt (x::xs) []=false:=rfl
theorem zma(A:Around)(s:Shared)(a:Int)(t:Tok)(c:Int)(u:Tok):∃e,SeqAt.EqAt A s (.int a t) (.int c u) e/\(e=true↔a=c):=
 ⟨(a == c),SeqAt.EqAt.int_int a t c u,by simp⟩
theorem zrf(A:Around)(s:Shared)(a:Int)(t:Tok)(c:Int)(u:Tok)(prog:Program)(w:World)(E:Value->Shared->Prop)(Q:Value->Shared->Prop)(h:Q (.bool (decide (a<c))) s) :
  wpAny (model prog w) A (richCompare .Lt (.int a t) (.int c u)) Q E s:=
 (PyProof.Rows.lt_int h:wpAny (model prog w) A (compareOp .Lt (.int a t) (.int c u)) Q E s)
section
open PySem.SeqAt
open PySem.AutoSeq1 (wpAny_loadPart')
open PySem.MeetsSeq PySem.MeetsSeq2 PySem.MeetsSeq3
theorem zio(l b:Addr)(items items2:Array Value)(n n2:Nat)(dd dd2:Option Addr)(sl sl2:Array (Option Value))(ns ms:List Int)(hi:IntsAre items.toList ns)(hj:IntsAre items2.toList ms) :
  Meets (Builtin.«tuple.__lt__» ⟨[.ref l,.ref b],[]⟩)
   (λ_ R s=>s.heap.get? l=some { cls:=.type "tuple",dict:=dd,data:=.seq items n,slots:=sl }/\s.heap.get? b=some { cls:=.type "tuple",dict:=dd2,data:=.seq items2 n2,slots:=sl2 } /\
    R (.ok (.ret (.bool (lexLt ns ms)))) s):=
 .of_wp λprog w A R s h=>by
  obtain⟨hp,g,d,tk,os⟩:=s;obtain⟨hl,hb,h⟩:=h;have f2:=AutoSeq1.sub_tuple_tuple;have z1:items.size=ns.length:=by rw[<- hi.length];simp
  have z2:items2.size=ms.length:=by rw[<- hj.length];simp
  wp_walk using wpAny_loadPart' hl,wpAny_loadPart' hb,wpAny_forIn_list _ (λrest b s'=>b.1=none/\s'=⟨hp,g,d,tk,os⟩/\∃(vs ws:List Value) (ns' ms':List Int),rest=vs.zip ws /\
   IntsAre vs ns'/\IntsAre ws ms'/\ns'.length+items2.size=ms'.length+items.size/\R (.ok (.ret (.bool (lexLt ns' ms')))) ⟨hp,g,d,tk,os⟩) _
  case turn=>
   rintro⟨y,x⟩ rest b s' ⟨hb',rfl,vs,ws,ns',ms',hz,hvi,hwi,hlen,hR⟩
   cases hvi with
   | nil=>rw[List.zip_nil_left]at hz;cases hz
   | cons a t hvi'=>
    cases hwi with
    | nil=>rw[List.zip_nil_right]at hz;cases hz
    | cons c u hwi'=>
     rw[List.zip_cons_cons]at hz;injection hz with hyx hrest
     injection hyx with hy hx
     subst hy hx;rw[lexLt_cons]at hR;simp only[List.length_cons]at hlen;obtain⟨e,he,hiff⟩:=zma A.in1 ⟨hp,g,d,tk,os⟩ a t c u;refine Ya (he prog w _ _ ?_)
     cases e with
     | true=>
      rw[Yl (hiff.mp rfl)]at hR;wp_walk;exact⟨Z,Z,_,_,_,_,hrest,hvi',hwi',by omega,hR⟩
     | false=>
      rw[Yh (λq=>absurd (hiff.mpr q) Yt)]at hR;have hri:=zrf A.in1 ⟨hp,g,d,tk,os⟩ a t c u prog w;wp_walk using hri;exact⟨_,Z,by simpa using hR⟩
  case fin=>
   rintro⟨b1,b2⟩ s' ⟨hb',rfl,vs,ws,ns',ms',hz,hvi,hwi,hlen,hR⟩;simp only at hb';subst hb';have hv:lexLt ns' ms'=decide (items.size<items2.size):=by
    cases hvi with
    | nil=>
     cases hwi with
     | nil=>
      simp only[List.length_nil]at hlen
      rw[zge];exact(Yw (by omega)).symm
     | cons c u hw=>
      simp only[List.length_nil,List.length_cons]at hlen
      rw[zfq];exact(Yo (by omega)).symm
    | cons a t hv=>
     cases hwi with
     | nil=>
      simp only[List.length_nil,List.length_cons]at hlen
      rw[zfl];exact(Yw (by omega)).symm
     | cons c u hw=>
      rw[List.zip_cons_cons]at hz
      cases hz
   rw[hv]at hR;wp_walk;exact⟨_,Z,by simpa[Builtin.Tuple.tupleCompareSizes]using hR⟩
  case h=>
   exact⟨Z,Z,items.toList,items2.toList,ns,ms,Z,hi,hj,by omega,h⟩
end
section
variable{prog:Program}{w:World}{A:Around}{E:Value->Shared->Prop}{s:Shared}
theorem lt_tupInts{l b:Addr}{items items2:Array Value}{ns ms:List Int}{Q:Value->Shared->Prop}(hl:IsTup s.heap l items)(hb:IsTup s.heap b items2)(hi:IntsAre items.toList ns)(hj:IntsAre items2.toList ms)
  (hu:A.units<cLine) (h:Q (.bool (lexLt ns ms)) s):wpAny (model prog w) A (compareOp .Lt (.ref l) (.ref b)) Q E s:=by
 obtain⟨⟨cls,dd,data,sl⟩,ho,hc,n,hd⟩:=id hl;obtain⟨⟨cls2,dd2,data2,sl2⟩,ho2,hc2,n2,hd2⟩:=id hb;simp only at hc hd hc2 hd2;subst hc hd hc2 hd2;exact richCompare_meets_room (op:=.Lt) ⟨_,ho,Z⟩ ⟨_,ho2,Z⟩ PySem.F.slot_tuple_lt PySem.F.entry_tuple_lt (PySem.F.args_tuple_lt_2 _ _) (zio l b items items2 n n2 dd dd2 sl sl2 ns ms hi hj)
  ⟨ho,ho2,show Value.bool (lexLt ns ms)≠Value.notImplemented/\Q (.bool (lexLt ns ms)) s from⟨(λx=>nomatch x),h⟩⟩ hu
theorem cat_tup{t b:Addr}{vs ws:List Value}{Q:Value->Shared->Prop}(ht:IsTup s.heap t vs.toArray)(hb:IsTup s.heap b ws.toArray)(hv:vs≠[])
  (h1:ws=[]->Q (.ref t) s) (h2:ws≠[]->Q (.ref s.heap.objs.size) { s with heap:=s.heap.push { cls:=.type "tuple",data:=.seq (vs++ws).toArray } })
  (hsz:vs.length+ws.length<=sizeLine):wpAny (model prog w) A (binaryOp .Add (.ref t) (.ref b)) Q E s:=by
 obtain⟨⟨cls,dd,data,sl⟩,ho,hc,n,hd⟩:=id ht;obtain⟨⟨cls2,dd2,data2,sl2⟩,ho2,hc2,n2,hd2⟩:=id hb;simp only at hc hd hc2 hd2;subst hc hd hc2 hd2;have e:vs.toArray++ws.toArray=(vs++ws).toArray:=by simp
 by_cases hw:ws=[]
 ·exact concat_meets ⟨_,ho,Z⟩ ⟨_,ho2,Z⟩ noFill_tuple_add seq_tuple_add PySem.F.slot_tuple_add PySem.F.entry_tuple_add (PySem.F.args_tuple_add_2 _ _)
   (tuple_addW1 t b vs.toArray ws.toArray n n2 dd dd2 sl sl2 (by simpa using hv) (by simp[hw])) ⟨ho,ho2,h1 hw⟩
 ·refine concat_meets ⟨_,ho,Z⟩ ⟨_,ho2,Z⟩ noFill_tuple_add seq_tuple_add PySem.F.slot_tuple_add PySem.F.entry_tuple_add (PySem.F.args_tuple_add_2 _ _)
   (tuple_addW2 t b vs.toArray ws.toArray n n2 dd dd2 sl sl2 (by simpa using hv) (by simpa using hw) (by rw[Ys,Ys];exact hsz)) ⟨ho,ho2,?_⟩
  rw[e];exact h2 hw
def sIx(n d:Nat):Option Int->Nat
 | none=>d
 | some v=>if v<0 then(v+(n:Int)).toNat else min v.toNat n
theorem sIx_none(n d:Nat):sIx n d none=d:=rfl
theorem sIx_nat(n d k:Nat):sIx n d (some (k:Int))=min k n:=by
 show (if (k:Int)<0 then((k:Int)+(n:Int)).toNat else min (k:Int).toNat n)=min k n;rw[Yh (by omega),Y1]
end
end HT
namespace L2
open PySem PySem.Spec PyProof.Rows
abbrev TO:=St->Hp->(Option Int->Hp->Prop)->Prop
def PO(X:Cx)(e:Option Expr)(t:TO):Prop:=
 ∀(pins:List (Addr×Obj)) (s:Shared) (σ : St) (H:Hp) (Q:Option Int->Hp->Prop),Inv X pins σ H s->t σ H Q ->
  wpAny (model X.prog X.w) X.A (evalPart e X.env) (λu s'=>∃o H',Inv X pins σ H' s'/\IsPart u o/\Q o H') X.xe s
def zwy:TO:=λ_ H Q=>Q none H
def z00(t:TE):TO:=λσ H Q=>t σ H λx H1=>∃i,x=.int i/\Q (some i) H1
theorem zea{ns:List Int}:∀{us:List Value},Vals (ns.map V.int) us->IntsAre us ns:=by
 induction ns with
 | nil=>intro us r;rw[List.map_nil]at r;cases r;exact .nil
 | cons n ns ih=>
  intro us r;rw[Yz]at r
  cases r with
  | cons r1 r2=>
   obtain⟨t,e⟩:=r1;subst e;exact .cons n t (ih r2)
section
variable{X:Cx}{e:Expr}{te:TE}{lo hi:Option Expr}{tl th:TO}{pos p2:Pos}
theorem zp2:PO X none zwy:=by
 intro pins s σ H Q I h;rw[evalPart_none];exact Yb ⟨none,H,I,.none,h⟩
theorem zin(h:PE X e te):PO X (some e) (z00 te):=by
 intro pins s σ H Q I hw;rw[evalPart_some];refine thn (h pins s σ H _ I hw) λu s1 ⟨x,H1,I1,r1,q1⟩=>?_
 obtain⟨i,rfl,q⟩:=q1;obtain⟨t,rfl⟩:=r1;exact⟨some i,H1,I1,.int i t,q⟩
def SlR(X:Cx)(r:V->Option Int->Option Int->Hp->VK->Prop):Prop:=
 ∀(pins:List (Addr×Obj)) (s:Shared) (σ : St) (H:Hp) (x:V) (v vl vu:Value) (lo hi:Option Int) (sl:Addr) (Q:VK),Inv X pins σ H s->RelV x v->s.heap.IsSliceOf sl vl vu .none->IsPart vl lo->IsPart vu hi->r x lo hi H Q ->
  ∃T id,typeLookup (.type T) "__getitem__" = pure (some (.builtin id))/\s.TypeIs v T/\wpAny (model X.prog X.w) X.A (getItem v (.ref sl)) (EP X pins σ Q) X.xe s
def tSl(r:V->Option Int->Option Int->Hp->VK->Prop)(te:TE)(tl th:TO):TE:=λσ H Q=>te σ H λx H1=>tl σ H1 λl H2=>th σ H2 λu H3=>r x l u H3 Q
theorem zjo{r:V->Option Int->Option Int->Hp->VK->Prop}(hr:SlR X r)(he:PE X e te)(hl:PO X lo tl)(hu:PO X hi th):PE X (.Subscript e (.Slice lo hi none p2) pos) (tSl r te tl th):=by
 intro pins s σ H Q I h;refine Subscript_ (thn (he pins s σ H _ I h) λv s1 ⟨x,H1,I1,r1,q1⟩=>?_);refine wpAny_Slice (thn (hl pins s1 σ H1 _ I1 q1) λvl s2 ⟨l,H2,I2,pl,q2⟩=>thn (hu pins s2 σ H2 _ I2 q2) λvu s3 ⟨u,H3,I3,pu,q3⟩=>?_);rw[evalPart_none];refine Yb ?_;have I4:Inv X pins σ H3 { s3 with heap:=s3.heap.push { cls:=.type "slice",data:=.fields #[vl,vu,.none] } }:=I3.kept (t':=s3.toks) λb ob q=>Ye _ q
 obtain⟨T,id,hT,ht,hg⟩:=hr pins { s3 with heap:=s3.heap.push { cls:=.type "slice",data:=.fields #[vl,vu,.none] } } σ H3 x v vl vu l u s3.heap.objs.size Q I4 r1 (Heap.IsSliceOf.new ..) pl pu q3;show wpAny (model X.prog X.w) X.A (subscriptTail e (.Slice lo hi none p2) v (.ref s3.heap.objs.size)) (EP X pins σ Q) X.xe { s3 with heap:=s3.heap.push { cls:=.type "slice",data:=.fields #[vl,vu,.none] } };exact tail_any (ops:=[.ref s3.heap.objs.size,v]) ht hT hg (by with_unfolding_all rfl)
def cutV(xs:List V)(lo hi:Option Int):List V:=(xs.drop (HT.sIx xs.length 0 lo)).take (HT.sIx xs.length xs.length hi-HT.sIx xs.length 0 lo)
theorem zlf(xs:List V)(lo hi:Option Int):(cutV xs lo hi).length<=xs.length:=by
 unfold cutV;rw[List.length_take,List.length_drop];omega
def rLtT(K:W.Frag):R2:=λx y H Q=>∃a b ns ms,x=.ref a/\y=.ref b/\SqT K H a (ns.map V.int)/\SqT K H b (ms.map V.int)/\Q (.bl (HT.lexLt ns ms)) H
theorem zyp(hu:X.A.units<cLine):OpR X (compareOp .Lt) (rLtT X.K):=by
 intro pins s σ H x y v u Q I rx ry h;obtain⟨a,b,ns,ms,rfl,rfl,ha,hb,q⟩:=h
 cases rx
 cases ry;obtain⟨its,r1,p1,_⟩:=I.tuple ha;obtain⟨its2,r2,p2,_⟩:=I.tuple hb;have i1:IntsAre its.toArray.toList ns:=zea r1;have i2:IntsAre its2.toArray.toList ms:=zea r2;exact HT.lt_tupInts p1 p2 i1 i2 hu ⟨.bl (HT.lexLt ns ms),H,I,Z,q⟩
def z0w(K:W.Frag):R2:=λx y H Q=>∃a b xs ys,x=.ref a/\y=.ref b/\SqT K H a xs/\SqT K H b ys/\xs≠[]/\xs.length+ys.length<=sizeLine /\
 (ys=[]->Q (.ref a) H)/\(ys≠[]->∀p,H p=none->Q (.ref p) (upd H p (.tup (xs++ys))))
theorem Vals.nil_iff{xs:List V}{us:List Value}(r:Vals xs us):us=[]↔xs=[]:=by
 cases r with
 | nil=>simp
 | cons _ _=>simp
theorem zgv:OpR X (binaryOp .Add) (z0w X.K):=by
 intro pins s σ H x y v u Q I rx ry h;obtain⟨a,b,xs,ys,rfl,rfl,ha,hb,hx,hz,q1,q2⟩:=h
 cases rx
 cases ry;obtain⟨its,r1,p1,_⟩:=I.tuple ha;obtain⟨its2,r2,p2,_⟩:=I.tuple hb;refine HT.cat_tup p1 p2 (λz=>hx (r1.nil_iff.mp z)) (λz=>⟨.ref a,H,I,Z,q1 (r2.nil_iff.mp z)⟩) (λz=>?_) (by rw[<- r1.length,<- r2.length];exact hz);refine⟨.ref s.heap.objs.size,_,I.laid (t':=s.toks) (o:=.tup (xs++ys)) (λb ob q=>Ye _ q) (Yi _) ?_,Z,q2 (λw=>z (r2.nil_iff.mpr w)) _ (I.hok.fresh (Yi _))⟩;exact⟨by rw[Y6];exact hz,_,r1.append r2,IsTup.new _ _⟩
end
def ixN(n:Nat)(i:Int):Option Nat:=if 0<=i then(if i<n then some i.toNat else none) else if -(n:Int)<=i then some (i+n).toNat else none
def atI{α : Type}(xs:List α)(i:Int):Option α:=(ixN xs.length i).bind λj=>xs[j]?
theorem zum{n:Nat}{i:Int}{j:Nat}(h:ixN n i=some j):seqIndex? i n=some j/\j<n/\-(n:Int)<=i/\i<n:=by
 unfold ixN at h;by_cases h0:0<=i
 ·rw[Yl h0]at h;by_cases h1:i<n
  ·rw[Yl h1]at h;have e:i.toNat=j:=Jg h;exact⟨by rw[seqIndex_of h0 h1,e],by omega,by omega,h1⟩
  ·rw[Yh h1]at h;cases h
 ·rw[Yh h0]at h;by_cases h1 : -(n:Int)<=i
  ·rw[Yl h1]at h;have e:(i+n).toNat=j:=Jg h;exact⟨by rw[seqIndex_neg (by omega) h1,e],by omega,h1,by omega⟩
  ·rw[Yh h1]at h;cases h
theorem zn8{α : Type}{xs:List α}{i:Int}{v : α}(h:atI xs i=some v):∃j,seqIndex? i xs.length=some j/\xs[j]? = some v/\j<xs.length/\-(xs.length:Int)<=i/\i<xs.length:=by
 unfold atI at h
 cases e:ixN xs.length i with
 | none=>rw[e]at h;cases h
 | some j=>
  rw[e]at h;obtain⟨h1,h2,h3,h4⟩:=zum e;exact⟨j,h1,h,h2,h3,h4⟩
theorem zcu{α : Type}{xs:List α}{j:Nat}{v : α}(h:xs[j]? = some v):atI xs (j:Int)=some v:=by
 have hj:j<xs.length:=(List.getElem?_eq_some_iff.mp h).1;have e:ixN xs.length (j:Int)=some j:=by
  unfold ixN;rw[Yl (by omega),Yl (by omega)];simp
 unfold atI;rw[e];exact h
def PlainIx(b:Expr):Prop:=∀o i,subscripted b false o i=operate [o,i] (getItem o i)
def IxR(X:Cx)(r:R2):Prop:=
 ∀(value slice:Expr) (pins:List (Addr×Obj)) (s:Shared) (σ : St) (H:Hp) (x y:V) (v u:Value) (Q:VK),Inv X pins σ H s->RelV x v->RelV y u->r x y H Q ->
  subscripted slice false v u=operate [v,u] (getItem v u)->wpAny (model X.prog X.w) X.A (subscriptTail value slice v u) (EP X pins σ Q) X.xe s
def MtR(X:Cx)(id:String)(r:V->List V->Hp->VK->Prop):Prop:=
 ∀(pins:List (Addr×Obj)) (s:Shared) (σ : St) (H:Hp) (x:V) (xs:List V) (v:Value) (us:List Value) (Q:VK),Inv X pins σ H s->RelV x v->Vals xs us->r x xs H Q ->
  wpAny (model X.prog X.w) X.A (call (.builtin id) (v::us)) (EP X pins σ Q) X.xe s
section
variable{X:Cx}{a b:Expr}{ta tb:TE}{pos:Pos}
theorem zaz{r:R2}(hr:IxR X r)(ha:PE X a ta)(hb:PE X b tb)(hs:PlainIx b):PE X (.Subscript a b pos) (tOp r ta tb):=by
 intro pins s σ H Q I h;exact Subscript_ (binT ha hb I h λv u s2 x y H2 I2 rx ry q=>hr a b pins s2 σ H2 x y v u Q I2 rx ry q (hs _ _))
def rIxL(K:W.Frag):R2:=λx y H Q=>∃p xs i v,x=.ref p/\y=.int i/\SqL K H p xs/\atI xs i=some v/\Q v H
def rIxT(K:W.Frag):R2:=λx y H Q=>∃p xs i v,x=.ref p/\y=.int i/\SqT K H p xs/\atI xs i=some v/\Q v H
theorem zb9:IxR X (rIxL X.K):=by
 intro value slice pins s σ H x y v u Q I rx ry h hs;obtain⟨p,xs,i,z,rfl,rfl,hq,he,q⟩:=h
 cases rx;obtain⟨t,rfl⟩:=ry;obtain⟨its,r,pl,hz⟩:=I.list hq;obtain⟨j,h1,h2,h3,h4,h5⟩:=zn8 he;obtain⟨w,ew,rw'⟩:=r.get h2;have hl:=r.length;have hn:=zik;have fin:EP X pins σ Q w s:=⟨z,H,I,rw',q⟩;by_cases h0:0<=i
 ·have hj:i.toNat=j:=by
   rw[seqIndex_of h0 h5]at h1;exact Jg h1
  exact item_listR pl.isList h0 (by omega) (by rw[hj];simpa using ew) fin hs
 ·have hj:(i+(its.toArray.size:Int)).toNat=j:=by
   rw[seqIndex_neg (by omega) h4]at h1;rw[Ys,<- hl];exact Jg h1
  exact subscriptTail_builtinR (x:=w) pl.isList.typeIs slot_list_getitem.lookup
   (wpAny_getItem_list_neg (Q:=λr s'=>r=w/\EP X pins σ Q r s') pl.isList (by omega) (by rw[Ys] <;> omega) (by omega) (by rw[hj];simpa using ew) ⟨Z,fin⟩) hs
theorem zax:IxR X (rIxT X.K):=by
 intro value slice pins s σ H x y v u Q I rx ry h hs;obtain⟨p,xs,i,z,rfl,rfl,hq,he,q⟩:=h
 cases rx;obtain⟨t,rfl⟩:=ry;obtain⟨its,r,pl,hz⟩:=I.tuple hq;obtain⟨j,h1,h2,h3,h4,h5⟩:=zn8 he;obtain⟨w,ew,rw'⟩:=r.get h2;have hl:=r.length;have hn:=zik;have fin:EP X pins σ Q w s:=⟨z,H,I,rw',q⟩;exact subscriptTail_builtinR (x:=w) pl.typeIs slot_tuple_getitem.lookup
  (getItem_tuple (j:=j) (Q:=λr s'=>r=w/\EP X pins σ Q r s') pl (by omega) (by omega) (by rw[Ys,<- hl];exact h1) (by simpa using ew) ⟨Z,fin⟩) hs
theorem Inv.lst{pins:List (Addr×Obj)}{σ : St}{H:Hp}{s:Shared}{p:Addr}{xs:List V}(I:Inv X pins σ H s)(h:H p=some (.lst xs)) :
  ∃(its:List Value) (n:Nat),Vals xs its/\s.heap.get? p=some { cls:=.type "list",data:=.seq its.toArray n }/\xs.length<=sizeLine:=by
 obtain⟨z,its,n,r,e⟩:=I.hok p _ h;exact⟨its,n,r,e,z⟩
theorem zj1(lo hi:Option Int)(n:Nat):(sliceBounds lo hi none n).1=((HT.sIx n 0 lo:Nat):Int)/\(sliceBounds lo hi none n).2.1=((HT.sIx n n hi:Nat):Int)/\(sliceBounds lo hi none n).2.2=1:=by
 refine⟨?_,?_,Z⟩
 ·cases lo with
  | none=>simp[sliceBounds,HT.sIx]
  | some i=>
   simp only[sliceBounds,HT.sIx,Option.getD_none,show (1:Int) > 0 by decide,if_true]
   by_cases h:i<0
   ·simp only[h,if_true] <;> omega
   ·simp only[h,if_false] <;> omega
 ·cases hi with
  | none=>simp[sliceBounds,HT.sIx]
  | some i=>
   simp only[sliceBounds,HT.sIx,Option.getD_none,show (1:Int) > 0 by decide,if_true]
   by_cases h:i<0
   ·simp only[h,if_true] <;> omega
   ·simp only[h,if_false] <;> omega
theorem zix(its:List Value)(lo hi:Option Int):slicePick its.toArray lo hi none=((its.drop (HT.sIx its.length 0 lo)).take (HT.sIx its.length its.length hi-HT.sIx its.length 0 lo)).toArray:=by
 obtain⟨h1,h2,h3⟩:=zj1 lo hi its.toArray.size;unfold slicePick;rw[h1,h2,h3];simp only[sliceRange_one,pick_run,List.size_toArray] <;> rfl
def rSlL(K:W.Frag):V->Option Int->Option Int->Hp->VK->Prop:=λx lo hi H Q=>∃a xs,x=.ref a/\SqL K H a xs/\∀p,H p=none->Q (.ref p) (upd H p (.lst (cutV xs lo hi)))
theorem zuy:SlR X (rSlL X.K):=by
 intro pins s σ H x v vl vu lo hi sl Q I rx hs pl pu h;obtain⟨a,xs,rfl,hx,q⟩:=h
 cases rx;obtain⟨its,r,ht,hz⟩:=I.list hx;have hlen:=r.length;refine⟨"list",_,slot_list_getitem.lookup,ht.isList.typeIs,?_⟩;refine wpAny_getItem_list_slice ht.isList hs pl pu .none (by simp) ?_ (by rw[List.size_toArray] <;> omega);rw[zix,<- hlen];refine⟨.ref s.heap.objs.size,_,I.laid (t':=s.toks) (o:=.lst (cutV xs lo hi)) (λb ob q=>Ye _ q) (Yi _) ?_,Z,q _ (I.hok.fresh (Yi _))⟩;exact⟨Yr (zlf xs lo hi) hz,_,0,(r.drop (HT.sIx xs.length 0 lo)).take (HT.sIx xs.length xs.length hi-HT.sIx xs.length 0 lo),Yk _ rfl⟩
theorem zjt:CallR X (.builtin "len") (λxs H Q=>∃p ys,xs=[.ref p]/\(SqL X.K H p ys\/SqT X.K H p ys)/\Q (.int ys.length) H):=by
 intro pins s σ H xs us Q I r h;obtain⟨p,ys,rfl,hq,q⟩:=h;obtain⟨u,rfl,rx⟩:=zi3 r
 cases rx;have hn:=zik;rcases hq with hq | hq
 ·obtain⟨its,r',pl,hz⟩:=I.list hq;have hlen:=r'.length;exact Calls.call_len_list pl.isList (by simp only[List.size_toArray] <;> omega) ⟨.int ys.length,H,I.tok _,⟨s.toks+1,by rw[Ys,hlen]⟩,q⟩
 ·obtain⟨its,r',pl,hz⟩:=I.tuple hq;have hlen:=r'.length;exact len_tuple pl (by simp only[List.size_toArray] <;> omega) ⟨.int ys.length,H,I.tok _,⟨s.toks+1,by rw[Ys,hlen]⟩,q⟩
theorem zkb:CallR X (.builtin "len") (λxs H Q=>∃z,xs=[.str z]/\z.length<=sizeLine/\Q (.int z.length) H):=by
 intro pins s σ H xs us Q I r h;obtain⟨z,rfl,hz,q⟩:=h;obtain⟨u,rfl,t,rfl⟩:=zi3 r;have hn:=zik;exact len_str (by omega) ⟨.int z.length,H,I.tok _,⟨_,rfl⟩,q⟩
theorem zj7:CallR X (.type "list") (λxs H Q=>∃p ys,xs=[.ref p]/\(SqL X.K H p ys\/SqT X.K H p ys)/\∀l,H l=none->Q (.ref l) (upd H l (.lst ys))):=by
 intro pins s σ H xs us Q I r h;obtain⟨p,ys,rfl,hq,q⟩:=h;obtain⟨u,rfl,rx⟩:=zi3 r
 cases rx;have fin:∀(its:List Value),Vals ys its->ys.length<=sizeLine->∀(h':Heap) (c':Nat),(∀b o',s.heap.get? b=some o'->h'.get? b=some o') ->
   h'.get? s.heap.objs.size=some { cls:=.type "list",dict:=none,data:=.seq its.toArray c',slots := #[] }->EP X pins σ Q (.ref s.heap.objs.size) { s with heap:=h' }:=λits r' hz h' c' kp e=>
  ⟨.ref s.heap.objs.size,_,I.laid (t':=s.toks) kp (Yi _) (show ObjOk X.prog X.w _ h' _ (.lst ys) from⟨hz,its,c',r',e⟩),Z,q _ (I.hok.fresh (Yi _))⟩
 rcases hq with hq | hq
 ·obtain⟨its,r',pl,hz⟩:=I.list hq;have hlen:=r'.length;obtain⟨o,ho,hc,n,hd⟩:=pl.isList;exact call_list_seq p (.inl rfl) ho hc hd (λh' c' kp e=>fin its r' hz h' c' kp e) (by simp only[List.size_toArray] <;> omega)
 ·obtain⟨its,r',pl,hz⟩:=I.tuple hq;have hlen:=r'.length;obtain⟨o,ho,hc,n,hd⟩:=pl;exact call_list_seq p (.inr rfl) ho hc hd (λh' c' kp e=>fin its r' hz h' c' kp e) (by simp only[List.size_toArray] <;> omega)
theorem zjn:CallR X (.type "tuple") (λxs H Q=>∃p ys,xs=[.ref p]/\((SqL X.K H p ys/\∀l,H l=none->Q (.ref l) (upd H l (.tup ys)))\/(SqT X.K H p ys/\Q (.ref p) H))):=by
 intro pins s σ H xs us Q I r h;obtain⟨p,ys,rfl,h⟩:=h;obtain⟨u,rfl,rx⟩:=zi3 r
 cases rx;rcases h with⟨hq,q⟩ | ⟨hq,q⟩
 ·obtain⟨its,r',pl,hz⟩:=I.list hq;have hlen:=r'.length;refine call_tuple_list pl.isList (λh' kp=>?_) (by simp only[List.size_toArray] <;> omega);have I1:Inv X pins σ H { s with heap:=h' }:=I.kept (t':=s.toks) kp;have I2:Inv X pins σ (upd H h'.objs.size (.tup ys)) { s with heap:=h'.push { cls:=.type "tuple",data:=.seq its.toArray } }:=
   I1.laid (t':=s.toks) (λb o e=>Ye _ e) (Yi _) (show ObjOk X.prog X.w _ _ _ (.tup ys) from⟨hz,its,r',IsTup.new _ _⟩)
  exact⟨.ref h'.objs.size,_,I2,Z,q _ (I1.hok.fresh (Yi _))⟩
 ·obtain⟨its,r',pl,hz⟩:=I.tuple hq;exact call_tuple_same pl ⟨.ref p,H,I,Z,q⟩
def tyV(K:W.Frag)(T:String)(x:V)(H:Hp):Prop:=match x with
 | .str _=>T = "str"
 | .int _=>T = "int"
 | .ref p=>(T = "list"/\∃xs,SqL K H p xs)\/(T = "tuple"/\∃o,K.lookup p=some o/\o.cls=.type "tuple"/\o.dict=none) \/
   (T = "dict"/\((∃kvs,H p=some (.dK kvs))\/∃kvs,H p=some (.dT kvs)))\/(T = "set"/\∃S n,H p=some (.set S n))
 | _=>False
theorem ztu{pins:List (Addr×Obj)}{σ : St}{H:Hp}{s:Shared}{T:String}{x:V}{v:Value}(I:Inv X pins σ H s)(r:RelV x v)(ty:tyV X.K T x H) :
  s.TypeIs v T/\∀a,v=.ref a->∃ob,s.heap.get? a=some ob/\ob.dict=none:=by
 cases x with
 | str z=>
  obtain⟨t,rfl⟩:=r
  cases (show T = "str" from ty);exact⟨typeIs_str s z t,λ_ e=>nomatch e⟩
 | int i=>
  obtain⟨t,rfl⟩:=r
  cases (show T = "int" from ty);exact⟨typeIs_int s i t,λ_ e=>nomatch e⟩
 | ref p=>
  cases r;rcases ty with⟨rfl,xs,hq⟩ | ⟨rfl,o,hk,hc,hd⟩ | ⟨rfl,hk⟩ | ⟨rfl,S,n,hk⟩
  ·obtain⟨its,_,pl,_⟩:=I.list hq;refine⟨pl.isList.typeIs,λa e=>?_⟩
   cases e;obtain⟨o,n,e,c,hd,_⟩:=pl;exact⟨o,e,hd⟩
  ·refine⟨⟨o,I.kIn p o hk,hc⟩,λa e=>?_⟩
   cases e;exact⟨o,I.kIn _ o hk,hd⟩
  ·have z:∃o,s.heap.get? p=some o/\o.ExactDict:=by
    rcases hk with⟨kvs,hk⟩ | ⟨kvs,hk⟩
    ·obtain⟨_,_,_,_,o,_,_,e,ex,_⟩:=I.hok p _ hk;exact⟨o,e,ex⟩
    ·obtain⟨_,_,_,_,o,_,_,e,ex,_⟩:=I.hok p _ hk;exact⟨o,e,ex⟩
   obtain⟨o,e,ex⟩:=z;refine⟨⟨o,e,ex.1⟩,λa e2=>?_⟩
   cases e2;exact⟨o,e,ex.2.1⟩
  ·obtain⟨o,_,_,_,e,ex,_⟩:=I.hok p _ hk;refine⟨⟨o,e,ex.1⟩,λa e2=>?_⟩
   cases e2;exact⟨o,e,ex.2.1⟩
 | _=>exact Jf ty
def tBM0(K:W.Frag)(T:String)(r:V->List V->Hp->VK->Prop)(to:TE):TE:=λσ H Q=>to σ H λx H1=>tyV K T x H1/\r x [] H1 Q
def tBM(K:W.Frag)(T:String)(r:V->List V->Hp->VK->Prop)(to:TE)(t:TA):TE:=λσ H Q=>to σ H λx H1=>tyV K T x H1/\t σ H1 λxs H2=>r x xs H2 Q
variable{o e:Expr}{es:List Expr}{to:TE}{t:TA}{name:Str}{apos cpos:Pos}{T id:String}{r:V->List V->Hp->VK->Prop}
theorem zxg(pa:PlainAttrs T)(slot:Slot T name id)(hty:typeOf (.builtin id)=pure (.type "method_descriptor"))(hm:MtR X id r)(ho:PE X o to)
  (hbase:attributeBase o name X.env (eval o X.env)=eval o X.env:=by rfl) (hline:(apos.endLine == cpos.line)=true:=by rfl):PE X (.Call (.Attribute o name apos) [] [] cpos) (tBM0 X.K T r to):=by
 intro pins s σ H Q I h;refine wpAny_Call_method0_late hbase hline (thn (ho pins s σ H _ I h) λv s1 ⟨x,H1,I1,r1,ty,q1⟩=>?_);obtain⟨h1,h2⟩:=ztu I1 r1 ty;exact⟨T,id,pa,slot,hty,h1,h2,Calls.callWith_builtin rfl (PySem.evalArgs_none (hm pins s1 σ H1 x [] v [] Q I1 r1 .nil q1))⟩
theorem ztk(pa:PlainAttrs T)(slot:Slot T name id)(hty:typeOf (.builtin id)=pure (.type "method_descriptor"))(hm:MtR X id r)(ho:PE X o to)(ha:PA X (e::es) t)
  (hbase:attributeBase o name X.env (eval o X.env)=eval o X.env:=by rfl)
  (hfew:((backTo cpos (starEach (e::es) X.env)).all (λx => !x.1)&&(backToKw cpos (keywordEach [] X.env)).all (λx=>x.1.isSome)
   && decide ((e::es).length+([]:List Keyword).length+(if ([]:List Keyword).isEmpty then 0 else 1)<30))=true:=by rfl)
  (hline:(apos.endLine == cpos.line)=true:=by rfl) (hs:starEach (e::es) X.env=(false,eval e X.env)::starEach es X.env:=by rfl) (hplain:(backTo cpos (starEach es X.env)).any (·.1)=false:=by rfl) :
  PE X (.Call (.Attribute o name apos) (e::es) [] cpos) (tBM X.K T r to t):=by
 intro pins s σ H Q I h;refine wpAny_Call_method_late hbase hfew hline rfl (thn (ho pins s σ H _ I h) λv s1 ⟨x,H1,I1,r1,ty,q1⟩=>?_);obtain⟨h1,h2⟩:=ztu I1 r1 ty;refine⟨T,id,pa,slot,hty,h1,h2,?_⟩;have hA:=ha cpos pins s1 σ H1 _ I1 q1;rw[hs]at hA ⊢;refine Calls.callWith_builtin (by show (false||(backTo cpos (starEach es X.env)).any (·.1))=false;rw[hplain] <;> rfl) (Calls.evalArgs_plain ?_);exact thn hA λus s2 ⟨vs,H2,I2,r2,q2⟩=>hm pins s2 σ H2 x vs v us Q I2 r1 r2 q2
/- xs.append(e),list.index on a module's tuple .. are MtR facts of 06m -/
end
def MtM(X:Cx)(id:String)(r:V->List V->Hp->VK->Prop):Prop:=
 ∀(pins:List (Addr×Obj)) (s:Shared) (σ : St) (H:Hp) (x:V) (xs:List V) (v:Value) (us:List Value) (Q:VK),Inv X pins σ H s->RelV x v->Vals xs us->r x xs H Q ->
  wpAny (model X.prog X.w) X.A (call (.builtin id) (v::us)) (EP X pins σ Q) X.xe s
theorem Vals.one:∀{x:V} {us:List Value},Vals [x] us->∃u,us=[u]/\RelV x u
 | _,_,.cons r .nil=>⟨_,rfl,r⟩
theorem Vals.two:∀{x y:V} {us:List Value},Vals [x,y] us->∃u v,us=[u,v]/\RelV x u/\RelV y v
 | _,_,_,.cons r (.cons q .nil)=>⟨_,_,rfl,r,q⟩
theorem Vals.zero:∀{us:List Value},Vals [] us->us=[]
 | _,.nil=>rfl
theorem Vals.dropLast{xs:List V}{us:List Value}(h:Vals xs us):Vals xs.dropLast us.dropLast:=by
 induction h with
 | nil=>exact .nil
 | cons r t ih=>
  cases t with
  | nil=>exact .nil
  | cons q t'=>exact .cons r ih
theorem Vals.eraseIdx:∀{xs:List V} {us:List Value} (i:Nat),Vals xs us->Vals (xs.eraseIdx i) (us.eraseIdx i)
 | _,_,_,.nil=>.nil
 | _,_,0,.cons _ t=>t
 | _,_,i+1,.cons r t=>.cons r (Vals.eraseIdx i t)
theorem znj{α : Type}(l:List α):l.eraseIdx (l.length-1)=l.dropLast:=by
 induction l with
 | nil=>rfl
 | cons a r ih=>
  cases r with
  | nil=>rfl
  | cons b r=>
   have e:(a::b::r).length-1=((b::r).length-1)+1:=by
    have h1:(a::b::r).length=r.length+2:=rfl;have h2:(b::r).length=r.length+1:=rfl;omega
   rw[e,List.eraseIdx_cons_succ,ih]
   all_goals rfl
theorem zkm{α : Type}:∀(l:List α) (i:Nat),(l.eraseIdx i).length<=l.length
 | [],_=>Yi _
 | _::_,0=>Nat.le_succ _
 | _::r,i+1=>Nat.succ_le_succ (zkm r i)
section
variable{X:Cx}{pins:List (Addr×Obj)}{σ : St}{H:Hp}{s:Shared}{l b:Addr}{xs ys zs:List V}
theorem Inv.lset{its its':List Value}{n:Nat}{f:Array Value->Array Value}{t':Nat}(I:Inv X pins σ H s)(hH:H l=some (.lst xs))
  (e:s.heap.get? l=some { cls:=.type "list",data:=.seq its.toArray n }) (hf:f its.toArray=its'.toArray) (hv:Vals ys its') (hz:ys.length<=sizeLine) :
  Inv X pins σ (upd H l (.lst ys)) { s with heap:=s.heap.update l (Obj.mapSeq f),toks:=t' }:=by
 have q:=PySem.IsL.update e f;rw[hf]at q;refine I.write (x:=l) (e:=l) (by rw[hH];exact trivial) (.inl rfl) (λb' u hb hu=>(Heap.get?_update_other s.heap (Obj.mapSeq f) (Jc hb)).trans hu) ⟨_,q⟩ ?_;exact⟨hz,its',_,hv,q⟩
theorem Inv.lnew{its:List Value}{t':Nat}(I:Inv X pins σ H s)(hv:Vals ys its)(hz:ys.length<=sizeLine) :
  Inv X pins σ (upd H s.heap.objs.size (.lst ys)) { s with heap:=s.heap.push { cls:=.type "list",data:=.seq its.toArray },toks:=t' }:=
 I.laid (λ_ _ q=>Ye _ q) (Yi _) ⟨hz,its,0,hv,Yk _ rfl⟩
theorem Inv.fresh(I:Inv X pins σ H s):H s.heap.objs.size=none:=I.hok.fresh (Yi _)
theorem Inv.lstM(I:Inv X pins σ H s)(hH:H l=some (.lst xs)):xs.length<=sizeLine/\∃(its:List Value) (n:Nat),Vals xs its/\xs.length=its.length/\s.heap.get? l=some { cls:=.type "list",data:=.seq its.toArray n }:=by
 obtain⟨z,its,n,r,e⟩:=I.hok l _ hH;exact⟨z,its,n,r,r.length,e⟩
end
section
variable{X:Cx}
def zvu:V->List V->Hp->VK->Prop:=λx vs H Q=>∃l xs y,x=.ref l/\vs=[y]/\H l=some (.lst xs)/\xs.length<sizeLine/\Q .non (upd H l (.lst (xs++[y])))
theorem zj8:MtM X "list.append" zvu:=by
 intro pins s σ H x vs v us Q I rx rv h;obtain⟨l,xs,y,rfl,rfl,hH,hz,q⟩:=h
 cases rx;obtain⟨u,rfl,ru⟩:=rv.one;obtain⟨z,its,n,r,hl,e⟩:=I.lstM hH;refine call_meets F.slot_list_append ⟨_,e,Z⟩ F.entry_list_append (F.args_list_append_2 _ _) (PySem.list_append l its.toArray n u (by rw[Ys];omega)) ⟨e,?_⟩;refine⟨.non,_,I.lset (its':=its++[u]) hH e (by simp) (r.append (.cons ru .nil)) ?_,Z,q⟩;rw[Y6,List.length_singleton];omega
def rPop:V->List V->Hp->VK->Prop:=λx vs H Q=>∃l xs y,x=.ref l/\vs=[]/\H l=some (.lst xs)/\xs[xs.length-1]? = some y/\Q y (upd H l (.lst xs.dropLast))
theorem zzd:MtM X "list.pop" rPop:=by
 intro pins s σ H x vs v us Q I rx rv h;obtain⟨l,xs,y,rfl,rfl,hH,hy,q⟩:=h
 cases rx;have hus:=rv.zero;subst hus;obtain⟨z,its,n,r,hl,e⟩:=I.lstM hH;obtain⟨u,hu,ru⟩:=r.get hy;have hy':its.toArray[its.toArray.size-1]? = some u:=by
  show its.toArray[its.length-1]? = some u;rw[<- Array.getElem?_toList,<- hl];exact hu
 refine call_meets F.slot_list_pop ⟨_,e,Z⟩ F.entry_list_pop (F.args_list_pop_1 _) (MeetsSeq.list_pop_last l its.toArray n u hy' (by rw[Ys];omega)) ⟨e,?_⟩;refine⟨y,_,I.lset (its':=its.dropLast) hH e ?_ r.dropLast ?_,ru,q⟩
 ·show its.toArray.eraseIdxIfInBounds (its.toArray.size-1)=its.dropLast.toArray;rw[Ys,List.eraseIdxIfInBounds_toArray,znj]
 ·rw[List.length_dropLast];omega
def zy1:V->List V->Hp->VK->Prop:=λx vs H Q=>∃l xs i k y,x=.ref l/\vs=[.int i]/\H l=some (.lst xs)/\-(2^63)<=i/\i<2^63/\seqIndex? i xs.length=some k/\xs[k]? = some y/\Q y (upd H l (.lst (xs.eraseIdx k)))
theorem zrp:MtM X "list.pop" zy1:=by
 intro pins s σ H x vs v us Q I rx rv h;obtain⟨l,xs,i,k,y,rfl,rfl,hH,h1,h2,hk,hy,q⟩:=h
 cases rx;obtain⟨u,rfl,ru⟩:=rv.one;obtain⟨t,rfl⟩:=ru;obtain⟨z,its,n,r,hl,e⟩:=I.lstM hH;obtain⟨w,hw,rw'⟩:=r.get hy;refine call_meets F.slot_list_pop ⟨_,e,Z⟩ F.entry_list_pop (F.args_list_pop_2 _ _)
  (MeetsSeq.list_pop_at l its.toArray n i t k w (fitsIndex_both h1 h2) (by rw[Ys,<- hl];exact hk) (by rw[<- Array.getElem?_toList];exact hw) (by rw[Ys];omega)) ⟨e,?_⟩
 refine⟨y,_,I.lset (its':=its.eraseIdx k) hH e ?_ (r.eraseIdx k) ?_,rw',q⟩
 ·show its.toArray.eraseIdxIfInBounds k=(its.eraseIdx k).toArray;rw[List.eraseIdxIfInBounds_toArray]
 ·have:=zkm xs k;omega
def rCat:R2:=λx y H Q=>∃l b xs zs,x=.ref l/\y=.ref b/\H l=some (.lst xs)/\H b=some (.lst zs)/\xs.length+zs.length<=sizeLine/\∀p,H p=none->Q (.ref p) (upd H p (.lst (xs++zs)))
theorem zxw:OpR X (binaryOp .Add) rCat:=by
 intro pins s σ H x y v u Q I rx ry h;obtain⟨l,b,xs,zs,rfl,rfl,hH,hB,hz,q⟩:=h
 cases rx
 cases ry;obtain⟨z,its,n,r,hl,e⟩:=I.lstM hH;obtain⟨z2,its2,n2,r2,hl2,e2⟩:=I.lstM hB;refine PySem.P.add_list e e2 ?_ (by rw[Ys,Ys];omega);have ea:its.toArray++its2.toArray=(its++its2).toArray:=by simp
 rw[ea];exact⟨.ref _,_,I.lnew (t':=s.toks) (r.append r2) (by rw[Y6];omega),Z,q _ I.fresh⟩
end
end L2
namespace Att
open PySem PySem.W PySem.Calls PyProof.Rows
theorem zhr{P:Params}{h:Heap}:∀(ns:List Int) (vs:List Value),WellAll P h vs (ns.map WData.int)->IntsAre vs ns:=by
 intro ns;induction ns with
 | nil=>
  intro vs w;rw[List.map_nil]at w
  cases w;exact .nil
 | cons n ns ih=>
  intro vs w;rw[Yz]at w
  cases w with
  | cons a b=>
   cases a;exact .cons _ _ (ih _ b)
theorem zql{l:OpenLaw}{n:Nat}(hn:l.most=some n){P:Params}{h:Heap}{args:List WData}{vals:List Value}
  (hpre:l.row.toRowW.claim.pre args=true) (hwl:WellAll P h vals args) :
  ∃a vs ns,vals=[Value.ref a]/\args=[WData.list (ns.map WData.int)]/\h.get? a=some { cls:=.type "list",data:=.seq vs.toArray }/\IntsAre vs ns/\ns.length<=n:=by
 have hsh:WShape.hasAll [] args [.list .int]=true:=(pre_splitW hpre).1;have hc:l.pre.holds [] { args:=args }=true:=(pre_splitW hpre).2;obtain⟨d,r,rfl,h1,h2⟩:=hasAllW_cons hsh;obtain rfl:=hasAllW_nil h2;obtain⟨xs,rfl,h3⟩:=hasW_list h1;obtain⟨ns,rfl⟩:=items_int h3;have hlen:ns.length<=n:=by
  unfold OpenLaw.pre at hc;have h4:(WTm.not (.lt (.lit (.int (n:Int))) (.len (.arg 0)))).holds [] { args:=[.list (ns.map .int)] }=true:=by
   have h4:=(holds_andW hc).1;rw[hn]at h4;exact h4
  have h5:=condW_of h4 (w_not (w_lt w_lit (w_len_list (w_arg rfl))));rw[Yd]at h5;refine Nat.le_of_not_lt λq=>?_
  have q':(n:Int)<((ns.length:Nat):Int):=by omega
  first
   | (rw[Yo q']at h5;exact absurd h5 (by decide))
   | (simp at h5;omega)
 cases hwl with
 | cons w1 w2=>
  cases w2
  cases w1 with
  | list ho hall=>exact⟨_,_,ns,rfl,rfl,ho,zhr ns _ hall,hlen⟩
theorem zpy(l:OpenLaw)(args:List WData):l.row.toRowW.claim.post args (.bool true) args=true:=
 postW_of (r:=l.row.toRowW) (X:=(true == true))
  (show WShape.has [] (.bool true) .bool=true by first | rfl | decide | simp[WShape.has,WShape.arms,WShape.armsAll])
  (show (WTm.eq .res (.lit (.bool true))).value [] { args:=args,res:=some (.bool true),after:=args }=some (.bool (true == true)) from w_eq_bool (w_res rfl) w_lit) rfl
theorem attach_call{l:OpenLaw}{n:Nat}{q:Program}{loose:List Str}{XP:(Str->Option Value)->Heap->Prop}{YP:World->Heap->Prop}{d:DefRec}
  (hn:l.most=some n) (hdf:d.params.defaults=[])
  (call:∀(w:World) (s₀ s₁:Shared) (mg mb:Str->Option Value) (fa:Addr) (o:Obj) (pm cd doc:Value) (a:Addr) (vs:List Value) (ns:List Int),
   Ground q loose [] XP w s₀ mg mb s₁.heap->YP w s₁.heap ->
   s₁.heap.get? fa=some o->o.data=.func (docDef d.name d.params d.body d.scope pm cd doc)->s₁.heap.CodeRec cd d.name->mg d.name=some (.ref fa) ->
   s₁.heap.get? a=some { cls:=.type "list",data:=.seq vs.toArray }->IntsAre vs ns->ns.length<=n->s₁.gens = #[] ->
   codeAny (model l.prog w) callerA (.call (.ref fa) ⟨[.ref a],[]⟩) (λr s'=>r=.ok (.ret (.bool true))/\OldK s₁.heap s'.heap/\s'.os=s₁.os/\AllBare s'.gens) s₁) :
  WalkO q loose XP YP l.row.toRowW d [] (λf vs=>PySem.call f vs):=by
 intro w s₀ s₁ mg mb G Y fa o pm cd doc dV kV ho hd hcd hD hmg hg args vals as hpre hlay hrd hwl hlo;obtain rfl:dV=.none:=Dflts.none hD hdf;obtain rfl:kV=.none:=Dflts.noKw hD;obtain⟨a,vs,ns,rfl,rfl,hobj,hints,hlen⟩:=zql hn hpre hwl;refine enter_call (codeAny_mono (call w s₀ s₁ mg mb fa o pm cd doc a vs ns G Y ho (fd_plain hd) hcd hmg hobj hints hlen hg) λr s' hq=>?_);obtain⟨rfl,h2,h3,h4⟩:=hq;exact⟨.inl ⟨.bool true,.bool true,[],rfl,λ_=>rfl,.bool true,zpy l _,λ_=>⟨List.Pairwise.nil,λ_ hm=>(nomatch hm)⟩⟩,h2,h3,h4⟩
end Att
namespace L2
open PySem PySem.Spec PyProof.Rows
theorem zkh:∀{vs:List Value} {ns:List Int},IntsAre vs ns->Vals (ns.map V.int) vs
 | _,_,.nil=>.nil
 | _,_,.cons n t h=>.cons ⟨t,rfl⟩ (zkh h)
def za5(s:Stmt)(j:Nat):Stmt:=match s with
 | .ClassDef _ _ _ body _ _ _ _ _ _ _=>body.getD j (.Pass ⟨0,0,0,0⟩)
 | _=>.Pass ⟨0,0,0,0⟩
def zdo(s:Stmt):Arguments:=match s with
 | .FunctionDef _ a _ _ _ _ _ _ _ _=>a
 | _=>{ posonlyargs:=[],args:=[],vararg:=none,kwonlyargs:=[],kw_defaults:=[],kwarg:=none,defaults:=[] }
def zck(s:Stmt):List Stmt:=match s with
 | .FunctionDef _ _ b _ _ _ _ _ _ _=>b
 | _=>[]
def zah(s:Stmt):Scope:=match s with
 | .FunctionDef _ _ _ _ _ _ sc _ _ _=>sc
 | _=>{ kind:=.function,names:=[],isGenerator:=false,isCoroutine:=false }
abbrev CX0:CXT:=λ_ _ _ _ _ _=>False
abbrev E0:XK:=λ_ _ _=>False
section
variable{X:Cx}
theorem pv(i:Nat){x:Str}{pos:Pos}(hN:X.N[i]? = some x:=by rfl)(hv:Vis X.env.scope x:=by first | exact Or.inl rfl | exact Or.inr (Or.inl rfl) | exact Or.inr (Or.inr rfl))(hd:(x == ("__debug__" : Str))=false:=by decide)
  (hcd:(x == ("__classdict__" : Str))=false:=by decide):PE X (.Name x pos) (tVar i):=zz2 hN hv hd hcd
end
theorem iteF{A B:Prop}(h:B):if false=true then A else B:=by
 rw[Yh Yt];exact h
theorem iteT{A B:Prop}(h:A):if true=true then A else B:=by
 rw[Yl rfl];exact h
theorem zsq{c A B:Prop}[Decidable c](hc:c)(h:B):if (!decide c)=true then A else B:=by
 rw[Yo hc];exact iteF h
def Same(H H':Hp):Prop:=∀b o,H b=some o->H' b=some o
theorem Same.refl(H:Hp):Same H H:=λ_ _ h=>h
theorem Same.trans{H H1 H2:Hp}(a:Same H H1)(b:Same H1 H2):Same H H2:=λc o h=>b c o (a c o h)
theorem Same.free{H H':Hp}(e:Same H H'){l:Addr}(h:H' l=Option.none):H l=Option.none:=by
 cases q:H l with
 | none=>rfl
 | some o=>
  rw[e l o q]at h
  cases h
theorem Same.seq{K:W.Frag}{H H':Hp}{a:Addr}{xs:List V}(e:Same H H')(h:SqL K H a xs):SqL K H' a xs:=by
 rcases h with(h | ⟨o,h⟩) | h
 ·exact .inl (.inl (e _ _ h))
 ·exact .inl (.inr ⟨o,e _ _ h⟩)
 ·exact .inr h
end L2
set_option Elab.async false
set_option linter.all false
set_option maxRecDepth 100000
namespace L2
open PySem PySem.Spec PyProof.Rows
abbrev kn(b:Bool):String:=if b then "tuple_iterator" else "list_iterator"
def SqAt(b:Bool)(h:Heap)(l:Addr)(items:Array Value):Prop:=match b with
 | true=>h.IsTuple l items
 | false=>h.IsList l items
def IterAt(b:Bool)(h:Heap)(it l:Addr)(i:Nat):Prop:=match b with
 | true=>h.IsTupleIter it l i
 | false=>h.IsListIter it l i
theorem SqAt.at{b:Bool}{h h':Heap}{l:Addr}{items:Array Value}(x:SqAt b h l items)(e:∀o,h.get? l=some o->h'.get? l=some o):SqAt b h' l items:=by
 cases b with
 | true=>obtain⟨o,ho,r⟩:=x;exact⟨o,e o ho,r⟩
 | false=>exact Heap.IsList.at x e
theorem IterAt.obj{b:Bool}{h:Heap}{it l:Addr}{i:Nat}(x:IterAt b h it l i):∃o,h.get? it=some o/\∀v,o.data≠.cell v:=by
 cases b <;> (obtain⟨o,ho,c,d⟩:=x;exact⟨o,ho,λv z=>by rw[d]at z;cases z⟩)
theorem IterAt.at{b:Bool}{h h':Heap}{it l:Addr}{i:Nat}(x:IterAt b h it l i)(e:∀o,h.get? it=some o->h'.get? it=some o):IterAt b h' it l i:=by
 cases b <;> (obtain⟨o,ho,r⟩:=x;exact⟨o,e o ho,r⟩)
section
variable{prog:Program}{w:World}{A:Around}{E:Value->Shared->Prop}{s:Shared}
theorem zjd{it t:Addr}{i:Nat}{items:Array Value}{x:Value}{Q:Value->Shared->Prop}(hit:s.heap.IsTupleIter it t i)(ht:s.heap.IsTuple t items)(hx:items[i]? = some x)
  (hQ:∀h',h'.IsTupleIter it t (i+1)->Heap.SameBut it s.heap h'->Q x { s with heap:=h' }):wpAny (model prog w) A (Builtin.SmallTypes.nextOf (.ref it)) Q E s:=by
 obtain⟨o,ho,hc,hd⟩:=id hit;obtain⟨ol,hol,_,nl,hdl⟩:=ht;unfold Builtin.SmallTypes.nextOf;refine Ya (Jb (name:=Str.ofString "__next__") hit.typeIs F.slot_tuple_iterator_next (Y8 F.slot_tuple_iterator_next hit.typeIs F.entry_tuple_iterator_next ?_ (F.args_tuple_iterator_next_1 _)));show wpAny _ _ (field (.ref it) 0 >>= _) _ _ s;refine Ya (Jl ho hd (x:=.ref t) rfl ?_);show wpAny _ _ (if (Value.ref t == Value.none)=true then _ else _) _ _ s;rw[Yh (by intro z;cases z)];show wpAny _ _ (field (.ref it) 1 >>= _) _ _ s;refine Ya (Jl ho hd (x:=.int i 0) rfl ?_);show wpAny _ _ (seqItems? (.ref t) >>= _) _ _ s;refine Ya (Js hol hdl ?_);simp only[Int.toNat_natCast,hx];refine Ya (wpAny_setField ho hd (by simp) (Yb ⟨x,Z,Yb (hQ _ ⟨_,Heap.get?_update_self _ ho (Obj.isFreed_of_fields (Obj.data_mapFields hd _)),(Obj.cls_mapFields ..).trans hc,?_⟩ (Heap.SameBut.update ..))⟩));rw[Obj.data_mapFields hd];simp[rawInt]
theorem zj5{it t:Addr}{i:Nat}{items:Array Value}{Q:Value->Shared->Prop}(hh:A.handled=none)(hit:s.heap.IsTupleIter it t i)(ht:s.heap.IsTuple t items)(hx:items[i]? = none)
  (hE:∀h' e,Heap.ExtBut it s.heap h'->(∃o,h'.get? e=some o/\o.cls=.type "StopIteration")->E (.ref e) { s with heap:=h' }):wpAny (model prog w) A (Builtin.SmallTypes.nextOf (.ref it)) Q E s:=by
 obtain⟨o,ho,hc,hd⟩:=id hit;obtain⟨ol,hol,_,nl,hdl⟩:=ht;unfold Builtin.SmallTypes.nextOf;refine Ya (Jb (name:=Str.ofString "__next__") hit.typeIs F.slot_tuple_iterator_next (Y8 F.slot_tuple_iterator_next hit.typeIs F.entry_tuple_iterator_next ?_ (F.args_tuple_iterator_next_1 _)));show wpAny _ _ (field (.ref it) 0 >>= _) _ _ s;refine Ya (Jl ho hd (x:=.ref t) rfl ?_);show wpAny _ _ (if (Value.ref t == Value.none)=true then _ else _) _ _ s;rw[Yh (by intro z;cases z)];show wpAny _ _ (field (.ref it) 1 >>= _) _ _ s;refine Ya (Jl ho hd (x:=.int i 0) rfl ?_);show wpAny _ _ (seqItems? (.ref t) >>= _) _ _ s;refine Ya (Js hol hdl ?_);simp only[Int.toNat_natCast,hx];refine Ya (wpAny_rule (Ya (wpAny_setField ho hd (by simp) ?_)));show wpAny _ _ (newExc (.type "StopIteration") [] >>= _) _ _ _;refine Ya ?_;simp only[newExc,newTuple];refine Ya (Jo ?_ (by size_fits));refine Ya (m:=firstArgMember _ _) (wpAny_of_eq (a:=Value.none) (by first | rfl | (simp only[firstArgMember];rfl)) ?_);refine Jo ?_ (by size_fits);simp only[raiseNew];refine Ya (wpAny_handled ?_)
 first | rw[show A.in1.handled=none from hh] | rw[hh]
 refine Ya (Yb (wpAny_throw ?_));exact hE _ _ (((Heap.SameBut.update ..).extBut.push _).push _) ⟨_,Yk _ rfl,Z⟩
theorem zhe{b:Bool}{it l:Addr}{i:Nat}{items:Array Value}{x:Value}{Q:Value->Shared->Prop}(hit:IterAt b s.heap it l i)(hl:SqAt b s.heap l items)(hx:items[i]? = some x)
  (hQ:∀h',IterAt b h' it l (i+1)->Heap.SameBut it s.heap h'->Q x { s with heap:=h' }):wpAny (model prog w) A (Builtin.SmallTypes.nextOf (.ref it)) Q E s:=by
 cases b with
 | true=>exact zjd hit hl hx hQ
 | false=>exact wpAny_nextOf_list_item hit hl hx hQ
theorem zmp{b:Bool}{it l:Addr}{i:Nat}{items:Array Value}{Q:Value->Shared->Prop}(hh:A.handled=none)(hit:IterAt b s.heap it l i)(hl:SqAt b s.heap l items)(hx:items[i]? = none)
  (hE:∀h' e,Heap.ExtBut it s.heap h'->(∃o,h'.get? e=some o/\o.cls=.type "StopIteration")->E (.ref e) { s with heap:=h' }):wpAny (model prog w) A (Builtin.SmallTypes.nextOf (.ref it)) Q E s:=by
 cases b with
 | true=>exact zj5 hh hit hl hx hE
 | false=>exact wpAny_nextOf_list_end hh hit hl hx hE
theorem zn2{b:Bool}{l:Addr}{items:Array Value}{Q:Value->Shared->Prop}(hl:SqAt b s.heap l items)
  (hQ:Q (.ref s.heap.objs.size) { s with heap:=s.heap.push { cls:=.type (kn b),data:=.fields #[.ref l,.int 0 0] } }):wpAny (model prog w) A (pyIter (.ref l)) Q E s:=by
 cases b with
 | true=>exact wpAny_pyIter_tuple hl hQ
 | false=>exact wpAny_pyIter_list hl hQ
structure ZSt(b1 b2:Bool)(z TI TO i1 i2 l1 l2:Addr)(f0:Value)(k:Nat)(h:Heap):Prop where
 zip:IsZip h z TI TO f0
 ti:IsPair h TI (.ref i1) (.ref i2)
 to:∃a b,IsPair h TO a b
 it1:IterAt b1 h i1 l1 k
 it2:IterAt b2 h i2 l2 k
theorem ZSt.at{b1 b2:Bool}{z TI TO i1 i2 l1 l2:Addr}{f0:Value}{k:Nat}{h h':Heap}(x:ZSt b1 b2 z TI TO i1 i2 l1 l2 f0 k h)(e:∀b∈[z,TI,TO,i1,i2],∀o,h.get? b=some o->h'.get? b=some o) :
  ZSt b1 b2 z TI TO i1 i2 l1 l2 f0 k h':=
 ⟨e z (by simp) _ x.zip,e TI (by simp) _ x.ti,let ⟨a,b,q⟩:=x.to;⟨a,b,e TO (by simp) _ q⟩,x.it1.at λo q=>e i1 (by simp) o q,x.it2.at λo q=>e i2 (by simp) o q⟩
theorem zs3{b1 b2:Bool}{z TI TO i1 i2 l1 l2:Addr}{k:Nat}{xs ys:Array Value}{x y:Value}{Q:Value->Shared->Prop}(D:ZipApart z TI TO i1 i2 l1 l2)(S:ZSt b1 b2 z TI TO i1 i2 l1 l2 .none k s.heap)
  (hl1:SqAt b1 s.heap l1 xs) (hl2:SqAt b2 s.heap l2 ys) (hx:xs[k]? = some x) (hy:ys[k]? = some y)
  (hQ:∀h',ZSt b1 b2 z TI TO i1 i2 l1 l2 (rawInt s.heap.objs.size) (k+1) h'->IsPair h' s.heap.objs.size x y->h'.objs.size=s.heap.objs.size+1 ->
   (∀c o,c≠z->c≠TO->c≠i1->c≠i2->s.heap.get? c=some o->h'.get? c=some o)->Q (.ref s.heap.objs.size) { s with heap:=h' }) :
  wpAny (model prog w) A (Builtin.«zip.__next__» ⟨[.ref z],[]⟩) (λfin s'=>∃v,fin=.done (.ret v)/\Q v s') E s:=by
 obtain⟨hz,hTI,⟨a,b,hTO⟩,h1,h2⟩:=S;show wpAny _ _ (field (.ref z) 2 >>= _) _ _ _;refine Ya (Jl hz rfl (x:=.bool false) rfl ?_);show wpAny _ _ (field (.ref z) 3 >>= _) _ _ _;refine Ya (Jl hz rfl (x:=.ref TI) rfl (Ya (Js hTI rfl ?_)));show wpAny _ _ (Builtin.SmallTypes.ownedTupleIsFree (.ref z) >>= _) _ _ _;refine Ya ?_;unfold Builtin.SmallTypes.ownedTupleIsFree;refine Ya (Jl hz rfl (x:=.none) rfl (Yb ?_));simp only[if_true];refine Ya (wpAny_rule (Ya (Jl hz rfl (x:=.ref TO) rfl ?_)));refine Ya (Jp hz (by simp) λg1 z1 e1=>?_);replace z1:IsZip g1 z TI TO .ellipsis:=z1;refine Ya ?_;simp only[List.zipIdx_cons,List.zipIdx_nil,List.forIn_cons,List.forIn_nil];refine Ya (Ya (wpAny_onRaise ?_));show wpAny _ _ (Builtin.SmallTypes.nextOf (.ref i1) >>= _) _ _ _;have k1:∀c o,c≠z->s.heap.get? c=some o->g1.get? c=some o:=λc o hc e=>e1.extBut c o hc e
 refine Ya (zhe (s:={ s with heap:=g1 }) (h1.at λo q=>k1 i1 o D.i1z q) (hl1.at λo q=>k1 l1 o D.l1z q) hx λg2 t2 e2=>Yb ?_);have k2:∀c o,c≠z->c≠i1->s.heap.get? c=some o->g2.get? c=some o:=λc o hc hd e=>e2.extBut c o hd (k1 c o hc e)
 have p2:IsPair g2 TO a b:=k2 TO _ D.TOz D.TOi1 hTO;refine Ya (Js p2 rfl (Ya (wpAny_updateSeq_pair p2 λg3 p3 e3=>?_)));replace p3:IsPair g3 TO x b:=p3;refine Ya (wpAny_letGo (Yb ?_));refine Ya (Ya (wpAny_onRaise ?_));show wpAny _ _ (Builtin.SmallTypes.nextOf (.ref i2) >>= _) _ _ _;have k3:∀c o,c≠z->c≠i1->c≠TO->s.heap.get? c=some o->g3.get? c=some o:=λc o hc hd he e=>e3.extBut c o he (k2 c o hc hd e)
 refine Ya (zhe (s:={ s with heap:=g3 }) (h2.at λo q=>k3 i2 o D.i2z D.i12.symm D.TOi2.symm q) (hl2.at λo q=>k3 l2 o D.l2z D.l2i1 D.l2TO q) hy λg4 t4 e4=>Yb ?_);have p4:IsPair g4 TO x b:=e4.extBut _ _ D.TOi2 p3;refine Ya (Js p4 rfl (Ya (wpAny_updateSeq_pair p4 λg5 p5 e5=>?_)));replace p5:IsPair g5 TO x y:=p5;refine Ya (wpAny_letGo (Yb (Yb ?_)));refine Ya (Js p5 rfl (Ya (wpAny_newTuple ?_)));have sz:g5.objs.size=s.heap.objs.size:=by rw[e5.1,e4.1,e3.1,e2.1,e1.1]
 have z5:IsZip g5 z TI TO .ellipsis:=e5.extBut _ _ D.TOz.symm (e4.extBut _ _ D.i2z.symm (e3.extBut _ _ D.TOz.symm (e2.extBut _ _ D.i1z.symm z1)));have k5:∀c o,c≠z->c≠TO->c≠i1->c≠i2->s.heap.get? c=some o->g5.get? c=some o:=λc o c1 c2 c3 c4 e=>e5.extBut _ _ c2 (e4.extBut _ _ c4 (k3 c o c1 c3 c2 e))
 have t5:IterAt b1 g5 i1 l1 (k+1):=t2.at λo q=>e5.extBut _ _ D.TOi1.symm (e4.extBut _ _ D.i12 (e3.extBut _ _ D.TOi1.symm q))
 have u5:IterAt b2 g5 i2 l2 (k+1):=t4.at λo q=>e5.extBut _ _ D.TOi2.symm q
 have zlt:z<g5.objs.size:=Yn z5;show wpAny _ _ (Builtin.SmallTypes.ownedTupleHandOut (.ref z) (.ref g5.objs.size) >>= _) _ _ _;refine Ya ?_;unfold Builtin.SmallTypes.ownedTupleHandOut;have z6:IsZip (g5.push { cls:=.type "tuple",data:=.seq #[x,y] }) z TI TO .ellipsis:=Ye _ z5;refine Ya (Jp z6 (by simp) λg7 z7 e7=>?_);replace z7:IsZip g7 z TI TO (rawInt g5.objs.size):=z7;refine Jp z7 (by simp) λg8 z8 e8=>?_
 replace z8:IsZip g8 z TI TO (rawInt g5.objs.size):=z8;have up:∀c o,c≠z->g5.get? c=some o->g8.get? c=some o:=λc o c1 e=>e8.extBut _ _ c1 (e7.extBut _ _ c1 (Ye _ e))
 have p8:IsPair g8 g5.objs.size x y:=e8.extBut _ _ (Nat.ne_of_gt zlt) (e7.extBut _ _ (Nat.ne_of_gt zlt) (Yk _ rfl));have s8:g8.objs.size=g5.objs.size+1:=by rw[e8.1,e7.1,Heap.size_push]
 rw[sz]at z8 p8 s8;refine Yb ⟨_,Z,?_⟩;show Q (.ref g5.objs.size) _;rw[sz];exact hQ g8 ⟨z8,up _ _ D.TIz (k5 TI _ D.TIz D.TITO D.TIi1 D.TIi2 hTI),⟨_,_,up _ _ D.TOz p5⟩,t5.at λo q=>up _ o D.i1z q,u5.at λo q=>up _ o D.i2z q⟩ p8 s8 λc o c1 c2 c3 c4 e=>up c o c1 (k5 c o c1 c2 c3 c4 e)
theorem zu2{b1 b2:Bool}{z TI TO i1 i2 l1 l2:Addr}{k:Nat}{xs ys:Array Value}{Q:Fin->Shared->Prop}(hh:A.handled=none)(D:ZipApart z TI TO i1 i2 l1 l2)(S:ZSt b1 b2 z TI TO i1 i2 l1 l2 .none k s.heap)
  (hl1:SqAt b1 s.heap l1 xs) (hl2:SqAt b2 s.heap l2 ys) (hend:xs[k]? = none\/ys[k]? = none)
  (hE:∀h' e,(∀c o,c≠z->c≠TO->c≠i1->c≠i2->s.heap.get? c=some o->h'.get? c=some o)->(∃o,h'.get? e=some o/\o.cls=.type "StopIteration")->E (.ref e) { s with heap:=h' }) :
  wpAny (model prog w) A (Builtin.«zip.__next__» ⟨[.ref z],[]⟩) Q E s:=by
 obtain⟨hz,hTI,⟨a,b,hTO⟩,h1,h2⟩:=S;show wpAny _ _ (field (.ref z) 2 >>= _) _ _ _;refine Ya (Jl hz rfl (x:=.bool false) rfl ?_);show wpAny _ _ (field (.ref z) 3 >>= _) _ _ _;refine Ya (Jl hz rfl (x:=.ref TI) rfl (Ya (Js hTI rfl ?_)));show wpAny _ _ (Builtin.SmallTypes.ownedTupleIsFree (.ref z) >>= _) _ _ _;refine Ya ?_;unfold Builtin.SmallTypes.ownedTupleIsFree;refine Ya (Jl hz rfl (x:=.none) rfl (Yb ?_));simp only[if_true];refine Ya (wpAny_rule (Ya (Jl hz rfl (x:=.ref TO) rfl ?_)));refine Ya (Jp hz (by simp) λg1 z1 e1=>?_);replace z1:IsZip g1 z TI TO .ellipsis:=z1;refine Ya ?_;simp only[List.zipIdx_cons,List.zipIdx_nil,List.forIn_cons,List.forIn_nil];refine Ya (Ya (wpAny_onRaise ?_));show wpAny _ _ (Builtin.SmallTypes.nextOf (.ref i1) >>= _) _ _ _;have k1:∀c o,c≠z->s.heap.get? c=some o->g1.get? c=some o:=λc o hc e=>e1.extBut c o hc e
 cases hx:xs[k]? with
 | none=>
  refine Ya (zmp (s:={ s with heap:=g1 }) hh (h1.at λo q=>k1 i1 o D.i1z q) (hl1.at λo q=>k1 l1 o D.l1z q) hx λg2 e e2 he=>?_);obtain⟨oe,hoe,hce⟩:=he;have z2:IsZip g2 z TI TO .ellipsis:=e2 _ _ D.i1z.symm z1;have ez:e≠z:=λq=>by subst q;rw[z2]at hoe;cases hoe;simp at hce
  exact Jp z2 (by simp) λg3 _ e3=>hE g3 e (λc o c1 _ c3 _ q=>e3.extBut _ _ c1 (e2 _ _ c3 (k1 c o c1 q))) ⟨oe,e3.extBut _ _ ez hoe,hce⟩
 | some x=>
  have hy:ys[k]? = none:=by
   rcases hend with q | q
   ·rw[hx]at q;cases q
   ·exact q
  refine Ya (zhe (s:={ s with heap:=g1 }) (h1.at λo q=>k1 i1 o D.i1z q) (hl1.at λo q=>k1 l1 o D.l1z q) hx λg2 t2 e2=>Yb ?_);have k2:∀c o,c≠z->c≠i1->s.heap.get? c=some o->g2.get? c=some o:=λc o hc hd e=>e2.extBut c o hd (k1 c o hc e)
  have p2:IsPair g2 TO a b:=k2 TO _ D.TOz D.TOi1 hTO;refine Ya (Js p2 rfl (Ya (wpAny_updateSeq_pair p2 λg3 p3 e3=>?_)));refine Ya (wpAny_letGo (Yb ?_));refine Ya (Ya (wpAny_onRaise ?_));show wpAny _ _ (Builtin.SmallTypes.nextOf (.ref i2) >>= _) _ _ _;have k3:∀c o,c≠z->c≠i1->c≠TO->s.heap.get? c=some o->g3.get? c=some o:=λc o hc hd he e=>e3.extBut c o he (k2 c o hc hd e)
  refine Ya (zmp (s:={ s with heap:=g3 }) hh (h2.at λo q=>k3 i2 o D.i2z D.i12.symm D.TOi2.symm q) (hl2.at λo q=>k3 l2 o D.l2z D.l2i1 D.l2TO q) hy λg4 e e4 he=>?_);obtain⟨oe,hoe,hce⟩:=he;have z4:IsZip g4 z TI TO .ellipsis:=e4 _ _ D.i2z.symm (e3.extBut _ _ D.TOz.symm (e2.extBut _ _ D.i1z.symm z1));have ez:e≠z:=λq=>by subst q;rw[z4]at hoe;cases hoe;simp at hce
  exact Jp z4 (by simp) λg5 _ e5=>hE g5 e (λc o c1 c2 c3 c4 q=>e5.extBut _ _ c1 (e4 _ _ c4 (k3 c o c1 c3 c2 q))) ⟨oe,e5.extBut _ _ ez hoe,hce⟩
end
abbrev zq1(b1:Bool)(h:Heap)(l1:Addr):Heap:=h.push { cls:=.type (kn b1),data:=.fields #[.ref l1,.int 0 0] }
abbrev zq2(b1 b2:Bool)(h:Heap)(l1 l2:Addr):Heap:=(zq1 b1 h l1).push { cls:=.type (kn b2),data:=.fields #[.ref l2,.int 0 0] }
abbrev zq3(b1 b2:Bool)(h:Heap)(l1 l2:Addr):Heap:=(zq2 b1 b2 h l1 l2).push { cls:=.type "tuple",data:=.seq #[.ref h.objs.size,.ref (zq1 b1 h l1).objs.size] }
abbrev zq4(b1 b2:Bool)(h:Heap)(l1 l2:Addr):Heap:=(zq3 b1 b2 h l1 l2).push { cls:=.type "tuple",data:=.seq #[.none,.none] }
abbrev zq5(b1 b2:Bool)(h:Heap)(l1 l2:Addr):Heap:=(zq4 b1 b2 h l1 l2).push { cls:=.type "zip",data:=.fields #[.none,.bool false,.bool false,.ref (zq2 b1 b2 h l1 l2).objs.size,.ref (zq3 b1 b2 h l1 l2).objs.size] }
theorem ztl(b1 b2:Bool)(l1 l2:Addr)(xs ys:Array Value):Meets (Builtin.«zip.__new__» ⟨[.type "zip",.ref l1,.ref l2],[]⟩) (λ_ R s=>SqAt b1 s.heap l1 xs/\SqAt b2 s.heap l2 ys /\
   R (.ok (.ret (.ref (zq4 b1 b2 s.heap l1 l2).objs.size))) { s with heap:=zq5 b1 b2 s.heap l1 l2 }):=
 .of_wp λprog w A R s h=>by
  obtain⟨hp,g,d,tk,os⟩:=s;obtain⟨hl1,hl2,h⟩:=h;have hsub:=sub_zip;have q1:SqAt b1 (Shared.heap ⟨hp,g,d,tk,os⟩) l1 xs:=hl1;have q2:SqAt b2 (Shared.heap ⟨hp.push { cls:=.type (kn b1),data:=.fields #[.ref l1,.int 0 0] },g,d,tk,os⟩) l2 ys:=SqAt.at hl2 λo e=>Ye _ e
  wp_walk using zn2 q1,zn2 q2
  exact⟨_,Z,h⟩
theorem zse{prog:Program}{w:World}{A:Around}{E:Value->Shared->Prop}{s:Shared}{b1 b2:Bool}{l1 l2:Addr}{xs ys:Array Value}{Q:Value->Shared->Prop}(hl1:SqAt b1 s.heap l1 xs)(hl2:SqAt b2 s.heap l2 ys)
  (h:∀h',ZSt b1 b2 (s.heap.objs.size+4) (s.heap.objs.size+2) (s.heap.objs.size+3) s.heap.objs.size (s.heap.objs.size+1) l1 l2 .none 0 h'->(∀c o,s.heap.get? c=some o->h'.get? c=some o)->h'.objs.size=s.heap.objs.size+5 ->
   Q (.ref (s.heap.objs.size+4)) { s with heap:=h' }):wpAny (model prog w) A (call (.type "zip") [.ref l1,.ref l2]) Q E s:=by
 refine callType_new F.called_zip (by decide) (F.typeCall_zip_2 _ _) (F.newCall_zip_2 _ _) (λobj=>F.args_object_init_3 obj _ _) F.entry_zip_new (ztl b1 b2 l1 l2 xs ys) ⟨hl1,hl2,?_⟩;have z1:(zq1 b1 s.heap l1).objs.size=s.heap.objs.size+1:=Heap.size_push ..;have z2:(zq2 b1 b2 s.heap l1 l2).objs.size=s.heap.objs.size+2:=by rw[Heap.size_push,z1]
 have z3:(zq3 b1 b2 s.heap l1 l2).objs.size=s.heap.objs.size+3:=by rw[Heap.size_push,z2]
 have z4:(zq4 b1 b2 s.heap l1 l2).objs.size=s.heap.objs.size+4:=by rw[Heap.size_push,z3]
 have z5:(zq5 b1 b2 s.heap l1 l2).objs.size=s.heap.objs.size+5:=by rw[Heap.size_push,z4]
 have up1:∀{h:Heap} {o:Obj} {c:Addr} {u:Obj},h.get? c=some u->(h.push o).get? c=some u:=λe=>Ye _ e
 have g5:(zq5 b1 b2 s.heap l1 l2).get? (zq4 b1 b2 s.heap l1 l2).objs.size=some _:=Yk _ rfl;have g4:(zq5 b1 b2 s.heap l1 l2).get? (zq3 b1 b2 s.heap l1 l2).objs.size=some _:=up1 (Yk _ rfl);have g3:(zq5 b1 b2 s.heap l1 l2).get? (zq2 b1 b2 s.heap l1 l2).objs.size=some _:=up1 (up1 (Yk _ rfl));have g2:(zq5 b1 b2 s.heap l1 l2).get? (zq1 b1 s.heap l1).objs.size=some _:=up1 (up1 (up1 (Yk _ rfl)));have g1:(zq5 b1 b2 s.heap l1 l2).get? s.heap.objs.size=some _:=up1 (up1 (up1 (up1 (Yk _ rfl))));show _/\_;rw[z2,z3,z4]at g5;rw[z1,z2]at g3;rw[z3]at g4;rw[z1]at g2;rw[z4];refine⟨⟨_,g5,Z⟩,h _ ⟨g5,g3,⟨_,_,g4⟩,?_,?_⟩ (λc o x=>up1 (up1 (up1 (up1 (up1 x))))) z5⟩
 ·cases b1 <;> exact⟨_,g1,Z,Z⟩
 ·cases b2 <;> exact⟨_,g2,Z,Z⟩
theorem zhy{prog:Program}{w:World}{A:Around}{E:Value->Shared->Prop}{s:Shared}{b1 b2:Bool}{z TI TO i1 i2 l1 l2:Addr}{k:Nat}{xs ys:Array Value}{x y:Value}{Q:Option Value->Shared->Prop}(D:ZipApart z TI TO i1 i2 l1 l2)
  (S:ZSt b1 b2 z TI TO i1 i2 l1 l2 .none k s.heap) (hl1:SqAt b1 s.heap l1 xs) (hl2:SqAt b2 s.heap l2 ys) (hx:xs[k]? = some x) (hy:ys[k]? = some y)
  (hQ:∀h',ZSt b1 b2 z TI TO i1 i2 l1 l2 (rawInt s.heap.objs.size) (k+1) h'->IsPair h' s.heap.objs.size x y->h'.objs.size=s.heap.objs.size+1 ->
   (∀c o,c≠z->c≠TO->c≠i1->c≠i2->s.heap.get? c=some o->h'.get? c=some o)->Q (some (.ref s.heap.objs.size)) { s with heap:=h' }):wpAny (model prog w) A (pyNext (.ref z)) Q E s:=by
 have hT:s.TypeIs (.ref z) "zip":=⟨_,S.zip,Z⟩;unfold pyNext;refine Ya (wpAny_attempt (Jb (name:=Str.ofString "__next__") hT F.slot_zip_next (Y8 F.slot_zip_next hT F.entry_zip_next ?_ (F.args_zip_next_1 _))));exact zs3 D S hl1 hl2 hx hy λh' a1 a2 a3 a4=>Yb (hQ h' a1 a2 a3 a4)
theorem zh2{prog:Program}{w:World}{A:Around}{E:Value->Shared->Prop}{s:Shared}{b1 b2:Bool}{z TI TO i1 i2 l1 l2:Addr}{k:Nat}{xs ys:Array Value}{Q:Option Value->Shared->Prop}(hh:A.handled=none)(D:ZipApart z TI TO i1 i2 l1 l2)
  (S:ZSt b1 b2 z TI TO i1 i2 l1 l2 .none k s.heap) (hl1:SqAt b1 s.heap l1 xs) (hl2:SqAt b2 s.heap l2 ys) (hend:xs[k]? = none\/ys[k]? = none)
  (hQ:∀h',(∀c o,c≠z->c≠TO->c≠i1->c≠i2->s.heap.get? c=some o->h'.get? c=some o)->Q none { s with heap:=h' }):wpAny (model prog w) A (pyNext (.ref z)) Q E s:=by
 have hT:s.TypeIs (.ref z) "zip":=⟨_,S.zip,Z⟩;unfold pyNext;refine Ya (wpAny_attempt (Jb (name:=Str.ofString "__next__") hT F.slot_zip_next (Y8 F.slot_zip_next hT F.entry_zip_next ?_ (F.args_zip_next_1 _))));refine zu2 hh D S hl1 hl2 hend λh' e hk ⟨o,ho,hc⟩=>?_
 exact Ya (wpAny_isInstance (T:="StopIteration") (b:=true) ⟨o,ho,hc⟩ isSubtype_stop (Yb (hQ _ hk)))
section
variable{prog:Program}{w:World}{A:Around}{R:Result->Shared->Prop}{s:Shared}
abbrev E00:Value->Shared->Prop:=λ_ _=>False
abbrev zzu(ifs:List Expr)(env:Env):Sem Bool:=
 forIn ifs true λc r=>if r=true then do
   let ok <- isTrue c env (eval c env)
   pure (ForInStep.yield ok)
  else pure (ForInStep.yield r)
theorem znu{elt tg iter:Expr}{ifs:List Expr}{scope:Scope}{pos:Pos}{it acc:Value}{env:Env}(J:Nat->Shared->Prop)
  (turn:∀n s,J n s->wpAny (model prog w) A (pyNext it) (λr s1=>match r with
   | none=>R (.ok .next) s1
   | some v=>wpAny (model prog w) A (letOwnedTupleGo tg it v) (λ_ s2=>wpAny (model prog w) A (assign tg env v) (λ_ s3=>
     wpAny (model prog w) A (zzu ifs env) (λok s4=>
      if ok=true then
       wpAny (model prog w) A (eval elt env) (λx s5=>wpAny (model prog w) A (call (.builtin "list.append") [acc,x]) (λ_ s6=>∃m,m<n/\J m s6) E00 s5) E00 s4
      else ∃m,m<n/\J m s4) E00 s3) E00 s2) E00 s1) E00 s)
  (n:Nat) (h:J n s):codeAny (model prog w) A (.compLoop (.ListComp elt [⟨tg,iter,ifs,0⟩] scope pos) 0 it acc env) R s:=by
 have fl:∀{α : Type} {t:Sem α} {Q : α->Shared->Prop} {E:Value->Shared->Prop} {s:Shared},wpAny (model prog w) A t Q E00 s->wpAny (model prog w) A t Q E s:=λh=>wpAny_mono h (λ_ _ q=>q) λ_ _ z=>z.elim
 refine codeAny_loop rfl J (λn s hJ=>?_) n h;show wpAny _ A ((compTurn (.ListComp elt [⟨tg,iter,ifs,0⟩] scope pos) 0 it acc env).onRaise _) _ _ s;refine wpAny_noted ?_;rw[compTurn_list];refine Ya (wpAny_standAt (Ya (thn (fl (turn n s hJ)) λr s1 h1=>?_)))
 cases r with
 | none=>exact Yb h1
 | some v=>
  refine Ya (thn (fl h1) λ_ s2 h2=>?_);refine Ya (thn (fl h2) λ_ s3 h3=>?_);refine Ya (thn (fl h3) λok s4 h4=>?_)
  cases ok with
  | false=>exact Yb ⟨rfl,h4⟩
  | true=>
   refine Ya (Ya (thn (fl h4) λx s5 h5=>?_));exact Ya (thn (fl h5) λ_ s6 h6=>Yb (Yb ⟨Z,h6⟩))
end
def blk(X:Cx)(N:List Str)(scope:Scope)(cl:List (Str×Addr))(C:Addr)(s:Shared)(H:Hp)(fp:List Addr):Cx:=
 { X with N:=N,s₀:=s,H₀:=H,env:=compEnvC scope cl C X.env,outer:=X.stack,ex:=fp,fn:=λ_=>false,pn:=[],xe:=λ_ _=>False }
structure Blk(X:Cx)(N:List Str)(scope:Scope)(cl:List (Str×Addr))(mp:List (Option Nat)):Prop where
 clos:closureFor scope X.env=pure cl
 cell:∀y∈scope.names,y.2≠.cell
 kind:scope.kind=.function
 nms:∀y∈scope.names,y.2=.local->scope.names.lookup y.1=some .local
 nd:N.Nodup
 sub:∀x c,cl.lookup x=some c->X.env.cells.lookup x=some c
 has:∀x,((relabel scope X.env).names.lookup x=some .cell\/(relabel scope X.env).names.lookup x=some .free)->∃c,cl.lookup x=some c
 len:mp.length=N.length
 map:∀(i j:Nat) (x:Str),mp[i]? = some (some j)->N[i]? = some x->X.N[j]? = some x/\(X.env.scope.names.lookup x=some .cell\/X.env.scope.names.lookup x=some .free) /\
  ((relabel scope X.env).names.lookup x=some .cell\/(relabel scope X.env).names.lookup x=some .free)
def st0(mp:List (Option Nat))(σ : St):St:=mp.map λo=>match o with
 | some j=>(σ[j]?).getD none
 | none=>none
section
variable{X:Cx}{pins:List (Addr×Obj)}{σ : St}{H:Hp}{s:Shared}{N:List Str}{scope:Scope}{cl:List (Str×Addr)}{mp:List (Option Nat)}{fp:List Addr}
theorem zvo(B:Blk X N scope cl mp)(I:Inv X pins σ H s)(f:∀b∈fp,FpOk X pins H b)(lt:∀b∈fp,b<s.heap.objs.size){h1:Heap}{t':Nat}(hns:h1.Ns s.heap.objs.size (λ_=>none))
  (k:∀b o,s.heap.get? b=some o->h1.get? b=some o):Inv (blk X N scope cl s.heap.objs.size s H fp) [] (st0 mp σ) H { s with heap:=h1,toks:=t' }:=by
 have fin:∀b∈fp,b ∉ frs X.stack:=λb hb z=>by
  obtain⟨_,f1,f2,_⟩:=f b hb;rcases Yj.mp (I.stkSub b z) with e | e
  ·exact f1 e
  ·exact f2 e
 have ok:(blk X N scope cl s.heap.objs.size s H fp).Ok:=by
  refine⟨I.ok.mod,B.kind,I.ok.glob,I.ok.blt,Yi _,λx y c h1 h2=>I.ok.inj x y c (B.sub x c h1) (B.sub y c h2),λx hx=>B.has x hx,(λx c hf=>nomatch (show false=true from hf)),I.ok.hd,I.ok.frames,.inl rfl,λb hb=>?_,I.bs,Yr I.ok.bsz I.sz,λb o e hb=>?_,fin,I.stack,I.stkFree⟩
  ·obtain⟨f0,f1,f2,f3,f4,f5⟩:=f b hb;exact⟨Y0 (lt b hb),λx c e=>f4 x c (B.sub x c e)⟩
  ·obtain⟨f0,f1,f2,f3,f4,f5⟩:=f b hb;rcases f3 with z | z
   ·exact I.ok.noex b o e z
   ·exact absurd (Yf (Yn e) (Yr I.ok.bsz z)) (Nat.lt_irrefl _)
 refine⟨ok,Z,I.bare,Un.kept k,⟨_,hns,λi x v e1 e2 e3=>?_⟩,λx c e=>?_,I.hok.fresh (Yi _),λx c e=>I.freeC x c (B.sub x c e),λp hp=>absurd (show p∈([]:List (Addr×Obj)) from hp) (by simp),I.hok.kept k,?_⟩
 ·have e2':∃j,mp[i]? = some (some j)/\σ[j]? = some (some v):=by
   unfold st0 at e2;rw[Ym]at e2
   cases q:mp[i]? with
   | none=>rw[q]at e2;cases e2
   | some o=>
    rw[q]at e2
    cases o with
    | none=>cases e2
    | some j=>
     refine⟨j,Z,?_⟩;have e2'':(σ[j]?).getD none=some v:=Jg e2
     cases r : σ[j]? with
     | none=>rw[r]at e2'';cases e2''
     | some z=>rw[r]at e2'';exact Jx some e2''
  obtain⟨j,hj,hv⟩:=e2';obtain⟨hN,ho,hi⟩:=B.map i j x hj e1;obtain⟨m,hm,hl⟩:=I.loc;obtain⟨u,r,l⟩:=hl j x v hN hv (ho.elim (λz=>.inr (.inl z)) λz=>.inr (.inr z));refine⟨u,r,.inr ⟨hi,?_⟩⟩;rcases l with⟨z,_⟩ | ⟨_,c,ec,z⟩
  ·have z':X.env.scope.names.lookup x=some .local:=z;rcases ho with ho | ho
   ·rw[z']at ho;cases ho
   ·rw[z']at ho;cases ho
  ·obtain⟨c',ec'⟩:=B.has x hi;have q:=B.sub x c' ec';rw[ec]at q;cases q;obtain⟨o,eo,d⟩:=z;exact⟨c,ec',o,k c o eo,d⟩
 ·obtain⟨v,o,eo,d⟩:=I.cell x c (B.sub x c e);exact⟨v,o,k c o eo,d⟩
 ·show (st0 mp σ).length=N.length;unfold st0;rw[Yd];exact B.len
theorem zp3{N':List Str}{C:Addr}{H':Hp}{σ':St}{s':Shared}{h':Heap}(I:Inv X pins σ H s)(f:∀b∈fp,FpOk X pins H b)(hC:s.heap.objs.size<=C)
  (J:Inv (blk X N' scope cl C s H fp) [] σ' H' s') (sb:Heap.SameBut C s'.heap h'):Inv X pins σ H' { s' with heap:=h' }:=by
 have ub:Un (frs X.stack) fp H H' s.heap s'.heap:=J.base;have ne:∀b o,s.heap.get? b=some o->b≠C:=λb o e=>Y0 (Yf (Yn e) hC)
 have u:Un (frs X.stack) fp H H' s.heap h':=by
  refine⟨λb o e n hb hx=>(sb.2 b (ne b o e)).trans (ub.keep b o e n hb hx),λb o e n hb hx=>?_,ub.free,λb o e hx=>?_,ub.tups,ub.frzs,ub.tbls⟩
  ·obtain⟨sl,q⟩:=ub.slot b o e n hb hx;exact⟨sl,(sb.2 b (ne b o e)).trans q⟩
  ·obtain⟨o',q⟩:=ub.there b o e hx;exact⟨o',(sb.2 b (ne b o e)).trans q⟩
 have fC:H' C=none:=J.free;have ok':HOk X.prog X.w H' h':=λb ob e=>by
  have jok:HOk X.prog X.w H' s'.heap:=J.hok;refine(jok b ob e).stay (λc v hc q=>(sb.2 c ?_).trans q) (λ_ q=>q) λ_ _ q=>q
  rintro rfl;rcases hc with rfl | hc
  ·rw[fC]at e;cases e
  ·rw[fC]at hc;cases hc
 refine I.call' (s':={ s' with heap:=h' }) (ch:=fp) ?_ u ok' J.bare λb hb=>?_
 ·exact J.os
 ·obtain⟨f0,f1,f2,f3,f4,f5⟩:=f b hb;exact⟨f3,f1,f4,f5⟩
end
def PTs(X:Cx)(ifs:List Expr)(t:TT):Prop:=
 ∀(pins:List (Addr×Obj)) (s:Shared) (σ : St) (H:Hp) (Q:Bool->Hp->Prop),Inv X pins σ H s->t σ H Q->wpAny (model X.prog X.w) X.A (zzu ifs X.env) (TP X pins σ Q) X.xe s
def tYes:TT:=λ_ H Q=>Q true H
theorem zbj{X:Cx}:PTs X [] tYes:=λ_ _ _ H _ I h=>Yb ⟨H,I,h⟩
theorem zlm{X:Cx}{c:Expr}{t:TT}(h:PT X c t):PTs X [c] t:=λpins s σ H Q I hw=>wpAny_tests_one (h pins s σ H Q I hw)
@[irreducible] def tComp (mp:List (Option Nat)) (wi:TI) (g:TG) (tc:TT) (te:TE):TE:=λσ H Q=>wi σ H λJ H1=>∀D,H1 D=none->∃W:Nat->Nat->List V->St->Hp->Prop,
 (∃m,W 0 m [] (st0 mp σ) (upd H1 D (.lst [])))/\∀i m ys σ' H',W i m ys σ' H'->H' D=some (.lst ys) /\
  ((J.stop i H'/\Q (.ref D) H')\/(J.go i H'/\ys.length<sizeLine/\∀x H2,J.yld i H' x H2->g x σ' H2 λσ2 H3=>tc σ2 H3 λb H4=>
   if b=true then te σ2 H4 λv H5=>H5 D=some (.lst ys)/\∃m',m'<m/\W (i+1) m' (ys++[v]) σ2 (upd H5 D (.lst (ys++[v])))
   else ∃m',m'<m/\W (i+1) m' ys σ2 H4))
def CompW(J:It)(D:Addr)(g:TG)(tc:TT)(te:TE)(Qf:Hp->Prop)(W:Nat->Nat->List V->St->Hp->Prop):Prop:=∀i m ys σ' H',W i m ys σ' H'->H' D=some (.lst ys) /\
  ((J.stop i H'/\Qf H')\/(J.go i H'/\ys.length<sizeLine/\∀x H2,J.yld i H' x H2->g x σ' H2 λσ2 H3=>tc σ2 H3 λb H4=>
   if b=true then te σ2 H4 λv H5=>H5 D=some (.lst ys)/\∃m',m'<m/\W (i+1) m' (ys++[v]) σ2 (upd H5 D (.lst (ys++[v])))
   else ∃m',m'<m/\W (i+1) m' ys σ2 H4))
theorem zic{X:Cx}{N:List Str}{scope:Scope}{cl:List (Str×Addr)}{mp:List (Option Nat)}{elt tg iter:Expr}{ifs:List Expr}{g:TG}{tc:TT}{te:TE}{pos:Pos}(B:Blk X N scope cl mp)(hc:X.calm=true)
  (hg:∀C s H fp,PG (blk X N scope cl C s H fp) tg g) (ht:∀C s H fp,PTs (blk X N scope cl C s H fp) ifs tc) (he:∀C s H fp,PE (blk X N scope cl C s H fp) elt te)
  {pins:List (Addr×Obj)} {σ : St} {HD:Hp} {s:Shared} {fp:List Addr} {it D:Addr} {tn:Nat->Heap->Prop} {J:It} {Qf:Hp->Prop} {W:Nat->Nat->List V->St->Hp->Prop} {m0:Nat} {E:Value->Shared->Prop} {RR:Addr->Result->Shared->Prop}
  (I:Inv X pins σ HD s) (f:∀b∈fp,FpOk X pins HD b) (T:Turn X.prog X.w X.K tg J fp it tn) (st:tn 0 s.heap) (w0:W 0 m0 [] (st0 mp σ) HD) (turn:CompW J D g tc te Qf W)
  (hRR:∀C H' σ' s',s.heap.objs.size<=C->Inv (blk X N scope cl C s HD fp) [] σ' H' s'->Qf H'->RR C (.ok .next) s') :
  wpAny (model X.prog X.w) X.A (newFunctionEnv scope X.env.globals cl [] X.env.qual none .none (some X.env)) (λcenv s4=>
   codeAny (model X.prog X.w) X.A (.compStart (.ListComp elt [⟨tg,iter,ifs,0⟩] scope pos) 0 (.ref it) (.ref D) { cenv with scope:=relabel scope X.env }) (RR cenv.locals) s4) E s:=by
 have lt:∀b∈fp,b<s.heap.objs.size:=λb hb=>let ⟨o,e,_⟩:=T.obj _ _ st b hb;Yn e
 refine wpAny_newFunctionEnv B.cell (by intro y hy;simp at hy) (λh3 hns hsb=>?_) B.kind;have k3:∀b o,s.heap.get? b=some o->h3.get? b=some o:=λb o e=>(hsb.2 b (Y0 (Yn e))).trans (Ye _ e)
 have JB:=zvo (t':=s.toks+([]:List (Str×Value)).length) B I f lt hns k3;have st3:tn 0 h3:=T.keep _ _ _ st λb _ o e=>k3 b o e
 have fin:∀b∈fp,b ∉ frs X.stack:=λb hb z=>by
  obtain⟨_,f1,f2,_⟩:=f b hb;rcases Yj.mp (I.stkSub b z) with e | e
  ·exact f1 e
  ·exact f2 e
 have stat:∀{H':Hp},(∀b∈fp,H' b=none)->∀b∈fp,FpOk (blk X N scope cl s.heap.objs.size s HD fp) [] H' b:=fun{H'} hn b hb=>by
  obtain⟨f0,f1,f2,f3,f4,f5⟩:=f b hb;exact⟨hn b hb,Y0 (lt b hb),fin b hb,.inl hb,λx c e=>f4 x c (B.sub x c e),λp hp=>absurd (show p∈([]:List (Addr×Obj)) from hp) (by simp)⟩
 have loop:codeAny (model X.prog X.w) X.A (.compLoop (.ListComp elt [⟨tg,iter,ifs,0⟩] scope pos) 0 (.ref it) (.ref D) (compEnvC scope cl s.heap.objs.size X.env)) (RR s.heap.objs.size) { s with heap:=h3,toks:=s.toks+([]:List (Str×Value)).length }:=by
  refine znu (λn s'=>∃i ys σ' H',Inv (blk X N scope cl s.heap.objs.size s HD fp) [] σ' H' s'/\tn i s'.heap/\(∀b∈fp,H' b=none)/\W i n ys σ' H') ?_ m0 ⟨0,[],_,HD,JB,st3,λb hb=>(f b hb).1,w0⟩;rintro n s5 ⟨i,ys,σ5,H5,I5,st5,fr5,w5⟩;obtain⟨hD,tr⟩:=turn i n ys σ5 H5 w5;rcases tr with⟨stop,qn⟩ | ⟨go,hz,step⟩
  ·refine thn (T.done (blk X N scope cl s.heap.objs.size s HD fp) rfl rfl rfl hc i [] s5 σ5 H5 E00 I5 (stat fr5) st5 stop) λr s6 ⟨hr,I6⟩=>?_
   subst hr;exact hRR _ H5 σ5 s6 (Yi _) I6 qn
  ·refine thn (T.item (blk X N scope cl s.heap.objs.size s HD fp) rfl rfl rfl hc i [] s5 σ5 H5 E00 I5 (stat fr5) st5 go) λr s6 ⟨u,hr,h6⟩=>?_
   subst hr;refine thn h6 λ_ s7 ⟨x,H7,I7,r7,y7,st7,fr7⟩=>?_
   have I7':=I7.pinned (stat fr7) (T.obj _ _ st7);have again:∀{ys':List V} {σ8:St} {H8:Hp} {s8:Shared} {m':Nat},Inv (blk X N scope cl s.heap.objs.size s HD fp) ([]++zjp fp s7.heap) σ8 H8 s8->m'<n->W (i+1) m' ys' σ8 H8 ->
     ∃m,m<n/\∃i ys σ' H',Inv (blk X N scope cl s.heap.objs.size s HD fp) [] σ' H' s8/\tn i s8.heap/\(∀b∈fp,H' b=none)/\W i m ys σ' H':=fun{ys' σ8 H8 s8 m'} I8 hm w8=>by
    refine⟨m',hm,i+1,ys',σ8,H8,I8.unpinned,T.keep _ _ _ st7 λb hb o e=>(I8.pin (b,o) (Yg _ (Yg _ (zd6 hb e)))).1,λb hb=>?_,w8⟩;obtain⟨o,e,d⟩:=T.obj _ _ st7 b hb;exact(I8.pin (b,o) (Yg _ (Yg _ (zd6 hb e)))).2.1
   refine thn (hg _ _ _ _ _ s7 σ5 H7 x u _ I7' r7 (step x H7 y7)) λ_ s8 ⟨σ8,H8,I8,q8⟩=>?_
   refine thn (ht _ _ _ _ _ s8 σ8 H8 _ I8 q8) λok s9 ⟨H9,I9,q9⟩=>?_
   cases ok with
   | false=>
    rw[Yh (by decide)]at q9;obtain⟨m',hm,w9⟩:=q9;rw[Yh (by decide)];exact again I9 hm w9
   | true=>
    rw[Yl rfl]at q9;rw[Yl rfl];refine thn (he _ _ _ _ _ s9 σ8 H9 _ I9 q9) λxv s10 ⟨v,H10,I10,r10,hD10,m',hm,w'⟩=>?_
    refine thn (zj8 _ s10 σ8 H10 (.ref D) [v] (.ref D) [xv] (λ_ H'=>H'=upd H10 D (.lst (ys++[v]))) I10 rfl (.cons r10 .nil) ⟨D,ys,v,Z,Z,hD10,hz,Z⟩) λ_ s11 ⟨_,H11,I11,_,e11⟩=>?_
    subst e11;exact again I11 hm w'
 exact codeAny_compStart_list loop (T.self _ 0 _ _ _ st3 loop)
theorem zbk{X:Cx}{N:List Str}{scope:Scope}{cl:List (Str×Addr)}{mp:List (Option Nat)}{elt tg iter:Expr}{ifs:List Expr}{wi:TI}{g:TG}{tc:TT}{te:TE}{pos:Pos}(B:Blk X N scope cl mp)(hc:X.calm=true)
  (hi:PI X tg iter wi) (hg:∀C s H fp,PG (blk X N scope cl C s H fp) tg g) (ht:∀C s H fp,PTs (blk X N scope cl C s H fp) ifs tc) (he:∀C s H fp,PE (blk X N scope cl C s H fp) elt te)
  (hs:∀x,foldedSetIterable iter X.env x=pure x:=by intro _;rfl):PE X (.ListComp elt [⟨tg,iter,ifs,0⟩] scope pos) (tComp mp wi g tc te):=by
 intro pins s σ H Q I h;unfold tComp at h;rw[eval_ListComp];refine wpAny_comprehension_free (use:=none) (cl:=cl) rfl hs B.clos B.kind B.nms (thn (hi pins s σ H _ I h) λv s1 h1=>thn h1 λitv s2 h2=>?_);obtain⟨it,fp,tn,J,H2,rfl,I2,T,st2,f2,q⟩:=h2;have lt2:∀b∈fp,b<s2.heap.objs.size:=λb hb=>let ⟨o,e,_⟩:=T.obj _ _ st2 b hb;Yn e
 obtain⟨W,⟨m0,w0⟩,turn⟩:=q _ I2.fresh;have ID:=I2.lnew (ys:=[]) (its:=[]) (t':=s2.toks) .nil (Y2 _);have fD':∀b∈fp,FpOk X pins (upd H2 s2.heap.objs.size (.lst [])) b:=λb hb=>by
  obtain⟨f0,r⟩:=f2 b hb;exact⟨by rw[zai (Y0 (lt2 b hb))];exact f0,r⟩
 refine Jo (zic B hc hg ht he ID fD' T (T.keep _ _ _ st2 λb _ o e=>Ye _ e) w0 turn λC H' σ' s' hC J' qf=>?_);obtain⟨m,hm,_⟩:=J'.loc;exact⟨m,hm,λh' sb=>⟨.ref _,H',zp3 ID fD' hC J' sb,Z,qf⟩⟩
def SqX(K:W.Frag)(b:Bool)(H:Hp)(a:Addr)(xs:List V):Prop:=match b with
 | true=>SqT K H a xs
 | false=>SqL K H a xs
section
variable{X:Cx}{pins:List (Addr×Obj)}{σ : St}{H:Hp}{s:Shared}{b:Bool}{a:Addr}{xs ys:List V}
theorem Inv.sq(I:Inv X pins σ H s)(h:SqX X.K b H a xs):∃its:List Value,Vals xs its/\SqAt b s.heap a its.toArray:=by
 cases b with
 | true=>obtain⟨its,rv,p,_⟩:=I.tuple h;exact⟨its,rv,show s.heap.IsTuple a its.toArray from p⟩
 | false=>obtain⟨its,rv,p,_⟩:=I.list h;exact⟨its,rv,p.isList⟩
theorem Inv.sq_inj(I:Inv X pins σ H s)(h:SqX X.K b H a xs)(h':SqX X.K b H a ys):xs=ys:=by
 cases b with
 | true=>exact I.tuple_inj h h'
 | false=>exact I.list_inj h h'
theorem Inv.turnedL{ch:List Addr}{h':Heap}{t':Nat}(I:Inv X pins σ H s)(hf:∀b∈ch,FpOk X pins H b)(k:∀b o,b ∉ ch->s.heap.get? b=some o->h'.get? b=some o):Inv X pins σ H { s with heap:=h',toks:=t' }:=by
 have nch:∀b u,H b=some u->b ∉ ch:=λb u e z=>by have q:=(hf b z).1;rw[q]at e;cases e
 refine I.step (g':=s.gens) (d':=s.drawn) (ch:=ch) (λb hb=>?_) (λb o _ _ hc e _=>k b o hc e) (λb o _ _ hc e _=>⟨o.slots,k b o hc e⟩) (λ_ _ _ _ n=>n)
  (λb o hc e=>⟨o,k b o hc e⟩) (λ_ _ e=>e) (λ_ _ _ e=>e) (λb ps e=>⟨#[],by rw[e];simp⟩) (λm hm=>?_) (λb u e=>?_) I.bare
 ·obtain⟨f0,f1,f2,f3,f4,f5⟩:=hf b hb;exact⟨f3,f1,f4,f5⟩
 ·obtain⟨o,es,ep,ho,r⟩:=hm;exact⟨o,es,ep,k _ o (λz=>(hf _ z).2.1 rfl) ho,r⟩
 ·refine(I.hok b u e).stay (λc v hc q=>k c v ?_ q) (λ_ q=>q) λ_ _ q=>q
  rcases hc with z | z
  ·rw[z];exact nch b u e
  ·exact nch c _ z
theorem Inv.drawn{ch:List Addr}{h':Heap}{t':Nat}{p:Addr}{o:HO}(I:Inv X pins σ H s)(hf:∀b∈ch,FpOk X pins H b)(k:∀b o,b ∉ ch->s.heap.get? b=some o->h'.get? b=some o)(hp:s.heap.objs.size<=p)
  (new:ObjOk X.prog X.w (upd H p o) h' p o):Inv X pins σ (upd H p o) { s with heap:=h',toks:=t' }:=by
 have nch:∀b u,H b=some u->b ∉ ch:=λb u e z=>by have q:=(hf b z).1;rw[q]at e;cases e
 have hn:H p=none:=I.hok.fresh hp;have np:∀b u,s.heap.get? b=some u->b≠p:=λb u e=>Y0 (Yf (Yn e) hp)
 refine I.step (g':=s.gens) (d':=s.drawn) (ch:=ch) (λb hb=>?_) (λb o _ _ hc e _=>k b o hc e) (λb o _ _ hc e _=>⟨o.slots,k b o hc e⟩) (λb o _ e n=>by rw[zai (np b o e)];exact n)
  (λb o hc e=>⟨o,k b o hc e⟩) (λb xs e=>by rw[zai (zam e hn)];exact e) (λb o u e=>by rw[zai (zam e hn)];exact e) (λb ps e=>⟨#[],by rw[zai (zam e hn),e];simp⟩) (λm hm=>?_) (λb u e=>?_) I.bare
 ·obtain⟨f0,f1,f2,f3,f4,f5⟩:=hf b hb;exact⟨f3,f1,f4,f5⟩
 ·obtain⟨o,es,ep,ho,r⟩:=hm;exact⟨o,es,ep,k _ o (λz=>(hf _ z).2.1 rfl) ho,r⟩
 ·by_cases hb:b=p
  ·subst hb;rw[zab]at e;cases e;exact new
  ·rw[zai hb]at e;refine(I.hok b u e).stay (λc v hc q=>k c v ?_ q) (λc q=>by rw[zai (zam q hn)];exact q) λc xs q=>by rw[zai (zam q hn)];exact q
   rcases hc with z | z
   ·rw[z];exact nch b u e
   ·exact nch c _ z
end
def Itz(K:W.Frag)(b1 b2:Bool)(a1 a2:Addr):It:=
 ⟨λi H=>∃xs ys x y,SqX K b1 H a1 xs/\SqX K b2 H a2 ys/\xs[i]? = some x/\ys[i]? = some y,
  λi H v H'=>∃p x y,H p=none/\v=.ref p/\H'=upd H p (.tup [x,y])/\(∀xs,SqX K b1 H a1 xs->xs[i]? = some x)/\∀ys,SqX K b2 H a2 ys->ys[i]? = some y,
  λi H=>∃xs ys,SqX K b1 H a1 xs/\SqX K b2 H a2 ys/\(xs.length<=i\/ys.length<=i)⟩
theorem zs2{P:Program}{w:World}{K:W.Frag}{es:List Expr}{ek:Nat}{pos:Pos}(b1 b2:Bool){z TI TO i1 i2 a1 a2:Addr}(D:ZipApart z TI TO i1 i2 a1 a2) :
  Turn P w K (.Tuple es ek pos) (Itz K b1 b2 a1 a2) [z,TI,TO,i1,i2] z (λi h=>ZSt b1 b2 z TI TO i1 i2 a1 a2 .none i h) where
 mem:=by simp
 obj:=λi h st b hb=>by
  simp only[List.mem_cons,List.not_mem_nil,or_false]at hb
  rcases hb with rfl | rfl | rfl | rfl | rfl
  ·exact⟨_,st.zip,λv q=>by cases q⟩
  ·exact⟨_,st.ti,λv q=>by cases q⟩
  ·obtain⟨a,b,e⟩:=st.to;exact⟨_,e,λv q=>by cases q⟩
  ·exact st.it1.obj
  ·exact st.it2.obj
 keep:=λi h h' st k=>st.at k
 item:=by
  intro X hP hw hK hc i pins s σ H E I hf st hg;subst hP hw hK;obtain⟨xs,ys,x,y,h1,h2,hx,hy⟩:=hg;obtain⟨us,ru,q1⟩:=I.sq h1;obtain⟨ws,rw',q2⟩:=I.sq h2;obtain⟨u,eu,rx⟩:=ru.get hx;obtain⟨v,ev,ry⟩:=rw'.get hy;refine zhy D st q1 q2 (x:=u) (y:=v) (by simpa using eu) (by simpa using ev) λh' S p8 s8 k=>?_
  refine⟨_,Z,wpAny_letOwnedTupleGo_zip S.zip λh'' z' e'=>?_⟩;have zlt:z<s.heap.objs.size:=Yn st.zip;have zp:s.heap.objs.size≠z:=Nat.ne_of_gt zlt;have kk:∀b o,b ∉ [z,TO,i1,i2]->s.heap.get? b=some o->h''.get? b=some o:=λb o hb e=>by
   simp only[List.mem_cons,List.not_mem_nil,or_false,not_or]at hb
   exact e'.extBut _ _ hb.1 (k b o hb.1 hb.2.1 hb.2.2.1 hb.2.2.2 e)
  have pp:IsPair h'' s.heap.objs.size u v:=e'.extBut _ _ zp p8;refine⟨.ref s.heap.objs.size,upd H s.heap.objs.size (.tup [x,y]),I.drawn (t':=s.toks) (ch:=[z,TO,i1,i2]) (λb hb=>hf b ?_) kk (Yi _) ?_,Z,⟨_,x,y,I.fresh,Z,Z,λxs' hq=>?_,λys' hq=>?_⟩,?_,λb hb=>?_⟩
  ·simp only[List.mem_cons,List.not_mem_nil,or_false]at hb ⊢
   rcases hb with rfl | rfl | rfl | rfl <;> simp
  ·exact⟨by show 2<=sizeLine;rw[sizeLine_eq];decide,[u,v],.cons rx (.cons ry .nil),⟨_,pp,Z,_,Z⟩⟩
  ·rw[I.sq_inj hq h1];exact hx
  ·rw[I.sq_inj hq h2];exact hy
  ·exact⟨z',e'.extBut _ _ D.TIz S.ti,(let ⟨a,b,e⟩:=S.to;⟨a,b,e'.extBut _ _ D.TOz e⟩),S.it1.at λo q=>e'.extBut _ _ D.i1z q,S.it2.at λo q=>e'.extBut _ _ D.i2z q⟩
  ·obtain⟨o,e,_⟩:∃o,s.heap.get? b=some o/\∀v,o.data≠.cell v:=by
    simp only[List.mem_cons,List.not_mem_nil,or_false]at hb
    rcases hb with rfl | rfl | rfl | rfl | rfl
    ·exact⟨_,st.zip,λv q=>by cases q⟩
    ·exact⟨_,st.ti,λv q=>by cases q⟩
    ·obtain⟨a,b,e⟩:=st.to;exact⟨_,e,λv q=>by cases q⟩
    ·exact st.it1.obj
    ·exact st.it2.obj
   rw[zai (Y0 (Yn e))];exact(hf b hb).1
 done:=by
  intro X hP hw hK hc i pins s σ H E I hf st hg;subst hP hw hK;obtain⟨xs,ys,h1,h2,hl⟩:=hg;obtain⟨us,ru,q1⟩:=I.sq h1;obtain⟨ws,rw',q2⟩:=I.sq h2;have l1:=ru.length;have l2:=rw'.length;refine zh2 (I.ok.hd hc) D st q1 q2 ?_ λh' k=>⟨rfl,I.turnedL (t':=s.toks) (ch:=[z,TO,i1,i2]) (λb hb=>hf b ?_) λb o hb e=>?_⟩
  ·rcases hl with hl | hl
   ·exact .inl (by simp;omega)
   ·exact .inr (by simp;omega)
  ·simp only[List.mem_cons,List.not_mem_nil,or_false]at hb ⊢
   rcases hb with rfl | rfl | rfl | rfl <;> simp
  ·simp only[List.mem_cons,List.not_mem_nil,or_false,not_or]at hb
   exact k b o hb.1 hb.2.1 hb.2.2.1 hb.2.2.2 e
 self:=λ_ _ _ _ _ st h=>wpAny_pyIter_zip st.zip h
def iZip(K:W.Frag)(b1 b2:Bool)(ta:TA):TI:=λσ H R=>ta σ H λvs H1=>∃a1 a2,vs=[.ref a1,.ref a2]/\(∃xs,SqX K b1 H1 a1 xs)/\(∃ys,SqX K b2 H1 a2 ys)/\R (Itz K b1 b2 a1 a2) H1
theorem zyc{X:Cx}{es:List Expr}{ek:Nat}{tpos p pos:Pos}(b1 b2:Bool){e1 e2:Expr}{ta:TA}(hg:Gl X "zip")(hm:X.mg "zip" = none)(ha:PA X [e1,e2] ta)
  (he:starEach [e1,e2] X.env=(false,eval e1 X.env)::starEach [e2] X.env:=by rfl) (hpl:(backTo pos (starEach [e2] X.env)).any (·.1)=false:=by rfl) :
  PI X (.Tuple es ek tpos) (.Call (.Name "zip" p) [e1,e2] [] pos) (iZip X.K b1 b2 ta):=by
 intro pins s σ H R I h;refine wpAny_Call_Name_kw (zft I hg hm boot_zip ?_ (by decide) (by decide));refine PyProof.Rows.callWith_type1 (thn (ha pos pins s σ H _ I h) λus s1 ⟨vs,H1,I1,r1,a1,a2,ev,⟨xs,h1⟩,⟨ys,h2⟩,q⟩=>?_) he hpl;subst ev;obtain⟨u1,u2,rfl,e1',e2'⟩:=r1.two
 cases e1';cases e2';obtain⟨us,ru,q1⟩:=I1.sq h1;obtain⟨ws,rw',q2⟩:=I1.sq h2;have lt1:a1<s1.heap.objs.size:=by cases b1 <;> (obtain⟨o,e,_⟩:=q1;exact Yn e)
 have lt2:a2<s1.heap.objs.size:=by cases b2 <;> (obtain⟨o,e,_⟩:=q2;exact Yn e)
 refine zse q1 q2 λh' S k z5=>wpAny_pyIter_zip S.zip ?_
 have I2:Inv X pins σ H1 { s1 with heap:=h' }:=I1.kept (t':=s1.toks) k;refine⟨s1.heap.objs.size+4,[s1.heap.objs.size+4,s1.heap.objs.size+2,s1.heap.objs.size+3,s1.heap.objs.size,s1.heap.objs.size+1],_,_,H1,Z,I2,zs2 b1 b2 (zipApart_new lt1 lt2),S,λb hb=>?_,q⟩;have hb':s1.heap.objs.size<=b:=by
  simp only[List.mem_cons,List.not_mem_nil,or_false]at hb
  rcases hb with rfl | rfl | rfl | rfl | rfl
  ·exact Nat.le_add_right _ 4
  ·exact Nat.le_add_right _ 2
  ·exact Nat.le_add_right _ 3
  ·exact Yi _
  ·exact Nat.le_add_right _ 1
 exact I1.fpOk hb' (I1.hok.fresh hb')
theorem Same.upd{H:Hp}{p:Addr}{o:HO}(h:H p=none):Same H (upd H p o):=λb u e=>by rw[zai (zam e h)];exact e
theorem Same.updR{H H':Hp}{p:Addr}{o:HO}(e:Same H H')(h:H p=none):Same H (L2.upd H' p o):=λb u q=>by rw[zai (zam q h)];exact e b u q
theorem Same.seqT{K:W.Frag}{H H':Hp}{a:Addr}{xs:List V}(e:Same H H')(h:SqT K H a xs):SqT K H' a xs:=by
 rcases h with(h | ⟨o,h⟩) | h
 ·exact .inl (.inl (e _ _ h))
 ·exact .inl (.inr ⟨o,e _ _ h⟩)
 ·exact .inr h
theorem Same.sqX{K:W.Frag}{b:Bool}{H H':Hp}{a:Addr}{xs:List V}(e:Same H H')(h:SqX K b H a xs):SqX K b H' a xs:=by
 cases b with
 | true=>exact e.seqT h
 | false=>exact e.seq h
structure Walk(J:It)(H1:Hp)(n:Nat)(P:Nat->V->Hp->Prop):Prop where
 go:∀i H',Same H1 H'->i<n->J.go i H'
 stop:∀H',Same H1 H'->J.stop n H'
 yld:∀i H' x H2,Same H1 H'->i<n->J.yld i H' x H2->Same H' H2/\P i x H2
theorem zcl{K:W.Frag}{H1:Hp}{a:Addr}{xs:List V}(h:SqL K H1 a xs):Walk (Itl K a) H1 xs.length (λi x _=>xs[i]? = some x):=
 ⟨λi H' e hi=>⟨xs,xs[i],e.seq h,by simp[hi]⟩,λH' e=>⟨xs,e.seq h,Yi _⟩,λi H' x H2 e hi y=>by
  obtain⟨rfl,q⟩:=y;exact⟨Same.refl _,q xs (e.seq h)⟩⟩
theorem zr2{K:W.Frag}{H1:Hp}{a:Addr}{xs:List V}(h:SqT K H1 a xs):Walk (Itt K a) H1 xs.length (λi x _=>xs[i]? = some x):=
 ⟨λi H' e hi=>⟨xs,xs[i],e.seqT h,by simp[hi]⟩,λH' e=>⟨xs,e.seqT h,Yi _⟩,λi H' x H2 e hi y=>by
  obtain⟨rfl,q⟩:=y;exact⟨Same.refl _,q xs (e.seqT h)⟩⟩
theorem zgn{H1:Hp}(lo:Int)(n:Nat):Walk (Itr lo n) H1 n (λi x _=>x=.int (lo+i)):=
 ⟨λi H' e hi=>hi,λH' e=>Yi _,λi H' x H2 e hi y=>by
  obtain⟨rfl,q⟩:=y;exact⟨Same.refl _,q⟩⟩
theorem zto{K:W.Frag}{b1 b2:Bool}{H1:Hp}{a1 a2:Addr}{xs ys:List V}(h1:SqX K b1 H1 a1 xs)(h2:SqX K b2 H1 a2 ys) :
  Walk (Itz K b1 b2 a1 a2) H1 (min xs.length ys.length) (λi v H=>∃p x y,v=.ref p/\H p=some (.tup [x,y])/\xs[i]? = some x/\ys[i]? = some y):=by
 refine⟨λi H' e hi=>?_,λH' e=>⟨xs,ys,e.sqX h1,e.sqX h2,?_⟩,λi H' x H2 e hi q=>?_⟩
 ·have i1:i<xs.length:=by omega
  have i2:i<ys.length:=by omega
  exact⟨xs,ys,xs[i],ys[i],e.sqX h1,e.sqX h2,by simp[i1],by simp[i2]⟩
 ·rcases Nat.le_total xs.length ys.length with q | q
  ·exact .inl (by omega)
  ·exact .inr (by omega)
 ·obtain⟨p,u,v,hp,rfl,rfl,q1,q2⟩:=q;exact⟨Same.upd hp,p,u,v,Z,zab,q1 xs (e.sqX h1),q2 ys (e.sqX h2)⟩
theorem zqw{J:It}{H1:Hp}{n:Nat}{P:Nat->V->Hp->Prop}{g:TG}{tc:TT}{te:TE}{Q:VK}{σ0:St}{D:Addr}(S:Walk J H1 n P)(hD:H1 D=none)(hn:n<=sizeLine)(Sv:St->Prop)(p:Nat->Bool)(F:Nat->V->Hp->Prop)
  (monoS:∀i v H H',Same H H'->F i v H->F i v H') (monoU:∀i v H a ys ys',H a=some (.lst ys)->F i v H->F i v (upd H a (.lst ys'))) (h0:Sv σ0)
  (step:∀i x σ' H2,i<n->Sv σ'->Same H1 H2->P i x H2->∀(Ny:V->St->Hp->Prop) (Nn:St->Hp->Prop),(∀v σ2 H5,Sv σ2->Same H2 H5->F i v H5->p i=true->Ny v σ2 H5)->(∀σ2 H4,Sv σ2->Same H2 H4->p i=false->Nn σ2 H4) ->
   g x σ' H2 λσ2 H3=>tc σ2 H3 λb H4=>if b=true then te σ2 H4 λv H5=>Ny v σ2 H5 else Nn σ2 H4)
  (hQ:∀H' ys,Same H1 H'->H' D=some (.lst ys)->Paired (λi v=>F i v H') ((List.range n).filter p) ys->Q (.ref D) H') :
  ∃W:Nat->Nat->List V->St->Hp->Prop,(∃m,W 0 m [] σ0 (upd H1 D (.lst [])))/\∀i m ys σ' H',W i m ys σ' H'->H' D=some (.lst ys) /\
  ((J.stop i H'/\Q (.ref D) H')\/(J.go i H'/\ys.length<sizeLine/\∀x H2,J.yld i H' x H2->g x σ' H2 λσ2 H3=>tc σ2 H3 λb H4=>
   if b=true then te σ2 H4 λv H5=>H5 D=some (.lst ys)/\∃m',m'<m/\W (i+1) m' (ys++[v]) σ2 (upd H5 D (.lst (ys++[v])))
   else ∃m',m'<m/\W (i+1) m' ys σ2 H4)):=by
 refine⟨λi m ys σ' H'=>m=n-i/\i<=n/\Sv σ'/\Same H1 H'/\H' D=some (.lst ys)/\Paired (λj v=>F j v H') ((List.range i).filter p) ys,⟨n,Z,Y2 _,h0,Same.upd hD,zab,.nil⟩,?_⟩;rintro i m ys σ' H' ⟨rfl,hi,hs,hS,hL,hF⟩;refine⟨hL,?_⟩;have rs:(List.range (i+1)).filter p=(List.range i).filter p++(if p i=true then [i] else []):=by
  rw[List.range_succ,List.filter_append]
  cases q:p i <;> simp[q]
 by_cases hlt:i<n
 ·refine .inr ⟨S.go i H' hS hlt,?_,λx H2 y=>?_⟩
  ·have l1:=hF.length;have l2:((List.range i).filter p).length<=(List.range i).length:=List.length_filter_le _ _;rw[List.length_range]at l2;omega
  ·obtain⟨e2,hP⟩:=S.yld i H' x H2 hS hlt y;refine step i x σ' H2 hlt hs (hS.trans e2) hP _ _ (λv σ2 H5 s2 e5 f5 hp=>?_) λσ2 H4 s2 e4 hp=>?_
   ·have l5:H5 D=some (.lst ys):=e5 _ _ (e2 _ _ hL);refine⟨l5,n-(i+1),by omega,Z,hlt,s2,((hS.trans e2).trans e5).updR hD,zab,?_⟩;rw[rs,Yl hp];refine Paired.snoc (Paired.imp' (λj w q=>?_) hF) (monoU i v H5 D ys _ l5 f5);exact monoU j w H5 D ys _ l5 (monoS j w H' H5 (e2.trans e5) q)
   ·refine⟨n-(i+1),by omega,Z,hlt,s2,(hS.trans e2).trans e4,e4 _ _ (e2 _ _ hL),?_⟩;rw[rs,Yh (by rw[hp];decide),List.append_nil];exact Paired.imp' (λj w q=>monoS j w H' H4 (e2.trans e4) q) hF
 ·have e:i=n:=by omega
  subst e;exact .inl ⟨S.stop H' hS,hQ H' ys hS hL hF⟩
theorem Paired.eq_map{β : Type}{f:Nat->β}:∀{l:List Nat} {ys:List β},Paired (λi v=>v=f i) l ys->ys=l.map f
 | _,_,.nil=>rfl
 | _,_,.cons r t=>by rw[Yz,r,Paired.eq_map t]
theorem zhc{J:It}{H1:Hp}{n:Nat}{P:Nat->V->Hp->Prop}{g:TG}{tc:TT}{te:TE}{Q:VK}{σ0:St}{D:Addr}(S:Walk J H1 n P)(hD:H1 D=none)(hn:n<=sizeLine)(Sv:St->Prop)(p:Nat->Bool)(f:Nat->V)(h0:Sv σ0)
  (step:∀i x σ' H2,i<n->Sv σ'->Same H1 H2->P i x H2->∀(Ny:V->St->Hp->Prop) (Nn:St->Hp->Prop),(∀σ2 H5,Sv σ2->Same H2 H5->p i=true->Ny (f i) σ2 H5)->(∀σ2 H4,Sv σ2->Same H2 H4->p i=false->Nn σ2 H4) ->
   g x σ' H2 λσ2 H3=>tc σ2 H3 λb H4=>if b=true then te σ2 H4 λv H5=>Ny v σ2 H5 else Nn σ2 H4)
  (hQ:∀H',Same H1 H'->H' D=some (.lst (((List.range n).filter p).map f))->Q (.ref D) H') :
  ∃W:Nat->Nat->List V->St->Hp->Prop,(∃m,W 0 m [] σ0 (upd H1 D (.lst [])))/\∀i m ys σ' H',W i m ys σ' H'->H' D=some (.lst ys) /\
  ((J.stop i H'/\Q (.ref D) H')\/(J.go i H'/\ys.length<sizeLine/\∀x H2,J.yld i H' x H2->g x σ' H2 λσ2 H3=>tc σ2 H3 λb H4=>
   if b=true then te σ2 H4 λv H5=>H5 D=some (.lst ys)/\∃m',m'<m/\W (i+1) m' (ys++[v]) σ2 (upd H5 D (.lst (ys++[v])))
   else ∃m',m'<m/\W (i+1) m' ys σ2 H4)):=
 zqw S hD hn Sv p (λi v _=>v=f i) (λ_ _ _ _ _ q=>q) (λ_ _ _ _ _ _ _ q=>q) h0
  (λi x σ' H2 hi hs e hP Ny Nn hy hn'=>step i x σ' H2 hi hs e hP Ny Nn (λσ2 H5 s2 e5 hp=>hy _ σ2 H5 s2 e5 rfl hp) hn')
  λH' ys e hL hF=>hQ H' e (by rw[<- Paired.eq_map hF];exact hL)
theorem zgy{env:Env}:∀{names:List (Str×NameKind)} {x:Str},names.lookup x=some .free ->
  (names.map fun(n,k)=>if (k == NameKind.free&&env.scope.kind == .function&&env.kindOf n == some .cell) then(n,NameKind.cell) else(n,k)).lookup x=some .cell \/
  (names.map fun(n,k)=>if (k == NameKind.free&&env.scope.kind == .function&&env.kindOf n == some .cell) then(n,NameKind.cell) else(n,k)).lookup x=some .free
 | [],_,h=>by simp at h
 | (n,k)::r,x,h=>by
  have ih := @zgy env r x;rw[Yz]
  cases hx:x == n with
  | true=>
   simp only[List.lookup_cons,hx]at h
   cases h;by_cases hc:(NameKind.free == NameKind.free&&env.scope.kind == .function&&env.kindOf n == some .cell)=true
   ·dsimp only;rw[Yl hc];simp only[List.lookup_cons,hx];exact .inl trivial
   ·dsimp only;rw[Yh hc];simp only[List.lookup_cons,hx];exact .inr trivial
  | false=>
   simp only[List.lookup_cons,hx]at h
   by_cases hc:(k == NameKind.free&&env.scope.kind == .function&&env.kindOf n == some .cell)=true
   ·dsimp only;rw[Yl hc];simp only[List.lookup_cons,hx];exact ih h
   ·dsimp only;rw[Yh hc];simp only[List.lookup_cons,hx];exact ih h
theorem zg0{env:Env}{names:List (Str×NameKind)}{x:Str}{k:NameKind}(hk:k=.cell\/k=.free)(nc:∀y∈names,y.2≠.cell)
  (h:(names.map fun(n,k)=>if (k == NameKind.free&&env.scope.kind == .function&&env.kindOf n == some .cell) then(n,NameKind.cell) else(n,k)).lookup x=some k):∃y∈names,y.1=x/\y.2=.free:=by
 have m:=PySem.mem_of_lookup h;obtain⟨⟨n,k0⟩,hm,e⟩:=Jj.mp m;dsimp only at e;by_cases hc:(k0 == NameKind.free&&env.scope.kind == .function&&env.kindOf n == some .cell)=true
 ·rw[Yl hc]at e;simp only[Bool.and_eq_true,beq_iff_eq]at hc
  cases e;exact⟨_,hm,Z,hc.1.1⟩
 ·rw[Yh hc]at e
  cases e;refine⟨_,hm,Z,?_⟩;rcases hk with z | z
  ·exact absurd z (nc _ hm)
  ·exact z
theorem Blk.of{X:Cx}{N:List Str}{scope:Scope}{cl:List (Str×Addr)}{mp:List (Option Nat)}(clos:closureFor scope X.env=pure cl)(cell:∀y∈scope.names,y.2≠.cell)(kind:scope.kind=.function)
  (nms:∀y∈scope.names,y.2=.local->scope.names.lookup y.1=some .local) (nd:N.Nodup) (sub:∀x c,cl.lookup x=some c->X.env.cells.lookup x=some c) (fr:∀y∈scope.names,y.2=.free->∃c,cl.lookup y.1=some c) (len:mp.length=N.length)
  (map:∀(i j:Nat) (x:Str),mp[i]? = some (some j)->N[i]? = some x->X.N[j]? = some x/\(X.env.scope.names.lookup x=some .cell\/X.env.scope.names.lookup x=some .free)/\scope.names.lookup x=some .free):Blk X N scope cl mp:=by
 refine⟨clos,cell,kind,nms,nd,sub,λx hx=>?_,len,λi j x h1 h2=>?_⟩
 ·have:∃y∈scope.names,y.1=x/\y.2=.free:=hx.elim (λz=>zg0 (.inl rfl) cell z) λz=>zg0 (.inr rfl) cell z
  obtain⟨y,hy,rfl,hf⟩:=this;exact fr y hy hf
 ·obtain⟨q1,q2,q3⟩:=map i j x h1 h2;exact⟨q1,q2,zgy q3⟩
theorem Blk.plain{X:Cx}{N:List Str}{scope:Scope}(fr:∀y∈scope.names,y.2≠.free)(cell:∀y∈scope.names,y.2≠.cell)(kind:scope.kind=.function)(nms:∀y∈scope.names,y.2=.local->scope.names.lookup y.1=some .local)(nd:N.Nodup) :
  Blk X N scope [] (N.map λ_=>none):=
 Blk.of (closureFor_none fr) cell kind nms nd (λ_ _ h=>nomatch h) (λy hy h=>absurd h (fr y hy)) (Yd _) λi j x h=>by
  rw[Ym]at h
  cases q:N[i]? with
  | none=>rw[q]at h;cases h
  | some z=>rw[q]at h;cases h
def zipV(p:Int->Int->Bool)(φ : Int->Int->V)(xs ys:List Int):List V:=((List.range (min xs.length ys.length)).filter λi=>p (xs.getD i 0) (ys.getD i 0)).map λi=>φ (xs.getD i 0) (ys.getD i 0)
theorem zdn{xs:List Int}{i:Nat}{v:V}(h:(xs.map V.int)[i]? = some v):v=.int (xs.getD i 0):=by
 rw[Ym]at h
 cases q:xs[i]? with
 | none=>rw[q]at h;cases h
 | some z=>
  rw[q]at h;have e:xs.getD i 0=z:=by rw[List.getD_eq_getElem?_getD,q];rfl
  rw[e];exact(Jg h).symm
theorem zvx{σ : St}(h : σ.length=2)(x y:V):(σ.set 0 (some x)).set 1 (some y)=[some x,some y]:=by
 match σ,h with
 | [_,_],_=>rfl
theorem zg6{K:W.Frag}{b1 b2:Bool}{a b:Addr}{xs ys:List Int}{mp:List (Option Nat)}{ta:TA}{tc:TT}{te:TE}{σ : St}{H H1:Hp}{Q:VK}(p:Int->Int->Bool)(φ : Int->Int->V)(hmp:mp.length=2)(hta:∀R,R [.ref a,.ref b] H1->ta σ H R)
  (h1:SqX K b1 H1 a (xs.map V.int)) (h2:SqX K b2 H1 b (ys.map V.int)) (hz:xs.length<=1000)
  (htc:∀(i:Nat) H' (R:Bool->Hp->Prop),R (p (xs.getD i 0) (ys.getD i 0)) H'->tc [some (.int (xs.getD i 0)),some (.int (ys.getD i 0))] H' R)
  (hte:∀(i:Nat) H' (R:VK),p (xs.getD i 0) (ys.getD i 0)=true->R (φ (xs.getD i 0) (ys.getD i 0)) H'->te [some (.int (xs.getD i 0)),some (.int (ys.getD i 0))] H' R)
  (hQ:∀D H',Same H1 H'->H' D=some (.lst (zipV p φ xs ys))->Q (.ref D) H') :
  tComp mp (iZip K b1 b2 ta) (gTup K 2 (zle (za0 0) (zle (za0 1) gNil))) tc te σ H Q:=by
 unfold tComp;refine hta _ ⟨a,b,Z,⟨_,h1⟩,⟨_,h2⟩,λD hD=>?_⟩;have W:=zto h1 h2;rw[Yd,Yd]at W;refine zhc W hD (Yr (Nat.min_le_left _ _) (Yr hz (by rw[sizeLine_eq];decide))) (λσ=>σ.length=2) (λi=>p (xs.getD i 0) (ys.getD i 0)) (λi=>φ (xs.getD i 0) (ys.getD i 0)) (by unfold st0;rw[Yd];exact hmp) ?_ λH' e hL=>hQ D H' e hL
 rintro i v σ' H2 hi hs e ⟨q,u,w,rfl,hq,hu,hw⟩ Ny Nn hy hn;rw[zdn hu,zdn hw]at hq;refine⟨q,_,rfl,SqT.of hq,rfl,_,_,rfl,_,_,rfl,rfl,?_⟩;rw[zvx hs];refine htc _ _ _ ?_
 cases hp:p (xs.getD i 0) (ys.getD i 0) with
 | true=>rw[Yl rfl];exact hte _ _ _ hp (hy _ _ rfl (Same.refl _) hp)
 | false=>rw[Yh (by decide)];exact hn _ _ rfl (Same.refl _) hp
theorem zm0{X:Cx}{K:W.Frag}{x y:Str}{px py tp:Pos}{k:Nat}(hK:X.K=K)(hc:X.calm=true)(hN:X.N=[x,y])(nd:([x,y]:List Str).Nodup)(hx:X.env.scope.names.lookup x=some .local)(hy:X.env.scope.names.lookup y=some .local) :
  PG X (.Tuple [.Name x px,.Name y py] k tp) (gTup K 2 (zle (za0 0) (zle (za0 1) gNil))):=by
 subst hK;have nd':X.N.Nodup:=by rw[hN];exact nd
 exact zhz hc (zbw (zbb (i:=0) nd' (by rw[hN];rfl) (.inl hx) (.inr hx)) (zbw (zbb (i:=1) nd' (by rw[hN];rfl) (.inl hy) (.inr hy)) zfz))
theorem zcb{X:Cx}{x:Str}{px:Pos}{i:Nat}(nd:X.N.Nodup)(hN:X.N[i]? = some x)(hx:X.env.scope.names.lookup x=some .local):PG X (.Name x px) (za0 i):=zbb nd hN (.inl hx) (.inr hx)
theorem zcz{mp:List (Option Nat)}{ta:TA}{g:TG}{tc:TT}{te:TE}{σ : St}{H H1:Hp}{Q:VK}(n:Int)(Sv:St->Prop)(p:Nat->Bool)(f:Nat->V)(hn0:0<=n)(hn:n<=1000)(hta:∀R,R [.int n] H1->ta σ H R)(h0:Sv (st0 mp σ))
  (step:∀(i:Nat) σ' H2,(i:Int)<n->Sv σ'->Same H1 H2->∀(Ny:V->St->Hp->Prop) (Nn:St->Hp->Prop),(∀σ2 H5,Sv σ2->Same H2 H5->p i=true->Ny (f i) σ2 H5)->(∀σ2 H4,Sv σ2->Same H2 H4->p i=false->Nn σ2 H4) ->
   g (.int (0+(i:Int))) σ' H2 λσ2 H3=>tc σ2 H3 λb H4=>if b=true then te σ2 H4 λv H5=>Ny v σ2 H5 else Nn σ2 H4)
  (hQ:∀D H',Same H1 H'->H' D=some (.lst (((List.range n.toNat).filter p).map f))->Q (.ref D) H'):tComp mp (zy4 ta) g tc te σ H Q:=by
 unfold tComp;refine hta _ ⟨n,Z,by omega,by omega,λD hD=>?_⟩;refine zhc (zgn 0 n.toNat) hD (Yr (show n.toNat<=1000 by omega) (by rw[sizeLine_eq];decide)) Sv p f h0 ?_ λH' e hL=>hQ D H' e hL
 rintro i v σ' H2 hi hs e rfl Ny Nn hy hn';exact step i σ' H2 (by omega) hs e Ny Nn hy hn'
theorem ObjOk.obj{P:Program}{w:World}{H:Hp}{h:Heap}{a:Addr}{o:HO}(x:ObjOk P w H h a o):∃ob,h.get? a=some ob:=by
 cases o with
 | lst xs=>obtain⟨_,_,_,_,e⟩:=x;exact⟨_,e⟩
 | tup xs=>obtain⟨_,_,_,ob,e,_⟩:=x;exact⟨_,e⟩
 | dK kvs=>obtain⟨_,_,_,_,o,_,_,e,_⟩:=x;exact⟨_,e⟩
 | dT kvs=>obtain⟨_,_,_,_,o,_,_,e,_⟩:=x;exact⟨_,e⟩
 | set S n=>obtain⟨o,_,_,_,e,_⟩:=x;exact⟨_,e⟩
 | ins C dx fs=>obtain⟨_,_,_,e,_⟩:=x;exact⟨_,e⟩
 | own y=>obtain⟨_,e⟩:=x;exact⟨_,e⟩
 | xd fs=>obtain⟨_,⟨_,_,_,e,_⟩,_⟩:=x;exact⟨_,e⟩
 | rng lo hi=>obtain⟨_,_,_,e⟩:=x;exact⟨_,e⟩
 | frz ob u=>obtain⟨e,_⟩:=x;exact⟨_,e⟩
 | tbl ps=>exact⟨_,show h.get? a=some _ from x⟩
 | met f y=>exact⟨_,show h.get? a=some _ from x⟩
 | ext φ=>obtain⟨_,⟨_,e⟩,_⟩:=x;exact⟨_,e⟩
structure Cov(B:Heap)(fs:List Addr)(H':Hp)(h:Heap):Prop where
 old:∀b o,h.get? b=some o->b ∉ fs->∃o',B.get? b=some o'
 trk:∀b u,H' b=some u->∃o',B.get? b=some o'
def CXe(P:Program)(w:World):CXT:=λouter H s E e s'=>∃(a:Addr) (cls a0:Value) (B:Heap) (H':Hp),e=.ref a/\s'.os=s.os/\AllBare s'.gens/\Un (frs outer) [] H H' s.heap s'.heap/\HOk P w H' s'.heap /\
 Heap.FlyingW B outer a cls a0 s'.heap/\Cov B (frs outer) H' s.heap/\E cls none H'
section
variable{P:Program}{w:World}{fs:List Addr}{H H':Hp}{h h1 h2 B:Heap}
theorem Heap.two{B h1 h2:Heap}(s1:B.StaysIn h1)(s2:B.StaysIn h2){b:Addr}{o o':Obj}(e:h1.get? b=some o)(q:B.get? b=some o'):h2.get? b=some o:=by
 have:=s1 b o' q;rw[e]at this;cases this;exact s2 b _ q
theorem zuj(u:Un fs [] H H' h h1)(cov:Cov B fs H' h)(s1:B.StaysIn h1)(s2:B.StaysIn h2)(sl:∀b o,b∈fs->h1.get? b=some o->∃sl,h2.get? b=some { o with slots:=sl }):Un fs [] H H' h h2:=by
 refine⟨λb o e n hb hx=>?_,λb o e n hb hx=>?_,u.free,λb o e hx=>?_,u.tups,u.frzs,u.tbls⟩
 ·obtain⟨o',q⟩:=cov.old b o e hb;exact Heap.two s1 s2 (u.keep b o e n hb hx) q
 ·obtain⟨sl1,e1⟩:=u.slot b o e n hb hx;obtain⟨sl2,e2⟩:=sl b _ hb e1;exact⟨sl2,e2⟩
 ·by_cases hb:b∈fs
  ·obtain⟨o',e1⟩:=u.there b o e hx;obtain⟨sl2,e2⟩:=sl b _ hb e1;exact⟨_,e2⟩
  ·obtain⟨o',q⟩:=cov.old b o e hb;exact⟨o',s2 b o' q⟩
theorem zul(ok:HOk P w H' h1)(trk:∀b u,H' b=some u->∃o',B.get? b=some o')(s1:B.StaysIn h1)(s2:B.StaysIn h2):HOk P w H' h2:=λb u e=>by
 refine(ok b u e).stay (λc v hc q=>?_) (λ_ q=>q) λ_ _ q=>q
 have:∃o',B.get? c=some o':=by
  rcases hc with rfl | hc
  ·exact trk c u e
  ·exact trk c _ hc
 obtain⟨o',q'⟩:=this;exact Heap.two s1 s2 q q'
theorem zxf{base:Heap}{l:List Env}(ff:h1.FunFrames base l)(up:h1.UpToSlots h2):∀b o,b∈frs l->h1.get? b=some o->∃sl,h2.get? b=some { o with slots:=sl }:=λb o hb e=>by
 obtain⟨_,o',e',d⟩:=ff.mem hb;rw[e]at e';cases e';exact up b o e d
end
def RaisesTo(X:Cx)(E:St->XK):Prop:=∀(pins:List (Addr×Obj)) (σ : St) (H:Hp) (s:Shared) (h':Heap) (e:Addr) (cls:Value) (args:List Value),Inv X pins σ H s->Heap.MadeExcOf s.heap h' e cls args->E σ cls none H->X.xe (.ref e) { s with heap:=h' }
def PassesS(CX:CXT)(X:Cx)(E:St->XK):Prop:=∀(pins:List (Addr×Obj)) (σ : St) (H:Hp) (s:Shared) (e:Value) (s':Shared),Inv X pins σ H s->CX X.stack H s (E σ) e s'->X.xe e s'
section
variable{P:Program}{w:World}{K:W.Frag}{mg:Str->Option Value}{base:Heap}{N:List Str}{qual:Str}{scope:Scope}{f:Addr}{cd:Value}{A:Around}{outer:List Env}{s₀:Shared}{H₀:Hp}{E:XK}
theorem zbn:RaisesTo (cxOf (CXe P w) P w K mg base N qual scope f cd A outer s₀ H₀ E) (λ_=>E):=by
 intro pins σ H s h' e cls args I hx hE;have ff:=W.funFrames_hide (as:=frs (cxOf (CXe P w) P w K mg base N qual scope f cd A outer s₀ H₀ E).stack) I.stack λenv he a ha=>List.mem_filterMap.mpr ⟨env,he,ha⟩
 have stB:(W.hideAll s.heap (frs (cxOf (CXe P w) P w K mg base N qual scope f cd A outer s₀ H₀ E).stack)).StaysIn s.heap:=λb o e=>W.of_hideAll _ e
 have inB:∀b o,s.heap.get? b=some o->b ∉ frs (cxOf (CXe P w) P w K mg base N qual scope f cd A outer s₀ H₀ E).stack->(W.hideAll s.heap (frs (cxOf (CXe P w) P w K mg base N qual scope f cd A outer s₀ H₀ E).stack)).get? b=some o:=
  λb o e hb=>W.hideAll_get _ e hb
 refine wpAny_leaves_madeW (outer:=outer) I.ok.frames rfl stB ff hx λh'' t fl tup nt up=>?_
 have cov:Cov (W.hideAll s.heap (frs (cxOf (CXe P w) P w K mg base N qual scope f cd A outer s₀ H₀ E).stack)) (frs outer) H s₀.heap:=by
  refine⟨λb o e hb=>?_,λb u e=>?_⟩
  ·obtain⟨o1,e1⟩:=I.base.there b o e (by intro z;exact absurd (show b∈([]:List Addr) from z) (by simp));refine⟨o1,inB b o1 e1 λz=>?_⟩;rcases Yj.mp (I.stkSub b z) with q | q
   ·exact absurd q (Y0 (Yf (Yn e) I.ok.above))
   ·exact hb q
  ·obtain⟨ob,eo⟩:=(I.hok b u e).obj;exact⟨ob,inB b ob eo λz=>by rw[I.stkFree b z]at e;cases e⟩
 refine⟨e,cls,.ref t,_,H,Z,I.os,I.bare,zuj I.base cov stB fl.1 λb o hb eo=>?_,zul I.hok cov.trk stB fl.1,fl,cov,hE⟩;obtain⟨_,o',e',d⟩:=I.funs.mem hb;rw[eo]at e';cases e';exact up b o (hx.keeps b o eo) d
theorem zdv:PassesS (CXe P w) (cxOf (CXe P w) P w K mg base N qual scope f cd A outer s₀ H₀ E) (λ_=>E):=by
 intro pins σ H s e s' I hq;obtain⟨a,cls,a0,B,H',rfl,os,bare,un,hok,fl,cov,hE⟩:=hq;have I':=I.call' (ch:=[]) os un hok bare λb z=>absurd z (by simp)
 refine wpAny_leaves_onW (outer:=outer) I'.ok.frames rfl fl λh'' fl' up=>?_
 have cov0:Cov B (frs outer) H' s₀.heap:=by
  refine⟨λb o e hb=>?_,cov.trk⟩;obtain⟨o1,e1⟩:=I.base.there b o e (by intro z;exact absurd (show b∈([]:List Addr) from z) (by simp));refine cov.old b o1 e1 λz=>?_
  rcases Yj.mp (I.stkSub b z) with q | q
  ·exact absurd q (Y0 (Yf (Yn e) I.ok.above))
  ·exact hb q
 exact⟨a,cls,a0,B,H',Z,I'.os,I'.bare,zuj I'.base cov0 fl.1 fl'.1 (zxf I'.funs up),zul I'.hok cov.trk fl.1 fl'.1,fl',cov0,hE⟩
end
def zms(sp:Sp)(dvs:List V)(E:St->XK)(t:TA):TE:=λσ H Q=>t σ H λvs H1=>sp (vs++dvs) H1 Q (E σ)
def zqb(C:Addr)(m:Str)(sp:Sp)(dvs:List V)(E:St->XK)(ta:TE)(t:TA):TE:=λσ H Q=>ta σ H λx H1=>∃a dx fs,x=.ref a/\H1 a=some (.ins C dx fs)/\fs.lookup m=none /\
 t σ H1 λvs H2=>sp (x::(vs++dvs)) H2 Q (E σ)
def zn7(C:Addr)(sp:Sp)(dvs:List V)(E:St->XK)(t:TA):TE:=λσ H Q=>t σ H λvs H1=>∀x dx,H1 x=none->H1 dx=none->dx≠x ->
 sp (.ref x::(vs++dvs)) (upd (upd H1 dx (.own x)) x (.ins C dx [])) (λv H2=>v=.non/\Q (.ref x) H2) (E σ)
section
variable{X:Cx}{CX:CXT}{k:Nat}{f C:Addr}{fd:FuncData}{ps:List Str}{sp:Sp}{dvs:List V}{ds:List Value}{E:St->XK}{x m:Str}{p pos apos:Pos}{e o:Expr}{es:List Expr}{ta:TE}{t:TA}
theorem zjf{pins:List (Addr×Obj)}{σ : St}{H:Hp}{s:Shared}{Q:VK}{us:List Value}{vs:List V}(F:FnOk X.prog X.w X.K X.mg X.base CX k f fd ps sp)(hr:Room k X.A)(hb:Binds X.K fd ps ds)(hd:Vals dvs ds)(hx:PassesS CX X E)
  (I:Inv X pins σ H s) (r:Vals vs us) (h:sp (vs++dvs) H Q (E σ)):wpAny (model X.prog X.w) X.A (call (.ref f) us) (EP X pins σ Q) X.xe s:=by
 have r2:Vals (vs++dvs) (us++ds):=r.append hd;have hl:(us++ds).length=ps.length:=by rw[<- r2.length];exact F.len _ _ _ _ h
 refine wpAny_call (codeAny_mono (F.run X.A X.stack s H ⟨us,[]⟩ (us++ds) (vs++dvs) Q (E σ) hr I.env0 (hb s us I.kIn hl) r2 h) λr s' hq=>?_);match r,hq with
 | .error e,hq=>exact hx pins σ H s e s' I hq
 | .ok (.ret u),hq=>exact I.after hq
 | .ok .next,hq=>exact Jf hq
 | .ok .brk,hq=>exact Jf hq
 | .ok .cont,hq=>exact Jf hq
theorem zrn(F:FnOk X.prog X.w X.K X.mg X.base CX k f fd ps sp)(hr:Room k X.A)(hg:Gl X x)(hm:X.mg x=some (.ref f))(hk:W.keepIn X.K (.ref f)=true)(hb:Binds X.K fd ps ds)(hd:Vals dvs ds)(hx:PassesS CX X E)
  (ha:PA X (e::es) t) (hdb:(x == ("__debug__" : Str))=false:=by decide) (he:starEach (e::es) X.env=(false,eval e X.env)::starEach es X.env:=by rfl) (hpl:(backTo pos (starEach es X.env)).any (·.1)=false:=by rfl) :
  PE X (.Call (.Name x p) (e::es) [] pos) (zms sp dvs E t):=by
 intro pins s σ H Q I h;refine wpAny_Call_Name_kw (zfw I hg hm (W.callWith_K (h₀:=X.base) I.ok.mod.kin hk (thn (ha pos pins s σ H _ I h) λus s1 ⟨vs,H1,I1,r,q⟩=>⟨I1.kIn,?_⟩) he hpl) hdb);exact zjf F hr hb hd hx I1 r q
theorem zsr{pl:Sem Bool}(he:PE X o ta)(c:Cls X.K C)(hm:Meth X.K C m f)(F:FnOk X.prog X.w X.K X.mg X.base CX k f fd ps sp)(hr:Room k X.A)(hb:Binds X.K fd ps ds)(hd:Vals dvs ds)(hx:PassesS CX X E)(ha:PA X (e::es) t)
  (hst:starEach (e::es) X.env=(false,eval e X.env)::starEach es X.env:=by rfl) (hpl:(backTo pos (starEach es X.env)).any (·.1)=false:=by rfl)
  (ht:eval (.Call (.Attribute o m apos) (e::es) [] pos) X.env=(do
   let ov <- eval o X.env
   standAt apos.atName
   let (f,first) <- holding [ov] (getMethod ov m pl)
   callWith pos f first (backTo pos (starEach (e::es) X.env)) (backToKw pos (keywordEach [] X.env))):=by rfl) :
  PE X (.Call (.Attribute o m apos) (e::es) [] pos) (zqb C m sp dvs E ta t):=by
 intro pins s σ H Q I h;refine W.methodCall_KW (pl:=pl) (thn (he pins s σ H _ I h) λu s1 ⟨x,H1,I1,rx,a,dx,fs,ex,ea,l,q⟩=>?_) ht;subst ex;obtain rfl:u=Value.ref a:=rx;refine zh8 I1 ea c hm l (W.callWith_K (first:=[.ref a]) (h₀:=X.base) I.ok.mod.kin hm.kp (thn (ha pos pins s1 σ H1 _ I1 q) λus s2 ⟨vs,H2,I2,r,q2⟩=>⟨I2.kIn,?_⟩) hst hpl);exact zjf (us:=.ref a::us) (vs:=.ref a::vs) F hr hb hd hx I2 (.cons rfl r) q2
end
def zt9(C:Addr)(E:St->XK)(t:TA):TS:=λ_ σ H=>t σ H λvs H1=>vs.length<=sizeLine/\E σ (.ref C) none H1
theorem zrb{X:Cx}{C:Addr}{x:Str}{bm:List Value}{newId initId B:String}{e:Expr}{es:List Expr}{t:TA}{np cpos pos:Pos}{E:St->XK}(O:OwnCls x C bm newId X.mg X.base)(FB:ExcBaseFacts B newId initId bm)(hc:X.calm=true)(hg:Gl X x)
  (hx:RaisesTo X E) (ha:PA X (e::es) t) (he:starEach (e::es) X.env=(false,eval e X.env)::starEach es X.env:=by rfl) (hpl:(backTo cpos (starEach es X.env)).any (·.1)=false:=by rfl) (hd:(x == ("__debug__" : Str))=false:=by decide) :
  PS X (.Raise (some (.Call (.Name x np) (e::es) [] cpos)) none pos) (zt9 C E t):=by
 intro pins s σ H D I h;obtain⟨tl,N,nm,q,bs,hdct,sn,sub,ab,col,dd,k0,k1,k2,k3,k5,mN,hC,hN,hni,T⟩:=O.obj;refine wpAny_Raise_call_subT (C:=C) (nm:=nm) (q:=q) (N:=N) (bs:=bs) (bm:=tl) (hdct:=hdct) (sn:=sn) (sub:=sub) (ab:=ab) (col:=col) (dd:=dd) (k0:=k0) (k1:=k1) (k2:=k2) (k3:=k3) (k5:=k5)
  FB (mN:=mN) (T.hasType FB.hasBase) (I.ok.hd hc) (by rw[he];show (false||(backTo cpos (starEach es X.env)).any (·.1))=false;rw[hpl];rfl) hni (zfw I hg O.bound ⟨Z,?_⟩ hd)
 have ha':=ha cpos pins s σ H _ I h;rw[he]at ha' ⊢;refine Calls.evalArgs_plain (thn ha' λus s2 ⟨vs,H2,I2,r,hl,hE⟩=>⟨Z,by rw[<- r.length];exact hl,I2.bk _ _ hC,hN.keeps I2.bk,T.keeps I2.bk,λh' e hm=>hx pins σ H2 s2 h' e _ _ I2 hm hE⟩)
theorem zib{K:W.Frag}{h:Heap}{mg:Str->Option Value}{x:Str}{C:Addr}{bm:List Value}{nid:String}(X:K.In h)(G:h.Ns mainGlobals mg)(e:W.nsIn K mainGlobals x=some (some (.ref C)))(q:W.excIn K C bm nid=true):OwnCls x C bm nid mg h:=by
 have G':=W.mg_of X G e;unfold W.excIn at q;split at q
 case h_2=>cases q
 rename_i dd cd sl ho;split at q
 case h_2=>cases q
 rename_i C' tl k0 k1 k2 k3 n k5 hm hs;simp only[Bool.and_eq_true,beq_iff_eq,Bool.not_eq_true']at q
 obtain⟨⟨⟨⟨⟨q1,q2⟩,q3⟩,q4⟩,q5⟩,q6⟩:=q;subst q1;subst q2;obtain⟨c1,c2,c3,c4,c5,c6,c7,c8,c9,c10,c11⟩:=cd;dsimp only at hm q3 q5 q6;subst hm;subst q3;have z:sl = #[k0,k1,k2,k3,some (.builtin n),k5]:=by obtain⟨l⟩:=sl;simp only at hs;rw[hs]
 subst z;exact⟨G',tl,c4,c1,c5,c2,c6,c7,c8,c9,c10,dd,k0,k1,k2,k3,k5,_,X _ _ ho,.of_isNs (W.isNs_of_in X q5),W.nsMap_none_of_in X q5 q6,W.tail_of_in X q4⟩
theorem zhg{bs:List Bool}:∀{us:List Value},Vals (bs.map V.bl) us->LSm.BoolsAre us bs:=by
 induction bs with
 | nil=>intro us r;rw[List.map_nil]at r;cases r;exact .nil
 | cons n ns ih=>
  intro us r;rw[Yz]at r
  cases r with
  | cons r1 r2=>cases (show _=Value.bool n from r1);exact .cons n (ih r2)
section
variable{X:Cx}
theorem zqd(b:Bool)(hc:X.calm=true):CallR X (.builtin "sum") (λxs H Q=>∃(a:Addr) (ns:List Int),xs=[.ref a]/\SqX X.K b H a (ns.map V.int)/\Q (.int ns.sum) H):=by
 intro pins s σ H xs us Q I r h;obtain⟨a,ns,rfl,hs,q⟩:=h;obtain⟨u,rfl,ru⟩:=r.one
 cases ru;obtain⟨its,rv,p⟩:=I.sq hs;have hi:=zea rv;obtain⟨ys,hy⟩:=hi.allInts.items;have e2:preSum (numAt ys) ys.size=ns.sum:=by
  have e1:ns=ys.toList.map (·.1):=by
   rw[<- nums_intItems,<- hy];exact(show numsOf its.toArray.toList=ns from hi.numsOf).symm
  rw[preSum_eq,List.take_of_length_le (by simp),e1]
 rw[hy]at p
 cases b with
 | true=>exact W.ktm_sumG (I.ok.hd hc) p λh' tk t' hk=>⟨.int ns.sum,H,I.kept hk,⟨t',by rw[e2]⟩,q⟩
 | false=>exact sum_intListG (I.ok.hd hc) p λh' tk t' hk=>⟨.int ns.sum,H,I.kept hk,⟨t',by rw[e2]⟩,q⟩
theorem znw(hc:X.calm=true):CallR X (.builtin "all") (λxs H Q=>∃(a:Addr) (bs:List Bool),xs=[.ref a]/\SqL X.K H a (bs.map V.bl)/\Q (.bl (bs.all id)) H):=by
 intro pins s σ H xs us Q I r h;obtain⟨a,bs,rfl,hs,q⟩:=h;obtain⟨u,rfl,ru⟩:=r.one
 cases ru;obtain⟨its,rv,p,_⟩:=I.list hs;have hb:=zhg rv;have hl:=p.isList;have lt:a<s.heap.objs.size:=by obtain⟨_,e,_⟩:=hl;exact Yn e
 refine call_all_walk (wpAny_pyIter_list hl ⟨s.heap.objs.size,_,_,_,_,_,λi=>(bs[i]?).getD true,Z,Walks.list (A:=X.A.in1) (I.ok.hd hc) _ a (Y0 lt) its.toArray,⟨⟨_,Yk _ rfl,Z,Z⟩,hl.push _⟩,λi v s' Q' E' hP hQ=>?_,λh' tk hk=>?_⟩)
 ·obtain⟨b,e,rfl⟩:=hb.get i v (by simpa using hP);simp only[e,Option.getD_some]at hQ;exact Jq hQ
 ·refine⟨.bl (bs.all id),H,I.kept (LSm.kept_iter hk),?_,q⟩;show Value.bool _=Value.bool _;rw[Ys,hb.length,LSm.range_all bs]
theorem zok(hc:X.calm=true):CallR X (.builtin "any") (λxs H Q=>∃(a:Addr) (bs:List Bool),xs=[.ref a]/\SqL X.K H a (bs.map V.bl)/\Q (.bl (bs.any id)) H):=by
 intro pins s σ H xs us Q I r h;obtain⟨a,bs,rfl,hs,q⟩:=h;obtain⟨u,rfl,ru⟩:=r.one
 cases ru;obtain⟨its,rv,p,_⟩:=I.list hs;have hb:=zhg rv;have hl:=p.isList;have lt:a<s.heap.objs.size:=by obtain⟨_,e,_⟩:=hl;exact Yn e
 refine call_any_walk (wpAny_pyIter_list hl ⟨s.heap.objs.size,_,_,_,_,_,λi=>(bs[i]?).getD false,Z,Walks.list (A:=X.A.in1) (I.ok.hd hc) _ a (Y0 lt) its.toArray,⟨⟨_,Yk _ rfl,Z,Z⟩,hl.push _⟩,λi v s' Q' E' hP hQ=>?_,λh' tk hk=>?_⟩)
 ·obtain⟨b,e,rfl⟩:=hb.get i v (by simpa using hP);simp only[e,Option.getD_some]at hQ;exact Jq hQ
 ·refine⟨.bl (bs.any id),H,I.kept (LSm.kept_iter hk),?_,q⟩;show Value.bool _=Value.bool _;rw[Ys,hb.length,LSm.range_any bs]
def clV:V->Option Value
 | .ty n=>some (.type n)
 | .ref a=>some (.ref a)
 | _=>none
theorem zlr:CallR X (.builtin "isinstance") (λxs H Q=>∃x y t c b,xs=[x,y]/\clV y=some c/\TyOf X.K H x t/\W.kitOne X.K t c=some b/\Q (.bl b) H):=by
 intro pins s σ H xs us Q I r h;obtain⟨x,y,t,c,b,rfl,hy,ty,e,q⟩:=h;obtain⟨u,v,rfl,ru,rv⟩:=r.two;have ev:v=c:=by
  cases y with
  | ty n=>cases hy;exact rv
  | ref a=>cases hy;exact rv
  | _=>cases hy
 subst ev;exact zqe I ru ty e λtk=>⟨.bl b,H,I.tok _,Z,q⟩
end
def CMulB(i j:Int):Prop:=i.natAbs<2^4000/\j.natAbs<2^4000
theorem zpq{X:Cx}:OpR X (binaryOp .Mult) (rI CMulB λi j=>.int (i*j)):=opI λ_ _ _ _ _ _ _ hc q=>mul_int q (PySem.IntMulOk.of_bits (Yr (intBits_le hc.1) (by decide)) (Yr (intBits_le hc.2) (by decide)))
theorem PS.nox{X:Cx}{st:Stmt}{t:TS}(h:PS X.nox st t):PS X st t:=λpins s σ H D I hw=>wpAny_mono (h pins s σ H D (I.wish _) hw) (λ_ _ q=>SP.unwish q) λ_ _ z=>z.elim
structure CMeth(K:W.Frag)(C:Addr)(m:Str)(f:Addr):Prop where
 ex:∃mc,W.readsIn K C mc=true/\W.findCls K (.ref C) mc m=some (.val (.ref f))
 sp:W.specialIn K (.ref C) "__getattribute__" = some (some (.builtin "type.__getattribute__"))
 kp:W.keepIn K (.ref f)=true
section
variable{X:Cx}{CX:CXT}{k:Nat}{f C:Addr}{fd:FuncData}{ps:List Str}{sp:Sp}{dvs:List V}{ds:List Value}{E:St->XK}{x m:Str}{p pos apos:Pos}{e o:Expr}{es:List Expr}{ta:TE}{t:TA}
theorem ztm{pl:Sem Bool}(CM:CMeth X.K C m f)(hg:Gl X x)(hm:X.mg x=some (.ref C))(F:FnOk X.prog X.w X.K X.mg X.base CX k f fd ps sp)(hr:Room k X.A)(hb:Binds X.K fd ps ds)(hd:Vals dvs ds)(hx:PassesS CX X E)(ha:PA X (e::es) t)
  (hdb:(x == ("__debug__" : Str))=false:=by decide) (hst:starEach (e::es) X.env=(false,eval e X.env)::starEach es X.env:=by rfl) (hpl:(backTo pos (starEach es X.env)).any (·.1)=false:=by rfl)
  (ht:eval (.Call (.Attribute (.Name x p) m apos) (e::es) [] pos) X.env=(do
   let ov <- eval (.Name x p) X.env
   standAt apos.atName
   let (f,first) <- holding [ov] (getMethod ov m pl)
   callWith pos f first (backTo pos (starEach (e::es) X.env)) (backToKw pos (keywordEach [] X.env))):=by rfl) :
  PE X (.Call (.Attribute (.Name x p) m apos) (e::es) [] pos) (zms sp dvs E t):=by
 intro pins s σ H Q I h;obtain⟨mc,q1,q2⟩:=CM.ex;refine W.methodCall_KW (pl:=pl) (zfw I hg hm (W.method_cls I.kIn CM.sp (W.cls_value I.kIn q1 q2 rfl ?_)) hdb) ht;have I1:=I.tok (s.toks+1);refine W.callWith_K (first:=[]) (h₀:=X.base) I.ok.mod.kin CM.kp (thn (ha pos pins _ σ H _ I1 h) λus s2 ⟨vs,H2,I2,r,q⟩=>⟨I2.kIn,?_⟩) hst hpl;exact zjf F hr hb hd hx I2 r q
theorem zj2{pins:List (Addr×Obj)}{σ : St}{H:Hp}{s:Shared}{Q:VK}{us:List Value}{vs:List V}(M:Mk X.K C f)(F:FnOk X.prog X.w X.K X.mg X.base CX k f fd ps sp)(hr:Room (k+1) X.A)(hb:Binds X.K fd ps ds)(hd:Vals dvs ds)
  (hx:PassesS CX X E) (I:Inv X pins σ H s) (r:Vals vs us)
  (h:∀x dx,H x=none->H dx=none->dx≠x->sp (.ref x::(vs++dvs)) (upd (upd H dx (.own x)) x (.ins C dx [])) (λv H2=>v=.non/\Q (.ref x) H2) (E σ)) :
  wpAny (model X.prog X.w) X.A (call (.ref C) us) (EP X pins σ Q) X.xe s:=by
 have hq:=h (s.heap.objs.size+1) s.heap.objs.size (I.hok.fresh (Nat.le_succ _)) (I.hok.fresh (Yi _)) (Y0 (Nat.lt_succ_self _));have I2:=Inv.made (C:=C) I;have r2:Vals (V.ref (s.heap.objs.size+1)::(vs++dvs)) (Value.ref (s.heap.objs.size+1)::(us++ds)):=.cons rfl (r.append hd);have hl:(Value.ref (s.heap.objs.size+1)::us++ds).length=ps.length:=by
  have e:=r2.length;rw[F.len _ _ _ _ hq]at e;exact e.symm
 refine wpAny_call (zrm (f:=f) I.kIn M.makes M.init (beq_iff_eq.mp M.fn) (codeAny_mono (F.run _ X.stack _ _ ⟨Value.ref (s.heap.objs.size+1)::us,[]⟩ (Value.ref (s.heap.objs.size+1)::(us++ds)) _ _ (E σ) (hr.make C us [])
  (I2.env0.make C us []) (hb _ (Value.ref (s.heap.objs.size+1)::us) I2.kIn hl) r2 hq) λr s' hq'=>?_))
 match r,hq' with
 | .error e,hq'=>exact hx pins σ _ _ e s' I2 hq'
 | .ok (.ret u),hq'=>
  obtain⟨v,H',I3,rv,ev,q3⟩:=I2.after hq';subst ev;exact⟨rv,⟨V.ref (s.heap.objs.size+1),H',I3,Z,q3⟩⟩
 | .ok .next,hq'=>exact Jf hq'
 | .ok .brk,hq'=>exact Jf hq'
 | .ok .cont,hq'=>exact Jf hq'
theorem zrc(M:Mk X.K C f)(F:FnOk X.prog X.w X.K X.mg X.base CX k f fd ps sp)(hr:Room (k+1) X.A)(hg:Gl X x)(hm:X.mg x=some (.ref C))(hb:Binds X.K fd ps ds)(hd:Vals dvs ds)(hx:PassesS CX X E)
  (ha:PA X (e::es) t) (hdb:(x == ("__debug__" : Str))=false:=by decide) (he:starEach (e::es) X.env=(false,eval e X.env)::starEach es X.env:=by rfl) (hpl:(backTo pos (starEach es X.env)).any (·.1)=false:=by rfl) :
  PE X (.Call (.Name x p) (e::es) [] pos) (zn7 C sp dvs E t):=by
 intro pins s σ H Q I h;refine wpAny_Call_Name_kw (zfw I hg hm (W.callWith_K (h₀:=X.base) I.ok.mod.kin M.kp (thn (ha pos pins s σ H _ I h) λus s1 ⟨vs,H1,I1,r,q⟩=>⟨I1.kIn,?_⟩) he hpl) hdb);exact zj2 M F hr hb hd hx I1 r q
end
end L2
set_option Elab.async false
set_option linter.all false
set_option maxRecDepth 100000
namespace L2
open PySem PySem.Spec PyProof.Rows
structure FunD(K:W.Frag)(x qual:Str)(st:Stmt)(dV:Value)(f:Addr)(fd:FuncData):Prop where
 ex:∃(oc:Value) (od:Option Addr) (kV doc pm:Value) (an:Option Addr) (cdv ct:Value) (osl:Array (Option Value)),
  fd=W.fnOf x qual (zdo st) (zck st) (zah st) dV kV doc pm an cdv ct/\K.lookup f=some ⟨oc,od,.func fd,osl⟩/\W.codeIn K cdv qual=true
section
variable{P:Program}{w:World}{K:W.Frag}{mg:Str->Option Value}{base:Heap}{x qual:Str}{st:Stmt}{dV:Value}{f:Addr}{fd:FuncData}{N ps:List Str}{k:Nat}{sp:Sp}
theorem FunD.okN(F:FunD K x qual st dV f fd)(S:FnScope N ps (zah st))(len:∀vs H Q E,sp vs H Q E->vs.length=ps.length)
  (hbody:∀(cdv:Value) (A:Around) (outer:List Env) (s:Shared) (H:Hp) (vs:List V) (Q:VK) (E:XK),Room k (A.deeper (envOfC qual (zah st) s.heap.objs.size f cdv))->sp vs H Q E ->
   ∃t,PSs (cxOf CX0 P w K mg base N qual (zah st) f cdv A outer s H E).nox (zck st) t/\t { nx:=λ_ H'=>Q .non H',rt:=Q } (start N vs) H):FnOk P w K mg base CX0 (k+1) f fd ps sp:=by
 obtain⟨oc,od,kV,doc,pm,an,cdv,ct,osl,rfl,lk,hcd⟩:=F.ex;refine zv8 lk hcd S len λA outer s H vs Q E hr hsp=>?_
 obtain⟨t,h,q⟩:=hbody cdv A outer s H vs Q E hr hsp;exact⟨t,h.nox,q⟩
theorem FunD.okX(F:FunD K x qual st dV f fd)(S:FnScope N ps (zah st))(len:∀vs H Q E,sp vs H Q E->vs.length=ps.length)
  (hbody:∀(cdv:Value) (A:Around) (outer:List Env) (s:Shared) (H:Hp) (vs:List V) (Q:VK) (E:XK),Room k (A.deeper (envOfC qual (zah st) s.heap.objs.size f cdv))->sp vs H Q E ->
   ∃t,PSs (cxOf (CXe P w) P w K mg base N qual (zah st) f cdv A outer s H E) (zck st) t/\t { nx:=λ_ H'=>Q .non H',rt:=Q } (start N vs) H):FnOk P w K mg base (CXe P w) (k+1) f fd ps sp:=by
 obtain⟨oc,od,kV,doc,pm,an,cdv,ct,osl,rfl,lk,hcd⟩:=F.ex;exact zv8 lk hcd S len λA outer s H vs Q E hr hsp=>hbody cdv A outer s H vs Q E hr hsp
theorem FunD.binds(F:FunD K x qual st .none f fd)
  (h:∀(kV doc pm:Value) (an:Option Addr) (cdv ct:Value) (us:List Value),us.length=ps.length->bindArgs (W.fnOf x qual (zdo st) (zck st) (zah st) .none kV doc pm an cdv ct) ⟨us,[]⟩=pure (ps.zip us)):Binds K fd ps []:=by
 obtain⟨oc,od,kV,doc,pm,an,cdv,ct,osl,rfl,lk,hcd⟩:=F.ex;exact .all (h kV doc pm an cdv ct)
theorem FunD.bindsD{T:Addr}{o:Obj}{items:Array Value}{n:Nat}{ds:List Value}(F:FunD K x qual st (.ref T) f fd)(hT:K.lookup T=some o)(hs:o.data=.seq items n)
  (h:∀(kV doc pm:Value) (an:Option Addr) (cdv ct:Value) (us:List Value),(us++ds).length=ps.length->∃k:Option (Array Value)->Sem (List (Str×Value)),bindArgs (W.fnOf x qual (zdo st) (zck st) (zah st) (.ref T) kV doc pm an cdv ct) ⟨us,[]⟩=seqItems? (.ref T) >>= k/\k (some items)=pure (ps.zip (us++ds))):Binds K fd ps ds:=by
 obtain⟨oc,od,kV,doc,pm,an,cdv,ct,osl,rfl,lk,hcd⟩:=F.ex;intro s us KX hl;obtain⟨k,h1,h2⟩:=h kV doc pm an cdv ct us hl;exact BindsTo.of_defaults (T:=T) rfl (KX _ _ hT) hs h1 h2
theorem zht{oc:Value}{od an:Option Addr}{osl:Array (Option Value)}{kV doc pm cdv ct:Value}(l:K.lookup f=some ⟨oc,od,.func (W.fnOf x qual (zdo st) (zck st) (zah st) dV kV doc pm an cdv ct),osl⟩)
  (c:W.codeIn K cdv qual=true):FunD K x qual st dV f (W.fnOf x qual (zdo st) (zck st) (zah st) dV kV doc pm an cdv ct):=⟨⟨oc,od,kV,doc,pm,an,cdv,ct,osl,Z,l,c⟩⟩
end
structure Cal(P:Program)(w:World)(K:W.Frag)(mg:Str->Option Value)(base:Heap)(CX:CXT)(k:Nat)(x:Str)(ps:List Str)(ds:List Value)(sp:Sp):Prop where
 ex:∃f fd,FnOk P w K mg base CX k f fd ps sp/\Binds K fd ps ds/\W.keepIn K (.ref f)=true/\mg x=some (.ref f)
structure MCal(P:Program)(w:World)(K:W.Frag)(mg:Str->Option Value)(base:Heap)(CX:CXT)(k:Nat)(C:Addr)(m:Str)(ps:List Str)(ds:List Value)(sp:Sp):Prop where
 ex:∃f fd,FnOk P w K mg base CX k f fd ps sp/\Binds K fd ps ds/\Meth K C m f
 cl:Cls K C
structure Mak(P:Program)(w:World)(K:W.Frag)(mg:Str->Option Value)(base:Heap)(CX:CXT)(k:Nat)(x:Str)(C:Addr)(ps:List Str)(ds:List Value)(sp:Sp):Prop where
 ex:∃f fd,FnOk P w K mg base CX k f fd ps sp/\Binds K fd ps ds/\Mk K C f
 at_:mg x=some (.ref C)
structure CCal(P:Program)(w:World)(K:W.Frag)(mg:Str->Option Value)(base:Heap)(CX:CXT)(k:Nat)(x:Str)(m:Str)(ps:List Str)(ds:List Value)(sp:Sp):Prop where
 ex:∃C f fd,FnOk P w K mg base CX k f fd ps sp/\Binds K fd ps ds/\CMeth K C m f/\mg x=some (.ref C)
structure Exc(K:W.Frag)(mg:Str->Option Value)(base:Heap)(x:Str)(C:Addr):Prop where
 ex:∃bm nid init B,OwnCls x C bm nid mg base/\ExcBaseFacts B nid init bm
 at_:mg x=some (.ref C)
 me:W.exmOne K (.ref C) (.ref C)=some true
theorem zar{X:Cx}:PassesS CX0 X (λ_=>E0):=λ_ _ _ _ _ _ _ h=>h.elim
theorem znh{X:Cx}{P:Program}{w:World}:PassesS (CXe P w) X (λ_=>E0):=by
 rintro _ _ _ _ _ _ _ ⟨_,_,_,_,_,_,_,_,_,_,_,_,h⟩;exact h.elim
section
variable{X:Cx}{CX:CXT}{k j:Nat}{C:Addr}{ps:List Str}{sp:Sp}{dvs:List V}{ds:List Value}{E:St->XK}{x m:Str}{p pos apos:Pos}{e o:Expr}{es:List Expr}{ta:TE}{t:TA}
theorem pe_c(c:Cal X.prog X.w X.K X.mg X.base CX k x ps ds sp)(hr:Room j X.A)(hx:PassesS CX X E)(hd:Vals dvs ds)(ha:PA X (e::es) t)(hk:k<=j:=by decide)(hg:Gl X x:=by rfl)
  (hdb:(x == ("__debug__" : Str))=false:=by decide) (he:starEach (e::es) X.env=(false,eval e X.env)::starEach es X.env:=by rfl) (hpl:(backTo pos (starEach es X.env)).any (·.1)=false:=by rfl) :
  PE X (.Call (.Name x p) (e::es) [] pos) (zms sp dvs E t):=by
 obtain⟨f,fd,F,hb,hk',hm⟩:=c.ex;exact zrn F (hr.mono hk) hg hm hk' hb hd hx ha hdb he hpl
theorem pe_m{pl:Sem Bool}(c:MCal X.prog X.w X.K X.mg X.base CX k C m ps ds sp)(he:PE X o ta)(hr:Room j X.A)(hx:PassesS CX X E)(hd:Vals dvs ds)(ha:PA X (e::es) t)(hk:k<=j:=by decide)
  (hst:starEach (e::es) X.env=(false,eval e X.env)::starEach es X.env:=by rfl) (hpl:(backTo pos (starEach es X.env)).any (·.1)=false:=by rfl)
  (ht:eval (.Call (.Attribute o m apos) (e::es) [] pos) X.env=(do
   let ov <- eval o X.env
   standAt apos.atName
   let (f,first) <- holding [ov] (getMethod ov m pl)
   callWith pos f first (backTo pos (starEach (e::es) X.env)) (backToKw pos (keywordEach [] X.env))):=by rfl) :
  PE X (.Call (.Attribute o m apos) (e::es) [] pos) (zqb C m sp dvs E ta t):=by
 obtain⟨f,fd,F,hb,hm⟩:=c.ex;exact zsr he c.cl hm F (hr.mono hk) hb hd hx ha hst hpl ht
theorem zru{pl:Sem Bool}(c:MCal X.prog X.w X.K X.mg X.base CX k C m ps ds sp)(he:PE X o ta)(hr:Room j X.A)(hx:PassesS CX X E)(hd:Vals dvs ds)(hk:k<=j:=by decide)
  (ht:eval (.Call (.Attribute o m apos) [] [] pos) X.env=(do
   let ov <- eval o X.env
   standAt apos.atName
   let (f,first) <- holding [ov] (getMethod ov m pl)
   callWith pos f first (backTo pos (starEach [] X.env)) (backToKw pos (keywordEach [] X.env))):=by rfl) :
  PE X (.Call (.Attribute o m apos) [] [] pos) (zqb C m sp dvs E ta tNil):=by
 obtain⟨f,fd,F,hb,hm⟩:=c.ex;intro pins s σ H Q I h;refine W.methodCall_KW (pl:=pl) (thn (he pins s σ H _ I h) λu s1 ⟨x,H1,I1,rx,a,dx,fs,ex,ea,l,q⟩=>?_) ht;subst ex;obtain rfl:u=Value.ref a:=rx;refine zh8 I1 ea c.cl hm l ?_;exact W.callWith_K0 (first:=[.ref a]) I1.kIn hm.kp (zjf (us:=[.ref a]) (vs:=[.ref a]) F (hr.mono hk) hb hd hx I1 (.cons rfl .nil) q)
theorem zo2(c:Mak X.prog X.w X.K X.mg X.base CX k x C ps ds sp)(hr:Room j X.A)(hx:PassesS CX X E)(hd:Vals dvs ds)(ha:PA X (e::es) t)(hk:k+1<=j:=by decide)(hg:Gl X x:=by rfl)
  (hdb:(x == ("__debug__" : Str))=false:=by decide) (he:starEach (e::es) X.env=(false,eval e X.env)::starEach es X.env:=by rfl) (hpl:(backTo pos (starEach es X.env)).any (·.1)=false:=by rfl) :
  PE X (.Call (.Name x p) (e::es) [] pos) (zn7 C sp dvs E t):=by
 obtain⟨f,fd,F,hb,hm⟩:=c.ex;exact zrc hm F (hr.mono hk) hg c.at_ hb hd hx ha hdb he hpl
theorem zz0(c:Mak X.prog X.w X.K X.mg X.base CX k x C ps ds sp)(hr:Room j X.A)(hx:PassesS CX X E)(hd:Vals dvs ds)(hk:k+1<=j:=by decide)(hg:Gl X x:=by rfl)(hdb:(x == ("__debug__" : Str))=false:=by decide) :
  PE X (.Call (.Name x p) [] [] pos) (zn7 C sp dvs E tNil):=by
 obtain⟨f,fd,F,hb,hm⟩:=c.ex;intro pins s σ H Q I h;refine wpAny_Call_Name_kw (zfw I hg c.at_ ?_ hdb);exact W.callWith_K0 I.kIn hm.kp (zj2 (us:=[]) hm F (hr.mono hk) hb hd hx I .nil h)
theorem zz6{pl:Sem Bool}(c:CCal X.prog X.w X.K X.mg X.base CX k x m ps ds sp)(hr:Room j X.A)(hx:PassesS CX X E)(hd:Vals dvs ds)(ha:PA X (e::es) t)(hk:k<=j:=by decide)(hg:Gl X x:=by rfl)
  (hdb:(x == ("__debug__" : Str))=false:=by decide) (hst:starEach (e::es) X.env=(false,eval e X.env)::starEach es X.env:=by rfl) (hpl:(backTo pos (starEach es X.env)).any (·.1)=false:=by rfl)
  (ht:eval (.Call (.Attribute (.Name x p) m apos) (e::es) [] pos) X.env=(do
   let ov <- eval (.Name x p) X.env
   standAt apos.atName
   let (f,first) <- holding [ov] (getMethod ov m pl)
   callWith pos f first (backTo pos (starEach (e::es) X.env)) (backToKw pos (keywordEach [] X.env))):=by rfl) :
  PE X (.Call (.Attribute (.Name x p) m apos) (e::es) [] pos) (zms sp dvs E t):=by
 obtain⟨C,f,fd,F,hb,hm,hmg⟩:=c.ex;exact ztm hm hg hmg F (hr.mono hk) hb hd hx ha hdb hst hpl ht
theorem zjq{np cpos:Pos}(x':Exc X.K X.mg X.base x C)(hc:X.calm=true)(hg:Gl X x)(hx:RaisesTo X E)(ha:PA X (e::es) t)(he:starEach (e::es) X.env=(false,eval e X.env)::starEach es X.env:=by rfl)(hpl:(backTo cpos (starEach es X.env)).any (·.1)=false:=by rfl)(hd:(x == ("__debug__" : Str))=false:=by decide) :
  PS X (.Raise (some (.Call (.Name x np) (e::es) [] cpos)) none pos) (zt9 C E t):=by
 obtain⟨bm,nid,init,B,O,FB⟩:=x'.ex;exact zrb O FB hc hg hx ha he hpl hd
end
theorem zs0{X:Cx}{x:Str}{i:Int}{pos:Pos}(hm:∃tk,X.mg x=some (.int i tk))(hg:Gl X x)(hd:(x == ("__debug__" : Str))=false:=by decide):PE X (.Name x pos) (tC (.int i)):=by
 obtain⟨tk,e⟩:=hm;exact zn0 hg e ⟨tk,Z⟩ hd
def CDivB(_ j:Int):Prop:=j≠0/\j.natAbs<2^8999
theorem zby{X:Cx}:OpR X (binaryOp .FloorDiv) (rI CDivB λi j=>.int (i.fdiv j)):=opI λ_ j _ _ _ _ _ hc q=>floordiv_int hc.1 q (.inl (PyProof.noPylong_of_log2 (by
 have h0:j.natAbs≠0:=λz=>hc.1 (Int.natAbs_eq_zero.mp z)
 exact Yf ((Nat.log2_lt h0).mpr hc.2) (by decide))))
theorem cEq{a b:Int}{A B:Prop}(h1:a=b->A)(h2:a≠b->B):if decide (V.int a=V.int b)=true then A else B:=by
 by_cases h:a=b
 ·rw[Yo (Jx V.int h)];exact iteT (h1 h)
 ·rw[Yw λz=>h (by injection z)];exact iteF (h2 h)
theorem cNe{a b:Int}{A B:Prop}(h1:a≠b->A)(h2:a=b->B):if (!decide (V.int a=V.int b))=true then A else B:=by
 by_cases h:a=b
 ·rw[Yo (Jx V.int h)];exact iteF (h2 h)
 ·rw[Yw λz=>h (by injection z)];exact iteT (h1 h)
theorem cD{c:Prop}[Decidable c]{A B:Prop}(h1:c->A)(h2:¬c->B):if decide c=true then A else B:=by
 by_cases h:c
 ·rw[Yo h];exact iteT (h1 h)
 ·rw[Yw h];exact iteF (h2 h)
theorem cN{c:Prop}[Decidable c]{A B:Prop}(h1:¬c->A)(h2:c->B):if (!decide c)=true then A else B:=by
 by_cases h:c
 ·rw[Yo h];exact iteF (h2 h)
 ·rw[Yw h];exact iteT (h1 h)
theorem cB{b:Bool}{A B:Prop}(h1:b=true->A)(h2:b=false->B):if b=true then A else B:=by
 cases b with
 | true=>exact iteT (h1 rfl)
 | false=>exact iteF (h2 rfl)
theorem cNB{b:Bool}{A B:Prop}(h1:b=false->A)(h2:b=true->B):if (!b)=true then A else B:=by
 cases b with
 | true=>exact iteF (h2 rfl)
 | false=>exact iteT (h1 rfl)
theorem dI{a b:Int}:decide (V.int a=V.int b)=decide (a=b):=by
 by_cases h:a=b
 ·rw[Yo (Jx V.int h),Yo h]
 ·rw[Yw λz=>h (by injection z),Yw h]
mutual
inductive Rds(K:W.Frag)(H:Hp):V->PyData->Prop
 | non:Rds K H .non .none
 | bl (b:Bool):Rds K H (.bl b) (.bool b)
 | int (i:Int):Rds K H (.int i) (.int i)
 | str (x:Str):Rds K H (.str x) (.str x)
 | tup {a:Addr} {xs:List V} {ds:List PyData}:SqT K H a xs->RdsAll K H xs ds->Rds K H (.ref a) (.tuple ds)
 | lst {a:Addr} {xs:List V} {ds:List PyData}:SqL K H a xs->RdsAll K H xs ds->Rds K H (.ref a) (.list ds)
inductive RdsAll(K:W.Frag)(H:Hp):List V->List PyData->Prop
 | nil:RdsAll K H [] []
 | cons {x:V} {xs:List V} {d:PyData} {ds:List PyData}:Rds K H x d->RdsAll K H xs ds->RdsAll K H (x::xs) (d::ds)
end
theorem zha{K:W.Frag}{H:Hp}:∀ns:List Int,RdsAll K H (ns.map V.int) (ns.map PyData.int)
 | []=>.nil
 | n::ns=>.cons (.int n) (zha ns)
section
variable{X:Cx}{pins:List (Addr×Obj)}{σ : St}{H:Hp}{s:Shared}
mutual
theorem Inv.rds(I:Inv X pins σ H s):∀{v:V} {d:PyData} {u:Value},Rds X.K H v d->RelV v u->∃as,Reads s.heap u d as
 | _,_,_,.non,r=>by cases (show _=Value.none from r);exact⟨_,.none⟩
 | _,_,_,.bl b,r=>by cases (show _=Value.bool b from r);exact⟨_,.bool b⟩
 | _,_,_,.int i,r=>by obtain⟨t,rfl⟩:=r;exact⟨_,.int i t⟩
 | _,_,_,.str x,r=>by obtain⟨t,rfl⟩:=r;exact⟨_,.str x t⟩
 | _,_,_,.tup (a:=a) h hs,r=>by
  cases (show _=Value.ref a from r);obtain⟨its,rv,⟨o,ho,hc,n,hd⟩,_⟩:=I.tuple h;obtain⟨as,q⟩:=Inv.rdsAll I hs rv;exact⟨as,.tuple ho hc hd (by simpa using q)⟩
 | _,_,_,.lst (a:=a) h hs,r=>by
  cases (show _=Value.ref a from r);obtain⟨its,rv,p,_⟩:=I.list h;obtain⟨o,ho,hc,n,hd⟩:=p.isList;obtain⟨as,q⟩:=Inv.rdsAll I hs rv;exact⟨_,.list ho hc hd (by simpa using q)⟩
theorem Inv.rdsAll(I:Inv X pins σ H s):∀{vs:List V} {ds:List PyData} {us:List Value},RdsAll X.K H vs ds->Vals vs us->∃as,ReadsAll s.heap us ds as
 | _,_,_,.nil,.nil=>⟨_,.nil⟩
 | _,_,_,.cons h hs,.cons r rs=>by
  obtain⟨as,q⟩:=Inv.rds I h r;obtain⟨bs,p⟩:=Inv.rdsAll I hs rs;exact⟨_,.cons q p⟩
end
end
section
variable{X:Cx}
theorem zko(hu:X.A.units+64<cLine):OpR X (compareOp .Eq) (λx y H Q=>∃d e,Rds X.K H x d/\Rds X.K H y e/\SeqAt.shaped d=true/\SeqAt.shaped e=true/\Q (.bl (PyData.eqv d e)) H):=by
 intro pins s σ H x y u v Q I rx ry h;obtain⟨d,e,hd,he,s1,s2,q⟩:=h;obtain⟨as,ra⟩:=I.rds hd rx;obtain⟨bs,rb⟩:=I.rds he ry;exact eq_dataH ra rb s1 s2 hu ⟨.bl (PyData.eqv d e),H,I,rfl,q⟩
theorem zuf(hu:X.A.units+64<cLine):OpR X (compareOp .NotEq) (λx y H Q=>∃d e,Rds X.K H x d/\Rds X.K H y e/\SeqAt.shaped d=true/\SeqAt.shaped e=true/\Q (.bl (!PyData.eqv d e)) H):=by
 intro pins s σ H x y u v Q I rx ry h;obtain⟨d,e,hd,he,s1,s2,q⟩:=h;obtain⟨as,ra⟩:=I.rds hd rx;obtain⟨bs,rb⟩:=I.rds he ry;exact ne_dataH ra rb s1 s2 hu ⟨.bl (!PyData.eqv d e),H,I,rfl,q⟩
end
theorem zjh:∀ns ms:List Int,PyData.eqvAll (ns.map PyData.int) (ms.map PyData.int)=decide (ns=ms)
 | [],[]=>by simp[PyData.eqvAll]
 | [],_::_=>by simp[PyData.eqvAll]
 | _::_,[]=>by simp[PyData.eqvAll]
 | a::r,b::t=>by
  simp only[List.map_cons,PyData.eqvAll,PyData.eqv,zjh r t]
  by_cases h:a=b <;> by_cases h':r=t <;> simp[h,h']
end L2
namespace HT
open PySem PyProof.Rows
section
open PySem.SeqAt
open PySem.AutoSeq1 (wpAny_loadPart')
open PySem.MeetsSeq PySem.MeetsSeq2 PySem.MeetsSeq3
theorem zsx(A:Around)(s:Shared)(a:Int)(t:Tok)(c:Int)(u:Tok)(prog:Program)(w:World)(E:Value->Shared->Prop)(Q:Value->Shared->Prop)(h:Q (.bool (decide (c<a))) s) :
  wpAny (model prog w) A (richCompare .Gt (.int a t) (.int c u)) Q E s:=
 (PyProof.Rows.gt_int h:wpAny (model prog w) A (compareOp .Gt (.int a t) (.int c u)) Q E s)
theorem ziv(l b:Addr)(items items2:Array Value)(n n2:Nat)(dd dd2:Option Addr)(sl sl2:Array (Option Value))(ns ms:List Int)(hi:IntsAre items.toList ns)(hj:IntsAre items2.toList ms) :
  Meets (Builtin.«tuple.__gt__» ⟨[.ref l,.ref b],[]⟩)
   (λ_ R s=>s.heap.get? l=some { cls:=.type "tuple",dict:=dd,data:=.seq items n,slots:=sl }/\s.heap.get? b=some { cls:=.type "tuple",dict:=dd2,data:=.seq items2 n2,slots:=sl2 } /\
    R (.ok (.ret (.bool (lexLt ms ns)))) s):=
 .of_wp λprog w A R s h=>by
  obtain⟨hp,g,d,tk,os⟩:=s;obtain⟨hl,hb,h⟩:=h;have f2:=AutoSeq1.sub_tuple_tuple;have z1:items.size=ns.length:=by rw[<- hi.length];simp
  have z2:items2.size=ms.length:=by rw[<- hj.length];simp
  wp_walk using wpAny_loadPart' hl,wpAny_loadPart' hb,wpAny_forIn_list _ (λrest b s'=>b.1=none/\s'=⟨hp,g,d,tk,os⟩/\∃(vs ws:List Value) (ns' ms':List Int),rest=vs.zip ws /\
   IntsAre vs ns'/\IntsAre ws ms'/\ns'.length+items2.size=ms'.length+items.size/\R (.ok (.ret (.bool (lexLt ms' ns')))) ⟨hp,g,d,tk,os⟩) _
  case turn=>
   rintro⟨y,x⟩ rest b s' ⟨hb',rfl,vs,ws,ns',ms',hz,hvi,hwi,hlen,hR⟩
   cases hvi with
   | nil=>rw[List.zip_nil_left]at hz;cases hz
   | cons a t hvi'=>
    cases hwi with
    | nil=>rw[List.zip_nil_right]at hz;cases hz
    | cons c u hwi'=>
     rw[List.zip_cons_cons]at hz;injection hz with hyx hrest
     injection hyx with hy hx
     subst hy hx;rw[lexLt_cons]at hR;simp only[List.length_cons]at hlen;obtain⟨e,he,hiff⟩:=zma A.in1 ⟨hp,g,d,tk,os⟩ a t c u;refine Ya (he prog w _ _ ?_)
     cases e with
     | true=>
      rw[Yl (hiff.mp rfl).symm]at hR;wp_walk;exact⟨Z,Z,_,_,_,_,hrest,hvi',hwi',by omega,hR⟩
     | false=>
      rw[Yh (λq=>absurd (hiff.mpr q.symm) Yt)]at hR;have hri:=zsx A.in1 ⟨hp,g,d,tk,os⟩ a t c u prog w;wp_walk using hri;exact⟨_,Z,by simpa using hR⟩
  case fin=>
   rintro⟨b1,b2⟩ s' ⟨hb',rfl,vs,ws,ns',ms',hz,hvi,hwi,hlen,hR⟩;simp only at hb';subst hb';have hv:lexLt ms' ns'=decide (items2.size<items.size):=by
    cases hvi with
    | nil=>
     cases hwi with
     | nil=>
      simp only[List.length_nil]at hlen
      rw[zge];exact(Yw (by omega)).symm
     | cons c u hw=>
      simp only[List.length_nil,List.length_cons]at hlen
      rw[zfl];exact(Yw (by omega)).symm
    | cons a t hv=>
     cases hwi with
     | nil=>
      simp only[List.length_nil,List.length_cons]at hlen
      rw[zfq];exact(Yo (by omega)).symm
     | cons c u hw=>
      rw[List.zip_cons_cons]at hz
      cases hz
   rw[hv]at hR;wp_walk;exact⟨_,Z,by simpa[Builtin.Tuple.tupleCompareSizes]using hR⟩
  case h=>
   exact⟨Z,Z,items.toList,items2.toList,ns,ms,Z,hi,hj,by omega,h⟩
end
theorem gt_tupInts{prog:Program}{w:World}{A:Around}{E:Value->Shared->Prop}{s:Shared}{l b:Addr}{items items2:Array Value}{ns ms:List Int}{Q:Value->Shared->Prop}(hl:IsTup s.heap l items)(hb:IsTup s.heap b items2)(hi:IntsAre items.toList ns)(hj:IntsAre items2.toList ms)
  (hu:A.units<cLine) (h:Q (.bool (lexLt ms ns)) s):wpAny (model prog w) A (compareOp .Gt (.ref l) (.ref b)) Q E s:=by
 obtain⟨⟨cls,dd,data,sl⟩,ho,hc,n,hd⟩:=id hl;obtain⟨⟨cls2,dd2,data2,sl2⟩,ho2,hc2,n2,hd2⟩:=id hb;simp only at hc hd hc2 hd2;subst hc hd hc2 hd2;exact richCompare_meets_room (op:=.Gt) ⟨_,ho,Z⟩ ⟨_,ho2,Z⟩ PySem.F.slot_tuple_gt PySem.F.entry_tuple_gt (PySem.F.args_tuple_gt_2 _ _) (ziv l b items items2 n n2 dd dd2 sl sl2 ns ms hi hj)
  ⟨ho,ho2,show Value.bool (lexLt ms ns)≠Value.notImplemented/\Q (.bool (lexLt ms ns)) s from⟨(λx=>nomatch x),h⟩⟩ hu
end HT
namespace PySem
namespace F
theorem zkg:Manifest.owners.lookup (String.ofList ['d','e','s','r','e','v','e','r'].reverse)=some Manifest.sig_reversed:=by kernel_rfl
theorem slot_rvd_next:Slot "reversed" "__next__" "reversed.__next__":=
 .of (owner:="reversed") (n:="__next__") (by rw[typeLookup_type,builtinLookup_eq_fast];kernel_rfl) (by decide +kernel) (by decide +kernel) (by decide +kernel)
  (by first | exact .inl (by decide +kernel) | exact .inr (by decide +kernel)) (by rw[isSubtype_type];kernel_rfl)
theorem entry_rvd_next:entryFor table "reversed.__next__" = some Builtin.«reversed.__next__»:=entryFor_of_tree (by kernel_rfl)
theorem args_rvd_next_1(a:Value):argsOk "reversed.__next__" ⟨[a],[]⟩:=by
 unfold argsOk;rw[signature?_of (id:="reversed.__next__") (n:=['_','_','t','x','e','n','_','_']) (o:=['d','e','s','r','e','v','e','r']) (by kernel_rfl) zkg];kernel_rfl
theorem slot_rvd_iter:Slot "reversed" "__iter__" "reversed.__iter__":=
 .of (owner:="reversed") (n:="__iter__") (by rw[typeLookup_type,builtinLookup_eq_fast];kernel_rfl) (by decide +kernel) (by decide +kernel) (by decide +kernel)
  (by first | exact .inl (by decide +kernel) | exact .inr (by decide +kernel)) (by rw[isSubtype_type];kernel_rfl)
theorem args_rvd_iter_1(a:Value):argsOk "reversed.__iter__" ⟨[a],[]⟩:=by
 unfold argsOk;rw[signature?_of (id:="reversed.__iter__") (n:=['_','_','r','e','t','i','_','_']) (o:=['d','e','s','r','e','v','e','r']) (by kernel_rfl) zkg];kernel_rfl
theorem entry_rvd_iter:entryFor table "reversed.__iter__" = some Builtin.«dict_keyiterator.__iter__»:=
 entryFor_alias (id':="dict_keyiterator.__iter__") (by kernel_rfl) (by first | rfl | decide +kernel | (unfold String.splitOn;simp +decide [String.splitOnAux])) (by decide +kernel) (by kernel_rfl)
theorem lookup_tuple_reversed:typeLookup (.type "tuple") "__reversed__" = pure none:=by rw[typeLookup_type,builtinLookup_eq_fast];kernel_rfl
theorem zje:Slot "reversed" "__init__" "object.__init__":=
 .of (owner:="object") (n:="__init__") (by rw[typeLookup_type,builtinLookup_eq_fast];kernel_rfl) (by decide +kernel) (by decide +kernel) (by decide +kernel)
  (by first | exact .inl (by decide +kernel) | exact .inr (by decide +kernel)) (by rw[isSubtype_type];kernel_rfl)
theorem called_reversed:TypeCalled "reversed" "reversed.__new__" "object.__init__":=
 ⟨by decide +kernel,by decide +kernel,⟨_,_,mro_reversed⟩,made_reversed,by decide +kernel,by rw[isSubtype_type];kernel_rfl,zje⟩
end F
end PySem
namespace L2
open PySem PySem.Spec PyProof.Rows PySem.MeetsSeq
theorem zs9(t:Addr)(items:Array Value):Meets (Builtin.«reversed.__new__» ⟨[.type "reversed",.ref t],[]⟩) (λ_ R s=>IsTup s.heap t items/\(items.size:Int)<2^63 /\
   R (.ok (.ret (.ref s.heap.objs.size))) { s with heap:=s.heap.push { cls:=.type "reversed",data:=.fields #[.ref t,rawInt ((items.size:Int)-1)] },toks:=s.toks+1+1 }):=
 .of_wp λprog w A R s h=>by
  obtain⟨ht,hz,h⟩:=h;unfold Builtin.«reversed.__new__»;refine Ya (wpAny_of_eq (newClass_reversed _) ?_)
  try dsimp only
  refine Ya (wpAny_of_eq (a:=()) (by first | rfl | kernel_rfl) ?_);refine Ya (wpAny_of_eq (a:=()) (by first | rfl | kernel_rfl) ?_)
  try dsimp only
  refine Ya (wpAny_specialOf ht.typeIs F.lookup_tuple_reversed ?_)
  try dsimp only
  refine Ya ?_;show wpAny _ _ (isInstance (.ref t) (.type "dict") >>= _) _ _ _;refine Ya (wpAny_isInstance ht.typeIs F.sub_tuple_dict ?_);rw[Yh Yt];refine Ya (wpAny_specialOf ht.typeIs slot_tuple_getitem.lookup ?_);dsimp only;rw[Yl (by decide)];refine Yb ?_;simp only[Bool.not_true,Bool.false_eq_true,if_false];refine Ya (len_tuple ht hz ?_);refine Ya (wpAny_of_eq (a:=some (items.size:Int)) rfl ?_);dsimp only;refine Ya ?_;unfold Builtin.SmallTypes.newRecord;dsimp only;refine Jo ?_;exact Yb ⟨_,Z,h⟩
section
variable{prog:Program}{w:World}{A:Around}{E:Value->Shared->Prop}{s:Shared}
def IsRvd(h:Heap)(a t:Addr)(i:Int):Prop:=∃o,h.get? a=some o/\o.cls=.type "reversed"/\o.data=.fields #[.ref t,rawInt i]
theorem IsRvd.typeIs{a t:Addr}{i:Int}(x:IsRvd s.heap a t i):s.TypeIs (.ref a) "reversed":=let ⟨o,ho,hc,_⟩:=x;⟨o,ho,hc⟩
theorem zgu{t:Addr}{items:Array Value}{Q:Value->Shared->Prop}(ht:IsTup s.heap t items)(hz:(items.size:Int)<2^63)
  (h:Q (.ref s.heap.objs.size) { s with heap:=s.heap.push { cls:=.type "reversed",data:=.fields #[.ref t,rawInt ((items.size:Int)-1)] },toks:=s.toks+1+1 }):wpAny (model prog w) A (call (.type "reversed") [.ref t]) Q E s:=by
 refine callType_new F.called_reversed (by decide) (F.typeCall_reversed_1 _) (F.newCall_reversed_1 _) (λobj=>F.args_object_init_2 obj _) F.entry_reversed_new (zs9 t items) ⟨ht,hz,?_⟩;exact⟨⟨_,Yk _ rfl,Z⟩,h⟩
theorem zhn{it t:Addr}{i:Nat}{items:Array Value}{x:Value}{Q:Option Value->Shared->Prop}(hit:IsRvd s.heap it t (i:Int))(ht:IsTup s.heap t items)(hz:(items.size:Int)<2^63)(hx:items[i]? = some x)
  (hQ:∀h',IsRvd h' it t ((i:Int)-1)->Heap.SameBut it s.heap h'->Q (some x) { s with heap:=h',toks:=s.toks+1 }):wpAny (model prog w) A (pyNext (.ref it)) Q E s:=by
 obtain⟨o,ho,hc,hd⟩:=id hit;have hi:i<items.size:=by
  rcases Jh i items.size with q | q
  ·exact q
  ·rw[Array.getElem?_eq_none q]at hx;cases hx
 have hs:seqIndex? (i:Int) items.size=some i:=by
  unfold seqIndex?;have n0:¬(i:Int)<0:=by omega
  simp only[n0,if_false]
  rw[Yl (by simp;omega)];simp
 unfold pyNext;refine Ya (wpAny_attempt (Jb (name:=Str.ofString "__next__") hit.typeIs F.slot_rvd_next
  (Y8 F.slot_rvd_next hit.typeIs F.entry_rvd_next ?_ (F.args_rvd_next_1 _))))
 unfold Builtin.«reversed.__next__»;refine Ya (wpAny_of_eq (a:=(Value.ref it,[])) rfl ?_)
 try dsimp only
 refine Ya (Jl ho hd (x:=.ref t) rfl ?_);refine Ya (Jl ho hd (x:=rawInt (i:Int)) rfl ?_);show wpAny _ _ (if (i:Int)<0 then _ else _) _ _ s;rw[Yh (by omega)];refine Ya (wpAny_specialOf ht.typeIs slot_tuple_getitem.lookup ?_);rw[Yh (by simp)];refine Ya (wpAny_mkInt ?_);refine Ya (wpAny_attempt (getItem_tuple (j:=i) ht (by omega) (by omega) hs (by simpa using hx) ?_));dsimp only;refine Ya (Jl ho hd (x:=rawInt (i:Int)) rfl ?_);show wpAny _ _ (setField (.ref it) 1 (rawInt ((i:Int)-1)) >>= _) _ _ _;refine Ya (wpAny_setField ho hd (by simp) ?_);refine Yb ⟨x,Z,Yb (hQ _ ?_ (Heap.SameBut.update ..))⟩;exact⟨_,Heap.get?_update_self _ ho (Obj.isFreed_of_fields (Obj.data_mapFields hd _)),(Obj.cls_mapFields ..).trans hc,by
  rw[Obj.data_mapFields hd];simp⟩
theorem zh5{it t:Addr}{Q:Option Value->Shared->Prop}(hh:A.handled=none)(hit:IsRvd s.heap it t (-1))
  (hQ:∀h',Heap.ExtBut it s.heap h'->Q none { s with heap:=h' }):wpAny (model prog w) A (pyNext (.ref it)) Q E s:=by
 obtain⟨o,ho,hc,hd⟩:=id hit;unfold pyNext;refine Ya (wpAny_attempt (Jb (name:=Str.ofString "__next__") hit.typeIs F.slot_rvd_next
  (Y8 F.slot_rvd_next hit.typeIs F.entry_rvd_next ?_ (F.args_rvd_next_1 _))))
 unfold Builtin.«reversed.__next__»;refine Ya (wpAny_of_eq (a:=(Value.ref it,[])) rfl ?_)
 try dsimp only
 refine Ya (Jl ho hd (x:=.ref t) rfl ?_);refine Ya (Jl ho hd (x:=rawInt (-1)) rfl ?_);show wpAny _ _ (if (-1:Int)<0 then _ else _) _ _ s;rw[Yl (by decide)];refine Ya (wpAny_rule ?_);refine Ya ?_;show wpAny _ _ (setField (.ref it) 1 (rawInt (-1)) >>= _) _ _ _;refine Ya (wpAny_setField ho hd (by simp) ?_);have ho2:=Heap.get?_update_self (Obj.mapFields λx=>x.setIfInBounds 1 (rawInt (-1))) ho (Obj.isFreed_of_fields (Obj.data_mapFields hd _));refine wpAny_setField ho2 (Obj.data_mapFields hd _) (by simp) ?_;refine Ya ?_;show wpAny _ _ (newExc (.type "StopIteration") [] >>= _) _ _ _;refine Ya ?_;simp only[newExc,newTuple];refine Ya (Jo ?_ (by size_fits));refine Ya (m:=firstArgMember _ _) (wpAny_of_eq (a:=Value.none) (by first | rfl | (simp only[firstArgMember];rfl)) ?_);refine Jo ?_ (by size_fits);simp only[raiseNew];refine Ya (wpAny_handled ?_)
 first | rw[show A.in1.handled=none from hh] | rw[hh]
 refine Ya (Yb (wpAny_throw ?_));refine Ya (wpAny_isInstance (T:="StopIteration") (b:=true) ⟨_,Yk _ rfl,Z⟩ isSubtype_stop ?_);exact Yb (hQ _ λb o hb e=>Ye _ (Ye _ ((Heap.SameBut.update ..).extBut b o hb ((Heap.SameBut.update ..).extBut b o hb e))))
theorem zie{it t:Addr}{i:Int}{Q:Value->Shared->Prop}(hit:IsRvd s.heap it t i)(h:Q (.ref it) s):wpAny (model prog w) A (pyIter (.ref it)) Q E s:=by
 refine wpAny_pyIter_slot hit.typeIs F.slot_rvd_iter (Y8 F.slot_rvd_iter hit.typeIs F.entry_rvd_iter ?_ (F.args_rvd_iter_1 _));show wpAny _ _ (ret (.ref it)) _ _ s;exact Yb ⟨_,Z,"reversed",_,hit.typeIs,F.slot_rvd_next.lookup,h⟩
end
def Itv(K:W.Frag)(a:Addr)(n:Nat):It:=
 ⟨λi H=>i<n/\∃xs,SqT K H a xs/\xs.length=n,λi H x H'=>H'=H/\∀xs,SqT K H a xs->xs[n-1-i]? = some x,λi H=>i=n⟩
theorem zr9{P:Program}{w:World}{K:W.Frag}{tg:Expr}(a it:Addr)(n:Nat):Turn P w K tg (Itv K a n) [it] it (λi h=>IsRvd h it a ((n:Int)-1-(i:Int))) where
 mem:=by simp
 obj:=λi h st b hb=>by
  simp only[List.mem_cons,List.not_mem_nil,or_false]at hb
  subst hb;obtain⟨o,ho,hc,hd⟩:=st;exact⟨o,ho,λv q=>by rw[hd]at q;cases q⟩
 keep:=λi h h' st k=>by obtain⟨o,ho,r⟩:=st;exact⟨o,k it (by simp) o ho,r⟩
 item:=by
  intro X hP hw hK hc i pins s σ H E I hf st hg;subst hP hw hK;obtain⟨hi,xs,hx,hn⟩:=hg;obtain⟨its,rv,p,hz⟩:=I.tuple hx;have hl:=rv.length;have hlt:=zik;have e1:(n:Int)-1-(i:Int)=((n-1-i:Nat):Int):=by omega
  rw[e1]at st;obtain⟨x,ex⟩:∃x,xs[n-1-i]? = some x:=⟨xs[n-1-i],by simp⟩;obtain⟨u,eu,ru⟩:=rv.get ex;refine zhn st p (by rw[Ys];omega) (x:=u) (by simpa using eu) λh' st' sb=>⟨u,Z,?_⟩
  obtain⟨o,ho,hcl,hd⟩:=id st';refine zqn (s:={ s with heap:=h',toks:=s.toks+1 }) ho hcl hd (by decide) ?_;obtain⟨f0,f1,f2,f3,f4,f5⟩:=hf it (by simp);have e2:((n-1-i:Nat):Int)-1=(n:Int)-1-((i+1:Nat):Int):=by omega
  rw[e2]at st';exact⟨x,H,I.turned (t':=s.toks+1) (λb o hb e=>sb.extBut b o hb e) f0 f1 f3 f4 f5,ru,⟨Z,λys hy=>by rw[I.tuple_inj hy hx];exact ex⟩,st',λb hb=>(hf b hb).1⟩
 done:=by
  intro X hP hw hK hc i pins s σ H E I hf st hg;subst hP hw hK;obtain rfl:i=n:=hg;have e1:(i:Int)-1-(i:Int) = -1:=by omega
  rw[e1]at st;obtain⟨f0,f1,f2,f3,f4,f5⟩:=hf it (by simp);exact zh5 (I.ok.hd hc) st λh' eb=>⟨Z,I.turned (t':=s.toks) (λb o hb e=>eb b o hb e) f0 f1 f3 f4 f5⟩
 self:=λ_ _ _ _ _ st h=>zie st h
def iRvd(K:W.Frag)(ta:TA):TI:=λσ H R=>ta σ H λvs H1=>∃a xs,vs=[.ref a]/\SqT K H1 a xs/\R (Itv K a xs.length) H1
theorem ziw:bootBuiltins "reversed" = some (.type "reversed"):=by kernel_rfl
theorem zx2{X:Cx}{tg:Expr}{p pos:Pos}{e1:Expr}{ta:TA}(hg:Gl X "reversed")(hm:X.mg "reversed" = none)(ha:PA X [e1] ta)
  (he:starEach [e1] X.env=(false,eval e1 X.env)::starEach [] X.env:=by rfl) (hpl:(backTo pos (starEach [] X.env)).any (·.1)=false:=by rfl) :
  PI X tg (.Call (.Name "reversed" p) [e1] [] pos) (iRvd X.K ta):=by
 intro pins s σ H R I h;refine wpAny_Call_Name_kw (zft I hg hm ziw ?_ (by decide) (by decide));refine PyProof.Rows.callWith_type1 (thn (ha pos pins s σ H _ I h) λus s1 ⟨vs,H1,I1,r1,a,xs,ev,hx,q⟩=>?_) he hpl;subst ev;obtain⟨u,rfl,ru⟩:=r1.one
 cases ru;obtain⟨its,rv,pt,hz⟩:=I1.tuple hx;have hl:=rv.length;have hlt:=zik;refine zgu pt (by rw[Ys];omega) ?_;have hit:IsRvd (s1.heap.push { cls:=.type "reversed",data:=.fields #[.ref a,rawInt ((its.toArray.size:Int)-1)] }) s1.heap.objs.size a ((xs.length:Int)-1-((0:Nat):Int)):=by
  refine⟨_,Yk _ rfl,Z,?_⟩;have e:((its.toArray.size:Nat):Int)-1=(xs.length:Int)-1-((0:Nat):Int):=by rw[Ys,hl];omega
  rw[e]
 refine zie hit ?_;have I2:Inv X pins σ H1 { s1 with heap:=s1.heap.push { cls:=.type "reversed",data:=.fields #[.ref a,rawInt ((its.toArray.size:Int)-1)] },toks:=s1.toks+1+1 }:=I1.kept (t':=s1.toks+1+1) λb o e=>Ye _ e
 refine⟨s1.heap.objs.size,[s1.heap.objs.size],_,_,H1,Z,I2,zr9 a s1.heap.objs.size xs.length,hit,λb hb=>?_,q⟩;obtain rfl:b=s1.heap.objs.size:=by simpa using hb
 exact I1.fpOk (Yi _) (I1.hok.fresh (Yi _))
theorem zm3{K:W.Frag}{H1:Hp}{a:Addr}{xs:List V}(h:SqT K H1 a xs):Walk (Itv K a xs.length) H1 xs.length (λi x _=>xs[xs.length-1-i]? = some x):=
 ⟨λi H' e hi=>⟨hi,xs,e.seqT h,Z⟩,λH' e=>Z,λi H' x H2 e hi y=>by
  obtain⟨rfl,q⟩:=y;exact⟨Same.refl _,q xs (e.seqT h)⟩⟩
theorem zcn{J:It}{n:Nat}{P:Nat->V->Hp->Prop}{mp:List (Option Nat)}{wi:TI}{g:TG}{tc:TT}{te:TE}{σ : St}{H H1:Hp}{Q:VK}(S:Walk J H1 n P)(hn:n<=1000)(hwi:∀R,R J H1->wi σ H R)(Sv:St->Prop)(p:Nat->Bool)(f:Nat->V)(h0:Sv (st0 mp σ))
  (step:∀i x σ' H2,i<n->Sv σ'->Same H1 H2->P i x H2->∀(Ny:V->St->Hp->Prop) (Nn:St->Hp->Prop),(∀σ2 H5,Sv σ2->Same H2 H5->p i=true->Ny (f i) σ2 H5)->(∀σ2 H4,Sv σ2->Same H2 H4->p i=false->Nn σ2 H4) ->
   g x σ' H2 λσ2 H3=>tc σ2 H3 λb H4=>if b=true then te σ2 H4 λv H5=>Ny v σ2 H5 else Nn σ2 H4)
  (hQ:∀D H',Same H1 H'->H' D=some (.lst (((List.range n).filter p).map f))->Q (.ref D) H'):tComp mp wi g tc te σ H Q:=by
 unfold tComp;refine hwi _ λD hD=>?_
 exact zhc S hD (Yr hn (by rw[sizeLine_eq];decide)) Sv p f h0 step λH' e hL=>hQ D H' e hL
end L2
namespace L2
open PySem PySem.Spec PyProof.Rows
theorem zrj{own x:Str}{n c:Addr}{cl:List (Str×Addr)}(h:((own,n)::cl).lookup x=some c):(x=own/\c=n)\/(x≠own/\cl.lookup x=some c):=by
 rw[Jm]at h
 cases q:(x == own) with
 | true=>rw[q]at h;exact .inl ⟨Jy q,(Jg h).symm⟩
 | false=>
  rw[q]at h;have nz:x≠own:=λz=>by
   rw[z,beq_self_eq_true]at q
   cases q
  exact .inr ⟨nz,h⟩
theorem zuv{own:Str}{n:Addr}{cl:List (Str×Addr)}:((own,n)::cl).lookup own=some n:=by
 rw[Jm,beq_self_eq_true]
theorem zwx{own x:Str}{n:Addr}{cl:List (Str×Addr)}(h:x≠own):((own,n)::cl).lookup x=cl.lookup x:=by
 rw[Jm]
 cases q:(x == own) with
 | true=>exact absurd (Jy q) h
 | false=>rfl
end L2
namespace L2
open PySem PySem.Spec PyProof.Rows
def SubC(cl cells:List (Str×Addr)):Prop:=∀x c,cl.lookup x=some c->cells.lookup x=some c
theorem zc2{cells:List (Str×Addr)}:SubC [] cells:=λ_ _ h=>nomatch h
theorem zbe{cl cells:List (Str×Addr)}{a:Str}{n:Addr}(h:cells.lookup a=some n)(t:SubC cl cells):SubC ((a,n)::cl) cells:=λx c e=>by
 rcases zrj e with⟨rfl,rfl⟩ | ⟨_,e⟩
 ·exact h
 ·exact t x c e
theorem zp5:∀{cl:List (Str×Addr)} {x:Str},x∈cl.map (·.1)->∃c,cl.lookup x=some c
 | (a,n)::cl,x,h=>by
  by_cases q:x=a
  ·exact⟨n,by rw[q];exact zuv⟩
  ·rcases Yj.mp h with z | z
   ·exact absurd z q
   ·obtain⟨c,e⟩:=zp5 z;exact⟨c,(zwx q).trans e⟩
theorem zh3{names:List (Str×NameKind)}{cl:List (Str×Addr)}{fs:List Str}(e:cl.map (·.1)=fs)(h:∀y∈names,y.2=.free->y.1∈fs):∀y∈names,y.2=.free->∃c,cl.lookup y.1=some c:=
 λy hy hf=>zp5 (by rw[e];exact h y hy hf)
def MapC(X:Cx)(scope:Scope)(mp:List (Option Nat))(N:List Str):Prop:=∀(i j:Nat) (x:Str),mp[i]? = some (some j)->N[i]? = some x->X.N[j]? = some x/\(X.env.scope.names.lookup x=some .cell\/X.env.scope.names.lookup x=some .free)/\scope.names.lookup x=some .free
theorem zc0{X:Cx}{scope:Scope}{N:List Str}:MapC X scope [] N:=λi j x h=>by simp at h
theorem zb1{X:Cx}{scope:Scope}{mp:List (Option Nat)}{N:List Str}{y:Str}(t:MapC X scope mp N):MapC X scope (none::mp) (y::N):=λi j x h1 h2=>by
 cases i with
 | zero=>cases h1
 | succ i=>exact t i j x (by simpa using h1) (by simpa using h2)
theorem zbd{X:Cx}{scope:Scope}{mp:List (Option Nat)}{N:List Str}{y:Str}{k:Nat}(h:X.N[k]? = some y)(hc:X.env.scope.names.lookup y=some .cell\/X.env.scope.names.lookup y=some .free)(hf:scope.names.lookup y=some .free)
  (t:MapC X scope mp N):MapC X scope (some k::mp) (y::N):=λi j x h1 h2=>by
 cases i with
 | zero=>
  simp only[List.getElem?_cons_zero,Option.some.injEq]at h1 h2
  subst h1 h2;exact⟨h,hc,hf⟩
 | succ i=>exact t i j x (by simpa using h1) (by simpa using h2)
end L2
namespace L2
open PySem PySem.Spec PyProof.Rows
structure Mk0(K:W.Frag)(C:Addr):Prop where
 makes:W.makesIn K C=true
 init:W.findIn K (.ref C) "__init__" = some (some (.builtin "object.__init__"))
 kp:W.keepIn K (.ref C)=true
def tMk0(C:Addr):TE:=λ_ H Q=>∀x dx,H x=none->H dx=none->dx≠x->Q (.ref x) (upd (upd H dx (.own x)) x (.ins C dx []))
theorem zlj{X:Cx}{C:Addr}{x:Str}{p pos:Pos}(M:Mk0 X.K C)(hm:X.mg x=some (.ref C))(hg:Gl X x:=by rfl)(hdb:(x == ("__debug__" : Str))=false:=by decide):PE X (.Call (.Name x p) [] [] pos) (tMk0 C):=by
 intro pins s σ H Q I h;refine wpAny_Call_Name_kw (zfw I hg hm (W.callWith_K0 I.kIn M.kp ?_) hdb);have hq:=h (s.heap.objs.size+1) s.heap.objs.size (I.hok.fresh (Nat.le_succ _)) (I.hok.fresh (Yi _)) (Y0 (Nat.lt_succ_self _));have I2:=Inv.made (C:=C) I;refine wpAny_call (zo1 I.kIn M.makes M.init (λself=>W.Looks.of_pure (W.oi_bind self)) ?_);have Y:=W.makes_of (M:=model X.prog X.w) I.kIn M.makes;have e2:((s.heap.push W.emptyDict).push (W.instObj C s.heap.objs.size)).get? (s.heap.objs.size+1)=some (W.instObj C s.heap.objs.size):=by
  have:=Yk (s.heap.push W.emptyDict) (o:=W.instObj C s.heap.objs.size) rfl;rwa [Heap.size_push]at this
 have t1:W.Looks (model X.prog X.w) ((s.heap.push W.emptyDict).push (W.instObj C s.heap.objs.size)) (typeOf (.ref (s.heap.objs.size+1))) (.ref C):=(W.Looks.ld e2).andThen .now;have t2:W.Looks (model X.prog X.w) ((s.heap.push W.emptyDict).push (W.instObj C s.heap.objs.size)) (isInstance (.ref (s.heap.objs.size+1)) (.type "object")) true:=
  t1.andThen (Y.top.keeps λb o e=>Ye _ (Ye _ e))
 refine codeAny_call_builtin W.oi_plain W.entry_oi (@W.check_slot (model X.prog X.w) _ _ _ "object.__init__" "object" "__init__" (.ref (s.heap.objs.size+1)) [] [] _ W.oi_kind W.oi_split t2 (W.oi_args (.ref (s.heap.objs.size+1))) ?_);rw[W.oi_run];exact Yb (And.intro rfl ⟨.ref (s.heap.objs.size+1),_,I2,Z,hq⟩)
end L2
namespace L2
open PySem PySem.Spec PyProof.Rows
abbrev yes2:Int->Int->Bool:=λ_ _=>true
theorem zow(φ : Int->Int->Int)(xs ys:List Int):zipV yes2 (λx y=>.int (φ x y)) xs ys=(List.zipWith φ xs ys).map V.int:=by
 unfold zipV;rw[Yu.mpr (λ_ _=>Z)];refine List.ext_getElem? λi=>?_
 rw[Ym,Ym,List.getElem?_zipWith];by_cases h:i<min xs.length ys.length
 ·have h1:i<xs.length:=by omega
  have h2:i<ys.length:=by omega
  rw[List.getElem?_range h,Yc h1,Yc h2];simp[List.getD,h1,h2]
 ·rw[Yy (by simpa using h)];rcases Jh i xs.length with q | q
  ·rw[Yy (l:=ys) (by omega)]
   cases xs[i]? <;> rfl
  ·rw[Yy (l:=xs) q];rfl
theorem zmo(xs:List Int)(f:Int->Int):(List.range xs.length).map (λi=>f (xs.getD (xs.length-1-i) 0))=xs.reverse.map f:=by
 refine List.ext_getElem? λi=>?_
 rw[Ym,Ym];by_cases h:i<xs.length
 ·rw[List.getElem?_range h,List.getElem?_reverse h,Yc (show xs.length-1-i<xs.length by omega)];simp[List.getD,show xs.length-1-i<xs.length by omega]
 ·rw[Yy (by simpa using h),Yy (by rw[List.length_reverse];omega)];rfl
theorem zv2{X:Cx}{K:W.Frag}{x y:Str}{px py tp:Pos}{k:Nat}(hK:X.K=K)(hc:X.calm=true)(nd:X.N.Nodup)(h0:X.N[0]? = some x)(h1:X.N[1]? = some y)(hx:X.env.scope.names.lookup x=some .local)(hy:X.env.scope.names.lookup y=some .local) :
  PG X (.Tuple [.Name x px,.Name y py] k tp) (gTup K 2 (zle (za0 0) (zle (za0 1) gNil))):=by
 subst hK;exact zhz hc (zbw (zbb (i:=0) nd h0 (.inl hx) (.inr hx)) (zbw (zbb (i:=1) nd h1 (.inl hy) (.inr hy)) zfz))
end L2
namespace L2
open PySem PySem.Spec PyProof.Rows
theorem zpz{X:Cx}{pins:List (Addr×Obj)}{σ0 σ : St}{H0 H':Hp}{s0 s':Shared}{C:Addr}{i:Nat}{x:Str}{pos':Pos}{v:V}{u:Value}{Nx:St->Hp->Prop}(I0:Inv X pins σ0 H0 s0)(hC:s0.heap.objs.size<=C)(I:Inv X pins σ H' s')(hn:H' C=none)
  (hns:∃m,s'.heap.Ns C m) (hg:PG X (.Name x pos') (za0 i)) (r:RelV v u) (q:Nx (σ.set i (some v)) H') :
  wpAny (model X.prog X.w) X.A (assign (.Name x pos') X.env u) (λ_ s''=>∃m,s''.heap.Ns C m/\∀h',Heap.SameBut C s''.heap h'->∃σ2 H2,Inv X pins σ2 H2 { s'' with heap:=h' }/\Nx σ2 H2) X.xe s':=by
 obtain⟨m,o,es,ep,ho,hd,rest⟩:=hns;have fp:FpOk X pins H' C:=I0.fpOk hC hn;have I1:=I.pinned (fp:=[C]) (λb hb=>by
  obtain rfl:b=C:=by simpa using hb
  exact fp) (λb hb=>by
  obtain rfl:b=C:=by simpa using hb
  exact⟨o,ho,λv z=>by rw[hd]at z;cases z⟩)
 refine thn (hg _ _ _ _ _ _ Nx I1 r q) λ_ s2 ⟨σ2,H2,I2,q2⟩=>?_
 have pn:=I2.pin (C,o) (Yg _ (Yg _ (zd6 (by simp) ho)));refine⟨m,⟨o,es,ep,pn.1,hd,rest⟩,λh' sb=>⟨σ2,H2,?_,q2⟩⟩;obtain⟨f0,f1,f2,f3,f4,f5⟩:=fp;exact I2.unpinned.turned (t':=s2.toks) (λb ob hb e=>sb.extBut b ob hb e) pn.2.1 f1 f3 f4 f5
theorem zla{X:Cx}{N:List Str}{scope:Scope}{cl:List (Str×Addr)}{mp:List (Option Nat)}{elt tg iter:Expr}{ifs:List Expr}{wi:TI}{g:TG}{tc:TT}{te:TE}{pos pos' posA:Pos}{i:Nat}{x:Str}(hn:PG X (.Name x pos') (za0 i))(B:Blk X N scope cl mp)(hc:X.calm=true)
  (hi:PI X tg iter wi) (hg:∀C s H fp,PG (blk X N scope cl C s H fp) tg g) (ht:∀C s H fp,PTs (blk X N scope cl C s H fp) ifs tc) (he:∀C s H fp,PE (blk X N scope cl C s H fp) elt te)
  (hs:∀x,foldedSetIterable iter X.env x=pure x:=by intro _;rfl) (hsw:swapsWith (.ListComp elt [⟨tg,iter,ifs,0⟩] scope pos) (some (.Name x pos')) posA.line X.env=pure true:=by rfl) :
  PS X (.Assign [.Name x pos'] (.ListComp elt [⟨tg,iter,ifs,0⟩] scope pos) posA) (tAsg (tComp mp wi g tc te) (za0 i)):=by
 intro pins s σ H Dn I h;unfold tAsg tComp at h;rw[exec_Assign_Name_used _ _ _ _ hsw];refine Ya (wpAny_standAt (Ya ?_));show wpAny _ _ (comprehension (.ListComp elt [⟨tg,iter,ifs,0⟩] scope pos) scope X.env _ (newList []) false (eval iter X.env) (some (assign (.Name x pos') X.env)) >>= _) _ _ _;refine Ya (wpAny_comprehension_free (use:=some (assign (.Name x pos') X.env)) (cl:=cl) rfl hs B.clos B.kind B.nms (thn (hi pins s σ H _ I h) λv s1 h1=>thn h1 λitv s2 h2=>?_));obtain⟨it,fp,tn,J,H2,rfl,I2,T,st2,f2,q⟩:=h2;have lt2:∀b∈fp,b<s2.heap.objs.size:=λb hb=>let ⟨o,e,_⟩:=T.obj _ _ st2 b hb;Yn e
 obtain⟨W,⟨m0,w0⟩,turn⟩:=q _ I2.fresh;have ID:=I2.lnew (ys:=[]) (its:=[]) (t':=s2.toks) .nil (Y2 _);have fD':∀b∈fp,FpOk X pins (upd H2 s2.heap.objs.size (.lst [])) b:=λb hb=>by
  obtain⟨f0,r⟩:=f2 b hb;exact⟨by rw[zai (Y0 (lt2 b hb))];exact f0,r⟩
 refine Jo (zic B hc hg ht he ID fD' T (T.keep _ _ _ st2 λb _ o e=>Ye _ e) w0 turn λC H' σ' s' hC J' qf=>?_);have hns:∃m,s'.heap.Ns C m:=let ⟨m,hm,_⟩:=J'.loc;⟨m,hm⟩;have I3:Inv X pins σ H' { s' with heap:=s'.heap }:=zp3 ID fD' hC J' (Heap.SameBut.refl _ _);exact thn (zpz (v:=.ref s2.heap.objs.size) ID hC I3 J'.free hns hn rfl qf) λ_ s4 ⟨m,hm,q4⟩=>⟨m,hm,λh' sb=>Yb (Yb (q4 h' sb))⟩
end L2
namespace L2
open PySem PySem.Spec PyProof.Rows
def zsb(K:W.Frag):List V->Hp->VK->Prop:=λxs H Q=>∃p ys,xs=[.ref p]/\((SqL K H p ys/\∀l,H l=none->Q (.ref l) (upd H l (.tup ys)))\/(SqT K H p ys/\Q (.ref p) H))
def zvl(K:W.Frag):List V->Hp->VK->Prop:=λxs H Q=>∃p ys,xs=[.ref p]/\(SqL K H p ys\/SqT K H p ys)/\∀l,H l=none->Q (.ref l) (upd H l (.lst ys))
def zun(K:W.Frag):List V->Hp->VK->Prop:=λxs H Q=>∃p ys,xs=[.ref p]/\(SqL K H p ys\/SqT K H p ys)/\Q (.int ys.length) H
def z0j(K:W.Frag)(b:Bool):List V->Hp->VK->Prop:=λxs H Q=>∃(a:Addr) (ns:List Int),xs=[.ref a]/\SqX K b H a (ns.map V.int)/\Q (.int ns.sum) H
def zz9(K:W.Frag):List V->Hp->VK->Prop:=λxs H Q=>∃(a:Addr) (bs:List Bool),xs=[.ref a]/\SqL K H a (bs.map V.bl)/\Q (.bl (bs.all id)) H
def z0a(K:W.Frag):List V->Hp->VK->Prop:=λxs H Q=>∃(a:Addr) (bs:List Bool),xs=[.ref a]/\SqL K H a (bs.map V.bl)/\Q (.bl (bs.any id)) H
def zwu(K:W.Frag):List V->Hp->VK->Prop:=λxs H Q=>∃x y t c b,xs=[x,y]/\clV y=some c/\TyOf K H x t/\W.kitOne K t c=some b/\Q (.bl b) H
section
variable{X:Cx}{K:W.Frag}
theorem za9(hK:X.K=K):CallR X (.type "tuple") (zsb K):=by subst hK;exact zjn
theorem znd(hK:X.K=K):CallR X (.type "list") (zvl K):=by subst hK;exact zj7
theorem zbc(hK:X.K=K):CallR X (.builtin "len") (zun K):=by subst hK;exact zjt
theorem ze4(hK:X.K=K)(b:Bool)(hc:X.calm=true):CallR X (.builtin "sum") (z0j K b):=by subst hK;exact zqd b hc
theorem zf7(hK:X.K=K)(hc:X.calm=true):CallR X (.builtin "all") (zz9 K):=by subst hK;exact znw hc
theorem zn4(hK:X.K=K)(hc:X.calm=true):CallR X (.builtin "any") (z0a K):=by subst hK;exact zok hc
theorem zb2(hK:X.K=K):CallR X (.builtin "isinstance") (zwu K):=by subst hK;exact zlr
theorem zbf{e:Expr}{f:Str}{pos:Pos}{ta:TE}(hK:X.K=K)(he:PE X e ta)(hb:attributeBase e f X.env (eval e X.env)=eval e X.env):PE X (.Attribute e f pos) (tFld K ta f):=by subst hK;exact zxj he hb
theorem zce{tg l:Expr}{tl:TE}(hK:X.K=K)(hl:PE X l tl):PI X tg l (zuo K tl):=by subst hK;exact zv7 hl
theorem zw2{tg l:Expr}{tl:TE}(hK:X.K=K)(hl:PE X l tl):PI X tg l (iTup K tl):=by subst hK;exact zyn hl
theorem ziy{es:List Expr}{ek:Nat}{tpos p pos:Pos}(hK:X.K=K)(b1 b2:Bool){e1 e2:Expr}{ta:TA}(hg:Gl X "zip")(hm:X.mg "zip" = none)(ha:PA X [e1,e2] ta)
  (he:starEach [e1,e2] X.env=(false,eval e1 X.env)::starEach [e2] X.env:=by rfl) (hpl:(backTo pos (starEach [e2] X.env)).any (·.1)=false:=by rfl) :
  PI X (.Tuple es ek tpos) (.Call (.Name "zip" p) [e1,e2] [] pos) (iZip K b1 b2 ta):=by subst hK;exact zyc b1 b2 hg hm ha he hpl
theorem znx{tg:Expr}{p pos:Pos}{e1:Expr}{ta:TA}(hK:X.K=K)(hg:Gl X "reversed")(hm:X.mg "reversed" = none)(ha:PA X [e1] ta)
  (he:starEach [e1] X.env=(false,eval e1 X.env)::starEach [] X.env:=by rfl) (hpl:(backTo pos (starEach [] X.env)).any (·.1)=false:=by rfl) :
  PI X tg (.Call (.Name "reversed" p) [e1] [] pos) (iRvd K ta):=by subst hK;exact zx2 hg hm ha he hpl
theorem ziu(hK:X.K=K):SlR X (rSlL K):=by subst hK;exact zuy
end
end L2
set_option Elab.async false
set_option linter.all false
set_option maxRecDepth 100000
namespace L2
open PySem PySem.Spec PyProof.Rows
structure BMeth(K:W.Frag)(m:Str)(f:Addr):Prop where
 get:W.specialIn K (.ref f) "__get__" = some (some (.builtin "function.__get__"))
 tk:W.takesIn K (.ref f)=some false
 cp:W.copiedNames.contains m=false
theorem zkz{K:W.Frag}{C f:Addr}{name:Str}{od:Obj}{g:Value}(hh:W.hasDictIn K C=true)(ha:W.findIn K (.ref C) name=some (some (.ref f)))(hg:W.specialIn K (.ref f) "__get__" = some (some g))
  (ht:W.takesIn K (.ref f)=some false) (hc:W.copiedNames.contains name=false) (hl:W.lookIn name od=some none):W.findObj K C (some od) name=some (.bind g (.ref f)):=by
 obtain⟨cd,hc',hd⟩:=W.any_some hh;unfold W.findObj;have ho:W.ownOf cd (some od) name=some none:=by unfold W.ownOf;rw[Yl hd];exact hl
 rw[hc',Option.bind_some,ha,Option.bind_some];simp only[hg,ht,Option.bind_some,ho,hc,Bool.false_and,Bool.false_eq_true,if_false]
section
variable{X:Cx}{pins:List (Addr×Obj)}{σ : St}{H:Hp}{s:Shared}{a C dx:Addr}{fs:List (Str×V)}{m:Str}{f:Addr}{A:Around}{E:Value->Shared->Prop}
theorem zoh{b:Bool}{Q:Value->Shared->Prop}(I:Inv X pins σ H s)(e:H a=some (.ins C dx fs))(c:Cls X.K C)(k:Meth X.K C m f)(kb:BMeth X.K m f)(l:fs.lookup m=none)
  (h:Q (.ref s.heap.objs.size) { s with heap:=s.heap.push (W.methodObj (.ref f) (.ref a)),toks:=s.toks+1 }):wpAny (model X.prog X.w) A (getAttr (.ref a) m b) Q E s:=by
 obtain⟨mA,O,r,_,_,_⟩:=zhs I.hok e;have hn:mA m=none:=RelO.none_of (by rw[<- l];exact r m);obtain⟨od,J,hl⟩:=O.look;refine W.get_bind I.kIn J (W.plainGet_of (c.get m)).1 (zkz c.hd k.at_ kb.get kb.tk kb.cp (by rw[hl,hn])) (W.plainGet_of (c.get m)).2 ?_;exact wpAny_call (W.fn_get (s:={ s with toks:=s.toks+1 }) I.kIn (beq_iff_eq.mp k.fn) (W.handed_on rfl h))
theorem Inv.repin{pa pb:List (Addr×Obj)}{b:Addr}{o o':Obj}{t':Nat}{h':Heap}{H₁:Hp}(I:Inv X (pa++(b,o)::pb) σ H s)(f:FpOk X (pa++pb) H₁ b)(k:∀c u,c≠b->s.heap.get? c=some u->h'.get? c=some u)
  (e:h'.get? b=some o') (hc:∀v,o'.data≠.cell v):Inv X (pa++(b,o')::pb) σ H { s with heap:=h',toks:=t' }:=by
 have pb':=I.pin (b,o) (Yg _ (Yg _ (.head _)));have I1:Inv X (pa++pb) σ H s:=I.pins_of λp hp=>I.pin p (Yg _ ((Jv.mp hp).elim (λz=>List.mem_append_left _ z) λz=>Yg _ (.tail _ z)))
 have I2:=I1.turned (t':=t') (h':=h') (it:=b) k pb'.2.1 f.2.1 f.2.2.2.1 f.2.2.2.2.1 f.2.2.2.2.2;refine I2.pins_of λp hp=>?_
 rcases Jv.mp hp with z | z
 ·exact I2.pin p (Yg _ (List.mem_append_left _ z))
 ·rcases Yj.mp z with rfl | z
  ·exact⟨e,pb'.2.1,f.2.1,f.2.2.1,hc⟩
  ·exact I2.pin p (Yg _ (Yg _ z))
theorem FpOk.more{pa:List (Addr×Obj)}{b:Addr}(f:FpOk X pins H b)(h:∀p∈pa,p.1≠b):FpOk X (pa++pins) H b:=by
 refine⟨f.1,f.2.1,f.2.2.1,f.2.2.2.1,f.2.2.2.2.1,λp hp=>?_⟩;rcases Jv.mp hp with z | z
 ·exact f.2.2.2.2.2 p (List.mem_append_left _ z)
 ·rcases Jv.mp z with z | z
  ·exact h p z
  ·exact f.2.2.2.2.2 p (Yg _ z)
end
def BRun(X:Cx)(q f a:Addr)(sp:V->Hp->VK->Prop):Prop:=∀(pins:List (Addr×Obj)) (s:Shared) (σ : St) (H:Hp) (Q:VK) (x:V) (u:Value),Inv X pins σ H s->(q,W.methodObj (.ref f) (.ref a))∈pins->RelV x u->sp x H Q ->
 wpAny (model X.prog X.w) X.A.in1 (call (.ref q) [u]) (EP X pins σ Q) (λ_ _=>False) s
theorem zut{X:Cx}{k:Nat}{f:Addr}{fd:FuncData}{ps:List Str}{sp:Sp}{dvs:List V}{ds:List Value}{q a:Addr}(F:FnOk X.prog X.w X.K X.mg X.base CX0 k f fd ps sp)(hr:Room (k+1) X.A)(hb:Binds X.K fd ps ds)(hd:Vals dvs ds) :
  BRun X q f a λx H Q=>sp (.ref a::x::dvs) H Q E0:=by
 intro pins s σ H Q x u I hq rx h;have r2:Vals (.ref a::x::dvs) ([.ref a,u]++ds):=.cons rfl (.cons rx hd);have hl:([.ref a,u]++ds).length=ps.length:=by rw[<- r2.length];exact F.len _ _ _ _ h
 have ho:=(I.pin _ (Yg _ hq)).1;refine wpAny_call (W.method_call ho ?_);refine codeAny_mono (F.run X.A.in1 X.stack s H ⟨[.ref a,u],[]⟩ ([.ref a,u]++ds) (.ref a::x::dvs) Q E0 hr.in1 I.env0.in1 (hb s [.ref a,u] I.kIn hl) r2 h) λr s' hq=>?_
 match r,hq with
 | .error e,hq=>exact Jf hq
 | .ok (.ret u),hq=>exact I.after hq
 | .ok .next,hq=>exact Jf hq
 | .ok .brk,hq=>exact Jf hq
 | .ok .cont,hq=>exact Jf hq
def mxGo(K:W.Frag)(l:Addr)(all:List V)(sp:V->Hp->VK->Prop):List V->V->V->Hp->VK->Prop
 | [],b,_,H,Q=>Q b H
 | x::xs,b,kb,H,Q=>sp x H λk H1=>H1 l=some (.lst all)/\∃(a c:Addr) (ns ms:List Int),k=.ref a/\kb=.ref c/\SqT K H1 a (ns.map V.int)/\SqT K H1 c (ms.map V.int) /\
  (HT.lexLt ms ns=true->mxGo K l all sp xs x k H1 Q)/\(HT.lexLt ms ns=false->mxGo K l all sp xs b kb H1 Q)
def zj0(K:W.Frag)(l:Addr)(all:List V)(sp:V->Hp->VK->Prop):List V->Hp->VK->Prop
 | [],_,_=>False
 | x::xs,H,Q=>sp x H λk H1=>H1 l=some (.lst all)/\mxGo K l all sp xs x k H1 Q
section
variable{X:Cx}{pins:List (Addr×Obj)}{σ : St}{l q It S f a:Addr}{all:List V}{sp:V->Hp->VK->Prop}{Q:VK}{H₁:Hp}
theorem zty{xs:List V}{us:List Value}(r:Vals xs us):∀{i:Nat} {x:V},xs[i]? = some x->∃u,us[i]? = some u/\RelV x u:=by
 induction r with
 | nil=>intro i x h;simp at h
 | cons r1 _ ih=>
  intro i x h
  cases i with
  | zero=>simp at h;subst h;exact⟨_,rfl,r1⟩
  | succ i=>simp at h;obtain⟨u,e,z⟩:=ih h;exact⟨u,by simpa using e,z⟩
end
end L2
namespace L2
open PySem PySem.Spec PyProof.Rows
structure BM(K:W.Frag)(C:Addr)(m:Str):Prop where
 ex:∃f,W.findIn K (.ref C) m=some (some (.ref f))/\BMeth K m f
def z0v(K:W.Frag)(C:Addr)(m:Str)(sp:Sp)(dvs:List V)(te ta:TE):TE:=λσ H Q=>te σ H λv H1=>ta σ H1 λo H2=>∃(a dx:Addr) (fs:List (Str×V)) (l:Addr) (all:List V),o=.ref a/\H2 a=some (.ins C dx fs)/\fs.lookup m=none /\
 v=.ref l/\H2 l=some (.lst all)/\zj0 K l all (λx H Q=>sp (.ref a::x::dvs) H Q E0) all H2 Q
section
variable{X:Cx}{k j:Nat}{C:Addr}{ps:List Str}{sp:Sp}{dvs:List V}{ds:List Value}{m:Str}{p pos apos kpos:Pos}{e o:Expr}{te ta:TE}
theorem Inv.pinNew{pins:List (Addr×Obj)}{σ : St}{H:Hp}{s:Shared}{ob:Obj}{t':Nat}(I:Inv X pins σ H s)(hf:ob.isFreed=false)(hc:∀v,ob.data≠.cell v):Inv X ((s.heap.objs.size,ob)::pins) σ H { s with heap:=s.heap.push ob,toks:=t' }:=by
 have I1:Inv X pins σ H { s with heap:=s.heap.push ob,toks:=t' }:=I.kept λb u e=>Ye _ e
 refine I1.pins_of λq hq=>?_
 rcases Yj.mp hq with rfl | hq
 ·exact⟨Yk _ hf,I.hok.fresh (Yi _),Nat.ne_of_gt I.lt,I.nofs (Yi _),hc⟩
 ·exact I1.pin q (Yg _ hq)
def BRunO(X:Cx)(σ : St)(q:Addr)(oq:Obj)(sp:V->Hp->VK->Prop):Prop:=∀(pins:List (Addr×Obj)) (s:Shared) (H:Hp) (Q:VK) (x:V) (u:Value),Inv X pins σ H s->(q,oq)∈pins->RelV x u->sp x H Q ->
 wpAny (model X.prog X.w) X.A.in1 (call (.ref q) [u]) (EP X pins σ Q) (λ_ _=>False) s
section
variable{X:Cx}{pins:List (Addr×Obj)}{σ : St}{l q It S:Addr}{oq:Obj}{all:List V}{sp:V->Hp->VK->Prop}{Q:VK}{H₁:Hp}
theorem zvm(hh:X.A.handled=none)(hu:X.A.units+1<cLine)(B:BRunO X σ q oq sp)(hlI:l≠It)(hSI:S≠It)(hqI:q≠It)(hqS:q≠S)(fI:FpOk X pins H₁ It)(fS:FpOk X pins H₁ S) :
  ∀(rest:List V) (j:Nat) (b kb:V) (ub ukb:Value) (c:Nat) (oI:Obj) (H:Hp) (s:Shared),all.drop (j+1)=rest->mxGo X.K l all sp rest b kb H Q->H l=some (.lst all) ->
   Inv X ((It,oI)::(S,seqObj "list" #[ub,ukb] c)::(q,oq)::pins) σ H s->s.heap.IsListIter It l (j+1)->RelV b ub->RelV kb ukb ->
   codeAny (model X.prog X.w) X.A (.builtin "max.loop" ⟨[.ref It,.ref q,.ref S],[]⟩) (λr s'=>match r with | .ok (.ret v)=>EP X pins σ Q v s' | .ok _=>False | .error e=>X.xe e s') s:=by
 have hname:(toString "max" ++ toString ".loop" : String) = "max.loop":=by decide
 intro rest;induction rest with
 | nil=>
  intro j b kb ub ukb c oI H s hdrop hgo hH I hit rb rkb;have hlen:all.length<=j+1:=List.drop_eq_nil_iff.mp hdrop;obtain⟨its,n,rv,hl,_⟩:=I.lst hH;have hls:s.heap.IsList l its.toArray:=⟨_,hl,rfl,n,rfl⟩;have nS:=I.pin (S,seqObj "list" #[ub,ukb] c) (Yg _ (.tail _ (.head _)));refine codeAny_builtin PySem.F.entry_max_loop ?_;rw[Around.under_plainId PySem.F.plain_max_loop _];show wpAny _ X.A.in1 (seqItems? (.ref S) >>= _) _ _ _;refine Ya (Js nS.1 rfl ?_);show wpAny _ X.A.in1 (tryCatch (pyNext (.ref It)) _ >>= _) _ _ _;refine Ya (Jt (wpAny_pyNext_list_end (A:=X.A.in1) hh hit hls (by rw[List.getElem?_toArray,Yy];rw[<- rv.length];exact hlen) λh' he'=>?_));have pI:=I.pin (It,oI) (Yg _ (.head _));have I1:Inv X ((S,seqObj "list" #[ub,ukb] c)::(q,oq)::pins) σ H s:=I.pins_of λp hp=>I.pin p (Yg _ (.tail _ hp))
  have fI':=fI.more (pa:=[(S,seqObj "list" #[ub,ukb] c),(q,oq)]) (by simp[hSI,hqI]);have I2:=I1.turned (t':=s.toks) (h':=h') (it:=It) (λb' o hb e=>he' b' o hb e) pI.2.1 fI'.2.1 fI'.2.2.2.1 fI'.2.2.2.2.1 fI'.2.2.2.2.2;have nS2:=I2.pin (S,seqObj "list" #[ub,ukb] c) (Yg _ (.head _));show wpAny _ X.A.in1 (updateSeq S (λ_ => #[]) >>= _) _ _ _;refine Ya ?_;refine wpAny_updateSeq nS2.1 rfl (Ya (wpAny_letGo (Yb ?_)));have fS':=fS.more (pa:=[(q,oq)]) (by simp[hqS]);have I3:Inv X ((q,oq)::pins) σ H { s with heap:=h' }:=I2.pins_of λp hp=>I2.pin p (Yg _ (.tail _ hp))
  have sb:=Heap.SameBut.update h' S (Obj.mapSeq λ_=>(#[]:Array Value));have I4:=I3.turned (t':=s.toks) (h':=h'.update S (Obj.mapSeq λ_ => #[])) (it:=S) (λb' o hb e=>(sb.2 b' hb).trans e) nS2.2.1 fS'.2.1 fS'.2.2.2.1 fS'.2.2.2.2.1 fS'.2.2.2.2.2;exact⟨b,H,I4.pins_of λp hp=>I4.pin p (Yg _ (.tail _ hp)),rb,hgo⟩
 | cons x xs ih=>
  intro j b kb ub ukb c oI H s hdrop hgo hH I hit rb rkb;have hx:all[j+1]? = some x:=by rw[<- List.head?_drop,hdrop];rfl
  have hdrop':all.drop (j+1+1)=xs:=by rw[<- List.tail_drop,hdrop];rfl
  obtain⟨its,n,rv,hl,_⟩:=I.lst hH;have hls:s.heap.IsList l its.toArray:=⟨_,hl,Z,n,Z⟩;obtain⟨u,hu',ru⟩:=zty rv hx;have nS:=I.pin (S,seqObj "list" #[ub,ukb] c) (Yg _ (.tail _ (.head _)));refine codeAny_builtin PySem.F.entry_max_loop ?_;rw[Around.under_plainId PySem.F.plain_max_loop _];show wpAny _ X.A.in1 (seqItems? (.ref S) >>= _) _ _ _;refine Ya (Js nS.1 rfl ?_);show wpAny _ X.A.in1 (tryCatch (pyNext (.ref It)) _ >>= _) _ _ _;refine Ya (Jt (wpAny_pyNext_list_item hit hls (x:=u) (by rw[List.getElem?_toArray];exact hu') λh' hit' hs'=>?_));obtain⟨oI',hoI',hoc,hod⟩:=id hit';have fI':=fI.more (pa:=[(S,seqObj "list" #[ub,ukb] c),(q,oq)]) (by simp[hSI,hqI]);have I1:Inv X ((It,oI')::(S,seqObj "list" #[ub,ukb] c)::(q,oq)::pins) σ H { s with heap:=h' }:=
   Inv.repin (pa:=[]) (t':=s.toks) I fI' (λb' o hb e=>(hs'.2 b' hb).trans e) hoI' (by intro v z;rw[hod]at z;cases z)
  show wpAny _ X.A.in1 (tryCatch (holding [u] (call (.ref q) [u])) _ >>= _) _ _ _;refine Ya (Jt (Jr (wpAny_mono (B _ _ H _ x u I1 (.tail _ (.tail _ (.head _))) ru hgo) (λuk s2 he=>?_) λ_ _ hF=>hF.elim)));obtain⟨k,H1,I2,rk,hH1,a',c',ns,ms,rfl,rfl,ha',hc',h1,h2⟩:=he;obtain rfl:uk=Value.ref a':=rk;obtain rfl:ukb=Value.ref c':=rkb;obtain⟨it1,r1,p1,_⟩:=I2.tuple ha';obtain⟨it2,r2,p2,_⟩:=I2.tuple hc';have i1:IntsAre it1.toArray.toList ns:=zea r1;have i2:IntsAre it2.toArray.toList ms:=zea r2;have nS2:=I2.pin (S,seqObj "list" #[ub,.ref c'] c) (Yg _ (.tail _ (.head _)));have nI2:=I2.pin (It,oI') (Yg _ (.head _));have hit2:s2.heap.IsListIter It l (j+1+1):=⟨oI',nI2.1,hoc,hod⟩;show wpAny _ X.A.in1 (tryCatch (holding [u,.ref a'] (richCompare .Gt (.ref a') (.ref c') >>= _)) _ >>= _) _ _ _;refine Ya (Jt (Jr (Ya (HT.gt_tupInts (A:=X.A.in1) p1 p2 i1 i2 hu ?_))));refine Ya (Jr (Jq ?_));refine Ya (wpAny_letGo (Yb ?_))
  cases hb:HT.lexLt ms ns with
  | true=>
   have sb:=Heap.SameBut.update s2.heap S (Obj.mapSeq λ_ => #[u,.ref a']);obtain⟨c2,hc2⟩:∃c2,(s2.heap.update S (Obj.mapSeq λ_ => #[u,.ref a'])).get? S=some (seqObj "list" #[u,.ref a'] c2):=⟨_,get?_update_seq nS2.1 λ_ => #[u,.ref a']⟩;simp only[if_true];refine Ya ?_;refine wpAny_updateSeq nS2.1 rfl (Ya (wpAny_letGo ?_));rw[hname];have fS':FpOk X ((It,oI')::(q,oq)::pins) H₁ S:=fS.more (pa:=[(It,oI'),(q,oq)]) (by simp[hSI.symm,hqS]);have I3:Inv X ((It,oI')::(S,seqObj "list" #[u,.ref a'] c2)::(q,oq)::pins) σ H1 { s2 with heap:=s2.heap.update S (Obj.mapSeq λ_ => #[u,.ref a']) }:=
    Inv.repin (pa:=[(It,oI')]) (t':=s2.toks) I2 fS' (λb' o hb' e=>(sb.2 b' hb').trans e) hc2 (by intro v z;cases z)
   exact Yb ⟨plainId_quiet PySem.F.plain_max_loop _,ih (j+1) x (.ref a') u (.ref a') c2 oI' H1 _ hdrop' (h1 hb) hH1 I3 ⟨oI',(sb.2 It hSI.symm).trans nI2.1,hoc,hod⟩ ru rfl⟩
  | false=>
   simp only[Bool.false_eq_true,if_false]
   refine Ya (wpAny_letGo ?_);rw[hname];exact Yb ⟨plainId_quiet PySem.F.plain_max_loop _,ih (j+1) b (.ref c') ub (.ref c') c oI' H1 _ hdrop' (h2 hb) hH1 I2 hit2 rb rfl⟩
end
section
variable{X:Cx}{j:Nat}
theorem zmu{pins:List (Addr×Obj)}{σ : St}{H:Hp}{s:Shared}{q l:Addr}{oq:Obj}{all:List V}{sp:V->Hp->VK->Prop}{Q:VK}(hr:Room j X.A)(B:BRunO X σ q oq sp)(I:Inv X ((q,oq)::pins) σ H s)
  (hH:H l=some (.lst all)) (h:zj0 X.K l all sp all H Q):wpAny (model X.prog X.w) X.A (call (.builtin "max") [.ref l] [(Str.ofString "key",.ref q)]) (EP X pins σ Q) X.xe s:=by
 have hname:(toString "max" ++ toString ".loop" : String) = "max.loop":=by decide
 have hh:X.A.handled=none:=hr.hd;have hu:X.A.units+1<cLine:=by have:=hr.un;omega
 cases all with
 | nil=>exact Jf h
 | cons x xs=>
  obtain⟨its,n,rv,hl,_⟩:=I.lst hH;have hls:s.heap.IsList l its.toArray:=⟨_,hl,Z,n,Z⟩;have hll:l<s.heap.objs.size:=Yn hl;refine kmk_tree PySem.F.kind_max PySem.F.plain_max PySem.F.entry_max (kmk_max_key _ _) ?_;show wpAny _ X.A.in1 (Builtin.Builtins.bindParams "max" ["key","default"] 0 ⟨[],[(Str.ofString "key",.ref q)]⟩ >>= _) _ _ s;refine Ya (wpAny_of_eq (show Builtin.Builtins.bindParams "max" ["key","default"] 0 ⟨[],[(Str.ofString "key",.ref q)]⟩=pure [some (.ref q),none] from rfl) ?_);refine Ya (Yb ?_);refine Ya (wpAny_pyIter_list hls ?_);refine Ya (wpAny_newList ?_ (Y2 _));rw[hname];have hS:(s.heap.push { cls:=.type "list_iterator",data:=.fields #[.ref l,.int 0 0] }).objs.size=s.heap.objs.size+1:=size_push' ..;have nq:=I.pin (q,oq) (Yg _ (.head _));have hqz:q<s.heap.objs.size:=Yn nq.1;have I0:Inv X pins σ H s:=I.pins_of λp hp=>I.pin p (Yg _ (.tail _ hp))
  have Ia:Inv X ((s.heap.objs.size,{ cls:=.type "list_iterator",data:=.fields #[.ref l,.int 0 0] })::(q,oq)::pins) σ H { s with heap:=s.heap.push { cls:=.type "list_iterator",data:=.fields #[.ref l,.int 0 0] } }:=I.pinNew (t':=s.toks) rfl (by intro v z;cases z);have Ib:=Ia.pinNew (t':=s.toks) (ob:=seqObj "list" #[] 0) rfl (by intro v z;cases z);have fI:FpOk X pins H s.heap.objs.size:=I0.fpOk (Yi _) (I.hok.fresh (Yi _));have fS:FpOk X pins H (s.heap.push { cls:=.type "list_iterator",data:=.fields #[.ref l,.int 0 0] }).objs.size:=I0.fpOk (by rw[hS];exact Nat.le_succ _) (I.hok.fresh (by rw[hS];exact Nat.le_succ _));generalize hS0:(s.heap.push { cls:=.type "list_iterator",data:=.fields #[.ref l,.int 0 0] }).objs.size=S at *;have hlI:l≠s.heap.objs.size:=Y0 hll;have hqI:q≠s.heap.objs.size:=Y0 hqz;have hSI:S≠s.heap.objs.size:=by rw[hS];exact Nat.ne_of_gt (Nat.lt_succ_self _)
  have hqS:q≠S:=by rw[hS];exact Y0 (Nat.lt_succ_of_lt hqz)
  refine Yb ⟨plainId_quiet PySem.F.plain_max_loop _,?_⟩;have nS:=Ib.pin (S,seqObj "list" #[] 0) (Yg _ (by rw[<- hS0];exact .head _));have nI:=Ib.pin (s.heap.objs.size,_) (Yg _ (.tail _ (.head _)));obtain⟨its',n',rv',hl',_⟩:=Ib.lst hH;have hls':((s.heap.push { cls:=.type "list_iterator",data:=.fields #[.ref l,.int 0 0] }).push (seqObj "list" #[] 0)).IsList l its'.toArray:=⟨_,hl',Z,n',Z⟩;obtain⟨u,hu',ru⟩:=zty (i:=0) rv' rfl;refine codeAny_builtin PySem.F.entry_max_loop ?_;rw[Around.under_plainId PySem.F.plain_max_loop _];show wpAny _ X.A.in1 (seqItems? (.ref S) >>= _) _ _ _;refine Ya (Js nS.1 rfl ?_);show wpAny _ X.A.in1 (tryCatch (pyNext (.ref s.heap.objs.size)) _ >>= _) _ _ _;refine Ya (Jt (wpAny_pyNext_list_item (i:=0) ⟨_,nI.1,Z,Z⟩ hls' (x:=u) (by rw[List.getElem?_toArray];exact hu') λh' hit' hs'=>?_));obtain⟨oI',hoI',hoc,hod⟩:=id hit';have Ic:Inv X ((s.heap.objs.size,oI')::(S,seqObj "list" #[] 0)::(q,oq)::pins) σ H { s with heap:=h' }:=by
   have fI':FpOk X ([(S,seqObj "list" #[] 0)]++(q,oq)::pins) H s.heap.objs.size:=fI.more (pa:=[(S,seqObj "list" #[] 0),(q,oq)]) (by simp[hSI,hqI]);have Iz:=Inv.repin (pa:=[(S,seqObj "list" #[] 0)]) (t':=s.toks) (h':=h') Ib fI' (λb' o hb e=>(hs'.2 b' hb).trans e) hoI' (by intro v z;rw[hod]at z;cases z);refine Iz.pins_of λp hp=>Iz.pin p (Yg _ ?_)
   rcases Yj.mp hp with rfl | hp
   ·exact .tail _ (.head _)
   ·rcases Yj.mp hp with rfl | hp
    ·exact .head _
    ·exact .tail _ (.tail _ hp)
  show wpAny _ X.A.in1 (tryCatch (holding [u] (call (.ref q) [u])) _ >>= _) _ _ _;refine Ya (Jt (Jr (wpAny_mono (B _ _ H _ x u Ic (.tail _ (.tail _ (.head _))) ru h) (λuk s2 he=>?_) λ_ _ hF=>hF.elim)));obtain⟨kv,H1,I2,rk,hH1,hgo⟩:=he;have nS2:=I2.pin (S,seqObj "list" #[] 0) (Yg _ (.tail _ (.head _)));have nI2:=I2.pin (s.heap.objs.size,oI') (Yg _ (.head _));have sb:=Heap.SameBut.update s2.heap S (Obj.mapSeq λ_ => #[u,uk]);obtain⟨c2,hc2⟩:∃c2,(s2.heap.update S (Obj.mapSeq λ_ => #[u,uk])).get? S=some (seqObj "list" #[u,uk] c2):=⟨_,get?_update_seq nS2.1 λ_ => #[u,uk]⟩;show wpAny _ X.A.in1 (updateSeq S (λ_ => #[u,uk]) >>= _) _ _ _;refine Ya ?_;refine wpAny_updateSeq nS2.1 rfl ?_;rw[hname];have fS':FpOk X ((s.heap.objs.size,oI')::(q,oq)::pins) H S:=fS.more (pa:=[(s.heap.objs.size,oI'),(q,oq)]) (by simp[hSI.symm,hqS]);have I3:Inv X ((s.heap.objs.size,oI')::(S,seqObj "list" #[u,uk] c2)::(q,oq)::pins) σ H1 { s2 with heap:=s2.heap.update S (Obj.mapSeq λ_ => #[u,uk]) }:=
   Inv.repin (pa:=[(s.heap.objs.size,oI')]) (t':=s2.toks) I2 fS' (λb' o hb' e=>(sb.2 b' hb').trans e) hc2 (by intro v z;cases z)
  exact Yb ⟨plainId_quiet PySem.F.plain_max_loop _,zvm (H₁:=H) hh hu B hlI hSI hqI hqS fI fS xs 0 x kv u uk c2 oI' H1 _ rfl hgo hH1 I3 ⟨oI',(sb.2 _ hSI.symm).trans nI2.1,hoc,hod⟩ ru rk⟩
end
theorem zva{pins:List (Addr×Obj)}{σ : St}{H:Hp}{s:Shared}{q f a l:Addr}{all:List V}{sp:V->Hp->VK->Prop}{Q:VK}(hr:Room j X.A)(B:BRun X q f a sp)(I:Inv X ((q,W.methodObj (.ref f) (.ref a))::pins) σ H s)
  (hH:H l=some (.lst all)) (h:zj0 X.K l all sp all H Q):wpAny (model X.prog X.w) X.A (call (.builtin "max") [.ref l] [(Str.ofString "key",.ref q)]) (EP X pins σ Q) X.xe s:=zmu hr (λpins s H Q x u I hq rx h=>B pins s σ H Q x u I hq rx h) I hH h
theorem zvi(c:MCal X.prog X.w X.K X.mg X.base CX0 k C m ps ds sp)(b:BM X.K C m)(he:PE X e te)(ho:PE X o ta)(hr:Room j X.A)(hd:Vals dvs ds)(hm:X.mg ("max" : Str)=none)(hk:k+1<=j:=by decide)(hg:Gl X "max":=by rfl)
  (hb:attributeBase o m X.env (eval o X.env)=eval o X.env:=by rfl) (hs:starEach [e] X.env=(false,eval e X.env)::starEach [] X.env:=by rfl) :
  PE X (.Call (.Name "max" p) [e] [⟨some "key",.Attribute o m apos,kpos⟩] pos) (z0v X.K C m sp dvs te ta):=by
 obtain⟨f,fd,F,hbi,hme⟩:=c.ex;obtain⟨f',ef,kb⟩:=b.ex;have:f'=f:=by have z:=hme.at_;rw[ef]at z;injection z with z;injection z with z;injection z
 subst this;intro pins s σ H Q I h;refine wpAny_Call_Name_kw (zft I hg hm boot_max ?_);have h':zvj te tNil σ H (λvs H1=>match vs with
   | [v]=>ta σ H1 λo H2=>∃(a dx:Addr) (fs:List (Str×V)) (l:Addr) (all:List V),o=.ref a/\H2 a=some (.ins C dx fs)/\fs.lookup m=none /\
     v=.ref l/\H2 l=some (.lst all)/\zj0 X.K l all (λx H Q=>sp (.ref a::x::dvs) H Q E0) all H2 Q
   | _=>False):=h
 refine callWith_kw (thn ((zaa he zac hs) pos pins s σ H _ I h') λus s1 ⟨vs,H1,I1,r1,q1⟩=>?_) (by rw[hs];rfl) (by rw[hs];rfl)
 cases r1 with
 | nil=>exact Jf q1
 | cons ru rr=>
  cases rr with
  | cons _ _=>exact Jf q1
  | nil=>
   refine kwAll_cons (zpn hb (thn (ho pins s1 σ H1 _ I1 q1) λuo s2 ⟨ov,H2,I2,ro,a,dx,fs,l,all,eo,ea,el,ev,eh,hmx⟩=>?_));subst eo;subst ev
   cases ro
   cases ru;refine zoh I2 ea c.cl hme kb el (kwAll_nil ?_);have I3:=I2.pinNew (t':=s2.toks+1) (ob:=W.methodObj (.ref f') (.ref a)) rfl (by intro v z;cases z);exact zva hr (zut F (hr.mono hk) hbi hd) I3 eh hmx
end
end L2
set_option Elab.async false
set_option linter.all false
set_option maxRecDepth 100000
namespace L2
open PySem PySem.Spec PyProof.Rows
theorem zr1{J:It}{H1:Hp}{n:Nat}{P:Nat->V->Hp->Prop}{g:TG}{tc:TT}{te:TE}{Q:VK}{σ0:St}{D:Addr}(S:Walk J H1 n P)(hD:H1 D=none)(hn:n<=sizeLine)(Sv:St->Prop)(p:Nat->Bool)(F:Nat->V->Hp->Prop)
  (monoS:∀i v H H',Same H H'->F i v H->F i v H') (monoU:∀i v H ys ys',H D=some (.lst ys)->F i v H->F i v (upd H D (.lst ys'))) (h0:Sv σ0)
  (step:∀i x σ' H2,i<n->Sv σ'->Same H1 H2->P i x H2->(∃ys,H2 D=some (.lst ys))->∀(Ny:V->St->Hp->Prop) (Nn:St->Hp->Prop),(∀v σ2 H5,Sv σ2->Same H2 H5->F i v H5->p i=true->Ny v σ2 H5)->(∀σ2 H4,Sv σ2->Same H2 H4->p i=false->Nn σ2 H4) ->
   g x σ' H2 λσ2 H3=>tc σ2 H3 λb H4=>if b=true then te σ2 H4 λv H5=>Ny v σ2 H5 else Nn σ2 H4)
  (hQ:∀H' ys,Same H1 H'->H' D=some (.lst ys)->Paired (λi v=>F i v H') ((List.range n).filter p) ys->Q (.ref D) H') :
  ∃W:Nat->Nat->List V->St->Hp->Prop,(∃m,W 0 m [] σ0 (upd H1 D (.lst [])))/\∀i m ys σ' H',W i m ys σ' H'->H' D=some (.lst ys) /\
  ((J.stop i H'/\Q (.ref D) H')\/(J.go i H'/\ys.length<sizeLine/\∀x H2,J.yld i H' x H2->g x σ' H2 λσ2 H3=>tc σ2 H3 λb H4=>
   if b=true then te σ2 H4 λv H5=>H5 D=some (.lst ys)/\∃m',m'<m/\W (i+1) m' (ys++[v]) σ2 (upd H5 D (.lst (ys++[v])))
   else ∃m',m'<m/\W (i+1) m' ys σ2 H4)):=by
 refine⟨λi m ys σ' H'=>m=n-i/\i<=n/\Sv σ'/\Same H1 H'/\H' D=some (.lst ys)/\Paired (λj v=>F j v H') ((List.range i).filter p) ys,⟨n,Z,Y2 _,h0,Same.upd hD,zab,.nil⟩,?_⟩;rintro i m ys σ' H' ⟨rfl,hi,hs,hS,hL,hF⟩;refine⟨hL,?_⟩;have rs:(List.range (i+1)).filter p=(List.range i).filter p++(if p i=true then [i] else []):=by
  rw[List.range_succ,List.filter_append]
  cases q:p i <;> simp[q]
 by_cases hlt:i<n
 ·refine .inr ⟨S.go i H' hS hlt,?_,λx H2 y=>?_⟩
  ·have l1:=hF.length;have l2:((List.range i).filter p).length<=(List.range i).length:=List.length_filter_le _ _;rw[List.length_range]at l2;omega
  ·obtain⟨e2,hP⟩:=S.yld i H' x H2 hS hlt y;refine step i x σ' H2 hlt hs (hS.trans e2) hP ⟨ys,e2 _ _ hL⟩ _ _ (λv σ2 H5 s2 e5 f5 hp=>?_) λσ2 H4 s2 e4 hp=>?_
   ·have l5:H5 D=some (.lst ys):=e5 _ _ (e2 _ _ hL);refine⟨l5,n-(i+1),by omega,Z,hlt,s2,((hS.trans e2).trans e5).updR hD,zab,?_⟩;rw[rs,Yl hp];refine Paired.snoc (Paired.imp' (λj w q=>?_) hF) (monoU i v H5 ys _ l5 f5);exact monoU j w H5 ys _ l5 (monoS j w H' H5 (e2.trans e5) q)
   ·refine⟨n-(i+1),by omega,Z,hlt,s2,(hS.trans e2).trans e4,e4 _ _ (e2 _ _ hL),?_⟩;rw[rs,Yh (by rw[hp];decide),List.append_nil];exact Paired.imp' (λj w q=>monoS j w H' H4 (e2.trans e4) q) hF
 ·have e:i=n:=by omega
  subst e;exact .inl ⟨S.stop H' hS,hQ H' ys hS hL hF⟩
end L2
set_option Elab.async false
set_option linter.all false
set_option maxRecDepth 100000
namespace L2
open PySem PySem.Spec PyProof.Rows
section
variable{κ : Type}[DecidableEq κ]
def valV(kvs:List (κ×V))(k : κ):Option V:=(kvs.find? λkv=>decide (kv.1=k)).map (·.2)
def putK(kvs:List (κ×V))(k : κ)(v:V):List (κ×V):=
 if (kvs.any λkv=>decide (kv.1=k))=true then kvs.map (λkv=>if kv.1=k then(kv.1,v) else kv) else kvs++[(k,v)]
def ze0(kvs:List (κ×V))(k : κ):List (κ×V):=kvs.filter λkv=>decide (kv.1≠k)
theorem zrw{k : κ}:valV ([]:List (κ×V)) k=none:=rfl
theorem zb0{p : κ×V}{r:List (κ×V)}{k : κ}(e:p.1=k):valV (p::r) k=some p.2:=by simp[valV,List.find?_cons,e]
theorem zbv{p : κ×V}{r:List (κ×V)}{k : κ}(e:¬p.1=k):valV (p::r) k=valV r k:=by simp[valV,List.find?_cons,e]
theorem zed(k : κ):∀kvs:List (κ×V),(kvs.any λkv=>decide (kv.1=k))=(valV kvs k).isSome
 | []=>rfl
 | p::r=>by
  rw[List.any_cons];by_cases e:p.1=k
  ·simp only[zb0 e,decide_eq_true e,Bool.true_or,Option.isSome_some]
  ·rw[zbv e,Yw e,Bool.false_or];exact zed k r
theorem zmk(k j : κ)(y:V):∀kvs:List (κ×V),valV (kvs.map λkv=>if kv.1=k then(kv.1,y) else kv) j=(valV kvs j).map λx=>if j=k then y else x
 | []=>rfl
 | p::r=>by
  have ih:=zmk k j y r;rw[Yz];by_cases h:p.1=k
  ·rw[Yl h];by_cases e:p.1=j
   ·rw[zb0 (p:=(p.1,y)) e,zb0 e,Option.map_some,Yl (e.symm.trans h)]
   ·rw[zbv (p:=(p.1,y)) e,zbv e,ih]
  ·rw[Yh h];by_cases e:p.1=j
   ·rw[zb0 (p:=p) e,zb0 e,Option.map_some,Yh (λz=>h (e.trans z))]
   ·rw[zbv (p:=p) e,zbv e,ih]
theorem zkf(k j : κ)(y:V):∀kvs:List (κ×V),valV kvs k=none->valV (kvs++[(k,y)]) j=if j=k then some y else valV kvs j
 | [],_=>by
  by_cases e:k=j
  ·rw[Yl e.symm];exact zb0 (p:=(k,y)) e
  ·rw[Yh (λz=>e z.symm)];exact zbv (p:=(k,y)) e
 | p::r,hn=>by
  rw[List.cons_append];have hk:¬p.1=k:=λz=>by rw[zb0 z]at hn;cases hn
  rw[zbv hk]at hn;have ih:=zkf k j y r hn;by_cases e:p.1=j
  ·rw[zb0 e,zb0 e,Yh (λz=>hk (e.trans z))]
  ·rw[zbv e,zbv e,ih]
theorem zmc(kvs:List (κ×V))(k j : κ)(y:V):valV (putK kvs k y) j=if j=k then some y else valV kvs j:=by
 unfold putK;by_cases a:(kvs.any λkv=>decide (kv.1=k))=true
 ·rw[Yl a,zmk];rw[zed]at a;by_cases e:j=k
  ·obtain⟨x,hx⟩:=Option.isSome_iff_exists.mp a;rw[Yl e,e,hx,Option.map_some,Yl rfl]
  ·rw[Yh e]
   cases valV kvs j with
   | none=>rfl
   | some x=>rw[Option.map_some,Yh e]
 ·rw[Yh a];refine zkf k j y kvs ?_;rw[zed]at a
  cases q:valV kvs k with
  | none=>rfl
  | some x=>rw[q]at a;exact(a rfl).elim
theorem zcy(kvs:List (κ×V))(k : κ)(v:V):(putK kvs k v).length<=kvs.length+1:=by
 unfold putK;split
 ·rw[Yd];omega
 ·rw[Y6,Y5,List.length_nil];omega
theorem zss{kvs:List (κ×V)}{k : κ}(v:V)(h:valV kvs k=none):putK kvs k v=kvs++[(k,v)]:=by
 unfold putK;rw[zed,h];exact Yh (by decide)
theorem RelO.isSome_eq{o:Option V}{u:Option Value}(r:RelO o u):o.isSome=u.isSome:=by
 cases o with
 | none=>cases u with
  | none=>rfl
  | some _=>exact(show False from r).elim
 | some _=>cases u with
  | none=>exact(show False from r).elim
  | some _=>rfl
theorem KV.val{kvs:List (κ×V)}{vs:List (κ×Value)}(r:KV kvs vs)(k : κ):RelO (valV kvs k) (valueAt vs k):=by
 unfold KV at r;induction r with
 | nil=>exact True.intro
 | @cons p q ps qs h t ih=>
  obtain⟨h1,h2⟩:=h;by_cases e:p.1=k
  ·have e':q.1=k:=h1.symm.trans e;have b:valueAt (q::qs) k=some q.2:=by simp[valueAt,List.find?_cons,e']
   rw[zb0 e,b];exact h2
  ·have e':¬q.1=k:=λz=>e (h1.trans z)
   have b:valueAt (q::qs) k=valueAt qs k:=by simp[valueAt,List.find?_cons,e']
   rw[zbv e,b];exact ih
theorem KV.any{kvs:List (κ×V)}{vs:List (κ×Value)}(r:KV kvs vs)(k : κ):(kvs.any λkv=>decide (kv.1=k))=vs.any λkv=>decide (kv.1=k):=by
 unfold KV at r;induction r with
 | nil=>rfl
 | cons h t ih=>rw[List.any_cons,List.any_cons,ih,h.1]
theorem KV.repl{kvs:List (κ×V)}{vs:List (κ×Value)}(r:KV kvs vs)(k : κ){y:V}{u:Value}(ry:RelV y u) :
  KV (kvs.map λkv=>if kv.1=k then(kv.1,y) else kv) (vs.map λkv=>if kv.1=k then(kv.1,u) else kv):=by
 unfold KV at r ⊢;induction r with
 | nil=>exact .nil
 | @cons p q ps qs h t ih=>
  rw[Yz,Yz];refine .cons ?_ ih;obtain⟨h1,h2⟩:=h;by_cases e:p.1=k
  ·rw[Yl e,Yl (h1.symm.trans e)];exact⟨h1,ry⟩
  ·rw[Yh e,Yh (λz=>e (h1.trans z))];exact⟨h1,h2⟩
theorem KV.put{kvs:List (κ×V)}{vs:List (κ×Value)}(r:KV kvs vs)(k : κ){y:V}{u:Value}(ry:RelV y u):KV (putK kvs k y) (stored vs k u):=by
 unfold putK stored;rw[r.any k];by_cases e:(vs.any λkv=>decide (kv.1=k))=true
 ·rw[Yl e,Yl e];exact r.repl k ry
 ·rw[Yh e,Yh e];exact Paired.snoc r ⟨Z,ry⟩
theorem KV.length{kvs:List (κ×V)}{vs:List (κ×Value)}(r:KV kvs vs):kvs.length=vs.length:=Paired.length r
theorem zja(kvs:List (κ×V))(k : κ):(ze0 kvs k).length<=kvs.length:=List.length_filter_le _ _
end
theorem zph{P:Program}{w:World}{k:Key}{u:Value}(r:RelV (kV k) u):(za8 P w).is k u=true:=by
 cases k with
 | inl i=>obtain⟨t,e⟩:=(show ∃t,u=Value.int i t from r);subst e;exact zli P w i t
 | inr x=>obtain⟨t,e⟩:=(show ∃t,u=Value.str x t from r);subst e;exact zk8 P w x t
theorem zjv{P:Program}{w:World}:∀{ks:List Key} {us:List Value},Vals (ks.map kV) us->ItemsAre (za8 P w) ks us
 | [],_,r=>by rw[List.map_nil]at r;cases r;exact .nil
 | k::ks,_,r=>by
  rw[Yz]at r
  cases r with
  | cons h t=>exact .cons (zph h) (zjv t)
abbrev KT(H:Hp):List (List Key×V)->List (List Key×Addr×Value)->Prop:=Paired λp q=>p.1=q.1/\H q.2.1=some (.tup (p.1.map kV))/\RelV p.2 q.2.2
theorem KT.val{H:Hp}{kvs:List (List Key×V)}{xs:List (List Key×Addr×Value)}(r:KT H kvs xs)(k:List Key):RelO (valV kvs k) ((atKey xs k).map (·.2)):=by
 induction r with
 | nil=>exact True.intro
 | @cons p q ps qs h t ih=>
  obtain⟨h1,_,h2⟩:=h;by_cases e:p.1=k
  ·have e':q.1=k:=h1.symm.trans e;have b:atKey (q::qs) k=some q.2:=by simp[atKey,List.find?_cons,e']
   rw[zb0 e,b];exact h2
  ·have e':¬q.1=k:=λz=>e (h1.trans z)
   have b:atKey (q::qs) k=atKey qs k:=by simp[atKey,List.find?_cons,e']
   rw[zbv e,b];exact ih
theorem KT.repl{H:Hp}{kvs:List (List Key×V)}{xs:List (List Key×Addr×Value)}(r:KT H kvs xs)(k:List Key){y:V}{u:Value}(ry:RelV y u) :
  KT H (kvs.map λkv=>if kv.1=k then(kv.1,y) else kv) (xs.map (putAt k u)):=by
 induction r with
 | nil=>exact .nil
 | @cons p q ps qs h t ih=>
  rw[Yz,Yz];refine .cons ?_ ih;obtain⟨h1,h2,h3⟩:=h;unfold putAt;by_cases e:p.1=k
  ·rw[Yl e,Yl (h1.symm.trans e)];exact⟨h1,h2,ry⟩
  ·rw[Yh e,Yh (λz=>e (h1.trans z))];exact⟨h1,h2,h3⟩
theorem KT.put{H:Hp}{kvs:List (List Key×V)}{xs:List (List Key×Addr×Value)}(r:KT H kvs xs)(k:List Key){b:Addr}{y:V}{u:Value}(hb:H b=some (.tup (k.map kV)))(ry:RelV y u) :
  KT H (putK kvs k y) (storedH xs k b u):=by
 have e:(kvs.any λkv=>decide (kv.1=k))=(atKey xs k).isSome:=by
  rw[zed,(r.val k).isSome_eq,Option.isSome_map]
 unfold putK storedH;rw[e];by_cases q:(atKey xs k).isSome=true
 ·rw[Yl q,Yl q];exact r.repl k ry
 ·rw[Yh q,Yh q];exact Paired.snoc r ⟨Z,hb,ry⟩
theorem KT.keeps{H H':Hp}{kvs:List (List Key×V)}{xs:List (List Key×Addr×Value)}(r:KT H kvs xs)(ht:∀b ys,H b=some (.tup ys)->H' b=some (.tup ys)):KT H' kvs xs:=
 Paired.mapP r λ_ _ z=>⟨z.1,ht _ _ z.2.1,z.2.2⟩
section
variable{P:Program}{w:World}{H:Hp}{h:Heap}{a:Addr}
theorem zye{u:HO}(ok:HOk P w H h)(e:Rd H a u):ObjOk P w H h a u:=e.ok ok
theorem zqf{kvs:List (Key×V)}(ok:HOk P w H h)(e:Rd H a (.dK kvs)):kvs.length<=sizeLine/\(a == sysModules)=false/\∃vs,KV kvs vs/\h.DictOf (za8 P w) a vs:=
 show ObjOk P w H h a (.dK kvs) from zye ok e
theorem z0c{kvs:List (Key×V)}(ok:HOk P w H h)(e:H a=some (.dK kvs)):kvs.length<=sizeLine/\(a == sysModules)=false/\∃vs,KV kvs vs/\h.DictOf (za8 P w) a vs:=zqf ok (.inl e)
theorem zhk{ks:List Key}(ok:HOk P w H h)(e:H a=some (.tup (ks.map kV))):(tupleKind (za8 P w)).is h ks a:=by
 obtain⟨_,its,r,o,h1,h2,n,h3⟩:=(show ObjOk P w H h a (.tup (ks.map kV)) from ok a _ e);exact⟨o,its.toArray,n,h1,h2,h3,by simpa using zjv r⟩
theorem zgh{kvs:List (List Key×V)}(ok:HOk P w H h)(e:Rd H a (.dT kvs)):kvs.length<=sizeLine/\(a == sysModules)=false /\
  ∃xs,KT H kvs xs/\h.DictOfH (tupleKind (za8 P w)) a xs:=by
 obtain⟨z,y,xs,r,o,es,ep,h1,h2,h3,h4,h5⟩:=(show ObjOk P w H h a (.dT kvs) from zye ok e);refine⟨z,y,xs,r,o,es,ep,h1,h2,h3,h4,λx hx=>?_,h5⟩;have all:∀{l:List (List Key×V)} {m:List (List Key×Addr×Value)},KT H l m->∀x∈m,(tupleKind (za8 P w)).is h x.1 x.2.1:=by
  intro l m q;induction q with
  | nil=>intro x hx;exact nomatch hx
  | @cons p q ps qs hq t ih=>
   intro x hx;rcases Yj.mp hx with e | hx
   ·subst e;exact zhk ok (by rw[<- hq.1];exact hq.2.1)
   ·exact ih x hx
 exact all r x hx
theorem zr3{kvs:List (List Key×V)}(ok:HOk P w H h)(e:H a=some (.dT kvs)):kvs.length<=sizeLine/\(a == sysModules)=false /\
  ∃xs,KT H kvs xs/\h.DictOfH (tupleKind (za8 P w)) a xs:=zgh ok (.inl e)
end
def DGet(H:Hp)(a:Addr)(y:V)(r:Option V):Prop:=
 (∃kvs k,Rd H a (.dK kvs)/\y=kV k/\r=valV kvs k)\/∃kvs k b,Rd H a (.dT kvs)/\y=.ref b/\H b=some (.tup (k.map kV))/\r=valV kvs k
def DPut(H:Hp)(a:Addr)(y v:V)(H':Hp):Prop:=
 (∃kvs k,H a=some (.dK kvs)/\y=kV k/\kvs.length<sizeLine/\H'=upd H a (.dK (putK kvs k v))) \/
 ∃kvs k b,H a=some (.dT kvs)/\y=.ref b/\H b=some (.tup (k.map kV))/\kvs.length<sizeLine/\H'=upd H a (.dT (putK kvs k v))
theorem DGet.t{H:Hp}{a b:Addr}{kvs:List (List Key×V)}{k:List Key}(e:H a=some (.dT kvs))(eb:H b=some (.tup (k.map kV))):DGet H a (.ref b) (valV kvs k):=.inr ⟨kvs,k,b,.inl e,Z,eb,Z⟩
theorem DPut.t{H:Hp}{a b:Addr}{kvs:List (List Key×V)}{k:List Key}{v:V}(e:H a=some (.dT kvs))(eb:H b=some (.tup (k.map kV)))(hl:kvs.length<sizeLine) :
  DPut H a (.ref b) v (upd H a (.dT (putK kvs k v))):=.inr ⟨kvs,k,b,e,Z,eb,hl,Z⟩
section
variable{X:Cx}{pins:List (Addr×Obj)}{σ : St}{H:Hp}{s:Shared}{a:Addr}{y v:V}{u r:Value}{o:Option V}{A:Around}{E:Value->Shared->Prop}
theorem Inv.big(I:Inv X pins σ H s):sysModules<s.heap.objs.size:=by
 have h:mainGlobals<s.heap.objs.size:=(I.mod.glob.keeps I.bk).lt;exact Nat.lt_trans (by decide) h
theorem zpc{Q:Value->Shared->Prop}(hu:A.units+1<cLine)(I:Inv X pins σ H s)(g:DGet H a y (some v))(ry:RelV y u)(h:∀w' s',Inv X pins σ H s'->RelV v w'->Q w' s') :
  wpAny (model X.prog X.w) A (getItem (.ref a) u) Q E s:=by
 rcases g with⟨kvs,k,e,ey,l⟩ | ⟨kvs,k,b,e,ey,eb,l⟩
 ·subst ey;obtain⟨z,hd,vs,rel,dd⟩:=zqf I.hok e;obtain⟨w',hw,rw'⟩:=RelO.some_of (v:=v) (o:=valueAt vs k) (by rw[l];exact rel.val k);exact wpAny_getItem_of (zph ry) dd.mapOf hw (h w' _ (I.tok _) rw')
 ·subst ey
  cases (show u=Value.ref b from ry);obtain⟨z,hd,xs,rel,dd⟩:=zgh I.hok e;obtain⟨w',hw,rw'⟩:=RelO.some_of (v:=v) (o:=(atKey xs k).map (·.2)) (by rw[l];exact rel.val k);obtain⟨p,hp,hp2⟩:=Option.map_eq_some_iff.mp hw;refine wpAny_getItem_heap (tupleKind_room_in1 hu) (zhk I.hok eb) dd hp ?_;rw[hp2];exact h w' _ (I.tok _) rw'
theorem d_in{Q:Value->Shared->Prop}(hu:A.units+1<cLine)(I:Inv X pins σ H s)(g:DGet H a y o)(ry:RelV y u)(h:∀s',Inv X pins σ H s'->Q (.bool o.isSome) s') :
  wpAny (model X.prog X.w) A (compareOp .In u (.ref a)) Q E s:=by
 rcases g with⟨kvs,k,e,ey,l⟩ | ⟨kvs,k,b,e,ey,eb,l⟩
 ·subst ey;obtain⟨z,hd,vs,rel,dd⟩:=zqf I.hok e;refine wpAny_in_of (zph ry) hd dd.mapOf ?_;rw[<- (rel.val k).isSome_eq,<- l];exact h _ (I.tok _)
 ·subst ey
  cases (show u=Value.ref b from ry);obtain⟨z,hd,xs,rel,dd⟩:=zgh I.hok e;refine wpAny_in_heap (tupleKind_room_in1 hu) (zhk I.hok eb) hd dd ?_;have q:=(rel.val k).isSome_eq;rw[Option.isSome_map]at q;rw[<- q,<- l];exact h _ (I.tok _)
theorem zu9{Q:Value->Shared->Prop}(hu:A.units+1<cLine)(I:Inv X pins σ H s)(g:DGet H a y o)(ry:RelV y u)(h:∀s',Inv X pins σ H s'->Q (.bool (!o.isSome)) s') :
  wpAny (model X.prog X.w) A (compareOp .NotIn u (.ref a)) Q E s:=by
 rcases g with⟨kvs,k,e,ey,l⟩ | ⟨kvs,k,b,e,ey,eb,l⟩
 ·subst ey;obtain⟨z,hd,vs,rel,dd⟩:=zqf I.hok e;refine wpAny_notIn_of (zph ry) hd dd.mapOf ?_;rw[<- (rel.val k).isSome_eq,<- l];exact h _ (I.tok _)
 ·subst ey
  cases (show u=Value.ref b from ry);obtain⟨z,hd,xs,rel,dd⟩:=zgh I.hok e;refine wpAny_notIn_heap (tupleKind_room_in1 hu) (zhk I.hok eb) hd dd ?_;have q:=(rel.val k).isSome_eq;rw[Option.isSome_map]at q;rw[<- q,<- l];exact h _ (I.tok _)
theorem ziz{h':Heap}{t':Nat}{ob:HO}(I:Inv X pins σ H s)(mu:Mut (H a))(hs:Heap.SameBut a s.heap h')(he:∃q,h'.get? a=some q)(new:ObjOk X.prog X.w (upd H a ob) h' a ob) :
  Inv X pins σ (upd H a ob) { s with heap:=h',toks:=t' }:=
 I.write (x:=a) (e:=a) mu (.inl rfl) (λb q hb z=>(hs.2 b hb).trans z) he new
theorem zyu{P:Program}{w:World}{H':Hp}{h':Heap}{kvs:List (Key×V)}{vs:List (Key×Value)}(z:kvs.length<=sizeLine)(hd:(a == sysModules)=false)(rel:KV kvs vs)(dd:h'.DictOf (za8 P w) a vs) :
  ObjOk P w H' h' a (.dK kvs):=⟨z,hd,vs,rel,dd⟩
theorem zop{H':Hp}{Q:Unit->Shared->Prop}(hu:A.units+1<cLine)(I:Inv X pins σ H s)(g:DPut H a y v H')(ry:RelV y u)(rv:RelV v r)(h:∀s',Inv X pins σ H' s'->Q () s') :
  wpAny (model X.prog X.w) A (setItem (.ref a) u r) Q E s:=by
 rcases g with⟨kvs,k,e,ey,l,eH⟩ | ⟨kvs,k,b,e,ey,eb,l,eH⟩
 ·subst ey eH;obtain⟨z,hd,vs,rel,dd⟩:=z0c I.hok e;have hz:vs.length<=sizeLine:=by rw[<- rel.length];exact z
  have hl:(putK kvs k v).length<=sizeLine:=by have:=zcy kvs k v;omega
  refine wpAny_setItem_pairs (hsz:=hz) (zph ry) dd λh' dd' hs=>h _ ?_
  have he:∃q,h'.get? a=some q:=let ⟨q,_,_,hq,_⟩:=dd';⟨q,hq⟩;exact ziz I (by rw[e];exact True.intro) hs he (zyu hl hd (rel.put k rv) dd')
 ·subst ey eH
  cases (show u=Value.ref b from ry);obtain⟨z,hd,xs,rel,dd⟩:=zr3 I.hok e;have hz:xs.length<=sizeLine:=by rw[<- Paired.length rel];exact z
  have hl:(putK kvs k v).length<=sizeLine:=by have:=zcy kvs k v;omega
  refine wpAny_setItem_heap (hsz:=hz) (tupleKind_room_in1 hu) (zhk I.hok eb) dd λh' dd' hs=>h _ ?_
  obtain⟨q,es,ep,hq,h2,h3,h4,_,h5⟩:=dd';refine ziz I (by rw[e];exact True.intro) hs ⟨q,hq⟩ ⟨hl,hd,_,(rel.put k eb rv).keeps λc ys ec=>?_,q,es,ep,hq,h2,h3,h4,h5⟩;rw[zai (zbs ec e (λz=>nomatch z))];exact ec
end
def NoSl(i:Expr):Prop:=∀ov iv,subscripted i false ov iv=operate [ov,iv] (getItem ov iv)
theorem zup{prog:Program}{w:World}{A:Around}{E:Value->Shared->Prop}{s:Shared}{env:Env}{value slice:Expr}{pos:Pos}{T id:String}{Q:Value->Shared->Prop}
  (hl:typeLookup (.type T) "__getitem__" = pure (some (.builtin id))) (hs:NoSl slice)
  (h:wpAny (model prog w) A (eval value env) (λo s₁=>wpAny (model prog w) A (eval slice env) (λi s₂=>s₂.TypeIs o T/\wpAny (model prog w) A (getItem o i) Q E s₂) E s₁) E s) :
  wpAny (model prog w) A (eval (.Subscript value slice pos) env) Q E s:=by
 refine Subscript_ (wpAny_mono h (λo s₁ h₁=>wpAny_mono h₁ (λi s₂ h₂=>?_) λ_ _ x=>x) λ_ _ x=>x);obtain⟨hT,h₂⟩:=h₂;unfold subscriptTail;refine Ya ?_;rw[getitemInPython_of_ne hT.not_modules];refine Ya (wpAny_specialOf hT hl ?_);have fin:wpAny (model prog w) A (subscripted slice false o i) (λr s₃=>wpAny (model prog w) A (letTemporaryGo value o r >>= λ_=>pure r) Q E s₃) E s₂:=by
  rw[hs o i];exact wpAny_operating (wpAny_mono h₂ (λr s₃ h₃=>Ya (wpAny_letTemporaryGo (Yb h₃))) λ_ _ x=>x)
 first
  | exact Yb (Ya fin)
  | exact Ya (Yb (Ya fin))
  | exact Ya fin
theorem zlb{X:Cx}{pins:List (Addr×Obj)}{σ : St}{H:Hp}{s:Shared}{a:Addr}{y:V}{o:Option V}(I:Inv X pins σ H s)(g:DGet H a y o):s.TypeIs (.ref a) "dict":=by
 rcases g with⟨kvs,k,e,_,_⟩ | ⟨kvs,k,b,e,_,_,_⟩
 ·obtain⟨_,_,vs,_,dd⟩:=zqf I.hok e;exact dd.typeIs
 ·obtain⟨_,_,xs,_,dd⟩:=zgh I.hok e;exact dd.typeIs
def z0q(td ty:TE):TE:=λσ H Q=>td σ H λx H1=>ty σ H1 λy H2=>∃a v,x=.ref a/\DGet H2 a y (some v)/\Q v H2
def tDIn(ty td:TE):TE:=λσ H Q=>ty σ H λy H1=>td σ H1 λx H2=>∃a o,x=.ref a/\DGet H2 a y o/\Q (.bl o.isSome) H2
def zuq(ty td:TE):TE:=λσ H Q=>ty σ H λy H1=>td σ H1 λx H2=>∃a o,x=.ref a/\DGet H2 a y o/\Q (.bl (!o.isSome)) H2
def z0f(td ty tv:TE):TS:=λD σ H=>tv σ H λv H1=>td σ H1 λx H2=>ty σ H2 λy H3=>∃a H4,x=.ref a/\DPut H3 a y v H4/\D.nx σ H4
section
variable{X:Cx}{o i e value:Expr}{pos pos' tpos:Pos}{td ty tv:TE}
theorem zi2(hu:X.A.units+1<cLine)(ho:PE X o td)(hi:PE X i ty)(hs:NoSl i):PE X (.Subscript o i pos) (z0q td ty):=by
 intro pins s σ H Q I h;refine zup PySem.F.slot_dict_getitem.lookup hs (thn (ho pins s σ H _ I h) λu s1 ⟨x,H1,I1,rx,q1⟩=>thn (hi pins s1 σ H1 _ I1 q1) λiv s2 ⟨y,H2,I2,ry,a,v,ex,g,q2⟩=>?_);subst ex;obtain rfl:u=Value.ref a:=rx;exact⟨zlb I2 g,zpc hu I2 g ry λw' s3 I3 rw'=>⟨v,H2,I3,rw',q2⟩⟩
theorem zov(hu:X.A.units+1<cLine)(hi:PE X i ty)(ho:PE X o td):PC X .In i o (tDIn ty td):=by
 intro pins s σ H Q I h;refine thn (hi pins s σ H _ I h) λiv s1 ⟨y,H1,I1,ry,q1⟩=>thn (ho pins s1 σ H1 _ I1 q1) λu s2 ⟨x,H2,I2,rx,a,ov,ex,g,q2⟩=>?_
 subst ex;obtain rfl:u=Value.ref a:=rx;exact d_in hu I2 g ry λs3 I3=>⟨.bl ov.isSome,H2,I3,Z,q2⟩
theorem zq9(hu:X.A.units+1<cLine)(hi:PE X i ty)(ho:PE X o td):PC X .NotIn i o (zuq ty td):=by
 intro pins s σ H Q I h;refine thn (hi pins s σ H _ I h) λiv s1 ⟨y,H1,I1,ry,q1⟩=>thn (ho pins s1 σ H1 _ I1 q1) λu s2 ⟨x,H2,I2,rx,a,ov,ex,g,q2⟩=>?_
 subst ex;obtain rfl:u=Value.ref a:=rx;exact zu9 hu I2 g ry λs3 I3=>⟨.bl (!ov.isSome),H2,I3,Z,q2⟩
theorem zfx(hu:X.A.units+1<cLine)(ho:PE X o td)(hi:PE X i ty)(hv:PE X value tv)(hs:swapsWith value (some (.Subscript o i pos')) pos.line X.env=pure false) :
  PS X (.Assign [.Subscript o i pos'] value pos) (z0f td ty tv):=by
 intro pins s σ H D I h;refine wpAny_Assign_Subscript (thn (hv pins s σ H _ I h) λr s1 ⟨v,H1,I1,rv,q1⟩=>thn (ho pins s1 σ H1 _ I1 q1) λu s2 ⟨x,H2,I2,rx,q2⟩=>thn (hi pins s2 σ H2 _ I2 q2) λiv s3 ⟨y,H3,I3,ry,a,H4,ex,g,q3⟩=>?_) hs;subst ex;obtain rfl:u=Value.ref a:=rx;exact zop hu I3 g ry rv λs4 I4=>⟨σ,H4,I4,q3⟩
end
theorem zlv{P:Program}{w:World}{H:Hp}(h:Heap)(hb:sysModules<h.objs.size):ObjOk P w H (h.push { cls:=.type "dict",data:=.dict #[] }) h.objs.size (.dT []):=
 ⟨Y2 _,beq_eq_false_iff_ne.mpr (Jc (Y0 hb)),[],.nil,_,#[],0,Yk _ rfl,⟨Z,Z,Z⟩,Z,Z,List.nodup_nil⟩
def zpj:TE:=λ_ H Q=>∀p,H p=none->Q (.ref p) (upd H p (.dT []))
section
variable{X:Cx}{pos:Pos}
theorem zcd:PE X (.Dict [] [] pos) zpj:=λpins s σ H Q I h=>
 wpAny_Dict_empty ⟨.ref s.heap.objs.size,_,I.laid (a:=s.heap.objs.size) (o:=.dT []) (t':=s.toks) (λ_ _ q=>Ye _ q) (Yi _) (zlv s.heap I.big),Z,h _ (I.hok.fresh (Yi _))⟩
end
def zug:List (TE×TE)->St->Hp->(List (V×V)->Hp->Prop)->Prop
 | [],_,H,Q=>Q [] H
 | (tk,tv)::r,σ,H,Q=>tk σ H λx H1=>tv σ H1 λy H2=>zug r σ H2 λps H3=>Q ((x,y)::ps) H3
abbrev VV:List (V×V)->List (Value×Value)->Prop:=Paired λp q=>RelV p.1 q.1/\RelV p.2 q.2
def PPs(X:Cx)(pos:Pos)(keys:List (Option Expr))(values:List Expr)(trs:List (TE×TE)):Prop:=
 ∀(pins:List (Addr×Obj)) (s:Shared) (σ : St) (H:Hp) (Q:List (V×V)->Hp->Prop),Inv X pins σ H s->zug trs σ H Q ->
  wpAny (model X.prog X.w) X.A (evalPairs (pairTrees keys values X.env pos)) (λvs s'=>∃ps H',Inv X pins σ H' s'/\VV ps vs/\Q ps H') X.xe s
theorem zu3{X:Cx}{pos:Pos}:PPs X pos [] [] []:=λpins s σ H Q I h=>pairTrees_nil_walk ⟨[],H,I,.nil,h⟩
theorem zrz{X:Cx}{pos:Pos}{k v:Expr}{ks:List (Option Expr)}{vs:List Expr}{tk tv:TE}{trs:List (TE×TE)}(hk:PE X k tk)(hv:PE X v tv)(hr:PPs X pos ks vs trs) :
  PPs X pos (some k::ks) (v::vs) ((tk,tv)::trs):=λpins s σ H Q I h=>
 pairTrees_cons_walk (thn (hk pins s σ H _ I h) λu s1 ⟨x,H1,I1,rx,q1⟩=>thn (hv pins s1 σ H1 _ I1 q1) λw2 s2 ⟨y,H2,I2,ry,q2⟩=>
  thn (hr pins s2 σ H2 _ I2 q2) λws s3 ⟨ps,H3,I3,rel,q3⟩=>⟨(x,y)::ps,H3,I3,.cons ⟨rx,ry⟩ rel,q3⟩)
end L2
namespace L2
open PySem PySem.Spec PyProof.Rows
section
variable{X:Cx}{pins:List (Addr×Obj)}{σ : St}{H:Hp}{s:Shared}{d:Addr}{o:Obj}{u v:HO}
theorem Inv.swap(I:Inv X pins σ H s)(e:H d=some u)(nt:∀xs,u≠.tup xs)(no:∀x,u≠.own x)(nb:∀ps,u≠.tbl ps)(nf:∀o w,u=.frz o w->∀o w,X.H₀ d≠some (.frz o w))
  (new:ObjOk X.prog X.w H s.heap d u->∀H':Hp,(∀b xs,H b=some (.tup xs)->H' b=some (.tup xs))->(∀b x,H b=some (.own x)->H' b=some (.own x))->ObjOk X.prog X.w H' s.heap d v):Inv X pins σ (upd H d v) s:=by
 have nd:∀{b:Addr},H b=none->b≠d:=λz=>(zam e z).symm
 have tt:∀b xs,H b=some (.tup xs)->upd H d v b=some (.tup xs):=λb xs q=>by rw[zai (zbs q e (λz=>nt xs z.symm))];exact q
 have oo:∀b x,H b=some (.own x)->upd H d v b=some (.own x):=λb x q=>by rw[zai (zbs q e (λz=>no x z.symm))];exact q
 refine⟨I.ok,I.os,I.bare,⟨I.base.keep,I.base.slot,λb q h1 h2 h3=>?_,I.base.there,λb xs q=>tt b xs (I.base.tups b xs q),λb o' w q=>?_,λb ps q=>?_⟩,I.loc,I.cell,?_,λx c q=>?_,λp hp=>?_,λb w q=>?_,I.len⟩
 ·have z:=I.base.free b q h1 h2 h3;rw[zai (nd z)];exact z
 ·have z:=I.base.frzs b o' w q;by_cases hb:b=d
  ·subst hb;rw[e]at z;injection z with z
   exact absurd q (nf o' w z o' w)
  ·rw[zai hb];exact z
 ·obtain⟨more,z⟩:=I.base.tbls b ps q;by_cases hb:b=d
  ·subst hb;rw[e]at z;injection z with z
   exact absurd z (nb _)
  ·exact⟨more,by rw[zai hb];exact z⟩
 ·rw[zai (nd I.free)];exact I.free
 ·rw[zai (nd (I.freeC x c q))];exact I.freeC x c q
 ·obtain⟨z1,z2,z3⟩:=I.pin p hp;exact⟨z1,by rw[zai (nd z2)];exact z2,z3⟩
 ·by_cases hb:b=d
  ·subst hb;rw[zab]at q;injection q with q;subst q
   exact new (I.hok b _ e) _ tt oo
  ·rw[zai hb]at q;exact(I.hok b w q).stay (λ_ _ _ z=>z) (λc z=>oo c b z) tt
theorem Inv.freeze{kvs:List (List Key×V)}(I:Inv X pins σ H s)(e:H d=some (.dT kvs))(ho:s.heap.get? d=some o):Inv X pins σ (upd H d (.frz o (.dT kvs))) s:=
 I.swap e (by intro _ z;cases z) (by intro _ z;cases z) (by intro _ z;cases z) (by intro _ _ z;cases z) λx H' t w=>⟨ho,x.stay (λ_ _ _ z=>z) (λb z=>w b d z) t⟩
theorem Inv.thaw(I:Inv X pins σ H s)(e:H d=some (.frz o u))(n:∀o w,X.H₀ d≠some (.frz o w)):Inv X pins σ (upd H d u) s:=
 I.swap e (by intro _ z;cases z) (by intro _ z;cases z) (by intro _ z;cases z) (λ_ _ _=>n) λx H' t w=>x.2.stay (λ_ _ _ z=>z) (λb z=>w b d z) t
end
def Thw(H0:Hp)(H:Hp)(K:Hp->Prop):Prop:=K H\/∃d o u,H d=some (.frz o u)/\(∀o w,H0 d≠some (.frz o w))/\K (upd H d u)
section
variable{X:Cx}
theorem Thw.inv{pins:List (Addr×Obj)}{σ : St}{H:Hp}{s:Shared}{K:Hp->Prop}(h:Thw X.H₀ H K)(I:Inv X pins σ H s):∃H',Inv X pins σ H' s/\K H':=by
 rcases h with h | ⟨d,o,u,e,n,h⟩
 ·exact⟨H,I,h⟩
 ·exact⟨_,I.thaw e n,h⟩
end
end L2
namespace L2
open PySem PySem.Spec PyProof.Rows
section
variable{prog:Program}{w:World}{A:Around}{E:Value->Shared->Prop}{s:Shared}{it d:Addr}{i n ep:Nat}{es:Array DictEntry}{o:Obj}
theorem zmx{e:DictEntry}{Q:Option Value->Shared->Prop}(hit:s.heap.IsKeyIter it d i n ep)(hod:s.heap.get? d=some o)(hdd:o.data=.dict es ep)(hn:es.size=n)(hx:es[i]? = some e)
  (hQ:∀h',h'.IsKeyIter it d (i+1) n ep->Heap.SameBut it s.heap h'->Q (some e.key) { s with heap:=h' }):wpAny (model prog w) A (pyNext (.ref it)) Q E s:=by
 obtain⟨oi,hoi,hci,hdi⟩:=id hit;have T:=hit.typeIs;have own:Builtin.Dict_items.ownsTuple "dict_keyiterator" = false:=by decide
 have nn:¬((Value.ref d == Value.none)=true):=λz=>Yt z
 unfold pyNext;refine Ya (wpAny_attempt (Jb (name:=Str.ofString "__next__") T F.slot_dict_keyiterator_next (Y8 F.slot_dict_keyiterator_next T F.entry_dict_keyiterator_next ?_ (F.args_dict_keyiterator_next_1 _))));refine Ya (Yb (Ya (Ya ?_)));refine Ya (wpAny_typeNameOfWhole_keyiter T (Yb (Ya (wpAny_fieldsOf hoi hdi ?_))));simp only[own,Bool.false_eq_true,if_false];show wpAny _ _ (if (Value.ref d == Value.none)=true then _ else _) _ _ s;rw[Yh nn];refine Ya (Yb (Ya (Y7 hod hdd ?_)));rw[Yh (by rw[hn];simp)];refine Ya (Yb (Ya (wpAny_dictEpoch hod hdd ?_)));rw[Yh (by simp)];have lt:¬((i:Int)<0):=by omega
 refine Yb ?_;simp only[lt,if_false,Int.toNat_natCast,hx];refine Ya (Ya (wpAny_typeNameOfWhole_keyiter T (Yb (Ya (wpAny_isOneOf_keyiter T ?_)))));show wpAny _ _ (setField (.ref it) 1 (rawInt ((i:Int)+1)) >>= _) _ _ s;refine Ya (wpAny_setField hoi hdi (by simp) ?_);have hit':(s.heap.update it (Obj.mapFields (·.setIfInBounds 1 (rawInt ((i:Int)+1))))).IsKeyIter it d (i+1) n ep:=⟨_,Heap.get?_update_self _ hoi (Obj.isFreed_of_fields (Obj.data_mapFields hdi _)),(Obj.cls_mapFields ..).trans hci,by rw[Obj.data_mapFields hdi];simp[rawInt]⟩;have T':Shared.TypeIs { s with heap:=s.heap.update it (Obj.mapFields (·.setIfInBounds 1 (rawInt ((i:Int)+1)))) } (.ref it) "dict_keyiterator":=hit'.typeIs;refine Ya (Jr (Ya (wpAny_isOneOf_keyiter T' ?_)));show wpAny _ _ (pure e.key) _ _ _;exact Yb (Yb ⟨_,Z,Yb (hQ _ hit' (Heap.SameBut.update ..))⟩)
theorem zl9{A':Around}{Q:Option Value->Shared->Prop}{E':Value->Shared->Prop}(hh:A'.handled=none)(hQ:∀h',(∀b o,s.heap.get? b=some o->h'.get? b=some o)->Q none { s with heap:=h' }){P:Fin->Shared->Prop} :
  wpAny (model prog w) A' (newExc (.type "StopIteration") [] >>= λe=>raiseNew e) P (λe s'=>wpAny (model prog w) A (do if (<- isInstance e (.type "StopIteration"))=true then pure none else throw e) Q E' s') s:=by
 refine Ya ?_;simp only[newExc,newTuple];refine Ya (Jo (Ya (m:=firstArgMember _ _) (wpAny_of_eq (a:=Value.none) (by first | rfl | (simp only[firstArgMember];rfl)) (Jo ?_ (by size_fits)))) (by size_fits));simp only[raiseNew];refine Ya (wpAny_handled ?_);rw[hh];refine Ya (Yb (wpAny_throw ?_));have sub:=isSubtype_stop;refine Ya (wpAny_isInstance (T:="StopIteration") (b:=true) ⟨_,Yk _ rfl,Z⟩ sub ?_);exact Yb (hQ _ λb o e=>Ye _ (Ye _ e))
theorem zqh{Q:Option Value->Shared->Prop}(hh:A.handled=none)(hit:s.heap.IsKeyIter it d i n ep)(hod:s.heap.get? d=some o)(hdd:o.data=.dict es ep)(hn:es.size=n)(hx:n<=i)
  (hQ:∀h',Heap.ExtBut it s.heap h'->Q none { s with heap:=h' }):wpAny (model prog w) A (pyNext (.ref it)) Q E s:=by
 obtain⟨oi,hoi,hci,hdi⟩:=id hit;have T:=hit.typeIs;have own:Builtin.Dict_items.ownsTuple "dict_keyiterator" = false:=by decide
 have nn:¬((Value.ref d == Value.none)=true):=λz=>Yt z
 unfold pyNext;refine Ya (wpAny_attempt (Jb (name:=Str.ofString "__next__") T F.slot_dict_keyiterator_next (Y8 F.slot_dict_keyiterator_next T F.entry_dict_keyiterator_next ?_ (F.args_dict_keyiterator_next_1 _))));refine Ya (Yb (Ya (Ya ?_)));refine Ya (wpAny_typeNameOfWhole_keyiter T (Yb (Ya (wpAny_fieldsOf hoi hdi ?_))));simp only[own,Bool.false_eq_true,if_false];show wpAny _ _ (if (Value.ref d == Value.none)=true then _ else _) _ _ s;rw[Yh nn];refine Ya (Yb (Ya (Y7 hod hdd ?_)));rw[Yh (by rw[hn];simp)];refine Ya (Yb (Ya (wpAny_dictEpoch hod hdd ?_)));rw[Yh (by simp)];have lt:¬((i:Int)<0):=by omega
 have hx':es[i]? = none:=Array.getElem?_eq_none (by omega);refine Yb ?_;simp only[lt,if_false,Int.toNat_natCast,hx'];refine Ya (Ya (wpAny_typeNameOfWhole_keyiter T (Yb ?_)));show wpAny _ _ (setField (.ref it) 0 .none >>= _) _ _ s;refine Ya (wpAny_setField hoi hdi (by simp) ?_);refine zl9 (A:=A) (A':=A.in1) (E':=E) hh λh' k=>?_
 exact hQ h' λb o hb e=>k b o ((Heap.SameBut.update ..).extBut b o hb e)
theorem zoa{e:DictEntry}{ok ov:Value}{Q:Option Value->Shared->Prop}(hit:IsItemIter s.heap it d i n ep ok ov)(hod:s.heap.get? d=some o)(hdd:o.data=.dict es ep)(hn:es.size=n)(hx:es[i]? = some e)
  (hQ:∀h',IsItemIterOut h' it d (i+1) n ep e.key e.val s.heap.objs.size->h'.get? s.heap.objs.size=some { cls:=.type "tuple",data:=.seq #[e.key,e.val] }->h'.objs.size=s.heap.objs.size+1 ->
   (∀b q,b≠it->s.heap.get? b=some q->h'.get? b=some q)->Q (some (.ref s.heap.objs.size)) { s with heap:=h' }):wpAny (model prog w) A (pyNext (.ref it)) Q E s:=by
 have T:s.TypeIs (.ref it) "dict_itemiterator":=⟨_,hit,Z⟩;have own:Builtin.Dict_items.ownsTuple "dict_itemiterator" = true:=by decide
 have nn:¬((Value.ref d == Value.none)=true):=λz=>Yt z
 unfold pyNext;refine Ya (wpAny_attempt (Jb (name:=Str.ofString "__next__") T F.slot_dict_itemiterator_next (Y8 F.slot_dict_itemiterator_next T F.entry_dict_itemiterator_next ?_ (F.args_dict_itemiterator_next_1 _))));refine Ya (Yb (Ya (Ya ?_)));refine Ya (wpAny_typeNameOfWhole_itemiter T (Yb (Ya (wpAny_fieldsOf hit rfl ?_))));simp only[own,if_true];show wpAny _ _ (if (Value.ref d == Value.none)=true then _ else _) _ _ s;rw[Yh nn];refine Ya (Yb (Ya (Y7 hod hdd ?_)));rw[Yh (by rw[hn];simp)];refine Ya (Yb (Ya (wpAny_dictEpoch hod hdd ?_)));rw[Yh (by simp)];have lt:¬((i:Int)<0):=by omega
 refine Yb ?_;simp only[lt,if_false,Int.toNat_natCast,hx];refine Ya (Ya (wpAny_typeNameOfWhole_itemiter T (Yb (Ya (wpAny_isOneOf_itemiter T ?_)))));show wpAny _ _ (setField (.ref it) 3 (rawInt ((i:Int)+1)) >>= _) _ _ s;refine Ya (Jp hit (by simp) λh1 e1 s1=>?_);have i1:IsItemIter h1 it d (i+1) n ep ok ov:=by
  have z:((i+1:Nat):Int)=(i:Int)+1:=by omega
  unfold IsItemIter;rw[z];simpa[rawInt]using e1
 have T1:Shared.TypeIs { s with heap:=h1 } (.ref it) "dict_itemiterator":=⟨_,i1,Z⟩;refine Ya (Jr (Ya (wpAny_isOneOf_itemiter T1 (Ya (wpAny_isOneOf_itemiter T1 ?_)))));show wpAny _ _ (Builtin.Dict_items.pairFromOwner (.ref it) 6 e.key e.val) _ _ _;unfold Builtin.Dict_items.pairFromOwner;refine Ya (wpAny_newTuple ?_);have z1:h1.objs.size=s.heap.objs.size:=s1.1;have lit:it<s.heap.objs.size:=Yn hit;have i2:IsItemIter (h1.push { cls:=.type "tuple",data:=.seq #[e.key,e.val] }) it d (i+1) n ep ok ov:=Ye _ i1;have t2:(h1.push { cls:=.type "tuple",data:=.seq #[e.key,e.val] }).get? s.heap.objs.size=some { cls:=.type "tuple",data:=.seq #[e.key,e.val] }:=by rw[<- z1];exact Yk _ rfl
 have z2:(h1.push { cls:=.type "tuple",data:=.seq #[e.key,e.val] }).objs.size=s.heap.objs.size+1:=by rw[Heap.size_push,z1]
 have k2:∀b q,b≠it->s.heap.get? b=some q->(h1.push { cls:=.type "tuple",data:=.seq #[e.key,e.val] }).get? b=some q:=λb q hb z=>Ye _ (s1.extBut b q hb z)
 dsimp only;rw[z1];show wpAny _ _ (Builtin.Dict_items.ownedTupleIsFree (.ref it) >>= _) _ _ { s with heap:=h1.push { cls:=.type "tuple",data:=.seq #[e.key,e.val] } };generalize (h1.push { cls:=.type "tuple",data:=.seq #[e.key,e.val] }:Heap)=h2 at *;refine Ya ?_;unfold Builtin.Dict_items.ownedTupleIsFree;refine Ya (Jl i2 rfl (x:=.none) rfl (Yb ?_));simp only[if_true];refine Ya (Jl i2 rfl (x:=ok) rfl (Ya (Jl i2 rfl (x:=ov) rfl (Ya (Jp i2 (by simp) λh3 e3 s3=>?_)))));have i3:IsItemIter h3 it d (i+1) n ep e.key ov:=e3;refine Ya (Jp i3 (by simp) λh4 e4 s4=>?_);have i4:IsItemIter h4 it d (i+1) n ep e.key e.val:=e4;refine Ya (Jp i4 (by simp) λh5 e5 s5=>?_);have i5:IsItemIterOut h5 it d (i+1) n ep e.key e.val s.heap.objs.size:=e5;refine Ya (Jp i5 (by simp) λh6 e6 s6=>?_);have i6:IsItemIterOut h6 it d (i+1) n ep e.key e.val s.heap.objs.size:=e6;have kp:∀b q,b≠it->h2.get? b=some q->h6.get? b=some q:=λb q hb z=>s6.extBut b q hb (s5.extBut b q hb (s4.extBut b q hb (s3.extBut b q hb z)))
 refine Ya (wpAny_letGo (Yb (Yb ⟨_,Z,Yb (hQ h6 i6 (kp _ _ (Nat.ne_of_gt lit) t2) ?_ λb q hb z=>kp b q hb (k2 b q hb z))⟩)));exact(s6.1.trans (s5.1.trans (s4.1.trans s3.1))).trans z2
theorem zrg{ok ov:Value}{Q:Option Value->Shared->Prop}(hh:A.handled=none)(hit:IsItemIter s.heap it d i n ep ok ov)(hod:s.heap.get? d=some o)(hdd:o.data=.dict es ep)(hn:es.size=n)(hx:n<=i)
  (hQ:∀h',Heap.ExtBut it s.heap h'->Q none { s with heap:=h' }):wpAny (model prog w) A (pyNext (.ref it)) Q E s:=by
 have T:s.TypeIs (.ref it) "dict_itemiterator":=⟨_,hit,Z⟩;have own:Builtin.Dict_items.ownsTuple "dict_itemiterator" = true:=by decide
 have nn:¬((Value.ref d == Value.none)=true):=λz=>Yt z
 unfold pyNext;refine Ya (wpAny_attempt (Jb (name:=Str.ofString "__next__") T F.slot_dict_itemiterator_next (Y8 F.slot_dict_itemiterator_next T F.entry_dict_itemiterator_next ?_ (F.args_dict_itemiterator_next_1 _))));refine Ya (Yb (Ya (Ya ?_)));refine Ya (wpAny_typeNameOfWhole_itemiter T (Yb (Ya (wpAny_fieldsOf hit rfl ?_))));simp only[own,if_true];show wpAny _ _ (if (Value.ref d == Value.none)=true then _ else _) _ _ s;rw[Yh nn];refine Ya (Yb (Ya (Y7 hod hdd ?_)));rw[Yh (by rw[hn];simp)];refine Ya (Yb (Ya (wpAny_dictEpoch hod hdd ?_)));rw[Yh (by simp)];have lt:¬((i:Int)<0):=by omega
 have hx':es[i]? = none:=Array.getElem?_eq_none (by omega);refine Yb ?_;simp only[lt,if_false,Int.toNat_natCast,hx'];refine Ya (Ya (wpAny_typeNameOfWhole_itemiter T (Yb ?_)));show wpAny _ _ (setField (.ref it) 2 .none >>= _) _ _ s;refine Ya (wpAny_setField hit rfl (by simp) ?_);refine zl9 (A:=A) (A':=A.in1) (E':=E) hh λh' k=>?_
 exact hQ h' λb o hb e=>k b o ((Heap.SameBut.update ..).extBut b o hb e)
end
end L2
namespace L2
open PySem PySem.Spec PyProof.Rows
theorem Paired.at'{α β : Type}{F : α->β->Prop}:∀{l:List α} {m:List β},Paired F l m->∀{i:Nat} {a : α},l[i]? = some a->∃b,m[i]? = some b/\F a b
 | _,_,.nil,i,a,h=>by simp at h
 | _,_,.cons r _,0,a,h=>by simp at h;subst h;exact⟨_,rfl,r⟩
 | _,_,.cons _ t,i+1,a,h=>by
  rw[List.getElem?_cons_succ]at h;obtain⟨b,h1,h2⟩:=Paired.at' t h;exact⟨b,by rw[List.getElem?_cons_succ];exact h1,h2⟩
def FzD(H:Hp)(d:Addr)(o:Obj)(kvs:List (List Key×V)):Prop:=H d=some (.frz o (.dT kvs))
def ItK(d:Addr)(o:Obj)(kvs:List (List Key×V)):It:=
 ⟨λi H=>FzD H d o kvs/\i<kvs.length,λi H x H'=>H'=H/\∃b k v,kvs[i]? = some (k,v)/\H b=some (.tup (k.map kV))/\x=.ref b,λi H=>FzD H d o kvs/\kvs.length<=i⟩
def ItI(d:Addr)(o:Obj)(kvs:List (List Key×V)):It:=
 ⟨λi H=>FzD H d o kvs/\i<kvs.length,λi H x H'=>∃p b k v,H p=none/\kvs[i]? = some (k,v)/\H b=some (.tup (k.map kV))/\x=.ref p/\H'=upd H p (.tup [.ref b,v]),λi H=>FzD H d o kvs/\kvs.length<=i⟩
section
variable{X:Cx}{pins:List (Addr×Obj)}{σ : St}{H:Hp}{s:Shared}{d:Addr}{o:Obj}{kvs:List (List Key×V)}{es:Array DictEntry}{ep:Nat}
theorem Inv.entries(I:Inv X pins σ H s)(e:FzD H d o kvs)(hdd:o.data=.dict es ep) :
  s.heap.get? d=some o/\es.size=kvs.length/\∀(i:Nat) (k:List Key) (v:V),kvs[i]? = some (k,v)->∃(b:Addr) (e:DictEntry),es[i]? = some e/\e.key=.ref b/\H b=some (.tup (k.map kV))/\RelV v e.val:=by
 obtain⟨hg,z,y,xs,r,o',es',ep',h1,h2,h3,h4,h5⟩:=I.hok d _ e;have eo:o'=o:=Jg (h1.symm.trans hg);subst eo;rw[hdd]at h3;injection h3 with h3 _
 subst h3;refine⟨hg,(size_of_entries h4).trans (Paired.length r).symm,λi k v hx=>?_⟩;obtain⟨⟨k',b,u⟩,q1,q2,q3,q4⟩:=Paired.at' r hx;refine⟨b,entryOfKey (tupleKind (za8 X.prog X.w)) (k',b,u),by rw[entry_at h4 i,q1];rfl,Z,q3,q4⟩
end
theorem zob{P:Program}{w:World}{K:W.Frag}{tg:Expr}{d it:Addr}{o:Obj}{kvs:List (List Key×V)}{es:Array DictEntry}{ep:Nat}(hdd:o.data=.dict es ep) :
  Turn P w K tg (ItK d o kvs) [it] it (λi h=>h.IsKeyIter it d i kvs.length ep) where
 mem:=by simp
 obj:=λi h st b hb=>by
  have e:b=it:=by simpa using hb
  subst e;obtain⟨q,e,c,z⟩:=st;exact⟨q,e,λv y=>by rw[z]at y;cases y⟩
 keep:=λi h h' st k=>st.at λq e=>k it (by simp) q e
 item:=by
  intro X hP hw hK hc i pins s σ H E I hf st hg;subst hP hw hK;obtain⟨fz,lt⟩:=hg;obtain⟨hd,hz,he⟩:=I.entries fz hdd;obtain⟨⟨k,v⟩,hx⟩:∃p,kvs[i]? = some p:=⟨kvs[i],by simp[lt]⟩;obtain⟨b,e,ee,ek,eb,_⟩:=he i k v hx;obtain⟨f0,f1,f2,f3,f4,f5⟩:=hf it (by simp);refine zmx st hd hdd hz ee λh' st' sb=>?_
  have I1:Inv X pins σ H { s with heap:=h' }:=I.turned (t':=s.toks) (λc q hb z=>(sb.2 c hb).trans z) f0 f1 f3 f4 f5;obtain⟨q,e',c,z⟩:=id st';exact⟨e.key,Z,zqn (s:={ s with heap:=h' }) e' c z (by decide) ⟨.ref b,H,I1,by rw[ek];rfl,⟨Z,b,k,v,hx,eb,Z⟩,st',λc hc'=>(hf c hc').1⟩⟩
 done:=by
  intro X hP hw hK hc i pins s σ H E I hf st hg;subst hP hw hK;obtain⟨fz,ge⟩:=hg;obtain⟨hd,hz,he⟩:=I.entries fz hdd;obtain⟨f0,f1,f2,f3,f4,f5⟩:=hf it (by simp);exact zqh (I.ok.hd hc) st hd hdd hz ge λh' eb=>⟨rfl,I.turned (t':=s.toks) (λb q hb e=>eb b q hb e) f0 f1 f3 f4 f5⟩
 self:=λ_ _ _ _ _ st h=>wpAny_pyIter_keyiter st h
theorem zep{prog:Program}{w:World}{A:Around}{E:Value->Shared->Prop}{s:Shared}{it d:Addr}{i n ep:Nat}{ok ov:Value}{Q:Value->Shared->Prop}(hit:IsItemIter s.heap it d i n ep ok ov)(h:Q (.ref it) s) :
  wpAny (model prog w) A (pyIter (.ref it)) Q E s:=by
 have T:s.TypeIs (.ref it) "dict_itemiterator":=⟨_,hit,Z⟩;have en:entryFor table "dict_itemiterator.__iter__" = some Builtin.«dict_keyiterator.__iter__»:=entryFor_alias (id':="dict_keyiterator.__iter__") (by kernel_rfl) rfl (by decide +kernel) (by kernel_rfl);refine wpAny_pyIter_slot T F.slot_dict_itemiterator_iter (Y8 F.slot_dict_itemiterator_iter T en ?_ (F.args_dict_itemiterator_iter_1 _));exact Yb ⟨_,Z,"dict_itemiterator",_,T,F.slot_dict_itemiterator_next.lookup,h⟩
theorem znm{P:Program}{w:World}{K:W.Frag}{xs:List Expr}{xk:Nat}{pos:Pos}{d it:Addr}{o:Obj}{kvs:List (List Key×V)}{es:Array DictEntry}{ep:Nat}(hdd:o.data=.dict es ep) :
  Turn P w K (.Tuple xs xk pos) (ItI d o kvs) [it] it (λi h=>∃ok ov,IsItemIter h it d i kvs.length ep ok ov) where
 mem:=by simp
 obj:=λi h ⟨ok,ov,st⟩ b hb=>by
  have e:b=it:=by simpa using hb
  subst e;exact⟨_,st,λv y=>by cases y⟩
 keep:=λi h h' ⟨ok,ov,st⟩ k=>⟨ok,ov,k it (by simp) _ st⟩
 item:=by
  intro X hP hw hK hc i pins s σ H E I hf st hg;subst hP hw hK;obtain⟨ok,ov,st⟩:=st;obtain⟨fz,lt⟩:=hg;obtain⟨hd,hz,he⟩:=I.entries fz hdd;obtain⟨⟨k,v⟩,hx⟩:∃p,kvs[i]? = some p:=⟨kvs[i],by simp[lt]⟩;obtain⟨b,e,ee,ek,eb,rv⟩:=he i k v hx;have lit:it<s.heap.objs.size:=Yn st;refine zoa st hd hdd hz ee λh' st' tp sz kp=>?_
  refine⟨_,Z,wpAny_letOwnedTupleGo_items st' λh'' st2 sb=>?_⟩;have tp2:h''.get? s.heap.objs.size=some { cls:=.type "tuple",data:=.seq #[e.key,e.val] }:=sb.extBut _ _ (Nat.ne_of_gt lit) tp;have kp2:∀c q,c ∉ [it]->s.heap.get? c=some q->h''.get? c=some q:=λc q hc z=>sb.extBut c q (by simpa using hc) (kp c q (by simpa using hc) z)
  refine⟨.ref s.heap.objs.size,upd H s.heap.objs.size (.tup [.ref b,v]),I.drawn (t':=s.toks) (ch:=[it]) (λc hc=>hf c hc) kp2 (Yi _) ?_,Z,⟨_,b,k,v,I.fresh,hx,eb,Z,Z⟩,⟨_,_,st2⟩,λc hc=>?_⟩
  ·exact⟨by show 2<=sizeLine;rw[sizeLine_eq];decide,[e.key,e.val],.cons (by rw[ek];rfl) (.cons rv .nil),⟨_,tp2,Z,_,Z⟩⟩
  ·have e:c=it:=by simpa using hc
   subst e;rw[zai (Y0 lit)];exact(hf c (by simp)).1
 done:=by
  intro X hP hw hK hc i pins s σ H E I hf st hg;subst hP hw hK;obtain⟨ok,ov,st⟩:=st;obtain⟨fz,ge⟩:=hg;obtain⟨hd,hz,he⟩:=I.entries fz hdd;obtain⟨f0,f1,f2,f3,f4,f5⟩:=hf it (by simp);exact zrg (I.ok.hd hc) st hd hdd hz ge λh' eb=>⟨rfl,I.turned (t':=s.toks) (λb q hb e=>eb b q hb e) f0 f1 f3 f4 f5⟩
 self:=λ_ _ _ _ _ ⟨_,_,st⟩ h=>zep st h
end L2
namespace L2
open PySem PySem.Spec PyProof.Rows
section
variable{prog:Program}{w:World}{A:Around}{E:Value->Shared->Prop}{s:Shared}{d:Addr}{ep:Nat}{es:Array DictEntry}{o:Obj}
theorem zkc{Q:Value->Shared->Prop}(hs:(d == sysModules)=false)(T:s.TypeIs (.ref d) "dict")(ho:s.heap.get? d=some o)(hdd:o.data=.dict es ep)
  (hQ:Q (.ref s.heap.objs.size) { s with heap:=s.heap.push { cls:=.type "dict_keyiterator",data:=.fields #[.ref d,.int 0 0,.int es.size 0,.int ep 0] } }):wpAny (model prog w) A (pyIter (.ref d)) Q E s:=by
 refine wpAny_pyIter_slot T F.slot_dict_iter (Y8 F.slot_dict_iter T F.entry_dict_iter ?_ (F.args_dict_iter_1 _));unfold Builtin.«dict.__iter__»;refine Ya ?_;unfold Builtin.Dict.dictSlotNone;refine Ya (wpAny_notOrdered_dict T (Yb ?_));have no:¬((d == sysModules)=true):=by rw[hs];exact Yt
 show wpAny _ _ (Builtin.Dict.showsAll d >>= _) _ _ s;unfold Builtin.Dict.showsAll;rw[Yh no];refine Ya (Yb (Ya (Y7 ho hdd (Ya (wpAny_dictEpoch ho hdd ?_)))));exact Ya (Jo (Yb ⟨_,Z,"dict_keyiterator",_,⟨_,Yk _ rfl,Z⟩,F.slot_dict_keyiterator_next.lookup,hQ⟩))
theorem dict_items{Q:Value->Shared->Prop}(hs:(d == sysModules)=false)(T:s.TypeIs (.ref d) "dict")(hQ:Q (.ref s.heap.objs.size) { s with heap:=s.heap.push { cls:=.type "dict_items",data:=.fields #[.ref d] } }) :
  wpAny (model prog w) A (call (.builtin "dict.items") [.ref d]) Q E s:=by
 refine Y8 F.slot_dict_items T F.entry_dict_items ?_ (F.args_dict_items_1 _);have no:¬((d == sysModules)=true):=by rw[hs];exact Yt
 unfold Builtin.«dict.items»;refine Ya ?_;unfold Builtin.Dict.noArgs;refine Ya (wpAny_notOrdered_dict T (Yb ?_));show wpAny _ _ (Builtin.Dict.showsAll d >>= _) _ _ s;unfold Builtin.Dict.showsAll;rw[Yh no];exact Ya (Yb (Ya (Jo (Yb ⟨_,Z,hQ⟩))))
theorem zo8{v:Addr}{Q:Value->Shared->Prop}(hv:s.heap.IsItemsView v d)(ho:s.heap.get? d=some o)(hdd:o.data=.dict es ep)
  (hQ:Q (.ref s.heap.objs.size) { s with heap:=s.heap.push { cls:=.type "dict_itemiterator",data:=.fields #[.none,.bool false,.ref d,.int 0 0,.int es.size 0,.int ep 0,.none,.none] } }):wpAny (model prog w) A (pyIter (.ref v)) Q E s:=by
 obtain⟨q,hq,hc,hdv⟩:=id hv;have own:Builtin.Dict_items.ownsTuple "dict_itemiterator" = true:=by decide
 refine wpAny_pyIter_slot hv.typeIs F.slot_dict_items_iter (Y8 F.slot_dict_items_iter hv.typeIs F.entry_dict_items_iter ?_ (F.args_dict_items_iter_1 _));unfold Builtin.«dict_items.__iter__»;refine Ya (Yb (Ya ?_));unfold Builtin.Dict_items.dictOf;refine Ya (Jl hq hdv (x:=.ref d) rfl (Yb (Ya ?_)));unfold Builtin.Dict_items.newIterator;refine Ya (Y7 ho hdd (Ya (wpAny_dictEpoch ho hdd ?_)));simp only[own,if_true];refine Jo (Yb ⟨_,Z,"dict_itemiterator",_,⟨_,Yk _ rfl,Z⟩,F.slot_dict_itemiterator_next.lookup,?_⟩) (by simp only[sizeOk,Builtin.Dict_items.ownedTupleFields,List.size_toArray,List.length_append,List.length_cons,List.length_nil,sizeLine_eq];omega);simpa[rawInt,Builtin.Dict_items.ownedTupleFields]using hQ
end
def zzb(td:TE):TI:=λσ H R=>td σ H λx H1=>∃d kvs,x=.ref d/\Rd H1 d (.dT kvs)/\∀o,R (ItK d o kvs) (upd H1 d (.frz o (.dT kvs)))
def zt4(td:TE):TI:=λσ H R=>td σ H λx H1=>∃d kvs,x=.ref d/\Rd H1 d (.dT kvs)/\∀o,R (ItI d o kvs) (upd H1 d (.frz o (.dT kvs)))
section
variable{X:Cx}{tg:Expr}{pins:List (Addr×Obj)}{σ : St}{H:Hp}{s:Shared}{d:Addr}{kvs:List (List Key×V)}
theorem Inv.still(I:Inv X pins σ H s)(e:Rd H d (.dT kvs)):∃(o:Obj) (es:Array DictEntry) (ep:Nat),s.heap.get? d=some o/\s.TypeIs (.ref d) "dict"/\(∀b,Value.ref d=.ref b->∃ob,s.heap.get? b=some ob/\ob.dict=none)/\(d == sysModules)=false /\
  o.data=.dict es ep/\es.size=kvs.length/\Inv X pins σ (upd H d (.frz o (.dT kvs))) s:=by
 obtain⟨z,hd,xs,rel,o,es,ep,h1,h2,h3,h4,h5,h6⟩:=zgh I.hok e;have T:s.TypeIs (.ref d) "dict":=⟨o,h1,h2.1⟩;refine⟨o,es,ep,h1,T,λb q=>?_,hd,h3,(size_of_entries h4).trans (Paired.length rel).symm,?_⟩
 ·cases q;exact⟨o,h1,h2.2.1⟩
 rcases e with e | ⟨o',e⟩
 ·exact I.freeze e h1
 ·have q:s.heap.get? d=some o':=(I.hok d _ e).1;have eo:o'=o:=Jg (q.symm.trans h1);subst eo;have:upd H d (.frz o' (.dT kvs))=H:=by
   funext b;unfold upd;split
   ·rename_i z;rw[z,e]
   ·rfl
  rw[this];exact I
theorem zwh{l:Expr}{tl:TE}(hl:PE X l tl):PI X tg l (zzb tl):=by
 intro pins s σ H R I h;refine thn (hl pins s σ H _ I h) λv s1 ⟨x,H1,I1,r1,d,kvs,ex,e,q⟩=>?_
 subst ex
 cases r1;obtain⟨o,es,ep,ho,T,_,hs,hdd,hz,I2⟩:=I1.still e;refine zkc hs T ho hdd ⟨s1.heap.objs.size,[s1.heap.objs.size],_,_,_,Z,I2.kept (t':=s1.toks) λb q z=>Ye _ z,zob hdd,⟨_,Yk _ rfl,Z,by rw[hz];rfl⟩,λb hb=>?_,q o⟩;have eb:b=s1.heap.objs.size:=by simpa using hb
 subst eb;exact I2.fpOk (Yi _) (I2.hok.fresh (Yi _))
theorem zf9{xs:List Expr}{xk:Nat}{tp apos cpos:Pos}{o:Expr}{to:TE}(ho:PE X o to)(hbase:attributeBase o "items" X.env (eval o X.env)=eval o X.env:=by rfl)(hline:(apos.endLine == cpos.line)=true:=by rfl) :
  PI X (.Tuple xs xk tp) (.Call (.Attribute o "items" apos) [] [] cpos) (zt4 to):=by
 intro pins s σ H R I h;refine wpAny_Call_method0_late hbase hline (thn (ho pins s σ H _ I h) λv s1 ⟨x,H1,I1,r1,d,kvs,ex,e,q⟩=>?_);subst ex
 cases r1;obtain⟨ob,es,ep,hob,T,nd,hs,hdd,hz,I2⟩:=I1.still e;refine⟨"dict","dict.items",PySem.F.plainAttrs_dict,PySem.F.slot_dict_items,PySem.F.type_dict_items,T,nd,Calls.callWith_builtin rfl (PySem.evalArgs_none (dict_items hs T ?_))⟩;have I3:=I2.kept (t':=s1.toks) (h':=s1.heap.push { cls:=.type "dict_items",data:=.fields #[.ref d] }) λb q z=>Ye _ z
 refine zo8 ⟨_,Yk _ rfl,Z,Z⟩ (Ye _ hob) hdd ?_;refine⟨_,[_],_,_,_,Z,I3.kept (t':=s1.toks) λb q z=>Ye _ z,znm hdd,⟨_,_,by rw[<- hz];exact Yk _ rfl⟩,λb hb=>?_,q ob⟩;have eb:=Yq.mp hb;subst eb;exact I3.fpOk (Yi _) (I3.hok.fresh (Yi _))
end
end L2
namespace L2
open PySem PySem.Spec PyProof.Rows
section
variable{prog:Program}{w:World}{κ : Type}[DecidableEq κ]{knd:HeapKind prog w κ}{A:Around}{E:Value->Shared->Prop}{s:Shared}
inductive HHits(A:Around)(s:Shared)(ys:List (κ×Addr×Value)):List (κ×Addr×Value)->Bool->Prop
 | nil:HHits A s ys [] true
 | miss {x : κ×Addr×Value} {r:List (κ×Addr×Value)}:atKey ys x.1=none->HHits A s ys (x::r) false
 | hit {x : κ×Addr×Value} {p:Addr×Value} {r:List (κ×Addr×Value)} {e c:Bool}:atKey ys x.1=some p->SeqAt.EqAt A s x.2.2 p.2 e->HHits A s ys r c->HHits A s ys (x::r) (e&&c)
theorem HHits.inv{ys:List (κ×Addr×Value)}{x : κ×Addr×Value}{r:List (κ×Addr×Value)}{c:Bool}(h:HHits A s ys (x::r) c) :
  (atKey ys x.1=none/\c=false)\/∃p e c',atKey ys x.1=some p/\SeqAt.EqAt A s x.2.2 p.2 e/\HHits A s ys r c'/\c=(e&&c'):=by
 cases h with
 | miss a=>exact .inl ⟨a,rfl⟩
 | hit a b c=>exact .inr ⟨_,_,_,a,b,c,rfl⟩
theorem zid{nm:String}{a b:Addr}{xs ys:List (κ×Addr×Value)}{r:Bool}{Q:Bool->Shared->Prop}(hu:knd.room A)(ha:(a == sysModules)=false)(hb:(b == sysModules)=false)(da:s.heap.DictOfH knd a xs)(db:s.heap.DictOfH knd b ys)
  (hits:xs.length=ys.length->HHits A s ys xs r) (h:Q (xs.length == ys.length&&r) s):wpAny (model prog w) A (Builtin.Dict.samePairs nm a b) Q E s:=by
 obtain⟨oa,ea,pa,ga,_,ta,la,ka,na⟩:=da;obtain⟨ob,eb,pb,gb,_,tb,lb,kb,nb⟩:=db;have za:ea.size=xs.length:=size_of_entries la;have zb:eb.size=ys.length:=size_of_entries lb;have no1:¬((a == sysModules)=true):=by rw[ha];exact Yt
 have no2:¬((b == sysModules)=true):=by rw[hb];exact Yt
 unfold Builtin.Dict.samePairs Builtin.Dict.showsAll;rw[Yh no1,Yh no2];refine Ya (Yb (Ya (Yb (Ya (Y7 ga ta ?_)))));dsimp only;refine Ya (Y7 gb tb ?_);by_cases hz:xs.length=ys.length
 case neg=>
  have q1:(ea.size != eb.size)=true:=by rw[za,zb];simpa using hz
  have q2:(xs.length == ys.length)=false:=by simpa using hz
  rw[Yl q1];rw[q2,Bool.false_and]at h;exact Ya (wpAny_rule (Yb h))
 have q1:¬((ea.size != eb.size)=true):=by rw[za,zb,hz];simp
 have h':Q r s:=by simpa[hz]using h
 rw[Yh q1];refine Ya (wpAny_dictEpoch ga ta (Ya ?_));rw[Std.Legacy.Range.forIn_eq_forIn_range'];simp only[Std.Legacy.Range.size,Nat.sub_zero,Nat.add_sub_cancel,Nat.div_one];refine wpAny_forIn_list _ (λrest c s'=>s'=s/\c=(none,())/\∃i,rest=List.range' i (ea.size-i)/\i<=ea.size/\HHits A s ys (xs.drop i) r) _ ?_ ?_ _ _ ⟨Z,Z,0,by simp,Y2 _,hits hz⟩
 ·rintro x rest c s' ⟨rfl,rfl,i,er,hi,hp⟩;have lt:i<ea.size:=Nat.lt_of_not_le λz=>by rw[Nat.sub_eq_zero_of_le z]at er;simp at er
  have es:ea.size-i=(ea.size-(i+1))+1:=by omega
  rw[es,List.range'_succ]at er;injection er with e1 e2;subst e1
  have lx:x<xs.length:=by omega
  have ex:ea[x]? = some (entryOfKey knd xs[x]):=by rw[entry_at la x,Yc lx];rfl
  have dr:xs.drop x=xs[x]::xs.drop (x+1):=List.drop_eq_getElem_cons lx;refine Ya (Y7 ga ta ?_);rw[ex];rw[dr]at hp;show wpAny _ _ (holding [Value.ref xs[x].2.1,xs[x].2.2] _ >>= _) _ _ _;refine Ya (Jr (Ya (wpAny_dictFind_heap hu (ka _ (Jw lx)) gb tb lb kb nb (λno=>?_) λj p hj=>?_)))
  ·rcases hp.inv with⟨_,er⟩ | ⟨p,_,_,hy,_⟩
   ·rw[er]at h';refine Yb ?_;show wpAny _ _ (if (!false)=true then _ else _) _ _ _;rw[Yl (by decide)];exact Yb (Yb h')
   ·rw[atKey_none_of_get no]at hy;cases hy
  ·have lj:eb[j]? = some (entryOfKey knd (xs[x].1,p)):=by rw[entry_at lb j,hj];rfl
   refine Ya (Y7 gb tb ?_);rw[lj];rcases hp.inv with⟨hn,_⟩ | ⟨p',e,c',hy,he,hr,er⟩
   ·rw[atKey_of_get nb hj]at hn;cases hn
   rw[atKey_of_get nb hj]at hy;injection hy with hy;subst hy
   refine Jr (he prog w _ _ ?_)
   cases e with
   | false=>rw[er,Bool.false_and]at h';show wpAny _ _ (if (!false)=true then _ else _) _ _ _;rw[Yl (by decide)];exact Yb (Yb h')
   | true=>
    rw[Bool.true_and]at er;rw[<- er]at hr;show wpAny _ _ (if (!true)=true then _ else _) _ _ _;rw[Yh (by decide)];refine Ya (wpAny_dictEpoch ga ta ?_);rw[Yh (by simp)];exact Yb ⟨Z,Z,x+1,e2,lt,hr⟩
 ·rintro c s' ⟨rfl,rfl,i,er,hi,hp⟩;have ei:i=ea.size:=Nat.le_antisymm hi (Nat.le_of_not_lt λz=>by
   have es:ea.size-i=(ea.size-(i+1))+1:=by omega
   rw[es,List.range'_succ]at er;cases er)
  refine Yb ?_;rw[ei,za,List.drop_length]at hp;cases hp;exact h'
theorem zme{a b:Addr}{xs ys:List (κ×Addr×Value)}{r:Bool}{Q:Value->Shared->Prop}(hu:knd.room A.in1)(hc:A.units<cLine)(ha:(a == sysModules)=false)(hb:(b == sysModules)=false)(da:s.heap.DictOfH knd a xs)(db:s.heap.DictOfH knd b ys)
  (hits:xs.length=ys.length->HHits A.in1 s ys xs r) (h:Q (.bool (xs.length == ys.length&&r)) s):wpAny (model prog w) A (compareOp .Eq (.ref a) (.ref b)) Q E s:=by
 refine Ju (op:=.Eq) da.typeIs db.typeIs PySem.F.slot_dict_eq (Y8 PySem.F.slot_dict_eq da.typeIs PySem.F.entry_dict_eq ?_ (PySem.F.args_dict_eq_2 _ _)) hc;show wpAny _ _ (Builtin.Dict.dictSlotArgs "__eq__" ⟨[.ref a,.ref b],[]⟩ >>= _) _ _ s;refine Ya ?_;unfold Builtin.Dict.dictSlotArgs;refine Ya (wpAny_notOrdered_dict da.typeIs (Yb ?_));refine Ya (wpAny_isInstance (T:="dict") db.typeIs PySem.F.sub_dict_dict ?_);simp only[Bool.not_true,Bool.false_eq_true,if_false];refine Ya (Yb (Ya (Yb (Ya (zid hu ha hb da db hits (Yb ⟨_,Z,(λx=>nomatch x),?_⟩))))));simpa using h
theorem zsu{a b:Addr}{xs ys:List (κ×Addr×Value)}{r:Bool}{Q:Value->Shared->Prop}(hu:knd.room A.in1)(hc:A.units<cLine)(ha:(a == sysModules)=false)(hb:(b == sysModules)=false)(da:s.heap.DictOfH knd a xs)(db:s.heap.DictOfH knd b ys)
  (hits:xs.length=ys.length->HHits A.in1 s ys xs r) (h:Q (.bool (!(xs.length == ys.length&&r))) s):wpAny (model prog w) A (compareOp .NotEq (.ref a) (.ref b)) Q E s:=by
 refine Ju (op:=.NotEq) da.typeIs db.typeIs PySem.F.slot_dict_ne (Y8 PySem.F.slot_dict_ne da.typeIs PySem.F.entry_dict_ne ?_ (PySem.F.args_dict_ne_2 _ _)) hc;show wpAny _ _ (Builtin.Dict.dictSlotArgs "__ne__" ⟨[.ref a,.ref b],[]⟩ >>= _) _ _ s;refine Ya ?_;unfold Builtin.Dict.dictSlotArgs;refine Ya (wpAny_notOrdered_dict da.typeIs (Yb ?_));refine Ya (wpAny_isInstance (T:="dict") db.typeIs PySem.F.sub_dict_dict ?_);simp only[Bool.not_true,Bool.false_eq_true,if_false];refine Ya (Yb (Ya (Yb (Ya (zid hu ha hb da db hits (Yb ⟨_,Z,(λx=>nomatch x),?_⟩))))));simpa using h
end
end L2
namespace L2
open PySem PySem.Spec PyProof.Rows
def KDs(K:W.Frag)(H:Hp):List (List Key×V)->List (List Key×PyData)->Prop:=Paired λp q=>p.1=q.1/\Rds K H p.2 q.2
def zeo(ys:List (List Key×PyData))(k:List Key):Option PyData:=(ys.find? λq=>decide (q.1=k)).map (·.2)
def eqKD(xs ys:List (List Key×PyData)):Bool:=xs.length == ys.length&&xs.all λp=>match zeo ys p.1 with | some d=>PyData.eqv p.2 d | none=>false
def Flats(xs:List (List Key×PyData)):Prop:=∀p∈xs,p.2.canLay0=true/\p.2.depth<=60
section
variable{X:Cx}{pins:List (Addr×Obj)}{σ : St}{H:Hp}{s:Shared}
theorem zjs(I:Inv X pins σ H s):∀{kb:List (List Key×V)} {ys:List (List Key×Addr×Value)} {db:List (List Key×PyData)},KT H kb ys->KDs X.K H kb db->Flats db->∀k:List Key,
  (atKey ys k=none/\zeo db k=none)\/∃p d as,atKey ys k=some p/\zeo db k=some d/\Reads s.heap p.2 d as/\d.canLay0=true/\d.depth<=60
 | _,_,_,.nil,.nil,_,_=>.inl ⟨rfl,rfl⟩
 | _,_,_,.cons (a:=a) (b:=b) r t,.cons (b:=c) q u,fl,k=>by
  obtain⟨r1,r2,r3⟩:=r;obtain⟨q1,q2⟩:=q;by_cases e:a.1=k
  ·have e1:b.1=k:=r1.symm.trans e;have e2:c.1=k:=q1.symm.trans e;obtain⟨as,rd⟩:=I.rds q2 r3;obtain⟨f1,f2⟩:=fl c (.head _);exact .inr ⟨b.2,c.2,as,by simp[atKey,List.find?_cons,e1],by simp[zeo,List.find?_cons,e2],rd,f1,f2⟩
  ·have e1:¬b.1=k:=λz=>e (r1.trans z)
   have e2:¬c.1=k:=λz=>e (q1.trans z)
   have z1:∀l,atKey (b::l) k=atKey l k:=λl=>by simp[atKey,List.find?_cons,e1]
   have z2:∀l,zeo (c::l) k=zeo l k:=λl=>by simp[zeo,List.find?_cons,e2]
   rw[z1,z2];exact zjs I t u (λp hp=>fl p (.tail _ hp)) k
theorem zi4{A:Around}(hu:A.units+61<cLine)(I:Inv X pins σ H s){kb:List (List Key×V)}{ys:List (List Key×Addr×Value)}{db:List (List Key×PyData)}(tb:KT H kb ys)(qb:KDs X.K H kb db)(fb:Flats db) :
  ∀{ka:List (List Key×V)} {xs:List (List Key×Addr×Value)} {da:List (List Key×PyData)},KT H ka xs->KDs X.K H ka da->Flats da->HHits A s ys xs (da.all λp=>match zeo db p.1 with | some d=>PyData.eqv p.2 d | none=>false)
 | _,_,_,.nil,.nil,_=>.nil
 | _,_,_,.cons (a:=a) (b:=b) r t,.cons (b:=c) q u,fl=>by
  obtain⟨r1,r2,r3⟩:=r;obtain⟨q1,q2⟩:=q;have ih:=zi4 hu I tb qb fb t u λp hp=>fl p (.tail _ hp)
  obtain⟨as,rd⟩:=I.rds q2 r3;obtain⟨f1,f2⟩:=fl c (.head _);rw[List.all_cons];rcases zjs I tb qb fb b.1 with⟨h1,h2⟩ | ⟨p,d,bs,h1,h2,h3,h4,h5⟩
  ·rw[<- r1,q1]at h2;rw[h2];exact .miss h1
  ·rw[<- r1,q1]at h2;rw[h2];refine .hit h1 (SeqAt.eqAt_reads c.2 d A s _ _ as bs rd h3 f1 h4 ?_) ih;have:=Nat.min_le_left c.2.depth d.depth;omega
end
def zth(K:W.Frag)(neg:Bool):R2:=λx y H Q=>∃(a b:Addr) (ka kb:List (List Key×V)) (da db:List (List Key×PyData)),x=.ref a/\y=.ref b/\Rd H a (.dT ka)/\Rd H b (.dT kb)/\KDs K H ka da/\KDs K H kb db/\Flats da/\Flats db/\Q (.bl (xor neg (eqKD da db))) H
section
variable{X:Cx}
theorem zk1(hu:X.A.units+64<cLine):OpR X (compareOp .Eq) (zth X.K false):=by
 intro pins s σ H x y u v Q I rx ry h;obtain⟨a,b,ka,kb,da,db,rfl,rfl,ha,hb,qa,qb,fa,fb,q⟩:=h
 cases rx
 cases ry;obtain⟨_,sa,xs,ta,ea⟩:=zgh I.hok ha;obtain⟨_,sb,ys,tb,eb⟩:=zgh I.hok hb;have lx:xs.length=da.length:=(Paired.length ta).symm.trans (Paired.length qa);have ly:ys.length=db.length:=(Paired.length tb).symm.trans (Paired.length qb);refine zme (knd:=tupleKind (za8 X.prog X.w)) (tupleKind_room_in1 (by omega)) (by omega) sa sb ea eb (λ_=>zi4 (by show X.A.units+1+61<cLine;omega) I tb qb fb ta qa fa) ⟨.bl _,H,I,Z,?_⟩;rw[lx,ly];have:(false ^^ eqKD da db)=eqKD da db:=Bool.false_xor _;rw[this]at q;exact q
theorem zwm(hu:X.A.units+64<cLine):OpR X (compareOp .NotEq) (zth X.K true):=by
 intro pins s σ H x y u v Q I rx ry h;obtain⟨a,b,ka,kb,da,db,rfl,rfl,ha,hb,qa,qb,fa,fb,q⟩:=h
 cases rx
 cases ry;obtain⟨_,sa,xs,ta,ea⟩:=zgh I.hok ha;obtain⟨_,sb,ys,tb,eb⟩:=zgh I.hok hb;have lx:xs.length=da.length:=(Paired.length ta).symm.trans (Paired.length qa);have ly:ys.length=db.length:=(Paired.length tb).symm.trans (Paired.length qb);refine zsu (knd:=tupleKind (za8 X.prog X.w)) (tupleKind_room_in1 (by omega)) (by omega) sa sb ea eb (λ_=>zi4 (by show X.A.units+1+61<cLine;omega) I tb qb fb ta qa fa) ⟨.bl _,H,I,Z,?_⟩;rw[lx,ly];have:(true ^^ eqKD da db) = !eqKD da db:=Bool.true_xor _;rw[this]at q;exact q
theorem zwn{pins:List (Addr×Obj)}{σ : St}{H:Hp}{s:Shared}{A:Around}{E:Value->Shared->Prop}{a b:Addr}{kvs:List (List Key×V)}{k:List Key}{v:V}{r:Value}{Q:Unit->Shared->Prop}(hu:A.units<cLine)(I:Inv X pins σ H s)(e:H a=some (.dT kvs))(eb:H b=some (.tup (k.map kV)))
  (l:kvs.length<sizeLine) (rv:RelV v r) (h:∀s',Inv X pins σ (upd H a (.dT (putK kvs k v))) s'->Q () s'):wpAny (model X.prog X.w) A (dictSet a (.ref b) r) Q E s:=by
 obtain⟨z,hd,xs,rel,dd⟩:=zr3 I.hok e;have hz:xs.length<=sizeLine:=by rw[<- Paired.length rel];exact z
 have hl:(putK kvs k v).length<=sizeLine:=by have:=zcy kvs k v;omega
 refine wpAny_dictSet_heap (hsz:=hz) (knd:=tupleKind (za8 X.prog X.w)) hu (zhk I.hok eb) dd λh' dd' hs=>h _ ?_
 obtain⟨q,es,ep,hq,h2,h3,h4,_,h5⟩:=dd';refine ziz I (by rw[e];exact True.intro) hs ⟨q,hq⟩ ⟨hl,hd,_,(rel.put k eb rv).keeps λc ys ec=>?_,q,es,ep,hq,h2,h3,h4,h5⟩;rw[zai (zbs ec e (λz=>nomatch z))];exact ec
def zxz(tk tv:TE):TE:=λσ H Q=>∀p,H p=none->tk σ (upd H p (.dT [])) λx H1=>tv σ H1 λy H2=>∃b ks,x=.ref b/\H2 p=some (.dT [])/\H2 b=some (.tup (ks.map kV))/\Q (.ref p) (upd H2 p (.dT [(ks,y)]))
theorem zry{pos:Pos}{k v:Expr}{tk tv:TE}(hu:X.A.units<cLine)(hk:PE X k tk)(hv:PE X v tv):PE X (.Dict [some k] [v] pos) (zxz tk tv):=by
 intro pins s σ H Q I q;have hn:=I.hok.fresh (Yi s.heap.objs.size);have I1:=I.laid (a:=s.heap.objs.size) (o:=.dT []) (h':=s.heap.push { cls:=.type "dict",data:=.dict #[] }) (t':=s.toks) (λ_ _ q=>Ye _ q) (Yi _) (zlv s.heap I.big);refine wpAny_Dict_any rfl rfl (by simp) (by simp) ?_;have P:PPs X pos [some k] [v] [(tk,tv)]:=zrz hk hv zu3;refine thn (P pins _ σ _ (λps H2=>match ps with | [(x,y)]=>∃b ks,x=.ref b/\H2 s.heap.objs.size=some (.dT [])/\H2 b=some (.tup (ks.map kV))/\Q (.ref s.heap.objs.size) (upd H2 s.heap.objs.size (.dT [(ks,y)])) | _=>False) I1 (q _ hn)) λws s2 ⟨ps,H2,I2,rel,hq⟩=>?_
 rcases ws with _ | ⟨⟨c1,c2⟩,ws⟩
 ·cases rel;exact hq.elim
 cases rel with
 | cons r t=>
  cases t with
  | cons _ _=>exact hq.elim
  | nil=>
   obtain⟨r1,r2⟩:=r;obtain⟨b,ks,ex,e1,e2,q2⟩:=hq;dsimp only at ex r1 r2;rw[ex]at r1;obtain rfl:c1=Value.ref b:=r1;unfold storeAll;rw[List.forIn_cons];refine Ya (Ya (zwn hu I2 e1 e2 (by rw[sizeLine_eq];decide) r2 λs3 I3=>Yb ?_));exact Yb ⟨.ref s.heap.objs.size,_,I3,Z,q2⟩
end
end L2
namespace L2
open PySem PySem.Spec PyProof.Rows
def Ends.thw(H0:Hp)(D:Ends):Ends:={ D with nx:=λσ H=>Thw H0 H (D.nx σ),rt:=λv H=>Thw H0 H (D.rt v) }
section
variable{X:Cx}{st:Stmt}{ss:List Stmt}{t:TS}
theorem SP.thw{pins:List (Addr×Obj)}{D:Ends}{f:Flow}{s:Shared}(h:SP X pins (D.thw X.H₀) f s):SP X pins D f s:=by
 cases f with
 | next=>obtain⟨σ,H,I,q⟩:=h;obtain⟨H',I',q'⟩:=Thw.inv (K:=D.nx σ) q I;exact⟨σ,H',I',q'⟩
 | brk=>exact h
 | cont=>exact h
 | ret u=>obtain⟨v,σ,H,I,r,q⟩:=h;obtain⟨H',I',q'⟩:=Thw.inv (K:=D.rt v) q I;exact⟨v,σ,H',I',r,q'⟩
theorem zii(h:PS X st t):PS X st (λD σ H=>t (D.thw X.H₀) σ H):=λpins s σ H D I q=>thn (h pins s σ H _ I q) λ_ _ z=>z.thw
end
end L2
set_option Elab.async false
set_option linter.all false
set_option maxRecDepth 100000
namespace L2
open PySem PySem.Spec PyProof.Rows
theorem zfa{α β : Type}(f : α->β):∀(l:List α) (j:Nat),(l.map f).eraseIdx j=(l.eraseIdx j).map f
 | [],j=>by simp
 | x::l,0=>by simp
 | x::l,j+1=>by simp[zfa f l j]
theorem zgz{κ β : Type}[DecidableEq κ]:∀{xs:List (κ×β)} (_:(xs.map (·.1)).Nodup) {j:Nat} {k : κ} {q : β},xs[j]? = some (k,q)->xs.eraseIdx j=xs.filter λx=>decide (x.1≠k)
 | [],_,j,k,q,h=>by simp at h
 | x::r,hn,0,k,q,h=>by
  simp at h;subst h
  rw[Yz,List.nodup_cons]at hn;rw[List.eraseIdx_cons_zero,List.filter_cons,Yh (by simp)];refine(Yu.mpr λy hy=>?_).symm;have:y.1≠k:=λe=>hn.1 (Jj.mpr ⟨y,hy,e⟩)
  simpa using this
 | x::r,hn,j+1,k,q,h=>by
  rw[List.getElem?_cons_succ]at h;rw[Yz,List.nodup_cons]at hn;have:x.1≠k:=λe=>hn.1 (Jj.mpr ⟨(k,q),Yx h,e.symm⟩)
  rw[List.eraseIdx_cons_succ,List.filter_cons,Yl (by simpa using this),zgz hn.2 h]
section
variable{prog:Program}{w:World}{κ : Type}[DecidableEq κ]{knd:HeapKind prog w κ}{A:Around}{E:Value->Shared->Prop}{s:Shared}
theorem zra{d a:Addr}{xs:List (κ×Addr×Value)}{k : κ}{p:Addr×Value}{Q:Value->Shared->Prop}(hu:knd.room A.in1)(hkey:knd.is s.heap k a)(hz:xs.length<=sizeLine)(dd:s.heap.DictOfH knd d xs)(hp:atKey xs k=some p)
  (h:∀h',h'.DictOfH knd d (xs.filter λx=>decide (x.1≠k))->Heap.SameBut d s.heap h'->Q p.2 { s with heap:=h',toks:=s.toks+knd.draws k }) :
  wpAny (model prog w) A (call (.builtin "dict.pop") [.ref d,.ref a]) Q E s:=by
 have T:=dd.typeIs;obtain⟨o,es,ep,ho,hc,hd,he,hk,hn⟩:=dd;have hes:es.size<=sizeLine:=by rw[size_of_entries he];exact hz
 refine Y8 F.slot_dict_pop T F.entry_dict_pop ?_ (F.args_dict_pop_2 _ _);unfold Builtin.«dict.pop»;refine Ya ?_;unfold Builtin.Dict.keyAndDefault;refine Ya (wpAny_notOrdered_dict T ?_);show wpAny _ _ (pure (d,Value.ref a,none)) _ _ s;refine Yb ?_;have kp:(keyPart (.ref a)).isSome=false:=rfl;simp only[kp,Bool.false_eq_true,if_false];refine Ya (Y7 ho hd (Ya (Yb ?_)));have ne:es.isEmpty=false:=by
  have:xs≠[]:=λz=>by subst z;simp[atKey]at hp
  have:0<xs.length:=List.length_pos_iff.mpr this;have:=size_of_entries he;simp[Array.isEmpty];intro z;simp[z]at this;omega
 rw[ne];simp only[Bool.false_eq_true,if_false];refine Ya ?_;unfold Builtin.Dict.takeOut
 try with_reducible refine Jr ?_
 refine Ya (knd.pyHash hu hkey ?_);refine Ya (wpAny_dictFind_heap (s:={ s with toks:=s.toks+knd.draws k }) hu hkey ho hd he hk hn (λno=>by rw[atKey_none_of_get no]at hp;cases hp) λj q hj=>?_);have ej:es[j]? = some (entryOfKey knd (k,q)):=by rw[entry_at he j,hj];rfl
 have eq:q=p:=by rw[atKey_of_get hn hj]at hp;exact Jg hp
 subst eq;refine Ya (Y7 (s:={ s with toks:=s.toks+knd.draws k }) ho hd ?_);rw[ej];refine Ya (wpAny_updateDictKeys (hz:=hes) (s:={ s with toks:=s.toks+knd.draws k }) ho hd (Yb ?_));simp only[Option.isNone_some,Bool.false_eq_true,if_false];refine Ya (wpAny_letGo (Yb ⟨q.2,Z,h _ ⟨_,_,ep+1,Heap.get?_update_self _ ho (Obj.isFreed_of_dict (Obj.data_mapDictKeys hd _)),hc.mapDictKeys _,Obj.data_mapDictKeys hd _,?_,?_,?_⟩ (Heap.SameBut.update ..)⟩))
 ·rw[<- zgz hn hj];have:(es.toList.eraseIdx j)=(xs.eraseIdx j).map (entryOfKey knd):=by rw[he,zfa]
  rw[<- this];obtain⟨l⟩:=es;simp
 ·intro x hx;exact knd.keeps (hk x (List.mem_filter.mp hx).1) ho hd (Heap.SameBut.update ..)
 ·exact hn.sublist (List.filter_sublist.map _)
end
theorem KT.drop{H:Hp}{kvs:List (List Key×V)}{xs:List (List Key×Addr×Value)}(r:KT H kvs xs)(k:List Key):KT H (ze0 kvs k) (xs.filter λx=>decide (x.1≠k)):=by
 unfold ze0;induction r with
 | nil=>exact .nil
 | @cons p q ps qs h t ih=>
  obtain⟨h1,h2⟩:=h;rw[List.filter_cons,List.filter_cons];by_cases e:p.1=k
  ·have a:¬decide (p.1≠k)=true:=by simp[e]
   have b:¬decide (q.1≠k)=true:=by simp[h1.symm.trans e]
   rw[Yh a,Yh b];exact ih
  ·have e':¬q.1=k:=λz=>e (h1.trans z)
   have a:decide (p.1≠k)=true:=by simp[e]
   have b:decide (q.1≠k)=true:=by simp[e']
   rw[Yl a,Yl b];exact .cons ⟨h1,h2⟩ ih
section
variable{X:Cx}
def zyr:V->List V->Hp->VK->Prop:=λx vs H Q=>∃d b kvs k v,x=.ref d/\vs=[.ref b]/\H d=some (.dT kvs)/\H b=some (.tup (k.map kV))/\valV kvs k=some v/\Q v (upd H d (.dT (ze0 kvs k)))
theorem zw4(hu:X.A.units+1<cLine):MtR X "dict.pop" zyr:=by
 intro pins s σ H x vs v us Q I rx rv h;obtain⟨d,b,kvs,k,val,rfl,rfl,hH,hb,hv,q⟩:=h
 cases rx;obtain⟨u,rfl,ru⟩:=zi3 rv
 cases ru;obtain⟨z,hd,xs,rel,dd⟩:=zr3 I.hok hH;have hz:xs.length<=sizeLine:=by rw[<- Paired.length rel];exact z
 obtain⟨w',hw,rw'⟩:=RelO.some_of (v:=val) (o:=(atKey xs k).map (·.2)) (by rw[<- hv];exact rel.val k);obtain⟨p,hp,rfl⟩:=Option.map_eq_some_iff.mp hw;refine zra (knd:=tupleKind (za8 X.prog X.w)) (tupleKind_room_in1 hu) (zhk I.hok hb) hz dd hp λh' dd' hs=>⟨val,_,?_,rw',q⟩
 obtain⟨o,es,ep,h1,h2,h3,h4,_,h5⟩:=dd';refine ziz I (by rw[hH];exact True.intro) hs ⟨o,h1⟩ ⟨Yr (zja kvs k) z,hd,_,(rel.drop k).keeps λc ys ec=>?_,o,es,ep,h1,h2,h3,h4,h5⟩;rw[zai (zbs ec hH (λz=>nomatch z))];exact ec
theorem zll{o e:Expr}{to:TE}{t:TA}{apos cpos:Pos}(hu:X.A.units+1<cLine)(ho:PE X o to)(ha:PA X [e] t)(hbase:attributeBase o "pop" X.env (eval o X.env)=eval o X.env:=by rfl)
  (hfew:((backTo cpos (starEach (e::[]) X.env)).all (λx => !x.1)&&(backToKw cpos (keywordEach [] X.env)).all (λx=>x.1.isSome)
   && decide ((e::[]).length+([]:List Keyword).length+(if ([]:List Keyword).isEmpty then 0 else 1)<30))=true:=by rfl)
  (hline:(apos.endLine == cpos.line)=true:=by rfl) (hs:starEach (e::[]) X.env=(false,eval e X.env)::starEach [] X.env:=by rfl) (hplain:(backTo cpos (starEach [] X.env)).any (·.1)=false:=by rfl) :
  PE X (.Call (.Attribute o "pop" apos) [e] [] cpos) (tBM X.K "dict" zyr to t):=ztk PySem.F.plainAttrs_dict PySem.F.slot_dict_pop PySem.F.type_dict_pop (zw4 hu) ho ha hbase hfew hline hs hplain
end
theorem ze8{d:Addr}{o:Obj}{kvs:List (List Key×V)}{g:TG}{tb:TS}{D:Ends}{σ : St}{H:Hp}(Pv:Nat->St->Hp->Prop)(h0:Pv 0 σ H)(hl:∀i σ H,Pv i σ H->FzD H d o kvs)
  (hs:∀i k v σ H p b,kvs[i]? = some (k,v)->Pv i σ H->H p=none->H b=some (.tup (k.map kV))->g (.ref p) σ (upd H p (.tup [.ref b,v])) λσ2 H2=>tb { D with nx:=Pv (i+1),ct:=Pv (i+1),bk:=D.nx } σ2 H2) (hd:∀σ H,Pv kvs.length σ H->D.nx σ H) :
  ∃W:Nat->Nat->St->Hp->Prop,(∃m,W 0 m σ H)/\∀i m σ H,W i m σ H ->
   ((ItI d o kvs).stop i H/\D.nx σ H)\/((ItI d o kvs).go i H/\∃N:St->Hp->Prop,(∀σ' H',N σ' H'->∃m',m'<m/\W (i+1) m' σ' H')/\∀x H',(ItI d o kvs).yld i H x H'->g x σ H' λσ2 H2=>tb { D with nx:=N,ct:=N,bk:=D.nx } σ2 H2):=by
 refine⟨λi m σ H=>m=kvs.length-i/\i<=kvs.length/\Pv i σ H,⟨kvs.length,by simp,Y2 _,h0⟩,?_⟩;rintro i m σ H ⟨rfl,hi,p⟩;have q:=hl i σ H p;by_cases hlt:i<kvs.length
 ·refine .inr ⟨⟨q,hlt⟩,Pv (i+1),λσ' H' p'=>⟨kvs.length-(i+1),by omega,Z,hlt,p'⟩,λx H' y=>?_⟩;obtain⟨p',b,k,v,hp,hk,hb,rfl,rfl⟩:=y;exact hs i k v σ H p' b hk p hp hb
 ·have z:i=kvs.length:=by omega
  subst z;exact .inl ⟨⟨q,Yi _⟩,hd σ H p⟩
section
variable{prog:Program}{w:World}{κ : Type}[DecidableEq κ]{knd:HeapKind prog w κ}{A:Around}{E:Value->Shared->Prop}{s:Shared}
theorem zna(d:Addr)(hd:(d == sysModules)=false):MeetsIn prog w (Builtin.«dict.__len__» ⟨[.ref d],[]⟩) (λ_ R s=>∃xs,s.heap.DictOfH knd d xs/\R (.ok (.ret (.int xs.length s.toks))) { s with toks:=s.toks+1 }):=
 .of_wp λA R s ⟨xs,hm,h⟩=>by
  have T:=hm.typeIs;obtain⟨o,es,ep,ho,hc,hdat,he,hk,hn⟩:=hm;show wpAny _ _ (dictSize d >>= _) _ _ s;unfold dictSize;refine Ya (Ya (Y7 ho hdat (Yb ?_)));show wpAny _ _ (Builtin.Dict.pendingCount d >>= _) _ _ s;refine Ya (wpAny_pendingCount_other hd ?_);refine wpAny_ret_mkInt ?_;have:es.size=xs.length:=size_of_entries he;rw[Nat.add_zero,this];exact h
theorem zp9{d:Addr}{xs:List (κ×Addr×Value)}{Q:Value->Shared->Prop}(hd:(d == sysModules)=false)(hm:s.heap.DictOfH knd d xs)(hfit:(xs.length:Int)<2^63)
  (h:Q (.int xs.length (s.toks+1)) { s with toks:=s.toks+1+1 }):wpAny (model prog w) A (call (.builtin "len") [.ref d]) Q E s:=by
 refine Calls.call_function_entry kind_len plain_len entry_len (args_len1 _) ?_;unfold Builtin.«len»;refine Ya (m:=oneArg "len" _) (Yb ?_);refine Ya (m:=callSpecial? (.ref d) (Str.ofString "__len__")) (Jb (name:=Str.ofString "__len__") hm.typeIs F.slot_dict_len
  (call_meetsIn F.slot_dict_len hm.typeIs F.entry_dict_len (F.args_dict_len_1 _) (zna (knd:=knd) d hd) ⟨xs,hm,?_⟩))
 show wpAny _ _ _ _ _ { s with toks:=s.toks+1 };refine Ya (Jr (Yb ?_));refine Ya (wpAny_letGo ?_);show wpAny _ _ (if ((xs.length:Nat):Int)<0 then _ else _) _ _ _;rw[Yh (by omega)];show wpAny _ _ (if ((xs.length:Nat):Int) ≥ 2^63 then _ else _) _ _ _;rw[Yh (by omega)];exact Ya (wpAny_mkInt (Yb ⟨_,Z,h⟩))
end
theorem zka{X:Cx}:CallR X (.builtin "len") (λxs H Q=>∃p kvs,xs=[.ref p]/\Rd H p (.dT kvs)/\Q (.int kvs.length) H):=by
 intro pins s σ H xs us Q I r h;obtain⟨p,kvs,rfl,e,q⟩:=h;obtain⟨u,rfl,rx⟩:=zi3 r
 cases rx;obtain⟨z,hd,ys,rel,dd⟩:=zgh I.hok e;have ly:ys.length=kvs.length:=(Paired.length rel).symm;have hs:sizeLine=16777216:=sizeLine_eq;refine zp9 (knd:=tupleKind (za8 X.prog X.w)) hd dd (by omega) ⟨.int kvs.length,H,I.tok _,⟨_,by rw[ly]⟩,q⟩
end L2
namespace L2
open PySem PySem.Spec PyProof.Rows
def hsI(xs:List Int):Int:=reduceHash (Builtin.Tuple.tupleHashOf (xs.map hashInt))
theorem zga{α : Type}{f : α->Int}:∀{l:List α} {e : α},(l.map f).Nodup->e∈l->(l.filter λx=>f x == f e).length<=1
 | [],e,_,h=>by cases h
 | x::l,e,hn,h=>by
  rw[Yz,List.nodup_cons]at hn;rw[List.filter_cons];by_cases q:f x=f e
  ·have z:(l.filter λy=>f y == f e)=[]:=by
    rw[List.filter_eq_nil_iff];intro y hy hb;exact hn.1 (Jj.mpr ⟨y,hy,(beq_iff_eq.mp hb).trans q.symm⟩)
   rw[Yl (beq_iff_eq.mpr q),z];exact Yi 1
  ·rw[Yh (λz=>q (beq_iff_eq.mp z))];refine zga hn.2 ?_;rcases Yj.mp h with z | z
   ·exact absurd (Jx f z.symm) q
   ·exact z
section
variable{prog:Program}{w:World}{κ : Type}[DecidableEq κ]{kk:KeyKind prog w κ}{A:Around}{E:Value->Shared->Prop}{s:Shared}
theorem zlp{a:Addr}{Q:Bool->Shared->Prop}(hT:s.TypeIs (.ref a) "tuple")(h:Q false s):wpAny (model prog w) A (Builtin.Dict.quietEq (.ref a)) Q E s:=by
 unfold Builtin.Dict.quietEq;refine Ya (wpAny_specialOf hT F.slot_tuple_eq.lookup (Yb ?_));exact h
theorem zm8{nm:String}{o:Addr}{ob:Obj}{es:Array DictEntry}{ep:Nat}{xs:List (List κ×Addr×Value)}{Q:Array DictEntry->Shared->Prop}(hob:s.heap.get? o=some ob)(hdt:ob.data=.dict es ep)
  (he:es.toList=xs.map (entryOfKey (tupleKind kk))) (hk:∀x∈xs,(tupleKind kk).is s.heap x.1 x.2.1) (hn:(xs.map λx=>(tupleKind kk).hash x.1).Nodup) (h:Q es s):wpAny (model prog w) A (Builtin.Dict.entriesForEmpty nm o) Q E s:=by
 unfold Builtin.Dict.entriesForEmpty;refine Ya (Y7 hob hdt ?_);refine Ya ?_;rw[<- Array.forIn_toList];have hn':(es.toList.map (·.hash)).Nodup:=by rw[he,Ji];exact hn
 refine wpAny_forIn_list _ (λrest (_:PUnit) s'=>s'=s/\∀e∈rest,e∈es.toList) _ ?_ ?_ _ _ ⟨Z,λe z=>z⟩
 ·rintro e rest b s' ⟨rfl,hin⟩;have hm:=hin e List.mem_cons_self;obtain⟨x,hx,rfl⟩:=Jj.mp (by rw[<- he];exact hm);refine Ya (zlp (IsTupleKey.typeIs (hk x hx)) ?_);simp only[Bool.not_false,if_true];have le:¬((es.filter λz=>z.hash == (entryOfKey (tupleKind kk) x).hash).size > 1):=by
   obtain⟨l⟩:=es;have q:(l.filter λz=>z.hash == (entryOfKey (tupleKind kk) x).hash).length<=1:=zga (f:=λz:DictEntry=>z.hash) hn' hm;have:(Array.filter (λz=>z.hash == (entryOfKey (tupleKind kk) x).hash) { toList:=l }).size=(l.filter λz=>z.hash == (entryOfKey (tupleKind kk) x).hash).length:=by simp
   omega
  rw[Yh le];exact Yb ⟨Z,λe he=>hin e (List.mem_cons_of_mem _ he)⟩
 ·rintro b s' ⟨rfl,_⟩;exact Yb h
theorem zy5{nm:String}{d o:Addr}{xs:List (List κ×Addr×Value)}{Q:Unit->Shared->Prop}(hdo:d≠o)(hoS:(o == sysModules)=false)
  (hd:s.heap.DictOfH (tupleKind kk) d []) (ho:s.heap.DictOfH (tupleKind kk) o xs) (hn:(xs.map λx=>(tupleKind kk).hash x.1).Nodup)
  (hQ:∀h',h'.DictOfH (tupleKind kk) d xs->Heap.SameBut d s.heap h'->Q () { s with heap:=h' }) (hsz:xs.length<=sizeLine) :
  wpAny (model prog w) A (Builtin.Dict.mergeDict nm d o) Q E s:=by
 obtain⟨od,esd,epd,hod,hcd,hdd,hed,hkd,hnd⟩:=id hd;obtain⟨oo,eso,epo,hoo,hco,hdo',heo,hko,hno⟩:=id ho;unfold Builtin.Dict.mergeDict;rw[Yh (by simpa using hdo)];unfold Builtin.Dict.showsAll;rw[Yh (by rw[hoS];exact Yt)];refine Ya (Yb ?_);refine Ya (Y7 hoo hdo' ?_);have hde:esd.isEmpty=true:=by
  obtain⟨l⟩:=esd;have:l=[]:=hed;subst this;rfl
 cases xs with
 | nil=>
  have hoe:eso = #[]:=by
   obtain⟨l⟩:=eso;have:l=[]:=heo;subst this;rfl
  subst hoe;have few:(decide ((#[]:Array DictEntry).size<=8)&&(#[]:Array DictEntry).all λe=>(keyPart e.key).isSome)=true:=by simp
  simp only[few,Bool.not_true,Bool.false_eq_true,if_false]
  refine Ya (wpAny_dictEpoch hoo hdo' ?_);refine Ya (Y7 hoo hdo' ?_);refine Ya ?_;rw[Std.Legacy.Range.forIn_eq_forIn_range'];refine wpAny_forIn_list _ (λrest (_:PUnit) s'=>rest=[]/\s'=s) _ ?_ ?_ _ _ ⟨Z,Z⟩
  ·rintro x rest b s' ⟨z,_⟩;cases z
  ·rintro b s' ⟨_,rfl⟩;exact Yb (hQ _ hd (Heap.SameBut.refl _ _))
 | cons x xs=>
  have hne:¬(eso.isEmpty=true):=by
   obtain⟨l⟩:=eso;have:l=(x::xs).map (entryOfKey (tupleKind kk)):=heo;subst this;simp
  have few:(decide (eso.size<=8)&&eso.all λe=>(keyPart e.key).isSome)=false:=by
   obtain⟨l⟩:=eso;have:l=(x::xs).map (entryOfKey (tupleKind kk)):=heo;subst this;have:(keyPart (entryOfKey (tupleKind kk) x).key).isSome=false:=rfl;simp[this]
  simp only[few,Bool.not_false,if_true]
  refine Ya (Y7 hod hdd ?_);simp only[hde,if_true];refine Ya (zm8 hoo hdo' heo hko hn ?_);rw[Bool.eq_false_iff.mpr hne];simp only[Bool.not_false,if_true];refine Ya (wpAny_updateDictKeysTo (hz':=by
   have:eso.size=(x::xs).length:=by rw[<- Array.length_toList,heo,Yd]
   show eso.size<=_;omega) hod hdd (Yb (hQ _ ⟨_,_,epd+1,Heap.get?_update_self _ hod (Obj.isFreed_of_dict (Obj.data_mapDictKeys hdd _)),
   hcd.mapDictKeys _,Obj.data_mapDictKeys hdd _,heo,λx hx=>?_,hno⟩ (Heap.SameBut.update ..))))
  exact(tupleKind kk).keeps (hko x hx) hod hdd (Heap.SameBut.update ..)
theorem znf{o:Addr}{xs:List (List κ×Addr×Value)}{Q:Value->Shared->Prop}(hoS:(o == sysModules)=false)(ho:s.heap.DictOfH (tupleKind kk) o xs)(hn:(xs.map λx=>(tupleKind kk).hash x.1).Nodup)(hsz:xs.length<=sizeLine)
  (h:∀h',h'.DictOfH (tupleKind kk) s.heap.objs.size xs->Heap.SameBut s.heap.objs.size (s.heap.push { cls:=.type "dict",data:=.dict #[] }) h'->Q (.ref s.heap.objs.size) { s with heap:=h' }) :
  wpAny (model prog w) A (call (.type "dict") [.ref o]) Q E s:=by
 refine callType_codes (Q₁:=λobj s₁=>obj=.ref s.heap.objs.size/\s₁={ s with heap:=s.heap.push { cls:=.type "dict",data:=.dict #[] } }) F.kt_called_dict (F.kt_typeCall_dict_1 _) F.entry_dict_init (kt_code_dict_new _ ⟨Z,Z⟩) ?_;rintro obj s₁ ⟨rfl,rfl⟩;have hnew:(s.heap.push { cls:=.type "dict",data:=.dict #[] }).DictOfH (tupleKind kk) s.heap.objs.size []:=⟨_,_,_,Yk _ rfl,⟨Z,Z,Z⟩,Z,Z,λx hx=>(by cases hx),List.nodup_nil⟩;have hdo:s.heap.objs.size≠o:=by
  obtain⟨_,_,_,hg,_⟩:=ho;exact λe=>absurd (Yn hg) (by rw[e];exact Nat.lt_irrefl _)
 have ho':(s.heap.push { cls:=.type "dict",data:=.dict #[] }).DictOfH (tupleKind kk) o xs:=by
  obtain⟨ob,es,ep,h1,h2,h3,h4,h5,h6⟩:=ho;refine⟨ob,es,ep,Ye _ h1,h2,h3,h4,λx hx=>?_,h6⟩;obtain⟨q1,q2,q3,q4,q5⟩:=h5 x hx;exact⟨q1,q2,q3,Ye _ q4,q5⟩
 refine⟨hnew.typeIs,F.args_dict_init_2 _ _,?_⟩;unfold Builtin.«dict.__init__»;refine Ya ?_;unfold Builtin.Dict.selfAndRest;refine Ya (wpAny_notOrdered_dict hnew.typeIs ?_);show wpAny _ _ (pure (s.heap.objs.size,[Value.ref o])) _ _ _;refine Yb ?_;show wpAny _ _ (Builtin.Dict.updateFrom "dict.__init__" s.heap.objs.size (.ref o) [] .none) _ _ _;unfold Builtin.Dict.updateFrom;refine Ya (wpAny_typeOf ho'.typeIs ?_);rw[Yh (by decide)];refine Ya ?_;unfold Builtin.Dict.merge;refine Ya ?_;unfold Builtin.Dict.readDirectly;refine Ya (wpAny_isInstance ho'.typeIs isSubtype_dict_dict ?_);simp only[Bool.not_true,Bool.false_eq_true,if_false];refine Ya (wpAny_specialOf ho'.typeIs F.slot_dict_iter.lookup (Yb ?_));simp only[beq_self_eq_true,if_true];refine Ya (Yb ?_);refine zy5 (hsz:=hsz) hdo hoS hnew ho' hn λh' hd' hs'=>?_
 show wpAny _ _ (Builtin.Dict.addKeywords s.heap.objs.size [] >>= _) _ _ _;exact Ya (Yb (Yb ⟨Z,h h' hd' hs'⟩))
end
def HDs(kvs:List (List Key×V)):Prop:=∃ts:List (List Int),kvs.map (·.1)=ts.map (λt=>t.map Sum.inl)/\(ts.map hsI).Nodup
theorem KT.keysEq{H:Hp}{kvs:List (List Key×V)}{xs:List (List Key×Addr×Value)}(r:KT H kvs xs):xs.map (·.1)=kvs.map (·.1):=by
 induction r with
 | nil=>rfl
 | cons h t ih=>rw[Yz,Yz,ih,h.1]
section
variable{X:Cx}
theorem zur(P:Program)(w:World)(t:List Int):(tupleKind (za8 P w)).hash (t.map Sum.inl)=hsI t:=by
 show reduceHash (Builtin.Tuple.tupleHashOf ((t.map Sum.inl).map (za8 P w).hash))=_;rw[Ji];rfl
theorem zgt:CallR X (.type "dict") (λxs H Q=>∃d kvs,xs=[.ref d]/\H d=some (.dT kvs)/\HDs kvs/\∀p,H p=none->Q (.ref p) (upd H p (.dT kvs))):=by
 intro pins s σ H xs us Q I r h;obtain⟨d,kvs,rfl,hH,⟨ts,hts,htn⟩,q⟩:=h;obtain⟨u,rfl,rx⟩:=zi3 r
 cases rx;obtain⟨z,hd,ys,rel,dd⟩:=zr3 I.hok hH;have hz:ys.length<=sizeLine:=by rw[<- Paired.length rel];exact z
 have kys:ys.map (·.1)=kvs.map (·.1):=KT.keysEq rel;have hn:(ys.map λx=>(tupleKind (za8 X.prog X.w)).hash x.1).Nodup:=by
  have e:(ys.map λx=>(tupleKind (za8 X.prog X.w)).hash x.1)=(ys.map (·.1)).map (tupleKind (za8 X.prog X.w)).hash:=by rw[Ji];rfl
  rw[e,kys,hts,Ji];have e2:(ts.map ((tupleKind (za8 X.prog X.w)).hash ∘ λt=>t.map Sum.inl))=ts.map hsI:=List.map_congr_left λt _=>zur _ _ t
  rw[e2];exact htn
 refine znf (kk:=za8 X.prog X.w) hd dd hn hz λh' dd' hs=>?_
 have kp:∀b o',s.heap.get? b=some o'->h'.get? b=some o':=λb o' e=>by
  rw[hs.2 b (Y0 (Yn e))];exact Ye _ e
 obtain⟨o,es,ep,h1,h2,h3,h4,_,h5⟩:=dd';have nf:=I.hok.fresh (Yi s.heap.objs.size);refine⟨.ref s.heap.objs.size,_,I.laid (t':=s.toks) kp (Yi _) (show ObjOk X.prog X.w _ h' _ (.dT kvs) from⟨z,?_,ys,rel.keeps λc yy ec=>?_,o,es,ep,h1,h2,h3,h4,h5⟩),Z,q _ nf⟩
 ·exact beq_eq_false_iff_ne.mpr (Nat.ne_of_gt I.big)
 ·rw[zai (λe=>by rw[e,nf]at ec;cases ec)];exact ec
end
end L2
namespace L2
open PySem PySem.Spec PyProof.Rows
def zwz(X:Cx)(N:List Str)(qual:Str)(scope:Scope)(q c':Addr)(cl:List (Str×Addr))(A:Around)(s:Shared)(H:Hp):Cx where
 prog:=X.prog
 w:=X.w
 K:=X.K
 mg:=X.mg
 base:=X.base
 A:=A.deeper (W.envX qual scope s.heap.objs.size q (.ref c') cl)
 N:=N
 s₀:=s
 H₀:=H
 env:=W.envX qual scope s.heap.objs.size q (.ref c') cl
 outer:=X.stack
 stack:=W.envX qual scope s.heap.objs.size q (.ref c') cl::X.stack
 ex:=[]
 calm:=true
 fn:=λ_=>false
 pn:=[]
 xe:=λ_ _=>False
end L2
namespace L2
open PySem PySem.Spec PyProof.Rows
def OnlyT(P:Addr)(H:Hp):Prop:=(∀b,H b=none\/(∃o xs,H b=some (.frz o (.lst xs)))\/b=P)/\H P=some (.tbl #[])
theorem zq6{P:Program}{w:World}{K:W.Frag}{mg mb:Str->Option Value}{CX:CXT}{k:Nat}{fa a cc Pt:Addr}{fd:FuncData}{x:Str}{sp:Sp}{s₁:Shared}{vs:List Value}{ns:List Int}
  (KX:K.In s₁.heap) (hns:s₁.heap.Ns mainGlobals mg) (hb:s₁.heap.Ns builtinsNs mb) (hbb:∀x:Str,x≠"__name__"->mb x=bootBuiltins x) (hlim:s₁.heap.NoLimit) (hg:s₁.gens = #[])
  (hPt:s₁.heap.get? Pt=some (W.tabObj #[])) (hCd:W.CodeHd s₁.heap cc Pt) (hKP:K.lookup Pt=none)
  (hbm:∃bm ob,mg "__builtins__" = some (.ref bm)/\bm≠builtinsNs/\s₁.heap.get? bm=some ob/\ob.cls=.type "module"/\ob.dict=some builtinsNs/\ob.data=.plain)
  (ha:s₁.heap.get? a=some { cls:=.type "list",data:=.seq vs.toArray }) (hi:IntsAre vs ns) (hl:ns.length<=sizeLine) (hr:Room k callerA)
  (F:∀base:Heap,K.In base->base.Ns mainGlobals mg->base.BuiltinsAt mg Pt->FnOk P w K mg base CX k fa fd [x] sp) (hbind:∀(s:Shared) (u:Value),BindsTo s fd ⟨[u],[]⟩ [(x,u)])
  (hsp:∀H:Hp,OnlyT Pt H->SqL K H a (ns.map V.int)->sp [.ref a] H (λv _=>v=.bl true) λ_ _ _=>False)
  (hCX:∀H e s',CX [] H s₁ (λ_ _ _=>False) e s'->False) :
  codeAny (model P w) callerA (.call (.ref fa) ⟨[.ref a],[]⟩) (λr s'=>r=.ok (.ret (.bool true))/\OldK s₁.heap s'.heap/\s'.os=s₁.os/\AllBare s'.gens) s₁:=by
 have rv:=zkh hi;have lenV:=hi.length;have naP:a≠Pt:=λz=>by subst z;rw[ha]at hPt;cases hPt
 have core:∀H:Hp,OnlyT Pt H->SqL K H a (ns.map V.int)->HOk P w H s₁.heap->(∀b,H b≠none->b=a\/b=Pt)->(H a≠none->K.lookup a=none) ->
   codeAny (model P w) callerA (.call (.ref fa) ⟨[.ref a],[]⟩) (λr s'=>r=.ok (.ret (.bool true))/\OldK s₁.heap s'.heap/\s'.os=s₁.os/\AllBare s'.gens) s₁:=by
  intro H hO hS hok hA hK;have base_of:∀{b:Addr} {o:Obj},s₁.heap.get? b=some o->H b=none->(hidT s₁.heap H).get? b=some o:=λe n=>zro e n
  have noS:∀{b:Addr} {o:Obj},s₁.heap.get? b=some o->(∀v n,o.data≠.seq v n)->(∀v,o.data≠.fields v)->H b=none:=fun{b o} e d1 d2=>by
   cases q:H b with
   | none=>rfl
   | some u=>
    exfalso;rcases hA b (by rw[q];simp) with z | z
    ·subst z;rw[ha]at e;cases e;exact d1 _ _ rfl
    ·subst z;rw[hPt]at e;cases e;exact d2 _ rfl
  have nsK:∀{b:Addr} {m:Str->Option Value},s₁.heap.Ns b m->(hidT s₁.heap H).Ns b m:=fun{b m} ⟨o,es,ep,e,d,r⟩=>⟨o,es,ep,base_of e (noS e (λv n z=>by rw[d]at z;cases z) (λv z=>by rw[d]at z;cases z)),d,r⟩
  have hKb:K.In (hidT s₁.heap H):=λb o e=>base_of (KX b o e) (by
   cases q:H b with
   | none=>rfl
   | some u=>
    exfalso;rcases hA b (by rw[q];simp) with z | z
    ·subst z;rw[hK (by rw[q];simp)]at e;cases e
    ·subst z;rw[hKP]at e;cases e)
  have hM:Mod K mg (hidT s₁.heap H):=⟨hKb,nsK hns,⟨mb,nsK hb,hbb⟩,let ⟨mc,h1,h2⟩:=hlim;⟨mc,nsK h1,h2⟩⟩;have hBm:(hidT s₁.heap H).BuiltinsAt mg Pt:=by
   obtain⟨bm,ob,b1,b2,b3,b4,b5,b6⟩:=hbm;refine⟨bm,ob,b1,b2,λz=>?_,λz=>?_,base_of b3 (noS b3 (λv n z=>by rw[b6]at z;cases z) (λv z=>by rw[b6]at z;cases z)),b4,b5,b6⟩
   ·obtain⟨o,es,ep,e,d,_⟩:=hns;rw[z,e]at b3;cases b3;rw[d]at b6;cases b6
   ·rw[z,hPt]at b3;cases b3;cases b6
  have e0:Env0 P w K mg (hidT s₁.heap H) callerA [] s₁ H:=⟨Z,hM,λb o e=>zwq e,Nat.le_of_eq (zo7 _ _),trivial,λb hb=>absurd (show b∈([]:List Addr) from hb) (by simp),hok,.of_eq hg⟩;refine codeAny_mono ((F _ hKb (nsK hns) hBm).run callerA [] s₁ H ⟨[.ref a],[]⟩ [.ref a] [.ref a] _ _ hr e0 (hbind s₁ (.ref a)) (.cons rfl .nil) (hsp H hO hS)) λr s' h=>?_
  cases r with
  | error e=>exact(hCX H e s' h).elim
  | ok fl=>
   cases fl with
   | next=>exact Jf h
   | brk=>exact Jf h
   | cont=>exact Jf h
   | ret u=>
    obtain⟨v,H',os,bare,un,hok',r',q⟩:=h;have q':v=.bl true:=q;subst q';obtain rfl:u=Value.bool true:=r';refine⟨Z,⟨λb o e=>?_,λb o e=>un.there b o e (by simp)⟩,os,bare⟩
    cases q:H b with
    | none=>exact .inl (un.keep b o e q (by intro z;exact absurd (show b∈([]:List Addr) from z) (by simp)) (by simp))
    | some u=>
     rcases hO.1 b with z | ⟨ob,xs,z⟩ | z
     ·rw[q]at z;cases z
     ·have z2:=un.frzs b ob _ z;obtain⟨e1,_⟩:=hok b _ z;obtain⟨e2,_⟩:=hok' b _ z2;rw[e]at e1;cases e1;exact .inl e2
     ·subst z;rw[hPt]at e;cases e;obtain⟨more,z2⟩:=un.tbls b _ hO.2;have e2:=hok' b _ z2;obtain⟨oc,vc,_,_,_,_,_,_,_,c1,c2,c3,c4,_⟩:=hCd;exact .inr (.inl ⟨⟨cc,oc,vc,c1,c2,c3,c4⟩,Z,_,more,Z,e2⟩)
 cases hk:K.lookup a with
 | some o=>
  have e:=KX a o hk;rw[ha]at e
  cases e;refine core (λb=>if b=Pt then some (.tbl #[]) else none) ⟨λb=>?_,Yl rfl⟩ (.inr ⟨_,vs.toArray,_,hk,Z,Z,Z,by rw[Ys,lenV];exact hl,by simpa using rv⟩) (λb u z=>?_) (λb z=>?_) λz=>absurd (Yh naP) z
  ·by_cases hb:b=Pt
   ·exact .inr (.inr hb)
   ·exact .inl (Yh hb)
  ·by_cases hb:b=Pt
   ·have z':=(Yl hb).symm.trans z
    cases z';subst hb;exact hPt
   ·have z':=(Yh hb).symm.trans z
    cases z'
  ·by_cases hb:b=Pt
   ·exact .inr hb
   ·exact absurd (Yh hb) z
 | none=>
  refine core (λb=>if b=a then some (.frz { cls:=.type "list",data:=.seq vs.toArray } (.lst (ns.map V.int))) else if b=Pt then some (.tbl #[]) else none) ⟨λb=>?_,(Yh naP.symm).trans (Yl rfl)⟩ (.inl (.inr ⟨{ cls:=.type "list",data:=.seq vs.toArray },Yl rfl⟩)) (λb u z=>?_) (λb z=>?_) λ_=>hk
  ·by_cases hb:b=a
   ·exact .inr (.inl ⟨_,_,Yl hb⟩)
   ·by_cases hp:b=Pt
    ·exact .inr (.inr hp)
    ·exact .inl ((Yh hb).trans (Yh hp))
  ·by_cases hb:b=a
   ·have z':=(Yl hb).symm.trans z
    cases z';subst hb;exact⟨ha,by rw[Yd];exact hl,vs,_,rv,ha⟩
   ·by_cases hp:b=Pt
    ·have z':=((Yh hb).trans (Yl hp)).symm.trans z
     cases z';subst hp;exact hPt
    ·have z':=((Yh hb).trans (Yh hp)).symm.trans z
     cases z'
  ·by_cases hb:b=a
   ·exact .inl hb
   ·by_cases hp:b=Pt
    ·exact .inr hp
    ·exact absurd ((Yh hb).trans (Yh hp)) z
theorem walk_ofT{l:W.OpenLaw}{n k:Nat}{q:Program}{loose:List Str}{XP:(Str->Option Value)->Heap->Prop}{YP:World->Heap->Prop}{d:DefRec}{K:Params->W.Frag}{CX:World->CXT}{sp:World->Addr->Sp}{x:Str}
  (hn:l.most=some n) (hn2:n<=sizeLine) (hdf:d.params.defaults=[]) (hr:Room k callerA)
  (hY:∀(w:World) (h:Heap),YP w h->(K w.params).In h) (Pt:Addr)
  (hT:∀(w:World) (h:Heap),YP w h->h.get? Pt=some (W.tabObj #[]))
  (F:∀(w:World) (mg:Str->Option Value) (fa:Addr) (h:Heap),(K w.params).In h->h.Ns mainGlobals mg->mg d.name=some (.ref fa) ->
   ∃(cc:Addr) (fd:FuncData),W.codeHdIn (K w.params) cc Pt=true/\(K w.params).lookup Pt=none/\(∀(s:Shared) (u:Value),BindsTo s fd ⟨[u],[]⟩ [(x,u)]) /\
    ∀base:Heap,(K w.params).In base->base.Ns mainGlobals mg->base.BuiltinsAt mg Pt->FnOk l.prog w (K w.params) mg base (CX w) k fa fd [x] (sp w Pt))
  (hsp:∀(w:World) (H:Hp) (a:Addr) (ns:List Int),ns.length<=n->OnlyT Pt H->SqL (K w.params) H a (ns.map V.int)->sp w Pt [.ref a] H (λv _=>v=.bl true) λ_ _ _=>False)
  (hCX:∀(w:World) (H:Hp) (s:Shared) (e:Value) (s':Shared),CX w [] H s (λ_ _ _=>False) e s'->False) :
  W.WalkO q loose XP YP l.row.toRowW d [] (λf vs=>PySem.call f vs):=by
 refine Att.attach_call hn hdf λw s₀ s₁ mg mb fa o pm cd doc a vs ns G Y ho hd hcd hmg hobj hints hlen hg=>?_
 have KX:=hY w _ Y;obtain⟨cc,fd,hcc,hkp,hb,hF⟩:=F w mg fa _ KX G.T.g hmg;exact zq6 KX G.T.g G.T.b G.T.builtins G.T.nolimit hg (hT w _ Y) (W.codeHd_of_K KX hcc) hkp G.T.bmain hobj hints (Yr hlen hn2) hr hF hb (λH hO hS=>hsp w H a ns hlen hO hS) λH e s'=>hCX w H s₁ e s'
end L2
namespace L2
open PySem PySem.Spec PyProof.Rows
section
variable{prog:Program}{w:World}{d:Addr}{ep:Nat}{es:Array DictEntry}{o:Obj}
theorem dsrc(hs:(d == sysModules)=false)(hc:o.cls=.type "dict")(hdd:o.data=.dict es ep):W.KdlSrc prog w "dict" d d es.size (λi v=>∃e,es[i]? = some e/\v=e.key) (λh=>h.get? d=some o) where
 type:=λs hm=>⟨o,hm,hc⟩
 there:=λ_ hm=>⟨Yn hm,Yn hm⟩
 keep:=λ_ _ hm hk=>hk d (.inl rfl) o hm
 notList:=by decide
 notTuple:=by decide
 hint:=λ_ _ s _ hm hq=>W.kdl_hint_dict (s:=s) ⟨o,hm,hc⟩ hq
 iter:=λA s hh hm=>⟨_,λi h=>h.IsKeyIter s.heap.objs.size d i es.size ep/\h.get? d=some o,(λ_ _ hq=>zkc hs ⟨o,hm,hc⟩ hm hdd hq),{
   sub:=λb hb=>by simp at hb;simp[hb]
   frame:=λ_ _ _ st hk=>⟨st.1.at λo e=>hk _ (by simp) o e,hk d (by simp) o st.2⟩
   item:=λi s' Q E hi st hQ=>by
    obtain⟨e,he⟩:∃e,es[i]? = some e:=⟨es[i],Array.getElem?_eq_getElem hi⟩;refine zmx st.1 st.2 hdd rfl he λh' hit' hs'=>?_
    exact hQ e.key h' s'.toks ⟨e,he,Z⟩ ⟨hit',hs'.extBut d o (Y0 (Yn hm)) st.2⟩ λb o hb e=>hs'.extBut b o (λh=>hb (by simp[h])) e
   done:=λs' Q E st hQ=>zqh hh st.1 st.2 hdd rfl (Yi _) λh' he'=>hQ h' s'.toks λb o hb e=>he' b o (λh=>hb (by simp[h])) e
   self:=λ_ _ _ _ st hQ=>wpAny_pyIter_keyiter st.1 hQ },⟨⟨_,Yk _ rfl,Z,Z⟩,Ye _ hm⟩⟩
end
section
variable{X:Cx}
theorem zfi(hc:X.calm=true):CallR X (.type "list") (λxs H Q=>∃d kvs,xs=[.ref d]/\Rd H d (.dT kvs)/\∀(l:Addr) (as:List Addr),H l=none->as.length=kvs.length->(∀(i:Nat) k x,kvs[i]? = some (k,x)->∃a,as[i]? = some a/\H a=some (.tup (k.map kV))) ->
  Q (.ref l) (upd H l (.lst (as.map V.ref)))):=by
 intro pins s σ H xs us Q I r h;obtain⟨d,kvs,rfl,hd,q⟩:=h;obtain⟨u,rfl,rx⟩:=zi3 r
 cases rx;obtain⟨zl,hds,ys,rel,ob,es,ep,g1,g2,g3,g4,g5,g6⟩:=zgh I.hok hd;have le:es.size=kvs.length:=(size_of_entries g4).trans (Paired.length rel).symm;refine W.kdl_call (dsrc hds g2.1 g3) (I.ok.hd hc) g1 (by omega) λh' tk acc c kp hS hI=>?_
 have row:∀(i:Nat) k x,kvs[i]? = some (k,x)->∃a,acc[i]? = some (.ref a)/\H a=some (.tup (k.map kV)):=λi k x hk=>by
  obtain⟨y,hy,e1,e2,e3⟩:=Paired.at' rel hk;have hi:i<acc.size:=by
   rcases Jh i kvs.length with z | z
   ·rw[hI.1];omega
   ·rw[Yy z]at hk;cases hk
  obtain⟨e,he,hv⟩:=hI.2 i acc[i] (Array.getElem?_eq_getElem hi);have:es[i]? = some (entryOfKey (tupleKind (za8 X.prog X.w)) y):=by
   have z:es.toList[i]? = some (entryOfKey (tupleKind (za8 X.prog X.w)) y):=by rw[g4,Ym,hy];rfl
   simpa using z
  rw[this]at he;injection he with he;subst he
  exact⟨y.2.1,by rw[Array.getElem?_eq_getElem hi,hv];rfl,e2⟩
 obtain⟨as,hl,has⟩:∃as:List Addr,as.length=kvs.length/\acc.toList=as.map Value.ref:=by
  have key:∀n,n<=kvs.length->∃as:List Addr,as.length=n/\acc.toList.take n=as.map Value.ref:=by
   intro n;induction n with
   | zero=>intro _;exact⟨[],rfl,rfl⟩
   | succ n ih=>
    intro hn;obtain⟨as,h1,h2⟩:=ih (by omega);obtain⟨⟨k,x⟩,hk⟩:∃p,kvs[n]? = some p:=⟨kvs[n],Yc (by omega)⟩;obtain⟨a,ha,_⟩:=row n k x hk;refine⟨as++[a],by rw[Y6,h1];rfl,?_⟩;have ha':acc.toList[n]? = some (Value.ref a):=by simpa using ha
    rw[List.take_add_one,ha',h2,List.map_append];rfl
  obtain⟨as,h1,h2⟩:=key kvs.length (Yi _);refine⟨as,h1,?_⟩;rwa [List.take_of_length_le (by rw[Array.length_toList,hI.1];omega)]at h2
 have hD:h'.get? s.heap.objs.size=some { cls:=.type "list",data:=.seq (as.map Value.ref).toArray c }:=by rw[<- has];simpa using hS
 have vv:Vals (as.map V.ref) (as.map Value.ref):=by
  clear has hl row hD;induction as with
  | nil=>exact .nil
  | cons a as ih=>exact .cons rfl ih
 refine⟨.ref s.heap.objs.size,_,I.laid (t':=tk) kp (Yi _) ?_,Z,q s.heap.objs.size as (I.hok.fresh (Yi _)) hl λi k x hk=>?_⟩
 ·exact⟨by rw[Yd,hl];exact zl,_,c,vv,hD⟩
 ·obtain⟨a,ha,e⟩:=row i k x hk;refine⟨a,?_,e⟩;have ha':acc.toList[i]? = some (Value.ref a):=by simpa using ha
  rw[has,Ym]at ha'
  cases q2:as[i]? with
  | none=>rw[q2]at ha';cases ha'
  | some b=>rw[q2]at ha';injection ha' with ha';injection ha' with ha';rw[ha']
end
end L2
namespace L2
open PySem PySem.Spec PyProof.Rows
def zhj(K:W.Frag)(f:Addr):Option Addr:=match K.lookup f with
 | some ⟨_,_,.func fd,_⟩=>(match fd.code with | .ref c=>some c | _=>none)
 | _=>none
section
variable{P:Program}{w:World}{K:W.Frag}{mg:Str->Option Value}{base:Heap}{x qual:Str}{st:Stmt}{dV:Value}{f:Addr}{fd:FuncData}{N ps:List Str}{k:Nat}{sp:Sp}
theorem FunD.okL{cc:Addr}(F:FunD K x qual st dV f fd)(hcc:zhj K f=some cc)(S:FnScope N ps (zah st))(len:∀vs H Q E,sp vs H Q E->vs.length=ps.length)
  (hbody:∀(A:Around) (outer:List Env) (s:Shared) (H:Hp) (vs:List V) (Q:VK) (E:XK),Room k (A.deeper (envOfC qual (zah st) s.heap.objs.size f (.ref cc)))->sp vs H Q E ->
   ∃t,PSs (cxOf CX0 P w K mg base N qual (zah st) f (.ref cc) A outer s H E).nox (zck st) t/\t { nx:=λ_ H'=>Q .non H',rt:=Q } (start N vs) H):FnOk P w K mg base CX0 (k+1) f fd ps sp:=by
 obtain⟨oc,od,kV,doc,pm,an,cdv,ct,osl,rfl,lk,hcd⟩:=F.ex;have e:cdv=.ref cc:=by
  unfold zhj at hcc;rw[lk]at hcc
  cases cdv with
  | ref c=>injection hcc with z;rw[z]
  | _=>cases hcc
 subst e;refine zv8 lk hcd S len λA outer s H vs Q E hr hsp=>?_
 obtain⟨t,h,q⟩:=hbody A outer s H vs Q E hr hsp;exact⟨t,h.nox,q⟩
end
end L2
set_option Elab.async false
set_option linter.all false
set_option maxRecDepth 100000
set_option Elab.async false
set_option linter.all false
set_option maxRecDepth 100000
namespace L2
open PySem PySem.Spec PyProof.Rows MeetsSeq3
open AutoSeq1 (wpAny_loadPart')
section
variable{prog:Program}{w:World}
theorem zm5(l b:Addr)(xs ys:Array Value)(n n2:Nat)(neg:Bool)(hsz:xs.size=ys.size)(e:Nat->Bool)(k:Nat) :
  ∀(i:Nat),xs.size-i=k->MeetsIn prog w (Builtin.«list.__eq__.loop» ⟨[.ref l,.ref b,rawInt i,rawInt (if neg then 3 else 2)],[]⟩)
   (λA R s=>s.heap.get? l=some { cls:=.type "list",data:=.seq xs n }/\s.heap.get? b=some { cls:=.type "list",data:=.seq ys n2 } /\
    (∀j (h1:j<xs.size) (h2:j<ys.size) (E:Value->Shared->Prop) (Q:Bool->Shared->Prop),Q (e j) s->wpAny (model prog w) A.in1 (eqBool xs[j] ys[j]) Q E s) /\
    R (.ok (.ret (.bool (xor neg (((List.range xs.size).drop i).all e))))) s):=by
 induction k with
 | zero=>
  rintro i hk A R ⟨hp,g,d,tk,os⟩ ⟨hl,hb,he,h⟩
  cases neg <;>
  ·wp_walk using wpAny_loadPart' hl,wpAny_loadPart' hb
   have i1:xs[((i:Nat):Int).toNat]? = none:=by simp;omega
   have i2:ys[((i:Nat):Int).toNat]? = none:=by simp;omega
   have hd:(List.range xs.size).drop i=[]:=by simp;omega
   rw[hd]at h;rw[i1,i2];wp_walk using wpAny_loadPart' hl,wpAny_loadPart' hb
   first
    | (show R (.ok (.ret (.bool (xs.size == ys.size)))) _;rw[hsz];simpa using h)
    | (show R (.ok (.ret (.bool (xs.size != ys.size)))) _;rw[hsz];simpa using h)
 | succ k ih=>
  rintro i hk A R ⟨hp,g,d,tk,os⟩ ⟨hl,hb,he,h⟩;have l1:i<xs.size:=by omega
  have l2:i<ys.size:=by omega
  have i1:xs[((i:Nat):Int).toNat]? = some xs[i]:=by simp[l1]
  have i2:ys[((i:Nat):Int).toNat]? = some ys[i]:=by simp[l2]
  have hd:(List.range xs.size).drop i=i::(List.range xs.size).drop (i+1):=by simp[List.drop_eq_getElem_cons,l1]
  have hc:((i:Int)+1)=((i+1:Nat):Int):=by push_cast;rfl
  have ih:=ih (i+1) (by omega);rw[hd,List.all_cons]at h
  cases neg <;>
  ·wp_walk using wpAny_loadPart' hl,wpAny_loadPart' hb
   rw[i1,i2];refine Ya (he i l1 l2 _ _ ?_)
   cases hb':e i with
   | true=>
    rw[hb']at h;wp_walk;rw[hc];exact⟨plainId_quiet plain_eq_loop _,codeAny_builtin entry_eq_loop (by
     rw[Around.under_plainId plain_eq_loop _];exact ih A R _ ⟨hl,hb,he,by simpa using h⟩)⟩
   | false=>
    rw[hb']at h;wp_walk using wpAny_loadPart' hl,wpAny_loadPart' hb;rw[i1,i2];wp_walk;simpa using h
theorem zm2(l b:Addr)(xs ys:Array Value)(n n2:Nat)(neg:Bool)(e:Nat->Bool) :
  MeetsIn prog w ((if neg then Builtin.«list.__ne__» else Builtin.«list.__eq__») ⟨[.ref l,.ref b],[]⟩)
   (λA R s=>s.heap.get? l=some { cls:=.type "list",data:=.seq xs n }/\s.heap.get? b=some { cls:=.type "list",data:=.seq ys n2 } /\
    (∀j (h1:j<xs.size) (h2:j<ys.size) (E:Value->Shared->Prop) (Q:Bool->Shared->Prop),Q (e j) s->wpAny (model prog w) A.in1 (eqBool xs[j] ys[j]) Q E s) /\
    R (.ok (.ret (.bool (xor neg (decide (xs.size=ys.size)&&(List.range xs.size).all e))))) s):=by
 rintro A R ⟨hp,g,d,tk,os⟩ ⟨hl,hb,he,h⟩;have f3:=AutoSeq1.sub_list_list;by_cases hz:xs.size=ys.size
 ·have hne:¬(xs.size != ys.size)=true:=by simp[hz]
  rw[Yo hz,Bool.true_and]at h
  cases neg
  ·simp only[Bool.false_eq_true,if_false]
   wp_walk using wpAny_loadPart' hl,wpAny_loadPart' hb
   exact⟨plainId_quiet plain_eq_loop _,codeAny_builtin entry_eq_loop (by
    rw[Around.under_plainId plain_eq_loop _];exact zm5 l b xs ys n n2 false hz e _ 0 rfl A R _ ⟨hl,hb,he,by simpa using h⟩)⟩
  ·simp only[if_true]
   wp_walk using wpAny_loadPart' hl,wpAny_loadPart' hb
   exact⟨plainId_quiet plain_eq_loop _,codeAny_builtin entry_eq_loop (by
    rw[Around.under_plainId plain_eq_loop _];exact zm5 l b xs ys n n2 true hz e _ 0 rfl A R _ ⟨hl,hb,he,by simpa using h⟩)⟩
 ·have hne:(xs.size != ys.size)=true:=by simp[hz]
  rw[Yw hz,Bool.false_and]at h
  cases neg
  ·simp only[Bool.false_eq_true,if_false]
   wp_walk using wpAny_loadPart' hl,wpAny_loadPart' hb
   have q:(CmpOp.Eq == CmpOp.NotEq)=false:=by decide
   rw[q];simpa using h
  ·simp only[if_true]
   wp_walk using wpAny_loadPart' hl,wpAny_loadPart' hb
   simpa using h
end
section
variable{X:Cx}{pins:List (Addr×Obj)}{σ : St}{H:Hp}{s:Shared}
def DEq(K:W.Frag)(H:Hp)(a b:Addr)(c:Bool):Prop:=∃(ka kb:List (List Key×V)) (da db:List (List Key×PyData)),Rd H a (.dT ka)/\Rd H b (.dT kb)/\KDs K H ka da/\KDs K H kb db/\Flats da/\Flats db/\eqKD da db=c/\(a=b->c=true)
theorem zj9{a b:Addr}{c:Bool}{A:Around}{E:Value->Shared->Prop}{Q:Bool->Shared->Prop}(hu:A.units+64<cLine)(I:Inv X pins σ H s)(h:DEq X.K H a b c)(q:Q c s):wpAny (model X.prog X.w) A (eqBool (.ref a) (.ref b)) Q E s:=by
 obtain⟨ka,kb,da,db,ha,hb,qa,qb,fa,fb,e,e0⟩:=h;obtain⟨_,sa,xs,ta,ea⟩:=zgh I.hok ha;obtain⟨_,sb,ys,tb,eb⟩:=zgh I.hok hb;have lx:xs.length=da.length:=(Paired.length ta).symm.trans (Paired.length qa);have ly:ys.length=db.length:=(Paired.length tb).symm.trans (Paired.length qb);unfold eqBool
 try with_reducible refine Jr ?_
 show wpAny _ _ (if (Value.ref a == Value.ref b)=true then _ else _) Q E s;by_cases hab:(Value.ref a == Value.ref b)=true
 ·rw[Yl hab];have:=e0 (Value.ref.inj (beq_iff_eq.mp hab));subst this;exact Ya (wpAny_rule (Yb q))
 ·rw[Yh hab];refine Ya (zme (knd:=tupleKind (za8 X.prog X.w)) (tupleKind_room_in1 (by omega)) (by omega) sa sb ea eb (λ_=>zi4 (by show A.units+1+61<cLine;omega) I tb qb fb ta qa fa) ?_);refine Jq ?_;rw[lx,ly];show Q (eqKD da db) s;rw[e];exact q
def zxa(K:W.Frag)(neg:Bool):R2:=λx y H Q=>∃(l b:Addr) (as bs:List Addr) (e:Nat->Bool),x=.ref l/\y=.ref b/\H l=some (.lst (as.map V.ref))/\H b=some (.lst (bs.map V.ref)) /\
 (∀(i:Nat) (p q:Addr),as[i]? = some p->bs[i]? = some q->DEq K H p q (e i))/\Q (.bl (xor neg (decide (as.length=bs.length)&&(List.range as.length).all e))) H
theorem zhv:∀{as:List Addr} {us:List Value},Vals (as.map V.ref) us->us=as.map Value.ref
 | [],_,.nil=>rfl
 | a::as,_,.cons r t=>by cases (show _=Value.ref a from r);rw[zhv t];rfl
theorem zmb{l b:Addr}{as bs:List Addr}{e:Nat->Bool}{neg:Bool}{Q:VK}(hu:X.A.units+70<cLine)(I:Inv X pins σ H s)(hl:H l=some (.lst (as.map V.ref)))(hb:H b=some (.lst (bs.map V.ref)))
  (he:∀(i:Nat) (p q:Addr),as[i]? = some p->bs[i]? = some q->DEq X.K H p q (e i)) (q:Q (.bl (xor neg (decide (as.length=bs.length)&&(List.range as.length).all e))) H) :
  wpAny (model X.prog X.w) X.A (compareOp (if neg then .NotEq else .Eq) (.ref l) (.ref b)) (EP X pins σ Q) X.xe s:=by
 obtain⟨vs,n,hV,h1,hz⟩:=I.lst hl;obtain⟨vs2,n2,hV2,h2,hz2⟩:=I.lst hb;have e1:=zhv hV;have e2:=zhv hV2;subst e1 e2;have T1:s.TypeIs (.ref l) "list":=⟨_,h1,Z⟩;have T2:s.TypeIs (.ref b) "list":=⟨_,h2,Z⟩;have body:=zm2 (prog:=X.prog) (w:=X.w) l b (as.map Value.ref).toArray (bs.map Value.ref).toArray n n2 neg e;have sz:∀(z:List Addr),(z.map Value.ref).toArray.size=z.length:=λz=>by simp
 have inn:∀(R:Result->Shared->Prop),R (.ok (.ret (.bool (xor neg (decide (as.length=bs.length)&&(List.range as.length).all e))))) s->(fun(A:Around) (R:Result->Shared->Prop) (s:Shared)=>s.heap.get? l=some { cls:=.type "list",data:=.seq (as.map Value.ref).toArray n }/\s.heap.get? b=some { cls:=.type "list",data:=.seq (bs.map Value.ref).toArray n2 } /\
    (∀j (h1:j<(as.map Value.ref).toArray.size) (h2:j<(bs.map Value.ref).toArray.size) (E:Value->Shared->Prop) (Q:Bool->Shared->Prop),Q (e j) s->wpAny (model X.prog X.w) A.in1 (eqBool (as.map Value.ref).toArray[j] (bs.map Value.ref).toArray[j]) Q E s) /\
    R (.ok (.ret (.bool (xor neg (decide ((as.map Value.ref).toArray.size=(bs.map Value.ref).toArray.size)&&(List.range (as.map Value.ref).toArray.size).all e))))) s) X.A R s:=λR hR=>by
  refine⟨h1,h2,λj j1 j2 E' Q' hq=>?_,by rw[sz,sz];exact hR⟩;rw[sz]at j1 j2;have a1:(as.map Value.ref).toArray[j]'(by rw[sz];exact j1)=.ref as[j]:=by simp
  have a2:(bs.map Value.ref).toArray[j]'(by rw[sz];exact j2)=.ref bs[j]:=by simp
  rw[a1,a2];exact zj9 (by show X.A.units+1+64<cLine;omega) I (he j _ _ (Yc j1) (Yc j2)) hq
 cases neg
 ·refine Ju (op:=.Eq) T1 T2 PySem.F.slot_list_eq (call_meetsIn PySem.F.slot_list_eq T1 PySem.F.entry_list_eq (PySem.F.args_list_eq_2 _ _) body (inn _ ?_)) (by omega);exact⟨(λz=>nomatch z),.bl _,H,I,Z,q⟩
 ·refine Ju (op:=.NotEq) T1 T2 PySem.F.slot_list_ne (call_meetsIn PySem.F.slot_list_ne T1 PySem.F.entry_list_ne (PySem.F.args_list_ne_2 _ _) body (inn _ ?_)) (by omega);exact⟨(λz=>nomatch z),.bl _,H,I,Z,q⟩
theorem zwv{K:W.Frag}(hK:X.K=K)(hu:X.A.units+70<cLine):OpR X (compareOp .Eq) (zxa K false):=by
 subst hK;intro pins s σ H x y u v Q I rx ry h;obtain⟨l,b,as,bs,e,rfl,rfl,hl,hb,he,q⟩:=h
 cases rx;cases ry;exact zmb (neg:=false) hu I hl hb he q
theorem zv5{K:W.Frag}(hK:X.K=K)(hu:X.A.units+70<cLine):OpR X (compareOp .NotEq) (zxa K true):=by
 subst hK;intro pins s σ H x y u v Q I rx ry h;obtain⟨l,b,as,bs,e,rfl,rfl,hl,hb,he,q⟩:=h
 cases rx;cases ry;exact zmb (neg:=true) hu I hl hb he q
end
end L2
set_option Elab.async false
set_option linter.all false
set_option maxRecDepth 100000
namespace L2
open PySem PySem.Spec PyProof.Rows
def Ite(K:W.Frag)(a:Addr):It:=
 ⟨λi H=>∃xs x,SqL K H a xs/\xs[i]? = some x,λi H v H'=>∃p x,H p=none/\v=.ref p/\H'=upd H p (.tup [.int i,x])/\∀xs,SqL K H a xs->xs[i]? = some x,λi H=>∃xs,SqL K H a xs/\xs.length<=i⟩
def ESt(e it l:Addr)(i:Nat)(h:Heap):Prop:=(∃old,IsEnum h e it i old)/\h.IsListIter it l i
theorem zof{P:Program}{w:World}{K:W.Frag}{es:List Expr}{ek:Nat}{pos:Pos}{e it a:Addr}(hei:e≠it):Turn P w K (.Tuple es ek pos) (Ite K a) [e,it] e (λi h=>ESt e it a i h) where
 mem:=by simp
 obj:=λi h ⟨⟨_,st⟩,si⟩ b hb=>by
  simp only[List.mem_cons,List.not_mem_nil,or_false]at hb
  rcases hb with rfl | rfl
  ·exact⟨_,st,λv q=>by cases q⟩
  ·obtain⟨o,eo,_,hd⟩:=si;exact⟨o,eo,λv q=>by rw[hd]at q;cases q⟩
 keep:=λi h h' ⟨⟨old,st⟩,si⟩ k=>⟨⟨old,k e (by simp) _ st⟩,si.at λo q=>k it (by simp) o q⟩
 item:=by
  intro X hP hw hK hc i pins s σ H E I hf st hg;subst hP hw hK;obtain⟨⟨old,he⟩,hit⟩:=st;obtain⟨xs,x,h1,hx⟩:=hg;obtain⟨us,ru,p,_⟩:=I.list h1;obtain⟨u,eu,rx⟩:=ru.get hx;have elt:e<s.heap.objs.size:=Yn he;have ilt:it<s.heap.objs.size:=by obtain⟨_,z,_⟩:=hit;exact Yn z
  refine wpAny_pyNext_enum_item he hit p.isList (x:=u) (by simpa using eu) hei λh' ho hit' hT hsz k=>?_
  refine⟨_,Z,wpAny_letOwnedTupleGo_enum ho λh'' he'' hs=>?_⟩;have pe:s.heap.objs.size≠e:=Nat.ne_of_gt elt;have kk:∀b o,b ∉ [e,it]->s.heap.get? b=some o->h''.get? b=some o:=λb o hb q=>by
   simp only[List.mem_cons,List.not_mem_nil,or_false,not_or]at hb
   exact(hs.2 b hb.1).trans (k b o hb.1 hb.2 q)
  refine⟨.ref s.heap.objs.size,upd H s.heap.objs.size (.tup [.int i,x]),I.drawn (t':=s.toks+1) (ch:=[e,it]) (λb hb=>hf b hb) kk (Yi _) ?_,Z,⟨_,x,I.fresh,Z,Z,λxs' hq=>?_⟩,?_,λb hb=>?_⟩
  ·exact⟨by show 2<=sizeLine;rw[sizeLine_eq];decide,[.int i s.toks,u],.cons ⟨_,Z⟩ (.cons rx .nil),⟨_,(hs.2 _ pe).trans hT,Z,_,Z⟩⟩
  ·rw[I.list_inj hq h1];exact hx
  ·exact⟨⟨u,by simpa using he''⟩,hit'.at λo q=>(hs.2 it hei.symm).trans q⟩
  ·have:b<s.heap.objs.size:=by
    simp only[List.mem_cons,List.not_mem_nil,or_false]at hb
    rcases hb with rfl | rfl
    ·exact elt
    ·exact ilt
   rw[zai (Y0 this)];exact(hf b hb).1
 done:=by
  intro X hP hw hK hc i pins s σ H E I hf st hg;subst hP hw hK;obtain⟨⟨old,he⟩,hit⟩:=st;obtain⟨xs,h1,hl⟩:=hg;obtain⟨us,ru,p,_⟩:=I.list h1;have l1:=ru.length;refine wpAny_pyNext_enum_end (I.ok.hd hc) he hit p.isList (by rw[List.getElem?_toArray,Yy];omega) λh' k=>⟨rfl,I.turnedL (t':=s.toks) (ch:=[e,it]) (λb hb=>hf b hb) λb o hb q=>?_⟩
  simp only[List.mem_cons,List.not_mem_nil,or_false,not_or]at hb
  exact k b o hb.2 q
 self:=λ_ _ _ _ _ ⟨⟨_,st⟩,_⟩ h=>wpAny_pyIter_enum st h
def z0g(K:W.Frag)(ta:TA):TI:=λσ H R=>ta σ H λvs H1=>∃a,vs=[.ref a]/\(∃xs,SqL K H1 a xs)/\R (Ite K a) H1
theorem zh1:bootBuiltins "enumerate" = some (.type "enumerate"):=by kernel_rfl
theorem zwr{X:Cx}{K:W.Frag}{es:List Expr}{ek:Nat}{tpos p pos:Pos}{e1:Expr}{ta:TA}(hK:X.K=K)(hg:Gl X "enumerate")(hm:X.mg "enumerate" = none)(ha:PA X [e1] ta)
  (he:starEach [e1] X.env=(false,eval e1 X.env)::starEach [] X.env:=by rfl) (hpl:(backTo pos (starEach [] X.env)).any (·.1)=false:=by rfl) :
  PI X (.Tuple es ek tpos) (.Call (.Name "enumerate" p) [e1] [] pos) (z0g K ta):=by
 subst hK;intro pins s σ H R I h;refine wpAny_Call_Name_kw (zft I hg hm zh1 ?_ (by decide) (by decide));refine PyProof.Rows.callWith_type1 (thn (ha pos pins s σ H _ I h) λus s1 ⟨vs,H1,I1,r1,a,ev,⟨xs,h1⟩,q⟩=>?_) he hpl;subst ev;obtain⟨u1,rfl,e1'⟩:=r1.one
 cases e1';obtain⟨us,ru,p1,_⟩:=I1.list h1;refine call_enumerate_list p1.isList λh' en it sz k=>wpAny_pyIter_enum en ?_
 have I2:Inv X pins σ H1 { s1 with heap:=h' }:=I1.kept (t':=s1.toks) k;refine⟨s1.heap.objs.size+1,[s1.heap.objs.size+1,s1.heap.objs.size],_,_,H1,Z,I2,zof (Nat.succ_ne_self _),⟨⟨_,en⟩,it⟩,λb hb=>?_,q⟩;have hb':s1.heap.objs.size<=b:=by
  simp only[List.mem_cons,List.not_mem_nil,or_false]at hb
  rcases hb with rfl | rfl
  ·exact Nat.le_add_right _ 1
  ·exact Yi _
 have F:=I1.fpOk hb' (I1.hok.fresh hb');exact F
theorem zo9{K:W.Frag}{H1:Hp}{a:Addr}{xs:List V}(h1:SqL K H1 a xs):Walk (Ite K a) H1 xs.length (λi v H=>∃p x,v=.ref p/\H p=some (.tup [.int i,x])/\xs[i]? = some x):=by
 refine⟨λi H' e hi=>⟨xs,xs[i],e.seq h1,by simp[hi]⟩,λH' e=>⟨xs,e.seq h1,Yi _⟩,λi H' x H2 e hi q=>?_⟩;obtain⟨p,u,hp,rfl,rfl,q1⟩:=q;exact⟨Same.upd hp,p,u,Z,zab,q1 xs (e.seq h1)⟩
def zwb:V->List V->Hp->VK->Prop:=λx vs H Q=>∃(l:Addr) (xs:List V) (i:Nat) (y:V),x=.ref l/\vs=[.int i,y]/\H l=some (.lst xs)/\i<=xs.length/\xs.length<sizeLine/\Q .non (upd H l (.lst (xs.take i++y::xs.drop i)))
theorem zrk{prog:Program}{w:World}{A:Around}{E:Value->Shared->Prop}{s:Shared}{Q:Value->Shared->Prop}{l:Addr}{i:Int}{t:Tok}{u2:Value}(o:Obj)(f:Array Value->Array Value)(T:s.TypeIs (.ref l) "list")(M:Meets (Builtin.«list.insert» ⟨[.ref l,.int i t,u2],[]⟩) (λ_ R s=>s.heap.get? l=some o/\R (.ok (.ret Value.none)) { s with heap:=s.heap.update l (Obj.mapSeq f),toks:=s.toks }))(e:s.heap.get? l=some o)(h:Q .none { s with heap:=s.heap.update l (Obj.mapSeq f),toks:=s.toks }) :
  wpAny (model prog w) A (call (.builtin "list.insert") [.ref l,.int i t,u2]) Q E s:=call_meets PySem.F.slot_list_insert T PySem.F.entry_list_insert (PySem.F.args_list_insert_3 _ _ _) M ⟨e,h⟩
def insF(i:Int)(u:Value)(xs:Array Value):Array Value:=(xs.extract 0 (if i<0 then(i+((xs.size:Nat):Int)).toNat else min i.toNat xs.size)).push u++xs.extract (if i<0 then(i+((xs.size:Nat):Int)).toNat else min i.toNat xs.size)
theorem zpr{X:Cx}:MtM X "list.insert" zwb:=by
 intro pins s σ H x vs v us Q I rx rv h;obtain⟨l,xs,i,y,rfl,rfl,hH,hi,hz,q⟩:=h
 cases rx;obtain⟨u1,u2,rfl,⟨t,rfl⟩,r2⟩:=rv.two;obtain⟨z,its,n,r,hl,e⟩:=I.lstM hH;have hsz:its.toArray.size<=sizeLine:=by rw[Ys];omega
 have fits:¬(!Builtin.List.listFitsIndex (i:Int))=true:=by
  have hi':(i:Int)<2^63:=by
   have h1:i<sizeLine:=Yp hi hz;have h2:sizeLine<=2^62:=by rw[sizeLine_eq];decide
   have h3:i<2^62:=Yf h1 h2;omega
  have hi0 : -(2^63)<=(i:Int):=by omega
  unfold Builtin.List.listFitsIndex;rw[Yo hi',Yo hi0];decide
 generalize ej:(i:Int)=j at fits ⊢;refine zrk { cls:=.type "list",dict:=none,data:=.seq its.toArray n,slots := #[] } (insF j u2) ⟨_,e,Z⟩ (@PySem.AutoSeq1.list_insert_list_int_val_1 l its.toArray n j t u2 fits hsz) e ?_;refine⟨.non,_,I.lset (f:=insF j u2) (its':=its.take i++u2::its.drop i) hH e ?_ ?_ ?_,Z,q⟩
 ·have hl':i<=its.length:=by rw[<- hl];exact hi
  unfold insF;rw[Yh (by omega),<- ej,Y1,Ys,Nat.min_eq_left hl'];apply Array.ext';simp;rw[List.take_of_length_le (l:=its.drop i) (by simp)]
 ·exact(r.take i).append (.cons r2 (r.drop i))
 ·rw[Y6,Y5,List.length_take,List.length_drop];omega
end L2
namespace L2
open PySem PySem.Spec PyProof.Rows
def CMulC(i j:Int):Prop:=i.natAbs<2^20000/\j.natAbs<2^20000
theorem zci{X:Cx}:OpR X (binaryOp .Mult) (rI CMulC λi j=>.int (i*j)):=opI λ_ _ _ _ _ _ _ hc q=>mul_int q (PySem.IntMulOk.of_bits (Yr (intBits_le hc.1) (by decide)) (Yr (intBits_le hc.2) (by decide)))
end L2
set_option Elab.async false
set_option linter.all false
set_option maxRecDepth 100000
set_option Elab.async false
set_option linter.all false
set_option maxRecDepth 100000
namespace L2
open PySem PySem.Spec PyProof.Rows
def cdO(c':Addr)(qual:Str):HO:=.ext λh=>h.CodeRec (.ref c') qual
def Tb(P:Addr)(lp:Pos)(qual:Str)(H:Hp):Prop:=H P=some (.tbl #[])\/∃c',c'≠P/\H P=some (.tbl #[rawInt lp.line,rawInt lp.col,.ref c'])/\H c'=some (cdO c' qual)
theorem zxu{X:Cx}{H:Hp}{h:Heap}{c':Addr}{qual:Str}(r:h.CodeRec (.ref c') qual):ObjOk X.prog X.w H h c' (cdO c' qual):=by
 refine⟨r,?_,λh1 h2 q k=>?_⟩
 ·obtain⟨c,o,vs,t,e,g,_⟩:=r
  cases e;exact⟨o,g⟩
 ·obtain⟨c,o,vs,t,e,g,r⟩:=q
  cases e;exact⟨c',o,vs,t,Z,k _ g,r⟩
section
variable{X:Cx}{pins:List (Addr×Obj)}{σ : St}{H:Hp}{s:Shared}{x:Str}{ys:List Str}{yvs:List V}{qual:Str}{scope:Scope}{q c':Addr}{clos:List (Str×Addr)}{A:Around}{u:Value}{xv:V}
theorem zrs{h₁:Heap}{tk:Nat}(I:Inv X pins σ H s)(hA:A.frames=some X.stack)(hh:A.handled=none)(hk:scope.kind=.function)(hx:scope.names.lookup x=some .local)(hy:∀y∈ys,scope.names.lookup y=some .free)
  (ho:∀z,(scope.names.lookup z=some .cell\/scope.names.lookup z=some .free)->z∈ys) (hc1:∀z d,clos.lookup z=some d->X.env.cells.lookup z=some d) (hc2:∀y∈ys,∃d,clos.lookup y=some d) (hl:yvs.length=ys.length)
  (hv:∀(i:Nat) y v,ys[i]? = some y->yvs[i]? = some v->∃c uy,X.env.cells.lookup y=some c/\s.heap.IsCell c (some uy)/\RelV v uy) (rx:RelV xv u)
  (hns:h₁.Ns s.heap.objs.size (λz=>[(x,u)].reverse.lookup z)) (hk₁:∀b o,s.heap.get? b=some o->h₁.get? b=some o) :
  Inv (zwz X (x::ys) qual scope q c' clos A s H) [] (some xv::yvs.map some) H { s with heap:=h₁,toks:=tk }:=by
 have hcell:∀{c:Addr} {w:Option Value},s.heap.IsCell c w->h₁.IsCell c w:=λhcc=>let ⟨o,e,d⟩:=hcc;⟨o,hk₁ _ _ e,d⟩
 refine⟨⟨I.ok.mod,hk,Z,Z,Yi _,λz z' d h1 h2=>I.ok.inj _ _ _ (hc1 _ _ h1) (hc1 _ _ h2),λz hz=>?_,λz d hf _=>absurd (show false=true from hf) Yt,λ_=>hh,Around.frames_deeper hA,.inr ⟨Z,Z⟩,λb z=>(nomatch z),I.bs,Yr I.ok.bsz I.sz,λb _ _ z=>(nomatch z),λb z=>(nomatch z),I.stack,I.stkFree⟩,
  rfl,I.bare,Un.kept hk₁,⟨_,hns,λi z v h1 h2 h3=>?_⟩,λz d h=>?_,I.hok.fresh (Yi _),λz d h=>I.freeC z d (hc1 _ _ h),λp hp=>(nomatch hp),I.hok.kept hk₁,?_⟩
 ·exact hc2 z (ho z hz)
 ·match i,h1,h2 with
  | 0,h1,h2=>
   cases h1
   cases h2;exact⟨u,rx,.inl ⟨hx,by show List.lookup x [(x,u)]=some u;rw[Jm];simp⟩⟩
  | i+1,h1,h2=>
   have h1:ys[i]? = some z:=h1;have h2:(yvs.map some)[i]? = some (some v):=h2;rw[Ym]at h2
   cases e:yvs[i]? with
   | none=>rw[e]at h2;cases h2
   | some v'=>
    rw[e]at h2;injection h2 with h2
    injection h2 with h2
    subst h2;obtain⟨c,uy,h4,h5,h6⟩:=hv i z v' h1 e;have zm:=Yx h1;obtain⟨d,hd⟩:=hc2 z zm;have:d=c:=Jg ((hc1 _ _ hd).symm.trans h4);subst this;exact⟨uy,h6,.inr ⟨.inr (hy z zm),d,hd,hcell h5⟩⟩
 ·obtain⟨v,h⟩:=I.cell z d (hc1 _ _ h);exact⟨v,hcell h⟩
 ·show (some xv::yvs.map some).length=(x::ys).length;simp[hl]
theorem zr5{params:Arguments}{body:Expr}{pm ctv:Value}{t:TE}{Q:VK}(I:Inv X pins σ H s)(hq:(q,W.kla_obj "<lambda>" qual params body scope clos pm c' ctv)∈pins)(hc':H c'=some (cdO c' qual))
  (hA:A.frames=some X.stack) (hh:A.handled=none) (hr:A.depth<recursionLimit) (hk:scope.kind=.function) (hco:scope.isCoroutine=false) (hgen:scope.isGenerator=false)
  (hcell:∀x∈scope.names,x.2≠.cell) (hx:scope.names.lookup x=some .local) (hy:∀y∈ys,scope.names.lookup y=some .free) (ho:∀z,(scope.names.lookup z=some .cell\/scope.names.lookup z=some .free)->z∈ys)
  (hb:∀u,bindArgs (W.kla_fn "<lambda>" qual params body scope clos pm (.ref c') ctv) ⟨[u],[]⟩=pure [(x,u)])
  (hc1:∀z d,clos.lookup z=some d->X.env.cells.lookup z=some d) (hc2:∀y∈ys,∃d,clos.lookup y=some d) (hl:yvs.length=ys.length)
  (hv:∀(i:Nat) y v,ys[i]? = some y->yvs[i]? = some v->∃c uy,X.env.cells.lookup y=some c/\s.heap.IsCell c (some uy)/\RelV v uy) (rx:RelV xv u)
  (PEb:PE (zwz X (x::ys) qual scope q c' clos A s H) body t) (h:t (some xv::yvs.map some) H Q):wpAny (model X.prog X.w) A (call (.ref q) [u]) (EP X pins σ Q) (λ_ _=>False) s:=by
 have e1:=(I.pin _ (Yg _ hq)).1;have e2:s.heap.CodeRec (.ref c') qual:=(I.hok c' _ hc').1;refine wpAny_call (codeAny_mono (R:=CR CX0 X.stack X.prog X.w H s Q E0) (W.kla_callFunE hr e1 rfl hco hgen rfl e2 ?_) λr s' hq=>?_)
 ·rw[hb u];refine Yb (wpAny_newFunctionEnv hcell (λz hz=>?_) (λh₁ hns hsb=>?_) hk)
  ·obtain rfl:=Yq.mp hz;exact hx
  ·have hk₁:∀b o,s.heap.get? b=some o->h₁.get? b=some o:=λb o e=>hsb.extBut b o (Y0 (Yn e)) (Ye _ e)
   refine⟨I.nolimit.keeps hk₁,?_⟩;show codeAny _ _ (.expr body (W.envX qual scope s.heap.objs.size q (.ref c') clos)) _ _;refine W.kla_codeExpr (wpAny_mono (PEb [] _ _ H Q (zrs I hA hh hk hx hy ho hc1 hc2 hl hv rx hns hk₁) h) (λv s' hv=>?_) λ_ _ z=>Jf z);obtain⟨w,H',J,rw,qw⟩:=hv;exact⟨w,H',J.os,J.bare,J.base,J.hok,rw,qw⟩
 ·match r,hq with
  | .error e,hq=>exact Jf hq
  | .ok (.ret u),hq=>exact I.after hq
  | .ok .next,hq=>exact Jf hq
  | .ok .brk,hq=>exact Jf hq
  | .ok .cont,hq=>exact Jf hq
theorem zos{P cc:Addr}{params:Arguments}{body:Expr}{pos:Pos}{Qv:Value->Shared->Prop}{E:Value->Shared->Prop}(I:Inv X pins σ H s)(hcode:X.env.code=.ref cc)(C:W.CodeHd X.base cc P)
  (hT:Tb P pos (X.env.qual ++ "<lambda>") H) (hB:X.base.BuiltinsAt X.mg P) (hcl:closureFor scope X.env=pure clos) (hdef:defaultsOf params X.env=([],[]))
  (h:∀(q c':Addr) (ctv:Value) (s':Shared) (H2:Hp),(∀b o,H b=some o->b≠P->H2 b=some o)->H2 P=some (.tbl #[rawInt pos.line,rawInt pos.col,.ref c'])->H2 c'=some (cdO c' (X.env.qual ++ "<lambda>"))->c'≠P ->
   Inv X ((q,W.kla_obj "<lambda>" (X.env.qual ++ "<lambda>") params body scope clos ((X.mg "__name__").getD .none) c' ctv)::pins) σ H2 s'->Qv (.ref q) s') :
  wpAny (model X.prog X.w) A (eval (.Lambda params body scope pos) X.env) Qv E s:=by
 have hg:=I.mod.glob.keeps I.bk;have hB':s.heap.BuiltinsAt X.mg P:=let ⟨bm,ob,b1,b2,b3,b4,b5,r⟩:=hB;⟨bm,ob,b1,b2,b3,b4,I.bk _ _ b5,r⟩;rcases hT with hT | ⟨c',cP,hT,hc'⟩
 ·have hP:s.heap.get? P=some (W.tabObj #[]):=I.hok P _ hT;have hgP:mainGlobals≠P:=λz=>by
   obtain⟨o,es,ep,e,hd,_⟩:=hg;rw[z,hP]at e;cases e;cases hd
  refine W.kla_eval hdef (W.kla_makeFunction (ps := #[]) hcl I.ok.glob hg hcode (C.keeps I.bk) hP trivial rfl hgP hB' λc' ctv h' tk hx hge hlt hrec htb=>?_);have hPl:P<s.heap.objs.size:=Yn hP;have hcP:c'≠P:=Nat.ne_of_gt (Yf hPl hge);have hcn:H c'=none:=I.hok.fresh hge;have bP:∀b,H b=none->b≠P:=λb n z=>by subst z;rw[hT]at n;cases n
  have bc:∀b o,s.heap.get? b=some o->b≠c':=λb o e=>Y0 (Yf (Yn e) hge)
  let H2:Hp:=upd (upd H P (.tbl #[rawInt pos.line,rawInt pos.col,.ref c'])) c' (cdO c' (X.env.qual ++ "<lambda>"))
  have k2:∀b o,H b=some o->b≠P->H2 b=some o:=λb o hb nb=>(zai (zam hb hcn)).trans ((zai nb).trans hb)
  have un:Un (frs X.stack) [] H H2 s.heap h':=
   ⟨λb o e n _ _=>hx b o (bP b n) e,λb o e n _ _=>⟨o.slots,hx b o (bP b n) e⟩,λb o e n _=>(zai (bc b o e)).trans ((zai (bP b n)).trans n),
    λb o e _=>by
     by_cases hb:b=P
     ·subst hb;exact⟨_,htb⟩
     ·exact⟨_,hx b o hb e⟩,
    λb xs e=>k2 _ _ e (zbs e hT (by intro z;cases z)),λb o u e=>k2 _ _ e (zbs e hT (by intro z;cases z)),
    λb ps e=>by
     by_cases hb:b=P
     ·subst hb;rw[hT]at e;cases e;exact⟨#[rawInt pos.line,rawInt pos.col,.ref c'],(zai (Jc hcP)).trans (by rw[zab];simp)⟩
     ·exact⟨#[],by rw[k2 _ _ e hb];simp⟩⟩
  have hok':HOk X.prog X.w H2 h':=λb u e=>by
   by_cases hbc:b=c'
   ·subst hbc;have e':(upd (upd H P (.tbl #[rawInt pos.line,rawInt pos.col,.ref b])) b (cdO b (X.env.qual ++ "<lambda>"))) b=some u:=e;rw[zab]at e';cases e';exact zxu hrec
   ·have e':upd H P (.tbl #[rawInt pos.line,rawInt pos.col,.ref c']) b=some u:=(zai hbc).symm.trans e;by_cases hb:b=P
    ·subst hb;rw[zab]at e';cases e';exact htb
    ·rw[zai hb]at e';refine(I.hok b u e').stay (λd v hdv r=>hx d v ?_ r) (λd r=>k2 _ _ r (zbs r hT (by intro z;cases z))) λd xs r=>k2 _ _ r (zbs r hT (by intro z;cases z))
     rcases hdv with rfl | r
     ·exact hb
     ·exact zbs r hT (by intro z;cases z)
  have I1:Inv X pins σ H2 { s with heap:=h',toks:=tk }:=I.call (g':=s.gens) (d':=s.drawn) (t':=tk) (ch:=[]) un hok' I.bare (λb z=>absurd z (by simp));have I2:=I1.pinNew (t':=tk) (ob:=W.kla_obj "<lambda>" (X.env.qual ++ "<lambda>") params body scope clos ((X.mg "__name__").getD .none) c' ctv) rfl (by intro v z;cases z);exact h _ c' ctv _ H2 k2 ((zai (Jc hcP)).trans zab) zab hcP I2
 ·have hP:s.heap.get? P=some (W.tabObj #[rawInt pos.line,rawInt pos.col,.ref c']):=I.hok P _ hT;refine W.kla_eval hdef (W.kla_makeFunctionHit (cv:=.ref c') hcl I.ok.glob hg hcode (C.keeps I.bk) hP trivial ?_ hB' λctv h' tk hk hsz=>?_)
  ·show codeAmong pos [rawInt pos.line,rawInt pos.col,.ref c']=some (.ref c');simp[codeAmong,rawInt]
  have I1:Inv X pins σ H { s with heap:=h',toks:=tk }:=I.kept hk;have I2:=I1.pinNew (t':=tk) (ob:=W.kla_obj "<lambda>" (X.env.qual ++ "<lambda>") params body scope clos ((X.mg "__name__").getD .none) c' ctv) rfl (by intro v z;cases z);exact h _ c' ctv _ H (λ_ _ hb _=>hb) hT hc' cP I2
end
end L2
set_option Elab.async false
set_option linter.all false
set_option maxRecDepth 100000
namespace L2
open PySem PySem.Spec PyProof.Rows
def zz8(K:W.Frag)(P:Addr)(lp:Pos)(qual:Str)(is:List Nat)(tb te:TE):TE:=λσ H Q=>te σ H λv H1=>∃(l:Addr) (all:List V) (yvs:List V),v=.ref l/\H1 l=some (.lst all)/\Paired (λi v=>σ[i]? = some (some v)) is yvs/\Tb P lp qual H1 /\
 ∀c' H2,(∀b o,H1 b=some o->b≠P->H2 b=some o)->H2 P=some (.tbl #[rawInt lp.line,rawInt lp.col,.ref c'])->H2 c'=some (cdO c' qual)->c'≠P->zj0 K l all (λx H Q=>H c'=some (cdO c' qual)/\tb (some x::yvs.map some) H Q) all H2 Q
theorem zuh{z:Str}{d:Addr}:∀{l:List (Str×Addr)},l.lookup z=some d->(z,d)∈l
 | [],h=>by cases h
 | (a,b)::l,h=>by
  rw[Jm]at h;split at h
  ·rename_i e
   cases h;rw[Jy e];exact .head _
  ·exact .tail _ (zuh h)
theorem zq8{z:Str}{d:Addr}:∀{l:List (Str×Addr)},(z,d)∈l->∃d',l.lookup z=some d'
 | (a,b)::l,h=>by
  rw[Jm];by_cases e:z=a
  ·exact⟨b,by simp[e]⟩
  ·have e':(z == a)=false:=by simpa using e
   rw[e'];rcases Yj.mp h with q | q
   ·cases q;exact absurd rfl e
   ·exact zq8 q
theorem zh7{α β : Type}{R : α->β->Prop}:∀{l:List α} {m:List β},Paired R l m->(∀p∈l.zip m,R p.1 p.2)/\∀a∈l,∃b,(a,b)∈l.zip m
 | _,_,.nil=>⟨λp h=>(by cases h),λa h=>(by cases h)⟩
 | _,_,.cons r t=>by
  obtain⟨h1,h2⟩:=zh7 t;refine⟨λp h=>?_,λa h=>?_⟩
  ·rcases Yj.mp h with rfl | h
   ·exact r
   ·exact h1 p h
  ·rcases Yj.mp h with rfl | h
   ·exact⟨_,.head _⟩
   ·obtain⟨b,hb⟩:=h2 a h;exact⟨b,.tail _ hb⟩
theorem zkt{α β : Type}{R : α->β->Prop}:∀{l:List α},(∀a∈l,∃b,R a b)->∃m,Paired R l m
 | [],_=>⟨[],.nil⟩
 | a::l,h=>by
  obtain⟨b,hb⟩:=h a (.head _);obtain⟨m,hm⟩:=zkt (l:=l) λx hx=>h x (.tail _ hx)
  exact⟨b::m,.cons hb hm⟩
theorem zlu{α β γ : Type}{R : α->β->Prop}{S : α->γ->Prop}:∀{l:List α} {m:List β} {n:List γ},Paired R l m->Paired S l n->m.length=n.length/\∀(i:Nat) b c,m[i]? = some b->n[i]? = some c->∃a,R a b/\S a c
 | _,_,_,.nil,.nil=>⟨rfl,λi b c h=>by simp at h⟩
 | _,_,_,.cons r t,.cons r' t'=>by
  obtain⟨h1,h2⟩:=zlu t t';refine⟨by simp[h1],λi b c hb hc=>?_⟩
  cases i with
  | zero=>cases hb;cases hc;exact⟨_,r,r'⟩
  | succ i=>exact h2 i b c hb hc
section
variable{X:Cx}{j:Nat}{is:List Nat}{p pos kpos lp:Pos}{e body:Expr}{te tb:TE}{P cc:Addr}{params:Arguments}{scope:Scope}{x:Str}{ys:List Str}
theorem zwk(he:PE X e te)(hr:Room j X.A)(hm:X.mg ("max" : Str)=none)(hcode:X.env.code=.ref cc)(C:W.CodeHd X.base cc P)(hB:X.base.BuiltinsAt X.mg P)
  (hx:scope.names.lookup x=some .local) (hy:∀y∈ys,scope.names.lookup y=some .free) (ho:∀z,(scope.names.lookup z=some .cell\/scope.names.lookup z=some .free)->z∈ys) (hcell:∀x∈scope.names,x.2≠.cell)
  (hk:scope.kind=.function) (hco:scope.isCoroutine=false) (hgen:scope.isGenerator=false) (hdef:defaultsOf params X.env=([],[]))
  (hb:∀qual clos pm cv ctv u,bindArgs (W.kla_fn "<lambda>" qual params body scope clos pm cv ctv) ⟨[u],[]⟩=pure [(x,u)])
  (hclo:∀cs:List Addr,Paired (λy c=>X.env.cells.lookup y=some c) ys cs->closureFor scope X.env=pure (ys.zip cs).reverse)
  (hN:Paired (λi y=>X.N[i]? = some y/\X.env.scope.names.lookup y=some .cell) is ys)
  (PEb:∀(q c':Addr) (clos:List (Str×Addr)) (s:Shared) (H:Hp),PE (zwz X (x::ys) (X.env.qual ++ "<lambda>") scope q c' clos X.A.in1 s H) body tb)
  (hk2:1<=j:=by decide) (hgl:Gl X "max":=by rfl) (hs:starEach [e] X.env=(false,eval e X.env)::starEach [] X.env:=by rfl) :
  PE X (.Call (.Name "max" p) [e] [⟨some "key",.Lambda params body scope lp,kpos⟩] pos) (zz8 X.K P lp (X.env.qual ++ "<lambda>") is tb te):=by
 intro pins s σ H Q I h;refine wpAny_Call_Name_kw (zft I hgl hm boot_max ?_);have h':zvj te tNil σ H (λvs H1=>match vs with
   | [v]=>∃(l:Addr) (all:List V) (yvs:List V),v=.ref l/\H1 l=some (.lst all)/\Paired (λi v=>σ[i]? = some (some v)) is yvs/\Tb P lp (X.env.qual ++ "<lambda>") H1 /\
     ∀c' H2,(∀b o,H1 b=some o->b≠P->H2 b=some o)->H2 P=some (.tbl #[rawInt lp.line,rawInt lp.col,.ref c'])->H2 c'=some (cdO c' (X.env.qual ++ "<lambda>"))->c'≠P->zj0 X.K l all (λx H Q=>H c'=some (cdO c' (X.env.qual ++ "<lambda>"))/\tb (some x::yvs.map some) H Q) all H2 Q
   | _=>False):=h
 refine callWith_kw (thn ((zaa he zac hs) pos pins s σ H _ I h') λus s1 ⟨vs,H1,I1,r1,q1⟩=>?_) (by rw[hs];rfl) (by rw[hs];rfl)
 cases r1 with
 | nil=>exact Jf q1
 | cons ru rr=>
  cases rr with
  | cons _ _=>exact Jf q1
  | nil=>
   obtain⟨l,all,yvs,ev,eh,hσ,hT,hmx⟩:=q1;subst ev
   cases ru;have look:∀{pins4:List (Addr×Obj)} {H4:Hp} {s4:Shared},Inv X pins4 σ H4 s4->∀(i:Nat) y v,ys[i]? = some y->yvs[i]? = some v->∃c uy,X.env.cells.lookup y=some c/\s4.heap.IsCell c (some uy)/\RelV v uy:=fun{pins4 H4 s4} I4 i y v h1 h2=>by
    obtain⟨k,⟨n1,n2⟩,n3⟩:=(zlu hN hσ).2 i y v h1 h2;obtain⟨m4,hns4,hloc4⟩:=I4.loc;obtain⟨uy,ry,hlook⟩:=hloc4 k y v n1 n3 (.inr (.inl n2));rcases hlook with⟨z,_⟩ | ⟨_,c,h3,h4⟩
    ·have z':X.env.scope.names.lookup y=some .local:=z;rw[n2]at z';cases z'
    ·exact⟨c,uy,h3,h4,ry⟩
   have ll:yvs.length=ys.length:=(zlu hN hσ).1.symm;have hcs:∃cs,Paired (λy c=>X.env.cells.lookup y=some c) ys cs:=zkt λy hy=>by
    obtain⟨i,hi⟩:=Je.mp hy;have li:i<yvs.length:=by
     rw[ll];rcases Jh i ys.length with z | z
     ·exact z
     ·rw[Yy z]at hi;cases hi
    obtain⟨c,_,h3,_⟩:=look I1 i y _ hi (Yc li);exact⟨c,h3⟩
   obtain⟨cs,pcs⟩:=hcs;obtain⟨z1,z2⟩:=zh7 pcs;have hc1:∀z d,((ys.zip cs).reverse).lookup z=some d->X.env.cells.lookup z=some d:=λz d h=>z1 _ (List.mem_reverse.mp (zuh h))
   have hc2:∀y∈ys,∃d,((ys.zip cs).reverse).lookup y=some d:=λy hy=>by
    obtain⟨c,hc⟩:=z2 y hy;exact zq8 (List.mem_reverse.mpr hc)
   refine kwAll_cons (zos I1 hcode C hT hB (hclo cs pcs) hdef λq c' ctv s' H2 k2 hP2 hc' cP I2=>kwAll_nil ?_);have eh2:=k2 _ _ eh (by
    rcases hT with hT | ⟨_,_,hT,_⟩
    ·exact zbs eh hT (by intro z;cases z)
    ·exact zbs eh hT (by intro z;cases z))
   refine zmu hr ?_ I2 eh2 (hmx c' H2 k2 hP2 hc' cP);intro pins4 s4 H4 Q4 x4 u4 I4 hin rx4 ⟨hcd,h4⟩;have hfr:X.A.in1.frames=some X.stack:=I4.ok.frames;exact zr5 I4 hin hcd hfr hr.hd (Room.in1 (k:=0) (hr.mono hk2)).depth hk hco hgen hcell hx hy ho (hb _ _ _ _ _) hc1 hc2 ll (look I4) rx4 (PEb _ _ _ _ _) h4
end
theorem ztc{scope:Scope}{env:Env}{x y z g:Str}(hs:scope.names=[(x,.local),(y,.free),(z,.free),(g,.globalImplicit)])(cs:List Addr)(h:Paired (λy c=>env.cells.lookup y=some c) [y,z] cs):closureFor scope env=pure (([y,z]:List Str).zip cs).reverse:=by
 cases h with
 | cons h1 t=>
  cases t with
  | cons h2 t=>
   cases t;unfold closureFor;rw[hs];simp[cellOf,h1,h2]
end L2
set_option Elab.async false
set_option linter.all false
set_option maxRecDepth 100000
namespace L2
open PySem PySem.Spec PyProof.Rows MeetsSeq3
section
variable{prog:Program}{w:World}
theorem eqT2(a b:Addr)(oa ob:Obj)(u1 u2 v1 v2:Value)(na nb:Nat)(e1 e2:Bool)(hca:oa.cls=.type "tuple")(hda:oa.data=.seq #[u1,u2] na)(hcb:ob.cls=.type "tuple")(hdb:ob.data=.seq #[v1,v2] nb) :
  MeetsIn prog w (Builtin.«tuple.__eq__» ⟨[.ref a,.ref b],[]⟩)
   (λA R s=>s.heap.get? a=some oa/\s.heap.get? b=some ob/\(∀(E:Value->Shared->Prop) (Q:Bool->Shared->Prop),Q e1 s->wpAny (model prog w) A.in1 (eqBool u1 v1) Q E s)/\(∀(E:Value->Shared->Prop) (Q:Bool->Shared->Prop),Q e2 s->wpAny (model prog w) A.in1 (eqBool u2 v2) Q E s)/\R (.ok (.ret (.bool (e1&&e2)))) s):=by
 rintro A R s ⟨ha,hb,h1,h2,h⟩;have T2:s.TypeIs (.ref b) "tuple":=⟨_,hb,hcb⟩;show wpAny _ _ (isInstance (.ref b) (.type "tuple") >>= _) _ _ s;refine Ya (wpAny_isInstance T2 isSubtype_tuple_tuple ?_);simp only[Bool.not_true,Bool.false_eq_true,if_false];refine Ya (wpAny_tupleItemsOf ha hda ?_);refine Ya (wpAny_tupleItemsOf hb hdb ?_);show wpAny _ _ (forIn [(u1,v1),(u2,v2)] _ _ >>= _) _ _ s;simp only[List.forIn_cons,List.forIn_nil,bind_assoc];refine Ya (h1 _ _ ?_)
 cases e1 with
 | false=>
  simp only[Bool.not_false,if_true,bind_assoc,pure_bind]
  exact Ya (Yb (Yb h))
 | true=>
  simp only[Bool.not_true,Bool.false_eq_true,if_false,pure_bind]
  refine Ya (Ya (h2 _ _ ?_))
  cases e2 with
  | false=>
   simp only[Bool.not_false,if_true,bind_assoc,pure_bind]
   exact Ya (Yb (Yb (Yb h)))
  | true=>
   simp only[Bool.not_true,Bool.false_eq_true,if_false,pure_bind]
   exact Yb (Yb h)
end
section
variable{X:Cx}{pins:List (Addr×Obj)}{σ : St}{H:Hp}{s:Shared}
theorem zsj{a b:Addr}{A:Around}{E:Value->Shared->Prop}{Q:Bool->Shared->Prop}(hu:A.units+10<cLine)(I:Inv X pins σ H s)(ha:H a=some (.lst []))(hb:H b=some (.lst []))(q:Q true s):wpAny (model X.prog X.w) A (eqBool (.ref a) (.ref b)) Q E s:=by
 obtain⟨vs,n,hV,h1,_⟩:=I.lst ha;obtain⟨vs2,n2,hV2,h2,_⟩:=I.lst hb
 cases hV
 cases hV2;have T1:s.TypeIs (.ref a) "list":=⟨_,h1,Z⟩;have T2:s.TypeIs (.ref b) "list":=⟨_,h2,Z⟩;unfold eqBool
 try with_reducible refine Jr ?_
 show wpAny _ _ (if (Value.ref a == Value.ref b)=true then _ else _) Q E s;by_cases hab:(Value.ref a == Value.ref b)=true
 ·rw[Yl hab];exact Ya (wpAny_rule (Yb q))
 ·rw[Yh hab];refine Ya (Ju (op:=.Eq) T1 T2 PySem.F.slot_list_eq (call_meetsIn PySem.F.slot_list_eq T1 PySem.F.entry_list_eq (PySem.F.args_list_eq_2 _ _) (zm2 (prog:=X.prog) (w:=X.w) a b #[] #[] n n2 false (λ_=>true)) ⟨h1,h2,λj j1=>absurd j1 (Nat.not_lt_zero _),?_⟩) (by omega));exact⟨(λz=>nomatch z),Jq q⟩
def z0l(K:W.Frag):R2:=λx y H Q=>∃(a b l1 l2 d1 d2:Addr) (c:Bool),x=.ref a/\y=.ref b/\H a=some (.tup [.ref l1,.ref d1])/\H b=some (.tup [.ref l2,.ref d2])/\H l1=some (.lst [])/\H l2=some (.lst [])/\DEq K H d1 d2 c/\Q (.bl c) H
theorem zvg{K:W.Frag}(hK:X.K=K)(hu:X.A.units+70<cLine):OpR X (compareOp .Eq) (z0l K):=by
 subst hK;intro pins s σ H x y u v Q I rx ry h;obtain⟨a,b,l1,l2,d1,d2,c,rfl,rfl,ha,hb,h1,h2,hd,q⟩:=h
 cases rx;cases ry;obtain⟨it1,r1,p1,_⟩:=I.tuple (SqT.of ha);obtain⟨it2,r2,p2,_⟩:=I.tuple (SqT.of hb)
 cases r1 with
 | cons a1 t1=>
  cases t1 with
  | cons a2 t1=>
   cases t1
   cases r2 with
   | cons b1 t2=>
    cases t2 with
    | cons b2 t2=>
     cases t2
     cases a1;cases a2;cases b1;cases b2;obtain⟨oa,ga,ca,na,da⟩:=p1;obtain⟨ob,gb,cb,nb,db⟩:=p2;have T1:s.TypeIs (.ref a) "tuple":=⟨_,ga,ca⟩;have T2:s.TypeIs (.ref b) "tuple":=⟨_,gb,cb⟩;refine Ju (op:=.Eq) T1 T2 PySem.F.slot_tuple_eq (call_meetsIn PySem.F.slot_tuple_eq T1 PySem.F.entry_tuple_eq (PySem.F.args_tuple_eq_2 _ _) (eqT2 (prog:=X.prog) (w:=X.w) a b oa ob _ _ _ _ na nb true c ca da cb db) ⟨ga,gb,λE' Q' hq=>zsj (by show X.A.units+1+10<cLine;omega) I h1 h2 hq,λE' Q' hq=>zj9 (by show X.A.units+1+64<cLine;omega) I hd hq,?_⟩) (by omega);exact⟨(λz=>nomatch z),.bl _,H,I,Z,by rw[Bool.true_and];exact q⟩
end
end L2
namespace K1
def gI(a b:Int):Int:=((Int.gcd a b:Nat):Int)
theorem zpl(a b:Int):0<=gI a b:=Int.natCast_nonneg _
theorem ze5{a b:Int}(h:b≠0):0<gI a b:=by
 have:0<Int.gcd a b:=Int.gcd_pos_of_ne_zero_right a h;unfold gI;omega
theorem zmq(a b:Int):gI a b ∣ a:=Int.gcd_dvd_left a b
theorem zgc(a b:Int):gI a b ∣ b:=Int.gcd_dvd_right a b
theorem zmy(a:Int):gI a 1=1:=by unfold gI;simp
theorem zo4(a:Int)(h:0<=a):gI a 0=a:=by unfold gI;rw[Int.gcd_zero_right];omega
theorem zvr{a b:Int}(ha:0<=a)(hb:0<b):gI b (Int.fmod a b)=gI a b:=by
 unfold gI;congr 1;rw[Int.fmod_eq_emod_of_nonneg a (Int.le_of_lt hb)];show Nat.gcd b.natAbs (a%b).natAbs=Nat.gcd a.natAbs b.natAbs;have e:(a%b).natAbs=a.natAbs%b.natAbs:=by
  have h1:a=(a.natAbs:Int):=by omega
  have h2:b=(b.natAbs:Int):=by omega
  conv=>lhs;rw[h1,h2]
  rw[<- Int.natCast_emod];exact Int.natAbs_natCast _
 rw[e,Nat.gcd_comm a.natAbs,Nat.gcd_rec b.natAbs a.natAbs,Nat.gcd_comm]
structure Gc(a0 b0 a b:Int):Prop where
 is:gI a b=gI a0 b0
theorem start{a b:Int}(ha:0<=a)(hb:0<=b):0<=a/\0<=b/\Gc a b a b:=⟨ha,hb,⟨Z⟩⟩
theorem turn{a0 b0 a b:Int}(h:Gc a0 b0 a b)(ha:0<=a)(hb:0<b):0<=b/\0<=Int.fmod a b/\Gc a0 b0 b (Int.fmod a b):=
 ⟨by omega,Int.fmod_nonneg_of_pos a hb,⟨(zvr ha hb).trans h.is⟩⟩
theorem less{a b:Int}(hb:0<b):(Int.fmod a b).toNat<b.toNat:=by
 have:=Int.fmod_lt_of_pos a hb;have:=Int.fmod_nonneg_of_pos a hb;omega
theorem out{a0 b0 a b:Int}(h:Gc a0 b0 a b)(ha:0<=a)(hb:b=0):a=gI a0 b0:=by
 rw[<- h.is,hb,zo4 a ha]
theorem zy6(a b:Int):gI (if a<0 then -a else a) (if b<0 then -b else b)=gI a b:=by
 unfold gI;congr 1;have h (x:Int):(if x<0 then -x else x).natAbs=x.natAbs:=by split <;> omega
 show Nat.gcd _ _=Nat.gcd _ _;rw[h,h]
theorem coprime{d q1 q2:Int}(hd:d≠0)(h:gI (d*q1) (d*q2)=d\/gI (d*q1) (d*q2) = -d):gI q1 q2=1:=by
 unfold gI at h ⊢;rw[Int.gcd_mul_left]at h;have h0:(d.natAbs*Int.gcd q1 q2:Nat)=d.natAbs:=by
  rcases h with h | h <;> omega
 have:Int.gcd q1 q2=1:=by
  have hp:0<d.natAbs:=by omega
  exact Nat.eq_of_mul_eq_mul_left hp (by omega)
 rw[this];rfl
end K1
namespace K1
def dv(t b:Int):Int:=if b<0 then -(gI t b) else gI t b
def fT(t b:Int):Int:=t.fdiv (dv t b)
def fB(t b:Int):Int:=b.fdiv (dv t b)
theorem zqx(t b:Int):(dv t b).natAbs=Int.gcd t b:=by
 unfold dv gI;split <;> omega
theorem znl{t b:Int}(h:b≠0):dv t b≠0:=by
 have:=ze5 (a:=t) h;unfold dv;split <;> omega
theorem z0h{t b:Int}(h:b≠0):(dv t b).natAbs<=b.natAbs:=by
 rw[zqx];exact Nat.le_of_dvd (by omega) (Nat.gcd_dvd_right _ _)
theorem zh9{d x:Int}{n:Nat}(h:d.natAbs=n)(hx:(n:Int) ∣ x):d ∣ x:=by
 rw[<- Int.natAbs_dvd,h];exact hx
theorem ex{t b:Int}(h:b≠0):∃q1 q2,t=dv t b*q1/\b=dv t b*q2/\fT t b=q1/\fB t b=q2:=by
 obtain⟨q1,e1⟩:=zh9 (zqx t b) (Int.gcd_dvd_left t b);obtain⟨q2,e2⟩:=zh9 (zqx t b) (Int.gcd_dvd_right t b);refine⟨q1,q2,e1,e2,?_,?_⟩
 ·unfold fT;have:=Int.mul_fdiv_cancel_left (a:=dv t b) q1 (znl h);rw[<- e1]at this;exact this
 ·unfold fB;have:=Int.mul_fdiv_cancel_left (a:=dv t b) q2 (znl h);rw[<- e2]at this;exact this
theorem zqt{t b:Int}(h:b≠0):1<=fB t b:=by
 obtain⟨q1,q2,_,e2,_,f2⟩:=ex (t:=t) h;rw[f2];have hp:=ze5 (a:=t) h;rcases(by omega:q2<=0\/1<=q2) with q | q
 ·exfalso;by_cases hb:b<0
  ·have ed:dv t b = -(gI t b):=by unfold dv;rw[Yl hb]
   rw[ed]at e2;have:=Int.mul_nonneg_of_nonpos_of_nonpos (show -(gI t b)<=0 by omega) q;omega
  ·have ed:dv t b=gI t b:=by unfold dv;rw[Yh hb]
   rw[ed]at e2;have:=Int.mul_nonpos_of_nonneg_of_nonpos (show 0<=gI t b by omega) q;omega
 ·exact q
theorem zlh{t b:Int}(h:b≠0):fT t b*b=t*fB t b:=by
 obtain⟨q1,q2,e1,e2,f1,f2⟩:=ex (t:=t) h;rw[f1,f2]
 conv=>lhs;rw[e2]
 conv=>rhs;rw[e1]
 rw[Int.mul_assoc,Int.mul_left_comm]
theorem zw3{t b:Int}(h:b≠0):gI (fT t b) (fB t b)=1:=by
 obtain⟨q1,q2,e1,e2,f1,f2⟩:=ex (t:=t) h;rw[f1,f2];refine coprime (d:=dv t b) (znl h) ?_;rw[<- e1,<- e2];unfold dv;split
 ·right;omega
 ·left;rfl
theorem zs4(t:Int):fT t 1=t/\fB t 1=1:=by
 have e:dv t 1=1:=by unfold dv;rw[Yh (by decide),zmy]
 unfold fT fB;rw[e];exact⟨Int.fdiv_one t,by decide⟩
theorem q_le{d q x:Int}(hd:d≠0)(e:x=d*q):q.natAbs<=x.natAbs:=by
 rw[e,Int.natAbs_mul];exact Nat.le_mul_of_pos_left _ (by omega)
theorem z0o{t b:Int}(h:b≠0):(fT t b).natAbs<=t.natAbs:=by
 obtain⟨q1,q2,e1,e2,f1,f2⟩:=ex (t:=t) h;rw[f1];exact q_le (znl h) e1
theorem z0n{t b:Int}(h:b≠0):(fB t b).natAbs<=b.natAbs:=by
 obtain⟨q1,q2,e1,e2,f1,f2⟩:=ex (t:=t) h;rw[f2];exact q_le (znl h) e2
end K1
namespace K1
theorem co_iff{a b:Int}:gI a b=1↔Nat.Coprime a.natAbs b.natAbs:=by
 unfold gI Nat.Coprime;show ((Nat.gcd a.natAbs b.natAbs:Nat):Int)=1↔_;omega
theorem zgg{a b:Int}(h:gI a b=1):gI b a=1:=co_iff.mpr (co_iff.mp h).symm
theorem zi0{a b c:Int}(h:gI a b=1)(h':gI a c=1):gI a (b*c)=1:=by
 rw[co_iff]at *;rw[Int.natAbs_mul];exact Nat.Coprime.mul_right h h'
theorem zjc{a b c:Int}(h:gI a c=1)(h':gI b c=1):gI (a*b) c=1:=zgg (zi0 (zgg h) (zgg h'))
theorem zom{a a' b:Int}(d:a' ∣ a)(h:gI a b=1):gI a' b=1:=by
 rw[co_iff]at *;exact Nat.Coprime.coprime_dvd_left (Int.natAbs_dvd_natAbs.mpr d) h
theorem zs7{a b b':Int}(d:b' ∣ b)(h:gI a b=1):gI a b'=1:=zgg (zom d (zgg h))
theorem zt0{a b k:Int}(h:gI a b=1):gI (a+b*k) b=1:=by
 unfold gI at *;have:Int.gcd (a+b*k) b=Int.gcd a b:=by simp
 rw[this];exact h
theorem zg7{a b:Int}(hb:b≠0):∃a' b',a=gI a b*a'/\b=gI a b*b'/\gI a' b'=1:=by
 obtain⟨a',ea⟩:=zmq a b;obtain⟨b',eb⟩:=zgc a b;have hp:=ze5 (a:=a) hb;refine⟨a',b',ea,eb,coprime (d:=gI a b) (by omega) (.inl ?_)⟩;rw[<- ea,<- eb]
theorem zgf{a b c:Int}(h:gI a b=1)(d:a ∣ b*c):a ∣ c:=by
 rw[co_iff]at h;have:=Int.natAbs_dvd_natAbs.mpr d;rw[Int.natAbs_mul]at this;exact Int.natAbs_dvd_natAbs.mp (Nat.Coprime.dvd_of_dvd_mul_left h this)
theorem zot{p q p' q':Int}(hq:1<=q)(hq':1<=q')(c:gI p q=1)(c':gI p' q'=1)(e:p*q'=p'*q):p=p'/\q=q':=by
 have d1:q ∣ q':=zgf (zgg c) ⟨p',by rw[e,Int.mul_comm]⟩;have d2:q' ∣ q:=zgf (zgg c') ⟨p,by rw[<- e,Int.mul_comm]⟩;have e1:q=q':=Int.dvd_antisymm (by omega) (by omega) d1 d2;subst e1;exact⟨Int.eq_of_mul_eq_mul_right (by omega) e,Z⟩
theorem zt1{t b p q:Int}(hb:b≠0)(hq:1<=q)(c:gI p q=1)(e:p*b=t*q):fT t b=p/\fB t b=q:=by
 refine zot (zqt hb) hq (zw3 hb) c ?_;have h1:=zlh (t:=t) hb;refine Int.eq_of_mul_eq_mul_right hb ?_
 calc fT t b*q*b=fT t b*b*q:=by rw[Int.mul_right_comm]
  _=t*fB t b*q:=by rw[h1]
  _=t*q*fB t b:=by rw[Int.mul_right_comm]
  _=p*b*fB t b:=by rw[e]
  _=p*fB t b*b:=by rw[Int.mul_right_comm]
theorem fd{d q:Int}(h:d≠0):Int.fdiv (d*q) d=q:=Int.mul_fdiv_cancel_left q h
def ab(a:Int):Int:=if a<0 then -a else a
theorem z0e(a b:Int):gI (ab a) b=gI a b:=by
 unfold gI ab;congr 1;show Nat.gcd _ _=Nat.gcd _ _;congr 1;split <;> omega
theorem posR{d q:Int}(hd:0<d)(h:1<=d*q):1<=q:=by
 rcases(by omega:q<=0\/1<=q) with g | g
 ·have:=Int.mul_nonpos_of_nonneg_of_nonpos (show 0<=d by omega) g;omega
 ·exact g
theorem zqv{x y z w:Int}(hy:1<=y)(hw:1<=w)(c:gI x y=1)(c':gI z w=1) :
  (Int.fdiv x (gI x w)*Int.fdiv z (gI z y))=fT (x*z) (y*w)/\Int.fdiv y (gI z y)*Int.fdiv w (gI x w)=fB (x*z) (y*w):=by
 obtain⟨x1,w1,ex,ew,k1⟩:=zg7 (a:=x) (b:=w) (by omega);obtain⟨z1,y1,ez,ey,k2⟩:=zg7 (a:=z) (b:=y) (by omega);have g1:=ze5 (a:=x) (b:=w) (by omega);have g2:=ze5 (a:=z) (b:=y) (by omega);generalize gI x w=g at *;generalize gI z y=h at *;subst ex ew ez ey;rw[fd (by omega),fd (by omega),fd (by omega),fd (by omega)];have y1p:=posR g2 hy;have w1p:=posR g1 hw;have b0:h*y1*(g*w1)≠0:=by
  intro q;rcases Int.mul_eq_zero.mp q with q | q <;> omega
 have kx:gI x1 y1=1:=zom (Int.dvd_mul_left g x1) (zs7 (Int.dvd_mul_left h y1) c);have kz:gI z1 w1=1:=zom (Int.dvd_mul_left h z1) (zs7 (Int.dvd_mul_left g w1) c');have:=zt1 (t:=g*x1*(h*z1)) (p:=x1*z1) (q:=y1*w1) b0 (Int.mul_pos y1p w1p)
  (zi0 (zjc kx k2) (zjc k1 kz)) (by grind)
 exact⟨this.1.symm,this.2.symm⟩
theorem zsk{x y z w:Int}(hy:1<=y)(hw:1<=w)(c:gI x y=1)(c':gI z w=1) :
  let g:=gI y w;let T:=x*Int.fdiv w g+z*Int.fdiv y g;let f:=gI T g
  Int.fdiv T f=fT (x*w+z*y) (y*w)/\Int.fdiv y g*Int.fdiv w f=fB (x*w+z*y) (y*w):=by
 intro g T f;obtain⟨y1,w1,ey,ew,k1⟩:=zg7 (a:=y) (b:=w) (by omega);have g1:=ze5 (a:=y) (b:=w) (by omega);have f1:0<f:=ze5 (by omega);obtain⟨T1,g2,eT,eg,k2⟩:=zg7 (a:=T) (b:=g) (by omega);have gd:g=gI y w:=rfl;have Td:T=x*Int.fdiv w g+z*Int.fdiv y g:=rfl;have fdd:f=gI T g:=rfl;rw[<- fdd]at eT eg;rw[<- gd]at ey ew g1
 clear_value g T f
 subst ey ew;rw[fd (by omega),fd (by omega)]at Td;have y1p:=posR g1 hy;have w1p:=posR g1 hw;have cT1:gI T y1=1:=by
  rw[Td,Int.mul_comm z y1];exact zt0 (zjc (zs7 (Int.dvd_mul_left g y1) c) (zgg k1))
 have cT2:gI T w1=1:=by
  rw[Td,Int.add_comm,Int.mul_comm x w1];exact zt0 (zjc (zs7 (Int.dvd_mul_left g w1) c') k1)
 have g2p:1<=g2:=posR f1 (by omega);have d1:T1 ∣ T:=⟨f,by rw[eT,Int.mul_comm]⟩;have e1:Int.fdiv T f=T1:=by rw[eT,fd (by omega)]
 have e2:Int.fdiv (g*w1) f=g2*w1:=by rw[eg,Int.mul_assoc,fd (by omega)]
 have e3:Int.fdiv (g*y1) g=y1:=fd (by omega);rw[e1,e2,e3];have b0:g*y1*(g*w1)≠0:=by
  intro q;rcases Int.mul_eq_zero.mp q with q | q <;> omega
 have:=zt1 (t:=x*(g*w1)+z*(g*y1)) (p:=T1) (q:=y1*(g2*w1)) b0 (Int.mul_pos y1p (Int.mul_pos g2p w1p))
  (zi0 (zom d1 cT1) (zi0 k2 (zom d1 cT2))) (by
   have:x*w1+z*y1=f*T1:=by rw[<- Td];exact eT
   have q:x*(g*w1)+z*(g*y1)=g*(f*T1):=by rw[<- this];grind
   rw[q]
   conv=>lhs;rw[eg]
   conv=>rhs;rw[eg]
   grind)
 exact⟨this.1.symm,this.2.symm⟩
theorem zu4{a d:Int}(h:d ∣ a)(hd:d≠0):(Int.fdiv a d).natAbs<=a.natAbs:=by
 obtain⟨q,rfl⟩:=h;rw[fd hd,Int.natAbs_mul];exact Nat.le_mul_of_pos_left _ (by omega)
end K1
namespace K3
structure NoDiv(n d:Int):Prop where
 is:∀e:Int,2<=e->e<d->Int.fmod n e≠0
def Pr(n:Int):Prop:=2<=n/\∀e:Int,2<=e->e*e<=n->Int.fmod n e≠0
noncomputable def isP(n:Int):Bool := @decide (Pr n) (Classical.propDecidable _)
theorem zyi{n:Int}(h:Pr n):isP n=true := @Yo _ (Classical.propDecidable _) h
theorem zzj{n:Int}(h:¬Pr n):isP n=false := @Yw _ (Classical.propDecidable _) h
theorem small{d n:Int}(_h2:2<=d)(h:d*d<=n)(hn:n<=9973):d<=99:=by
 rcases(by omega:d<=99\/100<=d) with e | e
 ·exact e
 ·have:=Int.mul_le_mul e e (by decide) (by omega);omega
theorem start(n:Int):(2:Int)<=2/\(2:Int)<=101/\NoDiv n 2:=⟨by decide,by decide,⟨λe h1 h2=>by omega⟩⟩
theorem turn{n d:Int}(h:NoDiv n d)(hm:¬Int.fmod n d=0)(h2:2<=d)(hq:d*d<=n)(hn:n<=9973):2<=d+1/\d+1<=101/\NoDiv n (d+1):=by
 have s:=small h2 hq hn;refine⟨by omega,by omega,⟨λe h1 h3=>?_⟩⟩;rcases(by omega:e<d\/e=d) with q | q
 ·exact h.is e h1 q
 ·rw[q];exact hm
theorem less{n d:Int}(h2:2<=d)(hq:d*d<=n)(hn:n<=9973):(200-(d+1)).toNat<(200-d).toNat:=by
 have s:=small h2 hq hn;omega
theorem low{n:Int}(h:n<2):false=isP n:=by
 exact(zzj λh'=>by have:=h'.1;omega).symm
theorem out{n d:Int}(h:NoDiv n d)(hn:2<=n)(h2:2<=d)(hq:¬d*d<=n):true=isP n:=by
 refine(zyi ?_).symm;refine⟨hn,λe h1 h3=>h.is e h1 ?_⟩;rcases(by omega:e<d\/d<=e) with q | q
 ·exact q
 ·have:=Int.mul_le_mul q q (by omega) (by omega);omega
theorem found{n d:Int}(h2:2<=d)(hq:d*d<=n)(hm:Int.fmod n d=0):false=isP n:=by
 exact(zzj λh'=>h'.2 d h2 hq hm).symm
end K3
namespace K2
theorem zxp{p l:Int}(hp:K3.Pr p)(h1:1<l)(h2:l<p):Int.fmod p l≠0:=by
 intro h0;rw[Int.fmod_eq_emod_of_nonneg p (by omega)]at h0;have hd:p=l*(p / l):=by have:=Int.mul_ediv_add_emod p l;omega
 have hq1:1<p / l:=by
  rcases(by omega:p / l<=1\/1<p / l) with q | q
  ·have:=Y3 q (by omega:0<=l);omega
  ·exact q
 rcases(by omega:l*l<=p\/p<l*l) with q | q
 ·refine hp.2 l (by omega) q ?_;rw[Int.fmod_eq_emod_of_nonneg p (by omega)];exact h0
 ·have hlt:p / l<l:=by
   rcases(by omega:p / l<l\/l<=p / l) with r | r
   ·exact r
   ·have:=Y3 r (by omega:0<=l);omega
  have hqq:(p / l)*(p / l)<=p:=by
   have h:=Int.mul_le_mul_of_nonneg_right (Int.le_of_lt hlt) (by omega:0<=p / l);omega
  refine hp.2 (p / l) (by omega) hqq ?_;rw[Int.fmod_eq_emod_of_nonneg p (by omega)];apply Int.emod_eq_zero_of_dvd;exact⟨l,by rw[Int.mul_comm];exact hd⟩
structure Tn(p a found left:Int):Prop where
 f0:0<=found
 f1:found<p
 l0:1<=left
 l1:left<p
 eq:(found*a-left)%p=0
theorem zl1{p a:Int}(hp:K3.Pr p)(h0:0<a)(h1:a<p):Tn p a 1 a:=
 ⟨by decide,by have:=hp.1;omega,by omega,h1,by rw[Int.one_mul,Int.sub_self];exact Int.zero_emod p⟩
theorem zn9{p a f l:Int}(hp:K3.Pr p)(h:Tn p a f l)(hl:l≠1) :
  Tn p a (Int.fmod (-f*Int.fdiv p l) p) (Int.fmod p l):=by
 have p2:=hp.1;have l0:=h.l0;have hne:=zxp hp (by omega:1<l) h.l1;have e0:=h.eq;have hpos:=Int.fmod_nonneg_of_pos p (show 0<l by omega);have hlt:=Int.fmod_lt_of_pos p (show 0<l by omega);refine⟨Int.fmod_nonneg_of_pos _ (by omega),Int.fmod_lt_of_pos _ (by omega),by omega,by have:=h.l1;omega,?_⟩;have q:=Int.mul_fdiv_add_fmod p l;generalize Int.fdiv p l=d at *;generalize Int.fmod p l=r at *;rw[Int.fmod_eq_emod_of_nonneg _ (by omega)];apply Int.emod_eq_zero_of_dvd;obtain⟨k,hk⟩:=Int.dvd_of_emod_eq_zero e0;have m:=Int.mul_ediv_add_emod (-f*d) p;generalize (-f*d) / p=g at *;generalize (-f*d)%p=v at *;have hv:v = -f*d-p*g:=by omega
 refine⟨-(g*a)-d*k-1,?_⟩;rw[hv];have h1:f*a=l+p*k:=by omega
 have e1:(-f*d-p*g)*a = -(d*(f*a))-p*(g*a):=by
  rw[Int.sub_mul];have : -f*d*a = -(d*(f*a)):=by
   rw[Int.neg_mul,Int.neg_mul,Int.mul_comm f d,Int.mul_assoc]
  rw[this,Int.mul_assoc]
 rw[e1,h1,Int.mul_add d l (p*k),Int.mul_comm d l];have e2:d*(p*k)=p*(d*k):=by rw[<- Int.mul_assoc,Int.mul_comm d p,Int.mul_assoc]
 rw[e2,Int.mul_sub,Int.mul_sub,Int.mul_one,Int.mul_neg];omega
theorem zqy{p a f l:Int}(h:Tn p a f l):(Int.fmod p l).toNat<l.toNat:=by
 have l0:=h.l0;have hpos:=Int.fmod_nonneg_of_pos p (show 0<l by omega);have hlt:=Int.fmod_lt_of_pos p (show 0<l by omega);omega
theorem zt2{p a f l:Int}(h:Tn p a f l)(hl:l=1):0<=f/\f<p/\(f*a-1)%p=0:=by
 refine⟨h.f0,h.f1,?_⟩;have:=h.eq;rw[hl]at this;exact this
end K2
namespace K6
open HT (lexLt)
theorem zj3:∀x:List Int,lexLt x x=false
 | []=>rfl
 | a::x=>by rw[HT.lexLt_cons,Yl rfl];exact zj3 x
theorem zv9:∀{x y z:List Int},lexLt x y=true->lexLt y z=true->lexLt x z=true
 | [],[],_,h,_=>by cases h
 | [],_::_,[],_,h=>by cases h
 | [],_::_,_::_,_,_=>rfl
 | _::_,[],_,h,_=>by cases h
 | _::_,_::_,[],_,h=>by cases h
 | a::x,b::y,c::z,h1,h2=>by
  rw[HT.lexLt_cons]at h1 h2 ⊢;by_cases e1:a=b
  ·rw[Yl e1]at h1;by_cases e2:b=c
   ·rw[Yl e2]at h2;rw[Yl (e1.trans e2)];exact zv9 h1 h2
   ·rw[Yh e2]at h2;rw[Yh (by omega),e1];exact h2
  ·rw[Yh e1]at h1;have l1:a<b:=Jk h1;by_cases e2:b=c
   ·rw[Yl e2]at h2;rw[Yh (by omega)];exact Yo (by omega)
   ·rw[Yh e2]at h2;have l2:b<c:=Jk h2;rw[Yh (by omega)];exact Yo (by omega)
theorem zpp:∀{x y:List Int},x≠y->lexLt x y = !lexLt y x
 | [],[],h=>absurd rfl h
 | [],_::_,_=>rfl
 | _::_,[],_=>rfl
 | a::x,b::y,h=>by
  rw[HT.lexLt_cons,HT.lexLt_cons];by_cases e:a=b
  ·rw[Yl e,Yl e.symm];exact zpp λz=>h (by rw[e,z])
  ·rw[Yh e,Yh (Jc e)];by_cases l:a<b
   ·rw[Yo l,Yw (by omega)];rfl
   ·rw[Yw l,Yo (by omega)];rfl
theorem zw0{x y:List Int}(h:lexLt x y=true):lexLt y x=false:=by
 by_cases e:x=y
 ·rw[e,zj3]at h;cases h
 ·have:=zpp e;rw[h]at this
  cases q:lexLt y x with
  | true=>rw[q]at this;cases this
  | false=>rfl
abbrev vadd(x y:List Int):List Int:=List.zipWith (λa b=>a+b) x y
theorem ztq:∀{x y z:List Int},x.length=z.length->y.length=z.length->lexLt (vadd x z) (vadd y z)=lexLt x y
 | [],[],_,_,_=>by simp[vadd]
 | _::_,[],[],h,_=>by simp at h
 | [],_::_,[],_,h=>by simp at h
 | _::_,[],_::_,_,h=>by simp at h
 | [],_::_,_::_,h,_=>by simp at h
 | _::_,_::_,[],h,_=>by simp at h
 | a::x,b::y,c::z,h1,h2=>by
  have ih:=ztq (x:=x) (y:=y) (z:=z) (by simpa using h1) (by simpa using h2);simp only[vadd,List.zipWith_cons_cons,HT.lexLt_cons]at ih ⊢;by_cases e:a=b
  ·rw[Yl (by omega),Yl e];exact ih
  ·rw[Yh (by omega),Yh e];by_cases l:a<b
   ·rw[Yo l,Yo (by omega)]
   ·rw[Yw l,Yw (by omega)]
def rkL(t:List Int):List Int:=t
def rkD(t:List Int):List Int:=t.sum::t
def rkT(t:List Int):List Int:=t.sum::t.reverse.map λx => -x
def wsum(ws t:List Int):Int:=(List.zipWith (λa b=>a*b) t ws).sum
def rkW(ws t:List Int):List Int:=wsum ws t::t
def zer(n:Nat):List Int:=List.replicate n 0
def Nn(t:List Int):Prop:=∀x∈t,0<=x
theorem zk4:∀{a c:List Int},a.length=c.length->(vadd a c).sum=a.sum+c.sum
 | [],[],_=>rfl
 | _::_,[],h=>by simp at h
 | [],_::_,h=>by simp at h
 | x::a,y::c,h=>by
  have ih:=zk4 (a:=a) (c:=c) (by simpa using h);simp only[vadd,List.zipWith_cons_cons,List.sum_cons]at ih ⊢;omega
theorem zmv:∀{ws a c:List Int},a.length=c.length->wsum ws (vadd a c)=wsum ws a+wsum ws c
 | _,[],[],_=>by simp[wsum,vadd]
 | _,_::_,[],h=>by simp at h
 | _,[],_::_,h=>by simp at h
 | [],x::a,y::c,h=>by simp[wsum,vadd]
 | w::ws,x::a,y::c,h=>by
  have ih:=zmv (ws:=ws) (a:=a) (c:=c) (by simpa using h);simp only[wsum,vadd,List.zipWith_cons_cons,List.sum_cons]at ih ⊢;rw[ih,Int.add_mul];omega
theorem zqp:∀{a c:List Int},(vadd a c).map (λx => -x)=vadd (a.map λx => -x) (c.map λx => -x)
 | [],_=>by simp[vadd]
 | _::_,[]=>by simp[vadd]
 | x::a,y::c=>by
  have ih:=zqp (a:=a) (c:=c);simp only[vadd,List.zipWith_cons_cons,List.map_cons]at ih ⊢;rw[ih];congr 1;omega
structure OrdM(rk:List Int->List Int)(n:Nat):Prop where
 add:∀a c:List Int,a.length=n->c.length=n->rk (vadd a c)=vadd (rk a) (rk c)
 inj:∀a b:List Int,a.length=n->b.length=n->rk a=rk b->a=b
 len:∀a b:List Int,a.length=n->b.length=n->(rk a).length=(rk b).length
 pos:∀a:List Int,a.length=n->Nn a->a≠zer n->lexLt (rk (zer n)) (rk a)=true
theorem zd5(n:Nat):(zer n).length=n:=List.length_replicate
theorem zuc:∀{a:List Int},Nn a->0<=a.sum
 | [],_=>Int.le_refl 0
 | x::a,h=>by
  have h1:=h x (.head _);have h2:=zuc (a:=a) λy hy=>h y (.tail _ hy)
  rw[List.sum_cons];omega
theorem zls:∀n:Nat,(zer n).sum=0
 | 0=>rfl
 | n+1=>by
  show ((0:Int)::zer n).sum=0;rw[List.sum_cons,zls n];rfl
theorem zlo:∀{a:List Int},Nn a->a≠zer a.length->0<a.sum
 | [],_,h=>absurd rfl h
 | x::a,h,hne=>by
  have h1:=h x (.head _);have hn:Nn a:=λy hy=>h y (.tail _ hy)
  have h2:=zuc hn;rw[List.sum_cons];by_cases e:x=0
  ·have:=zlo (a:=a) hn λz=>hne (by
    show x::a=0::zer a.length;rw[e,<- z])
   omega
  ·omega
theorem zlg:∀{a:List Int},Nn a->a≠zer a.length->lexLt (zer a.length) a=true
 | [],_,h=>absurd rfl h
 | x::a,h,hne=>by
  have h1:=h x (.head _);show lexLt (0::zer a.length) (x::a)=true;rw[HT.lexLt_cons];by_cases e:0=x
  ·rw[Yl e];exact zlg (λy hy=>h y (.tail _ hy)) λz=>hne (by
    show x::a=0::zer a.length;rw[<- e,<- z])
  ·rw[Yh e];exact Yo (by omega)
theorem ordL(n:Nat):OrdM rkL n:=⟨λ_ _ _ _=>Z,λ_ _ _ _ h=>h,λ_ _ h1 h2=>h1.trans h2.symm,λa h1 h2 h3=>by subst h1;exact zlg h2 h3⟩
theorem ordD(n:Nat):OrdM rkD n:=by
 refine⟨λa c h1 h2=>?_,λa b _ _ h=>?_,λa b h1 h2=>?_,λa h1 h2 h3=>?_⟩
 ·show (vadd a c).sum::vadd a c=(a.sum+c.sum)::vadd a c;rw[zk4 (h1.trans h2.symm)]
 ·injection h
 ·show (a.length+1)=b.length+1;rw[h1,h2]
 ·subst h1;show lexLt ((zer a.length).sum::_) (a.sum::_)=true;rw[HT.lexLt_cons,zls];have:=zlo h2 h3;rw[Yh (by omega)];exact Yo this
theorem ordT(n:Nat):OrdM rkT n:=by
 refine⟨λa c h1 h2=>?_,λa b _ _ h=>?_,λa b h1 h2=>?_,λa h1 h2 h3=>?_⟩
 ·show (vadd a c).sum::((vadd a c).reverse.map λx => -x)=(a.sum+c.sum)::vadd (a.reverse.map λx => -x) (c.reverse.map λx => -x);rw[zk4 (h1.trans h2.symm),<- zqp];congr 2;exact List.reverse_zipWith (h1.trans h2.symm)
 ·have h':a.reverse.map (λx => -x)=b.reverse.map (λx => -x):=by injection h
  have e:∀l:List Int,(l.map λx => -x).map (λx => -x)=l:=λl=>by
   rw[Ji]
   conv=>rhs;rw[<- List.map_id l]
   refine List.map_congr_left λx _=>?_
   show - -x=x;omega
  have h2:=Jx (List.map λx => -x) h';rw[e,e]at h2;exact List.reverse_inj.mp h2
 ·simp[rkT,h1,h2]
 ·subst h1;show lexLt ((zer a.length).sum::_) (a.sum::_)=true;rw[HT.lexLt_cons,zls];have:=zlo h2 h3;rw[Yh (by omega)];exact Yo this
theorem zpb:∀{ws a:List Int},Nn ws->Nn a->0<=wsum ws a
 | _,[],_,_=>by simp[wsum]
 | [],_::_,_,_=>by simp[wsum]
 | w::ws,x::a,h1,h2=>by
  have ih:=zpb (ws:=ws) (a:=a) (λy hy=>h1 y (.tail _ hy)) λy hy=>h2 y (.tail _ hy)
  have:=Int.mul_nonneg (h2 x (.head _)) (h1 w (.head _));simp only[wsum,List.zipWith_cons_cons,List.sum_cons]at ih ⊢;omega
theorem zm1:∀(ws:List Int) (n:Nat),wsum ws (zer n)=0
 | _,0=>by simp[wsum,zer]
 | [],n+1=>by simp[wsum]
 | w::ws,n+1=>by
  have ih:=zm1 ws n;show (0*w::List.zipWith (λa b=>a*b) (zer n) ws).sum=0;rw[List.sum_cons];unfold wsum at ih;rw[ih];simp
theorem ordW{ws:List Int}(hw:Nn ws)(n:Nat):OrdM (rkW ws) n:=by
 refine⟨λa c h1 h2=>?_,λa b _ _ h=>?_,λa b h1 h2=>?_,λa h1 h2 h3=>?_⟩
 ·show wsum ws (vadd a c)::vadd a c=(wsum ws a+wsum ws c)::vadd a c;rw[zmv (h1.trans h2.symm)]
 ·injection h
 ·show (a.length+1)=b.length+1;rw[h1,h2]
 ·subst h1;show lexLt (wsum ws (zer a.length)::zer a.length) (wsum ws a::a)=true;rw[HT.lexLt_cons,zm1];have:=zpb hw h2;by_cases e:0=wsum ws a
  ·rw[Yl e];exact zlg h2 h3
  ·rw[Yh e];exact Yo (by omega)
end K6
namespace K6
open L2 PySem
def Trm(H:Hp)(xs:List Int)(v:V):Prop:=∃r,v=.ref r/\H r=some (.tup (xs.map V.int))
theorem Trm.same{H H':Hp}{xs:List Int}{v:V}(e:Same H H')(h:Trm H xs v):Trm H' xs v:=let ⟨r,a,b⟩:=h;⟨r,a,e _ _ b⟩
theorem pimp{α : Type}{R S : α->V->Prop}(h:∀a v,R a v->S a v):∀{l:List α} {ys:List V},Paired R l ys->Paired S l ys
 | _,_,.nil=>.nil
 | _,_,.cons r t=>.cons (h _ _ r) (pimp h t)
theorem psnoc{α : Type}{R : α->V->Prop}{a : α}{v:V}(r:R a v):∀{l:List α} {ys:List V},Paired R l ys->Paired R (l++[a]) (ys++[v])
 | _,_,.nil=>.cons r .nil
 | _,_,.cons q t=>.cons q (psnoc r t)
end K6
namespace K6
open L2 PySem
def ky(xs:List Int):List Key:=xs.map Sum.inl
theorem zeq(xs:List Int):(ky xs).map kV=xs.map V.int:=by unfold ky;rw[Ji];rfl
structure NmD(d:PyData):Prop where
 lay:d.canLay0=true
 dep:d.depth<=60
theorem NmD.shaped{d:PyData}(h:NmD d):SeqAt.shaped d=true:=by
 have:=h.dep;unfold SeqAt.shaped;rw[h.lay,Bool.true_and,decide_eq_true_eq];omega
theorem zv3(i:Int):NmD (.int i):=⟨Z,by simp[PyData.depth]⟩
theorem zsc(i j:Int):NmD (.tuple [.int i,.int j]):=⟨Z,by simp[PyData.depth,PyData.depthAll]⟩
mutual
theorem Rds.same{K:W.Frag}{H H':Hp}(e:Same H H'):∀{v:V} {d:PyData},Rds K H v d->Rds K H' v d
 | _,_,.non=>.non
 | _,_,.bl b=>.bl b
 | _,_,.int i=>.int i
 | _,_,.str x=>.str x
 | _,_,.tup h hs=>.tup (e.seqT h) (RdsAll.same e hs)
 | _,_,.lst h hs=>.lst (e.seq h) (RdsAll.same e hs)
theorem RdsAll.same{K:W.Frag}{H H':Hp}(e:Same H H'):∀{vs:List V} {ds:List PyData},RdsAll K H vs ds->RdsAll K H' vs ds
 | _,_,.nil=>.nil
 | _,_,.cons h hs=>.cons (Rds.same e h) (RdsAll.same e hs)
end
theorem zsd{K:W.Frag}{H:Hp}{d a:Addr}{kvs:List (List Key×V)}{o:HO}{xs:List V}(e:H d=some (.dT kvs))(h:SqT K H a xs):SqT K (upd H d o) a xs:=by
 rcases h with(h | ⟨q,h⟩) | h
 ·exact .inl (.inl (by rw[zai (zbs h e (by intro z;cases z))];exact h))
 ·exact .inl (.inr ⟨q,by rw[zai (zbs h e (by intro z;cases z))];exact h⟩)
 ·exact .inr h
theorem zrq{K:W.Frag}{H:Hp}{d a:Addr}{kvs:List (List Key×V)}{o:HO}{xs:List V}(e:H d=some (.dT kvs))(h:SqL K H a xs):SqL K (upd H d o) a xs:=by
 rcases h with(h | ⟨q,h⟩) | h
 ·exact .inl (.inl (by rw[zai (zbs h e (by intro z;cases z))];exact h))
 ·exact .inl (.inr ⟨q,by rw[zai (zbs h e (by intro z;cases z))];exact h⟩)
 ·exact .inr h
mutual
theorem Rds.updD{K:W.Frag}{H:Hp}{d:Addr}{kvs:List (List Key×V)}{o:HO}(e:H d=some (.dT kvs)):∀{v:V} {z:PyData},Rds K H v z->Rds K (upd H d o) v z
 | _,_,.non=>.non
 | _,_,.bl b=>.bl b
 | _,_,.int i=>.int i
 | _,_,.str x=>.str x
 | _,_,.tup h hs=>.tup (zsd e h) (RdsAll.updD e hs)
 | _,_,.lst h hs=>.lst (zrq e h) (RdsAll.updD e hs)
theorem RdsAll.updD{K:W.Frag}{H:Hp}{d:Addr}{kvs:List (List Key×V)}{o:HO}(e:H d=some (.dT kvs)):∀{vs:List V} {ds:List PyData},RdsAll K H vs ds->RdsAll K (upd H d o) vs ds
 | _,_,.nil=>.nil
 | _,_,.cons h hs=>.cons (Rds.updD e h) (RdsAll.updD e hs)
end
theorem zrt{K:W.Frag}{H:Hp}{r:Addr}{i j:Int}(h:H r=some (.tup [.int i,.int j])):Rds K H (.ref r) (.tuple [.int i,.int j]):=.tup (SqT.of h) (.cons (.int i) (.cons (.int j) .nil))
end K6
namespace K8
open L2 PySem K1 K2 K3 K6
def zr(n T:Int):Prop:=if n=0 then T=0 else T%n=0
instance zrDec(n T:Int):Decidable (zr n T):=by unfold zr;exact inferInstance
theorem zr_0{T:Int}:zr 0 T↔T=0:=by simp[zr]
theorem zr_n{n T:Int}(h:n≠0):zr n T↔T%n=0:=by simp[zr,h]
theorem znn{n:Int}(h:Pr n):n≠0:=by have:=h.1;omega
theorem zzq{x y T B:Int}(hy:1<=y)(c:gI x y=1)(hB:B≠0)(e:x*B=T*y):x.natAbs<=T.natAbs/\y.natAbs<=B.natAbs:=by
 refine⟨?_,?_⟩
 ·by_cases t:T=0
  ·subst t;rw[Int.zero_mul]at e;rcases Int.mul_eq_zero.mp e with q | q
   ·rw[q];simp
   ·exact absurd q hB
  ·have d:x ∣ y*T:=⟨B,by rw[Int.mul_comm,<- e]⟩;have:=Int.natAbs_dvd_natAbs.mpr (zgf c d);exact Nat.le_of_dvd (by omega) this
 ·have d:y ∣ x*B:=⟨T,by rw[e,Int.mul_comm]⟩;have:=Int.natAbs_dvd_natAbs.mpr (zgf (zgg c) d);exact Nat.le_of_dvd (by omega) this
end K8
namespace K8
open L2 PySem K1 K2 K3 K6
theorem zg1{a b:List Int}(h:ky a=ky b):a=b:=by
 unfold ky at h;exact(List.map_inj_right (λx y e=>Sum.inl.inj e)).mp h
theorem zlz{kvs:List (List Key×V)}{k:List Key}{v:V}:((putK kvs k v).map (·.1))=if (valV kvs k).isSome then kvs.map (·.1) else kvs.map (·.1)++[k]:=by
 unfold putK;rw[zed]
 cases h:(valV kvs k).isSome with
 | true=>
  rw[Yl rfl,Yl rfl,Ji];refine List.map_congr_left λp _=>?_
  show (if p.1=k then(p.1,v) else p).1=p.1;split <;> rfl
 | false=>rw[Yh (by decide),Yh (by decide),List.map_append];rfl
theorem mem_of_valV{kvs:List (List Key×V)}{k:List Key}:(valV kvs k).isSome=true↔k∈kvs.map (·.1):=by
 rw[<- zed,List.any_eq_true];constructor
 ·rintro⟨p,hp,e⟩;exact Jj.mpr ⟨p,hp,Jk e⟩
 ·intro h;obtain⟨p,hp,e⟩:=Jj.mp h;exact⟨p,hp,Yo e⟩
theorem zpv(kvs:List (List Key×V))(k j:List Key):valV (ze0 kvs k) j=if j=k then none else valV kvs j:=by
 unfold ze0;induction kvs with
 | nil=>rw[List.filter_nil,zrw];split <;> rfl
 | cons p r ih=>
  rw[List.filter_cons];by_cases e:p.1=k
  ·rw[Yh (by simp[e]),ih];by_cases q:j=k
   ·rw[Yl q,Yl q]
   ·rw[Yh q,Yh q,zbv (λz=>q (z.symm.trans e))]
  ·rw[Yl (by simp[e])];by_cases z:p.1=j
   ·rw[zb0 z,zb0 z,Yh (λq=>e (z.trans q))]
   ·rw[zbv z,zbv z,ih]
theorem zl7:∀{kvs:List (List Key×V)} (_:(kvs.map (·.1)).Nodup) {i:Nat} {k:List Key} {v:V},kvs[i]? = some (k,v)->valV kvs k=some v
 | [],_,i,k,v,h=>by simp at h
 | p::r,hn,0,k,v,h=>by
  simp at h;subst h;exact zb0 rfl
 | p::r,hn,i+1,k,v,h=>by
  rw[List.getElem?_cons_succ]at h;rw[Yz,List.nodup_cons]at hn;have:¬p.1=k:=λe=>hn.1 (Jj.mpr ⟨(k,v),Yx h,e.symm⟩)
  rw[zbv this];exact zl7 hn.2 h
theorem zeb{α : Type}{l:List α}{i:Nat}{a : α}(h:l[i]? = some a):l.take (i+1)=l.take i++[a]:=by
 rw[List.take_add_one,h];rfl
theorem zwf{α : Type}{l:List α}(hn:l.Nodup){i:Nat}{a : α}(h:l[i]? = some a):a ∉ l.take i:=by
 intro hm;have e:l.take (i+1)=l.take i++[a]:=zeb h;have n1:(l.take (i+1)).Nodup:=hn.sublist (List.take_sublist _ _);rw[e,List.nodup_append]at n1;exact n1.2.2 a hm a (by simp) rfl
theorem zj4{α β : Type}{f : α->β}:∀{l:List α},(l.map f).Nodup->l.Nodup
 | [],_=>List.nodup_nil
 | a::l,h=>by
  rw[Yz,List.nodup_cons]at h;exact List.nodup_cons.mpr ⟨λz=>h.1 (Jj.mpr ⟨a,z,Z⟩),zj4 h.2⟩
theorem zxs{kvs:List (List Key×V)}{k:List Key}{v:V}(h:(kvs.map (·.1)).Nodup):((putK kvs k v).map (·.1)).Nodup:=by
 rw[zlz]
 cases q:(valV kvs k).isSome with
 | true=>exact h
 | false=>
  rw[Yh (by decide),List.nodup_append];refine⟨h,by simp,λx hx y hy e=>?_⟩;rw[Yq]at hy;have:=mem_of_valV.mpr (show k∈kvs.map (·.1) by rw[<- hy,<- e];exact hx);rw[q]at this;cases this
end K8
namespace K37
open L2 PySem
def zcw(xs ys:List Int):Bool:=(List.range xs.length).all λi=>decide (xs.getD i 0<=ys.getD i 0)
theorem goesI_iff{xs ys:List Int}:zcw xs ys=true↔∀i,i<xs.length->xs.getD i 0<=ys.getD i 0:=by
 unfold zcw;rw[List.all_eq_true];constructor
 ·intro h i hi;have:=h i (List.mem_range.mpr hi);simpa using this
 ·intro h i hi;have:=h i (List.mem_range.mp hi);simpa using this
structure T0(m:Nat)(t:List Int):Prop where
 len:t.length=m
 nn:∀i,0<=t.getD i 0
theorem T0.mem{m:Nat}{t:List Int}(h:T0 m t):∀x∈t,0<=x:=λx hx=>by
 obtain⟨j,hj,rfl⟩:=List.mem_iff_getElem.mp hx;have:=h.nn j;simpa[List.getD,hj]using this
theorem T0.of{m:Nat}{t:List Int}(hl:t.length=m)(h:∀x∈t,0<=x):T0 m t:=⟨hl,λi=>by
 rcases Jh i t.length with c | c
 ·have:=h t[i] (Jw c);simpa[List.getD,c]using this
 ·simp[List.getD,List.getElem?_eq_none c]⟩
theorem zgk{a b:List Int}(hl:a.length=b.length)(h:∀i,i<a.length->a.getD i 0=b.getD i 0):a=b:=by
 refine List.ext_getElem hl λi h1 h2=>?_
 have:=h i h1;simpa[List.getD,h1,h2]using this
theorem T0.zero(m:Nat):T0 m (List.replicate m 0):=⟨List.length_replicate,λi=>by
 rcases Jh i m with c | c
 ·simp[List.getD,c]
 ·simp[List.getD,c]⟩
end K37
namespace K37
open L2 PySem
theorem zcc{α : Type}[DecidableEq α]:∀{l l':List α},l.Nodup->(∀a∈l,a∈l')->l.length<=l'.length
 | [],_,_,_=>by simp
 | a::l,l',nd,h=>by
  rw[List.nodup_cons]at nd;have:=zcc (l:=l) (l':=l'.erase a) nd.2 λb hb=>by
   have hb':=h b (by simp[hb]);exact(List.mem_erase_of_ne (λe=>nd.1 (by rw[<- e];exact hb))).mpr hb'
  rw[List.length_erase_of_mem (h a (by simp))]at this;have:0<l'.length:=List.length_pos_of_mem (h a (by simp));rw[Y5];omega
end K37
namespace G
open L2 PySem K1 K2 K3 K6 K8
section
variable{F:Type}[Lean.Grind.Field F]
def ic(k:Int):F:=(Lean.Grind.Ring.intCast (α:=F)).intCast k
theorem zkk(a b:Int):ic (F:=F) (a+b)=ic a+ic b:=Lean.Grind.Ring.intCast_add a b
theorem za3(a b:Int):ic (F:=F) (a*b)=ic a*ic b:=Lean.Grind.Ring.intCast_mul a b
theorem zoz(a:Int):ic (F:=F) (-a) = - ic a:=Lean.Grind.Ring.intCast_neg a
theorem zp8(a b:Int):ic (F:=F) (a-b)=ic a-ic b:=Lean.Grind.Ring.intCast_sub a b
theorem zb8:ic (F:=F) 0=0:=Lean.Grind.Ring.intCast_zero
theorem zfn:ic (F:=F) 1=1:=Lean.Grind.Ring.intCast_one
end
theorem zxq(k:Int):ic (F:=Rat) k=0↔k=0:=by
 show ((k:Int):Rat)=0↔k=0;constructor
 ·intro h;exact Rat.intCast_inj.mp (by simpa using h)
 ·intro h;subst h;rfl
class Chr (n:Int) (F:Type) [Lean.Grind.Field F]:Prop where
 z:∀k:Int,ic (F:=F) k=0↔zr n k
def zset(p:Int):Setoid Int where
 r:=λa b=>∃k,a=b+p*k
 iseqv:=⟨λa=>⟨0,by simp⟩,fun{a b} ⟨k,h⟩=>⟨-k,by rw[h,Int.mul_neg];omega⟩,fun{a b c} ⟨k,h⟩ ⟨j,h'⟩=>⟨k+j,by rw[h,h',Int.mul_add];omega⟩⟩
def Zq(p:Int):Type:=Quotient (zset p)
namespace Zq
variable{p:Int}
def mk(a:Int):Zq p:=Quotient.mk (zset p) a
theorem snd{a b:Int}(h:∃k,a=b+p*k):(mk a:Zq p)=mk b:=Quotient.sound (s:=zset p) h
theorem exa{a b:Int}(h:(mk a:Zq p)=mk b):∃k,a=b+p*k:=Quotient.exact (s:=zset p) h
theorem ex(x:Zq p):∃a,x=mk a:=let ⟨a,h⟩:=Quotient.exists_rep (s:=zset p) x;⟨a,h.symm⟩
def add(x y:Zq p):Zq p:=Quotient.liftOn₂ x y (λa b=>mk (a+b)) λa b a' b' ⟨k,h⟩ ⟨j,h'⟩=>snd ⟨k+j,by rw[h,h',Int.mul_add];omega⟩
def mul(x y:Zq p):Zq p:=Quotient.liftOn₂ x y (λa b=>mk (a*b)) λa b a' b' ⟨k,h⟩ ⟨j,h'⟩=>snd ⟨a'*j+k*b'+p*k*j,by rw[h,h'];grind⟩
def neg(x:Zq p):Zq p:=Quotient.liftOn x (λa=>mk (-a)) λa b ⟨k,h⟩=>snd ⟨-k,by rw[h,Int.mul_neg];omega⟩
def pw(x:Zq p):Nat->Zq p
 | 0=>mk 1
 | k+1=>mul (pw x k) x
open Classical in
noncomputable def inv(x:Zq p):Zq p:=if h:∃y,mul x y=mk 1 then Classical.choose h else mk 0
noncomputable def zpw(x:Zq p):Int->Zq p
 | .ofNat k=>pw x k
 | .negSucc k=>inv (pw x (k+1))
instance:Add (Zq p):=⟨add⟩
instance:Mul (Zq p):=⟨mul⟩
instance:Neg (Zq p):=⟨neg⟩
instance:Sub (Zq p):=⟨λa b=>add a (neg b)⟩
noncomputable instance:Inv (Zq p):=⟨inv⟩
noncomputable instance:Div (Zq p):=⟨λa b=>mul a (inv b)⟩
theorem zt6(hp:Pr p):∀(k:Nat) {a f l:Int},l.toNat<=k->Tn p a f l->∃f,(f*a-1)%p=0
 | 0,a,f,l,h,t=>by have:=t.l0;omega
 | k+1,a,f,l,h,t=>by
  by_cases c:l=1
  ·exact⟨f,(zt2 t c).2.2⟩
  ·have:=zqy t;exact zt6 hp k (by omega) (zn9 hp t c)
theorem zzp(hp:Pr p){x:Zq p}(h:x≠mk 0):∃y,mul x y=mk 1:=by
 obtain⟨a,rfl⟩:=ex x;have p2:=hp.1;have e:(mk a:Zq p)=mk (a%p):=snd ⟨a / p,by have:=Int.mul_ediv_add_emod a p;omega⟩;have h0:0<=a%p:=Jn _ (by omega);have h1:a%p<p:=Jd _ (by omega);have hz:a%p≠0:=λz=>h (by rw[e,z])
 obtain⟨f,hf⟩:=zt6 hp _ (Yi _) (zl1 hp (by omega) h1);obtain⟨k,hk⟩:=Int.dvd_of_emod_eq_zero hf;refine⟨mk f,?_⟩;rw[e];exact snd ⟨k,by rw[Int.mul_comm];omega⟩
theorem zi5(hp:Pr p){x:Zq p}(h:x≠mk 0):mul x (inv x)=mk 1:=by
 have q:=zzp hp h;unfold inv;rw[dif_pos q];exact Classical.choose_spec q
theorem zod(x y:Zq p):mul x y=mul y x:=by
 obtain⟨a,rfl⟩:=ex x;obtain⟨b,rfl⟩:=ex y;exact Jx mk (Int.mul_comm a b)
theorem zx0(x y z:Zq p):mul (mul x y) z=mul x (mul y z):=by
 obtain⟨a,rfl⟩:=ex x;obtain⟨b,rfl⟩:=ex y;obtain⟨c,rfl⟩:=ex z;exact Jx mk (Int.mul_assoc a b c)
theorem zn3(x:Zq p):mul (mk 1) x=x:=by obtain⟨a,rfl⟩:=ex x;exact Jx mk (Int.one_mul a)
theorem zl5(x:Zq p):mul (mk 0) x=mk 0:=by obtain⟨a,rfl⟩:=ex x;exact Jx mk (Int.zero_mul a)
theorem zm4(hp:Pr p):(mk 0:Zq p)≠mk 1:=λh=>by
 obtain⟨k,e⟩:=exa h;have p2:=hp.1;have:p*k = -1:=by omega
 have d:p ∣ 1:=⟨-k,by rw[Int.mul_neg];omega⟩;have:=Int.le_of_dvd (by decide) d;omega
theorem zus(hp:Pr p):inv (mk 0:Zq p)=mk 0:=by
 unfold inv;rw[dif_neg];rintro⟨y,h⟩;rw[zl5]at h;exact zm4 hp h
theorem zvq(hp:Pr p)(x:Zq p):inv (inv x)=x:=by
 by_cases h:x=mk 0
 ·rw[h,zus hp,zus hp]
 ·have h1:=zi5 hp h;have h2:inv x≠mk 0:=λz=>by rw[z,zod,zl5]at h1;exact zm4 hp h1
  have h3:=zi5 hp h2
  calc inv (inv x)=mul (mk 1) (inv (inv x)):=(zn3 _).symm
   _=mul (mul x (inv x)) (inv (inv x)):=by rw[h1]
   _=mul x (mul (inv x) (inv (inv x))):=zx0 _ _ _
   _=mul x (mk 1):=by rw[h3]
   _=x:=by rw[zod,zn3]
theorem z0t(hp:Pr p):inv (mk 1:Zq p)=mk 1:=by
 have h1:=zi5 hp (x:=mk 1) (zm4 hp).symm;rwa [zn3]at h1
noncomputable def fld(hp:Pr p):Lean.Grind.Field (Zq p) where
 natCast:=⟨λn=>mk n⟩
 ofNat:=λn=>⟨mk n⟩
 nsmul:=⟨λn x=>mul (mk n) x⟩
 npow:=⟨pw⟩
 intCast:=⟨λn=>mk n⟩
 zsmul:=⟨λn x=>mul (mk n) x⟩
 zpow:=⟨zpw⟩
 add_zero:=λx=>by obtain⟨a,rfl⟩:=ex x;exact Jx mk (Int.add_zero a)
 add_comm:=λx y=>by obtain⟨a,rfl⟩:=ex x;obtain⟨b,rfl⟩:=ex y;exact Jx mk (Int.add_comm a b)
 add_assoc:=λx y z=>by obtain⟨a,rfl⟩:=ex x;obtain⟨b,rfl⟩:=ex y;obtain⟨c,rfl⟩:=ex z;exact Jx mk (Int.add_assoc a b c)
 mul_assoc:=zx0
 mul_comm:=zod
 mul_one:=λx=>(zod x (mk 1)).trans (zn3 x)
 one_mul:=zn3
 right_distrib:=λx y z=>by obtain⟨a,rfl⟩:=ex x;obtain⟨b,rfl⟩:=ex y;obtain⟨c,rfl⟩:=ex z;exact Jx mk (Int.add_mul a b c)
 left_distrib:=λx y z=>by obtain⟨a,rfl⟩:=ex x;obtain⟨b,rfl⟩:=ex y;obtain⟨c,rfl⟩:=ex z;exact Jx mk (Int.mul_add a b c)
 zero_mul:=zl5
 mul_zero:=λx=>(zod _ _).trans (zl5 x)
 pow_zero:=λx=>rfl
 pow_succ:=λx n=>rfl
 ofNat_succ:=λn=>rfl
 ofNat_eq_natCast:=λn=>rfl
 nsmul_eq_natCast_mul:=λn x=>rfl
 neg_add_cancel:=λx=>by obtain⟨a,rfl⟩:=ex x;exact Jx mk (Int.add_left_neg a)
 sub_eq_add_neg:=λx y=>rfl
 neg_zsmul:=λi x=>by obtain⟨a,rfl⟩:=ex x;exact Jx mk (Int.neg_mul i a)
 zsmul_natCast_eq_nsmul:=λn x=>rfl
 intCast_ofNat:=λn=>rfl
 intCast_neg:=λn=>rfl
 div_eq_mul_inv:=λx y=>rfl
 zero_ne_one:=zm4 hp
 inv_zero:=zus hp
 mul_inv_cancel:=fun{x} h=>zi5 hp h
 zpow_zero:=λx=>rfl
 zpow_succ:=λx n=>rfl
 zpow_neg:=λx n=>by
  cases n with
  | ofNat k=>
   cases k with
   | zero=>exact(z0t hp).symm
   | succ k=>rfl
  | negSucc k=>exact(zvq hp _).symm
end Zq
theorem zzy(n:Int)(hn:n=0\/Pr n):∃(F:Type) (_:Lean.Grind.Field F),Chr n F:=by
 by_cases c:n=0
 ·subst c;exact⟨Rat,inferInstance,⟨λk=>by rw[zr_0];exact zxq k⟩⟩
 ·have hp:Pr n:=hn.resolve_left c;refine⟨Zq n,Zq.fld hp,@Chr.mk n (Zq n) (Zq.fld hp) λk=>?_⟩;rw[zr_n c];show (Zq.mk k:Zq n)=Zq.mk 0↔_;constructor
  ·intro h;obtain⟨j,e⟩:=Zq.exa h;rw[e];simp
  ·intro h;obtain⟨j,e⟩:=Int.dvd_of_emod_eq_zero h;exact Zq.snd ⟨j,by rw[e];simp⟩
end G
namespace G
open L2 PySem K1 K2 K3 K6 K8 K37
def addT(a b:List Int):List Int:=List.zipWith (· + ·) a b
def subT(a b:List Int):List Int:=List.zipWith (· - ·) a b
theorem zc1{a b:List Int}(h:a.length=b.length):(addT a b).length=a.length:=by simp[addT,h]
theorem zg3{a b:List Int}(h:a.length=b.length):(subT a b).length=a.length:=by simp[subT,h]
theorem zeh{a b:List Int}(h:a.length=b.length)(i:Nat):(addT a b).getD i 0=a.getD i 0+b.getD i 0:=by
 rcases Jh i a.length with c | c
 ·have c2:i<b.length:=by omega
  simp[addT,List.getD,List.getElem?_zipWith,c,c2]
 ·have c2:b.length<=i:=by omega
  simp[addT,List.getD,List.getElem?_zipWith,List.getElem?_eq_none c,List.getElem?_eq_none c2]
theorem zk9{a b:List Int}(h:a.length=b.length)(i:Nat):(subT a b).getD i 0=a.getD i 0-b.getD i 0:=by
 rcases Jh i a.length with c | c
 ·have c2:i<b.length:=by omega
  simp[subT,List.getD,List.getElem?_zipWith,c,c2]
 ·have c2:b.length<=i:=by omega
  simp[subT,List.getD,List.getElem?_zipWith,List.getElem?_eq_none c,List.getElem?_eq_none c2]
theorem zis{a b:List Int}(h:a.length=b.length):addT a b=addT b a:=zgk (by rw[zc1 h,zc1 h.symm,h]) λi _=>by rw[zeh h,zeh h.symm];omega
theorem zgl{a b:List Int}(h:a.length=b.length):addT b (subT a b)=a:=zgk (by rw[zc1 (by rw[zg3 h];omega),h]) λi _=>by rw[zeh (by rw[zg3 h];omega),zk9 h];omega
theorem zpk{a b:List Int}(h:a.length=b.length):subT (addT b a) b=a:=zgk (by rw[zg3 (by rw[zc1 h.symm]),zc1 h.symm,h]) λi _=>by rw[zk9 (by rw[zc1 h.symm]),zeh h.symm];omega
theorem znq{a b c:List Int}(h:a.length=b.length)(h':a.length=c.length)(e:addT c a=addT c b):a=b:=zgk h λi _=>by
 have this:(addT c a).getD i 0=(addT c b).getD i 0:=by rw[e]
 rw[zeh h'.symm,zeh (by omega)]at this;omega
theorem ztj{a:List Int}{m:Nat}(h:a.length=m):addT (zer m) a=a:=zgk (by rw[zc1 (by rw[zd5,h]),zd5,h]) λi _=>by
 rw[zeh (by rw[zd5,h])];have:(zer m).getD i 0=0:=by unfold zer;rcases Jh i m with c | c <;> simp[List.getD,c]
 omega
theorem T0.add{m:Nat}{a b:List Int}(ha:T0 m a)(hb:T0 m b):T0 m (addT a b):=⟨by rw[zc1 (by rw[ha.len,hb.len]),ha.len],λi=>by rw[zeh (by rw[ha.len,hb.len])];have:=ha.nn i;have:=hb.nn i;omega⟩
theorem T0.sub{m:Nat}{a b:List Int}(ha:T0 m a)(hb:T0 m b)(g:zcw b a=true):T0 m (subT a b):=⟨by rw[zg3 (by rw[ha.len,hb.len]),ha.len],λi=>by
 rw[zk9 (by rw[ha.len,hb.len])];rcases Jh i b.length with c | c
 ·have:=goesI_iff.mp g i c;omega
 ·have:=ha.nn i;have e:b.getD i 0=0:=by simp[List.getD,List.getElem?_eq_none c]
  omega⟩
theorem zta{m:Nat}{a b:List Int}(ha:T0 m a)(hb:T0 m b):zcw b (addT b a)=true:=goesI_iff.mpr λi _=>by rw[zeh (by rw[ha.len,hb.len])];have:=ha.nn i;omega
theorem T0.zer(m:Nat):T0 m (zer m):=T0.zero m
section
variable{rk:List Int->List Int}{m:Nat}
def lt(rk:List Int->List Int)(a b:List Int):Prop:=HT.lexLt (rk a) (rk b)=true
theorem lt_irrefl{a:List Int}(h:lt rk a a):False:=by unfold lt at h;rw[zj3]at h;cases h
theorem lt_trans{a b c:List Int}(h:lt rk a b)(h':lt rk b c):lt rk a c:=zv9 h h'
theorem zdr{a b:List Int}(h:lt rk a b)(h':lt rk b a):False:=lt_irrefl (lt_trans h h')
theorem zl2(O:OrdM rk m){a b:List Int}(ha:a.length=m)(hb:b.length=m):lt rk a b\/a=b\/lt rk b a:=by
 by_cases e:a=b
 ·exact .inr (.inl e)
 ·have ne:rk a≠rk b:=λz=>e (O.inj a b ha hb z)
  have:=zpp ne
  cases q:HT.lexLt (rk b) (rk a) with
  | true=>exact .inr (.inr q)
  | false=>rw[q]at this;exact .inl this
theorem zmg(O:OrdM rk m){a b:List Int}(ha:a.length=m)(hb:b.length=m)(h:HT.lexLt (rk a) (rk b)=false):b=a\/lt rk b a:=by
 rcases zl2 O ha hb with q | q | q
 ·unfold lt at q;rw[q]at h;cases h
 ·exact .inl q.symm
 ·exact .inr q
theorem zec(O:OrdM rk m){a b c:List Int}(ha:a.length=m)(hb:b.length=m)(hc:c.length=m):lt rk (addT a c) (addT b c)↔lt rk a b:=by
 unfold lt;have e1:rk (addT a c)=vadd (rk a) (rk c):=O.add a c ha hc;have e2:rk (addT b c)=vadd (rk b) (rk c):=O.add b c hb hc;rw[e1,e2,ztq (O.len a c ha hc) (O.len b c hb hc)]
theorem zk0(O:OrdM rk m){a b c:List Int}(ha:a.length=m)(hb:b.length=m)(hc:c.length=m):lt rk (addT c a) (addT c b)↔lt rk a b:=by
 rw[zis (by omega:c.length=a.length),zis (by omega:c.length=b.length)];exact zec O ha hb hc
theorem zhx(O:OrdM rk m){a b:List Int}(ha:T0 m a)(hb:T0 m b)(g:zcw a b=true):a=b\/lt rk a b:=by
 have h:=T0.sub hb ha g;by_cases e:subT b a=zer m
 ·left
  have:=zgl (a:=b) (b:=a) (by rw[ha.len,hb.len]);rw[e,zis (by rw[zd5,ha.len]),ztj ha.len]at this;exact this
 ·right
  have p:=O.pos (subT b a) h.len (λx hx=>h.mem x hx) e;have:=(zk0 O (a:=zer m) (b:=subT b a) (c:=a) (zd5 m) h.len ha.len).mpr p;rwa [zgl (by rw[ha.len,hb.len]),zis (by rw[zd5,ha.len]),ztj ha.len]at this
end
end G
namespace G
open L2 PySem K1 K2 K3 K6 K8 K37
section
variable{F:Type}[Lean.Grind.Field F]
def sm{α : Type}(φ : α->F):List α->F
 | []=>0
 | a::l=>φ a+sm φ l
variable{α β : Type}
theorem zub(φ : α->F):∀l l':List α,sm φ (l++l')=sm φ l+sm φ l'
 | [],l'=>by show sm φ l'=0+sm φ l';grind
 | a::l,l'=>by show φ a+sm φ (l++l') = φ a+sm φ l+sm φ l';rw[zub φ l l'];grind
theorem zk7(φ : α->F)(l:List α)(a : α):sm φ (l++[a])=sm φ l + φ a:=by rw[zub];show _+(φ a+0)=_;grind
theorem zg9{φ ψ : α->F}:∀{l:List α},(∀a∈l,φ a = ψ a)->sm φ l=sm ψ l
 | [],_=>rfl
 | a::l,h=>by show φ a+_ = ψ a+_;rw[h a (by simp),zg9 λb hb=>h b (by simp[hb])]
theorem zi6{φ : α->F}:∀{l:List α},(∀a∈l,φ a=0)->sm φ l=0
 | [],_=>rfl
 | a::l,h=>by show φ a+_=0;rw[h a (by simp),zi6 λb hb=>h b (by simp[hb])];grind
theorem zvw{φ : α->F}{l l':List α}(h:l.Perm l'):sm φ l=sm φ l':=by
 induction h with
 | nil=>rfl
 | cons a _ ih=>show φ a+_ = φ a+_;rw[ih]
 | swap a b l=>show φ b+(φ a+_) = φ a+(φ b+_);grind
 | trans _ _ h1 h2=>exact h1.trans h2
theorem zjj[DecidableEq α]{φ : α->F}{a : α}{l:List α}(h:a∈l):sm φ l = φ a+sm φ (l.erase a):=zvw (List.perm_cons_erase h)
theorem zqs[DecidableEq α]{φ : α->F}:∀{l l':List α},l.Nodup->l'.Nodup->(∀a∈l,a∈l')->(∀a∈l',a ∉ l->φ a=0)->sm φ l=sm φ l'
 | [],l',_,_,_,h=>by rw[zi6 (l:=l') λa ha=>h a ha (by simp)];rfl
 | a::l,l',n1,n2,h1,h2=>by
  rw[List.nodup_cons]at n1;rw[zjj (h1 a (by simp))];show φ a+sm φ l=_;rw[zqs (l:=l) (l':=l'.erase a) n1.2 (n2.erase a) (λb hb=>?_) λb hb nb=>?_]
  ·exact(List.Nodup.mem_erase_iff n2).mpr ⟨λe=>n1.1 (e ▸ hb),h1 b (by simp[hb])⟩
  ·have:=(List.Nodup.mem_erase_iff n2).mp hb;exact h2 b this.2 (by simp[this.1,nb])
abbrev Po(F:Type):=List Int->F
variable{m:Nat}
def Spt(m:Nat)(φ : Po F):Prop:=∀t,φ t≠0->T0 m t
def sh(l:List Int)(φ : Po F):Po F:=λt=>if t.length=l.length then φ (subT t l) else 0
theorem zs1{l u:List Int}{φ : Po F}(h:u.length=l.length):sh l φ (addT l u) = φ u:=by unfold sh;rw[Yl (zc1 h.symm),zpk h]
theorem zwt{l t:List Int}{φ : Po F}(h:t.length=l.length):sh l φ t = φ (subT t l):=by unfold sh;rw[Yl h]
theorem zvh{l t:List Int}{φ : Po F}(hl:T0 m l)(hs:Spt m φ)(h:sh l φ t≠0):T0 m t/\zcw l t=true/\φ (subT t l)≠0/\t=addT l (subT t l):=by
 unfold sh at h;split at h
 ·rename_i e
  have t0:=hs _ h;have et:=(zgl e).symm;refine⟨?_,?_,h,et⟩
  ·rw[et];exact T0.add hl t0
  ·rw[et];exact zta t0 hl
 ·exact absurd rfl h
theorem zxt{φ : Po F}(hs:Spt m φ):sh (zer m) φ = φ:=funext λt=>by
 by_cases c:t.length=m
 ·rw[zwt (by rw[zd5,c])];congr 1;have:=zpk (a:=t) (b:=zer m) (by rw[zd5,c]);rwa [ztj c]at this
 ·unfold sh;rw[Yh (by rw[zd5];exact c)];exact Classical.byContradiction λz=>c (hs t (λq=>z q.symm)).len
def Ld(rk:List Int->List Int)(φ : Po F)(l:List Int):Prop:=φ l≠0/\∀t,φ t≠0->t=l\/lt rk t l
theorem Ld.one{rk:List Int->List Int}{φ : Po F}{l l':List Int}(h:Ld rk φ l)(h':Ld rk φ l'):l=l':=by
 rcases h.2 l' h'.1 with e | e
 ·exact e.symm
 ·rcases h'.2 l h.1 with e' | e'
  ·exact e'
  ·exact(zdr e e').elim
theorem Ld.sh{rk:List Int->List Int}(O:OrdM rk m){φ : Po F}{l o:List Int}(hs:Spt m φ)(ho:T0 m o)(h:Ld rk φ l):Ld rk (sh o φ) (addT o l):=by
 have hl:=hs l h.1;refine⟨by rw[zs1 (by rw[hl.len,ho.len])];exact h.1,λt ht=>?_⟩;obtain⟨t0,g,nz,e⟩:=zvh ho hs ht;have hu:=hs _ nz;rcases h.2 _ nz with q | q
 ·left;rw[e,q]
 ·right;rw[e];exact(zk0 O hu.len hl.len ho.len).mpr q
def mul(S:List (List Int))(φ ψ : Po F):Po F:=λt=>sm (λo=>φ o*sh o ψ t) S
theorem zu1{S S':List (List Int)}{φ ψ : Po F}(n1:S.Nodup)(n2:S'.Nodup)(h1:∀t,φ t≠0->t∈S)(h2:∀t,φ t≠0->t∈S'):mul S φ ψ = mul S' φ ψ:=by
 have z:∀{S:List (List Int)},S.Nodup->(∀t,φ t≠0->t∈S)->∀t,mul S φ ψ t=sm (λo=>φ o*sh o ψ t) (S.filter λo => @decide (φ o≠0) (Classical.propDecidable _)):=fun{S} nS hS t=>by
  refine(zqs (nS.filter _) nS (λa ha=>(List.mem_filter.mp ha).1) λa ha na=>?_).symm;have : φ a=0:=Classical.byContradiction λq=>na (List.mem_filter.mpr ⟨ha,@Yo _ (Classical.propDecidable _) q⟩)
  rw[this];grind
 funext t
 rw[z n1 h1,z n2 h2];refine zqs (n1.filter _) (n2.filter _) (λa ha=>?_) λa ha na=>?_
 ·have q := @Jk _ (Classical.propDecidable _) (List.mem_filter.mp ha).2;exact List.mem_filter.mpr ⟨h2 a q,(List.mem_filter.mp ha).2⟩
 ·have q := @Jk _ (Classical.propDecidable _) (List.mem_filter.mp ha).2;exact absurd (List.mem_filter.mpr ⟨h1 a q,(List.mem_filter.mp ha).2⟩) na
end
end G
namespace G
open L2 PySem K1 K2 K3 K6 K8 K37
section
variable{F:Type}[Lean.Grind.Field F]{n:Int}
theorem zr8[Chr n F]{k:Int}(h:¬zr n k):ic (F:=F) k≠0:=λz=>h ((Chr.z k).mp z)
theorem zl3[Chr n F]{a b:Int}:ic (F:=F) a=ic b↔zr n (a-b):=by
 rw[<- Chr.z (F:=F),zp8];exact⟨λh=>by rw[h];grind,λh=>by grind⟩
theorem zh0[Chr n F](k:Int):ic (F:=F) (k%n)=ic k:=by
 rw[zl3 (n:=n)];by_cases c:n=0
 ·subst c;rw[zr_0];simp
 ·rw[zr_n c];have:=Int.mul_ediv_add_emod k n;have e:k%n-k=n*(-(k / n)):=by rw[Int.mul_neg];omega
  rw[e];simp
def Rep(n:Int)(H:Hp)(v:V)(x:F):Prop:=
 if n=0 then ∃(r:Addr) (p q:Int),v=.ref r/\H r=some (.tup [.int p,.int q])/\1<=q/\gI p q=1/\x*ic q=ic p
 else ∃a:Int,v=.int a/\0<=a/\a<n/\x=ic a
theorem rep_0{H:Hp}{v:V}{x:F}:Rep 0 H v x↔∃(r:Addr) (p q:Int),v=.ref r/\H r=some (.tup [.int p,.int q])/\1<=q/\gI p q=1/\x*ic q=ic p:=by unfold Rep;rw[Yl rfl]
theorem zc5(h:n≠0){H:Hp}{v:V}{x:F}:Rep n H v x↔∃a:Int,v=.int a/\0<=a/\a<n/\x=ic a:=by unfold Rep;rw[Yh h]
theorem Rep.keep{H H':Hp}{v:V}{x:F}(k:∀b xs,H b=some (.tup xs)->H' b=some (.tup xs))(h:Rep n H v x):Rep n H' v x:=by
 by_cases z:n=0
 ·subst z;obtain⟨r,p,q,e,hr,w⟩:=rep_0.mp h;exact rep_0.mpr ⟨r,p,q,e,k _ _ hr,w⟩
 ·exact(zc5 z).mpr ((zc5 z).mp h)
theorem Rep.same{H H':Hp}{v:V}{x:F}(e:Same H H')(h:Rep n H v x):Rep n H' v x:=h.keep λ_ _=>e _ _
def RD(n:Int)(x:F)(d:PyData):Prop:=
 if n=0 then ∃(p q:Int),d=.tuple [.int p,.int q]/\1<=q/\gI p q=1/\x*ic q=ic p
 else ∃a:Int,d=.int a/\0<=a/\a<n/\x=ic a
theorem rd_0{d:PyData}{x:F}:RD 0 x d↔∃(p q:Int),d=.tuple [.int p,.int q]/\1<=q/\gI p q=1/\x*ic q=ic p:=by unfold RD;rw[Yl rfl]
theorem rd_n(h:n≠0){d:PyData}{x:F}:RD n x d↔∃a:Int,d=.int a/\0<=a/\a<n/\x=ic a:=by unfold RD;rw[Yh h]
theorem Rep.rd{K:W.Frag}{H:Hp}{v:V}{x:F}(h:Rep n H v x):∃d,Rds K H v d/\NmD d/\RD n x d:=by
 by_cases z:n=0
 ·subst z;obtain⟨r,p,q,rfl,hr,w⟩:=rep_0.mp h;exact⟨_,zrt hr,zsc p q,rd_0.mpr ⟨p,q,Z,w⟩⟩
 ·obtain⟨a,rfl,w⟩:=(zc5 z).mp h;exact⟨_,.int a,zv3 a,(rd_n z).mpr ⟨a,Z,w⟩⟩
theorem RD.eq[Chr n F]{x y:F}{d e:PyData}(h:RD n x d)(h':RD n y e):PyData.eqv d e=true↔x=y:=by
 by_cases z:n=0
 ·subst z;obtain⟨p,q,rfl,q1,c,w⟩:=rd_0.mp h;obtain⟨p',q',rfl,q1',c',w'⟩:=rd_0.mp h';have ee:PyData.eqv (.tuple [.int p,.int q]) (.tuple [.int p',.int q'])=decide ([p,q]=[p',q']):=by rw[PyData.eqv];exact zjh [p,q] [p',q']
  have nz:ic (F:=F) q≠0:=zr8 (n:=0) (by rw[zr_0];omega);have nz':ic (F:=F) q'≠0:=zr8 (n:=0) (by rw[zr_0];omega);rw[ee,decide_eq_true_iff];constructor
  ·intro g;simp at g;obtain⟨rfl,rfl⟩:=g;grind
  ·rintro rfl;have k:ic (F:=F) (p*q')=ic (p'*q):=by rw[za3,za3,<- w,<- w'];grind
   rw[zl3 (n:=0),zr_0]at k;obtain⟨e1,e2⟩:=zot q1 q1' c c' (by omega);rw[e1,e2]
 ·obtain⟨a,rfl,a0,a1,w⟩:=(rd_n z).mp h;obtain⟨b,rfl,b0,b1,w'⟩:=(rd_n z).mp h';have ee:PyData.eqv (.int a) (.int b)=decide (a=b):=by simp[PyData.eqv,Bool.beq_eq_decide_eq]
  rw[ee,decide_eq_true_iff];constructor
  ·rintro rfl;rw[w,w']
  ·rintro rfl;have k:ic (F:=F) a=ic b:=by rw[<- w,<- w']
   rw[zl3 (n:=n),zr_n z]at k;obtain⟨j,hj⟩:=Int.dvd_of_emod_eq_zero k;have:j=0:=by
    rcases(by omega:j=0\/1<=j\/j<=-1) with q | q | q
    ·exact q
    ·have:=Y3 q (show 0<=n by omega);omega
    ·have:=Y3 q (show 0<=n by omega);omega
   subst this;omega
def un(k:List Key):List Int:=k.map λx=>match x with | .inl i=>i | .inr _=>0
theorem zwe:∀xs:List Int,un (ky xs)=xs
 | []=>rfl
 | x::xs=>by show x::un (ky xs)=_;rw[zwe xs]
def tms(kvs:List (List Key×V)):List (List Int):=kvs.map λp=>un p.1
structure PF(n:Int)(m:Nat)(H:Hp)(kvs:List (List Key×V))(φ : Po F):Prop where
 ks:∀p∈kvs,∃t,p.1=ky t/\T0 m t
 nd:(kvs.map (·.1)).Nodup
 out:∀t,valV kvs (ky t)=none->φ t=0
 val:∀t v,valV kvs (ky t)=some v->Rep n H v (φ t)/\φ t≠0
def setP(φ : Po F)(k:List Int)(x:F):Po F:=λt=>if t=k then x else φ t
theorem zdu{φ : Po F}{k:List Int}{x:F}:setP φ k x k=x:=Yl rfl
theorem zbo{φ : Po F}{k t:List Int}{x:F}(h:t≠k):setP φ k x t = φ t:=Yh h
variable{m:Nat}{H H':Hp}{kvs:List (List Key×V)}{φ ψ : Po F}
theorem PF.keep(k:∀b xs,H b=some (.tup xs)->H' b=some (.tup xs))(h:PF n m H kvs φ):PF n m H' kvs φ:=⟨h.ks,h.nd,h.out,λt v e=>⟨(h.val t v e).1.keep k,(h.val t v e).2⟩⟩
theorem PF.same(e:Same H H')(h:PF n m H kvs φ):PF n m H' kvs φ:=h.keep λ_ _=>e _ _
theorem PF.congr(h:PF n m H kvs φ)(e:∀t,φ t = ψ t):PF n m H kvs ψ:=by rw[<- show φ = ψ from funext e];exact h
theorem PF.nil:PF n m H [] (λ_=>(0:F)):=⟨(λp hp=>by cases hp),List.nodup_nil,λ_ _=>Z,λt v e=>by simp[valV]at e⟩
theorem PF.mem(h:PF n m H kvs φ){t:List Int} : φ t≠0↔ky t∈kvs.map (·.1):=by
 rw[<- mem_of_valV]
 cases q:valV kvs (ky t) with
 | none=>simp;exact h.out t q
 | some v=>simp;exact(h.val t v q).2
theorem PF.get(h:PF n m H kvs φ){t:List Int}(ht : φ t≠0):∃v,valV kvs (ky t)=some v/\Rep n H v (φ t):=by
 cases q:valV kvs (ky t) with
 | none=>exact absurd (h.out t q) ht
 | some v=>exact⟨v,rfl,(h.val t v q).1⟩
theorem PF.keys(h:PF n m H kvs φ):kvs.map (·.1)=(tms kvs).map ky:=by
 unfold tms;rw[Ji];refine List.map_congr_left λp hp=>?_
 obtain⟨t,e,_⟩:=h.ks p hp;show p.1=ky (un p.1);rw[e,zwe]
theorem PF.tmem(h:PF n m H kvs φ){t:List Int}:t∈tms kvs↔φ t≠0:=by
 rw[h.mem,h.keys,Jj];constructor
 ·intro ht;exact⟨t,ht,Z⟩
 ·rintro⟨u,hu,e⟩;rw[<- zg1 e];exact hu
theorem PF.tnd(h:PF n m H kvs φ):(tms kvs).Nodup:=zj4 (f:=ky) (by rw[<- h.keys];exact h.nd)
theorem PF.sp(h:PF n m H kvs φ):Spt m φ:=λt ht=>by
 obtain⟨p,hp,e⟩:=Jj.mp (h.mem.mp ht);obtain⟨u,e',t0⟩:=h.ks p hp;rw[<- zg1 (e'.symm.trans e)];exact t0
theorem PF.ix(h:PF n m H kvs φ){i:Nat}{k:List Key}{v:V}(hk:kvs[i]? = some (k,v)):∃t,k=ky t/\T0 m t/\(tms kvs)[i]? = some t/\Rep n H v (φ t)/\φ t≠0:=by
 obtain⟨t,e,t0⟩:=h.ks _ (Yx hk);have e:k=ky t:=e;have hv:=zl7 h.nd hk;rw[e]at hv;refine⟨t,e,t0,?_,h.val t v hv⟩;unfold tms;rw[Ym,hk];show some (un k)=_;rw[e,zwe]
theorem PF.put(h:PF n m H kvs φ){k:List Int}{v:V}{x:F}(hk:T0 m k)(hv:Rep n H v x)(hx:x≠0):PF n m H (putK kvs (ky k) v) (setP φ k x):=by
 have vp:∀t,valV (putK kvs (ky k) v) (ky t)=if t=k then some v else valV kvs (ky t):=λt=>by
  rw[zmc];by_cases c:t=k
  ·rw[Yl c,Yl (by rw[c])]
  ·rw[Yh c,Yh λz=>c (zg1 z)]
 refine⟨λp hp=>?_,zxs h.nd,λt e=>?_,λt w e=>?_⟩
 ·have:p.1∈(putK kvs (ky k) v).map (·.1):=Jj.mpr ⟨p,hp,Z⟩;rw[zlz]at this;have:p.1∈kvs.map (·.1)\/p.1=ky k:=by
   split at this
   ·exact .inl this
   ·rcases Jv.mp this with q | q
    ·exact .inl q
    ·exact .inr (Yq.mp q)
  rcases this with q | q
  ·obtain⟨p',hp',e⟩:=Jj.mp q;obtain⟨t,e',t0⟩:=h.ks p' hp';exact⟨t,by rw[<- e,e'],t0⟩
  ·exact⟨k,q,hk⟩
 ·rw[vp]at e;by_cases c:t=k
  ·rw[Yl c]at e;cases e
  ·rw[Yh c]at e;rw[zbo c];exact h.out t e
 ·rw[vp]at e;by_cases c:t=k
  ·rw[Yl c]at e;cases e;rw[c,zdu];exact⟨hv,hx⟩
  ·rw[Yh c]at e;rw[zbo c];exact h.val t w e
theorem PF.drop(h:PF n m H kvs φ)(k:List Int):PF n m H (ze0 kvs (ky k)) (setP φ k 0):=by
 have vp:∀t,valV (ze0 kvs (ky k)) (ky t)=if t=k then none else valV kvs (ky t):=λt=>by
  rw[zpv];by_cases c:t=k
  ·rw[Yl c,Yl (by rw[c])]
  ·rw[Yh c,Yh λz=>c (zg1 z)]
 refine⟨λp hp=>h.ks p (List.mem_filter.mp hp).1,(List.Sublist.map _ List.filter_sublist).nodup h.nd,λt e=>?_,λt w e=>?_⟩
 ·by_cases c:t=k
  ·rw[c,zdu]
  ·rw[vp,Yh c]at e;rw[zbo c];exact h.out t e
 ·rw[vp]at e;by_cases c:t=k
  ·rw[Yl c]at e;cases e
  ·rw[Yh c]at e;rw[zbo c];exact h.val t w e
theorem PF.empty(h:PF n m H kvs φ):kvs=[]↔∀t,φ t=0:=by
 constructor
 ·rintro rfl t;exact h.out t rfl
 ·intro z
  cases kvs with
  | nil=>rfl
  | cons p l=>
   obtain⟨t,e,_⟩:=h.ks p (by simp);have : φ t≠0:=h.mem.mpr (by rw[<- e];simp);exact absurd (z t) this
theorem zua{K:W.Frag}{H:Hp}:∀{kvs:List (List Key×V)} {φ : Po F},(∀p∈kvs,∃t,p.1=ky t/\Rep n H p.2 (φ t))->∃da,KDs K H kvs da/\Flats da/\kvs.map (·.1)=da.map (·.1)/\∀p∈da,∃t,p.1=ky t/\RD n (φ t) p.2
 | [],_,_=>⟨[],.nil,(λ_ z=>by cases z),rfl,(λ_ z=>by cases z)⟩
 | p::l,φ,h=>by
  obtain⟨t,et,hx⟩:=h p (.head _);obtain⟨da,h1,h2,h3,h4⟩:=zua (K:=K) (kvs:=l) (φ:=φ) λq hq=>h q (.tail _ hq)
  obtain⟨d,r,nm,rd⟩:=hx.rd (K:=K);refine⟨(p.1,d)::da,.cons ⟨Z,r⟩ h1,λq hq=>?_,by rw[Yz,Yz,h3],λq hq=>?_⟩
  ·rcases Yj.mp hq with rfl | hq
   ·exact⟨nm.lay,nm.dep⟩
   ·exact h2 q hq
  ·rcases Yj.mp hq with rfl | hq
   ·exact⟨t,et,rd⟩
   ·exact h4 q hq
theorem PF.kds{K:W.Frag}(h:PF n m H kvs φ):∃da,KDs K H kvs da/\Flats da/\kvs.map (·.1)=da.map (·.1)/\∀p∈da,∃t,p.1=ky t/\RD n (φ t) p.2:=zua λp hp=>by
 obtain⟨i,hi,e⟩:=List.mem_iff_getElem.mp hp;obtain⟨t,e1,_,_,r,_⟩:=h.ix (i:=i) (k:=p.1) (v:=p.2) (by rw[Yc hi,e]);exact⟨t,e1,r⟩
theorem zig{db:List (List Key×PyData)}{k:List Key}{d:PyData}(h:zeo db k=some d):(k,d)∈db:=by
 unfold zeo at h;obtain⟨p,hp,e⟩:=Option.map_eq_some_iff.mp h;have h1:=List.find?_some hp;have h2:=List.mem_of_find?_eq_some hp;have:p.1=k:=Jk h1;rw[<- this,<- e];exact h2
theorem zky{db:List (List Key×PyData)}{k:List Key}(h:k∈db.map (·.1)):∃d,zeo db k=some d:=by
 unfold zeo;obtain⟨p,hp,e⟩:=Jj.mp h;have:(db.find? λq=>decide (q.1=k)).isSome=true:=List.find?_isSome.mpr ⟨p,hp,Yo e⟩;obtain⟨q,hq⟩:=Option.isSome_iff_exists.mp this;exact⟨q.2,by rw[hq];rfl⟩
theorem PF.eq[Chr n F]{kvs':List (List Key×V)}{da db:List (List Key×PyData)}(h:PF n m H kvs φ)(h':PF n m H' kvs' ψ)
  (ka:kvs.map (·.1)=da.map (·.1)) (kb:kvs'.map (·.1)=db.map (·.1)) (ra:∀p∈da,∃t,p.1=ky t/\RD n (φ t) p.2) (rb:∀p∈db,∃t,p.1=ky t/\RD n (ψ t) p.2):eqKD da db=true↔∀t,φ t = ψ t:=by
 have la:kvs.length=da.length:=by have:=Jx List.length ka;simpa using this
 have lb:kvs'.length=db.length:=by have:=Jx List.length kb;simpa using this
 have key:∀t,φ t≠0->ky t∈da.map (·.1):=λt ht=>by rw[<- ka];exact h.mem.mp ht
 have key':∀t,ψ t≠0->ky t∈db.map (·.1):=λt ht=>by rw[<- kb];exact h'.mem.mp ht
 unfold eqKD;rw[Jz,beq_iff_eq,List.all_eq_true];constructor
 ·rintro⟨hl,ha⟩ t;have step:∀t,φ t≠0->φ t = ψ t:=λt ht=>by
   obtain⟨p,hp,e⟩:=Jj.mp (key t ht);obtain⟨u,eu,r⟩:=ra p hp;have q:=ha p hp;have:u=t:=zg1 (eu.symm.trans e);subst this;split at q
   ·rename_i d hd
    obtain⟨u',eu',r'⟩:=rb _ (zig hd);have:u'=u:=zg1 (eu'.symm.trans eu);subst this;exact(RD.eq r r').mp q
   ·cases q
  by_cases c : φ t=0
  ·rw[c];refine Classical.byContradiction λz=>?_
   have hz : ψ t≠0:=λq=>z q.symm
   have sub:∀k∈tms kvs,k∈(tms kvs').erase t:=λk hk=>by
    have nz:=h.tmem.mp hk;have e:=step k nz;rw[List.Nodup.mem_erase_iff h'.tnd];refine⟨λq=>nz (by rw[q];exact c),h'.tmem.mpr (by rw[<- e];exact nz)⟩
   have l1:=zcc h.tnd sub;rw[List.length_erase_of_mem (h'.tmem.mpr hz)]at l1;have l2:(tms kvs).length=kvs.length:=Yd _;have l3:(tms kvs').length=kvs'.length:=Yd _;have l4:0<(tms kvs').length:=List.length_pos_of_mem (h'.tmem.mpr hz);omega
  ·exact step t c
 ·intro e;have tt:∀t,t∈tms kvs↔t∈tms kvs':=λt=>by rw[h.tmem,h'.tmem,e]
  have l1:=zcc h.tnd λk hk=>(tt k).mp hk
  have l2:=zcc h'.tnd λk hk=>(tt k).mpr hk
  have l3:(tms kvs).length=kvs.length:=Yd _;have l4:(tms kvs').length=kvs'.length:=Yd _;refine⟨by omega,λp hp=>?_⟩;obtain⟨t,et,r⟩:=ra p hp;have nz : φ t≠0:=h.mem.mpr (by rw[ka,<- et];exact Jj.mpr ⟨p,hp,Z⟩);obtain⟨d,hd⟩:=zky (key' t (by rw[<- e];exact nz));rw[et,hd];obtain⟨u,eu,r'⟩:=rb _ (zig hd);have:t=u:=zg1 eu;subst this;exact(RD.eq r r').mpr (e t)
end
end G
namespace G
open L2 PySem K1 K2 K3 K6 K8 K37
section
variable{F:Type}[Lean.Grind.Field F]{n:Int}
def Lim(n:Int)(k:Nat)(x:F):Prop:=n=0->∃T B:Int,B≠0/\x*ic B=ic T/\T.natAbs<2^k/\B.natAbs<2^k
theorem Lim.up{k j:Nat}{x:F}(h:Lim n k x)(hk:k<=j):Lim n j x:=λz=>by
 obtain⟨T,B,b0,e,h1,h2⟩:=h z;exact⟨T,B,b0,e,Yf h1 (Yv (by decide) hk),Yf h2 (Yv (by decide) hk)⟩
theorem zfr[Chr 0 F]{k:Int}(h:k≠0):ic (F:=F) k≠0:=zr8 (n:=0) (by rw[zr_0];exact h)
theorem zvc[Chr 0 F]{a b:Int}(h:ic (F:=F) a=ic b):a=b:=by
 rw[zl3 (n:=0),zr_0]at h;omega
theorem zp6[Chr 0 F]{x:F}{p q T B:Int}(h:x*ic q=ic p)(h':x*ic B=ic T):p*B=T*q:=
 zvc (F:=F) (by rw[za3,za3,<- h,<- h'];grind)
theorem zhi[Chr 0 F]{k:Nat}{H:Hp}{v:V}{x:F}(h:Rep 0 H v x)(l:Lim 0 k x):∃(r:Addr) (p q:Int),v=.ref r/\H r=some (.tup [.int p,.int q])/\1<=q/\gI p q=1/\x*ic q=ic p/\p.natAbs<2^k/\q.natAbs<2^k:=by
 obtain⟨r,p,q,rfl,hr,q1,c,e⟩:=rep_0.mp h;obtain⟨T,B,b0,e',h1,h2⟩:=l rfl;obtain⟨a1,a2⟩:=zzq q1 c b0 (zp6 e e');exact⟨r,p,q,Z,hr,q1,c,e,Yp a1 h1,Yp a2 h2⟩
theorem zg5[Chr 0 F]{H:Hp}{r:Addr}{x:F}{t b:Int}(hb:b≠0)(hr:H r=some (.tup [.int (fT t b),.int (fB t b)]))(e:x*ic b=ic t):Rep 0 H (.ref r) x:=by
 refine rep_0.mpr ⟨r,_,_,Z,hr,zqt hb,zw3 hb,?_⟩;have c:=zlh (t:=t) hb;have c2:ic (F:=F) (fT t b)*ic b=ic t*ic (fB t b):=by rw[<- za3,<- za3,c]
 have nz:ic (F:=F) b≠0:=zfr hb;rw[<- e]at c2;grind
theorem Lim.of{k:Nat}{x:F}{T B:Int}(b0:B≠0)(e:x*ic B=ic T)(h1:T.natAbs<2^k)(h2:B.natAbs<2^k):Lim n k x:=λ_=>⟨T,B,b0,e,h1,h2⟩
theorem Lim.zero'{k:Nat}{x:F}(h:Lim n k x):Lim n k (0:F):=λz=>by
 obtain⟨T,B,b0,e,h1,h2⟩:=h z;exact⟨0,B,b0,by rw[zb8];grind,Nat.two_pow_pos k,h2⟩
theorem Lim.neg{k:Nat}{x:F}(h:Lim n k x):Lim n k (-x):=λz=>by
 obtain⟨T,B,b0,e,h1,h2⟩:=h z;exact⟨-T,B,b0,by rw[zoz,<- e];grind,by rw[Int.natAbs_neg];exact h1,h2⟩
theorem Lim.mul[Chr n F]{k j:Nat}{x y:F}(h:Lim n k x)(h':Lim n j y):Lim n (k+j) (x*y):=λz=>by
 obtain⟨T,B,b0,e,h1,h2⟩:=h z;obtain⟨T',B',b0',e',h1',h2'⟩:=h' z;refine⟨T*T',B*B',(by intro q;rcases Int.mul_eq_zero.mp q with q | q;exact b0 q;exact b0' q),by rw[za3,za3,<- e,<- e'];grind,?_,?_⟩
 ·rw[Int.natAbs_mul,Nat.pow_add];exact Nat.mul_lt_mul'' h1 h1'
 ·rw[Int.natAbs_mul,Nat.pow_add];exact Nat.mul_lt_mul'' h2 h2'
end
end G
namespace G
open L2 PySem K1 K2 K3 K6 K8 K37
section
variable{F:Type}[Lean.Grind.Field F]{n:Int}{rk:List Int->List Int}{m k:Nat}
structure LdsOk(rk:List Int->List Int)(m k:Nat)(gs:Nat->Po F)(lds:List (Nat×List Int)):Prop where
 sp:∀i,Spt m (gs i)
 inc:lds.Pairwise λa b=>a.1<b.1
 ld:∀i l,(i,l)∈lds->i<k/\Ld rk (gs i) l
 all:∀i t,i<k->gs i t≠0->∃l,(i,l)∈lds
theorem LdsOk.t0{gs:Nat->Po F}{lds:List (Nat×List Int)}(L:LdsOk rk m k gs lds){i:Nat}{l:List Int}(h:(i,l)∈lds):T0 m l:=L.sp i l (L.ld i l h).2.1
theorem LdsOk.one{gs:Nat->Po F}{lds:List (Nat×List Int)}(L:LdsOk rk m k gs lds){i:Nat}{l l':List Int}(h:(i,l)∈lds)(h':(i,l')∈lds):l=l':=(L.ld i l h).2.one (L.ld i l' h').2
structure FitL(lds:List (Nat×List Int))(t:List Int)(i:Nat)(l:List Int):Prop where
 mem:(i,l)∈lds
 goes:zcw l t=true
 first:∀p∈lds,p.1<i->zcw p.2 t=false
structure DvI(rk:List Int->List Int)(m k:Nat)(φ : Po F)(gs:Nat->Po F)(lds:List (Nat×List Int))(U us Dn:List (List Int))(q:Nat->Po F)(S:Nat->List (List Int))(ρ lf:Po F):Prop where
 eq:∀t,φ t=sm (λi=>mul (S i) (q i) (gs i) t) (List.range k) + ρ t+lf t
 sup:∀i t,t∈S i↔q i t≠0
 snd:∀i,(S i).Nodup
 lft:∀t,lf t≠0->t∈us
 srt:us.Pairwise (lt rk)
 ord:∀d∈Dn,∀u∈us,lt rk u d
 dnd:Dn.Nodup
 inU:∀t,t∈us\/t∈Dn->t∈U/\T0 m t
 le:∀t,t∈us\/t∈Dn->∃u,φ u≠0/\(t=u\/lt rk t u)
 qi:∀i o,q i o≠0->T0 m o/\∃l,FitL lds (addT o l) i l/\addT o l∈Dn
 ri:∀t,ρ t≠0->t∈Dn/\∀p∈lds,zcw p.2 t=false
variable{φ : Po F}{gs:Nat->Po F}{lds:List (Nat×List Int)}{U us Dn:List (List Int)}{q:Nat->Po F}{S:Nat->List (List Int)}{ρ lf:Po F}
theorem zf6{us:List (List Int)}{t:List Int}(h:(us++[t]).Pairwise (lt rk)):us.Pairwise (lt rk)/\∀u∈us,lt rk u t:=by
 rw[List.pairwise_append]at h;exact⟨h.1,λu hu=>h.2.2 u hu t (by simp)⟩
theorem mem_sn{α : Type}{t u : α}{us:List α}:u∈us++[t]↔u∈us\/u=t:=by simp
theorem DvI.base(I:DvI rk m k φ gs lds U (us++[t]) Dn q S ρ lf):us.Pairwise (lt rk)/\(∀d∈Dn++[t],∀u∈us,lt rk u d)/\(Dn++[t]).Nodup/\(∀z,z∈us\/z∈Dn++[t]->z∈U/\T0 m z)/\(∀z,z∈us\/z∈Dn++[t]->∃u,φ u≠0/\(z=u\/lt rk z u))/\t ∉ Dn:=by
 have tn:t ∉ Dn:=λh=>lt_irrefl (I.ord t h t (by simp))
 have w:∀z,z∈us\/z∈Dn++[t]->z∈us++[t]\/z∈Dn:=λz h=>by
  simp only[List.mem_append,List.mem_singleton]at h ⊢
  rcases h with h | h | h
  ·exact .inl (.inl h)
  ·exact .inr h
  ·exact .inl (.inr h)
 refine⟨(zf6 I.srt).1,λd hd u hu=>?_,?_,λz h=>I.inU z (w z h),λz h=>I.le z (w z h),tn⟩
 ·rcases mem_sn.mp hd with h | rfl
  ·exact I.ord d h u (by simp[hu])
  ·exact(zf6 I.srt).2 u hu
 ·rw[List.nodup_append];refine⟨I.dnd,by simp,λa ha b hb e=>?_⟩;rw[Yq]at hb;subst hb e;exact tn ha
theorem DvI.skip(I:DvI rk m k φ gs lds U (us++[t]) Dn q S ρ lf)(h:lf t=0):DvI rk m k φ gs lds U us (Dn++[t]) q S ρ lf:=by
 obtain⟨b1,b2,b3,b4,b5,tn⟩:=I.base;refine⟨I.eq,I.sup,I.snd,λz hz=>?_,b1,b2,b3,b4,b5,λi o ho=>?_,λz hz=>⟨by simp[(I.ri z hz).1],(I.ri z hz).2⟩⟩
 ·rcases mem_sn.mp (I.lft z hz) with q | rfl
  ·exact q
  ·exact absurd h hz
 ·obtain⟨o0,l,f,d⟩:=I.qi i o ho;exact⟨o0,l,f,by simp[d]⟩
theorem DvI.lead(I:DvI rk m k φ gs lds U (us++[t]) Dn q S ρ lf)(h:lf t≠0):Ld rk lf t:=⟨h,λz hz=>by
 rcases mem_sn.mp (I.lft z hz) with q | q
 ·exact .inr ((zf6 I.srt).2 z q)
 ·exact .inl q⟩
theorem DvI.rest(I:DvI rk m k φ gs lds U (us++[t]) Dn q S ρ lf)(h:lf t≠0)(nf:∀p∈lds,zcw p.2 t=false):DvI rk m k φ gs lds U us (Dn++[t]) q S (setP ρ t (lf t)) (setP lf t 0):=by
 obtain⟨b1,b2,b3,b4,b5,tn⟩:=I.base;have r0 : ρ t=0:=Classical.byContradiction λz=>tn (I.ri t z).1
 refine⟨λz=>?_,I.sup,I.snd,λz hz=>?_,b1,b2,b3,b4,b5,λi o ho=>?_,λz hz=>?_⟩
 ·rw[I.eq z];by_cases c:z=t
  ·subst c;rw[zdu,zdu,r0];grind
  ·rw[zbo c,zbo c]
 ·by_cases c:z=t
  ·subst c;rw[zdu]at hz;exact absurd rfl hz
  ·rw[zbo c]at hz;exact(mem_sn.mp (I.lft z hz)).resolve_right c
 ·obtain⟨o0,l,f,d⟩:=I.qi i o ho;exact⟨o0,l,f,by simp[d]⟩
 ·by_cases c:z=t
  ·subst c;exact⟨by simp,nf⟩
  ·rw[zbo c]at hz;exact⟨by simp[(I.ri z hz).1],(I.ri z hz).2⟩
def upN{α : Type}(f:Nat->α)(i:Nat)(x : α):Nat->α:=λj=>if j=i then x else f j
theorem zg2{α : Type}{f:Nat->α}{i:Nat}{x : α}:upN f i x i=x:=Yl rfl
theorem zd8{α : Type}{f:Nat->α}{i j:Nat}{x : α}(h:j≠i):upN f i x j=f j:=Yh h
theorem zu0{S:List (List Int)}{q g:Po F}{o:List Int}{x:F}(h:o ∉ S)(t:List Int):mul (S++[o]) (setP q o x) g t=mul S q g t+x*sh o g t:=by
 unfold mul;rw[zk7,zdu,zg9 λa ha=>?_];rw[zbo λe=>h (by rw[<- e];exact ha)]
theorem DvI.quot(O:OrdM rk m)(L:LdsOk rk m k gs lds)(I:DvI rk m k φ gs lds U (us++[t]) Dn q S ρ lf)(h:lf t≠0){i:Nat}{l:List Int}(ft:FitL lds t i l){x:F}(hx:x*gs i l=lf t)
  {us':List (List Int)} (hU:∀u,gs i u≠0->addT (subT t l) u∈U) (srt:us'.Pairwise (lt rk)) (mem:∀z,z∈us'↔z∈us\/(sh (subT t l) (gs i) z≠0/\z ∉ us/\z ∉ Dn++[t])) :
  DvI rk m k φ gs lds U us' (Dn++[t]) (upN q i (setP (q i) (subT t l) x)) (upN S i (S i++[subT t l])) ρ (λz=>lf z-x*sh (subT t l) (gs i) z):=by
 obtain⟨b1,b2,b3,b4,b5,tn⟩:=I.base;have tt:=I.inU t (.inl (by simp));have l0:=L.t0 ft.mem;have ⟨ik,hl⟩:=L.ld i l ft.mem;have o0:=T0.sub tt.2 l0 ft.goes;have e0:addT (subT t l) l=t:=by rw[zis (by rw[o0.len,l0.len])];exact zgl (by rw[tt.2.len,l0.len])
 have x0:x≠0:=by rintro rfl;apply h;rw[<- hx];grind
 have oS:subT t l ∉ S i:=λz=>by
  obtain⟨_,l',f,d⟩:=I.qi i _ ((I.sup i _).mp z);rw[L.one f.mem ft.mem,e0]at d;exact tn d
 have lds:=Ld.sh O (L.sp i) o0 hl;rw[e0]at lds;have below:∀z,sh (subT t l) (gs i) z≠0->T0 m z/\z∈U/\(z=t\/lt rk z t):=λz hz=>by
  obtain⟨z0,_,nz,e⟩:=zvh o0 (L.sp i) hz;exact⟨z0,by rw[e];exact hU _ nz,lds.2 z hz⟩
 have ord':∀d∈Dn++[t],d=t\/lt rk t d:=λd hd=>by
  rcases mem_sn.mp hd with q | q
  ·exact .inr (I.ord d q t (by simp))
  ·exact .inl q
 have nw:∀z∈us',z ∉ us->T0 m z/\z∈U/\lt rk z t:=λz hz nz=>by
  rcases(mem z).mp hz with q | ⟨q,_,q2⟩
  ·exact absurd q nz
  ·obtain⟨z0,zU,c⟩:=below z q;exact⟨z0,zU,c.resolve_left λe=>q2 (by simp[e])⟩
 refine⟨λz=>?_,λj z=>?_,λj=>?_,λz hz=>?_,srt,λd hd u hu=>?_,b3,λz hz=>?_,λz hz=>?_,λj o ho=>?_,λz hz=>⟨by simp[(I.ri z hz).1],(I.ri z hz).2⟩⟩
 ·rw[I.eq z];have e1:sm (λj=>mul (upN S i (S i++[subT t l]) j) (upN q i (setP (q i) (subT t l) x) j) (gs j) z) (List.range k)=sm (λj=>mul (S j) (q j) (gs j) z) (List.range k)+x*sh (subT t l) (gs i) z:=by
   have im:i∈List.range k:=List.mem_range.mpr ik;rw[zjj im,zjj (φ:=λj=>mul (S j) (q j) (gs j) z) im,zg2,zg2,zu0 oS];have:sm (λj=>mul (upN S i (S i++[subT t l]) j) (upN q i (setP (q i) (subT t l) x) j) (gs j) z) ((List.range k).erase i)=sm (λj=>mul (S j) (q j) (gs j) z) ((List.range k).erase i):=zg9 λj hj=>by
    have ne:=((List.Nodup.mem_erase_iff List.nodup_range).mp hj).1;rw[zd8 ne,zd8 ne]
   rw[this];grind
  rw[e1];grind
 ·by_cases c:j=i
  ·subst c;rw[zg2,zg2,mem_sn];by_cases d:z=subT t l
   ·rw[d,zdu];exact⟨λ_=>x0,λ_=>.inr rfl⟩
   ·rw[zbo d,I.sup j z];exact⟨λh=>h.resolve_right d,.inl⟩
  ·rw[zd8 c,zd8 c];exact I.sup j z
 ·by_cases c:j=i
  ·subst c;rw[zg2,List.nodup_append];refine⟨I.snd j,by simp,λa ha b hb e=>?_⟩;rw[Yq]at hb;subst hb e;exact oS ha
  ·rw[zd8 c];exact I.snd j
 ·by_cases c:lf z=0
  ·have s0:sh (subT t l) (gs i) z≠0:=by intro e;apply hz;rw[c,e];grind
   rw[mem z];by_cases d:z∈us
   ·exact .inl d
   ·refine .inr ⟨s0,d,λhd=>?_⟩;rcases(below z s0).2.2 with q | q
    ·subst q;exact h c
    ·rcases ord' z hd with q' | q'
     ·subst q';exact h c
     ·exact zdr q q'
  ·rcases mem_sn.mp (I.lft z c) with d | d
   ·exact(mem z).mpr (.inl d)
   ·exfalso;apply hz;subst d;rw[show sh (subT z l) (gs i) z=gs i l from by rw[<- zs1 (φ:=gs i) (by rw[o0.len,l0.len]),e0],hx];grind
 ·by_cases c:u∈us
  ·exact b2 d hd u c
  ·have:=(nw u hu c).2.2;rcases ord' d hd with q' | q'
   ·rw[q'];exact this
   ·exact lt_trans this q'
 ·by_cases c:z∈us
  ·exact b4 z (.inl c)
  ·rcases hz with q | q
   ·exact⟨(nw z q c).2.1,(nw z q c).1⟩
   ·exact b4 z (.inr q)
 ·by_cases c:z∈us
  ·exact b5 z (.inl c)
  ·rcases hz with q | q
   ·obtain⟨u,hu,w⟩:=b5 t (.inr (by simp));refine⟨u,hu,.inr ?_⟩;rcases w with w | w
    ·rw[<- w];exact(nw z q c).2.2
    ·exact lt_trans (nw z q c).2.2 w
   ·exact b5 z (.inr q)
 ·by_cases c:j=i
  ·subst c;rw[zg2]at ho;by_cases d:o=subT t l
   ·subst d;exact⟨o0,l,by rw[e0];exact ft,by rw[e0];simp⟩
   ·rw[zbo d]at ho;obtain⟨o0,l,f,d⟩:=I.qi j o ho;exact⟨o0,l,f,by simp[d]⟩
  ·rw[zd8 c]at ho;obtain⟨o0,l,f,d⟩:=I.qi j o ho;exact⟨o0,l,f,by simp[d]⟩
end
end G
namespace G
open L2 PySem K1 K2 K3 K6 K8 K37
section
variable{F:Type}[Lean.Grind.Field F]{n:Int}{rk:List Int->List Int}{m k:Nat}
structure Dvd(rk:List Int->List Int)(m k:Nat)(φ : Po F)(gs:Nat->Po F)(lds:List (Nat×List Int))(q:Nat->Po F)(S:Nat->List (List Int))(ρ : Po F)(R:List (List Int)):Prop where
 eq:∀t,φ t=sm (λi=>mul (S i) (q i) (gs i) t) (List.range k) + ρ t
 sup:∀i t,q i t≠0->t∈S i
 snd:∀i,(S i).Nodup
 rs:∀t,ρ t≠0->t∈R
 qi:∀i o,q i o≠0->T0 m o/\∃l,FitL lds (addT o l) i l
 ri:∀t,ρ t≠0->T0 m t/\∀p∈lds,zcw p.2 t=false
variable{φ : Po F}{gs:Nat->Po F}{lds:List (Nat×List Int)}
end
end G
namespace G
open L2 PySem K1 K2 K3 K6 K8 K37
def Kp(A:List Addr)(H H':Hp):Prop:=∀b o,H b=some o->b ∉ A->H' b=some o
theorem Kp.of{A:List Addr}{H H':Hp}(e:Same H H'):Kp A H H':=λb o h _=>e b o h
theorem Kp.tr{A:List Addr}{H H1 H2:Hp}(h:Kp A H H1)(h':Kp A H1 H2):Kp A H H2:=λb o q nb=>h' b o (h b o q nb) nb
theorem Kp.upd{A:List Addr}{H:Hp}{a:Addr}{o:HO}(h:a∈A):Kp A H (upd H a o):=λb u q nb=>(zai (λe=>nb (by rw[e];exact h))).trans q
theorem Kp.refl(A:List Addr)(H:Hp):Kp A H H:=λ_ _ h _=>h
def Fix(H H':Hp):Prop:=∀b o,H b=some o->(∀kv,o≠.dT kv)->(∀ys,o≠.lst ys)->(∀q u,o≠.frz q u)->H' b=some o
theorem Fix.of{H H':Hp}(e:Same H H'):Fix H H':=λb o h _ _ _=>e b o h
theorem Fix.tr{H H1 H2:Hp}(h:Fix H H1)(h':Fix H1 H2):Fix H H2:=λb o q a c d=>h' b o (h b o q a c d) a c d
theorem Fix.tup{H H':Hp}(h:Fix H H'):∀b xs,H b=some (.tup xs)->H' b=some (.tup xs):=λb xs q=>h b _ q (λ_ z=>by cases z) (λ_ z=>by cases z) (λ_ _ z=>by cases z)
theorem Fix.ins{H H':Hp}(h:Fix H H'){b C dx:Addr}{fs:List (Str×V)}(q:H b=some (.ins C dx fs)):H' b=some (.ins C dx fs):=h b _ q (λ_ z=>by cases z) (λ_ z=>by cases z) (λ_ _ z=>by cases z)
theorem Kp.fix{A:List Addr}{H H':Hp}(h:Kp A H H')(hA:∀a∈A,∀o,H a=some o->(∃kv,o=.dT kv)\/(∃ys,o=.lst ys)\/∃q u,o=.frz q u):Fix H H':=λb o q a c d=>h b o q λz=>by
 rcases hA b z o q with⟨_,e⟩ | ⟨_,e⟩ | ⟨_,_,e⟩
 ·exact a _ e
 ·exact c _ e
 ·exact d _ _ e
theorem zbz{H:Hp}{d:Addr}{kv:List (List Key×V)}{o:HO}(hd:H d=some (.dT kv)):Fix H (upd H d o):=λb u q a _ _=>(zai λe=>by subst e;rw[hd]at q;injection q with q;exact a _ q.symm).trans q
theorem zgb{H:Hp}{d:Addr}{ys:List V}{o:HO}(hd:H d=some (.lst ys)):Fix H (upd H d o):=λb u q _ a _=>(zai λe=>by subst e;rw[hd]at q;injection q with q;exact a _ q.symm).trans q
theorem zf8{H:Hp}{d:Addr}{q:HO}{u:HO}{o:HO}(hd:H d=some q)(hq:(∃kv,q=.dT kv)\/(∃ys,q=.lst ys)\/∃x y,q=.frz x y):Fix H (upd H d o):=λb u h a c e=>(zai λz=>by
 subst z;rw[hd]at h;injection h with h;subst h
 rcases hq with⟨_,r⟩ | ⟨_,r⟩ | ⟨_,_,r⟩
 ·exact a _ r
 ·exact c _ r
 ·exact e _ _ r).trans h
section
variable{F:Type}[Lean.Grind.Field F]{n:Int}{m:Nat}{H H':Hp}
theorem Rep.fix{v:V}{x:F}(e:Fix H H')(h:Rep n H v x):Rep n H' v x:=h.keep e.tup
theorem PF.fix{kvs:List (List Key×V)}{φ : Po F}(e:Fix H H')(h:PF n m H kvs φ):PF n m H' kvs φ:=h.keep e.tup
theorem zk3[Chr n F]{K:W.Frag}{v u:V}{x y:F}(hx:Rep n H v x)(hy:Rep n H u y):∃d e,Rds K H v d/\Rds K H u e/\SeqAt.shaped d=true/\SeqAt.shaped e=true/\((x=y/\PyData.eqv d e=true)\/(x≠y/\PyData.eqv d e=false)):=by
 obtain⟨d,rd,nd,r⟩:=hx.rd (K:=K);obtain⟨e,re,ne,r'⟩:=hy.rd (K:=K);refine⟨d,e,rd,re,nd.shaped,ne.shaped,?_⟩
 cases q:PyData.eqv d e with
 | true=>exact .inl ⟨(RD.eq r r').mp q,rfl⟩
 | false=>exact .inr ⟨(λz=>by rw[(RD.eq r r').mpr z]at q;cases q),rfl⟩
def cutP(ψ : Po F)(S:List (List Int)):Po F:=λt=>if t∈S then ψ t else 0
theorem zjk{ψ : Po F}:cutP ψ []=λ_=>0:=funext λt=>by unfold cutP;rw[Yh (by simp)]
theorem zi9{ψ : Po F}{S:List (List Int)}(h:∀t,ψ t≠0->t∈S):cutP ψ S = ψ:=funext λt=>by
 unfold cutP;by_cases c:t∈S
 ·rw[Yl c]
 ·rw[Yh c];exact(Classical.byContradiction λz=>c (h t λq=>z q.symm))
theorem zqr{ψ : Po F}{S:List (List Int)}{t:List Int}(h:t∈S):cutP ψ S t = ψ t:=Yl h
theorem zmf{ψ : Po F}{S:List (List Int)}{t:List Int}(h:t ∉ S):cutP ψ S t=0:=Yh h
theorem zkq{ψ : Po F}{S:List (List Int)}{t u:List Int}(h:t≠u):cutP ψ (S++[u]) t=cutP ψ S t:=by
 unfold cutP;by_cases c:t∈S
 ·rw[Yl c,Yl (by simp[c])]
 ·rw[Yh c,Yh (by simp[c,h])]
theorem zmh{φ ψ : Po F}{S:List (List Int)}{u:List Int}:setP (λt=>φ t+cutP ψ S t) u (φ u + ψ u)=λt=>φ t+cutP ψ (S++[u]) t:=funext λt=>by
 by_cases c:t=u
 ·subst c;rw[zdu,zqr (by simp)]
 ·rw[zbo c,zkq c]
theorem zjy{x:F}{l:List Int}{ψ : Po F}{S:List (List Int)}{u:List Int}(hu:u.length=l.length):setP (λt=>x*sh l (cutP ψ S) t) (addT l u) (x * ψ u)=λt=>x*sh l (cutP ψ (S++[u])) t:=funext λt=>by
 by_cases c:t=addT l u
 ·subst c;rw[zdu,zs1 hu,zqr (by simp)]
 ·rw[zbo c];by_cases d:t.length=l.length
  ·rw[zwt d,zwt d,zkq λe=>c (by rw[<- e];exact(zgl d).symm)]
  ·unfold sh;rw[Yh d,Yh d]
theorem zvy{ts:List (List Int)}{i:Nat}{t:List Int}(h:ts.Nodup)(hi:ts[i]? = some t):t ∉ ts.take i:=zwf h hi
theorem zd0(kvs:List (List Key×V)):(tms kvs).length=kvs.length:=Yd _
end
end G
namespace G
open L2 PySem K1 K2 K3 K6 K8 K37
section
variable{F:Type}[Lean.Grind.Field F]{n:Int}{rk:List Int->List Int}{m k:Nat}{φ : Po F}{gs:Nat->Po F}{lds:List (Nat×List Int)}{U us Dn:List (List Int)}{q:Nat->Po F}{S:Nat->List (List Int)}{ρ lf:Po F}
theorem DvI.start(hs:us.Pairwise (lt rk))(hu:∀z,z∈us↔φ z≠0)(h0:∀z∈us,z∈U/\T0 m z):DvI rk m k φ gs lds U us [] (λ_ _=>0) (λ_=>[]) (λ_=>0) φ:=by
 refine⟨λt=>?_,λi t=>?_,λi=>List.nodup_nil,λt ht=>(hu t).mpr ht,hs,(λd hd=>by cases hd),List.nodup_nil,λt ht=>?_,λt ht=>?_,λi o ho=>absurd rfl ho,λt ht=>absurd rfl ht⟩
 ·rw[zi6 λi _=>by unfold mul;exact zi6 λo ho=>by cases ho];grind
 ·exact⟨λh=>(by cases h),λh=>absurd rfl h⟩
 ·rcases ht with h | h
  ·exact h0 t h
  ·cases h
 ·rcases ht with h | h
  ·exact⟨t,(hu t).mp h,.inl rfl⟩
  ·cases h
theorem DvI.done(I:DvI rk m k φ gs lds U [] Dn q S ρ lf):∀t,lf t=0:=λt=>Classical.byContradiction λh=>by have:=I.lft t h;cases this
theorem DvI.dvd(I:DvI rk m k φ gs lds U [] Dn q S ρ lf):Dvd rk m k φ gs lds q S ρ Dn:=by
 refine⟨λt=>?_,λi t h=>(I.sup i t).mpr h,I.snd,λt h=>(I.ri t h).1,λi o h=>?_,λt h=>⟨(I.inU t (.inr (I.ri t h).1)).2,(I.ri t h).2⟩⟩
 ·rw[I.eq t,I.done t];grind
 ·obtain⟨a,l,f,_⟩:=I.qi i o h;exact⟨a,l,f⟩
theorem z0b(I:DvI rk m k φ gs lds U (us++[t]) Dn q S ρ lf):Dn.length<U.length:=by
 obtain⟨_,_,b3,b4,_⟩:=I.base;have:=zcc b3 λa ha=>(b4 a (.inr ha)).1
 rw[Y6]at this;simp at this;omega
theorem z0y(I:DvI rk m k φ gs lds U us Dn q S ρ lf):Dn.length<=U.length:=zcc I.dnd λa ha=>(I.inU a (.inr ha)).1
end
end G
namespace G
open L2 PySem K1 K2 K3 K6 K8 K37
theorem zzl{a b:Int}(hb:0<b):gI b (Int.fmod a b)=gI a b:=by
 unfold gI;congr 1;have e:a.fmod b=a-b*a.fdiv b:=Int.fmod_def a b;apply Nat.dvd_antisymm
 ·refine Int.natCast_dvd_natCast.mp (Int.dvd_coe_gcd ?_ (Int.gcd_dvd_left b (a.fmod b)));have h1:=Int.gcd_dvd_left b (a.fmod b);have h2:=Int.gcd_dvd_right b (a.fmod b);have:a=a.fmod b+b*a.fdiv b:=by omega
  rw[this];exact Int.dvd_add (by rw[<- this];exact h2) (Int.dvd_trans (by rw[<- this];exact h1) (Int.dvd_mul_right _ _))
 ·refine Int.natCast_dvd_natCast.mp (Int.dvd_coe_gcd (Int.gcd_dvd_right a b) ?_);rw[e];exact Int.dvd_sub (Int.gcd_dvd_left a b) (Int.dvd_trans (Int.gcd_dvd_right a b) (Int.dvd_mul_right _ _))
section
variable{F:Type}[Lean.Grind.Field F]{n:Int}
theorem zw5[Chr 0 F]{t b:Int}(hb:b≠0):∃x:F,x*ic b=ic t:=by
 have nz:ic (F:=F) b≠0:=zfr hb;exact⟨ic t*(ic b)⁻¹,by grind⟩
theorem zri[Chr 0 F]{H:Hp}{r:Addr}{x:F}{t b:Int}(hb:1<=b)(hr:H r=some (.tup [.int (t.fdiv (gI t b)),.int (b.fdiv (gI t b))]))(e:x*ic b=ic t):Rep 0 H (.ref r) x:=by
 refine zg5 (t:=t) (b:=b) (by omega) ?_ e;unfold fT fB dv;rw[Yh (by omega)];exact hr
theorem zkr{φ : Po F}{x:F}{l:List Int}{ψ : Po F}{S:List (List Int)}{u:List Int}(hu:u.length=l.length):setP (λt=>φ t+x*sh l (cutP ψ S) t) (addT l u) (φ (addT l u)+x * ψ u)=λt=>φ t+x*sh l (cutP ψ (S++[u])) t:=funext λt=>by
 have e:=congrFun (zjy (x:=x) (ψ:=ψ) (S:=S) hu) t;by_cases c:t=addT l u
 ·subst c;rw[zdu]at e ⊢;rw[e]
 ·rw[zbo c]at e ⊢;rw[e]
theorem zl4{m:Nat}{l y:List Int}(h:l.length=m)(h':y.length=m):(List.range m).map (λi=>V.int (l.getD i 0+y.getD i 0))=(addT l y).map V.int:=by
 refine List.ext_getElem (by simp[addT,h,h']) λi h1 h2=>?_
 have h3:i<m:=by simpa using h1
 simp[addT,List.getD,h,h',h3]
theorem zr4(kv:List (List Key×V))(k:List Key)(v:V):ze0 (putK kv k v) k=ze0 kv k:=by
 have key:∀l:List (List Key×V),(l.map λkv=>if kv.1=k then(kv.1,v) else kv).filter (λkv=>decide (kv.1≠k))=l.filter λkv=>decide (kv.1≠k):=λl=>by
  induction l with
  | nil=>rfl
  | cons q l ih=>
   rw[Yz,List.filter_cons,List.filter_cons,ih];by_cases c:q.1=k
   ·simp[c]
   ·simp[c]
 unfold putK;split
 ·unfold ze0;exact key kv
 ·unfold ze0;rw[List.filter_append];simp
end
end G
namespace G
open L2 PySem K1 K2 K3 K6 K8 K37
section
variable{F:Type}[Lean.Grind.Field F]{n:Int}
theorem zel{a b:Int}{k j:Nat}(h:a.natAbs<2^k)(h':b.natAbs<2^j):(a*b).natAbs<2^(k+j):=by
 rw[Int.natAbs_mul,Nat.pow_add];exact Nat.mul_lt_mul'' h h'
end
end G
namespace G
open L2 PySem K1 K2 K3 K6 K8 K37
section
variable{F:Type}[Lean.Grind.Field F]{n:Int}{rk:List Int->List Int}{m k:Nat}
theorem ztz{α β : Type}{f : α->β}:∀{l:List α},(l.map f).Nodup->∀a∈l,∀b∈l,f a=f b->a=b
 | x::l,h,a,ha,b,hb,e=>by
  rw[Yz,List.nodup_cons]at h;rcases Yj.mp ha with rfl | ha'
  ·rcases Yj.mp hb with rfl | hb'
   ·rfl
   ·exact absurd (Jj.mpr ⟨b,hb',e.symm⟩) h.1
  ·rcases Yj.mp hb with rfl | hb'
   ·exact absurd (Jj.mpr ⟨a,ha',e⟩) h.1
   ·exact ztz h.2 a ha' b hb' e
end
end G
namespace G
open L2 PySem K1 K2 K3 K6 K8 K37
section
variable{rk:List Int->List Int}
def dot(α t:List Int):Int:=(List.zipWith (λa b=>a*b) α t).sum
theorem dot1(a x:Int):dot [a] [x]=a*x:=by simp[dot]
theorem dot2(a b x y:Int):dot [a,b] [x,y]=a*x+b*y:=by simp[dot]
theorem dot3(a b c x y z:Int):dot [a,b,c] [x,y,z]=a*x+(b*y+c*z):=by simp[dot]
def chk2(p q:Nat)(c:Nat->Nat->Bool):Bool:=[1,2,3].all λa=>[1,2,3].all λb=>if c a b then decide (q*b<=p*a) else decide (p*a<=q*b)
def tb9(x11 x12 x13 x21 x22 x23 x31 x32 x33:Bool)(a b:Nat):Bool:=match a,b with
 | 1,1=>x11 | 1,2=>x12 | 1,3=>x13 | 2,1=>x21 | 2,2=>x22 | 2,3=>x23 | 3,1=>x31 | 3,2=>x32 | 3,3=>x33 | _,_=>false
theorem tab2:∀x11 x12 x13 x21 x22 x23 x31 x32 x33:Bool,((!x11||x21)&&(!x21||x31)&&(!x12||x22)&&(!x22||x32)&&(!x13||x23)&&(!x23||x33)&&(!x12||x11)&&(!x13||x12)&&(!x22||x21)&&(!x23||x22)&&(!x32||x31)&&(!x33||x32)&&(x11 == x22)&&(x11 == x33)&&(x21 || !x32)&&(!x12||x23))=true ->
  ([(1,3),(1,2),(1,1),(2,1),(3,1)].any λp=>chk2 p.1 p.2 (tb9 x11 x12 x13 x21 x22 x23 x31 x32 x33))=true:=by decide +kernel
theorem t2(a b:Nat):T0 2 [(a:Int),(b:Int)]:=T0.of rfl λx hx=>by
 simp at hx
 rcases hx with rfl | rfl <;> omega
theorem zpo(O:OrdM rk m){a b c d:List Int}(ha:a.length=m)(hb:b.length=m)(hc:c.length=m)(hd:d.length=m)(h:lt rk a b)(h':lt rk c d):lt rk (addT a c) (addT b d):=
 lt_trans ((zec O ha hb hc).mpr h) ((zk0 O hc hd hb).mpr h')
theorem zze(O:OrdM rk 2):∃p q:Nat,1<=p/\1<=q/\p+q<=4/\∀a b:Nat,1<=a->a<=3->1<=b->b<=3->(lt rk [0,(b:Int)] [(a:Int),0]->q*b<=p*a)/\(lt rk [(a:Int),0] [0,(b:Int)]->p*a<=q*b):=by
 let c:Nat->Nat->Bool:=λa b=>HT.lexLt (rk [0,(b:Int)]) (rk [(a:Int),0])
 have ct:∀{a b:Nat},c a b=true->lt rk [0,(b:Int)] [(a:Int),0]:=λh=>h
 have cf:∀{a b:Nat},1<=a->c a b=false->lt rk [(a:Int),0] [0,(b:Int)]:=fun{a b} ha h=>by
  rcases zmg O rfl rfl h with e | e
  ·injection e with e _;omega
  ·exact e
 have ctm:∀{a b:Nat},lt rk [0,(b:Int)] [(a:Int),0]->c a b=true:=λh=>h
 have cfm:∀{a b:Nat},lt rk [(a:Int),0] [0,(b:Int)]->c a b=false:=fun{a b} h=>by
  cases q:c a b with
  | false=>rfl
  | true=>exact(zdr h (ct q)).elim
 have up1:∀a:Nat,lt rk [(a:Int),0] [((a+1:Nat):Int),0]:=λa=>(zhx O (t2 a 0) (t2 (a+1) 0) (goesI_iff.mpr λi hi=>by
  match i with
  | 0=>show (a:Int)<=((a+1:Nat):Int);omega
  | 1=>exact Int.le_refl 0
  | i+2=>exact absurd (show i+2<2 from hi) (by omega))).resolve_left (by intro z;injection z with z _;omega)
 have up2:∀b:Nat,lt rk [0,(b:Int)] [0,((b+1:Nat):Int)]:=λb=>(zhx O (t2 0 b) (t2 0 (b+1)) (goesI_iff.mpr λi hi=>by
  match i with
  | 0=>exact Int.le_refl 0
  | 1=>show (b:Int)<=((b+1:Nat):Int);omega
  | i+2=>exact absurd (show i+2<2 from hi) (by omega))).resolve_left (by intro z;injection z with _ z;injection z with z _;omega)
 have m1:∀a b,(!c a b||c (a+1) b)=true:=λa b=>by
  cases q:c a b with
  | false=>rfl
  | true=>exact ctm (lt_trans (ct q) (up1 a))
 have m2:∀a b,(!c a (b+1)||c a b)=true:=λa b=>by
  cases q:c a (b+1) with
  | false=>rfl
  | true=>exact ctm (lt_trans (up2 b) (ct q))
 have ad:∀a b a' b',c a b=true->c a' b'=true->c (a+a') (b+b')=true:=λa b a' b' h h'=>by
  have:=zpo O rfl rfl rfl rfl (ct h) (ct h');refine ctm ?_;have e1:addT [0,(b:Int)] [0,(b':Int)]=[0,((b+b':Nat):Int)]:=by simp[addT]
  have e2:addT [(a:Int),0] [(a':Int),0]=[((a+a':Nat):Int),0]:=by simp[addT]
  rwa [e1,e2]at this
 have nd:∀a b a' b',1<=a->1<=a'->c a b=false->c a' b'=false->c (a+a') (b+b')=false:=λa b a' b' h1 h2 h h'=>by
  have:=zpo O rfl rfl rfl rfl (cf h1 h) (cf h2 h');refine cfm ?_;have e1:addT [0,(b:Int)] [0,(b':Int)]=[0,((b+b':Nat):Int)]:=by simp[addT]
  have e2:addT [(a:Int),0] [(a':Int),0]=[((a+a':Nat):Int),0]:=by simp[addT]
  rwa [e1,e2]at this
 have d2:(c 1 1 == c 2 2)=true:=by
  cases q:c 1 1 with
  | true=>rw[ad 1 1 1 1 q q];rfl
  | false=>rw[nd 1 1 1 1 (by decide) (by decide) q q];rfl
 have d3:(c 1 1 == c 3 3)=true:=by
  cases q:c 1 1 with
  | true=>rw[ad 1 1 2 2 q (ad 1 1 1 1 q q)];rfl
  | false=>rw[nd 1 1 2 2 (by decide) (by decide) q (nd 1 1 1 1 (by decide) (by decide) q q)];rfl
 have x1:(c 2 1 || !c 3 2)=true:=by
  cases q:c 2 1 with
  | true=>rfl
  | false=>
   have q1:c 1 1=false:=by
    have:=m1 1 1;rw[q]at this
    cases r:c 1 1 with
    | false=>rfl
    | true=>rw[r]at this;cases this
   rw[nd 2 1 1 1 (by decide) (by decide) q q1];rfl
 have x2:(!c 1 2||c 2 3)=true:=by
  cases q:c 1 2 with
  | false=>rfl
  | true=>
   have q1:c 1 1=true:=by
    have:=m2 1 1;rw[q]at this;simpa using this
   rw[ad 1 2 1 1 q q1];rfl
 have key:=tab2 (c 1 1) (c 1 2) (c 1 3) (c 2 1) (c 2 2) (c 2 3) (c 3 1) (c 3 2) (c 3 3) (by
  rw[m1 1 1,m1 2 1,m1 1 2,m1 2 2,m1 1 3,m1 2 3,m2 1 1,m2 1 2,m2 2 1,m2 2 2,m2 3 1,m2 3 2,d2,d3,x1,x2];rfl)
 obtain⟨pq,hm,hc⟩:=List.any_eq_true.mp key;have bnd:1<=pq.1/\1<=pq.2/\pq.1+pq.2<=4:=by
  simp at hm
  rcases hm with rfl | rfl | rfl | rfl | rfl <;> decide
 refine⟨pq.1,pq.2,bnd.1,bnd.2.1,bnd.2.2,λa b a1 a3 b1 b3=>?_⟩;unfold chk2 at hc;have ha:a∈[1,2,3]:=by simp;omega
 have hb:b∈[1,2,3]:=by simp;omega
 have h1:=List.all_eq_true.mp (List.all_eq_true.mp hc a ha) b hb;have et:tb9 (c 1 1) (c 1 2) (c 1 3) (c 2 1) (c 2 2) (c 2 3) (c 3 1) (c 3 2) (c 3 3) a b=c a b:=by
  rcases(by omega:a=1\/a=2\/a=3) with rfl | rfl | rfl <;> rcases(by omega:b=1\/b=2\/b=3) with rfl | rfl | rfl <;> rfl
 rw[et]at h1;constructor
 ·intro h;rw[ctm h]at h1;exact Jk h1
 ·intro h;rw[cfm h]at h1;exact Jk h1
def chk3(p q r:Nat)(xy xz yz x_yz y_xz z_xy:Bool):Bool:=
 (if xy then decide (q<=p) else decide (p<=q))&&(if xz then decide (r<=p) else decide (p<=r))&&(if yz then decide (r<=q) else decide (q<=r)) &&
 (if x_yz then decide (q+r<=p) else decide (p<=q+r))&&(if y_xz then decide (p+r<=q) else decide (q<=p+r))&&(if z_xy then decide (p+q<=r) else decide (r<=p+q))
theorem tab3:∀xy xz yz x_yz y_xz z_xy:Bool,((!(xy&&yz)||xz)&&(xy||yz || !xz)&&(!x_yz||(xy&&xz))&&(!y_xz||(!xy&&yz))&&(!z_xy||(!xz && !yz)))=true ->
  ([(1,1,1),(2,1,1),(1,2,1),(1,1,2)].any λp=>chk3 p.1 p.2.1 p.2.2 xy xz yz x_yz y_xz z_xy)=true:=by decide +kernel
theorem t3(a b c:Nat):T0 3 [(a:Int),(b:Int),(c:Int)]:=T0.of rfl λx hx=>by
 simp at hx
 rcases hx with rfl | rfl | rfl <;> omega
theorem le3(O:OrdM rk 3){a b c a' b' c':Nat}(h1:a<=a')(h2:b<=b')(h3:c<=c')(ne:a+b+c<a'+b'+c'):lt rk [(a:Int),(b:Int),(c:Int)] [(a':Int),(b':Int),(c':Int)]:=(zhx O (t3 a b c) (t3 a' b' c') (goesI_iff.mpr λi hi=>by
  match i with
  | 0=>show (a:Int)<=(a':Int);omega
  | 1=>show (b:Int)<=(b':Int);omega
  | 2=>show (c:Int)<=(c':Int);omega
  | i+3=>exact absurd (show i+3<3 from hi) (by omega))).resolve_left (by
   intro z;injection z with z1 z
   injection z with z2 z
   injection z with z3 z
   omega)
theorem zrl(O:OrdM rk 3):∃p q r:Nat,1<=p/\1<=q/\1<=r/\p+q+r<=4/\∀a b c a' b' c':Nat,a<=1->b<=1->c<=1->a'<=1->b'<=1->c'<=1->lt rk [(a:Int),(b:Int),(c:Int)] [(a':Int),(b':Int),(c':Int)]->p*a+(q*b+r*c)<=p*a'+(q*b'+r*c'):=by
 let L:List Int->List Int->Bool:=λs t=>HT.lexLt (rk s) (rk t)
 have cfL:∀{s t:List Int},s.length=3->t.length=3->s≠t->L s t=false->lt rk t s:=fun{s t} h1 h2 ne h=>by
  rcases zmg O h1 h2 h with e | e
  ·exact absurd e.symm ne
  ·exact e
 have key:=tab3 (L [0,1,0] [1,0,0]) (L [0,0,1] [1,0,0]) (L [0,0,1] [0,1,0]) (L [0,1,1] [1,0,0]) (L [1,0,1] [0,1,0]) (L [1,1,0] [0,0,1]);have hyp:((!(L [0,1,0] [1,0,0]&&L [0,0,1] [0,1,0])||L [0,0,1] [1,0,0])&&(L [0,1,0] [1,0,0]||L [0,0,1] [0,1,0] || !L [0,0,1] [1,0,0])&&(!L [0,1,1] [1,0,0]||(L [0,1,0] [1,0,0]&&L [0,0,1] [1,0,0]))&&(!L [1,0,1] [0,1,0]||(!L [0,1,0] [1,0,0]&&L [0,0,1] [0,1,0]))&&(!L [1,1,0] [0,0,1]||(!L [0,0,1] [1,0,0] && !L [0,0,1] [0,1,0])))=true:=by
  have f:∀{s t:List Int},lt rk t s->L s t=false:=fun{s t} h=>by
   cases q:L s t with
   | false=>rfl
   | true=>exact(zdr h q).elim
  have h1:(!(L [0,1,0] [1,0,0]&&L [0,0,1] [0,1,0])||L [0,0,1] [1,0,0])=true:=by
   cases p:L [0,1,0] [1,0,0]with
   | false=>rfl
   | true=>
    cases q:L [0,0,1] [0,1,0]with
    | false=>rfl
    | true=>exact lt_trans (rk:=rk) q p
  have h2:(L [0,1,0] [1,0,0]||L [0,0,1] [0,1,0] || !L [0,0,1] [1,0,0])=true:=by
   cases p:L [0,1,0] [1,0,0]with
   | true=>rfl
   | false=>
    cases q:L [0,0,1] [0,1,0]with
    | true=>rfl
    | false=>
     rw[f (lt_trans (cfL rfl rfl (by decide) p) (cfL rfl rfl (by decide) q))];rfl
  have a1:lt rk [0,1,0] [0,1,1]:=le3 O (a:=0) (b:=1) (c:=0) (a':=0) (b':=1) (c':=1) (by decide) (by decide) (by decide) (by decide);have a2:lt rk [0,0,1] [0,1,1]:=le3 O (a:=0) (b:=0) (c:=1) (a':=0) (b':=1) (c':=1) (by decide) (by decide) (by decide) (by decide);have a3:lt rk [1,0,0] [1,0,1]:=le3 O (a:=1) (b:=0) (c:=0) (a':=1) (b':=0) (c':=1) (by decide) (by decide) (by decide) (by decide);have a4:lt rk [0,0,1] [1,0,1]:=le3 O (a:=0) (b:=0) (c:=1) (a':=1) (b':=0) (c':=1) (by decide) (by decide) (by decide) (by decide);have a5:lt rk [1,0,0] [1,1,0]:=le3 O (a:=1) (b:=0) (c:=0) (a':=1) (b':=1) (c':=0) (by decide) (by decide) (by decide) (by decide);have a6:lt rk [0,1,0] [1,1,0]:=le3 O (a:=0) (b:=1) (c:=0) (a':=1) (b':=1) (c':=0) (by decide) (by decide) (by decide) (by decide);have h3:(!L [0,1,1] [1,0,0]||(L [0,1,0] [1,0,0]&&L [0,0,1] [1,0,0]))=true:=by
   cases p:L [0,1,1] [1,0,0]with
   | false=>rfl
   | true=>
    have q1:L [0,1,0] [1,0,0]=true:=lt_trans (rk:=rk) a1 p;have q2:L [0,0,1] [1,0,0]=true:=lt_trans (rk:=rk) a2 p;rw[q1,q2];rfl
  have h4:(!L [1,0,1] [0,1,0]||(!L [0,1,0] [1,0,0]&&L [0,0,1] [0,1,0]))=true:=by
   cases p:L [1,0,1] [0,1,0]with
   | false=>rfl
   | true=>
    have q1:L [0,1,0] [1,0,0]=false:=f (lt_trans (rk:=rk) a3 p);have q2:L [0,0,1] [0,1,0]=true:=lt_trans (rk:=rk) a4 p;rw[q1,q2];rfl
  have h5:(!L [1,1,0] [0,0,1]||(!L [0,0,1] [1,0,0] && !L [0,0,1] [0,1,0]))=true:=by
   cases p:L [1,1,0] [0,0,1]with
   | false=>rfl
   | true=>
    have q1:L [0,0,1] [1,0,0]=false:=f (lt_trans (rk:=rk) a5 p);have q2:L [0,0,1] [0,1,0]=false:=f (lt_trans (rk:=rk) a6 p);rw[q1,q2];rfl
  rw[h1,h2,h3,h4,h5];rfl
 obtain⟨pq,hm,hc⟩:=List.any_eq_true.mp (key hyp);have bnd:1<=pq.1/\1<=pq.2.1/\1<=pq.2.2/\pq.1+pq.2.1+pq.2.2<=4:=by
  simp at hm
  rcases hm with rfl | rfl | rfl | rfl <;> decide
 refine⟨pq.1,pq.2.1,pq.2.2,bnd.1,bnd.2.1,bnd.2.2.1,bnd.2.2.2,λa b c a' b' c' ha hb hc0 ha' hb' hc' h=>?_⟩;obtain⟨p,q,r⟩:=pq;simp only at hc bnd ⊢;unfold chk3 at hc;simp only[Bool.and_eq_true]at hc;obtain⟨⟨⟨⟨⟨c1,c2⟩,c3⟩,c4⟩,c5⟩,c6⟩:=hc;have ii:∀{x:Bool} {A B:Prop} [Decidable A] [Decidable B],(if x=true then decide A else decide B)=true->(x=true->A)/\(x=false->B):=fun{x A B _ _} h=>by
  cases x with
  | true=>exact⟨λ_=>Jk h,λz=>by cases z⟩
  | false=>exact⟨(λz=>by cases z),λ_=>Jk h⟩
 have c1:=ii c1;have c2:=ii c2;have c3:=ii c3;have c4:=ii c4;have c5:=ii c5;have c6:=ii c6;have f:∀{s t:List Int},lt rk t s->L s t=false:=fun{s t} h=>by
  cases q:L s t with
  | false=>rfl
  | true=>exact(zdr h q).elim
 have can:∀(x y z u v w e g i:Nat),lt rk [((x+e:Nat):Int),((y+g:Nat):Int),((z+i:Nat):Int)] [((u+e:Nat):Int),((v+g:Nat):Int),((w+i:Nat):Int)]->lt rk [(x:Int),(y:Int),(z:Int)] [(u:Int),(v:Int),(w:Int)]:=λx y z u v w e g i h=>by
  refine(zec O (c:=[(e:Int),(g:Int),(i:Int)]) rfl rfl rfl).mp ?_;have e1:addT [(x:Int),(y:Int),(z:Int)] [(e:Int),(g:Int),(i:Int)]=[((x+e:Nat):Int),((y+g:Nat):Int),((z+i:Nat):Int)]:=by simp[addT]
  have e2:addT [(u:Int),(v:Int),(w:Int)] [(e:Int),(g:Int),(i:Int)]=[((u+e:Nat):Int),((v+g:Nat):Int),((w+i:Nat):Int)]:=by simp[addT]
  rw[e1,e2];exact h
 have no:¬(a'<=a/\b'<=b/\c'<=c):=fun⟨h1,h2,h3⟩=>by
  rcases Jh (a'+b'+c') (a+b+c) with z | z
  ·exact zdr h (le3 O h1 h2 h3 z)
  ·have:a=a'/\b=b'/\c=c':=by omega
   obtain⟨rfl,rfl,rfl⟩:=this;exact lt_irrefl h
 rcases(by omega:a=0\/a=1) with rfl | rfl <;> rcases(by omega:b=0\/b=1) with rfl | rfl <;> rcases(by omega:c=0\/c=1) with rfl | rfl <;>
 rcases(by omega:a'=0\/a'=1) with rfl | rfl <;> rcases(by omega:b'=0\/b'=1) with rfl | rfl <;> rcases(by omega:c'=0\/c'=1) with rfl | rfl <;>
 first
  | (exfalso;apply no;refine⟨?_,?_,?_⟩ <;> decide)
  | omega
  | (have:=c1.1 (can 0 1 0 1 0 0 0 0 0 h);omega)
  | (have:=c1.1 (can 0 1 0 1 0 0 0 0 1 h);omega)
  | (have:=c1.2 (f (can 1 0 0 0 1 0 0 0 0 h));omega)
  | (have:=c1.2 (f (can 1 0 0 0 1 0 0 0 1 h));omega)
  | (have:=c2.1 (can 0 0 1 1 0 0 0 0 0 h);omega)
  | (have:=c2.1 (can 0 0 1 1 0 0 0 1 0 h);omega)
  | (have:=c2.2 (f (can 1 0 0 0 0 1 0 0 0 h));omega)
  | (have:=c2.2 (f (can 1 0 0 0 0 1 0 1 0 h));omega)
  | (have:=c3.1 (can 0 0 1 0 1 0 0 0 0 h);omega)
  | (have:=c3.1 (can 0 0 1 0 1 0 1 0 0 h);omega)
  | (have:=c3.2 (f (can 0 1 0 0 0 1 0 0 0 h));omega)
  | (have:=c3.2 (f (can 0 1 0 0 0 1 1 0 0 h));omega)
  | (have:=c4.1 h;omega)
  | (have:=c4.2 (f h);omega)
  | (have:=c5.1 h;omega)
  | (have:=c5.2 (f h);omega)
  | (have:=c6.1 h;omega)
  | (have:=c6.2 (f h);omega)
theorem zo5:∀{α a b:List Int},a.length = α.length->b.length = α.length->dot α (addT a b)=dot α a+dot α b
 | [],_,_,h,h'=>by simp[dot]
 | x :: α,[],_,h,_=>by simp at h
 | x :: α,_::_,[],_,h=>by simp at h
 | x :: α,y::a,z::b,h,h'=>by
  have ih:=zo5 (α:=α) (a:=a) (b:=b) (by simpa using h) (by simpa using h');unfold dot addT at ih ⊢;simp only[List.zipWith_cons_cons,List.sum_cons]at ih ⊢;rw[ih,Int.mul_add];omega
theorem znz:∀{α a b:List Int},a.length = α.length->b.length = α.length->dot α (subT a b)=dot α a-dot α b
 | [],_,_,h,h'=>by simp[dot]
 | x :: α,[],_,h,_=>by simp at h
 | x :: α,_::_,[],_,h=>by simp at h
 | x :: α,y::a,z::b,h,h'=>by
  have ih:=znz (α:=α) (a:=a) (b:=b) (by simpa using h) (by simpa using h');unfold dot subT at ih ⊢;simp only[List.zipWith_cons_cons,List.sum_cons]at ih ⊢;rw[ih,Int.mul_sub];omega
theorem zol:∀{α t:List Int},(∀x∈α,1<=x)->(∀x∈t,0<=x)->0<=dot α t
 | [],_,_,_=>by simp[dot]
 | _::_,[],_,_=>by simp[dot]
 | x :: α,y::t,h,h'=>by
  have ih:=zol (α:=α) (t:=t) (λz hz=>h z (.tail _ hz)) (λz hz=>h' z (.tail _ hz));have h1:=h x (.head _);have h2:=h' y (.head _);have h3:0<=x*y:=Int.mul_nonneg (by omega) h2;unfold dot at ih ⊢;simp only[List.zipWith_cons_cons,List.sum_cons];omega
theorem zk2:∀{α t:List Int},t.length = α.length->(∀x∈α,1<=x)->(∀x∈t,0<=x)->∀y∈t,y<=dot α t
 | [],t,hl,_,_,y,hy=>by
  have:t=[]:=List.eq_nil_of_length_eq_zero hl;rw[this]at hy;cases hy
 | _::_,[],_,_,_,y,hy=>by cases hy
 | x :: α,z::t,hl,h,h',y,hy=>by
  have ih:=zk2 (α:=α) (t:=t) (by simpa using hl) (λz hz=>h z (.tail _ hz)) (λz hz=>h' z (.tail _ hz));have nn:=zol (α:=α) (t:=t) (λz hz=>h z (.tail _ hz)) (λz hz=>h' z (.tail _ hz));have h1:=h x (.head _);have h2:=h' z (.head _);have h3:z<=x*z:=by
   have:=Int.mul_le_mul_of_nonneg_right h1 h2;omega
  have e:dot (x :: α) (z::t)=x*z+dot α t:=by unfold dot;simp only[List.zipWith_cons_cons,List.sum_cons]
  rw[e];rcases Yj.mp hy with rfl | hy
  ·omega
  ·have:=ih y hy;omega
theorem zud:∀{α t:List Int} {d:Int},(∀x∈α,1<=x)->(∀x∈t,x<=d)->0<=d->dot α t<=d * α.sum
 | [],_,d,_,_,hd=>by simp[dot]
 | x :: α,[],d,h,_,hd=>by
  have:0<=d*(x :: α).sum:=Int.mul_nonneg hd (by
   have:∀l:List Int,(∀x∈l,1<=x)->0<=l.sum:=λl hl=>by
    induction l with
    | nil=>simp
    | cons a l ih=>
     have:=ih λz hz=>hl z (.tail _ hz)
     have:=hl a (.head _);simp only[List.sum_cons];omega
   exact this _ h)
  simpa[dot]using this
 | x :: α,y::t,d,h,h',hd=>by
  have ih:=zud (α:=α) (t:=t) (λz hz=>h z (.tail _ hz)) (λz hz=>h' z (.tail _ hz)) hd;have h1:=h x (.head _);have h2:=h' y (.head _);have h3:x*y<=x*d:=Y3 h2 (by omega);have e:dot (x :: α) (y::t)=x*y+dot α t:=by unfold dot;simp only[List.zipWith_cons_cons,List.sum_cons]
  rw[e,List.sum_cons,Int.mul_add,Int.mul_comm d x];omega
theorem zfj{m:Nat}{t:List Int}(h:T0 m t):∃ns:List Nat,t=ns.map (λn:Nat=>(n:Int))/\ns.length=m:=by
 refine⟨t.map Int.toNat,?_,by rw[Yd,h.len]⟩;rw[Ji];refine(List.map_id t).symm.trans (List.map_congr_left λx hx=>?_);show x=((x.toNat:Nat):Int);rw[Int.toNat_of_nonneg (h.mem x hx)]
theorem zsm{m:Nat}(O:OrdM rk m)(m1:1<=m)(m3:m<=3){d:Int}(h2:m=2->d<=3)(h3:m=3->d<=1):∃α : List Int,α.length=m/\(∀x∈α,1<=x)/\α.sum<=4/\∀l u,T0 m l->T0 m u->(∀x∈l,x<=d)->(∀x∈u,x<=d)->(u=l\/lt rk u l)->dot α u<=dot α l:=by
 rcases(by omega:m=1\/m=2\/m=3) with rfl | rfl | rfl
 ·refine⟨[1],Z,by simp,by decide,λl u hl hu _ _ h=>?_⟩;obtain⟨ls,rfl,ll⟩:=zfj hl;obtain⟨us,rfl,lu⟩:=zfj hu;match ls,us,ll,lu with
  | [a],[b],_,_=>
   show dot [1] [(b:Int)]<=dot [1] [(a:Int)];rw[dot1,dot1];rcases h with h | h
   ·have h:[(b:Int)]=[(a:Int)]:=h;injection h with h;omega
   ·rcases Jh a b with c | c
    ·have g:zcw [(a:Int)] [(b:Int)]=true:=goesI_iff.mpr λi hi=>by
      match i with
      | 0=>show (a:Int)<=(b:Int);omega
      | i+1=>exact absurd (show i+1<1 from hi) (by omega)
     rcases zhx O hl hu g with e | e
     ·have e:[(a:Int)]=[(b:Int)]:=e;injection e with e;omega
     ·exact(zdr h e).elim
    ·omega
 ·obtain⟨p,q,p1,q1,pq,key⟩:=zze O;have d3:=h2 rfl;refine⟨[(p:Int),(q:Int)],Z,by simp;omega,by simp;omega,λl u hl hu bl bu h=>?_⟩;obtain⟨ls,rfl,ll⟩:=zfj hl;obtain⟨us,rfl,lu⟩:=zfj hu;match ls,us,ll,lu with
  | [a,b],[a',b'],_,_=>
   have ba:(a:Int)<=d:=bl _ (by simp);have bb:(b:Int)<=d:=bl _ (by simp);have ba':(a':Int)<=d:=bu _ (by simp);have bb':(b':Int)<=d:=bu _ (by simp);show dot [(p:Int),(q:Int)] [(a':Int),(b':Int)]<=dot [(p:Int),(q:Int)] [(a:Int),(b:Int)];rw[dot2,dot2];rcases h with h | h
   ·have h:[(a':Int),(b':Int)]=[(a:Int),(b:Int)]:=h;injection h with h1 h
    injection h with h2 h
    rw[h1,h2];exact Int.le_refl _
   ·have hlt:lt rk [(a':Int),(b':Int)] [(a:Int),(b:Int)]:=h;have no:¬(a<=a'/\b<=b'):=fun⟨z1,z2⟩=>by
     have g:zcw [(a:Int),(b:Int)] [(a':Int),(b':Int)]=true:=goesI_iff.mpr λi hi=>by
      match i with
      | 0=>show (a:Int)<=(a':Int);omega
      | 1=>show (b:Int)<=(b':Int);omega
      | i+2=>exact absurd (show i+2<2 from hi) (by omega)
     rcases zhx O hl hu g with e | e
     ·have e:[(a:Int),(b:Int)]=[(a':Int),(b':Int)]:=e;rw[e]at hlt;exact lt_irrefl hlt
     ·exact zdr hlt e
    rcases Nat.le_total a' a with ca | ca <;> rcases Nat.le_total b' b with cb | cb
    ·have h1:(p:Int)*a'<=p*a:=Y3 (by omega) (by omega);have h2:(q:Int)*b'<=q*b:=Y3 (by omega) (by omega);omega
    ·obtain⟨x,rfl⟩:∃x,a=a'+x:=⟨a-a',by omega⟩;obtain⟨y,rfl⟩:∃y,b'=b+y:=⟨b'-b,by omega⟩;rcases Nat.eq_zero_or_pos y with y0 | y0
     ·subst y0;have h1:(p:Int)*a'<=p*((a'+x:Nat):Int):=Y3 (by omega) (by omega);have:((b+0:Nat):Int)=(b:Int):=by omega
      rw[this];omega
     ·have x0:1<=x:=by
       rcases Nat.eq_zero_or_pos x with z | z
       ·exact absurd ⟨by omega,by omega⟩ no
       ·exact z
      have e1:addT [0,(y:Int)] [(a':Int),(b:Int)]=[(a':Int),((b+y:Nat):Int)]:=by simp[addT];omega
      have e2:addT [(x:Int),0] [(a':Int),(b:Int)]=[((a'+x:Nat):Int),(b:Int)]:=by simp[addT];omega
      have:=(key x y x0 (by omega) y0 (by omega)).1 ((zec O (c:=[(a':Int),(b:Int)]) rfl rfl rfl).mp (by rw[e1,e2];exact hlt));have h5:((q*y:Nat):Int)<=((p*x:Nat):Int):=by exact_mod_cast this
      rw[Int.natCast_mul,Int.natCast_mul]at h5;rw[show ((a'+x:Nat):Int)=(a':Int)+x by omega,show ((b+y:Nat):Int)=(b:Int)+y by omega,Int.mul_add,Int.mul_add];omega
    ·obtain⟨x,rfl⟩:∃x,a'=a+x:=⟨a'-a,by omega⟩;obtain⟨y,rfl⟩:∃y,b=b'+y:=⟨b-b',by omega⟩;rcases Nat.eq_zero_or_pos x with x0 | x0
     ·subst x0;have h1:(q:Int)*b'<=q*((b'+y:Nat):Int):=Y3 (by omega) (by omega);have:((a+0:Nat):Int)=(a:Int):=by omega
      rw[this];omega
     ·have y0:1<=y:=by
       rcases Nat.eq_zero_or_pos y with z | z
       ·exact absurd ⟨by omega,by omega⟩ no
       ·exact z
      have e1:addT [(x:Int),0] [(a:Int),(b':Int)]=[((a+x:Nat):Int),(b':Int)]:=by simp[addT];omega
      have e2:addT [0,(y:Int)] [(a:Int),(b':Int)]=[(a:Int),((b'+y:Nat):Int)]:=by simp[addT];omega
      have:=(key x y x0 (by omega) y0 (by omega)).2 ((zec O (c:=[(a:Int),(b':Int)]) rfl rfl rfl).mp (by rw[e1,e2];exact hlt));have h5:((p*x:Nat):Int)<=((q*y:Nat):Int):=by exact_mod_cast this
      rw[Int.natCast_mul,Int.natCast_mul]at h5;rw[show ((a+x:Nat):Int)=(a:Int)+x by omega,show ((b'+y:Nat):Int)=(b':Int)+y by omega,Int.mul_add,Int.mul_add];omega
    ·exact absurd ⟨ca,cb⟩ no
 ·obtain⟨p,q,r,p1,q1,r1,pq,key⟩:=zrl O;have d1:=h3 rfl;refine⟨[(p:Int),(q:Int),(r:Int)],Z,by simp;omega,by simp;omega,λl u hl hu bl bu h=>?_⟩;obtain⟨ls,rfl,ll⟩:=zfj hl;obtain⟨us,rfl,lu⟩:=zfj hu;match ls,us,ll,lu with
  | [a,b,c],[a',b',c'],_,_=>
   have ba:(a:Int)<=d:=bl _ (by simp);have bb:(b:Int)<=d:=bl _ (by simp);have bc:(c:Int)<=d:=bl _ (by simp);have ba':(a':Int)<=d:=bu _ (by simp);have bb':(b':Int)<=d:=bu _ (by simp);have bc':(c':Int)<=d:=bu _ (by simp);show dot [(p:Int),(q:Int),(r:Int)] [(a':Int),(b':Int),(c':Int)]<=dot [(p:Int),(q:Int),(r:Int)] [(a:Int),(b:Int),(c:Int)];rw[dot3,dot3];rcases h with h | h
   ·have h:[(a':Int),(b':Int),(c':Int)]=[(a:Int),(b:Int),(c:Int)]:=h;injection h with h1 h
    injection h with h2 h
    injection h with h3 h
    rw[h1,h2,h3];exact Int.le_refl _
   ·have:=key a' b' c' a b c (by omega) (by omega) (by omega) (by omega) (by omega) (by omega) h;exact_mod_cast this
def bxs:Nat->Nat->List (List Int)
 | 0,_=>[[]]
 | m+1,C=>(List.range (C+1)).flatMap λa:Nat=>(bxs m C).map λt=>(a:Int)::t
theorem mem_bxs:∀{m C:Nat} {t:List Int},t∈bxs m C↔T0 m t/\∀x∈t,x<=C
 | 0,C,t=>by
  constructor
  ·intro h;have:t=[]:=by simpa[bxs]using h
   subst this;exact⟨T0.of rfl λx hx=>(by cases hx),λx hx=>by cases hx⟩
  ·rintro⟨h,_⟩;have:t=[]:=List.eq_nil_of_length_eq_zero h.len;rw[this];simp[bxs]
 | m+1,C,t=>by
  constructor
  ·intro h;unfold bxs at h;obtain⟨a,ha,h⟩:=List.mem_flatMap.mp h;obtain⟨u,hu,rfl⟩:=Jj.mp h;obtain⟨u0,u1⟩:=mem_bxs.mp hu;have ac:=List.mem_range.mp ha;refine⟨T0.of (by rw[Y5,u0.len]) λx hx=>?_,λx hx=>?_⟩
   ·rcases Yj.mp hx with rfl | hx
    ·omega
    ·exact u0.mem x hx
   ·rcases Yj.mp hx with rfl | hx
    ·omega
    ·exact u1 x hx
  ·rintro⟨h,h'⟩
   cases t with
   | nil=>have:=h.len;simp at this
   | cons x u=>
    have x0:=h.mem x (.head _);have xc:=h' x (.head _);unfold bxs;refine List.mem_flatMap.mpr ⟨x.toNat,List.mem_range.mpr (by omega),Jj.mpr ⟨u,mem_bxs.mpr ⟨T0.of (by have:=h.len;simpa using this) λy hy=>h.mem y (.tail _ hy),λy hy=>h' y (.tail _ hy)⟩,?_⟩⟩;rw[Int.toNat_of_nonneg x0]
def cmB(m:Nat):Nat:=if m=1 then 36 else if m=2 then 12 else 4
theorem zxk{m:Nat}(m1:1<=m)(m3:m<=3):(bxs m (cmB m)).Nodup/\(bxs m (cmB m)).length<=169:=by
 rcases(by omega:m=1\/m=2\/m=3) with rfl | rfl | rfl
 ·exact⟨by decide +kernel,by decide +kernel⟩
 ·exact⟨by decide +kernel,by decide +kernel⟩
 ·exact⟨by decide +kernel,by decide +kernel⟩
def Uof(m:Nat)(α : List Int):List (List Int):=(bxs m (cmB m)).filter λt=>decide (dot α t<=cmB m)
theorem zpi{m:Nat}{α t:List Int}(ha : α.length=m)(h1:∀x∈α,1<=x):t∈Uof m α↔T0 m t/\dot α t<=cmB m:=by
 unfold Uof;rw[List.mem_filter,mem_bxs];constructor
 ·rintro⟨⟨h,_⟩,h'⟩;exact⟨h,Jk h'⟩
 ·rintro⟨h,h'⟩;exact⟨⟨h,λx hx=>Int.le_trans (zk2 (by rw[h.len,ha]) h1 h.mem x hx) h'⟩,Yo h'⟩
theorem U_ok{m:Nat}(m1:1<=m)(m3:m<=3)(α : List Int):(Uof m α).Nodup/\(Uof m α).length<=169:=by
 obtain⟨h1,h2⟩:=zxk m1 m3;exact⟨h1.filter _,Yr (List.length_filter_le _ _) h2⟩
end
end G
namespace K6
open PySem L2
theorem xl{α : Sort _}{p : α->Prop}{r:Prop}(h:∀a,p a->r):(∃a,p a)->r:=λq=>q.elim h
theorem xg{S G:Prop}(h:∀g:Prop,g=G->S->g):S->G:=h G rfl
theorem sab{A R:TS}{D:Ends}{σ : St}{H:Hp}(h:∀r:TS,r=R->tSeq A r D σ H):tSeq A R D σ H:=h R rfl
theorem sM{N P:List Str}{sc:Scope}(h:sc.kind=.function/\sc.isCoroutine=false/\sc.isGenerator=false/\N.Nodup/\N.take P.length=P/\(∀x∈P,sc.names.lookup x=some .local\/sc.names.lookup x=some .cell)/\∀y∈sc.names,y.2≠.free):FnScope N P sc:=⟨h.1,h.2.1,h.2.2.1,h.2.2.2.1,h.2.2.2.2.1,h.2.2.2.2.2.1,h.2.2.2.2.2.2⟩
def top(i:Nat):Stmt:=PySem.Challenge.pw_idealroom_k17_divided_identity.main.body.getD i (.Pass ⟨0,0,0,0⟩)
abbrev zc8:Stmt:=top 25
abbrev zgo:Stmt:=top 26
abbrev zc9:Stmt:=za5 (top 27) 0
abbrev zb7:Stmt:=za5 (top 28) 0
abbrev zcp:Stmt:=za5 (top 28) 1
abbrev zbm:Stmt:=za5 (top 28) 3
abbrev zdc:Stmt:=za5 (top 28) 4
abbrev zcx:Stmt:=za5 (top 28) 5
abbrev zcg:Stmt:=za5 (top 28) 6
abbrev zco:Stmt:=za5 (top 28) 7
abbrev zc4:Stmt:=za5 (top 27) 2
abbrev zdf:Stmt:=za5 (top 29) 0
abbrev zdx:Stmt:=za5 (top 29) 1
abbrev ze9:Stmt:=za5 (top 29) 4
abbrev zek:Stmt:=za5 (top 29) 5
abbrev zdj:Stmt:=za5 (top 29) 6
abbrev zd3:Stmt:=za5 (top 29) 7
abbrev zim:Stmt:=top 13
abbrev zex:Stmt:=za5 (top 31) 0
abbrev zdw:Stmt:=za5 (top 32) 0
abbrev zes:Stmt:=za5 (top 33) 0
abbrev zcr:Stmt:=za5 (top 34) 0
abbrev zdy:Stmt:=za5 (top 34) 1
abbrev zfb:Stmt:=za5 (top 31) 5
abbrev zdz:Stmt:=za5 (top 34) 3
abbrev zc7:Stmt:=za5 (top 31) 3
abbrev zdi:Stmt:=za5 (top 37) 0
abbrev zho:Stmt:=top 10
abbrev zf5:Stmt:=top 11
abbrev zf0:Stmt:=top 12
abbrev zil:Stmt:=top 16
abbrev zi7:Stmt:=top 17
abbrev zey:Stmt:=top 18
abbrev zcm:Stmt:=za5 (top 20) 2
abbrev zeg:Stmt:=za5 (top 20) 1
abbrev zcq:Stmt:=za5 (top 20) 0
abbrev zcj:Stmt:=za5 (top 20) 3
abbrev zdp:Stmt:=za5 (top 20) 4
abbrev zda:Stmt:=za5 (top 21) 0
abbrev zdk:Stmt:=za5 (top 21) 1
abbrev zhp:Stmt:=top 22
abbrev zd2:Stmt:=top 39
abbrev zgs:Stmt:=top 42
abbrev zfu:Stmt:=top 43
abbrev zfe:Stmt:=top 45
abbrev zfy:Stmt:=top 44
abbrev zee:Stmt:=top 46
abbrev zgr:Stmt:=top 47
abbrev zfd:Stmt:=top 40
abbrev ze3:Stmt:=top 41
abbrev ze6:Stmt:=top 51
abbrev zde:Stmt:=top 52
abbrev zd1:Stmt:=top 53
abbrev zdd:Stmt:=top 54
abbrev zez:Stmt:=top 55
abbrev zew:Stmt:=top 56
abbrev zej:Stmt:=top 60
abbrev zgp:Stmt:=top 49
abbrev zf1:Stmt:=top 57
abbrev zf4:Stmt:=top 59
abbrev zcf:Stmt:=top 58
abbrev zd4:Stmt:=top 61
abbrev zef:Stmt:=top 50
abbrev zfv:Stmt:=top 48
abbrev zdm:Stmt:=top 62
abbrev zff:Stmt:=top 63
abbrev zf3:Stmt:=top 64
abbrev zet:Stmt:=top 65
abbrev zb3:Stmt:=top 66
abbrev zi8:Stmt:=top 67
structure Txt(P:Program)(w:World)(K:W.Frag)(mg:Str->Option Value)(base:Heap)(za2 zag zao zas zal zat zaj zak za6:Addr):Prop where
 b_abs:mg "abs" = none
 b_all:mg "all" = none
 b_any:mg "any" = none
 b_bool:mg "bool" = none
 b_dict:mg "dict" = none
 b_enumerate:mg "enumerate" = none
 b_int:mg "int" = none
 b_isinstance:mg "isinstance" = none
 b_len:mg "len" = none
 b_list:mg "list" = none
 b_max:mg "max" = none
 b_range:mg "range" = none
 b_reversed:mg "reversed" = none
 b_sum:mg "sum" = none
 b_tuple:mg "tuple" = none
 b_zip:mg "zip" = none
 cl_Ring:Cls K za2
 mg_Ring:mg "Ring" = some (.ref za2)
 na_Ring_many:NoAttr K za2 "many"
 na_Ring_field:NoAttr K za2 "field"
 na_Ring_order:NoAttr K za2 "order"
 cl_Fractions:Cls K zag
 mg_Fractions:mg "Fractions" = some (.ref zag)
 na_Fractions_prime:NoAttr K zag "prime"
 cl_Rests:Cls K zao
 mg_Rests:mg "Rests" = some (.ref zao)
 na_Rests_prime:NoAttr K zao "prime"
 cl_Order:Cls K zas
 mg_Order:mg "Order" = some (.ref zas)
 n0_Order:Mk0 K zas
 cl_Degrees:Cls K zal
 mg_Degrees:mg "Degrees" = some (.ref zal)
 n0_Degrees:Mk0 K zal
 cl_Tails:Cls K zat
 mg_Tails:mg "Tails" = some (.ref zat)
 n0_Tails:Mk0 K zat
 cl_Weights:Cls K zaj
 mg_Weights:mg "Weights" = some (.ref zaj)
 na_Weights_weights:NoAttr K zaj "weights"
 cl_Waiting:Cls K zak
 mg_Waiting:mg "Waiting" = some (.ref zak)
 na_Waiting_order:NoAttr K zak "order"
 na_Waiting_known:NoAttr K zak "known"
 na_Waiting_queue:NoAttr K zak "queue"
 cl_Leads:Cls K za6
 mg_Leads:mg "Leads" = some (.ref za6)
 na_Leads_pairs:NoAttr K za6 "pairs"
 g_GREATEST_PRIME:∃tk,mg "GREATEST_PRIME" = some (.int 9973 tk)
 g_LETTERS:∃tk,mg "LETTERS" = some (.str "xyzt" tk)
 kii:W.kitOne K (.type "int") (.type "int")=some true
 kib:W.kitOne K (.type "int") (.type "bool")=some false
 ktt:W.kitOne K (.type "tuple") (.type "tuple")=some true
 kdd:W.kitOne K (.type "dict") (.type "dict")=some true
 kll:W.kitOne K (.type "list") (.type "list")=some true
theorem zmj:(["power"]:List Str).Nodup:=by decide +kernel
theorem zjw:(["weight"]:List Str).Nodup:=by decide +kernel
theorem ze7:(["power","weight"]:List Str).Nodup:=by decide +kernel
theorem zen:(["power","further"]:List Str).Nodup:=by decide +kernel
theorem zfp:(["power","bound"]:List Str).Nodup:=by decide +kernel
theorem zfs:(["power","whole"]:List Str).Nodup:=by decide +kernel
theorem zgw:(["at","f","ring"]:List Str).Nodup:=by decide +kernel
theorem zif:(["divisor"]:List Str).Nodup:=by decide +kernel
theorem zdg:(["_law_k","_law_found"]:List Str).Nodup:=by decide +kernel
theorem zdh:(["_law_power"]:List Str).Nodup:=by decide +kernel
theorem zb6:(["_law_f","_law_many","_law_p"]:List Str).Nodup:=by decide +kernel
theorem zd9:(["_law_f"]:List Str).Nodup:=by decide +kernel
theorem zbt:(["_law_k","_law_other","_law_term"]:List Str).Nodup:=by decide +kernel
theorem zbg:(["_law_k","_law_term","_law_weights_here"]:List Str).Nodup:=by decide +kernel
theorem zbl:(["_law_k","_law_one_here","_law_other"]:List Str).Nodup:=by decide +kernel
theorem zdl:(["_law_k","_law_cell"]:List Str).Nodup:=by decide +kernel
theorem zkv:(["_law_k"]:List Str).Nodup:=by decide +kernel
theorem zfg:(["_law_at"]:List Str).Nodup:=by decide +kernel
theorem zbh:(["_law_f","_law_kind","_law_weights_here"]:List Str).Nodup:=by decide +kernel
theorem zgx:(["_law_size"]:List Str).Nodup:=by decide +kernel
theorem za7:(["_law_at","_law_k","_law_leads_here","_law_term"]:List Str).Nodup:=by decide +kernel
theorem zbx:(["_law_term","_law_leads_here"]:List Str).Nodup:=by decide +kernel
theorem zyb{K:W.Frag}{H:Hp}{p:Addr}{xs:List V}{i:Int}{v:V}{Q:V->Hp->Prop}(h:SqT K H p xs)(h':atI xs i=some v)(q:Q v H):rIxT K (.ref p) (.int i) H Q:=⟨p,xs,i,v,Z,Z,h,h',q⟩
theorem uOne{k:Nat}{A:Around}(r:Room k A):A.units+1<cLine:=by have:=r.units;omega
theorem zs5{X:Cx}{x:Str}{i:Str}{pos:Pos}(hm:∃tk,X.mg x=some (.str i tk))(hg:Gl X x)(hd:(x == ("__debug__" : Str))=false:=by decide):PE X (.Name x pos) (tC (.str i)):=by
 obtain⟨tk,e⟩:=hm;exact zn0 hg e ⟨tk,Z⟩ hd
end K6
namespace K6
open PySem L2
open K1 K2 K3 K6 K8 K37 G
theorem zev{a r:TS}{D:Ends}{σ : St}{H:Hp}(R:St->Hp->Prop)(hu:∀σ' H',R σ' H'->r D σ' H')(hc:∀N:St->Hp->Prop,(∀σ' H',R σ' H'->N σ' H')->a { D with nx:=N } σ H):tSeq a r D σ H:=by
 unfold tSeq;exact hc _ hu
def zg4:Sp:=λvs H Q _=>∃(a b:Int),vs=[.int a,.int b]/\0<=a/\0<=b/\Q (.int (gI a b)) H
def zk6(K:W.Frag):Sp:=λvs H Q _=>∃(p C dx:Addr) (v:V),vs=[.ref p,v]/\H p=some (.ins C dx [])/\Cls K C/\NoAttr K C "prime"/\Q .non (upd H p (.ins C dx [("prime",v)]))
def zh6(CF:Addr):Sp:=λvs H Q _=>∃(p dx:Addr),vs=[.ref p]/\H p=some (.ins CF dx [])/\Q .non (upd H p (.ins CF dx [("prime",.int 0)]))
def cellOf(ns:List Int)(k:Int):Int:=ns.getD k.toNat 0
def ztt(K:W.Frag):Sp:=λvs H Q _=>∃(a:Addr) (ns:List Int) (k:Int),vs=[.ref a,.int k]/\SqL K H a (ns.map V.int)/\0<=k/\Q (.int (cellOf ns k)) H
theorem zvv{ns:List Int}{k:Int}(h0:0<=k)(h:k<(ns.length:Int)):atI (ns.map V.int) k=some (.int (cellOf ns k)):=by
 have hk:k.toNat<ns.length:=by omega
 have ek:k=((k.toNat:Nat):Int):=by omega
 have q:atI (ns.map V.int) ((k.toNat:Nat):Int)=some (.int ns[k.toNat]):=zcu (by rw[Ym,Yc hk] <;> rfl);rw[<- ek]at q;rw[q];unfold cellOf;rw[List.getD_eq_getElem?_getD,Yc hk];rfl
def zpg:Sp:=λvs H Q _=>∃(n:Int),vs=[.int n]/\n<=9973/\Q (.bl (isP n)) H
def zn1(CR NP:Addr):Sp:=λvs H Q E=>∃(p dx:Addr) (n:Int),vs=[.ref p,.int n]/\H p=some (.ins CR dx []) /\
 ((n<=9973/\isP n=true/\Q .non (upd H p (.ins CR dx [("prime",.int n)])))\/((9973<n\/isP n=false)/\E (.ref NP) none H))
theorem zsh{d n:Int}(h2:2<=d)(h:d<=101) : -(2^64)<d/\d<2^64:=by omega
structure Nm(x y:Int):Prop where
 pos:1<=y
 bx:x.natAbs<2^8900
 bz:y.natAbs<2^8900
 cop:gI x y=1
theorem up{n a b:Nat}(h:n<2^a)(hab:a<=b):n<2^b:=Yf h (Yv (by decide) hab)
theorem Nm.mul{x y z t:Int}(h:Nm x y)(h':Nm z t):CMulC x z/\CMulC x t/\CMulC y t/\CMulC z y/\CMulC y z:=
 ⟨⟨up h.bx (by decide),up h'.bx (by decide)⟩,⟨up h.bx (by decide),up h'.bz (by decide)⟩,⟨up h.bz (by decide),up h'.bz (by decide)⟩,⟨up h'.bx (by decide),up h.bz (by decide)⟩,⟨up h.bz (by decide),up h'.bx (by decide)⟩⟩
def NumF(CF:Addr)(H:Hp)(p dx:Addr):Prop:=H p=some (.ins CF dx [("prime",.int 0)])
def Pair(H:Hp)(r:Addr)(x y:Int):Prop:=H r=some (.tup [.int x,.int y])
def zkw(CF:Addr)(t b:Int->Int->Int->Int->Int):Sp:=λvs H Q _=>∃(p dx ra rb:Addr) (x y z w:Int),vs=[.ref p,.ref ra,.ref rb]/\NumF CF H p dx/\Pair H ra x y/\Pair H rb z w/\Nm x y/\Nm z w /\
 ∀r H',Same H H'->Pair H' r (fT (t x y z w) (b x y z w)) (fB (t x y z w) (b x y z w))->Q (.ref r) H'
def zzi:Sp:=λvs H Q _=>∃(p:V) (ra:Addr) (x y:Int),vs=[p,.ref ra]/\Pair H ra x y/\∀r H',Same H H'->Pair H' r (-x) y->Q (.ref r) H'
def zz5(CF NO:Addr):Sp:=λvs H Q E=>∃(p dx ra:Addr) (x y:Int),vs=[.ref p,.ref ra]/\NumF CF H p dx/\Pair H ra x y/\Nm x y /\
 ((x≠0/\∀r H',Same H H'->Pair H' r (fT y x) (fB y x)->Q (.ref r) H')\/(x=0/\E (.ref NO) none H))
def ovT(x y z w:Int):Int:=x*fT w z
def ovB(x y z w:Int):Int:=y*fB w z
def zxi(CF NO:Addr):Sp:=λvs H Q E=>∃(p dx ra rb:Addr) (x y z w:Int),vs=[.ref p,.ref ra,.ref rb]/\NumF CF H p dx/\Pair H ra x y/\Pair H rb z w/\Nm x y/\Nm z w /\
 ((z≠0/\∀r H',Same H H'->Pair H' r (fT (ovT x y z w) (ovB x y z w)) (fB (ovT x y z w) (ovB x y z w))->Q (.ref r) H')\/(z=0/\E (.ref NO) none H))
theorem Nm.tu{x y:Int}(h:Nm x y)(hx:x≠0):Nm (fT y x) (fB y x):=
 ⟨zqt hx,Yp (z0o hx) h.bz,Yp (z0n hx) h.bx,zw3 hx⟩
theorem zgq(a b:Int):gI (if a<0 then -a else a) b=gI a b:=z0e a b
theorem zxe(a b:Int):gI (-a) b=gI a b:=by unfold gI;rw[Int.neg_gcd]
theorem zsn{a b:Int}{n:Nat}(hb:b≠0)(h:b.natAbs<n):gI a b≠0/\(gI a b).natAbs<n:=by
 have:=ze5 (a:=a) hb;refine⟨by omega,Yp ?_ h⟩;unfold gI;rw[Int.natAbs_natCast];exact Nat.le_of_dvd (by omega) (Nat.gcd_dvd_right _ _)
theorem fdl{a b:Int}{n:Nat}(hb:b≠0)(h:a.natAbs<n):(Int.fdiv a (gI a b)).natAbs<n:=by
 have:=ze5 (a:=a) hb;exact Yp (zu4 (zmq a b) (by omega)) h
theorem fdr{a b:Int}{n:Nat}(hb:b≠0)(h:b.natAbs<n):(Int.fdiv b (gI a b)).natAbs<n:=by
 have:=ze5 (a:=a) hb;exact Yp (zu4 (zgc a b) (by omega)) h
theorem no_F(m:Str)(h:¬m = "prime"):([("prime",V.int 0)]:List (Str×V)).lookup m=none:=by
 have e:(m == (Str.ofString "prime"))=false:=by
  cases q:(m == (Str.ofString "prime")) with
  | true=>exact absurd (Jy q) h
  | false=>rfl
 simp only[List.lookup,e]
def NumR(CR:Addr)(H:Hp)(p dx:Addr)(n:Int):Prop:=H p=some (.ins CR dx [("prime",.int n)])/\Pr n/\n<=9973
theorem no_R(m:Str)(n:Int)(h:¬m = "prime"):([("prime",V.int n)]:List (Str×V)).lookup m=none:=by
 have e:(m == (Str.ofString "prime"))=false:=by
  cases q:(m == (Str.ofString "prime")) with
  | true=>exact absurd (Jy q) h
  | false=>rfl
 simp only[List.lookup,e]
def In(n a:Int):Prop:=0<=a/\a<n
def spC(v:V):Sp:=λvs H Q _=>∃(p:V),vs=[p]/\Q v H
def zju(CR:Addr)(g:Int->Int->Int->Int):Sp:=λvs H Q _=>∃(p dx:Addr) (n a b:Int),vs=[.ref p,.int a,.int b]/\NumR CR H p dx n/\In n a/\In n b/\Q (.int (g n a b)) H
def zxb(CR:Addr):Sp:=λvs H Q _=>∃(p dx:Addr) (n a:Int),vs=[.ref p,.int a]/\NumR CR H p dx n/\In n a/\Q (.int (-a%n)) H
def Inv1(n a f:Int):Prop:=0<=f/\f<n/\(f*a-1)%n=0
def zzz(CR NO:Addr):Sp:=λvs H Q E=>∃(p dx:Addr) (n a:Int),vs=[.ref p,.int a]/\NumR CR H p dx n/\In n a/\((a≠0/\∀f,Inv1 n a f->Q (.int f) H)\/(a=0/\E (.ref NO) none H))
def zzn(CR NO:Addr):Sp:=λvs H Q E=>∃(p dx:Addr) (n a b:Int),vs=[.ref p,.int a,.int b]/\NumR CR H p dx n/\In n a/\In n b/\((b≠0/\∀f,Inv1 n b f->Q (.int (a*f%n)) H)\/(b=0/\E (.ref NO) none H))
def zt8(x y:Int):Sp:=λvs H Q _=>∃(p:V),vs=[p]/\∀r H',Same H H'->H' r=some (.tup [.int x,.int y])->Q (.ref r) H'
def zui(NO:Addr):Sp:=λvs H Q E=>∃(p:V) (t b:Int),vs=[p,.int t,.int b]/\b.natAbs<2^8900 /\
 ((b≠0/\∀r H',Same H H'->H' r=some (.tup [.int (fT t b),.int (fB t b)])->Q (.ref r) H')\/(b=0/\E (.ref NO) none H))
theorem zy7{t b:Int}(h:b≠0)(hb:b.natAbs<2^8900):dv t b≠0/\(dv t b).natAbs<2^8999:=⟨znl h,Yf (Yp (z0h h) hb) (Yv (by decide) (by decide))⟩
def AtF(CF:Addr)(H:Hp)(p:Addr):Prop:=∃dx,H p=some (.ins CF dx [("prime",.int 0)])
def AtR(CR:Addr)(n:Int)(H:Hp)(p:Addr):Prop:=∃dx,NumR CR H p dx n
theorem no_P(m:Str)(n:Int)(h:¬m = "prime"):([("prime",V.int n)]:List (Str×V)).lookup m=none:=no_R m n h
def AtN(CF CR:Addr)(n:Int):Hp->Addr->Prop:=if n=0 then AtF CF else AtR CR n
def RgO(CG:Addr)(dx:Addr)(m:Int)(pf po:Addr):HO:=.ins CG dx [("many",.int m),("field",.ref pf),("order",.ref po)]
def RgAt(CG:Addr)(H:Hp)(r:Addr)(m:Int)(pf po:Addr):Prop:=∃dx,H r=some (RgO CG dx m pf po)
def spPl(n:Int)(At:Hp->Addr->Prop):Sp:=λvs H Q _=>∃(F:Type) (_:Lean.Grind.Field F) (_:Chr n F) (p:Addr) (v1 v2:V) (x y:F),vs=[.ref p,v1,v2]/\At H p/\Rep n H v1 x/\Rep n H v2 y/\Lim n 8900 x/\Lim n 8900 y/\∀v H',Same H H'->Rep n H' v (x+y)->Q v H'
def spTi(n:Int)(At:Hp->Addr->Prop):Sp:=λvs H Q _=>∃(F:Type) (_:Lean.Grind.Field F) (_:Chr n F) (p:Addr) (v1 v2:V) (x y:F),vs=[.ref p,v1,v2]/\At H p/\Rep n H v1 x/\Rep n H v2 y/\Lim n 8900 x/\Lim n 8900 y/\∀v H',Same H H'->Rep n H' v (x*y)->Q v H'
def spNo(c n:Int)(At:Hp->Addr->Prop):Sp:=λvs H Q _=>∃(F:Type) (_:Lean.Grind.Field F) (_:Chr n F) (p:Addr),vs=[.ref p]/\At H p/\∀v H',Same H H'->Rep n H' v (ic c:F)->Q v H'
def spAg(n:Int)(At:Hp->Addr->Prop):Sp:=λvs H Q _=>∃(F:Type) (_:Lean.Grind.Field F) (_:Chr n F) (p:Addr) (v:V) (x:F),vs=[.ref p,v]/\At H p/\Rep n H v x/\∀v' H',Same H H'->Rep n H' v' (-x)->Q v' H'
def spOv(n:Int)(At:Hp->Addr->Prop):Sp:=λvs H Q _=>∃(F:Type) (_:Lean.Grind.Field F) (_:Chr n F) (p:Addr) (v1 v2:V) (x y:F),vs=[.ref p,v1,v2]/\At H p/\Rep n H v1 x/\Rep n H v2 y/\Lim n 8900 x/\Lim n 8900 y/\y≠0/\∀z v H',z*y=x->Same H H'->Rep n H' v z->Q v H'
structure FldP(P:Program)(w:World)(K:W.Frag)(mg:Str->Option Value)(base:Heap)(C:Addr)(At:Hp->Addr->Prop)(n:Int):Prop where
 same:∀{H H':Hp} {p:Addr},(∀b o,H b=some o->(∃C' dx fs,o=.ins C' dx fs)->H' b=some o)->At H p->At H' p
 ins:∀{H:Hp} {p:Addr},At H p->∃dx,H p=some (.ins C dx [("prime",.int n)])
 nought:MCal P w K mg base CX0 1 C "nought" ["self"] [] (spNo 0 n At)
 plus:MCal P w K mg base CX0 3 C "plus" ["self","a","b"] [] (spPl n At)
 times:MCal P w K mg base CX0 3 C "times" ["self","a","b"] [] (spTi n At)
 against:MCal P w K mg base CX0 1 C "against" ["self","a"] [] (spAg n At)
 over:MCal P w K mg base (CXe P w) 5 C "over" ["self","a","b"] [] (spOv n At)
theorem zm9{F:Type}[Lean.Grind.Field F][Chr 0 F]{H:Hp}{v:V}{x:F}(h:Rep 0 H v x)(l:Lim 0 8900 x):∃(r:Addr) (p q:Int),v=.ref r/\Pair H r p q/\Nm p q/\x*ic q=ic p:=by
 obtain⟨r,p,q,e,hr,q1,c,ex,h1,h2⟩:=zhi h l;exact⟨r,p,q,e,hr,⟨q1,h1,h2,c⟩,ex⟩
theorem zqk{y w:Int}(hy:1<=y)(hw:1<=w):y*w≠0:=by intro q;rcases Int.mul_eq_zero.mp q with q | q <;> omega
theorem zwj{c:Int}{At:Hp->Addr->Prop}:∀vs H Q E,spNo c 0 At vs H Q E->zt8 c 1 vs H Q E:=λ_ _ _ _ ⟨F,_,_,p,e,_,k⟩=>⟨.ref p,e,λr _ e' h=>k _ _ e' (rep_0.mpr ⟨r,c,1,Z,h,by decide,zmy c,by rw[zfn];grind⟩)⟩
theorem zv6{c n:Int}(hn:Pr n)(c0:0<=c)(c1:c<=1){At:Hp->Addr->Prop}:∀vs H Q E,spNo c n At vs H Q E->spC (.int c) vs H Q E:=λ_ _ _ _ ⟨F,_,_,p,e,_,k⟩=>
 ⟨.ref p,e,k _ _ (Same.refl _) ((zc5 (znn hn)).mpr ⟨c,Z,c0,by have:=hn.1;omega,Z⟩)⟩
theorem zw1{CF:Addr}:∀vs H Q E,spPl 0 (AtF CF) vs H Q E->zkw CF (λx y z w=>x*w+z*y) (λx y z w=>y*w) vs H Q E:=λ_ _ _ _ ⟨F,_,_,p,v1,v2,a,b,e,⟨dx,ha⟩,i1,i2,s1,s2,k⟩=>by
 obtain⟨r1,x,y,rfl,h1,n1,q1⟩:=zm9 i1 s1;obtain⟨r2,z,w,rfl,h2,n2,q2⟩:=zm9 i2 s2;refine⟨p,dx,r1,r2,x,y,z,w,e,ha,h1,h2,n1,n2,λr H' e' h=>k _ _ e' (zg5 (zqk n1.pos n2.pos) h ?_)⟩;rw[zkk,za3,za3,za3,<- q1,<- q2];grind
theorem zvk{CF:Addr}:∀vs H Q E,spTi 0 (AtF CF) vs H Q E->zkw CF (λx y z w=>x*z) (λx y z w=>y*w) vs H Q E:=λ_ _ _ _ ⟨F,_,_,p,v1,v2,a,b,e,⟨dx,ha⟩,i1,i2,s1,s2,k⟩=>by
 obtain⟨r1,x,y,rfl,h1,n1,q1⟩:=zm9 i1 s1;obtain⟨r2,z,w,rfl,h2,n2,q2⟩:=zm9 i2 s2;refine⟨p,dx,r1,r2,x,y,z,w,e,ha,h1,h2,n1,n2,λr H' e' h=>k _ _ e' (zg5 (zqk n1.pos n2.pos) h ?_)⟩;rw[za3,za3,<- q1,<- q2];grind
theorem zwc{CF NO:Addr}:∀vs H Q E,spOv 0 (AtF CF) vs H Q E->zxi CF NO vs H Q E:=λ_ _ _ _ ⟨F,_,_,p,v1,v2,a,b,e,⟨dx,ha⟩,i1,i2,s1,s2,nz,k⟩=>by
 obtain⟨r1,x,y,rfl,h1,n1,q1⟩:=zm9 i1 s1;obtain⟨r2,z,w,rfl,h2,n2,q2⟩:=zm9 i2 s2;have w0:ic (F:=F) w≠0:=zfr (by have:=n2.pos;omega);have y0:ic (F:=F) y≠0:=zfr (by have:=n1.pos;omega);have z0:z≠0:=by
  rintro rfl;rw[zb8]at q2;apply nz;grind
 refine⟨p,dx,r1,r2,x,y,z,w,e,ha,h1,h2,n1,n2,.inl ⟨z0,λr H' e' h=>k (a*b⁻¹) _ _ (by grind) e' (zg5 (zqk n1.pos (n2.tu z0).pos) h ?_)⟩⟩;have fc:ic (F:=F) (fT w z)*ic z=ic w*ic (fB w z):=by rw[<- za3,<- za3,zlh z0]
 have zn:ic (F:=F) z≠0:=zfr z0;show a*b⁻¹ * ic (ovB x y z w)=ic (ovT x y z w);unfold ovB ovT;rw[za3,za3,<- q1];have bb:b⁻¹ * ic z=ic w:=by rw[<- q2];grind
 have key:b⁻¹ * ic (fB w z)*ic z=ic (fT w z)*ic z:=by rw[fc,<- bb];grind
 have key2:b⁻¹ * ic (fB w z)=ic (fT w z):=by grind
 rw[<- key2];grind
theorem zuz{CR:Addr}{n:Int}(hn:Pr n):∀vs H Q E,spPl n (AtR CR n) vs H Q E->zju CR (λn a b=>(a+b)%n) vs H Q E:=λ_ _ _ _ ⟨F,_,_,p,v1,v2,a,b,e,⟨dx,ha⟩,i1,i2,s1,s2,k⟩=>by
 have n0:=znn hn;have p2:=hn.1;obtain⟨x,rfl,x0,x1,q1⟩:=(zc5 n0).mp i1;obtain⟨y,rfl,y0,y1,q2⟩:=(zc5 n0).mp i2;exact⟨p,dx,n,x,y,e,ha,⟨x0,x1⟩,⟨y0,y1⟩,k _ _ (Same.refl _) ((zc5 n0).mpr ⟨_,Z,Jn _ n0,Jd _ (by omega),by rw[zh0,zkk,q1,q2]⟩)⟩
theorem zuu{CR:Addr}{n:Int}(hn:Pr n):∀vs H Q E,spTi n (AtR CR n) vs H Q E->zju CR (λn a b=>a*b%n) vs H Q E:=λ_ _ _ _ ⟨F,_,_,p,v1,v2,a,b,e,⟨dx,ha⟩,i1,i2,s1,s2,k⟩=>by
 have n0:=znn hn;have p2:=hn.1;obtain⟨x,rfl,x0,x1,q1⟩:=(zc5 n0).mp i1;obtain⟨y,rfl,y0,y1,q2⟩:=(zc5 n0).mp i2;exact⟨p,dx,n,x,y,e,ha,⟨x0,x1⟩,⟨y0,y1⟩,k _ _ (Same.refl _) ((zc5 n0).mpr ⟨_,Z,Jn _ n0,Jd _ (by omega),by rw[zh0,za3,q1,q2]⟩)⟩
theorem zwg{CR NO:Addr}{n:Int}(hn:Pr n):∀vs H Q E,spOv n (AtR CR n) vs H Q E->zzn CR NO vs H Q E:=λ_ _ _ _ ⟨F,_,_,p,v1,v2,a,b,e,⟨dx,ha⟩,i1,i2,s1,s2,nz,k⟩=>by
 have n0:=znn hn;have p2:=hn.1;obtain⟨x,rfl,x0,x1,q1⟩:=(zc5 n0).mp i1;obtain⟨y,rfl,y0,y1,q2⟩:=(zc5 n0).mp i2;refine⟨p,dx,n,x,y,e,ha,⟨x0,x1⟩,⟨y0,y1⟩,.inl ⟨?_,λf hf=>k (a*ic f) _ _ ?_ (Same.refl _) ((zc5 n0).mpr ⟨_,Z,Jn _ n0,Jd _ (by omega),by rw[zh0,za3,q1]⟩)⟩⟩
 ·rintro rfl;rw[zb8]at q2;exact nz q2
 ·have h3:ic (F:=F) (f*y-1)=0:=(Chr.z (n:=n) _).mpr ((zr_n n0).mpr hf.2.2);rw[zp8,za3,zfn]at h3;rw[q2];grind
theorem zw8{At:Hp->Addr->Prop}:∀vs H Q E,spAg 0 At vs H Q E->zzi vs H Q E:=λ_ _ _ _ ⟨F,_,_,p,v,a,e,_,iv,k⟩=>by
 obtain⟨r1,x,y,rfl,h1,hy,c1,q1⟩:=rep_0.mp iv;refine⟨.ref p,r1,x,y,e,h1,λr H' e' h=>k _ _ e' (rep_0.mpr ⟨r,_,_,Z,h,hy,by rw[zxe];exact c1,by rw[zoz,<- q1];grind⟩)⟩
theorem zw7{CR:Addr}{n:Int}(hn:Pr n):∀vs H Q E,spAg n (AtR CR n) vs H Q E->zxb CR vs H Q E:=λ_ _ _ _ ⟨F,_,_,p,v,a,e,⟨dx,ha⟩,iv,k⟩=>by
 have n0:=znn hn;have p2:=hn.1;obtain⟨x,rfl,x0,x1,q1⟩:=(zc5 n0).mp iv;exact⟨p,dx,n,x,e,ha,⟨x0,x1⟩,k _ _ (Same.refl _) ((zc5 n0).mpr ⟨_,Z,Jn _ n0,Jd _ (by omega),by rw[zh0,zoz,q1]⟩)⟩
theorem zy3{P:Program}{w:World}{K:W.Frag}{mg:Str->Option Value}{base:Heap}{CF CR:Addr}(h1:MCal P w K mg base CX0 1 CF "nought" ["self"] [] (spNo 0 0 (AtF CF)))
  (h3:MCal P w K mg base CX0 3 CF "plus" ["self","a","b"] [] (spPl 0 (AtF CF))) (h4:MCal P w K mg base CX0 3 CF "times" ["self","a","b"] [] (spTi 0 (AtF CF))) (h5:MCal P w K mg base CX0 1 CF "against" ["self","a"] [] (spAg 0 (AtF CF))) (h6:MCal P w K mg base (CXe P w) 5 CF "over" ["self","a","b"] [] (spOv 0 (AtF CF))):FldP P w K mg base CF (AtN CF CR 0) 0:=by
 have e:AtN CF CR 0=AtF CF:=Yl rfl;rw[e];exact⟨λk ⟨dx,h⟩=>⟨dx,k _ _ h ⟨_,_,_,Z⟩⟩,fun⟨dx,h⟩=>⟨dx,h⟩,h1,h3,h4,h5,h6⟩
theorem zyx{P:Program}{w:World}{K:W.Frag}{mg:Str->Option Value}{base:Heap}{CF CR:Addr}{n:Int}(hn:Pr n)(h1:MCal P w K mg base CX0 1 CR "nought" ["self"] [] (spNo 0 n (AtR CR n)))
  (h3:MCal P w K mg base CX0 3 CR "plus" ["self","a","b"] [] (spPl n (AtR CR n))) (h4:MCal P w K mg base CX0 3 CR "times" ["self","a","b"] [] (spTi n (AtR CR n))) (h5:MCal P w K mg base CX0 1 CR "against" ["self","a"] [] (spAg n (AtR CR n))) (h6:MCal P w K mg base (CXe P w) 5 CR "over" ["self","a","b"] [] (spOv n (AtR CR n))):FldP P w K mg base CR (AtN CF CR n) n:=by
 have e:AtN CF CR n=AtR CR n:=Yh (znn hn);rw[e];exact⟨λk ⟨dx,h⟩=>⟨dx,k _ _ h.1 ⟨_,_,_,Z⟩,h.2⟩,fun⟨dx,h⟩=>⟨dx,h.1⟩,h1,h3,h4,h5,h6⟩
structure Pws(xs:List Int):Prop where
 len:xs.length<=100
 ne:xs≠[]
 nn:Nn xs
 hi:∀x∈xs,x<10^31
theorem ztr(xs:List Int)(i:Nat):xs.getD i 0=0\/xs.getD i 0∈xs:=by
 rw[List.getD_eq_getElem?_getD]
 cases q:xs[i]? with
 | none=>exact .inl rfl
 | some v=>exact .inr (Yx q)
theorem Nn.getD{xs:List Int}(h:Nn xs)(i:Nat):0<=xs.getD i 0:=by
 rcases ztr xs i with q | q
 ·omega
 ·exact h _ q
theorem bits{xs:List Int}(h1:Nn xs)(h2:∀x∈xs,x<10^31)(i:Nat):(xs.getD i 0).natAbs<2^4000:=by
 have h0:=h1.getD i;have h3:(xs.getD i 0).natAbs<2^110:=by
  have e:((2^110:Nat):Int)=2^110:=by decide
  have l:(10:Int)^31<2^110:=by decide
  rcases ztr xs i with q | q
  ·omega
  ·have:=h2 _ q;omega
 exact Yf h3 (Yv (by decide) (by decide))
structure OrdC(C:Addr)(At:Hp->Addr->Prop):Prop where
 same:∀{H H':Hp} {p:Addr},Same H H'->At H p->At H' p
 ins:∀{H:Hp} {p:Addr},At H p->∃dx fs,H p=some (.ins C dx fs)/\∀m:Str,¬m = "weights"->fs.lookup m=none
def AtO(C:Addr)(H:Hp)(p:Addr):Prop:=∃dx,H p=some (.ins C dx [])
def AtW(C:Addr)(ws:List Int)(H:Hp)(p:Addr):Prop:=∃dx wt,H p=some (.ins C dx [("weights",.ref wt)])/\H wt=some (.tup (ws.map V.int))
theorem no_W(v:V)(m:Str)(h:¬m = "weights"):([("weights",v)]:List (Str×V)).lookup m=none:=by
 have e:(m == (Str.ofString "weights"))=false:=by
  cases q:(m == (Str.ofString "weights")) with
  | true=>exact absurd (Jy q) h
  | false=>rfl
 simp only[List.lookup,e]
theorem zne(C:Addr):OrdC C (AtO C):=⟨λe ⟨dx,h⟩=>⟨dx,e _ _ h⟩,fun⟨dx,h⟩=>⟨dx,[],h,λ_ _=>Z⟩⟩
theorem zzo(C:Addr)(ws:List Int):OrdC C (AtW C ws):=⟨λe ⟨dx,wt,h1,h2⟩=>⟨dx,wt,e _ _ h1,e _ _ h2⟩,fun⟨dx,wt,h,_⟩=>⟨dx,_,h,no_W _⟩⟩
def zwd(K:W.Frag):Sp:=λvs H Q _=>∃(a:Addr) (xs:List Int),vs=[.ref a]/\SqT K H a (xs.map V.int)/\Q (.int xs.sum) H
def zfc(At:Hp->Addr->Prop)(rk:List Int->List Int):Sp:=λvs H Q _=>∃(p t:Addr) (xs:List Int),vs=[.ref p,.ref t]/\At H p/\H t=some (.tup (xs.map V.int))/\Pws xs/\∀r H',Same H H'->H' r=some (.tup ((rk xs).map V.int))->Q (.ref r) H'
def zo0(K:W.Frag)(C NO:Addr):Sp:=λvs H Q E=>∃(p dx l:Addr) (ws:List Int),vs=[.ref p,.ref l]/\H p=some (.ins C dx [])/\SqL K H l (ws.map V.int)/\ws.length<=100 /\
 ((Nn ws/\∀wt H',H' p=some (.ins C dx [("weights",.ref wt)])->H' wt=some (.tup (ws.map V.int))->(∀b o,H b=some o->b≠p->H' b=some o)->Q .non H')\/(¬Nn ws/\∀H',Same H H'->E (.ref NO) none H'))
def AtK(CO CD CT CW:Addr)(k:Int)(ws:List Int):Hp->Addr->Prop:=if k=0 then AtO CO else if k=1 then AtO CD else if k=2 then AtO CT else AtW CW ws
noncomputable instance instDecNn(ws:List Int):Decidable (Nn ws):=Classical.propDecidable _
theorem zv1(ws:List Int):((List.range ws.length).map λi=>decide (ws.getD i 0<0)).any id = !decide (Nn ws):=by
 by_cases h:Nn ws
 ·rw[Yo h,Bool.not_true,List.any_eq_false];intro b hb;obtain⟨i,_,rfl⟩:=Jj.mp hb;have:=h.getD i;show decide (ws.getD i 0<0)≠true;rw[Yw (by omega)];decide
 ·rw[Yw h,Bool.not_false,List.any_eq_true];have:∃x∈ws,x<0:=Classical.byContradiction λz=>h λx hx=>by
   rcases(by omega:x<0\/0<=x) with q | q
   ·exact absurd ⟨x,hx,q⟩ z
   ·exact q
  obtain⟨x,hx,q⟩:=this;obtain⟨i,hi,e⟩:=List.mem_iff_getElem.mp hx;exact⟨_,Jj.mpr ⟨i,List.mem_range.mpr hi,Z⟩,by simp[List.getD,hi,e,q]⟩
def zgm(At:Hp->Addr->Prop)(rk:List Int->List Int)(NT:Addr):Sp:=λvs H Q E=>∃(p l:Addr) (ys:List V) (xss:List (List Int)),vs=[.ref p,.ref l]/\At H p/\H l=some (.lst ys)/\Paired (Trm H) xss ys/\(∀xs∈xss,Pws xs) /\
 ((ys=[]/\E (.ref NT) none H)\/(ys≠[]/\∀H' xs v,Same H H'->(xs,v)∈xss.zip ys->(∀p∈xss.zip ys,HT.lexLt (rk xs) (rk p.1)=false)->Q v H'))
def zhl(At:Hp->Addr->Prop)(b:Int->Bool):Sp:=λvs H Q _=>∃(p:Addr) (k:Int),vs=[.ref p,.int k]/\At H p/\∀H',Same H H'->Q (.bl (b k)) H'
def rkk(kd:Int)(ws xs:List Int):List Int:=if kd=0 then rkL xs else if kd=3 then rkW ws xs else if kd=1 then rkD xs else rkT xs
theorem zi1{K:W.Frag}{rk:List Int->List Int}{l:Addr}{all:List V}{sp:V->Hp->VK->Prop}{Q:VK}{H:Hp}{Pw:List Int->Prop}
  (hsp:∀H1 r xs Q,Same H H1->H1 r=some (.tup (xs.map V.int))->Pw xs->(∀k H2,Same H1 H2->H2 k=some (.tup ((rk xs).map V.int))->Q (.ref k) H2)->sp (.ref r) H1 Q):∀(xss:List (List Int)) (ys:List V) (xb:List Int) (b:V) (c:Addr) (H1:Hp) (done:List (List Int)),Same H H1->H1 l=some (.lst all)->Paired (Trm H1) xss ys->(∀xs∈xss,Pw xs) ->
  SqT K H1 c ((rk xb).map V.int)->(∀d∈done,HT.lexLt (rk xb) (rk d)=false) ->
  (∀H' x v,Same H H'->((x,v)=(xb,b)\/(x,v)∈xss.zip ys)->(∀d∈done,HT.lexLt (rk x) (rk d)=false)->(∀d∈xss,HT.lexLt (rk x) (rk d)=false)->Q v H') ->
  mxGo K l all sp ys b (.ref c) H1 Q
 | [],_,xb,b,c,H1,done,e,_,.nil,_,_,hd,hQ=>hQ H1 xb b e (.inl rfl) hd (λ_ h=>nomatch h)
 | xs::xss,_::ys,xb,b,c,H1,done,e,hl,.cons ⟨r,er,hr⟩ t,hw,hc,hd,hQ=>by
  subst er;refine hsp H1 r xs _ e hr (hw xs (.head _)) λk H2 e2 hk2'=>have hk2:=SqT.of (K:=K) hk2';⟨e2 _ _ hl,k,c,rk xs,rk xb,Z,Z,hk2,e2.seqT hc,λhlt=>?_,λhge=>?_⟩
  ·refine zi1 hsp xss ys xs (.ref r) k H2 (xs::xb::done) (e.trans e2) (e2 _ _ hl) (pimp (λ_ _ h=>h.same e2) t) (λx hx=>hw x (.tail _ hx)) hk2 (λd h=>?_) λH' x v e' hm h1 h2=>hQ H' x v e' (.inr ?_) (λd hd'=>h1 d (.tail _ (.tail _ hd'))) (λd hd'=>?_)
   ·rcases Yj.mp h with rfl | h
    ·exact zj3 _
    rcases Yj.mp h with rfl | h
    ·exact zw0 hlt
    ·cases q:HT.lexLt (rk xs) (rk d) with
     | false=>rfl
     | true=>have:=zv9 hlt q;rw[hd d h]at this;cases this
   ·rcases hm with hm | hm
    ·rw[hm];exact .head _
    ·exact .tail _ hm
   ·rcases Yj.mp hd' with rfl | hd'
    ·exact h1 d (.head _)
    ·exact h2 d hd'
  ·refine zi1 hsp xss ys xb b c H2 (xs::done) (e.trans e2) (e2 _ _ hl) (pimp (λ_ _ h=>h.same e2) t) (λx hx=>hw x (.tail _ hx)) (e2.seqT hc) (λd h=>?_) λH' x v e' hm h1 h2=>hQ H' x v e' ?_ (λd hd'=>h1 d (.tail _ hd')) (λd hd'=>?_)
   ·rcases Yj.mp h with rfl | h
    ·exact hge
    ·exact hd d h
   ·rcases hm with hm | hm
    ·exact .inl hm
    ·exact .inr (.tail _ hm)
   ·rcases Yj.mp hd' with rfl | hd'
    ·exact h1 d (.head _)
    ·exact h2 d hd'
theorem zpu{K:W.Frag}{rk:List Int->List Int}{l:Addr}{all:List V}{sp:V->Hp->VK->Prop}{Q:VK}{H:Hp}{Pw:List Int->Prop}
  (hsp:∀H1 r xs Q,Same H H1->H1 r=some (.tup (xs.map V.int))->Pw xs->(∀k H2,Same H1 H2->H2 k=some (.tup ((rk xs).map V.int))->Q (.ref k) H2)->sp (.ref r) H1 Q):∀(xss:List (List Int)) (ys:List V),H l=some (.lst all)->Paired (Trm H) xss ys->(∀xs∈xss,Pw xs)->ys≠[] ->
  (∀H' x v,Same H H'->(x,v)∈xss.zip ys->(∀q∈xss.zip ys,HT.lexLt (rk x) (rk q.1)=false)->Q v H') ->
  zj0 K l all sp ys H Q
 | [],_,_,.nil,_,ne,_=>absurd rfl ne
 | xs::xss,_::ys,hl,.cons ⟨r,er,hr⟩ t,hw,_,k=>by
  subst er;refine hsp H r xs _ (Same.refl _) hr (hw xs (.head _)) λk' H2 e2 hk2'=>have hk2:=SqT.of (K:=K) hk2';⟨e2 _ _ hl,?_⟩
  refine zi1 hsp xss ys xs (.ref r) k' H2 [xs] e2 (e2 _ _ hl) (pimp (λ_ _ h=>h.same e2) t) (λx hx=>hw x (.tail _ hx)) hk2 (λd hd=>?_) λH' x v e' hm g1 g2=>k H' x v e' ?_ λq hq'=>?_
  ·rw[Yq.mp hd];exact zj3 _
  ·rcases hm with hm | hm
   ·rw[hm];exact .head _
   ·exact .tail _ hm
  ·rcases Yj.mp hq' with rfl | hq'
   ·exact g1 _ (.head _)
   ·exact g2 _ (List.of_mem_zip hq').1
theorem zzx{K:W.Frag}{At:Hp->Addr->Prop}{rk:List Int->List Int}{C p l:Addr}{all:List V}(oC:OrdC C At){Q:VK}(xss:List (List Int))(ys:List V)(H:Hp)(hp:At H p)(hl:H l=some (.lst all))(ht:Paired (Trm H) xss ys)(hw:∀xs∈xss,Pws xs)(ne:ys≠[])
  (k:∀H' x v,Same H H'->(x,v)∈xss.zip ys->(∀q∈xss.zip ys,HT.lexLt (rk x) (rk q.1)=false)->Q v H') :
  zj0 K l all (λx H Q=>zfc At rk [.ref p,x] H Q E0) ys H Q:=
 zpu (Pw:=Pws) (λ_ r xs _ e hr px kk=>⟨p,r,xs,Z,oC.same e hp,hr,px,kk⟩) xss ys hl ht hw ne k
def fbK(kd:Int)(ws:List Int)(m:Int):Bool:=if kd=3 then decide ((ws.length:Int)=m) else true
def okR(kd:Int)(ws:List Int)(m:Int):Prop:=1<=m/\m<=4/\fbK kd ws m=true
def zl0(CG NR CO CD CT CW:Addr):Sp:=λvs H Q E=>∃(r dx:Addr) (m:Int) (pf po:Addr) (kd:Int) (ws:List Int),vs=[.ref r,.int m,.ref pf,.ref po]/\H r=some (.ins CG dx [])/\0<=kd/\kd<4/\Nn ws/\(∀x∈ws,x<10^31)/\AtK CO CD CT CW kd ws H po /\
 ((okR kd ws m/\∀H',H' r=some (RgO CG dx m pf po)->(∀b o,H b=some o->b≠r->H' b=some o)->Q .non H')\/(¬okR kd ws m/\∀H',Same H H'->E (.ref NR) none H'))
theorem zr7:((("xyzt" : Str).length:Nat):Int)=4:=by decide +kernel
theorem atI0{a b:V}:atI [a,b] 0=some a:=rfl
theorem atI1{a b:V}:atI [a,b] 1=some b:=rfl
theorem zl(n:Nat)(h:n<=10000000):n<=sizeLine:=Yr h (by rw[sizeLine_eq];decide)
theorem zlt(n:Nat)(h:n<=10000000):n<sizeLine:=Yp h (by rw[sizeLine_eq];decide)
theorem zds{xs:List Int}{i:Nat}(h:i<xs.length):atI (xs.map V.int) (i:Int)=some (.int (xs.getD i 0)):=zcu (by simp[List.getD,h])
structure OrdP(P:Program)(w:World)(K:W.Frag)(mg:Str->Option Value)(base:Heap)(NT C:Addr)(At:Hp->Addr->Prop)(rk:List Int->List Int)(fb:Int->Bool):Prop where
 oC:OrdC C At
 fits:MCal P w K mg base CX0 1 C "fits" ["self","many"] [] (zhl At fb)
 rank:MCal P w K mg base CX0 3 C "rank" ["self","term"] [] (zfc At rk)
 first:MCal P w K mg base (CXe P w) 6 C "first_of" ["self","terms"] [] (zgm At rk NT)
structure RgD where
 m:Nat
 pf:Addr
 po:Addr
 n:Int
 kd:Int
 ws:List Int
def RgD.rk(g:RgD):List Int->List Int:=rkk g.kd g.ws
structure RgP(CG CF CR CO CD CT CW:Addr)(H:Hp)(r:Addr)(g:RgD):Prop where
 nb:g.n<=9973
 np:g.n=0\/Pr g.n
 m1:1<=g.m
 m4:g.m<=4
 k0:0<=g.kd
 k4:g.kd<4
 wn:Nn g.ws
 wb:∀x∈g.ws,x<10^31
 at_:RgAt CG H r g.m g.pf g.po
 fd:AtN CF CR g.n H g.pf
 od:AtK CO CD CT CW g.kd g.ws H g.po
theorem ziq{CF CR:Addr}{n:Int}{H H':Hp}{p:Addr}(k:Fix H H')(h:AtN CF CR n H p):AtN CF CR n H' p:=by
 by_cases z:n=0
 ·subst z;have e:AtN CF CR 0=AtF CF:=Yl rfl;rw[e]at h ⊢;obtain⟨dx,q⟩:=h;exact⟨dx,k.ins q⟩
 ·have e:AtN CF CR n=AtR CR n:=Yh z;rw[e]at h ⊢;obtain⟨dx,q⟩:=h;exact⟨dx,k.ins q.1,q.2⟩
theorem zoy{CO CD CT CW:Addr}{kd:Int}{ws:List Int}{H H':Hp}{p:Addr}(k:Fix H H')(h:AtK CO CD CT CW kd ws H p):AtK CO CD CT CW kd ws H' p:=by
 unfold AtK at h ⊢
 repeat' split at h
 all_goals (first | rw[Yl (by assumption)] | skip)
 all_goals (first | rw[Yh (by assumption)] | skip)
 all_goals (first | rw[Yl (by assumption)] | skip)
 all_goals (first | rw[Yh (by assumption)] | skip)
 all_goals (first | rw[Yl (by assumption)] | skip)
 all_goals (first | rw[Yh (by assumption)] | skip)
 all_goals (first | (obtain⟨dx,q⟩:=h;exact⟨dx,k.ins q⟩) | (obtain⟨dx,wt,q,q'⟩:=h;exact⟨dx,wt,k.ins q,k.tup _ _ q'⟩))
section
variable{CG CF CR CO CD CT CW:Addr}{H H':Hp}{r:Addr}{g:RgD}
theorem RgP.fix(k:Fix H H')(h:RgP CG CF CR CO CD CT CW H r g):RgP CG CF CR CO CD CT CW H' r g:=by
 obtain⟨dx,q⟩:=h.at_;exact⟨h.nb,h.np,h.m1,h.m4,h.k0,h.k4,h.wn,h.wb,⟨dx,k.ins q⟩,ziq k h.fd,zoy k h.od⟩
theorem RgP.same(e:Same H H')(h:RgP CG CF CR CO CD CT CW H r g):RgP CG CF CR CO CD CT CW H' r g:=h.fix (.of e)
theorem zog(kd:Int){ws:List Int}(wn:Nn ws)(m:Nat):OrdM (rkk kd ws) m:=by
 unfold rkk;by_cases c0:kd=0
 ·simp only[c0,if_pos];exact ordL m
 ·by_cases c3:kd=3
  ·simp only[c0,c3,if_neg,if_pos,not_false_eq_true];exact ordW wn m
  ·by_cases c1:kd=1
   ·simp only[c0,c3,c1,if_neg,if_pos,not_false_eq_true];exact ordD m
   ·simp only[c0,c3,c1,if_neg,not_false_eq_true];exact ordT m
theorem RgP.om(h:RgP CG CF CR CO CD CT CW H r g):OrdM g.rk g.m:=zog g.kd h.wn g.m
end
def zue(K:W.Frag):Sp:=λvs H Q _=>∃(a b:Addr) (xs ys:List Int),vs=[.ref a,.ref b]/\SqT K H a (xs.map V.int)/\SqT K H b (ys.map V.int)/\xs.length<=1000/\∀r H',Same H H'->H' r=some (.tup ((addT xs ys).map V.int))->Q (.ref r) H'
def zqm(K:W.Frag):Sp:=λvs H Q _=>∃(a b:Addr) (xs ys:List Int),vs=[.ref a,.ref b]/\SqT K H a (xs.map V.int)/\SqT K H b (ys.map V.int)/\xs.length=ys.length/\xs.length<=1000/\∀H',Same H H'->Q (.bl (zcw xs ys)) H'
def zuk:Sp:=λvs H Q _=>∃(a b:Addr) (xs ys:List Int),vs=[.ref a,.ref b]/\H a=some (.tup (xs.map V.int))/\H b=some (.tup (ys.map V.int))/\xs.length=ys.length/\xs.length<=1000/\zcw xs ys=true/\∀r H',Same H H'->H' r=some (.tup ((subT ys xs).map V.int))->Q (.ref r) H'
def zyw(CG CF CR CO CD CT CW:Addr):Sp:=λvs H Q _=>∃(F:Type) (_:Lean.Grind.Field F) (r d e:Addr) (g:RgD) (_:Chr g.n F) (kvs fvs:List (List Key×V)) (φ ψ : Po F),vs=[.ref r,.ref d,.ref e]/\RgP CG CF CR CO CD CT CW H r g/\d≠e/\H d=some (.dT kvs)/\H e=some (.dT fvs) /\
 PF g.n g.m H kvs φ/\PF g.n g.m H fvs ψ/\kvs.length+fvs.length<sizeLine/\(∀t,Lim g.n 8900 (φ t))/\(∀t,Lim g.n 8900 (ψ t)) /\
 ∀H' kvs',Kp [d] H H'->H' d=some (.dT kvs')->PF g.n g.m H' kvs' (λt=>φ t + ψ t)->kvs'.length<=kvs.length+fvs.length->Q .non H'
def zt7(CG CF CR CO CD CT CW:Addr):Sp:=λvs H Q _=>∃(F:Type) (_:Lean.Grind.Field F) (r:Addr) (v:V) (t e:Addr) (g:RgD) (_:Chr g.n F) (fvs:List (List Key×V)) (x:F) (l:List Int) (ψ : Po F),vs=[.ref r,v,.ref t,.ref e]/\RgP CG CF CR CO CD CT CW H r g /\
 Rep g.n H v x/\Lim g.n 8900 x/\H t=some (.tup (l.map V.int))/\T0 g.m l/\H e=some (.dT fvs)/\PF g.n g.m H fvs ψ/\(∀t,Lim g.n 8900 (ψ t))/\fvs.length<sizeLine /\
 ∀d H' kvs,H d=none->Same H H'->H' d=some (.dT kvs)->PF g.n g.m H' kvs (λt=>x*sh l ψ t)->kvs.length<=fvs.length->Q (.ref d) H'
def TmB{F:Type}[Lean.Grind.Field F](φ : Po F):Prop:=∀t,φ t≠0->∀x∈t,x<10^31
theorem zay{α : Type}{l:List α}{i:Nat}{a : α}(h:l[i]? = some a):i<l.length:=by
 rcases Jh i l.length with q | q
 ·exact q
 ·rw[Yy q]at h;cases h
theorem tms_list{m:Nat}{H:Hp}{l:Addr}{kvs:List (List Key×V)}{us:List (List Int)}{as:List Addr}(h:kvs.map (·.1)=us.map ky)(la:as.length=kvs.length)(hi:∀(i:Nat) k x,kvs[i]? = some (k,x)->∃a,as[i]? = some a/\H a=some (.tup (k.map kV))):Paired (Trm H) us (as.map V.ref):=by
 have lu:us.length=kvs.length:=by have:=Jx List.length h;simpa using this.symm
 have key:∀n,n<=us.length->Paired (Trm H) (us.take n) ((as.map V.ref).take n):=λn=>by
  induction n with
  | zero=>intro _;simp;exact .nil
  | succ n ih=>
   intro hn;have hk:n<kvs.length:=by omega
   obtain⟨a,ha,hH⟩:=hi n kvs[n].1 kvs[n].2 (by simp[hk]);have eu:ky (us[n]'(by omega))=kvs[n].1:=by
    have:=Jx (λx=>x[n]?) h;simp[hk,show n<us.length by omega]at this;exact this.symm
   rw[List.take_add_one,List.take_add_one];have e1:us[n]? = some (us[n]'(by omega)):=Yc (by omega);have e2:(as.map V.ref)[n]? = some (.ref a):=by rw[Ym,ha];rfl
   rw[e1,e2];refine psnoc ⟨a,Z,?_⟩ (ih (by omega));rw[<- eu,zeq]at hH;exact hH
 have:=key us.length (Yi _);rwa [List.take_length,List.take_of_length_le (by rw[Yd];omega)]at this
theorem pz{R:List Int->V->Prop}:∀{l:List (List Int)} {ys:List V},Paired R l ys->∀p∈l.zip ys,R p.1 p.2
 | _,_,.nil,p,hp=>by cases hp
 | _,_,.cons r t,p,hp=>by
  rcases Yj.mp hp with rfl | hp
  ·exact r
  ·exact pz t p hp
theorem zn5{α β : Type}:∀{l:List α} {l':List β} {a : α},l.length=l'.length->a∈l->∃b,(a,b)∈l.zip l'
 | [],_,_,_,h=>by cases h
 | x::l,[],_,h,_=>by simp at h
 | x::l,y::l',a,h,ha=>by
  rcases Yj.mp ha with rfl | ha
  ·exact⟨y,by simp⟩
  ·obtain⟨b,hb⟩:=zn5 (by simpa using h) ha;exact⟨b,by simp[hb]⟩
theorem zgd{X:Cx}{K:W.Frag}(hK:X.K=K)(hu:X.A.units+64<cLine):OpR X (compareOp .NotEq) (zth K true):=by
 subst hK;exact zwm hu
theorem zpe{m:Nat}{t:List Int}(h:T0 m t)(m1:1<=m)(m4:m<=4)(hb:∀x∈t,x<10^31):Pws t:=⟨by rw[h.len];omega,λz=>by have:=h.len;rw[z]at this;simp at this;omega,h.mem,hb⟩
def spFT(CG CF CR CO CD CT CW:Addr):Sp:=λvs H Q E=>∃(F:Type) (_:Lean.Grind.Field F) (r d:Addr) (g:RgD) (_:Chr g.n F) (kvs:List (List Key×V)) (φ : Po F),vs=[.ref r,.ref d]/\RgP CG CF CR CO CD CT CW H r g/\H d=some (.dT kvs)/\PF g.n g.m H kvs φ/\TmB φ/\kvs≠[] /\
 ∀H' t a,Same H H'->H' a=some (.tup (t.map V.int))->Ld g.rk φ t->Q (.ref a) H'
theorem pget{α : Type}{R : α->V->Prop}:∀{l:List α} {ys:List V},Paired R l ys->∀{i:Nat} {v:V},ys[i]? = some v->∃a,l[i]? = some a/\R a v
 | _,_,.nil,_,_,h=>by simp at h
 | _,_,.cons r t,0,_,h=>by simp at h;subst h;exact⟨_,rfl,r⟩
 | _,_,.cons r t,i+1,_,h=>by simp at h;exact pget t h
theorem znr{J:It}{n:Nat}{P:Nat->V->Hp->Prop}{mp:List (Option Nat)}{wi:TI}{g:TG}{tc:TT}{te:TE}{σ : St}{H H1:Hp}{Q:VK}(S:Walk J H1 n P)(hn:n<=1000)(hwi:∀R,R J H1->wi σ H R)(Sv:St->Prop)(p:Nat->Bool)(F:Nat->V->Hp->Prop)
  (monoS:∀i v H H',Same H H'->F i v H->F i v H') (monoU:∀i v H a ys ys',H a=some (.lst ys)->F i v H->F i v (upd H a (.lst ys'))) (h0:Sv (st0 mp σ))
  (step:∀i x σ' H2,i<n->Sv σ'->Same H1 H2->P i x H2->∀(Ny:V->St->Hp->Prop) (Nn:St->Hp->Prop),(∀v σ2 H5,Sv σ2->Same H2 H5->F i v H5->p i=true->Ny v σ2 H5)->(∀σ2 H4,Sv σ2->Same H2 H4->p i=false->Nn σ2 H4) ->
   g x σ' H2 λσ2 H3=>tc σ2 H3 λb H4=>if b=true then te σ2 H4 λv H5=>Ny v σ2 H5 else Nn σ2 H4)
  (hQ:∀D H' ys,H1 D=none->Same H1 H'->H' D=some (.lst ys)->Paired (λi v=>F i v H') ((List.range n).filter p) ys->Q (.ref D) H'):tComp mp wi g tc te σ H Q:=by
 unfold tComp;refine hwi _ λD hD=>?_
 exact zqw S hD (Yr hn (by rw[sizeLine_eq];decide)) Sv p F monoS monoU h0 step λH' ys e hL hF=>hQ D H' ys hD e hL hF
theorem papp{α : Type}{R : α->V->Prop}:∀{l l':List α} {ys zs:List V},Paired R l ys->Paired R l' zs->Paired R (l++l') (ys++zs)
 | _,_,_,_,.nil,h=>h
 | _,_,_,_,.cons r t,h=>.cons r (papp t h)
theorem zte{d:Addr}{o:Obj}{kvs:List (List Key×V)}{g:TG}{tb:TS}{D:Ends}{σ : St}{H:Hp}(Pv:Nat->St->Hp->Prop)(h0:Pv 0 σ H)(hl:∀i σ H,Pv i σ H->FzD H d o kvs)
  (hs:∀i k v σ H b,kvs[i]? = some (k,v)->Pv i σ H->H b=some (.tup (k.map kV))->g (.ref b) σ H λσ2 H2=>tb { D with nx:=Pv (i+1),ct:=Pv (i+1),bk:=D.nx } σ2 H2) (hd:∀σ H,Pv kvs.length σ H->D.nx σ H) :
  ∃W:Nat->Nat->St->Hp->Prop,(∃m,W 0 m σ H)/\∀i m σ H,W i m σ H ->
   ((ItK d o kvs).stop i H/\D.nx σ H)\/((ItK d o kvs).go i H/\∃N:St->Hp->Prop,(∀σ' H',N σ' H'->∃m',m'<m/\W (i+1) m' σ' H')/\∀x H',(ItK d o kvs).yld i H x H'->g x σ H' λσ2 H2=>tb { D with nx:=N,ct:=N,bk:=D.nx } σ2 H2):=by
 refine⟨λi m σ H=>m=kvs.length-i/\i<=kvs.length/\Pv i σ H,⟨kvs.length,by simp,Y2 _,h0⟩,?_⟩;rintro i m σ H ⟨rfl,hi,p⟩;have q:=hl i σ H p;by_cases hlt:i<kvs.length
 ·refine .inr ⟨⟨q,hlt⟩,Pv (i+1),λσ' H' p'=>⟨kvs.length-(i+1),by omega,Z,hlt,p'⟩,λx H' y=>?_⟩;obtain⟨rfl,b,k,v,hk,hb,rfl⟩:=y;exact hs i k v σ H' b hk p hb
 ·have z:i=kvs.length:=by omega
  subst z;exact .inl ⟨⟨q,Yi _⟩,hd σ H p⟩
def Ent(rk:List Int->List Int)(H:Hp)(t:List Int)(v:V):Prop:=∃p r a,v=.ref p/\H p=some (.tup [.ref r,.ref a])/\H r=some (.tup ((rk t).map V.int))/\H a=some (.tup (t.map V.int))
theorem Ent.fix{rk:List Int->List Int}{H H':Hp}{t:List Int}{v:V}(e:Fix H H')(h:Ent rk H t v):Ent rk H' t v:=by
 obtain⟨p,r,a,rfl,h1,h2,h3⟩:=h;exact⟨p,r,a,Z,e.tup _ _ h1,e.tup _ _ h2,e.tup _ _ h3⟩
def eds(rk:List Int->List Int)(us:List (List Int)):List PyData:=us.map λt=>PyData.tuple [PyData.tuple ((rk t).map PyData.int),PyData.tuple (t.map PyData.int)]
theorem zlw{K:W.Frag}{rk:List Int->List Int}{H:Hp}:∀{us:List (List Int)} {ys:List V},Paired (Ent rk H) us ys->RdsAll K H ys (eds rk us)
 | _,_,.nil=>.nil
 | _,_,.cons ⟨p,r,a,er,hp,hr,ha⟩ t=>by subst er;exact .cons (.tup (SqT.of hp) (.cons (.tup (SqT.of hr) (zha _)) (.cons (.tup (SqT.of ha) (zha _)) .nil))) (zlw t)
theorem zqz(rk:List Int->List Int):∀us:List (List Int),PyData.canLayAll0 (eds rk us)=true
 | []=>rfl
 | t::us=>by
  have h:=zqz rk us;simp only[eds,List.map_cons,PyData.canLayAll0,PyData.canLay0,W.ke_canLayAll0]at h ⊢;rw[h];rfl
theorem zjr(rk:List Int->List Int):∀us:List (List Int),PyData.depthAll (eds rk us)<=3
 | []=>by simp[eds,PyData.depthAll]
 | t::us=>by
  have h:=zjr rk us;simp only[eds,List.map_cons,PyData.depthAll,PyData.depth,W.ke_depthAll]at h ⊢;omega
theorem znb(rk:List Int->List Int)(us:List (List Int)):SeqAt.shaped (.list (eds rk us))=true:=by
 have h1:=zqz rk us;have h2:=zjr rk us;unfold SeqAt.shaped;rw[PyData.canLay0,PyData.depth,h1,Bool.true_and,decide_eq_true_eq];omega
theorem zsa(rk:List Int->List Int)(us:List (List Int)):PyData.eqv (.list (eds rk us)) (.list [])=decide (us=[]):=by
 cases us with
 | nil=>rfl
 | cons w ws=>rfl
structure Wa(CT:Addr)(rk:List Int->List Int)(H:Hp)(w po kn ql:Addr)(ks us:List (List Int)):Prop where
 at_:∃dx,H w=some (.ins CT dx [("order",.ref po),("known",.ref kn),("queue",.ref ql)])
 kn:∃kvs,H kn=some (.dT kvs)/\kvs.map (·.1)=ks.map ky
 ql:∃vs,H ql=some (.lst vs)/\Paired (Ent rk H) us vs
 nd:ks.Nodup
theorem Wa.fix{CT:Addr}{rk:List Int->List Int}{H H':Hp}{w po kn ql:Addr}{ks us:List (List Int)}(h:Wa CT rk H w po kn ql ks us)(e:Fix H H')(h1:∀o,H kn=some o->H' kn=some o)(h2:∀o,H ql=some o->H' ql=some o):Wa CT rk H' w po kn ql ks us:=by
 obtain⟨dx,a⟩:=h.at_;obtain⟨kvs,b,c⟩:=h.kn;obtain⟨vs,d,f⟩:=h.ql;exact⟨⟨dx,e.ins a⟩,⟨kvs,h1 _ b,c⟩,⟨vs,h2 _ d,pimp (λ_ _ q=>q.fix e) f⟩,h.nd⟩
theorem Wa.same{CT:Addr}{rk:List Int->List Int}{H H':Hp}{w po kn ql:Addr}{ks us:List (List Int)}(e:Same H H')(h:Wa CT rk H w po kn ql ks us):Wa CT rk H' w po kn ql ks us:=h.fix (.of e) (λo=>e _ o) λo=>e _ o
theorem zp0{po kn ql:Addr}(x:Str)(h1:¬x = "order")(h2:¬x = "known")(h3:¬x = "queue"):([("order",V.ref po),("known",.ref kn),("queue",.ref ql)]:List (Str×V)).lookup x=none:=by
 have e:∀y:Str,¬x=y->(x == y)=false:=λy h=>by
  cases q:(x == y) with
  | true=>exact absurd (Jy q) h
  | false=>rfl
 simp only[List.lookup,e _ h1,e _ h2,e _ h3]
def zqi(CT:Addr):Sp:=λvs H Q _=>∃(w r po kn ql:Addr) (rk:List Int->List Int) (ks us:List (List Int)) (x:List Int),vs=[.ref w,.ref r]/\Wa CT rk H w po kn ql ks us/\H r=some (.tup (x.map V.int)) /\
 (∀(i j:Nat) u v,i<j->us[i]? = some u->us[j]? = some v->HT.lexLt (rk v) x=true->HT.lexLt (rk u) x=true)/\us.length<=sizeLine /\
 ∀i:Nat,i<=us.length->(∀(j:Nat) u,us[j]? = some u->(j<i↔HT.lexLt (rk u) x=true))->Q (.int i) H
def TmOk(m:Nat)(t:List Int):Prop:=T0 m t/\∀x∈t,x<10^31
def ztp(CT CO CD CW CWt:Addr):Sp:=λvs H Q _=>∃(w d po kn ql:Addr) (kd:Int) (ws:List Int) (m:Nat) (ks us ts:List (List Int)) (kvs:List (List Key×V)),vs=[.ref w,.ref d]/\0<=kd/\kd<4/\Nn ws/\(∀x∈ws,x<10^31)/\1<=m/\m<=4/\AtK CO CD CT CW kd ws H po/\Wa CWt (rkk kd ws) H w po kn ql ks us /\
 H d=some (.dT kvs)/\kvs.map (·.1)=ts.map ky/\(∀t∈ts,TmOk m t)/\d≠kn/\us.Pairwise (lt (rkk kd ws))/\(∀u∈us,u∈ks/\T0 m u)/\ks.length+ts.length<sizeLine/\us.length+ts.length<sizeLine /\
 ∀H' ks' us',Kp [kn,ql] H H'->Wa CWt (rkk kd ws) H' w po kn ql ks' us'->us'.Pairwise (lt (rkk kd ws))->(∀z,z∈us'↔z∈us\/(z∈ts/\z ∉ ks))->(∀z,z∈ks'↔z∈ks\/z∈ts)->ks'.length<=ks.length+ts.length->us'.length<=us.length+ts.length->Q .non H'
def zm6(CT CO CD CW CWt:Addr):Sp:=λvs H Q _=>∃(w dx d po:Addr) (kd:Int) (ws:List Int) (m:Nat) (ts:List (List Int)) (kvs:List (List Key×V)),vs=[.ref w,.ref po,.ref d]/\H w=some (.ins CWt dx [])/\po≠w/\0<=kd/\kd<4/\Nn ws/\(∀x∈ws,x<10^31)/\1<=m/\m<=4/\AtK CO CD CT CW kd ws H po /\
 H d=some (.dT kvs)/\kvs.map (·.1)=ts.map ky/\(∀t∈ts,TmOk m t)/\ts.length<sizeLine /\
 ∀H' kn ql ks us,H kn=none->H ql=none->Kp [w] H H'->Wa CWt (rkk kd ws) H' w po kn ql ks us->us.Pairwise (lt (rkk kd ws))->(∀z,z∈us↔z∈ts)->(∀z,z∈ks↔z∈ts)->ks.length<=ts.length->us.length<=ts.length->Q .non H'
theorem zu6{CO CD CT CW:Addr}{kd:Int}{ws:List Int}{H H':Hp}{p a C dx:Addr}(k:Kp [a] H H')(ha:H a=some (.ins C dx []))(h:AtK CO CD CT CW kd ws H p)(hp:p≠a):AtK CO CD CT CW kd ws H' p:=by
 have key:∀b o,H b=some o->b≠a->H' b=some o:=λb o q ne=>k b o q (by simp[ne])
 unfold AtK at h ⊢
 repeat' split at h
 all_goals (first | rw[Yl (by assumption)] | skip)
 all_goals (first | rw[Yh (by assumption)] | skip)
 all_goals (first | rw[Yl (by assumption)] | skip)
 all_goals (first | rw[Yh (by assumption)] | skip)
 all_goals (first | rw[Yl (by assumption)] | skip)
 all_goals (first | rw[Yh (by assumption)] | skip)
 all_goals (first | (obtain⟨dx,q⟩:=h;exact⟨dx,key _ _ q hp⟩) | (obtain⟨dx,wt,q,q'⟩:=h;exact⟨dx,wt,key _ _ q hp,key _ _ q' (zbs q' ha (by intro z;cases z))⟩))
def zx7(CT:Addr):Sp:=λvs H Q _=>∃(w po kn ql:Addr) (rk:List Int->List Int) (ks us:List (List Int)),vs=[.ref w]/\Wa CT rk H w po kn ql ks us/\∀H',Same H H'->Q (.bl (decide (us=[]))) H'
def zp1(CT:Addr):Sp:=λvs H Q _=>∃(w po kn ql:Addr) (rk:List Int->List Int) (ks us:List (List Int)) (t:List Int),vs=[.ref w]/\Wa CT rk H w po kn ql ks (us++[t]) /\
 ∀H' a,Kp [ql] H H'->Wa CT rk H' w po kn ql ks us->H' a=some (.tup (t.map V.int))->Q (.ref a) H'
theorem zni{rk:List Int->List Int}{m:Nat}(O:OrdM rk m){us:List (List Int)}{t:List Int}{i:Nat}(hs:us.Pairwise (lt rk))(h0:∀u∈us,T0 m u)(ht:T0 m t)(hn:t ∉ us)(hi:∀(j:Nat) u,us[j]? = some u->(j<i↔HT.lexLt (rk u) (rk t)=true)):(us.take i++t::us.drop i).Pairwise (lt rk):=by
 have hp:(us.take i++us.drop i).Pairwise (lt rk):=by rw[List.take_append_drop];exact hs
 rw[List.pairwise_append]at hp ⊢;have lo:∀u∈us.take i,lt rk u t:=λu hu=>by
  obtain⟨j,hj⟩:=Je.mp hu;rw[List.getElem?_take]at hj;split at hj
  ·rename_i q;exact(hi j u hj).mp q
  ·cases hj
 have up:∀u∈us.drop i,lt rk t u:=λu hu=>by
  obtain⟨j,hj⟩:=Je.mp hu;rw[List.getElem?_drop]at hj;have um:=Yx hj;rcases zl2 O (h0 u um).len ht.len with q | q | q
  ·have:=(hi _ u hj).mpr q;omega
  ·subst q;exact absurd um hn
  ·exact q
 refine⟨hp.1,?_,λa ha b hb=>?_⟩
 ·rw[List.pairwise_cons];exact⟨λb hb=>up b hb,hp.2.1⟩
 ·rcases Yj.mp hb with rfl | hb
  ·exact lo a ha
  ·exact hp.2.2 a ha b hb
theorem pins{α : Type}{R : α->V->Prop}{l:List α}{ys:List V}(h:Paired R l ys){a : α}{y:V}(r:R a y)(i:Nat):Paired R (l.take i++a::l.drop i) (ys.take i++y::ys.drop i):=by
 have key:∀{l:List α} {ys:List V},Paired R l ys->∀i,Paired R (l.take i) (ys.take i)/\Paired R (l.drop i) (ys.drop i):=by
  intro l ys h;induction h with
  | nil=>intro i;simp;exact .nil
  | cons r t ih=>
   intro i
   cases i with
   | zero=>simp;exact⟨.nil,.cons r t⟩
   | succ i=>simp;exact⟨.cons r (ih i).1,(ih i).2⟩
 exact papp (key h i).1 (.cons r (key h i).2)
theorem zu8{α : Type}{l:List α}{a z : α}(i:Nat):z∈l.take i++a::l.drop i↔z∈l\/z=a:=by
 rw[Jv,Yj];have:z∈l↔z∈l.take i\/z∈l.drop i:=by rw[<- Jv,List.take_append_drop]
 rw[this];constructor
 ·rintro(h | h | h)
  ·exact .inl (.inl h)
  ·exact .inr h
  ·exact .inl (.inr h)
 ·rintro((h | h) | h)
  ·exact .inl h
  ·exact .inr (.inr h)
  ·exact .inr (.inl h)
theorem punsn{α : Type}{R : α->V->Prop}{l:List α}{a : α}{ys:List V}(h:Paired R (l++[a]) ys):∃zs y,ys=zs++[y]/\Paired R l zs/\R a y:=by
 induction l generalizing ys with
 | nil=>cases h with | cons r t=>cases t;exact⟨[],_,rfl,.nil,r⟩
 | cons b l ih=>
  cases h with
  | cons r t=>
   obtain⟨zs,y,e,p,q⟩:=ih t;exact⟨_::zs,y,by rw[e];rfl,.cons r p,q⟩
def LdE(H:Hp)(p:Nat×List Int)(v:V):Prop:=∃q a,v=.ref q/\H q=some (.tup [.int p.1,.ref a])/\H a=some (.tup (p.2.map V.int))
theorem LdE.fix{H H':Hp}{p:Nat×List Int}{v:V}(e:Fix H H')(h:LdE H p v):LdE H' p v:=by
 obtain⟨q,a,rfl,h1,h2⟩:=h;exact⟨q,a,Z,e.tup _ _ h1,e.tup _ _ h2⟩
structure LeA(CL:Addr)(H:Hp)(x pl:Addr)(lds:List (Nat×List Int)):Prop where
 at_:∃dx,H x=some (.ins CL dx [("pairs",.ref pl)])
 pl:∃vs,H pl=some (.lst vs)/\Paired (LdE H) lds vs
theorem LeA.keep{CL:Addr}{H H':Hp}{x pl:Addr}{lds:List (Nat×List Int)}(h:LeA CL H x pl lds)(e:Fix H H')(h1:∀o,H pl=some o->H' pl=some o):LeA CL H' x pl lds:=by
 obtain⟨dx,a⟩:=h.at_;obtain⟨vs,d,f⟩:=h.pl;exact⟨⟨dx,e.ins a⟩,⟨vs,h1 _ d,pimp (λ_ _ q=>q.fix e) f⟩⟩
structure Row{F:Type}[Lean.Grind.Field F](n:Int)(m:Nat)(H:Hp)(b:Addr)(ds:List Addr)(kvss:List (List (List Key×V)))(gs:Nat->Po F):Prop where
 at_:H b=some (.lst (ds.map V.ref))
 len:ds.length=kvss.length
 row:∀(i:Nat) (d:Addr),ds[i]? = some d->∃kvs,kvss[i]? = some kvs/\H d=some (.dT kvs)/\PF n m H kvs (gs i)
 out:∀i,ds.length<=i->∀t,gs i t=0
 b:ds.length<=1000
theorem Row.same{F:Type}[Lean.Grind.Field F]{n:Int}{m:Nat}{H H':Hp}{b:Addr}{ds:List Addr}{kvss:List (List (List Key×V))}{gs:Nat->Po F}(e:Same H H')(h:Row n m H b ds kvss gs):Row n m H' b ds kvss gs:=⟨e _ _ h.at_,h.len,λi d hd=>by
 obtain⟨kvs,h1,h2,h3⟩:=h.row i d hd;exact⟨kvs,h1,e _ _ h2,h3.same e⟩,h.out,h.b⟩
theorem Row.sp{F:Type}[Lean.Grind.Field F]{n:Int}{m:Nat}{H:Hp}{b:Addr}{ds:List Addr}{kvss:List (List (List Key×V))}{gs:Nat->Po F}(h:Row n m H b ds kvss gs)(i:Nat):Spt m (gs i):=λt ht=>by
 rcases Jh i ds.length with c | c
 ·obtain⟨kvs,_,_,q⟩:=h.row i _ (Yc c);exact q.sp t ht
 ·exact absurd (h.out i c t) ht
def zmt(CG CF CR CO CD CT CW CL:Addr):Sp:=λvs H Q _=>∃(F:Type) (_:Lean.Grind.Field F) (x dx r b:Addr) (g:RgD) (_:Chr g.n F) (ds:List Addr) (kvss:List (List (List Key×V))) (gs:Nat->Po F),vs=[.ref x,.ref r,.ref b]/\H x=some (.ins CL dx [])/\RgP CG CF CR CO CD CT CW H r g/\Row g.n g.m H b ds kvss gs/\(∀i,TmB (gs i)) /\
 ∀H' pl lds,H pl=none->Kp [x] H H'->LeA CL H' x pl lds->LdsOk g.rk g.m ds.length gs lds->Q .non H'
def zxy(CL:Addr):Sp:=λvs H Q _=>∃(x a pl:Addr) (m:Nat) (lds:List (Nat×List Int)) (t:List Int),vs=[.ref x,.ref a]/\LeA CL H x pl lds/\H a=some (.tup (t.map V.int))/\t.length=m/\m<=4/\(∀p∈lds,p.2.length=m)/\(lds.Pairwise λa b=>a.1<b.1) /\
 ((∀p∈lds,zcw p.2 t=false)->∀H',Same H H'->Q .non H')/\(∀i l,FitL lds t i l->∀H' q a',Same H H'->H' q=some (.tup [.int (i:Nat),.ref a'])->H' a'=some (.tup (l.map V.int))->Q (.ref q) H')
theorem zjx{α : Type}{A:Nat×α->V->Prop}{B:Nat->α->Prop}:∀{is:List Nat} {vs:List V},Paired (λi v=>∃h,A (i,h) v/\B i h) is vs->∃lds:List (Nat×α),lds.map (·.1)=is/\Paired A lds vs/\∀p∈lds,B p.1 p.2
 | _,_,.nil=>⟨[],rfl,.nil,(λ_ z=>by cases z)⟩
 | _,_,.cons ⟨h,a,b⟩ t=>by
  obtain⟨lds,e,p,q⟩:=zjx t;refine⟨(_,h)::lds,by rw[Yz,e],.cons a p,λx hx=>?_⟩;rcases Yj.mp hx with rfl | hx
  ·exact b
  ·exact q x hx
theorem zks{J:It}{N:Nat}{P:Nat->V->Hp->Prop}{mp:List (Option Nat)}{wi:TI}{σ : St}{H:Hp}{Q:VK}(S:Walk J H N P)(hl:N<=1000)(hwi:∀R:It->Hp->Prop,R J H->wi σ H R)(hst:∃v,st0 mp σ = [v])
  (hQ:∀D H' (ds:List Addr),H D=none->Same H H'->H' D=some (.lst (ds.map V.ref))->ds.length=N->ds.Nodup->(∀d∈ds,H d=none/\H' d=some (.dT [])/\d≠D)->Q (.ref D) H'):tComp mp wi (za0 0) tYes zpj σ H Q:=by
 unfold tComp;refine hwi _ λD hD=>?_
 refine⟨λi m ys σ' H'=>m=N-i/\i<=N/\(∃v,σ'=[v])/\Same H H'/\H' D=some (.lst ys)/\∃ds:List Addr,ys=ds.map V.ref/\ds.length=i/\ds.Nodup/\∀d∈ds,H d=none/\H' d=some (.dT [])/\d≠D,⟨N,Z,Y2 _,hst,Same.upd hD,zab,[],Z,Z,List.nodup_nil,λd hd=>by cases hd⟩,?_⟩;rintro i m ys σ' H' ⟨rfl,hi,⟨v,rfl⟩,hS,hL,ds,rfl,ld,nd,hd⟩;refine⟨hL,?_⟩;by_cases hlt:i<N
 ·refine .inr ⟨S.go i H' hS hlt,Yp (show _<=1000 by rw[Yd];omega) (by rw[sizeLine_eq];decide),λx H2 y=>?_⟩;obtain⟨e2,_⟩:=S.yld i H' x H2 hS hlt y;unfold za0 tYes;dsimp only;rw[Yl rfl];intro p np;have pD:p≠D:=λz=>by rw[z,e2 _ _ hL]at np;cases np
  have e3:Same H2 (upd H2 p (.dT [])):=Same.upd np;have hL3:=e3 _ _ (e2 _ _ hL);refine⟨hL3,N-(i+1),by omega,Z,hlt,⟨_,Z⟩,((hS.trans e2).trans e3).updR hD,zab,ds++[p],by rw[List.map_append];rfl,by simp[ld],?_,λd hd'=>?_⟩
  ·refine List.nodup_append.mpr ⟨nd,by simp,λa ha c hc e=>?_⟩;rw[Yq.mp hc]at e;have:=e2 _ _ (hd a ha).2.1;rw[e,np]at this;cases this
  ·rcases Jv.mp hd' with z | z
   ·obtain⟨h1,h2,h3⟩:=hd d z;exact⟨h1,by rw[zai h3];exact e3 _ _ (e2 _ _ h2),h3⟩
   ·rw[Yq.mp z];refine⟨?_,by rw[zai pD];exact zab,pD⟩;exact(hS.trans e2).free np
 ·have e:i=N:=by omega
  subst e;exact .inl ⟨S.stop H' hS,hQ D H' ds hD hS hL ld nd hd⟩
theorem zs6{K:W.Frag}{mp:List (Option Nat)}{tl:TE}{σ : St}{H:Hp}{b:Addr}{xs:List V}{Q:VK}(hb:SqL K H b xs)(hl:xs.length<=1000)(htl:∀R:V->Hp->Prop,R (.ref b) H->tl σ H R)(hst:∃v,st0 mp σ = [v])
  (hQ:∀D H' (ds:List Addr),H D=none->Same H H'->H' D=some (.lst (ds.map V.ref))->ds.length=xs.length->ds.Nodup->(∀d∈ds,H d=none/\H' d=some (.dT [])/\d≠D)->Q (.ref D) H'):tComp mp (zuo K tl) (za0 0) tYes zpj σ H Q:=zks (zcl hb) hl (λR hR=>htl _ ⟨b,Z,⟨_,hb⟩,hR⟩) hst hQ
theorem zx9{α β : Type}{f : α->β}:∀{l:List α},l.Nodup->(∀a∈l,∀b∈l,f a=f b->a=b)->(l.map f).Nodup
 | [],_,_=>List.nodup_nil
 | x::l,h,hi=>by
  rw[List.nodup_cons]at h;rw[Yz,List.nodup_cons];refine⟨λz=>?_,zx9 h.2 λa ha b hb=>hi a (by simp[ha]) b (by simp[hb])⟩;obtain⟨y,hy,e⟩:=Jj.mp z;rw[hi y (by simp[hy]) x (by simp) e]at hy;exact h.1 hy
structure Qts{F:Type}[Lean.Grind.Field F](n:Int)(m:Nat)(H:Hp)(ql:Addr)(qds:List Addr)(q:Nat->Po F):Prop where
 at_:H ql=some (.lst (qds.map V.ref))
 nd:qds.Nodup
 row:∀(i:Nat) (d:Addr),qds[i]? = some d->∃kvs,H d=some (.dT kvs)/\PF n m H kvs (q i)
theorem Qts.keep{F:Type}[Lean.Grind.Field F]{n:Int}{m:Nat}{H H':Hp}{ql:Addr}{qds:List Addr}{q:Nat->Po F}(h:Qts n m H ql qds q)(e:Fix H H')(h1:∀o,H ql=some o->H' ql=some o)(h2:∀d∈qds,∀o,H d=some o->H' d=some o):Qts n m H' ql qds q:=⟨h1 _ h.at_,h.nd,λi d hd=>by
 obtain⟨kvs,a,b⟩:=h.row i d hd;exact⟨kvs,h2 d (Yx hd) _ a,b.fix e⟩⟩
theorem zhb{F:Type}[Lean.Grind.Field F]{n:Int}{m:Nat}{H:Hp}{kvs:List (List Key×V)}{φ : Po F}{U:List (List Int)}(h:PF n m H kvs φ)(hu:∀t,φ t≠0->t∈U):kvs.length<=U.length:=by
 rw[<- zd0 kvs];exact zcc h.tnd λt ht=>hu t (h.tmem.mp ht)
theorem zqc{F:Type}[Lean.Grind.Field F]{n:Int}{m:Nat}{H:Hp}{kvs:List (List Key×V)}{φ : Po F}{U:List (List Int)}{l:List Int}(hl:l.length=m)(h:PF n m H kvs φ)(hu:∀t,φ t≠0->addT t l∈U):kvs.length<=U.length:=by
 rw[<- zd0 kvs,<- Yd (f:=λt=>addT t l) (as:=tms kvs)];refine zcc (zx9 h.tnd λa ha b hb e=>?_) λt ht=>?_
 ·have a0:=(h.sp a (h.tmem.mp ha)).len;have b0:=(h.sp b (h.tmem.mp hb)).len;refine znq (c:=l) (a0.trans b0.symm) (a0.trans hl.symm) ?_;rw[zis (hl.trans a0.symm),zis (hl.trans b0.symm)];exact e
 ·obtain⟨a,ha,rfl⟩:=Jj.mp ht;exact hu a (h.tmem.mp ha)
structure DvH{F:Type}[Lean.Grind.Field F](n:Int)(m:Nat)(rk:List Int->List Int)(φ : Po F)(gs:Nat->Po F)(U:List (List Int))(J:Nat->Po F->(Nat->Po F)->Po F->Prop):Prop where
 nd:U.Nodup
 ok:∀t∈U,TmOk m t
 b:U.length<=1000000
 f:∀t,φ t≠0->t∈U
 gl:∀i t,Lim n 8900 (gs i t)
 j0:J 0 φ (λ_ _=>0) (λ_=>0)
 jl:∀s lf q ρ,s<=U.length->J s lf q ρ->∀t,Lim n 8900 (lf t)
 js:∀s lf q ρ,s<U.length->J s lf q ρ->J (s+1) lf q ρ
 jr:∀s lf q ρ t,s<U.length->J s lf q ρ->t∈U->Ld rk lf t->(∀i l,Ld rk (gs i) l->zcw l t=false)->J (s+1) (setP lf t 0) q (setP ρ t (lf t))
 jq:∀s lf q ρ t i l x,s<U.length->J s lf q ρ->t∈U->Ld rk lf t->Ld rk (gs i) l->zcw l t=true->(∀j l',j<i->Ld rk (gs j) l'->zcw l' t=false)->x*gs i l=lf t->Lim n 8900 x/\(∀u,Lim n 8900 (x*gs i u))/\(∀u,gs i u≠0->addT (subT t l) u∈U)/\J (s+1) (λz=>lf z-x*sh (subT t l) (gs i) z) (upN q i (setP (q i) (subT t l) x)) ρ
theorem zlc{F:Type}[Lean.Grind.Field F]{rk:List Int->List Int}{m k:Nat}{gs:Nat->Po F}{lds:List (Nat×List Int)}(L:LdsOk rk m k gs lds)(out:∀i,k<=i->∀t,gs i t=0){i:Nat}{l:List Int}(h:Ld rk (gs i) l):(i,l)∈lds:=by
 rcases Jh i k with c | c
 ·obtain⟨l',hl'⟩:=L.all i l c h.1;rwa [h.one (L.ld i l' hl').2]
 ·exact absurd (out i c l) h.1
structure DvC where
 r:Addr
 f:Addr
 b:Addr
 x:Addr
 pl:Addr
 ql:Addr
 rd:Addr
 la:Addr
 wx:Addr
 kn:Addr
 qq:Addr
 qds:List Addr
structure DvS{F:Type}[Lean.Grind.Field F](CL CWt:Addr)(C:DvC)(g:RgD)(k:Nat)(φ : Po F)(gs:Nat->Po F)(lds:List (Nat×List Int))(U:List (List Int))(J:Nat->Po F->(Nat->Po F)->Po F->Prop)(H0 H:Hp)(ks us Dn:List (List Int))(q:Nat->Po F)(S:Nat->List (List Int))(ρ lf:Po F)(rvs lvs:List (List Key×V)):Prop where
 sm:Same H0 H
 le:LeA CL H C.x C.pl lds
 qt:Qts g.n g.m H C.ql C.qds q
 rst:H C.rd=some (.dT rvs)
 rp:PF g.n g.m H rvs ρ
 lft:H C.la=some (.dT lvs)
 lp:PF g.n g.m H lvs lf
 wa:Wa CWt g.rk H C.wx g.po C.kn C.qq ks us
 dv:DvI g.rk g.m k φ gs lds U us Dn q S ρ lf
 km:∀z,z∈ks↔z∈us\/z∈Dn
 j:J Dn.length lf q ρ
theorem DvS.same{F:Type}[Lean.Grind.Field F]{CL CWt:Addr}{C:DvC}{g:RgD}{k:Nat}{φ : Po F}{gs:Nat->Po F}{lds:List (Nat×List Int)}{U:List (List Int)}{J:Nat->Po F->(Nat->Po F)->Po F->Prop}{H0 H H':Hp}{ks us Dn:List (List Int)}{q:Nat->Po F}{S:Nat->List (List Int)}{ρ lf:Po F}{rvs lvs:List (List Key×V)}(h:DvS CL CWt C g k φ gs lds U J H0 H ks us Dn q S ρ lf rvs lvs)(e:Same H H'):DvS CL CWt C g k φ gs lds U J H0 H' ks us Dn q S ρ lf rvs lvs:=
 ⟨h.sm.trans e,h.le.keep (.of e) (λo=>e _ o),h.qt.keep (.of e) (λo=>e _ o) (λ_ _ o=>e _ o),e _ _ h.rst,h.rp.same e,e _ _ h.lft,h.lp.same e,h.wa.same e,h.dv,h.km,h.j⟩
def DvW{F:Type}[Lean.Grind.Field F](CL CWt:Addr)(C:DvC)(g:RgD)(k:Nat)(φ : Po F)(gs:Nat->Po F)(lds:List (Nat×List Int))(U:List (List Int))(J:Nat->Po F->(Nat->Po F)->Po F->Prop)(H0:Hp)(mm:Nat)(σ : St)(H:Hp):Prop:=∃(v8 v9 v10 v11 v12 v13:Option V) (ks us Dn:List (List Int)) (q:Nat->Po F) (S:Nat->List (List Int)) (ρ lf:Po F) (rvs lvs:List (List Key×V)),mm=U.length-Dn.length/\σ = [some (.ref C.r),some (.ref C.f),some (.ref C.b),some (.ref C.x),some (.ref C.ql),some (.ref C.rd),some (.ref C.la),some (.ref C.wx),v8,v9,v10,v11,v12,v13]/\DvS CL CWt C g k φ gs lds U J H0 H ks us Dn q S ρ lf rvs lvs
theorem z0u{pl:Addr}(x:Str)(h1:¬x = "pairs"):([("pairs",V.ref pl)]:List (Str×V)).lookup x=none:=by
 have e:∀y:Str,¬x=y->(x == y)=false:=λy h=>by
  cases q:(x == y) with
  | true=>exact absurd (Jy q) h
  | false=>rfl
 simp only[List.lookup,e _ h1]
theorem zu5{α : Type}{l:List α}(h:l≠[]):∃a t,l=a++[t]:=⟨l.dropLast,l.getLast h,(List.dropLast_concat_getLast h).symm⟩
def zy8(CG CF CR CO CD CT CW:Addr):Sp:=λvs H Q _=>∃(F:Type) (_:Lean.Grind.Field F) (r f b:Addr) (g:RgD) (_:Chr g.n F) (ds:List Addr) (kvss:List (List (List Key×V))) (gs:Nat->Po F) (fvs:List (List Key×V)) (φ : Po F) (U:List (List Int)) (J:Nat->Po F->(Nat->Po F)->Po F->Prop),vs=[.ref r,.ref f,.ref b]/\RgP CG CF CR CO CD CT CW H r g/\Row g.n g.m H b ds kvss gs/\(∀i,TmB (gs i))/\H f=some (.dT fvs)/\PF g.n g.m H fvs φ/\HDs fvs/\DvH g.n g.m g.rk φ gs U J /\
 ∀H' p ql rd qds q S ρ R lds rvs,Same H H'->H' p=some (.tup [.ref ql,.ref rd])->Qts g.n g.m H' ql qds q->qds.length=ds.length->H' rd=some (.dT rvs)->PF g.n g.m H' rvs ρ->LdsOk g.rk g.m ds.length gs lds->Dvd g.rk g.m ds.length φ gs lds q S ρ R->H rd=none->(∀d∈qds,H d=none)->rd ∉ qds->(∃s lf,s<=U.length/\J s lf q ρ)->Q (.ref p) H'
def zx5:Sp:=λvs H Q _=>∃(c:Int),vs=[.int c]/\∀(n:Int) H',Same H H'->Pr n->n<=9973->Q (.int n) H'
def zz1:Sp:=λvs H Q _=>∃(c:Int),vs=[.int c]/\∀(n:Int) H',Same H H'->(n=0\/Pr n)->n<=9973->Q (.int n) H'
def zo6:Sp:=λvs H Q _=>∃(t b:Int),vs=[.int t,.int b]/\0<=b/\(b=0->0<=t)/\Q (.int (gI t b)) H
def zjb:Sp:=λvs H Q _=>∃(F:Type) (_:Lean.Grind.Field F) (n:Int) (_:Chr n F) (t b:Int),vs=[.int n,.int t,.int b]/\(n=0\/Pr n)/\(n=0->1<=b/\b.natAbs<2^8900)/\(n≠0->b=1)/\∀(x:F) v H',x*ic b=ic t->Same H H'->Rep n H' v x->Q v H'
def zqu:Sp:=λvs H Q _=>∃(F:Type) (_:Lean.Grind.Field F) (n:Int) (_:Chr n F) (v1 v2:V) (x y:F) (k j:Nat),vs=[.int n,v1,v2]/\(n=0\/Pr n)/\n<=9973/\Rep n H v1 x/\Rep n H v2 y/\Lim n k x/\Lim n j y/\k+j<=8900/\∀v H',Same H H'->Rep n H' v (x+y)->Q v H'
def zml:Sp:=λvs H Q _=>∃(F:Type) (_:Lean.Grind.Field F) (n:Int) (_:Chr n F) (v1 v2:V) (x y:F) (k j:Nat),vs=[.int n,v1,v2]/\(n=0\/Pr n)/\n<=9973/\Rep n H v1 x/\Rep n H v2 y/\Lim n k x/\Lim n j y/\k+j<=8900/\∀v H',Same H H'->Rep n H' v (x*y)->Q v H'
def zkx(c:Int):Sp:=λvs H Q _=>∃(F:Type) (_:Lean.Grind.Field F) (n:Int) (_:Chr n F),vs=[.int n]/\(n=0\/Pr n)/\∀v H',Same H H'->Rep n H' v (ic c:F)->Q v H'
theorem zlq{n:Int}(h:n=0\/Pr n)(c:¬0<n):n=0:=by
 rcases h with z | z
 ·exact z
 ·have:=z.1;omega
def CGo(J:It)(H1:Hp)(D:Addr)(g:TG)(tc:TT)(te:TE)(σ0:St)(Q:VK):Prop:=∃W:Nat->Nat->List V->St->Hp->Prop,(∃m,W 0 m [] σ0 (upd H1 D (.lst [])))/\∀i m ys σ' H',W i m ys σ' H'->H' D=some (.lst ys) /\
  ((J.stop i H'/\Q (.ref D) H')\/(J.go i H'/\ys.length<sizeLine/\∀x H2,J.yld i H' x H2->g x σ' H2 λσ2 H3=>tc σ2 H3 λb H4=>
   if b=true then te σ2 H4 λv H5=>H5 D=some (.lst ys)/\∃m',m'<m/\W (i+1) m' (ys++[v]) σ2 (upd H5 D (.lst (ys++[v])))
   else ∃m',m'<m/\W (i+1) m' ys σ2 H4))
theorem zit{mp:List (Option Nat)}{wi:TI}{g:TG}{tc:TT}{te:TE}{σ : St}{H:Hp}{Q:VK}(h:wi σ H λJ H1=>∀D,H1 D=none->CGo J H1 D g tc te (st0 mp σ) Q):tComp mp wi g tc te σ H Q:=by unfold tComp;exact h
theorem zqj{J:It}{H1:Hp}{n:Nat}{P:Nat->V->Hp->Prop}{g:TG}{tc:TT}{te:TE}{Q:VK}{σ0:St}{D:Addr}(S:Walk J H1 n P)(hD:H1 D=none)(hn:n<=sizeLine)(Sv:St->Prop)(p:Nat->Bool)(F:Nat->V->Hp->Prop)
  (monoS:∀i v H H',Same H H'->F i v H->F i v H') (monoU:∀i v H ys ys',H D=some (.lst ys)->F i v H->F i v (upd H D (.lst ys'))) (h0:Sv σ0)
  (step:∀i x σ' H2,i<n->Sv σ'->Same H1 H2->P i x H2->(∃ys,H2 D=some (.lst ys))->∀(Ny:V->St->Hp->Prop) (Nn:St->Hp->Prop),(∀v σ2 H5,Sv σ2->Same H2 H5->F i v H5->p i=true->Ny v σ2 H5)->(∀σ2 H4,Sv σ2->Same H2 H4->p i=false->Nn σ2 H4) ->
   g x σ' H2 λσ2 H3=>tc σ2 H3 λb H4=>if b=true then te σ2 H4 λv H5=>Ny v σ2 H5 else Nn σ2 H4)
  (hQ:∀H' ys,Same H1 H'->H' D=some (.lst ys)->Paired (λi v=>F i v H') ((List.range n).filter p) ys->Q (.ref D) H'):CGo J H1 D g tc te σ0 Q:=zr1 S hD hn Sv p F monoS monoU h0 step hQ
theorem u70{k:Nat}{A:Around}(h:Room k A):A.units+70<cLine:=by have:=h.un;omega
theorem zvn{A:Nat->Addr->Prop}{n:Nat}{ys:List V}(h:Paired (λi v=>∃d,v=V.ref d/\A i d) (List.range n) ys):∃ds:List Addr,ys=ds.map V.ref/\ds.length=n/\∀i d,ds[i]? = some d->A i d:=by
 have key:∀{l:List Nat} {ys:List V},Paired (λi v=>∃d,v=V.ref d/\A i d) l ys->∃ds:List Addr,ys=ds.map V.ref:=fun{l ys} h=>by
  induction h with
  | nil=>exact⟨[],rfl⟩
  | cons r _ ih=>obtain⟨d,e,_⟩:=r;obtain⟨ds,q⟩:=ih;exact⟨d::ds,by rw[Yz,e,q]⟩
 obtain⟨ds,e⟩:=key h;have lh:=Paired.length h;rw[List.length_range,e,Yd]at lh;refine⟨ds,e,lh.symm,λi d hd=>?_⟩;have hv:ys[i]? = some (.ref d):=by rw[e,Ym,hd];rfl
 obtain⟨j,hj,d',ed,q⟩:=pget h hv;have hi:i<n:=by rw[lh];exact(List.getElem?_eq_some_iff.mp hd).1
 rw[List.getElem?_range hi]at hj;injection hj with hj;subst hj
 injection ed with ed;subst ed
 exact q
theorem zsv{n:Int}(h2:2<=n)(hn:n<=9973)(h:∀k:Fin 98,((k.val:Int)+2)*((k.val:Int)+2)<=n->Int.fmod n ((k.val:Int)+2)≠0):Pr n:=by
 refine⟨h2,λe h1 hq=>?_⟩;have s:=small h1 hq hn;have q:=h ⟨(e-2).toNat,by omega⟩;have ee:((((⟨(e-2).toNat,by omega⟩:Fin 98).val:Nat):Int))+2=e:=by
  show ((e-2).toNat:Int)+2=e;omega
 rw[ee]at q;exact q hq
def zk5:Sp:=λvs H Q _=>∃(i:Int),vs=[.int i]/\Q (.bl true) H
def zxr:Sp:=λvs H Q _=>∃(F:Type) (_:Lean.Grind.Field F) (n:Int) (_:Chr n F) (v:V) (x:F),vs=[.int n,v]/\(n=0\/Pr n)/\Rep n H v x/\x≠0/\Q (.bl true) H
def zw6:Sp:=λvs H Q _=>∃(F:Type) (_:Lean.Grind.Field F) (n:Int) (_:Chr n F) (m:Nat) (d:Addr) (kvs:List (List Key×V)) (φ : Po F),vs=[.int n,.int m,.ref d]/\(n=0\/Pr n)/\m<=4/\H d=some (.dT kvs)/\PF n m H kvs φ/\∀H',Same H H'->Q (.bl true) H'
def zyt:Sp:=λvs H Q _=>∃(F:Type) (_:Lean.Grind.Field F) (n:Int) (_:Chr n F) (m:Nat) (l:Addr) (ds:List Addr) (q:Nat->Po F),vs=[.int n,.int m,.int ds.length,.ref l]/\(n=0\/Pr n)/\m<=4/\ds.length<=1000/\Qts n m H l ds q/\∀H',Same H H'->Q (.bl true) H'
def zoq(CO CD CT CW:Addr):Sp:=λvs H Q _=>∃(l:Addr) (kd:Int) (ws:List Int),vs=[.int kd,.ref l]/\0<=kd/\kd<4/\H l=some (.lst (ws.map V.int))/\ws.length<=100/\Nn ws/\∀p H',Same H H'->AtK CO CD CT CW kd ws H' p->Q (.ref p) H'
def zzw:Sp:=λvs H Q _=>∃(b:Addr) (ds:List Addr) (kvss:List (List (List Key×V))),vs=[.ref b]/\H b=some (.lst (ds.map V.ref))/\ds.length=kvss.length/\ds.length<=1000/\(∀(i:Nat) d kvs,ds[i]? = some d->kvss[i]? = some kvs->H d=some (.dT kvs)/\HDs kvs) /\
 ∀(D:Addr) (dh:List Addr) (H':Hp),H D=none->Same H H'->H' D=some (.lst (dh.map V.ref))->dh.length=ds.length->(∀(i:Nat) d kvs,dh[i]? = some d->kvss[i]? = some kvs->H' d=some (.dT kvs))->Q (.ref D) H'
def zl8:Sp:=λvs H Q _=>∃(F:Type) (_:Lean.Grind.Field F) (n:Int) (_:Chr n F) (m:Nat) (d:Addr) (v:V) (t e:Addr) (kvs fvs:List (List Key×V)) (φ ψ : Po F) (x:F) (l:List Int) (k1 k2 k3:Nat),vs=[.int n,.ref d,v,.ref t,.ref e]/\(n=0\/Pr n)/\n<=9973/\m<=4/\d≠e/\Rep n H v x/\H t=some (.tup (l.map V.int))/\T0 m l/\H d=some (.dT kvs)/\H e=some (.dT fvs)/\PF n m H kvs φ/\PF n m H fvs ψ/\kvs.length+fvs.length<sizeLine/\Lim n k1 x/\(∀t,Lim n k2 (ψ t))/\(∀t,Lim n k3 (φ t))/\k1+k2+k3<=8900 /\
 ∀H' kvs',Kp [d] H H'->H' d=some (.dT kvs')->PF n m H' kvs' (λt=>φ t+x*sh l ψ t)->kvs'.length<=kvs.length+fvs.length->Q .non H'
theorem ze1(ns:List Int):SeqAt.shaped (.list (ns.map PyData.int))=true:=by
 simp[SeqAt.shaped,PyData.canLay0,PyData.depth,W.ke_canLayAll0,W.ke_depthAll]
def zt3(CF CR:Addr):Sp:=λvs H Q _=>∃(n:Int),vs=[.int n]/\(n=0\/Pr n)/\n<=9973/\∀pf H',Same H H'->AtN CF CR n H' pf->Q (.ref pf) H'
theorem zmi:∀{xs ws:List Int},ws.length=xs.length->(List.range xs.length).map (λi=>ws.getD i 0*xs.getD i 0)=List.zipWith (λa b=>a*b) xs ws
 | [],_,_=>by simp
 | x::xs,[],h=>by simp at h
 | x::xs,w::ws,h=>by
  rw[Y5,List.range_succ_eq_map,Yz,Ji,List.zipWith_cons_cons,<- zmi (by simpa using h),Int.mul_comm x w];rfl
def zya:Sp:=λvs H Q _=>∃(l t:Addr) (kd:Int) (ws xs:List Int),vs=[.int kd,.ref l,.ref t]/\0<=kd/\kd<4/\H l=some (.lst (ws.map V.int))/\ws.length=xs.length/\Nn ws/\(∀x∈ws,x<10^31)/\H t=some (.tup (xs.map V.int))/\Pws xs/\∀p H',Same H H'->H' p=some (.tup ((rkk kd ws xs).map V.int))->Q (.ref p) H'
def zyg:Sp:=λvs H Q _=>∃(a b:Addr) (xs ys:List Int),vs=[.ref a,.ref b]/\H a=some (.tup (xs.map V.int))/\H b=some (.tup (ys.map V.int))/\xs.length=ys.length/\xs.length<=1000/\∀H',Same H H'->Q (.bl (zcw xs ys)) H'
def zoe(Pt:Addr)(lp:Pos)(ql:Str):Sp:=λvs H Q _=>∃(l d:Addr) (kd:Int) (ws:List Int) (m:Nat) (kvs:List (List Key×V)) (ts:List (List Int)),vs=[.int kd,.ref l,.ref d]/\0<=kd/\kd<4/\H l=some (.lst (ws.map V.int))/\ws.length=m/\Nn ws/\(∀x∈ws,x<10^31)/\1<=m/\m<=4/\H d=some (.dT kvs)/\kvs.map (·.1)=ts.map ky/\ts≠[]/\(∀t∈ts,TmOk m t)/\Tb Pt lp ql H /\
 ∀p H' t,t∈ts->(∀u∈ts,u=t\/lt (rkk kd ws) u t)->(∀b o,H b=some o->b≠Pt->H' b=some o)->Tb Pt lp ql H'->H' p=some (.tup (t.map V.int))->Q (.ref p) H'
def lpB:Pos:=⟨394,33,394,101⟩
def qlB:Str:=(PyProof.Rows.envOfC (Str.ofString "_law_lead") (zah zcf) 0 0 .none).qual++Str.ofString "<lambda>"
theorem zjg{Pt:Addr}{lp:Pos}{ql:Str}{H H':Hp}(h:Tb Pt lp ql H)(e:Same H H'):Tb Pt lp ql H':=h.imp (λz=>e _ _ z) fun⟨c,h1,h2,h3⟩=>⟨c,h1,e _ _ h2,e _ _ h3⟩
theorem zps{scope:Scope}{x y z g:Str}(hs:scope.names=[(x,.local),(y,.free),(z,.free),(g,.globalImplicit)]):∀w,(scope.names.lookup w=some .cell\/scope.names.lookup w=some .free)->w∈[y,z]:=λw hw=>by
 have key:∀{k:NameKind},scope.names.lookup w=some k->(w,k)∈scope.names:=fun{k} h=>by
  generalize scope.names=l at h;induction l with
  | nil=>cases h
  | cons p l ih=>
   obtain⟨a,b⟩:=p;rw[Jm]at h;split at h
   ·rename_i e
    cases h;rw[Jy e];exact .head _
   ·exact .tail _ (ih h)
 rcases hw with h | h
 ·have:=key h;rw[hs]at this;simp at this
 ·have:=key h;rw[hs]at this;simp at this;rcases this with⟨rfl,_⟩ | ⟨rfl,_⟩ <;> simp
def zzs:Sp:=λvs H Q _=>∃(m:Nat) (c:Int),vs=[.int m,.int c]/\m<=3/\0<=c/\c<10^41/\∀l (ws:List Int) H',Same H H'->H' l=some (.lst (ws.map V.int))->ws.length=m->Nn ws->(∀x∈ws,x<10^31)->Q (.ref l) H'
theorem zyd(xs:List V)(m:Nat):cutV xs none (some (m:Int))=xs.take m:=by
 unfold cutV;rw[HT.sIx_none,HT.sIx_nat,List.drop_zero,Nat.sub_zero];rcases Nat.le_total m xs.length with c | c
 ·rw[Nat.min_eq_left c]
 ·rw[Nat.min_eq_right c,List.take_length,List.take_of_length_le c]
theorem z0s:(0:Int)<10^Int.toNat 30/\(10:Int)^Int.toNat 30<10^31:=by decide
section
variable{F:Type}[Lean.Grind.Field F]{n:Int}
def IB(n D:Int)(M:Nat)(φ : Po F):Prop:=n=0->∀t,∃N:Int,φ t*ic D=ic N/\N.natAbs<=M
theorem IB.lim{D:Int}{M k:Nat}{φ : Po F}(h:IB n D M φ)(d0:D≠0)(h1:M<2^k)(h2:D.natAbs<2^k)(t:List Int):Lim n k (φ t):=λz=>by
 obtain⟨N,e,b⟩:=h z t;exact⟨N,D,d0,e,Yp b h1,h2⟩
theorem IB.up{D:Int}{M M':Nat}{φ : Po F}(h:IB n D M φ)(hm:M<=M'):IB n D M' φ:=λz t=>by
 obtain⟨N,e,b⟩:=h z t;exact⟨N,e,Yr b hm⟩
theorem IB.zero{D:Int}{M:Nat}:IB n D M (λ_=>(0:F)):=λ_ _=>⟨0,by rw[zb8];grind,Y2 _⟩
theorem IB.congr{D:Int}{M:Nat}{φ ψ : Po F}(h:IB n D M φ)(e:∀t,φ t = ψ t):IB n D M ψ:=by rw[<- show φ = ψ from funext e];exact h
theorem IB.add{D E:Int}{M A B:Nat}{φ ψ : Po F}{x:F}(h:IB n (D*E) M φ)(hx:n=0->∃X:Int,x*ic D=ic X/\X.natAbs<=A)(hp:IB n E B ψ)(l:List Int):IB n (D*E) (M+A*B) (λt=>φ t+x*sh l ψ t):=λz t=>by
 obtain⟨N,e,b⟩:=h z t;obtain⟨X,ex,bx⟩:=hx z;have:∃Y:Int,sh l ψ t*ic E=ic Y/\Y.natAbs<=B:=by
  unfold sh;split
  ·exact hp z _
  ·exact⟨0,by rw[zb8];grind,Y2 _⟩
 obtain⟨Y,ey,by_⟩:=this;refine⟨N+X*Y,?_,?_⟩
 ·rw[zkk,za3,za3,<- ex,<- ey];rw[za3]at e;rw[<- e];grind
 ·have h1:(X*Y).natAbs<=A*B:=by rw[Int.natAbs_mul];exact Nat.mul_le_mul bx by_
  omega
theorem zmn(S:List (List Int))(o:List Int)(φ ψ : Po F)(t:List Int):mul (S++[o]) φ ψ t=mul S φ ψ t + φ o*sh o ψ t:=by
 unfold mul;rw[zk7]
def zfo(H:Hp)(ds:List Addr)(i:Nat):List (List Key×V):=match ds[i]? with
 | some d=>match H d with
  | some (.dT kv)=>kv
  | _=>[]
 | none=>[]
theorem zke{H:Hp}{ds:List Addr}{i:Nat}{d:Addr}{kv:List (List Key×V)}(h:ds[i]? = some d)(h':H d=some (.dT kv)):zfo H ds i=kv:=by
 unfold zfo;rw[h];simp only;rw[h']
structure SumH(n:Int)(m:Nat)(H:Hp)(ql:Addr)(qds:List Addr)(q:Nat->Po F)(b:Addr)(ds:List Addr)(kvss:List (List (List Key×V)))(gs:Nat->Po F)(D E:Int)(A B Lq Lg k1 k2 k3:Nat):Prop where
 qt:Qts n m H ql qds q
 rw_:Row n m H b ds kvss gs
 ll:qds.length=ds.length
 dj:∀d∈qds,d ∉ ds
 d0:D≠0
 e0:E≠0
 qa:∀i,IB n D A (q i)
 gb:∀i,IB n E B (gs i)
 lq:∀(i:Nat) d kvs,qds[i]? = some d->H d=some (.dT kvs)->kvs.length<=Lq
 lg:∀(i:Nat) d kvs,ds[i]? = some d->H d=some (.dT kvs)->kvs.length<=Lg
 b1:A<2^k1/\D.natAbs<2^k1
 b2:B<2^k2/\E.natAbs<2^k2
 b3:ds.length*Lq*(A*B)<2^k3/\(D*E).natAbs<2^k3
 b4:k1+k2+k3<=8900
 b5:(ds.length*Lq+1)*Lg<sizeLine
end
def ztw:Sp:=λvs H Q _=>∃(F:Type) (_:Lean.Grind.Field F) (n:Int) (_:Chr n F) (m:Nat) (ql:Addr) (qds:List Addr) (q:Nat->Po F) (b:Addr) (ds:List Addr) (kvss:List (List (List Key×V))) (gs:Nat->Po F) (D E:Int) (A B Lq Lg k1 k2 k3:Nat),vs=[.int n,.int m,.ref ql,.ref b]/\(n=0\/Pr n)/\n<=9973/\m<=4/\SumH n m H ql qds q b ds kvss gs D E A B Lq Lg k1 k2 k3 /\
 ∀d H' kvs,H d=none->Same H H'->H' d=some (.dT kvs)->(∀S:Nat->List (List Int),(∀i,(S i).Nodup)->(∀i t,q i t≠0->t∈S i)->PF n m H' kvs (λt=>sm (λi=>mul (S i) (q i) (gs i) t) (List.range ds.length))/\IB n (D*E) (ds.length*Lq*(A*B)) (λt=>sm (λi=>mul (S i) (q i) (gs i) t) (List.range ds.length)))->kvs.length<=ds.length*Lq*Lg->Q (.ref d) H'
def zpt:Sp:=λvs H Q _=>∃(F:Type) (_:Lean.Grind.Field F) (n:Int) (_:Chr n F) (c:Int),vs=[.int n,.int c]/\(n=0\/Pr n)/\∀(x:F) v H',x≠0->(n=0->∃X:Int,x*ic 6=ic X/\X.natAbs<=120)->Same H H'->Rep n H' v x->Q v H'
def tpB(n:Int)(m:Nat):Int:=if n=0 then(if m=1 then 5 else if m=2 then 2 else 1) else(if m=1 then 9 else if m=2 then 3 else 1)
theorem zoi(n:Int)(m:Nat):1<=tpB n m/\tpB n m<=9:=by unfold tpB;repeat' split <;> omega
def BxP{F:Type}[Lean.Grind.Field F](n:Int)(m:Nat)(φ : Po F):Prop:=∀t,φ t≠0->T0 m t/\∀x∈t,x<=tpB n m
structure PRow{F:Type}[Lean.Grind.Field F](n:Int)(m:Nat)(H0 H:Hp)(l:Addr)(ds:List Addr)(gs:Nat->Po F)(M:Nat):Prop where
 at_:H l=some (.lst (ds.map V.ref))
 nd:ds.Nodup
 fr:∀d∈ds,H0 d=none/\d≠l
 row:∀(i:Nat) (d:Addr),ds[i]? = some d->∃kvs,H d=some (.dT kvs)/\PF n m H kvs (gs i)/\kvs.length<=M
 bx:∀i,BxP n m (gs i)
 ib:∀i,IB n 6 (M*120) (gs i)
 out:∀i,ds.length<=i->∀t,gs i t=0
theorem PRow.step{F:Type}[Lean.Grind.Field F]{n:Int}{m:Nat}{H0 H H':Hp}{l:Addr}{ds:List Addr}{gs:Nat->Po F}{M j:Nat}{d:Addr}{kv':List (List Key×V)}{φ':Po F}(h:PRow n m H0 H l ds gs M)(hj:ds[j]? = some d)(kp:∀b o,H b=some o->b≠d->H' b=some o)(hd:H' d=some (.dT kv'))(pf:PF n m H' kv' φ')(lk:kv'.length<=M+1)(bx:BxP n m φ')(ib:IB n 6 ((M+1)*120) φ'):PRow n m H0 H' l ds (upN gs j φ') (M+1):=by
 obtain⟨kv,hd0,_⟩:=h.row j d hj;have fx:Fix H H':=λb o hb n1 _ _=>kp b o hb λz=>by rw[z,hd0]at hb;injection hb with hb;exact n1 _ hb.symm
 refine⟨kp _ _ h.at_ (Jc (h.fr d (Yx hj)).2),h.nd,h.fr,λi d' hi=>?_,λi=>?_,λi=>?_,λi hi t=>?_⟩
 ·by_cases c:i=j
  ·subst c;rw[hj]at hi;cases hi;rw[zg2];exact⟨kv',hd,pf,lk⟩
  ·rw[zd8 c];obtain⟨kv2,h1,h2,h3⟩:=h.row i d' hi;have nd':d'≠d:=λz=>by
    subst z;exact c ((List.getElem?_inj (zay hi) h.nd).mp (hi.trans hj.symm))
   exact⟨kv2,kp _ _ h1 nd',h2.fix fx,Nat.le_succ_of_le h3⟩
 ·by_cases c:i=j
  ·subst c;rw[zg2];exact bx
  ·rw[zd8 c];exact h.bx i
 ·by_cases c:i=j
  ·subst c;rw[zg2];exact ib
  ·rw[zd8 c];exact(h.ib i).up (Y4 _ (Nat.le_succ _))
 ·have:i≠j:=λz=>by have:=zay hj;omega
  rw[zd8 this];exact h.out i hi t
theorem zz4{F:Type}[Lean.Grind.Field F]{m:Nat}{l t:List Int}(hl:l.length=m)(h:sh l (setP (λ_=>(0:F)) (zer m) 1) t≠0):t=l:=by
 unfold sh at h;split at h
 ·rename_i e
  have z:subT t l=zer m:=Classical.byContradiction λz=>h (zbo z)
  rw[<- zgl e,z,zis (by rw[zd5,hl]),ztj hl]
 ·exact absurd rfl h
def zq0(K:W.Frag):Sp:=λvs H Q _=>∃(F:Type) (_:Lean.Grind.Field F) (n:Int) (_:Chr n F) (m cnt:Nat) (l:Addr) (cs:List Int),vs=[.int n,.int m,.int cnt,.ref l]/\(n=0\/Pr n)/\n<=9973/\1<=m/\m<=3/\1<=cnt/\cnt<=5/\SqL K H l (cs.map V.int)/\cs.length<=44 /\
 ∀D H' ds (gs:Nat->Po F),H D=none->Same H H'->ds.length=cnt->PRow n m H H' D ds gs cs.length->Q (.ref D) H'
theorem zv0{J:It}{H1 Hm:Hp}{n:Nat}{P:Nat->V->Hp->Prop}{g:TG}{te:TE}{Q:VK}{σ0:St}{D:Addr}(S:Walk J Hm n P)(hn:n<=1000)(Sv:St->Prop)(I:Nat->List V->Hp->Prop)(h0:Sv σ0)(hI0:I 0 [] (upd H1 D (.lst [])))
  (hw:∀i ys H',I i ys H'->Same Hm H'/\H' D=some (.lst ys)/\ys.length=i)
  (step:∀i x σ' H' H2 ys,i<n->Sv σ'->I i ys H'->Same H' H2->P i x H2->∀(Ny:V->St->Hp->Prop),(∀v σ2 H5,Sv σ2->H5 D=some (.lst ys)->I (i+1) (ys++[v]) (upd H5 D (.lst (ys++[v])))->Ny v σ2 H5)->g x σ' H2 λσ2 H3=>te σ2 H3 λv H5=>Ny v σ2 H5)
  (hQ:∀ys H',I n ys H'->Q (.ref D) H'):CGo J H1 D g tYes te σ0 Q:=by
 refine⟨λi m ys σ' H'=>m=n-i/\i<=n/\Sv σ'/\I i ys H',⟨n,Z,Y2 _,h0,hI0⟩,?_⟩;rintro i m ys σ' H' ⟨rfl,hi,sv,hI⟩;obtain⟨s1,s2,s3⟩:=hw i ys H' hI;refine⟨s2,?_⟩;by_cases hlt:i<n
 ·refine .inr ⟨S.go i H' s1 hlt,Yp (show ys.length<=1000 by omega) (by rw[sizeLine_eq];decide),λx H2 y=>?_⟩;obtain⟨e2,hp⟩:=S.yld i H' x H2 s1 hlt y;have:=step i x σ' H' H2 ys hlt sv hI e2 hp (λv σ2 H5=>H5 D=some (.lst ys)/\∃m',m'<n-i/\(m'=n-(i+1)/\i+1<=n/\Sv σ2/\I (i+1) (ys++[v]) (upd H5 D (.lst (ys++[v]))))) λv σ2 H5 h1 h2 h3=>⟨h2,n-(i+1),by omega,Z,hlt,h1,h3⟩
  unfold tYes;simp only[if_true];exact this
 ·have:i=n:=by omega
  subst this;exact .inl ⟨S.stop H' s1,hQ ys H' hI⟩
def LdV(H:Hp)(o:Option (List Int))(v:V):Prop:=match o with
 | none=>v=.non
 | some l=>∃p,v=.ref p/\H p=some (.tup (l.map V.int))
theorem LdV.keep{H H':Hp}{o:Option (List Int)}{v:V}(k:∀b xs,H b=some (.tup xs)->H' b=some (.tup xs))(h:LdV H o v):LdV H' o v:=by
 cases o with
 | none=>exact h
 | some l=>obtain⟨p,h1,h2⟩:=h;exact⟨p,h1,k _ _ h2⟩
structure LdL(H:Hp)(D:Addr)(lds:List (Option (List Int))):Prop where
 ex:∃ys,H D=some (.lst ys)/\Paired (LdV H) lds ys
theorem LdL.keep{H H':Hp}{D:Addr}{lds:List (Option (List Int))}(h:LdL H D lds)(k:∀b xs,H b=some (.tup xs)->H' b=some (.tup xs))(hD:∀o,H D=some o->H' D=some o):LdL H' D lds:=by
 obtain⟨ys,h1,h2⟩:=h.ex;exact⟨ys,hD _ h1,pimp (λ_ _ q=>q.keep k) h2⟩
def zts(Pt:Addr):Sp:=λvs H Q _=>∃(F:Type) (_:Lean.Grind.Field F) (n:Int) (l b:Addr) (kd:Int) (ws:List Int) (m:Nat) (ds:List Addr) (kvss:List (List (List Key×V))) (gs:Nat->Po F),vs=[.int kd,.ref l,.ref b]/\0<=kd/\kd<4/\H l=some (.lst (ws.map V.int))/\ws.length=m/\Nn ws/\(∀x∈ws,x<10^31)/\1<=m/\m<=4/\Row n m H b ds kvss gs/\(∀i,TmB (gs i))/\Tb Pt lpB qlB H /\
 ∀D H' (lds:List (Option (List Int))),H D=none->lds.length=ds.length->(∀b o,H b=some o->b≠Pt->H' b=some o)->Tb Pt lpB qlB H'->LdL H' D lds->(∀i l,lds[i]? = some (some l)->Ld (rkk kd ws) (gs i) l)->(∀i:Nat,lds[i]? = some none->∀t,gs i t=0)->Q (.ref D) H'
theorem zl6{α : Type}{l:List α}{a b : α}{i:Nat}(h:(l++[a])[i]? = some b):l[i]? = some b\/(i=l.length/\b=a):=by
 rcases Nat.lt_trichotomy i l.length with c | c | c
 ·rw[List.getElem?_append_left c]at h;exact .inl h
 ·subst c;rw[List.getElem?_concat_length]at h;cases h;exact .inr ⟨Z,Z⟩
 ·rw[Yy (by rw[Y6];simp;omega)]at h;cases h
def zoo:Sp:=λvs H Q _=>∃(D t:Addr) (lds:List (Option (List Int))) (xs:List Int),vs=[.ref D,.ref t]/\LdL H D lds/\lds.length<=1000/\H t=some (.tup (xs.map V.int))/\xs.length<=1000/\(∀(i:Nat) l,lds[i]? = some (some l)->zcw l xs=false/\l.length=xs.length)/\∀H',Same H H'->Q (.bl true) H'
def zxh:Sp:=λvs H Q _=>∃(l:Addr) (ds:List Addr) (kvss:List (List (List Key×V))),vs=[.ref l]/\H l=some (.lst (ds.map V.ref))/\ds.Nodup/\ds.length<=1000/\ds.length=kvss.length/\(∀(i:Nat) d kvs,ds[i]? = some d->kvss[i]? = some kvs->H d=some (.dT kvs)/\(∀p∈kvs,∃t:List Int,p.1=ky t)/\kvs.length<=1000000)/\∀H',(∀b o,H b=some o->b ∉ ds->H' b=some o)->Q (.bl true) H'
theorem zhq{K:W.Frag}{H:Hp}:∀ns:List Int,RdsAll K H (ns.map V.int) (ns.map PyData.int)
 | []=>.nil
 | n::ns=>.cons (.int _) (zhq ns)
theorem zsp{kvs:List (List Key×V)}{k:List Key}{v:V}(h:k ∉ kvs.map (·.1)):putK kvs k v=kvs++[(k,v)]:=by
 unfold putK;rw[Yh];intro z;obtain⟨p,hp,e⟩:=List.any_eq_true.mp z;exact h (Jj.mpr ⟨p,hp,Jk e⟩)
theorem zqo(ns:List Int):PyData.eqv (.list (ns.map PyData.int)) (.list (ns.map PyData.int))=true:=by
 rw[PyData.eqv,zjh];exact Yo rfl
def zxc:Sp:=λvs H Q _=>∃(F:Type) (_:Lean.Grind.Field F) (n:Int) (m:Nat) (b D ql:Addr) (ds qds:List Addr) (kvss:List (List (List Key×V))) (gs q:Nat->Po F) (lds:List (Option (List Int))),vs=[.ref b,.ref D,.ref ql]/\m<=4/\Row n m H b ds kvss gs/\ds.length<=10/\Qts n m H ql qds q/\qds.length=ds.length/\LdL H D lds/\lds.length=ds.length/\(∀(i:Nat) l,lds[i]? = some (some l)->l.length=m/\gs i l≠0)/\(∀(i:Nat) (o:List Int),q i o≠0->∃l,lds[i]? = some (some l)/\∀j l',j<i->lds[j]? = some (some l')->zcw l' (addT o l)=false)/\∀H',Same H H'->Q (.bl true) H'
theorem ptake{α : Type}{R : α->V->Prop}:∀(i:Nat) {l:List α} {ys:List V},Paired R l ys->Paired R (l.take i) (ys.take i)
 | 0,_,_,_=>by simp;exact .nil
 | i+1,_,_,.nil=>by simp;exact .nil
 | i+1,_,_,.cons r t=>by simp;exact .cons r (ptake i t)
section
variable{F:Type}[Lean.Grind.Field F]{n:Int}
def CJ(n:Int)(U:List (List Int))(k:Nat)(lf:Po F)(q:Nat->Po F)(ρ : Po F):Prop:=(∀i o,q i o≠0->o∈U)/\(∀t,ρ t≠0->t∈U)/\(n=0->∃D:Int,D≠0/\D.natAbs<2^k/\(∀t,∃N:Int,lf t*ic D=ic N/\N.natAbs<2^k)/\(∀i o,∃N:Int,q i o*ic D=ic N/\N.natAbs<2^k)/\∀t,∃N:Int,ρ t*ic D=ic N/\N.natAbs<2^k)
theorem CJ.up{U:List (List Int)}{k j:Nat}{lf:Po F}{q:Nat->Po F}{ρ : Po F}(h:CJ n U k lf q ρ)(kj:k<=j):CJ n U j lf q ρ:=by
 refine⟨h.1,h.2.1,λz=>?_⟩;obtain⟨D,d0,d1,a,b,c⟩:=h.2.2 z;have u:=Yv (show 0<2 by decide) kj;exact⟨D,d0,Yf d1 u,λt=>let ⟨N,e,b⟩:=a t;⟨N,e,Yf b u⟩,λi o=>let ⟨N,e,b⟩:=b i o;⟨N,e,Yf b u⟩,λt=>let ⟨N,e,b⟩:=c t;⟨N,e,Yf b u⟩⟩
theorem CJ.ib{U:List (List Int)}{k:Nat}{lf:Po F}{q:Nat->Po F}{ρ : Po F}(h:CJ n U k lf q ρ):∃D:Int,D≠0/\D.natAbs<2^(k+1)/\(∀i,IB n D (2^k) (q i))/\IB n D (2^k) ρ:=by
 by_cases z:n=0
 ·obtain⟨D,d0,d1,a,b,c⟩:=h.2.2 z;exact⟨D,d0,Nat.lt_trans d1 (Nat.pow_lt_pow_right (by decide) (Nat.lt_succ_self _)),λi _ o=>let ⟨N,e,b⟩:=b i o;⟨N,e,Nat.le_of_lt b⟩,λ_ t=>let ⟨N,e,b⟩:=c t;⟨N,e,Nat.le_of_lt b⟩⟩
 ·exact⟨1,by decide,Yf (by decide:(1:Int).natAbs<2^1) (Yv (by decide) (by omega)),λi q=>absurd q z,λq=>absurd q z⟩
theorem tpc(n:Int){m:Nat}(m1:1<=m)(m3:m<=3):tpB n m*4<=cmB m/\(m=2->tpB n m<=3)/\(m=3->tpB n m<=1):=by
 unfold tpB cmB;rcases(by omega:m=1\/m=2\/m=3) with rfl | rfl | rfl
 ·refine⟨?_,λz=>by omega,λz=>by omega⟩;split <;> decide
 ·refine⟨?_,λ_=>?_,λz=>by omega⟩
  ·split <;> decide
  ·split <;> decide
 ·refine⟨?_,λz=>by omega,λ_=>?_⟩
  ·split <;> decide
  ·split <;> decide
theorem bx_U{m:Nat}(m1:1<=m)(m3:m<=3){α : List Int}(ha : α.length=m)(h1:∀x∈α,1<=x)(hs : α.sum<=4){φ : Po F}(hf:BxP n m φ){t:List Int}(ht : φ t≠0):t∈Uof m α:=by
 obtain⟨t0,tb⟩:=hf t ht;have tp:=zoi n m;refine(zpi ha h1).mpr ⟨t0,Int.le_trans (zud h1 tb (by omega)) (Int.le_trans (Y3 hs (by omega)) (tpc n m1 m3).1)⟩
theorem zym[Chr n F]{m:Nat}{rk:List Int->List Int}(O:OrdM rk m)(m1:1<=m)(m3:m<=3){gs:Nat->Po F}(hg:∀i,BxP n m (gs i))(ib:∀i,IB n 6 5280 (gs i)){φ : Po F}(hf:BxP n m φ)(ibf:IB n 6 5280 φ){α : List Int}(ha : α.length=m)(h1:∀x∈α,1<=x)(hs : α.sum<=4)
  (hd:∀l u,T0 m l->T0 m u->(∀x∈l,x<=tpB n m)->(∀x∈u,x<=tpB n m)->(u=l\/lt rk u l)->dot α u<=dot α l):DvH n m rk φ gs (Uof m α) (λs lf q ρ=>CJ n (Uof m α) (13+14*s) lf q ρ) where
 nd:=(U_ok m1 m3 α).1
 ok:=λt ht=>by
  obtain⟨t0,td⟩:=(zpi ha h1).mp ht;refine⟨t0,λx hx=>?_⟩;have:=zk2 (by rw[t0.len,ha]) h1 t0.mem x hx;have c36:cmB m<=36:=by unfold cmB;split;decide;split <;> decide
  exact Int.lt_of_le_of_lt (show x<=36 by omega) (by decide)
 b:=Yr (U_ok m1 m3 α).2 (by decide)
 f:=λt ht=>bx_U m1 m3 ha h1 hs hf ht
 gl:=λi t=>((ib i).lim (k:=13) (by decide) (by decide) (by decide) t).up (by decide)
 j0:=⟨λi o z=>absurd rfl z,λt z=>absurd rfl z,λz=>⟨6,by decide,by decide,λt=>let ⟨N,e,b⟩:=ibf z t;⟨N,e,Yp b (by decide)⟩,λi o=>⟨0,by rw[zb8];grind,Nat.two_pow_pos _⟩,λt=>⟨0,by rw[zb8];grind,Nat.two_pow_pos _⟩⟩⟩
 jl:=λs lf q ρ hs' hj t=>by
  have l169:=(U_ok m1 m3 α).2;refine Lim.up (k:=13+14*s) (λz=>?_) (by omega);obtain⟨D,d0,d1,a,_⟩:=hj.2.2 z;obtain⟨N,e,b⟩:=a t;exact⟨N,D,d0,e,b,d1⟩
 js:=λs lf q ρ hs' hj=>hj.up (by omega)
 jr:=λs lf q ρ t hs' hj tU hl _=>by
  refine CJ.up (k:=13+14*s) ⟨hj.1,λu hu=>?_,λz=>?_⟩ (by omega)
  ·by_cases c:u=t
   ·rw[c];exact tU
   ·rw[zbo c]at hu;exact hj.2.1 u hu
  ·obtain⟨D,d0,d1,a,b,c⟩:=hj.2.2 z;refine⟨D,d0,d1,λu=>?_,b,λu=>?_⟩
   ·by_cases cu:u=t
    ·rw[cu,zdu];exact⟨0,by rw[zb8];grind,Nat.two_pow_pos _⟩
    ·rw[zbo cu];exact a u
   ·by_cases cu:u=t
    ·rw[cu,zdu];exact a t
    ·rw[zbo cu];exact c u
 jq:=λs lf q ρ t i l x hs' hj tU hlf hl go _ ex=>by
  have l169:=(U_ok m1 m3 α).2;obtain⟨t0,td⟩:=(zpi ha h1).mp tU;obtain⟨l0,lb⟩:=hg i l hl.1;have o0:=T0.sub t0 l0 go;have dl:=zol (α:=α) h1 l0.mem;have dot_o:dot α (subT t l)=dot α t-dot α l:=znz (by rw[t0.len,ha]) (by rw[l0.len,ha]);have oU:subT t l∈Uof m α:=(zpi ha h1).mpr ⟨o0,by rw[dot_o];omega⟩;have num:n=0->∃D Nl Nt:Int,D≠0/\Nl≠0/\D.natAbs<2^(13+14*s)/\Nl.natAbs<2^13/\Nt.natAbs<2^(13+14*s)/\gs i l*ic 6=ic Nl/\lf t*ic D=ic Nt/\(∀t,∃N:Int,lf t*ic D=ic N/\N.natAbs<2^(13+14*s))/\(∀i o,∃N:Int,q i o*ic D=ic N/\N.natAbs<2^(13+14*s))/\∀t,∃N:Int,ρ t*ic D=ic N/\N.natAbs<2^(13+14*s):=λz=>by
   subst z;obtain⟨D,d0,d1,a,b,c⟩:=hj.2.2 rfl;obtain⟨Nl,e1,b1⟩:=ib i rfl l;obtain⟨Nt,e2,b2⟩:=a t;refine⟨D,Nl,Nt,d0,?_,d1,Yp b1 (by decide),b2,e1,e2,a,b,c⟩;rintro rfl;rw[zb8]at e1;have:ic (F:=F) 6≠0:=zfr (by decide);apply hl.1;grind
  have lx:Lim n (13+14*s+13) x:=λz=>by
   obtain⟨D,Nl,Nt,d0,n0,b1,b2,b3,e1,e2,_⟩:=num z;refine⟨Nt*6,D*Nl,(by intro q;rcases Int.mul_eq_zero.mp q with q | q;exact d0 q;exact n0 q),?_,zel b3 (by decide),zel b1 b2⟩;rw[za3,za3,<- e1,<- e2,<- ex];grind
  refine⟨lx.up (by omega),λu=>(lx.mul ((ib i).lim (k:=13) (by decide) (by decide) (by decide) u)).up (by omega),λu hu=>?_,λj o ho=>?_,hj.2.1,λz=>?_⟩
  ·obtain⟨u0,ub⟩:=hg i u hu;refine(zpi ha h1).mpr ⟨T0.add o0 u0,?_⟩;rw[zo5 (by rw[o0.len,ha]) (by rw[u0.len,ha]),dot_o];have:=hd l u l0 u0 lb ub (hl.2 u hu);omega
  ·by_cases c:j=i
   ·subst c;rw[zg2]at ho;by_cases c2:o=subT t l
    ·rw[c2];exact oU
    ·rw[zbo c2]at ho;exact hj.1 j o ho
   ·rw[zd8 c]at ho;exact hj.1 j o ho
  ·obtain⟨D,Nl,Nt,d0,n0,b1,b2,b3,e1,e2,a,b,c⟩:=num z;have up1:∀{N:Int},N.natAbs<2^(13+14*s)->(N*Nl).natAbs<2^(13+14*(s+1)):=fun{N} h=>Yf (zel h b2) (Yv (by decide) (by omega))
   refine⟨D*Nl,(by intro q;rcases Int.mul_eq_zero.mp q with q | q;exact d0 q;exact n0 q),up1 b1,λw=>?_,λj o=>?_,λw=>?_⟩
   ·obtain⟨Nw,ew,bw⟩:=a w;have:∃Nu:Int,sh (subT t l) (gs i) w*ic 6=ic Nu/\Nu.natAbs<2^13:=by
     unfold sh;split
     ·obtain⟨N,e,b⟩:=ib i z (subT w (subT t l));exact⟨N,e,Yp b (by decide)⟩
     ·exact⟨0,by rw[zb8];grind,by decide⟩
    obtain⟨Nu,eu,bu⟩:=this;refine⟨Nw*Nl-Nt*Nu,?_,?_⟩
    ·rw[zp8,za3,za3,za3,<- ew,<- e2,<- eu,<- ex,<- e1];grind
    ·have a1:=zel bw b2;have a2:=zel b3 bu;have:2^(13+14*(s+1))=2^(13+14*s+13)*2:=by rw[<- Nat.pow_succ,show 13+14*(s+1)=(13+14*s+13).succ by omega]
     omega
   ·have old:∃N:Int,q j o*ic (D*Nl)=ic N/\N.natAbs<2^(13+14*(s+1)):=by
     obtain⟨N,e,b⟩:=b j o;exact⟨N*Nl,by rw[za3,za3,<- e];grind,up1 b⟩
    by_cases cj:j=i
    ·subst cj;rw[zg2];by_cases c2:o=subT t l
     ·rw[c2,zdu];refine⟨Nt*6,by rw[za3,za3,<- e1,<- e2,<- ex];grind,Yf (zel (j:=3) b3 (by decide)) (Yv (by decide) (by omega))⟩
     ·rw[zbo c2];exact old
    ·rw[zd8 cj];exact old
   ·obtain⟨N,e,b⟩:=c w;exact⟨N*Nl,by rw[za3,za3,<- e];grind,up1 b⟩
end
section
variable{F:Type}[Lean.Grind.Field F]{n:Int}{m:Nat}
structure RC(n:Int)(m:Nat)(H:Hp)(ds:List Addr)(kvss:List (List (List Key×V)))(gs:Nat->Po F):Prop where
 len:ds.length=kvss.length
 row:∀(i:Nat) (d:Addr) kvs,ds[i]? = some d->kvss[i]? = some kvs->H d=some (.dT kvs)/\PF n m H kvs (gs i)/\HDs kvs
 out:∀i,ds.length<=i->∀t,gs i t=0
theorem RC.keep{H H':Hp}{ds:List Addr}{kvss:List (List (List Key×V))}{gs:Nat->Po F}(h:RC n m H ds kvss gs)(e:Fix H H')(k:∀d∈ds,∀o,H d=some o->H' d=some o):RC n m H' ds kvss gs:=
 ⟨h.len,λi d kvs h1 h2=>by
  obtain⟨a,b,c⟩:=h.row i d kvs h1 h2;exact⟨k d (Yx h1) _ a,b.fix e,c⟩,h.out⟩
theorem RC.same{H H':Hp}{ds:List Addr}{kvss:List (List (List Key×V))}{gs:Nat->Po F}(h:RC n m H ds kvss gs)(e:Same H H'):RC n m H' ds kvss gs:=h.keep (.of e) λd _ o=>e d o
theorem RC.toRow{H:Hp}{b:Addr}{ds:List Addr}{kvss:List (List (List Key×V))}{gs:Nat->Po F}(h:RC n m H ds kvss gs)(hb:H b=some (.lst (ds.map V.ref)))(l:ds.length<=1000):Row n m H b ds kvss gs:=
 ⟨hb,h.len,λi d hd=>by
  have li:i<kvss.length:=by rw[<- h.len];exact zay hd
  obtain⟨a,b,_⟩:=h.row i d _ hd (Yc li);exact⟨_,Yc li,a,b⟩,h.out,l⟩
theorem zlk[Chr n F]{K:W.Frag}{H:Hp}{a b:Addr}{ka kb:List (List Key×V)}{φ ψ : Po F}(ha:H a=some (.dT ka))(hb:H b=some (.dT kb))(pa:PF n m H ka φ)(pb:PF n m H kb ψ)(neg:Bool){Q:VK}(e:∀t,φ t = ψ t)(q:Q (.bl (!neg)) H):zth K neg (.ref a) (.ref b) H Q:=by
 obtain⟨da,h1,h2,h3,h4⟩:=pa.kds (K:=K);obtain⟨db,k1,k2,k3,k4⟩:=pb.kds (K:=K);refine⟨a,b,ka,kb,da,db,Z,Z,.inl ha,.inl hb,h1,k1,h2,k2,?_⟩;rw[(pa.eq pb h3 k3 h4 k4).mpr e]
 cases neg <;> exact q
theorem zt5[Chr n F]{K:W.Frag}{H:Hp}{a b:Addr}{ka kb:List (List Key×V)}{φ ψ : Po F}(ha:H a=some (.dT ka))(hb:H b=some (.dT kb))(pa:PF n m H ka φ)(pb:PF n m H kb ψ)(e:∀t,φ t = ψ t):DEq K H a b true:=by
 obtain⟨da,h1,h2,h3,h4⟩:=pa.kds (K:=K);obtain⟨db,k1,k2,k3,k4⟩:=pb.kds (K:=K);exact⟨ka,kb,da,db,.inl ha,.inl hb,h1,k1,h2,k2,(pa.eq pb h3 k3 h4 k4).mpr e,λ_=>Z⟩
theorem zqa[Chr n F]{K:W.Frag}{H:Hp}{l b:Addr}{as bs:List Addr}{kvss:List (List (List Key×V))}{gs:Nat->Po F}(hl:H l=some (.lst (as.map V.ref)))(hb:H b=some (.lst (bs.map V.ref)))(ra:RC n m H as kvss gs)(rb:RC n m H bs kvss gs)(neg:Bool){Q:VK}(q:Q (.bl (!neg)) H):zxa K neg (.ref l) (.ref b) H Q:=by
 refine⟨l,b,as,bs,λ_=>true,Z,Z,hl,hb,λi p p' h1 h2=>?_,?_⟩
 ·have li:i<kvss.length:=by rw[<- ra.len];exact zay h1
  obtain⟨a1,a2,_⟩:=ra.row i p _ h1 (Yc li);obtain⟨b1,b2,_⟩:=rb.row i p' _ h2 (Yc li);exact zt5 a1 b1 a2 b2 λ_=>rfl
 ·have e:(decide (as.length=bs.length)&&(List.range as.length).all λ_=>true)=true:=by
   rw[Yo (ra.len.trans rb.len.symm)];simp
  rw[e]
  cases neg <;> exact q
theorem RC.mem{H:Hp}{ds:List Addr}{kvss:List (List (List Key×V))}{gs:Nat->Po F}(h:RC n m H ds kvss gs){d:Addr}(hd:d∈ds):∃kvs,H d=some (.dT kvs):=by
 obtain⟨i,hi⟩:=Je.mp hd;have li:i<kvss.length:=by rw[<- h.len];exact zay hi
 exact⟨_,(h.row i d _ hi (Yc li)).1⟩
theorem RC.copy{H:Hp}{ds dh:List Addr}{kvss:List (List (List Key×V))}{gs:Nat->Po F}(h:RC n m H ds kvss gs)(l:dh.length=ds.length)(hh:∀(i:Nat) d kvs,dh[i]? = some d->kvss[i]? = some kvs->H d=some (.dT kvs)):RC n m H dh kvss gs:=
 ⟨l.trans h.len,λi d kvs h1 h2=>by
  have li:i<ds.length:=by rw[<- l];exact zay h1
  obtain⟨_,b,c⟩:=h.row i _ kvs (Yc li) h2;exact⟨hh i d kvs h1 h2,b,c⟩,λi hi=>h.out i (by omega)⟩
end
def zrv(K:W.Frag)(Pt:Addr):Sp:=λvs H Q _=>∃(a:Addr) (ns:List Int),vs=[.ref a]/\SqL K H a (ns.map V.int)/\ns.length<=63/\H Pt=some (.tbl #[])/\∀H',Q (.bl true) H'
theorem zre(ns:List Int)(sz:Nat):∃ms:List Int,cutV (ns.map V.int) (some 3) (some (3+(sz:Int)))=ms.map V.int/\ms.length<=sz:=by
 unfold cutV;rw[show (some (3:Int))=some ((3:Nat):Int) from rfl,show (some (3+(sz:Int)))=some ((3+sz:Nat):Int) by congr 1,HT.sIx_nat,HT.sIx_nat,<- List.map_drop,<- List.map_take];exact⟨_,Z,by rw[List.length_take];omega⟩
theorem z0k:(0:Int)<10^Int.toNat 40/\(10:Int)^Int.toNat 40<10^41:=by decide
theorem z0m{CF CR:Addr}{n:Int}{H H':Hp}{p:Addr}(ki:∀b C dx fs,H b=some (.ins C dx fs)->H' b=some (.ins C dx fs))(h:AtN CF CR n H p):AtN CF CR n H' p:=by
 by_cases z:n=0
 ·subst z;have e:AtN CF CR 0=AtF CF:=Yl rfl;rw[e]at h ⊢;obtain⟨dx,q⟩:=h;exact⟨dx,ki _ _ _ _ q⟩
 ·have e:AtN CF CR n=AtR CR n:=Yh z;rw[e]at h ⊢;obtain⟨dx,q⟩:=h;exact⟨dx,ki _ _ _ _ q.1,q.2⟩
theorem z0r{CO CD CT CW:Addr}{kd:Int}{ws:List Int}{H H':Hp}{p:Addr}(ki:∀b C dx fs,H b=some (.ins C dx fs)->H' b=some (.ins C dx fs))(kt:∀b xs,H b=some (.tup xs)->H' b=some (.tup xs))(h:AtK CO CD CT CW kd ws H p):AtK CO CD CT CW kd ws H' p:=by
 unfold AtK at h ⊢;by_cases c0:kd=0
 ·rw[Yl c0]at h ⊢;obtain⟨dx,q⟩:=h;exact⟨dx,ki _ _ _ _ q⟩
 ·rw[Yh c0]at h ⊢;by_cases c1:kd=1
  ·rw[Yl c1]at h ⊢;obtain⟨dx,q⟩:=h;exact⟨dx,ki _ _ _ _ q⟩
  ·rw[Yh c1]at h ⊢;by_cases c2:kd=2
   ·rw[Yl c2]at h ⊢;obtain⟨dx,q⟩:=h;exact⟨dx,ki _ _ _ _ q⟩
   ·rw[Yh c2]at h ⊢;obtain⟨dx,wt,q,q'⟩:=h;exact⟨dx,wt,ki _ _ _ _ q,kt _ _ q'⟩
theorem zwa{CG CF CR CO CD CT CW:Addr}{H H':Hp}{r:Addr}{g:RgD}(ki:∀b C dx fs,H b=some (.ins C dx fs)->H' b=some (.ins C dx fs))(kt:∀b xs,H b=some (.tup xs)->H' b=some (.tup xs))(h:RgP CG CF CR CO CD CT CW H r g):RgP CG CF CR CO CD CT CW H' r g:=by
 obtain⟨dx,q⟩:=h.at_;exact⟨h.nb,h.np,h.m1,h.m4,h.k0,h.k4,h.wn,h.wb,⟨dx,ki _ _ _ _ q⟩,z0m ki h.fd,z0r ki kt h.od⟩
section
variable{F:Type}[Lean.Grind.Field F]{n:Int}{m:Nat}
def tpM(m:Nat):Nat:=if m=1 then 9 else if m=2 then 3 else 1
theorem hsB{m:Nat}(m1:1<=m)(m3:m<=3):((bxs m (tpM m)).map hsI).Nodup:=by
 rcases(by omega:m=1\/m=2\/m=3) with rfl | rfl | rfl <;> decide +kernel
theorem hdsB(m1:1<=m)(m3:m<=3){H:Hp}{kvs:List (List Key×V)}{φ : Po F}(h:PF n m H kvs φ)(hb:BxP n m φ):HDs kvs:=by
 refine⟨tms kvs,h.keys,?_⟩;have inb:∀t,φ t≠0->t∈bxs m (tpM m):=λt ht=>by
  obtain⟨t0,tb⟩:=hb t ht;refine mem_bxs.mpr ⟨t0,λx hx=>Int.le_trans (tb x hx) ?_⟩;unfold tpB tpM;rcases(by omega:m=1\/m=2\/m=3) with rfl | rfl | rfl <;> split <;> decide
 refine List.pairwise_map.mpr (List.Pairwise.imp_of_mem (fun{a b} ha hb ne e=>ne ?_) h.tnd);exact ztz (hsB m1 m3) a (inb a (h.tmem.mp ha)) b (inb b (h.tmem.mp hb)) e
theorem zyl{φ : Po F}(h:BxP n m φ):TmB φ:=λt ht x hx=>by
 have:=(h t ht).2 x hx;have:=(zoi n m).2;exact Int.lt_of_le_of_lt (show x<=9 by omega) (by decide)
def zld(H:Hp)(d:Addr):List (List Key×V):=match H d with
 | some (.dT kv)=>kv
 | _=>[]
theorem zmz{H:Hp}{d:Addr}{kv:List (List Key×V)}(h:H d=some (.dT kv)):zld H d=kv:=by unfold zld;rw[h]
theorem PRow.rc(m1:1<=m)(m3:m<=3){H0 H:Hp}{l:Addr}{ds:List Addr}{gs:Nat->Po F}{M j:Nat}(h:PRow n m H0 H l ds gs M)(hj:j<ds.length):RC n m H (ds.eraseIdx j) ((ds.eraseIdx j).map (zld H)) (λi=>gs (if i<j then i else i+1)):=by
 have le:(ds.eraseIdx j).length=ds.length-1:=by rw[List.length_eraseIdx];simp[hj]
 refine⟨by rw[Yd],λi d kvs h1 h2=>?_,λi hi t=>?_⟩
 ·rw[Ym,h1]at h2;injection h2 with h2
  have h3:ds[if i<j then i else i+1]? = some d:=by
   rw[List.getElem?_eraseIdx]at h1;by_cases c:i<j
   ·rw[Yl c]at h1 ⊢;exact h1
   ·rw[Yh c]at h1 ⊢;exact h1
  obtain⟨kv,q1,q2,_⟩:=h.row _ d h3;rw[zmz q1]at h2;subst h2;exact⟨q1,q2,hdsB m1 m3 q2 (h.bx _)⟩
 ·rw[le]at hi;show gs (if i<j then i else i+1) t=0;rw[Yh (by omega)];exact h.out _ (by omega) t
theorem RC.keepT{H H':Hp}{ds:List Addr}{kvss:List (List (List Key×V))}{gs:Nat->Po F}(h:RC n m H ds kvss gs)(kt:∀b xs,H b=some (.tup xs)->H' b=some (.tup xs))(k:∀d∈ds,∀o,H d=some o->H' d=some o):RC n m H' ds kvss gs:=
 ⟨h.len,λi d kvs h1 h2=>by
  obtain⟨a,b,c⟩:=h.row i d kvs h1 h2;exact⟨k d (Yx h1) _ a,b.keep kt,c⟩,h.out⟩
theorem zr0{N:Nat}{ys:List V}(h:Paired (fun(_:Nat) v=>v=V.bl true) (List.range N) ys):ys=((List.range N).map λ_=>true).map V.bl:=by
 have key:∀{l:List Nat} {ys:List V},Paired (fun(_:Nat) v=>v=V.bl true) l ys->ys=(l.map λ_=>true).map V.bl:=fun{l ys} h=>by
  induction h with
  | nil=>rfl
  | cons r _ ih=>rw[r,ih];rfl
 exact key h
end
theorem zx6{c:Nat}(hc:c<=4):c*169*(2^2379*5280)<2^2420:=by
 have e:2^2420=2^2379*2^41:=by rw[<- Nat.pow_add]
 have p:0<2^2379:=Nat.two_pow_pos _;rw[e];generalize 2^2379=X at p ⊢;have h1:c*169*(X*5280)<=4*169*(X*5280):=Y4 _ (Y4 _ hc);have h2:4*169*(X*5280)=X*3569280:=by omega
 have h3:X*3569280<X*2^41:=Nat.mul_lt_mul_of_pos_left (by decide) p;omega
theorem zfa:∀(l:List Addr) (j:Nat),(l.map V.ref).eraseIdx j=(l.eraseIdx j).map V.ref
 | [],_=>rfl
 | _::_,0=>rfl
 | a::l,j+1=>Jx (V.ref a :: ·) (zfa l j)
end K6
namespace K6
open PySem L2
open K1 K2 K3 K6 K8 K37 G
section
variable{P:Program}{w:World}{K:W.Frag}{mg:Str->Option Value}{base:Heap}{f:Addr}{fd:FuncData}{za2 zag zao zas zal zat zaj zak za6:Addr}{zem zcs zbp zct zc3 za1:Addr}{tk_Made:Tok}(T:Txt P w K mg base za2 zag zao zas zal zat zaj zak za6)
include T
local macro_rules | `(tactic| walk_at "x") => `(tactic| (refine xg λg hg => ?_; repeat refine xl λ_ => ?_))
local macro_rules | `(tactic| walk_at "v") => `(tactic| (intro _ _ _ _; (repeat refine xl λ_ => ?_); exact λh => h.1 ▸ rfl))
local macro_rules | `(tactic| walk_at "sd") => `(tactic| first
 | assumption | (dsimp only;omega) | (dsimp only;decide) | exact⟨by decide,by decide⟩ | exact⟨by decide,by decide,by decide⟩ | exact Or.inl ⟨by decide,by decide⟩ | exact⟨by omega,by omega⟩ | exact Or.inl ⟨by omega,by omega⟩ | exact Or.inr ⟨by decide,by decide⟩ | exact Or.inr ⟨by omega,by omega⟩)
local macro_rules | `(tactic| walk_at "rd") => `(tactic| repeat first
 | refine⟨_,rfl,?_⟩ | refine⟨_,_,rfl,rfl,?_⟩ | refine And.intro rfl ?_ | refine And.intro (by walk_at "sd") ?_ | with_reducible refine iteT ?_ | with_reducible refine iteF ?_ | (apply zyb;assumption;rfl))
local macro_rules | `(tactic| walk_at "clo") => `(tactic| exact h)
theorem zq7(F:FunD K "shared_divisor" "shared_divisor" zc8 .none f fd)   : FnOk P w K mg base CX0 1 f fd ["one","other"] zg4:=by
 have scShared:FnScope ["one","other","rest"] ["one","other"] (zah zc8):=sM (by decide +kernel);refine F.okN (k:=0) scShared (by walk_at "v") (λcdv A outer s H vs Q E hr=>?_);walk_at "x";rename_i g_ hg_ a b;rintro⟨rfl,h⟩;subst hg_;refine⟨_,(zad (zei PassesOwn.never (zap zkn (pv 1) (zaf) (nomark _)) (zad (zaw (i:=2) scShared.nd rfl (Or.inl rfl) (zaq zhh (pv 0) (pv 1)))
  (zad (zaw (i:=0) scShared.nd rfl (Or.inl rfl) (pv 1))
  (zae (zaw (i:=1) scShared.nd rfl (Or.inl rfl) (pv 2))))))
  (zae (zan (pv 0)))),?_⟩
 obtain⟨ha,hb,k⟩:=h;refine⟨λm σ H'=>∃(a' b':Int) (v:Option V),m=b'.toNat/\σ = [some (.int a'),some (.int b'),v]/\H'=H/\0<=a'/\0<=b'/\Gc a b a' b',⟨_,_,_,none,Z,Z,Z,K1.start ha hb⟩,?_⟩;rintro m σ H' ⟨a',b',v,rfl,rfl,rfl,h1,h2,hg⟩;walk_at "rd";refine cNe (λc=>?_) (λc=>?_)
 ·refine⟨λσ' H''=>∃v',σ'=[some (.int b'),some (.int (a'.fmod b')),v']/\H''=H',?_,?_⟩
  ·rintro σ' H'' ⟨v',rfl,rfl⟩;exact⟨(a'.fmod b').toNat,K1.less (by omega),_,_,v',rfl,rfl,rfl,K1.turn hg h1 (by omega)⟩
  ·refine⟨_,Z,_,Z,_,_,Z,Z,c,?_⟩;walk_at "rd";rfl
 ·refine⟨_,Z,?_⟩;show Q (.int a') H';rw[K1.out hg h1 c];exact k
theorem ztn(F:FunD K "is_prime" "is_prime" zgo .none f fd)   : FnOk P w K mg base CX0 1 f fd ["number"] zpg:=by
 have scPrime:FnScope ["number","divisor"] ["number"] (zah zgo):=sM (by decide +kernel);refine F.okN (k:=0) scPrime (by walk_at "v") (λcdv A outer s H vs Q E hr=>?_);walk_at "x";rename_i g_ hg_ n;rintro⟨rfl,h⟩;subst hg_;refine⟨_,(zad (zba (zap zh4 (pv 0) (zaf) (nomark _)) (zae (zan (zd7))) zav)
  (zad (zaw (i:=1) scPrime.nd rfl (Or.inl rfl) (zaf))
  (zad (zei PassesOwn.never (zap zvs (zaq zia (pv 1) (pv 1)) (pv 0) (nomark _)) (zad (zba (zap zdq (zaq zhh (pv 0) (pv 1)) (zaf) (nomark _)) (zae (zan (zd7))) zav)
  (zae (zyy (i:=1) scPrime.nd rfl (Or.inl rfl) (zaf) zxv))))
  (zae (zan (zd7)))))),?_⟩
 obtain⟨hn,k⟩:=h;walk_at "rd";refine cD (λc=>?_) (λc=>?_)
 ·show Q (.bl false) H;rw[low c];exact k
 refine⟨λm σ H'=>∃d:Int,m=(200-d).toNat/\σ = [some (.int n),some (.int d)]/\H'=H/\2<=d/\d<=101/\NoDiv n d,⟨_,2,Z,Z,Z,K3.start n⟩,?_⟩;rintro m σ H' ⟨d,rfl,rfl,rfl,h2,h3,hd⟩;refine⟨_,Z,_,Z,_,_,Z,Z,.inl (zsh (n:=n) h2 h3),?_⟩;walk_at "rd";refine cD (λq=>?_) (λq=>?_)
 ·refine⟨λσ' H''=>σ'=[some (.int n),some (.int (d+1))]/\H''=H'/\¬Int.fmod n d=0,?_,?_⟩
  ·rintro σ' H'' ⟨rfl,rfl,nz⟩;exact⟨(200-(d+1)).toNat,K3.less h2 q hn,d+1,rfl,rfl,rfl,K3.turn hd nz h2 q hn⟩
  ·refine⟨_,Z,_,Z,_,_,Z,Z,(by show d≠0;omega),?_⟩;walk_at "rd";refine cEq (λz=>?_) (λz=>?_)
   ·show Q (.bl false) H';rw[found h2 q z];exact k
   ·walk_at "rd"
    exact z
 ·show Q (.bl true) H';rw[K3.out hd (by omega) h2 q];exact k
theorem zki(F:FunD K "__init__" "Field.__init__" zc9 .none f fd)   : FnOk P w K mg base CX0 1 f fd ["self","prime"] (zk6 K):=by
 have scFieldInit:FnScope ["self","prime"] ["self","prime"] (zah zc9):=sM (by decide +kernel);refine F.okN (k:=0) scFieldInit (by walk_at "v") (λcdv A outer s H vs Q E hr=>?_);walk_at "x";rename_i g_ hg_ p C dx v;rintro⟨rfl,h⟩;subst hg_;refine⟨_,(zae (zgj (pv 0) (pv 1) rfl)),?_⟩;obtain⟨hp,hc,ha,k⟩:=h;exact⟨_,Z,_,Z,p,C,dx,[],Z,hp,hc,ha,(by show 0<1000;decide),k⟩
theorem zln(F:FunD K "__init__" "Fractions.__init__" zb7 .none f fd)(q_FieldInit:CCal P w K mg base CX0 1 "Field" "__init__" ["self","prime"] [] (zk6 K)):FnOk P w K mg base CX0 2 f fd ["self"] (zh6 zag):=by
 have scFracInit:FnScope ["self"] ["self"] (zah zb7):=sM (by decide +kernel);refine F.okN (k:=1) scFracInit (by walk_at "v") (λcdv A outer s H vs Q E hr=>?_);walk_at "x";rename_i g_ hg_ p dx;rintro⟨rfl,h⟩;subst hg_;refine⟨_,(zae (zc6 (zz6 q_FieldInit hr zar .nil ((zaa (pv 0) (zaa (zaf) zac)))))),?_⟩;obtain⟨hp,k⟩:=h;exact⟨_,Z,p,_,dx,_,Z,hp,T.cl_Fractions,T.na_Fractions_prime,k⟩
theorem zpa(F:FunD K "nought" "Fractions.nought" zcp .none f fd)   : FnOk P w K mg base CX0 1 f fd ["self"] (zt8 0 1):=by
 have scNought:FnScope ["self"] ["self"] (zah zcp):=sM (by decide +kernel);refine F.okN (k:=0) scNought (by walk_at "v") (λcdv A outer s H vs Q E hr=>?_);walk_at "x";rename_i g_ hg_ p;rintro⟨rfl,h⟩;subst hg_;refine⟨_,(zae (zan (zca ((zaa (zaf) (zaa (zaf) zac)))))),?_⟩;exact⟨(by show 2<=sizeLine;decide),λr hr'=>h r _ (Same.upd hr') zab⟩
theorem zvb{dT:Addr}(F:FunD K "made" "Fractions.made" zbm (.ref dT) f fd)(c_Shared:Cal P w K mg base CX0 1 "shared_divisor" ["one","other"] [] zg4)(x_NoOver:Exc K mg base "NoOver" zbp)  : FnOk P w K mg base (CXe P w) 2 f fd ["self","top","bottom"] (zui zbp):=by
 have scMade:FnScope ["self","top","bottom","divisor"] ["self","top","bottom"] (zah zbm):=sM (by decide +kernel);refine F.okX (k:=1) scMade (by walk_at "v") (λcdv A outer s H vs Q E hr=>?_);walk_at "x";rename_i g_ hg_ p t b;rintro⟨rfl,h⟩;subst hg_;refine⟨_,(zad (zba (zap zdq (pv 2) (zaf) (nomark _)) (zae (zjq x_NoOver rfl rfl zbn ((zaa (zgi) zac)))) zav)
  (zad (zaw (i:=3) scMade.nd rfl (Or.inl rfl) (pe_c c_Shared hr zar .nil ((zaa (zau zfh rfl T.b_abs (by kernel_rfl) ((zaa (pv 1) zac))) (zaa (zau zfh rfl T.b_abs (by kernel_rfl) ((zaa (pv 2) zac))) zac)))))
  (zad (zba (zap zh4 (pv 2) (zaf) (nomark _)) (zae (zaw (i:=3) scMade.nd rfl (Or.inl rfl) (zng zij (pv 3)))) zav)
  (zae (zan (zca ((zaa (zaq zby (pv 1) (pv 3)) (zaa (zaq zby (pv 2) (pv 3)) zac))))))))),?_⟩
 obtain⟨hb,k⟩:=h;walk_at "rd";refine cEq (λc=>?_) (λc=>?_)
 ·refine⟨(by show 1<=sizeLine;decide),?_⟩;rcases k with⟨q,_⟩ | ⟨_,q⟩
  ·exact absurd c q
  ·exact q
 rcases k with⟨_,k⟩ | ⟨q,_⟩
 case inr=>exact absurd q c
 obtain⟨d0,d1⟩:=zy7 (t:=t) c hb;have c1:CDivB t (dv t b):=⟨d0,d1⟩;have c2:CDivB b (dv t b):=⟨d0,d1⟩;walk_at "rd";refine⟨_,_,Z,by split <;> omega,by split <;> omega,?_⟩;rw[zy6];walk_at "rd";refine cD (λn=>?_) (λn=>?_)
 ·walk_at "rd"
  have e : -(gI t b)=dv t b:=by unfold dv;rw[Yl n]
  try dsimp only
  rw[e];walk_at "rd";exact⟨(by show 2<=sizeLine;decide),λr hr'=>k r _ (Same.upd hr') zab⟩
 ·have e:gI t b=dv t b:=by unfold dv;rw[Yh n]
  rw[e];walk_at "rd";exact⟨(by show 2<=sizeLine;decide),λr hr'=>k r _ (Same.upd hr') zab⟩
theorem zsw(F:FunD K "plus" "Fractions.plus" zdc .none f fd)(c_Shared:Cal P w K mg base CX0 1 "shared_divisor" ["one","other"] [] zg4):FnOk P w K mg base CX0 2 f fd ["self","a","b"] (zkw zag (λx y z w=>x*w+z*y) (λx y z w=>y*w)):=by
 have scPlusF:FnScope ["self","a","b","shared","top","further"] ["self","a","b"] (zah zdc):=sM (by decide +kernel);refine F.okN (k:=1) scPlusF (by walk_at "v") (λcdv A outer s H vs Q E hr=>?_);walk_at "x";rename_i g_ hg_ p dx ra rb x y z w;rintro⟨rfl,h⟩;subst hg_;refine⟨_,(zad (zba (PW.pt (zkp (zap zdq (zaz (r:=rIxT K) zax (pv 1) (zaf) (λ_ _=>Z)) (zaf) (nomark _)) (zhu (zap zdq (zaz (r:=rIxT K) zax (pv 2) (zaf) (λ_ _=>Z)) (zaf) (nomark _))))) (zae (zan (zca ((zaa (zaq zb4 (zaz (r:=rIxT K) zax (pv 1) (zaf) (λ_ _=>Z)) (zaz (r:=rIxT K) zax (pv 2) (zaf) (λ_ _=>Z))) (zaa (zaf) zac)))))) zav)
  (zad (zaw (i:=3) scPlusF.nd rfl (Or.inl rfl) (pe_c c_Shared hr zar .nil ((zaa (zaz (r:=rIxT K) zax (pv 1) (zaf) (λ_ _=>Z)) (zaa (zaz (r:=rIxT K) zax (pv 2) (zaf) (λ_ _=>Z)) zac)))))
  (zad (zaw (i:=4) scPlusF.nd rfl (Or.inl rfl) (zaq zb4 (zaq zci (zaz (r:=rIxT K) zax (pv 1) (zaf) (λ_ _=>Z)) (zaq zby (zaz (r:=rIxT K) zax (pv 2) (zaf) (λ_ _=>Z)) (pv 3))) (zaq zci (zaz (r:=rIxT K) zax (pv 2) (zaf) (λ_ _=>Z)) (zaq zby (zaz (r:=rIxT K) zax (pv 1) (zaf) (λ_ _=>Z)) (pv 3)))))
  (zad (zaw (i:=5) scPlusF.nd rfl (Or.inl rfl) (pe_c c_Shared hr zar .nil ((zaa (zau zfh rfl T.b_abs (by kernel_rfl) ((zaa (pv 4) zac))) (zaa (pv 3) zac)))))
  (zae (zan (zca ((zaa (zaq zby (pv 4) (pv 5)) (zaa (zaq zci (zaq zby (zaz (r:=rIxT K) zax (pv 1) (zaf) (λ_ _=>Z)) (pv 3)) (zaq zby (zaz (r:=rIxT K) zax (pv 2) (zaf) (λ_ _=>Z)) (pv 5))) zac)))))))))),?_⟩
 obtain⟨hp,ha,hb,na,nb,k⟩:=h;have y0:y≠0:=by have:=na.pos;omega
 have w0:w≠0:=by have:=nb.pos;omega
 have yp:=na.pos;have wp:=nb.pos;have A:=SqT.of (K:=K) ha;have B:=SqT.of (K:=K) hb;obtain⟨m1,m2,m3,m4,m5⟩:=na.mul nb;obtain⟨u1,u2⟩:=zsk yp wp na.cop nb.cop;have g0:=zsn (a:=y) w0 nb.bz;have gy:=zpl y w;have d1:CDivB w (gI y w):=⟨g0.1,up g0.2 (by decide)⟩;have d2:CDivB y (gI y w):=⟨g0.1,up g0.2 (by decide)⟩;have e1:=fdr (a:=y) w0 nb.bz;have e2:=fdl (b:=w) w0 na.bz;have n1:CMulC x (Int.fdiv w (gI y w)):=⟨up na.bx (by decide),up e1 (by decide)⟩;have n2:CMulC z (Int.fdiv y (gI y w)):=⟨up nb.bx (by decide),up e2 (by decide)⟩;have f0:=zsn (a:=x*Int.fdiv w (gI y w)+z*Int.fdiv y (gI y w)) g0.1 g0.2;have dw:gI (x*Int.fdiv w (gI y w)+z*Int.fdiv y (gI y w)) (gI y w) ∣ w:=Int.dvd_trans (zgc _ _) (zgc _ _);have d3:CDivB (x*Int.fdiv w (gI y w)+z*Int.fdiv y (gI y w)) (gI (x*Int.fdiv w (gI y w)+z*Int.fdiv y (gI y w)) (gI y w)):=⟨f0.1,up f0.2 (by decide)⟩;have d4:CDivB w (gI (x*Int.fdiv w (gI y w)+z*Int.fdiv y (gI y w)) (gI y w)):=⟨f0.1,up f0.2 (by decide)⟩;have n3:CMulC (Int.fdiv y (gI y w)) (Int.fdiv w (gI (x*Int.fdiv w (gI y w)+z*Int.fdiv y (gI y w)) (gI y w))):=⟨up e2 (by decide),up (Yp (zu4 dw f0.1) nb.bz) (by decide)⟩;walk_at "rd";refine cEq (λc1=>?_) (λc1=>?_)
 ·walk_at "rd"
  refine cEq (λc2=>?_) (λc2=>?_)
  ·walk_at "rd"
   refine⟨(by show 2<=sizeLine;decide),λr hr'=>?_⟩;refine k r _ (Same.upd hr') ?_;subst c1 c2;simp only[Int.mul_one,(zs4 _).1,(zs4 _).2];exact zab
  ·walk_at "rd"
   refine⟨_,_,Z,by omega,by omega,?_⟩;walk_at "rd";refine⟨_,_,Z,by split <;> omega,gy,?_⟩;rw[zgq];walk_at "rd";refine⟨(by show 2<=sizeLine;decide),λr hr'=>?_⟩;refine k r _ (Same.upd hr') ?_;show _=some (HO.tup [V.int (fT (x*w+z*y) (y*w)),V.int (fB (x*w+z*y) (y*w))]);rw[<- u1,<- u2];exact zab
 ·walk_at "rd"
  refine⟨_,_,Z,by omega,by omega,?_⟩;walk_at "rd";refine⟨_,_,Z,by split <;> omega,gy,?_⟩;rw[zgq];walk_at "rd";refine⟨(by show 2<=sizeLine;decide),λr hr'=>?_⟩;refine k r _ (Same.upd hr') ?_;show _=some (HO.tup [V.int (fT (x*w+z*y) (y*w)),V.int (fB (x*w+z*y) (y*w))]);rw[<- u1,<- u2];exact zab
theorem zn6(F:FunD K "times" "Fractions.times" zcx .none f fd)(c_Shared:Cal P w K mg base CX0 1 "shared_divisor" ["one","other"] [] zg4):FnOk P w K mg base CX0 2 f fd ["self","a","b"] (zkw zag (λx y z w=>x*z) (λx y z w=>y*w)):=by
 have scTimesF:FnScope ["self","a","b","one","other"] ["self","a","b"] (zah zcx):=sM (by decide +kernel);refine F.okN (k:=1) scTimesF (by walk_at "v") (λcdv A outer s H vs Q E hr=>?_);walk_at "x";rename_i g_ hg_ p dx ra rb x y z w;rintro⟨rfl,h⟩;subst hg_;refine⟨_,(zad (zba (PW.pt (zkp (zap zdq (zaz (r:=rIxT K) zax (pv 1) (zaf) (λ_ _=>Z)) (zaf) (nomark _)) (zhu (zap zdq (zaz (r:=rIxT K) zax (pv 2) (zaf) (λ_ _=>Z)) (zaf) (nomark _))))) (zae (zan (zca ((zaa (zaq zci (zaz (r:=rIxT K) zax (pv 1) (zaf) (λ_ _=>Z)) (zaz (r:=rIxT K) zax (pv 2) (zaf) (λ_ _=>Z))) (zaa (zaf) zac)))))) zav)
  (zad (zaw (i:=3) scTimesF.nd rfl (Or.inl rfl) (pe_c c_Shared hr zar .nil ((zaa (zau zfh rfl T.b_abs (by kernel_rfl) ((zaa (zaz (r:=rIxT K) zax (pv 1) (zaf) (λ_ _=>Z)) zac))) (zaa (zaz (r:=rIxT K) zax (pv 2) (zaf) (λ_ _=>Z)) zac)))))
  (zad (zaw (i:=4) scTimesF.nd rfl (Or.inl rfl) (pe_c c_Shared hr zar .nil ((zaa (zau zfh rfl T.b_abs (by kernel_rfl) ((zaa (zaz (r:=rIxT K) zax (pv 2) (zaf) (λ_ _=>Z)) zac))) (zaa (zaz (r:=rIxT K) zax (pv 1) (zaf) (λ_ _=>Z)) zac)))))
  (zae (zan (zca ((zaa (zaq zci (zaq zby (zaz (r:=rIxT K) zax (pv 1) (zaf) (λ_ _=>Z)) (pv 3)) (zaq zby (zaz (r:=rIxT K) zax (pv 2) (zaf) (λ_ _=>Z)) (pv 4))) (zaa (zaq zci (zaq zby (zaz (r:=rIxT K) zax (pv 1) (zaf) (λ_ _=>Z)) (pv 4)) (zaq zby (zaz (r:=rIxT K) zax (pv 2) (zaf) (λ_ _=>Z)) (pv 3))) zac))))))))),?_⟩
 obtain⟨hp,ha,hb,na,nb,k⟩:=h;have y0:y≠0:=by have:=na.pos;omega
 have w0:w≠0:=by have:=nb.pos;omega
 have yp:=na.pos;have wp:=nb.pos;have A:=SqT.of (K:=K) ha;have B:=SqT.of (K:=K) hb;obtain⟨m1,m2,m3,m4,m5⟩:=na.mul nb;obtain⟨u1,u2⟩:=zqv yp wp na.cop nb.cop;have g1:=zsn (a:=x) w0 nb.bz;have g2:=zsn (a:=z) y0 na.bz;have d1:CDivB x (gI x w):=⟨g1.1,up g1.2 (by decide)⟩;have d2:CDivB z (gI z y):=⟨g2.1,up g2.2 (by decide)⟩;have d3:CDivB y (gI z y):=⟨g2.1,up g2.2 (by decide)⟩;have d4:CDivB w (gI x w):=⟨g1.1,up g1.2 (by decide)⟩;have n1:CMulC (Int.fdiv x (gI x w)) (Int.fdiv z (gI z y)):=⟨up (fdl w0 na.bx) (by decide),up (fdl y0 nb.bx) (by decide)⟩;have n2:CMulC (Int.fdiv y (gI z y)) (Int.fdiv w (gI x w)):=⟨up (fdr y0 na.bz) (by decide),up (fdr w0 nb.bz) (by decide)⟩;walk_at "rd";refine cEq (λc1=>?_) (λc1=>?_)
 ·walk_at "rd"
  refine cEq (λc2=>?_) (λc2=>?_)
  ·walk_at "rd"
   refine⟨(by show 2<=sizeLine;decide),λr hr'=>?_⟩;refine k r _ (Same.upd hr') ?_;subst c1 c2;simp only[Int.mul_one,(zs4 _).1,(zs4 _).2];exact zab
  ·walk_at "rd"
   refine⟨_,_,Z,by split <;> omega,by omega,?_⟩;rw[zgq];walk_at "rd";refine⟨_,_,Z,by split <;> omega,by omega,?_⟩;rw[zgq];walk_at "rd";refine⟨(by show 2<=sizeLine;decide),λr hr'=>?_⟩;refine k r _ (Same.upd hr') ?_;show _=some (HO.tup [V.int (fT (x*z) (y*w)),V.int (fB (x*z) (y*w))]);rw[<- u1,<- u2];exact zab
 ·walk_at "rd"
  refine⟨_,_,Z,by split <;> omega,by omega,?_⟩;rw[zgq];walk_at "rd";refine⟨_,_,Z,by split <;> omega,by omega,?_⟩;rw[zgq];walk_at "rd";refine⟨(by show 2<=sizeLine;decide),λr hr'=>?_⟩;refine k r _ (Same.upd hr') ?_;show _=some (HO.tup [V.int (fT (x*z) (y*w)),V.int (fB (x*z) (y*w))]);rw[<- u1,<- u2];exact zab
theorem zy2(F:FunD K "against" "Fractions.against" zcg .none f fd)   : FnOk P w K mg base CX0 1 f fd ["self","a"] zzi:=by
 have scAgF:FnScope ["self","a"] ["self","a"] (zah zcg):=sM (by decide +kernel);refine F.okN (k:=0) scAgF (by walk_at "v") (λcdv A outer s H vs Q E hr=>?_);walk_at "x";rename_i g_ hg_ p ra x y;rintro⟨rfl,h⟩;subst hg_;refine⟨_,(zae (zan (zca ((zaa (zng zij (zaz (r:=rIxT K) zax (pv 1) (zaf) (λ_ _=>Z))) (zaa (zaz (r:=rIxT K) zax (pv 1) (zaf) (λ_ _=>Z)) zac)))))),?_⟩;obtain⟨ha,k⟩:=h;refine⟨_,Z,ra,_,_,_,Z,Z,SqT.of ha,Z,_,Z,_,Z,ra,_,_,_,Z,Z,SqT.of ha,Z,(by show 2<=sizeLine;decide),λr hr'=>?_⟩;exact k r _ (Same.upd hr') zab
theorem zxx(F:FunD K "turned" "Fractions.turned" zco .none f fd)(m_Made:MCal P w K mg base (CXe P w) 2 zag "made" ["self","top","bottom"] [] (zui zbp)):FnOk P w K mg base (CXe P w) 3 f fd ["self","a"] (zz5 zag zbp):=by
 have scTuF:FnScope ["self","a"] ["self","a"] (zah zco):=sM (by decide +kernel);refine F.okX (k:=2) scTuF (by walk_at "v") (λcdv A outer s H vs Q E hr=>?_);walk_at "x";rename_i g_ hg_ p dx ra x y;rintro⟨rfl,h⟩;subst hg_;refine⟨_,(zae (zan (pe_m m_Made (pv 0) hr zdv .nil ((zaa (zaz (r:=rIxT K) zax (pv 1) (zaf) (λ_ _=>Z)) (zaa (zaz (r:=rIxT K) zax (pv 1) (zaf) (λ_ _=>Z)) zac)))))),?_⟩;obtain⟨hp,ha,na,k⟩:=h;refine⟨_,Z,p,dx,_,Z,hp,no_F _ (by decide +kernel),?_⟩;refine⟨_,Z,ra,_,_,_,Z,Z,SqT.of ha,Z,_,Z,ra,_,_,_,Z,Z,SqT.of ha,Z,?_⟩;exact⟨_,_,_,Z,up na.bx (by decide),k⟩
theorem zx1(F:FunD K "over" "Field.over" zc4 .none f fd)(m_TuF:MCal P w K mg base (CXe P w) 3 zag "turned" ["self","a"] [] (zz5 zag zbp))(m_TimesF:MCal P w K mg base CX0 2 zag "times" ["self","a","b"] [] (zkw zag (λx y z w=>x*z) (λx y z w=>y*w))):FnOk P w K mg base (CXe P w) 4 f fd ["self","a","b"] (zxi zag zbp):=by
 have scOvF:FnScope ["self","a","b"] ["self","a","b"] (zah zc4):=sM (by decide +kernel);refine F.okX (k:=3) scOvF (by walk_at "v") (λcdv A outer s H vs Q E hr=>?_);walk_at "x";rename_i g_ hg_ p dx ra rb x y z w;rintro⟨rfl,h⟩;subst hg_;refine⟨_,(zae (zan (pe_m m_TimesF (pv 0) hr zar .nil ((zaa (pv 1) (zaa (pe_m m_TuF (pv 0) hr zdv .nil ((zaa (pv 2) zac))) zac)))))),?_⟩;obtain⟨hp,ha,hb,na,nb,k⟩:=h;refine⟨_,Z,p,dx,_,Z,hp,no_F _ (by decide +kernel),_,Z,_,Z,p,dx,_,Z,hp,no_F _ (by decide +kernel),_,Z,?_⟩;refine⟨p,dx,rb,z,w,Z,hp,hb,nb,?_⟩;rcases k with⟨nz,k⟩ | ⟨z0,k⟩
 ·refine .inl ⟨nz,λr2 H2 e2 h2=>?_⟩;exact⟨p,dx,ra,r2,x,y,_,_,Z,e2 _ _ hp,e2 _ _ ha,h2,na,nb.tu nz,λr3 H3 e3 h3=>k r3 H3 (e2.trans e3) h3⟩
 ·exact .inr ⟨z0,k⟩
theorem zkj(F:FunD K "__init__" "Rests.__init__" zdf .none f fd)(c_Prime:Cal P w K mg base CX0 1 "is_prime" ["number"] [] zpg)(q_FieldInit:CCal P w K mg base CX0 1 "Field" "__init__" ["self","prime"] [] (zk6 K))(x_NoPrime:Exc K mg base "NoPrime" zct)  : FnOk P w K mg base (CXe P w) 2 f fd ["self","prime"] (zn1 zao zct):=by
 have scRestsInit:FnScope ["self","prime"] ["self","prime"] (zah zdf):=sM (by decide +kernel);refine F.okX (k:=1) scRestsInit (by walk_at "v") (λcdv A outer s H vs Q E hr=>?_);walk_at "x";rename_i g_ hg_ p dx n;rintro⟨rfl,h⟩;subst hg_;refine⟨_,(zad (zba (PW.pt (zfk (zap zhw (pv 1) (zs0 T.g_GREATEST_PRIME rfl) (nomark _)) (zfm (zch (zb5 (pe_c c_Prime hr zar .nil ((zaa (pv 1) zac)))))))) (zae (zjq x_NoPrime rfl rfl zbn ((zaa (zgi) zac)))) zav)
  (zae (zc6 (zz6 q_FieldInit hr zar .nil ((zaa (pv 0) (zaa (pv 1) zac))))))),?_⟩
 obtain⟨hp,k⟩:=h;walk_at "rd";refine cD (λc=>?_) (λc=>?_)
 ·walk_at "rd"
  refine⟨(by show 1<=sizeLine;decide),?_⟩;rcases k with⟨q,_⟩ | ⟨_,q⟩
  ·omega
  ·exact q
 ·refine⟨_,Z,n,Z,by omega,_,Z,?_⟩;rcases k with⟨_,q1,q2⟩ | ⟨q1,q2⟩
  ·rw[q1];refine iteF ?_;exact⟨_,Z,_,Z,p,zao,dx,_,Z,hp,T.cl_Rests,T.na_Rests_prime,q2⟩
  ·have q:isP n=false:=q1.resolve_left c;rw[q];exact iteT ⟨(by show 1<=sizeLine;decide),q2⟩
theorem zns(F:FunD K "nought" "Rests.nought" zdx .none f fd)   : FnOk P w K mg base CX0 1 f fd ["self"] (spC (.int 0)):=by
 have scNoughtR:FnScope ["self"] ["self"] (zah zdx):=sM (by decide +kernel);refine F.okN (k:=0) scNoughtR (by walk_at "v") (λcdv A outer s H vs Q E hr=>?_);walk_at "x";rename_i g_ hg_ p;rintro⟨rfl,h⟩;subst hg_;refine⟨_,(zae (zan (zaf))),?_⟩;exact h
theorem zst(F:FunD K "plus" "Rests.plus" ze9 .none f fd)   : FnOk P w K mg base CX0 1 f fd ["self","a","b"] (zju zao λn a b=>(a+b)%n):=by
 have scPlusR:FnScope ["self","a","b"] ["self","a","b"] (zah ze9):=sM (by decide +kernel);refine F.okN (k:=0) scPlusR (by walk_at "v") (λcdv A outer s H vs Q E hr=>?_);walk_at "x";rename_i g_ hg_ p dx n a b;rintro⟨rfl,h⟩;subst hg_;refine⟨_,(zae (zan (zaq zbr (zaq zb4 (pv 1) (pv 2)) (zbf (K:=K) rfl (pv 0) rfl)))),?_⟩;obtain⟨⟨hp,pr,pl⟩,ia,ib,k⟩:=h;have p2:=pr.1;walk_at "rd";exact⟨p,zao,dx,_,_,Z,hp,T.cl_Rests,T.na_Rests_prime,Z,_,_,Z,Z,(by show 0<n;omega),k⟩
theorem zp4(F:FunD K "times" "Rests.times" zek .none f fd)   : FnOk P w K mg base CX0 1 f fd ["self","a","b"] (zju zao λn a b=>a*b%n):=by
 have scTimesR:FnScope ["self","a","b"] ["self","a","b"] (zah zek):=sM (by decide +kernel);refine F.okN (k:=0) scTimesR (by walk_at "v") (λcdv A outer s H vs Q E hr=>?_);walk_at "x";rename_i g_ hg_ p dx n a b;rintro⟨rfl,h⟩;subst hg_;refine⟨_,(zae (zan (zaq zbr (zaq zia (pv 1) (pv 2)) (zbf (K:=K) rfl (pv 0) rfl)))),?_⟩;obtain⟨⟨hp,pr,pl⟩,ia,ib,k⟩:=h;have p2:=pr.1;obtain⟨a0,a1⟩:=ia;walk_at "rd";exact⟨p,zao,dx,_,_,Z,hp,T.cl_Rests,T.na_Rests_prime,Z,_,_,Z,Z,(by show 0<n;omega),k⟩
theorem zyh(F:FunD K "against" "Rests.against" zdj .none f fd)   : FnOk P w K mg base CX0 1 f fd ["self","a"] (zxb zao):=by
 have scAgR:FnScope ["self","a"] ["self","a"] (zah zdj):=sM (by decide +kernel);refine F.okN (k:=0) scAgR (by walk_at "v") (λcdv A outer s H vs Q E hr=>?_);walk_at "x";rename_i g_ hg_ p dx n a;rintro⟨rfl,h⟩;subst hg_;refine⟨_,(zae (zan (zaq zbr (zng zij (pv 1)) (zbf (K:=K) rfl (pv 0) rfl)))),?_⟩;obtain⟨⟨hp,pr,pl⟩,ia,k⟩:=h;have p2:=pr.1;walk_at "rd";exact⟨p,zao,dx,_,_,Z,hp,T.cl_Rests,T.na_Rests_prime,Z,_,_,Z,Z,(by show 0<n;omega),k⟩
theorem zyq(F:FunD K "turned" "Rests.turned" zd3 .none f fd)(x_NoOver:Exc K mg base "NoOver" zbp)  : FnOk P w K mg base (CXe P w) 1 f fd ["self","a"] (zzz zao zbp):=by
 have scTuR:FnScope ["self","a","found","left"] ["self","a"] (zah zd3):=sM (by decide +kernel);refine F.okX (k:=0) scTuR (by walk_at "v") (λcdv A outer s H vs Q E hr=>?_);walk_at "x";rename_i g_ hg_ p dx n a;rintro⟨rfl,h⟩;subst hg_;refine⟨_,(zad (zba (zap zdq (pv 1) (zaf) (nomark _)) (zae (zjq x_NoOver rfl rfl zbn ((zaa (zgi) zac)))) zav)
  (zad (zaw (i:=2) scTuR.nd rfl (Or.inl rfl) (zaf))
  (zad (zaw (i:=3) scTuR.nd rfl (Or.inl rfl) (pv 1))
  (zad (PS.nox (zei PassesOwn.never (zap zkn (pv 3) (zaf) (nomark _)) (zad (zaw (i:=2) scTuR.nd rfl (Or.inl rfl) (zaq zhh (zaq zia (zng zij (pv 2)) (zaq zrr (zbf (K:=K) rfl (pv 0) rfl) (pv 3))) (zbf (K:=K) rfl (pv 0) rfl)))
  (zae (zaw (i:=3) scTuR.nd rfl (Or.inl rfl) (zaq zhh (zbf (K:=K) rfl (pv 0) rfl) (pv 3)))))))
  (zae (zan (pv 2))))))),?_⟩
 obtain⟨⟨hp,pr,pl⟩,⟨a0,a1⟩,k⟩:=h;have p2:=pr.1;walk_at "rd";refine cEq (λc=>?_) (λc=>?_)
 ·refine⟨(by show 1<=sizeLine;decide),?_⟩;rcases k with⟨q,_⟩ | ⟨_,q⟩
  ·exact absurd c q
  ·exact q
 rcases k with⟨_,k⟩ | ⟨q,_⟩
 case inr=>exact absurd q c
 walk_at "rd"
 refine⟨λm σ H'=>∃(f l:Int),m=l.toNat/\σ = [some (.ref p),some (.int a),some (.int f),some (.int l)]/\H'=H/\Tn n a f l,⟨_,1,a,Z,Z,Z,zl1 pr (by omega) a1⟩,?_⟩;rintro m σ H' ⟨f,l,rfl,rfl,rfl,tn⟩;have f0:=tn.f0;have f1:=tn.f1;have l0:=tn.l0;have l1:=tn.l1;walk_at "rd";refine cNe (λc1=>?_) (λc1=>?_)
 ·refine⟨λσ' H''=>σ'=[some (.ref p),some (.int a),some (.int (Int.fmod (-f*Int.fdiv n l) n)),some (.int (Int.fmod n l))]/\H''=H',?_,?_⟩
  ·rintro σ' H'' ⟨rfl,rfl⟩;exact⟨(Int.fmod n l).toNat,zqy tn,_,_,rfl,rfl,rfl,zn9 pr tn c1⟩
  ·refine⟨_,Z,_,Z,_,Z,p,zao,dx,_,_,Z,hp,T.cl_Rests,T.na_Rests_prime,Z,_,Z,_,_,Z,Z,⟨by show l≠0;omega,by omega⟩,_,_,Z,Z,.inl ⟨by omega,by omega⟩,?_⟩;refine⟨_,Z,p,zao,dx,_,_,Z,hp,T.cl_Rests,T.na_Rests_prime,Z,_,_,Z,Z,(by show n≠0;omega),?_⟩;exact⟨_,Z,p,zao,dx,_,_,Z,hp,T.cl_Rests,T.na_Rests_prime,Z,_,Z,_,_,Z,Z,(by show l≠0;omega),Z,Z⟩
 ·exact⟨_,Z,k f (zt2 tn c1)⟩
theorem zx8(F:FunD K "over" "Field.over" zc4 .none f fd)(m_TuR:MCal P w K mg base (CXe P w) 1 zao "turned" ["self","a"] [] (zzz zao zbp))(m_TimesR:MCal P w K mg base CX0 1 zao "times" ["self","a","b"] [] (zju zao λn a b=>a*b%n)):FnOk P w K mg base (CXe P w) 2 f fd ["self","a","b"] (zzn zao zbp):=by
 have scOvR:FnScope ["self","a","b"] ["self","a","b"] (zah zc4):=sM (by decide +kernel);refine F.okX (k:=1) scOvR (by walk_at "v") (λcdv A outer s H vs Q E hr=>?_);walk_at "x";rename_i g_ hg_ p dx n a b;rintro⟨rfl,h⟩;subst hg_;refine⟨_,(zae (zan (pe_m m_TimesR (pv 0) hr zar .nil ((zaa (pv 1) (zaa (pe_m m_TuR (pv 0) hr zdv .nil ((zaa (pv 2) zac))) zac)))))),?_⟩;obtain⟨hn,ia,ib,k⟩:=h;have hp:=hn.1;refine⟨_,Z,p,dx,_,Z,hp,no_R _ _ (by decide +kernel),_,Z,_,Z,p,dx,_,Z,hp,no_R _ _ (by decide +kernel),_,Z,?_⟩;refine⟨p,dx,n,b,Z,hn,ib,?_⟩;rcases k with⟨nz,k⟩ | ⟨z0,k⟩
 ·exact .inl ⟨nz,λf hf=>⟨p,dx,n,a,f,Z,hn,ia,⟨hf.1,hf.2.1⟩,k f hf⟩⟩
 ·exact .inr ⟨z0,k⟩
theorem zzr(F:FunD K "degree" "degree" zim .none f fd)   : FnOk P w K mg base CX0 1 f fd ["term"] (zwd K):=by
 have scDeg:FnScope ["term"] ["term"] (zah zim):=sM (by decide +kernel);refine F.okN (k:=0) scDeg (by walk_at "v") (λcdv A outer s H vs Q E hr=>?_);walk_at "x";rename_i g_ hg_ a xs;rintro⟨rfl,h⟩;subst hg_;refine⟨_,(zae (zan (zau (ze4 (K:=K) rfl true rfl) rfl T.b_sum (by kernel_rfl) ((zaa (pv 0) zac))))),?_⟩;obtain⟨h1,k⟩:=h;exact⟨_,Z,a,xs,Z,h1,k⟩
theorem ztd(F:FunD K "rank" "Order.rank" zex .none f fd)   : FnOk P w K mg base CX0 1 f fd ["self","term"] (zfc (AtO zas) rkL):=by
 have scRankO:FnScope ["self","term"] ["self","term"] (zah zex):=sM (by decide +kernel);refine F.okN (k:=0) scRankO (by walk_at "v") (λcdv A outer s H vs Q E hr=>?_);walk_at "x";rename_i g_ hg_ p t xs;rintro⟨rfl,h⟩;subst hg_;refine⟨_,(zae (zan (za4 (za9 (K:=K) rfl) rfl T.b_tuple (by kernel_rfl) ((zaa (pv 1) zac))))),?_⟩;obtain⟨hp,ht0,px,k⟩:=h;have ht:=SqT.of (K:=K) ht0;exact⟨_,Z,t,_,Z,.inr ⟨ht,k t H (Same.refl _) ht0⟩⟩
theorem zsz(F:FunD K "rank" "Degrees.rank" zdw .none f fd)(c_Deg:Cal P w K mg base CX0 1 "degree" ["term"] [] (zwd K)):FnOk P w K mg base CX0 2 f fd ["self","term"] (zfc (AtO zal) rkD):=by
 have scRankD:FnScope ["self","term"] ["self","term"] (zah zdw):=sM (by decide +kernel);refine F.okN (k:=1) scRankD (by walk_at "v") (λcdv A outer s H vs Q E hr=>?_);walk_at "x";rename_i g_ hg_ p t xs;rintro⟨rfl,h⟩;subst hg_;refine⟨_,(zae (zan (zaq zgv (zca ((zaa (pe_c c_Deg hr zar .nil ((zaa (pv 1) zac))) zac))) (za4 (za9 (K:=K) rfl) rfl T.b_tuple (by kernel_rfl) ((zaa (pv 1) zac)))))),?_⟩;obtain⟨hp,ht0,px,k⟩:=h;have ht:=SqT.of (K:=K) ht0;refine⟨_,Z,t,xs,Z,ht,(by show 1<=sizeLine;decide),λl hl=>?_⟩;have e1:Same H (upd H l (HO.tup [V.int xs.sum])):=Same.upd hl;refine⟨_,Z,t,_,Z,.inr ⟨e1.seqT ht,?_⟩⟩;refine⟨_,_,_,_,Z,Z,SqT.of (zab),e1.seqT ht,by simp,by simp;exact Yr (Nat.add_le_add_left px.len 1) (by rw[sizeLine_eq];decide),λz=>?_,λ_ r hr'=>?_⟩
 ·exact absurd (List.map_eq_nil_iff.mp z) px.ne
 ·exact k r _ (e1.updR (e1.free hr')) zab
theorem zrx(F:FunD K "rank" "Tails.rank" zes .none f fd)(c_Deg:Cal P w K mg base CX0 1 "degree" ["term"] [] (zwd K)):FnOk P w K mg base CX0 2 f fd ["self","term"] (zfc (AtO zat) rkT):=by
 have scRankT:FnScope ["self","term"] ["self","term"] (zah zes):=sM (by decide +kernel);refine F.okN (k:=1) scRankT (by walk_at "v") (λcdv A outer s H vs Q E hr=>?_);walk_at "x";rename_i g_ hg_ p t xs;rintro⟨rfl,h⟩;subst hg_;refine⟨_,(zae (zan (zaq zgv (zca ((zaa (pe_c c_Deg hr zar .nil ((zaa (pv 1) zac))) zac))) (za4 (za9 (K:=K) rfl) rfl T.b_tuple (by kernel_rfl) ((zaa (zbk (N:=["power"]) (Blk.plain (by decide +kernel) (by decide +kernel) rfl (by decide +kernel) zmj) rfl (znx (K:=K) rfl rfl T.b_reversed ((zaa (pv 1) zac))) (λC0 s0 H0 fp0=>zcb (i:=0) zmj rfl rfl) (λC0 s0 H0 fp0=>zbj) (λC0 s0 H0 fp0=>zng zij (pv 0))) zac)))))),?_⟩;obtain⟨hp,ht0,px,k⟩:=h;have ht:=SqT.of (K:=K) ht0;refine⟨_,Z,t,xs,Z,ht,(by show 1<=sizeLine;decide),λl hl=>?_⟩;have e1:Same H (upd H l (HO.tup [V.int xs.sum])):=Same.upd hl;have ht1:=e1.seqT ht;have lm:(xs.map V.int).length=xs.length:=Yd _;show tComp _ _ _ _ _ _ _ _;refine zcn (J:=Itv K t (xs.map V.int).length) (H1:=upd H l (HO.tup [V.int xs.sum])) (zm3 ht1) (by rw[lm];exact Yr px.len (by decide)) ?_ (λσ=>σ.length=1) (λ_=>true) (λi=>.int (-(xs.getD (xs.length-1-i) 0))) rfl ?_ λD H' e hL=>?_
 ·exact λR hR=>⟨_,Z,t,_,Z,ht1,hR⟩
 ·rintro i x σ' H2 hi hs e hx Ny Nn hy hn;rw[lm]at hx;rw[zdn hx];match σ',hs with
  | [_],_=>exact⟨_,rfl,_,rfl,hy _ _ rfl (Same.refl _) rfl⟩
 rw[Yu.mpr (λ_ _=>Z),lm]at hL;have eL:(List.range xs.length).map (λi=>V.int (-(xs.getD (xs.length-1-i) 0)))=(xs.reverse.map λx => -x).map V.int:=by
  rw[<- zmo xs λx => -x,Ji];rfl
 rw[eL]at hL;refine⟨D,_,Z,.inl ⟨SqL.of hL,λm hm=>?_⟩⟩;have e2:Same H' (upd H' m (HO.tup ((xs.reverse.map λx => -x).map V.int))):=Same.upd hm;have e3:=(e1.trans e).trans e2;refine⟨l,m,_,_,Z,Z,SqT.of (e2 _ _ (e _ _ zab)),SqT.of zab,by simp,by simp;exact Yr (Nat.add_le_add_left px.len 1) (by rw[sizeLine_eq];decide),λz=>?_,λ_ r hr'=>?_⟩
 ·exact absurd (by simpa using z) px.ne
 ·exact k r _ (e3.updR (e3.free hr')) zab
theorem zrd(F:FunD K "__init__" "Weights.__init__" zcr .none f fd)(x_NoOrder:Exc K mg base "NoOrder" zcs)  : FnOk P w K mg base (CXe P w) 1 f fd ["self","weights"] (zo0 K zaj zcs):=by
 have scWInit:FnScope ["self","weights"] ["self","weights"] (zah zcr):=sM (by decide +kernel);refine F.okX (k:=0) scWInit (by walk_at "v") (λcdv A outer s H vs Q E hr=>?_);walk_at "x";rename_i g_ hg_ p dx l ws;rintro⟨rfl,h⟩;subst hg_;refine⟨_,(zad (zba (zb5 (zau (zn4 (K:=K) rfl rfl) rfl T.b_any (by kernel_rfl) ((zaa (zbk (N:=["weight"]) (Blk.plain (by decide +kernel) (by decide +kernel) rfl (by decide +kernel) zjw) rfl (zce (K:=K) rfl (pv 1)) (λC0 s0 H0 fp0=>zcb (i:=0) zjw rfl rfl) (λC0 s0 H0 fp0=>zbj) (λC0 s0 H0 fp0=>zdb zh4 (pv 0) (zaf) (nomark _))) zac)))) (zae (zjq x_NoOrder rfl rfl zbn ((zaa (zgi) zac)))) zav)
  (zae (zgj (pv 0) (za4 (za9 (K:=K) rfl) rfl T.b_tuple (by kernel_rfl) ((zaa (pv 1) zac))) rfl))),?_⟩
 obtain⟨hp,hl,hlen,k⟩:=h;have lm:(ws.map V.int).length=ws.length:=Yd _;show tComp _ _ _ _ _ _ _ _;refine zcn (J:=Itl K l) (H1:=H) (zcl hl) (by rw[lm];exact Yr hlen (by decide)) ?_ (λσ=>σ.length=1) (λ_=>true) (λi=>.bl (decide (ws.getD i 0<0))) rfl ?_ λD H' e hL=>?_
 ·exact λR hR=>⟨_,Z,l,Z,⟨_,hl⟩,hR⟩
 ·rintro i x σ' H2 hi hs e hx Ny Nn hy hn;rw[zdn hx];match σ',hs with
  | [_],_=>exact⟨_,rfl,_,_,rfl,rfl,hy _ _ rfl (Same.refl _) rfl⟩
 rw[Yu.mpr (λ_ _=>Z),lm]at hL;have eL:(List.range ws.length).map (λi=>V.bl (decide (ws.getD i 0<0)))=((List.range ws.length).map λi=>decide (ws.getD i 0<0)).map V.bl:=by rw[Ji];rfl
 rw[eL]at hL;refine⟨D,_,Z,SqL.of hL,_,Z,?_⟩;rw[zv1];refine cN (λc=>?_) (λc=>?_)
 ·refine⟨(by show 1<=sizeLine;decide),?_⟩;rcases k with⟨q,_⟩ | ⟨_,q⟩
  ·exact absurd q c
  ·exact q H' e
 rcases k with⟨_,k⟩ | ⟨q,_⟩
 case inr=>exact absurd c q
 refine⟨_,Z,l,_,Z,.inl ⟨e.seq hl,λm hm=>?_⟩⟩;have e2:Same H' (upd H' m (HO.tup (ws.map V.int))):=Same.upd hm;have hp2:=e2 _ _ (e _ _ hp);have npm:m≠p:=λz=>by subst z;rw[e _ _ hp]at hm;cases hm
 refine⟨_,Z,p,zaj,dx,[],Z,hp2,T.cl_Weights,T.na_Weights_weights,(by show 0<1000;decide),?_⟩;refine k m _ zab (by rw[zai npm];exact zab) λb o hb nb=>?_
 rw[zai nb];exact e2 _ _ (e _ _ hb)
theorem ztb{ws:List Int}(F:FunD K "rank" "Weights.rank" zdy .none f fd)  (hwn:Nn ws) (hwb:∀x∈ws,x<10^31):FnOk P w K mg base CX0 1 f fd ["self","term"] (zfc (AtW zaj ws) (rkW ws)):=by
 have scRankW:FnScope ["self","term","weighed"] ["self","term"] (zah zdy):=sM (by decide +kernel);refine F.okN (k:=0) scRankW (by walk_at "v") (λcdv A outer s H vs Q E hr=>?_);walk_at "x";rename_i g_ hg_ p t xs;rintro⟨rfl,h⟩;subst hg_;refine⟨_,(zad (zaw (i:=2) scRankW.nd rfl (Or.inl rfl) (zau (ze4 (K:=K) rfl false rfl) rfl T.b_sum (by kernel_rfl) ((zaa (zbk (N:=["power","weight"]) (Blk.plain (by decide +kernel) (by decide +kernel) rfl (by decide +kernel) ze7) rfl (ziy (K:=K) rfl true true rfl T.b_zip ((zaa (pv 1) (zaa (zbf (K:=K) rfl (pv 0) rfl) zac)))) (λC0 s0 H0 fp0=>zm0 (K:=K) rfl rfl rfl ze7 rfl rfl) (λC0 s0 H0 fp0=>zbj) (λC0 s0 H0 fp0=>zaq zpq (pv 0) (pv 1))) zac))))
  (zae (zan (zaq zgv (zca ((zaa (pv 2) zac))) (za4 (za9 (K:=K) rfl) rfl T.b_tuple (by kernel_rfl) ((zaa (pv 1) zac))))))),?_⟩
 obtain⟨hp,ht0,px,k⟩:=h;have ht:=SqT.of (K:=K) ht0;obtain⟨dx,wt,hq,hw⟩:=id hp;show tComp _ _ _ _ _ _ _ _;refine zg6 (K:=K) (b1:=true) (b2:=true) (a:=t) (b:=wt) (xs:=xs) (ys:=ws) yes2 (λx y=>.int (x*y)) (by rfl) ?_ ht (SqT.of hw) (Yr px.len (by decide)) ?_ ?_ λD H' e hL=>?_
 ·exact λR hR=>⟨_,Z,_,Z,p,zaj,dx,_,_,Z,hq,T.cl_Weights,T.na_Weights_weights,Z,hR⟩
 ·exact λ_ _ _ h=>h
 ·exact λi H' R _ h=>⟨_,Z,_,Z,_,_,Z,Z,⟨bits px.nn px.hi i,bits hwn hwb i⟩,h⟩
 rw[zow]at hL;refine⟨D,_,Z,SqL.of hL,?_⟩;refine⟨_,Z,(by show 1<=sizeLine;decide),λl hl=>?_⟩;have e1:Same H' (upd H' l (HO.tup [V.int (wsum ws xs)])):=Same.upd hl;have e2:=e.trans e1;refine⟨_,Z,t,_,Z,.inr ⟨e2.seqT ht,?_⟩⟩;refine⟨_,_,_,_,Z,Z,SqT.of (zab),e2.seqT ht,by simp,by simp;exact Yr (Nat.add_le_add_left px.len 1) (by rw[sizeLine_eq];decide),λz=>?_,λ_ r hr'=>?_⟩
 ·exact absurd (List.map_eq_nil_iff.mp z) px.ne
 ·exact k r _ (e2.updR (e2.free hr')) zab
theorem zir{At:Hp->Addr->Prop}(F:FunD K "fits" "Order.fits" zfb .none f fd)   : FnOk P w K mg base CX0 1 f fd ["self","many"] (zhl At λ_=>true):=by
 have scFitsO:FnScope ["self","many"] ["self","many"] (zah zfb):=sM (by decide +kernel);refine F.okN (k:=0) scFitsO (by walk_at "v") (λcdv A outer s H vs Q E hr=>?_);walk_at "x";rename_i g_ hg_ p k;rintro⟨rfl,h⟩;subst hg_;refine⟨_,(zae (zan (zd7))),?_⟩;exact h.2 H (Same.refl _)
theorem ztf{ws:List Int}(F:FunD K "fits" "Weights.fits" zdz .none f fd)   : FnOk P w K mg base CX0 1 f fd ["self","many"] (zhl (AtW zaj ws) λk=>decide ((ws.length:Int)=k)):=by
 have scFitsW:FnScope ["self","many"] ["self","many"] (zah zdz):=sM (by decide +kernel);refine F.okN (k:=0) scFitsW (by walk_at "v") (λcdv A outer s H vs Q E hr=>?_);walk_at "x";rename_i g_ hg_ p k;rintro⟨rfl,h⟩;subst hg_;refine⟨_,(zae (zan (zdb zdq (zau (zbc (K:=K) rfl) rfl T.b_len PySem.boot_len ((zaa (zbf (K:=K) rfl (pv 0) rfl) zac))) (pv 1) (nomark _)))),?_⟩;obtain⟨hp,q⟩:=h;obtain⟨dx,wt,hq,hw⟩:=id hp;refine⟨_,Z,p,zaj,dx,_,_,Z,hq,T.cl_Weights,T.na_Weights_weights,Z,wt,_,Z,.inr (SqT.of hw),?_⟩;rw[Yd];walk_at "rd";have:=q H (Same.refl _);rw[dI];exact this
theorem zg8{C:Addr}{At:Hp->Addr->Prop}{rk:List Int->List Int}(F:FunD K "first_of" "Order.first_of" zc7 .none f fd)(x_NoTerm:Exc K mg base "NoTerm" za1)(oC:OrdC C At)(mR:MCal P w K mg base CX0 3 C "rank" ["self","term"] [] (zfc At rk))(bR:BM K C "rank"):FnOk P w K mg base (CXe P w) 6 f fd ["self","terms"] (zgm At rk za1):=by
 have scFirst:FnScope ["self","terms"] ["self","terms"] (zah zc7):=sM (by decide +kernel);refine F.okX (k:=5) scFirst (by walk_at "v") (λcdv A outer s H vs Q E hr=>?_);walk_at "x";rename_i g_ hg_ p l ys xss;rintro⟨rfl,h⟩;subst hg_;refine⟨_,(zad (zba (zap zdq (zau (zbc (K:=K) rfl) rfl T.b_len PySem.boot_len ((zaa (pv 1) zac))) (zaf) (nomark _)) (zae (zjq x_NoTerm rfl rfl zbn ((zaa (zgi) zac)))) zav)
  (zae (zan (zvi mR bR (pv 1) (pv 0) hr .nil T.b_max)))),?_⟩
 obtain⟨hp,hl,ht,hw,k⟩:=h;obtain⟨dx,fs,hq,nl⟩:=oC.ins hp;refine⟨_,Z,l,_,Z,.inl (SqL.of hl),?_⟩;walk_at "rd";refine cEq (λc=>?_) (λc=>?_)
 ·refine⟨(by show 1<=sizeLine;decide),?_⟩;have y0:ys=[]:=Ja.mp (by omega);rcases k with⟨_,k⟩ | ⟨q,_⟩
  ·exact k
  ·exact absurd y0 q
 rcases k with⟨q,_⟩ | ⟨_,k⟩
 ·rw[q]at c;exact absurd rfl c
 refine⟨_,Z,_,Z,p,dx,fs,l,ys,Z,hq,nl "rank" (by decide +kernel),Z,hl,?_⟩;exact zzx oC xss ys H hp hl ht hw (λz=>by rw[z]at c;exact c rfl) k
theorem zor(F:FunD K "__init__" "Ring.__init__" zdi .none f fd)(x_NoRing:Exc K mg base "NoRing" zc3){za1:Addr}(hord:∀(kd:Int) (ws:List Int),0<=kd->kd<4->Nn ws->(∀x∈ws,x<10^31)->∃C,OrdP P w K mg base za1 C (AtK zas zal zat zaj kd ws) (rkk kd ws) (fbK kd ws)):FnOk P w K mg base (CXe P w) 2 f fd ["self","many","field","order"] (zl0 za2 zc3 zas zal zat zaj):=by
 have scRgInit:FnScope ["self","many","field","order"] ["self","many","field","order"] (zah zdi):=sM (by decide +kernel);refine F.okX (k:=1) scRgInit (by walk_at "v") (λcdv A outer s H vs Q E hr=>?_);walk_at "x";rename_i g_ hg_ r dx m pf po kd ws;rintro⟨rfl,h⟩;subst hg_;obtain⟨C,O⟩:=hord kd ws h.2.1 h.2.2.1 h.2.2.2.1 h.2.2.2.2.1;refine⟨_,(zad (zba (PW.pt (zfk (zap zh4 (pv 1) (zaf) (nomark _)) (zfk (zap zhw (pv 1) (zau zkb rfl T.b_len PySem.boot_len ((zaa (zs5 T.g_LETTERS rfl) zac))) (nomark _)) (zfm (zch (zb5 (pe_m O.fits (pv 3) hr zar .nil ((zaa (pv 1) zac))))))))) (zae (zjq x_NoRing rfl rfl zbn ((zaa (zgi) zac)))) zav)
  (zad (zgj (pv 0) (pv 1) rfl)
  (zad (zgj (pv 0) (pv 2) rfl)
  (zae (zgj (pv 0) (pv 3) rfl))))),?_⟩
 obtain⟨hr0,k0,k4,wn,wb,hat,k⟩:=h;have no:¬okR kd ws m->∀H',Same H H'->E (.ref zc3) none H':=λq=>by
  rcases k with⟨z,_⟩ | ⟨_,z⟩
  ·exact absurd z q
  ·exact z
 walk_at "rd"
 refine cD (λc=>?_) (λc=>?_)
 ·exact⟨(by show 1<=sizeLine;decide),no (λz=>by have:=z.1;omega) H (Same.refl _)⟩
 refine⟨_,Z,_,Z,(by decide +kernel),?_⟩;rw[zr7];walk_at "rd";refine cD (λc1=>?_) (λc1=>?_)
 ·exact⟨(by show 1<=sizeLine;decide),no (λz=>by have:=z.2.1;omega) H (Same.refl _)⟩
 obtain⟨dO,fs,hq,nl⟩:=O.oC.ins hat;refine⟨_,Z,po,dO,fs,Z,hq,nl "fits" (by decide +kernel),_,Z,po,m,Z,hat,λH1 e1=>?_⟩;refine⟨_,Z,cNB (λc2=>?_) (λc2=>?_)⟩
 ·exact⟨(by show 1<=sizeLine;decide),no (λz=>by rw[z.2.2]at c2;cases c2) H1 e1⟩
 rcases k with⟨_,k⟩ | ⟨q,_⟩
 case inr=>exact absurd ⟨by omega,by omega,c2⟩ q
 have hr1:=e1 _ _ hr0;refine⟨_,Z,_,Z,r,za2,dx,_,Z,hr1,T.cl_Ring,T.na_Ring_many,(by show 0<1000;decide),?_⟩;refine⟨_,Z,_,Z,r,za2,dx,_,Z,zab,T.cl_Ring,T.na_Ring_field,(by show 1<1000;decide),?_⟩;refine⟨_,Z,_,Z,r,za2,dx,_,Z,zab,T.cl_Ring,T.na_Ring_order,(by show 2<1000;decide),?_⟩;refine k _ zab λb o hb ne=>?_
 rw[zai ne,zai ne,zai ne];exact e1 _ _ hb
theorem zu7(F:FunD K "product" "product" zho .none f fd)   : FnOk P w K mg base CX0 1 f fd ["one","other"] (zue K):=by
 have scProd:FnScope ["one","other"] ["one","other"] (zah zho):=sM (by decide +kernel);refine F.okN (k:=0) scProd (by walk_at "v") (λcdv A outer s H vs Q E hr=>?_);walk_at "x";rename_i g_ hg_ a b xs ys;rintro⟨rfl,h⟩;subst hg_;refine⟨_,(zae (zan (za4 (za9 (K:=K) rfl) rfl T.b_tuple (by kernel_rfl) ((zaa (zbk (N:=["power","further"]) (Blk.plain (by decide +kernel) (by decide +kernel) rfl (by decide +kernel) zen) rfl (ziy (K:=K) rfl true true rfl T.b_zip ((zaa (pv 0) (zaa (pv 1) zac)))) (λC0 s0 H0 fp0=>zm0 (K:=K) rfl rfl rfl zen rfl rfl) (λC0 s0 H0 fp0=>zbj) (λC0 s0 H0 fp0=>zaq zb4 (pv 0) (pv 1))) zac))))),?_⟩;obtain⟨ha,hb,hl,k⟩:=h;show tComp _ _ _ _ _ _ _ _;refine zg6 (K:=K) (b1:=true) (b2:=true) (a:=a) (b:=b) (xs:=xs) (ys:=ys) yes2 (λx y=>.int (x+y)) (by rfl) ?_ ha hb hl ?_ ?_ λD H' e hL=>?_
 ·exact λR hR=>⟨_,Z,_,Z,hR⟩
 ·exact λ_ _ _ h=>h
 ·exact λi H' R _ h=>⟨_,Z,_,Z,_,_,Z,Z,h⟩
 rw[zow (λx y=>x+y)]at hL;refine⟨D,_,Z,.inl ⟨SqL.of hL,λr hr=>?_⟩⟩;exact k r _ (e.trans (Same.upd hr)) zab
theorem zve(F:FunD K "goes_into" "goes_into" zf5 .none f fd)   : FnOk P w K mg base CX0 1 f fd ["one","other"] (zqm K):=by
 have scGoes:FnScope ["one","other"] ["one","other"] (zah zf5):=sM (by decide +kernel);refine F.okN (k:=0) scGoes (by walk_at "v") (λcdv A outer s H vs Q E hr=>?_);walk_at "x";rename_i g_ hg_ a b xs ys;rintro⟨rfl,h⟩;subst hg_;refine⟨_,(zae (zan (zau (zf7 (K:=K) rfl rfl) rfl T.b_all (by kernel_rfl) ((zaa (zbk (N:=["power","bound"]) (Blk.plain (by decide +kernel) (by decide +kernel) rfl (by decide +kernel) zfp) rfl (ziy (K:=K) rfl true true rfl T.b_zip ((zaa (pv 0) (zaa (pv 1) zac)))) (λC0 s0 H0 fp0=>zm0 (K:=K) rfl rfl rfl zfp rfl rfl) (λC0 s0 H0 fp0=>zbj) (λC0 s0 H0 fp0=>zdb zvs (pv 0) (pv 1) (nomark _))) zac))))),?_⟩;obtain⟨ha,hb,he,hl,k⟩:=h;show tComp _ _ _ _ _ _ _ _;refine zg6 (K:=K) (b1:=true) (b2:=true) (a:=a) (b:=b) (xs:=xs) (ys:=ys) yes2 (λx y=>.bl (decide (x<=y))) (by rfl) ?_ ha hb hl ?_ ?_ λD H' e hL=>?_
 ·exact λR hR=>⟨_,Z,_,Z,hR⟩
 ·exact λ_ _ _ h=>h
 ·exact λi H' R _ h=>⟨_,Z,_,Z,_,_,Z,Z,h⟩
 refine⟨D,(List.range xs.length).map λi=>decide (xs.getD i 0<=ys.getD i 0),Z,SqL.of ?_,?_⟩
 ·rw[hL];unfold zipV;rw[Yu.mpr (λ_ _=>Z),Ji,<- he,Nat.min_self];rfl
 ·have e2:((List.range xs.length).map λi=>decide (xs.getD i 0<=ys.getD i 0)).all id=zcw xs ys:=by
   unfold zcw;rw[List.all_map];rfl
  rw[e2];exact k _ e
theorem zsi(F:FunD K "left_over" "left_over" zf0 .none f fd)(c_Goes:Cal P w K mg base CX0 1 "goes_into" ["one","other"] [] (zqm K))(x_NoTerm:Exc K mg base "NoTerm" za1)  : FnOk P w K mg base (CXe P w) 2 f fd ["one","other"] zuk:=by
 have scLeftO:FnScope ["one","other"] ["one","other"] (zah zf0):=sM (by decide +kernel);refine F.okX (k:=1) scLeftO (by walk_at "v") (λcdv A outer s H vs Q E hr=>?_);walk_at "x";rename_i g_ hg_ a b xs ys;rintro⟨rfl,h⟩;subst hg_;refine⟨_,(zad (zba (zch (zb5 (pe_c c_Goes hr zar .nil ((zaa (pv 0) (zaa (pv 1) zac)))))) (zae (zjq x_NoTerm rfl rfl zbn ((zaa (zgi) zac)))) zav)
  (zae (zan (za4 (za9 (K:=K) rfl) rfl T.b_tuple (by kernel_rfl) ((zaa (zbk (N:=["power","whole"]) (Blk.plain (by decide +kernel) (by decide +kernel) rfl (by decide +kernel) zfs) rfl (ziy (K:=K) rfl true true rfl T.b_zip ((zaa (pv 0) (zaa (pv 1) zac)))) (λC0 s0 H0 fp0=>zm0 (K:=K) rfl rfl rfl zfs rfl rfl) (λC0 s0 H0 fp0=>zbj) (λC0 s0 H0 fp0=>zaq zkl (pv 1) (pv 0))) zac)))))),?_⟩
 obtain⟨ha,hb,he,hl,hg,k⟩:=h;refine⟨_,Z,_,Z,a,b,xs,ys,Z,SqT.of ha,SqT.of hb,he,hl,λH1 e1=>⟨_,Z,?_⟩⟩;rw[hg];refine iteF ?_;show tComp _ _ _ _ _ _ _ _;refine zg6 (K:=K) (b1:=true) (b2:=true) (a:=a) (b:=b) (xs:=xs) (ys:=ys) yes2 (λx y=>.int (y-x)) (by rfl) ?_ (SqT.of (e1 _ _ ha)) (SqT.of (e1 _ _ hb)) hl ?_ ?_ λD H' e hL=>?_
 ·exact λR hR=>⟨_,Z,_,Z,hR⟩
 ·exact λ_ _ _ h=>h
 ·exact λi H' R _ h=>⟨_,Z,_,Z,_,_,Z,Z,h⟩
 rw[zow (λx y=>y-x)]at hL;refine⟨D,_,Z,.inl ⟨SqL.of hL,λr hr=>?_⟩⟩;refine k r _ ((e1.trans e).trans (Same.upd hr)) ?_;rw[zab];congr 3;unfold subT;rw[List.zipWith_comm]
theorem zpf(F:FunD K "absorb" "absorb" zil .none f fd)  (hfld:∀n:Int,n<=9973->(n=0\/Pr n)->∃C,FldP P w K mg base C (AtN zag zao n) n):FnOk P w K mg base CX0 4 f fd ["ring","total","f"] (zyw za2 zag zao zas zal zat zaj):=by
 have scAbsorb:FnScope ["ring","total","f","nought","term","number"] ["ring","total","f"] (zah zil):=sM (by decide +kernel);refine F.okN (k:=3) scAbsorb (by walk_at "v") (λcdv A outer s H vs Q E hr=>?_);walk_at "x";rename_i g_ hg_ F fF r d e g cF kvs fvs φ ψ;rintro⟨rfl,h⟩;subst hg_;obtain⟨CF,B⟩:=hfld g.n h.1.nb h.1.np;refine⟨_,(zad (zaw (i:=3) scAbsorb.nd rfl (Or.inl rfl) (zru B.nought (zbf (K:=K) rfl (pv 0) rfl) hr zar .nil))
  (zae (zii (zdt PassesOwn.never rfl (zf9 (pv 2)) (zhz rfl (zbw (zbb (i:=4) scAbsorb.nd rfl (Or.inl rfl)) (zbw (zbb (i:=5) scAbsorb.nd rfl (Or.inl rfl)) zfz))) (zad (zba (zlx (zov (uOne hr) (pv 4) (pv 1))) (zae (zaw (i:=5) scAbsorb.nd rfl (Or.inl rfl) (pe_m B.plus (zbf (K:=K) rfl (pv 0) rfl) hr zar .nil ((zaa (zi2 (uOne hr) (pv 1) (pv 4) (λ_ _=>Z)) (zaa (pv 5) zac)))))) zav)
  (zae (zba (zap (zko hr.units) (pv 5) (pv 3) (nomark _)) (zae (zc6 (zll (uOne hr) (pv 1) ((zaa (pv 4) zac))))) (zae (zfx (uOne hr) (pv 1) (pv 4) (pv 5) rfl))))))))),?_⟩
 obtain⟨hR,de,hd,he,pF,pG,hl,bF,bG,k⟩:=h;obtain⟨dx,hr0⟩:=hR.at_;have hf:=hR.fd;obtain⟨dF,hF⟩:=B.ins hf;refine⟨_,Z,r,za2,dx,_,_,Z,hr0,T.cl_Ring,T.na_Ring_field,Z,g.pf,dF,_,Z,hF,no_P _ _ (by decide +kernel),F,fF,cF,g.pf,Z,hf,λu H1 e1 hu=>?_⟩;rw[zb8]at hu;refine⟨_,Z,e,fvs,Z,.inl (e1 _ _ he),λo=>?_⟩;have ntd:=pG.tnd;have lt:=zd0 fvs;have h1d:=e1 _ _ hd;have hHe:H1 e=some (.dT fvs):=e1 _ _ he;refine ze8 (λi σ H'=>i<=fvs.length/\(∃v4 v5,σ = [some (.ref r),some (.ref d),some (.ref e),some u,v4,v5])/\FzD H' e o fvs/\Kp [d,e] H1 H'/\∃kv,H' d=some (.dT kv)/\PF g.n g.m H' kv (λt=>φ t+cutP ψ ((tms fvs).take i) t)/\kv.length<=kvs.length+i) ?_ (λi σ H' h=>h.2.2.1) ?_ ?_
 ·refine⟨Y2 _,⟨none,none,Z⟩,zab,Kp.upd (by simp),kvs,?_,?_,Yi _⟩
  ·rw[zai de];exact h1d
  ·refine((pF.same e1).fix (zbz hHe)).congr λt=>?_
   rw[List.take_zero,zjk];grind
 ·rintro i kx v σ H2 p b hk ⟨hi,⟨v4,v5,rfl⟩,hz,hk2,kv,hd2,pk,lk⟩ hp hb;obtain⟨t,rfl,t0,ht,iv,nv⟩:=pG.ix hk;have hlt:=zay hk;have hti:=zvy ntd ht;have tk:=zeb ht;have fx:Fix H1 H2:=hk2.fix λa ha ob hob=>by
   rcases Yj.mp ha with rfl | ha
   ·rw[h1d]at hob;cases hob;exact .inl ⟨_,Z⟩
   ·rw[Yq.mp ha,hHe]at hob;cases hob;exact .inl ⟨_,Z⟩
  have fx2:Fix H H2:=(Fix.of e1).tr fx;refine⟨p,_,Z,SqT.of zab,Z,_,_,Z,_,_,Z,Z,?_⟩;have e3:Same H2 (upd H2 p (.tup [.ref b,v])):=Same.upd hp;generalize upd H2 p (HO.tup [V.ref b,v])=H3 at e3;have hb3:=e3 _ _ hb;have hd3:=e3 _ _ hd2;have fx3:Fix H H3:=fx2.tr (.of e3);unfold za0;dsimp only;have cut0:cutP ψ ((tms fvs).take i) t=0:=zmf hti;refine zev (λσ' H'=>Same H3 H'/\∃v',σ'=[some (.ref r),some (.ref d),some (.ref e),some u,some (.ref b),some v']/\Rep g.n H' v' (φ t + ψ t)/\(valV kv (ky t)=none->φ t + ψ t≠0)) ?_ ?_;rotate_left
  ·intro N hN;refine⟨_,Z,_,Z,d,_,Z,DGet.t hd3 hb3,_,Z,?_⟩
   cases hval:valV kv (ky t) with
   | none=>
    have z:=pk.out t hval;rw[cut0]at z;have z2 : φ t=0:=by grind
    have e0 : φ t + ψ t = ψ t:=by rw[z2];grind
    refine iteF (hN _ _ ⟨Same.refl _,v,Z,?_,λ_=>by rw[e0];exact nv⟩);rw[e0];exact iv.fix fx3
   | some v0=>
    obtain⟨a1,a2⟩:=pk.val t v0 hval;rw[cut0]at a1;have e0 : φ t+0 = φ t:=by grind
    rw[e0]at a1;refine iteT ⟨_,Z,r,za2,dx,_,_,Z,fx3.ins hr0,T.cl_Ring,T.na_Ring_field,Z,g.pf,dF,_,Z,fx3.ins hF,no_P _ _ (by decide +kernel),_,Z,_,Z,d,v0,Z,?_,_,Z,F,fF,cF,g.pf,v0,v,φ t,ψ t,Z,ziq fx3 hf,a1.same e3,iv.fix fx3,bF t,bG t,λv' H4 e4 hv'=>hN _ _ ⟨e4,v',Z,hv',λz=>(by rw[hval]at z;cases z)⟩⟩;have:=DGet.t (k:=ky t) hd3 hb3;rw[hval]at this;exact this
  rintro σ' H4 ⟨e4,v',rfl,iv',hno⟩;have g4:=e3.trans e4;have hd4:=e4 _ _ hd3;have hb4:=e4 _ _ hb3;have hz4:FzD H4 e o fvs:=g4 _ _ hz;have hk4:Kp [d,e] H1 H4:=hk2.tr (.of g4);have pk4:=pk.same g4;obtain⟨dn,z0,rd,rz,s1,s2,eq⟩:=zk3 (K:=K) iv' ((hu.fix fx).same g4);refine⟨_,rfl,_,rfl,dn,z0,rd,rz,s1,s2,_,rfl,?_⟩;rcases eq with⟨z,q⟩ | ⟨z,q⟩
  ·rw[q];refine iteT ?_
   cases hval:valV kv (ky t) with
   | none=>exact absurd z (hno hval)
   | some v0=>
    refine⟨_,Z,.inr (.inr (.inl ⟨Z,.inr ⟨_,hd4⟩⟩)),_,Z,d,b,kv,ky t,v0,Z,Z,hd4,hb4,hval,?_⟩;refine⟨hlt,⟨_,_,Z⟩,(zai (Jc de)).trans hz4,hk4.tr (Kp.upd (by simp)),_,zab,?_,?_⟩
    ·rw[tk,<- zmh,z];exact(pk4.drop t).fix (zbz hd4)
    ·have:=zja kv (ky t);omega
  ·rw[q];refine iteF ⟨_,Z,_,Z,_,Z,d,_,Z,DPut.t hd4 hb4 (by omega),?_⟩;refine⟨hlt,⟨_,_,Z⟩,(zai (Jc de)).trans hz4,hk4.tr (Kp.upd (by simp)),_,zab,?_,?_⟩
   ·rw[tk,<- zmh];exact(pk4.put t0 iv' z).fix (zbz hd4)
   ·have:=zcy kv (ky t) v';omega
 ·rintro σ H2 ⟨_,⟨v4,v5,rfl⟩,hz,hk2,kv,hd2,pk,lk⟩;rw[<- lt,List.take_length,zi9 λt ht=>pG.tmem.mpr ht]at pk;refine .inr ⟨e,o,_,hz,λo' w' z=>?_,k _ kv (λb ob hb hbd=>?_) ?_ ?_ lk⟩
  ·have z':H e=some (.frz o' w'):=z;rw[he]at z';cases z'
  ·by_cases be:b=e
   ·subst be;rw[zab,<- he];exact hb
   ·rw[zai be];exact hk2 _ _ (e1 _ _ hb) (by simp at hbd;simp[hbd,be])
  ·rw[zai de];exact hd2
  ·exact pk.fix (zf8 (u:=.dT []) hz (.inr (.inr ⟨_,_,Z⟩)))
theorem zvz(F:FunD K "scaled" "scaled" zi7 .none f fd)(c_Prod:Cal P w K mg base CX0 1 "product" ["one","other"] [] (zue K))(hfld:∀n:Int,n<=9973->(n=0\/Pr n)->∃C,FldP P w K mg base C (AtN zag zao n) n):FnOk P w K mg base CX0 4 f fd ["ring","number","term","f"] (zt7 za2 zag zao zas zal zat zaj):=by
 have scScal:FnScope ["ring","number","term","f","found","part","factor"] ["ring","number","term","f"] (zah zi7):=sM (by decide +kernel);refine F.okN (k:=3) scScal (by walk_at "v") (λcdv A outer s H vs Q E hr=>?_);walk_at "x";rename_i g_ hg_ F fF r v t e g cF fvs x l ψ;rintro⟨rfl,h⟩;subst hg_;obtain⟨CF,B⟩:=hfld g.n h.1.nb h.1.np;refine⟨_,(zad (zba (zap (zko hr.units) (pv 1) (zru B.nought (zbf (K:=K) rfl (pv 0) rfl) hr zar .nil) (nomark _)) (zae (zan (zcd))) zav)
  (zad (zaw (i:=4) scScal.nd rfl (Or.inl rfl) (zcd))
  (zad (zii (zdt PassesOwn.never rfl (zf9 (pv 3)) (zhz rfl (zbw (zbb (i:=5) scScal.nd rfl (Or.inl rfl)) (zbw (zbb (i:=6) scScal.nd rfl (Or.inl rfl)) zfz))) (zae (zfx (uOne hr) (pv 4) (pe_c c_Prod hr zar .nil ((zaa (pv 2) (zaa (pv 5) zac)))) (pe_m B.times (zbf (K:=K) rfl (pv 0) rfl) hr zar .nil ((zaa (pv 1) (zaa (pv 6) zac)))) rfl))))
  (zae (zan (pv 4)))))),?_⟩
 obtain⟨hR,iv,bx,ht,okl,he,pT,bT,hl,k⟩:=h;obtain⟨dx,hr0⟩:=hR.at_;have hf:=hR.fd;obtain⟨dF,hF⟩:=B.ins hf;refine⟨_,Z,_,Z,r,za2,dx,_,_,Z,hr0,T.cl_Ring,T.na_Ring_field,Z,g.pf,dF,_,Z,hF,no_P _ _ (by decide +kernel),F,fF,cF,g.pf,Z,hf,λu H1 e1 hu=>?_⟩;rw[zb8]at hu;obtain⟨dn,z0,rd,rz,s1,s2,eq⟩:=zk3 (K:=K) (iv.same e1) hu;refine⟨dn,z0,rd,rz,s1,s2,_,Z,?_⟩;rcases eq with⟨z,q⟩ | ⟨z,q⟩
 ·rw[q];refine iteT ?_;intro d nd0;refine k d _ [] (e1.free nd0) (e1.updR (e1.free nd0)) zab (PF.nil.congr λt=>by rw[z];grind) (Y2 _)
 ·rw[q];refine iteF ?_;intro d nd0;have e2:Same H1 (upd H1 d (.dT [])):=Same.upd nd0;have hd2:(upd H1 d (HO.dT [])) d=some (.dT []):=zab;generalize upd H1 d (HO.dT [])=H2 at e2 hd2;have g2:=e1.trans e2;have he2:=g2 _ _ he;have de:d≠e:=λz=>by subst z;rw[e1 _ _ he]at nd0;cases nd0
  refine⟨_,Z,e,fvs,Z,.inl he2,λo=>?_⟩;have ntd:=pT.tnd;have ltk:=zd0 fvs;refine ze8 (λi σ H'=>i<=fvs.length/\(∃v5 v6,σ = [some (.ref r),some v,some (.ref t),some (.ref e),some (.ref d),v5,v6])/\FzD H' e o fvs/\Kp [d,e] H2 H'/\∃kv,H' d=some (.dT kv)/\PF g.n g.m H' kv (λt=>x*sh l (cutP ψ ((tms fvs).take i)) t)/\kv.length<=i) ?_ (λi σ H' h=>h.2.2.1) ?_ ?_
  ·refine⟨Y2 _,⟨none,none,Z⟩,zab,Kp.upd (by simp),[],?_,PF.nil.congr λt=>?_,Y2 _⟩
   ·rw[zai de];exact hd2
   ·rw[List.take_zero,zjk];unfold sh;split <;> grind
  ·rintro i kx vx σ H3 p b hk ⟨hi,⟨v5,v6,rfl⟩,hz,hk3,kv,hd3,pk,lk⟩ hp hb;obtain⟨y,rfl,y0,hy,iy,ny⟩:=pT.ix hk;have hlt:=zay hk;have hti:=zvy ntd hy;have tk:=zeb hy;have fx3:Fix H H3:=(Fix.of g2).tr (hk3.fix λa ha ob hob=>by
    rcases Yj.mp ha with rfl | ha
    ·rw[hd2]at hob;cases hob;exact .inl ⟨_,Z⟩
    ·rw[Yq.mp ha,he2]at hob;cases hob;exact .inl ⟨_,Z⟩)
   refine⟨p,_,Z,SqT.of zab,Z,_,_,Z,_,_,Z,Z,?_⟩;have e4:Same H3 (upd H3 p (.tup [.ref b,vx])):=Same.upd hp;generalize upd H3 p (HO.tup [V.ref b,vx])=H4 at e4;have fx4:Fix H H4:=fx3.tr (.of e4);refine⟨_,Z,r,za2,dx,_,_,Z,fx4.ins hr0,T.cl_Ring,T.na_Ring_field,Z,g.pf,dF,_,Z,fx4.ins hF,no_P _ _ (by decide +kernel),_,Z,_,Z,F,fF,cF,g.pf,v,vx,x,ψ y,Z,ziq fx4 hf,iv.fix fx4,iy.fix fx4,bx,bT y,λv' H5 e5 hv'=>?_⟩;have hb4:=e4 _ _ hb;rw[zeq]at hb4;refine⟨_,Z,_,Z,_,Z,t,b,l,y,Z,SqT.of (e5 _ _ (fx4.tup _ _ ht)),SqT.of (e5 _ _ hb4),by rw[okl.len];exact Yr hR.m4 (by decide),λrr H6 e6 hrr=>?_⟩;have g6:=(e4.trans e5).trans e6;have hd6:=g6 _ _ hd3;refine⟨d,_,Z,DPut.t hd6 (by rw[zeq];exact hrr) (by omega),?_⟩;refine⟨hlt,⟨_,_,Z⟩,(zai (Jc de)).trans (g6 _ _ hz),(hk3.tr (.of g6)).tr (Kp.upd (by simp)),_,zab,?_,?_⟩
   ·rw[tk,<- zjy (y0.len.trans okl.len.symm)];refine((pk.same g6).put (T0.add okl y0) (hv'.same e6) ?_).fix (zbz hd6);intro z';rcases Classical.em (x=0) with q' | q'
    ·exact z q'
    ·apply ny;grind
   ·have:=zcy kv (ky (addT l y)) v';omega
  ·rintro σ H3 ⟨_,⟨v5,v6,rfl⟩,hz,hk3,kv,hd3,pk,lk⟩;rw[<- ltk,List.take_length,zi9 λt ht=>pT.tmem.mpr ht]at pk;refine .inr ⟨e,o,_,hz,λo' w' z=>?_,?_⟩
   ·have z':H e=some (.frz o' w'):=z;rw[he]at z';cases z'
   refine⟨_,Z,k d _ kv (e1.free nd0) (λc ob hc=>?_) ((zai de).trans hd3) ?_ lk⟩
   ·by_cases ce:c=e
    ·subst ce;rw[zab,<- he];exact hc
    ·rw[zai ce];exact hk3 _ _ (g2 _ _ hc) (by simp only[List.mem_cons,List.not_mem_nil,or_false,not_or];exact⟨(λz=>by subst z;rw[e1 _ _ hc]at nd0;cases nd0),ce⟩)
   ·exact pk.fix (zf8 (u:=.dT []) hz (.inr (.inr ⟨_,_,Z⟩)))
theorem z0p(F:FunD K "first_term" "first_term" zey .none f fd)(x_NoLead:Exc K mg base "NoLead" zem){za1:Addr}(hord:∀(kd:Int) (ws:List Int),0<=kd->kd<4->Nn ws->(∀x∈ws,x<10^31)->∃C,OrdP P w K mg base za1 C (AtK zas zal zat zaj kd ws) (rkk kd ws) (fbK kd ws)):FnOk P w K mg base (CXe P w) 8 f fd ["ring","f"] (spFT za2 zag zao zas zal zat zaj):=by
 have scFT:FnScope ["ring","f"] ["ring","f"] (zah zey):=sM (by decide +kernel);refine F.okX (k:=7) scFT (by walk_at "v") (λcdv A outer s H vs Q E hr=>?_);walk_at "x";rename_i g_ hg_ F fF r d g cF kvs φ;rintro⟨rfl,h⟩;subst hg_;obtain⟨C,O⟩:=hord g.kd g.ws h.1.k0 h.1.k4 h.1.wn h.1.wb;refine⟨_,(zad (zba (zap (zk1 hr.units) (pv 1) (zcd) (nomark _)) (zae (zjq x_NoLead rfl rfl zbn ((zaa (zgi) zac)))) zav)
  (zae (zan (pe_m O.first (zbf (K:=K) rfl (pv 0) rfl) hr zdv .nil ((zaa (za4 (zfi rfl) rfl T.b_list (by kernel_rfl) ((zaa (pv 1) zac))) zac)))))),?_⟩
 obtain⟨hR,hd,pk,tb,ne,k⟩:=h;obtain⟨dx,hr0⟩:=hR.at_;walk_at "rd";intro d2 nd2;have e1:Same H (upd H d2 (.dT [])):=Same.upd nd2;have hd2:(upd H d2 (HO.dT [])) d2=some (.dT []):=zab;generalize upd H d2 (HO.dT [])=H1 at e1 hd2;obtain⟨da,kds,fl,_⟩:=(pk.same e1).kds (K:=K);have ld:kvs.length=da.length:=Paired.length kds;refine⟨d,d2,kvs,[],da,[],Z,Z,.inl (e1 _ _ hd),.inl hd2,kds,.nil,fl,(λ_ z=>by cases z),_,Z,?_⟩;have eq0:eqKD da []=false:=by
  unfold eqKD
  cases da with
  | nil=>exact absurd (Ja.mp ld) ne
  | cons x l=>rfl
 rw[eq0];refine iteF ?_;obtain⟨dO,fs,hO,nl⟩:=O.oC.ins hR.od;refine⟨_,Z,r,za2,dx,_,_,Z,e1 _ _ hr0,T.cl_Ring,T.na_Ring_order,Z,g.po,dO,fs,Z,e1 _ _ hO,nl "first_of" (by decide +kernel),_,Z,d,kvs,Z,.inl (e1 _ _ hd),λl as hl la hi=>?_⟩;have e2:Same H1 (upd H1 l (.lst (as.map V.ref))):=Same.upd hl;have g2:=e1.trans e2;have ek:=pk.keys;have hp:=K6.tms_list (m:=g.m) (l:=l) ek la hi;have pw:∀xs∈tms kvs,Pws xs:=λxs hx=>zpe (pk.sp xs (pk.tmem.mp hx)) hR.m1 hR.m4 (tb xs (pk.tmem.mp hx))
 have ne2:as.map V.ref≠[]:=λz=>ne (Ja.mp (by rw[<- la];have:=Jx List.length z;simpa using this))
 refine⟨g.po,l,as.map V.ref,tms kvs,Z,O.oC.same g2 hR.od,zab,pimp (λ_ _ q=>q.same e2) hp,pw,.inr ⟨ne2,λH' xs v e3 hm hx=>?_⟩⟩;have g3:=g2.trans e3;have hp3:=pimp (λ_ _ q=>(q.same e2).same e3) hp;obtain⟨a,rfl,ha⟩:=pz hp3 _ hm;have hxm:=(List.of_mem_zip hm).1;refine k H' xs a g3 ha ⟨pk.tmem.mp hxm,λt ht=>?_⟩;obtain⟨v',hv'⟩:=zn5 (l:=tms kvs) (l':=as.map V.ref) (by rw[zd0,Yd,la]) (pk.tmem.mpr ht);exact zmg hR.om (pk.sp xs (pk.tmem.mp hxm)).len (pk.sp t ht).len (hx _ hv') |>.imp (λe=>e) λe=>e
theorem zti(F:FunD K "place_of" "Waiting.place_of" zcm .none f fd)   : FnOk P w K mg base CX0 1 f fd ["self","rank"] (zqi zak):=by
 have scPlace:FnScope ["self","rank","low","high","middle"] ["self","rank"] (zah zcm):=sM (by decide +kernel);refine F.okN (k:=0) scPlace (by walk_at "v") (λcdv A outer s H vs Q E hr=>?_);walk_at "x";rename_i g_ hg_ a0 r po kn ql rk ks us x;rintro⟨rfl,h⟩;subst hg_;refine⟨_,(zad (zaw (i:=2) scPlace.nd rfl (Or.inl rfl) (zaf))
  (zad (zaw (i:=3) scPlace.nd rfl (Or.inl rfl) (zau (zbc (K:=K) rfl) rfl T.b_len PySem.boot_len ((zaa (zbf (K:=K) rfl (pv 0) rfl) zac))))
  (zad (zei PassesOwn.never (zap zh4 (pv 2) (pv 3) (nomark _)) (zad (zaw (i:=4) scPlace.nd rfl (Or.inl rfl) (zaq zby (zaq zb4 (pv 2) (pv 3)) (zaf)))
  (zae (zba (zap (zyp (uOne hr |> Nat.lt_of_succ_lt)) (zaz (r:=rIxT K) zax (zaz (r:=rIxL K) zb9 (zbf (K:=K) rfl (pv 0) rfl) (pv 4) (λ_ _=>Z)) (zaf) (λ_ _=>Z)) (pv 1) (nomark _)) (zae (zaw (i:=2) scPlace.nd rfl (Or.inl rfl) (zaq zb4 (pv 4) (zaf)))) (zae (zaw (i:=3) scPlace.nd rfl (Or.inl rfl) (pv 4)))))))
  (zae (zan (pv 2)))))),?_⟩
 obtain⟨hW,hr0,mono,lu,k⟩:=h;obtain⟨dw,hw⟩:=hW.at_;obtain⟨vs,hq,en⟩:=hW.ql;have lv:vs.length=us.length:=(Paired.length en).symm;refine⟨_,Z,a0,zak,dw,_,_,Z,hw,T.cl_Waiting,T.na_Waiting_queue,Z,ql,vs,Z,.inl (SqL.of hq),?_⟩;refine⟨λm σ H'=>∃(lo hi:Nat) (v4:Option V),m=hi-lo/\σ = [some (.ref a0),some (.ref r),some (.int lo),some (.int hi),v4]/\H'=H/\lo<=hi/\hi<=us.length/\(∀(j:Nat) u,us[j]? = some u->j<lo->HT.lexLt (rk u) x=true)/\∀(j:Nat) u,us[j]? = some u->hi<=j->HT.lexLt (rk u) x=false,⟨_,0,vs.length,none,Z,Z,Z,Y2 _,by omega,λj u _ z=>by omega,λj u hj z=>?_⟩,?_⟩
 ·have:=zay hj;omega
 rintro m σ H' ⟨lo,hi,v4,rfl,rfl,rfl,lh,hu,hlo,hhi⟩;refine⟨_,rfl,_,rfl,_,_,rfl,rfl,_,rfl,?_⟩;refine cD (λc=>?_) (λc=>?_)
 ·have c':lo<hi:=by omega
  refine⟨λσ' H''=>∃(lo' hi':Nat) (v4:Option V),hi'-lo'<hi-lo/\σ'=[some (.ref a0),some (.ref r),some (.int lo'),some (.int hi'),v4]/\H''=H'/\lo'<=hi'/\hi'<=us.length/\(∀(j:Nat) u,us[j]? = some u->j<lo'->HT.lexLt (rk u) x=true)/\∀(j:Nat) u,us[j]? = some u->hi'<=j->HT.lexLt (rk u) x=false,?_,?_⟩
  ·rintro σ' H'' ⟨lo',hi',v5,l1,rfl,rfl,l2,l3,l4,l5⟩;exact⟨_,l1,lo',hi',v5,rfl,rfl,rfl,l2,l3,l4,l5⟩
  have em:Int.fdiv ((lo:Int)+(hi:Int)) 2=(((lo+hi) / 2:Nat):Int):=by rw[Int.fdiv_eq_ediv_of_nonneg _ (by decide)];omega
  obtain⟨md,hmd⟩:∃md,md=(lo+hi) / 2:=⟨_,Z⟩;rw[<- hmd]at em;have m1:lo<=md:=by omega
  have m2:md<hi:=by omega
  refine⟨_,Z,_,Z,_,_,Z,Z,_,_,Z,Z,⟨by decide,by decide⟩,?_⟩;unfold za0;dsimp only;rw[em];have lm:md<vs.length:=by omega
  obtain⟨u,hu',p,r1,r2,ev,hp,hr1,hr2⟩:=pget en (Yc lm);refine⟨_,Z,a0,zak,dw,_,_,Z,hw,T.cl_Waiting,T.na_Waiting_queue,Z,_,Z,ql,vs,md,_,Z,Z,SqL.of hq,zcu (Yc lm),?_⟩;rw[ev];refine⟨p,_,0,_,Z,Z,SqT.of hp,atI0,_,Z,r1,r,rk u,x,Z,Z,SqT.of hr1,SqT.of hr0,_,Z,?_⟩;refine cB (λc1=>?_) (λc1=>?_)
  ·refine⟨_,Z,_,_,Z,Z,md+1,hi,_,by omega,Z,Z,by omega,by omega,λj u' hj l=>?_,hhi⟩;rcases Jh j md with q | q
   ·exact mono j md u' u q hj hu' c1
   ·have:j=md:=by omega
    subst this;rw[hu']at hj;cases hj;exact c1
  ·refine⟨_,Z,lo,md,_,by omega,Z,Z,by omega,by omega,hlo,λj u' hj l=>?_⟩
   cases q:HT.lexLt (rk u') x with
   | false=>rfl
   | true=>
    rcases Jh md j with q' | q'
    ·rw[mono md j u u' q' hu' hj q]at c1;cases c1
    ·have:j=md:=by omega
     subst this;rw[hu']at hj;cases hj;rw[c1]at q;cases q
 ·have e:lo=hi:=by omega
  subst e;refine⟨_,Z,k lo hu λj u hj=>⟨hlo j u hj,λq=>?_⟩⟩;rcases Jh j lo with z | z
  ·exact z
  ·rw[hhi j u hj z]at q;cases q
theorem zy0(F:FunD K "put" "Waiting.put" zeg .none f fd)(m_Place:MCal P w K mg base CX0 1 zak "place_of" ["self","rank"] [] (zqi zak)){za1:Addr}(hord:∀(kd:Int) (ws:List Int),0<=kd->kd<4->Nn ws->(∀x∈ws,x<10^31)->∃C,OrdP P w K mg base za1 C (AtK zas zal zat zaj kd ws) (rkk kd ws) (fbK kd ws)):FnOk P w K mg base CX0 5 f fd ["self","terms"] (ztp zat zas zal zaj zak):=by
 have scPut:FnScope ["self","terms","term","rank"] ["self","terms"] (zah zeg):=sM (by decide +kernel);refine F.okN (k:=4) scPut (by walk_at "v") (λcdv A outer s H vs Q E hr=>?_);walk_at "x";rename_i g_ hg_ a0 d po kn ql kd ws m ks us ts kvs;rintro⟨rfl,h⟩;subst hg_;obtain⟨C,O⟩:=hord kd ws h.1 h.2.1 h.2.2.1 h.2.2.2.1;refine⟨_,(zae (zii (zdt PassesOwn.never rfl (zwh (pv 1)) (zbb (i:=2) scPut.nd rfl (Or.inl rfl)) (zae (zba (zlx (zq9 (uOne hr) (pv 2) (zbf (K:=K) rfl (pv 0) rfl))) (zad (zfx (uOne hr) (zbf (K:=K) rfl (pv 0) rfl) (pv 2) (zd7) rfl)
  (zad (zaw (i:=3) scPut.nd rfl (Or.inl rfl) (pe_m O.rank (zbf (K:=K) rfl (pv 0) rfl) hr zar .nil ((zaa (pv 2) zac))))
  (zae (zc6 (ztk PySem.F.plainAttrs_list PySem.F.slot_list_insert PySem.F.type_list_insert zpr (zbf (K:=K) rfl (pv 0) rfl) ((zaa (pe_m m_Place (pv 0) hr zar .nil ((zaa (pv 3) zac))) (zaa (zca ((zaa (pv 3) (zaa (pv 2) zac)))) zac)))))))) zav))))),?_⟩
 obtain⟨k0,k4,wn,wb,m1,m4,hat,hW,hd,hts,tok,dkn,hsr,husk,lk,lu,k⟩:=h;obtain⟨dw,hw⟩:=hW.at_;obtain⟨kv0,hkn,ek0⟩:=hW.kn;obtain⟨vs0,hq,en0⟩:=hW.ql;obtain⟨dO,fs,hO,nl⟩:=O.oC.ins hat;have om:OrdM (rkk kd ws) m:=zog kd wn m;have lt:kvs.length=ts.length:=by have:=Jx List.length hts;simpa using this
 have dql:d≠ql:=zbs hd hq (by intro z;cases z);have knql:kn≠ql:=zbs hkn hq (by intro z;cases z);refine⟨_,Z,d,kvs,Z,.inl hd,λo=>?_⟩;refine zte (λi σ H'=>i<=kvs.length/\(∃v2 v3,σ = [some (.ref a0),some (.ref d),v2,v3])/\FzD H' d o kvs/\Kp [kn,ql,d] H H'/\∃(ks' us':List (List Int)),Wa zak (rkk kd ws) H' a0 po kn ql ks' us'/\us'.Pairwise (G.lt (rkk kd ws))/\(∀z,z∈us'↔z∈us\/(z∈ts.take i/\z ∉ ks))/\(∀z,z∈ks'↔z∈ks\/z∈ts.take i)/\ks'.length<=ks.length+i/\us'.length<=us.length+i) ?_ (λi σ H' h=>h.2.2.1) ?_ ?_
 ·refine⟨Y2 _,⟨none,none,Z⟩,zab,Kp.upd (by simp),ks,us,hW.fix (zbz hd) (λob q=>(zai (Jc dkn)).trans q) (λob q=>(zai (Jc dql)).trans q),hsr,λz=>by simp,λz=>by simp,Yi _,Yi _⟩
 ·rintro i kx v σ H2 b hk ⟨hi,⟨v2,v3,rfl⟩,hz,hk2,ks',us',hW2,sr2,mu,mk,lk2,lu2⟩ hb;obtain⟨t,ht,rfl⟩:∃t,ts[i]? = some t/\kx=ky t:=by
   have q:(kvs.map (·.1))[i]? = some kx:=by rw[Ym,hk];rfl
   rw[hts,Ym]at q;obtain⟨t,h1,h2⟩:=Option.map_eq_some_iff.mp q;exact⟨t,h1,h2.symm⟩
  have hlt:=zay hk;have tk:=zeb ht;obtain⟨t0,tb⟩:=tok t (Yx ht);have fx2:Fix H H2:=hk2.fix λa ha ob hob=>by
   simp only[List.mem_cons,List.not_mem_nil,or_false]at ha
   rcases ha with rfl | rfl | rfl
   ·rw[hkn]at hob;cases hob;exact .inl ⟨_,Z⟩
   ·rw[hq]at hob;cases hob;exact .inr (.inl ⟨_,Z⟩)
   ·rw[hd]at hob;cases hob;exact .inl ⟨_,Z⟩
  have hw2:=fx2.ins hw;obtain⟨kv,hkn2,ek⟩:=hW2.kn;obtain⟨vs,hq2,en⟩:=hW2.ql;have lkv:kv.length=ks'.length:=by have:=Jx List.length ek;simpa using this
  have lvs:vs.length=us'.length:=(Paired.length en).symm;have inn:∀z,valV kv (ky z)=none↔z ∉ ks':=λz=>by
   have e:(valV kv (ky z)).isSome=true↔z∈ks':=by
    rw[mem_of_valV,ek,Jj];exact⟨fun⟨u,hu,e⟩=>zg1 e ▸ hu,λh=>⟨z,h,Z⟩⟩
   rw[<- e]
   cases valV kv (ky z) <;> simp
  unfold za0;dsimp only;refine⟨_,Z,_,Z,a0,zak,dw,_,_,Z,hw2,T.cl_Waiting,T.na_Waiting_known,Z,kn,_,Z,DGet.t hkn2 hb,_,Z,?_⟩
  cases hval:valV kv (ky t) with
  | some v0=>
   have tin:t∈ks':=Classical.byContradiction λz=>by rw[(inn t).mpr z]at hval;cases hval
   refine iteF ⟨hlt,⟨_,_,Z⟩,hz,hk2,ks',us',hW2,sr2,λz=>?_,λz=>?_,by omega,by omega⟩
   ·rw[mu z,tk,Jv,Yq];constructor
    ·rintro(h | ⟨h,h'⟩)
     ·exact .inl h
     ·exact .inr ⟨.inl h,h'⟩
    ·rintro(h | ⟨h | h,h'⟩)
     ·exact .inl h
     ·exact .inr ⟨h,h'⟩
     ·subst h;rcases(mk z).mp tin with q | q
      ·exact absurd q h'
      ·exact .inr ⟨q,h'⟩
   ·rw[mk z,tk,Jv,Yq];constructor
    ·rintro(h | h)
     ·exact .inl h
     ·exact .inr (.inl h)
    ·rintro(h | h | h)
     ·exact .inl h
     ·exact .inr h
     ·subst h;exact(mk z).mp tin
  | none=>
   have tnk:t ∉ ks':=(inn t).mp hval;have tn1:t ∉ ks:=λz=>tnk ((mk t).mpr (.inl z))
   have tn2:t ∉ ts.take i:=λz=>tnk ((mk t).mpr (.inr z))
   refine iteT ⟨_,Z,a0,zak,dw,_,_,Z,hw2,T.cl_Waiting,T.na_Waiting_known,Z,_,Z,kn,_,Z,DPut.t hkn2 hb (by omega),?_⟩;have e3:Fix H2 (upd H2 kn (.dT (putK kv (ky t) (.bl true)))):=zbz hkn2;have hkn3:(upd H2 kn (HO.dT (putK kv (ky t) (.bl true)))) kn=some (.dT (putK kv (ky t) (.bl true))):=zab;have k3:Kp [kn,ql,d] H2 (upd H2 kn (.dT (putK kv (ky t) (.bl true)))):=Kp.upd (by simp);have hq3:(upd H2 kn (HO.dT (putK kv (ky t) (.bl true)))) ql=some (.lst vs):=(zai (Jc knql)).trans hq2;have hz3:FzD (upd H2 kn (HO.dT (putK kv (ky t) (.bl true)))) d o kvs:=(zai dkn).trans hz;have ek3:(putK kv (ky t) (V.bl true)).map (·.1)=(ks'++[t]).map ky:=by rw[zss _ hval,List.map_append,List.map_append,ek];rfl
   generalize upd H2 kn (HO.dT (putK kv (ky t) (V.bl true)))=H3 at e3 hkn3 k3 hq3 hz3;have fx3:=fx2.tr e3;have hb3:=e3.tup _ _ hb;rw[zeq]at hb3;refine⟨_,Z,a0,zak,dw,_,_,Z,fx3.ins hw,T.cl_Waiting,T.na_Waiting_order,Z,po,dO,fs,Z,fx3.ins hO,nl "rank" (by decide +kernel),_,Z,po,b,t,Z,zoy fx3 hat,hb3,zpe t0 m1 m4 tb,λr H4 e4 hr4=>?_⟩;have fx4:=fx3.tr (.of e4);have hq4:=e4 _ _ hq3;have en4:=pimp (λ_ _ q=>Ent.fix (e3.tr (.of e4)) q) en;have hW4:Wa zak (rkk kd ws) H4 a0 po kn ql (ks'++[t]) us':=⟨⟨dw,fx4.ins hw⟩,⟨_,e4 _ _ hkn3,ek3⟩,⟨vs,hq4,en4⟩,List.nodup_append.mpr ⟨hW2.nd,by simp,λa ha b hb e=>tnk (by rw[Yq.mp hb]at e;rw[<- e];exact ha)⟩⟩;refine⟨_,Z,a0,zak,dw,_,_,Z,fx4.ins hw,T.cl_Waiting,T.na_Waiting_queue,Z,.inl ⟨Z,_,SqL.of hq4⟩,?_⟩;refine⟨_,Z,a0,dw,_,Z,fx4.ins hw,zp0 _ (by decide +kernel) (by decide +kernel) (by decide +kernel),_,Z,a0,r,po,kn,ql,rkk kd ws,ks'++[t],us',rkk kd ws t,Z,hW4,hr4,λx y u v' xy hx hy q=>?_,by omega,λj hj hj2=>?_⟩
   ·have:=List.pairwise_iff_getElem.mp sr2 x y (zay hx) (zay hy) xy;rw[Yc (zay hx)]at hx;rw[Yc (zay hy)]at hy;injection hx with hx
    injection hy with hy
    rw[hx,hy]at this;exact lt_trans this q
   refine⟨_,Z,_,Z,(by show 2<=sizeLine;exact zl 2 (by decide)),λp np=>?_⟩;have e5:Same H4 (upd H4 p (.tup [.ref r,.ref b])):=Same.upd np;have hp5:(upd H4 p (HO.tup [.ref r,.ref b])) p=some (.tup [.ref r,.ref b]):=zab;generalize upd H4 p (HO.tup [V.ref r,V.ref b])=H5 at e5 hp5;have hq5:=e5 _ _ hq4;have et:Ent (rkk kd ws) H5 t (.ref p):=⟨p,r,b,Z,hp5,e5 _ _ hr4,e5 _ _ (e4 _ _ hb3)⟩;refine⟨ql,vs,j,.ref p,Z,Z,hq5,by omega,by omega,?_⟩;have g5:Fix H5 (upd H5 ql (.lst (vs.take j ++ .ref p::vs.drop j))):=zgb hq5;have tnu:t ∉ us':=λz=>by
    rcases(mu t).mp z with q | q
    ·exact tn1 (husk t q).1
    ·exact tn2 q.1
   refine⟨hlt,⟨_,_,Z⟩,?_,(hk2.tr k3).tr ((Kp.of (e4.trans e5)).tr (Kp.upd (by simp))),ks'++[t],us'.take j++t::us'.drop j,⟨⟨dw,g5.ins (e5 _ _ (fx4.ins hw))⟩,⟨_,(zai knql).trans (e5 _ _ (e4 _ _ hkn3)),ek3⟩,⟨_,zab,?_⟩,hW4.nd⟩,?_,λz=>?_,λz=>?_,?_,?_⟩
   ·exact(zai dql).trans (e5 _ _ (e4 _ _ hz3))
   ·exact pins (pimp (λ_ _ q=>Ent.fix ((Fix.of e5).tr g5) q) en4) (et.fix g5) j
   ·refine zni om sr2 (λu hu=>?_) t0 tnu hj2;rcases(mu u).mp hu with q | q
    ·exact(husk u q).2
    ·exact(tok u (List.mem_of_mem_take q.1)).1
   ·rw[zu8,mu z,tk,Jv,Yq];constructor
    ·rintro((h | ⟨h,h'⟩) | h)
     ·exact .inl h
     ·exact .inr ⟨.inl h,h'⟩
     ·subst h;exact .inr ⟨.inr rfl,tn1⟩
    ·rintro(h | ⟨h | h,h'⟩)
     ·exact .inl (.inl h)
     ·exact .inl (.inr ⟨h,h'⟩)
     ·exact .inr h
   ·rw[Jv,Yq,mk z,tk,Jv,Yq];exact or_assoc
   ·rw[Y6];show _+1<=_;omega
   ·rw[Y6,Y5,List.length_take,List.length_drop];omega
 ·rintro σ H2 ⟨_,⟨v2,v3,rfl⟩,hz,hk2,ks',us',hW2,sr2,mu,mk,lk2,lu2⟩;rw[lt,List.take_length]at mu mk;rw[lt]at lk2 lu2;have fx2:Fix H H2:=hk2.fix λa ha ob hob=>by
   simp only[List.mem_cons,List.not_mem_nil,or_false]at ha
   rcases ha with rfl | rfl | rfl
   ·rw[hkn]at hob;cases hob;exact .inl ⟨_,Z⟩
   ·rw[hq]at hob;cases hob;exact .inr (.inl ⟨_,Z⟩)
   ·rw[hd]at hob;cases hob;exact .inl ⟨_,Z⟩
  refine .inr ⟨d,o,_,hz,λo' w' z=>?_,?_⟩
  ·have z':H d=some (.frz o' w'):=z;rw[hd]at z';cases z'
  refine k _ ks' us' (λb ob hb hbd=>?_) (hW2.fix (zf8 (u:=.dT []) hz (.inr (.inr ⟨_,_,Z⟩))) (λob q=>(zai (Jc dkn)).trans q) λob q=>(zai (Jc dql)).trans q) sr2 mu mk lk2 lu2;by_cases be:b=d
  ·subst be;rw[zab,<- hd];exact hb
  ·rw[zai be];exact hk2 _ _ hb (by simp only[List.mem_cons,List.not_mem_nil,or_false,not_or]at hbd ⊢;exact⟨hbd.1,hbd.2,be⟩)
theorem zny(F:FunD K "__init__" "Waiting.__init__" zcq .none f fd)(m_Put:MCal P w K mg base CX0 5 zak "put" ["self","terms"] [] (ztp zat zas zal zaj zak)):FnOk P w K mg base CX0 6 f fd ["self","order","terms"] (zm6 zat zas zal zaj zak):=by
 have scWaInit:FnScope ["self","order","terms"] ["self","order","terms"] (zah zcq):=sM (by decide +kernel);refine F.okN (k:=5) scWaInit (by walk_at "v") (λcdv A outer s H vs Q E hr=>?_);walk_at "x";rename_i g_ hg_ a0 dx d po kd ws m ts kvs;rintro⟨rfl,h⟩;subst hg_;refine⟨_,(zad (zgj (pv 0) (pv 1) rfl)
  (zad (zgj (pv 0) (zcd) rfl)
  (zad (zgj (pv 0) (zeu (zac)) rfl)
  (zae (zc6 (pe_m m_Put (pv 0) hr zar .nil ((zaa (pv 2) zac)))))))),?_⟩
 obtain⟨hw,pw,k0,k4,wn,wb,m1,m4,hat,hd,hts,tok,lt,k⟩:=h;refine⟨_,Z,_,Z,a0,zak,dx,_,Z,hw,T.cl_Waiting,T.na_Waiting_order,(by show 0<1000;decide),?_⟩;intro kn nkn;have ew:a0≠kn:=λz=>by subst z;rw[zab]at nkn;cases nkn
 have nkn0:H kn=none:=by rw[zai (Jc ew)]at nkn;exact nkn
 refine⟨_,Z,a0,zak,dx,_,Z,(zai ew).trans zab,T.cl_Waiting,T.na_Waiting_known,(by show 1<1000;decide),?_⟩;refine⟨(by show 0<=sizeLine;exact Y2 _),λql nql=>?_⟩;have ew2:a0≠ql:=λz=>by subst z;rw[zab]at nql;cases nql
 have ek2:kn≠ql:=λz=>by subst z;rw[zai (Jc ew),zab]at nql;cases nql
 have nql0:H ql=none:=by rw[zai (Jc ew2),zai (Jc ek2),zai (Jc ew2)]at nql;exact nql
 refine⟨_,Z,a0,zak,dx,_,Z,(zai ew2).trans zab,T.cl_Waiting,T.na_Waiting_queue,(by show 2<1000;decide),?_⟩;have key:∀(H4:Hp) (E1:XK),H4 a0=some (HO.ins zak dx [("order",.ref po),("known",.ref kn),("queue",.ref ql)])->Kp [a0] H H4->H4 kn=some (.dT [])->H4 ql=some (.lst [])->ztp zat zas zal zaj zak [.ref a0,.ref d] H4 (λ_ H'=>Q .non H') E1:=by
  intro H4 E1 h1 h2 h3 h4;have df:d≠a0:=zbs hd hw (by intro z;cases z);have dkn:d≠kn:=λz=>by subst z;rw[hd]at nkn0;cases nkn0
  refine⟨a0,d,po,kn,ql,kd,ws,m,[],[],ts,kvs,Z,k0,k4,wn,wb,m1,m4,zu6 h2 hw hat pw,⟨⟨dx,h1⟩,⟨[],h3,Z⟩,⟨[],h4,.nil⟩,List.nodup_nil⟩,h2 _ _ hd (by simp[df]),hts,tok,dkn,.nil,(λu hu=>by cases hu),by simpa using lt,by simpa using lt,λH' ks' us' kp wa sr mu mk l1 l2=>?_⟩;refine k H' kn ql ks' us' nkn0 nql0 (λb ob hb nb=>kp _ _ (h2 _ _ hb nb) ?_) wa sr (λz=>?_) (λz=>?_) (by simpa using l1) (by simpa using l2)
  ·simp only[List.mem_cons,List.not_mem_nil,or_false,not_or]
   exact⟨(λz=>by subst z;rw[nkn0]at hb;cases hb),(λz=>by subst z;rw[nql0]at hb;cases hb)⟩
  ·rw[mu z];simp
  ·rw[mk z];simp
 refine⟨_,Z,a0,dx,_,Z,zab,zp0 _ (by decide +kernel) (by decide +kernel) (by decide +kernel),_,Z,key _ E0 zab (λb ob hb nb=>?_) ?_ ?_⟩
 ·rw[Yq]at nb;rw[zai nb,zai (λz=>by subst z;rw[nql0]at hb;cases hb),zai nb,zai (λz=>by subst z;rw[nkn0]at hb;cases hb),zai nb];exact hb
 ·rw[zai (Jc ew),zai ek2,zai (Jc ew)];exact zab
 ·rw[zai (Jc ew2)];exact zab
theorem zzc(F:FunD K "is_empty" "Waiting.is_empty" zcj .none f fd)   : FnOk P w K mg base CX0 1 f fd ["self"] (zx7 zak):=by
 have scEmp:FnScope ["self"] ["self"] (zah zcj):=sM (by decide +kernel);refine F.okN (k:=0) scEmp (by walk_at "v") (λcdv A outer s H vs Q E hr=>?_);walk_at "x";rename_i g_ hg_ a0 po kn ql rk ks us;rintro⟨rfl,h⟩;subst hg_;refine⟨_,(zae (zan (zdb (zko hr.units) (zbf (K:=K) rfl (pv 0) rfl) (zeu (zac)) (nomark _)))),?_⟩;obtain⟨hW,k⟩:=h;obtain⟨dw,hw⟩:=hW.at_;obtain⟨vs,hq,en⟩:=hW.ql;refine⟨_,Z,a0,zak,dw,_,_,Z,hw,T.cl_Waiting,T.na_Waiting_queue,Z,(by show 0<=sizeLine;exact Y2 _),λl nl=>?_⟩;have e1:Same H (upd H l (.lst [])):=Same.upd nl;refine⟨.list (eds rk us),.list [],.lst (SqL.of (e1 _ _ hq)) (zlw (pimp (λ_ _ q=>q.fix (.of e1)) en)),.lst (SqL.of zab) .nil,znb rk us,by decide,?_⟩;rw[zsa];exact k _ e1
theorem zsg(F:FunD K "taken" "Waiting.taken" zdp .none f fd)   : FnOk P w K mg base CX0 1 f fd ["self"] (zp1 zak):=by
 have scTaken:FnScope ["self"] ["self"] (zah zdp):=sM (by decide +kernel);refine F.okN (k:=0) scTaken (by walk_at "v") (λcdv A outer s H vs Q E hr=>?_);walk_at "x";rename_i g_ hg_ a0 po kn ql rk ks us t;rintro⟨rfl,h⟩;subst hg_;refine⟨_,(zae (zan (zaz (r:=rIxT K) zax (zxg PySem.F.plainAttrs_list PySem.F.slot_list_pop PySem.F.type_list_pop zzd (zbf (K:=K) rfl (pv 0) rfl)) (zaf) (λ_ _=>Z)))),?_⟩;obtain⟨hW,k⟩:=h;obtain⟨dw,hw⟩:=hW.at_;obtain⟨vs,hq,en⟩:=hW.ql;obtain⟨zs,y,rfl,en',p,r,a,rfl,h1,h2,h3⟩:=punsn en;obtain⟨kvs,hkn,ek⟩:=hW.kn;have knql:kn≠ql:=zbs hkn hq (by intro z;cases z);refine⟨_,Z,a0,zak,dw,_,_,Z,hw,T.cl_Waiting,T.na_Waiting_queue,Z,.inl ⟨Z,_,SqL.of hq⟩,ql,_,.ref p,Z,Z,hq,by simp,?_⟩;rw[List.dropLast_concat];have fx:Fix H (upd H ql (.lst zs)):=zgb hq;refine⟨p,_,1,_,Z,Z,SqT.of (fx.tup _ _ h1),atI1,?_⟩;exact k _ a (Kp.upd (by simp)) ⟨⟨dw,fx.ins hw⟩,⟨kvs,(zai knql).trans hkn,ek⟩,⟨zs,zab,pimp (λ_ _ q=>q.fix fx) en'⟩,hW.nd⟩ (fx.tup _ _ h3)
theorem zp7(F:FunD K "__init__" "Leads.__init__" zda .none f fd)(c_FT:Cal P w K mg base (CXe P w) 8 "first_term" ["ring","f"] [] (spFT za2 zag zao zas zal zat zaj)):FnOk P w K mg base CX0 9 f fd ["self","ring","row"] (zmt za2 zag zao zas zal zat zaj za6):=by
 have scLeInit:FnScope ["self","ring","row"] ["self","ring","row"] (zah zda):=sM (by decide +kernel);refine F.okN (k:=8) scLeInit (by walk_at "v") (λcdv A outer s H vs Q E hr=>?_);walk_at "x";rename_i g_ hg_ F fF x dx r b g cF ds kvss gs;rintro⟨rfl,h⟩;subst hg_;refine⟨_,(zae (zgj (pv 0) (zbk (N:=["at","f","ring"]) (cl:=[("ring",s.heap.objs.size+1)]) (mp:=[none,none,some 1]) (Blk.of rfl (by decide +kernel) rfl (by decide +kernel) zgw (zbe rfl zc2) (zh3 (fs:=["ring"]) rfl (by decide +kernel)) rfl (zb1 (zb1 (zbd rfl (.inl rfl) rfl zc0)))) rfl (zwr (K:=K) rfl rfl T.b_enumerate ((zaa (pv 2) zac))) (λC0 s0 H0 fp0=>zv2 (K:=K) rfl rfl zgw rfl rfl rfl rfl) (λC0 s0 H0 fp0=>zlm (zap (zgd (K:=K) rfl hr.units) (pv 1) (zcd) (nomark _))) (λC0 s0 H0 fp0=>zca ((zaa (pv 0) (zaa (pe_c c_FT hr znh .nil ((zaa (pv 2) (zaa (pv 1) zac)))) zac))))) rfl)),?_⟩;obtain⟨hx,hR,hB,tb,k⟩:=h;show tComp _ _ _ _ _ _ _ _;refine znr (J:=Ite K b) (H1:=H) (zo9 (SqL.of hB.at_)) (by rw[Yd];exact hB.b) ?_ (λσ=>∃v w,σ = [v,w,some (.ref r)]) (λi=>decide (kvss.getD i []≠[])) (λi v H'=>∃h,LdE H' (i,h) v/\Ld g.rk (gs i) h) (λi v H1 H2 e ⟨h,h1,h2⟩=>⟨h,h1.fix (.of e),h2⟩) (λi v H1 a y1 y2 ha ⟨h,h1,h2⟩=>⟨h,h1.fix (zgb ha),h2⟩) ⟨none,none,Z⟩ ?_ λld H1 ls nd e1 hL hp=>?_
 ·exact λR hR=>⟨_,Z,b,Z,⟨_,SqL.of hB.at_⟩,hR⟩
 ·rintro i v σ' H2 hi ⟨z,z',rfl⟩ e2 ⟨p,xv,rfl,hp2,hv⟩ Ny Nn hy hn;rw[Yd]at hi;have hdi:ds[i]? = some ds[i]:=Yc hi;obtain⟨kvs,hki,hd2,pk2⟩:=(hB.same e2).row i _ hdi;have ev:xv=.ref ds[i]:=by
   rw[Ym,hdi]at hv;exact(Jg hv).symm
  subst ev;have eg:kvss.getD i []=kvs:=by simp[List.getD,hki]
  rw[eg]at hy hn;generalize ds[i]=d at hd2 hp2;refine⟨p,_,Z,SqT.of hp2,Z,_,_,Z,_,_,Z,Z,?_⟩;refine⟨_,Z,?_⟩;intro d2 nd2;have e3:Same H2 (upd H2 d2 (.dT [])):=Same.upd nd2;have hd3:(upd H2 d2 (HO.dT [])) d2=some (.dT []):=zab;generalize upd H2 d2 (HO.dT [])=H3 at e3 hd3;obtain⟨da,kds,fl,_⟩:=(pk2.same e3).kds (K:=K);have ldd:kvs.length=da.length:=Paired.length kds;refine⟨d,d2,kvs,[],da,[],Z,Z,.inl (e3 _ _ hd2),.inl hd3,kds,.nil,fl,(λ_ z=>by cases z),_,Z,?_⟩;by_cases c:kvs=[]
  ·have ed:da=[]:=Ja.mp (by rw[<- ldd,c];rfl);rw[ed];exact iteF (hn _ _ ⟨_,_,Z⟩ e3 (by rw[decide_eq_false_iff_not];exact λq=>q c))
  ·have eq0:eqKD da []=false:=by
    unfold eqKD
    cases da with
    | nil=>exact absurd (Ja.mp ldd) c
    | cons x l=>rfl
   rw[eq0];have g3:=e2.trans e3;refine iteT ⟨_,Z,_,Z,_,Z,F,fF,r,d,g,cF,kvs,gs i,Z,hR.same g3,e3 _ _ hd2,pk2.same e3,tb i,c,λH4 t a e4 ha hx=>?_⟩;refine⟨(by show 2<=sizeLine;exact zl 2 (by decide)),λq nq=>?_⟩;have e5:Same H4 (upd H4 q (.tup [.int i,.ref a])):=Same.upd nq;exact hy (.ref q) _ _ ⟨_,_,Z⟩ ((e3.trans e4).trans e5) ⟨t,⟨q,a,Z,zab,e5 _ _ ha⟩,hx⟩ (Yo c)
 rw[Yd]at hp;obtain⟨lds,el,hp1,hp2⟩:=zjx (A:=LdE H1) (B:=λi h=>Ld g.rk (gs i) h) hp;have fr:x≠ld:=λz=>by subst z;rw[hx]at nd;cases nd
 have hx1:=e1 _ _ hx;refine⟨_,Z,x,za6,dx,_,Z,hx1,T.cl_Leads,T.na_Leads_pairs,(by show 0<1000;decide),?_⟩;have up1:∀b o,H1 b=some o->b≠x->(upd H1 x (HO.ins za6 dx [("pairs",.ref ld)])) b=some o:=λb o q ne=>(zai ne).trans q
 have nt:∀b xs,H1 b=some (.tup xs)->b≠x:=λb xs q=>zbs q hx1 (by intro z;cases z)
 refine k _ ld lds nd (λb ob hb nb=>up1 _ _ (e1 _ _ hb) (by simpa using nb)) ⟨⟨dx,zab⟩,⟨ls,up1 _ _ hL (Jc fr),pimp (λpr v ⟨q,a,e,q1,q2⟩=>⟨q,a,e,up1 _ _ q1 (nt _ _ q1),up1 _ _ q2 (nt _ _ q2)⟩) hp1⟩⟩ ⟨λi=>hB.sp i,?_,λi l hm=>⟨?_,hp2 _ hm⟩,λi t hi hg=>?_⟩
 ·have:(lds.map (·.1)).Pairwise (· < ·):=by rw[el];exact List.pairwise_lt_range.filter _
  exact List.pairwise_map.mp this
 ·have:i∈lds.map (·.1):=Jj.mpr ⟨_,hm,Z⟩;rw[el]at this;exact List.mem_range.mp (List.mem_filter.mp this).1
 ·have:i∈lds.map (·.1):=by
   rw[el];refine List.mem_filter.mpr ⟨List.mem_range.mpr hi,Yo λz=>?_⟩;obtain⟨kvs,q1,_,q3⟩:=hB.row i _ (Yc hi);have:kvs=[]:=by rw[<- z];simp[List.getD,q1]
   exact hg (q3.empty.mp this t)
  obtain⟨p,hp,e⟩:=Jj.mp this;exact⟨p.2,by rw[<- e];exact hp⟩
theorem zyo(F:FunD K "fitting" "Leads.fitting" zdk .none f fd)(c_Goes:Cal P w K mg base CX0 1 "goes_into" ["one","other"] [] (zqm K)):FnOk P w K mg base CX0 2 f fd ["self","term"] (zxy za6):=by
 have scFit:FnScope ["self","term","pair"] ["self","term"] (zah zdk):=sM (by decide +kernel);refine F.okN (k:=1) scFit (by walk_at "v") (λcdv A outer s H vs Q E hr=>?_);walk_at "x";rename_i g_ hg_ x a pl m lds t;rintro⟨rfl,h⟩;subst hg_;refine⟨_,(zad (zdt PassesOwn.never rfl (zce (K:=K) rfl (zbf (K:=K) rfl (pv 0) rfl)) (zbb (i:=2) scFit.nd rfl (Or.inl rfl)) (zae (zba (zb5 (pe_c c_Goes hr zar .nil ((zaa (zaz (r:=rIxT K) zax (pv 2) (zaf) (λ_ _=>Z)) (zaa (pv 1) zac))))) (zae (zan (pv 2))) zav)))
  (zae (zan (zmw)))),?_⟩
 obtain⟨hL,ha,tl,m4,ll,inc,k1,k2⟩:=h;obtain⟨dx,hx⟩:=hL.at_;obtain⟨vs,hp,en⟩:=hL.pl;have lv:lds.length=vs.length:=Paired.length en;refine⟨_,Z,x,za6,dx,_,_,Z,hx,T.cl_Leads,T.na_Leads_pairs,Z,pl,Z,⟨_,SqL.of hp⟩,?_⟩;refine zji (K:=K) (a:=pl) (xs:=vs) (λi σ H'=>Same H H'/\(∃v2,σ = [some (.ref x),some (.ref a),v2])/\∀(j:Nat) p,lds[j]? = some p->j<i->zcw p.2 t=false) ⟨Same.refl _,⟨none,Z⟩,λj p _ z=>by omega⟩ (λi σ H' _ h=>SqL.of (h.1 _ _ hp)) ?_ ?_
 ·rintro i v σ H2 hv ⟨e2,⟨v2,rfl⟩,no⟩;obtain⟨⟨ix,l⟩,hl,q,a',rfl,hq,ha'⟩:=pget en hv;have lm:=Yx hl;unfold za0;dsimp only;refine⟨_,rfl,q,_,1,_,rfl,rfl,SqT.of (e2 _ _ hq),atI1,_,rfl,a',a,l,t,rfl,SqT.of (e2 _ _ ha'),SqT.of (e2 _ _ ha),(ll _ lm).trans tl.symm,by rw[ll _ lm];omega,λH3 e3=>⟨_,rfl,?_⟩⟩;have g3:=e2.trans e3;refine cB (λc=>?_) (λc=>?_)
  ·refine⟨_,Z,k2 ix l ⟨lm,c,λp pm pi=>?_⟩ H3 q a' g3 (g3 _ _ hq) (g3 _ _ ha')⟩;obtain⟨j,hj⟩:=Je.mp pm;refine no j p hj ?_;rcases Nat.lt_trichotomy j i with c' | c' | c'
   ·exact c'
   ·subst c';rw[hl]at hj;cases hj;exact absurd pi (Nat.lt_irrefl _)
   ·have:=List.pairwise_iff_getElem.mp inc i j (zay hl) (zay hj) c';rw[Yc (zay hl)]at hl;rw[Yc (zay hj)]at hj;injection hl with hl
    injection hj with hj
    rw[hl,hj]at this;have:ix<p.1:=this;omega
  ·refine⟨g3,⟨_,Z⟩,λj p hj l'=>?_⟩;rcases Jh j i with c' | c'
   ·exact no j p hj c'
   ·have:j=i:=by omega
    subst this;rw[hl]at hj;cases hj;exact c
 ·rintro σ H2 ⟨e2,⟨v2,rfl⟩,no⟩;refine k1 (λp pm=>?_) H2 e2;obtain⟨j,hj⟩:=Je.mp pm;exact no j p hj (by rw[<- lv];exact zay hj)
theorem zxd(F:FunD K "divided" "divided" zhp .none f fd)(k_LeInit:Mak P w K mg base CX0 9 "Leads" za6 ["self","ring","row"] [] (zmt za2 zag zao zas zal zat zaj za6))(k_WaInit:Mak P w K mg base CX0 6 "Waiting" zak ["self","order","terms"] [] (zm6 zat zas zal zaj zak))(m_Emp:MCal P w K mg base CX0 1 zak "is_empty" ["self"] [] (zx7 zak))(m_Taken:MCal P w K mg base CX0 1 zak "taken" ["self"] [] (zp1 zak))(m_Fit:MCal P w K mg base CX0 2 za6 "fitting" ["self","term"] [] (zxy za6))(c_LeftO:Cal P w K mg base (CXe P w) 2 "left_over" ["one","other"] [] zuk)(c_Scal:Cal P w K mg base CX0 4 "scaled" ["ring","number","term","f"] [] (zt7 za2 zag zao zas zal zat zaj))(m_Put:MCal P w K mg base CX0 5 zak "put" ["self","terms"] [] (ztp zat zas zal zaj zak))(c_Absorb:Cal P w K mg base CX0 4 "absorb" ["ring","total","f"] [] (zyw za2 zag zao zas zal zat zaj))(hfld:∀n:Int,n<=9973->(n=0\/Pr n)->∃C,FldP P w K mg base C (AtN zag zao n) n){za1:Addr}(hord:∀(kd:Int) (ws:List Int),0<=kd->kd<4->Nn ws->(∀x∈ws,x<10^31)->∃C,OrdP P w K mg base za1 C (AtK zas zal zat zaj kd ws) (rkk kd ws) (fbK kd ws)):FnOk P w K mg base CX0 14 f fd ["ring","f","row"] (zy8 za2 zag zao zas zal zat zaj):=by
 have scDiv:FnScope ["ring","f","row","leads","quotients","rest","left","waiting","term","fit","divisor","number","over","taken"] ["ring","f","row"] (zah zhp):=sM (by decide +kernel);refine F.okN (k:=13) scDiv (by walk_at "v") (λcdv A outer s H vs Q E hr=>?_);walk_at "x";rename_i g_ hg_ F fF r f b g cF ds kvss gs fvs φ U J;rintro⟨rfl,h⟩;subst hg_;obtain⟨CF,B⟩:=hfld g.n h.1.nb h.1.np;refine⟨_,(zad (zaw (i:=3) scDiv.nd rfl (Or.inl rfl) (zo2 k_LeInit hr zar .nil ((zaa (pv 0) (zaa (pv 2) zac)))))
  (zad (zla (N:=["divisor"]) (zbb (i:=4) scDiv.nd rfl (Or.inl rfl)) (Blk.plain (by decide +kernel) (by decide +kernel) rfl (by decide +kernel) zif) rfl (zce (K:=K) rfl (pv 2)) (λC0 s0 H0 fp0=>zcb (i:=0) zif rfl rfl) (λC0 s0 H0 fp0=>zbj) (λC0 s0 H0 fp0=>zcd))
  (zad (zaw (i:=5) scDiv.nd rfl (Or.inl rfl) (zcd))
  (zad (zaw (i:=6) scDiv.nd rfl (Or.inl rfl) (za4 zgt rfl T.b_dict (by kernel_rfl) ((zaa (pv 1) zac))))
  (zad (zaw (i:=7) scDiv.nd rfl (Or.inl rfl) (zo2 k_WaInit hr zar .nil ((zaa (zbf (K:=K) rfl (pv 0) rfl) (zaa (pv 1) zac)))))
  (zad (zei PassesOwn.never (zch (zb5 (zru m_Emp (pv 7) hr zar .nil))) (zad (zaw (i:=8) scDiv.nd rfl (Or.inl rfl) (zru m_Taken (pv 7) hr zar .nil))
  (zae (zba (zlx (zov (uOne hr) (pv 8) (pv 6))) (zad (zaw (i:=9) scDiv.nd rfl (Or.inl rfl) (pe_m m_Fit (pv 3) hr zar .nil ((zaa (pv 8) zac))))
  (zae (zba (zap zxn (pv 9) (zmw) (nomark _)) (zae (zfx (uOne hr) (pv 5) (pv 8) (zll (uOne hr) (pv 6) ((zaa (pv 8) zac))) rfl)) (zad (zaw (i:=10) scDiv.nd rfl (Or.inl rfl) (zaz (r:=rIxL K) zb9 (pv 2) (zaz (r:=rIxT K) zax (pv 9) (zaf) (λ_ _=>Z)) (λ_ _=>Z)))
  (zad (zaw (i:=11) scDiv.nd rfl (Or.inl rfl) (pe_m B.over (zbf (K:=K) rfl (pv 0) rfl) hr znh .nil ((zaa (zi2 (uOne hr) (pv 6) (pv 8) (λ_ _=>Z)) (zaa (zi2 (uOne hr) (pv 10) (zaz (r:=rIxT K) zax (pv 9) (zaf) (λ_ _=>Z)) (λ_ _=>Z)) zac)))))
  (zad (zaw (i:=12) scDiv.nd rfl (Or.inl rfl) (pe_c c_LeftO hr znh .nil ((zaa (zaz (r:=rIxT K) zax (pv 9) (zaf) (λ_ _=>Z)) (zaa (pv 8) zac)))))
  (zad (zfx (uOne hr) (zaz (r:=rIxL K) zb9 (pv 4) (zaz (r:=rIxT K) zax (pv 9) (zaf) (λ_ _=>Z)) (λ_ _=>Z)) (pv 12) (pv 11) rfl)
  (zad (zaw (i:=13) scDiv.nd rfl (Or.inl rfl) (pe_c c_Scal hr zar .nil ((zaa (pv 0) (zaa (pe_m B.against (zbf (K:=K) rfl (pv 0) rfl) hr zar .nil ((zaa (pv 11) zac))) (zaa (pv 12) (zaa (pv 10) zac)))))))
  (zad (zc6 (pe_m m_Put (pv 7) hr zar .nil ((zaa (pv 13) zac))))
  (zae (zc6 (pe_c c_Absorb hr zar .nil ((zaa (pv 0) (zaa (pv 6) (zaa (pv 13) zac)))))))))))))))) zav))))
  (zae (zan (zca ((zaa (pv 4) (zaa (pv 5) zac)))))))))))),?_⟩
 obtain⟨hR,hB,tb,hf,pf,hds,dv,k⟩:=h;have om:=hR.om;refine sab λrr hrr=>?_
 refine⟨_,Z,_,Z,λx dx nx ndx ne=>?_⟩;have e1:Same H (upd (upd H dx (.own x)) x (.ins za6 dx [])):=λb o e=>by
  rw[zai (zam e nx),zai (zam e ndx)];exact e
 refine⟨F,fF,x,dx,r,b,g,cF,ds,kvss,gs,Z,zab,hR.same e1,hB.same e1,tb,λH2 pl lds npl k2 hle LO=>⟨Z,?_⟩⟩;have s2:Same H H2:=λb o hb=>k2 b o (e1 _ _ hb) (by simp[zam hb nx])
 clear k2;dsimp only[za0];subst hrr;refine sab λrr hrr=>?_
 show tComp _ _ _ _ _ _ _ _;refine zs6 (K:=K) (b:=b) (xs:=ds.map V.ref) (SqL.of (hB.same s2).at_) (by rw[Yd];exact hB.b) (λR hR=>⟨_,Z,hR⟩) ⟨none,Z⟩ λql H3 qds nql e3 hql lq ndq hqd=>?_
 rw[Yd]at lq;dsimp only[za0];subst hrr;refine sab λrr hrr=>?_
 intro rd nrd;have e4:Same H3 (upd H3 rd (.dT [])):=Same.upd nrd;have hrd4:(upd H3 rd (HO.dT [])) rd=some (.dT []):=zab;generalize upd H3 rd (HO.dT [])=H4 at e4 hrd4;have s4:=(s2.trans e3).trans e4;dsimp only[za0];subst hrr;refine sab λrr hrr=>?_
 refine⟨_,Z,f,fvs,Z,s4 _ _ hf,hds,λla nla=>?_⟩;have e5:Same H4 (upd H4 la (.dT fvs)):=Same.upd nla;have hla5:(upd H4 la (HO.dT fvs)) la=some (.dT fvs):=zab;generalize upd H4 la (HO.dT fvs)=H5 at e5 hla5;have s5:=s4.trans e5;have hR5:=hR.same s5;obtain⟨dr,hr5⟩:=hR5.at_;dsimp only[za0];subst hrr;refine sab λrr hrr=>?_
 refine⟨_,Z,r,za2,dr,_,_,Z,hr5,T.cl_Ring,T.na_Ring_order,Z,_,Z,λwx dwx nwx ndwx newx=>?_⟩;have e6:Same H5 (upd (upd H5 dwx (.own wx)) wx (.ins zak dwx [])):=λb o e=>by
  rw[zai (zam e nwx),zai (zam e ndwx)];exact e
 have s6:=s5.trans e6;have U6:U.length<=1000000:=dv.b;have lfv:fvs.length<=U.length:=zhb pf dv.f;have pow:g.po≠wx:=λz=>by
  obtain⟨C0,O0⟩:=hord g.kd g.ws hR.k0 hR.k4 hR.wn hR.wb;obtain⟨dO,fo,hO,_⟩:=O0.oC.ins hR5.od;rw[z,nwx]at hO;cases hO
 refine⟨wx,dwx,f,g.po,g.kd,g.ws,g.m,tms fvs,fvs,Z,zab,pow,hR.k0,hR.k4,hR.wn,hR.wb,hR.m1,hR.m4,(hR.same s6).od,s6 _ _ hf,pf.keys,λt ht=>dv.ok t (dv.f t (pf.tmem.mp ht)),zlt _ (by rw[zd0];omega),λH7 kn qq ks us nkn nqq k7 hwa srt mu mk lk lu=>⟨Z,?_⟩⟩;have s57:Same H5 H7:=λb o hb=>k7 b o (e6 _ _ hb) (by simp[zam hb nwx])
 have s7:=s5.trans s57;have kn5:H5 kn=none:=by
  cases z:H5 kn with
  | none=>rfl
  | some o=>rw[e6 _ _ z]at nkn;cases nkn
 have qq5:H5 qq=none:=by
  cases z:H5 qq with
  | none=>rfl
  | some o=>rw[e6 _ _ z]at nqq;cases nqq
 dsimp only[za0];subst hrr;have s27:Same H2 H7:=((e3.trans e4).trans e5).trans s57;obtain⟨vsp,hpl2,_⟩:=hle.pl;have hpl5:=e5 _ _ (e4 _ _ (e3 _ _ hpl2));have hql5:=e5 _ _ (e4 _ _ hql);have hrd5:=e5 _ _ hrd4;have qd5:∀d∈qds,H5 d=some (.dT []):=λd hd=>e5 _ _ (e4 _ _ (hqd d hd).2.1)
 have n_lard:la≠rd:=λz=>by rw[z,hrd4]at nla;cases nla
 have n_laq:la ∉ qds:=λz=>by rw[e4 _ _ (hqd la z).2.1]at nla;cases nla
 have n_rdq:rd ∉ qds:=λz=>by rw[(hqd rd z).2.1]at nrd;cases nrd
 have n_knla:kn≠la:=λz=>by rw[z,hla5]at kn5;cases kn5
 have n_knrd:kn≠rd:=λz=>by rw[z,hrd5]at kn5;cases kn5
 have n_knq:kn ∉ qds:=λz=>by rw[qd5 kn z]at kn5;cases kn5
 have n_qqql:qq≠ql:=λz=>by rw[z,hql5]at qq5;cases qq5
 have n_qqpl:qq≠pl:=λz=>by rw[z,hpl5]at qq5;cases qq5
 have f_la:H la=none:=s4.free nla;have f_rd:H rd=none:=(s2.trans e3).free nrd;have f_kn:H kn=none:=s5.free kn5;have f_qq:H qq=none:=s5.free qq5;have f_qd:∀d∈qds,H d=none:=λd hd=>s2.free (hqd d hd).1
 obtain⟨C,eC⟩:∃C:DvC,C=⟨r,f,b,x,pl,ql,rd,la,wx,kn,qq,qds⟩:=⟨_,Z⟩;have W0:DvW za6 zak C g ds.length φ gs lds U J H (U.length-0) [some (.ref r),some (.ref f),some (.ref b),some (.ref x),some (.ref ql),some (.ref rd),some (.ref la),some (.ref wx),none,none,none,none,none,none] H7:=by
  subst eC;refine⟨none,none,none,none,none,none,ks,us,[],λ_ _=>0,λ_=>[],λ_=>0,φ,[],fvs,Z,Z,s7,hle.keep (.of s27) (λo=>s27 _ o),⟨s57 _ _ hql5,ndq,λi d hd=>⟨[],s57 _ _ (qd5 d (Yx hd)),PF.nil⟩⟩,s57 _ _ hrd5,PF.nil,s57 _ _ hla5,pf.same s7,hwa,DvI.start srt (λz=>by rw[mu,pf.tmem]) (λz hz=>?_),λz=>by rw[mk,mu];simp,dv.j0⟩;have:=pf.tmem.mp ((mu z).mp hz);exact⟨dv.f z this,pf.sp z this⟩
 refine⟨DvW za6 zak C g ds.length φ gs lds U J H,⟨_,W0⟩,?_⟩;clear W0 hwa srt mu mk lk lu s27;rintro mm σ H8 ⟨v8,v9,v10,v11,v12,v13,ks,us,Dn,q,S,ρ,lf,rvs,lvs,rfl,rfl,I⟩;subst eC;dsimp only at I ⊢;obtain⟨dw,hw⟩:=I.wa.at_;refine⟨_,Z,wx,dw,_,Z,hw,zp0 _ (by decide +kernel) (by decide +kernel) (by decide +kernel),wx,g.po,kn,qq,g.rk,ks,us,Z,I.wa,λH9 e9=>⟨_,Z,?_⟩⟩;have I:=I.same e9;show if (!decide (us=[]))=true then _ else _
 by_cases hus:us=[]
 ·subst hus;rw[Yo rfl];refine iteF ⟨_,Z,_,Z,(by show 2<=sizeLine;decide),λp np=>?_⟩;have eP:Same H9 (upd H9 p (.tup [.ref ql,.ref rd])):=Same.upd np;have I:=I.same eP;exact k _ p ql rd qds q S ρ Dn lds rvs I.sm zab I.qt lq I.rst I.rp LO I.dv.dvd f_rd f_qd n_rdq ⟨_,lf,z0y I.dv,I.j⟩
 rw[Yw hus];obtain⟨us0,t,rfl⟩:=zu5 hus;refine iteT ⟨λσ' H'=>∃m',m'<U.length-Dn.length/\DvW za6 zak ⟨r,f,b,x,pl,ql,rd,la,wx,kn,qq,qds⟩ g ds.length φ gs lds U J H m' σ' H',λσ' H' h=>h,?_⟩;have dnl:=z0b I.dv;refine sab λrr hrr=>?_
 obtain⟨dw,hw⟩:=I.wa.at_;refine⟨_,Z,wx,dw,_,Z,hw,zp0 _ (by decide +kernel) (by decide +kernel) (by decide +kernel),wx,g.po,kn,qq,g.rk,ks,us0,t,Z,I.wa,λHA a kA waA ha=>?_⟩;dsimp only[za0];subst hrr;obtain⟨vsq,hqq9,_⟩:=I.wa.ql;have kpA:∀b o,H9 b=some o->b≠qq->HA b=some o:=λb o hb nb=>kA b o hb (by simp[nb])
 have fA:Fix H9 HA:=kA.fix λy hy o ho=>by
  rw[Yq.mp hy,hqq9]at ho;cases ho;exact .inr (.inl ⟨_,Z⟩)
 have sA:Same H HA:=λb o hb=>kpA _ _ (I.sm _ _ hb) (zam hb f_qq)
 have hlaA:HA la=some (.dT lvs):=kpA _ _ I.lft (zbs I.lft hqq9 (by intro z;cases z));have hrdA:HA rd=some (.dT rvs):=kpA _ _ I.rst (zbs I.rst hqq9 (by intro z;cases z));have leA:=I.le.keep fA (λo ho=>kpA _ _ ho (Jc n_qqpl));have qtA:=I.qt.keep fA (λo ho=>kpA _ _ ho (Jc n_qqql)) (λd hd o ho=>by
  obtain⟨i,hi⟩:=Je.mp hd;obtain⟨kv,h1,_⟩:=I.qt.row i d hi;exact kpA _ _ ho (zbs h1 hqq9 (by intro z;cases z)))
 have rpA:=I.rp.fix fA;have lpA:=I.lp.fix fA;have kmA:∀z,z∈ks↔z∈us0\/z∈Dn++[t]:=λz=>by
  rw[I.km];simp only[List.mem_append,List.mem_singleton];constructor
  ·rintro((h | h) | h)
   ·exact .inl h
   ·exact .inr (.inr h)
   ·exact .inr (.inl h)
  ·rintro(h | h | h)
   ·exact .inl (.inl h)
   ·exact .inr h
   ·exact .inl (.inr h)
 have mlt:U.length-(Dn++[t]).length<U.length-Dn.length:=by rw[Y6];simp;omega
 have ld1:(Dn++[t]).length=Dn.length+1:=by simp
 have tU:=I.dv.inU t (.inl (by simp));refine⟨_,Z,_,Z,la,_,Z,DGet.t (k:=ky t) hlaA (by rw[zeq];exact ha),_,Z,?_⟩
 cases hval:valV lvs (ky t) with
 | none=>
  have l0:lf t=0:=Classical.byContradiction λz=>by
   obtain⟨v,h1,_⟩:=lpA.get z;rw[hval]at h1;cases h1
  exact iteF ⟨_,mlt,_,_,_,_,_,_,ks,us0,Dn++[t],q,S,ρ,lf,rvs,lvs,Z,Z,sA,leA,qtA,hrdA,rpA,hlaA,lpA,waA,I.dv.skip l0,kmA,by rw[ld1];exact dv.js _ _ _ _ dnl I.j⟩
 | some v=>
 obtain⟨rv,nz0⟩:=lpA.val t v hval;refine iteT ?_;refine sab λrr hrr=>?_
 obtain⟨dxl,hxl⟩:=leA.at_;have fl2:∀p∈lds,p.2.length=g.m:=λp hp=>(LO.t0 (i:=p.1) (l:=p.2) hp).len
 refine⟨_,Z,x,dxl,_,Z,hxl,?_,_,Z,x,a,pl,g.m,lds,t,Z,leA,ha,tU.2.len,hR.m4,fl2,LO.inc,λnf HB eB=>?_,λi l ft HB qf a' eB hqf ha'=>?_⟩
 ·exact z0u _ (by decide +kernel)
 ·dsimp only[za0];subst hrr;refine⟨_,Z,Z,_,Z,iteT ?_⟩;have hlaB:=eB _ _ hlaA;have hrdB:=eB _ _ hrdA;have haB:=eB _ _ ha;have sB:=sA.trans eB;have lrv:rvs.length<=U.length:=zhb rpA λz hz=>(I.dv.inU z (.inr (I.dv.ri z hz).1)).1
  refine⟨_,Z,.inr (.inr (.inl ⟨Z,.inr ⟨_,hlaB⟩⟩)),_,Z,la,a,lvs,ky t,v,Z,Z,hlaB,by rw[zeq];exact haB,hval,?_⟩;have fC:Fix HB (upd HB la (.dT (ze0 lvs (ky t)))):=zbz hlaB;have kC:∀b o,HB b=some o->b≠la->(upd HB la (.dT (ze0 lvs (ky t)))) b=some o:=λb o hb nb=>(zai nb).trans hb
  have hlaC:(upd HB la (HO.dT (ze0 lvs (ky t)))) la=some (.dT (ze0 lvs (ky t))):=zab;dsimp only;generalize upd HB la (HO.dT (ze0 lvs (ky t)))=HC at fC kC hlaC;have hrdC:=kC _ _ hrdB (Jc n_lard);refine⟨_,Z,_,Z,rd,_,Z,DPut.t (k:=ky t) hrdC (by rw[zeq];exact fC.tup _ _ haB) (zlt _ (by omega)),?_⟩;have fD:Fix HC (upd HC rd (.dT (putK rvs (ky t) v))):=zbz hrdC;have kD:∀b o,HC b=some o->b≠rd->(upd HC rd (.dT (putK rvs (ky t) v))) b=some o:=λb o hb nb=>(zai nb).trans hb
  have hrdD:(upd HC rd (HO.dT (putK rvs (ky t) v))) rd=some (.dT (putK rvs (ky t) v)):=zab;generalize upd HC rd (HO.dT (putK rvs (ky t) v))=HD at fD kD hrdD;have fBD:=fC.tr fD;have kBD:∀b o,HB b=some o->b≠la->b≠rd->HD b=some o:=λb o hb n1 n2=>kD _ _ (kC _ _ hb n1) n2
  have fAD:=(Fix.of eB).tr fBD;obtain⟨vsq2,hqqB,_⟩:=(waA.same eB).ql;obtain⟨vsp2,hplB,_⟩:=(leA.keep (.of eB) (λo=>eB _ o)).pl;exact⟨_,mlt,_,_,_,_,_,_,ks,us0,Dn++[t],q,S,_,_,_,_,Z,Z,λb o hb=>kBD _ _ (sB _ _ hb) (zam hb f_la) (zam hb f_rd),leA.keep fAD (λo ho=>kBD _ _ (eB _ _ ho) (λz=>by have z:pl=la:=z;rw[z,hlaB]at hplB;cases hplB) (λz=>by have z:pl=rd:=z;rw[z,hrdB]at hplB;cases hplB)),
   qtA.keep fAD (λo ho=>kBD _ _ (eB _ _ ho) (λz=>by have z:ql=la:=z;have:=eB _ _ qtA.at_;dsimp only at this;rw[z,hlaB]at this;cases this) (λz=>by have z:ql=rd:=z;have:=eB _ _ qtA.at_;dsimp only at this;rw[z,hrdB]at this;cases this)) (λd hd o ho=>kBD _ _ (eB _ _ ho) (λz=>n_laq (by rw[<- z];exact hd)) (λz=>n_rdq (by rw[<- z];exact hd))),
   hrdD,(rpA.fix fAD).put tU.2 (Rep.fix fAD rv) nz0,kD _ _ hlaC n_lard,(lpA.fix fAD).drop t,(waA.fix fAD (λo ho=>kBD _ _ (eB _ _ ho) n_knla n_knrd) (λo ho=>kBD _ _ (eB _ _ ho) (λz=>by have z:qq=la:=z;rw[z,hlaB]at hqqB;cases hqqB) (λz=>by have z:qq=rd:=z;rw[z,hrdB]at hqqB;cases hqqB))),I.dv.rest nz0 nf,kmA,by rw[ld1];exact dv.jr _ _ _ _ _ dnl I.j tU.1 (I.dv.lead nz0) λi l hl=>nf _ (zlc LO hB.out hl)⟩
 ·dsimp only[za0];subst hrr;have sB:=sA.trans eB;have ⟨ik,hl⟩:=LO.ld i l ft.mem;have hBB:=hB.same sB;have hdx:ds[i]? = some ds[i]:=Yc ik;obtain⟨kvi,hki,hdi,pfi⟩:=hBB.row i _ hdx;have atr:atI (ds.map V.ref) (i:Int)=some (.ref ds[i]):=zcu (by rw[Ym,hdx];rfl);generalize ds[i]=d at hdx hdi atr;refine⟨_,Z,Z,_,Z,iteF ?_⟩;refine sab λrr hrr=>?_
  refine⟨_,Z,_,Z,qf,_,0,_,Z,Z,SqT.of hqf,atI0,b,_,_,_,Z,Z,SqL.of hBB.at_,atr,?_⟩;dsimp only[za0];subst hrr;refine sab λrr hrr=>?_
  obtain⟨vd,hvd,rvd⟩:=pfi.get hl.1;have hRB:=hR.same sB;obtain⟨dr,hrB⟩:=hRB.at_;obtain⟨dF,hF⟩:=B.ins hRB.fd;have haB:=eB _ _ ha;have hlaB:=eB _ _ hlaA;refine⟨_,Z,r,za2,dr,_,_,Z,hrB,T.cl_Ring,T.na_Ring_field,Z,g.pf,dF,_,Z,hF,no_P _ _ (by decide +kernel),_,Z,_,Z,la,v,Z,.inr ⟨lvs,ky t,a,.inl hlaB,Z,by rw[zeq];exact haB,hval.symm⟩,_,Z,_,Z,qf,_,1,_,Z,Z,SqT.of hqf,atI1,d,vd,Z,.inr ⟨kvi,ky l,a',.inl hdi,Z,by rw[zeq];exact ha',hvd.symm⟩,F,fF,cF,g.pf,v,vd,lf t,gs i l,Z,hRB.fd,Rep.fix (.of eB) rv,rvd,dv.jl _ _ _ _ (Nat.le_of_lt dnl) I.j t,dv.gl i l,hl.1,λxq vq HC hxq eC rq=>?_⟩;dsimp only[za0];subst hrr;refine sab λrr hrr=>?_
  obtain⟨lx,lxg,cl,jq⟩:=dv.jq Dn.length lf q ρ t i l xq dnl I.j tU.1 (I.dv.lead nz0) hl ft.goes (λj l' hj hl'=>ft.first _ (zlc LO hB.out hl') hj) hxq;have l0:=LO.t0 ft.mem;have o0:=T0.sub tU.2 l0 ft.goes;have x0:xq≠0:=by rintro rfl;apply nz0;rw[<- hxq];grind
  refine⟨_,Z,qf,_,1,_,Z,Z,SqT.of (eC _ _ hqf),atI1,_,Z,a',a,l,t,Z,eC _ _ ha',eC _ _ haB,by rw[l0.len,tU.2.len],by rw[l0.len];have:=hR.m4;omega,ft.goes,λov HD eD hov=>?_⟩;dsimp only[za0];subst hrr;refine sab λrr hrr=>?_
  have eAD:Same HA HD:=(eB.trans eC).trans eD;have sD:=sA.trans eAD;have hqfD:=eD _ _ (eC _ _ hqf);have qtD:=qtA.keep (.of eAD) (λo=>eAD _ o) (λ_ _ o=>eAD _ o);have hqx:qds[i]? = some (qds[i]'(by rw[lq];exact ik)):=Yc _;generalize qds[i]'(by rw[lq];exact ik)=qd at hqx;obtain⟨kvq,hqdD,pqD⟩:=qtD.row i qd hqx;have qdm:qd∈qds:=Yx hqx;have atq:atI (qds.map V.ref) (i:Int)=some (.ref qd):=zcu (by rw[Ym,hqx];rfl);have lkq:kvq.length<=U.length:=zqc (l:=l) l0.len pqD λo ho=>by
   obtain⟨_,l',f',d'⟩:=I.dv.qi i o ho;rw[LO.one f'.mem ft.mem]at d';exact(I.dv.inU _ (.inr d')).1
  refine⟨_,Z,_,Z,_,Z,qf,_,0,_,Z,Z,SqT.of hqfD,atI0,ql,_,_,_,Z,Z,SqL.of qtD.at_,atq,_,Z,qd,_,Z,DPut.t (k:=ky (subT t l)) hqdD (by rw[zeq];exact hov) (zlt _ (by omega)),?_⟩;have fE:Fix HD (upd HD qd (.dT (putK kvq (ky (subT t l)) vq))):=zbz hqdD;have kE:∀b o,HD b=some o->b≠qd->(upd HD qd (.dT (putK kvq (ky (subT t l)) vq))) b=some o:=λb o hb nb=>(zai nb).trans hb
  have hqdE:(upd HD qd (HO.dT (putK kvq (ky (subT t l)) vq))) qd=some (.dT (putK kvq (ky (subT t l)) vq)):=zab;generalize upd HD qd (HO.dT (putK kvq (ky (subT t l)) vq))=HE at fE kE hqdE;show rr _ _ _;subst hrr;refine sab λrr hrr=>?_
  have sE:Same H HE:=λb o hb=>kE _ _ (sD _ _ hb) (λz=>by rw[z,f_qd qd qdm]at hb;cases hb)
  have hRE:=hR.same sE;obtain⟨drE,hrE⟩:=hRE.at_;obtain⟨dFE,hFE⟩:=B.ins hRE.fd;have rqE:=Rep.fix ((Fix.of eD).tr fE) rq;refine⟨_,Z,_,Z,r,za2,drE,_,_,Z,hrE,T.cl_Ring,T.na_Ring_field,Z,g.pf,dFE,_,Z,hFE,no_P _ _ (by decide +kernel),_,Z,F,fF,cF,g.pf,vq,xq,Z,hRE.fd,rqE,λvn HF eF rn=>?_⟩;have sF:=sE.trans eF;have hBF:=hB.same sF;obtain⟨kvi',hki',hdF,pfF⟩:=hBF.row i d hdx;have lki:kvi'.length<=U.length:=zqc (l:=subT t l) o0.len pfF λu hu=>by
   have u0:=hBF.sp i u hu;rw[zis (u0.len.trans o0.len.symm)];exact cl u hu
  refine⟨_,Z,_,Z,F,fF,r,vn,ov,d,g,cF,kvi',-xq,subT t l,gs i,Z,hR.same sF,rn,lx.neg,eF _ _ (fE.tup _ _ hov),o0,hdF,pfF,dv.gl i,zlt _ (by omega),λtd HG kvt ntd eG htd ptd ltd=>?_⟩;dsimp only[za0];subst hrr;refine sab λrr hrr=>?_
  have sG:=sF.trans eG;have eEG:=eF.trans eG;have fAG:Fix HA HG:=((Fix.of eAD).tr fE).tr (.of eEG);have kAG:∀b o,HA b=some o->b≠qd->HG b=some o:=λb o hb nb=>eEG _ _ (kE _ _ (eAD _ _ hb) nb)
  obtain⟨vsq2,hqqA,_⟩:=waA.ql;have n_qqqd:qq≠qd:=λz=>by
   have:=eAD _ _ hqqA;rw[z,hqdD]at this;cases this
  have waG:Wa zak g.rk HG wx g.po kn qq ks us0:=waA.fix fAG (λo ho=>kAG _ _ ho (λz=>n_knq (by rw[z];exact qdm))) (λo ho=>kAG _ _ ho n_qqqd);obtain⟨dwG,hwG⟩:=waG.at_;have shU:∀z,sh (subT t l) (gs i) z≠0->z∈U:=λz hz=>by
   obtain⟨_,_,nz,e⟩:=zvh o0 (LO.sp i) hz;rw[e];exact cl _ nz
  have nxz:∀z,(-xq*sh (subT t l) (gs i) z≠0)↔sh (subT t l) (gs i) z≠0:=λz=>by
   constructor
   ·intro h e;apply h;rw[e];grind
   ·intro h e;apply h;grind
  obtain⟨kvk,hknG,ekG⟩:=waG.kn;have tdkn:td≠kn:=λz=>by
   have:HF kn≠none:=by
    obtain⟨kv0,h0,_⟩:=waA.kn;rw[eF _ _ (kE _ _ (eAD _ _ h0) (λz=>n_knq (by rw[z];exact qdm)))];intro z;cases z
   rw[z]at ntd;exact this ntd
  obtain⟨b1,b2,b3,b4,b5,tn⟩:=I.dv.base;have lks:ks.length<=U.length:=zcc waA.nd λz hz=>(b4 z ((kmA z).mp hz)).1
  have ndu:us0.Nodup:=List.Pairwise.imp (fun{a b} (h:G.lt g.rk a b) (e:a=b)=>by subst e;exact lt_irrefl h) b1;have lus:us0.length<=U.length:=zcc ndu λz hz=>(b4 z (.inl hz)).1
  have lkt:kvt.length<=U.length:=Yr ltd lki;have ltt:(tms kvt).length<=U.length:=by rw[zd0];exact lkt
  refine⟨_,Z,wx,dwG,_,Z,hwG,zp0 _ (by decide +kernel) (by decide +kernel) (by decide +kernel),_,Z,wx,td,g.po,kn,qq,g.kd,g.ws,g.m,ks,us0,tms kvt,kvt,Z,hR.k0,hR.k4,hR.wn,hR.wb,hR.m1,hR.m4,(hR.same sG).od,waG,htd,ptd.keys,λz hz=>dv.ok z (shU z ((nxz z).mp (ptd.tmem.mp hz))),tdkn,b1,λz hz=>⟨(kmA z).mpr (.inl hz),(b4 z (.inl hz)).2⟩,zlt _ (by omega),zlt _ (by omega),λHI ks' us' kI waI srI muI mkI lkI luI=>?_⟩;show rr _ _ _;subst hrr;have hknA:∃kv,HA kn=some (.dT kv):=let ⟨kv0,h0,_⟩:=waA.kn;⟨kv0,h0⟩;obtain⟨vsqG,hqqG,_⟩:=waG.ql;have kGI:∀b o,HG b=some o->b≠kn->b≠qq->HI b=some o:=λb o hb n1 n2=>kI b o hb (by simp[n1,n2])
  have fGI:Fix HG HI:=kI.fix λy hy o ho=>by
   rcases Yj.mp hy with z | z
   ·rw[z,hknG]at ho;cases ho;exact .inl ⟨_,Z⟩
   ·rw[Yq.mp z,hqqG]at ho;cases ho;exact .inr (.inl ⟨_,Z⟩)
  have fAI:=fAG.tr fGI;have sI:Same H HI:=λb o hb=>kGI _ _ (sG _ _ hb) (zam hb f_kn) (zam hb f_qq)
  have laqd:la≠qd:=λz=>n_laq (by rw[z];exact qdm)
  have rdqd:rd≠qd:=λz=>n_rdq (by rw[z];exact qdm)
  have hlaG:HG la=some (.dT lvs):=kAG _ _ hlaA laqd;have hlaI:HI la=some (.dT lvs):=kGI _ _ hlaG (Jc n_knla) (zbs hlaG hqqG (by intro z;cases z));have htdI:HI td=some (.dT kvt):=kGI _ _ htd tdkn (zbs htd hqqG (by intro z;cases z));have latd:la≠td:=λz=>by
   have:=eF _ _ (kE _ _ (eAD _ _ hlaA) laqd);rw[z,ntd]at this;cases this
  have llv:lvs.length<=U.length:=zhb lpA λz hz=>(I.dv.inU z (.inl (I.dv.lft z hz))).1
  refine⟨_,Z,_,Z,_,Z,F,fF,r,la,td,g,cF,lvs,kvt,lf,_,Z,hR.same sI,latd,hlaI,htdI,lpA.fix fAI,ptd.fix fGI,zlt _ (by omega),dv.jl _ _ _ _ (Nat.le_of_lt dnl) I.j,λz=>?_,λHJ lvs' kJ hlaJ plJ llJ=>?_⟩
  ·show Lim g.n 8900 (-xq*sh (subT t l) (gs i) z);have:Lim g.n 8900 (xq*sh (subT t l) (gs i) z):=by
    unfold sh;split
    ·exact lxg _
    ·have q:=(lxg l).zero';rw[show xq*(0:F)=0 by grind];exact q
   have q:=this.neg;rwa [show -(xq*sh (subT t l) (gs i) z) = -xq*sh (subT t l) (gs i) z by grind]at q
  have kIJ:∀b o,HI b=some o->b≠la->HJ b=some o:=λb o hb nb=>kJ b o hb (by simp[nb])
  have fIJ:Fix HI HJ:=kJ.fix λy hy o ho=>by
   rw[Yq.mp hy,hlaI]at ho;cases ho;exact .inl ⟨_,Z⟩
  have fAJ:=fAI.tr fIJ;have kAJ:∀b o,HA b=some o->b≠qd->b≠kn->b≠qq->b≠la->HJ b=some o:=λb o hb n1 n2 n3 n4=>kIJ _ _ (kGI _ _ (kAG _ _ hb n1) n2 n3) n4
  have lst:∀{y:Addr} {ys:List V},HA y=some (.lst ys)->y≠qq->HJ y=some (.lst ys):=fun{y ys} hy nq=>by
   obtain⟨kv0,h0⟩:=hknA;refine kAJ _ _ hy (λz=>?_) (zbs hy h0 (by intro z;cases z)) nq (zbs hy hlaA (by intro z;cases z));have:=eAD _ _ hy;rw[z,hqdD]at this;cases this
  obtain⟨vsp2,hplA,_⟩:=leA.pl;have hrdJ:HJ rd=some (.dT rvs):=kAJ _ _ hrdA rdqd (Jc n_knrd) (zbs hrdA hqqA (by intro z;cases z)) (Jc n_lard);refine⟨_,mlt,_,_,_,_,_,_,ks',us',Dn++[t],_,_,ρ,_,rvs,lvs',Z,Z,λb o hb=>kIJ _ _ (sI _ _ hb) (zam hb f_la),leA.keep fAJ (λo ho=>by
    have hplA:HA pl=some (.lst vsp2):=hplA;rw[hplA]at ho;cases ho;exact lst hplA (Jc n_qqpl)),⟨lst qtA.at_ (Jc n_qqql),qtA.nd,λj dj hj=>?_⟩,hrdJ,rpA.fix fAJ,hlaJ,plJ.congr λz=>?_,(waI.fix fIJ (λo ho=>kIJ _ _ ho n_knla) (λo ho=>kIJ _ _ ho (λz=>by
    obtain⟨v0,h0,_⟩:=waI.ql;have z:qq=la:=z;rw[z,hlaI]at h0;cases h0))),I.dv.quot om LO nz0 ft hxq cl srI (λz=>?_),λz=>?_,by rw[ld1];exact jq⟩
  ·by_cases c:j=i
   ·subst c;have hj:qds[j]? = some dj:=hj;rw[hqx]at hj;cases hj;refine⟨_,kIJ _ _ (kGI _ _ (eEG _ _ hqdE) (λz=>n_knq (by rw[<- z];exact qdm)) (Jc n_qqqd)) (Jc laqd),?_⟩;rw[zg2];exact((pqD.fix (fE.tr (((Fix.of eEG).tr fGI).tr fIJ))).put o0 (Rep.fix (((Fix.of eEG).tr fGI).tr fIJ) rqE) x0)
   ·obtain⟨kvj,h1,h2⟩:=qtA.row j dj hj;have djm:dj∈qds:=Yx hj;rw[zd8 c];refine⟨kvj,kAJ _ _ h1 (λz=>?_) (λz=>n_knq (by rw[<- z];exact djm)) (zbs h1 hqqA (by intro z;cases z)) (λz=>n_laq (by rw[<- z];exact djm)),h2.fix fAJ⟩;have lj:j<qds.length:=by
     rcases Jh j qds.length with w | w
     ·exact w
     ·have hj:qds[j]? = some dj:=hj;rw[Yy w]at hj;cases hj
    have hj:qds[j]? = some dj:=hj;exact c ((List.getElem?_inj lj qtA.nd).mp (by rw[hj,hqx,z]))
  ·show lf z + -xq*sh (subT t l) (gs i) z=lf z-xq*sh (subT t l) (gs i) z;grind
  ·rw[muI,ptd.tmem,nxz,kmA];constructor
   ·rintro(h | ⟨h1,h2⟩)
    ·exact .inl h
    ·exact .inr ⟨h1,λz=>h2 (.inl z),λz=>h2 (.inr z)⟩
   ·rintro(h | ⟨h1,h2,h3⟩)
    ·exact .inl h
    ·exact .inr ⟨h1,λw=>w.elim h2 h3⟩
  ·rw[mkI,muI,kmA];constructor
   ·rintro((h | h) | h)
    ·exact .inl (.inl h)
    ·exact .inr h
    ·by_cases c:z∈ks
     ·rcases(kmA z).mp c with w | w
      ·exact .inl (.inl w)
      ·exact .inr w
     ·exact .inl (.inr ⟨h,λw=>c ((kmA z).mpr w)⟩)
   ·rintro((h | ⟨h,_⟩) | h)
    ·exact .inl (.inl h)
    ·exact .inr h
    ·exact .inl (.inr h)
theorem zwo(F:FunD K "_law_cell_at" "_law_cell_at" zd2 .none f fd)   : FnOk P w K mg base CX0 1 f fd ["_law_script","_law_k"] (ztt K):=by
 have scCell:FnScope ["_law_script","_law_k"] ["_law_script","_law_k"] (zah zd2):=sM (by decide +kernel);refine F.okN (k:=0) scCell (by walk_at "v") (λcdv A outer s H vs Q E hr=>?_);walk_at "x";rename_i g_ hg_ a ns k;rintro⟨rfl,h⟩;subst hg_;refine⟨_,(zad (zba (zap zh4 (pv 1) (zau (zbc (K:=K) rfl) rfl T.b_len PySem.boot_len ((zaa (pv 0) zac))) (nomark _)) (zae (zan (zaz (r:=rIxL K) zb9 (pv 0) (pv 1) (λ_ _=>Z)))) zav)
  (zae (zan (zaf)))),?_⟩
 obtain⟨hS,h0,q⟩:=h;have hl:(ns.map V.int).length=ns.length:=Yd _;refine⟨_,Z,_,Z,a,_,Z,.inl hS,?_⟩;walk_at "rd";refine cD (λc=>?_) (λc=>?_)
 ·rw[hl]at c;exact⟨_,Z,_,Z,a,_,_,_,Z,Z,hS,zvv h0 c,q⟩
 ·rw[hl]at c;have e:cellOf ns k=0:=by unfold cellOf;rw[List.getD_eq_getElem?_getD,Yy (by omega)];rfl
  rw[e]at q;exact q
theorem zzk(F:FunD K "_law_gcd" "_law_gcd" zgs .none f fd)   : FnOk P w K mg base CX0 1 f fd ["_law_one_here","_law_other"] zo6:=by
 have scGcd:FnScope ["_law_one_here","_law_other","_law_rest"] ["_law_one_here","_law_other"] (zah zgs):=sM (by decide +kernel);refine F.okN (k:=0) scGcd (by walk_at "v") (λcdv A outer s H vs Q E hr=>?_);walk_at "x";rename_i g_ hg_ t b;rintro⟨rfl,h⟩;subst hg_;refine⟨_,(zad (zei PassesOwn.never (zap zkn (pv 1) (zaf) (nomark _)) (zad (zaw (i:=2) scGcd.nd rfl (Or.inl rfl) (zaq zhh (pv 0) (pv 1)))
  (zad (zaw (i:=0) scGcd.nd rfl (Or.inl rfl) (pv 1))
  (zae (zaw (i:=1) scGcd.nd rfl (Or.inl rfl) (pv 2))))))
  (zae (zan (zau zfh rfl T.b_abs (by kernel_rfl) ((zaa (pv 0) zac)))))),?_⟩
 obtain⟨b0,bt,k⟩:=h;refine⟨λm σ H'=>∃(a' b':Int) (v:Option V),m=b'.toNat/\σ = [some (.int a'),some (.int b'),v]/\H'=H/\0<=b'/\(b'=0->0<=a')/\gI a' b'=gI t b,⟨_,_,_,none,Z,Z,Z,b0,bt,Z⟩,?_⟩;rintro m σ H' ⟨a',b',v,rfl,rfl,rfl,h1,h2,hg⟩;walk_at "rd";refine cNe (λc=>?_) (λc=>?_)
 ·refine⟨λσ' H''=>∃v',σ'=[some (.int b'),some (.int (a'.fmod b')),v']/\H''=H',?_,?_⟩
  ·rintro σ' H'' ⟨v',rfl,rfl⟩;have bp:0<b':=by omega
   exact⟨(a'.fmod b').toNat,K1.less bp,_,_,v',Z,Z,Z,Int.fmod_nonneg_of_pos _ bp,λ_=>h1,(zzl bp).trans hg⟩
  ·refine⟨_,Z,_,Z,_,_,Z,Z,c,?_⟩;walk_at "rd";rfl
 ·refine⟨_,Z,_,Z,?_⟩;have a0:=h2 c;rw[Yh (by omega)];rw[c,zo4 _ a0]at hg;rw[hg];exact k
theorem zws(F:FunD K "_law_norm" "_law_norm" zfu .none f fd)(c_Gcd:Cal P w K mg base CX0 1 "_law_gcd" ["_law_one_here","_law_other"] [] zo6):FnOk P w K mg base CX0 2 f fd ["_law_p","_law_top","_law_bottom"] zjb:=by
 have scNorm:FnScope ["_law_p","_law_top","_law_bottom","_law_most"] ["_law_p","_law_top","_law_bottom"] (zah zfu):=sM (by decide +kernel);refine F.okN (k:=1) scNorm (by walk_at "v") (λcdv A outer s H vs Q E hr=>?_);walk_at "x";rename_i g_ hg_ F fF n cF t b;rintro⟨rfl,h⟩;subst hg_;refine⟨_,(zad (zba (zap zhw (pv 0) (zaf) (nomark _)) (zae (zan (zaq zbr (pv 1) (pv 0)))) zav)
  (zad (zaw (i:=3) scNorm.nd rfl (Or.inl rfl) (pe_c c_Gcd hr zar .nil ((zaa (pv 1) (zaa (pv 2) zac)))))
  (zae (zan (zca ((zaa (zaq zby (pv 1) (pv 3)) (zaa (zaq zby (pv 2) (pv 3)) zac)))))))),?_⟩
 obtain⟨n2,hb,hb1,k⟩:=h;walk_at "rd";refine cD (λc=>?_) (λc=>?_)
 ·have n0:n≠0:=by omega
  refine⟨_,Z,_,Z,_,_,Z,Z,(by show 0<n;omega),?_⟩;refine k (ic t) _ H ?_ (Same.refl _) ((zc5 n0).mpr ⟨_,Z,Jn _ n0,Jd _ c,(zh0 t).symm⟩);rw[hb1 n0,zfn];grind
 ·obtain rfl:=zlq n2 c;obtain⟨b1,b2⟩:=hb rfl;have gp:0<gI t b:=ze5 (by omega);have gl:(gI t b).natAbs<2^8999:=by
   have h1:gI t b<=b:=Int.le_of_dvd (by omega) (zgc t b);exact Yp (show _<=b.natAbs by omega) (Yf b2 (Yv (by decide) (by decide)))
  obtain⟨x,hx⟩:=zw5 (F:=F) (t:=t) (b:=b) (by omega);refine⟨_,Z,_,Z,t,b,Z,by omega,λz=>by omega,?_⟩;refine⟨_,Z,_,Z,_,_,Z,Z,⟨by omega,gl⟩,_,Z,_,Z,_,_,Z,Z,⟨by omega,gl⟩,(by show 2<=sizeLine;decide),λr hr=>?_⟩;exact k x _ _ hx (Same.upd hr) (zri b1 zab hx)
theorem ztg(F:FunD K "_law_times" "_law_times" zfe .none f fd)(c_Norm:Cal P w K mg base CX0 2 "_law_norm" ["_law_p","_law_top","_law_bottom"] [] zjb):FnOk P w K mg base CX0 3 f fd ["_law_p","_law_one_here","_law_other"] zml:=by
 have scTimes:FnScope ["_law_p","_law_one_here","_law_other"] ["_law_p","_law_one_here","_law_other"] (zah zfe):=sM (by decide +kernel);refine F.okN (k:=2) scTimes (by walk_at "v") (λcdv A outer s H vs Q E hr=>?_);walk_at "x";rename_i g_ hg_ F fF n cF v1 v2 x y k1 k2;rintro⟨rfl,h⟩;subst hg_;refine⟨_,(zad (zba (zap zhw (pv 0) (zaf) (nomark _)) (zae (zan (zaq zbr (zaq zci (pv 1) (pv 2)) (pv 0)))) zav)
  (zae (zan (pe_c c_Norm hr zar .nil ((zaa (zaf) (zaa (zaq zci (zaz (r:=rIxT K) zax (pv 1) (zaf) (λ_ _=>Z)) (zaz (r:=rIxT K) zax (pv 2) (zaf) (λ_ _=>Z))) (zaa (zaq zci (zaz (r:=rIxT K) zax (pv 1) (zaf) (λ_ _=>Z)) (zaz (r:=rIxT K) zax (pv 2) (zaf) (λ_ _=>Z))) zac)))))))),?_⟩
 obtain⟨n2,n9,hx,hy,lx,ly,kk,k⟩:=h;have sm:∀{a:Int},0<=a->a<n->a.natAbs<2^20000:=fun{a} h1 h2=>Yp (show a.natAbs<=9973 by omega) (Yf (show 9973<2^14 by decide) (Yv (by decide) (by decide)))
 have bg:∀{a:Int} {k:Nat},k<=8900->a.natAbs<2^k->a.natAbs<2^20000:=fun{a k} h1 h2=>Yf h2 (Yv (by decide) (by omega))
 walk_at "rd"
 refine cD (λc=>?_) (λc=>?_)
 ·have n0:n≠0:=by omega
  obtain⟨a,rfl,a0,a1,ea⟩:=(zc5 n0).mp hx;obtain⟨b,rfl,b0,b1,eb⟩:=(zc5 n0).mp hy;refine⟨_,Z,_,Z,_,_,Z,Z,⟨sm a0 a1,sm b0 b1⟩,_,Z,_,_,Z,Z,(by show 0<n;omega),?_⟩;exact k _ H (Same.refl _) ((zc5 n0).mpr ⟨_,Z,Jn _ n0,Jd _ c,by rw[zh0,za3,<- ea,<- eb]⟩)
 ·obtain rfl:=zlq n2 c;obtain⟨r1,p1,q1,rfl,h1,g1,c1,e1,a1,b1⟩:=zhi hx lx;obtain⟨r2,p2,q2,rfl,h2,g2,c2,e2,a2,b2⟩:=zhi hy ly;have qq:(q1*q2).natAbs<2^8900:=by
   rw[Int.natAbs_mul];exact Yf (Nat.mul_lt_mul'' b1 b2) (by rw[<- Nat.pow_add];exact Yv (by decide) kk)
  have q0:1<=q1*q2:=Int.mul_pos (show 0<q1 by omega) (show 0<q2 by omega);refine⟨_,Z,r1,_,0,_,Z,Z,SqT.of h1,atI0,_,Z,r2,_,0,_,Z,Z,SqT.of h2,atI0,_,_,Z,Z,⟨bg (by omega) a1,bg (by omega) a2⟩,_,Z,r1,_,1,_,Z,Z,SqT.of h1,atI1,_,Z,r2,_,1,_,Z,Z,SqT.of h2,atI1,_,_,Z,Z,⟨bg (by omega) b1,bg (by omega) b2⟩,F,fF,0,cF,p1*p2,q1*q2,Z,.inl rfl,λ_=>⟨q0,qq⟩,λz=>absurd rfl z,λz v H' ez e hv=>?_⟩;have nz:ic (F:=F) (q1*q2)≠0:=zfr (by omega);have ex:z=x*y:=by
   have e3:(x*y)*ic (q1*q2)=ic (p1*p2):=by rw[za3,za3,<- e1,<- e2];grind
   grind
  rw[ex]at hv;exact k v H' e hv
theorem zwl(F:FunD K "_law_plus" "_law_plus" zfy .none f fd)(c_Norm:Cal P w K mg base CX0 2 "_law_norm" ["_law_p","_law_top","_law_bottom"] [] zjb):FnOk P w K mg base CX0 3 f fd ["_law_p","_law_one_here","_law_other"] zqu:=by
 have scPlus:FnScope ["_law_p","_law_one_here","_law_other"] ["_law_p","_law_one_here","_law_other"] (zah zfy):=sM (by decide +kernel);refine F.okN (k:=2) scPlus (by walk_at "v") (λcdv A outer s H vs Q E hr=>?_);walk_at "x";rename_i g_ hg_ F fF n cF v1 v2 x y k1 k2;rintro⟨rfl,h⟩;subst hg_;refine⟨_,(zad (zba (zap zhw (pv 0) (zaf) (nomark _)) (zae (zan (zaq zbr (zaq zb4 (pv 1) (pv 2)) (pv 0)))) zav)
  (zae (zan (pe_c c_Norm hr zar .nil ((zaa (zaf) (zaa (zaq zb4 (zaq zci (zaz (r:=rIxT K) zax (pv 1) (zaf) (λ_ _=>Z)) (zaz (r:=rIxT K) zax (pv 2) (zaf) (λ_ _=>Z))) (zaq zci (zaz (r:=rIxT K) zax (pv 2) (zaf) (λ_ _=>Z)) (zaz (r:=rIxT K) zax (pv 1) (zaf) (λ_ _=>Z)))) (zaa (zaq zci (zaz (r:=rIxT K) zax (pv 1) (zaf) (λ_ _=>Z)) (zaz (r:=rIxT K) zax (pv 2) (zaf) (λ_ _=>Z))) zac)))))))),?_⟩
 obtain⟨n2,n9,hx,hy,lx,ly,kk,k⟩:=h;have sm:∀{a:Int},0<=a->a<n->a.natAbs<2^20000:=fun{a} h1 h2=>Yp (show a.natAbs<=9973 by omega) (Yf (show 9973<2^14 by decide) (Yv (by decide) (by decide)))
 have bg:∀{a:Int} {k:Nat},k<=8900->a.natAbs<2^k->a.natAbs<2^20000:=fun{a k} h1 h2=>Yf h2 (Yv (by decide) (by omega))
 walk_at "rd"
 refine cD (λc=>?_) (λc=>?_)
 ·have n0:n≠0:=by omega
  obtain⟨a,rfl,a0,a1,ea⟩:=(zc5 n0).mp hx;obtain⟨b,rfl,b0,b1,eb⟩:=(zc5 n0).mp hy;refine⟨_,Z,_,Z,_,_,Z,Z,_,Z,_,_,Z,Z,(by show 0<n;omega),?_⟩;exact k _ H (Same.refl _) ((zc5 n0).mpr ⟨_,Z,Jn _ n0,Jd _ c,by rw[zh0,zkk,<- ea,<- eb]⟩)
 ·obtain rfl:=zlq n2 c;obtain⟨r1,p1,q1,rfl,h1,g1,c1,e1,a1,b1⟩:=zhi hx lx;obtain⟨r2,p2,q2,rfl,h2,g2,c2,e2,a2,b2⟩:=zhi hy ly;have qq:(q1*q2).natAbs<2^8900:=by
   rw[Int.natAbs_mul];exact Yf (Nat.mul_lt_mul'' b1 b2) (by rw[<- Nat.pow_add];exact Yv (by decide) kk)
  have q0:1<=q1*q2:=Int.mul_pos (show 0<q1 by omega) (show 0<q2 by omega);refine⟨_,Z,r1,_,0,_,Z,Z,SqT.of h1,atI0,_,Z,r2,_,1,_,Z,Z,SqT.of h2,atI1,_,_,Z,Z,⟨bg (by omega) a1,bg (by omega) b2⟩,_,Z,r2,_,0,_,Z,Z,SqT.of h2,atI0,_,Z,r1,_,1,_,Z,Z,SqT.of h1,atI1,_,_,Z,Z,⟨bg (by omega) a2,bg (by omega) b1⟩,_,_,Z,Z,_,Z,r1,_,1,_,Z,Z,SqT.of h1,atI1,_,Z,r2,_,1,_,Z,Z,SqT.of h2,atI1,_,_,Z,Z,⟨bg (by omega) b1,bg (by omega) b2⟩,F,fF,0,cF,p1*q2+p2*q1,q1*q2,Z,.inl rfl,λ_=>⟨q0,qq⟩,λz=>absurd rfl z,λz v H' ez e hv=>?_⟩;have nz:ic (F:=F) (q1*q2)≠0:=zfr (by omega);have ex:z=x+y:=by
   have e3:(x+y)*ic (q1*q2)=ic (p1*q2+p2*q1):=by rw[zkk,za3,za3,za3,<- e1,<- e2];grind
   grind
  rw[ex]at hv;exact k v H' e hv
theorem zux(F:FunD K "_law_nought" "_law_nought" zee .none f fd)   : FnOk P w K mg base CX0 1 f fd ["_law_p"] (zkx 0):=by
 have scNouB:FnScope ["_law_p"] ["_law_p"] (zah zee):=sM (by decide +kernel);refine F.okN (k:=0) scNouB (by walk_at "v") (λcdv A outer s H vs Q E hr=>?_);walk_at "x";rename_i g_ hg_ F fF n cF;rintro⟨rfl,h⟩;subst hg_;refine⟨_,(zad (zba (zap zhw (pv 0) (zaf) (nomark _)) (zae (zan (zaf))) zav)
  (zae (zan (zca ((zaa (zaf) (zaa (zaf) zac))))))),?_⟩
 obtain⟨n2,k⟩:=h;walk_at "rd";refine cD (λc=>?_) (λc=>?_)
 ·have n0:n≠0:=by omega
  have p2:=(n2.resolve_left n0).1;exact k _ H (Same.refl _) ((zc5 n0).mpr ⟨0,Z,by decide,by omega,Z⟩)
 ·obtain rfl:=zlq n2 c;refine⟨(by show 2<=sizeLine;decide),λr hr=>?_⟩;exact k _ _ (Same.upd hr) (rep_0.mpr ⟨r,0,1,Z,zab,by decide,zmy _,by rw[zfn];grind⟩)
theorem zuw(F:FunD K "_law_one" "_law_one" zgr .none f fd)   : FnOk P w K mg base CX0 1 f fd ["_law_p"] (zkx 1):=by
 have scOneB:FnScope ["_law_p"] ["_law_p"] (zah zgr):=sM (by decide +kernel);refine F.okN (k:=0) scOneB (by walk_at "v") (λcdv A outer s H vs Q E hr=>?_);walk_at "x";rename_i g_ hg_ F fF n cF;rintro⟨rfl,h⟩;subst hg_;refine⟨_,(zad (zba (zap zhw (pv 0) (zaf) (nomark _)) (zae (zan (zaf))) zav)
  (zae (zan (zca ((zaa (zaf) (zaa (zaf) zac))))))),?_⟩
 obtain⟨n2,k⟩:=h;walk_at "rd";refine cD (λc=>?_) (λc=>?_)
 ·have n0:n≠0:=by omega
  have p2:=(n2.resolve_left n0).1;exact k _ H (Same.refl _) ((zc5 n0).mpr ⟨1,Z,by decide,by omega,Z⟩)
 ·obtain rfl:=zlq n2 c;refine⟨(by show 2<=sizeLine;decide),λr hr=>?_⟩;exact k _ _ (Same.upd hr) (rep_0.mpr ⟨r,1,1,Z,zab,by decide,zmy _,by rw[zfn];grind⟩)
theorem zxl(F:FunD K "_law_prime" "_law_prime" zfd .none f fd)   : FnOk P w K mg base CX0 1 f fd ["_law_cell"] zx5:=by
 have scLPb:FnScope ["_law_cell","_law_found"] ["_law_cell"] (zah zfd):=sM (by decide +kernel);refine F.okN (k:=0) scLPb (by walk_at "v") (λcdv A outer s H vs Q E hr=>?_);walk_at "x";rename_i g_ hg_ c;rintro⟨rfl,h⟩;subst hg_;refine⟨_,(zad (zaw (i:=1) scLPb.nd rfl (Or.inr rfl) (zaq zb4 (zaf) (zaq zbr (zaq zcv (pv 0) (zaf)) (zaf))))
  (zad (zba (zap zdq (zaq zbr (pv 0) (zaf)) (zaf) (nomark _)) (zae (zaw (i:=1) scLPb.nd rfl (Or.inr rfl) (zaq zb4 (zaf) (zaq zbr (zaq zia (zaq zcv (pv 0) (zaf)) (zaf)) (zaf))))) zav)
  (zad (zei PassesOwn.never (zap (zuf hr.units) (zbk (N:=["_law_k","_law_found"]) (cl:=[("_law_found",s.heap.objs.size+1)]) (mp:=[none,some 1]) (Blk.of rfl (by decide +kernel) rfl (by decide +kernel) zdg (zbe rfl zc2) (zh3 (fs:=["_law_found"]) rfl (by decide +kernel)) rfl (zb1 (zbd rfl (.inl rfl) rfl zc0))) rfl (zox rfl T.b_range ((zaa (zaf) (zaa (zaf) zac)))) (λC0 s0 H0 fp0=>zcb (i:=0) zdg rfl rfl) (λC0 s0 H0 fp0=>zlm (PW.pt (zkp (zap zh4 (pv 0) (pv 1) (nomark _)) (zhu (zap zdq (zaq zbr (pv 1) (pv 0)) (zaf) (nomark _)))))) (λC0 s0 H0 fp0=>pv 0)) (zeu (zac)) (nomark _)) (zae (zaw (i:=1) scLPb.nd rfl (Or.inr rfl) (zaq zb4 (pv 1) (zaf)))))
  (zae (zan (pv 1)))))),?_⟩
 have k:=h;refine zev (λσ' H'=>H'=H/\σ'=[some (.int c),some (.int (2+c / 2%30))]) ?_ λN hN=>?_
 rotate_left
 ·walk_at "rd"
  exact hN _ _ ⟨Z,Z⟩
 rintro σ0 H0 ⟨rfl,rfl⟩;refine zev (λσ' H'=>H'=H0/\∃n:Int,σ'=[some (.int c),some (.int n)]/\2<=n/\n<=9973) ?_ λN hN=>?_
 rotate_left
 ·walk_at "rd"
  refine cEq (λc1=>?_) (λc1=>?_)
  ·walk_at "rd"
   exact hN _ _ ⟨Z,_,Z,by omega,by omega⟩
  ·exact hN _ _ ⟨Z,_,Z,by omega,by omega⟩
 rintro σ1 H1 ⟨rfl,n0,rfl,n02,n09⟩;refine⟨λm σ H'=>∃n:Int,m=(9973-n).toNat/\σ = [some (.int c),some (.int n)]/\Same H1 H'/\2<=n/\n<=9973,⟨_,_,rfl,rfl,Same.refl _,by omega,by omega⟩,?_⟩;rintro m σ H' ⟨n,rfl,rfl,e1,n2,n9⟩;show tComp _ _ _ _ _ _ _ _;refine zcn (J:=Itr 2 98) (H1:=H') (zgn 2 98) (by decide) ?_ (λσ=>∃v,σ = [v,some (.int n)]) (λi=>decide ((2:Int)+i<n)&&decide (n%(2+(i:Int))=0)) (λi=>.int (2+(i:Int))) ⟨none,rfl⟩ ?_ λD H2 e2 hL=>?_
 ·exact λR hR=>⟨2,100,Z,⟨by decide,by decide,by decide,by decide⟩,hR⟩
 ·rintro i v σ' H3 hi ⟨z,rfl⟩ e3 rfl Ny Nn hy hn;dsimp only[za0];have q1:=hy [some (.int (2+(i:Int))),some (.int n)] H3 ⟨_,rfl⟩ (Same.refl _);have q2:=hn [some (.int (2+(i:Int))),some (.int n)] H3 ⟨_,rfl⟩ (Same.refl _);refine⟨_,rfl,_,rfl,_,_,rfl,rfl,_,rfl,?_⟩;by_cases c1:(2:Int)+(i:Int)<n
  ·rw[Yo c1]at q1 q2 ⊢;rw[Yl rfl];refine⟨_,Z,_,Z,_,_,Z,Z,(by show (0:Int)<2+(i:Int);omega),Z,_,Z,?_⟩;rw[zjl];refine cD (λc2=>?_) (λc2=>?_)
   ·rw[Yo c2]at q1;exact⟨_,Z,q1 rfl⟩
   ·rw[Yw c2]at q2;exact q2 rfl
  ·rw[Yw c1]at q1 q2 ⊢;rw[Yh (by decide)];exact q2 rfl
 refine⟨(by show 0<=sizeLine;decide),λD2 hD2=>?_⟩;have e3:Same H2 (upd H2 D2 (.lst [])):=Same.upd hD2;generalize hfl:(List.range 98).filter (λi=>decide ((2:Int)+(i:Nat)<n)&&decide (n%(2+((i:Nat):Int))=0))=fl at hL;have hI:fl.map (λi:Nat=>V.int (2+(i:Int)))=(fl.map λi:Nat=>(2+(i:Int))).map V.int:=by rw[Ji];rfl
 rw[hI]at hL;refine⟨.list ((fl.map λi:Nat=>(2+(i:Int))).map PyData.int),.list [],.lst (SqL.of (e3 _ _ hL)) (zha _),.lst (SqL.of zab) .nil,ze1 _,Z,_,Z,?_⟩;have eqe:PyData.eqv (.list ((fl.map λi:Nat=>(2+(i:Int))).map PyData.int)) (.list [])=decide (fl=[]):=by
  cases fl with
  | nil=>rfl
  | cons a l=>rfl
 rw[eqe];refine cNB (λc1=>?_) (λc1=>?_)
 ·have n3:n≠9973:=λz=>by
   subst z;refine of_decide_eq_false c1 ?_;rw[<- hfl];decide +kernel
  refine⟨λσ' H''=>σ'=[some (.int c),some (.int (n+1))]/\Same H1 H'',?_,?_⟩
  ·rintro σ' H'' ⟨rfl,e4⟩;exact⟨(9973-(n+1)).toNat,by omega,n+1,rfl,rfl,e4,by omega,by omega⟩
  ·walk_at "rd"
   exact(e1.trans e2).trans e3
 ·have f0:fl=[]:=Jk c1;refine⟨_,Z,k n _ ((e1.trans e2).trans e3) (zsv n2 n9 λj hj hz=>?_) n9⟩;have jj:(2:Int)+(j.val:Int)<n:=by
   have:((j.val:Int)+2)*2<=((j.val:Int)+2)*((j.val:Int)+2):=Y3 (by omega) (by omega);omega
  have jz:n%(2+(j.val:Int))=0:=by
   rw[Int.fmod_eq_emod_of_nonneg _ (by omega)]at hz;rw[Int.add_comm];exact hz
  have:j.val∈fl:=by
   rw[<- hfl];refine List.mem_filter.mpr ⟨List.mem_range.mpr j.isLt,?_⟩;show (decide ((2:Int)+(j.val:Int)<n)&&decide (n%(2+(j.val:Int))=0))=true;rw[Yo jj,Yo jz];rfl
  rw[f0]at this;cases this
theorem zzt(F:FunD K "_law_rests" "_law_rests" ze3 .none f fd)(c_LPb:Cal P w K mg base CX0 1 "_law_prime" ["_law_cell"] [] zx5):FnOk P w K mg base CX0 2 f fd ["_law_cell"] zz1:=by
 have scLRs:FnScope ["_law_cell"] ["_law_cell"] (zah ze3):=sM (by decide +kernel);refine F.okN (k:=1) scLRs (by walk_at "v") (λcdv A outer s H vs Q E hr=>?_);walk_at "x";rename_i g_ hg_ c;rintro⟨rfl,h⟩;subst hg_;refine⟨_,(zad (zba (zap zdq (zaq zbr (pv 0) (zaf)) (zaf) (nomark _)) (zae (zan (zaf))) zav)
  (zae (zan (pe_c c_LPb hr zar .nil ((zaa (zaq zcv (pv 0) (zaf)) zac)))))),?_⟩
 have k:=h;walk_at "rd";refine cEq (λc0=>k 0 H (Same.refl _) (.inl rfl) (by decide)) (λc0=>?_);walk_at "rd";exact λn H' e p n9=>k n H' e (.inr p) n9
theorem zsf(F:FunD K "_law_whole" "_law_whole" ze6 .none f fd)   : FnOk P w K mg base CX0 1 f fd ["_law_found"] zk5:=by
 have scWhole:FnScope ["_law_found"] ["_law_found"] (zah ze6):=sM (by decide +kernel);refine F.okN (k:=0) scWhole (by walk_at "v") (λcdv A outer s H vs Q E hr=>?_);walk_at "x";rename_i g_ hg_ i;rintro⟨rfl,h⟩;subst hg_;refine⟨_,(zae (zan (zih (zau (zb2 (K:=K) rfl) rfl T.b_isinstance (by kernel_rfl) ((zaa (pv 0) (zaa (zf2 (v:=.ty "int") rfl T.b_int (by kernel_rfl) rfl) zac)))) (zmd (zyf (zau (zb2 (K:=K) rfl) rfl T.b_isinstance (by kernel_rfl) ((zaa (pv 0) (zaa (zf2 (v:=.ty "bool") rfl T.b_bool (by kernel_rfl) rfl) zac))))))))),?_⟩;exact⟨_,Z,_,_,_,_,_,Z,Z,.int i,T.kii,_,Z,iteT ⟨_,Z,_,_,_,_,_,Z,Z,.int i,T.kib,_,Z,h⟩⟩
theorem zzg(F:FunD K "_law_is_number" "_law_is_number" zde .none f fd)(c_Whole:Cal P w K mg base CX0 1 "_law_whole" ["_law_found"] [] zk5)(c_Gcd:Cal P w K mg base CX0 1 "_law_gcd" ["_law_one_here","_law_other"] [] zo6):FnOk P w K mg base CX0 2 f fd ["_law_p","_law_found"] zxr:=by
 have scIsN:FnScope ["_law_p","_law_found"] ["_law_p","_law_found"] (zah zde):=sM (by decide +kernel);refine F.okN (k:=1) scIsN (by walk_at "v") (λcdv A outer s H vs Q E hr=>?_);walk_at "x";rename_i g_ hg_ F fF n cF v x;rintro⟨rfl,h⟩;subst hg_;refine⟨_,(zad (zba (zap zhw (pv 0) (zaf) (nomark _)) (zae (zan (zih (pe_c c_Whole hr zar .nil ((zaa (pv 1) zac))) (zmd (zs8 zh4 zh4 (zaf) (pv 1) (pv 0)))))) zav)
  (zad (zba (PW.pt (zfk (zch (zb5 (zau (zb2 (K:=K) rfl) rfl T.b_isinstance (by kernel_rfl) ((zaa (pv 1) (zaa (zf2 (v:=.ty "tuple") rfl T.b_tuple (by kernel_rfl) rfl) zac)))))) (zfk (zap zkn (zau (zbc (K:=K) rfl) rfl T.b_len PySem.boot_len ((zaa (pv 1) zac))) (zaf) (nomark _)) (zfk (zch (zb5 (pe_c c_Whole hr zar .nil ((zaa (zaz (r:=rIxT K) zax (pv 1) (zaf) (λ_ _=>Z)) zac))))) (zfm (zch (zb5 (pe_c c_Whole hr zar .nil ((zaa (zaz (r:=rIxT K) zax (pv 1) (zaf) (λ_ _=>Z)) zac)))))))))) (zae (zan (zd7))) zav)
  (zae (zan (zih (zdb zkn (zaz (r:=rIxT K) zax (pv 1) (zaf) (λ_ _=>Z)) (zaf) (nomark _)) (zih (zdb zhw (zaz (r:=rIxT K) zax (pv 1) (zaf) (λ_ _=>Z)) (zaf) (nomark _)) (zmd (zdb zdq (pe_c c_Gcd hr zar .nil ((zaa (zaz (r:=rIxT K) zax (pv 1) (zaf) (λ_ _=>Z)) (zaa (zaz (r:=rIxT K) zax (pv 1) (zaf) (λ_ _=>Z)) zac)))) (zaf) (nomark _))))))))),?_⟩
 obtain⟨n2,hv,x0,k⟩:=h;walk_at "rd";refine cD (λc=>?_) (λc=>?_)
 ·have n0:n≠0:=by omega
  obtain⟨a,rfl,a0,a1,ea⟩:=(zc5 n0).mp hv;have az:a≠0:=by rintro rfl;rw[zb8]at ea;exact x0 ea
  refine⟨_,Z,a,Z,_,Z,iteT ⟨_,Z,_,_,Z,Z,_,Z,?_⟩⟩;rw[Yo (show (0:Int)<a by omega)];refine iteT ⟨_,Z,_,_,Z,Z,?_⟩;show Q (.bl (decide (a<n))) H;rw[Yo a1];exact k
 ·obtain rfl:=zlq n2 c;obtain⟨r,p,q,rfl,hr0,q1,g1,e1⟩:=rep_0.mp hv;have pz:p≠0:=by
   rintro rfl;rw[zb8]at e1;have nz:ic (F:=F) q≠0:=zfr (by omega);apply x0;grind
  refine⟨_,Z,_,_,_,_,_,Z,Z,.tup hr0,T.ktt,_,Z,iteF ?_⟩;refine⟨_,Z,r,_,Z,.inr (SqT.of hr0),Z,_,Z,zsq rfl ?_⟩;refine⟨_,Z,r,_,_,_,Z,Z,SqT.of hr0,atI0,p,Z,_,Z,iteF ?_⟩;refine⟨_,Z,r,_,_,_,Z,Z,SqT.of hr0,atI1,q,Z,_,Z,iteF ?_⟩;refine⟨_,Z,r,_,_,_,Z,Z,SqT.of hr0,atI0,Z,_,Z,?_⟩;rw[show (decide (V.int p=V.int 0))=false from by rw[zjl];exact Yw pz];refine iteT ⟨_,Z,r,_,_,_,Z,Z,SqT.of hr0,atI1,_,_,Z,Z,_,Z,?_⟩;rw[Yo (show (0:Int)<q by omega)];refine iteT ⟨_,Z,r,_,_,_,Z,Z,SqT.of hr0,atI0,_,Z,r,_,_,_,Z,Z,SqT.of hr0,atI1,p,q,Z,by omega,λz=>by omega,Z,?_⟩;rw[g1];exact k
theorem zyv(F:FunD K "_law_is_poly" "_law_is_poly" zd1 .none f fd)(c_IsN:Cal P w K mg base CX0 2 "_law_is_number" ["_law_p","_law_found"] [] zxr)(c_Whole:Cal P w K mg base CX0 1 "_law_whole" ["_law_found"] [] zk5):FnOk P w K mg base CX0 3 f fd ["_law_p","_law_many","_law_found"] zw6:=by
 have scIsP:FnScope ["_law_p","_law_many","_law_found","_law_term","_law_number"] ["_law_p","_law_many","_law_found"] (zah zd1):=sM (by decide +kernel);refine F.okN (k:=2) scIsP (by walk_at "v") (λcdv A outer s H vs Q E hr=>?_);walk_at "x";rename_i g_ hg_ F fF n cF m d kvs φ;rintro⟨rfl,h⟩;subst hg_;refine⟨_,(zad (zba (zch (zb5 (zau (zb2 (K:=K) rfl) rfl T.b_isinstance (by kernel_rfl) ((zaa (pv 2) (zaa (zf2 (v:=.ty "dict") rfl T.b_dict (by kernel_rfl) rfl) zac)))))) (zae (zan (zd7))) zav)
  (zad (zii (zdt PassesOwn.never rfl (zf9 (pv 2)) (zhz rfl (zbw (zbb (i:=3) scIsP.nd rfl (Or.inl rfl)) (zbw (zbb (i:=4) scIsP.nd rfl (Or.inl rfl)) zfz))) (zad (zba (PW.pt (zfk (zch (zb5 (zau (zb2 (K:=K) rfl) rfl T.b_isinstance (by kernel_rfl) ((zaa (pv 3) (zaa (zf2 (v:=.ty "tuple") rfl T.b_tuple (by kernel_rfl) rfl) zac)))))) (zfk (zap zkn (zau (zbc (K:=K) rfl) rfl T.b_len PySem.boot_len ((zaa (pv 3) zac))) (pv 1) (nomark _)) (zfm (zch (zb5 (pe_c c_IsN hr zar .nil ((zaa (pv 0) (zaa (pv 4) zac)))))))))) (zae (zan (zd7))) zav)
  (zae (zba (zap (zuf hr.units) (zbk (N:=["_law_power"]) (Blk.plain (by decide +kernel) (by decide +kernel) rfl (by decide +kernel) zdh) rfl (zw2 (K:=K) rfl (pv 3)) (λC0 s0 H0 fp0=>zcb (i:=0) zdh rfl rfl) (λC0 s0 H0 fp0=>zlm (PW.pt (zfk (zch (zb5 (pe_c c_Whole hr zar .nil ((zaa (pv 0) zac))))) (zfm (zap zh4 (pv 0) (zaf) (nomark _)))))) (λC0 s0 H0 fp0=>pv 0)) (zeu (zac)) (nomark _)) (zae (zan (zd7))) zav)))))
  (zae (zan (zd7))))),?_⟩
 obtain⟨n2,m4,hd,pf,k⟩:=h;refine⟨_,Z,_,_,_,_,_,Z,Z,.dT hd,T.kdd,_,Z,iteF ?_⟩;refine⟨_,Z,d,kvs,Z,.inl hd,λo=>?_⟩;refine ze8 (λi σ H'=>(∃v3 v4,σ = [some (.int n),some (.int m),some (.ref d),v3,v4])/\FzD H' d o kvs/\Kp [d] H H') ⟨⟨none,none,Z⟩,zab,Kp.upd (by simp)⟩ (λi σ H' h=>h.2.1) ?_ ?_
 ·rintro i kx v σ H2 p b hk ⟨⟨v3,v4,rfl⟩,hz,kp⟩ hp hb;obtain⟨t,rfl,t0,ht,iv,nv⟩:=pf.ix hk;have fx:Fix H H2:=kp.fix λa ha ob hob=>by
   rw[Yq.mp ha,hd]at hob;cases hob;exact .inl ⟨_,Z⟩
  refine⟨p,_,Z,SqT.of zab,Z,_,_,Z,_,_,Z,Z,?_⟩;have e3:Same H2 (upd H2 p (.tup [.ref b,v])):=Same.upd hp;generalize upd H2 p (HO.tup [V.ref b,v])=H3 at e3;have hb3:=e3 _ _ hb;rw[zeq]at hb3;have tl:(t.map V.int).length=m:=by rw[Yd,t0.len]
  refine⟨_,Z,_,_,_,_,_,Z,Z,.tup hb3,T.ktt,_,Z,iteF ?_⟩;refine⟨_,Z,b,_,Z,.inr (SqT.of hb3),_,Z,Z,_,Z,?_⟩;rw[tl];refine zsq rfl ?_;refine⟨_,Z,_,Z,F,fF,n,cF,v,φ t,Z,n2,iv.fix (fx.tr (.of e3)),nv,_,Z,iteF ?_⟩;show tComp _ _ _ _ _ _ _ _;refine zcn (J:=Itt K b) (H1:=H3) (zr2 (SqT.of hb3)) (by rw[tl];omega) ?_ (λσ=>∃v,σ = [v]) (λ_=>false) (λi=>.int 0) ⟨none,Z⟩ ?_ λD H4 e4 hL=>?_
  ·exact λR hR=>⟨_,Z,b,Z,⟨_,SqT.of hb3⟩,hR⟩
  ·rintro i v σ' H4 hi ⟨z,rfl⟩ e4 hv Ny Nn hy hn;dsimp only[za0];rw[Ym]at hv
   cases ha:t[i]? with
   | none=>rw[ha]at hv;cases hv
   | some a=>
    rw[ha]at hv;injection hv with hv
    subst hv;refine⟨_,Z,a,Z,_,Z,iteF ⟨_,Z,_,_,Z,Z,_,Z,?_⟩⟩;rw[Yw (show ¬a<0 by have:=t0.mem a (Yx ha);omega)];exact iteF (hn _ _ ⟨_,Z⟩ (Same.refl _) rfl)
  rw[List.filter_eq_nil_iff.mpr (λ_ _=>by simp)]at hL;refine⟨(by show 0<=sizeLine;decide),λD2 hD2=>?_⟩;have e5:Same H4 (upd H4 D2 (.lst [])):=Same.upd hD2;refine⟨.list [],.list [],.lst (SqL.of (e5 _ _ hL)) .nil,.lst (SqL.of zab) .nil,Z,Z,_,Z,iteF ?_⟩;have g5:=(e3.trans e4).trans e5;exact⟨⟨_,_,Z⟩,g5 _ _ hz,kp.tr (.of g5)⟩
 ·rintro σ H2 ⟨⟨v3,v4,rfl⟩,hz,kp⟩;refine .inr ⟨d,o,_,hz,λo' w' z=>?_,?_⟩
  ·have z':H d=some (.frz o' w'):=z;rw[hd]at z';cases z'
  refine k _ λb ob hb=>?_
  by_cases be:b=d
  ·subst be;rw[zab,<- hd];exact hb
  ·rw[zai be];exact kp _ _ hb (by simp[be])
theorem zyk(F:FunD K "_law_are_polys" "_law_are_polys" zdd .none f fd)(c_IsP:Cal P w K mg base CX0 3 "_law_is_poly" ["_law_p","_law_many","_law_found"] [] zw6):FnOk P w K mg base CX0 4 f fd ["_law_p","_law_many","_law_count","_law_found"] zyt:=by
 have scArP:FnScope ["_law_p","_law_many","_law_count","_law_found"] ["_law_p","_law_many","_law_count","_law_found"] (zah zdd):=sM (by decide +kernel);refine F.okN (k:=3) scArP (by walk_at "v") (λcdv A outer s H vs Q E hr=>?_);walk_at "x";rename_i g_ hg_ F fF n cF m l ds q;rintro⟨rfl,h⟩;subst hg_;refine⟨_,(zad (zba (PW.pt (zfk (zch (zb5 (zau (zb2 (K:=K) rfl) rfl T.b_isinstance (by kernel_rfl) ((zaa (pv 3) (zaa (zf2 (v:=.ty "list") rfl T.b_list (by kernel_rfl) rfl) zac)))))) (zfm (zap zkn (zau (zbc (K:=K) rfl) rfl T.b_len PySem.boot_len ((zaa (pv 3) zac))) (pv 2) (nomark _))))) (zae (zan (zd7))) zav)
  (zae (zan (zau (zf7 (K:=K) rfl rfl) rfl T.b_all (by kernel_rfl) ((zaa (zbk (N:=["_law_f","_law_many","_law_p"]) (cl:=[("_law_p",s.heap.objs.size+1),("_law_many",s.heap.objs.size+2)]) (mp:=[none,some 1,some 0]) (Blk.of rfl (by decide +kernel) rfl (by decide +kernel) zb6 (zbe rfl (zbe rfl zc2)) (zh3 (fs:=["_law_p","_law_many"]) rfl (by decide +kernel)) rfl (zb1 (zbd rfl (.inl rfl) rfl (zbd rfl (.inl rfl) rfl zc0)))) rfl (zce (K:=K) rfl (pv 3)) (λC0 s0 H0 fp0=>zcb (i:=0) zb6 rfl rfl) (λC0 s0 H0 fp0=>zbj) (λC0 s0 H0 fp0=>pe_c c_IsP hr zar .nil ((zaa (pv 2) (zaa (pv 1) (zaa (pv 0) zac)))))) zac)))))),?_⟩
 obtain⟨n2,m4,hl,qt,k⟩:=h;refine⟨_,Z,_,_,_,_,_,Z,Z,.lst qt.at_,T.kll,_,Z,iteF ?_⟩;refine⟨_,Z,l,_,Z,.inl (SqL.of qt.at_),_,Z,Z,_,Z,?_⟩;rw[Yd];refine zsq rfl ?_;show tComp _ _ _ _ _ _ _ _;refine zcn (J:=Itl K l) (H1:=H) (zcl (SqL.of qt.at_)) (by rw[Yd];exact hl) ?_ (λσ=>∃v,σ = [v,some (.int m),some (.int n)]) (λ_=>true) (λi=>.bl true) ⟨none,Z⟩ ?_ λD H4 e4 hL=>?_
 ·exact λR hR=>⟨_,Z,l,Z,⟨_,SqL.of qt.at_⟩,hR⟩
 ·rintro i v σ' H4 hi ⟨z,rfl⟩ e4 hv Ny Nn hy hn;rw[Ym]at hv
  cases ha:ds[i]? with
  | none=>rw[ha]at hv;cases hv
  | some a=>
   rw[ha]at hv;injection hv with hv
   subst hv;obtain⟨kvs,h1,h2⟩:=qt.row i a ha;unfold tYes;dsimp only[za0];rw[Yl rfl];exact⟨_,Z,_,Z,_,Z,F,fF,n,cF,m,a,kvs,q i,Z,n2,m4,e4 _ _ h1,h2.same e4,λH' e=>hy _ _ ⟨_,Z⟩ e rfl⟩
 rw[Yu.mpr (λ_ _=>Z)]at hL;refine⟨D,(List.range (ds.map V.ref).length).map λ_=>true,Z,SqL.of (by rw[hL,Ji];rfl),?_⟩;have ea:((List.range (ds.map V.ref).length).map λ_=>true).all id=true:=by simp
 rw[ea];exact k _ e4
theorem zwi(F:FunD K "_law_field" "_law_field" zez .none f fd)(k_FracInit:Mak P w K mg base CX0 2 "Fractions" zag ["self"] [] (zh6 zag))(k_RestsInit:Mak P w K mg base (CXe P w) 2 "Rests" zao ["self","prime"] [] (zn1 zao zct)):FnOk P w K mg base CX0 4 f fd ["_law_p"] (zt3 zag zao):=by
 have scLFld:FnScope ["_law_p"] ["_law_p"] (zah zez):=sM (by decide +kernel);refine F.okN (k:=3) scLFld (by walk_at "v") (λcdv A outer s H vs Q E hr=>?_);walk_at "x";rename_i g_ hg_ n;rintro⟨rfl,h⟩;subst hg_;refine⟨_,(zad (zba (zap zdq (pv 0) (zaf) (nomark _)) (zae (zan (zz0 k_FracInit hr zar .nil))) zav)
  (zae (zan (zo2 k_RestsInit hr znh .nil ((zaa (pv 0) zac)))))),?_⟩
 obtain⟨n2,n1,k⟩:=h;walk_at "rd";refine cEq (λc=>?_) (λc=>?_)
 ·subst c;intro x dx nx ndx ne;refine⟨x,dx,Z,zab,Z,?_⟩;refine k x _ (λb o e=>?_) ?_
  ·rw[zai (zam e nx),zai (zam e nx),zai (zam e ndx)];exact e
  ·unfold AtN;rw[Yl rfl];exact⟨dx,zab⟩
 ·have hp:Pr n:=n2.resolve_left c;refine⟨_,Z,λx dx nx ndx ne=>?_⟩;refine⟨x,dx,n,Z,zab,.inl ⟨n1,zyi hp,Z,?_⟩⟩;refine k x _ (λb o e=>?_) ?_
  ·rw[zai (zam e nx),zai (zam e nx),zai (zam e ndx)];exact e
  ·unfold AtN;rw[Yh c];exact⟨dx,zab,hp,n1⟩
theorem zvf(F:FunD K "_law_order" "_law_order" zew .none f fd)(k_WInit:Mak P w K mg base (CXe P w) 1 "Weights" zaj ["self","weights"] [] (zo0 K zaj zcs)):FnOk P w K mg base CX0 3 f fd ["_law_kind","_law_weights_here"] (zoq zas zal zat zaj):=by
 have scLOrd:FnScope ["_law_kind","_law_weights_here"] ["_law_kind","_law_weights_here"] (zah zew):=sM (by decide +kernel);refine F.okN (k:=2) scLOrd (by walk_at "v") (λcdv A outer s H vs Q E hr=>?_);walk_at "x";rename_i g_ hg_ l kd ws;rintro⟨rfl,h⟩;subst hg_;refine⟨_,(zad (zba (zap zdq (pv 0) (zaf) (nomark _)) (zae (zan (zlj T.n0_Degrees T.mg_Degrees))) zav)
  (zad (zba (zap zdq (pv 0) (zaf) (nomark _)) (zae (zan (zlj T.n0_Tails T.mg_Tails))) zav)
  (zad (zba (zap zdq (pv 0) (zaf) (nomark _)) (zae (zan (zo2 k_WInit hr znh .nil ((zaa (za4 (znd (K:=K) rfl) rfl T.b_list (by kernel_rfl) ((zaa (pv 1) zac))) zac))))) zav)
  (zae (zan (zlj T.n0_Order T.mg_Order)))))),?_⟩
 obtain⟨k0,k4,hl,hlen,hn,q⟩:=h;have mk:∀{C:Addr} {H:Hp} {p dx:Addr},H p=none->H dx=none->Same H (upd (upd H dx (.own p)) p (.ins C dx [])):=fun{C H p dx} np ndx b o e=>by
  rw[zai (zam e np),zai (zam e ndx)];exact e
 walk_at "rd"
 refine cEq (λc=>?_) (λc=>?_)
 ·intro p dx np ndx ne;exact q p _ (mk np ndx) (by unfold AtK;rw[Yh (by omega),Yl c];exact⟨dx,zab⟩)
 walk_at "rd"
 refine cEq (λc1=>?_) (λc1=>?_)
 ·intro p dx np ndx ne;exact q p _ (mk np ndx) (by unfold AtK;rw[Yh (by omega),Yh (by omega),Yl c1];exact⟨dx,zab⟩)
 walk_at "rd"
 refine cEq (λc2=>?_) (λc2=>?_)
 ·refine⟨_,Z,l,_,Z,.inl (SqL.of hl),λm hm=>?_⟩;have e1:Same H (upd H m (HO.lst (ws.map V.int))):=Same.upd hm;intro p dx np ndx ne;have e2:=mk (C:=zaj) np ndx;refine⟨p,dx,m,ws,Z,zab,SqL.of (e2 _ _ zab),hlen,.inl ⟨hn,λwt H' h1 h2 h3=>⟨Z,q p H' (λb o e=>h3 b o (e2 _ _ (e1 _ _ e)) (zam (e1 _ _ e) np)) ?_⟩⟩⟩;unfold AtK;rw[Yh (by omega),Yh (by omega),Yh (by omega)];exact⟨dx,wt,h1,h2⟩
 ·intro p dx np ndx ne;exact q p _ (mk np ndx) (by unfold AtK;rw[Yl (by omega)];exact⟨dx,zab⟩)
theorem zzv(F:FunD K "_law_copies" "_law_copies" zej .none f fd)   : FnOk P w K mg base CX0 1 f fd ["_law_row"] zzw:=by
 have scCop:FnScope ["_law_row"] ["_law_row"] (zah zej):=sM (by decide +kernel);refine F.okN (k:=0) scCop (by walk_at "v") (λcdv A outer s H vs Q E hr=>?_);walk_at "x";rename_i g_ hg_ b ds kvss;rintro⟨rfl,h⟩;subst hg_;refine⟨_,(zae (zan (zbk (N:=["_law_f"]) (Blk.plain (by decide +kernel) (by decide +kernel) rfl (by decide +kernel) zd9) rfl (zce (K:=K) rfl (pv 0)) (λC0 s0 H0 fp0=>zcb (i:=0) zd9 rfl rfl) (λC0 s0 H0 fp0=>zbj) (λC0 s0 H0 fp0=>za4 zgt rfl T.b_dict (by kernel_rfl) ((zaa (pv 0) zac)))))),?_⟩;obtain⟨hb,lk,l10,hrow,k⟩:=h;show tComp _ _ _ _ _ _ _ _;refine zit ⟨_,Z,b,Z,⟨_,SqL.of hb⟩,λD hD=>?_⟩;have e0:Same H (upd H D (.lst [])):=Same.upd hD;refine zqj (zcl (SqL.of hb)) hD (zl _ (by rw[Yd];omega)) (λσ=>∃v,σ = [v]) (λ_=>true) (λi v H'=>∃d,v=.ref d/\H' d=some (.dT (kvss.getD i []))) (λi v H1 H2 e ⟨d,a1,a2⟩=>⟨d,a1,e _ _ a2⟩) (λi v H1 ys ys' hy ⟨d,a1,a2⟩=>⟨d,a1,by rw[zai (zbs a2 hy (by intro z;cases z))];exact a2⟩) ⟨none,Z⟩ ?_ λH9 ys e9 hL hp=>?_
 ·rintro i v σ' H9 hi ⟨z,rfl⟩ e9 hv _ Ny Nn hy hn;rw[Ym]at hv
  cases hd:ds[i]? with
  | none=>rw[hd]at hv;cases hv
  | some d=>
   rw[hd]at hv;injection hv with hv
   subst hv;have li:i<kvss.length:=by rw[<- lk];exact zay hd
   obtain⟨h1,h2⟩:=hrow i d _ hd (Yc li);unfold tYes;dsimp only[za0];rw[Yl rfl];refine⟨_,Z,d,_,Z,e9 _ _ h1,h2,λp hp=>?_⟩;exact hy _ _ _ ⟨_,Z⟩ (Same.upd hp) ⟨p,Z,by rw[show kvss.getD i []=kvss[i] by simp[List.getD,li]];exact zab⟩ rfl
 rw[Yu.mpr (λ_ _=>Z)]at hp;obtain⟨dh,eys,ldh,hdh⟩:=zvn hp;rw[Yd]at ldh;rw[eys]at hL;refine k D dh H9 hD e9 hL ldh λi d kvs h1 h2=>?_
 have:=hdh i d h1;rw[show kvss.getD i []=kvs by simp[List.getD,h2]]at this;exact this
theorem zvt(F:FunD K "_law_add" "_law_add" zgp .none f fd)(c_Times:Cal P w K mg base CX0 3 "_law_times" ["_law_p","_law_one_here","_law_other"] [] zml)(c_Plus:Cal P w K mg base CX0 3 "_law_plus" ["_law_p","_law_one_here","_law_other"] [] zqu)(c_NouB:Cal P w K mg base CX0 1 "_law_nought" ["_law_p"] [] (zkx 0)):FnOk P w K mg base CX0 4 f fd ["_law_p","_law_total","_law_number","_law_term","_law_f"] zl8:=by
 have scAddB:FnScope ["_law_p","_law_total","_law_number","_law_term","_law_f","_law_other","_law_worth","_law_spot","_law_found"] ["_law_p","_law_total","_law_number","_law_term","_law_f"] (zah zgp):=sM (by decide +kernel);refine F.okN (k:=3) scAddB (by walk_at "v") (λcdv A outer s H vs Q E hr=>?_);walk_at "x";rename_i g_ hg_ F fF n cF m d v t e kvs fvs φ ψ x l k1 k2 k3;rintro⟨rfl,h⟩;subst hg_;refine⟨_,(zae (zii (zdt PassesOwn.never rfl (zf9 (pv 4)) (zhz rfl (zbw (zbb (i:=5) scAddB.nd rfl (Or.inr rfl)) (zbw (zbb (i:=6) scAddB.nd rfl (Or.inl rfl)) zfz))) (zad (zaw (i:=7) scAddB.nd rfl (Or.inl rfl) (za4 (za9 (K:=K) rfl) rfl T.b_tuple (by kernel_rfl) ((zaa (zbk (N:=["_law_k","_law_other","_law_term"]) (cl:=[("_law_term",s.heap.objs.size+1),("_law_other",s.heap.objs.size+2)]) (mp:=[none,some 5,some 3]) (Blk.of rfl (by decide +kernel) rfl (by decide +kernel) zbt (zbe rfl (zbe rfl zc2)) (zh3 (fs:=["_law_term","_law_other"]) rfl (by decide +kernel)) rfl (zb1 (zbd rfl (.inl rfl) rfl (zbd rfl (.inl rfl) rfl zc0)))) rfl (zbq rfl T.b_range ((zaa (zau (zbc (K:=K) rfl) rfl T.b_len PySem.boot_len ((zaa (pv 3) zac))) zac))) (λC0 s0 H0 fp0=>zcb (i:=0) zbt rfl rfl) (λC0 s0 H0 fp0=>zbj) (λC0 s0 H0 fp0=>zaq zb4 (zaz (r:=rIxT K) zax (pv 2) (pv 0) (λ_ _=>Z)) (zaz (r:=rIxT K) zax (pv 1) (pv 0) (λ_ _=>Z)))) zac))))
  (zad (zaw (i:=8) scAddB.nd rfl (Or.inl rfl) (pe_c c_Times hr zar .nil ((zaa (pv 0) (zaa (pv 2) (zaa (pv 6) zac))))))
  (zad (zba (zlx (zov (uOne hr) (pv 7) (pv 1))) (zae (zaw (i:=8) scAddB.nd rfl (Or.inl rfl) (pe_c c_Plus hr zar .nil ((zaa (pv 0) (zaa (zi2 (uOne hr) (pv 1) (pv 7) (λ_ _=>Z)) (zaa (pv 8) zac))))))) zav)
  (zad (zfx (uOne hr) (pv 1) (pv 7) (pv 8) rfl)
  (zae (zba (zap (zko hr.units) (pv 8) (pe_c c_NouB hr zar .nil ((zaa (pv 0) zac))) (nomark _)) (zae (zc6 (zll (uOne hr) (pv 1) ((zaa (pv 7) zac))))) zav))))))))),?_⟩
 obtain⟨n2,n9,m4,de,hv,ht,tl,hd,he,pF,pG,hl,lx,lψ,lφ,kk,k⟩:=h;refine⟨_,Z,e,fvs,Z,.inl he,λo=>?_⟩;have ntd:=pG.tnd;have lt:=zd0 fvs;refine ze8 (λi σ H'=>i<=fvs.length/\(∃v5 v6 v7 v8,σ = [some (.int n),some (.ref d),some v,some (.ref t),some (.ref e),v5,v6,v7,v8])/\FzD H' e o fvs/\Kp [d,e] H H'/\∃kv,H' d=some (.dT kv)/\PF n m H' kv (λu=>φ u+x*sh l (cutP ψ ((tms fvs).take i)) u)/\kv.length<=kvs.length+i) ?_ (λi σ H' h=>h.2.2.1) ?_ ?_
 ·refine⟨Y2 _,⟨none,none,none,none,Z⟩,zab,Kp.upd (by simp),kvs,?_,?_,Yi _⟩
  ·rw[zai de];exact hd
  ·refine(pF.fix (zbz he)).congr λt=>?_
   rw[List.take_zero,zjk];unfold sh;split <;> grind
 ·rintro i kx vx σ H2 p b hk ⟨hi,⟨v5,v6,v7,v8,rfl⟩,hz,hk2,kv,hd2,pk,lk⟩ hp hb;obtain⟨y,rfl,y0,hy,iy,ny⟩:=pG.ix hk;have hlt:=zay hk;have hti:=zvy ntd hy;have tk:=zeb hy;have fx:Fix H H2:=hk2.fix λa ha ob hob=>by
   rcases Yj.mp ha with rfl | ha
   ·rw[hd]at hob;cases hob;exact .inl ⟨_,Z⟩
   ·rw[Yq.mp ha,he]at hob;cases hob;exact .inl ⟨_,Z⟩
  refine⟨p,_,Z,SqT.of zab,Z,_,_,Z,_,_,Z,Z,?_⟩;have e3:Same H2 (upd H2 p (.tup [.ref b,vx])):=Same.upd hp;generalize upd H2 p (HO.tup [V.ref b,vx])=H3 at e3;have hb3:=e3 _ _ hb;rw[zeq]at hb3;have fx3:Fix H H3:=fx.tr (.of e3);have ht3:=fx3.tup _ _ ht;dsimp only[za0];show tComp _ _ _ _ _ _ _ _;refine zcz (H1:=H3) (m:Int) (λσ=>∃v,σ = [v,some (.ref b),some (.ref t)]) (λ_=>true) (λi=>.int (l.getD i 0+y.getD i 0)) (by omega) (by omega) ?_ ⟨none,Z⟩ ?_ λD6 H6 e6 hL6=>?_
  ·exact λR hR=>⟨_,Z,t,_,Z,.inr (SqT.of ht3),by rw[Yd,tl.len];exact hR⟩
  ·rintro i σ' H4 hi ⟨z,rfl⟩ e4 Ny Nn hy hn;unfold tYes;dsimp only[za0];rw[Yl rfl];have hi':i<m:=by omega
   rw[Int.zero_add];refine⟨_,Z,_,Z,t,_,_,_,Z,Z,SqT.of (e4 _ _ ht3),zds (by rw[tl.len];exact hi'),_,Z,_,Z,b,_,_,_,Z,Z,SqT.of (e4 _ _ hb3),zds (by rw[y0.len];exact hi'),_,_,Z,Z,?_⟩;exact hy _ _ ⟨_,Z⟩ (Same.refl _) rfl
  rw[Yu.mpr (λ_ _=>Z),Y1,zl4 tl.len y0.len]at hL6;refine⟨D6,_,Z,.inl ⟨SqL.of hL6,λsp hsp=>?_⟩⟩;have e7:Same H6 (upd H6 sp (.tup ((addT l y).map V.int))):=Same.upd hsp;have hs7:(upd H6 sp (HO.tup ((addT l y).map V.int))) sp=some (.tup ((addT l y).map V.int)):=zab;generalize upd H6 sp (HO.tup ((addT l y).map V.int))=H7 at e7 hs7;have g7:=(e3.trans e6).trans e7;have fx7:Fix H H7:=fx.tr (.of g7);dsimp only[za0];refine⟨_,Z,_,Z,_,Z,F,fF,n,cF,v,vx,x,ψ y,k1,k2,Z,n2,n9,hv.fix fx7,iy.fix fx7,lx,lψ y,by omega,λw8 H8 e8 hw8=>?_⟩;dsimp only[za0];have hd8:=e8 _ _ (g7 _ _ hd2);have hs8:=e8 _ _ hs7;have cut0:cutP ψ ((tms fvs).take i) y=0:=zmf hti;have ll:y.length=l.length:=y0.len.trans tl.len.symm;have val0 : φ (addT l y)+x*sh l (cutP ψ ((tms fvs).take i)) (addT l y) = φ (addT l y):=by rw[zs1 ll,cut0];grind
  have pk8:=pk.same (g7.trans e8);refine zev (λσ' H'=>Same H8 H'/\∃v',σ'=[some (.int n),some (.ref d),some v,some (.ref t),some (.ref e),some (.ref b),some vx,some (.ref sp),some v']/\Rep n H' v' (φ (addT l y)+x * ψ y)) ?_ ?_;rotate_left
  ·intro N hN;refine⟨_,Z,_,Z,d,_,Z,DGet.t hd8 (by rw[zeq];exact hs8),_,Z,?_⟩
   cases hval:valV kv (ky (addT l y)) with
   | none=>
    have z:=pk8.out _ hval;rw[val0]at z;refine iteF (hN _ _ ⟨Same.refl _,w8,Z,?_⟩);rw[z,show (0:F)+x * ψ y=x * ψ y by grind];exact hw8
   | some v0=>
    obtain⟨a1,a2⟩:=pk8.val _ v0 hval;rw[val0]at a1;refine iteT ⟨_,Z,_,Z,_,Z,d,v0,Z,?_,_,Z,F,fF,n,cF,v0,w8,φ (addT l y),x * ψ y,k3,k1+k2,Z,n2,n9,a1,hw8,lφ _,lx.mul (lψ y),by omega,λv' H9 e9 hv'=>hN _ _ ⟨e9,v',Z,hv'⟩⟩;have:=DGet.t (k:=ky (addT l y)) hd8 (by rw[zeq];exact hs8);rw[hval]at this;exact this
  rintro σ' H9 ⟨e9,v',rfl,hv'⟩;have g9:=(g7.trans e8).trans e9;have hd9:=e9 _ _ hd8;have hs9:=e9 _ _ hs8;have hz9:FzD H9 e o fvs:=g9 _ _ hz;have hk9:Kp [d,e] H H9:=hk2.tr (.of g9);have pk9:=pk8.same e9;refine⟨_,rfl,_,rfl,_,rfl,d,_,rfl,DPut.t hd9 (by rw[zeq];exact hs9) (by omega),?_⟩;have fxA:=zbz (o:=.dT (putK kv (ky (addT l y)) v')) hd9;have hdA:(upd H9 d (.dT (putK kv (ky (addT l y)) v'))) d=some (.dT (putK kv (ky (addT l y)) v')):=zab;have hzA:FzD (upd H9 d (.dT (putK kv (ky (addT l y)) v'))) e o fvs:=(zai (Jc de)).trans hz9;have hkA:Kp [d,e] H (upd H9 d (.dT (putK kv (ky (addT l y)) v'))):=hk9.tr (Kp.upd (by simp));generalize upd H9 d (HO.dT (putK kv (ky (addT l y)) v'))=HA at fxA hdA hzA hkA;refine⟨_,rfl,_,rfl,F,fF,n,cF,rfl,n2,λu HB eB hu=>?_⟩;rw[zb8]at hu;have hdB:=eB _ _ hdA;have hsB:=eB _ _ (fxA.tup _ _ hs9);obtain⟨dn,z0,rd,rz,s1,s2,eq⟩:=zk3 (K:=K) ((hv'.fix fxA).same eB) hu;refine⟨dn,z0,rd,rz,s1,s2,_,rfl,?_⟩;have lp:=zcy kv (ky (addT l y)) v';rcases eq with⟨z,q⟩ | ⟨z,q⟩
  ·rw[q];refine iteT ?_;refine⟨_,Z,.inr (.inr (.inl ⟨Z,.inr ⟨_,hdB⟩⟩)),_,Z,d,sp,_,ky (addT l y),v',Z,Z,hdB,(by rw[zeq];exact hsB),(by rw[zmc,Yl rfl]),?_⟩;refine⟨hlt,⟨_,_,_,_,Z⟩,(zai (Jc de)).trans (eB _ _ hzA),(hkA.tr (.of eB)).tr (Kp.upd (by simp)),_,zab,?_,?_⟩
   ·rw[tk,<- zkr ll,z,zr4];exact(((pk9.drop _).fix fxA).same eB).fix (zbz hdB)
   ·have:=zja (putK kv (ky (addT l y)) v') (ky (addT l y));omega
  ·rw[q];refine iteF ?_;refine⟨hlt,⟨_,_,_,_,Z⟩,eB _ _ hzA,hkA.tr (.of eB),_,hdB,?_,by omega⟩;rw[tk,<- zkr ll];exact(((pk9.put (T0.add tl y0) hv' z)).fix fxA).same eB
 ·rintro σ H2 ⟨_,⟨v5,v6,v7,v8,rfl⟩,hz,hk2,kv,hd2,pk,lk⟩;rw[<- lt,List.take_length,zi9 λt ht=>pG.tmem.mpr ht]at pk;refine .inr ⟨e,o,_,hz,λo' w' z=>?_,k _ kv (λb ob hb hbd=>?_) ?_ ?_ lk⟩
  ·have z':H e=some (.frz o' w'):=z;rw[he]at z';cases z'
  ·by_cases be:b=e
   ·subst be;rw[zab,<- he];exact hb
   ·rw[zai be];exact hk2 _ _ hb (by simp at hbd;simp[hbd,be])
  ·rw[zai de];exact hd2
  ·exact pk.fix (zf8 (u:=.dT []) hz (.inr (.inr ⟨_,_,Z⟩)))
theorem zzm(F:FunD K "_law_rank" "_law_rank" zf1 .none f fd)   : FnOk P w K mg base CX0 3 f fd ["_law_kind","_law_weights_here","_law_term"] zya:=by
 have scRkB:FnScope ["_law_kind","_law_weights_here","_law_term"] ["_law_kind","_law_weights_here","_law_term"] (zah zf1):=sM (by decide +kernel);refine F.okN (k:=2) scRkB (by walk_at "v") (λcdv A outer s H vs Q E hr=>?_);walk_at "x";rename_i g_ hg_ l t kd ws xs;rintro⟨rfl,h⟩;subst hg_;refine⟨_,(zad (zba (zap zdq (pv 0) (zaf) (nomark _)) (zae (zan (zaq zgv (zca ((zaa (zau (ze4 (K:=K) rfl true rfl) rfl T.b_sum (by kernel_rfl) ((zaa (pv 2) zac))) zac))) (pv 2)))) zav)
  (zad (zba (zap zdq (pv 0) (zaf) (nomark _)) (zae (zan (zaq zgv (zca ((zaa (zau (ze4 (K:=K) rfl true rfl) rfl T.b_sum (by kernel_rfl) ((zaa (pv 2) zac))) zac))) (za4 (za9 (K:=K) rfl) rfl T.b_tuple (by kernel_rfl) ((zaa (zbk (N:=["_law_power"]) (Blk.plain (by decide +kernel) (by decide +kernel) rfl (by decide +kernel) zdh) rfl (znx (K:=K) rfl rfl T.b_reversed ((zaa (pv 2) zac))) (λC0 s0 H0 fp0=>zcb (i:=0) zdh rfl rfl) (λC0 s0 H0 fp0=>zbj) (λC0 s0 H0 fp0=>zng zij (pv 0))) zac)))))) zav)
  (zad (zba (zap zdq (pv 0) (zaf) (nomark _)) (zae (zan (zaq zgv (zca ((zaa (zau (ze4 (K:=K) rfl false rfl) rfl T.b_sum (by kernel_rfl) ((zaa (zbk (N:=["_law_k","_law_term","_law_weights_here"]) (cl:=[("_law_weights_here",s.heap.objs.size+1),("_law_term",s.heap.objs.size+2)]) (mp:=[none,some 2,some 1]) (Blk.of rfl (by decide +kernel) rfl (by decide +kernel) zbg (zbe rfl (zbe rfl zc2)) (zh3 (fs:=["_law_weights_here","_law_term"]) rfl (by decide +kernel)) rfl (zb1 (zbd rfl (.inl rfl) rfl (zbd rfl (.inl rfl) rfl zc0)))) rfl (zbq rfl T.b_range ((zaa (zau (zbc (K:=K) rfl) rfl T.b_len PySem.boot_len ((zaa (pv 2) zac))) zac))) (λC0 s0 H0 fp0=>zcb (i:=0) zbg rfl rfl) (λC0 s0 H0 fp0=>zbj) (λC0 s0 H0 fp0=>zaq zpq (zaz (r:=rIxL K) zb9 (pv 2) (pv 0) (λ_ _=>Z)) (zaz (r:=rIxT K) zax (pv 1) (pv 0) (λ_ _=>Z)))) zac))) zac))) (pv 2)))) zav)
  (zae (zan (pv 2)))))),?_⟩
 obtain⟨k0,k4,hl,lw,wn,wb,ht,px,k⟩:=h;refine⟨_,Z,Z,_,Z,cEq (λc=>?_) (λc=>?_)⟩
 ·refine⟨_,Z,t,xs,Z,SqT.of ht,(by show 1<=sizeLine;decide),λl1 hl1=>?_⟩;have e1:Same H (upd H l1 (HO.tup [V.int xs.sum])):=Same.upd hl1;refine⟨_,Z,?_⟩;refine⟨l1,t,_,_,Z,Z,SqT.of (zab),SqT.of (e1 _ _ ht),by simp,by simp;exact Yr (Nat.add_le_add_left px.len 1) (by rw[sizeLine_eq];decide),λz=>?_,λ_ p hp=>?_⟩
  ·exact absurd (List.map_eq_nil_iff.mp z) px.ne
  ·refine k p _ (e1.updR (e1.free hp)) ?_;rw[zab];unfold rkk;rw[Yh (by omega),Yh (by omega),Yl c];rfl
 refine⟨_,Z,Z,_,Z,cEq (λc1=>?_) (λc1=>?_)⟩
 ·refine⟨_,Z,t,xs,Z,SqT.of ht,(by show 1<=sizeLine;decide),λl1 hl1=>?_⟩;have e1:Same H (upd H l1 (HO.tup [V.int xs.sum])):=Same.upd hl1;have ht1:SqT K (upd H l1 (HO.tup [V.int xs.sum])) t (xs.map V.int):=SqT.of (e1 _ _ ht);have lm:(xs.map V.int).length=xs.length:=Yd _;show tComp _ _ _ _ _ _ _ _;refine zcn (J:=Itv K t (xs.map V.int).length) (H1:=upd H l1 (HO.tup [V.int xs.sum])) (zm3 ht1) (by rw[lm];exact Yr px.len (by decide)) ?_ (λσ=>σ.length=1) (λ_=>true) (λi=>.int (-(xs.getD (xs.length-1-i) 0))) rfl ?_ λD H' e hL=>?_
  ·exact λR hR=>⟨_,Z,t,_,Z,ht1,hR⟩
  ·rintro i x σ' H2 hi hs e hx Ny Nn hy hn;rw[lm]at hx;rw[zdn hx];match σ',hs with
   | [_],_=>exact⟨_,rfl,_,rfl,hy _ _ rfl (Same.refl _) rfl⟩
  rw[Yu.mpr (λ_ _=>Z),lm]at hL;have eL:(List.range xs.length).map (λi=>V.int (-(xs.getD (xs.length-1-i) 0)))=(xs.reverse.map λx => -x).map V.int:=by
   rw[<- zmo xs λx => -x,Ji];rfl
  rw[eL]at hL;refine⟨D,_,Z,.inl ⟨SqL.of hL,λm hm=>?_⟩⟩;have e2:Same H' (upd H' m (HO.tup ((xs.reverse.map λx => -x).map V.int))):=Same.upd hm;have e3:=(e1.trans e).trans e2;refine⟨l1,m,_,_,Z,Z,SqT.of (e2 _ _ (e _ _ zab)),SqT.of zab,by simp,by simp;exact Yr (Nat.add_le_add_left px.len 1) (by rw[sizeLine_eq];decide),λz=>?_,λ_ p hp=>?_⟩
  ·exact absurd (by simpa using z) px.ne
  ·refine k p _ (e3.updR (e3.free hp)) ?_;rw[zab];unfold rkk;rw[Yh (by omega),Yh (by omega),Yh (by omega)];rfl
 refine⟨_,Z,Z,_,Z,cEq (λc2=>?_) (λc2=>?_)⟩
 ·show tComp _ _ _ _ _ _ _ _;have lx:xs.length<=1000:=Yr px.len (by decide);refine zcz (H1:=H) (xs.length:Int) (λσ=>∃v,σ = [v,some (.ref t),some (.ref l)]) (λ_=>true) (λi=>.int (ws.getD i 0*xs.getD i 0)) (by omega) (by omega) ?_ ⟨none,Z⟩ ?_ λD H' e hL=>?_
  ·exact λR hR=>⟨_,Z,t,_,Z,.inr (SqT.of ht),by rw[Yd];exact hR⟩
  ·rintro i σ' H2 hi ⟨z,rfl⟩ e Ny Nn hy hn;unfold tYes;dsimp only[za0];rw[Yl rfl];rw[Int.zero_add];have q:=hy [some (.int (i:Int)),some (.ref t),some (.ref l)] H2 ⟨_,rfl⟩ (Same.refl _) rfl;exact⟨_,rfl,_,rfl,l,_,_,_,rfl,rfl,SqL.of (e _ _ hl),zds (by omega),_,rfl,_,rfl,t,_,_,_,rfl,rfl,SqT.of (e _ _ ht),zds (by omega),_,_,rfl,rfl,⟨bits wn wb i,bits px.nn px.hi i⟩,q⟩
  rw[Y1,Yu.mpr (λ_ _=>Z)]at hL;have eL:(List.range xs.length).map (λi=>V.int (ws.getD i 0*xs.getD i 0))=(List.zipWith (λa b=>a*b) xs ws).map V.int:=by
   rw[<- zmi lw,Ji];rfl
  rw[eL]at hL;refine⟨D,_,Z,SqL.of hL,(by show 1<=sizeLine;decide),λl1 hl1=>?_⟩;have e1:Same H' (upd H' l1 (HO.tup [V.int (wsum ws xs)])):=Same.upd hl1;have e2:=e.trans e1;refine⟨_,Z,?_⟩;refine⟨l1,t,_,_,Z,Z,SqT.of (zab),SqT.of (e2 _ _ ht),by simp,by simp;exact Yr (Nat.add_le_add_left px.len 1) (by rw[sizeLine_eq];decide),λz=>?_,λ_ p hp=>?_⟩
  ·exact absurd (List.map_eq_nil_iff.mp z) px.ne
  ·refine k p _ (e2.updR (e2.free hp)) ?_;rw[zab];unfold rkk;rw[Yh (by omega),Yl c2];rfl
 ·refine⟨_,Z,k t H (Same.refl _) ?_⟩;unfold rkk;rw[Yl (by omega)];exact ht
theorem zxm(F:FunD K "_law_goes" "_law_goes" zf4 .none f fd)   : FnOk P w K mg base CX0 1 f fd ["_law_one_here","_law_other"] zyg:=by
 have scGoB:FnScope ["_law_one_here","_law_other"] ["_law_one_here","_law_other"] (zah zf4):=sM (by decide +kernel);refine F.okN (k:=0) scGoB (by walk_at "v") (λcdv A outer s H vs Q E hr=>?_);walk_at "x";rename_i g_ hg_ a b xs ys;rintro⟨rfl,h⟩;subst hg_;refine⟨_,(zae (zan (zau (zf7 (K:=K) rfl rfl) rfl T.b_all (by kernel_rfl) ((zaa (zbk (N:=["_law_k","_law_one_here","_law_other"]) (cl:=[("_law_other",s.heap.objs.size+2),("_law_one_here",s.heap.objs.size+1)]) (mp:=[none,some 0,some 1]) (Blk.of rfl (by decide +kernel) rfl (by decide +kernel) zbl (zbe rfl (zbe rfl zc2)) (zh3 (fs:=["_law_other","_law_one_here"]) rfl (by decide +kernel)) rfl (zb1 (zbd rfl (.inl rfl) rfl (zbd rfl (.inl rfl) rfl zc0)))) rfl (zbq rfl T.b_range ((zaa (zau (zbc (K:=K) rfl) rfl T.b_len PySem.boot_len ((zaa (pv 0) zac))) zac))) (λC0 s0 H0 fp0=>zcb (i:=0) zbl rfl rfl) (λC0 s0 H0 fp0=>zbj) (λC0 s0 H0 fp0=>zdb zvs (zaz (r:=rIxT K) zax (pv 1) (pv 0) (λ_ _=>Z)) (zaz (r:=rIxT K) zax (pv 2) (pv 0) (λ_ _=>Z)) (nomark _))) zac))))),?_⟩;obtain⟨ha,hb,he,hl,k⟩:=h;show tComp _ _ _ _ _ _ _ _;refine zcz (H1:=H) (xs.length:Int) (λσ=>∃v,σ = [v,some (.ref a),some (.ref b)]) (λ_=>true) (λi=>.bl (decide (xs.getD i 0<=ys.getD i 0))) (by omega) (by omega) ?_ ⟨none,Z⟩ ?_ λD H' e hL=>?_
 ·exact λR hR=>⟨_,Z,a,_,Z,.inr (SqT.of ha),by rw[Yd];exact hR⟩
 ·rintro i σ' H2 hi ⟨z,rfl⟩ e Ny Nn hy hn;unfold tYes;dsimp only[za0];rw[Yl rfl];rw[Int.zero_add];have q:=hy [some (.int (i:Int)),some (.ref a),some (.ref b)] H2 ⟨_,rfl⟩ (Same.refl _) rfl;exact⟨_,rfl,_,rfl,a,_,_,_,rfl,rfl,SqT.of (e _ _ ha),zds (by omega),_,rfl,_,rfl,b,_,_,_,rfl,rfl,SqT.of (e _ _ hb),zds (by omega),_,_,rfl,rfl,q⟩
 rw[Y1,Yu.mpr (λ_ _=>Z)]at hL;refine⟨D,(List.range xs.length).map λi=>decide (xs.getD i 0<=ys.getD i 0),Z,SqL.of (by rw[hL,Ji];rfl),?_⟩;have e2:((List.range xs.length).map λi=>decide (xs.getD i 0<=ys.getD i 0)).all id=zcw xs ys:=by
  unfold zcw;rw[List.all_map];rfl
 rw[e2];exact k _ e
theorem zr6(F:FunD K "_law_lead" "_law_lead" zcf .none f fd)  {cc Pt:Addr} (hcc:zhj K f=some cc) (hCd:W.CodeHd base cc Pt) (hBd:base.BuiltinsAt mg Pt) (c_RkB:Cal P w K mg base CX0 3 "_law_rank" ["_law_kind","_law_weights_here","_law_term"] [] zya):FnOk P w K mg base CX0 7 f fd ["_law_kind","_law_weights_here","_law_f"] (zoe Pt lpB qlB):=by
 have scLeadB:FnScope ["_law_kind","_law_weights_here","_law_f"] ["_law_kind","_law_weights_here","_law_f"] (zah zcf):=sM (by decide +kernel);refine F.okL hcc (k:=6) scLeadB (by walk_at "v") (λA outer s H vs Q E hr=>?_);walk_at "x";rename_i g_ hg_ l d kd ws m kvs ts;rintro⟨rfl,h⟩;subst hg_;refine⟨_,(zae (zan (zwk (x:="_law_term") (ys:=["_law_kind","_law_weights_here"]) (is:=[0,1]) (cc:=cc) (P:=Pt) (za4 (zfi rfl) rfl T.b_list (by kernel_rfl) (zaa (pv 2) zac)) hr T.b_max rfl hCd hBd rfl (by decide +kernel) (zps rfl) (by decide +kernel) rfl rfl rfl rfl (λ_ _ _ _ _ _=>Z) (ztc rfl) (.cons ⟨Z,Z⟩ (.cons ⟨Z,Z⟩ .nil)) (λq c1 cl s1 H1=>pe_c c_RkB (Room.deeper (k:=4) (Room.in1 (k:=5) hr) _) zar .nil (zaa (pv 1) (zaa (pv 2) (zaa (pv 0) zac))))))),?_⟩;obtain⟨k0,k4,hl,lw,wn,wb,m1,m4,hd,ek,ne,tok,hT,k⟩:=h;refine⟨_,Z,d,kvs,Z,.inl hd,λq as hq la hi=>?_⟩;have e1:Same H (upd H q (.lst (as.map V.ref))):=Same.upd hq;have hq1:(upd H q (HO.lst (as.map V.ref))) q=some (.lst (as.map V.ref)):=zab;have hp:=pimp (λ_ _ h=>Trm.same e1 h) (tms_list (m:=m) (l:=q) ek la hi);generalize upd H q (HO.lst (as.map V.ref))=H1 at e1 hq1 hp ⊢;have hT1:Tb Pt lpB qlB H1:=zjg hT e1;refine⟨q,as.map V.ref,[.int kd,.ref l],Z,hq1,.cons rfl (.cons rfl .nil),hT1,λc' H2 k2 hP2 hc2 cP=>?_⟩;have nP:∀{b:Addr} {o:HO},H1 b=some o->(∀ps,o≠.tbl ps)->b≠Pt:=fun{b o} hb no=>by
  rcases hT1 with z | ⟨_,_,z,_⟩
  ·exact zbs hb z (no _)
  ·exact zbs hb z (no _)
 have hp2:Paired (Trm H2) ts (as.map V.ref):=pimp (λ_ _ ⟨r,a1,a2⟩=>⟨r,a1,k2 _ _ a2 (nP a2 (by intro ps z;cases z))⟩) hp;have hl2:=k2 _ _ (e1 _ _ hl) (nP (e1 _ _ hl) (by intro ps z;cases z));have lts:ts.length=as.length:=by
  have:=Jx List.length ek;rw[Yd,Yd]at this;omega
 refine zpu (rk:=rkk kd ws) (Pw:=λxs=>Pws xs/\xs.length=m) (H:=H2) ?_ ts (as.map V.ref) (k2 _ _ hq1 (nP hq1 (by intro ps z;cases z))) hp2 (λt ht=>⟨zpe (tok t ht).1 m1 m4 (tok t ht).2,(tok t ht).1.len⟩) (λz=>ne (Ja.mp (by have:=Jx List.length z;simp at this;rw[lts,this];rfl))) λH' x v e' hm hmax=>?_
 ·intro H3 r xs Q3 e3 hr ⟨px,lx⟩ kk;exact⟨e3 _ _ hc2,_,Z,_,Z,_,Z,l,r,kd,ws,xs,Z,k0,k4,e3 _ _ hl2,by rw[lx,lw],wn,wb,hr,px,kk⟩
 ·obtain⟨a,rfl,ha⟩:=pz hp2 _ hm;have hxm:=(List.of_mem_zip hm).1;have O:=zog kd wn m;refine k a H' x hxm (λu hu=>?_) (λb o hb nb=>e' _ _ (k2 _ _ (e1 _ _ hb) nb)) (.inr ⟨c',cP,e' _ _ hP2,e' _ _ hc2⟩) (e' _ _ ha);obtain⟨v',hv'⟩:=zn5 (l:=ts) (l':=as.map V.ref) (by rw[Yd,lts]) hu;exact zmg O (tok x hxm).1.len (tok u hu).1.len (hmax _ hv') |>.imp (λe=>e) λe=>e
theorem zy9(F:FunD K "_law_weights" "_law_weights" zd4 .none f fd)   : FnOk P w K mg base CX0 1 f fd ["_law_many","_law_cell"] zzs:=by
 have scWtB:FnScope ["_law_many","_law_cell"] ["_law_many","_law_cell"] (zah zd4):=sM (by decide +kernel);refine F.okN (k:=0) scWtB (by walk_at "v") (λcdv A outer s H vs Q E hr=>?_);walk_at "x";rename_i g_ hg_ m c;rintro⟨rfl,h⟩;subst hg_;refine⟨_,(zad (zba (zap zdq (zaq zbr (pv 1) (zaf)) (zaf) (nomark _)) (zae (zan (zjo (ziu (K:=K) rfl) (zeu ((zaa (zaq zbr (zaq zcv (pv 1) (zaf)) (zaf)) (zaa (zaq zbr (zaq zcv (pv 1) (zaf)) (zaf)) (zaa (zaq zbr (zaq zcv (pv 1) (zaf)) (zaf)) zac))))) zp2 (zin (pv 0))))) zav)
  (zae (zan (zbk (N:=["_law_k","_law_cell"]) (cl:=[("_law_cell",s.heap.objs.size+1)]) (mp:=[none,some 1]) (Blk.of rfl (by decide +kernel) rfl (by decide +kernel) zdl (zbe rfl zc2) (zh3 (fs:=["_law_cell"]) rfl (by decide +kernel)) rfl (zb1 (zbd rfl (.inl rfl) rfl zc0))) rfl (zbq rfl T.b_range ((zaa (pv 0) zac))) (λC0 s0 H0 fp0=>zcb (i:=0) zdl rfl rfl) (λC0 s0 H0 fp0=>zbj) (λC0 s0 H0 fp0=>zaq zbr (zaq zci (zaq zcv (pv 1) (zaf)) (zaq zb4 (zaq zci (pv 0) (pv 0)) (zaf))) (zaq ztx (zaf) (zaf))))))),?_⟩
 obtain⟨m3,c0,c41,k⟩:=h;refine⟨_,Z,_,_,Z,Z,(by show (0:Int)<2;decide),Z,_,Z,cEq (λc1=>?_) (λc1=>?_)⟩
 ·refine⟨_,Z,_,_,Z,Z,⟨by decide,by decide⟩,_,_,Z,Z,(by show (0:Int)<4;decide),_,Z,_,_,Z,Z,⟨by decide,by decide⟩,_,_,Z,Z,(by show (0:Int)<4;decide),_,Z,_,_,Z,Z,⟨by decide,by decide⟩,_,_,Z,Z,(by show (0:Int)<4;decide),(by show 3<=sizeLine;decide),λl hl=>?_⟩;have e1:Same H (upd H l (.lst ([c / 2%4,c / 8%4,c / 32%4].map V.int))):=Same.upd hl;have hl1:(upd H l (HO.lst ([c / 2%4,c / 8%4,c / 32%4].map V.int))) l=some (.lst ([c / 2%4,c / 8%4,c / 32%4].map V.int)):=zab;refine⟨_,Z,m,Z,l,_,Z,SqL.of hl1,λq hq=>?_⟩;rw[zyd,<- List.map_take];refine k q _ _ (e1.trans (Same.upd hq)) zab (by rw[List.length_take];exact Nat.min_eq_left m3) (λx hx=>?_) (λx hx=>?_)
  ·have:=List.mem_of_mem_take hx;simp at this;rcases this with rfl | rfl | rfl <;> omega
  ·have:=List.mem_of_mem_take hx;have h4:x<4:=by
    simp at this
    rcases this with rfl | rfl | rfl <;> omega
   exact Int.lt_of_lt_of_le h4 (by decide)
 ·show tComp _ _ _ _ _ _ _ _;have tt:=z0s;have cb:(c / 2).natAbs<2^20000:=Yf (show (c / 2).natAbs<2^137 by
   have:(10:Int)^41<2^137:=by decide
   have h2:c<2^137:=Int.lt_trans c41 this;omega) (Yv (by decide) (by decide))
  refine zcz (H1:=H) (m:Int) (λσ=>∃v,σ = [v,some (.int c)]) (λ_=>true) (λi=>.int (c / 2*((i:Int)*i+48271)%10^Int.toNat 30)) (by omega) (by omega) ?_ ⟨none,Z⟩ ?_ λD H' e hL=>?_
  ·exact λR hR=>⟨_,Z,hR⟩
  ·rintro i σ' H2 hi ⟨z,rfl⟩ e Ny Nn hy hn;unfold tYes;dsimp only[za0];rw[Yl rfl];rw[Int.zero_add];have q:=hy [some (.int (i:Int)),some (.int c)] H2 ⟨_,rfl⟩ (Same.refl _) rfl;have ib:(i:Int).natAbs<2^20000:=Yf (show (i:Int).natAbs<2^2 by omega) (Yv (by decide) (by decide));have i3:i<=2:=by omega
   have ii:(i:Int)*i<=4:=by
    have:i*i<=2*2:=Nat.mul_le_mul i3 i3;exact_mod_cast this
   have ii0:0<=(i:Int)*i:=Int.mul_nonneg (by omega) (by omega);have ib2:((i:Int)*i+48271).natAbs<2^20000:=Yf (show ((i:Int)*i+48271).natAbs<2^16 by omega) (Yv (by decide) (by decide));exact⟨_,Z,_,_,Z,Z,⟨by decide,by decide⟩,_,Z,_,Z,_,_,Z,Z,⟨ib,ib⟩,_,_,Z,Z,_,_,Z,Z,⟨cb,ib2⟩,_,_,Z,Z,⟨by decide,by decide,by decide⟩,_,_,Z,Z,tt.1,q⟩
  rw[Y1,Yu.mpr (λ_ _=>Z)]at hL;refine k D ((List.range m).map λi:Nat=>c / 2*((i:Int)*i+48271)%10^Int.toNat 30) H' e (by rw[Ji];exact hL) (by simp) (λx hx=>?_) (λx hx=>?_)
  ·obtain⟨i,_,rfl⟩:=Jj.mp hx;exact Jn _ (by omega)
  ·obtain⟨i,_,rfl⟩:=Jj.mp hx;exact Int.lt_trans (Jd _ tt.1) tt.2
theorem zwp(F:FunD K "_law_sum_up" "_law_sum_up" zef .none f fd)(c_AddB:Cal P w K mg base CX0 4 "_law_add" ["_law_p","_law_total","_law_number","_law_term","_law_f"] [] zl8):FnOk P w K mg base CX0 5 f fd ["_law_p","_law_many","_law_multiples","_law_row"] ztw:=by
 have scSumB:FnScope ["_law_p","_law_many","_law_multiples","_law_row","_law_total","_law_k","_law_term","_law_number"] ["_law_p","_law_many","_law_multiples","_law_row"] (zah zef):=sM (by decide +kernel);refine F.okN (k:=4) scSumB (by walk_at "v") (λcdv A outer s H vs Q E hr=>?_);walk_at "x";rename_i g_ hg_ F fF n cF m ql qds q b ds kvss gs D E A B Lq Lg k1 k2 k3;rintro⟨rfl,h⟩;subst hg_;refine⟨_,(zad (zaw (i:=4) scSumB.nd rfl (Or.inl rfl) (zcd))
  (zad (zdt PassesOwn.never rfl (zbq rfl T.b_range ((zaa (zau (zbc (K:=K) rfl) rfl T.b_len PySem.boot_len ((zaa (pv 3) zac))) zac))) (zbb (i:=5) scSumB.nd rfl (Or.inl rfl)) (zae (zii (zdt PassesOwn.never rfl (zf9 (zaz (r:=rIxL K) zb9 (pv 2) (pv 5) (λ_ _=>Z))) (zhz rfl (zbw (zbb (i:=6) scSumB.nd rfl (Or.inl rfl)) (zbw (zbb (i:=7) scSumB.nd rfl (Or.inl rfl)) zfz))) (zae (zc6 (pe_c c_AddB hr zar .nil ((zaa (pv 0) (zaa (pv 4) (zaa (pv 7) (zaa (pv 6) (zaa (zaz (r:=rIxL K) zb9 (pv 3) (pv 5) (λ_ _=>Z)) zac)))))))))))))
  (zae (zan (pv 4))))),?_⟩
 obtain⟨n2,n9,m4,sh_,k⟩:=h;obtain⟨qt,rwb,ll,dj,d0,e0,qa,gb,lq,lg,b1,b2,b3,b4,b5⟩:=sh_;intro tt ntt;have e1:Same H (upd H tt (.dT [])):=Same.upd ntt;have ht1:(upd H tt (HO.dT [])) tt=some (.dT []):=zab;dsimp only[za0];generalize upd H tt (HO.dT [])=H1 at e1 ht1 ⊢;have nt:∀{b:Addr} {o:HO},H b=some o->b≠tt:=λhb=>zam hb ntt
 refine⟨_,Z,b,_,Z,.inl (SqL.of (e1 _ _ rwb.at_)),_,Z,by omega,by rw[Yd];have:=rwb.b;omega,?_⟩;rw[Yd,Y1];refine ze2 (tb:=λD σ H=>tFor (zt4 (tOp (rIxL K) (tVar 2) (tVar 5))) _ _ (Ends.thw _ D) σ H) (λi σ H'=>i<=ds.length/\(∃v5 v6 v7,σ = [some (.int n),some (.int m),some (.ref ql),some (.ref b),some (.ref tt),v5,v6,v7])/\Kp [tt] H1 H'/\∃kv,H' tt=some (.dT kv)/\PF n m H' kv (λt=>sm (λj=>mul (tms (zfo H qds j)) (q j) (gs j) t) (List.range i))/\IB n (D*E) (i*Lq*(A*B)) (λt=>sm (λj=>mul (tms (zfo H qds j)) (q j) (gs j) t) (List.range i))/\kv.length<=i*Lq*Lg) ?_ ?_ ?_
 ·exact⟨Y2 _,⟨none,none,none,Z⟩,Kp.refl _ _,[],ht1,PF.nil,IB.zero,Y2 _⟩
 ·rintro i σ H2 hi ⟨_,⟨v5,v6,v7,rfl⟩,kp,kv,ht2,pf2,ib2,lk2⟩;have s2:Same H H2:=λa o ha=>kp _ _ (e1 _ _ ha) λz=>nt ha (Yq.mp z)
  have qt2:=qt.keep (.of s2) (λo=>s2 _ o) (λ_ _ o=>s2 _ o);have rw2:=rwb.same s2;have li:i<qds.length:=by omega
  have hqi:qds[i]? = some (qds[i]'li):=Yc _;have mqi:qds[i]'li∈qds:=Jw _;generalize qds[i]'li=dq at hqi mqi;have hdi:ds[i]? = some (ds[i]'hi):=Yc _;have mdi:ds[i]'hi∈ds:=Jw _;generalize ds[i]'hi=dg at hdi mdi;obtain⟨kvq,hq0,pq0⟩:=qt.row i dq hqi;obtain⟨kvg,hg1,hg0,pg0⟩:=rwb.row i dg hdi;have edq:zfo H qds i=kvq:=zke hqi hq0;have lkq:=lq i dq kvq hqi hq0;have lkg:=lg i dg kvg hdi hg0;have qg:dq≠dg:=λz=>dj dq mqi (by rw[z];exact mdi)
  have iL:i*Lq+Lq<=ds.length*Lq:=by rw[<- Nat.succ_mul];exact Y4 _ hi
  have iG:(i*Lq+Lq)*Lg<=ds.length*Lq*Lg:=Y4 _ iL;rw[Int.zero_add];dsimp only[za0];refine⟨_,Z,_,Z,ql,_,_,_,Z,Z,SqL.of qt2.at_,zcu (by rw[Ym,hqi];rfl),dq,kvq,Z,.inl (s2 _ _ hq0),λo=>?_⟩;have tq:tt≠dq:=Jc (nt hq0);refine ze8 (tb:=zx4 _) (λj σ H'=>j<=kvq.length/\(∃v6 v7,σ = [some (.int n),some (.int m),some (.ref ql),some (.ref b),some (.ref tt),some (.int (i:Int)),v6,v7])/\FzD H' dq o kvq/\Kp [tt,dq] H2 H'/\∃kv,H' tt=some (.dT kv)/\PF n m H' kv (λt=>sm (λj=>mul (tms (zfo H qds j)) (q j) (gs j) t) (List.range i)+mul ((tms kvq).take j) (q i) (gs i) t)/\IB n (D*E) ((i*Lq+j)*(A*B)) (λt=>sm (λj=>mul (tms (zfo H qds j)) (q j) (gs j) t) (List.range i)+mul ((tms kvq).take j) (q i) (gs i) t)/\kv.length<=(i*Lq+j)*Lg) ?_ (λi σ H' h=>h.2.2.1) ?_ ?_
  ·refine⟨Y2 _,⟨_,_,Z⟩,zab,Kp.upd (by simp),kv,(zai tq).trans ht2,?_,?_,lk2⟩
   ·refine(pf2.fix (zbz (s2 _ _ hq0))).congr λt=>?_
    rw[List.take_zero];show _=_+0;grind
   ·refine ib2.congr λt=>?_
    rw[List.take_zero];show _=_+0;grind
  ·rintro j kx vx σ H3 p a hk ⟨hj,⟨v6,v7,rfl⟩,hz,kp3,kv3,ht3,pf3,ib3,lk3⟩ hp ha;obtain⟨y,rfl,y0,hy,iy,ny⟩:=pq0.ix hk;have hlt:=zay hk;have tk:=zeb hy;have fx:Fix H2 H3:=kp3.fix λc hc ob hob=>by
    rcases Yj.mp hc with rfl | hc
    ·rw[ht2]at hob;cases hob;exact .inl ⟨_,Z⟩
    ·rw[Yq.mp hc,s2 _ _ hq0]at hob;cases hob;exact .inl ⟨_,Z⟩
   refine⟨p,_,Z,SqT.of zab,Z,_,_,Z,_,_,Z,Z,?_⟩;have e4:Same H3 (upd H3 p (.tup [.ref a,vx])):=Same.upd hp;generalize upd H3 p (HO.tup [V.ref a,vx])=H4 at e4;have ha4:=e4 _ _ ha;rw[zeq]at ha4;have k4:∀b o,H2 b=some o->b≠tt->b≠dq->H4 b=some o:=λb o hb h1 h2=>e4 _ _ (kp3 _ _ hb (by simp[h1,h2]))
   have fx4:Fix H2 H4:=fx.tr (.of e4);have nbq:b≠dq:=zbs rwb.at_ hq0 (by intro z;cases z);have gt:dg≠tt:=nt hg0;have iy4:Rep n H4 vx (q i y):=(iy.same s2).fix fx4;have pg4:PF n m H4 kvg (gs i):=(pg0.same s2).fix fx4;have hg4:H4 dg=some (.dT kvg):=k4 _ _ (s2 _ _ hg0) gt (Jc qg);have hb4:H4 b=some (.lst (ds.map V.ref)):=k4 _ _ rw2.at_ (nt rwb.at_) nbq;have cnt:i*Lq+j+1<=ds.length*Lq:=by omega
   have lkk:kv3.length+kvg.length<sizeLine:=by
    have h1:kv3.length+kvg.length<=(ds.length*Lq+1)*Lg:=by
     have h2:(i*Lq+j)*Lg+Lg<=(ds.length*Lq+1)*Lg:=by rw[<- Nat.succ_mul];exact Y4 _ (by omega)
     omega
    exact Yp h1 b5
   have bM:(i*Lq+j)*(A*B)<2^k3:=Yp (Y4 _ (by omega)) b3.1;have de0:D*E≠0:=λz=>by rcases Int.mul_eq_zero.mp z with z | z;exact d0 z;exact e0 z
   refine⟨_,Z,_,Z,_,Z,_,Z,_,Z,_,Z,b,_,_,_,Z,Z,SqL.of hb4,zcu (by rw[Ym,hdi];rfl),F,fF,n,cF,m,tt,vx,a,dg,kv3,kvg,_,gs i,q i y,y,k1,k2,k3,Z,n2,n9,m4,Jc gt,iy4,ha4,y0,e4 _ _ ht3,hg4,pf3.same e4,pg4,lkk,(qa i).lim d0 b1.1 b1.2 y,(gb i).lim e0 b2.1 b2.2,ib3.lim de0 bM b3.2,b4,λH5 kv5 kp5 ht5 pf5 lk5=>?_⟩;refine⟨hlt,⟨_,_,Z⟩,kp5 _ _ (e4 _ _ hz) (by simp[Ne.symm tq]),λc ob hc hn=>kp5 _ _ (e4 _ _ (kp3 _ _ hc hn)) (λz=>hn (by rw[Yq.mp z];simp)),kv5,ht5,?_,?_,?_⟩
   ·refine pf5.congr λt=>?_
    rw[tk,zmn];grind
   ·have:=ib3.add (x:=q i y) (λz=>let ⟨X,h1,h2⟩:=qa i z y;⟨X,h1,h2⟩) (gb i) y;refine(this.up ?_).congr λt=>?_
    ·rw[<- Nat.succ_mul];exact Yi _
    ·rw[tk,zmn];grind
   ·have:(i*Lq+(j+1))*Lg=(i*Lq+j)*Lg+Lg:=by rw[<- Nat.add_assoc,Nat.succ_mul]
    omega
  ·rintro σ H3 ⟨_,⟨v6,v7,rfl⟩,hz,kp3,kv3,ht3,pf3,ib3,lk3⟩;have et:∀t,sm (λj=>mul (tms (zfo H qds j)) (q j) (gs j) t) (List.range i)+mul ((tms kvq).take kvq.length) (q i) (gs i) t=sm (λj=>mul (tms (zfo H qds j)) (q j) (gs j) t) (List.range (i+1)):=λt=>by
    rw[List.range_succ,zk7,edq,<- zd0 kvq,List.take_length]
   have fz:Fix H3 (upd H3 dq (.dT kvq)):=zf8 (u:=.dT []) hz (.inr (.inr ⟨_,_,Z⟩));refine .inr ⟨dq,o,_,hz,λo' w' z=>?_,⟨hi,⟨_,_,_,Z⟩,λc ob hc hn=>?_,kv3,(zai tq).trans ht3,(pf3.fix fz).congr et,(ib3.up ?_).congr et,?_⟩⟩
   ·have z':H dq=some (.frz o' w'):=z;rw[hq0]at z';cases z'
   ·by_cases cq:c=dq
    ·subst cq;have:=kp _ _ (e1 _ _ hq0) (by simp[Ne.symm tq]);have h1:=e1 _ _ hq0;rw[zab,<- h1,hc]
    ·rw[zai cq];exact kp3 _ _ (kp _ _ hc hn) (by simp at hn;simp[hn,cq])
   ·refine Y4 _ ?_;rw[Nat.succ_mul];omega
   ·refine Yr lk3 (Y4 _ ?_);rw[Nat.succ_mul];omega
 ·rintro σ H2 ⟨_,⟨v5,v6,v7,rfl⟩,kp,kv,ht2,pf2,ib2,lk2⟩;have s2:Same H H2:=λa o ha=>kp _ _ (e1 _ _ ha) λz=>nt ha (Yq.mp z)
  refine⟨_,Z,k tt H2 kv ntt s2 ht2 (λS sn ss=>?_) lk2⟩;have e:∀t,sm (λj=>mul (tms (zfo H qds j)) (q j) (gs j) t) (List.range ds.length)=sm (λj=>mul (S j) (q j) (gs j) t) (List.range ds.length):=λt=>zg9 λj hj=>by
   have lj:j<qds.length:=by rw[ll];exact List.mem_range.mp hj
   obtain⟨kvq,hq0,pq0⟩:=qt.row j _ (Yc lj);rw[zke (Yc lj) hq0,zu1 pq0.tnd (sn j) (λt ht=>pq0.tmem.mpr ht) (ss j)]
  exact⟨pf2.congr e,ib2.congr e⟩
theorem zrh(F:FunD K "_law_some" "_law_some" zfv .none f fd)(c_Norm:Cal P w K mg base CX0 2 "_law_norm" ["_law_p","_law_top","_law_bottom"] [] zjb):FnOk P w K mg base CX0 3 f fd ["_law_p","_law_cell"] zpt:=by
 have scSomeC:FnScope ["_law_p","_law_cell"] ["_law_p","_law_cell"] (zah zfv):=sM (by decide +kernel);refine F.okN (k:=2) scSomeC (by walk_at "v") (λcdv A outer s H vs Q E hr=>?_);walk_at "x";rename_i g_ hg_ F fF n cF c;rintro⟨rfl,h⟩;subst hg_;refine⟨_,(zad (zba (zap zhw (pv 0) (zaf) (nomark _)) (zae (zan (zaq zb4 (zaf) (zaq zbr (pv 1) (zaq zkl (pv 0) (zaf)))))) zav)
  (zae (zan (pe_c c_Norm hr zar .nil ((zaa (zaf) (zaa (zaq zia (zaq zb4 (zaf) (zaq zbr (zaq zcv (pv 1) (zaf)) (zaf))) (zaq zkl (zaf) (zaq zia (zaq zbr (pv 1) (zaf)) (zaf)))) (zaa (zaq zb4 (zaf) (zaq zbr (zaq zcv (pv 1) (zaf)) (zaf))) zac)))))))),?_⟩
 obtain⟨n2,k⟩:=h;walk_at "rd";refine cD (λc0=>?_) (λc0=>?_)
 ·have n0:n≠0:=by omega
  have p2:=(n2.resolve_left n0).1;refine⟨_,Z,_,Z,_,_,Z,Z,_,_,Z,Z,(by show 0<n-1;omega),_,_,Z,Z,?_⟩;have h1:=Jn c (show n-1≠0 by omega);have h2:=Jd c (show 0<n-1 by omega);refine k (ic (1+c%(n-1))) _ H (zr8 (n:=n) λz=>?_) (λz=>absurd z n0) (Same.refl _) ((zc5 n0).mpr ⟨_,Z,by omega,by omega,Z⟩);have z2:=(zr_n n0).mp z;rw[Int.emod_eq_of_lt (by omega) (by omega)]at z2;omega
 ·obtain rfl:=zlq n2 c0;walk_at "rd";obtain⟨t,et,t1,t2⟩:∃t:Int,(1+c / 2%20)*(1-c%2*2)=t/\t≠0/\t.natAbs<=20:=by
   rcases(by omega:c%2=0\/c%2=1) with q | q <;> rw[q]
   ·exact⟨1+c / 2%20,by omega,by omega,by omega⟩
   ·exact⟨-(1+c / 2%20),by omega,by omega,by omega⟩
  have b3:(1+c / 40%3).natAbs<=3:=by omega
  refine⟨F,fF,0,cF,_,_,Z,.inl rfl,λ_=>⟨by omega,Yp b3 (Yf (show 3<2^2 by decide) (Yv (by decide) (by decide)))⟩,λz=>absurd rfl z,λx v H' ex e hv=>?_⟩;rw[et]at ex;refine k x v H' (λz=>?_) (λ_=>?_) e hv
  ·have nz:ic (F:=F) t≠0:=zfr t1;rw[z]at ex;grind
  ·rcases(by omega:1+c / 40%3=1\/1+c / 40%3=2\/1+c / 40%3=3) with q | q | q <;> rw[q]at ex
   ·exact⟨6*t,by rw[za3,<- ex,zfn];grind,by omega⟩
   ·exact⟨3*t,by rw[za3,<- ex,show (6:Int)=3*2 from rfl,za3];grind,by omega⟩
   ·exact⟨2*t,by rw[za3,<- ex,show (6:Int)=2*3 from rfl,za3];grind,by omega⟩
theorem zsl(F:FunD K "_law_polys_by" "_law_polys_by" zdm .none f fd)(c_SomeC:Cal P w K mg base CX0 3 "_law_some" ["_law_p","_law_cell"] [] zpt)(c_OneB:Cal P w K mg base CX0 1 "_law_one" ["_law_p"] [] (zkx 1))(c_AddB:Cal P w K mg base CX0 4 "_law_add" ["_law_p","_law_total","_law_number","_law_term","_law_f"] [] zl8):FnOk P w K mg base CX0 5 f fd ["_law_p","_law_many","_law_count","_law_cells"] (zq0 K):=by
 have scPolyB:FnScope ["_law_p","_law_many","_law_count","_law_cells","_law_row","_law_top","_law_k","_law_cell","_law_term","_law_at"] ["_law_p","_law_many","_law_count","_law_cells"] (zah zdm):=sM (by decide +kernel);refine F.okN (k:=4) scPolyB (by walk_at "v") (λcdv A outer s H vs Q E hr=>?_);walk_at "x";rename_i g_ hg_ F fF n cF m cnt l cs;rintro⟨rfl,h⟩;subst hg_;refine⟨_,(zad (zla (N:=["_law_k"]) (zbb (i:=4) scPolyB.nd rfl (Or.inl rfl)) (Blk.plain (by decide +kernel) (by decide +kernel) rfl (by decide +kernel) zkv) rfl (zbq rfl T.b_range ((zaa (pv 2) zac))) (λC0 s0 H0 fp0=>zcb (i:=0) zkv rfl rfl) (λC0 s0 H0 fp0=>zbj) (λC0 s0 H0 fp0=>zcd))
  (zad (zaw (i:=5) scPolyB.nd rfl (Or.inl rfl) (zaz (r:=rIxL K) zb9 (zeu ((zaa (zaf) (zaa (zaf) (zaa (zaf) zac))))) (zaq zkl (pv 1) (zaf)) (λ_ _=>Z)))
  (zad (zba (zap zdq (pv 0) (zaf) (nomark _)) (zae (zaw (i:=5) scPolyB.nd rfl (Or.inl rfl) (zaz (r:=rIxL K) zb9 (zeu ((zaa (zaf) (zaa (zaf) (zaa (zaf) zac))))) (zaq zkl (pv 1) (zaf)) (λ_ _=>Z)))) zav)
  (zad (zdt PassesOwn.never rfl (zbq rfl T.b_range ((zaa (zau (zbc (K:=K) rfl) rfl T.b_len PySem.boot_len ((zaa (pv 3) zac))) zac))) (zbb (i:=6) scPolyB.nd rfl (Or.inl rfl)) (zad (zaw (i:=7) scPolyB.nd rfl (Or.inl rfl) (zaz (r:=rIxL K) zb9 (pv 3) (pv 6) (λ_ _=>Z)))
  (zad (zaw (i:=8) scPolyB.nd rfl (Or.inl rfl) (zeu (zac)))
  (zad (zdt PassesOwn.never rfl (zbq rfl T.b_range ((zaa (pv 1) zac))) (zbb (i:=9) scPolyB.nd rfl (Or.inl rfl)) (zad (zc6 (ztk PySem.F.plainAttrs_list PySem.F.slot_list_append PySem.F.type_list_append zj8 (pv 8) ((zaa (zaq zbr (pv 7) (zaq zb4 (pv 5) (zaf))) zac))))
  (zae (zaw (i:=7) scPolyB.nd rfl (Or.inl rfl) (zaq zcv (pv 7) (zaq zb4 (pv 5) (zaf)))))))
  (zae (zc6 (pe_c c_AddB hr zar .nil ((zaa (pv 0) (zaa (zaz (r:=rIxL K) zb9 (pv 4) (zaq zbr (pv 6) (pv 2)) (λ_ _=>Z)) (zaa (pe_c c_SomeC hr zar .nil ((zaa (pv 0) (zaa (pv 7) zac)))) (zaa (za4 (za9 (K:=K) rfl) rfl T.b_tuple (by kernel_rfl) ((zaa (pv 8) zac))) (zaa (zry hr.units0 (za4 (za9 (K:=K) rfl) rfl T.b_tuple (by kernel_rfl) ((zaa (zbk (N:=["_law_at"]) (Blk.plain (by decide +kernel) (by decide +kernel) rfl (by decide +kernel) zfg) rfl (zbq rfl T.b_range ((zaa (pv 1) zac))) (λC0 s0 H0 fp0=>zcb (i:=0) zfg rfl rfl) (λC0 s0 H0 fp0=>zbj) (λC0 s0 H0 fp0=>zaf)) zac))) (pe_c c_OneB hr zar .nil ((zaa (pv 0) zac)))) zac)))))))))))))
  (zae (zan (pv 4))))))),?_⟩
 obtain⟨n2,n9,m1,m3,c1,c5,hl,l44,k⟩:=h;refine zks (zgn 0 cnt) (by omega) (λR hR=>⟨_,Z,_,Z,by omega,(by omega),by rw[Y1];exact hR⟩) ⟨_,Z⟩ λD H1 ds hD e1 hL ld nd hd=>?_
 have tp:=zoi n m;dsimp only[za0];refine⟨(by show 3<=sizeLine;decide),λl2 hl2=>?_⟩;have e2:Same H1 (upd H1 l2 (.lst [V.int 9,V.int 3,V.int 1])):=Same.upd hl2;have hl2':(upd H1 l2 (HO.lst [V.int 9,V.int 3,V.int 1])) l2=some (.lst [V.int 9,V.int 3,V.int 1]):=zab;generalize upd H1 l2 (HO.lst [V.int 9,V.int 3,V.int 1])=H2 at e2 hl2' ⊢;obtain⟨tv,etv,etn⟩:∃tv:Int,atI [V.int 9,V.int 3,V.int 1] ((m:Int)-1)=some (.int tv)/\(n≠0->tv=tpB n m):=by
  rcases(by omega:m=1\/m=2\/m=3) with rfl | rfl | rfl
  ·exact⟨9,Z,λz=>by unfold tpB;rw[Yh z];rfl⟩
  ·exact⟨3,Z,λz=>by unfold tpB;rw[Yh z];rfl⟩
  ·exact⟨1,Z,λz=>by unfold tpB;rw[Yh z];rfl⟩
 refine⟨_,Z,_,_,Z,Z,l2,_,_,_,Z,Z,SqL.of hl2',etv,?_⟩;dsimp only[za0];refine zev (λσ H'=>σ = [some (.int n),some (.int m),some (.int cnt),some (.ref l),some (.ref D),some (.int (tpB n m)),none,none,none,none]/\Same H2 H') ?_ λN hN=>?_
 rotate_left
 ·refine⟨_,Z,Z,_,Z,cEq (λc0=>?_) (λc0=>?_)⟩
  ·refine⟨(by show 3<=sizeLine;decide),λl3 hl3=>?_⟩;have e3:Same H2 (upd H2 l3 (.lst [V.int 5,V.int 2,V.int 1])):=Same.upd hl3;have hl3':(upd H2 l3 (HO.lst [V.int 5,V.int 2,V.int 1])) l3=some (.lst [V.int 5,V.int 2,V.int 1]):=zab;have et:atI [V.int 5,V.int 2,V.int 1] ((m:Int)-1)=some (.int (tpB n m)):=by
    unfold tpB;rw[Yl c0];rcases(by omega:m=1\/m=2\/m=3) with rfl | rfl | rfl <;> rfl
   exact⟨_,Z,_,_,Z,Z,l3,_,_,_,Z,Z,SqL.of hl3',et,hN _ _ ⟨Z,e3⟩⟩
  ·rw[etn c0];exact hN _ _ ⟨Z,Same.refl _⟩
 rintro σ0 H3 ⟨rfl,e3⟩;have e13:=e1.trans (e2.trans e3);have g3:=e2.trans e3;refine⟨_,rfl,l,_,rfl,.inl (e13.seq hl),_,rfl,by omega,by rw[Yd];omega,?_⟩;rw[Yd,Y1];have pr0:PRow (F:=F) n m H H3 D ds (λ_ _=>0) 0:=⟨g3 _ _ hL,nd,λd hd'=>⟨(hd d hd').1,(hd d hd').2.2⟩,λi d hi=>⟨[],g3 _ _ (hd d (Yx hi)).2.1,PF.nil,Yi _⟩,λi t z=>absurd rfl z,λi=>IB.zero,λ_ _ _=>rfl⟩;refine ze2 (tb:=tSeq _ _) (λi σ H'=>i<=cs.length/\(∃v6 v7 v8 v9,σ = [some (.int n),some (.int m),some (.int cnt),some (.ref l),some (.ref D),some (.int (tpB n m)),v6,v7,v8,v9])/\Same H H'/\∃gs:Nat->Po F,PRow n m H H' D ds gs i) ?_ ?_ ?_
 ·exact⟨Y2 _,⟨none,none,none,none,Z⟩,e13,_,pr0⟩
 ·rintro i σ H4 hi ⟨_,⟨v6,v7,v8,v9,rfl⟩,e4,gs,pr⟩;have hc:cs[i]? = some (cs[i]'hi):=Yc _;generalize cs[i]'hi=c at hc;rw[Int.zero_add];dsimp only[za0];refine⟨_,rfl,_,rfl,l,_,_,_,rfl,rfl,e4.seq hl,zcu (by rw[Ym,hc];rfl),?_⟩;dsimp only[za0];refine⟨(by show 0<=sizeLine;decide),λlt nlt=>?_⟩;have e5:Same H4 (upd H4 lt (.lst [])):=Same.upd nlt;have hlt5:(upd H4 lt (HO.lst [])) lt=some (.lst (([]:List Int).map V.int)):=zab;dsimp only[za0];generalize upd H4 lt (HO.lst [])=H5 at e5 hlt5 ⊢;refine⟨_,rfl,_,rfl,by omega,by omega,?_⟩;rw[Y1];refine ze2 (tb:=tSeq _ _) (λj σ H'=>j<=m/\∃(xs:List Int) (c':Int) (v9:Option V),xs.length=j/\(∀x∈xs,0<=x/\x<=tpB n m)/\σ = [some (.int n),some (.int m),some (.int cnt),some (.ref l),some (.ref D),some (.int (tpB n m)),some (.int (i:Int)),some (.int c'),some (.ref lt),v9]/\Kp [lt] H5 H'/\H' lt=some (.lst (xs.map V.int))) ?_ ?_ ?_
  ·exact⟨Y2 _,[],c,_,Z,(λx hx=>by cases hx),Z,Kp.refl _ _,hlt5⟩
  ·rintro j σ H6 hj ⟨_,xs,c',v9,lxs,bxs,rfl,kp6,hlt6⟩;dsimp only[za0];have h0:=Jn c' (show tpB n m+1≠0 by omega);have h1:=Jd c' (show 0<tpB n m+1 by omega);refine⟨_,rfl,.inl ⟨rfl,_,SqL.of hlt6⟩,_,rfl,_,rfl,_,_,rfl,rfl,_,_,rfl,rfl,(by show 0<tpB n m+1;omega),lt,_,_,rfl,rfl,hlt6,zlt _ (by rw[Yd];omega),?_⟩;refine⟨_,rfl,_,rfl,_,_,rfl,rfl,_,_,rfl,rfl,⟨by omega,by omega⟩,?_⟩;refine⟨hj,xs++[c'%(tpB n m+1)],_,_,by rw[Y6,lxs];rfl,λx hx=>?_,rfl,kp6.tr (Kp.upd (by simp)),by rw[List.map_append];exact zab⟩;rcases Jv.mp hx with z | z
   ·exact bxs x z
   ·rw[Yq.mp z];omega
  ·rintro σ H6 ⟨_,xs,c',v9,lxs,bxs,rfl,kp6,hlt6⟩;have n4:∀{b:Addr} {o:HO},H4 b=some o->b≠lt:=λhb=>zam hb nlt
   have s46:Same H4 H6:=λb o hb=>kp6 _ _ (e5 _ _ hb) λz=>n4 hb (Yq.mp z)
   have tx:T0 m xs:=T0.of lxs λx hx=>(bxs x hx).1
   have jl:i%cnt<ds.length:=by rw[ld];exact Nat.mod_lt _ (by omega)
   have hdj:ds[i%cnt]? = some (ds[i%cnt]'jl):=Yc _;generalize ds[i%cnt]'jl=d at hdj;obtain⟨kvs,hd4,pf4,lk4⟩:=pr.row _ d hdj;refine⟨_,Z,_,Z,_,Z,_,Z,_,_,Z,Z,(by show (0:Int)<cnt;omega),D,_,_,.ref d,Z,Z,SqL.of (s46 _ _ pr.at_),?_,?_⟩
   ·show atI (ds.map V.ref) ((i:Int)%(cnt:Int))=some (.ref d);rw[<- Int.natCast_emod];exact zcu (by rw[Ym,hdj];rfl)
   refine⟨_,Z,_,Z,F,fF,n,cF,_,Z,n2,λx vx H7 xz xb e7 hx=>?_⟩;refine⟨_,Z,lt,_,Z,.inl ⟨SqL.of (e7 _ _ hlt6),λt nt=>?_⟩⟩;have e8:Same H7 (upd H7 t (.tup (xs.map V.int))):=Same.upd nt;have ht8:(upd H7 t (HO.tup (xs.map V.int))) t=some (.tup (xs.map V.int)):=zab;generalize upd H7 t (HO.tup (xs.map V.int))=H8 at e8 ht8 ⊢;intro pd npd;have e9:Same H8 (upd H8 pd (.dT [])):=Same.upd npd;have hpd9:(upd H8 pd (HO.dT [])) pd=some (.dT []):=zab;generalize upd H8 pd (HO.dT [])=H9 at e9 hpd9 ⊢;refine zcz (H1:=H9) (m:Int) (λσ=>∃v,σ = [v]) (λ_=>true) (λi=>.int 0) (by omega) (by omega) ?_ ⟨none,Z⟩ ?_ λDA HA eA hLA=>?_
   ·exact λR hR=>⟨_,Z,hR⟩
   ·rintro q σ' HB hq ⟨z,rfl⟩ eB Ny Nn hy hn;unfold tYes;dsimp only[za0];rw[Yl rfl];exact hy _ _ ⟨_,rfl⟩ (Same.refl _) rfl
   rw[Y1,Yu.mpr (λ_ _=>Z)]at hLA;have ez:(List.range m).map (λ_=>V.int 0)=(zer m).map V.int:=by
    rcases(by omega:m=1\/m=2\/m=3) with rfl | rfl | rfl <;> rfl
   rw[ez]at hLA;refine⟨DA,_,Z,.inl ⟨SqL.of hLA,λzt nzt=>?_⟩⟩;have eB:Same HA (upd HA zt (.tup ((zer m).map V.int))):=Same.upd nzt;have hzB:(upd HA zt (HO.tup ((zer m).map V.int))) zt=some (.tup ((zer m).map V.int)):=zab;generalize upd HA zt (HO.tup ((zer m).map V.int))=HB at eB hzB ⊢;refine⟨_,Z,F,fF,n,cF,Z,n2,λv1 HC eC hv1=>?_⟩;rw[zfn]at hv1;have g9C:=(eA.trans eB).trans eC;have hpdC:=g9C _ _ hpd9;refine⟨zt,ky (zer m),Z,hpdC,by rw[zeq];exact eC _ _ hzB,?_⟩;have s4C:Same H4 HC:=((s46.trans e7).trans (e8.trans e9)).trans g9C;have pd4:H8 pd=none:=npd;have n4pd:∀{b:Addr} {o:HO},H8 b=some o->b≠pd:=λhb=>zam hb npd
   have s48:Same H4 H8:=(s46.trans e7).trans e8;have kD:∀b o,HC b=some o->b≠pd->(upd HC pd (HO.dT [(ky (zer m),v1)])) b=some o:=λb o hb nb=>(zai nb).trans hb
   have fD:Fix HC (upd HC pd (HO.dT [(ky (zer m),v1)])):=zbz hpdC;have hpdD:(upd HC pd (HO.dT [(ky (zer m),v1)])) pd=some (.dT [(ky (zer m),v1)]):=zab;generalize upd HC pd (HO.dT [(ky (zer m),v1)])=HD at kD fD hpdD ⊢;have k8D:∀b o,H8 b=some o->HD b=some o:=λb o hb=>kD _ _ (g9C _ _ (e9 _ _ hb)) (n4pd hb)
   have s4D:Same H4 HD:=λb o hb=>k8D _ _ (s48 _ _ hb)
   have pψ : PF n m HD [(ky (zer m),v1)] (setP (λ_=>(0:F)) (zer m) 1):=by
    have:=(PF.nil (F:=F) (n:=n) (m:=m) (H:=HD)).put (T0.zer m) (hv1.fix fD) (λz=>Lean.Grind.Field.zero_ne_one z.symm);exact this
   have ibψ : IB n 1 1 (setP (λ_=>(0:F)) (zer m) 1):=λ_ t=>by
    by_cases c:t=zer m
    ·rw[c,zdu];exact⟨1,by rw[zfn];grind,by decide⟩
    ·rw[zbo c];exact⟨0,by rw[zb8];grind,by decide⟩
   have xl:Lim n 7 x:=λz=>by
    obtain⟨X,h1,h2⟩:=xb z;exact⟨X,6,by decide,h1,Yp h2 (by decide),by decide⟩
   have ib6:=pr.ib (i%cnt);have hxD:Rep n HD vx x:=(Rep.fix (Fix.of ((e8.trans e9).trans g9C)) hx).fix fD;refine⟨F,fF,n,cF,m,d,vx,t,pd,kvs,[(ky (zer m),v1)],gs (i%cnt),setP (λ_=>0) (zer m) 1,x,xs,7,2,13,Z,n2,n9,by omega,n4pd (s48 _ _ hd4),hxD,k8D _ _ ht8,tx,s4D _ _ hd4,hpdD,pf4.fix (.of s4D),pψ,zlt _ (by show kvs.length+1<=10000000;omega),xl,ibψ.lim (by decide) (by decide) (by decide),ib6.lim (by decide) (Yp (show i*120<=44*120 from Y4 _ (by omega)) (by decide)) (by decide),by decide,λHE kv' kpE hdE pfE lE=>?_⟩;have kE:∀b o,H4 b=some o->b≠d->HE b=some o:=λb o hb nb=>kpE _ _ (s4D _ _ hb) (by simp[nb])
   have fr:=pr.fr d (Yx hdj);refine⟨hi,⟨_,_,_,_,Z⟩,λb o hb=>kE _ _ (e4 _ _ hb) (zam hb fr.1),_,pr.step hdj kE hdE pfE (by have h1:[(ky (zer m),v1)].length=1:=rfl;omega) (λu hu=>?_) ?_⟩
   ·by_cases c0:gs (i%cnt) u=0
    ·have s0:sh xs (setP (λ_=>(0:F)) (zer m) 1) u≠0:=λz=>hu (by show gs (i%cnt) u+x*_=0;rw[c0,z];grind)
     rw[zz4 lxs s0];exact⟨tx,λy hy=>(bxs y hy).2⟩
    ·exact pr.bx _ u c0
   ·have:=IB.add (D:=6) (E:=1) (M:=i*120) (A:=120) (B:=1) ib6 xb ibψ xs;rw[Nat.succ_mul];exact this
 ·rintro σ H4 ⟨_,⟨v6,v7,v8,v9,rfl⟩,e4,gs,pr⟩;exact⟨_,rfl,k D H4 ds gs hD e4 ld pr⟩
theorem zw9(F:FunD K "_law_leads" "_law_leads" zff .none f fd)  {Pt:Addr} (cLead:Cal P w K mg base CX0 7 "_law_lead" ["_law_kind","_law_weights_here","_law_f"] [] (zoe Pt lpB qlB)):FnOk P w K mg base CX0 9 f fd ["_law_kind","_law_weights_here","_law_row"] (zts Pt):=by
 have scLdsB:FnScope ["_law_kind","_law_weights_here","_law_row"] ["_law_kind","_law_weights_here","_law_row"] (zah zff):=sM (by decide +kernel);refine F.okN (k:=8) scLdsB (by walk_at "v") (λcdv A outer s H vs Q E hr=>?_);walk_at "x";rename_i g_ hg_ F fF n l b kd ws m ds kvss gs;rintro⟨rfl,h⟩;subst hg_;refine⟨_,(zae (zan (zbk (N:=["_law_f","_law_kind","_law_weights_here"]) (cl:=[("_law_weights_here",s.heap.objs.size+2),("_law_kind",s.heap.objs.size+1)]) (mp:=[none,some 0,some 1]) (Blk.of rfl (by decide +kernel) rfl (by decide +kernel) zbh (zbe rfl (zbe rfl zc2)) (zh3 (fs:=["_law_weights_here","_law_kind"]) rfl (by decide +kernel)) rfl (zb1 (zbd rfl (.inl rfl) rfl (zbd rfl (.inl rfl) rfl zc0)))) rfl (zce (K:=K) rfl (pv 2)) (λC0 s0 H0 fp0=>zcb (i:=0) zbh rfl rfl) (λC0 s0 H0 fp0=>zbj) (λC0 s0 H0 fp0=>zso (zap (zgd (K:=K) rfl hr.units) (pv 0) (zcd) (nomark _)) (pe_c cLead hr zar .nil ((zaa (pv 1) (zaa (pv 2) (zaa (pv 0) zac))))) (zmw))))),?_⟩;obtain⟨k0,k4,hl,lw,wn,wb,m1,m4,hB,tb,hT,k⟩:=h;replace hT:Tb Pt lpB qlB H:=hT;have nPt:∀{H':Hp} {b:Addr} {o:HO},Tb Pt lpB qlB H'->H' b=some o->(∀ps,o≠.tbl ps)->b≠Pt:=fun{H' b o} hT hb no=>by
  rcases hT with z | ⟨_,_,z,_⟩
  ·exact zbs hb z (no _)
  ·exact zbs hb z (no _)
 have bP:=nPt hT hB.at_ (by intro ps z;cases z);have lP:=nPt hT hl (by intro ps z;cases z);have tP:H Pt≠none:=by rcases hT with z | ⟨_,_,z,_⟩ <;> rw[z] <;> simp
 refine zit ⟨_,Z,b,Z,⟨_,SqL.of hB.at_⟩,λD hD=>?_⟩;have DP:D≠Pt:=λz=>tP (by rw[<- z];exact hD)
 let Hm:Hp:=λb=>if b=Pt then none else H b
 have hHm:∀{b:Addr},b≠Pt->Hm b=H b:=λh=>Yh h
 have same_of:∀{H':Hp},(∀b o,H b=some o->b≠Pt->H' b=some o)->Same Hm H':=fun{H'} h b o hb=>by
  by_cases c:b=Pt
  ·have:Hm b=none:=Yl c;rw[this]at hb;cases hb
  ·rw[hHm c]at hb;exact h b o hb c
 have e0:Same H (upd H D (.lst [])):=Same.upd hD;refine zv0 (Hm:=Hm) (zcl (SqL.of (show Hm b=some _ from(hHm bP).trans hB.at_))) (by rw[Yd];exact hB.b) (λσ=>∃v,σ = [v,some (.int kd),some (.ref l)]) (λi ys H'=>(∀b o,H b=some o->b≠Pt->H' b=some o)/\Tb Pt lpB qlB H'/\H' D=some (.lst ys)/\ys.length=i/\∃lds:List (Option (List Int)),Paired (LdV H') lds ys/\(∀i l,lds[i]? = some (some l)->Ld (rkk kd ws) (gs i) l)/\(∀i:Nat,lds[i]? = some none->∀t,gs i t=0)) ⟨none,Z⟩ ?_ ?_ ?_ ?_
 ·exact⟨λb o hb _=>e0 _ _ hb,zjg hT e0,zab,Z,[],.nil,(λi l hl=>by simp at hl),(λi hl=>by simp at hl)⟩
 ·rintro i ys H' ⟨h1,h2,h3,h4,_⟩;exact⟨same_of h1,h3,h4⟩
 ·rintro i v σ' H' H2 ys hi ⟨z,rfl⟩ ⟨h1,h2,h3,h4,lds,h5,h6,h7⟩ e2 hv Ny hy;rw[Ym]at hv
  cases hd:ds[i]? with
  | none=>rw[hd]at hv;cases hv
  | some d=>
   rw[hd]at hv;injection hv with hv
   subst hv;have ll:lds.length=ys.length:=Paired.length h5;obtain⟨kvs,hk,hd0,pf0⟩:=hB.row i d hd;have dP:=nPt hT hd0 (by intro ps z;cases z);have k2:∀b o,H b=some o->b≠Pt->H2 b=some o:=λb o hb nb=>e2 _ _ (h1 b o hb nb)
   have pf2:PF n m H2 kvs (gs i):=pf0.keep λb xs hb=>k2 _ _ hb (nPt hT hb (by intro ps z;cases z))
   have hd2:=k2 _ _ hd0 dP;have hT2:=zjg h2 e2;dsimp only[za0];refine⟨_,Z,λe ne=>?_⟩;have e3:Same H2 (upd H2 e (.dT [])):=Same.upd ne;have he3:(upd H2 e (HO.dT [])) e=some (.dT []):=zab;generalize upd H2 e (HO.dT [])=H3 at e3 he3 ⊢;obtain⟨da,kds,fl,_⟩:=(pf2.same e3).kds (K:=K);have lda:kvs.length=da.length:=Paired.length kds;refine⟨d,e,kvs,[],da,[],Z,Z,.inl (e3 _ _ hd2),.inl he3,kds,.nil,fl,(λ_ z=>by cases z),_,Z,?_⟩;have fin:∀(v:V) (o:Option (List Int)) (H5:Hp),(∀b o,H3 b=some o->b≠Pt->H5 b=some o)->Tb Pt lpB qlB H5->LdV H5 o v->(∀l,o=some l->Ld (rkk kd ws) (gs i) l)->(o=none->∀t,gs i t=0)->Ny v [some (.ref d),some (.int kd),some (.ref l)] H5:=λv o H5 q1 q2 q3 q4 q5=>by
    have D5:H5 D=some (.lst ys):=q1 _ _ (e3 _ _ (e2 _ _ h3)) DP;have kU:∀{H6:Hp} {b:Addr} {ob:HO},H5 b=some ob->(∀ys,ob≠.lst ys)->(upd H5 D (.lst (ys++[v]))) b=some ob:=fun{H6 b ob} hb no=>(zai (zbs hb D5 (no _))).trans hb
    refine hy v _ H5 ⟨_,Z⟩ D5 ⟨λb ob hb nb=>?_,?_,zab,by rw[Y6,h4];rfl,lds++[o],?_,λj l' hj=>?_,λj hj=>?_⟩
    ·have:b≠D:=λz=>by rw[z,hD]at hb;cases hb
     rw[zai this];exact q1 _ _ (e3 _ _ (k2 b ob hb nb)) nb
    ·rcases q2 with z | ⟨c,z1,z2,z3⟩
     ·exact .inl (kU (H6:=H5) z (by intro _ z;cases z))
     ·exact .inr ⟨c,z1,kU (H6:=H5) z2 (by intro _ z;cases z),kU (H6:=H5) z3 (by intro _ z;cases z)⟩
    ·refine psnoc (q3.keep λb xs hb=>kU (H6:=H5) hb (by intro _ z;cases z)) (pimp (λ_ _ q=>(q.keep λb xs hb=>?_)) h5);exact kU (H6:=H5) (q1 _ _ (e3 _ _ (e2 _ _ hb)) (nPt h2 hb (by intro _ z;cases z))) (by intro _ z;cases z)
    ·rcases zl6 hj with z | ⟨z1,z2⟩
     ·exact h6 j l' z
     ·have:j=i:=by omega
      subst this;exact q4 l' z2.symm
    ·rcases zl6 hj with z | ⟨z1,z2⟩
     ·exact h7 j z
     ·have:j=i:=by omega
      subst this;exact q5 z2.symm
   have hT3:=zjg hT2 e3;by_cases ce:kvs=[]
   ·have:eqKD da []=true:=by
     have:da=[]:=Ja.mp (by rw[<- lda,ce];rfl);rw[this];rfl
    rw[this];refine iteF (fin .non none H3 (λb o hb _=>hb) hT3 rfl (λ_ z=>by cases z) λ_ t=>?_);exact(pf2.empty.mp ce) t
   ·have:eqKD da []=false:=by
     unfold eqKD
     cases da with
     | nil=>exact absurd (Ja.mp (by rw[lda];rfl)) ce
     | cons x l=>rfl
    rw[this];have pf3:=pf2.same e3;refine iteT ⟨_,Z,_,Z,_,Z,l,d,kd,ws,m,kvs,tms kvs,Z,k0,k4,e3 _ _ (k2 _ _ hl lP),lw,wn,wb,m1,m4,e3 _ _ hd2,pf3.keys,λz=>ce (Ja.mp (by rw[<- zd0 kvs,z];rfl)),λt ht=>⟨pf3.sp t (pf3.tmem.mp ht),tb i t (pf3.tmem.mp ht)⟩,hT3,λp H5 t tm tmax k5 hT5 hp5=>?_⟩;refine fin (.ref p) (some t) H5 k5 hT5 ⟨p,Z,hp5⟩ (λl' hl'=>?_) (λz=>by cases z)
    cases hl';exact⟨pf3.tmem.mp tm,λu hu=>tmax u (pf3.tmem.mpr hu)⟩
 ·rintro ys H' ⟨h1,h2,h3,h4,lds,h5,h6,h7⟩;refine k D H' lds hD ?_ h1 h2 ⟨ys,h3,h5⟩ h6 h7;have:=Paired.length h5;rw[Yd]at h4;omega
theorem zvp(F:FunD K "_law_free" "_law_free" zf3 .none f fd)(c_GoB:Cal P w K mg base CX0 1 "_law_goes" ["_law_one_here","_law_other"] [] zyg):FnOk P w K mg base CX0 2 f fd ["_law_leads_here","_law_term"] zoo:=by
 have scFreB:FnScope ["_law_leads_here","_law_term","_law_lead_here"] ["_law_leads_here","_law_term"] (zah zf3):=sM (by decide +kernel);refine F.okN (k:=1) scFreB (by walk_at "v") (λcdv A outer s H vs Q E hr=>?_);walk_at "x";rename_i g_ hg_ D t lds xs;rintro⟨rfl,h⟩;subst hg_;refine⟨_,(zad (zdt PassesOwn.never rfl (zce (K:=K) rfl (pv 0)) (zbb (i:=2) scFreB.nd rfl (Or.inl rfl)) (zae (zba (PW.pt (zkp (zap zww (pv 2) (zmw) (nomark _)) (zhu (zb5 (pe_c c_GoB hr zar .nil ((zaa (pv 2) (zaa (pv 1) zac)))))))) (zae (zan (zd7))) zav)))
  (zae (zan (zd7)))),?_⟩
 obtain⟨hL,ll,ht,lx,nf,k⟩:=h;obtain⟨ys,hD,pr⟩:=hL.ex;refine⟨_,Z,D,Z,⟨_,SqL.of hD⟩,?_⟩;refine zji (xs:=ys) (λi σ H'=>Same H H'/\∃v2,σ = [some (.ref D),some (.ref t),v2]) ⟨Same.refl _,none,Z⟩ (λi σ H' _ h=>SqL.of (h.1 _ _ hD)) ?_ ?_
 ·rintro i v σ H1 hv ⟨e1,v2,rfl⟩;obtain⟨o,ho,hov⟩:=pget pr hv;dsimp only[za0]
  cases o with
  | none=>
   have hov:v=.non:=hov;subst hov;refine⟨_,Z,Z,_,Z,?_⟩;rw[Yo rfl];exact iteF (iteF ⟨e1,_,Z⟩)
  | some l=>
   obtain⟨p,rfl,hp⟩:=hov;obtain⟨g1,g2⟩:=nf i l ho;refine⟨_,Z,Z,_,Z,?_⟩;rw[Yw (by intro z;cases z)];refine iteT ⟨_,Z,_,Z,p,t,l,xs,Z,e1 _ _ hp,e1 _ _ ht,g2,by omega,λH2 e2=>⟨_,Z,?_⟩⟩;rw[g1];exact iteF ⟨e1.trans e2,_,Z⟩
 ·rintro σ H1 ⟨e1,v2,rfl⟩;exact k H1 e1
theorem zx3(F:FunD K "_law_apart" "_law_apart" zet .none f fd)   : FnOk P w K mg base CX0 1 f fd ["_law_parts"] zxh:=by
 have scApB:FnScope ["_law_parts","_law_sizes","_law_k","_law_f"] ["_law_parts"] (zah zet):=sM (by decide +kernel);refine F.okN (k:=0) scApB (by walk_at "v") (λcdv A outer s H vs Q E hr=>?_);walk_at "x";rename_i g_ hg_ l ds kvss;rintro⟨rfl,h⟩;subst hg_;refine⟨_,(zad (zla (N:=["_law_f"]) (zbb (i:=1) scApB.nd rfl (Or.inl rfl)) (Blk.plain (by decide +kernel) (by decide +kernel) rfl (by decide +kernel) zd9) rfl (zce (K:=K) rfl (pv 0)) (λC0 s0 H0 fp0=>zcb (i:=0) zd9 rfl rfl) (λC0 s0 H0 fp0=>zbj) (λC0 s0 H0 fp0=>zau zka rfl T.b_len PySem.boot_len ((zaa (pv 0) zac))))
  (zad (zdt PassesOwn.never rfl (zbq rfl T.b_range ((zaa (zau (zbc (K:=K) rfl) rfl T.b_len PySem.boot_len ((zaa (pv 0) zac))) zac))) (zbb (i:=2) scApB.nd rfl (Or.inl rfl)) (zad (zaw (i:=3) scApB.nd rfl (Or.inl rfl) (zaz (r:=rIxL K) zb9 (pv 0) (pv 2) (λ_ _=>Z)))
  (zae (zfx (uOne hr) (pv 3) (zca ((zaa (zgi) (zaa (pv 2) zac)))) (pv 2) rfl))))
  (zae (zan (zdb (zko hr.units) (zbk (N:=["_law_f"]) (Blk.plain (by decide +kernel) (by decide +kernel) rfl (by decide +kernel) zd9) rfl (zce (K:=K) rfl (pv 0)) (λC0 s0 H0 fp0=>zcb (i:=0) zd9 rfl rfl) (λC0 s0 H0 fp0=>zbj) (λC0 s0 H0 fp0=>zau zka rfl T.b_len PySem.boot_len ((zaa (pv 0) zac)))) (zbk (N:=["_law_size"]) (Blk.plain (by decide +kernel) (by decide +kernel) rfl (by decide +kernel) zgx) rfl (zce (K:=K) rfl (pv 1)) (λC0 s0 H0 fp0=>zcb (i:=0) zgx rfl rfl) (λC0 s0 H0 fp0=>zbj) (λC0 s0 H0 fp0=>zaq zb4 (pv 0) (zaf))) (nomark _)))))),?_⟩
 obtain⟨hl,nd,l10,lk,hrow,k⟩:=h;have row:∀{i:Nat} {d:Addr},ds[i]? = some d->∃kvs,kvss[i]? = some kvs/\H d=some (.dT kvs)/\(∀p∈kvs,∃t:List Int,p.1=ky t)/\kvs.length<=1000000:=fun{i d} hd=>by
  have li:i<kvss.length:=by rw[<- lk];exact zay hd
  exact⟨_,Yc li,hrow i d _ hd (Yc li)⟩
 have dl:∀{d:Addr},d∈ds->d≠l:=λhd z=>by
  obtain⟨i,hi⟩:=Je.mp hd;obtain⟨kv,_,h1,_⟩:=row hi;rw[z,hl]at h1;cases h1
 refine zcn (J:=Itl K l) (H1:=H) (zcl (SqL.of hl)) (by rw[Yd];exact l10) (λR hR=>⟨_,Z,l,Z,⟨_,SqL.of hl⟩,hR⟩) (λσ=>∃v,σ = [v]) (λ_=>true) (λi=>.int ((kvss.getD i []).length:Int)) ⟨none,Z⟩ ?_ λD1 H1 e1 hL1=>?_
 ·rintro i v σ' H2 hi ⟨z,rfl⟩ e2 hv Ny Nn hy hn;rw[Ym]at hv
  cases hd:ds[i]? with
  | none=>rw[hd]at hv;cases hv
  | some d=>
   rw[hd]at hv;injection hv with hv
   subst hv;obtain⟨kv,hk,h1,_⟩:=row hd;unfold tYes;dsimp only[za0];rw[Yl rfl];refine⟨_,Z,d,kv,Z,.inl (e2 _ _ h1),?_⟩;have:=hy [some (.ref d)] H2 ⟨_,Z⟩ (Same.refl _) rfl;rw[show kvss.getD i []=kv by simp[List.getD,hk]]at this;exact this
 rw[Yu.mpr (λ_ _=>Z),Yd]at hL1;dsimp only[za0];have hl1:=e1 _ _ hl;refine⟨_,Z,l,_,Z,.inl (SqL.of hl1),_,Z,by omega,by rw[Yd];omega,?_⟩;rw[Yd,Y1];have D1d:D1 ∉ ds:=λhd=>by
  obtain⟨i,hi⟩:=Je.mp hd;obtain⟨kv,_,h1,_⟩:=row hi;have:=e1 _ _ h1;rw[hL1]at this;cases this
 have ld:l ∉ ds:=λhd=>dl hd rfl
 refine ze2 (tb:=tSeq _ _) (λi σ H'=>i<=ds.length/\(∃v2 v3,σ = [some (.ref l),some (.ref D1),v2,v3])/\(∀b o,H1 b=some o->b ∉ ds->H' b=some o)/\∀(j:Nat) d kvs,ds[j]? = some d->kvss[j]? = some kvs->∃kv',H' d=some (.dT kv')/\(i<=j->kv'=kvs)/\(j<i->kv'.length=kvs.length+1)) ?_ ?_ ?_
 ·refine⟨Y2 _,⟨none,none,Z⟩,λb o hb _=>hb,λj d kvs h1 h2=>⟨kvs,e1 _ _ (hrow j d kvs h1 h2).1,λ_=>Z,λz=>absurd z (Nat.not_lt_zero _)⟩⟩
 ·rintro i σ H2 hi ⟨_,⟨v2,v3,rfl⟩,kp,hd2⟩;have hdi:ds[i]? = some (ds[i]'hi):=Yc _;have mdi:ds[i]'hi∈ds:=Jw _;generalize ds[i]'hi=d at hdi mdi;obtain⟨kvs,hk,h1,h2,h3⟩:=row hdi;obtain⟨kv',g1,g2,_⟩:=hd2 i d kvs hdi hk;have g2:=g2 (Yi _);subst g2;rw[Int.zero_add];dsimp only[za0];refine⟨_,rfl,_,rfl,l,_,_,_,rfl,rfl,SqL.of (kp _ _ hl1 ld),zcu (by rw[Ym,hdi];rfl),?_⟩;refine⟨_,rfl,_,rfl,_,rfl,(by show 2<=sizeLine;decide),λtt htt=>?_⟩;have e3:Same H2 (upd H2 tt (.tup [.str (Str.ofString "more"),.int i])):=Same.upd htt;have ht3:(upd H2 tt (HO.tup [V.str (Str.ofString "more"),V.int i])) tt=some (.tup [.str (Str.ofString "more"),.int i]):=zab;generalize upd H2 tt (HO.tup [V.str (Str.ofString "more"),V.int i])=H3 at e3 ht3 ⊢;have hd3:=e3 _ _ g1;have nk:([.inr (Str.ofString "more"),.inl (i:Int)]:List Key) ∉ kv'.map (·.1):=λz=>by
   obtain⟨p,hp,e⟩:=Jj.mp z;obtain⟨t,ht⟩:=h2 p hp;rw[ht]at e
   cases t with
   | nil=>cases e
   | cons x t=>cases e
  refine⟨d,_,Z,DPut.t (k:=[.inr (Str.ofString "more"),.inl (i:Int)]) hd3 ht3 (zlt _ (by omega)),?_⟩;refine⟨hi,⟨_,_,Z⟩,λb o hb nb=>(zai (λz=>nb (by rw[z];exact mdi))).trans (e3 _ _ (kp b o hb nb)),λj d' kvs' q1 q2=>?_⟩;by_cases cj:j=i
  ·subst cj;rw[hdi]at q1;cases q1;rw[hk]at q2;cases q2;refine⟨_,zab,λz=>by omega,λ_=>?_⟩;rw[zsp nk,Y6];rfl
  ·have nd':d'≠d:=λz=>by
    subst z;exact cj ((List.getElem?_inj (zay q1) nd).mp (q1.trans hdi.symm))
   obtain⟨kv2,r1,r2,r3⟩:=hd2 j d' kvs' q1 q2;exact⟨kv2,(zai nd').trans (e3 _ _ r1),λz=>r2 (by omega),λz=>r3 (by omega)⟩
 ·rintro σ H2 ⟨_,⟨v2,v3,rfl⟩,kp,hd2⟩;have hl2:=kp _ _ hl1 ld;have hD2:=kp _ _ hL1 D1d;refine zcn (J:=Itl K l) (H1:=H2) (zcl (SqL.of hl2)) (by rw[Yd];exact l10) (λR hR=>⟨_,rfl,l,rfl,⟨_,SqL.of hl2⟩,hR⟩) (λσ=>∃v,σ = [v]) (λ_=>true) (λi=>.int ((kvss.getD i []).length+1:Int)) ⟨none,rfl⟩ ?_ λD3 H3 e3 hL3=>?_
  ·rintro i v σ' H4 hi ⟨z,rfl⟩ e4 hv Ny Nn hy hn;rw[Ym]at hv
   cases hd:ds[i]? with
   | none=>rw[hd]at hv;cases hv
   | some d=>
    rw[hd]at hv;injection hv with hv
    subst hv;obtain⟨kv,hk,h1,_⟩:=row hd;obtain⟨kv',g1,_,g3⟩:=hd2 i d kv hd hk;have g3:=g3 (zay hd);unfold tYes;dsimp only[za0];rw[Yl rfl];refine⟨_,Z,d,kv',Z,.inl (e4 _ _ g1),?_⟩;have:=hy [some (.ref d)] H4 ⟨_,Z⟩ (Same.refl _) rfl;rw[show kvss.getD i []=kv by simp[List.getD,hk]]at this;rw[g3];exact this
  rw[Yu.mpr (λ_ _=>Z),Yd]at hL3;have hD3:=e3 _ _ hD2;refine zcn (J:=Itl K D1) (H1:=H3) (zcl (SqL.of hD3)) (by rw[Yd,List.length_range];exact l10) (λR hR=>⟨_,Z,D1,Z,⟨_,SqL.of hD3⟩,hR⟩) (λσ=>∃v,σ = [v]) (λ_=>true) (λi=>.int ((kvss.getD i []).length+1:Int)) ⟨none,Z⟩ ?_ λD5 H5 e5 hL5=>?_
  ·rintro i v σ' H4 hi ⟨z,rfl⟩ e4 hv Ny Nn hy hn;rw[Yd,List.length_range]at hi;rw[Ym,List.getElem?_range hi]at hv;injection hv with hv
   subst hv;unfold tYes;dsimp only[za0];rw[Yl rfl];exact⟨_,Z,_,_,Z,Z,hy _ _ ⟨_,Z⟩ (Same.refl _) rfl⟩
  rw[Yu.mpr (λ_ _=>Z),Yd,List.length_range]at hL5;have ei:(List.range ds.length).map (λi=>V.int ((kvss.getD i []).length+1:Int))=((List.range ds.length).map λi=>((kvss.getD i []).length+1:Int)).map V.int:=by rw[Ji];rfl
  rw[ei]at hL3 hL5;refine⟨_,_,.lst (SqL.of (e5 _ _ hL3)) (zhq _),.lst (SqL.of hL5) (zhq _),ze1 _,ze1 _,?_⟩;rw[zqo];exact k _ λb o hb nb=>e5 _ _ (e3 _ _ (kp _ _ (e1 _ _ hb) nb))
theorem zza(F:FunD K "_law_quotients_good" "_law_quotients_good" zb3 .none f fd)(c_FreB:Cal P w K mg base CX0 2 "_law_free" ["_law_leads_here","_law_term"] [] zoo):FnOk P w K mg base CX0 3 f fd ["_law_row","_law_leads_here","_law_quotients"] zxc:=by
 have scQGB:FnScope ["_law_row","_law_leads_here","_law_quotients","_law_k","_law_term"] ["_law_row","_law_leads_here","_law_quotients"] (zah zb3):=sM (by decide +kernel);refine F.okN (k:=2) scQGB (by walk_at "v") (λcdv A outer s H vs Q E hr=>?_);walk_at "x";rename_i g_ hg_ F fF n m b D ql ds qds kvss gs q lds;rintro⟨rfl,h⟩;subst hg_;refine⟨_,(zad (zdt PassesOwn.never rfl (zbq rfl T.b_range ((zaa (zau (zbc (K:=K) rfl) rfl T.b_len PySem.boot_len ((zaa (pv 0) zac))) zac))) (zbb (i:=3) scQGB.nd rfl (Or.inr rfl)) (zad (zba (PW.pt (zkp (zap (zk1 hr.units) (zaz (r:=rIxL K) zb9 (pv 0) (pv 3) (λ_ _=>Z)) (zcd) (nomark _)) (zhu (zap (zgd (K:=K) rfl hr.units) (zaz (r:=rIxL K) zb9 (pv 2) (pv 3) (λ_ _=>Z)) (zcd) (nomark _))))) (zae (zan (zd7))) zav)
  (zae (zdt PassesOwn.never rfl (zce (K:=K) rfl (za4 (zfi rfl) rfl T.b_list (by kernel_rfl) ((zaa (zaz (r:=rIxL K) zb9 (pv 2) (pv 3) (λ_ _=>Z)) zac)))) (zbb (i:=4) scQGB.nd rfl (Or.inr rfl)) (zae (zba (zch (zb5 (pe_c c_FreB hr zar .nil ((zaa (zjo (ziu (K:=K) rfl) (pv 1) zp2 (zin (pv 3))) (zaa (za4 (za9 (K:=K) rfl) rfl T.b_tuple (by kernel_rfl) ((zaa (zbk (N:=["_law_at","_law_k","_law_leads_here","_law_term"]) (cl:=[("_law_term",s.heap.objs.size+3),("_law_leads_here",s.heap.objs.size+1),("_law_k",s.heap.objs.size+2)]) (mp:=[none,some 3,some 1,some 4]) (Blk.of rfl (by decide +kernel) rfl (by decide +kernel) za7 (zbe rfl (zbe rfl (zbe rfl zc2))) (zh3 (fs:=["_law_term","_law_leads_here","_law_k"]) rfl (by decide +kernel)) rfl (zb1 (zbd rfl (.inl rfl) rfl (zbd rfl (.inl rfl) rfl (zbd rfl (.inl rfl) rfl zc0))))) rfl (zbq rfl T.b_range ((zaa (zau (zbc (K:=K) rfl) rfl T.b_len PySem.boot_len ((zaa (pv 4) zac))) zac))) (λC0 s0 H0 fp0=>zcb (i:=0) za7 rfl rfl) (λC0 s0 H0 fp0=>zbj) (λC0 s0 H0 fp0=>zaq zb4 (zaz (r:=rIxT K) zax (pv 3) (pv 0) (λ_ _=>Z)) (zaz (r:=rIxT K) zax (zaz (r:=rIxL K) zb9 (pv 2) (pv 1) (λ_ _=>Z)) (pv 0) (λ_ _=>Z)))) zac))) zac)))))) (zae (zan (zd7))) zav))))))
  (zae (zan (zd7)))),?_⟩
 obtain⟨m4,hB,d10,hQ,lq,hL,ll,hl,hqo,k⟩:=h;obtain⟨ys,hD,pr⟩:=hL.ex;have ly:lds.length=ys.length:=Paired.length pr;refine⟨_,Z,b,_,Z,.inl (SqL.of hB.at_),_,Z,by omega,by rw[Yd];omega,?_⟩;rw[Yd,Y1];refine ze2 (tb:=tSeq _ _) (λi σ H'=>i<=ds.length/\Same H H'/\∃v3 v4,σ = [some (.ref b),some (.ref D),some (.ref ql),v3,v4]) ⟨Y2 _,Same.refl _,none,none,Z⟩ ?_ ?_
 ·rintro i σ H1 hi ⟨_,e1,v3,v4,rfl⟩;rw[Int.zero_add];dsimp only[za0];have hdi:ds[i]? = some (ds[i]'hi):=Yc _;generalize ds[i]'hi=d at hdi;have li:i<qds.length:=by omega
  have hqi:qds[i]? = some (qds[i]'li):=Yc _;generalize qds[i]'li=dq at hqi;obtain⟨kvg,_,hg0,pg0⟩:=hB.row i d hdi;obtain⟨kvq,hq0,pq0⟩:=hQ.row i dq hqi;have atq:atI (qds.map V.ref) (i:Int)=some (.ref dq):=zcu (by rw[Ym,hqi];rfl);have atg:atI (ds.map V.ref) (i:Int)=some (.ref d):=zcu (by rw[Ym,hdi];rfl);refine zev (λσ H'=>Same H H'/\σ = [some (.ref b),some (.ref D),some (.ref ql),some (.int (i:Int)),v4]) ?_ λN hN=>?_
  rotate_left
  ·refine⟨_,Z,_,Z,b,_,_,_,Z,Z,SqL.of (e1 _ _ hB.at_),atg,λe ne=>?_⟩;have e2:Same H1 (upd H1 e (.dT [])):=Same.upd ne;have he2:(upd H1 e (HO.dT [])) e=some (.dT []):=zab;generalize upd H1 e (HO.dT [])=H2 at e2 he2 ⊢;have g2:=e1.trans e2;obtain⟨da,kds,fl,_⟩:=(pg0.same g2).kds (K:=K);have lda:kvg.length=da.length:=Paired.length kds;refine⟨d,e,kvg,[],da,[],Z,Z,.inl (g2 _ _ hg0),.inl he2,kds,.nil,fl,(λ_ z=>by cases z),_,Z,?_⟩
   cases cb:eqKD da []with
   | true=>
    have da0:da=[]:=by
     cases da with
     | nil=>rfl
     | cons x l=>exact absurd cb (by unfold eqKD;intro z;cases z)
    have kv0:kvg=[]:=Ja.mp (by rw[lda,da0];rfl);have g0:=pg0.empty.mp kv0;have q0:∀o,q i o=0:=λo=>Classical.byContradiction λz=>by
     obtain⟨l,h1,_⟩:=hqo i o z;exact(hl i l h1).2 (g0 l)
    have kq0:kvq=[]:=pq0.empty.mpr q0;refine iteT ⟨_,Z,_,Z,ql,_,_,_,Z,Z,SqL.of (g2 _ _ hQ.at_),atq,λe' ne'=>?_⟩;have e3:Same H2 (upd H2 e' (.dT [])):=Same.upd ne';have he3:(upd H2 e' (HO.dT [])) e'=some (.dT []):=zab;generalize upd H2 e' (HO.dT [])=H3 at e3 he3 ⊢;subst kq0;refine⟨dq,e',[],[],[],[],Z,Z,.inl ((g2.trans e3) _ _ hq0),.inl he3,.nil,.nil,(λ_ z=>by cases z),(λ_ z=>by cases z),_,Z,iteF (hN _ _ ⟨g2.trans e3,Z⟩)⟩
   | false=>exact iteF (iteF (hN _ _ ⟨g2,rfl⟩))
  rintro σ1 H2 ⟨e2,rfl⟩;refine⟨_,rfl,_,rfl,ql,_,_,_,rfl,rfl,SqL.of (e2 _ _ hQ.at_),atq,dq,kvq,rfl,.inl (e2 _ _ hq0),λlt as nlt la hi'=>?_⟩;have e3:Same H2 (upd H2 lt (.lst (as.map V.ref))):=Same.upd nlt;have hlt3:(upd H2 lt (HO.lst (as.map V.ref))) lt=some (.lst (as.map V.ref)):=zab;have ek:=pq0.keys;have hp3:=pimp (λ_ _ h=>Trm.same e3 h) (tms_list (m:=m) (l:=lt) ek la hi');generalize upd H2 lt (HO.lst (as.map V.ref))=H3 at e3 hlt3 hp3 ⊢;have g3:=e2.trans e3;refine⟨lt,rfl,⟨_,SqL.of hlt3⟩,?_⟩;refine zji (tb:=tIfS _ _ _) (xs:=as.map V.ref) (λj σ H'=>Same H3 H'/\∃v4,σ = [some (.ref b),some (.ref D),some (.ref ql),some (.int (i:Int)),v4]) ⟨Same.refl _,v4,rfl⟩ (λj σ H' _ h=>SqL.of (h.1 _ _ hlt3)) ?_ ?_
  ·rintro j v σ H4 hv ⟨e4,v5,rfl⟩;obtain⟨o,ho,a,rfl,ha⟩:=pget hp3 hv;have om:q i o≠0:=pq0.tmem.mp (Yx ho);have o0:=pq0.sp o om;obtain⟨l,h1,h2⟩:=hqo i o om;obtain⟨l1,l2⟩:=hl i l h1;have g4:=g3.trans e4;have hD4:=g4 _ _ hD;have liy:i<ys.length:=by omega
   have hyi:ys[i]? = some (ys[i]'liy):=Yc _;generalize ys[i]'liy=yv at hyi;obtain⟨o',ho',hov⟩:=pget pr hyi;rw[h1]at ho';cases ho';obtain⟨pl,rfl,hpl⟩:=hov;dsimp only[za0];refine⟨_,Z,_,Z,(i:Int),Z,D,_,Z,SqL.of hD4,λc nc=>?_⟩;rw[zyd];have e5:Same H4 (upd H4 c (.lst (ys.take i))):=Same.upd nc;have hc5:(upd H4 c (HO.lst (ys.take i))) c=some (.lst (ys.take i)):=zab;generalize upd H4 c (HO.lst (ys.take i))=H5 at e5 hc5 ⊢;have g5:=g4.trans e5;have ha5:H5 a=some (.tup (o.map V.int)):=e5 _ _ (e4 _ _ ha);refine zcz (H1:=H5) (m:Int) (λσ=>∃v,σ = [v,some (.int (i:Int)),some (.ref D),some (.ref a)]) (λ_=>true) (λz=>.int (o.getD z 0+l.getD z 0)) (by omega) (by omega) ?_ ⟨none,Z⟩ ?_ λDA HA eA hLA=>?_
   ·exact λR hR=>⟨_,Z,a,_,Z,.inr (SqT.of ha5),by rw[Yd,o0.len];exact hR⟩
   ·rintro z σ' HB hz ⟨v,rfl⟩ eB Ny Nn hy hn;unfold tYes;dsimp only[za0];rw[Yl rfl];rw[Int.zero_add];have q1:=hy [some (.int (z:Int)),some (.int (i:Int)),some (.ref D),some (.ref a)] HB ⟨_,rfl⟩ (Same.refl _) rfl;exact⟨_,rfl,_,rfl,a,_,_,_,rfl,rfl,SqT.of (eB _ _ ha5),zds (by have:=o0.len;omega),_,rfl,_,rfl,D,_,_,_,rfl,rfl,SqL.of (eB _ _ (g5 _ _ hD)),zcu hyi,_,rfl,pl,_,_,_,rfl,rfl,SqT.of (eB _ _ (g5 _ _ hpl)),zds (by omega),_,_,rfl,rfl,q1⟩
   rw[Y1,Yu.mpr (λ_ _=>Z)]at hLA;have eLA:(List.range m).map (λz=>V.int (o.getD z 0+l.getD z 0))=(addT o l).map V.int:=zl4 o0.len l1;rw[eLA]at hLA;refine⟨DA,_,Z,.inl ⟨SqL.of hLA,λtt ntt=>?_⟩⟩;have eB:Same HA (upd HA tt (.tup ((addT o l).map V.int))):=Same.upd ntt;have htB:(upd HA tt (HO.tup ((addT o l).map V.int))) tt=some (.tup ((addT o l).map V.int)):=zab;generalize upd HA tt (HO.tup ((addT o l).map V.int))=HB at eB htB ⊢;have e5B:=eA.trans eB;have g4B:=e5.trans e5B;have lat:(addT o l).length=m:=by rw[zc1 (by rw[o0.len,l1]),o0.len]
   refine⟨c,tt,lds.take i,addT o l,Z,⟨ys.take i,e5B _ _ hc5,?_⟩,(by rw[List.length_take];omega),htB,by omega,λj' l' hj'=>?_,λHC eC=>⟨_,Z,iteF ⟨e4.trans (g4B.trans eC),_,Z⟩⟩⟩
   ·exact pimp (λ_ _ q=>q.keep λb xs hb=>(g4.trans g4B) _ _ hb) (ptake i pr)
   ·have lj:j'<i:=by
     have:=zay hj';rw[List.length_take]at this;omega
    rw[List.getElem?_take_of_lt lj]at hj';exact⟨h2 j' l' lj hj',by rw[(hl j' l' hj').1,lat]⟩
  ·rintro σ H4 ⟨e4,v5,rfl⟩;exact⟨hi,g3.trans e4,_,_,rfl⟩
 ·rintro σ H1 ⟨_,e1,v3,v4,rfl⟩;exact k H1 e1
theorem zzf(F:FunD K "law" "law" zi8 .none f fd)(c_Cell:Cal P w K mg base CX0 1 "_law_cell_at" ["_law_script","_law_k"] [] (ztt K))(c_LRs:Cal P w K mg base CX0 2 "_law_rests" ["_law_cell"] [] zz1)(c_WtB:Cal P w K mg base CX0 1 "_law_weights" ["_law_many","_law_cell"] [] zzs)(c_PolyB:Cal P w K mg base CX0 5 "_law_polys_by" ["_law_p","_law_many","_law_count","_law_cells"] [] (zq0 K))(c_LFld:Cal P w K mg base CX0 4 "_law_field" ["_law_p"] [] (zt3 zag zao))(c_LOrd:Cal P w K mg base CX0 3 "_law_order" ["_law_kind","_law_weights_here"] [] (zoq zas zal zat zaj))(k_RgInit:Mak P w K mg base (CXe P w) 2 "Ring" za2 ["self","many","field","order"] [] (zl0 za2 zc3 zas zal zat zaj))(c_Cop:Cal P w K mg base CX0 1 "_law_copies" ["_law_row"] [] zzw)(c_Div:Cal P w K mg base CX0 14 "divided" ["ring","f","row"] [] (zy8 za2 zag zao zas zal zat zaj))(c_ArP:Cal P w K mg base CX0 4 "_law_are_polys" ["_law_p","_law_many","_law_count","_law_found"] [] zyt)(c_IsP:Cal P w K mg base CX0 3 "_law_is_poly" ["_law_p","_law_many","_law_found"] [] zw6)(c_SumB:Cal P w K mg base CX0 5 "_law_sum_up" ["_law_p","_law_many","_law_multiples","_law_row"] [] ztw)(c_OneB:Cal P w K mg base CX0 1 "_law_one" ["_law_p"] [] (zkx 1))(c_AddB:Cal P w K mg base CX0 4 "_law_add" ["_law_p","_law_total","_law_number","_law_term","_law_f"] [] zl8)(c_FreB:Cal P w K mg base CX0 2 "_law_free" ["_law_leads_here","_law_term"] [] zoo)(c_ApB:Cal P w K mg base CX0 1 "_law_apart" ["_law_parts"] [] zxh)(c_QGB:Cal P w K mg base CX0 3 "_law_quotients_good" ["_law_row","_law_leads_here","_law_quotients"] [] zxc){Pt:Addr}(hfld:∀n:Int,n<=9973->(n=0\/Pr n)->∃C,FldP P w K mg base C (AtN zag zao n) n){za1:Addr}(hord:∀(kd:Int) (ws:List Int),0<=kd->kd<4->Nn ws->(∀x∈ws,x<10^31)->∃C,OrdP P w K mg base za1 C (AtK zas zal zat zaj kd ws) (rkk kd ws) (fbK kd ws))(cLds:Cal P w K mg base CX0 9 "_law_leads" ["_law_kind","_law_weights_here","_law_row"] [] (zts Pt)):FnOk P w K mg base CX0 18 f fd ["_law_script"] (zrv K Pt):=by
 have scLaw:FnScope ["_law_script","_law_p","_law_many","_law_kind","_law_weights_here","_law_count","_law_size","_law_row","_law_f","_law_ring","_law_handed","_law_handed_row","_law_found","_law_total","_law_leads_here"] ["_law_script"] (zah zi8):=sM (by decide +kernel);refine F.okN (k:=17) scLaw (by walk_at "v") (λcdv A outer s H vs Q E hr=>?_);walk_at "x";rename_i g_ hg_ a ns;rintro⟨rfl,h⟩;subst hg_;refine⟨_,(zad (zaw (i:=1) scLaw.nd rfl (Or.inl rfl) (pe_c c_LRs hr zar .nil ((zaa (pe_c c_Cell hr zar .nil ((zaa (pv 0) (zaa (zaf) zac)))) zac))))
  (zad (zaw (i:=2) scLaw.nd rfl (Or.inl rfl) (zaq zb4 (zaf) (zaq zbr (pe_c c_Cell hr zar .nil ((zaa (pv 0) (zaa (zaf) zac)))) (zaf))))
  (zad (zaw (i:=3) scLaw.nd rfl (Or.inl rfl) (zaq zbr (zaq zcv (pe_c c_Cell hr zar .nil ((zaa (pv 0) (zaa (zaf) zac)))) (zaf)) (zaf)))
  (zad (zaw (i:=4) scLaw.nd rfl (Or.inl rfl) (pe_c c_WtB hr zar .nil ((zaa (pv 2) (zaa (zaq zbr (zaq zcv (pe_c c_Cell hr zar .nil ((zaa (pv 0) (zaa (zaf) zac)))) (zaf)) (zaq ztx (zaf) (zaf))) zac)))))
  (zad (zaw (i:=5) scLaw.nd rfl (Or.inl rfl) (zaq zb4 (zaf) (zaq zbr (pe_c c_Cell hr zar .nil ((zaa (pv 0) (zaa (zaf) zac)))) (zaf))))
  (zad (zaw (i:=6) scLaw.nd rfl (Or.inl rfl) (zaf))
  (zad (zba (zap zhw (pv 1) (zaf) (nomark _)) (zae (zaw (i:=6) scLaw.nd rfl (Or.inl rfl) (zaf))) zav)
  (zad (zaw (i:=7) scLaw.nd rfl (Or.inl rfl) (pe_c c_PolyB hr zar .nil ((zaa (pv 1) (zaa (pv 2) (zaa (pv 5) (zaa (zjo (ziu (K:=K) rfl) (pv 0) (zin (zaf)) (zin (zaq zb4 (zaf) (pv 6)))) zac)))))))
  (zad (zaw (i:=8) scLaw.nd rfl (Or.inl rfl) (ztk PySem.F.plainAttrs_list PySem.F.slot_list_pop PySem.F.type_list_pop zrp (pv 7) ((zaa (zaq zbr (zaq zcv (pe_c c_Cell hr zar .nil ((zaa (pv 0) (zaa (zaf) zac)))) (zaf)) (pv 5)) zac))))
  (zad (zaw (i:=9) scLaw.nd rfl (Or.inl rfl) (zo2 k_RgInit hr znh .nil ((zaa (pv 2) (zaa (pe_c c_LFld hr zar .nil ((zaa (pv 1) zac))) (zaa (pe_c c_LOrd hr zar .nil ((zaa (pv 3) (zaa (pv 4) zac)))) zac))))))
  (zad (zaw (i:=10) scLaw.nd rfl (Or.inl rfl) (za4 zgt rfl T.b_dict (by kernel_rfl) ((zaa (pv 8) zac))))
  (zad (zaw (i:=11) scLaw.nd rfl (Or.inl rfl) (pe_c c_Cop hr zar .nil ((zaa (pv 7) zac))))
  (zad (zaw (i:=12) scLaw.nd rfl (Or.inl rfl) (pe_c c_Div hr zar .nil ((zaa (pv 9) (zaa (pv 10) (zaa (pv 11) zac))))))
  (zad (zba (PW.pt (zfk (zch (zb5 (zau (zb2 (K:=K) rfl) rfl T.b_isinstance (by kernel_rfl) ((zaa (pv 12) (zaa (zf2 (v:=.ty "tuple") rfl T.b_tuple (by kernel_rfl) rfl) zac)))))) (zfk (zap zkn (zau (zbc (K:=K) rfl) rfl T.b_len PySem.boot_len ((zaa (pv 12) zac))) (zaf) (nomark _)) (zfm (zch (zb5 (pe_c c_ArP hr zar .nil ((zaa (pv 1) (zaa (pv 2) (zaa (zau (zbc (K:=K) rfl) rfl T.b_len PySem.boot_len ((zaa (pv 7) zac))) (zaa (zaz (r:=rIxT K) zax (pv 12) (zaf) (λ_ _=>Z)) zac)))))))))))) (zae (zan (zd7))) zav)
  (zad (zba (PW.pt (zfk (zch (zb5 (pe_c c_IsP hr zar .nil ((zaa (pv 1) (zaa (pv 2) (zaa (zaz (r:=rIxT K) zax (pv 12) (zaf) (λ_ _=>Z)) zac))))))) (zfk (zap (zgd (K:=K) rfl hr.units) (pv 10) (pv 8) (nomark _)) (zfm (zap (zv5 (K:=K) rfl (u70 hr)) (pv 11) (pv 7) (nomark _)))))) (zae (zan (zd7))) zav)
  (zad (zaw (i:=13) scLaw.nd rfl (Or.inl rfl) (pe_c c_SumB hr zar .nil ((zaa (pv 1) (zaa (pv 2) (zaa (zaz (r:=rIxT K) zax (pv 12) (zaf) (λ_ _=>Z)) (zaa (pv 7) zac)))))))
  (zad (zc6 (pe_c c_AddB hr zar .nil ((zaa (pv 1) (zaa (pv 13) (zaa (pe_c c_OneB hr zar .nil ((zaa (pv 1) zac))) (zaa (za4 (za9 (K:=K) rfl) rfl T.b_tuple (by kernel_rfl) ((zaa (zbk (N:=["_law_at"]) (Blk.plain (by decide +kernel) (by decide +kernel) rfl (by decide +kernel) zfg) rfl (zbq rfl T.b_range ((zaa (pv 2) zac))) (λC0 s0 H0 fp0=>zcb (i:=0) zfg rfl rfl) (λC0 s0 H0 fp0=>zbj) (λC0 s0 H0 fp0=>zaf)) zac))) (zaa (zaz (r:=rIxT K) zax (pv 12) (zaf) (λ_ _=>Z)) zac))))))))
  (zad (zaw (i:=14) scLaw.nd rfl (Or.inr rfl) (pe_c cLds hr zar .nil ((zaa (pv 3) (zaa (pv 4) (zaa (pv 7) zac))))))
  (zad (zba (PW.pt (zfk (zap (zgd (K:=K) rfl hr.units) (pv 13) (pv 8) (nomark _)) (zfm (zch (zb5 (zau (zf7 (K:=K) rfl rfl) rfl T.b_all (by kernel_rfl) ((zaa (zbk (N:=["_law_term","_law_leads_here"]) (cl:=[("_law_leads_here",s.heap.objs.size+1)]) (mp:=[none,some 14]) (Blk.of rfl (by decide +kernel) rfl (by decide +kernel) zbx (zbe rfl zc2) (zh3 (fs:=["_law_leads_here"]) rfl (by decide +kernel)) rfl (zb1 (zbd rfl (.inl rfl) rfl zc0))) rfl (zce (K:=K) rfl (za4 (zfi rfl) rfl T.b_list (by kernel_rfl) ((zaa (zaz (r:=rIxT K) zax (pv 12) (zaf) (λ_ _=>Z)) zac)))) (λC0 s0 H0 fp0=>zcb (i:=0) zbx rfl rfl) (λC0 s0 H0 fp0=>zbj) (λC0 s0 H0 fp0=>pe_c c_FreB hr zar .nil ((zaa (pv 1) (zaa (pv 0) zac))))) zac)))))))) (zae (zan (zd7))) zav)
  (zad (zba (PW.pt (zfk (zch (zb5 (pe_c c_QGB hr zar .nil ((zaa (pv 7) (zaa (pv 14) (zaa (zaz (r:=rIxT K) zax (pv 12) (zaf) (λ_ _=>Z)) zac))))))) (zfm (zch (zb5 (pe_c c_ApB hr zar .nil ((zaa (zaq zxw (zeu ((zaa (zaz (r:=rIxT K) zax (pv 12) (zaf) (λ_ _=>Z)) zac))) (zaz (r:=rIxT K) zax (pv 12) (zaf) (λ_ _=>Z))) zac)))))))) (zae (zan (zd7))) zav)
  (zae (zan (zih (zdb (zvg (K:=K) rfl (u70 hr)) (pe_c c_Div hr zar .nil ((zaa (pv 9) (zaa (pv 10) (zaa (zeu (zac)) zac))))) (zca ((zaa (zeu (zac)) (zaa (pv 8) zac)))) (nomark _)) (zih (zdb (zk1 hr.units) (pv 10) (pv 8) (nomark _)) (zmd (zdb (zwv (K:=K) rfl (u70 hr)) (pv 11) (pv 7) (nomark _))))))))))))))))))))))))))),?_⟩
 obtain⟨hS,h63,hT,k⟩:=h;refine sab λr hr=>?_
 refine⟨_,Z,a,ns,0,Z,hS,by decide,_,Z,λn H1 e1 n2 n9=>?_⟩;dsimp only[za0];subst hr;refine sab λr hr=>?_
 have hS1:=e1.seq hS;have hT1:=e1 _ _ hT;refine⟨_,Z,a,ns,1,Z,hS1,by decide,_,_,Z,Z,(by show (0:Int)<3;decide),_,_,Z,Z,?_⟩;obtain⟨m,em,m1,m3⟩:∃m:Nat,1+cellOf ns 1%3=(m:Int)/\1<=m/\m<=3:=⟨(1+cellOf ns 1%3).toNat,by omega,by omega,by omega⟩;dsimp only[za0];subst hr;refine sab λr hr=>?_
 rw[em];refine⟨_,Z,a,ns,1,Z,hS1,by decide,_,_,Z,Z,⟨by decide,by decide⟩,_,_,Z,Z,(by show (0:Int)<4;decide),?_⟩;have kd0:0<=cellOf ns 1 / 3%4:=by omega
 have kd4:cellOf ns 1 / 3%4<4:=by omega
 dsimp only[za0];subst hr;refine sab λr hr=>?_
 generalize cellOf ns 1 / 3%4=kd at kd0 kd4 ⊢;have t40:=z0k;refine⟨_,Z,_,Z,a,ns,1,Z,hS1,by decide,_,_,Z,Z,⟨by decide,by decide⟩,_,_,Z,Z,⟨by decide,by decide,by decide⟩,?_⟩;dsimp only;generalize (10:Int)^Int.toNat 40=T40 at t40 ⊢;refine⟨_,_,Z,Z,t40.1,m,_,Z,m3,Jn _ (by omega),Int.lt_trans (Jd _ t40.1) t40.2,λlw ws H2 e2 hlw lws wn wb=>?_⟩;dsimp only[za0];subst hr;refine sab λr hr=>?_
 have hS2:=e2.seq hS1;have hT2:=e2 _ _ hT1;refine⟨_,Z,a,ns,2,Z,hS2,by decide,_,_,Z,Z,(by show (0:Int)<4;decide),_,_,Z,Z,?_⟩;obtain⟨cnt,ec,c2,c5⟩:∃c:Nat,2+cellOf ns 2%4=(c:Int)/\2<=c/\c<=5:=⟨(2+cellOf ns 2%4).toNat,by omega,by omega,by omega⟩;dsimp only[za0];subst hr;refine sab λr hr=>?_
 rw[ec];refine zev (λσ H'=>H'=H2/\σ = [some (.ref a),some (.int n),some (.int m),some (.int kd),some (.ref lw),some (.int cnt),some (.int 20),none,none,none,none,none,none,none,none]) ?_ λN hN=>?_
 rotate_left
 ·exact hN _ _ ⟨Z,Z⟩
 rintro σ0 H2' ⟨rfl,rfl⟩;subst hr;refine sab λr hr=>?_
 refine zev (λσ H'=>∃sz:Nat,H'=H2'/\sz<=44/\σ = [some (.ref a),some (.int n),some (.int m),some (.int kd),some (.ref lw),some (.int cnt),some (.int sz),none,none,none,none,none,none,none,none]) ?_ λN hN=>?_
 rotate_left
 ·refine⟨_,Z,_,_,Z,Z,_,Z,cD (λ_=>?_) (λ_=>?_)⟩
  ·exact hN _ _ ⟨44,Z,by decide,Z⟩
  ·exact hN _ _ ⟨20,Z,by decide,Z⟩
 rintro σ0 H2'' ⟨sz,rfl,s44,rfl⟩;subst hr;refine sab λr hr=>?_
 obtain⟨F,fF,cF⟩:=zzy n n2;obtain⟨cs,ecs,lcs⟩:=zre ns sz;refine⟨_,Z,_,Z,_,Z,_,Z,3,Z,_,Z,_,_,Z,Z,_,Z,a,_,Z,hS2,λq hq=>?_⟩;dsimp only;rw[ecs];have e3:Same H2'' (upd H2'' q (.lst (cs.map V.int))):=Same.upd hq;have hq3:(upd H2'' q (HO.lst (cs.map V.int))) q=some (.lst (cs.map V.int)):=zab;generalize upd H2'' q (HO.lst (cs.map V.int))=H3 at e3 hq3 ⊢;refine⟨F,fF,n,cF,m,cnt,q,cs,Z,n2,n9,m1,m3,by omega,c5,SqL.of hq3,by omega,λb H4 ds0 gs0 nb e4 ld0 pr=>?_⟩;have g4:=e3.trans e4;have hS4:=g4.seq hS2;have hT4:=g4 _ _ hT2;have hlw4:=g4 _ _ hlw;have lwb:lw≠b:=zam (e3 _ _ hlw) nb;clear hS2 hT2 hlw e2 hS1 hT1 e1 hS hT hq3 e3 hq;dsimp only[za0];subst hr;refine sab λr hr=>?_
 obtain⟨j,ej,jl⟩:∃j:Nat,cellOf ns 2 / 4%(cnt:Int)=(j:Int)/\j<ds0.length:=by
  have h1:=Jn (cellOf ns 2 / 4) (show (cnt:Int)≠0 by omega);have h2:=Jd (cellOf ns 2 / 4) (show 0<(cnt:Int) by omega);exact⟨(cellOf ns 2 / 4%(cnt:Int)).toNat,by omega,by omega⟩
 have hdj:ds0[j]? = some (ds0[j]'jl):=Yc _;have mdj:ds0[j]'jl∈ds0:=Jw _;generalize ds0[j]'jl=f at hdj mdj;refine⟨_,Z,.inl ⟨Z,_,SqL.of pr.at_⟩,_,Z,a,ns,2,Z,hS4,by decide,_,_,Z,Z,⟨by decide,by decide⟩,_,Z,_,_,Z,Z,(by show (0:Int)<cnt;omega),?_⟩;dsimp only;rw[ej];refine⟨b,_,_,j,.ref f,Z,Z,pr.at_,by omega,by omega,?_,by rw[Ym,hdj];rfl,?_⟩
 ·unfold seqIndex?;rw[Yd];simp only[show ¬((j:Int)<0) by omega,if_false];rw[Yl (by simp;omega)];simp
 have rc4:=pr.rc m1 m3 jl;obtain⟨kvf,hf4,pf4,lf4⟩:=pr.row j f hdj;have bxf:=pr.bx j;have ibf:IB n 6 5280 (gs0 j):=(pr.ib j).up (Y4 120 (show cs.length<=44 by omega));have bxg:∀i,BxP n m (gs0 (if i<j then i else i+1)):=λi=>pr.bx _
 have ibg:∀i,IB n 6 5280 (gs0 (if i<j then i else i+1)):=λi=>(pr.ib _).up (Y4 120 (show cs.length<=44 by omega))
 have fe:f ∉ ds0.eraseIdx j:=λz=>by
  obtain⟨i,hi⟩:=Je.mp z;rw[List.getElem?_eraseIdx]at hi;by_cases c:i<j
  ·rw[Yl c]at hi;have:=(List.getElem?_inj (zay hi) pr.nd).mp (hi.trans hdj.symm);omega
  ·rw[Yh c]at hi;have:=(List.getElem?_inj (zay hi) pr.nd).mp (hi.trans hdj.symm);omega
 have le:(ds0.eraseIdx j).length=cnt-1:=by rw[List.length_eraseIdx,ld0];simp[show j<cnt by omega]
 have bl:∀{d:Addr} {o:HO},H4 d=some o->(∀ys,o≠.lst ys)->(upd H4 b (.lst ((ds0.map V.ref).eraseIdx j))) d=some o:=λhd no=>(zai (zbs hd pr.at_ (no _))).trans hd
 have rc5:RC n m (upd H4 b (.lst ((ds0.map V.ref).eraseIdx j))) _ _ _:=rc4.keep (zgb pr.at_) λd hd o ho=>by
  obtain⟨kv,hk⟩:=rc4.mem hd;rw[hk]at ho;cases ho;exact bl hk (by intro _ z;cases z)
 have hb5:(upd H4 b (HO.lst ((ds0.map V.ref).eraseIdx j))) b=some (.lst ((ds0.eraseIdx j).map V.ref)):=by
  rw[<- zfa];exact zab
 have hf5:=bl hf4 (by intro _ z;cases z);have pf5:PF n m (upd H4 b (HO.lst ((ds0.map V.ref).eraseIdx j))) kvf (gs0 j):=pf4.fix (zgb pr.at_);have hT5:=bl hT4 (by intro _ z;cases z);have hlw5:(upd H4 b (HO.lst ((ds0.map V.ref).eraseIdx j))) lw=some (.lst (ws.map V.int)):=(zai lwb).trans hlw4;obtain⟨gs,rc5,bxg,ibg⟩:∃gs:Nat->Po F,RC n m (upd H4 b (HO.lst ((ds0.map V.ref).eraseIdx j))) (ds0.eraseIdx j) ((ds0.eraseIdx j).map (zld H4)) gs/\(∀i,BxP n m (gs i))/\∀i,IB n 6 5280 (gs i):=⟨_,rc5,bxg,ibg⟩;generalize gs0 j = φ at pf5 bxf ibf;generalize ds0.eraseIdx j=ds at rc5 hb5 fe le;generalize ds.map (zld H4)=kvss at rc5;dsimp only[za0];subst hr;refine sab λr hr=>?_
 generalize upd H4 b (HO.lst ((ds0.map V.ref).eraseIdx j))=H5 at rc5 hb5 hf5 pf5 hT5 hlw5 ⊢;clear bl rc4 hf4 pf4 lf4 hdj mdj pr hS4 hT4 hlw4 jl ej lcs ecs g4 e4 nb ld0;have l4:ds.length<=4:=by omega
 refine⟨_,Z,_,Z,n,Z,n2,n9,λpf H6 e6 hpf=>?_⟩;obtain⟨CO,O⟩:=hord kd ws kd0 kd4 wn wb;refine⟨_,Z,_,Z,lw,kd,ws,Z,kd0,kd4,e6 _ _ hlw5,by omega,wn,λpo H7 e7 hat x dx nx ndx ne=>?_⟩;have e8:Same H7 (upd (upd H7 dx (.own x)) x (.ins za2 dx [])):=λb o hb=>by
  rw[zai (zam hb nx),zai (zam hb ndx)];exact hb
 refine⟨x,dx,m,pf,po,kd,ws,Z,zab,kd0,kd4,wn,wb,O.oC.same e8 hat,.inl ⟨⟨by omega,by omega,?_⟩,λH8 h1 h2=>⟨Z,?_⟩⟩⟩
 ·unfold fbK;split
  ·exact Yo (by omega)
  ·rfl
 have e8':Same H7 H8:=λb o hb=>h2 b o (e8 _ _ hb) (zam hb nx)
 have g8:=(e6.trans e7).trans e8';have hR8:RgP za2 zag zao zas zal zat zaj H8 x ⟨m,pf,po,n,kd,ws⟩:=⟨n9,n2,m1,Nat.le_succ_of_le m3,kd0,kd4,wn,wb,⟨dx,h1⟩,ziq (.of (e7.trans e8')) hpf,O.oC.same e8' hat⟩;have rc8:=rc5.same g8;have hb8:=g8 _ _ hb5;have hf8:=g8 _ _ hf5;have pf8:=pf5.same g8;have hT8:=g8 _ _ hT5;have hlw8:=g8 _ _ hlw5;clear e8 h1 h2 e8' g8 hat O hpf e6 e7 nx ndx ne rc5 hb5 hf5 pf5 hT5 hlw5;dsimp only[za0];subst hr;refine sab λr hr=>?_
 have hds:=hdsB m1 m3 pf8 bxf;refine⟨_,Z,f,kvf,Z,hf8,hds,λfh nfh=>?_⟩;have e9:Same H8 (upd H8 fh (.dT kvf)):=Same.upd nfh;have hfh9:(upd H8 fh (HO.dT kvf)) fh=some (.dT kvf):=zab;dsimp only[za0];subst hr;refine sab λr hr=>?_
 generalize upd H8 fh (HO.dT kvf)=H9 at e9 hfh9 ⊢;refine⟨_,Z,b,ds,kvss,Z,e9 _ _ hb8,rc8.len,by omega,λi d kvs h1 h2=>⟨((rc8.same e9).row i d kvs h1 h2).1,(rc8.row i d kvs h1 h2).2.2⟩,λDr dh HA nDr eA hDr ldh hdh=>?_⟩;have gA:=e9.trans eA;have rcA:=rc8.same gA;have rchA:RC n m HA dh kvss gs:=rcA.copy ldh hdh;have hRA:=hR8.same gA;have pfA:=pf8.same gA;have hfhA:=eA _ _ hfh9;have hfA:=gA _ _ hf8;have hbA:=gA _ _ hb8;have hTA:=gA _ _ hT8;have hlwA:=gA _ _ hlw8;clear hR8 rc8 hb8 hf8 pf8 hT8 hlw8 hfh9 e9 eA hdh nDr nfh gA;have O1:OrdM (rkk kd ws) m:=hRA.om;obtain⟨α,la,a1,as4,ad⟩:=zsm O1 m1 m3 (d:=tpB n m) (tpc n m1 m3).2.1 (tpc n m1 m3).2.2;have dvh:=zym O1 m1 m3 bxg ibg bxf ibf la a1 as4 ad;have U169:=(U_ok m1 m3 α).2;dsimp only[za0];subst hr;refine sab λr hr=>?_
 refine⟨_,Z,_,Z,_,Z,F,fF,x,fh,Dr,⟨m,pf,po,n,kd,ws⟩,cF,dh,kvss,gs,kvf,φ,Uof m α,_,Z,hRA,rchA.toRow hDr (by omega),λi=>zyl (bxg i),hfhA,pfA,hds,dvh,λHB pp ql rd qds qq S ρ R lds rvs eB hpp qts lq hrd prr lo dv r1 r2 r3 r4=>?_⟩;obtain⟨sJ,lfJ,sJl,cj⟩:=r4;replace qts:Qts n m HB ql qds qq:=qts;replace prr:PF n m HB rvs ρ:=prr;replace cj:=cj.up (show 13+14*sJ<=2379 by omega);obtain⟨DD,dd0,dd1,ibq,ibρ⟩:=cj.ib;dsimp only[za0];subst hr;refine sab λr hr=>?_
 refine⟨_,Z,_,_,_,_,_,Z,Z,.tup hpp,T.ktt,_,Z,iteF ?_⟩;refine⟨_,Z,pp,_,Z,.inr (SqT.of hpp),Z,_,Z,zsq rfl ?_⟩;refine⟨_,Z,_,Z,_,Z,b,_,Z,.inl (SqL.of (eB _ _ hbA)),_,Z,pp,_,0,_,Z,Z,SqT.of hpp,atI0,F,fF,n,cF,m,ql,qds,qq,?_,n2,by omega,by omega,qts,λHC eC=>⟨_,Z,iteF ?_⟩⟩
 ·rw[Yd,lq,ldh];rfl
 show r _ _ _;subst hr;refine sab λr hr=>?_
 refine⟨_,Z,_,Z,_,Z,pp,_,1,_,Z,Z,SqT.of (eC _ _ hpp),atI1,F,fF,n,cF,m,rd,rvs,ρ,Z,n2,by omega,eC _ _ hrd,prr.same eC,λHD eD=>⟨_,Z,iteF ?_⟩⟩;have cD:=eC.trans eD;have gD:=eB.trans cD;refine⟨_,Z,_,Z,zlk (gD _ _ hfhA) (gD _ _ hfA) (pfA.same gD) (pfA.same gD) true (λ_=>Z) ⟨_,Z,iteF ?_⟩⟩;refine⟨_,Z,_,Z,zqa (gD _ _ hDr) (gD _ _ hbA) (rchA.same gD) (rcA.same gD) true ⟨_,Z,iteF ?_⟩⟩;show r _ _ _;subst hr;refine sab λr hr=>?_
 have dv':Dvd (rkk kd ws) m ds.length φ gs lds qq S ρ R:=by rw[<- ldh];exact dv
 have lo':LdsOk (rkk kd ws) m ds.length gs lds:=by rw[<- ldh];exact lo
 have lrv:rvs.length<=169:=Yr (zhb prr cj.2.1) U169;have d6:(DD*6).natAbs<2^2420:=Yf (zel dd1 (show (6:Int).natAbs<2^3 by decide)) (Yv (by decide) (by decide));have d60:DD*6≠0:=λz=>by rcases Int.mul_eq_zero.mp z with z | z;exact dd0 z;exact absurd z (by decide)
 have A1:2^2379<2^2380:=Nat.pow_lt_pow_right (by decide) (by decide);have sumH:SumH n m HD ql qds qq b ds kvss gs DD 6 (2^2379) 5280 169 169 2380 13 2420:={
  qt:=qts.keep (.of cD) (λo=>cD _ o) (λ_ _ o=>cD _ o)
  rw_:=(rcA.same gD).toRow (gD _ _ hbA) (by omega)
  ll:=by omega
  dj:=λd hd hd'=>by
   obtain⟨kv,hk⟩:=rcA.mem hd';have:=r2 d hd;rw[hk]at this;cases this
  d0:=dd0
  e0:=by decide
  qa:=ibq
  gb:=ibg
  lq:=λi d kvs h1 h2=>by
   obtain⟨kv,q1,q2⟩:=qts.row i d h1;have:=cD _ _ q1;rw[h2]at this;cases this;exact Yr (zhb q2 (cj.1 i)) U169
  lg:=λi d kvs h1 h2=>by
   have li:i<kvss.length:=by rw[<- rcA.len];exact zay h1
   obtain⟨q1,q2,_⟩:=rcA.row i d _ h1 (Yc li);have:=gD _ _ q1;rw[h2]at this;cases this;exact Yr (zhb q2 λt ht=>bx_U m1 m3 la a1 as4 (bxg i) ht) U169
  b1:=⟨A1,dd1⟩
  b2:=⟨by decide,by decide⟩
  b3:=⟨zx6 l4,d6⟩
  b4:=by decide
  b5:=Yp (Y4 169 (Nat.succ_le_succ (Y4 169 l4))) (by decide) }
 refine⟨_,Z,_,Z,_,Z,pp,_,0,_,Z,Z,SqT.of (cD _ _ hpp),atI0,_,Z,F,fF,n,cF,m,ql,qds,qq,b,ds,kvss,gs,DD,6,_,_,_,_,_,_,_,Z,n2,n9,by omega,sumH,λtt HE kvt ntt eE htt hsum lkt=>?_⟩;obtain⟨pft,ibt⟩:=hsum S dv'.snd dv'.sup;dsimp only[za0];subst hr;refine sab λr hr=>?_
 refine⟨_,Z,_,Z,_,Z,F,fF,n,cF,Z,n2,λv1 HF eF hv1=>?_⟩;rw[zfn]at hv1;refine zcz (H1:=HF) (m:Int) (λσ=>∃v,σ = [v]) (λ_=>true) (λi=>.int 0) (by omega) (by omega) ?_ ⟨none,Z⟩ ?_ λDA HA' eA' hLA=>?_
 ·exact λR hR=>⟨_,Z,hR⟩
 ·rintro q' σ' HB' hq' ⟨z,rfl⟩ eB' Ny Nn hy hn;unfold tYes;dsimp only[za0];rw[Yl rfl];exact hy _ _ ⟨_,rfl⟩ (Same.refl _) rfl
 rw[Y1,Yu.mpr (λ_ _=>Z)]at hLA;have ez:(List.range m).map (λ_=>V.int 0)=(zer m).map V.int:=by
  rcases(by omega:m=1\/m=2\/m=3) with rfl | rfl | rfl <;> rfl
 rw[ez]at hLA;refine⟨DA,_,Z,.inl ⟨SqL.of hLA,λzt nzt=>?_⟩⟩;have eK:Same HA' (upd HA' zt (.tup ((zer m).map V.int))):=Same.upd nzt;have hzK:(upd HA' zt (HO.tup ((zer m).map V.int))) zt=some (.tup ((zer m).map V.int)):=zab;generalize upd HA' zt (HO.tup ((zer m).map V.int))=HK at eK hzK ⊢;have gEK:=(eF.trans eA').trans eK;have gDK:=eE.trans gEK;have cK:=cD.trans gDK;have trd:tt≠rd:=λz=>zam (cD _ _ hrd) ntt z.symm
 have l1:Lim n 2 (1:F):=.of (T:=1) (B:=1) (by decide) (by rw[zfn];grind) (by decide) (by decide);have lkt2:kvt.length<=114244:=Yr lkt (Y4 169 (Y4 169 l4));refine⟨_,Z,pp,_,1,_,Z,Z,SqT.of (cK _ _ hpp),atI1,F,fF,n,cF,m,tt,v1,zt,rd,kvt,rvs,_,ρ,1,zer m,2,2380,2420,Z,n2,n9,by omega,trd,hv1.same (eA'.trans eK),hzK,T0.zer m,gEK _ _ htt,cK _ _ hrd,pft.same gEK,prr.same cK,zlt _ (by omega),l1,ibρ.lim dd0 A1 dd1,ibt.lim d60 (zx6 l4) d6,by decide,λHG kvt' kpG htG pfG lG=>?_⟩;have sG:Same HD HG:=λb' o hb'=>kpG _ _ (gDK _ _ hb') λz=>zam hb' ntt (Yq.mp z)
 have cG:=cD.trans sG;have gG:=gD.trans sG;have pfT:PF n m HG kvt' φ:=pfG.congr λt=>by
  rw[zxt prr.sp,dv'.eq t];grind
 clear sumH pft ibt hsum lkt lkt2 hLA eA' eK hzK gEK gDK cK l1 kpG pfG lG eF hv1 htt eE eC eD;have hTG:=gG _ _ hTA;dsimp only[za0];subst hr;refine sab λr hr=>?_
 refine⟨_,Z,_,Z,_,Z,F,fF,n,lw,b,kd,ws,m,ds,kvss,gs,Z,kd0,kd4,gG _ _ hlwA,lws,wn,wb,m1,by omega,(rcA.same gG).toRow (gG _ _ hbA) (by omega),λi=>zyl (bxg i),.inl hTG,λDL HL ldl nDL lll kL hTL hLd hl1 hl2=>?_⟩;have kp:∀{b':Addr} {o:HO},HG b'=some o->(∀ps,o≠.tbl ps)->HL b'=some o:=λhb no=>kL _ _ hb (zbs hb hTG (no _))
 have kt:∀b xs,HG b=some (.tup xs)->HL b=some (.tup xs):=λb xs hb=>kp hb (by intro _ z;cases z)
 have htL:=kp htG (by intro _ z;cases z);have pfTL:=pfT.keep kt;have hfL:=kp (gG _ _ hfA) (by intro _ z;cases z);have pfL:=(pfA.same gG).keep kt;have hppL:=kp (cG _ _ hpp) (by intro _ z;cases z);have hrdL:=kp (cG _ _ hrd) (by intro _ z;cases z);have prL:=(prr.same cG).keep kt;have rcL:RC n m HL ds kvss gs:=(rcA.same gG).keepT kt λd hd o ho=>by
  obtain⟨kv,hk⟩:=(rcA.same gG).mem hd;rw[hk]at ho;cases ho;exact kp hk (by intro _ z;cases z)
 have hbL:=kp (gG _ _ hbA) (by intro _ z;cases z);have qtL:Qts n m HL ql qds qq:=⟨kp (cG _ _ qts.at_) (by intro _ z;cases z),qts.nd,λi d hd=>by
  obtain⟨kv,q1,q2⟩:=qts.row i d hd;exact⟨kv,kp (cG _ _ q1) (by intro _ z;cases z),(q2.same cG).keep kt⟩⟩
 have ldm:∀i l,ldl[i]? = some (some l)->(i,l)∈lds/\T0 m l/\gs i l≠0:=λi l h=>by
  have:=hl1 i l h;exact⟨zlc lo' rcA.out this,lo'.sp i l this.1,this.1⟩
 dsimp only[za0];subst hr;refine sab λr hr=>?_
 refine⟨_,Z,_,Z,zlk htL hfL pfTL pfL true (λ_=>Z) ⟨_,Z,iteF ?_⟩⟩;refine zit ⟨_,Z,pp,_,1,_,Z,Z,SqT.of hppL,atI1,rd,rvs,Z,.inl hrdL,λlt as nlt las hi=>?_⟩;have eM:Same HL (upd HL lt (.lst (as.map V.ref))):=Same.upd nlt;have hltM:(upd HL lt (HO.lst (as.map V.ref))) lt=some (.lst (as.map V.ref)):=zab;have hpM:=pimp (λ_ _ h=>Trm.same eM h) (tms_list (m:=m) (l:=lt) prL.keys las hi);generalize upd HL lt (HO.lst (as.map V.ref))=HM at eM hltM hpM ⊢;refine⟨lt,Z,⟨_,SqL.of hltM⟩,λD hD=>?_⟩;refine zqj (zcl (SqL.of hltM)) hD (zl _ (by rw[Yd,las];omega)) (λσ=>∃v,σ = [v,some (.ref DL)]) (λ_=>true) (λi v H'=>v=.bl true) (λi v H1 H2 e h=>h) (λi v H1 ys ys' hy h=>h) ⟨none,Z⟩ ?_ λHN ys eN hLN hpN=>?_
 ·rintro i v σ' H' hi' ⟨z,rfl⟩ e' hv _ Ny Nn hy hn;obtain⟨t,ht,a',rfl,ha'⟩:=pget hpM hv;have tm : ρ t≠0:=prL.tmem.mp (Yx ht);obtain⟨t0,tg⟩:=dv'.ri t tm;unfold tYes;dsimp only[za0];rw[Yl rfl];refine⟨_,rfl,_,rfl,DL,a',ldl,t,rfl,hLd.keep (λb xs hb=>(eM.trans e') _ _ hb) (λo ho=>(eM.trans e') _ _ ho),by omega,e' _ _ ha',by rw[t0.len];omega,λi l hl=>?_,λH'' e''=>hy _ _ _ ⟨_,rfl⟩ e'' rfl rfl⟩;obtain⟨q1,q2,_⟩:=ldm i l hl;exact⟨tg _ q1,by rw[q2.len,t0.len]⟩
 rw[Yu.mpr (λ_ _=>Z)]at hpN;have gN:=eM.trans eN;refine⟨D,_,Z,SqL.of (by rw[hLN,zr0 hpN]),?_⟩;have ea:((List.range (as.map V.ref).length).map λ_=>true).all id=true:=by simp
 rw[ea];refine⟨_,Z,iteF ?_⟩;show r _ _ _;subst hr;refine sab λr hr=>?_
 refine⟨_,Z,_,Z,_,Z,pp,_,0,_,Z,Z,SqT.of (gN _ _ hppL),atI0,F,fF,n,m,b,DL,ql,ds,qds,kvss,gs,qq,ldl,Z,by omega,(rcL.same gN).toRow (gN _ _ hbL) (by omega),by omega,qtL.keep (.of gN) (λo=>gN _ o) (λ_ _ o=>gN _ o),by omega,hLd.keep (λb xs hb=>gN _ _ hb) (λo ho=>gN _ _ ho),lll,λi l hl=>⟨(ldm i l hl).2.1.len,(ldm i l hl).2.2⟩,λi o ho=>?_,λHO' eO=>⟨_,Z,iteF ?_⟩⟩
 ·obtain⟨o0,l,ft⟩:=dv'.qi i o ho;obtain⟨ik,hld⟩:=lo'.ld i l ft.mem;have li:i<ldl.length:=by omega
  have hli:ldl[i]? = some (ldl[i]'li):=Yc _;generalize ldl[i]'li=ov at hli
  cases ov with
  | none=>exact absurd (hl2 i hli l) hld.1
  | some l2=>
   have:=(hl1 i l2 hli).one hld;subst this;exact⟨l2,hli,λj' l' hj' hl'=>ft.first _ (ldm j' l' hl').1 hj'⟩
 have gO:=gN.trans eO;refine⟨_,Z,pp,_,1,_,Z,Z,SqT.of (gO _ _ hppL),atI1,(by show 1<=sizeLine;decide),λl1 nl1=>?_⟩;have eP:Same HO' (upd HO' l1 (.lst [V.ref rd])):=Same.upd nl1;have hl1P:(upd HO' l1 (HO.lst [V.ref rd])) l1=some (.lst [V.ref rd]):=zab;generalize upd HO' l1 (HO.lst [V.ref rd])=HP at eP hl1P ⊢;have gP:=gO.trans eP;refine⟨_,Z,pp,_,0,_,Z,Z,SqT.of (gP _ _ hppL),atI0,l1,ql,_,_,Z,Z,hl1P,gP _ _ qtL.at_,(by rw[Yd];exact Yr (show 1+qds.length<=5 by omega) (by decide)),λlp nlp=>?_⟩;have eX:Same HP (upd HP lp (.lst ([V.ref rd]++qds.map V.ref))):=Same.upd nlp;have hlpX:(upd HP lp (HO.lst ([V.ref rd]++qds.map V.ref))) lp=some (.lst ((rd::qds).map V.ref)):=zab;generalize upd HP lp (HO.lst ([V.ref rd]++qds.map V.ref))=HX at eX hlpX ⊢;have gX:=gP.trans eX;refine⟨lp,rd::qds,rvs::qds.map (zld HX),Z,hlpX,List.nodup_cons.mpr ⟨r3,qts.nd⟩,(by show qds.length+1<=1000;omega),(by rw[Y5,Y5,Yd]),λi d kvs h1 h2=>?_,λHZ kZ=>⟨_,Z,iteF ?_⟩⟩
 ·match i with
  | 0=>
   cases h1;cases h2;exact⟨gX _ _ hrdL,λp hp=>let ⟨t,e,_⟩:=prL.ks p hp;⟨t,e⟩,by omega⟩
  | i+1=>
   have h1:qds[i]? = some d:=h1;have h2:(qds.map (zld HX))[i]? = some kvs:=h2;rw[Ym,h1]at h2;injection h2 with h2
   obtain⟨kv,q1,q2⟩:=qtL.row i d h1;have q3:=gX _ _ q1;rw[zmz q3]at h2;subst h2;exact⟨q3,λp hp=>let ⟨t,e,_⟩:=q2.ks p hp;⟨t,e⟩,Yr (zhb q2 (cj.1 i)) (by omega)⟩
 show r _ _ _;subst hr;have kA:∀{b':Addr} {o:HO},HA b'=some o->(∀ps,o≠.tbl ps)->HZ b'=some o:=fun{b' o} hb no=>by
  refine kZ _ _ (gX _ _ (kp (gG _ _ hb) no)) λz=>?_
  rcases Yj.mp z with z | z
  ·rw[z,r1]at hb;cases hb
  ·rw[r2 _ z]at hb;cases hb
 have ktA:∀b xs,HA b=some (.tup xs)->HZ b=some (.tup xs):=λb xs hb=>kA hb (by intro _ z;cases z)
 have hRZ:=zwa (H':=HZ) (λb C dx fs hb=>kA hb (by intro _ z;cases z)) ktA hRA;have pfZ:=pfA.keep ktA;have hfhZ:=kA hfhA (by intro _ z;cases z);have hfZ:=kA hfA (by intro _ z;cases z);have hbZ:=kA hbA (by intro _ z;cases z);have hDrZ:=kA hDr (by intro _ z;cases z);have rcZ:RC n m HZ ds kvss gs:=rcA.keepT ktA λd hd o ho=>by
  obtain⟨kv,hk⟩:=rcA.mem hd;rw[hk]at ho;cases ho;exact kA hk (by intro _ z;cases z)
 have rchZ:RC n m HZ dh kvss gs:=rchA.keepT ktA λd hd o ho=>by
  obtain⟨kv,hk⟩:=rchA.mem hd;rw[hk]at ho;cases ho;exact kA hk (by intro _ z;cases z)
 refine⟨_,Z,_,Z,(by show 0<=sizeLine;decide),λle' nle=>?_⟩;have e1:Same HZ (upd HZ le' (.lst [])):=Same.upd nle;have hle1:(upd HZ le' (HO.lst [])) le'=some (.lst (([]:List Addr).map V.ref)):=zab;generalize upd HZ le' (HO.lst [])=J1 at e1 hle1 ⊢;have dv0:=zym (gs:=λ_ _=>0) O1 m1 m3 (λi t z=>absurd rfl z) (λi=>IB.zero) bxf ibf la a1 as4 ad;refine⟨F,fF,x,fh,le',⟨m,pf,po,n,kd,ws⟩,cF,[],[],λ_ _=>0,kvf,φ,Uof m α,_,Z,hRZ.same e1,⟨hle1,Z,(λi d hd=>by simp at hd),λ_ _ _=>Z,by decide⟩,(λi t z=>absurd rfl z),e1 _ _ hfhZ,pfZ.same e1,hds,dv0,λJ2 pp2 ql2 rd2 qds2 q2 S2 ρ2 R2 lds2 rv2 f2 hpp2 qts2 lq2 hrd2 pr2 lo2 dv2 _ _ _ _=>?_⟩;have q20:qds2=[]:=List.eq_nil_of_length_eq_zero lq2;subst q20;have hρ2:∀t,ρ2 t = φ t:=λt=>by
  rw[dv2.eq t];show ρ2 t=0 + ρ2 t;grind
 refine⟨(by show 0<=sizeLine;decide),λl0 nl0=>?_⟩;have f3:Same J2 (upd J2 l0 (.lst [])):=Same.upd nl0;have hl03:(upd J2 l0 (HO.lst [])) l0=some (.lst []):=zab;generalize upd J2 l0 (HO.lst [])=J3 at f3 hl03 ⊢;refine⟨_,Z,(by show 2<=sizeLine;decide),λtp ntp=>?_⟩;have f4:Same J3 (upd J3 tp (.tup [V.ref l0,V.ref f])):=Same.upd ntp;have htp4:(upd J3 tp (HO.tup [V.ref l0,V.ref f])) tp=some (.tup [.ref l0,.ref f]):=zab;generalize upd J3 tp (HO.tup [V.ref l0,V.ref f])=J4 at f4 htp4 ⊢;have g24:=f3.trans f4;have g14:=(e1.trans f2).trans g24;refine⟨pp2,tp,ql2,l0,rd2,f,true,Z,Z,g24 _ _ hpp2,htp4,g24 _ _ qts2.at_,f4 _ _ hl03,zt5 (g24 _ _ hrd2) (g14 _ _ hfZ) (PF.same g24 pr2) (pfZ.same g14) hρ2,_,Z,iteT ?_⟩;refine⟨_,Z,_,Z,zlk (g14 _ _ hfhZ) (g14 _ _ hfZ) (pfZ.same g14) (pfZ.same g14) false (λ_=>Z) ⟨_,Z,iteT ?_⟩⟩;exact⟨_,Z,_,Z,zqa (g14 _ _ hDrZ) (g14 _ _ hbZ) (rchZ.same g14) (rcZ.same g14) false (k _)⟩
end
end K6
namespace PySem.W.Fast
def tw9431416692377472934:=0
def tw10264935401762874370:=0
def tw18028797302732689249:=0
def tw2627407982893099643:=0
def tw18414184940571302058:=0
def tw15126708859198189281:=0
def tw9382915668113509095:=0
def tw14689924795184900291:=0
def tw5202671383693013610:=0
def tw17937173993404059032:=0
def tw4778694786291681956:=0
def tw6798755636634161838:=0
def tw4172335762952443197:=0
def tw9982381024555411407:=0
def tw4487880210202372224:=0
def tw5038436242433009627:=0
def tw10751381753580994241:=0
def tw7862427626410345735:=0
def tw9919770357861210661:=0
def tw17210231982900196256:=0
def tw5457610012122595095:=0
def tw14075782923765721062:=0
def tw5112506950874770684:=0
def tw16003295797775491745:=0
def tw4812092257871100555:=0
def tw2193170644256748359:=0
def tw17716940668491841528:=0
def tw2342333524533094833:=0
def tw14255936992722448300:=0
def tw17853592693111942983:=0
def tw8340617129020821926:=0
def tw15996671397699934652:=0
def tw13299606367997180845:=0
def tw11734387140633610427:=0
def tw2616068998409368094:=0
def tw15597195444869227687:=0
def tw10367640734775107131:=0
def tw1384628451293999040:=0
def tw4184036671724166040:=0
def tw3262271249278886917:=0
def tw13341546323891718838:=0
def tw1018742212770685487:=0
def tw3135488167196678631:=0
def tw1691228691689210943:=0
def tw17508060814033180267:=0
def tw14496714477367368349:=0
def tw9079905809994470814:=0
def tw3500077424007994242:=0
def tw12374522335415572130:=0
def tw5113413243680744498:=0
def tw13582875624494902883:=0
def tw6776788896637475305:=0
def tw3117870945758025423:=0
def tw4118468628596556628:=0
def tw10798837300925311056:=0
def tw17708713859286166331:=0
def tw14876690278121068679:=0
def tw16067160725697299236:=0
def tw16217238961619374158:=0
def tw11592115673217770520:=0
def tw12142092923883687088:=0
def tw11565727237603498322:=0
def tw4205031766166855963:=0
def tw5892988710839121982:=0
def tw5329666801798580531:=0
def tw2624074227808181379:=0
def tw17039404066062663652:=0
def tw15438677933573393158:=0
def tw15425183673222083355:=0
def tw5649901502753210456:=0
def tw14458225794818037632:=0
def tw11476126798065732067:=0
def tw11385707759566411368:=0
def tw1290770530508762233:=0
def tw3163612931150096952:=0
def tw13878102851407855318:=0
def tw11207460217436228850:=0
def tw9598733249416539478:=0
def tw8985788374747876510:=0
def tw7600391330705622967:=0
def tw11425093212988764644:=0
def tw813852379811017002:=0
def tw15173610980605831817:=0
def tw6485557722572262647:=0
def tw978702472065422330:=0
def tw17793654476309509890:=0
def tw16508292832021132084:=0
def tw13466289395211265934:=0
def tw4203840216909064224:=0
def tw1390371968395288931:=0
def tw17857193639580295905:=0
def tw241944202757919516:=0
def tw6088039474894986948:=0
def tw6208522799201885059:=0
def tw16067137656947702562:=0
def tw13813022760286446774:=0
def tw213962713120250955:=0
def tw6421834031554044923:=0
def tw10797374637764505947:=0
def tw4615734020600998602:=0
def tw1267975985667445463:=0
def tw4662598672341198054:=0
def tw7257323780199450806:=0
def tw6607990369239545347:=0
def tw4070268955499174865:=0
def tw15154291483505674207:=0
def tw5404927013047352669:=0
def tw14446817199381008674:=0
def tw2103801229400449417:=0
def tw14922276109832801455:=0
def tw4214513252059563312:=0
def tw14252692457882636778:=0
def tw17690782480694535620:=0
def tw15754931966029580248:=0
def tw13843902726850953081:=0
def tw7680864271973703999:=0
def tw9697159496491028045:=0
def tw8551178474522099226:=0
def tw8234378650025084382:=0
def tw17088799501351116481:=0
def tw10875916837740576203:=0
def tw8975244744585324238:=0
def tw7246834766133337829:=0
def tw17537301240363774062:=0
def tw15121958476925316972:=0
def tw482749853326738082:=0
def tw11260550444020123963:=0
def tw2728029819131818603:=0
def tw11240743577585788733:=0
def tw9224128078937052397:=0
def tw2254985581341769505:=0
def tw13783638342384650536:=0
def tw12104752646694411354:=0
def tw3763825883660255773:=0
def tw11154473269329184499:=0
def tw3287552172220991433:=0
def tw14205662656127657680:=0
def tw8415946224043425175:=0
def tw7306297999238038316:=0
def tw9499568907427273377:=0
def tw14429468312199030267:=0
def tw2474554760912133820:=0
def tw9754620175540719077:=0
def tw15663272262081795373:=0
def tw6785907107604911618:=0
def tw4520011129558617524:=0
def tw7571278786948290903:=0
def tw12030558182784077868:=0
def tw13185760294620974771:=0
def tw339080326895410653:=0
def tw17485233408471821371:=0
def tw1364424618159323744:=0
def tw5565996501062777180:=0
def tw9204365515833384460:=0
def tw11504931401694242276:=0
def tw13000167832272080311:=0
def tw14552949612931494031:=0
def tw7405135987602290884:=0
def tw16313487278465561114:=0
def tw15825716954154925596:=0
def tw12936424054367488753:=0
def tw13925271347727562821:=0
def tw5757299614883736003:=0
def tw16790999650721027979:=0
def tw12719959864011025765:=0
def tw14800739373902217948:=0
def tw1279776972919778117:=0
def tw827807723186248530:=0
def tw16389294624535615758:=0
def tw4291007347571473762:=0
def tw15761717125153184257:=0
def tw995061289246448727:=0
def tw9233120915146984504:=0
def tw6949736269941753047:=0
def tw9386800125654597657:=0
def tw14480735672729568654:=0
def tw12768002181217165972:=0
def tw4988993961065869920:=0
def tw9564943122648517606:=0
def tw7163961216026383700:=0
def tw8519116924594849634:=0
def tw9337388510004425794:=0
def tw14150805644174756466:=0
def tw457186998511780801:=0
def tw864848367856167037:=0
def tw14579419837549555512:=0
def tw11345753950088728657:=0
def tw557156618083924647:=0
def tw6950158584394877172:=0
def tw15931605849112818712:=0
def tw8158710188507044659:=0
def tw6785787134023003340:=0
def tw9897006898048275581:=0
def tw4498173742688000574:=0
def tw11516766228972089963:=0
def tw9321601665087223934:=0
def tw7757015714627830621:=0
def tw18125920762226174932:=0
def tw14288510162732827578:=0
def tw10951691945489953605:=0
def tw7718314477688316092:=0
def tw15101262208184739346:=0
def tw15134872325687835189:=0
def tw5703985214124340644:=0
def tw17754314404306115528:=0
def tw8291551778870591432:=0
def tw13534735883810914052:=0
def tw7718018277861437831:=0
def tw13219169565927848545:=0
def tw10407714131867479996:=0
def tw8193346233563175675:=0
def tw7959614693491523893:=0
def tw16493612217209508767:=0
def tw6200187075266591962:=0
def tw16376291545843683292:=0
def tw6312230015677726179:=0
def tw7300900924706515347:=0
def tw12165524043834866474:=0
def tw17253337910449402410:=0
def tw4432417363536597616:=0
def tw4600733284681829288:=0
def tw3456348739430613207:=0
def tw12570375269078274906:=0
def tw5829332365016006756:=0
def tw3407938796602012144:=0
def tw8181054058063160542:=0
def tw17738770514467771288:=0
def tw11128367914332784933:=0
def tw4565184315764933215:=0
def tw12307082181091546294:=0
def tw1877216581244929640:=0
def tw17803134398424011020:=0
def tw4844344714589231023:=0
def tw1962455926285776568:=0
def tw2627430708697652997:=0
def tw3707297824614718044:=0
def tw10002320803003367222:=0
def tw11240291605454596967:=0
def tw9739633997645118028:=0
def tw13417388930476402151:=0
def tw12179102205231271428:=0
def tw1161776997924949591:=0
def tw7336981499495868418:=0
def tw2823070941583967659:=0
def tw16175514109871396477:=0
def tw5704534393676733985:=0
def tw15975727314534675563:=0
def tw7681571974177049591:=0
def tw7880396986631402406:=0
def tw11652266299606005781:=0
def tw12499267794686622046:=0
def tw14026890396588876291:=0
def tw9230794694067118754:=0
def tw4972702992235075457:=0
def tw14577935405172768785:=0
def tw9401709733124185827:=0
def tw11566838136659947329:=0
def tw13305291280983451602:=0
def tw6383797264923885776:=0
def tw2383785537248193746:=0
def tw10345147607392514952:=0
def tw5866055697072997580:=0
def tw922855344013059514:=0
def tw5190144565743341994:=0
def tw9862937962100336274:=0
def tw12776351562999112880:=0
def tw13942093386370264679:=0
def tw3245787170383000780:=0
def tw12683105080518578942:=0
def tw3462010176686513915:=0
def tw10945898996338295025:=0
def tw16763119824334343350:=0
def tw3960708269544312465:=0
def tw9643483051904116808:=0
def tw14090605134801938900:=0
def tw15095880939228556583:=0
def tw3390469661164473897:=0
def tw8618804177972624736:=0
def tw1373318404261091759:=0
def tw14453460350908152788:=0
def tw4641465499582828146:=0
def tw15984887969398679458:=0
def tw9155930680638646952:=0
def tw15092986750851779092:=0
def tw4039521731064120510:=0
def tw12890451173866874601:=0
def tw14679634384688250271:=0
def tw17397231899991981177:=0
def tw1145063527854921323:=0
def tw7240601356255259951:=0
def tw2205813389124730552:=0
def tw16165350117591370485:=0
def tw5105047862588866189:=0
def tw17481280390430059098:=0
def tw626312522567946159:=0
def tw9521635839336061836:=0
def tw8677104096930893275:=0
def tw11765133605841178409:=0
def tw6640514031604427518:=0
def tw3861229777312816788:=0
def tw15481885073175554749:=0
def tw2909791362381496895:=0
def tw10908152450848385189:=0
def tw8565967514575495010:=0
def tw4974727448255424617:=0
def tw198254399471525500:=0
def tw795999217594482421:=0
def tw641512663454028747:=0
def tw14338002096366259490:=0
def tw17219551422445670609:=0
def tw242227089783546601:=0
def tw621935788636480947:=0
def tw5668197396836296336:=0
def tw3456599879115569526:=0
def tw16517239864563616965:=0
def tw5173814382558499205:=0
def tw10989198555764832978:=0
def tw5183850553098491797:=0
def tw18041934777357395484:=0
def tw12215042906942879960:=0
def tw1464458057430354316:=0
def tw13484129586710414594:=0
def tw13009323642286163235:=0
def tw14063289845870439974:=0
def tw10782543854474423490:=0
def tw5756696843526911463:=0
def tw13659573785866931826:=0
def tw3905735188698193727:=0
def tw15015766524822275158:=0
def tw5836017565233165246:=0
def tw16294373378340279079:=0
def tw3048985281979907022:=0
def tw1434093194476594788:=0
def tw3392034933317893077:=0
def tw7218344102482154890:=0
def tw2930240702968328726:=0
def tw12716894662940489659:=0
def tw6217621644922499488:=0
def tw5819094482137524896:=0
def tw1848341001675259375:=0
def tw1006364064810586980:=0
def tw5482755943344739052:=0
def tw13703709835805244346:=0
def tw12502440913926408554:=0
def tw17793874068438352399:=0
def tw4308145899787956430:=0
def tw3330153664992033875:=0
def tw10196542102274621637:=0
def tw9225449125489263635:=0
def tw14759326238608654652:=0
def tw5921796846691731769:=0
def tw2001001546653890383:=0
def tw12479873262799476564:=0
def tw3326365046514014961:=0
def tw13788749746069813858:=0
def tw13361405672486190277:=0
def tw9900899070202188561:=0
def tw9666505632740190443:=0
def tw4606295276586798603:=0
def tw16065817858393362952:=0
def tw8510497080781288997:=0
def tw10641838780974158187:=0
def tw437115995308654216:=0
def tw12623231416852583819:=0
def tw6596512259014965496:=0
def tw15310641092414747294:=0
def tw7262641387645711850:=0
def tw17902203837490982865:=0
def tw8374311797467562130:=0
def tw9165924105737041445:=0
def tw12094351240350164554:=0
def tw6287327403445747957:=0
def tw11177549273364485724:=0
def tw7602619118837229121:=0
end PySem.W.Fast
namespace K6
open PySem L2
theorem bl1{α : Type}{P:List α->Prop}(h:∀a,P [a]):∀us:List α,us.length=1->P us
 | [a],_=>h a
theorem bl2{α : Type}{P:List α->Prop}(h:∀a b,P [a,b]):∀us:List α,us.length=2->P us
 | [a,b],_=>h a b
theorem bl3{α : Type}{P:List α->Prop}(h:∀a b c,P [a,b,c]):∀us:List α,us.length=3->P us
 | [a,b,c],_=>h a b c
theorem bl4{α : Type}{P:List α->Prop}(h:∀a b c d,P [a,b,c,d]):∀us:List α,us.length=4->P us
 | [a,b,c,d],_=>h a b c d
theorem bl5{α : Type}{P:List α->Prop}(h:∀a b c d e,P [a,b,c,d,e]):∀us:List α,us.length=5->P us
 | [a,b,c,d,e],_=>h a b c d e
inductive FnE(K:W.Frag)(f:Addr)(nm qn:Str)(st:Stmt):Prop
 | mk {oc kV dc pm cd ct:Value} {od an:Option Addr} {sl:Array (Option Value)} (l:K.lookup f=some ⟨oc,od,.func (W.fnOf nm qn (zdo st) (zck st) (zah st) .none kV dc pm an cd ct),sl⟩) (c:W.codeIn K cd qn=true) (k:W.keepIn K (.ref f)=true):FnE K f nm qn st
theorem FnE.ob{K:W.Frag}{f:Addr}{nm qn:Str}{st:Stmt}{ps:List Str}(e:FnE K f nm qn st)(h:∀(kV doc pm:Value) (an:Option Addr) (cdv ct:Value) (us:List Value),us.length=ps.length->bindArgs (W.fnOf nm qn (zdo st) (zck st) (zah st) .none kV doc pm an cdv ct) ⟨us,[]⟩=pure (ps.zip us)):∃fd,FunD K nm qn st .none f fd/\Binds K fd ps []/\W.keepIn K (.ref f)=true:=by
 obtain⟨l,c,k⟩:=e;exact⟨_,zht l c,(zht l c).binds h,k⟩
theorem all_mk{l:W.OpenLaw}{w:World}{K:W.Frag}{h:Heap}{mg:Str->Option Value}{fa:Addr}(X:K.In h)(G:h.Ns mainGlobals mg)(hfa:mg "law" = some (.ref fa))
  {za2:Addr} {zag:Addr} {zao:Addr} {zas:Addr} {zal:Addr} {zat:Addr} {zaj:Addr} {zak:Addr} {za6:Addr} {f_0:Addr} {f_1:Addr} {f_2:Addr} {Cq_2:Addr} {f_3:Addr} {f_4:Addr} {f_5:Addr} {od_5 an_5:Option Addr} {sl_5:Array (Option Value)} {oc_5 kV_5 dc_5 pm_5 cd_5 ct_5:Value} {T_5:Addr} {tu_5:Value} {td_5:Option Addr} {tn_5:Nat} {ts_5:Array (Option Value)} {tk_5:Tok} {f_6:Addr} {f_7:Addr} {f_8:Addr} {f_9:Addr} {f_10:Addr} {f_11:Addr} {f_12:Addr} {f_13:Addr} {f_14:Addr} {f_15:Addr} {f_16:Addr} {f_17:Addr} {f_18:Addr} {f_19:Addr} {f_20:Addr} {f_21:Addr} {f_22:Addr} {f_23:Addr} {f_24:Addr} {f_25:Addr} {f_26:Addr} {f_27:Addr} {f_28:Addr} {f_29:Addr} {f_30:Addr} {f_31:Addr} {f_32:Addr} {f_33:Addr} {f_34:Addr} {f_35:Addr} {f_36:Addr} {f_37:Addr} {f_38:Addr} {f_39:Addr} {f_40:Addr} {f_41:Addr} {f_42:Addr} {f_43:Addr} {f_44:Addr} {f_45:Addr} {f_46:Addr} {f_47:Addr} {f_48:Addr} {f_49:Addr} {f_50:Addr} {f_51:Addr} {f_52:Addr} {f_53:Addr} {f_54:Addr} {f_55:Addr} {f_56:Addr} {f_57:Addr} {f_58:Addr} {f_59:Addr} {f_60:Addr} {od_60 an_60:Option Addr} {sl_60:Array (Option Value)} {oc_60 kV_60 dc_60 pm_60 cd_60 ct_60:Value} {f_61:Addr} {f_62:Addr} {f_63:Addr} {f_64:Addr} {f_65:Addr} {f_66:Addr} {f_67:Addr} {f_68:Addr} {f_69:Addr} {od_69 an_69:Option Addr} {sl_69:Array (Option Value)} {oc_69 kV_69 dc_69 pm_69 cd_69 ct_69:Value} {zem:Addr} {bm_NoLead:List Value} {nid_NoLead:String} {ini_NoLead B_NoLead:String} {zcs:Addr} {bm_NoOrder:List Value} {nid_NoOrder:String} {ini_NoOrder B_NoOrder:String} {zbp:Addr} {bm_NoOver:List Value} {nid_NoOver:String} {ini_NoOver B_NoOver:String} {zct:Addr} {bm_NoPrime:List Value} {nid_NoPrime:String} {ini_NoPrime B_NoPrime:String} {zc3:Addr} {bm_NoRing:List Value} {nid_NoRing:String} {ini_NoRing B_NoRing:String} {za1:Addr} {bm_NoTerm:List Value} {nid_NoTerm:String} {ini_NoTerm B_NoTerm:String} {tg_GREATEST_PRIME:Tok} {tg_LETTERS:Tok}
  (lc:W.nsIn K mainGlobals "Ring" = some (some (.ref za2)))
  (kc:W.plainGet K za2 Str.empty=true)
  (ke:W.hasDictIn K za2=true)
  (kf:W.plainOver K za2=true)
  (kh:W.findIn K (.ref za2) "__setattr__" = some (some (.builtin "object.__setattr__")))
  (kl:W.makesIn K za2=true)
  (ko:W.keepIn K (.ref za2)=true)
  (ay:W.findIn K (.ref za2) "many" = some none)
  (am:W.findIn K (.ref za2) "field" = some none)
  (ao:W.findIn K (.ref za2) "order" = some none)
  (cm:W.nsIn K mainGlobals "Fractions" = some (some (.ref zag)))
  (a7:W.plainGet K zag Str.empty=true)
  (a8:W.hasDictIn K zag=true)
  (a9:W.plainOver K zag=true)
  (bd:W.findIn K (.ref zag) "__setattr__" = some (some (.builtin "object.__setattr__")))
  (bf:W.makesIn K zag=true)
  (bh:W.keepIn K (.ref zag)=true)
  (aa:W.findIn K (.ref zag) "prime" = some none)
  (kq:W.nsIn K mainGlobals "Rests" = some (some (.ref zao)))
  (i7:W.plainGet K zao Str.empty=true)
  (i8:W.hasDictIn K zao=true)
  (i9:W.plainOver K zao=true)
  (ja:W.findIn K (.ref zao) "__setattr__" = some (some (.builtin "object.__setattr__")))
  (jb:W.makesIn K zao=true)
  (jc:W.keepIn K (.ref zao)=true)
  (aj:W.findIn K (.ref zao) "prime" = some none)
  (kr:W.nsIn K mainGlobals "Order" = some (some (.ref zas)))
  (jd:W.plainGet K zas Str.empty=true)
  (je:W.hasDictIn K zas=true)
  (jf:W.plainOver K zas=true)
  (jg:W.findIn K (.ref zas) "__setattr__" = some (some (.builtin "object.__setattr__")))
  (jh:W.makesIn K zas=true)
  (ji:W.findIn K (.ref zas) "__init__" = some (some (.builtin "object.__init__")))
  (jk:W.keepIn K (.ref zas)=true)
  (gu:W.nsIn K mainGlobals "Degrees" = some (some (.ref zal)))
  (cr:W.plainGet K zal Str.empty=true)
  (cw:W.hasDictIn K zal=true)
  (cx:W.plainOver K zal=true)
  (cy:W.findIn K (.ref zal) "__setattr__" = some (some (.builtin "object.__setattr__")))
  (cz:W.makesIn K zal=true)
  (di:W.findIn K (.ref zal) "__init__" = some (some (.builtin "object.__init__")))
  (dk:W.keepIn K (.ref zal)=true)
  (ku:W.nsIn K mainGlobals "Tails" = some (some (.ref zat)))
  (jm:W.plainGet K zat Str.empty=true)
  (jn:W.hasDictIn K zat=true)
  (jo:W.plainOver K zat=true)
  (jp:W.findIn K (.ref zat) "__setattr__" = some (some (.builtin "object.__setattr__")))
  (jt:W.makesIn K zat=true)
  (ju:W.findIn K (.ref zat) "__init__" = some (some (.builtin "object.__init__")))
  (jv:W.keepIn K (.ref zat)=true)
  (gv:W.nsIn K mainGlobals "Weights" = some (some (.ref zaj)))
  (dm:W.plainGet K zaj Str.empty=true)
  (dt:W.hasDictIn K zaj=true)
  (du:W.plainOver K zaj=true)
  (dy:W.findIn K (.ref zaj) "__setattr__" = some (some (.builtin "object.__setattr__")))
  (dz:W.makesIn K zaj=true)
  (d5:W.keepIn K (.ref zaj)=true)
  (ae:W.findIn K (.ref zaj) "weights" = some none)
  (gw:W.nsIn K mainGlobals "Waiting" = some (some (.ref zak)))
  (d7:W.plainGet K zak Str.empty=true)
  (d8:W.hasDictIn K zak=true)
  (d9:W.plainOver K zak=true)
  (fg:W.findIn K (.ref zak) "__setattr__" = some (some (.builtin "object.__setattr__")))
  (fi:W.makesIn K zak=true)
  (fj:W.keepIn K (.ref zak)=true)
  (af:W.findIn K (.ref zak) "order" = some none)
  (ag:W.findIn K (.ref zak) "known" = some none)
  (ah:W.findIn K (.ref zak) "queue" = some none)
  (k6:W.nsIn K mainGlobals "Leads" = some (some (.ref za6)))
  (jw:W.plainGet K za6 Str.empty=true)
  (jx:W.hasDictIn K za6=true)
  (jy:W.plainOver K za6=true)
  (j3:W.findIn K (.ref za6) "__setattr__" = some (some (.builtin "object.__setattr__")))
  (j4:W.makesIn K za6=true)
  (j5:W.keepIn K (.ref za6)=true)
  (ak:W.findIn K (.ref za6) "pairs" = some none)
  (wy:W.nsIn K mainGlobals "shared_divisor" = some (some (.ref f_0)))
  (wz:FnE K f_0 "shared_divisor" "shared_divisor" zc8)
  (w4:W.nsIn K mainGlobals "is_prime" = some (some (.ref f_1)))
  (w6:FnE K f_1 "is_prime" "is_prime" zgo)
  (m7:W.nsIn K mainGlobals "Field" = some (some (.ref Cq_2)))
  (m8:W.readsIn K Cq_2 (.type "type")=true)
  (m9:W.findCls K (.ref Cq_2) (.type "type") "__init__" = some (.val (.ref f_2)))
  (ng:W.specialIn K (.ref Cq_2) "__getattribute__" = some (some (.builtin "type.__getattribute__")))
  (xa:W.isFn K (.ref f_2)=true)
  (xf:FnE K f_2 "__init__" "Field.__init__" zc9)
  (ap:W.findIn K (.ref zag) "__init__" = some (some (.ref f_3)))
  (xh:W.isFn K (.ref f_3)=true)
  (xi:FnE K f_3 "__init__" "Fractions.__init__" zb7)
  (aq:W.findIn K (.ref zag) "nought" = some (some (.ref f_4)))
  (xj:W.isFn K (.ref f_4)=true)
  (xm:FnE K f_4 "nought" "Fractions.nought" zcp)
  (ar:W.findIn K (.ref zag) "made" = some (some (.ref f_5)))
  (xn:W.isFn K (.ref f_5)=true)
  (xo:K.lookup f_5=some ⟨oc_5,od_5,.func (W.fnOf "made" "Fractions.made" (zdo zbm) (zck zbm) (zah zbm) (.ref T_5) kV_5 dc_5 pm_5 an_5 cd_5 ct_5),sl_5⟩)
  (xp:K.lookup T_5=some ⟨tu_5,td_5,.seq #[.int 1 tk_5] tn_5,ts_5⟩)
  (xr:W.codeIn K cd_5 "Fractions.made" = true)
  (xt:W.keepIn K (.ref f_5)=true)
  (au:W.findIn K (.ref zag) "plus" = some (some (.ref f_6)))
  (xu:W.isFn K (.ref f_6)=true)
  (xw:FnE K f_6 "plus" "Fractions.plus" zdc)
  (av:W.findIn K (.ref zag) "times" = some (some (.ref f_7)))
  (xx:W.isFn K (.ref f_7)=true)
  (x3:FnE K f_7 "times" "Fractions.times" zcx)
  (aw:W.findIn K (.ref zag) "against" = some (some (.ref f_8)))
  (x5:W.isFn K (.ref f_8)=true)
  (x6:FnE K f_8 "against" "Fractions.against" zcg)
  (ax:W.findIn K (.ref zag) "turned" = some (some (.ref f_9)))
  (x8:W.isFn K (.ref f_9)=true)
  (x9:FnE K f_9 "turned" "Fractions.turned" zco)
  (al:W.findIn K (.ref zag) "over" = some (some (.ref f_10)))
  (fk:W.findIn K (.ref zao) "over" = some (some (.ref f_10)))
  (nh:W.isFn K (.ref f_10)=true)
  (ni:FnE K f_10 "over" "Field.over" zc4)
  (fm:W.findIn K (.ref zao) "__init__" = some (some (.ref f_11)))
  (nj:W.isFn K (.ref f_11)=true)
  (nr:FnE K f_11 "__init__" "Rests.__init__" zdf)
  (fq:W.findIn K (.ref zao) "nought" = some (some (.ref f_12)))
  (nu:W.isFn K (.ref f_12)=true)
  (n5:FnE K f_12 "nought" "Rests.nought" zdx)
  (fu:W.findIn K (.ref zao) "plus" = some (some (.ref f_13)))
  (n6:W.isFn K (.ref f_13)=true)
  (n8:FnE K f_13 "plus" "Rests.plus" ze9)
  (fv:W.findIn K (.ref zao) "times" = some (some (.ref f_14)))
  (og:W.isFn K (.ref f_14)=true)
  (oh:FnE K f_14 "times" "Rests.times" zek)
  (fw:W.findIn K (.ref zao) "against" = some (some (.ref f_15)))
  (oj:W.isFn K (.ref f_15)=true)
  (ot:FnE K f_15 "against" "Rests.against" zdj)
  (fy:W.findIn K (.ref zao) "turned" = some (some (.ref f_16)))
  (ou:W.isFn K (.ref f_16)=true)
  (ow:FnE K f_16 "turned" "Rests.turned" zd3)
  (ox:W.nsIn K mainGlobals "degree" = some (some (.ref f_17)))
  (oy:FnE K f_17 "degree" "degree" zim)
  (f6:W.findIn K (.ref zas) "rank" = some (some (.ref f_18)))
  (oz:W.isFn K (.ref f_18)=true)
  (l6:W.specialIn K (.ref f_18) "__get__" = some (some (.builtin "function.__get__")))
  (l7:W.takesIn K (.ref f_18)=some false)
  (o2:FnE K f_18 "rank" "Order.rank" zex)
  (bi:W.findIn K (.ref zal) "rank" = some (some (.ref f_19)))
  (o3:W.isFn K (.ref f_19)=true)
  (l8:W.specialIn K (.ref f_19) "__get__" = some (some (.builtin "function.__get__")))
  (l9:W.takesIn K (.ref f_19)=some false)
  (o4:FnE K f_19 "rank" "Degrees.rank" zdw)
  (f7:W.findIn K (.ref zat) "rank" = some (some (.ref f_20)))
  (o5:W.isFn K (.ref f_20)=true)
  (ma:W.specialIn K (.ref f_20) "__get__" = some (some (.builtin "function.__get__")))
  (mf:W.takesIn K (.ref f_20)=some false)
  (o6:FnE K f_20 "rank" "Tails.rank" zes)
  (bj:W.findIn K (.ref zaj) "__init__" = some (some (.ref f_21)))
  (o7:W.isFn K (.ref f_21)=true)
  (o8:FnE K f_21 "__init__" "Weights.__init__" zcr)
  (bn:W.findIn K (.ref zaj) "rank" = some (some (.ref f_22)))
  (o9:W.isFn K (.ref f_22)=true)
  (mh:W.specialIn K (.ref f_22) "__get__" = some (some (.builtin "function.__get__")))
  (mi:W.takesIn K (.ref f_22)=some false)
  (pc:FnE K f_22 "rank" "Weights.rank" zdy)
  (bo:W.findIn K (.ref zal) "fits" = some (some (.ref f_23)))
  (f8:W.findIn K (.ref zas) "fits" = some (some (.ref f_23)))
  (f9:W.findIn K (.ref zat) "fits" = some (some (.ref f_23)))
  (ph:W.isFn K (.ref f_23)=true)
  (pj:FnE K f_23 "fits" "Order.fits" zfb)
  (bq:W.findIn K (.ref zaj) "fits" = some (some (.ref f_24)))
  (p0:W.isFn K (.ref f_24)=true)
  (p6:FnE K f_24 "fits" "Weights.fits" zdz)
  (br:W.findIn K (.ref zal) "first_of" = some (some (.ref f_25)))
  (gc:W.findIn K (.ref zas) "first_of" = some (some (.ref f_25)))
  (gf:W.findIn K (.ref zat) "first_of" = some (some (.ref f_25)))
  (bv:W.findIn K (.ref zaj) "first_of" = some (some (.ref f_25)))
  (p7:W.isFn K (.ref f_25)=true)
  (p9:FnE K f_25 "first_of" "Order.first_of" zc7)
  (gx:W.findIn K (.ref za2) "__init__" = some (some (.ref f_26)))
  (qc:W.isFn K (.ref f_26)=true)
  (qe:FnE K f_26 "__init__" "Ring.__init__" zdi)
  (qh:W.nsIn K mainGlobals "product" = some (some (.ref f_27)))
  (qj:FnE K f_27 "product" "product" zho)
  (qk:W.nsIn K mainGlobals "goes_into" = some (some (.ref f_28)))
  (qm:FnE K f_28 "goes_into" "goes_into" zf5)
  (qo:W.nsIn K mainGlobals "left_over" = some (some (.ref f_29)))
  (qp:FnE K f_29 "left_over" "left_over" zf0)
  (qr:W.nsIn K mainGlobals "absorb" = some (some (.ref f_30)))
  (qu:FnE K f_30 "absorb" "absorb" zil)
  (qv:W.nsIn K mainGlobals "scaled" = some (some (.ref f_31)))
  (qx:FnE K f_31 "scaled" "scaled" zi7)
  (qy:W.nsIn K mainGlobals "first_term" = some (some (.ref f_32)))
  (qz:FnE K f_32 "first_term" "first_term" zey)
  (b7:W.findIn K (.ref zak) "place_of" = some (some (.ref f_33)))
  (rf:W.isFn K (.ref f_33)=true)
  (rg:FnE K f_33 "place_of" "Waiting.place_of" zcm)
  (b8:W.findIn K (.ref zak) "put" = some (some (.ref f_34)))
  (rh:W.isFn K (.ref f_34)=true)
  (rj:FnE K f_34 "put" "Waiting.put" zeg)
  (b9:W.findIn K (.ref zak) "__init__" = some (some (.ref f_35)))
  (rl:W.isFn K (.ref f_35)=true)
  (rm:FnE K f_35 "__init__" "Waiting.__init__" zcq)
  (cg:W.findIn K (.ref zak) "is_empty" = some (some (.ref f_36)))
  (r6:W.isFn K (.ref f_36)=true)
  (r8:FnE K f_36 "is_empty" "Waiting.is_empty" zcj)
  (ci:W.findIn K (.ref zak) "taken" = some (some (.ref f_37)))
  (r9:W.isFn K (.ref f_37)=true)
  (se:FnE K f_37 "taken" "Waiting.taken" zdp)
  (gg:W.findIn K (.ref za6) "__init__" = some (some (.ref f_38)))
  (sf:W.isFn K (.ref f_38)=true)
  (sg:FnE K f_38 "__init__" "Leads.__init__" zda)
  (gh:W.findIn K (.ref za6) "fitting" = some (some (.ref f_39)))
  (sj:W.isFn K (.ref f_39)=true)
  (sk:FnE K f_39 "fitting" "Leads.fitting" zdk)
  (su:W.nsIn K mainGlobals "divided" = some (some (.ref f_40)))
  (sw:FnE K f_40 "divided" "divided" zhp)
  (sx:W.nsIn K mainGlobals "_law_cell_at" = some (some (.ref f_41)))
  (sy:FnE K f_41 "_law_cell_at" "_law_cell_at" zd2)
  (tf:W.nsIn K mainGlobals "_law_gcd" = some (some (.ref f_42)))
  (tj:FnE K f_42 "_law_gcd" "_law_gcd" zgs)
  (tw:W.nsIn K mainGlobals "_law_norm" = some (some (.ref f_43)))
  (tz:FnE K f_43 "_law_norm" "_law_norm" zfu)
  (t6:W.nsIn K mainGlobals "_law_times" = some (some (.ref f_44)))
  (t7:FnE K f_44 "_law_times" "_law_times" zfe)
  (t8:W.nsIn K mainGlobals "_law_plus" = some (some (.ref f_45)))
  (t9:FnE K f_45 "_law_plus" "_law_plus" zfy)
  (ua:W.nsIn K mainGlobals "_law_nought" = some (some (.ref f_46)))
  (uc:FnE K f_46 "_law_nought" "_law_nought" zee)
  (ud:W.nsIn K mainGlobals "_law_one" = some (some (.ref f_47)))
  (ue:FnE K f_47 "_law_one" "_law_one" zgr)
  (uf:W.nsIn K mainGlobals "_law_prime" = some (some (.ref f_48)))
  (ug:FnE K f_48 "_law_prime" "_law_prime" zfd)
  (uh:W.nsIn K mainGlobals "_law_rests" = some (some (.ref f_49)))
  (ui:FnE K f_49 "_law_rests" "_law_rests" ze3)
  (uj:W.nsIn K mainGlobals "_law_whole" = some (some (.ref f_50)))
  (ul:FnE K f_50 "_law_whole" "_law_whole" ze6)
  (uq:W.nsIn K mainGlobals "_law_is_number" = some (some (.ref f_51)))
  (ur:FnE K f_51 "_law_is_number" "_law_is_number" zde)
  (ut:W.nsIn K mainGlobals "_law_is_poly" = some (some (.ref f_52)))
  (uu:FnE K f_52 "_law_is_poly" "_law_is_poly" zd1)
  (uv:W.nsIn K mainGlobals "_law_are_polys" = some (some (.ref f_53)))
  (uw:FnE K f_53 "_law_are_polys" "_law_are_polys" zdd)
  (ux:W.nsIn K mainGlobals "_law_field" = some (some (.ref f_54)))
  (uz:FnE K f_54 "_law_field" "_law_field" zez)
  (u3:W.nsIn K mainGlobals "_law_order" = some (some (.ref f_55)))
  (u6:FnE K f_55 "_law_order" "_law_order" zew)
  (u7:W.nsIn K mainGlobals "_law_copies" = some (some (.ref f_56)))
  (u8:FnE K f_56 "_law_copies" "_law_copies" zej)
  (u9:W.nsIn K mainGlobals "_law_add" = some (some (.ref f_57)))
  (va:FnE K f_57 "_law_add" "_law_add" zgp)
  (vb:W.nsIn K mainGlobals "_law_rank" = some (some (.ref f_58)))
  (ve:FnE K f_58 "_law_rank" "_law_rank" zf1)
  (vf:W.nsIn K mainGlobals "_law_goes" = some (some (.ref f_59)))
  (vg:FnE K f_59 "_law_goes" "_law_goes" zf4)
  (vh:W.nsIn K mainGlobals "_law_lead" = some (some (.ref f_60)))
  (vi:K.lookup f_60=some ⟨oc_60,od_60,.func (W.fnOf "_law_lead" "_law_lead" (zdo zcf) (zck zcf) (zah zcf) .none kV_60 dc_60 pm_60 an_60 cd_60 ct_60),sl_60⟩)
  (vj:W.codeIn K cd_60 "_law_lead" = true)
  (vk:W.keepIn K (.ref f_60)=true)
  (vm:W.nsIn K mainGlobals "_law_weights" = some (some (.ref f_61)))
  (vo:FnE K f_61 "_law_weights" "_law_weights" zd4)
  (vt:W.nsIn K mainGlobals "_law_sum_up" = some (some (.ref f_62)))
  (vw:FnE K f_62 "_law_sum_up" "_law_sum_up" zef)
  (vy:W.nsIn K mainGlobals "_law_some" = some (some (.ref f_63)))
  (vz:FnE K f_63 "_law_some" "_law_some" zfv)
  (wc:W.nsIn K mainGlobals "_law_polys_by" = some (some (.ref f_64)))
  (wd:FnE K f_64 "_law_polys_by" "_law_polys_by" zdm)
  (we:W.nsIn K mainGlobals "_law_leads" = some (some (.ref f_65)))
  (wf:FnE K f_65 "_law_leads" "_law_leads" zff)
  (wg:W.nsIn K mainGlobals "_law_free" = some (some (.ref f_66)))
  (wj:FnE K f_66 "_law_free" "_law_free" zf3)
  (wk:W.nsIn K mainGlobals "_law_apart" = some (some (.ref f_67)))
  (wl:FnE K f_67 "_law_apart" "_law_apart" zet)
  (wm:W.nsIn K mainGlobals "_law_quotients_good" = some (some (.ref f_68)))
  (wo:FnE K f_68 "_law_quotients_good" "_law_quotients_good" zb3)
  (wq:W.nsIn K mainGlobals "law" = some (some (.ref f_69)))
  (wr:K.lookup f_69=some ⟨oc_69,od_69,.func (W.fnOf "law" "law" (zdo zi8) (zck zi8) (zah zi8) .none kV_69 dc_69 pm_69 an_69 cd_69 ct_69),sl_69⟩)
  (wu:W.codeIn K cd_69 "law" = true)
  (wv:W.keepIn K (.ref f_69)=true)
  (j6:W.nsIn K mainGlobals "NoLead" = some (some (.ref zem)))
  (gz:ExcBaseFacts B_NoLead nid_NoLead ini_NoLead bm_NoLead)
  (h8:W.excIn K zem bm_NoLead nid_NoLead=true)
  (h9:W.exmOne K (.ref zem) (.ref zem)=some true)
  (ie:W.nsIn K mainGlobals "NoOrder" = some (some (.ref zcs)))
  (gi:ExcBaseFacts B_NoOrder nid_NoOrder ini_NoOrder bm_NoOrder)
  (gj:W.excIn K zcs bm_NoOrder nid_NoOrder=true)
  (gk:W.exmOne K (.ref zcs) (.ref zcs)=some true)
  (j7:W.nsIn K mainGlobals "NoOver" = some (some (.ref zbp)))
  (ig:ExcBaseFacts B_NoOver nid_NoOver ini_NoOver bm_NoOver)
  (ij:W.excIn K zbp bm_NoOver nid_NoOver=true)
  (il:W.exmOne K (.ref zbp) (.ref zbp)=some true)
  (io:W.nsIn K mainGlobals "NoPrime" = some (some (.ref zct)))
  (gm:ExcBaseFacts B_NoPrime nid_NoPrime ini_NoPrime bm_NoPrime)
  (gn:W.excIn K zct bm_NoPrime nid_NoPrime=true)
  (gq:W.exmOne K (.ref zct) (.ref zct)=some true)
  (j8:W.nsIn K mainGlobals "NoRing" = some (some (.ref zc3)))
  (ip:ExcBaseFacts B_NoRing nid_NoRing ini_NoRing bm_NoRing)
  (iq:W.excIn K zc3 bm_NoRing nid_NoRing=true)
  (ir:W.exmOne K (.ref zc3) (.ref zc3)=some true)
  (j9:W.nsIn K mainGlobals "NoTerm" = some (some (.ref za1)))
  (iu:ExcBaseFacts B_NoTerm nid_NoTerm ini_NoTerm bm_NoTerm)
  (iw:W.excIn K za1 bm_NoTerm nid_NoTerm=true)
  (iz:W.exmOne K (.ref za1) (.ref za1)=some true)
  (mj:W.kitOne K (.type "int") (.type "int")=some true)
  (ml:W.kitOne K (.type "int") (.type "bool")=some false)
  (mn:W.kitOne K (.type "tuple") (.type "tuple")=some true)
  (mo:W.kitOne K (.type "dict") (.type "dict")=some true)
  (mq:W.kitOne K (.type "list") (.type "list")=some true)
  (mr:W.nsIn K mainGlobals "abs" = some none)
  (mt:W.nsIn K mainGlobals "all" = some none)
  (mv:W.nsIn K mainGlobals "any" = some none)
  (ln:W.nsIn K mainGlobals "bool" = some none)
  (lr:W.nsIn K mainGlobals "dict" = some none)
  (cn:W.nsIn K mainGlobals "enumerate" = some none)
  (mw:W.nsIn K mainGlobals "int" = some none)
  (ck:W.nsIn K mainGlobals "isinstance" = some none)
  (mx:W.nsIn K mainGlobals "len" = some none)
  (lz:W.nsIn K mainGlobals "list" = some none)
  (my:W.nsIn K mainGlobals "max" = some none)
  (k8:W.nsIn K mainGlobals "range" = some none)
  (gr:W.nsIn K mainGlobals "reversed" = some none)
  (mz:W.nsIn K mainGlobals "sum" = some none)
  (k9:W.nsIn K mainGlobals "tuple" = some none)
  (m6:W.nsIn K mainGlobals "zip" = some none)
  (ai:W.nsIn K mainGlobals "GREATEST_PRIME" = some (some (.int 9973 tg_GREATEST_PRIME)))
  (i0:W.nsIn K mainGlobals "LETTERS" = some (some (.str "xyzt" tg_LETTERS)))
  {cc Pt:Addr} (ww:cd_60=.ref cc) (ya:W.codeHdIn K cc Pt=true) (yb:K.lookup Pt=none)
  : ∃(cc:Addr) (fd:FuncData),W.codeHdIn K cc Pt=true/\K.lookup Pt=none/\(∀(s:Shared) (v:Value),BindsTo s fd ⟨[v],[]⟩ [("_law_script",v)])/\∀base:Heap,K.In base->base.Ns mainGlobals mg->base.BuiltinsAt mg Pt->FnOk l.prog w K mg base CX0 18 fa fd ["_law_script"] (zrv K Pt):=by
 have e:=hfa.symm.trans (W.mg_of X G wq)
 cases e;obtain⟨_,F_0,b_0,k_0⟩:=FnE.ob (ps:=["one","other"]) wz λ_ _ _ _ _ _=>bl2 λ_ _=>rfl
 obtain⟨_,F_1,b_1,k_1⟩:=FnE.ob (ps:=["number"]) w6 λ_ _ _ _ _ _=>bl1 λ_=>rfl
 obtain⟨_,F_2,b_2,k_2⟩:=FnE.ob (ps:=["self","prime"]) xf λ_ _ _ _ _ _=>bl2 λ_ _=>rfl
 obtain⟨_,F_3,b_3,k_3⟩:=FnE.ob (ps:=["self"]) xi λ_ _ _ _ _ _=>bl1 λ_=>rfl
 obtain⟨_,F_4,b_4,k_4⟩:=FnE.ob (ps:=["self"]) xm λ_ _ _ _ _ _=>bl1 λ_=>rfl
 have F_5:=zht (st:=zbm) xo xr;have b_5:=F_5.bindsD (ps:=["self","top","bottom"]) (ds:=[]) xp rfl λ_ _ _ _ _ _ us hl=>by
  have hl:us.length=3:=by simpa using hl
  exact match us,hl with | [_,_,_],_=>⟨_,Z,Z⟩
 have bd_5:=F_5.bindsD (ps:=["self","top","bottom"]) (ds:=[.int 1 tk_5]) xp rfl λ_ _ _ _ _ _ us hl=>by
  have hl:us.length=2:=by simpa using hl
  exact match us,hl with | [_,_],_=>⟨_,Z,Z⟩
 obtain⟨_,F_6,b_6,k_6⟩:=FnE.ob (ps:=["self","a","b"]) xw λ_ _ _ _ _ _=>bl3 λ_ _ _=>rfl
 obtain⟨_,F_7,b_7,k_7⟩:=FnE.ob (ps:=["self","a","b"]) x3 λ_ _ _ _ _ _=>bl3 λ_ _ _=>rfl
 obtain⟨_,F_8,b_8,k_8⟩:=FnE.ob (ps:=["self","a"]) x6 λ_ _ _ _ _ _=>bl2 λ_ _=>rfl
 obtain⟨_,F_9,b_9,k_9⟩:=FnE.ob (ps:=["self","a"]) x9 λ_ _ _ _ _ _=>bl2 λ_ _=>rfl
 obtain⟨_,F_10,b_10,k_10⟩:=FnE.ob (ps:=["self","a","b"]) ni λ_ _ _ _ _ _=>bl3 λ_ _ _=>rfl
 obtain⟨_,F_11,b_11,k_11⟩:=FnE.ob (ps:=["self","prime"]) nr λ_ _ _ _ _ _=>bl2 λ_ _=>rfl
 obtain⟨_,F_12,b_12,k_12⟩:=FnE.ob (ps:=["self"]) n5 λ_ _ _ _ _ _=>bl1 λ_=>rfl
 obtain⟨_,F_13,b_13,k_13⟩:=FnE.ob (ps:=["self","a","b"]) n8 λ_ _ _ _ _ _=>bl3 λ_ _ _=>rfl
 obtain⟨_,F_14,b_14,k_14⟩:=FnE.ob (ps:=["self","a","b"]) oh λ_ _ _ _ _ _=>bl3 λ_ _ _=>rfl
 obtain⟨_,F_15,b_15,k_15⟩:=FnE.ob (ps:=["self","a"]) ot λ_ _ _ _ _ _=>bl2 λ_ _=>rfl
 obtain⟨_,F_16,b_16,k_16⟩:=FnE.ob (ps:=["self","a"]) ow λ_ _ _ _ _ _=>bl2 λ_ _=>rfl
 obtain⟨_,F_17,b_17,k_17⟩:=FnE.ob (ps:=["term"]) oy λ_ _ _ _ _ _=>bl1 λ_=>rfl
 obtain⟨_,F_18,b_18,k_18⟩:=FnE.ob (ps:=["self","term"]) o2 λ_ _ _ _ _ _=>bl2 λ_ _=>rfl
 obtain⟨_,F_19,b_19,k_19⟩:=FnE.ob (ps:=["self","term"]) o4 λ_ _ _ _ _ _=>bl2 λ_ _=>rfl
 obtain⟨_,F_20,b_20,k_20⟩:=FnE.ob (ps:=["self","term"]) o6 λ_ _ _ _ _ _=>bl2 λ_ _=>rfl
 obtain⟨_,F_21,b_21,k_21⟩:=FnE.ob (ps:=["self","weights"]) o8 λ_ _ _ _ _ _=>bl2 λ_ _=>rfl
 obtain⟨_,F_22,b_22,k_22⟩:=FnE.ob (ps:=["self","term"]) pc λ_ _ _ _ _ _=>bl2 λ_ _=>rfl
 obtain⟨_,F_23,b_23,k_23⟩:=FnE.ob (ps:=["self","many"]) pj λ_ _ _ _ _ _=>bl2 λ_ _=>rfl
 obtain⟨_,F_24,b_24,k_24⟩:=FnE.ob (ps:=["self","many"]) p6 λ_ _ _ _ _ _=>bl2 λ_ _=>rfl
 obtain⟨_,F_25,b_25,k_25⟩:=FnE.ob (ps:=["self","terms"]) p9 λ_ _ _ _ _ _=>bl2 λ_ _=>rfl
 obtain⟨_,F_26,b_26,k_26⟩:=FnE.ob (ps:=["self","many","field","order"]) qe λ_ _ _ _ _ _=>bl4 λ_ _ _ _=>rfl
 obtain⟨_,F_27,b_27,k_27⟩:=FnE.ob (ps:=["one","other"]) qj λ_ _ _ _ _ _=>bl2 λ_ _=>rfl
 obtain⟨_,F_28,b_28,k_28⟩:=FnE.ob (ps:=["one","other"]) qm λ_ _ _ _ _ _=>bl2 λ_ _=>rfl
 obtain⟨_,F_29,b_29,k_29⟩:=FnE.ob (ps:=["one","other"]) qp λ_ _ _ _ _ _=>bl2 λ_ _=>rfl
 obtain⟨_,F_30,b_30,k_30⟩:=FnE.ob (ps:=["ring","total","f"]) qu λ_ _ _ _ _ _=>bl3 λ_ _ _=>rfl
 obtain⟨_,F_31,b_31,k_31⟩:=FnE.ob (ps:=["ring","number","term","f"]) qx λ_ _ _ _ _ _=>bl4 λ_ _ _ _=>rfl
 obtain⟨_,F_32,b_32,k_32⟩:=FnE.ob (ps:=["ring","f"]) qz λ_ _ _ _ _ _=>bl2 λ_ _=>rfl
 obtain⟨_,F_33,b_33,k_33⟩:=FnE.ob (ps:=["self","rank"]) rg λ_ _ _ _ _ _=>bl2 λ_ _=>rfl
 obtain⟨_,F_34,b_34,k_34⟩:=FnE.ob (ps:=["self","terms"]) rj λ_ _ _ _ _ _=>bl2 λ_ _=>rfl
 obtain⟨_,F_35,b_35,k_35⟩:=FnE.ob (ps:=["self","order","terms"]) rm λ_ _ _ _ _ _=>bl3 λ_ _ _=>rfl
 obtain⟨_,F_36,b_36,k_36⟩:=FnE.ob (ps:=["self"]) r8 λ_ _ _ _ _ _=>bl1 λ_=>rfl
 obtain⟨_,F_37,b_37,k_37⟩:=FnE.ob (ps:=["self"]) se λ_ _ _ _ _ _=>bl1 λ_=>rfl
 obtain⟨_,F_38,b_38,k_38⟩:=FnE.ob (ps:=["self","ring","row"]) sg λ_ _ _ _ _ _=>bl3 λ_ _ _=>rfl
 obtain⟨_,F_39,b_39,k_39⟩:=FnE.ob (ps:=["self","term"]) sk λ_ _ _ _ _ _=>bl2 λ_ _=>rfl
 obtain⟨_,F_40,b_40,k_40⟩:=FnE.ob (ps:=["ring","f","row"]) sw λ_ _ _ _ _ _=>bl3 λ_ _ _=>rfl
 obtain⟨_,F_41,b_41,k_41⟩:=FnE.ob (ps:=["_law_script","_law_k"]) sy λ_ _ _ _ _ _=>bl2 λ_ _=>rfl
 obtain⟨_,F_42,b_42,k_42⟩:=FnE.ob (ps:=["_law_one_here","_law_other"]) tj λ_ _ _ _ _ _=>bl2 λ_ _=>rfl
 obtain⟨_,F_43,b_43,k_43⟩:=FnE.ob (ps:=["_law_p","_law_top","_law_bottom"]) tz λ_ _ _ _ _ _=>bl3 λ_ _ _=>rfl
 obtain⟨_,F_44,b_44,k_44⟩:=FnE.ob (ps:=["_law_p","_law_one_here","_law_other"]) t7 λ_ _ _ _ _ _=>bl3 λ_ _ _=>rfl
 obtain⟨_,F_45,b_45,k_45⟩:=FnE.ob (ps:=["_law_p","_law_one_here","_law_other"]) t9 λ_ _ _ _ _ _=>bl3 λ_ _ _=>rfl
 obtain⟨_,F_46,b_46,k_46⟩:=FnE.ob (ps:=["_law_p"]) uc λ_ _ _ _ _ _=>bl1 λ_=>rfl
 obtain⟨_,F_47,b_47,k_47⟩:=FnE.ob (ps:=["_law_p"]) ue λ_ _ _ _ _ _=>bl1 λ_=>rfl
 obtain⟨_,F_48,b_48,k_48⟩:=FnE.ob (ps:=["_law_cell"]) ug λ_ _ _ _ _ _=>bl1 λ_=>rfl
 obtain⟨_,F_49,b_49,k_49⟩:=FnE.ob (ps:=["_law_cell"]) ui λ_ _ _ _ _ _=>bl1 λ_=>rfl
 obtain⟨_,F_50,b_50,k_50⟩:=FnE.ob (ps:=["_law_found"]) ul λ_ _ _ _ _ _=>bl1 λ_=>rfl
 obtain⟨_,F_51,b_51,k_51⟩:=FnE.ob (ps:=["_law_p","_law_found"]) ur λ_ _ _ _ _ _=>bl2 λ_ _=>rfl
 obtain⟨_,F_52,b_52,k_52⟩:=FnE.ob (ps:=["_law_p","_law_many","_law_found"]) uu λ_ _ _ _ _ _=>bl3 λ_ _ _=>rfl
 obtain⟨_,F_53,b_53,k_53⟩:=FnE.ob (ps:=["_law_p","_law_many","_law_count","_law_found"]) uw λ_ _ _ _ _ _=>bl4 λ_ _ _ _=>rfl
 obtain⟨_,F_54,b_54,k_54⟩:=FnE.ob (ps:=["_law_p"]) uz λ_ _ _ _ _ _=>bl1 λ_=>rfl
 obtain⟨_,F_55,b_55,k_55⟩:=FnE.ob (ps:=["_law_kind","_law_weights_here"]) u6 λ_ _ _ _ _ _=>bl2 λ_ _=>rfl
 obtain⟨_,F_56,b_56,k_56⟩:=FnE.ob (ps:=["_law_row"]) u8 λ_ _ _ _ _ _=>bl1 λ_=>rfl
 obtain⟨_,F_57,b_57,k_57⟩:=FnE.ob (ps:=["_law_p","_law_total","_law_number","_law_term","_law_f"]) va λ_ _ _ _ _ _=>bl5 λ_ _ _ _ _=>rfl
 obtain⟨_,F_58,b_58,k_58⟩:=FnE.ob (ps:=["_law_kind","_law_weights_here","_law_term"]) ve λ_ _ _ _ _ _=>bl3 λ_ _ _=>rfl
 obtain⟨_,F_59,b_59,k_59⟩:=FnE.ob (ps:=["_law_one_here","_law_other"]) vg λ_ _ _ _ _ _=>bl2 λ_ _=>rfl
 have F_60:=zht (st:=zcf) vi vj;have b_60:=F_60.binds (ps:=["_law_kind","_law_weights_here","_law_f"]) λ_ _ _ _ _ _=>bl3 λ_ _ _=>rfl
 obtain⟨_,F_61,b_61,k_61⟩:=FnE.ob (ps:=["_law_many","_law_cell"]) vo λ_ _ _ _ _ _=>bl2 λ_ _=>rfl
 obtain⟨_,F_62,b_62,k_62⟩:=FnE.ob (ps:=["_law_p","_law_many","_law_multiples","_law_row"]) vw λ_ _ _ _ _ _=>bl4 λ_ _ _ _=>rfl
 obtain⟨_,F_63,b_63,k_63⟩:=FnE.ob (ps:=["_law_p","_law_cell"]) vz λ_ _ _ _ _ _=>bl2 λ_ _=>rfl
 obtain⟨_,F_64,b_64,k_64⟩:=FnE.ob (ps:=["_law_p","_law_many","_law_count","_law_cells"]) wd λ_ _ _ _ _ _=>bl4 λ_ _ _ _=>rfl
 obtain⟨_,F_65,b_65,k_65⟩:=FnE.ob (ps:=["_law_kind","_law_weights_here","_law_row"]) wf λ_ _ _ _ _ _=>bl3 λ_ _ _=>rfl
 obtain⟨_,F_66,b_66,k_66⟩:=FnE.ob (ps:=["_law_leads_here","_law_term"]) wj λ_ _ _ _ _ _=>bl2 λ_ _=>rfl
 obtain⟨_,F_67,b_67,k_67⟩:=FnE.ob (ps:=["_law_parts"]) wl λ_ _ _ _ _ _=>bl1 λ_=>rfl
 obtain⟨_,F_68,b_68,k_68⟩:=FnE.ob (ps:=["_law_row","_law_leads_here","_law_quotients"]) wo λ_ _ _ _ _ _=>bl3 λ_ _ _=>rfl
 have F_69:=zht (st:=zi8) wr wu;have b_69:=F_69.binds (ps:=["_law_script"]) λ_ _ _ _ _ _=>bl1 λ_=>rfl
 refine⟨cc,W.fnOf "law" "law" (zdo zi8) (zck zi8) (zah zi8) .none kV_69 dc_69 pm_69 an_69 cd_69 ct_69,ya,yb,λs v=>.of_eq rfl,λbase kb nb hBd=>?_⟩;have T:Txt l.prog w K mg base za2 zag zao zas zal zat zaj zak za6:=⟨W.mg_none_of X G mr,W.mg_none_of X G mt,W.mg_none_of X G mv,W.mg_none_of X G ln,W.mg_none_of X G lr,W.mg_none_of X G cn,W.mg_none_of X G mw,W.mg_none_of X G ck,W.mg_none_of X G mx,W.mg_none_of X G lz,W.mg_none_of X G my,W.mg_none_of X G k8,W.mg_none_of X G gr,W.mg_none_of X G mz,W.mg_none_of X G k9,W.mg_none_of X G m6,⟨kc,ke,kf,kh⟩,W.mg_of X G lc,ay,am,ao,⟨a7,a8,a9,bd⟩,W.mg_of X G cm,aa,⟨i7,i8,i9,ja⟩,W.mg_of X G kq,aj,⟨jd,je,jf,jg⟩,W.mg_of X G kr,⟨jh,ji,jk⟩,⟨cr,cw,cx,cy⟩,W.mg_of X G gu,⟨cz,di,dk⟩,⟨jm,jn,jo,jp⟩,W.mg_of X G ku,⟨jt,ju,jv⟩,⟨dm,dt,du,dy⟩,W.mg_of X G gv,ae,⟨d7,d8,d9,fg⟩,W.mg_of X G gw,af,ag,ah,⟨jw,jx,jy,j3⟩,W.mg_of X G k6,ak,⟨_,W.mg_of X G ai⟩,⟨_,W.mg_of X G i0⟩,mj,ml,mn,mo,mq⟩;have hcc:zhj K f_60=some cc:=by unfold zhj;rw[vi,ww]
 have x_NoLead:Exc K mg base "NoLead" zem:=⟨⟨_,_,_,_,zib kb nb j6 h8,gz⟩,W.mg_of X G j6,h9⟩;have x_NoOrder:Exc K mg base "NoOrder" zcs:=⟨⟨_,_,_,_,zib kb nb ie gj,gi⟩,W.mg_of X G ie,gk⟩;have x_NoOver:Exc K mg base "NoOver" zbp:=⟨⟨_,_,_,_,zib kb nb j7 ij,ig⟩,W.mg_of X G j7,il⟩;have x_NoPrime:Exc K mg base "NoPrime" zct:=⟨⟨_,_,_,_,zib kb nb io gn,gm⟩,W.mg_of X G io,gq⟩;have x_NoRing:Exc K mg base "NoRing" zc3:=⟨⟨_,_,_,_,zib kb nb j8 iq,ip⟩,W.mg_of X G j8,ir⟩;have x_NoTerm:Exc K mg base "NoTerm" za1:=⟨⟨_,_,_,_,zib kb nb j9 iw,iu⟩,W.mg_of X G j9,iz⟩;have G_Shared:=zq7 T F_0;have c_Shared:Cal _ _ _ _ _ _ _ _ _ _ _:=⟨_,_,G_Shared,b_0,k_0,W.mg_of X G wy⟩;have G_Prime:=ztn T F_1;have c_Prime:Cal _ _ _ _ _ _ _ _ _ _ _:=⟨_,_,G_Prime,b_1,k_1,W.mg_of X G w4⟩;have G_FieldInit:=zki T F_2;have q_FieldInit:CCal _ _ _ _ _ _ _ _ _ _ _ _:=⟨_,_,_,G_FieldInit,b_2,⟨⟨_,m8,m9⟩,ng,k_2⟩,W.mg_of X G m7⟩;have G_FracInit:=zln T F_3 q_FieldInit;have k_FracInit:Mak _ _ _ _ _ _ _ _ _ _ _ _:=⟨⟨_,_,G_FracInit,b_3,⟨bf,ap,xh,bh⟩⟩,T.mg_Fractions⟩;have G_Nought:=zpa T F_4;have mf_Nought:MCal l.prog w K mg base CX0 1 zag "nought" ["self"] [] (spNo 0 0 (AtF zag)):=⟨⟨_,_,((G_Nought).imp zwj).mono (by decide),b_4,⟨aq,xj,k_4⟩⟩,T.cl_Fractions⟩;have G_Made:=zvb T F_5 c_Shared x_NoOver;have m_Made:MCal _ _ _ _ _ _ _ _ _ _ _ _:=⟨⟨_,_,G_Made,b_5,⟨ar,xn,xt⟩⟩,T.cl_Fractions⟩;have G_PlusF:=zsw T F_6 c_Shared;have mf_PlusF:MCal l.prog w K mg base CX0 3 zag "plus" ["self","a","b"] [] (spPl 0 (AtF zag)):=⟨⟨_,_,((G_PlusF).imp zw1).mono (by decide),b_6,⟨au,xu,k_6⟩⟩,T.cl_Fractions⟩;have G_TimesF:=zn6 T F_7 c_Shared;have m_TimesF:MCal _ _ _ _ _ _ _ _ _ _ _ _:=⟨⟨_,_,G_TimesF,b_7,⟨av,xx,k_7⟩⟩,T.cl_Fractions⟩;have mf_TimesF:MCal l.prog w K mg base CX0 3 zag "times" ["self","a","b"] [] (spTi 0 (AtF zag)):=⟨⟨_,_,((G_TimesF).imp zvk).mono (by decide),b_7,⟨av,xx,k_7⟩⟩,T.cl_Fractions⟩;have G_AgF:=zy2 T F_8;have mf_AgF:MCal l.prog w K mg base CX0 1 zag "against" ["self","a"] [] (spAg 0 (AtF zag)):=⟨⟨_,_,((G_AgF).imp zw8).mono (by decide),b_8,⟨aw,x5,k_8⟩⟩,T.cl_Fractions⟩;have G_TuF:=zxx T F_9 m_Made;have m_TuF:MCal _ _ _ _ _ _ _ _ _ _ _ _:=⟨⟨_,_,G_TuF,b_9,⟨ax,x8,k_9⟩⟩,T.cl_Fractions⟩;have G_OvF:=zx1 T F_10 m_TuF m_TimesF;have mf_OvF:MCal l.prog w K mg base (CXe l.prog w) 5 zag "over" ["self","a","b"] [] (spOv 0 (AtF zag)):=⟨⟨_,_,((G_OvF).imp zwc).mono (by decide),b_10,⟨al,nh,k_10⟩⟩,T.cl_Fractions⟩;have G_RestsInit:=zkj T F_11 c_Prime q_FieldInit x_NoPrime;have k_RestsInit:Mak _ _ _ _ _ _ _ _ _ _ _ _:=⟨⟨_,_,G_RestsInit,b_11,⟨jb,fm,nj,jc⟩⟩,T.mg_Rests⟩;have G_NoughtR:=zns T F_12;have mf_NoughtR:∀n:Int,K3.Pr n->MCal l.prog w K mg base CX0 1 zao "nought" ["self"] [] (spNo 0 n (AtR zao n)):=λn hn=>⟨⟨_,_,((G_NoughtR).imp (zv6 hn (by decide) (by decide))).mono (by decide),b_12,⟨fq,nu,k_12⟩⟩,T.cl_Rests⟩
 have G_PlusR:=zst T F_13 ;have mf_PlusR:∀n:Int,K3.Pr n->MCal l.prog w K mg base CX0 3 zao "plus" ["self","a","b"] [] (spPl n (AtR zao n)):=λn hn=>⟨⟨_,_,((G_PlusR).imp (zuz hn)).mono (by decide),b_13,⟨fu,n6,k_13⟩⟩,T.cl_Rests⟩
 have G_TimesR:=zp4 T F_14 ;have m_TimesR:MCal _ _ _ _ _ _ _ _ _ _ _ _:=⟨⟨_,_,G_TimesR,b_14,⟨fv,og,k_14⟩⟩,T.cl_Rests⟩;have mf_TimesR:∀n:Int,K3.Pr n->MCal l.prog w K mg base CX0 3 zao "times" ["self","a","b"] [] (spTi n (AtR zao n)):=λn hn=>⟨⟨_,_,((G_TimesR).imp (zuu hn)).mono (by decide),b_14,⟨fv,og,k_14⟩⟩,T.cl_Rests⟩
 have G_AgR:=zyh T F_15 ;have mf_AgR:∀n:Int,K3.Pr n->MCal l.prog w K mg base CX0 1 zao "against" ["self","a"] [] (spAg n (AtR zao n)):=λn hn=>⟨⟨_,_,((G_AgR).imp (zw7 hn)).mono (by decide),b_15,⟨fw,oj,k_15⟩⟩,T.cl_Rests⟩
 have G_TuR:=zyq T F_16 x_NoOver ;have m_TuR:MCal _ _ _ _ _ _ _ _ _ _ _ _:=⟨⟨_,_,G_TuR,b_16,⟨fy,ou,k_16⟩⟩,T.cl_Rests⟩;have G_OvR:=zx8 T F_10 m_TuR m_TimesR;have mf_OvR:∀n:Int,K3.Pr n->MCal l.prog w K mg base (CXe l.prog w) 5 zao "over" ["self","a","b"] [] (spOv n (AtR zao n)):=λn hn=>⟨⟨_,_,((G_OvR).imp (zwg hn)).mono (by decide),b_10,⟨fk,nh,k_10⟩⟩,T.cl_Rests⟩
 have hfld:∀n:Int,n<=9973->(n=0\/K3.Pr n)->∃C,FldP l.prog w K mg base C (AtN zag zao n) n:=by
  rintro n n1 (rfl | n2)
  ·exact⟨zag,zy3 mf_Nought mf_PlusF mf_TimesF mf_AgF mf_OvF⟩
  ·exact⟨zao,zyx n2 (mf_NoughtR n n2) (mf_PlusR n n2) (mf_TimesR n n2) (mf_AgR n n2) (mf_OvR n n2)⟩
 have G_Deg:=zzr T F_17 ;have c_Deg:Cal _ _ _ _ _ _ _ _ _ _ _:=⟨_,_,G_Deg,b_17,k_17,W.mg_of X G ox⟩;have m_Rank_Order:MCal l.prog w K mg base CX0 3 zas "rank" ["self","term"] [] (zfc (AtO zas) rkL):=⟨⟨_,_,(ztd T F_18 ).mono (by decide),b_18,⟨f6,oz,k_18⟩⟩,T.cl_Order⟩;have bm_Order:BM K zas "rank":=⟨⟨_,f6,⟨l6,l7,by decide⟩⟩⟩;have m_Rank_Degrees:MCal l.prog w K mg base CX0 3 zal "rank" ["self","term"] [] (zfc (AtO zal) rkD):=⟨⟨_,_,(zsz T F_19 c_Deg).mono (by decide),b_19,⟨bi,o3,k_19⟩⟩,T.cl_Degrees⟩;have bm_Degrees:BM K zal "rank":=⟨⟨_,bi,⟨l8,l9,by decide⟩⟩⟩;have m_Rank_Tails:MCal l.prog w K mg base CX0 3 zat "rank" ["self","term"] [] (zfc (AtO zat) rkT):=⟨⟨_,_,(zrx T F_20 c_Deg).mono (by decide),b_20,⟨f7,o5,k_20⟩⟩,T.cl_Tails⟩;have bm_Tails:BM K zat "rank":=⟨⟨_,f7,⟨ma,mf,by decide⟩⟩⟩;have G_WInit:=zrd T F_21 x_NoOrder;have k_WInit:Mak _ _ _ _ _ _ _ _ _ _ _ _:=⟨⟨_,_,G_WInit,b_21,⟨dz,bj,o7,d5⟩⟩,T.mg_Weights⟩;have m_Rank_Weights:∀ws:List Int,Nn ws->(∀x∈ws,x<10^31)->MCal l.prog w K mg base CX0 3 zaj "rank" ["self","term"] [] (zfc (AtW zaj ws) (rkW ws)):=λws h1 h2=>⟨⟨_,_,(ztb T F_22 h1 h2).mono (by decide),b_22,⟨bn,o9,k_22⟩⟩,T.cl_Weights⟩
 have bm_Weights:BM K zaj "rank":=⟨⟨_,bn,⟨mh,mi,by decide⟩⟩⟩;have fit_Order:MCal l.prog w K mg base CX0 1 zas "fits" ["self","many"] [] (zhl (AtO zas) λ_=>true):=⟨⟨_,_,zir T (At:=AtO zas) F_23,b_23,⟨f8,ph,k_23⟩⟩,T.cl_Order⟩;have fit_Degrees:MCal l.prog w K mg base CX0 1 zal "fits" ["self","many"] [] (zhl (AtO zal) λ_=>true):=⟨⟨_,_,zir T (At:=AtO zal) F_23,b_23,⟨bo,ph,k_23⟩⟩,T.cl_Degrees⟩;have fit_Tails:MCal l.prog w K mg base CX0 1 zat "fits" ["self","many"] [] (zhl (AtO zat) λ_=>true):=⟨⟨_,_,zir T (At:=AtO zat) F_23,b_23,⟨f9,ph,k_23⟩⟩,T.cl_Tails⟩;have fit_Weights:∀ws:List Int,MCal l.prog w K mg base CX0 1 zaj "fits" ["self","many"] [] (zhl (AtW zaj ws) λk=>decide ((ws.length:Int)=k)):=λws=>⟨⟨_,_,ztf T (ws:=ws) F_24,b_24,⟨bq,p0,k_24⟩⟩,T.cl_Weights⟩
 have first_Order:MCal l.prog w K mg base (CXe l.prog w) 6 zas "first_of" ["self","terms"] [] (zgm (AtO zas) rkL za1):=⟨⟨_,_,zg8 T F_25 x_NoTerm (zne _) m_Rank_Order bm_Order,b_25,⟨gc,p7,k_25⟩⟩,T.cl_Order⟩;have first_Degrees:MCal l.prog w K mg base (CXe l.prog w) 6 zal "first_of" ["self","terms"] [] (zgm (AtO zal) rkD za1):=⟨⟨_,_,zg8 T F_25 x_NoTerm (zne _) m_Rank_Degrees bm_Degrees,b_25,⟨br,p7,k_25⟩⟩,T.cl_Degrees⟩;have first_Tails:MCal l.prog w K mg base (CXe l.prog w) 6 zat "first_of" ["self","terms"] [] (zgm (AtO zat) rkT za1):=⟨⟨_,_,zg8 T F_25 x_NoTerm (zne _) m_Rank_Tails bm_Tails,b_25,⟨gf,p7,k_25⟩⟩,T.cl_Tails⟩;have first_Weights:∀ws:List Int,Nn ws->(∀x∈ws,x<10^31)->MCal l.prog w K mg base (CXe l.prog w) 6 zaj "first_of" ["self","terms"] [] (zgm (AtW zaj ws) (rkW ws) za1):=λws h1 h2=>⟨⟨_,_,zg8 T F_25 x_NoTerm (zzo _ _) (m_Rank_Weights ws h1 h2) bm_Weights,b_25,⟨bv,p7,k_25⟩⟩,T.cl_Weights⟩
 have hord:∀(kd:Int) (ws:List Int),0<=kd->kd<4->Nn ws->(∀x∈ws,x<10^31)->∃C,OrdP l.prog w K mg base za1 C (AtK zas zal zat zaj kd ws) (rkk kd ws) (fbK kd ws):=by
  intro kd ws k0 k4 wn wb;rcases(by omega:kd=0\/kd=1\/kd=2\/kd=3) with rfl | rfl | rfl | rfl
  ·rw[show rkk 0 ws=rkL from funext λxs=>by unfold rkk;simp,show fbK 0 ws=λ_=>true from funext λm=>by unfold fbK;simp];show ∃C,OrdP l.prog w K mg base za1 C (AtO zas) rkL _;exact⟨zas,zne _,fit_Order,m_Rank_Order,first_Order⟩
  ·rw[show rkk 1 ws=rkD from funext λxs=>by unfold rkk;simp,show fbK 1 ws=λ_=>true from funext λm=>by unfold fbK;simp];show ∃C,OrdP l.prog w K mg base za1 C (AtO zal) rkD _;exact⟨zal,zne _,fit_Degrees,m_Rank_Degrees,first_Degrees⟩
  ·rw[show rkk 2 ws=rkT from funext λxs=>by unfold rkk;simp,show fbK 2 ws=λ_=>true from funext λm=>by unfold fbK;simp];show ∃C,OrdP l.prog w K mg base za1 C (AtO zat) rkT _;exact⟨zat,zne _,fit_Tails,m_Rank_Tails,first_Tails⟩
  ·rw[show rkk 3 ws=rkW ws from funext λxs=>by unfold rkk;simp,show fbK 3 ws=λm=>decide ((ws.length:Int)=m) from funext λm=>by unfold fbK;simp];show ∃C,OrdP l.prog w K mg base za1 C (AtW zaj ws) (rkW ws) _;exact⟨zaj,zzo _ _,fit_Weights ws,m_Rank_Weights ws wn wb,first_Weights ws wn wb⟩
 have G_RgInit:=zor T F_26 x_NoRing hord;have k_RgInit:Mak _ _ _ _ _ _ _ _ _ _ _ _:=⟨⟨_,_,G_RgInit,b_26,⟨kl,gx,qc,ko⟩⟩,T.mg_Ring⟩;have G_Prod:=zu7 T F_27;have c_Prod:Cal _ _ _ _ _ _ _ _ _ _ _:=⟨_,_,G_Prod,b_27,k_27,W.mg_of X G qh⟩;have G_Goes:=zve T F_28;have c_Goes:Cal _ _ _ _ _ _ _ _ _ _ _:=⟨_,_,G_Goes,b_28,k_28,W.mg_of X G qk⟩;have G_LeftO:=zsi T F_29 c_Goes x_NoTerm;have c_LeftO:Cal _ _ _ _ _ _ _ _ _ _ _:=⟨_,_,G_LeftO,b_29,k_29,W.mg_of X G qo⟩;have G_Absorb:=zpf T F_30 hfld;have c_Absorb:Cal _ _ _ _ _ _ _ _ _ _ _:=⟨_,_,G_Absorb,b_30,k_30,W.mg_of X G qr⟩;have G_Scal:=zvz T F_31 c_Prod hfld;have c_Scal:Cal _ _ _ _ _ _ _ _ _ _ _:=⟨_,_,G_Scal,b_31,k_31,W.mg_of X G qv⟩;have G_FT:=z0p T F_32 x_NoLead hord;have c_FT:Cal _ _ _ _ _ _ _ _ _ _ _:=⟨_,_,G_FT,b_32,k_32,W.mg_of X G qy⟩;have G_Place:=zti T F_33;have m_Place:MCal _ _ _ _ _ _ _ _ _ _ _ _:=⟨⟨_,_,G_Place,b_33,⟨b7,rf,k_33⟩⟩,T.cl_Waiting⟩;have G_Put:=zy0 T F_34 m_Place hord;have m_Put:MCal _ _ _ _ _ _ _ _ _ _ _ _:=⟨⟨_,_,G_Put,b_34,⟨b8,rh,k_34⟩⟩,T.cl_Waiting⟩;have G_WaInit:=zny T F_35 m_Put;have k_WaInit:Mak _ _ _ _ _ _ _ _ _ _ _ _:=⟨⟨_,_,G_WaInit,b_35,⟨fi,b9,rl,fj⟩⟩,T.mg_Waiting⟩;have G_Emp:=zzc T F_36;have m_Emp:MCal _ _ _ _ _ _ _ _ _ _ _ _:=⟨⟨_,_,G_Emp,b_36,⟨cg,r6,k_36⟩⟩,T.cl_Waiting⟩;have G_Taken:=zsg T F_37;have m_Taken:MCal _ _ _ _ _ _ _ _ _ _ _ _:=⟨⟨_,_,G_Taken,b_37,⟨ci,r9,k_37⟩⟩,T.cl_Waiting⟩;have G_LeInit:=zp7 T F_38 c_FT;have k_LeInit:Mak _ _ _ _ _ _ _ _ _ _ _ _:=⟨⟨_,_,G_LeInit,b_38,⟨j4,gg,sf,j5⟩⟩,T.mg_Leads⟩;have G_Fit:=zyo T F_39 c_Goes;have m_Fit:MCal _ _ _ _ _ _ _ _ _ _ _ _:=⟨⟨_,_,G_Fit,b_39,⟨gh,sj,k_39⟩⟩,T.cl_Leads⟩;have G_Div:=zxd T F_40 k_LeInit k_WaInit m_Emp m_Taken m_Fit c_LeftO c_Scal m_Put c_Absorb hfld hord;have c_Div:Cal _ _ _ _ _ _ _ _ _ _ _:=⟨_,_,G_Div,b_40,k_40,W.mg_of X G su⟩;have G_Cell:=zwo T F_41;have c_Cell:Cal _ _ _ _ _ _ _ _ _ _ _:=⟨_,_,G_Cell,b_41,k_41,W.mg_of X G sx⟩;have G_Gcd:=zzk T F_42;have c_Gcd:Cal _ _ _ _ _ _ _ _ _ _ _:=⟨_,_,G_Gcd,b_42,k_42,W.mg_of X G tf⟩;have G_Norm:=zws T F_43 c_Gcd;have c_Norm:Cal _ _ _ _ _ _ _ _ _ _ _:=⟨_,_,G_Norm,b_43,k_43,W.mg_of X G tw⟩;have G_Times:=ztg T F_44 c_Norm;have c_Times:Cal _ _ _ _ _ _ _ _ _ _ _:=⟨_,_,G_Times,b_44,k_44,W.mg_of X G t6⟩;have G_Plus:=zwl T F_45 c_Norm;have c_Plus:Cal _ _ _ _ _ _ _ _ _ _ _:=⟨_,_,G_Plus,b_45,k_45,W.mg_of X G t8⟩;have G_NouB:=zux T F_46;have c_NouB:Cal _ _ _ _ _ _ _ _ _ _ _:=⟨_,_,G_NouB,b_46,k_46,W.mg_of X G ua⟩;have G_OneB:=zuw T F_47;have c_OneB:Cal _ _ _ _ _ _ _ _ _ _ _:=⟨_,_,G_OneB,b_47,k_47,W.mg_of X G ud⟩;have G_LPb:=zxl T F_48;have c_LPb:Cal _ _ _ _ _ _ _ _ _ _ _:=⟨_,_,G_LPb,b_48,k_48,W.mg_of X G uf⟩;have G_LRs:=zzt T F_49 c_LPb;have c_LRs:Cal _ _ _ _ _ _ _ _ _ _ _:=⟨_,_,G_LRs,b_49,k_49,W.mg_of X G uh⟩;have G_Whole:=zsf T F_50;have c_Whole:Cal _ _ _ _ _ _ _ _ _ _ _:=⟨_,_,G_Whole,b_50,k_50,W.mg_of X G uj⟩;have G_IsN:=zzg T F_51 c_Whole c_Gcd;have c_IsN:Cal _ _ _ _ _ _ _ _ _ _ _:=⟨_,_,G_IsN,b_51,k_51,W.mg_of X G uq⟩;have G_IsP:=zyv T F_52 c_IsN c_Whole;have c_IsP:Cal _ _ _ _ _ _ _ _ _ _ _:=⟨_,_,G_IsP,b_52,k_52,W.mg_of X G ut⟩
 have G_ArP:=zyk T F_53 c_IsP ;have c_ArP:Cal _ _ _ _ _ _ _ _ _ _ _:=⟨_,_,G_ArP,b_53,k_53,W.mg_of X G uv⟩;have G_LFld:=zwi T F_54 k_FracInit k_RestsInit;have c_LFld:Cal _ _ _ _ _ _ _ _ _ _ _:=⟨_,_,G_LFld,b_54,k_54,W.mg_of X G ux⟩;have G_LOrd:=zvf T F_55 k_WInit;have c_LOrd:Cal _ _ _ _ _ _ _ _ _ _ _:=⟨_,_,G_LOrd,b_55,k_55,W.mg_of X G u3⟩;have G_Cop:=zzv T F_56;have c_Cop:Cal _ _ _ _ _ _ _ _ _ _ _:=⟨_,_,G_Cop,b_56,k_56,W.mg_of X G u7⟩;have G_AddB:=zvt T F_57 c_Times c_Plus c_NouB;have c_AddB:Cal _ _ _ _ _ _ _ _ _ _ _:=⟨_,_,G_AddB,b_57,k_57,W.mg_of X G u9⟩;have G_RkB:=zzm T F_58;have c_RkB:Cal _ _ _ _ _ _ _ _ _ _ _:=⟨_,_,G_RkB,b_58,k_58,W.mg_of X G vb⟩;have G_GoB:=zxm T F_59;have c_GoB:Cal _ _ _ _ _ _ _ _ _ _ _:=⟨_,_,G_GoB,b_59,k_59,W.mg_of X G vf⟩;have G_LeadB:=zr6 T F_60 hcc (W.codeHd_of_K kb ya) hBd c_RkB;have cLead:Cal _ _ _ _ _ _ _ _ _ _ _:=⟨_,_,G_LeadB,b_60,vk,W.mg_of X G vh⟩;have G_WtB:=zy9 T F_61;have c_WtB:Cal _ _ _ _ _ _ _ _ _ _ _:=⟨_,_,G_WtB,b_61,k_61,W.mg_of X G vm⟩;have G_SumB:=zwp T F_62 c_AddB;have c_SumB:Cal _ _ _ _ _ _ _ _ _ _ _:=⟨_,_,G_SumB,b_62,k_62,W.mg_of X G vt⟩;have G_SomeC:=zrh T F_63 c_Norm;have c_SomeC:Cal _ _ _ _ _ _ _ _ _ _ _:=⟨_,_,G_SomeC,b_63,k_63,W.mg_of X G vy⟩;have G_PolyB:=zsl T F_64 c_SomeC c_OneB c_AddB;have c_PolyB:Cal _ _ _ _ _ _ _ _ _ _ _:=⟨_,_,G_PolyB,b_64,k_64,W.mg_of X G wc⟩;have G_LdsB:=zw9 T F_65 cLead;have cLds:Cal _ _ _ _ _ _ _ _ _ _ _:=⟨_,_,G_LdsB,b_65,k_65,W.mg_of X G we⟩;have G_FreB:=zvp T F_66 c_GoB;have c_FreB:Cal _ _ _ _ _ _ _ _ _ _ _:=⟨_,_,G_FreB,b_66,k_66,W.mg_of X G wg⟩;have G_ApB:=zx3 T F_67;have c_ApB:Cal _ _ _ _ _ _ _ _ _ _ _:=⟨_,_,G_ApB,b_67,k_67,W.mg_of X G wk⟩;have G_QGB:=zza T F_68 c_FreB;have c_QGB:Cal _ _ _ _ _ _ _ _ _ _ _:=⟨_,_,G_QGB,b_68,k_68,W.mg_of X G wm⟩;exact zzf T F_69 c_Cell c_LRs c_WtB c_PolyB c_LFld c_LOrd k_RgInit c_Cop c_Div c_ArP c_IsP c_SumB c_OneB c_AddB c_FreB c_ApB c_QGB hfld hord cLds
theorem walk{l:W.OpenLaw}{q:Program}{loose:List Str}{XP:(Str->Option Value)->Heap->Prop}{YP:World->Heap->Prop}{d:DefRec}{K:Params->W.Frag}(hn:l.most=some 63)(hdf:d.params.defaults=[])
  (hY:∀(w:World) (h:Heap),YP w h->(K w.params).In h) (Pt:Addr) (hT:∀(w:World) (h:Heap),YP w h->h.get? Pt=some (W.tabObj #[]))
  (F:∀(w:World) (mg:Str->Option Value) (fa:Addr) (h:Heap),(K w.params).In h->h.Ns mainGlobals mg->mg d.name=some (.ref fa) ->
   ∃(cc:Addr) (fd:FuncData),W.codeHdIn (K w.params) cc Pt=true/\(K w.params).lookup Pt=none/\(∀(s:Shared) (u:Value),BindsTo s fd ⟨[u],[]⟩ [("_law_script",u)])/\∀base:Heap,(K w.params).In base->base.Ns mainGlobals mg->base.BuiltinsAt mg Pt->FnOk l.prog w (K w.params) mg base CX0 18 fa fd ["_law_script"] (zrv (K w.params) Pt)) :
  W.WalkO q loose XP YP l.row.toRowW d [] (λf vs=>PySem.call f vs):=
 L2.walk_ofT (n:=63) (k:=18) (x:="_law_script") (CX:=λ_=>CX0) (sp:=λw Pt=>zrv (K w.params) Pt) hn (by decide) hdf ⟨Z,by decide,by decide⟩ hY Pt hT F (λ_ _ a ns hl hO hS=>⟨a,ns,Z,hS,hl,hO.2,λ_=>Z⟩) λ_ _ _ _ _ z=>z
end K6
open PySem PySem.W PyProof.Rows
set_option maxRecDepth 100000 in
theorem PySem.Challenge.cw_idealroom_k17_divided_identity_holds : PySem.Challenge.rw_idealroom_k17_divided_identity.Holds := by
 w_on;o_law;k_head;(case hw=>w_witness2)
 k_fill
 refine K6.walk (l:=PySem.Challenge.rw_idealroom_k17_divided_identity) rfl rfl (λw h Y=>W.km_in_of Y) _ (λw h Y=>W.km_tabs_of Y _ (List.Mem.head _)) ?F
 case F=>
  intro w mg fa h KX G hmg;refine' K6.all_mk KX G hmg ?lc ?kc ?ke ?kf ?kh ?kl ?ko ?ay ?am ?ao ?cm ?a7 ?a8 ?a9 ?bd ?bf ?bh ?aa ?kq ?i7 ?i8 ?i9 ?ja ?jb ?jc ?aj ?kr ?jd ?je ?jf ?jg ?jh ?ji ?jk ?gu ?cr ?cw ?cx ?cy ?cz ?di ?dk ?ku ?jm ?jn ?jo ?jp ?jt ?ju ?jv ?gv ?dm ?dt ?du ?dy ?dz ?d5 ?ae ?gw ?d7 ?d8 ?d9 ?fg ?fi ?fj ?af ?ag ?ah ?k6 ?jw ?jx ?jy ?j3 ?j4 ?j5 ?ak ?wy ?wz ?w4 ?w6 ?m7 ?m8 ?m9 ?ng ?xa ?xf ?ap ?xh ?xi ?aq ?xj ?xm ?ar ?xn ?xo ?xp ?xr ?xt ?au ?xu ?xw ?av ?xx ?x3 ?aw ?x5 ?x6 ?ax ?x8 ?x9 ?al ?fk ?nh ?ni ?fm ?nj ?nr ?fq ?nu ?n5 ?fu ?n6 ?n8 ?fv ?og ?oh ?fw ?oj ?ot ?fy ?ou ?ow ?ox ?oy ?f6 ?oz ?l6 ?l7 ?o2 ?bi ?o3 ?l8 ?l9 ?o4 ?f7 ?o5 ?ma ?mf ?o6 ?bj ?o7 ?o8 ?bn ?o9 ?mh ?mi ?pc ?bo ?f8 ?f9 ?ph ?pj ?bq ?p0 ?p6 ?br ?gc ?gf ?bv ?p7 ?p9 ?gx ?qc ?qe ?qh ?qj ?qk ?qm ?qo ?qp ?qr ?qu ?qv ?qx ?qy ?qz ?b7 ?rf ?rg ?b8 ?rh ?rj ?b9 ?rl ?rm ?cg ?r6 ?r8 ?ci ?r9 ?se ?gg ?sf ?sg ?gh ?sj ?sk ?su ?sw ?sx ?sy ?tf ?tj ?tw ?tz ?t6 ?t7 ?t8 ?t9 ?ua ?uc ?ud ?ue ?uf ?ug ?uh ?ui ?uj ?ul ?uq ?ur ?ut ?uu ?uv ?uw ?ux ?uz ?u3 ?u6 ?u7 ?u8 ?u9 ?va ?vb ?ve ?vf ?vg ?vh ?vi ?vj ?vk ?vm ?vo ?vt ?vw ?vy ?vz ?wc ?wd ?we ?wf ?wg ?wj ?wk ?wl ?wm ?wo ?wq ?wr ?wu ?wv ?j6 ?gz ?h8 ?h9 ?ie ?gi ?gj ?gk ?j7 ?ig ?ij ?il ?io ?gm ?gn ?gq ?j8 ?ip ?iq ?ir ?j9 ?iu ?iw ?iz ?mj ?ml ?mn ?mo ?mq ?mr ?mt ?mv ?ln ?lr ?cn ?mw ?ck ?mx ?lz ?my ?k8 ?gr ?mz ?k9 ?m6 ?ai ?i0 ?ww ?ya ?yb
  all_goals try first | k_is | exact .mk (by k_is) (by k_is) (by k_is) | exact PySem.F.excBase_ValueError | k_exc | kts_exm | kit_is | exact rfl | kernel_rfl
#print axioms PySem.Challenge.cw_idealroom_k17_divided_identity_holds
