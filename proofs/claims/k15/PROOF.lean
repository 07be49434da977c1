import PyProof.Rows.All
import Wide.All
import OpenK.AllK
import Wide.FinOn
import Lean
import PyProof.EqAt
import PyProof.EqKinds
import PyProof.TupleCall
import KE.KSortTup
import KE.KLam
import KE.KNestM
import KE.KDictList
import PyProof.ExcArgsOwn
import PyProof.NsDelKeeps
import KE.KIntText
import PyProof.StrCalls6
import PyProof.StrLawsReplace
import PyProof.StrLoop
import PyProof.StrWalks
import PyProof.StrCalls2
import PyProof.StrOps2
import PyProof.EnumMake
import PyProof.StrOps
import PySem.Challenge.RW_idealroom_k15_texts_refused
set_option maxHeartbeats 0
set_option Elab.async false
set_option linter.all false
set_option maxRecDepth 100000
theorem Z.{u}{α:Sort u}{a:α}:a=a:=rfl
section
open PySem PyProof.Rows
abbrev Ya:=@wpAny_bind
abbrev Yb:=@wpAny_pure
abbrev Yc:=@List.getElem?_eq_getElem
abbrev Yd:=@List.length_map
abbrev Ye:=@Heap.get?_push_of_some
abbrev Yf:=@Nat.lt_of_lt_of_le
abbrev Yg:=@List.mem_append_right
abbrev Yh:=@if_neg
abbrev Yi:=@Nat.le_refl
abbrev Yj:=@List.mem_cons
abbrev Yk:=@Heap.get?_push_size
abbrev Yl:=@if_pos
abbrev Ym:=@List.getElem?_map
abbrev Yn:=@Heap.lt_size
abbrev Yo:=@decide_eq_true
abbrev Yp:=@Nat.lt_of_le_of_lt
abbrev Yq:=@List.mem_singleton
abbrev Yr:=@Nat.le_trans
abbrev Ys:=@List.size_toArray
abbrev Yt:=@Bool.false_ne_true
abbrev Yu:=@List.filter_eq_self
abbrev Yv:=@Nat.pow_le_pow_right
abbrev Yw:=@decide_eq_false
abbrev Yx:=@List.mem_of_getElem?
abbrev Yy:=@List.getElem?_eq_none
abbrev Yz:=@List.map_cons
abbrev Y0:=@Nat.ne_of_lt
abbrev Y1:=@Int.toNat_natCast
abbrev Y2:=@Nat.zero_le
abbrev Y3:=@Int.mul_le_mul_of_nonneg_left
abbrev Y4:=@Nat.mul_le_mul_right
abbrev Y5:=@List.length_cons
abbrev Y6:=@List.length_append
abbrev Y7:=@wpAny_dictEntries
abbrev Y8:=@wpAny_call_entry
abbrev Y9:=@List.not_mem_nil
abbrev Ja:=@List.length_eq_zero_iff
abbrev Jb:=@wpAny_callSpecial?_slot
abbrev Jc:=@Ne.symm
abbrev Jd:=@Int.emod_lt_of_pos
abbrev Je:=@False.elim
abbrev Jf:=@Option.some.inj
abbrev Jg:=@Nat.lt_or_ge
abbrev Jh:=@List.map_map
abbrev Ji:=@List.mem_map
abbrev Jj:=@wpAny_field
abbrev Jk:=@List.lookup_cons
abbrev Jl:=@Int.emod_nonneg
abbrev Jm:=@wpAny_newObj_type
abbrev Jn:=@wpAny_setField_rec
abbrev Jo:=@wpAny_truthy_bool
abbrev Jp:=@wpAny_holding
abbrev Jq:=@wpAny_seqItems
abbrev Jr:=@List.mem_append
abbrev Js:=@congrArg
abbrev Jt:=@eq_of_beq
abbrev Ju:=@Bool.and_eq_true
end
namespace L2
open PySem PySem.Spec PyProof.Rows
abbrev Key:=Sum Int Str
def zku:Key->Value->Bool
 | .inl k,v=>Value.isInt k v
 | .inr x,v=>Value.isStrOf x v
def keyH(w:World):Key->Int
 | .inl k=>hashInt k
 | .inr x=>hashStr w x
theorem zbg:∀{k:Key} {v:Value},zku k v=true->(∃i t,k=Sum.inl i/\v=Value.int i t)\/(∃x t,k=Sum.inr x/\v=Value.str x t)
 | .inl i,v,h=>by
  obtain⟨t,e⟩:=Value.isInt_shape (k:=i) (v:=v) h;exact .inl ⟨i,t,Z,e⟩
 | .inr x,v,h=>by
  obtain⟨t,e⟩:=Value.isStrOf_shape (x:=x) (v:=v) h;exact .inr ⟨x,t,Z,e⟩
theorem zlh(i:Int)(t:Tok):zku (.inl i) (.int i t)=true:=by simp[zku,Value.isInt]
theorem zn7(x:Str)(t:Tok):zku (.inr x) (.str x t)=true:=by simp[zku,Value.isStrOf]
theorem zxe(a b:Int):decide ((Sum.inl a:Key)=Sum.inl b)=(a == b):=by
 by_cases e:a=b
 ·subst e;simp
 ·have h:¬(Sum.inl a:Key)=Sum.inl b:=λq=>e (Sum.inl.inj q)
  rw[Yw h];exact(beq_eq_false_iff_ne.mpr e).symm
theorem zxc(a b:Str):decide ((Sum.inr a:Key)=Sum.inr b)=decide (a=b):=by
 by_cases e:a=b
 ·subst e;simp
 ·have h:¬(Sum.inr a:Key)=Sum.inr b:=λq=>e (Sum.inr.inj q)
  rw[Yw h,Yw e]
theorem zvb(a:Int)(b:Str):decide ((Sum.inl a:Key)=Sum.inr b)=false:=Yw (λq=>nomatch q)
theorem zv5(a:Str)(b:Int):decide ((Sum.inr a:Key)=Sum.inl b)=false:=Yw (λq=>nomatch q)
def zbn(prog:Program)(w:World):PySem.KeyKind prog w Key where
 is:=zku
 hash:=keyH w
 inj:=λv a b ha hb=>by
  rcases zbg ha with⟨i,t,rfl,rfl⟩ | ⟨x,t,rfl,rfl⟩
  ·rcases zbg hb with⟨j,u,rfl,e⟩ | ⟨y,u,rfl,e⟩
   ·injection e with e1 _;rw[e1]
   ·exact nomatch e
  ·rcases zbg hb with⟨j,u,rfl,e⟩ | ⟨y,u,rfl,e⟩
   ·exact nomatch e
   ·injection e with e1 _;rw[e1]
 byValue:=λk v h=>by
  rcases zbg h with⟨i,t,rfl,rfl⟩ | ⟨x,t,rfl,rfl⟩ <;> rfl
 pyHash:=λhv h=>by
  rcases zbg hv with⟨i,t,rfl,rfl⟩ | ⟨x,t,rfl,rfl⟩
  ·exact wpAny_pyHash_int h
  ·exact wpAny_pyHash_str h
 eqBool:=λhu hv h=>by
  rcases zbg hu with⟨i,t,rfl,rfl⟩ | ⟨x,t,rfl,rfl⟩
  ·rcases zbg hv with⟨j,u,rfl,rfl⟩ | ⟨y,u,rfl,rfl⟩
   ·rw[zxe]at h;exact wpAny_eqBool_int h
   ·rw[zvb]at h;exact SeqAt.EqAt.int_str i t y u _ _ _ _ h
  ·rcases zbg hv with⟨j,u,rfl,rfl⟩ | ⟨y,u,rfl,rfl⟩
   ·rw[zv5]at h;exact SeqAt.EqAt.str_int x t j u _ _ _ _ h
   ·rw[zxc]at h;exact wpAny_eqBool_str h
 «strs»:=λk x t v h=>by
  rcases zbg h with⟨i,u,rfl,e⟩ | ⟨y,u,rfl,e⟩
  ·exact nomatch e
  ·injection e with e1 _
   subst e1
   cases v <;> rfl
theorem zjc(prog:Program)(w:World)(i:Int)(t:Tok):(zbn prog w).is (.inl i) (.int i t)=true:=zlh i t
theorem zi2(prog:Program)(w:World)(x:Str)(t:Tok):(zbn prog w).is (.inr x) (.str x t)=true:=zn7 x t
inductive V where
 | non | bl (b:Bool) | int (i:Int) | str (x:Str) | byt (b:Array UInt8) | flt (b:UInt64) | ref (a:Addr) | ty (n:String)
 deriving DecidableEq
def RelV:V->Value->Prop
 | .non,u=>u=Value.none
 | .bl b,u=>u=Value.bool b
 | .int i,u=>∃t,u=Value.int i t
 | .str x,u=>∃t,u=Value.str x t
 | .byt b,u=>∃t,u=Value.bytes b t
 | .flt b,u=>∃t,u=Value.float b t
 | .ref a,u=>u=Value.ref a
 | .ty n,u=>u=Value.type n
abbrev Vals:List V->List Value->Prop:=Paired RelV
theorem Vals.length{xs:List V}{us:List Value}(r:Vals xs us):xs.length=us.length:=Paired.length r
theorem Vals.get:∀{xs:List V} {us:List Value} {i:Nat} {x:V},Vals xs us->xs[i]? = some x->∃u,us[i]? = some u/\RelV x u
 | _,_,_,_,.nil,e=>by simp at e
 | _,_,0,_,.cons r _,e=>by simp at e;subst e;exact⟨_,rfl,r⟩
 | _,_,i+1,x,.cons _ t,e=>by
  obtain⟨u,h1,h2⟩:=Vals.get (i:=i) (x:=x) t (by simpa using e);exact⟨u,by simpa using h1,h2⟩
theorem Vals.append:∀{xs ys:List V} {us ws:List Value},Vals xs us->Vals ys ws->Vals (xs++ys) (us++ws)
 | _,_,_,_,.nil,s=>s
 | _,_,_,_,.cons r t,s=>.cons r (Vals.append t s)
theorem Vals.take:∀{xs:List V} {us:List Value} (n:Nat),Vals xs us->Vals (xs.take n) (us.take n)
 | _,_,0,_=>.nil
 | _,_,_+1,.nil=>.nil
 | _,_,n+1,.cons r t=>.cons r (Vals.take n t)
theorem Vals.drop:∀{xs:List V} {us:List Value} (n:Nat),Vals xs us->Vals (xs.drop n) (us.drop n)
 | _,_,0,r=>r
 | _,_,_+1,.nil=>.nil
 | _,_,n+1,.cons _ t=>Vals.drop n t
def RelO:Option V->Option Value->Prop
 | some v,some u=>RelV v u
 | none,none=>True
 | _,_=>False
def KV{κ : Type}:List (κ×V)->List (κ×Value)->Prop:=Paired fun(p : κ×V) (q : κ×Value)=>p.1=q.1/\RelV p.2 q.2
def kV:Key->V
 | .inl i=>.int i
 | .inr x=>.str x
inductive HO where
  | lst (xs:List V)
  | tup (xs:List V)
  | dK (kvs:List (Key×V)) | dT (kvs:List (List Key×V))
  | set (S:Int->Bool) (n:Nat)
  | ins (C dx:Addr) (fs:List (Str×V))
  | own (x:Addr)
  | xd (fs:List (Str×V))
  | met (f x:Addr)
  | rng (lo hi:Int)
  | frz (o:Obj) (u:HO)
  | tbl (ps:Array Value)
  | ext (φ : Heap->Prop)
abbrev Hp:=Addr->Option HO
def upd(H:Hp)(a:Addr)(o:HO):Hp:=λb=>if b=a then some o else H b
theorem zah{H:Hp}{a:Addr}{o:HO}:upd H a o a=some o:=by unfold upd;rw[Yl rfl]
theorem zar{H:Hp}{a b:Addr}{o:HO}(h:b≠a):upd H a o b=H b:=by unfold upd;rw[Yh h]
theorem zf2{H:Hp}{a b:Addr}{o u:HO}(h:H a=some o)(h':H b=some u)(d:o≠u):a≠b:=by
 intro e;subst e;rw[h]at h';exact d (Jf h')
theorem zaq{H:Hp}{a b:Addr}{o:HO}(h:H a=some o)(h':H b=none):a≠b:=by
 intro e;subst e;rw[h]at h';cases h'
section
variable(P:Program)(w:World)
def ObjOk(H:Hp)(h:Heap)(a:Addr):HO->Prop
 | .lst xs=>xs.length<=sizeLine/\∃(its:List Value) (n:Nat),Vals xs its/\h.get? a=some { cls:=.type "list",data:=.seq its.toArray n }
 | .tup xs=>xs.length<=sizeLine/\∃its:List Value,Vals xs its/\IsTup h a its.toArray
 | .dK kvs=>kvs.length<=sizeLine/\(a == sysModules)=false/\∃vs,KV kvs vs/\h.DictOf (zbn P w) a vs
 | .dT kvs=>kvs.length<=sizeLine/\(a == sysModules)=false/\∃xs:List (List Key×Addr×Value),
   Paired (fun(p:List Key×V) (q:List Key×Addr×Value)=>p.1=q.1/\H q.2.1=some (.tup (p.1.map kV))/\RelV p.2 q.2.2) kvs xs /\
   ∃o es ep,h.get? a=some o/\o.ExactDict/\o.data=.dict es ep/\es.toList=xs.map (entryOfKey (tupleKind (zbn P w)))/\(xs.map (·.1)).Nodup
 | .set S n=>h.SetOf (intKind P w) a S n
 | .ins C dx fs=>H dx=some (.own a)/\fs.length<=1000/\dx≠a/\h.get? a=some (W.instObj C dx) /\
   ∃mA,h.Ns1 dx mA/\(∀f,RelO (fs.lookup f) (mA f))/\PySem.Within mA (fs.map (·.1))
 | .own _=>∃o,h.get? a=some o
 | .xd fs=>∃mA,h.Ns1 a mA/\∀f,RelO (fs.lookup f) (mA f)
 | .rng lo hi=>∃t u v,h.get? a=some { cls:=.type "range",data:=.fields #[.int lo t,.int hi u,.int 1 v] }
 | .frz o u=>h.get? a=some o/\ObjOk H h a u
 | .tbl ps=>h.get? a=some { cls:=.none,data:=.fields ps }
 | .met f x=>h.get? a=some (W.methodObj (.ref f) (.ref x))
 | .ext φ=>φ h/\(∃o,h.get? a=some o)/\∀h1 h2:Heap,φ h1->(∀o,h1.get? a=some o->h2.get? a=some o)->φ h2
def HOk(H:Hp)(h:Heap):Prop:=∀a o,H a=some o->ObjOk P w H h a o
end
section
variable{P:Program}{w:World}{H H':Hp}{h h':Heap}{a:Addr}{o:HO}
theorem ObjOk.lt(x:ObjOk P w H h a o):a<h.objs.size:=by
 cases o with
 | lst xs=>obtain⟨_,_,_,_,e⟩:=x;exact Yn e
 | tup xs=>obtain⟨_,_,_,p⟩:=x;exact p.lt
 | dK kvs=>obtain⟨_,_,_,_,o,_,_,e,_⟩:=x;exact Yn e
 | dT kvs=>obtain⟨_,_,_,_,o,_,_,e,_⟩:=x;exact Yn e
 | set S n=>obtain⟨o,_,_,_,e,_⟩:=x;exact Yn e
 | ins C dx fs=>obtain⟨_,_,_,e,_⟩:=x;exact Yn e
 | own y=>obtain⟨_,e⟩:=x;exact Yn e
 | xd fs=>obtain⟨_,⟨_,_,_,e,_⟩,_⟩:=x;exact Yn e
 | rng lo hi=>obtain⟨_,_,_,e⟩:=x;exact Yn e
 | frz ob u=>obtain⟨e,_⟩:=x;exact Yn e
 | tbl ps=>exact Yn (show h.get? a=some _ from x)
 | met f y=>exact Yn (show h.get? a=some _ from x)
 | ext φ=>obtain⟨_,⟨_,e⟩,_⟩:=x;exact Yn e
theorem Paired.mapP{α β : Type}{F G : α->β->Prop}:∀{l₁:List α} {l₂:List β},Paired F l₁ l₂->(∀a b,F a b->G a b)->Paired G l₁ l₂
 | _,_,.nil,_=>.nil
 | _,_,.cons r t,f=>.cons (f _ _ r) (Paired.mapP t f)
theorem Paired.imp'{α β : Type}{F G : α->β->Prop}(f:∀a b,F a b->G a b){l₁:List α}{l₂:List β}(r:Paired F l₁ l₂):Paired G l₁ l₂:=Paired.mapP r f
theorem ObjOk.stay(x:ObjOk P w H h a o)(k:∀b u,(b=a\/H b=some (.own a))->h.get? b=some u->h'.get? b=some u)
  (ho:∀b,H b=some (.own a)->H' b=some (.own a)) (ht:∀b xs,H b=some (.tup xs)->H' b=some (.tup xs)):ObjOk P w H' h' a o:=by
 induction o with
 | lst xs=>obtain⟨z,its,n,r,e⟩:=x;exact⟨z,its,n,r,k _ _ (.inl rfl) e⟩
 | tup xs=>obtain⟨z,its,r,ob,e,c⟩:=x;exact⟨z,its,r,ob,k _ _ (.inl rfl) e,c⟩
 | dK kvs=>obtain⟨z,y,vs,r,ob,es,ep,e,c⟩:=x;exact⟨z,y,vs,r,ob,es,ep,k _ _ (.inl rfl) e,c⟩
 | dT kvs=>
  obtain⟨z,y,xs,r,ob,es,ep,e,c⟩:=x;exact⟨z,y,xs,Paired.mapP r λp q z=>⟨z.1,ht _ _ z.2.1,z.2.2⟩,ob,es,ep,k _ _ (.inl rfl) e,c⟩
 | set S n=>obtain⟨ob,es,ep,t,e,c⟩:=x;exact⟨ob,es,ep,t,k _ _ (.inl rfl) e,c⟩
 | ins C dx fs=>
  obtain⟨d,z,ne,e,mA,⟨od,es,ep,e2,c⟩,r⟩:=x;exact⟨ho _ d,z,ne,k _ _ (.inl rfl) e,mA,⟨od,es,ep,k _ _ (.inr d) e2,c⟩,r⟩
 | own y=>obtain⟨ob,e⟩:=x;exact⟨ob,k _ _ (.inl rfl) e⟩
 | xd fs=>obtain⟨mA,⟨od,es,ep,e,c⟩,r⟩:=x;exact⟨mA,⟨od,es,ep,k _ _ (.inl rfl) e,c⟩,r⟩
 | rng lo hi=>obtain⟨t,u,v,e⟩:=x;exact⟨t,u,v,k _ _ (.inl rfl) e⟩
 | frz ob u ih=>obtain⟨e,q⟩:=x;exact⟨k _ _ (.inl rfl) e,ih q⟩
 | tbl ps=>
  have e:h.get? a=some { cls:=.none,data:=.fields ps }:=x;show h'.get? a=some { cls:=.none,data:=.fields ps };exact k a _ (.inl rfl) e
 | met f y=>
  have e:h.get? a=some (W.methodObj (.ref f) (.ref y)):=x;show h'.get? a=some (W.methodObj (.ref f) (.ref y));exact k a _ (.inl rfl) e
 | ext φ=>obtain⟨p,⟨o,e⟩,st⟩:=x;exact⟨st _ _ p λo q=>k _ _ (.inl rfl) q,⟨o,k _ _ (.inl rfl) e⟩,st⟩
theorem HOk.lt(x:HOk P w H h)(e:H a=some o):a<h.objs.size:=(x a o e).lt
theorem HOk.fresh(x:HOk P w H h)(e:h.objs.size<=a):H a=none:=by
 cases q:H a with
 | none=>rfl
 | some u=>exact absurd (Yf (x.lt q) e) (Nat.lt_irrefl _)
theorem HOk.kept(x:HOk P w H h)(k:∀b u,h.get? b=some u->h'.get? b=some u):HOk P w H h':=λa o e=>
 (x a o e).stay (λb u _ q=>k b u q) (λ_ q=>q) λ_ _ q=>q
theorem HOk.laid(x:HOk P w H h)(k:∀b u,h.get? b=some u->h'.get? b=some u)(hp:h.objs.size<=a)(new:ObjOk P w (upd H a o) h' a o):HOk P w (upd H a o) h':=λb u e=>by
 have hn:=x.fresh hp;by_cases hb:b=a
 ·subst hb;rw[zah]at e;cases e;exact new
 ·rw[zar hb]at e;exact(x b u e).stay (λc v _ q=>k c v q) (λc q=>by rw[zar (zaq q hn)];exact q) λc xs q=>by rw[zar (zaq q hn)];exact q
end
def Rd(H:Hp)(a:Addr)(u:HO):Prop:=H a=some u\/∃o,H a=some (.frz o u)
theorem Rd.ok{P:Program}{w:World}{H:Hp}{h:Heap}{a:Addr}{u:HO}(r:Rd H a u)(x:HOk P w H h):ObjOk P w H h a u:=by
 rcases r with r | ⟨o,r⟩
 ·exact x a u r
 ·obtain⟨_,q⟩:=x a _ r;exact q
def Mut:Option HO->Prop
 | some (.lst _)=>True
 | some (.dK _)=>True
 | some (.dT _)=>True
 | some (.set _ _)=>True
 | some (.ins _ _ _)=>True
 | some (.ext _)=>True
 | _=>False
section
variable{P:Program}{w:World}{H:Hp}{h h':Heap}{x e:Addr}{o':HO}
theorem HOk.write(ok:HOk P w H h)(mu:Mut (H x))(he:e=x\/H e=some (.own x))(k:∀b u,b≠e->h.get? b=some u->h'.get? b=some u)(heo:∃u,h'.get? e=some u)
  (new:ObjOk P w (upd H x o') h' x o'):HOk P w (upd H x o') h':=λb u q=>by
 have nown:∀c y,H c=some (.own y)->c≠x:=λc y r z=>by subst z;rw[r]at mu;exact mu
 have ntup:∀c xs,H c=some (.tup xs)->c≠x:=λc xs r z=>by subst z;rw[r]at mu;exact mu
 by_cases hb:b=x
 ·subst hb;rw[zah]at q;cases q;exact new
 ·rw[zar hb]at q;by_cases hbe:b=e
  ·have q':H b=some (.own x):=by
    rcases he with z | z
    ·exact absurd (hbe.trans z) hb
    ·rw[hbe];exact z
   rw[q]at q';cases q';obtain⟨v,hv⟩:=heo;exact⟨v,by rw[hbe];exact hv⟩
  ·refine(ok b u q).stay (λc v hc r=>k c v ?_ r) (λc r=>by rw[zar (nown c b r)];exact r) λc xs r=>by rw[zar (ntup c xs r)];exact r
   rcases hc with rfl | hc
   ·exact hbe
   ·rintro rfl;rcases he with z | z
    ·exact nown c b hc z
    ·rw[hc]at z;cases z;exact hb rfl
end
structure Un(fs ex:List Addr)(H H':Hp)(h h':Heap):Prop where
 keep:∀b o,h.get? b=some o->H b=none->b ∉ fs->b ∉ ex->h'.get? b=some o
 slot:∀b o,h.get? b=some o->H b=none->b∈fs->b ∉ ex->∃sl,h'.get? b=some { o with slots:=sl }
 free:∀b o,h.get? b=some o->H b=none->b ∉ ex->H' b=none
 there:∀b o,h.get? b=some o->b ∉ ex->∃o',h'.get? b=some o'
 tups:∀b xs,H b=some (.tup xs)->H' b=some (.tup xs)
 frzs:∀b o u,H b=some (.frz o u)->H' b=some (.frz o u)
 tbls:∀b ps,H b=some (.tbl ps)->∃more,H' b=some (.tbl (ps++more))
section
variable{fs fs' ex ex':List Addr}{H H1 H2:Hp}{h h1 h2 h':Heap}{a x e:Addr}{o:HO}
theorem Un.any(u:Un fs ex H H1 h h1){b:Addr}{ob:Obj}(q:h.get? b=some ob)(n:H b=none)(hx:b ∉ ex):∃sl,h1.get? b=some { ob with slots:=sl }:=by
 by_cases hb:b∈fs
 ·exact u.slot b ob q n hb hx
 ·exact⟨ob.slots,u.keep b ob q n hb hx⟩
theorem Un.kept(k:∀b u,h.get? b=some u->h'.get? b=some u):Un fs ex H H h h':=
 ⟨λb ob q _ _ _=>k b ob q,λb ob q _ _ _=>⟨ob.slots,k b ob q⟩,λ_ _ _ n _=>n,λb ob q _=>⟨ob,k b ob q⟩,λ_ _ q=>q,λ_ _ _ q=>q,λ_ ps q=>⟨#[],by rw[q];simp⟩⟩
theorem Un.refl:Un fs ex H H h h:=Un.kept λ_ _ q=>q
theorem Un.laid(k:∀b u,h.get? b=some u->h'.get? b=some u)(hp:h.objs.size<=a)(hn:H a=none):Un fs ex H (upd H a o) h h' where
 keep:=λb u q _ _ _=>k b u q
 slot:=λb u q _ _ _=>⟨u.slots,k b u q⟩
 free:=λb u q n _=>by rw[zar (Y0 (Yf (Yn q) hp))];exact n
 there:=λb u q _=>⟨u,k b u q⟩
 tups:=λb xs q=>by rw[zar (zaq q hn)];exact q
 frzs:=λb u xs q=>by rw[zar (zaq q hn)];exact q
 tbls:=λb ps q=>⟨#[],by rw[zar (zaq q hn),q];simp⟩
theorem Un.write(mu:Mut (H x))(he:e=x\/H e=some (.own x))(k:∀b u,b≠e->h.get? b=some u->h'.get? b=some u)(heo:∃u,h'.get? e=some u):Un fs ex H (upd H x o) h h':=by
 have hx:∀b,H b=none->b≠x:=λb n z=>by subst z;rw[n]at mu;exact mu
 have hb:∀b,H b=none->b≠e:=λb n z=>by
  subst z;rcases he with r | r
  ·exact hx b n r
  ·rw[n]at r;cases r
 have hm:∀b u,H b=some u->¬Mut (some u)->b≠x:=λb u q nm z=>by subst z;rw[q]at mu;exact nm mu
 refine⟨λb u q n _ _=>k b u (hb b n) q,λb u q n _ _=>⟨u.slots,k b u (hb b n) q⟩,λb u q n _=>by rw[zar (hx b n)];exact n,λb u q _=>?_,
  λb xs q=>by rw[zar (hm b _ q λz=>z)];exact q,λb u xs q=>by rw[zar (hm b _ q λz=>z)];exact q,λb ps q=>⟨#[],by rw[zar (hm b _ q λz=>z),q];simp⟩⟩
 by_cases hbe:b=e
 ·subst hbe;exact heo
 ·exact⟨u,k b u hbe q⟩
end
def trk(h:Heap)(H:Hp):List Addr:=(List.range h.objs.size).filter λa=>(H a).isSome
def hidT(h:Heap)(H:Hp):Heap:=W.hideAll h (trk h H)
theorem zl8(h:Heap)(H:Hp):(hidT h H).objs.size=h.objs.size:=W.hideAll_size _ _
theorem zor{h:Heap}{H:Hp}{b:Addr}{o:Obj}(e:h.get? b=some o)(n:H b=none):(hidT h H).get? b=some o:=
 W.hideAll_get _ e λhm=>by
  have q:(H b).isSome=true:=(List.mem_filter.mp hm).2;rw[n]at q;simp at q
theorem zsz{h:Heap}{H:Hp}{b:Addr}{o:Obj}(e:(hidT h H).get? b=some o):h.get? b=some o/\H b=none:=by
 have e':h.get? b=some o:=W.of_hideAll (trk h H) e;refine⟨e',?_⟩
 cases q:H b with
 | none=>rfl
 | some x=>
  have hm:b∈trk h H:=List.mem_filter.mpr ⟨List.mem_range.mpr (Yn e'),by simp[q]⟩;have z:(hidT h H).get? b=none:=W.hideAll_none (trk h H) hm;rw[z]at e;cases e
structure Mod(K:W.Frag)(mg:Str->Option Value)(base:Heap):Prop where
 kin:K.In base
 glob:base.Ns mainGlobals mg
 blt:∃mb,base.Ns builtinsNs mb/\∀x:Str,x≠"__name__"->mb x=bootBuiltins x
 nolimit:base.NoLimit
structure Cx where
 prog:Program
 w:World
 K:W.Frag
 mg:Str->Option Value
 base:Heap
 A:Around
 N:List Str
 s₀:Shared
 H₀:Hp
 env:Env
 outer:List Env
 stack:List Env
 ex:List Addr
 fn:Str->Bool
 calm:Bool
 pn:List (Addr×Obj)
 xe:Value->Shared->Prop
def frs(l:List Env):List Addr:=l.filterMap (·.frame)
abbrev Cx.fs(X:Cx):List Addr:=frs X.outer
def Vis(sc:Scope)(x:Str):Prop:=sc.names.lookup x=some .local\/sc.names.lookup x=some .cell\/sc.names.lookup x=some .free
def Loc(sc:Scope)(x:Str):Prop:=sc.names.lookup x=some .local\/sc.names.lookup x=some .cell
def Look(env:Env)(h:Heap)(m:Str->Option Value)(x:Str)(u:Value):Prop:=
 (env.kindOf x=some .local/\m x=some u)\/((env.kindOf x=some .cell\/env.kindOf x=some .free)/\∃c,env.cells.lookup x=some c/\h.IsCell c (some u))
structure Cx.Ok(X:Cx):Prop where
 mod:Mod X.K X.mg X.base
 kind:X.env.scope.kind=.function
 glob:X.env.globals=mainGlobals
 blt:X.env.builtins=builtinsNs
 above:X.s₀.heap.objs.size<=X.env.locals
 inj:∀x y c,X.env.cells.lookup x=some c->X.env.cells.lookup y=some c->x=y
 has:∀x,(X.env.kindOf x=some .cell\/X.env.kindOf x=some .free)->∃c,X.env.cells.lookup x=some c
 cab:∀x c,X.fn x=true->X.env.cells.lookup x=some c->X.s₀.heap.objs.size<=c
 hd:X.calm=true->X.A.handled=none
 frames:X.A.frames=some X.stack
 stk:X.stack=X.outer\/(X.stack=X.env::X.outer/\X.env.frame=some X.env.locals)
 exf:∀b∈X.ex,b≠X.env.locals/\∀x c,X.env.cells.lookup x=some c->c≠b
 bs:∀b o,X.base.get? b=some o->X.s₀.heap.get? b=some o/\X.H₀ b=none
 bsz:X.base.objs.size<=X.s₀.heap.objs.size
 noex:∀b o,X.base.get? b=some o->b ∉ X.ex
 exfs:∀b∈X.ex,b ∉ X.fs
 funs:X.s₀.heap.FunFrames X.base X.outer
 frf:∀b∈X.fs,X.H₀ b=none
structure Inv(X:Cx)(pins:List (Addr×Obj))(σ : List (Option V))(H:Hp)(s:Shared):Prop where
 ok:X.Ok
 os:s.os=X.s₀.os
 bare:AllBare s.gens
 base:Un X.fs X.ex X.H₀ H X.s₀.heap s.heap
 loc:∃m,s.heap.Ns X.env.locals m/\∀(i:Nat) (x:Str) (v:V),X.N[i]? = some x->σ[i]? = some (some v)->Vis X.env.scope x->∃u,RelV v u/\Look X.env s.heap m x u
 cell:∀x c,X.env.cells.lookup x=some c->∃v,s.heap.IsCell c v
 free:H X.env.locals=none
 freeC:∀x c,X.env.cells.lookup x=some c->H c=none
 pin:∀p∈X.pn++pins,s.heap.get? p.1=some p.2/\H p.1=none/\p.1≠X.env.locals/\p.1 ∉ X.fs/\∀v,p.2.data≠.cell v
 hok:HOk X.prog X.w H s.heap
 len : σ.length=X.N.length
section
variable{X:Cx}{pins:List (Addr×Obj)}{σ : List (Option V)}{H H':Hp}{s:Shared}{h':Heap}
theorem Cx.Ok.nofr(ok:X.Ok){b:Addr}{o:Obj}(e:X.base.get? b=some o):b ∉ X.fs:=λhb=>by
 have:=(ok.funs.mem hb).1;rw[e]at this;cases this
theorem Inv.bs(I:Inv X pins σ H s):∀b o,X.base.get? b=some o->s.heap.get? b=some o/\H b=none:=λb o e=>
 ⟨I.base.keep b o (I.ok.bs b o e).1 (I.ok.bs b o e).2 (I.ok.nofr e) (I.ok.noex b o e),I.base.free b o (I.ok.bs b o e).1 (I.ok.bs b o e).2 (I.ok.noex b o e)⟩
theorem Inv.bk(I:Inv X pins σ H s):∀b o,X.base.get? b=some o->s.heap.get? b=some o:=λb o e=>(I.bs b o e).1
theorem Inv.mod(I:Inv X pins σ H s):Mod X.K X.mg X.base:=I.ok.mod
theorem Inv.kIn(I:Inv X pins σ H s):X.K.In s.heap:=I.ok.mod.kin.keeps I.bk
theorem Inv.lt(I:Inv X pins σ H s):X.env.locals<s.heap.objs.size:=let ⟨_,hn,_⟩:=I.loc;hn.lt
theorem Inv.sz(I:Inv X pins σ H s):X.s₀.heap.objs.size<=s.heap.objs.size:=Yr I.ok.above (Nat.le_of_lt I.lt)
theorem Inv.nofs(I:Inv X pins σ H s){a:Addr}(h:s.heap.objs.size<=a):a ∉ X.fs:=λhb=>by
 obtain⟨_,o,ho,_⟩:=I.ok.funs.mem hb;exact absurd (Yf (Yn ho) (Yr I.sz h)) (Nat.lt_irrefl _)
theorem Inv.cne(I:Inv X pins σ H s):∀x c,X.env.cells.lookup x=some c->c≠X.env.locals:=λx c e z=>by
 obtain⟨v,o,ho,hd⟩:=I.cell x c e;obtain⟨m,⟨o',es,ep,ho',hd',_⟩,_⟩:=I.loc;rw[z,ho']at ho;cases ho;rw[hd']at hd;cases hd
theorem Inv.funs(I:Inv X pins σ H s):s.heap.FunFrames X.base X.outer:=by
 have all:∀(l:List Env),(∀b∈frs l,b∈X.fs)->X.s₀.heap.FunFrames X.base l->s.heap.FunFrames X.base l:=by
  intro l;induction l with
  | nil=>intro _ _;trivial
  | cons env r ih=>
   intro hs hl;obtain⟨hk,⟨L,o,hf,hn,ho,hd⟩,hr⟩:=hl;have hL:L∈X.fs:=hs L (by unfold frs;rw[List.filterMap_cons,hf];exact List.mem_cons_self);obtain⟨sl,e⟩:=I.base.slot L o ho (I.ok.frf L hL) hL λz=>I.ok.exfs L z hL
   exact⟨hk,⟨L,_,hf,hn,e,hd⟩,ih (λb hb=>hs b (by unfold frs;rw[List.filterMap_cons,hf];exact List.mem_cons_of_mem _ hb)) hr⟩
 exact all X.outer (λ_ hb=>hb) I.ok.funs
theorem Inv.stack(I:Inv X pins σ H s):s.heap.FunFrames X.base X.stack:=by
 rcases I.ok.stk with e | ⟨e,hf⟩
 ·rw[e];exact I.funs
 ·rw[e];obtain⟨m,hn,_⟩:=I.loc;refine .cons (by rw[I.ok.kind];decide) hf hn ?_ I.funs;exact Heap.get?_none_of_le (Yr I.ok.bsz I.ok.above)
theorem Inv.stkSub(I:Inv X pins σ H s):∀b∈frs X.stack,b∈X.env.locals::X.fs:=λb hb=>by
 rcases I.ok.stk with e | ⟨e,hf⟩
 ·rw[e]at hb;exact List.mem_cons_of_mem _ hb
 ·rw[e]at hb;unfold frs at hb;rw[List.filterMap_cons,hf]at hb;exact hb
theorem Inv.stkFree(I:Inv X pins σ H s):∀b∈frs X.stack,H b=none:=λb hb=>by
 rcases Yj.mp (I.stkSub b hb) with e | hb
 ·rw[e];exact I.free
 ·obtain⟨_,o,ho,_⟩:=I.ok.funs.mem hb;exact I.base.free b o ho (I.ok.frf b hb) λz=>I.ok.exfs b z hb
theorem Inv.step{g':Array GenState}{t':Nat}{d':Drawn}{ch:List Addr}(I:Inv X pins σ H s)
  (hch:∀b∈ch,(b∈X.ex\/X.s₀.heap.objs.size<=b)/\b≠X.env.locals/\(∀x c,X.env.cells.lookup x=some c->c≠b)/\∀p∈X.pn++pins,p.1≠b)
  (keep:∀b o,b≠X.env.locals->b ∉ X.fs->b ∉ ch->s.heap.get? b=some o->H b=none->h'.get? b=some o)
  (slot:∀b o,b≠X.env.locals->b∈X.fs->b ∉ ch->s.heap.get? b=some o->H b=none->∃sl,h'.get? b=some { o with slots:=sl }) (free:∀b o,b ∉ ch->s.heap.get? b=some o->H b=none->H' b=none)
  (there:∀b o,b ∉ ch->s.heap.get? b=some o->∃o',h'.get? b=some o')
  (tups:∀b xs,H b=some (.tup xs)->H' b=some (.tup xs)) (frzs:∀b o u,H b=some (.frz o u)->H' b=some (.frz o u)) (tbls:∀b ps,H b=some (.tbl ps)->∃more,H' b=some (.tbl (ps++more)))
  (ns:∀m,s.heap.Ns X.env.locals m->h'.Ns X.env.locals m) (hok:HOk X.prog X.w H' h') (hg:AllBare g') :
  Inv X pins σ H' { s with heap:=h',gens:=g',drawn:=d',toks:=t' }:=by
 have neL:∀b o,X.s₀.heap.get? b=some o->b≠X.env.locals:=λb o e=>Y0 (Yf (Yn e) I.ok.above)
 have neC:∀b o,X.s₀.heap.get? b=some o->b ∉ X.ex->b ∉ ch:=λb o e hx hb=>by
  rcases(hch b hb).1 with z | z
  ·exact hx z
  ·exact absurd (Yf (Yn e) z) (Nat.lt_irrefl _)
 have cellK:∀x c,X.env.cells.lookup x=some c->∀v,s.heap.IsCell c v->h'.IsCell c v:=λx c e v ⟨o,ho,hd⟩=>by
  have nch:c ∉ ch:=λz=>(hch c z).2.2.1 x c e rfl
  by_cases hc:c∈X.fs
  ·obtain⟨sl,q⟩:=slot c o (I.cne x c e) hc nch ho (I.freeC x c e);exact⟨_,q,hd⟩
  ·exact⟨o,keep c o (I.cne x c e) hc nch ho (I.freeC x c e),hd⟩
 refine⟨I.ok,I.os,hg,⟨λb o e n hb hx=>?_,λb o e n hb hx=>?_,λb o e n hx=>?_,λb o e hx=>?_,λb xs e=>tups b xs (I.base.tups b xs e),λb o xs e=>frzs b o xs (I.base.frzs b o xs e),λb ps e=>?_⟩,?_,λx c e=>?_,?_,λx c e=>?_,λp hp=>?_,hok,I.len⟩
 ·exact keep b o (neL b o e) hb (neC b o e hx) (I.base.keep b o e n hb hx) (I.base.free b o e n hx)
 ·obtain⟨sl,e1⟩:=I.base.slot b o e n hb hx;obtain⟨sl',e2⟩:=slot b _ (neL b o e) hb (neC b o e hx) e1 (I.base.free b o e n hx);exact⟨sl',e2⟩
 ·obtain⟨o',e1⟩:=I.base.there b o e hx;exact free b o' (neC b o e hx) e1 (I.base.free b o e n hx)
 ·obtain⟨o',e1⟩:=I.base.there b o e hx;exact there b o' (neC b o e hx) e1
 ·obtain⟨m1,e1⟩:=I.base.tbls b ps e;obtain⟨m2,e2⟩:=tbls b _ e1;exact⟨m1++m2,by rw[e2,Array.append_assoc]⟩
 ·obtain⟨m,hn,hl⟩:=I.loc;refine⟨m,ns m hn,λi x v e1 e2 e3=>?_⟩;obtain⟨u,r,l⟩:=hl i x v e1 e2 e3;refine⟨u,r,?_⟩;rcases l with l | ⟨k,c,e,z⟩
  ·exact .inl l
  ·exact .inr ⟨k,c,e,cellK x c e _ z⟩
 ·obtain⟨v,z⟩:=I.cell x c e;exact⟨v,cellK x c e v z⟩
 ·obtain⟨m,⟨o,_,_,ho,_⟩,_⟩:=I.loc;exact free _ o (λz=>(hch _ z).2.1 rfl) ho I.free
 ·obtain⟨v,o,ho,hd⟩:=I.cell x c e;exact free c o (λz=>(hch c z).2.2.1 x c e rfl) ho (I.freeC x c e)
 ·obtain⟨e,n,ne,nf,d⟩:=I.pin p hp;have nch:p.1 ∉ ch:=λz=>(hch p.1 z).2.2.2 p hp rfl
  exact⟨keep p.1 p.2 ne nf nch e n,free p.1 p.2 nch e n,ne,nf,d⟩
theorem Inv.un{t':Nat}(I:Inv X pins σ H s)(u:Un X.fs [] H H' s.heap h')(hok:HOk X.prog X.w H' h'):Inv X pins σ H' { s with heap:=h',toks:=t' }:=by
 obtain⟨m,⟨o,es,ep,ho,r⟩,_⟩:=id I.loc;obtain⟨sl,hL⟩:=u.any ho I.free (by simp);exact I.step (g':=s.gens) (d':=s.drawn) (ch:=[]) (λ_ z=>nomatch z) (λb o _ hb _ e n=>u.keep b o e n hb (by simp)) (λb o _ hb _ e n=>u.slot b o e n hb (by simp)) (λb o _ e n=>u.free b o e n (by simp)) (λb o _ e=>u.there b o e (by simp)) u.tups u.frzs u.tbls (λm' hm=>by
  obtain⟨o',es',ep',ho',r'⟩:=hm;rw[ho]at ho';cases ho';exact⟨_,es',ep',hL,r'⟩) hok I.bare
theorem Inv.call{g':Array GenState}{t':Nat}{d':Drawn}{ch:List Addr}(I:Inv X pins σ H s)(u:Un (frs X.stack) ch H H' s.heap h')(hok:HOk X.prog X.w H' h')(hg:AllBare g')
  (hch:∀b∈ch,(b∈X.ex\/X.s₀.heap.objs.size<=b)/\b≠X.env.locals/\(∀x c,X.env.cells.lookup x=some c->c≠b)/\∀p∈X.pn++pins,p.1≠b) :
  Inv X pins σ H' { s with heap:=h',gens:=g',drawn:=d',toks:=t' }:=by
 obtain⟨m,⟨o,es,ep,ho,r⟩,_⟩:=id I.loc;obtain⟨sl,hL⟩:=u.any ho I.free λz=>(hch _ z).2.1 rfl
 exact I.step (ch:=ch) hch (λb o hL hb hc e n=>u.keep b o e n (λz=>(Yj.mp (I.stkSub b z)).elim hL hb) hc) (λb o _ _ hc e n=>u.any e n hc) (λb o hc e n=>u.free b o e n hc) (λb o hc e=>u.there b o e hc) u.tups u.frzs u.tbls (λm' hm=>by
  obtain⟨o',es',ep',ho',r'⟩:=hm;rw[ho]at ho';cases ho';exact⟨_,es',ep',hL,r'⟩) hok hg
theorem Inv.turned{t':Nat}{it:Addr}(I:Inv X pins σ H s)(k:∀b o,b≠it->s.heap.get? b=some o->h'.get? b=some o)(hn:H it=none)(hL:it≠X.env.locals)
  (h1:it∈X.ex\/X.s₀.heap.objs.size<=it) (h2:∀x c,X.env.cells.lookup x=some c->c≠it) (h3:∀p∈X.pn++pins,p.1≠it):Inv X pins σ H { s with heap:=h',toks:=t' }:=by
 have nit:∀b u,H b=some u->b≠it:=λb u e z=>by rw[z,hn]at e;cases e
 refine I.step (g':=s.gens) (d':=s.drawn) (ch:=[it]) (λb hb=>?_) (λb o _ _ hc e _=>k b o (λz=>hc (by simp[z])) e) (λb o _ _ hc e _=>⟨o.slots,k b o (λz=>hc (by simp[z])) e⟩) (λ_ _ _ _ n=>n)
  (λb o hc e=>⟨o,k b o (λz=>hc (by simp[z])) e⟩) (λ_ _ e=>e) (λ_ _ _ e=>e) (λb ps e=>⟨#[],by rw[e];simp⟩) (λm hm=>?_) (λb u e=>?_) I.bare
 ·have e:b=it:=by simpa using hb
  subst e;exact⟨h1,hL,h2,h3⟩
 ·obtain⟨o,es,ep,ho,r⟩:=hm;exact⟨o,es,ep,k _ o (Jc hL) ho,r⟩
 ·refine(I.hok b u e).stay (λc v hc q=>k c v ?_ q) (λ_ q=>q) λ_ _ q=>q
  rcases hc with z | z
  ·rw[z];exact nit b u e
  ·exact nit c _ z
theorem Inv.tok(I:Inv X pins σ H s)(t:Nat):Inv X pins σ H { s with toks:=t }:=I.un (h':=s.heap) (t':=t) Un.refl I.hok
theorem Inv.kept{t':Nat}(I:Inv X pins σ H s)(k:∀b u,s.heap.get? b=some u->h'.get? b=some u):Inv X pins σ H { s with heap:=h',toks:=t' }:=I.un (Un.kept k) (I.hok.kept k)
theorem Inv.laid{a:Addr}{o:HO}{t':Nat}(I:Inv X pins σ H s)(k:∀b u,s.heap.get? b=some u->h'.get? b=some u)(hp:s.heap.objs.size<=a)(new:ObjOk X.prog X.w (upd H a o) h' a o) :
  Inv X pins σ (upd H a o) { s with heap:=h',toks:=t' }:=I.un (Un.laid k hp (I.hok.fresh hp)) (I.hok.laid k hp new)
theorem Inv.write{x e:Addr}{o:HO}{t':Nat}(I:Inv X pins σ H s)(mu:Mut (H x))(he:e=x\/H e=some (.own x))(k:∀b u,b≠e->s.heap.get? b=some u->h'.get? b=some u)(heo:∃u,h'.get? e=some u)
  (new:ObjOk X.prog X.w (upd H x o) h' x o):Inv X pins σ (upd H x o) { s with heap:=h',toks:=t' }:=I.un (Un.write mu he k heo) (I.hok.write mu he k heo new)
theorem Inv.pins_of{pins':List (Addr×Obj)}(I:Inv X pins σ H s)(h:∀p∈pins',s.heap.get? p.1=some p.2/\H p.1=none/\p.1≠X.env.locals/\p.1 ∉ X.fs/\∀v,p.2.data≠.cell v):Inv X pins' σ H s:=
 ⟨I.ok,I.os,I.bare,I.base,I.loc,I.cell,I.free,I.freeC,λp hp=>(Jr.mp hp).elim (λz=>I.pin p (List.mem_append_left _ z)) (h p),I.hok,I.len⟩
theorem ze9{N:List Str}(hN:N.Nodup){i j:Nat}{x:Str}(a:N[i]? = some x)(b:N[j]? = some x):i=j:=by
 obtain⟨h1,e1⟩:=List.getElem?_eq_some_iff.mp a;obtain⟨h2,e2⟩:=List.getElem?_eq_some_iff.mp b;exact(List.getElem_inj hN).mp (e1.trans e2.symm)
theorem zmh{M:Model}{A:Around}{E:Value->Shared->Prop}{i:Nat}{x:Str}{v:V}{u:Value}{Q:Unit->Shared->Prop}(I:Inv X pins σ H s)(hN:X.N.Nodup)(hi:X.N[i]? = some x)(hx:Loc X.env.scope x)(r:RelV v u)
  (h:∀s',Inv X pins (σ.set i (some v)) H s'->(∃a,Heap.SameBut a s.heap s'.heap/\(a=X.env.locals\/X.env.cells.lookup x=some a))->Q () s') (hf:X.fn x=true\/X.env.scope.names.lookup x=some .local:=by first | exact .inl rfl | exact .inr rfl | assumption):wpAny M A (storeName X.env x u) Q E s:=by
 obtain⟨m,hn,hl⟩:=id I.loc;have hcls:(X.env.scope.kind == .class||(X.env.scope.kind == .module&&X.env.locals != X.env.globals))=false:=by rw[I.ok.kind];rfl
 have hiσ : i < σ.length:=by rw[I.len];exact(List.getElem?_eq_some_iff.mp hi).1
 have cne:=I.cne;have tracked:∀{a:Addr} {h':Heap},(∃o,s.heap.get? a=some o/\H a=none)->Heap.SameBut a s.heap h'->HOk X.prog X.w H h':=fun{a h'} ha hs b ob e=>by
  obtain⟨_,_,hfree⟩:=ha;refine(I.hok b ob e).stay (λc w' hc q=>(hs.2 c ?_).trans q) (λ_ q=>q) λ_ _ q=>q
  rintro rfl;rcases hc with rfl | hc
  ·rw[hfree]at e;cases e
  ·rw[hfree]at hc;cases hc
 rcases hx with hk | hk
 ·refine wpAny_storeName_local hk hn (λh' hn' hs=>?_) hcls;obtain⟨oL,_,_,hoL,_⟩:=id hn;refine h _ ⟨I.ok,I.os,I.bare,⟨λb o e n hb hx=>?_,λb o e n hb hx=>?_,I.base.free,λb o e hx=>?_,I.base.tups,I.base.frzs,I.base.tbls⟩,⟨_,hn',λj y v' e1 e2 e3=>?_⟩,λy c e=>?_,I.free,I.freeC,λp hp=>?_,tracked ⟨oL,hoL,I.free⟩ hs,by simpa using I.len⟩ ⟨_,hs,.inl rfl⟩
  ·exact(hs.2 b (Y0 (Yf (Yn e) I.ok.above))).trans (I.base.keep b o e n hb hx)
  ·obtain⟨sl,e1⟩:=I.base.slot b o e n hb hx;exact⟨sl,(hs.2 b (Y0 (Yf (Yn e) I.ok.above))).trans e1⟩
  ·obtain⟨o',e1⟩:=I.base.there b o e hx;exact⟨o',(hs.2 b (Y0 (Yf (Yn e) I.ok.above))).trans e1⟩
  ·by_cases hj:j=i
   ·subst hj;rw[hi]at e1;cases e1;rw[List.getElem?_set_self hiσ]at e2
    cases e2;exact⟨u,r,.inl ⟨hk,by simp⟩⟩
   ·rw[List.getElem?_set_ne (Jc hj)]at e2;obtain⟨u',r',q⟩:=hl j y v' e1 e2 e3;refine⟨u',r',?_⟩;rcases q with⟨k,e⟩ | ⟨k,c,e,z⟩
    ·refine .inl ⟨k,?_⟩;have:y≠x:=λe=>hj (ze9 hN e1 (e ▸ hi))
     simp[this,e]
    ·exact .inr ⟨k,c,e,z.sameBut hs (cne y c e)⟩
  ·obtain⟨w',z⟩:=I.cell y c e;exact⟨w',z.sameBut hs (cne y c e)⟩
  ·obtain⟨e,n,ne,nf,d⟩:=I.pin p hp;exact⟨(hs.2 p.1 ne).trans e,n,ne,nf,d⟩
 ·have hfn:X.fn x=true:=by
   rcases hf with z | z
   ·exact z
   ·rw[z]at hk;cases hk
  obtain⟨c,hc⟩:=I.ok.has x (.inl hk);obtain⟨w',z⟩:=I.cell x c hc;refine wpAny_storeName_cell I.ok.kind hk hc z (λh' hc' hs=>?_);obtain⟨oc,hoc,hocd⟩:=id z;refine h { s with heap:=h' } ⟨I.ok,I.os,I.bare,⟨λb o e n hb hx=>?_,λb o e n hb hx=>?_,I.base.free,λb o e hx=>?_,I.base.tups,I.base.frzs,I.base.tbls⟩,⟨m,hn.sameBut hs (Jc (cne x c hc)),λj y v' e1 e2 e3=>?_⟩,λy c' e=>?_,I.free,I.freeC,λp hp=>?_,tracked ⟨oc,hoc,I.freeC x c hc⟩ hs,by simpa using I.len⟩ ⟨c,hs,.inr hc⟩
  ·exact(hs.2 b (Y0 (Yf (Yn e) (I.ok.cab x c hfn hc)))).trans (I.base.keep b o e n hb hx)
  ·obtain⟨sl,e1⟩:=I.base.slot b o e n hb hx;exact⟨sl,(hs.2 b (Y0 (Yf (Yn e) (I.ok.cab x c hfn hc)))).trans e1⟩
  ·obtain⟨o',e1⟩:=I.base.there b o e hx;exact⟨o',(hs.2 b (Y0 (Yf (Yn e) (I.ok.cab x c hfn hc)))).trans e1⟩
  ·by_cases hj:j=i
   ·subst hj;rw[hi]at e1;cases e1;rw[List.getElem?_set_self hiσ]at e2
    cases e2;exact⟨u,r,.inr ⟨.inl hk,c,hc,hc'⟩⟩
   ·rw[List.getElem?_set_ne (Jc hj)]at e2;obtain⟨u',r',q⟩:=hl j y v' e1 e2 e3;refine⟨u',r',?_⟩;rcases q with q | ⟨k,c',e,z'⟩
    ·exact .inl q
    ·refine .inr ⟨k,c',e,z'.sameBut hs ?_⟩;rintro rfl;exact hj (ze9 hN e1 (I.ok.inj _ _ _ e hc ▸ hi))
  ·by_cases hcc:c'=c
   ·subst hcc;exact⟨_,hc'⟩
   ·obtain⟨w2,z2⟩:=I.cell y c' e;exact⟨w2,z2.sameBut hs hcc⟩
  ·obtain⟨e,n,ne,nf,d⟩:=I.pin p hp;refine⟨(hs.2 p.1 ?_).trans e,n,ne,nf,d⟩;intro q;rw[q,hoc]at e;have q':oc=p.2:=Jf e;exact d w' (by rw[<- q'];exact hocd)
theorem zeq{M:Model}{A:Around}{E:Value->Shared->Prop}{i:Nat}{x:Str}{v:V}{u:Value}{Q:Unit->Shared->Prop}(I:Inv X pins σ H s)(hN:X.N.Nodup)(hi:X.N[i]? = some x)(hx:Loc X.env.scope x)(r:RelV v u)
  (h:∀s',Inv X pins (σ.set i (some v)) H s'->Q () s') (hf:X.fn x=true\/X.env.scope.names.lookup x=some .local:=by first | exact .inl rfl | exact .inr rfl | assumption):wpAny M A (storeName X.env x u) Q E s:=
 zmh I hN hi hx r (λs' I' _=>h s' I') hf
theorem Inv.call'{s':Shared}{ch:List Addr}(I:Inv X pins σ H s)(ho:s'.os=s.os)(u:Un (frs X.stack) ch H H' s.heap s'.heap)(hok:HOk X.prog X.w H' s'.heap)(hg:AllBare s'.gens)
  (hch:∀b∈ch,(b∈X.ex\/X.s₀.heap.objs.size<=b)/\b≠X.env.locals/\(∀x c,X.env.cells.lookup x=some c->c≠b)/\∀p∈X.pn++pins,p.1≠b):Inv X pins σ H' s':=by
 obtain⟨h',g',d',t',o'⟩:=s';have e:o'=s.os:=ho;subst e;exact I.call (g':=g') (t':=t') (d':=d') u hok hg hch
end
abbrev XK:=Value->Option Addr->Hp->Prop
abbrev St:=List (Option V)
abbrev VK:=V->Hp->Prop
abbrev TE:=St->Hp->VK->Prop
abbrev TT:=St->Hp->(Bool->Hp->Prop)->Prop
abbrev TA:=St->Hp->(List V->Hp->Prop)->Prop
structure Ends where
 nx:St->Hp->Prop
 rt:VK
 bk:St->Hp->Prop:=λ_ _=>False
 ct:St->Hp->Prop:=λ_ _=>False
abbrev TS:=Ends->St->Hp->Prop
def EP(X:Cx)(pins:List (Addr×Obj))(σ : St)(Q:VK)(u:Value)(s':Shared):Prop:=∃v H',Inv X pins σ H' s'/\RelV v u/\Q v H'
def TP(X:Cx)(pins:List (Addr×Obj))(σ : St)(Q:Bool->Hp->Prop)(b:Bool)(s':Shared):Prop:=∃H',Inv X pins σ H' s'/\Q b H'
def AP(X:Cx)(pins:List (Addr×Obj))(σ : St)(Q:List V->Hp->Prop)(us:List Value)(s':Shared):Prop:=∃vs H',Inv X pins σ H' s'/\Vals vs us/\Q vs H'
def SP(X:Cx)(pins:List (Addr×Obj))(D:Ends)(f:Flow)(s':Shared):Prop:=
 match f with
 | .next=>∃σ' H',Inv X pins σ' H' s'/\D.nx σ' H'
 | .brk=>∃σ' H',Inv X pins σ' H' s'/\D.bk σ' H'
 | .cont=>∃σ' H',Inv X pins σ' H' s'/\D.ct σ' H'
 | .ret u=>∃v σ' H',Inv X pins σ' H' s'/\RelV v u/\D.rt v H'
def PE(X:Cx)(e:Expr)(t:TE):Prop:=
 ∀(pins:List (Addr×Obj)) (s:Shared) (σ : St) (H:Hp) (Q:VK),Inv X pins σ H s->t σ H Q->wpAny (model X.prog X.w) X.A (eval e X.env) (EP X pins σ Q) X.xe s
def PT(X:Cx)(e:Expr)(t:TT):Prop:=
 ∀(pins:List (Addr×Obj)) (s:Shared) (σ : St) (H:Hp) (Q:Bool->Hp->Prop),Inv X pins σ H s->t σ H Q->wpAny (model X.prog X.w) X.A (isTrue e X.env (eval e X.env)) (TP X pins σ Q) X.xe s
def PW(X:Cx)(e:Expr)(t:TT):Prop:=
 ∀(whole:Sem Value) (pins:List (Addr×Obj)) (s:Shared) (σ : St) (H:Hp) (Q:Bool->Hp->Prop),Inv X pins σ H s->t σ H Q->wpAny (model X.prog X.w) X.A (isTrue e X.env whole) (TP X pins σ Q) X.xe s
theorem PW.pt{X:Cx}{e:Expr}{t:TT}(h:PW X e t):PT X e t:=h _
def PA(X:Cx)(es:List Expr)(t:TA):Prop:=
 ∀(pos:Pos) (pins:List (Addr×Obj)) (s:Shared) (σ : St) (H:Hp) (Q:List V->Hp->Prop),Inv X pins σ H s->t σ H Q->wpAny (model X.prog X.w) X.A (spliced (backTo pos (starEach es X.env))) (AP X pins σ Q) X.xe s
def PS(X:Cx)(st:Stmt)(t:TS):Prop:=
 ∀(pins:List (Addr×Obj)) (s:Shared) (σ : St) (H:Hp) (D:Ends),Inv X pins σ H s->t D σ H->wpAny (model X.prog X.w) X.A (exec st X.env) (SP X pins D) X.xe s
def PSs(X:Cx)(st:List Stmt)(t:TS):Prop:=
 ∀(pins:List (Addr×Obj)) (s:Shared) (σ : St) (H:Hp) (D:Ends),Inv X pins σ H s->t D σ H->wpAny (model X.prog X.w) X.A (execs st X.env) (SP X pins D) X.xe s
theorem thn{α : Type}{t:Sem α}{Q Q' : α->Shared->Prop}{M:Model}{A:Around}{E:Value->Shared->Prop}{s:Shared}(h:wpAny M A t Q E s)(hQ:∀a s,Q a s->Q' a s):wpAny M A t Q' E s:=wpAny_mono h hQ λ_ _ x=>x
section
variable{X:Cx}
def tVar(i:Nat):TE:=λσ H Q=>∃v,σ[i]? = some (some v)/\Q v H
def tC(v:V):TE:=λ_ H Q=>Q v H
theorem zwo{i:Nat}{x:Str}{pos:Pos}(hN:X.N[i]? = some x)(hv:Vis X.env.scope x)(hd:(x == ("__debug__" : Str))=false:=by decide)(hcd:(x == ("__classdict__" : Str))=false:=by decide):PE X (.Name x pos) (tVar i):=by
 intro pins s σ H Q I h;obtain⟨v,e,h⟩:=h;obtain⟨m,hn,hl⟩:=I.loc;obtain⟨u,r,l⟩:=hl i x v hN e hv;have fin:EP X pins σ Q u s:=⟨v,H,I,r,h⟩;rcases l with⟨hk,hm⟩ | ⟨hk,c,hc,hcell⟩
 ·exact wpAny_Name (wpAny_loadName_local I.ok.kind hk hn hm fin) hd
 ·rcases hk with hk | hk
  ·exact wpAny_Name (wpAny_loadName_cell I.ok.kind hk hc hcell fin) hd
  ·exact wpAny_Name (wpAny_loadName_free I.ok.kind hk hc hcell fin hcd) hd
theorem zae{i j pos}:PE X (.Constant (.int i) j pos) (tC (.int i)):=λ_ _ _ H _ I h=>wpAny_Constant_int ⟨.int i,H,I.tok _,⟨_,Z⟩,h⟩
theorem zcw{b j pos}:PE X (.Constant (.bool b) j pos) (tC (.bl b)):=λ_ _ _ H _ I h=>Constant_bool ⟨.bl b,H,I,Z,h⟩
theorem zj9{j pos}:PE X (.Constant .none j pos) (tC .non):=λ_ _ _ H _ I h=>Constant_none ⟨.non,H,I,Z,h⟩
theorem zas{x j pos}:PE X (.Constant (.str x) j pos) (tC (.str x)):=λ_ _ _ H _ I h=>Calls.Constant_str ⟨.str x,H,I.tok _,⟨_,Z⟩,h⟩
def Gl(X:Cx)(x:Str):Prop:=X.env.kindOf x=some .globalImplicit
theorem zdu{E:Value->Shared->Prop}{pins:List (Addr×Obj)}{s:Shared}{σ : St}{H:Hp}{x:Str}{u:Value}{pos:Pos}{Q:Value->Shared->Prop}(I:Inv X pins σ H s)(hg:Gl X x)(hm:X.mg x=some u)(h:Q u s)
  (hd:(x == ("__debug__" : Str))=false:=by decide):wpAny (model X.prog X.w) X.A (eval (.Name x pos) X.env) Q E s:=
 Calls.Name_function_global I.ok.kind hg (Calls.loadGlobal_global (by rw[I.ok.glob];exact I.mod.glob.keeps I.bk) hm h) hd
theorem zil{E:Value->Shared->Prop}{pins:List (Addr×Obj)}{s:Shared}{σ : St}{H:Hp}{x:Str}{u:Value}{pos:Pos}{Q:Value->Shared->Prop}(I:Inv X pins σ H s)(hg:Gl X x)(hm:X.mg x=none)(hv:bootBuiltins x=some u)(h:Q u s)
  (hn:x≠"__name__":=by decide) (hd:(x == ("__debug__" : Str))=false:=by decide):wpAny (model X.prog X.w) X.A (eval (.Name x pos) X.env) Q E s:=by
 obtain⟨mb,h1,h2⟩:=I.mod.blt;exact Calls.Name_function_global I.ok.kind hg (Calls.loadGlobal_builtin (by rw[I.ok.glob];exact I.mod.glob.keeps I.bk) hm (by rw[I.ok.blt];exact h1.keeps I.bk) ((h2 x hn).trans hv) h) hd
theorem zgp{x:Str}{v:V}{u:Value}{pos:Pos}(hg:Gl X x)(hm:X.mg x=some u)(r:RelV v u)(hd:(x == ("__debug__" : Str))=false:=by decide):PE X (.Name x pos) (tC v):=
 λ_ _ _ H _ I h=>zdu I hg hm ⟨v,H,I,r,h⟩ hd
theorem znu{x:Str}{v:V}{u:Value}{pos:Pos}(hg:Gl X x)(hm:X.mg x=none)(hv:bootBuiltins x=some u)(r:RelV v u)(hn:x≠"__name__":=by decide)(hd:(x == ("__debug__" : Str))=false:=by decide):PE X (.Name x pos) (tC v):=
 λ_ _ _ H _ I h=>zil I hg hm hv ⟨v,H,I,r,h⟩ hn hd
variable{a b:Expr}{ta tb:TE}{pos:Pos}
def PC(X:Cx)(op:CmpOp)(a b:Expr)(t:TE):Prop:=
 ∀(pins:List (Addr×Obj)) (s:Shared) (σ : St) (H:Hp) (Q:VK),Inv X pins σ H s->t σ H Q ->
  wpAny (model X.prog X.w) X.A (eval a X.env) (λv s₁=>wpAny (model X.prog X.w) X.A (eval b X.env) (λu s₂=>wpAny (model X.prog X.w) X.A (compareOp op v u) (EP X pins σ Q) X.xe s₂) X.xe s₁) X.xe s
def tB(t:TE):TT:=λσ H Q=>t σ H λx H1=>∃c,x=.bl c/\Q c H1
theorem zvd{op:CmpOp}{t:TE}(h:PC X op a b t)(h1:behindInMarks op b=false:=by first | exact nobehind _ (by decide) (by decide) | rfl):PT X (.Compare a [op] [b] pos) (tB t):=by
 intro pins s σ H Q I hw;refine wpAny_isTrue_Compare1 (thn (h pins s σ H _ I hw) λv s1 h1=>thn h1 λu s2 h2=>thn h2 λc s3 ⟨x,H1,I1,r1,q1⟩=>?_) h1;obtain⟨d,rfl,q⟩:=q1
 cases r1;exact Jo ⟨H1,I1,q⟩
theorem zc6{e:Expr}{t:TE}(h:PE X e t)(he:∀whole,isTrue e X.env whole=(do let v <- whole;standAt e.pos;holding [v] (truthy v)):=by intro _;rfl):PT X e (tB t):=by
 intro pins s σ H Q I hw;refine isTrue_plain (thn (h pins s σ H _ I hw) λv s1 ⟨x,H1,I1,r1,q1⟩=>?_) (he _);obtain⟨d,rfl,q⟩:=q1
 cases r1;exact Jo ⟨H1,I1,q⟩
variable{tA tB':TT}{rest:List Expr}
def tAnd(t u:TT):TT:=λσ H Q=>t σ H λc H1=>if c=true then u σ H1 Q else Q false H1
def tOr(t u:TT):TT:=λσ H Q=>t σ H λc H1=>if c=true then Q true H1 else u σ H1 Q
def tNot(t:TT):TT:=λσ H Q=>t σ H λc H1=>Q (!c) H1
theorem zfm(ha:PT X a tA):PW X (.BoolOp .And [a] pos) tA:=by
 intro wh pins s σ H Q I h;refine isTrue_and (thn (ha pins s σ H Q I h) λc s1 e=>?_)
 cases c with
 | true=>exact isTrue_and_nil e
 | false=>exact e
theorem zih(ha:PT X a tA):PW X (.BoolOp .Or [a] pos) tA:=by
 intro wh pins s σ H Q I h;refine isTrue_or (thn (ha pins s σ H Q I h) λc s1 e=>?_)
 cases c with
 | false=>exact isTrue_or_nil e
 | true=>exact e
theorem zho(ha:PT X a tA)(hb:PW X (.BoolOp .And (b::rest) pos) tB'):PW X (.BoolOp .And (a::b::rest) pos) (tAnd tA tB'):=by
 intro wh pins s σ H Q I h;refine isTrue_and (thn (ha pins s σ H _ I h) λc s1 ⟨H1,I1,q1⟩=>?_)
 cases c with
 | true=>exact hb wh pins s1 σ H1 Q I1 q1
 | false=>exact⟨H1,I1,q1⟩
theorem zk5(ha:PT X a tA)(hb:PW X (.BoolOp .Or (b::rest) pos) tB'):PW X (.BoolOp .Or (a::b::rest) pos) (tOr tA tB'):=by
 intro wh pins s σ H Q I h;refine isTrue_or (thn (ha pins s σ H _ I h) λc s1 ⟨H1,I1,q1⟩=>?_)
 cases c with
 | true=>exact⟨H1,I1,q1⟩
 | false=>exact hb wh pins s1 σ H1 Q I1 q1
theorem zfs(ha:PT X a tA):PT X (.UnaryOp .Not a pos) (tNot tA):=by
 intro pins s σ H Q I h;exact isTrue_not (ha pins s σ H (λc H1=>Q (!c) H1) I h)
def zx2(ta tb:TE):TE:=λσ H Q=>ta σ H λx H1=>∃c,x=.bl c/\if c=true then tb σ H1 Q else Q (.bl false) H1
def tOrV(ta tb:TE):TE:=λσ H Q=>ta σ H λx H1=>∃c,x=.bl c/\if c=true then Q (.bl true) H1 else tb σ H1 Q
theorem zjw{op}{t:TE}(h:PE X a t):PE X (.BoolOp op [a] pos) t:=λpins s σ H Q I hw=>BoolOp_one (h pins s σ H Q I hw)
theorem zmg(ha:PE X a ta)(hb:PE X (.BoolOp .And (b::rest) pos) tb):PE X (.BoolOp .And (a::b::rest) pos) (zx2 ta tb):=by
 intro pins s σ H Q I h;refine BoolOp_and (thn (ha pins s σ H _ I h) λv s1 ⟨x,H1,I1,r1,q1⟩=>?_);obtain⟨c,rfl,q1⟩:=q1
 cases r1;refine Jo ?_
 cases c with
 | true=>exact hb pins s1 σ H1 Q I1 q1
 | false=>exact⟨.bl false,H1,I1,rfl,q1⟩
theorem zy1(ha:PE X a ta)(hb:PE X (.BoolOp .Or (b::rest) pos) tb):PE X (.BoolOp .Or (a::b::rest) pos) (tOrV ta tb):=by
 intro pins s σ H Q I h;refine BoolOp_or (thn (ha pins s σ H _ I h) λv s1 ⟨x,H1,I1,r1,q1⟩=>?_);obtain⟨c,rfl,q1⟩:=q1
 cases r1;refine Jo ?_
 cases c with
 | false=>exact hb pins s1 σ H1 Q I1 q1
 | true=>exact⟨.bl true,H1,I1,rfl,q1⟩
def tIf(t:TT)(ta tb:TE):TE:=λσ H Q=>t σ H λc H1=>if c=true then ta σ H1 Q else tb σ H1 Q
theorem zgg{c:Expr}(hc:PT X c tA)(ha:PE X a ta)(hb:PE X b tb):PE X (.IfExp c a b pos) (tIf tA ta tb):=by
 intro pins s σ H Q I h;refine wpAny_IfExp (thn (hc pins s σ H _ I h) λd s1 ⟨H1,I1,q1⟩=>?_)
 cases d with
 | true=>exact ha pins s1 σ H1 Q I1 q1
 | false=>exact hb pins s1 σ H1 Q I1 q1
end
def SqL(K:W.Frag)(H:Hp)(a:Addr)(xs:List V):Prop:=
 Rd H a (.lst xs) \/
  ∃(o:Obj) (its:Array Value) (n:Nat),K.lookup a=some o/\o.cls=.type "list"/\o.dict=none/\o.data=.seq its n/\its.size<=sizeLine/\Vals xs its.toList
def SqT(K:W.Frag)(H:Hp)(a:Addr)(xs:List V):Prop:=
 Rd H a (.tup xs) \/
  ∃(o:Obj) (its:Array Value) (n:Nat),K.lookup a=some o/\o.cls=.type "tuple"/\o.data=.seq its n/\its.size<=sizeLine/\Vals xs its.toList
def absV:Value->Option V
 | .none=>some .non
 | .bool b=>some (.bl b)
 | .int i _=>some (.int i)
 | .str x _=>some (.str x)
 | .bytes b _=>some (.byt b)
 | .float b _=>some (.flt b)
 | .ref a=>some (.ref a)
 | .type n=>some (.ty n)
 | _=>none
theorem RelV.abs{x:V}{u:Value}(r:RelV x u):absV u=some x:=by
 cases x with
 | non=>cases r;rfl
 | bl _=>cases r;rfl
 | int _=>obtain⟨t,rfl⟩:=r;rfl
 | str _=>obtain⟨t,rfl⟩:=r;rfl
 | byt _=>obtain⟨t,rfl⟩:=r;rfl
 | flt _=>obtain⟨t,rfl⟩:=r;rfl
 | ref _=>cases r;rfl
 | ty _=>cases r;rfl
theorem RelV.inj{x y:V}{u:Value}(r:RelV x u)(q:RelV y u):x=y:=Jf (r.abs.symm.trans q.abs)
theorem Vals.inj:∀{xs ys:List V} {us:List Value},Vals xs us->Vals ys us->xs=ys
 | _,_,_,.nil,.nil=>rfl
 | _,_,_,.cons r t,.cons r' t'=>by rw[r.inj r',Vals.inj t t']
section
variable{X:Cx}{pins:List (Addr×Obj)}{σ : St}{H:Hp}{s:Shared}{a:Addr}{xs ys:List V}
theorem SqL.of{K:W.Frag}(h:H a=some (.lst xs)):SqL K H a xs:=.inl (.inl h)
theorem SqT.of{K:W.Frag}(h:H a=some (.tup xs)):SqT K H a xs:=.inl (.inl h)
theorem Inv.list(I:Inv X pins σ H s)(h:SqL X.K H a xs):∃its:List Value,Vals xs its/\PlainL s.heap a its.toArray/\xs.length<=sizeLine:=by
 rcases h with h | ⟨o,its,n,hk,hc,hd,hs,hz,r⟩
 ·obtain⟨z,its,n,r,e⟩:=h.ok I.hok;exact⟨its,r,⟨_,n,e,Z,Z,Z⟩,z⟩
 ·refine⟨its.toList,r,⟨o,n,I.kIn a o hk,hc,hd,by simpa using hs⟩,?_⟩;have e:=r.length;simp only[Array.length_toList]at e;omega
theorem Inv.tuple(I:Inv X pins σ H s)(h:SqT X.K H a xs):∃its:List Value,Vals xs its/\IsTup s.heap a its.toArray/\xs.length<=sizeLine:=by
 rcases h with h | ⟨o,its,n,hk,hc,hs,hz,r⟩
 ·obtain⟨z,its,r,p⟩:=h.ok I.hok;exact⟨its,r,p,z⟩
 ·refine⟨its.toList,r,⟨o,I.kIn a o hk,hc,n,by simpa using hs⟩,?_⟩;have e:=r.length;simp only[Array.length_toList]at e;omega
theorem Inv.list_inj(I:Inv X pins σ H s)(h:SqL X.K H a xs)(h':SqL X.K H a ys):xs=ys:=by
 obtain⟨its,r,⟨o,n,e,_,_,d⟩,_⟩:=I.list h;obtain⟨its',r',⟨o',n',e',_,_,d'⟩,_⟩:=I.list h';rw[e]at e';cases e';rw[d]at d';injection d' with d1 _
 have:its=its':=by simpa using Js Array.toList d1
 subst this;exact r.inj r'
theorem Inv.tuple_inj(I:Inv X pins σ H s)(h:SqT X.K H a xs)(h':SqT X.K H a ys):xs=ys:=by
 obtain⟨its,r,⟨o,e,_,n,d⟩,_⟩:=I.tuple h;obtain⟨its',r',⟨o',e',_,n',d'⟩,_⟩:=I.tuple h';rw[e]at e';cases e';rw[d]at d';injection d' with d1 _
 have:its=its':=by simpa using Js Array.toList d1
 subst this;exact r.inj r'
end
abbrev Cx.wish(X:Cx)(E:Value->Shared->Prop):Cx:={ X with xe:=E }
abbrev Cx.nox(X:Cx):Cx:=X.wish λ_ _=>False
theorem Cx.Ok.wish{X:Cx}(ok:X.Ok)(E:Value->Shared->Prop):(X.wish E).Ok:=
 ⟨ok.mod,ok.kind,ok.glob,ok.blt,ok.above,ok.inj,ok.has,ok.cab,ok.hd,ok.frames,ok.stk,ok.exf,ok.bs,ok.bsz,ok.noex,ok.exfs,ok.funs,ok.frf⟩
theorem Cx.Ok.unwish{X:Cx}{E:Value->Shared->Prop}(ok:(X.wish E).Ok):X.Ok:=
 ⟨ok.mod,ok.kind,ok.glob,ok.blt,ok.above,ok.inj,ok.has,ok.cab,ok.hd,ok.frames,ok.stk,ok.exf,ok.bs,ok.bsz,ok.noex,ok.exfs,ok.funs,ok.frf⟩
section
variable{X:Cx}{pins:List (Addr×Obj)}{σ : St}{H:Hp}{s:Shared}{E:Value->Shared->Prop}
theorem Inv.wish(I:Inv X pins σ H s)(E:Value->Shared->Prop):Inv (X.wish E) pins σ H s:=⟨I.ok.wish E,I.os,I.bare,I.base,I.loc,I.cell,I.free,I.freeC,I.pin,I.hok,I.len⟩
theorem Inv.unwish(I:Inv (X.wish E) pins σ H s):Inv X pins σ H s:=⟨I.ok.unwish,I.os,I.bare,I.base,I.loc,I.cell,I.free,I.freeC,I.pin,I.hok,I.len⟩
theorem SP.unwish{D:Ends}{f:Flow}{s':Shared}(h:SP (X.wish E) pins D f s'):SP X pins D f s':=by
 cases f with
 | next=>obtain⟨σ',H',I,q⟩:=h;exact⟨σ',H',I.unwish,q⟩
 | brk=>obtain⟨σ',H',I,q⟩:=h;exact⟨σ',H',I.unwish,q⟩
 | cont=>obtain⟨σ',H',I,q⟩:=h;exact⟨σ',H',I.unwish,q⟩
 | ret u=>obtain⟨v,σ',H',I,r,q⟩:=h;exact⟨v,σ',H',I.unwish,r,q⟩
theorem PSs.nox{st:List Stmt}{t:TS}(h:PSs X.nox st t):PSs X st t:=λpins s σ H D I hw=>
 wpAny_mono (h pins s σ H D (I.wish _) hw) (λ_ _ q=>q.unwish) λ_ _ z=>Je z
end
section
variable{X:Cx}{st:Stmt}{rest:List Stmt}{t u:TS}{e:Expr}{te:TE}{pos:Pos}
def zul:TS:=λD σ H=>D.nx σ H
def tSeq(t u:TS):TS:=λD σ H=>t { D with nx:=u D } σ H
theorem zat:PSs X [] zul:=λ_ _ σ H _ I h=>wpAny_execs_nil ⟨σ,H,I,h⟩
theorem zac(h1:PS X st t)(h2:PSs X rest u):PSs X (st::rest) (tSeq t u):=by
 intro pins s σ H D I h;refine wpAny_execs_cons (thn (h1 pins s σ H { D with nx:=u D } I h) λf s1 q=>?_)
 cases f with
 | next=>
  obtain⟨σ',H',I',q⟩:=q;exact h2 pins s1 σ' H' D I' q
 | ret v=>exact q
 | brk=>exact q
 | cont=>exact q
theorem zaf(h1:PS X st t):PSs X [st] t:=by
 intro pins s σ H D I h;refine wpAny_execs_cons (thn (h1 pins s σ H D I h) λf s1 q=>?_)
 cases f with
 | next=>exact wpAny_execs_nil q
 | ret v=>exact q
 | brk=>exact q
 | cont=>exact q
theorem Inv.quiet{pins:List (Addr×Obj)}{σ : St}{H:Hp}{s:Shared}(I:Inv X pins σ H s):interactive X.env=false:=by simp[interactive,I.ok.kind]
def zye(te:TE):TS:=λD σ H=>te σ H λ_ H1=>D.nx σ H1
theorem zeh(he:PE X e te)(hs:swapsWith e none pos.line X.env=pure false:=by rfl):PS X (.Expr e pos) (zye te):=by
 intro pins s σ H D I h;exact wpAny_Expr_any (thn (he pins s σ H _ I h) λv s1 ⟨x,H1,I1,r1,q1⟩=>⟨σ,H1,I1,q1⟩) I.quiet hs
def tRet(te:TE):TS:=λD σ H=>te σ H D.rt
theorem zap(he:PE X e te):PS X (.Return (some e) pos) (tRet te):=by
 intro pins s σ H D I h;exact wpAny_Return_some (thn (he pins s σ H _ I h) λv s1 ⟨x,H1,I1,r1,q1⟩=>⟨x,σ,H1,I1,r1,q1⟩)
def tIfS(c:TT)(t u:TS):TS:=λD σ H=>c σ H λb H1=>if b=true then t D σ H1 else u D σ H1
theorem za1{c:Expr}{a b:List Stmt}{tc:TT}(hc:PT X c tc)(ha:PSs X a t)(hb:PSs X b u):PS X (.If c a b pos) (tIfS tc t u):=by
 intro pins s σ H D I h;refine wpAny_If (thn (hc pins s σ H _ I h) λd s1 ⟨H1,I1,q1⟩=>?_)
 cases d with
 | true=>exact ha pins s1 σ H1 D I1 q1
 | false=>exact hb pins s1 σ H1 D I1 q1
end
abbrev TG:=V->St->Hp->(St->Hp->Prop)->Prop
abbrev TGs:=List V->St->Hp->(St->Hp->Prop)->Prop
def PG(X:Cx)(target:Expr)(t:TG):Prop:=
 ∀(pins:List (Addr×Obj)) (s:Shared) (σ : St) (H:Hp) (v:V) (u:Value) (Q:St->Hp->Prop),Inv X pins σ H s->RelV v u->t v σ H Q ->
  wpAny (model X.prog X.w) X.A (assign target X.env u) (λ_ s'=>∃σ' H',Inv X pins σ' H' s'/\Q σ' H') X.xe s
def PGs(X:Cx)(ts:List Expr)(t:TGs):Prop:=
 ∀(pins:List (Addr×Obj)) (s:Shared) (σ : St) (H:Hp) (vs:List V) (us:List Value) (Q:St->Hp->Prop),Inv X pins σ H s->Vals vs us->t vs σ H Q ->
  wpAny (model X.prog X.w) X.A (assignInOrder ((assignEach ts X.env).map (·.2)) us) (λ_ s'=>∃σ' H',Inv X pins σ' H' s'/\Q σ' H') X.xe s
abbrev TIp:=V->V->Hp->VK->Prop
def PIp(X:Cx)(op:Operator)(t:TIp):Prop:=
 ∀(pins:List (Addr×Obj)) (s:Shared) (σ : St) (H:Hp) (x y:V) (v u:Value) (Q:VK),Inv X pins σ H s->RelV x v->RelV y u->t x y H Q ->
  wpAny (model X.prog X.w) X.A (inplaceOp op v u) (EP X pins σ Q) X.xe s
section
variable{X:Cx}{pos:Pos}
def za4(i:Nat):TG:=λv σ H Q=>Q (σ.set i (some v)) H
theorem zbj{i:Nat}{x:Str}(hN:X.N.Nodup)(hi:X.N[i]? = some x)(hx:Loc X.env.scope x)(hf:X.fn x=true\/X.env.scope.names.lookup x=some .local:=by first | exact .inl rfl | exact .inr rfl | assumption):PG X (.Name x pos) (za4 i):=by
 intro pins s σ H v u Q I r h;exact wpAny_assign_Name (zeq I hN hi hx r (λs' I'=>⟨_,H,I',h⟩) hf)
def gNil:TGs:=λvs σ H Q=>vs=[]/\Q σ H
def znm(t:TG)(u:TGs):TGs:=λvs σ H Q=>∃v r,vs=v::r/\t v σ H λσ' H'=>u r σ' H' Q
theorem zfk:PGs X [] gNil:=by
 intro pins s σ H vs us Q I r h;obtain⟨e,h⟩:=h;subst e
 cases r;exact assignInOrder_nil ⟨σ,H,I,h⟩
theorem zb7{e:Expr}{es:List Expr}{t:TG}{u:TGs}(h1:PG X e t)(h2:PGs X es u)
  (hs:(assignEach (e::es) X.env).map (·.2)=assign e X.env::(assignEach es X.env).map (·.2):=by rfl):PGs X (e::es) (znm t u):=by
 intro pins s σ H vs us Q I r h;obtain⟨v,vr,e1,h⟩:=h;subst e1
 cases r with
 | cons r rr=>
  rw[hs];refine assignInOrder_cons (thn (h1 pins s σ H _ _ _ I r h) λ_ s1 ⟨σ1,H1,I1,q1⟩=>?_);exact h2 pins s1 σ1 H1 _ _ Q I1 rr q1
def gTup(K:W.Frag)(n:Nat)(t:TGs):TG:=λv σ H Q=>∃a xs,v=.ref a/\SqT K H a xs/\xs.length=n/\t xs σ H Q
theorem zh3{es:List Expr}{k:Nat}{t:TGs}{n:Nat}(hc:X.calm=true)(h:PGs X es t)
  (hn:(assignEach es X.env).length=n:=by rfl) (hst:(assignEach es X.env).findIdx? (·.1)=none:=by rfl):PG X (.Tuple es k pos) (gTup X.K n t):=by
 intro pins s σ H v u Q I r hw;obtain⟨a,xs,e1,hq,hl,hw⟩:=hw;subst e1
 cases r;obtain⟨its,rv,ht,hz⟩:=I.tuple hq;refine assign_Tuple_tuple (I.ok.hd hc) ht (by simp[hn,<- hl,rv.length]) hst λh' hx=>?_
 have I1:Inv X pins σ H { s with heap:=h' }:=I.kept (t':=s.toks) λb o e=>hx b o (Y0 (Yn e)) e
 exact h pins _ σ H xs _ Q I1 (by simpa using rv) hw
def tAsg(te:TE)(g:TG):TS:=λD σ H=>te σ H λx H1=>g x σ H1 D.nx
theorem zav{i:Nat}{x:Str}{e:Expr}{te:TE}{pos':Pos}(hN:X.N.Nodup)(hi:X.N[i]? = some x)(hx:Loc X.env.scope x)(he:PE X e te)(hs:swapsWith e (some (.Name x pos')) pos.line X.env=pure false:=by rfl)(hf:X.fn x=true\/X.env.scope.names.lookup x=some .local:=by first | exact .inl rfl | exact .inr rfl | assumption) :
  PS X (.Assign [.Name x pos'] e pos) (tAsg te (za4 i)):=by
 intro pins s σ H D I h;refine wpAny_Assign_Name (thn (he pins s σ H _ I h) λv s1 ⟨y,H1,I1,r1,q1⟩=>?_) hs;exact zeq I1 hN hi hx r1 (λs2 I2=>⟨_,H1,I2,q1⟩) hf
def tAug(i:Nat)(te:TE)(ti:TIp):TS:=λD σ H=>∃x,σ[i]? = some (some x)/\te σ H λy H1=>ti x y H1 λz H2=>D.nx (σ.set i (some z)) H2
theorem zvq{i:Nat}{x:Str}{e:Expr}{te:TE}{op:Operator}{ti:TIp}{pos':Pos}(hN:X.N.Nodup)(hi:X.N[i]? = some x)(hx:Loc X.env.scope x)(he:PE X e te)(ho:PIp X op ti)(hf:X.fn x=true\/X.env.scope.names.lookup x=some .local:=by first | exact .inl rfl | exact .inr rfl | assumption) :
  PS X (.AugAssign (.Name x pos') op e pos) (tAug i te ti):=by
 intro pins s σ H D I h;obtain⟨v,e1,h⟩:=h;obtain⟨m,hn,hl⟩:=I.loc;have vis:Vis X.env.scope x:=by rcases hx with k | k;exact .inl k;exact .inr (.inl k)
 obtain⟨u,r,l⟩:=hl i x v hi e1 vis;refine wpAny_AugAssign_Name ?_;have go:wpAny (model X.prog X.w) X.A (eval e X.env) (λw s₂=>wpAny (model X.prog X.w) X.A (inplaceOp op u w) (λr s₃=>wpAny (model X.prog X.w) X.A (storeName X.env x r) (λ_=>SP X pins D .next) X.xe s₃) X.xe s₂) X.xe s:=by
  refine thn (he pins s σ H _ I h) λw s1 ⟨y,H1,I1,r1,q1⟩=>?_
  refine thn (ho pins s1 σ H1 v y u w _ I1 r r1 q1) λz s2 ⟨zv,H2,I2,r2,q2⟩=>?_
  exact zeq I2 hN hi hx r2 (λs3 I3=>⟨_,H2,I3,q2⟩) hf
 rcases l with⟨hk,hm⟩ | ⟨hk,c,hc,hcell⟩
 ·exact wpAny_loadName_local I.ok.kind hk hn hm go
 ·rcases hk with hk | hk
  ·exact wpAny_loadName_cell I.ok.kind hk hc hcell go
  ·rcases hx with k | k
   ·have:X.env.scope.names.lookup x=some .free:=hk;rw[k]at this;cases this
   ·have:X.env.scope.names.lookup x=some .free:=hk;rw[k]at this;cases this
def ipI(f:Int->Int->Int):TIp:=λx y H Q=>∃i j,x=.int i/\y=.int j/\Q (.int (f i j)) H
theorem zxt:PIp X .Add (ipI λi j=>i+j):=by
 intro pins s σ H x y v u Q I r1 r2 h;obtain⟨i,j,e1,e2,q⟩:=h;subst e1;subst e2;obtain⟨t,rfl⟩:=r1;obtain⟨t',rfl⟩:=r2;exact iadd_int ⟨.int _,H,I.tok _,⟨_,rfl⟩,q⟩
end
section
variable{X:Cx}{pos:Pos}
def zw9(c:TT)(tb:TS):TS:=λD σ H=>∃W:Nat->St->Hp->Prop,(∃m,W m σ H)/\∀m σ H,W m σ H ->
 c σ H λb H1=>if b=true then ∃N:St->Hp->Prop,(∀σ' H',N σ' H'->∃m',m'<m/\W m' σ' H')/\tb { D with nx:=N,ct:=N,bk:=D.nx } σ H1 else D.nx σ H1
theorem zck{c:Expr}{body:List Stmt}{tc:TT}{tb:TS}(hp:PassesOwn (model X.prog X.w) X.A X.env X.xe)(hc:PT X c tc)(hb:PSs X body tb):PS X (.While c body [] pos) (zw9 tc tb):=by
 intro pins s σ H D I h;obtain⟨W,⟨m0,w0⟩,turn⟩:=h;refine wpAny_While (codeAny_whileLoop (λn s'=>∃σ' H',Inv X pins σ' H' s'/\W n σ' H') ?_ m0 ⟨σ,H,I,w0⟩);rintro n s1 ⟨σ1,H1,I1,w1⟩;refine wpAny_passesOwn hp (thn (hc pins s1 σ1 H1 _ I1 (turn n σ1 H1 w1)) λb s2 ⟨H2,I2,q2⟩=>?_)
 cases b with
 | true=>
  obtain⟨N,hN,q2⟩:=q2;rw[Yl rfl];refine wpAny_passesOwn hp (thn (hb pins s2 σ1 H2 _ I2 q2) λf s3 q3=>?_)
  cases f with
  | next=>
   obtain⟨σ3,H3,I3,n3⟩:=q3;obtain⟨m',hm,w3⟩:=hN σ3 H3 n3;exact⟨m',hm,σ3,H3,I3,w3⟩
  | cont=>
   obtain⟨σ3,H3,I3,n3⟩:=q3;obtain⟨m',hm,w3⟩:=hN σ3 H3 n3;exact⟨m',hm,σ3,H3,I3,w3⟩
  | brk=>exact q3
  | ret v=>exact q3
 | false=>
  rw[Yh Yt];exact wpAny_execs_nil ⟨σ1,H2,I2,q2⟩
end
structure It where
 go:Nat->Hp->Prop
 yld:Nat->Hp->V->Hp->Prop
 stop:Nat->Hp->Prop
def FpOk(X:Cx)(pins:List (Addr×Obj))(H:Hp)(b:Addr):Prop:=
 H b=none/\b≠X.env.locals/\b ∉ X.fs/\(b∈X.ex\/X.s₀.heap.objs.size<=b)/\(∀x c,X.env.cells.lookup x=some c->c≠b)/\∀p∈X.pn++pins,p.1≠b
theorem Inv.fpOk{X:Cx}{pins:List (Addr×Obj)}{σ : St}{H H':Hp}{s:Shared}{b:Addr}(I:Inv X pins σ H s)(hb:s.heap.objs.size<=b)(hn:H' b=none):FpOk X pins H' b:=by
 refine⟨hn,Nat.ne_of_gt (Yf I.lt hb),I.nofs hb,.inr (Yr I.sz hb),λx c e z=>?_,λp hp z=>?_⟩
 ·obtain⟨v,q⟩:=I.cell x c e;exact absurd (Yf q.lt (by rw[z];exact hb)) (Nat.lt_irrefl _)
 ·exact absurd (Yf (Yn (I.pin p hp).1) (by rw[z];exact hb)) (Nat.lt_irrefl _)
structure Turn(P:Program)(w:World)(K:W.Frag)(tg:Expr)(J:It)(fp:List Addr)(it:Addr)(tn:Nat->Heap->Prop):Prop where
 mem:it∈fp
 obj:∀i h,tn i h->∀b∈fp,∃o,h.get? b=some o/\∀v,o.data≠.cell v
 keep:∀i h h',tn i h->(∀b∈fp,∀o,h.get? b=some o->h'.get? b=some o)->tn i h'
 item:∀(X:Cx),X.prog=P->X.w=w->X.K=K->X.calm=true->∀(i:Nat) (pins:List (Addr×Obj)) (s:Shared) (σ : St) (H:Hp) (E:Value->Shared->Prop),Inv X pins σ H s->(∀b∈fp,FpOk X pins H b)->tn i s.heap->J.go i H ->
  wpAny (model P w) X.A (pyNext (.ref it)) (λr s1=>∃u,r=some u /\
   wpAny (model P w) X.A (letOwnedTupleGo tg (.ref it) u) (λ_ s2=>∃x H',Inv X pins σ H' s2/\RelV x u/\J.yld i H x H'/\tn (i+1) s2.heap/\∀b∈fp,H' b=none) E s1) E s
 done:∀(X:Cx),X.prog=P->X.w=w->X.K=K->X.calm=true->∀(i:Nat) (pins:List (Addr×Obj)) (s:Shared) (σ : St) (H:Hp) (E:Value->Shared->Prop),Inv X pins σ H s->(∀b∈fp,FpOk X pins H b)->tn i s.heap->J.stop i H ->
  wpAny (model P w) X.A (pyNext (.ref it)) (λr s1=>r=none/\Inv X pins σ H s1) E s
 self:∀(A:Around) (i:Nat) (s:Shared) (Q:Value->Shared->Prop) (E:Value->Shared->Prop),tn i s.heap->Q (.ref it) s->wpAny (model P w) A (pyIter (.ref it)) Q E s
abbrev TI:=St->Hp->(It->Hp->Prop)->Prop
def PIE(X:Cx)(pins:List (Addr×Obj))(σ : St)(tg:Expr)(R:It->Hp->Prop)(itv:Value)(s2:Shared):Prop:=
 ∃(it:Addr) (fp:List Addr) (tn:Nat->Heap->Prop) (J:It) (H':Hp),itv=.ref it/\Inv X pins σ H' s2/\Turn X.prog X.w X.K tg J fp it tn/\tn 0 s2.heap/\(∀b∈fp,FpOk X pins H' b)/\R J H'
def PI(X:Cx)(tg iter:Expr)(wi:TI):Prop:=
 ∀(pins:List (Addr×Obj)) (s:Shared) (σ : St) (H:Hp) (R:It->Hp->Prop),Inv X pins σ H s->wi σ H R ->
  wpAny (model X.prog X.w) X.A (eval iter X.env) (λv s1=>wpAny (model X.prog X.w) X.A (pyIter v) (PIE X pins σ tg R) X.xe s1) X.xe s
theorem znf{M:Model}{A:Around}{E:Value->Shared->Prop}{s:Shared}{tg:Expr}{it:Addr}{u:Value}{o:Obj}{n:String}{vs:Array Value}{Q:Unit->Shared->Prop}(ho:s.heap.get? it=some o)(hc:o.cls=.type n)(hd:o.data=.fields vs)
  (hn:["enumerate","zip","dict_itemiterator","dict_reverseitemiterator","odict_iterator","itertools.zip_longest","itertools.pairwise"].contains n=false) (hQ:Q () s):wpAny M A (letOwnedTupleGo tg (.ref it) u) Q E s:=by
 unfold letOwnedTupleGo
 cases tg <;> first
  | exact Yb hQ
  | (cases u <;> first
    | exact Yb hQ
    | (refine Ya (wpAny_load ho ?_)
       rw[hc,hd];show wpAny M A (if (["enumerate","zip","dict_itemiterator","dict_reverseitemiterator","odict_iterator","itertools.zip_longest","itertools.pairwise"].contains n&&vs[0]? == some (rawInt _))=true then _ else _) Q E s;rw[Yh (by intro h;rw[hn,Bool.false_and]at h;cases h)];exact Yb hQ))
def Itl(K:W.Frag)(a:Addr):It:=
 ⟨λi H=>∃xs x,SqL K H a xs/\xs[i]? = some x,λi H x H'=>H'=H/\∀xs,SqL K H a xs->xs[i]? = some x,λi H=>∃xs,SqL K H a xs/\xs.length<=i⟩
def Itr(lo:Int)(n:Nat):It:=⟨λi _=>i<n,λi H x H'=>H'=H/\x=.int (lo+i),λi _=>n<=i⟩
theorem zhi{P:Program}{w:World}{K:W.Frag}{tg:Expr}(a it:Addr):Turn P w K tg (Itl K a) [it] it (λi h=>h.IsListIter it a i) where
 mem:=by simp
 obj:=λi h st b hb=>by
  have e:b=it:=by simpa using hb
  subst e;obtain⟨o,e,c,d⟩:=st;exact⟨o,e,λv z=>by rw[d]at z;cases z⟩
 keep:=λi h h' st k=>st.at λo e=>k it (by simp) o e
 item:=by
  intro X hP hw hK hc i pins s σ H E I hf st hg;subst hP hw hK;obtain⟨xs,x,hq,hx⟩:=hg;obtain⟨its,rv,p,hz⟩:=I.list hq;obtain⟨u,hu,ru⟩:=rv.get hx;obtain⟨f0,f1,f2,f3,f4,f5⟩:=hf it (by simp);refine wpAny_pyNext_list_item st p.isList (x:=u) (by simpa using hu) λh' st' sb=>?_
  have I1:Inv X pins σ H { s with heap:=h' }:=I.turned (t':=s.toks) (λb o hb e=>(sb.2 b hb).trans e) f0 f1 f3 f4 f5;obtain⟨o,e,c,d⟩:=id st';exact⟨u,Z,znf (s:={ s with heap:=h' }) e c d (by decide) ⟨x,H,I1,ru,⟨Z,λys hy=>by rw[I.list_inj hy hq];exact hx⟩,st',λb hb=>(hf b hb).1⟩⟩
 done:=by
  intro X hP hw hK hc i pins s σ H E I hf st hg;subst hP hw hK;obtain⟨xs,hq,hx⟩:=hg;obtain⟨its,rv,p,hz⟩:=I.list hq;obtain⟨f0,f1,f2,f3,f4,f5⟩:=hf it (by simp);have hl:=rv.length;exact wpAny_pyNext_list_end (I.ok.hd hc) st p.isList (by simp;omega) λh' eb=>⟨rfl,I.turned (t':=s.toks) (λb o hb e=>eb b o hb e) f0 f1 f3 f4 f5⟩
 self:=λ_ _ _ _ _ st h=>wpAny_pyIter_listiter st h
theorem zk9{P:Program}{w:World}{K:W.Frag}{tg:Expr}(it:Addr)(lo:Int)(n:Nat):Turn P w K tg (Itr lo n) [it] it (λi h=>IsRangeIter h it (lo+(i:Nat)*1) ((n:Int)-(i:Nat)) 1) where
 mem:=by simp
 obj:=λi h st b hb=>by
  have e:b=it:=by simpa using hb
  subst e;exact⟨_,st,λv z=>by
   have z':Data.fields _=Data.cell v:=z
   cases z'⟩
 keep:=λi h h' st k=>k it (by simp) _ st
 item:=by
  intro X hP hw hK hc i pins s σ H E I hf st hg;subst hP hw hK;obtain⟨f0,f1,f2,f3,f4,f5⟩:=hf it (by simp);have W:=Walks.range (prog:=X.prog) (w:=X.w) (I.ok.hd hc) it lo 1 n;refine W.item i s _ _ hg st λv h' tk hv st' kk=>?_
  obtain⟨t,rfl⟩:=hv;have I1:Inv X pins σ H { s with heap:=h',toks:=tk }:=I.turned (λb o hb e=>kk b o (by simpa using hb) e) f0 f1 f3 f4 f5;refine⟨_,Z,znf (s:={ s with heap:=h',toks:=tk }) (n:="range_iterator") st' rfl rfl (by decide) ⟨.int (lo+i),H,I1,⟨t,?_⟩,⟨Z,Z⟩,st',λb hb=>(hf b hb).1⟩⟩;rw[Int.mul_one]
 done:=by
  intro X hP hw hK hc i pins s σ H E I hf st hg;subst hP hw hK;obtain⟨f0,f1,f2,f3,f4,f5⟩:=hf it (by simp);exact wpAny_pyNext_range_end (I.ok.hd hc) st (by have:n<=i:=hg;omega) λh' eb=>⟨rfl,I.turned (t':=s.toks) (λb o hb e=>eb b o hb e) f0 f1 f3 f4 f5⟩
 self:=λ_ _ _ _ _ st h=>wpAny_pyIter_rangeiter st h
section
variable{X:Cx}{tg:Expr}
def zs2(K:W.Frag)(tl:TE):TI:=λσ H R=>tl σ H λx H1=>∃a,x=.ref a/\(∃xs,SqL K H1 a xs)/\R (Itl K a) H1
theorem zsd{l:Expr}{tl:TE}(hl:PE X l tl):PI X tg l (zs2 X.K tl):=by
 intro pins s σ H R I h;refine thn (hl pins s σ H _ I h) λv s1 ⟨x,H1,I1,r1,q1⟩=>?_
 obtain⟨a,e,⟨xs,hq⟩,q⟩:=q1;subst e
 cases r1;obtain⟨its,rv,p,hz⟩:=I1.list hq;refine wpAny_pyIter_list p.isList ?_;refine⟨s1.heap.objs.size,[s1.heap.objs.size],_,_,H1,Z,I1.kept (t':=s1.toks) λb o e=>Ye _ e,zhi a _,⟨_,Yk _ rfl,Z,Z⟩,λb hb=>?_,q⟩;have e:b=s1.heap.objs.size:=by simpa using hb
 subst e;exact I1.fpOk (Yi _) (I1.hok.fresh (Yi _))
theorem zot{pins:List (Addr×Obj)}{σ : St}{H:Hp}{s:Shared}{R:It->Hp->Prop}{E:Value->Shared->Prop}{lo hi:Int}{t u v:Tok}{tk:Nat}(I:Inv X pins σ H s)(h1 : -(2^62)<=lo)(h2:lo<2^62)(h3 : -(2^62)<=hi)(h4:hi<2^62)
  (q:R (Itr lo (hi-lo).toNat) H):wpAny (model X.prog X.w) X.A (pyIter (.ref s.heap.objs.size)) (PIE X pins σ tg R) E { s with heap:=s.heap.push { cls:=.type "range",data:=.fields #[.int lo t,.int hi u,.int 1 v] },toks:=tk }:=by
 refine wpAny_pyIter_range (IsRange.new ..) (small_one h1 h2 h3 h4) ?_;have I1:Inv X pins σ H { s with heap:=s.heap.push { cls:=.type "range",data:=.fields #[.int lo t,.int hi u,.int 1 v] },toks:=tk }:=I.kept λb o e=>Ye _ e
 refine⟨(s.heap.push { cls:=.type "range",data:=.fields #[.int lo t,.int hi u,.int 1 v] }).objs.size,[(s.heap.push { cls:=.type "range",data:=.fields #[.int lo t,.int hi u,.int 1 v] }).objs.size],_,_,H,Z,
  I1.kept (t':=tk) λb o e=>Ye _ e,zk9 _ lo (hi-lo).toNat,?_,λb hb=>?_,q⟩
 ·have e1:lo+((0:Nat):Int)*1=lo:=by simp
  have e2:(((hi-lo).toNat:Nat):Int)-((0:Nat):Int)=Builtin.Range.rangeSize lo hi 1:=by rw[rangeSize_one];split <;> omega
  show IsRangeIter _ _ (lo+((0:Nat):Int)*1) ((((hi-lo).toNat:Nat):Int)-((0:Nat):Int)) 1;rw[e1,e2];exact Yk _ rfl
 ·have e:b=(s.heap.push { cls:=.type "range",data:=.fields #[.int lo t,.int hi u,.int 1 v] }).objs.size:=by simpa using hb
  subst e;exact I1.fpOk (Yi _) (I1.hok.fresh (Yi _))
def zxm(ta:TA):TI:=λσ H R=>ta σ H λvs H1=>∃j:Int,vs=[.int j]/\-(2^62)<=j/\j<2^62/\R (Itr 0 j.toNat) H1
theorem zlj{a:Expr}{ta:TA}{p pos:Pos}(hg:Gl X "range")(hm:X.mg "range" = none)(ha:PA X [a] ta)(hs:starEach [a] X.env=[(false,eval a X.env)]:=by rfl):PI X tg (.Call (.Name "range" p) [a] [] pos) (zxm ta):=by
 intro pins s σ H R I h;refine Call_ (zil I hg hm boot_range (PyProof.Rows.callWith_type1 (thn (ha pos pins s σ H _ I h) λus s1 ⟨vs,H1,I1,r1,q1⟩=>?_) hs rfl));obtain⟨j,e,q1,q2,q⟩:=q1;subst e
 cases r1 with
 | cons r rr=>
  cases rr;obtain⟨t,rfl⟩:=r;exact call_range_1 (zot I1 (by omega) (by omega) q1 q2 (by simpa using q))
def tFor(wi:TI)(g:TG)(tb:TS):TS:=λD σ H=>wi σ H λJ H1=>∃W:Nat->Nat->St->Hp->Prop,(∃m,W 0 m σ H1)/\∀i m σ H,W i m σ H ->
 (J.stop i H/\D.nx σ H)\/(J.go i H/\∃N:St->Hp->Prop,(∀σ' H',N σ' H'->∃m',m'<m/\W (i+1) m' σ' H')/\∀x H',J.yld i H x H'->g x σ H' λσ2 H2=>tb { D with nx:=N,ct:=N,bk:=D.nx } σ2 H2)
def zgb(fp:List Addr)(h:Heap):List (Addr×Obj):=fp.filterMap λb=>(h.get? b).map λo=>(b,o)
theorem zcl{fp:List Addr}{h:Heap}{b:Addr}{o:Obj}(hb:b∈fp)(e:h.get? b=some o):(b,o)∈zgb fp h:=List.mem_filterMap.mpr ⟨b,hb,by rw[e];rfl⟩
theorem zms{fp:List Addr}{h:Heap}{p:Addr×Obj}(hp:p∈zgb fp h):p.1∈fp/\h.get? p.1=some p.2:=by
 obtain⟨b,hb,e⟩:=List.mem_filterMap.mp hp
 cases q:h.get? b with
 | none=>rw[q]at e;cases e
 | some o=>
  rw[q]at e;have e':(b,o)=p:=Jf e;subst e';exact⟨hb,q⟩
theorem Inv.pinned{pins:List (Addr×Obj)}{σ : St}{H:Hp}{s:Shared}{fp:List Addr}(I:Inv X pins σ H s)(hf:∀b∈fp,FpOk X pins H b)(ho:∀b∈fp,∃o,s.heap.get? b=some o/\∀v,o.data≠.cell v):Inv X (pins++zgb fp s.heap) σ H s:=
 I.pins_of λp hp=>(Jr.mp hp).elim (λz=>I.pin p (Yg _ z)) λz=>by
  obtain⟨hb,e⟩:=zms z;obtain⟨f0,f1,f2,_⟩:=hf p.1 hb;obtain⟨o,e',d⟩:=ho p.1 hb;rw[e]at e';cases e';exact⟨e,f0,f1,f2,d⟩
theorem Inv.unpinned{pins pl:List (Addr×Obj)}{σ : St}{H:Hp}{s:Shared}(I:Inv X (pins++pl) σ H s):Inv X pins σ H s:=I.pins_of λp hp=>I.pin p (Yg _ (List.mem_append_left _ hp))
theorem zel{iter:Expr}{body:List Stmt}{wi:TI}{g:TG}{tb:TS}{pos:Pos}(hp:PassesOwn (model X.prog X.w) X.A X.env X.xe)(hc:X.calm=true)(hi:PI X tg iter wi)(hg:PG X tg g)(hb:PSs X body tb)
  (hs:∀x,foldedSetIterable iter X.env x=pure x:=by intro _;rfl):PS X (.For tg iter body [] pos) (tFor wi g tb):=by
 intro pins s σ H D I h;refine wpAny_For (thn (hi pins s σ H _ I h) λv s1 h1=>thn h1 λitv s2 h2=>?_) hs;obtain⟨it,fp,tn,J,H2,e,I2,T,st2,f2,W,⟨m0,w0⟩,turn⟩:=h2;subst e;have stat:∀{H':Hp},(∀b∈fp,H' b=none)->∀b∈fp,FpOk X pins H' b:=λhn b hb=>⟨hn b hb,(f2 b hb).2⟩
 refine codeAny_forLoop_any (λn s'=>∃i σ' H',Inv X pins σ' H' s'/\tn i s'.heap/\(∀b∈fp,H' b=none)/\W i n σ' H') ?_ m0 ⟨0,σ,H2,I2,st2,λb hb=>(f2 b hb).1,w0⟩;rintro n s3 ⟨i,σ3,H3,I3,st3,fr3,w3⟩;rcases turn i n σ3 H3 w3 with⟨stop,qn⟩ | ⟨go,N,hN,step⟩
 ·refine wpAny_passesOwn hp (thn (T.done X rfl rfl rfl hc i pins s3 σ3 H3 X.xe I3 (stat fr3) st3 stop) λr s4 ⟨hr,I4⟩=>?_);subst hr;exact wpAny_execs_nil ⟨σ3,H3,I4,qn⟩
 ·refine wpAny_passesOwn hp (thn (T.item X rfl rfl rfl hc i pins s3 σ3 H3 X.xe I3 (stat fr3) st3 go) λr s4 ⟨u,hr,h4⟩=>?_);subst hr;refine wpAny_passesOwn hp (thn h4 λ_ s5 ⟨x,H5,I5,r5,y5,st5,fr5⟩=>?_);have I5':=I5.pinned (stat fr5) (T.obj _ _ st5);refine wpAny_passesOwn hp (thn (hg _ s5 σ3 H5 x u _ I5' r5 (step x H5 y5)) λ_ s6 ⟨σ6,H6,I6,q6⟩=>?_);refine wpAny_passesOwn hp (thn (hb _ s6 σ6 H6 _ I6 q6) λf s7 q7=>?_);have again:∀{σ7:St} {H7:Hp},Inv X (pins++zgb fp s5.heap) σ7 H7 s7->N σ7 H7->∃m,m<n/\∃i σ' H',Inv X pins σ' H' s7/\tn i s7.heap/\(∀b∈fp,H' b=none)/\W i m σ' H':=fun{σ7 H7} I7 n7=>by
   obtain⟨m',hm,w7⟩:=hN σ7 H7 n7;refine⟨m',hm,i+1,σ7,H7,I7.unpinned,T.keep _ _ _ st5 λb hb o e=>(I7.pin (b,o) (Yg _ (Yg _ (zcl hb e)))).1,λb hb=>?_,w7⟩;obtain⟨o,e,d⟩:=T.obj _ _ st5 b hb;exact(I7.pin (b,o) (Yg _ (Yg _ (zcl hb e)))).2.1
  cases f with
  | next=>obtain⟨σ7,H7,I7,n7⟩:=q7;exact again I7 n7
  | cont=>obtain⟨σ7,H7,I7,n7⟩:=q7;exact again I7 n7
  | brk=>obtain⟨σ7,H7,I7,q7⟩:=q7;exact⟨σ7,H7,I7.unpinned,q7⟩
  | ret v=>obtain⟨x7,σ7,H7,I7,r7,q7⟩:=q7;exact⟨x7,σ7,H7,I7.unpinned,r7,q7⟩
end
theorem zd0{K:W.Frag}{a:Addr}{xs:List V}{g:TG}{tb:TS}{D:Ends}{σ : St}{H:Hp}(Pv:Nat->St->Hp->Prop)(h0:Pv 0 σ H)(hl:∀i σ H,i<=xs.length->Pv i σ H->SqL K H a xs)
  (hs:∀i x σ H,xs[i]? = some x->Pv i σ H->g x σ H λσ2 H2=>tb { D with nx:=Pv (i+1),ct:=Pv (i+1),bk:=D.nx } σ2 H2) (hd:∀σ H,Pv xs.length σ H->D.nx σ H) :
  ∃W:Nat->Nat->St->Hp->Prop,(∃m,W 0 m σ H)/\∀i m σ H,W i m σ H ->
   ((Itl K a).stop i H/\D.nx σ H)\/((Itl K a).go i H/\∃N:St->Hp->Prop,(∀σ' H',N σ' H'->∃m',m'<m/\W (i+1) m' σ' H')/\∀x H',(Itl K a).yld i H x H'->g x σ H' λσ2 H2=>tb { D with nx:=N,ct:=N,bk:=D.nx } σ2 H2):=by
 refine⟨λi m σ H=>m=xs.length-i/\i<=xs.length/\Pv i σ H,⟨xs.length,by simp,Y2 _,h0⟩,?_⟩;rintro i m σ H ⟨rfl,hi,p⟩;have q:=hl i σ H hi p;by_cases hlt:i<xs.length
 ·refine .inr ⟨⟨xs,xs[i],q,by simp[hlt]⟩,Pv (i+1),λσ' H' p'=>⟨xs.length-(i+1),by omega,Z,hlt,p'⟩,λx H' y=>?_⟩;obtain⟨e,y⟩:=y;subst e;exact hs i x σ _ (y xs q) p
 ·have e:i=xs.length:=by omega
  subst e;exact .inl ⟨⟨xs,q,Yi _⟩,hd σ H p⟩
abbrev R2:=V->V->Hp->VK->Prop
def OpR(X:Cx)(f:Value->Value->Sem Value)(r:R2):Prop:=
 ∀(pins:List (Addr×Obj)) (s:Shared) (σ : St) (H:Hp) (x y:V) (v u:Value) (Q:VK),Inv X pins σ H s->RelV x v->RelV y u->r x y H Q ->
  wpAny (model X.prog X.w) X.A (f v u) (EP X pins σ Q) X.xe s
def UnR(X:Cx)(f:Value->Sem Value)(r:V->Hp->VK->Prop):Prop:=
 ∀(pins:List (Addr×Obj)) (s:Shared) (σ : St) (H:Hp) (x:V) (v:Value) (Q:VK),Inv X pins σ H s->RelV x v->r x H Q ->
  wpAny (model X.prog X.w) X.A (f v) (EP X pins σ Q) X.xe s
def CallR(X:Cx)(f:Value)(r:List V->Hp->VK->Prop):Prop:=
 ∀(pins:List (Addr×Obj)) (s:Shared) (σ : St) (H:Hp) (xs:List V) (us:List Value) (Q:VK),Inv X pins σ H s->Vals xs us->r xs H Q ->
  wpAny (model X.prog X.w) X.A (call f us) (EP X pins σ Q) X.xe s
def tOp(r:R2)(ta tb:TE):TE:=λσ H Q=>ta σ H λx H1=>tb σ H1 λy H2=>r x y H2 Q
def tUn(r:V->Hp->VK->Prop)(ta:TE):TE:=λσ H Q=>ta σ H λx H1=>r x H1 Q
def rI(C:Int->Int->Prop)(g:Int->Int->V):R2:=λx y H Q=>∃i j,x=.int i/\y=.int j/\C i j/\Q (g i j) H
def rI0(g:Int->Int->V):R2:=λx y H Q=>∃i j,x=.int i/\y=.int j/\Q (g i j) H
def rU(g:Int->V):V->Hp->VK->Prop:=λx H Q=>∃i,x=.int i/\Q (g i) H
section
variable{X:Cx}{a b c:Expr}{ta tb tc:TE}{pos:Pos}
theorem binT(ha:PE X a ta)(hb:PE X b tb){pins:List (Addr×Obj)}{s:Shared}{σ : St}{H:Hp}{R:V->V->Hp->Prop}(I:Inv X pins σ H s)
  (h:ta σ H λx H1=>tb σ H1 λy H2=>R x y H2) {Q:Value->Shared->Prop} {f:Value->Value->Sem Value}
  (hf:∀v u s2 x y H2,Inv X pins σ H2 s2->RelV x v->RelV y u->R x y H2->wpAny (model X.prog X.w) X.A (f v u) Q X.xe s2) :
  wpAny (model X.prog X.w) X.A (eval a X.env) (λv s₁=>wpAny (model X.prog X.w) X.A (eval b X.env) (λu s₂=>wpAny (model X.prog X.w) X.A (f v u) Q X.xe s₂) X.xe s₁) X.xe s:=by
 refine thn (ha pins s σ H _ I h) λv s1 ⟨x,H1,I1,r1,q1⟩=>?_
 refine thn (hb pins s1 σ H1 _ I1 q1) λu s2 ⟨y,H2,I2,r2,q2⟩=>?_
 exact hf v u s2 x y H2 I2 r1 r2 q2
theorem zao{op:Operator}{r:R2}(ho:OpR X (binaryOp op) r)(ha:PE X a ta)(hb:PE X b tb):PE X (.BinOp a op b pos) (tOp r ta tb):=by
 intro pins s σ H Q I h;exact wpAny_BinOp (binT ha hb I h λv u s2 x y H2 I2 rx ry q=>ho pins s2 σ H2 x y v u Q I2 rx ry q)
theorem zo7{op:UnaryOp}{r:V->Hp->VK->Prop}(ho:UnR X (unaryOp op) r)(ha:PE X a ta):PE X (.UnaryOp op a pos) (tUn r ta):=by
 intro pins s σ H Q I h;exact UnaryOp_ (thn (ha pins s σ H _ I h) λv s1 ⟨x,H1,I1,r1,q1⟩=>ho pins s1 σ H1 x v Q I1 r1 q1)
theorem opI{f:Value->Value->Sem Value}{C:Int->Int->Prop}{g:Int->Int->Int}
  (rule:∀(i j:Int) (t u:Tok) (s:Shared) (Q:Value->Shared->Prop) (E:Value->Shared->Prop),C i j->Q (.int (g i j) s.toks) { s with toks:=s.toks+1 }->wpAny (model X.prog X.w) X.A (f (.int i t) (.int j u)) Q E s) :
  OpR X f (rI C λi j=>.int (g i j)):=by
 intro pins s σ H x y v u Q I rx ry h;obtain⟨i,j,rfl,rfl,hc,q⟩:=h;obtain⟨t,rfl⟩:=rx;obtain⟨t',rfl⟩:=ry;exact rule i j t t' s _ _ hc ⟨.int (g i j),H,I.tok _,⟨_,rfl⟩,q⟩
theorem opI0{f:Value->Value->Sem Value}{g:Int->Int->Int}
  (rule:∀(i j:Int) (t u:Tok) (s:Shared) (Q:Value->Shared->Prop) (E:Value->Shared->Prop),Q (.int (g i j) s.toks) { s with toks:=s.toks+1 }->wpAny (model X.prog X.w) X.A (f (.int i t) (.int j u)) Q E s) :
  OpR X f (rI0 λi j=>.int (g i j)):=by
 intro pins s σ H x y v u Q I rx ry h;obtain⟨i,j,rfl,rfl,q⟩:=h;obtain⟨t,rfl⟩:=rx;obtain⟨t',rfl⟩:=ry;exact rule i j t t' s _ _ ⟨.int (g i j),H,I.tok _,⟨_,rfl⟩,q⟩
theorem opB0{f:Value->Value->Sem Value}{g:Int->Int->Bool}
  (rule:∀(i j:Int) (t u:Tok) (s:Shared) (Q:Value->Shared->Prop) (E:Value->Shared->Prop),Q (.bool (g i j)) s->wpAny (model X.prog X.w) X.A (f (.int i t) (.int j u)) Q E s) :
  OpR X f (rI0 λi j=>.bl (g i j)):=by
 intro pins s σ H x y v u Q I rx ry h;obtain⟨i,j,rfl,rfl,q⟩:=h;obtain⟨t,rfl⟩:=rx;obtain⟨t',rfl⟩:=ry;exact rule i j t t' s _ _ ⟨.bl (g i j),H,I,rfl,q⟩
def CDiv(i j:Int):Prop:=0<j/\j<1073741824
def CDivN(i j:Int):Prop:=j≠0/\j.natAbs<1073741824
def CPow(i j:Int):Prop:=0<=j/\j<=1000000/\i.natAbs<2^64
def CMul(i j:Int):Prop:=(-(2^64)<i/\i<2^64)\/(-(2^64)<j/\j<2^64)
theorem CMul.ok{i j:Int}(h:CMul i j):IntMulOk i j:=by
 rcases h with⟨h1,h2⟩ | ⟨h1,h2⟩
 ·exact .of_left (intBits_le_64 h1 h2)
 ·exact .of_right (intBits_le_64 h1 h2)
theorem zb2:OpR X (binaryOp .Add) (rI0 λi j=>.int (i+j)):=opI0 λ_ _ _ _ _ _ _ q=>add_int q
theorem zkf:OpR X (binaryOp .Sub) (rI0 λi j=>.int (i-j)):=opI0 λ_ _ _ _ _ _ _ q=>sub_int q
theorem zhn:OpR X (binaryOp .Mult) (rI CMul λi j=>.int (i*j)):=opI λ_ _ _ _ _ _ _ hc q=>mul_int q hc.ok
theorem zbc:OpR X (binaryOp .FloorDiv) (rI CDiv λi j=>.int (i / j)):=opI λi j _ _ _ _ _ hc q=>by
 have h1:(0:Int)<j:=hc.1;have h2:j<1073741824:=hc.2;exact floordiv_int (by omega) (by rw[Int.fdiv_eq_ediv_of_nonneg i (by omega)];exact q) (.inl (PyProof.noPylong_small (by omega)))
theorem zqb:OpR X (binaryOp .FloorDiv) (rI CDivN λi j=>.int (i.fdiv j)):=opI λ_ _ _ _ _ _ _ hc q=>floordiv_int hc.1 q (.inl (PyProof.noPylong_small hc.2))
theorem zaz:OpR X (binaryOp .Mod) (rI (λ_ j=>0<j) λi j=>.int (i%j)):=opI λi j _ _ _ _ _ hc q=>by
 have h1:(0:Int)<j:=hc;exact mod_int' (by omega) (by rw[Int.fmod_eq_emod_of_nonneg i (by omega)];exact q)
theorem zfx:OpR X (binaryOp .Mod) (rI (λ_ j=>j≠0) λi j=>.int (i.fmod j)):=opI λ_ _ _ _ _ _ _ hc q=>mod_int' hc q
theorem zn6:OpR X (binaryOp .Pow) (rI CPow λi j=>.int (i^j.toNat)):=opI λ_ _ _ _ _ _ _ hc q=>pow_int_small hc.1 hc.2.1 hc.2.2 q
theorem unI{f:Value->Sem Value}{g:Int->Int}
  (rule:∀(i:Int) (t:Tok) (s:Shared) (Q:Value->Shared->Prop) (E:Value->Shared->Prop),Q (.int (g i) s.toks) { s with toks:=s.toks+1 }->wpAny (model X.prog X.w) X.A (f (.int i t)) Q E s) :
  UnR X f (rU λi=>.int (g i)):=by
 intro pins s σ H x v Q I rx h;obtain⟨i,rfl,q⟩:=h;obtain⟨t,rfl⟩:=rx;exact rule i t s _ _ ⟨.int (g i),H,I.tok _,⟨_,rfl⟩,q⟩
theorem zjt:UnR X (unaryOp .USub) (rU λi=>.int (-i)):=unI λ_ _ _ _ _ q=>neg_int q
end
def scal:V->V->Bool
 | .non,.non=>true | .non,.int _=>true | .int _,.non=>true | .non,.bl _=>true | .bl _,.non=>true | .non,.str _=>true | .str _,.non=>true
 | .int _,.int _=>true | .bl _,.bl _=>true | .str _,.str _=>true | .byt _,.byt _=>true
 | .int _,.str _=>true | .str _,.int _=>true | .bl _,.str _=>true | .str _,.bl _=>true
 | _,_=>false
def rEq:R2:=λx y H Q=>scal x y=true/\Q (.bl (decide (x=y))) H
def rNe:R2:=λx y H Q=>scal x y=true/\Q (.bl (!decide (x=y))) H
theorem zmx{i j:Int}:decide (V.int i=V.int j)=(i == j):=by
 rw[Bool.eq_iff_iff];simp
theorem zqh{i j:Bool}:decide (V.bl i=V.bl j)=(i == j):=by
 rw[Bool.eq_iff_iff];simp
theorem zmo{i j:Str}:decide (V.str i=V.str j)=(i == j):=by
 rw[Bool.eq_iff_iff];simp
theorem zlw{i j:Array UInt8}:decide (V.byt i=V.byt j)=(i.toList == j.toList):=by
 rw[Bool.eq_iff_iff]
 cases i
 cases j;simp
section
variable{X:Cx}{a b c:Expr}{ta tb tc:TE}{pos:Pos}
theorem za7{pins:List (Addr×Obj)}{σ : St}{H:Hp}{s:Shared}{Q:VK}{k k':Bool}(I:Inv X pins σ H s)(q:Q (.bl k) H)(e:k=k'):EP X pins σ Q (.bool k') s:=by
 subst e;exact⟨.bl k,H,I,Z,q⟩
theorem zbi:OpR X (compareOp .Eq) rEq:=by
 intro pins s σ H x y v u Q I rx ry h;obtain⟨hs,q⟩:=h
 cases x with
 | non=>
  cases rx
  cases y with
  | non=>cases ry;exact PySem.EqNone.eq_none_none (za7 I q (by simp))
  | bl j=>cases ry;exact PySem.EqNone.eq_none_bool (za7 I q (by simp))
  | int j=>obtain⟨t',rfl⟩:=ry;exact PySem.EqNone.eq_none_int (za7 I q (by simp))
  | str j=>obtain⟨t',rfl⟩:=ry;exact PySem.EqNone.eq_none_str (za7 I q (by simp))
  | _=>exact absurd (show false=true from hs) Yt
 | bl i=>
  cases rx
  cases y with
  | non=>cases ry;exact PySem.EqNone.eq_bool_none (za7 I q (by simp))
  | bl j=>cases ry;exact eq_bool (za7 I q zqh)
  | str j=>obtain⟨t',rfl⟩:=ry;exact PySem.EqMixed.eq_bool_str (za7 I q (by simp))
  | _=>exact absurd (show false=true from hs) Yt
 | int i=>
  obtain⟨t,rfl⟩:=rx
  cases y with
  | non=>cases ry;exact PySem.EqNone.eq_int_none (za7 I q (by simp))
  | int j=>obtain⟨t',rfl⟩:=ry;exact eq_int (za7 I q zmx)
  | str j=>obtain⟨t',rfl⟩:=ry;exact PySem.EqMixed.eq_int_str (za7 I q (by simp))
  | _=>exact absurd (show false=true from hs) Yt
 | str i=>
  obtain⟨t,rfl⟩:=rx
  cases y with
  | non=>cases ry;exact PySem.EqNone.eq_str_none (za7 I q (by simp))
  | bl j=>cases ry;exact PySem.EqMixed.eq_str_bool (za7 I q (by simp))
  | int j=>obtain⟨t',rfl⟩:=ry;exact PySem.EqMixed.eq_str_int (za7 I q (by simp))
  | str j=>obtain⟨t',rfl⟩:=ry;exact eq_str (za7 I q zmo)
  | _=>exact absurd (show false=true from hs) Yt
 | byt i=>
  obtain⟨t,rfl⟩:=rx
  cases y with
  | byt j=>obtain⟨t',rfl⟩:=ry;exact W.eq_bytes (za7 I q zlw)
  | _=>exact absurd (show false=true from hs) Yt
 | _=>cases y <;> exact absurd (show false=true from hs) Yt
theorem zla:OpR X (compareOp .NotEq) rNe:=by
 intro pins s σ H x y v u Q I rx ry h;obtain⟨hs,q⟩:=h
 cases x with
 | non=>
  cases rx
  cases y with
  | non=>cases ry;exact PySem.EqNone.ne_none_none (za7 I q (by simp))
  | bl j=>cases ry;exact PySem.EqNone.ne_none_bool (za7 I q (by simp))
  | int j=>obtain⟨t',rfl⟩:=ry;exact PySem.EqNone.ne_none_int (za7 I q (by simp))
  | str j=>obtain⟨t',rfl⟩:=ry;exact PySem.EqNone.ne_none_str (za7 I q (by simp))
  | _=>exact absurd (show false=true from hs) Yt
 | bl i=>
  cases rx
  cases y with
  | non=>cases ry;exact PySem.EqNone.ne_bool_none (za7 I q (by simp))
  | bl j=>cases ry;exact ne_bool (za7 I q (Js not zqh))
  | str j=>obtain⟨t',rfl⟩:=ry;exact PySem.EqMixed.ne_bool_str (za7 I q (by simp))
  | _=>exact absurd (show false=true from hs) Yt
 | int i=>
  obtain⟨t,rfl⟩:=rx
  cases y with
  | non=>cases ry;exact PySem.EqNone.ne_int_none (za7 I q (by simp))
  | int j=>obtain⟨t',rfl⟩:=ry;exact ne_int (za7 I q (Js not zmx))
  | str j=>obtain⟨t',rfl⟩:=ry;exact PySem.EqMixed.ne_int_str (za7 I q (by simp))
  | _=>exact absurd (show false=true from hs) Yt
 | str i=>
  obtain⟨t,rfl⟩:=rx
  cases y with
  | non=>cases ry;exact PySem.EqNone.ne_str_none (za7 I q (by simp))
  | bl j=>cases ry;exact PySem.EqMixed.ne_str_bool (za7 I q (by simp))
  | int j=>obtain⟨t',rfl⟩:=ry;exact PySem.EqMixed.ne_str_int (za7 I q (by simp))
  | str j=>obtain⟨t',rfl⟩:=ry;exact ne_str (za7 I q (Js not zmo))
  | _=>exact absurd (show false=true from hs) Yt
 | byt i=>
  obtain⟨t,rfl⟩:=rx
  cases y with
  | byt j=>obtain⟨t',rfl⟩:=ry;exact W.ne_bytes (za7 I q (Js not zlw))
  | _=>exact absurd (show false=true from hs) Yt
 | _=>cases y <;> exact absurd (show false=true from hs) Yt
theorem zfy:OpR X (compareOp .Lt) (rI0 λi j=>.bl (decide (i<j))):=opB0 λ_ _ _ _ _ _ _ q=>lt_int q
theorem zpi:OpR X (compareOp .LtE) (rI0 λi j=>.bl (decide (i<=j))):=opB0 λ_ _ _ _ _ _ _ q=>le_int q
theorem zg7:OpR X (compareOp .Gt) (rI0 λi j=>.bl (decide (j<i))):=opB0 λ_ _ _ _ _ _ _ q=>gt_int q
theorem zcs:OpR X (compareOp .In) (λx y H Q=>∃i j,x=.str i/\y=.str j/\Q (.bl (!(Builtin.Str.occurrences j i 0 j.length 1).isEmpty)) H):=by
 intro pins s σ H x y v u Q I rx ry h;obtain⟨i,j,rfl,rfl,q⟩:=h;obtain⟨t,rfl⟩:=rx;obtain⟨t',rfl⟩:=ry;exact in_str (za7 I q rfl)
theorem zwj:OpR X (compareOp .Is) (λx y H Q=>y=.non/\Q (.bl (decide (x=.non))) H):=by
 intro pins s σ H x y v u Q I rx ry h;obtain⟨rfl,q⟩:=h
 cases ry;refine is_none_gen (za7 I q ?_)
 cases x <;> first
  | (cases rx;rfl)
  | (obtain⟨t,rfl⟩:=rx;rfl)
theorem zhq:OpR X (compareOp .NotIn) (λx y H Q=>∃i j,x=.str i/\y=.str j/\Q (.bl (!(!(Builtin.Str.occurrences j i 0 j.length 1).isEmpty))) H):=by
 intro pins s σ H x y v u Q I rx ry h;obtain⟨i,j,rfl,rfl,q⟩:=h;obtain⟨t,rfl⟩:=rx;obtain⟨t',rfl⟩:=ry;exact notIn_str (za7 I q rfl)
theorem nomark(b:Expr){op:CmpOp}(h:op≠.In:=by decide)(h2:op≠.NotIn:=by decide):behindInMarks op b=false:=by
 have e1:(op == CmpOp.In)=false:=by cases op <;> first | rfl | exact absurd rfl h
 have e2:(op == CmpOp.NotIn)=false:=by cases op <;> first | rfl | exact absurd rfl h2
 cases b <;> simp[behindInMarks,e1,e2]
theorem zdp{op:CmpOp}{r:R2}(ho:OpR X (compareOp op) r)(ha:PE X a ta)(hb:PE X b tb)(hm:behindInMarks op b=false):PE X (.Compare a [op] [b] pos) (tOp r ta tb):=by
 intro pins s σ H Q I h;exact wpAny_Compare1 (binT ha hb I h λv u s2 x y H2 I2 rx ry q=>ho pins s2 σ H2 x y v u Q I2 rx ry q) hm
def zr9(t:TE):TT:=λσ H Q=>t σ H λx H'=>∃k,x=.bl k/\Q k H'
theorem zan{op:CmpOp}{r:R2}(ho:OpR X (compareOp op) r)(ha:PE X a ta)(hb:PE X b tb)(hm:behindInMarks op b=false):PT X (.Compare a [op] [b] pos) (zr9 (tOp r ta tb)):=by
 intro pins s σ H Q I h;refine wpAny_isTrue_Compare1 (thn (ha pins s σ H _ I h) λv s1 ⟨x,H1,I1,r1,q1⟩=>thn (hb pins s1 σ H1 _ I1 q1) λu s2 ⟨y,H2,I2,r2,q2⟩=>
  thn (ho pins s2 σ H2 x y v u _ I2 r1 r2 q2) λc s3 ⟨z,H3,I3,r3,k,e,q3⟩=>?_) hm
 subst e
 cases r3;exact Jo ⟨H3,I3,q3⟩
def zxg(r r':R2)(ta tb tc:TE):TE:=λσ H Q=>ta σ H λx H1=>tb σ H1 λy H2=>r x y H2 λz H3=>∃k,z=.bl k /\
 (if k=true then tc σ H3 λw' H4=>r' y w' H4 Q else Q (.bl false) H3)
theorem zov{op op':CmpOp}{r r':R2}(ho:OpR X (compareOp op) r)(ho':OpR X (compareOp op') r')(ha:PE X a ta)(hb:PE X b tb)(hc:PE X c tc)
  (hm:lastMarks [op,op'] [b,c]=false:=by with_unfolding_all rfl):PE X (.Compare a [op,op'] [b,c] pos) (zxg r r' ta tb tc):=by
 intro pins s σ H Q I h;refine Compare_chain (thn (ha pins s σ H _ I h) λv s1 ⟨x,H1,I1,r1,q1⟩=>chain_link (thn (hb pins s1 σ H1 _ I1 q1) λu s2 ⟨y,H2,I2,r2,q2⟩=>
  thn (ho pins s2 σ H2 x y v u _ I2 r1 r2 q2) λd s3 ⟨z,H3,I3,r3,k,e,q3⟩=>?_)) hm
 subst e
 cases r3;refine Jo ?_
 cases k with
 | false=>exact ite_ff ⟨.bl false,H3,I3,rfl,q3⟩
 | true=>exact ite_tt (chain_last (thn (hc pins s3 σ H3 _ I3 q3) λw' s4 ⟨z',H4,I4,r4,q4⟩=>ho' pins s4 σ H4 y z' u w' Q I4 r2 r4 q4))
theorem zh9:(sizeLine:Nat)<2^63:=by rw[sizeLine_eq];decide
theorem zay:OpR X (binaryOp .Add) (λx y H Q=>∃i j,x=.str i/\y=.str j/\i.length+j.length<=sizeLine/\Q (.str (i++j)) H):=by
 intro pins s σ H x y v u Q I rx ry h;obtain⟨i,j,rfl,rfl,hz,q⟩:=h;obtain⟨t,rfl⟩:=rx;obtain⟨t',rfl⟩:=ry;exact add_str (λt' tk=>⟨.str (i++j),H,I.tok _,⟨_,rfl⟩,q⟩) hz
theorem zgh{x:V}{us:List Value}(r:Vals [x] us):∃u,us=[u]/\RelV x u:=by
 cases r with
 | cons r1 r2=>cases r2;exact⟨_,rfl,r1⟩
theorem zyt{x y:V}{us:List Value}(r:Vals [x,y] us):∃u w',us=[u,w']/\RelV x u/\RelV y w':=by
 cases r with
 | cons r1 r2=>
  cases r2 with
  | cons r3 r4=>cases r4;exact⟨_,_,rfl,r1,r3⟩
theorem zeu:CallR X (.builtin "abs") (λxs H Q=>∃i,xs=[.int i]/\Q (.int (if i<0 then -i else i)) H):=by
 intro pins s σ H xs us Q I r h;obtain⟨i,rfl,q⟩:=h;obtain⟨u,rfl,t,rfl⟩:=zgh r;exact call_abs_int λu tk=>⟨.int (if i<0 then -i else i),H,I.tok _,⟨_,rfl⟩,q⟩
theorem zns(hc:X.calm=true):CallR X (.builtin "max") (λxs H Q=>∃i j,xs=[.int i,.int j]/\Q (.int (if j > i then j else i)) H):=by
 intro pins s σ H xs us Q I r h;obtain⟨i,j,rfl,q⟩:=h;obtain⟨u,w',rfl,⟨t,rfl⟩,⟨t',rfl⟩⟩:=zyt r;refine max_two_ints (I.ok.hd hc) λh' tk k=>⟨_,H,I.kept k,?_,q⟩
 by_cases hj:j > i
 ·rw[Yl hj,Yl hj];exact⟨_,Z⟩
 ·rw[Yh hj,Yh hj];exact⟨_,Z⟩
theorem zh7:CallR X (.type "int") (λxs H Q=>(∃i,xs=[.int i]/\Q (.int i) H)\/∃k,xs=[.bl k]/\Q (.int (if k then 1 else 0)) H):=by
 intro pins s σ H xs us Q I r h;rcases h with⟨i,rfl,q⟩ | ⟨k,rfl,q⟩
 ·obtain⟨u,rfl,t,rfl⟩:=zgh r;exact call_int_int ⟨.int i,H,I,⟨_,Z⟩,q⟩
 ·obtain⟨u,rfl,r1⟩:=zgh r
  cases r1;exact call_int_bool ⟨.int (if k then 1 else 0),H,I.tok _,⟨_,Z⟩,q⟩
theorem zbs:CallR X (.type "str") (λxs H Q=>∃i,xs=[.int i]/\i.natAbs.log2<1920/\Q (.str (toString i)) H):=by
 intro pins s σ H xs us Q I r h;obtain⟨i,rfl,hz,q⟩:=h;obtain⟨u,rfl,t,rfl⟩:=zgh r;exact PySem.P.str_of_int hz ⟨.str _,H,I.tok _,⟨_,rfl⟩,q⟩
end
structure ObjM(h:Heap)(x dx C:Addr)(mA:Str->Option Value):Prop where
 obj:h.get? x=some (W.instObj C dx)
 ns:h.Ns1 dx mA
 ne:dx≠x
theorem zl3{h:Heap}{dx:Addr}{mA:Str->Option Value}(n:h.Ns1 dx mA):∃od,h.get? dx=some od/\∀name,W.lookIn name od=some (mA name):=by
 obtain⟨o,es,ep,ho,hd,hk,_,hm⟩:=n;refine⟨o,ho,λname=>?_⟩;have e:=hm name;unfold nsFind findBy at e;rw[<- Array.find?_toList]at e;unfold W.lookIn;rw[hd];dsimp only;split
 ·rename_i y q
  rw[q]at e;exact Js some e
 ·rename_i q
  rw[q]at e;have a:es.toList.any (·.refKey)=false:=by
   rw[List.any_eq_false];intro y hy;obtain⟨z,t,hkey⟩:=hk y (Array.mem_toList_iff.mp hy);simp[DictEntry.refKey,hkey]
  have a':¬es.toList.any (·.refKey)=true:=by rw[a];exact Yt
  rw[Yh a'];exact Js some e
theorem ObjM.look{h:Heap}{x dx C:Addr}{mA:Str->Option Value}(I:ObjM h x dx C mA):∃od,W.InstAt h x (W.instObj C dx) C (some od)/\∀name,W.lookIn name od=some (mA name):=
 let ⟨od,ho,hl⟩:=zl3 I.ns
 ⟨od,⟨I.obj,Z,Z,ho⟩,hl⟩
section
variable{prog:Program}{w:World}{A:Around}{E:Value->Shared->Prop}{s:Shared}{K:W.Frag}{x dx C f:Addr}{mA:Str->Option Value}{name:Str}{v:Value}
theorem ztm{expr:Bool}{Q:Value->Shared->Prop}(X:K.In s.heap)(I:ObjM s.heap x dx C mA)(hg:W.plainGet K C name=true)(hh:W.hasDictIn K C=true)
  (ha:W.findIn K (.ref C) name=some none) (hv:mA name=some v) (hv':W.handedIn v=true) (h:Q v { s with toks:=s.toks+1 }) :
  wpAny (model prog w) A (getAttr (.ref x) name expr) Q E s:=by
 obtain⟨od,J,hl⟩:=I.look;exact W.get_value X J (W.plainGet_of hg).1 (W.findObj_own hh ha rfl (by rw[hl,hv])) hv' h
theorem zpb{pl:Sem Bool}{Q:Value×List Value->Shared->Prop}(X:K.In s.heap)(I:ObjM s.heap x dx C mA)(hg:W.plainGet K C name=true)
  (hf:W.findIn K (.ref C) name=some (some (.ref f))) (ht:W.isFn K (.ref f)=true) (hv:mA name=none) (h:Q (.ref f,[.ref x]) s) :
  wpAny (model prog w) A (getMethod (.ref x) name pl) Q E s:=by
 obtain⟨od,J,hl⟩:=I.look;exact W.method_fn X J (W.plainGet_of hg).1 (W.plainGet_of hg).2 hf (beq_iff_eq.mp ht) (by show (W.lookIn name od).map (·.isSome)=some false;rw[hl,hv];rfl) h
theorem zm7{ns:List Str}{Q:Unit->Shared->Prop}(X:K.In s.heap)(I:ObjM s.heap x dx C mA)
  (hs:W.findIn K (.ref C) "__setattr__" = some (some (.builtin "object.__setattr__"))) (hp:W.plainOver K C=true) (ht:W.takerIn K C name=some none) (hh:W.hasDictIn K C=true)
  (hw:PySem.Within mA ns) (hsz:ns.length<=sizeLine)
  (h:∀h',ObjM h' x dx C (λy=>if y=name then some v else mA y)->Heap.SameBut dx s.heap h'->Q () { s with heap:=h',toks:=s.toks+2 }) :
  wpAny (model prog w) A (setAttr (.ref x) name v) Q E s:=by
 obtain⟨od,J,hl⟩:=I.look;refine W.set_plain X J hs (W.osa_open (s:={ s with toks:=s.toks+1 }) (r:=none) X J hp ht λb=>?_);obtain⟨cd,hc,hd'⟩:=W.any_some hh;have hx:s.heap.get? x=some ⟨.ref C,some dx,.plain,#[]⟩:=I.obj;refine Ya (Yb (Ya (Ya (wpAny_loadPart hx (Ya (W.Looks.here (s:={ s with toks:=s.toks+1 }) (W.looks_clsIn X hc) ?_))))));rw[hd'];refine Yb (a:=some dx) (Ya (Yb (Ya ?_)));refine wpAny_nsSet1 (s:={ s with toks:=s.toks+1 }) I.ns λh' hn2 hs2=>?_
 obtain⟨oD,esD,epD,hoD,hdD,hcD⟩:=hn2.count (PySem.Within.cons name v hw);refine Ya (wpAny_lookBehind hoD (by rw[hdD];exact pastItsLine_dict (Yr hcD (by rw[Y5];omega))) ?_);exact Yb (h _ ⟨(hs2.2 _ (Jc I.ne)).trans I.obj,hn2,I.ne⟩ hs2)
theorem zpo{R:Result->Shared->Prop}{vs:List Value}{kw:List (Str×Value)}(X:K.In s.heap)(hm:W.makesIn K C=true)
  (hi:W.findIn K (.ref C) "__init__" = some (some (.ref f))) (hf:W.typeIn K (.ref f)=some (.type "function"))
  (h:codeAny (model prog w) (A.under (.builtin "type.__call__" ⟨.ref C::vs,kw⟩)) (.call (.ref f) ⟨.ref (s.heap.objs.size+1)::vs,kw⟩) (W.InitBack (s.heap.objs.size+1) R)
   { s with heap:=(s.heap.push W.emptyDict).push (W.instObj C s.heap.objs.size) }) :
  codeAny (model prog w) A (.call (.ref C) ⟨vs,kw⟩) R s:=by
 obtain⟨hh,g,d,t,os⟩:=s;exact W.make_core (W.makes_of X hm) (W.looks_findIn X hi) (λself=>W.bind_fn X self hf) (.inl rfl) h
theorem zmw{R:Result->Shared->Prop}(X:K.In s.heap)(hm:W.makesIn K C=true)
  (hi:W.findIn K (.ref C) "__init__" = some (some (.builtin "object.__init__")))
  (hb:∀self,W.Looks (model prog w) s.heap (bindSpecial (.builtin "object.__init__") self) (.builtin "object.__init__",[self]))
  (h:codeAny (model prog w) (A.under (.builtin "type.__call__" ⟨[.ref C],[]⟩)) (.call (.builtin "object.__init__") ⟨[.ref (s.heap.objs.size+1)],[]⟩) (W.InitBack (s.heap.objs.size+1) R)
   { s with heap:=(s.heap.push W.emptyDict).push (W.instObj C s.heap.objs.size) }) :
  codeAny (model prog w) A (.call (.ref C) ⟨[],[]⟩) R s:=by
 obtain⟨hh,g,d,t,os⟩:=s;exact W.make_core (W.makes_of X hm) (W.looks_findIn X hi) hb (.inr ⟨Z,Z⟩) h
end
def putF(f:Str)(v:V):List (Str×V)->List (Str×V)
 | []=>[(f,v)]
 | (g,x)::r=>if g=f then(g,v)::r else(g,x)::putF f v r
theorem zee(f g:Str)(v:V):∀fs:List (Str×V),(putF f v fs).lookup g=if g=f then some v else fs.lookup g
 | []=>by
  show List.lookup g [(f,v)]=_;by_cases h:g=f
  ·have hb:(g == f)=true:=beq_iff_eq.mpr h;simp only[List.lookup,hb,if_pos h]
  ·have hb:(g == f)=false:=beq_eq_false_iff_ne.mpr h;simp only[List.lookup,hb,if_neg h]
 | (k,x)::r=>by
  have ih:=zee f g v r;rw[show putF f v ((k,x)::r)=(if k=f then(k,v)::r else(k,x)::putF f v r) from rfl];by_cases hk:k=f
  ·rw[Yl hk];by_cases h:g=k
   ·have hb:(g == k)=true:=beq_iff_eq.mpr h;simp only[List.lookup,hb,if_pos (h.trans hk)]
   ·have hb:(g == k)=false:=beq_eq_false_iff_ne.mpr h;simp only[List.lookup,hb,if_neg (λe:g=f=>h (e.trans hk.symm))]
  ·rw[Yh hk];by_cases h:g=k
   ·have hb:(g == k)=true:=beq_iff_eq.mpr h;simp only[List.lookup,hb,if_neg (λe:g=f=>hk (h.symm.trans e))]
   ·have hb:(g == k)=false:=beq_eq_false_iff_ne.mpr h;simp only[List.lookup,hb];exact ih
theorem zdm(f:Str)(v:V):∀fs:List (Str×V),f∈(putF f v fs).map (·.1)/\∀g,g∈fs.map (·.1)->g∈(putF f v fs).map (·.1)
 | []=>⟨by simp[putF],λg h=>by simp at h⟩
 | (k,x)::r=>by
  obtain⟨i1,i2⟩:=zdm f v r;rw[show putF f v ((k,x)::r)=(if k=f then(k,v)::r else(k,x)::putF f v r) from rfl];by_cases hk:k=f
  ·rw[Yl hk];subst hk;exact⟨by simp,λg h=>by simpa using h⟩
  ·rw[Yh hk];refine⟨?_,λg h=>?_⟩
   ·rw[Yz];exact List.mem_cons_of_mem _ i1
   ·rw[Yz]at h ⊢;rcases Yj.mp h with e | e
    ·exact Yj.mpr (.inl e)
    ·exact List.mem_cons_of_mem _ (i2 g e)
theorem zd8(f:Str)(v:V):∀fs:List (Str×V),(putF f v fs).length<=fs.length+1
 | []=>by simp[putF]
 | (k,x)::r=>by
  have ih:=zd8 f v r;rw[show putF f v ((k,x)::r)=(if k=f then(k,v)::r else(k,x)::putF f v r) from rfl];by_cases hk:k=f
  ·rw[Yl hk,Y5,Y5];omega
  ·rw[Yh hk,Y5,Y5];omega
theorem RelO.some_of{v:V}{o:Option Value}(r:RelO (some v) o):∃u,o=some u/\RelV v u:=by
 cases o with
 | none=>exact(show False from r).elim
 | some u=>exact⟨u,rfl,r⟩
theorem RelO.none_of{o:Option Value}(r:RelO none o):o=none:=by
 cases o with
 | none=>rfl
 | some u=>exact(show False from r).elim
theorem zmz{v:V}{u:Value}(r:RelV v u):W.handedIn u=true:=by
 cases v with
 | non=>cases (show u=Value.none from r);rfl
 | bl b=>cases (show u=Value.bool b from r);rfl
 | int i=>obtain⟨t,e⟩:=(show ∃t,u=Value.int i t from r);cases e;rfl
 | str x=>obtain⟨t,e⟩:=(show ∃t,u=Value.str x t from r);cases e;rfl
 | byt b=>obtain⟨t,e⟩:=(show ∃t,u=Value.bytes b t from r);cases e;rfl
 | flt b=>obtain⟨t,e⟩:=(show ∃t,u=Value.float b t from r);cases e;rfl
 | ref a=>cases (show u=Value.ref a from r);rfl
 | ty n=>cases (show u=Value.type n from r);rfl
section
variable{P:Program}{w:World}{H H':Hp}{h h':Heap}{a C dx:Addr}{fs fs':List (Str×V)}
theorem zfe(hok:HOk P w H h)(e:H a=some (.ins C dx fs)):∃mA,ObjM h a dx C mA/\(∀f,RelO (fs.lookup f) (mA f))/\PySem.Within mA (fs.map (·.1))/\fs.length<=1000/\H dx=some (.own a):=by
 obtain⟨d,z,ne,ob,mA,n,r,q⟩:=(show ObjOk P w H h a (.ins C dx fs) from hok a _ e);exact⟨mA,⟨ob,n,ne⟩,r,q,z,d⟩
end
structure Cls(K:W.Frag)(C:Addr):Prop where
 pg:W.plainGet K C Str.empty=true
 hd:W.hasDictIn K C=true
 po:W.plainOver K C=true
 sa:W.findIn K (.ref C) "__setattr__" = some (some (.builtin "object.__setattr__"))
theorem Cls.get{K:W.Frag}{C:Addr}(c:Cls K C)(f:Str):W.plainGet K C f=true:=c.pg
def NoAttr(K:W.Frag)(C:Addr)(f:Str):Prop:=W.findIn K (.ref C) f=some none
theorem NoAttr.taker{K:W.Frag}{C:Addr}{f:Str}(n:NoAttr K C f):W.takerIn K C f=some none:=by
 unfold W.takerIn;rw[show W.findIn K (.ref C) f=some none from n];rfl
structure Meth(K:W.Frag)(C:Addr)(m:Str)(f:Addr):Prop where
 at_:W.findIn K (.ref C) m=some (some (.ref f))
 fn:W.isFn K (.ref f)=true
 kp:W.keepIn K (.ref f)=true
section
variable{X:Cx}{pins:List (Addr×Obj)}{σ : St}{H:Hp}{s:Shared}{a C dx:Addr}{fs:List (Str×V)}{f:Str}{v:V}{A:Around}{E:Value->Shared->Prop}
theorem zf6{b:Bool}{Q:Value->Shared->Prop}(I:Inv X pins σ H s)(e:H a=some (.ins C dx fs))(c:Cls X.K C)(n:NoAttr X.K C f)(l:fs.lookup f=some v)
  (h:∀u s',Inv X pins σ H s'->RelV v u->Q u s'):wpAny (model X.prog X.w) A (getAttr (.ref a) f b) Q E s:=by
 obtain⟨mA,O,r,_,_,_⟩:=zfe I.hok e;obtain⟨u,hu,ru⟩:=RelO.some_of (v:=v) (o:=mA f) (by rw[<- l];exact r f);exact ztm I.kIn O (c.get f) c.hd n hu (zmz ru) (h u _ (I.tok _) ru)
theorem zf7{m:Str}{g:Addr}{pl:Sem Bool}{Q:Value×List Value->Shared->Prop}(I:Inv X pins σ H s)(e:H a=some (.ins C dx fs))(c:Cls X.K C)(k:Meth X.K C m g)(l:fs.lookup m=none)
  (h:Q (.ref g,[.ref a]) s):wpAny (model X.prog X.w) A (getMethod (.ref a) m pl) Q E s:=by
 obtain⟨mA,O,r,_,_,_⟩:=zfe I.hok e;have hn:mA m=none:=RelO.none_of (by rw[<- l];exact r m);exact zpb I.kIn O (c.get m) k.at_ k.fn hn h
theorem ze0{y:V}{u:Value}{Q:Unit->Shared->Prop}(I:Inv X pins σ H s)(e:H a=some (.ins C dx fs))(c:Cls X.K C)(n:NoAttr X.K C f)(hl:fs.length<1000)(ry:RelV y u)
  (h:∀s',Inv X pins σ (upd H a (.ins C dx (putF f y fs))) s'->Q () s'):wpAny (model X.prog X.w) A (setAttr (.ref a) f u) Q E s:=by
 obtain⟨mA,O,r,wi,_,ho⟩:=zfe I.hok e;have hz:(fs.map (·.1)).length<=sizeLine:=by rw[Yd,sizeLine_eq];omega
 refine zm7 I.kIn O c.sa c.po n.taker c.hd wi hz λh' O' sb=>h _ ?_
 have hd:∃o,h'.get? dx=some o:=let ⟨o,_,_,e',_⟩:=O'.ns;⟨o,e'⟩;refine I.write (x:=a) (e:=dx) (by rw[e];exact True.intro) (.inr ho) (λb q hb z=>(sb.2 b hb).trans z) hd ?_;refine⟨by rw[zar O.ne];exact ho,?_,O.ne,O'.obj,_,O'.ns,λg=>?_,λg hg=>?_⟩
 ·have:=zd8 f y fs;omega
 ·show RelO ((putF f y fs).lookup g) (if g=f then some u else mA g);rw[zee];by_cases q:g=f
  ·rw[Yl q,Yl q];exact ry
  ·rw[Yh q,Yh q];exact r g
 ·by_cases q:g=f
  ·rw[q];exact(zdm f y fs).1
  ·refine(zdm f y fs).2 g (wi g λz=>hg ?_);show (if g=f then some u else mA g)=none;rw[Yh q];exact z
theorem Inv.made(I:Inv X pins σ H s):Inv X pins σ (upd (upd H s.heap.objs.size (.own (s.heap.objs.size+1))) (s.heap.objs.size+1) (.ins C s.heap.objs.size []))
  { s with heap:=(s.heap.push W.emptyDict).push (W.instObj C s.heap.objs.size) }:=by
 have e1:(s.heap.push W.emptyDict).get? s.heap.objs.size=some W.emptyDict:=Yk s.heap rfl;have e2:((s.heap.push W.emptyDict).push (W.instObj C s.heap.objs.size)).get? (s.heap.objs.size+1)=some (W.instObj C s.heap.objs.size):=by
  have:=Yk (s.heap.push W.emptyDict) (o:=W.instObj C s.heap.objs.size) rfl;rwa [Heap.size_push]at this
 have e3:(s.heap.push W.emptyDict).Ns s.heap.objs.size (λ_=>none):=⟨W.emptyDict,#[],_,e1,Z,(λe he=>absurd he (by simp)),λ_=>Z⟩;have I1:=I.laid (a:=s.heap.objs.size) (o:=.own (s.heap.objs.size+1)) (h':=s.heap.push W.emptyDict) (t':=s.toks) (λb u q=>Ye _ q) (Yi _) ⟨_,e1⟩;refine I1.laid (a:=s.heap.objs.size+1) (o:=.ins C s.heap.objs.size []) (t':=s.toks) (λb u q=>Ye _ q) (Nat.le_of_eq (Heap.size_push _ _)) ?_;have ne:s.heap.objs.size≠s.heap.objs.size+1:=Y0 (Nat.lt_succ_self _);refine⟨by rw[zar ne,zah],Y2 _,ne,e2,λ_=>none,(Heap.Ns1.of_empty e3).at λo q=>Ye _ q,λ_=>True.intro,λy hy=>absurd rfl hy⟩
theorem zta{prog:Program}{w:World}{env:Env}{e:Expr}{f:Str}{pos:Pos}{s:Shared}{Q:Value->Shared->Prop}(hb:attributeBase e f env (eval e env)=eval e env)
  (h:wpAny (model prog w) A (eval e env) (λo s₁=>wpAny (model prog w) A (getAttr o f true) Q E s₁) E s):wpAny (model prog w) A (eval (.Attribute e f pos) env) Q E s:=
 Attribute_any_ h (by rw[arm_eval_Attribute,hb])
end
def tFld(K:W.Frag)(ta:TE)(f:Str):TE:=λσ H Q=>ta σ H λx H1=>∃a C dx fs v,x=.ref a/\H1 a=some (.ins C dx fs)/\Cls K C/\NoAttr K C f/\fs.lookup f=some v/\Q v H1
def sFld(K:W.Frag)(ta tv:TE)(f:Str):TS:=λD σ H=>tv σ H λy H1=>ta σ H1 λx H2=>∃a C dx fs,x=.ref a/\H2 a=some (.ins C dx fs)/\Cls K C/\NoAttr K C f/\fs.length<1000 /\
 D.nx σ (upd H2 a (.ins C dx (putF f y fs)))
def InOp(X:Cx)(op:Operator)(rd:V->V->Hp->VK->Prop):Prop:=
 ∀(pins:List (Addr×Obj)) (s:Shared) (σ : St) (H:Hp) (x y:V) (u v:Value) (Q:VK),Inv X pins σ H s->RelV x u->RelV y v->rd x y H Q->wpAny (model X.prog X.w) X.A (inplaceOp op u v) (EP X pins σ Q) X.xe s
def zsq(K:W.Frag)(ta tv:TE)(rd:V->V->Hp->VK->Prop)(f:Str):TS:=λD σ H=>ta σ H λx H1=>∃a C dx fs v,x=.ref a/\H1 a=some (.ins C dx fs)/\Cls K C/\NoAttr K C f/\fs.lookup f=some v /\
 tv σ H1 λy H2=>rd v y H2 λz H3=>∃dx' fs',H3 a=some (.ins C dx' fs')/\fs'.length<1000/\D.nx σ (upd H3 a (.ins C dx' (putF f z fs')))
section
variable{X:Cx}{o e value:Expr}{f:Str}{pos pos' tpos:Pos}{ta tv:TE}
theorem zwk(he:PE X e ta)(hb:attributeBase e f X.env (eval e X.env)=eval e X.env):PE X (.Attribute e f pos) (tFld X.K ta f):=by
 intro pins s σ H Q I h;refine zta hb (thn (he pins s σ H _ I h) λu s1 ⟨x,H1,I1,rx,a,C,dx,fs,v,ex,ea,c,n,l,q⟩=>?_);subst ex;obtain rfl:u=Value.ref a:=rx;exact zf6 I1 ea c n l λu' s2 I2 ru=>⟨v,H1,I2,ru,q⟩
theorem zgd(ha:PE X o ta)(hv:PE X value tv)(hs:swapsWith value (some (.Attribute o f pos')) pos.line X.env=pure false):PS X (.Assign [.Attribute o f pos'] value pos) (sFld X.K ta tv f):=by
 intro pins s σ H D I h;refine plainObj_wpAny_Assign_Attribute (thn (hv pins s σ H _ I h) λu s1 ⟨y,H1,I1,ry,q⟩=>thn (ha pins s1 σ H1 _ I1 q) λov s2 ⟨x,H2,I2,rx,a,C,dx,fs,ex,ea,c,n,l,q2⟩=>?_) hs;subst ex;obtain rfl:ov=Value.ref a:=rx;exact ze0 I2 ea c n l ry λs3 I3=>⟨σ,_,I3,q2⟩
theorem zc8{op:Operator}{rd:V->V->Hp->VK->Prop}(ha:PE X o ta)(hv:PE X value tv)(hop:InOp X op rd):PS X (.AugAssign (.Attribute o f tpos) op value pos) (zsq X.K ta tv rd f):=by
 intro pins s σ H D I h;refine wpAny_AugAssign_AttributeAny (thn (ha pins s σ H _ I h) λov s1 ⟨x,H1,I1,rx,a,C,dx,fs,v,ex,ea,c,n,l,q⟩=>?_);subst ex;obtain rfl:ov=Value.ref a:=rx;refine zf6 I1 ea c n l λu s2 I2 ru=>thn (hv pins s2 σ H1 _ I2 q) λw3 s3 ⟨y,H2,I3,ry,q3⟩=>thn (hop pins s3 σ H2 v y u w3 _ I3 ru ry q3) λw4 s4 ⟨z,H3,I4,rz,dx',fs',ea',l',q4⟩=>?_
 exact ze0 I4 ea' c n l' rz λs5 I5=>⟨σ,_,I5,q4⟩
def rAdd:V->V->Hp->VK->Prop:=λx y H Q=>∃i j,x=.int i/\y=.int j/\Q (.int (i+j)) H
def rSub:V->V->Hp->VK->Prop:=λx y H Q=>∃i j,x=.int i/\y=.int j/\Q (.int (i-j)) H
theorem zh0:InOp X .Add rAdd:=by
 rintro pins s σ H x y u v Q I rx ry ⟨i,j,rfl,rfl,q⟩;obtain⟨t,rfl⟩:=(show ∃t,u=Value.int i t from rx);obtain⟨t',rfl⟩:=(show ∃t',v=Value.int j t' from ry);exact PyProof.Rows.iadd_int ⟨.int (i+j),H,I.tok _,⟨_,rfl⟩,q⟩
theorem zwh:InOp X .Sub rSub:=by
 rintro pins s σ H x y u v Q I rx ry ⟨i,j,rfl,rfl,q⟩;obtain⟨t,rfl⟩:=(show ∃t,u=Value.int i t from rx);obtain⟨t',rfl⟩:=(show ∃t',v=Value.int j t' from ry);exact PyProof.Rows.isub_int ⟨.int (i-j),H,I.tok _,⟨_,rfl⟩,q⟩
end
section
variable{X:Cx}{pins:List (Addr×Obj)}{σ : St}{H:Hp}{s:Shared}{A:Around}{E:Value->Shared->Prop}{Q:Value->Shared->Prop}{c:Value}{b:Bool}
inductive TyOf(K:W.Frag)(H:Hp):V->Value->Prop where
 | non:TyOf K H .non (.type "NoneType")
 | bl (x:Bool):TyOf K H (.bl x) (.type "bool")
 | int (i:Int):TyOf K H (.int i) (.type "int")
 | str (x:Str):TyOf K H (.str x) (.type "str")
 | flt (x:UInt64):TyOf K H (.flt x) (.type "float")
 | lst {a:Addr} {xs:List V} (e:H a=some (.lst xs)):TyOf K H (.ref a) (.type "list")
 | frz {a:Addr} {o:Obj} {xs:List V} (e:H a=some (.frz o (.lst xs))):TyOf K H (.ref a) (.type "list")
 | tup {a:Addr} {xs:List V} (e:H a=some (.tup xs)):TyOf K H (.ref a) (.type "tuple")
 | dK {a:Addr} {kvs:List (Key×V)} (e:H a=some (.dK kvs)):TyOf K H (.ref a) (.type "dict")
 | dT {a:Addr} {kvs:List (List Key×V)} (e:H a=some (.dT kvs)):TyOf K H (.ref a) (.type "dict")
 | ins {a C dx:Addr} {fs:List (Str×V)} (e:H a=some (.ins C dx fs)) (cl:Cls K C) (ha:W.findIn K (.ref C) "__class__" = some (some (.builtin "object.__class__")))
   (hn:W.specialIn K (.builtin "object.__class__") "__get__" = some (some (.builtin "getset_descriptor.__get__"))) (htk:W.takesIn K (.builtin "object.__class__")=some true)
   (hm:W.mroIn K C (.type "object")=some true):TyOf K H (.ref a) (.ref C)
theorem zmy{x:V}{u t:Value}(I:Inv X pins σ H s)(rx:RelV x u)(ty:TyOf X.K H x t)(e:W.kitOne X.K t c=some b)(h:∀tk,Q (.bool b) { s with toks:=tk }) :
  wpAny (model X.prog X.w) A (call (.builtin "isinstance") [u,c]) Q E s:=by
 cases ty with
 | non=>cases (show u=Value.none from rx);exact W.kia_one W.kitx_none I.kIn True.intro e (λz=>nomatch z) h
 | bl y=>cases (show u=Value.bool y from rx);exact W.kia_one W.kitx_bool I.kIn True.intro e (λz=>nomatch z) h
 | int i=>obtain⟨t,q⟩:=(show ∃t,u=Value.int i t from rx);cases q;exact W.kia_one W.kitx_int I.kIn True.intro e (λz=>nomatch z) h
 | str y=>obtain⟨t,q⟩:=(show ∃t,u=Value.str y t from rx);cases q;exact W.kia_one W.kitx_str I.kIn True.intro e (λz=>nomatch z) h
 | flt y=>obtain⟨t,q⟩:=(show ∃t,u=Value.float y t from rx);cases q;exact W.kia_one W.kitx_float I.kIn True.intro e (λz=>nomatch z) h
 | @lst a xs ea=>
  cases (show u=Value.ref a from rx);obtain⟨_,_,n,_,h1⟩:=(show ObjOk X.prog X.w H s.heap a (.lst xs) from I.hok a _ ea);exact W.kia_one W.kitx_list I.kIn ⟨_,h1,Z⟩ e (λz=>nomatch z) h
 | @frz a ob xs ea=>
  cases (show u=Value.ref a from rx);obtain⟨_,_,_,n,_,h1⟩:=(show ObjOk X.prog X.w H s.heap a (.frz ob (.lst xs)) from I.hok a _ ea);exact W.kia_one W.kitx_list I.kIn ⟨_,h1,Z⟩ e (λz=>nomatch z) h
 | @tup a xs ea=>
  cases (show u=Value.ref a from rx);obtain⟨_,_,_,p⟩:=(show ObjOk X.prog X.w H s.heap a (.tup xs) from I.hok a _ ea);obtain⟨o,h1,h2,_⟩:=p;exact W.kia_one W.kitx_tuple I.kIn ⟨o,h1,h2⟩ e (λz=>nomatch z) h
 | @dK a kvs ea=>
  cases (show u=Value.ref a from rx);obtain⟨_,_,vs,_,p⟩:=(show ObjOk X.prog X.w H s.heap a (.dK kvs) from I.hok a _ ea);obtain⟨o,es,ep,h1,h2,_⟩:=p;exact W.kia_one W.kitx_dict I.kIn ⟨o,h1,h2.1⟩ e (λz=>nomatch z) h
 | @dT a kvs ea=>
  cases (show u=Value.ref a from rx);obtain⟨_,_,xs,_,o,es,ep,h1,h2,_⟩:=(show ObjOk X.prog X.w H s.heap a (.dT kvs) from I.hok a _ ea);exact W.kia_one W.kitx_dict I.kIn ⟨o,h1,h2.1⟩ e (λz=>nomatch z) h
 | @ins a C dx fs ea cl ha hn htk hm=>
  cases (show u=Value.ref a from rx);obtain⟨mA,O,_⟩:=zfe I.hok ea;obtain⟨od,J,_⟩:=O.look;exact W.kia_one (W.kitx_own (cl.get _) cl.hd ha hn htk hm) I.kIn J e (λz=>nomatch z) h
end
structure Room(k:Nat)(A:Around):Prop where
 hd:A.handled=none
 dp:A.depth+3*k+5<recursionLimit
 un:A.units+16*k+200<cLine
theorem Room.mono{j k:Nat}{A:Around}(r:Room k A)(h:j<=k):Room j A:=⟨r.hd,by have:=r.dp;omega,by have:=r.un;omega⟩
theorem Room.deeper{k:Nat}{A:Around}(r:Room (k+1) A)(env:Env):Room k (A.deeper env):=
 ⟨r.hd,by have:=r.dp;show A.depth+1+3*k+5<_;omega,by have:=r.un;show A.units+3+16*k+200<_;omega⟩
theorem zkv{A:Around}{C:Addr}{us:List Value}{kw:List (Str×Value)}:(A.under (.builtin "type.__call__" ⟨.ref C::us,kw⟩)).depth=A.depth+1:=by
 first | rfl | simp[Around.under,Code.weight,Code.isCreation,Code.isGuard,Code.isCaller,Code.frames,Code.isFrame,guardIds]
theorem zk3{A:Around}{C:Addr}{us:List Value}{kw:List (Str×Value)}:(A.under (.builtin "type.__call__" ⟨.ref C::us,kw⟩)).units=A.units+1:=by
 first | rfl | simp[Around.under,Code.cUnits,Code.frames,Code.isFrame]
theorem Room.make{k:Nat}{A:Around}(r:Room (k+1) A)(C:Addr)(us:List Value)(kw:List (Str×Value)):Room k (A.under (.builtin "type.__call__" ⟨.ref C::us,kw⟩)):=
 ⟨r.hd,by have:=r.dp;rw[zkv];omega,by have:=r.un;rw[zk3];omega⟩
theorem Room.depth{k:Nat}{A:Around}(r:Room k A):A.depth<recursionLimit:=by have:=r.dp;omega
theorem Room.units{k:Nat}{A:Around}(r:Room k A):A.units+64<cLine:=by have:=r.un;omega
theorem Room.units0{k:Nat}{A:Around}(r:Room k A):A.units<cLine:=by have:=r.un;omega
def tNil:TA:=λ_ H Q=>Q [] H
def zxz(ta:TE)(tr:TA):TA:=λσ H Q=>ta σ H λx H1=>tr σ H1 λxs H2=>Q (x::xs) H2
section
variable{X:Cx}{e:Expr}{es:List Expr}{te:TE}{t:TA}{pos:Pos}
theorem zai:PA X [] tNil:=λ_ _ _ _ H Q I h=>Calls.spliced_nil ⟨[],H,I,.nil,h⟩
theorem zaa(ha:PE X e te)(hr:PA X es t)(hs:starEach (e::es) X.env=(false,eval e X.env)::starEach es X.env:=by rfl):PA X (e::es) (zxz te t):=by
 intro pos pins s σ H Q I h;rw[hs];show wpAny _ _ (spliced ((false,eval e X.env)::backTo pos (starEach es X.env))) _ _ s;refine Calls.spliced_cons (thn (ha pins s σ H _ I h) λu s1 ⟨x,H1,I1,r1,q1⟩=>?_);exact thn (hr pos pins s1 σ H1 _ I1 q1) λus s2 ⟨xs,H2,I2,r2,q2⟩=>⟨x::xs,H2,I2,.cons r1 r2,q2⟩
def tTup(t:TA):TE:=λσ H Q=>t σ H λxs H1=>xs.length<=sizeLine/\∀p,H1 p=none->Q (.ref p) (upd H1 p (.tup xs))
def tLst(t:TA):TE:=λσ H Q=>t σ H λxs H1=>xs.length<=sizeLine/\∀p,H1 p=none->Q (.ref p) (upd H1 p (.lst xs))
theorem zbz{x1}(h:PA X es t):PE X (.Tuple es x1 pos) (tTup t):=by
 intro pins s σ H Q I hq;refine wpAny_Tuple_spliced (thn (h pos pins s σ H _ I hq) λus s1 ⟨xs,H1,I1,r,z,q⟩=>⟨by rw[<- r.length];exact z,?_⟩);have hf:H1 s1.heap.objs.size=none:=I1.hok.fresh (Yi _);refine⟨.ref s1.heap.objs.size,upd H1 s1.heap.objs.size (.tup xs),I1.laid (t':=s1.toks) (λb u e=>Ye _ e) (Yi _) ?_,rfl,q _ hf⟩;exact⟨z,us,r,⟨_,Yk _ rfl,rfl,_,rfl⟩⟩
theorem zd4(h:PA X es t):PE X (.List es pos) (tLst t):=by
 intro pins s σ H Q I hq;refine wpAny_List_spliced (thn (h pos pins s σ H _ I hq) λus s1 ⟨xs,H1,I1,r,z,q⟩=>⟨by rw[<- r.length];exact z,?_⟩);have hf:H1 s1.heap.objs.size=none:=I1.hok.fresh (Yi _);refine⟨.ref s1.heap.objs.size,upd H1 s1.heap.objs.size (.lst xs),I1.laid (t':=s1.toks) (λb u e=>Ye _ e) (Yi _) ?_,rfl,q _ hf⟩;exact⟨z,us,0,r,Yk _ rfl⟩
end
abbrev Sp:=List V->Hp->VK->XK->Prop
abbrev CXT:=List Env->Hp->Shared->XK->Value->Shared->Prop
structure Env0(P:Program)(w:World)(K:W.Frag)(mg:Str->Option Value)(base:Heap)(A:Around)(outer:List Env)(s:Shared)(H:Hp):Prop where
 frames:A.frames=some outer
 mod:Mod K mg base
 bs:∀b o,base.get? b=some o->s.heap.get? b=some o/\H b=none
 bsz:base.objs.size<=s.heap.objs.size
 funs:s.heap.FunFrames base outer
 frf:∀b∈frs outer,H b=none
 hok:HOk P w H s.heap
 bare:AllBare s.gens
def CE(outer:List Env)(P:Program)(w:World)(H:Hp)(s:Shared)(Q:VK)(u:Value)(s':Shared):Prop:=
 ∃v H',s'.os=s.os/\AllBare s'.gens/\Un (frs outer) [] H H' s.heap s'.heap/\HOk P w H' s'.heap/\RelV v u/\Q v H'
def CR(CX:CXT)(outer:List Env)(P:Program)(w:World)(H:Hp)(s:Shared)(Q:VK)(E:XK)(r:Result)(s':Shared):Prop:=
 match r with
 | .ok (.ret u)=>CE outer P w H s Q u s'
 | .ok _=>False
 | .error e=>CX outer H s E e s'
structure FnOk(P:Program)(w:World)(K:W.Frag)(mg:Str->Option Value)(base:Heap)(CX:CXT)(k:Nat)(f:Addr)(fd:FuncData)(ps:List Str)(sp:Sp):Prop where
 len:∀vs H Q E,sp vs H Q E->vs.length=ps.length
 run:∀(A:Around) (outer:List Env) (s:Shared) (H:Hp) (args:Args) (us:List Value) (vs:List V) (Q:VK) (E:XK),Room k A->Env0 P w K mg base A outer s H->BindsTo s fd args (ps.zip us)->Vals vs us->sp vs H Q E ->
  codeAny (model P w) A (.call (.ref f) args) (CR CX outer P w H s Q E) s
theorem FnOk.mono{P:Program}{w:World}{K:W.Frag}{mg:Str->Option Value}{base:Heap}{CX:CXT}{j k:Nat}{f:Addr}{fd:FuncData}{ps:List Str}{sp:Sp}(F:FnOk P w K mg base CX j f fd ps sp)(h:j<=k) :
  FnOk P w K mg base CX k f fd ps sp:=⟨F.len,λA outer s H args us vs Q E hr=>F.run A outer s H args us vs Q E (hr.mono h)⟩
theorem FnOk.imp{P:Program}{w:World}{K:W.Frag}{mg:Str->Option Value}{base:Heap}{CX:CXT}{k:Nat}{f:Addr}{fd:FuncData}{ps:List Str}{sp sp':Sp}(F:FnOk P w K mg base CX k f fd ps sp)
  (h:∀vs H Q E,sp' vs H Q E->sp vs H Q E):FnOk P w K mg base CX k f fd ps sp':=
 ⟨λvs H Q E q=>F.len vs H Q E (h _ _ _ _ q),λA outer s H args us vs Q E hr he hb hv hs=>F.run A outer s H args us vs Q E hr he hb hv (h _ _ _ _ hs)⟩
theorem Env0.make{P:Program}{w:World}{K:W.Frag}{mg:Str->Option Value}{base:Heap}{A:Around}{outer:List Env}{s:Shared}{H:Hp}(e:Env0 P w K mg base A outer s H)(C:Addr)(us:List Value)(kw:List (Str×Value)) :
  Env0 P w K mg base (A.under (.builtin "type.__call__" ⟨.ref C::us,kw⟩)) outer s H:=⟨by first | exact e.frames | (simpa[Around.under,Code.envs,Code.isFrame,pushEnvs]using e.frames),e.mod,e.bs,e.bsz,e.funs,e.frf,e.hok,e.bare⟩
section
variable{X:Cx}{pins:List (Addr×Obj)}{σ : St}{H:Hp}{s s':Shared}
theorem Inv.env0(I:Inv X pins σ H s):Env0 X.prog X.w X.K X.mg X.base X.A X.stack s H:=
 ⟨I.ok.frames,I.ok.mod,I.bs,Yr I.ok.bsz I.sz,I.stack,I.stkFree,I.hok,I.bare⟩
theorem Inv.after{Q:VK}{u:Value}(I:Inv X pins σ H s)(h:CE X.stack X.prog X.w H s Q u s'):EP X pins σ Q u s':=by
 obtain⟨v,H',os,bare,un,hok,r,q⟩:=h;obtain⟨hh,g,d,t,os'⟩:=s';obtain rfl:os'=s.os:=os;exact⟨v,H',I.call (h':=hh) (g':=g) (d':=d) (t':=t) (ch:=[]) un hok bare (λb z=>absurd z (by simp)),r,q⟩
end
def Binds(K:W.Frag)(fd:FuncData)(ps:List Str)(ds:List Value):Prop:=
 ∀(s:Shared) (us:List Value),K.In s.heap->(us++ds).length=ps.length->BindsTo s fd ⟨us,[]⟩ (ps.zip (us++ds))
theorem Binds.all{K:W.Frag}{fd:FuncData}{ps:List Str}(h:∀us:List Value,us.length=ps.length->bindArgs fd ⟨us,[]⟩=pure (ps.zip us)):Binds K fd ps []:=λs us _ hl=>by
 rw[List.append_nil]at hl ⊢;exact .of_eq (h us hl)
section
variable{X:Cx}{CX:CXT}{k:Nat}{f C:Addr}{fd:FuncData}{ps:List Str}{sp:Sp}{dvs:List V}{ds:List Value}{E:XK}{x m:Str}{p pos apos:Pos}{e o:Expr}{es:List Expr}{ta:TE}{t:TA}
structure Mk(K:W.Frag)(C f:Addr):Prop where
 makes:W.makesIn K C=true
 init:W.findIn K (.ref C) "__init__" = some (some (.ref f))
 fn:W.isFn K (.ref f)=true
 kp:W.keepIn K (.ref C)=true
end
structure FnScope(N P:List Str)(sc:Scope):Prop where
 kind:sc.kind=.function
 co:sc.isCoroutine=false
 gen:sc.isGenerator=false
 nd:N.Nodup
 pre:N.take P.length=P
 par:∀x∈P,sc.names.lookup x=some .local\/sc.names.lookup x=some .cell
 nofree:∀y∈sc.names,y.2≠.free
theorem zia{kindOf:Str->Option NameKind}{x:Str}:∀{binds:List (Str×Value)} {m:Str->Option Value},(∀v,(x,v) ∉ binds)->bindL kindOf binds m x=m x
 | [],_,_=>rfl
 | (n,v)::r,m,h=>by
  unfold bindL;rw[zia λw hw=>h w (List.mem_cons_of_mem _ hw)];split
  ·have:x≠n:=by rintro rfl;exact h v List.mem_cons_self
   simp[this]
  ·rfl
theorem zif{kindOf:Str->Option NameKind}{x:Str}:∀{binds:List (Str×Value)} {m:Str->Option Value},(∀v,(x,v) ∉ binds)->bindC kindOf binds m x=m x
 | [],_,_=>rfl
 | (n,v)::r,m,h=>by
  unfold bindC;rw[zif λw hw=>h w (List.mem_cons_of_mem _ hw)];split
  ·rfl
  ·have:x≠n:=by rintro rfl;exact h v List.mem_cons_self
   simp[this]
theorem zii{kindOf:Str->Option NameKind}{x:Str}{v:Value}:∀{P:List Str} {vs:List Value} {i:Nat} {m:Str->Option Value},P.Nodup->P[i]? = some x->vs[i]? = some v->kindOf x=some .local ->
  bindL kindOf (P.zip vs) m x=some v
 | [],_,_,_,_,h,_,_=>by simp at h
 | _::_,[],_,_,_,_,h,_=>by simp at h
 | p::P,w::vs,0,m,nd,h1,h2,hk=>by
  simp at h1 h2;subst h1;subst h2
  show bindL kindOf ((p,w)::P.zip vs) m p=_;unfold bindL;rw[zia λv hv=>(List.nodup_cons.mp nd).1 (List.of_mem_zip hv).1,Yl hk];simp
 | p::P,w::vs,i+1,m,nd,h1,h2,hk=>by
  show bindL kindOf ((p,w)::P.zip vs) m x=_;unfold bindL;exact zii (i:=i) (List.nodup_cons.mp nd).2 (by simpa using h1) (by simpa using h2) hk
theorem zhe{kindOf:Str->Option NameKind}{x:Str}{v:Value}:∀{P:List Str} {vs:List Value} {i:Nat} {m:Str->Option Value},P.Nodup->P[i]? = some x->vs[i]? = some v->kindOf x≠some .local ->
  bindC kindOf (P.zip vs) m x=some v
 | [],_,_,_,_,h,_,_=>by simp at h
 | _::_,[],_,_,_,_,h,_=>by simp at h
 | p::P,w::vs,0,m,nd,h1,h2,hk=>by
  simp at h1 h2;subst h1;subst h2
  show bindC kindOf ((p,w)::P.zip vs) m p=_;unfold bindC;rw[zif λv hv=>(List.nodup_cons.mp nd).1 (List.of_mem_zip hv).1,Yh hk];simp
 | p::P,w::vs,i+1,m,nd,h1,h2,hk=>by
  show bindC kindOf ((p,w)::P.zip vs) m x=_;unfold bindC;exact zhe (i:=i) (List.nodup_cons.mp nd).2 (by simpa using h1) (by simpa using h2) hk
def start(N:List Str)(vs:List V):St:=vs.map some++List.replicate (N.length-vs.length) none
def cxOf(CX:CXT)(P:Program)(w:World)(K:W.Frag)(mg:Str->Option Value)(base:Heap)(N:List Str)(qual:Str)(scope:Scope)(f:Addr)(cd:Value)(A:Around)(outer:List Env)(s:Shared)(H:Hp)(E:XK):Cx where
 prog:=P
 w:=w
 K:=K
 mg:=mg
 base:=base
 A:=A.deeper (envOfC qual scope s.heap.objs.size f cd)
 N:=N
 s₀:=s
 H₀:=H
 env:=envOfC qual scope s.heap.objs.size f cd
 outer:=outer
 stack:=envOfC qual scope s.heap.objs.size f cd::outer
 ex:=[]
 calm:=true
 fn:=λ_=>true
 pn:=[]
 xe:=λe s'=>wpAny (model P w) (A.deeper (envOfC qual scope s.heap.objs.size f cd)) (leaving (envOfC qual scope s.heap.objs.size f cd) e) (λ_ s''=>CX outer H s E e s'') (λe' s''=>CX outer H s E e' s'') s'
theorem zkk{sc:Scope}{n:Nat}{x:Str}(h:sc.names.lookup x=some .cell):∃c,(cellsFrom n sc.names []).lookup x=some c:=by
 have q:=W.cellsFrom_some sc.names n [] (.inl h);exact Option.isSome_iff_exists.mp q
theorem zlg{CX:CXT}{P:Program}{w:World}{K:W.Frag}{mg:Str->Option Value}{base:Heap}{N ps:List Str}{qual:Str}{scope:Scope}{f:Addr}{cd:Value}{A:Around}{outer:List Env}{s s1:Shared}{H:Hp}{E:XK}{us:List Value}{vs:List V}
  (S:FnScope N ps scope) (hd:A.handled=none) (e0:Env0 P w K mg base A outer s H) (hl:vs.length=ps.length) (r:Vals vs us)
  (x:InCallC s s.heap.objs.size (bindL (envOfC qual scope s.heap.objs.size f cd).kindOf (ps.zip us) λ_=>none) (cellsFrom (s.heap.objs.size+1) scope.names []) (bindC (envOfC qual scope s.heap.objs.size f cd).kindOf (ps.zip us) λ_=>none) s1) :
  Inv (cxOf CX P w K mg base N qual scope f cd A outer s H E) [] (start N vs) H s1:=by
 have hpl:ps.length<=N.length:=by have:=Js List.length S.pre;rw[List.length_take]at this;omega
 obtain⟨h1,tk,rfl,hk⟩:=x.done;have noA:∀b:Addr,b ∉ (cxOf CX P w K mg base N qual scope f cd A outer s H E).ex:=λb z=>absurd (show b∈([]:List Addr) from z) (by simp)
 refine⟨⟨e0.mod,S.kind,Z,Z,Yi _,λy z c h1 h2=>?_,λy hy=>?_,λy c _ h=>?_,λ_=>hd,Around.frames_deeper e0.frames,.inr ⟨Z,Z⟩,λb z=>absurd z (noA b),e0.bs,e0.bsz,λb _ _=>noA b,λb z=>absurd z (noA b),e0.funs,e0.frf⟩,
  rfl,e0.bare,Un.kept hk,⟨_,x.toInCall.ns,λi y v h1 h2 h3=>?_⟩,λy c h=>⟨_,x.cell y c h⟩,e0.hok.fresh (Yi _),λy c h=>?_,λp hp=>absurd (show p∈([]:List (Addr×Obj)) from hp) (by simp),e0.hok.kept hk,?_⟩
 ·exact name_of_addr x.apart (PySem.mem_of_lookup h1) (PySem.mem_of_lookup h2)
 ·have hy:scope.names.lookup y=some .cell\/scope.names.lookup y=some .free:=hy;rcases hy with hy | hy
  ·exact zkk hy
  ·exact absurd rfl (S.nofree _ (PySem.mem_of_lookup hy))
 ·exact Nat.le_of_lt (x.above y c (PySem.mem_of_lookup h))
 ·have hi:i<vs.length:=by
   unfold start at h2;by_cases hi:i<vs.length
   ·exact hi
   ·rw[List.getElem?_append_right (by simpa using hi)]at h2;rw[List.getElem?_replicate]at h2;split at h2 <;> cases h2
  have ha:vs[i]? = some v:=by
   unfold start at h2;rw[List.getElem?_append_left (by simpa using hi),Ym]at h2
   cases e:vs[i]? with
   | none=>rw[e]at h2;cases h2
   | some a=>rw[e]at h2;cases h2;rfl
  obtain⟨u,hu,rv⟩:=r.get ha;have hp:ps[i]? = some y:=by
   rw[<- S.pre,List.getElem?_take_of_lt (by omega)];exact h1
  have ndP:ps.Nodup:=by rw[<- S.pre];exact S.nd.sublist (List.take_sublist _ _)
  refine⟨u,rv,?_⟩;rcases S.par y (Yx hp) with k | k
  ·exact .inl ⟨k,zii ndP hp hu k⟩
  ·obtain⟨c,e⟩:=zkk (n:=s.heap.objs.size+1) k;refine .inr ⟨.inl k,c,e,?_⟩;have q:=x.cell y c e;rw[zhe ndP hp hu (by show scope.names.lookup y≠_;rw[k];decide)]at q;exact q
 ·exact e0.hok.fresh (Nat.le_of_lt (x.above y c (PySem.mem_of_lookup h)))
 ·unfold start;show _=N.length;rw[Y6,Yd,List.length_replicate];omega
theorem zxj{CX:CXT}{P:Program}{w:World}{K:W.Frag}{mg:Str->Option Value}{base:Heap}{k:Nat}{f:Addr}{name qual:Str}{params:Arguments}{body:List Stmt}{scope:Scope}{dV kV doc pm cdv ct oc:Value}{an od:Option Addr}
  {osl:Array (Option Value)} {N ps:List Str} {sp:Sp} (lk:K.lookup f=some ⟨oc,od,.func (W.fnOf name qual params body scope dV kV doc pm an cdv ct),osl⟩) (hcd:W.codeIn K cdv qual=true) (S:FnScope N ps scope)
  (len:∀vs H Q E,sp vs H Q E->vs.length=ps.length)
  (hbody:∀(A:Around) (outer:List Env) (s:Shared) (H:Hp) (vs:List V) (Q:VK) (E:XK),Room k (A.deeper (envOfC qual scope s.heap.objs.size f cdv))->sp vs H Q E ->
   ∃t,PSs (cxOf CX P w K mg base N qual scope f cdv A outer s H E) body t/\t { nx:=λ_ H'=>Q .non H',rt:=Q } (start N vs) H) :
  FnOk P w K mg base CX (k+1) f (W.fnOf name qual params body scope dV kV doc pm an cdv ct) ps sp:=by
 refine⟨len,λA outer s H args us vs Q E hr e0 hb r hsp=>?_⟩;have hl:=len _ _ _ _ hsp;have KX:K.In s.heap:=e0.mod.kin.keeps λb o e=>(e0.bs b o e).1
 have lim:s.heap.NoLimit:=e0.mod.nolimit.keeps λb o e=>(e0.bs b o e).1
 have hkind:∀y∈ps.zip us,scope.names.lookup y.1=some .local\/(scope.names.lookup y.1=some .cell/\((cellsFrom (s.heap.objs.size+1) scope.names []).lookup y.1).isSome=true):=fun⟨n,v⟩ hy=>by
  rcases S.par n (List.of_mem_zip hy).1 with q | q
  ·exact .inl q
  ·exact .inr ⟨q,W.cellsFrom_some _ _ _ (.inl q)⟩
 refine codeAny_call_function hr.depth (KX _ _ lk) rfl S.co S.gen rfl (W.codeRec_of KX hcd) (hb _ _ _ _ ?_);refine wpAny_newFunctionEnv_cells S.kind hkind λenv he s1 x=>?_
 subst he;refine⟨lim.keeps x.toInCall.keep,codeAny_func ?_⟩;obtain⟨t,ht,hq⟩:=hbody A outer s H vs Q E (hr.deeper _) hsp;have I:Inv (cxOf CX P w K mg base N qual scope f cdv A outer s H E) [] (start N vs) H s1:=zlg S hr.hd e0 hl r x;refine wpAny_mono (ht [] s1 (start N vs) H _ I hq) (λfl s' hs=>?_) λe s' hs=>hs
 have fin:∀{σ':St} {H':Hp} {v:V} {u:Value},Inv (cxOf CX P w K mg base N qual scope f cdv A outer s H E) [] σ' H' s'->RelV v u->Q v H'->CE outer P w H s Q u s':=
  fun{σ' H' v u} J rv q=>⟨v,H',J.os,J.bare,J.base,J.hok,rv,q⟩
 cases fl with
 | ret u=>
  obtain⟨v,σ',H',J,rv,q⟩:=hs;exact fin J rv q
 | next=>
  obtain⟨σ',H',J,q⟩:=hs;exact fin (v:=V.non) (u:=Value.none) J rfl q
 | brk=>
  obtain⟨_,_,_,q⟩:=hs;exact Je q
 | cont=>
  obtain⟨_,_,_,q⟩:=hs;exact Je q
section
variable{X:Cx}{x:Str}{p pos:Pos}{e:Expr}{es:List Expr}{t:TA}{id T:String}{r:List V->Hp->VK->Prop}
def tCB(r:List V->Hp->VK->Prop)(t:TA):TE:=λσ H Q=>t σ H λvs H1=>r vs H1 Q
theorem za5(hc:CallR X (.builtin id) r)(hg:Gl X x)(hm:X.mg x=none)(hv:bootBuiltins x=some (.builtin id))(ha:PA X (e::es) t)(hn:x≠"__name__":=by decide)(hdb:(x == ("__debug__" : Str))=false:=by decide)
  (he:starEach (e::es) X.env=(false,eval e X.env)::starEach es X.env:=by rfl) (hpl:(backTo pos (starEach es X.env)).any (·.1)=false:=by rfl):PE X (.Call (.Name x p) (e::es) [] pos) (tCB r t):=by
 intro pins s σ H Q I h;refine wpAny_Call_Name_kw (zil I hg hm hv ?_ hn hdb);exact PyProof.Rows.callWith_builtin1 (thn (ha pos pins s σ H _ I h) λus s1 ⟨vs,H1,I1,r1,q1⟩=>hc pins s1 σ H1 vs us Q I1 r1 q1) he hpl
theorem zbh(hc:CallR X (.type T) r)(hg:Gl X x)(hm:X.mg x=none)(hv:bootBuiltins x=some (.type T))(ha:PA X (e::es) t)(hn:x≠"__name__":=by decide)(hdb:(x == ("__debug__" : Str))=false:=by decide)
  (he:starEach (e::es) X.env=(false,eval e X.env)::starEach es X.env:=by rfl) (hpl:(backTo pos (starEach es X.env)).any (·.1)=false:=by rfl):PE X (.Call (.Name x p) (e::es) [] pos) (tCB r t):=by
 intro pins s σ H Q I h;refine wpAny_Call_Name_kw (zil I hg hm hv ?_ hn hdb);exact PyProof.Rows.callWith_type1 (thn (ha pos pins s σ H _ I h) λus s1 ⟨vs,H1,I1,r1,q1⟩=>hc pins s1 σ H1 vs us Q I1 r1 q1) he hpl
end
end L2
namespace HT
open PySem PyProof.Rows
section
variable{prog:Program}{w:World}{A:Around}{E:Value->Shared->Prop}{s:Shared}
def sIx(n d:Nat):Option Int->Nat
 | none=>d
 | some v=>if v<0 then(v+(n:Int)).toNat else min v.toNat n
end
end HT
namespace L2
open PySem PySem.Spec PyProof.Rows
abbrev TO:=St->Hp->(Option Int->Hp->Prop)->Prop
def PO(X:Cx)(e:Option Expr)(t:TO):Prop:=
 ∀(pins:List (Addr×Obj)) (s:Shared) (σ : St) (H:Hp) (Q:Option Int->Hp->Prop),Inv X pins σ H s->t σ H Q ->
  wpAny (model X.prog X.w) X.A (evalPart e X.env) (λu s'=>∃o H',Inv X pins σ H' s'/\IsPart u o/\Q o H') X.xe s
def zt8:TO:=λ_ H Q=>Q none H
def zyh(t:TE):TO:=λσ H Q=>t σ H λx H1=>∃i,x=.int i/\Q (some i) H1
section
variable{X:Cx}{e:Expr}{te:TE}{lo hi:Option Expr}{tl th:TO}{pos p2:Pos}
theorem zbr:PO X none zt8:=by
 intro pins s σ H Q I h;rw[evalPart_none];exact Yb ⟨none,H,I,.none,h⟩
theorem zbd(h:PE X e te):PO X (some e) (zyh te):=by
 intro pins s σ H Q I hw;rw[evalPart_some];refine thn (h pins s σ H _ I hw) λu s1 ⟨x,H1,I1,r1,q1⟩=>?_
 obtain⟨i,rfl,q⟩:=q1;obtain⟨t,rfl⟩:=r1;exact⟨some i,H1,I1,.int i t,q⟩
def SlR(X:Cx)(r:V->Option Int->Option Int->Hp->VK->Prop):Prop:=
 ∀(pins:List (Addr×Obj)) (s:Shared) (σ : St) (H:Hp) (x:V) (v vl vu:Value) (lo hi:Option Int) (sl:Addr) (Q:VK),Inv X pins σ H s->RelV x v->s.heap.IsSliceOf sl vl vu .none->IsPart vl lo->IsPart vu hi->r x lo hi H Q ->
  ∃T id,typeLookup (.type T) "__getitem__" = pure (some (.builtin id))/\s.TypeIs v T/\wpAny (model X.prog X.w) X.A (getItem v (.ref sl)) (EP X pins σ Q) X.xe s
def tSl(r:V->Option Int->Option Int->Hp->VK->Prop)(te:TE)(tl th:TO):TE:=λσ H Q=>te σ H λx H1=>tl σ H1 λl H2=>th σ H2 λu H3=>r x l u H3 Q
theorem za9{r:V->Option Int->Option Int->Hp->VK->Prop}(hr:SlR X r)(he:PE X e te)(hl:PO X lo tl)(hu:PO X hi th):PE X (.Subscript e (.Slice lo hi none p2) pos) (tSl r te tl th):=by
 intro pins s σ H Q I h;refine Subscript_ (thn (he pins s σ H _ I h) λv s1 ⟨x,H1,I1,r1,q1⟩=>?_);refine wpAny_Slice (thn (hl pins s1 σ H1 _ I1 q1) λvl s2 ⟨l,H2,I2,pl,q2⟩=>thn (hu pins s2 σ H2 _ I2 q2) λvu s3 ⟨u,H3,I3,pu,q3⟩=>?_);rw[evalPart_none];refine Yb ?_;have I4:Inv X pins σ H3 { s3 with heap:=s3.heap.push { cls:=.type "slice",data:=.fields #[vl,vu,.none] } }:=I3.kept (t':=s3.toks) λb ob q=>Ye _ q
 obtain⟨T,id,hT,ht,hg⟩:=hr pins { s3 with heap:=s3.heap.push { cls:=.type "slice",data:=.fields #[vl,vu,.none] } } σ H3 x v vl vu l u s3.heap.objs.size Q I4 r1 (Heap.IsSliceOf.new ..) pl pu q3;show wpAny (model X.prog X.w) X.A (subscriptTail e (.Slice lo hi none p2) v (.ref s3.heap.objs.size)) (EP X pins σ Q) X.xe { s3 with heap:=s3.heap.push { cls:=.type "slice",data:=.fields #[vl,vu,.none] } };exact tail_any (ops:=[.ref s3.heap.objs.size,v]) ht hT hg (by with_unfolding_all rfl)
def cutV(xs:List V)(lo hi:Option Int):List V:=(xs.drop (HT.sIx xs.length 0 lo)).take (HT.sIx xs.length xs.length hi-HT.sIx xs.length 0 lo)
theorem zir(xs:List V)(lo hi:Option Int):(cutV xs lo hi).length<=xs.length:=by
 unfold cutV;rw[List.length_take,List.length_drop];omega
end
def ixN(n:Nat)(i:Int):Option Nat:=if 0<=i then(if i<n then some i.toNat else none) else if -(n:Int)<=i then some (i+n).toNat else none
def atI{α : Type}(xs:List α)(i:Int):Option α:=(ixN xs.length i).bind λj=>xs[j]?
theorem zse{n:Nat}{i:Int}{j:Nat}(h:ixN n i=some j):seqIndex? i n=some j/\j<n/\-(n:Int)<=i/\i<n:=by
 unfold ixN at h;by_cases h0:0<=i
 ·rw[Yl h0]at h;by_cases h1:i<n
  ·rw[Yl h1]at h;have e:i.toNat=j:=Jf h;exact⟨by rw[seqIndex_of h0 h1,e],by omega,by omega,h1⟩
  ·rw[Yh h1]at h;cases h
 ·rw[Yh h0]at h;by_cases h1 : -(n:Int)<=i
  ·rw[Yl h1]at h;have e:(i+n).toNat=j:=Jf h;exact⟨by rw[seqIndex_neg (by omega) h1,e],by omega,h1,by omega⟩
  ·rw[Yh h1]at h;cases h
theorem zi1{α : Type}{xs:List α}{i:Int}{v : α}(h:atI xs i=some v):∃j,seqIndex? i xs.length=some j/\xs[j]? = some v/\j<xs.length/\-(xs.length:Int)<=i/\i<xs.length:=by
 unfold atI at h
 cases e:ixN xs.length i with
 | none=>rw[e]at h;cases h
 | some j=>
  rw[e]at h;obtain⟨h1,h2,h3,h4⟩:=zse e;exact⟨j,h1,h,h2,h3,h4⟩
theorem zdw{α : Type}{xs:List α}{j:Nat}{v : α}(h:xs[j]? = some v):atI xs (j:Int)=some v:=by
 have hj:j<xs.length:=(List.getElem?_eq_some_iff.mp h).1;have e:ixN xs.length (j:Int)=some j:=by
  unfold ixN;rw[Yl (by omega),Yl (by omega)];simp
 unfold atI;rw[e];exact h
def PlainIx(b:Expr):Prop:=∀o i,subscripted b false o i=operate [o,i] (getItem o i)
def IxR(X:Cx)(r:R2):Prop:=
 ∀(value slice:Expr) (pins:List (Addr×Obj)) (s:Shared) (σ : St) (H:Hp) (x y:V) (v u:Value) (Q:VK),Inv X pins σ H s->RelV x v->RelV y u->r x y H Q ->
  subscripted slice false v u=operate [v,u] (getItem v u)->wpAny (model X.prog X.w) X.A (subscriptTail value slice v u) (EP X pins σ Q) X.xe s
def MtR(X:Cx)(id:String)(r:V->List V->Hp->VK->Prop):Prop:=
 ∀(pins:List (Addr×Obj)) (s:Shared) (σ : St) (H:Hp) (x:V) (xs:List V) (v:Value) (us:List Value) (Q:VK),Inv X pins σ H s->RelV x v->Vals xs us->r x xs H Q ->
  wpAny (model X.prog X.w) X.A (call (.builtin id) (v::us)) (EP X pins σ Q) X.xe s
section
variable{X:Cx}{a b:Expr}{ta tb:TE}{pos:Pos}
theorem zba{r:R2}(hr:IxR X r)(ha:PE X a ta)(hb:PE X b tb)(hs:PlainIx b):PE X (.Subscript a b pos) (tOp r ta tb):=by
 intro pins s σ H Q I h;exact Subscript_ (binT ha hb I h λv u s2 x y H2 I2 rx ry q=>hr a b pins s2 σ H2 x y v u Q I2 rx ry q (hs _ _))
def rIxL(K:W.Frag):R2:=λx y H Q=>∃p xs i v,x=.ref p/\y=.int i/\SqL K H p xs/\atI xs i=some v/\Q v H
def rIxT(K:W.Frag):R2:=λx y H Q=>∃p xs i v,x=.ref p/\y=.int i/\SqT K H p xs/\atI xs i=some v/\Q v H
def rIxS:R2:=λx y H Q=>∃z i c,x=.str z/\y=.int i/\z.length<=sizeLine/\atI z.cps.toList i=some c/\Q (.str ⟨#[c]⟩) H
theorem zed:IxR X (rIxL X.K):=by
 intro value slice pins s σ H x y v u Q I rx ry h hs;obtain⟨p,xs,i,z,rfl,rfl,hq,he,q⟩:=h
 cases rx;obtain⟨t,rfl⟩:=ry;obtain⟨its,r,pl,hz⟩:=I.list hq;obtain⟨j,h1,h2,h3,h4,h5⟩:=zi1 he;obtain⟨w,ew,rw'⟩:=r.get h2;have hl:=r.length;have hn:=zh9;have fin:EP X pins σ Q w s:=⟨z,H,I,rw',q⟩;by_cases h0:0<=i
 ·have hj:i.toNat=j:=by
   rw[seqIndex_of h0 h5]at h1;exact Jf h1
  exact item_listR pl.isList h0 (by omega) (by rw[hj];simpa using ew) fin hs
 ·have hj:(i+(its.toArray.size:Int)).toNat=j:=by
   rw[seqIndex_neg (by omega) h4]at h1;rw[Ys,<- hl];exact Jf h1
  exact subscriptTail_builtinR (x:=w) pl.isList.typeIs slot_list_getitem.lookup
   (wpAny_getItem_list_neg (Q:=λr s'=>r=w/\EP X pins σ Q r s') pl.isList (by omega) (by rw[Ys] <;> omega) (by omega) (by rw[hj];simpa using ew) ⟨Z,fin⟩) hs
theorem za6:IxR X (rIxT X.K):=by
 intro value slice pins s σ H x y v u Q I rx ry h hs;obtain⟨p,xs,i,z,rfl,rfl,hq,he,q⟩:=h
 cases rx;obtain⟨t,rfl⟩:=ry;obtain⟨its,r,pl,hz⟩:=I.tuple hq;obtain⟨j,h1,h2,h3,h4,h5⟩:=zi1 he;obtain⟨w,ew,rw'⟩:=r.get h2;have hl:=r.length;have hn:=zh9;have fin:EP X pins σ Q w s:=⟨z,H,I,rw',q⟩;exact subscriptTail_builtinR (x:=w) pl.typeIs slot_tuple_getitem.lookup
  (getItem_tuple (j:=j) (Q:=λr s'=>r=w/\EP X pins σ Q r s') pl (by omega) (by omega) (by rw[Ys,<- hl];exact h1) (by simpa using ew) ⟨Z,fin⟩) hs
theorem zge:IxR X rIxS:=by
 intro value slice pins s σ H x y v u Q I rx ry h hs;obtain⟨z,i,c,rfl,rfl,hz,he,q⟩:=h;obtain⟨t,rfl⟩:=rx;obtain⟨t',rfl⟩:=ry;obtain⟨j,h1,h2,h3,h4,h5⟩:=zi1 he;have hl:z.cps.toList.length=z.length:=by simp[Str.length]
 rw[hl]at h1 h4 h5;have hn:=zh9;exact tail_any (typeIs_str s z t) slot_str_getitem.lookup (getItem_str (c:=c) (by
  have e1:decide (i < -(2^63:Int))=false:=Yw (by omega);have e2:decide (i ≥ 2^63)=false:=Yw (by omega);rw[e1,e2,Bool.or_false]) (by rw[h1];simpa using h2) ⟨.str ⟨#[c]⟩,H,I.tok _,⟨_,Z⟩,q⟩) hs
theorem zid(lo hi:Option Int)(n:Nat):(sliceBounds lo hi none n).1=((HT.sIx n 0 lo:Nat):Int)/\(sliceBounds lo hi none n).2.1=((HT.sIx n n hi:Nat):Int)/\(sliceBounds lo hi none n).2.2=1:=by
 refine⟨?_,?_,Z⟩
 ·cases lo with
  | none=>simp[sliceBounds,HT.sIx]
  | some i=>
   simp only[sliceBounds,HT.sIx,Option.getD_none,show (1:Int) > 0 by decide,if_true]
   by_cases h:i<0
   ·simp only[h,if_true] <;> omega
   ·simp only[h,if_false] <;> omega
 ·cases hi with
  | none=>simp[sliceBounds,HT.sIx]
  | some i=>
   simp only[sliceBounds,HT.sIx,Option.getD_none,show (1:Int) > 0 by decide,if_true]
   by_cases h:i<0
   ·simp only[h,if_true] <;> omega
   ·simp only[h,if_false] <;> omega
theorem zgv(its:List Value)(lo hi:Option Int):slicePick its.toArray lo hi none=((its.drop (HT.sIx its.length 0 lo)).take (HT.sIx its.length its.length hi-HT.sIx its.length 0 lo)).toArray:=by
 obtain⟨h1,h2,h3⟩:=zid lo hi its.toArray.size;unfold slicePick;rw[h1,h2,h3];simp only[sliceRange_one,pick_run,List.size_toArray] <;> rfl
def rSlL(K:W.Frag):V->Option Int->Option Int->Hp->VK->Prop:=λx lo hi H Q=>∃a xs,x=.ref a/\SqL K H a xs/\∀p,H p=none->Q (.ref p) (upd H p (.lst (cutV xs lo hi)))
theorem ztu:SlR X (rSlL X.K):=by
 intro pins s σ H x v vl vu lo hi sl Q I rx hs pl pu h;obtain⟨a,xs,rfl,hx,q⟩:=h
 cases rx;obtain⟨its,r,ht,hz⟩:=I.list hx;have hlen:=r.length;refine⟨"list",_,slot_list_getitem.lookup,ht.isList.typeIs,?_⟩;refine wpAny_getItem_list_slice ht.isList hs pl pu .none (by simp) ?_ (by rw[List.size_toArray] <;> omega);rw[zgv,<- hlen];refine⟨.ref s.heap.objs.size,_,I.laid (t':=s.toks) (o:=.lst (cutV xs lo hi)) (λb ob q=>Ye _ q) (Yi _) ?_,Z,q _ (I.hok.fresh (Yi _))⟩;exact⟨Yr (zir xs lo hi) hz,_,0,(r.drop (HT.sIx xs.length 0 lo)).take (HT.sIx xs.length xs.length hi-HT.sIx xs.length 0 lo),Yk _ rfl⟩
theorem zie:CallR X (.builtin "len") (λxs H Q=>∃p ys,xs=[.ref p]/\(SqL X.K H p ys\/SqT X.K H p ys)/\Q (.int ys.length) H):=by
 intro pins s σ H xs us Q I r h;obtain⟨p,ys,rfl,hq,q⟩:=h;obtain⟨u,rfl,rx⟩:=zgh r
 cases rx;have hn:=zh9;rcases hq with hq | hq
 ·obtain⟨its,r',pl,hz⟩:=I.list hq;have hlen:=r'.length;exact Calls.call_len_list pl.isList (by simp only[List.size_toArray] <;> omega) ⟨.int ys.length,H,I.tok _,⟨s.toks+1,by rw[Ys,hlen]⟩,q⟩
 ·obtain⟨its,r',pl,hz⟩:=I.tuple hq;have hlen:=r'.length;exact len_tuple pl (by simp only[List.size_toArray] <;> omega) ⟨.int ys.length,H,I.tok _,⟨s.toks+1,by rw[Ys,hlen]⟩,q⟩
theorem zbl:CallR X (.builtin "len") (λxs H Q=>∃z,xs=[.str z]/\z.length<=sizeLine/\Q (.int z.length) H):=by
 intro pins s σ H xs us Q I r h;obtain⟨z,rfl,hz,q⟩:=h;obtain⟨u,rfl,t,rfl⟩:=zgh r;have hn:=zh9;exact len_str (by omega) ⟨.int z.length,H,I.tok _,⟨_,rfl⟩,q⟩
theorem zgn:CallR X (.type "tuple") (λxs H Q=>∃p ys,xs=[.ref p]/\((SqL X.K H p ys/\∀l,H l=none->Q (.ref l) (upd H l (.tup ys)))\/(SqT X.K H p ys/\Q (.ref p) H))):=by
 intro pins s σ H xs us Q I r h;obtain⟨p,ys,rfl,h⟩:=h;obtain⟨u,rfl,rx⟩:=zgh r
 cases rx;rcases h with⟨hq,q⟩ | ⟨hq,q⟩
 ·obtain⟨its,r',pl,hz⟩:=I.list hq;have hlen:=r'.length;refine call_tuple_list pl.isList (λh' kp=>?_) (by simp only[List.size_toArray] <;> omega);have I1:Inv X pins σ H { s with heap:=h' }:=I.kept (t':=s.toks) kp;have I2:Inv X pins σ (upd H h'.objs.size (.tup ys)) { s with heap:=h'.push { cls:=.type "tuple",data:=.seq its.toArray } }:=
   I1.laid (t':=s.toks) (λb o e=>Ye _ e) (Yi _) (show ObjOk X.prog X.w _ _ _ (.tup ys) from⟨hz,its,r',IsTup.new _ _⟩)
  exact⟨.ref h'.objs.size,_,I2,Z,q _ (I1.hok.fresh (Yi _))⟩
 ·obtain⟨its,r',pl,hz⟩:=I.tuple hq;exact call_tuple_same pl ⟨.ref p,H,I,Z,q⟩
def tyV(K:W.Frag)(T:String)(x:V)(H:Hp):Prop:=match x with
 | .str _=>T = "str"
 | .int _=>T = "int"
 | .ref p=>(T = "list"/\∃xs,SqL K H p xs)\/(T = "tuple"/\∃o,K.lookup p=some o/\o.cls=.type "tuple"/\o.dict=none) \/
   (T = "dict"/\((∃kvs,H p=some (.dK kvs))\/∃kvs,H p=some (.dT kvs)))\/(T = "set"/\∃S n,H p=some (.set S n))
 | _=>False
theorem zrn{pins:List (Addr×Obj)}{σ : St}{H:Hp}{s:Shared}{T:String}{x:V}{v:Value}(I:Inv X pins σ H s)(r:RelV x v)(ty:tyV X.K T x H) :
  s.TypeIs v T/\∀a,v=.ref a->∃ob,s.heap.get? a=some ob/\ob.dict=none:=by
 cases x with
 | str z=>
  obtain⟨t,rfl⟩:=r
  cases (show T = "str" from ty);exact⟨typeIs_str s z t,λ_ e=>nomatch e⟩
 | int i=>
  obtain⟨t,rfl⟩:=r
  cases (show T = "int" from ty);exact⟨typeIs_int s i t,λ_ e=>nomatch e⟩
 | ref p=>
  cases r;rcases ty with⟨rfl,xs,hq⟩ | ⟨rfl,o,hk,hc,hd⟩ | ⟨rfl,hk⟩ | ⟨rfl,S,n,hk⟩
  ·obtain⟨its,_,pl,_⟩:=I.list hq;refine⟨pl.isList.typeIs,λa e=>?_⟩
   cases e;obtain⟨o,n,e,c,hd,_⟩:=pl;exact⟨o,e,hd⟩
  ·refine⟨⟨o,I.kIn p o hk,hc⟩,λa e=>?_⟩
   cases e;exact⟨o,I.kIn _ o hk,hd⟩
  ·have z:∃o,s.heap.get? p=some o/\o.ExactDict:=by
    rcases hk with⟨kvs,hk⟩ | ⟨kvs,hk⟩
    ·obtain⟨_,_,_,_,o,_,_,e,ex,_⟩:=I.hok p _ hk;exact⟨o,e,ex⟩
    ·obtain⟨_,_,_,_,o,_,_,e,ex,_⟩:=I.hok p _ hk;exact⟨o,e,ex⟩
   obtain⟨o,e,ex⟩:=z;refine⟨⟨o,e,ex.1⟩,λa e2=>?_⟩
   cases e2;exact⟨o,e,ex.2.1⟩
  ·obtain⟨o,_,_,_,e,ex,_⟩:=I.hok p _ hk;refine⟨⟨o,e,ex.1⟩,λa e2=>?_⟩
   cases e2;exact⟨o,e,ex.2.1⟩
 | _=>exact Je ty
def tBM(K:W.Frag)(T:String)(r:V->List V->Hp->VK->Prop)(to:TE)(t:TA):TE:=λσ H Q=>to σ H λx H1=>tyV K T x H1/\t σ H1 λxs H2=>r x xs H2 Q
variable{o e:Expr}{es:List Expr}{to:TE}{t:TA}{name:Str}{apos cpos:Pos}{T id:String}{r:V->List V->Hp->VK->Prop}
theorem zf4(pa:PlainAttrs T)(slot:Slot T name id)(hty:typeOf (.builtin id)=pure (.type "method_descriptor"))(hm:MtR X id r)(ho:PE X o to)(ha:PA X (e::es) t)
  (hbase:attributeBase o name X.env (eval o X.env)=eval o X.env:=by rfl)
  (hfew:((backTo cpos (starEach (e::es) X.env)).all (λx => !x.1)&&(backToKw cpos (keywordEach [] X.env)).all (λx=>x.1.isSome)
   && decide ((e::es).length+([]:List Keyword).length+(if ([]:List Keyword).isEmpty then 0 else 1)<30))=true:=by rfl)
  (hline:(apos.endLine == cpos.line)=true:=by rfl) (hs:starEach (e::es) X.env=(false,eval e X.env)::starEach es X.env:=by rfl) (hplain:(backTo cpos (starEach es X.env)).any (·.1)=false:=by rfl) :
  PE X (.Call (.Attribute o name apos) (e::es) [] cpos) (tBM X.K T r to t):=by
 intro pins s σ H Q I h;refine wpAny_Call_method_late hbase hfew hline rfl (thn (ho pins s σ H _ I h) λv s1 ⟨x,H1,I1,r1,ty,q1⟩=>?_);obtain⟨h1,h2⟩:=zrn I1 r1 ty;refine⟨T,id,pa,slot,hty,h1,h2,?_⟩;have hA:=ha cpos pins s1 σ H1 _ I1 q1;rw[hs]at hA ⊢;refine Calls.callWith_builtin (by show (false||(backTo cpos (starEach es X.env)).any (·.1))=false;rw[hplain] <;> rfl) (Calls.evalArgs_plain ?_);exact thn hA λus s2 ⟨vs,H2,I2,r2,q2⟩=>hm pins s2 σ H2 x vs v us Q I2 r1 r2 q2
/- xs.append(e),list.index on a module's tuple .. are MtR facts of 06m -/
end
def MtM(X:Cx)(id:String)(r:V->List V->Hp->VK->Prop):Prop:=
 ∀(pins:List (Addr×Obj)) (s:Shared) (σ : St) (H:Hp) (x:V) (xs:List V) (v:Value) (us:List Value) (Q:VK),Inv X pins σ H s->RelV x v->Vals xs us->r x xs H Q ->
  wpAny (model X.prog X.w) X.A (call (.builtin id) (v::us)) (EP X pins σ Q) X.xe s
theorem Vals.one:∀{x:V} {us:List Value},Vals [x] us->∃u,us=[u]/\RelV x u
 | _,_,.cons r .nil=>⟨_,rfl,r⟩
theorem Vals.two:∀{x y:V} {us:List Value},Vals [x,y] us->∃u v,us=[u,v]/\RelV x u/\RelV y v
 | _,_,_,.cons r (.cons q .nil)=>⟨_,_,rfl,r,q⟩
theorem Vals.rep{xs:List V}{us:List Value}(h:Vals xs us):∀k:Nat,Vals (List.replicate k xs).flatten (List.replicate k us).flatten
 | 0=>.nil
 | k+1=>by
  rw[List.replicate_succ,List.replicate_succ,List.flatten_cons,List.flatten_cons];exact Vals.append h (Vals.rep h k)
theorem zh8(its:List Value):∀(k:Nat) (acc:List Value),
  List.foldl (λx1 x2=>x1++x2) acc.toArray (List.replicate k its.toArray)=(acc++(List.replicate k its).flatten).toArray
 | 0,acc=>by simp
 | k+1,acc=>by
  have e:acc.toArray++its.toArray=(acc++its).toArray:=by simp
  have e2:(acc++its)++(List.replicate k its).flatten=acc++(List.replicate (k+1) its).flatten:=by
   rw[List.replicate_succ,List.flatten_cons,List.append_assoc]
  rw[<- e2,<- zh8 its k (acc++its),<- e,List.replicate_succ,List.foldl_cons]
section
variable{X:Cx}{pins:List (Addr×Obj)}{σ : St}{H:Hp}{s:Shared}{l b:Addr}{xs ys zs:List V}
theorem Inv.lset{its its':List Value}{n:Nat}{f:Array Value->Array Value}{t':Nat}(I:Inv X pins σ H s)(hH:H l=some (.lst xs))
  (e:s.heap.get? l=some { cls:=.type "list",data:=.seq its.toArray n }) (hf:f its.toArray=its'.toArray) (hv:Vals ys its') (hz:ys.length<=sizeLine) :
  Inv X pins σ (upd H l (.lst ys)) { s with heap:=s.heap.update l (Obj.mapSeq f),toks:=t' }:=by
 have q:=PySem.IsL.update e f;rw[hf]at q;refine I.write (x:=l) (e:=l) (by rw[hH];exact trivial) (.inl rfl) (λb' u hb hu=>(Heap.get?_update_other s.heap (Obj.mapSeq f) (Jc hb)).trans hu) ⟨_,q⟩ ?_;exact⟨hz,its',_,hv,q⟩
theorem Inv.lnew{its:List Value}{t':Nat}(I:Inv X pins σ H s)(hv:Vals ys its)(hz:ys.length<=sizeLine) :
  Inv X pins σ (upd H s.heap.objs.size (.lst ys)) { s with heap:=s.heap.push { cls:=.type "list",data:=.seq its.toArray },toks:=t' }:=
 I.laid (λ_ _ q=>Ye _ q) (Yi _) ⟨hz,its,0,hv,Yk _ rfl⟩
theorem Inv.fresh(I:Inv X pins σ H s):H s.heap.objs.size=none:=I.hok.fresh (Yi _)
theorem Inv.lstM(I:Inv X pins σ H s)(hH:H l=some (.lst xs)):xs.length<=sizeLine/\∃(its:List Value) (n:Nat),Vals xs its/\xs.length=its.length/\s.heap.get? l=some { cls:=.type "list",data:=.seq its.toArray n }:=by
 obtain⟨z,its,n,r,e⟩:=I.hok l _ hH;exact⟨z,its,n,r,r.length,e⟩
end
section
variable{X:Cx}
def zub:V->List V->Hp->VK->Prop:=λx vs H Q=>∃l xs y,x=.ref l/\vs=[y]/\H l=some (.lst xs)/\xs.length<sizeLine/\Q .non (upd H l (.lst (xs++[y])))
theorem zfz:MtM X "list.append" zub:=by
 intro pins s σ H x vs v us Q I rx rv h;obtain⟨l,xs,y,rfl,rfl,hH,hz,q⟩:=h
 cases rx;obtain⟨u,rfl,ru⟩:=rv.one;obtain⟨z,its,n,r,hl,e⟩:=I.lstM hH;refine call_meets F.slot_list_append ⟨_,e,Z⟩ F.entry_list_append (F.args_list_append_2 _ _) (PySem.list_append l its.toArray n u (by rw[Ys];omega)) ⟨e,?_⟩;refine⟨.non,_,I.lset (its':=its++[u]) hH e (by simp) (r.append (.cons ru .nil)) ?_,Z,q⟩;rw[Y6,List.length_singleton];omega
theorem zml{α : Type}(xs:List α)(k:Nat):(List.replicate k xs).flatten.length=k*xs.length:=by
 induction k with
 | zero=>simp
 | succ k ih=>rw[List.replicate_succ,List.flatten_cons,Y6,ih,Nat.succ_mul,Nat.add_comm]
end
end L2
namespace Att
open PySem PySem.W PySem.Calls PyProof.Rows
theorem zf0{P:Params}{h:Heap}:∀(ns:List Int) (vs:List Value),WellAll P h vs (ns.map WData.int)->IntsAre vs ns:=by
 intro ns;induction ns with
 | nil=>
  intro vs w;rw[List.map_nil]at w
  cases w;exact .nil
 | cons n ns ih=>
  intro vs w;rw[Yz]at w
  cases w with
  | cons a b=>
   cases a;exact .cons _ _ (ih _ b)
theorem znb{l:OpenLaw}{n:Nat}(hn:l.most=some n){P:Params}{h:Heap}{args:List WData}{vals:List Value}
  (hpre:l.row.toRowW.claim.pre args=true) (hwl:WellAll P h vals args) :
  ∃a vs ns,vals=[Value.ref a]/\args=[WData.list (ns.map WData.int)]/\h.get? a=some { cls:=.type "list",data:=.seq vs.toArray }/\IntsAre vs ns/\ns.length<=n:=by
 have hsh:WShape.hasAll [] args [.list .int]=true:=(pre_splitW hpre).1;have hc:l.pre.holds [] { args:=args }=true:=(pre_splitW hpre).2;obtain⟨d,r,rfl,h1,h2⟩:=hasAllW_cons hsh;obtain rfl:=hasAllW_nil h2;obtain⟨xs,rfl,h3⟩:=hasW_list h1;obtain⟨ns,rfl⟩:=items_int h3;have hlen:ns.length<=n:=by
  unfold OpenLaw.pre at hc;have h4:(WTm.not (.lt (.lit (.int (n:Int))) (.len (.arg 0)))).holds [] { args:=[.list (ns.map .int)] }=true:=by
   have h4:=(holds_andW hc).1;rw[hn]at h4;exact h4
  have h5:=condW_of h4 (w_not (w_lt w_lit (w_len_list (w_arg rfl))));rw[Yd]at h5;refine Nat.le_of_not_lt λq=>?_
  have q':(n:Int)<((ns.length:Nat):Int):=by omega
  first
   | (rw[Yo q']at h5;exact absurd h5 (by decide))
   | (simp at h5;omega)
 cases hwl with
 | cons w1 w2=>
  cases w2
  cases w1 with
  | list ho hall=>exact⟨_,_,ns,rfl,rfl,ho,zf0 ns _ hall,hlen⟩
theorem zlf(l:OpenLaw)(args:List WData):l.row.toRowW.claim.post args (.bool true) args=true:=
 postW_of (r:=l.row.toRowW) (X:=(true == true))
  (show WShape.has [] (.bool true) .bool=true by first | rfl | decide | simp[WShape.has,WShape.arms,WShape.armsAll])
  (show (WTm.eq .res (.lit (.bool true))).value [] { args:=args,res:=some (.bool true),after:=args }=some (.bool (true == true)) from w_eq_bool (w_res rfl) w_lit) rfl
theorem attach_call{l:OpenLaw}{n:Nat}{q:Program}{loose:List Str}{XP:(Str->Option Value)->Heap->Prop}{YP:World->Heap->Prop}{d:DefRec}
  (hn:l.most=some n) (hdf:d.params.defaults=[])
  (call:∀(w:World) (s₀ s₁:Shared) (mg mb:Str->Option Value) (fa:Addr) (o:Obj) (pm cd doc:Value) (a:Addr) (vs:List Value) (ns:List Int),
   Ground q loose [] XP w s₀ mg mb s₁.heap->YP w s₁.heap ->
   s₁.heap.get? fa=some o->o.data=.func (docDef d.name d.params d.body d.scope pm cd doc)->s₁.heap.CodeRec cd d.name->mg d.name=some (.ref fa) ->
   s₁.heap.get? a=some { cls:=.type "list",data:=.seq vs.toArray }->IntsAre vs ns->ns.length<=n->s₁.gens = #[] ->
   codeAny (model l.prog w) callerA (.call (.ref fa) ⟨[.ref a],[]⟩) (λr s'=>r=.ok (.ret (.bool true))/\OldK s₁.heap s'.heap/\s'.os=s₁.os/\AllBare s'.gens) s₁) :
  WalkO q loose XP YP l.row.toRowW d [] (λf vs=>PySem.call f vs):=by
 intro w s₀ s₁ mg mb G Y fa o pm cd doc dV kV ho hd hcd hD hmg hg args vals as hpre hlay hrd hwl hlo;obtain rfl:dV=.none:=Dflts.none hD hdf;obtain rfl:kV=.none:=Dflts.noKw hD;obtain⟨a,vs,ns,rfl,rfl,hobj,hints,hlen⟩:=znb hn hpre hwl;refine enter_call (codeAny_mono (call w s₀ s₁ mg mb fa o pm cd doc a vs ns G Y ho (fd_plain hd) hcd hmg hobj hints hlen hg) λr s' hq=>?_);obtain⟨rfl,h2,h3,h4⟩:=hq;exact⟨.inl ⟨.bool true,.bool true,[],rfl,λ_=>rfl,.bool true,zlf l _,λ_=>⟨List.Pairwise.nil,λ_ hm=>(nomatch hm)⟩⟩,h2,h3,h4⟩
end Att
namespace L2
open PySem PySem.Spec PyProof.Rows
theorem zhs:∀{vs:List Value} {ns:List Int},IntsAre vs ns->Vals (ns.map V.int) vs
 | _,_,.nil=>.nil
 | _,_,.cons n t h=>.cons ⟨t,rfl⟩ (zhs h)
def Only(H:Hp):Prop:=∀b,H b=none\/∃o xs,H b=some (.frz o (.lst xs))
theorem zps{P:Program}{w:World}{K:W.Frag}{mg mb:Str->Option Value}{CX:CXT}{k:Nat}{fa a:Addr}{fd:FuncData}{x:Str}{sp:Sp}{s₁:Shared}{vs:List Value}{ns:List Int}
  (KX:K.In s₁.heap) (hns:s₁.heap.Ns mainGlobals mg) (hb:s₁.heap.Ns builtinsNs mb) (hbb:∀x:Str,x≠"__name__"->mb x=bootBuiltins x) (hlim:s₁.heap.NoLimit) (hg:s₁.gens = #[])
  (ha:s₁.heap.get? a=some { cls:=.type "list",data:=.seq vs.toArray }) (hi:IntsAre vs ns) (hl:ns.length<=sizeLine) (hr:Room k callerA)
  (F:∀base:Heap,K.In base->base.Ns mainGlobals mg->FnOk P w K mg base CX k fa fd [x] sp) (hbind:∀(s:Shared) (u:Value),BindsTo s fd ⟨[u],[]⟩ [(x,u)])
  (hsp:∀H:Hp,Only H->SqL K H a (ns.map V.int)->sp [.ref a] H (λv _=>v=.bl true) λ_ _ _=>False)
  (hCX:∀H e s',CX [] H s₁ (λ_ _ _=>False) e s'->False) :
  codeAny (model P w) callerA (.call (.ref fa) ⟨[.ref a],[]⟩) (λr s'=>r=.ok (.ret (.bool true))/\OldK s₁.heap s'.heap/\s'.os=s₁.os/\AllBare s'.gens) s₁:=by
 have rv:=zhs hi;have lenV:=hi.length;have core:∀H:Hp,Only H->SqL K H a (ns.map V.int)->HOk P w H s₁.heap->(∀b,H b≠none->b=a)->(H a≠none->K.lookup a=none) ->
   codeAny (model P w) callerA (.call (.ref fa) ⟨[.ref a],[]⟩) (λr s'=>r=.ok (.ret (.bool true))/\OldK s₁.heap s'.heap/\s'.os=s₁.os/\AllBare s'.gens) s₁:=by
  intro H hO hS hok hA hK;have base_of:∀{b:Addr} {o:Obj},s₁.heap.get? b=some o->H b=none->(hidT s₁.heap H).get? b=some o:=λe n=>zor e n
  have noA:∀{b:Addr} {o:Obj} {es:Array DictEntry} {ep:Nat},s₁.heap.get? b=some o->o.data=.dict es ep->H b=none:=fun{b o es ep} e d=>by
   cases q:H b with
   | none=>rfl
   | some u=>
    have e':b=a:=hA b (by rw[q];simp);subst e';rw[ha]at e;cases e;have d':Data.seq vs.toArray _=Data.dict es ep:=d
    cases d'
  have nsK:∀{b:Addr} {m:Str->Option Value},s₁.heap.Ns b m->(hidT s₁.heap H).Ns b m:=fun{b m} ⟨o,es,ep,e,d,r⟩=>⟨o,es,ep,base_of e (noA e d),d,r⟩
  have hKb:K.In (hidT s₁.heap H):=λb o e=>base_of (KX b o e) (by
   cases q:H b with
   | none=>rfl
   | some u=>
    have e':b=a:=hA b (by rw[q];simp);subst e';rw[hK (by rw[q];simp)]at e;cases e)
  have hM:Mod K mg (hidT s₁.heap H):=⟨hKb,nsK hns,⟨mb,nsK hb,hbb⟩,let ⟨mc,h1,h2⟩:=hlim;⟨mc,nsK h1,h2⟩⟩;have e0:Env0 P w K mg (hidT s₁.heap H) callerA [] s₁ H:=⟨Z,hM,λb o e=>zsz e,Nat.le_of_eq (zl8 _ _),trivial,λb hb=>absurd (show b∈([]:List Addr) from hb) (by simp),hok,.of_eq hg⟩;refine codeAny_mono ((F _ hKb (nsK hns)).run callerA [] s₁ H ⟨[.ref a],[]⟩ [.ref a] [.ref a] _ _ hr e0 (hbind s₁ (.ref a)) (.cons rfl .nil) (hsp H hO hS)) λr s' h=>?_
  cases r with
  | error e=>exact(hCX H e s' h).elim
  | ok fl=>
   cases fl with
   | next=>exact Je h
   | brk=>exact Je h
   | cont=>exact Je h
   | ret u=>
    obtain⟨v,H',os,bare,un,hok',r',q⟩:=h;have q':v=.bl true:=q;subst q';obtain rfl:u=Value.bool true:=r';refine⟨Z,OldK.of_keep λb o e=>?_,os,bare⟩
    cases q:H b with
    | none=>exact un.keep b o e q (by intro z;exact absurd (show b∈([]:List Addr) from z) (by simp)) (by simp)
    | some u=>
     rcases hO b with z | ⟨ob,xs,z⟩
     ·rw[q]at z;cases z
     ·have z2:=un.frzs b ob _ z;obtain⟨e1,_⟩:=hok b _ z;obtain⟨e2,_⟩:=hok' b _ z2;rw[e]at e1;cases e1;exact e2
 cases hk:K.lookup a with
 | some o=>
  have e:=KX a o hk;rw[ha]at e
  cases e;refine core (λ_=>none) (λ_=>.inl rfl) (.inr ⟨_,vs.toArray,_,hk,Z,Z,Z,by rw[Ys,lenV];exact hl,by simpa using rv⟩) (λb u z=>by have z':(none:Option HO)=some u:=z;cases z') (λb z=>absurd rfl z) λz=>absurd rfl z
 | none=>
  refine core (λb=>if b=a then some (.frz { cls:=.type "list",data:=.seq vs.toArray } (.lst (ns.map V.int))) else none) (λb=>?_) (.inl (.inr ⟨{ cls:=.type "list",data:=.seq vs.toArray },Yl rfl⟩)) (λb u z=>?_) (λb z=>?_) λ_=>hk
  ·by_cases hb:b=a
   ·exact .inr ⟨_,_,Yl hb⟩
   ·exact .inl (Yh hb)
  ·by_cases hb:b=a
   ·have z':=(Yl hb).symm.trans z
    cases z';subst hb;exact⟨ha,by rw[Yd];exact hl,vs,_,rv,ha⟩
   ·have z':=(Yh hb).symm.trans z
    cases z'
  ·by_cases hb:b=a
   ·exact hb
   ·exact absurd (Yh hb) z
theorem walk_of{l:W.OpenLaw}{n k:Nat}{q:Program}{loose:List Str}{XP:(Str->Option Value)->Heap->Prop}{YP:World->Heap->Prop}{d:DefRec}{K:Params->W.Frag}{CX:World->CXT}{sp:World->Sp}{x:Str}
  (hn:l.most=some n) (hn2:n<=sizeLine) (hdf:d.params.defaults=[]) (hr:Room k callerA)
  (hY:∀(w:World) (h:Heap),YP w h->(K w.params).In h)
  (F:∀(w:World) (mg:Str->Option Value) (fa:Addr) (h:Heap),(K w.params).In h->h.Ns mainGlobals mg->mg d.name=some (.ref fa) ->
   ∃fd:FuncData,(∀(s:Shared) (u:Value),BindsTo s fd ⟨[u],[]⟩ [(x,u)]) /\
    ∀base:Heap,(K w.params).In base->base.Ns mainGlobals mg->FnOk l.prog w (K w.params) mg base (CX w) k fa fd [x] (sp w))
  (hsp:∀(w:World) (H:Hp) (a:Addr) (ns:List Int),ns.length<=n->Only H->SqL (K w.params) H a (ns.map V.int)->sp w [.ref a] H (λv _=>v=.bl true) λ_ _ _=>False)
  (hCX:∀(w:World) (H:Hp) (s:Shared) (e:Value) (s':Shared),CX w [] H s (λ_ _ _=>False) e s'->False) :
  W.WalkO q loose XP YP l.row.toRowW d [] (λf vs=>PySem.call f vs):=by
 refine Att.attach_call hn hdf λw s₀ s₁ mg mb fa o pm cd doc a vs ns G Y ho hd hcd hmg hobj hints hlen hg=>?_
 have KX:=hY w _ Y;obtain⟨fd,hb,hF⟩:=F w mg fa _ KX G.T.g hmg;exact zps KX G.T.g G.T.b G.T.builtins G.T.nolimit hg hobj hints (Yr hlen hn2) hr hF hb (λH hO hS=>hsp w H a ns hlen hO hS) λH e s'=>hCX w H s₁ e s'
def za0(s:Stmt)(j:Nat):Stmt:=match s with
 | .ClassDef _ _ _ body _ _ _ _ _ _ _=>body.getD j (.Pass ⟨0,0,0,0⟩)
 | _=>.Pass ⟨0,0,0,0⟩
def zcv(s:Stmt):Arguments:=match s with
 | .FunctionDef _ a _ _ _ _ _ _ _ _=>a
 | _=>{ posonlyargs:=[],args:=[],vararg:=none,kwonlyargs:=[],kw_defaults:=[],kwarg:=none,defaults:=[] }
def zb5(s:Stmt):List Stmt:=match s with
 | .FunctionDef _ _ b _ _ _ _ _ _ _=>b
 | _=>[]
def zak(s:Stmt):Scope:=match s with
 | .FunctionDef _ _ _ _ _ _ sc _ _ _=>sc
 | _=>{ kind:=.function,names:=[],isGenerator:=false,isCoroutine:=false }
abbrev CX0:CXT:=λ_ _ _ _ _ _=>False
abbrev E0:XK:=λ_ _ _=>False
section
variable{X:Cx}
theorem pv(i:Nat){x:Str}{pos:Pos}(hN:X.N[i]? = some x:=by rfl)(hv:Vis X.env.scope x:=by first | exact Or.inl rfl | exact Or.inr (Or.inl rfl) | exact Or.inr (Or.inr rfl))(hd:(x == ("__debug__" : Str))=false:=by decide)
  (hcd:(x == ("__classdict__" : Str))=false:=by decide):PE X (.Name x pos) (tVar i):=zwo hN hv hd hcd
end
theorem iteF{A B:Prop}(h:B):if false=true then A else B:=by
 rw[Yh Yt];exact h
theorem iteT{A B:Prop}(h:A):if true=true then A else B:=by
 rw[Yl rfl];exact h
def Same(H H':Hp):Prop:=∀b o,H b=some o->H' b=some o
theorem Same.refl(H:Hp):Same H H:=λ_ _ h=>h
theorem Same.trans{H H1 H2:Hp}(a:Same H H1)(b:Same H1 H2):Same H H2:=λc o h=>b c o (a c o h)
theorem Same.free{H H':Hp}(e:Same H H'){l:Addr}(h:H' l=Option.none):H l=Option.none:=by
 cases q:H l with
 | none=>rfl
 | some o=>
  rw[e l o q]at h
  cases h
theorem Same.seq{K:W.Frag}{H H':Hp}{a:Addr}{xs:List V}(e:Same H H')(h:SqL K H a xs):SqL K H' a xs:=by
 rcases h with(h | ⟨o,h⟩) | h
 ·exact .inl (.inl (e _ _ h))
 ·exact .inl (.inr ⟨o,e _ _ h⟩)
 ·exact .inr h
end L2
set_option Elab.async false
set_option linter.all false
set_option maxRecDepth 100000
namespace L2
open PySem PySem.Spec PyProof.Rows
abbrev kn(b:Bool):String:=if b then "tuple_iterator" else "list_iterator"
def SqAt(b:Bool)(h:Heap)(l:Addr)(items:Array Value):Prop:=match b with
 | true=>h.IsTuple l items
 | false=>h.IsList l items
def IterAt(b:Bool)(h:Heap)(it l:Addr)(i:Nat):Prop:=match b with
 | true=>h.IsTupleIter it l i
 | false=>h.IsListIter it l i
theorem SqAt.at{b:Bool}{h h':Heap}{l:Addr}{items:Array Value}(x:SqAt b h l items)(e:∀o,h.get? l=some o->h'.get? l=some o):SqAt b h' l items:=by
 cases b with
 | true=>obtain⟨o,ho,r⟩:=x;exact⟨o,e o ho,r⟩
 | false=>exact Heap.IsList.at x e
theorem IterAt.obj{b:Bool}{h:Heap}{it l:Addr}{i:Nat}(x:IterAt b h it l i):∃o,h.get? it=some o/\∀v,o.data≠.cell v:=by
 cases b <;> (obtain⟨o,ho,c,d⟩:=x;exact⟨o,ho,λv z=>by rw[d]at z;cases z⟩)
theorem IterAt.at{b:Bool}{h h':Heap}{it l:Addr}{i:Nat}(x:IterAt b h it l i)(e:∀o,h.get? it=some o->h'.get? it=some o):IterAt b h' it l i:=by
 cases b <;> (obtain⟨o,ho,r⟩:=x;exact⟨o,e o ho,r⟩)
section
variable{prog:Program}{w:World}{A:Around}{E:Value->Shared->Prop}{s:Shared}
theorem zg5{it t:Addr}{i:Nat}{items:Array Value}{x:Value}{Q:Value->Shared->Prop}(hit:s.heap.IsTupleIter it t i)(ht:s.heap.IsTuple t items)(hx:items[i]? = some x)
  (hQ:∀h',h'.IsTupleIter it t (i+1)->Heap.SameBut it s.heap h'->Q x { s with heap:=h' }):wpAny (model prog w) A (Builtin.SmallTypes.nextOf (.ref it)) Q E s:=by
 obtain⟨o,ho,hc,hd⟩:=id hit;obtain⟨ol,hol,_,nl,hdl⟩:=ht;unfold Builtin.SmallTypes.nextOf;refine Ya (Jb (name:=Str.ofString "__next__") hit.typeIs F.slot_tuple_iterator_next (Y8 F.slot_tuple_iterator_next hit.typeIs F.entry_tuple_iterator_next ?_ (F.args_tuple_iterator_next_1 _)));show wpAny _ _ (field (.ref it) 0 >>= _) _ _ s;refine Ya (Jj ho hd (x:=.ref t) rfl ?_);show wpAny _ _ (if (Value.ref t == Value.none)=true then _ else _) _ _ s;rw[Yh (by intro z;cases z)];show wpAny _ _ (field (.ref it) 1 >>= _) _ _ s;refine Ya (Jj ho hd (x:=.int i 0) rfl ?_);show wpAny _ _ (seqItems? (.ref t) >>= _) _ _ s;refine Ya (Jq hol hdl ?_);simp only[Int.toNat_natCast,hx];refine Ya (wpAny_setField ho hd (by simp) (Yb ⟨x,Z,Yb (hQ _ ⟨_,Heap.get?_update_self _ ho (Obj.isFreed_of_fields (Obj.data_mapFields hd _)),(Obj.cls_mapFields ..).trans hc,?_⟩ (Heap.SameBut.update ..))⟩));rw[Obj.data_mapFields hd];simp[rawInt]
theorem zim{it t:Addr}{i:Nat}{items:Array Value}{Q:Value->Shared->Prop}(hh:A.handled=none)(hit:s.heap.IsTupleIter it t i)(ht:s.heap.IsTuple t items)(hx:items[i]? = none)
  (hE:∀h' e,Heap.ExtBut it s.heap h'->(∃o,h'.get? e=some o/\o.cls=.type "StopIteration")->E (.ref e) { s with heap:=h' }):wpAny (model prog w) A (Builtin.SmallTypes.nextOf (.ref it)) Q E s:=by
 obtain⟨o,ho,hc,hd⟩:=id hit;obtain⟨ol,hol,_,nl,hdl⟩:=ht;unfold Builtin.SmallTypes.nextOf;refine Ya (Jb (name:=Str.ofString "__next__") hit.typeIs F.slot_tuple_iterator_next (Y8 F.slot_tuple_iterator_next hit.typeIs F.entry_tuple_iterator_next ?_ (F.args_tuple_iterator_next_1 _)));show wpAny _ _ (field (.ref it) 0 >>= _) _ _ s;refine Ya (Jj ho hd (x:=.ref t) rfl ?_);show wpAny _ _ (if (Value.ref t == Value.none)=true then _ else _) _ _ s;rw[Yh (by intro z;cases z)];show wpAny _ _ (field (.ref it) 1 >>= _) _ _ s;refine Ya (Jj ho hd (x:=.int i 0) rfl ?_);show wpAny _ _ (seqItems? (.ref t) >>= _) _ _ s;refine Ya (Jq hol hdl ?_);simp only[Int.toNat_natCast,hx];refine Ya (wpAny_rule (Ya (wpAny_setField ho hd (by simp) ?_)));show wpAny _ _ (newExc (.type "StopIteration") [] >>= _) _ _ _;refine Ya ?_;simp only[newExc,newTuple];refine Ya (Jm ?_ (by size_fits));refine Ya (m:=firstArgMember _ _) (wpAny_of_eq (a:=Value.none) (by first | rfl | (simp only[firstArgMember];rfl)) ?_);refine Jm ?_ (by size_fits);simp only[raiseNew];refine Ya (wpAny_handled ?_)
 first | rw[show A.in1.handled=none from hh] | rw[hh]
 refine Ya (Yb (wpAny_throw ?_));exact hE _ _ (((Heap.SameBut.update ..).extBut.push _).push _) ⟨_,Yk _ rfl,Z⟩
theorem zfi{b:Bool}{it l:Addr}{i:Nat}{items:Array Value}{x:Value}{Q:Value->Shared->Prop}(hit:IterAt b s.heap it l i)(hl:SqAt b s.heap l items)(hx:items[i]? = some x)
  (hQ:∀h',IterAt b h' it l (i+1)->Heap.SameBut it s.heap h'->Q x { s with heap:=h' }):wpAny (model prog w) A (Builtin.SmallTypes.nextOf (.ref it)) Q E s:=by
 cases b with
 | true=>exact zg5 hit hl hx hQ
 | false=>exact wpAny_nextOf_list_item hit hl hx hQ
theorem zkb{b:Bool}{it l:Addr}{i:Nat}{items:Array Value}{Q:Value->Shared->Prop}(hh:A.handled=none)(hit:IterAt b s.heap it l i)(hl:SqAt b s.heap l items)(hx:items[i]? = none)
  (hE:∀h' e,Heap.ExtBut it s.heap h'->(∃o,h'.get? e=some o/\o.cls=.type "StopIteration")->E (.ref e) { s with heap:=h' }):wpAny (model prog w) A (Builtin.SmallTypes.nextOf (.ref it)) Q E s:=by
 cases b with
 | true=>exact zim hh hit hl hx hE
 | false=>exact wpAny_nextOf_list_end hh hit hl hx hE
theorem zl6{b:Bool}{l:Addr}{items:Array Value}{Q:Value->Shared->Prop}(hl:SqAt b s.heap l items)
  (hQ:Q (.ref s.heap.objs.size) { s with heap:=s.heap.push { cls:=.type (kn b),data:=.fields #[.ref l,.int 0 0] } }):wpAny (model prog w) A (pyIter (.ref l)) Q E s:=by
 cases b with
 | true=>exact wpAny_pyIter_tuple hl hQ
 | false=>exact wpAny_pyIter_list hl hQ
structure ZSt(b1 b2:Bool)(z TI TO i1 i2 l1 l2:Addr)(f0:Value)(k:Nat)(h:Heap):Prop where
 zip:IsZip h z TI TO f0
 ti:IsPair h TI (.ref i1) (.ref i2)
 to:∃a b,IsPair h TO a b
 it1:IterAt b1 h i1 l1 k
 it2:IterAt b2 h i2 l2 k
theorem ZSt.at{b1 b2:Bool}{z TI TO i1 i2 l1 l2:Addr}{f0:Value}{k:Nat}{h h':Heap}(x:ZSt b1 b2 z TI TO i1 i2 l1 l2 f0 k h)(e:∀b∈[z,TI,TO,i1,i2],∀o,h.get? b=some o->h'.get? b=some o) :
  ZSt b1 b2 z TI TO i1 i2 l1 l2 f0 k h':=
 ⟨e z (by simp) _ x.zip,e TI (by simp) _ x.ti,let ⟨a,b,q⟩:=x.to;⟨a,b,e TO (by simp) _ q⟩,x.it1.at λo q=>e i1 (by simp) o q,x.it2.at λo q=>e i2 (by simp) o q⟩
theorem zon{b1 b2:Bool}{z TI TO i1 i2 l1 l2:Addr}{k:Nat}{xs ys:Array Value}{x y:Value}{Q:Value->Shared->Prop}(D:ZipApart z TI TO i1 i2 l1 l2)(S:ZSt b1 b2 z TI TO i1 i2 l1 l2 .none k s.heap)
  (hl1:SqAt b1 s.heap l1 xs) (hl2:SqAt b2 s.heap l2 ys) (hx:xs[k]? = some x) (hy:ys[k]? = some y)
  (hQ:∀h',ZSt b1 b2 z TI TO i1 i2 l1 l2 (rawInt s.heap.objs.size) (k+1) h'->IsPair h' s.heap.objs.size x y->h'.objs.size=s.heap.objs.size+1 ->
   (∀c o,c≠z->c≠TO->c≠i1->c≠i2->s.heap.get? c=some o->h'.get? c=some o)->Q (.ref s.heap.objs.size) { s with heap:=h' }) :
  wpAny (model prog w) A (Builtin.«zip.__next__» ⟨[.ref z],[]⟩) (λfin s'=>∃v,fin=.done (.ret v)/\Q v s') E s:=by
 obtain⟨hz,hTI,⟨a,b,hTO⟩,h1,h2⟩:=S;show wpAny _ _ (field (.ref z) 2 >>= _) _ _ _;refine Ya (Jj hz rfl (x:=.bool false) rfl ?_);show wpAny _ _ (field (.ref z) 3 >>= _) _ _ _;refine Ya (Jj hz rfl (x:=.ref TI) rfl (Ya (Jq hTI rfl ?_)));show wpAny _ _ (Builtin.SmallTypes.ownedTupleIsFree (.ref z) >>= _) _ _ _;refine Ya ?_;unfold Builtin.SmallTypes.ownedTupleIsFree;refine Ya (Jj hz rfl (x:=.none) rfl (Yb ?_));simp only[if_true];refine Ya (wpAny_rule (Ya (Jj hz rfl (x:=.ref TO) rfl ?_)));refine Ya (Jn hz (by simp) λg1 z1 e1=>?_);replace z1:IsZip g1 z TI TO .ellipsis:=z1;refine Ya ?_;simp only[List.zipIdx_cons,List.zipIdx_nil,List.forIn_cons,List.forIn_nil];refine Ya (Ya (wpAny_onRaise ?_));show wpAny _ _ (Builtin.SmallTypes.nextOf (.ref i1) >>= _) _ _ _;have k1:∀c o,c≠z->s.heap.get? c=some o->g1.get? c=some o:=λc o hc e=>e1.extBut c o hc e
 refine Ya (zfi (s:={ s with heap:=g1 }) (h1.at λo q=>k1 i1 o D.i1z q) (hl1.at λo q=>k1 l1 o D.l1z q) hx λg2 t2 e2=>Yb ?_);have k2:∀c o,c≠z->c≠i1->s.heap.get? c=some o->g2.get? c=some o:=λc o hc hd e=>e2.extBut c o hd (k1 c o hc e)
 have p2:IsPair g2 TO a b:=k2 TO _ D.TOz D.TOi1 hTO;refine Ya (Jq p2 rfl (Ya (wpAny_updateSeq_pair p2 λg3 p3 e3=>?_)));replace p3:IsPair g3 TO x b:=p3;refine Ya (wpAny_letGo (Yb ?_));refine Ya (Ya (wpAny_onRaise ?_));show wpAny _ _ (Builtin.SmallTypes.nextOf (.ref i2) >>= _) _ _ _;have k3:∀c o,c≠z->c≠i1->c≠TO->s.heap.get? c=some o->g3.get? c=some o:=λc o hc hd he e=>e3.extBut c o he (k2 c o hc hd e)
 refine Ya (zfi (s:={ s with heap:=g3 }) (h2.at λo q=>k3 i2 o D.i2z D.i12.symm D.TOi2.symm q) (hl2.at λo q=>k3 l2 o D.l2z D.l2i1 D.l2TO q) hy λg4 t4 e4=>Yb ?_);have p4:IsPair g4 TO x b:=e4.extBut _ _ D.TOi2 p3;refine Ya (Jq p4 rfl (Ya (wpAny_updateSeq_pair p4 λg5 p5 e5=>?_)));replace p5:IsPair g5 TO x y:=p5;refine Ya (wpAny_letGo (Yb (Yb ?_)));refine Ya (Jq p5 rfl (Ya (wpAny_newTuple ?_)));have sz:g5.objs.size=s.heap.objs.size:=by rw[e5.1,e4.1,e3.1,e2.1,e1.1]
 have z5:IsZip g5 z TI TO .ellipsis:=e5.extBut _ _ D.TOz.symm (e4.extBut _ _ D.i2z.symm (e3.extBut _ _ D.TOz.symm (e2.extBut _ _ D.i1z.symm z1)));have k5:∀c o,c≠z->c≠TO->c≠i1->c≠i2->s.heap.get? c=some o->g5.get? c=some o:=λc o c1 c2 c3 c4 e=>e5.extBut _ _ c2 (e4.extBut _ _ c4 (k3 c o c1 c3 c2 e))
 have t5:IterAt b1 g5 i1 l1 (k+1):=t2.at λo q=>e5.extBut _ _ D.TOi1.symm (e4.extBut _ _ D.i12 (e3.extBut _ _ D.TOi1.symm q))
 have u5:IterAt b2 g5 i2 l2 (k+1):=t4.at λo q=>e5.extBut _ _ D.TOi2.symm q
 have zlt:z<g5.objs.size:=Yn z5;show wpAny _ _ (Builtin.SmallTypes.ownedTupleHandOut (.ref z) (.ref g5.objs.size) >>= _) _ _ _;refine Ya ?_;unfold Builtin.SmallTypes.ownedTupleHandOut;have z6:IsZip (g5.push { cls:=.type "tuple",data:=.seq #[x,y] }) z TI TO .ellipsis:=Ye _ z5;refine Ya (Jn z6 (by simp) λg7 z7 e7=>?_);replace z7:IsZip g7 z TI TO (rawInt g5.objs.size):=z7;refine Jn z7 (by simp) λg8 z8 e8=>?_
 replace z8:IsZip g8 z TI TO (rawInt g5.objs.size):=z8;have up:∀c o,c≠z->g5.get? c=some o->g8.get? c=some o:=λc o c1 e=>e8.extBut _ _ c1 (e7.extBut _ _ c1 (Ye _ e))
 have p8:IsPair g8 g5.objs.size x y:=e8.extBut _ _ (Nat.ne_of_gt zlt) (e7.extBut _ _ (Nat.ne_of_gt zlt) (Yk _ rfl));have s8:g8.objs.size=g5.objs.size+1:=by rw[e8.1,e7.1,Heap.size_push]
 rw[sz]at z8 p8 s8;refine Yb ⟨_,Z,?_⟩;show Q (.ref g5.objs.size) _;rw[sz];exact hQ g8 ⟨z8,up _ _ D.TIz (k5 TI _ D.TIz D.TITO D.TIi1 D.TIi2 hTI),⟨_,_,up _ _ D.TOz p5⟩,t5.at λo q=>up _ o D.i1z q,u5.at λo q=>up _ o D.i2z q⟩ p8 s8 λc o c1 c2 c3 c4 e=>up c o c1 (k5 c o c1 c2 c3 c4 e)
theorem zs1{b1 b2:Bool}{z TI TO i1 i2 l1 l2:Addr}{k:Nat}{xs ys:Array Value}{Q:Fin->Shared->Prop}(hh:A.handled=none)(D:ZipApart z TI TO i1 i2 l1 l2)(S:ZSt b1 b2 z TI TO i1 i2 l1 l2 .none k s.heap)
  (hl1:SqAt b1 s.heap l1 xs) (hl2:SqAt b2 s.heap l2 ys) (hend:xs[k]? = none\/ys[k]? = none)
  (hE:∀h' e,(∀c o,c≠z->c≠TO->c≠i1->c≠i2->s.heap.get? c=some o->h'.get? c=some o)->(∃o,h'.get? e=some o/\o.cls=.type "StopIteration")->E (.ref e) { s with heap:=h' }) :
  wpAny (model prog w) A (Builtin.«zip.__next__» ⟨[.ref z],[]⟩) Q E s:=by
 obtain⟨hz,hTI,⟨a,b,hTO⟩,h1,h2⟩:=S;show wpAny _ _ (field (.ref z) 2 >>= _) _ _ _;refine Ya (Jj hz rfl (x:=.bool false) rfl ?_);show wpAny _ _ (field (.ref z) 3 >>= _) _ _ _;refine Ya (Jj hz rfl (x:=.ref TI) rfl (Ya (Jq hTI rfl ?_)));show wpAny _ _ (Builtin.SmallTypes.ownedTupleIsFree (.ref z) >>= _) _ _ _;refine Ya ?_;unfold Builtin.SmallTypes.ownedTupleIsFree;refine Ya (Jj hz rfl (x:=.none) rfl (Yb ?_));simp only[if_true];refine Ya (wpAny_rule (Ya (Jj hz rfl (x:=.ref TO) rfl ?_)));refine Ya (Jn hz (by simp) λg1 z1 e1=>?_);replace z1:IsZip g1 z TI TO .ellipsis:=z1;refine Ya ?_;simp only[List.zipIdx_cons,List.zipIdx_nil,List.forIn_cons,List.forIn_nil];refine Ya (Ya (wpAny_onRaise ?_));show wpAny _ _ (Builtin.SmallTypes.nextOf (.ref i1) >>= _) _ _ _;have k1:∀c o,c≠z->s.heap.get? c=some o->g1.get? c=some o:=λc o hc e=>e1.extBut c o hc e
 cases hx:xs[k]? with
 | none=>
  refine Ya (zkb (s:={ s with heap:=g1 }) hh (h1.at λo q=>k1 i1 o D.i1z q) (hl1.at λo q=>k1 l1 o D.l1z q) hx λg2 e e2 he=>?_);obtain⟨oe,hoe,hce⟩:=he;have z2:IsZip g2 z TI TO .ellipsis:=e2 _ _ D.i1z.symm z1;have ez:e≠z:=λq=>by subst q;rw[z2]at hoe;cases hoe;simp at hce
  exact Jn z2 (by simp) λg3 _ e3=>hE g3 e (λc o c1 _ c3 _ q=>e3.extBut _ _ c1 (e2 _ _ c3 (k1 c o c1 q))) ⟨oe,e3.extBut _ _ ez hoe,hce⟩
 | some x=>
  have hy:ys[k]? = none:=by
   rcases hend with q | q
   ·rw[hx]at q;cases q
   ·exact q
  refine Ya (zfi (s:={ s with heap:=g1 }) (h1.at λo q=>k1 i1 o D.i1z q) (hl1.at λo q=>k1 l1 o D.l1z q) hx λg2 t2 e2=>Yb ?_);have k2:∀c o,c≠z->c≠i1->s.heap.get? c=some o->g2.get? c=some o:=λc o hc hd e=>e2.extBut c o hd (k1 c o hc e)
  have p2:IsPair g2 TO a b:=k2 TO _ D.TOz D.TOi1 hTO;refine Ya (Jq p2 rfl (Ya (wpAny_updateSeq_pair p2 λg3 p3 e3=>?_)));refine Ya (wpAny_letGo (Yb ?_));refine Ya (Ya (wpAny_onRaise ?_));show wpAny _ _ (Builtin.SmallTypes.nextOf (.ref i2) >>= _) _ _ _;have k3:∀c o,c≠z->c≠i1->c≠TO->s.heap.get? c=some o->g3.get? c=some o:=λc o hc hd he e=>e3.extBut c o he (k2 c o hc hd e)
  refine Ya (zkb (s:={ s with heap:=g3 }) hh (h2.at λo q=>k3 i2 o D.i2z D.i12.symm D.TOi2.symm q) (hl2.at λo q=>k3 l2 o D.l2z D.l2i1 D.l2TO q) hy λg4 e e4 he=>?_);obtain⟨oe,hoe,hce⟩:=he;have z4:IsZip g4 z TI TO .ellipsis:=e4 _ _ D.i2z.symm (e3.extBut _ _ D.TOz.symm (e2.extBut _ _ D.i1z.symm z1));have ez:e≠z:=λq=>by subst q;rw[z4]at hoe;cases hoe;simp at hce
  exact Jn z4 (by simp) λg5 _ e5=>hE g5 e (λc o c1 c2 c3 c4 q=>e5.extBut _ _ c1 (e4 _ _ c4 (k3 c o c1 c3 c2 q))) ⟨oe,e5.extBut _ _ ez hoe,hce⟩
end
abbrev zq1(b1:Bool)(h:Heap)(l1:Addr):Heap:=h.push { cls:=.type (kn b1),data:=.fields #[.ref l1,.int 0 0] }
abbrev zq2(b1 b2:Bool)(h:Heap)(l1 l2:Addr):Heap:=(zq1 b1 h l1).push { cls:=.type (kn b2),data:=.fields #[.ref l2,.int 0 0] }
abbrev zq3(b1 b2:Bool)(h:Heap)(l1 l2:Addr):Heap:=(zq2 b1 b2 h l1 l2).push { cls:=.type "tuple",data:=.seq #[.ref h.objs.size,.ref (zq1 b1 h l1).objs.size] }
abbrev zq4(b1 b2:Bool)(h:Heap)(l1 l2:Addr):Heap:=(zq3 b1 b2 h l1 l2).push { cls:=.type "tuple",data:=.seq #[.none,.none] }
abbrev zq5(b1 b2:Bool)(h:Heap)(l1 l2:Addr):Heap:=(zq4 b1 b2 h l1 l2).push { cls:=.type "zip",data:=.fields #[.none,.bool false,.bool false,.ref (zq2 b1 b2 h l1 l2).objs.size,.ref (zq3 b1 b2 h l1 l2).objs.size] }
theorem zoi(b1 b2:Bool)(l1 l2:Addr)(xs ys:Array Value):Meets (Builtin.«zip.__new__» ⟨[.type "zip",.ref l1,.ref l2],[]⟩) (λ_ R s=>SqAt b1 s.heap l1 xs/\SqAt b2 s.heap l2 ys /\
   R (.ok (.ret (.ref (zq4 b1 b2 s.heap l1 l2).objs.size))) { s with heap:=zq5 b1 b2 s.heap l1 l2 }):=
 .of_wp λprog w A R s h=>by
  obtain⟨hp,g,d,tk,os⟩:=s;obtain⟨hl1,hl2,h⟩:=h;have hsub:=sub_zip;have q1:SqAt b1 (Shared.heap ⟨hp,g,d,tk,os⟩) l1 xs:=hl1;have q2:SqAt b2 (Shared.heap ⟨hp.push { cls:=.type (kn b1),data:=.fields #[.ref l1,.int 0 0] },g,d,tk,os⟩) l2 ys:=SqAt.at hl2 λo e=>Ye _ e
  wp_walk using zl6 q1,zl6 q2
  exact⟨_,Z,h⟩
theorem zpy{prog:Program}{w:World}{A:Around}{E:Value->Shared->Prop}{s:Shared}{b1 b2:Bool}{l1 l2:Addr}{xs ys:Array Value}{Q:Value->Shared->Prop}(hl1:SqAt b1 s.heap l1 xs)(hl2:SqAt b2 s.heap l2 ys)
  (h:∀h',ZSt b1 b2 (s.heap.objs.size+4) (s.heap.objs.size+2) (s.heap.objs.size+3) s.heap.objs.size (s.heap.objs.size+1) l1 l2 .none 0 h'->(∀c o,s.heap.get? c=some o->h'.get? c=some o)->h'.objs.size=s.heap.objs.size+5 ->
   Q (.ref (s.heap.objs.size+4)) { s with heap:=h' }):wpAny (model prog w) A (call (.type "zip") [.ref l1,.ref l2]) Q E s:=by
 refine callType_new F.called_zip (by decide) (F.typeCall_zip_2 _ _) (F.newCall_zip_2 _ _) (λobj=>F.args_object_init_3 obj _ _) F.entry_zip_new (zoi b1 b2 l1 l2 xs ys) ⟨hl1,hl2,?_⟩;have z1:(zq1 b1 s.heap l1).objs.size=s.heap.objs.size+1:=Heap.size_push ..;have z2:(zq2 b1 b2 s.heap l1 l2).objs.size=s.heap.objs.size+2:=by rw[Heap.size_push,z1]
 have z3:(zq3 b1 b2 s.heap l1 l2).objs.size=s.heap.objs.size+3:=by rw[Heap.size_push,z2]
 have z4:(zq4 b1 b2 s.heap l1 l2).objs.size=s.heap.objs.size+4:=by rw[Heap.size_push,z3]
 have z5:(zq5 b1 b2 s.heap l1 l2).objs.size=s.heap.objs.size+5:=by rw[Heap.size_push,z4]
 have up1:∀{h:Heap} {o:Obj} {c:Addr} {u:Obj},h.get? c=some u->(h.push o).get? c=some u:=λe=>Ye _ e
 have g5:(zq5 b1 b2 s.heap l1 l2).get? (zq4 b1 b2 s.heap l1 l2).objs.size=some _:=Yk _ rfl;have g4:(zq5 b1 b2 s.heap l1 l2).get? (zq3 b1 b2 s.heap l1 l2).objs.size=some _:=up1 (Yk _ rfl);have g3:(zq5 b1 b2 s.heap l1 l2).get? (zq2 b1 b2 s.heap l1 l2).objs.size=some _:=up1 (up1 (Yk _ rfl));have g2:(zq5 b1 b2 s.heap l1 l2).get? (zq1 b1 s.heap l1).objs.size=some _:=up1 (up1 (up1 (Yk _ rfl)));have g1:(zq5 b1 b2 s.heap l1 l2).get? s.heap.objs.size=some _:=up1 (up1 (up1 (up1 (Yk _ rfl))));show _/\_;rw[z2,z3,z4]at g5;rw[z1,z2]at g3;rw[z3]at g4;rw[z1]at g2;rw[z4];refine⟨⟨_,g5,Z⟩,h _ ⟨g5,g3,⟨_,_,g4⟩,?_,?_⟩ (λc o x=>up1 (up1 (up1 (up1 (up1 x))))) z5⟩
 ·cases b1 <;> exact⟨_,g1,Z,Z⟩
 ·cases b2 <;> exact⟨_,g2,Z,Z⟩
theorem zft{prog:Program}{w:World}{A:Around}{E:Value->Shared->Prop}{s:Shared}{b1 b2:Bool}{z TI TO i1 i2 l1 l2:Addr}{k:Nat}{xs ys:Array Value}{x y:Value}{Q:Option Value->Shared->Prop}(D:ZipApart z TI TO i1 i2 l1 l2)
  (S:ZSt b1 b2 z TI TO i1 i2 l1 l2 .none k s.heap) (hl1:SqAt b1 s.heap l1 xs) (hl2:SqAt b2 s.heap l2 ys) (hx:xs[k]? = some x) (hy:ys[k]? = some y)
  (hQ:∀h',ZSt b1 b2 z TI TO i1 i2 l1 l2 (rawInt s.heap.objs.size) (k+1) h'->IsPair h' s.heap.objs.size x y->h'.objs.size=s.heap.objs.size+1 ->
   (∀c o,c≠z->c≠TO->c≠i1->c≠i2->s.heap.get? c=some o->h'.get? c=some o)->Q (some (.ref s.heap.objs.size)) { s with heap:=h' }):wpAny (model prog w) A (pyNext (.ref z)) Q E s:=by
 have hT:s.TypeIs (.ref z) "zip":=⟨_,S.zip,Z⟩;unfold pyNext;refine Ya (wpAny_attempt (Jb (name:=Str.ofString "__next__") hT F.slot_zip_next (Y8 F.slot_zip_next hT F.entry_zip_next ?_ (F.args_zip_next_1 _))));exact zon D S hl1 hl2 hx hy λh' a1 a2 a3 a4=>Yb (hQ h' a1 a2 a3 a4)
theorem zf1{prog:Program}{w:World}{A:Around}{E:Value->Shared->Prop}{s:Shared}{b1 b2:Bool}{z TI TO i1 i2 l1 l2:Addr}{k:Nat}{xs ys:Array Value}{Q:Option Value->Shared->Prop}(hh:A.handled=none)(D:ZipApart z TI TO i1 i2 l1 l2)
  (S:ZSt b1 b2 z TI TO i1 i2 l1 l2 .none k s.heap) (hl1:SqAt b1 s.heap l1 xs) (hl2:SqAt b2 s.heap l2 ys) (hend:xs[k]? = none\/ys[k]? = none)
  (hQ:∀h',(∀c o,c≠z->c≠TO->c≠i1->c≠i2->s.heap.get? c=some o->h'.get? c=some o)->Q none { s with heap:=h' }):wpAny (model prog w) A (pyNext (.ref z)) Q E s:=by
 have hT:s.TypeIs (.ref z) "zip":=⟨_,S.zip,Z⟩;unfold pyNext;refine Ya (wpAny_attempt (Jb (name:=Str.ofString "__next__") hT F.slot_zip_next (Y8 F.slot_zip_next hT F.entry_zip_next ?_ (F.args_zip_next_1 _))));refine zs1 hh D S hl1 hl2 hend λh' e hk ⟨o,ho,hc⟩=>?_
 exact Ya (wpAny_isInstance (T:="StopIteration") (b:=true) ⟨o,ho,hc⟩ isSubtype_stop (Yb (hQ _ hk)))
section
variable{prog:Program}{w:World}{A:Around}{R:Result->Shared->Prop}{s:Shared}
abbrev E00:Value->Shared->Prop:=λ_ _=>False
abbrev zv2(ifs:List Expr)(env:Env):Sem Bool:=
 forIn ifs true λc r=>if r=true then do
   let ok <- isTrue c env (eval c env)
   pure (ForInStep.yield ok)
  else pure (ForInStep.yield r)
theorem zk6{elt tg iter:Expr}{ifs:List Expr}{scope:Scope}{pos:Pos}{it acc:Value}{env:Env}(J:Nat->Shared->Prop)
  (turn:∀n s,J n s->wpAny (model prog w) A (pyNext it) (λr s1=>match r with
   | none=>R (.ok .next) s1
   | some v=>wpAny (model prog w) A (letOwnedTupleGo tg it v) (λ_ s2=>wpAny (model prog w) A (assign tg env v) (λ_ s3=>
     wpAny (model prog w) A (zv2 ifs env) (λok s4=>
      if ok=true then
       wpAny (model prog w) A (eval elt env) (λx s5=>wpAny (model prog w) A (call (.builtin "list.append") [acc,x]) (λ_ s6=>∃m,m<n/\J m s6) E00 s5) E00 s4
      else ∃m,m<n/\J m s4) E00 s3) E00 s2) E00 s1) E00 s)
  (n:Nat) (h:J n s):codeAny (model prog w) A (.compLoop (.ListComp elt [⟨tg,iter,ifs,0⟩] scope pos) 0 it acc env) R s:=by
 have fl:∀{α : Type} {t:Sem α} {Q : α->Shared->Prop} {E:Value->Shared->Prop} {s:Shared},wpAny (model prog w) A t Q E00 s->wpAny (model prog w) A t Q E s:=λh=>wpAny_mono h (λ_ _ q=>q) λ_ _ z=>z.elim
 refine codeAny_loop rfl J (λn s hJ=>?_) n h;show wpAny _ A ((compTurn (.ListComp elt [⟨tg,iter,ifs,0⟩] scope pos) 0 it acc env).onRaise _) _ _ s;refine wpAny_noted ?_;rw[compTurn_list];refine Ya (wpAny_standAt (Ya (thn (fl (turn n s hJ)) λr s1 h1=>?_)))
 cases r with
 | none=>exact Yb h1
 | some v=>
  refine Ya (thn (fl h1) λ_ s2 h2=>?_);refine Ya (thn (fl h2) λ_ s3 h3=>?_);refine Ya (thn (fl h3) λok s4 h4=>?_)
  cases ok with
  | false=>exact Yb ⟨rfl,h4⟩
  | true=>
   refine Ya (Ya (thn (fl h4) λx s5 h5=>?_));exact Ya (thn (fl h5) λ_ s6 h6=>Yb (Yb ⟨Z,h6⟩))
end
def blk(X:Cx)(N:List Str)(scope:Scope)(cl:List (Str×Addr))(C:Addr)(s:Shared)(H:Hp)(fp:List Addr):Cx:=
 { X with N:=N,s₀:=s,H₀:=H,env:=compEnvC scope cl C X.env,outer:=X.stack,ex:=fp,fn:=λ_=>false,pn:=[],xe:=λ_ _=>False }
structure Blk(X:Cx)(N:List Str)(scope:Scope)(cl:List (Str×Addr))(mp:List (Option Nat)):Prop where
 clos:closureFor scope X.env=pure cl
 cell:∀y∈scope.names,y.2≠.cell
 kind:scope.kind=.function
 nms:∀y∈scope.names,y.2=.local->scope.names.lookup y.1=some .local
 nd:N.Nodup
 sub:∀x c,cl.lookup x=some c->X.env.cells.lookup x=some c
 has:∀x,((relabel scope X.env).names.lookup x=some .cell\/(relabel scope X.env).names.lookup x=some .free)->∃c,cl.lookup x=some c
 len:mp.length=N.length
 map:∀(i j:Nat) (x:Str),mp[i]? = some (some j)->N[i]? = some x->X.N[j]? = some x/\(X.env.scope.names.lookup x=some .cell\/X.env.scope.names.lookup x=some .free) /\
  ((relabel scope X.env).names.lookup x=some .cell\/(relabel scope X.env).names.lookup x=some .free)
def st0(mp:List (Option Nat))(σ : St):St:=mp.map λo=>match o with
 | some j=>(σ[j]?).getD none
 | none=>none
section
variable{X:Cx}{pins:List (Addr×Obj)}{σ : St}{H:Hp}{s:Shared}{N:List Str}{scope:Scope}{cl:List (Str×Addr)}{mp:List (Option Nat)}{fp:List Addr}
theorem zr1(B:Blk X N scope cl mp)(I:Inv X pins σ H s)(f:∀b∈fp,FpOk X pins H b)(lt:∀b∈fp,b<s.heap.objs.size){h1:Heap}{t':Nat}(hns:h1.Ns s.heap.objs.size (λ_=>none))
  (k:∀b o,s.heap.get? b=some o->h1.get? b=some o):Inv (blk X N scope cl s.heap.objs.size s H fp) [] (st0 mp σ) H { s with heap:=h1,toks:=t' }:=by
 have fin:∀b∈fp,b ∉ frs X.stack:=λb hb z=>by
  obtain⟨_,f1,f2,_⟩:=f b hb;rcases Yj.mp (I.stkSub b z) with e | e
  ·exact f1 e
  ·exact f2 e
 have ok:(blk X N scope cl s.heap.objs.size s H fp).Ok:=by
  refine⟨I.ok.mod,B.kind,I.ok.glob,I.ok.blt,Yi _,λx y c h1 h2=>I.ok.inj x y c (B.sub x c h1) (B.sub y c h2),λx hx=>B.has x hx,(λx c hf=>nomatch (show false=true from hf)),I.ok.hd,I.ok.frames,.inl rfl,λb hb=>?_,I.bs,Yr I.ok.bsz I.sz,λb o e hb=>?_,fin,I.stack,I.stkFree⟩
  ·obtain⟨f0,f1,f2,f3,f4,f5⟩:=f b hb;exact⟨Y0 (lt b hb),λx c e=>f4 x c (B.sub x c e)⟩
  ·obtain⟨f0,f1,f2,f3,f4,f5⟩:=f b hb;rcases f3 with z | z
   ·exact I.ok.noex b o e z
   ·exact absurd (Yf (Yn e) (Yr I.ok.bsz z)) (Nat.lt_irrefl _)
 refine⟨ok,Z,I.bare,Un.kept k,⟨_,hns,λi x v e1 e2 e3=>?_⟩,λx c e=>?_,I.hok.fresh (Yi _),λx c e=>I.freeC x c (B.sub x c e),λp hp=>absurd (show p∈([]:List (Addr×Obj)) from hp) (by simp),I.hok.kept k,?_⟩
 ·have e2':∃j,mp[i]? = some (some j)/\σ[j]? = some (some v):=by
   unfold st0 at e2;rw[Ym]at e2
   cases q:mp[i]? with
   | none=>rw[q]at e2;cases e2
   | some o=>
    rw[q]at e2
    cases o with
    | none=>cases e2
    | some j=>
     refine⟨j,Z,?_⟩;have e2'':(σ[j]?).getD none=some v:=Jf e2
     cases r : σ[j]? with
     | none=>rw[r]at e2'';cases e2''
     | some z=>rw[r]at e2'';exact Js some e2''
  obtain⟨j,hj,hv⟩:=e2';obtain⟨hN,ho,hi⟩:=B.map i j x hj e1;obtain⟨m,hm,hl⟩:=I.loc;obtain⟨u,r,l⟩:=hl j x v hN hv (ho.elim (λz=>.inr (.inl z)) λz=>.inr (.inr z));refine⟨u,r,.inr ⟨hi,?_⟩⟩;rcases l with⟨z,_⟩ | ⟨_,c,ec,z⟩
  ·have z':X.env.scope.names.lookup x=some .local:=z;rcases ho with ho | ho
   ·rw[z']at ho;cases ho
   ·rw[z']at ho;cases ho
  ·obtain⟨c',ec'⟩:=B.has x hi;have q:=B.sub x c' ec';rw[ec]at q;cases q;obtain⟨o,eo,d⟩:=z;exact⟨c,ec',o,k c o eo,d⟩
 ·obtain⟨v,o,eo,d⟩:=I.cell x c (B.sub x c e);exact⟨v,o,k c o eo,d⟩
 ·show (st0 mp σ).length=N.length;unfold st0;rw[Yd];exact B.len
theorem zt2{N':List Str}{C:Addr}{H':Hp}{σ':St}{s':Shared}{h':Heap}(I:Inv X pins σ H s)(f:∀b∈fp,FpOk X pins H b)(hC:s.heap.objs.size<=C)
  (J:Inv (blk X N' scope cl C s H fp) [] σ' H' s') (sb:Heap.SameBut C s'.heap h'):Inv X pins σ H' { s' with heap:=h' }:=by
 have ub:Un (frs X.stack) fp H H' s.heap s'.heap:=J.base;have ne:∀b o,s.heap.get? b=some o->b≠C:=λb o e=>Y0 (Yf (Yn e) hC)
 have u:Un (frs X.stack) fp H H' s.heap h':=by
  refine⟨λb o e n hb hx=>(sb.2 b (ne b o e)).trans (ub.keep b o e n hb hx),λb o e n hb hx=>?_,ub.free,λb o e hx=>?_,ub.tups,ub.frzs,ub.tbls⟩
  ·obtain⟨sl,q⟩:=ub.slot b o e n hb hx;exact⟨sl,(sb.2 b (ne b o e)).trans q⟩
  ·obtain⟨o',q⟩:=ub.there b o e hx;exact⟨o',(sb.2 b (ne b o e)).trans q⟩
 have fC:H' C=none:=J.free;have ok':HOk X.prog X.w H' h':=λb ob e=>by
  have jok:HOk X.prog X.w H' s'.heap:=J.hok;refine(jok b ob e).stay (λc v hc q=>(sb.2 c ?_).trans q) (λ_ q=>q) λ_ _ q=>q
  rintro rfl;rcases hc with rfl | hc
  ·rw[fC]at e;cases e
  ·rw[fC]at hc;cases hc
 refine I.call' (s':={ s' with heap:=h' }) (ch:=fp) ?_ u ok' J.bare λb hb=>?_
 ·exact J.os
 ·obtain⟨f0,f1,f2,f3,f4,f5⟩:=f b hb;exact⟨f3,f1,f4,f5⟩
end
def PTs(X:Cx)(ifs:List Expr)(t:TT):Prop:=
 ∀(pins:List (Addr×Obj)) (s:Shared) (σ : St) (H:Hp) (Q:Bool->Hp->Prop),Inv X pins σ H s->t σ H Q->wpAny (model X.prog X.w) X.A (zv2 ifs X.env) (TP X pins σ Q) X.xe s
def tYes:TT:=λ_ H Q=>Q true H
theorem ziw{X:Cx}:PTs X [] tYes:=λ_ _ _ H _ I h=>Yb ⟨H,I,h⟩
@[irreducible] def tComp (mp:List (Option Nat)) (wi:TI) (g:TG) (tc:TT) (te:TE):TE:=λσ H Q=>wi σ H λJ H1=>∀D,H1 D=none->∃W:Nat->Nat->List V->St->Hp->Prop,
 (∃m,W 0 m [] (st0 mp σ) (upd H1 D (.lst [])))/\∀i m ys σ' H',W i m ys σ' H'->H' D=some (.lst ys) /\
  ((J.stop i H'/\Q (.ref D) H')\/(J.go i H'/\ys.length<sizeLine/\∀x H2,J.yld i H' x H2->g x σ' H2 λσ2 H3=>tc σ2 H3 λb H4=>
   if b=true then te σ2 H4 λv H5=>H5 D=some (.lst ys)/\∃m',m'<m/\W (i+1) m' (ys++[v]) σ2 (upd H5 D (.lst (ys++[v])))
   else ∃m',m'<m/\W (i+1) m' ys σ2 H4))
def CompW(J:It)(D:Addr)(g:TG)(tc:TT)(te:TE)(Qf:Hp->Prop)(W:Nat->Nat->List V->St->Hp->Prop):Prop:=∀i m ys σ' H',W i m ys σ' H'->H' D=some (.lst ys) /\
  ((J.stop i H'/\Qf H')\/(J.go i H'/\ys.length<sizeLine/\∀x H2,J.yld i H' x H2->g x σ' H2 λσ2 H3=>tc σ2 H3 λb H4=>
   if b=true then te σ2 H4 λv H5=>H5 D=some (.lst ys)/\∃m',m'<m/\W (i+1) m' (ys++[v]) σ2 (upd H5 D (.lst (ys++[v])))
   else ∃m',m'<m/\W (i+1) m' ys σ2 H4))
theorem zk4{X:Cx}{N:List Str}{scope:Scope}{cl:List (Str×Addr)}{mp:List (Option Nat)}{elt tg iter:Expr}{ifs:List Expr}{g:TG}{tc:TT}{te:TE}{pos:Pos}(B:Blk X N scope cl mp)(hc:X.calm=true)
  (hg:∀C s H fp,PG (blk X N scope cl C s H fp) tg g) (ht:∀C s H fp,PTs (blk X N scope cl C s H fp) ifs tc) (he:∀C s H fp,PE (blk X N scope cl C s H fp) elt te)
  {pins:List (Addr×Obj)} {σ : St} {HD:Hp} {s:Shared} {fp:List Addr} {it D:Addr} {tn:Nat->Heap->Prop} {J:It} {Qf:Hp->Prop} {W:Nat->Nat->List V->St->Hp->Prop} {m0:Nat} {E:Value->Shared->Prop} {RR:Addr->Result->Shared->Prop}
  (I:Inv X pins σ HD s) (f:∀b∈fp,FpOk X pins HD b) (T:Turn X.prog X.w X.K tg J fp it tn) (st:tn 0 s.heap) (w0:W 0 m0 [] (st0 mp σ) HD) (turn:CompW J D g tc te Qf W)
  (hRR:∀C H' σ' s',s.heap.objs.size<=C->Inv (blk X N scope cl C s HD fp) [] σ' H' s'->Qf H'->RR C (.ok .next) s') :
  wpAny (model X.prog X.w) X.A (newFunctionEnv scope X.env.globals cl [] X.env.qual none .none (some X.env)) (λcenv s4=>
   codeAny (model X.prog X.w) X.A (.compStart (.ListComp elt [⟨tg,iter,ifs,0⟩] scope pos) 0 (.ref it) (.ref D) { cenv with scope:=relabel scope X.env }) (RR cenv.locals) s4) E s:=by
 have lt:∀b∈fp,b<s.heap.objs.size:=λb hb=>let ⟨o,e,_⟩:=T.obj _ _ st b hb;Yn e
 refine wpAny_newFunctionEnv B.cell (by intro y hy;simp at hy) (λh3 hns hsb=>?_) B.kind;have k3:∀b o,s.heap.get? b=some o->h3.get? b=some o:=λb o e=>(hsb.2 b (Y0 (Yn e))).trans (Ye _ e)
 have JB:=zr1 (t':=s.toks+([]:List (Str×Value)).length) B I f lt hns k3;have st3:tn 0 h3:=T.keep _ _ _ st λb _ o e=>k3 b o e
 have fin:∀b∈fp,b ∉ frs X.stack:=λb hb z=>by
  obtain⟨_,f1,f2,_⟩:=f b hb;rcases Yj.mp (I.stkSub b z) with e | e
  ·exact f1 e
  ·exact f2 e
 have stat:∀{H':Hp},(∀b∈fp,H' b=none)->∀b∈fp,FpOk (blk X N scope cl s.heap.objs.size s HD fp) [] H' b:=fun{H'} hn b hb=>by
  obtain⟨f0,f1,f2,f3,f4,f5⟩:=f b hb;exact⟨hn b hb,Y0 (lt b hb),fin b hb,.inl hb,λx c e=>f4 x c (B.sub x c e),λp hp=>absurd (show p∈([]:List (Addr×Obj)) from hp) (by simp)⟩
 have loop:codeAny (model X.prog X.w) X.A (.compLoop (.ListComp elt [⟨tg,iter,ifs,0⟩] scope pos) 0 (.ref it) (.ref D) (compEnvC scope cl s.heap.objs.size X.env)) (RR s.heap.objs.size) { s with heap:=h3,toks:=s.toks+([]:List (Str×Value)).length }:=by
  refine zk6 (λn s'=>∃i ys σ' H',Inv (blk X N scope cl s.heap.objs.size s HD fp) [] σ' H' s'/\tn i s'.heap/\(∀b∈fp,H' b=none)/\W i n ys σ' H') ?_ m0 ⟨0,[],_,HD,JB,st3,λb hb=>(f b hb).1,w0⟩;rintro n s5 ⟨i,ys,σ5,H5,I5,st5,fr5,w5⟩;obtain⟨hD,tr⟩:=turn i n ys σ5 H5 w5;rcases tr with⟨stop,qn⟩ | ⟨go,hz,step⟩
  ·refine thn (T.done (blk X N scope cl s.heap.objs.size s HD fp) rfl rfl rfl hc i [] s5 σ5 H5 E00 I5 (stat fr5) st5 stop) λr s6 ⟨hr,I6⟩=>?_
   subst hr;exact hRR _ H5 σ5 s6 (Yi _) I6 qn
  ·refine thn (T.item (blk X N scope cl s.heap.objs.size s HD fp) rfl rfl rfl hc i [] s5 σ5 H5 E00 I5 (stat fr5) st5 go) λr s6 ⟨u,hr,h6⟩=>?_
   subst hr;refine thn h6 λ_ s7 ⟨x,H7,I7,r7,y7,st7,fr7⟩=>?_
   have I7':=I7.pinned (stat fr7) (T.obj _ _ st7);have again:∀{ys':List V} {σ8:St} {H8:Hp} {s8:Shared} {m':Nat},Inv (blk X N scope cl s.heap.objs.size s HD fp) ([]++zgb fp s7.heap) σ8 H8 s8->m'<n->W (i+1) m' ys' σ8 H8 ->
     ∃m,m<n/\∃i ys σ' H',Inv (blk X N scope cl s.heap.objs.size s HD fp) [] σ' H' s8/\tn i s8.heap/\(∀b∈fp,H' b=none)/\W i m ys σ' H':=fun{ys' σ8 H8 s8 m'} I8 hm w8=>by
    refine⟨m',hm,i+1,ys',σ8,H8,I8.unpinned,T.keep _ _ _ st7 λb hb o e=>(I8.pin (b,o) (Yg _ (Yg _ (zcl hb e)))).1,λb hb=>?_,w8⟩;obtain⟨o,e,d⟩:=T.obj _ _ st7 b hb;exact(I8.pin (b,o) (Yg _ (Yg _ (zcl hb e)))).2.1
   refine thn (hg _ _ _ _ _ s7 σ5 H7 x u _ I7' r7 (step x H7 y7)) λ_ s8 ⟨σ8,H8,I8,q8⟩=>?_
   refine thn (ht _ _ _ _ _ s8 σ8 H8 _ I8 q8) λok s9 ⟨H9,I9,q9⟩=>?_
   cases ok with
   | false=>
    rw[Yh (by decide)]at q9;obtain⟨m',hm,w9⟩:=q9;rw[Yh (by decide)];exact again I9 hm w9
   | true=>
    rw[Yl rfl]at q9;rw[Yl rfl];refine thn (he _ _ _ _ _ s9 σ8 H9 _ I9 q9) λxv s10 ⟨v,H10,I10,r10,hD10,m',hm,w'⟩=>?_
    refine thn (zfz _ s10 σ8 H10 (.ref D) [v] (.ref D) [xv] (λ_ H'=>H'=upd H10 D (.lst (ys++[v]))) I10 rfl (.cons r10 .nil) ⟨D,ys,v,Z,Z,hD10,hz,Z⟩) λ_ s11 ⟨_,H11,I11,_,e11⟩=>?_
    subst e11;exact again I11 hm w'
 exact codeAny_compStart_list loop (T.self _ 0 _ _ _ st3 loop)
theorem zi5{X:Cx}{N:List Str}{scope:Scope}{cl:List (Str×Addr)}{mp:List (Option Nat)}{elt tg iter:Expr}{ifs:List Expr}{wi:TI}{g:TG}{tc:TT}{te:TE}{pos:Pos}(B:Blk X N scope cl mp)(hc:X.calm=true)
  (hi:PI X tg iter wi) (hg:∀C s H fp,PG (blk X N scope cl C s H fp) tg g) (ht:∀C s H fp,PTs (blk X N scope cl C s H fp) ifs tc) (he:∀C s H fp,PE (blk X N scope cl C s H fp) elt te)
  (hs:∀x,foldedSetIterable iter X.env x=pure x:=by intro _;rfl):PE X (.ListComp elt [⟨tg,iter,ifs,0⟩] scope pos) (tComp mp wi g tc te):=by
 intro pins s σ H Q I h;unfold tComp at h;rw[eval_ListComp];refine wpAny_comprehension_free (use:=none) (cl:=cl) rfl hs B.clos B.kind B.nms (thn (hi pins s σ H _ I h) λv s1 h1=>thn h1 λitv s2 h2=>?_);obtain⟨it,fp,tn,J,H2,rfl,I2,T,st2,f2,q⟩:=h2;have lt2:∀b∈fp,b<s2.heap.objs.size:=λb hb=>let ⟨o,e,_⟩:=T.obj _ _ st2 b hb;Yn e
 obtain⟨W,⟨m0,w0⟩,turn⟩:=q _ I2.fresh;have ID:=I2.lnew (ys:=[]) (its:=[]) (t':=s2.toks) .nil (Y2 _);have fD':∀b∈fp,FpOk X pins (upd H2 s2.heap.objs.size (.lst [])) b:=λb hb=>by
  obtain⟨f0,r⟩:=f2 b hb;exact⟨by rw[zar (Y0 (lt2 b hb))];exact f0,r⟩
 refine Jm (zk4 B hc hg ht he ID fD' T (T.keep _ _ _ st2 λb _ o e=>Ye _ e) w0 turn λC H' σ' s' hC J' qf=>?_);obtain⟨m,hm,_⟩:=J'.loc;exact⟨m,hm,λh' sb=>⟨.ref _,H',zt2 ID fD' hC J' sb,Z,qf⟩⟩
def SqX(K:W.Frag)(b:Bool)(H:Hp)(a:Addr)(xs:List V):Prop:=match b with
 | true=>SqT K H a xs
 | false=>SqL K H a xs
section
variable{X:Cx}{pins:List (Addr×Obj)}{σ : St}{H:Hp}{s:Shared}{b:Bool}{a:Addr}{xs ys:List V}
theorem Inv.sq(I:Inv X pins σ H s)(h:SqX X.K b H a xs):∃its:List Value,Vals xs its/\SqAt b s.heap a its.toArray:=by
 cases b with
 | true=>obtain⟨its,rv,p,_⟩:=I.tuple h;exact⟨its,rv,show s.heap.IsTuple a its.toArray from p⟩
 | false=>obtain⟨its,rv,p,_⟩:=I.list h;exact⟨its,rv,p.isList⟩
theorem Inv.sq_inj(I:Inv X pins σ H s)(h:SqX X.K b H a xs)(h':SqX X.K b H a ys):xs=ys:=by
 cases b with
 | true=>exact I.tuple_inj h h'
 | false=>exact I.list_inj h h'
theorem Inv.turnedL{ch:List Addr}{h':Heap}{t':Nat}(I:Inv X pins σ H s)(hf:∀b∈ch,FpOk X pins H b)(k:∀b o,b ∉ ch->s.heap.get? b=some o->h'.get? b=some o):Inv X pins σ H { s with heap:=h',toks:=t' }:=by
 have nch:∀b u,H b=some u->b ∉ ch:=λb u e z=>by have q:=(hf b z).1;rw[q]at e;cases e
 refine I.step (g':=s.gens) (d':=s.drawn) (ch:=ch) (λb hb=>?_) (λb o _ _ hc e _=>k b o hc e) (λb o _ _ hc e _=>⟨o.slots,k b o hc e⟩) (λ_ _ _ _ n=>n)
  (λb o hc e=>⟨o,k b o hc e⟩) (λ_ _ e=>e) (λ_ _ _ e=>e) (λb ps e=>⟨#[],by rw[e];simp⟩) (λm hm=>?_) (λb u e=>?_) I.bare
 ·obtain⟨f0,f1,f2,f3,f4,f5⟩:=hf b hb;exact⟨f3,f1,f4,f5⟩
 ·obtain⟨o,es,ep,ho,r⟩:=hm;exact⟨o,es,ep,k _ o (λz=>(hf _ z).2.1 rfl) ho,r⟩
 ·refine(I.hok b u e).stay (λc v hc q=>k c v ?_ q) (λ_ q=>q) λ_ _ q=>q
  rcases hc with z | z
  ·rw[z];exact nch b u e
  ·exact nch c _ z
theorem Inv.drawn{ch:List Addr}{h':Heap}{t':Nat}{p:Addr}{o:HO}(I:Inv X pins σ H s)(hf:∀b∈ch,FpOk X pins H b)(k:∀b o,b ∉ ch->s.heap.get? b=some o->h'.get? b=some o)(hp:s.heap.objs.size<=p)
  (new:ObjOk X.prog X.w (upd H p o) h' p o):Inv X pins σ (upd H p o) { s with heap:=h',toks:=t' }:=by
 have nch:∀b u,H b=some u->b ∉ ch:=λb u e z=>by have q:=(hf b z).1;rw[q]at e;cases e
 have hn:H p=none:=I.hok.fresh hp;have np:∀b u,s.heap.get? b=some u->b≠p:=λb u e=>Y0 (Yf (Yn e) hp)
 refine I.step (g':=s.gens) (d':=s.drawn) (ch:=ch) (λb hb=>?_) (λb o _ _ hc e _=>k b o hc e) (λb o _ _ hc e _=>⟨o.slots,k b o hc e⟩) (λb o _ e n=>by rw[zar (np b o e)];exact n)
  (λb o hc e=>⟨o,k b o hc e⟩) (λb xs e=>by rw[zar (zaq e hn)];exact e) (λb o u e=>by rw[zar (zaq e hn)];exact e) (λb ps e=>⟨#[],by rw[zar (zaq e hn),e];simp⟩) (λm hm=>?_) (λb u e=>?_) I.bare
 ·obtain⟨f0,f1,f2,f3,f4,f5⟩:=hf b hb;exact⟨f3,f1,f4,f5⟩
 ·obtain⟨o,es,ep,ho,r⟩:=hm;exact⟨o,es,ep,k _ o (λz=>(hf _ z).2.1 rfl) ho,r⟩
 ·by_cases hb:b=p
  ·subst hb;rw[zah]at e;cases e;exact new
  ·rw[zar hb]at e;refine(I.hok b u e).stay (λc v hc q=>k c v ?_ q) (λc q=>by rw[zar (zaq q hn)];exact q) λc xs q=>by rw[zar (zaq q hn)];exact q
   rcases hc with z | z
   ·rw[z];exact nch b u e
   ·exact nch c _ z
end
def Itz(K:W.Frag)(b1 b2:Bool)(a1 a2:Addr):It:=
 ⟨λi H=>∃xs ys x y,SqX K b1 H a1 xs/\SqX K b2 H a2 ys/\xs[i]? = some x/\ys[i]? = some y,
  λi H v H'=>∃p x y,H p=none/\v=.ref p/\H'=upd H p (.tup [x,y])/\(∀xs,SqX K b1 H a1 xs->xs[i]? = some x)/\∀ys,SqX K b2 H a2 ys->ys[i]? = some y,
  λi H=>∃xs ys,SqX K b1 H a1 xs/\SqX K b2 H a2 ys/\(xs.length<=i\/ys.length<=i)⟩
theorem zo2{P:Program}{w:World}{K:W.Frag}{es:List Expr}{ek:Nat}{pos:Pos}(b1 b2:Bool){z TI TO i1 i2 a1 a2:Addr}(D:ZipApart z TI TO i1 i2 a1 a2) :
  Turn P w K (.Tuple es ek pos) (Itz K b1 b2 a1 a2) [z,TI,TO,i1,i2] z (λi h=>ZSt b1 b2 z TI TO i1 i2 a1 a2 .none i h) where
 mem:=by simp
 obj:=λi h st b hb=>by
  simp only[List.mem_cons,List.not_mem_nil,or_false]at hb
  rcases hb with rfl | rfl | rfl | rfl | rfl
  ·exact⟨_,st.zip,λv q=>by cases q⟩
  ·exact⟨_,st.ti,λv q=>by cases q⟩
  ·obtain⟨a,b,e⟩:=st.to;exact⟨_,e,λv q=>by cases q⟩
  ·exact st.it1.obj
  ·exact st.it2.obj
 keep:=λi h h' st k=>st.at k
 item:=by
  intro X hP hw hK hc i pins s σ H E I hf st hg;subst hP hw hK;obtain⟨xs,ys,x,y,h1,h2,hx,hy⟩:=hg;obtain⟨us,ru,q1⟩:=I.sq h1;obtain⟨ws,rw',q2⟩:=I.sq h2;obtain⟨u,eu,rx⟩:=ru.get hx;obtain⟨v,ev,ry⟩:=rw'.get hy;refine zft D st q1 q2 (x:=u) (y:=v) (by simpa using eu) (by simpa using ev) λh' S p8 s8 k=>?_
  refine⟨_,Z,wpAny_letOwnedTupleGo_zip S.zip λh'' z' e'=>?_⟩;have zlt:z<s.heap.objs.size:=Yn st.zip;have zp:s.heap.objs.size≠z:=Nat.ne_of_gt zlt;have kk:∀b o,b ∉ [z,TO,i1,i2]->s.heap.get? b=some o->h''.get? b=some o:=λb o hb e=>by
   simp only[List.mem_cons,List.not_mem_nil,or_false,not_or]at hb
   exact e'.extBut _ _ hb.1 (k b o hb.1 hb.2.1 hb.2.2.1 hb.2.2.2 e)
  have pp:IsPair h'' s.heap.objs.size u v:=e'.extBut _ _ zp p8;refine⟨.ref s.heap.objs.size,upd H s.heap.objs.size (.tup [x,y]),I.drawn (t':=s.toks) (ch:=[z,TO,i1,i2]) (λb hb=>hf b ?_) kk (Yi _) ?_,Z,⟨_,x,y,I.fresh,Z,Z,λxs' hq=>?_,λys' hq=>?_⟩,?_,λb hb=>?_⟩
  ·simp only[List.mem_cons,List.not_mem_nil,or_false]at hb ⊢
   rcases hb with rfl | rfl | rfl | rfl <;> simp
  ·exact⟨by show 2<=sizeLine;rw[sizeLine_eq];decide,[u,v],.cons rx (.cons ry .nil),⟨_,pp,Z,_,Z⟩⟩
  ·rw[I.sq_inj hq h1];exact hx
  ·rw[I.sq_inj hq h2];exact hy
  ·exact⟨z',e'.extBut _ _ D.TIz S.ti,(let ⟨a,b,e⟩:=S.to;⟨a,b,e'.extBut _ _ D.TOz e⟩),S.it1.at λo q=>e'.extBut _ _ D.i1z q,S.it2.at λo q=>e'.extBut _ _ D.i2z q⟩
  ·obtain⟨o,e,_⟩:∃o,s.heap.get? b=some o/\∀v,o.data≠.cell v:=by
    simp only[List.mem_cons,List.not_mem_nil,or_false]at hb
    rcases hb with rfl | rfl | rfl | rfl | rfl
    ·exact⟨_,st.zip,λv q=>by cases q⟩
    ·exact⟨_,st.ti,λv q=>by cases q⟩
    ·obtain⟨a,b,e⟩:=st.to;exact⟨_,e,λv q=>by cases q⟩
    ·exact st.it1.obj
    ·exact st.it2.obj
   rw[zar (Y0 (Yn e))];exact(hf b hb).1
 done:=by
  intro X hP hw hK hc i pins s σ H E I hf st hg;subst hP hw hK;obtain⟨xs,ys,h1,h2,hl⟩:=hg;obtain⟨us,ru,q1⟩:=I.sq h1;obtain⟨ws,rw',q2⟩:=I.sq h2;have l1:=ru.length;have l2:=rw'.length;refine zf1 (I.ok.hd hc) D st q1 q2 ?_ λh' k=>⟨rfl,I.turnedL (t':=s.toks) (ch:=[z,TO,i1,i2]) (λb hb=>hf b ?_) λb o hb e=>?_⟩
  ·rcases hl with hl | hl
   ·exact .inl (by simp;omega)
   ·exact .inr (by simp;omega)
  ·simp only[List.mem_cons,List.not_mem_nil,or_false]at hb ⊢
   rcases hb with rfl | rfl | rfl | rfl <;> simp
  ·simp only[List.mem_cons,List.not_mem_nil,or_false,not_or]at hb
   exact k b o hb.1 hb.2.1 hb.2.2.1 hb.2.2.2 e
 self:=λ_ _ _ _ _ st h=>wpAny_pyIter_zip st.zip h
def iZip(K:W.Frag)(b1 b2:Bool)(ta:TA):TI:=λσ H R=>ta σ H λvs H1=>∃a1 a2,vs=[.ref a1,.ref a2]/\(∃xs,SqX K b1 H1 a1 xs)/\(∃ys,SqX K b2 H1 a2 ys)/\R (Itz K b1 b2 a1 a2) H1
theorem zw8{X:Cx}{es:List Expr}{ek:Nat}{tpos p pos:Pos}(b1 b2:Bool){e1 e2:Expr}{ta:TA}(hg:Gl X "zip")(hm:X.mg "zip" = none)(ha:PA X [e1,e2] ta)
  (he:starEach [e1,e2] X.env=(false,eval e1 X.env)::starEach [e2] X.env:=by rfl) (hpl:(backTo pos (starEach [e2] X.env)).any (·.1)=false:=by rfl) :
  PI X (.Tuple es ek tpos) (.Call (.Name "zip" p) [e1,e2] [] pos) (iZip X.K b1 b2 ta):=by
 intro pins s σ H R I h;refine wpAny_Call_Name_kw (zil I hg hm boot_zip ?_ (by decide) (by decide));refine PyProof.Rows.callWith_type1 (thn (ha pos pins s σ H _ I h) λus s1 ⟨vs,H1,I1,r1,a1,a2,ev,⟨xs,h1⟩,⟨ys,h2⟩,q⟩=>?_) he hpl;subst ev;obtain⟨u1,u2,rfl,e1',e2'⟩:=r1.two
 cases e1';cases e2';obtain⟨us,ru,q1⟩:=I1.sq h1;obtain⟨ws,rw',q2⟩:=I1.sq h2;have lt1:a1<s1.heap.objs.size:=by cases b1 <;> (obtain⟨o,e,_⟩:=q1;exact Yn e)
 have lt2:a2<s1.heap.objs.size:=by cases b2 <;> (obtain⟨o,e,_⟩:=q2;exact Yn e)
 refine zpy q1 q2 λh' S k z5=>wpAny_pyIter_zip S.zip ?_
 have I2:Inv X pins σ H1 { s1 with heap:=h' }:=I1.kept (t':=s1.toks) k;refine⟨s1.heap.objs.size+4,[s1.heap.objs.size+4,s1.heap.objs.size+2,s1.heap.objs.size+3,s1.heap.objs.size,s1.heap.objs.size+1],_,_,H1,Z,I2,zo2 b1 b2 (zipApart_new lt1 lt2),S,λb hb=>?_,q⟩;have hb':s1.heap.objs.size<=b:=by
  simp only[List.mem_cons,List.not_mem_nil,or_false]at hb
  rcases hb with rfl | rfl | rfl | rfl | rfl
  ·exact Nat.le_add_right _ 4
  ·exact Nat.le_add_right _ 2
  ·exact Nat.le_add_right _ 3
  ·exact Yi _
  ·exact Nat.le_add_right _ 1
 exact I1.fpOk hb' (I1.hok.fresh hb')
theorem Same.upd{H:Hp}{p:Addr}{o:HO}(h:H p=none):Same H (upd H p o):=λb u e=>by rw[zar (zaq e h)];exact e
theorem Same.updR{H H':Hp}{p:Addr}{o:HO}(e:Same H H')(h:H p=none):Same H (L2.upd H' p o):=λb u q=>by rw[zar (zaq q h)];exact e b u q
theorem Same.seqT{K:W.Frag}{H H':Hp}{a:Addr}{xs:List V}(e:Same H H')(h:SqT K H a xs):SqT K H' a xs:=by
 rcases h with(h | ⟨o,h⟩) | h
 ·exact .inl (.inl (e _ _ h))
 ·exact .inl (.inr ⟨o,e _ _ h⟩)
 ·exact .inr h
theorem Same.sqX{K:W.Frag}{b:Bool}{H H':Hp}{a:Addr}{xs:List V}(e:Same H H')(h:SqX K b H a xs):SqX K b H' a xs:=by
 cases b with
 | true=>exact e.seqT h
 | false=>exact e.seq h
structure Walk(J:It)(H1:Hp)(n:Nat)(P:Nat->V->Hp->Prop):Prop where
 go:∀i H',Same H1 H'->i<n->J.go i H'
 stop:∀H',Same H1 H'->J.stop n H'
 yld:∀i H' x H2,Same H1 H'->i<n->J.yld i H' x H2->Same H' H2/\P i x H2
theorem zn1{K:W.Frag}{H1:Hp}{a:Addr}{xs:List V}(h:SqL K H1 a xs):Walk (Itl K a) H1 xs.length (λi x _=>xs[i]? = some x):=
 ⟨λi H' e hi=>⟨xs,xs[i],e.seq h,by simp[hi]⟩,λH' e=>⟨xs,e.seq h,Yi _⟩,λi H' x H2 e hi y=>by
  obtain⟨rfl,q⟩:=y;exact⟨Same.refl _,q xs (e.seq h)⟩⟩
theorem zle{H1:Hp}(lo:Int)(n:Nat):Walk (Itr lo n) H1 n (λi x _=>x=.int (lo+i)):=
 ⟨λi H' e hi=>hi,λH' e=>Yi _,λi H' x H2 e hi y=>by
  obtain⟨rfl,q⟩:=y;exact⟨Same.refl _,q⟩⟩
theorem zoe{K:W.Frag}{b1 b2:Bool}{H1:Hp}{a1 a2:Addr}{xs ys:List V}(h1:SqX K b1 H1 a1 xs)(h2:SqX K b2 H1 a2 ys) :
  Walk (Itz K b1 b2 a1 a2) H1 (min xs.length ys.length) (λi v H=>∃p x y,v=.ref p/\H p=some (.tup [x,y])/\xs[i]? = some x/\ys[i]? = some y):=by
 refine⟨λi H' e hi=>?_,λH' e=>⟨xs,ys,e.sqX h1,e.sqX h2,?_⟩,λi H' x H2 e hi q=>?_⟩
 ·have i1:i<xs.length:=by omega
  have i2:i<ys.length:=by omega
  exact⟨xs,ys,xs[i],ys[i],e.sqX h1,e.sqX h2,by simp[i1],by simp[i2]⟩
 ·rcases Nat.le_total xs.length ys.length with q | q
  ·exact .inl (by omega)
  ·exact .inr (by omega)
 ·obtain⟨p,u,v,hp,rfl,rfl,q1,q2⟩:=q;exact⟨Same.upd hp,p,u,v,Z,zah,q1 xs (e.sqX h1),q2 ys (e.sqX h2)⟩
theorem zsw{J:It}{H1:Hp}{n:Nat}{P:Nat->V->Hp->Prop}{g:TG}{tc:TT}{te:TE}{Q:VK}{σ0:St}{D:Addr}(S:Walk J H1 n P)(hD:H1 D=none)(hn:n<=sizeLine)(Sv:St->Prop)(p:Nat->Bool)(F:Nat->V->Hp->Prop)
  (monoS:∀i v H H',Same H H'->F i v H->F i v H') (monoU:∀i v H a ys ys',H a=some (.lst ys)->F i v H->F i v (upd H a (.lst ys'))) (h0:Sv σ0)
  (step:∀i x σ' H2,i<n->Sv σ'->Same H1 H2->P i x H2->∀(Ny:V->St->Hp->Prop) (Nn:St->Hp->Prop),(∀v σ2 H5,Sv σ2->Same H2 H5->F i v H5->p i=true->Ny v σ2 H5)->(∀σ2 H4,Sv σ2->Same H2 H4->p i=false->Nn σ2 H4) ->
   g x σ' H2 λσ2 H3=>tc σ2 H3 λb H4=>if b=true then te σ2 H4 λv H5=>Ny v σ2 H5 else Nn σ2 H4)
  (hQ:∀H' ys,Same H1 H'->H' D=some (.lst ys)->Paired (λi v=>F i v H') ((List.range n).filter p) ys->Q (.ref D) H') :
  ∃W:Nat->Nat->List V->St->Hp->Prop,(∃m,W 0 m [] σ0 (upd H1 D (.lst [])))/\∀i m ys σ' H',W i m ys σ' H'->H' D=some (.lst ys) /\
  ((J.stop i H'/\Q (.ref D) H')\/(J.go i H'/\ys.length<sizeLine/\∀x H2,J.yld i H' x H2->g x σ' H2 λσ2 H3=>tc σ2 H3 λb H4=>
   if b=true then te σ2 H4 λv H5=>H5 D=some (.lst ys)/\∃m',m'<m/\W (i+1) m' (ys++[v]) σ2 (upd H5 D (.lst (ys++[v])))
   else ∃m',m'<m/\W (i+1) m' ys σ2 H4)):=by
 refine⟨λi m ys σ' H'=>m=n-i/\i<=n/\Sv σ'/\Same H1 H'/\H' D=some (.lst ys)/\Paired (λj v=>F j v H') ((List.range i).filter p) ys,⟨n,Z,Y2 _,h0,Same.upd hD,zah,.nil⟩,?_⟩;rintro i m ys σ' H' ⟨rfl,hi,hs,hS,hL,hF⟩;refine⟨hL,?_⟩;have rs:(List.range (i+1)).filter p=(List.range i).filter p++(if p i=true then [i] else []):=by
  rw[List.range_succ,List.filter_append]
  cases q:p i <;> simp[q]
 by_cases hlt:i<n
 ·refine .inr ⟨S.go i H' hS hlt,?_,λx H2 y=>?_⟩
  ·have l1:=hF.length;have l2:((List.range i).filter p).length<=(List.range i).length:=List.length_filter_le _ _;rw[List.length_range]at l2;omega
  ·obtain⟨e2,hP⟩:=S.yld i H' x H2 hS hlt y;refine step i x σ' H2 hlt hs (hS.trans e2) hP _ _ (λv σ2 H5 s2 e5 f5 hp=>?_) λσ2 H4 s2 e4 hp=>?_
   ·have l5:H5 D=some (.lst ys):=e5 _ _ (e2 _ _ hL);refine⟨l5,n-(i+1),by omega,Z,hlt,s2,((hS.trans e2).trans e5).updR hD,zah,?_⟩;rw[rs,Yl hp];refine Paired.snoc (Paired.imp' (λj w q=>?_) hF) (monoU i v H5 D ys _ l5 f5);exact monoU j w H5 D ys _ l5 (monoS j w H' H5 (e2.trans e5) q)
   ·refine⟨n-(i+1),by omega,Z,hlt,s2,(hS.trans e2).trans e4,e4 _ _ (e2 _ _ hL),?_⟩;rw[rs,Yh (by rw[hp];decide),List.append_nil];exact Paired.imp' (λj w q=>monoS j w H' H4 (e2.trans e4) q) hF
 ·have e:i=n:=by omega
  subst e;exact .inl ⟨S.stop H' hS,hQ H' ys hS hL hF⟩
theorem Paired.eq_map{β : Type}{f:Nat->β}:∀{l:List Nat} {ys:List β},Paired (λi v=>v=f i) l ys->ys=l.map f
 | _,_,.nil=>rfl
 | _,_,.cons r t=>by rw[Yz,r,Paired.eq_map t]
theorem zfl{J:It}{H1:Hp}{n:Nat}{P:Nat->V->Hp->Prop}{g:TG}{tc:TT}{te:TE}{Q:VK}{σ0:St}{D:Addr}(S:Walk J H1 n P)(hD:H1 D=none)(hn:n<=sizeLine)(Sv:St->Prop)(p:Nat->Bool)(f:Nat->V)(h0:Sv σ0)
  (step:∀i x σ' H2,i<n->Sv σ'->Same H1 H2->P i x H2->∀(Ny:V->St->Hp->Prop) (Nn:St->Hp->Prop),(∀σ2 H5,Sv σ2->Same H2 H5->p i=true->Ny (f i) σ2 H5)->(∀σ2 H4,Sv σ2->Same H2 H4->p i=false->Nn σ2 H4) ->
   g x σ' H2 λσ2 H3=>tc σ2 H3 λb H4=>if b=true then te σ2 H4 λv H5=>Ny v σ2 H5 else Nn σ2 H4)
  (hQ:∀H',Same H1 H'->H' D=some (.lst (((List.range n).filter p).map f))->Q (.ref D) H') :
  ∃W:Nat->Nat->List V->St->Hp->Prop,(∃m,W 0 m [] σ0 (upd H1 D (.lst [])))/\∀i m ys σ' H',W i m ys σ' H'->H' D=some (.lst ys) /\
  ((J.stop i H'/\Q (.ref D) H')\/(J.go i H'/\ys.length<sizeLine/\∀x H2,J.yld i H' x H2->g x σ' H2 λσ2 H3=>tc σ2 H3 λb H4=>
   if b=true then te σ2 H4 λv H5=>H5 D=some (.lst ys)/\∃m',m'<m/\W (i+1) m' (ys++[v]) σ2 (upd H5 D (.lst (ys++[v])))
   else ∃m',m'<m/\W (i+1) m' ys σ2 H4)):=
 zsw S hD hn Sv p (λi v _=>v=f i) (λ_ _ _ _ _ q=>q) (λ_ _ _ _ _ _ _ q=>q) h0
  (λi x σ' H2 hi hs e hP Ny Nn hy hn'=>step i x σ' H2 hi hs e hP Ny Nn (λσ2 H5 s2 e5 hp=>hy _ σ2 H5 s2 e5 rfl hp) hn')
  λH' ys e hL hF=>hQ H' e (by rw[<- Paired.eq_map hF];exact hL)
theorem ze5{env:Env}:∀{names:List (Str×NameKind)} {x:Str},names.lookup x=some .free ->
  (names.map fun(n,k)=>if (k == NameKind.free&&env.scope.kind == .function&&env.kindOf n == some .cell) then(n,NameKind.cell) else(n,k)).lookup x=some .cell \/
  (names.map fun(n,k)=>if (k == NameKind.free&&env.scope.kind == .function&&env.kindOf n == some .cell) then(n,NameKind.cell) else(n,k)).lookup x=some .free
 | [],_,h=>by simp at h
 | (n,k)::r,x,h=>by
  have ih := @ze5 env r x;rw[Yz]
  cases hx:x == n with
  | true=>
   simp only[List.lookup_cons,hx]at h
   cases h;by_cases hc:(NameKind.free == NameKind.free&&env.scope.kind == .function&&env.kindOf n == some .cell)=true
   ·dsimp only;rw[Yl hc];simp only[List.lookup_cons,hx];exact .inl trivial
   ·dsimp only;rw[Yh hc];simp only[List.lookup_cons,hx];exact .inr trivial
  | false=>
   simp only[List.lookup_cons,hx]at h
   by_cases hc:(k == NameKind.free&&env.scope.kind == .function&&env.kindOf n == some .cell)=true
   ·dsimp only;rw[Yl hc];simp only[List.lookup_cons,hx];exact ih h
   ·dsimp only;rw[Yh hc];simp only[List.lookup_cons,hx];exact ih h
theorem ze6{env:Env}{names:List (Str×NameKind)}{x:Str}{k:NameKind}(hk:k=.cell\/k=.free)(nc:∀y∈names,y.2≠.cell)
  (h:(names.map fun(n,k)=>if (k == NameKind.free&&env.scope.kind == .function&&env.kindOf n == some .cell) then(n,NameKind.cell) else(n,k)).lookup x=some k):∃y∈names,y.1=x/\y.2=.free:=by
 have m:=PySem.mem_of_lookup h;obtain⟨⟨n,k0⟩,hm,e⟩:=Ji.mp m;dsimp only at e;by_cases hc:(k0 == NameKind.free&&env.scope.kind == .function&&env.kindOf n == some .cell)=true
 ·rw[Yl hc]at e;simp only[Bool.and_eq_true,beq_iff_eq]at hc
  cases e;exact⟨_,hm,Z,hc.1.1⟩
 ·rw[Yh hc]at e
  cases e;refine⟨_,hm,Z,?_⟩;rcases hk with z | z
  ·exact absurd z (nc _ hm)
  ·exact z
theorem Blk.of{X:Cx}{N:List Str}{scope:Scope}{cl:List (Str×Addr)}{mp:List (Option Nat)}(clos:closureFor scope X.env=pure cl)(cell:∀y∈scope.names,y.2≠.cell)(kind:scope.kind=.function)
  (nms:∀y∈scope.names,y.2=.local->scope.names.lookup y.1=some .local) (nd:N.Nodup) (sub:∀x c,cl.lookup x=some c->X.env.cells.lookup x=some c) (fr:∀y∈scope.names,y.2=.free->∃c,cl.lookup y.1=some c) (len:mp.length=N.length)
  (map:∀(i j:Nat) (x:Str),mp[i]? = some (some j)->N[i]? = some x->X.N[j]? = some x/\(X.env.scope.names.lookup x=some .cell\/X.env.scope.names.lookup x=some .free)/\scope.names.lookup x=some .free):Blk X N scope cl mp:=by
 refine⟨clos,cell,kind,nms,nd,sub,λx hx=>?_,len,λi j x h1 h2=>?_⟩
 ·have:∃y∈scope.names,y.1=x/\y.2=.free:=hx.elim (λz=>ze6 (.inl rfl) cell z) λz=>ze6 (.inr rfl) cell z
  obtain⟨y,hy,rfl,hf⟩:=this;exact fr y hy hf
 ·obtain⟨q1,q2,q3⟩:=map i j x h1 h2;exact⟨q1,q2,ze5 q3⟩
theorem Blk.plain{X:Cx}{N:List Str}{scope:Scope}(fr:∀y∈scope.names,y.2≠.free)(cell:∀y∈scope.names,y.2≠.cell)(kind:scope.kind=.function)(nms:∀y∈scope.names,y.2=.local->scope.names.lookup y.1=some .local)(nd:N.Nodup) :
  Blk X N scope [] (N.map λ_=>none):=
 Blk.of (closureFor_none fr) cell kind nms nd (λ_ _ h=>nomatch h) (λy hy h=>absurd h (fr y hy)) (Yd _) λi j x h=>by
  rw[Ym]at h
  cases q:N[i]? with
  | none=>rw[q]at h;cases h
  | some z=>rw[q]at h;cases h
def zipV(p:Int->Int->Bool)(φ : Int->Int->V)(xs ys:List Int):List V:=((List.range (min xs.length ys.length)).filter λi=>p (xs.getD i 0) (ys.getD i 0)).map λi=>φ (xs.getD i 0) (ys.getD i 0)
theorem zfj{xs:List Int}{i:Nat}{v:V}(h:(xs.map V.int)[i]? = some v):v=.int (xs.getD i 0):=by
 rw[Ym]at h
 cases q:xs[i]? with
 | none=>rw[q]at h;cases h
 | some z=>
  rw[q]at h;have e:xs.getD i 0=z:=by rw[List.getD_eq_getElem?_getD,q];rfl
  rw[e];exact(Jf h).symm
theorem ztt{σ : St}(h : σ.length=2)(x y:V):(σ.set 0 (some x)).set 1 (some y)=[some x,some y]:=by
 match σ,h with
 | [_,_],_=>rfl
theorem zp3{K:W.Frag}{b1 b2:Bool}{a b:Addr}{xs ys:List Int}{mp:List (Option Nat)}{ta:TA}{tc:TT}{te:TE}{σ : St}{H H1:Hp}{Q:VK}(p:Int->Int->Bool)(φ : Int->Int->V)(hmp:mp.length=2)(hta:∀R,R [.ref a,.ref b] H1->ta σ H R)
  (h1:SqX K b1 H1 a (xs.map V.int)) (h2:SqX K b2 H1 b (ys.map V.int)) (hz:xs.length<=1000)
  (htc:∀(i:Nat) H' (R:Bool->Hp->Prop),R (p (xs.getD i 0) (ys.getD i 0)) H'->tc [some (.int (xs.getD i 0)),some (.int (ys.getD i 0))] H' R)
  (hte:∀(i:Nat) H' (R:VK),p (xs.getD i 0) (ys.getD i 0)=true->R (φ (xs.getD i 0) (ys.getD i 0)) H'->te [some (.int (xs.getD i 0)),some (.int (ys.getD i 0))] H' R)
  (hQ:∀D H',Same H1 H'->H' D=some (.lst (zipV p φ xs ys))->Q (.ref D) H') :
  tComp mp (iZip K b1 b2 ta) (gTup K 2 (znm (za4 0) (znm (za4 1) gNil))) tc te σ H Q:=by
 unfold tComp;refine hta _ ⟨a,b,Z,⟨_,h1⟩,⟨_,h2⟩,λD hD=>?_⟩;have W:=zoe h1 h2;rw[Yd,Yd]at W;refine zfl W hD (Yr (Nat.min_le_left _ _) (Yr hz (by rw[sizeLine_eq];decide))) (λσ=>σ.length=2) (λi=>p (xs.getD i 0) (ys.getD i 0)) (λi=>φ (xs.getD i 0) (ys.getD i 0)) (by unfold st0;rw[Yd];exact hmp) ?_ λH' e hL=>hQ D H' e hL
 rintro i v σ' H2 hi hs e ⟨q,u,w,rfl,hq,hu,hw⟩ Ny Nn hy hn;rw[zfj hu,zfj hw]at hq;refine⟨q,_,rfl,SqT.of hq,rfl,_,_,rfl,_,_,rfl,rfl,?_⟩;rw[ztt hs];refine htc _ _ _ ?_
 cases hp:p (xs.getD i 0) (ys.getD i 0) with
 | true=>rw[Yl rfl];exact hte _ _ _ hp (hy _ _ rfl (Same.refl _) hp)
 | false=>rw[Yh (by decide)];exact hn _ _ rfl (Same.refl _) hp
theorem zw4{X:Cx}{K:W.Frag}{x y:Str}{px py tp:Pos}{k:Nat}(hK:X.K=K)(hc:X.calm=true)(hN:X.N=[x,y])(nd:([x,y]:List Str).Nodup)(hx:X.env.scope.names.lookup x=some .local)(hy:X.env.scope.names.lookup y=some .local) :
  PG X (.Tuple [.Name x px,.Name y py] k tp) (gTup K 2 (znm (za4 0) (znm (za4 1) gNil))):=by
 subst hK;have nd':X.N.Nodup:=by rw[hN];exact nd
 exact zh3 hc (zb7 (zbj (i:=0) nd' (by rw[hN];rfl) (.inl hx) (.inr hx)) (zb7 (zbj (i:=1) nd' (by rw[hN];rfl) (.inl hy) (.inr hy)) zfk))
theorem zqn{X:Cx}{x:Str}{px:Pos}{i:Nat}(nd:X.N.Nodup)(hN:X.N[i]? = some x)(hx:X.env.scope.names.lookup x=some .local):PG X (.Name x px) (za4 i):=zbj nd hN (.inl hx) (.inr hx)
theorem zlb{mp:List (Option Nat)}{ta:TA}{g:TG}{tc:TT}{te:TE}{σ : St}{H H1:Hp}{Q:VK}(n:Int)(Sv:St->Prop)(p:Nat->Bool)(f:Nat->V)(hn0:0<=n)(hn:n<=1000)(hta:∀R,R [.int n] H1->ta σ H R)(h0:Sv (st0 mp σ))
  (step:∀(i:Nat) σ' H2,(i:Int)<n->Sv σ'->Same H1 H2->∀(Ny:V->St->Hp->Prop) (Nn:St->Hp->Prop),(∀σ2 H5,Sv σ2->Same H2 H5->p i=true->Ny (f i) σ2 H5)->(∀σ2 H4,Sv σ2->Same H2 H4->p i=false->Nn σ2 H4) ->
   g (.int (0+(i:Int))) σ' H2 λσ2 H3=>tc σ2 H3 λb H4=>if b=true then te σ2 H4 λv H5=>Ny v σ2 H5 else Nn σ2 H4)
  (hQ:∀D H',Same H1 H'->H' D=some (.lst (((List.range n.toNat).filter p).map f))->Q (.ref D) H'):tComp mp (zxm ta) g tc te σ H Q:=by
 unfold tComp;refine hta _ ⟨n,Z,by omega,by omega,λD hD=>?_⟩;refine zfl (zle 0 n.toNat) hD (Yr (show n.toNat<=1000 by omega) (by rw[sizeLine_eq];decide)) Sv p f h0 ?_ λH' e hL=>hQ D H' e hL
 rintro i v σ' H2 hi hs e rfl Ny Nn hy hn';exact step i σ' H2 (by omega) hs e Ny Nn hy hn'
theorem ObjOk.obj{P:Program}{w:World}{H:Hp}{h:Heap}{a:Addr}{o:HO}(x:ObjOk P w H h a o):∃ob,h.get? a=some ob:=by
 cases o with
 | lst xs=>obtain⟨_,_,_,_,e⟩:=x;exact⟨_,e⟩
 | tup xs=>obtain⟨_,_,_,ob,e,_⟩:=x;exact⟨_,e⟩
 | dK kvs=>obtain⟨_,_,_,_,o,_,_,e,_⟩:=x;exact⟨_,e⟩
 | dT kvs=>obtain⟨_,_,_,_,o,_,_,e,_⟩:=x;exact⟨_,e⟩
 | set S n=>obtain⟨o,_,_,_,e,_⟩:=x;exact⟨_,e⟩
 | ins C dx fs=>obtain⟨_,_,_,e,_⟩:=x;exact⟨_,e⟩
 | own y=>obtain⟨_,e⟩:=x;exact⟨_,e⟩
 | xd fs=>obtain⟨_,⟨_,_,_,e,_⟩,_⟩:=x;exact⟨_,e⟩
 | rng lo hi=>obtain⟨_,_,_,e⟩:=x;exact⟨_,e⟩
 | frz ob u=>obtain⟨e,_⟩:=x;exact⟨_,e⟩
 | tbl ps=>exact⟨_,show h.get? a=some _ from x⟩
 | met f y=>exact⟨_,show h.get? a=some _ from x⟩
 | ext φ=>obtain⟨_,⟨_,e⟩,_⟩:=x;exact⟨_,e⟩
structure Cov(B:Heap)(fs:List Addr)(H':Hp)(h:Heap):Prop where
 old:∀b o,h.get? b=some o->b ∉ fs->∃o',B.get? b=some o'
 trk:∀b u,H' b=some u->∃o',B.get? b=some o'
def CXe(P:Program)(w:World):CXT:=λouter H s E e s'=>∃(a:Addr) (cls a0:Value) (B:Heap) (H':Hp),e=.ref a/\s'.os=s.os/\AllBare s'.gens/\Un (frs outer) [] H H' s.heap s'.heap/\HOk P w H' s'.heap /\
 Heap.FlyingW B outer a cls a0 s'.heap/\Cov B (frs outer) H' s.heap/\E cls none H'
section
variable{P:Program}{w:World}{fs:List Addr}{H H':Hp}{h h1 h2 B:Heap}
theorem Heap.two{B h1 h2:Heap}(s1:B.StaysIn h1)(s2:B.StaysIn h2){b:Addr}{o o':Obj}(e:h1.get? b=some o)(q:B.get? b=some o'):h2.get? b=some o:=by
 have:=s1 b o' q;rw[e]at this;cases this;exact s2 b _ q
theorem zjj(u:Un fs [] H H' h h1)(cov:Cov B fs H' h)(s1:B.StaysIn h1)(s2:B.StaysIn h2)(sl:∀b o,b∈fs->h1.get? b=some o->∃sl,h2.get? b=some { o with slots:=sl }):Un fs [] H H' h h2:=by
 refine⟨λb o e n hb hx=>?_,λb o e n hb hx=>?_,u.free,λb o e hx=>?_,u.tups,u.frzs,u.tbls⟩
 ·obtain⟨o',q⟩:=cov.old b o e hb;exact Heap.two s1 s2 (u.keep b o e n hb hx) q
 ·obtain⟨sl1,e1⟩:=u.slot b o e n hb hx;obtain⟨sl2,e2⟩:=sl b _ hb e1;exact⟨sl2,e2⟩
 ·by_cases hb:b∈fs
  ·obtain⟨o',e1⟩:=u.there b o e hx;obtain⟨sl2,e2⟩:=sl b _ hb e1;exact⟨_,e2⟩
  ·obtain⟨o',q⟩:=cov.old b o e hb;exact⟨o',s2 b o' q⟩
theorem zkd(ok:HOk P w H' h1)(trk:∀b u,H' b=some u->∃o',B.get? b=some o')(s1:B.StaysIn h1)(s2:B.StaysIn h2):HOk P w H' h2:=λb u e=>by
 refine(ok b u e).stay (λc v hc q=>?_) (λ_ q=>q) λ_ _ q=>q
 have:∃o',B.get? c=some o':=by
  rcases hc with rfl | hc
  ·exact trk c u e
  ·exact trk c _ hc
 obtain⟨o',q'⟩:=this;exact Heap.two s1 s2 q q'
theorem zl5{base:Heap}{l:List Env}(ff:h1.FunFrames base l)(up:h1.UpToSlots h2):∀b o,b∈frs l->h1.get? b=some o->∃sl,h2.get? b=some { o with slots:=sl }:=λb o hb e=>by
 obtain⟨_,o',e',d⟩:=ff.mem hb;rw[e]at e';cases e';exact up b o e d
end
def RaisesTo(X:Cx)(E:St->XK):Prop:=∀(pins:List (Addr×Obj)) (σ : St) (H:Hp) (s:Shared) (h':Heap) (e:Addr) (cls:Value) (args:List Value),Inv X pins σ H s->Heap.MadeExcOf s.heap h' e cls args->E σ cls none H->X.xe (.ref e) { s with heap:=h' }
def PassesS(CX:CXT)(X:Cx)(E:St->XK):Prop:=∀(pins:List (Addr×Obj)) (σ : St) (H:Hp) (s:Shared) (e:Value) (s':Shared),Inv X pins σ H s->CX X.stack H s (E σ) e s'->X.xe e s'
section
variable{P:Program}{w:World}{K:W.Frag}{mg:Str->Option Value}{base:Heap}{N:List Str}{qual:Str}{scope:Scope}{f:Addr}{cd:Value}{A:Around}{outer:List Env}{s₀:Shared}{H₀:Hp}{E:XK}
theorem za3:RaisesTo (cxOf (CXe P w) P w K mg base N qual scope f cd A outer s₀ H₀ E) (λ_=>E):=by
 intro pins σ H s h' e cls args I hx hE;have ff:=W.funFrames_hide (as:=frs (cxOf (CXe P w) P w K mg base N qual scope f cd A outer s₀ H₀ E).stack) I.stack λenv he a ha=>List.mem_filterMap.mpr ⟨env,he,ha⟩
 have stB:(W.hideAll s.heap (frs (cxOf (CXe P w) P w K mg base N qual scope f cd A outer s₀ H₀ E).stack)).StaysIn s.heap:=λb o e=>W.of_hideAll _ e
 have inB:∀b o,s.heap.get? b=some o->b ∉ frs (cxOf (CXe P w) P w K mg base N qual scope f cd A outer s₀ H₀ E).stack->(W.hideAll s.heap (frs (cxOf (CXe P w) P w K mg base N qual scope f cd A outer s₀ H₀ E).stack)).get? b=some o:=
  λb o e hb=>W.hideAll_get _ e hb
 refine wpAny_leaves_madeW (outer:=outer) I.ok.frames rfl stB ff hx λh'' t fl tup nt up=>?_
 have cov:Cov (W.hideAll s.heap (frs (cxOf (CXe P w) P w K mg base N qual scope f cd A outer s₀ H₀ E).stack)) (frs outer) H s₀.heap:=by
  refine⟨λb o e hb=>?_,λb u e=>?_⟩
  ·obtain⟨o1,e1⟩:=I.base.there b o e (by intro z;exact absurd (show b∈([]:List Addr) from z) (by simp));refine⟨o1,inB b o1 e1 λz=>?_⟩;rcases Yj.mp (I.stkSub b z) with q | q
   ·exact absurd q (Y0 (Yf (Yn e) I.ok.above))
   ·exact hb q
  ·obtain⟨ob,eo⟩:=(I.hok b u e).obj;exact⟨ob,inB b ob eo λz=>by rw[I.stkFree b z]at e;cases e⟩
 refine⟨e,cls,.ref t,_,H,Z,I.os,I.bare,zjj I.base cov stB fl.1 λb o hb eo=>?_,zkd I.hok cov.trk stB fl.1,fl,cov,hE⟩;obtain⟨_,o',e',d⟩:=I.funs.mem hb;rw[eo]at e';cases e';exact up b o (hx.keeps b o eo) d
theorem zax:PassesS (CXe P w) (cxOf (CXe P w) P w K mg base N qual scope f cd A outer s₀ H₀ E) (λ_=>E):=by
 intro pins σ H s e s' I hq;obtain⟨a,cls,a0,B,H',rfl,os,bare,un,hok,fl,cov,hE⟩:=hq;have I':=I.call' (ch:=[]) os un hok bare λb z=>absurd z (by simp)
 refine wpAny_leaves_onW (outer:=outer) I'.ok.frames rfl fl λh'' fl' up=>?_
 have cov0:Cov B (frs outer) H' s₀.heap:=by
  refine⟨λb o e hb=>?_,cov.trk⟩;obtain⟨o1,e1⟩:=I.base.there b o e (by intro z;exact absurd (show b∈([]:List Addr) from z) (by simp));refine cov.old b o1 e1 λz=>?_
  rcases Yj.mp (I.stkSub b z) with q | q
  ·exact absurd q (Y0 (Yf (Yn e) I.ok.above))
  ·exact hb q
 exact⟨a,cls,a0,B,H',Z,I'.os,I'.bare,zjj I'.base cov0 fl.1 fl'.1 (zl5 I'.funs up),zkd I'.hok cov.trk fl.1 fl'.1,fl',cov0,hE⟩
end
def zkj(sp:Sp)(dvs:List V)(E:St->XK)(t:TA):TE:=λσ H Q=>t σ H λvs H1=>sp (vs++dvs) H1 Q (E σ)
def zny(C:Addr)(m:Str)(sp:Sp)(dvs:List V)(E:St->XK)(ta:TE)(t:TA):TE:=λσ H Q=>ta σ H λx H1=>∃a dx fs,x=.ref a/\H1 a=some (.ins C dx fs)/\fs.lookup m=none /\
 t σ H1 λvs H2=>sp (x::(vs++dvs)) H2 Q (E σ)
def zmd(C:Addr)(sp:Sp)(dvs:List V)(E:St->XK)(t:TA):TE:=λσ H Q=>t σ H λvs H1=>∀x dx,H1 x=none->H1 dx=none->dx≠x ->
 sp (.ref x::(vs++dvs)) (upd (upd H1 dx (.own x)) x (.ins C dx [])) (λv H2=>v=.non/\Q (.ref x) H2) (E σ)
section
variable{X:Cx}{CX:CXT}{k:Nat}{f C:Addr}{fd:FuncData}{ps:List Str}{sp:Sp}{dvs:List V}{ds:List Value}{E:St->XK}{x m:Str}{p pos apos:Pos}{e o:Expr}{es:List Expr}{ta:TE}{t:TA}
theorem zgs{pins:List (Addr×Obj)}{σ : St}{H:Hp}{s:Shared}{Q:VK}{us:List Value}{vs:List V}(F:FnOk X.prog X.w X.K X.mg X.base CX k f fd ps sp)(hr:Room k X.A)(hb:Binds X.K fd ps ds)(hd:Vals dvs ds)(hx:PassesS CX X E)
  (I:Inv X pins σ H s) (r:Vals vs us) (h:sp (vs++dvs) H Q (E σ)):wpAny (model X.prog X.w) X.A (call (.ref f) us) (EP X pins σ Q) X.xe s:=by
 have r2:Vals (vs++dvs) (us++ds):=r.append hd;have hl:(us++ds).length=ps.length:=by rw[<- r2.length];exact F.len _ _ _ _ h
 refine wpAny_call (codeAny_mono (F.run X.A X.stack s H ⟨us,[]⟩ (us++ds) (vs++dvs) Q (E σ) hr I.env0 (hb s us I.kIn hl) r2 h) λr s' hq=>?_);match r,hq with
 | .error e,hq=>exact hx pins σ H s e s' I hq
 | .ok (.ret u),hq=>exact I.after hq
 | .ok .next,hq=>exact Je hq
 | .ok .brk,hq=>exact Je hq
 | .ok .cont,hq=>exact Je hq
theorem zph(F:FnOk X.prog X.w X.K X.mg X.base CX k f fd ps sp)(hr:Room k X.A)(hg:Gl X x)(hm:X.mg x=some (.ref f))(hk:W.keepIn X.K (.ref f)=true)(hb:Binds X.K fd ps ds)(hd:Vals dvs ds)(hx:PassesS CX X E)
  (ha:PA X (e::es) t) (hdb:(x == ("__debug__" : Str))=false:=by decide) (he:starEach (e::es) X.env=(false,eval e X.env)::starEach es X.env:=by rfl) (hpl:(backTo pos (starEach es X.env)).any (·.1)=false:=by rfl) :
  PE X (.Call (.Name x p) (e::es) [] pos) (zkj sp dvs E t):=by
 intro pins s σ H Q I h;refine wpAny_Call_Name_kw (zdu I hg hm (W.callWith_K (h₀:=X.base) I.ok.mod.kin hk (thn (ha pos pins s σ H _ I h) λus s1 ⟨vs,H1,I1,r,q⟩=>⟨I1.kIn,?_⟩) he hpl) hdb);exact zgs F hr hb hd hx I1 r q
theorem zpt{pl:Sem Bool}(he:PE X o ta)(c:Cls X.K C)(hm:Meth X.K C m f)(F:FnOk X.prog X.w X.K X.mg X.base CX k f fd ps sp)(hr:Room k X.A)(hb:Binds X.K fd ps ds)(hd:Vals dvs ds)(hx:PassesS CX X E)(ha:PA X (e::es) t)
  (hst:starEach (e::es) X.env=(false,eval e X.env)::starEach es X.env:=by rfl) (hpl:(backTo pos (starEach es X.env)).any (·.1)=false:=by rfl)
  (ht:eval (.Call (.Attribute o m apos) (e::es) [] pos) X.env=(do
   let ov <- eval o X.env
   standAt apos.atName
   let (f,first) <- holding [ov] (getMethod ov m pl)
   callWith pos f first (backTo pos (starEach (e::es) X.env)) (backToKw pos (keywordEach [] X.env))):=by rfl) :
  PE X (.Call (.Attribute o m apos) (e::es) [] pos) (zny C m sp dvs E ta t):=by
 intro pins s σ H Q I h;refine W.methodCall_KW (pl:=pl) (thn (he pins s σ H _ I h) λu s1 ⟨x,H1,I1,rx,a,dx,fs,ex,ea,l,q⟩=>?_) ht;subst ex;obtain rfl:u=Value.ref a:=rx;refine zf7 I1 ea c hm l (W.callWith_K (first:=[.ref a]) (h₀:=X.base) I.ok.mod.kin hm.kp (thn (ha pos pins s1 σ H1 _ I1 q) λus s2 ⟨vs,H2,I2,r,q2⟩=>⟨I2.kIn,?_⟩) hst hpl);exact zgs (us:=.ref a::us) (vs:=.ref a::vs) F hr hb hd hx I2 (.cons rfl r) q2
end
def zqu(C:Addr)(E:St->XK)(t:TA):TS:=λ_ σ H=>t σ H λvs H1=>vs.length<=sizeLine/\E σ (.ref C) none H1
theorem zqd{X:Cx}{C:Addr}{x:Str}{bm:List Value}{newId initId B:String}{e:Expr}{es:List Expr}{t:TA}{np cpos pos:Pos}{E:St->XK}(O:OwnCls x C bm newId X.mg X.base)(FB:ExcBaseFacts B newId initId bm)(hc:X.calm=true)(hg:Gl X x)
  (hx:RaisesTo X E) (ha:PA X (e::es) t) (he:starEach (e::es) X.env=(false,eval e X.env)::starEach es X.env:=by rfl) (hpl:(backTo cpos (starEach es X.env)).any (·.1)=false:=by rfl) (hd:(x == ("__debug__" : Str))=false:=by decide) :
  PS X (.Raise (some (.Call (.Name x np) (e::es) [] cpos)) none pos) (zqu C E t):=by
 intro pins s σ H D I h;obtain⟨tl,N,nm,q,bs,hdct,sn,sub,ab,col,dd,k0,k1,k2,k3,k5,mN,hC,hN,hni,T⟩:=O.obj;refine wpAny_Raise_call_subT (C:=C) (nm:=nm) (q:=q) (N:=N) (bs:=bs) (bm:=tl) (hdct:=hdct) (sn:=sn) (sub:=sub) (ab:=ab) (col:=col) (dd:=dd) (k0:=k0) (k1:=k1) (k2:=k2) (k3:=k3) (k5:=k5)
  FB (mN:=mN) (T.hasType FB.hasBase) (I.ok.hd hc) (by rw[he];show (false||(backTo cpos (starEach es X.env)).any (·.1))=false;rw[hpl];rfl) hni (zdu I hg O.bound ⟨Z,?_⟩ hd)
 have ha':=ha cpos pins s σ H _ I h;rw[he]at ha' ⊢;refine Calls.evalArgs_plain (thn ha' λus s2 ⟨vs,H2,I2,r,hl,hE⟩=>⟨Z,by rw[<- r.length];exact hl,I2.bk _ _ hC,hN.keeps I2.bk,T.keeps I2.bk,λh' e hm=>hx pins σ H2 s2 h' e _ _ I2 hm hE⟩)
theorem zh4{K:W.Frag}{h:Heap}{mg:Str->Option Value}{x:Str}{C:Addr}{bm:List Value}{nid:String}(X:K.In h)(G:h.Ns mainGlobals mg)(e:W.nsIn K mainGlobals x=some (some (.ref C)))(q:W.excIn K C bm nid=true):OwnCls x C bm nid mg h:=by
 have G':=W.mg_of X G e;unfold W.excIn at q;split at q
 case h_2=>cases q
 rename_i dd cd sl ho;split at q
 case h_2=>cases q
 rename_i C' tl k0 k1 k2 k3 n k5 hm hs;simp only[Bool.and_eq_true,beq_iff_eq,Bool.not_eq_true']at q
 obtain⟨⟨⟨⟨⟨q1,q2⟩,q3⟩,q4⟩,q5⟩,q6⟩:=q;subst q1;subst q2;obtain⟨c1,c2,c3,c4,c5,c6,c7,c8,c9,c10,c11⟩:=cd;dsimp only at hm q3 q5 q6;subst hm;subst q3;have z:sl = #[k0,k1,k2,k3,some (.builtin n),k5]:=by obtain⟨l⟩:=sl;simp only at hs;rw[hs]
 subst z;exact⟨G',tl,c4,c1,c5,c2,c6,c7,c8,c9,c10,dd,k0,k1,k2,k3,k5,_,X _ _ ho,.of_isNs (W.isNs_of_in X q5),W.nsMap_none_of_in X q5 q6,W.tail_of_in X q4⟩
abbrev Cx.wishP(X:Cx)(pl:List (Addr×Obj))(E:Value->Shared->Prop):Cx:={ X with pn:=X.pn++pl,xe:=E }
abbrev Cx.caught(X:Cx)(a:Addr):Cx:={ X with A:=X.A.mark (some (.ref a)),calm:=false,xe:=λ_ _=>False }
section
variable{X:Cx}{pins pl:List (Addr×Obj)}{σ : St}{H:Hp}{s:Shared}{E:Value->Shared->Prop}{a:Addr}
theorem Inv.wishP(I:Inv X pins σ H s)(E:Value->Shared->Prop):Inv (X.wishP pins E) [] σ H s:=
 ⟨⟨I.ok.mod,I.ok.kind,I.ok.glob,I.ok.blt,I.ok.above,I.ok.inj,I.ok.has,I.ok.cab,I.ok.hd,I.ok.frames,I.ok.stk,I.ok.exf,I.ok.bs,I.ok.bsz,I.ok.noex,I.ok.exfs,I.ok.funs,I.ok.frf⟩,I.os,I.bare,I.base,I.loc,I.cell,I.free,I.freeC,
  λp hp=>I.pin p (by simpa using hp),I.hok,I.len⟩
theorem Inv.unwishP(I:Inv (X.wishP pl E) pins σ H s):Inv X pl σ H s:=
 ⟨⟨I.ok.mod,I.ok.kind,I.ok.glob,I.ok.blt,I.ok.above,I.ok.inj,I.ok.has,I.ok.cab,I.ok.hd,I.ok.frames,I.ok.stk,I.ok.exf,I.ok.bs,I.ok.bsz,I.ok.noex,I.ok.exfs,I.ok.funs,I.ok.frf⟩,I.os,I.bare,I.base,I.loc,I.cell,I.free,I.freeC,
  λp hp=>I.pin p (List.mem_append_left _ hp),I.hok,I.len⟩
theorem Inv.caught(I:Inv X pins σ H s)(a:Addr):Inv (X.caught a) pins σ H s:=
 ⟨⟨I.ok.mod,I.ok.kind,I.ok.glob,I.ok.blt,I.ok.above,I.ok.inj,I.ok.has,I.ok.cab,(λz=>nomatch (show false=true from z)),I.ok.frames,I.ok.stk,I.ok.exf,I.ok.bs,I.ok.bsz,I.ok.noex,I.ok.exfs,I.ok.funs,I.ok.frf⟩,I.os,I.bare,I.base,I.loc,I.cell,I.free,I.freeC,
  I.pin,I.hok,I.len⟩
theorem Inv.uncaught(hd:X.calm=true->X.A.handled=none)(I:Inv (X.caught a) pins σ H s):Inv X pins σ H s:=
 ⟨⟨I.ok.mod,I.ok.kind,I.ok.glob,I.ok.blt,I.ok.above,I.ok.inj,I.ok.has,I.ok.cab,hd,I.ok.frames,I.ok.stk,I.ok.exf,I.ok.bs,I.ok.bsz,I.ok.noex,I.ok.exfs,I.ok.funs,I.ok.frf⟩,I.os,I.bare,I.base,I.loc,I.cell,I.free,I.freeC,
  I.pin,I.hok,I.len⟩
theorem SP.unwishP{D:Ends}{f:Flow}{s':Shared}(h:SP (X.wishP pl E) pins D f s'):SP X pl D f s':=by
 cases f with
 | next=>obtain⟨σ',H',I,q⟩:=h;exact⟨σ',H',I.unwishP,q⟩
 | brk=>obtain⟨σ',H',I,q⟩:=h;exact⟨σ',H',I.unwishP,q⟩
 | cont=>obtain⟨σ',H',I,q⟩:=h;exact⟨σ',H',I.unwishP,q⟩
 | ret u=>obtain⟨v,σ',H',I,r,q⟩:=h;exact⟨v,σ',H',I.unwishP,r,q⟩
theorem SP.uncaught{D:Ends}{f:Flow}{s':Shared}(hd:X.calm=true->X.A.handled=none)(h:SP (X.caught a) pins D f s'):SP X pins D f s':=by
 cases f with
 | next=>obtain⟨σ',H',I,q⟩:=h;exact⟨σ',H',I.uncaught hd,q⟩
 | brk=>obtain⟨σ',H',I,q⟩:=h;exact⟨σ',H',I.uncaught hd,q⟩
 | cont=>obtain⟨σ',H',I,q⟩:=h;exact⟨σ',H',I.uncaught hd,q⟩
 | ret u=>obtain⟨v,σ',H',I,r,q⟩:=h;exact⟨v,σ',H',I.uncaught hd,r,q⟩
end
theorem zi7{bs:List Bool}:∀{us:List Value},Vals (bs.map V.bl) us->LSm.BoolsAre us bs:=by
 induction bs with
 | nil=>intro us r;rw[List.map_nil]at r;cases r;exact .nil
 | cons n ns ih=>
  intro us r;rw[Yz]at r
  cases r with
  | cons r1 r2=>cases (show _=Value.bool n from r1);exact .cons n (ih r2)
section
variable{X:Cx}
theorem zl0(hc:X.calm=true):CallR X (.builtin "all") (λxs H Q=>∃(a:Addr) (bs:List Bool),xs=[.ref a]/\SqL X.K H a (bs.map V.bl)/\Q (.bl (bs.all id)) H):=by
 intro pins s σ H xs us Q I r h;obtain⟨a,bs,rfl,hs,q⟩:=h;obtain⟨u,rfl,ru⟩:=r.one
 cases ru;obtain⟨its,rv,p,_⟩:=I.list hs;have hb:=zi7 rv;have hl:=p.isList;have lt:a<s.heap.objs.size:=by obtain⟨_,e,_⟩:=hl;exact Yn e
 refine call_all_walk (wpAny_pyIter_list hl ⟨s.heap.objs.size,_,_,_,_,_,λi=>(bs[i]?).getD true,Z,Walks.list (A:=X.A.in1) (I.ok.hd hc) _ a (Y0 lt) its.toArray,⟨⟨_,Yk _ rfl,Z,Z⟩,hl.push _⟩,λi v s' Q' E' hP hQ=>?_,λh' tk hk=>?_⟩)
 ·obtain⟨b,e,rfl⟩:=hb.get i v (by simpa using hP);simp only[e,Option.getD_some]at hQ;exact Jo hQ
 ·refine⟨.bl (bs.all id),H,I.kept (LSm.kept_iter hk),?_,q⟩;show Value.bool _=Value.bool _;rw[Ys,hb.length,LSm.range_all bs]
def clV:V->Option Value
 | .ty n=>some (.type n)
 | .ref a=>some (.ref a)
 | _=>none
theorem ziv:CallR X (.builtin "isinstance") (λxs H Q=>∃x y t c b,xs=[x,y]/\clV y=some c/\TyOf X.K H x t/\W.kitOne X.K t c=some b/\Q (.bl b) H):=by
 intro pins s σ H xs us Q I r h;obtain⟨x,y,t,c,b,rfl,hy,ty,e,q⟩:=h;obtain⟨u,v,rfl,ru,rv⟩:=r.two;have ev:v=c:=by
  cases y with
  | ty n=>cases hy;exact rv
  | ref a=>cases hy;exact rv
  | _=>cases hy
 subst ev;exact zmy I ru ty e λtk=>⟨.bl b,H,I.tok _,Z,q⟩
end
theorem PS.nox{X:Cx}{st:Stmt}{t:TS}(h:PS X.nox st t):PS X st t:=λpins s σ H D I hw=>wpAny_mono (h pins s σ H D (I.wish _) hw) (λ_ _ q=>SP.unwish q) λ_ _ z=>z.elim
structure CMeth(K:W.Frag)(C:Addr)(m:Str)(f:Addr):Prop where
 ex:∃mc,W.readsIn K C mc=true/\W.findCls K (.ref C) mc m=some (.val (.ref f))
 sp:W.specialIn K (.ref C) "__getattribute__" = some (some (.builtin "type.__getattribute__"))
 kp:W.keepIn K (.ref f)=true
section
variable{X:Cx}{CX:CXT}{k:Nat}{f C:Addr}{fd:FuncData}{ps:List Str}{sp:Sp}{dvs:List V}{ds:List Value}{E:St->XK}{x m:Str}{p pos apos:Pos}{e o:Expr}{es:List Expr}{ta:TE}{t:TA}
theorem zoc{pl:Sem Bool}(CM:CMeth X.K C m f)(hg:Gl X x)(hm:X.mg x=some (.ref C))(F:FnOk X.prog X.w X.K X.mg X.base CX k f fd ps sp)(hr:Room k X.A)(hb:Binds X.K fd ps ds)(hd:Vals dvs ds)(hx:PassesS CX X E)(ha:PA X (e::es) t)
  (hdb:(x == ("__debug__" : Str))=false:=by decide) (hst:starEach (e::es) X.env=(false,eval e X.env)::starEach es X.env:=by rfl) (hpl:(backTo pos (starEach es X.env)).any (·.1)=false:=by rfl)
  (ht:eval (.Call (.Attribute (.Name x p) m apos) (e::es) [] pos) X.env=(do
   let ov <- eval (.Name x p) X.env
   standAt apos.atName
   let (f,first) <- holding [ov] (getMethod ov m pl)
   callWith pos f first (backTo pos (starEach (e::es) X.env)) (backToKw pos (keywordEach [] X.env))):=by rfl) :
  PE X (.Call (.Attribute (.Name x p) m apos) (e::es) [] pos) (zkj sp dvs E t):=by
 intro pins s σ H Q I h;obtain⟨mc,q1,q2⟩:=CM.ex;refine W.methodCall_KW (pl:=pl) (zdu I hg hm (W.method_cls I.kIn CM.sp (W.cls_value I.kIn q1 q2 rfl ?_)) hdb) ht;have I1:=I.tok (s.toks+1);refine W.callWith_K (first:=[]) (h₀:=X.base) I.ok.mod.kin CM.kp (thn (ha pos pins _ σ H _ I1 h) λus s2 ⟨vs,H2,I2,r,q⟩=>⟨I2.kIn,?_⟩) hst hpl;exact zgs F hr hb hd hx I2 r q
theorem zhw{pins:List (Addr×Obj)}{σ : St}{H:Hp}{s:Shared}{Q:VK}{us:List Value}{vs:List V}(M:Mk X.K C f)(F:FnOk X.prog X.w X.K X.mg X.base CX k f fd ps sp)(hr:Room (k+1) X.A)(hb:Binds X.K fd ps ds)(hd:Vals dvs ds)
  (hx:PassesS CX X E) (I:Inv X pins σ H s) (r:Vals vs us)
  (h:∀x dx,H x=none->H dx=none->dx≠x->sp (.ref x::(vs++dvs)) (upd (upd H dx (.own x)) x (.ins C dx [])) (λv H2=>v=.non/\Q (.ref x) H2) (E σ)) :
  wpAny (model X.prog X.w) X.A (call (.ref C) us) (EP X pins σ Q) X.xe s:=by
 have hq:=h (s.heap.objs.size+1) s.heap.objs.size (I.hok.fresh (Nat.le_succ _)) (I.hok.fresh (Yi _)) (Y0 (Nat.lt_succ_self _));have I2:=Inv.made (C:=C) I;have r2:Vals (V.ref (s.heap.objs.size+1)::(vs++dvs)) (Value.ref (s.heap.objs.size+1)::(us++ds)):=.cons rfl (r.append hd);have hl:(Value.ref (s.heap.objs.size+1)::us++ds).length=ps.length:=by
  have e:=r2.length;rw[F.len _ _ _ _ hq]at e;exact e.symm
 refine wpAny_call (zpo (f:=f) I.kIn M.makes M.init (beq_iff_eq.mp M.fn) (codeAny_mono (F.run _ X.stack _ _ ⟨Value.ref (s.heap.objs.size+1)::us,[]⟩ (Value.ref (s.heap.objs.size+1)::(us++ds)) _ _ (E σ) (hr.make C us [])
  (I2.env0.make C us []) (hb _ (Value.ref (s.heap.objs.size+1)::us) I2.kIn hl) r2 hq) λr s' hq'=>?_))
 match r,hq' with
 | .error e,hq'=>exact hx pins σ _ _ e s' I2 hq'
 | .ok (.ret u),hq'=>
  obtain⟨v,H',I3,rv,ev,q3⟩:=I2.after hq';subst ev;exact⟨rv,⟨V.ref (s.heap.objs.size+1),H',I3,Z,q3⟩⟩
 | .ok .next,hq'=>exact Je hq'
 | .ok .brk,hq'=>exact Je hq'
 | .ok .cont,hq'=>exact Je hq'
theorem zpr(M:Mk X.K C f)(F:FnOk X.prog X.w X.K X.mg X.base CX k f fd ps sp)(hr:Room (k+1) X.A)(hg:Gl X x)(hm:X.mg x=some (.ref C))(hb:Binds X.K fd ps ds)(hd:Vals dvs ds)(hx:PassesS CX X E)
  (ha:PA X (e::es) t) (hdb:(x == ("__debug__" : Str))=false:=by decide) (he:starEach (e::es) X.env=(false,eval e X.env)::starEach es X.env:=by rfl) (hpl:(backTo pos (starEach es X.env)).any (·.1)=false:=by rfl) :
  PE X (.Call (.Name x p) (e::es) [] pos) (zmd C sp dvs E t):=by
 intro pins s σ H Q I h;refine wpAny_Call_Name_kw (zdu I hg hm (W.callWith_K (h₀:=X.base) I.ok.mod.kin M.kp (thn (ha pos pins s σ H _ I h) λus s1 ⟨vs,H1,I1,r,q⟩=>⟨I1.kIn,?_⟩) he hpl) hdb);exact zhw M F hr hb hd hx I1 r q
end
end L2
set_option Elab.async false
set_option linter.all false
set_option maxRecDepth 100000
namespace L2
open PySem PySem.Spec PyProof.Rows
structure FunD(K:W.Frag)(x qual:Str)(st:Stmt)(dV:Value)(f:Addr)(fd:FuncData):Prop where
 ex:∃(oc:Value) (od:Option Addr) (kV doc pm:Value) (an:Option Addr) (cdv ct:Value) (osl:Array (Option Value)),
  fd=W.fnOf x qual (zcv st) (zb5 st) (zak st) dV kV doc pm an cdv ct/\K.lookup f=some ⟨oc,od,.func fd,osl⟩/\W.codeIn K cdv qual=true
section
variable{P:Program}{w:World}{K:W.Frag}{mg:Str->Option Value}{base:Heap}{x qual:Str}{st:Stmt}{dV:Value}{f:Addr}{fd:FuncData}{N ps:List Str}{k:Nat}{sp:Sp}
theorem FunD.okN(F:FunD K x qual st dV f fd)(S:FnScope N ps (zak st))(len:∀vs H Q E,sp vs H Q E->vs.length=ps.length)
  (hbody:∀(cdv:Value) (A:Around) (outer:List Env) (s:Shared) (H:Hp) (vs:List V) (Q:VK) (E:XK),Room k (A.deeper (envOfC qual (zak st) s.heap.objs.size f cdv))->sp vs H Q E ->
   ∃t,PSs (cxOf CX0 P w K mg base N qual (zak st) f cdv A outer s H E).nox (zb5 st) t/\t { nx:=λ_ H'=>Q .non H',rt:=Q } (start N vs) H):FnOk P w K mg base CX0 (k+1) f fd ps sp:=by
 obtain⟨oc,od,kV,doc,pm,an,cdv,ct,osl,rfl,lk,hcd⟩:=F.ex;refine zxj lk hcd S len λA outer s H vs Q E hr hsp=>?_
 obtain⟨t,h,q⟩:=hbody cdv A outer s H vs Q E hr hsp;exact⟨t,h.nox,q⟩
theorem FunD.okX(F:FunD K x qual st dV f fd)(S:FnScope N ps (zak st))(len:∀vs H Q E,sp vs H Q E->vs.length=ps.length)
  (hbody:∀(cdv:Value) (A:Around) (outer:List Env) (s:Shared) (H:Hp) (vs:List V) (Q:VK) (E:XK),Room k (A.deeper (envOfC qual (zak st) s.heap.objs.size f cdv))->sp vs H Q E ->
   ∃t,PSs (cxOf (CXe P w) P w K mg base N qual (zak st) f cdv A outer s H E) (zb5 st) t/\t { nx:=λ_ H'=>Q .non H',rt:=Q } (start N vs) H):FnOk P w K mg base (CXe P w) (k+1) f fd ps sp:=by
 obtain⟨oc,od,kV,doc,pm,an,cdv,ct,osl,rfl,lk,hcd⟩:=F.ex;exact zxj lk hcd S len λA outer s H vs Q E hr hsp=>hbody cdv A outer s H vs Q E hr hsp
theorem FunD.binds(F:FunD K x qual st .none f fd)
  (h:∀(kV doc pm:Value) (an:Option Addr) (cdv ct:Value) (us:List Value),us.length=ps.length->bindArgs (W.fnOf x qual (zcv st) (zb5 st) (zak st) .none kV doc pm an cdv ct) ⟨us,[]⟩=pure (ps.zip us)):Binds K fd ps []:=by
 obtain⟨oc,od,kV,doc,pm,an,cdv,ct,osl,rfl,lk,hcd⟩:=F.ex;exact .all (h kV doc pm an cdv ct)
theorem FunD.bindsD{T:Addr}{o:Obj}{items:Array Value}{n:Nat}{ds:List Value}(F:FunD K x qual st (.ref T) f fd)(hT:K.lookup T=some o)(hs:o.data=.seq items n)
  (h:∀(kV doc pm:Value) (an:Option Addr) (cdv ct:Value) (us:List Value),(us++ds).length=ps.length->∃k:Option (Array Value)->Sem (List (Str×Value)),bindArgs (W.fnOf x qual (zcv st) (zb5 st) (zak st) (.ref T) kV doc pm an cdv ct) ⟨us,[]⟩=seqItems? (.ref T) >>= k/\k (some items)=pure (ps.zip (us++ds))):Binds K fd ps ds:=by
 obtain⟨oc,od,kV,doc,pm,an,cdv,ct,osl,rfl,lk,hcd⟩:=F.ex;intro s us KX hl;obtain⟨k,h1,h2⟩:=h kV doc pm an cdv ct us hl;exact BindsTo.of_defaults (T:=T) rfl (KX _ _ hT) hs h1 h2
theorem zfu{oc:Value}{od an:Option Addr}{osl:Array (Option Value)}{kV doc pm cdv ct:Value}(l:K.lookup f=some ⟨oc,od,.func (W.fnOf x qual (zcv st) (zb5 st) (zak st) dV kV doc pm an cdv ct),osl⟩)
  (c:W.codeIn K cdv qual=true):FunD K x qual st dV f (W.fnOf x qual (zcv st) (zb5 st) (zak st) dV kV doc pm an cdv ct):=⟨⟨oc,od,kV,doc,pm,an,cdv,ct,osl,Z,l,c⟩⟩
end
structure Cal(P:Program)(w:World)(K:W.Frag)(mg:Str->Option Value)(base:Heap)(CX:CXT)(k:Nat)(x:Str)(ps:List Str)(ds:List Value)(sp:Sp):Prop where
 ex:∃f fd,FnOk P w K mg base CX k f fd ps sp/\Binds K fd ps ds/\W.keepIn K (.ref f)=true/\mg x=some (.ref f)
structure MCal(P:Program)(w:World)(K:W.Frag)(mg:Str->Option Value)(base:Heap)(CX:CXT)(k:Nat)(C:Addr)(m:Str)(ps:List Str)(ds:List Value)(sp:Sp):Prop where
 ex:∃f fd,FnOk P w K mg base CX k f fd ps sp/\Binds K fd ps ds/\Meth K C m f
 cl:Cls K C
structure Mak(P:Program)(w:World)(K:W.Frag)(mg:Str->Option Value)(base:Heap)(CX:CXT)(k:Nat)(x:Str)(C:Addr)(ps:List Str)(ds:List Value)(sp:Sp):Prop where
 ex:∃f fd,FnOk P w K mg base CX k f fd ps sp/\Binds K fd ps ds/\Mk K C f
 at_:mg x=some (.ref C)
structure CCal(P:Program)(w:World)(K:W.Frag)(mg:Str->Option Value)(base:Heap)(CX:CXT)(k:Nat)(x:Str)(m:Str)(ps:List Str)(ds:List Value)(sp:Sp):Prop where
 ex:∃C f fd,FnOk P w K mg base CX k f fd ps sp/\Binds K fd ps ds/\CMeth K C m f/\mg x=some (.ref C)
structure Exc(K:W.Frag)(mg:Str->Option Value)(base:Heap)(x:Str)(C:Addr):Prop where
 ex:∃bm nid init B,OwnCls x C bm nid mg base/\ExcBaseFacts B nid init bm
 at_:mg x=some (.ref C)
 me:W.exmOne K (.ref C) (.ref C)=some true
theorem zaw{X:Cx}:PassesS CX0 X (λ_=>E0):=λ_ _ _ _ _ _ _ h=>h.elim
theorem zw5{X:Cx}{P:Program}{w:World}:PassesS (CXe P w) X (λ_=>E0):=by
 rintro _ _ _ _ _ _ _ ⟨_,_,_,_,_,_,_,_,_,_,_,_,h⟩;exact h.elim
section
variable{X:Cx}{CX:CXT}{k j:Nat}{C:Addr}{ps:List Str}{sp:Sp}{dvs:List V}{ds:List Value}{E:St->XK}{x m:Str}{p pos apos:Pos}{e o:Expr}{es:List Expr}{ta:TE}{t:TA}
theorem pe_c(c:Cal X.prog X.w X.K X.mg X.base CX k x ps ds sp)(hr:Room j X.A)(hx:PassesS CX X E)(hd:Vals dvs ds)(ha:PA X (e::es) t)(hk:k<=j:=by decide)(hg:Gl X x:=by rfl)
  (hdb:(x == ("__debug__" : Str))=false:=by decide) (he:starEach (e::es) X.env=(false,eval e X.env)::starEach es X.env:=by rfl) (hpl:(backTo pos (starEach es X.env)).any (·.1)=false:=by rfl) :
  PE X (.Call (.Name x p) (e::es) [] pos) (zkj sp dvs E t):=by
 obtain⟨f,fd,F,hb,hk',hm⟩:=c.ex;exact zph F (hr.mono hk) hg hm hk' hb hd hx ha hdb he hpl
theorem pe_m{pl:Sem Bool}(c:MCal X.prog X.w X.K X.mg X.base CX k C m ps ds sp)(he:PE X o ta)(hr:Room j X.A)(hx:PassesS CX X E)(hd:Vals dvs ds)(ha:PA X (e::es) t)(hk:k<=j:=by decide)
  (hst:starEach (e::es) X.env=(false,eval e X.env)::starEach es X.env:=by rfl) (hpl:(backTo pos (starEach es X.env)).any (·.1)=false:=by rfl)
  (ht:eval (.Call (.Attribute o m apos) (e::es) [] pos) X.env=(do
   let ov <- eval o X.env
   standAt apos.atName
   let (f,first) <- holding [ov] (getMethod ov m pl)
   callWith pos f first (backTo pos (starEach (e::es) X.env)) (backToKw pos (keywordEach [] X.env))):=by rfl) :
  PE X (.Call (.Attribute o m apos) (e::es) [] pos) (zny C m sp dvs E ta t):=by
 obtain⟨f,fd,F,hb,hm⟩:=c.ex;exact zpt he c.cl hm F (hr.mono hk) hb hd hx ha hst hpl ht
theorem zcg{pl:Sem Bool}(c:MCal X.prog X.w X.K X.mg X.base CX k C m ps ds sp)(he:PE X o ta)(hr:Room j X.A)(hx:PassesS CX X E)(hd:Vals dvs ds)(hk:k<=j:=by decide)
  (ht:eval (.Call (.Attribute o m apos) [] [] pos) X.env=(do
   let ov <- eval o X.env
   standAt apos.atName
   let (f,first) <- holding [ov] (getMethod ov m pl)
   callWith pos f first (backTo pos (starEach [] X.env)) (backToKw pos (keywordEach [] X.env))):=by rfl) :
  PE X (.Call (.Attribute o m apos) [] [] pos) (zny C m sp dvs E ta tNil):=by
 obtain⟨f,fd,F,hb,hm⟩:=c.ex;intro pins s σ H Q I h;refine W.methodCall_KW (pl:=pl) (thn (he pins s σ H _ I h) λu s1 ⟨x,H1,I1,rx,a,dx,fs,ex,ea,l,q⟩=>?_) ht;subst ex;obtain rfl:u=Value.ref a:=rx;refine zf7 I1 ea c.cl hm l ?_;exact W.callWith_K0 (first:=[.ref a]) I1.kIn hm.kp (zgs (us:=[.ref a]) (vs:=[.ref a]) F (hr.mono hk) hb hd hx I1 (.cons rfl .nil) q)
theorem zt6(c:Mak X.prog X.w X.K X.mg X.base CX k x C ps ds sp)(hr:Room j X.A)(hx:PassesS CX X E)(hd:Vals dvs ds)(ha:PA X (e::es) t)(hk:k+1<=j:=by decide)(hg:Gl X x:=by rfl)
  (hdb:(x == ("__debug__" : Str))=false:=by decide) (he:starEach (e::es) X.env=(false,eval e X.env)::starEach es X.env:=by rfl) (hpl:(backTo pos (starEach es X.env)).any (·.1)=false:=by rfl) :
  PE X (.Call (.Name x p) (e::es) [] pos) (zmd C sp dvs E t):=by
 obtain⟨f,fd,F,hb,hm⟩:=c.ex;exact zpr hm F (hr.mono hk) hg c.at_ hb hd hx ha hdb he hpl
theorem zu0(c:Mak X.prog X.w X.K X.mg X.base CX k x C ps ds sp)(hr:Room j X.A)(hx:PassesS CX X E)(hd:Vals dvs ds)(hk:k+1<=j:=by decide)(hg:Gl X x:=by rfl)(hdb:(x == ("__debug__" : Str))=false:=by decide) :
  PE X (.Call (.Name x p) [] [] pos) (zmd C sp dvs E tNil):=by
 obtain⟨f,fd,F,hb,hm⟩:=c.ex;intro pins s σ H Q I h;refine wpAny_Call_Name_kw (zdu I hg c.at_ ?_ hdb);exact W.callWith_K0 I.kIn hm.kp (zhw (us:=[]) hm F (hr.mono hk) hb hd hx I .nil h)
theorem zxd{pl:Sem Bool}(c:CCal X.prog X.w X.K X.mg X.base CX k x m ps ds sp)(hr:Room j X.A)(hx:PassesS CX X E)(hd:Vals dvs ds)(ha:PA X (e::es) t)(hk:k<=j:=by decide)(hg:Gl X x:=by rfl)
  (hdb:(x == ("__debug__" : Str))=false:=by decide) (hst:starEach (e::es) X.env=(false,eval e X.env)::starEach es X.env:=by rfl) (hpl:(backTo pos (starEach es X.env)).any (·.1)=false:=by rfl)
  (ht:eval (.Call (.Attribute (.Name x p) m apos) (e::es) [] pos) X.env=(do
   let ov <- eval (.Name x p) X.env
   standAt apos.atName
   let (f,first) <- holding [ov] (getMethod ov m pl)
   callWith pos f first (backTo pos (starEach (e::es) X.env)) (backToKw pos (keywordEach [] X.env))):=by rfl) :
  PE X (.Call (.Attribute (.Name x p) m apos) (e::es) [] pos) (zkj sp dvs E t):=by
 obtain⟨C,f,fd,F,hb,hm,hmg⟩:=c.ex;exact zoc hm hg hmg F (hr.mono hk) hb hd hx ha hdb hst hpl ht
theorem zf3{np cpos:Pos}(x':Exc X.K X.mg X.base x C)(hc:X.calm=true)(hg:Gl X x)(hx:RaisesTo X E)(ha:PA X (e::es) t)(he:starEach (e::es) X.env=(false,eval e X.env)::starEach es X.env:=by rfl)(hpl:(backTo cpos (starEach es X.env)).any (·.1)=false:=by rfl)(hd:(x == ("__debug__" : Str))=false:=by decide) :
  PS X (.Raise (some (.Call (.Name x np) (e::es) [] cpos)) none pos) (zqu C E t):=by
 obtain⟨bm,nid,init,B,O,FB⟩:=x'.ex;exact zqd O FB hc hg hx ha he hpl hd
end
theorem zd1{X:Cx}{x:Str}{i:Int}{pos:Pos}(hm:∃tk,X.mg x=some (.int i tk))(hg:Gl X x)(hd:(x == ("__debug__" : Str))=false:=by decide):PE X (.Name x pos) (tC (.int i)):=by
 obtain⟨tk,e⟩:=hm;exact zgp hg e ⟨tk,Z⟩ hd
def CDivB(_ j:Int):Prop:=j≠0/\j.natAbs<2^8999
theorem zbu{X:Cx}:OpR X (binaryOp .FloorDiv) (rI CDivB λi j=>.int (i.fdiv j)):=opI λ_ j _ _ _ _ _ hc q=>floordiv_int hc.1 q (.inl (PyProof.noPylong_of_log2 (by
 have h0:j.natAbs≠0:=λz=>hc.1 (Int.natAbs_eq_zero.mp z)
 exact Yf ((Nat.log2_lt h0).mpr hc.2) (by decide))))
theorem cEq{a b:Int}{A B:Prop}(h1:a=b->A)(h2:a≠b->B):if decide (V.int a=V.int b)=true then A else B:=by
 by_cases h:a=b
 ·rw[Yo (Js V.int h)];exact iteT (h1 h)
 ·rw[Yw λz=>h (by injection z)];exact iteF (h2 h)
theorem cNe{a b:Int}{A B:Prop}(h1:a≠b->A)(h2:a=b->B):if (!decide (V.int a=V.int b))=true then A else B:=by
 by_cases h:a=b
 ·rw[Yo (Js V.int h)];exact iteF (h2 h)
 ·rw[Yw λz=>h (by injection z)];exact iteT (h1 h)
theorem cD{c:Prop}[Decidable c]{A B:Prop}(h1:c->A)(h2:¬c->B):if decide c=true then A else B:=by
 by_cases h:c
 ·rw[Yo h];exact iteT (h1 h)
 ·rw[Yw h];exact iteF (h2 h)
theorem cNB{b:Bool}{A B:Prop}(h1:b=false->A)(h2:b=true->B):if (!b)=true then A else B:=by
 cases b with
 | true=>exact iteF (h2 rfl)
 | false=>exact iteT (h1 rfl)
mutual
inductive Rds(K:W.Frag)(H:Hp):V->PyData->Prop
 | non:Rds K H .non .none
 | bl (b:Bool):Rds K H (.bl b) (.bool b)
 | int (i:Int):Rds K H (.int i) (.int i)
 | str (x:Str):Rds K H (.str x) (.str x)
 | tup {a:Addr} {xs:List V} {ds:List PyData}:SqT K H a xs->RdsAll K H xs ds->Rds K H (.ref a) (.tuple ds)
 | lst {a:Addr} {xs:List V} {ds:List PyData}:SqL K H a xs->RdsAll K H xs ds->Rds K H (.ref a) (.list ds)
inductive RdsAll(K:W.Frag)(H:Hp):List V->List PyData->Prop
 | nil:RdsAll K H [] []
 | cons {x:V} {xs:List V} {d:PyData} {ds:List PyData}:Rds K H x d->RdsAll K H xs ds->RdsAll K H (x::xs) (d::ds)
end
section
variable{X:Cx}{pins:List (Addr×Obj)}{σ : St}{H:Hp}{s:Shared}
mutual
theorem Inv.rds(I:Inv X pins σ H s):∀{v:V} {d:PyData} {u:Value},Rds X.K H v d->RelV v u->∃as,Reads s.heap u d as
 | _,_,_,.non,r=>by cases (show _=Value.none from r);exact⟨_,.none⟩
 | _,_,_,.bl b,r=>by cases (show _=Value.bool b from r);exact⟨_,.bool b⟩
 | _,_,_,.int i,r=>by obtain⟨t,rfl⟩:=r;exact⟨_,.int i t⟩
 | _,_,_,.str x,r=>by obtain⟨t,rfl⟩:=r;exact⟨_,.str x t⟩
 | _,_,_,.tup (a:=a) h hs,r=>by
  cases (show _=Value.ref a from r);obtain⟨its,rv,⟨o,ho,hc,n,hd⟩,_⟩:=I.tuple h;obtain⟨as,q⟩:=Inv.rdsAll I hs rv;exact⟨as,.tuple ho hc hd (by simpa using q)⟩
 | _,_,_,.lst (a:=a) h hs,r=>by
  cases (show _=Value.ref a from r);obtain⟨its,rv,p,_⟩:=I.list h;obtain⟨o,ho,hc,n,hd⟩:=p.isList;obtain⟨as,q⟩:=Inv.rdsAll I hs rv;exact⟨_,.list ho hc hd (by simpa using q)⟩
theorem Inv.rdsAll(I:Inv X pins σ H s):∀{vs:List V} {ds:List PyData} {us:List Value},RdsAll X.K H vs ds->Vals vs us->∃as,ReadsAll s.heap us ds as
 | _,_,_,.nil,.nil=>⟨_,.nil⟩
 | _,_,_,.cons h hs,.cons r rs=>by
  obtain⟨as,q⟩:=Inv.rds I h r;obtain⟨bs,p⟩:=Inv.rdsAll I hs rs;exact⟨_,.cons q p⟩
end
end
section
variable{X:Cx}
theorem zfg(hu:X.A.units+64<cLine):OpR X (compareOp .Eq) (λx y H Q=>∃d e,Rds X.K H x d/\Rds X.K H y e/\SeqAt.shaped d=true/\SeqAt.shaped e=true/\Q (.bl (PyData.eqv d e)) H):=by
 intro pins s σ H x y u v Q I rx ry h;obtain⟨d,e,hd,he,s1,s2,q⟩:=h;obtain⟨as,ra⟩:=I.rds hd rx;obtain⟨bs,rb⟩:=I.rds he ry;exact eq_dataH ra rb s1 s2 hu ⟨.bl (PyData.eqv d e),H,I,rfl,q⟩
end
theorem zj4:∀ns ms:List Int,PyData.eqvAll (ns.map PyData.int) (ms.map PyData.int)=decide (ns=ms)
 | [],[]=>by simp[PyData.eqvAll]
 | [],_::_=>by simp[PyData.eqvAll]
 | _::_,[]=>by simp[PyData.eqvAll]
 | a::r,b::t=>by
  simp only[List.map_cons,PyData.eqvAll,PyData.eqv,zj4 r t]
  by_cases h:a=b <;> by_cases h':r=t <;> simp[h,h']
end L2
namespace L2
open PySem PySem.Spec PyProof.Rows PySem.MeetsSeq
theorem znt{J:It}{n:Nat}{P:Nat->V->Hp->Prop}{mp:List (Option Nat)}{wi:TI}{g:TG}{tc:TT}{te:TE}{σ : St}{H H1:Hp}{Q:VK}(S:Walk J H1 n P)(hn:n<=1000)(hwi:∀R,R J H1->wi σ H R)(Sv:St->Prop)(p:Nat->Bool)(f:Nat->V)(h0:Sv (st0 mp σ))
  (step:∀i x σ' H2,i<n->Sv σ'->Same H1 H2->P i x H2->∀(Ny:V->St->Hp->Prop) (Nn:St->Hp->Prop),(∀σ2 H5,Sv σ2->Same H2 H5->p i=true->Ny (f i) σ2 H5)->(∀σ2 H4,Sv σ2->Same H2 H4->p i=false->Nn σ2 H4) ->
   g x σ' H2 λσ2 H3=>tc σ2 H3 λb H4=>if b=true then te σ2 H4 λv H5=>Ny v σ2 H5 else Nn σ2 H4)
  (hQ:∀D H',Same H1 H'->H' D=some (.lst (((List.range n).filter p).map f))->Q (.ref D) H'):tComp mp wi g tc te σ H Q:=by
 unfold tComp;refine hwi _ λD hD=>?_
 exact zfl S hD (Yr hn (by rw[sizeLine_eq];decide)) Sv p f h0 step λH' e hL=>hQ D H' e hL
end L2
namespace L2
open PySem PySem.Spec PyProof.Rows
theorem zoq{own x:Str}{n c:Addr}{cl:List (Str×Addr)}(h:((own,n)::cl).lookup x=some c):(x=own/\c=n)\/(x≠own/\cl.lookup x=some c):=by
 rw[Jk]at h
 cases q:(x == own) with
 | true=>rw[q]at h;exact .inl ⟨Jt q,(Jf h).symm⟩
 | false=>
  rw[q]at h;have nz:x≠own:=λz=>by
   rw[z,beq_self_eq_true]at q
   cases q
  exact .inr ⟨nz,h⟩
theorem ztz{own:Str}{n:Addr}{cl:List (Str×Addr)}:((own,n)::cl).lookup own=some n:=by
 rw[Jk,beq_self_eq_true]
theorem zto{own x:Str}{n:Addr}{cl:List (Str×Addr)}(h:x≠own):((own,n)::cl).lookup x=cl.lookup x:=by
 rw[Jk]
 cases q:(x == own) with
 | true=>exact absurd (Jt q) h
 | false=>rfl
end L2
namespace L2
open PySem PySem.Spec PyProof.Rows
def SubC(cl cells:List (Str×Addr)):Prop:=∀x c,cl.lookup x=some c->cells.lookup x=some c
theorem zqa{cells:List (Str×Addr)}:SubC [] cells:=λ_ _ h=>nomatch h
theorem zhf{cl cells:List (Str×Addr)}{a:Str}{n:Addr}(h:cells.lookup a=some n)(t:SubC cl cells):SubC ((a,n)::cl) cells:=λx c e=>by
 rcases zoq e with⟨rfl,rfl⟩ | ⟨_,e⟩
 ·exact h
 ·exact t x c e
theorem zl7:∀{cl:List (Str×Addr)} {x:Str},x∈cl.map (·.1)->∃c,cl.lookup x=some c
 | (a,n)::cl,x,h=>by
  by_cases q:x=a
  ·exact⟨n,by rw[q];exact ztz⟩
  ·rcases Yj.mp h with z | z
   ·exact absurd z q
   ·obtain⟨c,e⟩:=zl7 z;exact⟨c,(zto q).trans e⟩
theorem zy0{names:List (Str×NameKind)}{cl:List (Str×Addr)}{fs:List Str}(e:cl.map (·.1)=fs)(h:∀y∈names,y.2=.free->y.1∈fs):∀y∈names,y.2=.free->∃c,cl.lookup y.1=some c:=
 λy hy hf=>zl7 (by rw[e];exact h y hy hf)
def MapC(X:Cx)(scope:Scope)(mp:List (Option Nat))(N:List Str):Prop:=∀(i j:Nat) (x:Str),mp[i]? = some (some j)->N[i]? = some x->X.N[j]? = some x/\(X.env.scope.names.lookup x=some .cell\/X.env.scope.names.lookup x=some .free)/\scope.names.lookup x=some .free
theorem zpq{X:Cx}{scope:Scope}{N:List Str}:MapC X scope [] N:=λi j x h=>by simp at h
theorem zlo{X:Cx}{scope:Scope}{mp:List (Option Nat)}{N:List Str}{y:Str}(t:MapC X scope mp N):MapC X scope (none::mp) (y::N):=λi j x h1 h2=>by
 cases i with
 | zero=>cases h1
 | succ i=>exact t i j x (by simpa using h1) (by simpa using h2)
theorem zhh{X:Cx}{scope:Scope}{mp:List (Option Nat)}{N:List Str}{y:Str}{k:Nat}(h:X.N[k]? = some y)(hc:X.env.scope.names.lookup y=some .cell\/X.env.scope.names.lookup y=some .free)(hf:scope.names.lookup y=some .free)
  (t:MapC X scope mp N):MapC X scope (some k::mp) (y::N):=λi j x h1 h2=>by
 cases i with
 | zero=>
  simp only[List.getElem?_cons_zero,Option.some.injEq]at h1 h2
  subst h1 h2;exact⟨h,hc,hf⟩
 | succ i=>exact t i j x (by simpa using h1) (by simpa using h2)
end L2
namespace L2
open PySem PySem.Spec PyProof.Rows
structure Mk0(K:W.Frag)(C:Addr):Prop where
 makes:W.makesIn K C=true
 init:W.findIn K (.ref C) "__init__" = some (some (.builtin "object.__init__"))
 kp:W.keepIn K (.ref C)=true
def tMk0(C:Addr):TE:=λ_ H Q=>∀x dx,H x=none->H dx=none->dx≠x->Q (.ref x) (upd (upd H dx (.own x)) x (.ins C dx []))
theorem zsk{X:Cx}{C:Addr}{x:Str}{p pos:Pos}(M:Mk0 X.K C)(hm:X.mg x=some (.ref C))(hg:Gl X x:=by rfl)(hdb:(x == ("__debug__" : Str))=false:=by decide):PE X (.Call (.Name x p) [] [] pos) (tMk0 C):=by
 intro pins s σ H Q I h;refine wpAny_Call_Name_kw (zdu I hg hm (W.callWith_K0 I.kIn M.kp ?_) hdb);have hq:=h (s.heap.objs.size+1) s.heap.objs.size (I.hok.fresh (Nat.le_succ _)) (I.hok.fresh (Yi _)) (Y0 (Nat.lt_succ_self _));have I2:=Inv.made (C:=C) I;refine wpAny_call (zmw I.kIn M.makes M.init (λself=>W.Looks.of_pure (W.oi_bind self)) ?_);have Y:=W.makes_of (M:=model X.prog X.w) I.kIn M.makes;have e2:((s.heap.push W.emptyDict).push (W.instObj C s.heap.objs.size)).get? (s.heap.objs.size+1)=some (W.instObj C s.heap.objs.size):=by
  have:=Yk (s.heap.push W.emptyDict) (o:=W.instObj C s.heap.objs.size) rfl;rwa [Heap.size_push]at this
 have t1:W.Looks (model X.prog X.w) ((s.heap.push W.emptyDict).push (W.instObj C s.heap.objs.size)) (typeOf (.ref (s.heap.objs.size+1))) (.ref C):=(W.Looks.ld e2).andThen .now;have t2:W.Looks (model X.prog X.w) ((s.heap.push W.emptyDict).push (W.instObj C s.heap.objs.size)) (isInstance (.ref (s.heap.objs.size+1)) (.type "object")) true:=
  t1.andThen (Y.top.keeps λb o e=>Ye _ (Ye _ e))
 refine codeAny_call_builtin W.oi_plain W.entry_oi (@W.check_slot (model X.prog X.w) _ _ _ "object.__init__" "object" "__init__" (.ref (s.heap.objs.size+1)) [] [] _ W.oi_kind W.oi_split t2 (W.oi_args (.ref (s.heap.objs.size+1))) ?_);rw[W.oi_run];exact Yb (And.intro rfl ⟨.ref (s.heap.objs.size+1),_,I2,Z,hq⟩)
end L2
namespace L2
open PySem PySem.Spec PyProof.Rows
abbrev yes2:Int->Int->Bool:=λ_ _=>true
theorem zwd(φ : Int->Int->Int)(xs ys:List Int):zipV yes2 (λx y=>.int (φ x y)) xs ys=(List.zipWith φ xs ys).map V.int:=by
 unfold zipV;rw[Yu.mpr (λ_ _=>Z)];refine List.ext_getElem? λi=>?_
 rw[Ym,Ym,List.getElem?_zipWith];by_cases h:i<min xs.length ys.length
 ·have h1:i<xs.length:=by omega
  have h2:i<ys.length:=by omega
  rw[List.getElem?_range h,Yc h1,Yc h2];simp[List.getD,h1,h2]
 ·rw[Yy (by simpa using h)];rcases Jg i xs.length with q | q
  ·rw[Yy (l:=ys) (by omega)]
   cases xs[i]? <;> rfl
  ·rw[Yy (l:=xs) q];rfl
end L2
namespace L2
open PySem PySem.Spec PyProof.Rows
def zoh(K:W.Frag):List V->Hp->VK->Prop:=λxs H Q=>∃p ys,xs=[.ref p]/\((SqL K H p ys/\∀l,H l=none->Q (.ref l) (upd H l (.tup ys)))\/(SqT K H p ys/\Q (.ref p) H))
def zrz(K:W.Frag):List V->Hp->VK->Prop:=λxs H Q=>∃p ys,xs=[.ref p]/\(SqL K H p ys\/SqT K H p ys)/\Q (.int ys.length) H
def zy3(K:W.Frag):List V->Hp->VK->Prop:=λxs H Q=>∃(a:Addr) (bs:List Bool),xs=[.ref a]/\SqL K H a (bs.map V.bl)/\Q (.bl (bs.all id)) H
def zsi(K:W.Frag):List V->Hp->VK->Prop:=λxs H Q=>∃x y t c b,xs=[x,y]/\clV y=some c/\TyOf K H x t/\W.kitOne K t c=some b/\Q (.bl b) H
section
variable{X:Cx}{K:W.Frag}
theorem zfq(hK:X.K=K):CallR X (.type "tuple") (zoh K):=by subst hK;exact zgn
theorem zhx(hK:X.K=K):CallR X (.builtin "len") (zrz K):=by subst hK;exact zie
theorem zll(hK:X.K=K)(hc:X.calm=true):CallR X (.builtin "all") (zy3 K):=by subst hK;exact zl0 hc
theorem zhz(hK:X.K=K):CallR X (.builtin "isinstance") (zsi K):=by subst hK;exact ziv
theorem za2{e:Expr}{f:Str}{pos:Pos}{ta:TE}(hK:X.K=K)(he:PE X e ta)(hb:attributeBase e f X.env (eval e X.env)=eval e X.env):PE X (.Attribute e f pos) (tFld K ta f):=by subst hK;exact zwk he hb
theorem zep{tg l:Expr}{tl:TE}(hK:X.K=K)(hl:PE X l tl):PI X tg l (zs2 K tl):=by subst hK;exact zsd hl
theorem zti{es:List Expr}{ek:Nat}{tpos p pos:Pos}(hK:X.K=K)(b1 b2:Bool){e1 e2:Expr}{ta:TA}(hg:Gl X "zip")(hm:X.mg "zip" = none)(ha:PA X [e1,e2] ta)
  (he:starEach [e1,e2] X.env=(false,eval e1 X.env)::starEach [e2] X.env:=by rfl) (hpl:(backTo pos (starEach [e2] X.env)).any (·.1)=false:=by rfl) :
  PI X (.Tuple es ek tpos) (.Call (.Name "zip" p) [e1,e2] [] pos) (iZip K b1 b2 ta):=by subst hK;exact zw8 b1 b2 hg hm ha he hpl
theorem zos(hK:X.K=K):SlR X (rSlL K):=by subst hK;exact ztu
end
end L2
set_option Elab.async false
set_option linter.all false
set_option maxRecDepth 100000
set_option Elab.async false
set_option linter.all false
set_option maxRecDepth 100000
set_option Elab.async false
set_option linter.all false
set_option maxRecDepth 100000
namespace L2
open PySem PySem.Spec PyProof.Rows
section
variable{κ : Type}[DecidableEq κ]
def valV(kvs:List (κ×V))(k : κ):Option V:=(kvs.find? λkv=>decide (kv.1=k)).map (·.2)
def putK(kvs:List (κ×V))(k : κ)(v:V):List (κ×V):=
 if (kvs.any λkv=>decide (kv.1=k))=true then kvs.map (λkv=>if kv.1=k then(kv.1,v) else kv) else kvs++[(k,v)]
def zhv(kvs:List (κ×V))(k : κ):List (κ×V):=kvs.filter λkv=>decide (kv.1≠k)
theorem zp6{k : κ}:valV ([]:List (κ×V)) k=none:=rfl
theorem zbk{p : κ×V}{r:List (κ×V)}{k : κ}(e:p.1=k):valV (p::r) k=some p.2:=by simp[valV,List.find?_cons,e]
theorem zbe{p : κ×V}{r:List (κ×V)}{k : κ}(e:¬p.1=k):valV (p::r) k=valV r k:=by simp[valV,List.find?_cons,e]
theorem zdz(k : κ):∀kvs:List (κ×V),(kvs.any λkv=>decide (kv.1=k))=(valV kvs k).isSome
 | []=>rfl
 | p::r=>by
  rw[List.any_cons];by_cases e:p.1=k
  ·simp only[zbk e,decide_eq_true e,Bool.true_or,Option.isSome_some]
  ·rw[zbe e,Yw e,Bool.false_or];exact zdz k r
theorem zj5(k j : κ)(y:V):∀kvs:List (κ×V),valV (kvs.map λkv=>if kv.1=k then(kv.1,y) else kv) j=(valV kvs j).map λx=>if j=k then y else x
 | []=>rfl
 | p::r=>by
  have ih:=zj5 k j y r;rw[Yz];by_cases h:p.1=k
  ·rw[Yl h];by_cases e:p.1=j
   ·rw[zbk (p:=(p.1,y)) e,zbk e,Option.map_some,Yl (e.symm.trans h)]
   ·rw[zbe (p:=(p.1,y)) e,zbe e,ih]
  ·rw[Yh h];by_cases e:p.1=j
   ·rw[zbk (p:=p) e,zbk e,Option.map_some,Yh (λz=>h (e.trans z))]
   ·rw[zbe (p:=p) e,zbe e,ih]
theorem zig(k j : κ)(y:V):∀kvs:List (κ×V),valV kvs k=none->valV (kvs++[(k,y)]) j=if j=k then some y else valV kvs j
 | [],_=>by
  by_cases e:k=j
  ·rw[Yl e.symm];exact zbk (p:=(k,y)) e
  ·rw[Yh (λz=>e z.symm)];exact zbe (p:=(k,y)) e
 | p::r,hn=>by
  rw[List.cons_append];have hk:¬p.1=k:=λz=>by rw[zbk z]at hn;cases hn
  rw[zbe hk]at hn;have ih:=zig k j y r hn;by_cases e:p.1=j
  ·rw[zbk e,zbk e,Yh (λz=>hk (e.trans z))]
  ·rw[zbe e,zbe e,ih]
theorem zod(kvs:List (κ×V))(k j : κ)(y:V):valV (putK kvs k y) j=if j=k then some y else valV kvs j:=by
 unfold putK;by_cases a:(kvs.any λkv=>decide (kv.1=k))=true
 ·rw[Yl a,zj5];rw[zdz]at a;by_cases e:j=k
  ·obtain⟨x,hx⟩:=Option.isSome_iff_exists.mp a;rw[Yl e,e,hx,Option.map_some,Yl rfl]
  ·rw[Yh e]
   cases valV kvs j with
   | none=>rfl
   | some x=>rw[Option.map_some,Yh e]
 ·rw[Yh a];refine zig k j y kvs ?_;rw[zdz]at a
  cases q:valV kvs k with
  | none=>rfl
  | some x=>rw[q]at a;exact(a rfl).elim
theorem zco(kvs:List (κ×V))(k : κ)(v:V):(putK kvs k v).length<=kvs.length+1:=by
 unfold putK;split
 ·rw[Yd];omega
 ·rw[Y6,Y5,List.length_nil];omega
theorem RelO.isSome_eq{o:Option V}{u:Option Value}(r:RelO o u):o.isSome=u.isSome:=by
 cases o with
 | none=>cases u with
  | none=>rfl
  | some _=>exact(show False from r).elim
 | some _=>cases u with
  | none=>exact(show False from r).elim
  | some _=>rfl
theorem KV.val{kvs:List (κ×V)}{vs:List (κ×Value)}(r:KV kvs vs)(k : κ):RelO (valV kvs k) (valueAt vs k):=by
 unfold KV at r;induction r with
 | nil=>exact True.intro
 | @cons p q ps qs h t ih=>
  obtain⟨h1,h2⟩:=h;by_cases e:p.1=k
  ·have e':q.1=k:=h1.symm.trans e;have b:valueAt (q::qs) k=some q.2:=by simp[valueAt,List.find?_cons,e']
   rw[zbk e,b];exact h2
  ·have e':¬q.1=k:=λz=>e (h1.trans z)
   have b:valueAt (q::qs) k=valueAt qs k:=by simp[valueAt,List.find?_cons,e']
   rw[zbe e,b];exact ih
theorem KV.any{kvs:List (κ×V)}{vs:List (κ×Value)}(r:KV kvs vs)(k : κ):(kvs.any λkv=>decide (kv.1=k))=vs.any λkv=>decide (kv.1=k):=by
 unfold KV at r;induction r with
 | nil=>rfl
 | cons h t ih=>rw[List.any_cons,List.any_cons,ih,h.1]
theorem KV.repl{kvs:List (κ×V)}{vs:List (κ×Value)}(r:KV kvs vs)(k : κ){y:V}{u:Value}(ry:RelV y u) :
  KV (kvs.map λkv=>if kv.1=k then(kv.1,y) else kv) (vs.map λkv=>if kv.1=k then(kv.1,u) else kv):=by
 unfold KV at r ⊢;induction r with
 | nil=>exact .nil
 | @cons p q ps qs h t ih=>
  rw[Yz,Yz];refine .cons ?_ ih;obtain⟨h1,h2⟩:=h;by_cases e:p.1=k
  ·rw[Yl e,Yl (h1.symm.trans e)];exact⟨h1,ry⟩
  ·rw[Yh e,Yh (λz=>e (h1.trans z))];exact⟨h1,h2⟩
theorem KV.put{kvs:List (κ×V)}{vs:List (κ×Value)}(r:KV kvs vs)(k : κ){y:V}{u:Value}(ry:RelV y u):KV (putK kvs k y) (stored vs k u):=by
 unfold putK stored;rw[r.any k];by_cases e:(vs.any λkv=>decide (kv.1=k))=true
 ·rw[Yl e,Yl e];exact r.repl k ry
 ·rw[Yh e,Yh e];exact Paired.snoc r ⟨Z,ry⟩
theorem KV.length{kvs:List (κ×V)}{vs:List (κ×Value)}(r:KV kvs vs):kvs.length=vs.length:=Paired.length r
theorem zkr(kvs:List (κ×V))(k : κ):(zhv kvs k).length<=kvs.length:=List.length_filter_le _ _
end
theorem zo8{P:Program}{w:World}{k:Key}{u:Value}(r:RelV (kV k) u):(zbn P w).is k u=true:=by
 cases k with
 | inl i=>obtain⟨t,e⟩:=(show ∃t,u=Value.int i t from r);subst e;exact zjc P w i t
 | inr x=>obtain⟨t,e⟩:=(show ∃t,u=Value.str x t from r);subst e;exact zi2 P w x t
theorem zhj{P:Program}{w:World}:∀{ks:List Key} {us:List Value},Vals (ks.map kV) us->ItemsAre (zbn P w) ks us
 | [],_,r=>by rw[List.map_nil]at r;cases r;exact .nil
 | k::ks,_,r=>by
  rw[Yz]at r
  cases r with
  | cons h t=>exact .cons (zo8 h) (zhj t)
abbrev KT(H:Hp):List (List Key×V)->List (List Key×Addr×Value)->Prop:=Paired λp q=>p.1=q.1/\H q.2.1=some (.tup (p.1.map kV))/\RelV p.2 q.2.2
theorem KT.val{H:Hp}{kvs:List (List Key×V)}{xs:List (List Key×Addr×Value)}(r:KT H kvs xs)(k:List Key):RelO (valV kvs k) ((atKey xs k).map (·.2)):=by
 induction r with
 | nil=>exact True.intro
 | @cons p q ps qs h t ih=>
  obtain⟨h1,_,h2⟩:=h;by_cases e:p.1=k
  ·have e':q.1=k:=h1.symm.trans e;have b:atKey (q::qs) k=some q.2:=by simp[atKey,List.find?_cons,e']
   rw[zbk e,b];exact h2
  ·have e':¬q.1=k:=λz=>e (h1.trans z)
   have b:atKey (q::qs) k=atKey qs k:=by simp[atKey,List.find?_cons,e']
   rw[zbe e,b];exact ih
theorem KT.repl{H:Hp}{kvs:List (List Key×V)}{xs:List (List Key×Addr×Value)}(r:KT H kvs xs)(k:List Key){y:V}{u:Value}(ry:RelV y u) :
  KT H (kvs.map λkv=>if kv.1=k then(kv.1,y) else kv) (xs.map (putAt k u)):=by
 induction r with
 | nil=>exact .nil
 | @cons p q ps qs h t ih=>
  rw[Yz,Yz];refine .cons ?_ ih;obtain⟨h1,h2,h3⟩:=h;unfold putAt;by_cases e:p.1=k
  ·rw[Yl e,Yl (h1.symm.trans e)];exact⟨h1,h2,ry⟩
  ·rw[Yh e,Yh (λz=>e (h1.trans z))];exact⟨h1,h2,h3⟩
theorem KT.put{H:Hp}{kvs:List (List Key×V)}{xs:List (List Key×Addr×Value)}(r:KT H kvs xs)(k:List Key){b:Addr}{y:V}{u:Value}(hb:H b=some (.tup (k.map kV)))(ry:RelV y u) :
  KT H (putK kvs k y) (storedH xs k b u):=by
 have e:(kvs.any λkv=>decide (kv.1=k))=(atKey xs k).isSome:=by
  rw[zdz,(r.val k).isSome_eq,Option.isSome_map]
 unfold putK storedH;rw[e];by_cases q:(atKey xs k).isSome=true
 ·rw[Yl q,Yl q];exact r.repl k ry
 ·rw[Yh q,Yh q];exact Paired.snoc r ⟨Z,hb,ry⟩
theorem KT.keeps{H H':Hp}{kvs:List (List Key×V)}{xs:List (List Key×Addr×Value)}(r:KT H kvs xs)(ht:∀b ys,H b=some (.tup ys)->H' b=some (.tup ys)):KT H' kvs xs:=
 Paired.mapP r λ_ _ z=>⟨z.1,ht _ _ z.2.1,z.2.2⟩
section
variable{P:Program}{w:World}{H:Hp}{h:Heap}{a:Addr}
theorem zvx{u:HO}(ok:HOk P w H h)(e:Rd H a u):ObjOk P w H h a u:=e.ok ok
theorem zol{kvs:List (Key×V)}(ok:HOk P w H h)(e:Rd H a (.dK kvs)):kvs.length<=sizeLine/\(a == sysModules)=false/\∃vs,KV kvs vs/\h.DictOf (zbn P w) a vs:=
 show ObjOk P w H h a (.dK kvs) from zvx ok e
theorem zyk{kvs:List (Key×V)}(ok:HOk P w H h)(e:H a=some (.dK kvs)):kvs.length<=sizeLine/\(a == sysModules)=false/\∃vs,KV kvs vs/\h.DictOf (zbn P w) a vs:=zol ok (.inl e)
theorem zf9{ks:List Key}(ok:HOk P w H h)(e:H a=some (.tup (ks.map kV))):(tupleKind (zbn P w)).is h ks a:=by
 obtain⟨_,its,r,o,h1,h2,n,h3⟩:=(show ObjOk P w H h a (.tup (ks.map kV)) from ok a _ e);exact⟨o,its.toArray,n,h1,h2,h3,by simpa using zhj r⟩
theorem zlk{kvs:List (List Key×V)}(ok:HOk P w H h)(e:Rd H a (.dT kvs)):kvs.length<=sizeLine/\(a == sysModules)=false /\
  ∃xs,KT H kvs xs/\h.DictOfH (tupleKind (zbn P w)) a xs:=by
 obtain⟨z,y,xs,r,o,es,ep,h1,h2,h3,h4,h5⟩:=(show ObjOk P w H h a (.dT kvs) from zvx ok e);refine⟨z,y,xs,r,o,es,ep,h1,h2,h3,h4,λx hx=>?_,h5⟩;have all:∀{l:List (List Key×V)} {m:List (List Key×Addr×Value)},KT H l m->∀x∈m,(tupleKind (zbn P w)).is h x.1 x.2.1:=by
  intro l m q;induction q with
  | nil=>intro x hx;exact nomatch hx
  | @cons p q ps qs hq t ih=>
   intro x hx;rcases Yj.mp hx with e | hx
   ·subst e;exact zf9 ok (by rw[<- hq.1];exact hq.2.1)
   ·exact ih x hx
 exact all r x hx
theorem ztl{kvs:List (List Key×V)}(ok:HOk P w H h)(e:H a=some (.dT kvs)):kvs.length<=sizeLine/\(a == sysModules)=false /\
  ∃xs,KT H kvs xs/\h.DictOfH (tupleKind (zbn P w)) a xs:=zlk ok (.inl e)
end
def DGet(H:Hp)(a:Addr)(y:V)(r:Option V):Prop:=
 (∃kvs k,Rd H a (.dK kvs)/\y=kV k/\r=valV kvs k)\/∃kvs k b,Rd H a (.dT kvs)/\y=.ref b/\H b=some (.tup (k.map kV))/\r=valV kvs k
def DPut(H:Hp)(a:Addr)(y v:V)(H':Hp):Prop:=
 (∃kvs k,H a=some (.dK kvs)/\y=kV k/\kvs.length<sizeLine/\H'=upd H a (.dK (putK kvs k v))) \/
 ∃kvs k b,H a=some (.dT kvs)/\y=.ref b/\H b=some (.tup (k.map kV))/\kvs.length<sizeLine/\H'=upd H a (.dT (putK kvs k v))
theorem DGet.t{H:Hp}{a b:Addr}{kvs:List (List Key×V)}{k:List Key}(e:H a=some (.dT kvs))(eb:H b=some (.tup (k.map kV))):DGet H a (.ref b) (valV kvs k):=.inr ⟨kvs,k,b,.inl e,Z,eb,Z⟩
theorem DPut.t{H:Hp}{a b:Addr}{kvs:List (List Key×V)}{k:List Key}{v:V}(e:H a=some (.dT kvs))(eb:H b=some (.tup (k.map kV)))(hl:kvs.length<sizeLine) :
  DPut H a (.ref b) v (upd H a (.dT (putK kvs k v))):=.inr ⟨kvs,k,b,e,Z,eb,hl,Z⟩
section
variable{X:Cx}{pins:List (Addr×Obj)}{σ : St}{H:Hp}{s:Shared}{a:Addr}{y v:V}{u r:Value}{o:Option V}{A:Around}{E:Value->Shared->Prop}
theorem Inv.big(I:Inv X pins σ H s):sysModules<s.heap.objs.size:=by
 have h:mainGlobals<s.heap.objs.size:=(I.mod.glob.keeps I.bk).lt;exact Nat.lt_trans (by decide) h
theorem zl2{Q:Value->Shared->Prop}(hu:A.units+1<cLine)(I:Inv X pins σ H s)(g:DGet H a y (some v))(ry:RelV y u)(h:∀w' s',Inv X pins σ H s'->RelV v w'->Q w' s') :
  wpAny (model X.prog X.w) A (getItem (.ref a) u) Q E s:=by
 rcases g with⟨kvs,k,e,ey,l⟩ | ⟨kvs,k,b,e,ey,eb,l⟩
 ·subst ey;obtain⟨z,hd,vs,rel,dd⟩:=zol I.hok e;obtain⟨w',hw,rw'⟩:=RelO.some_of (v:=v) (o:=valueAt vs k) (by rw[l];exact rel.val k);exact wpAny_getItem_of (zo8 ry) dd.mapOf hw (h w' _ (I.tok _) rw')
 ·subst ey
  cases (show u=Value.ref b from ry);obtain⟨z,hd,xs,rel,dd⟩:=zlk I.hok e;obtain⟨w',hw,rw'⟩:=RelO.some_of (v:=v) (o:=(atKey xs k).map (·.2)) (by rw[l];exact rel.val k);obtain⟨p,hp,hp2⟩:=Option.map_eq_some_iff.mp hw;refine wpAny_getItem_heap (tupleKind_room_in1 hu) (zf9 I.hok eb) dd hp ?_;rw[hp2];exact h w' _ (I.tok _) rw'
theorem d_in{Q:Value->Shared->Prop}(hu:A.units+1<cLine)(I:Inv X pins σ H s)(g:DGet H a y o)(ry:RelV y u)(h:∀s',Inv X pins σ H s'->Q (.bool o.isSome) s') :
  wpAny (model X.prog X.w) A (compareOp .In u (.ref a)) Q E s:=by
 rcases g with⟨kvs,k,e,ey,l⟩ | ⟨kvs,k,b,e,ey,eb,l⟩
 ·subst ey;obtain⟨z,hd,vs,rel,dd⟩:=zol I.hok e;refine wpAny_in_of (zo8 ry) hd dd.mapOf ?_;rw[<- (rel.val k).isSome_eq,<- l];exact h _ (I.tok _)
 ·subst ey
  cases (show u=Value.ref b from ry);obtain⟨z,hd,xs,rel,dd⟩:=zlk I.hok e;refine wpAny_in_heap (tupleKind_room_in1 hu) (zf9 I.hok eb) hd dd ?_;have q:=(rel.val k).isSome_eq;rw[Option.isSome_map]at q;rw[<- q,<- l];exact h _ (I.tok _)
theorem zgo{h':Heap}{t':Nat}{ob:HO}(I:Inv X pins σ H s)(mu:Mut (H a))(hs:Heap.SameBut a s.heap h')(he:∃q,h'.get? a=some q)(new:ObjOk X.prog X.w (upd H a ob) h' a ob) :
  Inv X pins σ (upd H a ob) { s with heap:=h',toks:=t' }:=
 I.write (x:=a) (e:=a) mu (.inl rfl) (λb q hb z=>(hs.2 b hb).trans z) he new
theorem zw0{P:Program}{w:World}{H':Hp}{h':Heap}{kvs:List (Key×V)}{vs:List (Key×Value)}(z:kvs.length<=sizeLine)(hd:(a == sysModules)=false)(rel:KV kvs vs)(dd:h'.DictOf (zbn P w) a vs) :
  ObjOk P w H' h' a (.dK kvs):=⟨z,hd,vs,rel,dd⟩
theorem zmk{H':Hp}{Q:Unit->Shared->Prop}(hu:A.units+1<cLine)(I:Inv X pins σ H s)(g:DPut H a y v H')(ry:RelV y u)(rv:RelV v r)(h:∀s',Inv X pins σ H' s'->Q () s') :
  wpAny (model X.prog X.w) A (setItem (.ref a) u r) Q E s:=by
 rcases g with⟨kvs,k,e,ey,l,eH⟩ | ⟨kvs,k,b,e,ey,eb,l,eH⟩
 ·subst ey eH;obtain⟨z,hd,vs,rel,dd⟩:=zyk I.hok e;have hz:vs.length<=sizeLine:=by rw[<- rel.length];exact z
  have hl:(putK kvs k v).length<=sizeLine:=by have:=zco kvs k v;omega
  refine wpAny_setItem_pairs (hsz:=hz) (zo8 ry) dd λh' dd' hs=>h _ ?_
  have he:∃q,h'.get? a=some q:=let ⟨q,_,_,hq,_⟩:=dd';⟨q,hq⟩;exact zgo I (by rw[e];exact True.intro) hs he (zw0 hl hd (rel.put k rv) dd')
 ·subst ey eH
  cases (show u=Value.ref b from ry);obtain⟨z,hd,xs,rel,dd⟩:=ztl I.hok e;have hz:xs.length<=sizeLine:=by rw[<- Paired.length rel];exact z
  have hl:(putK kvs k v).length<=sizeLine:=by have:=zco kvs k v;omega
  refine wpAny_setItem_heap (hsz:=hz) (tupleKind_room_in1 hu) (zf9 I.hok eb) dd λh' dd' hs=>h _ ?_
  obtain⟨q,es,ep,hq,h2,h3,h4,_,h5⟩:=dd';refine zgo I (by rw[e];exact True.intro) hs ⟨q,hq⟩ ⟨hl,hd,_,(rel.put k eb rv).keeps λc ys ec=>?_,q,es,ep,hq,h2,h3,h4,h5⟩;rw[zar (zf2 ec e (λz=>nomatch z))];exact ec
end
def NoSl(i:Expr):Prop:=∀ov iv,subscripted i false ov iv=operate [ov,iv] (getItem ov iv)
theorem zr5{prog:Program}{w:World}{A:Around}{E:Value->Shared->Prop}{s:Shared}{env:Env}{value slice:Expr}{pos:Pos}{T id:String}{Q:Value->Shared->Prop}
  (hl:typeLookup (.type T) "__getitem__" = pure (some (.builtin id))) (hs:NoSl slice)
  (h:wpAny (model prog w) A (eval value env) (λo s₁=>wpAny (model prog w) A (eval slice env) (λi s₂=>s₂.TypeIs o T/\wpAny (model prog w) A (getItem o i) Q E s₂) E s₁) E s) :
  wpAny (model prog w) A (eval (.Subscript value slice pos) env) Q E s:=by
 refine Subscript_ (wpAny_mono h (λo s₁ h₁=>wpAny_mono h₁ (λi s₂ h₂=>?_) λ_ _ x=>x) λ_ _ x=>x);obtain⟨hT,h₂⟩:=h₂;unfold subscriptTail;refine Ya ?_;rw[getitemInPython_of_ne hT.not_modules];refine Ya (wpAny_specialOf hT hl ?_);have fin:wpAny (model prog w) A (subscripted slice false o i) (λr s₃=>wpAny (model prog w) A (letTemporaryGo value o r >>= λ_=>pure r) Q E s₃) E s₂:=by
  rw[hs o i];exact wpAny_operating (wpAny_mono h₂ (λr s₃ h₃=>Ya (wpAny_letTemporaryGo (Yb h₃))) λ_ _ x=>x)
 first
  | exact Yb (Ya fin)
  | exact Ya (Yb (Ya fin))
  | exact Ya fin
theorem zit{X:Cx}{pins:List (Addr×Obj)}{σ : St}{H:Hp}{s:Shared}{a:Addr}{y:V}{o:Option V}(I:Inv X pins σ H s)(g:DGet H a y o):s.TypeIs (.ref a) "dict":=by
 rcases g with⟨kvs,k,e,_,_⟩ | ⟨kvs,k,b,e,_,_,_⟩
 ·obtain⟨_,_,vs,_,dd⟩:=zol I.hok e;exact dd.typeIs
 ·obtain⟨_,_,xs,_,dd⟩:=zlk I.hok e;exact dd.typeIs
def zyg(td ty:TE):TE:=λσ H Q=>td σ H λx H1=>ty σ H1 λy H2=>∃a v,x=.ref a/\DGet H2 a y (some v)/\Q v H2
def tDIn(ty td:TE):TE:=λσ H Q=>ty σ H λy H1=>td σ H1 λx H2=>∃a o,x=.ref a/\DGet H2 a y o/\Q (.bl o.isSome) H2
def zx5(td ty tv:TE):TS:=λD σ H=>tv σ H λv H1=>td σ H1 λx H2=>ty σ H2 λy H3=>∃a H4,x=.ref a/\DPut H3 a y v H4/\D.nx σ H4
section
variable{X:Cx}{o i e value:Expr}{pos pos' tpos:Pos}{td ty tv:TE}
theorem zr8(hu:X.A.units+1<cLine)(ho:PE X o td)(hi:PE X i ty)(hs:NoSl i):PE X (.Subscript o i pos) (zyg td ty):=by
 intro pins s σ H Q I h;refine zr5 PySem.F.slot_dict_getitem.lookup hs (thn (ho pins s σ H _ I h) λu s1 ⟨x,H1,I1,rx,q1⟩=>thn (hi pins s1 σ H1 _ I1 q1) λiv s2 ⟨y,H2,I2,ry,a,v,ex,g,q2⟩=>?_);subst ex;obtain rfl:u=Value.ref a:=rx;exact⟨zit I2 g,zl2 hu I2 g ry λw' s3 I3 rw'=>⟨v,H2,I3,rw',q2⟩⟩
theorem zva(hu:X.A.units+1<cLine)(hi:PE X i ty)(ho:PE X o td):PC X .In i o (tDIn ty td):=by
 intro pins s σ H Q I h;refine thn (hi pins s σ H _ I h) λiv s1 ⟨y,H1,I1,ry,q1⟩=>thn (ho pins s1 σ H1 _ I1 q1) λu s2 ⟨x,H2,I2,rx,a,ov,ex,g,q2⟩=>?_
 subst ex;obtain rfl:u=Value.ref a:=rx;exact d_in hu I2 g ry λs3 I3=>⟨.bl ov.isSome,H2,I3,Z,q2⟩
theorem zmj(hu:X.A.units+1<cLine)(ho:PE X o td)(hi:PE X i ty)(hv:PE X value tv)(hs:swapsWith value (some (.Subscript o i pos')) pos.line X.env=pure false) :
  PS X (.Assign [.Subscript o i pos'] value pos) (zx5 td ty tv):=by
 intro pins s σ H D I h;refine wpAny_Assign_Subscript (thn (hv pins s σ H _ I h) λr s1 ⟨v,H1,I1,rv,q1⟩=>thn (ho pins s1 σ H1 _ I1 q1) λu s2 ⟨x,H2,I2,rx,q2⟩=>thn (hi pins s2 σ H2 _ I2 q2) λiv s3 ⟨y,H3,I3,ry,a,H4,ex,g,q3⟩=>?_) hs;subst ex;obtain rfl:u=Value.ref a:=rx;exact zmk hu I3 g ry rv λs4 I4=>⟨σ,H4,I4,q3⟩
end
theorem zjk{P:Program}{w:World}{H:Hp}(h:Heap)(hb:sysModules<h.objs.size):ObjOk P w H (h.push { cls:=.type "dict",data:=.dict #[] }) h.objs.size (.dT []):=
 ⟨Y2 _,beq_eq_false_iff_ne.mpr (Jc (Y0 hb)),[],.nil,_,#[],0,Yk _ rfl,⟨Z,Z,Z⟩,Z,Z,List.nodup_nil⟩
def zuz:TE:=λ_ H Q=>∀p,H p=none->Q (.ref p) (upd H p (.dT []))
section
variable{X:Cx}{pos:Pos}
theorem zes:PE X (.Dict [] [] pos) zuz:=λpins s σ H Q I h=>
 wpAny_Dict_empty ⟨.ref s.heap.objs.size,_,I.laid (a:=s.heap.objs.size) (o:=.dT []) (t':=s.toks) (λ_ _ q=>Ye _ q) (Yi _) (zjk s.heap I.big),Z,h _ (I.hok.fresh (Yi _))⟩
end
def zrm:List (TE×TE)->St->Hp->(List (V×V)->Hp->Prop)->Prop
 | [],_,H,Q=>Q [] H
 | (tk,tv)::r,σ,H,Q=>tk σ H λx H1=>tv σ H1 λy H2=>zrm r σ H2 λps H3=>Q ((x,y)::ps) H3
abbrev VV:List (V×V)->List (Value×Value)->Prop:=Paired λp q=>RelV p.1 q.1/\RelV p.2 q.2
def PPs(X:Cx)(pos:Pos)(keys:List (Option Expr))(values:List Expr)(trs:List (TE×TE)):Prop:=
 ∀(pins:List (Addr×Obj)) (s:Shared) (σ : St) (H:Hp) (Q:List (V×V)->Hp->Prop),Inv X pins σ H s->zrm trs σ H Q ->
  wpAny (model X.prog X.w) X.A (evalPairs (pairTrees keys values X.env pos)) (λvs s'=>∃ps H',Inv X pins σ H' s'/\VV ps vs/\Q ps H') X.xe s
theorem zty{X:Cx}{pos:Pos}:PPs X pos [] [] []:=λpins s σ H Q I h=>pairTrees_nil_walk ⟨[],H,I,.nil,h⟩
theorem zpf{X:Cx}{pos:Pos}{k v:Expr}{ks:List (Option Expr)}{vs:List Expr}{tk tv:TE}{trs:List (TE×TE)}(hk:PE X k tk)(hv:PE X v tv)(hr:PPs X pos ks vs trs) :
  PPs X pos (some k::ks) (v::vs) ((tk,tv)::trs):=λpins s σ H Q I h=>
 pairTrees_cons_walk (thn (hk pins s σ H _ I h) λu s1 ⟨x,H1,I1,rx,q1⟩=>thn (hv pins s1 σ H1 _ I1 q1) λw2 s2 ⟨y,H2,I2,ry,q2⟩=>
  thn (hr pins s2 σ H2 _ I2 q2) λws s3 ⟨ps,H3,I3,rel,q3⟩=>⟨(x,y)::ps,H3,I3,.cons ⟨rx,ry⟩ rel,q3⟩)
end L2
namespace L2
open PySem PySem.Spec PyProof.Rows
section
variable{X:Cx}{pins:List (Addr×Obj)}{σ : St}{H:Hp}{s:Shared}{d:Addr}{o:Obj}{u v:HO}
theorem Inv.swap(I:Inv X pins σ H s)(e:H d=some u)(nt:∀xs,u≠.tup xs)(no:∀x,u≠.own x)(nb:∀ps,u≠.tbl ps)(nf:∀o w,u=.frz o w->∀o w,X.H₀ d≠some (.frz o w))
  (new:ObjOk X.prog X.w H s.heap d u->∀H':Hp,(∀b xs,H b=some (.tup xs)->H' b=some (.tup xs))->(∀b x,H b=some (.own x)->H' b=some (.own x))->ObjOk X.prog X.w H' s.heap d v):Inv X pins σ (upd H d v) s:=by
 have nd:∀{b:Addr},H b=none->b≠d:=λz=>(zaq e z).symm
 have tt:∀b xs,H b=some (.tup xs)->upd H d v b=some (.tup xs):=λb xs q=>by rw[zar (zf2 q e (λz=>nt xs z.symm))];exact q
 have oo:∀b x,H b=some (.own x)->upd H d v b=some (.own x):=λb x q=>by rw[zar (zf2 q e (λz=>no x z.symm))];exact q
 refine⟨I.ok,I.os,I.bare,⟨I.base.keep,I.base.slot,λb q h1 h2 h3=>?_,I.base.there,λb xs q=>tt b xs (I.base.tups b xs q),λb o' w q=>?_,λb ps q=>?_⟩,I.loc,I.cell,?_,λx c q=>?_,λp hp=>?_,λb w q=>?_,I.len⟩
 ·have z:=I.base.free b q h1 h2 h3;rw[zar (nd z)];exact z
 ·have z:=I.base.frzs b o' w q;by_cases hb:b=d
  ·subst hb;rw[e]at z;injection z with z
   exact absurd q (nf o' w z o' w)
  ·rw[zar hb];exact z
 ·obtain⟨more,z⟩:=I.base.tbls b ps q;by_cases hb:b=d
  ·subst hb;rw[e]at z;injection z with z
   exact absurd z (nb _)
  ·exact⟨more,by rw[zar hb];exact z⟩
 ·rw[zar (nd I.free)];exact I.free
 ·rw[zar (nd (I.freeC x c q))];exact I.freeC x c q
 ·obtain⟨z1,z2,z3⟩:=I.pin p hp;exact⟨z1,by rw[zar (nd z2)];exact z2,z3⟩
 ·by_cases hb:b=d
  ·subst hb;rw[zah]at q;injection q with q;subst q
   exact new (I.hok b _ e) _ tt oo
  ·rw[zar hb]at q;exact(I.hok b w q).stay (λ_ _ _ z=>z) (λc z=>oo c b z) tt
theorem Inv.freeze{kvs:List (List Key×V)}(I:Inv X pins σ H s)(e:H d=some (.dT kvs))(ho:s.heap.get? d=some o):Inv X pins σ (upd H d (.frz o (.dT kvs))) s:=
 I.swap e (by intro _ z;cases z) (by intro _ z;cases z) (by intro _ z;cases z) (by intro _ _ z;cases z) λx H' t w=>⟨ho,x.stay (λ_ _ _ z=>z) (λb z=>w b d z) t⟩
theorem Inv.thaw(I:Inv X pins σ H s)(e:H d=some (.frz o u))(n:∀o w,X.H₀ d≠some (.frz o w)):Inv X pins σ (upd H d u) s:=
 I.swap e (by intro _ z;cases z) (by intro _ z;cases z) (by intro _ z;cases z) (λ_ _ _=>n) λx H' t w=>x.2.stay (λ_ _ _ z=>z) (λb z=>w b d z) t
end
def Thw(H0:Hp)(H:Hp)(K:Hp->Prop):Prop:=K H\/∃d o u,H d=some (.frz o u)/\(∀o w,H0 d≠some (.frz o w))/\K (upd H d u)
section
variable{X:Cx}
theorem Thw.inv{pins:List (Addr×Obj)}{σ : St}{H:Hp}{s:Shared}{K:Hp->Prop}(h:Thw X.H₀ H K)(I:Inv X pins σ H s):∃H',Inv X pins σ H' s/\K H':=by
 rcases h with h | ⟨d,o,u,e,n,h⟩
 ·exact⟨H,I,h⟩
 ·exact⟨_,I.thaw e n,h⟩
end
end L2
namespace L2
open PySem PySem.Spec PyProof.Rows
section
variable{prog:Program}{w:World}{A:Around}{E:Value->Shared->Prop}{s:Shared}{it d:Addr}{i n ep:Nat}{es:Array DictEntry}{o:Obj}
theorem zpk{A':Around}{Q:Option Value->Shared->Prop}{E':Value->Shared->Prop}(hh:A'.handled=none)(hQ:∀h',(∀b o,s.heap.get? b=some o->h'.get? b=some o)->Q none { s with heap:=h' }){P:Fin->Shared->Prop} :
  wpAny (model prog w) A' (newExc (.type "StopIteration") [] >>= λe=>raiseNew e) P (λe s'=>wpAny (model prog w) A (do if (<- isInstance e (.type "StopIteration"))=true then pure none else throw e) Q E' s') s:=by
 refine Ya ?_;simp only[newExc,newTuple];refine Ya (Jm (Ya (m:=firstArgMember _ _) (wpAny_of_eq (a:=Value.none) (by first | rfl | (simp only[firstArgMember];rfl)) (Jm ?_ (by size_fits)))) (by size_fits));simp only[raiseNew];refine Ya (wpAny_handled ?_);rw[hh];refine Ya (Yb (wpAny_throw ?_));have sub:=isSubtype_stop;refine Ya (wpAny_isInstance (T:="StopIteration") (b:=true) ⟨_,Yk _ rfl,Z⟩ sub ?_);exact Yb (hQ _ λb o e=>Ye _ (Ye _ e))
theorem zlv{e:DictEntry}{ok ov:Value}{Q:Option Value->Shared->Prop}(hit:IsItemIter s.heap it d i n ep ok ov)(hod:s.heap.get? d=some o)(hdd:o.data=.dict es ep)(hn:es.size=n)(hx:es[i]? = some e)
  (hQ:∀h',IsItemIterOut h' it d (i+1) n ep e.key e.val s.heap.objs.size->h'.get? s.heap.objs.size=some { cls:=.type "tuple",data:=.seq #[e.key,e.val] }->h'.objs.size=s.heap.objs.size+1 ->
   (∀b q,b≠it->s.heap.get? b=some q->h'.get? b=some q)->Q (some (.ref s.heap.objs.size)) { s with heap:=h' }):wpAny (model prog w) A (pyNext (.ref it)) Q E s:=by
 have T:s.TypeIs (.ref it) "dict_itemiterator":=⟨_,hit,Z⟩;have own:Builtin.Dict_items.ownsTuple "dict_itemiterator" = true:=by decide
 have nn:¬((Value.ref d == Value.none)=true):=λz=>Yt z
 unfold pyNext;refine Ya (wpAny_attempt (Jb (name:=Str.ofString "__next__") T F.slot_dict_itemiterator_next (Y8 F.slot_dict_itemiterator_next T F.entry_dict_itemiterator_next ?_ (F.args_dict_itemiterator_next_1 _))));refine Ya (Yb (Ya (Ya ?_)));refine Ya (wpAny_typeNameOfWhole_itemiter T (Yb (Ya (wpAny_fieldsOf hit rfl ?_))));simp only[own,if_true];show wpAny _ _ (if (Value.ref d == Value.none)=true then _ else _) _ _ s;rw[Yh nn];refine Ya (Yb (Ya (Y7 hod hdd ?_)));rw[Yh (by rw[hn];simp)];refine Ya (Yb (Ya (wpAny_dictEpoch hod hdd ?_)));rw[Yh (by simp)];have lt:¬((i:Int)<0):=by omega
 refine Yb ?_;simp only[lt,if_false,Int.toNat_natCast,hx];refine Ya (Ya (wpAny_typeNameOfWhole_itemiter T (Yb (Ya (wpAny_isOneOf_itemiter T ?_)))));show wpAny _ _ (setField (.ref it) 3 (rawInt ((i:Int)+1)) >>= _) _ _ s;refine Ya (Jn hit (by simp) λh1 e1 s1=>?_);have i1:IsItemIter h1 it d (i+1) n ep ok ov:=by
  have z:((i+1:Nat):Int)=(i:Int)+1:=by omega
  unfold IsItemIter;rw[z];simpa[rawInt]using e1
 have T1:Shared.TypeIs { s with heap:=h1 } (.ref it) "dict_itemiterator":=⟨_,i1,Z⟩;refine Ya (Jp (Ya (wpAny_isOneOf_itemiter T1 (Ya (wpAny_isOneOf_itemiter T1 ?_)))));show wpAny _ _ (Builtin.Dict_items.pairFromOwner (.ref it) 6 e.key e.val) _ _ _;unfold Builtin.Dict_items.pairFromOwner;refine Ya (wpAny_newTuple ?_);have z1:h1.objs.size=s.heap.objs.size:=s1.1;have lit:it<s.heap.objs.size:=Yn hit;have i2:IsItemIter (h1.push { cls:=.type "tuple",data:=.seq #[e.key,e.val] }) it d (i+1) n ep ok ov:=Ye _ i1;have t2:(h1.push { cls:=.type "tuple",data:=.seq #[e.key,e.val] }).get? s.heap.objs.size=some { cls:=.type "tuple",data:=.seq #[e.key,e.val] }:=by rw[<- z1];exact Yk _ rfl
 have z2:(h1.push { cls:=.type "tuple",data:=.seq #[e.key,e.val] }).objs.size=s.heap.objs.size+1:=by rw[Heap.size_push,z1]
 have k2:∀b q,b≠it->s.heap.get? b=some q->(h1.push { cls:=.type "tuple",data:=.seq #[e.key,e.val] }).get? b=some q:=λb q hb z=>Ye _ (s1.extBut b q hb z)
 dsimp only;rw[z1];show wpAny _ _ (Builtin.Dict_items.ownedTupleIsFree (.ref it) >>= _) _ _ { s with heap:=h1.push { cls:=.type "tuple",data:=.seq #[e.key,e.val] } };generalize (h1.push { cls:=.type "tuple",data:=.seq #[e.key,e.val] }:Heap)=h2 at *;refine Ya ?_;unfold Builtin.Dict_items.ownedTupleIsFree;refine Ya (Jj i2 rfl (x:=.none) rfl (Yb ?_));simp only[if_true];refine Ya (Jj i2 rfl (x:=ok) rfl (Ya (Jj i2 rfl (x:=ov) rfl (Ya (Jn i2 (by simp) λh3 e3 s3=>?_)))));have i3:IsItemIter h3 it d (i+1) n ep e.key ov:=e3;refine Ya (Jn i3 (by simp) λh4 e4 s4=>?_);have i4:IsItemIter h4 it d (i+1) n ep e.key e.val:=e4;refine Ya (Jn i4 (by simp) λh5 e5 s5=>?_);have i5:IsItemIterOut h5 it d (i+1) n ep e.key e.val s.heap.objs.size:=e5;refine Ya (Jn i5 (by simp) λh6 e6 s6=>?_);have i6:IsItemIterOut h6 it d (i+1) n ep e.key e.val s.heap.objs.size:=e6;have kp:∀b q,b≠it->h2.get? b=some q->h6.get? b=some q:=λb q hb z=>s6.extBut b q hb (s5.extBut b q hb (s4.extBut b q hb (s3.extBut b q hb z)))
 refine Ya (wpAny_letGo (Yb (Yb ⟨_,Z,Yb (hQ h6 i6 (kp _ _ (Nat.ne_of_gt lit) t2) ?_ λb q hb z=>kp b q hb (k2 b q hb z))⟩)));exact(s6.1.trans (s5.1.trans (s4.1.trans s3.1))).trans z2
theorem zo4{ok ov:Value}{Q:Option Value->Shared->Prop}(hh:A.handled=none)(hit:IsItemIter s.heap it d i n ep ok ov)(hod:s.heap.get? d=some o)(hdd:o.data=.dict es ep)(hn:es.size=n)(hx:n<=i)
  (hQ:∀h',Heap.ExtBut it s.heap h'->Q none { s with heap:=h' }):wpAny (model prog w) A (pyNext (.ref it)) Q E s:=by
 have T:s.TypeIs (.ref it) "dict_itemiterator":=⟨_,hit,Z⟩;have own:Builtin.Dict_items.ownsTuple "dict_itemiterator" = true:=by decide
 have nn:¬((Value.ref d == Value.none)=true):=λz=>Yt z
 unfold pyNext;refine Ya (wpAny_attempt (Jb (name:=Str.ofString "__next__") T F.slot_dict_itemiterator_next (Y8 F.slot_dict_itemiterator_next T F.entry_dict_itemiterator_next ?_ (F.args_dict_itemiterator_next_1 _))));refine Ya (Yb (Ya (Ya ?_)));refine Ya (wpAny_typeNameOfWhole_itemiter T (Yb (Ya (wpAny_fieldsOf hit rfl ?_))));simp only[own,if_true];show wpAny _ _ (if (Value.ref d == Value.none)=true then _ else _) _ _ s;rw[Yh nn];refine Ya (Yb (Ya (Y7 hod hdd ?_)));rw[Yh (by rw[hn];simp)];refine Ya (Yb (Ya (wpAny_dictEpoch hod hdd ?_)));rw[Yh (by simp)];have lt:¬((i:Int)<0):=by omega
 have hx':es[i]? = none:=Array.getElem?_eq_none (by omega);refine Yb ?_;simp only[lt,if_false,Int.toNat_natCast,hx'];refine Ya (Ya (wpAny_typeNameOfWhole_itemiter T (Yb ?_)));show wpAny _ _ (setField (.ref it) 2 .none >>= _) _ _ s;refine Ya (wpAny_setField hit rfl (by simp) ?_);refine zpk (A:=A) (A':=A.in1) (E':=E) hh λh' k=>?_
 exact hQ h' λb o hb e=>k b o ((Heap.SameBut.update ..).extBut b o hb e)
end
end L2
namespace L2
open PySem PySem.Spec PyProof.Rows
theorem Paired.at'{α β : Type}{F : α->β->Prop}:∀{l:List α} {m:List β},Paired F l m->∀{i:Nat} {a : α},l[i]? = some a->∃b,m[i]? = some b/\F a b
 | _,_,.nil,i,a,h=>by simp at h
 | _,_,.cons r _,0,a,h=>by simp at h;subst h;exact⟨_,rfl,r⟩
 | _,_,.cons _ t,i+1,a,h=>by
  rw[List.getElem?_cons_succ]at h;obtain⟨b,h1,h2⟩:=Paired.at' t h;exact⟨b,by rw[List.getElem?_cons_succ];exact h1,h2⟩
def FzD(H:Hp)(d:Addr)(o:Obj)(kvs:List (List Key×V)):Prop:=H d=some (.frz o (.dT kvs))
def ItI(d:Addr)(o:Obj)(kvs:List (List Key×V)):It:=
 ⟨λi H=>FzD H d o kvs/\i<kvs.length,λi H x H'=>∃p b k v,H p=none/\kvs[i]? = some (k,v)/\H b=some (.tup (k.map kV))/\x=.ref p/\H'=upd H p (.tup [.ref b,v]),λi H=>FzD H d o kvs/\kvs.length<=i⟩
section
variable{X:Cx}{pins:List (Addr×Obj)}{σ : St}{H:Hp}{s:Shared}{d:Addr}{o:Obj}{kvs:List (List Key×V)}{es:Array DictEntry}{ep:Nat}
theorem Inv.entries(I:Inv X pins σ H s)(e:FzD H d o kvs)(hdd:o.data=.dict es ep) :
  s.heap.get? d=some o/\es.size=kvs.length/\∀(i:Nat) (k:List Key) (v:V),kvs[i]? = some (k,v)->∃(b:Addr) (e:DictEntry),es[i]? = some e/\e.key=.ref b/\H b=some (.tup (k.map kV))/\RelV v e.val:=by
 obtain⟨hg,z,y,xs,r,o',es',ep',h1,h2,h3,h4,h5⟩:=I.hok d _ e;have eo:o'=o:=Jf (h1.symm.trans hg);subst eo;rw[hdd]at h3;injection h3 with h3 _
 subst h3;refine⟨hg,(size_of_entries h4).trans (Paired.length r).symm,λi k v hx=>?_⟩;obtain⟨⟨k',b,u⟩,q1,q2,q3,q4⟩:=Paired.at' r hx;refine⟨b,entryOfKey (tupleKind (zbn X.prog X.w)) (k',b,u),by rw[entry_at h4 i,q1];rfl,Z,q3,q4⟩
end
theorem zdj{prog:Program}{w:World}{A:Around}{E:Value->Shared->Prop}{s:Shared}{it d:Addr}{i n ep:Nat}{ok ov:Value}{Q:Value->Shared->Prop}(hit:IsItemIter s.heap it d i n ep ok ov)(h:Q (.ref it) s) :
  wpAny (model prog w) A (pyIter (.ref it)) Q E s:=by
 have T:s.TypeIs (.ref it) "dict_itemiterator":=⟨_,hit,Z⟩;have en:entryFor table "dict_itemiterator.__iter__" = some Builtin.«dict_keyiterator.__iter__»:=entryFor_alias (id':="dict_keyiterator.__iter__") (by kernel_rfl) rfl (by decide +kernel) (by kernel_rfl);refine wpAny_pyIter_slot T F.slot_dict_itemiterator_iter (Y8 F.slot_dict_itemiterator_iter T en ?_ (F.args_dict_itemiterator_iter_1 _));exact Yb ⟨_,Z,"dict_itemiterator",_,T,F.slot_dict_itemiterator_next.lookup,h⟩
theorem zk8{P:Program}{w:World}{K:W.Frag}{xs:List Expr}{xk:Nat}{pos:Pos}{d it:Addr}{o:Obj}{kvs:List (List Key×V)}{es:Array DictEntry}{ep:Nat}(hdd:o.data=.dict es ep) :
  Turn P w K (.Tuple xs xk pos) (ItI d o kvs) [it] it (λi h=>∃ok ov,IsItemIter h it d i kvs.length ep ok ov) where
 mem:=by simp
 obj:=λi h ⟨ok,ov,st⟩ b hb=>by
  have e:b=it:=by simpa using hb
  subst e;exact⟨_,st,λv y=>by cases y⟩
 keep:=λi h h' ⟨ok,ov,st⟩ k=>⟨ok,ov,k it (by simp) _ st⟩
 item:=by
  intro X hP hw hK hc i pins s σ H E I hf st hg;subst hP hw hK;obtain⟨ok,ov,st⟩:=st;obtain⟨fz,lt⟩:=hg;obtain⟨hd,hz,he⟩:=I.entries fz hdd;obtain⟨⟨k,v⟩,hx⟩:∃p,kvs[i]? = some p:=⟨kvs[i],by simp[lt]⟩;obtain⟨b,e,ee,ek,eb,rv⟩:=he i k v hx;have lit:it<s.heap.objs.size:=Yn st;refine zlv st hd hdd hz ee λh' st' tp sz kp=>?_
  refine⟨_,Z,wpAny_letOwnedTupleGo_items st' λh'' st2 sb=>?_⟩;have tp2:h''.get? s.heap.objs.size=some { cls:=.type "tuple",data:=.seq #[e.key,e.val] }:=sb.extBut _ _ (Nat.ne_of_gt lit) tp;have kp2:∀c q,c ∉ [it]->s.heap.get? c=some q->h''.get? c=some q:=λc q hc z=>sb.extBut c q (by simpa using hc) (kp c q (by simpa using hc) z)
  refine⟨.ref s.heap.objs.size,upd H s.heap.objs.size (.tup [.ref b,v]),I.drawn (t':=s.toks) (ch:=[it]) (λc hc=>hf c hc) kp2 (Yi _) ?_,Z,⟨_,b,k,v,I.fresh,hx,eb,Z,Z⟩,⟨_,_,st2⟩,λc hc=>?_⟩
  ·exact⟨by show 2<=sizeLine;rw[sizeLine_eq];decide,[e.key,e.val],.cons (by rw[ek];rfl) (.cons rv .nil),⟨_,tp2,Z,_,Z⟩⟩
  ·have e:c=it:=by simpa using hc
   subst e;rw[zar (Y0 lit)];exact(hf c (by simp)).1
 done:=by
  intro X hP hw hK hc i pins s σ H E I hf st hg;subst hP hw hK;obtain⟨ok,ov,st⟩:=st;obtain⟨fz,ge⟩:=hg;obtain⟨hd,hz,he⟩:=I.entries fz hdd;obtain⟨f0,f1,f2,f3,f4,f5⟩:=hf it (by simp);exact zo4 (I.ok.hd hc) st hd hdd hz ge λh' eb=>⟨rfl,I.turned (t':=s.toks) (λb q hb e=>eb b q hb e) f0 f1 f3 f4 f5⟩
 self:=λ_ _ _ _ _ ⟨_,_,st⟩ h=>zdj st h
end L2
namespace L2
open PySem PySem.Spec PyProof.Rows
section
variable{prog:Program}{w:World}{A:Around}{E:Value->Shared->Prop}{s:Shared}{d:Addr}{ep:Nat}{es:Array DictEntry}{o:Obj}
theorem dict_items{Q:Value->Shared->Prop}(hs:(d == sysModules)=false)(T:s.TypeIs (.ref d) "dict")(hQ:Q (.ref s.heap.objs.size) { s with heap:=s.heap.push { cls:=.type "dict_items",data:=.fields #[.ref d] } }) :
  wpAny (model prog w) A (call (.builtin "dict.items") [.ref d]) Q E s:=by
 refine Y8 F.slot_dict_items T F.entry_dict_items ?_ (F.args_dict_items_1 _);have no:¬((d == sysModules)=true):=by rw[hs];exact Yt
 unfold Builtin.«dict.items»;refine Ya ?_;unfold Builtin.Dict.noArgs;refine Ya (wpAny_notOrdered_dict T (Yb ?_));show wpAny _ _ (Builtin.Dict.showsAll d >>= _) _ _ s;unfold Builtin.Dict.showsAll;rw[Yh no];exact Ya (Yb (Ya (Jm (Yb ⟨_,Z,hQ⟩))))
theorem znp{v:Addr}{Q:Value->Shared->Prop}(hv:s.heap.IsItemsView v d)(ho:s.heap.get? d=some o)(hdd:o.data=.dict es ep)
  (hQ:Q (.ref s.heap.objs.size) { s with heap:=s.heap.push { cls:=.type "dict_itemiterator",data:=.fields #[.none,.bool false,.ref d,.int 0 0,.int es.size 0,.int ep 0,.none,.none] } }):wpAny (model prog w) A (pyIter (.ref v)) Q E s:=by
 obtain⟨q,hq,hc,hdv⟩:=id hv;have own:Builtin.Dict_items.ownsTuple "dict_itemiterator" = true:=by decide
 refine wpAny_pyIter_slot hv.typeIs F.slot_dict_items_iter (Y8 F.slot_dict_items_iter hv.typeIs F.entry_dict_items_iter ?_ (F.args_dict_items_iter_1 _));unfold Builtin.«dict_items.__iter__»;refine Ya (Yb (Ya ?_));unfold Builtin.Dict_items.dictOf;refine Ya (Jj hq hdv (x:=.ref d) rfl (Yb (Ya ?_)));unfold Builtin.Dict_items.newIterator;refine Ya (Y7 ho hdd (Ya (wpAny_dictEpoch ho hdd ?_)));simp only[own,if_true];refine Jm (Yb ⟨_,Z,"dict_itemiterator",_,⟨_,Yk _ rfl,Z⟩,F.slot_dict_itemiterator_next.lookup,?_⟩) (by simp only[sizeOk,Builtin.Dict_items.ownedTupleFields,List.size_toArray,List.length_append,List.length_cons,List.length_nil,sizeLine_eq];omega);simpa[rawInt,Builtin.Dict_items.ownedTupleFields]using hQ
end
def zwl(td:TE):TI:=λσ H R=>td σ H λx H1=>∃d kvs,x=.ref d/\Rd H1 d (.dT kvs)/\∀o,R (ItI d o kvs) (upd H1 d (.frz o (.dT kvs)))
section
variable{X:Cx}{tg:Expr}{pins:List (Addr×Obj)}{σ : St}{H:Hp}{s:Shared}{d:Addr}{kvs:List (List Key×V)}
theorem Inv.still(I:Inv X pins σ H s)(e:Rd H d (.dT kvs)):∃(o:Obj) (es:Array DictEntry) (ep:Nat),s.heap.get? d=some o/\s.TypeIs (.ref d) "dict"/\(∀b,Value.ref d=.ref b->∃ob,s.heap.get? b=some ob/\ob.dict=none)/\(d == sysModules)=false /\
  o.data=.dict es ep/\es.size=kvs.length/\Inv X pins σ (upd H d (.frz o (.dT kvs))) s:=by
 obtain⟨z,hd,xs,rel,o,es,ep,h1,h2,h3,h4,h5,h6⟩:=zlk I.hok e;have T:s.TypeIs (.ref d) "dict":=⟨o,h1,h2.1⟩;refine⟨o,es,ep,h1,T,λb q=>?_,hd,h3,(size_of_entries h4).trans (Paired.length rel).symm,?_⟩
 ·cases q;exact⟨o,h1,h2.2.1⟩
 rcases e with e | ⟨o',e⟩
 ·exact I.freeze e h1
 ·have q:s.heap.get? d=some o':=(I.hok d _ e).1;have eo:o'=o:=Jf (q.symm.trans h1);subst eo;have:upd H d (.frz o' (.dT kvs))=H:=by
   funext b;unfold upd;split
   ·rename_i z;rw[z,e]
   ·rfl
  rw[this];exact I
theorem zgj{xs:List Expr}{xk:Nat}{tp apos cpos:Pos}{o:Expr}{to:TE}(ho:PE X o to)(hbase:attributeBase o "items" X.env (eval o X.env)=eval o X.env:=by rfl)(hline:(apos.endLine == cpos.line)=true:=by rfl) :
  PI X (.Tuple xs xk tp) (.Call (.Attribute o "items" apos) [] [] cpos) (zwl to):=by
 intro pins s σ H R I h;refine wpAny_Call_method0_late hbase hline (thn (ho pins s σ H _ I h) λv s1 ⟨x,H1,I1,r1,d,kvs,ex,e,q⟩=>?_);subst ex
 cases r1;obtain⟨ob,es,ep,hob,T,nd,hs,hdd,hz,I2⟩:=I1.still e;refine⟨"dict","dict.items",PySem.F.plainAttrs_dict,PySem.F.slot_dict_items,PySem.F.type_dict_items,T,nd,Calls.callWith_builtin rfl (PySem.evalArgs_none (dict_items hs T ?_))⟩;have I3:=I2.kept (t':=s1.toks) (h':=s1.heap.push { cls:=.type "dict_items",data:=.fields #[.ref d] }) λb q z=>Ye _ z
 refine znp ⟨_,Yk _ rfl,Z,Z⟩ (Ye _ hob) hdd ?_;refine⟨_,[_],_,_,_,Z,I3.kept (t':=s1.toks) λb q z=>Ye _ z,zk8 hdd,⟨_,_,by rw[<- hz];exact Yk _ rfl⟩,λb hb=>?_,q ob⟩;have eb:=Yq.mp hb;subst eb;exact I3.fpOk (Yi _) (I3.hok.fresh (Yi _))
end
end L2
namespace L2
open PySem PySem.Spec PyProof.Rows
section
variable{X:Cx}
theorem ztv{pins:List (Addr×Obj)}{σ : St}{H:Hp}{s:Shared}{A:Around}{E:Value->Shared->Prop}{a b:Addr}{kvs:List (List Key×V)}{k:List Key}{v:V}{r:Value}{Q:Unit->Shared->Prop}(hu:A.units<cLine)(I:Inv X pins σ H s)(e:H a=some (.dT kvs))(eb:H b=some (.tup (k.map kV)))
  (l:kvs.length<sizeLine) (rv:RelV v r) (h:∀s',Inv X pins σ (upd H a (.dT (putK kvs k v))) s'->Q () s'):wpAny (model X.prog X.w) A (dictSet a (.ref b) r) Q E s:=by
 obtain⟨z,hd,xs,rel,dd⟩:=ztl I.hok e;have hz:xs.length<=sizeLine:=by rw[<- Paired.length rel];exact z
 have hl:(putK kvs k v).length<=sizeLine:=by have:=zco kvs k v;omega
 refine wpAny_dictSet_heap (hsz:=hz) (knd:=tupleKind (zbn X.prog X.w)) hu (zf9 I.hok eb) dd λh' dd' hs=>h _ ?_
 obtain⟨q,es,ep,hq,h2,h3,h4,_,h5⟩:=dd';refine zgo I (by rw[e];exact True.intro) hs ⟨q,hq⟩ ⟨hl,hd,_,(rel.put k eb rv).keeps λc ys ec=>?_,q,es,ep,hq,h2,h3,h4,h5⟩;rw[zar (zf2 ec e (λz=>nomatch z))];exact ec
def zvs(tk tv:TE):TE:=λσ H Q=>∀p,H p=none->tk σ (upd H p (.dT [])) λx H1=>tv σ H1 λy H2=>∃b ks,x=.ref b/\H2 p=some (.dT [])/\H2 b=some (.tup (ks.map kV))/\Q (.ref p) (upd H2 p (.dT [(ks,y)]))
theorem zjs{pos:Pos}{k v:Expr}{tk tv:TE}(hu:X.A.units<cLine)(hk:PE X k tk)(hv:PE X v tv):PE X (.Dict [some k] [v] pos) (zvs tk tv):=by
 intro pins s σ H Q I q;have hn:=I.hok.fresh (Yi s.heap.objs.size);have I1:=I.laid (a:=s.heap.objs.size) (o:=.dT []) (h':=s.heap.push { cls:=.type "dict",data:=.dict #[] }) (t':=s.toks) (λ_ _ q=>Ye _ q) (Yi _) (zjk s.heap I.big);refine wpAny_Dict_any rfl rfl (by simp) (by simp) ?_;have P:PPs X pos [some k] [v] [(tk,tv)]:=zpf hk hv zty;refine thn (P pins _ σ _ (λps H2=>match ps with | [(x,y)]=>∃b ks,x=.ref b/\H2 s.heap.objs.size=some (.dT [])/\H2 b=some (.tup (ks.map kV))/\Q (.ref s.heap.objs.size) (upd H2 s.heap.objs.size (.dT [(ks,y)])) | _=>False) I1 (q _ hn)) λws s2 ⟨ps,H2,I2,rel,hq⟩=>?_
 rcases ws with _ | ⟨⟨c1,c2⟩,ws⟩
 ·cases rel;exact hq.elim
 cases rel with
 | cons r t=>
  cases t with
  | cons _ _=>exact hq.elim
  | nil=>
   obtain⟨r1,r2⟩:=r;obtain⟨b,ks,ex,e1,e2,q2⟩:=hq;dsimp only at ex r1 r2;rw[ex]at r1;obtain rfl:c1=Value.ref b:=r1;unfold storeAll;rw[List.forIn_cons];refine Ya (Ya (ztv hu I2 e1 e2 (by rw[sizeLine_eq];decide) r2 λs3 I3=>Yb ?_));exact Yb ⟨.ref s.heap.objs.size,_,I3,Z,q2⟩
end
end L2
namespace L2
open PySem PySem.Spec PyProof.Rows
def zkz(x:Str)(lo hi:Option Int):List Nat:=Builtin.Str.strSliceIndices lo hi 1 x.length
def cutS(x:Str)(lo hi:Option Int):Str:=if ((zkz x lo hi).length == x.length)=true then x else⟨((zkz x lo hi).filterMap (x.cps[·]?)).toArray⟩
def rSlS:V->Option Int->Option Int->Hp->VK->Prop:=λx lo hi H Q=>∃z,x=.str z/\(cutS z lo hi).length<=sizeLine/\Q (.str (cutS z lo hi)) H
section
variable{X:Cx}
theorem zb9:SlR X rSlS:=by
 intro pins s σ H x v vl vu lo hi sl Q I rx hs pl pu h;obtain⟨z,rfl,hz,q⟩:=h;obtain⟨t,rfl⟩:=rx;refine⟨"str",_,F.slot_str_getitem.lookup,typeIs_str _ z t,?_⟩;obtain⟨l,el,e1⟩:∃l:Option (Int×Tok),vl=partValue l/\l.map (·.1)=lo:=by
  cases pl with
  | none=>exact⟨none,rfl,rfl⟩
  | int i t=>exact⟨some (i,t),rfl,rfl⟩
 obtain⟨u,eu,e2⟩:∃u:Option (Int×Tok),vu=partValue u/\u.map (·.1)=hi:=by
  cases pu with
  | none=>exact⟨none,rfl,rfl⟩
  | int i t=>exact⟨some (i,t),rfl,rfl⟩
 subst el eu e1 e2;refine wpAny_getItem_str_slice (l:=l) (u:=u) (st:=none) hs rfl ?_;have ep:slicePicked z l u none=zkz z (l.map (·.1)) (u.map (·.1)):=rfl;unfold sliceMade;rw[ep];unfold cutS at q hz;by_cases c:((zkz z (l.map (·.1)) (u.map (·.1))).length == z.length)=true
 ·rw[Yl c]at q;rw[Yl (by simpa using c)];exact⟨.str z,H,I,⟨t,Z⟩,q⟩
 ·rw[Yh c]at q hz;rw[Yh (by simpa using c)];exact⟨hz,.str _,H,I.tok _,⟨_,Z⟩,q⟩
theorem zk1:fillsNumberSlot (.type "tuple") "mul" = pure false:=PySem.fillsNumberSlot_seq (id:="tuple.__mul__") (r:=some (.builtin "tuple.__rmul__")) F.slot_tuple_mul.lookup (by decide +kernel) F.slot_tuple_rmul.lookup (by decide +kernel)
theorem zlc:seqRepeat? (.type "tuple")=pure (some (.builtin "tuple.__mul__")):=by
 unfold seqRepeat?;rw[PySem.seqSlot_of (T:="tuple") (name:="__mul__") (id:="tuple.__mul__") F.slot_tuple_mul.lookup (by decide +kernel),PySem.seqSlot_of (T:="tuple") (name:="__rmul__") (id:="tuple.__rmul__") F.slot_tuple_rmul.lookup (by decide +kernel)];rfl
theorem zp8(a:Int)(t:Tok)(l:Addr)(o:Obj)(its:Array Value)(n:Nat)(hd:o.data=.seq its n):Meets (Builtin.«int.__rmul__» ⟨[.int a t,.ref l],[]⟩) (λ_ R s=>s.heap.get? l=some o/\R (.ok (.ret Value.notImplemented)) s):=
 .of_wp λprog w A R s h=>by
  obtain⟨hp,g,d,tk,os⟩:=s;obtain⟨hl,h⟩:=h;wp_walk;rw[hd];wp_walk;exact⟨_,Z,h⟩
def zzb(K:W.Frag):R2:=λx y H Q=>∃(a:Addr) (xs:List V) (n:Int),x=.ref a/\y=.int n/\SqT K H a xs/\xs≠[]/\1<=n/\n<=1000/\xs.length*n.toNat<=1000 /\
 (n=1->Q (.ref a) H)/\(2<=n->∀p,H p=none->Q (.ref p) (upd H p (.tup (List.replicate n.toNat xs).flatten)))
theorem ztx:OpR X (binaryOp .Mult) (zzb X.K):=by
 intro pins s σ H x y v u Q I rx ry h;obtain⟨a,xs,n,rfl,rfl,hx,ne,n1,n2,hz,q1,q2⟩:=h
 cases rx;obtain⟨t,rfl⟩:=ry;obtain⟨its,r,ht,hl⟩:=I.tuple hx;have T:s.TypeIs (.ref a) "tuple":=ht.typeIs;have le:=r.length;obtain⟨o,ho,hc,m,hd⟩:=id ht;refine wpAny_binaryOp_repeat_ref (T:="tuple") (U:="int") (by decide) T (λs'=>typeIs_int s' n t) zk1 F.fills_int_mul F.slot_int_rmul zlc F.slot_int_index.lookup
  (call_meets F.slot_int_rmul (typeIs_int s n t) F.entry_int_rmul (F.args_int_rmul_2 _ _) (zp8 n t a o its.toArray m hd) ⟨ho,Z,T,Y8 F.slot_tuple_mul T F.entry_tuple_mul ?_ (F.args_tuple_mul_2 _ _)⟩)
 show wpAny _ _ (asIndex (.int n t) >>= _) _ _ s;refine Ya (Yb ?_);dsimp only;have b1:(decide (n < -2^63)||decide (n ≥ 2^63))=false:=by rw[Yw (by omega),Yw (by omega)];rfl
 rw[Yh (by rw[b1];exact Yt)];refine Ya (wpAny_tupleItemsOf ho hd ?_);have em:its.toArray.isEmpty=false:=by
  cases its with
  | nil=>cases xs with
   | nil=>exact absurd rfl ne
   | cons _ _=>simp at le
  | cons _ _=>rfl
 by_cases c:n=1
 ·have b2:(its.toArray.isEmpty||n == 1)=true:=by rw[c];simp
  rw[Yl b2];unfold Builtin.Tuple.tupleIsExact;refine Ya (Ya (wpAny_typeOf T (Yb ?_)));rw[Yl (by decide)];exact Ya (wpAny_rule (Yb ⟨_,Z,.ref a,H,I,Z,q1 c⟩))
 ·have b2:(its.toArray.isEmpty||n == 1)=false:=by rw[em];simpa using c
  have b3:(decide (n<=0)||its.toArray.isEmpty)=false:=by rw[em,Yw (by omega)];rfl
  have sz:its.toArray.size*n.toNat<=1000:=by rw[Ys,<- le];exact hz
  have sz':((its.toArray.size:Nat):Int)*n<=1000:=by
   have:n=((n.toNat:Nat):Int):=by omega
   rw[this];exact_mod_cast sz
  rw[Yh (by rw[b2];exact Yt),Yh (by rw[b3];exact Yt),Yh (by omega)];have f0:List.foldl (λx1 x2=>x1++x2) #[] (List.replicate n.toNat its.toArray)=(List.replicate n.toNat its).flatten.toArray:=by
   have:=zh8 its n.toNat [];rw[List.nil_append]at this;exact this
  have b4:Builtin.Tuple.tupleTooMany (((its.toArray.size:Nat):Int)*n)=false:=by
   unfold Builtin.Tuple.tupleTooMany;simp only[decide_eq_false_iff_not];have z:=sizeLine_eq;omega
  rw[Yh (by rw[b4];exact Yt),f0];unfold Builtin.Tuple.tupleExact;have ln:((List.replicate n.toNat its).flatten).length<=sizeLine:=by
   rw[zml,Nat.mul_comm,<- le,sizeLine_eq];omega
  refine Ya (Jm (Yb ⟨_,Z,.ref s.heap.objs.size,_,I.laid (t':=s.toks) (o:=.tup (List.replicate n.toNat xs).flatten) (λb q z=>Ye _ z) (Yi _) ?_,Z,q2 (by omega) _ I.fresh⟩) (by show Array.size _<=sizeLine;rw[Ys];exact ln));exact⟨by rw[zml,Nat.mul_comm,sizeLine_eq];omega,_,r.rep n.toNat,IsTup.new _ _⟩
end
def Ends.thw(H0:Hp)(D:Ends):Ends:={ D with nx:=λσ H=>Thw H0 H (D.nx σ),rt:=λv H=>Thw H0 H (D.rt v) }
section
variable{X:Cx}{st:Stmt}{ss:List Stmt}{t:TS}
theorem SP.thw{pins:List (Addr×Obj)}{D:Ends}{f:Flow}{s:Shared}(h:SP X pins (D.thw X.H₀) f s):SP X pins D f s:=by
 cases f with
 | next=>obtain⟨σ,H,I,q⟩:=h;obtain⟨H',I',q'⟩:=Thw.inv (K:=D.nx σ) q I;exact⟨σ,H',I',q'⟩
 | brk=>exact h
 | cont=>exact h
 | ret u=>obtain⟨v,σ,H,I,r,q⟩:=h;obtain⟨H',I',q'⟩:=Thw.inv (K:=D.rt v) q I;exact⟨v,σ,H',I',r,q'⟩
theorem znr(h:PS X st t):PS X st (λD σ H=>t (D.thw X.H₀) σ H):=λpins s σ H D I q=>thn (h pins s σ H _ I q) λ_ _ z=>z.thw
end
end L2
set_option Elab.async false
set_option linter.all false
set_option maxRecDepth 100000
namespace L2
open PySem PySem.Spec PyProof.Rows
theorem zhu{α β : Type}(f : α->β):∀(l:List α) (j:Nat),(l.map f).eraseIdx j=(l.eraseIdx j).map f
 | [],j=>by simp
 | x::l,0=>by simp
 | x::l,j+1=>by simp[zhu f l j]
theorem ze3{κ β : Type}[DecidableEq κ]:∀{xs:List (κ×β)} (_:(xs.map (·.1)).Nodup) {j:Nat} {k : κ} {q : β},xs[j]? = some (k,q)->xs.eraseIdx j=xs.filter λx=>decide (x.1≠k)
 | [],_,j,k,q,h=>by simp at h
 | x::r,hn,0,k,q,h=>by
  simp at h;subst h
  rw[Yz,List.nodup_cons]at hn;rw[List.eraseIdx_cons_zero,List.filter_cons,Yh (by simp)];refine(Yu.mpr λy hy=>?_).symm;have:y.1≠k:=λe=>hn.1 (Ji.mpr ⟨y,hy,e⟩)
  simpa using this
 | x::r,hn,j+1,k,q,h=>by
  rw[List.getElem?_cons_succ]at h;rw[Yz,List.nodup_cons]at hn;have:x.1≠k:=λe=>hn.1 (Ji.mpr ⟨(k,q),Yx h,e.symm⟩)
  rw[List.eraseIdx_cons_succ,List.filter_cons,Yl (by simpa using this),ze3 hn.2 h]
section
variable{prog:Program}{w:World}{κ : Type}[DecidableEq κ]{knd:HeapKind prog w κ}{A:Around}{E:Value->Shared->Prop}{s:Shared}
theorem zm2{d a:Addr}{xs:List (κ×Addr×Value)}{k : κ}{p:Addr×Value}{Q:Value->Shared->Prop}(hu:knd.room A.in1)(hkey:knd.is s.heap k a)(hz:xs.length<=sizeLine)(dd:s.heap.DictOfH knd d xs)(hp:atKey xs k=some p)
  (h:∀h',h'.DictOfH knd d (xs.filter λx=>decide (x.1≠k))->Heap.SameBut d s.heap h'->Q p.2 { s with heap:=h',toks:=s.toks+knd.draws k }) :
  wpAny (model prog w) A (call (.builtin "dict.pop") [.ref d,.ref a]) Q E s:=by
 have T:=dd.typeIs;obtain⟨o,es,ep,ho,hc,hd,he,hk,hn⟩:=dd;have hes:es.size<=sizeLine:=by rw[size_of_entries he];exact hz
 refine Y8 F.slot_dict_pop T F.entry_dict_pop ?_ (F.args_dict_pop_2 _ _);unfold Builtin.«dict.pop»;refine Ya ?_;unfold Builtin.Dict.keyAndDefault;refine Ya (wpAny_notOrdered_dict T ?_);show wpAny _ _ (pure (d,Value.ref a,none)) _ _ s;refine Yb ?_;have kp:(keyPart (.ref a)).isSome=false:=rfl;simp only[kp,Bool.false_eq_true,if_false];refine Ya (Y7 ho hd (Ya (Yb ?_)));have ne:es.isEmpty=false:=by
  have:xs≠[]:=λz=>by subst z;simp[atKey]at hp
  have:0<xs.length:=List.length_pos_iff.mpr this;have:=size_of_entries he;simp[Array.isEmpty];intro z;simp[z]at this;omega
 rw[ne];simp only[Bool.false_eq_true,if_false];refine Ya ?_;unfold Builtin.Dict.takeOut
 try with_reducible refine Jp ?_
 refine Ya (knd.pyHash hu hkey ?_);refine Ya (wpAny_dictFind_heap (s:={ s with toks:=s.toks+knd.draws k }) hu hkey ho hd he hk hn (λno=>by rw[atKey_none_of_get no]at hp;cases hp) λj q hj=>?_);have ej:es[j]? = some (entryOfKey knd (k,q)):=by rw[entry_at he j,hj];rfl
 have eq:q=p:=by rw[atKey_of_get hn hj]at hp;exact Jf hp
 subst eq;refine Ya (Y7 (s:={ s with toks:=s.toks+knd.draws k }) ho hd ?_);rw[ej];refine Ya (wpAny_updateDictKeys (hz:=hes) (s:={ s with toks:=s.toks+knd.draws k }) ho hd (Yb ?_));simp only[Option.isNone_some,Bool.false_eq_true,if_false];refine Ya (wpAny_letGo (Yb ⟨q.2,Z,h _ ⟨_,_,ep+1,Heap.get?_update_self _ ho (Obj.isFreed_of_dict (Obj.data_mapDictKeys hd _)),hc.mapDictKeys _,Obj.data_mapDictKeys hd _,?_,?_,?_⟩ (Heap.SameBut.update ..)⟩))
 ·rw[<- ze3 hn hj];have:(es.toList.eraseIdx j)=(xs.eraseIdx j).map (entryOfKey knd):=by rw[he,zhu]
  rw[<- this];obtain⟨l⟩:=es;simp
 ·intro x hx;exact knd.keeps (hk x (List.mem_filter.mp hx).1) ho hd (Heap.SameBut.update ..)
 ·exact hn.sublist (List.filter_sublist.map _)
end
theorem KT.drop{H:Hp}{kvs:List (List Key×V)}{xs:List (List Key×Addr×Value)}(r:KT H kvs xs)(k:List Key):KT H (zhv kvs k) (xs.filter λx=>decide (x.1≠k)):=by
 unfold zhv;induction r with
 | nil=>exact .nil
 | @cons p q ps qs h t ih=>
  obtain⟨h1,h2⟩:=h;rw[List.filter_cons,List.filter_cons];by_cases e:p.1=k
  ·have a:¬decide (p.1≠k)=true:=by simp[e]
   have b:¬decide (q.1≠k)=true:=by simp[h1.symm.trans e]
   rw[Yh a,Yh b];exact ih
  ·have e':¬q.1=k:=λz=>e (h1.trans z)
   have a:decide (p.1≠k)=true:=by simp[e]
   have b:decide (q.1≠k)=true:=by simp[e']
   rw[Yl a,Yl b];exact .cons ⟨h1,h2⟩ ih
section
variable{X:Cx}
def zu7:V->List V->Hp->VK->Prop:=λx vs H Q=>∃d b kvs k v,x=.ref d/\vs=[.ref b]/\H d=some (.dT kvs)/\H b=some (.tup (k.map kV))/\valV kvs k=some v/\Q v (upd H d (.dT (zhv kvs k)))
theorem zr7(hu:X.A.units+1<cLine):MtR X "dict.pop" zu7:=by
 intro pins s σ H x vs v us Q I rx rv h;obtain⟨d,b,kvs,k,val,rfl,rfl,hH,hb,hv,q⟩:=h
 cases rx;obtain⟨u,rfl,ru⟩:=zgh rv
 cases ru;obtain⟨z,hd,xs,rel,dd⟩:=ztl I.hok hH;have hz:xs.length<=sizeLine:=by rw[<- Paired.length rel];exact z
 obtain⟨w',hw,rw'⟩:=RelO.some_of (v:=val) (o:=(atKey xs k).map (·.2)) (by rw[<- hv];exact rel.val k);obtain⟨p,hp,rfl⟩:=Option.map_eq_some_iff.mp hw;refine zm2 (knd:=tupleKind (zbn X.prog X.w)) (tupleKind_room_in1 hu) (zf9 I.hok hb) hz dd hp λh' dd' hs=>⟨val,_,?_,rw',q⟩
 obtain⟨o,es,ep,h1,h2,h3,h4,_,h5⟩:=dd';refine zgo I (by rw[hH];exact True.intro) hs ⟨o,h1⟩ ⟨Yr (zkr kvs k) z,hd,_,(rel.drop k).keeps λc ys ec=>?_,o,es,ep,h1,h2,h3,h4,h5⟩;rw[zar (zf2 ec hH (λz=>nomatch z))];exact ec
theorem zsu{o e:Expr}{to:TE}{t:TA}{apos cpos:Pos}(hu:X.A.units+1<cLine)(ho:PE X o to)(ha:PA X [e] t)(hbase:attributeBase o "pop" X.env (eval o X.env)=eval o X.env:=by rfl)
  (hfew:((backTo cpos (starEach (e::[]) X.env)).all (λx => !x.1)&&(backToKw cpos (keywordEach [] X.env)).all (λx=>x.1.isSome)
   && decide ((e::[]).length+([]:List Keyword).length+(if ([]:List Keyword).isEmpty then 0 else 1)<30))=true:=by rfl)
  (hline:(apos.endLine == cpos.line)=true:=by rfl) (hs:starEach (e::[]) X.env=(false,eval e X.env)::starEach [] X.env:=by rfl) (hplain:(backTo cpos (starEach [] X.env)).any (·.1)=false:=by rfl) :
  PE X (.Call (.Attribute o "pop" apos) [e] [] cpos) (tBM X.K "dict" zu7 to t):=zf4 PySem.F.plainAttrs_dict PySem.F.slot_dict_pop PySem.F.type_dict_pop (zr7 hu) ho ha hbase hfew hline hs hplain
end
theorem zfn{d:Addr}{o:Obj}{kvs:List (List Key×V)}{g:TG}{tb:TS}{D:Ends}{σ : St}{H:Hp}(Pv:Nat->St->Hp->Prop)(h0:Pv 0 σ H)(hl:∀i σ H,Pv i σ H->FzD H d o kvs)
  (hs:∀i k v σ H p b,kvs[i]? = some (k,v)->Pv i σ H->H p=none->H b=some (.tup (k.map kV))->g (.ref p) σ (upd H p (.tup [.ref b,v])) λσ2 H2=>tb { D with nx:=Pv (i+1),ct:=Pv (i+1),bk:=D.nx } σ2 H2) (hd:∀σ H,Pv kvs.length σ H->D.nx σ H) :
  ∃W:Nat->Nat->St->Hp->Prop,(∃m,W 0 m σ H)/\∀i m σ H,W i m σ H ->
   ((ItI d o kvs).stop i H/\D.nx σ H)\/((ItI d o kvs).go i H/\∃N:St->Hp->Prop,(∀σ' H',N σ' H'->∃m',m'<m/\W (i+1) m' σ' H')/\∀x H',(ItI d o kvs).yld i H x H'->g x σ H' λσ2 H2=>tb { D with nx:=N,ct:=N,bk:=D.nx } σ2 H2):=by
 refine⟨λi m σ H=>m=kvs.length-i/\i<=kvs.length/\Pv i σ H,⟨kvs.length,by simp,Y2 _,h0⟩,?_⟩;rintro i m σ H ⟨rfl,hi,p⟩;have q:=hl i σ H p;by_cases hlt:i<kvs.length
 ·refine .inr ⟨⟨q,hlt⟩,Pv (i+1),λσ' H' p'=>⟨kvs.length-(i+1),by omega,Z,hlt,p'⟩,λx H' y=>?_⟩;obtain⟨p',b,k,v,hp,hk,hb,rfl,rfl⟩:=y;exact hs i k v σ H p' b hk p hp hb
 ·have z:i=kvs.length:=by omega
  subst z;exact .inl ⟨⟨q,Yi _⟩,hd σ H p⟩
end L2
set_option Elab.async false
set_option linter.all false
set_option maxRecDepth 100000
namespace L2
open PySem PySem.Spec PySem.W PySem.Calls PyProof.Rows Builtin Builtin.ObjectAttr Builtin.Getset_descriptor
structure ExcI(K:Frag)(C:Addr):Prop where
 ga:findIn K (.ref C) "__getattribute__" = some (some (.builtin "BaseException.__getattribute__"))
 gn:findIn K (.ref C) "__getattr__" = some none
 cl:findIn K (.ref C) "__class__" = some (some (.builtin "object.__class__"))
 sp:specialIn K (.builtin "object.__class__") "__get__" = some (some (.builtin "getset_descriptor.__get__"))
 tk:takesIn K (.builtin "object.__class__")=some true
 mo:mroIn K C (.type "object")=some true
 mb:mroIn K C (.type "BaseException")=some true
 hd:hasDictIn K C=true
section
variable{prog:Program}{w:World}{A:Around}{E:Value->Shared->Prop}{s:Shared}{K:Frag}{x C:Addr}
theorem zxs{R:Result->Shared->Prop}{tp:Value}(X:K.In s.heap)(L0:∀M,Looks M s.heap (typeOf (.ref x)) (.ref C))(Zq:ExcI K C)
  (h:R (.ok (.ret (.ref C))) s):codeAny (model prog w) A (.call (.builtin "getset_descriptor.__get__") ⟨[.builtin "object.__class__",.ref x,tp],[]⟩) R s:=by
 obtain⟨hh,g,dr,t,os⟩:=s;have l0:=L0 (model prog w);have l1:=looks_mroIn (M:=model prog w) X Zq.mo;refine codeAny_call_builtin KF.slot_gs.plain KF.entry_gs (KF.slot_gs.check _ _ _ _ _ _ _ _ KF.type_class (KF.args_gs _ _ _) ?_);unfold Builtin.«getset_descriptor.__get__» descrGet;rw[dga_obj];refine Ya (Yb ?_);unfold descrGetter descrCheckInstance descrNameAndClass isInstance;simp only[KF.owner_class]
 repeat lk
 refine⟨Code.quiet_builtin _ (by decide +kernel),codeAny_builtin KF.entry_class ?_⟩;unfold Builtin.«object.__class__» shownTypeOf;(repeat lk);exact h
theorem zt9{M:Model}{h:Heap}(X:K.In h)(Zq:ExcI K C):Looks M h (ObjectAttr.find (.ref x) (.ref C) "__class__") (.bind (.builtin "getset_descriptor.__get__") (.builtin "object.__class__")):=by
 have l1:=looks_findIn (M:=M) X Zq.cl;have l2:Looks M h (getOf (some (.builtin "object.__class__"))) (some (.builtin "getset_descriptor.__get__")):=looks_specialIn X Zq.sp;have l3:=looks_takesIn (M:=M) X Zq.tk;exact l1.andThen (l2.andThen ((show Looks M h (dataDescriptor? (some _) (some _)) (some (_,_)) from l3.andThen .now).andThen (Looks.tag .now)))
theorem zpu{tk:Tok}{Q:Fin->Shared->Prop}(X:K.In s.heap)(L0:∀M,Looks M s.heap (typeOf (.ref x)) (.ref C))(Zq:ExcI K C)(h:Q (.done (.ret (.ref C))) s) :
  wpAny (model prog w) A (Builtin.«object.__getattribute__» ⟨[.ref x,.str "__class__" tk],[]⟩) Q E s:=by
 obtain⟨hh,g,dr,t,os⟩:=s;have l0:=L0 (model prog w);have l1:=zt9 (x:=x) (M:=model prog w) X Zq;refine Ya (Yb (Ya (Yb (Ya (l0.at (Ya (l1.at ?_)))))));show wpAny _ _ (bindTo _ _ _ _) _ _ _;unfold bindTo;refine Ya (Jp (wpAny_call (zxs (s:=⟨hh,g,dr,t,os⟩) X L0 Zq ?_)));exact Yb h
theorem zpd{M:Model}{nv:Value}{Q:Unit->Shared->Prop}(X:K.In s.heap)(L0:∀M,Looks M s.heap (typeOf (.ref x)) (.ref C))(Zq:ExcI K C)(h:Q () s) :
  wpAny M A (checkBuiltinCall "BaseException.__getattribute__" ⟨[.ref x,nv],[]⟩) Q E s:=by
 obtain⟨hh,g,dr,t,os⟩:=s;have l0:=L0 M;have l1:=looks_mroIn (M:=M) X Zq.mb;have hk:builtinKind "BaseException.__getattribute__" = some .slot:=by decide +kernel
 have hs:splitId "BaseException.__getattribute__" = some ("BaseException","__getattribute__"):=by decide +kernel
 have ha:=F.args_bexc_ga (.ref x) nv;simp only[checkBuiltinCall,hk,hs];refine Ya ?_;unfold isInstance
 repeat lk
 exact h
theorem zuv{Q:Option Value->Shared->Prop}(X:K.In s.heap)(L0:∀M,Looks M s.heap (typeOf (.ref x)) (.ref C))(Zq:ExcI K C)(h:Q (some (.ref C)) { s with toks:=s.toks+1 }) :
  wpAny (model prog w) A (getAttr? (.ref x) "__class__") Q E s:=by
 obtain⟨hh,g,dr,t,os⟩:=s;have l0:=L0 (model prog w);have l1:=looks_findIn (M:=model prog w) X Zq.ga;have l2:=looks_findIn (M:=model prog w) X Zq.gn;have hx2:(Value.builtin "BaseException.__getattribute__" == Value.builtin "object.__getattribute__")=false:=by decide +kernel
 have hx1:(onTheHeap (Value.ref C)&&Value.builtin "BaseException.__getattribute__" == Value.builtin "object.__getattribute__")=false:=by rw[hx2];rfl
 unfold getAttr? getAttrBy? getAttrBy;refine Ya (wpAny_mkText (Ya (wpAny_attempt (Jp (Ya (l0.at (Ya (l1.at ?_))))))));dsimp only;rw[Yh (by rw[hx1];decide)];unfold getAttrByItsOwn hookBefore;rw[Yl (show onTheHeap (Value.ref C)=true from rfl)];refine Ya (l2.at (Ya (wpAny_attempt (Jp ?_))));have f3:bindSpecial (.builtin "BaseException.__getattribute__") (.ref x)=pure (.builtin "BaseException.__getattribute__",[.ref x]):=by
  have hop:withoutEnding? "BaseException.__getattribute__" "#opaque" = none:=by decide +kernel
  have hdat:withoutEnding? "BaseException.__getattribute__" "#data" = none:=by decide +kernel
  have hk:builtinKind "BaseException.__getattribute__" = some .slot:=by decide +kernel
  simp only[bindSpecial,typeOf,builtinType,hop,hdat,hk];rfl
 unfold callGetattribute boundAndCalled;rw[Yh (by simp),f3];refine Ya (Yb (wpAny_call (codeAny_call_builtin ?_ F.entry_bexc_ga (zpd (s:=⟨hh,g,dr,t+1,os⟩) X L0 Zq (zpu (s:=⟨hh,g,dr,t+1,os⟩) X L0 Zq ?_)))))
 ·decide +kernel
 ·show wpAny _ _ (handedOut (.ref C)) _ _ _;have hq:handedOut (Value.ref C)=pure (Value.ref C):=rfl;rw[hq];exact Yb (Yb h)
def IsExc(a C:Addr)(h:Heap):Prop:=∃o,h.get? a=some o/\o.cls=.ref C
theorem zw2{a:Addr}(Zq:ExcI K C):KitX K (.ref a) (.ref C) (IsExc a C) where
 ty:=λ_ _ _ ⟨_,e,c⟩=>c ▸ (Looks.ld e).andThen .now
 it:=λ_ _ X _=>by
  obtain⟨cd,hc,_⟩:=any_some Zq.hd;unfold clsIn at hc;split at hc
  ·rename_i ho
   intro _ _ _ _ k q;unfold isType loadHead;exact Ya (wpAny_loadPart (k _ _ (X _ _ ho)) (Yb q))
  ·cases hc
 ne:=λh tp _ _ _ _ X htp=>by
  obtain⟨cd,hc,_⟩:=any_some Zq.hd;refine Bool.eq_false_iff.mpr λq=>?_
  cases Value.ref.inj (beq_iff_eq.mp q);unfold clsIn at hc;split at hc
  ·rename_i ho
   have z:=(X _ _ ho).symm.trans htp;cases z
  ·cases hc
 ca:=λX ⟨_,e,c⟩ k=>zuv X (λ_=>c ▸ (Looks.ld e).andThen .now) Zq k
end
def excO(a C:Addr):HO:=.ext (IsExc a C)
def zvr(K:Frag):List V->Hp->VK->Prop:=λxs H Q=>∃(a C:Addr) (y:V) (c:Value) (b:Bool),xs=[.ref a,y]/\clV y=some c/\H a=some (excO a C)/\ExcI K C/\kitOne K (.ref C) c=some b/\Q (.bl b) H
theorem zey{X:Cx}{K:Frag}(hK:X.K=K):CallR X (.builtin "isinstance") (zvr K):=by
 subst hK;intro pins s σ H xs us Q I r h;obtain⟨a,C,y,c,b,rfl,hy,ha,Zq,e,q⟩:=h;obtain⟨u,v,rfl,ru,rv⟩:=r.two
 cases (show u=Value.ref a from ru);have ev:v=c:=by
  cases y with
  | ty n=>cases hy;exact rv
  | ref a=>cases hy;exact rv
  | _=>cases hy
 subst ev;obtain⟨p,_⟩:=(show ObjOk X.prog X.w H s.heap a (.ext (IsExc a C)) from I.hok a _ ha);exact kia_one (zw2 Zq) I.kIn p e (λz=>nomatch z) λtk=>⟨.bl b,H,I.tok _,Z,q⟩
end L2
namespace L2
open PySem PySem.Spec PyProof.Rows
def Ends.away(i:Nat)(D:Ends):Ends:={ D with nx:=λσ H=>D.nx (σ.set i none) H,bk:=λσ H=>D.bk (σ.set i none) H,ct:=λσ H=>D.ct (σ.set i none) H }
section
variable{X:Cx}{pins:List (Addr×Obj)}{σ : St}{H:Hp}{s:Shared}{i:Nat}{n:Str}{pos:Pos}
theorem Inv.away{h':Heap}{m:Str->Option Value}{v:Option Value}{t':Nat}(I:Inv X pins σ H s)(hN:X.N.Nodup)(hi:X.N[i]? = some n)(hl:X.env.scope.names.lookup n=some .local)
  (hm:∀(j:Nat) (x:Str) (v:V),X.N[j]? = some x->σ[j]? = some (some v)->Vis X.env.scope x->∃u,RelV v u/\Look X.env s.heap m x u) (hn0:s.heap.Ns X.env.locals m) (hn:h'.Ns X.env.locals (λx=>if x=n then v else m x)) (hs:Heap.SameBut X.env.locals s.heap h') :
  Inv X pins (σ.set i none) H { s with heap:=h',toks:=t' }:=by
 obtain⟨oL,_,_,hoL,_⟩:=id hn0;have ne:∀b o,X.s₀.heap.get? b=some o->b≠X.env.locals:=λb o e=>Y0 (Yf (Yn e) I.ok.above)
 refine⟨I.ok,I.os,I.bare,⟨λb o e n hb hx=>(hs.2 b (ne b o e)).trans (I.base.keep b o e n hb hx),λb o e n hb hx=>?_,I.base.free,λb o e hx=>?_,I.base.tups,I.base.frzs,I.base.tbls⟩,⟨_,hn,λj y v' e1 e2 e3=>?_⟩,λy c e=>?_,I.free,I.freeC,λp hp=>?_,λb ob e=>?_,by simpa using I.len⟩
 ·obtain⟨sl,e1⟩:=I.base.slot b o e n hb hx;exact⟨sl,(hs.2 b (ne b o e)).trans e1⟩
 ·obtain⟨o',e1⟩:=I.base.there b o e hx;exact⟨o',(hs.2 b (ne b o e)).trans e1⟩
 ·by_cases hj:j=i
  ·subst hj;rw[List.getElem?_set_self' ]at e2
   cases q : σ[j]? <;> rw[q]at e2 <;> cases e2
  ·rw[List.getElem?_set_ne (Jc hj)]at e2;obtain⟨u',r',q⟩:=hm j y v' e1 e2 e3;refine⟨u',r',?_⟩;rcases q with⟨k,e⟩ | ⟨k,c,e,z⟩
   ·refine .inl ⟨k,?_⟩;have:y≠n:=λe=>hj (ze9 hN e1 (e ▸ hi))
    simp[this,e]
   ·exact .inr ⟨k,c,e,z.sameBut hs (I.cne y c e)⟩
 ·obtain⟨w',z⟩:=I.cell y c e;exact⟨w',z.sameBut hs (I.cne y c e)⟩
 ·obtain⟨e,n,ne,nf,d⟩:=I.pin p hp;exact⟨(hs.2 p.1 ne).trans e,n,ne,nf,d⟩
 ·refine(I.hok b ob e).stay (λc w' hc q=>(hs.2 c ?_).trans q) (λ_ q=>q) λ_ _ q=>q
  rintro rfl;rcases hc with rfl | hc
  ·rw[I.free]at e;cases e
  ·rw[I.free]at hc;cases hc
theorem zgu{M:Model}{A:Around}{E:Value->Shared->Prop}{Q:Unit->Shared->Prop}(I:Inv X pins σ H s)(hN:X.N.Nodup)(hi:X.N[i]? = some n)(hl:X.env.scope.names.lookup n=some .local)
  (h:∀s',Inv X pins (σ.set i none) H s'->Q () s'):wpAny M A (do bindName X.env n .none;unbindBehindTheSuite X.env n pos) Q E s:=by
 obtain⟨m,hn,hm⟩:=id I.loc;exact wpAny_nameGoes_keeps hl hn (by rw[I.ok.kind];rfl) λh' v hn' hs=>h _ (I.away hN hi hl hm hn hn' hs)
end
def zvf(K:W.Frag)(c:Value)(i:Nat)(tb:(St->XK)->TS)(th:TS):TS:=λD σ H=>tb (λσ' cls _ H'=>∃C,cls=.ref C/\W.exmOne K cls c=some true/\∀a,H' a=none->th (D.away i) (σ'.set i (some (.ref a))) (upd H' a (excO a C))) D σ H
theorem zoj{X:Cx}{body suite:List Stmt}{b₀:Stmt}{x n:Str}{i:Nat}{c:Value}{np hpos pos:Pos}{tb:(St->XK)->TS}{th:TS}(hN:X.N.Nodup)(hi:X.N[i]? = some n)(hl:X.env.scope.names.lookup n=some .local)(hstk:X.stack=X.env::X.outer)(hfr:X.env.frame=some X.env.locals)(hg:Gl X x)(hm:X.mg x=some c)
  (hb:∀(pl:List (Addr×Obj)) (E':Value->Shared->Prop) (E:St->XK),PassesS (CXe X.prog X.w) (X.wishP pl E') E->PSs (X.wishP pl E') body (tb E)) (hh:∀a,PSs (X.caught a) (b₀ :: suite) th) (hdb:(x == ("__debug__" : Str))=false:=by decide) :
  PS X (.Try body [.ExceptHandler (some (.Name x np)) (some n) (b₀ :: suite) hpos] [] [] pos) (zvf X.K c i tb th):=by
 intro pins s σ H D I h;rw[arm_exec_Try];refine Ya (wpAny_standAt (wpAny_tryStmt_except ?_));have P:PassesS (CXe X.prog X.w) (X.wishP pins λe s1=>wpAny (model X.prog X.w) X.A (noteFrame e X.env) (λ_ s2=>wpAny (model X.prog X.w) X.A (setFlight e none) (λ_ s3=>
   wpAny (model X.prog X.w) X.A (handleBy e X.env [.ExceptHandler (some (.Name x np)) (some n) (b₀ :: suite) hpos]) (SP X pins D) X.xe s3) X.xe s2) X.xe s1) (λσ' cls _ H'=>∃C,cls=.ref C/\W.exmOne X.K cls c=some true/\∀a,H' a=none->th (D.away i) (σ'.set i (some (.ref a))) (upd H' a (excO a C))):=by
  intro pl σ1 H1 s1 e s2 I1 hq;have J1:=I1.unwishP;obtain⟨a,cls,a0,B,H',rfl,os,bare,un,hok,fl,cov,C,rfl,hx,hth⟩:=hq;have fl:Heap.FlyingW B (X.env::X.outer) a (.ref C) a0 s2.heap:=hstk ▸ fl;have un:Un (frs X.stack) [] H1 H' s1.heap s2.heap:=un;have cov:Cov B (frs X.stack) H' s1.heap:=cov;have ff2:s2.heap.FunFrames B X.stack:=hstk ▸ fl.2.2.1;have hfs:X.A.frames=some (X.env::X.outer):=hstk ▸ I.ok.frames;have nH:H' a=none:=by
   cases q:H' a with
   | none=>rfl
   | some u=>obtain⟨o',z⟩:=cov.trk a u q;rw[fl.2.1]at z;cases z
  have nf:a ∉ frs X.stack:=λhm=>by
   obtain⟨_,o,ho,hnf⟩:=ff2.mem hm;obtain⟨oe,vs,_,_,_,he,_,hd,_⟩:=fl.2.2.2;rw[he]at ho;cases ho;exact hnf vs hd
  have n1:∀o,s1.heap.get? a=some o->False:=λo q=>by obtain⟨o',z⟩:=cov.old a o q nf;rw[fl.2.1]at z;cases z
  refine wpAny_looks_onW hfs hfr fl λh3 held up3=>?_
  refine wpAny_landsW held λh4 fl4 up4=>?_
  have back:∀{h5:Heap},B.StaysIn h5->s2.heap.UpToSlots h5->Inv X pins σ1 H' { s2 with heap:=h5 }:=fun{h5} st up=>
   J1.call' (s':={ s2 with heap:=h5 }) (ch:=[]) os (zjj un cov fl.1 st (zl5 ff2 up)) (zkd hok cov.trk fl.1 st) bare λb z=>absurd z (by simp)
  have back2:∀{h5:Heap},B.StaysIn h5->s2.heap.UpToSlots h5->IsExc a C h5->Inv X pins σ1 (upd H' a (excO a C)) { s2 with heap:=h5 }:=fun{h5} st up ie=>by
   have u5:=zjj un cov fl.1 st (zl5 ff2 up);have k5:=zkd hok cov.trk fl.1 st;have ne:∀{b:Addr} {u:HO},H' b=some u->b≠a:=fun{b u} e z=>by rw[z,nH]at e;cases e
   refine J1.call' (s':={ s2 with heap:=h5 }) (ch:=[]) os ⟨u5.keep,u5.slot,λb o e nb hx=>?_,u5.there,λb xs e=>?_,λb o u e=>?_,λb ps e=>?_⟩ (λb u e=>?_) bare λb z=>absurd z (by simp)
   ·rw[zar (show b≠a from λz=>n1 o (by rw[<- z];exact e))];exact u5.free b o e nb hx
   ·have q:=u5.tups b xs e;rw[zar (ne q)];exact q
   ·have q:=u5.frzs b o u e;rw[zar (ne q)];exact q
   ·obtain⟨more,q⟩:=u5.tbls b ps e;exact⟨more,by rw[zar (ne q)];exact q⟩
   ·by_cases hb:b=a
    ·subst hb;rw[zah]at e;cases e;obtain⟨o,ho,hc⟩:=ie;exact⟨⟨o,ho,hc⟩,⟨o,ho⟩,λh1 h2 ⟨o,z1,z2⟩ k=>⟨o,k o z1,z2⟩⟩
    ·rw[zar hb]at e;exact(k5 b u e).stay (λ_ _ _ q=>q) (λd q=>by rw[zar (ne q)];exact q) λd xs q=>by rw[zar (ne q)];exact q
  have J4:=back fl4.1 (up3.trans up4);refine wpAny_handleBy_cons (codeAny_handlers_test ?_) (by intro q;cases q);refine zdu (J4.caught a) hg hm ?_ hdb;have LT:W.Looks (model X.prog X.w) h4 (typeOf (.ref a)) (.ref C):=by
   obtain⟨ob,hob,hc⟩:=fl4.there;exact hc ▸ (W.Looks.ld hob).andThen .now
  refine W.exm_one J4.kIn LT hx _ _ _ _ (λ_ _ q=>q) ?_;refine codeAny_handlers_suite_as (lands_againW fl4 λh5 fl5 up5=>?_);have J5:=back2 fl5.1 ((up3.trans up4).trans up5) fl5.there;refine zeq J5 hN hi (.inl hl) (v:=.ref a) rfl (λs6 J6=>?_) (.inr hl);refine wpAny_mono (hh a pins _ _ _ (D.away i) (J6.caught a) (hth a nH)) (λf s7 q=>?_) λ_ _ z=>z.elim
  have q:=q.uncaught J6.ok.hd
  cases f with
  | next=>obtain⟨σ',H',I7,q⟩:=q;exact zgu I7 hN hi hl λs8 I8=>⟨_,_,I8,q⟩
  | brk=>obtain⟨σ',H',I7,q⟩:=q;exact zgu I7 hN hi hl λs8 I8=>⟨_,_,I8,q⟩
  | cont=>obtain⟨σ',H',I7,q⟩:=q;exact zgu I7 hN hi hl λs8 I8=>⟨_,_,I8,q⟩
  | ret u=>obtain⟨v,σ',H',I7,r,q⟩:=q;exact zgu I7 hN hi hl λs8 I8=>⟨v,_,_,I8,r,q⟩
 refine wpAny_mono (hb pins _ _ P [] s σ H D (I.wishP _) h) (λf s1 q=>?_) λ_ _ x=>x
 have q':=q.unwishP
 cases f with
 | next=>exact wpAny_execs_nil q'
 | brk=>exact q'
 | cont=>exact q'
 | ret u=>exact q'
end L2
namespace L2
open PySem PySem.Spec PyProof.Rows
def CMulC(i j:Int):Prop:=i.natAbs<2^20000/\j.natAbs<2^20000
theorem zez{X:Cx}:OpR X (binaryOp .Mult) (rI CMulC λi j=>.int (i*j)):=opI λ_ _ _ _ _ _ _ hc q=>mul_int q (PySem.IntMulOk.of_bits (Yr (intBits_le hc.1) (by decide)) (Yr (intBits_le hc.2) (by decide)))
end L2
namespace L2
open PySem PySem.Spec PyProof.Rows
section
variable{X:Cx}
def zyn:V->List V->Hp->VK->Prop:=λx vs H Q=>∃a b,x=.str a/\vs=[.str b]/\Q (.int (Txt.find a b)) H
theorem zl1:MtR X "str.find" zyn:=by
 intro pins s σ H x vs u us Q I rx rv h;obtain⟨a,b,rfl,rfl,q⟩:=h;obtain⟨t,rfl⟩:=rx;obtain⟨v,rfl,t',rfl⟩:=rv.one;exact SC.find ⟨.int _,H,I.tok _,⟨_,rfl⟩,q⟩
theorem zh1:CallR X (.type "int") (λxs H Q=>∃a n,xs=[.str a]/\PySem.intText? a=some n/\a.length<=640/\Q (.int n) H):=by
 intro pins s σ H xs us Q I r h;obtain⟨a,n,rfl,hn,hl,q⟩:=h;obtain⟨u,rfl,t,rfl⟩:=zgh r;exact W.KIN.call_text hn hl ⟨.int n,H,I.tok _,⟨_,rfl⟩,q⟩
def PE1(X:Cx)(e:Expr)(t:TE):Prop:=
 ∀(pins:List (Addr×Obj)) (s:Shared) (σ : St) (H:Hp) (Q:VK),Inv X pins σ H s->1<=s.toks->t σ H Q->wpAny (model X.prog X.w) X.A (eval e X.env) (EP X pins σ Q) X.xe s
def PSs1(X:Cx)(st:List Stmt)(t:TS):Prop:=
 ∀(pins:List (Addr×Obj)) (s:Shared) (σ : St) (H:Hp) (D:Ends),Inv X pins σ H s->1<=s.toks->t D σ H->wpAny (model X.prog X.w) X.A (execs st X.env) (SP X pins D) X.xe s
def zx8(i:Nat):TE:=λσ H Q=>∃a,σ[i]? = some (some (.str a))/\a.length<=1048576/\Q (.str (Txt.replace a " " "")) H
theorem zsl(i:Nat){x:Str}{p p1 p2 apos cpos:Pos}{j1 j2:Nat}(hN:X.N[i]? = some x:=by rfl)(hv:Vis X.env.scope x:=by first | exact Or.inl rfl | exact Or.inr (Or.inl rfl) | exact Or.inr (Or.inr rfl))(hd:(x == ("__debug__" : Str))=false:=by decide)
  (hcd:(x == ("__classdict__" : Str))=false:=by decide) (hbase:attributeBase (.Name x p) "replace" X.env (eval (.Name x p) X.env)=eval (.Name x p) X.env:=by rfl) (hline:(apos.endLine == cpos.line)=true:=by rfl)
  (htrees:backTo cpos (starEach [.Constant (.str " ") j1 p1,.Constant (.str "") j2 p2] X.env)=[(false,eval (.Constant (.str " ") j1 p1) X.env),(false,eval (.Constant (.str "") j2 p2) X.env)]:=by rfl) :
  PE1 X (.Call (.Attribute (.Name x p) "replace" apos) [.Constant (.str " ") j1 p1,.Constant (.str "") j2 p2] [] cpos) (zx8 i):=by
 intro pins s σ H Q I tk h;obtain⟨a,e,hl,q⟩:=h;obtain⟨m,hn,hlo⟩:=I.loc;obtain⟨u,r,l⟩:=hlo i x (.str a) hN e hv;obtain⟨t,rfl⟩:=r;refine wpAny_Call_method2_late hbase hline htrees ?_;have fin:MethodOn X.prog X.w X.A "replace" cpos (.str a t) [(false,eval (.Constant (.str " ") j1 p1) X.env),(false,eval (.Constant (.str "") j2 p2) X.env)] (EP X pins σ Q) X.xe s:=by
  refine⟨"str","str.replace",PySem.F.plainAttrs_str,PySem.F.slot_str_replace,PySem.F.type_str_replace,typeIs_str _ _ _,(λ_ e=>nomatch e),?_⟩;refine Calls.callWith_builtin rfl (Calls.evalArgs_plain ?_);refine Calls.spliced_cons (Calls.Constant_str (Calls.spliced_cons (Calls.Constant_str (Calls.spliced_nil ?_))));refine SC.replaceW (by show (s.toks:Nat)≠0;omega) (by show (s.toks+1:Nat)≠0;omega) (by show (s.toks:Nat)≠s.toks+1;omega) (by decide +kernel) hl (by decide +kernel) λt' k=>⟨.str _,H,I.kept (t':=k) λ_ _ e=>e,⟨t',Z⟩,q⟩
 rcases l with⟨hk,hm⟩ | ⟨hk,c,hc,hcell⟩
 ·exact wpAny_Name (wpAny_loadName_local I.ok.kind hk hn hm fin) hd
 ·rcases hk with hk | hk
  ·exact wpAny_Name (wpAny_loadName_cell I.ok.kind hk hc hcell fin) hd
  ·exact wpAny_Name (wpAny_loadName_free I.ok.kind hk hc hcell fin hcd) hd
variable{o value:Expr}{ta tv:TE}{f:Str}{pos pos':Pos}{rest:List Stmt}{u:TS}
theorem zp2(ha:PE X o ta)(hv:PE1 X value tv)(hr:PSs X rest u)(hs:swapsWith value (some (.Attribute o f pos')) pos.line X.env=pure false:=by rfl):PSs1 X (.Assign [.Attribute o f pos'] value pos::rest) (tSeq (sFld X.K ta tv f) u):=by
 intro pins s σ H D I tk h;refine wpAny_execs_cons (thn (Q:=SP X pins { D with nx:=u D }) ?_ λfl s1 q=>?_)
 ·refine plainObj_wpAny_Assign_Attribute (thn (hv pins s σ H _ I tk h) λu s1 ⟨y,H1,I1,ry,q⟩=>thn (ha pins s1 σ H1 _ I1 q) λov s2 ⟨x,H2,I2,rx,a,C,dx,fs,ex,ea,c,n,l,q2⟩=>?_) hs;subst ex;obtain rfl:ov=Value.ref a:=rx;exact ze0 I2 ea c n l ry λs3 I3=>⟨σ,_,I3,q2⟩
 ·cases fl with
  | next=>
   obtain⟨σ',H',I',q⟩:=q;exact hr pins s1 σ' H' D I' q
  | ret v=>exact q
  | brk=>exact q
  | cont=>exact q
theorem zkw{y:V}{u:Value}{A:Around}{E:Value->Shared->Prop}{pins:List (Addr×Obj)}{s:Shared}{σ : St}{H:Hp}{a C dx:Addr}{fs:List (Str×V)}{Q:Unit->Shared->Prop}(I:Inv X pins σ H s)(e:H a=some (.ins C dx fs))(c:Cls X.K C)(n:NoAttr X.K C f)(hl:fs.length<1000)(ry:RelV y u)
  (h:∀s',Inv X pins σ (upd H a (.ins C dx (putF f y fs))) s'->1<=s'.toks->Q () s'):wpAny (model X.prog X.w) A (setAttr (.ref a) f u) Q E s:=by
 obtain⟨mA,O,r,wi,_,ho⟩:=zfe I.hok e;have hz:(fs.map (·.1)).length<=sizeLine:=by rw[Yd,sizeLine_eq];omega
 refine zm7 I.kIn O c.sa c.po n.taker c.hd wi hz λh' O' sb=>h _ ?_ (by show 1<=(s.toks+2:Nat);omega)
 have hd:∃o,h'.get? dx=some o:=let ⟨o,_,_,e',_⟩:=O'.ns;⟨o,e'⟩;refine I.write (x:=a) (e:=dx) (by rw[e];exact True.intro) (.inr ho) (λb q hb z=>(sb.2 b hb).trans z) hd ?_;refine⟨by rw[zar O.ne];exact ho,?_,O.ne,O'.obj,_,O'.ns,λg=>?_,λg hg=>?_⟩
 ·have:=zd8 f y fs;omega
 ·show RelO ((putF f y fs).lookup g) (if g=f then some u else mA g);rw[zee];by_cases q:g=f
  ·rw[Yl q,Yl q];exact ry
  ·rw[Yh q,Yh q];exact r g
 ·by_cases q:g=f
  ·rw[q];exact(zdm f y fs).1
  ·refine(zdm f y fs).2 g (wi g λz=>hg ?_);show (if g=f then some u else mA g)=none;rw[Yh q];exact z
theorem zpl(ha:PE X o ta)(hv:PE X value tv)(hr:PSs1 X rest u)(hs:swapsWith value (some (.Attribute o f pos')) pos.line X.env=pure false:=by rfl):PSs X (.Assign [.Attribute o f pos'] value pos::rest) (tSeq (sFld X.K ta tv f) u):=by
 intro pins s σ H D I h;refine wpAny_execs_cons (plainObj_wpAny_Assign_Attribute (thn (hv pins s σ H _ I h) λu s1 ⟨y,H1,I1,ry,q⟩=>thn (ha pins s1 σ H1 _ I1 q) λov s2 ⟨x,H2,I2,rx,a,C,dx,fs,ex,ea,c,n,l,q2⟩=>?_) hs);subst ex;obtain rfl:ov=Value.ref a:=rx;exact zkw I2 ea c n l ry λs3 I3 t3=>hr pins s3 σ _ D I3 t3 q2
end
end L2
set_option Elab.async false
set_option linter.all false
set_option maxRecDepth 100000
namespace L2
open PySem PySem.Spec PyProof.Rows
section
variable{X:Cx}
def rRfd:V->List V->Hp->VK->Prop:=λx vs H Q=>∃a b,x=.str a/\vs=[.str b]/\Q (.int (Txt.rfind a b)) H
theorem zo5:MtR X "str.rfind" rRfd:=by
 intro pins s σ H x vs u us Q I rx rv h;obtain⟨a,b,rfl,rfl,q⟩:=h;obtain⟨t,rfl⟩:=rx;obtain⟨v,rfl,t',rfl⟩:=rv.one;exact SC.rfind ⟨.int _,H,I.tok _,⟨_,rfl⟩,q⟩
def rRju:V->List V->Hp->VK->Prop:=λx vs H Q=>∃a i,x=.str a/\vs=[.int i]/\PadOk i=true/\Q (.str (Txt.rjust a i)) H
theorem zok:MtR X "str.rjust" rRju:=by
 intro pins s σ H x vs u us Q I rx rv h;obtain⟨a,i,rfl,rfl,hp,q⟩:=h;obtain⟨t,rfl⟩:=rx;obtain⟨v,rfl,t',rfl⟩:=rv.one;exact SC.rjust hp λt' k=>⟨.str _,H,I.kept (t':=k) λ_ _ e=>e,⟨t',rfl⟩,q⟩
theorem zhk:∀l:List (Str×Tok),Vals ((l.map (·.1)).map V.str) (strValues l)
 | []=>.nil
 | (x,t)::l=>.cons ⟨t,rfl⟩ (zhk l)
def rSpl:V->List V->Hp->VK->Prop:=λx vs H Q=>∃a b,x=.str a/\vs=[.str b]/\(b.length == 0)=false/\a.length<=100000/\∀l,H l=none->Q (.ref l) (upd H l (.lst ((Txt.split a b).map V.str)))
theorem zf5(a b:Str):(Txt.split a b).length<=a.length+2:=by
 unfold Txt.split;split
 ·simp
 ·split
  ·simp
  ·rw[length_partsBetween];have:=StrLaws.occ_length_le a b 0 a.length (a.length+1);omega
theorem zqe{x y:Str}{t u:Tok}{A:Around}{E:Value->Shared->Prop}{Q:Value->Shared->Prop}{s:Shared}{prog:Program}{w:World}(hy:(y.length == 0)=false)(hl:x.length<=100000)
  (hq:∀(l:List (Str×Tok)) (k:Nat),l.map (·.1)=Txt.split x y->Q (.ref s.heap.objs.size) { s with heap:=s.heap.push { cls:=.type "list",data:=.seq (strValues l).toArray },toks:=k }) :
  wpAny (model prog w) A (call (.builtin "str.split") [.str x t,.str y u]) Q E s:=by
 have sz:=sizeLine_eq;have o1:=StrLaws.occ_length_le x y 0 x.length (x.length+1)
 cases h1:(decide (x.length<y.length)||decide (Builtin.Str.strKind x<Builtin.Str.strKind y))
 ·cases hf:(Builtin.Str.occurrences x y 0 x.length (x.length+1)).isEmpty
  ·refine call_meets F.slot_str_split (typeIs_str _ _ _) F.entry_str_split (F.args_str_split_2 _ _) (meets_str_split_sep x y t u h1 hy hf (by omega) (by rw[length_partsBetween];omega)) ?_;show wants Q E _ { s with toks:=_,heap:=s.heap.push { cls:=.type "list",data:=.seq (strsFrom s.toks (Builtin.Str.partsBetween x (Builtin.Str.occurrences x y 0 x.length (x.length+1)) y.length)).toArray } };rw[strsFrom_eq];exact hq (numbered s.toks _) _ ((numbered_texts _ _).trans ((Yh (ne_true_of_eq_false h1)).trans (Yh (ne_true_of_eq_false hf))).symm)
  ·exact call_meets F.slot_str_split (typeIs_str _ _ _) F.entry_str_split (F.args_str_split_2 _ _) (meets_str_split_not_found x y t u h1 hy hf)
    (hq [(x,t)] s.toks ((Yh (ne_true_of_eq_false h1)).trans (Yl hf)).symm)
 ·exact call_meets F.slot_str_split (typeIs_str _ _ _) F.entry_str_split (F.args_str_split_2 _ _) (meets_str_split_cannot_occur x y t u h1)
   (hq [(x,t)] s.toks (Yl h1).symm)
theorem zen:MtR X "str.split" rSpl:=by
 intro pins s σ H x vs u us Q I rx rv h;obtain⟨a,b,rfl,rfl,hb,hl,q⟩:=h;obtain⟨t,rfl⟩:=rx;obtain⟨v,rfl,t',rfl⟩:=rv.one;refine zqe hb hl λl k e=>⟨.ref _,_,I.lnew (ys:=(Txt.split a b).map V.str) (its:=strValues l) ?_ ?_,rfl,q _ I.fresh⟩
 ·rw[<- e];exact zhk l
 ·have:=zf5 a b;have sz:=sizeLine_eq;rw[Yd];omega
def repS(x:Str)(n:Int):Str:=if n<1 then Str.empty else if (n == 1||x.length == 0)=true then x else⟨(List.replicate n.toNat x.cps).foldl (· ++ ·) #[]⟩
theorem zdb:OpR X (binaryOp .Mult) (λx y H Q=>∃a n,x=.str a/\y=.int n/\a.length<=100/\0<=n/\n<=1000/\Q (.str (repS a n)) H):=by
 intro pins s σ H x y v u Q I rx ry h;obtain⟨a,n,rfl,rfl,ha,n0,n1,q⟩:=h;obtain⟨t,rfl⟩:=rx;obtain⟨t',rfl⟩:=ry;have sz:=sizeLine_eq;have hmul:a.length*n.toNat<=100*1000:=Nat.mul_le_mul ha (by omega);have hsz:∀(k:Nat) (x:Array Nat),((List.replicate k x).foldl (· ++ ·) #[]).size=k*x.size:=by
  intro k x;have:∀(k:Nat) (acc:Array Nat),((List.replicate k x).foldl (· ++ ·) acc).size=acc.size+k*x.size:=by
   intro k;induction k with
   | zero=>intro acc;simp
   | succ k ih=>intro acc;rw[List.replicate_succ,List.foldl_cons,ih,Array.size_append,Nat.succ_mul];omega
  rw[this];simp
 refine P.mul_str ?_ (λh1 _=>?_) (λ_ _=>?_) ?_
 ·rw[Yw (by omega),Yw (by omega)];rfl
 ·have m:(a.length:Int)*n<=100*1000:=Int.mul_le_mul (by omega) n1 n0 (by decide);have:(a.length:Int)<=(2^63-1) / n:=Int.le_ediv_of_mul_le (by omega) (Int.le_trans m (by decide));omega
 ·unfold Builtin.Str.tooLong;exact Yw (by omega)
 ·unfold repS at q;by_cases c1:n<1
  ·rw[Yl c1]at q ⊢;exact⟨by decide,.str _,H,I.tok _,⟨_,Z⟩,q⟩
  ·rw[Yh c1]at q ⊢;by_cases c2:(n == 1||a.length == 0)=true
   ·rw[Yl c2]at q ⊢;exact⟨.str _,H,I,⟨_,Z⟩,q⟩
   ·rw[Yh c2]at q ⊢;refine⟨?_,.str _,H,I.tok _,⟨_,Z⟩,q⟩;show Array.size _<=_;rw[hsz];have:a.cps.size=a.length:=rfl;rw[this,Nat.mul_comm];omega
def Its(x:Str):It where
 go:=λi _=>i<x.length
 yld:=λi H v H'=>H'=H/\∃c,x.cps[i]? = some c/\v=.str ⟨#[c]⟩
 stop:=λi _=>x.length<=i
def iStr(tl:TE):TI:=λσ H R=>tl σ H λv H'=>∃x,v=.str x/\R (Its x) H'
theorem zgi{h h':Heap}{it:Addr}{ty:String}{x:Str}{t:Tok}{i:Nat}(y:h.IsStrIter it ty x t i)(e:∀o,h.get? it=some o->h'.get? it=some o):h'.IsStrIter it ty x t i:=let ⟨o,ho,r⟩:=y;⟨o,e o ho,r⟩
theorem zoz{P:Program}{w:World}{K:W.Frag}{tg:Expr}(x:Str)(t:Tok)(it:Addr):Turn P w K tg (Its x) [it] it (λi h=>h.IsStrIter it (strIterType x) x t i) where
 mem:=by simp
 obj:=λi h st b hb=>by
  have e:b=it:=by simpa using hb
  subst e;obtain⟨o,e,c,d⟩:=st;exact⟨o,e,λv z=>by rw[d]at z;cases z⟩
 keep:=λi h h' st k=>zgi st λo e=>k it (by simp) o e
 item:=by
  intro X hP hw hK hc i pins s σ H E I hf st hg;subst hP hw hK;obtain⟨f0,f1,f2,f3,f4,f5⟩:=hf it (by simp);have hx:x.cps[i]? = some (x.cps[i]'hg):=Array.getElem?_eq_getElem hg;by_cases ha:x.cps.all (· < 128)=true
  ·have e:strIterType x = "str_ascii_iterator":=Yl ha;rw[e]at st ⊢;refine wpAny_pyNext_ascii_item st hx λh' st' sb=>?_
   have I1:Inv X pins σ H { s with heap:=h',toks:=s.toks+1 }:=I.turned (λb o hb e=>(sb.2 b hb).trans e) f0 f1 f3 f4 f5;obtain⟨o,e,c,d⟩:=id st';exact⟨_,Z,znf (s:={ s with heap:=h',toks:=s.toks+1 }) e c d (by decide) ⟨.str _,H,I1,⟨_,Z⟩,⟨Z,_,hx,Z⟩,st',λb hb=>(hf b hb).1⟩⟩
  ·have e:strIterType x = "str_iterator":=Yh ha;rw[e]at st ⊢;refine wpAny_pyNext_wide_item st hx λh' st' sb=>?_
   have I1:Inv X pins σ H { s with heap:=h',toks:=s.toks+1 }:=I.turned (λb o hb e=>(sb.2 b hb).trans e) f0 f1 f3 f4 f5;obtain⟨o,e,c,d⟩:=id st';exact⟨_,Z,znf (s:={ s with heap:=h',toks:=s.toks+1 }) e c d (by decide) ⟨.str _,H,I1,⟨_,Z⟩,⟨Z,_,hx,Z⟩,st',λb hb=>(hf b hb).1⟩⟩
 done:=by
  intro X hP hw hK hc i pins s σ H E I hf st hg;subst hP hw hK;obtain⟨f0,f1,f2,f3,f4,f5⟩:=hf it (by simp);have hx:x.cps[i]? = none:=Array.getElem?_eq_none hg;by_cases ha:x.cps.all (· < 128)=true
  ·have e:strIterType x = "str_ascii_iterator":=Yl ha;rw[e]at st;exact wpAny_pyNext_ascii_end (I.ok.hd hc) st hx λh' eb=>⟨Z,I.turned (t':=s.toks) (λb o hb e=>eb b o hb e) f0 f1 f3 f4 f5⟩
  ·have e:strIterType x = "str_iterator":=Yh ha;rw[e]at st;exact wpAny_pyNext_wide_end (I.ok.hd hc) st hx λh' eb=>⟨Z,I.turned (t':=s.toks) (λb o hb e=>eb b o hb e) f0 f1 f3 f4 f5⟩
 self:=λ_ _ _ _ _ st h=>by
  by_cases ha:x.cps.all (· < 128)=true
  ·have e:strIterType x = "str_ascii_iterator":=Yl ha;rw[e]at st;exact wpAny_pyIter_striter_ascii st h
  ·have e:strIterType x = "str_iterator":=Yh ha;rw[e]at st;exact wpAny_pyIter_striter_wide st h
theorem zra{tg l:Expr}{tl:TE}(hl:PE X l tl):PI X tg l (iStr tl):=by
 intro pins s σ H R I h;refine thn (hl pins s σ H _ I h) λv s1 ⟨y,H1,I1,r1,x,e,q⟩=>?_
 subst e;obtain⟨t,rfl⟩:=r1;have fin:∀ty,strIterType x=ty->PIE X pins σ tg R (.ref s1.heap.objs.size) { s1 with heap:=s1.heap.push { cls:=.type ty,data:=.fields #[.str x t,.int 0 0] } }:=λty e=>by
  refine⟨s1.heap.objs.size,[s1.heap.objs.size],_,_,H1,Z,I1.kept (t':=s1.toks) λb o e=>Ye _ e,zoz x t _,⟨_,Yk _ rfl,by rw[e],Z⟩,λb hb=>?_,q⟩;have e:b=s1.heap.objs.size:=by simpa using hb
  subst e;exact I1.fpOk (Yi _) (I1.hok.fresh (Yi _))
 by_cases ha:x.cps.all (· < 128)=true
 ·exact wpAny_pyIter_ascii ha (fin _ (Yl ha))
 ·exact wpAny_pyIter_wide (by simpa using ha) (fin _ (Yh ha))
theorem znx{x:Str}{g:TG}{tb:TS}{D:Ends}{σ : St}{H:Hp}(Pv:Nat->St->Hp->Prop)(h0:Pv 0 σ H)
  (hs:∀i c σ H,x.cps[i]? = some c->Pv i σ H->g (.str ⟨#[c]⟩) σ H λσ2 H2=>tb { D with nx:=Pv (i+1),ct:=Pv (i+1),bk:=D.nx } σ2 H2) (hd:∀σ H,Pv x.length σ H->D.nx σ H) :
  ∃W:Nat->Nat->St->Hp->Prop,(∃m,W 0 m σ H)/\∀i m σ H,W i m σ H ->
   ((Its x).stop i H/\D.nx σ H)\/((Its x).go i H/\∃N:St->Hp->Prop,(∀σ' H',N σ' H'->∃m',m'<m/\W (i+1) m' σ' H')/\∀v H',(Its x).yld i H v H'->g v σ H' λσ2 H2=>tb { D with nx:=N,ct:=N,bk:=D.nx } σ2 H2):=by
 refine⟨λi m σ H=>m=x.length-i/\i<=x.length/\Pv i σ H,⟨x.length,by simp,Y2 _,h0⟩,?_⟩;rintro i m σ H ⟨rfl,hi,p⟩;by_cases hlt:i<x.length
 ·refine .inr ⟨hlt,Pv (i+1),λσ' H' p'=>⟨x.length-(i+1),by omega,Z,hlt,p'⟩,λv H' y=>?_⟩;obtain⟨e,c,hc,ev⟩:=y;subst e ev;exact hs i c σ _ hc p
 ·have e:i=x.length:=by omega
  subst e;exact .inl ⟨Yi _,hd σ H p⟩
end
end L2
set_option Elab.async false
set_option linter.all false
set_option maxRecDepth 100000
namespace L2
open PySem PySem.Spec PyProof.Rows
section
variable{X:Cx}{pins:List (Addr×Obj)}{σ : List (Option V)}{H:Hp}{s:Shared}{h':Heap}
theorem Inv.stored{i:Nat}{x:Str}{v:V}{u:Value}{m:Str->Option Value}{tk:Nat}(I:Inv X pins σ H s)(hN:X.N.Nodup)(hi:X.N[i]? = some x)(hk:X.env.scope.names.lookup x=some .local)(r:RelV v u)(hl:∀(i:Nat) (x:Str) (v:V),X.N[i]? = some x->σ[i]? = some (some v)->Vis X.env.scope x->∃u,RelV v u/\Look X.env s.heap m x u)
  (hn:s.heap.Ns X.env.locals m) (hn':h'.Ns X.env.locals (λy=>if y=x then some u else m y)) (hs:Heap.SameBut X.env.locals s.heap h'):Inv X pins (σ.set i (some v)) H { s with heap:=h',toks:=tk }:=by
 have hiσ : i < σ.length:=by rw[I.len];exact(List.getElem?_eq_some_iff.mp hi).1
 have cne:=I.cne;have tracked:HOk X.prog X.w H h':=λb ob e=>by
  refine(I.hok b ob e).stay (λc w' hc q=>(hs.2 c ?_).trans q) (λ_ q=>q) λ_ _ q=>q
  rintro rfl;rcases hc with rfl | hc
  ·rw[I.free]at e;cases e
  ·rw[I.free]at hc;cases hc
 refine⟨I.ok,I.os,I.bare,⟨λb o e n hb hx=>?_,λb o e n hb hx=>?_,I.base.free,λb o e hx=>?_,I.base.tups,I.base.frzs,I.base.tbls⟩,⟨_,hn',λj y v' e1 e2 e3=>?_⟩,λy c e=>?_,I.free,I.freeC,λp hp=>?_,tracked,by simpa using I.len⟩
 ·exact(hs.2 b (Y0 (Yf (Yn e) I.ok.above))).trans (I.base.keep b o e n hb hx)
 ·obtain⟨sl,e1⟩:=I.base.slot b o e n hb hx;exact⟨sl,(hs.2 b (Y0 (Yf (Yn e) I.ok.above))).trans e1⟩
 ·obtain⟨o',e1⟩:=I.base.there b o e hx;exact⟨o',(hs.2 b (Y0 (Yf (Yn e) I.ok.above))).trans e1⟩
 ·by_cases hj:j=i
  ·subst hj;rw[hi]at e1;cases e1;rw[List.getElem?_set_self hiσ]at e2
   cases e2;exact⟨u,r,.inl ⟨hk,by simp⟩⟩
  ·rw[List.getElem?_set_ne (Jc hj)]at e2;obtain⟨u',r',q⟩:=hl j y v' e1 e2 e3;refine⟨u',r',?_⟩;rcases q with⟨k,e⟩ | ⟨k,c,e,z⟩
   ·refine .inl ⟨k,?_⟩;have:y≠x:=λe=>hj (ze9 hN e1 (e ▸ hi))
    simp[this,e]
   ·exact .inr ⟨k,c,e,z.sameBut hs (cne y c e)⟩
 ·obtain⟨w',z⟩:=I.cell y c e;exact⟨w',z.sameBut hs (cne y c e)⟩
 ·obtain⟨e,n,ne,nf,d⟩:=I.pin p hp;exact⟨(hs.2 p.1 ne).trans e,n,ne,nf,d⟩
theorem zhc{M:Model}{A:Around}{E:Value->Shared->Prop}{i:Nat}{x:Str}{v:V}{u:Value}{Q:Unit->Shared->Prop}(I:Inv X pins σ H s)(hN:X.N.Nodup)(hi:X.N[i]? = some x)(hk:X.env.scope.names.lookup x=some .local)(r:RelV v u)
  (h:∀h',Inv X pins (σ.set i (some v)) H { s with heap:=h',toks:=s.toks+1 }->Heap.SameBut X.env.locals s.heap h'->(∃m,h'.Ns X.env.locals m/\m x=some u)->Q () { s with heap:=h',toks:=s.toks+1 }):wpAny M A (storeName X.env x u) Q E s:=by
 obtain⟨m,hn,hl⟩:=id I.loc;have hcls:(X.env.scope.kind == .class||(X.env.scope.kind == .module&&X.env.locals != X.env.globals))=false:=by rw[I.ok.kind];rfl
 exact wpAny_storeName_local hk hn (λh' hn' hs=>h h' (I.stored hN hi hk r hl hn hn' hs) hs ⟨_,hn',Yl rfl⟩) hcls
variable{pos pos':Pos}{e:Expr}{te:TE}{rest:List Stmt}{u:TS}
theorem zoy{i:Nat}{x:Str}(hN:X.N.Nodup)(hi:X.N[i]? = some x)(hx:Loc X.env.scope x)(he:PE1 X e te)(hr:PSs X rest u)(hs:swapsWith e (some (.Name x pos')) pos.line X.env=pure false:=by rfl)(hf:X.fn x=true\/X.env.scope.names.lookup x=some .local:=by first | exact .inl rfl | exact .inr rfl | assumption):PSs1 X (.Assign [.Name x pos'] e pos::rest) (tSeq (tAsg te (za4 i)) u):=by
 intro pins s σ H D I tk h;refine wpAny_execs_cons (wpAny_Assign_Name (thn (he pins s σ H _ I tk h) λv s1 ⟨y,H1,I1,r1,q1⟩=>?_) hs);exact zeq I1 hN hi hx r1 (λs2 I2=>hr pins s2 _ H1 D I2 q1) hf
def TP1(X:Cx)(pins:List (Addr×Obj))(σ : St)(Q:Bool->Hp->Prop)(b:Bool)(s':Shared):Prop:=∃H',Inv X pins σ H' s'/\Q b H'/\(b=false->1<=s'.toks)
def PT1(X:Cx)(e:Expr)(t:TT):Prop:=
 ∀(whole:Sem Value) (pins:List (Addr×Obj)) (s:Shared) (σ : St) (H:Hp) (Q:Bool->Hp->Prop),Inv X pins σ H s->t σ H Q->wpAny (model X.prog X.w) X.A (isTrue e X.env whole) (TP1 X pins σ Q) X.xe s
def rEqS:R2:=λx y H Q=>∃i j,x=.str i/\y=.str j/\Q (.bl (decide (i=j))) H
def rGtI:R2:=λx y H Q=>∃i j,x=.int i/\y=.int j/\Q (.bl (decide (j<i))) H
variable{a:Expr}{ta:TE}{j:Nat}{p cp ip:Pos}
theorem zuu{k:Str}(ha:PE X a ta)(hw:∀whole,isTrue (.Compare a [.Eq] [.Constant (.str k) j p] cp) X.env whole=isTrue (.Compare a [.Eq] [.Constant (.str k) j p] cp) X.env (eval (.Compare a [.Eq] [.Constant (.str k) j p] cp) X.env):=by intro _;rfl):PT1 X (.Compare a [.Eq] [.Constant (.str k) j p] cp) (zr9 (tOp rEqS ta (tC (.str k)))):=by
 intro wh pins s σ H Q I h;rw[hw];refine wpAny_isTrue_Compare1 (thn (ha pins s σ H _ I h) λv s1 ⟨x,H1,I1,r1,q1⟩=>Calls.Constant_str ?_) (by rfl);obtain⟨i,j,rfl,e,b,eb,q⟩:=q1;injection e with e
 subst e;obtain⟨t,rfl⟩:=r1;have I2:Inv X pins σ H1 { s1 with toks:=s1.toks+1 }:=I1.tok _;refine PyProof.Rows.eq_str ?_;injection eb with eb
 rw[show (i == k)=decide (i=k) from by by_cases z:i=k <;> simp[z],eb];exact Jo ⟨H1,I2,q,λ_=>by show 1<=(s1.toks+1:Nat);omega⟩
theorem zss{k:Int}(ha:PE X a ta)(hw:∀whole,isTrue (.Compare a [.Gt] [.Constant (.int k) j p] cp) X.env whole=isTrue (.Compare a [.Gt] [.Constant (.int k) j p] cp) X.env (eval (.Compare a [.Gt] [.Constant (.int k) j p] cp) X.env):=by intro _;rfl):PT1 X (.Compare a [.Gt] [.Constant (.int k) j p] cp) (zr9 (tOp rGtI ta (tC (.int k)))):=by
 intro wh pins s σ H Q I h;rw[hw];refine wpAny_isTrue_Compare1 (thn (ha pins s σ H _ I h) λv s1 ⟨x,H1,I1,r1,q1⟩=>wpAny_Constant_int ?_) (by rfl);obtain⟨i,j,rfl,e,b,eb,q⟩:=q1;injection e with e
 subst e;obtain⟨t,rfl⟩:=r1;have I2:Inv X pins σ H1 { s1 with toks:=s1.toks+1 }:=I1.tok _;refine PyProof.Rows.gt_int ?_;injection eb with eb
 rw[eb];exact Jo ⟨H1,I2,q,λ_=>by show 1<=(s1.toks+1:Nat);omega⟩
theorem zuk{tA:TT}{bp:Pos}(ha:PT1 X a tA):PT1 X (.BoolOp .Or [a] bp) tA:=by
 intro wh pins s σ H Q I h;refine isTrue_or (thn (ha _ pins s σ H Q I h) λc s1 e=>?_)
 cases c with
 | false=>exact isTrue_or_nil e
 | true=>exact e
theorem zqt{tA tB:TT}{b:Expr}{rs:List Expr}{bp:Pos}(ha:PT X a tA)(hb:PT1 X (.BoolOp .Or (b::rs) bp) tB):PT1 X (.BoolOp .Or (a::b::rs) bp) (tOr tA tB):=by
 intro wh pins s σ H Q I h;refine isTrue_or (thn (ha pins s σ H _ I h) λc s1 ⟨H1,I1,q1⟩=>?_)
 cases c with
 | true=>exact⟨H1,I1,q1,λz=>nomatch z⟩
 | false=>exact hb wh pins s1 σ H1 Q I1 q1
theorem zo1{c:Expr}{tc:TT}(hc:PT1 X c tc)(he:PE X e te)(hr:PSs1 X rest u):PSs X (.If c [.Return (some e) pos'] [] ip::rest) (tSeq (tIfS tc (tRet te) zul) u):=by
 intro pins s σ H D I h;refine wpAny_execs_cons (wpAny_If (thn (hc _ pins s σ H _ I h) λd s1 ⟨H1,I1,q1,tk⟩=>?_))
 cases d with
 | true=>exact wpAny_execs_cons (wpAny_Return_some (thn (he pins s1 σ H1 _ I1 q1) λv s2 ⟨x,H2,I2,r2,q2⟩=>⟨x,σ,H2,I2,r2,q2⟩))
 | false=>exact wpAny_execs_nil (hr pins s1 σ H1 D I1 (tk rfl) q1)
theorem zo6{c:Expr}{tc:TT}{i:Nat}{x:Str}{pos2:Pos}(hc:PT1 X c tc)(hN:X.N.Nodup)(hi:X.N[i]? = some x)(hk:X.env.scope.names.lookup x=some .local)(he:PE X e te)(hr:PSs1 X rest u)(hs:swapsWith e (some (.Name x pos')) pos2.line X.env=pure false:=by rfl):PSs X (.If c [.Assign [.Name x pos'] e pos2] [] ip::rest) (tSeq (tIfS tc (tAsg te (za4 i)) zul) u):=by
 intro pins s σ H D I h;refine wpAny_execs_cons (wpAny_If (thn (hc _ pins s σ H _ I h) λd s1 ⟨H1,I1,q1,tk⟩=>?_))
 cases d with
 | true=>
  refine wpAny_execs_cons (wpAny_Assign_Name (thn (he pins s1 σ H1 _ I1 q1) λv s2 ⟨y,H2,I2,r2,q2⟩=>?_) hs);exact zhc I2 hN hi hk r2 λh' I3 _ _=>wpAny_execs_nil (hr pins _ _ H2 D I3 (by show 1<=(s2.toks+1:Nat);omega) q2)
 | false=>exact wpAny_execs_nil (hr pins s1 σ H1 D I1 (tk rfl) q1)
def zvg(i:Nat)(y z:Str):TE:=λσ H Q=>∃a,σ[i]? = some (some (.str a))/\a.length<=1048576/\Q (.str (Txt.replace a y z)) H
theorem zgk(i:Nat){x y z:Str}{p p1 p2 apos cpos:Pos}{j1 j2:Nat}(hyz:(y == z)=false:=by decide +kernel)(hz:z.length<=14:=by decide +kernel)(hN:X.N[i]? = some x:=by rfl)(hv:Vis X.env.scope x:=by first | exact Or.inl rfl | exact Or.inr (Or.inl rfl) | exact Or.inr (Or.inr rfl))(hd:(x == ("__debug__" : Str))=false:=by decide)
  (hcd:(x == ("__classdict__" : Str))=false:=by decide) (hbase:attributeBase (.Name x p) "replace" X.env (eval (.Name x p) X.env)=eval (.Name x p) X.env:=by rfl) (hline:(apos.endLine == cpos.line)=true:=by rfl)
  (htrees:backTo cpos (starEach [.Constant (.str y) j1 p1,.Constant (.str z) j2 p2] X.env)=[(false,eval (.Constant (.str y) j1 p1) X.env),(false,eval (.Constant (.str z) j2 p2) X.env)]:=by rfl) :
  PE1 X (.Call (.Attribute (.Name x p) "replace" apos) [.Constant (.str y) j1 p1,.Constant (.str z) j2 p2] [] cpos) (zvg i y z):=by
 intro pins s σ H Q I tk h;obtain⟨a,e,hl,q⟩:=h;obtain⟨m,hn,hlo⟩:=I.loc;obtain⟨u,r,l⟩:=hlo i x (.str a) hN e hv;obtain⟨t,rfl⟩:=r;refine wpAny_Call_method2_late hbase hline htrees ?_;have fin:MethodOn X.prog X.w X.A "replace" cpos (.str a t) [(false,eval (.Constant (.str y) j1 p1) X.env),(false,eval (.Constant (.str z) j2 p2) X.env)] (EP X pins σ Q) X.xe s:=by
  refine⟨"str","str.replace",PySem.F.plainAttrs_str,PySem.F.slot_str_replace,PySem.F.type_str_replace,typeIs_str _ _ _,(λ_ e=>nomatch e),?_⟩;refine Calls.callWith_builtin rfl (Calls.evalArgs_plain ?_);refine Calls.spliced_cons (Calls.Constant_str (Calls.spliced_cons (Calls.Constant_str (Calls.spliced_nil ?_))));refine SC.replaceW (by show (s.toks:Nat)≠0;omega) (by show (s.toks+1:Nat)≠0;omega) (by show (s.toks:Nat)≠s.toks+1;omega) hyz hl hz λt' k=>⟨.str _,H,I.kept (t':=k) λ_ _ e=>e,⟨t',Z⟩,q⟩
 rcases l with⟨hk,hm⟩ | ⟨hk,c,hc,hcell⟩
 ·exact wpAny_Name (wpAny_loadName_local I.ok.kind hk hn hm fin) hd
 ·rcases hk with hk | hk
  ·exact wpAny_Name (wpAny_loadName_cell I.ok.kind hk hc hcell fin) hd
  ·exact wpAny_Name (wpAny_loadName_free I.ok.kind hk hc hcell fin hcd) hd
theorem zqk{T:String}{name:Str}{id:String}{r:V->List V->Hp->VK->Prop}{o e:Expr}{es:List Expr}{to:TE}{t:TA}{apos cpos:Pos}(pa:PlainAttrs T)(slot:Slot T name id)(hty:typeOf (.builtin id)=pure (.type "method_descriptor"))(hm:MtR X id r)(ho:PE1 X o to)(ha:PA X (e::es) t)
  (hbase:attributeBase o name X.env (eval o X.env)=eval o X.env:=by rfl)
  (hfew:((backTo cpos (starEach (e::es) X.env)).all (λx => !x.1)&&(backToKw cpos (keywordEach [] X.env)).all (λx=>x.1.isSome)
   && decide ((e::es).length+([]:List Keyword).length+(if ([]:List Keyword).isEmpty then 0 else 1)<30))=true:=by rfl)
  (hline:(apos.endLine == cpos.line)=true:=by rfl) (hs:starEach (e::es) X.env=(false,eval e X.env)::starEach es X.env:=by rfl) (hplain:(backTo cpos (starEach es X.env)).any (·.1)=false:=by rfl) :
  PE1 X (.Call (.Attribute o name apos) (e::es) [] cpos) (tBM X.K T r to t):=by
 intro pins s σ H Q I tk h;refine wpAny_Call_method_late hbase hfew hline rfl (thn (ho pins s σ H _ I tk h) λv s1 ⟨x,H1,I1,r1,ty,q1⟩=>?_);obtain⟨h1,h2⟩:=zrn I1 r1 ty;refine⟨T,id,pa,slot,hty,h1,h2,?_⟩;have hA:=ha cpos pins s1 σ H1 _ I1 q1;rw[hs]at hA ⊢;refine Calls.callWith_builtin (by show (false||(backTo cpos (starEach es X.env)).any (·.1))=false;rw[hplain] <;> rfl) (Calls.evalArgs_plain ?_);exact thn hA λus s2 ⟨vs,H2,I2,r2,q2⟩=>hm pins s2 σ H2 x vs v us Q I2 r1 r2 q2
end
end L2
set_option Elab.async false
set_option linter.all false
set_option maxRecDepth 100000
namespace L2
open PySem PySem.Spec PyProof.Rows
section
variable{X:Cx}{tg:Expr}
def PI1(X:Cx)(tg iter:Expr)(wi:TI):Prop:=
 ∀(pins:List (Addr×Obj)) (s:Shared) (σ : St) (H:Hp) (R:It->Hp->Prop),Inv X pins σ H s->1<=s.toks->wi σ H R ->
  wpAny (model X.prog X.w) X.A (eval iter X.env) (λv s1=>wpAny (model X.prog X.w) X.A (pyIter v) (PIE X pins σ tg R) X.xe s1) X.xe s
theorem zjy{K:W.Frag}{l:Expr}{tl:TE}(hK:X.K=K)(hl:PE1 X l tl):PI1 X tg l (zs2 K tl):=by
 subst hK;intro pins s σ H R I tk h;refine thn (hl pins s σ H _ I tk h) λv s1 ⟨x,H1,I1,r1,q1⟩=>?_
 obtain⟨a,e,⟨xs,hq⟩,q⟩:=q1;subst e
 cases r1;obtain⟨its,rv,p,hz⟩:=I1.list hq;refine wpAny_pyIter_list p.isList ?_;refine⟨s1.heap.objs.size,[s1.heap.objs.size],_,_,H1,Z,I1.kept (t':=s1.toks) λb o e=>Ye _ e,zhi a _,⟨_,Yk _ rfl,Z,Z⟩,λb hb=>?_,q⟩;have e:b=s1.heap.objs.size:=by simpa using hb
 subst e;exact I1.fpOk (Yi _) (I1.hok.fresh (Yi _))
theorem zkc{iter:Expr}{body rest:List Stmt}{wi:TI}{g:TG}{tb u:TS}{pos:Pos}(hp:PassesOwn (model X.prog X.w) X.A X.env X.xe)(hc:X.calm=true)(hi:PI1 X tg iter wi)(hg:PG X tg g)(hb:PSs X body tb)(hr:PSs X rest u)
  (hs:∀x,foldedSetIterable iter X.env x=pure x:=by intro _;rfl):PSs1 X (.For tg iter body [] pos::rest) (tSeq (tFor wi g tb) u):=by
 intro pins s σ H D I tk h;refine wpAny_execs_cons (thn (Q:=SP X pins { D with nx:=u D }) ?_ λfl s1 q=>?_);rotate_left
 ·cases fl with
  | next=>
   obtain⟨σ',H',I',q⟩:=q;exact hr pins s1 σ' H' D I' q
  | ret v=>exact q
  | brk=>exact q
  | cont=>exact q
 refine wpAny_For (thn (hi pins s σ H _ I tk h) λv s1 h1=>thn h1 λitv s2 h2=>?_) hs;obtain⟨it,fp,tn,J,H2,e,I2,T,st2,f2,W,⟨m0,w0⟩,turn⟩:=h2;subst e;have stat:∀{H':Hp},(∀b∈fp,H' b=none)->∀b∈fp,FpOk X pins H' b:=λhn b hb=>⟨hn b hb,(f2 b hb).2⟩
 refine codeAny_forLoop_any (λn s'=>∃i σ' H',Inv X pins σ' H' s'/\tn i s'.heap/\(∀b∈fp,H' b=none)/\W i n σ' H') ?_ m0 ⟨0,σ,H2,I2,st2,λb hb=>(f2 b hb).1,w0⟩;rintro n s3 ⟨i,σ3,H3,I3,st3,fr3,w3⟩;rcases turn i n σ3 H3 w3 with⟨stop,qn⟩ | ⟨go,N,hN,step⟩
 ·refine wpAny_passesOwn hp (thn (T.done X rfl rfl rfl hc i pins s3 σ3 H3 X.xe I3 (stat fr3) st3 stop) λr s4 ⟨hr,I4⟩=>?_);subst hr;exact wpAny_execs_nil ⟨σ3,H3,I4,qn⟩
 ·refine wpAny_passesOwn hp (thn (T.item X rfl rfl rfl hc i pins s3 σ3 H3 X.xe I3 (stat fr3) st3 go) λr s4 ⟨u,hr,h4⟩=>?_);subst hr;refine wpAny_passesOwn hp (thn h4 λ_ s5 ⟨x,H5,I5,r5,y5,st5,fr5⟩=>?_);have I5':=I5.pinned (stat fr5) (T.obj _ _ st5);refine wpAny_passesOwn hp (thn (hg _ s5 σ3 H5 x u _ I5' r5 (step x H5 y5)) λ_ s6 ⟨σ6,H6,I6,q6⟩=>?_);refine wpAny_passesOwn hp (thn (hb _ s6 σ6 H6 _ I6 q6) λf s7 q7=>?_);have again:∀{σ7:St} {H7:Hp},Inv X (pins++zgb fp s5.heap) σ7 H7 s7->N σ7 H7->∃m,m<n/\∃i σ' H',Inv X pins σ' H' s7/\tn i s7.heap/\(∀b∈fp,H' b=none)/\W i m σ' H':=fun{σ7 H7} I7 n7=>by
   obtain⟨m',hm,w7⟩:=hN σ7 H7 n7;refine⟨m',hm,i+1,σ7,H7,I7.unpinned,T.keep _ _ _ st5 λb hb o e=>(I7.pin (b,o) (Yg _ (Yg _ (zcl hb e)))).1,λb hb=>?_,w7⟩;obtain⟨o,e,d⟩:=T.obj _ _ st5 b hb;exact(I7.pin (b,o) (Yg _ (Yg _ (zcl hb e)))).2.1
  cases f with
  | next=>obtain⟨σ7,H7,I7,n7⟩:=q7;exact again I7 n7
  | cont=>obtain⟨σ7,H7,I7,n7⟩:=q7;exact again I7 n7
  | brk=>obtain⟨σ7,H7,I7,q7⟩:=q7;exact⟨σ7,H7,I7.unpinned,q7⟩
  | ret v=>obtain⟨x7,σ7,H7,I7,r7,q7⟩:=q7;exact⟨x7,σ7,H7,I7.unpinned,r7,q7⟩
def foR(z a:Str)(l:List Nat):Str:=l.foldl (λa c=>Txt.replace a ⟨#[c]⟩ z) a
def zvl(i j:Nat)(k z:Str):TS:=λD σ H=>∃a,σ[j]? = some (some (.str a))/\(∀n,(foR z a (k.cps.toList.take n)).length<=1048576)/\∀v,D.nx ((σ.set i v).set j (some (.str (foR z a k.cps.toList)))) H
theorem znl{i j:Nat}{x y k z:Str}{px pk py p1 p2 pz apos cpos p3 pos:Pos}{jk jz:Nat}{rest:List Stmt}{u:TS}(hp:PassesOwn (model X.prog X.w) X.A X.env X.xe)(hc:X.calm=true)(hN:X.N.Nodup)(hi:X.N[i]? = some x)(hj:X.N[j]? = some y)(hkx:X.env.scope.names.lookup x=some .local)(hky:X.env.scope.names.lookup y=some .local)(hr:PSs1 X rest u)
  (hij:i≠j:=by decide) (hk:k.cps.all (· < 128)=true:=by decide +kernel) (hk0:1<=k.length:=by decide +kernel) (hz:z.length<=14:=by decide +kernel) (hz1:2<=z.length:=by decide +kernel) (hdx:(x == ("__debug__" : Str))=false:=by decide) (hdy:(y == ("__debug__" : Str))=false:=by decide)
  (hbase:attributeBase (.Name y p1) "replace" X.env (eval (.Name y p1) X.env)=eval (.Name y p1) X.env:=by rfl) (hline:(apos.endLine == cpos.line)=true:=by rfl)
  (htrees:backTo cpos (starEach [.Name x p2,.Constant (.str z) jz pz] X.env)=[(false,eval (.Name x p2) X.env),(false,eval (.Constant (.str z) jz pz) X.env)]:=by rfl)
  (hs:swapsWith (.Call (.Attribute (.Name y p1) "replace" apos) [.Name x p2,.Constant (.str z) jz pz] [] cpos) (some (.Name y py)) p3.line X.env=pure false:=by rfl)
  (hsi:∀v,foldedSetIterable (.Constant (.str k) jk pk) X.env v=pure v:=by intro _;rfl) :
  PSs X (.For (.Name x px) (.Constant (.str k) jk pk) [.Assign [.Name y py] (.Call (.Attribute (.Name y p1) "replace" apos) [.Name x p2,.Constant (.str z) jz pz] [] cpos) p3] [] pos::rest) (tSeq (zvl i j k z) u):=by
 intro pins s σ H D I h;obtain⟨a,ea,hb,hn⟩:=h;refine wpAny_execs_cons ?_;refine wpAny_For (Calls.Constant_str ?_) hsi;have I1:Inv X pins σ H { s with toks:=s.toks+1 }:=I.tok _;refine wpAny_pyIter_ascii hk ?_;have I2:Inv X pins σ H { s with heap:=s.heap.push { cls:=.type "str_ascii_iterator",data:=.fields #[.str k s.toks,.int 0 0] },toks:=s.toks+1 }:=I.kept λb o e=>Ye _ e
 have fp:=I1.fpOk (Yi _) (I1.hok.fresh (Yi _));have ej:j < σ.length:=by rw[I.len];exact(List.getElem?_eq_some_iff.mp hj).1
 refine codeAny_forLoop_any (λn s'=>∃m σ',n=k.length-m/\m<=k.length/\Inv X pins σ' H s'/\σ'[j]? = some (some (.str (foR z a (k.cps.toList.take m))))/\(m=k.length->∃v,σ'=(σ.set i v).set j (some (.str (foR z a k.cps.toList))))/\(∃v w,σ'=(σ.set i v).set j w)/\s'.heap.IsStrIter s.heap.objs.size "str_ascii_iterator" k s.toks m/\1<=s'.toks) ?_ k.length ⟨0,σ,by simp,Y2 _,I2,by rw[List.take_zero];exact ea,λz=>by omega,?_,⟨_,Yk _ rfl,Z,Z⟩,by show 1<=(s.toks+1:Nat);omega⟩;rotate_left
 ·have ei:i < σ.length:=by rw[I.len];exact(List.getElem?_eq_some_iff.mp hi).1
  refine⟨σ[i],some (.str a),?_⟩;refine List.ext_getElem? λq=>?_
  rw[List.getElem?_set,List.getElem?_set];by_cases c:j=q
  ·subst c;rw[Yl rfl,Yl (by simpa using ej),ea]
  ·rw[Yh c];by_cases c2:i=q
   ·subst c2;rw[Yl rfl,Yl ei,Yc ei]
   ·rw[Yh c2]
 rintro n s3 ⟨m,σ3,rfl,hm,I3,e3,l3,⟨v3,w3,s3e⟩,st3,tk3⟩;obtain⟨f0,f1,f2,f3,f4,f5⟩:=fp;by_cases hlt:m<k.length
 ·have hx:k.cps[m]? = some (k.cps[m]'hlt):=Array.getElem?_eq_getElem hlt;refine wpAny_passesOwn hp (wpAny_pyNext_ascii_item st3 hx λh4 st4 sb4=>?_);have I4:Inv X pins σ3 H { s3 with heap:=h4,toks:=s3.toks+1 }:=I3.turned (λb o hb e=>(sb4.2 b hb).trans e) f0 f1 f3 f4 f5;obtain⟨o4,g4,c4,d4⟩:=id st4;refine wpAny_passesOwn hp (znf (s:={ s3 with heap:=h4,toks:=s3.toks+1 }) g4 c4 d4 (by decide) ?_);refine wpAny_passesOwn hp (wpAny_assign_Name (zhc (v:=.str ⟨#[k.cps[m]'hlt]⟩) I4 hN hi hkx ⟨_,Z⟩ λh5 I5 sb5 ⟨m5,n5,hm5⟩=>?_));have st5:h5.IsStrIter s.heap.objs.size "str_ascii_iterator" k s.toks (m+1):=zgi st4 λo e=>(sb5.2 _ f1).trans e
  have ix : σ3.length = σ.length:=by rw[I3.len,I.len]
  have e5:(σ3.set i (some (V.str ⟨#[k.cps[m]'hlt]⟩)))[j]? = some (some (.str (foR z a (k.cps.toList.take m)))):=by rw[List.getElem?_set_ne hij];exact e3
  obtain⟨m6,n6,hl6⟩:=I5.loc;obtain⟨u6,r6,l6⟩:=hl6 j y _ hj e5 (Or.inl hky);obtain⟨t6,rfl⟩:=r6;have hm6:m6 y=some (.str (foR z a (k.cps.toList.take m)) t6):=by
   rcases l6 with⟨_,q⟩ | ⟨q,_⟩
   ·exact q
   ·have hky':X.env.kindOf y=some .local:=hky;rcases q with q | q <;> rw[hky']at q <;> cases q
  refine wpAny_passesOwn hp (wpAny_execs_cons (wpAny_Assign_Name (wpAny_Call_method2_late hbase hline htrees ?_) hs));refine wpAny_Name (wpAny_loadName_local I5.ok.kind hky n6 hm6 ?_) hdy;refine⟨"str","str.replace",PySem.F.plainAttrs_str,PySem.F.slot_str_replace,PySem.F.type_str_replace,typeIs_str _ _ _,(λ_ e=>nomatch e),?_⟩;refine Calls.callWith_builtin rfl (Calls.evalArgs_plain ?_);refine Calls.spliced_cons (wpAny_Name (wpAny_loadName_local I5.ok.kind hkx n5 hm5 (Calls.spliced_cons (Calls.Constant_str (Calls.spliced_nil ?_)))) hdx);have hyz:((⟨#[k.cps[m]'hlt]⟩:Str) == z)=false:=by
   cases q:((⟨#[k.cps[m]'hlt]⟩:Str) == z) with
   | false=>rfl
   | true=>have:=Jt q;rw[<- this]at hz1;exact absurd hz1 (by show ¬2<=1;decide)
  refine SC.replaceW (by show (s3.toks:Nat)≠0;omega) (by show (s3.toks+1+1:Nat)≠0;omega) (by show (s3.toks:Nat)≠s3.toks+1+1;omega) hyz (hb m) hz λt' k'=>?_
  have tk:k.cps.toList.take (m+1)=k.cps.toList.take m++[k.cps[m]'hlt]:=by
   rw[List.take_add_one];have:k.cps.toList[m]? = some (k.cps[m]'hlt):=by rw[Array.getElem?_toList];exact hx
   rw[this];rfl
  have ef:Txt.replace (foR z a (k.cps.toList.take m)) ⟨#[k.cps[m]'hlt]⟩ z=foR z a (k.cps.toList.take (m+1)):=by unfold foR;rw[tk,List.foldl_append];rfl
  rw[ef];have I7:Inv X pins (σ3.set i (some (V.str ⟨#[k.cps[m]'hlt]⟩))) H { s3 with heap:=h5,toks:=k' }:=I5.kept λ_ _ e=>e
  refine zhc (v:=.str (foR z a (k.cps.toList.take (m+1)))) I7 hN hj hky ⟨_,Z⟩ λh8 I8 sb8 _=>wpAny_execs_nil ⟨k.length-(m+1),by omega,m+1,_,Z,hlt,I8,?_,?_,?_,zgi st5 λo e=>(sb8.2 _ f1).trans e,by show 1<=(k'+1:Nat);omega⟩
  ·rw[List.getElem?_set_self (by rw[List.length_set,ix];exact ej)]
  ·intro em;refine⟨some (V.str ⟨#[k.cps[m]'hlt]⟩),?_⟩;have:k.cps.toList.take (m+1)=k.cps.toList:=List.take_of_length_le (by rw[Array.length_toList];show k.length<=m+1;omega);rw[this,s3e];refine List.ext_getElem? λq=>?_
   simp only[List.getElem?_set,List.length_set]
   by_cases c:j=q
   ·simp[c]
   ·by_cases c2:i=q
    ·simp[c,c2,Ne.symm hij]
    ·simp[c,c2]
  ·refine⟨some (V.str ⟨#[k.cps[m]'hlt]⟩),some (.str (foR z a (k.cps.toList.take (m+1)))),?_⟩;rw[s3e];refine List.ext_getElem? λq=>?_
   simp only[List.getElem?_set,List.length_set]
   by_cases c:j=q
   ·simp[c]
   ·by_cases c2:i=q
    ·simp[c,c2,Ne.symm hij]
    ·simp[c,c2]
 ·have em:m=k.length:=by omega
  refine wpAny_passesOwn hp (wpAny_pyNext_ascii_end (I3.ok.hd hc) st3 (Array.getElem?_eq_none (by show k.length<=m;omega)) λh4 eb4=>?_);have I4:Inv X pins σ3 H { s3 with heap:=h4 }:=I3.turned (t':=s3.toks) (λb o hb e=>eb4 b o hb e) f0 f1 f3 f4 f5;obtain⟨v,rfl⟩:=l3 em;exact wpAny_execs_nil (hr pins _ _ H D I4 tk3 (hn v))
end
end L2
namespace K1
def gI(a b:Int):Int:=((Int.gcd a b:Nat):Int)
theorem zmb(a b:Int):0<=gI a b:=Int.natCast_nonneg _
theorem zd3{a b:Int}(h:b≠0):0<gI a b:=by
 have:0<Int.gcd a b:=Int.gcd_pos_of_ne_zero_right a h;unfold gI;omega
theorem zks(a b:Int):gI a b ∣ a:=Int.gcd_dvd_left a b
theorem zfd(a b:Int):gI a b ∣ b:=Int.gcd_dvd_right a b
theorem zrs(a:Int):gI a 1=1:=by unfold gI;simp
theorem zun(a:Int)(h:0<=a):gI a 0=a:=by unfold gI;rw[Int.gcd_zero_right];omega
theorem zum{a b:Int}(ha:0<=a)(hb:0<b):gI b (Int.fmod a b)=gI a b:=by
 unfold gI;congr 1;rw[Int.fmod_eq_emod_of_nonneg a (Int.le_of_lt hb)];show Nat.gcd b.natAbs (a%b).natAbs=Nat.gcd a.natAbs b.natAbs;have e:(a%b).natAbs=a.natAbs%b.natAbs:=by
  have h1:a=(a.natAbs:Int):=by omega
  have h2:b=(b.natAbs:Int):=by omega
  conv=>lhs;rw[h1,h2]
  rw[<- Int.natCast_emod];exact Int.natAbs_natCast _
 rw[e,Nat.gcd_comm a.natAbs,Nat.gcd_rec b.natAbs a.natAbs,Nat.gcd_comm]
structure Gc(a0 b0 a b:Int):Prop where
 is:gI a b=gI a0 b0
theorem start{a b:Int}(ha:0<=a)(hb:0<=b):0<=a/\0<=b/\Gc a b a b:=⟨ha,hb,⟨Z⟩⟩
theorem turn{a0 b0 a b:Int}(h:Gc a0 b0 a b)(ha:0<=a)(hb:0<b):0<=b/\0<=Int.fmod a b/\Gc a0 b0 b (Int.fmod a b):=
 ⟨by omega,Int.fmod_nonneg_of_pos a hb,⟨(zum ha hb).trans h.is⟩⟩
theorem less{a b:Int}(hb:0<b):(Int.fmod a b).toNat<b.toNat:=by
 have:=Int.fmod_lt_of_pos a hb;have:=Int.fmod_nonneg_of_pos a hb;omega
theorem out{a0 b0 a b:Int}(h:Gc a0 b0 a b)(ha:0<=a)(hb:b=0):a=gI a0 b0:=by
 rw[<- h.is,hb,zun a ha]
theorem zu2(a b:Int):gI (if a<0 then -a else a) (if b<0 then -b else b)=gI a b:=by
 unfold gI;congr 1;have h (x:Int):(if x<0 then -x else x).natAbs=x.natAbs:=by split <;> omega
 show Nat.gcd _ _=Nat.gcd _ _;rw[h,h]
theorem coprime{d q1 q2:Int}(hd:d≠0)(h:gI (d*q1) (d*q2)=d\/gI (d*q1) (d*q2) = -d):gI q1 q2=1:=by
 unfold gI at h ⊢;rw[Int.gcd_mul_left]at h;have h0:(d.natAbs*Int.gcd q1 q2:Nat)=d.natAbs:=by
  rcases h with h | h <;> omega
 have:Int.gcd q1 q2=1:=by
  have hp:0<d.natAbs:=by omega
  exact Nat.eq_of_mul_eq_mul_left hp (by omega)
 rw[this];rfl
end K1
namespace K1
def dv(t b:Int):Int:=if b<0 then -(gI t b) else gI t b
def fT(t b:Int):Int:=t.fdiv (dv t b)
def fB(t b:Int):Int:=b.fdiv (dv t b)
theorem znq(t b:Int):(dv t b).natAbs=Int.gcd t b:=by
 unfold dv gI;split <;> omega
theorem zp4{t b:Int}(h:b≠0):dv t b≠0:=by
 have:=zd3 (a:=t) h;unfold dv;split <;> omega
theorem zyv{t b:Int}(h:b≠0):(dv t b).natAbs<=b.natAbs:=by
 rw[znq];exact Nat.le_of_dvd (by omega) (Nat.gcd_dvd_right _ _)
theorem zf8{d x:Int}{n:Nat}(h:d.natAbs=n)(hx:(n:Int) ∣ x):d ∣ x:=by
 rw[<- Int.natAbs_dvd,h];exact hx
theorem ex{t b:Int}(h:b≠0):∃q1 q2,t=dv t b*q1/\b=dv t b*q2/\fT t b=q1/\fB t b=q2:=by
 obtain⟨q1,e1⟩:=zf8 (znq t b) (Int.gcd_dvd_left t b);obtain⟨q2,e2⟩:=zf8 (znq t b) (Int.gcd_dvd_right t b);refine⟨q1,q2,e1,e2,?_,?_⟩
 ·unfold fT;have:=Int.mul_fdiv_cancel_left (a:=dv t b) q1 (zp4 h);rw[<- e1]at this;exact this
 ·unfold fB;have:=Int.mul_fdiv_cancel_left (a:=dv t b) q2 (zp4 h);rw[<- e2]at this;exact this
theorem zqj{t b:Int}(h:b≠0):1<=fB t b:=by
 obtain⟨q1,q2,_,e2,_,f2⟩:=ex (t:=t) h;rw[f2];have hp:=zd3 (a:=t) h;rcases(by omega:q2<=0\/1<=q2) with q | q
 ·exfalso;by_cases hb:b<0
  ·have ed:dv t b = -(gI t b):=by unfold dv;rw[Yl hb]
   rw[ed]at e2;have:=Int.mul_nonneg_of_nonpos_of_nonpos (show -(gI t b)<=0 by omega) q;omega
  ·have ed:dv t b=gI t b:=by unfold dv;rw[Yh hb]
   rw[ed]at e2;have:=Int.mul_nonpos_of_nonneg_of_nonpos (show 0<=gI t b by omega) q;omega
 ·exact q
theorem zmv{t b:Int}(h:b≠0):fT t b*b=t*fB t b:=by
 obtain⟨q1,q2,e1,e2,f1,f2⟩:=ex (t:=t) h;rw[f1,f2]
 conv=>lhs;rw[e2]
 conv=>rhs;rw[e1]
 rw[Int.mul_assoc,Int.mul_left_comm]
theorem zve{t b:Int}(h:b≠0):gI (fT t b) (fB t b)=1:=by
 obtain⟨q1,q2,e1,e2,f1,f2⟩:=ex (t:=t) h;rw[f1,f2];refine coprime (d:=dv t b) (zp4 h) ?_;rw[<- e1,<- e2];unfold dv;split
 ·right;omega
 ·left;rfl
theorem zo9(t:Int):fT t 1=t/\fB t 1=1:=by
 have e:dv t 1=1:=by unfold dv;rw[Yh (by decide),zrs]
 unfold fT fB;rw[e];exact⟨Int.fdiv_one t,by decide⟩
end K1
namespace K1
theorem co_iff{a b:Int}:gI a b=1↔Nat.Coprime a.natAbs b.natAbs:=by
 unfold gI Nat.Coprime;show ((Nat.gcd a.natAbs b.natAbs:Nat):Int)=1↔_;omega
theorem zej{a b:Int}(h:gI a b=1):gI b a=1:=co_iff.mpr (co_iff.mp h).symm
theorem zgl{a b c:Int}(h:gI a b=1)(h':gI a c=1):gI a (b*c)=1:=by
 rw[co_iff]at *;rw[Int.natAbs_mul];exact Nat.Coprime.mul_right h h'
theorem zg2{a b c:Int}(h:gI a c=1)(h':gI b c=1):gI (a*b) c=1:=zej (zgl (zej h) (zej h'))
theorem zmr{a a' b:Int}(d:a' ∣ a)(h:gI a b=1):gI a' b=1:=by
 rw[co_iff]at *;exact Nat.Coprime.coprime_dvd_left (Int.natAbs_dvd_natAbs.mpr d) h
theorem zom{a b b':Int}(d:b' ∣ b)(h:gI a b=1):gI a b'=1:=zej (zmr d (zej h))
theorem zri{a b k:Int}(h:gI a b=1):gI (a+b*k) b=1:=by
 unfold gI at *;have:Int.gcd (a+b*k) b=Int.gcd a b:=by simp
 rw[this];exact h
theorem zfb{a b:Int}(hb:b≠0):∃a' b',a=gI a b*a'/\b=gI a b*b'/\gI a' b'=1:=by
 obtain⟨a',ea⟩:=zks a b;obtain⟨b',eb⟩:=zfd a b;have hp:=zd3 (a:=a) hb;refine⟨a',b',ea,eb,coprime (d:=gI a b) (by omega) (.inl ?_)⟩;rw[<- ea,<- eb]
theorem zet{a b c:Int}(h:gI a b=1)(d:a ∣ b*c):a ∣ c:=by
 rw[co_iff]at h;have:=Int.natAbs_dvd_natAbs.mpr d;rw[Int.natAbs_mul]at this;exact Int.natAbs_dvd_natAbs.mp (Nat.Coprime.dvd_of_dvd_mul_left h this)
theorem zm5{p q p' q':Int}(hq:1<=q)(hq':1<=q')(c:gI p q=1)(c':gI p' q'=1)(e:p*q'=p'*q):p=p'/\q=q':=by
 have d1:q ∣ q':=zet (zej c) ⟨p',by rw[e,Int.mul_comm]⟩;have d2:q' ∣ q:=zet (zej c') ⟨p,by rw[<- e,Int.mul_comm]⟩;have e1:q=q':=Int.dvd_antisymm (by omega) (by omega) d1 d2;subst e1;exact⟨Int.eq_of_mul_eq_mul_right (by omega) e,Z⟩
theorem zqg{t b p q:Int}(hb:b≠0)(hq:1<=q)(c:gI p q=1)(e:p*b=t*q):fT t b=p/\fB t b=q:=by
 refine zm5 (zqj hb) hq (zve hb) c ?_;have h1:=zmv (t:=t) hb;refine Int.eq_of_mul_eq_mul_right hb ?_
 calc fT t b*q*b=fT t b*b*q:=by rw[Int.mul_right_comm]
  _=t*fB t b*q:=by rw[h1]
  _=t*q*fB t b:=by rw[Int.mul_right_comm]
  _=p*b*fB t b:=by rw[e]
  _=p*fB t b*b:=by rw[Int.mul_right_comm]
theorem fd{d q:Int}(h:d≠0):Int.fdiv (d*q) d=q:=Int.mul_fdiv_cancel_left q h
def ab(a:Int):Int:=if a<0 then -a else a
theorem zyj(a b:Int):gI (ab a) b=gI a b:=by
 unfold gI ab;congr 1;show Nat.gcd _ _=Nat.gcd _ _;congr 1;split <;> omega
theorem posR{d q:Int}(hd:0<d)(h:1<=d*q):1<=q:=by
 rcases(by omega:q<=0\/1<=q) with g | g
 ·have:=Int.mul_nonpos_of_nonneg_of_nonpos (show 0<=d by omega) g;omega
 ·exact g
theorem zlz{x y z w:Int}(hy:1<=y)(hw:1<=w)(c:gI x y=1)(c':gI z w=1) :
  (Int.fdiv x (gI x w)*Int.fdiv z (gI z y))=fT (x*z) (y*w)/\Int.fdiv y (gI z y)*Int.fdiv w (gI x w)=fB (x*z) (y*w):=by
 obtain⟨x1,w1,ex,ew,k1⟩:=zfb (a:=x) (b:=w) (by omega);obtain⟨z1,y1,ez,ey,k2⟩:=zfb (a:=z) (b:=y) (by omega);have g1:=zd3 (a:=x) (b:=w) (by omega);have g2:=zd3 (a:=z) (b:=y) (by omega);generalize gI x w=g at *;generalize gI z y=h at *;subst ex ew ez ey;rw[fd (by omega),fd (by omega),fd (by omega),fd (by omega)];have y1p:=posR g2 hy;have w1p:=posR g1 hw;have b0:h*y1*(g*w1)≠0:=by
  intro q;rcases Int.mul_eq_zero.mp q with q | q <;> omega
 have kx:gI x1 y1=1:=zmr (Int.dvd_mul_left g x1) (zom (Int.dvd_mul_left h y1) c);have kz:gI z1 w1=1:=zmr (Int.dvd_mul_left h z1) (zom (Int.dvd_mul_left g w1) c');have:=zqg (t:=g*x1*(h*z1)) (p:=x1*z1) (q:=y1*w1) b0 (Int.mul_pos y1p w1p)
  (zgl (zg2 kx k2) (zg2 k1 kz)) (by grind)
 exact⟨this.1.symm,this.2.symm⟩
theorem zqc{x y z w:Int}(hy:1<=y)(hw:1<=w)(c:gI x y=1)(c':gI z w=1) :
  let g:=gI y w;let T:=x*Int.fdiv w g+z*Int.fdiv y g;let f:=gI T g
  Int.fdiv T f=fT (x*w+z*y) (y*w)/\Int.fdiv y g*Int.fdiv w f=fB (x*w+z*y) (y*w):=by
 intro g T f;obtain⟨y1,w1,ey,ew,k1⟩:=zfb (a:=y) (b:=w) (by omega);have g1:=zd3 (a:=y) (b:=w) (by omega);have f1:0<f:=zd3 (by omega);obtain⟨T1,g2,eT,eg,k2⟩:=zfb (a:=T) (b:=g) (by omega);have gd:g=gI y w:=rfl;have Td:T=x*Int.fdiv w g+z*Int.fdiv y g:=rfl;have fdd:f=gI T g:=rfl;rw[<- fdd]at eT eg;rw[<- gd]at ey ew g1
 clear_value g T f
 subst ey ew;rw[fd (by omega),fd (by omega)]at Td;have y1p:=posR g1 hy;have w1p:=posR g1 hw;have cT1:gI T y1=1:=by
  rw[Td,Int.mul_comm z y1];exact zri (zg2 (zom (Int.dvd_mul_left g y1) c) (zej k1))
 have cT2:gI T w1=1:=by
  rw[Td,Int.add_comm,Int.mul_comm x w1];exact zri (zg2 (zom (Int.dvd_mul_left g w1) c') k1)
 have g2p:1<=g2:=posR f1 (by omega);have d1:T1 ∣ T:=⟨f,by rw[eT,Int.mul_comm]⟩;have e1:Int.fdiv T f=T1:=by rw[eT,fd (by omega)]
 have e2:Int.fdiv (g*w1) f=g2*w1:=by rw[eg,Int.mul_assoc,fd (by omega)]
 have e3:Int.fdiv (g*y1) g=y1:=fd (by omega);rw[e1,e2,e3];have b0:g*y1*(g*w1)≠0:=by
  intro q;rcases Int.mul_eq_zero.mp q with q | q <;> omega
 have:=zqg (t:=x*(g*w1)+z*(g*y1)) (p:=T1) (q:=y1*(g2*w1)) b0 (Int.mul_pos y1p (Int.mul_pos g2p w1p))
  (zgl (zmr d1 cT1) (zgl k2 (zmr d1 cT2))) (by
   have:x*w1+z*y1=f*T1:=by rw[<- Td];exact eT
   have q:x*(g*w1)+z*(g*y1)=g*(f*T1):=by rw[<- this];grind
   rw[q]
   conv=>lhs;rw[eg]
   conv=>rhs;rw[eg]
   grind)
 exact⟨this.1.symm,this.2.symm⟩
theorem ztp{a d:Int}(h:d ∣ a)(hd:d≠0):(Int.fdiv a d).natAbs<=a.natAbs:=by
 obtain⟨q,rfl⟩:=h;rw[fd hd,Int.natAbs_mul];exact Nat.le_mul_of_pos_left _ (by omega)
end K1
namespace K3
structure NoDiv(n d:Int):Prop where
 is:∀e:Int,2<=e->e<d->Int.fmod n e≠0
def Pr(n:Int):Prop:=2<=n/\∀e:Int,2<=e->e*e<=n->Int.fmod n e≠0
noncomputable def isP(n:Int):Bool := @decide (Pr n) (Classical.propDecidable _)
theorem ztw{n:Int}(h:Pr n):isP n=true := @Yo _ (Classical.propDecidable _) h
theorem zug{n:Int}(h:¬Pr n):isP n=false := @Yw _ (Classical.propDecidable _) h
theorem small{d n:Int}(_h2:2<=d)(h:d*d<=n)(hn:n<=9973):d<=99:=by
 rcases(by omega:d<=99\/100<=d) with e | e
 ·exact e
 ·have:=Int.mul_le_mul e e (by decide) (by omega);omega
theorem start(n:Int):(2:Int)<=2/\(2:Int)<=101/\NoDiv n 2:=⟨by decide,by decide,⟨λe h1 h2=>by omega⟩⟩
theorem turn{n d:Int}(h:NoDiv n d)(hm:¬Int.fmod n d=0)(h2:2<=d)(hq:d*d<=n)(hn:n<=9973):2<=d+1/\d+1<=101/\NoDiv n (d+1):=by
 have s:=small h2 hq hn;refine⟨by omega,by omega,⟨λe h1 h3=>?_⟩⟩;rcases(by omega:e<d\/e=d) with q | q
 ·exact h.is e h1 q
 ·rw[q];exact hm
theorem less{n d:Int}(h2:2<=d)(hq:d*d<=n)(hn:n<=9973):(200-(d+1)).toNat<(200-d).toNat:=by
 have s:=small h2 hq hn;omega
theorem low{n:Int}(h:n<2):false=isP n:=by
 exact(zug λh'=>by have:=h'.1;omega).symm
theorem out{n d:Int}(h:NoDiv n d)(hn:2<=n)(h2:2<=d)(hq:¬d*d<=n):true=isP n:=by
 refine(ztw ?_).symm;refine⟨hn,λe h1 h3=>h.is e h1 ?_⟩;rcases(by omega:e<d\/d<=e) with q | q
 ·exact q
 ·have:=Int.mul_le_mul q q (by omega) (by omega);omega
theorem found{n d:Int}(h2:2<=d)(hq:d*d<=n)(hm:Int.fmod n d=0):false=isP n:=by
 exact(zug λh'=>h'.2 d h2 hq hm).symm
end K3
namespace K2
theorem zwp{p l:Int}(hp:K3.Pr p)(h1:1<l)(h2:l<p):Int.fmod p l≠0:=by
 intro h0;rw[Int.fmod_eq_emod_of_nonneg p (by omega)]at h0;have hd:p=l*(p / l):=by have:=Int.mul_ediv_add_emod p l;omega
 have hq1:1<p / l:=by
  rcases(by omega:p / l<=1\/1<p / l) with q | q
  ·have:=Y3 q (by omega:0<=l);omega
  ·exact q
 rcases(by omega:l*l<=p\/p<l*l) with q | q
 ·refine hp.2 l (by omega) q ?_;rw[Int.fmod_eq_emod_of_nonneg p (by omega)];exact h0
 ·have hlt:p / l<l:=by
   rcases(by omega:p / l<l\/l<=p / l) with r | r
   ·exact r
   ·have:=Y3 r (by omega:0<=l);omega
  have hqq:(p / l)*(p / l)<=p:=by
   have h:=Int.mul_le_mul_of_nonneg_right (Int.le_of_lt hlt) (by omega:0<=p / l);omega
  refine hp.2 (p / l) (by omega) hqq ?_;rw[Int.fmod_eq_emod_of_nonneg p (by omega)];apply Int.emod_eq_zero_of_dvd;exact⟨l,by rw[Int.mul_comm];exact hd⟩
structure Tn(p a found left:Int):Prop where
 f0:0<=found
 f1:found<p
 l0:1<=left
 l1:left<p
 eq:(found*a-left)%p=0
theorem zjr{p a:Int}(hp:K3.Pr p)(h0:0<a)(h1:a<p):Tn p a 1 a:=
 ⟨by decide,by have:=hp.1;omega,by omega,h1,by rw[Int.one_mul,Int.sub_self];exact Int.zero_emod p⟩
theorem zm9{p a f l:Int}(hp:K3.Pr p)(h:Tn p a f l)(hl:l≠1) :
  Tn p a (Int.fmod (-f*Int.fdiv p l) p) (Int.fmod p l):=by
 have p2:=hp.1;have l0:=h.l0;have hne:=zwp hp (by omega:1<l) h.l1;have e0:=h.eq;have hpos:=Int.fmod_nonneg_of_pos p (show 0<l by omega);have hlt:=Int.fmod_lt_of_pos p (show 0<l by omega);refine⟨Int.fmod_nonneg_of_pos _ (by omega),Int.fmod_lt_of_pos _ (by omega),by omega,by have:=h.l1;omega,?_⟩;have q:=Int.mul_fdiv_add_fmod p l;generalize Int.fdiv p l=d at *;generalize Int.fmod p l=r at *;rw[Int.fmod_eq_emod_of_nonneg _ (by omega)];apply Int.emod_eq_zero_of_dvd;obtain⟨k,hk⟩:=Int.dvd_of_emod_eq_zero e0;have m:=Int.mul_ediv_add_emod (-f*d) p;generalize (-f*d) / p=g at *;generalize (-f*d)%p=v at *;have hv:v = -f*d-p*g:=by omega
 refine⟨-(g*a)-d*k-1,?_⟩;rw[hv];have h1:f*a=l+p*k:=by omega
 have e1:(-f*d-p*g)*a = -(d*(f*a))-p*(g*a):=by
  rw[Int.sub_mul];have : -f*d*a = -(d*(f*a)):=by
   rw[Int.neg_mul,Int.neg_mul,Int.mul_comm f d,Int.mul_assoc]
  rw[this,Int.mul_assoc]
 rw[e1,h1,Int.mul_add d l (p*k),Int.mul_comm d l];have e2:d*(p*k)=p*(d*k):=by rw[<- Int.mul_assoc,Int.mul_comm d p,Int.mul_assoc]
 rw[e2,Int.mul_sub,Int.mul_sub,Int.mul_one,Int.mul_neg];omega
theorem zn3{p a f l:Int}(h:Tn p a f l):(Int.fmod p l).toNat<l.toNat:=by
 have l0:=h.l0;have hpos:=Int.fmod_nonneg_of_pos p (show 0<l by omega);have hlt:=Int.fmod_lt_of_pos p (show 0<l by omega);omega
theorem zro{p a f l:Int}(h:Tn p a f l)(hl:l=1):0<=f/\f<p/\(f*a-1)%p=0:=by
 refine⟨h.f0,h.f1,?_⟩;have:=h.eq;rw[hl]at this;exact this
end K2
namespace K6
def zer(n:Nat):List Int:=List.replicate n 0
def Nn(t:List Int):Prop:=∀x∈t,0<=x
def only(n at_:Nat)(p:Int):List Int:=(List.range n).map λi=>if i=at_ then p else 0
end K6
namespace K6
open L2 PySem
theorem pimp{α : Type}{R S : α->V->Prop}(h:∀a v,R a v->S a v):∀{l:List α} {ys:List V},Paired R l ys->Paired S l ys
 | _,_,.nil=>.nil
 | _,_,.cons r t=>.cons (h _ _ r) (pimp h t)
theorem psnoc{α : Type}{R : α->V->Prop}{a : α}{v:V}(r:R a v):∀{l:List α} {ys:List V},Paired R l ys->Paired R (l++[a]) (ys++[v])
 | _,_,.nil=>.cons r .nil
 | _,_,.cons q t=>.cons q (psnoc r t)
end K6
namespace K6
open L2 PySem
def ky(xs:List Int):List Key:=xs.map Sum.inl
theorem zm1(xs:List Int):(ky xs).map kV=xs.map V.int:=by unfold ky;rw[Jh];rfl
structure NmD(d:PyData):Prop where
 lay:d.canLay0=true
 dep:d.depth<=60
theorem NmD.shaped{d:PyData}(h:NmD d):SeqAt.shaped d=true:=by
 have:=h.dep;unfold SeqAt.shaped;rw[h.lay,Bool.true_and,decide_eq_true_eq];omega
theorem zt4(i:Int):NmD (.int i):=⟨Z,by simp[PyData.depth]⟩
theorem zou(i j:Int):NmD (.tuple [.int i,.int j]):=⟨Z,by simp[PyData.depth,PyData.depthAll]⟩
mutual
theorem Rds.same{K:W.Frag}{H H':Hp}(e:Same H H'):∀{v:V} {d:PyData},Rds K H v d->Rds K H' v d
 | _,_,.non=>.non
 | _,_,.bl b=>.bl b
 | _,_,.int i=>.int i
 | _,_,.str x=>.str x
 | _,_,.tup h hs=>.tup (e.seqT h) (RdsAll.same e hs)
 | _,_,.lst h hs=>.lst (e.seq h) (RdsAll.same e hs)
theorem RdsAll.same{K:W.Frag}{H H':Hp}(e:Same H H'):∀{vs:List V} {ds:List PyData},RdsAll K H vs ds->RdsAll K H' vs ds
 | _,_,.nil=>.nil
 | _,_,.cons h hs=>.cons (Rds.same e h) (RdsAll.same e hs)
end
theorem zoo{K:W.Frag}{H:Hp}{d a:Addr}{kvs:List (List Key×V)}{o:HO}{xs:List V}(e:H d=some (.dT kvs))(h:SqT K H a xs):SqT K (upd H d o) a xs:=by
 rcases h with(h | ⟨q,h⟩) | h
 ·exact .inl (.inl (by rw[zar (zf2 h e (by intro z;cases z))];exact h))
 ·exact .inl (.inr ⟨q,by rw[zar (zf2 h e (by intro z;cases z))];exact h⟩)
 ·exact .inr h
theorem zp7{K:W.Frag}{H:Hp}{d a:Addr}{kvs:List (List Key×V)}{o:HO}{xs:List V}(e:H d=some (.dT kvs))(h:SqL K H a xs):SqL K (upd H d o) a xs:=by
 rcases h with(h | ⟨q,h⟩) | h
 ·exact .inl (.inl (by rw[zar (zf2 h e (by intro z;cases z))];exact h))
 ·exact .inl (.inr ⟨q,by rw[zar (zf2 h e (by intro z;cases z))];exact h⟩)
 ·exact .inr h
mutual
theorem Rds.updD{K:W.Frag}{H:Hp}{d:Addr}{kvs:List (List Key×V)}{o:HO}(e:H d=some (.dT kvs)):∀{v:V} {z:PyData},Rds K H v z->Rds K (upd H d o) v z
 | _,_,.non=>.non
 | _,_,.bl b=>.bl b
 | _,_,.int i=>.int i
 | _,_,.str x=>.str x
 | _,_,.tup h hs=>.tup (zoo e h) (RdsAll.updD e hs)
 | _,_,.lst h hs=>.lst (zp7 e h) (RdsAll.updD e hs)
theorem RdsAll.updD{K:W.Frag}{H:Hp}{d:Addr}{kvs:List (List Key×V)}{o:HO}(e:H d=some (.dT kvs)):∀{vs:List V} {ds:List PyData},RdsAll K H vs ds->RdsAll K (upd H d o) vs ds
 | _,_,.nil=>.nil
 | _,_,.cons h hs=>.cons (Rds.updD e h) (RdsAll.updD e hs)
end
theorem zp0{K:W.Frag}{H:Hp}{r:Addr}{i j:Int}(h:H r=some (.tup [.int i,.int j])):Rds K H (.ref r) (.tuple [.int i,.int j]):=.tup (SqT.of h) (.cons (.int i) (.cons (.int j) .nil))
end K6
namespace K8
open L2 PySem K1 K2 K3 K6
def zr(n T:Int):Prop:=if n=0 then T=0 else T%n=0
instance zrDec(n T:Int):Decidable (zr n T):=by unfold zr;exact inferInstance
theorem zr_0{T:Int}:zr 0 T↔T=0:=by simp[zr]
theorem zr_n{n T:Int}(h:n≠0):zr n T↔T%n=0:=by simp[zr,h]
theorem ziz{n:Int}(h:Pr n):n≠0:=by have:=h.1;omega
theorem zxk{x y T B:Int}(hy:1<=y)(c:gI x y=1)(hB:B≠0)(e:x*B=T*y):x.natAbs<=T.natAbs/\y.natAbs<=B.natAbs:=by
 refine⟨?_,?_⟩
 ·by_cases t:T=0
  ·subst t;rw[Int.zero_mul]at e;rcases Int.mul_eq_zero.mp e with q | q
   ·rw[q];simp
   ·exact absurd q hB
  ·have d:x ∣ y*T:=⟨B,by rw[Int.mul_comm,<- e]⟩;have:=Int.natAbs_dvd_natAbs.mpr (zet c d);exact Nat.le_of_dvd (by omega) this
 ·have d:y ∣ x*B:=⟨T,by rw[e,Int.mul_comm]⟩;have:=Int.natAbs_dvd_natAbs.mpr (zet (zej c) d);exact Nat.le_of_dvd (by omega) this
end K8
namespace K8
open L2 PySem K1 K2 K3 K6
theorem zm0{a b:List Int}(h:ky a=ky b):a=b:=by
 unfold ky at h;exact(List.map_inj_right (λx y e=>Sum.inl.inj e)).mp h
theorem zki{kvs:List (List Key×V)}{k:List Key}{v:V}:((putK kvs k v).map (·.1))=if (valV kvs k).isSome then kvs.map (·.1) else kvs.map (·.1)++[k]:=by
 unfold putK;rw[zdz]
 cases h:(valV kvs k).isSome with
 | true=>
  rw[Yl rfl,Yl rfl,Jh];refine List.map_congr_left λp _=>?_
  show (if p.1=k then(p.1,v) else p).1=p.1;split <;> rfl
 | false=>rw[Yh (by decide),Yh (by decide),List.map_append];rfl
theorem mem_of_valV{kvs:List (List Key×V)}{k:List Key}:(valV kvs k).isSome=true↔k∈kvs.map (·.1):=by
 rw[<- zdz,List.any_eq_true];constructor
 ·rintro⟨p,hp,e⟩;exact Ji.mpr ⟨p,hp,of_decide_eq_true e⟩
 ·intro h;obtain⟨p,hp,e⟩:=Ji.mp h;exact⟨p,hp,Yo e⟩
theorem zni(kvs:List (List Key×V))(k j:List Key):valV (zhv kvs k) j=if j=k then none else valV kvs j:=by
 unfold zhv;induction kvs with
 | nil=>rw[List.filter_nil,zp6];split <;> rfl
 | cons p r ih=>
  rw[List.filter_cons];by_cases e:p.1=k
  ·rw[Yh (by simp[e]),ih];by_cases q:j=k
   ·rw[Yl q,Yl q]
   ·rw[Yh q,Yh q,zbe (λz=>q (z.symm.trans e))]
  ·rw[Yl (by simp[e])];by_cases z:p.1=j
   ·rw[zbk z,zbk z,Yh (λq=>e (z.trans q))]
   ·rw[zbe z,zbe z,ih]
theorem zjv:∀{kvs:List (List Key×V)} (_:(kvs.map (·.1)).Nodup) {i:Nat} {k:List Key} {v:V},kvs[i]? = some (k,v)->valV kvs k=some v
 | [],_,i,k,v,h=>by simp at h
 | p::r,hn,0,k,v,h=>by
  simp at h;subst h;exact zbk rfl
 | p::r,hn,i+1,k,v,h=>by
  rw[List.getElem?_cons_succ]at h;rw[Yz,List.nodup_cons]at hn;have:¬p.1=k:=λe=>hn.1 (Ji.mpr ⟨(k,v),Yx h,e.symm⟩)
  rw[zbe this];exact zjv hn.2 h
theorem zem{α : Type}{l:List α}{i:Nat}{a : α}(h:l[i]? = some a):l.take (i+1)=l.take i++[a]:=by
 rw[List.take_add_one,h];rfl
theorem zs8{α : Type}{l:List α}(hn:l.Nodup){i:Nat}{a : α}(h:l[i]? = some a):a ∉ l.take i:=by
 intro hm;have e:l.take (i+1)=l.take i++[a]:=zem h;have n1:(l.take (i+1)).Nodup:=hn.sublist (List.take_sublist _ _);rw[e,List.nodup_append]at n1;exact n1.2.2 a hm a (by simp) rfl
theorem zhd{α β : Type}{f : α->β}:∀{l:List α},(l.map f).Nodup->l.Nodup
 | [],_=>List.nodup_nil
 | a::l,h=>by
  rw[Yz,List.nodup_cons]at h;exact List.nodup_cons.mpr ⟨λz=>h.1 (Ji.mpr ⟨a,z,Z⟩),zhd h.2⟩
theorem zwg{kvs:List (List Key×V)}{k:List Key}{v:V}(h:(kvs.map (·.1)).Nodup):((putK kvs k v).map (·.1)).Nodup:=by
 rw[zki]
 cases q:(valV kvs k).isSome with
 | true=>exact h
 | false=>
  rw[Yh (by decide),List.nodup_append];refine⟨h,by simp,λx hx y hy e=>?_⟩;rw[Yq]at hy;have:=mem_of_valV.mpr (show k∈kvs.map (·.1) by rw[<- hy,<- e];exact hx);rw[q]at this;cases this
end K8
namespace K37
open L2 PySem
structure T0(m:Nat)(t:List Int):Prop where
 len:t.length=m
 nn:∀i,0<=t.getD i 0
theorem zj6{a b:List Int}(hl:a.length=b.length)(h:∀i,i<a.length->a.getD i 0=b.getD i 0):a=b:=by
 refine List.ext_getElem hl λi h1 h2=>?_
 have:=h i h1;simpa[List.getD,h1,h2]using this
theorem T0.zero(m:Nat):T0 m (List.replicate m 0):=⟨List.length_replicate,λi=>by
 rcases Jg i m with c | c
 ·simp[List.getD,c]
 ·simp[List.getD,c]⟩
end K37
namespace G
open L2 PySem K1 K2 K3 K6 K8
section
variable{F:Type}[Lean.Grind.Field F]
def ic(k:Int):F:=(Lean.Grind.Ring.intCast (α:=F)).intCast k
theorem zjm(a b:Int):ic (F:=F) (a+b)=ic a+ic b:=Lean.Grind.Ring.intCast_add a b
theorem zby(a b:Int):ic (F:=F) (a*b)=ic a*ic b:=Lean.Grind.Ring.intCast_mul a b
theorem zqv(a b:Int):ic (F:=F) (a-b)=ic a-ic b:=Lean.Grind.Ring.intCast_sub a b
theorem zd7:ic (F:=F) 0=0:=Lean.Grind.Ring.intCast_zero
theorem zhg:ic (F:=F) 1=1:=Lean.Grind.Ring.intCast_one
end
theorem zvt(k:Int):ic (F:=Rat) k=0↔k=0:=by
 show ((k:Int):Rat)=0↔k=0;constructor
 ·intro h;exact Rat.intCast_inj.mp (by simpa using h)
 ·intro h;subst h;rfl
class Chr (n:Int) (F:Type) [Lean.Grind.Field F]:Prop where
 z:∀k:Int,ic (F:=F) k=0↔zr n k
def zset(p:Int):Setoid Int where
 r:=λa b=>∃k,a=b+p*k
 iseqv:=⟨λa=>⟨0,by simp⟩,fun{a b} ⟨k,h⟩=>⟨-k,by rw[h,Int.mul_neg];omega⟩,fun{a b c} ⟨k,h⟩ ⟨j,h'⟩=>⟨k+j,by rw[h,h',Int.mul_add];omega⟩⟩
def Zq(p:Int):Type:=Quotient (zset p)
namespace Zq
variable{p:Int}
def mk(a:Int):Zq p:=Quotient.mk (zset p) a
theorem snd{a b:Int}(h:∃k,a=b+p*k):(mk a:Zq p)=mk b:=Quotient.sound (s:=zset p) h
theorem exa{a b:Int}(h:(mk a:Zq p)=mk b):∃k,a=b+p*k:=Quotient.exact (s:=zset p) h
theorem ex(x:Zq p):∃a,x=mk a:=let ⟨a,h⟩:=Quotient.exists_rep (s:=zset p) x;⟨a,h.symm⟩
def add(x y:Zq p):Zq p:=Quotient.liftOn₂ x y (λa b=>mk (a+b)) λa b a' b' ⟨k,h⟩ ⟨j,h'⟩=>snd ⟨k+j,by rw[h,h',Int.mul_add];omega⟩
def mul(x y:Zq p):Zq p:=Quotient.liftOn₂ x y (λa b=>mk (a*b)) λa b a' b' ⟨k,h⟩ ⟨j,h'⟩=>snd ⟨a'*j+k*b'+p*k*j,by rw[h,h'];grind⟩
def neg(x:Zq p):Zq p:=Quotient.liftOn x (λa=>mk (-a)) λa b ⟨k,h⟩=>snd ⟨-k,by rw[h,Int.mul_neg];omega⟩
def pw(x:Zq p):Nat->Zq p
 | 0=>mk 1
 | k+1=>mul (pw x k) x
open Classical in
noncomputable def inv(x:Zq p):Zq p:=if h:∃y,mul x y=mk 1 then Classical.choose h else mk 0
noncomputable def zpw(x:Zq p):Int->Zq p
 | .ofNat k=>pw x k
 | .negSucc k=>inv (pw x (k+1))
instance:Add (Zq p):=⟨add⟩
instance:Mul (Zq p):=⟨mul⟩
instance:Neg (Zq p):=⟨neg⟩
instance:Sub (Zq p):=⟨λa b=>add a (neg b)⟩
noncomputable instance:Inv (Zq p):=⟨inv⟩
noncomputable instance:Div (Zq p):=⟨λa b=>mul a (inv b)⟩
theorem zrq(hp:Pr p):∀(k:Nat) {a f l:Int},l.toNat<=k->Tn p a f l->∃f,(f*a-1)%p=0
 | 0,a,f,l,h,t=>by have:=t.l0;omega
 | k+1,a,f,l,h,t=>by
  by_cases c:l=1
  ·exact⟨f,(zro t c).2.2⟩
  ·have:=zn3 t;exact zrq hp k (by omega) (zm9 hp t c)
theorem zvz(hp:Pr p){x:Zq p}(h:x≠mk 0):∃y,mul x y=mk 1:=by
 obtain⟨a,rfl⟩:=ex x;have p2:=hp.1;have e:(mk a:Zq p)=mk (a%p):=snd ⟨a / p,by have:=Int.mul_ediv_add_emod a p;omega⟩;have h0:0<=a%p:=Jl _ (by omega);have h1:a%p<p:=Jd _ (by omega);have hz:a%p≠0:=λz=>h (by rw[e,z])
 obtain⟨f,hf⟩:=zrq hp _ (Yi _) (zjr hp (by omega) h1);obtain⟨k,hk⟩:=Int.dvd_of_emod_eq_zero hf;refine⟨mk f,?_⟩;rw[e];exact snd ⟨k,by rw[Int.mul_comm];omega⟩
theorem zha(hp:Pr p){x:Zq p}(h:x≠mk 0):mul x (inv x)=mk 1:=by
 have q:=zvz hp h;unfold inv;rw[dif_pos q];exact Classical.choose_spec q
theorem zn5(x y:Zq p):mul x y=mul y x:=by
 obtain⟨a,rfl⟩:=ex x;obtain⟨b,rfl⟩:=ex y;exact Js mk (Int.mul_comm a b)
theorem zu1(x y z:Zq p):mul (mul x y) z=mul x (mul y z):=by
 obtain⟨a,rfl⟩:=ex x;obtain⟨b,rfl⟩:=ex y;obtain⟨c,rfl⟩:=ex z;exact Js mk (Int.mul_assoc a b c)
theorem zm6(x:Zq p):mul (mk 1) x=x:=by obtain⟨a,rfl⟩:=ex x;exact Js mk (Int.one_mul a)
theorem zj1(x:Zq p):mul (mk 0) x=mk 0:=by obtain⟨a,rfl⟩:=ex x;exact Js mk (Int.zero_mul a)
theorem zj0(hp:Pr p):(mk 0:Zq p)≠mk 1:=λh=>by
 obtain⟨k,e⟩:=exa h;have p2:=hp.1;have:p*k = -1:=by omega
 have d:p ∣ 1:=⟨-k,by rw[Int.mul_neg];omega⟩;have:=Int.le_of_dvd (by decide) d;omega
theorem zr6(hp:Pr p):inv (mk 0:Zq p)=mk 0:=by
 unfold inv;rw[dif_neg];rintro⟨y,h⟩;rw[zj1]at h;exact zj0 hp h
theorem zsy(hp:Pr p)(x:Zq p):inv (inv x)=x:=by
 by_cases h:x=mk 0
 ·rw[h,zr6 hp,zr6 hp]
 ·have h1:=zha hp h;have h2:inv x≠mk 0:=λz=>by rw[z,zn5,zj1]at h1;exact zj0 hp h1
  have h3:=zha hp h2
  calc inv (inv x)=mul (mk 1) (inv (inv x)):=(zm6 _).symm
   _=mul (mul x (inv x)) (inv (inv x)):=by rw[h1]
   _=mul x (mul (inv x) (inv (inv x))):=zu1 _ _ _
   _=mul x (mk 1):=by rw[h3]
   _=x:=by rw[zn5,zm6]
theorem zy4(hp:Pr p):inv (mk 1:Zq p)=mk 1:=by
 have h1:=zha hp (x:=mk 1) (zj0 hp).symm;rwa [zm6]at h1
noncomputable def fld(hp:Pr p):Lean.Grind.Field (Zq p) where
 natCast:=⟨λn=>mk n⟩
 ofNat:=λn=>⟨mk n⟩
 nsmul:=⟨λn x=>mul (mk n) x⟩
 npow:=⟨pw⟩
 intCast:=⟨λn=>mk n⟩
 zsmul:=⟨λn x=>mul (mk n) x⟩
 zpow:=⟨zpw⟩
 add_zero:=λx=>by obtain⟨a,rfl⟩:=ex x;exact Js mk (Int.add_zero a)
 add_comm:=λx y=>by obtain⟨a,rfl⟩:=ex x;obtain⟨b,rfl⟩:=ex y;exact Js mk (Int.add_comm a b)
 add_assoc:=λx y z=>by obtain⟨a,rfl⟩:=ex x;obtain⟨b,rfl⟩:=ex y;obtain⟨c,rfl⟩:=ex z;exact Js mk (Int.add_assoc a b c)
 mul_assoc:=zu1
 mul_comm:=zn5
 mul_one:=λx=>(zn5 x (mk 1)).trans (zm6 x)
 one_mul:=zm6
 right_distrib:=λx y z=>by obtain⟨a,rfl⟩:=ex x;obtain⟨b,rfl⟩:=ex y;obtain⟨c,rfl⟩:=ex z;exact Js mk (Int.add_mul a b c)
 left_distrib:=λx y z=>by obtain⟨a,rfl⟩:=ex x;obtain⟨b,rfl⟩:=ex y;obtain⟨c,rfl⟩:=ex z;exact Js mk (Int.mul_add a b c)
 zero_mul:=zj1
 mul_zero:=λx=>(zn5 _ _).trans (zj1 x)
 pow_zero:=λx=>rfl
 pow_succ:=λx n=>rfl
 ofNat_succ:=λn=>rfl
 ofNat_eq_natCast:=λn=>rfl
 nsmul_eq_natCast_mul:=λn x=>rfl
 neg_add_cancel:=λx=>by obtain⟨a,rfl⟩:=ex x;exact Js mk (Int.add_left_neg a)
 sub_eq_add_neg:=λx y=>rfl
 neg_zsmul:=λi x=>by obtain⟨a,rfl⟩:=ex x;exact Js mk (Int.neg_mul i a)
 zsmul_natCast_eq_nsmul:=λn x=>rfl
 intCast_ofNat:=λn=>rfl
 intCast_neg:=λn=>rfl
 div_eq_mul_inv:=λx y=>rfl
 zero_ne_one:=zj0 hp
 inv_zero:=zr6 hp
 mul_inv_cancel:=fun{x} h=>zha hp h
 zpow_zero:=λx=>rfl
 zpow_succ:=λx n=>rfl
 zpow_neg:=λx n=>by
  cases n with
  | ofNat k=>
   cases k with
   | zero=>exact(zy4 hp).symm
   | succ k=>rfl
  | negSucc k=>exact(zsy hp _).symm
end Zq
theorem zw3(n:Int)(hn:n=0\/Pr n):∃(F:Type) (_:Lean.Grind.Field F),Chr n F:=by
 by_cases c:n=0
 ·subst c;exact⟨Rat,inferInstance,⟨λk=>by rw[zr_0];exact zvt k⟩⟩
 ·have hp:Pr n:=hn.resolve_left c;refine⟨Zq n,Zq.fld hp,@Chr.mk n (Zq n) (Zq.fld hp) λk=>?_⟩;rw[zr_n c];show (Zq.mk k:Zq n)=Zq.mk 0↔_;constructor
  ·intro h;obtain⟨j,e⟩:=Zq.exa h;rw[e];simp
  ·intro h;obtain⟨j,e⟩:=Int.dvd_of_emod_eq_zero h;exact Zq.snd ⟨j,by rw[e];simp⟩
end G
namespace G
open L2 PySem K1 K2 K3 K6 K8 K37
def addT(a b:List Int):List Int:=List.zipWith (· + ·) a b
def subT(a b:List Int):List Int:=List.zipWith (· - ·) a b
theorem zd2{a b:List Int}(h:a.length=b.length):(addT a b).length=a.length:=by simp[addT,h]
theorem zgw{a b:List Int}(h:a.length=b.length):(subT a b).length=a.length:=by simp[subT,h]
theorem ziq{a b:List Int}(h:a.length=b.length)(i:Nat):(addT a b).getD i 0=a.getD i 0+b.getD i 0:=by
 rcases Jg i a.length with c | c
 ·have c2:i<b.length:=by omega
  simp[addT,List.getD,List.getElem?_zipWith,c,c2]
 ·have c2:b.length<=i:=by omega
  simp[addT,List.getD,List.getElem?_zipWith,List.getElem?_eq_none c,List.getElem?_eq_none c2]
theorem znv{a b:List Int}(h:a.length=b.length)(i:Nat):(subT a b).getD i 0=a.getD i 0-b.getD i 0:=by
 rcases Jg i a.length with c | c
 ·have c2:i<b.length:=by omega
  simp[subT,List.getD,List.getElem?_zipWith,c,c2]
 ·have c2:b.length<=i:=by omega
  simp[subT,List.getD,List.getElem?_zipWith,List.getElem?_eq_none c,List.getElem?_eq_none c2]
theorem zi9{a b:List Int}(h:a.length=b.length):addT b (subT a b)=a:=zj6 (by rw[zd2 (by rw[zgw h];omega),h]) λi _=>by rw[ziq (by rw[zgw h];omega),znv h];omega
theorem zs4{a b:List Int}(h:a.length=b.length):subT (addT b a) b=a:=zj6 (by rw[zgw (by rw[zd2 h.symm]),zd2 h.symm,h]) λi _=>by rw[znv (by rw[zd2 h.symm]),ziq h.symm];omega
theorem T0.add{m:Nat}{a b:List Int}(ha:T0 m a)(hb:T0 m b):T0 m (addT a b):=⟨by rw[zd2 (by rw[ha.len,hb.len]),ha.len],λi=>by rw[ziq (by rw[ha.len,hb.len])];have:=ha.nn i;have:=hb.nn i;omega⟩
theorem T0.zer(m:Nat):T0 m (zer m):=T0.zero m
end G
namespace G
open L2 PySem K1 K2 K3 K6 K8 K37
section
variable{F:Type}[Lean.Grind.Field F]
def sm{α : Type}(φ : α->F):List α->F
 | []=>0
 | a::l=>φ a+sm φ l
variable{α β : Type}
theorem zqr(φ : α->F):∀l l':List α,sm φ (l++l')=sm φ l+sm φ l'
 | [],l'=>by show sm φ l'=0+sm φ l';grind
 | a::l,l'=>by show φ a+sm φ (l++l') = φ a+sm φ l+sm φ l';rw[zqr φ l l'];grind
theorem zsr(φ : α->F)(l:List α)(a : α):sm φ (l++[a])=sm φ l + φ a:=by rw[zqr];show _+(φ a+0)=_;grind
abbrev Po(F:Type):=List Int->F
variable{m:Nat}
def sh(l:List Int)(φ : Po F):Po F:=λt=>if t.length=l.length then φ (subT t l) else 0
theorem zyl{l u:List Int}{φ : Po F}(h:u.length=l.length):sh l φ (addT l u) = φ u:=by unfold sh;rw[Yl (zd2 h.symm),zs4 h]
theorem zu9{l t:List Int}{φ : Po F}(h:t.length=l.length):sh l φ t = φ (subT t l):=by unfold sh;rw[Yl h]
def mul(S:List (List Int))(φ ψ : Po F):Po F:=λt=>sm (λo=>φ o*sh o ψ t) S
end
end G
namespace G
open L2 PySem K1 K2 K3 K6 K8 K37
section
variable{F:Type}[Lean.Grind.Field F]{n:Int}
theorem zuo[Chr n F]{k:Int}(h:¬zr n k):ic (F:=F) k≠0:=λz=>h ((Chr.z k).mp z)
theorem zkg[Chr n F]{a b:Int}:ic (F:=F) a=ic b↔zr n (a-b):=by
 rw[<- Chr.z (F:=F),zqv];exact⟨λh=>by rw[h];grind,λh=>by grind⟩
theorem zh2[Chr n F](k:Int):ic (F:=F) (k%n)=ic k:=by
 rw[zkg (n:=n)];by_cases c:n=0
 ·subst c;rw[zr_0];simp
 ·rw[zr_n c];have:=Int.mul_ediv_add_emod k n;have e:k%n-k=n*(-(k / n)):=by rw[Int.mul_neg];omega
  rw[e];simp
def Rep(n:Int)(H:Hp)(v:V)(x:F):Prop:=
 if n=0 then ∃(r:Addr) (p q:Int),v=.ref r/\H r=some (.tup [.int p,.int q])/\1<=q/\gI p q=1/\x*ic q=ic p
 else ∃a:Int,v=.int a/\0<=a/\a<n/\x=ic a
theorem rep_0{H:Hp}{v:V}{x:F}:Rep 0 H v x↔∃(r:Addr) (p q:Int),v=.ref r/\H r=some (.tup [.int p,.int q])/\1<=q/\gI p q=1/\x*ic q=ic p:=by unfold Rep;rw[Yl rfl]
theorem zfw(h:n≠0){H:Hp}{v:V}{x:F}:Rep n H v x↔∃a:Int,v=.int a/\0<=a/\a<n/\x=ic a:=by unfold Rep;rw[Yh h]
theorem Rep.keep{H H':Hp}{v:V}{x:F}(k:∀b xs,H b=some (.tup xs)->H' b=some (.tup xs))(h:Rep n H v x):Rep n H' v x:=by
 by_cases z:n=0
 ·subst z;obtain⟨r,p,q,e,hr,w⟩:=rep_0.mp h;exact rep_0.mpr ⟨r,p,q,e,k _ _ hr,w⟩
 ·exact(zfw z).mpr ((zfw z).mp h)
theorem Rep.same{H H':Hp}{v:V}{x:F}(e:Same H H')(h:Rep n H v x):Rep n H' v x:=h.keep λ_ _=>e _ _
def RD(n:Int)(x:F)(d:PyData):Prop:=
 if n=0 then ∃(p q:Int),d=.tuple [.int p,.int q]/\1<=q/\gI p q=1/\x*ic q=ic p
 else ∃a:Int,d=.int a/\0<=a/\a<n/\x=ic a
theorem rd_0{d:PyData}{x:F}:RD 0 x d↔∃(p q:Int),d=.tuple [.int p,.int q]/\1<=q/\gI p q=1/\x*ic q=ic p:=by unfold RD;rw[Yl rfl]
theorem rd_n(h:n≠0){d:PyData}{x:F}:RD n x d↔∃a:Int,d=.int a/\0<=a/\a<n/\x=ic a:=by unfold RD;rw[Yh h]
theorem Rep.rd{K:W.Frag}{H:Hp}{v:V}{x:F}(h:Rep n H v x):∃d,Rds K H v d/\NmD d/\RD n x d:=by
 by_cases z:n=0
 ·subst z;obtain⟨r,p,q,rfl,hr,w⟩:=rep_0.mp h;exact⟨_,zp0 hr,zou p q,rd_0.mpr ⟨p,q,Z,w⟩⟩
 ·obtain⟨a,rfl,w⟩:=(zfw z).mp h;exact⟨_,.int a,zt4 a,(rd_n z).mpr ⟨a,Z,w⟩⟩
theorem RD.eq[Chr n F]{x y:F}{d e:PyData}(h:RD n x d)(h':RD n y e):PyData.eqv d e=true↔x=y:=by
 by_cases z:n=0
 ·subst z;obtain⟨p,q,rfl,q1,c,w⟩:=rd_0.mp h;obtain⟨p',q',rfl,q1',c',w'⟩:=rd_0.mp h';have ee:PyData.eqv (.tuple [.int p,.int q]) (.tuple [.int p',.int q'])=decide ([p,q]=[p',q']):=by rw[PyData.eqv];exact zj4 [p,q] [p',q']
  have nz:ic (F:=F) q≠0:=zuo (n:=0) (by rw[zr_0];omega);have nz':ic (F:=F) q'≠0:=zuo (n:=0) (by rw[zr_0];omega);rw[ee,decide_eq_true_iff];constructor
  ·intro g;simp at g;obtain⟨rfl,rfl⟩:=g;grind
  ·rintro rfl;have k:ic (F:=F) (p*q')=ic (p'*q):=by rw[zby,zby,<- w,<- w'];grind
   rw[zkg (n:=0),zr_0]at k;obtain⟨e1,e2⟩:=zm5 q1 q1' c c' (by omega);rw[e1,e2]
 ·obtain⟨a,rfl,a0,a1,w⟩:=(rd_n z).mp h;obtain⟨b,rfl,b0,b1,w'⟩:=(rd_n z).mp h';have ee:PyData.eqv (.int a) (.int b)=decide (a=b):=by simp[PyData.eqv,Bool.beq_eq_decide_eq]
  rw[ee,decide_eq_true_iff];constructor
  ·rintro rfl;rw[w,w']
  ·rintro rfl;have k:ic (F:=F) a=ic b:=by rw[<- w,<- w']
   rw[zkg (n:=n),zr_n z]at k;obtain⟨j,hj⟩:=Int.dvd_of_emod_eq_zero k;have:j=0:=by
    rcases(by omega:j=0\/1<=j\/j<=-1) with q | q | q
    ·exact q
    ·have:=Y3 q (show 0<=n by omega);omega
    ·have:=Y3 q (show 0<=n by omega);omega
   subst this;omega
def un(k:List Key):List Int:=k.map λx=>match x with | .inl i=>i | .inr _=>0
theorem zsf:∀xs:List Int,un (ky xs)=xs
 | []=>rfl
 | x::xs=>by show x::un (ky xs)=_;rw[zsf xs]
def tms(kvs:List (List Key×V)):List (List Int):=kvs.map λp=>un p.1
structure PF(n:Int)(m:Nat)(H:Hp)(kvs:List (List Key×V))(φ : Po F):Prop where
 ks:∀p∈kvs,∃t,p.1=ky t/\T0 m t
 nd:(kvs.map (·.1)).Nodup
 out:∀t,valV kvs (ky t)=none->φ t=0
 val:∀t v,valV kvs (ky t)=some v->Rep n H v (φ t)/\φ t≠0
def setP(φ : Po F)(k:List Int)(x:F):Po F:=λt=>if t=k then x else φ t
theorem zhr{φ : Po F}{k:List Int}{x:F}:setP φ k x k=x:=Yl rfl
theorem zd6{φ : Po F}{k t:List Int}{x:F}(h:t≠k):setP φ k x t = φ t:=Yh h
variable{m:Nat}{H H':Hp}{kvs:List (List Key×V)}{φ ψ : Po F}
theorem PF.keep(k:∀b xs,H b=some (.tup xs)->H' b=some (.tup xs))(h:PF n m H kvs φ):PF n m H' kvs φ:=⟨h.ks,h.nd,h.out,λt v e=>⟨(h.val t v e).1.keep k,(h.val t v e).2⟩⟩
theorem PF.same(e:Same H H')(h:PF n m H kvs φ):PF n m H' kvs φ:=h.keep λ_ _=>e _ _
theorem PF.congr(h:PF n m H kvs φ)(e:∀t,φ t = ψ t):PF n m H kvs ψ:=by rw[<- show φ = ψ from funext e];exact h
theorem PF.nil:PF n m H [] (λ_=>(0:F)):=⟨(λp hp=>by cases hp),List.nodup_nil,λ_ _=>Z,λt v e=>by simp[valV]at e⟩
theorem PF.mem(h:PF n m H kvs φ){t:List Int} : φ t≠0↔ky t∈kvs.map (·.1):=by
 rw[<- mem_of_valV]
 cases q:valV kvs (ky t) with
 | none=>simp;exact h.out t q
 | some v=>simp;exact(h.val t v q).2
theorem PF.keys(h:PF n m H kvs φ):kvs.map (·.1)=(tms kvs).map ky:=by
 unfold tms;rw[Jh];refine List.map_congr_left λp hp=>?_
 obtain⟨t,e,_⟩:=h.ks p hp;show p.1=ky (un p.1);rw[e,zsf]
theorem PF.tmem(h:PF n m H kvs φ){t:List Int}:t∈tms kvs↔φ t≠0:=by
 rw[h.mem,h.keys,Ji];constructor
 ·intro ht;exact⟨t,ht,Z⟩
 ·rintro⟨u,hu,e⟩;rw[<- zm0 e];exact hu
theorem PF.tnd(h:PF n m H kvs φ):(tms kvs).Nodup:=zhd (f:=ky) (by rw[<- h.keys];exact h.nd)
theorem PF.ix(h:PF n m H kvs φ){i:Nat}{k:List Key}{v:V}(hk:kvs[i]? = some (k,v)):∃t,k=ky t/\T0 m t/\(tms kvs)[i]? = some t/\Rep n H v (φ t)/\φ t≠0:=by
 obtain⟨t,e,t0⟩:=h.ks _ (Yx hk);have e:k=ky t:=e;have hv:=zjv h.nd hk;rw[e]at hv;refine⟨t,e,t0,?_,h.val t v hv⟩;unfold tms;rw[Ym,hk];show some (un k)=_;rw[e,zsf]
theorem PF.put(h:PF n m H kvs φ){k:List Int}{v:V}{x:F}(hk:T0 m k)(hv:Rep n H v x)(hx:x≠0):PF n m H (putK kvs (ky k) v) (setP φ k x):=by
 have vp:∀t,valV (putK kvs (ky k) v) (ky t)=if t=k then some v else valV kvs (ky t):=λt=>by
  rw[zod];by_cases c:t=k
  ·rw[Yl c,Yl (by rw[c])]
  ·rw[Yh c,Yh λz=>c (zm0 z)]
 refine⟨λp hp=>?_,zwg h.nd,λt e=>?_,λt w e=>?_⟩
 ·have:p.1∈(putK kvs (ky k) v).map (·.1):=Ji.mpr ⟨p,hp,Z⟩;rw[zki]at this;have:p.1∈kvs.map (·.1)\/p.1=ky k:=by
   split at this
   ·exact .inl this
   ·rcases Jr.mp this with q | q
    ·exact .inl q
    ·exact .inr (Yq.mp q)
  rcases this with q | q
  ·obtain⟨p',hp',e⟩:=Ji.mp q;obtain⟨t,e',t0⟩:=h.ks p' hp';exact⟨t,by rw[<- e,e'],t0⟩
  ·exact⟨k,q,hk⟩
 ·rw[vp]at e;by_cases c:t=k
  ·rw[Yl c]at e;cases e
  ·rw[Yh c]at e;rw[zd6 c];exact h.out t e
 ·rw[vp]at e;by_cases c:t=k
  ·rw[Yl c]at e;cases e;rw[c,zhr];exact⟨hv,hx⟩
  ·rw[Yh c]at e;rw[zd6 c];exact h.val t w e
theorem PF.drop(h:PF n m H kvs φ)(k:List Int):PF n m H (zhv kvs (ky k)) (setP φ k 0):=by
 have vp:∀t,valV (zhv kvs (ky k)) (ky t)=if t=k then none else valV kvs (ky t):=λt=>by
  rw[zni];by_cases c:t=k
  ·rw[Yl c,Yl (by rw[c])]
  ·rw[Yh c,Yh λz=>c (zm0 z)]
 refine⟨λp hp=>h.ks p (List.mem_filter.mp hp).1,(List.Sublist.map _ List.filter_sublist).nodup h.nd,λt e=>?_,λt w e=>?_⟩
 ·by_cases c:t=k
  ·rw[c,zhr]
  ·rw[vp,Yh c]at e;rw[zd6 c];exact h.out t e
 ·rw[vp]at e;by_cases c:t=k
  ·rw[Yl c]at e;cases e
  ·rw[Yh c]at e;rw[zd6 c];exact h.val t w e
end
end G
namespace G
open L2 PySem K1 K2 K3 K6 K8 K37
section
variable{F:Type}[Lean.Grind.Field F]{n:Int}
def Lim(n:Int)(k:Nat)(x:F):Prop:=n=0->∃T B:Int,B≠0/\x*ic B=ic T/\T.natAbs<2^k/\B.natAbs<2^k
theorem zqi[Chr 0 F]{k:Int}(h:k≠0):ic (F:=F) k≠0:=zuo (n:=0) (by rw[zr_0];exact h)
theorem zr4[Chr 0 F]{a b:Int}(h:ic (F:=F) a=ic b):a=b:=by
 rw[zkg (n:=0),zr_0]at h;omega
theorem zna[Chr 0 F]{x:F}{p q T B:Int}(h:x*ic q=ic p)(h':x*ic B=ic T):p*B=T*q:=
 zr4 (F:=F) (by rw[zby,zby,<- h,<- h'];grind)
theorem zth[Chr 0 F]{k:Nat}{H:Hp}{v:V}{x:F}(h:Rep 0 H v x)(l:Lim 0 k x):∃(r:Addr) (p q:Int),v=.ref r/\H r=some (.tup [.int p,.int q])/\1<=q/\gI p q=1/\x*ic q=ic p/\p.natAbs<2^k/\q.natAbs<2^k:=by
 obtain⟨r,p,q,rfl,hr,q1,c,e⟩:=rep_0.mp h;obtain⟨T,B,b0,e',h1,h2⟩:=l rfl;obtain⟨a1,a2⟩:=zxk q1 c b0 (zna e e');exact⟨r,p,q,Z,hr,q1,c,e,Yp a1 h1,Yp a2 h2⟩
theorem zgq[Chr 0 F]{H:Hp}{r:Addr}{x:F}{t b:Int}(hb:b≠0)(hr:H r=some (.tup [.int (fT t b),.int (fB t b)]))(e:x*ic b=ic t):Rep 0 H (.ref r) x:=by
 refine rep_0.mpr ⟨r,_,_,Z,hr,zqj hb,zve hb,?_⟩;have c:=zmv (t:=t) hb;have c2:ic (F:=F) (fT t b)*ic b=ic t*ic (fB t b):=by rw[<- zby,<- zby,c]
 have nz:ic (F:=F) b≠0:=zqi hb;rw[<- e]at c2;grind
end
end G
namespace G
open L2 PySem K1 K2 K3 K6 K8 K37
def Kp(A:List Addr)(H H':Hp):Prop:=∀b o,H b=some o->b ∉ A->H' b=some o
theorem Kp.of{A:List Addr}{H H':Hp}(e:Same H H'):Kp A H H':=λb o h _=>e b o h
theorem Kp.tr{A:List Addr}{H H1 H2:Hp}(h:Kp A H H1)(h':Kp A H1 H2):Kp A H H2:=λb o q nb=>h' b o (h b o q nb) nb
theorem Kp.upd{A:List Addr}{H:Hp}{a:Addr}{o:HO}(h:a∈A):Kp A H (upd H a o):=λb u q nb=>(zar (λe=>nb (by rw[e];exact h))).trans q
theorem Kp.refl(A:List Addr)(H:Hp):Kp A H H:=λ_ _ h _=>h
def Fix(H H':Hp):Prop:=∀b o,H b=some o->(∀kv,o≠.dT kv)->(∀ys,o≠.lst ys)->(∀q u,o≠.frz q u)->H' b=some o
theorem Fix.of{H H':Hp}(e:Same H H'):Fix H H':=λb o h _ _ _=>e b o h
theorem Fix.tr{H H1 H2:Hp}(h:Fix H H1)(h':Fix H1 H2):Fix H H2:=λb o q a c d=>h' b o (h b o q a c d) a c d
theorem Fix.tup{H H':Hp}(h:Fix H H'):∀b xs,H b=some (.tup xs)->H' b=some (.tup xs):=λb xs q=>h b _ q (λ_ z=>by cases z) (λ_ z=>by cases z) (λ_ _ z=>by cases z)
theorem Fix.ins{H H':Hp}(h:Fix H H'){b C dx:Addr}{fs:List (Str×V)}(q:H b=some (.ins C dx fs)):H' b=some (.ins C dx fs):=h b _ q (λ_ z=>by cases z) (λ_ z=>by cases z) (λ_ _ z=>by cases z)
theorem Kp.fix{A:List Addr}{H H':Hp}(h:Kp A H H')(hA:∀a∈A,∀o,H a=some o->(∃kv,o=.dT kv)\/(∃ys,o=.lst ys)\/∃q u,o=.frz q u):Fix H H':=λb o q a c d=>h b o q λz=>by
 rcases hA b z o q with⟨_,e⟩ | ⟨_,e⟩ | ⟨_,_,e⟩
 ·exact a _ e
 ·exact c _ e
 ·exact d _ _ e
theorem zfc{H:Hp}{d:Addr}{kv:List (List Key×V)}{o:HO}(hd:H d=some (.dT kv)):Fix H (upd H d o):=λb u q a _ _=>(zar λe=>by subst e;rw[hd]at q;injection q with q;exact a _ q.symm).trans q
theorem zg8{H:Hp}{d:Addr}{q:HO}{u:HO}{o:HO}(hd:H d=some q)(hq:(∃kv,q=.dT kv)\/(∃ys,q=.lst ys)\/∃x y,q=.frz x y):Fix H (upd H d o):=λb u h a c e=>(zar λz=>by
 subst z;rw[hd]at h;injection h with h;subst h
 rcases hq with⟨_,r⟩ | ⟨_,r⟩ | ⟨_,_,r⟩
 ·exact a _ r
 ·exact c _ r
 ·exact e _ _ r).trans h
section
variable{F:Type}[Lean.Grind.Field F]{n:Int}{m:Nat}{H H':Hp}
theorem Rep.fix{v:V}{x:F}(e:Fix H H')(h:Rep n H v x):Rep n H' v x:=h.keep e.tup
theorem PF.fix{kvs:List (List Key×V)}{φ : Po F}(e:Fix H H')(h:PF n m H kvs φ):PF n m H' kvs φ:=h.keep e.tup
theorem zjb[Chr n F]{K:W.Frag}{v u:V}{x y:F}(hx:Rep n H v x)(hy:Rep n H u y):∃d e,Rds K H v d/\Rds K H u e/\SeqAt.shaped d=true/\SeqAt.shaped e=true/\((x=y/\PyData.eqv d e=true)\/(x≠y/\PyData.eqv d e=false)):=by
 obtain⟨d,rd,nd,r⟩:=hx.rd (K:=K);obtain⟨e,re,ne,r'⟩:=hy.rd (K:=K);refine⟨d,e,rd,re,nd.shaped,ne.shaped,?_⟩
 cases q:PyData.eqv d e with
 | true=>exact .inl ⟨(RD.eq r r').mp q,rfl⟩
 | false=>exact .inr ⟨(λz=>by rw[(RD.eq r r').mpr z]at q;cases q),rfl⟩
def cutP(ψ : Po F)(S:List (List Int)):Po F:=λt=>if t∈S then ψ t else 0
theorem zjl{ψ : Po F}:cutP ψ []=λ_=>0:=funext λt=>by unfold cutP;rw[Yh (by simp)]
theorem zjn{ψ : Po F}{S:List (List Int)}(h:∀t,ψ t≠0->t∈S):cutP ψ S = ψ:=funext λt=>by
 unfold cutP;by_cases c:t∈S
 ·rw[Yl c]
 ·rw[Yh c];exact(Classical.byContradiction λz=>c (h t λq=>z q.symm))
theorem zn9{ψ : Po F}{S:List (List Int)}{t:List Int}(h:t∈S):cutP ψ S t = ψ t:=Yl h
theorem zo3{ψ : Po F}{S:List (List Int)}{t:List Int}(h:t ∉ S):cutP ψ S t=0:=Yh h
theorem zh5{ψ : Po F}{S:List (List Int)}{t u:List Int}(h:t≠u):cutP ψ (S++[u]) t=cutP ψ S t:=by
 unfold cutP;by_cases c:t∈S
 ·rw[Yl c,Yl (by simp[c])]
 ·rw[Yh c,Yh (by simp[c,h])]
theorem zkl{φ ψ : Po F}{S:List (List Int)}{u:List Int}:setP (λt=>φ t+cutP ψ S t) u (φ u + ψ u)=λt=>φ t+cutP ψ (S++[u]) t:=funext λt=>by
 by_cases c:t=u
 ·subst c;rw[zhr,zn9 (by simp)]
 ·rw[zd6 c,zh5 c]
theorem znk{x:F}{l:List Int}{ψ : Po F}{S:List (List Int)}{u:List Int}(hu:u.length=l.length):setP (λt=>x*sh l (cutP ψ S) t) (addT l u) (x * ψ u)=λt=>x*sh l (cutP ψ (S++[u])) t:=funext λt=>by
 by_cases c:t=addT l u
 ·subst c;rw[zhr,zyl hu,zn9 (by simp)]
 ·rw[zd6 c];by_cases d:t.length=l.length
  ·rw[zu9 d,zu9 d,zh5 λe=>c (by rw[<- e];exact(zi9 d).symm)]
  ·unfold sh;rw[Yh d,Yh d]
theorem zv6{ts:List (List Int)}{i:Nat}{t:List Int}(h:ts.Nodup)(hi:ts[i]? = some t):t ∉ ts.take i:=zs8 h hi
theorem zjd(kvs:List (List Key×V)):(tms kvs).length=kvs.length:=Yd _
end
end G
namespace G
open L2 PySem K1 K2 K3 K6 K8 K37
section
variable{F:Type}[Lean.Grind.Field F]{n:Int}{rk:List Int->List Int}{m:Nat}
theorem zpc(S:List (List Int))(o:List Int)(φ ψ : Po F):mul (S++[o]) φ ψ = λt=>mul S φ ψ t + φ o*sh o ψ t:=funext λt=>zsr _ S o
end
end G
namespace G
open L2 PySem K1 K2 K3 K6 K8 K37
section
variable{F:Type}[Lean.Grind.Field F]{n:Int}
theorem zur[Chr 0 F]{t b:Int}(hb:b≠0):∃x:F,x*ic b=ic t:=by
 have nz:ic (F:=F) b≠0:=zqi hb;exact⟨ic t*(ic b)⁻¹,by grind⟩
end
end G
namespace K15
def isD(c:Nat):Bool:=decide (48<=c)&&decide (c<=57)
inductive Sq where
 | zS | zT | zBn | zL | zPn | zA
 | zD (k:Nat)
 | zB (k:Nat)
 | zP (k:Nat)
open Sq
def NmO(nm:List Nat):Prop:=∀c∈nm,isD c=false/\c≠40/\c≠41/\c≠42/\c≠43/\c≠45/\c≠47/\c≠64/\c≠94/\c≠32
def isO(c:Nat):Bool:=c == 42||c == 43||c == 45
def op(c:Nat):Option Sq:=if isO c then some zT else none
def fs(nm:List Nat)(t:Bool)(c:Nat):Option Sq:=if isD c then some (zD 1) else if nm.contains c then some zL else if t&&c == 64 then some zA else none
def step(nm:List Nat)(t:Bool):Sq->Nat->Option Sq
 | zS,c=>if c == 45 then some zT else fs nm t c
 | zT,c=>fs nm t c
 | zD k,c=>if isD c then(if k<30 then some (zD (k+1)) else none) else if c == 47 then some zBn else op c
 | zBn,c=>if isD c then some (zB 1) else none
 | zB k,c=>if isD c then(if k<30 then some (zB (k+1)) else none) else op c
 | zL,c=>if c == 94 then some zPn else op c
 | zPn,c=>if isD c then some (zP 1) else none
 | zP k,c=>if isD c then(if k<2 then some (zP (k+1)) else none) else op c
 | zA,c=>op c
def fin:Sq->Bool
 | zS | zT | zBn | zPn=>false
 | _=>true
def due:Sq->Bool
 | zS | zT=>true
 | _=>false
def acc(nm:List Nat)(t:Bool)(ok:Nat->Bool):Sq->Nat->List Nat->Bool
 | q,e,[]=>fin q&&e == 0
 | q,e,c::r=>
  if c == 40 then due q&&ok (e+1)&&acc nm t ok zS (e+1) r
  else if c == 41 then fin q&&decide (0<e)&&acc nm t ok zA (e-1) r
  else match step nm t q c with
   | none=>false
   | some q'=>acc nm t ok q' e r
def fl(nm:List Nat)(t:Bool):Sq->List Nat->Bool
 | q,[]=>fin q
 | q,c::r=>match step nm t q c with
  | none=>false
  | some q'=>fl nm t q' r
section
variable{nm:List Nat}{t:Bool}{ok:Nat->Bool}
theorem fl_c{q:Sq}{c:Nat}{r:List Nat}:fl nm t q (c::r)=match step nm t q c with | none=>false | some q'=>fl nm t q' r:=by rw[fl]
theorem fl_n{q:Sq}:fl nm t q []=fin q:=by rw[fl]
theorem zbq{q:Sq}{e c:Nat}{r:List Nat}(h1:c≠40)(h2:c≠41):acc nm t ok q e (c::r)=match step nm t q c with | none=>false | some q'=>acc nm t ok q' e r:=by
 rw[acc,Yh (by simpa using h1),Yh (by simpa using h2)]
theorem zdt{q:Sq}{e:Nat}{r:List Nat}:acc nm t ok q e (40::r)=(due q&&ok (e+1)&&acc nm t ok zS (e+1) r):=by rw[acc];rfl
theorem zdi{q:Sq}{e:Nat}{r:List Nat}:acc nm t ok q e (41::r)=(fin q&&decide (0<e)&&acc nm t ok zA (e-1) r):=by rw[acc];rfl
def pf(ok:Nat->Bool):Nat->List Nat->Bool
 | e,[]=>e == 0
 | e,c::r=>if c == 40 then ok (e+1)&&pf ok (e+1) r else if c == 41 then decide (0<e)&&pf ok (e-1) r else pf ok e r
theorem zhy:∀(r:List Nat) (q:Sq) (e:Nat),acc nm t ok q e r=true->pf ok e r=true
 | [],q,e,h=>by rw[acc]at h;rw[pf];simp at h ⊢;exact h.2
 | c::r,q,e,h=>by
  rw[acc]at h;rw[pf];split at h
  ·rename_i z;rw[Yl z]
   simp only[Bool.and_eq_true]at h ⊢
   exact⟨h.1.2,zhy r _ _ h.2⟩
  ·rename_i z;rw[Yh z]
   split at h
   ·rename_i z;rw[Yl z]
    simp only[Bool.and_eq_true]at h ⊢
    exact⟨h.1.2,zhy r _ _ h.2⟩
   ·rename_i z;rw[Yh z]
    cases s:step nm t q c with
    | none=>rw[s]at h;cases h
    | some q'=>rw[s]at h;exact zhy r _ _ h
def yes:Nat->Bool:=λ_=>true
theorem zkp:∀(r:List Nat) (q:Sq) (e:Nat),pf ok e r=true->acc nm t ok q e r=acc nm t yes q e r
 | [],q,e,h=>rfl
 | c::r,q,e,h=>by
  by_cases c1:c=40
  ·subst c1;rw[pf,Yl (by rfl)]at h;simp only[Bool.and_eq_true]at h;rw[zdt,zdt,zkp r _ _ h.2,h.1];rfl
  ·by_cases c2:c=41
   ·subst c2;rw[pf,Yh (by decide),Yl (by rfl)]at h;simp only[Bool.and_eq_true]at h;rw[zdi,zdi,zkp r _ _ h.2]
   ·rw[pf,Yh (by simpa using c1),Yh (by simpa using c2)]at h;rw[zbq c1 c2,zbq c1 c2]
    cases s:step nm t q c with
    | none=>rfl
    | some q'=>exact zkp r _ _ h
theorem zke:∀(r:List Nat) (e:Nat),pf ok e r=true->pf yes e r=true
 | [],e,h=>h
 | c::r,e,h=>by
  rw[pf]at h ⊢;by_cases z:(c == 40)=true
  ·rw[Yl z]at h ⊢;simp only[Bool.and_eq_true]at h ⊢;exact⟨Z,zke r _ h.2⟩
  ·rw[Yh z]at h ⊢;by_cases z2:(c == 41)=true
   ·rw[Yl z2]at h ⊢;simp only[Bool.and_eq_true]at h ⊢;exact⟨h.1,zke r _ h.2⟩
   ·rw[Yh z2]at h ⊢;exact zke r _ h
theorem zql:∀(v:List Nat) (q:Sq) (e:Nat) (w:List Nat),40 ∉ v->41 ∉ v->acc nm t ok q (e+1) (v++41::w)=(fl nm t q v&&acc nm t ok zA e w)
 | [],q,e,w,_,_=>by show acc nm t ok q (e+1) (41::w)=_;rw[zdi,fl_n];simp
 | c::v,q,e,w,h1,h2=>by
  simp only[List.mem_cons,not_or]at h1 h2
  show acc nm t ok q (e+1) (c::(v++41::w))=_;rw[zbq (Jc h1.1) (Jc h2.1),fl_c]
  cases s:step nm t q c with
  | none=>rfl
  | some q'=>exact zql v q' e w h1.2 h2.2
theorem zj2:∀(v:List Nat) (q:Sq),40 ∉ v->41 ∉ v->acc nm t ok q 0 v=fl nm t q v
 | [],q,_,_=>by rw[acc,fl_n];simp
 | c::v,q,h1,h2=>by
  simp only[List.mem_cons,not_or]at h1 h2
  rw[zbq (Jc h1.1) (Jc h2.1),fl_c]
  cases s:step nm t q c with
  | none=>rfl
  | some q'=>exact zj2 v q' h1.2 h2.2
theorem zyo(no:NmO nm)(q:Sq):step nm true q 64=if due q then some zA else none:=by
 have:nm.contains 64=false:=by
  cases z:nm.contains 64 with
  | false=>rfl
  | true=>exact absurd rfl (no 64 (by simpa using z)).2.2.2.2.2.2.2.1
 have:64 ∉ nm:=λz=>by simp[z]at this
 cases q <;> simp[step,fs,op,isO,isD,due,this]
theorem zhb(no:NmO nm):∀(u:List Nat) (q:Sq) (e:Nat) (v w:List Nat),40 ∉ v->41 ∉ v->acc nm true yes q e (u++40::(v++41::w))=(fl nm true zS v&&acc nm true yes q e (u++64::w))
 | [],q,e,v,w,h1,h2=>by
  show acc nm true yes q e (40::(v++41::w))=(_&&acc nm true yes q e (64::w));rw[zdt,zql v zS e w h1 h2,zbq (by decide) (by decide),zyo no]
  cases due q <;> simp[yes]
 | c::u,q,e,v,w,h1,h2=>by
  show acc nm true yes q e (c::(u++40::(v++41::w)))=(_&&acc nm true yes q e (c::(u++64::w)));by_cases c1:c=40
  ·subst c1;rw[zdt,zdt,zhb no u _ _ v w h1 h2]
   cases due q <;> simp[yes]
  ·by_cases c2:c=41
   ·subst c2;rw[zdi,zdi,zhb no u _ _ v w h1 h2]
    cases fin q&&decide (0<e) <;> simp
   ·rw[zbq c1 c2,zbq c1 c2]
    cases s:step nm true q c with
    | none=>simp
    | some q'=>exact zhb no u q' e v w h1 h2
theorem zvw:∀(v:List Nat) (e:Nat) (w:List Nat),40 ∉ v->41 ∉ v->pf yes (e+1) (v++41::w)=pf yes e w
 | [],e,w,_,_=>by show pf yes (e+1) (41::w)=_;rw[pf];simp
 | c::v,e,w,h1,h2=>by
  simp only[List.mem_cons,not_or]at h1 h2
  show pf yes (e+1) (c::(v++41::w))=_;rw[pf,Yh (by simpa using Jc h1.1),Yh (by simpa using Jc h2.1)];exact zvw v e w h1.2 h2.2
theorem zjx:∀(u:List Nat) (e:Nat) (v w:List Nat),40 ∉ v->41 ∉ v->pf yes e (u++40::(v++41::w))=pf yes e (u++64::w)
 | [],e,v,w,h1,h2=>by
  show pf yes e (40::(v++41::w))=pf yes e (64::w);rw[pf,Yl (by rfl),zvw v e w h1 h2,pf];simp[yes]
 | c::u,e,v,w,h1,h2=>by
  show pf yes e (c::(u++40::(v++41::w)))=pf yes e (c::(u++64::w));rw[pf,pf];split
  ·rw[zjx u _ v w h1 h2]
  ·split
   ·rw[zjx u _ v w h1 h2]
   ·exact zjx u _ v w h1 h2
theorem zi6:∀(l:List Nat) (e:Nat),41 ∉ l->pf yes e l=true->40 ∉ l/\e=0
 | [],e,_,h=>⟨by simp,by rw[pf]at h;simpa using h⟩
 | c::l,e,h1,h=>by
  simp only[List.mem_cons,not_or]at h1
  rw[pf]at h;split at h
  ·have:=(zi6 l (e+1) h1.2 (by simpa[yes]using h)).2;omega
  ·rename_i z
   rw[Yh (by simpa using Jc h1.1)]at h;obtain⟨q1,q2⟩:=zi6 l e h1.2 h;exact⟨by simp only[List.mem_cons,not_or];exact⟨λx=>z (by simp[<- x]),q1⟩,q2⟩
theorem zjh:∀(u:List Nat) (w:List Nat),41 ∉ u->pf yes 0 (u++41::w)=true->40∈u
 | [],w,_,h=>by
  replace h:pf yes 0 (41::w)=true:=h;rw[pf]at h;simp at h
 | c::u,w,h1,h=>by
  simp only[List.mem_cons,not_or]at h1
  by_cases z:c=40
  ·rw[z];simp
  ·replace h:pf yes 0 (c::(u++41::w))=true:=h;rw[pf,Yh (by simpa using z),Yh (by simpa using Jc h1.1)]at h;exact List.mem_cons_of_mem _ (zjh u w h1.2 h)
theorem zlq(no:NmO nm){q:Sq}{c:Nat}(hq:q≠zS)(hc:isO c=true):step nm t q c=if fin q then some zT else none:=by
 have h:c=42\/c=43\/c=45:=by simpa[isO,or_assoc]using hc
 have n1:nm.contains c=false:=by
  cases z:nm.contains c with
  | false=>rfl
  | true=>
   have:=no c (by simpa using z);rcases h with h | h | h <;> subst h <;> simp at this
 have n1':c ∉ nm:=λz=>by simp[z]at n1
 have n2:isD c=false:=by rcases h with h | h | h <;> subst h <;> rfl
 have n3:(c == 64)=false:=by rcases h with h | h | h <;> subst h <;> rfl
 have n4:(c == 47)=false:=by rcases h with h | h | h <;> subst h <;> rfl
 have n5:(c == 94)=false:=by rcases h with h | h | h <;> subst h <;> rfl
 cases q with
 | zS=>exact absurd rfl hq
 | zT=>simp[step,fs,n1',n2,n3,fin]
 | zBn=>simp[step,n2,fin]
 | zL=>simp[step,n5,op,hc,fin]
 | zPn=>simp[step,n2,fin]
 | zA=>simp[step,op,hc,fin]
 | zD k=>simp[step,n2,n4,op,hc,fin]
 | zB k=>simp[step,n2,op,hc,fin]
 | zP k=>simp[step,n2,op,hc,fin]
theorem zwt{q q':Sq}{c:Nat}(h:step nm t q c=some q'):q'≠zS:=by
 rintro rfl
 cases q <;> simp only[step,fs,op]at h <;> (repeat' split at h) <;> cases h
def spl(c:Nat):List Nat->List (List Nat)
 | []=>[[]]
 | x::r=>if x=c then []::spl c r else match spl c r with
  | []=>[[x]]
  | h::k=>(x::h)::k
theorem zdh(c:Nat):∀r,spl c r≠[]
 | []=>by simp[spl]
 | x::r=>by
  rw[spl];split
  ·simp
  ·split <;> simp
theorem zeo(c:Nat):∀(r:List Nat),c ∉ r->spl c r=[r]
 | [],_=>rfl
 | x::r,h=>by
  simp only[List.mem_cons,not_or]at h
  rw[spl,Yh (Jc h.1),zeo c r h.2]
theorem ziy(c:Nat):∀(w r:List Nat),c ∉ w->spl c (w++c::r)=w::spl c r
 | [],r,_=>by show spl c (c::r)=_;rw[spl,Yl rfl]
 | x::w,r,h=>by
  simp only[List.mem_cons,not_or]at h
  show spl c (x::(w++c::r))=_;rw[spl,Yh (Jc h.1),ziy c w r h.2]
theorem zis(no:NmO nm){c:Nat}(hc:isO c=true):∀(v:List Nat) (q:Sq) (h:List Nat) (k:List (List Nat)),q≠zS->spl c v=h::k->fl nm t q v=(fl nm t q h&&k.all (fl nm t zT))
 | [],q,h,k,hq,e=>by
  rw[spl]at e;cases e;simp
 | x::v,q,h,k,hq,e=>by
  obtain⟨h',k',e'⟩:=List.exists_cons_of_ne_nil (zdh c v);rw[spl]at e;by_cases z:x=c
  ·rw[Yl z]at e;injection e with e1 e2
   subst e1 e2 z;rw[fl_c,zlq no hq hc,fl_n,e',List.all_cons,<- zis no hc v zT h' k' (by simp) e']
   cases fin q <;> rfl
  ·rw[Yh z,e']at e;injection e with e1 e2
   subst e1 e2;rw[fl_c,fl_c]
   cases s:step nm t q x with
   | none=>rfl
   | some q'=>exact zis no hc v q' h' k' (zwt s) e'
theorem zqs(no:NmO nm){c:Nat}(hc:isO c=true)(v:List Nat):fl nm t zT v=(spl c v).all (fl nm t zT):=by
 obtain⟨h,k,e⟩:=List.exists_cons_of_ne_nil (zdh c v);rw[zis no hc v zT h k (by simp) e,e];rfl
def mp(v:List Nat):List Nat:=v.map λc=>if c=45 then 43 else c
theorem zxh(no:NmO nm):∀(v:List Nat) (q:Sq),q≠zS->fl nm t q (mp v)=fl nm t q v
 | [],q,_=>rfl
 | x::v,q,hq=>by
  show fl nm t q ((if x=45 then 43 else x)::mp v)=_;rw[fl_c,fl_c];have e:step nm t q (if x=45 then 43 else x)=step nm t q x:=by
   split
   ·rename_i z;subst z;rw[zlq no hq (by rfl),zlq no hq (by rfl)]
   ·rfl
  rw[e]
  cases s:step nm t q x with
  | none=>rfl
  | some q'=>exact zxh no v q' (zwt s)
def strip:List Nat->List Nat
 | 45::r=>r
 | r=>r
theorem zy8:∀v:List Nat,fl nm t zS v=fl nm t zT (strip v)
 | []=>rfl
 | x::v=>by
  by_cases z:x=45
  ·subst z;rfl
  ·have:strip (x::v)=x::v:=by unfold strip;split;rename_i e;injection e with e1 e2;exact absurd e1 z;rfl
   rw[this,fl_c,fl_c,step,Yh (by simpa using z)];rfl
def zmm(nm:List Nat)(v:List Nat):Bool:=(spl 43 (mp (strip v))).all λp=>(spl 42 p).all (fl nm true zT)
theorem zn0(no:NmO nm)(v:List Nat):fl nm true zS v=zmm nm v:=by
 rw[zy8,<- zxh no _ zT (by simp),zqs no (c:=43) rfl];unfold zmm;congr 1
 funext p
 exact zqs no (c:=42) rfl p
def figs(most:Nat)(w:List Nat):Bool:=w.all isD&&decide (1<=w.length)&&decide (w.length<=most)
def Of(w:List Nat):Prop:=∀c∈w,isO c=false
theorem op_n{c:Nat}(h:isO c=false):op c=none:=by unfold op;rw[h];rfl
theorem fl_b:∀(w:List Nat) (k:Nat),Of w->k<=30->fl nm t (zB k) w=(w.all isD&&decide (k+w.length<=30))
 | [],k,_,hk=>by rw[fl_n];simp[fin,hk]
 | x::w,k,ho,hk=>by
  rw[fl_c,step,op_n (ho x (by simp)),List.all_cons]
  cases hx:isD x with
  | false=>simp
  | true=>
   by_cases z:k<30
   ·simp only[if_pos z,if_true]
    rw[fl_b w (k+1) (λc hc=>ho c (by simp[hc])) z];rw[Y5,show k+1+w.length=k+(w.length+1) by omega];simp
   ·simp only[if_neg z,if_true]
    have:decide (k+(x::w).length<=30)=false:=by rw[Y5];exact Yw (by omega)
    rw[this];simp
theorem fl_p:∀(w:List Nat) (k:Nat),Of w->k<=2->fl nm t (zP k) w=(w.all isD&&decide (k+w.length<=2))
 | [],k,_,hk=>by rw[fl_n];simp[fin,hk]
 | x::w,k,ho,hk=>by
  rw[fl_c,step,op_n (ho x (by simp)),List.all_cons]
  cases hx:isD x with
  | false=>simp
  | true=>
   by_cases z:k<2
   ·simp only[if_pos z,if_true]
    rw[fl_p w (k+1) (λc hc=>ho c (by simp[hc])) z];rw[Y5,show k+1+w.length=k+(w.length+1) by omega];simp
   ·simp only[if_neg z,if_true]
    have:decide (k+(x::w).length<=2)=false:=by rw[Y5];exact Yw (by omega)
    rw[this];simp
theorem zx3:∀(w:List Nat),Of w->fl nm t zBn w=figs 30 w
 | [],_=>rfl
 | x::w,ho=>by
  rw[fl_c,step,figs,List.all_cons,Y5]
  cases hx:isD x with
  | false=>simp
  | true=>
   simp only[if_true]
   rw[fl_b w 1 (λc hc=>ho c (by simp[hc])) (by decide),Nat.add_comm 1];simp
theorem zx9:∀(w:List Nat),Of w->fl nm t zPn w=figs 2 w
 | [],_=>rfl
 | x::w,ho=>by
  rw[fl_c,step,figs,List.all_cons,Y5]
  cases hx:isD x with
  | false=>simp
  | true=>
   simp only[if_true]
   rw[fl_p w 1 (λc hc=>ho c (by simp[hc])) (by decide),Nat.add_comm 1];simp
def numK(k:Nat)(w:List Nat):Bool:=match spl 47 w with
 | [h]=>h.all isD&&decide (k+h.length<=30)
 | [h,g]=>h.all isD&&decide (k+h.length<=30)&&figs 30 g
 | _=>false
theorem zyz:isD 47=false:=rfl
theorem fl_d:∀(w:List Nat) (k:Nat),Of w->k<=30->fl nm t (zD k) w=numK k w
 | [],k,_,hk=>by rw[fl_n];simp[fin,numK,spl,hk]
 | x::w,k,ho,hk=>by
  have ow:Of w:=λc hc=>ho c (by simp[hc])
  rw[fl_c,step,op_n (ho x (by simp))];obtain⟨h',k',e'⟩:=List.exists_cons_of_ne_nil (zdh 47 w);by_cases z:x=47
  ·subst z;rw[zyz];simp only[Bool.false_eq_true,if_false];rw[show (47 == 47)=true from rfl];simp only[if_true];rw[zx3 w ow];unfold numK;rw[spl,Yl rfl,e']
   cases k' with
   | nil=>
    have:w=h':=by
     by_cases q:47∈w
     ·exfalso;obtain⟨s,u,ee⟩:=List.append_of_mem q;have:∀(s u:List Nat),(spl 47 (s++47::u)).length ≥ 2:=by
       intro s u;induction s with
       | nil=>show (spl 47 (47::u)).length ≥ 2;rw[spl,Yl rfl,Y5];have:=List.length_pos_iff.mpr (zdh 47 u);omega
       | cons y s ih=>
        show (spl 47 (y::(s++47::u))).length ≥ 2;rw[spl];split
        ·rw[Y5];omega
        ·split
         ·rename_i q2;rw[q2]at ih;simp at ih
         ·rename_i q2;rw[q2]at ih;simpa using ih
      have:=this s u;rw[<- ee,e']at this;simp at this
     ·rw[zeo 47 w q]at e';injection e'
    rw[this];simp[hk]
   | cons g k''=>
    have hb:figs 30 w=false:=by
     have:47∈w:=Classical.byContradiction λq=>by rw[zeo 47 w q]at e';cases e'
     unfold figs;have:w.all isD=false:=by
      rw[List.all_eq_false];exact⟨47,this,by decide⟩
     rw[this];rfl
    rw[hb]
  ·have zb:(x == 47)=false:=by simpa using z
   rw[zb];unfold numK;rw[spl,Yh z,e']
   cases hx:isD x with
   | false=>cases k' with
    | nil=>simp[hx]
    | cons g k''=>cases k'' <;> simp[hx]
   | true=>
    by_cases zk:k<30
    ·simp only[if_pos zk,if_true]
     rw[fl_d w (k+1) ow zk];unfold numK;rw[e'];have el:k+1+h'.length=k+(x::h').length:=by rw[Y5];omega
     cases k' with
     | nil=>simp only[List.all_cons,hx,el,Bool.true_and]
     | cons g k''=>cases k'' with
      | nil=>simp only[List.all_cons,hx,el,Bool.true_and]
      | cons _ _=>rfl
    ·simp only[if_neg zk,if_true]
     have el:decide (k+(x::h').length<=30)=false:=by rw[Y5];exact Yw (by omega)
     cases k' with
     | nil=>simp only[el,Bool.and_false]
     | cons g k''=>cases k'' with
      | nil=>simp only[el,Bool.and_false,Bool.false_and]
      | cons _ _=>rfl
def facL(nm:List Nat)(w:List Nat):Bool:=
 if w=[64] then true
 else match w with
  | []=>false
  | x::r=>if nm.contains x then(match r with | []=>true | y::r'=>decide (y=94)&&figs 2 r')
   else decide ((spl 47 (x::r)).length<3)&&(spl 47 (x::r)).all (figs 30)
theorem zv7(no:NmO nm)(w:List Nat)(ho:Of w):fl nm true zT w=facL nm w:=by
 unfold facL
 cases w with
 | nil=>rfl
 | cons x r=>
  have orr:Of r:=λc hc=>ho c (by simp[hc])
  rw[fl_c,step,fs];by_cases hx:isD x=true
  ·have nx:nm.contains x=false:=by
    cases z:nm.contains x with
    | false=>rfl
    | true=>rw[(no x (by simpa using z)).1]at hx;cases hx
   have n64:¬(x::r=[64]):=λz=>by injection z with z _;subst z;cases hx
   have n47:x≠47:=λz=>by subst z;cases hx
   rw[hx,Yh n64,nx];simp only[if_true,Bool.false_eq_true,if_false];rw[fl_d r 1 orr (by decide)];unfold numK;obtain⟨h',k',e'⟩:=List.exists_cons_of_ne_nil (zdh 47 r);rw[spl,Yh n47,e'];have el:1+h'.length=(x::h').length:=by rw[Y5];omega
   have nx2:x ∉ nm:=λz=>by simp[z]at nx
   cases k' with
   | nil=>simp[figs,hx,nx2,Nat.add_comm]
   | cons g k''=>cases k'' with
    | nil=>simp[figs,hx,nx2,Nat.add_comm]
    | cons _ _=>simp[nx2];intro z;omega
  ·have hx':isD x=false:=by simpa using hx
   rw[hx'];simp only[Bool.false_eq_true,if_false];by_cases nx:nm.contains x=true
   ·have nz:=no x (by simpa using nx);have n64:¬(x::r=[64]):=λz=>by injection z with z _;exact nz.2.2.2.2.2.2.2.1 z
    rw[nx,Yh n64];simp only[if_true]
    cases r with
    | nil=>rfl
    | cons y r'=>
     have o':Of r':=λc hc=>orr c (by simp[hc])
     rw[fl_c,step,op_n (orr y (by simp))];by_cases z:y=94
     ·subst z;rw[show (match (if (94 == 94)=true then some zPn else none:Option Sq) with | none=>false | some q'=>fl nm true q' r')=fl nm true zPn r' from rfl,zx9 r' o'];simp
     ·simp[z]
   ·have nx':nm.contains x=false:=by simpa using nx
    rw[nx'];simp only[Bool.false_eq_true,if_false];by_cases z:x=64
    ·subst z;simp only[Bool.true_and];rw[show (match (if (64 == 64)=true then some zA else none:Option Sq) with | none=>false | some q'=>fl nm true q' r)=fl nm true zA r from rfl]
     cases r with
     | nil=>rfl
     | cons y r'=>
      rw[fl_c,step,op_n (orr y (by simp)),Yh (by simp)];obtain⟨h',k',e'⟩:=List.exists_cons_of_ne_nil (zdh 47 (y::r'));rw[spl,Yh (by decide),e'];simp[figs,isD]
    ·have zz:(x == 64)=false:=by simpa using z
     rw[zz];simp only[Bool.and_false,Bool.false_eq_true,if_false];rw[Yh (by intro q;injection q with q _;exact z q)];obtain⟨h',k',e'⟩:=List.exists_cons_of_ne_nil (zdh 47 r);rw[spl];split
     ·simp[figs]
     ·rw[e'];simp[figs,hx']
theorem zq0(k0:Nat):∀(ds r:List Nat) (k e:Nat),(∀c∈ds,isD c=true)->k<=30->acc nm t ok (zD k) e (ds++r)=(decide (k+ds.length<=30)&&acc nm t ok (zD (k+ds.length)) e r)
 | [],r,k,e,_,hk=>by simp[hk]
 | c::ds,r,k,e,hd,hk=>by
  have h:=hd c (by simp);have n1:c≠40:=λz=>by subst z;cases h
  have n2:c≠41:=λz=>by subst z;cases h
  show acc nm t ok (zD k) e (c::(ds++r))=_;rw[zbq n1 n2,step,h];simp only[if_true];rw[Y5,show k+(ds.length+1)=k+1+ds.length by omega];by_cases z:k<30
  ·simp only[if_pos z]
   exact zq0 k0 ds r (k+1) e (λx hx=>hd x (by simp[hx])) z
  ·simp only[if_neg z]
   rw[Yw (by omega)];rfl
theorem zrd:∀(ds r:List Nat) (k e:Nat),(∀c∈ds,isD c=true)->k<=30->acc nm t ok (zB k) e (ds++r)=(decide (k+ds.length<=30)&&acc nm t ok (zB (k+ds.length)) e r)
 | [],r,k,e,_,hk=>by simp[hk]
 | c::ds,r,k,e,hd,hk=>by
  have h:=hd c (by simp);have n1:c≠40:=λz=>by subst z;cases h
  have n2:c≠41:=λz=>by subst z;cases h
  show acc nm t ok (zB k) e (c::(ds++r))=_;rw[zbq n1 n2,step,h];simp only[if_true];rw[Y5,show k+(ds.length+1)=k+1+ds.length by omega];by_cases z:k<30
  ·simp only[if_pos z]
   exact zrd ds r (k+1) e (λx hx=>hd x (by simp[hx])) z
  ·simp only[if_neg z]
   rw[Yw (by omega)];rfl
theorem zrj:∀(ds r:List Nat) (k e:Nat),(∀c∈ds,isD c=true)->k<=2->acc nm t ok (zP k) e (ds++r)=(decide (k+ds.length<=2)&&acc nm t ok (zP (k+ds.length)) e r)
 | [],r,k,e,_,hk=>by simp[hk]
 | c::ds,r,k,e,hd,hk=>by
  have h:=hd c (by simp);have n1:c≠40:=λz=>by subst z;cases h
  have n2:c≠41:=λz=>by subst z;cases h
  show acc nm t ok (zP k) e (c::(ds++r))=_;rw[zbq n1 n2,step,h];simp only[if_true];rw[Y5,show k+(ds.length+1)=k+1+ds.length by omega];by_cases z:k<2
  ·simp only[if_pos z]
   exact zrj ds r (k+1) e (λx hx=>hd x (by simp[hx])) z
  ·simp only[if_neg z]
   rw[Yw (by omega)];rfl
theorem zi8{q:Sq}{f:Nat->Sq}{most:Nat}(h1:∀c e r,isD c=true->acc nm t ok q e (c::r)=acc nm t ok (f 1) e r)(h2:∀(ds r:List Nat) (k e:Nat),(∀c∈ds,isD c=true)->k<=most->acc nm t ok (f k) e (ds++r)=(decide (k+ds.length<=most)&&acc nm t ok (f (k+ds.length)) e r))(hm:1<=most)
  {ds r:List Nat} {e:Nat} (hd:∀c∈ds,isD c=true) (ne:ds≠[]):acc nm t ok q e (ds++r)=(decide (ds.length<=most)&&acc nm t ok (f ds.length) e r):=by
 obtain⟨c,l,rfl⟩:=List.exists_cons_of_ne_nil ne;show acc nm t ok q e (c::(l++r))=_;rw[h1 c _ _ (hd c (by simp)),h2 l r 1 e (λx hx=>hd x (by simp[hx])) hm,Y5,Nat.add_comm 1]
theorem d_ne{c:Nat}(h:isD c=true):c≠40/\c≠41/\c≠45/\c≠47/\c≠94:=⟨(λz=>by subst z;cases h),(λz=>by subst z;cases h),(λz=>by subst z;cases h),(λz=>by subst z;cases h),(λz=>by subst z;cases h)⟩
theorem zsc{ds r:List Nat}{e:Nat}(hd:∀c∈ds,isD c=true)(ne:ds≠[]):acc nm t ok zT e (ds++r)=(decide (ds.length<=30)&&acc nm t ok (zD ds.length) e r):=
 zi8 (f:=zD) (λc e r h=>by rw[zbq (d_ne h).1 (d_ne h).2.1,step,fs,h];rfl) (λds r k e=>zq0 0 ds r k e) (by decide) hd ne
theorem zoa{ds r:List Nat}{e:Nat}(hd:∀c∈ds,isD c=true)(ne:ds≠[]):acc nm t ok zBn e (ds++r)=(decide (ds.length<=30)&&acc nm t ok (zB ds.length) e r):=
 zi8 (f:=zB) (λc e r h=>by rw[zbq (d_ne h).1 (d_ne h).2.1,step,h];rfl) zrd (by decide) hd ne
theorem znc{ds r:List Nat}{e:Nat}(hd:∀c∈ds,isD c=true)(ne:ds≠[]):acc nm t ok zPn e (ds++r)=(decide (ds.length<=2)&&acc nm t ok (zP ds.length) e r):=
 zi8 (f:=zP) (λc e r h=>by rw[zbq (d_ne h).1 (d_ne h).2.1,step,h];rfl) zrj (by decide) hd ne
def hd?(r:List Nat)(P:Nat->Prop):Prop:=∀c,r.head? = some c->P c
theorem zkq{q:Sq}(hf:fin q=true)(hd:due q=false){r:List Nat}{e:Nat}(h:hd? r λc=>step nm t q c=op c):acc nm t ok q e r=acc nm t ok zA e r:=by
 cases r with
 | nil=>rw[acc,acc,hf];rfl
 | cons c r=>
  by_cases c1:c=40
  ·subst c1;rw[zdt,zdt,hd];rfl
  ·by_cases c2:c=41
   ·subst c2;rw[zdi,zdi,hf];rfl
   ·rw[zbq c1 c2,zbq c1 c2,h c rfl];rfl
theorem zyd{r:List Nat}{k e:Nat}(h:hd? r λc=>isD c=false/\c≠47):acc nm t ok (zD k) e r=acc nm t ok zA e r:=
 zkq rfl rfl λc hc=>by obtain⟨h1,h2⟩:=h c hc;show step nm t (zD k) c=op c;rw[step,h1,Yh (by simp),Yh (by simpa using h2)]
theorem zyq{r:List Nat}{k e:Nat}(h:hd? r λc=>isD c=false):acc nm t ok (zB k) e r=acc nm t ok zA e r:=
 zkq rfl rfl λc hc=>by show step nm t (zB k) c=op c;rw[step,h c hc,Yh (by simp)]
theorem zyr{r:List Nat}{k e:Nat}(h:hd? r λc=>isD c=false):acc nm t ok (zP k) e r=acc nm t ok zA e r:=
 zkq rfl rfl λc hc=>by show step nm t (zP k) c=op c;rw[step,h c hc,Yh (by simp)]
theorem zxw{r:List Nat}{e:Nat}(h:hd? r λc=>c≠94):acc nm t ok zL e r=acc nm t ok zA e r:=
 zkq rfl rfl λc hc=>by show step nm t zL c=op c;rw[step,Yh (by simpa using h c hc)]
theorem ztn{r:List Nat}{k e:Nat}:acc nm t ok (zD k) e (47::r)=acc nm t ok zBn e r:=by rw[zbq (by decide) (by decide)];rfl
theorem zrx{r:List Nat}{e:Nat}:acc nm t ok zL e (94::r)=acc nm t ok zPn e r:=by rw[zbq (by decide) (by decide)];rfl
theorem zkm{r:List Nat}{e:Nat}(h:hd? r λc=>isD c=false):acc nm t ok zBn e r=false/\acc nm t ok zPn e r=false:=by
 cases r with
 | nil=>exact⟨rfl,rfl⟩
 | cons c r=>
  have hc:=h c rfl;by_cases c1:c=40
  ·subst c1;exact⟨by rw[zdt];rfl,by rw[zdt];rfl⟩
  ·by_cases c2:c=41
   ·subst c2;exact⟨by rw[zdi];rfl,by rw[zdi];rfl⟩
   ·exact⟨by rw[zbq c1 c2,step,hc];rfl,by rw[zbq c1 c2,step,hc];rfl⟩
theorem zst(no:NmO nm){c e:Nat}{r:List Nat}(h:c∈nm):acc nm t ok zT e (c::r)=acc nm t ok zL e r:=by
 obtain⟨h1,h2,h3,_⟩:=no c h;rw[zbq h2 h3,step,fs,h1,Yh (by simp),Yl (by simpa using h)]
theorem zt7{l:List Nat}{e:Nat}(h:hd? l λc=>isD c=false/\c ∉ nm/\c≠40):acc nm false ok zT e l=false:=by
 cases l with
 | nil=>rfl
 | cons c r=>
  obtain⟨h1,h2,h3⟩:=h c rfl;by_cases c2:c=41
  ·subst c2;rw[zdi];rfl
  ·rw[zbq h3 c2,step,fs,h1,Yh (by simp),Yh (by simpa using h2)];rfl
theorem zm8{e:Nat}{r:List Nat}:acc nm t ok zS e (45::r)=acc nm t ok zT e r:=by rw[zbq (by decide) (by decide)];rfl
theorem zlp{e:Nat}{l:List Nat}(h:hd? l λc=>c≠45):acc nm t ok zS e l=acc nm t ok zT e l:=by
 cases l with
 | nil=>rfl
 | cons c r=>
  by_cases c1:c=40
  ·subst c1;rw[zdt,zdt];rfl
  ·by_cases c2:c=41
   ·subst c2;rw[zdi,zdi];rfl
   ·rw[zbq c1 c2,zbq c1 c2,step,Yh (by simpa using h c rfl)];rfl
theorem zte{c e:Nat}{r:List Nat}(h:isO c=true):acc nm t ok zA e (c::r)=acc nm t ok zT e r:=by
 have:c=42\/c=43\/c=45:=by simpa[isO,or_assoc]using h
 rw[zbq (by omega) (by omega),step,op,h];rfl
theorem zrg{l:List Nat}{e:Nat}(h:hd? l λc=>isO c=false/\c≠41)(ne:l≠[]):acc nm t ok zA e l=false:=by
 obtain⟨c,r,rfl⟩:=List.exists_cons_of_ne_nil ne;obtain⟨h1,h2⟩:=h c rfl;by_cases c1:c=40
 ·subst c1;rw[zdt];rfl
 ·rw[zbq c1 h2,step,op_n h1]
def dgv(l:List Nat):Nat:=PySem.NumText.digitsVal l
def bots:List Nat->List Nat
 | []=>[]
 | c::r=>if c=47 then dgv (r.takeWhile isD)::bots r else bots r
theorem ze7:∀(w r:List Nat),47 ∉ w->bots (w++r)=bots r
 | [],_,_=>rfl
 | c::w,r,h=>by
  simp only[List.mem_cons,not_or]at h
  show bots (c::(w++r))=_;rw[bots,Yh (Jc h.1),ze7 w r h.2]
theorem zrl:∀{ds r:List Nat},(∀c∈ds,isD c=true)->(hd? r λc=>isD c=false)->(ds++r).takeWhile isD=ds
 | [],[],_,_=>rfl
 | [],c::r,_,h=>by show List.takeWhile isD (c::r)=[];rw[List.takeWhile_cons,h c rfl];rfl
 | c::ds,r,hd,h=>by
  show List.takeWhile isD (c::(ds++r))=_;rw[List.takeWhile_cons,hd c (by simp)];simp only[if_true];rw[zrl (λx hx=>hd x (by simp[hx])) h]
theorem d_47{ds:List Nat}(hd:∀c∈ds,isD c=true):47 ∉ ds:=λz=>by have:=hd 47 z;cases this
theorem zqp{ds r:List Nat}(hd:∀c∈ds,isD c=true)(h:hd? r λc=>isD c=false):bots (47::(ds++r))=dgv ds::bots r:=by
 rw[bots,Yl rfl,zrl hd h,ze7 ds r (d_47 hd)]
def seps:List Nat:=[40,41,42,43,45]
def sp5(l:List Nat):List Nat:=l.map λc=>if seps.contains c then 64 else c
theorem zxf{c:Nat}(h:seps.contains c=true):isD c=false/\c≠47:=by
 have:c=40\/c=41\/c=42\/c=43\/c=45:=by simpa[seps]using h
 rcases this with h | h | h | h | h <;> subst h <;> decide
theorem zqx:∀l:List Nat,(sp5 l).takeWhile isD=l.takeWhile isD
 | []=>rfl
 | c::l=>by
  show List.takeWhile isD ((if seps.contains c then 64 else c)::sp5 l)=_;rw[List.takeWhile_cons,List.takeWhile_cons];by_cases h:seps.contains c=true
  ·rw[Yl h,(zxf h).1];rfl
  ·rw[Yh h,zqx l]
theorem zka:∀l:List Nat,bots (sp5 l)=bots l
 | []=>rfl
 | c::l=>by
  show bots ((if seps.contains c then 64 else c)::sp5 l)=_;rw[bots,bots,zqx,zka l];by_cases h:seps.contains c=true
  ·rw[Yl h,Yh (by decide),Yh (zxf h).2]
  ·rw[Yh h]
theorem zjp:∀l:List Nat,bots l=(spl 64 l).flatMap bots/\∀h k,spl 64 l=h::k->l.takeWhile isD=h.takeWhile isD
 | []=>⟨rfl,λh k e=>by rw[spl]at e;cases e;rfl⟩
 | c::l=>by
  obtain⟨h',k',e'⟩:=List.exists_cons_of_ne_nil (zdh 64 l);obtain⟨i1,i2⟩:=zjp l;rw[e']at i1;rw[spl];by_cases z:c=64
  ·subst z;rw[Yl rfl,bots,Yh (by decide),i1,e'];exact⟨Z,λh k e=>by cases e;rfl⟩
  ·rw[Yh z,e'];refine⟨?_,λh k e=>?_⟩
   ·show bots (c::l)=bots (c::h')++_;rw[bots,bots,i1,i2 h' k' e'];split <;> rfl
   ·injection e with e1 e2
    subst e1;rw[List.takeWhile_cons,List.takeWhile_cons,i2 h' k' e']
def OkW(w:List Nat):Prop:=47∈w->∃x y,w=x++47::y/\47 ∉ x/\(∀c∈y,isD c=true)/\y≠[]/\y.length<=30
def OkH:Sq->List Nat->Prop
 | zBn,h=>(∀c∈h,isD c=true)/\h≠[]/\h.length<=30
 | zB k,h=>(∀c∈h,isD c=true)/\k+h.length<=30
 | zD _,h=>OkW h
 | zS,h=>OkW h
 | zT,h=>OkW h
 | _,h=>47 ∉ h
theorem zg9{x:Nat}{h:List Nat}(hx:x≠47)(k:OkW h):OkW (x::h):=λm=>by
 rcases Yj.mp m with q | q
 ·exact absurd q.symm hx
 ·obtain⟨a,b,e,h1,h2⟩:=k q;exact⟨x::a,b,by rw[e];rfl,by simp only[List.mem_cons,not_or];exact⟨Jc hx,h1⟩,h2⟩
theorem zxb{h:List Nat}(k:47 ∉ h):OkW h:=λm=>absurd m k
theorem zyw{q:Sq}{h:List Nat}(hq:q=zS\/q=zT\/q=zA)(k:OkH q h):OkW h:=by
 rcases hq with rfl | rfl | rfl
 ·exact k
 ·exact k
 ·exact zxb k
theorem zso{c:Nat}(h:isO c=true):seps.contains c=true:=by
 have:c=42\/c=43\/c=45:=by simpa[isO,or_assoc]using h
 rcases this with h | h | h <;> subst h <;> decide
theorem zl4(no:NmO nm):∀(l:List Nat) (q:Sq) (e:Nat) (h:List Nat) (k:List (List Nat)),(∀j,q=zB j->j<=30)->acc nm false ok q e l=true->spl 64 (sp5 l)=h::k->OkH q h/\∀w∈k,OkW w
 | [],q,e,h,k,hj,ha,hs=>by
  rw[show sp5 []=[] from rfl,spl]at hs;injection hs with e1 e2;subst e1 e2
  refine⟨?_,(λw hw=>nomatch hw)⟩
  cases q with
  | zBn=>rw[acc]at ha;cases ha
  | zB j=>exact⟨(λc hc=>nomatch hc),by simpa using hj j rfl⟩
  | _=>exact λm=>nomatch m
 | c::l,q,e,h,k,hj,ha,hs=>by
  obtain⟨h',k',e'⟩:=List.exists_cons_of_ne_nil (zdh 64 (sp5 l));rw[show sp5 (c::l)=(if seps.contains c then 64 else c)::sp5 l from rfl,spl]at hs;by_cases hc:seps.contains c=true
  ·rw[Yl hc,Yl rfl]at hs;injection hs with e1 e2;subst e1 e2
   have nx:∃q2 e2,(q2=zS\/q2=zT\/q2=zA)/\acc nm false ok q2 e2 l=true/\q≠zBn:=by
    by_cases c1:c=40
    ·subst c1;rw[zdt]at ha;simp only[Bool.and_eq_true]at ha;exact⟨_,_,.inl rfl,ha.2,λz=>by rw[z]at ha;cases ha.1.1⟩
    ·by_cases c2:c=41
     ·subst c2;rw[zdi]at ha;simp only[Bool.and_eq_true]at ha;exact⟨_,_,.inr (.inr rfl),ha.2,λz=>by rw[z]at ha;cases ha.1.1⟩
     ·have ho:isO c=true:=by
       have:c=40\/c=41\/c=42\/c=43\/c=45:=by simpa[seps]using hc
       rcases this with h | h | h | h | h
       ·exact absurd h c1
       ·exact absurd h c2
       all_goals (subst h;rfl)
      rw[zbq c1 c2]at ha;by_cases z:q=zS
      ·subst z;rw[step]at ha;by_cases c3:c=45
       ·subst c3;exact⟨_,_,.inr (.inl rfl),ha,λz=>nomatch z⟩
       ·rw[Yh (by simpa using c3)]at ha;have:=zlq (t:=false) no (q:=zT) (by simp) ho;rw[show step nm false zT c=fs nm false c from rfl]at this;rw[this]at ha;cases ha
      ·rw[zlq no z ho]at ha
       cases hf:fin q with
       | false=>rw[hf]at ha;cases ha
       | true=>
        rw[hf]at ha;exact⟨_,_,.inr (.inl rfl),ha,λz=>by rw[z]at hf;cases hf⟩
   obtain⟨q2,e2,hq2,ha2,nb⟩:=nx;obtain⟨i1,i2⟩:=zl4 no l q2 e2 h' k' (λj z=>by rcases hq2 with h | h | h <;> rw[h]at z <;> cases z) ha2 e';refine⟨?_,λw hw=>?_⟩
   ·cases q with
    | zBn=>exact absurd rfl nb
    | zB j=>exact⟨(λc hc=>nomatch hc),by simpa using hj j rfl⟩
    | _=>exact λm=>nomatch m
   ·rw[e']at hw;rcases Yj.mp hw with q | q
    ·rw[q];exact zyw hq2 i1
    ·exact i2 w q
  ·have c1:c≠40:=λz=>hc (by rw[z];rfl)
   have c2:c≠41:=λz=>hc (by rw[z];rfl)
   have co:isO c=false:=by
    cases z:isO c with
    | false=>rfl
    | true=>exact absurd (zso z) hc
   have c45:(c == 45)=false:=by
    cases z:(c == 45) with
    | false=>rfl
    | true=>exact absurd (by rw[Jt z];rfl) hc
   rw[zbq c1 c2]at ha;rw[Yh hc]at hs;have fsc:∀q',fs nm false c=some q'->(q'=zD 1/\isD c=true)\/(q'=zL/\c∈nm):=λq' hq=>by
    unfold fs at hq;split at hq
    ·rename_i z;exact .inl ⟨by injection hq with hq;exact hq.symm,z⟩
    ·split at hq
     ·rename_i z;exact .inr ⟨by injection hq with hq;exact hq.symm,by simpa using z⟩
     ·cases hq
   have c64:c≠64:=λz=>by
    subst z;have:nm.contains 64=false:=by
     cases z:nm.contains 64 with
     | false=>rfl
     | true=>exact absurd rfl (no 64 (by simpa using z)).2.2.2.2.2.2.2.1
    have f:fs nm false 64=none:=by unfold fs;rw[this];rfl
    have:step nm false q 64=none:=by cases q <;> first | exact f | rfl | (rw[step,f];rfl)
    rw[this]at ha;cases ha
   rw[Yh c64,e']at hs;injection hs with e1 e2;subst e1 e2
   cases s:step nm false q c with
   | none=>rw[s]at ha;cases ha
   | some q'=>
    rw[s]at ha;have ih:∀hj',_:=λhj'=>zl4 no l q' e h' k' hj' ha e'
    have fcase:fs nm false c=some q'->OkW (c::h')/\∀w∈k',OkW w:=λhf=>by
     rcases fsc q' hf with⟨z,zd⟩ | ⟨z,zd⟩
     ·subst z;obtain⟨i1,i2⟩:=ih (λj z=>nomatch z);exact⟨zg9 (d_ne zd).2.2.2.1 i1,i2⟩
     ·subst z;obtain⟨i1,i2⟩:=ih (λj z=>nomatch z);exact⟨zg9 (no c zd).2.2.2.2.2.2.1 (zxb i1),i2⟩
    cases q with
    | zS=>rw[step,c45]at s;exact fcase s
    | zT=>exact fcase s
    | zD j=>
     rw[step,op_n co]at s;split at s
     ·rename_i z
      split at s
      ·injection s with s;subst s;obtain⟨i1,i2⟩:=ih (λj z=>nomatch z);exact⟨zg9 (d_ne z).2.2.2.1 i1,i2⟩
      ·cases s
     ·split at s
      ·rename_i z;injection s with s;subst s
       obtain⟨i1,i2⟩:=ih (λj z=>nomatch z);have:=Jt z;subst this;exact⟨λ_=>⟨[],h',Z,(λz=>nomatch z),i1⟩,i2⟩
      ·cases s
    | zBn=>
     rw[step]at s;split at s
     ·rename_i z;injection s with s;subst s
      obtain⟨i1,i2⟩:=ih (λj z=>by injection z with z;omega);refine⟨⟨λx hx=>?_,by simp,by rw[List.length_cons];have:=i1.2;omega⟩,i2⟩;rcases Yj.mp hx with q | q
      ·rw[q];exact z
      ·exact i1.1 x q
     ·cases s
    | zB j=>
     rw[step,op_n co]at s;split at s
     ·rename_i z
      split at s
      ·rename_i zk;injection s with s;subst s
       obtain⟨i1,i2⟩:=ih (λj z=>by injection z with z;omega);refine⟨⟨λx hx=>?_,by rw[Y5];have:=i1.2;omega⟩,i2⟩;rcases Yj.mp hx with q | q
       ·rw[q];exact z
       ·exact i1.1 x q
      ·cases s
     ·cases s
    | zL=>
     rw[step,op_n co]at s;split at s
     ·rename_i z;injection s with s;subst s
      obtain⟨i1,i2⟩:=ih (λj z=>nomatch z);have:=Jt z;subst this;exact⟨λm=>(Yj.mp m).elim (λz=>by cases z) i1,i2⟩
     ·cases s
    | zPn=>
     rw[step]at s;split at s
     ·rename_i z;injection s with s;subst s
      obtain⟨i1,i2⟩:=ih (λj z=>nomatch z);exact⟨λm=>(Yj.mp m).elim (λq=>(d_ne z).2.2.2.1 q.symm) i1,i2⟩
     ·cases s
    | zP j=>
     rw[step,op_n co]at s;split at s
     ·rename_i z
      split at s
      ·injection s with s;subst s
       obtain⟨i1,i2⟩:=ih (λj z=>nomatch z);exact⟨λm=>(Yj.mp m).elim (λq=>(d_ne z).2.2.2.1 q.symm) i1,i2⟩
      ·cases s
     ·cases s
    | zA=>rw[step,op_n co]at s;cases s
theorem zop{w:List Nat}(h:OkW w)(m:47∈w):∃x y,spl 47 w=[x,y]/\bots w=[dgv y]/\(∀c∈y,isD c=true)/\y≠[]/\y.length<=30:=by
 obtain⟨x,y,e,hx,hy,ne,l⟩:=h m;refine⟨x,y,?_,?_,hy,ne,l⟩
 ·rw[e,ziy 47 x y hx,zeo 47 y (d_47 hy)]
 ·rw[e,ze7 x _ hx];have:=zqp (ds:=y) (r:=[]) hy (λc hc=>nomatch hc);rw[List.append_nil]at this;rw[this];rfl
theorem zuh{w:List Nat}(m:47 ∉ w):bots w=[]:=by
 have:=ze7 w [] m;rwa [List.append_nil]at this
theorem st_t{q:Sq}{c:Nat}(h:c≠64):step nm false q c=step nm true q c:=by
 have:(c == 64)=false:=by simpa using h
 cases q <;> simp[step,fs,this]
theorem zpg:∀(l:List Nat) (q:Sq) (e:Nat),64 ∉ l->acc nm false ok q e l=acc nm true ok q e l
 | [],q,e,_=>rfl
 | c::l,q,e,h=>by
  simp only[List.mem_cons,not_or]at h
  by_cases c1:c=40
  ·subst c1;rw[zdt,zdt,zpg l _ _ h.2]
  ·by_cases c2:c=41
   ·subst c2;rw[zdi,zdi,zpg l _ _ h.2]
   ·rw[zbq c1 c2,zbq c1 c2,st_t (Jc h.1)]
    cases step nm true q c with
    | none=>rfl
    | some q'=>exact zpg l q' e h.2
theorem zkt(no:NmO nm):∀(l:List Nat) (q:Sq) (e:Nat),64∈l->acc nm false ok q e l=false
 | [],q,e,h=>nomatch h
 | c::l,q,e,h=>by
  by_cases c1:c=40
  ·subst c1;rcases Yj.mp h with z | z
   ·cases z
   ·rw[zdt,zkt no l _ _ z];simp
  ·by_cases c2:c=41
   ·subst c2;rcases Yj.mp h with z | z
    ·cases z
    ·rw[zdi,zkt no l _ _ z];simp
   ·rw[zbq c1 c2];rcases Yj.mp h with z | z
    ·subst z;have:nm.contains 64=false:=by
      cases z:nm.contains 64 with
      | false=>rfl
      | true=>exact absurd rfl (no 64 (by simpa using z)).2.2.2.2.2.2.2.1
     have f:fs nm false 64=none:=by unfold fs;rw[this];rfl
     have:step nm false q 64=none:=by cases q <;> first | exact f | rfl | (rw[step,f];rfl)
     rw[this]
    ·cases step nm false q c with
     | none=>rfl
     | some q'=>exact zkt no l q' e z
theorem zsg{l:List Nat}(h:64 ∉ l):acc nm false ok zS 0 l=(pf ok 0 l&&acc nm true yes zS 0 l):=by
 rw[zpg l _ _ h]
 cases z:pf ok 0 l with
 | true=>rw[zkp l _ _ z];rfl
 | false=>
  cases y:acc nm true ok zS 0 l with
  | false=>rfl
  | true=>rw[zhy l _ _ y]at z;cases z
def isB(c:Nat):Bool:=c == 40||c == 41||c == 42||c == 43||c == 45
def stt:Bool->List Nat->Nat
 | _,[]=>0
 | p,c::r=>if c=32 then stt p r else if isB c then stt (c != 41) r else(if p then 1 else 0)+stt false r
theorem zl9:∀(l:List Nat),stt false l<=stt true l/\stt true l<=stt false l+1
 | []=>⟨Yi _,Nat.le_succ _⟩
 | c::l=>by
  rw[stt,stt];split
  ·exact zl9 l
  ·split
   ·exact⟨Yi _,Nat.le_succ _⟩
   ·simp;omega
theorem zj3(p q:Bool)(l:List Nat):stt p l<=stt q l+1:=by
 have:=zl9 l
 cases p <;> cases q <;> omega
def flg:Bool->List Nat->Bool
 | p,[]=>p
 | p,c::r=>if c=32 then flg p r else if isB c then flg (c != 41) r else flg false r
theorem zcj:∀(a b:List Nat) (p:Bool),stt p (a++b)=stt p a+stt (flg p a) b
 | [],b,p=>by show stt p b=0+stt p b;omega
 | c::a,b,p=>by
  show stt p (c::(a++b))=_;rw[stt,stt,flg];split
  ·exact zcj a b p
  ·split
   ·exact zcj a b _
   ·rw[zcj a b false];omega
theorem zn8(a b:List Nat)(c:Nat)(p:Bool):stt p (a++c::b)<=stt p (a++b)+1:=by
 rw[zcj,zcj,stt];split
 ·omega
 ·split
  ·have:=zj3 (c != 41) (flg p a) b;omega
  ·have h1:=zl9 b
   cases flg p a
   ·simp
   ·simp;omega
theorem zr2(a b:List Nat)(c:Nat)(p:Bool):stt p (a++b)<=stt p (a++c::b)+1:=by
 rw[zcj,zcj,stt];split
 ·omega
 ·split
  ·have:=zj3 (flg p a) (c != 41) b;omega
  ·have h1:=zj3 (flg p a) false b;omega
theorem zn2(a b:List Nat)(p:Bool):stt p (a++b.drop 1)<=stt p (a++b)+1:=by
 cases b with
 | nil=>exact Nat.le_succ _
 | cons c b=>exact zr2 a b c p
def Nst(l:List Nat):Prop:=∀c∈l,c=32\/isB c=true
theorem zdo:∀{l:List Nat} (p:Bool),Nst l->stt p l=0
 | [],_,_=>rfl
 | c::l,p,h=>by
  rw[stt];rcases h c (by simp) with z | z
  ·rw[Yl z];exact zdo p λx hx=>h x (by simp[hx])
  ·split
   ·exact zdo p λx hx=>h x (by simp[hx])
   ·exact zdo _ λx hx=>h x (by simp[hx])
def Wrd(l:List Nat):Prop:=∀c∈l,c≠32/\isB c=false
theorem zno:∀{l:List Nat},Wrd l->stt false l=0/\stt true l<=1
 | [],_=>⟨rfl,Y2 _⟩
 | c::l,h=>by
  obtain⟨h1,h2⟩:=h c (by simp);have i:=zno (l:=l) λx hx=>h x (by simp[hx])
  rw[stt,stt,Yh h1,Yh h1,h2];simp;omega
theorem zwz{l:List Nat}(h:Wrd l)(p:Bool):stt p l<=1:=by
 have:=zno h
 cases p <;> omega
theorem zg1:∀(l:List Nat) (p:Bool),stt p (l.filter λc => !(c == 32))=stt p l
 | [],_=>rfl
 | c::l,p=>by
  rw[List.filter_cons,stt];by_cases z:c=32
  ·subst z;rw[Yh (by simp),Yl rfl];exact zg1 l p
  ·rw[Yl (by simpa using z),Yh z,stt,Yh z];split
   ·exact zg1 l _
   ·rw[zg1 l]
theorem zsn{c:Nat}{r:List Nat}(h:c≠32/\isB c=false):stt true (c::r)=1+stt false r:=by rw[stt,Yh h.1,h.2];rfl
theorem zpa:∀{w:List Nat} (r:List Nat),Wrd w->stt false (w++r)=stt false r
 | [],_,_=>rfl
 | c::w,r,h=>by
  obtain⟨h1,h2⟩:=h c (by simp);show stt false (c::(w++r))=_;rw[stt,Yh h1,h2,zpa r λx hx=>h x (by simp[hx])];simp
theorem znz{ds:List Nat}(h:∀c∈ds,isD c=true):Wrd ds:=λc hc=>by
 have:=h c hc;refine⟨(λz=>by subst z;cases this),?_⟩
 cases z:isB c with
 | false=>rfl
 | true=>
  have q:c=40\/c=41\/c=42\/c=43\/c=45:=by simpa[isB,or_assoc]using z
  rcases q with q | q | q | q | q <;> subst q <;> cases this
theorem zkn(c:Nat):∀(ps:List (List Nat)) (h:List Nat),c ∉ h->(∀p∈ps,c ∉ p)->spl c (h++(ps.flatMap λp=>c::p))=h::ps
 | [],h,hh,_=>by rw[List.flatMap_nil,List.append_nil];exact zeo c h hh
 | p::ps,h,hh,hp=>by
  rw[List.flatMap_cons];show spl c (h++(c::(p++(ps.flatMap λp=>c::p))))=_;rw[ziy c h _ hh,zkn c ps p (hp p (by simp)) λq hq=>hp q (by simp[hq])]
end
open PySem
theorem zli(c:Nat):∀(ps:List Str) (p:Str),(Str.join ⟨#[c]⟩ (p::ps)).cps.toList=p.cps.toList++(ps.map (·.cps.toList)).flatMap λq=>c::q
 | [],p=>by simp[Str.join]
 | q::ps,p=>by
  show (p++⟨#[c]⟩++Str.join ⟨#[c]⟩ (q::ps)).cps.toList=_;rw[Str.cps_append,Str.cps_append,Array.toList_append,Array.toList_append,zli c ps q];simp
theorem zj8(x y:Str):Txt.split x y≠[]:=λh=>by
 unfold Txt.split at h;split at h
 ·cases h
 ·split at h
  ·cases h
  ·have:=Js List.length h;rw[PySem.length_partsBetween]at this
   cases this
theorem zc7(x:Str)(c:Nat):(Txt.split x ⟨#[c]⟩).map (·.cps.toList)=spl c x.cps.toList:=by
 have e:=StrLaws.join_split x ⟨#[c]⟩;have f:=StrLaws.split_free x c
 cases h:Txt.split x ⟨#[c]⟩ with
 | nil=>exact absurd h (zj8 _ _)
 | cons p ps=>
  rw[h]at e f;have e2:x.cps.toList=_:=(Js (λy:Str=>y.cps.toList) e).symm.trans (zli c ps p);rw[e2,zkn c _ _ (f p (by simp)) λq hq=>?_]
  ·rfl
  ·obtain⟨y,hy,rfl⟩:=Ji.mp hq;exact f y (by simp[hy])
theorem zre(z:Str):∀(ps:List Str) (p:Str),(Str.join z (p::ps)).cps.toList=p.cps.toList++(ps.map (·.cps.toList)).flatMap λq=>z.cps.toList++q
 | [],p=>by simp[Str.join]
 | q::ps,p=>by
  show (p++z++Str.join z (q::ps)).cps.toList=_;rw[Str.cps_append,Str.cps_append,Array.toList_append,Array.toList_append,zre z ps q];simp
theorem zng(x z:Str)(c:Nat):(Txt.replace x ⟨#[c]⟩ z).cps.toList=x.cps.toList.flatMap λy=>if y=c then z.cps.toList else [y]:=by
 rw[StrLaws.replace_one];have e:=StrLaws.join_split x ⟨#[c]⟩;have f:=StrLaws.split_free x c;have fr:∀l:List Nat,c ∉ l->(l.flatMap λy=>if y=c then z.cps.toList else [y])=l:=by
  intro l hl;induction l with
  | nil=>rfl
  | cons y l ih=>
   simp only[List.mem_cons,not_or]at hl
   rw[List.flatMap_cons,ih hl.2,Yh (Jc hl.1)];rfl
 cases h:Txt.split x ⟨#[c]⟩ with
 | nil=>exact absurd h (zj8 _ _)
 | cons p ps=>
  rw[h]at e f;have e2:x.cps.toList=_:=(Js (λy:Str=>y.cps.toList) e).symm.trans (zli c ps p);rw[e2,zre,List.flatMap_append,fr _ (f p (by simp))];congr 1;have:∀ps:List Str,(∀q∈ps,c ∉ q.cps.toList)->((ps.map (·.cps.toList)).flatMap λq=>z.cps.toList++q)=((ps.map (·.cps.toList)).flatMap λq=>c::q).flatMap λy=>if y=c then z.cps.toList else [y]:=by
   intro ps;induction ps with
   | nil=>intro _;rfl
   | cons q ps ih=>
    intro hq;rw[Yz,List.flatMap_cons,List.flatMap_cons,List.flatMap_append,ih λr hr=>hq r (by simp[hr]),List.flatMap_cons,fr _ (hq q (by simp)),Yl rfl]
  exact this ps λq hq=>f q (by simp[hq])
theorem zgf(x:Str)(c i:Nat):StrLaws.At x ⟨#[c]⟩ x.length i↔x.cps.toList[i]? = some c:=by
 unfold StrLaws.At;rw[StrLaws.subAt_eq];have l1:(⟨#[c]⟩:Str).length=1:=rfl;have lx:x.length=x.cps.toList.length:=Array.length_toList.symm;rw[l1,lx,show (⟨#[c]⟩:Str).cps.toList=[c] from rfl];constructor
 ·rintro⟨h1,h2⟩;have h2:=Jt h2;rw[List.drop_eq_getElem_cons (by omega)]at h2;rw[Yc (by omega)];have:x.cps.toList[i]=c:=by injection h2
  rw[this]
 ·intro h;have hl:i<x.cps.toList.length:=by
   rcases Jg i x.cps.toList.length with q | q
   ·exact q
   ·rw[Yy q]at h;cases h
  rw[Yc hl]at h;injection h with h
  refine⟨by omega,?_⟩;rw[List.drop_eq_getElem_cons hl,h];simp
theorem ztj{x:Str}{c:Nat}{u w:List Nat}(e:x.cps.toList=u++c::w)(h:c ∉ u):Txt.find x ⟨#[c]⟩=(u.length:Int):=by
 have hu:x.cps.toList[u.length]? = some c:=by rw[e];simp
 rcases PyProof.Rows.find_whole x ⟨#[c]⟩ with⟨_,z⟩ | ⟨i,ei,hi,lo⟩
 ·exact absurd ((zgf x c _).mpr hu) (z _)
 ·rw[ei];have hi:=(zgf x c i).mp hi;rcases Nat.lt_trichotomy i u.length with q | q | q
  ·exfalso;rw[e,List.getElem?_append_left q]at hi;exact h (Yx hi)
  ·rw[q]
  ·exact absurd ((zgf x c _).mpr hu) (lo _ q)
theorem zog{x:Str}{c:Nat}{u w:List Nat}(e:x.cps.toList=u++c::w)(h:c ∉ w):Txt.rfind x ⟨#[c]⟩=(u.length:Int):=by
 have hu:x.cps.toList[u.length]? = some c:=by rw[e];simp
 rcases PyProof.Rows.rfind_whole x ⟨#[c]⟩ with⟨_,z⟩ | ⟨i,ei,hi,lo⟩
 ·exact absurd ((zgf x c _).mpr hu) (z _)
 ·rw[ei];have hi:=(zgf x c i).mp hi;rcases Nat.lt_trichotomy i u.length with q | q | q
  ·exact absurd ((zgf x c _).mpr hu) (lo _ q)
  ·rw[q]
  ·exfalso;rw[e,List.getElem?_append_right (by omega)]at hi;obtain⟨j,hj⟩:∃j,i-u.length=j+1:=⟨i-u.length-1,by omega⟩;rw[hj,List.getElem?_cons_succ]at hi;exact h (Yx hi)
theorem zg4{c:Nat}:∀{l:List Nat},c∈l->∃u w,l=u++c::w/\c ∉ u
 | x::l,h=>by
  by_cases z:x=c
  ·exact⟨[],l,by rw[z];rfl,(λq=>nomatch q)⟩
  ·rcases Yj.mp h with q | q
   ·exact absurd q.symm z
   ·obtain⟨u,w,e,hu⟩:=zg4 q;exact⟨x::u,w,by rw[e];rfl,by simp only[List.mem_cons,not_or];exact⟨Jc z,hu⟩⟩
theorem zsj{c:Nat}{l:List Nat}(h:c∈l):∃u w,l=u++c::w/\c ∉ w:=by
 obtain⟨u,w,e,hu⟩:=zg4 (List.mem_reverse.mpr h);refine⟨w.reverse,u.reverse,?_,λz=>hu (List.mem_reverse.mp z)⟩;have:=Js List.reverse e;rw[List.reverse_reverse]at this;rw[this];simp
end K15
namespace G
open L2 PySem K1 K2 K3 K6 K8 K37
section
variable{F:Type}[Lean.Grind.Field F]{n:Int}
def asum(N:List Int->Int)(S:List (List Int)):Nat:=(S.map λt=>(N t).natAbs).sum
def Bd(n:Int)(k:Nat)(φ : Po F):Prop:=n=0->∃(D:Int) (N:List Int->Int),D≠0/\D.natAbs<=10^k/\(∀t,φ t*ic D=ic (N t))/\∀S:List (List Int),S.Nodup->asum N S<=10^k
theorem zdq(N:List Int->Int)(t:List Int)(S:List (List Int)):asum N (t::S)=(N t).natAbs+asum N S:=by unfold asum;simp
theorem Bd.up{j k:Nat}{φ : Po F}(h:Bd n j φ)(hk:j<=k):Bd n k φ:=λz=>by
 obtain⟨D,N,d0,d1,e,b⟩:=h z;have p:=Yv (show 0<10 by decide) hk;exact⟨D,N,d0,Yr d1 p,e,λS hS=>Yr (b S hS) p⟩
theorem Bd.zero{k:Nat}:Bd n k (λ_=>(0:F)):=λ_=>by
 refine⟨1,λ_=>0,by decide,Nat.one_le_pow _ _ (by decide),λt=>by rw[zd7];grind,λS _=>?_⟩;have:∀S:List (List Int),asum (λ_=>0) S=0:=by
  intro S;induction S with
  | nil=>rfl
  | cons t S ih=>rw[zdq,ih];rfl
 rw[this];exact Y2 _
theorem zmc{k:Nat}(h:k<=600):10^k<2^8900:=by
 have h1:10^k<=16^k:=Nat.pow_le_pow_left (by decide) k;have h2:(16:Nat)^k=2^(4*k):=by rw[Nat.pow_mul]
 rw[h2]at h1;exact Yp h1 (Nat.pow_lt_pow_right (by decide) (by omega))
theorem Bd.lim{k:Nat}{φ : Po F}(h:Bd n k φ)(hk:k<=600)(t:List Int):Lim n 8900 (φ t):=λz=>by
 obtain⟨D,N,d0,d1,e,b⟩:=h z;have:=b [t] (by simp);rw[zdq]at this;exact⟨N t,D,d0,e t,Yp (by omega) (zmc hk),Yp d1 (zmc hk)⟩
theorem zkh{N:List Int->Int}{t:List Int}(h:∀u,u≠t->N u=0):∀{S:List (List Int)},S.Nodup->asum N S<=(N t).natAbs
 | [],_=>Y2 _
 | u::S,hS=>by
  rw[List.nodup_cons]at hS;rw[zdq];by_cases c:u=t
  ·subst c;have:∀S:List (List Int),u ∉ S->asum N S=0:=by
    intro S;induction S with
    | nil=>intro _;rfl
    | cons v S ih=>
     intro hv;simp only[List.mem_cons,not_or]at hv;rw[zdq,ih hv.2,h v (Jc hv.1)];rfl
   rw[this S hS.1];omega
  ·rw[h u c];have:=zkh h hS.2;simpa using this
theorem Bd.one{k:Nat}{φ : Po F}{t:List Int}{x:F}{a b:Int}(h1 : φ t=x)(h2:∀u,u≠t->φ u=0)(hb:b≠0)(e:x*ic b=ic a)(ha:a.natAbs<=10^k)(hb':b.natAbs<=10^k):Bd n k φ:=λ_=>by
 refine⟨b,λu=>if u=t then a else 0,hb,hb',λu=>?_,λS hS=>Yr (zkh (t:=t) (λu hu=>Yh hu) hS) (by show (if t=t then a else 0:Int).natAbs<=_;rw[Yl rfl];exact ha)⟩;by_cases c:u=t
 ·subst c;rw[h1];show _=ic (if u=u then a else 0);rw[Yl rfl];exact e
 ·rw[h2 u c];show _=ic (if u=t then a else 0);rw[Yh c,zd7];grind
theorem zgm{N M:List Int->Int}{a b:Int}:∀S:List (List Int),asum (λt=>N t*a+M t*b) S<=asum N S*a.natAbs+asum M S*b.natAbs
 | []=>Y2 _
 | t::S=>by
  rw[zdq,zdq,zdq,Nat.add_mul,Nat.add_mul];have ih:=zgm (N:=N) (M:=M) (a:=a) (b:=b) S;have h:=Int.natAbs_add_le (N t*a) (M t*b);rw[Int.natAbs_mul,Int.natAbs_mul]at h;show (N t*a+M t*b).natAbs+_<=_;omega
theorem Bd.add{j k:Nat}{φ ψ : Po F}(h:Bd n j φ)(h':Bd n k ψ):Bd n (j+k+1) (λt=>φ t + ψ t):=λz=>by
 obtain⟨D,N,d0,d1,e,b⟩:=h z;obtain⟨D',N',d0',d1',e',b'⟩:=h' z;have pw:10^(j+k+1)=10*(10^j*10^k):=by rw[Nat.pow_succ,Nat.pow_add,Nat.mul_comm]
 refine⟨D*D',λt=>N t*D'+N' t*D,(λq=>by rcases Int.mul_eq_zero.mp q with q | q;exact d0 q;exact d0' q),?_,λt=>?_,λS hS=>?_⟩
 ·rw[Int.natAbs_mul,pw];have:=Nat.mul_le_mul d1 d1';omega
 ·rw[zby,zjm,zby,zby,<- e t,<- e' t];grind
 ·refine Yr (zgm S) ?_;have q1:=Nat.mul_le_mul (b S hS) d1';have q2:=Nat.mul_le_mul (b' S hS) d1;rw[Nat.mul_comm (10^k)]at q2;rw[pw];omega
def shI(l:List Int)(N:List Int->Int):List Int->Int:=λt=>if t.length=l.length then N (subT t l) else 0
def isum(f:List Int->Int):List (List Int)->Int
 | []=>0
 | o::S=>f o+isum f S
theorem zs0{N:List Int->Int}{M:Nat}(h:∀S:List (List Int),S.Nodup->asum N S<=M)(l:List Int){S:List (List Int)}(hS:S.Nodup):asum (shI l N) S<=M:=by
 have e:asum (shI l N) S=asum N ((S.filter λt=>decide (t.length=l.length)).map λt=>subT t l):=by
  clear hS;induction S with
  | nil=>rfl
  | cons t S ih=>
   rw[zdq,List.filter_cons,ih];unfold shI;by_cases c:t.length=l.length
   ·rw[Yl c,Yl (by simpa using c),Yz,zdq]
   ·rw[Yh c,Yh (by simpa using c)];simp
 rw[e];refine h _ ?_;have hf:(S.filter λt=>decide (t.length=l.length)).Nodup:=hS.filter _;have hl:∀t∈(S.filter λt=>decide (t.length=l.length)),t.length=l.length:=λt ht=>by simpa using (List.mem_filter.mp ht).2
 generalize (S.filter λt=>decide (t.length=l.length))=R at hf hl;clear e hS;induction R with
 | nil=>simp
 | cons t R ih=>
  rw[List.nodup_cons]at hf;rw[Yz,List.nodup_cons];refine⟨λm=>?_,ih hf.2 λu hu=>hl u (by simp[hu])⟩;obtain⟨u,hu,eu⟩:=Ji.mp m;have e1:=zi9 (hl t (by simp));have e2:=zi9 (hl u (by simp[hu]));rw[<- eu,e2]at e1;exact hf.1 (e1 ▸ hu)
theorem zji{N N':List Int->Int}{M':Nat}(h':∀S:List (List Int),S.Nodup->asum N' S<=M'){S:List (List Int)}(hS:S.Nodup):∀R:List (List Int),asum (λt=>isum (λo=>N o*shI o N' t) R) S<=asum N R*M'
 | []=>by
  have:asum (λt=>isum (λo=>N o*shI o N' t) []) S=0:=by
   clear hS;induction S with
   | nil=>rfl
   | cons t S ih=>rw[zdq,ih];rfl
  rw[this];exact Y2 _
 | o::R=>by
  have ih:=zji (N:=N) h' hS R;have q:=zgm (N:=shI o N') (M:=λt=>isum (λo=>N o*shI o N' t) R) (a:=N o) (b:=1) S;rw[zdq,Nat.add_mul];have e:(λt=>isum (λo=>N o*shI o N' t) (o::R))=λt=>shI o N' t*N o+isum (λo=>N o*shI o N' t) R*1:=funext λt=>by
   show N o*shI o N' t+_=_;rw[Int.mul_one,Int.mul_comm]
  rw[e];refine Yr q ?_;have q2:=Y4 (N o).natAbs (zs0 h' o hS);rw[Nat.mul_comm M']at q2;have:(1:Int).natAbs=1:=rfl;rw[this,Nat.mul_one];omega
theorem Bd.mul{j k:Nat}{φ ψ : Po F}(h:Bd n j φ)(h':Bd n k ψ){R:List (List Int)}(hR:R.Nodup):Bd n (j+k) (G.mul R φ ψ):=λz=>by
 obtain⟨D,N,d0,d1,e,b⟩:=h z;obtain⟨D',N',d0',d1',e',b'⟩:=h' z;refine⟨D*D',λt=>isum (λo=>N o*shI o N' t) R,(λq=>by rcases Int.mul_eq_zero.mp q with q | q;exact d0 q;exact d0' q),?_,λt=>?_,λS hS=>?_⟩
 ·rw[Int.natAbs_mul,Nat.pow_add];exact Nat.mul_le_mul d1 d1'
 ·clear hR b b' d1 d1';show sm (λo=>φ o*sh o ψ t) R*_=_;induction R with
  | nil=>show (0:F)*_=ic 0;rw[zd7];grind
  | cons o R ih=>
   show (φ o*sh o ψ t+sm (λo=>φ o*sh o ψ t) R)*_=ic (N o*shI o N' t+isum (λo=>N o*shI o N' t) R);have es:sh o ψ t*ic D'=ic (shI o N' t):=by
    unfold sh shI;split
    ·exact e' _
    ·rw[zd7];grind
   have ih':sm (λo=>φ o*sh o ψ t) R*ic (D*D')=ic (isum (λo=>N o*shI o N' t) R):=ih;rw[zjm,<- ih',zby (N o),<- e o,<- es,zby D];grind
 ·rw[Nat.pow_add];exact Yr (zji b' hS R) (Y4 _ (b R hR))
theorem zp5(o:List Int)(φ ψ : Po F)(t:List Int):G.mul [o] φ ψ t = φ o*sh o ψ t:=by
 show φ o*sh o ψ t+0=_;grind
theorem Bd.lim1{j k:Nat}{φ ψ : Po F}(h:Bd n j φ)(h':Bd n k ψ)(hk:j+k<=600)(o t:List Int):Lim n 8900 (φ o*sh o ψ t):=by
 rw[<- zp5];exact(h.mul h' (R:=[o]) (by simp)).lim hk t
end
end G
namespace K6
open PySem L2
theorem xl{α : Sort _}{p : α->Prop}{r:Prop}(h:∀a,p a->r):(∃a,p a)->r:=λq=>q.elim h
theorem xg{S G:Prop}(h:∀g:Prop,g=G->S->g):S->G:=h G rfl
theorem sab{A R:TS}{D:Ends}{σ : St}{H:Hp}(h:∀r:TS,r=R->tSeq A r D σ H):tSeq A R D σ H:=h R rfl
theorem sM{N P:List Str}{sc:Scope}(h:sc.kind=.function/\sc.isCoroutine=false/\sc.isGenerator=false/\N.Nodup/\N.take P.length=P/\(∀x∈P,sc.names.lookup x=some .local\/sc.names.lookup x=some .cell)/\∀y∈sc.names,y.2≠.free):FnScope N P sc:=⟨h.1,h.2.1,h.2.2.1,h.2.2.2.1,h.2.2.2.2.1,h.2.2.2.2.2.1,h.2.2.2.2.2.2⟩
def top(i:Nat):Stmt:=PySem.Challenge.pw_idealroom_k15_texts_refused.main.body.getD i (.Pass ⟨0,0,0,0⟩)
abbrev zcb:Stmt:=top 27
abbrev ze1:Stmt:=top 28
abbrev zci:Stmt:=za0 (top 29) 0
abbrev zbo:Stmt:=za0 (top 30) 0
abbrev zbv:Stmt:=za0 (top 30) 1
abbrev zct:Stmt:=za0 (top 30) 2
abbrev zbb:Stmt:=za0 (top 30) 3
abbrev zcf:Stmt:=za0 (top 30) 4
abbrev zb6:Stmt:=za0 (top 30) 5
abbrev zcc:Stmt:=za0 (top 31) 0
abbrev zc2:Stmt:=za0 (top 31) 1
abbrev zef:Stmt:=za0 (top 31) 2
abbrev zdl:Stmt:=za0 (top 31) 4
abbrev zde:Stmt:=za0 (top 31) 5
abbrev zcx:Stmt:=za0 (top 31) 7
abbrev zdx:Stmt:=za0 (top 29) 2
abbrev zbt:Stmt:=za0 (top 31) 3
abbrev zdr:Stmt:=za0 (top 33) 5
abbrev zcu:Stmt:=za0 (top 36) 0
abbrev zfp:Stmt:=top 8
abbrev zgt:Stmt:=top 11
abbrev zgr:Stmt:=top 12
abbrev ziu:Stmt:=top 13
abbrev zeg:Stmt:=za0 (top 36) 2
abbrev zdd:Stmt:=za0 (top 21) 1
abbrev zcq:Stmt:=za0 (top 21) 2
abbrev zb4:Stmt:=za0 (top 21) 0
abbrev zcd:Stmt:=za0 (top 21) 10
abbrev zcm:Stmt:=za0 (top 21) 7
abbrev zc3:Stmt:=za0 (top 21) 8
abbrev zcp:Stmt:=za0 (top 21) 6
abbrev zce:Stmt:=za0 (top 21) 5
abbrev zbp:Stmt:=za0 (top 21) 4
abbrev zca:Stmt:=za0 (top 21) 9
abbrev zbw:Stmt:=za0 (top 21) 3
abbrev zcr:Stmt:=za0 (top 36) 4
abbrev zi3:Stmt:=top 9
abbrev zek:Stmt:=top 22
abbrev zei:Stmt:=top 23
abbrev zcy:Stmt:=za0 (top 36) 1
abbrev zlx:Stmt:=top 24
abbrev zcz:Stmt:=top 38
abbrev zcn:Stmt:=top 39
abbrev zds:Stmt:=top 41
abbrev zdn:Stmt:=top 40
abbrev zdc:Stmt:=top 43
abbrev zdk:Stmt:=top 44
abbrev zd9:Stmt:=top 45
abbrev zc4:Stmt:=top 46
abbrev zb3:Stmt:=top 47
abbrev zch:Stmt:=top 48
abbrev zc0:Stmt:=top 49
abbrev zd5:Stmt:=top 50
abbrev zc5:Stmt:=top 51
abbrev zbf:Stmt:=top 52
abbrev zea:Stmt:=top 42
abbrev zgy:Stmt:=top 53
structure Txt(P:Program)(w:World)(K:W.Frag)(mg:Str->Option Value)(base:Heap)(zau zad zaj zag zab:Addr):Prop where
 b_ValueError:mg "ValueError" = none
 b_abs:mg "abs" = none
 b_all:mg "all" = none
 b_dict:mg "dict" = none
 b_int:mg "int" = none
 b_isinstance:mg "isinstance" = none
 b_len:mg "len" = none
 b_list:mg "list" = none
 b_max:mg "max" = none
 b_range:mg "range" = none
 b_str:mg "str" = none
 b_tuple:mg "tuple" = none
 b_zip:mg "zip" = none
 cl_Ring:Cls K zau
 mg_Ring:mg "Ring" = some (.ref zau)
 na_Ring_many:NoAttr K zau "many"
 na_Ring_field:NoAttr K zau "field"
 na_Ring_order:NoAttr K zau "order"
 cl_Fractions:Cls K zad
 mg_Fractions:mg "Fractions" = some (.ref zad)
 na_Fractions_prime:NoAttr K zad "prime"
 cl_Rests:Cls K zaj
 mg_Rests:mg "Rests" = some (.ref zaj)
 na_Rests_prime:NoAttr K zaj "prime"
 cl_Order:Cls K zag
 mg_Order:mg "Order" = some (.ref zag)
 n0_Order:Mk0 K zag
 cl_Reader:Cls K zab
 mg_Reader:mg "Reader" = some (.ref zab)
 na_Reader_unknowns:NoAttr K zab "unknowns"
 na_Reader_text:NoAttr K zab "text"
 na_Reader_at:NoAttr K zab "at"
 na_Reader_depth:NoAttr K zab "depth"
 g_END:∃tk,mg "END" = some (.str " " tk)
 g_FIGURES:∃tk,mg "FIGURES" = some (.str "0123456789" tk)
 g_GREATEST_PRIME:∃tk,mg "GREATEST_PRIME" = some (.int 9973 tk)
 g_LETTERS:∃tk,mg "LETTERS" = some (.str "xyzt" tk)
 g_MOST_DEPTH:∃tk,mg "MOST_DEPTH" = some (.int 8 tk)
 g_MOST_SIGNS:∃tk,mg "MOST_SIGNS" = some (.int 300 tk)
 g_NUMBER_FIGURES:∃tk,mg "NUMBER_FIGURES" = some (.int 30 tk)
 g_POWER_FIGURES:∃tk,mg "POWER_FIGURES" = some (.int 2 tk)
 kdd:W.kitOne K (.type "dict") (.type "dict")=some true
theorem zdg:(["power","further"]:List Str).Nodup:=by decide +kernel
theorem zc9:(["place","at","power"]:List Str).Nodup:=by decide +kernel
theorem ze4:(["_law_half"]:List Str).Nodup:=by decide +kernel
theorem zvy{K:W.Frag}{H:Hp}{p:Addr}{xs:List V}{i:Int}{v:V}{Q:V->Hp->Prop}(h:SqT K H p xs)(h':atI xs i=some v)(q:Q v H):rIxT K (.ref p) (.int i) H Q:=⟨p,xs,i,v,Z,Z,h,h',q⟩
theorem uOne{k:Nat}{A:Around}(r:Room k A):A.units+1<cLine:=by have:=r.units;omega
theorem zdy{X:Cx}{x:Str}{i:Str}{pos:Pos}(hm:∃tk,X.mg x=some (.str i tk))(hg:Gl X x)(hd:(x == ("__debug__" : Str))=false:=by decide):PE X (.Name x pos) (tC (.str i)):=by
 obtain⟨tk,e⟩:=hm;exact zgp hg e ⟨tk,Z⟩ hd
end K6
namespace K6
open PySem L2
open K1 K2 K3 K6 K8 K37 G K15 K15.Sq
theorem zc1{a r:TS}{D:Ends}{σ : St}{H:Hp}(R:St->Hp->Prop)(hu:∀σ' H',R σ' H'->r D σ' H')(hc:∀N:St->Hp->Prop,(∀σ' H',R σ' H'->N σ' H')->a { D with nx:=N } σ H):tSeq a r D σ H:=by
 unfold tSeq;exact hc _ hu
def zfa:Sp:=λvs H Q _=>∃(a b:Int),vs=[.int a,.int b]/\0<=a/\0<=b/\Q (.int (gI a b)) H
def zjg(K:W.Frag):Sp:=λvs H Q _=>∃(p C dx:Addr) (v:V),vs=[.ref p,v]/\H p=some (.ins C dx [])/\Cls K C/\NoAttr K C "prime"/\Q .non (upd H p (.ins C dx [("prime",v)]))
def zgc(CF:Addr):Sp:=λvs H Q _=>∃(p dx:Addr),vs=[.ref p]/\H p=some (.ins CF dx [])/\Q .non (upd H p (.ins CF dx [("prime",.int 0)]))
def zfh(ns:List Int)(k:Int):Int:=ns.getD k.toNat 0
def zrp(K:W.Frag):Sp:=λvs H Q _=>∃(a:Addr) (ns:List Int) (k:Int),vs=[.ref a,.int k]/\SqL K H a (ns.map V.int)/\0<=k/\Q (.int (zfh ns k)) H
theorem zsb{ns:List Int}{k:Int}(h0:0<=k)(h:k<(ns.length:Int)):atI (ns.map V.int) k=some (.int (zfh ns k)):=by
 have hk:k.toNat<ns.length:=by omega
 have ek:k=((k.toNat:Nat):Int):=by omega
 have q:atI (ns.map V.int) ((k.toNat:Nat):Int)=some (.int ns[k.toNat]):=zdw (by rw[Ym,Yc hk] <;> rfl);rw[<- ek]at q;rw[q];unfold zfh;rw[List.getD_eq_getElem?_getD,Yc hk];rfl
def zly:Sp:=λvs H Q _=>∃(n:Int),vs=[.int n]/\n<=9973/\Q (.bl (isP n)) H
def zme(CR NP:Addr):Sp:=λvs H Q E=>∃(p dx:Addr) (n:Int),vs=[.ref p,.int n]/\H p=some (.ins CR dx []) /\
 ((n<=9973/\isP n=true/\Q .non (upd H p (.ins CR dx [("prime",.int n)])))\/((9973<n\/isP n=false)/\E (.ref NP) none H))
theorem zjq{d n:Int}(h2:2<=d)(h:d<=101) : -(2^64)<d/\d<2^64:=by omega
structure Nm(x y:Int):Prop where
 pos:1<=y
 bx:x.natAbs<2^8900
 bz:y.natAbs<2^8900
 cop:gI x y=1
theorem up{n a b:Nat}(h:n<2^a)(hab:a<=b):n<2^b:=Yf h (Yv (by decide) hab)
theorem Nm.mul{x y z t:Int}(h:Nm x y)(h':Nm z t):CMulC x z/\CMulC x t/\CMulC y t/\CMulC z y/\CMulC y z:=
 ⟨⟨up h.bx (by decide),up h'.bx (by decide)⟩,⟨up h.bx (by decide),up h'.bz (by decide)⟩,⟨up h.bz (by decide),up h'.bz (by decide)⟩,⟨up h'.bx (by decide),up h.bz (by decide)⟩,⟨up h.bz (by decide),up h'.bx (by decide)⟩⟩
def NumF(CF:Addr)(H:Hp)(p dx:Addr):Prop:=H p=some (.ins CF dx [("prime",.int 0)])
def Pair(H:Hp)(r:Addr)(x y:Int):Prop:=H r=some (.tup [.int x,.int y])
def zj7(CF:Addr)(t b:Int->Int->Int->Int->Int):Sp:=λvs H Q _=>∃(p dx ra rb:Addr) (x y z w:Int),vs=[.ref p,.ref ra,.ref rb]/\NumF CF H p dx/\Pair H ra x y/\Pair H rb z w/\Nm x y/\Nm z w /\
 ∀r H',Same H H'->Pair H' r (fT (t x y z w) (b x y z w)) (fB (t x y z w) (b x y z w))->Q (.ref r) H'
theorem ze2(a b:Int):gI (if a<0 then -a else a) b=gI a b:=zyj a b
theorem zo0{a b:Int}{n:Nat}(hb:b≠0)(h:b.natAbs<n):gI a b≠0/\(gI a b).natAbs<n:=by
 have:=zd3 (a:=a) hb;refine⟨by omega,Yp ?_ h⟩;unfold gI;rw[Int.natAbs_natCast];exact Nat.le_of_dvd (by omega) (Nat.gcd_dvd_right _ _)
theorem fdl{a b:Int}{n:Nat}(hb:b≠0)(h:a.natAbs<n):(Int.fdiv a (gI a b)).natAbs<n:=by
 have:=zd3 (a:=a) hb;exact Yp (ztp (zks a b) (by omega)) h
theorem fdr{a b:Int}{n:Nat}(hb:b≠0)(h:b.natAbs<n):(Int.fdiv b (gI a b)).natAbs<n:=by
 have:=zd3 (a:=a) hb;exact Yp (ztp (zfd a b) (by omega)) h
def NumR(CR:Addr)(H:Hp)(p dx:Addr)(n:Int):Prop:=H p=some (.ins CR dx [("prime",.int n)])/\Pr n/\n<=9973
theorem no_R(m:Str)(n:Int)(h:¬m = "prime"):([("prime",V.int n)]:List (Str×V)).lookup m=none:=by
 have e:(m == (Str.ofString "prime"))=false:=by
  cases q:(m == (Str.ofString "prime")) with
  | true=>exact absurd (Jt q) h
  | false=>rfl
 simp only[List.lookup,e]
def In(n a:Int):Prop:=0<=a/\a<n
def spC(v:V):Sp:=λvs H Q _=>∃(p:V),vs=[p]/\Q v H
def zhp(CR:Addr)(g:Int->Int->Int->Int):Sp:=λvs H Q _=>∃(p dx:Addr) (n a b:Int),vs=[.ref p,.int a,.int b]/\NumR CR H p dx n/\In n a/\In n b/\Q (.int (g n a b)) H
def Inv1(n a f:Int):Prop:=0<=f/\f<n/\(f*a-1)%n=0
def zxo(CR NO:Addr):Sp:=λvs H Q E=>∃(p dx:Addr) (n a:Int),vs=[.ref p,.int a]/\NumR CR H p dx n/\In n a/\((a≠0/\∀f,Inv1 n a f->Q (.int f) H)\/(a=0/\E (.ref NO) none H))
def zxq(CR NO:Addr):Sp:=λvs H Q E=>∃(p dx:Addr) (n a b:Int),vs=[.ref p,.int a,.int b]/\NumR CR H p dx n/\In n a/\In n b/\((b≠0/\∀f,Inv1 n b f->Q (.int (a*f%n)) H)\/(b=0/\E (.ref NO) none H))
theorem In.mod(t:Int){n:Int}(h:Pr n):In n (t%n):=by
 have:=h.1;exact⟨Jl _ (by omega),Jd _ (by omega)⟩
def zmt(x y:Int):Sp:=λvs H Q _=>∃(p:V),vs=[p]/\∀r H',Same H H'->H' r=some (.tup [.int x,.int y])->Q (.ref r) H'
def zq9(NO:Addr):Sp:=λvs H Q E=>∃(p:V) (t b:Int),vs=[p,.int t,.int b]/\b.natAbs<2^8900 /\
 ((b≠0/\∀r H',Same H H'->H' r=some (.tup [.int (fT t b),.int (fB t b)])->Q (.ref r) H')\/(b=0/\E (.ref NO) none H))
theorem zvv{t b:Int}(h:b≠0)(hb:b.natAbs<2^8900):dv t b≠0/\(dv t b).natAbs<2^8999:=⟨zp4 h,Yf (Yp (zyv h) hb) (Yv (by decide) (by decide))⟩
def AtF(CF:Addr)(H:Hp)(p:Addr):Prop:=∃dx,H p=some (.ins CF dx [("prime",.int 0)])
def AtR(CR:Addr)(n:Int)(H:Hp)(p:Addr):Prop:=∃dx,NumR CR H p dx n
theorem no_P(m:Str)(n:Int)(h:¬m = "prime"):([("prime",V.int n)]:List (Str×V)).lookup m=none:=no_R m n h
def AtN(CF CR:Addr)(n:Int):Hp->Addr->Prop:=if n=0 then AtF CF else AtR CR n
def RgO(CG:Addr)(dx:Addr)(m:Int)(pf po:Addr):HO:=.ins CG dx [("many",.int m),("field",.ref pf),("order",.ref po)]
def RgAt(CG:Addr)(H:Hp)(r:Addr)(m:Int)(pf po:Addr):Prop:=∃dx,H r=some (RgO CG dx m pf po)
theorem no_G{m:Int}{pf po:Addr}(x:Str)(h1:¬x = "many")(h2:¬x = "field")(h3:¬x = "order"):([("many",V.int m),("field",.ref pf),("order",.ref po)]:List (Str×V)).lookup x=none:=by
 have e:∀y:Str,¬x=y->(x == y)=false:=λy h=>by
  cases q:(x == y) with
  | true=>exact absurd (Jt q) h
  | false=>rfl
 simp only[List.lookup,e _ h1,e _ h2,e _ h3]
def spPl(n:Int)(At:Hp->Addr->Prop):Sp:=λvs H Q _=>∃(F:Type) (_:Lean.Grind.Field F) (_:Chr n F) (p:Addr) (v1 v2:V) (x y:F),vs=[.ref p,v1,v2]/\At H p/\Rep n H v1 x/\Rep n H v2 y/\Lim n 8900 x/\Lim n 8900 y/\∀v H',Same H H'->Rep n H' v (x+y)->Q v H'
def spTi(n:Int)(At:Hp->Addr->Prop):Sp:=λvs H Q _=>∃(F:Type) (_:Lean.Grind.Field F) (_:Chr n F) (p:Addr) (v1 v2:V) (x y:F),vs=[.ref p,v1,v2]/\At H p/\Rep n H v1 x/\Rep n H v2 y/\Lim n 8900 x/\Lim n 8900 y/\∀v H',Same H H'->Rep n H' v (x*y)->Q v H'
def spNo(c n:Int)(At:Hp->Addr->Prop):Sp:=λvs H Q _=>∃(F:Type) (_:Lean.Grind.Field F) (_:Chr n F) (p:Addr),vs=[.ref p]/\At H p/\∀v H',Same H H'->Rep n H' v (ic c:F)->Q v H'
structure FldP(P:Program)(w:World)(K:W.Frag)(mg:Str->Option Value)(base:Heap)(C:Addr)(At:Hp->Addr->Prop)(n:Int):Prop where
 same:∀{H H':Hp} {p:Addr},(∀b o,H b=some o->(∃C' dx fs,o=.ins C' dx fs)->H' b=some o)->At H p->At H' p
 ins:∀{H:Hp} {p:Addr},At H p->∃dx,H p=some (.ins C dx [("prime",.int n)])
 nought:MCal P w K mg base CX0 1 C "nought" ["self"] [] (spNo 0 n At)
 plus:MCal P w K mg base CX0 3 C "plus" ["self","a","b"] [] (spPl n At)
 times:MCal P w K mg base CX0 3 C "times" ["self","a","b"] [] (spTi n At)
theorem zp1{F:Type}[Lean.Grind.Field F][Chr 0 F]{H:Hp}{v:V}{x:F}(h:Rep 0 H v x)(l:Lim 0 8900 x):∃(r:Addr) (p q:Int),v=.ref r/\Pair H r p q/\Nm p q/\x*ic q=ic p:=by
 obtain⟨r,p,q,e,hr,q1,c,ex,h1,h2⟩:=zth h l;exact⟨r,p,q,e,hr,⟨q1,h1,h2,c⟩,ex⟩
theorem zrr{y w:Int}(hy:1<=y)(hw:1<=w):y*w≠0:=by intro q;rcases Int.mul_eq_zero.mp q with q | q <;> omega
theorem znh{c:Int}{At:Hp->Addr->Prop}:∀vs H Q E,spNo c 0 At vs H Q E->zmt c 1 vs H Q E:=λ_ _ _ _ ⟨F,_,_,p,e,_,k⟩=>⟨.ref p,e,λr _ e' h=>k _ _ e' (rep_0.mpr ⟨r,c,1,Z,h,by decide,zrs c,by rw[zhg];grind⟩)⟩
theorem zob{c n:Int}(hn:Pr n)(c0:0<=c)(c1:c<=1){At:Hp->Addr->Prop}:∀vs H Q E,spNo c n At vs H Q E->spC (.int c) vs H Q E:=λ_ _ _ _ ⟨F,_,_,p,e,_,k⟩=>
 ⟨.ref p,e,k _ _ (Same.refl _) ((zfw (ziz hn)).mpr ⟨c,Z,c0,by have:=hn.1;omega,Z⟩)⟩
theorem zt3{CF:Addr}:∀vs H Q E,spPl 0 (AtF CF) vs H Q E->zj7 CF (λx y z w=>x*w+z*y) (λx y z w=>y*w) vs H Q E:=λ_ _ _ _ ⟨F,_,_,p,v1,v2,a,b,e,⟨dx,ha⟩,i1,i2,s1,s2,k⟩=>by
 obtain⟨r1,x,y,rfl,h1,n1,q1⟩:=zp1 i1 s1;obtain⟨r2,z,w,rfl,h2,n2,q2⟩:=zp1 i2 s2;refine⟨p,dx,r1,r2,x,y,z,w,e,ha,h1,h2,n1,n2,λr H' e' h=>k _ _ e' (zgq (zrr n1.pos n2.pos) h ?_)⟩;rw[zjm,zby,zby,zby,<- q1,<- q2];grind
theorem zry{CF:Addr}:∀vs H Q E,spTi 0 (AtF CF) vs H Q E->zj7 CF (λx y z w=>x*z) (λx y z w=>y*w) vs H Q E:=λ_ _ _ _ ⟨F,_,_,p,v1,v2,a,b,e,⟨dx,ha⟩,i1,i2,s1,s2,k⟩=>by
 obtain⟨r1,x,y,rfl,h1,n1,q1⟩:=zp1 i1 s1;obtain⟨r2,z,w,rfl,h2,n2,q2⟩:=zp1 i2 s2;refine⟨p,dx,r1,r2,x,y,z,w,e,ha,h1,h2,n1,n2,λr H' e' h=>k _ _ e' (zgq (zrr n1.pos n2.pos) h ?_)⟩;rw[zby,zby,<- q1,<- q2];grind
theorem zui{CR:Addr}{n:Int}(hn:Pr n):∀vs H Q E,spPl n (AtR CR n) vs H Q E->zhp CR (λn a b=>(a+b)%n) vs H Q E:=λ_ _ _ _ ⟨F,_,_,p,v1,v2,a,b,e,⟨dx,ha⟩,i1,i2,s1,s2,k⟩=>by
 have n0:=ziz hn;have p2:=hn.1;obtain⟨x,rfl,x0,x1,q1⟩:=(zfw n0).mp i1;obtain⟨y,rfl,y0,y1,q2⟩:=(zfw n0).mp i2;exact⟨p,dx,n,x,y,e,ha,⟨x0,x1⟩,⟨y0,y1⟩,k _ _ (Same.refl _) ((zfw n0).mpr ⟨_,Z,Jl _ n0,Jd _ (by omega),by rw[zh2,zjm,q1,q2]⟩)⟩
theorem ztq{CR:Addr}{n:Int}(hn:Pr n):∀vs H Q E,spTi n (AtR CR n) vs H Q E->zhp CR (λn a b=>a*b%n) vs H Q E:=λ_ _ _ _ ⟨F,_,_,p,v1,v2,a,b,e,⟨dx,ha⟩,i1,i2,s1,s2,k⟩=>by
 have n0:=ziz hn;have p2:=hn.1;obtain⟨x,rfl,x0,x1,q1⟩:=(zfw n0).mp i1;obtain⟨y,rfl,y0,y1,q2⟩:=(zfw n0).mp i2;exact⟨p,dx,n,x,y,e,ha,⟨x0,x1⟩,⟨y0,y1⟩,k _ _ (Same.refl _) ((zfw n0).mpr ⟨_,Z,Jl _ n0,Jd _ (by omega),by rw[zh2,zby,q1,q2]⟩)⟩
theorem zwq{P:Program}{w:World}{K:W.Frag}{mg:Str->Option Value}{base:Heap}{CF CR:Addr}(h1:MCal P w K mg base CX0 1 CF "nought" ["self"] [] (spNo 0 0 (AtF CF)))
  (h3:MCal P w K mg base CX0 3 CF "plus" ["self","a","b"] [] (spPl 0 (AtF CF))) (h4:MCal P w K mg base CX0 3 CF "times" ["self","a","b"] [] (spTi 0 (AtF CF))):FldP P w K mg base CF (AtN CF CR 0) 0:=by
 have e:AtN CF CR 0=AtF CF:=Yl rfl;rw[e];exact⟨λk ⟨dx,h⟩=>⟨dx,k _ _ h ⟨_,_,_,Z⟩⟩,fun⟨dx,h⟩=>⟨dx,h⟩,h1,h3,h4⟩
theorem zws{P:Program}{w:World}{K:W.Frag}{mg:Str->Option Value}{base:Heap}{CF CR:Addr}{n:Int}(hn:Pr n)(h1:MCal P w K mg base CX0 1 CR "nought" ["self"] [] (spNo 0 n (AtR CR n)))
  (h3:MCal P w K mg base CX0 3 CR "plus" ["self","a","b"] [] (spPl n (AtR CR n))) (h4:MCal P w K mg base CX0 3 CR "times" ["self","a","b"] [] (spTi n (AtR CR n))):FldP P w K mg base CR (AtN CF CR n) n:=by
 have e:AtN CF CR n=AtR CR n:=Yh (ziz hn);rw[e];exact⟨λk ⟨dx,h⟩=>⟨dx,k _ _ h.1 ⟨_,_,_,Z⟩,h.2⟩,fun⟨dx,h⟩=>⟨dx,h.1⟩,h1,h3,h4⟩
def zwy(CR NO:Addr):Sp:=λvs H Q E=>∃(p dx:Addr) (n t b:Int),vs=[.ref p,.int t,.int b]/\NumR CR H p dx n/\((b%n≠0/\∀f,Inv1 n (b%n) f->Q (.int (t%n*f%n)) H)\/(b%n=0/\E (.ref NO) none H))
def AtO(C:Addr)(H:Hp)(p:Addr):Prop:=∃dx,H p=some (.ins C dx [])
def AtW(C:Addr)(ws:List Int)(H:Hp)(p:Addr):Prop:=∃dx wt,H p=some (.ins C dx [("weights",.ref wt)])/\H wt=some (.tup (ws.map V.int))
def AtK(CO CD CT CW:Addr)(k:Int)(ws:List Int):Hp->Addr->Prop:=if k=0 then AtO CO else if k=1 then AtO CD else if k=2 then AtO CT else AtW CW ws
def zib(CG:Addr):Sp:=λvs H Q _=>∃(r:Addr) (m:Int) (pf po:Addr),vs=[.ref r]/\RgAt CG H r m pf po/\1<=m/\m<=4/\Q (.str (cutS "xyzt" none (some m))) H
theorem zgx{m:Int}(h1:1<=m)(h2:m<=4):(cutS "xyzt" none (some m)).length<=sizeLine:=by
 rcases(by omega:m=1\/m=2\/m=3\/m=4) with rfl | rfl | rfl | rfl <;> decide +kernel
theorem zow:((("xyzt" : Str).length:Nat):Int)=4:=by decide +kernel
theorem zl(n:Nat)(h:n<=10000000):n<=sizeLine:=Yr h (by rw[sizeLine_eq];decide)
theorem zlt(n:Nat)(h:n<=10000000):n<sizeLine:=Yp h (by rw[sizeLine_eq];decide)
structure RgD where
 m:Nat
 pf:Addr
 po:Addr
 n:Int
 kd:Int
 ws:List Int
structure RgP(CG CF CR CO CD CT CW:Addr)(H:Hp)(r:Addr)(g:RgD):Prop where
 nb:g.n<=9973
 np:g.n=0\/Pr g.n
 m1:1<=g.m
 m4:g.m<=4
 k0:0<=g.kd
 k4:g.kd<4
 wn:Nn g.ws
 wb:∀x∈g.ws,x<10^31
 at_:RgAt CG H r g.m g.pf g.po
 fd:AtN CF CR g.n H g.pf
 od:AtK CO CD CT CW g.kd g.ws H g.po
theorem zex{CF CR:Addr}{n:Int}{H H':Hp}{p:Addr}(k:Fix H H')(h:AtN CF CR n H p):AtN CF CR n H' p:=by
 by_cases z:n=0
 ·subst z;have e:AtN CF CR 0=AtF CF:=Yl rfl;rw[e]at h ⊢;obtain⟨dx,q⟩:=h;exact⟨dx,k.ins q⟩
 ·have e:AtN CF CR n=AtR CR n:=Yh z;rw[e]at h ⊢;obtain⟨dx,q⟩:=h;exact⟨dx,k.ins q.1,q.2⟩
theorem zts{CO CD CT CW:Addr}{kd:Int}{ws:List Int}{H H':Hp}{p:Addr}(k:Fix H H')(h:AtK CO CD CT CW kd ws H p):AtK CO CD CT CW kd ws H' p:=by
 unfold AtK at h ⊢
 repeat' split at h
 all_goals (first | rw[Yl (by assumption)] | skip)
 all_goals (first | rw[Yh (by assumption)] | skip)
 all_goals (first | rw[Yl (by assumption)] | skip)
 all_goals (first | rw[Yh (by assumption)] | skip)
 all_goals (first | rw[Yl (by assumption)] | skip)
 all_goals (first | rw[Yh (by assumption)] | skip)
 all_goals (first | (obtain⟨dx,q⟩:=h;exact⟨dx,k.ins q⟩) | (obtain⟨dx,wt,q,q'⟩:=h;exact⟨dx,wt,k.ins q,k.tup _ _ q'⟩))
section
variable{CG CF CR CO CD CT CW:Addr}{H H':Hp}{r:Addr}{g:RgD}
theorem RgP.fix(k:Fix H H')(h:RgP CG CF CR CO CD CT CW H r g):RgP CG CF CR CO CD CT CW H' r g:=by
 obtain⟨dx,q⟩:=h.at_;exact⟨h.nb,h.np,h.m1,h.m4,h.k0,h.k4,h.wn,h.wb,⟨dx,k.ins q⟩,zex k h.fd,zts k h.od⟩
theorem RgP.same(e:Same H H')(h:RgP CG CF CR CO CD CT CW H r g):RgP CG CF CR CO CD CT CW H' r g:=h.fix (.of e)
end
def zxu:Sp:=λvs H Q _=>∃(p:V) (m:Int),vs=[p,.int m]/\Q (.bl true) H
def zu4(CG CO:Addr):Sp:=λvs H Q _=>∃(r dx:Addr) (m:Int) (pf po:Addr),vs=[.ref r,.int m,.ref pf,.ref po]/\H r=some (.ins CG dx [])/\1<=m/\m<=4/\(∃d,H po=some (.ins CO d []))/\∀H',H' r=some (RgO CG dx m pf po)->(∀b o,H b=some o->b≠r->H' b=some o)->Q .non H'
def zrv(K:W.Frag):Sp:=λvs H Q _=>∃(a b:Addr) (xs ys:List Int),vs=[.ref a,.ref b]/\SqT K H a (xs.map V.int)/\SqT K H b (ys.map V.int)/\xs.length<=1000/\∀r H',Same H H'->H' r=some (.tup ((addT xs ys).map V.int))->Q (.ref r) H'
def zut(CG CF CR CO CD CT CW:Addr):Sp:=λvs H Q _=>∃(F:Type) (_:Lean.Grind.Field F) (r d e:Addr) (g:RgD) (_:Chr g.n F) (kvs fvs:List (List Key×V)) (φ ψ : Po F),vs=[.ref r,.ref d,.ref e]/\RgP CG CF CR CO CD CT CW H r g/\d≠e/\H d=some (.dT kvs)/\H e=some (.dT fvs) /\
 PF g.n g.m H kvs φ/\PF g.n g.m H fvs ψ/\kvs.length+fvs.length<sizeLine/\(∀t,Lim g.n 8900 (φ t))/\(∀t,Lim g.n 8900 (ψ t)) /\
 ∀H' kvs',Kp [d] H H'->H' d=some (.dT kvs')->PF g.n g.m H' kvs' (λt=>φ t + ψ t)->kvs'.length<=kvs.length+fvs.length->Q .non H'
def zqf(CG CF CR CO CD CT CW:Addr):Sp:=λvs H Q _=>∃(F:Type) (_:Lean.Grind.Field F) (r:Addr) (v:V) (t e:Addr) (g:RgD) (_:Chr g.n F) (fvs:List (List Key×V)) (x:F) (l:List Int) (ψ : Po F),vs=[.ref r,v,.ref t,.ref e]/\RgP CG CF CR CO CD CT CW H r g /\
 Rep g.n H v x/\Lim g.n 8900 x/\H t=some (.tup (l.map V.int))/\T0 g.m l/\H e=some (.dT fvs)/\PF g.n g.m H fvs ψ/\(∀t,Lim g.n 8900 (ψ t))/\fvs.length<sizeLine /\
 ∀d H' kvs,H d=none->Same H H'->H' d=some (.dT kvs)->PF g.n g.m H' kvs (λt=>x*sh l ψ t)->kvs.length<=fvs.length->Q (.ref d) H'
theorem zfv{α : Type}{l:List α}{i:Nat}{a : α}(h:l[i]? = some a):i<l.length:=by
 rcases Jg i l.length with q | q
 ·exact q
 ·rw[Yy q]at h;cases h
def spUn(CG CF CR CO CD CT CW:Addr):Sp:=λvs H Q _=>∃(r:Addr) (g:RgD),vs=[.ref r]/\RgP CG CF CR CO CD CT CW H r g/\∀t H',Same H H'->H' t=some (.tup ((zer g.m).map V.int))->Q (.ref t) H'
theorem ztb(n:Nat):(List.replicate n [V.int 0]).flatten=(zer n).map V.int:=by unfold zer;rw[List.map_replicate];simp
def zqw(CG CF CR CO CD CT CW:Addr):Sp:=λvs H Q _=>∃(F:Type) (_:Lean.Grind.Field F) (r e1 e2:Addr) (g:RgD) (_:Chr g.n F) (fvs gvs:List (List Key×V)) (φ ψ : Po F) (k1 k2:Nat),vs=[.ref r,.ref e1,.ref e2]/\RgP CG CF CR CO CD CT CW H r g/\e1≠e2/\H e1=some (.dT fvs)/\H e2=some (.dT gvs)/\PF g.n g.m H fvs φ/\PF g.n g.m H gvs ψ/\(fvs.length+1)*(gvs.length+1)<=1000000/\Bd g.n k1 φ/\Bd g.n k2 ψ/\k1+k2<=600 /\
 ∀d H' kvs,H d=none->Same H H'->H' d=some (.dT kvs)->PF g.n g.m H' kvs (mul (tms fvs) φ ψ)->Bd g.n (k1+k2) (mul (tms fvs) φ ψ)->kvs.length<=fvs.length*gvs.length->Q (.ref d) H'
def sg(t:Str)(i:Nat):Nat:=t.cps.toList.getD i 32
def RdO(u t:Str)(i e:Int):List (Str×V):=[("unknowns",.str u),("text",.str t),("at",.int i),("depth",.int e)]
structure RdA(C:Addr)(H:Hp)(p dx:Addr)(u t:Str)(i e:Nat):Prop where
 at_:H p=some (.ins C dx (RdO u t i e))
 tl:t.length<=300
 ul:u.length<=4
theorem RdA.same{C:Addr}{H H':Hp}{p dx:Addr}{u t:Str}{i e:Nat}(h:RdA C H p dx u t i e)(k:Same H H'):RdA C H' p dx u t i e:={ h with at_:=k _ _ h.at_ }
theorem putAt(u t:Str)(i j e:Int):putF "at" (.int j) (RdO u t i e)=RdO u t j e:=rfl
theorem zza(u t:Str)(i j e:Int):putF "depth" (.int j) (RdO u t i e)=RdO u t i j:=rfl
theorem RdA.up{C:Addr}{H:Hp}{p dx:Addr}{u t:Str}{i e:Nat}(h:RdA C H p dx u t i e):RdA C (upd H p (.ins C dx (putF "at" (.int ((i:Int)+1)) (RdO u t i e)))) p dx u t (i+1) e:=⟨by rw[putAt,zah];rfl,h.tl,h.ul⟩
def noRd(x:Str):Bool := !(x == "unknowns") && !(x == "text") && !(x == "at") && !(x == "depth")
theorem zb1{u t:Str}{i e:Int}(x:Str)(h:noRd x=true):(RdO u t i e).lookup x=none:=by
 unfold noRd at h;simp only[Bool.and_eq_true,Bool.not_eq_true']at h;obtain⟨⟨⟨h1,h2⟩,h3⟩,h4⟩:=h;simp only[RdO,List.lookup,h1,h2,h3,h4]
def zjf(C:Addr):Sp:=λvs H Q _=>∃(p dx:Addr) (u t:Str) (i e:Nat),vs=[.ref p]/\RdA C H p dx u t i e/\Q (.str ⟨#[sg t i]⟩) H
def zi4(C:Addr):Sp:=λvs H Q _=>∃(p dx:Addr) (u t:Str) (i e c:Nat),vs=[.ref p,.str ⟨#[c]⟩]/\RdA C H p dx u t i e/\(sg t i≠c->Q (.bl false) H)/\(sg t i=c->∀H',Kp [p] H H'->RdA C H' p dx u t (i+1) e->Q (.bl true) H')
theorem zmq{a b:Nat}(h:V.str ⟨#[a]⟩=V.str ⟨#[b]⟩):a=b:=by injection h with h;injection h with h;simpa using h
def flt(l:List Nat):List Nat:=l.filter λc => !(c == 32)
theorem zi0(a b:List Nat):flt (a++b)=flt a++flt b:=List.filter_append ..
theorem zg0{l:List Nat}(h:32 ∉ l):flt l=l:=Yu.mpr λc hc=>by
 have:c≠32:=λz=>h (z ▸ hc)
 simp[this]
theorem zju:∀parts:List Str,(∀p∈parts,32 ∉ p.cps.toList)->flt (Str.join ⟨#[32]⟩ parts).cps.toList=(Str.join "" parts).cps.toList
 | [],_=>rfl
 | [p],h=>zg0 (h p (Yq.mpr rfl))
 | p::q::r,h=>by
  have ih:=zju (q::r) λa ha=>h a (List.mem_cons_of_mem _ ha)
  show flt (p++⟨#[32]⟩++Str.join ⟨#[32]⟩ (q::r)).cps.toList=(p ++ "" ++ Str.join "" (q::r)).cps.toList;simp only[Str.cps_append,Array.toList_append];rw[zi0,zi0,ih,zg0 (h p (List.mem_cons_self ..))];have e0:("" : Str).cps.toList=[]:=by decide +kernel
  rw[e0];rfl
theorem ze8(x:Str):(Txt.replace x " " "").cps.toList=flt x.cps.toList:=by
 have e1:(" " : Str)=⟨#[32]⟩:=by decide +kernel
 rw[e1,StrLaws.replace_one,<- zju _ (StrLaws.split_free x 32),StrLaws.join_split]
theorem zg3(x:Str):(Txt.replace x " " "").length<=x.length:=by
 have e:∀y:Str,y.length=y.cps.toList.length:=λy=>Array.length_toList.symm
 rw[e,e,ze8];exact List.length_filter_le ..
def spRI(C:Addr):Sp:=λvs H Q _=>∃(p dx:Addr) (u x:Str),vs=[.ref p,.str u,.str x]/\H p=some (.ins C dx [])/\x.length<=300/\u.length<=4/\∀H',Kp [p] H H'->RdA C H' p dx u (Txt.replace x " " "") 0 0->Q .non H'
theorem zue(c:Nat):(!(Builtin.Str.occurrences "0123456789" ⟨#[c]⟩ 0 ("0123456789" : Str).length 1).isEmpty)=isD c:=by
 rw[StrLaws.found_one];have e:("0123456789" : Str).cps.toList=[48,49,50,51,52,53,54,55,56,57]:=by decide +kernel
 rw[e];unfold isD;rw[<- Bool.decide_and];refine decide_eq_decide.mpr ?_;simp;omega
def zsm(C NT:Addr):Sp:=λvs H Q E=>∃(p dx:Addr) (u t:Str) (i e:Nat) (most:Int) (ds rest:List Nat),vs=[.ref p,.int most]/\RdA C H p dx u t i e/\t.cps.toList.drop i=ds++rest/\(∀c∈ds,isD c=true)/\(∀c,rest.head? = some c->isD c=false)/\0<=most/\most<=100/\((ds=[]\/most<ds.length)->∀H',Kp [p] H H'->E (.ref NT) none H')/\(ds≠[]->(ds.length:Int)<=most->∀H',Kp [p] H H'->RdA C H' p dx u t (i+ds.length) e->Q (.int (dgv ds:Nat)) H')
def nmL(m:Nat):List Nat:=[120,121,122,116].take m
def ltc(k:Nat):Nat:=[120,121,122,116].getD k 0
def ok8:Nat->Bool:=λe=>decide (e<=8)
abbrev ac(m:Nat)(q:Sq)(e:Nat)(l:List Nat):Bool:=acc (nmL m) false ok8 q e l
abbrev nmS(m:Nat):Str:=cutS "xyzt" none (some (m:Int))
theorem zpp:∀m<5,NmO (nmL m):=by unfold NmO;decide
theorem nm_l:∀m<5,(nmS m).cps.toList=nmL m:=by decide +kernel
theorem zwe{m:Nat}(h:m<=4)(c:Nat):(!(Builtin.Str.occurrences (nmS m) ⟨#[c]⟩ 0 (nmS m).length 1).isEmpty)=decide (c∈nmL m):=by rw[StrLaws.found_one,nm_l m (by omega)]
theorem zy2:∀m<5,∀c∈nmL m,∃k<m,c=ltc k:=by decide
theorem zuf:∀m<5,∀k<m,Txt.find (nmS m) ⟨#[ltc k]⟩=k:=by decide +kernel
theorem zqq:∀(ds:List Nat),(∀c∈ds,isD c=true)->dgv ds<10^ds.length:=by
 have:∀(ds:List Nat) (a k:Nat),(∀c∈ds,isD c=true)->a<10^k->ds.foldl (λacc c=>acc*10+(c-48)) a<10^(k+ds.length):=by
  intro ds;induction ds with
  | nil=>intro a k _ h;exact h
  | cons c ds ih=>
   intro a k hd h;have hc:=hd c (by simp);unfold isD at hc;simp only[Bool.and_eq_true,decide_eq_true_eq]at hc;rw[List.foldl_cons,Y5,show k+(ds.length+1)=k+1+ds.length by omega];refine ih _ _ (λx hx=>hd x (by simp[hx])) ?_;rw[Nat.pow_succ];omega
 intro ds hd;have:=this ds 0 0 hd (by decide);rwa [Nat.zero_add]at this
theorem zin(l:List Nat):∃ds r,l=ds++r/\(∀c∈ds,isD c=true)/\∀c,r.head? = some c->isD c=false:=by
 induction l with
 | nil=>exact⟨[],[],rfl,(λc hc=>nomatch hc),(λc hc=>nomatch hc)⟩
 | cons c l ih=>
  cases h:isD c with
  | false=>exact⟨[],c::l,rfl,(λc hc=>nomatch hc),λx hx=>by injection hx with hx;rw[<- hx];exact h⟩
  | true=>
   obtain⟨ds,r,e,h1,h2⟩:=ih;exact⟨c::ds,r,by rw[e];rfl,λx hx=>by rcases Yj.mp hx with q | q;rw[q];exact h;exact h1 x q,h2⟩
structure Sm where
 bt:List Nat
 sg:Nat
 lv:Nat
structure Got(m:Nat)(q:Sq)(e:Nat)(t:Str)(i j:Nat)(s:Sm):Prop where
 lt:i<j
 le:j<=t.cps.toList.length
 ac:ac m q e (t.cps.toList.drop i)=ac m zA e (t.cps.toList.drop j)
 sg:s.sg=j-i
 bt:bots (t.cps.toList.drop i)=s.bt++bots (t.cps.toList.drop j)
 st:stt true (t.cps.toList.drop i)=s.lv+stt false (t.cps.toList.drop j)
def LfV(m:Nat)(A:Addr->Prop)(H:Hp)(s:Sm)(v:V):Prop:=∃q,v=.ref q/\A q/\s.lv=1 /\
 ((∃a b:Nat,H q=some (.tup [.str "number",.int (a:Int),.int (b:Int)])/\a<=10^s.sg/\b<=10^s.sg/\((b=1/\s.bt=[])\/s.bt=[b]))\/(∃k e:Nat,H q=some (.tup [.str "power",.int (k:Int),.int (e:Int)])/\k<m/\s.bt=[]))
def spLf(C NT:Addr)(hd:Nat->Nat->Prop):Sp:=λvs H Q E=>∃(p dx:Addr) (t:Str) (i e m:Nat),vs=[.ref p]/\RdA C H p dx (nmS m) t i e/\1<=m/\m<=4/\hd m (sg t i)/\(ac m zT e (t.cps.toList.drop i)=false->∀H',Kp [p] H H'->E (.ref NT) none H') /\
 ∀H' v s j,Kp [p] H H'->RdA C H' p dx (nmS m) t j e->Got m zT e t i j s->LfV m (λa=>H a=none) H' s v->Q v H'
theorem sg_c{t:Str}{i c:Nat}{r:List Nat}(h:t.cps.toList.drop i=c::r):sg t i=c:=by
 unfold sg;rw[List.getD_eq_getElem?_getD,<- List.head?_drop,h];rfl
theorem sg_n{t:Str}{i:Nat}(h:t.cps.toList.drop i=[]):sg t i=32:=by
 unfold sg;rw[List.getD_eq_getElem?_getD,<- List.head?_drop,h];rfl
theorem sg_h{t:Str}{i c:Nat}(h:sg t i=c)(n:c≠32):∃r,t.cps.toList.drop i=c::r:=by
 cases q:t.cps.toList.drop i with
 | nil=>rw[sg_n q]at h;exact absurd h.symm n
 | cons x r=>rw[sg_c q]at h;exact⟨r,by rw[h]⟩
theorem zk0{t:Str}{i c:Nat}{r:List Nat}(e:t.cps.toList.drop i=r)(h:r.head? = some c):sg t i=c:=by
 cases r with
 | nil=>cases h
 | cons x r=>injection h with h;rw[sg_c e,h]
theorem zeb{t:Str}{i:Nat}{a r:List Nat}(h:t.cps.toList.drop i=a++r):t.cps.toList.drop (i+a.length)=r:=by
 rw[<- List.drop_drop,h,List.drop_left]
theorem zfr{t:Str}{i:Nat}{a r:List Nat}(h:t.cps.toList.drop i=a++r)(ha:a≠[]):i+a.length<=t.cps.toList.length:=by
 have:=Js List.length h;rw[List.length_drop,Y6]at this;have:=List.length_pos_iff.mpr ha;omega
theorem s_of(c:Nat)(x:Str)(h:x=⟨#[c]⟩):V.str x=V.str ⟨#[c]⟩:=by rw[h]
theorem zwx{ds r:List Nat}(hd:∀c∈ds,isD c=true)(ne:ds≠[]):stt true (ds++r)=1+stt false r:=by
 obtain⟨c,l,rfl⟩:=List.exists_cons_of_ne_nil ne;show stt true (c::(l++r))=_;rw[zsn (znz hd c (by simp)),zpa r (znz λx hx=>hd x (by simp[hx]))]
def sgs(ss:List Sm):Nat:=(ss.map Sm.sg).sum
def lvs(ss:List Sm):Nat:=(ss.map Sm.lv).sum
theorem zsh(ss:List Sm)(s:Sm):sgs (ss++[s])=sgs ss+s.sg:=by unfold sgs;simp
theorem zuj(ss:List Sm)(s:Sm):lvs (ss++[s])=lvs ss+s.lv:=by unfold lvs;simp
def FVs(R:Sm->V->Prop)(A:Addr->Prop)(H:Hp)(s:Sm)(l:Addr):Prop:=∃ys ss,A l/\H l=some (.lst ys)/\Paired R ss ys/\ys≠[]/\s.bt=ss.flatMap Sm.bt/\sgs ss<=s.sg/\lvs ss=s.lv
def PV(R:Sm->V->Prop)(A:Addr->Prop)(H:Hp)(s:Sm)(v:V):Prop:=∃q l tn,v=.ref q/\A q/\H q=some (.tup [.int tn,.ref l])/\(tn=1\/tn = -1)/\FVs R A H s l
def PVs(R:Sm->V->Prop)(A:Addr->Prop)(H:Hp)(s:Sm)(l:Addr):Prop:=∃ys ss,A l/\H l=some (.lst ys)/\Paired (PV R A H) ss ys/\ys≠[]/\s.bt=ss.flatMap Sm.bt/\sgs ss+ss.length<=s.sg+1/\lvs ss=s.lv
def FV(m:Nat):Nat->(Addr->Prop)->Hp->Sm->V->Prop
 | 0,A,H,s,v=>LfV m A H s v
 | n+1,A,H,s,v=>LfV m A H s v\/∃q l s',v=.ref q/\A q/\H q=some (.tup [.str "sum",.ref l,.non])/\PVs (FV m n A H) A H s' l/\s'.bt=s.bt/\s'.sg+1<=s.sg/\s'.lv=s.lv
theorem LfV.fv{m n:Nat}{A:Addr->Prop}{H:Hp}{s:Sm}{v:V}(h:LfV m A H s v):FV m n A H s v:=by
 cases n with
 | zero=>exact h
 | succ n=>exact .inl h
def Kpt(A A':Addr->Prop)(H H':Hp):Prop:=∀a o,A a->H a=some o->A' a/\H' a=some o
theorem LfV.keep{m:Nat}{A A':Addr->Prop}{H H':Hp}{s:Sm}{v:V}(h:LfV m A H s v)(k:Kpt A A' H H'):LfV m A' H' s v:=by
 obtain⟨q,e,a,l,h⟩:=h;rcases h with⟨x,y,h,r⟩ | ⟨x,y,h,r⟩
 ·exact⟨q,e,(k q _ a h).1,l,.inl ⟨x,y,(k q _ a h).2,r⟩⟩
 ·exact⟨q,e,(k q _ a h).1,l,.inr ⟨x,y,(k q _ a h).2,r⟩⟩
theorem FVs.keep{R R':Sm->V->Prop}{A A':Addr->Prop}{H H':Hp}{s:Sm}{l:Addr}(h:FVs R A H s l)(k:Kpt A A' H H')(kr:∀s v,R s v->R' s v):FVs R' A' H' s l:=by
 obtain⟨ys,ss,a,e,p,r⟩:=h;exact⟨ys,ss,(k l _ a e).1,(k l _ a e).2,pimp kr p,r⟩
theorem PV.keep{R R':Sm->V->Prop}{A A':Addr->Prop}{H H':Hp}{s:Sm}{v:V}(h:PV R A H s v)(k:Kpt A A' H H')(kr:∀s v,R s v->R' s v):PV R' A' H' s v:=by
 obtain⟨q,l,tn,e,a,hq,t,f⟩:=h;exact⟨q,l,tn,e,(k q _ a hq).1,(k q _ a hq).2,t,f.keep k kr⟩
theorem PVs.keep{R R':Sm->V->Prop}{A A':Addr->Prop}{H H':Hp}{s:Sm}{l:Addr}(h:PVs R A H s l)(k:Kpt A A' H H')(kr:∀s v,R s v->R' s v):PVs R' A' H' s l:=by
 obtain⟨ys,ss,a,e,p,r⟩:=h;exact⟨ys,ss,(k l _ a e).1,(k l _ a e).2,pimp (λ_ _ q=>q.keep k kr) p,r⟩
theorem FV.keep{m:Nat}:∀{n:Nat} {A A':Addr->Prop} {H H':Hp} {s:Sm} {v:V},FV m n A H s v->Kpt A A' H H'->FV m n A' H' s v
 | 0,_,_,_,_,_,_,h,k=>LfV.keep h k
 | n+1,_,_,_,_,_,_,h,k=>by
  rcases h with h | ⟨q,l,s',e,a,hq,p,r⟩
  ·exact .inl (LfV.keep h k)
  ·exact .inr ⟨q,l,s',e,(k q _ a hq).1,(k q _ a hq).2,p.keep k (λ_ _ h=>FV.keep h k),r⟩
structure GotE(m:Nat)(q:Sq)(e e':Nat)(t:Str)(i j:Nat)(s:Sm):Prop where
 lt:i<j
 le:j<=t.cps.toList.length
 ac:ac m q e (t.cps.toList.drop i)=ac m zA e' (t.cps.toList.drop j)
 sg:s.sg=j-i
 bt:bots (t.cps.toList.drop i)=s.bt++bots (t.cps.toList.drop j)
 st:stt true (t.cps.toList.drop i)=s.lv+stt false (t.cps.toList.drop j)
theorem zff{t:Str}{i c:Nat}(h:sg t i=c)(n:c≠32):t.cps.toList.drop i=c::t.cps.toList.drop (i+1)/\i<t.cps.toList.length:=by
 obtain⟨r,e⟩:=sg_h h n;have:=zeb (a:=[c]) e;have l:i+1<=t.cps.toList.length:=zfr (a:=[c]) e (by simp);exact⟨by rw[e,<- this];rfl,by omega⟩
theorem opc3{c:Nat}(h:isO c=true):c=42\/c=43\/c=45:=by simpa[isO,or_assoc]using h
theorem zru{m:Nat}{q:Sq}{e:Nat}{t:Str}{i j k:Nat}{s s':Sm}{c:Nat}(h:Got m q e t i j s)(hc:sg t j=c)(ho:isO c=true)(h':Got m zT e t (j+1) k s'):Got m q e t i k ⟨s.bt++s'.bt,k-i,s.lv+s'.lv⟩:=by
 have c3:=opc3 ho;obtain⟨d,_⟩:=zff hc (by omega);have:=h.lt;have:=h'.lt;refine⟨by omega,h'.le,?_,Z,?_,?_⟩
 ·rw[h.ac,d];show acc _ _ _ _ _ _=_;rw[zte ho];exact h'.ac
 ·rw[h.bt,d,bots,Yh (by omega),h'.bt];simp
 ·rw[h.st,d];have eb:isB c=true:=by rcases c3 with z | z | z <;> rw[z] <;> rfl
  have ef:(c != 41)=true:=by rcases c3 with z | z | z <;> rw[z] <;> rfl
  rw[stt,Yh (by omega),eb,ef,Yl rfl,h'.st];show s.lv+(s'.lv+_)=s.lv+s'.lv+_;omega
theorem zsa{m e:Nat}{t:Str}{i j:Nat}{s:Sm}(h:Got m zT e t (i+1) j s)(hc:sg t i=45):Got m zS e t i j ⟨s.bt,j-i,s.lv⟩:=by
 obtain⟨d,_⟩:=zff hc (by decide);have:=h.lt;refine⟨by omega,h.le,?_,Z,?_,?_⟩
 ·rw[d];show acc _ _ _ _ _ _=_;rw[zm8];exact h.ac
 ·rw[d,bots,Yh (by decide),h.bt]
 ·rw[d,<- h.st];rfl
theorem zr0{m e:Nat}{t:Str}{i j:Nat}{s:Sm}(h:Got m zT e t i j s)(hc:sg t i≠45):Got m zS e t i j s:=by
 refine⟨h.lt,h.le,?_,h.sg,h.bt,h.st⟩;show acc _ _ _ _ _ _=_;rw[zlp λc hx z=>hc (by rw[zk0 rfl hx,z])];exact h.ac
def spFc(C NT:Addr)(e:Nat):Sp:=λvs H Q E=>∃(p dx:Addr) (t:Str) (i m:Nat),vs=[.ref p]/\RdA C H p dx (nmS m) t i e/\1<=m/\m<=4/\32 ∉ t.cps.toList/\(ac m zT e (t.cps.toList.drop i)=false->∀H',Kp [p] H H'->E (.ref NT) none H') /\
 ∀H' v s j,Kp [p] H H'->RdA C H' p dx (nmS m) t j e->Got m zT e t i j s->FV m (8-e) (λa=>H a=none) H' s v->Q v H'
def zpz(C NT:Addr)(e:Nat):Sp:=λvs H Q E=>∃(p dx:Addr) (t:Str) (i m:Nat),vs=[.ref p]/\RdA C H p dx (nmS m) t i e/\1<=m/\m<=4/\32 ∉ t.cps.toList/\(ac m zT e (t.cps.toList.drop i)=false->∀H',Kp [p] H H'->E (.ref NT) none H') /\
 ∀H' b s j,Kp [p] H H'->RdA C H' p dx (nmS m) t j e->Got m zT e t i j s->sg t j≠42->FVs (FV m (8-e) (λa=>H a=none) H') (λa=>H a=none) H' s b->Q (.ref b) H'
def zij(C NT:Addr)(e:Nat):Sp:=λvs H Q E=>∃(p dx:Addr) (t:Str) (i m:Nat),vs=[.ref p]/\RdA C H p dx (nmS m) t i e/\1<=m/\m<=4/\32 ∉ t.cps.toList/\(ac m zS e (t.cps.toList.drop i)=false->∀H',Kp [p] H H'->E (.ref NT) none H') /\
 ∀H' b s j,Kp [p] H H'->RdA C H' p dx (nmS m) t j e->Got m zS e t i j s->isO (sg t j)=false->PVs (FV m (8-e) (λa=>H a=none) H') (λa=>H a=none) H' s b->Q (.ref b) H'
def zpv(C NT:Addr)(e:Nat):Sp:=λvs H Q E=>∃(p dx:Addr) (t:Str) (i m:Nat),vs=[.ref p]/\RdA C H p dx (nmS m) t i e/\1<=m/\m<=4/\32 ∉ t.cps.toList/\((ok8 (e+1)&&ac m zS (e+1) (t.cps.toList.drop i))=false->∀H',Kp [p] H H'->E (.ref NT) none H') /\
 ∀H' v s j,Kp [p] H H'->RdA C H' p dx (nmS m) t j e->e+1<=8->GotE m zS (e+1) e t i j s->FV m (8-e) (λa=>H a=none) H' s v->Q v H'
theorem none_of{p q:Addr}{H H':Hp}{o:HO}(kp:Kp [p] H H')(hp:H' p=some o)(h:H' q=none):H q=none:=by
 cases z:H q with
 | none=>rfl
 | some x=>
  by_cases zp:q=p
  ·rw[zp,hp]at h;cases h
  ·rw[kp q x z (by simp[zp])]at h;cases h
theorem zyy{m n:Nat}{A:Addr->Prop}{H:Hp}{s:Sm}{v:V}{k:Nat}(h:FV m n A H s v)(hk:s.sg<=k):FV m n A H ⟨s.bt,k,s.lv⟩ v:=by
 have lf:LfV m A H s v->LfV m A H ⟨s.bt,k,s.lv⟩ v:=fun⟨q,e,a,l,h⟩=>by
  have pw:=Yv (show 0<10 by decide) hk;refine⟨q,e,a,l,?_⟩;rcases h with⟨x,y,h,r1,r2,r3⟩ | h
  ·exact .inl ⟨x,y,h,Yr r1 pw,Yr r2 pw,r3⟩
  ·exact .inr h
 cases n with
 | zero=>exact lf h
 | succ n=>
  rcases h with h | ⟨q,l,s',e,a,hq,p,b,sg,lv⟩
  ·exact .inl (lf h)
  ·exact .inr ⟨q,l,s',e,a,hq,p,b,by show _<=k;omega,lv⟩
theorem zzc{m e:Nat}{t:Str}{i i0:Nat}(h:(sg t i=45/\i0=i+1)\/(sg t i≠45/\i0=i)):ac m zS e (t.cps.toList.drop i)=ac m zT e (t.cps.toList.drop i0):=by
 rcases h with⟨h,rfl⟩ | ⟨h,rfl⟩
 ·rw[(zff h (by decide)).1];exact zm8
 ·exact zlp λc hx z=>h (by rw[zk0 rfl hx,z])
theorem zy9{m e:Nat}{t:Str}{i i0 j:Nat}{s:Sm}(h:(sg t i=45/\i0=i+1)\/(sg t i≠45/\i0=i))(g:Got m zT e t i0 j s):Got m zS e t i j ⟨s.bt,j-i,s.lv⟩:=by
 rcases h with⟨h,rfl⟩ | ⟨h,rfl⟩
 ·exact zsa g h
 ·have q:=zr0 g h;exact⟨q.lt,q.le,q.ac,Z,q.bt,q.st⟩
theorem zio{tA tB:TT}{σ : St}{H:Hp}{Q:Bool->Hp->Prop}(b1 b2:Bool)(h1:∀Q':Bool->Hp->Prop,Q' b1 H->tA σ H Q')(h2:∀Q':Bool->Hp->Prop,Q' b2 H->tB σ H Q')(h:Q (b1||b2) H):tOr tA tB σ H Q:=h1 _ (by
 cases b1 with
 | true=>exact iteT h
 | false=>exact iteF (h2 _ h))
theorem sdec{a b:Nat}(x:Str)(e:V.str x=V.str ⟨#[b]⟩):decide (V.str ⟨#[a]⟩=V.str x)=decide (a=b):=by
 rw[e];by_cases c:a=b
 ·rw[c];simp
 ·rw[Yw c,Yw λz=>c (zmq z)]
theorem RdA.dp{C:Addr}{H:Hp}{p dx:Addr}{u t:Str}{i e:Nat}{d:Int}{e':Nat}(h:RdA C H p dx u t i e)(hd:d=(e':Int)):RdA C (upd H p (.ins C dx (putF "depth" (.int d) (RdO u t i e)))) p dx u t i e':=⟨by rw[zza,zah,hd],h.tl,h.ul⟩
def spWs(C NT:Addr):Sp:=λvs H Q E=>∃(p dx:Addr) (t:Str) (m:Nat),vs=[.ref p]/\RdA C H p dx (nmS m) t 0 0/\1<=m/\m<=4/\32 ∉ t.cps.toList/\(ac m zS 0 t.cps.toList=false->∀H',Kp [p] H H'->E (.ref NT) none H') /\
 ∀H' b s,Kp [p] H H'->ac m zS 0 t.cps.toList=true->s.sg<=300->bots t.cps.toList=s.bt->stt true t.cps.toList=s.lv->PVs (FV m 8 (λa=>H a=none) H') (λa=>H a=none) H' s b->Q (.ref b) H'
theorem zwc{t:Str}{j:Nat}(h:32 ∉ t.cps.toList)(hs:sg t j=32):t.cps.toList.drop j=[]:=by
 cases q:t.cps.toList.drop j with
 | nil=>rfl
 | cons c r=>
  exfalso;rw[sg_c q]at hs;subst hs;exact h (List.drop_subset j _ (by rw[q];simp))
def bad(n:Int)(bt:List Nat):Prop:=∃b∈bt,zr n (b:Int)
def zhm(n:Int)(At:Hp->Addr->Prop)(NO:Addr):Sp:=λvs H Q E=>∃(F:Type) (_:Lean.Grind.Field F) (_:Chr n F) (p:Addr) (t b:Int),vs=[.ref p,.int t,.int b]/\At H p/\b.natAbs<2^8900/\(zr n b->E (.ref NO) none H)/\(¬zr n b->∀(x:F) v H',x*ic b=ic t->Same H H'->Rep n H' v x->Q v H')
theorem zmf{At:Hp->Addr->Prop}{NO:Addr}:∀vs H Q E,zhm 0 At NO vs H Q E->zq9 NO vs H Q E:=λ_ _ _ _ ⟨F,_,_,p,t,b,e,_,b2,kx,k⟩=>by
 by_cases z:b=0
 ·exact⟨.ref p,t,b,e,b2,.inr ⟨z,kx (zr_0.mpr z)⟩⟩
 ·obtain⟨x,hx⟩:=zur (F:=F) (t:=t) (b:=b) z;exact⟨.ref p,t,b,e,b2,.inl ⟨z,λr H' e' h=>k (λq=>z (zr_0.mp q)) x _ _ hx e' (zgq z h hx)⟩⟩
theorem zmi{CR NO:Addr}{n:Int}(hn:Pr n):∀vs H Q E,zhm n (AtR CR n) NO vs H Q E->zwy CR NO vs H Q E:=λ_ _ _ _ ⟨F,_,_,p,t,b,e,⟨dx,ha⟩,b2,kx,k⟩=>by
 have n0:=ziz hn;have p2:=hn.1;by_cases z:b%n=0
 ·exact⟨p,dx,n,t,b,e,ha,.inr ⟨z,kx ((zr_n n0).mpr z)⟩⟩
 ·refine⟨p,dx,n,t,b,e,ha,.inl ⟨z,λf hf=>k (λq=>z ((zr_n n0).mp q)) (ic t*ic f) _ _ ?_ (Same.refl _) ((zfw n0).mpr ⟨_,Z,Jl _ n0,Jd _ (by omega),by rw[zh2,zby,zh2]⟩)⟩⟩;have h3:ic (F:=F) (f*(b%n)-1)=0:=(Chr.z (n:=n) _).mpr ((zr_n n0).mpr hf.2.2);rw[zqv,zby,zhg,zh2]at h3;grind
structure FldE(P:Program)(w:World)(K:W.Frag)(mg:Str->Option Value)(base:Heap)(NO C:Addr)(At:Hp->Addr->Prop)(n:Int):Prop where
 ins:∀{H:Hp} {p:Addr},At H p->∃dx,H p=some (.ins C dx [("prime",.int n)])
 one:MCal P w K mg base CX0 1 C "one" ["self"] [] (spNo 1 n At)
 nought:MCal P w K mg base CX0 1 C "nought" ["self"] [] (spNo 0 n At)
 made:MCal P w K mg base (CXe P w) 6 C "made" ["self","top","bottom"] [] (zhm n At NO)
 made1:∃tk,MCal P w K mg base (CXe P w) 6 C "made" ["self","top","bottom"] [.int 1 tk] (zhm n At NO)
section
variable{F:Type}[Lean.Grind.Field F]
def mo(t:List Int)(c:F):Po F:=setP (λ_=>0) t c
theorem zvu{n:Int}{m:Nat}{H:Hp}{v:V}{x:F}{t:List Int}(hv:Rep n H v x)(ht:T0 m t)(hx:x≠0):PF n m H [(ky t,v)] (mo t x):=(PF.nil (H:=H)).put ht hv hx
theorem mo_0(t u:List Int):mo t (0:F) u=0:=by unfold mo setP;split <;> rfl
theorem zuc{m k e:Nat}(hk:k<m):T0 m (only m k e):=⟨by unfold only;simp,λi=>by
 unfold only;rw[List.getD_eq_getElem?_getD,Ym]
 cases h:(List.range m)[i]? with
 | none=>show (0:Int)<=0;decide
 | some j=>
  show (0:Int)<=if j=k then(e:Int) else 0
  split <;> omega⟩
end
def ztc(CG CF CR CO CD CT CW:Addr):Sp:=λvs H Q _=>∃(F:Type) (_:Lean.Grind.Field F) (r:Addr) (v:V) (g:RgD) (_:Chr g.n F) (x:F),vs=[.ref r,v]/\RgP CG CF CR CO CD CT CW H r g/\Rep g.n H v x/\∀d H' kvs,H d=none->Same H H'->H' d=some (.dT kvs)->PF g.n g.m H' kvs (mo (zer g.m) x)->kvs.length<=1->Q (.ref d) H'
def znj:Sp:=λvs H Q _=>∃(m a p:Int),vs=[.int m,.int a,.int p]/\1<=m/\m<=10/\0<=a/\∀r H',Same H H'->H' r=some (.tup ((only m.toNat a.toNat p).map V.int))->Q (.ref r) H'
abbrev AT:Addr->Prop:=λ_=>True
def spFO(NO CG CF CR CO CD CT CW:Addr)(n:Nat):Sp:=λvs H Q E=>∃(F:Type) (_:Lean.Grind.Field F) (r:Addr) (v:V) (g:RgD) (_:Chr g.n F) (s:Sm),vs=[.ref r,v]/\RgP CG CF CR CO CD CT CW H r g/\FV g.m n AT H s v/\s.sg<=300/\s.lv<=18/\(bad g.n s.bt->∀H',Same H H'->E (.ref NO) none H')/\(¬bad g.n s.bt->∀d H' kvs (φ : Po F),H d=none->Same H H'->H' d=some (.dT kvs)->PF g.n g.m H' kvs φ->Bd g.n s.sg φ->kvs.length+1<=2^s.lv->Q (.ref d) H')
def zic(NO CG CF CR CO CD CT CW:Addr)(n:Nat):Sp:=λvs H Q E=>∃(F:Type) (_:Lean.Grind.Field F) (r b:Addr) (g:RgD) (_:Chr g.n F) (s:Sm),vs=[.ref r,.ref b]/\RgP CG CF CR CO CD CT CW H r g/\PVs (FV g.m n AT H) AT H s b/\s.sg<=300/\s.lv<=18/\(bad g.n s.bt->∀H',Same H H'->E (.ref NO) none H')/\(¬bad g.n s.bt->∀d H' kvs (φ : Po F),H d=none->Same H H'->H' d=some (.dT kvs)->PF g.n g.m H' kvs φ->Bd g.n (s.sg+1) φ->kvs.length+1<=2^s.lv->Q (.ref d) H')
theorem zw6{m:Nat}{A:Addr->Prop}{H:Hp}{s:Sm}{v:V}:∀{n:Nat},FV m n A H s v->LfV m A H s v\/∃n' q l s',n=n'+1/\v=.ref q/\H q=some (.tup [.str "sum",.ref l,.non])/\PVs (FV m n' A H) A H s' l/\s'.bt=s.bt/\s'.sg+1<=s.sg/\s'.lv=s.lv
 | 0,h=>.inl h
 | n+1,h=>by
  rcases h with h | ⟨q,l,s',e,a,hq,p,r⟩
  ·exact .inl h
  ·exact .inr ⟨n,q,l,s',Z,e,hq,p,r⟩
theorem zr_1{n:Int}(hn:n=0\/Pr n):¬zr n 1:=λz=>by
 rcases hn with h | h
 ·subst h;rw[zr_0]at z;cases z
 ·rw[zr_n (ziz h)]at z;have:=h.1;rw[Int.emod_eq_of_lt (by decide) (by omega)]at z;cases z
theorem zr_z{n:Int}(hn:n=0\/Pr n):zr n 0:=by
 rcases hn with h | h
 ·subst h;exact zr_0.mpr rfl
 ·rw[zr_n (ziz h)];simp
theorem zua{F:Type}[Lean.Grind.Field F]{n:Int}{k:Nat}{t:List Int}{x:F}{a b:Int}(hb:b≠0)(e:x*ic b=ic a)(ha:a.natAbs<=10^k)(hb':b.natAbs<=10^k):Bd n k (mo t x):=Bd.one (t:=t) zhr (λu hu=>zd6 hu) hb e ha hb'
theorem zma{R:Sm->V->Prop}:∀{ss:List Sm} {ys:List V} {i:Nat} {y:V},Paired R ss ys->ys[i]? = some y->∃h:i<ss.length,R ss[i] y
 | _,_,_,_,.nil,e=>by simp at e
 | _,_,0,_,.cons p l,e=>by
  have:_=_:=e;injection this with this
  exact⟨Nat.succ_pos _,by rw[<- this];exact p⟩
 | _,_,i+1,_,.cons p l,e=>by
  obtain⟨h1,h2⟩:=zma l (by exact e);exact⟨Nat.succ_lt_succ h1,h2⟩
theorem tk1{α : Type}{l:List α}{j:Nat}(h:j<l.length):l.take (j+1)=l.take j++[l[j]]:=by rw[List.take_add_one,Yc h];rfl
theorem zud{ss:List Sm}{i:Nat}(h:i<ss.length):sgs (ss.take (i+1))=sgs (ss.take i)+ss[i].sg:=by rw[tk1 h,zsh]
theorem zuq{ss:List Sm}{i:Nat}(h:i<ss.length):lvs (ss.take (i+1))=lvs (ss.take i)+ss[i].lv:=by rw[tk1 h,zuj]
theorem zm3:∀{l:List Nat} {i:Nat},(l.take i).sum<=l.sum
 | [],i=>by simp
 | a::l,0=>by simp
 | a::l,i+1=>by rw[List.take_succ_cons,List.sum_cons,List.sum_cons];have:=zm3 (l:=l) (i:=i);omega
theorem znd(ss:List Sm)(i:Nat):sgs (ss.take i)<=sgs ss:=by unfold sgs;rw[List.map_take];exact zm3
theorem zmn(ss:List Sm)(i:Nat):lvs (ss.take i)<=lvs ss:=by unfold lvs;rw[List.map_take];exact zm3
theorem zxl{ss:List Sm}{i:Nat}(h:i<ss.length):ss[i].sg<=sgs ss/\ss[i].lv<=lvs ss:=by
 have a:=zud h;have b:=zuq h;have c:=znd ss (i+1);have d:=zmn ss (i+1);omega
theorem zrh{n:Int}{ss:List Sm}{i:Nat}(h:i<ss.length)(z:bad n ss[i].bt):bad n (ss.flatMap Sm.bt):=by
 obtain⟨b,hb,q⟩:=z;exact⟨b,List.mem_flatMap.mpr ⟨_,List.getElem_mem h,hb⟩,q⟩
theorem zrb{n:Int}{ss:List Sm}(z:bad n (ss.flatMap Sm.bt)):∃s∈ss,bad n s.bt:=by
 obtain⟨b,hb,q⟩:=z;obtain⟨s,hs,hb⟩:=List.mem_flatMap.mp hb;exact⟨s,hs,b,hb,q⟩
theorem znw{a b x y:Nat}(h1:a+1<=2^x)(h2:b+1<=2^y):(a+1)*(b+1)<=2^(x+y):=by rw[Nat.pow_add];exact Nat.mul_le_mul h1 h2
theorem zvm(a b:Nat):(a+1)*(b+1)=a*b+a+b+1:=by rw[Nat.add_mul,Nat.mul_add];omega
theorem ul4{m:Nat}(h1:1<=m)(h2:m<=4):(cutS "xyzt" none (some (m:Int))).length<=4:=by
 rcases(by omega:m=1\/m=2\/m=3\/m=4) with rfl | rfl | rfl | rfl <;> decide +kernel
theorem zwf(l:List Nat):32 ∉ flt l:=λh=>by
 unfold flt at h;have:=(List.mem_filter.mp h).2;simp at this
def zrf(NT NO CG CF CR CO CD CT CW:Addr):Sp:=λvs H Q E=>∃(r:Addr) (x:Str) (g:RgD),vs=[.ref r,.str x]/\RgP CG CF CR CO CD CT CW H r g/\x.length<=200000/\stt true (flt x.cps.toList)<=18/\((300<x.length\/ac g.m zS 0 (flt x.cps.toList)=false)->∀H',Same H H'->E (.ref NT) none H')/\(x.length<=300->ac g.m zS 0 (flt x.cps.toList)=true->bad g.n (bots (flt x.cps.toList))->∀H',Same H H'->E (.ref NO) none H')/\(x.length<=300->ac g.m zS 0 (flt x.cps.toList)=true->¬bad g.n (bots (flt x.cps.toList))->∀d H' kvs,Same H H'->H' d=some (.dT kvs)->Q (.ref d) H')
def zjo:Sp:=λvs H Q _=>∃(n:Int),vs=[.int n]/\2<=n/\n<=9973/\Q (.bl (isP n)) H
def zxp:Sp:=λvs H Q _=>∃(c:Int),vs=[.int c]/\∀(n:Int) H',Same H H'->(n=0\/Pr n)->n<=9973->Q (.int n) H'
theorem tab4{r:Int}(h0:0<=r)(h1:r<4):∃v:Int,1<=v/\v<=9972/\atI [V.int 1,V.int 6,V.int 120,V.int 9972] r=some (.int v):=by
 rcases(by omega:r=0\/r=1\/r=2\/r=3) with h | h | h | h <;> subst h
 ·exact⟨1,by decide,by decide,Z⟩
 ·exact⟨6,by decide,by decide,Z⟩
 ·exact⟨120,by decide,by decide,Z⟩
 ·exact⟨9972,by decide,by decide,Z⟩
theorem zwn:isP 2=true:=ztw ⟨by decide,λe h1 h2=>by
 exfalso;have:=Int.mul_le_mul h1 h1 (by decide) (by omega);omega⟩
theorem zx1{n:Int}(h:isP n=true):Pr n:=by
 by_cases q:Pr n
 ·exact q
 ·rw[zug q]at h;cases h
def zq7(CF CR:Addr):Sp:=λvs H Q _=>∃(n:Int),vs=[.int n]/\(n=0\/Pr n)/\n<=9973/\∀pf H',Same H H'->AtN CF CR n H' pf->Q (.ref pf) H'
theorem zv1{a:Int}(h:a.natAbs<2^500):a.natAbs.log2<1920:=by
 by_cases c:a.natAbs=0
 ·rw[c];decide
 ·exact(Nat.log2_lt c).mpr (Yf h (Yv (by decide) (by decide)))
def dgs(n:Nat):List Nat:=(Nat.toDigits 10 n).map Char.toNat
theorem zyx(n:Nat):∀c∈dgs n,isD c=true:=λc hc=>by
 obtain⟨ch,hch,e⟩:=Ji.mp hc;have r:=PyProof.Rows.digit_range (Nat.isDigit_of_mem_toDigits (by decide) (by decide) hch);subst e;unfold isD;rw[Yo r.1,Yo r.2];rfl
theorem zmp:∀(k n:Nat),n<10^(k+1)->(dgs n).length<=k+1
 | 0,n,h=>by
  unfold dgs;rw[Nat.toDigits_of_lt_base (by simpa using h)];simp
 | k+1,n,h=>by
  by_cases c:n<10
  ·unfold dgs;rw[Nat.toDigits_of_lt_base c];simp
  ·have hm:n%10<10:=Nat.mod_lt n (by decide);have t:Nat.toDigits 10 (n / 10)++Nat.toDigits 10 (n%10)=Nat.toDigits 10 (10*(n / 10)+n%10):=Nat.toDigits_append_toDigits (by decide) (by omega) hm;rw[Nat.div_add_mod]at t;have ih:=zmp k (n / 10) (by rw[Nat.pow_succ]at h;omega);unfold dgs at ih ⊢;rw[<- t,List.map_append,Y6,Nat.toDigits_of_lt_base hm];show _+1<=_;omega
abbrev sI(i:Int):Str:=toString i
theorem zrk(a:Nat):(sI (a:Int)).cps.toList=dgs a:=by
 have e:(sI (a:Int)).cps.toList=_:=Js (λs:Str=>s.cps.toList) (PyProof.Rows.text_ofNat a);rw[e];simp[dgs]
theorem zbm(x:Str):x.cps.toList.length=x.length:=Array.length_toList
structure Wd(x:Str)(k:Nat):Prop where
 w:Wrd x.cps.toList
 l:x.length<=k
theorem Wd.app{x y:Str}{j k:Nat}(h:Wd x j)(h':Wd y k):Wd (x++y) (j+k):=⟨λc hc=>by
 rw[Str.cps_append,Array.toList_append]at hc;rcases Jr.mp hc with q | q
 ·exact h.w c q
 ·exact h'.w c q,by rw[Str.length_append];have:=h.l;have:=h'.l;omega⟩
theorem Wd.up{x:Str}{j k:Nat}(h:Wd x j)(hk:j<=k):Wd x k:=⟨h.w,Yr h.l hk⟩
theorem zky{i:Int}{k:Nat}(h0:0<=i)(h1:i<10^(k+1)):Wd (sI i) (k+1):=by
 obtain⟨a,rfl⟩:∃a:Nat,i=a:=⟨i.toNat,by omega⟩;refine⟨by rw[zrk];exact znz (zyx a),?_⟩;rw[<- zbm,zrk];exact zmp k a (by exact_mod_cast h1)
theorem zev{i:Int}(h0:0<=i)(h1:i<10^12):i.natAbs.log2<1920:=zv1 (Yf (show i.natAbs<2^40 by omega) (Yv (by decide) (by decide)))
theorem zpe{x:Str}{n:Int}(h:0<=n):(repS x n).cps.toList=(List.replicate n.toNat x.cps.toList).flatten:=by
 have fo:∀(k:Nat) (acc:Array Nat),((List.replicate k x.cps).foldl (· ++ ·) acc).toList=acc.toList++(List.replicate k x.cps.toList).flatten:=by
  intro k;induction k with
  | zero=>intro acc;simp
  | succ k ih=>intro acc;rw[List.replicate_succ,List.foldl_cons,ih,List.replicate_succ,List.flatten_cons,Array.toList_append,List.append_assoc]
 unfold repS;split
 ·have:n.toNat=0:=by omega
  rw[this];rfl
 ·split
  ·rename_i c
   simp only[Bool.or_eq_true,beq_iff_eq]at c
   rcases c with c | c
   ·subst c;simp
   ·have:x.cps.toList=[]:=Ja.mp (by rw[zbm];exact c);rw[this];simp
  ·have:=fo n.toNat #[];simpa using this
theorem zxi{x:Str}{n:Int}{k:Nat}(h:Wrd x.cps.toList)(h0:0<=n)(hk:x.length*n.toNat<=k):Wd (repS x n) k:=⟨λc hc=>by
 rw[zpe h0]at hc;obtain⟨l,hl,hc⟩:=List.mem_flatten.mp hc;rw[List.eq_of_mem_replicate hl]at hc;exact h c hc,by
 rw[<- zbm,zpe h0,List.length_flatten,List.map_replicate,List.sum_replicate_nat,zbm,Nat.mul_comm];exact hk⟩
theorem zko(x:Str)(k:Nat)(h:(x.cps.toList.all λc=>c != 32 && !isB c)&&decide (x.length<=k)=true):Wd x k:=by
 simp only[Bool.and_eq_true,decide_eq_true_eq]at h
 refine⟨λc hc=>?_,h.2⟩;have:=List.all_eq_true.mp h.1 c hc;simpa using this
theorem znn:∀k<4,∃c,("xyzt" : Str).cps.toList[k]? = some c/\c≠32/\isB c=false:=by decide +kernel
theorem zfo{x y:Str}{j k:Nat}(h:Wd x j)(h':Wd y k)(hk:j+k<=100000):x.length+y.length<=sizeLine:=by
 rw[sizeLine_eq];have:=h.l;have:=h'.l;omega
def zv8:Sp:=λvs H Q _=>∃(m:Nat) (c:Int),vs=[.int m,.int c]/\1<=m/\m<=4/\∀x H',Same H H'->Wd x 40->Q (.str x) H'
structure Tx(x:Str)(a k:Nat):Prop where
 s:stt true x.cps.toList<=a
 l:x.length<=k
theorem zew(x:Str)(h:(x.cps.toList.all λc=>c == 32||isB c)=true):Nst x.cps.toList:=λc hc=>by
 have:=List.all_eq_true.mp h c hc;simpa using this
theorem Tx.nst{x y:Str}{a k:Nat}(h:Tx x a k)(hy:Nst y.cps.toList):Tx (x++y) a (k+y.length):=⟨by
 rw[Str.cps_append,Array.toList_append,zcj,zdo _ hy];exact h.s,by rw[Str.length_append];have:=h.l;omega⟩
theorem Tx.wd{x y:Str}{a k j:Nat}(h:Tx x a k)(hy:Wd y j):Tx (x++y) (a+1) (k+j):=⟨by
 rw[Str.cps_append,Array.toList_append,zcj];have:=zwz hy.w (flg true x.cps.toList);have:=h.s;omega,by rw[Str.length_append];have:=h.l;have:=hy.l;omega⟩
theorem Tx.up{x:Str}{a k b j:Nat}(h:Tx x a k)(h1:a<=b)(h2:k<=j):Tx x b j:=⟨Yr h.s h1,Yr h.l h2⟩
theorem tab6{r:Int}(h0:0<=r)(h1:r<6):∃y:Str,atI [V.str "+",V.str "-",V.str "*",V.str " + ",V.str " * ",V.str "  -"] r=some (.str y)/\Nst y.cps.toList/\y.length<=3:=by
 rcases(by omega:r=0\/r=1\/r=2\/r=3\/r=4\/r=5) with h | h | h | h | h | h <;> subst h
 ·exact⟨"+",Z,zew _ (by decide +kernel),by decide +kernel⟩
 ·exact⟨"-",Z,zew _ (by decide +kernel),by decide +kernel⟩
 ·exact⟨"*",Z,zew _ (by decide +kernel),by decide +kernel⟩
 ·exact⟨" + ",Z,zew _ (by decide +kernel),by decide +kernel⟩
 ·exact⟨" * ",Z,zew _ (by decide +kernel),by decide +kernel⟩
 ·exact⟨"  -",Z,zew _ (by decide +kernel),by decide +kernel⟩
theorem tab2{r:Int}(h0:0<=r)(h1:r<2):∃y:Str,atI [V.str "",V.str "-"] r=some (.str y)/\Nst y.cps.toList/\y.length<=1:=by
 rcases(by omega:r=0\/r=1) with h | h <;> subst h
 ·exact⟨"",Z,zew _ (by decide +kernel),by decide +kernel⟩
 ·exact⟨"-",Z,zew _ (by decide +kernel),by decide +kernel⟩
theorem zgz{x:Str}{n:Int}(h:Nst x.cps.toList)(h0:0<=n):Nst (repS x n).cps.toList:=λc hc=>by
 rw[zpe h0]at hc;obtain⟨l,hl,hc⟩:=List.mem_flatten.mp hc;rw[List.eq_of_mem_replicate hl]at hc;exact h c hc
theorem zg6{x:Str}{n:Int}(h0:0<=n):(repS x n).length=x.length*n.toNat:=by
 rw[<- zbm,zpe h0,List.length_flatten,List.map_replicate,List.sum_replicate_nat,zbm,Nat.mul_comm]
theorem zld{x y:Str}{a k:Nat}(h:Tx x a k)(hk:k+y.length<=100000):x.length+y.length<=sizeLine:=by
 rw[sizeLine_eq];have:=h.l;omega
theorem cNeV{a b:V}{A B:Prop}(h1:a≠b->A)(h2:a=b->B):if (!decide (a=b))=true then A else B:=by
 by_cases c:a=b
 ·rw[Yo c];exact h2 c
 ·rw[Yw c];exact h1 c
theorem cEqV{a b:V}{A B:Prop}(h1:a=b->A)(h2:a≠b->B):if decide (a=b)=true then A else B:=by
 by_cases c:a=b
 ·rw[Yo c];exact h1 c
 ·rw[Yw c];exact h2 c
def zxr(K:W.Frag):Sp:=λvs H Q _=>∃(m:Nat) (l:Addr) (cs:List Int),vs=[.int m,.ref l]/\1<=m/\m<=4/\SqL K H l (cs.map V.int)/\cs.length<=14/\∀x H',Same H H'->Tx x 14 1000->Q (.str x) H'
theorem zqm{y:Str}{a:Int}(h:0<=a/\a<=y.cps.toList.length):cutS y none (some a)=⟨(y.cps.toList.take a.toNat).toArray⟩:=(show cutS y none (some a)=StrLaws.sliceText y none (some a) from rfl).trans ((StrLaws.sliceText_to h).trans (by rw[List.drop_zero,Int.sub_zero]))
theorem zjz{y:Str}{a:Int}(h:0<=a/\a<=y.cps.toList.length):cutS y (some a) none=⟨(y.cps.toList.drop a.toNat).toArray⟩:=(show cutS y (some a) none=StrLaws.sliceText y (some a) none from rfl).trans ((StrLaws.sliceText_from h).trans (by rw[List.take_of_length_le (by rw[List.length_drop];omega)]))
theorem zv9{i:Int}(h1:298<=i)(h2:i<=302):PadOk i=true:=by
 rcases(by omega:i=298\/i=299\/i=300\/i=301\/i=302) with rfl | rfl | rfl | rfl | rfl <;> decide +kernel
theorem zx7{i:Int}{hi:Option Int}{n:Nat}(h:(n:Int)<=i):Builtin.Str.strSliceIndices (some i) hi 1 n=Builtin.Str.strSliceIndices (some (n:Int)) hi 1 n:=by
 unfold Builtin.Str.strSliceIndices;have e1:(if i<0 then i+(n:Int) else i)=i:=Yh (by omega);have e2:(if (n:Int)<0 then(n:Int)+n else n)=n:=Yh (by omega);simp only[e1,e2,show (1:Int) > 0 from by decide,if_true];rw[Int.min_eq_right h,Int.min_self]
theorem zya{i:Int}{lo:Option Int}{n:Nat}(h:(n:Int)<=i):Builtin.Str.strSliceIndices lo (some i) 1 n=Builtin.Str.strSliceIndices lo (some (n:Int)) 1 n:=by
 unfold Builtin.Str.strSliceIndices;have e1:(if i<0 then i+(n:Int) else i)=i:=Yh (by omega);have e2:(if (n:Int)<0 then(n:Int)+n else n)=n:=Yh (by omega);simp only[e1,e2,show (1:Int) > 0 from by decide,if_true];rw[Int.min_eq_right h,Int.min_self]
theorem zec{y:Str}{a:Int}(h:0<=a):cutS y none (some a)=⟨(y.cps.toList.take a.toNat).toArray⟩:=by
 have el:=zbm y;by_cases c:a<=y.cps.toList.length
 ·exact zqm ⟨h,c⟩
 ·have e:cutS y none (some a)=cutS y none (some (y.length:Int)):=by unfold cutS zkz;rw[zya (by omega)]
  rw[e,zqm ⟨by omega,by omega⟩,List.take_of_length_le (by omega),List.take_of_length_le (by omega)]
theorem zb8{y:Str}{a:Int}(h:0<=a):cutS y (some a) none=⟨(y.cps.toList.drop a.toNat).toArray⟩:=by
 have el:=zbm y;by_cases c:a<=y.cps.toList.length
 ·exact zjz ⟨h,c⟩
 ·have e:cutS y (some a) none=cutS y (some (y.length:Int)) none:=by unfold cutS zkz;rw[zx7 (by omega)]
  rw[e,zjz ⟨by omega,by omega⟩,List.drop_eq_nil_of_le (by omega),List.drop_eq_nil_of_le (by omega)]
theorem zda(l:List Nat):(⟨l.toArray⟩:Str).cps.toList=l:=by simp
theorem zbx(l:List Nat):(⟨l.toArray⟩:Str).length=l.length:=by show l.toArray.size=_;simp
theorem zja(x y:Str):(x++y).cps.toList=x.cps.toList++y.cps.toList:=by rw[Str.cps_append,Array.toList_append]
def zwi:Sp:=λvs H Q _=>∃c:Int,vs=[.int c]/\∀a,Q (.str ⟨#[a]⟩) H
def zxn:Sp:=λvs H Q _=>∃(x:Str) (k c:Int),vs=[.str x,.int k,.int c]/\0<=c/\x.length<=5000/\∀y,stt true y.cps.toList<=stt true x.cps.toList+2->y.length<=x.length+310->Q (.str y) H
theorem zyc{z:Str}{i:Int}(h0:0<=i)(h1:i<z.length):∃c,atI z.cps.toList i=some c:=by
 have el:=zbm z;obtain⟨n,rfl⟩:∃n:Nat,i=n:=⟨i.toNat,by omega⟩;exact⟨z.cps.toList[n]'(by omega),zdw (Yc (by omega))⟩
theorem zus(x:Str)(i:Int):stt true (Txt.rjust x i).cps.toList<=stt true x.cps.toList/\(Txt.rjust x i).length<=x.length+i.toNat:=by
 unfold Txt.rjust;split
 ·exact⟨Yi _,by omega⟩
 ·have e:(Builtin.Str.padded x (i.toNat-x.length) 0 32).cps.toList=List.replicate (i.toNat-x.length) 32++x.cps.toList:=by unfold Builtin.Str.padded;simp
  refine⟨?_,?_⟩
  ·rw[e,zcj,zdo _ (λc hc=>.inl (List.eq_of_mem_replicate hc))];have:∀n,flg true (List.replicate n 32)=true:=λn=>by
    induction n with
    | zero=>rfl
    | succ n ih=>rw[List.replicate_succ,flg,Yl rfl];exact ih
   rw[this];omega
  ·rw[<- zbm,e,Y6,List.length_replicate,zbm];omega
theorem zkx(l:List Nat)(n:Nat):l.take n++l.drop n=l:=List.take_append_drop n l
theorem zyp{x:Str}{a:Int}{c:Nat}(h:0<=a):stt true (cutS x none (some a)++⟨#[c]⟩++cutS x (some a) none).cps.toList<=stt true x.cps.toList+2/\(cutS x none (some a)++⟨#[c]⟩++cutS x (some a) none).length<=x.length+310/\(cutS x none (some a)).length<=x.length/\(cutS x (some a) none).length<=x.length:=by
 have el:=zbm x;rw[zec h,zb8 h];have l1:(x.cps.toList.take a.toNat).length+(x.cps.toList.drop a.toNat).length=x.length:=by rw[<- Y6,zkx,el]
 refine⟨?_,?_,by rw[zbx];omega,by rw[zbx];omega⟩
 ·simp only[zja,zda]
  have:=zn8 (x.cps.toList.take a.toNat) (x.cps.toList.drop a.toNat) c true;rw[zkx]at this;rw[List.append_assoc,List.singleton_append];omega
 ·simp only[Str.length_append,zbx,List.length_cons,List.length_nil]
  omega
theorem zys{x:Str}{a:Int}(h:0<=a):stt true (cutS x none (some a)++cutS x (some (a+1)) none).cps.toList<=stt true x.cps.toList+2/\(cutS x none (some a)++cutS x (some (a+1)) none).length<=x.length+310/\(cutS x (some (a+1)) none).length<=x.length:=by
 have el:=zbm x;have l1:(x.cps.toList.take a.toNat).length+(x.cps.toList.drop a.toNat).length=x.length:=by rw[<- Y6,zkx,el]
 rw[zec h,zb8 (by omega),show (a+1).toNat=a.toNat+1 by omega,<- List.drop_drop];have l2:((x.cps.toList.drop a.toNat).drop 1).length<=(x.cps.toList.drop a.toNat).length:=by rw[List.length_drop];omega
 refine⟨?_,?_,by rw[zbx];omega⟩
 ·simp only[zja,zda]
  have:=zn2 (x.cps.toList.take a.toNat) (x.cps.toList.drop a.toNat) true;rw[zkx]at this;omega
 ·simp only[Str.length_append,zbx];omega
theorem zy7{x:Str}{a:Int}{c:Nat}(h:0<=a):stt true (cutS x none (some a)++⟨#[c]⟩++cutS x (some (a+1)) none).cps.toList<=stt true x.cps.toList+2/\(cutS x none (some a)++⟨#[c]⟩++cutS x (some (a+1)) none).length<=x.length+310:=by
 have el:=zbm x;have l1:(x.cps.toList.take a.toNat).length+(x.cps.toList.drop a.toNat).length=x.length:=by rw[<- Y6,zkx,el]
 rw[zec h,zb8 (by omega),show (a+1).toNat=a.toNat+1 by omega,<- List.drop_drop];have l2:((x.cps.toList.drop a.toNat).drop 1).length<=(x.cps.toList.drop a.toNat).length:=by rw[List.length_drop];omega
 refine⟨?_,?_⟩
 ·simp only[zja,zda]
  rw[List.append_assoc,List.singleton_append];have h1:=zn2 (x.cps.toList.take a.toNat) (x.cps.toList.drop a.toNat) true;have h2:=zn8 (x.cps.toList.take a.toNat) ((x.cps.toList.drop a.toNat).drop 1) c true;rw[zkx]at h1;omega
 ·simp only[Str.length_append,zbx,List.length_cons,List.length_nil]
  omega
theorem zym{x:Str}{n:Int}(h0:0<=n)(h1:n<=12):stt true (repS "(" n++x++repS ")" n).cps.toList<=stt true x.cps.toList+2/\(repS "(" n++x++repS ")" n).length<=x.length+310/\(repS "(" n).length<=12/\(repS ")" n).length<=12:=by
 have l1:=zg6 (x:="(") h0;have l2:=zg6 (x:=")") h0;rw[show ("(" : Str).length=1 by decide +kernel,Nat.one_mul]at l1;rw[show (")" : Str).length=1 by decide +kernel,Nat.one_mul]at l2;refine⟨?_,by rw[Str.length_append,Str.length_append];omega,by omega,by omega⟩;rw[zja,zja,zcj,zdo _ (zgz (zew _ (by decide +kernel)) h0),zcj,zdo _ (zgz (zew _ (by decide +kernel)) h0)];have:=zj3 (flg true (repS "(" n).cps.toList) true x.cps.toList;omega
def zvp:Sp:=λvs H Q _=>∃(x:Str) (k:Nat),vs=[.str x,.int k]/\x.length<=5000/\Q (.bl (figs k x.cps.toList)) H
def zvk:Sp:=λvs H Q _=>∃(x:Str) (m:Nat),vs=[.str x,.str (nmS m)]/\m<=4/\x.length<=300/\∀H',Same H H'->Q (.bl (facL (nmL m) x.cps.toList)) H'
theorem zxa{l:List Nat}{i c:Nat}(h:l[i]? = some c)(hc:isD c=true)(ha:(l.take i).all isD=true):(l.take (i+1)).all isD=true:=by
 rw[List.take_add_one,h,List.all_append,ha];show (true&&([c].all isD))=true;simp[hc]
theorem zq6{x:Str}{i c:Nat}(h:x.cps[i]? = some c):x.cps.toList[i]? = some c:=by rw[Array.getElem?_toList];exact h
theorem zrt{c:TT}{t u:TS}{D:Ends}{σ : St}{H:Hp}(b:Bool)(hc:∀Q':Bool->Hp->Prop,Q' b H->c σ H Q')(h:if b=true then t D σ H else u D σ H):tIfS c t u D σ H:=hc _ h
def hdIn(m:Nat):List Nat->Bool
 | []=>false
 | a::_=>decide (a∈nmL m)
theorem zje{x y:Str}(h:x.cps.toList=y.cps.toList):x=y:=Str.ext' (by rw[<- Array.toList_inj];exact h)
theorem sl47:("/" : Str)=⟨#[47]⟩:=by decide +kernel
theorem at64:("@" : Str).cps.toList=[64]:=by decide +kernel
theorem e0:("" : Str).cps.toList=[]:=by decide +kernel
theorem ztf{x y:Str}(h:V.str x=V.str y):x=y:=by injection h
theorem zt1{α β : Type}(l:List α)(d : α)(f : α->β):(List.range l.length).map (λi=>f (l.getD i d))=l.map f:=by
 refine List.ext_getElem? λi=>?_
 rw[Ym,Ym];rcases Jg i l.length with q | q
 ·rw[List.getElem?_range q,Yc q];show some (f (l.getD i d))=some (f l[i]);rw[List.getD_eq_getElem?_getD,Yc q];rfl
 ·rw[Yy (by simpa using q),Yy q];rfl
theorem zsv{x y:Str}(h:y∈Txt.split x ⟨#[47]⟩):y.length<=x.length:=by
 have e:∀(c:Nat) (l:List Nat),∀p∈spl c l,p.length<=l.length:=by
  intro c l;induction l with
  | nil=>intro p hp;rw[spl]at hp;rw[Yq.mp hp];exact Yi _
  | cons a l ih=>
   intro p hp;rw[spl]at hp;split at hp
   ·rcases Yj.mp hp with q | q
    ·rw[q];exact Y2 _
    ·exact Nat.le_succ_of_le (ih p q)
   ·split at hp
    ·rename_i z;exact absurd z (zdh c l)
    ·rename_i h' k' z
     rw[z]at ih;rcases Yj.mp hp with q | q
     ·rw[q,Y5,Y5];exact Nat.succ_le_succ (ih h' (by simp))
     ·exact Nat.le_succ_of_le (ih p (by simp[q]))
 have:=e 47 x.cps.toList y.cps.toList (by rw[<- zc7];exact Ji.mpr ⟨y,h,Z⟩);rw[zbm,zbm]at this;exact this
def zqo:Sp:=λvs H Q _=>∃(x:Str) (m:Nat),vs=[.str x,.str (nmS m)]/\m<=4/\x.length<=300/\∀H',Same H H'->Q (.bl (zmm (nmL m) x.cps.toList)) H'
def zrc:Sp:=λvs H Q _=>∃x:Str,vs=[.str x]/\x.length<=5000/\∀n:Int,(8<n↔pf ok8 0 x.cps.toList=false)->Q (.int n) H
theorem zdv(c:Nat):∀(l:List Nat),∀p∈spl c l,c ∉ p/\(∀x∈p,x∈l)/\p.length<=l.length
 | [],p,hp=>by rw[spl]at hp;rw[Yq.mp hp];exact⟨by simp,by simp,Yi _⟩
 | a::l,p,hp=>by
  rw[spl]at hp;split at hp
  ·rcases Yj.mp hp with q | q
   ·rw[q];exact⟨by simp,by simp,Y2 _⟩
   ·obtain⟨h1,h2,h3⟩:=zdv c l p q;exact⟨h1,λx hx=>by simp[h2 x hx],Nat.le_succ_of_le h3⟩
  ·rename_i ne
   split at hp
   ·rename_i z;exact absurd z (zdh c l)
   ·rename_i h' k' z
    rcases Yj.mp hp with q | q
    ·obtain⟨h1,h2,h3⟩:=zdv c l h' (by rw[z];simp);rw[q];refine⟨?_,λx hx=>?_,Nat.succ_le_succ h3⟩
     ·simp only[List.mem_cons,not_or];exact⟨λw=>ne w.symm,h1⟩
     ·rcases Yj.mp hx with w | w
      ·simp[w]
      ·simp[h2 x w]
    ·obtain⟨h1,h2,h3⟩:=zdv c l p (by rw[z];simp[q]);exact⟨h1,λx hx=>by simp[h2 x hx],Nat.le_succ_of_le h3⟩
theorem zy5(l:List Nat):45 ∉ mp l:=λh=>by
 obtain⟨c,_,e⟩:=Ji.mp h;by_cases z:c=45
 ·rw[Yl z]at e;cases e
 ·rw[Yh z]at e;exact z e
theorem zy6{v p w:List Nat}(hp:p∈spl 43 (mp v))(hw:w∈spl 42 p):Of w:=λc hc=>by
 obtain⟨h1,h2,_⟩:=zdv 43 _ p hp;obtain⟨h3,h4,_⟩:=zdv 42 _ w hw
 cases z:isO c with
 | false=>rfl
 | true=>
  rcases opc3 z with z | z | z
  ·exact absurd (z ▸ hc) h3
  ·exact absurd (z ▸ h4 c hc) h1
  ·exact absurd (z ▸ h2 c (h4 c hc)) (zy5 v)
theorem zr3(x:Str):(Txt.replace x "-" "+").cps.toList=mp x.cps.toList:=by
 have e1:("-" : Str)=⟨#[45]⟩:=by decide +kernel
 have e2:("+" : Str).cps.toList=[43]:=by decide +kernel
 rw[e1,zng,e2];unfold mp;induction x.cps.toList with
 | nil=>rfl
 | cons c l ih=>
  rw[List.flatMap_cons,Yz,ih];by_cases z:c=45
  ·rw[Yl z,Yl z];rfl
  ·rw[Yh z,Yh z];rfl
theorem zqy(l:List Nat):(mp l).length=l.length:=by unfold mp;simp
theorem zhl(l:List Nat):(strip l).length<=l.length:=by
 unfold strip;split
 ·simp
 ·exact Yi _
theorem zqz{α : Type}{l:List α}{f : α->Bool}{i:Nat}{a : α}(h:l[i]? = some a)(ha:f a=true)(hl:(l.take i).all f=true):(l.take (i+1)).all f=true:=by
 rw[List.take_add_one,h,List.all_append,hl];show (true&&([a].all f))=true;simp[ha]
theorem zq8{α : Type}{l:List α}{f : α->Bool}{i:Nat}{a : α}(h:l[i]? = some a)(ha:f a=false):l.all f=false:=List.all_eq_false.mpr ⟨a,Yx h,by simp[ha]⟩
theorem ztr(x:Str):(cutS x none (some 1)=("-" : Str)/\(cutS x (some 1) none).cps.toList=strip x.cps.toList)\/(cutS x none (some 1)≠("-" : Str)/\x.cps.toList=strip x.cps.toList):=by
 have e1:("-" : Str)=⟨#[45]⟩:=by decide +kernel
 rw[e1,zec (by decide),zb8 (by decide)]
 cases hx:x.cps.toList with
 | nil=>
  refine .inr ⟨λz=>?_,Z⟩;have:=Js (λz:Str=>z.cps.toList) z;simp only[zda]at this
  cases this
 | cons a r=>
  by_cases c:a=45
  ·subst c;exact .inl ⟨Z,by rw[zda];rfl⟩
  ·refine .inr ⟨λz=>?_,?_⟩
   ·have:=Js (λz:Str=>z.cps.toList) z;simp only[zda]at this;have h:(a::r).take (1:Int).toNat=[a]:=rfl;rw[h]at this;injection this with this
    exact c this
   ·unfold strip;split
    ·rename_i e;injection e with e1 e2;exact absurd e1 c
    ·rfl
theorem pf_n{ok:Nat->Bool}{e c:Nat}{r:List Nat}(h1:c≠40)(h2:c≠41):pf ok e (c::r)=pf ok e r:=by rw[pf,Yh (by simpa using h1),Yh (by simpa using h2)]
theorem pf_o{ok:Nat->Bool}{e:Nat}{r:List Nat}:pf ok e (40::r)=(ok (e+1)&&pf ok (e+1) r):=by rw[pf];rfl
theorem pf_s{ok:Nat->Bool}{e:Nat}{r:List Nat}:pf ok e (41::r)=(decide (0<e)&&pf ok (e-1) r):=by rw[pf];rfl
def zv3:Sp:=λvs H Q _=>∃(x:Str) (m:Nat),vs=[.str x,.str (nmS m)]/\m<=4/\x.length<=5000/\∀H',Same H H'->Q (.bl (decide (x.length<=300)&&ac m zS 0 (flt x.cps.toList))) H'
theorem zga{ok:Nat->Bool}:∀(l:List Nat) (e:Nat),pf ok e (flt l)=pf ok e l
 | [],_=>rfl
 | c::l,e=>by
  by_cases z:c=32
  ·subst z;rw[show flt (32::l)=flt l from rfl,zga l e,pf_n (by decide) (by decide)]
  ·have ef:flt (c::l)=c::flt l:=by unfold flt;rw[List.filter_cons,Yl (by simpa using z)]
   rw[ef];by_cases c1:c=40
   ·subst c1;rw[pf_o,pf_o,zga l]
   ·by_cases c2:c=41
    ·subst c2;rw[pf_s,pf_s,zga l]
    ·rw[pf_n c1 c2,pf_n c1 c2,zga l]
theorem zn4{l:List Nat}{c:Nat}(hc:c≠32):c∈flt l↔c∈l:=by
 unfold flt;rw[List.mem_filter];simp[hc]
theorem zt0{y:Str}{i j:Nat}(h1:i<=j)(h2:j<=y.length):cutS y (some (i:Int)) (some (j:Int))=⟨((y.cps.toList.drop i).take (j-i)).toArray⟩:=by
 have el:=zbm y;have q:=StrLaws.sliceText_plain (x:=y) (i:=i) (j:=(j:Int)) ⟨by omega,by omega,by omega⟩;refine Eq.trans (show cutS y _ _=StrLaws.sliceText y _ _ from rfl) (q.trans ?_);rw[Y1,show ((j:Int)-(i:Int)).toNat=j-i by omega]
def spNB:Sp:=λvs H Q _=>∃(n:Int) (x:Str) (m:Nat),vs=[.int n,.str x]/\(n=0\/Pr n)/\m<=4/\x.length<=300/\ac m zS 0 (flt x.cps.toList)=true/\∀H' b,Same H H'->(b=true↔bad n (bots (flt x.cps.toList)))->Q (.bl b) H'
theorem at3:(" @ " : Str).cps.toList=[32,64,32]:=by decide +kernel
theorem ztk:∀(l:List Nat) (a:Str),32 ∉ l->64 ∉ l->(foR " @ " a l).cps.toList=a.cps.toList.flatMap λy=>if y∈l then [32,64,32] else [y]
 | [],a,_,_=>by
  show a.cps.toList=_;induction a.cps.toList with
  | nil=>rfl
  | cons c r ih=>rw[List.flatMap_cons,<- ih];simp
 | c::l,a,h1,h2=>by
  simp only[List.mem_cons,not_or]at h1 h2
  show (foR " @ " (Txt.replace a ⟨#[c]⟩ " @ ") l).cps.toList=_;rw[ztk l _ h1.2 h2.2,zng,at3,List.flatMap_assoc];congr 1
  funext y
  by_cases z:y=c
  ·rw[Yl z,Yl (by simp[z])];simp[h1.2,h2.2]
  ·rw[Yh z];simp[z]
theorem zht:("()+-*" : Str).cps.toList=[40,41,43,45,42]:=by decide +kernel
theorem zrw(a:Str):flt (foR " @ " a ("()+-*" : Str).cps.toList).cps.toList=sp5 (flt a.cps.toList):=by
 rw[zht,ztk _ _ (by decide) (by decide)];induction a.cps.toList with
 | nil=>rfl
 | cons c r ih=>
  rw[List.flatMap_cons,zi0,ih];by_cases z:c=32
  ·subst z;rfl
  ·have ef:flt (c::r)=c::flt r:=by unfold flt;rw[List.filter_cons,Yl (by simpa using z)]
   rw[ef];show _=(if seps.contains c then 64 else c)::sp5 (flt r);by_cases hc:seps.contains c=true
   ·have:c∈[40,41,43,45,42]:=by
     have:c=40\/c=41\/c=42\/c=43\/c=45:=by simpa[seps]using hc
     simp;omega
    rw[Yl this,Yl hc];rfl
   ·have:c ∉ [40,41,43,45,42]:=λh=>hc (by
     have:c=40\/c=41\/c=43\/c=45\/c=42:=by simpa using h
     rcases this with h | h | h | h | h <;> rw[h] <;> rfl)
    rw[Yh this,Yh hc];show flt [c]++_=_;rw[zg0 (by simpa using Jc z)];rfl
theorem zne(a:Str)(l:List Nat)(h1:32 ∉ l)(h2:64 ∉ l):(foR " @ " a l).length<=3*a.length:=by
 rw[<- zbm,ztk l a h1 h2,<- zbm];induction a.cps.toList with
 | nil=>exact Yi _
 | cons c r ih=>
  rw[List.flatMap_cons,Y6,Y5];split
  ·show 3+_<=_;omega
  ·show 1+_<=_;omega
theorem zwb{m:Nat}{l:List Nat}(m4:m<=4)(h:ac m zS 0 l=true):∀w∈spl 64 (sp5 l),OkW w:=by
 obtain⟨x,k,e⟩:=List.exists_cons_of_ne_nil (zdh 64 (sp5 l));obtain⟨h1,h2⟩:=zl4 (zpp m (by omega)) l zS 0 x k (λj z=>nomatch z) h e;rw[e];intro w hw;rcases Yj.mp hw with q | q
 ·rw[q];exact h1
 ·exact h2 w q
theorem zv0(l:List Nat):bots l=(spl 64 (sp5 l)).flatMap bots:=by rw[<- zka,(zjp (sp5 l)).1]
theorem zvn{w:Str}{x y:List Nat}(h:spl 47 w.cps.toList=[x,y]):∃a b:Str,Txt.split w ⟨#[47]⟩=[a,b]/\b.cps.toList=y:=by
 have s:=zc7 w 47;rw[h]at s
 cases q:Txt.split w ⟨#[47]⟩ with
 | nil=>rw[q]at s;cases s
 | cons a r=>cases r with
  | nil=>rw[q]at s;cases s
  | cons b r=>cases r with
   | nil=>rw[q]at s;injection s with _ s;injection s with s _;exact⟨a,b,rfl,s⟩
   | cons _ _=>rw[q]at s;cases s
def spLR(CG CF CR CO CD CT CW:Addr):Sp:=λvs H Q _=>∃(r:Addr) (x:Str) (g:RgD),vs=[.ref r,.str x]/\RgP CG CF CR CO CD CT CW H r g/\x.length<=200000/\stt true (flt x.cps.toList)<=18/\((300<x.length\/ac g.m zS 0 (flt x.cps.toList)=false)->∀q H',H' q=some (.tup [.str "refused",.str "text"])->Q (.ref q) H')/\(x.length<=300->ac g.m zS 0 (flt x.cps.toList)=true->bad g.n (bots (flt x.cps.toList))->∀q H',H' q=some (.tup [.str "refused",.str "over"])->Q (.ref q) H')/\(x.length<=300->ac g.m zS 0 (flt x.cps.toList)=true->¬bad g.n (bots (flt x.cps.toList))->∀q d kvs H',H' q=some (.tup [.str "told",.ref d])->H' d=some (.dT kvs)->Q (.ref q) H')
theorem rds3{K:W.Frag}{H:Hp}{l:Addr}{a b c:Bool}(h:H l=some (.lst [.bl a,.bl b,.bl c])):Rds K H (.ref l) (.list [.bool a,.bool b,.bool c]):=.lst (SqL.of h) (.cons (.bl a) (.cons (.bl b) (.cons (.bl c) .nil)))
def zpm(K:W.Frag):Sp:=λvs H Q _=>∃(a:Addr) (ns:List Int),vs=[.ref a]/\SqL K H a (ns.map V.int)/\ns.length<=63/\∀H',Q (.bl true) H'
theorem rds2{K:W.Frag}{H:Hp}{l:Addr}{a b:Str}(h:H l=some (.tup [.str a,.str b])):Rds K H (.ref l) (.tuple [.str a,.str b]):=.tup (SqT.of h) (.cons (.str a) (.cons (.str b) .nil))
theorem zyu(ns:List Int):∃cs:List Int,cutV (ns.map V.int) (some 5) (some 19)=cs.map V.int/\cs.length<=14:=by
 refine⟨(ns.drop (HT.sIx ns.length 0 (some 5))).take (HT.sIx ns.length ns.length (some 19)-HT.sIx ns.length 0 (some 5)),?_,?_⟩
 ·unfold cutV;rw[Yd,List.map_take,List.map_drop]
 ·have a1:HT.sIx ns.length 0 (some 5)=min 5 ns.length:=rfl;have a2:HT.sIx ns.length ns.length (some 19)=min 19 ns.length:=rfl;rw[List.length_take,List.length_drop,a1,a2];omega
end K6
namespace K6
open PySem L2
open K1 K2 K3 K6 K8 K37 G K15 K15.Sq
section
variable{P:Program}{w:World}{K:W.Frag}{mg:Str->Option Value}{base:Heap}{f:Addr}{fd:FuncData}{zau zad zaj zag zab:Addr}{zam zb0 zdf zal za8:Addr}{tk_Made tk_MadeR:Tok}(T:Txt P w K mg base zau zad zaj zag zab)
include T
local macro_rules | `(tactic| walk_at "x") => `(tactic| (refine xg λg hg => ?_; repeat refine xl λ_ => ?_))
local macro_rules | `(tactic| walk_at "v") => `(tactic| (intro _ _ _ _; (repeat refine xl λ_ => ?_); exact λh => h.1 ▸ rfl))
local macro_rules | `(tactic| walk_at "sd") => `(tactic| first
 | assumption | (dsimp only;omega) | (dsimp only;decide) | exact⟨by decide,by decide⟩ | exact⟨by decide,by decide,by decide⟩ | exact Or.inl ⟨by decide,by decide⟩ | exact⟨by omega,by omega⟩ | exact Or.inl ⟨by omega,by omega⟩ | exact Or.inr ⟨by decide,by decide⟩ | exact Or.inr ⟨by omega,by omega⟩)
local macro_rules | `(tactic| walk_at "rd") => `(tactic| repeat first
 | refine⟨_,rfl,?_⟩ | refine⟨_,_,rfl,rfl,?_⟩ | refine And.intro rfl ?_ | refine And.intro (by walk_at "sd") ?_ | with_reducible refine iteT ?_ | with_reducible refine iteF ?_ | (apply zvy;assumption;rfl))
local macro_rules | `(tactic| walk_at "clo") => `(tactic| exact h)
theorem zmu(F:FunD K "shared_divisor" "shared_divisor" zcb .none f fd)   : FnOk P w K mg base CX0 1 f fd ["one","other"] zfa:=by
 have scShared:FnScope ["one","other","rest"] ["one","other"] (zak zcb):=sM (by decide +kernel);refine F.okN (k:=0) scShared (by walk_at "v") (λcdv A outer s H vs Q E hr=>?_);walk_at "x";rename_i g_ hg_ a b;rintro⟨rfl,h⟩;subst hg_;refine⟨_,(zac (zck PassesOwn.never (zan zla (pv 1) (zae) (nomark _)) (zac (zav (i:=2) scShared.nd rfl (Or.inl rfl) (zao zfx (pv 0) (pv 1)))
  (zac (zav (i:=0) scShared.nd rfl (Or.inl rfl) (pv 1))
  (zaf (zav (i:=1) scShared.nd rfl (Or.inl rfl) (pv 2))))))
  (zaf (zap (pv 0)))),?_⟩
 obtain⟨ha,hb,k⟩:=h;refine⟨λm σ H'=>∃(a' b':Int) (v:Option V),m=b'.toNat/\σ = [some (.int a'),some (.int b'),v]/\H'=H/\0<=a'/\0<=b'/\Gc a b a' b',⟨_,_,_,none,Z,Z,Z,K1.start ha hb⟩,?_⟩;rintro m σ H' ⟨a',b',v,rfl,rfl,rfl,h1,h2,hg⟩;walk_at "rd";refine cNe (λc=>?_) (λc=>?_)
 ·refine⟨λσ' H''=>∃v',σ'=[some (.int b'),some (.int (a'.fmod b')),v']/\H''=H',?_,?_⟩
  ·rintro σ' H'' ⟨v',rfl,rfl⟩;exact⟨(a'.fmod b').toNat,K1.less (by omega),_,_,v',rfl,rfl,rfl,K1.turn hg h1 (by omega)⟩
  ·refine⟨_,Z,_,Z,_,_,Z,Z,c,?_⟩;walk_at "rd";rfl
 ·refine⟨_,Z,?_⟩;show Q (.int a') H';rw[K1.out hg h1 c];exact k
theorem zpn(F:FunD K "is_prime" "is_prime" ze1 .none f fd)   : FnOk P w K mg base CX0 1 f fd ["number"] zly:=by
 have scPrime:FnScope ["number","divisor"] ["number"] (zak ze1):=sM (by decide +kernel);refine F.okN (k:=0) scPrime (by walk_at "v") (λcdv A outer s H vs Q E hr=>?_);walk_at "x";rename_i g_ hg_ n;rintro⟨rfl,h⟩;subst hg_;refine⟨_,(zac (za1 (zan zfy (pv 0) (zae) (nomark _)) (zaf (zap (zcw))) zat)
  (zac (zav (i:=1) scPrime.nd rfl (Or.inl rfl) (zae))
  (zac (zck PassesOwn.never (zan zpi (zao zhn (pv 1) (pv 1)) (pv 0) (nomark _)) (zac (za1 (zan zbi (zao zfx (pv 0) (pv 1)) (zae) (nomark _)) (zaf (zap (zcw))) zat)
  (zaf (zvq (i:=1) scPrime.nd rfl (Or.inl rfl) (zae) zxt))))
  (zaf (zap (zcw)))))),?_⟩
 obtain⟨hn,k⟩:=h;walk_at "rd";refine cD (λc=>?_) (λc=>?_)
 ·show Q (.bl false) H;rw[low c];exact k
 refine⟨λm σ H'=>∃d:Int,m=(200-d).toNat/\σ = [some (.int n),some (.int d)]/\H'=H/\2<=d/\d<=101/\NoDiv n d,⟨_,2,Z,Z,Z,K3.start n⟩,?_⟩;rintro m σ H' ⟨d,rfl,rfl,rfl,h2,h3,hd⟩;refine⟨_,Z,_,Z,_,_,Z,Z,.inl (zjq (n:=n) h2 h3),?_⟩;walk_at "rd";refine cD (λq=>?_) (λq=>?_)
 ·refine⟨λσ' H''=>σ'=[some (.int n),some (.int (d+1))]/\H''=H'/\¬Int.fmod n d=0,?_,?_⟩
  ·rintro σ' H'' ⟨rfl,rfl,nz⟩;exact⟨(200-(d+1)).toNat,K3.less h2 q hn,d+1,rfl,rfl,rfl,K3.turn hd nz h2 q hn⟩
  ·refine⟨_,Z,_,Z,_,_,Z,Z,(by show d≠0;omega),?_⟩;walk_at "rd";refine cEq (λz=>?_) (λz=>?_)
   ·show Q (.bl false) H';rw[found h2 q z];exact k
   ·walk_at "rd"
    exact z
 ·show Q (.bl true) H';rw[K3.out hd (by omega) h2 q];exact k
theorem zik(F:FunD K "__init__" "Field.__init__" zci .none f fd)   : FnOk P w K mg base CX0 1 f fd ["self","prime"] (zjg K):=by
 have scFieldInit:FnScope ["self","prime"] ["self","prime"] (zak zci):=sM (by decide +kernel);refine F.okN (k:=0) scFieldInit (by walk_at "v") (λcdv A outer s H vs Q E hr=>?_);walk_at "x";rename_i g_ hg_ p C dx v;rintro⟨rfl,h⟩;subst hg_;refine⟨_,(zaf (zgd (pv 0) (pv 1) rfl)),?_⟩;obtain⟨hp,hc,ha,k⟩:=h;exact⟨_,Z,_,Z,p,C,dx,[],Z,hp,hc,ha,(by show 0<1000;decide),k⟩
theorem zix(F:FunD K "__init__" "Fractions.__init__" zbo .none f fd)(q_FieldInit:CCal P w K mg base CX0 1 "Field" "__init__" ["self","prime"] [] (zjg K)):FnOk P w K mg base CX0 2 f fd ["self"] (zgc zad):=by
 have scFracInit:FnScope ["self"] ["self"] (zak zbo):=sM (by decide +kernel);refine F.okN (k:=1) scFracInit (by walk_at "v") (λcdv A outer s H vs Q E hr=>?_);walk_at "x";rename_i g_ hg_ p dx;rintro⟨rfl,h⟩;subst hg_;refine⟨_,(zaf (zeh (zxd q_FieldInit hr zaw .nil ((zaa (pv 0) (zaa (zae) zai)))))),?_⟩;obtain⟨hp,k⟩:=h;exact⟨_,Z,p,_,dx,_,Z,hp,T.cl_Fractions,T.na_Fractions_prime,k⟩
theorem zls(F:FunD K "nought" "Fractions.nought" zbv .none f fd)   : FnOk P w K mg base CX0 1 f fd ["self"] (zmt 0 1):=by
 have scNought:FnScope ["self"] ["self"] (zak zbv):=sM (by decide +kernel);refine F.okN (k:=0) scNought (by walk_at "v") (λcdv A outer s H vs Q E hr=>?_);walk_at "x";rename_i g_ hg_ p;rintro⟨rfl,h⟩;subst hg_;refine⟨_,(zaf (zap (zbz ((zaa (zae) (zaa (zae) zai)))))),?_⟩;exact⟨(by show 2<=sizeLine;decide),λr hr'=>h r _ (Same.upd hr') zah⟩
theorem zuy(F:FunD K "one" "Fractions.one" zct .none f fd)   : FnOk P w K mg base CX0 1 f fd ["self"] (zmt 1 1):=by
 have scOne:FnScope ["self"] ["self"] (zak zct):=sM (by decide +kernel);refine F.okN (k:=0) scOne (by walk_at "v") (λcdv A outer s H vs Q E hr=>?_);walk_at "x";rename_i g_ hg_ p;rintro⟨rfl,h⟩;subst hg_;refine⟨_,(zaf (zap (zbz ((zaa (zae) (zaa (zae) zai)))))),?_⟩;exact⟨(by show 2<=sizeLine;decide),λr hr'=>h r _ (Same.upd hr') zah⟩
theorem ztg{dT:Addr}(F:FunD K "made" "Fractions.made" zbb (.ref dT) f fd)(c_Shared:Cal P w K mg base CX0 1 "shared_divisor" ["one","other"] [] zfa)(x_NoOver:Exc K mg base "NoOver" zam)  : FnOk P w K mg base (CXe P w) 2 f fd ["self","top","bottom"] (zq9 zam):=by
 have scMade:FnScope ["self","top","bottom","divisor"] ["self","top","bottom"] (zak zbb):=sM (by decide +kernel);refine F.okX (k:=1) scMade (by walk_at "v") (λcdv A outer s H vs Q E hr=>?_);walk_at "x";rename_i g_ hg_ p t b;rintro⟨rfl,h⟩;subst hg_;refine⟨_,(zac (za1 (zan zbi (pv 2) (zae) (nomark _)) (zaf (zf3 x_NoOver rfl rfl za3 ((zaa (zas) zai)))) zat)
  (zac (zav (i:=3) scMade.nd rfl (Or.inl rfl) (pe_c c_Shared hr zaw .nil ((zaa (za5 zeu rfl T.b_abs (by kernel_rfl) ((zaa (pv 1) zai))) (zaa (za5 zeu rfl T.b_abs (by kernel_rfl) ((zaa (pv 2) zai))) zai)))))
  (zac (za1 (zan zfy (pv 2) (zae) (nomark _)) (zaf (zav (i:=3) scMade.nd rfl (Or.inl rfl) (zo7 zjt (pv 3)))) zat)
  (zaf (zap (zbz ((zaa (zao zbu (pv 1) (pv 3)) (zaa (zao zbu (pv 2) (pv 3)) zai))))))))),?_⟩
 obtain⟨hb,k⟩:=h;walk_at "rd";refine cEq (λc=>?_) (λc=>?_)
 ·refine⟨(by show 1<=sizeLine;decide),?_⟩;rcases k with⟨q,_⟩ | ⟨_,q⟩
  ·exact absurd c q
  ·exact q
 rcases k with⟨_,k⟩ | ⟨q,_⟩
 case inr=>exact absurd q c
 obtain⟨d0,d1⟩:=zvv (t:=t) c hb;have c1:CDivB t (dv t b):=⟨d0,d1⟩;have c2:CDivB b (dv t b):=⟨d0,d1⟩;walk_at "rd";refine⟨_,_,Z,by split <;> omega,by split <;> omega,?_⟩;rw[zu2];walk_at "rd";refine cD (λn=>?_) (λn=>?_)
 ·walk_at "rd"
  have e : -(gI t b)=dv t b:=by unfold dv;rw[Yl n]
  try dsimp only
  rw[e];walk_at "rd";exact⟨(by show 2<=sizeLine;decide),λr hr'=>k r _ (Same.upd hr') zah⟩
 ·have e:gI t b=dv t b:=by unfold dv;rw[Yh n]
  rw[e];walk_at "rd";exact⟨(by show 2<=sizeLine;decide),λr hr'=>k r _ (Same.upd hr') zah⟩
theorem zof(F:FunD K "plus" "Fractions.plus" zcf .none f fd)(c_Shared:Cal P w K mg base CX0 1 "shared_divisor" ["one","other"] [] zfa):FnOk P w K mg base CX0 2 f fd ["self","a","b"] (zj7 zad (λx y z w=>x*w+z*y) (λx y z w=>y*w)):=by
 have scPlusF:FnScope ["self","a","b","shared","top","further"] ["self","a","b"] (zak zcf):=sM (by decide +kernel);refine F.okN (k:=1) scPlusF (by walk_at "v") (λcdv A outer s H vs Q E hr=>?_);walk_at "x";rename_i g_ hg_ p dx ra rb x y z w;rintro⟨rfl,h⟩;subst hg_;refine⟨_,(zac (za1 (PW.pt (zho (zan zbi (zba (r:=rIxT K) za6 (pv 1) (zae) (λ_ _=>Z)) (zae) (nomark _)) (zfm (zan zbi (zba (r:=rIxT K) za6 (pv 2) (zae) (λ_ _=>Z)) (zae) (nomark _))))) (zaf (zap (zbz ((zaa (zao zb2 (zba (r:=rIxT K) za6 (pv 1) (zae) (λ_ _=>Z)) (zba (r:=rIxT K) za6 (pv 2) (zae) (λ_ _=>Z))) (zaa (zae) zai)))))) zat)
  (zac (zav (i:=3) scPlusF.nd rfl (Or.inl rfl) (pe_c c_Shared hr zaw .nil ((zaa (zba (r:=rIxT K) za6 (pv 1) (zae) (λ_ _=>Z)) (zaa (zba (r:=rIxT K) za6 (pv 2) (zae) (λ_ _=>Z)) zai)))))
  (zac (zav (i:=4) scPlusF.nd rfl (Or.inl rfl) (zao zb2 (zao zez (zba (r:=rIxT K) za6 (pv 1) (zae) (λ_ _=>Z)) (zao zbu (zba (r:=rIxT K) za6 (pv 2) (zae) (λ_ _=>Z)) (pv 3))) (zao zez (zba (r:=rIxT K) za6 (pv 2) (zae) (λ_ _=>Z)) (zao zbu (zba (r:=rIxT K) za6 (pv 1) (zae) (λ_ _=>Z)) (pv 3)))))
  (zac (zav (i:=5) scPlusF.nd rfl (Or.inl rfl) (pe_c c_Shared hr zaw .nil ((zaa (za5 zeu rfl T.b_abs (by kernel_rfl) ((zaa (pv 4) zai))) (zaa (pv 3) zai)))))
  (zaf (zap (zbz ((zaa (zao zbu (pv 4) (pv 5)) (zaa (zao zez (zao zbu (zba (r:=rIxT K) za6 (pv 1) (zae) (λ_ _=>Z)) (pv 3)) (zao zbu (zba (r:=rIxT K) za6 (pv 2) (zae) (λ_ _=>Z)) (pv 5))) zai)))))))))),?_⟩
 obtain⟨hp,ha,hb,na,nb,k⟩:=h;have y0:y≠0:=by have:=na.pos;omega
 have w0:w≠0:=by have:=nb.pos;omega
 have yp:=na.pos;have wp:=nb.pos;have A:=SqT.of (K:=K) ha;have B:=SqT.of (K:=K) hb;obtain⟨m1,m2,m3,m4,m5⟩:=na.mul nb;obtain⟨u1,u2⟩:=zqc yp wp na.cop nb.cop;have g0:=zo0 (a:=y) w0 nb.bz;have gy:=zmb y w;have d1:CDivB w (gI y w):=⟨g0.1,up g0.2 (by decide)⟩;have d2:CDivB y (gI y w):=⟨g0.1,up g0.2 (by decide)⟩;have e1:=fdr (a:=y) w0 nb.bz;have e2:=fdl (b:=w) w0 na.bz;have n1:CMulC x (Int.fdiv w (gI y w)):=⟨up na.bx (by decide),up e1 (by decide)⟩;have n2:CMulC z (Int.fdiv y (gI y w)):=⟨up nb.bx (by decide),up e2 (by decide)⟩;have f0:=zo0 (a:=x*Int.fdiv w (gI y w)+z*Int.fdiv y (gI y w)) g0.1 g0.2;have dw:gI (x*Int.fdiv w (gI y w)+z*Int.fdiv y (gI y w)) (gI y w) ∣ w:=Int.dvd_trans (zfd _ _) (zfd _ _);have d3:CDivB (x*Int.fdiv w (gI y w)+z*Int.fdiv y (gI y w)) (gI (x*Int.fdiv w (gI y w)+z*Int.fdiv y (gI y w)) (gI y w)):=⟨f0.1,up f0.2 (by decide)⟩;have d4:CDivB w (gI (x*Int.fdiv w (gI y w)+z*Int.fdiv y (gI y w)) (gI y w)):=⟨f0.1,up f0.2 (by decide)⟩;have n3:CMulC (Int.fdiv y (gI y w)) (Int.fdiv w (gI (x*Int.fdiv w (gI y w)+z*Int.fdiv y (gI y w)) (gI y w))):=⟨up e2 (by decide),up (Yp (ztp dw f0.1) nb.bz) (by decide)⟩;walk_at "rd";refine cEq (λc1=>?_) (λc1=>?_)
 ·walk_at "rd"
  refine cEq (λc2=>?_) (λc2=>?_)
  ·walk_at "rd"
   refine⟨(by show 2<=sizeLine;decide),λr hr'=>?_⟩;refine k r _ (Same.upd hr') ?_;subst c1 c2;simp only[Int.mul_one,(zo9 _).1,(zo9 _).2];exact zah
  ·walk_at "rd"
   refine⟨_,_,Z,by omega,by omega,?_⟩;walk_at "rd";refine⟨_,_,Z,by split <;> omega,gy,?_⟩;rw[ze2];walk_at "rd";refine⟨(by show 2<=sizeLine;decide),λr hr'=>?_⟩;refine k r _ (Same.upd hr') ?_;show _=some (HO.tup [V.int (fT (x*w+z*y) (y*w)),V.int (fB (x*w+z*y) (y*w))]);rw[<- u1,<- u2];exact zah
 ·walk_at "rd"
  refine⟨_,_,Z,by omega,by omega,?_⟩;walk_at "rd";refine⟨_,_,Z,by split <;> omega,gy,?_⟩;rw[ze2];walk_at "rd";refine⟨(by show 2<=sizeLine;decide),λr hr'=>?_⟩;refine k r _ (Same.upd hr') ?_;show _=some (HO.tup [V.int (fT (x*w+z*y) (y*w)),V.int (fB (x*w+z*y) (y*w))]);rw[<- u1,<- u2];exact zah
theorem zlu(F:FunD K "times" "Fractions.times" zb6 .none f fd)(c_Shared:Cal P w K mg base CX0 1 "shared_divisor" ["one","other"] [] zfa):FnOk P w K mg base CX0 2 f fd ["self","a","b"] (zj7 zad (λx y z w=>x*z) (λx y z w=>y*w)):=by
 have scTimesF:FnScope ["self","a","b","one","other"] ["self","a","b"] (zak zb6):=sM (by decide +kernel);refine F.okN (k:=1) scTimesF (by walk_at "v") (λcdv A outer s H vs Q E hr=>?_);walk_at "x";rename_i g_ hg_ p dx ra rb x y z w;rintro⟨rfl,h⟩;subst hg_;refine⟨_,(zac (za1 (PW.pt (zho (zan zbi (zba (r:=rIxT K) za6 (pv 1) (zae) (λ_ _=>Z)) (zae) (nomark _)) (zfm (zan zbi (zba (r:=rIxT K) za6 (pv 2) (zae) (λ_ _=>Z)) (zae) (nomark _))))) (zaf (zap (zbz ((zaa (zao zez (zba (r:=rIxT K) za6 (pv 1) (zae) (λ_ _=>Z)) (zba (r:=rIxT K) za6 (pv 2) (zae) (λ_ _=>Z))) (zaa (zae) zai)))))) zat)
  (zac (zav (i:=3) scTimesF.nd rfl (Or.inl rfl) (pe_c c_Shared hr zaw .nil ((zaa (za5 zeu rfl T.b_abs (by kernel_rfl) ((zaa (zba (r:=rIxT K) za6 (pv 1) (zae) (λ_ _=>Z)) zai))) (zaa (zba (r:=rIxT K) za6 (pv 2) (zae) (λ_ _=>Z)) zai)))))
  (zac (zav (i:=4) scTimesF.nd rfl (Or.inl rfl) (pe_c c_Shared hr zaw .nil ((zaa (za5 zeu rfl T.b_abs (by kernel_rfl) ((zaa (zba (r:=rIxT K) za6 (pv 2) (zae) (λ_ _=>Z)) zai))) (zaa (zba (r:=rIxT K) za6 (pv 1) (zae) (λ_ _=>Z)) zai)))))
  (zaf (zap (zbz ((zaa (zao zez (zao zbu (zba (r:=rIxT K) za6 (pv 1) (zae) (λ_ _=>Z)) (pv 3)) (zao zbu (zba (r:=rIxT K) za6 (pv 2) (zae) (λ_ _=>Z)) (pv 4))) (zaa (zao zez (zao zbu (zba (r:=rIxT K) za6 (pv 1) (zae) (λ_ _=>Z)) (pv 4)) (zao zbu (zba (r:=rIxT K) za6 (pv 2) (zae) (λ_ _=>Z)) (pv 3))) zai))))))))),?_⟩
 obtain⟨hp,ha,hb,na,nb,k⟩:=h;have y0:y≠0:=by have:=na.pos;omega
 have w0:w≠0:=by have:=nb.pos;omega
 have yp:=na.pos;have wp:=nb.pos;have A:=SqT.of (K:=K) ha;have B:=SqT.of (K:=K) hb;obtain⟨m1,m2,m3,m4,m5⟩:=na.mul nb;obtain⟨u1,u2⟩:=zlz yp wp na.cop nb.cop;have g1:=zo0 (a:=x) w0 nb.bz;have g2:=zo0 (a:=z) y0 na.bz;have d1:CDivB x (gI x w):=⟨g1.1,up g1.2 (by decide)⟩;have d2:CDivB z (gI z y):=⟨g2.1,up g2.2 (by decide)⟩;have d3:CDivB y (gI z y):=⟨g2.1,up g2.2 (by decide)⟩;have d4:CDivB w (gI x w):=⟨g1.1,up g1.2 (by decide)⟩;have n1:CMulC (Int.fdiv x (gI x w)) (Int.fdiv z (gI z y)):=⟨up (fdl w0 na.bx) (by decide),up (fdl y0 nb.bx) (by decide)⟩;have n2:CMulC (Int.fdiv y (gI z y)) (Int.fdiv w (gI x w)):=⟨up (fdr y0 na.bz) (by decide),up (fdr w0 nb.bz) (by decide)⟩;walk_at "rd";refine cEq (λc1=>?_) (λc1=>?_)
 ·walk_at "rd"
  refine cEq (λc2=>?_) (λc2=>?_)
  ·walk_at "rd"
   refine⟨(by show 2<=sizeLine;decide),λr hr'=>?_⟩;refine k r _ (Same.upd hr') ?_;subst c1 c2;simp only[Int.mul_one,(zo9 _).1,(zo9 _).2];exact zah
  ·walk_at "rd"
   refine⟨_,_,Z,by split <;> omega,by omega,?_⟩;rw[ze2];walk_at "rd";refine⟨_,_,Z,by split <;> omega,by omega,?_⟩;rw[ze2];walk_at "rd";refine⟨(by show 2<=sizeLine;decide),λr hr'=>?_⟩;refine k r _ (Same.upd hr') ?_;show _=some (HO.tup [V.int (fT (x*z) (y*w)),V.int (fB (x*z) (y*w))]);rw[<- u1,<- u2];exact zah
 ·walk_at "rd"
  refine⟨_,_,Z,by split <;> omega,by omega,?_⟩;rw[ze2];walk_at "rd";refine⟨_,_,Z,by split <;> omega,by omega,?_⟩;rw[ze2];walk_at "rd";refine⟨(by show 2<=sizeLine;decide),λr hr'=>?_⟩;refine k r _ (Same.upd hr') ?_;show _=some (HO.tup [V.int (fT (x*z) (y*w)),V.int (fB (x*z) (y*w))]);rw[<- u1,<- u2];exact zah
theorem zh6(F:FunD K "__init__" "Rests.__init__" zcc .none f fd)(c_Prime:Cal P w K mg base CX0 1 "is_prime" ["number"] [] zly)(q_FieldInit:CCal P w K mg base CX0 1 "Field" "__init__" ["self","prime"] [] (zjg K))(x_NoPrime:Exc K mg base "NoPrime" zb0)  : FnOk P w K mg base (CXe P w) 2 f fd ["self","prime"] (zme zaj zb0):=by
 have scRestsInit:FnScope ["self","prime"] ["self","prime"] (zak zcc):=sM (by decide +kernel);refine F.okX (k:=1) scRestsInit (by walk_at "v") (λcdv A outer s H vs Q E hr=>?_);walk_at "x";rename_i g_ hg_ p dx n;rintro⟨rfl,h⟩;subst hg_;refine⟨_,(zac (za1 (PW.pt (zk5 (zan zg7 (pv 1) (zd1 T.g_GREATEST_PRIME rfl) (nomark _)) (zih (zfs (zc6 (pe_c c_Prime hr zaw .nil ((zaa (pv 1) zai)))))))) (zaf (zf3 x_NoPrime rfl rfl za3 ((zaa (zas) zai)))) zat)
  (zaf (zeh (zxd q_FieldInit hr zaw .nil ((zaa (pv 0) (zaa (pv 1) zai))))))),?_⟩
 obtain⟨hp,k⟩:=h;walk_at "rd";refine cD (λc=>?_) (λc=>?_)
 ·walk_at "rd"
  refine⟨(by show 1<=sizeLine;decide),?_⟩;rcases k with⟨q,_⟩ | ⟨_,q⟩
  ·omega
  ·exact q
 ·refine⟨_,Z,n,Z,by omega,_,Z,?_⟩;rcases k with⟨_,q1,q2⟩ | ⟨q1,q2⟩
  ·rw[q1];refine iteF ?_;exact⟨_,Z,_,Z,p,zaj,dx,_,Z,hp,T.cl_Rests,T.na_Rests_prime,q2⟩
  ·have q:isP n=false:=q1.resolve_left c;rw[q];exact iteT ⟨(by show 1<=sizeLine;decide),q2⟩
theorem zk7(F:FunD K "nought" "Rests.nought" zc2 .none f fd)   : FnOk P w K mg base CX0 1 f fd ["self"] (spC (.int 0)):=by
 have scNoughtR:FnScope ["self"] ["self"] (zak zc2):=sM (by decide +kernel);refine F.okN (k:=0) scNoughtR (by walk_at "v") (λcdv A outer s H vs Q E hr=>?_);walk_at "x";rename_i g_ hg_ p;rintro⟨rfl,h⟩;subst hg_;refine⟨_,(zaf (zap (zae))),?_⟩;exact h
theorem zup(F:FunD K "one" "Rests.one" zef .none f fd)   : FnOk P w K mg base CX0 1 f fd ["self"] (spC (.int 1)):=by
 have scOneR:FnScope ["self"] ["self"] (zak zef):=sM (by decide +kernel);refine F.okN (k:=0) scOneR (by walk_at "v") (λcdv A outer s H vs Q E hr=>?_);walk_at "x";rename_i g_ hg_ p;rintro⟨rfl,h⟩;subst hg_;refine⟨_,(zaf (zap (zae))),?_⟩;exact h
theorem zpx(F:FunD K "plus" "Rests.plus" zdl .none f fd)   : FnOk P w K mg base CX0 1 f fd ["self","a","b"] (zhp zaj λn a b=>(a+b)%n):=by
 have scPlusR:FnScope ["self","a","b"] ["self","a","b"] (zak zdl):=sM (by decide +kernel);refine F.okN (k:=0) scPlusR (by walk_at "v") (λcdv A outer s H vs Q E hr=>?_);walk_at "x";rename_i g_ hg_ p dx n a b;rintro⟨rfl,h⟩;subst hg_;refine⟨_,(zaf (zap (zao zaz (zao zb2 (pv 1) (pv 2)) (za2 (K:=K) rfl (pv 0) rfl)))),?_⟩;obtain⟨⟨hp,pr,pl⟩,ia,ib,k⟩:=h;have p2:=pr.1;walk_at "rd";exact⟨p,zaj,dx,_,_,Z,hp,T.cl_Rests,T.na_Rests_prime,Z,_,_,Z,Z,(by show 0<n;omega),k⟩
theorem zlr(F:FunD K "times" "Rests.times" zde .none f fd)   : FnOk P w K mg base CX0 1 f fd ["self","a","b"] (zhp zaj λn a b=>a*b%n):=by
 have scTimesR:FnScope ["self","a","b"] ["self","a","b"] (zak zde):=sM (by decide +kernel);refine F.okN (k:=0) scTimesR (by walk_at "v") (λcdv A outer s H vs Q E hr=>?_);walk_at "x";rename_i g_ hg_ p dx n a b;rintro⟨rfl,h⟩;subst hg_;refine⟨_,(zaf (zap (zao zaz (zao zhn (pv 1) (pv 2)) (za2 (K:=K) rfl (pv 0) rfl)))),?_⟩;obtain⟨⟨hp,pr,pl⟩,ia,ib,k⟩:=h;have p2:=pr.1;obtain⟨a0,a1⟩:=ia;walk_at "rd";exact⟨p,zaj,dx,_,_,Z,hp,T.cl_Rests,T.na_Rests_prime,Z,_,_,Z,Z,(by show 0<n;omega),k⟩
theorem zwa(F:FunD K "turned" "Rests.turned" zcx .none f fd)(x_NoOver:Exc K mg base "NoOver" zam)  : FnOk P w K mg base (CXe P w) 1 f fd ["self","a"] (zxo zaj zam):=by
 have scTuR:FnScope ["self","a","found","left"] ["self","a"] (zak zcx):=sM (by decide +kernel);refine F.okX (k:=0) scTuR (by walk_at "v") (λcdv A outer s H vs Q E hr=>?_);walk_at "x";rename_i g_ hg_ p dx n a;rintro⟨rfl,h⟩;subst hg_;refine⟨_,(zac (za1 (zan zbi (pv 1) (zae) (nomark _)) (zaf (zf3 x_NoOver rfl rfl za3 ((zaa (zas) zai)))) zat)
  (zac (zav (i:=2) scTuR.nd rfl (Or.inl rfl) (zae))
  (zac (zav (i:=3) scTuR.nd rfl (Or.inl rfl) (pv 1))
  (zac (PS.nox (zck PassesOwn.never (zan zla (pv 3) (zae) (nomark _)) (zac (zav (i:=2) scTuR.nd rfl (Or.inl rfl) (zao zfx (zao zhn (zo7 zjt (pv 2)) (zao zqb (za2 (K:=K) rfl (pv 0) rfl) (pv 3))) (za2 (K:=K) rfl (pv 0) rfl)))
  (zaf (zav (i:=3) scTuR.nd rfl (Or.inl rfl) (zao zfx (za2 (K:=K) rfl (pv 0) rfl) (pv 3)))))))
  (zaf (zap (pv 2))))))),?_⟩
 obtain⟨⟨hp,pr,pl⟩,⟨a0,a1⟩,k⟩:=h;have p2:=pr.1;walk_at "rd";refine cEq (λc=>?_) (λc=>?_)
 ·refine⟨(by show 1<=sizeLine;decide),?_⟩;rcases k with⟨q,_⟩ | ⟨_,q⟩
  ·exact absurd c q
  ·exact q
 rcases k with⟨_,k⟩ | ⟨q,_⟩
 case inr=>exact absurd q c
 walk_at "rd"
 refine⟨λm σ H'=>∃(f l:Int),m=l.toNat/\σ = [some (.ref p),some (.int a),some (.int f),some (.int l)]/\H'=H/\Tn n a f l,⟨_,1,a,Z,Z,Z,zjr pr (by omega) a1⟩,?_⟩;rintro m σ H' ⟨f,l,rfl,rfl,rfl,tn⟩;have f0:=tn.f0;have f1:=tn.f1;have l0:=tn.l0;have l1:=tn.l1;walk_at "rd";refine cNe (λc1=>?_) (λc1=>?_)
 ·refine⟨λσ' H''=>σ'=[some (.ref p),some (.int a),some (.int (Int.fmod (-f*Int.fdiv n l) n)),some (.int (Int.fmod n l))]/\H''=H',?_,?_⟩
  ·rintro σ' H'' ⟨rfl,rfl⟩;exact⟨(Int.fmod n l).toNat,zn3 tn,_,_,rfl,rfl,rfl,zm9 pr tn c1⟩
  ·refine⟨_,Z,_,Z,_,Z,p,zaj,dx,_,_,Z,hp,T.cl_Rests,T.na_Rests_prime,Z,_,Z,_,_,Z,Z,⟨by show l≠0;omega,by omega⟩,_,_,Z,Z,.inl ⟨by omega,by omega⟩,?_⟩;refine⟨_,Z,p,zaj,dx,_,_,Z,hp,T.cl_Rests,T.na_Rests_prime,Z,_,_,Z,Z,(by show n≠0;omega),?_⟩;exact⟨_,Z,p,zaj,dx,_,_,Z,hp,T.cl_Rests,T.na_Rests_prime,Z,_,Z,_,_,Z,Z,(by show l≠0;omega),Z,Z⟩
 ·exact⟨_,Z,k f (zro tn c1)⟩
theorem zvj(F:FunD K "over" "Field.over" zdx .none f fd)(m_TuR:MCal P w K mg base (CXe P w) 1 zaj "turned" ["self","a"] [] (zxo zaj zam))(m_TimesR:MCal P w K mg base CX0 1 zaj "times" ["self","a","b"] [] (zhp zaj λn a b=>a*b%n)):FnOk P w K mg base (CXe P w) 2 f fd ["self","a","b"] (zxq zaj zam):=by
 have scOvR:FnScope ["self","a","b"] ["self","a","b"] (zak zdx):=sM (by decide +kernel);refine F.okX (k:=1) scOvR (by walk_at "v") (λcdv A outer s H vs Q E hr=>?_);walk_at "x";rename_i g_ hg_ p dx n a b;rintro⟨rfl,h⟩;subst hg_;refine⟨_,(zaf (zap (pe_m m_TimesR (pv 0) hr zaw .nil ((zaa (pv 1) (zaa (pe_m m_TuR (pv 0) hr zax .nil ((zaa (pv 2) zai))) zai)))))),?_⟩;obtain⟨hn,ia,ib,k⟩:=h;have hp:=hn.1;refine⟨_,Z,p,dx,_,Z,hp,no_R _ _ (by decide +kernel),_,Z,_,Z,p,dx,_,Z,hp,no_R _ _ (by decide +kernel),_,Z,?_⟩;refine⟨p,dx,n,b,Z,hn,ib,?_⟩;rcases k with⟨nz,k⟩ | ⟨z0,k⟩
 ·exact .inl ⟨nz,λf hf=>⟨p,dx,n,a,f,Z,hn,ia,⟨hf.1,hf.2.1⟩,k f hf⟩⟩
 ·exact .inr ⟨z0,k⟩
theorem zp9{dT:Addr}(F:FunD K "made" "Rests.made" zbt (.ref dT) f fd)(m_OvR:MCal P w K mg base (CXe P w) 2 zaj "over" ["self","a","b"] [] (zxq zaj zam)):FnOk P w K mg base (CXe P w) 3 f fd ["self","top","bottom"] (zwy zaj zam):=by
 have scMadeR:FnScope ["self","top","bottom"] ["self","top","bottom"] (zak zbt):=sM (by decide +kernel);refine F.okX (k:=2) scMadeR (by walk_at "v") (λcdv A outer s H vs Q E hr=>?_);walk_at "x";rename_i g_ hg_ p dx n t b;rintro⟨rfl,h⟩;subst hg_;refine⟨_,(zaf (zap (pe_m m_OvR (pv 0) hr zax .nil ((zaa (zao zaz (pv 1) (za2 (K:=K) rfl (pv 0) rfl)) (zaa (zao zaz (pv 2) (za2 (K:=K) rfl (pv 0) rfl)) zai)))))),?_⟩;obtain⟨hn,k⟩:=h;have hp:=hn.1;have p2:=hn.2.1.1;refine⟨_,Z,p,dx,_,Z,hp,no_R _ _ (by decide +kernel),?_⟩;refine⟨_,Z,_,Z,p,zaj,dx,_,_,Z,hp,T.cl_Rests,T.na_Rests_prime,Z,_,_,Z,Z,(by show 0<n;omega),?_⟩;refine⟨_,Z,_,Z,p,zaj,dx,_,_,Z,hp,T.cl_Rests,T.na_Rests_prime,Z,_,_,Z,Z,(by show 0<n;omega),?_⟩;exact⟨p,dx,n,_,_,Z,hn,.mod _ hn.2.1,.mod _ hn.2.1,k⟩
theorem zpj(F:FunD K "fits" "Order.fits" zdr .none f fd)   : FnOk P w K mg base CX0 1 f fd ["self","many"] zxu:=by
 have scFitsO:FnScope ["self","many"] ["self","many"] (zak zdr):=sM (by decide +kernel);refine F.okN (k:=0) scFitsO (by walk_at "v") (λcdv A outer s H vs Q E hr=>?_);walk_at "x";rename_i g_ hg_ p m;rintro⟨rfl,h⟩;subst hg_;refine⟨_,(zaf (zap (zcw))),?_⟩;exact h
theorem zln(F:FunD K "__init__" "Ring.__init__" zcu .none f fd)(m_FitsO:MCal P w K mg base CX0 1 zag "fits" ["self","many"] [] zxu)(x_NoRing:Exc K mg base "NoRing" zdf)  : FnOk P w K mg base (CXe P w) 2 f fd ["self","many","field","order"] (zu4 zau zag):=by
 have scRgInit:FnScope ["self","many","field","order"] ["self","many","field","order"] (zak zcu):=sM (by decide +kernel);refine F.okX (k:=1) scRgInit (by walk_at "v") (λcdv A outer s H vs Q E hr=>?_);walk_at "x";rename_i g_ hg_ r dx m pf po;rintro⟨rfl,h⟩;subst hg_;refine⟨_,(zac (za1 (PW.pt (zk5 (zan zfy (pv 1) (zae) (nomark _)) (zk5 (zan zg7 (pv 1) (za5 zbl rfl T.b_len PySem.boot_len ((zaa (zdy T.g_LETTERS rfl) zai))) (nomark _)) (zih (zfs (zc6 (pe_m m_FitsO (pv 3) hr zaw .nil ((zaa (pv 1) zai))))))))) (zaf (zf3 x_NoRing rfl rfl za3 ((zaa (zas) zai)))) zat)
  (zac (zgd (pv 0) (pv 1) rfl)
  (zac (zgd (pv 0) (pv 2) rfl)
  (zaf (zgd (pv 0) (pv 3) rfl))))),?_⟩
 obtain⟨hr0,m1,m4,⟨d,hq⟩,k⟩:=h;walk_at "rd";refine cD (λc=>by omega) (λc=>?_);refine⟨_,Z,_,Z,(by decide +kernel),?_⟩;rw[zow];walk_at "rd";refine cD (λc1=>by omega) (λc1=>?_);refine⟨_,Z,po,d,_,Z,hq,Z,_,Z,.ref po,m,Z,_,Z,iteF ?_⟩;refine⟨_,Z,_,Z,r,zau,dx,_,Z,hr0,T.cl_Ring,T.na_Ring_many,(by show 0<1000;decide),?_⟩;refine⟨_,Z,_,Z,r,zau,dx,_,Z,zah,T.cl_Ring,T.na_Ring_field,(by show 1<1000;decide),?_⟩;refine⟨_,Z,_,Z,r,zau,dx,_,Z,zah,T.cl_Ring,T.na_Ring_order,(by show 2<1000;decide),?_⟩;refine k _ zah λb o hb ne=>?_
 rw[zar ne,zar ne,zar ne];exact hb
theorem zs6(F:FunD K "product" "product" zfp .none f fd)   : FnOk P w K mg base CX0 1 f fd ["one","other"] (zrv K):=by
 have scProd:FnScope ["one","other"] ["one","other"] (zak zfp):=sM (by decide +kernel);refine F.okN (k:=0) scProd (by walk_at "v") (λcdv A outer s H vs Q E hr=>?_);walk_at "x";rename_i g_ hg_ a b xs ys;rintro⟨rfl,h⟩;subst hg_;refine⟨_,(zaf (zap (zbh (zfq (K:=K) rfl) rfl T.b_tuple (by kernel_rfl) ((zaa (zi5 (N:=["power","further"]) (Blk.plain (by decide +kernel) (by decide +kernel) rfl (by decide +kernel) zdg) rfl (zti (K:=K) rfl true true rfl T.b_zip ((zaa (pv 0) (zaa (pv 1) zai)))) (λC0 s0 H0 fp0=>zw4 (K:=K) rfl rfl rfl zdg rfl rfl) (λC0 s0 H0 fp0=>ziw) (λC0 s0 H0 fp0=>zao zb2 (pv 0) (pv 1))) zai))))),?_⟩;obtain⟨ha,hb,hl,k⟩:=h;show tComp _ _ _ _ _ _ _ _;refine zp3 (K:=K) (b1:=true) (b2:=true) (a:=a) (b:=b) (xs:=xs) (ys:=ys) yes2 (λx y=>.int (x+y)) (by rfl) ?_ ha hb hl ?_ ?_ λD H' e hL=>?_
 ·exact λR hR=>⟨_,Z,_,Z,hR⟩
 ·exact λ_ _ _ h=>h
 ·exact λi H' R _ h=>⟨_,Z,_,Z,_,_,Z,Z,h⟩
 rw[zwd (λx y=>x+y)]at hL;refine⟨D,_,Z,.inl ⟨SqL.of hL,λr hr=>?_⟩⟩;exact k r _ (e.trans (Same.upd hr)) zah
theorem zlm(F:FunD K "absorb" "absorb" zgt .none f fd)  (hfld:∀n:Int,n<=9973->(n=0\/Pr n)->∃C,FldP P w K mg base C (AtN zad zaj n) n):FnOk P w K mg base CX0 4 f fd ["ring","total","f"] (zut zau zad zaj zag zag zag zag):=by
 have scAbsorb:FnScope ["ring","total","f","nought","term","number"] ["ring","total","f"] (zak zgt):=sM (by decide +kernel);refine F.okN (k:=3) scAbsorb (by walk_at "v") (λcdv A outer s H vs Q E hr=>?_);walk_at "x";rename_i g_ hg_ F fF r d e g cF kvs fvs φ ψ;rintro⟨rfl,h⟩;subst hg_;obtain⟨CF,B⟩:=hfld g.n h.1.nb h.1.np;refine⟨_,(zac (zav (i:=3) scAbsorb.nd rfl (Or.inl rfl) (zcg B.nought (za2 (K:=K) rfl (pv 0) rfl) hr zaw .nil))
  (zaf (znr (zel PassesOwn.never rfl (zgj (pv 2)) (zh3 rfl (zb7 (zbj (i:=4) scAbsorb.nd rfl (Or.inl rfl)) (zb7 (zbj (i:=5) scAbsorb.nd rfl (Or.inl rfl)) zfk))) (zac (za1 (zvd (zva (uOne hr) (pv 4) (pv 1))) (zaf (zav (i:=5) scAbsorb.nd rfl (Or.inl rfl) (pe_m B.plus (za2 (K:=K) rfl (pv 0) rfl) hr zaw .nil ((zaa (zr8 (uOne hr) (pv 1) (pv 4) (λ_ _=>Z)) (zaa (pv 5) zai)))))) zat)
  (zaf (za1 (zan (zfg hr.units) (pv 5) (pv 3) (nomark _)) (zaf (zeh (zsu (uOne hr) (pv 1) ((zaa (pv 4) zai))))) (zaf (zmj (uOne hr) (pv 1) (pv 4) (pv 5) rfl))))))))),?_⟩
 obtain⟨hR,de,hd,he,pF,pG,hl,bF,bG,k⟩:=h;obtain⟨dx,hr0⟩:=hR.at_;have hf:=hR.fd;obtain⟨dF,hF⟩:=B.ins hf;refine⟨_,Z,r,zau,dx,_,_,Z,hr0,T.cl_Ring,T.na_Ring_field,Z,g.pf,dF,_,Z,hF,no_P _ _ (by decide +kernel),F,fF,cF,g.pf,Z,hf,λu H1 e1 hu=>?_⟩;rw[zd7]at hu;refine⟨_,Z,e,fvs,Z,.inl (e1 _ _ he),λo=>?_⟩;have ntd:=pG.tnd;have lt:=zjd fvs;have h1d:=e1 _ _ hd;have hHe:H1 e=some (.dT fvs):=e1 _ _ he;refine zfn (λi σ H'=>i<=fvs.length/\(∃v4 v5,σ = [some (.ref r),some (.ref d),some (.ref e),some u,v4,v5])/\FzD H' e o fvs/\Kp [d,e] H1 H'/\∃kv,H' d=some (.dT kv)/\PF g.n g.m H' kv (λt=>φ t+cutP ψ ((tms fvs).take i) t)/\kv.length<=kvs.length+i) ?_ (λi σ H' h=>h.2.2.1) ?_ ?_
 ·refine⟨Y2 _,⟨none,none,Z⟩,zah,Kp.upd (by simp),kvs,?_,?_,Yi _⟩
  ·rw[zar de];exact h1d
  ·refine((pF.same e1).fix (zfc hHe)).congr λt=>?_
   rw[List.take_zero,zjl];grind
 ·rintro i kx v σ H2 p b hk ⟨hi,⟨v4,v5,rfl⟩,hz,hk2,kv,hd2,pk,lk⟩ hp hb;obtain⟨t,rfl,t0,ht,iv,nv⟩:=pG.ix hk;have hlt:=zfv hk;have hti:=zv6 ntd ht;have tk:=zem ht;have fx:Fix H1 H2:=hk2.fix λa ha ob hob=>by
   rcases Yj.mp ha with rfl | ha
   ·rw[h1d]at hob;cases hob;exact .inl ⟨_,Z⟩
   ·rw[Yq.mp ha,hHe]at hob;cases hob;exact .inl ⟨_,Z⟩
  have fx2:Fix H H2:=(Fix.of e1).tr fx;refine⟨p,_,Z,SqT.of zah,Z,_,_,Z,_,_,Z,Z,?_⟩;have e3:Same H2 (upd H2 p (.tup [.ref b,v])):=Same.upd hp;generalize upd H2 p (HO.tup [V.ref b,v])=H3 at e3;have hb3:=e3 _ _ hb;have hd3:=e3 _ _ hd2;have fx3:Fix H H3:=fx2.tr (.of e3);unfold za4;dsimp only;have cut0:cutP ψ ((tms fvs).take i) t=0:=zo3 hti;refine zc1 (λσ' H'=>Same H3 H'/\∃v',σ'=[some (.ref r),some (.ref d),some (.ref e),some u,some (.ref b),some v']/\Rep g.n H' v' (φ t + ψ t)/\(valV kv (ky t)=none->φ t + ψ t≠0)) ?_ ?_;rotate_left
  ·intro N hN;refine⟨_,Z,_,Z,d,_,Z,DGet.t hd3 hb3,_,Z,?_⟩
   cases hval:valV kv (ky t) with
   | none=>
    have z:=pk.out t hval;rw[cut0]at z;have z2 : φ t=0:=by grind
    have e0 : φ t + ψ t = ψ t:=by rw[z2];grind
    refine iteF (hN _ _ ⟨Same.refl _,v,Z,?_,λ_=>by rw[e0];exact nv⟩);rw[e0];exact iv.fix fx3
   | some v0=>
    obtain⟨a1,a2⟩:=pk.val t v0 hval;rw[cut0]at a1;have e0 : φ t+0 = φ t:=by grind
    rw[e0]at a1;refine iteT ⟨_,Z,r,zau,dx,_,_,Z,fx3.ins hr0,T.cl_Ring,T.na_Ring_field,Z,g.pf,dF,_,Z,fx3.ins hF,no_P _ _ (by decide +kernel),_,Z,_,Z,d,v0,Z,?_,_,Z,F,fF,cF,g.pf,v0,v,φ t,ψ t,Z,zex fx3 hf,a1.same e3,iv.fix fx3,bF t,bG t,λv' H4 e4 hv'=>hN _ _ ⟨e4,v',Z,hv',λz=>(by rw[hval]at z;cases z)⟩⟩;have:=DGet.t (k:=ky t) hd3 hb3;rw[hval]at this;exact this
  rintro σ' H4 ⟨e4,v',rfl,iv',hno⟩;have g4:=e3.trans e4;have hd4:=e4 _ _ hd3;have hb4:=e4 _ _ hb3;have hz4:FzD H4 e o fvs:=g4 _ _ hz;have hk4:Kp [d,e] H1 H4:=hk2.tr (.of g4);have pk4:=pk.same g4;obtain⟨dn,z0,rd,rz,s1,s2,eq⟩:=zjb (K:=K) iv' ((hu.fix fx).same g4);refine⟨_,rfl,_,rfl,dn,z0,rd,rz,s1,s2,_,rfl,?_⟩;rcases eq with⟨z,q⟩ | ⟨z,q⟩
  ·rw[q];refine iteT ?_
   cases hval:valV kv (ky t) with
   | none=>exact absurd z (hno hval)
   | some v0=>
    refine⟨_,Z,.inr (.inr (.inl ⟨Z,.inr ⟨_,hd4⟩⟩)),_,Z,d,b,kv,ky t,v0,Z,Z,hd4,hb4,hval,?_⟩;refine⟨hlt,⟨_,_,Z⟩,(zar (Jc de)).trans hz4,hk4.tr (Kp.upd (by simp)),_,zah,?_,?_⟩
    ·rw[tk,<- zkl,z];exact(pk4.drop t).fix (zfc hd4)
    ·have:=zkr kv (ky t);omega
  ·rw[q];refine iteF ⟨_,Z,_,Z,_,Z,d,_,Z,DPut.t hd4 hb4 (by omega),?_⟩;refine⟨hlt,⟨_,_,Z⟩,(zar (Jc de)).trans hz4,hk4.tr (Kp.upd (by simp)),_,zah,?_,?_⟩
   ·rw[tk,<- zkl];exact(pk4.put t0 iv' z).fix (zfc hd4)
   ·have:=zco kv (ky t) v';omega
 ·rintro σ H2 ⟨_,⟨v4,v5,rfl⟩,hz,hk2,kv,hd2,pk,lk⟩;rw[<- lt,List.take_length,zjn λt ht=>pG.tmem.mpr ht]at pk;refine .inr ⟨e,o,_,hz,λo' w' z=>?_,k _ kv (λb ob hb hbd=>?_) ?_ ?_ lk⟩
  ·have z':H e=some (.frz o' w'):=z;rw[he]at z';cases z'
  ·by_cases be:b=e
   ·subst be;rw[zah,<- he];exact hb
   ·rw[zar be];exact hk2 _ _ (e1 _ _ hb) (by simp at hbd;simp[hbd,be])
  ·rw[zar de];exact hd2
  ·exact pk.fix (zg8 (u:=.dT []) hz (.inr (.inr ⟨_,_,Z⟩)))
theorem zs9(F:FunD K "scaled" "scaled" zgr .none f fd)(c_Prod:Cal P w K mg base CX0 1 "product" ["one","other"] [] (zrv K))(hfld:∀n:Int,n<=9973->(n=0\/Pr n)->∃C,FldP P w K mg base C (AtN zad zaj n) n):FnOk P w K mg base CX0 4 f fd ["ring","number","term","f"] (zqf zau zad zaj zag zag zag zag):=by
 have scScal:FnScope ["ring","number","term","f","found","part","factor"] ["ring","number","term","f"] (zak zgr):=sM (by decide +kernel);refine F.okN (k:=3) scScal (by walk_at "v") (λcdv A outer s H vs Q E hr=>?_);walk_at "x";rename_i g_ hg_ F fF r v t e g cF fvs x l ψ;rintro⟨rfl,h⟩;subst hg_;obtain⟨CF,B⟩:=hfld g.n h.1.nb h.1.np;refine⟨_,(zac (za1 (zan (zfg hr.units) (pv 1) (zcg B.nought (za2 (K:=K) rfl (pv 0) rfl) hr zaw .nil) (nomark _)) (zaf (zap (zes))) zat)
  (zac (zav (i:=4) scScal.nd rfl (Or.inl rfl) (zes))
  (zac (znr (zel PassesOwn.never rfl (zgj (pv 3)) (zh3 rfl (zb7 (zbj (i:=5) scScal.nd rfl (Or.inl rfl)) (zb7 (zbj (i:=6) scScal.nd rfl (Or.inl rfl)) zfk))) (zaf (zmj (uOne hr) (pv 4) (pe_c c_Prod hr zaw .nil ((zaa (pv 2) (zaa (pv 5) zai)))) (pe_m B.times (za2 (K:=K) rfl (pv 0) rfl) hr zaw .nil ((zaa (pv 1) (zaa (pv 6) zai)))) rfl))))
  (zaf (zap (pv 4)))))),?_⟩
 obtain⟨hR,iv,bx,ht,okl,he,pT,bT,hl,k⟩:=h;obtain⟨dx,hr0⟩:=hR.at_;have hf:=hR.fd;obtain⟨dF,hF⟩:=B.ins hf;refine⟨_,Z,_,Z,r,zau,dx,_,_,Z,hr0,T.cl_Ring,T.na_Ring_field,Z,g.pf,dF,_,Z,hF,no_P _ _ (by decide +kernel),F,fF,cF,g.pf,Z,hf,λu H1 e1 hu=>?_⟩;rw[zd7]at hu;obtain⟨dn,z0,rd,rz,s1,s2,eq⟩:=zjb (K:=K) (iv.same e1) hu;refine⟨dn,z0,rd,rz,s1,s2,_,Z,?_⟩;rcases eq with⟨z,q⟩ | ⟨z,q⟩
 ·rw[q];refine iteT ?_;intro d nd0;refine k d _ [] (e1.free nd0) (e1.updR (e1.free nd0)) zah (PF.nil.congr λt=>by rw[z];grind) (Y2 _)
 ·rw[q];refine iteF ?_;intro d nd0;have e2:Same H1 (upd H1 d (.dT [])):=Same.upd nd0;have hd2:(upd H1 d (HO.dT [])) d=some (.dT []):=zah;generalize upd H1 d (HO.dT [])=H2 at e2 hd2;have g2:=e1.trans e2;have he2:=g2 _ _ he;have de:d≠e:=λz=>by subst z;rw[e1 _ _ he]at nd0;cases nd0
  refine⟨_,Z,e,fvs,Z,.inl he2,λo=>?_⟩;have ntd:=pT.tnd;have ltk:=zjd fvs;refine zfn (λi σ H'=>i<=fvs.length/\(∃v5 v6,σ = [some (.ref r),some v,some (.ref t),some (.ref e),some (.ref d),v5,v6])/\FzD H' e o fvs/\Kp [d,e] H2 H'/\∃kv,H' d=some (.dT kv)/\PF g.n g.m H' kv (λt=>x*sh l (cutP ψ ((tms fvs).take i)) t)/\kv.length<=i) ?_ (λi σ H' h=>h.2.2.1) ?_ ?_
  ·refine⟨Y2 _,⟨none,none,Z⟩,zah,Kp.upd (by simp),[],?_,PF.nil.congr λt=>?_,Y2 _⟩
   ·rw[zar de];exact hd2
   ·rw[List.take_zero,zjl];unfold sh;split <;> grind
  ·rintro i kx vx σ H3 p b hk ⟨hi,⟨v5,v6,rfl⟩,hz,hk3,kv,hd3,pk,lk⟩ hp hb;obtain⟨y,rfl,y0,hy,iy,ny⟩:=pT.ix hk;have hlt:=zfv hk;have hti:=zv6 ntd hy;have tk:=zem hy;have fx3:Fix H H3:=(Fix.of g2).tr (hk3.fix λa ha ob hob=>by
    rcases Yj.mp ha with rfl | ha
    ·rw[hd2]at hob;cases hob;exact .inl ⟨_,Z⟩
    ·rw[Yq.mp ha,he2]at hob;cases hob;exact .inl ⟨_,Z⟩)
   refine⟨p,_,Z,SqT.of zah,Z,_,_,Z,_,_,Z,Z,?_⟩;have e4:Same H3 (upd H3 p (.tup [.ref b,vx])):=Same.upd hp;generalize upd H3 p (HO.tup [V.ref b,vx])=H4 at e4;have fx4:Fix H H4:=fx3.tr (.of e4);refine⟨_,Z,r,zau,dx,_,_,Z,fx4.ins hr0,T.cl_Ring,T.na_Ring_field,Z,g.pf,dF,_,Z,fx4.ins hF,no_P _ _ (by decide +kernel),_,Z,_,Z,F,fF,cF,g.pf,v,vx,x,ψ y,Z,zex fx4 hf,iv.fix fx4,iy.fix fx4,bx,bT y,λv' H5 e5 hv'=>?_⟩;have hb4:=e4 _ _ hb;rw[zm1]at hb4;refine⟨_,Z,_,Z,_,Z,t,b,l,y,Z,SqT.of (e5 _ _ (fx4.tup _ _ ht)),SqT.of (e5 _ _ hb4),by rw[okl.len];exact Yr hR.m4 (by decide),λrr H6 e6 hrr=>?_⟩;have g6:=(e4.trans e5).trans e6;have hd6:=g6 _ _ hd3;refine⟨d,_,Z,DPut.t hd6 (by rw[zm1];exact hrr) (by omega),?_⟩;refine⟨hlt,⟨_,_,Z⟩,(zar (Jc de)).trans (g6 _ _ hz),(hk3.tr (.of g6)).tr (Kp.upd (by simp)),_,zah,?_,?_⟩
   ·rw[tk,<- znk (y0.len.trans okl.len.symm)];refine((pk.same g6).put (T0.add okl y0) (hv'.same e6) ?_).fix (zfc hd6);intro z';rcases Classical.em (x=0) with q' | q'
    ·exact z q'
    ·apply ny;grind
   ·have:=zco kv (ky (addT l y)) v';omega
  ·rintro σ H3 ⟨_,⟨v5,v6,rfl⟩,hz,hk3,kv,hd3,pk,lk⟩;rw[<- ltk,List.take_length,zjn λt ht=>pT.tmem.mpr ht]at pk;refine .inr ⟨e,o,_,hz,λo' w' z=>?_,?_⟩
   ·have z':H e=some (.frz o' w'):=z;rw[he]at z';cases z'
   refine⟨_,Z,k d _ kv (e1.free nd0) (λc ob hc=>?_) ((zar de).trans hd3) ?_ lk⟩
   ·by_cases ce:c=e
    ·subst ce;rw[zah,<- he];exact hc
    ·rw[zar ce];exact hk3 _ _ (g2 _ _ hc) (by simp only[List.mem_cons,List.not_mem_nil,or_false,not_or];exact⟨(λz=>by subst z;rw[e1 _ _ hc]at nd0;cases nd0),ce⟩)
   ·exact pk.fix (zg8 (u:=.dT []) hz (.inr (.inr ⟨_,_,Z⟩)))
theorem zt5(F:FunD K "times" "times" ziu .none f fd)(c_Scal:Cal P w K mg base CX0 4 "scaled" ["ring","number","term","f"] [] (zqf zau zad zaj zag zag zag zag))(c_Absorb:Cal P w K mg base CX0 4 "absorb" ["ring","total","f"] [] (zut zau zad zaj zag zag zag zag)):FnOk P w K mg base CX0 6 f fd ["ring","f","g"] (zqw zau zad zaj zag zag zag zag):=by
 have scTimP:FnScope ["ring","f","g","total","term","number"] ["ring","f","g"] (zak ziu):=sM (by decide +kernel);refine F.okN (k:=5) scTimP (by walk_at "v") (λcdv A outer s H vs Q E hr=>?_);walk_at "x";rename_i g_ hg_ F fF r e1 e2 g cF fvs gvs φ ψ k1 k2;rintro⟨rfl,h⟩;subst hg_;refine⟨_,(zac (zav (i:=3) scTimP.nd rfl (Or.inl rfl) (zes))
  (zac (znr (zel PassesOwn.never rfl (zgj (pv 1)) (zh3 rfl (zb7 (zbj (i:=4) scTimP.nd rfl (Or.inl rfl)) (zb7 (zbj (i:=5) scTimP.nd rfl (Or.inl rfl)) zfk))) (zaf (zeh (pe_c c_Absorb hr zaw .nil ((zaa (pv 0) (zaa (pv 3) (zaa (pe_c c_Scal hr zaw .nil ((zaa (pv 0) (zaa (pv 5) (zaa (pv 4) (zaa (pv 2) zai)))))) zai)))))))))
  (zaf (zap (pv 3))))),?_⟩
 obtain⟨hR,e12,h1,h2,p1,p2,l1,b1,b2,kk,k⟩:=h;have l2:fvs.length*gvs.length+fvs.length+gvs.length+1<=1000000:=by rw[Nat.mul_add,Nat.add_mul]at l1;omega
 intro d nd0;have g2:Same H (upd H d (.dT [])):=Same.upd nd0;have hd2:(upd H d (HO.dT [])) d=some (.dT []):=zah;dsimp only[za4];generalize upd H d (HO.dT [])=H2 at g2 hd2 ⊢;have he2:=g2 _ _ h1;have de:d≠e1:=λz=>zaq h1 nd0 z.symm
 have de2:d≠e2:=λz=>zaq h2 nd0 z.symm
 refine⟨_,Z,e1,fvs,Z,.inl he2,λo=>?_⟩;have ltk:=zjd fvs;have sl:1002000<sizeLine:=by rw[sizeLine_eq];decide
 refine zfn (λi σ H'=>i<=fvs.length/\(∃v4 v5,σ = [some (.ref r),some (.ref e1),some (.ref e2),some (.ref d),v4,v5])/\FzD H' e1 o fvs/\Kp [d,e1] H2 H'/\∃kv,H' d=some (.dT kv)/\PF g.n g.m H' kv (mul ((tms fvs).take i) φ ψ)/\kv.length<=i*gvs.length) ?_ (λi σ H' h=>h.2.2.1) ?_ ?_
 ·refine⟨Y2 _,⟨none,none,Z⟩,zah,Kp.upd (by simp),[],(zar de).trans hd2,PF.nil.congr λt=>?_,Y2 _⟩;rw[List.take_zero];rfl
 ·rintro i kx vx σ H3 p b hk ⟨hi,⟨v4,v5,rfl⟩,hz,hk3,kv,hd3,pk,lk⟩ hp hb;obtain⟨y,rfl,y0,hy,iy,ny⟩:=p1.ix hk;have hlt:=zfv hk;have tk:=zem hy;have fx3:Fix H H3:=(Fix.of g2).tr (hk3.fix λa ha ob hob=>by
   rcases Yj.mp ha with rfl | ha
   ·rw[hd2]at hob;cases hob;exact .inl ⟨_,Z⟩
   ·rw[Yq.mp ha,he2]at hob;cases hob;exact .inl ⟨_,Z⟩)
  refine⟨p,_,Z,SqT.of zah,Z,_,_,Z,_,_,Z,Z,?_⟩;have e4:Same H3 (upd H3 p (.tup [.ref b,vx])):=Same.upd hp;generalize upd H3 p (HO.tup [V.ref b,vx])=H4 at e4;have fx4:Fix H H4:=fx3.tr (.of e4);have hb4:=e4 _ _ hb;rw[zm1]at hb4;have he24:H4 e2=some (.dT gvs):=e4 _ _ (hk3 _ _ (g2 _ _ h2) (by simp[Ne.symm de2,Ne.symm e12]));refine⟨_,Z,_,Z,_,Z,_,Z,_,Z,_,Z,F,fF,r,vx,b,e2,g,cF,gvs,φ y,y,ψ,Z,hR.fix fx4,iy.fix fx4,b1.lim (by omega) y,hb4,y0,he24,p2.fix fx4,b2.lim (by omega),by omega,λd5 H5 kv5 nd5 g5 hd5 pd5 lk5=>?_⟩;have g45:=e4.trans g5;have hd3':=g45 _ _ hd3;have ne5:d≠d5:=λz=>by subst z;rw[e4 _ _ hd3]at nd5;cases nd5
  have lkk:i*gvs.length<=fvs.length*gvs.length:=Y4 _ hi;refine⟨F,fF,r,d,d5,g,cF,kv,kv5,_,_,Z,(hR.fix fx4).same g5,ne5,hd3',hd5,pk.same g45,pd5,by omega,(b1.mul b2 (p1.tnd.sublist (List.take_sublist ..))).lim kk,λt=>?_,λH6 kv6 kp6 hd6 pd6 lk6=>?_⟩
  ·exact b1.lim1 b2 kk y t
  refine⟨hlt,⟨_,_,Z⟩,kp6 _ _ (g45 _ _ hz) (by simp[Ne.symm de]),(hk3.tr (.of g45)).tr (λb o hb nb=>kp6 b o hb λz=>nb (by simp at z;simp[z])),kv6,hd6,?_,?_⟩
  ·rw[tk,zpc];exact pd6
  ·rw[Nat.succ_mul];omega
 ·rintro σ H3 ⟨_,⟨v4,v5,rfl⟩,hz,hk3,kv,hd3,pk,lk⟩;rw[<- ltk,List.take_length]at pk;refine .inr ⟨e1,o,_,hz,λo' w' z=>?_,_,rfl,k d _ kv nd0 (λb ob hb=>?_) ((zar de).trans hd3) (pk.fix (zg8 (u:=.dT []) hz (.inr (.inr ⟨_,_,rfl⟩)))) (b1.mul b2 p1.tnd) lk⟩
  ·have z':H e1=some (.frz o' w'):=z;rw[h1]at z';cases z'
  ·by_cases be:b=e1
   ·subst be;rw[zah,<- h1];exact hb
   ·rw[zar be];exact hk3 _ _ (g2 _ _ hb) (by simp[be,zaq hb nd0])
theorem zxy(F:FunD K "unit" "Ring.unit" zeg .none f fd)   : FnOk P w K mg base CX0 1 f fd ["self"] (spUn zau zad zaj zag zag zag zag):=by
 have scUn:FnScope ["self"] ["self"] (zak zeg):=sM (by decide +kernel);refine F.okN (k:=0) scUn (by walk_at "v") (λcdv A outer s H vs Q E hr=>?_);walk_at "x";rename_i g_ hg_ r g;rintro⟨rfl,h⟩;subst hg_;refine⟨_,(zaf (zap (zao ztx (zbz ((zaa (zae) zai))) (za2 (K:=K) rfl (pv 0) rfl)))),?_⟩;obtain⟨hR,k⟩:=h;obtain⟨dx,hr0⟩:=hR.at_;have m1:=hR.m1;have m2:=hR.m4;refine⟨(by show 1<=sizeLine;decide),λt0 ht0=>?_⟩;have e1:Same H (upd H t0 (HO.tup [V.int 0])):=Same.upd ht0;refine⟨_,Z,r,zau,dx,_,_,Z,e1 _ _ hr0,T.cl_Ring,T.na_Ring_many,Z,?_⟩;refine⟨t0,[.int 0],g.m,Z,Z,SqT.of zah,by simp,by omega,by omega,by simp;omega,λe=>?_,λh2 p hp=>?_⟩
 ·have e':g.m=1:=by omega
  exact k t0 _ e1 (by rw[e'];exact zah)
 ·rw[ztb];exact k p _ (e1.updR (e1.free hp)) (by rw[Y1];exact zah)
theorem zwm(F:FunD K "sign" "Reader.sign" zdd .none f fd)   : FnOk P w K mg base CX0 1 f fd ["self"] (zjf zab):=by
 have scSig:FnScope ["self"] ["self"] (zak zdd):=sM (by decide +kernel);refine F.okN (k:=0) scSig (by walk_at "v") (λcdv A outer s H vs Q E hr=>?_);walk_at "x";rename_i g_ hg_ p dx u t i e;rintro⟨rfl,h⟩;subst hg_;refine⟨_,(zac (za1 (zan zfy (za2 (K:=K) rfl (pv 0) rfl) (za5 zbl rfl T.b_len PySem.boot_len ((zaa (za2 (K:=K) rfl (pv 0) rfl) zai))) (nomark _)) (zaf (zap (zba zge (za2 (K:=K) rfl (pv 0) rfl) (za2 (K:=K) rfl (pv 0) rfl) (λ_ _=>Z)))) zat)
  (zaf (zap (zdy T.g_END rfl)))),?_⟩
 obtain⟨hp,k⟩:=h;have tl:=hp.tl;have lt:t.cps.toList.length=t.length:=Array.length_toList;refine⟨_,Z,p,zab,dx,_,_,Z,hp.at_,T.cl_Reader,T.na_Reader_at,Z,_,Z,p,zab,dx,_,_,Z,hp.at_,T.cl_Reader,T.na_Reader_text,Z,t,Z,zl _ (by omega),_,_,Z,Z,_,Z,cD (λc=>?_) (λc=>?_)⟩
 ·have hc:t.cps.toList[i]? = some (sg t i):=by
   unfold sg;rw[List.getD_eq_getElem?_getD,Yc (by omega)];rfl
  exact⟨_,Z,p,zab,dx,_,_,Z,hp.at_,T.cl_Reader,T.na_Reader_text,Z,_,Z,p,zab,dx,_,_,Z,hp.at_,T.cl_Reader,T.na_Reader_at,Z,t,_,_,Z,Z,zl _ (by omega),zdw hc,k⟩
 ·have e:sg t i=32:=by unfold sg;rw[List.getD_eq_getElem?_getD,Yy (by omega)];rfl
  rw[e]at k;exact k
theorem zxv(F:FunD K "passes" "Reader.passes" zcq .none f fd)(m_Sig:MCal P w K mg base CX0 1 zab "sign" ["self"] [] (zjf zab)):FnOk P w K mg base CX0 2 f fd ["self","sign"] (zi4 zab):=by
 have scPas:FnScope ["self","sign"] ["self","sign"] (zak zcq):=sM (by decide +kernel);refine F.okN (k:=1) scPas (by walk_at "v") (λcdv A outer s H vs Q E hr=>?_);walk_at "x";rename_i g_ hg_ p dx u t i e c;rintro⟨rfl,h⟩;subst hg_;refine⟨_,(zac (za1 (zan zla (zcg m_Sig (pv 0) hr zaw .nil) (pv 1) (nomark _)) (zaf (zap (zcw))) zat)
  (zac (zc8 (pv 0) (zae) zh0)
  (zaf (zap (zcw))))),?_⟩
 obtain⟨hp,k1,k2⟩:=h;refine⟨_,Z,p,dx,_,Z,hp.at_,zb1 _ (by decide +kernel),p,dx,u,t,i,e,Z,hp,_,Z,Z,_,Z,?_⟩;by_cases ee:sg t i=c
 ·rw[Yo (show V.str ⟨#[sg t i]⟩=V.str ⟨#[c]⟩ by rw[ee])];refine iteF ?_;refine⟨_,Z,p,zab,dx,_,_,Z,hp.at_,T.cl_Reader,T.na_Reader_at,Z,_,_,Z,Z,dx,_,hp.at_,(by show 4<1000;decide),?_⟩;exact k2 ee _ (Kp.upd (by simp)) hp.up
 ·rw[Yw (λz=>ee (zmq z))];exact iteT (k1 ee)
theorem zx6(F:FunD K "__init__" "Reader.__init__" zb4 .none f fd)   : FnOk P w K mg base CX0 1 f fd ["self","unknowns","text"] (spRI zab):=by
 have scRI:FnScope ["self","unknowns","text"] ["self","unknowns","text"] (zak zb4):=sM (by decide +kernel);refine F.okN (k:=0) scRI (by walk_at "v") (λcdv A outer s H vs Q E hr=>?_);walk_at "x";rename_i g_ hg_ p dx u x;rintro⟨rfl,h⟩;subst hg_;refine⟨_,(zpl (pv 0) (pv 1) (zp2 (pv 0) (zsl 2) (zac (zgd (pv 0) (zae) rfl) (zaf (zgd (pv 0) (zae) rfl))))),?_⟩;obtain⟨hp,xl,ul,k⟩:=h;refine⟨_,Z,_,Z,p,zab,dx,_,Z,hp,T.cl_Reader,T.na_Reader_unknowns,(by show 0<1000;decide),?_⟩;refine⟨x,Z,by omega,_,Z,p,zab,dx,_,Z,zah,T.cl_Reader,T.na_Reader_text,(by show 1<1000;decide),?_⟩;refine⟨_,Z,p,zab,dx,_,Z,zah,T.cl_Reader,T.na_Reader_at,(by show 2<1000;decide),?_⟩;refine⟨_,Z,p,zab,dx,_,Z,zah,T.cl_Reader,T.na_Reader_depth,(by show 3<1000;decide),?_⟩;refine k _ (((Kp.upd (by simp)).tr (Kp.upd (by simp))).tr ((Kp.upd (by simp)).tr (Kp.upd (by simp)))) ⟨zah,Yr (zg3 x) xl,ul⟩
theorem zvi(F:FunD K "figures" "Reader.figures" zcd .none f fd)(m_Sig:MCal P w K mg base CX0 1 zab "sign" ["self"] [] (zjf zab))(x_NoText:Exc K mg base "NoText" zal)  : FnOk P w K mg base (CXe P w) 2 f fd ["self","most"] (zsm zab zal):=by
 have scFig:FnScope ["self","most","start"] ["self","most"] (zak zcd):=sM (by decide +kernel);refine F.okX (k:=1) scFig (by walk_at "v") (λcdv A outer s H vs Q E hr=>?_);walk_at "x";rename_i g_ hg_ p dx u t i e most ds rest;rintro⟨rfl,h⟩;subst hg_;refine⟨_,(zac (zav (i:=2) scFig.nd rfl (Or.inl rfl) (za2 (K:=K) rfl (pv 0) rfl))
  (zac (PS.nox (zck PassesOwn.never (zan zcs (zcg m_Sig (pv 0) hr zaw .nil) (zdy T.g_FIGURES rfl) rfl) (zaf (zc8 (pv 0) (zae) zh0))))
  (zac (za1 (PW.pt (zk5 (zan zbi (za2 (K:=K) rfl (pv 0) rfl) (pv 2) (nomark _)) (zih (zan zg7 (zao zkf (za2 (K:=K) rfl (pv 0) rfl) (pv 2)) (pv 1) (nomark _))))) (zaf (zf3 x_NoText rfl rfl za3 ((zaa (zas) zai)))) zat)
  (zaf (zap (zbh zh1 rfl T.b_int (by kernel_rfl) ((zaa (za9 zb9 (za2 (K:=K) rfl (pv 0) rfl) (zbd (pv 2)) (zbd (za2 (K:=K) rfl (pv 0) rfl))) zai)))))))),?_⟩
 obtain⟨hp,ed,hd,hn,m0,m1,kx,k⟩:=h;have tl:=hp.tl;have lt:t.cps.toList.length=t.length:=Array.length_toList;have ll:=Js List.length ed;rw[List.length_drop,Y6]at ll;have sgd:∀j,j<ds.length->isD (sg t (i+j))=true:=λj hj=>by
  refine hd _ ?_;have:t.cps.toList[i+j]? = some ds[j]:=by
   rw[<- List.getElem?_drop,ed,List.getElem?_append_left hj,Yc hj]
  unfold sg;rw[List.getD_eq_getElem?_getD,this];exact List.getElem_mem hj
 have sgn:isD (sg t (i+ds.length))=false:=by
  unfold sg;rw[List.getD_eq_getElem?_getD,<- List.getElem?_drop,ed,List.getElem?_append_right (Yi _),Nat.sub_self]
  cases rest with
  | nil=>rfl
  | cons c r=>exact hn c rfl
 refine sab λrr hrr=>?_
 refine⟨_,Z,p,zab,dx,_,_,Z,hp.at_,T.cl_Reader,T.na_Reader_at,Z,?_⟩;dsimp only[za4];subst hrr;refine sab λrr hrr=>?_
 refine⟨λm σ H'=>∃j,m=ds.length-j/\j<=ds.length/\σ = [some (.ref p),some (.int most),some (.int i)]/\Kp [p] H H'/\RdA zab H' p dx u t (i+j) e,⟨_,0,Z,Y2 _,Z,Kp.refl _ _,hp⟩,?_⟩;rintro m σ H' ⟨j,rfl,hj,rfl,kp,ha⟩;refine⟨_,Z,p,dx,_,Z,ha.at_,zb1 _ (by decide +kernel),p,dx,u,t,i+j,e,Z,ha,_,_,Z,Z,_,Z,?_⟩;rw[zue];by_cases c:j<ds.length
 ·rw[sgd j c];refine iteT ⟨λσ' H''=>σ'=[some (.ref p),some (.int most),some (.int i)]/\Kp [p] H H''/\RdA zab H'' p dx u t (i+j+1) e,?_,?_⟩
  ·rintro σ' H'' ⟨rfl,kp',ha'⟩;exact⟨ds.length-(j+1),by omega,j+1,rfl,c,rfl,kp',ha'⟩
  ·refine⟨_,Z,p,zab,dx,_,_,Z,ha.at_,T.cl_Reader,T.na_Reader_at,Z,_,_,Z,Z,dx,_,ha.at_,(by show 4<1000;decide),?_⟩;exact⟨Z,kp.tr (Kp.upd (by simp)),ha.up⟩
 have ej:j=ds.length:=by omega
 subst ej;rw[sgn];refine iteF ?_;show rr _ _ _;subst hrr;refine⟨_,Z,p,zab,dx,_,_,Z,ha.at_,T.cl_Reader,T.na_Reader_at,Z,_,Z,Z,_,Z,cEq (λc1=>⟨(by show 1<=sizeLine;decide),kx (.inl (Ja.mp (by omega))) H' kp⟩) (λc1=>?_)⟩;have ne:ds≠[]:=λz=>c1 (by rw[z];rfl)
 refine⟨_,Z,p,zab,dx,_,_,Z,ha.at_,T.cl_Reader,T.na_Reader_at,Z,_,Z,_,_,Z,Z,_,Z,_,_,Z,Z,_,Z,?_⟩;by_cases lm0:most<(((i+ds.length:Nat):Int)-(i:Int))
 ·rw[Yo lm0];exact iteT ⟨(by show 1<=sizeLine;decide),kx (.inr (by omega)) H' kp⟩
 rw[Yw lm0];have lm:(ds.length:Int)<=most:=by omega
 refine iteF ?_;have ec:cutS t (some (i:Int)) (some ((i+ds.length:Nat):Int))=⟨ds.toArray⟩:=by
  have q:=StrLaws.sliceText_plain (x:=t) (i:=i) (j:=((i+ds.length:Nat):Int)) ⟨by omega,by omega,by omega⟩;refine Eq.trans (show cutS t _ _=StrLaws.sliceText t _ _ from rfl) (q.trans ?_);rw[Y1,ed,show (((i+ds.length:Nat):Int)-(i:Int)).toNat=ds.length by omega,List.take_left]
 refine⟨_,Z,p,zab,dx,_,_,Z,ha.at_,T.cl_Reader,T.na_Reader_text,Z,_,Z,_,Z,_,Z,p,zab,dx,_,_,Z,ha.at_,T.cl_Reader,T.na_Reader_at,Z,_,Z,t,Z,by rw[ec];exact zl _ (by show ds.toArray.size<=_;simp;omega),?_⟩;rw[ec];refine⟨_,_,Z,PySem.intText_digits (λc hc=>?_) (by simpa using ne) (by show ds.toArray.size<=_;simp;omega),by show ds.toArray.size<=_;simp;omega,?_⟩
 ·have:=hd c (by simpa using hc);unfold isD at this;simp only[Bool.and_eq_true,decide_eq_true_eq]at this;exact this
 ·have e2:(⟨ds.toArray⟩:Str).cps.toList=ds:=by simp
  rw[e2];exact k ne lm H' kp ha
theorem zyi(F:FunD K "number" "Reader.number" zcm .none f fd)(m_Fig:MCal P w K mg base (CXe P w) 2 zab "figures" ["self","most"] [] (zsm zab zal))(m_Pas:MCal P w K mg base CX0 2 zab "passes" ["self","sign"] [] (zi4 zab)):FnOk P w K mg base (CXe P w) 3 f fd ["self"] (spLf zab zal (λ_ c=>isD c=true)):=by
 have scNu:FnScope ["self","top","bottom"] ["self"] (zak zcm):=sM (by decide +kernel);refine F.okX (k:=2) scNu (by walk_at "v") (λcdv A outer s H vs Q E hr=>?_);walk_at "x";rename_i g_ hg_ p dx t i e m;rintro⟨rfl,h⟩;subst hg_;refine⟨_,(zac (zav (i:=1) scNu.nd rfl (Or.inl rfl) (pe_m m_Fig (pv 0) hr zax .nil ((zaa (zd1 T.g_NUMBER_FIGURES rfl) zai))))
  (zac (zav (i:=2) scNu.nd rfl (Or.inl rfl) (zae))
  (zac (za1 (zc6 (pe_m m_Pas (pv 0) hr zaw .nil ((zaa (zas) zai)))) (zaf (zav (i:=2) scNu.nd rfl (Or.inl rfl) (pe_m m_Fig (pv 0) hr zax .nil ((zaa (zd1 T.g_NUMBER_FIGURES rfl) zai))))) zat)
  (zaf (zap (zbz ((zaa (zas) (zaa (pv 1) (zaa (pv 2) zai)))))))))),?_⟩
 obtain⟨hp,m1,m4,hs,kx,k⟩:=h;obtain⟨ds,r,ed,dd,hr0⟩:=zin (t.cps.toList.drop i);have ne:ds≠[]:=λz=>by
  subst z
  cases q:r.head? with
  | none=>
   have:r=[]:=by cases r with | nil=>rfl | cons a b=>cases q
   subst this;rw[sg_n ed]at hs;cases hs
  | some c=>
   have:=hr0 c q;rw[zk0 ed q,this]at hs;cases hs
 have an:=zsc (nm:=nmL m) (t:=false) (ok:=ok8) (r:=r) (e:=e) dd ne;have d1:=zeb ed;have le1:=zfr ed ne;have dl:=List.length_pos_iff.mpr ne;have lt:=zqq ds dd;refine sab λrr hrr=>?_
 refine⟨_,Z,p,dx,_,Z,hp.at_,zb1 _ (by decide +kernel),p,dx,_,t,i,e,30,ds,r,Z,hp,ed,dd,hr0,by decide,by decide,λz H1 kp1=>kx ?_ H1 kp1,λ_ l30 H1 kp1 hp1=>?_⟩
 ·rcases z with z | z
  ·exact absurd z ne
  ·show acc _ _ _ _ _ _=false;rw[ed,an,Yw (by omega)];rfl
 have l30':ds.length<=30:=by omega
 rw[Yo l30',Bool.true_and]at an;dsimp only[za4];subst hrr;have hsl:V.str "/" = V.str ⟨#[47]⟩:=s_of 47 _ (by decide +kernel);refine sab λrr hrr=>?_
 show rr _ _ _;subst hrr;refine zc1 (λσ' H'=>∃(b j:Nat) (s:Sm),σ'=[some (.ref p),some (.int (dgv ds:Nat)),some (.int (b:Int))]/\Kp [p] H H'/\RdA zab H' p dx (nmS m) t j e/\Got m zT e t i j s/\s.lv=1/\dgv ds<=10^s.sg/\b<=10^s.sg/\((b=1/\s.bt=[])\/s.bt=[b])) ?_ λN hN=>?_
 rotate_left
 ·refine⟨_,Z,p,dx,_,Z,hp1.at_,zb1 _ (by decide +kernel),?_⟩;rw[hsl];refine⟨p,dx,_,t,i+ds.length,e,47,Z,hp1,λc=>?_,λc H2 kp2 hp2=>?_⟩
  ·refine⟨_,Z,iteF ?_⟩;have h47:hd? r λc=>isD c=false/\c≠47:=λx hx=>⟨hr0 x hx,λz=>c (by rw[zk0 d1 hx,z])⟩
   refine hN _ _ ⟨1,i+ds.length,⟨[],ds.length,1⟩,Z,kp1,hp1,⟨by omega,le1,?_,by show ds.length=_;omega,?_,?_⟩,Z,Nat.le_of_lt lt,Nat.one_le_pow _ _ (by decide),.inl ⟨Z,Z⟩⟩
   ·rw[d1,ed];show acc _ _ _ _ _ _=_;rw[an,zyd h47]
   ·rw[d1,ed,ze7 ds r (d_47 dd)];rfl
   ·rw[d1,ed,zwx dd ne]
  ·refine⟨_,Z,iteT ?_⟩;obtain⟨r2,e2⟩:=sg_h c (by decide);have er:r=47::r2:=by rw[<- d1,e2]
   subst er;obtain⟨d2,r3,e3,dd2,hr3⟩:=zin r2;subst e3;have d3:t.cps.toList.drop (i+ds.length+1)=d2++r3:=zeb (a:=[47]) e2;rw[ztn]at an;refine⟨_,Z,p,dx,_,Z,hp2.at_,zb1 _ (by decide +kernel),p,dx,_,t,i+ds.length+1,e,30,d2,r3,Z,hp2,d3,dd2,hr3,by decide,by decide,λz H3 kp3=>kx ?_ H3 ((kp1.tr kp2).tr kp3),λne2 l2 H3 kp3 hp3=>?_⟩
   ·show acc _ _ _ _ _ _=false;rw[ed,an];rcases z with z | z
    ·subst z;exact(zkm hr3).1
    ·by_cases z2:d2=[]
     ·subst z2;exact(zkm hr3).1
     ·rw[zoa dd2 z2,Yw (by omega)];rfl
   ·rw[zoa dd2 ne2,Yo (show d2.length<=30 by omega),Bool.true_and]at an;have d4:=zeb d3;have le3:=zfr d3 ne2;have lt2:=zqq d2 dd2;have wr:Wrd (47::d2):=λx hx=>by
     rcases Yj.mp hx with q | q
     ·rw[q];exact⟨by decide,Z⟩
     ·exact znz dd2 x q
    refine hN _ _ ⟨dgv d2,i+ds.length+1+d2.length,⟨[dgv d2],ds.length+1+d2.length,1⟩,Z,(kp1.tr kp2).tr kp3,hp3,⟨by omega,le3,?_,by show ds.length+1+d2.length=_;omega,?_,?_⟩,Z,Nat.le_of_lt (Yf lt (Yv (by decide) (by show ds.length<=ds.length+1+d2.length;omega))),Nat.le_of_lt (Yf lt2 (Yv (by decide) (by show d2.length<=ds.length+1+d2.length;omega))),.inr rfl⟩
    ·rw[d4,ed];show acc _ _ _ _ _ _=_;rw[an,zyq hr3]
    ·rw[d4,ed,ze7 ds _ (d_47 dd),zqp dd2 hr3];rfl
    ·rw[d4,ed,zwx dd ne];show 1+stt false ((47::d2)++r3)=1+stt false r3;rw[zpa r3 wr]
 rintro σ' H' ⟨b,j,s,rfl,kp',hp',gt,lv,la,lb,bb⟩;refine⟨_,rfl,_,rfl,(by show 3<=sizeLine;decide),λq nq=>?_⟩;have e4:Same H' (upd H' q (.tup [.str "number",.int (dgv ds:Nat),.int (b:Int)])):=Same.upd nq;have nq0:H q=none:=by
  cases z:H q with
  | none=>rfl
  | some o=>
   by_cases zp:q=p
   ·rw[zp,hp'.at_]at nq;cases nq
   ·rw[kp' q o z (by simp[zp])]at nq;cases nq
 exact k _ _ s j (kp'.tr (.of e4)) (hp'.same e4) gt ⟨q,Z,nq0,lv,.inl ⟨_,b,zah,la,lb,bb⟩⟩
theorem zx0(F:FunD K "power" "Reader.power" zc3 .none f fd)(m_Sig:MCal P w K mg base CX0 1 zab "sign" ["self"] [] (zjf zab))(m_Pas:MCal P w K mg base CX0 2 zab "passes" ["self","sign"] [] (zi4 zab))(m_Fig:MCal P w K mg base (CXe P w) 2 zab "figures" ["self","most"] [] (zsm zab zal)):FnOk P w K mg base (CXe P w) 3 f fd ["self"] (spLf zab zal (λm c=>c∈nmL m)):=by
 have scPo:FnScope ["self","place","power"] ["self"] (zak zc3):=sM (by decide +kernel);refine F.okX (k:=2) scPo (by walk_at "v") (λcdv A outer s H vs Q E hr=>?_);walk_at "x";rename_i g_ hg_ p dx t i e m;rintro⟨rfl,h⟩;subst hg_;refine⟨_,(zac (zav (i:=1) scPo.nd rfl (Or.inl rfl) (zf4 PySem.F.plainAttrs_str PySem.F.slot_str_find PySem.F.type_str_find zl1 (za2 (K:=K) rfl (pv 0) rfl) ((zaa (zcg m_Sig (pv 0) hr zaw .nil) zai))))
  (zac (zc8 (pv 0) (zae) zh0)
  (zac (zav (i:=2) scPo.nd rfl (Or.inl rfl) (zae))
  (zac (za1 (zc6 (pe_m m_Pas (pv 0) hr zaw .nil ((zaa (zas) zai)))) (zaf (zav (i:=2) scPo.nd rfl (Or.inl rfl) (pe_m m_Fig (pv 0) hr zax .nil ((zaa (zd1 T.g_POWER_FIGURES rfl) zai))))) zat)
  (zaf (zap (zbz ((zaa (zas) (zaa (pv 1) (zaa (pv 2) zai))))))))))),?_⟩
 obtain⟨hp,m1,m4,hs,kx,k⟩:=h;have no:=zpp m (by omega);have nz:=no _ hs;obtain⟨r,ed⟩:=sg_h rfl nz.2.2.2.2.2.2.2.2.2;obtain⟨k0,hk0,ek⟩:=zy2 m (by omega) _ hs;have hf:=zuf m (by omega) k0 hk0;rw[<- ek]at hf;generalize sg t i=c at *;have cw:c≠32/\isB c=false:=by
  refine⟨nz.2.2.2.2.2.2.2.2.2,?_⟩;unfold isB;simp[nz.2.1,nz.2.2.1,nz.2.2.2.1,nz.2.2.2.2.1,nz.2.2.2.2.2.1]
 have c47:c≠47:=nz.2.2.2.2.2.2.1;have al:=zst (t:=false) (ok:=ok8) no (e:=e) (r:=r) hs;refine sab λrr hrr=>?_
 refine⟨_,Z,p,zab,dx,_,_,Z,hp.at_,T.cl_Reader,T.na_Reader_unknowns,Z,Z,_,Z,p,dx,_,Z,hp.at_,zb1 _ (by decide +kernel),p,dx,_,t,i,e,Z,hp,_,_,Z,Z,?_⟩;rw[sg_c ed,hf];dsimp only[za4];subst hrr;refine sab λrr hrr=>?_
 refine⟨_,Z,p,zab,dx,_,_,Z,hp.at_,T.cl_Reader,T.na_Reader_at,Z,_,_,Z,Z,dx,_,hp.at_,(by show 4<1000;decide),?_⟩;have hp1:=hp.up;have kp1:Kp [p] H (upd H p (.ins zab dx (putF "at" (.int ((i:Int)+1)) (RdO (nmS m) t i e)))):=Kp.upd (by simp);show rr _ _ _;generalize upd H p (.ins zab dx (putF "at" (.int ((i:Int)+1)) (RdO (nmS m) t i e)))=H1 at hp1 kp1 ⊢;subst hrr;have d1:t.cps.toList.drop (i+1)=r:=zeb (a:=[c]) ed;have le1:i+1<=t.cps.toList.length:=zfr (a:=[c]) ed (by simp);have hsl:V.str "^" = V.str ⟨#[94]⟩:=s_of 94 _ (by decide +kernel);refine sab λrr hrr=>?_
 show rr _ _ _;subst hrr;refine zc1 (λσ' H'=>∃(b j:Nat) (s:Sm),σ'=[some (.ref p),some (.int (k0:Int)),some (.int (b:Int))]/\Kp [p] H H'/\RdA zab H' p dx (nmS m) t j e/\Got m zT e t i j s/\s.lv=1/\s.bt=[]) ?_ λN hN=>?_
 rotate_left
 ·refine⟨_,Z,p,dx,_,Z,hp1.at_,zb1 _ (by decide +kernel),?_⟩;rw[hsl];refine⟨p,dx,_,t,i+1,e,94,Z,hp1,λc9=>?_,λc9 H2 kp2 hp2=>?_⟩
  ·refine⟨_,Z,iteF ?_⟩;have h94:hd? r λc=>c≠94:=λx hx z=>c9 (by rw[zk0 d1 hx,z])
   refine hN _ _ ⟨1,i+1,⟨[],1,1⟩,Z,kp1,hp1,⟨by omega,le1,?_,by show 1=_;omega,?_,?_⟩,Z,Z⟩
   ·rw[d1,ed];show acc _ _ _ _ _ _=_;rw[al,zxw h94]
   ·rw[d1,ed];exact ze7 [c] r (by simp[Ne.symm c47])
   ·rw[d1,ed,zsn cw]
  ·refine⟨_,Z,iteT ?_⟩;obtain⟨r2,e2⟩:=sg_h c9 (by decide);have er:r=94::r2:=by rw[<- d1,e2]
   subst er;obtain⟨d2,r3,e3,dd2,hr3⟩:=zin r2;subst e3;have d3:t.cps.toList.drop (i+1+1)=d2++r3:=zeb (a:=[94]) e2;rw[zrx]at al;refine⟨_,Z,p,dx,_,Z,hp2.at_,zb1 _ (by decide +kernel),p,dx,_,t,i+1+1,e,2,d2,r3,Z,hp2,d3,dd2,hr3,by decide,by decide,λz H3 kp3=>kx ?_ H3 ((kp1.tr kp2).tr kp3),λne2 l2 H3 kp3 hp3=>?_⟩
   ·show acc _ _ _ _ _ _=false;rw[ed,al];rcases z with z | z
    ·subst z;exact(zkm hr3).2
    ·by_cases z2:d2=[]
     ·subst z2;exact(zkm hr3).2
     ·rw[znc dd2 z2,Yw (by omega)];rfl
   ·rw[znc dd2 ne2,Yo (show d2.length<=2 by omega),Bool.true_and]at al;have d4:=zeb d3;have le3:=zfr d3 ne2;have wr:Wrd (94::d2):=λx hx=>by
     rcases Yj.mp hx with q | q
     ·rw[q];exact⟨by decide,Z⟩
     ·exact znz dd2 x q
    refine hN _ _ ⟨dgv d2,i+1+1+d2.length,⟨[],1+1+d2.length,1⟩,Z,(kp1.tr kp2).tr kp3,hp3,⟨by omega,le3,?_,by show 1+1+d2.length=_;omega,?_,?_⟩,Z,Z⟩
    ·rw[d4,ed];show acc _ _ _ _ _ _=_;rw[al,zyr hr3]
    ·rw[d4,ed];exact ze7 (c::94::d2) r3 (by simp[Ne.symm c47,d_47 dd2])
    ·rw[d4,ed,zsn cw];show 1+stt false ((94::d2)++r3)=1+stt false r3;rw[zpa r3 wr]
 rintro σ' H' ⟨b,j,s,rfl,kp',hp',gt,lv,bb⟩;refine⟨_,rfl,_,rfl,(by show 3<=sizeLine;decide),λq nq=>?_⟩;have e4:Same H' (upd H' q (.tup [.str "power",.int (k0:Int),.int (b:Int)])):=Same.upd nq;have nq0:H q=none:=by
  cases z:H q with
  | none=>rfl
  | some o=>
   by_cases zp:q=p
   ·rw[zp,hp'.at_]at nq;cases nq
   ·rw[kp' q o z (by simp[zp])]at nq;cases nq
 exact k _ _ s j (kp'.tr (.of e4)) (hp'.same e4) gt ⟨q,Z,nq0,lv,.inr ⟨k0,b,zah,hk0,bb⟩⟩
theorem zw7(F:FunD K "factor" "Reader.factor" zcp .none f fd)(m_Sig:MCal P w K mg base CX0 1 zab "sign" ["self"] [] (zjf zab))(m_Nu:MCal P w K mg base (CXe P w) 3 zab "number" ["self"] [] (spLf zab zal (λ_ c=>isD c=true)))(m_Po:MCal P w K mg base (CXe P w) 3 zab "power" ["self"] [] (spLf zab zal (λm c=>c∈nmL m)))(m_Pas:MCal P w K mg base CX0 2 zab "passes" ["self","sign"] [] (zi4 zab))(x_NoText:Exc K mg base "NoText" zal){q e:Nat}(mB:MCal P w K mg base (CXe P w) q zab "bracket" ["self"] [] (zpv zab zal e)):FnOk P w K mg base (CXe P w) (q+4) f fd ["self"] (spFc zab zal e):=by
 have scFac:FnScope ["self"] ["self"] (zak zcp):=sM (by decide +kernel);refine F.okX (k:=q+3) scFac (by walk_at "v") (λcdv A outer s H vs Q E hr=>?_);walk_at "x";rename_i g_ hg_ p dx t i m;rintro⟨rfl,h⟩;subst hg_;have hrc:=hr.mono (show 3<=q+3 by omega);have hrq:=hr.mono (show q<=q+3 by omega);refine⟨_,(zac (za1 (zan zcs (zcg m_Sig (pv 0) hrc zaw .nil) (zdy T.g_FIGURES rfl) rfl) (zaf (zap (zcg m_Nu (pv 0) hrc zax .nil))) zat)
  (zac (za1 (zan zcs (zcg m_Sig (pv 0) hrc zaw .nil) (za2 (K:=K) rfl (pv 0) rfl) rfl) (zaf (zap (zcg m_Po (pv 0) hrc zax .nil))) zat)
  (zac (za1 (zc6 (pe_m m_Pas (pv 0) hrc zaw .nil ((zaa (zas) zai)))) (zaf (zap (zcg mB (pv 0) hrq zax .nil (Yi _)))) zat)
  (zaf (zf3 x_NoText rfl rfl za3 ((zaa (zas) zai))))))),?_⟩
 obtain⟨hp,m1,m4,n32,kx,k⟩:=h;refine⟨_,Z,p,dx,_,Z,hp.at_,zb1 _ (by decide +kernel),p,dx,_,t,i,e,Z,hp,_,_,Z,Z,_,Z,?_⟩;rw[zue]
 cases sd:isD (sg t i) with
 | true=>exact iteT ⟨_,rfl,p,dx,_,rfl,hp.at_,zb1 _ (by decide +kernel),p,dx,t,i,e,m,rfl,hp,m1,m4,sd,kx,λH' v s j kp ha gt lf=>k H' v s j kp ha gt lf.fv⟩
 | false=>
  refine iteF ⟨_,Z,p,dx,_,Z,hp.at_,zb1 _ (by decide +kernel),p,dx,_,t,i,e,Z,hp,_,Z,p,zab,dx,_,_,Z,hp.at_,T.cl_Reader,T.na_Reader_unknowns,Z,_,_,Z,Z,_,Z,?_⟩;rw[zwe m4];by_cases sl:sg t i∈nmL m
  ·rw[Yo sl];exact iteT ⟨_,Z,p,dx,_,Z,hp.at_,zb1 _ (by decide +kernel),p,dx,t,i,e,m,Z,hp,m1,m4,sl,kx,λH' v s j kp ha gt lf=>k H' v s j kp ha gt lf.fv⟩
  ·rw[Yw sl];have hs:V.str "(" = V.str ⟨#[40]⟩:=s_of 40 _ (by decide +kernel);refine iteF ⟨_,Z,p,dx,_,Z,hp.at_,zb1 _ (by decide +kernel),?_⟩;rw[hs];refine⟨p,dx,_,t,i,e,40,Z,hp,λc=>?_,λc H1 kp1 hp1=>?_⟩
   ·refine⟨_,Z,iteF ⟨(by show 1<=sizeLine;decide),kx (zt7 λx hx=>?_) H (Kp.refl _ _)⟩⟩;have:=zk0 rfl hx;rw[this]at sd sl c;exact⟨sd,sl,c⟩
   ·obtain⟨d,li⟩:=zff c (by decide);have ea:ac m zT e (t.cps.toList.drop i)=(ok8 (e+1)&&ac m zS (e+1) (t.cps.toList.drop (i+1))):=by
     rw[d];show acc _ _ _ _ _ _=_;rw[zdt];rfl
    refine⟨_,Z,iteT ⟨_,Z,p,dx,_,Z,hp1.at_,zb1 _ (by decide +kernel),p,dx,t,i+1,m,Z,hp1,m1,m4,n32,λz H2 kp2=>kx (by rw[ea];exact z) H2 (kp1.tr kp2),λH2 v s j kp2 hp2 e8 gt fv=>?_⟩⟩;have:=gt.lt;refine k H2 v ⟨s.bt,j-i,s.lv⟩ j (kp1.tr kp2) hp2 ⟨by omega,gt.le,?_,Z,?_,?_⟩ ?_
    ·rw[ea,gt.ac];show (decide (e+1<=8)&&_)=_;rw[Yo e8];rfl
    ·rw[d,bots,Yh (by decide),gt.bt]
    ·rw[d,<- gt.st];rfl
    ·have es:=gt.sg;have f2:=fv.keep (A':=λa=>H a=none) (H':=H2) λa o ha ho=>⟨none_of kp1 hp1.at_ ha,ho⟩
     exact zyy f2 (by show s.sg<=j-i;omega)
theorem zwv(F:FunD K "factors" "Reader.factors" zce .none f fd)(m_Pas:MCal P w K mg base CX0 2 zab "passes" ["self","sign"] [] (zi4 zab)){q e:Nat}(mF:MCal P w K mg base (CXe P w) q zab "factor" ["self"] [] (spFc zab zal e)):FnOk P w K mg base (CXe P w) (q+3) f fd ["self"] (zpz zab zal e):=by
 have scFcs:FnScope ["self","found"] ["self"] (zak zce):=sM (by decide +kernel);refine F.okX (k:=q+2) scFcs (by walk_at "v") (λcdv A outer s H vs Q E hr=>?_);walk_at "x";rename_i g_ hg_ p dx t i m;rintro⟨rfl,h⟩;subst hg_;have hrc:=hr.mono (show 2<=q+2 by omega);have hrq:=hr.mono (show q<=q+2 by omega);refine⟨_,(zac (zav (i:=1) scFcs.nd rfl (Or.inl rfl) (zd4 ((zaa (zcg mF (pv 0) hrq zax .nil (Yi _)) zai))))
  (zac (zck PassesOwn.leaving (zc6 (pe_m m_Pas (pv 0) hrc zaw .nil ((zaa (zas) zai)))) (zaf (zeh (zf4 PySem.F.plainAttrs_list PySem.F.slot_list_append PySem.F.type_list_append zfz (pv 1) ((zaa (zcg mF (pv 0) hrq zax .nil (Yi _)) zai))))))
  (zaf (zap (pv 1))))),?_⟩
 obtain⟨hp,m1,m4,n32,kx,k⟩:=h;have tl:=hp.tl;have lt:t.cps.toList.length=t.length:=Array.length_toList;refine sab λrr hrr=>?_
 refine⟨_,Z,p,dx,_,Z,hp.at_,zb1 _ (by decide +kernel),p,dx,t,i,m,Z,hp,m1,m4,n32,kx,λH1 v s1 j1 kp1 hp1 gt1 fv1=>?_⟩;refine⟨(by show 1<=sizeLine;decide),λb nb=>?_⟩;have e2:Same H1 (upd H1 b (.lst [v])):=Same.upd nb;have hb2:(upd H1 b (HO.lst [v])) b=some (.lst [v]):=zah;dsimp only[za4];generalize upd H1 b (HO.lst [v])=H2 at e2 hb2 ⊢;subst hrr;have pb:p≠b:=λz=>by rw[<- z,hp1.at_]at nb;cases nb
 have nb0:H b=none:=none_of kp1 hp1.at_ nb;have k2:∀a o,H a=some o->a≠p->H2 a=some o:=λa o ha np=>e2 _ _ (kp1 _ _ ha (by simp[np]))
 have hs:V.str "*" = V.str ⟨#[42]⟩:=s_of 42 _ (by decide +kernel);have f0:FV m (8-e) (λa=>H a=none/\a≠b) H2 s1 v:=fv1.keep λa o ha ho=>⟨⟨ha,zaq ho nb⟩,e2 _ _ ho⟩
 have l1:=gt1.lt;refine sab λrr hrr=>?_
 refine⟨λn σ H'=>∃(j:Nat) (s:Sm) (ss:List Sm) (ys:List V),n=t.cps.toList.length-j/\σ = [some (.ref p),some (.ref b)]/\Kp [p,b] H2 H'/\RdA zab H' p dx (nmS m) t j e/\Got m zT e t i j s/\H' b=some (.lst ys)/\Paired (FV m (8-e) (λa=>H a=none/\a≠b) H') ss ys/\ys≠[]/\s.bt=ss.flatMap Sm.bt/\sgs ss<=s.sg/\lvs ss=s.lv/\ys.length<=j,⟨_,j1,s1,[s1],[v],Z,Z,Kp.refl _ _,hp1.same e2,gt1,hb2,.cons f0 .nil,by simp,by simp,by unfold sgs;simp,by unfold lvs;simp,by show 1<=j1;omega⟩,?_⟩;rintro n σ H' ⟨j,s,ss,ys,rfl,rfl,kp,ha,gt,hb,hy,ne,eb,es,el,ly⟩;have jl:=gt.le;refine⟨_,Z,p,dx,_,Z,ha.at_,zb1 _ (by decide +kernel),?_⟩;rw[hs];refine⟨p,dx,_,t,j,e,42,Z,ha,λc=>?_,λc H3 kp3 hp3=>?_⟩
 ·refine⟨_,Z,iteF ?_⟩;show rr _ _ _;subst hrr;refine⟨_,Z,k H' b s j (λa o hq nq=>kp _ _ (k2 a o hq (by simpa using nq)) ?_) ha gt c ⟨ys,ss,nb0,hb,pimp (λ_ _ q=>q.keep λa o ha ho=>⟨ha.1,ho⟩) hy,ne,eb,es,el⟩⟩;simp only[List.mem_cons,List.not_mem_nil,or_false,not_or]at nq ⊢;exact⟨nq,zaq hq nb0⟩
 ·obtain⟨dj,_⟩:=zff c (by decide);have hb3:H3 b=some (.lst ys):=kp3 _ _ hb (by simp[Ne.symm pb]);have k3:∀a o,H a=some o->a≠p->H3 a=some o:=λa o hq np=>kp3 _ _ (kp _ _ (k2 a o hq np) (by simp[np,zaq hq nb0])) (by simp[np])
  refine⟨_,Z,iteT ⟨λσ' H''=>∃(j':Nat) (s:Sm) (ss:List Sm) (ys:List V),j<j'/\σ'=[some (.ref p),some (.ref b)]/\Kp [p,b] H2 H''/\RdA zab H'' p dx (nmS m) t j' e/\Got m zT e t i j' s/\H'' b=some (.lst ys)/\Paired (FV m (8-e) (λa=>H a=none/\a≠b) H'') ss ys/\ys≠[]/\s.bt=ss.flatMap Sm.bt/\sgs ss<=s.sg/\lvs ss=s.lv/\ys.length<=j',?_,?_⟩⟩
  ·rintro σ' H'' ⟨j',s',ss',ys',jj,rfl,q1,q2,q3,q⟩;have:=q3.le;exact⟨t.cps.toList.length-j',by omega,j',s',ss',ys',rfl,rfl,q1,q2,q3,q⟩
  refine⟨_,Z,.inl ⟨Z,_,SqL.of hb3⟩,_,Z,p,dx,_,Z,hp3.at_,zb1 _ (by decide +kernel),p,dx,t,j+1,m,Z,hp3,m1,m4,n32,λz H4 kp4=>kx ?_ H4 ?_,λH4 v4 s4 j4 kp4 hp4 gt4 fv4=>?_⟩
  ·rw[gt.ac,dj];show acc _ _ _ _ _ _=_;rw[zte (by rfl)];exact z
  ·exact λa o hq nq=>kp4 _ _ (k3 a o hq (by simpa using nq)) nq
  have hb4:H4 b=some (.lst ys):=kp4 _ _ hb3 (by simp[Ne.symm pb]);have l4:=gt4.lt;have l5:=gt4.le;refine⟨b,_,_,Z,Z,hb4,zlt _ (by omega),?_⟩;have gt5:=zru gt c rfl gt4;have sg0:=gt.sg;have sg4:=gt4.sg;have lt0:=gt.lt;refine⟨j4,_,ss++[s4],ys++[v4],by omega,Z,((kp.tr (λq o hq nq=>kp3 _ _ hq λz=>nq (by simp at z;simp[z]))).tr (λq o hq nq=>kp4 _ _ hq λz=>nq (by simp at z;simp[z]))).tr (Kp.upd (by simp)),{ hp4 with at_:=(zar pb).trans hp4.at_ },gt5,zah,?_,by simp,?_,?_,?_,?_⟩
  ·refine psnoc (fv4.keep λa o q1 q2=>?_) (pimp (λ_ _ q=>q.keep λa o q1 q2=>⟨q1,?_⟩) hy)
   ·replace q1:H3 a=none:=q1;have ab:a≠b:=λz=>by rw[z,hb3]at q1;cases q1
    refine⟨⟨?_,ab⟩,(zar ab).trans q2⟩
    cases z:H a with
    | none=>rfl
    | some x=>
     by_cases zp:a=p
     ·rw[zp,hp3.at_]at q1;cases q1
     ·rw[k3 a x z zp]at q1;cases q1
   ·have ap:a≠p:=λz=>by have q:=q1.1;rw[z,hp.at_]at q;cases q
    exact(zar q1.2).trans (kp4 _ _ (kp3 _ _ q2 (by simp[ap])) (by simp[ap]))
  ·show s.bt++s4.bt=_;rw[List.flatMap_append,eb];simp
  ·rw[zsh];show _<=j4-i;omega
  ·rw[zuj,el]
  ·rw[Y6];show ys.length+1<=j4;omega
theorem zuw(F:FunD K "parts" "Reader.parts" zbp .none f fd)(m_Pas:MCal P w K mg base CX0 2 zab "passes" ["self","sign"] [] (zi4 zab))(m_Sig:MCal P w K mg base CX0 1 zab "sign" ["self"] [] (zjf zab)){q e:Nat}(mF:MCal P w K mg base (CXe P w) q zab "factors" ["self"] [] (zpz zab zal e)):FnOk P w K mg base (CXe P w) (q+3) f fd ["self"] (zij zab zal e):=by
 have scPts:FnScope ["self","turn","found"] ["self"] (zak zbp):=sM (by decide +kernel);refine F.okX (k:=q+2) scPts (by walk_at "v") (λcdv A outer s H vs Q E hr=>?_);walk_at "x";rename_i g_ hg_ p dx t i m;rintro⟨rfl,h⟩;subst hg_;have hrc:=hr.mono (show 2<=q+2 by omega);have hrq:=hr.mono (show q<=q+2 by omega);refine⟨_,(zac (zav (i:=1) scPts.nd rfl (Or.inl rfl) (zgg (zc6 (pe_m m_Pas (pv 0) hrc zaw .nil ((zaa (zas) zai)))) (zo7 zjt zae) (zae)))
  (zac (zav (i:=2) scPts.nd rfl (Or.inl rfl) (zd4 ((zaa (zbz ((zaa (pv 1) (zaa (zcg mF (pv 0) hrq zax .nil (Yi _)) zai)))) zai))))
  (zac (zck PassesOwn.leaving (PW.pt (zk5 (zan zbi (zcg m_Sig (pv 0) hrc zaw .nil) (zas) (nomark _)) (zih (zan zbi (zcg m_Sig (pv 0) hrc zaw .nil) (zas) (nomark _))))) (zac (zav (i:=1) scPts.nd rfl (Or.inl rfl) (zgg (zan zbi (zcg m_Sig (pv 0) hrc zaw .nil) (zas) (nomark _)) (zae) (zo7 zjt zae)))
  (zac (zc8 (pv 0) (zae) zh0)
  (zaf (zeh (zf4 PySem.F.plainAttrs_list PySem.F.slot_list_append PySem.F.type_list_append zfz (pv 2) ((zaa (zbz ((zaa (pv 1) (zaa (zcg mF (pv 0) hrq zax .nil (Yi _)) zai)))) zai))))))))
  (zaf (zap (pv 2)))))),?_⟩
 obtain⟨hp,m1,m4,n32,kx,k⟩:=h;have tl:=hp.tl;have lt:t.cps.toList.length=t.length:=Array.length_toList;have hm:V.str "-" = V.str ⟨#[45]⟩:=s_of 45 _ (by decide +kernel);have hpl:V.str "+" = V.str ⟨#[43]⟩:=s_of 43 _ (by decide +kernel);refine zc1 (λσ' H'=>∃(tn:Int) (i0:Nat),(tn=1\/tn = -1)/\σ'=[some (.ref p),some (.int tn),none]/\Kp [p] H H'/\RdA zab H' p dx (nmS m) t i0 e/\((sg t i=45/\i0=i+1)\/(sg t i≠45/\i0=i))) ?_ λN hN=>?_
 rotate_left
 ·refine⟨_,Z,p,dx,_,Z,hp.at_,zb1 _ (by decide +kernel),?_⟩;rw[hm];refine⟨p,dx,_,t,i,e,45,Z,hp,λc=>?_,λc H1 kp1 hp1=>?_⟩
  ·exact⟨_,Z,iteF (hN _ _ ⟨1,i,.inl rfl,Z,Kp.refl _ _,hp,.inr ⟨c,Z⟩⟩)⟩
  ·exact⟨_,Z,iteT ⟨_,Z,hN _ _ ⟨-1,i+1,.inr rfl,Z,kp1,hp1,.inl ⟨c,Z⟩⟩⟩⟩
 rintro σ' H1 ⟨tn,i0,htn,rfl,kp1,hp1,hi0⟩;refine sab λrr hrr=>?_
 refine⟨_,Z,_,Z,p,dx,_,Z,hp1.at_,zb1 _ (by decide +kernel),p,dx,t,i0,m,Z,hp1,m1,m4,n32,λz H2 kp2=>kx (by rw[zzc hi0];exact z) H2 (kp1.tr kp2),λH2 b1 s1 j1 kp2 hp2 gt1 n42 fv1=>?_⟩;refine⟨(by show 2<=sizeLine;decide),λq1 nq1=>?_⟩;have e3:Same H2 (upd H2 q1 (.tup [.int tn,.ref b1])):=Same.upd nq1;have hq3:(upd H2 q1 (HO.tup [V.int tn,V.ref b1])) q1=some (.tup [.int tn,.ref b1]):=zah;generalize upd H2 q1 (HO.tup [V.int tn,V.ref b1])=H3 at e3 hq3 ⊢;refine⟨(by show 1<=sizeLine;decide),λb nb=>?_⟩;have e4:Same H3 (upd H3 b (.lst [.ref q1])):=Same.upd nb;have hb4:(upd H3 b (HO.lst [V.ref q1])) b=some (.lst [.ref q1]):=zah;dsimp only[za4];generalize upd H3 b (HO.lst [V.ref q1])=H4 at e4 hb4 ⊢;subst hrr;have kp12:=kp1.tr kp2;have nq0:H q1=none:=none_of kp12 hp2.at_ nq1;have nb0:H b=none:=none_of (kp12.tr (.of e3)) (e3 _ _ hp2.at_) nb;have hp4:=hp2.same (e3.trans e4);have pb:p≠b:=λz=>by rw[<- z,e3 _ _ hp2.at_]at nb;cases nb
 have k4:∀a o,H a=some o->a≠p->H4 a=some o:=λa o ha np=>e4 _ _ (e3 _ _ (kp12 _ _ ha (by simp[np])))
 have w1:PV (FV m (8-e) (λa=>H a=none/\a≠b) H4) (λa=>H a=none/\a≠b) H4 s1 (.ref q1):=by
  have kk:Kpt (λa=>H1 a=none) (λa=>H a=none/\a≠b) H2 H4:=λa o q2 q3=>⟨⟨none_of kp1 hp1.at_ q2,zaq (e3 _ _ q3) nb⟩,e4 _ _ (e3 _ _ q3)⟩
  exact⟨q1,b1,tn,Z,⟨nq0,zaq hq3 nb⟩,e4 _ _ hq3,htn,fv1.keep kk λ_ _ q=>q.keep kk⟩
 have g1:=zy9 hi0 gt1;have l1:=g1.lt;have l0:=gt1.lt;have sg1:=gt1.sg;have i01:i<=i0:=by rcases hi0 with⟨_,z⟩ | ⟨_,z⟩ <;> omega
 refine sab λrr hrr=>?_
 refine⟨λn σ H'=>∃(j:Nat) (s:Sm) (ss:List Sm) (ys:List V) (v1:Option V),n=t.cps.toList.length-j/\σ = [some (.ref p),v1,some (.ref b)]/\Kp [p,b] H4 H'/\RdA zab H' p dx (nmS m) t j e/\Got m zS e t i j s/\sg t j≠42/\H' b=some (.lst ys)/\Paired (PV (FV m (8-e) (λa=>H a=none/\a≠b) H') (λa=>H a=none/\a≠b) H') ss ys/\ys≠[]/\s.bt=ss.flatMap Sm.bt/\sgs ss+ss.length<=s.sg+1/\lvs ss=s.lv/\ys.length<=j,⟨_,j1,_,[s1],[.ref q1],_,Z,Z,Kp.refl _ _,hp4,g1,n42,hb4,.cons w1 .nil,by simp,by simp,by unfold sgs;simp;omega,by unfold lvs;simp,by show 1<=j1;omega⟩,?_⟩;rintro n σ H' ⟨j,s,ss,ys,v1,rfl,rfl,kp,ha,gt,n42,hb,hy,ne,eb,es,el,ly⟩;have jl:=gt.le;have two:sg t j=43\/sg t j=45\/(sg t j≠43/\sg t j≠45):=by omega
 refine zio (decide (sg t j=43)) (decide (sg t j=45)) (λQ' hQ=>⟨_,Z,p,dx,_,Z,ha.at_,zb1 _ (by decide +kernel),p,dx,_,t,j,e,Z,ha,Z,_,Z,by rw[sdec _ hpl];exact hQ⟩) (λQ' hQ=>⟨_,Z,p,dx,_,Z,ha.at_,zb1 _ (by decide +kernel),p,dx,_,t,j,e,Z,ha,Z,_,Z,by rw[sdec _ hm];exact hQ⟩) ?_;by_cases hO:sg t j=43\/sg t j=45;rotate_left
 ·rw[show (decide (sg t j=43)||decide (sg t j=45))=false by rw[<- Bool.decide_or];exact Yw hO];refine iteF ?_;show rr _ _ _;subst hrr;have nO:isO (sg t j)=false:=by
   cases z:isO (sg t j) with
   | false=>rfl
   | true=>rcases opc3 z with z | z | z;exact absurd z n42;exact absurd (.inl z) hO;exact absurd (.inr z) hO
  refine⟨_,Z,k H' b s j (λa o hq nq=>kp _ _ (k4 a o hq (by simpa using nq)) ?_) ha gt nO ⟨ys,ss,nb0,hb,pimp (λ_ _ q=>q.keep (λa o q1 q2=>⟨q1.1,q2⟩) λ_ _ q=>q.keep λa o q1 q2=>⟨q1.1,q2⟩) hy,ne,eb,es,el⟩⟩;simp only[List.mem_cons,List.not_mem_nil,or_false,not_or]at nq ⊢;exact⟨nq,zaq hq nb0⟩
 have iO:isO (sg t j)=true:=by rcases hO with z | z <;> rw[z] <;> rfl
 rw[show (decide (sg t j=43)||decide (sg t j=45))=true by rw[<- Bool.decide_or];exact Yo hO];refine iteT ?_;have hne:sg t j≠32:=by omega
 obtain⟨dj,_⟩:=zff rfl hne;refine⟨λσ' H''=>∃(j':Nat) (s:Sm) (ss:List Sm) (ys:List V) (v1:Option V),j<j'/\σ'=[some (.ref p),v1,some (.ref b)]/\Kp [p,b] H4 H''/\RdA zab H'' p dx (nmS m) t j' e/\Got m zS e t i j' s/\sg t j'≠42/\H'' b=some (.lst ys)/\Paired (PV (FV m (8-e) (λa=>H a=none/\a≠b) H'') (λa=>H a=none/\a≠b) H'') ss ys/\ys≠[]/\s.bt=ss.flatMap Sm.bt/\sgs ss+ss.length<=s.sg+1/\lvs ss=s.lv/\ys.length<=j',?_,?_⟩
 ·rintro σ' H'' ⟨j',s',ss',ys',v',jj,rfl,q1,q2,q3,q⟩;have:=q3.le;exact⟨t.cps.toList.length-j',by omega,j',s',ss',ys',v',rfl,rfl,q1,q2,q3,q⟩
 refine zc1 (λσ' H''=>∃tn:Int,(tn=1\/tn = -1)/\σ'=[some (.ref p),some (.int tn),some (.ref b)]/\H''=H') ?_ λN hN=>?_
 rotate_left
 ·refine⟨_,Z,p,dx,_,Z,ha.at_,zb1 _ (by decide +kernel),p,dx,_,t,j,e,Z,ha,Z,_,Z,?_⟩;rw[sdec _ hpl];by_cases c1:sg t j=43
  ·rw[Yo c1];exact iteT (hN _ _ ⟨1,.inl rfl,Z,Z⟩)
  ·rw[Yw c1];exact iteF ⟨_,Z,hN _ _ ⟨-1,.inr rfl,Z,Z⟩⟩
 rintro σ' H'' ⟨tn,htn,rfl,rfl⟩;refine sab λr2 hr2=>?_
 refine⟨_,Z,p,zab,dx,_,_,Z,ha.at_,T.cl_Reader,T.na_Reader_at,Z,_,_,Z,Z,dx,_,ha.at_,(by show 4<1000;decide),?_⟩;have hp5:=ha.up;show r2 _ _ _;have kp5:Kp [p] H'' (upd H'' p (.ins zab dx (putF "at" (.int ((j:Int)+1)) (RdO (nmS m) t j e)))):=Kp.upd (by simp);generalize upd H'' p (.ins zab dx (putF "at" (.int ((j:Int)+1)) (RdO (nmS m) t j e)))=H5 at hp5 kp5 ⊢;subst hr2;have hb5:H5 b=some (.lst ys):=kp5 _ _ hb (by simp[Ne.symm pb]);have k5:∀a o,H a=some o->a≠p->H5 a=some o:=λa o hq np=>kp5 _ _ (kp _ _ (k4 a o hq np) (by simp[np,zaq hq nb0])) (by simp[np])
 refine⟨_,Z,.inl ⟨Z,_,SqL.of hb5⟩,_,Z,_,Z,p,dx,_,Z,hp5.at_,zb1 _ (by decide +kernel),p,dx,t,j+1,m,Z,hp5,m1,m4,n32,λz H6 kp6=>kx ?_ H6 ?_,λH6 b6 s6 j6 kp6 hp6 gt6 n426 fv6=>?_⟩
 ·rw[gt.ac,dj];show acc _ _ _ _ _ _=_;rw[zte iO];exact z
 ·exact λa o hq nq=>kp6 _ _ (k5 a o hq (by simpa using nq)) nq
 have hb6:H6 b=some (.lst ys):=kp6 _ _ hb5 (by simp[Ne.symm pb]);refine⟨(by show 2<=sizeLine;decide),λq7 nq7=>?_⟩;have e7:Same H6 (upd H6 q7 (.tup [.int tn,.ref b6])):=Same.upd nq7;have hq7:(upd H6 q7 (HO.tup [V.int tn,V.ref b6])) q7=some (.tup [.int tn,.ref b6]):=zah;generalize upd H6 q7 (HO.tup [V.int tn,V.ref b6])=H7 at e7 hq7 ⊢;have hb7:=e7 _ _ hb6;have l4:=gt6.lt;have l5:=gt6.le;refine⟨b,_,_,Z,Z,hb7,zlt _ (by omega),?_⟩;have g5:=zru gt rfl iO gt6;have sg0:=gt.sg;have sg6:=gt6.sg;have lt0:=gt.lt;have nH:∀a,H5 a=none->H a=none:=λa q=>by
  cases z:H a with
  | none=>rfl
  | some x=>
   by_cases zp:a=p
   ·rw[zp,hp5.at_]at q;cases q
   ·rw[k5 a x z zp]at q;cases q
 have k7:∀a o,H7 a=some o->a≠b->(upd H7 b (.lst (ys++[.ref q7]))) a=some o:=λa o hq n2=>(zar n2).trans hq
 have q75:H5 q7=none:=by
  cases z:H5 q7 with
  | none=>rfl
  | some x=>
   by_cases zp:q7=p
   ·rw[zp,hp6.at_]at nq7;cases nq7
   ·rw[kp6 q7 x z (by simp[zp])]at nq7;cases nq7
 refine⟨j6,_,ss++[s6],ys++[.ref q7],_,by omega,Z,(((kp.tr (λq o hq nq=>kp5 _ _ hq λz=>nq (by simp at z;simp[z]))).tr (λq o hq nq=>kp6 _ _ hq λz=>nq (by simp at z;simp[z]))).tr (.of e7)).tr (Kp.upd (by simp)),{ hp6 with at_:=k7 _ _ (e7 _ _ hp6.at_) pb },g5,n426,zah,?_,by simp,?_,?_,?_,?_⟩
 ·have kk:Kpt (λa=>H5 a=none) (λa=>H a=none/\a≠b) H6 (upd H7 b (.lst (ys++[.ref q7]))):=λa o q2 q3=>by
   replace q2:H5 a=none:=q2;have ab:a≠b:=λz=>by rw[z,hb5]at q2;cases q2
   exact⟨⟨nH a q2,ab⟩,k7 _ _ (e7 _ _ q3) ab⟩
  have kk2:Kpt (λa=>H a=none/\a≠b) (λa=>H a=none/\a≠b) H'' (upd H7 b (.lst (ys++[.ref q7]))):=λa o q1 q2=>by
   have ap:a≠p:=λz=>by have q:=q1.1;rw[z,hp.at_]at q;cases q
   exact⟨q1,k7 _ _ (e7 _ _ (kp6 _ _ (kp5 _ _ q2 (by simp[ap])) (by simp[ap]))) q1.2⟩
  have qb:q7≠b:=λz=>by rw[z,hb6]at nq7;cases nq7
  exact psnoc ⟨q7,b6,tn,Z,⟨nH _ q75,qb⟩,k7 _ _ hq7 qb,htn,fv6.keep kk λ_ _ q=>q.keep kk⟩ (pimp (λ_ _ q=>q.keep kk2 λ_ _ q=>q.keep kk2) hy)
 ·show s.bt++s6.bt=_;rw[List.flatMap_append,eb];simp
 ·rw[zsh,Y6];show _+(ss.length+1)<=j6-i+1;omega
 ·rw[zuj,el]
 ·rw[Y6];show ys.length+1<=j6;omega
theorem zu3(F:FunD K "bracket" "Reader.bracket" zca .none f fd)(m_Pas:MCal P w K mg base CX0 2 zab "passes" ["self","sign"] [] (zi4 zab))(x_NoText:Exc K mg base "NoText" zal){q e:Nat}{sP:Sp}(mP:MCal P w K mg base (CXe P w) q zab "parts" ["self"] [] sP)(he:e<=8)(hP:e<8->sP=zij zab zal (e+1)):FnOk P w K mg base (CXe P w) (q+3) f fd ["self"] (zpv zab zal e):=by
 have scBrk:FnScope ["self","found"] ["self"] (zak zca):=sM (by decide +kernel);refine F.okX (k:=q+2) scBrk (by walk_at "v") (λcdv A outer s H vs Q E hr=>?_);walk_at "x";rename_i g_ hg_ p dx t i m;rintro⟨rfl,h⟩;subst hg_;have hrc:=hr.mono (show 2<=q+2 by omega);have hrq:=hr.mono (show q<=q+2 by omega);refine⟨_,(zac (zc8 (pv 0) (zae) zh0)
  (zac (za1 (zan zg7 (za2 (K:=K) rfl (pv 0) rfl) (zd1 T.g_MOST_DEPTH rfl) (nomark _)) (zaf (zf3 x_NoText rfl rfl za3 ((zaa (zas) zai)))) zat)
  (zac (zav (i:=1) scBrk.nd rfl (Or.inl rfl) (zcg mP (pv 0) hrq zax .nil (Yi _)))
  (zac (za1 (zfs (zc6 (pe_m m_Pas (pv 0) hrc zaw .nil ((zaa (zas) zai))))) (zaf (zf3 x_NoText rfl rfl za3 ((zaa (zas) zai)))) zat)
  (zac (zc8 (pv 0) (zae) zwh)
  (zaf (zap (zbz ((zaa (zas) (zaa (pv 1) (zaa (zj9) zai)))))))))))),?_⟩
 obtain⟨hp,m1,m4,n32,kx,k⟩:=h;refine sab λrr hrr=>?_
 refine⟨_,Z,p,zab,dx,_,_,Z,hp.at_,T.cl_Reader,T.na_Reader_depth,Z,_,_,Z,Z,dx,_,hp.at_,(by show 4<1000;decide),?_⟩;have hp1:=hp.dp (d:=(e:Int)+1) (e':=e+1) (by omega);have kp1:Kp [p] H (upd H p (.ins zab dx (putF "depth" (.int ((e:Int)+1)) (RdO (nmS m) t i e)))):=Kp.upd (by simp);show rr _ _ _;generalize upd H p (.ins zab dx (putF "depth" (.int ((e:Int)+1)) (RdO (nmS m) t i e)))=H1 at hp1 kp1 ⊢;subst hrr;refine⟨_,Z,p,zab,dx,_,_,Z,hp1.at_,T.cl_Reader,T.na_Reader_depth,Z,_,_,Z,Z,_,Z,cD (λc=>?_) (λc=>?_)⟩
 ·refine⟨(by show 1<=sizeLine;decide),kx ?_ H1 kp1⟩;show (decide (e+1<=8)&&_)=false;rw[Yw (by omega)];rfl
 have e7:e<8:=by omega
 have o8:ok8 (e+1)=true:=Yo (by omega);refine sab λrr hrr=>?_
 show rr _ _ _;subst hrr;refine sab λrr hrr=>?_
 refine⟨_,Z,p,dx,_,Z,hp1.at_,zb1 _ (by decide +kernel),?_⟩;rw[hP e7];refine⟨p,dx,t,i,m,Z,hp1,m1,m4,n32,λz H2 kp2=>kx (by rw[z,Bool.and_false]) H2 (kp1.tr kp2),λH2 b s j kp2 hp2 gt nO pv=>?_⟩;dsimp only[za4];subst hrr;have kp12:=kp1.tr kp2;have hs:V.str ")" = V.str ⟨#[41]⟩:=s_of 41 _ (by decide +kernel);refine⟨_,Z,p,dx,_,Z,hp2.at_,zb1 _ (by decide +kernel),?_⟩;rw[hs];refine⟨p,dx,_,t,j,e+1,41,Z,hp2,λc2=>?_,λc2 H3 kp3 hp3=>?_⟩
 ·refine⟨_,Z,iteT ⟨(by show 1<=sizeLine;decide),kx ?_ H2 kp12⟩⟩;rw[o8,Bool.true_and,gt.ac]
  cases q:t.cps.toList.drop j with
  | nil=>rfl
  | cons x r=>
   refine zrg (λy hy=>?_) (by simp);injection hy with hy
   subst hy;rw[sg_c q]at nO c2;exact⟨nO,c2⟩
 ·obtain⟨dj,jl⟩:=zff c2 (by decide);refine⟨_,Z,iteF ?_⟩;refine sab λrr hrr=>?_
  show rr _ _ _;subst hrr;refine sab λrr hrr=>?_
  refine⟨_,Z,p,zab,dx,_,_,Z,hp3.at_,T.cl_Reader,T.na_Reader_depth,Z,_,_,Z,Z,dx,_,hp3.at_,(by show 4<1000;decide),?_⟩;have hp4:=hp3.dp (d:=((e+1:Nat):Int)-1) (e':=e) (by omega);have kp4:Kp [p] H3 (upd H3 p (.ins zab dx (putF "depth" (.int (((e+1:Nat):Int)-1)) (RdO (nmS m) t (j+1:Nat) (e+1:Nat))))):=Kp.upd (by simp);show rr _ _ _;generalize upd H3 p (.ins zab dx (putF "depth" (.int (((e+1:Nat):Int)-1)) (RdO (nmS m) t (j+1:Nat) (e+1:Nat))))=H4 at hp4 kp4 ⊢;subst hrr;refine⟨_,Z,(by show 3<=sizeLine;decide),λq nq=>?_⟩;have e5:Same H4 (upd H4 q (.tup [.str "sum",.ref b,.non])):=Same.upd nq;have kp14:=(kp12.tr kp3).tr kp4;have nq0:=none_of kp14 hp4.at_ nq;have l1:=gt.lt;refine k _ _ ⟨s.bt,j+1-i,s.lv⟩ (j+1) (kp14.tr (.of e5)) (hp4.same e5) (by omega) ⟨by omega,by omega,?_,Z,?_,?_⟩ ?_
  ·rw[gt.ac,dj];show acc _ _ _ _ _ _=_;rw[zdi];simp[fin]
  ·rw[gt.bt,dj,bots,Yh (by decide)]
  ·rw[gt.st,dj];rfl
  ·rw[show 8-e=(8-(e+1))+1 by omega];have sg0:=gt.sg;have kk:Kpt (λa=>H1 a=none) (λa=>H a=none) H2 (upd H4 q (.tup [.str "sum",.ref b,.non])):=λa o q2 q3=>by
    replace q2:H1 a=none:=q2;have ap:a≠p:=λz=>by rw[z,hp1.at_]at q2;cases q2
    exact⟨none_of kp1 hp1.at_ q2,e5 _ _ (kp4 _ _ (kp3 _ _ q3 (by simp[ap])) (by simp[ap]))⟩
   exact .inr ⟨q,b,s,Z,nq0,zah,pv.keep kk (λ_ _ q=>q.keep kk),Z,by show _<=j+1-i;omega,Z⟩
theorem zvh(F:FunD K "parts" "Reader.parts" zbp .none f fd)   : FnOk P w K mg base (CXe P w) 1 f fd ["self"] (λ_ _ _ _=>False):=by
 have scPtV:FnScope ["self","turn","found"] ["self"] (zak zbp):=sM (by decide +kernel);exact F.okX (k:=0) scPtV (λ_ _ _ _ h=>h.elim) (λ_ _ _ _ _ _ _ _ _ h=>h.elim)
theorem zyf(F:FunD K "whole_sum" "Reader.whole_sum" zbw .none f fd)(m_Sig:MCal P w K mg base CX0 1 zab "sign" ["self"] [] (zjf zab))(x_NoText:Exc K mg base "NoText" zal)(mP0:MCal P w K mg base (CXe P w) 130 zab "parts" ["self"] [] (zij zab zal 0)):FnOk P w K mg base (CXe P w) 131 f fd ["self"] (spWs zab zal):=by
 have scWs:FnScope ["self","found"] ["self"] (zak zbw):=sM (by decide +kernel);refine F.okX (k:=130) scWs (by walk_at "v") (λcdv A outer s H vs Q E hr=>?_);walk_at "x";rename_i g_ hg_ p dx t m;rintro⟨rfl,h⟩;subst hg_;refine⟨_,(zac (zav (i:=1) scWs.nd rfl (Or.inl rfl) (zcg mP0 (pv 0) hr zax .nil))
  (zac (za1 (zan zla (zcg m_Sig (pv 0) hr zaw .nil) (zdy T.g_END rfl) (nomark _)) (zaf (zf3 x_NoText rfl rfl za3 ((zaa (zas) zai)))) zat)
  (zaf (zap (pv 1))))),?_⟩
 obtain⟨hp,m1,m4,n32,kx,k⟩:=h;have tl:=hp.tl;have lt:t.cps.toList.length=t.length:=Array.length_toList;have h32:V.str " " = V.str ⟨#[32]⟩:=s_of 32 _ (by decide +kernel);refine sab λrr hrr=>?_
 refine⟨_,Z,p,dx,_,Z,hp.at_,zb1 _ (by decide +kernel),p,dx,t,0,m,Z,hp,m1,m4,n32,λz H1 kp1=>kx z H1 kp1,λH1 b s j kp1 hp1 gt nO pv=>?_⟩;dsimp only[za4];subst hrr;refine⟨_,Z,p,dx,_,Z,hp1.at_,zb1 _ (by decide +kernel),p,dx,_,t,j,0,Z,hp1,Z,_,Z,?_⟩;rw[sdec _ h32];have ga:=gt.ac;have gb:=gt.bt;have gs:=gt.st;have sg0:=gt.sg;have jl:=gt.le;rw[List.drop_zero]at ga gb gs;by_cases c:sg t j=32
 ·have d:=zwc n32 c;rw[d]at ga gb gs;rw[Yo c];refine iteF ⟨_,Z,k H1 b s kp1 ga (by omega) (by rw[gb];simp[bots]) (by rw[gs];rfl) pv⟩
 ·rw[Yw c];refine iteT ⟨(by show 1<=sizeLine;decide),kx ?_ H1 kp1⟩;rw[ga]
  cases q:t.cps.toList.drop j with
  | nil=>exact absurd (sg_n q) c
  | cons x r=>
   by_cases x41:x=41
   ·subst x41;show acc _ _ _ _ _ _=_;rw[zdi];rfl
   ·refine zrg (λy hy=>?_) (by simp);injection hy with hy
    subst hy;rw[sg_c q]at nO;exact⟨nO,x41⟩
theorem zu6(F:FunD K "constant" "Ring.constant" zcr .none f fd)(m_Un:MCal P w K mg base CX0 1 zau "unit" ["self"] [] (spUn zau zad zaj zag zag zag zag))(hfle:∀n:Int,n<=9973->(n=0\/Pr n)->∃C,FldE P w K mg base zam C (AtN zad zaj n) n):FnOk P w K mg base CX0 4 f fd ["self","number"] (ztc zau zad zaj zag zag zag zag):=by
 have scCon:FnScope ["self","number"] ["self","number"] (zak zcr):=sM (by decide +kernel);refine F.okN (k:=3) scCon (by walk_at "v") (λcdv A outer s H vs Q E hr=>?_);walk_at "x";rename_i g_ hg_ F fF r v g cF x;rintro⟨rfl,h⟩;subst hg_;obtain⟨CF,B⟩:=hfle g.n h.1.nb h.1.np;refine⟨_,(zac (za1 (zan (zfg hr.units) (pv 1) (zcg B.nought (za2 (K:=K) rfl (pv 0) rfl) hr zaw .nil) (nomark _)) (zaf (zap (zes))) zat)
  (zaf (zap (zjs hr.units0 (zcg m_Un (pv 0) hr zaw .nil) (pv 1))))),?_⟩
 obtain⟨hR,iv,k⟩:=h;obtain⟨dx,hr0⟩:=hR.at_;have hf:=hR.fd;obtain⟨dF,hF⟩:=B.ins hf;refine⟨_,Z,_,Z,r,zau,dx,_,_,Z,hr0,T.cl_Ring,T.na_Ring_field,Z,g.pf,dF,_,Z,hF,no_P _ _ (by decide +kernel),F,fF,cF,g.pf,Z,hf,λu H1 e1 hu=>?_⟩;rw[zd7]at hu;obtain⟨dn,z0,rd,rz,s1,s2,eq⟩:=zjb (K:=K) (iv.same e1) hu;refine⟨dn,z0,rd,rz,s1,s2,_,Z,?_⟩;rcases eq with⟨z,q⟩ | ⟨z,q⟩
 ·rw[q];refine iteT λd nd0=>k d _ [] (e1.free nd0) (e1.updR (e1.free nd0)) zah (PF.nil.congr λt=>?_) (Y2 _)
  rw[z,mo_0]
 ·rw[q];refine iteF λd hd=>?_
  have hd0:=e1.free hd;have e2:=e1.updR (o:=.dT []) hd0;have d1:(upd H1 d (HO.dT [])) d=some (.dT []):=zah;generalize upd H1 d (HO.dT [])=H2 at e2 d1;refine⟨_,Z,r,dx,_,Z,e2 _ _ hr0,no_G _ (by decide +kernel) (by decide +kernel) (by decide +kernel),r,g,Z,hR.same e2,λt H3 e3 ht=>?_⟩;refine⟨_,Z,t,ky (zer g.m),Z,e3 _ _ d1,by rw[zm1];exact ht,?_⟩;have g3:Same H (upd H3 d (.dT [(ky (zer g.m),v)])):=(e2.trans e3).updR hd0;exact k d _ _ hd0 g3 zah (zvu (iv.same g3) (T0.zer _) z) (Yi _)
theorem zox(F:FunD K "alone" "alone" zi3 .none f fd)   : FnOk P w K mg base CX0 1 f fd ["many","at","power"] znj:=by
 have scAlone:FnScope ["many","at","power"] ["many","at","power"] (zak zi3):=sM (by decide +kernel);refine F.okN (k:=0) scAlone (by walk_at "v") (λcdv A outer s H vs Q E hr=>?_);walk_at "x";rename_i g_ hg_ m a p;rintro⟨rfl,h⟩;subst hg_;refine⟨_,(zaf (zap (zbh (zfq (K:=K) rfl) rfl T.b_tuple (by kernel_rfl) ((zaa (zi5 (N:=["place","at","power"]) (cl:=[("power",s.heap.objs.size+2),("at",s.heap.objs.size+1)]) (mp:=[none,some 1,some 2]) (Blk.of rfl (by decide +kernel) rfl (by decide +kernel) zc9 (zhf rfl (zhf rfl zqa)) (zy0 (fs:=["power","at"]) rfl (by decide +kernel)) rfl (zlo (zhh rfl (.inl rfl) rfl (zhh rfl (.inl rfl) rfl zpq)))) rfl (zlj rfl T.b_range ((zaa (pv 0) zai))) (λC0 s0 H0 fp0=>zqn (i:=0) zc9 rfl rfl) (λC0 s0 H0 fp0=>ziw) (λC0 s0 H0 fp0=>zgg (zan zbi (pv 0) (pv 1) (nomark _)) (pv 2) (zae))) zai))))),?_⟩;obtain⟨m1,m2,a0,k⟩:=h;show tComp _ _ _ _ _ _ _ _;refine zlb (H1:=H) m (λσ=>∃v,σ = [v,some (.int a),some (.int p)]) (λ_=>true) (λi=>.int (if i=a.toNat then p else 0)) (by omega) (by omega) ?_ ⟨none,Z⟩ ?_ λD H' e hL=>?_
 ·exact λR hR=>⟨_,Z,hR⟩
 ·rintro i σ' H2 hi ⟨z,rfl⟩ e Ny Nn hy hn;unfold za4 tYes;dsimp only;rw[Yl rfl];have q:=hy [some (.int (0+(i:Int))),some (.int a),some (.int p)] H2 ⟨_,rfl⟩ (Same.refl _) rfl;refine⟨_,rfl,_,rfl,rfl,_,rfl,cEq (λc=>?_) (λc=>?_)⟩
  ·rw[Yl (by omega)]at q;exact⟨_,Z,q⟩
  ·rw[Yh (by omega)]at q;exact q
 rw[Yu.mpr (λ_ _=>Z)]at hL;refine⟨D,_,Z,.inl ⟨SqL.of hL,λl hl=>k l _ (e.updR (e.free hl)) ?_⟩⟩;rw[zah];unfold only;rw[Jh];rfl
theorem zs3(F:FunD K "sum_of" "sum_of" zek .none f fd)   : FnOk P w K mg base (CXe P w) 1 f fd ["ring","parts"] (λ_ _ _ _=>False):=by
 have scSumV:FnScope ["ring","parts","total","turn","factors","found","factor"] ["ring","parts"] (zak zek):=sM (by decide +kernel);exact F.okX (k:=0) scSumV (λ_ _ _ _ h=>h.elim) (λ_ _ _ _ _ _ _ _ _ h=>h.elim)
theorem zxx(F:FunD K "factor_of" "factor_of" zei .none f fd)(m_Con:MCal P w K mg base CX0 4 zau "constant" ["self","number"] [] (ztc zau zad zaj zag zag zag zag))(c_Alone:Cal P w K mg base CX0 1 "alone" ["many","at","power"] [] znj)(hfle:∀n:Int,n<=9973->(n=0\/Pr n)->∃C,FldE P w K mg base zam C (AtN zad zaj n) n){q n:Nat}{sS:Sp}(cS:Cal P w K mg base (CXe P w) q "sum_of" ["ring","parts"] [] sS)(hS:∀n',n=n'+1->sS=zic zam zau zad zaj zag zag zag zag n'):FnOk P w K mg base (CXe P w) (q+9) f fd ["ring","factor"] (spFO zam zau zad zaj zag zag zag zag n):=by
 have scFO:FnScope ["ring","factor"] ["ring","factor"] (zak zei):=sM (by decide +kernel);refine F.okX (k:=q+8) scFO (by walk_at "v") (λcdv A outer s H vs Q E hr=>?_);walk_at "x";rename_i g_ hg_ F fF r v g cF s;rintro⟨rfl,h⟩;subst hg_;obtain⟨CF,B⟩:=hfle g.n h.1.nb h.1.np;have hrc:=hr.mono (show 8<=q+8 by omega);have hrq:=hr.mono (show q<=q+8 by omega);refine⟨_,(zac (za1 (zan zbi (zba (r:=rIxT K) za6 (pv 1) (zae) (λ_ _=>Z)) (zas) (nomark _)) (zaf (zap (pe_m m_Con (pv 0) hrc zaw .nil ((zaa (pe_m B.made (za2 (K:=K) rfl (pv 0) rfl) hrc zax .nil ((zaa (zba (r:=rIxT K) za6 (pv 1) (zae) (λ_ _=>Z)) (zaa (zba (r:=rIxT K) za6 (pv 1) (zae) (λ_ _=>Z)) zai)))) zai))))) zat)
  (zac (za1 (zan zbi (zba (r:=rIxT K) za6 (pv 1) (zae) (λ_ _=>Z)) (zas) (nomark _)) (zaf (zap (zjs hrc.units0 (pe_c c_Alone hrc zaw .nil ((zaa (za2 (K:=K) rfl (pv 0) rfl) (zaa (zba (r:=rIxT K) za6 (pv 1) (zae) (λ_ _=>Z)) (zaa (zba (r:=rIxT K) za6 (pv 1) (zae) (λ_ _=>Z)) zai))))) (zcg B.one (za2 (K:=K) rfl (pv 0) rfl) hrc zaw .nil)))) zat)
  (zaf (zap (pe_c (hk:=Yi _) cS hrq zax .nil ((zaa (pv 0) (zaa (zba (r:=rIxT K) za6 (pv 1) (zae) (λ_ _=>Z)) zai)))))))),?_⟩
 obtain⟨hR,fv,s3,l18,kx,k⟩:=h;obtain⟨dx,hr0⟩:=hR.at_;have hf:=hR.fd;obtain⟨dF,hF⟩:=B.ins hf;rcases zw6 fv with⟨q,rfl,_,lv1,⟨a,b,hq,la,lb,bb⟩ | ⟨k0,e,hq,hk0,bt0⟩⟩ | ⟨n',q,l,s',en,rfl,hq,pv,eb,es,el⟩
 ·refine⟨_,Z,q,_,_,_,Z,Z,SqT.of hq,Z,Z,_,Z,?_⟩;rw[Yo rfl];refine iteT ⟨_,Z,r,dx,_,Z,hr0,no_G _ (by decide +kernel) (by decide +kernel) (by decide +kernel),_,Z,r,zau,dx,_,_,Z,hr0,T.cl_Ring,T.na_Ring_field,Z,g.pf,dF,_,Z,hF,no_P _ _ (by decide +kernel),_,Z,q,_,_,_,Z,Z,SqT.of hq,Z,_,Z,q,_,_,_,Z,Z,SqT.of hq,Z,F,fF,cF,g.pf,_,_,Z,hf,?_,λz=>kx ?_ H (Same.refl _),λnz x v H1 hx e1 hv=>?_⟩
  ·rw[Int.natAbs_natCast];exact Yp lb (zmc (by omega))
  ·rcases bb with⟨b1,_⟩ | bb
   ·subst b1;exact absurd z (zr_1 hR.np)
   ·rw[bb];exact⟨b,by simp,z⟩
  ·have nb:¬bad g.n s.bt:=fun⟨b',hb',z⟩=>by
    rcases bb with⟨_,bb⟩ | bb
    ·rw[bb]at hb';cases hb'
    ·rw[bb]at hb';rw[Yq.mp hb']at z;exact nz z
   have b0:(b:Int)≠0:=λz=>nz (by rw[z];exact zr_z hR.np)
   refine⟨F,fF,r,v,g,cF,x,Z,hR.same e1,hv,λd H' kvs nd e hd pf l=>k nb d H' kvs _ (e1.free nd) (e1.trans e) hd pf (zua b0 hx (by rw[Int.natAbs_natCast];exact la) (by rw[Int.natAbs_natCast];exact lb)) (by rw[lv1];omega)⟩
 ·refine⟨_,Z,q,_,_,_,Z,Z,SqT.of hq,Z,Z,_,Z,?_⟩;rw[Yw (by decide +kernel)];refine iteF ⟨_,Z,q,_,_,_,Z,Z,SqT.of hq,Z,Z,_,Z,?_⟩;rw[Yo rfl];refine iteT λd nd=>?_
  have e1:Same H (upd H d (.dT [])):=Same.upd nd;have d1:(upd H d (HO.dT [])) d=some (.dT []):=zah;generalize upd H d (HO.dT [])=H1 at e1 d1 ⊢;have m1:=hR.m1;have m4:=hR.m4;refine⟨_,Z,r,zau,dx,_,_,Z,e1 _ _ hr0,T.cl_Ring,T.na_Ring_many,Z,_,Z,q,_,_,_,Z,Z,SqT.of (e1 _ _ hq),Z,_,Z,q,_,_,_,Z,Z,SqT.of (e1 _ _ hq),Z,g.m,k0,e,Z,by omega,by omega,by omega,λt H2 e2 ht=>?_⟩;rw[Y1,Y1]at ht;have f2:=e1.trans e2;refine⟨_,Z,r,zau,dx,_,_,Z,f2 _ _ hr0,T.cl_Ring,T.na_Ring_field,Z,g.pf,dF,_,Z,f2 _ _ hF,no_P _ _ (by decide +kernel),F,fF,cF,g.pf,Z,zex (.of f2) hf,λv H3 e3 hv=>?_⟩;rw[zhg]at hv;refine⟨t,ky (only g.m k0 e),Z,e3 _ _ (e2 _ _ d1),by rw[zm1];exact e3 _ _ ht,?_⟩;have g3:Same H (upd H3 d (.dT [(ky (only g.m k0 e),v)])):=(f2.trans e3).updR nd;have nb:¬bad g.n s.bt:=fun⟨b',hb',_⟩=>by rw[bt0]at hb';cases hb'
  refine k nb d _ _ (mo (only g.m k0 e) 1) nd g3 zah (zvu (hv.keep λb xs hb=>?_) (zuc hk0) (λz=>Lean.Grind.Field.zero_ne_one z.symm)) (zua (a:=1) (b:=1) (by decide) (by rw[zhg];grind) (Nat.one_le_pow _ _ (by decide)) (Nat.one_le_pow _ _ (by decide))) (by rw[lv1];show 1+1<=2^1;decide);rw[zar (zf2 hb (e3 _ _ (e2 _ _ d1)) (by intro z;cases z))];exact hb
 ·refine⟨_,Z,q,_,_,_,Z,Z,SqT.of hq,Z,Z,_,Z,?_⟩;rw[Yw (by decide +kernel)];refine iteF ⟨_,Z,q,_,_,_,Z,Z,SqT.of hq,Z,Z,_,Z,?_⟩;rw[Yw (by decide +kernel)];refine iteF ⟨_,Z,_,Z,q,_,_,_,Z,Z,SqT.of hq,Z,?_⟩;rw[hS n' en];exact⟨F,fF,r,l,g,cF,s',Z,hR,pv,by omega,by omega,λz=>kx (by rw[<- eb];exact z),λz d H' kvs φ nd e hd pf bd ll=>k (by rw[<- eb];exact z) d H' kvs φ nd e hd pf (bd.up es) (by rw[<- el];exact ll)⟩
theorem zwr(F:FunD K "sum_of" "sum_of" zek .none f fd)(m_Con:MCal P w K mg base CX0 4 zau "constant" ["self","number"] [] (ztc zau zad zaj zag zag zag zag))(c_TimP:Cal P w K mg base CX0 6 "times" ["ring","f","g"] [] (zqw zau zad zaj zag zag zag zag))(c_Absorb:Cal P w K mg base CX0 4 "absorb" ["ring","total","f"] [] (zut zau zad zaj zag zag zag zag))(hfle:∀n:Int,n<=9973->(n=0\/Pr n)->∃C,FldE P w K mg base zam C (AtN zad zaj n) n){q n:Nat}(cF0:Cal P w K mg base (CXe P w) q "factor_of" ["ring","factor"] [] (spFO zam zau zad zaj zag zag zag zag n)):FnOk P w K mg base (CXe P w) (q+9) f fd ["ring","parts"] (zic zam zau zad zaj zag zag zag zag n):=by
 have scSum:FnScope ["ring","parts","total","turn","factors","found","factor"] ["ring","parts"] (zak zek):=sM (by decide +kernel);refine F.okX (k:=q+8) scSum (by walk_at "v") (λcdv A outer s H vs Q E hr=>?_);walk_at "x";rename_i g_ hg_ F fF r b g cF s;rintro⟨rfl,h⟩;subst hg_;obtain⟨CF,B⟩:=hfle g.n h.1.nb h.1.np;have hrc:=hr.mono (show 8<=q+8 by omega);have hrq:=hr.mono (show q<=q+8 by omega);obtain⟨tk,M1⟩:=B.made1;refine⟨_,(zac (zav (i:=2) scSum.nd rfl (Or.inl rfl) (zes))
  (zac (zel PassesOwn.leaving rfl (zep (K:=K) rfl (pv 1)) (zh3 rfl (zb7 (zbj (i:=3) scSum.nd rfl (Or.inl rfl)) (zb7 (zbj (i:=4) scSum.nd rfl (Or.inl rfl)) zfk))) (zac (zav (i:=5) scSum.nd rfl (Or.inl rfl) (pe_m m_Con (pv 0) hrc zaw .nil ((zaa (pe_m M1 (za2 (K:=K) rfl (pv 0) rfl) hrc zax (dvs:=[.int 1]) (.cons ⟨_,Z⟩ .nil) ((zaa (pv 3) zai))) zai))))
  (zac (zel PassesOwn.leaving rfl (zep (K:=K) rfl (pv 4)) (zbj (i:=6) scSum.nd rfl (Or.inl rfl)) (zaf (zav (i:=5) scSum.nd rfl (Or.inl rfl) (pe_c c_TimP hrc zaw .nil ((zaa (pv 0) (zaa (pv 5) (zaa (pe_c (hk:=Yi _) cF0 hrq zax .nil ((zaa (pv 0) (zaa (pv 6) zai)))) zai))))))))
  (zaf (zeh (pe_c c_Absorb hrc zaw .nil ((zaa (pv 0) (zaa (pv 2) (zaa (pv 5) zai))))))))))
  (zaf (zap (pv 2))))),?_⟩
 obtain⟨hR,⟨ys,ss,_,hb,hy,ne,ebt,esg,elv⟩,s3,l18,kx,k⟩:=h;obtain⟨dx,hr0⟩:=hR.at_;have hf:=hR.fd;obtain⟨dF,hF⟩:=B.ins hf;rw[ebt]at kx k;intro d nd0;have e2:Same H (upd H d (.dT [])):=Same.upd nd0;have hd2:(upd H d (HO.dT [])) d=some (.dT []):=zah;dsimp only[za4];generalize upd H d (HO.dT [])=H2 at e2 hd2 ⊢;have ly:=Paired.length hy;have p18:(2:Nat)^18=262144:=by decide
 have sl:1002000<sizeLine:=by rw[sizeLine_eq];decide
 have kpS:∀{H'},Kp [d] H2 H'->∀b o,H b=some o->H' b=some o:=λkp b o hb=>kp _ _ (e2 _ _ hb) (by simp[zaq hb nd0])
 refine⟨_,Z,b,Z,⟨_,SqL.of (e2 _ _ hb)⟩,zd0 (xs:=ys) (λi σ H'=>i<=ss.length/\(∃v3 v4 v5 v6,σ = [some (.ref r),some (.ref b),some (.ref d),v3,v4,v5,v6])/\Kp [d] H2 H'/\(∀x∈ss.take i,¬bad g.n x.bt)/\∃(kv:List (List Key×V)) (φ : Po F),H' d=some (.dT kv)/\PF g.n g.m H' kv φ/\Bd g.n (sgs (ss.take i)+i) φ/\kv.length+1<=2^lvs (ss.take i)) ?_ (λi σ H' _ h=>SqL.of (kpS h.2.2.1 _ _ hb)) ?_ ?_⟩
 ·exact⟨Y2 _,⟨none,none,none,none,Z⟩,Kp.refl _ _,(λx hx=>by simp at hx),[],λ_=>0,hd2,PF.nil,Bd.zero,by simp[lvs]⟩
 ·rintro i x σ H3 hx ⟨hi,⟨v3,v4,v5,v6,rfl⟩,kp3,nb3,kv,φ,hd3,pk,bk,lk⟩;obtain⟨hi',q,b1,tn,rfl,_,hq,htn,zs,fs,_,hb1,hz,nz,fbt,fsg,flv⟩:=zma hy hx;have e3:Same H H3:=kpS kp3;have ai:=zxl hi';have lz:=Paired.length hz;refine⟨q,_,rfl,SqT.of (e3 _ _ hq),rfl,_,_,rfl,_,_,rfl,rfl,?_⟩;refine sab λrr hrr=>?_
  refine⟨_,Z,r,dx,_,Z,e3 _ _ hr0,no_G _ (by decide +kernel) (by decide +kernel) (by decide +kernel),_,Z,r,zau,dx,_,_,Z,e3 _ _ hr0,T.cl_Ring,T.na_Ring_field,Z,g.pf,dF,_,Z,e3 _ _ hF,no_P _ _ (by decide +kernel),_,Z,F,fF,cF,g.pf,_,1,Z,zex (.of e3) hf,Nat.one_lt_two_pow (by decide),λz=>absurd z (zr_1 hR.np),λ_ x v H4 hx e4 hv4=>?_⟩;have hx1:=hx;rw[zhg]at hx;refine⟨F,fF,r,v,g,cF,_,Z,hR.same (e3.trans e4),hv4,λf0 H5 kv5 nf0 e5 hf0 p5 l5=>?_⟩;dsimp only[za4];subst hrr;have e35:=e4.trans e5;have nf3:H3 f0=none:=e4.free nf0;refine sab λrr hrr=>?_
  refine⟨_,Z,b1,Z,⟨_,SqL.of (e35 _ _ (e3 _ _ hb1))⟩,zd0 (xs:=zs) (λj σ H'=>j<=fs.length/\(∀x∈fs.take j,¬bad g.n x.bt)/\∃(v6:Option V) (f1:Addr) (kv1:List (List Key×V)) (ψ : Po F),σ = [some (.ref r),some (.ref b),some (.ref d),some (.int tn),some (.ref b1),some (.ref f1),v6]/\H3 f1=none/\Same H3 H'/\H' f1=some (.dT kv1)/\PF g.n g.m H' kv1 ψ/\Bd g.n (sgs (fs.take j)) ψ/\((j=0/\kv1.length<=1)\/kv1.length+1<=2^lvs (fs.take j))) ?_ (λj σ H' _ h=>?_) ?_ ?_⟩
  ·exact⟨Y2 _,(λx hx=>by simp at hx),_,f0,kv5,_,Z,nf3,e35,hf0,p5,zua (by decide) hx1 (by rcases htn with z | z <;> rw[z] <;> exact Nat.one_le_pow _ _ (by decide)) (Nat.one_le_pow _ _ (by decide)),.inl ⟨Z,l5⟩⟩
  ·obtain⟨_,_,_,_,_,_,_,_,e,_⟩:=h;exact SqL.of (e _ _ (e3 _ _ hb1))
  ·rintro j x σ H6 hx ⟨hj,nb6,v6,f1,kv1,ψ,rfl,nf1,e6,hf1,p1,bd1,l1⟩;obtain⟨hj',hfc⟩:=zma hz hx;have e06:=e3.trans e6;have aj:=zxl hj';have sj:=zud hj';have lj:=zuq hj';have sj2:=znd fs (j+1);have lj2:=zmn fs (j+1);refine⟨_,rfl,_,rfl,_,rfl,_,rfl,F,fF,r,x,g,cF,fs[j],rfl,hR.same e06,hfc.keep (λa o _ ho=>⟨trivial,e06 _ _ ho⟩),by omega,by omega,λz H' e'=>kx (zrh hi' (by rw[fbt];exact zrh hj' z)) H' (e06.trans e'),λz d7 H7 kv7 φ7 nd7 e7 hd7 p7 bd7 l7=>?_⟩;have hf7:=e7 _ _ hf1;have ne7:f1≠d7:=λz=>by rw[<- z,hf1]at nd7;cases nd7
   have l18':2^lvs (fs.take (j+1))<=2^18:=Yv (by decide) (by omega);have l7':2^fs[j].lv<=2^18:=Yv (by decide) (by omega);have lm:=zvm kv1.length kv7.length;have b8:(kv1.length+1)*(kv7.length+1)<=1000000:=by
    rcases l1 with⟨_,l1⟩ | l1
    ·have:=Y4 (kv7.length+1) (show kv1.length+1<=2 by omega);omega
    ·have:=znw l1 l7;rw[<- lj]at this;omega
   refine⟨F,fF,r,f1,d7,g,cF,kv1,kv7,ψ,φ7,_,_,Z,hR.same (e06.trans e7),ne7,hf7,hd7,p1.same e7,p7,b8,bd1,bd7,by omega,λd8 H8 kv8 nd8 e8 hd8 p8 bd8 l8=>?_⟩;have g8:=e6.trans (e7.trans e8);refine⟨hj',λy hy=>?_,_,d8,kv8,_,Z,(e6.trans e7).free nd8,g8,hd8,p8,by rw[sj];exact bd8,.inr ?_⟩
   ·rw[tk1 hj']at hy;rcases Jr.mp hy with hy | hy
    ·exact nb6 y hy
    ·rw[Yq.mp hy];exact z
   ·rcases l1 with⟨j0,l1⟩ | l1
    ·have t0:lvs (fs.take j)=0:=by rw[j0];rfl
     have:=Y4 kv7.length l1;rw[lj,t0,Nat.zero_add];omega
    ·have:=znw l1 l7;rw[lj];omega
  ·rintro σ H6 ⟨_,nb6,v6,f1,kv1,ψ,rfl,nf1,e6,hf1,p1,bd1,l1⟩;rw[<- lz,List.take_length]at nb6 bd1 l1;show rr _ _ _;subst hrr;have ne1:d≠f1:=λz=>by rw[<- z,hd3]at nf1;cases nf1
   have nzl:fs.length≠0:=λz=>nz (Ja.mp (by omega))
   have l1':kv1.length+1<=2^ss[i].lv:=by
    rcases l1 with⟨z,_⟩ | l1
    ·omega
    ·rw[<- flv];exact l1
   have bd1':=bd1.up fsg;have si:=zud hi';have li:=zuq hi';have si2:=znd ss (i+1);have li2:=zmn ss (i+1);have ssl:ss.length<=301:=by omega
   have q18:2^lvs (ss.take (i+1))<=2^18:=Yv (by decide) (by omega);have pm:=znw lk l1';rw[<- li]at pm;have lm:=zvm kv.length kv1.length;refine⟨_,Z,_,Z,_,Z,F,fF,r,d,f1,g,cF,kv,kv1,_,_,Z,hR.same (e3.trans e6),ne1,e6 _ _ hd3,hf1,pk.same e6,p1,by omega,bk.lim (by omega),bd1'.lim (by omega),λH9 kv9 kp9 hd9 p9 l9=>?_⟩;refine⟨hi',⟨_,_,_,_,Z⟩,(kp3.tr (.of e6)).tr kp9,λy hy=>?_,kv9,_,hd9,p9,?_,?_⟩
   ·rw[tk1 hi']at hy;rcases Jr.mp hy with hy | hy
    ·exact nb3 y hy
    ·rw[Yq.mp hy,fbt];intro z;obtain⟨f,hf,q⟩:=zrb z;exact nb6 f hf q
   ·exact(bk.add bd1').up (by omega)
   ·omega
 ·rintro σ H3 ⟨_,⟨v3,v4,v5,v6,rfl⟩,kp3,nb3,kv,φ,hd3,pk,bk,lk⟩;rw[<- ly,List.take_length]at nb3 bk lk;exact⟨_,rfl,k (λz=>by obtain⟨f,hf,q⟩:=zrb z;exact nb3 f hf q) d H3 kv φ nd0 (kpS kp3) hd3 pk (bk.up esg) (by rw[<- elv];exact lk)⟩
theorem zk2(F:FunD K "letters" "Ring.letters" zcy .none f fd)   : FnOk P w K mg base CX0 1 f fd ["self"] (zib zau):=by
 have scLetters:FnScope ["self"] ["self"] (zak zcy):=sM (by decide +kernel);refine F.okN (k:=0) scLetters (by walk_at "v") (λcdv A outer s H vs Q E hr=>?_);walk_at "x";rename_i g_ hg_ r m pf po;rintro⟨rfl,h⟩;subst hg_;refine⟨_,(zaf (zap (za9 zb9 (zdy T.g_LETTERS rfl) zbr (zbd (za2 (K:=K) rfl (pv 0) rfl))))),?_⟩;obtain⟨⟨dx,hr0⟩,m1,m2,k⟩:=h;walk_at "rd";exact⟨r,zau,dx,_,_,Z,hr0,T.cl_Ring,T.na_Ring_many,Z,m,Z,_,Z,zgx m1 m2,k⟩
theorem zsx(F:FunD K "read" "read" zlx .none f fd)(m_Ws:MCal P w K mg base (CXe P w) 131 zab "whole_sum" ["self"] [] (spWs zab zal))(m_Letters:MCal P w K mg base CX0 1 zau "letters" ["self"] [] (zib zau))(k_RI:Mak P w K mg base CX0 1 "Reader" zab ["self","unknowns","text"] [] (spRI zab))(x_NoText:Exc K mg base "NoText" zal)(cS0:Cal P w K mg base (CXe P w) 200 "sum_of" ["ring","parts"] [] (zic zam zau zad zaj zag zag zag zag 8)):FnOk P w K mg base (CXe P w) 202 f fd ["ring","text"] (zrf zal zam zau zad zaj zag zag zag zag):=by
 have scRead:FnScope ["ring","text"] ["ring","text"] (zak zlx):=sM (by decide +kernel);refine F.okX (k:=201) scRead (by walk_at "v") (λcdv A outer s H vs Q E hr=>?_);walk_at "x";rename_i g_ hg_ r x g;rintro⟨rfl,h⟩;subst hg_;refine⟨_,(zac (za1 (zan zg7 (za5 zbl rfl T.b_len PySem.boot_len ((zaa (pv 1) zai))) (zd1 T.g_MOST_SIGNS rfl) (nomark _)) (zaf (zf3 x_NoText rfl rfl za3 ((zaa (zas) zai)))) zat)
  (zaf (zap (pe_c cS0 hr zax .nil ((zaa (pv 0) (zaa (zcg m_Ws (zt6 k_RI hr zaw .nil ((zaa (zcg m_Letters (pv 0) hr zaw .nil) (zaa (pv 1) zai)))) hr zax .nil) zai))))))),?_⟩
 obtain⟨hR,xl,st,kt,ko,k⟩:=h;obtain⟨dx,hr0⟩:=hR.at_;have m1:=hR.m1;have m4:=hR.m4;have sl:1002000<sizeLine:=by rw[sizeLine_eq];decide
 refine⟨_,Z,x,Z,by omega,_,_,Z,Z,_,Z,cD (λc=>?_) (λc=>?_)⟩
 ·exact⟨(by show 1<=sizeLine;decide),kt (.inl (by omega)) H (Same.refl _)⟩
 have x3:x.length<=300:=by omega
 obtain⟨F,fF,cF⟩:=zw3 g.n hR.np;refine⟨_,Z,_,Z,r,dx,_,Z,hr0,no_G _ (by decide +kernel) (by decide +kernel) (by decide +kernel),r,g.m,g.pf,g.po,Z,⟨dx,hr0⟩,by omega,by omega,_,Z,λp dp np ndp ne=>?_⟩;refine⟨p,dp,_,x,Z,zah,x3,ul4 m1 m4,λH2 kp2 hp2=>⟨Z,?_⟩⟩;have ef:=ze8 x;have e2:∀{H3},Kp [p] H2 H3->Same H H3:=fun{H3} kp3 b o hb=>by
  have n1:=zaq hb np;refine kp3 _ _ (kp2 _ _ ?_ (by simp[n1])) (by simp[n1]);rw[zar n1,zar (zaq hb ndp)];exact hb
 refine⟨p,dp,_,Z,hp2.at_,zb1 _ (by decide +kernel),p,dp,_,g.m,Z,hp2,m1,m4,by rw[ef];exact zwf _,λz H3 kp3=>kt (.inr (by rw[<- ef];exact z)) H3 (e2 kp3),λH3 b s kp3 az sg0 bt lv pv=>?_⟩;rw[ef]at az bt lv;have e3:=e2 kp3;exact⟨F,fF,r,b,g,cF,s,Z,hR.same e3,pv.keep (λa o _ ho=>⟨trivial,ho⟩) (λ_ _ q=>q.keep λa o _ ho=>⟨trivial,ho⟩),sg0,by omega,λz H' e=>ko x3 az (by rw[bt];exact z) H' (e3.trans e),λz d H' kvs φ nd e hd _ _ _=>k x3 az (by rw[bt];exact z) d H' kvs (e3.trans e) hd⟩
theorem zsp(F:FunD K "_law_cell_at" "_law_cell_at" zcz .none f fd)   : FnOk P w K mg base CX0 1 f fd ["_law_script","_law_k"] (zrp K):=by
 have scCell:FnScope ["_law_script","_law_k"] ["_law_script","_law_k"] (zak zcz):=sM (by decide +kernel);refine F.okN (k:=0) scCell (by walk_at "v") (λcdv A outer s H vs Q E hr=>?_);walk_at "x";rename_i g_ hg_ a ns k;rintro⟨rfl,h⟩;subst hg_;refine⟨_,(zac (za1 (zan zfy (pv 1) (za5 (zhx (K:=K) rfl) rfl T.b_len PySem.boot_len ((zaa (pv 0) zai))) (nomark _)) (zaf (zap (zba (r:=rIxL K) zed (pv 0) (pv 1) (λ_ _=>Z)))) zat)
  (zaf (zap (zae)))),?_⟩
 obtain⟨hS,h0,q⟩:=h;have hl:(ns.map V.int).length=ns.length:=Yd _;refine⟨_,Z,_,Z,a,_,Z,.inl hS,?_⟩;walk_at "rd";refine cD (λc=>?_) (λc=>?_)
 ·rw[hl]at c;exact⟨_,Z,_,Z,a,_,_,_,Z,Z,hS,zsb h0 c,q⟩
 ·rw[hl]at c;have e:zfh ns k=0:=by unfold zfh;rw[List.getD_eq_getElem?_getD,Yy (by omega)];rfl
  rw[e]at q;exact q
theorem zm4(F:FunD K "_law_is_prime" "_law_is_prime" zcn .none f fd)   : FnOk P w K mg base CX0 1 f fd ["_law_number"] zjo:=by
 have scLPrime:FnScope ["_law_number","_law_by"] ["_law_number"] (zak zcn):=sM (by decide +kernel);refine F.okN (k:=0) scLPrime (by walk_at "v") (λcdv A outer s H vs Q E hr=>?_);walk_at "x";rename_i g_ hg_ n;rintro⟨rfl,h⟩;subst hg_;refine⟨_,(zac (zav (i:=1) scLPrime.nd rfl (Or.inl rfl) (zae))
  (zac (zck PassesOwn.never (zan zpi (zao zhn (pv 1) (pv 1)) (pv 0) (nomark _)) (zac (za1 (zan zbi (zao zfx (pv 0) (pv 1)) (zae) (nomark _)) (zaf (zap (zcw))) zat)
  (zaf (zav (i:=1) scLPrime.nd rfl (Or.inl rfl) (zao zb2 (pv 1) (zae))))))
  (zaf (zap (zcw))))),?_⟩
 obtain⟨hn2,hn,k⟩:=h;refine⟨λm σ H'=>∃d:Int,m=(200-d).toNat/\σ = [some (.int n),some (.int d)]/\H'=H/\2<=d/\d<=101/\NoDiv n d,⟨_,2,Z,Z,Z,K3.start n⟩,?_⟩;rintro m σ H' ⟨d,rfl,rfl,rfl,h2,h3,hd⟩;refine⟨_,Z,_,Z,_,_,Z,Z,.inl (zjq (n:=n) h2 h3),?_⟩;walk_at "rd";refine cD (λq=>?_) (λq=>?_)
 ·refine⟨λσ' H''=>σ'=[some (.int n),some (.int (d+1))]/\H''=H'/\¬Int.fmod n d=0,?_,?_⟩
  ·rintro σ' H'' ⟨rfl,rfl,nz⟩;exact⟨(200-(d+1)).toNat,K3.less h2 q hn,d+1,rfl,rfl,rfl,K3.turn hd nz h2 q hn⟩
  ·refine⟨_,Z,_,Z,_,_,Z,Z,(by show d≠0;omega),?_⟩;walk_at "rd";refine cEq (λz=>?_) (λz=>?_)
   ·show Q (.bl false) H';rw[found h2 q z];exact k
   ·walk_at "rd"
    exact z
 ·show Q (.bl true) H';rw[K3.out hd hn2 h2 q];exact k
theorem zs5(F:FunD K "_law_field" "_law_field" zds .none f fd)(k_RestsInit:Mak P w K mg base (CXe P w) 2 "Rests" zaj ["self","prime"] [] (zme zaj zb0))(k_FracInit:Mak P w K mg base CX0 2 "Fractions" zad ["self"] [] (zgc zad)):FnOk P w K mg base CX0 5 f fd ["_law_p"] (zq7 zad zaj):=by
 have scLFld:FnScope ["_law_p"] ["_law_p"] (zak zds):=sM (by decide +kernel);refine F.okN (k:=4) scLFld (by walk_at "v") (λcdv A outer s H vs Q E hr=>?_);walk_at "x";rename_i g_ hg_ n;rintro⟨rfl,h⟩;subst hg_;refine⟨_,(zac (za1 (zan zg7 (pv 0) (zae) (nomark _)) (zaf (zap (zt6 k_RestsInit hr zw5 .nil ((zaa (pv 0) zai))))) zat)
  (zaf (zap (zu0 k_FracInit hr zaw .nil)))),?_⟩
 obtain⟨n2,n1,k⟩:=h;walk_at "rd";refine cD (λc=>?_) (λc=>?_)
 ·have hp:Pr n:=n2.resolve_left (by omega);refine⟨_,Z,λx dx nx ndx ne=>?_⟩;refine⟨x,dx,n,Z,zah,.inl ⟨n1,ztw hp,Z,?_⟩⟩;refine k x _ (λb o e=>?_) ?_
  ·rw[zar (zaq e nx),zar (zaq e nx),zar (zaq e ndx)];exact e
  ·unfold AtN;rw[Yh (by omega)];exact⟨dx,zah,hp,n1⟩
 ·have n0:n=0:=by
   rcases n2 with z | z
   ·exact z
   ·have:=z.1;omega
  subst n0;intro x dx nx ndx ne;refine⟨x,dx,Z,zah,Z,?_⟩;refine k x _ (λb o e=>?_) ?_
  ·rw[zar (zaq e nx),zar (zaq e nx),zar (zaq e ndx)];exact e
  ·unfold AtN;rw[Yl rfl];exact⟨dx,zah⟩
theorem zw1(F:FunD K "_law_prime" "_law_prime" zdn .none f fd)(c_LPrime:Cal P w K mg base CX0 1 "_law_is_prime" ["_law_number"] [] zjo):FnOk P w K mg base CX0 2 f fd ["_law_cell"] zxp:=by
 have scLPr:FnScope ["_law_cell","_law_number"] ["_law_cell"] (zak zdn):=sM (by decide +kernel);refine F.okN (k:=1) scLPr (by walk_at "v") (λcdv A outer s H vs Q E hr=>?_);walk_at "x";rename_i g_ hg_ c;rintro⟨rfl,h⟩;subst hg_;refine⟨_,(zac (za1 (zan zbi (zao zaz (pv 0) (zae)) (zae) (nomark _)) (zaf (zap (zae))) zat)
  (zac (zav (i:=1) scLPr.nd rfl (Or.inl rfl) (zao zb2 (zae) (zao zaz (zao zbc (pv 0) (zae)) (zba (r:=rIxL K) zed (zd4 ((zaa (zae) (zaa (zae) (zaa (zae) (zaa (zae) zai)))))) (zao zaz (pv 0) (zae)) (λ_ _=>Z)))))
  (zac (zck PassesOwn.never (zfs (zc6 (pe_c c_LPrime hr zaw .nil ((zaa (pv 1) zai))))) (zaf (zav (i:=1) scLPr.nd rfl (Or.inl rfl) (zao zkf (pv 1) (zae)))))
  (zaf (zap (pv 1)))))),?_⟩
 have k:=h;walk_at "rd";refine cEq (λc0=>?_) (λc0=>?_)
 ·exact k 0 H (Same.refl _) (.inl rfl) (by decide)
 refine⟨_,Z,_,_,Z,Z,⟨by decide,by decide⟩,(by show 4<=sizeLine;decide),λl hl=>?_⟩;obtain⟨v,v1,v2,hv⟩:=tab4 (r:=c%4) (by omega) (by omega);have e1:Same H (upd H l (.lst [.int 1,.int 6,.int 120,.int 9972])):=Same.upd hl;refine⟨_,Z,_,_,Z,Z,(by show (0:Int)<4;decide),l,_,_,_,Z,Z,SqL.of zah,hv,_,_,Z,Z,(by show 0<v;omega),_,_,Z,Z,?_⟩;generalize upd H l (HO.lst [V.int 1,V.int 6,V.int 120,V.int 9972])=H1 at e1;have b0:=Jl (c / 4) (show v≠0 by omega);have b1:=Jd (c / 4) (show 0<v by omega);refine⟨λm σ H'=>∃n:Int,m=n.toNat/\σ = [some (.int c),some (.int n)]/\H'=H1/\2<=n/\n<=9973,⟨_,_,Z,Z,Z,by omega,by omega⟩,?_⟩;rintro m σ H' ⟨n,rfl,rfl,rfl,h2,hn⟩;refine⟨_,Z,n,Z,h2,hn,_,Z,?_⟩;refine cNB (λc1=>?_) (λc1=>?_)
 ·refine⟨λσ' H''=>σ'=[some (.int c),some (.int (n-1))]/\H''=H',?_,?_⟩
  ·rintro σ' H'' ⟨rfl,rfl⟩;have n2:n≠2:=λz=>by rw[z,zwn]at c1;cases c1
   exact⟨(n-1).toNat,by omega,n-1,Z,Z,Z,by omega,by omega⟩
  ·walk_at "rd"
   rfl
 ·exact⟨_,Z,k n H' e1 (.inr (zx1 c1)) hn⟩
theorem zv4(F:FunD K "_law_factor" "_law_factor" zdc .none f fd)   : FnOk P w K mg base CX0 1 f fd ["_law_many","_law_cell"] zv8:=by
 have scFct:FnScope ["_law_many","_law_cell","_law_letter"] ["_law_many","_law_cell"] (zak zdc):=sM (by decide +kernel);refine F.okN (k:=0) scFct (by walk_at "v") (λcdv A outer s H vs Q E hr=>?_);walk_at "x";rename_i g_ hg_ m c;rintro⟨rfl,h⟩;subst hg_;refine⟨_,(zac (zav (i:=2) scFct.nd rfl (Or.inl rfl) (zba zge (zas) (zao zaz (zao zbc (pv 1) (zae)) (pv 0)) (λ_ _=>Z)))
  (zac (za1 (zan zfy (zao zaz (pv 1) (zae)) (zae) (nomark _)) (zaf (zap (pv 2))) zat)
  (zac (za1 (zan zfy (zao zaz (pv 1) (zae)) (zae) (nomark _)) (zaf (zap (zao zay (zao zay (pv 2) (zas)) (zbh zbs rfl T.b_str (by kernel_rfl) ((zaa (zao zaz (zao zbc (pv 1) (zae)) (zae)) zai)))))) zat)
  (zac (za1 (zan zfy (zao zaz (pv 1) (zae)) (zae) (nomark _)) (zaf (zap (zbh zbs rfl T.b_str (by kernel_rfl) ((zaa (zao zaz (zao zbc (pv 1) (zae)) (zao zn6 (zae) (zae))) zai))))) zat)
  (zac (za1 (zan zfy (zao zaz (pv 1) (zae)) (zae) (nomark _)) (zaf (zap (zao zay (zao zay (zbh zbs rfl T.b_str (by kernel_rfl) ((zaa (zao zaz (zao zbc (pv 1) (zae)) (zae)) zai))) (zas)) (zbh zbs rfl T.b_str (by kernel_rfl) ((zaa (zao zb2 (zae) (zao zaz (zao zbc (pv 1) (zae)) (zae))) zai)))))) zat)
  (zac (za1 (zan zbi (zao zaz (pv 1) (zae)) (zae) (nomark _)) (zaf (zap (zao zdb (zas) (zao zb2 (zae) (zao zaz (zao zbc (pv 1) (zae)) (zae)))))) zat)
  (zac (za1 (zan zbi (zao zaz (pv 1) (zae)) (zae) (nomark _)) (zaf (zap (zba (r:=rIxL K) zed (zd4 ((zaa (zba zge (zas) (zao zaz (zao zbc (pv 1) (zae)) (zae)) (λ_ _=>Z)) (zaa (zao zay (zas) (zbh zbs rfl T.b_str (by kernel_rfl) ((zaa (zao zaz (zao zbc (pv 1) (zae)) (zae)) zai)))) zai)))) (zao zaz (zao zbc (pv 1) (zae)) (zae)) (λ_ _=>Z)))) zat)
  (zaf (zap (zba (r:=rIxL K) zed (zd4 ((zaa (zao zay (zao zay (pv 2) (zas)) (zbh zbs rfl T.b_str (by kernel_rfl) ((zaa (zao zaz (zao zbc (pv 1) (zae)) (zae)) zai)))) (zaa (pv 2) zai)))) (zao zaz (zao zbc (pv 1) (zae)) (zae)) (λ_ _=>Z))))))))))),?_⟩
 obtain⟨m1,m4,k⟩:=h;have sz:=sizeLine_eq;have i0:=Jl (c / 16) (show (m:Int)≠0 by omega);have i1:=Jd (c / 16) (show 0<(m:Int) by omega);obtain⟨a,ea,wa⟩:=znn (c / 16%(m:Int)).toNat (by omega);have wl:Wd ⟨#[a]⟩ 1:=⟨λx hx=>by rw[show x=a by simpa using hx];exact wa,Yi 1⟩;have wc:Wd "^" 1:=zko _ _ (by decide +kernel);have ws:Wd "/" 1:=zko _ _ (by decide +kernel);have lc:=wc.l;have ls:=ws.l;have ll:(⟨#[a]⟩:Str).length=1:=rfl;refine sab λrr hrr=>?_
 refine⟨_,Z,_,_,Z,Z,⟨by decide,by decide⟩,_,Z,_,_,Z,Z,(by show (0:Int)<m;omega),"xyzt",_,a,Z,Z,(by decide +kernel),?_,?_⟩
 ·have:c / 16%(m:Int)=(((c / 16%(m:Int)).toNat:Nat):Int):=by omega
  rw[this];exact zdw ea
 dsimp only[za4];subst hrr;refine⟨_,Z,_,_,Z,Z,(by show (0:Int)<16;decide),_,_,Z,Z,_,Z,cD (λc1=>⟨_,Z,k _ H (Same.refl _) (wl.up (by decide))⟩) (λc1=>?_)⟩;refine⟨_,Z,_,_,Z,Z,(by show (0:Int)<16;decide),_,_,Z,Z,_,Z,cD (λc2=>?_) (λc2=>?_)⟩
 ·have w1:Wd (sI (c / 16%100)) 2:=zky (by omega) (by omega);have l1:=w1.l;exact⟨_,Z,_,_,Z,Z,zfo wl wc (by decide),_,Z,_,_,Z,Z,⟨by decide,by decide⟩,_,_,Z,Z,(by show (0:Int)<100;decide),_,Z,zev (by omega) (by omega),_,_,Z,Z,zfo (wl.app wc) w1 (by decide),k _ H (Same.refl _) (((wl.app wc).app w1).up (by decide))⟩
 refine⟨_,Z,_,_,Z,Z,(by show (0:Int)<16;decide),_,_,Z,Z,_,Z,cD (λc3=>?_) (λc3=>?_)⟩
 ·have w1:Wd (sI (c / 16%10^12)) 12:=zky (by omega) (by omega);exact⟨_,Z,_,_,Z,Z,⟨by decide,by decide⟩,_,_,Z,Z,⟨by decide,by decide,by decide⟩,_,_,Z,Z,(by show (0:Int)<10^12;decide),_,Z,zev (Jl _ (by decide)) (Jd _ (by decide)),k _ H (Same.refl _) (w1.up (by decide))⟩
 refine⟨_,Z,_,_,Z,Z,(by show (0:Int)<16;decide),_,_,Z,Z,_,Z,cD (λc4=>?_) (λc4=>?_)⟩
 ·have w1:Wd (sI (c / 16%1000)) 3:=zky (by omega) (by omega);have w2:Wd (sI (1+c / 32%12)) 2:=zky (by omega) (by omega);have l1:=w1.l;have l2:=w2.l;exact⟨_,Z,_,_,Z,Z,⟨by decide,by decide⟩,_,_,Z,Z,(by show (0:Int)<1000;decide),_,Z,zev (by omega) (by omega),_,_,Z,Z,zfo w1 ws (by decide),_,Z,_,_,Z,Z,⟨by decide,by decide⟩,_,_,Z,Z,(by show (0:Int)<12;decide),_,_,Z,Z,_,Z,zev (by omega) (by omega),_,_,Z,Z,zfo (w1.app ws) w2 (by decide),k _ H (Same.refl _) (((w1.app ws).app w2).up (by decide))⟩
 refine⟨_,Z,_,_,Z,Z,(by show (0:Int)<16;decide),Z,_,Z,cEq (λc5=>?_) (λc5=>?_)⟩
 ·exact⟨_,Z,_,_,Z,Z,⟨by decide,by decide⟩,_,_,Z,Z,(by show (0:Int)<33;decide),_,_,Z,Z,_,_,Z,Z,by decide +kernel,by omega,by omega,k _ H (Same.refl _) (zxi (zko "7" 1 (by decide +kernel)).w (by omega) (by rw[show ("7" : Str).length=1 by decide +kernel];omega))⟩
 refine⟨_,Z,_,_,Z,Z,(by show (0:Int)<16;decide),Z,_,Z,cEq (λc6=>?_) (λc6=>?_)⟩
 ·obtain⟨a2,ea2,wa2⟩:=znn (c / 64%4).toNat (by omega);have wl2:Wd ⟨#[a2]⟩ 1:=⟨λx hx=>by rw[show x=a2 by simpa using hx];exact wa2,Yi 1⟩;have w1:Wd (sI (c / 64%4)) 1:=zky (k:=0) (by omega) (by omega);have wo:Wd "1/" 2:=zko _ _ (by decide +kernel);have l1:=w1.l;have l2:=wo.l;refine⟨_,Z,_,_,Z,Z,⟨by decide,by decide⟩,_,_,Z,Z,(by show (0:Int)<4;decide),"xyzt",_,a2,Z,Z,(by decide +kernel),?_,_,Z,_,_,Z,Z,⟨by decide,by decide⟩,_,_,Z,Z,(by show (0:Int)<4;decide),_,Z,zev (by omega) (by omega),_,_,Z,Z,zfo wo w1 (by decide),(by show 2<=sizeLine;decide),λq nq=>?_⟩
  ·have:c / 64%4=(((c / 64%4).toNat:Nat):Int):=by omega
   rw[this];exact zdw ea2
  have e1:Same H (upd H q (.lst [.str ⟨#[a2]⟩,.str ("1/" ++ sI (c / 64%4))])):=Same.upd nq;rcases(by omega:c / 16%2=0\/c / 16%2=1) with z | z
  ·exact⟨_,Z,_,_,Z,Z,⟨by decide,by decide⟩,_,_,Z,Z,(by show (0:Int)<2;decide),q,_,_,_,Z,Z,SqL.of zah,by rw[z];rfl,k _ _ e1 (wl2.up (by decide))⟩
  ·exact⟨_,Z,_,_,Z,Z,⟨by decide,by decide⟩,_,_,Z,Z,(by show (0:Int)<2;decide),q,_,_,_,Z,Z,SqL.of zah,by rw[z];rfl,k _ _ e1 ((wo.app w1).up (by decide))⟩
 have w1:Wd (sI (c / 64%130)) 3:=zky (by omega) (by omega);have l1:=w1.l;refine⟨_,Z,_,_,Z,Z,zfo wl wc (by decide),_,Z,_,_,Z,Z,⟨by decide,by decide⟩,_,_,Z,Z,(by show (0:Int)<130;decide),_,Z,zev (by omega) (by omega),_,_,Z,Z,zfo (wl.app wc) w1 (by decide),_,Z,(by show 2<=sizeLine;decide),λq nq=>?_⟩;have e1:Same H (upd H q (.lst [.str (⟨#[a]⟩ ++ "^" ++ sI (c / 64%130)),.str ⟨#[a]⟩])):=Same.upd nq;rcases(by omega:c / 16%2=0\/c / 16%2=1) with z | z
 ·exact⟨_,Z,_,_,Z,Z,⟨by decide,by decide⟩,_,_,Z,Z,(by show (0:Int)<2;decide),q,_,_,_,Z,Z,SqL.of zah,by rw[z];rfl,k _ _ e1 (((wl.app wc).app w1).up (by decide))⟩
 ·exact⟨_,Z,_,_,Z,Z,⟨by decide,by decide⟩,_,_,Z,Z,(by show (0:Int)<2;decide),q,_,_,_,Z,Z,SqL.of zah,by rw[z];rfl,k _ _ e1 (wl.up (by decide))⟩
theorem zvo(F:FunD K "_law_built" "_law_built" zdk .none f fd)(c_Fct:Cal P w K mg base CX0 1 "_law_factor" ["_law_many","_law_cell"] [] zv8):FnOk P w K mg base CX0 2 f fd ["_law_many","_law_cells"] (zxr K):=by
 have scBlt:FnScope ["_law_many","_law_cells","_law_text","_law_opened","_law_cell"] ["_law_many","_law_cells"] (zak zdk):=sM (by decide +kernel);refine F.okN (k:=1) scBlt (by walk_at "v") (λcdv A outer s H vs Q E hr=>?_);walk_at "x";rename_i g_ hg_ m l cs;rintro⟨rfl,h⟩;subst hg_;refine⟨_,(zac (zav (i:=2) scBlt.nd rfl (Or.inl rfl) (zas))
  (zac (zav (i:=3) scBlt.nd rfl (Or.inl rfl) (zae))
  (zac (zel PassesOwn.never rfl (zep (K:=K) rfl (pv 1)) (zbj (i:=4) scBlt.nd rfl (Or.inl rfl)) (zac (za1 (zan zla (pv 2) (zas) (nomark _)) (zaf (zav (i:=2) scBlt.nd rfl (Or.inl rfl) (zao zay (pv 2) (zba (r:=rIxL K) zed (zd4 ((zaa (zas) (zaa (zas) (zaa (zas) (zaa (zas) (zaa (zas) (zaa (zas) zai)))))))) (zao zaz (zao zbc (pv 4) (zae)) (zae)) (λ_ _=>Z))))) (zaf (za1 (zan zbi (zao zaz (zao zbc (pv 4) (zae)) (zae)) (zae) (nomark _)) (zaf (zav (i:=2) scBlt.nd rfl (Or.inl rfl) (zas))) zat)))
  (zac (za1 (zan zbi (zao zaz (pv 4) (zae)) (zae) (nomark _)) (zac (zav (i:=2) scBlt.nd rfl (Or.inl rfl) (zao zay (zao zay (pv 2) (zas)) (zba (r:=rIxL K) zed (zd4 ((zaa (zas) (zaa (zas) zai)))) (zao zaz (zao zbc (pv 4) (zae)) (zae)) (λ_ _=>Z))))
  (zaf (zav (i:=3) scBlt.nd rfl (Or.inl rfl) (zao zb2 (pv 3) (zae))))) zat)
  (zac (zav (i:=2) scBlt.nd rfl (Or.inl rfl) (zao zay (pv 2) (pe_c c_Fct hr zaw .nil ((zaa (pv 0) (zaa (zao zbc (pv 4) (zae)) zai))))))
  (zaf (za1 (PW.pt (zho (zan zbi (zao zaz (pv 4) (zae)) (zae) (nomark _)) (zfm (zan zg7 (pv 3) (zae) (nomark _))))) (zac (zav (i:=2) scBlt.nd rfl (Or.inl rfl) (zao zay (pv 2) (zas)))
  (zaf (zav (i:=3) scBlt.nd rfl (Or.inl rfl) (zao zkf (pv 3) (zae))))) zat))))))
  (zaf (zap (zao zay (pv 2) (zao zdb (zas) (pv 3)))))))),?_⟩
 obtain⟨m1,m4,hS,l14,k⟩:=h;have lp:("(" : Str).length=1:=by decide +kernel
 have lq:(")" : Str).length=1:=by decide +kernel
 have np:Nst ("(" : Str).cps.toList:=zew _ (by decide +kernel);have nq:Nst (")" : Str).cps.toList:=zew _ (by decide +kernel);refine⟨_,Z,l,Z,⟨_,hS⟩,zd0 (xs:=cs.map V.int) (λi σ H'=>Same H H'/\∃(x:Str) (o:Int) (v4:Option V),σ = [some (.int m),some (.ref l),some (.str x),some (.int o),v4]/\Tx x i (50*i)/\0<=o/\o<=i) ?_ (λi σ H' _ h=>h.1.seq hS) ?_ ?_⟩
 ·exact⟨Same.refl _,"",0,none,Z,⟨by decide +kernel,by decide +kernel⟩,by decide,by decide⟩
 ·rintro i v σ H1 hx ⟨e1,x,o,v4,rfl,tx,o0,o1⟩;have hi:i<cs.length:=by
   rcases Jg i cs.length with q | q
   ·exact q
   ·rw[Yy (by rw[Yd];exact q)]at hx;cases hx
  rw[Ym,Yc hi]at hx;injection hx with hx
  subst hx;generalize cs[i]=c;dsimp only[za4];refine zc1 (λσ' H'=>Same H H'/\∃y:Str,σ'=[some (.int m),some (.ref l),some (.str y),some (.int o),some (.int c)]/\Tx y i (50*i+3)) ?_ λN hN=>?_
  rotate_left
  ·refine⟨_,Z,Z,_,Z,cNeV (λc1=>?_) (λc1=>?_)⟩
   ·refine⟨_,Z,(by show 6<=sizeLine;decide),λq nq=>?_⟩;have e2:Same H1 (upd H1 q (.lst [.str "+",.str "-",.str "*",.str " + ",.str " * ",.str "  -"])):=Same.upd nq;have hq:(upd H1 q (HO.lst [V.str "+",V.str "-",V.str "*",V.str " + ",V.str " * ",V.str "  -"])) q=some (.lst [.str "+",.str "-",.str "*",.str " + ",.str " * ",.str "  -"]):=zah;generalize upd H1 q (HO.lst [V.str "+",V.str "-",V.str "*",V.str " + ",V.str " * ",V.str "  -"])=H2 at e2 hq ⊢;obtain⟨y,hy,ny,ly⟩:=tab6 (r:=c / 16%6) (by omega) (by omega);refine⟨_,Z,_,_,Z,Z,⟨by decide,by decide⟩,_,_,Z,Z,(by show (0:Int)<6;decide),q,_,_,_,Z,Z,SqL.of hq,hy,_,_,Z,Z,zld tx (by omega),hN _ _ ⟨e1.trans e2,_,Z,(tx.nst ny).up (Yi _) (by omega)⟩⟩
   ·refine⟨_,Z,_,_,Z,Z,⟨by decide,by decide⟩,_,_,Z,Z,(by show (0:Int)<5;decide),Z,_,Z,cEq (λc2=>?_) (λc2=>?_)⟩
    ·exact hN _ _ ⟨e1,"-",Z,⟨by rw[show stt true ("-" : Str).cps.toList=0 by decide +kernel];exact Y2 _,by rw[show ("-" : Str).length=1 by decide +kernel];omega⟩⟩
    ·exact hN _ _ ⟨e1,x,Z,tx.up (Yi _) (by omega)⟩
  rintro σ' H2 ⟨e2,y,rfl,ty⟩;refine zc1 (λσ' H'=>Same H H'/\∃(z:Str) (o':Int),σ'=[some (.int m),some (.ref l),some (.str z),some (.int o'),some (.int c)]/\Tx z i (50*i+5)/\0<=o'/\o'<=i+1) ?_ λN hN=>?_
  rotate_left
  ·refine⟨_,Z,_,_,Z,Z,(by show (0:Int)<5;decide),Z,_,Z,cEq (λc1=>?_) (λc1=>hN _ _ ⟨e2,y,o,Z,ty.up (Yi _) (by omega),o0,by omega⟩)⟩;refine⟨_,Z,_,_,Z,Z,zld ty (by omega),(by show 2<=sizeLine;decide),λq nq=>?_⟩;have e3:Same H2 (upd H2 q (.lst [.str "",.str "-"])):=Same.upd nq;have hq:(upd H2 q (HO.lst [V.str "",V.str "-"])) q=some (.lst [.str "",.str "-"]):=zah;generalize upd H2 q (HO.lst [V.str "",V.str "-"])=H3 at e3 hq ⊢;obtain⟨z,hz,nz,lz⟩:=tab2 (r:=c / 16%2) (by omega) (by omega);have ty1:=ty.nst np;refine⟨_,Z,_,_,Z,Z,⟨by decide,by decide⟩,_,_,Z,Z,(by show (0:Int)<2;decide),q,_,_,_,Z,Z,SqL.of hq,hz,_,_,Z,Z,zld ty1 (by omega),?_⟩;exact⟨_,Z,_,_,Z,Z,hN _ _ ⟨e2.trans e3,_,o+1,Z,(ty1.nst nz).up (Yi _) (by omega),by omega,by omega⟩⟩
  rintro σ' H3 ⟨e3,z,o',rfl,tz,oo,oi⟩;refine sab λrr hrr=>?_
  refine⟨_,Z,_,Z,_,Z,_,_,Z,Z,⟨by decide,by decide⟩,m,_,Z,m1,m4,λf H4 e4 wf=>?_⟩;have lf:=wf.l;refine⟨_,_,Z,Z,zld tz (by omega),?_⟩;have tf:=(tz.wd wf).up (Yi _) (show 50*i+5+40<=50*i+45 by omega);dsimp only[za4];subst hrr;generalize z++f=zf at tf;have fin:∀b:Bool,b=(decide (c%5=1)&&decide (0<o'))->True:=λ_ _=>trivial
  refine⟨_,Z,_,_,Z,Z,(by show (0:Int)<5;decide),Z,_,Z,cEq (λc1=>?_) (λc1=>?_)⟩
  ·refine⟨_,Z,_,_,Z,Z,_,Z,cD (λc2=>?_) (λc2=>?_)⟩
   ·refine⟨_,Z,_,_,Z,Z,zld tf (by omega),_,Z,_,_,Z,Z,e3.trans e4,_,o'-1,_,Z,(tf.nst nq).up (Yi _) (by omega),by omega,by omega⟩
   ·exact⟨e3.trans e4,_,o',_,Z,tf.up (Yi _) (by omega),oo,by omega⟩
  ·exact⟨e3.trans e4,_,o',_,Z,tf.up (Yi _) (by omega),oo,by omega⟩
 ·rintro σ H1 ⟨e1,x,o,v4,rfl,tx,o0,o1⟩;rw[Yd]at tx o1;have rl:=zg6 (x:=")") o0;rw[lq,Nat.one_mul]at rl;refine⟨_,rfl,_,rfl,_,_,rfl,rfl,by omega,o0,by omega,_,_,rfl,rfl,zld tx (by omega),k _ _ e1 ((tx.nst (zgz nq o0)).up l14 (by omega))⟩
theorem zu5(F:FunD K "_law_sign" "_law_sign" zd9 .none f fd)   : FnOk P w K mg base CX0 1 f fd ["_law_cell"] zwi:=by
 have scSgn:FnScope ["_law_cell","_law_some"] ["_law_cell"] (zak zd9):=sM (by decide +kernel);refine F.okN (k:=0) scSgn (by walk_at "v") (λcdv A outer s H vs Q E hr=>?_);walk_at "x";rename_i g_ hg_ c;rintro⟨rfl,h⟩;subst hg_;refine⟨_,(zac (zav (i:=1) scSgn.nd rfl (Or.inl rfl) (zas))
  (zac (zav (i:=1) scSgn.nd rfl (Or.inl rfl) (zao zay (pv 1) (zas)))
  (zac (za1 (zan zbi (zao zaz (pv 0) (zae)) (zae) (nomark _)) (zaf (zav (i:=1) scSgn.nd rfl (Or.inl rfl) (zas))) zat)
  (zaf (zap (zba zge (pv 1) (zao zaz (zao zbc (pv 0) (zae)) (za5 zbl rfl T.b_len PySem.boot_len ((zaa (pv 1) zai)))) (λ_ _=>Z))))))),?_⟩
 have key:∀(z:Str),1<=z.length->z.length<=200->∃a,atI z.cps.toList (c / 3%(z.length:Int))=some a:=λz z1 _=>zyc (Jl _ (by omega)) (Jd _ (by omega))
 refine sab λrr hrr=>?_
 show rr _ _ _;subst hrr;refine sab λrr hrr=>?_
 refine⟨_,Z,_,_,Z,Z,by decide +kernel,?_⟩;dsimp only[za4];subst hrr;refine zc1 (λσ' H'=>H'=H/\∃z:Str,σ'=[some (.int c),some (.str z)]/\1<=z.length/\z.length<=200) ?_ λN hN=>?_
 rotate_left
 ·exact⟨_,Z,_,_,Z,Z,(by show (0:Int)<3;decide),Z,_,Z,cEq (λ_=>hN _ _ ⟨Z,_,Z,by decide +kernel,by decide +kernel⟩) (λ_=>hN _ _ ⟨Z,_,Z,by decide +kernel,by decide +kernel⟩)⟩
 rintro σ' H' ⟨rfl,z,rfl,z1,z2⟩;obtain⟨a,ha⟩:=key z z1 z2;exact⟨_,rfl,_,rfl,_,_,rfl,rfl,⟨by decide,by decide⟩,_,rfl,z,rfl,zl _ (by omega),_,_,rfl,rfl,(by show (0:Int)<(z.length:Int);omega),z,_,a,rfl,rfl,zl _ (by omega),ha,h a⟩
theorem zu8(F:FunD K "_law_changed" "_law_changed" zc4 .none f fd)(c_Sgn:Cal P w K mg base CX0 1 "_law_sign" ["_law_cell"] [] zwi):FnOk P w K mg base CX0 2 f fd ["_law_text","_law_kind","_law_cell"] zxn:=by
 have scChg:FnScope ["_law_text","_law_kind","_law_cell","_law_at","_law_sign_here"] ["_law_text","_law_kind","_law_cell"] (zak zc4):=sM (by decide +kernel);refine F.okN (k:=1) scChg (by walk_at "v") (λcdv A outer s H vs Q E hr=>?_);walk_at "x";rename_i g_ hg_ x kd c;rintro⟨rfl,h⟩;subst hg_;refine⟨_,(zac (zav (i:=3) scChg.nd rfl (Or.inl rfl) (zao zaz (zao zbc (pv 2) (zae)) (zao zb2 (za5 zbl rfl T.b_len PySem.boot_len ((zaa (pv 0) zai))) (zae))))
  (zac (zav (i:=4) scChg.nd rfl (Or.inl rfl) (pe_c c_Sgn hr zaw .nil ((zaa (zao zbc (pv 2) (zae)) zai))))
  (zac (za1 (zan zbi (pv 1) (zae) (nomark _)) (zaf (zap (zao zay (zao zay (za9 zb9 (pv 0) zbr (zbd (pv 3))) (pv 4)) (za9 zb9 (pv 0) (zbd (pv 3)) zbr)))) zat)
  (zac (za1 (zan zbi (pv 1) (zae) (nomark _)) (zaf (zap (zao zay (za9 zb9 (pv 0) zbr (zbd (pv 3))) (za9 zb9 (pv 0) (zbd (zao zb2 (pv 3) (zae))) zbr)))) zat)
  (zac (za1 (zan zbi (pv 1) (zae) (nomark _)) (zaf (zap (zao zay (zao zay (za9 zb9 (pv 0) zbr (zbd (pv 3))) (pv 4)) (za9 zb9 (pv 0) (zbd (zao zb2 (pv 3) (zae))) zbr)))) zat)
  (zac (za1 (zan zbi (pv 1) (zae) (nomark _)) (zaf (zap (zf4 PySem.F.plainAttrs_str PySem.F.slot_str_rjust PySem.F.type_str_rjust zok (pv 0) ((zaa (zao zb2 (zae) (zao zaz (pv 2) (zae))) zai))))) zat)
  (zac (za1 (zan zbi (pv 1) (zae) (nomark _)) (zaf (zap (zao zay (zao zay (zao zdb (zas) (zao zaz (pv 2) (zae))) (pv 0)) (zao zdb (zas) (zao zaz (pv 2) (zae)))))) zat)
  (zac (za1 (zan zbi (pv 1) (zae) (nomark _)) (zaf (zap (zao zdb (zas) (zao zaz (pv 2) (zae))))) zat)
  (zaf (zap (pv 0))))))))))),?_⟩
 obtain⟨c0,xl,k⟩:=h;have el:=zbm x;have a0:=Jl (c / 7) (show ((x.length:Int)+1)≠0 by omega);refine sab λrr hrr=>?_
 refine⟨_,Z,_,_,Z,Z,⟨by decide,by decide⟩,_,Z,x,Z,zl _ (by omega),_,_,Z,Z,_,_,Z,Z,(by show (0:Int)<(x.length:Int)+1;omega),?_⟩;dsimp only[za4];generalize c / 7%((x.length:Int)+1)=a at a0 ⊢;subst hrr;refine sab λrr hrr=>?_
 refine⟨_,Z,_,_,Z,Z,⟨by decide,by decide⟩,_,Z,λs=>?_⟩;dsimp only[za4];subst hrr;obtain⟨i1,i2,i3,i4⟩:=zyp (x:=x) (c:=s) a0;obtain⟨d1,d2,d3⟩:=zys (x:=x) a0;obtain⟨r1,r2⟩:=zy7 (x:=x) (c:=s) a0;have s1:(⟨#[s]⟩:Str).length=1:=rfl;refine⟨_,Z,Z,_,Z,cEq (λk1=>?_) (λk1=>?_)⟩
 ·exact⟨_,Z,_,Z,_,Z,x,Z,zl _ (by omega),_,Z,_,_,Z,Z,zl _ (by omega),_,Z,_,Z,_,Z,x,Z,zl _ (by omega),_,_,Z,Z,zl _ (by rw[Str.length_append];omega),k _ i1 i2⟩
 refine⟨_,Z,Z,_,Z,cEq (λk2=>?_) (λk2=>?_)⟩
 ·exact⟨_,Z,_,Z,_,Z,x,Z,zl _ (by omega),_,Z,_,Z,_,_,Z,Z,_,Z,x,Z,zl _ (by omega),_,_,Z,Z,zl _ (by omega),k _ d1 d2⟩
 refine⟨_,Z,Z,_,Z,cEq (λk3=>?_) (λk3=>?_)⟩
 ·exact⟨_,Z,_,Z,_,Z,x,Z,zl _ (by omega),_,Z,_,_,Z,Z,zl _ (by omega),_,Z,_,Z,_,_,Z,Z,_,Z,x,Z,zl _ (by omega),_,_,Z,Z,zl _ (by rw[Str.length_append];omega),k _ r1 r2⟩
 refine⟨_,Z,Z,_,Z,cEq (λk4=>?_) (λk4=>?_)⟩
 ·obtain⟨j1,j2⟩:=zus x (298+c%5);exact⟨_,Z,Z,_,Z,_,_,Z,Z,(by show (0:Int)<5;decide),_,_,Z,Z,x,_,Z,Z,zv9 (by omega) (by omega),k _ (by omega) (by omega)⟩
 refine⟨_,Z,Z,_,Z,cEq (λk5=>?_) (λk5=>?_)⟩
 ·obtain⟨b1,b2,b3,b4⟩:=zym (x:=x) (n:=c%13) (by omega) (by omega);exact⟨_,Z,_,_,Z,Z,(by show (0:Int)<13;decide),_,_,Z,Z,by decide +kernel,by omega,by omega,_,Z,_,_,Z,Z,zl _ (by omega),_,Z,_,_,Z,Z,(by show (0:Int)<13;decide),_,_,Z,Z,by decide +kernel,by omega,by omega,_,_,Z,Z,zl _ (by rw[Str.length_append];omega),k _ b1 b2⟩
 refine⟨_,Z,Z,_,Z,cEq (λk6=>?_) (λk6=>⟨_,Z,k x (by omega) (by omega)⟩)⟩;have l1:=zg6 (x:=" ") (n:=c%3) (by omega);rw[show (" " : Str).length=1 by decide +kernel,Nat.one_mul]at l1;exact⟨_,Z,_,_,Z,Z,(by show (0:Int)<3;decide),_,_,Z,Z,by decide +kernel,by omega,by omega,k _ (by rw[zdo _ (zgz (zew _ (by decide +kernel)) (by omega))];omega) (by omega)⟩
theorem zwu(F:FunD K "_law_is_figures" "_law_is_figures" zb3 .none f fd)   : FnOk P w K mg base CX0 1 f fd ["_law_text","_law_most"] zvp:=by
 have scFgs:FnScope ["_law_text","_law_most","_law_sign_here"] ["_law_text","_law_most"] (zak zb3):=sM (by decide +kernel);refine F.okN (k:=0) scFgs (by walk_at "v") (λcdv A outer s H vs Q E hr=>?_);walk_at "x";rename_i g_ hg_ x kk;rintro⟨rfl,h⟩;subst hg_;refine⟨_,(zac (zel PassesOwn.never rfl (zra (pv 0)) (zbj (i:=2) scFgs.nd rfl (Or.inl rfl)) (zaf (za1 (zan zhq (pv 2) (zas) rfl) (zaf (zap (zcw))) zat)))
  (zaf (zap (zov zpi zpi (zae) (za5 zbl rfl T.b_len PySem.boot_len ((zaa (pv 0) zai))) (pv 1))))),?_⟩
 obtain⟨xl,k⟩:=h;have el:=zbm x;refine⟨_,Z,x,Z,znx (x:=x) (λi σ H'=>H'=H/\(∃v2,σ = [some (.str x),some (.int kk),v2])/\(x.cps.toList.take i).all isD=true) ⟨Z,⟨none,Z⟩,by simp⟩ ?_ ?_⟩
 ·rintro i c σ H1 hc ⟨rfl,⟨v2,rfl⟩,ha⟩;have hc':=zq6 hc;dsimp only[za4];refine⟨_,rfl,_,_,rfl,rfl,_,rfl,?_⟩;rw[zue]
  cases d:isD c with
  | true=>exact iteF ⟨rfl,⟨_,rfl⟩,zxa hc' d ha⟩
  | false=>
   refine iteT ?_;have:figs kk x.cps.toList=false:=by
    unfold figs;rw[List.all_eq_false.mpr ⟨c,Yx hc',by simp[d]⟩];rfl
   rw[this]at k;exact k
 ·rintro σ H1 ⟨rfl,⟨v2,rfl⟩,ha⟩;rw[<- el,List.take_length]at ha;unfold figs at k;rw[ha,Bool.true_and,el]at k;refine⟨_,rfl,x,rfl,zl _ (by omega),_,_,rfl,rfl,_,rfl,cD (λc=>?_) (λc=>?_)⟩
  ·rw[Yo (show 1<=x.length by omega),Bool.true_and]at k;refine⟨_,Z,_,_,Z,Z,?_⟩;show Q (V.bl (decide ((x.length:Int)<=(kk:Int)))) H1;rw[show decide ((x.length:Int)<=(kk:Int))=decide (x.length<=kk) from decide_eq_decide.mpr (by omega)];exact k
  ·rw[Yw (show ¬1<=x.length by omega),Bool.false_and]at k;exact k
theorem zww(F:FunD K "_law_is_factor" "_law_is_factor" zch .none f fd)(c_Fgs:Cal P w K mg base CX0 1 "_law_is_figures" ["_law_text","_law_most"] [] zvp):FnOk P w K mg base CX0 2 f fd ["_law_text","_law_names"] zvk:=by
 have scIsF:FnScope ["_law_text","_law_names","_law_halves"] ["_law_text","_law_names"] (zak zch):=sM (by decide +kernel);refine F.okN (k:=1) scIsF (by walk_at "v") (λcdv A outer s H vs Q E hr=>?_);walk_at "x";rename_i g_ hg_ x m;rintro⟨rfl,h⟩;subst hg_;refine⟨_,(zac (za1 (zan zbi (pv 0) (zas) (nomark _)) (zaf (zap (zcw))) zat)
  (zac (za1 (PW.pt (zho (zan zla (pv 0) (zas) (nomark _)) (zfm (zan zcs (zba zge (pv 0) (zae) (λ_ _=>Z)) (pv 1) rfl)))) (zaf (zap (zy1 (zdp zbi (za9 zb9 (pv 0) (zbd (zae)) zbr) (zas) (nomark _)) (zjw (zmg (zdp zbi (zba zge (pv 0) (zae) (λ_ _=>Z)) (zas) (nomark _)) (zjw (pe_c c_Fgs hr zaw .nil ((zaa (za9 zb9 (pv 0) (zbd (zae)) zbr) (zaa (zae) zai)))))))))) zat)
  (zac (zav (i:=2) scIsF.nd rfl (Or.inl rfl) (zf4 PySem.F.plainAttrs_str PySem.F.slot_str_split PySem.F.type_str_split zen (pv 0) ((zaa (zas) zai))))
  (zaf (zap (zmg (zdp zfy (za5 (zhx (K:=K) rfl) rfl T.b_len PySem.boot_len ((zaa (pv 2) zai))) (zae) (nomark _)) (zjw (za5 (zll (K:=K) rfl rfl) rfl T.b_all (by kernel_rfl) ((zaa (zi5 (N:=["_law_half"]) (Blk.plain (by decide +kernel) (by decide +kernel) rfl (by decide +kernel) ze4) rfl (zep (K:=K) rfl (pv 2)) (λC0 s0 H0 fp0=>zqn (i:=0) ze4 rfl rfl) (λC0 s0 H0 fp0=>ziw) (λC0 s0 H0 fp0=>pe_c c_Fgs hr zaw .nil ((zaa (pv 0) (zaa (zae) zai))))) zai)))))))))),?_⟩
 obtain⟨m4,xl,k⟩:=h;have el:=zbm x;refine⟨_,Z,Z,_,Z,cEqV (λc=>?_) (λc=>?_)⟩
 ·have:=ztf c;subst this;rw[at64]at k;exact k H (Same.refl _)
 have n64:x.cps.toList≠[64]:=λz=>c (by rw[zje (z.trans at64.symm)])
 refine sab λrr hrr=>?_
 show rr _ _ _;subst hrr;refine sab λrr hrr=>?_
 show tIfS _ _ _ _ _ _;refine zrt (hdIn m x.cps.toList) (λQ' hQ=>?_) ?_
 ·cases hx:x.cps.toList with
  | nil=>
   rw[hx]at hQ;refine⟨_,Z,Z,_,Z,cNeV (λne=>absurd (by rw[zje (hx.trans e0.symm)]) ne) (λ_=>hQ)⟩
  | cons a r=>
   rw[hx]at hQ;refine⟨_,Z,Z,_,Z,cNeV (λne=>?_) (λe=>?_)⟩
   ·refine⟨_,Z,x,0,a,Z,Z,zl _ (by omega),by rw[hx];show atI _ ((0:Nat):Int)=_;exact zdw rfl,_,Z,_,_,Z,Z,_,Z,?_⟩;rw[zwe m4];exact hQ
   ·have:=ztf e;rw[this,e0]at hx;cases hx
 have fac:facL (nmL m) x.cps.toList=(match x.cps.toList with | []=>false | a::r=>if (nmL m).contains a then(match r with | []=>true | y::r'=>decide (y=94)&&figs 2 r') else decide ((spl 47 (a::r)).length<3)&&(spl 47 (a::r)).all (figs 30)):=by
  unfold facL;rw[Yh n64]
  try (rcases x.cps.toList with _ | ⟨a,_ | ⟨b,r⟩⟩ <;> rfl)
 rw[fac]at k
 cases hb:hdIn m x.cps.toList with
 | true=>
  refine iteT ?_
  cases hx:x.cps.toList with
  | nil=>rw[hx]at hb;cases hb
  | cons a r=>
   rw[hx]at hb k;have ha:a∈nmL m:=of_decide_eq_true hb;have hc:(nmL m).contains a=true:=by simpa using ha
   simp only[hc,if_true]at k
   have c1:cutS x (some 1) none=⟨r.toArray⟩:=by rw[zb8 (by decide),hx];rfl
   have rl:r.length<=300:=by rw[<- el,hx,Y5]at xl;omega
   refine⟨_,Z,_,Z,x,Z,by rw[c1,zbx];exact zl _ (by omega),Z,_,Z,?_⟩;rw[c1]
   cases r with
   | nil=>exact cEqV (λ_=>k H (Same.refl _)) (λne=>absurd (Js V.str (zje (by rw[zda,e0]))) ne)
   | cons y r'=>
    refine cEqV (λe=>?_) (λ_=>?_)
    ·have:=Js (λz:Str=>z.cps.toList) (ztf e);simp only[zda,e0]at this
     cases this
    ·have h94:V.str "^" = V.str ⟨#[94]⟩:=s_of 94 _ (by decide +kernel);replace k:∀H',Same H H'->Q (V.bl (decide (y=94)&&figs 2 r')) H':=k;refine⟨_,Z,x,1,y,Z,Z,zl _ (by omega),by rw[hx];show atI _ ((1:Nat):Int)=_;exact zdw rfl,Z,_,Z,?_⟩;dsimp only;rw[sdec _ h94];by_cases c9:y=94
     ·rw[Yo c9]at k ⊢;have c2:cutS x (some 2) none=⟨r'.toArray⟩:=by rw[zb8 (by decide),hx];rfl
      have rl':r'.length<=300:=by rw[Y5]at rl;omega
      refine iteT ⟨_,Z,_,Z,x,Z,by rw[c2,zbx];exact zl _ (by omega),_,2,Z,by rw[c2,zbx];omega,?_⟩;rw[c2,zda];exact k H (Same.refl _)
     ·rw[Yw c9]at k ⊢;exact iteF (k H (Same.refl _))
 | false=>
  refine iteF ?_;show rr _ _ _;subst hrr;refine sab λrr hrr=>?_
  refine⟨_,Z,Z,x,_,Z,Z,by decide +kernel,by omega,λl nl=>?_⟩;rw[sl47];have e1:Same H (upd H l (.lst ((Txt.split x ⟨#[47]⟩).map V.str))):=Same.upd nl;have hl:(upd H l (HO.lst ((Txt.split x ⟨#[47]⟩).map V.str))) l=some (.lst ((Txt.split x ⟨#[47]⟩).map V.str)):=zah;dsimp only[za4];generalize upd H l (HO.lst ((Txt.split x ⟨#[47]⟩).map V.str))=H1 at e1 hl ⊢;subst hrr;have ss:=zc7 x 47;have sz:=zf5 x ⟨#[47]⟩;have sln:(spl 47 x.cps.toList).length=(Txt.split x ⟨#[47]⟩).length:=by rw[<- ss,Yd]
  have k2:∀H',Same H H'->Q (V.bl (decide ((spl 47 x.cps.toList).length<3)&&(spl 47 x.cps.toList).all (figs 30))) H':=by
   cases hx:x.cps.toList with
   | nil=>rw[hx]at k;exact k
   | cons a r=>
    rw[hx]at hb k;have ha:a ∉ nmL m:=of_decide_eq_false hb;have hc:(nmL m).contains a=false:=by simpa using ha
    simp only[hc,Bool.false_eq_true,if_false]at k
    exact k
  refine⟨_,Z,l,_,Z,.inl (SqL.of hl),_,_,Z,Z,_,Z,?_⟩;rw[Yd];by_cases c3:(Txt.split x ⟨#[47]⟩).length<3;rotate_left
  ·rw[sln,Yw c3]at k2;rw[Yw (show ¬((Txt.split x ⟨#[47]⟩).length:Int)<3 by omega)];exact iteF (k2 _ e1)
  rw[sln,Yo c3,Bool.true_and]at k2;rw[Yo (show ((Txt.split x ⟨#[47]⟩).length:Int)<3 by omega)];refine iteT ?_;show tComp _ _ _ _ _ _ _ _;refine znt (J:=Itl K l) (H1:=H1) (zn1 (SqL.of hl)) (by rw[Yd];omega) ?_ (λσ=>∃v,σ = [v]) (λ_=>true) (λi=>.bl (figs 30 ((Txt.split x ⟨#[47]⟩).getD i "").cps.toList)) ⟨none,Z⟩ ?_ λD H4 e4 hL=>?_
  ·exact λR hR=>⟨_,Z,l,Z,⟨_,SqL.of hl⟩,hR⟩
  ·rintro i v σ' H4 hi ⟨z,rfl⟩ e4 hv Ny Nn hy hn;rw[Ym]at hv
   cases ha:(Txt.split x ⟨#[47]⟩)[i]? with
   | none=>rw[ha]at hv;cases hv
   | some p=>
    rw[ha]at hv;injection hv with hv
    subst hv;unfold tYes;dsimp only[za4];rw[Yl rfl];have pl:=zsv (Yx ha);have ep:(Txt.split x ⟨#[47]⟩).getD i "" = p:=by rw[List.getD_eq_getElem?_getD,ha];rfl
    rw[ep]at hy;exact⟨_,Z,p,30,Z,by omega,hy _ _ ⟨_,Z⟩ (Same.refl _) rfl⟩
  rw[Yu.mpr (λ_ _=>Z),Yd,zt1 (Txt.split x ⟨#[47]⟩) "" λp=>V.bl (figs 30 p.cps.toList)]at hL;refine⟨D,(spl 47 x.cps.toList).map (figs 30),Z,SqL.of (by rw[hL,<- ss,Jh,Jh];rfl),?_⟩;rw[List.all_map];exact k2 _ (e1.trans e4)
theorem ztd(F:FunD K "_law_is_flat" "_law_is_flat" zc0 .none f fd)(c_IsF:Cal P w K mg base CX0 2 "_law_is_factor" ["_law_text","_law_names"] [] zvk):FnOk P w K mg base CX0 3 f fd ["_law_text","_law_names"] zqo:=by
 have scFlat:FnScope ["_law_text","_law_names","_law_part","_law_word"] ["_law_text","_law_names"] (zak zc0):=sM (by decide +kernel);refine F.okN (k:=2) scFlat (by walk_at "v") (λcdv A outer s H vs Q E hr=>?_);walk_at "x";rename_i g_ hg_ x m;rintro⟨rfl,h⟩;subst hg_;refine⟨_,(zo6 (i:=0) (zuu (za9 zb9 (pv 0) zbr (zbd (zae)))) scFlat.nd rfl rfl (za9 zb9 (pv 0) (zbd (zae)) zbr) (zkc PassesOwn.never rfl (zjy (K:=K) rfl (zqk PySem.F.plainAttrs_str PySem.F.slot_str_split PySem.F.type_str_split zen (zgk 0) (zaa (zas) zai))) (zbj (i:=2) scFlat.nd rfl (Or.inl rfl)) (zaf (zel PassesOwn.never rfl (zep (K:=K) rfl (zf4 PySem.F.plainAttrs_str PySem.F.slot_str_split PySem.F.type_str_split zen (pv 2) ((zaa (zas) zai)))) (zbj (i:=3) scFlat.nd rfl (Or.inl rfl)) (zaf (za1 (zfs (zc6 (pe_c c_IsF hr zaw .nil ((zaa (pv 3) (zaa (pv 1) zai)))))) (zaf (zap (zcw))) zat)))) (zaf (zap (zcw))))),?_⟩;obtain⟨m4,xl,k⟩:=h;have el:=zbm x;have no:=zpp m (by omega);have e43:("+" : Str)=⟨#[43]⟩:=by decide +kernel
 have e42:("*" : Str)=⟨#[42]⟩:=by decide +kernel
 refine zc1 (λσ' H'=>H'=H/\∃y:Str,σ'=[some (.str y),some (.str (nmS m)),none,none]/\y.cps.toList=strip x.cps.toList) ?_ λN hN=>?_
 rotate_left
 ·have l1:(cutS x none (some 1)).length<=5000:=by rw[zec (by decide),zbx,List.length_take];omega
  have l2:(cutS x (some 1) none).length<=5000:=by rw[zb8 (by decide),zbx,List.length_drop];omega
  refine⟨_,Z,_,Z,x,Z,zl _ (by omega),_,_,Z,Z,_,Z,?_⟩;rcases ztr x with⟨z,es⟩ | ⟨z,es⟩
  ·rw[Yo z];exact iteT ⟨_,Z,_,Z,x,Z,zl _ (by omega),hN _ _ ⟨Z,_,Z,es⟩⟩
  ·rw[Yw z];exact iteF (hN _ _ ⟨Z,x,Z,es⟩)
 rintro σ' H' ⟨rfl,y,rfl,ey⟩;have ly:=zbm y;have sl:=zhl x.cps.toList;rw[<- ey]at sl;have er:=zr3 y;have lr:=zbm (Txt.replace y "-" "+");rw[er,zqy]at lr;refine sab λrr hrr=>?_
 refine⟨y,Z,by omega,Z,Txt.replace y "-" "+",_,Z,Z,by decide +kernel,by omega,λl nl=>?_⟩;rw[e43]at er lr ⊢;have ss:=zc7 (Txt.replace y "-" ⟨#[43]⟩) 43;rw[er,ey]at ss;have e1:Same H' (upd H' l (.lst ((Txt.split (Txt.replace y "-" ⟨#[43]⟩) ⟨#[43]⟩).map V.str))):=Same.upd nl;have hl:(upd H' l (HO.lst ((Txt.split (Txt.replace y "-" ⟨#[43]⟩) ⟨#[43]⟩).map V.str))) l=some (.lst ((Txt.split (Txt.replace y "-" ⟨#[43]⟩) ⟨#[43]⟩).map V.str)):=zah;generalize upd H' l (HO.lst ((Txt.split (Txt.replace y "-" ⟨#[43]⟩) ⟨#[43]⟩).map V.str))=H1 at e1 hl ⊢;generalize Txt.split (Txt.replace y "-" ⟨#[43]⟩) ⟨#[43]⟩=ps at ss hl ⊢;have fe:zmm (nmL m) x.cps.toList=(ps.all λp=>(spl 42 p.cps.toList).all (fl (nmL m) true zT)):=by
  unfold zmm;rw[<- ss,List.all_map];rfl
 rw[fe]at k;refine⟨l,Z,⟨_,SqL.of hl⟩,zd0 (xs:=ps.map V.str) (λi σ H2=>Same H1 H2/\(∃v2 v3,σ = [some (.str y),some (.str (nmS m)),v2,v3])/\(ps.take i).all (λp=>(spl 42 p.cps.toList).all (fl (nmL m) true zT))=true) ⟨Same.refl _,⟨none,none,Z⟩,by simp⟩ (λi σ H2 _ h=>SqL.of (h.1 _ _ hl)) ?_ ?_⟩
 ·rintro i v σ H2 hv ⟨e2,⟨v2,v3,rfl⟩,ha⟩;rw[Ym]at hv
  cases hp:ps[i]? with
  | none=>rw[hp]at hv;cases hv
  | some p=>
   rw[hp]at hv;injection hv with hv
   subst hv;have mp':p.cps.toList∈spl 43 (mp (strip x.cps.toList)):=by rw[<- ss];exact Ji.mpr ⟨p,Yx hp,Z⟩
   have lp:=(zdv 43 _ _ mp').2.2;have lp2:=zbm p;have sl2:=zhl x.cps.toList;rw[zqy]at lp;dsimp only[za4];refine⟨_,Z,Z,p,_,Z,Z,by decide +kernel,by omega,λl2 nl2=>?_⟩;rw[e42];have ss2:=zc7 p 42;have e3:Same H2 (upd H2 l2 (.lst ((Txt.split p ⟨#[42]⟩).map V.str))):=Same.upd nl2;have hl2:(upd H2 l2 (HO.lst ((Txt.split p ⟨#[42]⟩).map V.str))) l2=some (.lst ((Txt.split p ⟨#[42]⟩).map V.str)):=zah;generalize upd H2 l2 (HO.lst ((Txt.split p ⟨#[42]⟩).map V.str))=H3 at e3 hl2 ⊢;generalize Txt.split p ⟨#[42]⟩=ws at ss2 hl2 ⊢;have we:(spl 42 p.cps.toList).all (fl (nmL m) true zT)=ws.all λw=>fl (nmL m) true zT w.cps.toList:=by rw[<- ss2,List.all_map];rfl
   refine⟨l2,Z,⟨_,SqL.of hl2⟩,zd0 (xs:=ws.map V.str) (λj σ H4=>Same H3 H4/\(∃v3,σ = [some (.str y),some (.str (nmS m)),some (.str p),v3])/\(ws.take j).all (λw=>fl (nmL m) true zT w.cps.toList)=true) ⟨Same.refl _,⟨_,Z⟩,by simp⟩ (λj σ H4 _ h=>SqL.of (h.1 _ _ hl2)) ?_ ?_⟩
   ·rintro j w σ H4 hw ⟨e4,⟨v3,rfl⟩,hb⟩;rw[Ym]at hw
    cases hq:ws[j]? with
    | none=>rw[hq]at hw;cases hw
    | some z=>
     rw[hq]at hw;injection hw with hw
     subst hw;have mz:z.cps.toList∈spl 42 p.cps.toList:=by rw[<- ss2];exact Ji.mpr ⟨z,Yx hq,Z⟩
     have lz:=(zdv 42 _ _ mz).2.2;have lz2:=zbm z;have ff:=zv7 no z.cps.toList (zy6 mp' mz);dsimp only[za4];refine⟨_,Z,_,Z,z,m,Z,m4,by omega,λH5 e5=>⟨_,Z,?_⟩⟩;rw[<- ff]
     cases hz:fl (nmL m) true zT z.cps.toList with
     | true=>exact iteF ⟨e4.trans e5,⟨_,rfl⟩,zqz hq hz hb⟩
     | false=>
      refine iteT ?_;rw[zq8 hp (by rw[we];exact zq8 hq hz)]at k;exact k _ ((((e1.trans e2).trans e3).trans e4).trans e5)
   ·rintro σ H4 ⟨e4,⟨v3,rfl⟩,hb⟩;rw[Yd,List.take_length]at hb;exact⟨(e2.trans e3).trans e4,⟨_,_,rfl⟩,zqz hp (by rw[we];exact hb) ha⟩
 ·rintro σ H2 ⟨e2,⟨v2,v3,rfl⟩,ha⟩;rw[Yd,List.take_length]at ha;show rr _ _ _;subst hrr;rw[ha]at k;exact k _ (e1.trans e2)
theorem zs7(F:FunD K "_law_deep" "_law_deep" zd5 .none f fd)   : FnOk P w K mg base CX0 1 f fd ["_law_text"] zrc:=by
 have scDeep:FnScope ["_law_text","_law_deep_here","_law_deepest","_law_sign_here"] ["_law_text"] (zak zd5):=sM (by decide +kernel);refine F.okN (k:=0) scDeep (by walk_at "v") (λcdv A outer s H vs Q E hr=>?_);walk_at "x";rename_i g_ hg_ x;rintro⟨rfl,h⟩;subst hg_;refine⟨_,(zac (zav (i:=1) scDeep.nd rfl (Or.inl rfl) (zae))
  (zac (zav (i:=2) scDeep.nd rfl (Or.inl rfl) (zae))
  (zac (zel PassesOwn.never rfl (zra (pv 0)) (zbj (i:=3) scDeep.nd rfl (Or.inl rfl)) (zac (zav (i:=1) scDeep.nd rfl (Or.inl rfl) (zao zkf (zao zb2 (pv 1) (zbh zh7 rfl T.b_int (by kernel_rfl) ((zaa (zdp zbi (pv 3) (zas) (nomark _)) zai)))) (zbh zh7 rfl T.b_int (by kernel_rfl) ((zaa (zdp zbi (pv 3) (zas) (nomark _)) zai)))))
  (zac (zav (i:=2) scDeep.nd rfl (Or.inl rfl) (za5 (zns rfl) rfl T.b_max (by kernel_rfl) ((zaa (pv 2) (zaa (pv 1) zai)))))
  (zaf (za1 (zan zfy (pv 1) (zae) (nomark _)) (zaf (zap (zae))) zat)))))
  (zaf (zap (zao zb2 (pv 2) (zao zhn (zae) (pv 1)))))))),?_⟩
 obtain⟨xl,k⟩:=h;have el:=zbm x;have h40:V.str "(" = V.str ⟨#[40]⟩:=s_of 40 _ (by decide +kernel);have h41:V.str ")" = V.str ⟨#[41]⟩:=s_of 41 _ (by decide +kernel);refine⟨_,Z,x,Z,znx (x:=x) (λi σ H'=>H'=H/\∃(e d:Nat) (v3:Option V),σ = [some (.str x),some (.int (e:Int)),some (.int (d:Int)),v3]/\e<=i/\e<=d/\(d<=8->pf ok8 0 x.cps.toList=pf ok8 e (x.cps.toList.drop i))/\(8<d->pf ok8 0 x.cps.toList=false)) ⟨Z,0,0,none,Z,Y2 _,Y2 _,λ_=>Z,λz=>by omega⟩ ?_ ?_⟩
 ·rintro i c σ H1 hc ⟨rfl,e,d,v3,rfl,ei,ed,p1,p2⟩;have hc':=zq6 hc;have il:i<x.cps.toList.length:=by
   rcases Jg i x.cps.toList.length with q | q
   ·exact q
   ·rw[Yy q]at hc';cases hc'
  have dr:x.cps.toList.drop i=c::x.cps.toList.drop (i+1):=by
   rw[List.drop_eq_getElem_cons il];rw[Yc il]at hc';injection hc' with hc'
   rw[hc']
  rw[dr]at p1;dsimp only[za4];refine sab λrr hrr=>?_
  refine⟨_,Z,_,Z,Z,.inr ⟨_,Z,_,_,Z,Z,_,Z,Z,.inr ⟨_,Z,_,_,Z,Z,?_⟩⟩⟩;rw[sdec _ h40,sdec _ h41];dsimp only[za4];have nat:∀w:Nat,((e:Int)+(if decide (c=40)=true then 1 else 0)-(if decide (c=41)=true then 1 else 0):Int)=(w:Int)->w<=i+1->(max d w<=8->pf ok8 0 x.cps.toList=pf ok8 w (x.cps.toList.drop (i+1)))->(8<max d w->pf ok8 0 x.cps.toList=false)->rr { nx:=λσ H'=>H'=H1/\∃(e d:Nat) (v3:Option V),σ = [some (.str x),some (.int (e:Int)),some (.int (d:Int)),v3]/\e<=i+1/\e<=d/\(d<=8->pf ok8 0 x.cps.toList=pf ok8 e (x.cps.toList.drop (i+1)))/\(8<d->pf ok8 0 x.cps.toList=false),rt:=Q,bk:=tRet (tOp (rI0 λi j=>V.int (i+j)) (tVar 2) (tOp (rI CMul λi j=>V.int (i*j)) (tC (V.int 99)) (tVar 1))) { nx:=λx H'=>Q V.non H',rt:=Q },ct:=λσ H'=>H'=H1/\∃(e d:Nat) (v3:Option V),σ = [some (.str x),some (.int (e:Int)),some (.int (d:Int)),v3]/\e<=i+1/\e<=d/\(d<=8->pf ok8 0 x.cps.toList=pf ok8 e (x.cps.toList.drop (i+1)))/\(8<d->pf ok8 0 x.cps.toList=false) } (([some (V.str x),some (V.int (e:Int)),some (V.int (d:Int)),v3].set 3 (some (V.str { cps := #[c] }))).set 1 (some (V.int (((e:Int)+if decide (c=40)=true then 1 else 0)-if decide (c=41)=true then 1 else 0)))) H1:=λw ew wi q1 q2=>by
   rw[ew];subst hrr;have em:(if (w:Int) > (d:Int) then(w:Int) else(d:Int))=((max d w:Nat):Int):=by
    rw[Nat.max_def];split <;> split <;> omega
   refine⟨_,Z,_,Z,_,_,Z,?_⟩;dsimp only[za4];rw[em];refine⟨_,Z,_,_,Z,Z,_,Z,?_⟩;rw[Yw (show ¬(w:Int)<0 by omega)];exact iteF ⟨Z,w,max d w,_,Z,wi,Nat.le_max_right ..,q1,q2⟩
  by_cases c40:c=40
  ·subst c40;refine nat (e+1) (by rw[Yl (by decide),Yh (by decide)];omega) (by omega) (λz=>?_) (λz=>?_)
   ·rw[p1 (by omega),pf_o];show (decide (e+1<=8)&&_)=_;rw[Yo (by omega)];rfl
   ·by_cases z8:d<=8
    ·rw[p1 z8,pf_o];show (decide (e+1<=8)&&_)=_;rw[Yw (by omega)];rfl
    ·exact p2 (by omega)
  ·by_cases c41:c=41
   ·subst c41;by_cases e0:e=0
    ·subst e0;have pn:pf ok8 0 x.cps.toList=false:=by
      by_cases z8:d<=8
      ·rw[p1 z8,pf_s];rfl
      ·exact p2 (by omega)
     subst hrr;refine⟨_,Z,_,Z,_,_,Z,?_⟩;dsimp only[za4];refine⟨_,Z,_,_,Z,Z,_,Z,?_⟩;rw[Yo (show ((0:Nat):Int)+(if decide (41=40)=true then 1 else 0)-(if decide (41=41)=true then 1 else 0)<0 by decide)];exact iteT (k 99 ⟨λ_=>pn,λ_=>by decide⟩)
    ·refine nat (e-1) (by rw[Yh (by decide),Yl (by decide)];omega) (by omega) (λz=>?_) (λz=>p2 ?_)
     ·rw[p1 (by omega),pf_s,Yo (show 0<e by omega)];rfl
     ·rw[Nat.max_def]at z;split at z <;> omega
   ·refine nat e (by rw[Yh (by simpa using c40),Yh (by simpa using c41)];omega) (by omega) (λz=>?_) (λz=>p2 ?_)
    ·rw[p1 (by omega),pf_n c40 c41]
    ·rw[Nat.max_def]at z;split at z <;> omega
 ·rintro σ H1 ⟨rfl,e,d,v3,rfl,ei,ed,p1,p2⟩;rw[<- el,List.drop_length]at p1;refine⟨_,rfl,_,rfl,_,_,rfl,rfl,?_,_,_,rfl,rfl,k _ ?_⟩
  ·exact .inl ⟨by decide,by decide⟩
  ·by_cases z8:d<=8
   ·rw[p1 z8,show pf ok8 e []=(e == 0) from by rw[pf]];by_cases e0:e=0
    ·subst e0;exact⟨λz=>by omega,λz=>by cases z⟩
    ·exact⟨λ_=>by simpa using e0,λ_=>by omega⟩
   ·rw[p2 (by omega)];exact⟨λ_=>Z,λ_=>by omega⟩
theorem zvc(F:FunD K "_law_is_text" "_law_is_text" zc5 .none f fd)(c_Deep:Cal P w K mg base CX0 1 "_law_deep" ["_law_text"] [] zrc)(c_Flat:Cal P w K mg base CX0 3 "_law_is_flat" ["_law_text","_law_names"] [] zqo):FnOk P w K mg base CX0 4 f fd ["_law_text","_law_names"] zv3:=by
 have scIsT:FnScope ["_law_text","_law_names","_law_shut","_law_start"] ["_law_text","_law_names"] (zak zc5):=sM (by decide +kernel);refine F.okN (k:=3) scIsT (by walk_at "v") (λcdv A outer s H vs Q E hr=>?_);walk_at "x";rename_i g_ hg_ x m;rintro⟨rfl,h⟩;subst hg_;refine⟨_,(zo1 (zqt (zan zg7 (za5 zbl rfl T.b_len PySem.boot_len ((zaa (pv 0) zai))) (zae) (nomark _)) (zqt (zan zcs (zas) (pv 0) rfl) (zuk (zss (pe_c c_Deep hr zaw .nil ((zaa (pv 0) zai))))))) (zcw) (zoy (i:=0) scIsT.nd rfl (Or.inl rfl) (zgk 0) (zac (zck PassesOwn.never (zan zcs (zas) (pv 0) rfl) (zac (zav (i:=2) scIsT.nd rfl (Or.inl rfl) (zf4 PySem.F.plainAttrs_str PySem.F.slot_str_find PySem.F.type_str_find zl1 (pv 0) ((zaa (zas) zai))))
  (zac (zav (i:=3) scIsT.nd rfl (Or.inl rfl) (zf4 PySem.F.plainAttrs_str PySem.F.slot_str_rfind PySem.F.type_str_rfind zo5 (za9 zb9 (pv 0) zbr (zbd (pv 2))) ((zaa (zas) zai))))
  (zac (za1 (zfs (zc6 (pe_c c_Flat hr zaw .nil ((zaa (za9 zb9 (pv 0) (zbd (zao zb2 (pv 3) (zae))) (zbd (pv 2))) (zaa (pv 1) zai)))))) (zaf (zap (zcw))) zat)
  (zaf (zav (i:=0) scIsT.nd rfl (Or.inl rfl) (zao zay (zao zay (za9 zb9 (pv 0) zbr (zbd (pv 3))) (zas)) (za9 zb9 (pv 0) (zbd (zao zb2 (pv 2) (zae))) zbr))))))))
  (zaf (zap (pe_c c_Flat hr zaw .nil ((zaa (pv 0) (zaa (pv 1) zai))))))))),?_⟩
 obtain⟨m4,xl,k⟩:=h;have el:=zbm x;have no:=zpp m (by omega);have e64:("@" : Str)=⟨#[64]⟩:=by decide +kernel
 have e41:(")" : Str)=⟨#[41]⟩:=by decide +kernel
 have e40:("(" : Str)=⟨#[40]⟩:=by decide +kernel
 refine sab λrr hrr=>?_
 show tIfS _ _ _ _ _ _;refine zrt (decide (300<x.length)||(decide (64∈x.cps.toList) || !pf ok8 0 x.cps.toList)) (λQ' hQ=>?_) ?_
 ·refine zio _ _ (λQ1 h1=>⟨_,Z,x,Z,zl _ (by omega),_,_,Z,Z,_,Z,?_⟩) (λQ2 h2=>zio _ _ (λQ1 h1=>⟨_,Z,_,_,Z,Z,_,Z,?_⟩) (λQ1 h1=>⟨_,Z,x,Z,xl,λn hn=>⟨_,_,Z,Z,_,Z,?_⟩⟩) h2) hQ
  ·rw[show decide ((300:Int)<(x.length:Int))=decide (300<x.length) from decide_eq_decide.mpr (by omega)];exact h1
  ·rw[e64,StrLaws.found_one];exact h1
  ·rw[show decide (8<n) = !pf ok8 0 x.cps.toList from ?_]
   ·exact h1
   ·cases z:pf ok8 0 x.cps.toList with
    | true=>exact Yw λq=>by rw[hn.mp q]at z;cases z
    | false=>exact Yo (hn.mpr z)
 cases hb:(decide (300<x.length)||(decide (64∈x.cps.toList) || !pf ok8 0 x.cps.toList)) with
 | true=>
  refine iteT ?_;have:(decide (x.length<=300)&&ac m zS 0 (flt x.cps.toList))=false:=by
   simp only[Bool.or_eq_true,decide_eq_true_eq,Bool.not_eq_true']at hb
   rcases hb with z | z | z
   ·rw[Yw (by omega)];rfl
   ·rw[show ac m zS 0 (flt x.cps.toList)=false from zkt no _ _ _ ((zn4 (by decide)).mpr z),Bool.and_false]
   ·cases q:ac m zS 0 (flt x.cps.toList) with
    | false=>rw[Bool.and_false]
    | true=>have:=zhy _ _ _ q;rw[zga,z]at this;cases this
  rw[this]at k;exact k H (Same.refl _)
 | false=>
  refine iteF ?_;show rr _ _ _;subst hrr;simp only[Bool.or_eq_false_iff,decide_eq_false_iff_not,Bool.not_eq_false']at hb;obtain⟨b1,b2,b3⟩:=hb;have x3:x.length<=300:=by omega
  have nf:64 ∉ flt x.cps.toList:=λz=>b2 ((zn4 (by decide)).mp z)
  have pfl:pf ok8 0 (flt x.cps.toList)=true:=by rw[zga];exact b3
  have kk:(decide (x.length<=300)&&ac m zS 0 (flt x.cps.toList))=acc (nmL m) true yes zS 0 (flt x.cps.toList):=by
   rw[Yo x3,Bool.true_and];show acc _ _ _ _ _ _=_;rw[zsg nf,pfl,Bool.true_and]
  rw[kk]at k;refine sab λrr hrr=>?_
  refine⟨x,Z,by omega,?_⟩;have ef:=ze8 x;have lf:=zg3 x;dsimp only[za4];generalize Txt.replace x " " "" = y0 at ef lf ⊢;subst hrr;refine sab λrr hrr=>?_
  refine⟨λn σ H'=>Same H H'/\∃(y:Str) (v2 v3:Option V),n=y.length/\σ = [some (.str y),some (.str (nmS m)),v2,v3]/\y.length<=300/\pf yes 0 y.cps.toList=true/\acc (nmL m) true yes zS 0 y.cps.toList=acc (nmL m) true yes zS 0 (flt x.cps.toList),⟨_,Same.refl _,y0,none,none,Z,Z,by omega,by rw[ef];exact zke _ _ pfl,by rw[ef]⟩,?_⟩;rintro n σ H' ⟨e1,y,v2,v3,rfl,rfl,yl,py,ay⟩;have ly:=zbm y;refine⟨_,Z,_,_,Z,Z,_,Z,?_⟩;rw[e41,StrLaws.found_one];refine cD (λc41=>?_) (λc41=>?_);rotate_left
  ·show rr _ _ _;subst hrr;obtain⟨n40,_⟩:=zi6 _ _ c41 py;refine⟨_,Z,_,Z,y,m,Z,m4,yl,λH2 e2=>?_⟩;rw[<- zn0 no,<- zj2 (ok:=yes) _ _ n40 c41,ay];exact k _ (e1.trans e2)
  obtain⟨pre,w,ey,npre⟩:=zg4 c41;rw[ey]at py ay ly;have h40:=zjh pre w npre py;obtain⟨u,v,epre,nv⟩:=zsj h40;subst epre;have nv41:41 ∉ v:=λz=>npre (by simp[z])
  have ey':y.cps.toList=u++40::(v++41::w):=by rw[ey];simp
  have ln:y.length=u.length+1+v.length+1+w.length:=by rw[<- ly];simp;omega
  have fd:=ztj ey npre;have lpre:(u++40::v).length=u.length+1+v.length:=by simp;omega
  rw[lpre]at fd;refine⟨λσ' H''=>Same H H''/\∃(y':Str) (v2 v3:Option V),y'.length<y.length/\σ'=[some (.str y'),some (.str (nmS m)),v2,v3]/\y'.length<=300/\pf yes 0 y'.cps.toList=true/\acc (nmL m) true yes zS 0 y'.cps.toList=acc (nmL m) true yes zS 0 (flt x.cps.toList),?_,?_⟩
  ·rintro σ' H'' ⟨q1,y',v2',v3',q2,rfl,q3⟩;exact⟨y'.length,q2,q1,y',v2',v3',rfl,rfl,q3⟩
  refine sab λr2 hr2=>?_
  refine⟨_,Z,Z,y,_,Z,Z,?_⟩;rw[fd];dsimp only[za4];subst hr2;have c1:cutS y none (some ((u.length+1+v.length:Nat):Int))=⟨(u++40::v).toArray⟩:=by
   rw[zec (by omega),Y1,<- lpre,ey,List.take_left]
  refine sab λr2 hr2=>?_
  refine⟨_,Z,_,Z,_,Z,y,Z,by rw[c1,zbx];exact zl _ (by omega),?_⟩;rw[c1];refine⟨Z,_,_,Z,Z,?_⟩;rw[e40,zog (zda _) nv];dsimp only[za4];subst hr2;have c2:cutS y (some ((u.length:Int)+1)) (some ((u.length+1+v.length:Nat):Int))=⟨v.toArray⟩:=by
   rw[show (u.length:Int)+1=((u.length+1:Nat):Int) by omega,zt0 (by omega) (by omega),ey',show u++40::(v++41::w)=(u++[40])++(v++41::w) by simp,show u.length+1=(u++[40]).length by simp,List.drop_left,Nat.add_sub_cancel_left,List.take_left]
  refine⟨_,Z,_,Z,_,_,Z,Z,_,Z,_,Z,_,Z,y,Z,by rw[c2,zbx];exact zl _ (by omega),_,Z,_,m,Z,m4,by rw[c2,zbx];omega,λH2 e2=>⟨_,Z,?_⟩⟩;rw[c2,zda,<- zn0 no];have ao:=zhb no u zS 0 v w nv nv41;have po:=zjx u 0 v w nv nv41;rw[<- ey',ey,ay]at ao;rw[<- ey',ey,py]at po
  cases hf:fl (nmL m) true zS v with
  | false=>
   rw[hf,Bool.false_and]at ao;rw[ao]at k;exact iteT (k _ (e1.trans e2))
  | true=>
   rw[hf,Bool.true_and]at ao;refine iteF ?_;have c3:cutS y none (some (u.length:Int))=⟨u.toArray⟩:=by rw[zec (by omega),Y1,ey',List.take_left]
   have c4:cutS y (some (((u.length+1+v.length:Nat):Int)+1)) none=⟨w.toArray⟩:=by
    rw[show ((u.length+1+v.length:Nat):Int)+1=(((u++40::(v++[41])).length:Nat):Int) by simp;omega,zb8 (by omega),Y1,ey',show u++40::(v++41::w)=(u++40::(v++[41]))++w by simp,List.drop_left]
   have tl:((⟨u.toArray⟩:Str) ++ "@" ++ ⟨w.toArray⟩).cps.toList=u++64::w:=by rw[zja,zja,zda,zda,at64];simp
   have l3:((⟨u.toArray⟩:Str) ++ "@" ++ ⟨w.toArray⟩).length=u.length+1+w.length:=by rw[<- zbm,tl];simp;omega
   have l1:("@" : Str).length=1:=by decide +kernel
   refine⟨_,Z,_,Z,_,Z,y,Z,by rw[c3,zbx];exact zl _ (by omega),_,_,Z,Z,by rw[c3,l1,zbx];exact zl _ (by omega),_,Z,_,Z,_,_,Z,Z,_,Z,y,Z,by rw[c4,zbx];exact zl _ (by omega),_,_,Z,Z,by rw[c3,c4,Str.length_append,l1,zbx,zbx];exact zl _ (by omega),?_⟩;rw[c3,c4];exact⟨e1.trans e2,_,_,_,by rw[l3];omega,Z,by rw[l3];omega,by rw[tl];exact po.symm,by rw[tl];exact ao.symm⟩
theorem zyb(F:FunD K "_law_has_nought_below" "_law_has_nought_below" zbf .none f fd)   : FnOk P w K mg base CX0 1 f fd ["_law_p","_law_text"] spNB:=by
 have scNB:FnScope ["_law_p","_law_text","_law_sign_here","_law_word","_law_bottom"] ["_law_p","_law_text"] (zak zbf):=sM (by decide +kernel);refine F.okN (k:=0) scNB (by walk_at "v") (λcdv A outer s H vs Q E hr=>?_);walk_at "x";rename_i g_ hg_ n x m;rintro⟨rfl,h⟩;subst hg_;refine⟨_,(znl (i:=2) (j:=1) PassesOwn.never rfl scNB.nd rfl rfl rfl rfl (zkc PassesOwn.never rfl (zjy (K:=K) rfl (zqk PySem.F.plainAttrs_str PySem.F.slot_str_split PySem.F.type_str_split zen (zgk 1) (zaa (zas) zai))) (zbj (i:=3) scNB.nd rfl (Or.inl rfl)) (zaf (za1 (zan zcs (zas) (pv 3) rfl) (zac (zav (i:=4) scNB.nd rfl (Or.inl rfl) (zbh zh1 rfl T.b_int (by kernel_rfl) ((zaa (zba (r:=rIxL K) zed (zf4 PySem.F.plainAttrs_str PySem.F.slot_str_split PySem.F.type_str_split zen (pv 3) ((zaa (zas) zai))) (zae) (λ_ _=>Z)) zai))))
  (zaf (za1 (PW.pt (zk5 (zan zbi (pv 4) (zae) (nomark _)) (zih (PW.pt (zho (zan zg7 (pv 0) (zae) (nomark _)) (zfm (zan zbi (zao zaz (pv 4) (pv 0)) (zae) (nomark _)))))))) (zaf (zap (zcw))) zat))) zat)) (zaf (zap (zcw))))),?_⟩
 obtain⟨n2,m4,xl,az,k⟩:=h;have e64:("@" : Str)=⟨#[64]⟩:=by decide +kernel
 have n0:0<=n:=by rcases n2 with z | z;omega;have:=z.1;omega
 refine sab λrr hrr=>?_
 refine⟨x,Z,λj=>?_,λv=>?_⟩
 ·have:=zne x (("()+-*" : Str).cps.toList.take j) (λz=>absurd (List.mem_of_mem_take z) (by rw[zht];decide)) (λz=>absurd (List.mem_of_mem_take z) (by rw[zht];decide));omega
 have fl5:=zrw x;have ln5:=zne x ("()+-*" : Str).cps.toList (by rw[zht];decide) (by rw[zht];decide);generalize foR " @ " x ("()+-*" : Str).cps.toList=y at fl5 ln5 ⊢;show rr _ _ _;subst hrr;have ef:=ze8 y;have lf:=zg3 y;rw[fl5]at ef;refine sab λrr hrr=>?_
 refine⟨y,Z,by omega,Z,Txt.replace y " " "",_,Z,Z,by decide +kernel,by omega,λl nl=>?_⟩;generalize Txt.replace y " " "" = y2 at ef lf ⊢;rw[e64];have ss:=zc7 y2 64;rw[ef]at ss;have e1:Same H (upd H l (.lst ((Txt.split y2 ⟨#[64]⟩).map V.str))):=Same.upd nl;have hl:(upd H l (HO.lst ((Txt.split y2 ⟨#[64]⟩).map V.str))) l=some (.lst ((Txt.split y2 ⟨#[64]⟩).map V.str)):=zah;generalize upd H l (HO.lst ((Txt.split y2 ⟨#[64]⟩).map V.str))=H1 at e1 hl ⊢;generalize Txt.split y2 ⟨#[64]⟩=ws at ss hl ⊢;have ao:=zwb m4 az;have bw:=zv0 (flt x.cps.toList);rw[<- ss]at ao bw;have ly2:=zbm y2;refine⟨l,Z,⟨_,SqL.of hl⟩,zd0 (xs:=ws.map V.str) (λi σ H2=>Same H1 H2/\(∃v2 v3 v4,σ = [some (.int n),some (.str y),v2,v3,v4])/\∀w∈ws.take i,¬bad n (bots w.cps.toList)) ⟨Same.refl _,⟨_,_,_,Z⟩,λw hw=>by simp at hw⟩ (λi σ H2 _ h=>SqL.of (h.1 _ _ hl)) ?_ ?_⟩
 ·rintro i v σ H2 hv ⟨e2,⟨v2,v3,v4,rfl⟩,ha⟩;rw[Ym]at hv
  cases hp:ws[i]? with
  | none=>rw[hp]at hv;cases hv
  | some w=>
   rw[hp]at hv;injection hv with hv
   subst hv;have mw:w.cps.toList∈ws.map (·.cps.toList):=Ji.mpr ⟨w,Yx hp,Z⟩;have ok:=ao _ mw;have lw:=(zdv 64 (sp5 (flt x.cps.toList)) w.cps.toList (by rw[<- ss];exact mw)).2.2;rw[<- ef,ly2,zbm]at lw;have nxt:¬bad n (bots w.cps.toList)->∀z∈ws.take (i+1),¬bad n (bots z.cps.toList):=λnb z hz=>by
    rw[List.take_add_one,hp]at hz;rcases Jr.mp hz with hz | hz
    ·exact ha z hz
    ·have:z=w:=by simpa using hz
     rw[this];exact nb
   dsimp only[za4];refine⟨_,Z,_,_,Z,Z,_,Z,?_⟩;rw[sl47,StrLaws.found_one];refine cD (λc=>?_) (λc=>?_);rotate_left
   ·exact⟨e2,⟨_,_,_,Z⟩,nxt fun⟨b,hb,_⟩=>by rw[zuh c]at hb;cases hb⟩
   obtain⟨x1,y1,es,eb,dd,ne,l30⟩:=zop ok c;obtain⟨a,b,sp,ebl⟩:=zvn es;refine sab λr2 hr2=>?_
   refine⟨_,Z,Z,w,_,Z,Z,by decide +kernel,by omega,λl2 nl2=>?_⟩;have e3:Same H2 (upd H2 l2 (.lst ((Txt.split w ⟨#[47]⟩).map V.str))):=Same.upd nl2;have hl2:(upd H2 l2 (HO.lst ((Txt.split w ⟨#[47]⟩).map V.str))) l2=some (.lst ((Txt.split w ⟨#[47]⟩).map V.str)):=zah;generalize upd H2 l2 (HO.lst ((Txt.split w ⟨#[47]⟩).map V.str))=H3 at e3 hl2 ⊢;rw[sp]at hl2;have lb:=zbm b;rw[ebl]at lb;refine⟨l2,_,1,.str b,Z,Z,SqL.of hl2,(by show atI [V.str a,V.str b] ((1:Nat):Int)=_;exact zdw rfl),b,_,Z,PySem.intText_digits (λc hc=>?_) (by rw[ebl];exact ne) (by omega),by omega,?_⟩
   ·have:=dd c (by rw[<- ebl];exact hc);unfold isD at this;simp only[Bool.and_eq_true,decide_eq_true_eq]at this;exact this
   rw[ebl];show r2 _ _ _;subst hr2;have fin:zr n (dgv y1:Nat)->Q (.bl true) H3:=λz=>k _ true ((e1.trans e2).trans e3) ⟨λ_=>⟨dgv y1,by rw[bw];exact List.mem_flatMap.mpr ⟨_,mw,by rw[eb];simp⟩,z⟩,λ_=>Z⟩
   have con:¬zr n (dgv y1:Nat)->∀z∈ws.take (i+1),¬bad n (bots z.cps.toList):=λnz=>nxt fun⟨b',hb',z⟩=>by
    rw[eb]at hb';rw[Yq.mp hb']at z;exact nz z
   refine⟨_,Z,Z,_,Z,cEq (λb0=>?_) (λb0=>?_)⟩
   ·exact iteT (fin (by
     have b0':((dgv y1:Nat):Int)=0:=b0;have:dgv y1=0:=by omega
     rw[this];exact zr_z n2))
   ·refine⟨_,Z,_,_,Z,Z,_,Z,cD (λp0=>?_) (λp0=>?_)⟩
    ·have hn:n≠0:=by omega
     refine⟨_,Z,_,Z,_,_,Z,Z,p0,Z,_,Z,cEq (λz=>?_) (λz=>?_)⟩
     ·exact fin ((zr_n hn).mpr z)
     ·exact⟨e2.trans e3,⟨_,_,_,Z⟩,con λq=>z ((zr_n hn).mp q)⟩
    ·have hn:n=0:=by omega
     refine iteF ⟨e2.trans e3,⟨_,_,_,Z⟩,con λq=>b0 ?_⟩;subst hn;exact zr_0.mp q
 ·rintro σ H2 ⟨e2,⟨v2,v3,v4,rfl⟩,ha⟩;rw[Yd,List.take_length]at ha;show rr _ _ _;subst hrr;refine k _ false (e1.trans e2) ⟨(λz=>nomatch z),fun⟨b,hb,z⟩=>?_⟩;rw[bw]at hb;obtain⟨w,hw,hb⟩:=List.mem_flatMap.mp hb;obtain⟨w',hw',rfl⟩:=Ji.mp hw;exact absurd ⟨b,hb,z⟩ (ha w' hw')
theorem zx4(F:FunD K "_law_read" "_law_read" zea .none f fd)(c_Read:Cal P w K mg base (CXe P w) 202 "read" ["ring","text"] [] (zrf zal zam zau zad zaj zag zag zag zag))(x_RoomError:Exc K mg base "RoomError" za8)(x_NoText:Exc K mg base "NoText" zal)(x_NoOver:Exc K mg base "NoOver" zam)(exT:W.exmOne K (.ref zal) (.ref za8)=some true)(exO:W.exmOne K (.ref zam) (.ref za8)=some true)(iT:ExcI K zal)(iO:ExcI K zam)(t1:W.kitOne K (.ref zal) (.ref zal)=some true)(t2:W.kitOne K (.ref zal) (.ref zam)=some false)(t3:W.kitOne K (.ref zal) (.type "ValueError")=some true)(o1:W.kitOne K (.ref zam) (.ref zal)=some false)(o2:W.kitOne K (.ref zam) (.ref zam)=some true)(o3:W.kitOne K (.ref zam) (.type "ValueError")=some true):FnOk P w K mg base CX0 204 f fd ["_law_ring","_law_text"] (spLR zau zad zaj zag zag zag zag):=by
 have scLR:FnScope ["_law_ring","_law_text","_law_caught","_law_found","e","_law_some"] ["_law_ring","_law_text"] (zak zea):=sM (by decide +kernel);refine F.okN (k:=203) scLR (by walk_at "v") (λcdv A outer s H vs Q E hr=>?_);walk_at "x";rename_i g_ hg_ r x g;rintro⟨rfl,h⟩;subst hg_;refine⟨_,(zac (zav (i:=2) scLR.nd rfl (Or.inl rfl) (zj9))
  (zac (zav (i:=3) scLR.nd rfl (Or.inl rfl) (zj9))
  (zac (zoj (i:=4) scLR.nd rfl rfl rfl rfl rfl x_RoomError.at_ (λpl E' E hP=>(zaf (zav (i:=3) scLR.nd rfl (Or.inl rfl) (pe_c c_Read hr hP .nil ((zaa (pv 0) (zaa (pv 1) zai))))))) (λa=>(zaf (zav (i:=2) scLR.nd rfl (Or.inl rfl) (pv 4)))))
  (zac (za1 (zan zwj (pv 2) (zj9) (nomark _)) (zaf (zap (zbz ((zaa (zas) (zaa (pv 3) zai)))))) zat)
  (zac (zav (i:=5) scLR.nd rfl (Or.inl rfl) (zd4 ((zaa (za5 (zey (K:=K) rfl) rfl T.b_isinstance (by kernel_rfl) ((zaa (pv 2) (zaa (zgp (v:=.ref zal) rfl x_NoText.at_ rfl) zai)))) (zaa (za5 (zey (K:=K) rfl) rfl T.b_isinstance (by kernel_rfl) ((zaa (pv 2) (zaa (zgp (v:=.ref zam) rfl x_NoOver.at_ rfl) zai)))) (zaa (za5 (zey (K:=K) rfl) rfl T.b_isinstance (by kernel_rfl) ((zaa (pv 2) (zaa (znu (v:=.ty "ValueError") rfl T.b_ValueError (by kernel_rfl) rfl) zai)))) zai))))))
  (zac (za1 (zan (zfg hr.units) (pv 5) (zd4 ((zaa (zcw) (zaa (zcw) (zaa (zcw) zai))))) (nomark _)) (zaf (zap (zbz ((zaa (zas) (zaa (zas) zai)))))) zat)
  (zac (za1 (zan (zfg hr.units) (pv 5) (zd4 ((zaa (zcw) (zaa (zcw) (zaa (zcw) zai))))) (nomark _)) (zaf (zap (zbz ((zaa (zas) (zaa (zas) zai)))))) zat)
  (zaf (zap (zbz ((zaa (zas) (zaa (zas) zai))))))))))))),?_⟩
 obtain⟨hR,xl,st,kt,ko,k⟩:=h;refine⟨_,Z,_,Z,r,x,g,Z,hR,xl,st,λz H1 e1=>⟨zal,Z,exT,λax nax=>?_⟩,λz1 z2 z3 H1 e1=>⟨zam,Z,exO,λax nax=>?_⟩,λz1 z2 z3 d H1 kvs e1 hd=>?_⟩
 ·have hx:(upd H1 ax (excO ax zal)) ax=some (excO ax zal):=zah;dsimp only[za4,Ends.away];generalize upd H1 ax (excO ax zal)=H2 at hx ⊢;refine⟨_,Z,?_⟩;dsimp only[za4,Ends.away];refine⟨_,Z,Z,_,Z,?_⟩;rw[Yw (λz=>nomatch z)];refine iteF ⟨_,Z,ax,zal,_,_,true,Z,Z,hx,iT,t1,_,Z,ax,zal,_,_,false,Z,Z,hx,iT,t2,_,Z,ax,zal,_,_,true,Z,Z,hx,iT,t3,(by show 3<=sizeLine;decide),λl nl=>?_⟩;have hl:(upd H2 l (HO.lst [V.bl true,V.bl false,V.bl true])) l=some (.lst [.bl true,.bl false,.bl true]):=zah;dsimp only[za4,Ends.away];generalize upd H2 l (HO.lst [V.bl true,V.bl false,V.bl true])=H3 at hl ⊢;refine⟨_,Z,(by show 3<=sizeLine;decide),λl2 nl2=>?_⟩;have e4:Same H3 (upd H3 l2 (.lst [.bl true,.bl false,.bl true])):=Same.upd nl2;have hl2:(upd H3 l2 (HO.lst [V.bl true,V.bl false,V.bl true])) l2=some (.lst [.bl true,.bl false,.bl true]):=zah;generalize upd H3 l2 (HO.lst [V.bl true,V.bl false,V.bl true])=H4 at e4 hl2 ⊢;refine⟨_,_,rds3 (e4 _ _ hl),rds3 hl2,Z,Z,_,Z,iteT ?_⟩;exact⟨(by show 2<=sizeLine;decide),λq nq=>kt z _ _ zah⟩
 ·have hx:(upd H1 ax (excO ax zam)) ax=some (excO ax zam):=zah;dsimp only[za4,Ends.away];generalize upd H1 ax (excO ax zam)=H2 at hx ⊢;refine⟨_,Z,?_⟩;dsimp only[za4,Ends.away];refine⟨_,Z,Z,_,Z,?_⟩;rw[Yw (λz=>nomatch z)];refine iteF ⟨_,Z,ax,zam,_,_,false,Z,Z,hx,iO,o1,_,Z,ax,zam,_,_,true,Z,Z,hx,iO,o2,_,Z,ax,zam,_,_,true,Z,Z,hx,iO,o3,(by show 3<=sizeLine;decide),λl nl=>?_⟩;have hl:(upd H2 l (HO.lst [V.bl false,V.bl true,V.bl true])) l=some (.lst [.bl false,.bl true,.bl true]):=zah;dsimp only[za4,Ends.away];generalize upd H2 l (HO.lst [V.bl false,V.bl true,V.bl true])=H3 at hl ⊢;refine⟨_,Z,(by show 3<=sizeLine;decide),λl2 nl2=>?_⟩;have e4:Same H3 (upd H3 l2 (.lst [.bl true,.bl false,.bl true])):=Same.upd nl2;have hl2:(upd H3 l2 (HO.lst [V.bl true,V.bl false,V.bl true])) l2=some (.lst [.bl true,.bl false,.bl true]):=zah;generalize upd H3 l2 (HO.lst [V.bl true,V.bl false,V.bl true])=H4 at e4 hl2 ⊢;refine⟨_,_,rds3 (e4 _ _ hl),rds3 hl2,Z,Z,_,Z,iteF ?_⟩;refine⟨_,Z,(by show 3<=sizeLine;decide),λl3 nl3=>?_⟩;have e5:Same H4 (upd H4 l3 (.lst [.bl false,.bl true,.bl true])):=Same.upd nl3;have hl3:(upd H4 l3 (HO.lst [V.bl false,V.bl true,V.bl true])) l3=some (.lst [.bl false,.bl true,.bl true]):=zah;generalize upd H4 l3 (HO.lst [V.bl false,V.bl true,V.bl true])=H5 at e5 hl3 ⊢;refine⟨_,_,rds3 (e5 _ _ (e4 _ _ hl)),rds3 hl3,Z,Z,_,Z,iteT ?_⟩;exact⟨(by show 2<=sizeLine;decide),λq nq=>ko z1 z2 z3 _ _ zah⟩
 ·dsimp only[za4];refine⟨_,Z,Z,_,Z,?_⟩;rw[Yo rfl];refine iteT ⟨_,Z,(by show 2<=sizeLine;decide),λq nq=>?_⟩;exact k z1 z2 z3 q d kvs _ zah ((zar (zaq hd nq)).trans hd)
theorem zux(F:FunD K "law" "law" zgy .none f fd)(c_Cell:Cal P w K mg base CX0 1 "_law_cell_at" ["_law_script","_law_k"] [] (zrp K))(c_LPr:Cal P w K mg base CX0 2 "_law_prime" ["_law_cell"] [] zxp)(c_Blt:Cal P w K mg base CX0 2 "_law_built" ["_law_many","_law_cells"] [] (zxr K))(c_Chg:Cal P w K mg base CX0 2 "_law_changed" ["_law_text","_law_kind","_law_cell"] [] zxn)(c_LFld:Cal P w K mg base CX0 5 "_law_field" ["_law_p"] [] (zq7 zad zaj))(k_RgInit:Mak P w K mg base (CXe P w) 2 "Ring" zau ["self","many","field","order"] [] (zu4 zau zag))(c_LR:Cal P w K mg base CX0 204 "_law_read" ["_law_ring","_law_text"] [] (spLR zau zad zaj zag zag zag zag))(c_IsT:Cal P w K mg base CX0 4 "_law_is_text" ["_law_text","_law_names"] [] zv3)(c_NB:Cal P w K mg base CX0 1 "_law_has_nought_below" ["_law_p","_law_text"] [] spNB):FnOk P w K mg base CX0 206 f fd ["_law_script"] (zpm K):=by
 have scLaw:FnScope ["_law_script","_law_p","_law_many","_law_text","_law_found"] ["_law_script"] (zak zgy):=sM (by decide +kernel);refine F.okN (k:=205) scLaw (by walk_at "v") (λcdv A outer s H vs Q E hr=>?_);walk_at "x";rename_i g_ hg_ a ns;rintro⟨rfl,h⟩;subst hg_;refine⟨_,(zac (zav (i:=1) scLaw.nd rfl (Or.inl rfl) (pe_c c_LPr hr zaw .nil ((zaa (pe_c c_Cell hr zaw .nil ((zaa (pv 0) (zaa (zae) zai)))) zai))))
  (zac (zav (i:=2) scLaw.nd rfl (Or.inl rfl) (zao zb2 (zae) (zao zaz (pe_c c_Cell hr zaw .nil ((zaa (pv 0) (zaa (zae) zai)))) (zae))))
  (zac (zav (i:=3) scLaw.nd rfl (Or.inl rfl) (pe_c c_Blt hr zaw .nil ((zaa (pv 2) (zaa (za9 (zos (K:=K) rfl) (pv 0) (zbd (zae)) (zbd (zae))) zai)))))
  (zac (zav (i:=3) scLaw.nd rfl (Or.inl rfl) (pe_c c_Chg hr zaw .nil ((zaa (pv 3) (zaa (zao zaz (pe_c c_Cell hr zaw .nil ((zaa (pv 0) (zaa (zae) zai)))) (zae)) (zaa (zao zaz (pe_c c_Cell hr zaw .nil ((zaa (pv 0) (zaa (zae) zai)))) (zao zn6 (zae) (zae))) zai))))))
  (zac (za1 (zan zbi (zao zaz (zao zbc (pe_c c_Cell hr zaw .nil ((zaa (pv 0) (zaa (zae) zai)))) (zae)) (zae)) (zae) (nomark _)) (zaf (zav (i:=3) scLaw.nd rfl (Or.inl rfl) (pe_c c_Chg hr zaw .nil ((zaa (pv 3) (zaa (zao zaz (zao zbc (pe_c c_Cell hr zaw .nil ((zaa (pv 0) (zaa (zae) zai)))) (zae)) (zae)) (zaa (zao zaz (pe_c c_Cell hr zaw .nil ((zaa (pv 0) (zaa (zae) zai)))) (zao zn6 (zae) (zae))) zai))))))) zat)
  (zac (zav (i:=4) scLaw.nd rfl (Or.inl rfl) (pe_c c_LR hr zaw .nil ((zaa (zt6 k_RgInit hr zw5 .nil ((zaa (pv 2) (zaa (pe_c c_LFld hr zaw .nil ((zaa (pv 1) zai))) (zaa (zsk T.n0_Order T.mg_Order) zai))))) (zaa (pv 3) zai)))))
  (zac (za1 (zfs (zc6 (pe_c c_IsT hr zaw .nil ((zaa (pv 3) (zaa (za9 zb9 (zas) zbr (zbd (pv 2))) zai)))))) (zaf (zap (zdp (zfg hr.units) (pv 4) (zbz ((zaa (zas) (zaa (zas) zai)))) (nomark _)))) zat)
  (zac (za1 (zc6 (pe_c c_NB hr zaw .nil ((zaa (pv 1) (zaa (pv 3) zai))))) (zaf (zap (zdp (zfg hr.units) (pv 4) (zbz ((zaa (zas) (zaa (zas) zai)))) (nomark _)))) zat)
  (zaf (zap (zmg (zdp zbi (zba (r:=rIxT K) za6 (pv 4) (zae) (λ_ _=>Z)) (zas) (nomark _)) (zjw (za5 (zhz (K:=K) rfl) rfl T.b_isinstance (by kernel_rfl) ((zaa (zba (r:=rIxT K) za6 (pv 4) (zae) (λ_ _=>Z)) (zaa (znu (v:=.ty "dict") rfl T.b_dict (by kernel_rfl) rfl) zai)))))))))))))))),?_⟩
 obtain⟨hS,h63,k⟩:=h;have sz:=sizeLine_eq;refine sab λrr hrr=>?_
 refine⟨_,Z,a,ns,0,Z,hS,by decide,_,Z,λn H1 e1 n2 n1=>?_⟩;dsimp only[za4];subst hrr;refine sab λrr hrr=>?_
 refine⟨_,Z,a,ns,1,Z,e1.seq hS,by decide,_,_,Z,Z,(by show (0:Int)<4;decide),_,_,Z,Z,?_⟩;obtain⟨m,em,m1,m4⟩:∃m:Nat,1+zfh ns 1%4=(m:Int)/\1<=m/\m<=4:=⟨(1+zfh ns 1%4).toNat,by omega,by omega,by omega⟩;dsimp only[za4];rw[em];subst hrr;refine sab λrr hrr=>?_
 obtain⟨cs,ec,lc⟩:=zyu ns;refine⟨_,Z,_,Z,5,Z,19,Z,a,_,Z,e1.seq hS,λq hq=>?_⟩;rw[ec];have e4:Same H1 (upd H1 q (.lst (cs.map V.int))):=Same.upd hq;have hq4:(upd H1 q (HO.lst (cs.map V.int))) q=some (.lst (cs.map V.int)):=zah;generalize upd H1 q (HO.lst (cs.map V.int))=H2 at e4 hq4 ⊢;refine⟨m,q,cs,Z,m1,m4,SqL.of hq4,lc,λx H3 e5 tx=>?_⟩;have g3:=e1.trans (e4.trans e5);have xs:=tx.s;have xl:=tx.l;dsimp only[za4];subst hrr;refine sab λrr hrr=>?_
 have c12:∀i:Int,0<=i%10^12:=λi=>Jl _ (by decide)
 refine⟨_,Z,_,Z,a,ns,2,Z,g3.seq hS,by decide,_,_,Z,Z,(by show (0:Int)<9;decide),_,Z,a,ns,3,Z,g3.seq hS,by decide,_,_,Z,Z,⟨by decide,by decide,by decide⟩,_,_,Z,Z,(by show (0:Int)<10^12;decide),x,_,_,Z,c12 _,by omega,λy ys yl=>?_⟩;dsimp only[za4];subst hrr;refine zc1 (λσ' H'=>H'=H3/\∃z:Str,σ'=[some (.ref a),some (.int n),some (.int m),some (.str z),none]/\stt true z.cps.toList<=18/\z.length<=2000) ?_ λN hN=>?_
 rotate_left
 ·refine⟨_,Z,a,ns,2,Z,g3.seq hS,by decide,_,_,Z,Z,⟨by decide,by decide⟩,_,_,Z,Z,(by show (0:Int)<3;decide),Z,_,Z,cEq (λ_=>?_) (λ_=>?_)⟩
  ·refine⟨_,Z,_,Z,a,ns,2,Z,g3.seq hS,by decide,_,_,Z,Z,⟨by decide,by decide⟩,_,_,Z,Z,(by show (0:Int)<9;decide),_,Z,a,ns,4,Z,g3.seq hS,by decide,_,_,Z,Z,⟨by decide,by decide,by decide⟩,_,_,Z,Z,(by show (0:Int)<10^12;decide),y,_,_,Z,c12 _,by omega,λz zs zl=>?_⟩;exact hN _ _ ⟨Z,z,Z,by omega,by omega⟩
  ·exact hN _ _ ⟨Z,y,Z,by omega,by omega⟩
 rintro σ' H' ⟨rfl,z,rfl,zs,zl⟩;have zf:stt true (flt z.cps.toList)<=18:=by
  unfold flt;rw[zg1];exact zs
 refine sab λrr hrr=>?_
 refine⟨_,Z,_,Z,n,Z,n2,n1,λpf H6 e6 hpf p dp np ndp nep=>?_⟩;have e7:Same H6 (upd (upd H6 dp (.own p)) p (.ins zag dp [])):=λb o hb=>by
  rw[zar (zaq hb np),zar (zaq hb ndp)];exact hb
 have hp7:(upd (upd H6 dp (.own p)) p (.ins zag dp [])) p=some (.ins zag dp []):=zah;generalize upd (upd H6 dp (.own p)) p (.ins zag dp [])=H7 at e7 hp7 ⊢;intro r dx nx ndx ne;have e8:Same H7 (upd (upd H7 dx (.own r)) r (.ins zau dx [])):=λb o hb=>by
  rw[zar (zaq hb nx),zar (zaq hb ndx)];exact hb
 refine⟨r,dx,m,pf,p,Z,zah,by omega,by omega,⟨dp,e8 _ _ hp7⟩,λH9 h1 h2=>⟨Z,?_⟩⟩;have e9:Same H7 H9:=λb o hb=>h2 b o (e8 _ _ hb) (zaq hb nx)
 have hR9:RgP zau zad zaj zag zag zag zag H9 r ⟨m,pf,p,n,0,[]⟩:=⟨n1,n2,m1,m4,(by show (0:Int)<=0;decide),(by show (0:Int)<4;decide),(λx hx=>nomatch hx),(λx hx=>nomatch hx),⟨dx,h1⟩,zex (.of (e7.trans e9)) hpf,by
  unfold AtK;rw[Yl rfl];exact⟨dp,e9 _ _ hp7⟩⟩
 refine⟨_,Z,r,z,_,Z,hR9,by omega,zf,λzz q HA hq=>?_,λz3 az bd q HA hq=>?_,λz3 az nb q d kvs HA hq hd=>?_⟩
 ·dsimp only[za4];subst hrr;refine⟨_,Z,_,Z,(m:Int),Z,_,Z,zgx (by omega) (by omega),z,m,Z,m4,by omega,λHB eB=>?_⟩;rw[show (decide (z.length<=300)&&ac m zS 0 (flt z.cps.toList))=false by
   rcases zz with zz | zz
   ·rw[Yw (by omega)];rfl
   ·rw[show ac m zS 0 (flt z.cps.toList)=false from zz,Bool.and_false]]
  refine⟨_,Z,iteT ⟨_,Z,(by show 2<=sizeLine;decide),λq2 nq2=>?_⟩⟩;have eC:Same HB (upd HB q2 (.tup [.str "refused",.str "text"])):=Same.upd nq2;have hq2:(upd HB q2 (HO.tup [V.str "refused",V.str "text"])) q2=some (.tup [.str "refused",.str "text"]):=zah;refine⟨_,_,rds2 (eC _ _ (eB _ _ hq)),rds2 hq2,by decide +kernel,by decide +kernel,?_⟩;rw[show PyData.eqv _ _=true by decide +kernel];exact k _
 ·dsimp only[za4];subst hrr;refine⟨_,Z,_,Z,(m:Int),Z,_,Z,zgx (by omega) (by omega),z,m,Z,m4,by omega,λHB eB=>?_⟩;rw[Yo z3,show ac m zS 0 (flt z.cps.toList)=true from az];refine⟨_,Z,iteF ?_⟩;refine⟨_,Z,_,Z,n,z,m,Z,n2,m4,z3,az,λHC b eC hb=>?_⟩;rw[hb.mpr bd];refine⟨_,Z,iteT ⟨_,Z,(by show 2<=sizeLine;decide),λq2 nq2=>?_⟩⟩;have eD:Same HC (upd HC q2 (.tup [.str "refused",.str "over"])):=Same.upd nq2;have hq2:(upd HC q2 (HO.tup [V.str "refused",V.str "over"])) q2=some (.tup [.str "refused",.str "over"]):=zah;refine⟨_,_,rds2 (eD _ _ (eC _ _ (eB _ _ hq))),rds2 hq2,by decide +kernel,by decide +kernel,?_⟩;rw[show PyData.eqv _ _=true by decide +kernel];exact k _
 ·dsimp only[za4];subst hrr;refine⟨_,Z,_,Z,(m:Int),Z,_,Z,zgx (by omega) (by omega),z,m,Z,m4,by omega,λHB eB=>?_⟩;rw[Yo z3,show ac m zS 0 (flt z.cps.toList)=true from az];refine⟨_,Z,iteF ?_⟩;refine⟨_,Z,_,Z,n,z,m,Z,n2,m4,z3,az,λHC b eC hb=>?_⟩;have b0:b=false:=by
   cases b with
   | false=>rfl
   | true=>exact absurd (hb.mp rfl) nb
  rw[b0];have hqC:=eC _ _ (eB _ _ hq);refine⟨_,Z,iteF ⟨_,Z,q,_,_,_,Z,Z,SqT.of hqC,Z,Z,?_⟩⟩;rw[Yo rfl];exact⟨_,Z,iteT ⟨_,Z,q,_,_,_,Z,Z,SqT.of hqC,Z,_,_,_,_,_,Z,Z,.dT (eC _ _ (eB _ _ hd)),T.kdd,k _⟩⟩
end
end K6
namespace PySem.W.Fast
def tw11616370428586362801:=0
def tw1799940251052414343:=0
def tw12992800566615567932:=0
def tw7491464035135723711:=0
def tw5515999551807185159:=0
def tw9443938982255124293:=0
def tw17176187550605776404:=0
def tw11887029450241782627:=0
def tw6851210126323975350:=0
def tw12288203013681267523:=0
def tw6180876172351388070:=0
def tw12979417106657461348:=0
def tw14903396189806976232:=0
def tw2232924476976054984:=0
def tw14807140399351346029:=0
def tw10048712109048691621:=0
def tw1905179712758204248:=0
def tw3143954918419342205:=0
def tw61052502474824808:=0
def tw7447184593747355894:=0
def tw12206840822428519245:=0
def tw10591245884428945416:=0
def tw12395205694826436138:=0
def tw11463619610426360553:=0
def tw7287098218278226497:=0
def tw7372897730265403496:=0
def tw14883622162350012992:=0
def tw2586405637953023028:=0
def tw15695802644883620562:=0
def tw5023234821345905769:=0
def tw2964562629049306370:=0
def tw8056425481251967045:=0
def tw18276876333811089855:=0
def tw7694261515112027367:=0
def tw1757198861465515232:=0
def tw5662324093518871726:=0
def tw14331963296525112257:=0
def tw12742048860135784498:=0
def tw14884578588252365886:=0
def tw6430436360117578809:=0
def tw10022033956332991410:=0
def tw3975511537066349793:=0
def tw18197293409106125929:=0
def tw65974025264607373:=0
def tw173335652414106831:=0
def tw5243114464235199270:=0
def tw10442605543822332061:=0
def tw1020811069411081134:=0
def tw8811027332332829205:=0
def tw1106060683230577653:=0
def tw11101705209097463202:=0
def tw2799873361459447939:=0
def tw13048858625248198184:=0
def tw3714800308175879637:=0
def tw15090857418111339131:=0
def tw16086458498561070633:=0
def tw11664360709065294646:=0
def tw15839691255315399837:=0
def tw1836409191008926084:=0
def tw2794096661843238571:=0
def tw18225628169908151005:=0
def tw17851113042524232694:=0
def tw9816733878952120701:=0
def tw2338788645498666659:=0
def tw14686273403271841564:=0
def tw2589655529789021266:=0
def tw401823565341964075:=0
def tw4762659558326710755:=0
def tw5683697483370607388:=0
def tw15586458369690966006:=0
def tw12812565381700052161:=0
def tw10584780467824505001:=0
def tw10460921315073206848:=0
def tw5139685809840357116:=0
def tw3551374664328165926:=0
def tw13105054356414151344:=0
def tw17710490832961283792:=0
def tw833930968838204649:=0
def tw15793659646382714068:=0
def tw11650423435454558309:=0
def tw5547419694842405172:=0
def tw9019726170479734913:=0
def tw3357997406316608656:=0
def tw646206103732118651:=0
def tw7615815780629685359:=0
def tw17578931764656534845:=0
def tw1924282452276681686:=0
def tw16946363297013139615:=0
def tw5453986625163573112:=0
def tw16145257189759849180:=0
def tw4131141415009298507:=0
def tw8380220445797479008:=0
def tw664812542879593700:=0
def tw3994299841351105733:=0
def tw8769456242082723204:=0
def tw5501678366773325167:=0
def tw8561209393364425258:=0
def tw16766202436259729063:=0
def tw17575701512285230403:=0
def tw7679749591009271866:=0
def tw2479642270754909691:=0
def tw4960478013323657409:=0
def tw879993140830247431:=0
def tw3126260048796225256:=0
def tw9767620285429750109:=0
def tw15645606986741450438:=0
def tw11064023015917426975:=0
def tw15012564147045709522:=0
def tw17206651740249480138:=0
def tw1459075257420838553:=0
def tw1205057338032344236:=0
def tw16317685024319847888:=0
def tw6296554557762891057:=0
def tw15491112280325254961:=0
def tw10673130305596229136:=0
def tw16178775595169809317:=0
def tw5881526334608904643:=0
def tw280590272299640528:=0
def tw9419117299464658317:=0
def tw5910648251007900765:=0
def tw751530514500218356:=0
def tw6431225062547540851:=0
def tw8982130197121684862:=0
def tw14463723852718212969:=0
def tw1031126027284036032:=0
def tw10035925666255448695:=0
def tw18041177361711613696:=0
def tw7993043038537919143:=0
def tw1497455838536551091:=0
def tw10587888874547146459:=0
def tw116394287323116373:=0
def tw9796714562244865416:=0
def tw8407191483109874262:=0
def tw14690137523008991310:=0
def tw3748544556190168304:=0
def tw2678903421931761365:=0
def tw11640789371283573974:=0
def tw12421026218938185638:=0
def tw5889801738556962987:=0
def tw16602610313912962317:=0
def tw17239610446061748688:=0
def tw14249760324967229894:=0
def tw1146893309531615885:=0
def tw9515279050726135255:=0
def tw1273397297857132888:=0
def tw12446955292544788848:=0
def tw15363213179033947527:=0
def tw2607644321964691785:=0
def tw6382818976032346250:=0
def tw7716400044303729470:=0
def tw5417603101663831407:=0
def tw10145005987442318117:=0
def tw5293017819076900195:=0
def tw8710203693768115865:=0
def tw9749865283462006732:=0
def tw12154570285864458112:=0
def tw3147002018156149496:=0
def tw2719430985077282444:=0
def tw5486302104003839479:=0
def tw3613746661216748241:=0
def tw15184280786490770919:=0
def tw5446624086679852591:=0
def tw2755205675597315797:=0
def tw15061323126402837286:=0
def tw674996824835332159:=0
def tw11354892163184178319:=0
def tw9769072666612906541:=0
def tw7039255332550258499:=0
def tw12450891170049490560:=0
def tw3473512301275795078:=0
def tw18414199776871035702:=0
def tw10365023371837689399:=0
def tw17366002954556762262:=0
def tw4173130195620324337:=0
def tw14329069478389197632:=0
def tw16693326431040757111:=0
def tw14722037337782690616:=0
def tw8211622772491805626:=0
def tw10425512157203681120:=0
def tw11421661770706500448:=0
def tw5385903744174304051:=0
def tw2306191825131439390:=0
def tw2262697180191795930:=0
def tw16788211947680503854:=0
def tw11423269272913688039:=0
def tw14363589005865092097:=0
def tw5672067363221220394:=0
def tw182432324026444371:=0
def tw12200308683112779609:=0
def tw5599336146519141603:=0
def tw3496949488833259553:=0
def tw14303350231257985256:=0
def tw3407044485409389361:=0
def tw8751524574733721622:=0
def tw14631741015932459014:=0
def tw11872079305876841856:=0
def tw11752160003320299354:=0
def tw3030029478950858213:=0
def tw13181154754634592971:=0
def tw15433992401157112189:=0
def tw17783288359533951071:=0
def tw13440233348111028846:=0
def tw1290502949935613339:=0
def tw2432020281396810225:=0
def tw15063213520484563645:=0
def tw7621754023315034533:=0
def tw13774257087594589777:=0
def tw4322100379172048418:=0
def tw14673627055016424691:=0
def tw15350083750733789310:=0
def tw2146346401866573831:=0
def tw10237617855857942140:=0
def tw5291623195167837522:=0
def tw127992828153542242:=0
def tw17188099710921234985:=0
def tw7539940349200280720:=0
def tw8605332237456434518:=0
def tw6057422930065818042:=0
def tw2808830854063505736:=0
def tw4140459012375226613:=0
def tw142122666331696867:=0
def tw15773562354065918926:=0
def tw8844448315014369192:=0
def tw14149149211754405209:=0
def tw9109454272620075064:=0
def tw1724425579854861145:=0
def tw16096006675747578171:=0
def tw1034954327856064942:=0
def tw16029153608505243181:=0
def tw8025194769746841937:=0
def tw10190764751022662926:=0
def tw8822421546247078227:=0
def tw9585228806778955258:=0
def tw7010329894381475431:=0
def tw6141080123926037249:=0
def tw15572917692948880403:=0
def tw5909872878314149153:=0
def tw12402103379395537210:=0
def tw5145540187852887825:=0
def tw8581919453440655324:=0
def tw6742030162196927491:=0
def tw9259631585444364946:=0
def tw10310086842375428160:=0
def tw16690389267092797996:=0
def tw8887977265617741474:=0
def tw4088845053558206828:=0
def tw4370784777640414229:=0
def tw10708737667798574154:=0
def tw1572274945733205807:=0
def tw7643200061882849705:=0
def tw18340546100900238239:=0
def tw1097243515674094536:=0
def tw1989824143324199255:=0
def tw17732297520972649502:=0
def tw13128370740047731960:=0
def tw968446850914501910:=0
def tw12650410925040061102:=0
def tw6342097384056636739:=0
def tw10518372850979436996:=0
def tw15039526645136029202:=0
def tw8687819200034817138:=0
def tw6811015127479742782:=0
def tw17385417406059762718:=0
def tw18072041901390633694:=0
def tw14129678087596967921:=0
def tw6048628187396827136:=0
def tw18197451104584683712:=0
def tw9960210298000103231:=0
def tw147639458632762178:=0
def tw4340750988501440990:=0
def tw14136454053212475465:=0
def tw9111714167175369571:=0
def tw11162450468329193810:=0
def tw1394817388763248481:=0
def tw924838665465221125:=0
def tw10660329943958236738:=0
def tw261490725758511252:=0
def tw17639017562480375838:=0
def tw13129152814585940895:=0
def tw15554756917634290364:=0
def tw17085555556688249161:=0
def tw337649895622065073:=0
def tw4834477488822557625:=0
def tw17906967483932843458:=0
def tw11261816773362540673:=0
def tw13722588236839596282:=0
def tw5870738735869277202:=0
def tw15331955237016771378:=0
def tw16266024078150933896:=0
def tw15440659045628008579:=0
def tw10664813525497329992:=0
def tw1999384244950584499:=0
def tw6640268536497916143:=0
def tw11558962401193085270:=0
def tw6061435198428995591:=0
def tw10125981684081161741:=0
def tw7083615281564170396:=0
def tw2658430353414847453:=0
def tw3451151474225999290:=0
def tw17413186405095457710:=0
def tw15648383306233344744:=0
def tw7640824620328896282:=0
def tw18139924686897866064:=0
def tw12075555478636555410:=0
def tw6058951800614265314:=0
def tw18036615612362133488:=0
def tw3164526249085059137:=0
def tw2462665639372342755:=0
def tw9893740904754400802:=0
def tw10089473646431414403:=0
def tw18047733960015643610:=0
def tw16646610019950389251:=0
def tw9477631214210455081:=0
def tw14041017916908589633:=0
def tw14265297635383119881:=0
def tw16873930624149288913:=0
def tw11588085615007755312:=0
def tw4312834455089016809:=0
def tw9962601170481887349:=0
def tw16992158251906469339:=0
def tw4534968268960672521:=0
def tw9588510949418506515:=0
def tw9029062158811683918:=0
def tw15358152174596847964:=0
def tw5376695728425603866:=0
def tw13714730123437572613:=0
def tw10262381839213838425:=0
def tw16393186175151913081:=0
def tw1739412451162855201:=0
def tw8112644961587149129:=0
def tw9796230044661284284:=0
def tw5439598285514644367:=0
def tw5749883910059699915:=0
def tw6823944860469827269:=0
def tw12049143351007095259:=0
def tw17790660738339341754:=0
def tw9325622731309705277:=0
def tw4748237946559040379:=0
def tw1595698229665708079:=0
def tw6977794999262683990:=0
def tw2371264377584548105:=0
def tw2963387942162013681:=0
def tw17932173730704677169:=0
def tw15293684590234396644:=0
def tw3768972638357930164:=0
def tw4156016829371669299:=0
def tw3202990047152413830:=0
def tw12246735707014611572:=0
def tw14561135972763982816:=0
def tw12324941781029459996:=0
def tw2266218391884362704:=0
def tw5284014580707782740:=0
def tw7258278170546649479:=0
def tw11405877894754507035:=0
def tw1229425796683915383:=0
def tw10481740765652443179:=0
def tw2748004609793400723:=0
def tw9824951036562781204:=0
def tw11372831286529439086:=0
def tw16559611250911544894:=0
def tw4508490675513357010:=0
def tw2583187567489479125:=0
def tw1528015730811621837:=0
def tw4870224802341897942:=0
def tw17892409309286039100:=0
def tw17866138887144685527:=0
def tw3287105394793244294:=0
def tw18390536217654134808:=0
def tw11965938778905554837:=0
def tw3405798295287621555:=0
def tw12635412728149876431:=0
def tw12511844126998387994:=0
def tw10702633632345414065:=0
def tw5998998839607162298:=0
def tw11145661918994819278:=0
def tw107298960159307994:=0
def tw13099603334316535974:=0
def tw1928476650769974157:=0
def tw15428327071393219500:=0
def tw6129421200939876454:=0
def tw10219044266751485235:=0
def tw10598100003980348735:=0
def tw7074693897649349168:=0
def tw8369695286904356530:=0
def tw11040718658627721779:=0
def tw10460250645381293087:=0
def tw7114099547154470451:=0
def tw5277007228151553960:=0
def tw16001587820084565301:=0
def tw1837490376750900911:=0
def tw1913222192842381939:=0
def tw5832255358502938365:=0
def tw11308748502146108597:=0
def tw15952676300290797980:=0
def tw14148627836317661945:=0
def tw14869442964338371922:=0
def tw14032292762788683999:=0
def tw5973462964088085436:=0
def tw16821389831818194487:=0
def tw13537352964611215866:=0
def tw13437982728570376470:=0
def tw10267807205196225614:=0
def tw14006578332464830344:=0
def tw17715660709330936004:=0
def tw13030558498059234298:=0
def tw13609067640628472107:=0
def tw5642393271397747276:=0
def tw18372015054605900727:=0
def tw8580812269414457281:=0
def tw18427914006883843983:=0
def tw17734772751907587002:=0
def tw4402322639574346808:=0
def tw14153884846274709239:=0
def tw2075928207147163584:=0
def tw12867505610588933080:=0
def tw2263594120965901824:=0
def tw13190819381653256057:=0
def tw14156628500786212029:=0
def tw1296389802732209612:=0
def tw16835539071734164511:=0
def tw15564377279371313673:=0
def tw1024324365613628096:=0
def tw5138897839871539558:=0
def tw9660764152968891061:=0
def tw309109785192427026:=0
def tw6033306866844214821:=0
def tw10692456559598233813:=0
def tw10714887230574562107:=0
def tw16872462147439034367:=0
def tw10580014025332750999:=0
def tw9702425350425129137:=0
def tw3489069330115590652:=0
def tw15737150819221763130:=0
def tw10018215496335098938:=0
def tw5210453505194470034:=0
def tw16334285949974785966:=0
def tw246449056991297230:=0
def tw6910999885052296004:=0
def tw7089001463073037577:=0
def tw9138838876808469596:=0
def tw13587437460568382074:=0
def tw12200688442225221949:=0
def tw3920332885445895039:=0
def tw11910203881742565502:=0
def tw211568283286845991:=0
def tw3177489942974753424:=0
def tw4110921353431262099:=0
def tw1422884998007707511:=0
def tw6577164537107493486:=0
def tw17654326549085802282:=0
def tw3516219779394072431:=0
def tw3825283875465484439:=0
def tw6164539947202274128:=0
def tw14253924457851025360:=0
def tw18337925247954814532:=0
def tw12011195515470200130:=0
def tw3853984766731852364:=0
def tw8431792404957354679:=0
def tw4354278763113574570:=0
def tw17378998311506501358:=0
def tw1973834948988558749:=0
def tw2263116772844682158:=0
def tw17664633170884388280:=0
def tw490655086910194358:=0
def tw5596978208149612646:=0
def tw11670659235843542000:=0
def tw6702048439742390561:=0
def tw11499282626261395568:=0
def tw11355742417703377343:=0
def tw2858197591870741383:=0
def tw17484056559234242123:=0
def tw16396084693501143464:=0
def tw1191029239572648949:=0
def tw18325088072612478990:=0
def tw10226166559683691457:=0
def tw14834769328576376591:=0
def tw13658272940794563055:=0
def tw13797886545745614113:=0
def tw15121575007431969391:=0
def tw15904767792617769201:=0
def tw1714174150940235700:=0
def tw34555520837211922:=0
def tw822992005808714294:=0
def tw1664317317017451143:=0
def tw17599064034970026786:=0
def tw14432370324415934909:=0
def tw18395035910716644507:=0
def tw10082713705879999718:=0
def tw2609806026542531819:=0
def tw17193490477203084765:=0
def tw13488535987164763053:=0
def tw5710399656797627738:=0
def tw6349701659047817844:=0
def tw2956428071954629887:=0
def tw11977108634342672765:=0
def tw1285317958743329560:=0
def tw6327185293689674597:=0
def tw14999561915666477804:=0
def tw1958446490998280398:=0
def tw16960696202777263748:=0
end PySem.W.Fast
namespace K6
open PySem L2
theorem bl1{α : Type}{P:List α->Prop}(h:∀a,P [a]):∀us:List α,us.length=1->P us
 | [a],_=>h a
theorem bl2{α : Type}{P:List α->Prop}(h:∀a b,P [a,b]):∀us:List α,us.length=2->P us
 | [a,b],_=>h a b
theorem bl3{α : Type}{P:List α->Prop}(h:∀a b c,P [a,b,c]):∀us:List α,us.length=3->P us
 | [a,b,c],_=>h a b c
theorem bl4{α : Type}{P:List α->Prop}(h:∀a b c d,P [a,b,c,d]):∀us:List α,us.length=4->P us
 | [a,b,c,d],_=>h a b c d
theorem bl5{α : Type}{P:List α->Prop}(h:∀a b c d e,P [a,b,c,d,e]):∀us:List α,us.length=5->P us
 | [a,b,c,d,e],_=>h a b c d e
inductive FnE(K:W.Frag)(f:Addr)(nm qn:Str)(st:Stmt):Prop
 | mk {oc kV dc pm cd ct:Value} {od an:Option Addr} {sl:Array (Option Value)} (l:K.lookup f=some ⟨oc,od,.func (W.fnOf nm qn (zcv st) (zb5 st) (zak st) .none kV dc pm an cd ct),sl⟩) (c:W.codeIn K cd qn=true) (k:W.keepIn K (.ref f)=true):FnE K f nm qn st
theorem FnE.ob{K:W.Frag}{f:Addr}{nm qn:Str}{st:Stmt}{ps:List Str}(e:FnE K f nm qn st)(h:∀(kV doc pm:Value) (an:Option Addr) (cdv ct:Value) (us:List Value),us.length=ps.length->bindArgs (W.fnOf nm qn (zcv st) (zb5 st) (zak st) .none kV doc pm an cdv ct) ⟨us,[]⟩=pure (ps.zip us)):∃fd,FunD K nm qn st .none f fd/\Binds K fd ps []/\W.keepIn K (.ref f)=true:=by
 obtain⟨l,c,k⟩:=e;exact⟨_,zfu l c,(zfu l c).binds h,k⟩
theorem all_mk{l:W.OpenLaw}{w:World}{K:W.Frag}{h:Heap}{mg:Str->Option Value}{fa:Addr}(X:K.In h)(G:h.Ns mainGlobals mg)(hfa:mg "law" = some (.ref fa))
  {zau:Addr} {zad:Addr} {zaj:Addr} {zag:Addr} {zab:Addr} {f_0:Addr} {f_1:Addr} {f_2:Addr} {Cq_2:Addr} {f_3:Addr} {f_4:Addr} {f_5:Addr} {f_6:Addr} {od_6 an_6:Option Addr} {sl_6:Array (Option Value)} {oc_6 kV_6 dc_6 pm_6 cd_6 ct_6:Value} {T_6:Addr} {tu_6:Value} {td_6:Option Addr} {tn_6:Nat} {ts_6:Array (Option Value)} {tk_6:Tok} {f_7:Addr} {f_8:Addr} {f_9:Addr} {f_10:Addr} {f_11:Addr} {f_12:Addr} {f_13:Addr} {f_14:Addr} {f_15:Addr} {f_16:Addr} {od_16 an_16:Option Addr} {sl_16:Array (Option Value)} {oc_16 kV_16 dc_16 pm_16 cd_16 ct_16:Value} {T_16:Addr} {tu_16:Value} {td_16:Option Addr} {tn_16:Nat} {ts_16:Array (Option Value)} {tk_16:Tok} {f_17:Addr} {f_18:Addr} {f_19:Addr} {f_20:Addr} {f_21:Addr} {f_22:Addr} {f_23:Addr} {f_24:Addr} {f_25:Addr} {f_26:Addr} {f_27:Addr} {f_28:Addr} {f_29:Addr} {f_30:Addr} {f_31:Addr} {f_32:Addr} {f_33:Addr} {f_34:Addr} {f_35:Addr} {f_36:Addr} {f_37:Addr} {f_38:Addr} {f_39:Addr} {f_40:Addr} {f_41:Addr} {f_42:Addr} {f_43:Addr} {f_44:Addr} {f_45:Addr} {f_46:Addr} {f_47:Addr} {f_48:Addr} {f_49:Addr} {f_50:Addr} {f_51:Addr} {f_52:Addr} {f_53:Addr} {f_54:Addr} {f_55:Addr} {f_56:Addr} {od_56 an_56:Option Addr} {sl_56:Array (Option Value)} {oc_56 kV_56 dc_56 pm_56 cd_56 ct_56:Value} {zam:Addr} {bm_NoOver:List Value} {nid_NoOver:String} {ini_NoOver B_NoOver:String} {zb0:Addr} {bm_NoPrime:List Value} {nid_NoPrime:String} {ini_NoPrime B_NoPrime:String} {zdf:Addr} {bm_NoRing:List Value} {nid_NoRing:String} {ini_NoRing B_NoRing:String} {zal:Addr} {bm_NoText:List Value} {nid_NoText:String} {ini_NoText B_NoText:String} {za8:Addr} {bm_RoomError:List Value} {nid_RoomError:String} {ini_RoomError B_RoomError:String} {tg_END:Tok} {tg_FIGURES:Tok} {tg_GREATEST_PRIME:Tok} {tg_LETTERS:Tok} {tg_MOST_DEPTH:Tok} {tg_MOST_SIGNS:Tok} {tg_NUMBER_FIGURES:Tok} {tg_POWER_FIGURES:Tok}
  (je:W.nsIn K mainGlobals "Ring" = some (some (.ref zau)))
  (gu:W.plainGet K zau Str.empty=true)
  (gv:W.hasDictIn K zau=true)
  (gw:W.plainOver K zau=true)
  (gx:W.findIn K (.ref zau) "__setattr__" = some (some (.builtin "object.__setattr__")))
  (gz:W.makesIn K zau=true)
  (g9:W.keepIn K (.ref zau)=true)
  (a8:W.findIn K (.ref zau) "many" = some none)
  (aq:W.findIn K (.ref zau) "field" = some none)
  (ar:W.findIn K (.ref zau) "order" = some none)
  (b5:W.nsIn K mainGlobals "Fractions" = some (some (.ref zad)))
  (a9:W.plainGet K zad Str.empty=true)
  (ba:W.hasDictIn K zad=true)
  (bc:W.plainOver K zad=true)
  (bf:W.findIn K (.ref zad) "__setattr__" = some (some (.builtin "object.__setattr__")))
  (bg:W.makesIn K zad=true)
  (bh:W.keepIn K (.ref zad)=true)
  (aa:W.findIn K (.ref zad) "prime" = some none)
  (h7:W.nsIn K mainGlobals "Rests" = some (some (.ref zaj)))
  (fy:W.plainGet K zaj Str.empty=true)
  (f6:W.hasDictIn K zaj=true)
  (f7:W.plainOver K zaj=true)
  (f8:W.findIn K (.ref zaj) "__setattr__" = some (some (.builtin "object.__setattr__")))
  (f9:W.makesIn K zaj=true)
  (gc:W.keepIn K (.ref zaj)=true)
  (ak:W.findIn K (.ref zaj) "prime" = some none)
  (h9:W.nsIn K mainGlobals "Order" = some (some (.ref zag)))
  (gf:W.plainGet K zag Str.empty=true)
  (gg:W.hasDictIn K zag=true)
  (gh:W.plainOver K zag=true)
  (gi:W.findIn K (.ref zag) "__setattr__" = some (some (.builtin "object.__setattr__")))
  (gj:W.makesIn K zag=true)
  (gk:W.findIn K (.ref zag) "__init__" = some (some (.builtin "object.__init__")))
  (gl:W.keepIn K (.ref zag)=true)
  (gm:W.nsIn K mainGlobals "Reader" = some (some (.ref zab)))
  (dk:W.plainGet K zab Str.empty=true)
  (dm:W.hasDictIn K zab=true)
  (dq:W.plainOver K zab=true)
  (dt:W.findIn K (.ref zab) "__setattr__" = some (some (.builtin "object.__setattr__")))
  (du:W.makesIn K zab=true)
  (dy:W.keepIn K (.ref zab)=true)
  (ad:W.findIn K (.ref zab) "unknowns" = some none)
  (am:W.findIn K (.ref zab) "text" = some none)
  (bi:W.findIn K (.ref zab) "at" = some none)
  (ag:W.findIn K (.ref zab) "depth" = some none)
  (r8:W.nsIn K mainGlobals "shared_divisor" = some (some (.ref f_0)))
  (r9:FnE K f_0 "shared_divisor" "shared_divisor" zcb)
  (se:W.nsIn K mainGlobals "is_prime" = some (some (.ref f_1)))
  (sf:FnE K f_1 "is_prime" "is_prime" ze1)
  (jv:W.nsIn K mainGlobals "Field" = some (some (.ref Cq_2)))
  (jw:W.readsIn K Cq_2 (.type "type")=true)
  (jx:W.findCls K (.ref Cq_2) (.type "type") "__init__" = some (.val (.ref f_2)))
  (jy:W.specialIn K (.ref Cq_2) "__getattribute__" = some (some (.builtin "type.__getattribute__")))
  (sk:W.isFn K (.ref f_2)=true)
  (sr:FnE K f_2 "__init__" "Field.__init__" zci)
  (au:W.findIn K (.ref zad) "__init__" = some (some (.ref f_3)))
  (su:W.isFn K (.ref f_3)=true)
  (sv:FnE K f_3 "__init__" "Fractions.__init__" zbo)
  (av:W.findIn K (.ref zad) "nought" = some (some (.ref f_4)))
  (sw:W.isFn K (.ref f_4)=true)
  (sx:FnE K f_4 "nought" "Fractions.nought" zbv)
  (aw:W.findIn K (.ref zad) "one" = some (some (.ref f_5)))
  (sy:W.isFn K (.ref f_5)=true)
  (tj:FnE K f_5 "one" "Fractions.one" zct)
  (a5:W.findIn K (.ref zad) "made" = some (some (.ref f_6)))
  (tm:W.isFn K (.ref f_6)=true)
  (tq:K.lookup f_6=some ⟨oc_6,od_6,.func (W.fnOf "made" "Fractions.made" (zcv zbb) (zb5 zbb) (zak zbb) (.ref T_6) kV_6 dc_6 pm_6 an_6 cd_6 ct_6),sl_6⟩)
  (tu:K.lookup T_6=some ⟨tu_6,td_6,.seq #[.int 1 tk_6] tn_6,ts_6⟩)
  (tw:W.codeIn K cd_6 "Fractions.made" = true)
  (t7:W.keepIn K (.ref f_6)=true)
  (a6:W.findIn K (.ref zad) "plus" = some (some (.ref f_7)))
  (t8:W.isFn K (.ref f_7)=true)
  (t9:FnE K f_7 "plus" "Fractions.plus" zcf)
  (a7:W.findIn K (.ref zad) "times" = some (some (.ref f_8)))
  (ua:W.isFn K (.ref f_8)=true)
  (uc:FnE K f_8 "times" "Fractions.times" zb6)
  (dz:W.findIn K (.ref zaj) "__init__" = some (some (.ref f_9)))
  (ud:W.isFn K (.ref f_9)=true)
  (ue:FnE K f_9 "__init__" "Rests.__init__" zcc)
  (cu:W.findIn K (.ref zaj) "nought" = some (some (.ref f_10)))
  (j3:W.isFn K (.ref f_10)=true)
  (j5:FnE K f_10 "nought" "Rests.nought" zc2)
  (cv:W.findIn K (.ref zaj) "one" = some (some (.ref f_11)))
  (j7:W.isFn K (.ref f_11)=true)
  (j8:FnE K f_11 "one" "Rests.one" zef)
  (cx:W.findIn K (.ref zaj) "plus" = some (some (.ref f_12)))
  (j9:W.isFn K (.ref f_12)=true)
  (ka:FnE K f_12 "plus" "Rests.plus" zdl)
  (cy:W.findIn K (.ref zaj) "times" = some (some (.ref f_13)))
  (kc:W.isFn K (.ref f_13)=true)
  (ke:FnE K f_13 "times" "Rests.times" zde)
  (cz:W.findIn K (.ref zaj) "turned" = some (some (.ref f_14)))
  (kf:W.isFn K (.ref f_14)=true)
  (kh:FnE K f_14 "turned" "Rests.turned" zcx)
  (da:W.findIn K (.ref zaj) "over" = some (some (.ref f_15)))
  (ki:W.isFn K (.ref f_15)=true)
  (kj:FnE K f_15 "over" "Field.over" zdx)
  (db:W.findIn K (.ref zaj) "made" = some (some (.ref f_16)))
  (kl:W.isFn K (.ref f_16)=true)
  (km:K.lookup f_16=some ⟨oc_16,od_16,.func (W.fnOf "made" "Rests.made" (zcv zbt) (zb5 zbt) (zak zbt) (.ref T_16) kV_16 dc_16 pm_16 an_16 cd_16 ct_16),sl_16⟩)
  (kq:K.lookup T_16=some ⟨tu_16,td_16,.seq #[.int 1 tk_16] tn_16,ts_16⟩)
  (ku:W.codeIn K cd_16 "Rests.made" = true)
  (k8:W.keepIn K (.ref f_16)=true)
  (df:W.findIn K (.ref zag) "fits" = some (some (.ref f_17)))
  (k9:W.isFn K (.ref f_17)=true)
  (lg:FnE K f_17 "fits" "Order.fits" zdr)
  (d6:W.findIn K (.ref zau) "__init__" = some (some (.ref f_18)))
  (lh:W.isFn K (.ref f_18)=true)
  (lu:FnE K f_18 "__init__" "Ring.__init__" zcu)
  (ma:W.nsIn K mainGlobals "product" = some (some (.ref f_19)))
  (md:FnE K f_19 "product" "product" zfp)
  (mh:W.nsIn K mainGlobals "absorb" = some (some (.ref f_20)))
  (mi:FnE K f_20 "absorb" "absorb" zgt)
  (mj:W.nsIn K mainGlobals "scaled" = some (some (.ref f_21)))
  (ml:FnE K f_21 "scaled" "scaled" zgr)
  (mm:W.nsIn K mainGlobals "times" = some (some (.ref f_22)))
  (mn:FnE K f_22 "times" "times" ziu)
  (d9:W.findIn K (.ref zau) "unit" = some (some (.ref f_23)))
  (mq:W.isFn K (.ref f_23)=true)
  (mr:FnE K f_23 "unit" "Ring.unit" zeg)
  (b7:W.findIn K (.ref zab) "sign" = some (some (.ref f_24)))
  (mt:W.isFn K (.ref f_24)=true)
  (mv:FnE K f_24 "sign" "Reader.sign" zdd)
  (b9:W.findIn K (.ref zab) "passes" = some (some (.ref f_25)))
  (mx:W.isFn K (.ref f_25)=true)
  (my:FnE K f_25 "passes" "Reader.passes" zcq)
  (cb:W.findIn K (.ref zab) "__init__" = some (some (.ref f_26)))
  (m7:W.isFn K (.ref f_26)=true)
  (m8:FnE K f_26 "__init__" "Reader.__init__" zb4)
  (cf:W.findIn K (.ref zab) "figures" = some (some (.ref f_27)))
  (m9:W.isFn K (.ref f_27)=true)
  (ng:FnE K f_27 "figures" "Reader.figures" zcd)
  (cg:W.findIn K (.ref zab) "number" = some (some (.ref f_28)))
  (nh:W.isFn K (.ref f_28)=true)
  (ni:FnE K f_28 "number" "Reader.number" zcm)
  (ci:W.findIn K (.ref zab) "power" = some (some (.ref f_29)))
  (nj:W.isFn K (.ref f_29)=true)
  (nk:FnE K f_29 "power" "Reader.power" zc3)
  (cj:W.findIn K (.ref zab) "factor" = some (some (.ref f_30)))
  (nr:W.isFn K (.ref f_30)=true)
  (nu:FnE K f_30 "factor" "Reader.factor" zcp)
  (ck:W.findIn K (.ref zab) "factors" = some (some (.ref f_31)))
  (nw:W.isFn K (.ref f_31)=true)
  (n8:FnE K f_31 "factors" "Reader.factors" zce)
  (cm:W.findIn K (.ref zab) "parts" = some (some (.ref f_32)))
  (n9:W.isFn K (.ref f_32)=true)
  (oa:FnE K f_32 "parts" "Reader.parts" zbp)
  (cn:W.findIn K (.ref zab) "bracket" = some (some (.ref f_33)))
  (og:W.isFn K (.ref f_33)=true)
  (oh:FnE K f_33 "bracket" "Reader.bracket" zca)
  (cq:W.findIn K (.ref zab) "whole_sum" = some (some (.ref f_34)))
  (oj:W.isFn K (.ref f_34)=true)
  (om:FnE K f_34 "whole_sum" "Reader.whole_sum" zbw)
  (eh:W.findIn K (.ref zau) "constant" = some (some (.ref f_35)))
  (ot:W.isFn K (.ref f_35)=true)
  (ou:FnE K f_35 "constant" "Ring.constant" zcr)
  (ox:W.nsIn K mainGlobals "alone" = some (some (.ref f_36)))
  (oy:FnE K f_36 "alone" "alone" zi3)
  (oz:W.nsIn K mainGlobals "sum_of" = some (some (.ref f_37)))
  (o5:FnE K f_37 "sum_of" "sum_of" zek)
  (o6:W.nsIn K mainGlobals "factor_of" = some (some (.ref f_38)))
  (o7:FnE K f_38 "factor_of" "factor_of" zei)
  (et:W.findIn K (.ref zau) "letters" = some (some (.ref f_39)))
  (o9:W.isFn K (.ref f_39)=true)
  (pc:FnE K f_39 "letters" "Ring.letters" zcy)
  (pd:W.nsIn K mainGlobals "read" = some (some (.ref f_40)))
  (pe:FnE K f_40 "read" "read" zlx)
  (ph:W.nsIn K mainGlobals "_law_cell_at" = some (some (.ref f_41)))
  (pi:FnE K f_41 "_law_cell_at" "_law_cell_at" zcz)
  (pj:W.nsIn K mainGlobals "_law_is_prime" = some (some (.ref f_42)))
  (pq:FnE K f_42 "_law_is_prime" "_law_is_prime" zcn)
  (p6:W.nsIn K mainGlobals "_law_field" = some (some (.ref f_43)))
  (qa:FnE K f_43 "_law_field" "_law_field" zds)
  (qc:W.nsIn K mainGlobals "_law_prime" = some (some (.ref f_44)))
  (qd:FnE K f_44 "_law_prime" "_law_prime" zdn)
  (qe:W.nsIn K mainGlobals "_law_factor" = some (some (.ref f_45)))
  (qg:FnE K f_45 "_law_factor" "_law_factor" zdc)
  (qh:W.nsIn K mainGlobals "_law_built" = some (some (.ref f_46)))
  (qi:FnE K f_46 "_law_built" "_law_built" zdk)
  (qj:W.nsIn K mainGlobals "_law_sign" = some (some (.ref f_47)))
  (qk:FnE K f_47 "_law_sign" "_law_sign" zd9)
  (ql:W.nsIn K mainGlobals "_law_changed" = some (some (.ref f_48)))
  (qm:FnE K f_48 "_law_changed" "_law_changed" zc4)
  (qo:W.nsIn K mainGlobals "_law_is_figures" = some (some (.ref f_49)))
  (qp:FnE K f_49 "_law_is_figures" "_law_is_figures" zb3)
  (qq:W.nsIn K mainGlobals "_law_is_factor" = some (some (.ref f_50)))
  (qr:FnE K f_50 "_law_is_factor" "_law_is_factor" zch)
  (qt:W.nsIn K mainGlobals "_law_is_flat" = some (some (.ref f_51)))
  (qu:FnE K f_51 "_law_is_flat" "_law_is_flat" zc0)
  (qv:W.nsIn K mainGlobals "_law_deep" = some (some (.ref f_52)))
  (qw:FnE K f_52 "_law_deep" "_law_deep" zd5)
  (qx:W.nsIn K mainGlobals "_law_is_text" = some (some (.ref f_53)))
  (qy:FnE K f_53 "_law_is_text" "_law_is_text" zc5)
  (qz:W.nsIn K mainGlobals "_law_has_nought_below" = some (some (.ref f_54)))
  (q0:FnE K f_54 "_law_has_nought_below" "_law_has_nought_below" zbf)
  (rc:W.nsIn K mainGlobals "_law_read" = some (some (.ref f_55)))
  (rf:FnE K f_55 "_law_read" "_law_read" zea)
  (rg:W.nsIn K mainGlobals "law" = some (some (.ref f_56)))
  (rh:K.lookup f_56=some ⟨oc_56,od_56,.func (W.fnOf "law" "law" (zcv zgy) (zb5 zgy) (zak zgy) .none kV_56 dc_56 pm_56 an_56 cd_56 ct_56),sl_56⟩)
  (ri:W.codeIn K cd_56 "law" = true)
  (rj:W.keepIn K (.ref f_56)=true)
  (gp:W.nsIn K mainGlobals "NoOver" = some (some (.ref zam)))
  (fb:ExcBaseFacts B_NoOver nid_NoOver ini_NoOver bm_NoOver)
  (fc:W.excIn K zam bm_NoOver nid_NoOver=true)
  (fg:W.exmOne K (.ref zam) (.ref zam)=some true)
  (fh:W.nsIn K mainGlobals "NoPrime" = some (some (.ref zb0)))
  (dg:ExcBaseFacts B_NoPrime nid_NoPrime ini_NoPrime bm_NoPrime)
  (dh:W.excIn K zb0 bm_NoPrime nid_NoPrime=true)
  (di:W.exmOne K (.ref zb0) (.ref zb0)=some true)
  (gq:W.nsIn K mainGlobals "NoRing" = some (some (.ref zdf)))
  (fi:ExcBaseFacts B_NoRing nid_NoRing ini_NoRing bm_NoRing)
  (fj:W.excIn K zdf bm_NoRing nid_NoRing=true)
  (fk:W.exmOne K (.ref zdf) (.ref zdf)=some true)
  (gr:W.nsIn K mainGlobals "NoText" = some (some (.ref zal)))
  (fm:ExcBaseFacts B_NoText nid_NoText ini_NoText bm_NoText)
  (fq:W.excIn K zal bm_NoText nid_NoText=true)
  (ft:W.exmOne K (.ref zal) (.ref zal)=some true)
  (cr:W.nsIn K mainGlobals "RoomError" = some (some (.ref za8)))
  (bj:ExcBaseFacts B_RoomError nid_RoomError ini_RoomError bm_RoomError)
  (bn:W.excIn K za8 bm_RoomError nid_RoomError=true)
  (bo:W.exmOne K (.ref za8) (.ref za8)=some true)
  (jh:W.kitOne K (.type "dict") (.type "dict")=some true)
  (ig:W.findIn K (.ref zal) "__getattribute__" = some (some (.builtin "BaseException.__getattribute__")))
  (ii:W.findIn K (.ref zal) "__getattr__" = some none)
  (ij:W.findIn K (.ref zal) "__class__" = some (some (.builtin "object.__class__")))
  (ik:W.specialIn K (.builtin "object.__class__") "__get__" = some (some (.builtin "getset_descriptor.__get__")))
  (im:W.takesIn K (.builtin "object.__class__")=some true)
  (io:W.mroIn K zal (.type "object")=some true)
  (iq:W.mroIn K zal (.type "BaseException")=some true)
  (ir:W.hasDictIn K zal=true)
  (iu:W.findIn K (.ref zam) "__getattribute__" = some (some (.builtin "BaseException.__getattribute__")))
  (iw:W.findIn K (.ref zam) "__getattr__" = some none)
  (iz:W.findIn K (.ref zam) "__class__" = some (some (.builtin "object.__class__")))
  (i7:W.specialIn K (.builtin "object.__class__") "__get__" = some (some (.builtin "getset_descriptor.__get__")))
  (i8:W.takesIn K (.builtin "object.__class__")=some true)
  (i9:W.mroIn K zam (.type "object")=some true)
  (ja:W.mroIn K zam (.type "BaseException")=some true)
  (jb:W.hasDictIn K zam=true)
  (ji:W.exmOne K (.ref zal) (.ref za8)=some true)
  (jm:W.exmOne K (.ref zam) (.ref za8)=some true)
  (rm:W.kitOne K (.ref zal) (.ref zal)=some true)
  (rn:W.kitOne K (.ref zal) (.ref zam)=some false)
  (ro:W.kitOne K (.ref zal) (.type "ValueError")=some true)
  (rp:W.kitOne K (.ref zam) (.ref zal)=some false)
  (rq:W.kitOne K (.ref zam) (.ref zam)=some true)
  (r0:W.kitOne K (.ref zam) (.type "ValueError")=some true)
  (bq:W.nsIn K mainGlobals "ValueError" = some none)
  (jn:W.nsIn K mainGlobals "abs" = some none)
  (jo:W.nsIn K mainGlobals "all" = some none)
  (jf:W.nsIn K mainGlobals "dict" = some none)
  (jp:W.nsIn K mainGlobals "int" = some none)
  (br:W.nsIn K mainGlobals "isinstance" = some none)
  (jq:W.nsIn K mainGlobals "len" = some none)
  (jg:W.nsIn K mainGlobals "list" = some none)
  (jr:W.nsIn K mainGlobals "max" = some none)
  (jc:W.nsIn K mainGlobals "range" = some none)
  (js:W.nsIn K mainGlobals "str" = some none)
  (jd:W.nsIn K mainGlobals "tuple" = some none)
  (jt:W.nsIn K mainGlobals "zip" = some none)
  (ju:W.nsIn K mainGlobals "END" = some (some (.str " " tg_END)))
  (fu:W.nsIn K mainGlobals "FIGURES" = some (some (.str "0123456789" tg_FIGURES)))
  (ae:W.nsIn K mainGlobals "GREATEST_PRIME" = some (some (.int 9973 tg_GREATEST_PRIME)))
  (fw:W.nsIn K mainGlobals "LETTERS" = some (some (.str "xyzt" tg_LETTERS)))
  (bu:W.nsIn K mainGlobals "MOST_DEPTH" = some (some (.int 8 tg_MOST_DEPTH)))
  (bv:W.nsIn K mainGlobals "MOST_SIGNS" = some (some (.int 300 tg_MOST_SIGNS)))
  (af:W.nsIn K mainGlobals "NUMBER_FIGURES" = some (some (.int 30 tg_NUMBER_FIGURES)))
  (ah:W.nsIn K mainGlobals "POWER_FIGURES" = some (some (.int 2 tg_POWER_FIGURES)))
  : ∃fd:FuncData,(∀(s:Shared) (v:Value),BindsTo s fd ⟨[v],[]⟩ [("_law_script",v)])/\∀base:Heap,K.In base->base.Ns mainGlobals mg->FnOk l.prog w K mg base CX0 206 fa fd ["_law_script"] (zpm K):=by
 have e:=hfa.symm.trans (W.mg_of X G rg)
 cases e;obtain⟨_,F_0,b_0,k_0⟩:=FnE.ob (ps:=["one","other"]) r9 λ_ _ _ _ _ _=>bl2 λ_ _=>rfl
 obtain⟨_,F_1,b_1,k_1⟩:=FnE.ob (ps:=["number"]) sf λ_ _ _ _ _ _=>bl1 λ_=>rfl
 obtain⟨_,F_2,b_2,k_2⟩:=FnE.ob (ps:=["self","prime"]) sr λ_ _ _ _ _ _=>bl2 λ_ _=>rfl
 obtain⟨_,F_3,b_3,k_3⟩:=FnE.ob (ps:=["self"]) sv λ_ _ _ _ _ _=>bl1 λ_=>rfl
 obtain⟨_,F_4,b_4,k_4⟩:=FnE.ob (ps:=["self"]) sx λ_ _ _ _ _ _=>bl1 λ_=>rfl
 obtain⟨_,F_5,b_5,k_5⟩:=FnE.ob (ps:=["self"]) tj λ_ _ _ _ _ _=>bl1 λ_=>rfl
 have F_6:=zfu (st:=zbb) tq tw;have b_6:=F_6.bindsD (ps:=["self","top","bottom"]) (ds:=[]) tu rfl λ_ _ _ _ _ _ us hl=>by
  have hl:us.length=3:=by simpa using hl
  exact match us,hl with | [_,_,_],_=>⟨_,Z,Z⟩
 have bd_6:=F_6.bindsD (ps:=["self","top","bottom"]) (ds:=[.int 1 tk_6]) tu rfl λ_ _ _ _ _ _ us hl=>by
  have hl:us.length=2:=by simpa using hl
  exact match us,hl with | [_,_],_=>⟨_,Z,Z⟩
 obtain⟨_,F_7,b_7,k_7⟩:=FnE.ob (ps:=["self","a","b"]) t9 λ_ _ _ _ _ _=>bl3 λ_ _ _=>rfl
 obtain⟨_,F_8,b_8,k_8⟩:=FnE.ob (ps:=["self","a","b"]) uc λ_ _ _ _ _ _=>bl3 λ_ _ _=>rfl
 obtain⟨_,F_9,b_9,k_9⟩:=FnE.ob (ps:=["self","prime"]) ue λ_ _ _ _ _ _=>bl2 λ_ _=>rfl
 obtain⟨_,F_10,b_10,k_10⟩:=FnE.ob (ps:=["self"]) j5 λ_ _ _ _ _ _=>bl1 λ_=>rfl
 obtain⟨_,F_11,b_11,k_11⟩:=FnE.ob (ps:=["self"]) j8 λ_ _ _ _ _ _=>bl1 λ_=>rfl
 obtain⟨_,F_12,b_12,k_12⟩:=FnE.ob (ps:=["self","a","b"]) ka λ_ _ _ _ _ _=>bl3 λ_ _ _=>rfl
 obtain⟨_,F_13,b_13,k_13⟩:=FnE.ob (ps:=["self","a","b"]) ke λ_ _ _ _ _ _=>bl3 λ_ _ _=>rfl
 obtain⟨_,F_14,b_14,k_14⟩:=FnE.ob (ps:=["self","a"]) kh λ_ _ _ _ _ _=>bl2 λ_ _=>rfl
 obtain⟨_,F_15,b_15,k_15⟩:=FnE.ob (ps:=["self","a","b"]) kj λ_ _ _ _ _ _=>bl3 λ_ _ _=>rfl
 have F_16:=zfu (st:=zbt) km ku;have b_16:=F_16.bindsD (ps:=["self","top","bottom"]) (ds:=[]) kq rfl λ_ _ _ _ _ _ us hl=>by
  have hl:us.length=3:=by simpa using hl
  exact match us,hl with | [_,_,_],_=>⟨_,Z,Z⟩
 have bd_16:=F_16.bindsD (ps:=["self","top","bottom"]) (ds:=[.int 1 tk_16]) kq rfl λ_ _ _ _ _ _ us hl=>by
  have hl:us.length=2:=by simpa using hl
  exact match us,hl with | [_,_],_=>⟨_,Z,Z⟩
 obtain⟨_,F_17,b_17,k_17⟩:=FnE.ob (ps:=["self","many"]) lg λ_ _ _ _ _ _=>bl2 λ_ _=>rfl
 obtain⟨_,F_18,b_18,k_18⟩:=FnE.ob (ps:=["self","many","field","order"]) lu λ_ _ _ _ _ _=>bl4 λ_ _ _ _=>rfl
 obtain⟨_,F_19,b_19,k_19⟩:=FnE.ob (ps:=["one","other"]) md λ_ _ _ _ _ _=>bl2 λ_ _=>rfl
 obtain⟨_,F_20,b_20,k_20⟩:=FnE.ob (ps:=["ring","total","f"]) mi λ_ _ _ _ _ _=>bl3 λ_ _ _=>rfl
 obtain⟨_,F_21,b_21,k_21⟩:=FnE.ob (ps:=["ring","number","term","f"]) ml λ_ _ _ _ _ _=>bl4 λ_ _ _ _=>rfl
 obtain⟨_,F_22,b_22,k_22⟩:=FnE.ob (ps:=["ring","f","g"]) mn λ_ _ _ _ _ _=>bl3 λ_ _ _=>rfl
 obtain⟨_,F_23,b_23,k_23⟩:=FnE.ob (ps:=["self"]) mr λ_ _ _ _ _ _=>bl1 λ_=>rfl
 obtain⟨_,F_24,b_24,k_24⟩:=FnE.ob (ps:=["self"]) mv λ_ _ _ _ _ _=>bl1 λ_=>rfl
 obtain⟨_,F_25,b_25,k_25⟩:=FnE.ob (ps:=["self","sign"]) my λ_ _ _ _ _ _=>bl2 λ_ _=>rfl
 obtain⟨_,F_26,b_26,k_26⟩:=FnE.ob (ps:=["self","unknowns","text"]) m8 λ_ _ _ _ _ _=>bl3 λ_ _ _=>rfl
 obtain⟨_,F_27,b_27,k_27⟩:=FnE.ob (ps:=["self","most"]) ng λ_ _ _ _ _ _=>bl2 λ_ _=>rfl
 obtain⟨_,F_28,b_28,k_28⟩:=FnE.ob (ps:=["self"]) ni λ_ _ _ _ _ _=>bl1 λ_=>rfl
 obtain⟨_,F_29,b_29,k_29⟩:=FnE.ob (ps:=["self"]) nk λ_ _ _ _ _ _=>bl1 λ_=>rfl
 obtain⟨_,F_30,b_30,k_30⟩:=FnE.ob (ps:=["self"]) nu λ_ _ _ _ _ _=>bl1 λ_=>rfl
 obtain⟨_,F_31,b_31,k_31⟩:=FnE.ob (ps:=["self"]) n8 λ_ _ _ _ _ _=>bl1 λ_=>rfl
 obtain⟨_,F_32,b_32,k_32⟩:=FnE.ob (ps:=["self"]) oa λ_ _ _ _ _ _=>bl1 λ_=>rfl
 obtain⟨_,F_33,b_33,k_33⟩:=FnE.ob (ps:=["self"]) oh λ_ _ _ _ _ _=>bl1 λ_=>rfl
 obtain⟨_,F_34,b_34,k_34⟩:=FnE.ob (ps:=["self"]) om λ_ _ _ _ _ _=>bl1 λ_=>rfl
 obtain⟨_,F_35,b_35,k_35⟩:=FnE.ob (ps:=["self","number"]) ou λ_ _ _ _ _ _=>bl2 λ_ _=>rfl
 obtain⟨_,F_36,b_36,k_36⟩:=FnE.ob (ps:=["many","at","power"]) oy λ_ _ _ _ _ _=>bl3 λ_ _ _=>rfl
 obtain⟨_,F_37,b_37,k_37⟩:=FnE.ob (ps:=["ring","parts"]) o5 λ_ _ _ _ _ _=>bl2 λ_ _=>rfl
 obtain⟨_,F_38,b_38,k_38⟩:=FnE.ob (ps:=["ring","factor"]) o7 λ_ _ _ _ _ _=>bl2 λ_ _=>rfl
 obtain⟨_,F_39,b_39,k_39⟩:=FnE.ob (ps:=["self"]) pc λ_ _ _ _ _ _=>bl1 λ_=>rfl
 obtain⟨_,F_40,b_40,k_40⟩:=FnE.ob (ps:=["ring","text"]) pe λ_ _ _ _ _ _=>bl2 λ_ _=>rfl
 obtain⟨_,F_41,b_41,k_41⟩:=FnE.ob (ps:=["_law_script","_law_k"]) pi λ_ _ _ _ _ _=>bl2 λ_ _=>rfl
 obtain⟨_,F_42,b_42,k_42⟩:=FnE.ob (ps:=["_law_number"]) pq λ_ _ _ _ _ _=>bl1 λ_=>rfl
 obtain⟨_,F_43,b_43,k_43⟩:=FnE.ob (ps:=["_law_p"]) qa λ_ _ _ _ _ _=>bl1 λ_=>rfl
 obtain⟨_,F_44,b_44,k_44⟩:=FnE.ob (ps:=["_law_cell"]) qd λ_ _ _ _ _ _=>bl1 λ_=>rfl
 obtain⟨_,F_45,b_45,k_45⟩:=FnE.ob (ps:=["_law_many","_law_cell"]) qg λ_ _ _ _ _ _=>bl2 λ_ _=>rfl
 obtain⟨_,F_46,b_46,k_46⟩:=FnE.ob (ps:=["_law_many","_law_cells"]) qi λ_ _ _ _ _ _=>bl2 λ_ _=>rfl
 obtain⟨_,F_47,b_47,k_47⟩:=FnE.ob (ps:=["_law_cell"]) qk λ_ _ _ _ _ _=>bl1 λ_=>rfl
 obtain⟨_,F_48,b_48,k_48⟩:=FnE.ob (ps:=["_law_text","_law_kind","_law_cell"]) qm λ_ _ _ _ _ _=>bl3 λ_ _ _=>rfl
 obtain⟨_,F_49,b_49,k_49⟩:=FnE.ob (ps:=["_law_text","_law_most"]) qp λ_ _ _ _ _ _=>bl2 λ_ _=>rfl
 obtain⟨_,F_50,b_50,k_50⟩:=FnE.ob (ps:=["_law_text","_law_names"]) qr λ_ _ _ _ _ _=>bl2 λ_ _=>rfl
 obtain⟨_,F_51,b_51,k_51⟩:=FnE.ob (ps:=["_law_text","_law_names"]) qu λ_ _ _ _ _ _=>bl2 λ_ _=>rfl
 obtain⟨_,F_52,b_52,k_52⟩:=FnE.ob (ps:=["_law_text"]) qw λ_ _ _ _ _ _=>bl1 λ_=>rfl
 obtain⟨_,F_53,b_53,k_53⟩:=FnE.ob (ps:=["_law_text","_law_names"]) qy λ_ _ _ _ _ _=>bl2 λ_ _=>rfl
 obtain⟨_,F_54,b_54,k_54⟩:=FnE.ob (ps:=["_law_p","_law_text"]) q0 λ_ _ _ _ _ _=>bl2 λ_ _=>rfl
 obtain⟨_,F_55,b_55,k_55⟩:=FnE.ob (ps:=["_law_ring","_law_text"]) rf λ_ _ _ _ _ _=>bl2 λ_ _=>rfl
 have F_56:=zfu (st:=zgy) rh ri;have b_56:=F_56.binds (ps:=["_law_script"]) λ_ _ _ _ _ _=>bl1 λ_=>rfl
 refine⟨W.fnOf "law" "law" (zcv zgy) (zb5 zgy) (zak zgy) .none kV_56 dc_56 pm_56 an_56 cd_56 ct_56,λs v=>.of_eq rfl,λbase kb nb=>?_⟩;have T:Txt l.prog w K mg base zau zad zaj zag zab:=⟨W.mg_none_of X G bq,W.mg_none_of X G jn,W.mg_none_of X G jo,W.mg_none_of X G jf,W.mg_none_of X G jp,W.mg_none_of X G br,W.mg_none_of X G jq,W.mg_none_of X G jg,W.mg_none_of X G jr,W.mg_none_of X G jc,W.mg_none_of X G js,W.mg_none_of X G jd,W.mg_none_of X G jt,⟨gu,gv,gw,gx⟩,W.mg_of X G je,a8,aq,ar,⟨a9,ba,bc,bf⟩,W.mg_of X G b5,aa,⟨fy,f6,f7,f8⟩,W.mg_of X G h7,ak,⟨gf,gg,gh,gi⟩,W.mg_of X G h9,⟨gj,gk,gl⟩,⟨dk,dm,dq,dt⟩,W.mg_of X G gm,ad,am,bi,ag,⟨_,W.mg_of X G ju⟩,⟨_,W.mg_of X G fu⟩,⟨_,W.mg_of X G ae⟩,⟨_,W.mg_of X G fw⟩,⟨_,W.mg_of X G bu⟩,⟨_,W.mg_of X G bv⟩,⟨_,W.mg_of X G af⟩,⟨_,W.mg_of X G ah⟩,jh⟩;have x_NoOver:Exc K mg base "NoOver" zam:=⟨⟨_,_,_,_,zh4 kb nb gp fc,fb⟩,W.mg_of X G gp,fg⟩;have x_NoPrime:Exc K mg base "NoPrime" zb0:=⟨⟨_,_,_,_,zh4 kb nb fh dh,dg⟩,W.mg_of X G fh,di⟩;have x_NoRing:Exc K mg base "NoRing" zdf:=⟨⟨_,_,_,_,zh4 kb nb gq fj,fi⟩,W.mg_of X G gq,fk⟩;have x_NoText:Exc K mg base "NoText" zal:=⟨⟨_,_,_,_,zh4 kb nb gr fq,fm⟩,W.mg_of X G gr,ft⟩;have x_RoomError:Exc K mg base "RoomError" za8:=⟨⟨_,_,_,_,zh4 kb nb cr bn,bj⟩,W.mg_of X G cr,bo⟩;have G_Shared:=zmu T F_0;have c_Shared:Cal _ _ _ _ _ _ _ _ _ _ _:=⟨_,_,G_Shared,b_0,k_0,W.mg_of X G r8⟩;have G_Prime:=zpn T F_1;have c_Prime:Cal _ _ _ _ _ _ _ _ _ _ _:=⟨_,_,G_Prime,b_1,k_1,W.mg_of X G se⟩;have G_FieldInit:=zik T F_2;have q_FieldInit:CCal _ _ _ _ _ _ _ _ _ _ _ _:=⟨_,_,_,G_FieldInit,b_2,⟨⟨_,jw,jx⟩,jy,k_2⟩,W.mg_of X G jv⟩;have G_FracInit:=zix T F_3 q_FieldInit;have k_FracInit:Mak _ _ _ _ _ _ _ _ _ _ _ _:=⟨⟨_,_,G_FracInit,b_3,⟨bg,au,su,bh⟩⟩,T.mg_Fractions⟩;have G_Nought:=zls T F_4;have mf_Nought:MCal l.prog w K mg base CX0 1 zad "nought" ["self"] [] (spNo 0 0 (AtF zad)):=⟨⟨_,_,((G_Nought).imp znh).mono (by decide),b_4,⟨av,sw,k_4⟩⟩,T.cl_Fractions⟩;have G_One:=zuy T F_5;have mf_One:MCal l.prog w K mg base CX0 1 zad "one" ["self"] [] (spNo 1 0 (AtF zad)):=⟨⟨_,_,((G_One).imp znh).mono (by decide),b_5,⟨aw,sy,k_5⟩⟩,T.cl_Fractions⟩;have G_Made:=ztg T F_6 c_Shared x_NoOver;have mf_Made:MCal l.prog w K mg base (CXe l.prog w) 6 zad "made" ["self","top","bottom"] [] (zhm 0 (AtF zad) zam):=⟨⟨_,_,((G_Made).imp zmf).mono (by decide),b_6,⟨a5,tm,t7⟩⟩,T.cl_Fractions⟩;have mf_Made1:MCal l.prog w K mg base (CXe l.prog w) 6 zad "made" ["self","top","bottom"] [.int 1 tk_6] (zhm 0 (AtF zad) zam):=⟨⟨_,_,((G_Made).imp zmf).mono (by decide),bd_6,⟨a5,tm,t7⟩⟩,T.cl_Fractions⟩;have G_PlusF:=zof T F_7 c_Shared;have mf_PlusF:MCal l.prog w K mg base CX0 3 zad "plus" ["self","a","b"] [] (spPl 0 (AtF zad)):=⟨⟨_,_,((G_PlusF).imp zt3).mono (by decide),b_7,⟨a6,t8,k_7⟩⟩,T.cl_Fractions⟩;have G_TimesF:=zlu T F_8 c_Shared;have mf_TimesF:MCal l.prog w K mg base CX0 3 zad "times" ["self","a","b"] [] (spTi 0 (AtF zad)):=⟨⟨_,_,((G_TimesF).imp zry).mono (by decide),b_8,⟨a7,ua,k_8⟩⟩,T.cl_Fractions⟩;have G_RestsInit:=zh6 T F_9 c_Prime q_FieldInit x_NoPrime;have k_RestsInit:Mak _ _ _ _ _ _ _ _ _ _ _ _:=⟨⟨_,_,G_RestsInit,b_9,⟨f9,dz,ud,gc⟩⟩,T.mg_Rests⟩
 have G_NoughtR:=zk7 T F_10 ;have mf_NoughtR:∀n:Int,K3.Pr n->MCal l.prog w K mg base CX0 1 zaj "nought" ["self"] [] (spNo 0 n (AtR zaj n)):=λn hn=>⟨⟨_,_,((G_NoughtR).imp (zob hn (by decide) (by decide))).mono (by decide),b_10,⟨cu,j3,k_10⟩⟩,T.cl_Rests⟩
 have G_OneR:=zup T F_11 ;have mf_OneR:∀n:Int,K3.Pr n->MCal l.prog w K mg base CX0 1 zaj "one" ["self"] [] (spNo 1 n (AtR zaj n)):=λn hn=>⟨⟨_,_,((G_OneR).imp (zob hn (by decide) (by decide))).mono (by decide),b_11,⟨cv,j7,k_11⟩⟩,T.cl_Rests⟩
 have G_PlusR:=zpx T F_12 ;have mf_PlusR:∀n:Int,K3.Pr n->MCal l.prog w K mg base CX0 3 zaj "plus" ["self","a","b"] [] (spPl n (AtR zaj n)):=λn hn=>⟨⟨_,_,((G_PlusR).imp (zui hn)).mono (by decide),b_12,⟨cx,j9,k_12⟩⟩,T.cl_Rests⟩
 have G_TimesR:=zlr T F_13 ;have m_TimesR:MCal _ _ _ _ _ _ _ _ _ _ _ _:=⟨⟨_,_,G_TimesR,b_13,⟨cy,kc,k_13⟩⟩,T.cl_Rests⟩;have mf_TimesR:∀n:Int,K3.Pr n->MCal l.prog w K mg base CX0 3 zaj "times" ["self","a","b"] [] (spTi n (AtR zaj n)):=λn hn=>⟨⟨_,_,((G_TimesR).imp (ztq hn)).mono (by decide),b_13,⟨cy,kc,k_13⟩⟩,T.cl_Rests⟩
 have G_TuR:=zwa T F_14 x_NoOver ;have m_TuR:MCal _ _ _ _ _ _ _ _ _ _ _ _:=⟨⟨_,_,G_TuR,b_14,⟨cz,kf,k_14⟩⟩,T.cl_Rests⟩;have G_OvR:=zvj T F_15 m_TuR m_TimesR;have m_OvR:MCal _ _ _ _ _ _ _ _ _ _ _ _:=⟨⟨_,_,G_OvR,b_15,⟨da,ki,k_15⟩⟩,T.cl_Rests⟩;have G_MadeR:=zp9 T F_16 m_OvR;have mf_MadeR:∀n:Int,K3.Pr n->MCal l.prog w K mg base (CXe l.prog w) 6 zaj "made" ["self","top","bottom"] [] (zhm n (AtR zaj n) zam):=λn hn=>⟨⟨_,_,((G_MadeR).imp (zmi hn)).mono (by decide),b_16,⟨db,kl,k8⟩⟩,T.cl_Rests⟩
 have mf_MadeR1:∀n:Int,K3.Pr n->MCal l.prog w K mg base (CXe l.prog w) 6 zaj "made" ["self","top","bottom"] [.int 1 tk_16] (zhm n (AtR zaj n) zam):=λn hn=>⟨⟨_,_,((G_MadeR).imp (zmi hn)).mono (by decide),bd_16,⟨db,kl,k8⟩⟩,T.cl_Rests⟩
 have hfld:∀n:Int,n<=9973->(n=0\/K3.Pr n)->∃C,FldP l.prog w K mg base C (AtN zad zaj n) n:=by
  rintro n n1 (rfl | n2)
  ·exact⟨zad,zwq mf_Nought mf_PlusF mf_TimesF⟩
  ·exact⟨zaj,zws n2 (mf_NoughtR n n2) (mf_PlusR n n2) (mf_TimesR n n2)⟩
 have hfle:∀n:Int,n<=9973->(n=0\/K3.Pr n)->∃C,FldE l.prog w K mg base zam C (AtN zad zaj n) n:=by
  rintro n n1 (rfl | n2)
  ·have e:AtN zad zaj 0=AtF zad:=Yl rfl;rw[e];exact⟨zad,λh=>h,mf_One,mf_Nought,mf_Made,⟨_,mf_Made1⟩⟩
  ·have e:AtN zad zaj n=AtR zaj n:=Yh (λz=>by have:=n2.1;omega);rw[e];exact⟨zaj,λh=>⟨_,h.choose_spec.1⟩,mf_OneR n n2,mf_NoughtR n n2,mf_MadeR n n2,⟨_,mf_MadeR1 n n2⟩⟩
 have G_FitsO:=zpj T F_17 ;have m_FitsO:MCal _ _ _ _ _ _ _ _ _ _ _ _:=⟨⟨_,_,G_FitsO,b_17,⟨df,k9,k_17⟩⟩,T.cl_Order⟩;have G_RgInit:=zln T F_18 m_FitsO x_NoRing;have k_RgInit:Mak _ _ _ _ _ _ _ _ _ _ _ _:=⟨⟨_,_,G_RgInit,b_18,⟨gz,d6,lh,g9⟩⟩,T.mg_Ring⟩;have G_Prod:=zs6 T F_19;have c_Prod:Cal _ _ _ _ _ _ _ _ _ _ _:=⟨_,_,G_Prod,b_19,k_19,W.mg_of X G ma⟩;have G_Absorb:=zlm T F_20 hfld;have c_Absorb:Cal _ _ _ _ _ _ _ _ _ _ _:=⟨_,_,G_Absorb,b_20,k_20,W.mg_of X G mh⟩;have G_Scal:=zs9 T F_21 c_Prod hfld;have c_Scal:Cal _ _ _ _ _ _ _ _ _ _ _:=⟨_,_,G_Scal,b_21,k_21,W.mg_of X G mj⟩;have G_TimP:=zt5 T F_22 c_Scal c_Absorb;have c_TimP:Cal _ _ _ _ _ _ _ _ _ _ _:=⟨_,_,G_TimP,b_22,k_22,W.mg_of X G mm⟩;have G_Un:=zxy T F_23;have m_Un:MCal _ _ _ _ _ _ _ _ _ _ _ _:=⟨⟨_,_,G_Un,b_23,⟨d9,mq,k_23⟩⟩,T.cl_Ring⟩;have G_Sig:=zwm T F_24;have m_Sig:MCal _ _ _ _ _ _ _ _ _ _ _ _:=⟨⟨_,_,G_Sig,b_24,⟨b7,mt,k_24⟩⟩,T.cl_Reader⟩;have G_Pas:=zxv T F_25 m_Sig;have m_Pas:MCal _ _ _ _ _ _ _ _ _ _ _ _:=⟨⟨_,_,G_Pas,b_25,⟨b9,mx,k_25⟩⟩,T.cl_Reader⟩;have G_RI:=zx6 T F_26;have k_RI:Mak _ _ _ _ _ _ _ _ _ _ _ _:=⟨⟨_,_,G_RI,b_26,⟨du,cb,m7,dy⟩⟩,T.mg_Reader⟩;have G_Fig:=zvi T F_27 m_Sig x_NoText;have m_Fig:MCal _ _ _ _ _ _ _ _ _ _ _ _:=⟨⟨_,_,G_Fig,b_27,⟨cf,m9,k_27⟩⟩,T.cl_Reader⟩;have G_Nu:=zyi T F_28 m_Fig m_Pas;have m_Nu:MCal _ _ _ _ _ _ _ _ _ _ _ _:=⟨⟨_,_,G_Nu,b_28,⟨cg,nh,k_28⟩⟩,T.cl_Reader⟩;have G_Po:=zx0 T F_29 m_Sig m_Pas m_Fig;have m_Po:MCal _ _ _ _ _ _ _ _ _ _ _ _:=⟨⟨_,_,G_Po,b_29,⟨ci,nj,k_29⟩⟩,T.cl_Reader⟩;have G_Fac:=fun(q e:Nat) (mB:MCal l.prog w K mg base (CXe l.prog w) q zab "bracket" ["self"] [] (zpv zab zal e))=>zw7 T F_30 m_Sig m_Nu m_Po m_Pas x_NoText mB
 have G_Fcs:=fun(q e:Nat) (mF:MCal l.prog w K mg base (CXe l.prog w) q zab "factor" ["self"] [] (spFc zab zal e))=>zwv T F_31 m_Pas mF
 have G_Pts:=fun(q e:Nat) (mF:MCal l.prog w K mg base (CXe l.prog w) q zab "factors" ["self"] [] (zpz zab zal e))=>zuw T F_32 m_Pas m_Sig mF
 have G_Brk:=fun(q e:Nat) (sP:Sp) (mP:MCal l.prog w K mg base (CXe l.prog w) q zab "parts" ["self"] [] sP) (he:e<=8) (hP:e<8->sP=zij zab zal (e+1))=>zu3 T F_33 m_Pas x_NoText mP he hP
 have G_PtV:=zvh T F_32 ;have hrec:∀(q e:Nat) (sP:Sp),MCal l.prog w K mg base (CXe l.prog w) q zab "parts" ["self"] [] sP->e<=8->(e<8->sP=zij zab zal (e+1))->MCal l.prog w K mg base (CXe l.prog w) (q+13) zab "parts" ["self"] [] (zij zab zal e):=λq e sP mP he hP=>by
  have mB:MCal l.prog w K mg base (CXe l.prog w) (q+3) zab "bracket" ["self"] [] (zpv zab zal e):=⟨⟨_,_,G_Brk q e sP mP he hP,b_33,⟨cn,og,k_33⟩⟩,T.cl_Reader⟩;have mf:MCal l.prog w K mg base (CXe l.prog w) (q+3+4) zab "factor" ["self"] [] (spFc zab zal e):=⟨⟨_,_,G_Fac _ e mB,b_30,⟨cj,nr,k_30⟩⟩,T.cl_Reader⟩;have mfs:MCal l.prog w K mg base (CXe l.prog w) (q+3+4+3) zab "factors" ["self"] [] (zpz zab zal e):=⟨⟨_,_,G_Fcs _ e mf,b_31,⟨ck,nw,k_31⟩⟩,T.cl_Reader⟩;exact⟨⟨_,_,G_Pts _ e mfs,b_32,⟨cm,n9,k_32⟩⟩,T.cl_Reader⟩
 have hdep:∀d:Nat,d<=8->MCal l.prog w K mg base (CXe l.prog w) (14+13*d) zab "parts" ["self"] [] (zij zab zal (8-d)):=by
  intro d;induction d with
  | zero=>exact λ_=>hrec 1 8 _ ⟨⟨_,_,G_PtV,b_32,⟨cm,n9,k_32⟩⟩,T.cl_Reader⟩ (Yi _) (λh=>absurd h (by decide))
  | succ d ih=>
   intro hd;rw[show 14+13*(d+1)=14+13*d+13 by omega];exact hrec _ _ _ (ih (by omega)) (by omega) (λ_=>by rw[show 8-(d+1)+1=8-d by omega])
 have mP0:MCal l.prog w K mg base (CXe l.prog w) 130 zab "parts" ["self"] [] (zij zab zal 0):=by
  obtain⟨⟨f,fd,F,r⟩,c⟩:=hdep 8 (Yi _);exact⟨⟨f,fd,F.mono (by decide),r⟩,c⟩
 have G_Ws:=zyf T F_34 m_Sig x_NoText mP0;have m_Ws:MCal _ _ _ _ _ _ _ _ _ _ _ _:=⟨⟨_,_,G_Ws,b_34,⟨cq,oj,k_34⟩⟩,T.cl_Reader⟩;have G_Con:=zu6 T F_35 m_Un hfle;have m_Con:MCal _ _ _ _ _ _ _ _ _ _ _ _:=⟨⟨_,_,G_Con,b_35,⟨eh,ot,k_35⟩⟩,T.cl_Ring⟩;have G_Alone:=zox T F_36;have c_Alone:Cal _ _ _ _ _ _ _ _ _ _ _:=⟨_,_,G_Alone,b_36,k_36,W.mg_of X G ox⟩;have G_SumV:=zs3 T F_37;have G_FO:=fun(q n:Nat) (sS:Sp) (cS:Cal l.prog w K mg base (CXe l.prog w) q "sum_of" ["ring","parts"] [] sS) (hS:∀n',n=n'+1->sS=zic zam zau zad zaj zag zag zag zag n')=>zxx T F_38 m_Con c_Alone hfle cS hS
 have G_Sum:=fun(q n:Nat) (cF0:Cal l.prog w K mg base (CXe l.prog w) q "factor_of" ["ring","factor"] [] (spFO zam zau zad zaj zag zag zag zag n))=>zwr T F_37 m_Con c_TimP c_Absorb hfle cF0
 have hrs:∀(q n:Nat) (sS:Sp),Cal l.prog w K mg base (CXe l.prog w) q "sum_of" ["ring","parts"] [] sS->(∀n',n=n'+1->sS=zic zam zau zad zaj zag zag zag zag n')->Cal l.prog w K mg base (CXe l.prog w) (q+18) "sum_of" ["ring","parts"] [] (zic zam zau zad zaj zag zag zag zag n):=λq n sS cS hS=>by
  have cF:Cal l.prog w K mg base (CXe l.prog w) (q+9) "factor_of" ["ring","factor"] [] (spFO zam zau zad zaj zag zag zag zag n):=⟨_,_,G_FO q n sS cS hS,b_38,k_38,W.mg_of X G o6⟩;exact⟨_,_,G_Sum _ n cF,b_37,k_37,W.mg_of X G oz⟩
 have hsum:∀n:Nat,Cal l.prog w K mg base (CXe l.prog w) (19+18*n) "sum_of" ["ring","parts"] [] (zic zam zau zad zaj zag zag zag zag n):=by
  intro n;induction n with
  | zero=>exact hrs 1 0 _ ⟨_,_,G_SumV,b_37,k_37,W.mg_of X G oz⟩ (λ_ h=>absurd h (by omega))
  | succ n ih=>
   rw[show 19+18*(n+1)=19+18*n+18 by omega];exact hrs _ _ _ ih (λn' h=>by rw[show n'=n by omega])
 have cS0:Cal l.prog w K mg base (CXe l.prog w) 200 "sum_of" ["ring","parts"] [] (zic zam zau zad zaj zag zag zag zag 8):=by
  obtain⟨f,fd,F,r⟩:=hsum 8;exact⟨f,fd,F.mono (by decide),r⟩
 have G_Letters:=zk2 T F_39 ;have m_Letters:MCal _ _ _ _ _ _ _ _ _ _ _ _:=⟨⟨_,_,G_Letters,b_39,⟨et,o9,k_39⟩⟩,T.cl_Ring⟩;have G_Read:=zsx T F_40 m_Ws m_Letters k_RI x_NoText cS0;have c_Read:Cal _ _ _ _ _ _ _ _ _ _ _:=⟨_,_,G_Read,b_40,k_40,W.mg_of X G pd⟩;have G_Cell:=zsp T F_41;have c_Cell:Cal _ _ _ _ _ _ _ _ _ _ _:=⟨_,_,G_Cell,b_41,k_41,W.mg_of X G ph⟩;have G_LPrime:=zm4 T F_42;have c_LPrime:Cal _ _ _ _ _ _ _ _ _ _ _:=⟨_,_,G_LPrime,b_42,k_42,W.mg_of X G pj⟩;have G_LFld:=zs5 T F_43 k_RestsInit k_FracInit;have c_LFld:Cal _ _ _ _ _ _ _ _ _ _ _:=⟨_,_,G_LFld,b_43,k_43,W.mg_of X G p6⟩;have G_LPr:=zw1 T F_44 c_LPrime;have c_LPr:Cal _ _ _ _ _ _ _ _ _ _ _:=⟨_,_,G_LPr,b_44,k_44,W.mg_of X G qc⟩;have G_Fct:=zv4 T F_45;have c_Fct:Cal _ _ _ _ _ _ _ _ _ _ _:=⟨_,_,G_Fct,b_45,k_45,W.mg_of X G qe⟩;have G_Blt:=zvo T F_46 c_Fct;have c_Blt:Cal _ _ _ _ _ _ _ _ _ _ _:=⟨_,_,G_Blt,b_46,k_46,W.mg_of X G qh⟩;have G_Sgn:=zu5 T F_47;have c_Sgn:Cal _ _ _ _ _ _ _ _ _ _ _:=⟨_,_,G_Sgn,b_47,k_47,W.mg_of X G qj⟩;have G_Chg:=zu8 T F_48 c_Sgn;have c_Chg:Cal _ _ _ _ _ _ _ _ _ _ _:=⟨_,_,G_Chg,b_48,k_48,W.mg_of X G ql⟩;have G_Fgs:=zwu T F_49;have c_Fgs:Cal _ _ _ _ _ _ _ _ _ _ _:=⟨_,_,G_Fgs,b_49,k_49,W.mg_of X G qo⟩;have G_IsF:=zww T F_50 c_Fgs;have c_IsF:Cal _ _ _ _ _ _ _ _ _ _ _:=⟨_,_,G_IsF,b_50,k_50,W.mg_of X G qq⟩;have G_Flat:=ztd T F_51 c_IsF;have c_Flat:Cal _ _ _ _ _ _ _ _ _ _ _:=⟨_,_,G_Flat,b_51,k_51,W.mg_of X G qt⟩;have G_Deep:=zs7 T F_52;have c_Deep:Cal _ _ _ _ _ _ _ _ _ _ _:=⟨_,_,G_Deep,b_52,k_52,W.mg_of X G qv⟩;have G_IsT:=zvc T F_53 c_Deep c_Flat;have c_IsT:Cal _ _ _ _ _ _ _ _ _ _ _:=⟨_,_,G_IsT,b_53,k_53,W.mg_of X G qx⟩;have G_NB:=zyb T F_54;have c_NB:Cal _ _ _ _ _ _ _ _ _ _ _:=⟨_,_,G_NB,b_54,k_54,W.mg_of X G qz⟩;have G_LR:=zx4 T F_55 c_Read x_RoomError x_NoText x_NoOver ji jm ⟨ig,ii,ij,ik,im,io,iq,ir⟩ ⟨iu,iw,iz,i7,i8,i9,ja,jb⟩ rm rn ro rp rq r0;have c_LR:Cal _ _ _ _ _ _ _ _ _ _ _:=⟨_,_,G_LR,b_55,k_55,W.mg_of X G rc⟩;exact zux T F_56 c_Cell c_LPr c_Blt c_Chg c_LFld k_RgInit c_LR c_IsT c_NB
theorem walk{l:W.OpenLaw}{q:Program}{loose:List Str}{XP:(Str->Option Value)->Heap->Prop}{YP:World->Heap->Prop}{d:DefRec}{K:Params->W.Frag}(hn:l.most=some 63)(hdf:d.params.defaults=[])
  (hY:∀(w:World) (h:Heap),YP w h->(K w.params).In h)
  (F:∀(w:World) (mg:Str->Option Value) (fa:Addr) (h:Heap),(K w.params).In h->h.Ns mainGlobals mg->mg d.name=some (.ref fa) ->
   ∃fd:FuncData,(∀(s:Shared) (u:Value),BindsTo s fd ⟨[u],[]⟩ [("_law_script",u)])/\∀base:Heap,(K w.params).In base->base.Ns mainGlobals mg->FnOk l.prog w (K w.params) mg base CX0 206 fa fd ["_law_script"] (zpm (K w.params))) :
  W.WalkO q loose XP YP l.row.toRowW d [] (λf vs=>PySem.call f vs):=
 L2.walk_of (n:=63) (k:=206) (x:="_law_script") (CX:=λ_=>CX0) (sp:=λw=>zpm (K w.params)) hn (by decide) hdf ⟨Z,by decide,by decide⟩ hY F (λ_ _ a ns hl _ hS=>⟨a,ns,Z,hS,hl,λ_=>Z⟩) λ_ _ _ _ _ z=>z
end K6
open PySem PySem.W PyProof.Rows
set_option maxRecDepth 100000 in
theorem PySem.Challenge.cw_idealroom_k15_texts_refused_holds : PySem.Challenge.rw_idealroom_k15_texts_refused.Holds := by
 w_on;o_law;k_head;(case hw=>w_witness2)
 k_fill
 refine K6.walk (l:=PySem.Challenge.rw_idealroom_k15_texts_refused) rfl rfl (λw h Y=>W.kIn_of Y) ?F
 case F=>
  intro w mg fa h KX G hmg;refine' K6.all_mk KX G hmg ?je ?gu ?gv ?gw ?gx ?gz ?g9 ?a8 ?aq ?ar ?b5 ?a9 ?ba ?bc ?bf ?bg ?bh ?aa ?h7 ?fy ?f6 ?f7 ?f8 ?f9 ?gc ?ak ?h9 ?gf ?gg ?gh ?gi ?gj ?gk ?gl ?gm ?dk ?dm ?dq ?dt ?du ?dy ?ad ?am ?bi ?ag ?r8 ?r9 ?se ?sf ?jv ?jw ?jx ?jy ?sk ?sr ?au ?su ?sv ?av ?sw ?sx ?aw ?sy ?tj ?a5 ?tm ?tq ?tu ?tw ?t7 ?a6 ?t8 ?t9 ?a7 ?ua ?uc ?dz ?ud ?ue ?cu ?j3 ?j5 ?cv ?j7 ?j8 ?cx ?j9 ?ka ?cy ?kc ?ke ?cz ?kf ?kh ?da ?ki ?kj ?db ?kl ?km ?kq ?ku ?k8 ?df ?k9 ?lg ?d6 ?lh ?lu ?ma ?md ?mh ?mi ?mj ?ml ?mm ?mn ?d9 ?mq ?mr ?b7 ?mt ?mv ?b9 ?mx ?my ?cb ?m7 ?m8 ?cf ?m9 ?ng ?cg ?nh ?ni ?ci ?nj ?nk ?cj ?nr ?nu ?ck ?nw ?n8 ?cm ?n9 ?oa ?cn ?og ?oh ?cq ?oj ?om ?eh ?ot ?ou ?ox ?oy ?oz ?o5 ?o6 ?o7 ?et ?o9 ?pc ?pd ?pe ?ph ?pi ?pj ?pq ?p6 ?qa ?qc ?qd ?qe ?qg ?qh ?qi ?qj ?qk ?ql ?qm ?qo ?qp ?qq ?qr ?qt ?qu ?qv ?qw ?qx ?qy ?qz ?q0 ?rc ?rf ?rg ?rh ?ri ?rj ?gp ?fb ?fc ?fg ?fh ?dg ?dh ?di ?gq ?fi ?fj ?fk ?gr ?fm ?fq ?ft ?cr ?bj ?bn ?bo ?jh ?ig ?ii ?ij ?ik ?im ?io ?iq ?ir ?iu ?iw ?iz ?i7 ?i8 ?i9 ?ja ?jb ?ji ?jm ?rm ?rn ?ro ?rp ?rq ?r0 ?bq ?jn ?jo ?jf ?jp ?br ?jq ?jg ?jr ?jc ?js ?jd ?jt ?ju ?fu ?ae ?fw ?bu ?bv ?af ?ah
  all_goals try first | k_is | exact .mk (by k_is) (by k_is) (by k_is) | exact PySem.F.excBase_ValueError | k_exc | kts_exm | kit_is
#print axioms PySem.Challenge.cw_idealroom_k15_texts_refused_holds
