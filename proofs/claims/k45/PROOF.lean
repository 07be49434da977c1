import PyProof.Rows.All
import Wide.All
import OpenK.AllK
import Wide.FinOn
import Lean
import PyProof.EqAt
import PyProof.EqKinds
import PyProof.TupleCall
import KE.KSortTup
import KE.KLam
import KE.KNestM
import KE.KDictList
import KE.KRevIter
import PyProof.ExcArgsOwn
import PyProof.NsDelKeeps
import PyProof.WalksEnum
import PyProof.EnumMake
import PySem.Challenge.RW_idealroom_k45_never_both
set_option maxHeartbeats 0
set_option Elab.async false
theorem Z.{u}{α:Sort u}{a:α}:a=a:=rfl
def Xh0{G:Prop}(h:∀g:Prop,(G->g)->g):G:=h G id
local macro_rules | `(tactic| lia) => `(tactic| first | lia +lia | omega)
local macro_rules | `(tactic| obtain $p:rcasesPatMed := $e) => `(tactic| (refine Xh0 fun g k => ?_; rcases $e:term with $p:rcasesPatMed <;> (refine k ?_; clear k g)))
local macro_rules | `(tactic| rintro $ps:rintroPat*) => do
 let mut a : Array (Lean.TSyntax `tactic) := #[]
 let mut b := a
 for p in ps do
  let q := p.raw[0]
  let x := Lean.mkIdent (.mkSimple s!"y_{b.size}")
  if (q.find? (·.isToken "|")).isSome then Lean.Macro.throwUnsupported
  if q[0].isIdent && q[0].getId != `rfl then a := a.push (← `(tactic| intro $(⟨q[0]⟩):ident))
  else
   a := a.push (← `(tactic| intro $x:ident))
   b := b.push (← `(tactic| rcases $x:ident with $(⟨q⟩):rcasesPat))
 if b.size < 1 then Lean.Macro.throwUnsupported
 `(tactic| ($[$a];*; refine Xh0 fun g k => ?_; $[$b];*; refine k ?_; clear k g))
abbrev Lg:=PySem.Addr
abbrev Lh:=PySem.Value
abbrev Li:=PySem.W.Frag
abbrev Lj:=PySem.Shared
abbrev Lk:=PySem.World
abbrev Ll:=PySem.Program
abbrev Lm:=PySem.Stmt
abbrev Ln:=PySem.Expr
abbrev Lo:=PySem.Heap
abbrev Lp:=PySem.Str
section
open PySem
abbrev Pa:List Lp:=["one","other"]
abbrev Pb:List Lp:=["_law_f","_law_term","_law_number","_law_prime_here"]
abbrev Pc:List Lp:=["_law_f","_law_number","_law_term","_law_g","_law_prime_here"]
abbrev Pd:List Lp:=["_law_f","_law_number","_law_g","_law_prime_here"]
abbrev Pe:List Lp:=["_law_order_here","_law_told","_law_poly_here","_law_cell_here","_law_wide","_law_prime_here"]
abbrev Pf:List Lp:=["_law_order_here","_law_f","_law_base_here","_law_prime_here"]
abbrev Pg:List Lp:=["_law_order_here","_law_base_here","_law_lists","_law_places","_law_prime_here"]
abbrev Ph:List Lp:=["_law_one","_law_other"]
abbrev Pi:List Lp:=["_law_f","_law_g","_law_prime_here"]
abbrev Pj:List Lp:=["_law_lists","_law_multiples","_law_many","_law_prime_here"]
abbrev Pk:List Lp:=["_law_order_here","_law_told","_law_wide","_law_prime_here"]
abbrev Pl:List Lp:=["ring","told","poly","paper"]
abbrev Pm:List Lp:=["_law_order_here","_law_f"]
abbrev Pn:List Lp:=["self","term"]
abbrev Pp:List Lp:=["_law_order_here","_law_f","_law_g","_law_prime_here"]
abbrev Pq:List Lp:=["ring","row"]
abbrev Ps:List Lp:=["self","ring","row"]
abbrev Pu:List Lp:=["_law_order_here","_law_term","_law_base_here"]
abbrev Pv:List Lp:=["_law_told","_law_base_here","_law_prime_here"]
abbrev Px:List Lp:=["_law_multiples","_law_row","_law_prime_here"]
abbrev Py:List Lp:=["_law_cells","_law_most","_law_prime_here"]
abbrev Pz:List Lp:=["ring","base","quotients","rest","poly"]
abbrev P1:List Lp:=["ring","multiples","row","f"]
abbrev P2:List Lp:=["prime","row","other","key"]
abbrev P4:List Lp:=["_law_cell_here"]
abbrev P7:List Lp:=["ring","multiples","row"]
abbrev P8:List Lp:=["ring","total","f"]
abbrev Na:List Lp:=["_law_number","_law_prime_here"]
abbrev Nb:List Lp:=["self","terms"]
abbrev Nc:List Lp:=["ring","f","g"]
abbrev Nd:List Lp:=["self","many","field","order"]
abbrev Nf:List Lp:=["self","i","j","one","other"]
abbrev Ng:List Lp:=["ring","lists","row","polys"]
abbrev Nh:List Lp:=["ring","number","term","f"]
abbrev Ni:List Lp:=["leads","turns","pair","k"]
abbrev Nj:List Lp:=["self","prime"]
abbrev Nk:List Lp:=["self","order","terms"]
abbrev Nl:List Lp:=["leads","turns","pair"]
abbrev Nm:List Lp:=["_law_script","_law_k"]
abbrev No:List Lp:=["ring","base","rest"]
abbrev Np:List Lp:=["self","a","b"]
abbrev Nq:List Lp:=["field","numbers"]
abbrev Nr:List Lp:=["term","row"]
abbrev Nt:List Lp:=["ring","f"]
abbrev Nu:List Lp:=["ring","leads"]
abbrev Nv:List Lp:=["self","rank"]
abbrev Nw:List Lp:=["prime","row"]
abbrev Nx:List Lp:=["self","left"]
abbrev Nz:List Lp:=["_law_number"]
abbrev N3:List Lp:=["_law_script"]
end
abbrev La:=List (PySem.Addr×PySem.Obj)
abbrev Va:=PySem.Value->PySem.Shared->Prop
abbrev Sa:=PySem.Str->Option PySem.Value
abbrev Lb:=List (List Int)
abbrev Lc:=List Int
abbrev Le:=List PySem.Addr
abbrev Ta:=Lean.Grind.Field
section
open PySem PyProof.Rows
abbrev Ya:=@wpAny_bind
abbrev Yb:=@wpAny_pure
abbrev Yc:=@List.getElem?_eq_getElem
abbrev Yd:=@List.length_map
abbrev Ye:=@Heap.get?_push_of_some
abbrev Yf:=@Nat.lt_of_lt_of_le
abbrev Yg:=@List.mem_append_right
abbrev Yh:=@if_neg
abbrev Yi:=@Nat.le_refl
abbrev Yj:=@List.mem_cons
abbrev Yk:=@Heap.get?_push_size
abbrev Yl:=@if_pos
abbrev Ym:=@List.getElem?_map
abbrev Yn:=@Heap.lt_size
abbrev Yo:=@decide_eq_true
abbrev Yp:=@Nat.lt_of_le_of_lt
abbrev Yq:=@List.mem_singleton
abbrev Yr:=@Nat.le_trans
abbrev Ys:=@List.size_toArray
abbrev Yt:=@Bool.false_ne_true
abbrev Yu:=@List.filter_eq_self
abbrev Yv:=@Nat.pow_le_pow_right
abbrev Yw:=@decide_eq_false
abbrev Yx:=@List.mem_of_getElem?
abbrev Yy:=@List.getElem?_eq_none
abbrev Yz:=@List.map_cons
abbrev Y0:=@Nat.ne_of_lt
abbrev Y1:=@Int.toNat_natCast
abbrev Y2:=@Nat.zero_le
abbrev Y3:=@Int.mul_le_mul_of_nonneg_left
abbrev Y4:=@List.length_cons
abbrev Y5:=@List.length_append
abbrev Y6:=@wpAny_dictEntries
abbrev Y7:=@wpAny_call_entry
abbrev Y8:=@List.not_mem_nil
abbrev Y9:=@List.length_eq_zero_iff
abbrev Ja:=@wpAny_callSpecial?_slot
abbrev Jb:=@Ne.symm
abbrev Jc:=@Int.emod_lt_of_pos
abbrev Jd:=@List.mem_iff_getElem?
abbrev Je:=@False.elim
abbrev Jf:=@Option.some.inj
abbrev Jg:=@Nat.lt_or_ge
abbrev Jh:=@List.map_map
abbrev Ji:=@List.mem_map
abbrev Jj:=@of_decide_eq_true
abbrev Jk:=@wpAny_field
abbrev Jl:=@List.lookup_cons
abbrev Jm:=@Int.emod_nonneg
abbrev Jn:=@wpAny_newObj_type
abbrev Jo:=@wpAny_setField_rec
abbrev Jp:=@wpAny_truthy_bool
abbrev Jq:=@wpAny_holding
abbrev Jr:=@wpAny_seqItems
abbrev Js:=@wpAny_tryCatch
abbrev Jt:=@wpAny_richCompare_same_room
abbrev Ju:=@List.mem_append
abbrev Jv:=@List.getElem_mem
abbrev Jw:=@congrArg
abbrev Jx:=@eq_of_beq
abbrev Jy:=@Bool.and_eq_true
end
/- strict -/
set_option linter.all false
set_option maxRecDepth 100000
namespace L2
open PySem PySem.Spec PyProof.Rows
abbrev Key:=Sum Int Lp
def zm1:Key->Lh->Bool
 | .inl k,v=>Value.isInt k v
 | .inr x,v=>Value.isStrOf x v
def keyH(w:Lk):Key->Int
 | .inl k=>hashInt k
 | .inr x=>hashStr w x
theorem zbt:∀{k} {v},zm1 k v=true->(∃i t,k=Sum.inl i/\v=Value.int i t)\/(∃x t,k=Sum.inr x/\v=Value.str x t)
 | .inl i,v,h=>by
  obtain⟨t,e⟩:=Value.isInt_shape (k:=i) (v:=v) h;exact .inl ⟨i,t,Z,e⟩
 | .inr x,v,h=>by
  obtain⟨t,e⟩:=Value.isStrOf_shape (x:=x) (v:=v) h;exact .inr ⟨x,t,Z,e⟩
def zo7(i:Int)(t:Tok):zm1 (.inl i) (.int i t)=true:=by simp[zm1,Value.isInt]
def zno(x:Lp)(t:Tok):zm1 (.inr x) (.str x t)=true:=by simp[zm1,Value.isStrOf]
def zv5(a b:Int):decide ((Sum.inl a:Key)=Sum.inl b)=(a == b):=by
 by_cases e:a=b
 ·subst e;simp
 ·have h:¬(Sum.inl a:Key)=Sum.inl b:=λq=>e (Sum.inl.inj q)
  rw[Yw h];exact(beq_eq_false_iff_ne.mpr e).symm
def zx6(a b:Lp):decide ((Sum.inr a:Key)=Sum.inr b)=decide (a=b):=by
 by_cases e:a=b
 ·subst e;simp
 ·have h:¬(Sum.inr a:Key)=Sum.inr b:=λq=>e (Sum.inr.inj q)
  rw[Yw h,Yw e]
def zvw(a:Int)(b:Lp):decide ((Sum.inl a:Key)=Sum.inr b)=false:=Yw (λq=>nomatch q)
def zv3(a:Lp)(b:Int):decide ((Sum.inr a:Key)=Sum.inl b)=false:=Yw (λq=>nomatch q)
def za0(prog:Ll)(w:Lk):PySem.KeyKind prog w Key where
 is:=zm1
 hash:=keyH w
 inj:=λv a b ha hb=>by
  rcases zbt ha with⟨i,t,rfl,rfl⟩ | ⟨x,t,rfl,rfl⟩
  ·rcases zbt hb with⟨j,u,rfl,e⟩ | ⟨y,u,rfl,e⟩
   ·injection e with e1 _;rw[e1]
   ·exact nomatch e
  ·rcases zbt hb with⟨j,u,rfl,e⟩ | ⟨y,u,rfl,e⟩
   ·exact nomatch e
   ·injection e with e1 _;rw[e1]
 byValue:=λk v h=>by
  rcases zbt h with⟨i,t,rfl,rfl⟩ | ⟨x,t,rfl,rfl⟩ <;> rfl
 pyHash:=λhv h=>by
  rcases zbt hv with⟨i,t,rfl,rfl⟩ | ⟨x,t,rfl,rfl⟩
  ·exact wpAny_pyHash_int h
  ·exact wpAny_pyHash_str h
 eqBool:=λhu hv h=>by
  rcases zbt hu with⟨i,t,rfl,rfl⟩ | ⟨x,t,rfl,rfl⟩
  ·rcases zbt hv with⟨j,u,rfl,rfl⟩ | ⟨y,u,rfl,rfl⟩
   ·rw[zv5]at h;exact wpAny_eqBool_int h
   ·rw[zvw]at h;exact SeqAt.EqAt.int_str i t y u _ _ _ _ h
  ·rcases zbt hv with⟨j,u,rfl,rfl⟩ | ⟨y,u,rfl,rfl⟩
   ·rw[zv3]at h;exact SeqAt.EqAt.str_int x t j u _ _ _ _ h
   ·rw[zx6]at h;exact wpAny_eqBool_str h
 «strs»:=λk x t v h=>by
  rcases zbt h with⟨i,u,rfl,e⟩ | ⟨y,u,rfl,e⟩
  ·exact nomatch e
  ·injection e with e1 _
   subst e1
   cases v <;> rfl
def zk1(prog:Ll)(w:Lk)(i:Int)(t:Tok):(za0 prog w).is (.inl i) (.int i t)=true:=zo7 i t
def zk2(prog:Ll)(w:Lk)(x:Lp)(t:Tok):(za0 prog w).is (.inr x) (.str x t)=true:=zno x t
inductive V where
 | non | bl (b:Bool) | int (i:Int) | str (x:Lp) | byt (b:Array UInt8) | flt (b:UInt64) | ref (a:Lg) | ty (n:String)
 deriving DecidableEq
abbrev Ka:=List (List Key×V)
abbrev Lf:=List V
def RelV:V->Lh->Prop
 | .non,u=>u=Value.none
 | .bl b,u=>u=Value.bool b
 | .int i,u=>∃t,u=Value.int i t
 | .str x,u=>∃t,u=Value.str x t
 | .byt b,u=>∃t,u=Value.bytes b t
 | .flt b,u=>∃t,u=Value.float b t
 | .ref a,u=>u=Value.ref a
 | .ty n,u=>u=Value.type n
abbrev Vals:Lf->List Lh->Prop:=Paired RelV
def Vals.length(r:Vals xs us):xs.length=us.length:=Paired.length r
theorem Vals.get:∀{xs} {us} {i:Nat} {x},Vals xs us->xs[i]? = some x->∃u,us[i]? = some u/\RelV x u
 | _,_,_,_,.nil,e=>by simp at e
 | _,_,0,_,.cons r _,e=>by simp at e;subst e;exact⟨_,rfl,r⟩
 | _,_,i+1,x,.cons _ t,e=>by
  obtain⟨u,a,b⟩:=Vals.get (i:=i) (x:=x) t (by simpa using e);exact⟨u,by simpa using a,b⟩
theorem Vals.set(r:RelV x u):∀{xs} {us} i,Vals xs us->Vals (xs.set i x) (us.set i u)
 | _,_,_,.nil=>.nil
 | _,_,0,.cons _ t=>.cons r t
 | _,_,i+1,.cons q t=>.cons q (Vals.set r i t)
theorem Vals.append:∀{xs ys} {us ws},Vals xs us->Vals ys ws->Vals (xs++ys) (us++ws)
 | _,_,_,_,.nil,s=>s
 | _,_,_,_,.cons r t,s=>.cons r (Vals.append t s)
theorem Vals.take:∀{xs} {us} n,Vals xs us->Vals (xs.take n) (us.take n)
 | _,_,0,_=>.nil
 | _,_,_+1,.nil=>.nil
 | _,_,n+1,.cons r t=>.cons r (Vals.take n t)
theorem Vals.drop:∀{xs} {us} n,Vals xs us->Vals (xs.drop n) (us.drop n)
 | _,_,0,r=>r
 | _,_,_+1,.nil=>.nil
 | _,_,n+1,.cons _ t=>Vals.drop n t
def RelO:Option V->Option Lh->Prop
 | some v,some u=>RelV v u
 | none,none=>True
 | _,_=>False
def KV:List (κ×V)->List (κ×Lh)->Prop:=Paired fun(p : κ×V) (q : κ×Lh)=>p.1=q.1/\RelV p.2 q.2
def kV:Key->V
 | .inl i=>.int i
 | .inr x=>.str x
inductive HO where
  | lst (xs:Lf)
  | tup (xs:Lf)
  | dK (cr:List (Key×V)) | dT (cr:Ka)
  | set (S:Int->Bool) (n:Nat)
  | ins (C dx:Lg) (fs:List (Lp×V))
  | own (x:Lg)
  | xd (fs:List (Lp×V))
  | met (f x:Lg)
  | rng (lo hi:Int)
  | frz (o:Obj) (u:HO)
  | tbl (ps:Array Lh)
  | ext (φ:Lo->Prop)
abbrev Hp:=Lg->Option HO
def upd(H:Hp)(a:Lg)(o:HO):Hp:=λb=>if b=a then some o else H b
def zad:upd H a o a=some o:=by unfold upd;rw[Yl rfl]
def zaf(h:b≠a):upd H a o b=H b:=by unfold upd;rw[Yh h]
def za7{H:Hp}(h:H a=some o)(h':H b=some u)(d:o≠u):a≠b:=by
 intro e;subst e;rw[h]at h';exact d (Jf h')
def zag{H:Hp}(h:H a=some o)(h':H b=none):a≠b:=by
 intro e;subst e;rw[h]at h';cases h'
section
variable(P:Ll)(w:Lk)
def ObjOk(H:Hp)(h:Lo)(a:Lg):HO->Prop
 | .lst xs=>xs.length<=sizeLine/\∃(its:List Lh) (n:Nat),Vals xs its/\h.get? a=some { cls:=.type "list",data:=.seq its.toArray n }
 | .tup xs=>xs.length<=sizeLine/\∃its:List Lh,Vals xs its/\IsTup h a its.toArray
 | .dK cr=>cr.length<=sizeLine/\(a == sysModules)=false/\∃vs,KV cr vs/\h.DictOf (za0 P w) a vs
 | .dT cr=>cr.length<=sizeLine/\(a == sysModules)=false/\∃xs:List (List Key×Lg×Lh),
   Paired (fun(p:List Key×V) (q:List Key×Lg×Lh)=>p.1=q.1/\H q.2.1=some (.tup (p.1.map kV))/\RelV p.2 q.2.2) cr xs /\
   ∃o es ep,h.get? a=some o/\o.ExactDict/\o.data=.dict es ep/\es.toList=xs.map (entryOfKey (tupleKind (za0 P w)))/\(xs.map (·.1)).Nodup
 | .set S n=>h.SetOf (intKind P w) a S n
 | .ins C dx fs=>H dx=some (.own a)/\fs.length<=1000/\dx≠a/\h.get? a=some (W.instObj C dx) /\
   ∃mA,h.Ns1 dx mA/\(∀f,RelO (fs.lookup f) (mA f))/\PySem.Within mA (fs.map (·.1))
 | .own _=>∃o,h.get? a=some o
 | .xd fs=>∃mA,h.Ns1 a mA/\∀f,RelO (fs.lookup f) (mA f)
 | .rng lo hi=>∃t u v,h.get? a=some { cls:=.type "range",data:=.fields #[.int lo t,.int hi u,.int 1 v] }
 | .frz o u=>h.get? a=some o/\ObjOk H h a u
 | .tbl ps=>h.get? a=some { cls:=.none,data:=.fields ps }
 | .met f x=>h.get? a=some (W.methodObj (.ref f) (.ref x))
 | .ext φ=>φ h/\(∃o,h.get? a=some o)/\∀h1 h2:Lo,φ h1->(∀o,h1.get? a=some o->h2.get? a=some o)->φ h2
def HOk(H:Hp)(h:Lo):Prop:=∀a o,H a=some o->ObjOk P w H h a o
end
section
variable{P:Ll}{w:Lk}{H H':Hp}{h h':Lo}{a:Lg}{o:HO}
def ObjOk.lt(x:ObjOk P w H h a o):a<h.objs.size:=by
 cases o with
 | lst xs=>obtain⟨_,_,_,_,e⟩:=x;exact Yn e
 | tup xs=>obtain⟨_,_,_,p⟩:=x;exact p.lt
 | dK cr=>obtain⟨_,_,_,_,o,_,_,e,_⟩:=x;exact Yn e
 | dT cr=>obtain⟨_,_,_,_,o,_,_,e,_⟩:=x;exact Yn e
 | set S n=>obtain⟨o,_,_,_,e,_⟩:=x;exact Yn e
 | ins C dx fs=>obtain⟨_,_,_,e,_⟩:=x;exact Yn e
 | own y=>obtain⟨_,e⟩:=x;exact Yn e
 | xd fs=>obtain⟨_,⟨_,_,_,e,_⟩,_⟩:=x;exact Yn e
 | rng lo hi=>obtain⟨_,_,_,e⟩:=x;exact Yn e
 | frz ob u=>obtain⟨e,_⟩:=x;exact Yn e
 | tbl ps=>exact Yn (show h.get? a=some _ from x)
 | met f y=>exact Yn (show h.get? a=some _ from x)
 | ext φ=>obtain⟨_,⟨_,e⟩,_⟩:=x;exact Yn e
theorem Paired.mapP:∀{l₁} {l₂},Paired F l₁ l₂->(∀a b,F a b->G a b)->Paired G l₁ l₂
 | _,_,.nil,_=>.nil
 | _,_,.cons r t,f=>.cons (f _ _ r) (Paired.mapP t f)
def Paired.imp'{F G : α->β->Prop}(f:∀a b,F a b->G a b){d:List α}{c:List β}(r:Paired F d c):Paired G d c:=Paired.mapP r f
def ObjOk.stay(x:ObjOk P w H h a o)(k:∀b u,(b=a\/H b=some (.own a))->h.get? b=some u->h'.get? b=some u)
  (B:∀b,H b=some (.own a)->H' b=some (.own a)) (s:∀b xs,H b=some (.tup xs)->H' b=some (.tup xs)):ObjOk P w H' h' a o:=by
 induction o with
 | lst xs=>obtain⟨z,its,n,r,e⟩:=x;exact⟨z,its,n,r,k _ _ (.inl rfl) e⟩
 | tup xs=>obtain⟨z,its,r,ob,e,c⟩:=x;exact⟨z,its,r,ob,k _ _ (.inl rfl) e,c⟩
 | dK cr=>obtain⟨z,y,vs,r,ob,j,i,e,c⟩:=x;exact⟨z,y,vs,r,ob,j,i,k _ _ (.inl rfl) e,c⟩
 | dT cr=>
  obtain⟨z,y,xs,r,ob,j,i,e,c⟩:=x;exact⟨z,y,xs,Paired.mapP r λp q z=>⟨z.1,s _ _ z.2.1,z.2.2⟩,ob,j,i,k _ _ (.inl rfl) e,c⟩
 | set S n=>obtain⟨ob,j,i,t,e,c⟩:=x;exact⟨ob,j,i,t,k _ _ (.inl rfl) e,c⟩
 | ins C dx fs=>
  obtain⟨d,z,D,e,m,⟨l,j,i,A,c⟩,r⟩:=x;exact⟨B _ d,z,D,k _ _ (.inl rfl) e,m,⟨l,j,i,k _ _ (.inr d) A,c⟩,r⟩
 | own y=>obtain⟨ob,e⟩:=x;exact⟨ob,k _ _ (.inl rfl) e⟩
 | xd fs=>obtain⟨m,⟨l,j,i,e,c⟩,r⟩:=x;exact⟨m,⟨l,j,i,k _ _ (.inl rfl) e,c⟩,r⟩
 | rng lo hi=>obtain⟨t,u,v,e⟩:=x;exact⟨t,u,v,k _ _ (.inl rfl) e⟩
 | frz ob u ih=>obtain⟨e,q⟩:=x;exact⟨k _ _ (.inl rfl) e,ih q⟩
 | tbl ps=>
  have e:h.get? a=some { cls:=.none,data:=.fields ps }:=x;show h'.get? a=some { cls:=.none,data:=.fields ps };exact k a _ (.inl rfl) e
 | met f y=>
  have e:h.get? a=some (W.methodObj (.ref f) (.ref y)):=x;show h'.get? a=some (W.methodObj (.ref f) (.ref y));exact k a _ (.inl rfl) e
 | ext φ=>obtain⟨p,⟨o,e⟩,st⟩:=x;exact⟨st _ _ p λo q=>k _ _ (.inl rfl) q,⟨o,k _ _ (.inl rfl) e⟩,st⟩
def HOk.lt(x:HOk P w H h)(e:H a=some o):a<h.objs.size:=(x a o e).lt
def HOk.fresh(x:HOk P w H h)(e:h.objs.size<=a):H a=none:=by
 cases q:H a with
 | none=>rfl
 | some u=>exact absurd (Yf (x.lt q) e) (Nat.lt_irrefl _)
def HOk.kept(x:HOk P w H h)(k:∀b u,h.get? b=some u->h'.get? b=some u):HOk P w H h':=λa o e=>
 (x a o e).stay (λb u _ q=>k b u q) (λ_ q=>q) λ_ _ q=>q
def HOk.laid(x:HOk P w H h)(k:∀b u,h.get? b=some u->h'.get? b=some u)(f:h.objs.size<=a)(new:ObjOk P w (upd H a o) h' a o):HOk P w (upd H a o) h':=λb u e=>by
 have d:=x.fresh f;by_cases hb:b=a
 ·subst hb;rw[zad]at e;cases e;exact new
 ·rw[zaf hb]at e;exact(x b u e).stay (λc v _ q=>k c v q) (λc q=>by rw[zaf (zag q d)];exact q) λc xs q=>by rw[zaf (zag q d)];exact q
end
def Rd(H:Hp)(a:Lg)(u:HO):Prop:=H a=some u\/∃o,H a=some (.frz o u)
def Rd.ok(r:Rd H a u)(x:HOk P w H h):ObjOk P w H h a u:=by
 rcases r with r | ⟨o,r⟩
 ·exact x a u r
 ·obtain⟨_,q⟩:=x a _ r;exact q
def Mut:Option HO->Prop
 | some (.lst _)=>True
 | some (.dK _)=>True
 | some (.dT _)=>True
 | some (.set _ _)=>True
 | some (.ins _ _ _)=>True
 | some (.ext _)=>True
 | _=>False
section
variable{P:Ll}{w:Lk}{H:Hp}{h h':Lo}{x e:Lg}{o':HO}
def HOk.write(ok:HOk P w H h)(f:Mut (H x))(m:e=x\/H e=some (.own x))(k:∀b u,b≠e->h.get? b=some u->h'.get? b=some u)(j:∃u,h'.get? e=some u)
  (new:ObjOk P w (upd H x o') h' x o'):HOk P w (upd H x o') h':=λb u q=>by
 have a:∀c y,H c=some (.own y)->c≠x:=λc y r z=>by subst z;rw[r]at f;exact f
 have d:∀c xs,H c=some (.tup xs)->c≠x:=λc xs r z=>by subst z;rw[r]at f;exact f
 by_cases hb:b=x
 ·subst hb;rw[zad]at q;cases q;exact new
 ·rw[zaf hb]at q;by_cases hbe:b=e
  ·have l:H b=some (.own x):=by
    rcases m with z | z
    ·exact absurd (hbe.trans z) hb
    ·rw[hbe];exact z
   rw[q]at l;cases l;obtain⟨v,hv⟩:=j;exact⟨v,by rw[hbe];exact hv⟩
  ·refine(ok b u q).stay (λc v i r=>k c v ?_ r) (λc r=>by rw[zaf (a c b r)];exact r) λc xs r=>by rw[zaf (d c xs r)];exact r
   rcases i with rfl | i
   ·exact hbe
   ·rintro rfl;rcases m with z | z
    ·exact a c b i z
    ·rw[i]at z;cases z;exact hb rfl
end
structure Un(fs ex:Le)(H H':Hp)(h h':Lo):Prop where
 keep:∀b o,h.get? b=some o->H b=none->b ∉ fs->b ∉ ex->h'.get? b=some o
 slot:∀b o,h.get? b=some o->H b=none->b∈fs->b ∉ ex->∃sl,h'.get? b=some { o with slots:=sl }
 free:∀b o,h.get? b=some o->H b=none->b ∉ ex->H' b=none
 there:∀b o,h.get? b=some o->b ∉ ex->∃o',h'.get? b=some o'
 tups:∀b xs,H b=some (.tup xs)->H' b=some (.tup xs)
 frzs:∀b o u,H b=some (.frz o u)->H' b=some (.frz o u)
 tbls:∀b ps,H b=some (.tbl ps)->∃more,H' b=some (.tbl (ps++more))
section
variable{fs fs' ex ex':Le}{H H1 H2:Hp}{h h1 h2 h':Lo}{a x e:Lg}{o:HO}
def Un.any(u:Un fs ex H H1 h h1){b:Lg}{ob:Obj}(q:h.get? b=some ob)(n:H b=none)(c:b ∉ ex):∃sl,h1.get? b=some { ob with slots:=sl }:=by
 by_cases hb:b∈fs
 ·exact u.slot b ob q n hb c
 ·exact⟨ob.slots,u.keep b ob q n hb c⟩
def Un.kept(k:∀b u,h.get? b=some u->h'.get? b=some u):Un fs ex H H h h':=
 ⟨λb ob q _ _ _=>k b ob q,λb ob q _ _ _=>⟨ob.slots,k b ob q⟩,λ_ _ _ n _=>n,λb ob q _=>⟨ob,k b ob q⟩,λ_ _ q=>q,λ_ _ _ q=>q,λ_ ps q=>⟨#[],by rw[q];simp⟩⟩
def Un.refl:Un fs ex H H h h:=Un.kept λ_ _ q=>q
def Un.laid(k:∀b u,h.get? b=some u->h'.get? b=some u)(d:h.objs.size<=a)(c:H a=none):Un fs ex H (upd H a o) h h' where
 keep:=λb u q _ _ _=>k b u q
 slot:=λb u q _ _ _=>⟨u.slots,k b u q⟩
 free:=λb u q n _=>by rw[zaf (Y0 (Yf (Yn q) d))];exact n
 there:=λb u q _=>⟨u,k b u q⟩
 tups:=λb xs q=>by rw[zaf (zag q c)];exact q
 frzs:=λb u xs q=>by rw[zaf (zag q c)];exact q
 tbls:=λb ps q=>⟨#[],by rw[zaf (zag q c),q];simp⟩
def Un.write(c:Mut (H x))(l:e=x\/H e=some (.own x))(k:∀b u,b≠e->h.get? b=some u->h'.get? b=some u)(d:∃u,h'.get? e=some u):Un fs ex H (upd H x o) h h':=by
 have i:∀b,H b=none->b≠x:=λb n z=>by subst z;rw[n]at c;exact c
 have j:∀b,H b=none->b≠e:=λb n z=>by
  subst z;rcases l with r | r
  ·exact i b n r
  ·rw[n]at r;cases r
 have f:∀b u,H b=some u->¬Mut (some u)->b≠x:=λb u q m z=>by subst z;rw[q]at c;exact m c
 refine⟨λb u q n _ _=>k b u (j b n) q,λb u q n _ _=>⟨u.slots,k b u (j b n) q⟩,λb u q n _=>by rw[zaf (i b n)];exact n,λb u q _=>?_,
  λb xs q=>by rw[zaf (f b _ q λz=>z)];exact q,λb u xs q=>by rw[zaf (f b _ q λz=>z)];exact q,λb ps q=>⟨#[],by rw[zaf (f b _ q λz=>z),q];simp⟩⟩
 by_cases hbe:b=e
 ·subst hbe;exact d
 ·exact⟨u,k b u hbe q⟩
end
def trk(h:Lo)(H:Hp):Le:=(List.range h.objs.size).filter λa=>(H a).isSome
def hidT(h:Lo)(H:Hp):Lo:=W.hideAll h (trk h H)
def znz(h:Lo)(H:Hp):(hidT h H).objs.size=h.objs.size:=W.hideAll_size _ _
def zsh(e:h.get? b=some o)(n:H b=none):(hidT h H).get? b=some o:=
 W.hideAll_get _ e λa=>by
  have q:(H b).isSome=true:=(List.mem_filter.mp a).2;rw[n]at q;simp at q
def zt5(e:(hidT h H).get? b=some o):h.get? b=some o/\H b=none:=by
 have a:h.get? b=some o:=W.of_hideAll (trk h H) e;refine⟨a,?_⟩
 cases q:H b with
 | none=>rfl
 | some x=>
  have c:b∈trk h H:=List.mem_filter.mpr ⟨List.mem_range.mpr (Yn a),by simp[q]⟩;have z:(hidT h H).get? b=none:=W.hideAll_none (trk h H) c;rw[z]at e;cases e
structure Mod(K:Li)(mg:Sa)(base:Lo):Prop where
 kin:K.In base
 glob:base.Ns mainGlobals mg
 blt:∃mb,base.Ns builtinsNs mb/\∀x:Lp,x≠"__name__"->mb x=bootBuiltins x
 nolimit:base.NoLimit
structure Cx where
 prog:Ll
 w:Lk
 K:Li
 mg:Sa
 base:Lo
 A:Around
 N:List Lp
 s₀:Lj
 H₀:Hp
 env:Env
 outer:List Env
 stack:List Env
 ex:Le
 fn:Lp->Bool
 calm:Bool
 pn:La
 xe:Va
def frs(l:List Env):Le:=l.filterMap (·.frame)
abbrev Cx.fs(X:Cx):Le:=frs X.outer
def Vis(sc:Scope)(x:Lp):Prop:=sc.names.lookup x=some .local\/sc.names.lookup x=some .cell\/sc.names.lookup x=some .free
def Loc(sc:Scope)(x:Lp):Prop:=sc.names.lookup x=some .local\/sc.names.lookup x=some .cell
def Look(env:Env)(h:Lo)(m:Sa)(x:Lp)(u:Lh):Prop:=
 (env.kindOf x=some .local/\m x=some u)\/((env.kindOf x=some .cell\/env.kindOf x=some .free)/\∃c,env.cells.lookup x=some c/\h.IsCell c (some u))
structure Cx.Ok(X:Cx):Prop where
 mod:Mod X.K X.mg X.base
 kind:X.env.scope.kind=.function
 glob:X.env.globals=mainGlobals
 blt:X.env.builtins=builtinsNs
 above:X.s₀.heap.objs.size<=X.env.locals
 inj:∀x y c,X.env.cells.lookup x=some c->X.env.cells.lookup y=some c->x=y
 has:∀x,(X.env.kindOf x=some .cell\/X.env.kindOf x=some .free)->∃c,X.env.cells.lookup x=some c
 cab:∀x c,X.fn x=true->X.env.cells.lookup x=some c->X.s₀.heap.objs.size<=c
 hd:X.calm=true->X.A.handled=none
 frames:X.A.frames=some X.stack
 stk:X.stack=X.outer\/(X.stack=X.env::X.outer/\X.env.frame=some X.env.locals)
 exf:∀b∈X.ex,b≠X.env.locals/\∀x c,X.env.cells.lookup x=some c->c≠b
 bs:∀b o,X.base.get? b=some o->X.s₀.heap.get? b=some o/\X.H₀ b=none
 bsz:X.base.objs.size<=X.s₀.heap.objs.size
 noex:∀b o,X.base.get? b=some o->b ∉ X.ex
 exfs:∀b∈X.ex,b ∉ X.fs
 funs:X.s₀.heap.FunFrames X.base X.outer
 frf:∀b∈X.fs,X.H₀ b=none
structure Inv(X:Cx)(bo:La)(σ:List (Option V))(H:Hp)(s:Lj):Prop where
 ok:X.Ok
 os:s.os=X.s₀.os
 bare:AllBare s.gens
 base:Un X.fs X.ex X.H₀ H X.s₀.heap s.heap
 loc:∃m,s.heap.Ns X.env.locals m/\∀(i:Nat) (x:Lp) (v:V),X.N[i]? = some x->σ[i]? = some (some v)->Vis X.env.scope x->∃u,RelV v u/\Look X.env s.heap m x u
 cell:∀x c,X.env.cells.lookup x=some c->∃v,s.heap.IsCell c v
 free:H X.env.locals=none
 freeC:∀x c,X.env.cells.lookup x=some c->H c=none
 pin:∀p∈X.pn++bo,s.heap.get? p.1=some p.2/\H p.1=none/\p.1≠X.env.locals/\p.1 ∉ X.fs/\∀v,p.2.data≠.cell v
 hok:HOk X.prog X.w H s.heap
 len : σ.length=X.N.length
section
variable{X:Cx}{bo:La}{σ:List (Option V)}{H H':Hp}{s:Lj}{h':Lo}
def Cx.Ok.nofr(ok:X.Ok){b:Lg}{o:Obj}(e:X.base.get? b=some o):b ∉ X.fs:=λa=>by
 have:=(ok.funs.mem a).1;rw[e]at this;cases this
def Inv.bs(I:Inv X bo σ H s):∀b o,X.base.get? b=some o->s.heap.get? b=some o/\H b=none:=λb o e=>
 ⟨I.base.keep b o (I.ok.bs b o e).1 (I.ok.bs b o e).2 (I.ok.nofr e) (I.ok.noex b o e),I.base.free b o (I.ok.bs b o e).1 (I.ok.bs b o e).2 (I.ok.noex b o e)⟩
def Inv.bk(I:Inv X bo σ H s):∀b o,X.base.get? b=some o->s.heap.get? b=some o:=λb o e=>(I.bs b o e).1
def Inv.mod(I:Inv X bo σ H s):Mod X.K X.mg X.base:=I.ok.mod
def Inv.kIn(I:Inv X bo σ H s):X.K.In s.heap:=I.ok.mod.kin.keeps I.bk
def Inv.nolimit(I:Inv X bo σ H s):s.heap.NoLimit:=I.ok.mod.nolimit.keeps I.bk
def Inv.lt(I:Inv X bo σ H s):X.env.locals<s.heap.objs.size:=let ⟨_,a,_⟩:=I.loc;a.lt
def Inv.sz(I:Inv X bo σ H s):X.s₀.heap.objs.size<=s.heap.objs.size:=Yr I.ok.above (Nat.le_of_lt I.lt)
def Inv.nofs(I:Inv X bo σ H s){a:Lg}(h:s.heap.objs.size<=a):a ∉ X.fs:=λb=>by
 obtain⟨_,o,c,_⟩:=I.ok.funs.mem b;exact absurd (Yf (Yn c) (Yr I.sz h)) (Nat.lt_irrefl _)
def Inv.cne(I:Inv X bo σ H s):∀x c,X.env.cells.lookup x=some c->c≠X.env.locals:=λx c e z=>by
 obtain⟨v,o,d,hd⟩:=I.cell x c e;obtain⟨m,⟨o',es,ep,b,a,_⟩,_⟩:=I.loc;rw[z,b]at d;cases d;rw[a]at hd;cases hd
def Inv.funs(I:Inv X bo σ H s):s.heap.FunFrames X.base X.outer:=by
 have all:∀(l:List Env),(∀b∈frs l,b∈X.fs)->X.s₀.heap.FunFrames X.base l->s.heap.FunFrames X.base l:=by
  intro l;induction l with
  | nil=>intro _ _;trivial
  | cons env r ih=>
   intro f m;obtain⟨h,⟨L,o,c,j,n,hd⟩,i⟩:=m;have a:L∈X.fs:=f L (by unfold frs;rw[List.filterMap_cons,c];exact List.mem_cons_self);obtain⟨sl,e⟩:=I.base.slot L o n (I.ok.frf L a) a λz=>I.ok.exfs L z a
   exact⟨h,⟨L,_,c,j,e,hd⟩,ih (λb d=>f b (by unfold frs;rw[List.filterMap_cons,c];exact List.mem_cons_of_mem _ d)) i⟩
 exact all X.outer (λ_ d=>d) I.ok.funs
def Inv.stack(I:Inv X bo σ H s):s.heap.FunFrames X.base X.stack:=by
 rcases I.ok.stk with e | ⟨e,a⟩
 ·rw[e];exact I.funs
 ·rw[e];obtain⟨m,b,_⟩:=I.loc;refine .cons (by rw[I.ok.kind];decide) a b ?_ I.funs;exact Heap.get?_none_of_le (Yr I.ok.bsz I.ok.above)
def Inv.stkSub(I:Inv X bo σ H s):∀b∈frs X.stack,b∈X.env.locals::X.fs:=λb a=>by
 rcases I.ok.stk with e | ⟨e,c⟩
 ·rw[e]at a;exact List.mem_cons_of_mem _ a
 ·rw[e]at a;unfold frs at a;rw[List.filterMap_cons,c]at a;exact a
def Inv.stkFree(I:Inv X bo σ H s):∀b∈frs X.stack,H b=none:=λb a=>by
 rcases Yj.mp (I.stkSub b a) with e | a
 ·rw[e];exact I.free
 ·obtain⟨_,o,c,_⟩:=I.ok.funs.mem a;exact I.base.free b o c (I.ok.frf b a) λz=>I.ok.exfs b z a
def Inv.step{ch:Le}(I:Inv X bo σ H s)
  (h:∀b∈ch,(b∈X.ex\/X.s₀.heap.objs.size<=b)/\b≠X.env.locals/\(∀x c,X.env.cells.lookup x=some c->c≠b)/\∀p∈X.pn++bo,p.1≠b)
  (keep:∀b o,b≠X.env.locals->b ∉ X.fs->b ∉ ch->s.heap.get? b=some o->H b=none->h'.get? b=some o)
  (B:∀b o,b≠X.env.locals->b∈X.fs->b ∉ ch->s.heap.get? b=some o->H b=none->∃O,h'.get? b=some { o with slots:=O }) (free:∀b o,b ∉ ch->s.heap.get? b=some o->H b=none->H' b=none)
  (C:∀b o,b ∉ ch->s.heap.get? b=some o->∃M,h'.get? b=some M)
  (J:∀b xs,H b=some (.tup xs)->H' b=some (.tup xs)) (K:∀b o u,H b=some (.frz o u)->H' b=some (.frz o u)) (L:∀b ps,H b=some (.tbl ps)->∃more,H' b=some (.tbl (ps++more)))
  (ns:∀m,s.heap.Ns X.env.locals m->h'.Ns X.env.locals m) (Q:HOk X.prog X.w H' h') (hg:AllBare g') :
  Inv X bo σ H' { s with heap:=h',gens:=g',drawn:=d',toks:=t' }:=by
 have G:∀b o,X.s₀.heap.get? b=some o->b≠X.env.locals:=λb o e=>Y0 (Yf (Yn e) I.ok.above)
 have A:∀b o,X.s₀.heap.get? b=some o->b ∉ X.ex->b ∉ ch:=λb o e a D=>by
  rcases(h b D).1 with z | z
  ·exact a z
  ·exact absurd (Yf (Yn e) z) (Nat.lt_irrefl _)
 have j:∀x c,X.env.cells.lookup x=some c->∀v,s.heap.IsCell c v->h'.IsCell c v:=λx c e v ⟨o,E,hd⟩=>by
  have f:c ∉ ch:=λz=>(h c z).2.2.1 x c e rfl
  by_cases hc:c∈X.fs
  ·obtain⟨O,q⟩:=B c o (I.cne x c e) hc f E (I.freeC x c e);exact⟨_,q,hd⟩
  ·exact⟨o,keep c o (I.cne x c e) hc f E (I.freeC x c e),hd⟩
 refine⟨I.ok,I.os,hg,⟨λb o e n D a=>?_,λb o e n D a=>?_,λb o e n a=>?_,λb o e a=>?_,λb xs e=>J b xs (I.base.tups b xs e),λb o xs e=>K b o xs (I.base.frzs b o xs e),λb ps e=>?_⟩,?_,λx c e=>?_,?_,λx c e=>?_,λp R=>?_,Q,I.len⟩
 ·exact keep b o (G b o e) D (A b o e a) (I.base.keep b o e n D a) (I.base.free b o e n a)
 ·obtain⟨O,y⟩:=I.base.slot b o e n D a;obtain⟨P,N⟩:=B b _ (G b o e) D (A b o e a) y (I.base.free b o e n a);exact⟨P,N⟩
 ·obtain⟨M,y⟩:=I.base.there b o e a;exact free b M (A b o e a) y (I.base.free b o e n a)
 ·obtain⟨M,y⟩:=I.base.there b o e a;exact C b M (A b o e a) y
 ·obtain⟨U,y⟩:=I.base.tbls b ps e;obtain⟨Y,N⟩:=L b _ y;exact⟨U++Y,by rw[N,Array.append_assoc]⟩
 ·obtain⟨m,hn,hl⟩:=I.loc;refine⟨m,ns m hn,λi x v y N W=>?_⟩;obtain⟨u,r,l⟩:=hl i x v y N W;refine⟨u,r,?_⟩;rcases l with l | ⟨k,c,e,z⟩
  ·exact .inl l
  ·exact .inr ⟨k,c,e,j x c e _ z⟩
 ·obtain⟨v,z⟩:=I.cell x c e;exact⟨v,j x c e v z⟩
 ·obtain⟨m,⟨o,_,_,E,_⟩,_⟩:=I.loc;exact free _ o (λz=>(h _ z).2.1 rfl) E I.free
 ·obtain⟨v,o,E,hd⟩:=I.cell x c e;exact free c o (λz=>(h c z).2.2.1 x c e rfl) E (I.freeC x c e)
 ·obtain⟨e,n,S,T,d⟩:=I.pin p R;have f:p.1 ∉ ch:=λz=>(h p.1 z).2.2.2 p R rfl
  exact⟨keep p.1 p.2 S T f e n,free p.1 p.2 f e n,S,T,d⟩
def Inv.un(I:Inv X bo σ H s)(u:Un X.fs [] H H' s.heap h')(h:HOk X.prog X.w H' h'):Inv X bo σ H' { s with heap:=h',toks:=t' }:=by
 obtain⟨m,⟨o,es,ep,i,r⟩,_⟩:=id I.loc;obtain⟨sl,j⟩:=u.any i I.free (by simp);exact I.step (g':=s.gens) (d':=s.drawn) (ch:=[]) (λ_ z=>nomatch z) (λb o _ f _ e n=>u.keep b o e n f (by simp)) (λb o _ f _ e n=>u.slot b o e n f (by simp)) (λb o _ e n=>u.free b o e n (by simp)) (λb o _ e=>u.there b o e (by simp)) u.tups u.frzs u.tbls (λm' l=>by
  obtain⟨o',d,c,a,p⟩:=l;rw[i]at a;cases a;exact⟨_,d,c,j,p⟩) h I.bare
def Inv.call(I:Inv X bo σ H s)(u:Un (frs X.stack) ch H H' s.heap h')(l:HOk X.prog X.w H' h')(hg:AllBare g')
  (f:∀b∈ch,(b∈X.ex\/X.s₀.heap.objs.size<=b)/\b≠X.env.locals/\(∀x c,X.env.cells.lookup x=some c->c≠b)/\∀p∈X.pn++bo,p.1≠b) :
  Inv X bo σ H' { s with heap:=h',gens:=g',drawn:=d',toks:=t' }:=by
 obtain⟨m,⟨o,es,ep,q,r⟩,_⟩:=id I.loc;obtain⟨sl,h⟩:=u.any q I.free λz=>(f _ z).2.1 rfl
 exact I.step (ch:=ch) f (λb o h B a e n=>u.keep b o e n (λz=>(Yj.mp (I.stkSub b z)).elim h B) a) (λb o _ _ a e n=>u.any e n a) (λb o a e n=>u.free b o e n a) (λb o a e=>u.there b o e a) u.tups u.frzs u.tbls (λm' y=>by
  obtain⟨o',j,i,d,A⟩:=y;rw[q]at d;cases d;exact⟨_,j,i,h,A⟩) l hg
def Inv.turned(I:Inv X bo σ H s)(k:∀b o,b≠it->s.heap.get? b=some o->h'.get? b=some o)(A:H it=none)(f:it≠X.env.locals)
  (h:it∈X.ex\/X.s₀.heap.objs.size<=it) (l:∀x c,X.env.cells.lookup x=some c->c≠it) (w:∀p∈X.pn++bo,p.1≠it):Inv X bo σ H { s with heap:=h',toks:=t' }:=by
 have d:∀b u,H b=some u->b≠it:=λb u e z=>by rw[z,A]at e;cases e
 refine I.step (g':=s.gens) (d':=s.drawn) (ch:=[it]) (λb y=>?_) (λb o _ _ a e _=>k b o (λz=>a (by simp[z])) e) (λb o _ _ a e _=>⟨o.slots,k b o (λz=>a (by simp[z])) e⟩) (λ_ _ _ _ n=>n)
  (λb o a e=>⟨o,k b o (λz=>a (by simp[z])) e⟩) (λ_ _ e=>e) (λ_ _ _ e=>e) (λb ps e=>⟨#[],by rw[e];simp⟩) (λm i=>?_) (λb u e=>?_) I.bare
 ·have e:b=it:=by simpa using y
  subst e;exact⟨h,f,l,w⟩
 ·obtain⟨o,B,j,C,r⟩:=i;exact⟨o,B,j,k _ o (Jb f) C,r⟩
 ·refine(I.hok b u e).stay (λc v a q=>k c v ?_ q) (λ_ q=>q) λ_ _ q=>q
  rcases a with z | z
  ·rw[z];exact d b u e
  ·exact d c _ z
def Inv.tok(I:Inv X bo σ H s)(t:Nat):Inv X bo σ H { s with toks:=t }:=I.un (h':=s.heap) (t':=t) Un.refl I.hok
def Inv.kept(I:Inv X bo σ H s)(k:∀b u,s.heap.get? b=some u->h'.get? b=some u):Inv X bo σ H { s with heap:=h',toks:=t' }:=I.un (Un.kept k) (I.hok.kept k)
def Inv.laid{a:Lg}(I:Inv X bo σ H s)(k:∀b u,s.heap.get? b=some u->h'.get? b=some u)(c:s.heap.objs.size<=a)(new:ObjOk X.prog X.w (upd H a o) h' a o) :
  Inv X bo σ (upd H a o) { s with heap:=h',toks:=t' }:=I.un (Un.laid k c (I.hok.fresh c)) (I.hok.laid k c new)
def Inv.write(I:Inv X bo σ H s)(c:Mut (H x))(d:e=x\/H e=some (.own x))(k:∀b u,b≠e->s.heap.get? b=some u->h'.get? b=some u)(a:∃u,h'.get? e=some u)
  (new:ObjOk X.prog X.w (upd H x o) h' x o):Inv X bo σ (upd H x o) { s with heap:=h',toks:=t' }:=I.un (Un.write c d k a) (I.hok.write c d k a new)
def Inv.pins_of(I:Inv X bo σ H s)(h:∀p∈pins',s.heap.get? p.1=some p.2/\H p.1=none/\p.1≠X.env.locals/\p.1 ∉ X.fs/\∀v,p.2.data≠.cell v):Inv X pins' σ H s:=
 ⟨I.ok,I.os,I.bare,I.base,I.loc,I.cell,I.free,I.freeC,λp a=>(Ju.mp a).elim (λz=>I.pin p (List.mem_append_left _ z)) (h p),I.hok,I.len⟩
def zll{N:List Lp}(hN:N.Nodup){i j:Nat}{x:Lp}(a:N[i]? = some x)(b:N[j]? = some x):i=j:=by
 obtain⟨h1,d⟩:=List.getElem?_eq_some_iff.mp a;obtain⟨h2,c⟩:=List.getElem?_eq_some_iff.mp b;exact(List.getElem_inj hN).mp (d.trans c.symm)
def zoz{M:Model}{A:Around}{E:Va}{i:Nat}{x:Lp}{v:V}{u:Lh}{Q:Unit->Lj->Prop}(I:Inv X bo σ H s)(hN:X.N.Nodup)(hi:X.N[i]? = some x)(D:Loc X.env.scope x)(r:RelV v u)
  (h:∀s',Inv X bo (σ.set i (some v)) H s'->(∃a,Heap.SameBut a s.heap s'.heap/\(a=X.env.locals\/X.env.cells.lookup x=some a))->Q () s') (hf:X.fn x=true\/X.env.scope.names.lookup x=some .local:=by first | exact .inl rfl | exact .inr rfl | assumption):wpAny M A (storeName X.env x u) Q E s:=by
 obtain⟨m,hn,hl⟩:=id I.loc;have U:(X.env.scope.kind == .class||(X.env.scope.kind == .module&&X.env.locals != X.env.globals))=false:=by rw[I.ok.kind];rfl
 have L : i < σ.length:=by rw[I.len];exact(List.getElem?_eq_some_iff.mp hi).1
 have cne:=I.cne;have l:∀{a:Lg} {h':Lo},(∃o,s.heap.get? a=some o/\H a=none)->Heap.SameBut a s.heap h'->HOk X.prog X.w H h':=fun{a h'} ha f b ob e=>by
  obtain⟨_,_,G⟩:=ha;refine(I.hok b ob e).stay (λc w' C q=>(f.2 c ?_).trans q) (λ_ q=>q) λ_ _ q=>q
  rintro rfl;rcases C with rfl | C
  ·rw[G]at e;cases e
  ·rw[G]at C;cases C
 rcases D with K | K
 ·refine wpAny_storeName_local K hn (λh' a0 f=>?_) U;obtain⟨oL,_,_,a1,_⟩:=id hn;refine h _ ⟨I.ok,I.os,I.bare,⟨λb o e n P D=>?_,λb o e n P D=>?_,I.base.free,λb o e D=>?_,I.base.tups,I.base.frzs,I.base.tbls⟩,⟨_,a0,λj y v' B J e3=>?_⟩,λy c e=>?_,I.free,I.freeC,λp hp=>?_,l ⟨oL,a1,I.free⟩ f,by simpa using I.len⟩ ⟨_,f,.inl rfl⟩
  ·exact(f.2 b (Y0 (Yf (Yn e) I.ok.above))).trans (I.base.keep b o e n P D)
  ·obtain⟨sl,B⟩:=I.base.slot b o e n P D;exact⟨sl,(f.2 b (Y0 (Yf (Yn e) I.ok.above))).trans B⟩
  ·obtain⟨o',B⟩:=I.base.there b o e D;exact⟨o',(f.2 b (Y0 (Yf (Yn e) I.ok.above))).trans B⟩
  ·by_cases hj:j=i
   ·subst hj;rw[hi]at B;cases B;rw[List.getElem?_set_self L]at J
    cases J;exact⟨u,r,.inl ⟨K,by simp⟩⟩
   ·rw[List.getElem?_set_ne (Jb hj)]at J;obtain⟨u',r',q⟩:=hl j y v' B J e3;refine⟨u',r',?_⟩;rcases q with⟨k,e⟩ | ⟨k,c,e,z⟩
    ·refine .inl ⟨k,?_⟩;have:y≠x:=λe=>hj (zll hN B (e ▸ hi))
     simp[this,e]
    ·exact .inr ⟨k,c,e,z.sameBut f (cne y c e)⟩
  ·obtain⟨w',z⟩:=I.cell y c e;exact⟨w',z.sameBut f (cne y c e)⟩
  ·obtain⟨e,n,W,nf,d⟩:=I.pin p hp;exact⟨(f.2 p.1 W).trans e,n,W,nf,d⟩
 ·have O:X.fn x=true:=by
   rcases hf with z | z
   ·exact z
   ·rw[z]at K;cases K
  obtain⟨c,C⟩:=I.ok.has x (.inl K);obtain⟨w',z⟩:=I.cell x c C;refine wpAny_storeName_cell I.ok.kind K C z (λh' R f=>?_);obtain⟨oc,S,T⟩:=id z;refine h { s with heap:=h' } ⟨I.ok,I.os,I.bare,⟨λb o e n P D=>?_,λb o e n P D=>?_,I.base.free,λb o e D=>?_,I.base.tups,I.base.frzs,I.base.tbls⟩,⟨m,hn.sameBut f (Jb (cne x c C)),λj y v' B J e3=>?_⟩,λy Y e=>?_,I.free,I.freeC,λp hp=>?_,l ⟨oc,S,I.freeC x c C⟩ f,by simpa using I.len⟩ ⟨c,f,.inr C⟩
  ·exact(f.2 b (Y0 (Yf (Yn e) (I.ok.cab x c O C)))).trans (I.base.keep b o e n P D)
  ·obtain⟨sl,B⟩:=I.base.slot b o e n P D;exact⟨sl,(f.2 b (Y0 (Yf (Yn e) (I.ok.cab x c O C)))).trans B⟩
  ·obtain⟨o',B⟩:=I.base.there b o e D;exact⟨o',(f.2 b (Y0 (Yf (Yn e) (I.ok.cab x c O C)))).trans B⟩
  ·by_cases hj:j=i
   ·subst hj;rw[hi]at B;cases B;rw[List.getElem?_set_self L]at J
    cases J;exact⟨u,r,.inr ⟨.inl K,c,C,R⟩⟩
   ·rw[List.getElem?_set_ne (Jb hj)]at J;obtain⟨u',r',q⟩:=hl j y v' B J e3;refine⟨u',r',?_⟩;rcases q with q | ⟨k,Y,e,z'⟩
    ·exact .inl q
    ·refine .inr ⟨k,Y,e,z'.sameBut f ?_⟩;rintro rfl;exact hj (zll hN B (I.ok.inj _ _ _ e C ▸ hi))
  ·by_cases hcc:Y=c
   ·subst hcc;exact⟨_,R⟩
   ·obtain⟨w2,z2⟩:=I.cell y Y e;exact⟨w2,z2.sameBut f hcc⟩
  ·obtain⟨e,n,W,nf,d⟩:=I.pin p hp;refine⟨(f.2 p.1 ?_).trans e,n,W,nf,d⟩;intro q;rw[q,S]at e;have q':oc=p.2:=Jf e;exact d w' (by rw[<- q'];exact T)
def zh7{M:Model}{A:Around}{E:Va}{i:Nat}{x:Lp}{v:V}{u:Lh}{Q:Unit->Lj->Prop}(I:Inv X bo σ H s)(hN:X.N.Nodup)(hi:X.N[i]? = some x)(a:Loc X.env.scope x)(r:RelV v u)
  (h:∀s',Inv X bo (σ.set i (some v)) H s'->Q () s') (b:X.fn x=true\/X.env.scope.names.lookup x=some .local:=by first | exact .inl rfl | exact .inr rfl | assumption):wpAny M A (storeName X.env x u) Q E s:=
 zoz I hN hi a r (λs' c _=>h s' c) b
def Inv.call'(I:Inv X bo σ H s)(h:s'.os=s.os)(u:Un (frs X.stack) ch H H' s.heap s'.heap)(d:HOk X.prog X.w H' s'.heap)(hg:AllBare s'.gens)
  (a:∀b∈ch,(b∈X.ex\/X.s₀.heap.objs.size<=b)/\b≠X.env.locals/\(∀x c,X.env.cells.lookup x=some c->c≠b)/\∀p∈X.pn++bo,p.1≠b):Inv X bo σ H' s':=by
 obtain⟨h',g',d',t',f⟩:=s';have e:f=s.os:=h;subst e;exact I.call (g':=g') (t':=t') (d':=d') u d hg a
end
abbrev XK:=Lh->Option Lg->Hp->Prop
abbrev St:=List (Option V)
abbrev VK:=V->Hp->Prop
abbrev TE:=St->Hp->VK->Prop
abbrev TT:=St->Hp->(Bool->Hp->Prop)->Prop
abbrev TA:=St->Hp->(Lf->Hp->Prop)->Prop
structure Ends where
 nx:St->Hp->Prop
 rt:VK
 bk:St->Hp->Prop:=λ_ _=>False
 ct:St->Hp->Prop:=λ_ _=>False
abbrev TS:=Ends->St->Hp->Prop
def EP(X:Cx)(bo:La)(σ:St)(Q:VK)(u:Lh)(s':Lj):Prop:=∃v H',Inv X bo σ H' s'/\RelV v u/\Q v H'
def TP(X:Cx)(bo:La)(σ:St)(Q:Bool->Hp->Prop)(b:Bool)(s':Lj):Prop:=∃H',Inv X bo σ H' s'/\Q b H'
def AP(X:Cx)(bo:La)(σ:St)(Q:Lf->Hp->Prop)(us:List Lh)(s':Lj):Prop:=∃vs H',Inv X bo σ H' s'/\Vals vs us/\Q vs H'
def SP(X:Cx)(bo:La)(D:Ends)(f:Flow)(s':Lj):Prop:=
 match f with
 | .next=>∃σ' H',Inv X bo σ' H' s'/\D.nx σ' H'
 | .brk=>∃σ' H',Inv X bo σ' H' s'/\D.bk σ' H'
 | .cont=>∃σ' H',Inv X bo σ' H' s'/\D.ct σ' H'
 | .ret u=>∃v σ' H',Inv X bo σ' H' s'/\RelV v u/\D.rt v H'
def PE(X:Cx)(e:Ln)(t:TE):Prop:=
 ∀⦃bo:La⦄ (s:Lj) (σ:St) (H:Hp) (Q:VK),Inv X bo σ H s->t σ H Q->wpAny (model X.prog X.w) X.A (eval e X.env) (EP X bo σ Q) X.xe s
def PT(X:Cx)(e:Ln)(t:TT):Prop:=
 ∀⦃bo:La⦄ (s:Lj) (σ:St) (H:Hp) (Q:Bool->Hp->Prop),Inv X bo σ H s->t σ H Q->wpAny (model X.prog X.w) X.A (isTrue e X.env (eval e X.env)) (TP X bo σ Q) X.xe s
def PW(X:Cx)(e:Ln)(t:TT):Prop:=
 ∀⦃whole:Sem Lh⦄ (bo:La) (s:Lj) (σ:St) (H:Hp) (Q:Bool->Hp->Prop),Inv X bo σ H s->t σ H Q->wpAny (model X.prog X.w) X.A (isTrue e X.env whole) (TP X bo σ Q) X.xe s
def PW.pt(h:PW X e t):PT X e t:=λ_=>h _
def PA(X:Cx)(es:List Ln)(t:TA):Prop:=
 ∀⦃pos:Pos⦄ (bo:La) (s:Lj) (σ:St) (H:Hp) (Q:Lf->Hp->Prop),Inv X bo σ H s->t σ H Q->wpAny (model X.prog X.w) X.A (spliced (backTo pos (starEach es X.env))) (AP X bo σ Q) X.xe s
def PS(X:Cx)(st:Lm)(t:TS):Prop:=
 ∀⦃bo:La⦄ (s:Lj) (σ:St) (H:Hp) (D:Ends),Inv X bo σ H s->t D σ H->wpAny (model X.prog X.w) X.A (exec st X.env) (SP X bo D) X.xe s
def PSs(X:Cx)(st:List Lm)(t:TS):Prop:=
 ∀⦃bo:La⦄ (s:Lj) (σ:St) (H:Hp) (D:Ends),Inv X bo σ H s->t D σ H->wpAny (model X.prog X.w) X.A (execs st X.env) (SP X bo D) X.xe s
def thn(h:wpAny M A t Q E s)(b:∀a s,Q a s->Q' a s):wpAny M A t Q' E s:=wpAny_mono h b λ_ _ x=>x
section
variable{X:Cx}
inductive tVar(i:Nat)(σ:St)(H:Hp)(Q:VK):Prop
 | mk (v) (_ : σ[i]? = some (some v)) (_:Q v H)
def tC(v:V):TE:=λ_ H Q=>Q v H
def zwl{i:Nat}{x:Lp}{d:Pos}(hN:X.N[i]? = some x)(hv:Vis X.env.scope x)(hd:(x == ("__debug__" : Lp))=false:=by decide)(f:(x == ("__classdict__" : Lp))=false:=by decide):PE X (.Name x d) (tVar i):=by
 intro bo s o H Q I h;obtain⟨v,e,h⟩:=h;obtain⟨m,p,q⟩:=I.loc;obtain⟨u,r,l⟩:=q i x v hN e hv;have fin:EP X bo o Q u s:=⟨v,H,I,r,h⟩;rcases l with⟨b,n⟩ | ⟨b,c,j,a⟩
 ·exact wpAny_Name (wpAny_loadName_local I.ok.kind b p n fin) hd
 ·rcases b with b | b
  ·exact wpAny_Name (wpAny_loadName_cell I.ok.kind b j a fin) hd
  ·exact wpAny_Name (wpAny_loadName_free I.ok.kind b j a fin f) hd
def zal{i j pos}:PE X (.Constant (.int i) j pos) (tC (.int i)):=λ_ _ _ H _ I h=>wpAny_Constant_int ⟨.int i,H,I.tok _,⟨_,Z⟩,h⟩
def zcs{b j pos}:PE X (.Constant (.bool b) j pos) (tC (.bl b)):=λ_ _ _ H _ I h=>Constant_bool ⟨.bl b,H,I,Z,h⟩
def zg4{j pos}:PE X (.Constant .none j pos) (tC .non):=λ_ _ _ H _ I h=>Constant_none ⟨.non,H,I,Z,h⟩
def zpt{x j pos}:PE X (.Constant (.str x) j pos) (tC (.str x)):=λ_ _ _ H _ I h=>Calls.Constant_str ⟨.str x,H,I.tok _,⟨_,Z⟩,h⟩
def Gl(X:Cx)(x:Lp):Prop:=X.env.kindOf x=some .globalImplicit
def zgy{E:Va}{bo:La}{s:Lj}{b:St}{H:Hp}{x:Lp}{u:Lh}{a:Pos}{Q:Va}(I:Inv X bo b H s)(hg:Gl X x)(c:X.mg x=some u)(h:Q u s)
  (hd:(x == ("__debug__" : Lp))=false:=by decide):wpAny (model X.prog X.w) X.A (eval (.Name x a) X.env) Q E s:=
 Calls.Name_function_global I.ok.kind hg (Calls.loadGlobal_global (by rw[I.ok.glob];exact I.mod.glob.keeps I.bk) c h) hd
def zfu{E:Va}{bo:La}{s:Lj}{e:St}{H:Hp}{x:Lp}{u:Lh}{a:Pos}{Q:Va}(I:Inv X bo e H s)(hg:Gl X x)(c:X.mg x=none)(hv:bootBuiltins x=some u)(h:Q u s)
  (f:x≠"__name__":=by decide) (hd:(x == ("__debug__" : Lp))=false:=by decide):wpAny (model X.prog X.w) X.A (eval (.Name x a) X.env) Q E s:=by
 obtain⟨mb,b,d⟩:=I.mod.blt;exact Calls.Name_function_global I.ok.kind hg (Calls.loadGlobal_builtin (by rw[I.ok.glob];exact I.mod.glob.keeps I.bk) c (by rw[I.ok.blt];exact b.keeps I.bk) ((d x f).trans hv) h) hd
def zn9{x:Lp}{v:V}{u:Lh}{a:Pos}(hg:Gl X x)(b:X.mg x=some u)(r:RelV v u)(hd:(x == ("__debug__" : Lp))=false:=by decide):PE X (.Name x a) (tC v):=
 λ_ _ _ H _ I h=>zgy I hg b ⟨v,H,I,r,h⟩ hd
variable{a b:Ln}{ta tb:TE}{pos:Pos}
def PC(X:Cx)(op:CmpOp)(a b:Ln)(t:TE):Prop:=
 ∀⦃bo:La⦄ (s:Lj) (σ:St) (H:Hp) (Q:VK),Inv X bo σ H s->t σ H Q ->
  wpAny (model X.prog X.w) X.A (eval a X.env) (λv s₁=>wpAny (model X.prog X.w) X.A (eval b X.env) (λu s₂=>wpAny (model X.prog X.w) X.A (compareOp op v u) (EP X bo σ Q) X.xe s₂) X.xe s₁) X.xe s
inductive rBl(x:V)(H1:Hp)(Q:Bool->Hp->Prop):Prop
 | mk (c) (_:x=.bl c) (_:Q c H1)
def tB(t:TE):TT:=λσ H Q=>t σ H λx H1=>rBl x H1 Q
def zlx{op:CmpOp}{t:TE}(h:PC X op a b t)(e:behindInMarks op b=false:=by first | exact nobehind _ (by decide) (by decide) | rfl):PT X (.Compare a [op] [b] pos) (tB t):=by
 intro bo s m H Q I hw;refine wpAny_isTrue_Compare1 (thn (h s m H _ I hw) λv s1 e=>thn e λu s2 j=>thn j λc s3 ⟨x,H1,i,l,f⟩=>?_) e;obtain⟨d,rfl,q⟩:=f
 cases l;exact Jp ⟨H1,i,q⟩
def zdc{e:Ln}{t:TE}(h:PE X e t)(f:∀whole,isTrue e X.env whole=(do let v <- whole;standAt e.pos;holding [v] (truthy v)):=by intro _;rfl):PT X e (tB t):=by
 intro bo s l H Q I hw;refine isTrue_plain (thn (h s l H _ I hw) λv s1 ⟨x,H1,i,j,c⟩=>?_) (f _);obtain⟨d,rfl,q⟩:=c
 cases j;exact Jp ⟨H1,i,q⟩
variable{tA tB':TT}{rest:List Ln}
def tAnd(t u:TT):TT:=λσ H Q=>t σ H λc H1=>if c=true then u σ H1 Q else Q false H1
def tOr(t u:TT):TT:=λσ H Q=>t σ H λc H1=>if c=true then Q true H1 else u σ H1 Q
def tNot(t:TT):TT:=λσ H Q=>t σ H λc H1=>Q (!c) H1
def zpu(d:PT X a tA):PW X (.BoolOp .And [a] pos) tA:=by
 intro wh bo s f H Q I h;refine isTrue_and (thn (d s f H Q I h) λc s1 e=>?_)
 cases c with
 | true=>exact isTrue_and_nil e
 | false=>exact e
def zh1(d:PT X a tA):PW X (.BoolOp .Or [a] pos) tA:=by
 intro wh bo s f H Q I h;refine isTrue_or (thn (d s f H Q I h) λc s1 e=>?_)
 cases c with
 | false=>exact isTrue_or_nil e
 | true=>exact e
def zs0(i:PT X a tA)(j:PW X (.BoolOp .And (b::rest) pos) tB'):PW X (.BoolOp .And (a::b::rest) pos) (tAnd tA tB'):=by
 intro wh bo s e H Q I h;refine isTrue_and (thn (i s e H _ I h) λc l ⟨H1,f,d⟩=>?_)
 cases c with
 | true=>exact j bo l e H1 Q f d
 | false=>exact⟨H1,f,d⟩
def zj8(i:PT X a tA)(j:PW X (.BoolOp .Or (b::rest) pos) tB'):PW X (.BoolOp .Or (a::b::rest) pos) (tOr tA tB'):=by
 intro wh bo s e H Q I h;refine isTrue_or (thn (i s e H _ I h) λc l ⟨H1,f,d⟩=>?_)
 cases c with
 | true=>exact⟨H1,f,d⟩
 | false=>exact j bo l e H1 Q f d
def ze4(d:PT X a tA):PT X (.UnaryOp .Not a pos) (tNot tA):=by
 intro bo s e H Q I h;exact isTrue_not (d s e H (λc H1=>Q (!c) H1) I h)
def zyr(ta tb:TE):TE:=λσ H Q=>ta σ H λx H1=>∃c,x=.bl c/\if c=true then tb σ H1 Q else Q (.bl false) H1
def tOrV(ta tb:TE):TE:=λσ H Q=>ta σ H λx H1=>∃c,x=.bl c/\if c=true then Q (.bl true) H1 else tb σ H1 Q
def zhr{op}(h:PE X a t):PE X (.BoolOp op [a] pos) t:=λbo s c H Q I hw=>BoolOp_one (h s c H Q I hw)
def zjx(i:PE X a ta)(m:PE X (.BoolOp .And (b::rest) pos) tb):PE X (.BoolOp .And (a::b::rest) pos) (zyr ta tb):=by
 intro bo s f H Q I h;refine BoolOp_and (thn (i s f H _ I h) λv j ⟨x,H1,e,l,d⟩=>?_);obtain⟨c,rfl,d⟩:=d
 cases l;refine Jp ?_
 cases c with
 | true=>exact m j f H1 Q e d
 | false=>exact⟨.bl false,H1,e,rfl,d⟩
def zza(i:PE X a ta)(m:PE X (.BoolOp .Or (b::rest) pos) tb):PE X (.BoolOp .Or (a::b::rest) pos) (tOrV ta tb):=by
 intro bo s f H Q I h;refine BoolOp_or (thn (i s f H _ I h) λv j ⟨x,H1,e,l,d⟩=>?_);obtain⟨c,rfl,d⟩:=d
 cases l;refine Jp ?_
 cases c with
 | false=>exact m j f H1 Q e d
 | true=>exact⟨.bl true,H1,e,rfl,d⟩
def tIf(t:TT)(ta tb:TE):TE:=λσ H Q=>t σ H λc H1=>if c=true then ta σ H1 Q else tb σ H1 Q
def zrf(m:PT X c tA)(l:PE X a ta)(n:PE X b tb):PE X (.IfExp c a b pos) (tIf tA ta tb):=by
 intro bo s e H Q I h;refine wpAny_IfExp (thn (m s e H _ I h) λd j ⟨H1,i,f⟩=>?_)
 cases d with
 | true=>exact l j e H1 Q i f
 | false=>exact n j e H1 Q i f
end
def SqL(K:Li)(H:Hp)(a:Lg)(xs:Lf):Prop:=
 Rd H a (.lst xs) \/
  ∃o its n,K.lookup a=some o/\o.cls=.type "list"/\o.dict=none/\o.data=.seq its n/\its.size<=sizeLine/\Vals xs its.toList
def SqT(K:Li)(H:Hp)(a:Lg)(xs:Lf):Prop:=
 Rd H a (.tup xs) \/
  ∃o its n,K.lookup a=some o/\o.cls=.type "tuple"/\o.data=.seq its n/\its.size<=sizeLine/\Vals xs its.toList
def absV:Lh->Option V
 | .none=>some .non
 | .bool b=>some (.bl b)
 | .int i _=>some (.int i)
 | .str x _=>some (.str x)
 | .bytes b _=>some (.byt b)
 | .float b _=>some (.flt b)
 | .ref a=>some (.ref a)
 | .type n=>some (.ty n)
 | _=>none
def RelV.abs(r:RelV x u):absV u=some x:=by
 cases x with
 | non=>cases r;rfl
 | bl _=>cases r;rfl
 | int _=>obtain⟨t,rfl⟩:=r;rfl
 | str _=>obtain⟨t,rfl⟩:=r;rfl
 | byt _=>obtain⟨t,rfl⟩:=r;rfl
 | flt _=>obtain⟨t,rfl⟩:=r;rfl
 | ref _=>cases r;rfl
 | ty _=>cases r;rfl
def RelV.inj(r:RelV x u)(q:RelV y u):x=y:=Jf (r.abs.symm.trans q.abs)
theorem Vals.inj:∀{xs ys} {us},Vals xs us->Vals ys us->xs=ys
 | _,_,_,.nil,.nil=>rfl
 | _,_,_,.cons r t,.cons r' t'=>by rw[r.inj r',Vals.inj t t']
section
variable{X:Cx}{bo:La}{σ:St}{H:Hp}{s:Lj}{a:Lg}{xs ys:Lf}
def SqL.of{K:Li}(h:H a=some (.lst xs)):SqL K H a xs:=.inl (.inl h)
def SqT.of{K:Li}(h:H a=some (.tup xs)):SqT K H a xs:=.inl (.inl h)
def Inv.list(I:Inv X bo σ H s)(h:SqL X.K H a xs):∃its,Vals xs its/\PlainL s.heap a its.toArray/\xs.length<=sizeLine:=by
 rcases h with h | ⟨o,its,n,b,d,hd,c,hz,r⟩
 ·obtain⟨z,its,n,r,e⟩:=h.ok I.hok;exact⟨its,r,⟨_,n,e,Z,Z,Z⟩,z⟩
 ·refine⟨its.toList,r,⟨o,n,I.kIn a o b,d,hd,by simpa using c⟩,?_⟩;have e:=r.length;simp only[Array.length_toList]at e;lia
def Inv.tuple(I:Inv X bo σ H s)(h:SqT X.K H a xs):∃its,Vals xs its/\IsTup s.heap a its.toArray/\xs.length<=sizeLine:=by
 rcases h with h | ⟨o,its,n,b,d,c,hz,r⟩
 ·obtain⟨z,its,r,p⟩:=h.ok I.hok;exact⟨its,r,p,z⟩
 ·refine⟨its.toList,r,⟨o,I.kIn a o b,d,n,by simpa using c⟩,?_⟩;have e:=r.length;simp only[Array.length_toList]at e;lia
def Inv.list_inj(I:Inv X bo σ H s)(h:SqL X.K H a xs)(h':SqL X.K H a ys):xs=ys:=by
 obtain⟨its,r,⟨o,n,e,_,_,d⟩,_⟩:=I.list h;obtain⟨its',c,⟨o',n',b,_,_,d'⟩,_⟩:=I.list h';rw[e]at b;cases b;rw[d]at d';injection d' with d1 _
 have:its=its':=by simpa using Jw Array.toList d1
 subst this;exact r.inj c
def Inv.tuple_inj(I:Inv X bo σ H s)(h:SqT X.K H a xs)(h':SqT X.K H a ys):xs=ys:=by
 obtain⟨its,r,⟨o,e,_,n,d⟩,_⟩:=I.tuple h;obtain⟨its',c,⟨o',b,_,n',d'⟩,_⟩:=I.tuple h';rw[e]at b;cases b;rw[d]at d';injection d' with d1 _
 have:its=its':=by simpa using Jw Array.toList d1
 subst this;exact r.inj c
end
abbrev Cx.wish(X:Cx)(E:Va):Cx:={ X with xe:=E }
abbrev Cx.nox(X:Cx):Cx:=X.wish λ_ _=>False
def Cx.Ok.wish{X:Cx}(ok:X.Ok)(E:Va):(X.wish E).Ok:=
 ⟨ok.mod,ok.kind,ok.glob,ok.blt,ok.above,ok.inj,ok.has,ok.cab,ok.hd,ok.frames,ok.stk,ok.exf,ok.bs,ok.bsz,ok.noex,ok.exfs,ok.funs,ok.frf⟩
def Cx.Ok.unwish{X:Cx}(ok:(X.wish E).Ok):X.Ok:=
 ⟨ok.mod,ok.kind,ok.glob,ok.blt,ok.above,ok.inj,ok.has,ok.cab,ok.hd,ok.frames,ok.stk,ok.exf,ok.bs,ok.bsz,ok.noex,ok.exfs,ok.funs,ok.frf⟩
section
variable{X:Cx}{bo:La}{σ:St}{H:Hp}{s:Lj}{E:Va}
def Inv.wish(I:Inv X bo σ H s)(E:Va):Inv (X.wish E) bo σ H s:=⟨I.ok.wish E,I.os,I.bare,I.base,I.loc,I.cell,I.free,I.freeC,I.pin,I.hok,I.len⟩
def Inv.unwish(I:Inv (X.wish E) bo σ H s):Inv X bo σ H s:=⟨I.ok.unwish,I.os,I.bare,I.base,I.loc,I.cell,I.free,I.freeC,I.pin,I.hok,I.len⟩
def SP.unwish(h:SP (X.wish E) bo D f s'):SP X bo D f s':=by
 cases f with
 | next=>obtain⟨a,H',I,q⟩:=h;exact⟨a,H',I.unwish,q⟩
 | brk=>obtain⟨a,H',I,q⟩:=h;exact⟨a,H',I.unwish,q⟩
 | cont=>obtain⟨a,H',I,q⟩:=h;exact⟨a,H',I.unwish,q⟩
 | ret u=>obtain⟨v,a,H',I,r,q⟩:=h;exact⟨v,a,H',I.unwish,r,q⟩
def PSs.nox{st:List Lm}(h:PSs X.nox st t):PSs X st t:=λbo s σ H D I hw=>
 wpAny_mono (h s σ H D (I.wish _) hw) (λ_ _ q=>q.unwish) λ_ _ z=>Je z
end
section
variable{X:Cx}{st:Lm}{rest:List Lm}{t u:TS}{e:Ln}{te:TE}{pos:Pos}
def zyi:TS:=λD σ H=>D.nx σ H
def tSeq(t u:TS):TS:=λD σ H=>t { D with nx:=u D } σ H
def zax:PSs X [] zyi:=λ_ _ a H _ I h=>wpAny_execs_nil ⟨a,H,I,h⟩
def zaa(b:PS X st t)(i:PSs X rest u):PSs X (st::rest) (tSeq t u):=by
 intro bo s c H D I h;refine wpAny_execs_cons (thn (b s c H { D with nx:=u D } I h) λf j q=>?_)
 cases f with
 | next=>
  obtain⟨a,H',d,q⟩:=q;exact i j a H' D d q
 | ret v=>exact q
 | brk=>exact q
 | cont=>exact q
def zah(a:PS X st t):PSs X [st] t:=by
 intro bo s b H D I h;refine wpAny_execs_cons (thn (a s b H D I h) λf s1 q=>?_)
 cases f with
 | next=>exact wpAny_execs_nil q
 | ret v=>exact q
 | brk=>exact q
 | cont=>exact q
def Inv.quiet{a:St}(I:Inv X bo a H s):interactive X.env=false:=by simp[interactive,I.ok.kind]
def zzd(te:TE):TS:=λD σ H=>te σ H λ_ H1=>D.nx σ H1
def zb4(c:PE X e te)(f:swapsWith e none pos.line X.env=pure false:=by rfl):PS X (.Expr e pos) (zzd te):=by
 intro bo s a H D I h;exact wpAny_Expr_any (thn (c s a H _ I h) λv s1 ⟨x,H1,d,r1,b⟩=>⟨a,H1,d,b⟩) I.quiet f
def tRet(te:TE):TS:=λD σ H=>te σ H D.rt
def zao(d:PE X e te):PS X (.Return (some e) pos) (tRet te):=by
 intro bo s a H D I h;exact wpAny_Return_some (thn (d s a H _ I h) λv s1 ⟨x,H1,f,b,c⟩=>⟨x,a,H1,f,b,c⟩)
def tIfS(c:TT)(t u:TS):TS:=λD σ H=>c σ H λb H1=>if b=true then t D σ H1 else u D σ H1
def zbi(n:PT X c tc)(m:PSs X a t)(o:PSs X b u):PS X (.If c a b pos) (tIfS tc t u):=by
 intro bo s f H D I h;refine wpAny_If (thn (n s f H _ I h) λd l ⟨H1,j,i⟩=>?_)
 cases d with
 | true=>exact m l f H1 D j i
 | false=>exact o l f H1 D j i
end
abbrev TG:=V->St->Hp->(St->Hp->Prop)->Prop
abbrev TGs:=Lf->St->Hp->(St->Hp->Prop)->Prop
def PG(X:Cx)(target:Ln)(t:TG):Prop:=
 ∀⦃bo:La⦄ (s:Lj) (σ:St) (H:Hp) (v:V) (u:Lh) (Q:St->Hp->Prop),Inv X bo σ H s->RelV v u->t v σ H Q ->
  wpAny (model X.prog X.w) X.A (assign target X.env u) (λ_ s'=>∃σ' H',Inv X bo σ' H' s'/\Q σ' H') X.xe s
def PGs(X:Cx)(ts:List Ln)(t:TGs):Prop:=
 ∀⦃bo:La⦄ (s:Lj) (σ:St) (H:Hp) (vs:Lf) (us:List Lh) (Q:St->Hp->Prop),Inv X bo σ H s->Vals vs us->t vs σ H Q ->
  wpAny (model X.prog X.w) X.A (assignInOrder ((assignEach ts X.env).map (·.2)) us) (λ_ s'=>∃σ' H',Inv X bo σ' H' s'/\Q σ' H') X.xe s
abbrev TSet:=V->V->V->Hp->(Hp->Prop)->Prop
def PSet(X:Cx)(t:TSet):Prop:=
 ∀bo s (σ:St) H o i v ov iv u Q,Inv X bo σ H s->RelV o ov->RelV i iv->RelV v u->t o i v H Q ->
  wpAny (model X.prog X.w) X.A (setItem ov iv u) (λ_ s'=>∃H',Inv X bo σ H' s'/\Q H') X.xe s
abbrev TIp:=V->V->Hp->VK->Prop
def PIp(X:Cx)(op:Operator)(t:TIp):Prop:=
 ∀bo s (σ:St) H x y v u Q,Inv X bo σ H s->RelV x v->RelV y u->t x y H Q ->
  wpAny (model X.prog X.w) X.A (inplaceOp op v u) (EP X bo σ Q) X.xe s
section
variable{X:Cx}{pos:Pos}
def zap(i:Nat):TG:=λv σ H Q=>Q (σ.set i (some v)) H
def zas{i:Nat}{x:Lp}(hN:X.N.Nodup)(hi:X.N[i]? = some x)(a:Loc X.env.scope x)(b:X.fn x=true\/X.env.scope.names.lookup x=some .local:=by first | exact .inl rfl | exact .inr rfl | assumption):PG X (.Name x pos) (zap i):=by
 intro bo s σ H v u Q I r h;exact wpAny_assign_Name (zh7 I hN hi a r (λs' c=>⟨_,H,c,h⟩) b)
def gNil:TGs:=λvs σ H Q=>vs=[]/\Q σ H
def zkx(t:TG)(u:TGs):TGs:=λvs σ H Q=>∃v r,vs=v::r/\t v σ H λσ' H'=>u r σ' H' Q
def zcd:PGs X [] gNil:=by
 intro bo s a H vs us Q I r h;obtain⟨e,h⟩:=h;subst e
 cases r;exact assignInOrder_nil ⟨a,H,I,h⟩
def za1{e:Ln}{a:List Ln}{t:TG}{u:TGs}(c:PG X e t)(i:PGs X a u)
  (n:(assignEach (e::a) X.env).map (·.2)=assign e X.env::(assignEach a X.env).map (·.2):=by rfl):PGs X (e::a) (zkx t u):=by
 intro bo s m H vs us Q I r h;obtain⟨v,vr,f,h⟩:=h;subst f
 cases r with
 | cons r rr=>
  rw[n];refine assignInOrder_cons (thn (c s m H _ _ _ I r h) λ_ l ⟨b,H1,j,d⟩=>?_);exact i l b H1 _ _ Q j rr d
inductive gTup(K:Li)(n:Nat)(t:TGs)(v:V)(σ:St)(H:Hp)(Q:St->Hp->Prop):Prop
 | mk (a xs) (_:v=.ref a) (_:SqT K H a xs) (_:xs.length=n) (_:t xs σ H Q)
def zc4{c:List Ln}{k:Nat}{t:TGs}{n:Nat}(y:X.calm=true)(h:PGs X c t)
  (w:(assignEach c X.env).length=n:=by rfl) (d:(assignEach c X.env).findIdx? (·.1)=none:=by rfl):PG X (.Tuple c k pos) (gTup X.K n t):=by
 intro bo s f H v u Q I r hw;obtain⟨a,xs,j,m,x,hw⟩:=hw;subst j
 cases r;obtain⟨its,i,l,hz⟩:=I.tuple m;refine assign_Tuple_tuple (I.ok.hd y) l (by simp[w,<- x,i.length]) d λh' p=>?_
 have q:Inv X bo f H { s with heap:=h' }:=I.kept (t':=s.toks) λb o e=>p b o (Y0 (Yn e)) e
 exact h _ f H xs _ Q q (by simpa using i) hw
def gSub(to ti:TE)(t:TSet):TG:=λv σ H Q=>to σ H λo H1=>ti σ H1 λi H2=>t o i v H2 λH3=>Q σ H3
def zhm{o i:Ln}{e d:TE}{t:TSet}(E:PE X o e)(hi:PE X i d)(C:PSet X t)
  (f:∀v,assign (.Subscript o i pos) X.env v=(do
   let a <- holding [v] (eval o X.env)
   let b <- holding [v,a] (eval i X.env)
   standAt pos
   holding [v,a,b] (setItem a b v)
   release [v,a,b] []):=by intro _;rfl):PG X (.Subscript o i pos) (gSub e d t):=by
 intro bo s c H v u Q I r h;rw[f];refine Ya (Jq (thn (E s c H _ I h) λa w ⟨x,H1,q,A,l⟩=>?_));refine Ya (Jq (thn (hi w c H1 _ q l) λb D ⟨y,B,G,z,p⟩=>?_));refine Ya (wpAny_standAt (Ya (Jq (thn (C bo D c B x y v a b u _ G A z r p) λ_ s3 ⟨n,j,m⟩=>?_))));exact wpAny_release ⟨c,n,j,m⟩
def tAsg(te:TE)(g:TG):TS:=λD σ H=>te σ H λx H1=>g x σ H1 D.nx
def zhx{a e:Ln}{b:TE}{g:TG}(i:PE X e b)(hg:PG X a g)(n:swapsWithSole [a] e pos.line X.env=pure false:=by rfl)(hw:swappedStores [a] e X.env=pure none:=by rfl)
  (d:(assignEach [a] X.env).map (·.2)=[assign a X.env]:=by rfl):PS X (.Assign [a] e pos) (tAsg b g):=by
 intro bo s c H D I h;refine wpAny_Assign_stores (thn (i s c H _ I h) λv l ⟨x,H1,j,m,f⟩=>?_) n hw;rw[d];exact thn (hg l c H1 x v _ j m f) λ_ s2 q=>q
def zwd{i:Nat}{x:Lp}{e:Ln}{b:TE}{a:Pos}(hN:X.N.Nodup)(hi:X.N[i]? = some x)(c:Loc X.env.scope x)(j:PE X e b)(o:swapsWith e (some (.Name x a)) pos.line X.env=pure false:=by rfl)(f:X.fn x=true\/X.env.scope.names.lookup x=some .local:=by first | exact .inl rfl | exact .inr rfl | assumption) :
  PS X (.Assign [.Name x a] e pos) (tAsg b (zap i)):=by
 intro bo s n H D I h;refine wpAny_Assign_Name (thn (j s n H _ I h) λv s1 ⟨y,H1,l,m,d⟩=>?_) o;exact zh7 l hN hi c m (λs2 p=>⟨_,H1,p,d⟩) f
def tAug(i:Nat)(te:TE)(ti:TIp):TS:=λD σ H=>∃x,σ[i]? = some (some x)/\te σ H λy H1=>ti x y H1 λz H2=>D.nx (σ.set i (some z)) H2
def zxs{i:Nat}{x:Lp}{e:Ln}{p:TE}{op:Operator}{B:TIp}{d:Pos}(hN:X.N.Nodup)(hi:X.N[i]? = some x)(n:Loc X.env.scope x)(O:PE X e p)(ho:PIp X op B)(E:X.fn x=true\/X.env.scope.names.lookup x=some .local:=by first | exact .inl rfl | exact .inr rfl | assumption) :
  PS X (.AugAssign (.Name x d) op e pos) (tAug i p B):=by
 intro bo s q H D I h;obtain⟨v,J,h⟩:=h;obtain⟨m,W,Y⟩:=I.loc;have o:Vis X.env.scope x:=by rcases n with k | k;exact .inl k;exact .inr (.inl k)
 obtain⟨u,r,l⟩:=Y i x v hi J o;refine wpAny_AugAssign_Name ?_;have C:wpAny (model X.prog X.w) X.A (eval e X.env) (λw j=>wpAny (model X.prog X.w) X.A (inplaceOp op u w) (λr f=>wpAny (model X.prog X.w) X.A (storeName X.env x r) (λ_=>SP X bo D .next) X.xe f) X.xe j) X.xe s:=by
  refine thn (O s q H _ I h) λw R ⟨y,H1,Q,T,M⟩=>?_
  refine thn (ho bo R q H1 v y u w _ Q r T M) λz s2 ⟨zv,U,L,S,P⟩=>?_
  exact zh7 L hN hi n S (λs3 G=>⟨_,U,G,P⟩) E
 rcases l with⟨a,K⟩ | ⟨a,c,hc,b⟩
 ·exact wpAny_loadName_local I.ok.kind a W K C
 ·rcases a with a | a
  ·exact wpAny_loadName_cell I.ok.kind a hc b C
  ·rcases n with k | k
   ·have:X.env.scope.names.lookup x=some .free:=a;rw[k]at this;cases this
   ·have:X.env.scope.names.lookup x=some .free:=a;rw[k]at this;cases this
def ipI(f:Int->Int->Int):TIp:=λx y H Q=>∃i j,x=.int i/\y=.int j/\Q (.int (f i j)) H
def zwr:PIp X .Add (ipI λi j=>i+j):=by
 intro bo s σ H x y v u Q I c b h;obtain⟨i,j,a,d,q⟩:=h;subst a;subst d;obtain⟨t,rfl⟩:=c;obtain⟨t',rfl⟩:=b;exact iadd_int ⟨.int _,H,I.tok _,⟨_,rfl⟩,q⟩
end
section
variable{X:Cx}{pos:Pos}
def zwq(c:TT)(tb:TS):TS:=λD σ H=>∃W:Nat->St->Hp->Prop,(∃m,W m σ H)/\∀m σ H,W m σ H ->
 c σ H λb H1=>if b=true then ∃N,(∀σ' H',N σ' H'->∃m',m'<m/\W m' σ' H')/\tb { D with nx:=N,ct:=N,bk:=D.nx } σ H1 else D.nx σ H1
def zdb(x:PassesOwn (model X.prog X.w) X.A X.env X.xe)(M:PT X c tc)(C:PSs X body tb):PS X (.While c body [] pos) (zwq tc tb):=by
 intro bo s B H D I h;obtain⟨W,⟨E,G⟩,turn⟩:=h;refine wpAny_While (codeAny_whileLoop (λn s'=>∃σ' H',Inv X bo σ' H' s'/\W n σ' H') ?_ E ⟨B,H,I,G⟩);rintro n K ⟨d,H1,J,z⟩;refine wpAny_passesOwn x (thn (M K d H1 _ J (turn n d H1 z)) λb L ⟨y,r,j⟩=>?_)
 cases b with
 | true=>
  obtain⟨N,hN,j⟩:=j;rw[Yl rfl];refine wpAny_passesOwn x (thn (C L d y _ r j) λf s3 i=>?_)
  cases f with
  | next=>
   obtain⟨a,e,l,q⟩:=i;obtain⟨p,o,m⟩:=hN a e q;exact⟨p,o,a,e,l,m⟩
  | cont=>
   obtain⟨a,e,l,q⟩:=i;obtain⟨p,o,m⟩:=hN a e q;exact⟨p,o,a,e,l,m⟩
  | brk=>exact i
  | ret v=>exact i
 | false=>
  rw[Yh Yt];exact wpAny_execs_nil ⟨d,y,r,j⟩
end
structure It where
 go:Nat->Hp->Prop
 yld:Nat->Hp->V->Hp->Prop
 stop:Nat->Hp->Prop
def FpOk(X:Cx)(bo:La)(H:Hp)(b:Lg):Prop:=
 H b=none/\b≠X.env.locals/\b ∉ X.fs/\(b∈X.ex\/X.s₀.heap.objs.size<=b)/\(∀x c,X.env.cells.lookup x=some c->c≠b)/\∀p∈X.pn++bo,p.1≠b
def Inv.fpOk{d:St}{b:Lg}(I:Inv X bo d H s)(a:s.heap.objs.size<=b)(f:H' b=none):FpOk X bo H' b:=by
 refine⟨f,Nat.ne_of_gt (Yf I.lt a),I.nofs a,.inr (Yr I.sz a),λx c e z=>?_,λp h z=>?_⟩
 ·obtain⟨v,q⟩:=I.cell x c e;exact absurd (Yf q.lt (by rw[z];exact a)) (Nat.lt_irrefl _)
 ·exact absurd (Yf (Yn (I.pin p h).1) (by rw[z];exact a)) (Nat.lt_irrefl _)
structure Turn(P:Ll)(w:Lk)(K:Li)(tg:Ln)(J:It)(fp:Le)(it:Lg)(tn:Nat->Lo->Prop):Prop where
 mem:it∈fp
 obj:∀i h,tn i h->∀b∈fp,∃o,h.get? b=some o/\∀v,o.data≠.cell v
 keep:∀i h h',tn i h->(∀b∈fp,∀o,h.get? b=some o->h'.get? b=some o)->tn i h'
 item:∀(X:Cx),X.prog=P->X.w=w->X.K=K->X.calm=true->∀(i:Nat) (bo:La) (s:Lj) (σ:St) (H:Hp) (E:Va),Inv X bo σ H s->(∀b∈fp,FpOk X bo H b)->tn i s.heap->J.go i H ->
  wpAny (model P w) X.A (pyNext (.ref it)) (λr s1=>∃u,r=some u /\
   wpAny (model P w) X.A (letOwnedTupleGo tg (.ref it) u) (λ_ s2=>∃x H',Inv X bo σ H' s2/\RelV x u/\J.yld i H x H'/\tn (i+1) s2.heap/\∀b∈fp,H' b=none) E s1) E s
 done:∀(X:Cx),X.prog=P->X.w=w->X.K=K->X.calm=true->∀(i:Nat) (bo:La) (s:Lj) (σ:St) (H:Hp) (E:Va),Inv X bo σ H s->(∀b∈fp,FpOk X bo H b)->tn i s.heap->J.stop i H ->
  wpAny (model P w) X.A (pyNext (.ref it)) (λr s1=>r=none/\Inv X bo σ H s1) E s
 self:∀(A:Around) (i:Nat) (s:Lj) (Q:Va) (E:Va),tn i s.heap->Q (.ref it) s->wpAny (model P w) A (pyIter (.ref it)) Q E s
abbrev TI:=St->Hp->(It->Hp->Prop)->Prop
def PIE(X:Cx)(bo:La)(σ:St)(tg:Ln)(R:It->Hp->Prop)(itv:Lh)(s2:Lj):Prop:=
 ∃it fp tn J H',itv=.ref it/\Inv X bo σ H' s2/\Turn X.prog X.w X.K tg J fp it tn/\tn 0 s2.heap/\(∀b∈fp,FpOk X bo H' b)/\R J H'
def PI(X:Cx)(tg iter:Ln)(wi:TI):Prop:=
 ∀⦃bo:La⦄ (s:Lj) (σ:St) (H:Hp) (R:It->Hp->Prop),Inv X bo σ H s->wi σ H R ->
  wpAny (model X.prog X.w) X.A (eval iter X.env) (λv s1=>wpAny (model X.prog X.w) X.A (pyIter v) (PIE X bo σ tg R) X.xe s1) X.xe s
def zo9(c:s.heap.get? it=some o)(d:o.cls=.type n)(hd:o.data=.fields vs)
  (b:["enumerate","zip","dict_itemiterator","dict_reverseitemiterator","odict_iterator","itertools.zip_longest","itertools.pairwise"].contains n=false) (a:Q () s):wpAny M A (letOwnedTupleGo tg (.ref it) u) Q E s:=by
 unfold letOwnedTupleGo
 cases tg <;> first
  | exact Yb a
  | (cases u <;> first
    | exact Yb a
    | (refine Ya (wpAny_load c ?_)
       rw[d,hd];show wpAny M A (if (["enumerate","zip","dict_itemiterator","dict_reverseitemiterator","odict_iterator","itertools.zip_longest","itertools.pairwise"].contains n&&vs[0]? == some (rawInt _))=true then _ else _) Q E s;rw[Yh (by intro h;rw[b,Bool.false_and]at h;cases h)];exact Yb a))
def Itl(K:Li)(a:Lg):It:=
 ⟨λi H=>∃xs x,SqL K H a xs/\xs[i]? = some x,λi H x H'=>H'=H/\∀xs,SqL K H a xs->xs[i]? = some x,λi H=>∃xs,SqL K H a xs/\xs.length<=i⟩
def Itr(lo:Int)(n:Nat):It:=⟨λi _=>i<n,λi H x H'=>H'=H/\x=.int (lo+i),λi _=>n<=i⟩
def zol{K:Li}(a it:Lg):Turn P w K tg (Itl K a) [it] it (λi h=>h.IsListIter it a i) where
 mem:=by simp
 obj:=λi h st b f=>by
  have e:b=it:=by simpa using f
  subst e;obtain⟨o,e,c,d⟩:=st;exact⟨o,e,λv z=>by rw[d]at z;cases z⟩
 keep:=λi h h' st k=>st.at λo e=>k it (by simp) o e
 item:=by
  intro X n hw q L i bo s J H E I l st hg;subst n hw q;obtain⟨xs,x,m,B⟩:=hg;obtain⟨its,y,p,hz⟩:=I.list m;obtain⟨u,R,T⟩:=y.get B;obtain⟨C,D,S,r,G,A⟩:=l it (by simp);refine wpAny_pyNext_list_item st p.isList (x:=u) (by simpa using R) λh' j O=>?_
  have Q:Inv X bo J H { s with heap:=h' }:=I.turned (t':=s.toks) (λb o f e=>(O.2 b f).trans e) C D r G A;obtain⟨o,e,c,d⟩:=id j;exact⟨u,Z,zo9 (s:={ s with heap:=h' }) e c d (by decide) ⟨x,H,Q,T,⟨Z,λys M=>by rw[I.list_inj M m];exact B⟩,j,λb f=>(l b f).1⟩⟩
 done:=by
  intro X n hw q L i bo s J H E I l st hg;subst n hw q;obtain⟨xs,m,B⟩:=hg;obtain⟨its,y,p,hz⟩:=I.list m;obtain⟨C,D,S,r,G,A⟩:=l it (by simp);have hl:=y.length;exact wpAny_pyNext_list_end (I.ok.hd L) st p.isList (by simp;lia) λh' N=>⟨rfl,I.turned (t':=s.toks) (λb o f e=>N b o f e) C D r G A⟩
 self:=λ_ _ _ _ _ st h=>wpAny_pyIter_listiter st h
def zmn{K:Li}(it:Lg)(lo:Int)(n:Nat):Turn P w K tg (Itr lo n) [it] it (λi h=>IsRangeIter h it (lo+(i:Nat)*1) ((n:Int)-(i:Nat)) 1) where
 mem:=by simp
 obj:=λi h st b a=>by
  have e:b=it:=by simpa using a
  subst e;exact⟨_,st,λv z=>by
   have B:Data.fields _=Data.cell v:=z
   cases B⟩
 keep:=λi h h' st k=>k it (by simp) _ st
 item:=by
  intro X f hw j x i bo s y H E I d st hg;subst f hw j;obtain⟨p,q,D,l,r,m⟩:=d it (by simp);have W:=Walks.range (prog:=X.prog) (w:=X.w) (I.ok.hd x) it lo 1 n;refine W.item i s _ _ hg st λv h' tk hv c kk=>?_
  obtain⟨t,rfl⟩:=hv;have C:Inv X bo y H { s with heap:=h',toks:=tk }:=I.turned (λb o a e=>kk b o (by simpa using a) e) p q l r m;refine⟨_,Z,zo9 (s:={ s with heap:=h',toks:=tk }) (n:="range_iterator") c rfl rfl (by decide) ⟨.int (lo+i),H,C,⟨t,?_⟩,⟨Z,Z⟩,c,λb a=>(d b a).1⟩⟩;rw[Int.mul_one]
 done:=by
  intro X f hw j x i bo s y H E I d st hg;subst f hw j;obtain⟨p,q,D,l,r,m⟩:=d it (by simp);exact wpAny_pyNext_range_end (I.ok.hd x) st (by have:n<=i:=hg;lia) λh' A=>⟨rfl,I.turned (t':=s.toks) (λb o a e=>A b o a e) p q l r m⟩
 self:=λ_ _ _ _ _ st h=>wpAny_pyIter_rangeiter st h
section
variable{X:Cx}{tg:Ln}
def zw8(K:Li)(tl:TE):TI:=λσ H R=>tl σ H λx H1=>∃a,x=.ref a/\(∃xs,SqL K H1 a xs)/\R (Itl K a) H1
def zvb(n:PE X l tl):PI X tg l (zw8 X.K tl):=by
 intro bo s j H R I h;refine thn (n s j H _ I h) λv d ⟨x,H1,c,i,f⟩=>?_
 obtain⟨a,e,⟨xs,r⟩,q⟩:=f;subst e
 cases i;obtain⟨its,rv,p,hz⟩:=c.list r;refine wpAny_pyIter_list p.isList ?_;refine⟨d.heap.objs.size,[d.heap.objs.size],_,_,H1,Z,c.kept (t':=d.toks) λb o e=>Ye _ e,zol a _,⟨_,Yk _ rfl,Z,Z⟩,λb m=>?_,q⟩;have e:b=d.heap.objs.size:=by simpa using m
 subst e;exact c.fpOk (Yi _) (c.hok.fresh (Yi _))
def zqm{c:St}{lo hi:Int}(I:Inv X bo c H s)(d : -(2^62)<=lo)(i:lo<2^62)(j : -(2^62)<=hi)(h:hi<2^62)
  (q:R (Itr lo (hi-lo).toNat) H):wpAny (model X.prog X.w) X.A (pyIter (.ref s.heap.objs.size)) (PIE X bo c tg R) E { s with heap:=s.heap.push { cls:=.type "range",data:=.fields #[.int lo t,.int hi u,.int 1 v] },toks:=tk }:=by
 refine wpAny_pyIter_range (IsRange.new ..) (small_one d i j h) ?_;have a:Inv X bo c H { s with heap:=s.heap.push { cls:=.type "range",data:=.fields #[.int lo t,.int hi u,.int 1 v] },toks:=tk }:=I.kept λb o e=>Ye _ e
 refine⟨(s.heap.push { cls:=.type "range",data:=.fields #[.int lo t,.int hi u,.int 1 v] }).objs.size,[(s.heap.push { cls:=.type "range",data:=.fields #[.int lo t,.int hi u,.int 1 v] }).objs.size],_,_,H,Z,
  a.kept (t':=tk) λb o e=>Ye _ e,zmn _ lo (hi-lo).toNat,?_,λb m=>?_,q⟩
 ·have f:lo+((0:Nat):Int)*1=lo:=by simp
  have l:(((hi-lo).toNat:Nat):Int)-((0:Nat):Int)=Builtin.Range.rangeSize lo hi 1:=by rw[rangeSize_one];split <;> lia
  show IsRangeIter _ _ (lo+((0:Nat):Int)*1) ((((hi-lo).toNat:Nat):Int)-((0:Nat):Int)) 1;rw[f,l];exact Yk _ rfl
 ·have e:b=(s.heap.push { cls:=.type "range",data:=.fields #[.int lo t,.int hi u,.int 1 v] }).objs.size:=by simpa using m
  subst e;exact a.fpOk (Yi _) (a.hok.fresh (Yi _))
def zxt(ta:TA):TI:=λσ H R=>ta σ H λvs H1=>∃j,vs=[.int j]/\-(2^62)<=j/\j<2^62/\R (Itr 0 j.toNat) H1
def zbq{a:Ln}{d:TA}{p c:Pos}(hg:Gl X "range")(i:X.mg "range" = none)(f:PA X [a] d)(w:starEach [a] X.env=[(false,eval a X.env)]:=by rfl):PI X tg (.Call (.Name "range" p) [a] [] c) (zxt d):=by
 intro bo s o H R I h;refine Call_ (zfu I hg i boot_range (PyProof.Rows.callWith_type1 (thn (f bo s o H _ I h) λus s1 ⟨vs,H1,m,n,b⟩=>?_) w rfl));obtain⟨j,e,b,l,q⟩:=b;subst e
 cases n with
 | cons r rr=>
  cases rr;obtain⟨t,rfl⟩:=r;exact call_range_1 (zqm m (by lia) (by lia) b l (by simpa using q))
def tFor(wi:TI)(g:TG)(tb:TS):TS:=λD σ H=>wi σ H λJ H1=>∃W:Nat->Nat->St->Hp->Prop,(∃m,W 0 m σ H1)/\∀i m σ H,W i m σ H ->
 (J.stop i H/\D.nx σ H)\/(J.go i H/\∃N,(∀σ' H',N σ' H'->∃m',m'<m/\W (i+1) m' σ' H')/\∀x H',J.yld i H x H'->g x σ H' λσ2 H2=>tb { D with nx:=N,ct:=N,bk:=D.nx } σ2 H2)
def zje(fp:Le)(h:Lo):La:=fp.filterMap λb=>(h.get? b).map λo=>(b,o)
def zdd(a:b∈fp)(e:h.get? b=some o):(b,o)∈zje fp h:=List.mem_filterMap.mpr ⟨b,a,by rw[e];rfl⟩
def zpp(d:p∈zje fp h):p.1∈fp/\h.get? p.1=some p.2:=by
 obtain⟨b,a,e⟩:=List.mem_filterMap.mp d
 cases q:h.get? b with
 | none=>rw[q]at e;cases e
 | some o=>
  rw[q]at e;have c:(b,o)=p:=Jf e;subst c;exact⟨a,q⟩
def Inv.pinned{c:St}(I:Inv X bo c H s)(h:∀b∈fp,FpOk X bo H b)(m:∀b∈fp,∃o,s.heap.get? b=some o/\∀v,o.data≠.cell v):Inv X (bo++zje fp s.heap) c H s:=
 I.pins_of λp n=>(Ju.mp n).elim (λz=>I.pin p (Yg _ z)) λz=>by
  obtain⟨f,e⟩:=zpp z;obtain⟨i,j,l,_⟩:=h p.1 f;obtain⟨o,a,d⟩:=m p.1 f;rw[e]at a;cases a;exact⟨e,i,j,l,d⟩
def Inv.unpinned{a:St}(I:Inv X (bo++pl) a H s):Inv X bo a H s:=I.pins_of λp b=>I.pin p (Yg _ (List.mem_append_left _ b))
def zbm{l:Ln}{body:List Lm}{wi:TI}{g:TG}{tb:TS}{U:Pos}(G:PassesOwn (model X.prog X.w) X.A X.env X.xe)(hc:X.calm=true)(hi:PI X tg l wi)(hg:PG X tg g)(q:PSs X body tb)
  (hs:∀x,foldedSetIterable l X.env x=pure x:=by intro _;rfl):PS X (.For tg l body [] U) (tFor wi g tb):=by
 intro bo s σ H D I h;refine wpAny_For (thn (hi s σ H _ I h) λv s1 h1=>thn h1 λitv s2 h2=>?_) hs;obtain⟨it,fp,tn,J,H2,e,I2,T,P,f2,W,⟨m0,w0⟩,turn⟩:=h2;subst e;have c:∀{H':Hp},(∀b∈fp,H' b=none)->∀b∈fp,FpOk X bo H' b:=λhn b q=>⟨hn b q,(f2 b q).2⟩
 refine codeAny_forLoop_any (λn s'=>∃i σ' H',Inv X bo σ' H' s'/\tn i s'.heap/\(∀b∈fp,H' b=none)/\W i n σ' H') ?_ m0 ⟨0,σ,H2,I2,P,λb q=>(f2 b q).1,w0⟩;rintro n s3 ⟨i,y,O,I3,L,M,w3⟩;rcases turn i n y O w3 with⟨K,qn⟩ | ⟨go,N,hN,step⟩
 ·refine wpAny_passesOwn G (thn (T.done X rfl rfl rfl hc i bo s3 y O X.xe I3 (c M) L K) λr s4 ⟨Y,I4⟩=>?_);subst Y;exact wpAny_execs_nil ⟨y,O,I4,qn⟩
 ·refine wpAny_passesOwn G (thn (T.item X rfl rfl rfl hc i bo s3 y O X.xe I3 (c M) L go) λr s4 ⟨u,Y,h4⟩=>?_);subst Y;refine wpAny_passesOwn G (thn h4 λ_ s5 ⟨x,H5,I5,r5,y5,C,R⟩=>?_);have a0:=I5.pinned (c R) (T.obj _ _ C);refine wpAny_passesOwn G (thn (hg s5 y H5 x u _ a0 r5 (step x H5 y5)) λ_ s6 ⟨Q,H6,I6,q6⟩=>?_);refine wpAny_passesOwn G (thn (q s6 Q H6 _ I6 q6) λf S B=>?_);have z:∀{a:St} {j:Hp},Inv X (bo++zje fp s5.heap) a j S->N a j->∃m,m<n/\∃i σ' H',Inv X bo σ' H' S/\tn i S.heap/\(∀b∈fp,H' b=none)/\W i m σ' H':=fun{a j} p E=>by
   obtain⟨m',hm,w7⟩:=hN a j E;refine⟨m',hm,i+1,a,j,p.unpinned,T.keep _ _ _ C λb q o e=>(p.pin (b,o) (Yg _ (Yg _ (zdd q e)))).1,λb q=>?_,w7⟩;obtain⟨o,e,d⟩:=T.obj _ _ C b q;exact(p.pin (b,o) (Yg _ (Yg _ (zdd q e)))).2.1
  cases f with
  | next=>obtain⟨a,j,p,E⟩:=B;exact z p E
  | cont=>obtain⟨a,j,p,E⟩:=B;exact z p E
  | brk=>obtain⟨a,j,p,B⟩:=B;exact⟨a,j,p.unpinned,B⟩
  | ret v=>obtain⟨x7,a,j,p,r7,B⟩:=B;exact⟨x7,a,j,p.unpinned,r7,B⟩
end
def zf2{K:Li}{g:TG}{tb:TS}{D:Ends}(c:Nat->St->Hp->Prop)(l:c 0 b H)(o:∀i b H,i<=xs.length->c i b H->SqL K H a xs)
  (n:∀i x b H,xs[i]? = some x->c i b H->g x b H λd h=>tb { D with nx:=c (i+1),ct:=c (i+1),bk:=D.nx } d h) (hd:∀b H,c xs.length b H->D.nx b H) :
  ∃W:Nat->Nat->St->Hp->Prop,(∃m,W 0 m b H)/\∀i m b H,W i m b H ->
   ((Itl K a).stop i H/\D.nx b H)\/((Itl K a).go i H/\∃N,(∀f H',N f H'->∃m',m'<m/\W (i+1) m' f H')/\∀x H',(Itl K a).yld i H x H'->g x b H' λd h=>tb { D with nx:=N,ct:=N,bk:=D.nx } d h):=by
 refine⟨λi m b H=>m=xs.length-i/\i<=xs.length/\c i b H,⟨xs.length,by simp,Y2 _,l⟩,?_⟩;rintro i m b H ⟨rfl,hi,p⟩;have q:=o i b H hi p;by_cases hlt:i<xs.length
 ·refine .inr ⟨⟨xs,xs[i],q,by simp[hlt]⟩,c (i+1),λf H' j=>⟨xs.length-(i+1),by lia,Z,hlt,j⟩,λx H' y=>?_⟩;obtain⟨e,y⟩:=y;subst e;exact n i x b _ (y xs q) p
 ·have e:i=xs.length:=by lia
  subst e;exact .inl ⟨⟨xs,q,Yi _⟩,hd b H p⟩
def zcl{lo:Int}{g:TG}{tb:TS}{D:Ends}(c:Nat->St->Hp->Prop)(h:c 0 a H)
  (j:∀i a H,i<n->c i a H->g (.int (lo+i)) a H λb f=>tb { D with nx:=c (i+1),ct:=c (i+1),bk:=D.nx } b f) (hd:∀a H,c n a H->D.nx a H) :
  ∃W:Nat->Nat->St->Hp->Prop,(∃m,W 0 m a H)/\∀i m a H,W i m a H ->
   ((Itr lo n).stop i H/\D.nx a H)\/((Itr lo n).go i H/\∃N,(∀d H',N d H'->∃m',m'<m/\W (i+1) m' d H')/\∀x H',(Itr lo n).yld i H x H'->g x a H' λb f=>tb { D with nx:=N,ct:=N,bk:=D.nx } b f):=by
 refine⟨λi m a H=>m=n-i/\i<=n/\c i a H,⟨n,by simp,Y2 _,h⟩,?_⟩;rintro i m a H ⟨rfl,hi,p⟩;by_cases hlt:i<n
 ·refine .inr ⟨hlt,c (i+1),λd H' l=>⟨n-(i+1),by lia,Z,hlt,l⟩,λx H' y=>?_⟩;obtain⟨e,y⟩:=y;subst e y;exact j i a _ hlt p
 ·have e:i=n:=by lia
  subst e;exact .inl ⟨Yi _,hd a H p⟩
abbrev R2:=V->V->Hp->VK->Prop
def OpR(X:Cx)(f:Lh->Lh->Sem Lh)(r:R2):Prop:=
 ∀bo s (σ:St) H x y v u Q,Inv X bo σ H s->RelV x v->RelV y u->r x y H Q ->
  wpAny (model X.prog X.w) X.A (f v u) (EP X bo σ Q) X.xe s
def UnR(X:Cx)(f:Lh->Sem Lh)(r:V->Hp->VK->Prop):Prop:=
 ∀bo s (σ:St) H x v Q,Inv X bo σ H s->RelV x v->r x H Q ->
  wpAny (model X.prog X.w) X.A (f v) (EP X bo σ Q) X.xe s
def CallR(X:Cx)(f:Lh)(r:Lf->Hp->VK->Prop):Prop:=
 ∀bo s (σ:St) H xs us Q,Inv X bo σ H s->Vals xs us->r xs H Q ->
  wpAny (model X.prog X.w) X.A (call f us) (EP X bo σ Q) X.xe s
def tOp(r:R2)(ta tb:TE):TE:=λσ H Q=>ta σ H λx H1=>tb σ H1 λy H2=>r x y H2 Q
def tUn(r:V->Hp->VK->Prop)(ta:TE):TE:=λσ H Q=>ta σ H λx H1=>r x H1 Q
inductive rI(C:Int->Int->Prop)(g:Int->Int->V)(x y:V)(H:Hp)(Q:VK):Prop
 | mk (i j) (_:x=.int i) (_:y=.int j) (_:C i j) (_:Q (g i j) H)
inductive rI0(g:Int->Int->V)(x y:V)(H:Hp)(Q:VK):Prop
 | mk (i j) (_:x=.int i) (_:y=.int j) (_:Q (g i j) H)
inductive rU(g:Int->V)(x:V)(H:Hp)(Q:VK):Prop
 | mk (i) (_:x=.int i) (_:Q (g i) H)
section
variable{X:Cx}{a b c:Ln}{ta tb tc:TE}{pos:Pos}
def binT(m:PE X a ta)(D:PE X b tb){bo:La}{s:Lj}{d:St}{H:Hp}{R:V->V->Hp->Prop}(I:Inv X bo d H s)
  (h:ta d H λx H1=>tb d H1 λy e=>R x y e) {Q:Va} {f:Lh->Lh->Sem Lh}
  (o:∀v u l x y e,Inv X bo d e l->RelV x v->RelV y u->R x y e->wpAny (model X.prog X.w) X.A (f v u) Q X.xe l) :
  wpAny (model X.prog X.w) X.A (eval a X.env) (λv j=>wpAny (model X.prog X.w) X.A (eval b X.env) (λu i=>wpAny (model X.prog X.w) X.A (f v u) Q X.xe i) X.xe j) X.xe s:=by
 refine thn (m s d H _ I h) λv r ⟨x,H1,q,B,n⟩=>?_
 refine thn (D r d H1 _ q n) λu l ⟨y,e,C,z,p⟩=>?_
 exact o v u l x y e C B z p
def zaz(n:OpR X (binaryOp op) r)(d:PE X a ta)(l:PE X b tb):PE X (.BinOp a op b pos) (tOp r ta tb):=by
 intro bo s i H Q I h;exact wpAny_BinOp (binT d l I h λv u m x y j f o e q=>n bo m i j x y v u Q f o e q)
def zm8(m:UnR X (unaryOp op) r)(e:PE X a ta):PE X (.UnaryOp op a pos) (tUn r ta):=by
 intro bo s d H Q I h;exact UnaryOp_ (thn (e s d H _ I h) λv j ⟨x,H1,i,l,f⟩=>m bo j d H1 x v Q i l f)
def opI{g:Int->Int->Int}
  (d:∀i j t u s Q E,C i j->Q (.int (g i j) s.toks) { s with toks:=s.toks+1 }->wpAny (model X.prog X.w) X.A (f (.int i t) (.int j u)) Q E s) :
  OpR X f (rI C λi j=>.int (g i j)):=by
 intro bo s σ H x y v u Q I m e h;obtain⟨i,j,rfl,rfl,l,q⟩:=h;obtain⟨t,rfl⟩:=m;obtain⟨t',rfl⟩:=e;exact d i j t t' s _ _ l ⟨.int (g i j),H,I.tok _,⟨_,rfl⟩,q⟩
def opI0{g:Int->Int->Int}
  (d:∀i j t u s Q E,Q (.int (g i j) s.toks) { s with toks:=s.toks+1 }->wpAny (model X.prog X.w) X.A (f (.int i t) (.int j u)) Q E s) :
  OpR X f (rI0 λi j=>.int (g i j)):=by
 intro bo s σ H x y v u Q I l e h;obtain⟨i,j,rfl,rfl,q⟩:=h;obtain⟨t,rfl⟩:=l;obtain⟨t',rfl⟩:=e;exact d i j t t' s _ _ ⟨.int (g i j),H,I.tok _,⟨_,rfl⟩,q⟩
def opB0{g:Int->Int->Bool}
  (d:∀i j t u s Q E,Q (.bool (g i j)) s->wpAny (model X.prog X.w) X.A (f (.int i t) (.int j u)) Q E s) :
  OpR X f (rI0 λi j=>.bl (g i j)):=by
 intro bo s σ H x y v u Q I l e h;obtain⟨i,j,rfl,rfl,q⟩:=h;obtain⟨t,rfl⟩:=l;obtain⟨t',rfl⟩:=e;exact d i j t t' s _ _ ⟨.bl (g i j),H,I,rfl,q⟩
def CDiv(i j:Int):Prop:=0<j/\j<1073741824
def CMul(i j:Int):Prop:=(-(2^64)<i/\i<2^64)\/(-(2^64)<j/\j<2^64)
def CMul.ok(h:CMul i j):IntMulOk i j:=by
 rcases h with⟨e,d⟩ | ⟨e,d⟩
 ·exact .of_left (intBits_le_64 e d)
 ·exact .of_right (intBits_le_64 e d)
def zcr:OpR X (binaryOp .Add) (rI0 λi j=>.int (i+j)):=opI0 λ_ _ _ _ _ _ _ q=>add_int q
def zhb:OpR X (binaryOp .Sub) (rI0 λi j=>.int (i-j)):=opI0 λ_ _ _ _ _ _ _ q=>sub_int q
def zdh:OpR X (binaryOp .Mult) (rI CMul λi j=>.int (i*j)):=opI λ_ _ _ _ _ _ _ d q=>mul_int q d.ok
def zd7:OpR X (binaryOp .FloorDiv) (rI CDiv λi j=>.int (i / j)):=opI λi j _ _ _ _ _ d q=>by
 have h1:(0:Int)<j:=d.1;have h2:j<1073741824:=d.2;exact floordiv_int (by lia) (by rw[Int.fdiv_eq_ediv_of_nonneg i (by lia)];exact q) (.inl (PyProof.noPylong_small (by lia)))
def zb6:OpR X (binaryOp .Mod) (rI (λ_ j=>0<j) λi j=>.int (i%j)):=opI λi j _ _ _ _ _ d q=>by
 have h1:(0:Int)<j:=d;exact mod_int' (by lia) (by rw[Int.fmod_eq_emod_of_nonneg i (by lia)];exact q)
def zkq:OpR X (binaryOp .Mod) (rI (λ_ j=>j≠0) λi j=>.int (i.fmod j)):=opI λ_ _ _ _ _ _ _ d q=>mod_int' d q
def unI{g:Int->Int}
  (d:∀i t s Q E,Q (.int (g i) s.toks) { s with toks:=s.toks+1 }->wpAny (model X.prog X.w) X.A (f (.int i t)) Q E s) :
  UnR X f (rU λi=>.int (g i)):=by
 intro bo s σ H x v Q I e h;obtain⟨i,rfl,q⟩:=h;obtain⟨t,rfl⟩:=e;exact d i t s _ _ ⟨.int (g i),H,I.tok _,⟨_,rfl⟩,q⟩
def zh0:UnR X (unaryOp .USub) (rU λi=>.int (-i)):=unI λ_ _ _ _ _ q=>neg_int q
end
def scal:V->V->Bool
 | .non,.non=>true | .non,.int _=>true | .int _,.non=>true | .non,.bl _=>true | .bl _,.non=>true | .non,.str _=>true | .str _,.non=>true
 | .int _,.int _=>true | .bl _,.bl _=>true | .str _,.str _=>true | .byt _,.byt _=>true
 | .int _,.str _=>true | .str _,.int _=>true | .bl _,.str _=>true | .str _,.bl _=>true
 | _,_=>false
def rEq:R2:=λx y H Q=>scal x y=true/\Q (.bl (decide (x=y))) H
def rNe:R2:=λx y H Q=>scal x y=true/\Q (.bl (!decide (x=y))) H
def zi3:decide (V.int i=V.int j)=(i == j):=by
 rw[Bool.eq_iff_iff];simp
def zsq:decide (V.bl i=V.bl j)=(i == j):=by
 rw[Bool.eq_iff_iff];simp
def zqd:decide (V.str i=V.str j)=(i == j):=by
 rw[Bool.eq_iff_iff];simp
def zoc:decide (V.byt i=V.byt j)=(i.toList == j.toList):=by
 rw[Bool.eq_iff_iff]
 cases i
 cases j;simp
section
variable{X:Cx}{a b c:Ln}{ta tb tc:TE}{pos:Pos}
def zbk{d:St}(I:Inv X bo d H s)(q:Q (.bl k) H)(e:k=k'):EP X bo d Q (.bool k') s:=by
 subst e;exact⟨.bl k,H,I,Z,q⟩
def zd1:OpR X (compareOp .Eq) rEq:=by
 intro bo s σ H x y v u Q I f d h;obtain⟨e,q⟩:=h
 cases x with
 | non=>
  cases f
  cases y with
  | non=>cases d;exact PySem.EqNone.eq_none_none (zbk I q (by simp))
  | bl j=>cases d;exact PySem.EqNone.eq_none_bool (zbk I q (by simp))
  | int j=>obtain⟨t',rfl⟩:=d;exact PySem.EqNone.eq_none_int (zbk I q (by simp))
  | str j=>obtain⟨t',rfl⟩:=d;exact PySem.EqNone.eq_none_str (zbk I q (by simp))
  | _=>exact absurd (show false=true from e) Yt
 | bl i=>
  cases f
  cases y with
  | non=>cases d;exact PySem.EqNone.eq_bool_none (zbk I q (by simp))
  | bl j=>cases d;exact eq_bool (zbk I q zsq)
  | str j=>obtain⟨t',rfl⟩:=d;exact PySem.EqMixed.eq_bool_str (zbk I q (by simp))
  | _=>exact absurd (show false=true from e) Yt
 | int i=>
  obtain⟨t,rfl⟩:=f
  cases y with
  | non=>cases d;exact PySem.EqNone.eq_int_none (zbk I q (by simp))
  | int j=>obtain⟨t',rfl⟩:=d;exact eq_int (zbk I q zi3)
  | str j=>obtain⟨t',rfl⟩:=d;exact PySem.EqMixed.eq_int_str (zbk I q (by simp))
  | _=>exact absurd (show false=true from e) Yt
 | str i=>
  obtain⟨t,rfl⟩:=f
  cases y with
  | non=>cases d;exact PySem.EqNone.eq_str_none (zbk I q (by simp))
  | bl j=>cases d;exact PySem.EqMixed.eq_str_bool (zbk I q (by simp))
  | int j=>obtain⟨t',rfl⟩:=d;exact PySem.EqMixed.eq_str_int (zbk I q (by simp))
  | str j=>obtain⟨t',rfl⟩:=d;exact eq_str (zbk I q zqd)
  | _=>exact absurd (show false=true from e) Yt
 | byt i=>
  obtain⟨t,rfl⟩:=f
  cases y with
  | byt j=>obtain⟨t',rfl⟩:=d;exact W.eq_bytes (zbk I q zoc)
  | _=>exact absurd (show false=true from e) Yt
 | _=>cases y <;> exact absurd (show false=true from e) Yt
def zil:OpR X (compareOp .NotEq) rNe:=by
 intro bo s σ H x y v u Q I f d h;obtain⟨e,q⟩:=h
 cases x with
 | non=>
  cases f
  cases y with
  | non=>cases d;exact PySem.EqNone.ne_none_none (zbk I q (by simp))
  | bl j=>cases d;exact PySem.EqNone.ne_none_bool (zbk I q (by simp))
  | int j=>obtain⟨t',rfl⟩:=d;exact PySem.EqNone.ne_none_int (zbk I q (by simp))
  | str j=>obtain⟨t',rfl⟩:=d;exact PySem.EqNone.ne_none_str (zbk I q (by simp))
  | _=>exact absurd (show false=true from e) Yt
 | bl i=>
  cases f
  cases y with
  | non=>cases d;exact PySem.EqNone.ne_bool_none (zbk I q (by simp))
  | bl j=>cases d;exact ne_bool (zbk I q (Jw not zsq))
  | str j=>obtain⟨t',rfl⟩:=d;exact PySem.EqMixed.ne_bool_str (zbk I q (by simp))
  | _=>exact absurd (show false=true from e) Yt
 | int i=>
  obtain⟨t,rfl⟩:=f
  cases y with
  | non=>cases d;exact PySem.EqNone.ne_int_none (zbk I q (by simp))
  | int j=>obtain⟨t',rfl⟩:=d;exact ne_int (zbk I q (Jw not zi3))
  | str j=>obtain⟨t',rfl⟩:=d;exact PySem.EqMixed.ne_int_str (zbk I q (by simp))
  | _=>exact absurd (show false=true from e) Yt
 | str i=>
  obtain⟨t,rfl⟩:=f
  cases y with
  | non=>cases d;exact PySem.EqNone.ne_str_none (zbk I q (by simp))
  | bl j=>cases d;exact PySem.EqMixed.ne_str_bool (zbk I q (by simp))
  | int j=>obtain⟨t',rfl⟩:=d;exact PySem.EqMixed.ne_str_int (zbk I q (by simp))
  | str j=>obtain⟨t',rfl⟩:=d;exact ne_str (zbk I q (Jw not zqd))
  | _=>exact absurd (show false=true from e) Yt
 | byt i=>
  obtain⟨t,rfl⟩:=f
  cases y with
  | byt j=>obtain⟨t',rfl⟩:=d;exact W.ne_bytes (zbk I q (Jw not zoc))
  | _=>exact absurd (show false=true from e) Yt
 | _=>cases y <;> exact absurd (show false=true from e) Yt
def zmx:OpR X (compareOp .Lt) (rI0 λi j=>.bl (decide (i<j))):=opB0 λ_ _ _ _ _ _ _ q=>lt_int q
def zvq:OpR X (compareOp .LtE) (rI0 λi j=>.bl (decide (i<=j))):=opB0 λ_ _ _ _ _ _ _ q=>le_int q
def zqg:OpR X (compareOp .Gt) (rI0 λi j=>.bl (decide (j<i))):=opB0 λ_ _ _ _ _ _ _ q=>gt_int q
def zy1:OpR X (compareOp .GtE) (rI0 λi j=>.bl (decide (j<=i))):=opB0 λ_ _ _ _ _ _ _ q=>ge_int q
def zmk:OpR X (compareOp .Is) (λx y H Q=>y=.non/\Q (.bl (decide (x=.non))) H):=by
 intro bo s σ H x y v u Q I d e h;obtain⟨rfl,q⟩:=h
 cases e;refine is_none_gen (zbk I q ?_)
 cases x <;> first
  | (cases d;rfl)
  | (obtain⟨t,rfl⟩:=d;rfl)
def nomark(b:Ln){op:CmpOp}(h:op≠.In:=by decide)(f:op≠.NotIn:=by decide):behindInMarks op b=false:=by
 have e:(op == CmpOp.In)=false:=by cases op <;> first | rfl | exact absurd rfl h
 have d:(op == CmpOp.NotIn)=false:=by cases op <;> first | rfl | exact absurd rfl f
 cases b <;> simp[behindInMarks,e,d]
def zcc(o:OpR X (compareOp op) r)(d:PE X a ta)(m:PE X b tb)(f:behindInMarks op b=false):PE X (.Compare a [op] [b] pos) (tOp r ta tb):=by
 intro bo s j H Q I h;exact wpAny_Compare1 (binT d m I h λv u n x y l i p e q=>o bo n j l x y v u Q i p e q) f
inductive rTe(x:V)(H':Hp)(Q:Bool->Hp->Prop):Prop
 | mk (k) (_:x=.bl k) (_:Q k H')
def zyq(t:TE):TT:=λσ H Q=>t σ H λx H'=>rTe x H' Q
def zat(G:OpR X (compareOp op) r)(f:PE X a ta)(l:PE X b tb)(j:behindInMarks op b=false):PT X (.Compare a [op] [b] pos) (zyq (tOp r ta tb)):=by
 intro bo s d H Q I h;refine wpAny_isTrue_Compare1 (thn (f s d H _ I h) λv w ⟨x,H1,q,C,m⟩=>thn (l w d H1 _ q m) λu E ⟨y,D,J,B,p⟩=>
  thn (G bo E d D x y v u _ J C B p) λc s3 ⟨z,o,i,A,k,e,n⟩=>?_) j
 subst e
 cases A;exact Jp ⟨o,i,n⟩
def zgs:(sizeLine:Nat)<2^63:=by rw[sizeLine_eq];decide
def zir(r:Vals [x] us):∃u,us=[u]/\RelV x u:=by
 cases r with
 | cons r1 r2=>cases r2;exact⟨_,rfl,r1⟩
def zym(r:Vals [x,y] us):∃u w',us=[u,w']/\RelV x u/\RelV y w':=by
 cases r with
 | cons r1 r2=>
  cases r2 with
  | cons r3 r4=>cases r4;exact⟨_,_,rfl,r1,r3⟩
def zl2:CallR X (.builtin "abs") (λxs H Q=>∃i,xs=[.int i]/\Q (.int (if i<0 then -i else i)) H):=by
 intro bo s σ H xs us Q I r h;obtain⟨i,rfl,q⟩:=h;obtain⟨u,rfl,t,rfl⟩:=zir r;exact call_abs_int λu tk=>⟨.int (if i<0 then -i else i),H,I.tok _,⟨_,rfl⟩,q⟩
def zde(d:X.calm=true):CallR X (.builtin "max") (λxs H Q=>∃i j,xs=[.int i,.int j]/\Q (.int (if j > i then j else i)) H):=by
 intro bo s σ H xs us Q I r h;obtain⟨i,j,rfl,q⟩:=h;obtain⟨u,w',rfl,⟨t,rfl⟩,⟨t',rfl⟩⟩:=zym r;refine max_two_ints (I.ok.hd d) λh' tk k=>⟨_,H,I.kept k,?_,q⟩
 by_cases hj:j > i
 ·rw[Yl hj,Yl hj];exact⟨_,Z⟩
 ·rw[Yh hj,Yh hj];exact⟨_,Z⟩
def zjy(d:X.calm=true):CallR X (.builtin "min") (λxs H Q=>∃i j,xs=[.int i,.int j]/\Q (.int (if j<i then j else i)) H):=by
 intro bo s σ H xs us Q I r h;obtain⟨i,j,rfl,q⟩:=h;obtain⟨u,w',rfl,⟨t,rfl⟩,⟨t',rfl⟩⟩:=zym r;refine min_two_ints (I.ok.hd d) λh' tk k=>⟨_,H,I.kept k,?_,q⟩
 by_cases hj:j<i
 ·rw[Yl hj,Yl hj];exact⟨_,Z⟩
 ·rw[Yh hj,Yh hj];exact⟨_,Z⟩
def zqh:CallR X (.type "int") (λxs H Q=>(∃i,xs=[.int i]/\Q (.int i) H)\/∃k,xs=[.bl k]/\Q (.int (if k then 1 else 0)) H):=by
 intro bo s σ H xs us Q I r h;rcases h with⟨i,rfl,q⟩ | ⟨k,rfl,q⟩
 ·obtain⟨u,rfl,t,rfl⟩:=zir r;exact call_int_int ⟨.int i,H,I,⟨_,Z⟩,q⟩
 ·obtain⟨u,rfl,d⟩:=zir r
  cases d;exact call_int_bool ⟨.int (if k then 1 else 0),H,I.tok _,⟨_,Z⟩,q⟩
end
structure ObjM(h:Lo)(x dx C:Lg)(mA:Sa):Prop where
 obj:h.get? x=some (W.instObj C dx)
 ns:h.Ns1 dx mA
 ne:dx≠x
def zpq{h:Lo}(n:h.Ns1 dx mA):∃od,h.get? dx=some od/\∀name,W.lookIn name od=some (mA name):=by
 obtain⟨o,c,ep,j,hd,d,_,i⟩:=n;refine⟨o,j,λname=>?_⟩;have e:=i name;unfold nsFind findBy at e;rw[<- Array.find?_toList]at e;unfold W.lookIn;rw[hd];dsimp only;split
 ·rename_i y q
  rw[q]at e;exact Jw some e
 ·rename_i q
  rw[q]at e;have a:c.toList.any (·.refKey)=false:=by
   rw[List.any_eq_false];intro y f;obtain⟨z,t,b⟩:=d y (Array.mem_toList_iff.mp f);simp[DictEntry.refKey,b]
  have l:¬c.toList.any (·.refKey)=true:=by rw[a];exact Yt
  rw[Yh l];exact Jw some e
def ObjM.look(I:ObjM h x dx C mA):∃a,W.InstAt h x (W.instObj C dx) C (some a)/\∀name,W.lookIn name a=some (mA name):=
 let ⟨a,c,b⟩:=zpq I.ns
 ⟨a,⟨I.obj,Z,Z,c⟩,b⟩
section
variable{prog:Ll}{w:Lk}{A:Around}{E:Va}{s:Lj}{K:Li}{x dx C f:Lg}{mA:Sa}{name:Lp}{v:Lh}
def zve(X:K.In s.heap)(I:ObjM s.heap x dx C mA)(hg:W.plainGet K C name=true)(c:W.hasDictIn K C=true)
  (b:W.findIn K (.ref C) name=some none) (hv:mA name=some v) (a:W.handedIn v=true) (h:Q v { s with toks:=s.toks+1 }) :
  wpAny (model prog w) A (getAttr (.ref x) name expr) Q E s:=by
 obtain⟨od,J,d⟩:=I.look;exact W.get_value X J (W.plainGet_of hg).1 (W.findObj_own c b rfl (by rw[d,hv])) a h
def zrl(X:K.In s.heap)(I:ObjM s.heap x dx C mA)(hg:W.plainGet K C name=true)
  (a:W.findIn K (.ref C) name=some (some (.ref f))) (d:W.isFn K (.ref f)=true) (hv:mA name=none) (h:Q (.ref f,[.ref x]) s) :
  wpAny (model prog w) A (getMethod (.ref x) name pl) Q E s:=by
 obtain⟨b,J,c⟩:=I.look;exact W.method_fn X J (W.plainGet_of hg).1 (W.plainGet_of hg).2 a (beq_iff_eq.mp d) (by show (W.lookIn name b).map (·.isSome)=some false;rw[c,hv];rfl) h
def zt9(X:K.In s.heap)(I:ObjM s.heap x dx C mA)
  (p:W.findIn K (.ref C) "__setattr__" = some (some (.builtin "object.__setattr__"))) (z:W.plainOver K C=true) (n:W.takerIn K C name=some none) (o:W.hasDictIn K C=true)
  (hw:PySem.Within mA ns) (hsz:ns.length<=sizeLine)
  (h:∀h',ObjM h' x dx C (λy=>if y=name then some v else mA y)->Heap.SameBut dx s.heap h'->Q () { s with heap:=h',toks:=s.toks+2 }) :
  wpAny (model prog w) A (setAttr (.ref x) name v) Q E s:=by
 obtain⟨od,J,hl⟩:=I.look;refine W.set_plain X J p (W.osa_open (s:={ s with toks:=s.toks+1 }) (r:=none) X J z n λb=>?_);obtain⟨cd,q,i⟩:=W.any_some o;have m:s.heap.get? x=some ⟨.ref C,some dx,.plain,#[]⟩:=I.obj;refine Ya (Yb (Ya (Ya (wpAny_loadPart m (Ya (W.Looks.here (s:={ s with toks:=s.toks+1 }) (W.looks_clsIn X q) ?_))))));rw[i];refine Yb (a:=some dx) (Ya (Yb (Ya ?_)));refine wpAny_nsSet1 (s:={ s with toks:=s.toks+1 }) I.ns λh' d c=>?_
 obtain⟨oD,esD,epD,e,j,l⟩:=d.count (PySem.Within.cons name v hw);refine Ya (wpAny_lookBehind e (by rw[j];exact pastItsLine_dict (Yr l (by rw[Y4];lia))) ?_);exact Yb (h _ ⟨(c.2 _ (Jb I.ne)).trans I.obj,d,I.ne⟩ c)
def zsm(X:K.In s.heap)(c:W.makesIn K C=true)
  (hi:W.findIn K (.ref C) "__init__" = some (some (.ref f))) (b:W.typeIn K (.ref f)=some (.type "function"))
  (h:codeAny (model prog w) (A.under (.builtin "type.__call__" ⟨.ref C::vs,kw⟩)) (.call (.ref f) ⟨.ref (s.heap.objs.size+1)::vs,kw⟩) (W.InitBack (s.heap.objs.size+1) R)
   { s with heap:=(s.heap.push W.emptyDict).push (W.instObj C s.heap.objs.size) }) :
  codeAny (model prog w) A (.call (.ref C) ⟨vs,kw⟩) R s:=by
 obtain⟨hh,g,d,t,os⟩:=s;exact W.make_core (W.makes_of X c) (W.looks_findIn X hi) (λa=>W.bind_fn X a b) (.inl rfl) h
def zng(X:K.In s.heap)(b:W.makesIn K C=true)
  (hi:W.findIn K (.ref C) "__init__" = some (some (.builtin "object.__init__")))
  (a:∀self,W.Looks (model prog w) s.heap (bindSpecial (.builtin "object.__init__") self) (.builtin "object.__init__",[self]))
  (h:codeAny (model prog w) (A.under (.builtin "type.__call__" ⟨[.ref C],[]⟩)) (.call (.builtin "object.__init__") ⟨[.ref (s.heap.objs.size+1)],[]⟩) (W.InitBack (s.heap.objs.size+1) R)
   { s with heap:=(s.heap.push W.emptyDict).push (W.instObj C s.heap.objs.size) }) :
  codeAny (model prog w) A (.call (.ref C) ⟨[],[]⟩) R s:=by
 obtain⟨hh,g,d,t,os⟩:=s;exact W.make_core (W.makes_of X b) (W.looks_findIn X hi) a (.inr ⟨Z,Z⟩) h
end
def putF(f:Lp)(v:V):List (Lp×V)->List (Lp×V)
 | []=>[(f,v)]
 | (g,x)::r=>if g=f then(g,v)::r else(g,x)::putF f v r
theorem zgz(f g:Lp)(v:V):∀fs,(putF f v fs).lookup g=if g=f then some v else fs.lookup g
 | []=>by
  show List.lookup g [(f,v)]=_;by_cases h:g=f
  ·have a:(g == f)=true:=beq_iff_eq.mpr h;simp only[List.lookup,a,if_pos h]
  ·have a:(g == f)=false:=beq_eq_false_iff_ne.mpr h;simp only[List.lookup,a,if_neg h]
 | (k,x)::r=>by
  have b:=zgz f g v r;rw[show putF f v ((k,x)::r)=(if k=f then(k,v)::r else(k,x)::putF f v r) from rfl];by_cases hk:k=f
  ·rw[Yl hk];by_cases h:g=k
   ·have a:(g == k)=true:=beq_iff_eq.mpr h;simp only[List.lookup,a,if_pos (h.trans hk)]
   ·have a:(g == k)=false:=beq_eq_false_iff_ne.mpr h;simp only[List.lookup,a,if_neg (λe:g=f=>h (e.trans hk.symm))]
  ·rw[Yh hk];by_cases h:g=k
   ·have a:(g == k)=true:=beq_iff_eq.mpr h;simp only[List.lookup,a,if_neg (λe:g=f=>hk (h.symm.trans e))]
   ·have a:(g == k)=false:=beq_eq_false_iff_ne.mpr h;simp only[List.lookup,a];exact b
theorem zf5(f:Lp)(v:V):∀fs,f∈(putF f v fs).map (·.1)/\∀g,g∈fs.map (·.1)->g∈(putF f v fs).map (·.1)
 | []=>⟨by simp[putF],λg h=>by simp at h⟩
 | (k,x)::r=>by
  obtain⟨b,a⟩:=zf5 f v r;rw[show putF f v ((k,x)::r)=(if k=f then(k,v)::r else(k,x)::putF f v r) from rfl];by_cases hk:k=f
  ·rw[Yl hk];subst hk;exact⟨by simp,λg h=>by simpa using h⟩
  ·rw[Yh hk];refine⟨?_,λg h=>?_⟩
   ·rw[Yz];exact List.mem_cons_of_mem _ b
   ·rw[Yz]at h ⊢;rcases Yj.mp h with e | e
    ·exact Yj.mpr (.inl e)
    ·exact List.mem_cons_of_mem _ (a g e)
theorem zgp(f:Lp)(v:V):∀fs,(putF f v fs).length<=fs.length+1
 | []=>by simp[putF]
 | (k,x)::r=>by
  have ih:=zgp f v r;rw[show putF f v ((k,x)::r)=(if k=f then(k,v)::r else(k,x)::putF f v r) from rfl];by_cases hk:k=f
  ·rw[Yl hk,Y4,Y4];lia
  ·rw[Yh hk,Y4,Y4];lia
def RelO.some_of(r:RelO (some v) o):∃u,o=some u/\RelV v u:=by
 cases o with
 | none=>exact(show False from r).elim
 | some u=>exact⟨u,rfl,r⟩
def RelO.none_of(r:RelO none o):o=none:=by
 cases o with
 | none=>rfl
 | some u=>exact(show False from r).elim
def zps(r:RelV v u):W.handedIn u=true:=by
 cases v with
 | non=>cases (show u=Value.none from r);rfl
 | bl b=>cases (show u=Value.bool b from r);rfl
 | int i=>obtain⟨t,e⟩:=(show ∃t,u=Value.int i t from r);cases e;rfl
 | str x=>obtain⟨t,e⟩:=(show ∃t,u=Value.str x t from r);cases e;rfl
 | byt b=>obtain⟨t,e⟩:=(show ∃t,u=Value.bytes b t from r);cases e;rfl
 | flt b=>obtain⟨t,e⟩:=(show ∃t,u=Value.float b t from r);cases e;rfl
 | ref a=>cases (show u=Value.ref a from r);rfl
 | ty n=>cases (show u=Value.type n from r);rfl
section
variable{P:Ll}{w:Lk}{H H':Hp}{h h':Lo}{a C dx:Lg}{fs fs':List (Lp×V)}
def zh4(c:HOk P w H h)(e:H a=some (.ins C dx fs)):∃b,ObjM h a dx C b/\(∀f,RelO (fs.lookup f) (b f))/\PySem.Within b (fs.map (·.1))/\fs.length<=1000/\H dx=some (.own a):=by
 obtain⟨d,z,i,ob,b,n,r,q⟩:=(show ObjOk P w H h a (.ins C dx fs) from c a _ e);exact⟨b,⟨ob,n,i⟩,r,q,z,d⟩
end
structure Cls(K:Li)(C:Lg):Prop where
 pg:W.plainGet K C Str.empty=true
 hd:W.hasDictIn K C=true
 po:W.plainOver K C=true
 sa:W.findIn K (.ref C) "__setattr__" = some (some (.builtin "object.__setattr__"))
def Cls.get{K:Li}(c:Cls K C)(f:Lp):W.plainGet K C f=true:=c.pg
def NoAttr(K:Li)(C:Lg)(f:Lp):Prop:=W.findIn K (.ref C) f=some none
def NoAttr.taker{K:Li}(n:NoAttr K C f):W.takerIn K C f=some none:=by
 unfold W.takerIn;rw[show W.findIn K (.ref C) f=some none from n];rfl
structure Meth(K:Li)(C:Lg)(m:Lp)(f:Lg):Prop where
 at_:W.findIn K (.ref C) m=some (some (.ref f))
 fn:W.isFn K (.ref f)=true
 kp:W.keepIn K (.ref f)=true
section
variable{X:Cx}{bo:La}{σ:St}{H:Hp}{s:Lj}{a C dx:Lg}{fs:List (Lp×V)}{f:Lp}{v:V}{A:Around}{E:Va}
def zm3(I:Inv X bo σ H s)(e:H a=some (.ins C dx fs))(c:Cls X.K C)(n:NoAttr X.K C f)(l:fs.lookup f=some v)
  (h:∀u s',Inv X bo σ H s'->RelV v u->Q u s'):wpAny (model X.prog X.w) A (getAttr (.ref a) f b) Q E s:=by
 obtain⟨i,O,r,_,_,_⟩:=zh4 I.hok e;obtain⟨u,j,d⟩:=RelO.some_of (v:=v) (o:=i f) (by rw[<- l];exact r f);exact zve I.kIn O (c.get f) c.hd n j (zps d) (h u _ (I.tok _) d)
def zhj(I:Inv X bo σ H s)(e:H a=some (.ins C dx fs))(c:Cls X.K C)(k:Meth X.K C m g)(l:fs.lookup m=none)
  (h:Q (.ref g,[.ref a]) s):wpAny (model X.prog X.w) A (getMethod (.ref a) m pl) Q E s:=by
 obtain⟨d,O,r,_,_,_⟩:=zh4 I.hok e;have b:d m=none:=RelO.none_of (by rw[<- l];exact r m);exact zrl I.kIn O (c.get m) k.at_ k.fn b h
def zm7(I:Inv X bo σ H s)(e:H a=some (.ins C dx fs))(c:Cls X.K C)(n:NoAttr X.K C f)(hl:fs.length<1000)(m:RelV y u)
  (h:∀s',Inv X bo σ (upd H a (.ins C dx (putF f y fs))) s'->Q () s'):wpAny (model X.prog X.w) A (setAttr (.ref a) f u) Q E s:=by
 obtain⟨j,O,r,i,_,l⟩:=zh4 I.hok e;have hz:(fs.map (·.1)).length<=sizeLine:=by rw[Yd,sizeLine_eq];lia
 refine zt9 I.kIn O c.sa c.po n.taker c.hd i hz λh' d D=>h _ ?_
 have hd:∃o,h'.get? dx=some o:=let ⟨o,_,_,p,_⟩:=d.ns;⟨o,p⟩;refine I.write (x:=a) (e:=dx) (by rw[e];exact True.intro) (.inr l) (λb q B z=>(D.2 b B).trans z) hd ?_;refine⟨by rw[zaf O.ne];exact l,?_,O.ne,d.obj,_,d.ns,λg=>?_,λg hg=>?_⟩
 ·have:=zgp f y fs;lia
 ·show RelO ((putF f y fs).lookup g) (if g=f then some u else j g);rw[zgz];by_cases q:g=f
  ·rw[Yl q,Yl q];exact m
  ·rw[Yh q,Yh q];exact r g
 ·by_cases q:g=f
  ·rw[q];exact(zf5 f y fs).1
  ·refine(zf5 f y fs).2 g (i g λz=>hg ?_);show (if g=f then some u else j g)=none;rw[Yh q];exact z
def Inv.made(I:Inv X bo σ H s):Inv X bo σ (upd (upd H s.heap.objs.size (.own (s.heap.objs.size+1))) (s.heap.objs.size+1) (.ins C s.heap.objs.size []))
  { s with heap:=(s.heap.push W.emptyDict).push (W.instObj C s.heap.objs.size) }:=by
 have c:(s.heap.push W.emptyDict).get? s.heap.objs.size=some W.emptyDict:=Yk s.heap rfl;have h:((s.heap.push W.emptyDict).push (W.instObj C s.heap.objs.size)).get? (s.heap.objs.size+1)=some (W.instObj C s.heap.objs.size):=by
  have:=Yk (s.heap.push W.emptyDict) (o:=W.instObj C s.heap.objs.size) rfl;rwa [Heap.size_push]at this
 have l:(s.heap.push W.emptyDict).Ns s.heap.objs.size (λ_=>none):=⟨W.emptyDict,#[],_,c,Z,(λe j=>absurd j (by simp)),λ_=>Z⟩;have m:=I.laid (a:=s.heap.objs.size) (o:=.own (s.heap.objs.size+1)) (h':=s.heap.push W.emptyDict) (t':=s.toks) (λb u q=>Ye _ q) (Yi _) ⟨_,c⟩;refine m.laid (a:=s.heap.objs.size+1) (o:=.ins C s.heap.objs.size []) (t':=s.toks) (λb u q=>Ye _ q) (Nat.le_of_eq (Heap.size_push _ _)) ?_;have d:s.heap.objs.size≠s.heap.objs.size+1:=Y0 (Nat.lt_succ_self _);refine⟨by rw[zaf d,zad],Y2 _,d,h,λ_=>none,(Heap.Ns1.of_empty l).at λo q=>Ye _ q,λ_=>True.intro,λy i=>absurd rfl i⟩
def zo3(c:attributeBase e f env (eval e env)=eval e env)
  (h:wpAny (model prog w) A (eval e env) (λo b=>wpAny (model prog w) A (getAttr o f true) Q E b) E s):wpAny (model prog w) A (eval (.Attribute e f pos) env) Q E s:=
 Attribute_any_ h (by rw[arm_eval_Attribute,c])
end
inductive rFld(K:Li)(f:Lp)(x:V)(H1:Hp)(Q:VK):Prop
 | mk (a C dx fs v) (_:x=.ref a) (_:H1 a=some (.ins C dx fs)) (_:Cls K C) (_:NoAttr K C f) (_:fs.lookup f=some v) (_:Q v H1)
def tFld(K:Li)(ta:TE)(f:Lp):TE:=λσ H Q=>ta σ H λx H1=>rFld K f x H1 Q
def sFld(K:Li)(ta tv:TE)(f:Lp):TS:=λD σ H=>tv σ H λy H1=>ta σ H1 λx H2=>∃a C dx fs,x=.ref a/\H2 a=some (.ins C dx fs)/\Cls K C/\NoAttr K C f/\fs.length<1000 /\
 D.nx σ (upd H2 a (.ins C dx (putF f y fs)))
section
variable{X:Cx}{o e value:Ln}{f:Lp}{pos pos' tpos:Pos}{ta tv:TE}
def zwm(d:PE X e ta)(r:attributeBase e f X.env (eval e X.env)=eval e X.env):PE X (.Attribute e f pos) (tFld X.K ta f):=by
 intro bo s p H Q I h;refine zo3 r (thn (d s p H _ I h) λu s1 ⟨x,H1,i,m,a,C,dx,fs,v,ex,b,c,n,l,q⟩=>?_);subst ex;obtain rfl:u=Value.ref a:=m;exact zm3 i b c n l λu' s2 w j=>⟨v,H1,w,j,q⟩
def zd8(d:PE X o ta)(hv:PE X value tv)(B:swapsWith value (some (.Attribute o f pos')) pos.line X.env=pure false):PS X (.Assign [.Attribute o f pos'] value pos) (sFld X.K ta tv f):=by
 intro bo s b H D I h;refine plainObj_wpAny_Assign_Attribute (thn (hv s b H _ I h) λu z ⟨y,H1,w,i,q⟩=>thn (d z b H1 _ w q) λA s2 ⟨x,H2,p,E,a,C,dx,fs,ex,m,c,n,l,r⟩=>?_) B;subst ex;obtain rfl:A=Value.ref a:=E;exact zm7 p m c n l i λs3 j=>⟨b,_,j,r⟩
end
structure Room(k:Nat)(A:Around):Prop where
 hd:A.handled=none
 dp:A.depth+3*k+5<recursionLimit
 un:A.units+16*k+200<cLine
def Room.mono(r:Room k A)(h:j<=k):Room j A:=⟨r.hd,by have:=r.dp;lia,by have:=r.un;lia⟩
def Room.deeper(r:Room (k+1) A)(a:Env):Room k (A.deeper a):=
 ⟨r.hd,by have:=r.dp;show A.depth+1+3*k+5<_;lia,by have:=r.un;show A.units+3+16*k+200<_;lia⟩
def Room.in1(r:Room (k+1) A):Room k A.in1:=
 ⟨r.hd,by have:=r.dp;show A.depth+3*k+5<_;lia,by have:=r.un;show A.units+1+16*k+200<_;lia⟩
def znb{A:Around}:(A.under (.builtin "type.__call__" ⟨.ref C::us,kw⟩)).depth=A.depth+1:=by
 first | rfl | simp[Around.under,Code.weight,Code.isCreation,Code.isGuard,Code.isCaller,Code.frames,Code.isFrame,guardIds]
def zmq{A:Around}:(A.under (.builtin "type.__call__" ⟨.ref C::us,kw⟩)).units=A.units+1:=by
 first | rfl | simp[Around.under,Code.cUnits,Code.frames,Code.isFrame]
def Room.make(r:Room (k+1) A)(C:Lg)(us:List Lh)(a:List (Lp×Lh)):Room k (A.under (.builtin "type.__call__" ⟨.ref C::us,a⟩)):=
 ⟨r.hd,by have:=r.dp;rw[znb];lia,by have:=r.un;rw[zmq];lia⟩
def Room.depth(r:Room k A):A.depth<recursionLimit:=by have:=r.dp;lia
def Room.units(r:Room k A):A.units+64<cLine:=by have:=r.un;lia
def Room.units0(r:Room k A):A.units<cLine:=by have:=r.un;lia
def tNil:TA:=λ_ H Q=>Q [] H
def zff(ta:TE)(tr:TA):TA:=λσ H Q=>ta σ H λx H1=>tr σ H1 λxs H2=>Q (x::xs) H2
section
variable{X:Cx}{e:Ln}{es:List Ln}{te:TE}{t:TA}{pos:Pos}
def zar:PA X [] tNil:=λ_ _ _ _ H Q I h=>Calls.spliced_nil ⟨[],H,I,.nil,h⟩
def zab(b:PE X e te)(m:PA X es t)(o:starEach (e::es) X.env=(false,eval e X.env)::starEach es X.env:=by rfl):PA X (e::es) (zff te t):=by
 intro pos bo s a H Q I h;rw[o];show wpAny _ _ (spliced ((false,eval e X.env)::backTo pos (starEach es X.env))) _ _ s;refine Calls.spliced_cons (thn (b s a H _ I h) λu i ⟨x,H1,f,l,c⟩=>?_);exact thn (m bo i a H1 _ f c) λus s2 ⟨xs,n,p,j,d⟩=>⟨x::xs,n,p,.cons l j,d⟩
def tTup(t:TA):TE:=λσ H Q=>t σ H λxs H1=>xs.length<=sizeLine/\∀p,H1 p=none->Q (.ref p) (upd H1 p (.tup xs))
def tLst(t:TA):TE:=λσ H Q=>t σ H λxs H1=>xs.length<=sizeLine/\∀p,H1 p=none->Q (.ref p) (upd H1 p (.lst xs))
def zci{x1}(h:PA X es t):PE X (.Tuple es x1 pos) (tTup t):=by
 intro bo s i H Q I f;refine wpAny_Tuple_spliced (thn (h bo s i H _ I f) λus a ⟨xs,H1,c,r,z,q⟩=>⟨by rw[<- r.length];exact z,?_⟩);have d:H1 a.heap.objs.size=none:=c.hok.fresh (Yi _);refine⟨.ref a.heap.objs.size,upd H1 a.heap.objs.size (.tup xs),c.laid (t':=a.toks) (λb u e=>Ye _ e) (Yi _) ?_,rfl,q _ d⟩;exact⟨z,us,r,⟨_,Yk _ rfl,rfl,_,rfl⟩⟩
def zmh(h:PA X es t):PE X (.List es pos) (tLst t):=by
 intro bo s i H Q I f;refine wpAny_List_spliced (thn (h bo s i H _ I f) λus a ⟨xs,H1,c,r,z,q⟩=>⟨by rw[<- r.length];exact z,?_⟩);have d:H1 a.heap.objs.size=none:=c.hok.fresh (Yi _);refine⟨.ref a.heap.objs.size,upd H1 a.heap.objs.size (.lst xs),c.laid (t':=a.toks) (λb u e=>Ye _ e) (Yi _) ?_,rfl,q _ d⟩;exact⟨z,us,0,r,Yk _ rfl⟩
end
abbrev Sp:=Lf->Hp->VK->XK->Prop
abbrev CXT:=List Env->Hp->Lj->XK->Va
structure Env0(P:Ll)(w:Lk)(K:Li)(mg:Sa)(base:Lo)(A:Around)(outer:List Env)(s:Lj)(H:Hp):Prop where
 frames:A.frames=some outer
 mod:Mod K mg base
 bs:∀b o,base.get? b=some o->s.heap.get? b=some o/\H b=none
 bsz:base.objs.size<=s.heap.objs.size
 funs:s.heap.FunFrames base outer
 frf:∀b∈frs outer,H b=none
 hok:HOk P w H s.heap
 bare:AllBare s.gens
def CE(outer:List Env)(P:Ll)(w:Lk)(H:Hp)(s:Lj)(Q:VK)(u:Lh)(s':Lj):Prop:=
 ∃v H',s'.os=s.os/\AllBare s'.gens/\Un (frs outer) [] H H' s.heap s'.heap/\HOk P w H' s'.heap/\RelV v u/\Q v H'
def CR(CX:CXT)(outer:List Env)(P:Ll)(w:Lk)(H:Hp)(s:Lj)(Q:VK)(E:XK)(r:Result)(s':Lj):Prop:=
 match r with
 | .ok (.ret u)=>CE outer P w H s Q u s'
 | .ok _=>False
 | .error e=>CX outer H s E e s'
structure FnOk(P:Ll)(w:Lk)(K:Li)(mg:Sa)(base:Lo)(CX:CXT)(k:Nat)(f:Lg)(fd:FuncData)(ps:List Lp)(sp:Sp):Prop where
 len:∀vs H Q E,sp vs H Q E->vs.length=ps.length
 run:∀(A:Around) (outer:List Env) (s:Lj) (H:Hp) (args:Args) (us:List Lh) (vs:Lf) (Q:VK) (E:XK),Room k A->Env0 P w K mg base A outer s H->BindsTo s fd args (ps.zip us)->Vals vs us->sp vs H Q E ->
  codeAny (model P w) A (.call (.ref f) args) (CR CX outer P w H s Q E) s
def FnOk.mono{K:Li}(F:FnOk P w K mg base CX j f fd ps sp)(h:j<=k) :
  FnOk P w K mg base CX k f fd ps sp:=⟨F.len,λA a s H b us vs Q E c=>F.run A a s H b us vs Q E (c.mono h)⟩
def FnOk.imp{K:Li}(F:FnOk P w K mg base CX k f fd ps sp)
  (h:∀vs H Q E,sp' vs H Q E->sp vs H Q E):FnOk P w K mg base CX k f fd ps sp':=
 ⟨λvs H Q E q=>F.len vs H Q E (h _ _ _ _ q),λA a s H b us vs Q E d c e hv i=>F.run A a s H b us vs Q E d c e hv (h _ _ _ _ i)⟩
def Env0.make{K:Li}(e:Env0 P w K mg base A outer s H)(C:Lg)(us:List Lh)(a:List (Lp×Lh)) :
  Env0 P w K mg base (A.under (.builtin "type.__call__" ⟨.ref C::us,a⟩)) outer s H:=⟨by first | exact e.frames | (simpa[Around.under,Code.envs,Code.isFrame,pushEnvs]using e.frames),e.mod,e.bs,e.bsz,e.funs,e.frf,e.hok,e.bare⟩
def Env0.in1{K:Li}(e:Env0 P w K mg base A outer s H) :
  Env0 P w K mg base A.in1 outer s H:=⟨e.frames,e.mod,e.bs,e.bsz,e.funs,e.frf,e.hok,e.bare⟩
section
variable{X:Cx}{bo:La}{σ:St}{H:Hp}{s s':Lj}
def Inv.env0(I:Inv X bo σ H s):Env0 X.prog X.w X.K X.mg X.base X.A X.stack s H:=
 ⟨I.ok.frames,I.ok.mod,I.bs,Yr I.ok.bsz I.sz,I.stack,I.stkFree,I.hok,I.bare⟩
def Inv.after(I:Inv X bo σ H s)(h:CE X.stack X.prog X.w H s Q u s'):EP X bo σ Q u s':=by
 obtain⟨v,H',i,a,un,c,r,q⟩:=h;obtain⟨f,g,d,t,e⟩:=s';obtain rfl:e=s.os:=i;exact⟨v,H',I.call (h':=f) (g':=g) (d':=d) (t':=t) (ch:=[]) un c a (λb z=>absurd z (by simp)),r,q⟩
end
def Binds(K:Li)(fd:FuncData)(ps:List Lp)(ds:List Lh):Prop:=
 ∀s us,K.In s.heap->(us++ds).length=ps.length->BindsTo s fd ⟨us,[]⟩ (ps.zip (us++ds))
def Binds.all{K:Li}(h:∀us,us.length=ps.length->bindArgs fd ⟨us,[]⟩=pure (ps.zip us)):Binds K fd ps []:=λs us _ a=>by
 rw[List.append_nil]at a ⊢;exact .of_eq (h us a)
section
variable{X:Cx}{CX:CXT}{k:Nat}{f C:Lg}{fd:FuncData}{ps:List Lp}{sp:Sp}{dvs:Lf}{ds:List Lh}{E:XK}{x m:Lp}{p pos apos:Pos}{e o:Ln}{es:List Ln}{ta:TE}{t:TA}
structure Mk(K:Li)(C f:Lg):Prop where
 makes:W.makesIn K C=true
 init:W.findIn K (.ref C) "__init__" = some (some (.ref f))
 fn:W.isFn K (.ref f)=true
 kp:W.keepIn K (.ref C)=true
end
structure FnScope(N P:List Lp)(sc:Scope):Prop where
 kind:sc.kind=.function
 co:sc.isCoroutine=false
 gen:sc.isGenerator=false
 nd:N.Nodup
 pre:N.take P.length=P
 par:∀x∈P,sc.names.lookup x=some .local\/sc.names.lookup x=some .cell
 nofree:∀y∈sc.names,y.2≠.free
theorem zjp{a:Lp->Option NameKind}:∀{binds} {m},(∀v,(x,v) ∉ binds)->bindL a binds m x=m x
 | [],_,_=>rfl
 | (n,v)::r,m,h=>by
  unfold bindL;rw[zjp λw hw=>h w (List.mem_cons_of_mem _ hw)];split
  ·have:x≠n:=by rintro rfl;exact h v List.mem_cons_self
   simp[this]
  ·rfl
theorem zju{a:Lp->Option NameKind}:∀{binds} {m},(∀v,(x,v) ∉ binds)->bindC a binds m x=m x
 | [],_,_=>rfl
 | (n,v)::r,m,h=>by
  unfold bindC;rw[zju λw hw=>h w (List.mem_cons_of_mem _ hw)];split
  ·rfl
  ·have:x≠n:=by rintro rfl;exact h v List.mem_cons_self
   simp[this]
theorem zjh{a:Lp->Option NameKind}:∀{P:List Lp} {vs} {i:Nat} {m},P.Nodup->P[i]? = some x->vs[i]? = some v->a x=some .local ->
  bindL a (P.zip vs) m x=some v
 | [],_,_,_,_,h,_,_=>by simp at h
 | _::_,[],_,_,_,_,h,_=>by simp at h
 | p::P,w::vs,0,m,nd,h1,h2,hk=>by
  simp at h1 h2;subst h1;subst h2
  show bindL a ((p,w)::P.zip vs) m p=_;unfold bindL;rw[zjp λv hv=>(List.nodup_cons.mp nd).1 (List.of_mem_zip hv).1,Yl hk];simp
 | p::P,w::vs,i+1,m,nd,h1,h2,hk=>by
  show bindL a ((p,w)::P.zip vs) m x=_;unfold bindL;exact zjh (i:=i) (List.nodup_cons.mp nd).2 (by simpa using h1) (by simpa using h2) hk
theorem zi7{a:Lp->Option NameKind}:∀{P:List Lp} {vs} {i:Nat} {m},P.Nodup->P[i]? = some x->vs[i]? = some v->a x≠some .local ->
  bindC a (P.zip vs) m x=some v
 | [],_,_,_,_,h,_,_=>by simp at h
 | _::_,[],_,_,_,_,h,_=>by simp at h
 | p::P,w::vs,0,m,nd,h1,h2,hk=>by
  simp at h1 h2;subst h1;subst h2
  show bindC a ((p,w)::P.zip vs) m p=_;unfold bindC;rw[zju λv hv=>(List.nodup_cons.mp nd).1 (List.of_mem_zip hv).1,Yh hk];simp
 | p::P,w::vs,i+1,m,nd,h1,h2,hk=>by
  show bindC a ((p,w)::P.zip vs) m x=_;unfold bindC;exact zi7 (i:=i) (List.nodup_cons.mp nd).2 (by simpa using h1) (by simpa using h2) hk
def start(N:List Lp)(vs:Lf):St:=vs.map some++List.replicate (N.length-vs.length) none
def cxOf(CX:CXT)(P:Ll)(w:Lk)(K:Li)(mg:Sa)(base:Lo)(N:List Lp)(qual:Lp)(scope:Scope)(f:Lg)(cd:Lh)(A:Around)(outer:List Env)(s:Lj)(H:Hp)(E:XK):Cx where
 prog:=P
 w:=w
 K:=K
 mg:=mg
 base:=base
 A:=A.deeper (envOfC qual scope s.heap.objs.size f cd)
 N:=N
 s₀:=s
 H₀:=H
 env:=envOfC qual scope s.heap.objs.size f cd
 outer:=outer
 stack:=envOfC qual scope s.heap.objs.size f cd::outer
 ex:=[]
 calm:=true
 fn:=λ_=>true
 pn:=[]
 xe:=λe s'=>wpAny (model P w) (A.deeper (envOfC qual scope s.heap.objs.size f cd)) (leaving (envOfC qual scope s.heap.objs.size f cd) e) (λ_ s''=>CX outer H s E e s'') (λe' s''=>CX outer H s E e' s'') s'
def zln{a:Scope}(h:a.names.lookup x=some .cell):∃c,(cellsFrom n a.names []).lookup x=some c:=by
 have q:=W.cellsFrom_some a.names n [] (.inl h);exact Option.isSome_iff_exists.mp q
def zny{CX:CXT}{P:Ll}{w:Lk}{K:Li}{L:Sa}{base:Lo}{N ps:List Lp}{l:Lp}{d:Scope}{f:Lg}{I:Lh}{A:Around}{j:List Env}{s O:Lj}{H:Hp}{E:XK}{us:List Lh}{vs:Lf}
  (S:FnScope N ps d) (hd:A.handled=none) (o:Env0 P w K L base A j s H) (hl:vs.length=ps.length) (r:Vals vs us)
  (x:InCallC s s.heap.objs.size (bindL (envOfC l d s.heap.objs.size f I).kindOf (ps.zip us) λ_=>none) (cellsFrom (s.heap.objs.size+1) d.names []) (bindC (envOfC l d s.heap.objs.size f I).kindOf (ps.zip us) λ_=>none) O) :
  Inv (cxOf CX P w K L base N l d f I A j s H E) [] (start N vs) H O:=by
 have hpl:ps.length<=N.length:=by have:=Jw List.length S.pre;rw[List.length_take]at this;lia
 obtain⟨J,tk,rfl,M⟩:=x.done;have C:∀b:Lg,b ∉ (cxOf CX P w K L base N l d f I A j s H E).ex:=λb z=>absurd (show b∈([]:Le) from z) (by simp)
 refine⟨⟨o.mod,S.kind,Z,Z,Yi _,λy z c J m=>?_,λy B=>?_,λy c _ h=>?_,λ_=>hd,Around.frames_deeper o.frames,.inr ⟨Z,Z⟩,λb z=>absurd z (C b),o.bs,o.bsz,λb _ _=>C b,λb z=>absurd z (C b),o.funs,o.frf⟩,
  rfl,o.bare,Un.kept M,⟨_,x.toInCall.ns,λi y v J m h3=>?_⟩,λy c h=>⟨_,x.cell y c h⟩,o.hok.fresh (Yi _),λy c h=>?_,λp G=>absurd (show p∈([]:La) from G) (by simp),o.hok.kept M,?_⟩
 ·exact name_of_addr x.apart (PySem.mem_of_lookup J) (PySem.mem_of_lookup m)
 ·have B:d.names.lookup y=some .cell\/d.names.lookup y=some .free:=B;rcases B with B | B
  ·exact zln B
  ·exact absurd rfl (S.nofree _ (PySem.mem_of_lookup B))
 ·exact Nat.le_of_lt (x.above y c (PySem.mem_of_lookup h))
 ·have hi:i<vs.length:=by
   unfold start at m;by_cases hi:i<vs.length
   ·exact hi
   ·rw[List.getElem?_append_right (by simpa using hi)]at m;rw[List.getElem?_replicate]at m;split at m <;> cases m
  have R:vs[i]? = some v:=by
   unfold start at m;rw[List.getElem?_append_left (by simpa using hi),Ym]at m
   cases e:vs[i]? with
   | none=>rw[e]at m;cases m
   | some a=>rw[e]at m;cases m;rfl
  obtain⟨u,Q,T⟩:=r.get R;have G:ps[i]? = some y:=by
   rw[<- S.pre,List.getElem?_take_of_lt (by lia)];exact J
  have D:ps.Nodup:=by rw[<- S.pre];exact S.nd.sublist (List.take_sublist _ _)
  refine⟨u,T,?_⟩;rcases S.par y (Yx G) with k | k
  ·exact .inl ⟨k,zjh D G Q k⟩
  ·obtain⟨c,e⟩:=zln (n:=s.heap.objs.size+1) k;refine .inr ⟨.inl k,c,e,?_⟩;have q:=x.cell y c e;rw[zi7 D G Q (by show d.names.lookup y≠_;rw[k];decide)]at q;exact q
 ·exact o.hok.fresh (Nat.le_of_lt (x.above y c (PySem.mem_of_lookup h)))
 ·unfold start;show _=N.length;rw[Y5,Yd,List.length_replicate];lia
def zx1{CX:CXT}{P:Ll}{w:Lk}{K:Li}{D:Sa}{base:Lo}{k:Nat}{f:Lg}{name d:Lp}{i:Arguments}{body:List Lm}{a:Scope}{dV kV z U h ct oc:Lh}{T od:Option Lg}
  {O:Array (Option Lh)} {N ps:List Lp} {sp:Sp} (lk:K.lookup f=some ⟨oc,od,.func (W.fnOf name d i body a dV kV z U T h ct),O⟩) (L:W.codeIn K h d=true) (S:FnScope N ps a)
  (len:∀vs H Q E,sp vs H Q E->vs.length=ps.length)
  (l:∀(A:Around) (c:List Env) (s:Lj) (H:Hp) (vs:Lf) (Q:VK) (E:XK),Room k (A.deeper (envOfC d a s.heap.objs.size f h))->sp vs H Q E ->
   ∃t,PSs (cxOf CX P w K D base N d a f h A c s H E) body t/\t { nx:=λ_ H'=>Q .non H',rt:=Q } (start N vs) H) :
  FnOk P w K D base CX (k+1) f (W.fnOf name d i body a dV kV z U T h ct) ps sp:=by
 refine⟨len,λA c s H args us vs Q E R B hb r C=>?_⟩;have hl:=len _ _ _ _ C;have Y:K.In s.heap:=B.mod.kin.keeps λb o e=>(B.bs b o e).1
 have M:s.heap.NoLimit:=B.mod.nolimit.keeps λb o e=>(B.bs b o e).1
 have m:∀y∈ps.zip us,a.names.lookup y.1=some .local\/(a.names.lookup y.1=some .cell/\((cellsFrom (s.heap.objs.size+1) a.names []).lookup y.1).isSome=true):=fun⟨n,v⟩ hy=>by
  rcases S.par n (List.of_mem_zip hy).1 with q | q
  ·exact .inl q
  ·exact .inr ⟨q,W.cellsFrom_some _ _ _ (.inl q)⟩
 refine codeAny_call_function R.depth (Y _ _ lk) rfl S.co S.gen rfl (W.codeRec_of Y L) (hb _ _ _ _ ?_);refine wpAny_newFunctionEnv_cells S.kind m λenv he X x=>?_
 subst he;refine⟨M.keeps x.toInCall.keep,codeAny_func ?_⟩;obtain⟨t,ht,hq⟩:=l A c s H vs Q E (R.deeper _) C;have I:Inv (cxOf CX P w K D base N d a f h A c s H E) [] (start N vs) H X:=zny S R.hd B hl r x;refine wpAny_mono (ht X (start N vs) H _ I hq) (λfl s' p=>?_) λe s' p=>p
 have fin:∀{j:St} {H':Hp} {v:V} {u:Lh},Inv (cxOf CX P w K D base N d a f h A c s H E) [] j H' s'->RelV v u->Q v H'->CE c P w H s Q u s':=
  fun{j H' v u} J G q=>⟨v,H',J.os,J.bare,J.base,J.hok,G,q⟩
 cases fl with
 | ret u=>
  obtain⟨v,j,H',J,G,q⟩:=p;exact fin J G q
 | next=>
  obtain⟨j,H',J,q⟩:=p;exact fin (v:=V.non) (u:=Value.none) J rfl q
 | brk=>
  obtain⟨_,_,_,q⟩:=p;exact Je q
 | cont=>
  obtain⟨_,_,_,q⟩:=p;exact Je q
section
variable{X:Cx}{x:Lp}{p pos:Pos}{e:Ln}{es:List Ln}{t:TA}{id T:String}{r:Lf->Hp->VK->Prop}
def tCB(r:Lf->Hp->VK->Prop)(t:TA):TE:=λσ H Q=>t σ H λvs H1=>r vs H1 Q
def zaw(q:CallR X (.builtin id) r)(hg:Gl X x)(j:X.mg x=none)(hv:bootBuiltins x=some (.builtin id))(d:PA X (e::es) t)(o:x≠"__name__":=by decide)(b:(x == ("__debug__" : Lp))=false:=by decide)
  (i:starEach (e::es) X.env=(false,eval e X.env)::starEach es X.env:=by rfl) (a:(backTo pos (starEach es X.env)).any (·.1)=false:=by rfl):PE X (.Call (.Name x p) (e::es) [] pos) (tCB r t):=by
 intro bo s c H Q I h;refine wpAny_Call_Name_kw (zfu I hg j hv ?_ o b);exact PyProof.Rows.callWith_builtin1 (thn (d bo s c H _ I h) λus m ⟨vs,H1,l,n,f⟩=>q bo m c H1 vs us Q l n f) i a
def za9(q:CallR X (.type T) r)(hg:Gl X x)(j:X.mg x=none)(hv:bootBuiltins x=some (.type T))(d:PA X (e::es) t)(o:x≠"__name__":=by decide)(b:(x == ("__debug__" : Lp))=false:=by decide)
  (i:starEach (e::es) X.env=(false,eval e X.env)::starEach es X.env:=by rfl) (a:(backTo pos (starEach es X.env)).any (·.1)=false:=by rfl):PE X (.Call (.Name x p) (e::es) [] pos) (tCB r t):=by
 intro bo s c H Q I h;refine wpAny_Call_Name_kw (zfu I hg j hv ?_ o b);exact PyProof.Rows.callWith_type1 (thn (d bo s c H _ I h) λus m ⟨vs,H1,l,n,f⟩=>q bo m c H1 vs us Q l n f) i a
end
end L2
namespace HT
open PySem PyProof.Rows
def lexLt:Lc->Lc->Bool
 | [],[]=>false
 | [],_::_=>true
 | _::_,[]=>false
 | x::xs,y::ys=>if x=y then lexLt xs ys else decide (x<y)
def lexLt_cons(x y:Int)(xs ys:Lc):lexLt (x::xs) (y::ys)=if x=y then lexLt xs ys else decide (x<y):=rfl
def ze7:lexLt [] []=false:=rfl
def lexLt_nil_cons(y:Int)(ys:Lc):lexLt [] (y::ys)=true:=rfl
def lexLt_cons_nil(x:Int)(xs:Lc):lexLt (x::xs) []=false:=rfl
def eqAt_int(A:Around)(s:Lj)(a:Int)(t:Tok)(c:Int)(u:Tok):∃e,SeqAt.EqAt A s (.int a t) (.int c u) e/\(e=true↔a=c):=
 ⟨(a == c),SeqAt.EqAt.int_int a t c u,by simp⟩
def rcLt_int(A:Around)(s:Lj)(a:Int)(t:Tok)(c:Int)(u:Tok)(prog:Ll)(w:Lk)(E:Va)(Q:Va)(h:Q (.bool (decide (a<c))) s) :
  wpAny (model prog w) A (richCompare .Lt (.int a t) (.int c u)) Q E s:=
 (PyProof.Rows.lt_int h:wpAny (model prog w) A (compareOp .Lt (.int a t) (.int c u)) Q E s)
section
open PySem.SeqAt
open PySem.AutoSeq1 (wpAny_loadPart')
open PySem.MeetsSeq PySem.MeetsSeq2 PySem.MeetsSeq3
def zim(l b:Lg)(i f:Array Lh)(n O:Nat)(dd I:Option Lg)(M J:Array (Option Lh))(E H:Lc)(hi:IntsAre i.toList E)(L:IntsAre f.toList H) :
  Meets (Builtin.«tuple.__lt__» ⟨[.ref l,.ref b],[]⟩)
   (λ_ R s=>s.heap.get? l=some { cls:=.type "tuple",dict:=dd,data:=.seq i n,slots:=M }/\s.heap.get? b=some { cls:=.type "tuple",dict:=I,data:=.seq f O,slots:=J } /\
    R (.ok (.ret (.bool (lexLt E H)))) s):=
 .of_wp λprog w A R s h=>by
  obtain⟨D,g,d,tk,G⟩:=s;obtain⟨Q,N,h⟩:=h;have f2:=AutoSeq1.sub_tuple_tuple;have z1:i.size=E.length:=by rw[<- hi.length];simp
  have z2:f.size=H.length:=by rw[<- L.length];simp
  wp_walk using wpAny_loadPart' Q,wpAny_loadPart' N,wpAny_forIn_list _ (λrest b s'=>b.1=none/\s'=⟨D,g,d,tk,G⟩/\∃(vs ws:List Lh) (m o:Lc),rest=vs.zip ws /\
   IntsAre vs m/\IntsAre ws o/\m.length+f.size=o.length+i.size/\R (.ok (.ret (.bool (lexLt m o)))) ⟨D,g,d,tk,G⟩) _
  case turn=>
   rintro⟨y,x⟩ rest b s' ⟨C,rfl,vs,ws,m,o,hz,B,p,j,z⟩
   cases B with
   | nil=>rw[List.zip_nil_left]at hz;cases hz
   | cons a t hvi'=>
    cases p with
    | nil=>rw[List.zip_nil_right]at hz;cases hz
    | cons c u hwi'=>
     rw[List.zip_cons_cons]at hz;injection hz with hyx hrest
     injection hyx with hy hx
     subst hy hx;rw[lexLt_cons]at z;simp only[List.length_cons]at j;obtain⟨e,P,r⟩:=eqAt_int A.in1 ⟨D,g,d,tk,G⟩ a t c u;refine Ya (P prog w _ _ ?_)
     cases e with
     | true=>
      rw[Yl (r.mp rfl)]at z;wp_walk;exact⟨Z,Z,_,_,_,_,hrest,hvi',hwi',by lia,z⟩
     | false=>
      rw[Yh (λq=>absurd (r.mpr q) Yt)]at z;have K:=rcLt_int A.in1 ⟨D,g,d,tk,G⟩ a t c u prog w;wp_walk using K;exact⟨_,Z,by simpa using z⟩
  case fin=>
   rintro⟨b1,b2⟩ s' ⟨C,rfl,vs,ws,m,o,hz,B,p,j,z⟩;simp only at C;subst C;have hv:lexLt m o=decide (i.size<f.size):=by
    cases B with
    | nil=>
     cases p with
     | nil=>
      simp only[List.length_nil]at j
      rw[ze7];exact(Yw (by lia)).symm
     | cons c u hw=>
      simp only[List.length_nil,List.length_cons]at j
      rw[lexLt_nil_cons];exact(Yo (by lia)).symm
    | cons a t hv=>
     cases p with
     | nil=>
      simp only[List.length_nil,List.length_cons]at j
      rw[lexLt_cons_nil];exact(Yw (by lia)).symm
     | cons c u hw=>
      rw[List.zip_cons_cons]at hz
      cases hz
   rw[hv]at z;wp_walk;exact⟨_,Z,by simpa[Builtin.Tuple.tupleCompareSizes]using z⟩
  case h=>
   exact⟨Z,Z,i.toList,f.toList,E,H,Z,hi,L,by lia,h⟩
end
section
variable{prog:Ll}{w:Lk}{A:Around}{E:Va}{s:Lj}
def lt_tupInts(y:IsTup s.heap l items)(r:IsTup s.heap b items2)(hi:IntsAre items.toList ns)(q:IntsAre items2.toList ms)
  (p:A.units<cLine) (h:Q (.bool (lexLt ns ms)) s):wpAny (model prog w) A (compareOp .Lt (.ref l) (.ref b)) Q E s:=by
 obtain⟨⟨cls,dd,data,o⟩,i,j,n,hd⟩:=id y;obtain⟨⟨cls2,f,data2,e⟩,a,c,m,d⟩:=id r;simp only at j hd c d;subst j hd c d;exact richCompare_meets_room (op:=.Lt) ⟨_,i,Z⟩ ⟨_,a,Z⟩ PySem.F.slot_tuple_lt PySem.F.entry_tuple_lt (PySem.F.args_tuple_lt_2 _ _) (zim l b items items2 n m dd f o e ns ms hi q)
  ⟨i,a,show Value.bool (lexLt ns ms)≠Value.notImplemented/\Q (.bool (lexLt ns ms)) s from⟨(λx=>nomatch x),h⟩⟩ p
def cat_tup(q:IsTup s.heap t vs.toArray)(r:IsTup s.heap b ws.toArray)(hv:vs≠[])
  (o:ws=[]->Q (.ref t) s) (p:ws≠[]->Q (.ref s.heap.objs.size) { s with heap:=s.heap.push { cls:=.type "tuple",data:=.seq (vs++ws).toArray } })
  (hsz:vs.length+ws.length<=sizeLine):wpAny (model prog w) A (binaryOp .Add (.ref t) (.ref b)) Q E s:=by
 obtain⟨⟨cls,dd,data,l⟩,i,m,n,hd⟩:=id q;obtain⟨⟨cls2,d,data2,c⟩,a,f,j,h⟩:=id r;simp only at m hd f h;subst m hd f h;have e:vs.toArray++ws.toArray=(vs++ws).toArray:=by simp
 by_cases hw:ws=[]
 ·exact concat_meets ⟨_,i,Z⟩ ⟨_,a,Z⟩ noFill_tuple_add seq_tuple_add PySem.F.slot_tuple_add PySem.F.entry_tuple_add (PySem.F.args_tuple_add_2 _ _)
   (tuple_addW1 t b vs.toArray ws.toArray n j dd d l c (by simpa using hv) (by simp[hw])) ⟨i,a,o hw⟩
 ·refine concat_meets ⟨_,i,Z⟩ ⟨_,a,Z⟩ noFill_tuple_add seq_tuple_add PySem.F.slot_tuple_add PySem.F.entry_tuple_add (PySem.F.args_tuple_add_2 _ _)
   (tuple_addW2 t b vs.toArray ws.toArray n j dd d l c (by simpa using hv) (by simpa using hw) (by rw[Ys,Ys];exact hsz)) ⟨i,a,?_⟩
  rw[e];exact p hw
def sIx(n d:Nat):Option Int->Nat
 | none=>d
 | some v=>if v<0 then(v+(n:Int)).toNat else min v.toNat n
end
end HT
namespace L2
open PySem PySem.Spec PyProof.Rows
abbrev TO:=St->Hp->(Option Int->Hp->Prop)->Prop
def PO(X:Cx)(e:Option Ln)(t:TO):Prop:=
 ∀⦃bo:La⦄ (s:Lj) (σ:St) (H:Hp) (Q:Option Int->Hp->Prop),Inv X bo σ H s->t σ H Q ->
  wpAny (model X.prog X.w) X.A (evalPart e X.env) (λu s'=>∃o H',Inv X bo σ H' s'/\IsPart u o/\Q o H') X.xe s
def zyv(t:TE):TO:=λσ H Q=>t σ H λx H1=>∃i,x=.int i/\Q (some i) H1
def zcf:∀{us},Vals (ns.map V.int) us->IntsAre us ns:=by
 induction ns with
 | nil=>intro us r;rw[List.map_nil]at r;cases r;exact .nil
 | cons n ns ih=>
  intro us r;rw[Yz]at r
  cases r with
  | cons r1 r2=>
   obtain⟨t,e⟩:=r1;subst e;exact .cons n t (ih r2)
section
variable{X:Cx}{e:Ln}{te:TE}{lo hi:Option Ln}{tl th:TO}{pos p2:Pos}
def zgn(h:PE X e te):PO X (some e) (zyv te):=by
 intro bo s d H Q I hw;rw[evalPart_some];refine thn (h s d H _ I hw) λu s1 ⟨x,H1,b,c,a⟩=>?_
 obtain⟨i,rfl,q⟩:=a;obtain⟨t,rfl⟩:=c;exact⟨some i,H1,b,.int i t,q⟩
def SlR(X:Cx)(r:V->Option Int->Option Int->Hp->VK->Prop):Prop:=
 ∀bo s (σ:St) H x v vl vu lo hi sl Q,Inv X bo σ H s->RelV x v->s.heap.IsSliceOf sl vl vu .none->IsPart vl lo->IsPart vu hi->r x lo hi H Q ->
  ∃T id,typeLookup (.type T) "__getitem__" = pure (some (.builtin id))/\s.TypeIs v T/\wpAny (model X.prog X.w) X.A (getItem v (.ref sl)) (EP X bo σ Q) X.xe s
def tSl(r:V->Option Int->Option Int->Hp->VK->Prop)(te:TE)(tl th:TO):TE:=λσ H Q=>te σ H λx H1=>tl σ H1 λl H2=>th σ H2 λu H3=>r x l u H3 Q
def zro(K:SlR X r)(z:PE X e te)(O:PO X lo tl)(G:PO X hi th):PE X (.Subscript e (.Slice lo hi none p2) pos) (tSl r te tl th):=by
 intro bo s c H Q I h;refine Subscript_ (thn (z s c H _ I h) λv E ⟨x,H1,C,J,p⟩=>?_);refine wpAny_Slice (thn (O E c H1 _ C p) λd N ⟨l,L,n,pl,B⟩=>thn (G N c L _ n B) λf a ⟨u,i,j,o,y⟩=>?_);rw[evalPart_none];refine Yb ?_;have M:Inv X bo c i { a with heap:=a.heap.push { cls:=.type "slice",data:=.fields #[d,f,.none] } }:=j.kept (t':=a.toks) λb ob q=>Ye _ q
 obtain⟨T,id,D,m,hg⟩:=K bo { a with heap:=a.heap.push { cls:=.type "slice",data:=.fields #[d,f,.none] } } c i x v d f l u a.heap.objs.size Q M J (Heap.IsSliceOf.new ..) pl o y;show wpAny (model X.prog X.w) X.A (subscriptTail e (.Slice lo hi none p2) v (.ref a.heap.objs.size)) (EP X bo c Q) X.xe { a with heap:=a.heap.push { cls:=.type "slice",data:=.fields #[d,f,.none] } };exact tail_any (ops:=[.ref a.heap.objs.size,v]) m D hg (by with_unfolding_all rfl)
def cutV(xs:Lf)(lo hi:Option Int):Lf:=(xs.drop (HT.sIx xs.length 0 lo)).take (HT.sIx xs.length xs.length hi-HT.sIx xs.length 0 lo)
def zf7(xs:Lf)(lo hi:Option Int):(cutV xs lo hi).length<=xs.length:=by
 unfold cutV;rw[List.length_take,List.length_drop];lia
def rLtT(K:Li):R2:=λx y H Q=>∃a b ns ms,x=.ref a/\y=.ref b/\SqT K H a (ns.map V.int)/\SqT K H b (ms.map V.int)/\Q (.bl (HT.lexLt ns ms)) H
def zxl(l:X.A.units<cLine):OpR X (compareOp .Lt) (rLtT X.K):=by
 intro bo s σ H x y v u Q I w j h;obtain⟨a,b,d,f,rfl,rfl,i,p,q⟩:=h
 cases w
 cases j;obtain⟨its,o,r,_⟩:=I.tuple i;obtain⟨c,n,p2,_⟩:=I.tuple p;have z:IntsAre its.toArray.toList d:=zcf o;have m:IntsAre c.toArray.toList f:=zcf n;exact HT.lt_tupInts r p2 z m l ⟨.bl (HT.lexLt d f),H,I,Z,q⟩
def zy2(K:Li):R2:=λx y H Q=>∃a b xs ys,x=.ref a/\y=.ref b/\SqT K H a xs/\SqT K H b ys/\xs≠[]/\xs.length+ys.length<=sizeLine /\
 (ys=[]->Q (.ref a) H)/\(ys≠[]->∀p,H p=none->Q (.ref p) (upd H p (.tup (xs++ys))))
def Vals.nil_iff(r:Vals xs us):us=[]↔xs=[]:=by
 cases r with
 | nil=>simp
 | cons _ _=>simp
def zpf:OpR X (binaryOp .Add) (zy2 X.K):=by
 intro bo s σ H x y v u Q I r i h;obtain⟨a,b,xs,ys,rfl,rfl,f,j,l,hz,m,n⟩:=h
 cases r
 cases i;obtain⟨its,d,p,_⟩:=I.tuple f;obtain⟨its2,c,p2,_⟩:=I.tuple j;refine HT.cat_tup p p2 (λz=>l (d.nil_iff.mp z)) (λz=>⟨.ref a,H,I,Z,m (c.nil_iff.mp z)⟩) (λz=>?_) (by rw[<- d.length,<- c.length];exact hz);refine⟨.ref s.heap.objs.size,_,I.laid (t':=s.toks) (o:=.tup (xs++ys)) (λb ob q=>Ye _ q) (Yi _) ?_,Z,n (λw=>z (c.nil_iff.mpr w)) _ (I.hok.fresh (Yi _))⟩;exact⟨by rw[Y5];exact hz,_,d.append c,IsTup.new _ _⟩
end
def ixN(n:Nat)(i:Int):Option Nat:=if 0<=i then(if i<n then some i.toNat else none) else if -(n:Int)<=i then some (i+n).toNat else none
def atI{α:Type}(xs:List α)(i:Int):Option α:=(ixN xs.length i).bind λj=>xs[j]?
def znf(h:ixN n i=some j):seqIndex? i n=some j/\j<n/\-(n:Int)<=i/\i<n:=by
 unfold ixN at h;by_cases h0:0<=i
 ·rw[Yl h0]at h;by_cases h1:i<n
  ·rw[Yl h1]at h;have e:i.toNat=j:=Jf h;exact⟨by rw[seqIndex_of h0 h1,e],by lia,by lia,h1⟩
  ·rw[Yh h1]at h;cases h
 ·rw[Yh h0]at h;by_cases h1 : -(n:Int)<=i
  ·rw[Yl h1]at h;have e:(i+n).toNat=j:=Jf h;exact⟨by rw[seqIndex_neg (by lia) h1,e],by lia,h1,by lia⟩
  ·rw[Yh h1]at h;cases h
def zpl(h:atI xs i=some v):∃j,seqIndex? i xs.length=some j/\xs[j]? = some v/\j<xs.length/\-(xs.length:Int)<=i/\i<xs.length:=by
 unfold atI at h
 cases e:ixN xs.length i with
 | none=>rw[e]at h;cases h
 | some j=>
  rw[e]at h;obtain⟨a,c,d,b⟩:=znf e;exact⟨j,a,h,c,d,b⟩
def zbh{xs:List α}{j:Nat}{v : α}(h:xs[j]? = some v):atI xs (j:Int)=some v:=by
 have hj:j<xs.length:=(List.getElem?_eq_some_iff.mp h).1;have e:ixN xs.length (j:Int)=some j:=by
  unfold ixN;rw[Yl (by lia),Yl (by lia)];simp
 unfold atI;rw[e];exact h
def PlainIx(b:Ln):Prop:=∀o i,subscripted b false o i=operate [o,i] (getItem o i)
def IxR(X:Cx)(r:R2):Prop:=
 ∀value slice bo s (σ:St) H x y v u Q,Inv X bo σ H s->RelV x v->RelV y u->r x y H Q ->
  subscripted slice false v u=operate [v,u] (getItem v u)->wpAny (model X.prog X.w) X.A (subscriptTail value slice v u) (EP X bo σ Q) X.xe s
def MtR(X:Cx)(id:String)(r:V->Lf->Hp->VK->Prop):Prop:=
 ∀bo s (σ:St) H x xs v us Q,Inv X bo σ H s->RelV x v->Vals xs us->r x xs H Q ->
  wpAny (model X.prog X.w) X.A (call (.builtin id) (v::us)) (EP X bo σ Q) X.xe s
section
variable{X:Cx}{a b:Ln}{ta tb:TE}{pos:Pos}
def zbb(f:IxR X r)(c:PE X a ta)(l:PE X b tb)(m:PlainIx b):PE X (.Subscript a b pos) (tOp r ta tb):=by
 intro bo s i H Q I h;exact Subscript_ (binT c l I h λv u n x y j e o d q=>f a b bo n i j x y v u Q e o d q (m _ _))
inductive rIxL(K:Li)(x y:V)(H:Hp)(Q:VK):Prop
 | mk (p xs i v) (_:x=.ref p) (_:y=.int i) (_:SqL K H p xs) (_:atI xs i=some v) (_:Q v H)
inductive rIxT(K:Li)(x y:V)(H:Hp)(Q:VK):Prop
 | mk (p xs i v) (_:x=.ref p) (_:y=.int i) (_:SqT K H p xs) (_:atI xs i=some v) (_:Q v H)
def za6:IxR X (rIxL X.K):=by
 intro value slice bo s f H x y v u Q I G o h m;obtain⟨p,xs,i,z,rfl,rfl,C,D,q⟩:=h
 cases G;obtain⟨t,rfl⟩:=o;obtain⟨its,r,pl,hz⟩:=I.list C;obtain⟨j,c,B,h3,A,n⟩:=zpl D;obtain⟨w,l,d⟩:=r.get B;have E:=r.length;have hn:=zgs;have fin:EP X bo f Q w s:=⟨z,H,I,d,q⟩;by_cases h0:0<=i
 ·have e:i.toNat=j:=by
   rw[seqIndex_of h0 n]at c;exact Jf c
  exact item_listR pl.isList h0 (by lia) (by rw[e];simpa using l) fin m
 ·have e:(i+(its.toArray.size:Int)).toNat=j:=by
   rw[seqIndex_neg (by lia) A]at c;rw[Ys,<- E];exact Jf c
  exact subscriptTail_builtinR (x:=w) pl.isList.typeIs slot_list_getitem.lookup
   (wpAny_getItem_list_neg (Q:=λr s'=>r=w/\EP X bo f Q r s') pl.isList (by lia) (by rw[Ys] <;> lia) (by lia) (by rw[e];simpa using l) ⟨Z,fin⟩) m
def zby:IxR X (rIxT X.K):=by
 intro value slice bo s d H x y v u Q I C e h A;obtain⟨p,xs,i,z,rfl,rfl,l,n,q⟩:=h
 cases C;obtain⟨t,rfl⟩:=e;obtain⟨its,r,pl,hz⟩:=I.tuple l;obtain⟨j,m,f,h3,h4,h5⟩:=zpl n;obtain⟨w,o,c⟩:=r.get f;have B:=r.length;have hn:=zgs;have fin:EP X bo d Q w s:=⟨z,H,I,c,q⟩;exact subscriptTail_builtinR (x:=w) pl.typeIs slot_tuple_getitem.lookup
  (getItem_tuple (j:=j) (Q:=λr s'=>r=w/\EP X bo d Q r s') pl (by lia) (by lia) (by rw[Ys,<- B];exact m) (by simpa using o) ⟨Z,fin⟩) A
def zmm(its:List Lh)(n j:Nat)(u:Lh):Obj.mapSeq (·.setIfInBounds j u) { cls:=.type "list",data:=.seq its.toArray n }={ cls:=.type "list",data:=.seq (its.set j u).toArray n }:=by
 simp[Obj.mapSeq]
def Inv.lst{c:St}(I:Inv X bo c H s)(h:H p=some (.lst xs)) :
  ∃(its:List Lh) (n:Nat),Vals xs its/\s.heap.get? p=some { cls:=.type "list",data:=.seq its.toArray n }/\xs.length<=sizeLine:=by
 obtain⟨z,its,n,r,e⟩:=I.hok p _ h;exact⟨its,n,r,e,z⟩
def Inv.lstUpd{d:St}{its its':List Lh}(I:Inv X bo d H s)(h:H p=some (.lst xs))
  (j:s.heap.get? p=some { cls:=.type "list",data:=.seq its.toArray n }) (c:f { cls:=.type "list",data:=.seq its.toArray n }={ cls:=.type "list",data:=.seq its'.toArray n' }) (r:Vals ys its') (hz:ys.length<=sizeLine) (t:Nat) :
  Inv X bo d (upd H p (.lst ys)) { s with heap:=s.heap.update p f,toks:=t }:=by
 have e:(s.heap.update p f).get? p=some { cls:=.type "list",data:=.seq its'.toArray n' }:=by
  rw[Heap.get?_update_self f j (by rw[c] <;> rfl),c]
 refine I.write (x:=p) (e:=p) (by rw[h];trivial) (.inl rfl) (λb u i q=>(Heap.get?_update_other _ _ (Jb i)).trans q) ⟨_,e⟩ ?_;exact⟨hz,its',n',r,e⟩
inductive rSetL(o i v:V)(H:Hp)(Q:Hp->Prop):Prop
 | mk (p xs k j) (_:o=.ref p) (_:i=.int k) (_:H p=some (.lst xs)) (_:ixN xs.length k=some j) (_:Q (upd H p (.lst (xs.set j v))))
def zed:PSet X rSetL:=by
 intro bo s z H o i v ov iv u Q I B y A h;obtain⟨p,xs,k,j,rfl,rfl,m,C,q⟩:=h
 cases B;obtain⟨t,rfl⟩:=y;obtain⟨its,n,r,f,hz⟩:=I.lst m;obtain⟨c,h2,x,l⟩:=znf C;have e:=r.length;have hn:=zgs;have w:Inv X bo z (upd H p (.lst (xs.set j v))) { s with heap:=s.heap.update p (Obj.mapSeq (·.setIfInBounds j u)) }:=
  I.lstUpd m f (zmm its n j u) (r.set A j) (by rw[List.length_set];exact hz) s.toks
 by_cases h0:0<=k
 ·have d:k.toNat=j:=by
   rw[seqIndex_of h0 l]at c;exact Jf c
  exact W.ki_setAt f h0 (by lia) (by rw[Ys,<- e];exact l) (by rw[d];exact⟨_,w,q⟩)
 ·have d:(k+(its.toArray.size:Int)).toNat=j:=by
   rw[seqIndex_neg (by lia) x]at c;rw[Ys,<- e];exact Jf c
  exact W.ki_setBack f (by lia) (by rw[Ys,<- e];exact x) (by lia) (by rw[d];exact⟨_,w,q⟩)
def zjm(lo hi:Option Int)(n:Nat):(sliceBounds lo hi none n).1=((HT.sIx n 0 lo:Nat):Int)/\(sliceBounds lo hi none n).2.1=((HT.sIx n n hi:Nat):Int)/\(sliceBounds lo hi none n).2.2=1:=by
 refine⟨?_,?_,Z⟩
 ·cases lo with
  | none=>simp[sliceBounds,HT.sIx]
  | some i=>
   simp only[sliceBounds,HT.sIx,Option.getD_none,show (1:Int) > 0 by decide,if_true]
   by_cases h:i<0
   ·simp only[h,if_true] <;> lia
   ·simp only[h,if_false] <;> lia
 ·cases hi with
  | none=>simp[sliceBounds,HT.sIx]
  | some i=>
   simp only[sliceBounds,HT.sIx,Option.getD_none,show (1:Int) > 0 by decide,if_true]
   by_cases h:i<0
   ·simp only[h,if_true] <;> lia
   ·simp only[h,if_false] <;> lia
def zi4(its:List Lh)(lo hi:Option Int):slicePick its.toArray lo hi none=((its.drop (HT.sIx its.length 0 lo)).take (HT.sIx its.length its.length hi-HT.sIx its.length 0 lo)).toArray:=by
 obtain⟨c,d,e⟩:=zjm lo hi its.toArray.size;unfold slicePick;rw[c,d,e];simp only[sliceRange_one,pick_run,List.size_toArray] <;> rfl
inductive rSlL(K:Li)(x:V)(lo hi:Option Int)(H:Hp)(Q:VK):Prop
 | mk (a xs) (_:x=.ref a) (_:SqL K H a xs) (_:∀p,H p=none->Q (.ref p) (upd H p (.lst (cutV xs lo hi))))
def zug:SlR X (rSlL X.K):=by
 intro bo s σ H x v vl vu lo hi sl Q I j f pl i h;obtain⟨a,xs,rfl,e,q⟩:=h
 cases j;obtain⟨its,r,d,hz⟩:=I.list e;have c:=r.length;refine⟨"list",_,slot_list_getitem.lookup,d.isList.typeIs,?_⟩;refine wpAny_getItem_list_slice d.isList f pl i .none (by simp) ?_ (by rw[List.size_toArray] <;> lia);rw[zi4,<- c];refine⟨.ref s.heap.objs.size,_,I.laid (t':=s.toks) (o:=.lst (cutV xs lo hi)) (λb ob q=>Ye _ q) (Yi _) ?_,Z,q _ (I.hok.fresh (Yi _))⟩;exact⟨Yr (zf7 xs lo hi) hz,_,0,(r.drop (HT.sIx xs.length 0 lo)).take (HT.sIx xs.length xs.length hi-HT.sIx xs.length 0 lo),Yk _ rfl⟩
def zjn:CallR X (.builtin "len") (λxs H Q=>∃p ys,xs=[.ref p]/\(SqL X.K H p ys\/SqT X.K H p ys)/\Q (.int ys.length) H):=by
 intro bo s σ H xs us Q I r h;obtain⟨p,ys,rfl,d,q⟩:=h;obtain⟨u,rfl,f⟩:=zir r
 cases f;have hn:=zgs;rcases d with d | d
 ·obtain⟨its,e,pl,hz⟩:=I.list d;have c:=e.length;exact Calls.call_len_list pl.isList (by simp only[List.size_toArray] <;> lia) ⟨.int ys.length,H,I.tok _,⟨s.toks+1,by rw[Ys,c]⟩,q⟩
 ·obtain⟨its,e,pl,hz⟩:=I.tuple d;have c:=e.length;exact len_tuple pl (by simp only[List.size_toArray] <;> lia) ⟨.int ys.length,H,I.tok _,⟨s.toks+1,by rw[Ys,c]⟩,q⟩
def zj6:CallR X (.builtin "len") (λxs H Q=>∃z,xs=[.str z]/\z.length<=sizeLine/\Q (.int z.length) H):=by
 intro bo s σ H xs us Q I r h;obtain⟨z,rfl,hz,q⟩:=h;obtain⟨u,rfl,t,rfl⟩:=zir r;have hn:=zgs;exact len_str (by lia) ⟨.int z.length,H,I.tok _,⟨_,rfl⟩,q⟩
def zij:CallR X (.type "tuple") (λxs H Q=>∃p ys,xs=[.ref p]/\((SqL X.K H p ys/\∀l,H l=none->Q (.ref l) (upd H l (.tup ys)))\/(SqT X.K H p ys/\Q (.ref p) H))):=by
 intro bo s i H xs us Q I r h;obtain⟨p,ys,rfl,h⟩:=h;obtain⟨u,rfl,j⟩:=zir r
 cases j;rcases h with⟨c,q⟩ | ⟨c,q⟩
 ·obtain⟨its,d,pl,hz⟩:=I.list c;have hlen:=d.length;refine call_tuple_list pl.isList (λh' kp=>?_) (by simp only[List.size_toArray] <;> lia);have f:Inv X bo i H { s with heap:=h' }:=I.kept (t':=s.toks) kp;have m:Inv X bo i (upd H h'.objs.size (.tup ys)) { s with heap:=h'.push { cls:=.type "tuple",data:=.seq its.toArray } }:=
   f.laid (t':=s.toks) (λb o e=>Ye _ e) (Yi _) (show ObjOk X.prog X.w _ _ _ (.tup ys) from⟨hz,its,d,IsTup.new _ _⟩)
  exact⟨.ref h'.objs.size,_,m,Z,q _ (f.hok.fresh (Yi _))⟩
 ·obtain⟨its,d,pl,hz⟩:=I.tuple c;exact call_tuple_same pl ⟨.ref p,H,I,Z,q⟩
def tyV(K:Li)(T:String)(x:V)(H:Hp):Prop:=match x with
 | .str _=>T = "str"
 | .int _=>T = "int"
 | .ref p=>(T = "list"/\∃xs,SqL K H p xs)\/(T = "tuple"/\∃o,K.lookup p=some o/\o.cls=.type "tuple"/\o.dict=none) \/
   (T = "dict"/\((∃cr,H p=some (.dK cr))\/∃cr,H p=some (.dT cr)))\/(T = "set"/\∃S n,H p=some (.set S n))
 | _=>False
def zta{l:St}(I:Inv X bo l H s)(r:RelV x v)(f:tyV X.K T x H) :
  s.TypeIs v T/\∀a,v=.ref a->∃ob,s.heap.get? a=some ob/\ob.dict=none:=by
 cases x with
 | str z=>
  obtain⟨t,rfl⟩:=r
  cases (show T = "str" from f);exact⟨typeIs_str s z t,λ_ e=>nomatch e⟩
 | int i=>
  obtain⟨t,rfl⟩:=r
  cases (show T = "int" from f);exact⟨typeIs_int s i t,λ_ e=>nomatch e⟩
 | ref p=>
  cases r;rcases f with⟨rfl,xs,m⟩ | ⟨rfl,o,d,j,hd⟩ | ⟨rfl,d⟩ | ⟨rfl,S,n,d⟩
  ·obtain⟨its,_,pl,_⟩:=I.list m;refine⟨pl.isList.typeIs,λa e=>?_⟩
   cases e;obtain⟨o,n,e,c,hd,_⟩:=pl;exact⟨o,e,hd⟩
  ·refine⟨⟨o,I.kIn p o d,j⟩,λa e=>?_⟩
   cases e;exact⟨o,I.kIn _ o d,hd⟩
  ·have z:∃o,s.heap.get? p=some o/\o.ExactDict:=by
    rcases d with⟨cr,d⟩ | ⟨cr,d⟩
    ·obtain⟨_,_,_,_,o,_,_,e,ex,_⟩:=I.hok p _ d;exact⟨o,e,ex⟩
    ·obtain⟨_,_,_,_,o,_,_,e,ex,_⟩:=I.hok p _ d;exact⟨o,e,ex⟩
   obtain⟨o,e,ex⟩:=z;refine⟨⟨o,e,ex.1⟩,λa h=>?_⟩
   cases h;exact⟨o,e,ex.2.1⟩
  ·obtain⟨o,_,_,_,e,ex,_⟩:=I.hok p _ d;refine⟨⟨o,e,ex.1⟩,λa h=>?_⟩
   cases h;exact⟨o,e,ex.2.1⟩
 | _=>exact Je f
def tBM0(K:Li)(T:String)(r:V->Lf->Hp->VK->Prop)(to:TE):TE:=λσ H Q=>to σ H λx H1=>tyV K T x H1/\r x [] H1 Q
def tBM(K:Li)(T:String)(r:V->Lf->Hp->VK->Prop)(to:TE)(t:TA):TE:=λσ H Q=>to σ H λx H1=>tyV K T x H1/\t σ H1 λxs H2=>r x xs H2 Q
variable{o e:Ln}{es:List Ln}{to:TE}{t:TA}{name:Lp}{apos cpos:Pos}{T id:String}{r:V->Lf->Hp->VK->Prop}
def zvx(pa:PlainAttrs T)(f:Slot T name id)(i:typeOf (.builtin id)=pure (.type "method_descriptor"))(w:MtR X id r)(A:PE X o to)
  (c:attributeBase o name X.env (eval o X.env)=eval o X.env:=by rfl) (d:(apos.endLine == cpos.line)=true:=by rfl):PE X (.Call (.Attribute o name apos) [] [] cpos) (tBM0 X.K T r to):=by
 intro bo s m H Q I h;refine wpAny_Call_method0_late c d (thn (A s m H _ I h) λv z ⟨x,H1,j,l,q,p⟩=>?_);obtain⟨n,y⟩:=zta j l q;exact⟨T,id,pa,f,i,n,y,Calls.callWith_builtin rfl (PySem.evalArgs_none (w bo z m H1 x [] v [] Q j l .nil p))⟩
def zkj(pa:PlainAttrs T)(i:Slot T name id)(n:typeOf (.builtin id)=pure (.type "method_descriptor"))(A:MtR X id r)(E:PE X o to)(y:PA X (e::es) t)
  (d:attributeBase o name X.env (eval o X.env)=eval o X.env:=by rfl)
  (j:((backTo cpos (starEach (e::es) X.env)).all (λx => !x.1)&&(backToKw cpos (keywordEach [] X.env)).all (λx=>x.1.isSome)
   && decide ((e::es).length+([]:List Keyword).length+(if ([]:List Keyword).isEmpty then 0 else 1)<30))=true:=by rfl)
  (f:(apos.endLine == cpos.line)=true:=by rfl) (N:starEach (e::es) X.env=(false,eval e X.env)::starEach es X.env:=by rfl) (c:(backTo cpos (starEach es X.env)).any (·.1)=false:=by rfl) :
  PE X (.Call (.Attribute o name apos) (e::es) [] cpos) (tBM X.K T r to t):=by
 intro bo s l H Q I h;refine wpAny_Call_method_late d j f rfl (thn (E s l H _ I h) λv J ⟨x,H1,p,q,z,D⟩=>?_);obtain⟨C,B⟩:=zta p q z;refine⟨T,id,pa,i,n,C,B,?_⟩;have w := @y cpos bo J l H1 _ p D;rw[N]at w ⊢;refine Calls.callWith_builtin (by show (false||(backTo cpos (starEach es X.env)).any (·.1))=false;rw[c] <;> rfl) (Calls.evalArgs_plain ?_);exact thn w λus O ⟨vs,M,P,L,G⟩=>A bo O l M x vs v us Q P q L G
/- xs.append(e),list.index on a module's tuple .. are MtR facts of 06m -/
end
def MtM(X:Cx)(id:String)(r:V->Lf->Hp->VK->Prop):Prop:=
 ∀bo s (σ:St) H x xs v us Q,Inv X bo σ H s->RelV x v->Vals xs us->r x xs H Q ->
  wpAny (model X.prog X.w) X.A (call (.builtin id) (v::us)) (EP X bo σ Q) X.xe s
theorem Vals.one:∀{x} {us},Vals [x] us->∃u,us=[u]/\RelV x u
 | _,_,.cons r .nil=>⟨_,rfl,r⟩
theorem Vals.two:∀{x y} {us},Vals [x,y] us->∃u v,us=[u,v]/\RelV x u/\RelV y v:=λh=>by
 cases h with | cons r h=>cases h with | cons q h=>cases h;exact⟨_,_,rfl,r,q⟩
theorem Vals.zero:∀{us},Vals [] us->us=[]
 | _,.nil=>rfl
def Vals.dropLast(h:Vals xs us):Vals xs.dropLast us.dropLast:=by
 induction h with
 | nil=>exact .nil
 | cons r t ih=>
  cases t with
  | nil=>exact .nil
  | cons q t'=>exact .cons r ih
def zmo{α:Type}(l:List α):l.eraseIdx (l.length-1)=l.dropLast:=by
 induction l with
 | nil=>rfl
 | cons a r ih=>
  cases r with
  | nil=>rfl
  | cons b r=>
   have e:(a::b::r).length-1=((b::r).length-1)+1:=by
    have h1:(a::b::r).length=r.length+2:=rfl;have h2:(b::r).length=r.length+1:=rfl;lia
   rw[e,List.eraseIdx_cons_succ,ih]
   all_goals rfl
section
variable{X:Cx}{bo:La}{σ:St}{H:Hp}{s:Lj}{l b:Lg}{xs ys zs:Lf}
def Inv.lset{its its':List Lh}(I:Inv X bo σ H s)(d:H l=some (.lst xs))
  (e:s.heap.get? l=some { cls:=.type "list",data:=.seq its.toArray n }) (a:f its.toArray=its'.toArray) (hv:Vals ys its') (hz:ys.length<=sizeLine) :
  Inv X bo σ (upd H l (.lst ys)) { s with heap:=s.heap.update l (Obj.mapSeq f),toks:=t' }:=by
 have q:=PySem.IsL.update e f;rw[a]at q;refine I.write (x:=l) (e:=l) (by rw[d];exact trivial) (.inl rfl) (λb' u c h=>(Heap.get?_update_other s.heap (Obj.mapSeq f) (Jb c)).trans h) ⟨_,q⟩ ?_;exact⟨hz,its',_,hv,q⟩
def Inv.lnew(I:Inv X bo σ H s)(hv:Vals ys its)(hz:ys.length<=sizeLine) :
  Inv X bo σ (upd H s.heap.objs.size (.lst ys)) { s with heap:=s.heap.push { cls:=.type "list",data:=.seq its.toArray },toks:=t' }:=
 I.laid (λ_ _ q=>Ye _ q) (Yi _) ⟨hz,its,0,hv,Yk _ rfl⟩
def Inv.fresh(I:Inv X bo σ H s):H s.heap.objs.size=none:=I.hok.fresh (Yi _)
def Inv.lstM(I:Inv X bo σ H s)(a:H l=some (.lst xs)):xs.length<=sizeLine/\∃its n,Vals xs its/\xs.length=its.length/\s.heap.get? l=some { cls:=.type "list",data:=.seq its.toArray n }:=by
 obtain⟨z,its,n,r,e⟩:=I.hok l _ a;exact⟨z,its,n,r,r.length,e⟩
end
section
variable{X:Cx}
inductive rAppend(x:V)(vs:Lf)(H:Hp)(Q:VK):Prop
 | mk (l xs y) (_:x=.ref l) (_:vs=[y]) (_:H l=some (.lst xs)) (_:xs.length<sizeLine) (_:Q .non (upd H l (.lst (xs++[y]))))
def zdf:MtM X "list.append" rAppend:=by
 intro bo s σ H x vs v us Q I b c h;obtain⟨l,xs,y,rfl,rfl,a,hz,q⟩:=h
 cases b;obtain⟨u,rfl,d⟩:=c.one;obtain⟨z,its,n,r,hl,e⟩:=I.lstM a;refine call_meets F.slot_list_append ⟨_,e,Z⟩ F.entry_list_append (F.args_list_append_2 _ _) (PySem.list_append l its.toArray n u (by rw[Ys];lia)) ⟨e,?_⟩;refine⟨.non,_,I.lset (its':=its++[u]) a e (by simp) (r.append (.cons d .nil)) ?_,Z,q⟩;rw[Y5,List.length_singleton];lia
def rPop:V->Lf->Hp->VK->Prop:=λx vs H Q=>∃l xs y,x=.ref l/\vs=[]/\H l=some (.lst xs)/\xs[xs.length-1]? = some y/\Q y (upd H l (.lst xs.dropLast))
def zyo:MtM X "list.pop" rPop:=by
 intro bo s σ H x vs v us Q I i m h;obtain⟨l,xs,y,rfl,rfl,c,d,q⟩:=h
 cases i;have b:=m.zero;subst b;obtain⟨z,its,n,r,o,e⟩:=I.lstM c;obtain⟨u,j,f⟩:=r.get d;have a:its.toArray[its.toArray.size-1]? = some u:=by
  show its.toArray[its.length-1]? = some u;rw[<- Array.getElem?_toList,<- o];exact j
 refine call_meets F.slot_list_pop ⟨_,e,Z⟩ F.entry_list_pop (F.args_list_pop_1 _) (MeetsSeq.list_pop_last l its.toArray n u a (by rw[Ys];lia)) ⟨e,?_⟩;refine⟨y,_,I.lset (its':=its.dropLast) c e ?_ r.dropLast ?_,f,q⟩
 ·show its.toArray.eraseIdxIfInBounds (its.toArray.size-1)=its.dropLast.toArray;rw[Ys,List.eraseIdxIfInBounds_toArray,zmo]
 ·rw[List.length_dropLast];lia
end
end L2
namespace Att
open PySem PySem.W PySem.Calls PyProof.Rows
def zgq:∀c vs,WellAll P h vs (c.map WData.int)->IntsAre vs c:=by
 intro c;induction c with
 | nil=>
  intro vs w;rw[List.map_nil]at w
  cases w;exact .nil
 | cons n c ih=>
  intro vs w;rw[Yz]at w
  cases w with
  | cons a b=>
   cases a;exact .cons _ _ (ih _ b)
def zqk{l:OpenLaw}(z:l.most=some n){P:Params}{h:Lo}{args:List WData}{e:List Lh}
  (c:l.row.toRowW.claim.pre args=true) (m:WellAll P h e args) :
  ∃a vs b,e=[Value.ref a]/\args=[WData.list (b.map WData.int)]/\h.get? a=some { cls:=.type "list",data:=.seq vs.toArray }/\IntsAre vs b/\b.length<=n:=by
 have o:WShape.hasAll [] args [.list .int]=true:=(pre_splitW c).1;have p:l.pre.holds [] { args:=args }=true:=(pre_splitW c).2;obtain⟨d,r,rfl,s,x⟩:=hasAllW_cons o;obtain rfl:=hasAllW_nil x;obtain⟨xs,rfl,y⟩:=hasW_list s;obtain⟨b,rfl⟩:=items_int y;have f:b.length<=n:=by
  unfold OpenLaw.pre at p;have j:(WTm.not (.lt (.lit (.int (n:Int))) (.len (.arg 0)))).holds [] { args:=[.list (b.map .int)] }=true:=by
   have j:=(holds_andW p).1;rw[z]at j;exact j
  have i:=condW_of j (w_not (w_lt w_lit (w_len_list (w_arg rfl))));rw[Yd]at i;refine Nat.le_of_not_lt λq=>?_
  have w:(n:Int)<((b.length:Nat):Int):=by lia
  first
   | (rw[Yo w]at i;exact absurd i (by decide))
   | (simp at i;lia)
 cases m with
 | cons w1 w2=>
  cases w2
  cases w1 with
  | list ho hall=>exact⟨_,_,b,rfl,rfl,ho,zgq b _ hall,f⟩
def zp6(l:OpenLaw)(args:List WData):l.row.toRowW.claim.post args (.bool true) args=true:=
 postW_of (r:=l.row.toRowW) (X:=(true == true))
  (show WShape.has [] (.bool true) .bool=true by first | rfl | decide | simp[WShape.has,WShape.arms,WShape.armsAll])
  (show (WTm.eq .res (.lit (.bool true))).value [] { args:=args,res:=some (.bool true),after:=args }=some (.bool (true == true)) from w_eq_bool (w_res rfl) w_lit) rfl
def attach_call{l:OpenLaw}{n:Nat}{q:Ll}{c:List Lp}{J:Sa->Lo->Prop}{I:Lk->Lo->Prop}{d:DefRec}
  (R:l.most=some n) (B:d.params.defaults=[])
  (call:∀(w:Lk) (e b:Lj) (x A:Sa) (j:Lg) (o:Obj) (D y h:Lh) (a:Lg) (vs:List Lh) (z:Lc),
   Ground q c [] J w e x A b.heap->I w b.heap ->
   b.heap.get? j=some o->o.data=.func (docDef d.name d.params d.body d.scope D y h)->b.heap.CodeRec y d.name->x d.name=some (.ref j) ->
   b.heap.get? a=some { cls:=.type "list",data:=.seq vs.toArray }->IntsAre vs z->z.length<=n->b.gens = #[] ->
   codeAny (model l.prog w) callerA (.call (.ref j) ⟨[.ref a],[]⟩) (λr s'=>r=.ok (.ret (.bool true))/\OldK b.heap s'.heap/\s'.os=b.os/\AllBare s'.gens) b) :
  WalkO q c J I l.row.toRowW d [] (λf vs=>PySem.call f vs):=by
 intro w e b x A G Y j o D y h Q kV S hd E K H hg args vals as s hlay hrd C hlo;obtain rfl:Q=.none:=Dflts.none K B;obtain rfl:kV=.none:=Dflts.noKw K;obtain⟨a,vs,z,rfl,rfl,p,i,m⟩:=zqk R s C;refine enter_call (codeAny_mono (call w e b x A j o D y h a vs z G Y S (fd_plain hd) E H p i m hg) λr s' O=>?_);obtain⟨rfl,N,P,L⟩:=O;exact⟨.inl ⟨.bool true,.bool true,[],rfl,λ_=>rfl,.bool true,zp6 l _,λ_=>⟨List.Pairwise.nil,λ_ M=>(nomatch M)⟩⟩,N,P,L⟩
end Att
namespace L2
open PySem PySem.Spec PyProof.Rows
theorem zi5:∀{vs} {ns},IntsAre vs ns->Vals (ns.map V.int) vs
 | _,_,.nil=>.nil
 | _,_,.cons n t h=>.cons ⟨t,rfl⟩ (zi5 h)
def zbw(s:Lm)(j:Nat):Lm:=match s with
 | .ClassDef _ _ _ body _ _ _ _ _ _ _=>body.getD j (.Pass ⟨0,0,0,0⟩)
 | _=>.Pass ⟨0,0,0,0⟩
def zc6(s:Lm):Arguments:=match s with
 | .FunctionDef _ a _ _ _ _ _ _ _ _=>a
 | _=>{ posonlyargs:=[],args:=[],vararg:=none,kwonlyargs:=[],kw_defaults:=[],kwarg:=none,defaults:=[] }
def zcm(s:Lm):List Lm:=match s with
 | .FunctionDef _ _ b _ _ _ _ _ _ _=>b
 | _=>[]
def za5(s:Lm):Scope:=match s with
 | .FunctionDef _ _ _ _ _ _ sc _ _ _=>sc
 | _=>{ kind:=.function,names:=[],isGenerator:=false,isCoroutine:=false }
abbrev CX0:CXT:=λ_ _ _ _ _ _=>False
abbrev E0:XK:=λ_ _ _=>False
section
variable{X:Cx}
def pv(i:Nat){x:Lp}{b:Pos}(hN:X.N[i]? = some x:=by rfl)(hv:Vis X.env.scope x:=by first | exact Or.inl rfl | exact Or.inr (Or.inl rfl) | exact Or.inr (Or.inr rfl))(hd:(x == ("__debug__" : Lp))=false:=by decide)
  (a:(x == ("__classdict__" : Lp))=false:=by decide):PE X (.Name x b) (tVar i):=zwl hN hv hd a
end
def iteF{A B:Prop}(h:B):if false=true then A else B:=by
 rw[Yh Yt];exact h
def iteT{A B:Prop}(h:A):if true=true then A else B:=by
 rw[Yl rfl];exact h
def Same(H H':Hp):Prop:=∀b o,H b=some o->H' b=some o
def Same.refl(H:Hp):Same H H:=λ_ _ h=>h
def Same.trans(a:Same H H1)(b:Same H1 H2):Same H H2:=λc o h=>b c o (a c o h)
def Same.free(e:Same H H'){l:Lg}(h:H' l=Option.none):H l=Option.none:=by
 cases q:H l with
 | none=>rfl
 | some o=>
  rw[e l o q]at h
  cases h
def Same.seq{K:Li}(e:Same H H')(h:SqL K H a xs):SqL K H' a xs:=by
 rcases h with(h | ⟨o,h⟩) | h
 ·exact .inl (.inl (e _ _ h))
 ·exact .inl (.inr ⟨o,e _ _ h⟩)
 ·exact .inr h
end L2
set_option Elab.async false
/- strict -/
set_option linter.all false
set_option maxRecDepth 100000
namespace L2
open PySem PySem.Spec PyProof.Rows
abbrev kn(b:Bool):String:=if b then "tuple_iterator" else "list_iterator"
def SqAt(b:Bool)(h:Lo)(l:Lg)(items:Array Lh):Prop:=match b with
 | true=>h.IsTuple l items
 | false=>h.IsList l items
def IterAt(b:Bool)(h:Lo)(it l:Lg)(i:Nat):Prop:=match b with
 | true=>h.IsTupleIter it l i
 | false=>h.IsListIter it l i
def SqAt.at(x:SqAt b h l items)(e:∀o,h.get? l=some o->h'.get? l=some o):SqAt b h' l items:=by
 cases b with
 | true=>obtain⟨o,a,r⟩:=x;exact⟨o,e o a,r⟩
 | false=>exact Heap.IsList.at x e
def IterAt.obj(x:IterAt b h it l i):∃o,h.get? it=some o/\∀v,o.data≠.cell v:=by
 cases b <;> (obtain⟨o,a,c,d⟩:=x;exact⟨o,a,λv z=>by rw[d]at z;cases z⟩)
def IterAt.at(x:IterAt b h it l i)(e:∀o,h.get? it=some o->h'.get? it=some o):IterAt b h' it l i:=by
 cases b <;> (obtain⟨o,a,r⟩:=x;exact⟨o,e o a,r⟩)
section
variable{prog:Ll}{w:Lk}{A:Around}{E:Va}{s:Lj}
def zi0(a:s.heap.IsTupleIter it t i)(h:s.heap.IsTuple t items)(e:items[i]? = some x)
  (f:∀h',h'.IsTupleIter it t (i+1)->Heap.SameBut it s.heap h'->Q x { s with heap:=h' }):wpAny (model prog w) A (Builtin.SmallTypes.nextOf (.ref it)) Q E s:=by
 obtain⟨o,b,j,hd⟩:=id a;obtain⟨ol,c,_,nl,d⟩:=h;unfold Builtin.SmallTypes.nextOf;refine Ya (Ja (name:=Str.ofString "__next__") a.typeIs F.slot_tuple_iterator_next (Y7 F.slot_tuple_iterator_next a.typeIs F.entry_tuple_iterator_next ?_ (F.args_tuple_iterator_next_1 _)));show wpAny _ _ (field (.ref it) 0 >>= _) _ _ s;refine Ya (Jk b hd (x:=.ref t) rfl ?_);show wpAny _ _ (if (Value.ref t == Value.none)=true then _ else _) _ _ s;rw[Yh (by intro z;cases z)];show wpAny _ _ (field (.ref it) 1 >>= _) _ _ s;refine Ya (Jk b hd (x:=.int i 0) rfl ?_);show wpAny _ _ (seqItems? (.ref t) >>= _) _ _ s;refine Ya (Jr c d ?_);simp only[Int.toNat_natCast,e];refine Ya (wpAny_setField b hd (by simp) (Yb ⟨x,Z,Yb (f _ ⟨_,Heap.get?_update_self _ b (Obj.isFreed_of_fields (Obj.data_mapFields hd _)),(Obj.cls_mapFields ..).trans j,?_⟩ (Heap.SameBut.update ..))⟩));rw[Obj.data_mapFields hd];simp[rawInt]
def zka(h:A.handled=none)(b:s.heap.IsTupleIter it t i)(l:s.heap.IsTuple t items)(j:items[i]? = none)
  (n:∀h' e,Heap.ExtBut it s.heap h'->(∃o,h'.get? e=some o/\o.cls=.type "StopIteration")->E (.ref e) { s with heap:=h' }):wpAny (model prog w) A (Builtin.SmallTypes.nextOf (.ref it)) Q E s:=by
 obtain⟨o,f,hc,hd⟩:=id b;obtain⟨ol,d,_,nl,c⟩:=l;unfold Builtin.SmallTypes.nextOf;refine Ya (Ja (name:=Str.ofString "__next__") b.typeIs F.slot_tuple_iterator_next (Y7 F.slot_tuple_iterator_next b.typeIs F.entry_tuple_iterator_next ?_ (F.args_tuple_iterator_next_1 _)));show wpAny _ _ (field (.ref it) 0 >>= _) _ _ s;refine Ya (Jk f hd (x:=.ref t) rfl ?_);show wpAny _ _ (if (Value.ref t == Value.none)=true then _ else _) _ _ s;rw[Yh (by intro z;cases z)];show wpAny _ _ (field (.ref it) 1 >>= _) _ _ s;refine Ya (Jk f hd (x:=.int i 0) rfl ?_);show wpAny _ _ (seqItems? (.ref t) >>= _) _ _ s;refine Ya (Jr d c ?_);simp only[Int.toNat_natCast,j];refine Ya (wpAny_rule (Ya (wpAny_setField f hd (by simp) ?_)));show wpAny _ _ (newExc (.type "StopIteration") [] >>= _) _ _ _;refine Ya ?_;simp only[newExc,newTuple];refine Ya (Jn ?_ (by size_fits));refine Ya (m:=firstArgMember _ _) (wpAny_of_eq (a:=Value.none) (by first | rfl | (simp only[firstArgMember];rfl)) ?_);refine Jn ?_ (by size_fits);simp only[raiseNew];refine Ya (wpAny_handled ?_)
 first | rw[show A.in1.handled=none from h] | rw[h]
 refine Ya (Yb (wpAny_throw ?_));exact n _ _ (((Heap.SameBut.update ..).extBut.push _).push _) ⟨_,Yk _ rfl,Z⟩
def zgw(a:IterAt b s.heap it l i)(c:SqAt b s.heap l items)(d:items[i]? = some x)
  (e:∀h',IterAt b h' it l (i+1)->Heap.SameBut it s.heap h'->Q x { s with heap:=h' }):wpAny (model prog w) A (Builtin.SmallTypes.nextOf (.ref it)) Q E s:=by
 cases b with
 | true=>exact zi0 a c d e
 | false=>exact wpAny_nextOf_list_item a c d e
def zmg(d:A.handled=none)(a:IterAt b s.heap it l i)(f:SqAt b s.heap l items)(c:items[i]? = none)
  (h:∀h' e,Heap.ExtBut it s.heap h'->(∃o,h'.get? e=some o/\o.cls=.type "StopIteration")->E (.ref e) { s with heap:=h' }):wpAny (model prog w) A (Builtin.SmallTypes.nextOf (.ref it)) Q E s:=by
 cases b with
 | true=>exact zka d a f c h
 | false=>exact wpAny_nextOf_list_end d a f c h
def zn6(a:SqAt b s.heap l items)
  (c:Q (.ref s.heap.objs.size) { s with heap:=s.heap.push { cls:=.type (kn b),data:=.fields #[.ref l,.int 0 0] } }):wpAny (model prog w) A (pyIter (.ref l)) Q E s:=by
 cases b with
 | true=>exact wpAny_pyIter_tuple a c
 | false=>exact wpAny_pyIter_list a c
structure ZSt(b1 b2:Bool)(z TI TO i1 i2 l1 l2:Lg)(f0:Lh)(k:Nat)(h:Lo):Prop where
 zip:IsZip h z TI TO f0
 ti:IsPair h TI (.ref i1) (.ref i2)
 to:∃a b,IsPair h TO a b
 it1:IterAt b1 h i1 l1 k
 it2:IterAt b2 h i2 l2 k
def ZSt.at{z TI TO d c i f:Lg}(x:ZSt b1 b2 z TI TO d c i f f0 k h)(e:∀b∈[z,TI,TO,d,c],∀o,h.get? b=some o->h'.get? b=some o) :
  ZSt b1 b2 z TI TO d c i f f0 k h':=
 ⟨e z (by simp) _ x.zip,e TI (by simp) _ x.ti,let ⟨a,b,q⟩:=x.to;⟨a,b,e TO (by simp) _ q⟩,x.it1.at λo q=>e d (by simp) o q,x.it2.at λo q=>e c (by simp) o q⟩
def zqz{z TI TO f h l j:Lg}{Q:Va}(D:ZipApart z TI TO f h l j)(S:ZSt b1 b2 z TI TO f h l j .none k s.heap)
  (P:SqAt b1 s.heap l xs) (L:SqAt b2 s.heap j ys) (hx:xs[k]? = some x) (hy:ys[k]? = some y)
  (hQ:∀h',ZSt b1 b2 z TI TO f h l j (rawInt s.heap.objs.size) (k+1) h'->IsPair h' s.heap.objs.size x y->h'.objs.size=s.heap.objs.size+1 ->
   (∀c o,c≠z->c≠TO->c≠f->c≠h->s.heap.get? c=some o->h'.get? c=some o)->Q (.ref s.heap.objs.size) { s with heap:=h' }) :
  wpAny (model prog w) A (Builtin.«zip.__next__» ⟨[.ref z],[]⟩) (λfin s'=>∃v,fin=.done (.ret v)/\Q v s') E s:=by
 obtain⟨hz,n,⟨a,b,W⟩,h1,h2⟩:=S;show wpAny _ _ (field (.ref z) 2 >>= _) _ _ _;refine Ya (Jk hz rfl (x:=.bool false) rfl ?_);show wpAny _ _ (field (.ref z) 3 >>= _) _ _ _;refine Ya (Jk hz rfl (x:=.ref TI) rfl (Ya (Jr n rfl ?_)));show wpAny _ _ (Builtin.SmallTypes.ownedTupleIsFree (.ref z) >>= _) _ _ _;refine Ya ?_;unfold Builtin.SmallTypes.ownedTupleIsFree;refine Ya (Jk hz rfl (x:=.none) rfl (Yb ?_));simp only[if_true];refine Ya (wpAny_rule (Ya (Jk hz rfl (x:=.ref TO) rfl ?_)));refine Ya (Jo hz (by simp) λg1 U e1=>?_);replace U:IsZip g1 z TI TO .ellipsis:=U;refine Ya ?_;simp only[List.zipIdx_cons,List.zipIdx_nil,List.forIn_cons,List.forIn_nil];refine Ya (Ya (wpAny_onRaise ?_));show wpAny _ _ (Builtin.SmallTypes.nextOf (.ref f) >>= _) _ _ _;have J:∀c o,c≠z->s.heap.get? c=some o->g1.get? c=some o:=λc o B e=>e1.extBut c o B e
 refine Ya (zgw (s:={ s with heap:=g1 }) (h1.at λo q=>J f o D.i1z q) (P.at λo q=>J l o D.l1z q) hx λg2 t2 O=>Yb ?_);have k2:∀c o,c≠z->c≠f->s.heap.get? c=some o->g2.get? c=some o:=λc o B hd e=>O.extBut c o hd (J c o B e)
 have p2:IsPair g2 TO a b:=k2 TO _ D.TOz D.TOi1 W;refine Ya (Jr p2 rfl (Ya (wpAny_updateSeq_pair p2 λX T H=>?_)));replace T:IsPair X TO x b:=T;refine Ya (wpAny_letGo (Yb ?_));refine Ya (Ya (wpAny_onRaise ?_));show wpAny _ _ (Builtin.SmallTypes.nextOf (.ref h) >>= _) _ _ _;have k3:∀c o,c≠z->c≠f->c≠TO->s.heap.get? c=some o->X.get? c=some o:=λc o B hd he e=>H.extBut c o he (k2 c o B hd e)
 refine Ya (zgw (s:={ s with heap:=X }) (h2.at λo q=>k3 h o D.i2z D.i12.symm D.TOi2.symm q) (L.at λo q=>k3 j o D.l2z D.l2i1 D.l2TO q) hy λg4 t4 m=>Yb ?_);have p4:IsPair g4 TO x b:=m.extBut _ _ D.TOi2 T;refine Ya (Jr p4 rfl (Ya (wpAny_updateSeq_pair p4 λd C p=>?_)));replace C:IsPair d TO x y:=C;refine Ya (wpAny_letGo (Yb (Yb ?_)));refine Ya (Jr C rfl (Ya (wpAny_newTuple ?_)));have sz:d.objs.size=s.heap.objs.size:=by rw[p.1,m.1,H.1,O.1,e1.1]
 have z5:IsZip d z TI TO .ellipsis:=p.extBut _ _ D.TOz.symm (m.extBut _ _ D.i2z.symm (H.extBut _ _ D.TOz.symm (O.extBut _ _ D.i1z.symm U)));have k5:∀c o,c≠z->c≠TO->c≠f->c≠h->s.heap.get? c=some o->d.get? c=some o:=λc o i I M R e=>p.extBut _ _ I (m.extBut _ _ R (k3 c o i M I e))
 have t5:IterAt b1 d f l (k+1):=t2.at λo q=>p.extBut _ _ D.TOi1.symm (m.extBut _ _ D.i12 (H.extBut _ _ D.TOi1.symm q))
 have u5:IterAt b2 d h j (k+1):=t4.at λo q=>p.extBut _ _ D.TOi2.symm q
 have zlt:z<d.objs.size:=Yn z5;show wpAny _ _ (Builtin.SmallTypes.ownedTupleHandOut (.ref z) (.ref d.objs.size) >>= _) _ _ _;refine Ya ?_;unfold Builtin.SmallTypes.ownedTupleHandOut;have z6:IsZip (d.push { cls:=.type "tuple",data:=.seq #[x,y] }) z TI TO .ellipsis:=Ye _ z5;refine Ya (Jo z6 (by simp) λg7 K N=>?_);replace K:IsZip g7 z TI TO (rawInt d.objs.size):=K;refine Jo K (by simp) λr G Y=>?_
 replace G:IsZip r z TI TO (rawInt d.objs.size):=G;have up:∀c o,c≠z->d.get? c=some o->r.get? c=some o:=λc o i e=>Y.extBut _ _ i (N.extBut _ _ i (Ye _ e))
 have p8:IsPair r d.objs.size x y:=Y.extBut _ _ (Nat.ne_of_gt zlt) (N.extBut _ _ (Nat.ne_of_gt zlt) (Yk _ rfl));have s8:r.objs.size=d.objs.size+1:=by rw[Y.1,N.1,Heap.size_push]
 rw[sz]at G p8 s8;refine Yb ⟨_,Z,?_⟩;show Q (.ref d.objs.size) _;rw[sz];exact hQ r ⟨G,up _ _ D.TIz (k5 TI _ D.TIz D.TITO D.TIi1 D.TIi2 n),⟨_,_,up _ _ D.TOz C⟩,t5.at λo q=>up _ o D.i1z q,u5.at λo q=>up _ o D.i2z q⟩ p8 s8 λc o i I M R e=>up c o i (k5 c o i I M R e)
def ztw{z TI TO h p y I:Lg}(X:A.handled=none)(D:ZipApart z TI TO h p y I)(S:ZSt b1 b2 z TI TO h p y I .none k s.heap)
  (B:SqAt b1 s.heap y xs) (L:SqAt b2 s.heap I ys) (l:xs[k]? = none\/ys[k]? = none)
  (Y:∀h' e,(∀c o,c≠z->c≠TO->c≠h->c≠p->s.heap.get? c=some o->h'.get? c=some o)->(∃o,h'.get? e=some o/\o.cls=.type "StopIteration")->E (.ref e) { s with heap:=h' }) :
  wpAny (model prog w) A (Builtin.«zip.__next__» ⟨[.ref z],[]⟩) Q E s:=by
 obtain⟨hz,P,⟨a,b,O⟩,h1,h2⟩:=S;show wpAny _ _ (field (.ref z) 2 >>= _) _ _ _;refine Ya (Jk hz rfl (x:=.bool false) rfl ?_);show wpAny _ _ (field (.ref z) 3 >>= _) _ _ _;refine Ya (Jk hz rfl (x:=.ref TI) rfl (Ya (Jr P rfl ?_)));show wpAny _ _ (Builtin.SmallTypes.ownedTupleIsFree (.ref z) >>= _) _ _ _;refine Ya ?_;unfold Builtin.SmallTypes.ownedTupleIsFree;refine Ya (Jk hz rfl (x:=.none) rfl (Yb ?_));simp only[if_true];refine Ya (wpAny_rule (Ya (Jk hz rfl (x:=.ref TO) rfl ?_)));refine Ya (Jo hz (by simp) λK G e1=>?_);replace G:IsZip K z TI TO .ellipsis:=G;refine Ya ?_;simp only[List.zipIdx_cons,List.zipIdx_nil,List.forIn_cons,List.forIn_nil];refine Ya (Ya (wpAny_onRaise ?_));show wpAny _ _ (Builtin.SmallTypes.nextOf (.ref h) >>= _) _ _ _;have i:∀c o,c≠z->s.heap.get? c=some o->K.get? c=some o:=λc o C e=>e1.extBut c o C e
 cases hx:xs[k]? with
 | none=>
  refine Ya (zmg (s:={ s with heap:=K }) X (h1.at λo q=>i h o D.i1z q) (B.at λo q=>i y o D.l1z q) hx λH e r n=>?_);obtain⟨N,d,f⟩:=n;have z2:IsZip H z TI TO .ellipsis:=r _ _ D.i1z.symm G;have R:e≠z:=λq=>by subst q;rw[z2]at d;cases d;simp at f
  exact Jo z2 (by simp) λJ _ j=>Y J e (λc o m _ M _ q=>j.extBut _ _ m (r _ _ M (i c o m q))) ⟨N,j.extBut _ _ R d,f⟩
 | some x=>
  have hy:ys[k]? = none:=by
   rcases l with q | q
   ·rw[hx]at q;cases q
   ·exact q
  refine Ya (zgw (s:={ s with heap:=K }) (h1.at λo q=>i h o D.i1z q) (B.at λo q=>i y o D.l1z q) hx λH t2 r=>Yb ?_);have k2:∀c o,c≠z->c≠h->s.heap.get? c=some o->H.get? c=some o:=λc o C hd e=>r.extBut c o hd (i c o C e)
  have p2:IsPair H TO a b:=k2 TO _ D.TOz D.TOi1 O;refine Ya (Jr p2 rfl (Ya (wpAny_updateSeq_pair p2 λJ p3 j=>?_)));refine Ya (wpAny_letGo (Yb ?_));refine Ya (Ya (wpAny_onRaise ?_));show wpAny _ _ (Builtin.SmallTypes.nextOf (.ref p) >>= _) _ _ _;have T:∀c o,c≠z->c≠h->c≠TO->s.heap.get? c=some o->J.get? c=some o:=λc o C hd n e=>j.extBut c o n (k2 c o C hd e)
  refine Ya (zmg (s:={ s with heap:=J }) X (h2.at λo q=>T p o D.i2z D.i12.symm D.TOi2.symm q) (L.at λo q=>T I o D.l2z D.l2i1 D.l2TO q) hy λg4 e U n=>?_);obtain⟨N,d,f⟩:=n;have W:IsZip g4 z TI TO .ellipsis:=U _ _ D.i2z.symm (j.extBut _ _ D.TOz.symm (r.extBut _ _ D.i1z.symm G));have R:e≠z:=λq=>by subst q;rw[W]at d;cases d;simp at f
  exact Jo W (by simp) λg5 _ e5=>Y g5 e (λc o m c2 M c4 q=>e5.extBut _ _ m (U _ _ c4 (T c o m M c2 q))) ⟨N,e5.extBut _ _ R d,f⟩
end
abbrev zq1(b1:Bool)(h:Lo)(l1:Lg):Lo:=h.push { cls:=.type (kn b1),data:=.fields #[.ref l1,.int 0 0] }
abbrev zq2(b1 b2:Bool)(h:Lo)(l1 l2:Lg):Lo:=(zq1 b1 h l1).push { cls:=.type (kn b2),data:=.fields #[.ref l2,.int 0 0] }
abbrev zq3(b1 b2:Bool)(h:Lo)(l1 l2:Lg):Lo:=(zq2 b1 b2 h l1 l2).push { cls:=.type "tuple",data:=.seq #[.ref h.objs.size,.ref (zq1 b1 h l1).objs.size] }
abbrev zq4(b1 b2:Bool)(h:Lo)(l1 l2:Lg):Lo:=(zq3 b1 b2 h l1 l2).push { cls:=.type "tuple",data:=.seq #[.none,.none] }
abbrev zq5(b1 b2:Bool)(h:Lo)(l1 l2:Lg):Lo:=(zq4 b1 b2 h l1 l2).push { cls:=.type "zip",data:=.fields #[.none,.bool false,.bool false,.ref (zq2 b1 b2 h l1 l2).objs.size,.ref (zq3 b1 b2 h l1 l2).objs.size] }
def zqy(b1 b2:Bool)(a b:Lg)(xs ys:Array Lh):Meets (Builtin.«zip.__new__» ⟨[.type "zip",.ref a,.ref b],[]⟩) (λ_ R s=>SqAt b1 s.heap a xs/\SqAt b2 s.heap b ys /\
   R (.ok (.ret (.ref (zq4 b1 b2 s.heap a b).objs.size))) { s with heap:=zq5 b1 b2 s.heap a b }):=
 .of_wp λprog w A R s h=>by
  obtain⟨j,g,d,tk,i⟩:=s;obtain⟨f,c,h⟩:=h;have hsub:=sub_zip;have l:SqAt b1 (Shared.heap ⟨j,g,d,tk,i⟩) a xs:=f;have m:SqAt b2 (Shared.heap ⟨j.push { cls:=.type (kn b1),data:=.fields #[.ref a,.int 0 0] },g,d,tk,i⟩) b ys:=SqAt.at c λo e=>Ye _ e
  wp_walk using zn6 l,zn6 m
  exact⟨_,Z,h⟩
def zre{s:Lj}(m:SqAt b1 s.heap l1 xs)(j:SqAt b2 s.heap l2 ys)
  (h:∀h',ZSt b1 b2 (s.heap.objs.size+4) (s.heap.objs.size+2) (s.heap.objs.size+3) s.heap.objs.size (s.heap.objs.size+1) l1 l2 .none 0 h'->(∀c o,s.heap.get? c=some o->h'.get? c=some o)->h'.objs.size=s.heap.objs.size+5 ->
   Q (.ref (s.heap.objs.size+4)) { s with heap:=h' }):wpAny (model prog w) A (call (.type "zip") [.ref l1,.ref l2]) Q E s:=by
 refine callType_new F.called_zip (by decide) (F.typeCall_zip_2 _ _) (F.newCall_zip_2 _ _) (λobj=>F.args_object_init_3 obj _ _) F.entry_zip_new (zqy b1 b2 l1 l2 xs ys) ⟨m,j,?_⟩;have i:(zq1 b1 s.heap l1).objs.size=s.heap.objs.size+1:=Heap.size_push ..;have l:(zq2 b1 b2 s.heap l1 l2).objs.size=s.heap.objs.size+2:=by rw[Heap.size_push,i]
 have b:(zq3 b1 b2 s.heap l1 l2).objs.size=s.heap.objs.size+3:=by rw[Heap.size_push,l]
 have f:(zq4 b1 b2 s.heap l1 l2).objs.size=s.heap.objs.size+4:=by rw[Heap.size_push,b]
 have r:(zq5 b1 b2 s.heap l1 l2).objs.size=s.heap.objs.size+5:=by rw[Heap.size_push,f]
 have a:∀{h:Lo} {o:Obj} {c:Lg} {u:Obj},h.get? c=some u->(h.push o).get? c=some u:=λe=>Ye _ e
 have d:(zq5 b1 b2 s.heap l1 l2).get? (zq4 b1 b2 s.heap l1 l2).objs.size=some _:=Yk _ rfl;have q:(zq5 b1 b2 s.heap l1 l2).get? (zq3 b1 b2 s.heap l1 l2).objs.size=some _:=a (Yk _ rfl);have p:(zq5 b1 b2 s.heap l1 l2).get? (zq2 b1 b2 s.heap l1 l2).objs.size=some _:=a (a (Yk _ rfl));have n:(zq5 b1 b2 s.heap l1 l2).get? (zq1 b1 s.heap l1).objs.size=some _:=a (a (a (Yk _ rfl)));have y:(zq5 b1 b2 s.heap l1 l2).get? s.heap.objs.size=some _:=a (a (a (a (Yk _ rfl))));show _/\_;rw[l,b,f]at d;rw[i,l]at p;rw[b]at q;rw[i]at n;rw[f];refine⟨⟨_,d,Z⟩,h _ ⟨d,p,⟨_,_,q⟩,?_,?_⟩ (λc o x=>a (a (a (a (a x))))) r⟩
 ·cases b1 <;> exact⟨_,y,Z,Z⟩
 ·cases b2 <;> exact⟨_,n,Z,Z⟩
def zge{z TI TO e a d b:Lg}(D:ZipApart z TI TO e a d b)
  (S:ZSt b1 b2 z TI TO e a d b .none k s.heap) (h:SqAt b1 s.heap d xs) (f:SqAt b2 s.heap b ys) (j:xs[k]? = some x) (l:ys[k]? = some y)
  (p:∀h',ZSt b1 b2 z TI TO e a d b (rawInt s.heap.objs.size) (k+1) h'->IsPair h' s.heap.objs.size x y->h'.objs.size=s.heap.objs.size+1 ->
   (∀c o,c≠z->c≠TO->c≠e->c≠a->s.heap.get? c=some o->h'.get? c=some o)->Q (some (.ref s.heap.objs.size)) { s with heap:=h' }):wpAny (model prog w) A (pyNext (.ref z)) Q E s:=by
 have i:s.TypeIs (.ref z) "zip":=⟨_,S.zip,Z⟩;unfold pyNext;refine Ya (wpAny_attempt (Ja (name:=Str.ofString "__next__") i F.slot_zip_next (Y7 F.slot_zip_next i F.entry_zip_next ?_ (F.args_zip_next_1 _))));exact zqz D S h f j l λh' q m r n=>Yb (p h' q m r n)
def zhh{z TI TO l d i h:Lg}(r:A.handled=none)(D:ZipApart z TI TO l d i h)
  (S:ZSt b1 b2 z TI TO l d i h .none k s.heap) (j:SqAt b1 s.heap i xs) (f:SqAt b2 s.heap h ys) (a:xs[k]? = none\/ys[k]? = none)
  (q:∀h',(∀c o,c≠z->c≠TO->c≠l->c≠d->s.heap.get? c=some o->h'.get? c=some o)->Q none { s with heap:=h' }):wpAny (model prog w) A (pyNext (.ref z)) Q E s:=by
 have m:s.TypeIs (.ref z) "zip":=⟨_,S.zip,Z⟩;unfold pyNext;refine Ya (wpAny_attempt (Ja (name:=Str.ofString "__next__") m F.slot_zip_next (Y7 F.slot_zip_next m F.entry_zip_next ?_ (F.args_zip_next_1 _))));refine ztw r D S j f a λh' e n ⟨o,x,p⟩=>?_
 exact Ya (wpAny_isInstance (T:="StopIteration") (b:=true) ⟨o,x,p⟩ isSubtype_stop (Yb (q _ n)))
section
variable{prog:Ll}{w:Lk}{A:Around}{R:Result->Lj->Prop}{s:Lj}
abbrev E00:Va:=λ_ _=>False
abbrev zvv(ifs:List Ln)(env:Env):Sem Bool:=
 forIn ifs true λc r=>if r=true then do
   let ok <- isTrue c env (eval c env)
   pure (ForInStep.yield ok)
  else pure (ForInStep.yield r)
def zml(J:Nat->Lj->Prop)
  (turn:∀n s,J n s->wpAny (model prog w) A (pyNext it) (λr c=>match r with
   | none=>R (.ok .next) c
   | some v=>wpAny (model prog w) A (letOwnedTupleGo tg it v) (λ_ l=>wpAny (model prog w) A (assign tg env v) (λ_ i=>
     wpAny (model prog w) A (zvv ifs env) (λok b=>
      if ok=true then
       wpAny (model prog w) A (eval elt env) (λx j=>wpAny (model prog w) A (call (.builtin "list.append") [acc,x]) (λ_ f=>∃m,m<n/\J m f) E00 j) E00 b
      else ∃m,m<n/\J m b) E00 i) E00 l) E00 c) E00 s)
  (n:Nat) (h:J n s):codeAny (model prog w) A (.compLoop (.ListComp elt [⟨tg,iter,ifs,0⟩] scope pos) 0 it acc env) R s:=by
 have a:∀{α:Type} {t:Sem α} {Q : α->Lj->Prop} {E:Va} {s:Lj},wpAny (model prog w) A t Q E00 s->wpAny (model prog w) A t Q E s:=λh=>wpAny_mono h (λ_ _ q=>q) λ_ _ z=>z.elim
 refine codeAny_loop rfl J (λn s B=>?_) n h;show wpAny _ A ((compTurn (.ListComp elt [⟨tg,iter,ifs,0⟩] scope pos) 0 it acc env).onRaise _) _ _ s;refine wpAny_noted ?_;rw[compTurn_list];refine Ya (wpAny_standAt (Ya (thn (a (turn n s B)) λr c d=>?_)))
 cases r with
 | none=>exact Yb d
 | some v=>
  refine Ya (thn (a d) λ_ l p=>?_);refine Ya (thn (a p) λ_ i y=>?_);refine Ya (thn (a y) λok b e=>?_)
  cases ok with
  | false=>exact Yb ⟨rfl,e⟩
  | true=>
   refine Ya (Ya (thn (a e) λx j o=>?_));exact Ya (thn (a o) λ_ f C=>Yb (Yb ⟨Z,C⟩))
end
def blk(X:Cx)(N:List Lp)(scope:Scope)(cl:List (Lp×Lg))(C:Lg)(s:Lj)(H:Hp)(fp:Le):Cx:=
 { X with N:=N,s₀:=s,H₀:=H,env:=compEnvC scope cl C X.env,outer:=X.stack,ex:=fp,fn:=λ_=>false,pn:=[],xe:=λ_ _=>False }
structure Blk(X:Cx)(N:List Lp)(scope:Scope)(cl:List (Lp×Lg))(mp:List (Option Nat)):Prop where
 clos:closureFor scope X.env=pure cl
 cell:∀y∈scope.names,y.2≠.cell
 kind:scope.kind=.function
 nms:∀y∈scope.names,y.2=.local->scope.names.lookup y.1=some .local
 nd:N.Nodup
 sub:∀x c,cl.lookup x=some c->X.env.cells.lookup x=some c
 has:∀x,((relabel scope X.env).names.lookup x=some .cell\/(relabel scope X.env).names.lookup x=some .free)->∃c,cl.lookup x=some c
 len:mp.length=N.length
 map:∀(i j:Nat) (x:Lp),mp[i]? = some (some j)->N[i]? = some x->X.N[j]? = some x/\(X.env.scope.names.lookup x=some .cell\/X.env.scope.names.lookup x=some .free) /\
  ((relabel scope X.env).names.lookup x=some .cell\/(relabel scope X.env).names.lookup x=some .free)
def st0(mp:List (Option Nat))(σ:St):St:=mp.map λo=>match o with
 | some j=>(σ[j]?).getD none
 | none=>none
section
variable{X:Cx}{bo:La}{σ:St}{H:Hp}{s:Lj}{N:List Lp}{scope:Scope}{cl:List (Lp×Lg)}{mp:List (Option Nat)}{fp:Le}
def zuf(B:Blk X N scope cl mp)(I:Inv X bo σ H s)(f:∀b∈fp,FpOk X bo H b)(lt:∀b∈fp,b<s.heap.objs.size){A:Lo}{t':Nat}(K:A.Ns s.heap.objs.size (λ_=>none))
  (k:∀b o,s.heap.get? b=some o->A.get? b=some o):Inv (blk X N scope cl s.heap.objs.size s H fp) [] (st0 mp σ) H { s with heap:=A,toks:=t' }:=by
 have fin:∀b∈fp,b ∉ frs X.stack:=λb w z=>by
  obtain⟨_,J,D,_⟩:=f b w;rcases Yj.mp (I.stkSub b z) with e | e
  ·exact J e
  ·exact D e
 have ok:(blk X N scope cl s.heap.objs.size s H fp).Ok:=by
  refine⟨I.ok.mod,B.kind,I.ok.glob,I.ok.blt,Yi _,λx y c A R=>I.ok.inj x y c (B.sub x c A) (B.sub y c R),λx W=>B.has x W,(λx c P=>nomatch (show false=true from P)),I.ok.hd,I.ok.frames,.inl rfl,λb w=>?_,I.bs,Yr I.ok.bsz I.sz,λb o e w=>?_,fin,I.stack,I.stkFree⟩
  ·obtain⟨f0,J,D,L,O,T⟩:=f b w;exact⟨Y0 (lt b w),λx c e=>O x c (B.sub x c e)⟩
  ·obtain⟨f0,J,D,L,O,T⟩:=f b w;rcases L with z | z
   ·exact I.ok.noex b o e z
   ·exact absurd (Yf (Yn e) (Yr I.ok.bsz z)) (Nat.lt_irrefl _)
 refine⟨ok,Z,I.bare,Un.kept k,⟨_,K,λi x v Q n e3=>?_⟩,λx c e=>?_,I.hok.fresh (Yi _),λx c e=>I.freeC x c (B.sub x c e),λp U=>absurd (show p∈([]:La) from U) (by simp),I.hok.kept k,?_⟩
 ·have E:∃j,mp[i]? = some (some j)/\σ[j]? = some (some v):=by
   unfold st0 at n;rw[Ym]at n
   cases q:mp[i]? with
   | none=>rw[q]at n;cases n
   | some o=>
    rw[q]at n
    cases o with
    | none=>cases n
    | some j=>
     refine⟨j,Z,?_⟩;have a:(σ[j]?).getD none=some v:=Jf n
     cases r : σ[j]? with
     | none=>rw[r]at a;cases a
     | some z=>rw[r]at a;exact Jw some a
  obtain⟨j,hj,hv⟩:=E;obtain⟨hN,h,hi⟩:=B.map i j x hj Q;obtain⟨m,hm,hl⟩:=I.loc;obtain⟨u,r,l⟩:=hl j x v hN hv (h.elim (λz=>.inr (.inl z)) λz=>.inr (.inr z));refine⟨u,r,.inr ⟨hi,?_⟩⟩;rcases l with⟨z,_⟩ | ⟨_,c,Y,z⟩
  ·have M:X.env.scope.names.lookup x=some .local:=z;rcases h with h | h
   ·rw[M]at h;cases h
   ·rw[M]at h;cases h
  ·obtain⟨S,C⟩:=B.has x hi;have q:=B.sub x S C;rw[Y]at q;cases q;obtain⟨o,G,d⟩:=z;exact⟨c,C,o,k c o G,d⟩
 ·obtain⟨v,o,G,d⟩:=I.cell x c (B.sub x c e);exact⟨v,o,k c o G,d⟩
 ·show (st0 mp σ).length=N.length;unfold st0;rw[Yd];exact B.len
def zpc{C:Lg}{m:St}(I:Inv X bo σ H s)(f:∀b∈fp,FpOk X bo H b)(B:s.heap.objs.size<=C)
  (J:Inv (blk X N' scope cl C s H fp) [] m H' s') (i:Heap.SameBut C s'.heap h'):Inv X bo σ H' { s' with heap:=h' }:=by
 have a:Un (frs X.stack) fp H H' s.heap s'.heap:=J.base;have r:∀b o,s.heap.get? b=some o->b≠C:=λb o e=>Y0 (Yf (Yn e) B)
 have u:Un (frs X.stack) fp H H' s.heap h':=by
  refine⟨λb o e n d h=>(i.2 b (r b o e)).trans (a.keep b o e n d h),λb o e n d h=>?_,a.free,λb o e h=>?_,a.tups,a.frzs,a.tbls⟩
  ·obtain⟨y,q⟩:=a.slot b o e n d h;exact⟨y,(i.2 b (r b o e)).trans q⟩
  ·obtain⟨D,q⟩:=a.there b o e h;exact⟨D,(i.2 b (r b o e)).trans q⟩
 have x:H' C=none:=J.free;have p:HOk X.prog X.w H' h':=λb ob e=>by
  have l:HOk X.prog X.w H' s'.heap:=J.hok;refine(l b ob e).stay (λc v j q=>(i.2 c ?_).trans q) (λ_ q=>q) λ_ _ q=>q
  rintro rfl;rcases j with rfl | j
  ·rw[x]at e;cases e
  ·rw[x]at j;cases j
 refine I.call' (s':={ s' with heap:=h' }) (ch:=fp) ?_ u p J.bare λb d=>?_
 ·exact J.os
 ·obtain⟨f0,E,f2,z,G,A⟩:=f b d;exact⟨z,E,G,A⟩
end
def PTs(X:Cx)(ifs:List Ln)(t:TT):Prop:=
 ∀⦃bo:La⦄ (s:Lj) (σ:St) (H:Hp) (Q:Bool->Hp->Prop),Inv X bo σ H s->t σ H Q->wpAny (model X.prog X.w) X.A (zvv ifs X.env) (TP X bo σ Q) X.xe s
def tYes:TT:=λ_ H Q=>Q true H
def zbs:PTs X [] tYes:=λ_ _ _ H _ I h=>Yb ⟨H,I,h⟩
def zki(h:PT X c t):PTs X [c] t:=λbo s a H Q I hw=>wpAny_tests_one (h s a H Q I hw)
@[irreducible] def tComp (mp:List (Option Nat)) (wi:TI) (g:TG) (tc:TT) (te:TE):TE:=λσ H Q=>wi σ H λJ H1=>∀D,H1 D=none->∃W:Nat->Nat->Lf->St->Hp->Prop,
 (∃m,W 0 m [] (st0 mp σ) (upd H1 D (.lst [])))/\∀i m ys σ' H',W i m ys σ' H'->H' D=some (.lst ys) /\
  ((J.stop i H'/\Q (.ref D) H')\/(J.go i H'/\ys.length<sizeLine/\∀x H2,J.yld i H' x H2->g x σ' H2 λσ2 H3=>tc σ2 H3 λb H4=>
   if b=true then te σ2 H4 λv H5=>H5 D=some (.lst ys)/\∃m',m'<m/\W (i+1) m' (ys++[v]) σ2 (upd H5 D (.lst (ys++[v])))
   else ∃m',m'<m/\W (i+1) m' ys σ2 H4))
def CompW(J:It)(D:Lg)(g:TG)(tc:TT)(te:TE)(Qf:Hp->Prop)(W:Nat->Nat->Lf->St->Hp->Prop):Prop:=∀i m ys σ' H',W i m ys σ' H'->H' D=some (.lst ys) /\
  ((J.stop i H'/\Qf H')\/(J.go i H'/\ys.length<sizeLine/\∀x H2,J.yld i H' x H2->g x σ' H2 λσ2 H3=>tc σ2 H3 λb H4=>
   if b=true then te σ2 H4 λv H5=>H5 D=some (.lst ys)/\∃m',m'<m/\W (i+1) m' (ys++[v]) σ2 (upd H5 D (.lst (ys++[v])))
   else ∃m',m'<m/\W (i+1) m' ys σ2 H4))
def zhy{X:Cx}{N:List Lp}{scope:Scope}{cl:List (Lp×Lg)}{mp:List (Option Nat)}{P tg O:Ln}{Q:List Ln}{g:TG}{tc:TT}{te:TE}{a6:Pos}(B:Blk X N scope cl mp)(hc:X.calm=true)
  (hg:∀C s H fp,PG (blk X N scope cl C s H fp) tg g) (ht:∀C s H fp,PTs (blk X N scope cl C s H fp) Q tc) (he:∀C s H fp,PE (blk X N scope cl C s H fp) P te)
  {bo:La} {σ:St} {l:Hp} {s:Lj} {fp:Le} {it D:Lg} {tn:Nat->Lo->Prop} {J:It} {Qf:Hp->Prop} {W:Nat->Nat->Lf->St->Hp->Prop} {m0:Nat} {E:Va} {RR:Lg->Result->Lj->Prop}
  (I:Inv X bo σ l s) (f:∀b∈fp,FpOk X bo l b) (T:Turn X.prog X.w X.K tg J fp it tn) (st:tn 0 s.heap) (w0:W 0 m0 [] (st0 mp σ) l) (turn:CompW J D g tc te Qf W)
  (a9:∀C H' σ' s',s.heap.objs.size<=C->Inv (blk X N scope cl C s l fp) [] σ' H' s'->Qf H'->RR C (.ok .next) s') :
  wpAny (model X.prog X.w) X.A (newFunctionEnv scope X.env.globals cl [] X.env.qual none .none (some X.env)) (λM s4=>
   codeAny (model X.prog X.w) X.A (.compStart (.ListComp P [⟨tg,O,Q,0⟩] scope a6) 0 (.ref it) (.ref D) { M with scope:=relabel scope X.env }) (RR M.locals) s4) E s:=by
 have lt:∀b∈fp,b<s.heap.objs.size:=λb h=>let ⟨o,e,_⟩:=T.obj _ _ st b h;Yn e
 refine wpAny_newFunctionEnv B.cell (by intro y hy;simp at hy) (λh3 b0 b3=>?_) B.kind;have k3:∀b o,s.heap.get? b=some o->h3.get? b=some o:=λb o e=>(b3.2 b (Y0 (Yn e))).trans (Ye _ e)
 have JB:=zuf (t':=s.toks+([]:List (Lp×Lh)).length) B I f lt b0 k3;have a0:tn 0 h3:=T.keep _ _ _ st λb _ o e=>k3 b o e
 have fin:∀b∈fp,b ∉ frs X.stack:=λb h z=>by
  obtain⟨_,f1,f2,_⟩:=f b h;rcases Yj.mp (I.stkSub b z) with e | e
  ·exact f1 e
  ·exact f2 e
 have q:∀{H':Hp},(∀b∈fp,H' b=none)->∀b∈fp,FpOk (blk X N scope cl s.heap.objs.size s l fp) [] H' b:=fun{H'} hn b h=>by
  obtain⟨f0,f1,f2,f3,f4,f5⟩:=f b h;exact⟨hn b h,Y0 (lt b h),fin b h,.inl h,λx c e=>f4 x c (B.sub x c e),λp hp=>absurd (show p∈([]:La) from hp) (by simp)⟩
 have L:codeAny (model X.prog X.w) X.A (.compLoop (.ListComp P [⟨tg,O,Q,0⟩] scope a6) 0 (.ref it) (.ref D) (compEnvC scope cl s.heap.objs.size X.env)) (RR s.heap.objs.size) { s with heap:=h3,toks:=s.toks+([]:List (Lp×Lh)).length }:=by
  refine zml (λn s'=>∃i ys σ' H',Inv (blk X N scope cl s.heap.objs.size s l fp) [] σ' H' s'/\tn i s'.heap/\(∀b∈fp,H' b=none)/\W i n ys σ' H') ?_ m0 ⟨0,[],_,l,JB,a0,λb h=>(f b h).1,w0⟩;rintro n s5 ⟨i,ys,j,H5,I5,a4,a5,w5⟩;obtain⟨hD,tr⟩:=turn i n ys j H5 w5;rcases tr with⟨a3,qn⟩ | ⟨go,hz,step⟩
  ·refine thn (T.done (blk X N scope cl s.heap.objs.size s l fp) rfl rfl rfl hc i [] s5 j H5 E00 I5 (q a5) a4 a3) λr s6 ⟨hr,I6⟩=>?_
   subst hr;exact a9 _ H5 j s6 (Yi _) I6 qn
  ·refine thn (T.item (blk X N scope cl s.heap.objs.size s l fp) rfl rfl rfl hc i [] s5 j H5 E00 I5 (q a5) a4 go) λr s6 ⟨u,hr,h6⟩=>?_
   subst hr;refine thn h6 λ_ s7 ⟨x,H7,I7,r7,y7,R,b2⟩=>?_
   have b5:=I7.pinned (q b2) (T.obj _ _ R);have G:∀{ys':Lf} {a:St} {Y:Hp} {U:Lj} {S:Nat},Inv (blk X N scope cl s.heap.objs.size s l fp) ([]++zje fp s7.heap) a Y U->S<n->W (i+1) S ys' a Y ->
     ∃m,m<n/\∃i ys σ' H',Inv (blk X N scope cl s.heap.objs.size s l fp) [] σ' H' U/\tn i U.heap/\(∀b∈fp,H' b=none)/\W i m ys σ' H':=fun{ys' a Y U S} I8 hm w8=>by
    refine⟨S,hm,i+1,ys',a,Y,I8.unpinned,T.keep _ _ _ R λb h o e=>(I8.pin (b,o) (Yg _ (Yg _ (zdd h e)))).1,λb h=>?_,w8⟩;obtain⟨o,e,d⟩:=T.obj _ _ R b h;exact(I8.pin (b,o) (Yg _ (Yg _ (zdd h e)))).2.1
   refine thn (hg _ _ _ _ s7 j H7 x u _ b5 r7 (step x H7 y7)) λ_ U ⟨a,Y,I8,q8⟩=>?_
   refine thn (ht _ _ _ _ U a Y _ I8 q8) λok s9 ⟨H9,I9,q9⟩=>?_
   cases ok with
   | false=>
    rw[Yh (by decide)]at q9;obtain⟨S,hm,w9⟩:=q9;rw[Yh (by decide)];exact G I9 hm w9
   | true=>
    rw[Yl rfl]at q9;rw[Yl rfl];refine thn (he _ _ _ _ s9 a H9 _ I9 q9) λxv b4 ⟨v,a2,a7,b6,a1,S,hm,w'⟩=>?_
    refine thn (zdf _ b4 a a2 (.ref D) [v] (.ref D) [xv] (λ_ H'=>H'=upd a2 D (.lst (ys++[v]))) a7 rfl (.cons b6 .nil) ⟨D,ys,v,Z,Z,a1,hz,Z⟩) λ_ s11 ⟨_,H11,b1,_,a8⟩=>?_
    subst a8;exact G b1 hm w'
 exact codeAny_compStart_list L (T.self _ 0 _ _ _ a0 L)
def zb5{X:Cx}{N:List Lp}{a:Scope}{cl:List (Lp×Lg)}{mp:List (Option Nat)}{j n c:Ln}{i:List Ln}{z:TI}{g:TG}{E:TT}{D:TE}{p:Pos}(B:Blk X N a cl mp)(hc:X.calm=true)
  (hi:PI X n c z) (hg:∀C s H fp,PG (blk X N a cl C s H fp) n g) (Y:∀C s H fp,PTs (blk X N a cl C s H fp) i E) (he:∀C s H fp,PE (blk X N a cl C s H fp) j D)
  (hs:∀x,foldedSetIterable c X.env x=pure x:=by intro _;rfl):PE X (.ListComp j [⟨n,c,i,0⟩] a p) (tComp mp z g E D):=by
 intro bo s σ H Q I h;unfold tComp at h;rw[eval_ListComp];refine wpAny_comprehension_free (use:=none) (cl:=cl) rfl hs B.clos B.kind B.nms (thn (hi s σ H _ I h) λv s1 h1=>thn h1 λitv w U=>?_);obtain⟨it,fp,tn,J,R,rfl,G,T,d,S,q⟩:=U;have y:∀b∈fp,b<w.heap.objs.size:=λb l=>let ⟨o,e,_⟩:=T.obj _ _ d b l;Yn e
 obtain⟨W,⟨m0,w0⟩,turn⟩:=q _ G.fresh;have A:=G.lnew (ys:=[]) (its:=[]) (t':=w.toks) .nil (Y2 _);have f:∀b∈fp,FpOk X bo (upd R w.heap.objs.size (.lst [])) b:=λb l=>by
  obtain⟨P,r⟩:=S b l;exact⟨by rw[zaf (Y0 (y b l))];exact P,r⟩
 refine Jn (zhy B hc hg Y he A f T (T.keep _ _ _ d λb _ o e=>Ye _ e) w0 turn λC H' σ' s' O K L=>?_);obtain⟨m,M,_⟩:=K.loc;exact⟨m,M,λh' sb=>⟨.ref _,H',zpc A f O K sb,Z,L⟩⟩
def SqX(K:Li)(b:Bool)(H:Hp)(a:Lg)(xs:Lf):Prop:=match b with
 | true=>SqT K H a xs
 | false=>SqL K H a xs
section
variable{X:Cx}{bo:La}{σ:St}{H:Hp}{s:Lj}{b:Bool}{a:Lg}{xs ys:Lf}
def Inv.sq(I:Inv X bo σ H s)(h:SqX X.K b H a xs):∃its,Vals xs its/\SqAt b s.heap a its.toArray:=by
 cases b with
 | true=>obtain⟨its,c,p,_⟩:=I.tuple h;exact⟨its,c,show s.heap.IsTuple a its.toArray from p⟩
 | false=>obtain⟨its,c,p,_⟩:=I.list h;exact⟨its,c,p.isList⟩
def Inv.sq_inj(I:Inv X bo σ H s)(h:SqX X.K b H a xs)(h':SqX X.K b H a ys):xs=ys:=by
 cases b with
 | true=>exact I.tuple_inj h h'
 | false=>exact I.list_inj h h'
def Inv.turnedL{ch:Le}(I:Inv X bo σ H s)(h:∀b∈ch,FpOk X bo H b)(k:∀b o,b ∉ ch->s.heap.get? b=some o->h'.get? b=some o):Inv X bo σ H { s with heap:=h',toks:=t' }:=by
 have f:∀b u,H b=some u->b ∉ ch:=λb u e z=>by have q:=(h b z).1;rw[q]at e;cases e
 refine I.step (g':=s.gens) (d':=s.drawn) (ch:=ch) (λb x=>?_) (λb o _ _ d e _=>k b o d e) (λb o _ _ d e _=>⟨o.slots,k b o d e⟩) (λ_ _ _ _ n=>n)
  (λb o d e=>⟨o,k b o d e⟩) (λ_ _ e=>e) (λ_ _ _ e=>e) (λb ps e=>⟨#[],by rw[e];simp⟩) (λm j=>?_) (λb u e=>?_) I.bare
 ·obtain⟨f0,w,f2,p,B,y⟩:=h b x;exact⟨p,w,B,y⟩
 ·obtain⟨o,A,l,i,r⟩:=j;exact⟨o,A,l,k _ o (λz=>(h _ z).2.1 rfl) i,r⟩
 ·refine(I.hok b u e).stay (λc v d q=>k c v ?_ q) (λ_ q=>q) λ_ _ q=>q
  rcases d with z | z
  ·rw[z];exact f b u e
  ·exact f c _ z
def Inv.drawn{ch:Le}{p:Lg}(I:Inv X bo σ H s)(j:∀b∈ch,FpOk X bo H b)(k:∀b o,b ∉ ch->s.heap.get? b=some o->h'.get? b=some o)(l:s.heap.objs.size<=p)
  (new:ObjOk X.prog X.w (upd H p o) h' p o):Inv X bo σ (upd H p o) { s with heap:=h',toks:=t' }:=by
 have f:∀b u,H b=some u->b ∉ ch:=λb u e z=>by have q:=(j b z).1;rw[q]at e;cases e
 have h:H p=none:=I.hok.fresh l;have x:∀b u,s.heap.get? b=some u->b≠p:=λb u e=>Y0 (Yf (Yn e) l)
 refine I.step (g':=s.gens) (d':=s.drawn) (ch:=ch) (λb i=>?_) (λb o _ _ d e _=>k b o d e) (λb o _ _ d e _=>⟨o.slots,k b o d e⟩) (λb o _ e n=>by rw[zaf (x b o e)];exact n)
  (λb o d e=>⟨o,k b o d e⟩) (λb xs e=>by rw[zaf (zag e h)];exact e) (λb o u e=>by rw[zaf (zag e h)];exact e) (λb ps e=>⟨#[],by rw[zaf (zag e h),e];simp⟩) (λm y=>?_) (λb u e=>?_) I.bare
 ·obtain⟨f0,D,f2,B,E,C⟩:=j b i;exact⟨B,D,E,C⟩
 ·obtain⟨o,G,A,J,r⟩:=y;exact⟨o,G,A,k _ o (λz=>(j _ z).2.1 rfl) J,r⟩
 ·by_cases i:b=p
  ·subst i;rw[zad]at e;cases e;exact new
  ·rw[zaf i]at e;refine(I.hok b u e).stay (λc v d q=>k c v ?_ q) (λc q=>by rw[zaf (zag q h)];exact q) λc xs q=>by rw[zaf (zag q h)];exact q
   rcases d with z | z
   ·rw[z];exact f b u e
   ·exact f c _ z
end
def Itz(K:Li)(b1 b2:Bool)(a1 a2:Lg):It:=
 ⟨λi H=>∃xs ys x y,SqX K b1 H a1 xs/\SqX K b2 H a2 ys/\xs[i]? = some x/\ys[i]? = some y,
  λi H v H'=>∃p x y,H p=none/\v=.ref p/\H'=upd H p (.tup [x,y])/\(∀xs,SqX K b1 H a1 xs->xs[i]? = some x)/\∀ys,SqX K b2 H a2 ys->ys[i]? = some y,
  λi H=>∃xs ys,SqX K b1 H a1 xs/\SqX K b2 H a2 ys/\(xs.length<=i\/ys.length<=i)⟩
def zsj{K:Li}(b1 b2:Bool){z TI TO l j N B:Lg}(D:ZipApart z TI TO l j N B) :
  Turn P w K (.Tuple es ek pos) (Itz K b1 b2 N B) [z,TI,TO,l,j] z (λi h=>ZSt b1 b2 z TI TO l j N B .none i h) where
 mem:=by simp
 obj:=λi h st b c=>by
  simp only[List.mem_cons,List.not_mem_nil,or_false]at c
  rcases c with rfl | rfl | rfl | rfl | rfl
  ·exact⟨_,st.zip,λv q=>by cases q⟩
  ·exact⟨_,st.ti,λv q=>by cases q⟩
  ·obtain⟨a,b,e⟩:=st.to;exact⟨_,e,λv q=>by cases q⟩
  ·exact st.it1.obj
  ·exact st.it2.obj
 keep:=λi h h' st k=>st.at k
 item:=by
  intro X A hw J T i bo s σ H E I n st hg;subst A hw J;obtain⟨xs,ys,x,y,r,p,R,Q⟩:=hg;obtain⟨us,L,C⟩:=I.sq r;obtain⟨ws,d,G⟩:=I.sq p;obtain⟨u,eu,rx⟩:=L.get R;obtain⟨v,ev,ry⟩:=d.get Q;refine zge D st C G (x:=u) (y:=v) (by simpa using eu) (by simpa using ev) λh' S p8 s8 k=>?_
  refine⟨_,Z,wpAny_letOwnedTupleGo_zip S.zip λm U f=>?_⟩;have zlt:z<s.heap.objs.size:=Yn st.zip;have Y:s.heap.objs.size≠z:=Nat.ne_of_gt zlt;have kk:∀b o,b ∉ [z,TO,l,j]->s.heap.get? b=some o->m.get? b=some o:=λb o c e=>by
   simp only[List.mem_cons,List.not_mem_nil,or_false,not_or]at c
   exact f.extBut _ _ c.1 (k b o c.1 c.2.1 c.2.2.1 c.2.2.2 e)
  have pp:IsPair m s.heap.objs.size u v:=f.extBut _ _ Y p8;refine⟨.ref s.heap.objs.size,upd H s.heap.objs.size (.tup [x,y]),I.drawn (t':=s.toks) (ch:=[z,TO,l,j]) (λb c=>n b ?_) kk (Yi _) ?_,Z,⟨_,x,y,I.fresh,Z,Z,λxs' M=>?_,λys' M=>?_⟩,?_,λb c=>?_⟩
  ·simp only[List.mem_cons,List.not_mem_nil,or_false]at c ⊢
   rcases c with rfl | rfl | rfl | rfl <;> simp
  ·exact⟨by show 2<=sizeLine;rw[sizeLine_eq];decide,[u,v],.cons rx (.cons ry .nil),⟨_,pp,Z,_,Z⟩⟩
  ·rw[I.sq_inj M r];exact R
  ·rw[I.sq_inj M p];exact Q
  ·exact⟨U,f.extBut _ _ D.TIz S.ti,(let ⟨a,b,e⟩:=S.to;⟨a,b,f.extBut _ _ D.TOz e⟩),S.it1.at λo q=>f.extBut _ _ D.i1z q,S.it2.at λo q=>f.extBut _ _ D.i2z q⟩
  ·obtain⟨o,e,_⟩:∃o,s.heap.get? b=some o/\∀v,o.data≠.cell v:=by
    simp only[List.mem_cons,List.not_mem_nil,or_false]at c
    rcases c with rfl | rfl | rfl | rfl | rfl
    ·exact⟨_,st.zip,λv q=>by cases q⟩
    ·exact⟨_,st.ti,λv q=>by cases q⟩
    ·obtain⟨a,b,e⟩:=st.to;exact⟨_,e,λv q=>by cases q⟩
    ·exact st.it1.obj
    ·exact st.it2.obj
   rw[zaf (Y0 (Yn e))];exact(n b c).1
 done:=by
  intro X A hw J T i bo s σ H E I n st hg;subst A hw J;obtain⟨xs,ys,r,p,O⟩:=hg;obtain⟨us,L,C⟩:=I.sq r;obtain⟨ws,d,G⟩:=I.sq p;have l1:=L.length;have l2:=d.length;refine zhh (I.ok.hd T) D st C G ?_ λh' k=>⟨rfl,I.turnedL (t':=s.toks) (ch:=[z,TO,l,j]) (λb c=>n b ?_) λb o c e=>?_⟩
  ·rcases O with O | O
   ·exact .inl (by simp;lia)
   ·exact .inr (by simp;lia)
  ·simp only[List.mem_cons,List.not_mem_nil,or_false]at c ⊢
   rcases c with rfl | rfl | rfl | rfl <;> simp
  ·simp only[List.mem_cons,List.not_mem_nil,or_false,not_or]at c
   exact k b o c.1 c.2.1 c.2.2.1 c.2.2.2 e
 self:=λ_ _ _ _ _ st h=>wpAny_pyIter_zip st.zip h
def iZip(K:Li)(b1 b2:Bool)(ta:TA):TI:=λσ H R=>ta σ H λvs H1=>∃a1 a2,vs=[.ref a1,.ref a2]/\(∃xs,SqX K b1 H1 a1 xs)/\(∃ys,SqX K b2 H1 a2 ys)/\R (Itz K b1 b2 a1 a2) H1
def zwx{X:Cx}{T:List Ln}{N:Nat}{j p d:Pos}(b1 b2:Bool){l f:Ln}{y:TA}(hg:Gl X "zip")(G:X.mg "zip" = none)(D:PA X [l,f] y)
  (O:starEach [l,f] X.env=(false,eval l X.env)::starEach [f] X.env:=by rfl) (r:(backTo d (starEach [f] X.env)).any (·.1)=false:=by rfl) :
  PI X (.Tuple T N j) (.Call (.Name "zip" p) [l,f] [] d) (iZip X.K b1 b2 y):=by
 intro bo s z H R I h;refine wpAny_Call_Name_kw (zfu I hg G boot_zip ?_ (by decide) (by decide));refine PyProof.Rows.callWith_type1 (thn (D bo s z H _ I h) λus a ⟨vs,H1,c,P,Q,E,L,⟨xs,M⟩,⟨ys,J⟩,q⟩=>?_) O r;subst L;obtain⟨u1,u2,rfl,w,n⟩:=P.two
 cases w;cases n;obtain⟨us,ru,B⟩:=c.sq M;obtain⟨ws,rw',C⟩:=c.sq J;have x:Q<a.heap.objs.size:=by cases b1 <;> (obtain⟨o,e,_⟩:=B;exact Yn e)
 have m:E<a.heap.objs.size:=by cases b2 <;> (obtain⟨o,e,_⟩:=C;exact Yn e)
 refine zre B C λh' S k z5=>wpAny_pyIter_zip S.zip ?_
 have U:Inv X bo z H1 { a with heap:=h' }:=c.kept (t':=a.toks) k;refine⟨a.heap.objs.size+4,[a.heap.objs.size+4,a.heap.objs.size+2,a.heap.objs.size+3,a.heap.objs.size,a.heap.objs.size+1],_,_,H1,Z,U,zsj b1 b2 (zipApart_new x m),S,λb A=>?_,q⟩;have i:a.heap.objs.size<=b:=by
  simp only[List.mem_cons,List.not_mem_nil,or_false]at A
  rcases A with rfl | rfl | rfl | rfl | rfl
  ·exact Nat.le_add_right _ 4
  ·exact Nat.le_add_right _ 2
  ·exact Nat.le_add_right _ 3
  ·exact Yi _
  ·exact Nat.le_add_right _ 1
 exact c.fpOk i (c.hok.fresh i)
def Same.upd{H:Hp}{p:Lg}{o:HO}(h:H p=none):Same H (upd H p o):=λb u e=>by rw[zaf (zag e h)];exact e
def Same.updR(e:Same H H')(h:H p=none):Same H (L2.upd H' p o):=λb u q=>by rw[zaf (zag q h)];exact e b u q
def Same.seqT{K:Li}(e:Same H H')(h:SqT K H a xs):SqT K H' a xs:=by
 rcases h with(h | ⟨o,h⟩) | h
 ·exact .inl (.inl (e _ _ h))
 ·exact .inl (.inr ⟨o,e _ _ h⟩)
 ·exact .inr h
def Same.sqX{K:Li}(e:Same H H')(h:SqX K b H a xs):SqX K b H' a xs:=by
 cases b with
 | true=>exact e.seqT h
 | false=>exact e.seq h
structure Walk(J:It)(H1:Hp)(n:Nat)(P:Nat->V->Hp->Prop):Prop where
 go:∀i H',Same H1 H'->i<n->J.go i H'
 stop:∀H',Same H1 H'->J.stop n H'
 yld:∀i H' x H2,Same H1 H'->i<n->J.yld i H' x H2->Same H' H2/\P i x H2
def zeb{K:Li}(h:SqL K H1 a xs):Walk (Itl K a) H1 xs.length (λi x _=>xs[i]? = some x):=
 ⟨λi H' e hi=>⟨xs,xs[i],e.seq h,by simp[hi]⟩,λH' e=>⟨xs,e.seq h,Yi _⟩,λi H' x H2 e hi y=>by
  obtain⟨rfl,q⟩:=y;exact⟨Same.refl _,q xs (e.seq h)⟩⟩
def zdj(lo:Int)(n:Nat):Walk (Itr lo n) H1 n (λi x _=>x=.int (lo+i)):=
 ⟨λi H' e hi=>hi,λH' e=>Yi _,λi H' x H2 e hi y=>by
  obtain⟨rfl,q⟩:=y;exact⟨Same.refl _,q⟩⟩
def zmf{K:Li}(a:SqX K b1 H1 a1 xs)(b:SqX K b2 H1 a2 ys) :
  Walk (Itz K b1 b2 a1 a2) H1 (min xs.length ys.length) (λi v H=>∃p x y,v=.ref p/\H p=some (.tup [x,y])/\xs[i]? = some x/\ys[i]? = some y):=by
 refine⟨λi H' e hi=>?_,λH' e=>⟨xs,ys,e.sqX a,e.sqX b,?_⟩,λi H' x H2 e hi q=>?_⟩
 ·have j:i<xs.length:=by lia
  have f:i<ys.length:=by lia
  exact⟨xs,ys,xs[i],ys[i],e.sqX a,e.sqX b,by simp[j],by simp[f]⟩
 ·rcases Nat.le_total xs.length ys.length with q | q
  ·exact .inl (by lia)
  ·exact .inr (by lia)
 ·obtain⟨p,u,v,h,rfl,rfl,c,d⟩:=q;exact⟨Same.upd h,p,u,v,Z,zad,c xs (e.sqX a),d ys (e.sqX b)⟩
def zgk{J:It}{H1:Hp}{n:Nat}{P:Nat->V->Hp->Prop}{g:TG}{T:TT}{O:TE}{Q:VK}{B:St}{D:Lg}(S:Walk J H1 n P)(U:H1 D=none)(hn:n<=sizeLine)(A:St->Prop)(p:Nat->Bool)(F:Nat->V->Hp->Prop)
  (l:∀i v H H',Same H H'->F i v H->F i v H') (h:∀i v H a ys ys',H a=some (.lst ys)->F i v H->F i v (upd H a (.lst ys'))) (h0:A B)
  (step:∀i x d o,i<n->A d->Same H1 o->P i x o->∀(Ny:V->St->Hp->Prop) (Nn:St->Hp->Prop),(∀v c f,A c->Same o f->F i v f->p i=true->Ny v c f)->(∀c r,A c->Same o r->p i=false->Nn c r) ->
   g x d o λc M=>T c M λb r=>if b=true then O c r λv f=>Ny v c f else Nn c r)
  (hQ:∀H' ys,Same H1 H'->H' D=some (.lst ys)->Paired (λi v=>F i v H') ((List.range n).filter p) ys->Q (.ref D) H') :
  ∃W:Nat->Nat->Lf->St->Hp->Prop,(∃m,W 0 m [] B (upd H1 D (.lst [])))/\∀i m ys d H',W i m ys d H'->H' D=some (.lst ys) /\
  ((J.stop i H'/\Q (.ref D) H')\/(J.go i H'/\ys.length<sizeLine/\∀x o,J.yld i H' x o->g x d o λc M=>T c M λb r=>
   if b=true then O c r λv f=>f D=some (.lst ys)/\∃m',m'<m/\W (i+1) m' (ys++[v]) c (upd f D (.lst (ys++[v])))
   else ∃m',m'<m/\W (i+1) m' ys c r)):=by
 refine⟨λi m ys d H'=>m=n-i/\i<=n/\A d/\Same H1 H'/\H' D=some (.lst ys)/\Paired (λj v=>F j v H') ((List.range i).filter p) ys,⟨n,Z,Y2 _,h0,Same.upd U,zad,.nil⟩,?_⟩;rintro i m ys d H' ⟨rfl,hi,hs,z,C,E⟩;refine⟨C,?_⟩;have R:(List.range (i+1)).filter p=(List.range i).filter p++(if p i=true then [i] else []):=by
  rw[List.range_succ,List.filter_append]
  cases q:p i <;> simp[q]
 by_cases hlt:i<n
 ·refine .inr ⟨S.go i H' z hlt,?_,λx o y=>?_⟩
  ·have l1:=E.length;have l2:((List.range i).filter p).length<=(List.range i).length:=List.length_filter_le _ _;rw[List.length_range]at l2;lia
  ·obtain⟨s,X⟩:=S.yld i H' x o z hlt y;refine step i x d o hlt hs (z.trans s) X _ _ (λv c f I L Y K=>?_) λc r I G K=>?_
   ·have N:f D=some (.lst ys):=L _ _ (s _ _ C);refine⟨N,n-(i+1),by lia,Z,hlt,I,((z.trans s).trans L).updR U,zad,?_⟩;rw[R,Yl K];refine Paired.snoc (Paired.imp' (λj w q=>?_) E) (h i v f D ys _ N Y);exact h j w f D ys _ N (l j w H' f (s.trans L) q)
   ·refine⟨n-(i+1),by lia,Z,hlt,I,(z.trans s).trans G,G _ _ (s _ _ C),?_⟩;rw[R,Yh (by rw[K];decide),List.append_nil];exact Paired.imp' (λj w q=>l j w H' r (s.trans G) q) E
 ·have e:i=n:=by lia
  subst e;exact .inl ⟨S.stop H' z,hQ H' ys z C E⟩
theorem Paired.eq_map{f:Nat->β}:∀{l} {ys},Paired (λi v=>v=f i) l ys->ys=l.map f
 | _,_,.nil=>rfl
 | _,_,.cons r t=>by rw[Yz,r,Paired.eq_map t]
def zgx{J:It}{H1:Hp}{n:Nat}{P:Nat->V->Hp->Prop}{g:TG}{z:TT}{y:TE}{Q:VK}{o:St}{D:Lg}(S:Walk J H1 n P)(K:H1 D=none)(M:n<=sizeLine)(l:St->Prop)(p:Nat->Bool)(f:Nat->V)(I:l o)
  (step:∀i x c d,i<n->l c->Same H1 d->P i x d->∀(r:V->St->Hp->Prop) (Nn:St->Hp->Prop),(∀a h,l a->Same d h->p i=true->r (f i) a h)->(∀a j,l a->Same d j->p i=false->Nn a j) ->
   g x c d λa w=>z a w λb j=>if b=true then y a j λv h=>r v a h else Nn a j)
  (L:∀H',Same H1 H'->H' D=some (.lst (((List.range n).filter p).map f))->Q (.ref D) H') :
  ∃W:Nat->Nat->Lf->St->Hp->Prop,(∃m,W 0 m [] o (upd H1 D (.lst [])))/\∀i m ys c H',W i m ys c H'->H' D=some (.lst ys) /\
  ((J.stop i H'/\Q (.ref D) H')\/(J.go i H'/\ys.length<sizeLine/\∀x d,J.yld i H' x d->g x c d λa w=>z a w λb j=>
   if b=true then y a j λv h=>h D=some (.lst ys)/\∃m',m'<m/\W (i+1) m' (ys++[v]) a (upd h D (.lst (ys++[v])))
   else ∃m',m'<m/\W (i+1) m' ys a j)):=
 zgk S K M l p (λi v _=>v=f i) (λ_ _ _ _ _ q=>q) (λ_ _ _ _ _ _ _ q=>q) I
  (λi x c d hi N e A r Nn C s=>step i x c d hi N e A r Nn (λa h O H G=>C _ a h O H rfl G) s)
  λH' ys e B E=>L H' e (by rw[<- Paired.eq_map E];exact B)
theorem zfl{a:Env}:∀{names:List (Lp×NameKind)} {x},names.lookup x=some .free ->
  (names.map fun(n,k)=>if (k == NameKind.free&&a.scope.kind == .function&&a.kindOf n == some .cell) then(n,NameKind.cell) else(n,k)).lookup x=some .cell \/
  (names.map fun(n,k)=>if (k == NameKind.free&&a.scope.kind == .function&&a.kindOf n == some .cell) then(n,NameKind.cell) else(n,k)).lookup x=some .free
 | [],_,h=>by simp at h
 | (n,k)::r,x,h=>by
  have b := @zfl a r x;rw[Yz]
  cases hx:x == n with
  | true=>
   simp only[List.lookup_cons,hx]at h
   cases h;by_cases hc:(NameKind.free == NameKind.free&&a.scope.kind == .function&&a.kindOf n == some .cell)=true
   ·dsimp only;rw[Yl hc];simp only[List.lookup_cons,hx];exact .inl trivial
   ·dsimp only;rw[Yh hc];simp only[List.lookup_cons,hx];exact .inr trivial
  | false=>
   simp only[List.lookup_cons,hx]at h
   by_cases hc:(k == NameKind.free&&a.scope.kind == .function&&a.kindOf n == some .cell)=true
   ·dsimp only;rw[Yl hc];simp only[List.lookup_cons,hx];exact b h
   ·dsimp only;rw[Yh hc];simp only[List.lookup_cons,hx];exact b h
def zfo{b:Env}{a:List (Lp×NameKind)}(d:k=.cell\/k=.free)(f:∀y∈a,y.2≠.cell)
  (h:(a.map fun(n,k)=>if (k == NameKind.free&&b.scope.kind == .function&&b.kindOf n == some .cell) then(n,NameKind.cell) else(n,k)).lookup x=some k):∃y∈a,y.1=x/\y.2=.free:=by
 have m:=PySem.mem_of_lookup h;obtain⟨⟨n,i⟩,c,e⟩:=Ji.mp m;dsimp only at e;by_cases hc:(i == NameKind.free&&b.scope.kind == .function&&b.kindOf n == some .cell)=true
 ·rw[Yl hc]at e;simp only[Bool.and_eq_true,beq_iff_eq]at hc
  cases e;exact⟨_,c,Z,hc.1.1⟩
 ·rw[Yh hc]at e
  cases e;refine⟨_,c,Z,?_⟩;rcases d with z | z
  ·exact absurd z (f _ c)
  ·exact z
def Blk.of(d:closureFor scope X.env=pure cl)(a:∀y∈scope.names,y.2≠.cell)(b:scope.kind=.function)
  (e:∀y∈scope.names,y.2=.local->scope.names.lookup y.1=some .local) (w:N.Nodup) (sub:∀x c,cl.lookup x=some c->X.env.cells.lookup x=some c) (q:∀y∈scope.names,y.2=.free->∃c,cl.lookup y.1=some c) (len:mp.length=N.length)
  (f:∀(i j:Nat) x,mp[i]? = some (some j)->N[i]? = some x->X.N[j]? = some x/\(X.env.scope.names.lookup x=some .cell\/X.env.scope.names.lookup x=some .free)/\scope.names.lookup x=some .free):Blk X N scope cl mp:=by
 refine⟨d,a,b,e,w,sub,λx h=>?_,len,λi j x l s=>?_⟩
 ·have:∃y∈scope.names,y.1=x/\y.2=.free:=h.elim (λz=>zfo (.inl rfl) a z) λz=>zfo (.inr rfl) a z
  obtain⟨y,p,rfl,n⟩:=this;exact q y p n
 ·obtain⟨m,r,o⟩:=f i j x l s;exact⟨m,r,zfl o⟩
def Blk.plain(d:∀y∈scope.names,y.2≠.free)(b:∀y∈scope.names,y.2≠.cell)(a:scope.kind=.function)(c:∀y∈scope.names,y.2=.local->scope.names.lookup y.1=some .local)(e:N.Nodup) :
  Blk X N scope [] (N.map λ_=>none):=
 Blk.of (closureFor_none d) b a c e (λ_ _ h=>nomatch h) (λy f h=>absurd h (d y f)) (Yd _) λi j x h=>by
  rw[Ym]at h
  cases q:N[i]? with
  | none=>rw[q]at h;cases h
  | some z=>rw[q]at h;cases h
def zipV(p:Int->Int->Bool)(φ:Int->Int->V)(xs ys:Lc):Lf:=((List.range (min xs.length ys.length)).filter λi=>p (xs.getD i 0) (ys.getD i 0)).map λi=>φ (xs.getD i 0) (ys.getD i 0)
def zet{xs:Lc}{v:V}(h:(xs.map V.int)[i]? = some v):v=.int (xs.getD i 0):=by
 rw[Ym]at h
 cases q:xs[i]? with
 | none=>rw[q]at h;cases h
 | some z=>
  rw[q]at h;have e:xs.getD i 0=z:=by rw[List.getD_eq_getElem?_getD,q];rfl
  rw[e];exact(Jf h).symm
def ztv{a:St}(h : a.length=2)(x y:V):(a.set 0 (some x)).set 1 (some y)=[some x,some y]:=by
 match a,h with
 | [_,_],_=>rfl
def zco{K:Li}{b1 b2:Bool}{a b:Lg}{xs ys:Lc}{mp:List (Option Nat)}{l:TA}{s:TT}{m:TE}{c:St}{H H1:Hp}{Q:VK}(p:Int->Int->Bool)(φ:Int->Int->V)(f:mp.length=2)(h:∀R,R [.ref a,.ref b] H1->l c H R)
  (r:SqX K b1 H1 a (xs.map V.int)) (n:SqX K b2 H1 b (ys.map V.int)) (hz:xs.length<=1000)
  (j:∀(i:Nat) H' (R:Bool->Hp->Prop),R (p (xs.getD i 0) (ys.getD i 0)) H'->s [some (.int (xs.getD i 0)),some (.int (ys.getD i 0))] H' R)
  (d:∀(i:Nat) H' (R:VK),p (xs.getD i 0) (ys.getD i 0)=true->R (φ (xs.getD i 0) (ys.getD i 0)) H'->m [some (.int (xs.getD i 0)),some (.int (ys.getD i 0))] H' R)
  (A:∀D H',Same H1 H'->H' D=some (.lst (zipV p φ xs ys))->Q (.ref D) H') :
  tComp mp (iZip K b1 b2 l) (gTup K 2 (zkx (zap 0) (zkx (zap 1) gNil))) s m c H Q:=by
 unfold tComp;refine h _ ⟨a,b,Z,⟨_,r⟩,⟨_,n⟩,λD z=>?_⟩;have W:=zmf r n;rw[Yd,Yd]at W;refine zgx W z (Yr (Nat.min_le_left _ _) (Yr hz (by rw[sizeLine_eq];decide))) (λc=>c.length=2) (λi=>p (xs.getD i 0) (ys.getD i 0)) (λi=>φ (xs.getD i 0) (ys.getD i 0)) (by unfold st0;rw[Yd];exact f) ?_ λH' e x=>A D H' e x
 rintro i v σ' H2 hi C e ⟨q,u,w,rfl,o,B,hw⟩ Ny Nn y E;rw[zet B,zet hw]at o;refine⟨q,_,rfl,SqT.of o,rfl,_,_,rfl,_,_,rfl,rfl,?_⟩;rw[ztv C];refine j _ _ _ ?_
 cases hp:p (xs.getD i 0) (ys.getD i 0) with
 | true=>rw[Yl rfl];exact d _ _ _ hp (y _ _ rfl (Same.refl _) hp)
 | false=>rw[Yh (by decide)];exact E _ _ rfl (Same.refl _) hp
def zen{K:Li}(e:X.K=K)(f:X.calm=true)(hN:X.N=[x,y])(d:([x,y]:List Lp).Nodup)(b:X.env.scope.names.lookup x=some .local)(c:X.env.scope.names.lookup y=some .local) :
  PG X (.Tuple [.Name x px,.Name y py] k tp) (gTup K 2 (zkx (zap 0) (zkx (zap 1) gNil))):=by
 subst e;have a:X.N.Nodup:=by rw[hN];exact d
 exact zc4 f (za1 (zas (i:=0) a (by rw[hN];rfl) (.inl b) (.inr b)) (za1 (zas (i:=1) a (by rw[hN];rfl) (.inl c) (.inr c)) zcd))
def zdr(b:X.N.Nodup)(hN:X.N[i]? = some x)(a:X.env.scope.names.lookup x=some .local):PG X (.Name x px) (zap i):=zas b hN (.inl a) (.inr a)
def znc(n:Int)(h:St->Prop)(p:Nat->Bool)(f:Nat->V)(hn0:0<=n)(hn:n<=1000)(o:∀R,R [.int n] H1->ta σ H R)(x:h (st0 mp σ))
  (step:∀(i:Nat) c d,(i:Int)<n->h c->Same H1 d->∀(m:V->St->Hp->Prop) (Nn:St->Hp->Prop),(∀a l,h a->Same d l->p i=true->m (f i) a l)->(∀a j,h a->Same d j->p i=false->Nn a j) ->
   g (.int (0+(i:Int))) c d λa w=>tc a w λb j=>if b=true then te a j λv l=>m v a l else Nn a j)
  (z:∀D H',Same H1 H'->H' D=some (.lst (((List.range n.toNat).filter p).map f))->Q (.ref D) H'):tComp mp (zxt ta) g tc te σ H Q:=by
 unfold tComp;refine o _ ⟨n,Z,by lia,by lia,λD y=>?_⟩;refine zgx (zdj 0 n.toNat) y (Yr (show n.toNat<=1000 by lia) (by rw[sizeLine_eq];decide)) h p f x ?_ λH' e r=>z D H' e r
 rintro i v c d hi A e rfl m Nn s q;exact step i c d (by lia) A e m Nn s q
def PassesS(CX:CXT)(X:Cx)(E:St->XK):Prop:=∀bo (σ:St) H s e s',Inv X bo σ H s->CX X.stack H s (E σ) e s'->X.xe e s'
def zkf(sp:Sp)(dvs:Lf)(E:St->XK)(t:TA):TE:=λσ H Q=>t σ H λvs H1=>sp (vs++dvs) H1 Q (E σ)
def znd(C:Lg)(m:Lp)(sp:Sp)(dvs:Lf)(E:St->XK)(ta:TE)(t:TA):TE:=λσ H Q=>ta σ H λx H1=>∃a dx fs,x=.ref a/\H1 a=some (.ins C dx fs)/\fs.lookup m=none /\
 t σ H1 λvs H2=>sp (x::(vs++dvs)) H2 Q (E σ)
def zsy(C:Lg)(sp:Sp)(dvs:Lf)(E:St->XK)(t:TA):TE:=λσ H Q=>t σ H λvs H1=>∀x dx,H1 x=none->H1 dx=none->dx≠x ->
 sp (.ref x::(vs++dvs)) (upd (upd H1 dx (.own x)) x (.ins C dx [])) (λv H2=>v=.non/\Q (.ref x) H2) (E σ)
section
variable{X:Cx}{CX:CXT}{k:Nat}{f C:Lg}{fd:FuncData}{ps:List Lp}{sp:Sp}{dvs:Lf}{ds:List Lh}{E:St->XK}{x m:Lp}{p pos apos:Pos}{e o:Ln}{es:List Ln}{ta:TE}{t:TA}
def zih{b:St}(F:FnOk X.prog X.w X.K X.mg X.base CX k f fd ps sp)(i:Room k X.A)(j:Binds X.K fd ps ds)(hd:Vals dvs ds)(d:PassesS CX X E)
  (I:Inv X bo b H s) (r:Vals vs us) (h:sp (vs++dvs) H Q (E b)):wpAny (model X.prog X.w) X.A (call (.ref f) us) (EP X bo b Q) X.xe s:=by
 have c:Vals (vs++dvs) (us++ds):=r.append hd;have l:(us++ds).length=ps.length:=by rw[<- c.length];exact F.len _ _ _ _ h
 refine wpAny_call (codeAny_mono (F.run X.A X.stack s H ⟨us,[]⟩ (us++ds) (vs++dvs) Q (E b) i I.env0 (j s us I.kIn l) c h) λr s' a=>?_);match r,a with
 | .error e,a=>exact d bo b H s e s' I a
 | .ok (.ret u),a=>exact I.after a
 | .ok .next,a=>exact Je a
 | .ok .brk,a=>exact Je a
 | .ok .cont,a=>exact Je a
def zsc(F:FnOk X.prog X.w X.K X.mg X.base CX k f fd ps sp)(y:Room k X.A)(hg:Gl X x)(n:X.mg x=some (.ref f))(d:W.keepIn X.K (.ref f)=true)(B:Binds X.K fd ps ds)(hd:Vals dvs ds)(j:PassesS CX X E)
  (i:PA X (e::es) t) (b:(x == ("__debug__" : Lp))=false:=by decide) (l:starEach (e::es) X.env=(false,eval e X.env)::starEach es X.env:=by rfl) (a:(backTo pos (starEach es X.env)).any (·.1)=false:=by rfl) :
  PE X (.Call (.Name x p) (e::es) [] pos) (zkf sp dvs E t):=by
 intro bo s z H Q I h;refine wpAny_Call_Name_kw (zgy I hg n (W.callWith_K (h₀:=X.base) I.ok.mod.kin d (thn (i bo s z H _ I h) λus s1 ⟨vs,H1,c,r,q⟩=>⟨c.kIn,?_⟩) l a) b);exact zih F y B hd j c r q
def zrm{pl:Sem Bool}(N:PE X o ta)(c:Cls X.K C)(i:Meth X.K C m f)(F:FnOk X.prog X.w X.K X.mg X.base CX k f fd ps sp)(R:Room k X.A)(J:Binds X.K fd ps ds)(hd:Vals dvs ds)(M:PassesS CX X E)(B:PA X (e::es) t)
  (d:starEach (e::es) X.env=(false,eval e X.env)::starEach es X.env:=by rfl) (b:(backTo pos (starEach es X.env)).any (·.1)=false:=by rfl)
  (G:eval (.Call (.Attribute o m apos) (e::es) [] pos) X.env=(do
   let y <- eval o X.env
   standAt apos.atName
   let (f,first) <- holding [y] (getMethod y m pl)
   callWith pos f first (backTo pos (starEach (e::es) X.env)) (backToKw pos (keywordEach [] X.env))):=by rfl) :
  PE X (.Call (.Attribute o m apos) (e::es) [] pos) (znd C m sp dvs E ta t):=by
 intro bo s j H Q I h;refine W.methodCall_KW (pl:=pl) (thn (N s j H _ I h) λu P ⟨x,H1,n,L,a,dx,fs,ex,D,l,q⟩=>?_) G;subst ex;obtain rfl:u=Value.ref a:=L;refine zhj n D c i l (W.callWith_K (first:=[.ref a]) (h₀:=X.base) I.ok.mod.kin i.kp (thn (B bo P j H1 _ n q) λus s2 ⟨vs,H2,z,r,O⟩=>⟨z.kIn,?_⟩) d b);exact zih (us:=.ref a::us) (vs:=.ref a::vs) F R J hd M z (.cons rfl r) O
end
def zk0:∀{us},Vals (bs.map V.bl) us->LSm.BoolsAre us bs:=by
 induction bs with
 | nil=>intro us r;rw[List.map_nil]at r;cases r;exact .nil
 | cons n ns ih=>
  intro us r;rw[Yz]at r
  cases r with
  | cons r1 r2=>cases (show _=Value.bool n from r1);exact .cons n (ih r2)
section
variable{X:Cx}
def zov(b:Bool)(i:X.calm=true):CallR X (.builtin "sum") (λxs H Q=>∃(a:Lg) (c:Lc),xs=[.ref a]/\SqX X.K b H a (c.map V.int)/\Q (.int c.sum) H):=by
 intro bo s σ H xs us Q I r h;obtain⟨a,c,rfl,m,q⟩:=h;obtain⟨u,rfl,n⟩:=r.one
 cases n;obtain⟨its,l,p⟩:=I.sq m;have hi:=zcf l;obtain⟨ys,e⟩:=hi.allInts.items;have f:preSum (numAt ys) ys.size=c.sum:=by
  have j:c=ys.toList.map (·.1):=by
   rw[<- nums_intItems,<- e];exact(show numsOf its.toArray.toList=c from hi.numsOf).symm
  rw[preSum_eq,List.take_of_length_le (by simp),j]
 rw[e]at p
 cases b with
 | true=>exact W.ktm_sumG (I.ok.hd i) p λh' tk t' d=>⟨.int c.sum,H,I.kept d,⟨t',by rw[f]⟩,q⟩
 | false=>exact sum_intListG (I.ok.hd i) p λh' tk t' d=>⟨.int c.sum,H,I.kept d,⟨t',by rw[f]⟩,q⟩
def zot(o:X.calm=true):CallR X (.builtin "all") (λxs H Q=>∃(a:Lg) (bs:List Bool),xs=[.ref a]/\SqL X.K H a (bs.map V.bl)/\Q (.bl (bs.all id)) H):=by
 intro bo s σ H xs us Q I r h;obtain⟨a,bs,rfl,n,q⟩:=h;obtain⟨u,rfl,w⟩:=r.one
 cases w;obtain⟨its,m,p,_⟩:=I.list n;have d:=zk0 m;have c:=p.isList;have lt:a<s.heap.objs.size:=by obtain⟨_,e,_⟩:=c;exact Yn e
 refine call_all_walk (wpAny_pyIter_list c ⟨s.heap.objs.size,_,_,_,_,_,λi=>(bs[i]?).getD true,Z,Walks.list (A:=X.A.in1) (I.ok.hd o) _ a (Y0 lt) its.toArray,⟨⟨_,Yk _ rfl,Z,Z⟩,c.push _⟩,λi v s' Q' E' l f=>?_,λh' tk j=>?_⟩)
 ·obtain⟨b,e,rfl⟩:=d.get i v (by simpa using l);simp only[e,Option.getD_some]at f;exact Jp f
 ·refine⟨.bl (bs.all id),H,I.kept (LSm.kept_iter j),?_,q⟩;show Value.bool _=Value.bool _;rw[Ys,d.length,LSm.range_all bs]
end
structure CMeth(K:Li)(C:Lg)(m:Lp)(f:Lg):Prop where
 ex:∃mc,W.readsIn K C mc=true/\W.findCls K (.ref C) mc m=some (.val (.ref f))
 sp:W.specialIn K (.ref C) "__getattribute__" = some (some (.builtin "type.__getattribute__"))
 kp:W.keepIn K (.ref f)=true
section
variable{X:Cx}{CX:CXT}{k:Nat}{f C:Lg}{fd:FuncData}{ps:List Lp}{sp:Sp}{dvs:Lf}{ds:List Lh}{E:St->XK}{x m:Lp}{p pos apos:Pos}{e o:Ln}{es:List Ln}{ta:TE}{t:TA}
def zr5{pl:Sem Bool}(a:CMeth X.K C m f)(hg:Gl X x)(n:X.mg x=some (.ref C))(F:FnOk X.prog X.w X.K X.mg X.base CX k f fd ps sp)(M:Room k X.A)(B:Binds X.K fd ps ds)(hd:Vals dvs ds)(D:PassesS CX X E)(l:PA X (e::es) t)
  (c:(x == ("__debug__" : Lp))=false:=by decide) (d:starEach (e::es) X.env=(false,eval e X.env)::starEach es X.env:=by rfl) (b:(backTo pos (starEach es X.env)).any (·.1)=false:=by rfl)
  (y:eval (.Call (.Attribute (.Name x p) m apos) (e::es) [] pos) X.env=(do
   let i <- eval (.Name x p) X.env
   standAt apos.atName
   let (f,first) <- holding [i] (getMethod i m pl)
   callWith pos f first (backTo pos (starEach (e::es) X.env)) (backToKw pos (keywordEach [] X.env))):=by rfl) :
  PE X (.Call (.Attribute (.Name x p) m apos) (e::es) [] pos) (zkf sp dvs E t):=by
 intro bo s z H Q I h;obtain⟨mc,G,J⟩:=a.ex;refine W.methodCall_KW (pl:=pl) (zgy I hg n (W.method_cls I.kIn a.sp (W.cls_value I.kIn G J rfl ?_)) c) y;have L:=I.tok (s.toks+1);refine W.callWith_K (first:=[]) (h₀:=X.base) I.ok.mod.kin a.kp (thn (l bo _ z H _ L h) λus s2 ⟨vs,H2,j,r,q⟩=>⟨j.kIn,?_⟩) d b;exact zih F M B hd D j r q
def zoa{b:St}(M:Mk X.K C f)(F:FnOk X.prog X.w X.K X.mg X.base CX k f fd ps sp)(q:Room (k+1) X.A)(B:Binds X.K fd ps ds)(hd:Vals dvs ds)
  (j:PassesS CX X E) (I:Inv X bo b H s) (r:Vals vs us)
  (h:∀x dx,H x=none->H dx=none->dx≠x->sp (.ref x::(vs++dvs)) (upd (upd H dx (.own x)) x (.ins C dx [])) (λv y=>v=.non/\Q (.ref x) y) (E b)) :
  wpAny (model X.prog X.w) X.A (call (.ref C) us) (EP X bo b Q) X.xe s:=by
 have i:=h (s.heap.objs.size+1) s.heap.objs.size (I.hok.fresh (Nat.le_succ _)) (I.hok.fresh (Yi _)) (Y0 (Nat.lt_succ_self _));have c:=Inv.made (C:=C) I;have d:Vals (V.ref (s.heap.objs.size+1)::(vs++dvs)) (Value.ref (s.heap.objs.size+1)::(us++ds)):=.cons rfl (r.append hd);have D:(Value.ref (s.heap.objs.size+1)::us++ds).length=ps.length:=by
  have e:=d.length;rw[F.len _ _ _ _ i]at e;exact e.symm
 refine wpAny_call (zsm (f:=f) I.kIn M.makes M.init (beq_iff_eq.mp M.fn) (codeAny_mono (F.run _ X.stack _ _ ⟨Value.ref (s.heap.objs.size+1)::us,[]⟩ (Value.ref (s.heap.objs.size+1)::(us++ds)) _ _ (E b) (q.make C us [])
  (c.env0.make C us []) (B _ (Value.ref (s.heap.objs.size+1)::us) c.kIn D) d i) λr s' a=>?_))
 match r,a with
 | .error e,a=>exact j bo b _ _ e s' c a
 | .ok (.ret u),a=>
  obtain⟨v,H',l,z,G,n⟩:=c.after a;subst G;exact⟨z,⟨V.ref (s.heap.objs.size+1),H',l,Z,n⟩⟩
 | .ok .next,a=>exact Je a
 | .ok .brk,a=>exact Je a
 | .ok .cont,a=>exact Je a
def zru(M:Mk X.K C f)(F:FnOk X.prog X.w X.K X.mg X.base CX k f fd ps sp)(n:Room (k+1) X.A)(hg:Gl X x)(l:X.mg x=some (.ref C))(z:Binds X.K fd ps ds)(hd:Vals dvs ds)(i:PassesS CX X E)
  (d:PA X (e::es) t) (b:(x == ("__debug__" : Lp))=false:=by decide) (j:starEach (e::es) X.env=(false,eval e X.env)::starEach es X.env:=by rfl) (a:(backTo pos (starEach es X.env)).any (·.1)=false:=by rfl) :
  PE X (.Call (.Name x p) (e::es) [] pos) (zsy C sp dvs E t):=by
 intro bo s y H Q I h;refine wpAny_Call_Name_kw (zgy I hg l (W.callWith_K (h₀:=X.base) I.ok.mod.kin M.kp (thn (d bo s y H _ I h) λus s1 ⟨vs,H1,c,r,q⟩=>⟨c.kIn,?_⟩) j a) b);exact zoa M F n z hd i c r q
end
end L2
set_option Elab.async false
/- strict -/
set_option linter.all false
set_option maxRecDepth 100000
namespace L2
open PySem PySem.Spec PyProof.Rows
structure FunD(K:Li)(x qual:Lp)(st:Lm)(dV:Lh)(f:Lg)(fd:FuncData):Prop where
 ex:∃(oc:Lh) (od:Option Lg) (kV doc pm:Lh) (an:Option Lg) (cdv ct:Lh) (osl:Array (Option Lh)),
  fd=W.fnOf x qual (zc6 st) (zcm st) (za5 st) dV kV doc pm an cdv ct/\K.lookup f=some ⟨oc,od,.func fd,osl⟩/\W.codeIn K cdv qual=true
section
variable{P:Ll}{w:Lk}{K:Li}{mg:Sa}{base:Lo}{x qual:Lp}{st:Lm}{dV:Lh}{f:Lg}{fd:FuncData}{N ps:List Lp}{k:Nat}{sp:Sp}
def FunD.okN(F:FunD K x qual st dV f fd)(S:FnScope N ps (za5 st))(len:∀vs H Q E,sp vs H Q E->vs.length=ps.length)
  (c:∀b A a s H vs Q E,Room k (A.deeper (envOfC qual (za5 st) s.heap.objs.size f b))->sp vs H Q E ->
   ∃t,PSs (cxOf CX0 P w K mg base N qual (za5 st) f b A a s H E).nox (zcm st) t/\t { nx:=λ_ H'=>Q .non H',rt:=Q } (start N vs) H):FnOk P w K mg base CX0 (k+1) f fd ps sp:=by
 obtain⟨oc,od,kV,doc,pm,an,b,ct,osl,rfl,j,d⟩:=F.ex;refine zx1 j d S len λA a s H vs Q E i e=>?_
 obtain⟨t,h,q⟩:=c b A a s H vs Q E i e;exact⟨t,h.nox,q⟩
def FunD.binds(F:FunD K x qual st .none f fd)
  (h:∀kV a e d b c us,us.length=ps.length->bindArgs (W.fnOf x qual (zc6 st) (zcm st) (za5 st) .none kV a e d b c) ⟨us,[]⟩=pure (ps.zip us)):Binds K fd ps []:=by
 obtain⟨oc,od,kV,a,e,d,b,c,osl,rfl,lk,hcd⟩:=F.ex;exact .all (h kV a e d b c)
def zix{kV b e a d:Lh}(l:K.lookup f=some ⟨oc,od,.func (W.fnOf x qual (zc6 st) (zcm st) (za5 st) dV kV b e an a d),osl⟩)
  (c:W.codeIn K a qual=true):FunD K x qual st dV f (W.fnOf x qual (zc6 st) (zcm st) (za5 st) dV kV b e an a d):=⟨⟨oc,od,kV,b,e,an,a,d,osl,Z,l,c⟩⟩
end
structure Cal(P:Ll)(w:Lk)(K:Li)(mg:Sa)(base:Lo)(CX:CXT)(k:Nat)(x:Lp)(ps:List Lp)(ds:List Lh)(sp:Sp):Prop where
 ex:∃f fd,FnOk P w K mg base CX k f fd ps sp/\Binds K fd ps ds/\W.keepIn K (.ref f)=true/\mg x=some (.ref f)
structure MCal(P:Ll)(w:Lk)(K:Li)(mg:Sa)(base:Lo)(CX:CXT)(k:Nat)(C:Lg)(m:Lp)(ps:List Lp)(ds:List Lh)(sp:Sp):Prop where
 ex:∃f fd,FnOk P w K mg base CX k f fd ps sp/\Binds K fd ps ds/\Meth K C m f
 cl:Cls K C
structure Mak(P:Ll)(w:Lk)(K:Li)(mg:Sa)(base:Lo)(CX:CXT)(k:Nat)(x:Lp)(C:Lg)(ps:List Lp)(ds:List Lh)(sp:Sp):Prop where
 ex:∃f fd,FnOk P w K mg base CX k f fd ps sp/\Binds K fd ps ds/\Mk K C f
 at_:mg x=some (.ref C)
structure CCal(P:Ll)(w:Lk)(K:Li)(mg:Sa)(base:Lo)(CX:CXT)(k:Nat)(x:Lp)(m:Lp)(ps:List Lp)(ds:List Lh)(sp:Sp):Prop where
 ex:∃C f fd,FnOk P w K mg base CX k f fd ps sp/\Binds K fd ps ds/\CMeth K C m f/\mg x=some (.ref C)
def zbx:PassesS CX0 X (λ_=>E0):=λ_ _ _ _ _ _ _ h=>h.elim
section
variable{X:Cx}{CX:CXT}{k j:Nat}{C:Lg}{ps:List Lp}{sp:Sp}{dvs:Lf}{ds:List Lh}{E:St->XK}{x m:Lp}{p pos apos:Pos}{e o:Ln}{es:List Ln}{ta:TE}{t:TA}
def pe_c(c:Cal X.prog X.w X.K X.mg X.base CX k x ps ds sp)(r:Room j X.A)(h:PassesS CX X E)(hd:Vals dvs ds)(i:PA X (e::es) t)(l:k<=j:=by decide)(hg:Gl X x:=by rfl)
  (d:(x == ("__debug__" : Lp))=false:=by decide) (n:starEach (e::es) X.env=(false,eval e X.env)::starEach es X.env:=by rfl) (a:(backTo pos (starEach es X.env)).any (·.1)=false:=by rfl) :
  PE X (.Call (.Name x p) (e::es) [] pos) (zkf sp dvs E t):=by
 obtain⟨f,fd,F,s,b,q⟩:=c.ex;exact zsc F (r.mono l) hg q b s hd h i d n a
def pe_m{pl:Sem Bool}(c:MCal X.prog X.w X.K X.mg X.base CX k C m ps ds sp)(n:PE X o ta)(s:Room j X.A)(h:PassesS CX X E)(hd:Vals dvs ds)(i:PA X (e::es) t)(l:k<=j:=by decide)
  (b:starEach (e::es) X.env=(false,eval e X.env)::starEach es X.env:=by rfl) (a:(backTo pos (starEach es X.env)).any (·.1)=false:=by rfl)
  (r:eval (.Call (.Attribute o m apos) (e::es) [] pos) X.env=(do
   let d <- eval o X.env
   standAt apos.atName
   let (f,first) <- holding [d] (getMethod d m pl)
   callWith pos f first (backTo pos (starEach (e::es) X.env)) (backToKw pos (keywordEach [] X.env))):=by rfl) :
  PE X (.Call (.Attribute o m apos) (e::es) [] pos) (znd C m sp dvs E ta t):=by
 obtain⟨f,fd,F,y,q⟩:=c.ex;exact zrm n c.cl q F (s.mono l) y hd h i b a r
def ztp{pl:Sem Bool}(c:MCal X.prog X.w X.K X.mg X.base CX k C m ps ds sp)(J:PE X o ta)(L:Room j X.A)(G:PassesS CX X E)(hd:Vals dvs ds)(n:k<=j:=by decide)
  (y:eval (.Call (.Attribute o m apos) [] [] pos) X.env=(do
   let i <- eval o X.env
   standAt apos.atName
   let (f,first) <- holding [i] (getMethod i m pl)
   callWith pos f first (backTo pos (starEach [] X.env)) (backToKw pos (keywordEach [] X.env))):=by rfl) :
  PE X (.Call (.Attribute o m apos) [] [] pos) (znd C m sp dvs E ta tNil):=by
 obtain⟨f,fd,F,B,d⟩:=c.ex;intro bo s z H Q I h;refine W.methodCall_KW (pl:=pl) (thn (J s z H _ I h) λu s1 ⟨x,H1,b,D,a,dx,fs,ex,r,l,q⟩=>?_) y;subst ex;obtain rfl:u=Value.ref a:=D;refine zhj b r c.cl d l ?_;exact W.callWith_K0 (first:=[.ref a]) b.kIn d.kp (zih (us:=[.ref a]) (vs:=[.ref a]) F (L.mono n) B hd G b (.cons rfl .nil) q)
def zms(c:Mak X.prog X.w X.K X.mg X.base CX k x C ps ds sp)(l:Room j X.A)(d:PassesS CX X E)(hd:Vals dvs ds)(h:PA X (e::es) t)(i:k+1<=j:=by decide)(hg:Gl X x:=by rfl)
  (b:(x == ("__debug__" : Lp))=false:=by decide) (n:starEach (e::es) X.env=(false,eval e X.env)::starEach es X.env:=by rfl) (a:(backTo pos (starEach es X.env)).any (·.1)=false:=by rfl) :
  PE X (.Call (.Name x p) (e::es) [] pos) (zsy C sp dvs E t):=by
 obtain⟨f,fd,F,q,r⟩:=c.ex;exact zru r F (l.mono i) hg c.at_ q hd d h b n a
def zyw{pl:Sem Bool}(c:CCal X.prog X.w X.K X.mg X.base CX k x m ps ds sp)(y:Room j X.A)(q:PassesS CX X E)(hd:Vals dvs ds)(n:PA X (e::es) t)(l:k<=j:=by decide)(hg:Gl X x:=by rfl)
  (b:(x == ("__debug__" : Lp))=false:=by decide) (d:starEach (e::es) X.env=(false,eval e X.env)::starEach es X.env:=by rfl) (a:(backTo pos (starEach es X.env)).any (·.1)=false:=by rfl)
  (s:eval (.Call (.Attribute (.Name x p) m apos) (e::es) [] pos) X.env=(do
   let i <- eval (.Name x p) X.env
   standAt apos.atName
   let (f,first) <- holding [i] (getMethod i m pl)
   callWith pos f first (backTo pos (starEach (e::es) X.env)) (backToKw pos (keywordEach [] X.env))):=by rfl) :
  PE X (.Call (.Attribute (.Name x p) m apos) (e::es) [] pos) (zkf sp dvs E t):=by
 obtain⟨C,f,fd,F,z,r,h⟩:=c.ex;exact zr5 r hg h F (y.mono l) z hd q n b d a s
end
def zr6{X:Cx}{x:Lp}{i:Int}{a:Pos}(b:∃tk,X.mg x=some (.int i tk))(hg:Gl X x)(hd:(x == ("__debug__" : Lp))=false:=by decide):PE X (.Name x a) (tC (.int i)):=by
 obtain⟨tk,e⟩:=b;exact zn9 hg e ⟨tk,Z⟩ hd
def CDivB(_ j:Int):Prop:=j≠0/\j.natAbs<2^8999
def zdm:OpR X (binaryOp .FloorDiv) (rI CDivB λi j=>.int (i.fdiv j)):=opI λ_ j _ _ _ _ _ a q=>floordiv_int a.1 q (.inl (PyProof.noPylong_of_log2 (by
 have b:j.natAbs≠0:=λz=>a.1 (Int.natAbs_eq_zero.mp z)
 exact Yf ((Nat.log2_lt b).mpr a.2) (by decide))))
def cEq{A B:Prop}(c:a=b->A)(d:a≠b->B):if decide (V.int a=V.int b)=true then A else B:=by
 by_cases h:a=b
 ·rw[Yo (Jw V.int h)];exact iteT (c h)
 ·rw[Yw λz=>h (by injection z)];exact iteF (d h)
def cNe{A B:Prop}(c:a≠b->A)(d:a=b->B):if (!decide (V.int a=V.int b))=true then A else B:=by
 by_cases h:a=b
 ·rw[Yo (Jw V.int h)];exact iteF (d h)
 ·rw[Yw λz=>h (by injection z)];exact iteT (c h)
def cD[Decidable c]{A B:Prop}(a:c->A)(b:¬c->B):if decide c=true then A else B:=by
 by_cases h:c
 ·rw[Yo h];exact iteT (a h)
 ·rw[Yw h];exact iteF (b h)
def cB{A B:Prop}(a:b=true->A)(c:b=false->B):if b=true then A else B:=by
 cases b with
 | true=>exact iteT (a rfl)
 | false=>exact iteF (c rfl)
def cNB{A B:Prop}(a:b=false->A)(c:b=true->B):if (!b)=true then A else B:=by
 cases b with
 | true=>exact iteF (c rfl)
 | false=>exact iteT (a rfl)
mutual
inductive Rds(K:Li)(H:Hp):V->PyData->Prop
 | non:Rds K H .non .none
 | bl (b:Bool):Rds K H (.bl b) (.bool b)
 | int (i:Int):Rds K H (.int i) (.int i)
 | str (x:Lp):Rds K H (.str x) (.str x)
 | tup {a:Lg} {xs:Lf} {ds:List PyData}:SqT K H a xs->RdsAll K H xs ds->Rds K H (.ref a) (.tuple ds)
 | lst {a:Lg} {xs:Lf} {ds:List PyData}:SqL K H a xs->RdsAll K H xs ds->Rds K H (.ref a) (.list ds)
inductive RdsAll(K:Li)(H:Hp):Lf->List PyData->Prop
 | nil:RdsAll K H [] []
 | cons {x:V} {xs:Lf} {d:PyData} {ds:List PyData}:Rds K H x d->RdsAll K H xs ds->RdsAll K H (x::xs) (d::ds)
end
section
variable{X:Cx}{bo:La}{σ:St}{H:Hp}{s:Lj}
mutual
theorem Inv.rds(I:Inv X bo σ H s):∀{v} {d} {u},Rds X.K H v d->RelV v u->∃as,Reads s.heap u d as
 | _,_,_,.non,r=>by cases (show _=Value.none from r);exact⟨_,.none⟩
 | _,_,_,.bl b,r=>by cases (show _=Value.bool b from r);exact⟨_,.bool b⟩
 | _,_,_,.int i,r=>by obtain⟨t,rfl⟩:=r;exact⟨_,.int i t⟩
 | _,_,_,.str x,r=>by obtain⟨t,rfl⟩:=r;exact⟨_,.str x t⟩
 | _,_,_,.tup (a:=a) h hs,r=>by
  cases (show _=Value.ref a from r);obtain⟨its,c,⟨o,e,f,n,hd⟩,_⟩:=I.tuple h;obtain⟨as,q⟩:=Inv.rdsAll I hs c;exact⟨as,.tuple e f hd (by simpa using q)⟩
 | _,_,_,.lst (a:=a) h hs,r=>by
  cases (show _=Value.ref a from r);obtain⟨its,c,p,_⟩:=I.list h;obtain⟨o,e,f,n,hd⟩:=p.isList;obtain⟨as,q⟩:=Inv.rdsAll I hs c;exact⟨_,.list e f hd (by simpa using q)⟩
theorem Inv.rdsAll(I:Inv X bo σ H s):∀{vs} {ds} {us},RdsAll X.K H vs ds->Vals vs us->∃as,ReadsAll s.heap us ds as
 | _,_,_,.nil,.nil=>⟨_,.nil⟩
 | _,_,_,.cons h hs,.cons r rs=>by
  obtain⟨as,q⟩:=Inv.rds I h r;obtain⟨bs,p⟩:=Inv.rdsAll I hs rs;exact⟨_,.cons q p⟩
end
end
section
variable{X:Cx}
def ztn(f:X.A.units+64<cLine):OpR X (compareOp .Eq) (λx y H Q=>∃d e,Rds X.K H x d/\Rds X.K H y e/\SeqAt.shaped d=true/\SeqAt.shaped e=true/\Q (.bl (PyData.eqv d e)) H):=by
 intro bo s σ H x y u v Q I l a h;obtain⟨d,e,hd,b,c,i,q⟩:=h;obtain⟨as,j⟩:=I.rds hd l;obtain⟨bs,rb⟩:=I.rds b a;exact eq_dataH j rb c i f ⟨.bl (PyData.eqv d e),H,I,rfl,q⟩
end
theorem eqv_ints:∀ns ms:Lc,PyData.eqvAll (ns.map PyData.int) (ms.map PyData.int)=decide (ns=ms)
 | [],[]=>by simp[PyData.eqvAll]
 | [],_::_=>by simp[PyData.eqvAll]
 | _::_,[]=>by simp[PyData.eqvAll]
 | a::r,b::t=>by
  simp only[List.map_cons,PyData.eqvAll,PyData.eqv,eqv_ints r t]
  by_cases h:a=b <;> by_cases h':r=t <;> simp[h,h']
end L2
namespace HT
open PySem PyProof.Rows
section
open PySem.SeqAt
open PySem.AutoSeq1 (wpAny_loadPart')
open PySem.MeetsSeq PySem.MeetsSeq2 PySem.MeetsSeq3
def zsd(A:Around)(s:Lj)(a:Int)(t:Tok)(c:Int)(u:Tok)(prog:Ll)(w:Lk)(E:Va)(Q:Va)(h:Q (.bool (decide (c<a))) s) :
  wpAny (model prog w) A (richCompare .Gt (.int a t) (.int c u)) Q E s:=
 (PyProof.Rows.gt_int h:wpAny (model prog w) A (compareOp .Gt (.int a t) (.int c u)) Q E s)
def zia(l b:Lg)(i f:Array Lh)(n O:Nat)(dd I:Option Lg)(M J:Array (Option Lh))(E H:Lc)(hi:IntsAre i.toList E)(L:IntsAre f.toList H) :
  Meets (Builtin.«tuple.__gt__» ⟨[.ref l,.ref b],[]⟩)
   (λ_ R s=>s.heap.get? l=some { cls:=.type "tuple",dict:=dd,data:=.seq i n,slots:=M }/\s.heap.get? b=some { cls:=.type "tuple",dict:=I,data:=.seq f O,slots:=J } /\
    R (.ok (.ret (.bool (lexLt H E)))) s):=
 .of_wp λprog w A R s h=>by
  obtain⟨D,g,d,tk,G⟩:=s;obtain⟨Q,N,h⟩:=h;have f2:=AutoSeq1.sub_tuple_tuple;have z1:i.size=E.length:=by rw[<- hi.length];simp
  have z2:f.size=H.length:=by rw[<- L.length];simp
  wp_walk using wpAny_loadPart' Q,wpAny_loadPart' N,wpAny_forIn_list _ (λrest b s'=>b.1=none/\s'=⟨D,g,d,tk,G⟩/\∃(vs ws:List Lh) (m o:Lc),rest=vs.zip ws /\
   IntsAre vs m/\IntsAre ws o/\m.length+f.size=o.length+i.size/\R (.ok (.ret (.bool (lexLt o m)))) ⟨D,g,d,tk,G⟩) _
  case turn=>
   rintro⟨y,x⟩ rest b s' ⟨C,rfl,vs,ws,m,o,hz,B,p,j,z⟩
   cases B with
   | nil=>rw[List.zip_nil_left]at hz;cases hz
   | cons a t hvi'=>
    cases p with
    | nil=>rw[List.zip_nil_right]at hz;cases hz
    | cons c u hwi'=>
     rw[List.zip_cons_cons]at hz;injection hz with hyx hrest
     injection hyx with hy hx
     subst hy hx;rw[lexLt_cons]at z;simp only[List.length_cons]at j;obtain⟨e,P,r⟩:=eqAt_int A.in1 ⟨D,g,d,tk,G⟩ a t c u;refine Ya (P prog w _ _ ?_)
     cases e with
     | true=>
      rw[Yl (r.mp rfl).symm]at z;wp_walk;exact⟨Z,Z,_,_,_,_,hrest,hvi',hwi',by lia,z⟩
     | false=>
      rw[Yh (λq=>absurd (r.mpr q.symm) Yt)]at z;have K:=zsd A.in1 ⟨D,g,d,tk,G⟩ a t c u prog w;wp_walk using K;exact⟨_,Z,by simpa using z⟩
  case fin=>
   rintro⟨b1,b2⟩ s' ⟨C,rfl,vs,ws,m,o,hz,B,p,j,z⟩;simp only at C;subst C;have hv:lexLt o m=decide (f.size<i.size):=by
    cases B with
    | nil=>
     cases p with
     | nil=>
      simp only[List.length_nil]at j
      rw[ze7];exact(Yw (by lia)).symm
     | cons c u hw=>
      simp only[List.length_nil,List.length_cons]at j
      rw[lexLt_cons_nil];exact(Yw (by lia)).symm
    | cons a t hv=>
     cases p with
     | nil=>
      simp only[List.length_nil,List.length_cons]at j
      rw[lexLt_nil_cons];exact(Yo (by lia)).symm
     | cons c u hw=>
      rw[List.zip_cons_cons]at hz
      cases hz
   rw[hv]at z;wp_walk;exact⟨_,Z,by simpa[Builtin.Tuple.tupleCompareSizes]using z⟩
  case h=>
   exact⟨Z,Z,i.toList,f.toList,E,H,Z,hi,L,by lia,h⟩
end
def gt_tupInts(y:IsTup s.heap l items)(r:IsTup s.heap b items2)(hi:IntsAre items.toList ns)(q:IntsAre items2.toList ms)
  (p:A.units<cLine) (h:Q (.bool (lexLt ms ns)) s):wpAny (model prog w) A (compareOp .Gt (.ref l) (.ref b)) Q E s:=by
 obtain⟨⟨cls,dd,data,o⟩,i,j,n,hd⟩:=id y;obtain⟨⟨cls2,f,data2,e⟩,a,c,m,d⟩:=id r;simp only at j hd c d;subst j hd c d;exact richCompare_meets_room (op:=.Gt) ⟨_,i,Z⟩ ⟨_,a,Z⟩ PySem.F.slot_tuple_gt PySem.F.entry_tuple_gt (PySem.F.args_tuple_gt_2 _ _) (zia l b items items2 n m dd f o e ns ms hi q)
  ⟨i,a,show Value.bool (lexLt ms ns)≠Value.notImplemented/\Q (.bool (lexLt ms ns)) s from⟨(λx=>nomatch x),h⟩⟩ p
end HT
namespace L2
open PySem PySem.Spec PyProof.Rows
variable{X:Cx}
def rGtT(K:Li):R2:=λx y H Q=>∃a b ns ms,x=.ref a/\y=.ref b/\SqT K H a (ns.map V.int)/\SqT K H b (ms.map V.int)/\Q (.bl (HT.lexLt ms ns)) H
def zxf(j:X.A.units<cLine):OpR X (compareOp .Gt) (rGtT X.K):=by
 intro bo s σ H x y v u Q I w i h;obtain⟨a,b,d,e,rfl,rfl,f,p,q⟩:=h
 cases w
 cases i;obtain⟨its,n,r,_⟩:=I.tuple f;obtain⟨c,m,o,_⟩:=I.tuple p;have z:IntsAre its.toArray.toList d:=zcf n;have l:IntsAre c.toArray.toList e:=zcf m;exact HT.gt_tupInts r o z l j ⟨.bl (HT.lexLt e d),H,I,Z,q⟩
end L2
namespace PySem
namespace F
def zjj:Manifest.owners.lookup (String.ofList ['d','e','s','r','e','v','e','r'].reverse)=some Manifest.sig_reversed:=by kernel_rfl
def slot_rvd_next:Slot "reversed" "__next__" "reversed.__next__":=
 .of (owner:="reversed") (n:="__next__") (by rw[typeLookup_type,builtinLookup_eq_fast];kernel_rfl) (by decide +kernel) (by decide +kernel) (by decide +kernel)
  (by first | exact .inl (by decide +kernel) | exact .inr (by decide +kernel)) (by rw[isSubtype_type];kernel_rfl)
def entry_rvd_next:entryFor table "reversed.__next__" = some Builtin.«reversed.__next__»:=entryFor_of_tree (by kernel_rfl)
def args_rvd_next_1(a:Lh):argsOk "reversed.__next__" ⟨[a],[]⟩:=by
 unfold argsOk;rw[signature?_of (id:="reversed.__next__") (n:=['_','_','t','x','e','n','_','_']) (o:=['d','e','s','r','e','v','e','r']) (by kernel_rfl) zjj];kernel_rfl
def slot_rvd_iter:Slot "reversed" "__iter__" "reversed.__iter__":=
 .of (owner:="reversed") (n:="__iter__") (by rw[typeLookup_type,builtinLookup_eq_fast];kernel_rfl) (by decide +kernel) (by decide +kernel) (by decide +kernel)
  (by first | exact .inl (by decide +kernel) | exact .inr (by decide +kernel)) (by rw[isSubtype_type];kernel_rfl)
def args_rvd_iter_1(a:Lh):argsOk "reversed.__iter__" ⟨[a],[]⟩:=by
 unfold argsOk;rw[signature?_of (id:="reversed.__iter__") (n:=['_','_','r','e','t','i','_','_']) (o:=['d','e','s','r','e','v','e','r']) (by kernel_rfl) zjj];kernel_rfl
def entry_rvd_iter:entryFor table "reversed.__iter__" = some Builtin.«dict_keyiterator.__iter__»:=
 entryFor_alias (id':="dict_keyiterator.__iter__") (by kernel_rfl) (by first | rfl | decide +kernel | (unfold String.splitOn;simp +decide [String.splitOnAux])) (by decide +kernel) (by kernel_rfl)
def lookup_tuple_reversed:typeLookup (.type "tuple") "__reversed__" = pure none:=by rw[typeLookup_type,builtinLookup_eq_fast];kernel_rfl
def zh9:Slot "reversed" "__init__" "object.__init__":=
 .of (owner:="object") (n:="__init__") (by rw[typeLookup_type,builtinLookup_eq_fast];kernel_rfl) (by decide +kernel) (by decide +kernel) (by decide +kernel)
  (by first | exact .inl (by decide +kernel) | exact .inr (by decide +kernel)) (by rw[isSubtype_type];kernel_rfl)
def called_reversed:TypeCalled "reversed" "reversed.__new__" "object.__init__":=
 ⟨by decide +kernel,by decide +kernel,⟨_,_,mro_reversed⟩,made_reversed,by decide +kernel,by rw[isSubtype_type];kernel_rfl,zh9⟩
end F
end PySem
namespace L2
open PySem PySem.Spec PyProof.Rows PySem.MeetsSeq
def zrk(t:Lg)(b:Array Lh):Meets (Builtin.«reversed.__new__» ⟨[.type "reversed",.ref t],[]⟩) (λ_ R s=>IsTup s.heap t b/\(b.size:Int)<2^63 /\
   R (.ok (.ret (.ref s.heap.objs.size))) { s with heap:=s.heap.push { cls:=.type "reversed",data:=.fields #[.ref t,rawInt ((b.size:Int)-1)] },toks:=s.toks+1+1 }):=
 .of_wp λprog w A R s h=>by
  obtain⟨c,hz,h⟩:=h;unfold Builtin.«reversed.__new__»;refine Ya (wpAny_of_eq (newClass_reversed _) ?_)
  try dsimp only
  refine Ya (wpAny_of_eq (a:=()) (by first | rfl | kernel_rfl) ?_);refine Ya (wpAny_of_eq (a:=()) (by first | rfl | kernel_rfl) ?_)
  try dsimp only
  refine Ya (wpAny_specialOf c.typeIs F.lookup_tuple_reversed ?_)
  try dsimp only
  refine Ya ?_;show wpAny _ _ (isInstance (.ref t) (.type "dict") >>= _) _ _ _;refine Ya (wpAny_isInstance c.typeIs F.sub_tuple_dict ?_);rw[Yh Yt];refine Ya (wpAny_specialOf c.typeIs slot_tuple_getitem.lookup ?_);dsimp only;rw[Yl (by decide)];refine Yb ?_;simp only[Bool.not_true,Bool.false_eq_true,if_false];refine Ya (len_tuple c hz ?_);refine Ya (wpAny_of_eq (a:=some (b.size:Int)) rfl ?_);dsimp only;refine Ya ?_;unfold Builtin.SmallTypes.newRecord;dsimp only;refine Jn ?_;exact Yb ⟨_,Z,h⟩
section
variable{prog:Ll}{w:Lk}{A:Around}{E:Va}{s:Lj}
def IsRvd(h:Lo)(a t:Lg)(i:Int):Prop:=∃o,h.get? a=some o/\o.cls=.type "reversed"/\o.data=.fields #[.ref t,rawInt i]
def IsRvd.typeIs(x:IsRvd s.heap a t i):s.TypeIs (.ref a) "reversed":=let ⟨o,b,c,_⟩:=x;⟨o,b,c⟩
def zfe(a:IsTup s.heap t items)(hz:(items.size:Int)<2^63)
  (h:Q (.ref s.heap.objs.size) { s with heap:=s.heap.push { cls:=.type "reversed",data:=.fields #[.ref t,rawInt ((items.size:Int)-1)] },toks:=s.toks+1+1 }):wpAny (model prog w) A (call (.type "reversed") [.ref t]) Q E s:=by
 refine callType_new F.called_reversed (by decide) (F.typeCall_reversed_1 _) (F.newCall_reversed_1 _) (λobj=>F.args_object_init_2 obj _) F.entry_reversed_new (zrk t items) ⟨a,hz,?_⟩;exact⟨⟨_,Yk _ rfl,Z⟩,h⟩
def zhe{i:Nat}(b:IsRvd s.heap it t (i:Int))(e:IsTup s.heap t items)(hz:(items.size:Int)<2^63)(d:items[i]? = some x)
  (h:∀h',IsRvd h' it t ((i:Int)-1)->Heap.SameBut it s.heap h'->Q (some x) { s with heap:=h',toks:=s.toks+1 }):wpAny (model prog w) A (pyNext (.ref it)) Q E s:=by
 obtain⟨o,c,l,hd⟩:=id b;have hi:i<items.size:=by
  rcases Jg i items.size with q | q
  ·exact q
  ·rw[Array.getElem?_eq_none q]at d;cases d
 have f:seqIndex? (i:Int) items.size=some i:=by
  unfold seqIndex?;have m:¬(i:Int)<0:=by lia
  simp only[m,if_false]
  rw[Yl (by simp;lia)];simp
 unfold pyNext;refine Ya (wpAny_attempt (Ja (name:=Str.ofString "__next__") b.typeIs F.slot_rvd_next
  (Y7 F.slot_rvd_next b.typeIs F.entry_rvd_next ?_ (F.args_rvd_next_1 _))))
 unfold Builtin.«reversed.__next__»;refine Ya (wpAny_of_eq (a:=(Value.ref it,[])) rfl ?_)
 try dsimp only
 refine Ya (Jk c hd (x:=.ref t) rfl ?_);refine Ya (Jk c hd (x:=rawInt (i:Int)) rfl ?_);show wpAny _ _ (if (i:Int)<0 then _ else _) _ _ s;rw[Yh (by lia)];refine Ya (wpAny_specialOf e.typeIs slot_tuple_getitem.lookup ?_);rw[Yh (by simp)];refine Ya (wpAny_mkInt ?_);refine Ya (wpAny_attempt (getItem_tuple (j:=i) e (by lia) (by lia) f (by simpa using d) ?_));dsimp only;refine Ya (Jk c hd (x:=rawInt (i:Int)) rfl ?_);show wpAny _ _ (setField (.ref it) 1 (rawInt ((i:Int)-1)) >>= _) _ _ _;refine Ya (wpAny_setField c hd (by simp) ?_);refine Yb ⟨x,Z,Yb (h _ ?_ (Heap.SameBut.update ..))⟩;exact⟨_,Heap.get?_update_self _ c (Obj.isFreed_of_fields (Obj.data_mapFields hd _)),(Obj.cls_mapFields ..).trans l,by
  rw[Obj.data_mapFields hd];simp⟩
def zhg(h:A.handled=none)(c:IsRvd s.heap it t (-1))
  (j:∀h',Heap.ExtBut it s.heap h'->Q none { s with heap:=h' }):wpAny (model prog w) A (pyNext (.ref it)) Q E s:=by
 obtain⟨o,d,hc,hd⟩:=id c;unfold pyNext;refine Ya (wpAny_attempt (Ja (name:=Str.ofString "__next__") c.typeIs F.slot_rvd_next
  (Y7 F.slot_rvd_next c.typeIs F.entry_rvd_next ?_ (F.args_rvd_next_1 _))))
 unfold Builtin.«reversed.__next__»;refine Ya (wpAny_of_eq (a:=(Value.ref it,[])) rfl ?_)
 try dsimp only
 refine Ya (Jk d hd (x:=.ref t) rfl ?_);refine Ya (Jk d hd (x:=rawInt (-1)) rfl ?_);show wpAny _ _ (if (-1:Int)<0 then _ else _) _ _ s;rw[Yl (by decide)];refine Ya (wpAny_rule ?_);refine Ya ?_;show wpAny _ _ (setField (.ref it) 1 (rawInt (-1)) >>= _) _ _ _;refine Ya (wpAny_setField d hd (by simp) ?_);have f:=Heap.get?_update_self (Obj.mapFields λx=>x.setIfInBounds 1 (rawInt (-1))) d (Obj.isFreed_of_fields (Obj.data_mapFields hd _));refine wpAny_setField f (Obj.data_mapFields hd _) (by simp) ?_;refine Ya ?_;show wpAny _ _ (newExc (.type "StopIteration") [] >>= _) _ _ _;refine Ya ?_;simp only[newExc,newTuple];refine Ya (Jn ?_ (by size_fits));refine Ya (m:=firstArgMember _ _) (wpAny_of_eq (a:=Value.none) (by first | rfl | (simp only[firstArgMember];rfl)) ?_);refine Jn ?_ (by size_fits);simp only[raiseNew];refine Ya (wpAny_handled ?_)
 first | rw[show A.in1.handled=none from h] | rw[h]
 refine Ya (Yb (wpAny_throw ?_));refine Ya (wpAny_isInstance (T:="StopIteration") (b:=true) ⟨_,Yk _ rfl,Z⟩ isSubtype_stop ?_);exact Yb (j _ λb o i e=>Ye _ (Ye _ ((Heap.SameBut.update ..).extBut b o i ((Heap.SameBut.update ..).extBut b o i e))))
def zhq(a:IsRvd s.heap it t i)(h:Q (.ref it) s):wpAny (model prog w) A (pyIter (.ref it)) Q E s:=by
 refine wpAny_pyIter_slot a.typeIs F.slot_rvd_iter (Y7 F.slot_rvd_iter a.typeIs F.entry_rvd_iter ?_ (F.args_rvd_iter_1 _));show wpAny _ _ (ret (.ref it)) _ _ s;exact Yb ⟨_,Z,"reversed",_,a.typeIs,F.slot_rvd_next.lookup,h⟩
end
def Itv(K:Li)(a:Lg)(n:Nat):It:=
 ⟨λi H=>i<n/\∃xs,SqT K H a xs/\xs.length=n,λi H x H'=>H'=H/\∀xs,SqT K H a xs->xs[n-1-i]? = some x,λi H=>i=n⟩
def zrc{K:Li}(a it:Lg)(n:Nat):Turn P w K tg (Itv K a n) [it] it (λi h=>IsRvd h it a ((n:Int)-1-(i:Int))) where
 mem:=by simp
 obj:=λi h st b c=>by
  simp only[List.mem_cons,List.not_mem_nil,or_false]at c
  subst c;obtain⟨o,f,B,hd⟩:=st;exact⟨o,f,λv q=>by rw[hd]at q;cases q⟩
 keep:=λi h h' st k=>by obtain⟨o,f,r⟩:=st;exact⟨o,k it (by simp) o f,r⟩
 item:=by
  intro X l hw y B i bo s Q H E I j st hg;subst l hw y;obtain⟨hi,xs,M,hn⟩:=hg;obtain⟨its,L,p,hz⟩:=I.tuple M;have hl:=L.length;have hlt:=zgs;have m:(n:Int)-1-(i:Int)=((n-1-i:Nat):Int):=by lia
  rw[m]at st;obtain⟨x,ex⟩:∃x,xs[n-1-i]? = some x:=⟨xs[n-1-i],by simp⟩;obtain⟨u,U,Y⟩:=L.get ex;refine zhe st p (by rw[Ys];lia) (x:=u) (by simpa using U) λh' d R=>⟨u,Z,?_⟩
  obtain⟨o,f,G,hd⟩:=id d;refine zo9 (s:={ s with heap:=h',toks:=s.toks+1 }) f G hd (by decide) ?_;obtain⟨C,D,T,z,J,A⟩:=j it (by simp);have S:((n-1-i:Nat):Int)-1=(n:Int)-1-((i+1:Nat):Int):=by lia
  rw[S]at d;exact⟨x,H,I.turned (t':=s.toks+1) (λb o c e=>R.extBut b o c e) C D z J A,Y,⟨Z,λys N=>by rw[I.tuple_inj N M];exact ex⟩,d,λb c=>(j b c).1⟩
 done:=by
  intro X l hw y B i bo s Q H E I j st hg;subst l hw y;obtain rfl:i=n:=hg;have m:(i:Int)-1-(i:Int) = -1:=by lia
  rw[m]at st;obtain⟨C,D,T,z,J,A⟩:=j it (by simp);exact zhg (I.ok.hd B) st λh' O=>⟨Z,I.turned (t':=s.toks) (λb o c e=>O b o c e) C D z J A⟩
 self:=λ_ _ _ _ _ st h=>zhq st h
def iRvd(K:Li)(ta:TA):TI:=λσ H R=>ta σ H λvs H1=>∃a xs,vs=[.ref a]/\SqT K H1 a xs/\R (Itv K a xs.length) H1
def zib:bootBuiltins "reversed" = some (.type "reversed"):=by kernel_rfl
def zwt{X:Cx}{D:Ln}{p f:Pos}{i:Ln}{m:TA}(hg:Gl X "reversed")(w:X.mg "reversed" = none)(r:PA X [i] m)
  (B:starEach [i] X.env=(false,eval i X.env)::starEach [] X.env:=by rfl) (l:(backTo f (starEach [] X.env)).any (·.1)=false:=by rfl) :
  PI X D (.Call (.Name "reversed" p) [i] [] f) (iRvd X.K m):=by
 intro bo s n H R I h;refine wpAny_Call_Name_kw (zfu I hg w zib ?_ (by decide) (by decide));refine PyProof.Rows.callWith_type1 (thn (r bo s n H _ I h) λus c ⟨vs,H1,j,C,a,xs,x,A,q⟩=>?_) B l;subst x;obtain⟨u,rfl,G⟩:=C.one
 cases G;obtain⟨its,y,pt,hz⟩:=j.tuple A;have E:=y.length;have hlt:=zgs;refine zfe pt (by rw[Ys];lia) ?_;have d:IsRvd (c.heap.push { cls:=.type "reversed",data:=.fields #[.ref a,rawInt ((its.toArray.size:Int)-1)] }) c.heap.objs.size a ((xs.length:Int)-1-((0:Nat):Int)):=by
  refine⟨_,Yk _ rfl,Z,?_⟩;have e:((its.toArray.size:Nat):Int)-1=(xs.length:Int)-1-((0:Nat):Int):=by rw[Ys,E];lia
  rw[e]
 refine zhq d ?_;have J:Inv X bo n H1 { c with heap:=c.heap.push { cls:=.type "reversed",data:=.fields #[.ref a,rawInt ((its.toArray.size:Int)-1)] },toks:=c.toks+1+1 }:=j.kept (t':=c.toks+1+1) λb o e=>Ye _ e
 refine⟨c.heap.objs.size,[c.heap.objs.size],_,_,H1,Z,J,zrc a c.heap.objs.size xs.length,d,λb z=>?_,q⟩;obtain rfl:b=c.heap.objs.size:=by simpa using z
 exact j.fpOk (Yi _) (j.hok.fresh (Yi _))
def zqt{K:Li}(h:SqT K H1 a xs):Walk (Itv K a xs.length) H1 xs.length (λi x _=>xs[xs.length-1-i]? = some x):=
 ⟨λi H' e hi=>⟨hi,xs,e.seqT h,Z⟩,λH' e=>Z,λi H' x H2 e hi y=>by
  obtain⟨rfl,q⟩:=y;exact⟨Same.refl _,q xs (e.seqT h)⟩⟩
def zos{J:It}{n:Nat}{P:Nat->V->Hp->Prop}{mp:List (Option Nat)}{m:TI}{g:TG}{q:TT}{o:TE}{j:St}{H H1:Hp}{Q:VK}(S:Walk J H1 n P)(A:n<=1000)(l:∀R,R J H1->m j H R)(c:St->Prop)(p:Nat->Bool)(f:Nat->V)(w:c (st0 mp j))
  (step:∀i x σ' H2,i<n->c σ'->Same H1 H2->P i x H2->∀(Ny:V->St->Hp->Prop) (Nn:St->Hp->Prop),(∀a h,c a->Same H2 h->p i=true->Ny (f i) a h)->(∀a d,c a->Same H2 d->p i=false->Nn a d) ->
   g x σ' H2 λa s=>q a s λb d=>if b=true then o a d λv h=>Ny v a h else Nn a d)
  (z:∀D H',Same H1 H'->H' D=some (.lst (((List.range n).filter p).map f))->Q (.ref D) H'):tComp mp m g q o j H Q:=by
 unfold tComp;refine l _ λD y=>?_
 exact zgx S y (Yr A (by rw[sizeLine_eq];decide)) c p f w step λH' e r=>z D H' e r
end L2
namespace L2
open PySem PySem.Spec PyProof.Rows
def zse{cl:List (Lp×Lg)}(h:((own,n)::cl).lookup x=some c):(x=own/\c=n)\/(x≠own/\cl.lookup x=some c):=by
 rw[Jl]at h
 cases q:(x == own) with
 | true=>rw[q]at h;exact .inl ⟨Jx q,(Jf h).symm⟩
 | false=>
  rw[q]at h;have a:x≠own:=λz=>by
   rw[z,beq_self_eq_true]at q
   cases q
  exact .inr ⟨a,h⟩
def zun{a:Lp}{n:Lg}:((a,n)::cl).lookup a=some n:=by
 rw[Jl,beq_self_eq_true]
def zvh{a x:Lp}{n:Lg}(h:x≠a):((a,n)::cl).lookup x=cl.lookup x:=by
 rw[Jl]
 cases q:(x == a) with
 | true=>exact absurd (Jx q) h
 | false=>rfl
end L2
namespace L2
open PySem PySem.Spec PyProof.Rows
def SubC(cl cells:List (Lp×Lg)):Prop:=∀x c,cl.lookup x=some c->cells.lookup x=some c
def zcy:SubC [] cells:=λ_ _ h=>nomatch h
def zbn(h:cells.lookup a=some n)(t:SubC cl cells):SubC ((a,n)::cl) cells:=λx c e=>by
 rcases zse e with⟨rfl,rfl⟩ | ⟨_,e⟩
 ·exact h
 ·exact t x c e
theorem zqa:∀{cl:List (Lp×Lg)} {x},x∈cl.map (·.1)->∃c,cl.lookup x=some c
 | (a,n)::cl,x,h=>by
  by_cases q:x=a
  ·exact⟨n,by rw[q];exact zun⟩
  ·rcases Yj.mp h with z | z
   ·exact absurd z q
   ·obtain⟨c,e⟩:=zqa z;exact⟨c,(zvh q).trans e⟩
def zii{a:List (Lp×NameKind)}{cl:List (Lp×Lg)}(e:cl.map (·.1)=fs)(h:∀y∈a,y.2=.free->y.1∈fs):∀y∈a,y.2=.free->∃c,cl.lookup y.1=some c:=
 λy d b=>zqa (by rw[e];exact h y d b)
def MapC(X:Cx)(scope:Scope)(mp:List (Option Nat))(N:List Lp):Prop:=∀(i j:Nat) x,mp[i]? = some (some j)->N[i]? = some x->X.N[j]? = some x/\(X.env.scope.names.lookup x=some .cell\/X.env.scope.names.lookup x=some .free)/\scope.names.lookup x=some .free
def zcx:MapC X scope [] N:=λi j x h=>by simp at h
def zb7(t:MapC X scope mp N):MapC X scope (none::mp) (y::N):=λi j x a b=>by
 cases i with
 | zero=>cases a
 | succ i=>exact t i j x (by simpa using a) (by simpa using b)
def zbj(h:X.N[k]? = some y)(d:X.env.scope.names.lookup y=some .cell\/X.env.scope.names.lookup y=some .free)(c:scope.names.lookup y=some .free)
  (t:MapC X scope mp N):MapC X scope (some k::mp) (y::N):=λi j x a b=>by
 cases i with
 | zero=>
  simp only[List.getElem?_cons_zero,Option.some.injEq]at a b
  subst a b;exact⟨h,d,c⟩
 | succ i=>exact t i j x (by simpa using a) (by simpa using b)
def zhw{J:It}{n:Nat}{P:Nat->V->Hp->Prop}{mp:List (Option Nat)}{q:TI}{g:TG}{s:TT}{r:TE}{m:St}{H H1:Hp}{Q:VK}(S:Walk J H1 n P)(E:n<=1000)(o:∀R,R J H1->q m H R)(h:St->Prop)(p:Nat->Bool)(F:Nat->V->Hp->Prop)
  (f:∀i v H H',Same H H'->F i v H->F i v H') (d:∀i v H a ys ys',H a=some (.lst ys)->F i v H->F i v (upd H a (.lst ys'))) (A:h (st0 mp m))
  (step:∀i x σ' H2,i<n->h σ'->Same H1 H2->P i x H2->∀(Ny:V->St->Hp->Prop) (Nn:St->Hp->Prop),(∀v c j,h c->Same H2 j->F i v j->p i=true->Ny v c j)->(∀c l,h c->Same H2 l->p i=false->Nn c l) ->
   g x σ' H2 λc z=>s c z λb l=>if b=true then r c l λv j=>Ny v c j else Nn c l)
  (C:∀D H' ys,Same H1 H'->H' D=some (.lst ys)->Paired (λi v=>F i v H') ((List.range n).filter p) ys->Q (.ref D) H'):tComp mp q g s r m H Q:=by
 unfold tComp;refine o _ λD B=>?_
 exact zgk S B (Yr E (by rw[sizeLine_eq];decide)) h p F f d A step λH' ys e w y=>C D H' ys e w y
end L2
namespace L2
open PySem PySem.Spec PyProof.Rows
structure Mk0(K:Li)(C:Lg):Prop where
 makes:W.makesIn K C=true
 init:W.findIn K (.ref C) "__init__" = some (some (.builtin "object.__init__"))
 kp:W.keepIn K (.ref C)=true
def tMk0(C:Lg):TE:=λ_ H Q=>∀x dx,H x=none->H dx=none->dx≠x->Q (.ref x) (upd (upd H dx (.own x)) x (.ins C dx []))
def zkn{X:Cx}{C:Lg}{x:Lp}{p c:Pos}(M:Mk0 X.K C)(i:X.mg x=some (.ref C))(hg:Gl X x:=by rfl)(d:(x == ("__debug__" : Lp))=false:=by decide):PE X (.Call (.Name x p) [] [] c) (tMk0 C):=by
 intro bo s σ H Q I h;refine wpAny_Call_Name_kw (zgy I hg i (W.callWith_K0 I.kIn M.kp ?_) d);have n:=h (s.heap.objs.size+1) s.heap.objs.size (I.hok.fresh (Nat.le_succ _)) (I.hok.fresh (Yi _)) (Y0 (Nat.lt_succ_self _));have m:=Inv.made (C:=C) I;refine wpAny_call (zng I.kIn M.makes M.init (λa=>W.Looks.of_pure (W.oi_bind a)) ?_);have Y:=W.makes_of (M:=model X.prog X.w) I.kIn M.makes;have j:((s.heap.push W.emptyDict).push (W.instObj C s.heap.objs.size)).get? (s.heap.objs.size+1)=some (W.instObj C s.heap.objs.size):=by
  have:=Yk (s.heap.push W.emptyDict) (o:=W.instObj C s.heap.objs.size) rfl;rwa [Heap.size_push]at this
 have f:W.Looks (model X.prog X.w) ((s.heap.push W.emptyDict).push (W.instObj C s.heap.objs.size)) (typeOf (.ref (s.heap.objs.size+1))) (.ref C):=(W.Looks.ld j).andThen .now;have l:W.Looks (model X.prog X.w) ((s.heap.push W.emptyDict).push (W.instObj C s.heap.objs.size)) (isInstance (.ref (s.heap.objs.size+1)) (.type "object")) true:=
  f.andThen (Y.top.keeps λb o e=>Ye _ (Ye _ e))
 refine codeAny_call_builtin W.oi_plain W.entry_oi (@W.check_slot (model X.prog X.w) _ _ _ "object.__init__" "object" "__init__" (.ref (s.heap.objs.size+1)) [] [] _ W.oi_kind W.oi_split l (W.oi_args (.ref (s.heap.objs.size+1))) ?_);rw[W.oi_run];exact Yb (And.intro rfl ⟨.ref (s.heap.objs.size+1),_,m,Z,n⟩)
end L2
namespace L2
open PySem PySem.Spec PyProof.Rows
abbrev yes2:Int->Int->Bool:=λ_ _=>true
def zgc(φ:Int->Int->Int)(xs ys:Lc):zipV yes2 (λx y=>.int (φ x y)) xs ys=(List.zipWith φ xs ys).map V.int:=by
 unfold zipV;rw[Yu.mpr (λ_ _=>Z)];refine List.ext_getElem? λi=>?_
 rw[Ym,Ym,List.getElem?_zipWith];by_cases h:i<min xs.length ys.length
 ·have a:i<xs.length:=by lia
  have b:i<ys.length:=by lia
  rw[List.getElem?_range h,Yc a,Yc b];simp[List.getD,a,b]
 ·rw[Yy (by simpa using h)];rcases Jg i xs.length with q | q
  ·rw[Yy (l:=ys) (by lia)]
   cases xs[i]? <;> rfl
  ·rw[Yy (l:=xs) q];rfl
def zrh(xs:Lc)(f:Int->Int):(List.range xs.length).map (λi=>f (xs.getD (xs.length-1-i) 0))=xs.reverse.map f:=by
 refine List.ext_getElem? λi=>?_
 rw[Ym,Ym];by_cases h:i<xs.length
 ·rw[List.getElem?_range h,List.getElem?_reverse h,Yc (show xs.length-1-i<xs.length by lia)];simp[List.getD,show xs.length-1-i<xs.length by lia]
 ·rw[Yy (by simpa using h),Yy (by rw[List.length_reverse];lia)];rfl
def znw{K:Li}(f:X.K=K)(h:X.calm=true)(a:X.N.Nodup)(e:X.N[0]? = some x)(d:X.N[1]? = some y)(b:X.env.scope.names.lookup x=some .local)(c:X.env.scope.names.lookup y=some .local) :
  PG X (.Tuple [.Name x px,.Name y py] k tp) (gTup K 2 (zkx (zap 0) (zkx (zap 1) gNil))):=by
 subst f;exact zc4 h (za1 (zas (i:=0) a e (.inl b) (.inr b)) (za1 (zas (i:=1) a d (.inl c) (.inr c)) zcd))
end L2
namespace L2
open PySem PySem.Spec PyProof.Rows
def zpb{j n : St}{C:Lg}{h:St->Hp->Prop}(M:Inv X bo j H0 s0)(H:s0.heap.objs.size<=C)(I:Inv X bo n H' s')(N:H' C=none)
  (l:∃m,s'.heap.Ns C m) (hg:PG X (.Name x pos') (zap i)) (r:RelV v u) (q:h (n.set i (some v)) H') :
  wpAny (model X.prog X.w) X.A (assign (.Name x pos') X.env u) (λ_ c=>∃m,c.heap.Ns C m/\∀h',Heap.SameBut C c.heap h'->∃a f,Inv X bo a f { c with heap:=h' }/\h a f) X.xe s':=by
 obtain⟨m,o,P,B,p,hd,rest⟩:=l;have fp:FpOk X bo H' C:=M.fpOk H N;have K:=I.pinned (fp:=[C]) (λb d=>by
  obtain rfl:b=C:=by simpa using d
  exact fp) (λb d=>by
  obtain rfl:b=C:=by simpa using d
  exact⟨o,p,λv z=>by rw[hd]at z;cases z⟩)
 refine thn (hg _ _ _ _ _ h K r q) λ_ O ⟨a,f,y,J⟩=>?_
 have s:=y.pin (C,o) (Yg _ (Yg _ (zdd (by simp) p)));refine⟨m,⟨o,P,B,s.1,hd,rest⟩,λh' G=>⟨a,f,?_,J⟩⟩;obtain⟨f0,L,f2,D,Q,E⟩:=fp;exact y.unpinned.turned (t':=O.toks) (λb ob d e=>G.extBut b ob d e) s.2.1 L D Q E
def ze9{X:Cx}{N:List Lp}{a:Scope}{cl:List (Lp×Lg)}{mp:List (Option Nat)}{j y c:Ln}{f:List Ln}{O:TI}{g:TG}{R:TT}{P:TE}{n d l:Pos}{i:Nat}{x:Lp}(hn:PG X (.Name x d) (zap i))(B:Blk X N a cl mp)(hc:X.calm=true)
  (hi:PI X y c O) (hg:∀C s H fp,PG (blk X N a cl C s H fp) y g) (ht:∀C s H fp,PTs (blk X N a cl C s H fp) f R) (he:∀C s H fp,PE (blk X N a cl C s H fp) j P)
  (hs:∀x,foldedSetIterable c X.env x=pure x:=by intro _;rfl) (K:swapsWith (.ListComp j [⟨y,c,f,0⟩] a n) (some (.Name x d)) l.line X.env=pure true:=by rfl) :
  PS X (.Assign [.Name x d] (.ListComp j [⟨y,c,f,0⟩] a n) l) (tAsg (tComp mp O g R P) (zap i)):=by
 intro bo s U H Dn I h;unfold tAsg tComp at h;rw[exec_Assign_Name_used _ _ _ _ K];refine Ya (wpAny_standAt (Ya ?_));show wpAny _ _ (comprehension (.ListComp j [⟨y,c,f,0⟩] a n) a X.env _ (newList []) false (eval c X.env) (some (assign (.Name x d) X.env)) >>= _) _ _ _;refine Ya (wpAny_comprehension_free (use:=some (assign (.Name x d) X.env)) (cl:=cl) rfl hs B.clos B.kind B.nms (thn (hi s U H _ I h) λv s1 h1=>thn h1 λitv A h2=>?_));obtain⟨it,fp,tn,J,H2,rfl,S,T,p,f2,q⟩:=h2;have D:∀b∈fp,b<A.heap.objs.size:=λb z=>let ⟨o,e,_⟩:=T.obj _ _ p b z;Yn e
 obtain⟨W,⟨m0,w0⟩,turn⟩:=q _ S.fresh;have E:=S.lnew (ys:=[]) (its:=[]) (t':=A.toks) .nil (Y2 _);have w:∀b∈fp,FpOk X bo (upd H2 A.heap.objs.size (.lst [])) b:=λb z=>by
  obtain⟨f0,r⟩:=f2 b z;exact⟨by rw[zaf (Y0 (D b z))];exact f0,r⟩
 refine Jn (zhy B hc hg ht he E w T (T.keep _ _ _ p λb _ o e=>Ye _ e) w0 turn λC H' σ' s' Q L Y=>?_);have M:∃m,s'.heap.Ns C m:=let ⟨m,G,_⟩:=L.loc;⟨m,G⟩;have I3:Inv X bo U H' { s' with heap:=s'.heap }:=zpc E w Q L (Heap.SameBut.refl _ _);exact thn (zpb (v:=.ref A.heap.objs.size) E Q I3 L.free M hn rfl Y) λ_ s4 ⟨m,G,q4⟩=>⟨m,G,λh' sb=>Yb (Yb (q4 h' sb))⟩
end L2
namespace L2
open PySem PySem.Spec PyProof.Rows
def zr8(K:Li):Lf->Hp->VK->Prop:=λxs H Q=>∃p ys,xs=[.ref p]/\((SqL K H p ys/\∀l,H l=none->Q (.ref l) (upd H l (.tup ys)))\/(SqT K H p ys/\Q (.ref p) H))
def zva(K:Li):Lf->Hp->VK->Prop:=λxs H Q=>∃p ys,xs=[.ref p]/\(SqL K H p ys\/SqT K H p ys)/\Q (.int ys.length) H
def zy6(K:Li)(b:Bool):Lf->Hp->VK->Prop:=λxs H Q=>∃(a:Lg) (ns:Lc),xs=[.ref a]/\SqX K b H a (ns.map V.int)/\Q (.int ns.sum) H
def zyy(K:Li):Lf->Hp->VK->Prop:=λxs H Q=>∃(a:Lg) (bs:List Bool),xs=[.ref a]/\SqL K H a (bs.map V.bl)/\Q (.bl (bs.all id)) H
section
variable{X:Cx}{K:Li}
def zbl(a:X.K=K):CallR X (.type "tuple") (zr8 K):=by subst a;exact zij
def za8(a:X.K=K):CallR X (.builtin "len") (zva K):=by subst a;exact zjn
def zn5(a:X.K=K)(b:Bool)(c:X.calm=true):CallR X (.builtin "sum") (zy6 K b):=by subst a;exact zov b c
def ze3(a:X.K=K)(b:X.calm=true):CallR X (.builtin "all") (zyy K):=by subst a;exact zot b
def zba(b:X.K=K)(c:PE X e ta)(a:attributeBase e f X.env (eval e X.env)=eval e X.env):PE X (.Attribute e f pos) (tFld K ta f):=by subst b;exact zwm c a
def zcq(b:X.K=K)(a:PE X l tl):PI X tg l (zw8 K tl):=by subst b;exact zvb a
def zcu{n:List Ln}{h:Nat}{c p a:Pos}(m:X.K=K)(b1 b2:Bool){d b:Ln}{f:TA}(hg:Gl X "zip")(l:X.mg "zip" = none)(i:PA X [d,b] f)
  (j:starEach [d,b] X.env=(false,eval d X.env)::starEach [b] X.env:=by rfl) (e:(backTo a (starEach [b] X.env)).any (·.1)=false:=by rfl) :
  PI X (.Tuple n h c) (.Call (.Name "zip" p) [d,b] [] a) (iZip K b1 b2 f):=by subst m;exact zwx b1 b2 hg l i j e
def zuz{i:Ln}{p a:Pos}{b:Ln}{d:TA}(j:X.K=K)(hg:Gl X "reversed")(h:X.mg "reversed" = none)(e:PA X [b] d)
  (f:starEach [b] X.env=(false,eval b X.env)::starEach [] X.env:=by rfl) (c:(backTo a (starEach [] X.env)).any (·.1)=false:=by rfl) :
  PI X i (.Call (.Name "reversed" p) [b] [] a) (iRvd K d):=by subst j;exact zwt hg h e f c
def zsf(a:X.K=K):SlR X (rSlL K):=by subst a;exact zug
end
end L2
set_option Elab.async false
/- strict -/
set_option linter.all false
set_option maxRecDepth 100000
namespace L2
open PySem PySem.Spec PyProof.Rows
structure BMeth(K:Li)(m:Lp)(f:Lg):Prop where
 get:W.specialIn K (.ref f) "__get__" = some (some (.builtin "function.__get__"))
 tk:W.takesIn K (.ref f)=some false
 cp:W.copiedNames.contains m=false
def zko{K:Li}(c:W.hasDictIn K C=true)(b:W.findIn K (.ref C) name=some (some (.ref f)))(hg:W.specialIn K (.ref f) "__get__" = some (some g))
  (i:W.takesIn K (.ref f)=some false) (j:W.copiedNames.contains name=false) (h:W.lookIn name od=some none):W.findObj K C (some od) name=some (.bind g (.ref f)):=by
 obtain⟨d,a,hd⟩:=W.any_some c;unfold W.findObj;have e:W.ownOf d (some od) name=some none:=by unfold W.ownOf;rw[Yl hd];exact h
 rw[a,Option.bind_some,b,Option.bind_some];simp only[hg,i,Option.bind_some,e,j,Bool.false_and,Bool.false_eq_true,if_false]
section
variable{X:Cx}{bo:La}{σ:St}{H:Hp}{s:Lj}{a C dx:Lg}{fs:List (Lp×V)}{m:Lp}{f:Lg}{A:Around}{E:Va}
def zpv(I:Inv X bo σ H s)(e:H a=some (.ins C dx fs))(c:Cls X.K C)(k:Meth X.K C m f)(d:BMeth X.K m f)(l:fs.lookup m=none)
  (h:Q (.ref s.heap.objs.size) { s with heap:=s.heap.push (W.methodObj (.ref f) (.ref a)),toks:=s.toks+1 }):wpAny (model X.prog X.w) A (getAttr (.ref a) m b) Q E s:=by
 obtain⟨j,O,r,_,_,_⟩:=zh4 I.hok e;have i:j m=none:=RelO.none_of (by rw[<- l];exact r m);obtain⟨od,J,n⟩:=O.look;refine W.get_bind I.kIn J (W.plainGet_of (c.get m)).1 (zko c.hd k.at_ d.get d.tk d.cp (by rw[n,i])) (W.plainGet_of (c.get m)).2 ?_;exact wpAny_call (W.fn_get (s:={ s with toks:=s.toks+1 }) I.kIn (beq_iff_eq.mp k.fn) (W.handed_on rfl h))
def Inv.repin(I:Inv X (pa++(b,o)::pb) σ H s)(f:FpOk X (pa++pb) H₁ b)(k:∀c u,c≠b->s.heap.get? c=some u->h'.get? c=some u)
  (e:h'.get? b=some o') (l:∀v,o'.data≠.cell v):Inv X (pa++(b,o')::pb) σ H { s with heap:=h',toks:=t' }:=by
 have d:=I.pin (b,o) (Yg _ (Yg _ (.head _)));have j:Inv X (pa++pb) σ H s:=I.pins_of λp h=>I.pin p (Yg _ ((Ju.mp h).elim (λz=>List.mem_append_left _ z) λz=>Yg _ (.tail _ z)))
 have i:=j.turned (t':=t') (h':=h') (it:=b) k d.2.1 f.2.1 f.2.2.2.1 f.2.2.2.2.1 f.2.2.2.2.2;refine i.pins_of λp h=>?_
 rcases Ju.mp h with z | z
 ·exact i.pin p (Yg _ (List.mem_append_left _ z))
 ·rcases Yj.mp z with rfl | z
  ·exact⟨e,d.2.1,f.2.1,f.2.2.1,l⟩
  ·exact i.pin p (Yg _ (Yg _ z))
def FpOk.more(f:FpOk X bo H b)(h:∀p∈pa,p.1≠b):FpOk X (pa++bo) H b:=by
 refine⟨f.1,f.2.1,f.2.2.1,f.2.2.2.1,f.2.2.2.2.1,λp c=>?_⟩;rcases Ju.mp c with z | z
 ·exact f.2.2.2.2.2 p (List.mem_append_left _ z)
 ·rcases Ju.mp z with z | z
  ·exact h p z
  ·exact f.2.2.2.2.2 p (Yg _ z)
end
def BRun(X:Cx)(q f a:Lg)(sp:V->Hp->VK->Prop):Prop:=∀bo s (σ:St) H Q x u,Inv X bo σ H s->(q,W.methodObj (.ref f) (.ref a))∈bo->RelV x u->sp x H Q ->
 wpAny (model X.prog X.w) X.A.in1 (call (.ref q) [u]) (EP X bo σ Q) (λ_ _=>False) s
def zuy(F:FnOk X.prog X.w X.K X.mg X.base CX0 k f fd ps sp)(d:Room (k+1) X.A)(i:Binds X.K fd ps ds)(hd:Vals dvs ds) :
  BRun X q f a λx H Q=>sp (.ref a::x::dvs) H Q E0:=by
 intro bo s σ H Q x u I b m h;have c:Vals (.ref a::x::dvs) ([.ref a,u]++ds):=.cons rfl (.cons m hd);have j:([.ref a,u]++ds).length=ps.length:=by rw[<- c.length];exact F.len _ _ _ _ h
 have l:=(I.pin _ (Yg _ b)).1;refine wpAny_call (W.method_call l ?_);refine codeAny_mono (F.run X.A.in1 X.stack s H ⟨[.ref a,u],[]⟩ ([.ref a,u]++ds) (.ref a::x::dvs) Q E0 d.in1 I.env0.in1 (i s [.ref a,u] I.kIn j) c h) λr s' b=>?_
 match r,b with
 | .error e,b=>exact Je b
 | .ok (.ret u),b=>exact I.after b
 | .ok .next,b=>exact Je b
 | .ok .brk,b=>exact Je b
 | .ok .cont,b=>exact Je b
def mxGo(K:Li)(l:Lg)(all:Lf)(sp:V->Hp->VK->Prop):Lf->V->V->Hp->VK->Prop
 | [],b,_,H,Q=>Q b H
 | x::xs,b,kb,H,Q=>sp x H λk H1=>H1 l=some (.lst all)/\∃(a c:Lg) (ns ms:Lc),k=.ref a/\kb=.ref c/\SqT K H1 a (ns.map V.int)/\SqT K H1 c (ms.map V.int) /\
  (HT.lexLt ms ns=true->mxGo K l all sp xs x k H1 Q)/\(HT.lexLt ms ns=false->mxGo K l all sp xs b kb H1 Q)
def zp4(K:Li)(l:Lg)(all:Lf)(sp:V->Hp->VK->Prop):Lf->Hp->VK->Prop
 | [],_,_=>False
 | x::xs,H,Q=>sp x H λk H1=>H1 l=some (.lst all)/\mxGo K l all sp xs x k H1 Q
section
variable{X:Cx}{bo:La}{σ:St}{l q It S f a:Lg}{all:Lf}{sp:V->Hp->VK->Prop}{Q:VK}{H₁:Hp}
def zs3(r:Vals xs us):∀{i:Nat} {x},xs[i]? = some x->∃u,us[i]? = some u/\RelV x u:=by
 induction r with
 | nil=>intro i x h;simp at h
 | cons r1 _ ih=>
  intro i x h
  cases i with
  | zero=>simp at h;subst h;exact⟨_,rfl,r1⟩
  | succ i=>simp at h;obtain⟨u,e,z⟩:=ih h;exact⟨u,by simpa using e,z⟩
def zwj(hh:X.A.handled=none)(hu:X.A.units+1<cLine)(B:BRun X q f a sp)(hlI:l≠It)(M:S≠It)(a1:q≠It)(a7:q≠S)(fI:FpOk X bo H₁ It)(fS:FpOk X bo H₁ S) :
  ∀rest j b kb D d c oI H s,all.drop (j+1)=rest->mxGo X.K l all sp rest b kb H Q->H l=some (.lst all) ->
   Inv X ((It,oI)::(S,seqObj "list" #[D,d] c)::(q,W.methodObj (.ref f) (.ref a))::bo) σ H s->s.heap.IsListIter It l (j+1)->RelV b D->RelV kb d ->
   codeAny (model X.prog X.w) X.A (.builtin "max.loop" ⟨[.ref It,.ref q,.ref S],[]⟩) (λr s'=>match r with | .ok (.ret v)=>EP X bo σ Q v s' | .ok _=>False | .error e=>X.xe e s') s:=by
 have E:(toString "max" ++ toString ".loop" : String) = "max.loop":=by decide
 intro rest;induction rest with
 | nil=>
  intro j b kb D d c oI H s i R hH I T rb a0;have a4:all.length<=j+1:=List.drop_eq_nil_iff.mp i;obtain⟨its,n,rv,hl,_⟩:=I.lst hH;have O:s.heap.IsList l its.toArray:=⟨_,hl,rfl,n,rfl⟩;have nS:=I.pin (S,seqObj "list" #[D,d] c) (Yg _ (.tail _ (.head _)));refine codeAny_builtin PySem.F.entry_max_loop ?_;rw[Around.under_plainId PySem.F.plain_max_loop _];show wpAny _ X.A.in1 (seqItems? (.ref S) >>= _) _ _ _;refine Ya (Jr nS.1 rfl ?_);show wpAny _ X.A.in1 (tryCatch (pyNext (.ref It)) _ >>= _) _ _ _;refine Ya (Js (wpAny_pyNext_list_end (A:=X.A.in1) hh T O (by rw[List.getElem?_toArray,Yy];rw[<- rv.length];exact a4) λh' b4=>?_));have pI:=I.pin (It,oI) (Yg _ (.head _));have I1:Inv X ((S,seqObj "list" #[D,d] c)::(q,W.methodObj (.ref f) (.ref a))::bo) σ H s:=I.pins_of λp hp=>I.pin p (Yg _ (.tail _ hp))
  have C:=fI.more (pa:=[(S,seqObj "list" #[D,d] c),(q,W.methodObj (.ref f) (.ref a))]) (by simp[M,a1]);have L:=I1.turned (t':=s.toks) (h':=h') (it:=It) (λP o N e=>b4 P o N e) pI.2.1 C.2.1 C.2.2.2.1 C.2.2.2.2.1 C.2.2.2.2.2;have J:=L.pin (S,seqObj "list" #[D,d] c) (Yg _ (.head _));show wpAny _ X.A.in1 (updateSeq S (λ_ => #[]) >>= _) _ _ _;refine Ya ?_;refine wpAny_updateSeq J.1 rfl (Ya (wpAny_letGo (Yb ?_)));have y:=fS.more (pa:=[(q,W.methodObj (.ref f) (.ref a))]) (by simp[a7]);have I3:Inv X ((q,W.methodObj (.ref f) (.ref a))::bo) σ H { s with heap:=h' }:=L.pins_of λp hp=>L.pin p (Yg _ (.tail _ hp))
  have sb:=Heap.SameBut.update h' S (Obj.mapSeq λ_=>(#[]:Array Lh));have I4:=I3.turned (t':=s.toks) (h':=h'.update S (Obj.mapSeq λ_ => #[])) (it:=S) (λP o N e=>(sb.2 P N).trans e) J.2.1 y.2.1 y.2.2.2.1 y.2.2.2.2.1 y.2.2.2.2.2;exact⟨b,H,I4.pins_of λp hp=>I4.pin p (Yg _ (.tail _ hp)),rb,R⟩
 | cons x xs ih=>
  intro j b kb D d c oI H s i R hH I T rb a0;have hx:all[j+1]? = some x:=by rw[<- List.head?_drop,i];rfl
  have m:all.drop (j+1+1)=xs:=by rw[<- List.tail_drop,i];rfl
  obtain⟨its,n,rv,hl,_⟩:=I.lst hH;have O:s.heap.IsList l its.toArray:=⟨_,hl,Z,n,Z⟩;obtain⟨u,b3,ru⟩:=zs3 rv hx;have nS:=I.pin (S,seqObj "list" #[D,d] c) (Yg _ (.tail _ (.head _)));refine codeAny_builtin PySem.F.entry_max_loop ?_;rw[Around.under_plainId PySem.F.plain_max_loop _];show wpAny _ X.A.in1 (seqItems? (.ref S) >>= _) _ _ _;refine Ya (Jr nS.1 rfl ?_);show wpAny _ X.A.in1 (tryCatch (pyNext (.ref It)) _ >>= _) _ _ _;refine Ya (Js (wpAny_pyNext_list_item T O (x:=u) (by rw[List.getElem?_toArray];exact b3) λh' a9 b0=>?_));obtain⟨h,a3,a5,U⟩:=id a9;have C:=fI.more (pa:=[(S,seqObj "list" #[D,d] c),(q,W.methodObj (.ref f) (.ref a))]) (by simp[M,a1]);have I1:Inv X ((It,h)::(S,seqObj "list" #[D,d] c)::(q,W.methodObj (.ref f) (.ref a))::bo) σ H { s with heap:=h' }:=
   Inv.repin (pa:=[]) (t':=s.toks) I C (λP o N e=>(b0.2 P N).trans e) a3 (by intro v z;rw[U]at z;cases z)
  show wpAny _ X.A.in1 (tryCatch (holding [u] (call (.ref q) [u])) _ >>= _) _ _ _;refine Ya (Js (Jq (wpAny_mono (B _ _ σ H _ x u I1 (.tail _ (.tail _ (.head _))) ru R) (λuk Y he=>?_) λ_ _ hF=>hF.elim)));obtain⟨k,H1,L,rk,a8,G,c',ns,ms,rfl,rfl,b5,b1,h1,h2⟩:=he;obtain rfl:uk=Value.ref G:=rk;obtain rfl:d=Value.ref c':=a0;obtain⟨b7,r1,p1,_⟩:=L.tuple b5;obtain⟨b2,r2,p2,_⟩:=L.tuple b1;have i1:IntsAre b7.toArray.toList ns:=zcf r1;have i2:IntsAre b2.toArray.toList ms:=zcf r2;have J:=L.pin (S,seqObj "list" #[D,.ref c'] c) (Yg _ (.tail _ (.head _)));have a6:=L.pin (It,h) (Yg _ (.head _));have a2:Y.heap.IsListIter It l (j+1+1):=⟨h,a6.1,a5,U⟩;show wpAny _ X.A.in1 (tryCatch (holding [u,.ref G] (richCompare .Gt (.ref G) (.ref c') >>= _)) _ >>= _) _ _ _;refine Ya (Js (Jq (Ya (HT.gt_tupInts (A:=X.A.in1) p1 p2 i1 i2 hu ?_))));refine Ya (Jq (Jp ?_));refine Ya (wpAny_letGo (Yb ?_))
  cases N:HT.lexLt ms ns with
  | true=>
   have sb:=Heap.SameBut.update Y.heap S (Obj.mapSeq λ_ => #[u,.ref G]);obtain⟨c2,b8⟩:∃c2,(Y.heap.update S (Obj.mapSeq λ_ => #[u,.ref G])).get? S=some (seqObj "list" #[u,.ref G] c2):=⟨_,get?_update_seq J.1 λ_ => #[u,.ref G]⟩;simp only[if_true];refine Ya ?_;refine wpAny_updateSeq J.1 rfl (Ya (wpAny_letGo ?_));rw[E];have y:FpOk X ((It,h)::(q,W.methodObj (.ref f) (.ref a))::bo) H₁ S:=fS.more (pa:=[(It,h),(q,W.methodObj (.ref f) (.ref a))]) (by simp[M.symm,a7]);have I3:Inv X ((It,h)::(S,seqObj "list" #[u,.ref G] c2)::(q,W.methodObj (.ref f) (.ref a))::bo) σ H1 { Y with heap:=Y.heap.update S (Obj.mapSeq λ_ => #[u,.ref G]) }:=
    Inv.repin (pa:=[(It,h)]) (t':=Y.toks) L y (λP o b6 e=>(sb.2 P b6).trans e) b8 (by intro v z;cases z)
   exact Yb ⟨plainId_quiet PySem.F.plain_max_loop _,ih (j+1) x (.ref G) u (.ref G) c2 h H1 _ m (h1 N) a8 I3 ⟨h,(sb.2 It M.symm).trans a6.1,a5,U⟩ ru rfl⟩
  | false=>
   simp only[Bool.false_eq_true,if_false]
   refine Ya (wpAny_letGo ?_);rw[E];exact Yb ⟨plainId_quiet PySem.F.plain_max_loop _,ih (j+1) b (.ref c') D (.ref c') c h H1 _ m (h2 N) a8 L a2 rb rfl⟩
end
end L2
namespace L2
open PySem PySem.Spec PyProof.Rows
structure BM(K:Li)(C:Lg)(m:Lp):Prop where
 ex:∃f,W.findIn K (.ref C) m=some (some (.ref f))/\BMeth K m f
def zzc(K:Li)(C:Lg)(m:Lp)(sp:Sp)(dvs:Lf)(te ta:TE):TE:=λσ H Q=>te σ H λv H1=>ta σ H1 λo H2=>∃a dx fs l all,o=.ref a/\H2 a=some (.ins C dx fs)/\fs.lookup m=none /\
 v=.ref l/\H2 l=some (.lst all)/\zp4 K l all (λx H Q=>sp (.ref a::x::dvs) H Q E0) all H2 Q
section
variable{X:Cx}{k j:Nat}{C:Lg}{ps:List Lp}{sp:Sp}{dvs:Lf}{ds:List Lh}{m:Lp}{p pos apos kpos:Pos}{e o:Ln}{te ta:TE}
def Inv.pinNew{a:St}(I:Inv X bo a H s)(f:ob.isFreed=false)(h:∀v,ob.data≠.cell v):Inv X ((s.heap.objs.size,ob)::bo) a H { s with heap:=s.heap.push ob,toks:=t' }:=by
 have d:Inv X bo a H { s with heap:=s.heap.push ob,toks:=t' }:=I.kept λb u e=>Ye _ e
 refine d.pins_of λq c=>?_
 rcases Yj.mp c with rfl | c
 ·exact⟨Yk _ f,I.hok.fresh (Yi _),Nat.ne_of_gt I.lt,I.nofs (Yi _),h⟩
 ·exact d.pin q (Yg _ c)
def zue{D:St}{sp:V->Hp->VK->Prop}(hr:Room j X.A)(B:BRun X q f a sp)(I:Inv X ((q,W.methodObj (.ref f) (.ref a))::bo) D H s)
  (hH:H l=some (.lst all)) (h:zp4 X.K l all sp all H Q):wpAny (model X.prog X.w) X.A (call (.builtin "max") [.ref l] [(Str.ofString "key",.ref q)]) (EP X bo D Q) X.xe s:=by
 have c:(toString "max" ++ toString ".loop" : String) = "max.loop":=by decide
 have hh:X.A.handled=none:=hr.hd;have hu:X.A.units+1<cLine:=by have:=hr.un;lia
 cases all with
 | nil=>exact Je h
 | cons x xs=>
  obtain⟨its,n,rv,hl,_⟩:=I.lst hH;have a4:s.heap.IsList l its.toArray:=⟨_,hl,Z,n,Z⟩;have b0:l<s.heap.objs.size:=Yn hl;refine kmk_tree PySem.F.kind_max PySem.F.plain_max PySem.F.entry_max (kmk_max_key _ _) ?_;show wpAny _ X.A.in1 (Builtin.Builtins.bindParams "max" ["key","default"] 0 ⟨[],[(Str.ofString "key",.ref q)]⟩ >>= _) _ _ s;refine Ya (wpAny_of_eq (show Builtin.Builtins.bindParams "max" ["key","default"] 0 ⟨[],[(Str.ofString "key",.ref q)]⟩=pure [some (.ref q),none] from rfl) ?_);refine Ya (Yb ?_);refine Ya (wpAny_pyIter_list a4 ?_);refine Ya (wpAny_newList ?_ (Y2 _));rw[c];have Y:(s.heap.push { cls:=.type "list_iterator",data:=.fields #[.ref l,.int 0 0] }).objs.size=s.heap.objs.size+1:=size_push' ..;have nq:=I.pin (q,W.methodObj (.ref f) (.ref a)) (Yg _ (.head _));have E:q<s.heap.objs.size:=Yn nq.1;have I0:Inv X bo D H s:=I.pins_of λp y=>I.pin p (Yg _ (.tail _ y))
  have Ia:Inv X ((s.heap.objs.size,{ cls:=.type "list_iterator",data:=.fields #[.ref l,.int 0 0] })::(q,W.methodObj (.ref f) (.ref a))::bo) D H { s with heap:=s.heap.push { cls:=.type "list_iterator",data:=.fields #[.ref l,.int 0 0] } }:=I.pinNew (t':=s.toks) rfl (by intro v z;cases z);have T:=Ia.pinNew (t':=s.toks) (ob:=seqObj "list" #[] 0) rfl (by intro v z;cases z);have fI:FpOk X bo H s.heap.objs.size:=I0.fpOk (Yi _) (I.hok.fresh (Yi _));have fS:FpOk X bo H (s.heap.push { cls:=.type "list_iterator",data:=.fields #[.ref l,.int 0 0] }).objs.size:=I0.fpOk (by rw[Y];exact Nat.le_succ _) (I.hok.fresh (by rw[Y];exact Nat.le_succ _));generalize hS0:(s.heap.push { cls:=.type "list_iterator",data:=.fields #[.ref l,.int 0 0] }).objs.size=S at *;have a1:l≠s.heap.objs.size:=Y0 b0;have G:q≠s.heap.objs.size:=Y0 E;have d:S≠s.heap.objs.size:=by rw[Y];exact Nat.ne_of_gt (Nat.lt_succ_self _)
  have O:q≠S:=by rw[Y];exact Y0 (Nat.lt_succ_of_lt E)
  refine Yb ⟨plainId_quiet PySem.F.plain_max_loop _,?_⟩;have nS:=T.pin (S,seqObj "list" #[] 0) (Yg _ (by rw[<- hS0];exact .head _));have nI:=T.pin (s.heap.objs.size,_) (Yg _ (.tail _ (.head _)));obtain⟨its',n',b4,a9,_⟩:=T.lst hH;have R:((s.heap.push { cls:=.type "list_iterator",data:=.fields #[.ref l,.int 0 0] }).push (seqObj "list" #[] 0)).IsList l its'.toArray:=⟨_,a9,Z,n',Z⟩;obtain⟨u,a3,ru⟩:=zs3 (i:=0) b4 rfl;refine codeAny_builtin PySem.F.entry_max_loop ?_;rw[Around.under_plainId PySem.F.plain_max_loop _];show wpAny _ X.A.in1 (seqItems? (.ref S) >>= _) _ _ _;refine Ya (Jr nS.1 rfl ?_);show wpAny _ X.A.in1 (tryCatch (pyNext (.ref s.heap.objs.size)) _ >>= _) _ _ _;refine Ya (Js (wpAny_pyNext_list_item (i:=0) ⟨_,nI.1,Z,Z⟩ R (x:=u) (by rw[List.getElem?_toArray];exact a3) λh' P a0=>?_));obtain⟨b,J,a6,N⟩:=id P;have Ic:Inv X ((s.heap.objs.size,b)::(S,seqObj "list" #[] 0)::(q,W.methodObj (.ref f) (.ref a))::bo) D H { s with heap:=h' }:=by
   have a8:FpOk X ([(S,seqObj "list" #[] 0)]++(q,W.methodObj (.ref f) (.ref a))::bo) H s.heap.objs.size:=fI.more (pa:=[(S,seqObj "list" #[] 0),(q,W.methodObj (.ref f) (.ref a))]) (by simp[d,G]);have Iz:=Inv.repin (pa:=[(S,seqObj "list" #[] 0)]) (t':=s.toks) (h':=h') T a8 (λb' o hb e=>(a0.2 b' hb).trans e) J (by intro v z;rw[N]at z;cases z);refine Iz.pins_of λp y=>Iz.pin p (Yg _ ?_)
   rcases Yj.mp y with rfl | y
   ·exact .tail _ (.head _)
   ·rcases Yj.mp y with rfl | y
    ·exact .head _
    ·exact .tail _ (.tail _ y)
  show wpAny _ X.A.in1 (tryCatch (holding [u] (call (.ref q) [u])) _ >>= _) _ _ _;refine Ya (Js (Jq (wpAny_mono (B _ _ D H _ x u Ic (.tail _ (.tail _ (.head _))) ru h) (λr L he=>?_) λ_ _ hF=>hF.elim)));obtain⟨kv,H1,I2,rk,b3,a7⟩:=he;have M:=I2.pin (S,seqObj "list" #[] 0) (Yg _ (.tail _ (.head _)));have b1:=I2.pin (s.heap.objs.size,b) (Yg _ (.head _));have sb:=Heap.SameBut.update L.heap S (Obj.mapSeq λ_ => #[u,r]);obtain⟨U,b2⟩:∃U,(L.heap.update S (Obj.mapSeq λ_ => #[u,r])).get? S=some (seqObj "list" #[u,r] U):=⟨_,get?_update_seq M.1 λ_ => #[u,r]⟩;show wpAny _ X.A.in1 (updateSeq S (λ_ => #[u,r]) >>= _) _ _ _;refine Ya ?_;refine wpAny_updateSeq M.1 rfl ?_;rw[c];have a2:FpOk X ((s.heap.objs.size,b)::(q,W.methodObj (.ref f) (.ref a))::bo) H S:=fS.more (pa:=[(s.heap.objs.size,b),(q,W.methodObj (.ref f) (.ref a))]) (by simp[d.symm,O]);have I3:Inv X ((s.heap.objs.size,b)::(S,seqObj "list" #[u,r] U)::(q,W.methodObj (.ref f) (.ref a))::bo) D H1 { L with heap:=L.heap.update S (Obj.mapSeq λ_ => #[u,r]) }:=
   Inv.repin (pa:=[(s.heap.objs.size,b)]) (t':=L.toks) I2 a2 (λb' o a5 e=>(sb.2 b' a5).trans e) b2 (by intro v z;cases z)
  exact Yb ⟨plainId_quiet PySem.F.plain_max_loop _,zwj (H₁:=H) hh hu B a1 d G O fI fS xs 0 x kv u r U b H1 _ rfl a7 b3 I3 ⟨b,(sb.2 _ d.symm).trans b1.1,a6,N⟩ ru rk⟩
def zt4(c:MCal X.prog X.w X.K X.mg X.base CX0 k C m ps ds sp)(b:BM X.K C m)(T:PE X e te)(ho:PE X o ta)(J:Room j X.A)(hd:Vals dvs ds)(P:X.mg ("max" : Lp)=none)(L:k+1<=j:=by decide)(hg:Gl X "max":=by rfl)
  (S:attributeBase o m X.env (eval o X.env)=eval o X.env:=by rfl) (y:starEach [e] X.env=(false,eval e X.env)::starEach [] X.env:=by rfl) :
  PE X (.Call (.Name "max" p) [e] [⟨some "key",.Attribute o m apos,kpos⟩] pos) (zzc X.K C m sp dvs te ta):=by
 obtain⟨f,fd,F,B,d⟩:=c.ex;obtain⟨D,U,O⟩:=b.ex;have:D=f:=by have z:=d.at_;rw[U]at z;injection z with z;injection z with z;injection z
 subst this;intro bo s i H Q I h;refine wpAny_Call_Name_kw (zfu I hg P boot_max ?_);have h':zff te tNil i H (λvs H1=>match vs with
   | [v]=>ta i H1 λo n=>∃(a G:Lg) (fs:List (Lp×V)) (l:Lg) (all:Lf),o=.ref a/\n a=some (.ins C G fs)/\fs.lookup m=none /\
     v=.ref l/\n l=some (.lst all)/\zp4 X.K l all (λx H Q=>sp (.ref a::x::dvs) H Q E0) all n Q
   | _=>False):=h
 refine callWith_kw (thn ((zab T zar y) bo s i H _ I h') λus s1 ⟨vs,H1,Y,r1,q⟩=>?_) (by rw[y];rfl) (by rw[y];rfl)
 cases r1 with
 | nil=>exact Je q
 | cons ru rr=>
  cases rr with
  | cons _ _=>exact Je q
  | nil=>
   refine kwAll_cons (zo3 S (thn (ho s1 i H1 _ Y q) λuo s2 ⟨ov,n,E,ro,a,G,fs,l,all,eo,N,R,ev,eh,r⟩=>?_));subst eo;subst ev
   cases ro
   cases ru;refine zpv E N c.cl d O R (kwAll_nil ?_);have M:=E.pinNew (t':=s2.toks+1) (ob:=W.methodObj (.ref D) (.ref a)) rfl (by intro v z;cases z);exact zue J (zuy F (J.mono L) B hd) M eh r
end
end L2
namespace L2
open PySem PySem.Spec PyProof.Rows
def Inv.unpin{h:St}(I:Inv X ((D,seqObj "list" vs.toArray n)::bo) h H s)(f:FpOk X bo H₁ D)(r:Vals xs vs)(hz:xs.length<=sizeLine):Inv X bo h (upd H D (.lst xs)) s:=by
 have j:=I.pin (D,seqObj "list" vs.toArray n) (Yg _ (.head _));have i:Inv X bo h H s:=I.pins_of λp x=>I.pin p (Yg _ (.tail _ x))
 have d:∀b o,H b=some o->b≠D:=λb o e z=>by rw[z,j.2.1]at e;cases e
 have st:=i.step (h':=s.heap) (H':=upd H D (.lst xs)) (g':=s.gens) (d':=s.drawn) (t':=s.toks) (ch:=[D])
  (λb a=>by rw[Yq.mp a];exact⟨f.2.2.2.1,f.2.1,f.2.2.2.2.1,f.2.2.2.2.2⟩)
  (λb o _ _ _ e _=>e) (λb o _ _ _ e _=>⟨o.slots,e⟩) (λb o a _ e=>by rw[zaf (λz=>a (by simp[z]))];exact e)
  (λb o _ e=>⟨o,e⟩) (λb xs e=>by rw[zaf (d b _ e)];exact e) (λb o u e=>by rw[zaf (d b _ e)];exact e) (λb ps e=>⟨#[],by rw[zaf (d b _ e)];simpa using e⟩)
  (λm l=>l) (λb o e=>?_) i.bare
 ·exact st
 ·by_cases a:b=D
  ·subst a;rw[zad]at e;cases e;exact⟨hz,vs,n,r,j.1⟩
  ·rw[zaf a]at e;exact(I.hok b o e).stay (λc v hc q=>q) (λc q=>(by rw[zaf (d _ _ q)];exact q)) λc w q=>(by rw[zaf (d _ _ q)];exact q)
end L2
namespace TS
open PySem PyProof.Rows
local macro_rules | `(tactic| walk_at "sort ltAt") => do `(tactic| delta $(Lean.mkIdent (Lean.mkPrivateNameCore `PySem.Builtin.List.W1All `PySem.Builtin.ltAt)):ident)
local macro_rules | `(tactic| walk_at "sort countRun") => do `(tactic| delta $(Lean.mkIdent (Lean.mkPrivateNameCore `PySem.Builtin.List.W1All `PySem.Builtin.countRun)):ident)
local macro_rules | `(tactic| walk_at "sort binarySort") => do `(tactic| delta $(Lean.mkIdent (Lean.mkPrivateNameCore `PySem.Builtin.List.W1All `PySem.Builtin.binarySort)):ident)
structure Cmp(prog:Ll)(w:Lk)(A:Around)(s:Lj)(kd:SortKind)(a₀:Array Keyed):Prop where
 ask:∀x∈a₀.toList,∀y∈a₀.toList,∀(Q:Bool->Lj->Prop) (E:Va),(∀b,Q b s)->wpAny (model prog w) A (keyLt' kd x.1 y.1) Q E s
structure SB(kd:SortKind)(a₀:Array Keyed)(st:SortSt):Prop where
 kind:kindOf st=kd
 perm:(arrOf st).Perm a₀
 failed:failedOf st=none
 pend:pendingOf st = #[]
section
variable{prog:Ll}{w:Lk}{A:Around}{E:Va}{s:Lj}{kd:SortKind}{a₀:Array Keyed}{st:SortSt}
def ze8(C:Cmp prog w A s kd a₀)(B:SB kd a₀ st){i j:Nat}(hi:i<a₀.size)(a:j<a₀.size){Q:Option Bool->SortSt->Prop}(h:∀b,Q (some b) st) :
  wpS (model prog w) A E s ((sortPriv% PySem.Builtin.ltAt) i j) Q st:=by
 have hz:=B.perm.size_eq;have m:∀{x},x∈(arrOf st).toList->x∈a₀.toList:=λz=>(Array.perm_iff_toList_perm.mp B.perm).mem_iff.mp z
 have e:∀{i Q},(hi:i<a₀.size)->Q ((arrOf st)[i]'(by lia)) st->wpS (model prog w) A E s ((sortPriv% PySem.Builtin.elem) (arrOf st) i) Q st:=fun{i Q} hi h=>by
  show wpS (model prog w) A E s (elem' (arrOf st) i) Q st;rw[elem'_eq,getElem?_pos _ i (by lia)];exact wpS_pure h
 walk_at "sort ltAt"
 refine wpS_bind (wpS_get (wpS_bind (e hi (wpS_bind (e a ?_)))));show wpS (model prog w) A E s (lt' _ _) Q st;rw[lt'_eq];refine wpS_bind (wpS_get ?_);rw[B.kind];exact wpS_bind (wpS_lift (wpAny_attempt (C.ask _ (m (by simp)) _ (m (by simp)) _ _ λb=>⟨Z,wpS_pure (h b)⟩)))
def SB.rev(B:SB kd a₀ st){i j:Nat}{Q:Unit->SortSt->Prop}(h:∀st,SB kd a₀ st->Q () st):wpS (model prog w) A E s ((sortPriv% PySem.Builtin.reverseSlice) i j) Q st:=by
 show wpS (model prog w) A E s (reverseSlice' i j) Q st;rw[reverseSlice'_eq];exact wpS_modify (h _ ⟨B.kind,(mirror_perm _ _ _ _).trans B.perm,B.failed,B.pend⟩)
def zku(C:Cmp prog w A s kd a₀){Q:Option Nat->SortSt->Prop}(B:SB kd a₀ st)(h1:1<=a₀.size)
  (h:∀m a,1<=m->m<=a₀.size->SB kd a₀ a->Q (some m) a):wpS (model prog w) A E s ((sortPriv% PySem.Builtin.countRun) 0 a₀.size) Q st:=by
 walk_at "sort countRun"
 refine wpS_bind (wpS_mono (wpS_forRange (I:=λx c a=>c=(none,x)/\SB kd a₀ a)
  (Q:=λc a=>∃n,c=(none,n)/\1<=n/\n<=a₀.size/\SB kd a₀ a) ?step1 ?fin1 ⟨Z,B⟩) ?post1)
 case fin1=>
  rintro c a ⟨rfl,B⟩;exact⟨_,rfl,by lia,by lia,B⟩
 case step1=>
  rintro x c a f q ⟨rfl,B⟩;have j:1<=x:=f;dsimp only;refine wpS_bind (ze8 C B (by lia) (by lia) λb=>?_)
  cases b with
  | true=>simp only[if_true];exact wpS_pure ⟨x,rfl,by lia,by lia,B⟩
  | false=>simp only[Bool.false_eq_true,if_false];exact wpS_pure ⟨rfl,B⟩
 case post1=>
  rintro c a ⟨n,rfl,r,y,B⟩
  extract_lets r0 n0 z0 z1 jp
  have p:∀l,SB kd a₀ l->n+1<=a₀.size->wpS (model prog w) A E s (jp ()) Q l:=by
   intro l B hle;refine wpS_bind (wpS_lift (wpAny_rule ⟨rfl,?_⟩));refine wpS_bind (wpS_mono (wpS_forRange (I:=λx c a=>∃d,c=(none,x,d)/\SB kd a₀ a)
    (Q:=λc a=>∃m d,c=(none,m,d)/\1<=m/\m<=a₀.size/\SB kd a₀ a) ?step2 ?fin2 ⟨0,Z,B⟩) ?post2)
   case fin2=>
    rintro c a ⟨d,rfl,B⟩;exact⟨_,d,rfl,by show 1<=max (n+1) a₀.size;lia,by show max (n+1) a₀.size<=_;lia,B⟩
   case step2=>
    rintro x c a f q ⟨d,rfl,B⟩;have j:n+1<=x:=f;dsimp only;refine wpS_bind (ze8 C B (by lia) (by lia) λb=>?_)
    cases b with
    | true=>
     simp only[if_true]
     split
     ·exact wpS_bind (B.rev λst B=>wpS_pure ⟨0,Z,B⟩)
     ·exact wpS_pure ⟨0,Z,B⟩
    | false=>
     simp only[Bool.false_eq_true,if_false]
     refine wpS_bind (ze8 C B (by lia) (by lia) λb=>?_)
     cases b with
     | true=>simp only[if_true];exact wpS_pure ⟨x,d,rfl,by lia,by lia,B⟩
     | false=>simp only[Bool.false_eq_true,if_false];exact wpS_pure ⟨d+1,rfl,B⟩
   case post2=>
    rintro c a ⟨m,d,rfl,hm1,hm2,B⟩
    extract_lets r1 s1 m1 neq1 jp2
    have i:∀o,SB kd a₀ o->wpS (model prog w) A E s (jp2 ()) Q o:=by
     intro o B;refine wpS_bind (B.rev λst3 B=>?_);refine wpS_bind (wpS_mono (wpS_forRange (I:=λx c a=>c=(none,x)/\SB kd a₀ a)
      (Q:=λc a=>∃n,c=(none,n)/\1<=n/\n<=a₀.size/\SB kd a₀ a) ?step3 ?fin3 ⟨Z,B⟩) ?post3)
     case fin3=>
      rintro c a ⟨rfl,B⟩;exact⟨_,rfl,by show 1<=max m a₀.size;lia,by show max m a₀.size<=_;lia,B⟩
     case step3=>
      rintro x c a f q ⟨rfl,B⟩;have j:m<=x:=f;dsimp only;refine wpS_bind (ze8 C B (by lia) (by lia) λb=>?_)
      cases b with
      | true=>simp only[if_true];exact wpS_pure ⟨x,rfl,by lia,by lia,B⟩
      | false=>simp only[Bool.false_eq_true,if_false];exact wpS_pure ⟨rfl,B⟩
     case post3=>
      rintro c a ⟨G,rfl,D,z,B⟩;exact wpS_pure (h G _ D z B)
    clear_value jp2
    show wpS _ _ _ _ (if d > 0 then _ else _) _ _;split
    ·exact wpS_bind (B.rev λst B=>i _ B)
    ·exact i _ B
  clear_value jp
  show wpS _ _ _ _ (if (n == a₀.size)=true then _ else _) _ _;by_cases hnn:n=a₀.size
  ·rw[Yl (by simpa using hnn)];exact wpS_pure (h n _ r y B)
  rw[Yh (by simpa using hnn)];show wpS _ _ _ _ (if n > 1 then _ else _) _ _;split
  ·refine wpS_bind (ze8 C B (by lia) (by show 0+n-1<_;lia) λb=>?_)
   cases b with
   | true=>exact wpS_pure (h n _ r y B)
   | false=>exact wpS_bind (B.rev λst B=>p _ B (by lia))
  ·exact p _ B (by lia)
def zin(C:Cmp prog w A s kd a₀){n:Nat}{Q:Bool->SortSt->Prop}(B:SB kd a₀ st)
  (h:∀a,SB kd a₀ a->Q true a):wpS (model prog w) A E s ((sortPriv% PySem.Builtin.binarySort) 0 a₀.size n) Q st:=by
 walk_at "sort binarySort"
 refine wpS_bind (wpS_mono (wpS_forRange (I:=λk c a=>c=(none,())/\SB kd a₀ a) (Q:=λc a=>c=(none,())/\SB kd a₀ a) ?step (λ_ _ z=>z) ⟨Z,B⟩) ?post)
 case post=>
  rintro c a ⟨rfl,B⟩;exact wpS_pure (h a B)
 case step=>
  rintro k c a hak hkn ⟨rfl,B⟩;refine wpS_bind (wpS_mono (wpS_forRange (I:=λx c d=>∃l r,c=(none,l,r)/\r<=k/\SB kd a₀ d)
   (Q:=λc d=>∃l r,c=(none,l,r)/\r<=k/\SB kd a₀ d) ?istep (λ_ _ z=>z) ⟨0,k,Z,by lia,B⟩) ?ipost)
  case istep=>
   rintro x c d _ hxk ⟨l,r,rfl,f,B⟩;dsimp only;by_cases hge:l ≥ r
   ·rw[Yl hge];exact wpS_pure ⟨l,r,Z,f,B⟩
   ·rw[Yh hge];refine wpS_bind (ze8 C B (by lia) (by lia) λb=>?_)
    cases b with
    | true=>simp only[if_true];exact wpS_pure ⟨l,(l+r) / 2,rfl,by lia,B⟩
    | false=>simp only[Bool.false_eq_true,if_false];exact wpS_pure ⟨(l+r) / 2+1,r,rfl,by lia,B⟩
  case ipost=>
   rintro c d ⟨l,r,rfl,hlk,B⟩;dsimp only;refine wpS_bind ?_;show wpS (model prog w) A E s (moveDown' _ _) _ _;rw[moveDown'_eq];exact wpS_modify (wpS_pure ⟨rfl,B.kind,(bubble_perm _ _ _).trans B.perm,B.failed,B.pend⟩)
def zk5(C:Cmp prog w A s kd a₀){Q:Unit->SortSt->Prop}(B:SB kd a₀ st)(h64:a₀.size<64)
  (h:∀a,(arrOf a).Perm a₀->failedOf a=none->Q () a):wpS (model prog w) A E s sortRuns' Q st:=by
 have hz:=B.perm.size_eq;have q:minRun' a₀.size a₀.size 0=a₀.size:=by
  cases e:a₀.size with
  | zero=>rfl
  | succ k=>rw[minRun'_succ,Yl (by lia)]
 have bk:∀{st},SB kd a₀ st->(pendingOf st).back? = none:=λB=>by rw[B.pend];rfl
 rw[sortRuns'_eq];refine wpS_bind (wpS_get ?_);dsimp only;simp only[hz,q];refine wpS_bind (wpS_mono (wpS_forRange (I:=λx c a=>(x=0/\c=(none,0)/\a=st)\/(1<=x/\c=(none,a₀.size)/\(arrOf a).Perm a₀/\failedOf a=none/\(pendingOf a).size=1))
  (Q:=λc a=>c=(none,a₀.size)/\(arrOf a).Perm a₀/\failedOf a=none/\(pendingOf a).size<=1) ?turn ?over (.inl ⟨Z,Z,Z⟩)) ?rest)
 case over=>
  rintro c a (⟨o,rfl,rfl⟩ | ⟨_,y,b,f,p⟩)
  ·have e:a₀.size=0:=by lia
   exact⟨by rw[e],B.perm,B.failed,by simp[B.pend]⟩
  ·exact⟨y,b,f,by lia⟩
 case turn=>
  rintro x c a _ o (⟨rfl,rfl,rfl⟩ | ⟨hx1,rfl,b,f,p⟩)
  ·have i:∀{st:SortSt} {n:Nat},SB kd a₀ st->(((pendingOf st).push (0,n,0)).size=1):=λB=>by rw[B.pend];rfl
   dsimp only;rw[Yh (by lia)];simp only[Nat.sub_zero,Nat.min_self,Nat.zero_add];refine wpS_bind (zku C B (by lia) λm d m1 m2 j=>?_);dsimp only;by_cases lt:m<a₀.size
   ·rw[Yl lt];refine wpS_bind (wpS_lift (wpAny_rule ⟨Z,?_⟩));refine wpS_bind (zin C j λst3 l=>?_);simp only[Bool.not_true,Bool.false_eq_true,if_false];refine wpS_bind (wpS_get ?_);rw[bk l];dsimp only;exact wpS_bind (wpS_modify (wpS_pure (.inr ⟨by lia,Z,l.perm,l.failed,i l⟩)))
   ·rw[Yh lt];have r:m=a₀.size:=by lia
    subst r;refine wpS_bind (wpS_get ?_);rw[bk j];dsimp only;exact wpS_bind (wpS_modify (wpS_pure (.inr ⟨by lia,Z,j.perm,j.failed,i j⟩)))
  ·dsimp only;rw[Yl (Yi _)];exact wpS_pure ⟨Z,b,f,by lia⟩
 case rest=>
  rintro c a ⟨rfl,b,f,p⟩;dsimp only;refine wpS_bind (wpS_mono (wpS_forRange (I:=λ_ c d=>d=a/\c=(none,())) (Q:=λc d=>d=a/\c=(none,())) ?_ (λ_ _ z=>z) ⟨rfl,rfl⟩) ?_)
  ·rintro x c d _ _ ⟨rfl,rfl⟩;refine wpS_bind (wpS_get ?_);rw[Yl (show (pendingOf d).size<=1 from p)];exact wpS_pure ⟨rfl,rfl⟩
  ·rintro c d ⟨rfl,rfl⟩;exact wpS_pure (h _ b f)
end
end TS
namespace TS
open PySem PyProof.Rows
open HT (lexLt)
open PySem.W (KatLex kat_nil kat_cons kat_yes kat_no kat_one kat_lt)
section
variable{prog:Ll}{w:Lk}{A:Around}{s:Lj}
def zm0(b:Bool){x y:Int}{t u:Tok}{Q:Bool->Lj->Prop}{E:Va}(h:Q (decide (x<y)) s):wpAny (model prog w) A (oneLt' b (.int x t) (.int y u)) Q E s:=by
 cases b with
 | true=>exact oneLt_int h
 | false=>exact kat_one _ _ (PyProof.Rows.lt_int (show W.BoolBack Q (.bool (decide (x<y))) s from h))
theorem zpo:∀ns ms {vs us} i fin,IntsAre vs ns->IntsAre us ms->fin=decide (ns.length<ms.length)->Q (lexLt ns ms) s ->
  KatLex prog w A b fin Q (vs.zip us) i s
 | [],[],vs,us,i,fin,hv,hu,hf,h=>by
  cases hv;cases hu;rw[hf];exact kat_nil h
 | [],_::_,vs,us,i,fin,hv,hu,hf,h=>by
  cases hv;cases hu;rw[HT.lexLt_nil_cons]at h;rw[hf];exact kat_nil (by simpa using h)
 | _::_,[],vs,us,i,fin,hv,hu,hf,h=>by
  cases hv;cases hu;rw[HT.lexLt_cons_nil]at h;rw[hf];exact kat_nil (by simpa using h)
 | n::ns,m::ms,_,_,i,fin,.cons _ t hv,.cons _ u hu,hf,h=>by
  rw[List.zip_cons_cons];rw[HT.lexLt_cons]at h;obtain⟨e,c,a⟩:=HT.eqAt_int A s n t m u;refine kat_cons (c prog w _ _ ?_)
  cases e with
  | true=>
   rw[Yl (a.mp rfl)]at h;exact kat_yes (zpo ns ms (i+1) fin hv hu (by rw[hf];simp) h)
  | false=>
   rw[Yh (λq=>absurd (a.mpr q) Yt)]at h;exact kat_no (zm0 _ h)
def TupAt(h:Lo)(v:Lh)(ns:Lc):Prop:=∃a its,v=.ref a/\IsTup h a its/\IntsAre its.toList ns
open Classical in
end
end TS
namespace TS
open PySem PyProof.Rows
open L2 (V Vals RelV)
section
variable{α β γ δ : Type}{R : α->β->Prop}
def paired_perm(p:l.Perm l'):∀{k},Paired R k l->∃a,a.Perm k/\Paired R a l':=by
 induction p with
 | nil=>intro k h;exact⟨k,.refl _,h⟩
 | cons x _ ih=>
  intro k h
  cases h with
  | cons r t=>
   obtain⟨a,f,h'⟩:=ih t;exact⟨_::a,f.cons _,.cons r h'⟩
 | swap x y l=>
  intro k h
  cases h with
  | cons r t=>
   cases t with
   | cons r' t=>exact⟨_::_::_,.swap _ _ _,.cons r' (.cons r t)⟩
 | trans _ _ ih1 ih2=>
  intro k h;obtain⟨k1,d,b⟩:=ih1 h;obtain⟨k2,c,e⟩:=ih2 b;exact⟨k2,c.trans d,e⟩
def zk8(h:Paired R k l):∀x∈l,∃p∈k,R p x:=by
 induction h with
 | nil=>intro p a;cases a
 | cons r _ ih=>
  intro p a;rcases Yj.mp a with rfl | a
  ·exact⟨_,.head _,r⟩
  ·obtain⟨x,b,z⟩:=ih p a;exact⟨x,.tail _ b,z⟩
def paired_map(a:∀p x,R p x->S (f p) (g x)){k:List α}{l:List β}(h:Paired R k l):Paired S (k.map f) (l.map g):=by
 induction h with
 | nil=>exact .nil
 | cons r _ ih=>exact .cons (a _ _ r) ih
end
section
variable{prog:Ll}{w:Lk}{A:Around}{E:Va}{s:Lj}
def zq7{st:SortSt}(d:s.heap.get? kS=some (seqObj "list" ks e))(i:s.heap.get? D=some (seqObj "list" #[] e1))(c:D≠kS)(f:failedOf st=none)
  (hz:ks.size<=sizeLine) (hz2:(arrOf st).size<=sizeLine)
  (h:P (.done (.ret .none)) { s with heap:=(s.heap.update kS (Obj.mapSeq λ_ => #[])).update D (Obj.mapSeq λ_=>if b=true then((arrOf st).map (·.2)).reverse else(arrOf st).map (·.2)) }) :
  wpAny (model prog w) A (ksk_tail D b e1 (.ref kS) st) P E s:=by
 have j:=Heap.SameBut.update s.heap kS (Obj.mapSeq λ_=>(#[]:Array Lh));have a:(s.heap.update kS (Obj.mapSeq λ_=>(#[]:Array Lh))).get? D=some (seqObj "list" #[] e1):=(j.2 D c).trans i;unfold ksk_tail;dsimp only;refine Ya (listUpdate_at d rfl ?_ hz (Y2 _));refine Ya (wpAny_letGo ?_);refine Ya (seqEpoch_at a rfl ?_);refine Ya (listUpdate_at a rfl ?_ (Y2 _) (by
  split
  ·rw[Array.size_reverse,Array.size_map];lia
  ·rw[Array.size_map];lia))
 rw[f];simp only[bne_self_eq_false,Bool.false_eq_true,if_false];exact Yb h
end
end TS
namespace L2
open PySem PySem.Spec PyProof.Rows TS
def skGo(sp:V->Hp->VK->Prop):Lf->Lf->Hp->(Lf->Hp->Prop)->Prop
 | [],ks,H,F=>F ks H
 | x::xs,ks,H,F=>sp x H λk H1=>skGo sp xs (ks++[k]) H1 F
def BRunA(X:Cx)(A:Around)(σ:St)(pl:La)(q:Lg)(oq:Obj)(sp:V->Hp->VK->Prop):Prop:=∀bo s H Q x u,Inv X bo σ H s->(∀p∈(q,oq)::pl,p∈bo)->RelV x u->sp x H Q ->
 wpAny (model X.prog X.w) A (call (.ref q) [u]) (EP X bo σ Q) (λ_ _=>False) s
section
variable{X:Cx}{A:Around}{E:Va}{bo:La}{σ:St}{q kS D:Lg}{oD oq:Obj}{sp:V->Hp->VK->Prop}{H₁:Hp}{F:Lf->Hp->Prop}
def zts(B:BRunA X A σ bo q oq sp)(C:D≠kS)(L:q≠kS)(fK:FpOk X bo H₁ kS){body:Lh->PUnit->Sem (ForInStep PUnit)}
  (T:∀(x:Lh) (s:Lj) (R:Va),wpAny (model X.prog X.w) A (call (.ref q) [x]) (λk s'=>∃(a:List Lh) (e:Nat),s'.heap.get? kS=some (seqObj "list" a.toArray e)/\a.length<=sizeLine/\R k { s' with heap:=s'.heap.update kS (Obj.mapSeq (·.push k)) }) (λ_ _=>False) s ->
   wpAny (model X.prog X.w) A (body x ⟨⟩) (λr s'=>r=.yield ⟨⟩/\∃k,R k s') E s) :
  ∀(r:Lf) (us:List Lh) (d:Lf) (a:List Lh) (e:Nat) (H:Hp) (s:Lj),Vals r us->Vals d a->d.length+r.length<=sizeLine->skGo sp r d H F ->
   Inv X ((kS,seqObj "list" a.toArray e)::(D,oD)::(q,oq)::bo) σ H s ->
   wpAny (model X.prog X.w) A (forIn us PUnit.unit body) (λ_ s'=>∃c b f H',Vals c b/\c.length=d.length+r.length/\Inv X ((kS,seqObj "list" b.toArray f)::(D,oD)::(q,oq)::bo) σ H' s'/\F c H') E s:=by
 intro r;induction r with
 | nil=>
  intro us d a e H s K l hz h I
  cases K;rw[List.forIn_nil];exact Yb ⟨d,a,e,H,l,Z,I,h⟩
 | cons x r ih=>
  intro us d a e H s K l hz h I
  cases K with
  | cons r1 t=>
   rename_i u us
   rw[List.forIn_cons];have hz':d.length+(r.length+1)<=sizeLine:=hz;refine Ya (wpAny_mono (T u s (λk m=>∃j H1 f,RelV j k/\Inv X ((kS,seqObj "list" (a++[k]).toArray f)::(D,oD)::(q,oq)::bo) σ H1 m/\skGo sp r (d++[j]) H1 F) ?_) (λrr s' Y=>?_) λ_ _ x=>x)
   ·refine wpAny_mono (B _ s H _ x u I (λp W=>.tail _ (.tail _ W)) r1 h) (λk s' he=>?_) λ_ _ x=>x
    obtain⟨j,H1,N,rk,i⟩:=he;have M:=N.pin (kS,seqObj "list" a.toArray e) (Yg _ (.head _));have U:=Heap.SameBut.update s'.heap kS (Obj.mapSeq (·.push k));have Q:a.toArray.push k=(a++[k]).toArray:=by simp
    obtain⟨G,y⟩:∃G,(s'.heap.update kS (Obj.mapSeq (·.push k))).get? kS=some (seqObj "list" (a++[k]).toArray G):=⟨_,by rw[<- Q];exact get?_update_seq M.1 (·.push k)⟩;have n:FpOk X ([]++((D,oD)::(q,oq)::bo)) H₁ kS:=fK.more (pa:=[(D,oD),(q,oq)]) (by simp[C,L]);exact⟨a,e,M.1,by rw[<- l.length];lia,j,H1,G,rk,Inv.repin (pa:=[]) (t':=s'.toks) N n (λb' o J f=>(U.2 b' J).trans f) y (by intro v z;cases z),i⟩
   ·obtain⟨rfl,k,j,H1,f,rk,O,i⟩:=Y;show wpAny (model X.prog X.w) A (forIn us PUnit.unit body) _ E s';refine wpAny_mono (ih us (d++[j]) (a++[k]) f H1 s' t (l.append (.cons rk .nil)) (by simp;lia) i O) (λ_ s4 hd=>?_) λ_ _ x=>x
    obtain⟨c,b,S,H',v',l',I',P⟩:=hd;exact⟨c,b,S,H',v',by rw[l'];simp;lia,I',P⟩
end
end L2
set_option Elab.async false
/- strict -/
set_option linter.all false
set_option maxRecDepth 100000
namespace L2
open PySem PySem.Spec PyProof.Rows
section
variable{κ:Type}[DecidableEq κ]
def valV(cr:List (κ×V))(k : κ):Option V:=(cr.find? λkv=>decide (kv.1=k)).map (·.2)
def putK(cr:List (κ×V))(k : κ)(v:V):List (κ×V):=
 if (cr.any λkv=>decide (kv.1=k))=true then cr.map (λkv=>if kv.1=k then(kv.1,v) else kv) else cr++[(k,v)]
def zfg(cr:List (κ×V))(k : κ):List (κ×V):=cr.filter λkv=>decide (kv.1≠k)
def zrx:valV ([]:List (κ×V)) k=none:=rfl
def zbu{k : κ}(e:p.1=k):valV (p::r) k=some p.2:=by simp[valV,List.find?_cons,e]
def zbr{k : κ}(e:¬p.1=k):valV (p::r) k=valV r k:=by simp[valV,List.find?_cons,e]
theorem zdk(k : κ):∀cr,(cr.any λa=>decide (a.1=k))=(valV cr k).isSome
 | []=>rfl
 | p::r=>by
  rw[List.any_cons];by_cases e:p.1=k
  ·simp only[zbu e,decide_eq_true e,Bool.true_or,Option.isSome_some]
  ·rw[zbr e,Yw e,Bool.false_or];exact zdk k r
theorem zl5(k j : κ)(y:V):∀cr,valV (cr.map λa=>if a.1=k then(a.1,y) else a) j=(valV cr j).map λx=>if j=k then y else x
 | []=>rfl
 | p::r=>by
  have b:=zl5 k j y r;rw[Yz];by_cases h:p.1=k
  ·rw[Yl h];by_cases e:p.1=j
   ·rw[zbu (p:=(p.1,y)) e,zbu e,Option.map_some,Yl (e.symm.trans h)]
   ·rw[zbr (p:=(p.1,y)) e,zbr e,b]
  ·rw[Yh h];by_cases e:p.1=j
   ·rw[zbu (p:=p) e,zbu e,Option.map_some,Yh (λz=>h (e.trans z))]
   ·rw[zbr (p:=p) e,zbr e,b]
theorem zke(k j : κ)(y:V):∀cr,valV cr k=none->valV (cr++[(k,y)]) j=if j=k then some y else valV cr j
 | [],_=>by
  by_cases e:k=j
  ·rw[Yl e.symm];exact zbu (p:=(k,y)) e
  ·rw[Yh (λz=>e z.symm)];exact zbr (p:=(k,y)) e
 | p::r,hn=>by
  rw[List.cons_append];have a:¬p.1=k:=λz=>by rw[zbu z]at hn;cases hn
  rw[zbr a]at hn;have b:=zke k j y r hn;by_cases e:p.1=j
  ·rw[zbu e,zbu e,Yh (λz=>a (e.trans z))]
  ·rw[zbr e,zbr e,b]
def zl8(cr:List (κ×V))(k j : κ)(y:V):valV (putK cr k y) j=if j=k then some y else valV cr j:=by
 unfold putK;by_cases a:(cr.any λc=>decide (c.1=k))=true
 ·rw[Yl a,zl5];rw[zdk]at a;by_cases e:j=k
  ·obtain⟨x,b⟩:=Option.isSome_iff_exists.mp a;rw[Yl e,e,b,Option.map_some,Yl rfl]
  ·rw[Yh e]
   cases valV cr j with
   | none=>rfl
   | some x=>rw[Option.map_some,Yh e]
 ·rw[Yh a];refine zke k j y cr ?_;rw[zdk]at a
  cases q:valV cr k with
  | none=>rfl
  | some x=>rw[q]at a;exact(a rfl).elim
def zbz(cr:List (κ×V))(k : κ)(v:V):(putK cr k v).length<=cr.length+1:=by
 unfold putK;split
 ·rw[Yd];lia
 ·rw[Y5,Y4,List.length_nil];lia
def zr1{k : κ}(v:V)(h:valV cr k=none):putK cr k v=cr++[(k,v)]:=by
 unfold putK;rw[zdk,h];exact Yh (by decide)
def RelO.isSome_eq(r:RelO o u):o.isSome=u.isSome:=by
 cases o with
 | none=>cases u with
  | none=>rfl
  | some _=>exact(show False from r).elim
 | some _=>cases u with
  | none=>exact(show False from r).elim
  | some _=>rfl
def RelO.getD(r:RelO o u)(rd:RelV d d'):RelV (o.getD d) (u.getD d'):=by
 cases o with
 | none=>cases u with
  | none=>exact rd
  | some _=>exact(show False from r).elim
 | some _=>cases u with
  | none=>exact(show False from r).elim
  | some _=>exact r
def KV.val(r:KV cr vs)(k : κ):RelO (valV cr k) (valueAt vs k):=by
 unfold KV at r;induction r with
 | nil=>exact True.intro
 | @cons p q ps qs h t ih=>
  obtain⟨c,d⟩:=h;by_cases e:p.1=k
  ·have a:q.1=k:=c.symm.trans e;have b:valueAt (q::qs) k=some q.2:=by simp[valueAt,List.find?_cons,a]
   rw[zbu e,b];exact d
  ·have a:¬q.1=k:=λz=>e (c.trans z)
   have b:valueAt (q::qs) k=valueAt qs k:=by simp[valueAt,List.find?_cons,a]
   rw[zbr e,b];exact ih
def KV.any(r:KV cr vs)(k : κ):(cr.any λa=>decide (a.1=k))=vs.any λa=>decide (a.1=k):=by
 unfold KV at r;induction r with
 | nil=>rfl
 | cons h t ih=>rw[List.any_cons,List.any_cons,ih,h.1]
def KV.repl(r:KV cr vs)(k : κ){y:V}{u:Lh}(c:RelV y u) :
  KV (cr.map λa=>if a.1=k then(a.1,y) else a) (vs.map λa=>if a.1=k then(a.1,u) else a):=by
 unfold KV at r ⊢;induction r with
 | nil=>exact .nil
 | @cons p q ps qs h t ih=>
  rw[Yz,Yz];refine .cons ?_ ih;obtain⟨b,d⟩:=h;by_cases e:p.1=k
  ·rw[Yl e,Yl (b.symm.trans e)];exact⟨b,c⟩
  ·rw[Yh e,Yh (λz=>e (b.trans z))];exact⟨b,d⟩
def KV.put(r:KV cr vs)(k : κ){y:V}{u:Lh}(a:RelV y u):KV (putK cr k y) (stored vs k u):=by
 unfold putK stored;rw[r.any k];by_cases e:(vs.any λb=>decide (b.1=k))=true
 ·rw[Yl e,Yl e];exact r.repl k a
 ·rw[Yh e,Yh e];exact Paired.snoc r ⟨Z,a⟩
def KV.length{cr:List (κ×V)}(r:KV cr vs):cr.length=vs.length:=Paired.length r
def zls(cr:List (κ×V))(k : κ):(zfg cr k).length<=cr.length:=List.length_filter_le _ _
end
def zm9(r:RelV (kV k) u):(za0 P w).is k u=true:=by
 cases k with
 | inl i=>obtain⟨t,e⟩:=(show ∃t,u=Value.int i t from r);subst e;exact zk1 P w i t
 | inr x=>obtain⟨t,e⟩:=(show ∃t,u=Value.str x t from r);subst e;exact zk2 P w x t
theorem zjd:∀{ks} {us},Vals (ks.map kV) us->ItemsAre (za0 P w) ks us
 | [],_,r=>by rw[List.map_nil]at r;cases r;exact .nil
 | k::ks,_,r=>by
  rw[Yz]at r
  cases r with
  | cons h t=>exact .cons (zm9 h) (zjd t)
abbrev KT(H:Hp):Ka->List (List Key×Lg×Lh)->Prop:=Paired λp q=>p.1=q.1/\H q.2.1=some (.tup (p.1.map kV))/\RelV p.2 q.2.2
def KT.val(r:KT H cr xs)(k:List Key):RelO (valV cr k) ((atKey xs k).map (·.2)):=by
 induction r with
 | nil=>exact True.intro
 | @cons p q ps qs h t ih=>
  obtain⟨c,_,d⟩:=h;by_cases e:p.1=k
  ·have a:q.1=k:=c.symm.trans e;have b:atKey (q::qs) k=some q.2:=by simp[atKey,List.find?_cons,a]
   rw[zbu e,b];exact d
  ·have a:¬q.1=k:=λz=>e (c.trans z)
   have b:atKey (q::qs) k=atKey qs k:=by simp[atKey,List.find?_cons,a]
   rw[zbr e,b];exact ih
def KT.repl(r:KT H cr xs)(k:List Key){y:V}{u:Lh}(d:RelV y u) :
  KT H (cr.map λb=>if b.1=k then(b.1,y) else b) (xs.map (putAt k u)):=by
 induction r with
 | nil=>exact .nil
 | @cons p q ps qs h t ih=>
  rw[Yz,Yz];refine .cons ?_ ih;obtain⟨a,c,f⟩:=h;unfold putAt;by_cases e:p.1=k
  ·rw[Yl e,Yl (a.symm.trans e)];exact⟨a,c,d⟩
  ·rw[Yh e,Yh (λz=>e (a.trans z))];exact⟨a,c,f⟩
def KT.put(r:KT H cr xs)(k:List Key){b:Lg}{y:V}{u:Lh}(d:H b=some (.tup (k.map kV)))(a:RelV y u) :
  KT H (putK cr k y) (storedH xs k b u):=by
 have e:(cr.any λc=>decide (c.1=k))=(atKey xs k).isSome:=by
  rw[zdk,(r.val k).isSome_eq,Option.isSome_map]
 unfold putK storedH;rw[e];by_cases q:(atKey xs k).isSome=true
 ·rw[Yl q,Yl q];exact r.repl k a
 ·rw[Yh q,Yh q];exact Paired.snoc r ⟨Z,d,a⟩
def KT.keeps(r:KT H cr xs)(a:∀b ys,H b=some (.tup ys)->H' b=some (.tup ys)):KT H' cr xs:=
 Paired.mapP r λ_ _ z=>⟨z.1,a _ _ z.2.1,z.2.2⟩
section
variable{P:Ll}{w:Lk}{H:Hp}{h:Lo}{a:Lg}
def zxb(ok:HOk P w H h)(e:Rd H a u):ObjOk P w H h a u:=e.ok ok
def zj0(ok:HOk P w H h)(e:Rd H a (.dK cr)):cr.length<=sizeLine/\(a == sysModules)=false/\∃vs,KV cr vs/\h.DictOf (za0 P w) a vs:=
 show ObjOk P w H h a (.dK cr) from zxb ok e
def zze(ok:HOk P w H h)(e:H a=some (.dK cr)):cr.length<=sizeLine/\(a == sysModules)=false/\∃vs,KV cr vs/\h.DictOf (za0 P w) a vs:=zj0 ok (.inl e)
def zfi(ok:HOk P w H h)(e:H a=some (.tup (ks.map kV))):(tupleKind (za0 P w)).is h ks a:=by
 obtain⟨_,its,r,o,b,c,n,d⟩:=(show ObjOk P w H h a (.tup (ks.map kV)) from ok a _ e);exact⟨o,its.toArray,n,b,c,d,by simpa using zjd r⟩
def zd6(ok:HOk P w H h)(e:Rd H a (.dT cr)):cr.length<=sizeLine/\(a == sysModules)=false /\
  ∃xs,KT H cr xs/\h.DictOfH (tupleKind (za0 P w)) a xs:=by
 obtain⟨z,y,xs,r,o,s,i,c,j,n,f,d⟩:=(show ObjOk P w H h a (.dT cr) from zxb ok e);refine⟨z,y,xs,r,o,s,i,c,j,n,f,λx b=>?_,d⟩;have all:∀{l:Ka} {m:List (List Key×Lg×Lh)},KT H l m->∀x∈m,(tupleKind (za0 P w)).is h x.1 x.2.1:=by
  intro l m q;induction q with
  | nil=>intro x b;exact nomatch b
  | @cons p q ps qs hq t ih=>
   intro x b;rcases Yj.mp b with e | b
   ·subst e;exact zfi ok (by rw[<- hq.1];exact hq.2.1)
   ·exact ih x b
 exact all r x b
def zra(ok:HOk P w H h)(e:H a=some (.dT cr)):cr.length<=sizeLine/\(a == sysModules)=false /\
  ∃xs,KT H cr xs/\h.DictOfH (tupleKind (za0 P w)) a xs:=zd6 ok (.inl e)
end
def DGet(H:Hp)(a:Lg)(y:V)(r:Option V):Prop:=
 (∃cr k,Rd H a (.dK cr)/\y=kV k/\r=valV cr k)\/∃cr k b,Rd H a (.dT cr)/\y=.ref b/\H b=some (.tup (k.map kV))/\r=valV cr k
def DPut(H:Hp)(a:Lg)(y v:V)(H':Hp):Prop:=
 (∃cr k,H a=some (.dK cr)/\y=kV k/\cr.length<sizeLine/\H'=upd H a (.dK (putK cr k v))) \/
 ∃cr k b,H a=some (.dT cr)/\y=.ref b/\H b=some (.tup (k.map kV))/\cr.length<sizeLine/\H'=upd H a (.dT (putK cr k v))
def DGet.t(e:H a=some (.dT cr))(c:H b=some (.tup (k.map kV))):DGet H a (.ref b) (valV cr k):=.inr ⟨cr,k,b,.inl e,Z,c,Z⟩
def DPut.k{k:Key}(e:H a=some (.dK cr))(b:cr.length<sizeLine):DPut H a (kV k) v (upd H a (.dK (putK cr k v))):=.inl ⟨cr,k,e,Z,b,Z⟩
def DPut.t{k:List Key}(e:H a=some (.dT cr))(d:H b=some (.tup (k.map kV)))(c:cr.length<sizeLine) :
  DPut H a (.ref b) v (upd H a (.dT (putK cr k v))):=.inr ⟨cr,k,b,e,Z,d,c,Z⟩
section
variable{X:Cx}{bo:La}{σ:St}{H:Hp}{s:Lj}{a:Lg}{y v:V}{u r:Lh}{o:Option V}{A:Around}{E:Va}
def Inv.big(I:Inv X bo σ H s):sysModules<s.heap.objs.size:=by
 have h:mainGlobals<s.heap.objs.size:=(I.mod.glob.keeps I.bk).lt;exact Nat.lt_trans (by decide) h
def zoi(q:A.units+1<cLine)(I:Inv X bo σ H s)(g:DGet H a y (some v))(m:RelV y u)(h:∀f s',Inv X bo σ H s'->RelV v f->Q f s') :
  wpAny (model X.prog X.w) A (getItem (.ref a) u) Q E s:=by
 rcases g with⟨cr,k,e,j,l⟩ | ⟨cr,k,b,e,j,n,l⟩
 ·subst j;obtain⟨z,hd,vs,d,dd⟩:=zj0 I.hok e;obtain⟨f,hw,c⟩:=RelO.some_of (v:=v) (o:=valueAt vs k) (by rw[l];exact d.val k);exact wpAny_getItem_of (zm9 m) dd.mapOf hw (h f _ (I.tok _) c)
 ·subst j
  cases (show u=Value.ref b from m);obtain⟨z,hd,xs,d,dd⟩:=zd6 I.hok e;obtain⟨f,hw,c⟩:=RelO.some_of (v:=v) (o:=(atKey xs k).map (·.2)) (by rw[l];exact d.val k);obtain⟨p,x,i⟩:=Option.map_eq_some_iff.mp hw;refine wpAny_getItem_heap (tupleKind_room_in1 q) (zfi I.hok n) dd x ?_;rw[i];exact h f _ (I.tok _) c
def d_in(j:A.units+1<cLine)(I:Inv X bo σ H s)(g:DGet H a y o)(f:RelV y u)(h:∀s',Inv X bo σ H s'->Q (.bool o.isSome) s') :
  wpAny (model X.prog X.w) A (compareOp .In u (.ref a)) Q E s:=by
 rcases g with⟨cr,k,e,d,l⟩ | ⟨cr,k,b,e,d,i,l⟩
 ·subst d;obtain⟨z,hd,vs,c,dd⟩:=zj0 I.hok e;refine wpAny_in_of (zm9 f) hd dd.mapOf ?_;rw[<- (c.val k).isSome_eq,<- l];exact h _ (I.tok _)
 ·subst d
  cases (show u=Value.ref b from f);obtain⟨z,hd,xs,c,dd⟩:=zd6 I.hok e;refine wpAny_in_heap (tupleKind_room_in1 j) (zfi I.hok i) hd dd ?_;have q:=(c.val k).isSome_eq;rw[Option.isSome_map]at q;rw[<- q,<- l];exact h _ (I.tok _)
def zuv(j:A.units+1<cLine)(I:Inv X bo σ H s)(g:DGet H a y o)(f:RelV y u)(h:∀s',Inv X bo σ H s'->Q (.bool (!o.isSome)) s') :
  wpAny (model X.prog X.w) A (compareOp .NotIn u (.ref a)) Q E s:=by
 rcases g with⟨cr,k,e,d,l⟩ | ⟨cr,k,b,e,d,i,l⟩
 ·subst d;obtain⟨z,hd,vs,c,dd⟩:=zj0 I.hok e;refine wpAny_notIn_of (zm9 f) hd dd.mapOf ?_;rw[<- (c.val k).isSome_eq,<- l];exact h _ (I.tok _)
 ·subst d
  cases (show u=Value.ref b from f);obtain⟨z,hd,xs,c,dd⟩:=zd6 I.hok e;refine wpAny_notIn_heap (tupleKind_room_in1 j) (zfi I.hok i) hd dd ?_;have q:=(c.val k).isSome_eq;rw[Option.isSome_map]at q;rw[<- q,<- l];exact h _ (I.tok _)
def ziy(I:Inv X bo σ H s)(c:Mut (H a))(f:Heap.SameBut a s.heap h')(d:∃q,h'.get? a=some q)(new:ObjOk X.prog X.w (upd H a ob) h' a ob) :
  Inv X bo σ (upd H a ob) { s with heap:=h',toks:=t' }:=
 I.write (x:=a) (e:=a) c (.inl rfl) (λb q h z=>(f.2 b h).trans z) d new
def zxx(z:cr.length<=sizeLine)(hd:(a == sysModules)=false)(b:KV cr vs)(dd:h'.DictOf (za0 P w) a vs) :
  ObjOk P w H' h' a (.dK cr):=⟨z,hd,vs,b,dd⟩
def zp3(O:A.units+1<cLine)(I:Inv X bo σ H s)(g:DPut H a y v H')(x:RelV y u)(C:RelV v r)(h:∀s',Inv X bo σ H' s'->Q () s') :
  wpAny (model X.prog X.w) A (setItem (.ref a) u r) Q E s:=by
 rcases g with⟨cr,k,e,j,l,m⟩ | ⟨cr,k,b,e,j,B,l,m⟩
 ·subst j m;obtain⟨z,hd,vs,d,dd⟩:=zze I.hok e;have hz:vs.length<=sizeLine:=by rw[<- d.length];exact z
  have p:(putK cr k v).length<=sizeLine:=by have:=zbz cr k v;lia
  refine wpAny_setItem_pairs (hsz:=hz) (zm9 x) dd λh' f n=>h _ ?_
  have M:∃q,h'.get? a=some q:=let ⟨q,_,_,i,_⟩:=f;⟨q,i⟩;exact ziy I (by rw[e];exact True.intro) n M (zxx p hd (d.put k C) f)
 ·subst j m
  cases (show u=Value.ref b from x);obtain⟨z,hd,xs,d,dd⟩:=zra I.hok e;have hz:xs.length<=sizeLine:=by rw[<- Paired.length d];exact z
  have p:(putK cr k v).length<=sizeLine:=by have:=zbz cr k v;lia
  refine wpAny_setItem_heap (hsz:=hz) (tupleKind_room_in1 O) (zfi I.hok B) dd λh' f n=>h _ ?_
  obtain⟨q,P,K,i,L,N,J,_,G⟩:=f;refine ziy I (by rw[e];exact True.intro) n ⟨q,i⟩ ⟨p,hd,_,(d.put k B C).keeps λc ys D=>?_,q,P,K,i,L,N,J,G⟩;rw[zaf (za7 D e (λz=>nomatch z))];exact D
end
def NoSl(i:Ln):Prop:=∀ov iv,subscripted i false ov iv=operate [ov,iv] (getItem ov iv)
def zt2{T id:String}
  (m:typeLookup (.type T) "__getitem__" = pure (some (.builtin id))) (l:NoSl slice)
  (h:wpAny (model prog w) A (eval value env) (λo d=>wpAny (model prog w) A (eval slice env) (λi a=>a.TypeIs o T/\wpAny (model prog w) A (getItem o i) Q E a) E d) E s) :
  wpAny (model prog w) A (eval (.Subscript value slice pos) env) Q E s:=by
 refine Subscript_ (wpAny_mono h (λo d e=>wpAny_mono e (λi a b=>?_) λ_ _ x=>x) λ_ _ x=>x);obtain⟨j,b⟩:=b;unfold subscriptTail;refine Ya ?_;rw[getitemInPython_of_ne j.not_modules];refine Ya (wpAny_specialOf j m ?_);have fin:wpAny (model prog w) A (subscripted slice false o i) (λr c=>wpAny (model prog w) A (letTemporaryGo value o r >>= λ_=>pure r) Q E c) E a:=by
  rw[l o i];exact wpAny_operating (wpAny_mono b (λr c f=>Ya (wpAny_letTemporaryGo (Yb f))) λ_ _ x=>x)
 first
  | exact Yb (Ya fin)
  | exact Ya (Yb (Ya fin))
  | exact Ya fin
def zk7{c:St}(I:Inv X bo c H s)(g:DGet H a y o):s.TypeIs (.ref a) "dict":=by
 rcases g with⟨cr,k,e,_,_⟩ | ⟨cr,k,b,e,_,_,_⟩
 ·obtain⟨_,_,vs,_,dd⟩:=zj0 I.hok e;exact dd.typeIs
 ·obtain⟨_,_,xs,_,dd⟩:=zd6 I.hok e;exact dd.typeIs
inductive rDGt(x y:V)(H2:Hp)(Q:VK):Prop
 | mk (a v) (_:x=.ref a) (_:DGet H2 a y (some v)) (_:Q v H2)
def zyp(td ty:TE):TE:=λσ H Q=>td σ H λx H1=>ty σ H1 λy H2=>rDGt x y H2 Q
inductive rDI(y x:V)(H2:Hp)(Q:VK):Prop
 | mk (a o) (_:x=.ref a) (_:DGet H2 a y o) (_:Q (.bl o.isSome) H2)
def tDIn(ty td:TE):TE:=λσ H Q=>ty σ H λy H1=>td σ H1 λx H2=>rDI y x H2 Q
def zu0(ty td:TE):TE:=λσ H Q=>ty σ H λy H1=>td σ H1 λx H2=>∃a o,x=.ref a/\DGet H2 a y o/\Q (.bl (!o.isSome)) H2
def zyx(td ty tv:TE):TS:=λD σ H=>tv σ H λv H1=>td σ H1 λx H2=>ty σ H2 λy H3=>∃a H4,x=.ref a/\DPut H3 a y v H4/\D.nx σ H4
section
variable{X:Cx}{o i e value:Ln}{pos pos' tpos:Pos}{td ty tv:TE}
def zbf(q:X.A.units+1<cLine)(z:PE X o td)(hi:PE X i ty)(w:NoSl i):PE X (.Subscript o i pos) (zyp td ty):=by
 intro bo s d H Q I h;refine zt2 PySem.F.slot_dict_getitem.lookup w (thn (z s d H _ I h) λu p ⟨x,H1,n,B,l⟩=>thn (hi p d H1 _ n l) λiv s2 ⟨y,r,c,f,a,v,ex,g,m⟩=>?_);subst ex;obtain rfl:u=Value.ref a:=B;exact⟨zk7 c g,zoi q c g f λw' s3 j b=>⟨v,r,j,b,m⟩⟩
def znj(n:X.A.units+1<cLine)(hi:PE X i ty)(w:PE X o td):PC X .In i o (tDIn ty td):=by
 intro bo s b H Q I h;refine thn (hi s b H _ I h) λiv m ⟨y,H1,l,d,c⟩=>thn (w m b H1 _ l c) λu s2 ⟨x,p,z,r,a,q,ex,g,j⟩=>?_
 subst ex;obtain rfl:u=Value.ref a:=r;exact d_in n z g d λs3 f=>⟨.bl q.isSome,p,f,Z,j⟩
def zpi(n:X.A.units+1<cLine)(hi:PE X i ty)(w:PE X o td):PC X .NotIn i o (zu0 ty td):=by
 intro bo s b H Q I h;refine thn (hi s b H _ I h) λiv m ⟨y,H1,l,d,c⟩=>thn (w m b H1 _ l c) λu s2 ⟨x,p,z,r,a,q,ex,g,j⟩=>?_
 subst ex;obtain rfl:u=Value.ref a:=r;exact zuv n z g d λs3 f=>⟨.bl (!q.isSome),p,f,Z,j⟩
def zcg(z:X.A.units+1<cLine)(J:PE X o td)(hi:PE X i ty)(hv:PE X value tv)(E:swapsWith value (some (.Subscript o i pos')) pos.line X.env=pure false) :
  PS X (.Assign [.Subscript o i pos'] value pos) (zyx td ty tv):=by
 intro bo s b H D I h;refine wpAny_Assign_Subscript (thn (hv s b H _ I h) λr w ⟨v,H1,p,j,l⟩=>thn (J w b H1 _ p l) λu G ⟨x,B,f,K,n⟩=>thn (hi G b B _ f n) λiv s3 ⟨y,H3,d,c,a,q,ex,g,m⟩=>?_) E;subst ex;obtain rfl:u=Value.ref a:=K;exact zp3 z d g c j λs4 C=>⟨b,q,C,m⟩
end
def zqq(h:Lo)(a:sysModules<h.objs.size):ObjOk P w H (h.push { cls:=.type "dict",data:=.dict #[] }) h.objs.size (.dK []):=
 ⟨Y2 _,beq_eq_false_iff_ne.mpr (Jb (Y0 a)),[],.nil,Heap.DictOf.new h⟩
def zlw(h:Lo)(a:sysModules<h.objs.size):ObjOk P w H (h.push { cls:=.type "dict",data:=.dict #[] }) h.objs.size (.dT []):=
 ⟨Y2 _,beq_eq_false_iff_ne.mpr (Jb (Y0 a)),[],.nil,_,#[],0,Yk _ rfl,⟨Z,Z,Z⟩,Z,Z,List.nodup_nil⟩
def zwb:TE:=λ_ H Q=>∀p,H p=none->Q (.ref p) (upd H p (.dK []))
def ztl:TE:=λ_ H Q=>∀p,H p=none->Q (.ref p) (upd H p (.dT []))
section
variable{X:Cx}{pos:Pos}
def zq8:PE X (.Dict [] [] pos) zwb:=λbo s σ H Q I h=>
 wpAny_Dict_empty ⟨.ref s.heap.objs.size,_,I.laid (a:=s.heap.objs.size) (o:=.dK []) (t':=s.toks) (λ_ _ q=>Ye _ q) (Yi _) (zqq s.heap I.big),Z,h _ (I.hok.fresh (Yi _))⟩
def za2:PE X (.Dict [] [] pos) ztl:=λbo s σ H Q I h=>
 wpAny_Dict_empty ⟨.ref s.heap.objs.size,_,I.laid (a:=s.heap.objs.size) (o:=.dT []) (t':=s.toks) (λ_ _ q=>Ye _ q) (Yi _) (zlw s.heap I.big),Z,h _ (I.hok.fresh (Yi _))⟩
end
def ztj:List (TE×TE)->St->Hp->(List (V×V)->Hp->Prop)->Prop
 | [],_,H,Q=>Q [] H
 | (tk,tv)::r,σ,H,Q=>tk σ H λx H1=>tv σ H1 λy H2=>ztj r σ H2 λps H3=>Q ((x,y)::ps) H3
abbrev VV:List (V×V)->List (Lh×Lh)->Prop:=Paired λp q=>RelV p.1 q.1/\RelV p.2 q.2
def PPs(X:Cx)(pos:Pos)(keys:List (Option Ln))(values:List Ln)(trs:List (TE×TE)):Prop:=
 ∀⦃bo:La⦄ (s:Lj) (σ:St) (H:Hp) (Q:List (V×V)->Hp->Prop),Inv X bo σ H s->ztj trs σ H Q ->
  wpAny (model X.prog X.w) X.A (evalPairs (pairTrees keys values X.env pos)) (λvs s'=>∃ps H',Inv X bo σ H' s'/\VV ps vs/\Q ps H') X.xe s
def zul:PPs X pos [] [] []:=λbo s σ H Q I h=>pairTrees_nil_walk ⟨[],H,I,.nil,h⟩
def zrj(c:PE X k tk)(hv:PE X v tv)(p:PPs X pos ks vs trs) :
  PPs X pos (some k::ks) (v::vs) ((tk,tv)::trs):=λbo s b H Q I h=>
 pairTrees_cons_walk (thn (c s b H _ I h) λu n ⟨x,H1,m,w,d⟩=>thn (hv n b H1 _ m d) λw2 r ⟨y,q,o,e,l⟩=>
  thn (p r b q _ o l) λws s3 ⟨ps,j,f,a,i⟩=>⟨(x,y)::ps,j,f,.cons ⟨w,e⟩ a,i⟩)
structure M2(X:Cx)(o:Ln)(m:Lp)(apos:Pos)(e f:Ln)(cpos:Pos):Prop where
 base:attributeBase o m X.env (eval o X.env)=eval o X.env
 few:((backTo cpos (starEach [e,f] X.env)).all (λx => !x.1)&&(backToKw cpos (keywordEach [] X.env)).all (λx=>x.1.isSome)
  && decide (([e,f]:List Ln).length+([]:List Keyword).length+(if ([]:List Keyword).isEmpty then 0 else 1)<30))=true
 line:(apos.endLine == cpos.line)=true
 trees:backTo cpos (starEach [e,f] X.env)=[(false,eval e X.env),(false,eval f X.env)]
def IsD(H:Hp)(a:Lg):Prop:=(∃cr,Rd H a (.dK cr))\/∃cr,Rd H a (.dT cr)
def zxn{h:St}(I:Inv X bo h H s)(d:IsD H a) :
  s.TypeIs (.ref a) "dict"/\(∀b,Value.ref a=.ref b->∃ob,s.heap.get? b=some ob/\ob.dict=none)/\(a == sysModules)=false:=by
 rcases d with⟨cr,e⟩ | ⟨cr,e⟩
 ·obtain⟨_,hd,vs,_,dd⟩:=zj0 I.hok e;refine⟨dd.typeIs,λb q=>?_,hd⟩
  cases q;obtain⟨ob,_,_,c,f,_⟩:=dd;exact⟨ob,c,f.2.1⟩
 ·obtain⟨_,hd,xs,_,dd⟩:=zd6 I.hok e;refine⟨dd.typeIs,λb q=>?_,hd⟩
  cases q;obtain⟨ob,_,_,c,f,_⟩:=dd;exact⟨ob,c,f.2.1⟩
section
variable{X:Cx}{bo:La}{σ:St}{H:Hp}{s:Lj}{a:Lg}{y d:V}{u r:Lh}{o:Option V}{A:Around}{E:Va}
def zws(m:A.units+1<cLine)(I:Inv X bo σ H s)(g:DGet H a y o)(i:RelV y u)(rd:RelV d r)(h:∀w' s',Inv X bo σ H s'->RelV (o.getD d) w'->Q w' s') :
  wpAny (model X.prog X.w) A (call (.builtin "dict.get") [.ref a,u,r]) Q E s:=by
 rcases g with⟨cr,k,e,f,l⟩ | ⟨cr,k,b,e,f,j,l⟩
 ·subst f;obtain⟨z,hd,vs,c,dd⟩:=zj0 I.hok e;refine call_meetsIn PySem.F.slot_dict_get dd.typeIs PySem.F.entry_dict_get (PySem.F.args_dict_get_3 _ _ _) (meets_dict_get_default (za0 X.prog X.w) a (zm9 i) hd r) ⟨_,dd.mapOf,h _ _ (I.tok _) ?_⟩;rw[l];exact(c.val k).getD rd
 ·subst f
  cases (show u=Value.ref b from i);obtain⟨z,hd,xs,c,dd⟩:=zd6 I.hok e;refine call_meetsIn PySem.F.slot_dict_get dd.typeIs PySem.F.entry_dict_get (PySem.F.args_dict_get_3 _ _ _) (meetsH_dict_get_default (tupleKind (za0 X.prog X.w)) a b hd r) ⟨tupleKind_room_in1 m,k,xs,zfi I.hok j,dd,h _ _ (I.tok _) ?_⟩;rw[l];exact(c.val k).getD rd
end
def zw6(td ty tx:TE):TE:=λσ H Q=>td σ H λx H1=>∃a,x=.ref a/\IsD H1 a/\ty σ H1 λy H2=>tx σ H2 λz H3=>∃o,DGet H3 a y o/\Q (o.getD z) H3
section
variable{X:Cx}{o e f:Ln}{apos cpos:Pos}{td ty tx:TE}
def zl1(K:X.A.units+1<cLine)(O:PE X o td)(D:PE X e ty)(n:PE X f tx)(m:M2 X o "get" apos e f cpos):PE X (.Call (.Attribute o "get" apos) [e,f] [] cpos) (zw6 td ty tx):=by
 intro bo s c H Q I h;refine wpAny_Call_method m.base m.few m.line PySem.F.plainAttrs_dict PySem.F.slot_dict_get PySem.F.type_dict_get (thn (O s c H _ I h) λu J ⟨x,H1,i,r,a,ex,d,w⟩=>?_);subst ex;obtain rfl:u=Value.ref a:=r;obtain⟨E,p,_⟩:=zxn i d;refine⟨E,p,?_⟩;rw[m.trees];refine Calls.callWith_builtin rfl (Calls.evalArgs_plain (Calls.spliced_cons (thn (D J c H1 _ i w) λiv N ⟨y,L,P,j,G⟩=>
  Calls.spliced_cons (thn (n N c L _ P G) λfv s3 ⟨z,C,l,q,ov,g,B⟩=>Calls.spliced_nil ?_))))
 exact zws K l g j q λw' s4 M b=>⟨_,C,M,b,B⟩
end
end L2
namespace L2
open PySem PySem.Spec PyProof.Rows
section
variable{X:Cx}{bo:La}{σ:St}{H:Hp}{s:Lj}{d:Lg}{o:Obj}{u v:HO}
def Inv.swap(I:Inv X bo σ H s)(e:H d=some u)(r:∀xs,u≠.tup xs)(C:∀x,u≠.own x)(n:∀ps,u≠.tbl ps)(y:∀o w,u=.frz o w->∀o w,X.H₀ d≠some (.frz o w))
  (new:ObjOk X.prog X.w H s.heap d u->∀H',(∀b xs,H b=some (.tup xs)->H' b=some (.tup xs))->(∀b x,H b=some (.own x)->H' b=some (.own x))->ObjOk X.prog X.w H' s.heap d v):Inv X bo σ (upd H d v) s:=by
 have a:∀{b:Lg},H b=none->b≠d:=λz=>(zag e z).symm
 have h:∀b xs,H b=some (.tup xs)->upd H d v b=some (.tup xs):=λb xs q=>by rw[zaf (za7 q e (λz=>r xs z.symm))];exact q
 have j:∀b x,H b=some (.own x)->upd H d v b=some (.own x):=λb x q=>by rw[zaf (za7 q e (λz=>C x z.symm))];exact q
 refine⟨I.ok,I.os,I.bare,⟨I.base.keep,I.base.slot,λb q l A B=>?_,I.base.there,λb xs q=>h b xs (I.base.tups b xs q),λb f w q=>?_,λb ps q=>?_⟩,I.loc,I.cell,?_,λx c q=>?_,λp E=>?_,λb w q=>?_,I.len⟩
 ·have z:=I.base.free b q l A B;rw[zaf (a z)];exact z
 ·have z:=I.base.frzs b f w q;by_cases hb:b=d
  ·subst hb;rw[e]at z;injection z with z
   exact absurd q (y f w z f w)
  ·rw[zaf hb];exact z
 ·obtain⟨more,z⟩:=I.base.tbls b ps q;by_cases hb:b=d
  ·subst hb;rw[e]at z;injection z with z
   exact absurd z (n _)
  ·exact⟨more,by rw[zaf hb];exact z⟩
 ·rw[zaf (a I.free)];exact I.free
 ·rw[zaf (a (I.freeC x c q))];exact I.freeC x c q
 ·obtain⟨D,i,m⟩:=I.pin p E;exact⟨D,by rw[zaf (a i)];exact i,m⟩
 ·by_cases hb:b=d
  ·subst hb;rw[zad]at q;injection q with q;subst q
   exact new (I.hok b _ e) _ h j
  ·rw[zaf hb]at q;exact(I.hok b w q).stay (λ_ _ _ z=>z) (λc z=>j c b z) h
def Inv.freeze(I:Inv X bo σ H s)(e:H d=some (.dT cr))(a:s.heap.get? d=some o):Inv X bo σ (upd H d (.frz o (.dT cr))) s:=
 I.swap e (by intro _ z;cases z) (by intro _ z;cases z) (by intro _ z;cases z) (by intro _ _ z;cases z) λx H' t w=>⟨a,x.stay (λ_ _ _ z=>z) (λb z=>w b d z) t⟩
def Inv.thaw(I:Inv X bo σ H s)(e:H d=some (.frz o u))(n:∀o w,X.H₀ d≠some (.frz o w)):Inv X bo σ (upd H d u) s:=
 I.swap e (by intro _ z;cases z) (by intro _ z;cases z) (by intro _ z;cases z) (λ_ _ _=>n) λx H' t w=>x.2.stay (λ_ _ _ z=>z) (λb z=>w b d z) t
end
def Thw(H0:Hp)(H:Hp)(K:Hp->Prop):Prop:=K H\/∃d o u,H d=some (.frz o u)/\(∀o w,H0 d≠some (.frz o w))/\K (upd H d u)
section
variable{X:Cx}
def Thw.inv{a:St}{K:Hp->Prop}(h:Thw X.H₀ H K)(I:Inv X bo a H s):∃H',Inv X bo a H' s/\K H':=by
 rcases h with h | ⟨d,o,u,e,n,h⟩
 ·exact⟨H,I,h⟩
 ·exact⟨_,I.thaw e n,h⟩
def tThw(H0:Hp)(t:TE):TE:=λσ H Q=>t σ H λv H'=>Thw H0 H' (Q v)
def zv7(h:PE X e t):PE X e (tThw X.H₀ t):=by
 intro bo s b H Q I q;refine thn (h s b H _ I q) λu s' ⟨v,H',a,r,z⟩=>?_
 obtain⟨c,f,d⟩:=z.inv a;exact⟨v,c,f,r,d⟩
end
end L2
namespace L2
open PySem PySem.Spec PyProof.Rows
section
variable{prog:Ll}{w:Lk}{A:Around}{E:Va}{s:Lj}{it d:Lg}{i n ep:Nat}{es:Array DictEntry}{o:Obj}
def zik(f:s.heap.IsKeyIter it d i n ep)(h:s.heap.get? d=some o)(j:o.data=.dict es ep)(y:es.size=n)(p:es[i]? = some e)
  (x:∀h',h'.IsKeyIter it d (i+1) n ep->Heap.SameBut it s.heap h'->Q (some e.key) { s with heap:=h' }):wpAny (model prog w) A (pyNext (.ref it)) Q E s:=by
 obtain⟨oi,c,m,a⟩:=id f;have T:=f.typeIs;have l:Builtin.Dict_items.ownsTuple "dict_keyiterator" = false:=by decide
 have q:¬((Value.ref d == Value.none)=true):=λz=>Yt z
 unfold pyNext;refine Ya (wpAny_attempt (Ja (name:=Str.ofString "__next__") T F.slot_dict_keyiterator_next (Y7 F.slot_dict_keyiterator_next T F.entry_dict_keyiterator_next ?_ (F.args_dict_keyiterator_next_1 _))));refine Ya (Yb (Ya (Ya ?_)));refine Ya (wpAny_typeNameOfWhole_keyiter T (Yb (Ya (wpAny_fieldsOf c a ?_))));simp only[l,Bool.false_eq_true,if_false];show wpAny _ _ (if (Value.ref d == Value.none)=true then _ else _) _ _ s;rw[Yh q];refine Ya (Yb (Ya (Y6 h j ?_)));rw[Yh (by rw[y];simp)];refine Ya (Yb (Ya (wpAny_dictEpoch h j ?_)));rw[Yh (by simp)];have lt:¬((i:Int)<0):=by lia
 refine Yb ?_;simp only[lt,if_false,Int.toNat_natCast,p];refine Ya (Ya (wpAny_typeNameOfWhole_keyiter T (Yb (Ya (wpAny_isOneOf_keyiter T ?_)))));show wpAny _ _ (setField (.ref it) 1 (rawInt ((i:Int)+1)) >>= _) _ _ s;refine Ya (wpAny_setField c a (by simp) ?_);have b:(s.heap.update it (Obj.mapFields (·.setIfInBounds 1 (rawInt ((i:Int)+1))))).IsKeyIter it d (i+1) n ep:=⟨_,Heap.get?_update_self _ c (Obj.isFreed_of_fields (Obj.data_mapFields a _)),(Obj.cls_mapFields ..).trans m,by rw[Obj.data_mapFields a];simp[rawInt]⟩;have r:Shared.TypeIs { s with heap:=s.heap.update it (Obj.mapFields (·.setIfInBounds 1 (rawInt ((i:Int)+1)))) } (.ref it) "dict_keyiterator":=b.typeIs;refine Ya (Jq (Ya (wpAny_isOneOf_keyiter r ?_)));show wpAny _ _ (pure e.key) _ _ _;exact Yb (Yb ⟨_,Z,Yb (x _ b (Heap.SameBut.update ..))⟩)
def zmi{Q:Option Lh->Lj->Prop}(c:A'.handled=none)(f:∀h',(∀b o,s.heap.get? b=some o->h'.get? b=some o)->Q none { s with heap:=h' }){P:Fin->Lj->Prop} :
  wpAny (model prog w) A' (newExc (.type "StopIteration") [] >>= λe=>raiseNew e) P (λe s'=>wpAny (model prog w) A (do if (<- isInstance e (.type "StopIteration"))=true then pure none else throw e) Q E' s') s:=by
 refine Ya ?_;simp only[newExc,newTuple];refine Ya (Jn (Ya (m:=firstArgMember _ _) (wpAny_of_eq (a:=Value.none) (by first | rfl | (simp only[firstArgMember];rfl)) (Jn ?_ (by size_fits)))) (by size_fits));simp only[raiseNew];refine Ya (wpAny_handled ?_);rw[c];refine Ya (Yb (wpAny_throw ?_));have sub:=isSubtype_stop;refine Ya (wpAny_isInstance (T:="StopIteration") (b:=true) ⟨_,Yk _ rfl,Z⟩ sub ?_);exact Yb (f _ λb o e=>Ye _ (Ye _ e))
def zkl(r:A.handled=none)(a:s.heap.IsKeyIter it d i n ep)(f:s.heap.get? d=some o)(j:o.data=.dict es ep)(y:es.size=n)(hx:n<=i)
  (q:∀h',Heap.ExtBut it s.heap h'->Q none { s with heap:=h' }):wpAny (model prog w) A (pyNext (.ref it)) Q E s:=by
 obtain⟨oi,c,hci,h⟩:=id a;have T:=a.typeIs;have l:Builtin.Dict_items.ownsTuple "dict_keyiterator" = false:=by decide
 have p:¬((Value.ref d == Value.none)=true):=λz=>Yt z
 unfold pyNext;refine Ya (wpAny_attempt (Ja (name:=Str.ofString "__next__") T F.slot_dict_keyiterator_next (Y7 F.slot_dict_keyiterator_next T F.entry_dict_keyiterator_next ?_ (F.args_dict_keyiterator_next_1 _))));refine Ya (Yb (Ya (Ya ?_)));refine Ya (wpAny_typeNameOfWhole_keyiter T (Yb (Ya (wpAny_fieldsOf c h ?_))));simp only[l,Bool.false_eq_true,if_false];show wpAny _ _ (if (Value.ref d == Value.none)=true then _ else _) _ _ s;rw[Yh p];refine Ya (Yb (Ya (Y6 f j ?_)));rw[Yh (by rw[y];simp)];refine Ya (Yb (Ya (wpAny_dictEpoch f j ?_)));rw[Yh (by simp)];have lt:¬((i:Int)<0):=by lia
 have m:es[i]? = none:=Array.getElem?_eq_none (by lia);refine Yb ?_;simp only[lt,if_false,Int.toNat_natCast,m];refine Ya (Ya (wpAny_typeNameOfWhole_keyiter T (Yb ?_)));show wpAny _ _ (setField (.ref it) 0 .none >>= _) _ _ s;refine Ya (wpAny_setField c h (by simp) ?_);refine zmi (A:=A) (A':=A.in1) (E':=E) r λh' k=>?_
 exact q h' λb o x e=>k b o ((Heap.SameBut.update ..).extBut b o x e)
def zp9(a:IsItemIter s.heap it d i n ep ok ov)(h:s.heap.get? d=some o)(j:o.data=.dict es ep)(hn:es.size=n)(U:es[i]? = some e)
  (hQ:∀h',IsItemIterOut h' it d (i+1) n ep e.key e.val s.heap.objs.size->h'.get? s.heap.objs.size=some { cls:=.type "tuple",data:=.seq #[e.key,e.val] }->h'.objs.size=s.heap.objs.size+1 ->
   (∀b q,b≠it->s.heap.get? b=some q->h'.get? b=some q)->Q (some (.ref s.heap.objs.size)) { s with heap:=h' }):wpAny (model prog w) A (pyNext (.ref it)) Q E s:=by
 have T:s.TypeIs (.ref it) "dict_itemiterator":=⟨_,a,Z⟩;have r:Builtin.Dict_items.ownsTuple "dict_itemiterator" = true:=by decide
 have K:¬((Value.ref d == Value.none)=true):=λz=>Yt z
 unfold pyNext;refine Ya (wpAny_attempt (Ja (name:=Str.ofString "__next__") T F.slot_dict_itemiterator_next (Y7 F.slot_dict_itemiterator_next T F.entry_dict_itemiterator_next ?_ (F.args_dict_itemiterator_next_1 _))));refine Ya (Yb (Ya (Ya ?_)));refine Ya (wpAny_typeNameOfWhole_itemiter T (Yb (Ya (wpAny_fieldsOf a rfl ?_))));simp only[r,if_true];show wpAny _ _ (if (Value.ref d == Value.none)=true then _ else _) _ _ s;rw[Yh K];refine Ya (Yb (Ya (Y6 h j ?_)));rw[Yh (by rw[hn];simp)];refine Ya (Yb (Ya (wpAny_dictEpoch h j ?_)));rw[Yh (by simp)];have lt:¬((i:Int)<0):=by lia
 refine Yb ?_;simp only[lt,if_false,Int.toNat_natCast,U];refine Ya (Ya (wpAny_typeNameOfWhole_itemiter T (Yb (Ya (wpAny_isOneOf_itemiter T ?_)))));show wpAny _ _ (setField (.ref it) 3 (rawInt ((i:Int)+1)) >>= _) _ _ s;refine Ya (Jo a (by simp) λf M G=>?_);have C:IsItemIter f it d (i+1) n ep ok ov:=by
  have z:((i+1:Nat):Int)=(i:Int)+1:=by lia
  unfold IsItemIter;rw[z];simpa[rawInt]using M
 have J:Shared.TypeIs { s with heap:=f } (.ref it) "dict_itemiterator":=⟨_,C,Z⟩;refine Ya (Jq (Ya (wpAny_isOneOf_itemiter J (Ya (wpAny_isOneOf_itemiter J ?_)))));show wpAny _ _ (Builtin.Dict_items.pairFromOwner (.ref it) 6 e.key e.val) _ _ _;unfold Builtin.Dict_items.pairFromOwner;refine Ya (wpAny_newTuple ?_);have m:f.objs.size=s.heap.objs.size:=G.1;have y:it<s.heap.objs.size:=Yn a;have l:IsItemIter (f.push { cls:=.type "tuple",data:=.seq #[e.key,e.val] }) it d (i+1) n ep ok ov:=Ye _ C;have R:(f.push { cls:=.type "tuple",data:=.seq #[e.key,e.val] }).get? s.heap.objs.size=some { cls:=.type "tuple",data:=.seq #[e.key,e.val] }:=by rw[<- m];exact Yk _ rfl
 have z2:(f.push { cls:=.type "tuple",data:=.seq #[e.key,e.val] }).objs.size=s.heap.objs.size+1:=by rw[Heap.size_push,m]
 have k2:∀b q,b≠it->s.heap.get? b=some q->(f.push { cls:=.type "tuple",data:=.seq #[e.key,e.val] }).get? b=some q:=λb q c z=>Ye _ (G.extBut b q c z)
 dsimp only;rw[m];show wpAny _ _ (Builtin.Dict_items.ownedTupleIsFree (.ref it) >>= _) _ _ { s with heap:=f.push { cls:=.type "tuple",data:=.seq #[e.key,e.val] } };generalize (f.push { cls:=.type "tuple",data:=.seq #[e.key,e.val] }:Lo)=h2 at *;refine Ya ?_;unfold Builtin.Dict_items.ownedTupleIsFree;refine Ya (Jk l rfl (x:=.none) rfl (Yb ?_));simp only[if_true];refine Ya (Jk l rfl (x:=ok) rfl (Ya (Jk l rfl (x:=ov) rfl (Ya (Jo l (by simp) λh3 P H=>?_)))));have i3:IsItemIter h3 it d (i+1) n ep e.key ov:=P;refine Ya (Jo i3 (by simp) λN O D=>?_);have W:IsItemIter N it d (i+1) n ep e.key e.val:=O;refine Ya (Jo W (by simp) λL X I=>?_);have S:IsItemIterOut L it d (i+1) n ep e.key e.val s.heap.objs.size:=X;refine Ya (Jo S (by simp) λp e6 B=>?_);have Y:IsItemIterOut p it d (i+1) n ep e.key e.val s.heap.objs.size:=e6;have kp:∀b q,b≠it->h2.get? b=some q->p.get? b=some q:=λb q c z=>B.extBut b q c (I.extBut b q c (D.extBut b q c (H.extBut b q c z)))
 refine Ya (wpAny_letGo (Yb (Yb ⟨_,Z,Yb (hQ p Y (kp _ _ (Nat.ne_of_gt y) R) ?_ λb q c z=>kp b q c (k2 b q c z))⟩)));exact(B.1.trans (I.1.trans (D.1.trans H.1))).trans z2
def zrd(p:A.handled=none)(a:IsItemIter s.heap it d i n ep ok ov)(c:s.heap.get? d=some o)(f:o.data=.dict es ep)(r:es.size=n)(hx:n<=i)
  (m:∀h',Heap.ExtBut it s.heap h'->Q none { s with heap:=h' }):wpAny (model prog w) A (pyNext (.ref it)) Q E s:=by
 have T:s.TypeIs (.ref it) "dict_itemiterator":=⟨_,a,Z⟩;have h:Builtin.Dict_items.ownsTuple "dict_itemiterator" = true:=by decide
 have l:¬((Value.ref d == Value.none)=true):=λz=>Yt z
 unfold pyNext;refine Ya (wpAny_attempt (Ja (name:=Str.ofString "__next__") T F.slot_dict_itemiterator_next (Y7 F.slot_dict_itemiterator_next T F.entry_dict_itemiterator_next ?_ (F.args_dict_itemiterator_next_1 _))));refine Ya (Yb (Ya (Ya ?_)));refine Ya (wpAny_typeNameOfWhole_itemiter T (Yb (Ya (wpAny_fieldsOf a rfl ?_))));simp only[h,if_true];show wpAny _ _ (if (Value.ref d == Value.none)=true then _ else _) _ _ s;rw[Yh l];refine Ya (Yb (Ya (Y6 c f ?_)));rw[Yh (by rw[r];simp)];refine Ya (Yb (Ya (wpAny_dictEpoch c f ?_)));rw[Yh (by simp)];have lt:¬((i:Int)<0):=by lia
 have j:es[i]? = none:=Array.getElem?_eq_none (by lia);refine Yb ?_;simp only[lt,if_false,Int.toNat_natCast,j];refine Ya (Ya (wpAny_typeNameOfWhole_itemiter T (Yb ?_)));show wpAny _ _ (setField (.ref it) 2 .none >>= _) _ _ s;refine Ya (wpAny_setField a rfl (by simp) ?_);refine zmi (A:=A) (A':=A.in1) (E':=E) p λh' k=>?_
 exact m h' λb o q e=>k b o ((Heap.SameBut.update ..).extBut b o q e)
end
end L2
namespace L2
open PySem PySem.Spec PyProof.Rows
theorem Paired.at'{F : α->β->Prop}:∀{l} {m},Paired F l m->∀{i:Nat} {a},l[i]? = some a->∃b,m[i]? = some b/\F a b
 | _,_,.nil,i,a,h=>by simp at h
 | _,_,.cons r _,0,a,h=>by simp at h;subst h;exact⟨_,rfl,r⟩
 | _,_,.cons _ t,i+1,a,h=>by
  rw[List.getElem?_cons_succ]at h;obtain⟨b,d,c⟩:=Paired.at' t h;exact⟨b,by rw[List.getElem?_cons_succ];exact d,c⟩
def FzD(H:Hp)(d:Lg)(o:Obj)(cr:Ka):Prop:=H d=some (.frz o (.dT cr))
def ItK(d:Lg)(o:Obj)(cr:Ka):It:=
 ⟨λi H=>FzD H d o cr/\i<cr.length,λi H x H'=>H'=H/\∃b k v,cr[i]? = some (k,v)/\H b=some (.tup (k.map kV))/\x=.ref b,λi H=>FzD H d o cr/\cr.length<=i⟩
def ItI(d:Lg)(o:Obj)(cr:Ka):It:=
 ⟨λi H=>FzD H d o cr/\i<cr.length,λi H x H'=>∃p b k v,H p=none/\cr[i]? = some (k,v)/\H b=some (.tup (k.map kV))/\x=.ref p/\H'=upd H p (.tup [.ref b,v]),λi H=>FzD H d o cr/\cr.length<=i⟩
section
variable{X:Cx}{bo:La}{σ:St}{H:Hp}{s:Lj}{d:Lg}{o:Obj}{cr:Ka}{es:Array DictEntry}{ep:Nat}
def Inv.entries(I:Inv X bo σ H s)(e:FzD H d o cr)(c:o.data=.dict es ep) :
  s.heap.get? d=some o/\es.size=cr.length/\∀(i:Nat) k v,cr[i]? = some (k,v)->∃(b:Lg) (e:DictEntry),es[i]? = some e/\e.key=.ref b/\H b=some (.tup (k.map kV))/\RelV v e.val:=by
 obtain⟨hg,z,y,xs,r,n,es',ep',j,h2,a,f,h5⟩:=I.hok d _ e;have q:n=o:=Jf (j.symm.trans hg);subst q;rw[c]at a;injection a with a _
 subst a;refine⟨hg,(size_of_entries f).trans (Paired.length r).symm,λi k v h=>?_⟩;obtain⟨⟨x,b,u⟩,l,q2,m,p⟩:=Paired.at' r h;refine⟨b,entryOfKey (tupleKind (za0 X.prog X.w)) (x,b,u),by rw[entry_at f i,l];rfl,Z,m,p⟩
end
def zn0{K:Li}(a:o.data=.dict es ep) :
  Turn P w K tg (ItK d o cr) [it] it (λi h=>h.IsKeyIter it d i cr.length ep) where
 mem:=by simp
 obj:=λi h st b j=>by
  have e:b=it:=by simpa using j
  subst e;obtain⟨q,e,c,z⟩:=st;exact⟨q,e,λv y=>by rw[z]at y;cases y⟩
 keep:=λi h h' st k=>st.at λq e=>k it (by simp) q e
 item:=by
  intro X m hw x O i bo s L H E I l st hg;subst m hw x;obtain⟨D,lt⟩:=hg;obtain⟨hd,hz,N⟩:=I.entries D a;obtain⟨⟨k,v⟩,M⟩:∃p,cr[i]? = some p:=⟨cr[i],by simp[lt]⟩;obtain⟨b,e,U,T,r,_⟩:=N i k v M;obtain⟨C,G,f2,A,J,B⟩:=l it (by simp);refine zik st hd a hz U λh' f R=>?_
  have Y:Inv X bo L H { s with heap:=h' }:=I.turned (t':=s.toks) (λc q j z=>(R.2 c j).trans z) C G A J B;obtain⟨q,Q,c,z⟩:=id f;exact⟨e.key,Z,zo9 (s:={ s with heap:=h' }) Q c z (by decide) ⟨.ref b,H,Y,by rw[T];rfl,⟨Z,b,k,v,M,r,Z⟩,f,λc n=>(l c n).1⟩⟩
 done:=by
  intro X m hw x O i bo s L H E I l st hg;subst m hw x;obtain⟨D,S⟩:=hg;obtain⟨hd,hz,N⟩:=I.entries D a;obtain⟨C,G,f2,A,J,B⟩:=l it (by simp);exact zkl (I.ok.hd O) st hd a hz S λh' r=>⟨rfl,I.turned (t':=s.toks) (λb q j e=>r b q j e) C G A J B⟩
 self:=λ_ _ _ _ _ st h=>wpAny_pyIter_keyiter st h
def zdy(a:IsItemIter s.heap it d i n ep ok ov)(h:Q (.ref it) s) :
  wpAny (model prog w) A (pyIter (.ref it)) Q E s:=by
 have T:s.TypeIs (.ref it) "dict_itemiterator":=⟨_,a,Z⟩;have b:entryFor table "dict_itemiterator.__iter__" = some Builtin.«dict_keyiterator.__iter__»:=entryFor_alias (id':="dict_keyiterator.__iter__") (by kernel_rfl) rfl (by decide +kernel) (by kernel_rfl);refine wpAny_pyIter_slot T F.slot_dict_itemiterator_iter (Y7 F.slot_dict_itemiterator_iter T b ?_ (F.args_dict_itemiterator_iter_1 _));exact Yb ⟨_,Z,"dict_itemiterator",_,T,F.slot_dict_itemiterator_next.lookup,h⟩
def zmt{K:Li}(a:o.data=.dict es ep) :
  Turn P w K (.Tuple xs xk pos) (ItI d o cr) [it] it (λi h=>∃ok j,IsItemIter h it d i cr.length ep ok j) where
 mem:=by simp
 obj:=λi h ⟨ok,j,st⟩ b G=>by
  have e:b=it:=by simpa using G
  subst e;exact⟨_,st,λv y=>by cases y⟩
 keep:=λi h h' ⟨ok,j,st⟩ k=>⟨ok,j,k it (by simp) _ st⟩
 item:=by
  intro X r hw B f i bo s R H E I n st hg;subst r hw B;obtain⟨ok,j,st⟩:=st;obtain⟨L,lt⟩:=hg;obtain⟨hd,hz,O⟩:=I.entries L a;obtain⟨⟨k,v⟩,N⟩:∃p,cr[i]? = some p:=⟨cr[i],by simp[lt]⟩;obtain⟨b,e,ee,Y,A,S⟩:=O i k v N;have m:it<s.heap.objs.size:=Yn st;refine zp9 st hd a hz ee λh' D tp sz kp=>?_
  refine⟨_,Z,wpAny_letOwnedTupleGo_items D λl J M=>?_⟩;have x:l.get? s.heap.objs.size=some { cls:=.type "tuple",data:=.seq #[e.key,e.val] }:=M.extBut _ _ (Nat.ne_of_gt m) tp;have C:∀c q,c ∉ [it]->s.heap.get? c=some q->l.get? c=some q:=λc q f z=>M.extBut c q (by simpa using f) (kp c q (by simpa using f) z)
  refine⟨.ref s.heap.objs.size,upd H s.heap.objs.size (.tup [.ref b,v]),I.drawn (t':=s.toks) (ch:=[it]) (λc f=>n c f) C (Yi _) ?_,Z,⟨_,b,k,v,I.fresh,N,A,Z,Z⟩,⟨_,_,J⟩,λc f=>?_⟩
  ·exact⟨by show 2<=sizeLine;rw[sizeLine_eq];decide,[e.key,e.val],.cons (by rw[Y];rfl) (.cons S .nil),⟨_,x,Z,_,Z⟩⟩
  ·have e:c=it:=by simpa using f
   subst e;rw[zaf (Y0 m)];exact(n c (by simp)).1
 done:=by
  intro X r hw B f i bo s R H E I n st hg;subst r hw B;obtain⟨ok,j,st⟩:=st;obtain⟨L,U⟩:=hg;obtain⟨hd,hz,O⟩:=I.entries L a;obtain⟨f0,f1,f2,Q,f4,T⟩:=n it (by simp);exact zrd (I.ok.hd f) st hd a hz U λh' A=>⟨rfl,I.turned (t':=s.toks) (λb q G e=>A b q G e) f0 f1 Q f4 T⟩
 self:=λ_ _ _ _ _ ⟨_,_,st⟩ h=>zdy st h
end L2
namespace L2
open PySem PySem.Spec PyProof.Rows
section
variable{prog:Ll}{w:Lk}{A:Around}{E:Va}{s:Lj}{d:Lg}{ep:Nat}{es:Array DictEntry}{o:Obj}
def zgu(c:(d == sysModules)=false)(T:s.TypeIs (.ref d) "dict")(b:s.heap.get? d=some o)(a:o.data=.dict es ep)
  (e:Q (.ref s.heap.objs.size) { s with heap:=s.heap.push { cls:=.type "dict_keyiterator",data:=.fields #[.ref d,.int 0 0,.int es.size 0,.int ep 0] } }):wpAny (model prog w) A (pyIter (.ref d)) Q E s:=by
 refine wpAny_pyIter_slot T F.slot_dict_iter (Y7 F.slot_dict_iter T F.entry_dict_iter ?_ (F.args_dict_iter_1 _));unfold Builtin.«dict.__iter__»;refine Ya ?_;unfold Builtin.Dict.dictSlotNone;refine Ya (wpAny_notOrdered_dict T (Yb ?_));have f:¬((d == sysModules)=true):=by rw[c];exact Yt
 show wpAny _ _ (Builtin.Dict.showsAll d >>= _) _ _ s;unfold Builtin.Dict.showsAll;rw[Yh f];refine Ya (Yb (Ya (Y6 b a (Ya (wpAny_dictEpoch b a ?_)))));exact Ya (Jn (Yb ⟨_,Z,"dict_keyiterator",_,⟨_,Yk _ rfl,Z⟩,F.slot_dict_keyiterator_next.lookup,e⟩))
theorem dict_items(a:(d == sysModules)=false)(T:s.TypeIs (.ref d) "dict")(b:Q (.ref s.heap.objs.size) { s with heap:=s.heap.push { cls:=.type "dict_items",data:=.fields #[.ref d] } }) :
  wpAny (model prog w) A (call (.builtin "dict.items") [.ref d]) Q E s:=by
 refine Y7 F.slot_dict_items T F.entry_dict_items ?_ (F.args_dict_items_1 _);have c:¬((d == sysModules)=true):=by rw[a];exact Yt
 unfold Builtin.«dict.items»;refine Ya ?_;unfold Builtin.Dict.noArgs;refine Ya (wpAny_notOrdered_dict T (Yb ?_));show wpAny _ _ (Builtin.Dict.showsAll d >>= _) _ _ s;unfold Builtin.Dict.showsAll;rw[Yh c];exact Ya (Yb (Ya (Jn (Yb ⟨_,Z,b⟩))))
def znn(hv:s.heap.IsItemsView v d)(e:s.heap.get? d=some o)(a:o.data=.dict es ep)
  (h:Q (.ref s.heap.objs.size) { s with heap:=s.heap.push { cls:=.type "dict_itemiterator",data:=.fields #[.none,.bool false,.ref d,.int 0 0,.int es.size 0,.int ep 0,.none,.none] } }):wpAny (model prog w) A (pyIter (.ref v)) Q E s:=by
 obtain⟨q,f,hc,c⟩:=id hv;have b:Builtin.Dict_items.ownsTuple "dict_itemiterator" = true:=by decide
 refine wpAny_pyIter_slot hv.typeIs F.slot_dict_items_iter (Y7 F.slot_dict_items_iter hv.typeIs F.entry_dict_items_iter ?_ (F.args_dict_items_iter_1 _));unfold Builtin.«dict_items.__iter__»;refine Ya (Yb (Ya ?_));unfold Builtin.Dict_items.dictOf;refine Ya (Jk f c (x:=.ref d) rfl (Yb (Ya ?_)));unfold Builtin.Dict_items.newIterator;refine Ya (Y6 e a (Ya (wpAny_dictEpoch e a ?_)));simp only[b,if_true];refine Jn (Yb ⟨_,Z,"dict_itemiterator",_,⟨_,Yk _ rfl,Z⟩,F.slot_dict_itemiterator_next.lookup,?_⟩) (by simp only[sizeOk,Builtin.Dict_items.ownedTupleFields,List.size_toArray,List.length_append,List.length_cons,List.length_nil,sizeLine_eq];lia);simpa[rawInt,Builtin.Dict_items.ownedTupleFields]using h
end
def zs7(td:TE):TI:=λσ H R=>td σ H λx H1=>∃d cr,x=.ref d/\Rd H1 d (.dT cr)/\∀o,R (ItK d o cr) (upd H1 d (.frz o (.dT cr)))
def zxc(td:TE):TI:=λσ H R=>td σ H λx H1=>∃d cr,x=.ref d/\Rd H1 d (.dT cr)/\∀o,R (ItI d o cr) (upd H1 d (.frz o (.dT cr)))
section
variable{X:Cx}{tg:Ln}{bo:La}{σ:St}{H:Hp}{s:Lj}{d:Lg}{cr:Ka}
def Inv.still(I:Inv X bo σ H s)(e:Rd H d (.dT cr)):∃o c i,s.heap.get? d=some o/\s.TypeIs (.ref d) "dict"/\(∀b,Value.ref d=.ref b->∃ob,s.heap.get? b=some ob/\ob.dict=none)/\(d == sysModules)=false /\
  o.data=.dict c i/\c.size=cr.length/\Inv X bo σ (upd H d (.frz o (.dT cr))) s:=by
 obtain⟨z,hd,xs,h,o,c,i,a,j,m,l,h5,h6⟩:=zd6 I.hok e;have T:s.TypeIs (.ref d) "dict":=⟨o,a,j.1⟩;refine⟨o,c,i,a,T,λb q=>?_,hd,m,(size_of_entries l).trans (Paired.length h).symm,?_⟩
 ·cases q;exact⟨o,a,j.2.1⟩
 rcases e with e | ⟨f,e⟩
 ·exact I.freeze e a
 ·have q:s.heap.get? d=some f:=(I.hok d _ e).1;have n:f=o:=Jf (q.symm.trans a);subst n;have:upd H d (.frz f (.dT cr))=H:=by
   funext b;unfold upd;split
   ·rename_i z;rw[z,e]
   ·rfl
  rw[this];exact I
def zlc(r:PE X l tl):PI X tg l (zs7 tl):=by
 intro bo s σ H R I h;refine thn (r s σ H _ I h) λv c ⟨x,H1,m,n,d,cr,ex,e,q⟩=>?_
 subst ex
 cases n;obtain⟨o,es,ep,w,T,_,p,a,hz,f⟩:=m.still e;refine zgu p T w a ⟨c.heap.objs.size,[c.heap.objs.size],_,_,_,Z,f.kept (t':=c.toks) λb q z=>Ye _ z,zn0 a,⟨_,Yk _ rfl,Z,by rw[hz];rfl⟩,λb j=>?_,q o⟩;have i:b=c.heap.objs.size:=by simpa using j
 subst i;exact f.fpOk (Yi _) (f.hok.fresh (Yi _))
def zcp{xs:List Ln}{w:Nat}{B c a:Pos}{o:Ln}{p:TE}(G:PE X o p)(f:attributeBase o "items" X.env (eval o X.env)=eval o X.env:=by rfl)(i:(c.endLine == a.line)=true:=by rfl) :
  PI X (.Tuple xs w B) (.Call (.Attribute o "items" c) [] [] a) (zxc p):=by
 intro bo s σ H R I h;refine wpAny_Call_method0_late f i (thn (G s σ H _ I h) λv n ⟨x,H1,A,D,d,cr,ex,e,q⟩=>?_);subst ex
 cases D;obtain⟨ob,es,ep,m,T,C,E,j,hz,J⟩:=A.still e;refine⟨"dict","dict.items",PySem.F.plainAttrs_dict,PySem.F.slot_dict_items,PySem.F.type_dict_items,T,C,Calls.callWith_builtin rfl (PySem.evalArgs_none (dict_items E T ?_))⟩;have l:=J.kept (t':=n.toks) (h':=n.heap.push { cls:=.type "dict_items",data:=.fields #[.ref d] }) λb q z=>Ye _ z
 refine znn ⟨_,Yk _ rfl,Z,Z⟩ (Ye _ m) j ?_;refine⟨_,[_],_,_,_,Z,l.kept (t':=n.toks) λb q z=>Ye _ z,zmt j,⟨_,_,by rw[<- hz];exact Yk _ rfl⟩,λb y=>?_,q ob⟩;have r:=Yq.mp y;subst r;exact l.fpOk (Yi _) (l.hok.fresh (Yi _))
end
end L2
namespace L2
open PySem PySem.Spec PyProof.Rows
section
variable{prog:Ll}{w:Lk}{κ:Type}[DecidableEq κ]{knd:HeapKind prog w κ}{A:Around}{E:Va}{s:Lj}
inductive HHits(A:Around)(s:Lj)(ys:List (κ×Lg×Lh)):List (κ×Lg×Lh)->Bool->Prop
 | nil:HHits A s ys [] true
 | miss {x : κ×Lg×Lh} {r:List (κ×Lg×Lh)}:atKey ys x.1=none->HHits A s ys (x::r) false
 | hit {x : κ×Lg×Lh} {p:Lg×Lh} {r:List (κ×Lg×Lh)} {e c:Bool}:atKey ys x.1=some p->SeqAt.EqAt A s x.2.2 p.2 e->HHits A s ys r c->HHits A s ys (x::r) (e&&c)
def HHits.inv{x : κ×Lg×Lh}(h:HHits A s ys (x::r) c) :
  (atKey ys x.1=none/\c=false)\/∃p e c',atKey ys x.1=some p/\SeqAt.EqAt A s x.2.2 p.2 e/\HHits A s ys r c'/\c=(e&&c'):=by
 cases h with
 | miss a=>exact .inl ⟨a,rfl⟩
 | hit a b c=>exact .inr ⟨_,_,_,a,b,c,rfl⟩
def zhi(hu:knd.room A)(R:(a == sysModules)=false)(W:(b == sysModules)=false)(da:s.heap.DictOfH knd a xs)(db:s.heap.DictOfH knd b ys)
  (n:xs.length=ys.length->HHits A s ys xs r) (h:Q (xs.length == ys.length&&r) s):wpAny (model prog w) A (Builtin.Dict.samePairs nm a b) Q E s:=by
 obtain⟨oa,f,pa,y,_,q,M,ka,na⟩:=da;obtain⟨ob,o,pb,G,_,tb,lb,S,B⟩:=db;have K:f.size=xs.length:=size_of_entries M;have O:o.size=ys.length:=size_of_entries lb;have C:¬((a == sysModules)=true):=by rw[R];exact Yt
 have I:¬((b == sysModules)=true):=by rw[W];exact Yt
 unfold Builtin.Dict.samePairs Builtin.Dict.showsAll;rw[Yh C,Yh I];refine Ya (Yb (Ya (Yb (Ya (Y6 y q ?_)))));dsimp only;refine Ya (Y6 G tb ?_);by_cases hz:xs.length=ys.length
 case neg=>
  have D:(f.size != o.size)=true:=by rw[K,O];simpa using hz
  have q2:(xs.length == ys.length)=false:=by simpa using hz
  rw[Yl D];rw[q2,Bool.false_and]at h;exact Ya (wpAny_rule (Yb h))
 have D:¬((f.size != o.size)=true):=by rw[K,O,hz];simp
 have h':Q r s:=by simpa[hz]using h
 rw[Yh D];refine Ya (wpAny_dictEpoch y q (Ya ?_));rw[Std.Legacy.Range.forIn_eq_forIn_range'];simp only[Std.Legacy.Range.size,Nat.sub_zero,Nat.add_sub_cancel,Nat.div_one];refine wpAny_forIn_list _ (λrest c s'=>s'=s/\c=(none,())/\∃i,rest=List.range' i (f.size-i)/\i<=f.size/\HHits A s ys (xs.drop i) r) _ ?_ ?_ _ _ ⟨Z,Z,0,by simp,Y2 _,n hz⟩
 ·rintro x rest c s' ⟨rfl,rfl,i,d,hi,m⟩;have lt:i<f.size:=Nat.lt_of_not_le λz=>by rw[Nat.sub_eq_zero_of_le z]at d;simp at d
  have J:f.size-i=(f.size-(i+1))+1:=by lia
  rw[J,List.range'_succ]at d;injection d with e1 e2;subst e1
  have H:x<xs.length:=by lia
  have ex:f[x]? = some (entryOfKey knd xs[x]):=by rw[entry_at M x,Yc H];rfl
  have X:xs.drop x=xs[x]::xs.drop (x+1):=List.drop_eq_getElem_cons H;refine Ya (Y6 y q ?_);rw[ex];rw[X]at m;show wpAny _ _ (holding [Value.ref xs[x].2.1,xs[x].2.2] _ >>= _) _ _ _;refine Ya (Jq (Ya (wpAny_dictFind_heap hu (ka _ (Jv H)) G tb lb S B (λT=>?_) λj p L=>?_)))
  ·rcases m.inv with⟨_,d⟩ | ⟨p,_,_,l,_⟩
   ·rw[d]at h';refine Yb ?_;show wpAny _ _ (if (!false)=true then _ else _) _ _ _;rw[Yl (by decide)];exact Yb (Yb h')
   ·rw[atKey_none_of_get T]at l;cases l
  ·have U:o[j]? = some (entryOfKey knd (xs[x].1,p)):=by rw[entry_at lb j,L];rfl
   refine Ya (Y6 G tb ?_);rw[U];rcases m.inv with⟨P,_⟩ | ⟨p',e,c',l,Y,N,d⟩
   ·rw[atKey_of_get B L]at P;cases P
   rw[atKey_of_get B L]at l;injection l with l;subst l
   refine Jq (Y prog w _ _ ?_)
   cases e with
   | false=>rw[d,Bool.false_and]at h';show wpAny _ _ (if (!false)=true then _ else _) _ _ _;rw[Yl (by decide)];exact Yb (Yb h')
   | true=>
    rw[Bool.true_and]at d;rw[<- d]at N;show wpAny _ _ (if (!true)=true then _ else _) _ _ _;rw[Yh (by decide)];refine Ya (wpAny_dictEpoch y q ?_);rw[Yh (by simp)];exact Yb ⟨Z,Z,x+1,e2,lt,N⟩
 ·rintro c s' ⟨rfl,rfl,i,d,hi,m⟩;have ei:i=f.size:=Nat.le_antisymm hi (Nat.le_of_not_lt λz=>by
   have J:f.size-i=(f.size-(i+1))+1:=by lia
   rw[J,List.range'_succ]at d;cases d)
  refine Yb ?_;rw[ei,K,List.drop_length]at m;cases m;exact h'
def zl7(l:knd.room A.in1)(j:A.units<cLine)(f:(a == sysModules)=false)(i:(b == sysModules)=false)(d:s.heap.DictOfH knd a xs)(e:s.heap.DictOfH knd b ys)
  (c:xs.length=ys.length->HHits A.in1 s ys xs r) (h:Q (.bool (xs.length == ys.length&&r)) s):wpAny (model prog w) A (compareOp .Eq (.ref a) (.ref b)) Q E s:=by
 refine Jt (op:=.Eq) d.typeIs e.typeIs PySem.F.slot_dict_eq (Y7 PySem.F.slot_dict_eq d.typeIs PySem.F.entry_dict_eq ?_ (PySem.F.args_dict_eq_2 _ _)) j;show wpAny _ _ (Builtin.Dict.dictSlotArgs "__eq__" ⟨[.ref a,.ref b],[]⟩ >>= _) _ _ s;refine Ya ?_;unfold Builtin.Dict.dictSlotArgs;refine Ya (wpAny_notOrdered_dict d.typeIs (Yb ?_));refine Ya (wpAny_isInstance (T:="dict") e.typeIs PySem.F.sub_dict_dict ?_);simp only[Bool.not_true,Bool.false_eq_true,if_false];refine Ya (Yb (Ya (Yb (Ya (zhi l f i d e c (Yb ⟨_,Z,(λx=>nomatch x),?_⟩))))));simpa using h
def zqs(l:knd.room A.in1)(j:A.units<cLine)(f:(a == sysModules)=false)(i:(b == sysModules)=false)(d:s.heap.DictOfH knd a xs)(e:s.heap.DictOfH knd b ys)
  (c:xs.length=ys.length->HHits A.in1 s ys xs r) (h:Q (.bool (!(xs.length == ys.length&&r))) s):wpAny (model prog w) A (compareOp .NotEq (.ref a) (.ref b)) Q E s:=by
 refine Jt (op:=.NotEq) d.typeIs e.typeIs PySem.F.slot_dict_ne (Y7 PySem.F.slot_dict_ne d.typeIs PySem.F.entry_dict_ne ?_ (PySem.F.args_dict_ne_2 _ _)) j;show wpAny _ _ (Builtin.Dict.dictSlotArgs "__ne__" ⟨[.ref a,.ref b],[]⟩ >>= _) _ _ s;refine Ya ?_;unfold Builtin.Dict.dictSlotArgs;refine Ya (wpAny_notOrdered_dict d.typeIs (Yb ?_));refine Ya (wpAny_isInstance (T:="dict") e.typeIs PySem.F.sub_dict_dict ?_);simp only[Bool.not_true,Bool.false_eq_true,if_false];refine Ya (Yb (Ya (Yb (Ya (zhi l f i d e c (Yb ⟨_,Z,(λx=>nomatch x),?_⟩))))));simpa using h
end
end L2
namespace L2
open PySem PySem.Spec PyProof.Rows
def KDs(K:Li)(H:Hp):Ka->List (List Key×PyData)->Prop:=Paired λp q=>p.1=q.1/\Rds K H p.2 q.2
def zdt(ys:List (List Key×PyData))(k:List Key):Option PyData:=(ys.find? λq=>decide (q.1=k)).map (·.2)
def eqKD(xs ys:List (List Key×PyData)):Bool:=xs.length == ys.length&&xs.all λp=>match zdt ys p.1 with | some d=>PyData.eqv p.2 d | none=>false
def Flats(xs:List (List Key×PyData)):Prop:=∀p∈xs,p.2.canLay0=true/\p.2.depth<=60
section
variable{X:Cx}{bo:La}{σ:St}{H:Hp}{s:Lj}
theorem zi6(I:Inv X bo σ H s):∀{kb} {ys} {db},KT H kb ys->KDs X.K H kb db->Flats db->∀k,
  (atKey ys k=none/\zdt db k=none)\/∃p d as,atKey ys k=some p/\zdt db k=some d/\Reads s.heap p.2 d as/\d.canLay0=true/\d.depth<=60
 | _,_,_,.nil,.nil,_,_=>.inl ⟨rfl,rfl⟩
 | _,_,_,.cons (a:=a) (b:=b) r t,.cons (b:=c) q u,fl,k=>by
  obtain⟨j,r2,n⟩:=r;obtain⟨i,m⟩:=q;by_cases e:a.1=k
  ·have f:b.1=k:=j.symm.trans e;have h:c.1=k:=i.symm.trans e;obtain⟨as,rd⟩:=I.rds m n;obtain⟨w,A⟩:=fl c (.head _);exact .inr ⟨b.2,c.2,as,by simp[atKey,List.find?_cons,f],by simp[zdt,List.find?_cons,h],rd,w,A⟩
  ·have f:¬b.1=k:=λz=>e (j.trans z)
   have h:¬c.1=k:=λz=>e (i.trans z)
   have o:∀l,atKey (b::l) k=atKey l k:=λl=>by simp[atKey,List.find?_cons,f]
   have x:∀l,zdt (c::l) k=zdt l k:=λl=>by simp[zdt,List.find?_cons,h]
   rw[o,x];exact zi6 I t u (λp y=>fl p (.tail _ y)) k
theorem zie(y:A.units+61<cLine)(I:Inv X bo σ H s){l:Ka}{ys:List (List Key×Lg×Lh)}{h:List (List Key×PyData)}(tb:KT H l ys)(j:KDs X.K H l h)(m:Flats h) :
  ∀{ka} {xs} {da},KT H ka xs->KDs X.K H ka da->Flats da->HHits A s ys xs (da.all λp=>match zdt h p.1 with | some d=>PyData.eqv p.2 d | none=>false)
 | _,_,_,.nil,.nil,_=>.nil
 | _,_,_,.cons (a:=a) (b:=b) r t,.cons (b:=c) q u,fl=>by
  obtain⟨n,r2,z⟩:=r;obtain⟨i,w⟩:=q;have C:=zie y I tb j m t u λp D=>fl p (.tail _ D)
  obtain⟨as,rd⟩:=I.rds w z;obtain⟨B,f2⟩:=fl c (.head _);rw[List.all_cons];rcases zi6 I tb j m b.1 with⟨f,e⟩ | ⟨p,d,bs,f,e,x,o,h5⟩
  ·rw[<- n,i]at e;rw[e];exact .miss f
  ·rw[<- n,i]at e;rw[e];refine .hit f (SeqAt.eqAt_reads c.2 d A s _ _ as bs rd x B o ?_) C;have:=Nat.min_le_left c.2.depth d.depth;lia
end
def zr4(K:Li)(neg:Bool):R2:=λx y H Q=>∃a b ka kb da db,x=.ref a/\y=.ref b/\Rd H a (.dT ka)/\Rd H b (.dT kb)/\KDs K H ka da/\KDs K H kb db/\Flats da/\Flats db/\Q (.bl (xor neg (eqKD da db))) H
section
variable{X:Cx}
def zow(hu:X.A.units+64<cLine):OpR X (compareOp .Eq) (zr4 X.K false):=by
 intro bo s σ H x y u v Q I r l h;obtain⟨a,b,ka,kb,c,d,rfl,rfl,j,p,e,f,C,D,q⟩:=h
 cases r
 cases l;obtain⟨_,E,xs,i,m⟩:=zd6 I.hok j;obtain⟨_,z,ys,tb,n⟩:=zd6 I.hok p;have B:xs.length=c.length:=(Paired.length i).symm.trans (Paired.length e);have o:ys.length=d.length:=(Paired.length tb).symm.trans (Paired.length f);refine zl7 (knd:=tupleKind (za0 X.prog X.w)) (tupleKind_room_in1 (by lia)) (by lia) E z m n (λ_=>zie (by show X.A.units+1+61<cLine;lia) I tb f D i e C) ⟨.bl _,H,I,Z,?_⟩;rw[B,o];have:(false ^^ eqKD c d)=eqKD c d:=Bool.false_xor _;rw[this]at q;exact q
def zvi(hu:X.A.units+64<cLine):OpR X (compareOp .NotEq) (zr4 X.K true):=by
 intro bo s σ H x y u v Q I r l h;obtain⟨a,b,ka,kb,c,d,rfl,rfl,j,p,e,f,C,D,q⟩:=h
 cases r
 cases l;obtain⟨_,E,xs,i,m⟩:=zd6 I.hok j;obtain⟨_,z,ys,tb,n⟩:=zd6 I.hok p;have B:xs.length=c.length:=(Paired.length i).symm.trans (Paired.length e);have o:ys.length=d.length:=(Paired.length tb).symm.trans (Paired.length f);refine zqs (knd:=tupleKind (za0 X.prog X.w)) (tupleKind_room_in1 (by lia)) (by lia) E z m n (λ_=>zie (by show X.A.units+1+61<cLine;lia) I tb f D i e C) ⟨.bl _,H,I,Z,?_⟩;rw[B,o];have:(true ^^ eqKD c d) = !eqKD c d:=Bool.true_xor _;rw[this]at q;exact q
def ztz{m:St}(C:A.units<cLine)(I:Inv X bo m H s)(e:H a=some (.dT cr))(j:H b=some (.tup (k.map kV)))
  (l:cr.length<sizeLine) (D:RelV v r) (h:∀s',Inv X bo m (upd H a (.dT (putK cr k v))) s'->Q () s'):wpAny (model X.prog X.w) A (dictSet a (.ref b) r) Q E s:=by
 obtain⟨z,hd,xs,d,dd⟩:=zra I.hok e;have hz:xs.length<=sizeLine:=by rw[<- Paired.length d];exact z
 have J:(putK cr k v).length<=sizeLine:=by have:=zbz cr k v;lia
 refine wpAny_dictSet_heap (hsz:=hz) (knd:=tupleKind (za0 X.prog X.w)) C (zfi I.hok j) dd λh' f G=>h _ ?_
 obtain⟨q,K,x,n,y,B,p,_,o⟩:=f;refine ziy I (by rw[e];exact True.intro) G ⟨q,n⟩ ⟨J,hd,_,(d.put k j D).keeps λc ys i=>?_,q,K,x,n,y,B,p,o⟩;rw[zaf (za7 i e (λz=>nomatch z))];exact i
def zw5(tk tv:TE):TE:=λσ H Q=>∀p,H p=none->tk σ (upd H p (.dT [])) λx H1=>tv σ H1 λy H2=>∃b ks,x=.ref b/\H2 p=some (.dT [])/\H2 b=some (.tup (ks.map kV))/\Q (.ref p) (upd H2 p (.dT [(ks,y)]))
def zef(B:X.A.units<cLine)(j:PE X k tk)(hv:PE X v tv):PE X (.Dict [some k] [v] pos) (zw5 tk tv):=by
 intro bo s n H Q I q;have D:=I.hok.fresh (Yi s.heap.objs.size);have z:=I.laid (a:=s.heap.objs.size) (o:=.dT []) (h':=s.heap.push { cls:=.type "dict",data:=.dict #[] }) (t':=s.toks) (λ_ _ q=>Ye _ q) (Yi _) (zlw s.heap I.big);refine wpAny_Dict_any rfl rfl (by simp) (by simp) ?_;have P:PPs X pos [some k] [v] [(tk,tv)]:=zrj j hv zul;refine thn (P _ n _ (λps d=>match ps with | [(x,y)]=>∃b e,x=.ref b/\d s.heap.objs.size=some (.dT [])/\d b=some (.tup (e.map kV))/\Q (.ref s.heap.objs.size) (upd d s.heap.objs.size (.dT [(e,y)])) | _=>False) z (q _ D)) λws s2 ⟨ps,d,E,c,f⟩=>?_
 rcases ws with _ | ⟨⟨p,c2⟩,ws⟩
 ·cases c;exact f.elim
 cases c with
 | cons r t=>
  cases t with
  | cons _ _=>exact f.elim
  | nil=>
   obtain⟨h,i⟩:=r;obtain⟨b,e,ex,m,C,w⟩:=f;dsimp only at ex h i;rw[ex]at h;obtain rfl:p=Value.ref b:=h;unfold storeAll;rw[List.forIn_cons];refine Ya (Ya (ztz B E m C (by rw[sizeLine_eq];decide) i λs3 l=>Yb ?_));exact Yb ⟨.ref s.heap.objs.size,_,l,Z,w⟩
end
end L2
namespace L2
open PySem PySem.Spec PyProof.Rows
def Ends.thw(H0:Hp)(D:Ends):Ends:={ D with nx:=λσ H=>Thw H0 H (D.nx σ),rt:=λv H=>Thw H0 H (D.rt v) }
section
variable{X:Cx}{st:Lm}{ss:List Lm}{t:TS}
def SP.thw(h:SP X bo (D.thw X.H₀) f s):SP X bo D f s:=by
 cases f with
 | next=>obtain⟨a,H,I,q⟩:=h;obtain⟨H',c,b⟩:=Thw.inv (K:=D.nx a) q I;exact⟨a,H',c,b⟩
 | brk=>exact h
 | cont=>exact h
 | ret u=>obtain⟨v,a,H,I,r,q⟩:=h;obtain⟨H',c,b⟩:=Thw.inv (K:=D.rt v) q I;exact⟨v,a,H',c,r,b⟩
def zc3(h:PS X st t):PS X st (λD a H=>t (D.thw X.H₀) a H):=λbo s a H D I q=>thn (h s a H _ I q) λ_ _ z=>z.thw
end
end L2
namespace L2
open PySem PySem.Spec PyProof.Rows
theorem zi8{α a : Type}(f : α->a):∀(l:List α) j,(l.map f).eraseIdx j=(l.eraseIdx j).map f
 | [],j=>by simp
 | x::l,0=>by simp
 | x::l,j+1=>by simp[zi8 f l j]
theorem zfj{a b : Type}[DecidableEq a]:∀{xs:List (a×b)} (_:(xs.map (·.1)).Nodup) {j} {k} {q},xs[j]? = some (k,q)->xs.eraseIdx j=xs.filter λx=>decide (x.1≠k)
 | [],_,j,k,q,h=>by simp at h
 | x::r,hn,0,k,q,h=>by
  simp at h;subst h
  rw[Yz,List.nodup_cons]at hn;rw[List.eraseIdx_cons_zero,List.filter_cons,Yh (by simp)];refine(Yu.mpr λy c=>?_).symm;have:y.1≠k:=λe=>hn.1 (Ji.mpr ⟨y,c,e⟩)
  simpa using this
 | x::r,hn,j+1,k,q,h=>by
  rw[List.getElem?_cons_succ]at h;rw[Yz,List.nodup_cons]at hn;have:x.1≠k:=λe=>hn.1 (Ji.mpr ⟨(k,q),Yx h,e.symm⟩)
  rw[List.eraseIdx_cons_succ,List.filter_cons,Yl (by simpa using this),zfj hn.2 h]
section
variable{prog:Ll}{w:Lk}{κ:Type}[DecidableEq κ]{knd:HeapKind prog w κ}{A:Around}{E:Va}{s:Lj}
def zpy(B:knd.room A.in1)(b:knd.is s.heap k a)(hz:xs.length<=sizeLine)(dd:s.heap.DictOfH knd d xs)(i:atKey xs k=some p)
  (h:∀h',h'.DictOfH knd d (xs.filter λx=>decide (x.1≠k))->Heap.SameBut d s.heap h'->Q p.2 { s with heap:=h',toks:=s.toks+knd.draws k }) :
  wpAny (model prog w) A (call (.builtin "dict.pop") [.ref d,.ref a]) Q E s:=by
 have T:=dd.typeIs;obtain⟨o,f,D,c,I,hd,e,y,m⟩:=dd;have n:f.size<=sizeLine:=by rw[size_of_entries e];exact hz
 refine Y7 F.slot_dict_pop T F.entry_dict_pop ?_ (F.args_dict_pop_2 _ _);unfold Builtin.«dict.pop»;refine Ya ?_;unfold Builtin.Dict.keyAndDefault;refine Ya (wpAny_notOrdered_dict T ?_);show wpAny _ _ (pure (d,Value.ref a,none)) _ _ s;refine Yb ?_;have kp:(keyPart (.ref a)).isSome=false:=rfl;simp only[kp,Bool.false_eq_true,if_false];refine Ya (Y6 c hd (Ya (Yb ?_)));have J:f.isEmpty=false:=by
  have:xs≠[]:=λz=>by subst z;simp[atKey]at i
  have:0<xs.length:=List.length_pos_iff.mpr this;have:=size_of_entries e;simp[Array.isEmpty];intro z;simp[z]at this;lia
 rw[J];simp only[Bool.false_eq_true,if_false];refine Ya ?_;unfold Builtin.Dict.takeOut
 try with_reducible refine Jq ?_
 refine Ya (knd.pyHash B b ?_);refine Ya (wpAny_dictFind_heap (s:={ s with toks:=s.toks+knd.draws k }) B b c hd e y m (λH=>by rw[atKey_none_of_get H]at i;cases i) λj q r=>?_);have G:f[j]? = some (entryOfKey knd (k,q)):=by rw[entry_at e j,r];rfl
 have eq:q=p:=by rw[atKey_of_get m r]at i;exact Jf i
 subst eq;refine Ya (Y6 (s:={ s with toks:=s.toks+knd.draws k }) c hd ?_);rw[G];refine Ya (wpAny_updateDictKeys (hz:=n) (s:={ s with toks:=s.toks+knd.draws k }) c hd (Yb ?_));simp only[Option.isNone_some,Bool.false_eq_true,if_false];refine Ya (wpAny_letGo (Yb ⟨q.2,Z,h _ ⟨_,_,D+1,Heap.get?_update_self _ c (Obj.isFreed_of_dict (Obj.data_mapDictKeys hd _)),I.mapDictKeys _,Obj.data_mapDictKeys hd _,?_,?_,?_⟩ (Heap.SameBut.update ..)⟩))
 ·rw[<- zfj m r];have:(f.toList.eraseIdx j)=(xs.eraseIdx j).map (entryOfKey knd):=by rw[e,zi8]
  rw[<- this];obtain⟨l⟩:=f;simp
 ·intro x C;exact knd.keeps (y x (List.mem_filter.mp C).1) c hd (Heap.SameBut.update ..)
 ·exact m.sublist (List.filter_sublist.map _)
end
def KT.drop(r:KT H cr xs)(k:List Key):KT H (zfg cr k) (xs.filter λx=>decide (x.1≠k)):=by
 unfold zfg;induction r with
 | nil=>exact .nil
 | @cons p q ps qs h t ih=>
  obtain⟨c,f⟩:=h;rw[List.filter_cons,List.filter_cons];by_cases e:p.1=k
  ·have a:¬decide (p.1≠k)=true:=by simp[e]
   have b:¬decide (q.1≠k)=true:=by simp[c.symm.trans e]
   rw[Yh a,Yh b];exact ih
  ·have d:¬q.1=k:=λz=>e (c.trans z)
   have a:decide (p.1≠k)=true:=by simp[e]
   have b:decide (q.1≠k)=true:=by simp[d]
   rw[Yl a,Yl b];exact .cons ⟨c,f⟩ ih
section
variable{X:Cx}
inductive rDPop(x:V)(vs:Lf)(H:Hp)(Q:VK):Prop
 | mk (d b cr k v) (_:x=.ref d) (_:vs=[.ref b]) (_:H d=some (.dT cr)) (_:H b=some (.tup (k.map kV))) (_:valV cr k=some v) (_:Q v (upd H d (.dT (zfg cr k))))
def zuu(G:X.A.units+1<cLine):MtR X "dict.pop" rDPop:=by
 intro bo s σ H x vs v us Q I M B h;obtain⟨d,b,cr,k,val,rfl,rfl,i,C,hv,q⟩:=h
 cases M;obtain⟨u,rfl,L⟩:=zir B
 cases L;obtain⟨z,hd,xs,a,dd⟩:=zra I.hok i;have hz:xs.length<=sizeLine:=by rw[<- Paired.length a];exact z
 obtain⟨w',hw,e⟩:=RelO.some_of (v:=val) (o:=(atKey xs k).map (·.2)) (by rw[<- hv];exact a.val k);obtain⟨p,D,rfl⟩:=Option.map_eq_some_iff.mp hw;refine zpy (knd:=tupleKind (za0 X.prog X.w)) (tupleKind_room_in1 G) (zfi I.hok C) hz dd D λh' f J=>⟨val,_,?_,e,q⟩
 obtain⟨o,K,r,j,y,E,n,_,m⟩:=f;refine ziy I (by rw[i];exact True.intro) J ⟨o,j⟩ ⟨Yr (zls cr k) z,hd,_,(a.drop k).keeps λc ys l=>?_,o,K,r,j,y,E,n,m⟩;rw[zaf (za7 l i (λz=>nomatch z))];exact l
def zlb{o e:Ln}{i:TE}{t:TA}{c a:Pos}(n:X.A.units+1<cLine)(m:PE X o i)(j:PA X [e] t)(d:attributeBase o "pop" X.env (eval o X.env)=eval o X.env:=by rfl)
  (h:((backTo a (starEach (e::[]) X.env)).all (λx => !x.1)&&(backToKw a (keywordEach [] X.env)).all (λx=>x.1.isSome)
   && decide ((e::[]).length+([]:List Keyword).length+(if ([]:List Keyword).isEmpty then 0 else 1)<30))=true:=by rfl)
  (f:(c.endLine == a.line)=true:=by rfl) (l:starEach (e::[]) X.env=(false,eval e X.env)::starEach [] X.env:=by rfl) (b:(backTo a (starEach [] X.env)).any (·.1)=false:=by rfl) :
  PE X (.Call (.Attribute o "pop" c) [e] [] a) (tBM X.K "dict" rDPop i t):=zkj PySem.F.plainAttrs_dict PySem.F.slot_dict_pop PySem.F.type_dict_pop (zuu n) m j d h f l b
end
def ze2(c:H d=some u)(e:Same (upd H d (.frz o u)) H1):Same H (upd H1 d u):=λb q a=>by
 by_cases z:b=d
 ·subst z;rw[zad,<- c];exact a
 ·rw[zaf z];exact e b q (by rw[zaf z];exact a)
def zof(h:FzD H1 d o cr):Walk (ItK d o cr) H1 cr.length (λi x H=>∃b k v,cr[i]? = some (k,v)/\H b=some (.tup (k.map kV))/\x=.ref b):=
 ⟨λi H' e hi=>⟨e _ _ h,hi⟩,λH' e=>⟨e _ _ h,Yi _⟩,λi H' x H2 e hi y=>by
  obtain⟨rfl,q⟩:=y;exact⟨Same.refl _,q⟩⟩
def zb9{g:TG}{tb:TS}{D:Ends}(c:Nat->St->Hp->Prop)(n:c 0 a H)(w:∀i a H,c i a H->FzD H d o cr)
  (s:∀i k v a H p b,cr[i]? = some (k,v)->c i a H->H p=none->H b=some (.tup (k.map kV))->g (.ref p) a (upd H p (.tup [.ref b,v])) λe h=>tb { D with nx:=c (i+1),ct:=c (i+1),bk:=D.nx } e h) (hd:∀a H,c cr.length a H->D.nx a H) :
  ∃W:Nat->Nat->St->Hp->Prop,(∃m,W 0 m a H)/\∀i m a H,W i m a H ->
   ((ItI d o cr).stop i H/\D.nx a H)\/((ItI d o cr).go i H/\∃N,(∀f H',N f H'->∃m',m'<m/\W (i+1) m' f H')/\∀x H',(ItI d o cr).yld i H x H'->g x a H' λe h=>tb { D with nx:=N,ct:=N,bk:=D.nx } e h):=by
 refine⟨λi m a H=>m=cr.length-i/\i<=cr.length/\c i a H,⟨cr.length,by simp,Y2 _,n⟩,?_⟩;rintro i m a H ⟨rfl,hi,p⟩;have q:=w i a H p;by_cases hlt:i<cr.length
 ·refine .inr ⟨⟨q,hlt⟩,c (i+1),λf H' j=>⟨cr.length-(i+1),by lia,Z,hlt,j⟩,λx H' y=>?_⟩;obtain⟨j,b,k,v,A,l,r,rfl,rfl⟩:=y;exact s i k v a H j b l p A r
 ·have z:i=cr.length:=by lia
  subst z;exact .inl ⟨⟨q,Yi _⟩,hd a H p⟩
end L2
namespace L2
open PySem PySem.Spec PyProof.Rows
def hsI(xs:Lc):Int:=reduceHash (Builtin.Tuple.tupleHashOf (xs.map hashInt))
theorem zeu{α:Type}{f : α->Int}:∀{l:List α} {e},(l.map f).Nodup->e∈l->(l.filter λx=>f x == f e).length<=1
 | [],e,_,h=>by cases h
 | x::l,e,hn,h=>by
  rw[Yz,List.nodup_cons]at hn;rw[List.filter_cons];by_cases q:f x=f e
  ·have z:(l.filter λy=>f y == f e)=[]:=by
    rw[List.filter_eq_nil_iff];intro y a b;exact hn.1 (Ji.mpr ⟨y,a,(beq_iff_eq.mp b).trans q.symm⟩)
   rw[Yl (beq_iff_eq.mpr q),z];exact Yi 1
  ·rw[Yh (λz=>q (beq_iff_eq.mp z))];refine zeu hn.2 ?_;rcases Yj.mp h with z | z
   ·exact absurd (Jw f z.symm) q
   ·exact z
section
variable{prog:Ll}{w:Lk}{κ:Type}[DecidableEq κ]{kk:KeyKind prog w κ}{A:Around}{E:Va}{s:Lj}
def zkm(b:s.TypeIs (.ref a) "tuple")(h:Q false s):wpAny (model prog w) A (Builtin.Dict.quietEq (.ref a)) Q E s:=by
 unfold Builtin.Dict.quietEq;refine Ya (wpAny_specialOf b F.slot_tuple_eq.lookup (Yb ?_));exact h
def zmw{xs:List (List κ×Lg×Lh)}(d:s.heap.get? o=some ob)(i:ob.data=.dict es ep)
  (c:es.toList=xs.map (entryOfKey (tupleKind kk))) (n:∀x∈xs,(tupleKind kk).is s.heap x.1 x.2.1) (y:(xs.map λx=>(tupleKind kk).hash x.1).Nodup) (h:Q es s):wpAny (model prog w) A (Builtin.Dict.entriesForEmpty nm o) Q E s:=by
 unfold Builtin.Dict.entriesForEmpty;refine Ya (Y6 d i ?_);refine Ya ?_;rw[<- Array.forIn_toList];have j:(es.toList.map (·.hash)).Nodup:=by rw[c,Jh];exact y
 refine wpAny_forIn_list _ (λrest (_:PUnit) s'=>s'=s/\∀e∈rest,e∈es.toList) _ ?_ ?_ _ _ ⟨Z,λe z=>z⟩
 ·rintro e rest b s' ⟨rfl,a⟩;have m:=a e List.mem_cons_self;obtain⟨x,p,rfl⟩:=Ji.mp (by rw[<- c];exact m);refine Ya (zkm (IsTupleKey.typeIs (n x p)) ?_);simp only[Bool.not_false,if_true];have r:¬((es.filter λz=>z.hash == (entryOfKey (tupleKind kk) x).hash).size > 1):=by
   obtain⟨l⟩:=es;have q:(l.filter λz=>z.hash == (entryOfKey (tupleKind kk) x).hash).length<=1:=zeu (f:=λz:DictEntry=>z.hash) j m;have:(Array.filter (λz=>z.hash == (entryOfKey (tupleKind kk) x).hash) { toList:=l }).size=(l.filter λz=>z.hash == (entryOfKey (tupleKind kk) x).hash).length:=by simp
   lia
  rw[Yh r];exact Yb ⟨Z,λe c=>a e (List.mem_cons_of_mem _ c)⟩
 ·rintro b s' ⟨rfl,_⟩;exact Yb h
def zxe(q:d≠o)(B:(o == sysModules)=false)
  (hd:s.heap.DictOfH (tupleKind kk) d []) (M:s.heap.DictOfH (tupleKind kk) o xs) (L:(xs.map λx=>(tupleKind kk).hash x.1).Nodup)
  (J:∀h',h'.DictOfH (tupleKind kk) d xs->Heap.SameBut d s.heap h'->Q () { s with heap:=h' }) (hsz:xs.length<=sizeLine) :
  wpAny (model prog w) A (Builtin.Dict.mergeDict nm d o) Q E s:=by
 obtain⟨od,n,r,j,H,h,I,hkd,hnd⟩:=id hd;obtain⟨oo,a,epo,i,hco,c,f,p,G⟩:=id M;unfold Builtin.Dict.mergeDict;rw[Yh (by simpa using q)];unfold Builtin.Dict.showsAll;rw[Yh (by rw[B];exact Yt)];refine Ya (Yb ?_);refine Ya (Y6 i c ?_);have C:n.isEmpty=true:=by
  obtain⟨l⟩:=n;have:l=[]:=I;subst this;rfl
 cases xs with
 | nil=>
  have y:a = #[]:=by
   obtain⟨l⟩:=a;have:l=[]:=f;subst this;rfl
  subst y;have m:(decide ((#[]:Array DictEntry).size<=8)&&(#[]:Array DictEntry).all λe=>(keyPart e.key).isSome)=true:=by simp
  simp only[m,Bool.not_true,Bool.false_eq_true,if_false]
  refine Ya (wpAny_dictEpoch i c ?_);refine Ya (Y6 i c ?_);refine Ya ?_;rw[Std.Legacy.Range.forIn_eq_forIn_range'];refine wpAny_forIn_list _ (λrest (_:PUnit) s'=>rest=[]/\s'=s) _ ?_ ?_ _ _ ⟨Z,Z⟩
  ·rintro x rest b s' ⟨z,_⟩;cases z
  ·rintro b s' ⟨_,rfl⟩;exact Yb (J _ hd (Heap.SameBut.refl _ _))
 | cons x xs=>
  have D:¬(a.isEmpty=true):=by
   obtain⟨l⟩:=a;have:l=(x::xs).map (entryOfKey (tupleKind kk)):=f;subst this;simp
  have m:(decide (a.size<=8)&&a.all λe=>(keyPart e.key).isSome)=false:=by
   obtain⟨l⟩:=a;have:l=(x::xs).map (entryOfKey (tupleKind kk)):=f;subst this;have:(keyPart (entryOfKey (tupleKind kk) x).key).isSome=false:=rfl;simp[this]
  simp only[m,Bool.not_false,if_true]
  refine Ya (Y6 j h ?_);simp only[C,if_true];refine Ya (zmw i c f p L ?_);rw[Bool.eq_false_iff.mpr D];simp only[Bool.not_false,if_true];refine Ya (wpAny_updateDictKeysTo (hz':=by
   have:a.size=(x::xs).length:=by rw[<- Array.length_toList,f,Yd]
   show a.size<=_;lia) j h (Yb (J _ ⟨_,_,r+1,Heap.get?_update_self _ j (Obj.isFreed_of_dict (Obj.data_mapDictKeys h _)),
   H.mapDictKeys _,Obj.data_mapDictKeys h _,f,λx K=>?_,G⟩ (Heap.SameBut.update ..))))
  exact(tupleKind kk).keeps (p x K) j h (Heap.SameBut.update ..)
def zm6(i:(o == sysModules)=false)(m:s.heap.DictOfH (tupleKind kk) o xs)(J:(xs.map λx=>(tupleKind kk).hash x.1).Nodup)(hsz:xs.length<=sizeLine)
  (h:∀h',h'.DictOfH (tupleKind kk) s.heap.objs.size xs->Heap.SameBut s.heap.objs.size (s.heap.push { cls:=.type "dict",data:=.dict #[] }) h'->Q (.ref s.heap.objs.size) { s with heap:=h' }) :
  wpAny (model prog w) A (call (.type "dict") [.ref o]) Q E s:=by
 refine callType_codes (Q₁:=λobj c=>obj=.ref s.heap.objs.size/\c={ s with heap:=s.heap.push { cls:=.type "dict",data:=.dict #[] } }) F.kt_called_dict (F.kt_typeCall_dict_1 _) F.entry_dict_init (kt_code_dict_new _ ⟨Z,Z⟩) ?_;rintro obj c ⟨rfl,rfl⟩;have a:(s.heap.push { cls:=.type "dict",data:=.dict #[] }).DictOfH (tupleKind kk) s.heap.objs.size []:=⟨_,_,_,Yk _ rfl,⟨Z,Z,Z⟩,Z,Z,λx j=>(by cases j),List.nodup_nil⟩;have f:s.heap.objs.size≠o:=by
  obtain⟨_,_,_,hg,_⟩:=m;exact λe=>absurd (Yn hg) (by rw[e];exact Nat.lt_irrefl _)
 have b:(s.heap.push { cls:=.type "dict",data:=.dict #[] }).DictOfH (tupleKind kk) o xs:=by
  obtain⟨ob,K,r,B,y,H,p,n,z⟩:=m;refine⟨ob,K,r,Ye _ B,y,H,p,λx j=>?_,z⟩;obtain⟨C,G,D,I,q⟩:=n x j;exact⟨C,G,D,Ye _ I,q⟩
 refine⟨a.typeIs,F.args_dict_init_2 _ _,?_⟩;unfold Builtin.«dict.__init__»;refine Ya ?_;unfold Builtin.Dict.selfAndRest;refine Ya (wpAny_notOrdered_dict a.typeIs ?_);show wpAny _ _ (pure (s.heap.objs.size,[Value.ref o])) _ _ _;refine Yb ?_;show wpAny _ _ (Builtin.Dict.updateFrom "dict.__init__" s.heap.objs.size (.ref o) [] .none) _ _ _;unfold Builtin.Dict.updateFrom;refine Ya (wpAny_typeOf b.typeIs ?_);rw[Yh (by decide)];refine Ya ?_;unfold Builtin.Dict.merge;refine Ya ?_;unfold Builtin.Dict.readDirectly;refine Ya (wpAny_isInstance b.typeIs isSubtype_dict_dict ?_);simp only[Bool.not_true,Bool.false_eq_true,if_false];refine Ya (wpAny_specialOf b.typeIs F.slot_dict_iter.lookup (Yb ?_));simp only[beq_self_eq_true,if_true];refine Ya (Yb ?_);refine zxe (hsz:=hsz) f i a b J λh' l d=>?_
 show wpAny _ _ (Builtin.Dict.addKeywords s.heap.objs.size [] >>= _) _ _ _;exact Ya (Yb (Yb ⟨Z,h h' l d⟩))
end
def HDs(cr:Ka):Prop:=∃ts:Lb,cr.map (·.1)=ts.map (λt=>t.map Sum.inl)/\(ts.map hsI).Nodup
def KT.keysEq(r:KT H cr xs):xs.map (·.1)=cr.map (·.1):=by
 induction r with
 | nil=>rfl
 | cons h t ih=>rw[Yz,Yz,ih,h.1]
section
variable{X:Cx}
def zvg(P:Ll)(w:Lk)(t:Lc):(tupleKind (za0 P w)).hash (t.map Sum.inl)=hsI t:=by
 show reduceHash (Builtin.Tuple.tupleHashOf ((t.map Sum.inl).map (za0 P w).hash))=_;rw[Jh];rfl
def zc0:CallR X (.type "dict") (λxs H Q=>∃d cr,xs=[.ref d]/\H d=some (.dT cr)/\HDs cr/\∀p,H p=none->Q (.ref p) (upd H p (.dT cr))):=by
 intro bo s σ H xs us Q I r h;obtain⟨d,cr,rfl,G,⟨A,f,i⟩,q⟩:=h;obtain⟨u,rfl,P⟩:=zir r
 cases P;obtain⟨z,hd,ys,a,dd⟩:=zra I.hok G;have hz:ys.length<=sizeLine:=by rw[<- Paired.length a];exact z
 have m:ys.map (·.1)=cr.map (·.1):=KT.keysEq a;have M:(ys.map λx=>(tupleKind (za0 X.prog X.w)).hash x.1).Nodup:=by
  have e:(ys.map λx=>(tupleKind (za0 X.prog X.w)).hash x.1)=(ys.map (·.1)).map (tupleKind (za0 X.prog X.w)).hash:=by rw[Jh];rfl
  rw[e,m,f,Jh];have L:(A.map ((tupleKind (za0 X.prog X.w)).hash ∘ λt=>t.map Sum.inl))=A.map hsI:=List.map_congr_left λt _=>zvg _ _ t
  rw[L];exact i
 refine zm6 (kk:=za0 X.prog X.w) hd dd M hz λh' j N=>?_
 have kp:∀b n,s.heap.get? b=some n->h'.get? b=some n:=λb n e=>by
  rw[N.2 b (Y0 (Yn e))];exact Ye _ e
 obtain⟨o,O,D,J,E,K,C,_,B⟩:=j;have y:=I.hok.fresh (Yi s.heap.objs.size);refine⟨.ref s.heap.objs.size,_,I.laid (t':=s.toks) kp (Yi _) (show ObjOk X.prog X.w _ h' _ (.dT cr) from⟨z,?_,ys,a.keeps λc yy l=>?_,o,O,D,J,E,K,C,B⟩),Z,q _ y⟩
 ·exact beq_eq_false_iff_ne.mpr (Nat.ne_of_gt I.big)
 ·rw[zaf (λe=>by rw[e,y]at l;cases l)];exact l
end
end L2
namespace L2
open PySem PySem.Spec PyProof.Rows TS
def zty(X:Cx)(N:List Lp)(qual:Lp)(scope:Scope)(q c':Lg)(cl:List (Lp×Lg))(A:Around)(s:Lj)(H:Hp):Cx where
 prog:=X.prog
 w:=X.w
 K:=X.K
 mg:=X.mg
 base:=X.base
 A:=A.deeper (W.envX qual scope s.heap.objs.size q (.ref c') cl)
 N:=N
 s₀:=s
 H₀:=H
 env:=W.envX qual scope s.heap.objs.size q (.ref c') cl
 outer:=X.stack
 stack:=W.envX qual scope s.heap.objs.size q (.ref c') cl::X.stack
 ex:=[]
 calm:=true
 fn:=λ_=>false
 pn:=[]
 xe:=λ_ _=>False
section
variable{X:Cx}{bo:La}{σ:St}{H:Hp}{s:Lj}{x y:Lp}{qual:Lp}{scope:Scope}{q c' c:Lg}{A:Around}{u uy:Lh}{xv yv:V}
def zud(I:Inv X bo σ H s)(O:A.frames=some X.stack)(J:A.handled=none)(C:scope.kind=.function)(L:scope.names.lookup x=some .local)(G:scope.names.lookup y=some .free)
  (M:∀z,(scope.names.lookup z=some .cell\/scope.names.lookup z=some .free)->z=y) (r:X.env.cells.lookup y=some c) (w:s.heap.IsCell c (some uy)) (D:RelV yv uy) (N:RelV xv u)
  (B:h₁.Ns s.heap.objs.size (λz=>[(x,u)].reverse.lookup z)) (a:∀b o,s.heap.get? b=some o->h₁.get? b=some o) :
  Inv (zty X [x,y] qual scope q c' [(y,c)] A s H) [] [some xv,some yv] H { s with heap:=h₁,toks:=tk }:=by
 have j:∀z d,([(y,c)]:List (Lp×Lg)).lookup z=some d->z=y/\d=c:=λz d h=>by
  rw[Jl]at h;split at h
  ·rename_i e
   exact⟨by simpa using e,by cases h;rfl⟩
  ·cases h
 have n:([(y,c)]:List (Lp×Lg)).lookup y=some c:=by rw[Jl];simp
 have m:h₁.IsCell c (some uy):=let ⟨o,e,d⟩:=w;⟨o,a _ _ e,d⟩;have hkd:∀z,Env.kindOf (W.envX qual scope s.heap.objs.size q (.ref c') [(y,c)]) z=scope.names.lookup z:=λ_=>rfl
 refine⟨⟨I.ok.mod,C,Z,Z,Yi _,λz z' d f l=>(j _ _ f).1.trans (j _ _ l).1.symm,λz hz=>⟨c,?_⟩,λz d E _=>absurd (show false=true from E) Yt,λ_=>J,Around.frames_deeper O,.inr ⟨Z,Z⟩,λb z=>(nomatch z),I.bs,Yr I.ok.bsz I.sz,λb _ _ z=>(nomatch z),λb z=>(nomatch z),I.stack,I.stkFree⟩,
  rfl,I.bare,Un.kept a,⟨_,B,λi z v f l h3=>?_⟩,λz d h=>⟨some uy,by rw[(j z d h).2];exact m⟩,I.hok.fresh (Yi _),λz d h=>by rw[(j z d h).2];exact I.freeC y c r,λp K=>(nomatch K),I.hok.kept a,Z⟩
 ·have:=M z hz;subst this;exact n
 ·match i,f,l with
  | 0,f,l=>
   cases f
   cases l;exact⟨u,N,.inl ⟨L,by show List.lookup x [(x,u)]=some u;rw[Jl];simp⟩⟩
  | 1,f,l=>
   cases f
   cases l;exact⟨uy,D,.inr ⟨.inr G,c,n,m⟩⟩
  | i+2,f,l=>exact absurd (show (none:Option Lp)=some z from f) (by simp)
def zut(I:Inv X bo σ H s)(a:(q,W.kla_obj "<lambda>" qual params body scope [(y,c)] pm c' ctv)∈bo)(m:(c',oc)∈bo)
  (hd:oc.data=.fields vs) (hv:vs[1]? = some (.str qual tq)) (hA:A.frames=some X.stack) (N:A.handled=none) (U:A.depth<recursionLimit) (E:scope.kind=.function) (n:scope.isCoroutine=false) (j:scope.isGenerator=false)
  (f:∀x∈scope.names,x.2≠.cell) (G:scope.names.lookup x=some .local) (M:scope.names.lookup y=some .free) (S:∀z,(scope.names.lookup z=some .cell\/scope.names.lookup z=some .free)->z=y)
  (P:∀u,bindArgs (W.kla_fn "<lambda>" qual params body scope [(y,c)] pm (.ref c') ctv) ⟨[u],[]⟩=pure [(x,u)])
  (l:X.env.cells.lookup y=some c) (B:s.heap.IsCell c (some uy)) (K:RelV yv uy) (Y:RelV xv u)
  (p:PE (zty X [x,y] qual scope q c' [(y,c)] A s H) body t) (h:t [some xv,some yv] H Q):wpAny (model X.prog X.w) A (call (.ref q) [u]) (EP X bo σ Q) (λ_ _=>False) s:=by
 have L:=(I.pin _ (Yg _ a)).1;have T:=(I.pin _ (Yg _ m)).1;refine wpAny_call (codeAny_mono (R:=CR CX0 X.stack X.prog X.w H s Q E0) (W.kla_callFunE U L rfl n j rfl ⟨c',oc,vs,tq,Z,T,hd,hv⟩ ?_) λr s' a=>?_)
 ·rw[P u];refine Yb (wpAny_newFunctionEnv f (λz hz=>?_) (λi D C=>?_) E)
  ·obtain rfl:=Yq.mp hz;exact G
  ·have d:∀b o,s.heap.get? b=some o->i.get? b=some o:=λb o e=>C.extBut b o (Y0 (Yn e)) (Ye _ e)
   refine⟨I.nolimit.keeps d,?_⟩;show codeAny _ _ (.expr body (W.envX qual scope s.heap.objs.size q (.ref c') [(y,c)])) _ _;refine W.kla_codeExpr (wpAny_mono (p _ _ H Q (zud I hA N E G M S l B K Y D d) h) (λv s' hv=>?_) λ_ _ z=>Je z);obtain⟨w,H',J,rw,O⟩:=hv;exact⟨w,H',J.os,J.bare,J.base,J.hok,rw,O⟩
 ·match r,a with
  | .error e,a=>exact Je a
  | .ok (.ret u),a=>exact I.after a
  | .ok .next,a=>exact Je a
  | .ok .brk,a=>exact Je a
  | .ok .cont,a=>exact Je a
def zrb(I:Inv X bo σ H s)(j:X.env.code=.ref cc)(C:W.CodeHd X.base cc P)
  (i:H P=some (.tbl #[])) (hB:X.base.BuiltinsAt X.mg P) (Y:closureFor scope X.env=pure clos) (l:defaultsOf params X.env=([],[]))
  (h:∀q c' L vs R a s',L.data=.fields vs->vs[1]? = some (.str (X.env.qual ++ "<lambda>") R)->H c'=none->c'≠P ->
   Inv X ((q,W.kla_obj "<lambda>" (X.env.qual ++ "<lambda>") params body scope clos ((X.mg "__name__").getD .none) c' a)::(c',L)::bo) σ (upd H P (.tbl #[rawInt pos.line,rawInt pos.col,.ref c'])) s'->Qv (.ref q) s') :
  wpAny (model X.prog X.w) A (eval (.Lambda params body scope pos) X.env) Qv E s:=by
 have N:s.heap.get? P=some (W.tabObj #[]):=I.hok P _ i;have hg:=I.mod.glob.keeps I.bk;have O:mainGlobals≠P:=λz=>by
  obtain⟨o,es,ep,e,hd,_⟩:=hg;rw[z,N]at e;cases e;cases hd
 have a0:s.heap.BuiltinsAt X.mg P:=let ⟨bm,ob,b1,b2,b3,b4,b5,r⟩:=hB;⟨bm,ob,b1,b2,b3,b4,I.bk _ _ b5,r⟩;refine W.kla_eval l (W.kla_makeFunction (ps := #[]) Y I.ok.glob hg j (C.keeps I.bk) N trivial rfl O a0 λc' a h' tk M f hlt m B=>?_);obtain⟨c₂,L,vs,R,z2,U,hd,hv⟩:=m
 cases z2;have T:P<s.heap.objs.size:=Yn N;have G:c'≠P:=Nat.ne_of_gt (Yf T f);have K:H c'=none:=I.hok.fresh f;have S:∀b,H b=none->b≠P:=λb n z=>by subst z;rw[i]at n;cases n
 have un:Un (frs X.stack) [] H (upd H P (.tbl #[rawInt pos.line,rawInt pos.col,.ref c'])) s.heap h':=
  ⟨λb o e n _ _=>M b o (S b n) e,λb o e n _ _=>⟨o.slots,M b o (S b n) e⟩,λb o e n _=>by rw[zaf (S b n)];exact n,
   λb o e _=>by
    by_cases hb:b=P
    ·subst hb;exact⟨_,B⟩
    ·exact⟨_,M b o hb e⟩,
   λb xs e=>by rw[zaf (za7 e i (by intro z;cases z))];exact e,λb o u e=>by rw[zaf (za7 e i (by intro z;cases z))];exact e,
   λb ps e=>by
    by_cases hb:b=P
    ·subst hb;rw[i]at e;cases e;exact⟨#[rawInt pos.line,rawInt pos.col,.ref c'],by rw[zad];simp⟩
    ·exact⟨#[],by rw[zaf hb,e];simp⟩⟩
 have J:HOk X.prog X.w (upd H P (.tbl #[rawInt pos.line,rawInt pos.col,.ref c'])) h':=λb u e=>by
  by_cases hb:b=P
  ·subst hb;rw[zad]at e;cases e;exact B
  ·rw[zaf hb]at e;refine(I.hok b u e).stay (λd v Q r=>M d v ?_ r) (λd r=>by rw[zaf (za7 r i (by intro z;cases z))];exact r) λd xs r=>by rw[zaf (za7 r i (by intro z;cases z))];exact r
   rcases Q with rfl | r
   ·exact hb
   ·exact za7 r i (by intro z;cases z)
 have I1:Inv X bo σ (upd H P (.tbl #[rawInt pos.line,rawInt pos.col,.ref c'])) { s with heap:=h',toks:=tk }:=I.call (g':=s.gens) (d':=s.drawn) (t':=tk) (ch:=[]) un J I.bare (λb z=>absurd z (by simp));have I2:=I1.pinNew (t':=tk) (ob:=W.kla_obj "<lambda>" (X.env.qual ++ "<lambda>") params body scope clos ((X.mg "__name__").getD .none) c' a) rfl (by intro v z;cases z);refine h _ c' L vs R a _ hd hv K G (I2.pins_of λp D=>?_);rcases Yj.mp D with rfl | D
 ·exact I2.pin _ (Yg _ (.head _))
 ·rcases Yj.mp D with rfl | D
  ·refine⟨Ye _ U,by rw[zaf G];exact K,Nat.ne_of_gt (Yf I.lt f),I.nofs f,λv z=>?_⟩;rw[hd]at z;cases z
  ·exact I2.pin p (Yg _ (.tail _ D))
end
end L2
namespace L2
open PySem PySem.Spec PyProof.Rows
def OnlyT(P:Lg)(H:Hp):Prop:=(∀b,H b=none\/(∃o xs,H b=some (.frz o (.lst xs)))\/b=P)/\H P=some (.tbl #[])
def zqi{P:Ll}{w:Lk}{K:Li}{A mb:Sa}{CX:CXT}{k:Nat}{fa a cc j:Lg}{fd:FuncData}{x:Lp}{sp:Sp}{c:Lj}{vs:List Lh}{S:Lc}
  (KX:K.In c.heap) (E:c.heap.Ns mainGlobals A) (f:c.heap.Ns builtinsNs mb) (a3:∀x:Lp,x≠"__name__"->mb x=bootBuiltins x) (N:c.heap.NoLimit) (hg:c.gens = #[])
  (l:c.heap.get? j=some (W.tabObj #[])) (a2:W.CodeHd c.heap cc j) (X:K.lookup j=none)
  (a5:∃T ob,A "__builtins__" = some (.ref T)/\T≠builtinsNs/\c.heap.get? T=some ob/\ob.cls=.type "module"/\ob.dict=some builtinsNs/\ob.data=.plain)
  (J:c.heap.get? a=some { cls:=.type "list",data:=.seq vs.toArray }) (hi:IntsAre vs S) (hl:S.length<=sizeLine) (hr:Room k callerA)
  (F:∀base:Lo,K.In base->base.Ns mainGlobals A->base.BuiltinsAt A j->FnOk P w K A base CX k fa fd [x] sp) (D:∀(s:Lj) (u:Lh),BindsTo s fd ⟨[u],[]⟩ [(x,u)])
  (a4:∀H:Hp,OnlyT j H->SqL K H a (S.map V.int)->sp [.ref a] H (λv _=>v=.bl true) λ_ _ _=>False)
  (a1:∀H e s',CX [] H c (λ_ _ _=>False) e s'->False) :
  codeAny (model P w) callerA (.call (.ref fa) ⟨[.ref a],[]⟩) (λr s'=>r=.ok (.ret (.bool true))/\OldK c.heap s'.heap/\s'.os=c.os/\AllBare s'.gens) c:=by
 have rv:=zi5 hi;have Q:=hi.length;have M:a≠j:=λz=>by subst z;rw[J]at l;cases l
 have C:∀H:Hp,OnlyT j H->SqL K H a (S.map V.int)->HOk P w H c.heap->(∀b,H b≠none->b=a\/b=j)->(H a≠none->K.lookup a=none) ->
   codeAny (model P w) callerA (.call (.ref fa) ⟨[.ref a],[]⟩) (λr s'=>r=.ok (.ret (.bool true))/\OldK c.heap s'.heap/\s'.os=c.os/\AllBare s'.gens) c:=by
  intro H hO hS U hA hK;have i:∀{b:Lg} {o:Obj},c.heap.get? b=some o->H b=none->(hidT c.heap H).get? b=some o:=λe n=>zsh e n
  have O:∀{b:Lg} {o:Obj},c.heap.get? b=some o->(∀v n,o.data≠.seq v n)->(∀v,o.data≠.fields v)->H b=none:=fun{b o} e d1 d2=>by
   cases q:H b with
   | none=>rfl
   | some u=>
    exfalso;rcases hA b (by rw[q];simp) with z | z
    ·subst z;rw[J]at e;cases e;exact d1 _ _ rfl
    ·subst z;rw[l]at e;cases e;exact d2 _ rfl
  have y:∀{b:Lg} {m:Sa},c.heap.Ns b m->(hidT c.heap H).Ns b m:=fun{b m} ⟨o,es,ep,e,d,r⟩=>⟨o,es,ep,i e (O e (λv n z=>by rw[d]at z;cases z) (λv z=>by rw[d]at z;cases z)),d,r⟩
  have R:K.In (hidT c.heap H):=λb o e=>i (KX b o e) (by
   cases q:H b with
   | none=>rfl
   | some u=>
    exfalso;rcases hA b (by rw[q];simp) with z | z
    ·subst z;rw[hK (by rw[q];simp)]at e;cases e
    ·subst z;rw[X]at e;cases e)
  have hM:Mod K A (hidT c.heap H):=⟨R,y E,⟨mb,y f,a3⟩,let ⟨mc,h1,h2⟩:=N;⟨mc,y h1,h2⟩⟩;have a0:(hidT c.heap H).BuiltinsAt A j:=by
   obtain⟨T,ob,b1,b2,G,b4,b5,I⟩:=a5;refine⟨T,ob,b1,b2,λz=>?_,λz=>?_,i G (O G (λv n z=>by rw[I]at z;cases z) (λv z=>by rw[I]at z;cases z)),b4,b5,I⟩
   ·obtain⟨o,es,ep,e,d,_⟩:=E;rw[z,e]at G;cases G;rw[d]at I;cases I
   ·rw[z,l]at G;cases G;cases I
  have e0:Env0 P w K A (hidT c.heap H) callerA [] c H:=⟨Z,hM,λb o e=>zt5 e,Nat.le_of_eq (znz _ _),trivial,λb f=>absurd (show b∈([]:Le) from f) (by simp),U,.of_eq hg⟩;refine codeAny_mono ((F _ R (y E) a0).run callerA [] c H ⟨[.ref a],[]⟩ [.ref a] [.ref a] _ _ hr e0 (D c (.ref a)) (.cons rfl .nil) (a4 H hO hS)) λr s' h=>?_
  cases r with
  | error e=>exact(a1 H e s' h).elim
  | ok fl=>
   cases fl with
   | next=>exact Je h
   | brk=>exact Je h
   | cont=>exact Je h
   | ret u=>
    obtain⟨v,H',os,L,un,B,r',q⟩:=h;have q':v=.bl true:=q;subst q';obtain rfl:u=Value.bool true:=r';refine⟨Z,⟨λb o e=>?_,λb o e=>un.there b o e (by simp)⟩,os,L⟩
    cases q:H b with
    | none=>exact .inl (un.keep b o e q (by intro z;exact absurd (show b∈([]:Le) from z) (by simp)) (by simp))
    | some u=>
     rcases hO.1 b with z | ⟨ob,xs,z⟩ | z
     ·rw[q]at z;cases z
     ·have z2:=un.frzs b ob _ z;obtain⟨e1,_⟩:=U b _ z;obtain⟨Y,_⟩:=B b _ z2;rw[e]at e1;cases e1;exact .inl Y
     ·subst z;rw[l]at e;cases e;obtain⟨more,z2⟩:=un.tbls b _ hO.2;have Y:=B b _ z2;obtain⟨oc,vc,_,_,_,_,_,_,_,c1,c2,c3,c4,_⟩:=a2;exact .inr (.inl ⟨⟨cc,oc,vc,c1,c2,c3,c4⟩,Z,_,more,Z,Y⟩)
 cases hk:K.lookup a with
 | some o=>
  have e:=KX a o hk;rw[J]at e
  cases e;refine C (λb=>if b=j then some (.tbl #[]) else none) ⟨λb=>?_,Yl rfl⟩ (.inr ⟨_,vs.toArray,_,hk,Z,Z,Z,by rw[Ys,Q];exact hl,by simpa using rv⟩) (λb u z=>?_) (λb z=>?_) λz=>absurd (Yh M) z
  ·by_cases f:b=j
   ·exact .inr (.inr f)
   ·exact .inl (Yh f)
  ·by_cases f:b=j
   ·have p:=(Yl f).symm.trans z
    cases p;subst f;exact l
   ·have p:=(Yh f).symm.trans z
    cases p
  ·by_cases f:b=j
   ·exact .inr f
   ·exact absurd (Yh f) z
 | none=>
  refine C (λb=>if b=a then some (.frz { cls:=.type "list",data:=.seq vs.toArray } (.lst (S.map V.int))) else if b=j then some (.tbl #[]) else none) ⟨λb=>?_,(Yh M.symm).trans (Yl rfl)⟩ (.inl (.inr ⟨{ cls:=.type "list",data:=.seq vs.toArray },Yl rfl⟩)) (λb u z=>?_) (λb z=>?_) λ_=>hk
  ·by_cases f:b=a
   ·exact .inr (.inl ⟨_,_,Yl f⟩)
   ·by_cases hp:b=j
    ·exact .inr (.inr hp)
    ·exact .inl ((Yh f).trans (Yh hp))
  ·by_cases f:b=a
   ·have p:=(Yl f).symm.trans z
    cases p;subst f;exact⟨J,by rw[Yd];exact hl,vs,_,rv,J⟩
   ·by_cases hp:b=j
    ·have p:=((Yh f).trans (Yl hp)).symm.trans z
     cases p;subst hp;exact l
    ·have p:=((Yh f).trans (Yh hp)).symm.trans z
     cases p
  ·by_cases f:b=a
   ·exact .inl f
   ·by_cases hp:b=j
    ·exact .inr hp
    ·exact absurd ((Yh f).trans (Yh hp)) z
def walk_ofT{l:W.OpenLaw}{n k:Nat}{q:Ll}{j:List Lp}{Q:Sa->Lo->Prop}{D:Lk->Lo->Prop}{d:DefRec}{K:Params->Li}{CX:Lk->CXT}{sp:Lk->Lg->Sp}{x:Lp}
  (hn:l.most=some n) (M:n<=sizeLine) (J:d.params.defaults=[]) (hr:Room k callerA)
  (U:∀(w:Lk) (h:Lo),D w h->(K w.params).In h) (m:Lg)
  (X:∀(w:Lk) (h:Lo),D w h->h.get? m=some (W.tabObj #[]))
  (F:∀(w:Lk) (i:Sa) (A:Lg) (h:Lo),(K w.params).In h->h.Ns mainGlobals i->i d.name=some (.ref A) ->
   ∃(cc:Lg) (C:FuncData),W.codeHdIn (K w.params) cc m=true/\(K w.params).lookup m=none/\(∀(s:Lj) (u:Lh),BindsTo s C ⟨[u],[]⟩ [(x,u)]) /\
    ∀base:Lo,(K w.params).In base->base.Ns mainGlobals i->base.BuiltinsAt i m->FnOk l.prog w (K w.params) i base (CX w) k A C [x] (sp w m))
  (O:∀(w:Lk) (H:Hp) (a:Lg) (z:Lc),z.length<=n->OnlyT m H->SqL (K w.params) H a (z.map V.int)->sp w m [.ref a] H (λv _=>v=.bl true) λ_ _ _=>False)
  (E:∀(w:Lk) (H:Hp) (s:Lj) (e:Lh) (s':Lj),CX w [] H s (λ_ _ _=>False) e s'->False) :
  W.WalkO q j Q D l.row.toRowW d [] (λf vs=>PySem.call f vs):=by
 refine Att.attach_call hn J λw s₀ y i mb A o pm cd doc a vs z G Y ho hd hcd I r p c hg=>?_
 have L:=U w _ Y;obtain⟨cc,C,B,N,R,P⟩:=F w i A _ L G.T.g I;exact zqi L G.T.g G.T.b G.T.builtins G.T.nolimit hg (X w _ Y) (W.codeHd_of_K L B) N G.T.bmain r p (Yr c M) hr P R (λH S hS=>O w H a z c S hS) λH e s'=>E w H y e s'
end L2
namespace L2
open PySem PySem.Spec PyProof.Rows
section
variable{prog:Ll}{w:Lk}{d:Lg}{ep:Nat}{es:Array DictEntry}{o:Obj}
def dsrc(z:(d == sysModules)=false)(r:o.cls=.type "dict")(c:o.data=.dict es ep):W.KdlSrc prog w "dict" d d es.size (λi v=>∃e,es[i]? = some e/\v=e.key) (λh=>h.get? d=some o) where
 type:=λs a=>⟨o,a,r⟩
 there:=λ_ a=>⟨Yn a,Yn a⟩
 keep:=λ_ _ a n=>n d (.inl rfl) o a
 notList:=by decide
 notTuple:=by decide
 hint:=λ_ _ s _ a q=>W.kdl_hint_dict (s:=s) ⟨o,a,r⟩ q
 iter:=λA s y a=>⟨_,λi h=>h.IsKeyIter s.heap.objs.size d i es.size ep/\h.get? d=some o,(λ_ _ q=>zgu z ⟨o,a,r⟩ a c q),{
   sub:=λb f=>by simp at f;simp[f]
   frame:=λ_ _ _ st n=>⟨st.1.at λo e=>n _ (by simp) o e,n d (by simp) o st.2⟩
   item:=λi s' Q E hi st l=>by
    obtain⟨e,x⟩:∃e,es[i]? = some e:=⟨es[i],Array.getElem?_eq_getElem hi⟩;refine zik st.1 st.2 c rfl x λh' m j=>?_
    exact l e.key h' s'.toks ⟨e,x,Z⟩ ⟨m,j.extBut d o (Y0 (Yn a)) st.2⟩ λb o f e=>j.extBut b o (λh=>f (by simp[h])) e
   done:=λs' Q E st l=>zkl y st.1 st.2 c rfl (Yi _) λh' p=>l h' s'.toks λb o f e=>p b o (λh=>f (by simp[h])) e
   self:=λ_ _ _ _ st l=>wpAny_pyIter_keyiter st.1 l },⟨⟨_,Yk _ rfl,Z,Z⟩,Ye _ a⟩⟩
end
section
variable{X:Cx}
def zhp(hc:X.calm=true):CallR X (.type "list") (λxs H Q=>∃d cr,xs=[.ref d]/\Rd H d (.dT cr)/\∀l (as:Le),H l=none->as.length=cr.length->(∀(i:Nat) k x,cr[i]? = some (k,x)->∃a,as[i]? = some a/\H a=some (.tup (k.map kV))) ->
  Q (.ref l) (upd H l (.lst (as.map V.ref)))):=by
 intro bo s σ H xs us Q I r h;obtain⟨d,cr,rfl,hd,q⟩:=h;obtain⟨u,rfl,rx⟩:=zir r
 cases rx;obtain⟨zl,hds,ys,B,ob,G,ep,g1,T,U,O,g5,g6⟩:=zd6 I.hok hd;have le:G.size=cr.length:=(size_of_entries O).trans (Paired.length B).symm;refine W.kdl_call (dsrc hds T.1 U) (I.ok.hd hc) g1 (by lia) λh' tk j c kp Y L=>?_
 have A:∀(i:Nat) k x,cr[i]? = some (k,x)->∃a,j[i]? = some (.ref a)/\H a=some (.tup (k.map kV)):=λi k x m=>by
  obtain⟨y,P,e1,R,e3⟩:=Paired.at' B m;have hi:i<j.size:=by
   rcases Jg i cr.length with z | z
   ·rw[L.1];lia
   ·rw[Yy z]at m;cases m
  obtain⟨e,C,hv⟩:=L.2 i j[i] (Array.getElem?_eq_getElem hi);have:G[i]? = some (entryOfKey (tupleKind (za0 X.prog X.w)) y):=by
   have z:G.toList[i]? = some (entryOfKey (tupleKind (za0 X.prog X.w)) y):=by rw[O,Ym,P];rfl
   simpa using z
  rw[this]at C;injection C with C;subst C
  exact⟨y.2.1,by rw[Array.getElem?_eq_getElem hi,hv];rfl,R⟩
 obtain⟨as,M,o⟩:∃as:Le,as.length=cr.length/\j.toList=as.map Value.ref:=by
  have E:∀n,n<=cr.length->∃as:Le,as.length=n/\j.toList.take n=as.map Value.ref:=by
   intro n;induction n with
   | zero=>intro _;exact⟨[],rfl,rfl⟩
   | succ n ih=>
    intro hn;obtain⟨as,K,J⟩:=ih (by lia);obtain⟨⟨k,x⟩,m⟩:∃p,cr[n]? = some p:=⟨cr[n],Yc (by lia)⟩;obtain⟨a,D,_⟩:=A n k x m;refine⟨as++[a],by rw[Y5,K];rfl,?_⟩;have f:j.toList[n]? = some (Value.ref a):=by simpa using D
    rw[List.take_add_one,f,J,List.map_append];rfl
  obtain⟨as,K,J⟩:=E cr.length (Yi _);refine⟨as,K,?_⟩;rwa [List.take_of_length_le (by rw[Array.length_toList,L.1];lia)]at J
 have N:h'.get? s.heap.objs.size=some { cls:=.type "list",data:=.seq (as.map Value.ref).toArray c }:=by rw[<- o];simpa using Y
 have S:Vals (as.map V.ref) (as.map Value.ref):=by
  clear o M A N;induction as with
  | nil=>exact .nil
  | cons a as ih=>exact .cons rfl ih
 refine⟨.ref s.heap.objs.size,_,I.laid (t':=tk) kp (Yi _) ?_,Z,q s.heap.objs.size as (I.hok.fresh (Yi _)) M λi k x m=>?_⟩
 ·exact⟨by rw[Yd,M];exact zl,_,c,S,N⟩
 ·obtain⟨a,D,e⟩:=A i k x m;refine⟨a,?_,e⟩;have f:j.toList[i]? = some (Value.ref a):=by simpa using D
  rw[o,Ym]at f
  cases q2:as[i]? with
  | none=>rw[q2]at f;cases f
  | some b=>rw[q2]at f;injection f with f;injection f with f;rw[f]
end
end L2
namespace L2
open PySem PySem.Spec PyProof.Rows
def zgb(K:Li)(f:Lg):Option Lg:=match K.lookup f with
 | some ⟨_,_,.func fd,_⟩=>(match fd.code with | .ref c=>some c | _=>none)
 | _=>none
section
variable{P:Ll}{w:Lk}{K:Li}{mg:Sa}{base:Lo}{x qual:Lp}{st:Lm}{dV:Lh}{f:Lg}{fd:FuncData}{N ps:List Lp}{k:Nat}{sp:Sp}
def FunD.okL(F:FunD K x qual st dV f fd)(b:zgb K f=some cc)(S:FnScope N ps (za5 st))(len:∀vs H Q E,sp vs H Q E->vs.length=ps.length)
  (d:∀A a s H vs Q E,Room k (A.deeper (envOfC qual (za5 st) s.heap.objs.size f (.ref cc)))->sp vs H Q E ->
   ∃t,PSs (cxOf CX0 P w K mg base N qual (za5 st) f (.ref cc) A a s H E).nox (zcm st) t/\t { nx:=λ_ H'=>Q .non H',rt:=Q } (start N vs) H):FnOk P w K mg base CX0 (k+1) f fd ps sp:=by
 obtain⟨oc,od,kV,doc,pm,an,i,ct,osl,rfl,m,j⟩:=F.ex;have e:i=.ref cc:=by
  unfold zgb at b;rw[m]at b
  cases i with
  | ref c=>injection b with z;rw[z]
  | _=>cases b
 subst e;refine zx1 m j S len λA a s H vs Q E n l=>?_
 obtain⟨t,h,q⟩:=d A a s H vs Q E n l;exact⟨t,h.nox,q⟩
end
end L2
namespace L2
open PySem PySem.Spec PyProof.Rows
def zvm{K:Li}{g:TG}{tb:TS}{D:Ends}(b:Nat->St->Hp->Prop)(o:b 0 a H)(A:∀i a H,b i a H->SqX K b1 H a1 xs/\SqX K b2 H a2 ys)
  (w:∀i x y a H p,xs[i]? = some x->ys[i]? = some y->b i a H->H p=none->g (.ref p) a (upd H p (.tup [x,y])) λd h=>tb { D with nx:=b (i+1),ct:=b (i+1),bk:=D.nx } d h) (hd:∀a H,b (min xs.length ys.length) a H->D.nx a H) :
  ∃W:Nat->Nat->St->Hp->Prop,(∃m,W 0 m a H)/\∀i m a H,W i m a H ->
   ((Itz K b1 b2 a1 a2).stop i H/\D.nx a H)\/((Itz K b1 b2 a1 a2).go i H/\∃N,(∀c H',N c H'->∃m',m'<m/\W (i+1) m' c H')/\∀x H',(Itz K b1 b2 a1 a2).yld i H x H'->g x a H' λd h=>tb { D with nx:=N,ct:=N,bk:=D.nx } d h):=by
 refine⟨λi m a H=>m=min xs.length ys.length-i/\i<=min xs.length ys.length/\b i a H,⟨min xs.length ys.length,by simp,Y2 _,o⟩,?_⟩;rintro i m a H ⟨rfl,hi,p⟩;obtain⟨e,f⟩:=A i a H p;by_cases hlt:i<min xs.length ys.length
 ·have n:i<xs.length:=by lia
  have s:i<ys.length:=by lia
  refine .inr ⟨⟨xs,ys,xs[i],ys[i],e,f,by simp[n],by simp[s]⟩,b (i+1),λc H' B=>⟨min xs.length ys.length-(i+1),by lia,Z,hlt,B⟩,λx H' y=>?_⟩;obtain⟨r,u,v,l,rfl,rfl,j,y2⟩:=y;exact w i u v a H r (j xs e) (y2 ys f) p l
 ·have z:i=min xs.length ys.length:=by lia
  refine .inl ⟨⟨xs,ys,e,f,?_⟩,hd a H (z ▸ p)⟩;rcases Nat.le_total xs.length ys.length with q | q
  ·exact .inl (by lia)
  ·exact .inr (by lia)
end L2
namespace L2
open PySem PySem.Spec PyProof.Rows
def Ite(K:Li)(a:Lg):It:=
 ⟨λi H=>∃xs x,SqL K H a xs/\xs[i]? = some x,λi H v H'=>∃p x,H p=none/\v=.ref p/\H'=upd H p (.tup [.int i,x])/\∀xs,SqL K H a xs->xs[i]? = some x,λi H=>∃xs,SqL K H a xs/\xs.length<=i⟩
def ESt(e it l:Lg)(i:Nat)(h:Lo):Prop:=(∃old,IsEnum h e it i old)/\h.IsListIter it l i
def znm{K:Li}(m:e≠it):Turn P w K (.Tuple es ek pos) (Ite K a) [e,it] e (λi h=>ESt e it a i h) where
 mem:=by simp
 obj:=λi h ⟨⟨_,st⟩,G⟩ b c=>by
  simp only[List.mem_cons,List.not_mem_nil,or_false]at c
  rcases c with rfl | rfl
  ·exact⟨_,st,λv q=>by cases q⟩
  ·obtain⟨o,T,_,hd⟩:=G;exact⟨o,T,λv q=>by rw[hd]at q;cases q⟩
 keep:=λi h h' ⟨⟨old,st⟩,G⟩ k=>⟨⟨old,k e (by simp) _ st⟩,G.at λo q=>k it (by simp) o q⟩
 item:=by
  intro X A hw B N i bo s Q H E I n st hg;subst A hw B;obtain⟨⟨old,y⟩,d⟩:=st;obtain⟨xs,x,r,M⟩:=hg;obtain⟨us,C,p,_⟩:=I.list r;obtain⟨u,Y,rx⟩:=C.get M;have f:e<s.heap.objs.size:=Yn y;have D:it<s.heap.objs.size:=by obtain⟨_,z,_⟩:=d;exact Yn z
  refine wpAny_pyNext_enum_item y d p.isList (x:=u) (by simpa using Y) m λh' U l S hsz k=>?_
  refine⟨_,Z,wpAny_letOwnedTupleGo_enum U λJ j L=>?_⟩;have O:s.heap.objs.size≠e:=Nat.ne_of_gt f;have kk:∀b o,b ∉ [e,it]->s.heap.get? b=some o->J.get? b=some o:=λb o c q=>by
   simp only[List.mem_cons,List.not_mem_nil,or_false,not_or]at c
   exact(L.2 b c.1).trans (k b o c.1 c.2 q)
  refine⟨.ref s.heap.objs.size,upd H s.heap.objs.size (.tup [.int i,x]),I.drawn (t':=s.toks+1) (ch:=[e,it]) (λb c=>n b c) kk (Yi _) ?_,Z,⟨_,x,I.fresh,Z,Z,λxs' R=>?_⟩,?_,λb c=>?_⟩
  ·exact⟨by show 2<=sizeLine;rw[sizeLine_eq];decide,[.int i s.toks,u],.cons ⟨_,Z⟩ (.cons rx .nil),⟨_,(L.2 _ O).trans S,Z,_,Z⟩⟩
  ·rw[I.list_inj R r];exact M
  ·exact⟨⟨u,by simpa using j⟩,l.at λo q=>(L.2 it m.symm).trans q⟩
  ·have:b<s.heap.objs.size:=by
    simp only[List.mem_cons,List.not_mem_nil,or_false]at c
    rcases c with rfl | rfl
    ·exact f
    ·exact D
   rw[zaf (Y0 this)];exact(n b c).1
 done:=by
  intro X A hw B N i bo s Q H E I n st hg;subst A hw B;obtain⟨⟨old,y⟩,d⟩:=st;obtain⟨xs,r,hl⟩:=hg;obtain⟨us,C,p,_⟩:=I.list r;have l1:=C.length;refine wpAny_pyNext_enum_end (I.ok.hd N) y d p.isList (by rw[List.getElem?_toArray,Yy];lia) λh' k=>⟨rfl,I.turnedL (t':=s.toks) (ch:=[e,it]) (λb c=>n b c) λb o c q=>?_⟩
  simp only[List.mem_cons,List.not_mem_nil,or_false,not_or]at c
  exact k b o c.2 q
 self:=λ_ _ _ _ _ ⟨⟨_,st⟩,_⟩ h=>wpAny_pyIter_enum st h
def zy5(K:Li)(ta:TA):TI:=λσ H R=>ta σ H λvs H1=>∃a,vs=[.ref a]/\(∃xs,SqL K H1 a xs)/\R (Ite K a) H1
def zhf:bootBuiltins "enumerate" = some (.type "enumerate"):=by kernel_rfl
def zni{X:Cx}{K:Li}{J:List Ln}{C:Nat}{f p d:Pos}{i:Ln}{n:TA}(z:X.K=K)(hg:Gl X "enumerate")(y:X.mg "enumerate" = none)(x:PA X [i] n)
  (D:starEach [i] X.env=(false,eval i X.env)::starEach [] X.env:=by rfl) (l:(backTo d (starEach [] X.env)).any (·.1)=false:=by rfl) :
  PI X (.Tuple J C f) (.Call (.Name "enumerate" p) [i] [] d) (zy5 K n):=by
 subst z;intro bo s o H R I h;refine wpAny_Call_Name_kw (zfu I hg y zhf ?_ (by decide) (by decide));refine PyProof.Rows.callWith_type1 (thn (x bo s o H _ I h) λus c ⟨vs,H1,j,E,a,A,⟨xs,B⟩,q⟩=>?_) D l;subst A;obtain⟨u1,rfl,m⟩:=E.one
 cases m;obtain⟨us,ru,G,_⟩:=j.list B;refine call_enumerate_list G.isList λh' w it sz k=>wpAny_pyIter_enum w ?_
 have L:Inv X bo o H1 { c with heap:=h' }:=j.kept (t':=c.toks) k;refine⟨c.heap.objs.size+1,[c.heap.objs.size+1,c.heap.objs.size],_,_,H1,Z,L,znm (Nat.succ_ne_self _),⟨⟨_,w⟩,it⟩,λb r=>?_,q⟩;have e:c.heap.objs.size<=b:=by
  simp only[List.mem_cons,List.not_mem_nil,or_false]at r
  rcases r with rfl | rfl
  ·exact Nat.le_add_right _ 1
  ·exact Yi _
 have F:=j.fpOk e (j.hok.fresh e);exact F
def zpn{K:Li}(b:SqL K H1 a xs):Walk (Ite K a) H1 xs.length (λi v H=>∃p x,v=.ref p/\H p=some (.tup [.int i,x])/\xs[i]? = some x):=by
 refine⟨λi H' e hi=>⟨xs,xs[i],e.seq b,by simp[hi]⟩,λH' e=>⟨xs,e.seq b,Yi _⟩,λi H' x H2 e hi q=>?_⟩;obtain⟨p,u,d,rfl,rfl,c⟩:=q;exact⟨Same.upd d,p,u,Z,zad,c xs (e.seq b)⟩
def zr9{K:Li}{g:TG}{tb:TS}{D:Ends}(c:Nat->St->Hp->Prop)(l:c 0 b H)(q:∀i b H,c i b H->SqL K H a xs)
  (o:∀i x b H p,xs[i]? = some x->c i b H->H p=none->g (.ref p) b (upd H p (.tup [.int i,x])) λd h=>tb { D with nx:=c (i+1),ct:=c (i+1),bk:=D.nx } d h) (hd:∀b H,c xs.length b H->D.nx b H) :
  ∃W:Nat->Nat->St->Hp->Prop,(∃m,W 0 m b H)/\∀i m b H,W i m b H ->
   ((Ite K a).stop i H/\D.nx b H)\/((Ite K a).go i H/\∃N,(∀e H',N e H'->∃m',m'<m/\W (i+1) m' e H')/\∀x H',(Ite K a).yld i H x H'->g x b H' λd h=>tb { D with nx:=N,ct:=N,bk:=D.nx } d h):=by
 refine⟨λi m b H=>m=xs.length-i/\i<=xs.length/\c i b H,⟨xs.length,by simp,Y2 _,l⟩,?_⟩;rintro i m b H ⟨rfl,hi,p⟩;have f:=q i b H p;by_cases hlt:i<xs.length
 ·refine .inr ⟨⟨xs,xs[i],f,by simp[hlt]⟩,c (i+1),λe H' j=>⟨xs.length-(i+1),by lia,Z,hlt,j⟩,λx H' y=>?_⟩;obtain⟨r,u,s,rfl,rfl,n⟩:=y;exact o i u b H r (n xs f) p s
 ·have z:i=xs.length:=by lia
  exact .inl ⟨⟨xs,f,by lia⟩,hd b H (z ▸ p)⟩
def zub:V->Lf->Hp->VK->Prop:=λx vs H Q=>∃(l:Lg) (xs:Lf) (i:Nat) (y:V),x=.ref l/\vs=[.int i,y]/\H l=some (.lst xs)/\i<=xs.length/\xs.length<sizeLine/\Q .non (upd H l (.lst (xs.take i++y::xs.drop i)))
def zsb(o:Obj)(f:Array Lh->Array Lh)(T:s.TypeIs (.ref l) "list")(M:Meets (Builtin.«list.insert» ⟨[.ref l,.int i t,u2],[]⟩) (λ_ R s=>s.heap.get? l=some o/\R (.ok (.ret Value.none)) { s with heap:=s.heap.update l (Obj.mapSeq f),toks:=s.toks }))(e:s.heap.get? l=some o)(h:Q .none { s with heap:=s.heap.update l (Obj.mapSeq f),toks:=s.toks }) :
  wpAny (model prog w) A (call (.builtin "list.insert") [.ref l,.int i t,u2]) Q E s:=call_meets PySem.F.slot_list_insert T PySem.F.entry_list_insert (PySem.F.args_list_insert_3 _ _ _) M ⟨e,h⟩
def insF(i:Int)(u:Lh)(xs:Array Lh):Array Lh:=(xs.extract 0 (if i<0 then(i+((xs.size:Nat):Int)).toNat else min i.toNat xs.size)).push u++xs.extract (if i<0 then(i+((xs.size:Nat):Int)).toNat else min i.toNat xs.size)
def zoy:MtM X "list.insert" zub:=by
 intro bo s σ H x vs v us Q I A w h;obtain⟨l,xs,i,y,rfl,rfl,o,hi,hz,q⟩:=h
 cases A;obtain⟨u1,b,rfl,⟨t,rfl⟩,C⟩:=w.two;obtain⟨z,its,n,r,D,e⟩:=I.lstM o;have hsz:its.toArray.size<=sizeLine:=by rw[Ys];lia
 have a:¬(!Builtin.List.listFitsIndex (i:Int))=true:=by
  have m:(i:Int)<2^63:=by
   have B:i<sizeLine:=Yp hi hz;have p:sizeLine<=2^62:=by rw[sizeLine_eq];decide
   have h3:i<2^62:=Yf B p;lia
  have c : -(2^63)<=(i:Int):=by lia
  unfold Builtin.List.listFitsIndex;rw[Yo m,Yo c];decide
 generalize ej:(i:Int)=j at a ⊢;refine zsb { cls:=.type "list",dict:=none,data:=.seq its.toArray n,slots := #[] } (insF j b) ⟨_,e,Z⟩ (@PySem.AutoSeq1.list_insert_list_int_val_1 l its.toArray n j t b a hsz) e ?_;refine⟨.non,_,I.lset (f:=insF j b) (its':=its.take i++b::its.drop i) o e ?_ ?_ ?_,Z,q⟩
 ·have d:i<=its.length:=by rw[<- D];exact hi
  unfold insF;rw[Yh (by lia),<- ej,Y1,Ys,Nat.min_eq_left d];apply Array.ext';simp;rw[List.take_of_length_le (l:=its.drop i) (by simp)]
 ·exact(r.take i).append (.cons C (r.drop i))
 ·rw[Y5,Y4,List.length_take,List.length_drop];lia
end L2
namespace L2
open PySem PySem.Spec PyProof.Rows
def CMulC(i j:Int):Prop:=i.natAbs<2^20000/\j.natAbs<2^20000
def zn1:OpR X (binaryOp .Mult) (rI CMulC λi j=>.int (i*j)):=opI λ_ _ _ _ _ _ _ a q=>mul_int q (PySem.IntMulOk.of_bits (Yr (intBits_le a.1) (by decide)) (Yr (intBits_le a.2) (by decide)))
end L2
set_option Elab.async false
/- strict -/
set_option linter.all false
set_option maxRecDepth 100000
namespace TS
open PySem PyProof.Rows
open L2 (V Vals RelV)
open HT (lexLt)
open PySem.W (KatLex kat_nil kat_cons kat_yes kat_no kat_one kat_lt)
theorem zqj:∀{xs ys:Lc} zs ws,xs.length=ys.length->lexLt (xs++zs) (ys++ws)=if xs=ys then lexLt zs ws else lexLt xs ys
 | [],[],zs,ws,_=>by rw[Yl rfl];rfl
 | [],_::_,_,_,h=>by simp at h
 | _::_,[],_,_,h=>by simp at h
 | a::xs,b::ys,zs,ws,h=>by
  have c:=zqj (xs:=xs) (ys:=ys) zs ws (by simpa using h);rw[List.cons_append,List.cons_append,HT.lexLt_cons,HT.lexLt_cons,c];by_cases e:a=b
  ·subst e;rw[Yl rfl,Yl rfl];by_cases e2:xs=ys
   ·rw[Yl e2,Yl (by rw[e2])]
   ·rw[Yh e2,Yh (λz=>e2 (by injection z))]
  ·rw[Yh e,Yh (λz=>e (by injection z)),Yh e]
section
variable{prog:Ll}{w:Lk}{A:Around}{s:Lj}
def NestAt(h:Lo)(v:Lh)(ns:Lc):Prop:=∃a its r xs i j ti tj,v=.ref a/\IsTup h a its/\its.toList=[r,.int i ti,.int j tj]/\TupAt h r xs/\ns=xs++[i,j]
open Classical in
theorem zfa:∀{vs} {ns},IntsAre vs ns->∃as,ReadsAll h vs (ns.map PyData.int) as
 | _,_,.nil=>⟨_,.nil⟩
 | _,_,.cons n t q=>let ⟨_,z⟩:=zfa q;⟨_,.cons (.int n t) z⟩
def zou(hu:A.units+4<cLine)(b:TupAt s.heap v xs)(i:TupAt s.heap u ys):SeqAt.EqAt A s v u (decide (xs=ys)):=by
 obtain⟨a,its,rfl,⟨o,e,c,n,d⟩,l⟩:=b;obtain⟨q,its',rfl,⟨o',f,m,n',d'⟩,j⟩:=i;obtain⟨as,p⟩:=zfa (h:=s.heap) l;obtain⟨bs,rb⟩:=zfa (h:=s.heap) j;have:=SeqAt.eqAt_reads (.tuple (xs.map PyData.int)) (.tuple (ys.map PyData.int)) A s (.ref a) (.ref q) _ _ (.tuple e c d p) (.tuple f m d' rb) (by simp[PyData.canLay0,W.ke_canLayAll0]) (by simp[PyData.canLay0,W.ke_canLayAll0]) (by simp only[PyData.depth,W.ke_depthAll];lia);rwa [show PyData.eqv (.tuple (xs.map PyData.int)) (.tuple (ys.map PyData.int))=decide (xs=ys) from L2.eqv_ints xs ys]at this
def zsu(e:A.units<cLine)(b:TupAt s.heap v xs)(d:TupAt s.heap u ys)(prog:Ll)(w:Lk)(E:Va)(Q:Va)(h:Q (.bool (lexLt xs ys)) s):wpAny (model prog w) A (compareOp .Lt v u) Q E s:=by
 obtain⟨a,its,rfl,c,j⟩:=b;obtain⟨a',its',rfl,i,f⟩:=d;exact HT.lt_tupInts c i j f e h
end
section
variable{prog:Ll}{w:Lk}{A:Around}{E:Va}{s:Lj}
def zrq(d:A.units+4<cLine)(a:TupAt s.heap r xs)(c:TupAt s.heap r' ys)
  (h:∀b,Q b s):KatLex prog w A false false Q ([r,.int i ti,.int j tj].zip [r',.int i' ti',.int j' tj']) 0 s:=by
 rw[List.zip_cons_cons];refine kat_cons (zou d a c prog w _ _ ?_);by_cases e:xs=ys
 ·rw[Yo e];exact kat_yes (zpo [i,j] [i',j'] 1 false (.cons _ _ (.cons _ _ .nil)) (.cons _ _ (.cons _ _ .nil)) rfl (h _))
 ·rw[Yw e];refine kat_no ?_;show wpAny (model prog w) A (oneLt' false r r') Q _ s;exact kat_one _ _ (zsu (by lia) a c prog w _ _ (show W.BoolBack Q (.bool (lexLt xs ys)) s from h _))
theorem zgi:∀{ks},(∀k∈ks,∃b,NestAt h k b)->∃fs,W.KatTups h ks fs/\fs.length=ks.length/\∀v∈fs,∃b,TupAt h v b
 | [],_=>⟨[],W.KatTups.nil,rfl,by simp⟩
 | k::ks,g=>by
  obtain⟨fs,y,l,q⟩:=zgi λk m=>g k (.tail _ m)
  obtain⟨b,a,⟨its⟩,r,xs,i,j,B,p,rfl,⟨o,e,c,n,d⟩,f,x,rfl⟩:=g k (.head _);have f:its=[r,.int i B,.int j p]:=f;subst f;exact⟨r::fs,W.KatTups.cons e c d rfl y,by rw[Y4,Y4,l],λv hv=>(Yj.mp hv).elim (λz=>z ▸ ⟨xs,x⟩) (q v)⟩
def zqv{f vs:List Lh}(hu:A.units+4<cLine)(S:s.heap.get? kS=some (seqObj "list" f.toArray e))(hD:s.heap.get? D=some (seqObj "list" #[] e1))(K:D≠kS)
  (R:∀k∈f,∃B,NestAt s.heap k B) (Y:Vals all vs) (hl:f.length=vs.length) (hz:vs.length<64)
  (h:∀ps out,ps.Perm all->Vals ps out.toList ->
   P (.done (.ret .none)) { s with heap:=(s.heap.update kS (Obj.mapSeq λ_ => #[])).update D (Obj.mapSeq λ_=>out) }) :
  wpAny (model prog w) A (ksk_end D false vs.toArray e1 (.ref kS) f.toArray) P E s:=by
 have l:(f.toArray.zip vs.toArray).toList.Perm (f.zip vs):=by rw[ksk_zip]
 have z64:(64:Nat)<=sizeLine:=by decide
 have fin:∀st:SortSt,failedOf st=none->(arrOf st).Perm (f.toArray.zip vs.toArray)->wpAny (model prog w) A (ksk_tail D false e1 (.ref kS) st) P E s:=by
  intro st X q;have q:=(Array.perm_iff_toList_perm.mp q).trans l;have p:=q.length_eq;rw[Array.length_toList,List.length_zip]at p;have O:=q.map (·.2);rw[List.map_snd_zip (by lia)]at O;obtain⟨ps,pp,pr⟩:=paired_perm O.symm Y;refine zq7 S hD K X (by rw[Ys];lia) (by lia) ?_;simp only[Bool.false_eq_true,if_false];exact h ps _ pp (by rw[Array.toList_map];exact pr)
 unfold ksk_end;dsimp only;simp only[Bool.false_eq_true,if_false];by_cases h2:vs.toArray.size<2
 ·rw[Yl h2,Yl h2];exact Ya (Yb (Ya (Yb (fin _ rfl (Array.Perm.refl _)))))
 ·rw[Yh h2,Yh h2];rw[Ys]at h2;obtain⟨fs,tf,lf,U⟩:=zgi R;refine Ya (W.kat_kind (T:=.type "tuple") tf (by lia) (λv hv=>?_) (by decide) ?_)
  ·obtain⟨B,a,its,rfl,⟨⟨cls,dd,data,sl⟩,e,c,n,d⟩,i⟩:=U v hv;simp only at c;subst c;exact(W.Looks.ld e).andThen .now
  have C:Cmp prog w A s (tuples' false) (f.toArray.zip vs.toArray):=by
   have m:∀x∈(f.toArray.zip vs.toArray).toList,∃B,NestAt s.heap x.1 B:=λx J=>R _ (List.of_mem_zip (l.mem_iff.mp J)).1
   refine⟨λx J y hy Q E hq=>?_⟩;obtain⟨_,a,⟨its⟩,r,xs,i,j,ti,tj,ea,⟨o,e,_,n,d⟩,N,t1,rfl⟩:=m x J;obtain⟨_,a',⟨its'⟩,r',xs',i',j',L,G,I,⟨o',e',_,n',d'⟩,M,t2,rfl⟩:=m y hy;have N:its=[r,.int i ti,.int j tj]:=N;have M:its'=[r',.int i' L,.int j' G]:=M;subst N M;rw[ea,I];exact kat_lt e d e' d' (zrq hu t1 t2 hq)
  refine Ya (wpAny_mono (zk5 (E:=E) C (st:=SortSt.mk' _ _ #[] 7 none) ⟨Z,Array.Perm.refl _,Z,Z⟩ (by have z:=l.length_eq;rw[List.length_zip,Array.length_toList]at z;lia) (Q:=λ_ b=>(arrOf b).Perm (f.toArray.zip vs.toArray)/\failedOf b=none) λb B' H=>⟨B',H⟩) ?_ λ_ _ x=>x);rintro⟨⟨⟩,b⟩ s' ⟨rfl,B',H⟩;exact fin b H B'
end
end TS
namespace HT
open PySem PyProof.Rows
inductive LexE(A:Around)(s:Lj):List Lh->List Lh->Bool->Prop
 | nil:LexE A s [] [] false
 | eq {v u:Lh} {vs us:List Lh} {c:Bool}:SeqAt.EqAt A s v u true->LexE A s vs us c->LexE A s (v::vs) (u::us) c
 | ne {v u:Lh} {vs us:List Lh} {c:Bool}:SeqAt.EqAt A s v u false->(∀(prog:Ll) (w:Lk) (E:Va) (Q:Va),Q (.bool c) s->wpAny (model prog w) A (richCompare .Lt v u) Q E s)->vs.length=us.length->LexE A s (v::vs) (u::us) c
def LexE.len(h:LexE A s vs us c):vs.length=us.length:=by
 induction h with
 | nil=>rfl
 | eq _ _ ih=>simp[ih]
 | ne _ _ e=>simp[e]
section
open PySem.SeqAt
open PySem.AutoSeq1 (wpAny_loadPart')
open PySem.MeetsSeq PySem.MeetsSeq2 PySem.MeetsSeq3
def tuple_lt_lex(l b:Lg)(e a:Array Lh)(n D:Nat)(dd m:Option Lg)(z o:Array (Option Lh))(c:Bool) :
  Meets (Builtin.«tuple.__lt__» ⟨[.ref l,.ref b],[]⟩)
   (λA R s=>s.heap.get? l=some { cls:=.type "tuple",dict:=dd,data:=.seq e n,slots:=z }/\s.heap.get? b=some { cls:=.type "tuple",dict:=m,data:=.seq a D,slots:=o } /\
    LexE A.in1 s e.toList a.toList c/\R (.ok (.ret (.bool c))) s):=
 .of_wp λprog w A R s h=>by
  obtain⟨q,g,d,tk,r⟩:=s;obtain⟨E,C,j,h⟩:=h;have f2:=AutoSeq1.sub_tuple_tuple;have B:e.size=a.size:=by have:=j.len;simpa using this
  wp_walk using wpAny_loadPart' E,wpAny_loadPart' C,wpAny_forIn_list _ (λrest b s'=>b.1=none/\s'=⟨q,g,d,tk,r⟩/\∃(vs ws:List Lh),rest=vs.zip ws /\
   LexE A.in1 ⟨q,g,d,tk,r⟩ vs ws c) _
  case turn=>
   rintro⟨y,x⟩ rest b s' ⟨i,rfl,vs,ws,hz,f⟩
   cases f with
   | nil=>cases hz
   | eq he hvi'=>
    rw[List.zip_cons_cons]at hz;injection hz with hyx hrest
    injection hyx with hy j
    subst hy j;refine Ya (he prog w _ _ ?_);wp_walk;exact⟨Z,Z,_,_,hrest,hvi'⟩
   | ne he hlt _=>
    rw[List.zip_cons_cons]at hz;injection hz with hyx hrest
    injection hyx with hy j
    subst hy j;refine Ya (he prog w _ _ ?_);have p:=hlt prog w;wp_walk using p;exact⟨_,Z,by simpa using h⟩
  case fin=>
   rintro⟨b1,b2⟩ s' ⟨i,rfl,vs,ws,hz,f⟩;simp only at i;subst i
   cases f with
   | nil=>
    wp_walk
    exact⟨_,Z,by simpa[Builtin.Tuple.tupleCompareSizes,B]using h⟩
   | eq _ _=>rw[List.zip_cons_cons]at hz;cases hz
   | ne _ _ _=>rw[List.zip_cons_cons]at hz;cases hz
  case h=>
   exact⟨Z,Z,e.toList,a.toList,Z,j⟩
end
end HT
namespace L2
open PySem PySem.Spec PyProof.Rows TS
def NstV(K:Li)(H:Hp)(ns:Lc)(v:V):Prop:=∃t r xs i j,v=V.ref t/\SqT K H t [.ref r,.int i,.int j]/\SqT K H r (xs.map V.int)/\ns=xs++[i,j]
section
variable{X:Cx}{bo:La}{σ:St}{H:Hp}{s:Lj}
def znr(I:Inv X bo σ H s){e:Lc}{v:V}{u:Lh}(h:NstV X.K H e v)(r:RelV v u):NestAt s.heap u e:=by
 obtain⟨t,q,xs,i,j,rfl,f,m,rfl⟩:=h
 cases r;obtain⟨it,d,w,_⟩:=I.tuple f;obtain⟨it2,n,o,_⟩:=I.tuple m
 cases d with
 | cons a d=>
  cases d with
  | cons b d=>
   cases d with
   | cons c d=>
    cases d
    cases a;obtain⟨p,rfl⟩:=b;obtain⟨l,rfl⟩:=c;exact⟨t,_,.ref q,xs,i,j,p,l,Z,w,Z,⟨q,_,Z,o,zcf n⟩,Z⟩
def zob(hu:X.A.units+8<cLine):OpR X (compareOp .Lt) (λx y H Q=>∃L G,NstV X.K H L x/\NstV X.K H G y/\L.length=G.length/\Q (.bl (HT.lexLt L G)) H):=by
 intro bo s σ H x y v u Q I rx ry h;obtain⟨L,G,hx,Y,hl,q⟩:=h;obtain⟨a,its,r,xs,i,j,P,R,rfl,⟨⟨cls,dd,data,sl⟩,U,W,n,hd⟩,l1,O,rfl⟩:=znr I hx rx;obtain⟨a',its',r',c,l,m,f,d,rfl,⟨⟨cls2,M,data2,S⟩,D,B,n2,C⟩,l2,N,rfl⟩:=znr I Y ry;simp only at W hd B C;subst W hd B C;have T:xs.length=c.length:=by simpa using hl
 refine richCompare_meets_room (op:=.Lt) ⟨_,U,Z⟩ ⟨_,D,Z⟩ PySem.F.slot_tuple_lt PySem.F.entry_tuple_lt (PySem.F.args_tuple_lt_2 _ _) (HT.tuple_lt_lex a a' its its' n n2 dd M sl S (HT.lexLt (xs++[i,j]) (c++[l,m])))
  ⟨U,D,?_,show Value.bool (HT.lexLt (xs++[i,j]) (c++[l,m]))≠Value.notImplemented/\EP X bo σ Q (.bool (HT.lexLt (xs++[i,j]) (c++[l,m]))) s from⟨(λx=>nomatch x),⟨.bl _,H,I,Z,q⟩⟩⟩ (by lia)
 rw[l1,l2,zqj _ _ T];have J:∀(A:Around) (a b:Int) (t u:Tok),SeqAt.EqAt A s (.int a t) (.int b u) (decide (a=b)):=λA a b t u=>by
  have:=SeqAt.EqAt.int_int (A:=A) (s:=s) a t b u;rwa [show (a == b)=decide (a=b) from rfl]at this
 by_cases e:xs=c
 ·rw[Yl e];have o:=zou (A:=X.A.in1) (s:=s) (by show X.A.units+1+4<cLine;lia) O N;rw[Yo e]at o;refine .eq o ?_;rw[HT.lexLt_cons];by_cases e1:i=l
  ·rw[Yl e1];have z:=J X.A.in1 i l P f;rw[Yo e1]at z;refine .eq z ?_;rw[HT.lexLt_cons];by_cases e2:j=m
   ·rw[Yl e2];have p:=J X.A.in1 j m R d;rw[Yo e2]at p;exact .eq p .nil
   ·rw[Yh e2];have p:=J X.A.in1 j m R d;rw[Yw e2]at p;exact .ne p (λprog w E Q h=>HT.rcLt_int _ s j R m d prog w E Q h) rfl
  ·rw[Yh e1];have z:=J X.A.in1 i l P f;rw[Yw e1]at z;exact .ne z (λprog w E Q h=>HT.rcLt_int _ s i P l f prog w E Q h) rfl
 ·rw[Yh e];have o:=zou (A:=X.A.in1) (s:=s) (by show X.A.units+1+4<cLine;lia) O N;rw[Yw e]at o;exact .ne o (λprog w E Q h=>zsu (A:=X.A.in1) (s:=s) (by show X.A.units+1<cLine;lia) O N prog w E Q h) rfl
end
def zjz(K:Li)(all:Lf)(G:Lf->Hp->Prop)(ks:Lf)(H:Hp):Prop:=
 all.length<64/\(∀k∈ks,∃ns,NstV K H ns k)/\∀ps,ps.Perm all->G ps H
section
variable{X:Cx}{A:Around}{E:Va}{bo:La}{σ:St}{q kS D:Lg}{oD oq:Obj}{sp:V->Hp->VK->Prop}{H₁:Hp}
def zqc(hu:A.units+4<cLine)(B:BRunA X A σ bo q oq sp)(a1:q≠D)(fD:FpOk X bo H₁ D)(l:Vals all vs)(hz:vs.length<=sizeLine)
  (I:Inv X ((D,seqObj "list" vs.toArray n)::(q,oq)::bo) σ H s) (h:skGo sp all [] H (zjz X.K all G)) :
  wpAny (model X.prog X.w) A (ksk_tree D (.ref q) false) (λfin s'=>fin=.done (.ret .none)/\∃out outv n' H',Vals out outv/\out.length<=sizeLine/\Inv X ((D,seqObj "list" outv.toArray n')::(q,oq)::bo) σ H' s'/\G out H') E s:=by
 have nD:=I.pin (D,seqObj "list" vs.toArray n) (Yg _ (.head _));have s1:=Heap.SameBut.update s.heap D (Obj.mapSeq λ_=>(#[]:Array Lh));obtain⟨d,P⟩:∃d,(s.heap.update D (Obj.mapSeq λ_=>(#[]:Array Lh))).get? D=some (seqObj "list" #[] d):=⟨_,get?_update_seq nD.1 λ_ => #[]⟩;have C:FpOk X ([]++((q,oq)::bo)) H₁ D:=fD.more (pa:=[(q,oq)]) (by simp[a1]);have I1:Inv X ((D,seqObj "list" #[] d)::(q,oq)::bo) σ H { s with heap:=s.heap.update D (Obj.mapSeq λ_ => #[]) }:=
  Inv.repin (pa:=[]) (t':=s.toks) I C (λL o c m=>(s1.2 L c).trans m) P (by intro v z;cases z)
 unfold ksk_tree;refine Ya (listItems_at nD.1 rfl ?_);refine Ya (listUpdate_at nD.1 rfl ?_ (by rw[Ys];lia) (Y2 _));refine Ya (seqEpoch_at P rfl ?_);refine Ya (wpAny_newTuple ?_ (by show vs.length<=_;lia));have N:Inv X ((D,seqObj "list" #[] d)::(q,oq)::bo) σ H { s with heap:=(s.heap.update D (Obj.mapSeq λ_ => #[])).push (seqObj "tuple" vs.toArray 0) }:=I1.kept (t':=s.toks) λb u e=>Ye _ e
 refine Ya (wpAny_newList ?_ (Y2 _));refine Jq ?_;have I3:=N.pinNew (t':=s.toks) (ob:=seqObj "list" #[] 0) rfl (by intro v z;cases z);have fK:FpOk X bo H ((s.heap.update D (Obj.mapSeq λ_ => #[])).push (seqObj "tuple" vs.toArray 0)).objs.size:=by
  have I0:Inv X bo σ H { s with heap:=(s.heap.update D (Obj.mapSeq λ_ => #[])).push (seqObj "tuple" vs.toArray 0) }:=N.pins_of λp Y=>N.pin p (Yg _ (.tail _ (.tail _ Y)))
  exact I0.fpOk (Yi _) (I0.hok.fresh (Yi _))
 have i:D≠((s.heap.update D (Obj.mapSeq λ_ => #[])).push (seqObj "tuple" vs.toArray 0)).objs.size:=Y0 (Yn (N.pin (D,seqObj "list" #[] d) (Yg _ (.head _))).1);have y:q≠((s.heap.update D (Obj.mapSeq λ_ => #[])).push (seqObj "tuple" vs.toArray 0)).objs.size:=Y0 (Yn (N.pin (q,oq) (Yg _ (.tail _ (.head _)))).1);show wpAny _ _ (ksk_rest D (.ref q) false vs.toArray d (.ref ((s.heap.update D (Obj.mapSeq λ_ => #[])).push (seqObj "tuple" vs.toArray 0)).objs.size)) _ _ { s with heap:=((s.heap.update D (Obj.mapSeq λ_ => #[])).push (seqObj "tuple" vs.toArray 0)).push (seqObj "list" #[] 0) };have a0:Inv X ((((s.heap.update D (Obj.mapSeq λ_ => #[])).push (seqObj "tuple" vs.toArray 0)).objs.size,seqObj "list" ([]:List Lh).toArray 0)::(D,seqObj "list" #[] d)::(q,oq)::bo) σ H { s with heap:=((s.heap.update D (Obj.mapSeq λ_ => #[])).push (seqObj "tuple" vs.toArray 0)).push (seqObj "list" #[] 0) }:=I3;generalize ((s.heap.update D (Obj.mapSeq λ_ => #[])).push (seqObj "tuple" vs.toArray 0)).objs.size=kS at *;generalize ({ s with heap:=((s.heap.update D (Obj.mapSeq λ_ => #[])).push (seqObj "tuple" vs.toArray 0)).push (seqObj "list" #[] 0) }:Lj)=s3 at *;unfold ksk_rest;refine Ya (wpAny_rule ?_);rw[<- Array.forIn_toList];refine Ya (wpAny_mono (zts (F:=zjz X.K all G) (E:=E) B i y fK (λx s R hx=>?_) all vs [] [] 0 H s3 l .nil (by rw[l.length];simpa using hz) h a0) (λ_ a hd=>?_) λ_ _ x=>x)
 ·refine Ya (wpAny_attempt (wpAny_mono hx (λk s'' T=>?_) λ_ _ hF=>hF.elim));obtain⟨j,e,U,hk2,hR⟩:=T;dsimp only;refine Ya (listUpdate_at U rfl ?_ (by rw[Ys];lia) (by rw[Array.size_push,Ys];lia));exact Yb ⟨Z,k,hR⟩
 ·obtain⟨ks,j,e,H',Q,a3,M,a4,hP,hG⟩:=hd;have W:=M.pin (kS,seqObj "list" j.toArray e) (Yg _ (.head _));have O:=M.pin (D,seqObj "list" #[] d) (Yg _ (.tail _ (.head _)));refine Ya (listItems_at W.1 rfl ?_);have J:j.length=vs.length:=by rw[<- Q.length,a3,l.length];simp
  refine zqv hu W.1 O.1 i (λk T=>let ⟨x,hx,r⟩:=zk8 Q k T;let ⟨ns,z⟩:=hP x hx;⟨ns,znr M z r⟩) l J (by rw[<- l.length];exact a4) λps out pp pv=>⟨Z,ps,out.toList,?_⟩
  have sa:=Heap.SameBut.update a.heap kS (Obj.mapSeq λ_=>(#[]:Array Lh));have a2:(a.heap.update kS (Obj.mapSeq λ_=>(#[]:Array Lh))).get? D=some (seqObj "list" #[] d):=(sa.2 D i).trans O.1;have sb:=Heap.SameBut.update (a.heap.update kS (Obj.mapSeq λ_=>(#[]:Array Lh))) D (Obj.mapSeq λ_=>out);obtain⟨S,a5⟩:∃S,((a.heap.update kS (Obj.mapSeq λ_=>(#[]:Array Lh))).update D (Obj.mapSeq λ_=>out)).get? D=some (seqObj "list" out S):=⟨_,get?_update_seq a2 λ_=>out⟩;have I5:Inv X ((D,seqObj "list" #[] d)::(q,oq)::bo) σ H' a:=M.pins_of λp Y=>M.pin p (Yg _ (.tail _ Y))
  have f:=fK.more (pa:=[(D,seqObj "list" #[] d),(q,oq)]) (by simp[i,y]);have I6:=I5.turned (t':=a.toks) (h':=a.heap.update kS (Obj.mapSeq λ_ => #[])) (it:=kS) (λL o c m=>(sa.2 L c).trans m) W.2.1 f.2.1 f.2.2.2.1 f.2.2.2.2.1 f.2.2.2.2.2;have I7:Inv X ((D,seqObj "list" out.toList.toArray S)::(q,oq)::bo) σ H' { a with heap:=(a.heap.update kS (Obj.mapSeq λ_ => #[])).update D (Obj.mapSeq λ_=>out) }:=
   Inv.repin (s:={ a with heap:=a.heap.update kS (Obj.mapSeq λ_ => #[]) }) (pa:=[]) (t':=a.toks) I6 C (λL o c m=>(sb.2 L c).trans m) (by simpa using a5) (by intro v z;cases z)
  exact⟨S,H',pv,by rw[pp.length_eq,l.length];exact hz,I7,hG ps pp⟩
def zrz(K:W.KdlSrc prog w T r d n P OK)(e:A.handled=none)(a:OK s.heap)(c:S≠r)(j:S≠d)
  (i:s.heap.get? S=some { cls:=.type "list",data:=.seq #[] 0 }) (h:n<=sizeLine)
  (f:∀h' tk acc c',(∀b o,b≠S->s.heap.get? b=some o->h'.get? b=some o)->h'.get? S=some { cls:=.type "list",dict:=none,data:=.seq acc c',slots := #[] }->ItemsOf P acc n->R (.ok (.ret (.ref S))) { s with heap:=h',toks:=tk }) :
  codeAny (model prog w) A (.builtin "list.__iadd__" ⟨[.ref S,.ref r],[]⟩) R s:=by
 refine codeAny_builtin F.entry_list_iadd ?_;rw[Around.under_plainId F.plain_list_iadd _];show wpAny _ A.in1 (Builtin.List.listExtendWith (.ref S) (.ref r) (.ref S)) _ _ _;exact W.kdl_extend (A:=A) (R:=R) K e a S c j _ 0 i f h
def zkc(I:Inv X bo σ H s)(W:A.handled=none)(hd:Rd H d (.dT cr))
  (h:∀(as:Le) h' tk,as.length=cr.length->(∀(i:Nat) k x,cr[i]? = some (k,x)->∃a,as[i]? = some a/\H a=some (.tup (k.map kV)))->(∀b o,s.heap.get? b=some o->h'.get? b=some o)->Q (as.map Value.ref) { s with heap:=h',toks:=tk }) :
  wpAny (model X.prog X.w) A (collect (.ref d)) Q E s:=by
 obtain⟨zl,hds,ys,r,ob,N,ep,T,g2,g3,S,g5⟩:=zd6 I.hok hd;have le:N.size=cr.length:=(size_of_entries S).trans (Paired.length r).symm;have G:d<s.heap.objs.size:=Yn T;have R:(s.heap.push { cls:=.type "list",data:=.seq ([]:List Lh).toArray }).get? s.heap.objs.size=some { cls:=.type "list",data:=.seq ([]:List Lh).toArray }:=Yk _ rfl;unfold collect;refine Ya (wpAny_runValue (codeAny_builtin F.entry_proto_collect ?_));rw[Around.under_plainId F.plain_proto_collect _];show wpAny _ A.in1 (newList [] >>= λl=>again (.builtin "list.__iadd__" ⟨[l,.ref d],[]⟩)) _ _ s;refine Ya (Jn (Yb ⟨plainId_quiet F.plain_list_iadd _,?_⟩));refine zrz (s:={ s with heap:=s.heap.push { cls:=.type "list",data:=.seq ([]:List Lh).toArray } }) (dsrc hds g2.1 g3) W (Ye _ T) (Nat.ne_of_gt G) (Nat.ne_of_gt G) R (by lia) λh' tk j c kp R O=>?_
 have B:∀(i:Nat) k x,cr[i]? = some (k,x)->∃a,j[i]? = some (.ref a)/\H a=some (.tup (k.map kV)):=λi k x m=>by
  obtain⟨y,U,e1,Y,e3⟩:=Paired.at' r m;have hi:i<j.size:=by
   rcases Jg i cr.length with z | z
   ·rw[O.1];lia
   ·rw[Yy z]at m;cases m
  obtain⟨e,J,hv⟩:=O.2 i j[i] (Array.getElem?_eq_getElem hi);have:N[i]? = some (entryOfKey (tupleKind (za0 X.prog X.w)) y):=by
   have z:N.toList[i]? = some (entryOfKey (tupleKind (za0 X.prog X.w)) y):=by rw[S,Ym,U];rfl
   simpa using z
  rw[this]at J;injection J with J;subst J
  exact⟨y.2.1,by rw[Array.getElem?_eq_getElem hi,hv];rfl,Y⟩
 obtain⟨as,hl,C⟩:∃as:Le,as.length=cr.length/\j.toList=as.map Value.ref:=by
  have P:∀n,n<=cr.length->∃as:Le,as.length=n/\j.toList.take n=as.map Value.ref:=by
   intro n;induction n with
   | zero=>intro _;exact⟨[],rfl,rfl⟩
   | succ n ih=>
    intro hn;obtain⟨as,M,L⟩:=ih (by lia);obtain⟨⟨k,x⟩,m⟩:∃p,cr[n]? = some p:=⟨cr[n],Yc (by lia)⟩;obtain⟨a,K,_⟩:=B n k x m;refine⟨as++[a],by rw[Y5,M];rfl,?_⟩;have f:j.toList[n]? = some (Value.ref a):=by simpa using K
    rw[List.take_add_one,f,L,List.map_append];rfl
  obtain⟨as,M,L⟩:=P cr.length (Yi _);refine⟨as,M,?_⟩;rwa [List.take_of_length_le (by rw[Array.length_toList,O.1];lia)]at L
 show wpAny _ A (load s.heap.objs.size >>= _) _ _ _;refine Ya (wpAny_load R ?_);show wpAny _ _ (pure j.toList) Q E _;rw[C];refine Yb (h as h' tk hl (λi k x m=>?_) λb o e=>kp b o (Y0 (Yn e)) (Ye _ e));obtain⟨a,K,e⟩:=B i k x m;refine⟨a,?_,e⟩;have f:j.toList[i]? = some (Value.ref a):=by simpa using K
 rw[C,Ym]at f
 cases q2:as[i]? with
 | none=>rw[q2]at f;cases f
 | some b=>rw[q2]at f;injection f with f;injection f with f;rw[f]
theorem zjq:∀as:Le,Vals (as.map V.ref) (as.map Value.ref)
 | []=>.nil
 | _::as=>.cons rfl (zjq as)
def zla(hu:X.A.units+8<cLine)(P:X.A.handled=none)(f:argsOk "sorted" ⟨[.ref d],kw⟩)(l:∀x,argsOk "list.sort" ⟨[.ref x],kw⟩)
  (N:∀x,Builtin.«list.sort» ⟨[.ref x],kw⟩=ksk_tree x (.ref q) false) (B:BRunA X X.A.in1.in1 σ bo q oq sp) (I:Inv X ((q,oq)::bo) σ H s) (hd:Rd H d (.dT cr))
  (h:∀as:Le,as.length=cr.length->(∀(i:Nat) k x,cr[i]? = some (k,x)->∃a,as[i]? = some a/\H a=some (.tup (k.map kV)))->skGo sp (as.map V.ref) [] H (zjz X.K (as.map V.ref) λout H'=>∀D,H' D=none->Q (.ref D) (upd H' D (.lst out)))):wpAny (model X.prog X.w) X.A (call (.builtin "sorted") [.ref d] kw) (EP X bo σ Q) X.xe s:=by
 refine call_function_entry_kw kind_sorted plain_sorted entry_sorted f ?_;unfold Builtin.«sorted»;refine Ya (m:=checkCount "sorted" 1 1 _) (Yb ?_);have zl:=(zd6 I.hok hd).1;refine Ya (zkc I P hd λas h' tk r hi kp=>?_);have hz':(as.map Value.ref).length<=sizeLine:=by rw[Yd,r];exact zl
 have e:Inv X ((q,oq)::bo) σ H { s with heap:=h',toks:=tk }:=I.kept (t':=tk) kp;refine Ya (wpAny_newList ?_ hz');have L:=e.pinNew (t':=tk) (ob:=seqObj "list" (as.map Value.ref).toArray 0) rfl (by intro v z;cases z);have J:Inv X bo σ H { s with heap:=h',toks:=tk }:=e.pins_of λp c=>e.pin p (Yg _ (.tail _ c))
 have y:FpOk X bo H h'.objs.size:=J.fpOk (Yi _) (J.hok.fresh (Yi _));have n:q≠h'.objs.size:=Y0 (Yn (e.pin (q,oq) (Yg _ (.head _))).1);have S:=L.pin (h'.objs.size,seqObj "list" (as.map Value.ref).toArray 0) (Yg _ (.head _));refine Ya (Jq (wpAny_call_entry_kw PyProof.Rows.slot_list_sort ⟨_,S.1,Z⟩ PyProof.Rows.entry_list_sort ?body (l _)))
 case body=>
  rw[N];refine wpAny_mono (zqc (by show X.A.units+1+1+4<cLine;lia) B n y (zjq as) hz' L (h as r hi)) (λfin s' R=>?_) λ_ _ x=>x
  obtain⟨rfl,out,b,G,H',T,O,C,M⟩:=R;refine⟨_,Z,Yb ⟨_,Z,?_⟩⟩;have o:Inv X ((h'.objs.size,seqObj "list" b.toArray G)::bo) σ H' s':=C.pins_of λp c=>C.pin p (Yg _ (by
   rcases Yj.mp c with rfl | c
   ·exact .head _
   ·exact .tail _ (.tail _ c)))
  have j:=o.pin (h'.objs.size,seqObj "list" b.toArray G) (Yg _ (.head _));exact⟨.ref _,_,o.unpin y T O,Z,M _ j.2.1⟩
end
def zxh(K:Li)(P:Lg)(lp:Pos)(i:Nat)(tb:TE)(te:TE):TE:=λσ H Q=>te σ H λv H1=>∃(d:Lg) (cr:Ka) (yv:V),v=.ref d/\H1 d=some (.dT cr)/\σ[i]? = some (some yv)/\H1 P=some (.tbl #[]) /\
 ∀c' (as:Le),H1 c'=none->c'≠P->as.length=cr.length->(∀(i:Nat) k x,cr[i]? = some (k,x)->∃a,as[i]? = some a/\(upd H1 P (.tbl #[rawInt lp.line,rawInt lp.col,.ref c'])) a=some (.tup (k.map kV))) ->
  skGo (λx H Q=>tb [some x,some yv] H Q) (as.map V.ref) [] (upd H1 P (.tbl #[rawInt lp.line,rawInt lp.col,.ref c'])) (zjz K (as.map V.ref) λout H'=>∀D,H' D=none->Q (.ref D) (upd H' D (.lst out)))
def zr0(a:scope.names=[(x,.local),(y,.free)])(h:env.cells.lookup y=some c):closureFor scope env=pure [(y,c)]:=by
 unfold closureFor;rw[a];simp[cellOf,h]
section
variable{X:Cx}{j i:Nat}{p pos kpos lp:Pos}{e body:Ln}{te tb:TE}{P cc:Lg}{params:Arguments}{scope:Scope}{x y:Lp}
def zrs(he:PE X e te)(hr:Room j X.A)(hm:X.mg ("sorted" : Lp)=none)(o:X.env.code=.ref cc)(C:W.CodeHd X.base cc P)(hB:X.base.BuiltinsAt X.mg P)
  (b:scope.names=[(x,.local),(y,.free)]) (b3:x≠y) (hk:scope.kind=.function) (a0:scope.isCoroutine=false) (M:scope.isGenerator=false) (J:defaultsOf params X.env=([],[]))
  (hb:∀qual c pm cv T u,bindArgs (W.kla_fn "<lambda>" qual params body scope [(y,c)] pm cv T) ⟨[u],[]⟩=pure [(x,u)])
  (hN:X.N[i]? = some y) (Y:X.env.scope.names.lookup y=some .cell)
  (a4:∀(q n c:Lg) (s:Lj) (H:Hp),PE (zty X [x,y] (X.env.qual ++ "<lambda>") scope q n [(y,c)] X.A.in1.in1 s H) body tb)
  (b1:1+1<=j:=by decide) (a6:Gl X "sorted":=by rfl) (hs:starEach [e] X.env=(false,eval e X.env)::starEach [] X.env:=by rfl) :
  PE X (.Call (.Name "sorted" p) [e] [⟨some "key",.Lambda params body scope lp,kpos⟩] pos) (zxh X.K P lp i tb te):=by
 intro bo s σ H Q I h;refine wpAny_Call_Name_kw (zfu I a6 hm boot_sorted ?_);have h':zff te tNil σ H (λvs H1=>match vs with
   | [v]=>∃(d:Lg) (cr:Ka) (E:V),v=.ref d/\H1 d=some (.dT cr)/\σ[i]? = some (some E)/\H1 P=some (.tbl #[]) /\
     ∀n (as:Le),H1 n=none->n≠P->as.length=cr.length->(∀(i:Nat) k x,cr[i]? = some (k,x)->∃a,as[i]? = some a/\(upd H1 P (.tbl #[rawInt lp.line,rawInt lp.col,.ref n])) a=some (.tup (k.map kV))) ->
      skGo (λx H Q=>tb [some x,some E] H Q) (as.map V.ref) [] (upd H1 P (.tbl #[rawInt lp.line,rawInt lp.col,.ref n])) (zjz X.K (as.map V.ref) λout H'=>∀D,H' D=none->Q (.ref D) (upd H' D (.lst out)))
   | _=>False):=h
 refine callWith_kw (thn ((zab he zar hs) bo s σ H _ I h') λus s1 ⟨vs,H1,I1,r1,q1⟩=>?_) (by rw[hs];rfl) (by rw[hs];rfl)
 cases r1 with
 | nil=>exact Je q1
 | cons ru rr=>
  cases rr with
  | cons _ _=>exact Je q1
  | nil=>
   obtain⟨d,cr,E,ev,eh,R,hT,b0⟩:=q1;subst ev
   cases ru;obtain⟨m,hns,G⟩:=I1.loc;obtain⟨uy,ry,w⟩:=G i y E hN R (.inr (.inl Y));have b2:∃c,X.env.cells.lookup y=some c/\s1.heap.IsCell c (some uy):=by
    rcases w with⟨z,_⟩ | ⟨_,z⟩
    ·have L:X.env.scope.names.lookup y=some .local:=z;rw[Y]at L;cases L
    ·exact z
   obtain⟨c,r,_⟩:=b2;have a3:(y == x)=false:=by simpa using λz:y=x=>b3 z.symm
   have lx:scope.names.lookup x=some .local:=by rw[b,Jl];simp
   have ly:scope.names.lookup y=some .free:=by rw[b,Jl,a3,Jl];simp
   have lo:∀z,(scope.names.lookup z=some .cell\/scope.names.lookup z=some .free)->z=y:=λz hz=>by
    by_cases e:z=y
    ·exact e
    ·exfalso;have zy:(z == y)=false:=by simpa using e
     rw[b,Jl,Jl,zy]at hz
     cases hzx:z == x <;> simp[hzx]at hz
   refine kwAll_cons (zrb I1 o C hT hB (zr0 b r) J λq n oc vs tq T s' hd hv a9 a8 I2=>?_);refine kwAll_nil ?_;refine thn (zla (by have:=hr.units;lia) hr.hd (ksk_s1 _ _) (λx=>ksk_l1 _ _) (λx=>ksk_t1 _ x) (sp:=λx H Q=>tb [some x,some E] H Q) ?_ I2 (.inl (by rw[zaf (za7 eh hT (by intro z;cases z))];exact eh)) λas la hi=>b0 n as a9 a8 la hi) λu s5 ⟨v,H5,I5,r5,q5⟩=>⟨v,H5,I5.pins_of λp hp=>I5.pin p (Yg _ (.tail _ hp)),r5,q5⟩
   intro pins4 s4 H4 Q4 x4 u4 I4 O a1 h4;obtain⟨m4,hns4,B⟩:=I4.loc;obtain⟨a7,a5,f⟩:=B i y E hN R (.inr (.inl Y));have S:∃c,X.env.cells.lookup y=some c/\s4.heap.IsCell c (some a7):=by
    rcases f with⟨z,_⟩ | ⟨_,z⟩
    ·have L:X.env.scope.names.lookup y=some .local:=z;rw[Y]at L;cases L
    ·exact z
   obtain⟨c4,l,U⟩:=S;rw[r]at l;cases l;have a2:X.A.in1.in1.frames=some X.stack:=I4.ok.frames;refine zut (x:=x) (y:=y) I4 (O _ (.head _)) (O _ (.tail _ (.head _))) hd hv a2 hr.hd ?_ hk a0 M ?_ lx ly lo (hb _ _ _ _ _) r U a5 a1 (a4 _ _ _ _ _) h4
   ·exact(Room.in1 (k:=0) (Room.in1 (k:=1) (hr.mono b1))).depth
   ·intro z hz;rw[b]at hz;simp at hz;rcases hz with rfl | rfl <;> simp
end
def FzK(H:Hp)(d:Lg)(o:Obj)(cr:List (Key×V)):Prop:=H d=some (.frz o (.dK cr))
def ItKK(d:Lg)(o:Obj)(cr:List (Key×V)):It:=
 ⟨λi H=>FzK H d o cr/\i<cr.length,λi H x H'=>H'=H/\∃k v,cr[i]? = some (k,v)/\x=kV k,λi H=>FzK H d o cr/\cr.length<=i⟩
def zrn{K:Type}[DecidableEq K]{knd:PySem.KeyKind prog w K}{cr:List (K×Lh)}(h:Pairs knd es cr):∀(i:Nat) a,cr[i]? = some a->∃e,es[i]? = some e/\knd.is a.1 e.key=true:=by
 induction h with
 | nil=>intro i a z;simp at z
 | cons h1 h2 _ ih=>
  intro i a z
  cases i with
  | zero=>simp at z;subst z;exact⟨_,rfl,h1⟩
  | succ i=>simp at z;simpa using ih i a z
section
variable{X:Cx}{bo:La}{σ:St}{H:Hp}{s:Lj}{d:Lg}{o:Obj}{cr:List (Key×V)}{es:Array DictEntry}{ep:Nat}
def Inv.freezeK(I:Inv X bo σ H s)(e:H d=some (.dK cr))(a:s.heap.get? d=some o):Inv X bo σ (upd H d (.frz o (.dK cr))) s:=
 I.swap e (by intro _ z;cases z) (by intro _ z;cases z) (by intro _ z;cases z) (by intro _ _ z;cases z) λx H' t w=>⟨a,x.stay (λ_ _ _ z=>z) (λb z=>w b d z) t⟩
def Inv.entriesK(I:Inv X bo σ H s)(e:Rd H d (.dK cr)):∃(o:Obj) (es:Array DictEntry) (ep:Nat),s.heap.get? d=some o/\o.cls=.type "dict"/\(d == sysModules)=false/\o.data=.dict es ep/\es.size=cr.length /\
  ∀(i:Nat) k v,cr[i]? = some (k,v)->∃e,es[i]? = some e/\RelV (kV k) e.key:=by
 obtain⟨z,hd,vs,b,o,es,ep,p,l,r,h4,h,h6⟩:=zj0 I.hok e;have y:es.size=cr.length:=by have:=h.length;rw[Array.length_toList]at this;rw[this,<- Paired.length b]
 refine⟨o,es,ep,p,l.1,hd,r,y,λi k v n=>?_⟩;obtain⟨⟨m,u⟩,q,c,q3⟩:=Paired.at' b n;obtain⟨A,j,w⟩:=zrn h i _ q;refine⟨A,by simpa using j,?_⟩;have c:k=m:=c;subst c;rcases zbt w with⟨i,t,a,f⟩ | ⟨x,t,a,f⟩
 ·have a:k=.inl i:=a;subst a;rw[f];exact⟨t,Z⟩
 ·have a:k=.inr x:=a;subst a;rw[f];exact⟨t,Z⟩
end
def zmv{K:Li}(f:o.data=.dict es ep) :
  Turn P w K tg (ItKK d o cr) [it] it (λi h=>h.IsKeyIter it d i cr.length ep) where
 mem:=by simp
 obj:=λi h st b l=>by
  have e:b=it:=by simpa using l
  subst e;obtain⟨q,e,c,z⟩:=st;exact⟨q,e,λv y=>by rw[z]at y;cases y⟩
 keep:=λi h h' st k=>st.at λq e=>k it (by simp) q e
 item:=by
  intro X r hw B T i bo s Q H E I n st hg;subst r hw B;obtain⟨m,lt⟩:=hg;obtain⟨L,C,A,hd,_,_,a,hz,S⟩:=I.entriesK (.inr ⟨o,m⟩);have M:L=o:=Jf (hd.symm.trans (I.hok d _ m).1);subst M;rw[f]at a;cases a;obtain⟨⟨k,v⟩,R⟩:∃p,cr[i]? = some p:=⟨cr[i],by simp[lt]⟩;obtain⟨e,ee,ek⟩:=S i k v R;obtain⟨J,N,f2,D,O,G⟩:=n it (by simp);refine zik st hd f hz ee λh' j sb=>?_
  have I1:Inv X bo Q H { s with heap:=h' }:=I.turned (t':=s.toks) (λc q l z=>(sb.2 c l).trans z) J N D O G;obtain⟨q,Y,c,z⟩:=id j;exact⟨e.key,Z,zo9 (s:={ s with heap:=h' }) Y c z (by decide) ⟨kV k,H,I1,ek,⟨Z,k,v,R,Z⟩,j,λc x=>(n c x).1⟩⟩
 done:=by
  intro X r hw B T i bo s Q H E I n st hg;subst r hw B;obtain⟨m,ge⟩:=hg;obtain⟨L,C,A,hd,_,_,a,hz,S⟩:=I.entriesK (.inr ⟨o,m⟩);have M:L=o:=Jf (hd.symm.trans (I.hok d _ m).1);subst M;rw[f]at a;cases a;obtain⟨J,N,f2,D,O,G⟩:=n it (by simp);exact zkl (I.ok.hd T) st hd f hz ge λh' U=>⟨rfl,I.turned (t':=s.toks) (λb q l e=>U b q l e) J N D O G⟩
 self:=λ_ _ _ _ _ st h=>wpAny_pyIter_keyiter st h
def zky(td:TE):TI:=λσ H R=>td σ H λx H1=>∃d cr,x=.ref d/\Rd H1 d (.dK cr)/\∀o,(∀o',H1 d=some (.frz o' (.dK cr))->o'=o)->R (ItKK d o cr) (upd H1 d (.frz o (.dK cr)))
def zf4(A:PE X l tl):PI X tg l (zky tl):=by
 intro bo s n H R I h;refine thn (A s n H _ I h) λv f ⟨x,H1,i,w,d,cr,ex,e,q⟩=>?_
 subst ex
 cases w;obtain⟨o,es,ep,j,B,y,a,hz,_⟩:=i.entriesK e;have one:∀c,H1 d=some (.frz c (.dK cr))->c=o:=λc z=>Jf (((i.hok d _ z).1).symm.trans j)
 have m:Inv X bo n (upd H1 d (.frz o (.dK cr))) f:=by
  rcases e with e | ⟨c,e⟩
  ·exact i.freezeK e j
  ·rw[one c e]at e;have:upd H1 d (.frz o (.dK cr))=H1:=by
    funext b;unfold upd;split
    ·rename_i z;rw[z,e]
    ·rfl
   rw[this];exact i
 refine zgu y ⟨o,j,B⟩ j a ⟨f.heap.objs.size,[f.heap.objs.size],_,_,_,Z,m.kept (t':=f.toks) λb q z=>Ye _ z,zmv a,⟨_,Yk _ rfl,Z,by rw[hz];rfl⟩,λb r=>?_,q o one⟩;have p:b=f.heap.objs.size:=by simpa using r
 subst p;exact m.fpOk (Yi _) (m.hok.fresh (Yi _))
def zg0{g:TG}{tb:TS}{D:Ends}(b:Nat->St->Hp->Prop)(j:b 0 a H)(n:∀i a H,b i a H->FzK H d o cr)
  (l:∀i k v a H,cr[i]? = some (k,v)->b i a H->g (kV k) a H λc f=>tb { D with nx:=b (i+1),ct:=b (i+1),bk:=D.nx } c f) (hd:∀a H,b cr.length a H->D.nx a H) :
  ∃W:Nat->Nat->St->Hp->Prop,(∃m,W 0 m a H)/\∀i m a H,W i m a H ->
   ((ItKK d o cr).stop i H/\D.nx a H)\/((ItKK d o cr).go i H/\∃N,(∀e H',N e H'->∃m',m'<m/\W (i+1) m' e H')/\∀x H',(ItKK d o cr).yld i H x H'->g x a H' λc f=>tb { D with nx:=N,ct:=N,bk:=D.nx } c f):=by
 refine⟨λi m a H=>m=cr.length-i/\i<=cr.length/\b i a H,⟨cr.length,by simp,Y2 _,j⟩,?_⟩;rintro i m a H ⟨rfl,hi,p⟩;have q:=n i a H p;by_cases hlt:i<cr.length
 ·refine .inr ⟨⟨q,hlt⟩,b (i+1),λe H' r=>⟨cr.length-(i+1),by lia,Z,hlt,r⟩,λx H' y=>?_⟩;obtain⟨rfl,k,v,h,rfl⟩:=y;exact l i k v a H' h p
 ·have z:i=cr.length:=by lia
  subst z;exact .inl ⟨⟨q,Yi _⟩,hd a H p⟩
end L2
set_option Elab.async false
/- strict -/
set_option linter.all false
set_option maxRecDepth 100000
namespace L2
open PySem PySem.Spec PyProof.Rows
section
variable{X:Cx}
def ztm:OpR X (compareOp .Is) (λx y H Q=>∃a b,x=.bl a/\y=.bl b/\Q (.bl (a == b)) H):=by
 intro bo s σ H x y v u Q I d c h;obtain⟨a,b,rfl,rfl,q⟩:=h
 cases d
 cases c;exact wpAny_is_plain rfl ⟨.bl (a == b),H,I,by cases a <;> cases b <;> rfl,q⟩
def zoe:OpR X (compareOp .IsNot) (λx y H Q=>∃a b,x=.bl a/\y=.bl b/\Q (.bl (!(a == b))) H):=by
 intro bo s σ H x y v u Q I d c h;obtain⟨a,b,rfl,rfl,q⟩:=h
 cases d
 cases c;exact wpAny_isNot_plain rfl ⟨.bl (!(a == b)),H,I,by cases a <;> cases b <;> rfl,q⟩
theorem zjo:∀{ks} {vs},ItemsAre (za0 P w) ks vs->ItemsAre (za0 P' w') ks vs
 | _,_,.nil=>.nil
 | _,_,.cons h t=>.cons h (zjo t)
def kInt:Key->Prop
 | .inl _=>True
 | .inr _=>False
theorem zlo:∀{ks:List Key},(∀k∈ks,kInt k)->ks.map (keyH w)=ks.map (keyH w')
 | [],_=>rfl
 | .inl i::l,h=>by rw[Yz,Yz,zlo λk a=>h k (.tail _ a)];rfl
 | .inr x::l,h=>(h _ (.head _)).elim
def zmc{h:Lo}(e:h.DictOfH (tupleKind (za0 P w)) a xs)(i:∀x∈xs,∀k∈x.1,kInt k):h.DictOfH (tupleKind (za0 P' w')) a xs:=by
 obtain⟨o,A,p,c,q,r,l,d,y⟩:=e;refine⟨o,A,p,c,q,r,l.trans (List.map_congr_left λx b=>?_),λx b=>?_,y⟩
 ·have z:(tupleKind (za0 P w)).hash x.1=(tupleKind (za0 P' w')).hash x.1:=by
   show reduceHash (Builtin.Tuple.tupleHashOf (x.1.map (keyH w)))=reduceHash (Builtin.Tuple.tupleHashOf (x.1.map (keyH w')));rw[zlo (i x b)]
  unfold entryOfKey;rw[z]
 ·obtain⟨o,its,n,f,m,j,s⟩:=d x b;exact⟨o,its,n,f,m,j,zjo s⟩
def DIn(K:Li)(H:Hp)(d:Lg):Prop:=∃kb db,Rd H d (.dT kb)/\KDs K H kb db/\Flats db/\∀p∈kb,∀k∈p.1,kInt k
theorem zkz:∀{kb} {xs},KT H kb xs->(∀p∈kb,∀k∈p.1,kInt k)->∀x∈xs,∀k∈x.1,kInt k
 | _,_,.nil,_,x,c=>nomatch c
 | _,_,.cons (a:=a) (b:=b) r t,h,x,c=>by
  rcases Yj.mp c with rfl | c
  ·rw[<- r.1];exact h a (.head _)
  ·exact zkz t (λp d=>h p (.tail _ d)) x c
def ztc{o:St}(hu:A.units+62<cLine)(I:Inv X bo o H s){d a:Lg}(hd:DIn X.K H d)(i:DIn X.K H a):∃b,SeqAt.EqAt A s (.ref d) (.ref a) b:=by
 by_cases e:d=a
 ·subst e;exact⟨true,SeqAt.EqAt.same _⟩
 obtain⟨ka,da,c,j,z,p⟩:=hd;obtain⟨kb,db,f,l,B,x⟩:=i;obtain⟨_,D,xs,h,m⟩:=zd6 I.hok c;obtain⟨_,q,ys,tb,n⟩:=zd6 I.hok f;obtain⟨r,C⟩:∃r,HHits A.in1 s ys xs r:=⟨_,zie (by show A.units+1+61<cLine;lia) I tb l B h j z⟩;refine⟨xs.length == ys.length&&r,SeqAt.EqAt.of_refs e λprog w E Q y=>?_⟩;exact zl7 (knd:=tupleKind (za0 prog w)) (tupleKind_room_in1 (by lia)) (by lia) D q (zmc m (zkz h p)) (zmc n (zkz tb x)) (λ_=>C) y
def rInD(K:Li):R2:=λx y H Q=>∃(a p:Lg) (ds:Le),x=.ref a/\y=.ref p/\SqL K H p (ds.map V.ref)/\DIn K H a/\(∀d∈ds,DIn K H d)/\∀b,Q (.bl b) H
theorem zkt:∀{ds:Le} {us},Vals (ds.map V.ref) us->us=ds.map Value.ref
 | [],_,.nil=>rfl
 | d::ds,_,.cons r t=>by
  rw[zkt t]
  cases r;rfl
open Classical in
noncomputable def eqC(A:Around)(s:Lj)(x u:Lh):Bool:=if SeqAt.EqAt A s u x true then true else false
def zst(h:∃b,SeqAt.EqAt A s u x b):SeqAt.EqAt A s u x (eqC A s x u):=by
 unfold eqC;split
 ·assumption
 ·rename_i n
  obtain⟨b,a⟩:=h
  cases b with
  | true=>exact absurd a n
  | false=>exact a
def zwp(hu:X.A.units+64<cLine):OpR X (compareOp .In) (rInD X.K):=by
 intro bo s σ H x y v u Q I f e h;obtain⟨a,p,j,rfl,rfl,i,c,hd,q⟩:=h
 cases f
 cases e;obtain⟨its,r,pl,hz⟩:=I.list i;refine SeqAt.in_listAt (eqC X.A.in1 s (.ref a)) pl.isList (λw hw=>zst ?_) ⟨.bl _,H,I,Z,q _⟩;rw[zkt r]at hw;obtain⟨d,b,rfl⟩:=Ji.mp (show w∈j.map Value.ref by simpa using hw);exact ztc (by show X.A.units+1+62<cLine;lia) I (hd d b) c
def zom(hu:X.A.units+64<cLine):OpR X (compareOp .NotIn) (rInD X.K):=by
 intro bo s σ H x y v u Q I f e h;obtain⟨a,p,j,rfl,rfl,i,c,hd,q⟩:=h
 cases f
 cases e;obtain⟨its,r,pl,hz⟩:=I.list i;refine SeqAt.notIn_listAt (eqC X.A.in1 s (.ref a)) pl.isList (λw hw=>zst ?_) ⟨.bl _,H,I,Z,q _⟩;rw[zkt r]at hw;obtain⟨d,b,rfl⟩:=Ji.mp (show w∈j.map Value.ref by simpa using hw);exact ztc (by show X.A.units+1+62<cLine;lia) I (hd d b) c
theorem zn7:∀{xs} {us},Vals xs us->∀i:Nat,(xs[i]? = none/\us[i]? = none)\/∃x u,xs[i]? = some x/\us[i]? = some u/\RelV x u
 | _,_,.nil,_=>.inl ⟨rfl,rfl⟩
 | _,_,.cons r t,0=>.inr ⟨_,_,rfl,rfl,r⟩
 | _,_,.cons r t,i+1=>by simpa using zn7 t i
theorem zf8(h:Vals xs us):∀is:List Nat,Vals (is.filterMap (xs[·]?)) (is.filterMap (us[·]?))
 | []=>.nil
 | i::is=>by
  rcases zn7 h i with⟨b,a⟩ | ⟨x,u,b,a,r⟩
  ·rw[List.filterMap_cons_none b,List.filterMap_cons_none a];exact zf8 h is
  ·rw[List.filterMap_cons_some b,List.filterMap_cons_some a];exact .cons r (zf8 h is)
def tSl3(K:Li)(te:TE)(tl th ts:TO):TE:=λσ H Q=>te σ H λx H1=>tl σ H1 λl H2=>th σ H2 λu H3=>ts σ H3 λk H4=>k≠some 0/\∃a xs,x=.ref a/\SqL K H4 a xs/\∀p ys,(∀y∈ys,y∈xs)->ys.length<=xs.length->H4 p=none->Q (.ref p) (upd H4 p (.lst ys))
def zpk{lo hi:Option Ln}{st:Ln}{K:Li}(hK:X.K=K)(he:PE X e te)(hl:PO X lo tl)(P:PO X hi th)(ht:PO X (some st) ts):PE X (.Subscript e (.Slice lo hi (some st) p2) pos) (tSl3 K te tl th ts):=by
 subst hK;intro bo s d H Q I h;refine Subscript_ (thn (he s d H _ I h) λv O ⟨x,H1,I1,r1,J⟩=>?_);refine wpAny_Slice (thn (hl O d H1 _ I1 J) λn s2 ⟨l,T,Y,pl,M⟩=>thn (P s2 d T _ Y M) λz S ⟨u,H3,D,pu,L⟩=>thn (ht S d H3 _ D L) λC c ⟨k,N,U,pk,R⟩=>?_);have m:Inv X bo d N { c with heap:=c.heap.push { cls:=.type "slice",data:=.fields #[n,z,C] } }:=U.kept (t':=c.toks) λb ob q=>Ye _ q
 obtain⟨k0,a,xs,rfl,G,q⟩:=R
 cases r1;obtain⟨its,r,f,hz⟩:=m.list G;have j:=r.length;show wpAny (model X.prog X.w) X.A (subscriptTail e (.Slice lo hi (some st) p2) (.ref a) (.ref c.heap.objs.size)) (EP X bo d Q) X.xe { c with heap:=c.heap.push { cls:=.type "slice",data:=.fields #[n,z,C] } };refine tail_any (ops:=[.ref a,.ref c.heap.objs.size]) f.isList.typeIs slot_list_getitem.lookup ?_ (by with_unfolding_all rfl);refine wpAny_getItem_list_slice f.isList (Heap.IsSliceOf.new ..) pl pu pk k0 ?_ (by rw[Ys] <;> lia);have sz:=slicePick_size_le its.toArray l u k;generalize hb:sliceBounds l u k its.toArray.size=bb at *;have pe:slicePick its.toArray l u k=((sliceRange bb.1 bb.2.1 bb.2.2).filterMap (its[·]?)).toArray:=by
  unfold slicePick;rw[hb];simp
 have B:=zf8 r (sliceRange bb.1 bb.2.1 bb.2.2);rw[pe]at sz ⊢;have p:((sliceRange bb.1 bb.2.1 bb.2.2).filterMap (xs[·]?)).length<=xs.length:=by
  rw[B.length,j];simpa using sz
 refine⟨.ref _,_,m.laid (t':=c.toks) (o:=.lst ((sliceRange bb.1 bb.2.1 bb.2.2).filterMap (xs[·]?))) (λb ob q=>Ye _ q) (Yi _) ?_,Z,q _ _ (λy E=>?_) p (m.hok.fresh (Yi _))⟩
 ·exact⟨Yr p hz,_,0,B,Yk _ rfl⟩
 ·obtain⟨i,_,hi⟩:=List.mem_filterMap.mp E;exact Yx hi
end
section
variable{X:Cx}{k j:Nat}{C:Lg}{ps:List Lp}{sp:Sp}{x y z m:Lp}{p p2 p3 pos apos:Pos}{e o:Ln}{es:List Ln}{ta te:TE}{t:TA}
def zau(c:Cal X.prog X.w X.K X.mg X.base CX0 k x ps [] sp)(h:Room j X.A)(f:PA X (e::es) t)(d:k<=j:=by decide)(hg:Gl X x:=by rfl)
  (b:(x == ("__debug__" : Lp))=false:=by decide) (i:starEach (e::es) X.env=(false,eval e X.env)::starEach es X.env:=by rfl) (a:(backTo pos (starEach es X.env)).any (·.1)=false:=by rfl) :
  PE X (.Call (.Name x p) (e::es) [] pos) (zkf sp [] (λ_=>E0) t):=pe_c c h zbx .nil f d hg b i a
def zaq(i:Nat)(hN:X.N.Nodup)(c:PE X e te)(hi:X.N[i]? = some x:=by rfl)(a:Loc X.env.scope x:=by first | exact Or.inl rfl | exact Or.inr rfl)(d:swapsWith e (some (.Name x p)) pos.line X.env=pure false:=by rfl)(b:X.fn x=true\/X.env.scope.names.lookup x=some .local:=by first | exact .inl rfl | exact .inr rfl | assumption) :
  PS X (.Assign [.Name x p] e pos) (tAsg te (zap i)):=zwd hN hi a c d b
def pa_2(i k:Nat)(a:PE X (.Name x p) (tVar i):=by exact pv _)(c:PE X (.Name y p2) (tVar k):=by exact pv _)(d:starEach [.Name x p,.Name y p2] X.env=(false,eval (.Name x p) X.env)::starEach [.Name y p2] X.env:=by rfl)(b:starEach [.Name y p2] X.env=(false,eval (.Name y p2) X.env)::starEach [] X.env:=by rfl):PA X [.Name x p,.Name y p2] (zff (tVar i) (zff (tVar k) tNil)):=zab a (zab c zar b) d
def pa_1(i:Nat)(a:PE X (.Name x p) (tVar i):=by exact pv _)(b:starEach [.Name x p] X.env=(false,eval (.Name x p) X.env)::starEach [] X.env:=by rfl):PA X [.Name x p] (zff (tVar i) tNil):=zab a zar b
def pa_3(i k l:Nat)(a:PE X (.Name x p) (tVar i):=by exact pv _)(c:PA X [.Name y p2,.Name z p3] (zff (tVar k) (zff (tVar l) tNil)):=by exact pa_2 _ _)(b:starEach [.Name x p,.Name y p2,.Name z p3] X.env=(false,eval (.Name x p) X.env)::starEach [.Name y p2,.Name z p3] X.env:=by rfl):PA X [.Name x p,.Name y p2,.Name z p3] (zff (tVar i) (zff (tVar k) (zff (tVar l) tNil))):=zab a c b
end
end L2
namespace K1
def gI(a b:Int):Int:=((Int.gcd a b:Nat):Int)
def zw3(h:b≠0):0<gI a b:=by
 have:0<Int.gcd a b:=Int.gcd_pos_of_ne_zero_right a h;unfold gI;lia
def zsi(a b:Int):gI a b ∣ a:=Int.gcd_dvd_left a b
def zr7(a b:Int):gI a b ∣ b:=Int.gcd_dvd_right a b
def zup(a:Int)(h:0<=a):gI a 0=a:=by unfold gI;rw[Int.gcd_zero_right];lia
def zvf(ha:0<=a)(d:0<b):gI b (Int.fmod a b)=gI a b:=by
 unfold gI;congr 1;rw[Int.fmod_eq_emod_of_nonneg a (Int.le_of_lt d)];show Nat.gcd b.natAbs (a%b).natAbs=Nat.gcd a.natAbs b.natAbs;have e:(a%b).natAbs=a.natAbs%b.natAbs:=by
  have c:a=(a.natAbs:Int):=by lia
  have f:b=(b.natAbs:Int):=by lia
  conv=>lhs;rw[c,f]
  rw[<- Int.natCast_emod];exact Int.natAbs_natCast _
 rw[e,Nat.gcd_comm a.natAbs,Nat.gcd_rec b.natAbs a.natAbs,Nat.gcd_comm]
structure Gc(a0 b0 a b:Int):Prop where
 is:gI a b=gI a0 b0
def start(d:0<=a)(c:0<=b):0<=a/\0<=b/\Gc a b a b:=⟨d,c,⟨Z⟩⟩
def turn(h:Gc a0 b0 a b)(d:0<=a)(c:0<b):0<=b/\0<=Int.fmod a b/\Gc a0 b0 b (Int.fmod a b):=
 ⟨by lia,Int.fmod_nonneg_of_pos a c,⟨(zvf d c).trans h.is⟩⟩
def less(c:0<b):(Int.fmod a b).toNat<b.toNat:=by
 have:=Int.fmod_lt_of_pos a c;have:=Int.fmod_nonneg_of_pos a c;lia
def out(h:Gc a0 b0 a b)(c:0<=a)(d:b=0):a=gI a0 b0:=by
 rw[<- h.is,d,zup a c]
def zvz(a b:Int):gI (if a<0 then -a else a) (if b<0 then -b else b)=gI a b:=by
 unfold gI;congr 1;have h (x:Int):(if x<0 then -x else x).natAbs=x.natAbs:=by split <;> lia
 show Nat.gcd _ _=Nat.gcd _ _;rw[h,h]
end K1
namespace K1
def co_iff:gI a b=1↔Nat.Coprime a.natAbs b.natAbs:=by
 unfold gI Nat.Coprime;show ((Nat.gcd a.natAbs b.natAbs:Nat):Int)=1↔_;lia
def ztg(h:gI a b=1):gI b a=1:=co_iff.mpr (co_iff.mp h).symm
def zjg(h:gI a b=1)(d:a ∣ b*c):a ∣ c:=by
 rw[co_iff]at h;have:=Int.natAbs_dvd_natAbs.mpr d;rw[Int.natAbs_mul]at this;exact Int.natAbs_dvd_natAbs.mp (Nat.Coprime.dvd_of_dvd_mul_left h this)
def zvo(hq:1<=q)(hq':1<=q')(c:gI p q=1)(d:gI p' q'=1)(e:p*q'=p'*q):p=p'/\q=q':=by
 have f:q ∣ q':=zjg (ztg c) ⟨p',by rw[e,Int.mul_comm]⟩;have a:q' ∣ q:=zjg (ztg d) ⟨p,by rw[<- e,Int.mul_comm]⟩;have b:q=q':=Int.dvd_antisymm (by lia) (by lia) f a;subst b;exact⟨Int.eq_of_mul_eq_mul_right (by lia) e,Z⟩
end K1
namespace K3
structure NoDiv(n d:Int):Prop where
 is:∀e:Int,2<=e->e<d->Int.fmod n e≠0
def Pr(n:Int):Prop:=2<=n/\∀e,2<=e->e*e<=n->Int.fmod n e≠0
noncomputable def isP(n:Int):Bool := @decide (Pr n) (Classical.propDecidable _)
def isP_t(h:Pr n):isP n=true := @Yo _ (Classical.propDecidable _) h
def isP_f(h:¬Pr n):isP n=false := @Yw _ (Classical.propDecidable _) h
def small{d n:Int}(_h2:2<=d)(h:d*d<=n)(hn:n<=9973):d<=99:=by
 rcases(by lia:d<=99\/100<=d) with e | e
 ·exact e
 ·have:=Int.mul_le_mul e e (by decide) (by lia);lia
def start(n:Int):(2:Int)<=2/\(2:Int)<=101/\NoDiv n 2:=⟨by decide,by decide,⟨λe h1 h2=>by lia⟩⟩
def turn(h:NoDiv n d)(c:¬Int.fmod n d=0)(f:2<=d)(i:d*d<=n)(b:n<=9973):2<=d+1/\d+1<=101/\NoDiv n (d+1):=by
 have s:=small f i b;refine⟨by lia,by lia,⟨λe a h3=>?_⟩⟩;rcases(by lia:e<d\/e=d) with q | q
 ·exact h.is e a q
 ·rw[q];exact c
def less{n d:Int}(b:2<=d)(c:d*d<=n)(a:n<=9973):(200-(d+1)).toNat<(200-d).toNat:=by
 have s:=small b c a;lia
def low(h:n<2):false=isP n:=by
 exact(isP_f λh'=>by have:=h'.1;lia).symm
def out(h:NoDiv n d)(b:2<=n)(h2:2<=d)(hq:¬d*d<=n):true=isP n:=by
 refine(isP_t ?_).symm;refine⟨b,λe a h3=>h.is e a ?_⟩;rcases(by lia:e<d\/d<=e) with q | q
 ·exact q
 ·have:=Int.mul_le_mul q q (by lia) (by lia);lia
def found(a:2<=d)(c:d*d<=n)(b:Int.fmod n d=0):false=isP n:=by
 exact(isP_f λh'=>h'.2 d a c b).symm
def outB(h:NoDiv n d)(a:2<=d)(b:¬d*d<=n):decide (2<=n)=isP n:=by
 by_cases hn:2<=n
 ·rw[<- out h hn a b];exact Yo hn
 ·rw[<- low (by lia:n<2)];exact Yw hn
end K3
namespace K2
def zy9:K3.isP 9973=true:=by
 apply K3.isP_t
 refine⟨by decide,λe b d f=>?_⟩;have hs:e<=99:=K3.small b d (by decide);have a:∀k:Nat,k<100->2<=k->¬Int.fmod 9973 (k:Int)=0:=by decide
 have:=a e.toNat (by lia) (by lia);have c:((e.toNat:Nat):Int)=e:=by lia
 rw[c]at this;exact this f
def zy3(h:K3.isP n=true):K3.Pr n:=by
 by_cases q:K3.Pr n
 ·exact q
 ·rw[K3.isP_f q]at h;cases h
def zu4(h:K3.isP n=false):n≠9973:=by
 rintro rfl;rw[zy9]at h;cases h
def zwv(d:K3.Pr p)(h1:1<l)(h2:l<p):Int.fmod p l≠0:=by
 intro c;rw[Int.fmod_eq_emod_of_nonneg p (by lia)]at c;have hd:p=l*(p / l):=by have:=Int.mul_ediv_add_emod p l;lia
 have hq1:1<p / l:=by
  rcases(by lia:p / l<=1\/1<p / l) with q | q
  ·have:=Y3 q (by lia:0<=l);lia
  ·exact q
 rcases(by lia:l*l<=p\/p<l*l) with q | q
 ·refine d.2 l (by lia) q ?_;rw[Int.fmod_eq_emod_of_nonneg p (by lia)];exact c
 ·have a:p / l<l:=by
   rcases(by lia:p / l<l\/l<=p / l) with r | r
   ·exact r
   ·have:=Y3 r (by lia:0<=l);lia
  have b:(p / l)*(p / l)<=p:=by
   have h:=Int.mul_le_mul_of_nonneg_right (Int.le_of_lt a) (by lia:0<=p / l);lia
  refine d.2 (p / l) (by lia) b ?_;rw[Int.fmod_eq_emod_of_nonneg p (by lia)];apply Int.emod_eq_zero_of_dvd;exact⟨l,by rw[Int.mul_comm];exact hd⟩
structure Tn(p a found left:Int):Prop where
 f0:0<=found
 f1:found<p
 l0:1<=left
 l1:left<p
 eq:(found*a-left)%p=0
def zrt(c:K3.Pr p)(h0:0<a)(b:a<p):Tn p a 1 a:=
 ⟨by decide,by have:=c.1;lia,by lia,b,by rw[Int.one_mul,Int.sub_self];exact Int.zero_emod p⟩
def zu8(b:K3.Pr p)(h:Tn p a f l)(hl:l≠1) :
  Tn p a (Int.fmod (-f*Int.fdiv p l) p) (Int.fmod p l):=by
 have p2:=b.1;have l0:=h.l0;have hne:=zwv b (by lia:1<l) h.l1;have j:=h.eq;have hpos:=Int.fmod_nonneg_of_pos p (show 0<l by lia);have hlt:=Int.fmod_lt_of_pos p (show 0<l by lia);refine⟨Int.fmod_nonneg_of_pos _ (by lia),Int.fmod_lt_of_pos _ (by lia),by lia,by have:=h.l1;lia,?_⟩;have q:=Int.mul_fdiv_add_fmod p l;generalize Int.fdiv p l=d at *;generalize Int.fmod p l=r at *;rw[Int.fmod_eq_emod_of_nonneg _ (by lia)];apply Int.emod_eq_zero_of_dvd;obtain⟨k,hk⟩:=Int.dvd_of_emod_eq_zero j;have m:=Int.mul_ediv_add_emod (-f*d) p;generalize (-f*d) / p=g at *;generalize (-f*d)%p=v at *;have hv:v = -f*d-p*g:=by lia
 refine⟨-(g*a)-d*k-1,?_⟩;rw[hv];have c:f*a=l+p*k:=by lia
 have e:(-f*d-p*g)*a = -(d*(f*a))-p*(g*a):=by
  rw[Int.sub_mul];have : -f*d*a = -(d*(f*a)):=by
   rw[Int.neg_mul,Int.neg_mul,Int.mul_comm f d,Int.mul_assoc]
  rw[this,Int.mul_assoc]
 rw[e,c,Int.mul_add d l (p*k),Int.mul_comm d l];have i:d*(p*k)=p*(d*k):=by rw[<- Int.mul_assoc,Int.mul_comm d p,Int.mul_assoc]
 rw[i,Int.mul_sub,Int.mul_sub,Int.mul_one,Int.mul_neg];lia
def zu6(h:Tn p a f l):(Int.fmod p l).toNat<l.toNat:=by
 have l0:=h.l0;have hpos:=Int.fmod_nonneg_of_pos p (show 0<l by lia);have hlt:=Int.fmod_lt_of_pos p (show 0<l by lia);lia
def zxu(h:Tn p a f l)(b:l=1):0<=f/\f<p/\(f*a-1)%p=0:=by
 refine⟨h.f0,h.f1,?_⟩;have:=h.eq;rw[b]at this;exact this
end K2
namespace K6
open HT (lexLt)
theorem zgt:∀x,lexLt x x=false
 | []=>rfl
 | a::x=>by rw[HT.lexLt_cons,Yl rfl];exact zgt x
theorem zr2:∀{x y z},lexLt x y=true->lexLt y z=true->lexLt x z=true
 | [],[],_,h,_=>by cases h
 | [],_::_,[],_,h=>by cases h
 | [],_::_,_::_,_,_=>rfl
 | _::_,[],_,h,_=>by cases h
 | _::_,_::_,[],_,h=>by cases h
 | a::x,b::y,c::z,h1,h2=>by
  rw[HT.lexLt_cons]at h1 h2 ⊢;by_cases e1:a=b
  ·rw[Yl e1]at h1;by_cases e2:b=c
   ·rw[Yl e2]at h2;rw[Yl (e1.trans e2)];exact zr2 h1 h2
   ·rw[Yh e2]at h2;rw[Yh (by lia),e1];exact h2
  ·rw[Yh e1]at h1;have l1:a<b:=Jj h1;by_cases e2:b=c
   ·rw[Yl e2]at h2;rw[Yh (by lia)];exact Yo (by lia)
   ·rw[Yh e2]at h2;have l2:b<c:=Jj h2;rw[Yh (by lia)];exact Yo (by lia)
theorem zpr:∀{x y},x≠y->lexLt x y = !lexLt y x
 | [],[],h=>absurd rfl h
 | [],_::_,_=>rfl
 | _::_,[],_=>rfl
 | a::x,b::y,h=>by
  rw[HT.lexLt_cons,HT.lexLt_cons];by_cases e:a=b
  ·rw[Yl e,Yl e.symm];exact zpr λz=>h (by rw[e,z])
  ·rw[Yh e,Yh (Jb e)];by_cases l:a<b
   ·rw[Yo l,Yw (by lia)];rfl
   ·rw[Yw l,Yo (by lia)];rfl
def zui(h:lexLt x y=true):lexLt y x=false:=by
 by_cases e:x=y
 ·rw[e,zgt]at h;cases h
 ·have:=zpr e;rw[h]at this
  cases q:lexLt y x with
  | true=>rw[q]at this;cases this
  | false=>rfl
abbrev vadd(x y:Lc):Lc:=List.zipWith (λa b=>a+b) x y
theorem zs5:∀{x y z},x.length=z.length->y.length=z.length->lexLt (vadd x z) (vadd y z)=lexLt x y
 | [],[],_,_,_=>by simp[vadd]
 | _::_,[],[],h,_=>by simp at h
 | [],_::_,[],_,h=>by simp at h
 | _::_,[],_::_,_,h=>by simp at h
 | [],_::_,_::_,h,_=>by simp at h
 | _::_,_::_,[],h,_=>by simp at h
 | a::x,b::y,c::z,h1,h2=>by
  have d:=zs5 (x:=x) (y:=y) (z:=z) (by simpa using h1) (by simpa using h2);simp only[vadd,List.zipWith_cons_cons,HT.lexLt_cons]at d ⊢;by_cases e:a=b
  ·rw[Yl (by lia),Yl e];exact d
  ·rw[Yh (by lia),Yh e];by_cases l:a<b
   ·rw[Yo l,Yo (by lia)]
   ·rw[Yw l,Yw (by lia)]
def rkL(t:Lc):Lc:=t
def rkD(t:Lc):Lc:=t.sum::t
def rkT(t:Lc):Lc:=t.sum::t.reverse.map λx => -x
def wsum(ws t:Lc):Int:=(List.zipWith (λa b=>a*b) t ws).sum
def rkW(ws t:Lc):Lc:=wsum ws t::t
def zer(n:Nat):Lc:=List.replicate n 0
def Nn(t:Lc):Prop:=∀x∈t,0<=x
theorem zkw:∀{a c},a.length=c.length->(vadd a c).sum=a.sum+c.sum
 | [],[],_=>rfl
 | _::_,[],h=>by simp at h
 | [],_::_,h=>by simp at h
 | x::a,y::c,h=>by
  have b:=zkw (a:=a) (c:=c) (by simpa using h);simp only[vadd,List.zipWith_cons_cons,List.sum_cons]at b ⊢;lia
theorem zl0:∀{ws a c},a.length=c.length->wsum ws (vadd a c)=wsum ws a+wsum ws c
 | _,[],[],_=>by simp[wsum,vadd]
 | _,_::_,[],h=>by simp at h
 | _,[],_::_,h=>by simp at h
 | [],x::a,y::c,h=>by simp[wsum,vadd]
 | w::ws,x::a,y::c,h=>by
  have b:=zl0 (ws:=ws) (a:=a) (c:=c) (by simpa using h);simp only[wsum,vadd,List.zipWith_cons_cons,List.sum_cons]at b ⊢;rw[b,Int.add_mul];lia
theorem zph:∀{a c},(vadd a c).map (λx => -x)=vadd (a.map λx => -x) (c.map λx => -x)
 | [],_=>by simp[vadd]
 | _::_,[]=>by simp[vadd]
 | x::a,y::c=>by
  have b:=zph (a:=a) (c:=c);simp only[vadd,List.zipWith_cons_cons,List.map_cons]at b ⊢;rw[b];congr 1;lia
structure OrdM(rk:Lc->Lc)(n:Nat):Prop where
 add:∀a c:Lc,a.length=n->c.length=n->rk (vadd a c)=vadd (rk a) (rk c)
 inj:∀a b:Lc,a.length=n->b.length=n->rk a=rk b->a=b
 len:∀a b:Lc,a.length=n->b.length=n->(rk a).length=(rk b).length
 pos:∀a:Lc,a.length=n->Nn a->a≠zer n->lexLt (rk (zer n)) (rk a)=true
theorem zj5:∀{a},Nn a->0<=a.sum
 | [],_=>Int.le_refl 0
 | x::a,h=>by
  have h1:=h x (.head _);have h2:=zj5 (a:=a) λy b=>h y (.tail _ b)
  rw[List.sum_cons];lia
theorem zk9:∀n,(zer n).sum=0
 | 0=>rfl
 | n+1=>by
  show ((0:Int)::zer n).sum=0;rw[List.sum_cons,zk9 n];rfl
theorem zkv:∀{a},Nn a->a≠zer a.length->0<a.sum
 | [],_,h=>absurd rfl h
 | x::a,h,hne=>by
  have h1:=h x (.head _);have b:Nn a:=λy c=>h y (.tail _ c)
  have h2:=zj5 b;rw[List.sum_cons];by_cases e:x=0
  ·have:=zkv (a:=a) b λz=>hne (by
    show x::a=0::zer a.length;rw[e,<- z])
   lia
  ·lia
theorem zlf:∀{a},Nn a->a≠zer a.length->lexLt (zer a.length) a=true
 | [],_,h=>absurd rfl h
 | x::a,h,hne=>by
  have h1:=h x (.head _);show lexLt (0::zer a.length) (x::a)=true;rw[HT.lexLt_cons];by_cases e:0=x
  ·rw[Yl e];exact zlf (λy b=>h y (.tail _ b)) λz=>hne (by
    show x::a=0::zer a.length;rw[<- e,<- z])
  ·rw[Yh e];exact Yo (by lia)
def ordL(n:Nat):OrdM rkL n:=⟨λ_ _ _ _=>Z,λ_ _ _ _ h=>h,λ_ _ b c=>b.trans c.symm,λa b c d=>by subst b;exact zlf c d⟩
def ordD(n:Nat):OrdM rkD n:=by
 refine⟨λa c d e=>?_,λa b _ _ h=>?_,λa b d e=>?_,λa d e f=>?_⟩
 ·show (vadd a c).sum::vadd a c=(a.sum+c.sum)::vadd a c;rw[zkw (d.trans e.symm)]
 ·injection h
 ·show (a.length+1)=b.length+1;rw[d,e]
 ·subst d;show lexLt ((zer a.length).sum::_) (a.sum::_)=true;rw[HT.lexLt_cons,zk9];have:=zkv e f;rw[Yh (by lia)];exact Yo this
def ordT(n:Nat):OrdM rkT n:=by
 refine⟨λa c f d=>?_,λa b _ _ h=>?_,λa b f d=>?_,λa f d i=>?_⟩
 ·show (vadd a c).sum::((vadd a c).reverse.map λx => -x)=(a.sum+c.sum)::vadd (a.reverse.map λx => -x) (c.reverse.map λx => -x);rw[zkw (f.trans d.symm),<- zph];congr 2;exact List.reverse_zipWith (f.trans d.symm)
 ·have h':a.reverse.map (λx => -x)=b.reverse.map (λx => -x):=by injection h
  have e:∀l:Lc,(l.map λx => -x).map (λx => -x)=l:=λl=>by
   rw[Jh]
   conv=>rhs;rw[<- List.map_id l]
   refine List.map_congr_left λx _=>?_
   show - -x=x;lia
  have d:=Jw (List.map λx => -x) h';rw[e,e]at d;exact List.reverse_inj.mp d
 ·simp[rkT,f,d]
 ·subst f;show lexLt ((zer a.length).sum::_) (a.sum::_)=true;rw[HT.lexLt_cons,zk9];have:=zkv d i;rw[Yh (by lia)];exact Yo this
theorem zo2:∀{ws a},Nn ws->Nn a->0<=wsum ws a
 | _,[],_,_=>by simp[wsum]
 | [],_::_,_,_=>by simp[wsum]
 | w::ws,x::a,h1,h2=>by
  have c:=zo2 (ws:=ws) (a:=a) (λy b=>h1 y (.tail _ b)) λy b=>h2 y (.tail _ b)
  have:=Int.mul_nonneg (h2 x (.head _)) (h1 w (.head _));simp only[wsum,List.zipWith_cons_cons,List.sum_cons]at c ⊢;lia
theorem zlj:∀ws n,wsum ws (zer n)=0
 | _,0=>by simp[wsum,zer]
 | [],n+1=>by simp[wsum]
 | w::ws,n+1=>by
  have c:=zlj ws n;show (0*w::List.zipWith (λa b=>a*b) (zer n) ws).sum=0;rw[List.sum_cons];unfold wsum at c;rw[c];simp
def ordW(hw:Nn ws)(n:Nat):OrdM (rkW ws) n:=by
 refine⟨λa c f d=>?_,λa b _ _ h=>?_,λa b f d=>?_,λa f d i=>?_⟩
 ·show wsum ws (vadd a c)::vadd a c=(wsum ws a+wsum ws c)::vadd a c;rw[zl0 (f.trans d.symm)]
 ·injection h
 ·show (a.length+1)=b.length+1;rw[f,d]
 ·subst f;show lexLt (wsum ws (zer a.length)::zer a.length) (wsum ws a::a)=true;rw[HT.lexLt_cons,zlj];have:=zo2 hw d;by_cases e:0=wsum ws a
  ·rw[Yl e];exact zlf d i
  ·rw[Yh e];exact Yo (by lia)
end K6
namespace K6
open L2 PySem
def zja{α j : Type}(f : α->j):∀{l m},l.Perm m->∀c,m=c.map f->∃l':List α,l'.Perm c/\l=l'.map f:=by
 intro l m h;induction h with
 | nil=>intro c e;exact⟨[],(by cases c with | nil=>exact .nil | cons=>simp at e),rfl⟩
 | cons x _ ih=>
  intro c e
  cases c with
  | nil=>simp at e
  | cons y c=>
   rw[Yz]at e;injection e with e1 e2
   obtain⟨l',p,q⟩:=ih c e2;exact⟨y::l',p.cons y,by rw[q,e1];rfl⟩
 | swap x y l=>
  intro c e
  cases c with
  | nil=>simp at e
  | cons a c=>
   cases c with
   | nil=>simp at e
   | cons b c=>
    simp only[List.map_cons]at e
    injection e with e1 e2
    injection e2 with e2 e3
    exact⟨b::a::c,List.Perm.swap a b c,by rw[e1,e2,e3];rfl⟩
 | trans _ _ ih1 ih2=>
  intro c e;obtain⟨n,o,i⟩:=ih2 c e;obtain⟨r,s,d⟩:=ih1 n i;exact⟨r,s.trans o,d⟩
def Trm(H:Hp)(xs:Lc)(v:V):Prop:=∃r,v=.ref r/\H r=some (.tup (xs.map V.int))
def Trm.same(e:Same H H')(h:Trm H xs v):Trm H' xs v:=let ⟨r,a,b⟩:=h;⟨r,a,e _ _ b⟩
theorem pimp{R S : α->V->Prop}(h:∀a v,R a v->S a v):∀{l} {ys},Paired R l ys->Paired S l ys
 | _,_,.nil=>.nil
 | _,_,.cons r t=>.cons (h _ _ r) (pimp h t)
theorem psnoc{R : α->V->Prop}{a : α}(r:R a v):∀{l} {ys},Paired R l ys->Paired R (l++[a]) (ys++[v])
 | _,_,.nil=>.cons r .nil
 | _,_,.cons q t=>.cons q (psnoc r t)
end K6
namespace K6
open L2 PySem
def ky(xs:Lc):List Key:=xs.map Sum.inl
def zce(xs:Lc):(ky xs).map kV=xs.map V.int:=by unfold ky;rw[Jh];rfl
structure NmD(d:PyData):Prop where
 lay:d.canLay0=true
 dep:d.depth<=60
def NmD.shaped(h:NmD d):SeqAt.shaped d=true:=by
 have:=h.dep;unfold SeqAt.shaped;rw[h.lay,Bool.true_and,decide_eq_true_eq];lia
def ztq(i:Int):NmD (.int i):=⟨Z,by simp[PyData.depth]⟩
def zq9(i j:Int):NmD (.tuple [.int i,.int j]):=⟨Z,by simp[PyData.depth,PyData.depthAll]⟩
mutual
theorem Rds.same(e:Same H H'):∀{v} {d},Rds K H v d->Rds K H' v d
 | _,_,.non=>.non
 | _,_,.bl b=>.bl b
 | _,_,.int i=>.int i
 | _,_,.str x=>.str x
 | _,_,.tup h hs=>.tup (e.seqT h) (RdsAll.same e hs)
 | _,_,.lst h hs=>.lst (e.seq h) (RdsAll.same e hs)
theorem RdsAll.same(e:Same H H'):∀{vs} {ds},RdsAll K H vs ds->RdsAll K H' vs ds
 | _,_,.nil=>.nil
 | _,_,.cons h hs=>.cons (Rds.same e h) (RdsAll.same e hs)
end
def zqp(e:H d=some (.dT cr))(h:SqT K H a xs):SqT K (upd H d o) a xs:=by
 rcases h with(h | ⟨q,h⟩) | h
 ·exact .inl (.inl (by rw[zaf (za7 h e (by intro z;cases z))];exact h))
 ·exact .inl (.inr ⟨q,by rw[zaf (za7 h e (by intro z;cases z))];exact h⟩)
 ·exact .inr h
def zqu(e:H d=some (.dT cr))(h:SqL K H a xs):SqL K (upd H d o) a xs:=by
 rcases h with(h | ⟨q,h⟩) | h
 ·exact .inl (.inl (by rw[zaf (za7 h e (by intro z;cases z))];exact h))
 ·exact .inl (.inr ⟨q,by rw[zaf (za7 h e (by intro z;cases z))];exact h⟩)
 ·exact .inr h
mutual
theorem Rds.updD(e:H d=some (.dT cr)):∀{v} {z},Rds K H v z->Rds K (upd H d o) v z
 | _,_,.non=>.non
 | _,_,.bl b=>.bl b
 | _,_,.int i=>.int i
 | _,_,.str x=>.str x
 | _,_,.tup h hs=>.tup (zqp e h) (RdsAll.updD e hs)
 | _,_,.lst h hs=>.lst (zqu e h) (RdsAll.updD e hs)
theorem RdsAll.updD(e:H d=some (.dT cr)):∀{vs} {ds},RdsAll K H vs ds->RdsAll K (upd H d o) vs ds
 | _,_,.nil=>.nil
 | _,_,.cons h hs=>.cons (Rds.updD e h) (RdsAll.updD e hs)
end
def zrg(h:H r=some (.tup [.int i,.int j])):Rds K H (.ref r) (.tuple [.int i,.int j]):=.tup (SqT.of h) (.cons (.int i) (.cons (.int j) .nil))
end K6
namespace K8
open L2 PySem K1 K2 K3 K6
def zr(n T:Int):Prop:=if n=0 then T=0 else T%n=0
instance zrDec(n T:Int):Decidable (zr n T):=by unfold zr;exact inferInstance
def zr_0:zr 0 T↔T=0:=by simp[zr]
def zr_n(h:n≠0):zr n T↔T%n=0:=by simp[zr,h]
def zct(h:Pr n):n≠0:=by have:=h.1;lia
end K8
namespace K8
open L2 PySem K1 K2 K3 K6
def zdo(h:ky a=ky b):a=b:=by
 unfold ky at h;exact(List.map_inj_right (λx y e=>Sum.inl.inj e)).mp h
def zif{k:List Key}:((putK cr k v).map (·.1))=if (valV cr k).isSome then cr.map (·.1) else cr.map (·.1)++[k]:=by
 unfold putK;rw[zdk]
 cases h:(valV cr k).isSome with
 | true=>
  rw[Yl rfl,Yl rfl,Jh];refine List.map_congr_left λp _=>?_
  show (if p.1=k then(p.1,v) else p).1=p.1;split <;> rfl
 | false=>rw[Yh (by decide),Yh (by decide),List.map_append];rfl
def mem_of_valV{k:List Key}:(valV cr k).isSome=true↔k∈cr.map (·.1):=by
 rw[<- zdk,List.any_eq_true];constructor
 ·rintro⟨p,a,e⟩;exact Ji.mpr ⟨p,a,Jj e⟩
 ·intro h;obtain⟨p,a,e⟩:=Ji.mp h;exact⟨p,a,Yo e⟩
def zpm(cr:Ka)(k j:List Key):valV (zfg cr k) j=if j=k then none else valV cr j:=by
 unfold zfg;induction cr with
 | nil=>rw[List.filter_nil,zrx];split <;> rfl
 | cons p r ih=>
  rw[List.filter_cons];by_cases e:p.1=k
  ·rw[Yh (by simp[e]),ih];by_cases q:j=k
   ·rw[Yl q,Yl q]
   ·rw[Yh q,Yh q,zbr (λz=>q (z.symm.trans e))]
  ·rw[Yl (by simp[e])];by_cases z:p.1=j
   ·rw[zbu z,zbu z,Yh (λq=>e (z.trans q))]
   ·rw[zbr z,zbr z,ih]
theorem zis:∀{cr:Ka} (_:(cr.map (·.1)).Nodup) {i:Nat} {k} {v},cr[i]? = some (k,v)->valV cr k=some v
 | [],_,i,k,v,h=>by simp at h
 | p::r,hn,0,k,v,h=>by
  simp at h;subst h;exact zbu rfl
 | p::r,hn,i+1,k,v,h=>by
  rw[List.getElem?_cons_succ]at h;rw[Yz,List.nodup_cons]at hn;have:¬p.1=k:=λe=>hn.1 (Ji.mpr ⟨(k,v),Yx h,e.symm⟩)
  rw[zbr this];exact zis hn.2 h
def zbv{α:Type}{l:List α}{a : α}(h:l[i]? = some a):l.take (i+1)=l.take i++[a]:=by
 rw[List.take_add_one,h];rfl
def zuo{α:Type}{l:List α}(c:l.Nodup){i:Nat}{a : α}(h:l[i]? = some a):a ∉ l.take i:=by
 intro d;have e:l.take (i+1)=l.take i++[a]:=zbv h;have b:(l.take (i+1)).Nodup:=c.sublist (List.take_sublist _ _);rw[e,List.nodup_append]at b;exact b.2.2 a d a (by simp) rfl
theorem zgv{α b : Type}{f : α->b}:∀{l:List α},(l.map f).Nodup->l.Nodup
 | [],_=>List.nodup_nil
 | a::l,h=>by
  rw[Yz,List.nodup_cons]at h;exact List.nodup_cons.mpr ⟨λz=>h.1 (Ji.mpr ⟨a,z,Z⟩),zgv h.2⟩
def zs8{k:List Key}(h:(cr.map (·.1)).Nodup):((putK cr k v).map (·.1)).Nodup:=by
 rw[zif]
 cases q:(valV cr k).isSome with
 | true=>exact h
 | false=>
  rw[Yh (by decide),List.nodup_append];refine⟨h,by simp,λx b y a e=>?_⟩;rw[Yq]at a;have:=mem_of_valV.mpr (show k∈cr.map (·.1) by rw[<- a,<- e];exact b);rw[q]at this;cases this
end K8
namespace K37
open L2 PySem
def zb0(xs ys:Lc):Bool:=(List.range xs.length).all λi=>decide (xs.getD i 0<=ys.getD i 0)
def goesI_iff:zb0 xs ys=true↔∀i,i<xs.length->xs.getD i 0<=ys.getD i 0:=by
 unfold zb0;rw[List.all_eq_true];constructor
 ·intro h i hi;have:=h i (List.mem_range.mpr hi);simpa using this
 ·intro h i hi;have:=h i (List.mem_range.mp hi);simpa using this
structure T0(m:Nat)(t:Lc):Prop where
 len:t.length=m
 nn:∀i,0<=t.getD i 0
def T0.mem(h:T0 m t):∀x∈t,0<=x:=λx a=>by
 obtain⟨j,b,rfl⟩:=List.mem_iff_getElem.mp a;have:=h.nn j;simpa[List.getD,b]using this
def T0.of(a:t.length=m)(h:∀x∈t,0<=x):T0 m t:=⟨a,λi=>by
 rcases Jg i t.length with c | c
 ·have:=h t[i] (Jv c);simpa[List.getD,c]using this
 ·simp[List.getD,List.getElem?_eq_none c]⟩
def zeh{a b:Lc}(d:a.length=b.length)(h:∀i,i<a.length->a.getD i 0=b.getD i 0):a=b:=by
 refine List.ext_getElem d λi c e=>?_
 have:=h i c;simpa[List.getD,c,e]using this
end K37
namespace K37
open L2 PySem
theorem zb1{α:Type}[DecidableEq α]:∀{l l':List α},l.Nodup->(∀a∈l,a∈l')->l.length<=l'.length
 | [],_,_,_=>by simp
 | a::l,l',nd,h=>by
  rw[List.nodup_cons]at nd;have:=zb1 (l:=l) (l':=l'.erase a) nd.2 λb d=>by
   have c:=h b (by simp[d]);exact(List.mem_erase_of_ne (λe=>nd.1 (by rw[<- e];exact d))).mpr c
  rw[List.length_erase_of_mem (h a (by simp))]at this;have:0<l'.length:=List.length_pos_of_mem (h a (by simp));rw[Y4];lia
end K37
namespace G
open L2 PySem K1 K2 K3 K6 K8
section
variable{F:Type}[Ta F]
def ic(k:Int):F:=(Lean.Grind.Ring.intCast (α:=F)).intCast k
def zth(a b:Int):ic (F:=F) (a+b)=ic a+ic b:=Lean.Grind.Ring.intCast_add a b
def zec(a b:Int):ic (F:=F) (a*b)=ic a*ic b:=Lean.Grind.Ring.intCast_mul a b
def zyd(a:Int):ic (F:=F) (-a) = - ic a:=Lean.Grind.Ring.intCast_neg a
def zod(a b:Int):ic (F:=F) (a-b)=ic a-ic b:=Lean.Grind.Ring.intCast_sub a b
def zeq:ic (F:=F) 0=0:=Lean.Grind.Ring.intCast_zero
def zti:ic (F:=F) 1=1:=Lean.Grind.Ring.intCast_one
end
def zxv(k:Int):ic (F:=Rat) k=0↔k=0:=by
 show ((k:Int):Rat)=0↔k=0;constructor
 ·intro h;exact Rat.intCast_inj.mp (by simpa using h)
 ·intro h;subst h;rfl
class Chr (n:Int) (F:Type) [Ta F]:Prop where
 z:∀k:Int,ic (F:=F) k=0↔zr n k
def zset(p:Int):Setoid Int where
 r:=λa b=>∃k,a=b+p*k
 iseqv:=⟨λa=>⟨0,by simp⟩,fun{a b} ⟨k,h⟩=>⟨-k,by rw[h,Int.mul_neg];lia⟩,fun{a b c} ⟨k,h⟩ ⟨j,h'⟩=>⟨k+j,by rw[h,h',Int.mul_add];lia⟩⟩
def Zq(p:Int):Type:=Quotient (zset p)
namespace Zq
variable{p:Int}
def mk(a:Int):Zq p:=Quotient.mk (zset p) a
def snd(h:∃k,a=b+p*k):(mk a:Zq p)=mk b:=Quotient.sound (s:=zset p) h
def exa(h:(mk a:Zq p)=mk b):∃k,a=b+p*k:=Quotient.exact (s:=zset p) h
def ex(x:Zq p):∃a,x=mk a:=let ⟨a,h⟩:=Quotient.exists_rep (s:=zset p) x;⟨a,h.symm⟩
def add(x y:Zq p):Zq p:=Quotient.liftOn₂ x y (λa b=>mk (a+b)) λa b a' b' ⟨k,h⟩ ⟨j,h'⟩=>snd ⟨k+j,by rw[h,h',Int.mul_add];lia⟩
def mul(x y:Zq p):Zq p:=Quotient.liftOn₂ x y (λa b=>mk (a*b)) λa b a' b' ⟨k,h⟩ ⟨j,h'⟩=>snd ⟨a'*j+k*b'+p*k*j,by rw[h,h'];grind⟩
def neg(x:Zq p):Zq p:=Quotient.liftOn x (λa=>mk (-a)) λa b ⟨k,h⟩=>snd ⟨-k,by rw[h,Int.mul_neg];lia⟩
def pw(x:Zq p):Nat->Zq p
 | 0=>mk 1
 | k+1=>mul (pw x k) x
open Classical in
noncomputable def inv(x:Zq p):Zq p:=if h:∃y,mul x y=mk 1 then Classical.choose h else mk 0
noncomputable def zpw(x:Zq p):Int->Zq p
 | .ofNat k=>pw x k
 | .negSucc k=>inv (pw x (k+1))
instance:Add (Zq p):=⟨add⟩
instance:Mul (Zq p):=⟨mul⟩
instance:Neg (Zq p):=⟨neg⟩
instance:Sub (Zq p):=⟨λa b=>add a (neg b)⟩
noncomputable instance:Inv (Zq p):=⟨inv⟩
noncomputable instance:Div (Zq p):=⟨λa b=>mul a (inv b)⟩
theorem zs6(b:Pr p):∀k {a f l},l.toNat<=k->Tn p a f l->∃f,(f*a-1)%p=0
 | 0,a,f,l,h,t=>by have:=t.l0;lia
 | k+1,a,f,l,h,t=>by
  by_cases c:l=1
  ·exact⟨f,(zxu t c).2.2⟩
  ·have:=zu6 t;exact zs6 b k (by lia) (zu8 b t c)
def zv4(b:Pr p){x:Zq p}(h:x≠mk 0):∃y,mul x y=mk 1:=by
 obtain⟨a,rfl⟩:=ex x;have p2:=b.1;have e:(mk a:Zq p)=mk (a%p):=snd ⟨a / p,by have:=Int.mul_ediv_add_emod a p;lia⟩;have h0:0<=a%p:=Jm _ (by lia);have c:a%p<p:=Jc _ (by lia);have hz:a%p≠0:=λz=>h (by rw[e,z])
 obtain⟨f,d⟩:=zs6 b _ (Yi _) (zrt b (by lia) c);obtain⟨k,hk⟩:=Int.dvd_of_emod_eq_zero d;refine⟨mk f,?_⟩;rw[e];exact snd ⟨k,by rw[Int.mul_comm];lia⟩
def ziu(a:Pr p){x:Zq p}(h:x≠mk 0):mul x (inv x)=mk 1:=by
 have q:=zv4 a h;unfold inv;rw[dif_pos q];exact Classical.choose_spec q
def zpg(x y:Zq p):mul x y=mul y x:=by
 obtain⟨a,rfl⟩:=ex x;obtain⟨b,rfl⟩:=ex y;exact Jw mk (Int.mul_comm a b)
def zw9(x y z:Zq p):mul (mul x y) z=mul x (mul y z):=by
 obtain⟨a,rfl⟩:=ex x;obtain⟨b,rfl⟩:=ex y;obtain⟨c,rfl⟩:=ex z;exact Jw mk (Int.mul_assoc a b c)
def zpa(x:Zq p):mul (mk 1) x=x:=by obtain⟨a,rfl⟩:=ex x;exact Jw mk (Int.one_mul a)
def zmd(x:Zq p):mul (mk 0) x=mk 0:=by obtain⟨a,rfl⟩:=ex x;exact Jw mk (Int.zero_mul a)
def zly(a:Pr p):(mk 0:Zq p)≠mk 1:=λh=>by
 obtain⟨k,e⟩:=exa h;have p2:=a.1;have:p*k = -1:=by lia
 have d:p ∣ 1:=⟨-k,by rw[Int.mul_neg];lia⟩;have:=Int.le_of_dvd (by decide) d;lia
def zt6(a:Pr p):inv (mk 0:Zq p)=mk 0:=by
 unfold inv;rw[dif_neg];rintro⟨y,h⟩;rw[zmd]at h;exact zly a h
def ztu(a:Pr p)(x:Zq p):inv (inv x)=x:=by
 by_cases h:x=mk 0
 ·rw[h,zt6 a,zt6 a]
 ·have b:=ziu a h;have c:inv x≠mk 0:=λz=>by rw[z,zpg,zmd]at b;exact zly a b
  have d:=ziu a c
  calc inv (inv x)=mul (mk 1) (inv (inv x)):=(zpa _).symm
   _=mul (mul x (inv x)) (inv (inv x)):=by rw[b]
   _=mul x (mul (inv x) (inv (inv x))):=zw9 _ _ _
   _=mul x (mk 1):=by rw[d]
   _=x:=by rw[zpg,zpa]
def zy7(a:Pr p):inv (mk 1:Zq p)=mk 1:=by
 have b:=ziu a (x:=mk 1) (zly a).symm;rwa [zpa]at b
noncomputable def fld(hp:Pr p):Lean.Grind.Field (Zq p) where
 natCast:=⟨λn=>mk n⟩
 ofNat:=λn=>⟨mk n⟩
 nsmul:=⟨λn x=>mul (mk n) x⟩
 npow:=⟨pw⟩
 intCast:=⟨λn=>mk n⟩
 zsmul:=⟨λn x=>mul (mk n) x⟩
 zpow:=⟨zpw⟩
 add_zero:=λx=>by obtain⟨a,rfl⟩:=ex x;exact Jw mk (Int.add_zero a)
 add_comm:=λx y=>by obtain⟨a,rfl⟩:=ex x;obtain⟨b,rfl⟩:=ex y;exact Jw mk (Int.add_comm a b)
 add_assoc:=λx y z=>by obtain⟨a,rfl⟩:=ex x;obtain⟨b,rfl⟩:=ex y;obtain⟨c,rfl⟩:=ex z;exact Jw mk (Int.add_assoc a b c)
 mul_assoc:=zw9
 mul_comm:=zpg
 mul_one:=λx=>(zpg x (mk 1)).trans (zpa x)
 one_mul:=zpa
 right_distrib:=λx y z=>by obtain⟨a,rfl⟩:=ex x;obtain⟨b,rfl⟩:=ex y;obtain⟨c,rfl⟩:=ex z;exact Jw mk (Int.add_mul a b c)
 left_distrib:=λx y z=>by obtain⟨a,rfl⟩:=ex x;obtain⟨b,rfl⟩:=ex y;obtain⟨c,rfl⟩:=ex z;exact Jw mk (Int.mul_add a b c)
 zero_mul:=zmd
 mul_zero:=λx=>(zpg _ _).trans (zmd x)
 pow_zero:=λx=>rfl
 pow_succ:=λx n=>rfl
 ofNat_succ:=λn=>rfl
 ofNat_eq_natCast:=λn=>rfl
 nsmul_eq_natCast_mul:=λn x=>rfl
 neg_add_cancel:=λx=>by obtain⟨a,rfl⟩:=ex x;exact Jw mk (Int.add_left_neg a)
 sub_eq_add_neg:=λx y=>rfl
 neg_zsmul:=λi x=>by obtain⟨a,rfl⟩:=ex x;exact Jw mk (Int.neg_mul i a)
 zsmul_natCast_eq_nsmul:=λn x=>rfl
 intCast_ofNat:=λn=>rfl
 intCast_neg:=λn=>rfl
 div_eq_mul_inv:=λx y=>rfl
 zero_ne_one:=zly hp
 inv_zero:=zt6 hp
 mul_inv_cancel:=fun{x} h=>ziu hp h
 zpow_zero:=λx=>rfl
 zpow_succ:=λx n=>rfl
 zpow_neg:=λx n=>by
  cases n with
  | ofNat k=>
   cases k with
   | zero=>exact(zy7 hp).symm
   | succ k=>rfl
  | negSucc k=>exact(ztu hp _).symm
end Zq
def zwf(n:Int)(b:n=0\/Pr n):∃(F:Type) (_:Ta F),Chr n F:=by
 by_cases c:n=0
 ·subst c;exact⟨Rat,inferInstance,⟨λk=>by rw[zr_0];exact zxv k⟩⟩
 ·have a:Pr n:=b.resolve_left c;refine⟨Zq n,Zq.fld a,@Chr.mk n (Zq n) (Zq.fld a) λk=>?_⟩;rw[zr_n c];show (Zq.mk k:Zq n)=Zq.mk 0↔_;constructor
  ·intro h;obtain⟨j,e⟩:=Zq.exa h;rw[e];simp
  ·intro h;obtain⟨j,e⟩:=Int.dvd_of_emod_eq_zero h;exact Zq.snd ⟨j,by rw[e];simp⟩
end G
namespace G
open L2 PySem K1 K2 K3 K6 K8 K37
def addT(a b:Lc):Lc:=List.zipWith (· + ·) a b
def subT(a b:Lc):Lc:=List.zipWith (· - ·) a b
def zbe(h:a.length=b.length):(addT a b).length=a.length:=by simp[addT,h]
def zcj(h:a.length=b.length):(subT a b).length=a.length:=by simp[subT,h]
def zb8(h:a.length=b.length)(i:Nat):(addT a b).getD i 0=a.getD i 0+b.getD i 0:=by
 rcases Jg i a.length with c | c
 ·have d:i<b.length:=by lia
  simp[addT,List.getD,List.getElem?_zipWith,c,d]
 ·have d:b.length<=i:=by lia
  simp[addT,List.getD,List.getElem?_zipWith,List.getElem?_eq_none c,List.getElem?_eq_none d]
def zea(h:a.length=b.length)(i:Nat):(subT a b).getD i 0=a.getD i 0-b.getD i 0:=by
 rcases Jg i a.length with c | c
 ·have d:i<b.length:=by lia
  simp[subT,List.getD,List.getElem?_zipWith,c,d]
 ·have d:b.length<=i:=by lia
  simp[subT,List.getD,List.getElem?_zipWith,List.getElem?_eq_none c,List.getElem?_eq_none d]
def zdz(h:a.length=b.length):addT a b=addT b a:=zeh (by rw[zbe h,zbe h.symm,h]) λi _=>by rw[zb8 h,zb8 h.symm];lia
def zkp(h:a.length=b.length)(h':b.length=c.length):addT (addT a b) c=addT a (addT b c):=
 zeh (by rw[zbe (by rw[zbe h];lia),zbe h,zbe (by rw[zbe h'];lia)]) λi _=>by rw[zb8 (by rw[zbe h];lia),zb8 h,zb8 (by rw[zbe h'];lia),zb8 h'];lia
def zhd(h:a.length=b.length):addT b (subT a b)=a:=zeh (by rw[zbe (by rw[zcj h];lia),h]) λi _=>by rw[zb8 (by rw[zcj h];lia),zea h];lia
def zu7(h:a.length=b.length):subT (addT b a) b=a:=zeh (by rw[zcj (by rw[zbe h.symm]),zbe h.symm,h]) λi _=>by rw[zea (by rw[zbe h.symm]),zb8 h.symm];lia
def zfb(h:a.length=b.length)(h':a.length=c.length)(e:addT c a=addT c b):a=b:=zeh h λi _=>by
 have this:(addT c a).getD i 0=(addT c b).getD i 0:=by rw[e]
 rw[zb8 h'.symm,zb8 (by lia)]at this;lia
def T0.add(c:T0 m a)(d:T0 m b):T0 m (addT a b):=⟨by rw[zbe (by rw[c.len,d.len]),c.len],λi=>by rw[zb8 (by rw[c.len,d.len])];have:=c.nn i;have:=d.nn i;lia⟩
def T0.sub(d:T0 m a)(f:T0 m b)(g:zb0 b a=true):T0 m (subT a b):=⟨by rw[zcj (by rw[d.len,f.len]),d.len],λi=>by
 rw[zea (by rw[d.len,f.len])];rcases Jg i b.length with c | c
 ·have:=goesI_iff.mp g i c;lia
 ·have:=d.nn i;have e:b.getD i 0=0:=by simp[List.getD,List.getElem?_eq_none c]
  lia⟩
def zf1(c:T0 m a)(d:T0 m b):zb0 b (addT b a)=true:=goesI_iff.mpr λi _=>by rw[zb8 (by rw[c.len,d.len])];have:=c.nn i;lia
def zvp(ha:a.length=m)(hb:b.length=m)(h:zb0 a b=true)(h':zb0 b c=true):zb0 a c=true:=goesI_iff.mpr λi hi=>by
 have h1:=goesI_iff.mp h i hi;have h2:=goesI_iff.mp h' i (by lia);lia
section
variable{rk:Lc->Lc}{m:Nat}
def lt(rk:Lc->Lc)(a b:Lc):Prop:=HT.lexLt (rk a) (rk b)=true
def lt_irrefl(h:lt rk a a):False:=by unfold lt at h;rw[zgt]at h;cases h
def lt_trans(h:lt rk a b)(h':lt rk b c):lt rk a c:=zr2 h h'
def ziz(h:lt rk a b)(h':lt rk b a):False:=lt_irrefl (lt_trans h h')
def zit(O:OrdM rk m){a b:Lc}(c:a.length=m)(d:b.length=m):lt rk a b\/a=b\/lt rk b a:=by
 by_cases e:a=b
 ·exact .inr (.inl e)
 ·have f:rk a≠rk b:=λz=>e (O.inj a b c d z)
  have:=zpr f
  cases q:HT.lexLt (rk b) (rk a) with
  | true=>exact .inr (.inr q)
  | false=>rw[q]at this;exact .inl this
def not_lt(O:OrdM rk m){a b:Lc}(c:a.length=m)(d:b.length=m)(h:HT.lexLt (rk a) (rk b)=false):b=a\/lt rk b a:=by
 rcases zit O c d with q | q | q
 ·unfold lt at q;rw[q]at h;cases h
 ·exact .inl q.symm
 ·exact .inr q
def zhv(O:OrdM rk m){a b c:Lc}(e:a.length=m)(f:b.length=m)(d:c.length=m):lt rk (addT a c) (addT b c)↔lt rk a b:=by
 unfold lt;have i:rk (addT a c)=vadd (rk a) (rk c):=O.add a c e d;have h:rk (addT b c)=vadd (rk b) (rk c):=O.add b c f d;rw[i,h,zs5 (O.len a c e d) (O.len b c f d)]
def zkg(O:OrdM rk m){a b c:Lc}(d:a.length=m)(e:b.length=m)(f:c.length=m):lt rk (addT c a) (addT c b)↔lt rk a b:=by
 rw[zdz (by lia:c.length=a.length),zdz (by lia:c.length=b.length)];exact zhv O d e f
end
end G
namespace G
open L2 PySem K1 K2 K3 K6 K8 K37
section
variable{F:Type}[Ta F]
def sm{α:Type}(φ : α->F):List α->F
 | []=>0
 | a::l=>φ a+sm φ l
variable{α β : Type}
theorem zqb(φ : α->F):∀l l',sm φ (l++l')=sm φ l+sm φ l'
 | [],l'=>by show sm φ l'=0+sm φ l';grind
 | a::l,l'=>by show φ a+sm φ (l++l') = φ a+sm φ l+sm φ l';rw[zqb φ l l'];grind
def znx(φ : α->F)(l:List α)(a : α):sm φ (l++[a])=sm φ l + φ a:=by rw[zqb];show _+(φ a+0)=_;grind
theorem zcw{φ ψ : α->F}:∀{l},(∀a∈l,φ a = ψ a)->sm φ l=sm ψ l
 | [],_=>rfl
 | a::l,h=>by show φ a+_ = ψ a+_;rw[h a (by simp),zcw λb c=>h b (by simp[c])]
theorem zc2{φ : α->F}:∀{l},(∀a∈l,φ a=0)->sm φ l=0
 | [],_=>rfl
 | a::l,h=>by show φ a+_=0;rw[h a (by simp),zc2 λb c=>h b (by simp[c])];grind
theorem zte(φ ψ : α->F):∀l,sm (λa=>φ a + ψ a) l=sm φ l+sm ψ l
 | []=>by show (0:F)=0+0;grind
 | a::l=>by show φ a + ψ a+_ = φ a+_+(ψ a+_);rw[zte φ ψ l];grind
theorem zlh(c:F)(φ : α->F):∀l,sm (λa=>c * φ a) l=c*sm φ l
 | []=>by show (0:F)=c*0;grind
 | a::l=>by show c * φ a+_=c*(φ a+_);rw[zlh c φ l];grind
theorem znt(φ : β->F)(f : α->β):∀l,sm φ (l.map f)=sm (λa=>φ (f a)) l
 | []=>rfl
 | a::l=>by show φ (f a)+_=_;rw[znt φ f l];rfl
theorem zns(f : α->β->F)(l':List β):∀l,sm (λa=>sm (f a) l') l=sm (λb=>sm (λa=>f a b) l) l'
 | []=>by show (0:F)=_;rw[zc2 (l:=l')];intro a _;rfl
 | a::l=>by
  show sm (f a) l'+sm (λa=>sm (f a) l') l=sm (λb=>f a b+sm (λa=>f a b) l) l';rw[zns f l' l,zte]
def zvt{φ : α->F}(h:l.Perm l'):sm φ l=sm φ l':=by
 induction h with
 | nil=>rfl
 | cons a _ ih=>show φ a+_ = φ a+_;rw[ih]
 | swap a b l=>show φ b+(φ a+_) = φ a+(φ b+_);grind
 | trans _ _ h1 h2=>exact h1.trans h2
def zf3[DecidableEq α]{φ : α->F}(h:a∈l):sm φ l = φ a+sm φ (l.erase a):=zvt (List.perm_cons_erase h)
def zyf[DecidableEq α]{φ : α->F}(c:l.Nodup)(h:a∈l)(z:∀b∈l,b≠a->φ b=0):sm φ l = φ a:=by
 rw[zf3 h,zc2 (l:=l.erase a)]
 ·grind
 ·intro b d;have:=(List.Nodup.mem_erase_iff c).mp d;exact z b this.2 this.1
theorem zn2[DecidableEq α]{φ : α->F}:∀{l l'},l.Nodup->l'.Nodup->(∀a∈l,a∈l')->(∀a∈l',a ∉ l->φ a=0)->sm φ l=sm φ l'
 | [],l',_,_,_,h=>by rw[zc2 (l:=l') λa d=>h a d (by simp)];rfl
 | a::l,l',n1,n2,h1,h2=>by
  rw[List.nodup_cons]at n1;rw[zf3 (h1 a (by simp))];show φ a+sm φ l=_;rw[zn2 (l:=l) (l':=l'.erase a) n1.2 (n2.erase a) (λb c=>?_) λb c f=>?_]
  ·exact(List.Nodup.mem_erase_iff n2).mpr ⟨λe=>n1.1 (e ▸ c),h1 b (by simp[c])⟩
  ·have:=(List.Nodup.mem_erase_iff n2).mp c;exact h2 b this.2 (by simp[this.1,f])
abbrev Po(F:Type):=Lc->F
variable{m:Nat}
def Spt(m:Nat)(φ:Po F):Prop:=∀t,φ t≠0->T0 m t
def sh(l:Lc)(φ:Po F):Po F:=λt=>if t.length=l.length then φ (subT t l) else 0
def zmr{φ:Po F}(h:u.length=l.length):sh l φ (addT l u) = φ u:=by unfold sh;rw[Yl (zbe h.symm),zu7 h]
def zjv{φ:Po F}(h:t.length=l.length):sh l φ t = φ (subT t l):=by unfold sh;rw[Yl h]
def zna{φ:Po F}(b:T0 m l)(c:Spt m φ)(h:sh l φ t≠0):T0 m t/\zb0 l t=true/\φ (subT t l)≠0/\t=addT l (subT t l):=by
 unfold sh at h;split at h
 ·rename_i e
  have t0:=c _ h;have a:=(zhd e).symm;refine⟨?_,?_,h,a⟩
  ·rw[a];exact T0.add b t0
  ·rw[a];exact zf1 t0 b
 ·exact absurd rfl h
def zuj(d:a.length=b.length)(c:t.length=a.length):subT (subT t a) b=subT t (addT a b):=
 zeh (by rw[zcj (by rw[zcj c];lia),zcj c,zcj (by rw[zbe d];lia)]) λi _=>by rw[zea (by rw[zcj c];lia),zea c,zea (by rw[zbe d];lia),zb8 d];lia
def zr3{φ:Po F}(h:a.length=b.length):sh a (sh b φ)=sh (addT a b) φ:=funext λt=>by
 by_cases c:t.length=a.length
 ·rw[zjv c,zjv (by rw[zcj c];lia),zjv (by rw[zbe h];exact c),zuj h c]
 ·unfold sh;rw[Yh c,Yh (by rw[zbe h];exact c)]
def Ld(rk:Lc->Lc)(φ:Po F)(l:Lc):Prop:=φ l≠0/\∀t,φ t≠0->t=l\/lt rk t l
def Ld.one{φ:Po F}(h:Ld rk φ l)(h':Ld rk φ l'):l=l':=by
 rcases h.2 l' h'.1 with e | e
 ·exact e.symm
 ·rcases h'.2 l h.1 with a | a
  ·exact a
  ·exact(ziz e a).elim
def Ld.sh{rk:Lc->Lc}(O:OrdM rk m){φ:Po F}{l o:Lc}(a:Spt m φ)(b:T0 m o)(h:Ld rk φ l):Ld rk (sh o φ) (addT o l):=by
 have d:=a l h.1;refine⟨by rw[zmr (by rw[d.len,b.len])];exact h.1,λt f=>?_⟩;obtain⟨t0,g,c,e⟩:=zna b a f;have i:=a _ c;rcases h.2 _ c with q | q
 ·left;rw[e,q]
 ·right;rw[e];exact(zkg O i.len d.len b.len).mpr q
def mul(S:Lb)(φ ψ : Po F):Po F:=λt=>sm (λo=>φ o*sh o ψ t) S
def zum{φ ψ : Po F}(f:S.Nodup)(e:S'.Nodup)(d:∀t,φ t≠0->t∈S)(h:∀t,φ t≠0->t∈S'):mul S φ ψ = mul S' φ ψ:=by
 have z:∀{S:Lb},S.Nodup->(∀t,φ t≠0->t∈S)->∀t,mul S φ ψ t=sm (λo=>φ o*sh o ψ t) (S.filter λo => @decide (φ o≠0) (Classical.propDecidable _)):=fun{S} nS hS t=>by
  refine(zn2 (nS.filter _) nS (λa b=>(List.mem_filter.mp b).1) λa b c=>?_).symm;have : φ a=0:=Classical.byContradiction λq=>c (List.mem_filter.mpr ⟨b,@Yo _ (Classical.propDecidable _) q⟩)
  rw[this];grind
 funext t
 rw[z f d,z e h];refine zn2 (f.filter _) (e.filter _) (λa b=>?_) λa b c=>?_
 ·have q := @Jj _ (Classical.propDecidable _) (List.mem_filter.mp b).2;exact List.mem_filter.mpr ⟨h a q,(List.mem_filter.mp b).2⟩
 ·have q := @Jj _ (Classical.propDecidable _) (List.mem_filter.mp b).2;exact absurd (List.mem_filter.mpr ⟨d a q,(List.mem_filter.mp b).2⟩) c
def zxk{φ ψ : Po F}(h:mul S φ ψ t≠0):∃o∈S,φ o≠0/\sh o ψ t≠0:=Classical.byContradiction λz=>h (zc2 λo a=>by
 by_cases c : φ o=0
 ·rw[c];grind
 ·have:sh o ψ t=0:=Classical.byContradiction λq=>z ⟨o,a,c,q⟩
  rw[this];grind)
end
end G
namespace G
open L2 PySem K1 K2 K3 K6 K8 K37
section
variable{F:Type}[Ta F]{n:Int}
def zwh[Chr n F](h:¬zr n k):ic (F:=F) k≠0:=λz=>h ((Chr.z k).mp z)
def znh[Chr n F]:ic (F:=F) a=ic b↔zr n (a-b):=by
 rw[<- Chr.z (F:=F),zod];exact⟨λh=>by rw[h];grind,λh=>by grind⟩
def zjk[Chr n F](k:Int):ic (F:=F) (k%n)=ic k:=by
 rw[znh (n:=n)];by_cases c:n=0
 ·subst c;rw[zr_0];simp
 ·rw[zr_n c];have:=Int.mul_ediv_add_emod k n;have e:k%n-k=n*(-(k / n)):=by rw[Int.mul_neg];lia
  rw[e];simp
def Rep(n:Int)(H:Hp)(v:V)(x:F):Prop:=
 if n=0 then ∃r p q,v=.ref r/\H r=some (.tup [.int p,.int q])/\1<=q/\gI p q=1/\x*ic q=ic p
 else ∃a,v=.int a/\0<=a/\a<n/\x=ic a
def rep_0{x:F}:Rep 0 H v x↔∃(r:Lg) (p q:Int),v=.ref r/\H r=some (.tup [.int p,.int q])/\1<=q/\gI p q=1/\x*ic q=ic p:=by unfold Rep;rw[Yl rfl]
def zes(h:n≠0){H:Hp}{v:V}{x:F}:Rep n H v x↔∃a,v=.int a/\0<=a/\a<n/\x=ic a:=by unfold Rep;rw[Yh h]
def Rep.keep{x:F}(k:∀b xs,H b=some (.tup xs)->H' b=some (.tup xs))(h:Rep n H v x):Rep n H' v x:=by
 by_cases z:n=0
 ·subst z;obtain⟨r,p,q,e,a,w⟩:=rep_0.mp h;exact rep_0.mpr ⟨r,p,q,e,k _ _ a,w⟩
 ·exact(zes z).mpr ((zes z).mp h)
def Rep.same{x:F}(e:Same H H')(h:Rep n H v x):Rep n H' v x:=h.keep λ_ _=>e _ _
def RD(n:Int)(x:F)(d:PyData):Prop:=
 if n=0 then ∃p q,d=.tuple [.int p,.int q]/\1<=q/\gI p q=1/\x*ic q=ic p
 else ∃a,d=.int a/\0<=a/\a<n/\x=ic a
def rd_0{x:F}:RD 0 x d↔∃p q,d=.tuple [.int p,.int q]/\1<=q/\gI p q=1/\x*ic q=ic p:=by unfold RD;rw[Yl rfl]
def rd_n(h:n≠0){d:PyData}{x:F}:RD n x d↔∃a,d=.int a/\0<=a/\a<n/\x=ic a:=by unfold RD;rw[Yh h]
def Rep.rd{x:F}(h:Rep n H v x):∃d,Rds K H v d/\NmD d/\RD n x d:=by
 by_cases z:n=0
 ·subst z;obtain⟨r,p,q,rfl,b,w⟩:=rep_0.mp h;exact⟨_,zrg b,zq9 p q,rd_0.mpr ⟨p,q,Z,w⟩⟩
 ·obtain⟨a,rfl,w⟩:=(zes z).mp h;exact⟨_,.int a,ztq a,(rd_n z).mpr ⟨a,Z,w⟩⟩
def RD.eq[Chr n F]{x y:F}(h:RD n x d)(h':RD n y e):PyData.eqv d e=true↔x=y:=by
 by_cases z:n=0
 ·subst z;obtain⟨p,q,rfl,r,c,w⟩:=rd_0.mp h;obtain⟨l,f,rfl,o,B,i⟩:=rd_0.mp h';have m:PyData.eqv (.tuple [.int p,.int q]) (.tuple [.int l,.int f])=decide ([p,q]=[l,f]):=by rw[PyData.eqv];exact eqv_ints [p,q] [l,f]
  have nz:ic (F:=F) q≠0:=zwh (n:=0) (by rw[zr_0];lia);have nz':ic (F:=F) f≠0:=zwh (n:=0) (by rw[zr_0];lia);rw[m,decide_eq_true_iff];constructor
  ·intro g;simp at g;obtain⟨rfl,rfl⟩:=g;grind
  ·rintro rfl;have k:ic (F:=F) (p*f)=ic (l*q):=by rw[zec,zec,<- w,<- i];grind
   rw[znh (n:=0),zr_0]at k;obtain⟨s,A⟩:=zvo r o c B (by lia);rw[s,A]
 ·obtain⟨a,rfl,a0,a1,w⟩:=(rd_n z).mp h;obtain⟨b,rfl,b0,b1,i⟩:=(rd_n z).mp h';have m:PyData.eqv (.int a) (.int b)=decide (a=b):=by simp[PyData.eqv,Bool.beq_eq_decide_eq]
  rw[m,decide_eq_true_iff];constructor
  ·rintro rfl;rw[w,i]
  ·rintro rfl;have k:ic (F:=F) a=ic b:=by rw[<- w,<- i]
   rw[znh (n:=n),zr_n z]at k;obtain⟨j,hj⟩:=Int.dvd_of_emod_eq_zero k;have:j=0:=by
    rcases(by lia:j=0\/1<=j\/j<=-1) with q | q | q
    ·exact q
    ·have:=Y3 q (show 0<=n by lia);lia
    ·have:=Y3 q (show 0<=n by lia);lia
   subst this;lia
def un(k:List Key):Lc:=k.map λx=>match x with | .inl i=>i | .inr _=>0
theorem zpx:∀xs,un (ky xs)=xs
 | []=>rfl
 | x::xs=>by show x::un (ky xs)=_;rw[zpx xs]
def tms(cr:Ka):Lb:=cr.map λp=>un p.1
structure PF(n:Int)(m:Nat)(H:Hp)(cr:Ka)(φ:Po F):Prop where
 ks:∀p∈cr,∃t,p.1=ky t/\T0 m t
 nd:(cr.map (·.1)).Nodup
 out:∀t,valV cr (ky t)=none->φ t=0
 val:∀t v,valV cr (ky t)=some v->Rep n H v (φ t)/\φ t≠0
def setP(φ:Po F)(k:Lc)(x:F):Po F:=λt=>if t=k then x else φ t
def zey{x:F}:setP φ k x k=x:=Yl rfl
def zck{x:F}(h:t≠k):setP φ k x t = φ t:=Yh h
variable{m:Nat}{H H':Hp}{cr:Ka}{φ ψ : Po F}
def PF.keep(k:∀b xs,H b=some (.tup xs)->H' b=some (.tup xs))(h:PF n m H cr φ):PF n m H' cr φ:=⟨h.ks,h.nd,h.out,λt v e=>⟨(h.val t v e).1.keep k,(h.val t v e).2⟩⟩
def PF.same(e:Same H H')(h:PF n m H cr φ):PF n m H' cr φ:=h.keep λ_ _=>e _ _
def PF.congr(h:PF n m H cr φ)(e:∀t,φ t = ψ t):PF n m H cr ψ:=by rw[<- show φ = ψ from funext e];exact h
def PF.nil:PF n m H [] (λ_=>(0:F)):=⟨(λp a=>by cases a),List.nodup_nil,λ_ _=>Z,λt v e=>by simp[valV]at e⟩
def PF.mem(h:PF n m H cr φ){t:Lc} : φ t≠0↔ky t∈cr.map (·.1):=by
 rw[<- mem_of_valV]
 cases q:valV cr (ky t) with
 | none=>simp;exact h.out t q
 | some v=>simp;exact(h.val t v q).2
def PF.get(h:PF n m H cr φ){t:Lc}(a : φ t≠0):∃v,valV cr (ky t)=some v/\Rep n H v (φ t):=by
 cases q:valV cr (ky t) with
 | none=>exact absurd (h.out t q) a
 | some v=>exact⟨v,rfl,(h.val t v q).1⟩
def PF.keys(h:PF n m H cr φ):cr.map (·.1)=(tms cr).map ky:=by
 unfold tms;rw[Jh];refine List.map_congr_left λp a=>?_
 obtain⟨t,e,_⟩:=h.ks p a;show p.1=ky (un p.1);rw[e,zpx]
def PF.tmem(h:PF n m H cr φ){t:Lc}:t∈tms cr↔φ t≠0:=by
 rw[h.mem,h.keys,Ji];constructor
 ·intro a;exact⟨t,a,Z⟩
 ·rintro⟨u,b,e⟩;rw[<- zdo e];exact b
def PF.tnd(h:PF n m H cr φ):(tms cr).Nodup:=zgv (f:=ky) (by rw[<- h.keys];exact h.nd)
def PF.sp(h:PF n m H cr φ):Spt m φ:=λt b=>by
 obtain⟨p,c,e⟩:=Ji.mp (h.mem.mp b);obtain⟨u,a,t0⟩:=h.ks p c;rw[<- zdo (a.symm.trans e)];exact t0
def PF.ix(h:PF n m H cr φ){i:Nat}{k:List Key}{v:V}(a:cr[i]? = some (k,v)):∃t,k=ky t/\T0 m t/\(tms cr)[i]? = some t/\Rep n H v (φ t)/\φ t≠0:=by
 obtain⟨t,e,t0⟩:=h.ks _ (Yx a);have e:k=ky t:=e;have hv:=zis h.nd a;rw[e]at hv;refine⟨t,e,t0,?_,h.val t v hv⟩;unfold tms;rw[Ym,a];show some (un k)=_;rw[e,zpx]
def PF.put(h:PF n m H cr φ){k:Lc}{v:V}{x:F}(d:T0 m k)(hv:Rep n H v x)(f:x≠0):PF n m H (putK cr (ky k) v) (setP φ k x):=by
 have b:∀t,valV (putK cr (ky k) v) (ky t)=if t=k then some v else valV cr (ky t):=λt=>by
  rw[zl8];by_cases c:t=k
  ·rw[Yl c,Yl (by rw[c])]
  ·rw[Yh c,Yh λz=>c (zdo z)]
 refine⟨λp j=>?_,zs8 h.nd,λt e=>?_,λt w e=>?_⟩
 ·have:p.1∈(putK cr (ky k) v).map (·.1):=Ji.mpr ⟨p,j,Z⟩;rw[zif]at this;have:p.1∈cr.map (·.1)\/p.1=ky k:=by
   split at this
   ·exact .inl this
   ·rcases Ju.mp this with q | q
    ·exact .inl q
    ·exact .inr (Yq.mp q)
  rcases this with q | q
  ·obtain⟨l,a,e⟩:=Ji.mp q;obtain⟨t,i,t0⟩:=h.ks l a;exact⟨t,by rw[<- e,i],t0⟩
  ·exact⟨k,q,d⟩
 ·rw[b]at e;by_cases c:t=k
  ·rw[Yl c]at e;cases e
  ·rw[Yh c]at e;rw[zck c];exact h.out t e
 ·rw[b]at e;by_cases c:t=k
  ·rw[Yl c]at e;cases e;rw[c,zey];exact⟨hv,f⟩
  ·rw[Yh c]at e;rw[zck c];exact h.val t w e
def PF.drop(h:PF n m H cr φ)(k:Lc):PF n m H (zfg cr (ky k)) (setP φ k 0):=by
 have a:∀t,valV (zfg cr (ky k)) (ky t)=if t=k then none else valV cr (ky t):=λt=>by
  rw[zpm];by_cases c:t=k
  ·rw[Yl c,Yl (by rw[c])]
  ·rw[Yh c,Yh λz=>c (zdo z)]
 refine⟨λp b=>h.ks p (List.mem_filter.mp b).1,(List.Sublist.map _ List.filter_sublist).nodup h.nd,λt e=>?_,λt w e=>?_⟩
 ·by_cases c:t=k
  ·rw[c,zey]
  ·rw[a,Yh c]at e;rw[zck c];exact h.out t e
 ·rw[a]at e;by_cases c:t=k
  ·rw[Yl c]at e;cases e
  ·rw[Yh c]at e;rw[zck c];exact h.val t w e
def PF.empty(h:PF n m H cr φ):cr=[]↔∀t,φ t=0:=by
 constructor
 ·rintro rfl t;exact h.out t rfl
 ·intro z
  cases cr with
  | nil=>rfl
  | cons p l=>
   obtain⟨t,e,_⟩:=h.ks p (by simp);have : φ t≠0:=h.mem.mpr (by rw[<- e];simp);exact absurd (z t) this
theorem zso:∀{cr} {φ:Po F},(∀p∈cr,∃t,p.1=ky t/\Rep n H p.2 (φ t))->∃b,KDs K H cr b/\Flats b/\cr.map (·.1)=b.map (·.1)/\∀p∈b,∃t,p.1=ky t/\RD n (φ t) p.2
 | [],_,_=>⟨[],.nil,(λ_ z=>by cases z),rfl,(λ_ z=>by cases z)⟩
 | p::l,φ,h=>by
  obtain⟨t,s,e⟩:=h p (.head _);obtain⟨b,f,j,o,i⟩:=zso (K:=K) (cr:=l) (φ:=φ) λq a=>h q (.tail _ a)
  obtain⟨d,r,c,rd⟩:=e.rd (K:=K);refine⟨(p.1,d)::b,.cons ⟨Z,r⟩ f,λq a=>?_,by rw[Yz,Yz,o],λq a=>?_⟩
  ·rcases Yj.mp a with rfl | a
   ·exact⟨c.lay,c.dep⟩
   ·exact j q a
  ·rcases Yj.mp a with rfl | a
   ·exact⟨t,s,rd⟩
   ·exact i q a
def PF.kds(h:PF n m H cr φ):∃da,KDs K H cr da/\Flats da/\cr.map (·.1)=da.map (·.1)/\∀p∈da,∃t,p.1=ky t/\RD n (φ t) p.2:=zso λp b=>by
 obtain⟨i,hi,e⟩:=List.mem_iff_getElem.mp b;obtain⟨t,a,_,_,r,_⟩:=h.ix (i:=i) (k:=p.1) (v:=p.2) (by rw[Yc hi,e]);exact⟨t,a,r⟩
def zhk(h:zdt db k=some d):(k,d)∈db:=by
 unfold zdt at h;obtain⟨p,a,e⟩:=Option.map_eq_some_iff.mp h;have b:=List.find?_some a;have c:=List.mem_of_find?_eq_some a;have:p.1=k:=Jj b;rw[<- this,<- e];exact c
def zk4(h:k∈db.map (·.1)):∃d,zdt db k=some d:=by
 unfold zdt;obtain⟨p,a,e⟩:=Ji.mp h;have:(db.find? λq=>decide (q.1=k)).isSome=true:=List.find?_isSome.mpr ⟨p,a,Yo e⟩;obtain⟨q,b⟩:=Option.isSome_iff_exists.mp this;exact⟨q.2,by rw[b];rfl⟩
def PF.eq[Chr n F](h:PF n m H cr φ)(h':PF n m H' kvs' ψ)
  (w:cr.map (·.1)=da.map (·.1)) (y:kvs'.map (·.1)=db.map (·.1)) (C:∀p∈da,∃t,p.1=ky t/\RD n (φ t) p.2) (rb:∀p∈db,∃t,p.1=ky t/\RD n (ψ t) p.2):eqKD da db=true↔∀t,φ t = ψ t:=by
 have la:cr.length=da.length:=by have:=Jw List.length w;simpa using this
 have lb:kvs'.length=db.length:=by have:=Jw List.length y;simpa using this
 have x:∀t,φ t≠0->ky t∈da.map (·.1):=λt b=>by rw[<- w];exact h.mem.mp b
 have i:∀t,ψ t≠0->ky t∈db.map (·.1):=λt b=>by rw[<- y];exact h'.mem.mp b
 unfold eqKD;rw[Jy,beq_iff_eq,List.all_eq_true];constructor
 ·rintro⟨hl,E⟩ t;have step:∀t,φ t≠0->φ t = ψ t:=λt b=>by
   obtain⟨p,f,e⟩:=Ji.mp (x t b);obtain⟨u,l,r⟩:=C p f;have q:=E p f;have:u=t:=zdo (l.symm.trans e);subst this;split at q
   ·rename_i d hd
    obtain⟨I,o,s⟩:=rb _ (zhk hd);have:I=u:=zdo (o.symm.trans l);subst this;exact(RD.eq r s).mp q
   ·cases q
  by_cases c : φ t=0
  ·rw[c];refine Classical.byContradiction λz=>?_
   have hz : ψ t≠0:=λq=>z q.symm
   have sub:∀k∈tms cr,k∈(tms kvs').erase t:=λk a=>by
    have j:=h.tmem.mp a;have e:=step k j;rw[List.Nodup.mem_erase_iff h'.tnd];refine⟨λq=>j (by rw[q];exact c),h'.tmem.mpr (by rw[<- e];exact j)⟩
   have D:=zb1 h.tnd sub;rw[List.length_erase_of_mem (h'.tmem.mpr hz)]at D;have K:(tms cr).length=cr.length:=Yd _;have G:(tms kvs').length=kvs'.length:=Yd _;have J:0<(tms kvs').length:=List.length_pos_of_mem (h'.tmem.mpr hz);lia
  ·exact step t c
 ·intro e;have A:∀t,t∈tms cr↔t∈tms kvs':=λt=>by rw[h.tmem,h'.tmem,e]
  have D:=zb1 h.tnd λk a=>(A k).mp a
  have K:=zb1 h'.tnd λk a=>(A k).mpr a
  have G:(tms cr).length=cr.length:=Yd _;have J:(tms kvs').length=kvs'.length:=Yd _;refine⟨by lia,λp f=>?_⟩;obtain⟨t,B,r⟩:=C p f;have j : φ t≠0:=h.mem.mpr (by rw[w,<- B];exact Ji.mpr ⟨p,f,Z⟩);obtain⟨d,hd⟩:=zk4 (i t (by rw[<- e];exact j));rw[B,hd];obtain⟨u,l,s⟩:=rb _ (zhk hd);have:t=u:=zdo l;subst this;exact(RD.eq r s).mpr (e t)
end
end G
namespace G
open L2 PySem K1 K2 K3 K6 K8 K37
section
variable{F:Type}[Ta F]{n:Int}
def Lim(n:Int)(k:Nat)(x:F):Prop:=n=0->∃T B,B≠0/\x*ic B=ic T/\T.natAbs<2^k/\B.natAbs<2^k
def Lim.of_ne(h:n≠0){k:Nat}{x:F}:Lim n k x:=λz=>absurd z h
end
end G
namespace G
open L2 PySem K1 K2 K3 K6 K8 K37
section
variable{F:Type}[Ta F]{n:Int}{rk:Lc->Lc}{m k:Nat}
structure LdsOk(rk:Lc->Lc)(m k:Nat)(gs:Nat->Po F)(lds:List (Nat×Lc)):Prop where
 sp:∀i,Spt m (gs i)
 inc:lds.Pairwise λa b=>a.1<b.1
 ld:∀i l,(i,l)∈lds->i<k/\Ld rk (gs i) l
 all:∀i t,i<k->gs i t≠0->∃l,(i,l)∈lds
def LdsOk.t0{a:Nat->Po F}(L:LdsOk rk m k a lds){i:Nat}{l:Lc}(h:(i,l)∈lds):T0 m l:=L.sp i l (L.ld i l h).2.1
structure FitL(lds:List (Nat×Lc))(t:Lc)(i:Nat)(l:Lc):Prop where
 mem:(i,l)∈lds
 goes:zb0 l t=true
 first:∀p∈lds,p.1<i->zb0 p.2 t=false
variable{φ:Po F}{gs:Nat->Po F}{lds:List (Nat×Lc)}{U us Dn:Lb}{q:Nat->Po F}{S:Nat->Lb}{ρ lf:Po F}
def zg7(h:(us++[t]).Pairwise (lt rk)):us.Pairwise (lt rk)/\∀u∈us,lt rk u t:=by
 rw[List.pairwise_append]at h;exact⟨h.1,λu a=>h.2.2 u a t (by simp)⟩
def mem_sn{α:Type}{t u : α}{us:List α}:u∈us++[t]↔u∈us\/u=t:=by simp
end
end G
namespace G
open L2 PySem K1 K2 K3 K6 K8 K37
def Kp(A:Le)(H H':Hp):Prop:=∀b o,H b=some o->b ∉ A->H' b=some o
def Kp.of(e:Same H H'):Kp A H H':=λb o h _=>e b o h
def Kp.tr(h:Kp A H H1)(h':Kp A H1 H2):Kp A H H2:=λb o q a=>h' b o (h b o q a) a
def Kp.upd{A:Le}{H:Hp}{a:Lg}{o:HO}(h:a∈A):Kp A H (upd H a o):=λb u q c=>(zaf (λe=>c (by rw[e];exact h))).trans q
def Kp.sub(h:Kp A H H')(s:∀a∈A,a∈B):Kp B H H':=λb o q c=>h b o q λz=>c (s b z)
def Kp.refl(A:Le)(H:Hp):Kp A H H:=λ_ _ h _=>h
def Fix(H H':Hp):Prop:=∀b o,H b=some o->(∀kv,o≠.dT kv)->(∀ys,o≠.lst ys)->(∀q u,o≠.frz q u)->H' b=some o
def Fix.of(e:Same H H'):Fix H H':=λb o h _ _ _=>e b o h
def Fix.tr(h:Fix H H1)(h':Fix H1 H2):Fix H H2:=λb o q a c d=>h' b o (h b o q a c d) a c d
def Fix.tup(h:Fix H H'):∀b xs,H b=some (.tup xs)->H' b=some (.tup xs):=λb xs q=>h b _ q (λ_ z=>by cases z) (λ_ z=>by cases z) (λ_ _ z=>by cases z)
def Fix.ins(h:Fix H H'){b C a:Lg}{fs:List (Lp×V)}(q:H b=some (.ins C a fs)):H' b=some (.ins C a fs):=h b _ q (λ_ z=>by cases z) (λ_ z=>by cases z) (λ_ _ z=>by cases z)
def Kp.fix(h:Kp A H H')(f:∀a∈A,∀o,H a=some o->(∃kv,o=.dT kv)\/(∃ys,o=.lst ys)\/∃q u,o=.frz q u):Fix H H':=λb o q a c d=>h b o q λz=>by
 rcases f b z o q with⟨_,e⟩ | ⟨_,e⟩ | ⟨_,_,e⟩
 ·exact a _ e
 ·exact c _ e
 ·exact d _ _ e
def zbd(hd:H d=some (.dT kv)):Fix H (upd H d o):=λb u q a _ _=>(zaf λe=>by subst e;rw[hd]at q;injection q with q;exact a _ q.symm).trans q
def zdl(hd:H d=some (.lst ys)):Fix H (upd H d o):=λb u q _ a _=>(zaf λe=>by subst e;rw[hd]at q;injection q with q;exact a _ q.symm).trans q
def zcz{u:HO}(hd:H d=some q)(f:(∃kv,q=.dT kv)\/(∃ys,q=.lst ys)\/∃x y,q=.frz x y):Fix H (upd H d o):=λb u h a c e=>(zaf λz=>by
 subst z;rw[hd]at h;injection h with h;subst h
 rcases f with⟨_,r⟩ | ⟨_,r⟩ | ⟨_,_,r⟩
 ·exact a _ r
 ·exact c _ r
 ·exact e _ _ r).trans h
section
variable{F:Type}[Ta F]{n:Int}{m:Nat}{H H':Hp}
def Rep.fix{x:F}(e:Fix H H')(h:Rep n H v x):Rep n H' v x:=h.keep e.tup
def PF.fix{φ:Po F}(e:Fix H H')(h:PF n m H cr φ):PF n m H' cr φ:=h.keep e.tup
def zp5[Chr n F]{x y:F}(b:Rep n H v x)(h:Rep n H u y):∃d e,Rds K H v d/\Rds K H u e/\SeqAt.shaped d=true/\SeqAt.shaped e=true/\((x=y/\PyData.eqv d e=true)\/(x≠y/\PyData.eqv d e=false)):=by
 obtain⟨d,rd,c,r⟩:=b.rd (K:=K);obtain⟨e,f,i,a⟩:=h.rd (K:=K);refine⟨d,e,rd,f,c.shaped,i.shaped,?_⟩
 cases q:PyData.eqv d e with
 | true=>exact .inl ⟨(RD.eq r a).mp q,rfl⟩
 | false=>exact .inr ⟨(λz=>by rw[(RD.eq r a).mpr z]at q;cases q),rfl⟩
def cutP(ψ:Po F)(S:Lb):Po F:=λt=>if t∈S then ψ t else 0
def zex{ψ:Po F}:cutP ψ []=λ_=>0:=funext λt=>by unfold cutP;rw[Yh (by simp)]
def ze1{ψ:Po F}(h:∀t,ψ t≠0->t∈S):cutP ψ S = ψ:=funext λt=>by
 unfold cutP;by_cases c:t∈S
 ·rw[Yl c]
 ·rw[Yh c];exact(Classical.byContradiction λz=>c (h t λq=>z q.symm))
def zk6{ψ:Po F}(h:t∈S):cutP ψ S t = ψ t:=Yl h
def ziq{ψ:Po F}(h:t ∉ S):cutP ψ S t=0:=Yh h
def zgd{ψ:Po F}(h:t≠u):cutP ψ (S++[u]) t=cutP ψ S t:=by
 unfold cutP;by_cases c:t∈S
 ·rw[Yl c,Yl (by simp[c])]
 ·rw[Yh c,Yh (by simp[c,h])]
def zlg{φ ψ : Po F}:setP (λt=>φ t+cutP ψ S t) u (φ u + ψ u)=λt=>φ t+cutP ψ (S++[u]) t:=funext λt=>by
 by_cases c:t=u
 ·subst c;rw[zey,zk6 (by simp)]
 ·rw[zck c,zgd c]
def zhc{x:F}(a:u.length=l.length):setP (λt=>x*sh l (cutP ψ S) t) (addT l u) (x * ψ u)=λt=>x*sh l (cutP ψ (S++[u])) t:=funext λt=>by
 by_cases c:t=addT l u
 ·subst c;rw[zey,zmr a,zk6 (by simp)]
 ·rw[zck c];by_cases d:t.length=l.length
  ·rw[zjv d,zjv d,zgd λe=>c (by rw[<- e];exact(zhd d).symm)]
  ·unfold sh;rw[Yh d,Yh d]
def zm4{a:Lb}(h:a.Nodup)(hi:a[i]? = some t):t ∉ a.take i:=zuo h hi
def zb3(cr:Ka):(tms cr).length=cr.length:=Yd _
end
end G
namespace K20
open PySem L2 K37
open HT (lexLt)
def mx(i j:Int):Int:=if j > i then j else i
def mn(i j:Int):Int:=if j<i then j else i
def za3(a b:Lc):Lc:=List.zipWith mx a b
def zuk(i j:Int):mx i j=mx j i:=by unfold mx;split <;> split <;> lia
theorem zkd:∀a b,za3 a b=za3 b a
 | [],[]=>rfl
 | [],_::_=>rfl
 | _::_,[]=>rfl
 | x::a,y::b=>by
  show mx x y::za3 a b=mx y x::za3 b a;rw[zuk,zkd a b]
def zh6(h:a.length=b.length):(za3 a b).length=a.length:=by
 unfold za3;rw[List.length_zipWith,<- h,Nat.min_self]
def zl6{P:Int->Prop}:(∀x∈a,P x)->(∀x∈b,P x)->∀x∈za3 a b,P x:=by
 induction a generalizing b with
 | nil=>intro _ _ x c;simp[za3]at c
 | cons u a ih=>
  intro e f x c
  cases b with
  | nil=>simp[za3]at c
  | cons v b=>
   have c:x=mx u v\/x∈za3 a b:=by simpa[za3]using c
   rcases c with rfl | c
   ·unfold mx;split
    ·exact f v (.head _)
    ·exact e u (.head _)
   ·exact ih (λy d=>e y (.tail _ d)) (λy d=>f y (.tail _ d)) x c
def zd0(c:T0 m a)(d:T0 m b):T0 m (za3 a b):=T0.of (by rw[zh6 (by rw[c.len,d.len]),c.len]) (zl6 c.mem d.mem)
def zhn(a b:Lc):Bool:=(List.range a.length).all λi=>decide (a.getD i 0=0)||decide (b.getD i 0=0)
def tk(rk:Lc->Lc)(h:Nat->Lc)(i j:Nat):Lc:=rk (za3 (h i) (h j))++[(i:Int),(j:Int)]
def lets(rk:Lc->Lc)(h:Nat->Lc)(i j k:Nat):Bool:=decide (k≠i)&&decide (k≠j)&&zb0 (h k) (za3 (h i) (h j))&&lexLt (tk rk h (min i k) (max i k)) (tk rk h i j)&&lexLt (tk rk h (min j k) (max j k)) (tk rk h i j)
def due(rk:Lc->Lc)(h:Nat->Lc)(ks:List Nat)(i j:Nat):Bool := !zhn (h i) (h j) && !(ks.any λk=>lets rk h i j k)
def hd(hs:List (Option Lc))(i:Nat):Lc:=(hs.getD i none).getD []
def pl(hs:List (Option Lc)):List Nat:=(List.range hs.length).filter λi=>(hs.getD i none).isSome
def pl_mem:i∈pl hs↔(hs.getD i none).isSome=true:=by
 unfold pl;rw[List.mem_filter,List.mem_range];refine⟨λh=>h.2,λh=>⟨?_,h⟩⟩;rcases Jg i hs.length with c | c
 ·exact c
 ·rw[show hs.getD i none=none by simp[List.getD,List.getElem?_eq_none c]]at h;cases h
def zx0(a:List (Option Lc)):(pl a).Nodup:=List.nodup_range.filter _
def ztf(a:List (Option Lc)):(pl a).length<=a.length:=Yr (List.length_filter_le _ _) (by simp)
def zc1{o:Option Lc}:(hs++[o]).getD i none=if i=hs.length then o else hs.getD i none:=by
 rcases Nat.lt_trichotomy i hs.length with c | c | c
 ·rw[Yh (by lia)];simp[List.getD,List.getElem?_append_left c]
 ·subst c;rw[Yl rfl];simp[List.getD]
 ·rw[Yh (by lia)];have:(hs++[o])[i]? = none:=Yy (by simp;lia);simp[List.getD,this,List.getElem?_eq_none (Nat.le_of_lt c)]
def znl{o:Option Lc}:pl (hs++[o])=pl hs++(if o.isSome then [hs.length] else []):=by
 unfold pl;rw[Y5,List.length_singleton,List.range_succ,List.filter_append];congr 1
 ·refine List.filter_congr λi hi=>?_
  rw[zc1,Yh (by rw[List.mem_range]at hi;lia)]
 ·rw[List.filter_cons,List.filter_nil,zc1,Yl rfl]
def pr2(i j:Nat):Lc:=[(i:Int),(j:Int)]
def zkh(h:pr2 i j=pr2 a b):i=a/\j=b:=by
 unfold pr2 at h;injection h with h1 h2
 injection h2 with h2 _
 lia
def dueP(rk:Lc->Lc)(h:Nat->Lc)(ks:List Nat)(p:Lc):Bool:=due rk h ks (p.getD 0 0).toNat (p.getD 1 0).toNat
def zkk:dueP rk h ks (pr2 i j)=due rk h ks i j:=by
 unfold dueP pr2;simp
def zs1(i j:Nat):mn (i:Int) (j:Int)=((min i j:Nat):Int):=by unfold mn;split <;> lia
def zs4(i j:Nat):mx (i:Int) (j:Int)=((max i j:Nat):Int):=by unfold mx;split <;> lia
end K20
namespace K20
open PySem L2 K37 G
def zi1(e:T0 m a)(d:T0 m b)(i:Nat):(za3 a b).getD i 0=mx (a.getD i 0) (b.getD i 0):=by
 have:=e.len;have:=d.len;rcases Jg i m with c | c
 ·simp[za3,List.getD,List.getElem?_zipWith,show i<a.length by lia,show i<b.length by lia]
 ·simp[za3,List.getD,List.getElem?_zipWith,List.getElem?_eq_none (show a.length<=i by lia),List.getElem?_eq_none (show b.length<=i by lia),mx]
def zpz(c:T0 m a)(d:T0 m b)(f:zb0 a T=true)(e:zb0 b T=true):zb0 (za3 a b) T=true:=goesI_iff.mpr λi hi=>by
 rw[zh6 (by rw[c.len,d.len]),c.len]at hi;have h1:=goesI_iff.mp f i (by rw[c.len];exact hi);have h2:=goesI_iff.mp e i (by rw[d.len];exact hi);rw[zi1 c d];unfold mx;split <;> lia
def zgo(d:T0 m a)(c:T0 m b):zb0 a (za3 a b)=true/\zb0 b (za3 a b)=true:=by
 constructor <;> exact goesI_iff.mpr λi _=>by rw[zi1 d c];unfold mx;split <;> lia
end K20
namespace G
open L2 PySem K1 K2 K3 K6 K8 K37 K20
section
variable{F:Type}[Ta F]{rk:Lc->Lc}{m:Nat}{ks:List Nat}{gs:Nat->Po F}{h:Nat->Lc}
structure BRow(rk:Lc->Lc)(m:Nat)(ks:List Nat)(gs:Nat->Po F)(h:Nat->Lc):Prop where
 om:OrdM rk m
 sp:∀i∈ks,Spt m (gs i)
 ld:∀i∈ks,Ld rk (gs i) (h i)
 fin:∀i∈ks,∃S:Lb,S.Nodup/\(∀t∈S,T0 m t)/\∀t,gs i t≠0->t∈S
def BRow.t0(R:BRow rk m ks gs h){i:Nat}(hi:i∈ks):T0 m (h i):=R.sp i hi _ (R.ld i hi).1
def cmb(gs:Nat->Po F)(l:List (F×Nat×Lc)):Po F:=λt=>sm (λx=>x.1*sh x.2.2 (gs x.2.1) t) l
def Cb(m:Nat)(ks:List Nat)(gs:Nat->Po F)(h:Nat->Lc)(B:Lc->Prop)(φ:Po F):Prop:=∃l,(∀x∈l,x.2.1∈ks/\T0 m x.2.2/\B (addT x.2.2 (h x.2.1)))/\∀t,φ t=cmb gs l t
variable{B B':Lc->Prop}{φ ψ : Po F}
def Cb.zero:Cb m ks gs h B (λ_:Lc=>(0:F)):=⟨[],(λ_ a=>nomatch a),λ_=>Z⟩
def Cb.congr(c:Cb m ks gs h B φ)(e:∀t,ψ t = φ t):Cb m ks gs h B ψ:=by
 obtain⟨l,a,b⟩:=c;exact⟨l,a,λt=>(e t).trans (b t)⟩
def Cb.one(hi:i∈ks)(c:T0 m u)(b:B (addT u (h i))):Cb m ks gs h B (sh u (gs i)):=⟨[(1,i,u)],λx a=>by rw[Yq.mp a];exact⟨hi,c,b⟩,λt=>by
 show _=1*sh u (gs i) t+0;grind⟩
def Cb.add(c:Cb m ks gs h B φ)(d:Cb m ks gs h B ψ):Cb m ks gs h B (λt=>φ t + ψ t):=by
 obtain⟨l,a,b⟩:=c;obtain⟨l',i,e⟩:=d;refine⟨l++l',λx f=>(Ju.mp f).elim (a x) (i x),λt=>?_⟩;show φ t + ψ t=_;unfold cmb at b e ⊢;rw[zqb,b,e]
def Cb.smul(k:F)(c:Cb m ks gs h B φ):Cb m ks gs h B (λt=>k * φ t):=by
 obtain⟨l,a,b⟩:=c;refine⟨l.map λx=>(k*x.1,x.2),λx d=>?_,λt=>?_⟩
 ·obtain⟨y,e,rfl⟩:=Ji.mp d;exact a y e
 ·show k * φ t=_;unfold cmb at b ⊢;rw[znt,b,<- zlh];exact zcw λx _=>by grind
def Cb.sub(c:Cb m ks gs h B φ)(d:Cb m ks gs h B ψ):Cb m ks gs h B (λt=>φ t - ψ t):=(c.add (d.smul (-1))).congr λt=>by grind
def ztk(f : α->Po F)(l:List α)(t:Lc):sh w (λt=>sm (λa=>f a t) l) t=sm (λa=>sh w (f a) t) l:=by
 by_cases c:t.length=w.length
 ·rw[zjv c];exact zcw λa _=>(zjv c).symm
 ·unfold sh;rw[Yh c];exact(zc2 λa _=>Yh c).symm
def zql(k:F)(φ:Po F)(t:Lc):sh w (λt=>k * φ t) t=k*sh w φ t:=by
 unfold sh;split
 ·rfl
 ·grind
def Cb.sh{w:Lc}(R:BRow rk m ks gs h)(hw:T0 m w)(c:Cb m ks gs h B φ)(e:∀T,T0 m T->B T->B' (addT w T)):Cb m ks gs h B' (sh w φ):=by
 obtain⟨l,a,b⟩:=c;refine⟨l.map λx=>(x.1,x.2.1,addT w x.2.2),λx f=>?_,λt=>?_⟩
 ·obtain⟨y,n,rfl⟩:=Ji.mp f;obtain⟨j,d,o⟩:=a y n;refine⟨j,T0.add hw d,?_⟩;show B' (addT (addT w y.2.2) (h y.2.1));have i:=R.t0 j;rw[zkp (by rw[hw.len,d.len]) (by rw[d.len,i.len])];exact e _ (T0.add d i) o
 ·rw[show φ = cmb gs l from funext b];unfold cmb;rw[znt,ztk (fun(x:F×Nat×Lc)=>λt=>x.1*G.sh x.2.2 (gs x.2.1) t)];refine zcw λx f=>?_
  rw[zql,zr3 (by rw[hw.len,(a x f).2.1.len])]
def zpd(c:T0 m u)(b:T0 m a):zb0 a (addT u a)=true:=by rw[zdz (by rw[c.len,b.len])];exact zf1 c b
def back(c:T0 m T)(b:T0 m a)(g:zb0 a T=true):addT (subT T a) a=T:=by
 have:=T0.sub c b g;rw[zdz (by rw[this.len,b.len])];exact zhd (by rw[c.len,b.len])
def zio(c:T0 m u)(hv:T0 m v)(b:T0 m a)(e:addT u a=addT v a):u=v:=by
 rw[zdz (a:=u) (by rw[c.len,b.len]),zdz (a:=v) (by rw[hv.len,b.len])]at e;exact zfb (by rw[c.len,hv.len]) (by rw[c.len,b.len]) e
def Good(rk:Lc->Lc)(m:Nat)(ks:List Nat)(gs:Nat->Po F)(h:Nat->Lc)(i j:Nat):Prop:=∀u v,T0 m u->T0 m v->addT u (h i)=addT v (h j)->Cb m ks gs h (λT=>lt rk T (addT u (h i))) (λt=>gs j (h j)*sh u (gs i) t-gs i (h i)*sh v (gs j) t)
def Good.symm(g:Good rk m ks gs h i j):Good rk m ks gs h j i:=λu v a hv e=>by
 have:=(g v u hv a e.symm).smul (-1);rw[<- e]at this;exact this.congr λt=>by grind
def Good.refl(R:BRow rk m ks gs h){i:Nat}(hi:i∈ks):Good rk m ks gs h i i:=λu v a hv e=>by
 have:u=v:=zio a hv (R.t0 hi) e;subst this;exact Cb.zero.congr λt=>by grind
def Good.chain(R:BRow rk m ks gs h){i j k:Nat}(hi:i∈ks)(s:j∈ks)(f:k∈ks)(w:Good rk m ks gs h i k)(q:Good rk m ks gs h j k)(d:zb0 (h k) (za3 (h i) (h j))=true):Good rk m ks gs h i j:=λu v c hv e=>by
 have a:=R.t0 hi;have b:=R.t0 s;have tk:=R.t0 f;have o:=T0.add c a;have r:zb0 (h k) (addT u (h i))=true:=zvp tk.len (zd0 a b).len d (zpz a b (by rw[zdz (by rw[c.len,a.len])];exact zf1 c a) (by rw[e,zdz (by rw[hv.len,b.len])];exact zf1 hv b));have hw:=T0.sub o tk r;have n:addT (subT (addT u (h i)) (h k)) (h k)=addT u (h i):=by rw[zdz (by rw[hw.len,tk.len])];exact zhd (by rw[o.len,tk.len])
 have p:=(w u _ c hw n.symm).smul (gs j (h j) / gs k (h k));have l:=(q v _ hv hw (by rw[n];exact e.symm)).smul (gs i (h i) / gs k (h k));rw[<- e]at l;have nz:=(R.ld k f).1;refine(p.sub l).congr λt=>?_
 grind
def zx7(a b:F)(φ ψ : Po F)(t:Lc):sh w (λt=>a * φ t-b * ψ t) t=a*sh w φ t-b*sh w ψ t:=by
 unfold sh;split
 ·rfl
 ·grind
def Good.ofS(R:BRow rk m ks gs h){i j:Nat}(hi:i∈ks)(A:j∈ks)(c:Cb m ks gs h (λT=>lt rk T (za3 (h i) (h j))) (λt=>gs j (h j)*sh (subT (za3 (h i) (h j)) (h i)) (gs i) t-gs i (h i)*sh (subT (za3 (h i) (h j)) (h j)) (gs j) t)):Good rk m ks gs h i j:=λu v p hv e=>by
 have a:=R.t0 hi;have b:=R.t0 A;have d:=zd0 a b;obtain⟨gi,r⟩:=zgo a b;have x:=T0.add p a;have y:=zpz a b (zpd p a) (by rw[e];exact zpd hv b);have hw:=T0.sub x d y;have o:=back x d y;generalize subT (addT u (h i)) (za3 (h i) (h j))=w at hw o;have f:=T0.sub d a gi;have n:=T0.sub d b r;have q:=back d a gi;have s:=back d b r;generalize subT (za3 (h i) (h j)) (h i)=u0 at f q c;generalize subT (za3 (h i) (h j)) (h j)=v0 at n s c;have C:addT w u0=u:=zio (T0.add hw f) p a (by rw[zkp (by rw[hw.len,f.len]) (by rw[f.len,a.len]),q,o]);have D:addT w v0=v:=zio (T0.add hw n) hv b (by rw[zkp (by rw[hw.len,n.len]) (by rw[n.len,b.len]),s,o,e]);refine(c.sh (B':=λT=>lt rk T (addT u (h i))) R hw λT z l=>?_).congr λt=>?_
 ·rw[<- o];exact(zkg R.om z.len d.len hw.len).mpr l
 ·rw[zx7,zr3 (by rw[hw.len,f.len]),zr3 (by rw[hw.len,n.len]),C,D]
def zic(R:BRow rk m ks gs h){i:Nat}{u:Lc}(hi:i∈ks)(a:T0 m u):sh u (gs i) (addT u (h i))=gs i (h i):=zmr (by rw[(R.t0 hi).len,a.len])
def zo1(R:BRow rk m ks gs h){T:Lc}(c:Cb m ks gs h (λf=>lt rk f T) φ) : φ T=0:=by
 obtain⟨l,a,b⟩:=c;rw[b];refine zc2 λx e=>?_
 obtain⟨hi,i,d⟩:=a x e;have z:sh x.2.2 (gs x.2.1) T=0:=Classical.byContradiction λz=>by
  rcases((R.ld _ hi).sh R.om (R.sp _ hi) i).2 T z with q | q
  ·rw[q]at d;exact lt_irrefl d
  ·exact ziz d q
 rw[z];grind
theorem zl9(R:BRow rk m ks gs h)(a:∀i∈ks,∀j∈ks,Good rk m ks gs h i j){T:Lc}{j:Nat}{v:Lc}(e:j∈ks)(hv:T0 m v)(f:addT v (h j)=T):∀l,(∀x∈l,x.2.1∈ks/\T0 m x.2.2/\addT x.2.2 (h x.2.1)=T) ->
  Cb m ks gs h (λn=>lt rk n T) (λt=>gs j (h j)*cmb gs l t-cmb gs l T*sh v (gs j) t)
 | [],_=>Cb.zero.congr λt=>by show _*(0:F)-(0:F)*_=0;grind
 | x::l,hl=>by
  obtain⟨hi,d,b⟩:=hl x (by simp);have p:=zl9 R a e hv f l λy o=>hl y (by simp[o])
  have g:=(a _ hi j e x.2.2 v d hv (by rw[b,f])).smul x.1;rw[b]at g;refine(g.add p).congr λt=>?_
  have c:=zic R hi d;rw[b]at c;show gs j (h j)*(x.1*sh x.2.2 (gs x.2.1) t+cmb gs l t)-(x.1*sh x.2.2 (gs x.2.1) T+cmb gs l T)*sh v (gs j) t=_;rw[c];grind
def zvl(R:BRow rk m ks gs h)(r:∀i∈ks,∀j∈ks,Good rk m ks gs h i j){T:Lc}(c:Cb m ks gs h (λe=>e=T\/lt rk e T) φ)(z : φ T=0):Cb m ks gs h (λe=>lt rk e T) φ:=by
 obtain⟨l,a,b⟩:=c;have s:∀l:List (F×Nat×Lc),(∀x∈l,x.2.1∈ks/\T0 m x.2.2/\(addT x.2.2 (h x.2.1)=T\/lt rk (addT x.2.2 (h x.2.1)) T))->∃d:List (F×Nat×Lc),∃ψ,(∀x∈d,x.2.1∈ks/\T0 m x.2.2/\addT x.2.2 (h x.2.1)=T)/\Cb m ks gs h (λe=>lt rk e T) ψ/\∀t,cmb gs l t=cmb gs d t + ψ t:=by
  intro l;induction l with
  | nil=>exact λ_=>⟨[],_,(λ_ D=>nomatch D),Cb.zero,λt=>by show (0:F)=0+0;grind⟩
  | cons x l ih=>
   intro C;obtain⟨d,ψ,o,f,n⟩:=ih λy p=>C y (by simp[p])
   obtain⟨hi,w,q | q⟩:=C x (by simp)
   ·refine⟨x::d,ψ,λy p=>?_,f,λt=>?_⟩
    ·rcases Yj.mp p with rfl | p
     ·exact⟨hi,w,q⟩
     ·exact o y p
    ·show _*_+cmb gs l t=_*_+cmb gs d t + ψ t;rw[n];grind
   ·refine⟨d,_,o,((Cb.one (B:=λe=>lt rk e T) hi w q).smul x.1).add f,λt=>?_⟩;show x.1*sh x.2.2 (gs x.2.1) t+cmb gs l t=_;rw[n];grind
 obtain⟨d,ψ,o,f,n⟩:=s l a
 cases d with
 | nil=>exact f.congr λt=>by rw[b,n];show (0:F)+_=_;grind
 | cons y d=>
  obtain⟨A,hv,H⟩:=o y (by simp);have c:=zl9 R r A hv H _ o;have G:cmb gs (y::d) T=0:=by
   have q:=zo1 R f;have E:=n T;rw[<- b,z,q]at E;grind
  have nz:=(R.ld _ A).1;refine((c.smul (1 / gs y.2.1 (h y.2.1))).add f).congr λt=>?_
  rw[b,n,G];grind
theorem zle(R:BRow rk m ks gs h):∀l:List (F×Nat×Lc),l≠[]->(∀x∈l,x.2.1∈ks/\T0 m x.2.2)->∃y∈l,∀x∈l,addT x.2.2 (h x.2.1)=addT y.2.2 (h y.2.1)\/lt rk (addT x.2.2 (h x.2.1)) (addT y.2.2 (h y.2.1))
 | [],ne,_=>absurd rfl ne
 | [x],_,_=>⟨x,by simp,λy a=>.inl (by rw[Yq.mp a])⟩
 | x::x'::l,_,hl=>by
  obtain⟨y,a,f⟩:=zle R (x'::l) (by simp) λz hz=>hl z (by simp only[List.mem_cons]at hz ⊢;exact .inr hz)
  obtain⟨b,d⟩:=hl x (by simp);obtain⟨c,e⟩:=hl y (List.mem_cons_of_mem _ a);rcases zit R.om (T0.add d (R.t0 b)).len (T0.add e (R.t0 c)).len with q | q | q
  ·refine⟨y,List.mem_cons_of_mem _ a,λz hz=>?_⟩;rcases Yj.mp hz with rfl | hz
   ·exact .inr q
   ·exact f z hz
  ·refine⟨y,List.mem_cons_of_mem _ a,λz hz=>?_⟩;rcases Yj.mp hz with rfl | hz
   ·exact .inl q
   ·exact f z hz
  ·refine⟨x,by simp,λz hz=>?_⟩;rcases Yj.mp hz with rfl | hz
   ·exact .inl rfl
   ·rcases f z hz with r | r
    ·exact .inr (by rw[r];exact q)
    ·exact .inr (lt_trans r q)
def zqw(R:BRow rk m ks gs h)(p:∀i∈ks,∀j∈ks,Good rk m ks gs h i j)
  (I:∀P:Lc->Prop,(∀T,T0 m T->(∀o,T0 m o->lt rk o T->P o)->P T)->∀T,T0 m T->P T) (c:Cb m ks gs h (λ_=>True) φ) (E:∃t,φ t≠0):∃i∈ks,∃u,T0 m u/\Ld rk φ (addT u (h i)):=by
 have D:∀T,T0 m T->Cb m ks gs h (λo=>o=T\/lt rk o T) φ->∃i∈ks,∃u,T0 m u/\Ld rk φ (addT u (h i)):=by
  refine I _ λT hT J c=>?_
  by_cases z : φ T=0
  ·obtain⟨l,a,b⟩:=zvl R p c z;by_cases e:l=[]
   ·obtain⟨t,f⟩:=E;exact absurd (by rw[b,e];rfl) f
   obtain⟨y,w,A⟩:=zle R l e λx d=>⟨(a x d).1,(a x d).2.1⟩
   obtain⟨C,y2,H⟩:=a y w;exact J _ (T0.add y2 (R.t0 C)) H ⟨l,λx d=>⟨(a x d).1,(a x d).2.1,A x d⟩,b⟩
  ·obtain⟨l,a,b⟩:=c;have lo:∀t,φ t≠0->t=T\/lt rk t T:=λt f=>by
    rw[b]at f;obtain⟨x,d,q⟩:∃x∈l,x.1*sh x.2.2 (gs x.2.1) t≠0:=Classical.byContradiction λn=>f (zc2 λx d=>Classical.byContradiction λq=>n ⟨x,d,q⟩)
    obtain⟨hi,L,K⟩:=a x d;have G:sh x.2.2 (gs x.2.1) t≠0:=λz=>q (by rw[z];grind)
    rcases((R.ld _ hi).sh R.om (R.sp _ hi) L).2 t G with r | r <;> rcases K with s | s
    ·exact .inl (by rw[r,s])
    ·exact .inr (by rw[r];exact s)
    ·exact .inr (by rw[<- s];exact r)
    ·exact .inr (lt_trans r s)
   have ex:∃x∈l,addT x.2.2 (h x.2.1)=T:=Classical.byContradiction λn=>z (zo1 R ⟨l,λx d=>⟨(a x d).1,(a x d).2.1,(a x d).2.2.resolve_left λq=>n ⟨x,d,q⟩⟩,b⟩)
   obtain⟨x,d,e⟩:=ex;exact⟨_,(a x d).1,_,(a x d).2.1,by rw[e];exact⟨z,lo⟩⟩
 obtain⟨l,a,b⟩:=c;by_cases e:l=[]
 ·obtain⟨t,f⟩:=E;exact absurd (by rw[b,e];rfl) f
 obtain⟨y,w,A⟩:=zle R l e λx d=>⟨(a x d).1,(a x d).2.1⟩
 obtain⟨C,y2,_⟩:=a y w;exact D _ (T0.add y2 (R.t0 C)) ⟨l,λx d=>⟨(a x d).1,(a x d).2.1,A x d⟩,b⟩
theorem Cb.sm{f : α->Po F}:∀{S},(∀o∈S,Cb m ks gs h B (f o))->Cb m ks gs h B (λt=>G.sm (λo=>f o t) S)
 | [],_=>Cb.zero
 | o::S,c=>(c o (by simp)).add (Cb.sm (S:=S) λx a=>c x (by simp[a]))
def zss{b:Po F}(d:T0 m o)(l:S.Nodup)(f:∀t∈S,T0 m t)(n:∀t,b t≠0->t∈S)(t:Lc):sh o b t=sm (λj=>if addT o j=t then b j else 0) S:=by
 by_cases c:t.length=o.length
 ·rw[zjv c];have e:addT o (subT t o)=t:=zhd c;have un:∀x∈S,addT o x=t->x=subT t o:=λx a q=>by
   have:=(f x a).len;exact zfb (c:=o) (by rw[zcj c,c,d.len,this]) (by rw[this,d.len]) (by rw[q,e])
  by_cases i:subT t o∈S
  ·rw[zyf l i λx a p=>Yh λq=>p (un x a q),Yl e]
  ·have z:b (subT t o)=0:=Classical.byContradiction λq=>i (n _ q)
   rw[z,zc2 λx a=>Yh λq=>i (un x a q ▸ a)]
 ·unfold sh;rw[Yh c];exact(zc2 λx a=>Yh λq=>c (by rw[<- q,zbe (by rw[d.len,(f x a).len])])).symm
def zwg{a b:Po F}(p:S.Nodup)(e:∀t∈S,T0 m t)(j:∀t,a t≠0->t∈S)(n:S'.Nodup)(i:∀t∈S',T0 m t)(q:∀t,b t≠0->t∈S')(t:Lc):sm (λo=>a o*sh o b t) S=sm (λo=>b o*sh o a t) S':=by
 have l:sm (λo=>a o*sh o b t) S=sm (λo=>sm (λc=>if addT o c=t then a o*b c else 0) S') S:=zcw λo d=>by
  rw[zss (e o d) n i q,<- zlh];refine zcw λc _=>?_
  split <;> grind
 have r:sm (λo=>b o*sh o a t) S'=sm (λc=>sm (λo=>if addT o c=t then a o*b c else 0) S) S':=zcw λo d=>by
  rw[zss (i o d) p e j,<- zlh];refine zcw λc f=>?_
  rw[zdz (by rw[(i o d).len,(e c f).len])];split <;> grind
 rw[l,r,zns]
def lin4{a x b y:F}(q:a+x=b+y):b-a=x-y:=by grind
def Good.apart(R:BRow rk m ks gs h){i j:Nat}(hi:i∈ks)(n:j∈ks)(W:∀p,(h i).getD p 0=0\/(h j).getD p 0=0):Good rk m ks gs h i j:=λu v s hv e=>by
 have d:=R.t0 hi;have c:=R.t0 n;have N:zb0 (h j) u=true:=goesI_iff.mpr λp _=>by
  have q:(addT u (h i)).getD p 0=(addT v (h j)).getD p 0:=by rw[e]
  rw[zb8 (by rw[s.len,d.len]),zb8 (by rw[hv.len,c.len])]at q;have:=s.nn p;have:=hv.nn p;have:=W p;lia
 have hw:=T0.sub s c N;have D:=back s c N;generalize subT u (h j)=w at hw D;have U:addT w (h i)=v:=zio (T0.add hw d) hv c (by rw[<- e,<- D,zkp (by rw[hw.len,d.len]) (by rw[d.len,c.len]),zkp (by rw[hw.len,c.len]) (by rw[d.len,c.len]),zdz (a:=h i) (by rw[d.len,c.len])]);subst D;subst U;obtain⟨S,M,y,J⟩:=R.fin i hi;obtain⟨x,K,A,H⟩:=R.fin j n;have low:∀{a b:Nat} (ha:a∈ks) (hb:b∈ks) {T:Lb} (nT:T.Nodup) (l:∀t∈T,T0 m t),Cb m ks gs h (λT=>lt rk T (addT w (addT (h a) (h b)))) (λt=>sm (λo=>gs a o*sh (addT w o) (gs b) t) (@List.erase _ instBEqOfDecidableEq T (h a))):=fun{a b} ha hb {T} nT l=>by
  refine Cb.sm λo C=>?_
  obtain⟨O,f⟩:=(@List.Nodup.mem_erase_iff _ instBEqOfDecidableEq _ _ _ _ nT).mp C;by_cases z:gs a o=0
  ·exact Cb.zero.congr λt=>by rw[z];grind
  refine(Cb.one hb (T0.add hw (l o f)) ?_).smul _;have G:=R.t0 ha;have tb:=R.t0 hb;have r:=l o f;rw[zkp (by rw[hw.len,r.len]) (by rw[r.len,tb.len])];refine(zkg R.om (T0.add r tb).len (T0.add G tb).len hw.len).mpr ((zhv R.om r.len G.len tb.len).mpr ?_);exact((R.ld a ha).2 o z).resolve_left O
 have Q:addT (addT w (h j)) (h i)=addT w (addT (h i) (h j)):=by rw[zkp (by rw[hw.len,c.len]) (by rw[d.len,c.len]),zdz (a:=h j) (by rw[d.len,c.len])]
 rw[Q];have P:=low hi n M y;have L:=low n hi K A;rw[zdz (a:=h j) (by rw[d.len,c.len])]at L;refine(P.sub L).congr λt=>?_
 have E:∀(a b:Nat) (T:Lb),(∀t∈T,T0 m t)->sm (λo=>gs a o*sh (addT w o) (gs b) t) T=sh w (λt=>sm (λo=>gs a o*sh o (gs b) t) T) t:=λa b T l=>by
  rw[ztk (λo=>λt=>gs a o*sh o (gs b) t)];exact zcw λo C=>by rw[zql,zr3 (by rw[hw.len,(l o C).len])]
 have I:sm (λo=>gs i o*sh (addT w o) (gs j) t) S=sm (λo=>gs j o*sh (addT w o) (gs i) t) x:=by
  rw[E i j S y,E j i x A,show (λt=>sm (λo=>gs i o*sh o (gs j) t) S)=λt=>sm (λo=>gs j o*sh o (gs i) t) x from funext λt=>zwg M y J K A H t]
 rw[zf3 (J _ (R.ld i hi).1),zf3 (H _ (R.ld j n).1)]at I;exact lin4 I
theorem ztb{α:Type}{p q : α->Bool}:∀{l:List α},(∀x∈l,p x=true->q x=true)->(∃b∈l,q b=true/\p b=false)->l.countP p<l.countP q
 | [],_,⟨_,a,_⟩=>nomatch a
 | x::l,le,⟨b,a,q1,q2⟩=>by
  have le':l.countP p<=l.countP q:=List.countP_mono_left λy d=>le y (List.mem_cons_of_mem _ d)
  rcases Yj.mp a with rfl | a
  ·rw[List.countP_cons_of_neg (by rw[q2];exact λz=>nomatch z),List.countP_cons_of_pos q1];lia
  ·have ih:=ztb (λy d=>le y (List.mem_cons_of_mem _ d)) ⟨b,a,q1,q2⟩
   cases c:p x with
   | true=>rw[List.countP_cons_of_pos c,List.countP_cons_of_pos (le x (by simp) c)];lia
   | false=>
    rw[List.countP_cons_of_neg (by rw[c];exact λz=>nomatch z),List.countP_cons];split <;> lia
def zvu{α:Type}(l:List α)(d : α->Lc)(P : α->Prop)(i:∀a∈l,(∀b∈l,HT.lexLt (d b) (d a)=true->P b)->P a):∀a∈l,P a:=by
 have:∀n,∀a∈l,l.countP (λb=>HT.lexLt (d b) (d a))<n->P a:=by
  intro n;induction n with
  | zero=>exact λa _ q=>absurd q (by lia)
  | succ n ih=>
   refine λa e q=>i a e λb f lt=>ih b f ?_
   have:=ztb (l:=l) (p:=λx=>HT.lexLt (d x) (d b)) (q:=λx=>HT.lexLt (d x) (d a)) (λx _ c=>zr2 c lt) ⟨b,f,lt,zgt _⟩;lia
 exact λa e=>this _ a e (Nat.lt_succ_self _)
def zrw(R:BRow rk m ks gs h)(w:∀i∈ks,∀j∈ks,i<j->due rk h ks i j=true->Good rk m ks gs h i j):∀i∈ks,∀j∈ks,Good rk m ks gs h i j:=by
 have f:∀p∈(ks.flatMap λi=>ks.map λj=>(i,j)),p.1<p.2->Good rk m ks gs h p.1 p.2:=by
  refine zvu _ (λp:Nat×Nat=>tk rk h p.1 p.2) (λp:Nat×Nat=>p.1<p.2->Good rk m ks gs h p.1 p.2) λp n r lt=>?_
  obtain⟨i,hi,n⟩:=List.mem_flatMap.mp n;obtain⟨j,b,rfl⟩:=Ji.mp n;have use:∀a∈ks,∀k∈ks,k≠a->HT.lexLt (tk rk h (min a k) (max a k)) (tk rk h i j)=true->Good rk m ks gs h a k:=λa o k e A l=>by
   rcases Nat.lt_or_gt_of_ne A with c | c
   ·rw[Nat.min_eq_right (by lia),Nat.max_eq_left (by lia)]at l;exact(r (k,a) (List.mem_flatMap.mpr ⟨k,e,Ji.mpr ⟨a,o,Z⟩⟩) l c).symm
   ·rw[Nat.min_eq_left (by lia),Nat.max_eq_right (by lia)]at l;exact r (a,k) (List.mem_flatMap.mpr ⟨a,o,Ji.mpr ⟨k,e,Z⟩⟩) l c
  cases d:due rk h ks i j with
  | true=>exact w i hi j b lt d
  | false=>
   unfold due at d
   cases ap:zhn (h i) (h j) with
   | true=>
    refine Good.apart R hi b λp=>?_
    unfold zhn at ap;rcases Jg p (h i).length with c | c
    ·have:=List.all_eq_true.mp ap p (List.mem_range.mpr c);simpa using this
    ·left;simp[List.getD,List.getElem?_eq_none c]
   | false=>
    rw[ap]at d;simp only[Bool.not_false,Bool.true_and,Bool.not_eq_false']at d;obtain⟨k,e,q⟩:=List.any_eq_true.mp d;unfold lets at q;simp only[Bool.and_eq_true,decide_eq_true_eq]at q;obtain⟨⟨⟨⟨x,s⟩,g⟩,z⟩,y⟩:=q;exact Good.chain R hi b e (use i hi k e x z) (use j b k e s y) g
 intro i hi j b;rcases Nat.lt_trichotomy i j with c | c | c
 ·exact f (i,j) (List.mem_flatMap.mpr ⟨i,hi,Ji.mpr ⟨j,b,Z⟩⟩) c
 ·rw[c];exact Good.refl R b
 ·exact(f (j,i) (List.mem_flatMap.mpr ⟨j,b,Ji.mpr ⟨i,hi,Z⟩⟩) c).symm
end
theorem zne:∀n (P:Lc->Prop),(∀a,a.length=n->Nn a->(∀b,b.length=n->Nn b->HT.lexLt b a=true->P b)->P a)->∀a,a.length=n->Nn a->P a
 | 0,P,hh,a,d,e=>hh a d e λb lb _ l=>by
  rw[Y9.mp d,Y9.mp lb,zgt]at l
  cases l
 | n+1,P,hh,a,d,e=>by
  have:∀(k:Nat) (x:Int),0<=x->x<k->∀a:Lc,a.length=n->Nn a->P (x::a):=by
   intro k;induction k with
   | zero=>exact λx p m=>absurd m (by lia)
   | succ k ih=>
    intro x p m;refine zne n (λa=>P (x::a)) λa d e j=>hh _ (by simp[d]) (λy i=>?_) λb lb o l=>?_
    ·rcases Yj.mp i with rfl | i
     ·exact p
     ·exact e y i
    ·match b,lb with
     | y::b,lb=>
      have f:Nn b:=λz hz=>o z (List.mem_cons_of_mem _ hz)
      have h:b.length=n:=by simpa using lb
      by_cases c:y=x
      ·subst c;refine j b h f ?_;simpa[HT.lexLt]using l
      ·have c2:y<x:=by
        simp[HT.lexLt,c]at l
        lia
       exact ih y (o y (by simp)) (by lia) b h f
  match a,d with
  | x::a,d=>exact this (x.toNat+1) x (e x (by simp)) (by have:=e x (by simp);lia) a (by simpa using d) λz hz=>e z (List.mem_cons_of_mem _ hz)
def zvj(f:Lc->Lc)(h:∀T,T0 m T->(f T).length=k/\Nn (f T))(j:∀T b,T0 m T->T0 m b->lt rk b T->HT.lexLt (f b) (f T)=true)(P:Lc->Prop)(i:∀T,T0 m T->(∀b,T0 m b->lt rk b T->P b)->P T):∀T,T0 m T->P T:=by
 have:=zne k (λa=>∀T,T0 m T->f T=a->P T) λa _ _ n T d e=>i T d λb c l=>n (f b) (h b c).1 (h b c).2 (by rw[<- e];exact j T b d c l) b c rfl
 exact λT d=>this (f T) (h T d).1 (h T d).2 T d rfl
theorem zsv:∀{x y},HT.lexLt (x.map (c + ·)) (y.map (c + ·))=HT.lexLt x y
 | [],[]=>rfl
 | [],_::_=>rfl
 | _::_,[]=>rfl
 | a::x,b::y=>by
  rw[Yz,Yz,HT.lexLt_cons,HT.lexLt_cons,zsv (x:=x)];by_cases e:a=b
  ·rw[Yl e,Yl (by rw[e])]
  ·rw[Yh e,Yh (by lia)];congr 1;exact propext (by lia)
theorem znk:∀{t},Nn t->∀x∈t,x<=t.sum
 | y::t,n,x,a=>by
  rw[List.sum_cons];have b:Nn t:=λz hz=>n z (List.mem_cons_of_mem _ hz)
  rcases Yj.mp a with rfl | a
  ·have:=zj5 b;lia
  ·have:=znk b x a;have:=n y (by simp);lia
def wfL(m:Nat)(P:Lc->Prop):(∀T,T0 m T->(∀T',T0 m T'->lt rkL T' T->P T')->P T)->∀T,T0 m T->P T:=zvj (k:=m) rkL (λ_ a=>⟨a.len,a.mem⟩) (λ_ _ _ _ l=>l) P
def wfD(m:Nat)(P:Lc->Prop):(∀T,T0 m T->(∀T',T0 m T'->lt rkD T' T->P T')->P T)->∀T,T0 m T->P T:=zvj (k:=m+1) rkD (λT b=>⟨by show T.length+1=_;rw[b.len],λx a=>by
 rcases Yj.mp a with rfl | a
 ·exact zj5 b.mem
 ·exact b.mem x a⟩) (λ_ _ _ _ l=>l) P
def wfT(m:Nat)(P:Lc->Prop):(∀T,T0 m T->(∀a,T0 m a->lt rkT a T->P a)->P T)->∀T,T0 m T->P T:=zvj (k:=m+1) (λT=>T.sum::(T.reverse.map λx => -x).map (T.sum + ·)) (λT c=>⟨by simp[c.len],λx b=>by
 rcases Yj.mp b with rfl | b
 ·exact zj5 c.mem
 ·rw[Jh]at b;obtain⟨y,d,rfl⟩:=Ji.mp b;have:=znk c.mem y (List.mem_reverse.mp d);show 0<=T.sum + -y;lia⟩) (λT a _ _ l=>by
 unfold lt rkT at l;rw[HT.lexLt_cons]at l ⊢;by_cases e:a.sum=T.sum
 ·rw[Yl e]at l ⊢;rw[e,zsv];exact l
 ·rw[Yh e]at l ⊢;exact l) P
end G
namespace K10
open L2 PySem
@[inline] def strN {α:Type} (n:Nat) (f:Nat->α) : α:=Nat.rec (f 0) (λk _=>f (Nat.succ k)) n
def zgh(n:Nat)(f:Nat->α):strN n f=f n:=by cases n <;> rfl
def stp(acc h:Nat):Nat:=((((acc+h*14029467366897019727)%18446744073709551616)*2147483648%18446744073709551616+((acc+h*14029467366897019727)%18446744073709551616) / 8589934592)*11400714785074694791)%18446744073709551616
def lst(a l:Nat):Nat:=(a+(l ^^^ (2870177450012600261 ^^^ 3527539)))%18446744073709551616
def hN(t:List Nat):Nat:=strN (lst (t.foldl stp 2870177450012600261) t.length) λa=>bif Nat.beq a 18446744073709551615 then 1546275796 else a
def zmy(h:x<1000):(hashInt (Int.ofNat x)%((2^64:Nat):Int)).toNat=x:=by
 have e:rawHash (Int.ofNat x)=Int.ofNat x:=by
  unfold rawHash;have a:(((Int.ofNat x).natAbs:Nat):Int)%((2^61-1:Nat):Int)=(x:Int):=Int.emod_eq_of_lt (by lia) (by show (x:Int)<((2^61-1:Nat):Int);lia);have b:¬Int.ofNat x<0:=by simp
  simp only[b,if_false]
  rw[a];have c:((x:Int) == -1)=false:=by rw[beq_eq_false_iff_ne];lia
  rw[c];rfl
 unfold hashInt;rw[e];have c:(Int.ofNat x == -1)=false:=by rw[beq_eq_false_iff_ne];show (x:Int)≠-1;lia
 rw[c];show ((x:Int)%((2^64:Nat):Int)).toNat=x;rw[Int.emod_eq_of_lt (by lia) (by lia)];rfl
theorem zlq:∀(t:List Nat) a,(∀x∈t,x<1000)->(((t.map Int.ofNat).map hashInt).foldl (init:=a) λb h=>
  let b:=(b+(h%((2^64:Nat):Int)).toNat*14029467366897019727)%2^64
  let b:=(b*2^31)%2^64+b / 2^33
  (b*11400714785074694791)%2^64)=t.foldl stp a
 | [],_,_=>rfl
 | x::t,a,h=>by
  rw[Yz,Yz,List.foldl_cons,List.foldl_cons,zmy (h x (by simp))];exact zlq t _ λy c=>h y (by simp[c])
def zwa(h:∀x∈t,x<1000):(hsI (t.map Int.ofNat)%18446744073709551616).toNat=hN t:=by
 unfold hsI Builtin.Tuple.tupleHashOf hN;rw[zgh];have e:=zlq t 2870177450012600261 h;simp only[]at e ⊢;rw[e,Yd,Yd];have lt:lst (t.foldl stp 2870177450012600261) t.length<18446744073709551616:=Nat.mod_lt _ (by decide);show ((reduceHash (if (lst (t.foldl stp 2870177450012600261) t.length == 18446744073709551615)=true then 1546275796 else if lst (t.foldl stp 2870177450012600261) t.length<9223372036854775808 then(lst (t.foldl stp 2870177450012600261) t.length:Int) else(lst (t.foldl stp 2870177450012600261) t.length:Int)-18446744073709551616))%18446744073709551616).toNat=_;generalize lst (t.foldl stp 2870177450012600261) t.length=a at lt;by_cases c:a=18446744073709551615
 ·subst c;rfl
 ·have d:(a == 18446744073709551615)=false:=by rw[beq_eq_false_iff_ne];exact c
  have f:Nat.beq a 18446744073709551615=false:=by
   cases q:Nat.beq a 18446744073709551615
   ·rfl
   ·exact absurd (Nat.eq_of_beq_eq_true q) c
  rw[d,f];simp only[Bool.false_eq_true,if_false,cond_false];have b:∀i:Int,-9223372036854775808<=i->i<9223372036854775808->i≠-1->reduceHash i=i:=λi h1 h2 l=>by
   unfold reduceHash;have q:(decide (-(2^63:Int)<=i)&&decide (i<2^63))=true:=by
    rw[Jy,decide_eq_true_eq,decide_eq_true_eq];exact⟨by lia,by lia⟩
   rw[q,Yl rfl];have j:(i == -1)=false:=by rw[beq_eq_false_iff_ne];exact l
   rw[j];rfl
  split
  ·rw[b _ (by lia) (by lia) (by lia)];lia
  ·rw[b _ (by lia) (by lia) (by lia)];lia
end K10
namespace H2
open L2 PySem K1 K2 K3 K6 K8 K37 K10
def g(x:Nat):Nat:=((x*2147483648%18446744073709551616+x / 8589934592)*11400714785074694791)%18446744073709551616
def kp(D:Nat):Nat:=D*614540362697595703%18446744073709551616
def gi(y:Nat):Nat:=strN (kp y) λk=>k%2147483648*8589934592+k / 2147483648
def u(a:Nat):Nat:=stp 2870177450012600261 a*839798700976720815%18446744073709551616
def k2:((List.range 100).all λa=>strN (u a) λx=>(List.range 100).all λb=>a == b||Nat.blt 198 ((x+18446744073709551616-u b+99)%18446744073709551616))=true:=by decide +kernel
def zyh(a h:Nat):stp a h=g ((a+h*14029467366897019727)%18446744073709551616):=rfl
def rot:x*2147483648%18446744073709551616=x%8589934592*2147483648:=Nat.mul_mod_mul_right 2147483648 x 8589934592
def unG(e:P*R=1+C*m)(h:a*P%m=(b*P%m+D)%m):a%m=(b+D*R%m)%m:=by
 have c:a*P*R%m=(b*P+D)*R%m:=by rw[Nat.mul_mod,h,Nat.mod_add_mod,<- Nat.mul_mod]
 have d:∀x:Nat,x*P*R=x+x*C*m:=λx=>by rw[Nat.mul_assoc,e,Nat.mul_add,Nat.mul_one,Nat.mul_assoc]
 rw[Nat.add_mul,d,d,Nat.add_mul_mod_self_right,Nat.add_right_comm,Nat.add_mul_mod_self_right]at c;rw[c,Nat.add_mod_mod]
def unP(h:a*11400714785074694791%18446744073709551616=(b*11400714785074694791%18446744073709551616+D)%18446744073709551616):a%18446744073709551616=(b+kp D)%18446744073709551616:=unG (R:=614540362697595703) (C:=379806830464837242) (by decide) h
def unH(e:P*Q=1+C*m)(f:(a+h*P)%m=(b+h'*P+D)%m):(a*Q%m+h)%m=(b*Q%m+h'+D*Q%m)%m:=by
 have c:(a+h*P)*Q%m=(b+h'*P+D)*Q%m:=by rw[Nat.mul_mod,f,<- Nat.mul_mod]
 have d:∀x:Nat,x*P*Q=x+x*C*m:=λx=>by rw[Nat.mul_assoc,e,Nat.mul_add,Nat.mul_one,Nat.mul_assoc]
 rw[Nat.add_mul,Nat.add_mul,Nat.add_mul,d,d,<- Nat.add_assoc,<- Nat.add_assoc,Nat.add_mul_mod_self_right,Nat.add_right_comm (b*Q+h'),Nat.add_mul_mod_self_right]at c;rw[Nat.mod_add_mod,c,Nat.add_mod_mod,Nat.add_assoc (b*Q%m),Nat.mod_add_mod,Nat.add_assoc]
def unQ(c:(a+h*14029467366897019727)%18446744073709551616=(b+h'*14029467366897019727+D)%18446744073709551616):(a*839798700976720815%18446744073709551616+h)%18446744073709551616=(b*839798700976720815%18446744073709551616+h'+D*839798700976720815%18446744073709551616)%18446744073709551616:=unH (C:=638699622168397319) (by decide) c
def gi_g(hx:x<18446744073709551616):gi (g x)=x:=by
 have c:=unP (a:=x*2147483648%18446744073709551616+x / 8589934592) (b:=0) (D:=g x) (by
  show g x=_;rw[Nat.zero_mul,Nat.zero_mod,Nat.zero_add];exact(Nat.mod_eq_of_lt (Nat.mod_lt _ (by decide))).symm)
 unfold gi;rw[zgh];have f:kp (g x)<18446744073709551616:=Nat.mod_lt _ (by decide);have e:x%8589934592*2147483648+x / 8589934592<18446744073709551616:=by lia
 rw[rot,Nat.mod_eq_of_lt e,Nat.zero_add,Nat.mod_eq_of_lt f]at c;rw[<- c];have d:(x%8589934592*2147483648+x / 8589934592)%2147483648=x / 8589934592:=by lia
 have h:(x%8589934592*2147483648+x / 8589934592) / 2147483648=x%8589934592:=by lia
 rw[d,h];exact Nat.div_add_mod' x 8589934592
def znq(a h:Nat):stp a h<18446744073709551616:=Nat.mod_lt _ (by decide)
def zt8(e:stp a h=stp a' h'):(a+h*14029467366897019727)%18446744073709551616=(a'+h'*14029467366897019727)%18446744073709551616:=by
 rw[zyh,zyh]at e;have:=Jw gi e;rwa [gi_g (Nat.mod_lt _ (by decide)),gi_g (Nat.mod_lt _ (by decide))]at this
def cnc{m a b c:Nat}(h:a<m)(e:(a+c)%m=(b+c)%m):a=b%m:=by
 have f:=Jw (λx=>(x+(m-c%m))%m) e;simp only[Nat.mod_add_mod]at f;have q:∀x,(x+c+(m-c%m))%m=x%m:=λx=>by
  have l:c%m<m:=Nat.mod_lt _ (by lia);have d:=Nat.div_add_mod c m;have:x+c+(m-c%m)=x+m*(c / m+1):=by rw[Nat.mul_add,Nat.mul_one];lia
  rw[this,Nat.add_mul_mod_self_left]
 rw[q,q,Nat.mod_eq_of_lt h]at f;exact f
def u_lt(a:Nat):u a<18446744073709551616:=Nat.mod_lt _ (by decide)
def zlp(h:(List.range n).all f=true){k:Nat}(a:k<n):f k=true:=List.all_eq_true.mp h k (List.mem_range.mpr a)
def far(a:mm=18446744073709551616)(hx:x<mm)(hy:y<mm)(hj:j<=198)(h:198+1<=(x+18446744073709551616-y+99)%18446744073709551616)(e:(x+99)%18446744073709551616=(y+j)%18446744073709551616):False:=by
 rw[<- a]at h;have:(x+mm-y+99)%18446744073709551616=j:=by lia
 rw[a]at h this;lia
def sft(h1:b<=b'+99)(hw:w<18446744073709551616)(e:(x+b)%18446744073709551616=(y+b'+w)%18446744073709551616):(x+99)%18446744073709551616=(y+(b'+99-b)+w)%18446744073709551616:=by lia
def noZ(n:a<100)(p:b<100)(o:j<=198)(e:(u a+99)%18446744073709551616=(u b+j)%18446744073709551616):a=b/\j=99:=by
 have h:=zlp k2 n;rw[zgh]at h;have d:=zlp h p;have f:=u_lt a;have lb:=u_lt b;by_cases c:a=b
 ·subst c;refine⟨Z,?_⟩;generalize u a=x at e f;lia
 ·exfalso;rw[Bool.or_eq_true]at d;rcases d with d | d
  ·exact c (by simpa using d)
  ·have m:=Nat.le_of_ble_eq_true d;obtain⟨i,l⟩:∃i,i=18446744073709551616:=⟨_,Z⟩;generalize u a=x,u b=y at e f lb m;rw[<- l]at f lb;exact far l f lb o m e
def inj2(i:a<100)(c:a'<100)(h:b<=b'+99)(h2:b'<=b+99)(e:stp (stp 2870177450012600261 a) b=stp (stp 2870177450012600261 a') b'):a=a'/\b=b':=by
 have q:(stp 2870177450012600261 a+b*14029467366897019727)%18446744073709551616=(stp 2870177450012600261 a'+b'*14029467366897019727+0)%18446744073709551616:=by rw[Nat.add_zero];exact zt8 e
 have f:=unQ q;rw[Nat.zero_mul,Nat.zero_mod]at f;have d:(u a+99)%18446744073709551616=(u a'+(b'+99-b)+0)%18446744073709551616:=sft h (by decide) f;rw[Nat.add_zero]at d;obtain⟨j,r2⟩:=noZ i c (by lia) d;exact⟨j,by lia⟩
def zzb{m c a r y:Nat}(b:a<m)(f:c<=m)(d:(r+(m-c))%m=y)(e:(a+c)%m=r):a=y:=by
 rw[<- d,<- e,Nat.mod_add_mod,Nat.add_assoc,Nat.add_sub_cancel' f,Nat.add_mod_right,Nat.mod_eq_of_lt b]
def zy8(d:a<18446744073709551616)(c:b<18446744073709551616)(e:lst a l=lst b l):a=b:=by
 have:=cnc d (show (a+_)%_=(b+_)%_ from e);rwa [Nat.mod_eq_of_lt c]at this
def hv(a l:Nat):Nat:=strN (lst a l) λa=>bif Nat.beq a 18446744073709551615 then 1546275796 else a
def zxo(h:lst a l≠18446744073709551615):hv a l=lst a l:=by
 unfold hv;rw[zgh]
 cases c:Nat.beq (lst a l) 18446744073709551615 with
 | false=>rfl
 | true=>exact absurd (Nat.eq_of_beq_eq_true c) h
def hv_e(d:a<18446744073709551616)(f:b<18446744073709551616)(c:lst a l≠18446744073709551615)(h:lst b l≠18446744073709551615)(e:hv a l=hv b l):a=b:=by
 rw[zxo c,zxo h]at e;exact zy8 d f e
def hg(t:List Nat):hN t=hv (t.foldl stp 2870177450012600261) t.length:=by unfold hN hv;exact Eq.refl _
def hN2(a b:Nat):hN [a,b]=hv (stp (stp 2870177450012600261 a) b) 2:=by
 have l:[a,b].length=2:=by simp
 rw[hg,List.foldl_cons,List.foldl_cons,List.foldl_nil,l]
def y2:((List.range 100).all λa=>strN (stp 2870177450012600261 a) λx=>(List.range 100).all λb => !(stp x b == 15576566623696079691))=true:=by decide +kernel
def nl2(c:a<100)(d:b<100):lst (stp (stp 2870177450012600261 a) b) 2≠18446744073709551615:=λz=>by
 have e:=zzb (y:=15576566623696079691) (znq _ _) (by decide) (by decide) z;have k:=zlp y2 c;rw[zgh]at k;have k2:=zlp k d;rw[e]at k2
 revert k2;decide
def hi2(f:a<100)(h:b<100)(c:a'<100)(d:b'<100)(e:hN [a,b]=hN [a',b']):a=a'/\b=b':=by
 rw[hN2,hN2]at e;exact inj2 f c (by lia) (by lia) (hv_e (znq _ _) (znq _ _) (nl2 f h) (nl2 c d) e)
def hsI_inj(h:T0 2 t)(h':T0 2 t')(A:∀x∈t,x<100)(j:∀x∈t',x<100)(e:hsI t=hsI t'):t=t':=by
 have c:∀{s:Lc},T0 2 s->(∀x∈s,x<100)->∃a b:Nat,s=[a,b].map Int.ofNat/\a<100/\b<100:=fun{s} hs i=>by
  match s,hs.len with
  | [x,y],_=>
   have n:=hs.mem x (by simp);have m:=hs.mem y (by simp);have x1:=i x (by simp);have y1:=i y (by simp);refine⟨x.toNat,y.toNat,?_,by lia,by lia⟩;show [x,y]=[((x.toNat:Nat):Int),((y.toNat:Nat):Int)];rw[Int.toNat_of_nonneg n,Int.toNat_of_nonneg m]
 obtain⟨a,b,rfl,l,i⟩:=c h A;obtain⟨B,z,rfl,d,f⟩:=c h' j;have bd:∀{a b:Nat},a<100->b<100->∀x∈[a,b],x<1000:=fun{a b} p q x hx=>by
  simp at hx
  lia
 have o:hN [a,b]=hN [B,z]:=by rw[<- zwa (bd l i),<- zwa (bd d f),e]
 obtain⟨r,w⟩:=hi2 l i d f o;rw[r,w]
end H2
namespace G
open L2 PySem K1 K2 K3 K6 K8 K37
structure IZ(m:Nat)(cr:Ka)(N:Lc->Int):Prop where
 ks:∀p∈cr,∃t,p.1=ky t/\T0 m t
 nd:(cr.map (·.1)).Nodup
 out:∀t,valV cr (ky t)=none->N t=0
 val:∀t v,valV cr (ky t)=some v->v=.int (N t)
def setZ(N:Lc->Int)(k:Lc)(z:Int):Lc->Int:=λt=>if t=k then z else N t
section
variable{m:Nat}{cr:Ka}{N:Lc->Int}
def IZ.nil:IZ m [] (λ_=>0):=⟨(λp a=>by cases a),List.nodup_nil,λ_ _=>Z,λt v e=>by simp[valV]at e⟩
def IZ.congr(h:IZ m cr N)(e:∀t,N t=N' t):IZ m cr N':=by rw[<- show N=N' from funext e];exact h
def IZ.ix(h:IZ m cr N){i:Nat}{k:List Key}{v:V}(a:cr[i]? = some (k,v)):∃t,k=ky t/\T0 m t/\(tms cr)[i]? = some t/\v=.int (N t):=by
 obtain⟨t,e,t0⟩:=h.ks _ (Yx a);have e:k=ky t:=e;have hv:=zis h.nd a;rw[e]at hv;refine⟨t,e,t0,?_,h.val t v hv⟩;unfold tms;rw[Ym,a];show some (un k)=_;rw[e,zpx]
def IZ.keys(h:IZ m cr N):cr.map (·.1)=(tms cr).map ky:=by
 unfold tms;rw[Jh];refine List.map_congr_left λp a=>?_
 obtain⟨t,e,_⟩:=h.ks p a;show p.1=ky (un p.1);rw[e,zpx]
def IZ.tnd(h:IZ m cr N):(tms cr).Nodup:=zgv (f:=ky) (by rw[<- h.keys];exact h.nd)
def IZ.tout(h:IZ m cr N){t:Lc}(a:t ∉ tms cr):N t=0:=h.out t (by
 cases q:valV cr (ky t) with
 | none=>rfl
 | some v=>
  have:ky t∈cr.map (·.1):=by rw[<- mem_of_valV,q];rfl
  rw[h.keys,Ji]at this;obtain⟨u,b,e⟩:=this;exact absurd (zdo e ▸ b) a)
def IZ.get(h:IZ m cr N)(t:Lc):(valV cr (ky t)).getD (.int 0)=.int (N t):=by
 cases q:valV cr (ky t) with
 | none=>rw[h.out t q];rfl
 | some v=>rw[h.val t v q];rfl
def IZ.put(h:IZ m cr N){k:Lc}{z:Int}(d:T0 m k):IZ m (putK cr (ky k) (.int z)) (setZ N k z):=by
 have b:∀t,valV (putK cr (ky k) (.int z)) (ky t)=if t=k then some (.int z) else valV cr (ky t):=λt=>by
  rw[zl8];by_cases c:t=k
  ·rw[Yl c,Yl (by rw[c])]
  ·rw[Yh c,Yh λz=>c (zdo z)]
 refine⟨λp j=>?_,zs8 h.nd,λt e=>?_,λt w e=>?_⟩
 ·have:p.1∈(putK cr (ky k) (.int z)).map (·.1):=Ji.mpr ⟨p,j,Z⟩;rw[zif]at this;have:p.1∈cr.map (·.1)\/p.1=ky k:=by
   split at this
   ·exact .inl this
   ·rcases Ju.mp this with q | q
    ·exact .inl q
    ·exact .inr (Yq.mp q)
  rcases this with q | q
  ·obtain⟨f,a,e⟩:=Ji.mp q;obtain⟨t,i,t0⟩:=h.ks f a;exact⟨t,by rw[<- e,i],t0⟩
  ·exact⟨k,q,d⟩
 ·rw[b]at e;unfold setZ;by_cases c:t=k
  ·rw[Yl c]at e;cases e
  ·rw[Yh c]at e ⊢;exact h.out t e
 ·rw[b]at e;unfold setZ;by_cases c:t=k
  ·rw[Yl c]at e ⊢;cases e;rfl
  ·rw[Yh c]at e ⊢;exact h.val t w e
def cutZ(N:Lc->Int)(S:Lb):Lc->Int:=λt=>if t∈S then N t else 0
def zh5(h:IZ m cr N):cutZ N (tms cr)=N:=funext λt=>by
 unfold cutZ;split
 ·rfl
 ·rename_i c;exact(h.tout c).symm
def zld(S:Lb)(t u:Lc):cutZ N (S++[t]) u=if u=t then N t else cutZ N S u:=by
 unfold cutZ;by_cases c:u=t
 ·rw[Yl c,Yl (by rw[c];simp),c]
 ·rw[Yh c];by_cases i:u∈S
  ·rw[Yl i,Yl (by simp[i])]
  ·rw[Yh i,Yh (by simp[i,c])]
end
section
variable{F:Type}[Ta F]{n:Int}{m:Nat}{H:Hp}{cr:Ka}{φ:Po F}
def PF.iz(l:n≠0)(h:PF n m H cr φ):∃N,IZ m cr N/\(∀t,φ t=ic (N t))/\(∀t,0<=N t/\(N t=0\/N t<n))/\∀t,φ t≠0->N t≠0:=by
 have b:∀t,∃z:Int,(valV cr (ky t)=none->z=0)/\(∀v,valV cr (ky t)=some v->v=.int z/\0<=z/\z<n/\z≠0)/\φ t=ic z:=λt=>by
  cases q:valV cr (ky t) with
  | none=>exact⟨0,λ_=>rfl,(λv e=>nomatch e),by rw[h.out t q,zeq]⟩
  | some v=>
   obtain⟨r,i⟩:=h.val t v q;obtain⟨a,rfl,c,j,e⟩:=(zes l).mp r;refine⟨a,(λz=>nomatch z),λv' d=>?_,e⟩
   cases d;exact⟨Z,c,j,λz=>i (by rw[e,z,zeq])⟩
 obtain⟨N,hN⟩:∃N:Lc->Int,∀t,(valV cr (ky t)=none->N t=0)/\(∀v,valV cr (ky t)=some v->v=.int (N t)/\0<=N t/\N t<n/\N t≠0)/\φ t=ic (N t):=⟨λt=>(b t).choose,λt=>(b t).choose_spec⟩;refine⟨N,⟨h.ks,h.nd,λt q=>(hN t).1 q,λt v q=>((hN t).2.1 v q).1⟩,λt=>(hN t).2.2,λt=>?_,λt f z=>f ?_⟩
 ·cases q:valV cr (ky t) with
  | none=>have:=(hN t).1 q;lia
  | some v=>have:=(hN t).2.1 v q;lia
 ·rw[(hN t).2.2,z,zeq]
end
end G
namespace G
open L2 PySem K1 K2 K3 K6 K8 K37 K20
section
variable{F:Type}[Ta F]{rk:Lc->Lc}{m:Nat}{ks:List Nat}{gs:Nat->Po F}{h:Nat->Lc}{U us Dn:Lb}{M t:Lc}{φ lf:Po F}
structure LwI(rk:Lc->Lc)(m:Nat)(ks:List Nat)(gs:Nat->Po F)(h:Nat->Lc)(U us Dn:Lb)(M:Lc)(φ lf:Po F):Prop where
 eq:∃(c:F) (ψ:Po F),c≠0/\Cb m ks gs h (λT=>lt rk T M) ψ/\∀t,c * φ t=lf t + ψ t
 lft:∀t,lf t≠0->t∈us
 srt:us.Pairwise (lt rk)
 ord:∀d∈Dn,∀u∈us,lt rk u d
 dnd:Dn.Nodup
 inU:∀t,t∈us\/t∈Dn->t∈U/\T0 m t
 lo:∀t,t∈us\/t∈Dn->lt rk t M
def LwI.start(a:us.Pairwise (lt rk))(mem:∀z,z∈us↔φ z≠0)(b:∀t,φ t≠0->t∈U/\T0 m t)(lo:∀t,φ t≠0->lt rk t M):LwI rk m ks gs h U us [] M φ φ:=
 ⟨⟨1,_,λz=>Lean.Grind.Field.zero_ne_one z.symm,Cb.zero,λt=>by grind⟩,λt q=>(mem t).mpr q,a,(λ_ hd=>nomatch hd),List.nodup_nil,λt q=>b t ((mem t).mp (q.resolve_right (by simp))),λt q=>lo t ((mem t).mp (q.resolve_right (by simp)))⟩
def LwI.done(I:LwI rk m ks gs h U us Dn M φ lf)(z:∀t,lf t=0):Cb m ks gs h (λT=>lt rk T M) φ:=by
 obtain⟨c,ψ,nc,a,e⟩:=I.eq;refine(a.smul (1 / c)).congr λt=>?_
 have:=e t;rw[z t]at this;grind
def LwI.base(I:LwI rk m ks gs h U (us++[t]) Dn M φ lf):us.Pairwise (lt rk)/\(∀d∈Dn++[t],∀u∈us,lt rk u d)/\(Dn++[t]).Nodup/\(∀z,z∈us\/z∈Dn++[t]->z∈U/\T0 m z)/\(∀z,z∈us\/z∈Dn++[t]->lt rk z M)/\t ∉ Dn:=by
 have c:t ∉ Dn:=λh=>lt_irrefl (I.ord t h t (by simp))
 have w:∀z,z∈us\/z∈Dn++[t]->z∈us++[t]\/z∈Dn:=λz h=>by
  simp only[List.mem_append,List.mem_singleton]at h ⊢
  rcases h with h | h | h
  ·exact .inl (.inl h)
  ·exact .inr h
  ·exact .inl (.inr h)
 refine⟨(zg7 I.srt).1,λd hd u i=>?_,?_,λz h=>I.inU z (w z h),λz h=>I.lo z (w z h),c⟩
 ·rcases mem_sn.mp hd with h | rfl
  ·exact I.ord d h u (by simp[i])
  ·exact(zg7 I.srt).2 u i
 ·rw[List.nodup_append];refine⟨I.dnd,by simp,λa j b f e=>?_⟩;rw[Yq]at f;subst f e;exact c j
def LwI.skip(I:LwI rk m ks gs h U (us++[t]) Dn M φ lf)(z:lf t=0):LwI rk m ks gs h U us (Dn++[t]) M φ lf:=by
 obtain⟨b1,b2,d,b,c,tn⟩:=I.base;refine⟨I.eq,λx a=>?_,b1,b2,d,b,c⟩;rcases mem_sn.mp (I.lft x a) with q | rfl
 ·exact q
 ·exact absurd z a
def LwI.fit(R:BRow rk m ks gs h)(I:LwI rk m ks gs h U (us++[t]) Dn M φ lf){i:Nat}(hi:i∈ks)(J:zb0 (h i) t=true){a b c:F}(nc:c≠0)(A:a*c=gs i (h i))(Q:b*c=lf t)
  {j:Lb} (P:∀u,gs i u≠0->addT (subT t (h i)) u∈U) (s:j.Pairwise (lt rk)) (mem:∀z,z∈j↔z∈us\/(sh (subT t (h i)) (gs i) z≠0/\z ∉ us/\z ∉ Dn++[t])) :
  LwI rk m ks gs h U j (Dn++[t]) M φ (λz=>a*lf z-b*sh (subT t (h i)) (gs i) z):=by
 obtain⟨b1,b2,S,L,G,tn⟩:=I.base;have E:=(I.inU t (.inl (by simp))).2;have C:=I.lo t (.inl (by simp));have K:=R.t0 hi;have o:=T0.sub E K J;have H:=back E K J;have N:=R.sp i hi;have n:=Ld.sh R.om N o (R.ld i hi);have top:=zic R hi o;rw[H]at n top;have f:∀z,sh (subT t (h i)) (gs i) z≠0->T0 m z/\z∈U/\(z=t\/lt rk z t):=λz hz=>by
  obtain⟨w,_,y,e⟩:=zna o N hz;exact⟨w,by rw[e];exact P _ y,n.2 z hz⟩
 have l:∀d∈Dn++[t],d=t\/lt rk t d:=λd hd=>by
  rcases mem_sn.mp hd with q | q
  ·exact .inr (I.ord d q t (by simp))
  ·exact .inl q
 have p:∀z∈j,z ∉ us->T0 m z/\z∈U/\lt rk z t:=λz hz y=>by
  rcases(mem z).mp hz with q | ⟨q,_,q2⟩
  ·exact absurd q y
  ·obtain⟨w,X,c⟩:=f z q;exact⟨w,X,c.resolve_left λe=>q2 (by simp[e])⟩
 refine⟨?_,λz hz=>?_,s,λd hd u Y=>?_,S,λz hz=>?_,λz hz=>?_⟩
 ·obtain⟨W,ψ,n',cb,e⟩:=I.eq;refine⟨a*W,_,λz=>?_,(cb.smul a).add ((Cb.one (B:=λT=>lt rk T M) hi o (by rw[H];exact C)).smul b),λx=>?_⟩
  ·have na:a≠0:=λq=>(R.ld i hi).1 (by rw[<- A,q];grind)
   grind
  ·have:=e x;grind
 ·by_cases zt:z=t
  ·subst zt;refine absurd ?_ hz;show a*lf z-b*sh (subT z (h i)) (gs i) z=0;rw[top,<- A,<- Q];grind
  ·by_cases zu:z∈us
   ·exact(mem z).mpr (.inl zu)
   ·have r:lf z=0:=Classical.byContradiction λq=>(mem_sn.mp (I.lft z q)).elim zu zt
    have D:sh (subT t (h i)) (gs i) z≠0:=λq=>hz (by show a*lf z-b*_=0;rw[r,q];grind)
    refine(mem z).mpr (.inr ⟨D,zu,λzd=>?_⟩);rcases l z zd with q | q
    ·exact zt q
    ·exact ziz q ((f z D).2.2.resolve_left zt)
 ·by_cases q:u∈us
  ·exact b2 d hd u q
  ·have:=(p u Y q).2.2;rcases l d hd with rfl | O
   ·exact this
   ·exact lt_trans this O
 ·rcases hz with hz | hz
  ·by_cases q:z∈us
   ·exact L z (.inl q)
   ·exact⟨(p z hz q).2.1,(p z hz q).1⟩
  ·exact L z (.inr hz)
 ·rcases hz with hz | hz
  ·by_cases q:z∈us
   ·exact G z (.inl q)
   ·exact lt_trans (p z hz q).2.2 C
  ·exact G z (.inr hz)
end
end G
namespace G
open L2 PySem K1 K2 K3 K6 K8 K37
section
variable{F:Type}[Ta F]{n:Int}
def zoj{φ:Po F}(a:u.length=l.length):setP (λt=>φ t+x*sh l (cutP ψ S) t) (addT l u) (φ (addT l u)+x * ψ u)=λt=>φ t+x*sh l (cutP ψ (S++[u])) t:=funext λt=>by
 have e:=congrFun (zhc (x:=x) (ψ:=ψ) (S:=S) a) t;by_cases c:t=addT l u
 ·subst c;rw[zey]at e ⊢;rw[e]
 ·rw[zck c]at e ⊢;rw[e]
end
end G
namespace G
open L2 PySem K1 K2 K3 K6 K8 K37 K10 K20
def wt(kd:Int)(t:Lc):Int:=(if kd=0 then 6 else 1)*t.getD 0 0+t.getD 1 0
def zqf(h:a.length=b.length):wt kd (addT a b)=wt kd a+wt kd b:=by
 unfold wt;rw[zb8 h,zb8 h,Int.mul_add];lia
def zg3(h:a.length=b.length):wt kd (subT a b)=wt kd a-wt kd b:=by
 unfold wt;rw[zea h,zea h,Int.mul_sub];lia
def wt_p(h:T0 m t):0<=wt kd t/\t.getD 0 0<=wt kd t/\t.getD 1 0<=wt kd t:=by
 have a:=h.nn 0;have b:=h.nn 1;unfold wt;split <;> lia
def zhs(h:T0 2 t)(w:wt kd t<=N):∀x∈t,x<=N:=by
 have p:=wt_p (kd:=kd) h;match t,h.len with
 | [a,b],_=>
  intro x c;simp at c p;rcases c with rfl | rfl <;> lia
def box(N:Nat):Lb:=(List.range (N+1)).flatMap λa:Nat=>(List.range (N+1)).map λb:Nat=>[(a:Int),(b:Int)]
def box_mem:t∈box N↔∃a b,a<=N/\b<=N/\t=[(a:Int),(b:Int)]:=by
 unfold box;rw[List.mem_flatMap];constructor
 ·rintro⟨a,c,h⟩;obtain⟨b,d,rfl⟩:=Ji.mp h;rw[List.mem_range]at c d;exact⟨a,b,by lia,by lia,rfl⟩
 ·rintro⟨a,b,c,d,rfl⟩;exact⟨a,List.mem_range.mpr (by lia),Ji.mpr ⟨b,List.mem_range.mpr (by lia),rfl⟩⟩
def zj4{N:Nat}(h:T0 2 t)(w:wt kd t<=N):t∈box N:=by
 have p:=zhs h w;match t,h.len with
 | [a,b],_=>
  have c:=h.mem a (by simp);have d:=h.mem b (by simp);have a1:=p a (by simp);have b1:=p b (by simp);exact box_mem.mpr ⟨a.toNat,b.toNat,by lia,by lia,by rw[Int.toNat_of_nonneg c,Int.toNat_of_nonneg d]⟩
def zlu(h:t∈box N):T0 2 t:=by
 obtain⟨a,b,_,_,rfl⟩:=box_mem.mp h;exact T0.of rfl λx c=>by simp at c;lia
theorem zop{α j : Type}{f : α->List j}:∀{l:List α},l.Nodup->(∀a∈l,(f a).Nodup)->(∀a∈l,∀b∈l,∀x,x∈f a->x∈f b->a=b)->(l.flatMap f).Nodup
 | [],_,_,_=>List.nodup_nil
 | a::l,n,h1,h2=>by
  rw[List.flatMap_cons,List.nodup_append];obtain⟨o,m⟩:=List.nodup_cons.mp n;refine⟨h1 a (.head _),zop m (λb d=>h1 b (.tail _ d)) λb d c p=>h2 b (.tail _ d) c (.tail _ p),λx i y h e=>?_⟩;subst e;obtain⟨b,d,h⟩:=List.mem_flatMap.mp h;have:=h2 a (.head _) b (.tail _ d) x i h;subst this;exact o d
def zoo(N:Nat):(box N).Nodup:=by
 refine zop List.nodup_range (λa _=>?_) λa _ b _ x f i=>?_
 ·refine List.pairwise_map.mpr (List.Pairwise.imp (R:=(·≠·)) (fun{x y} (h:x≠y)=>?_) List.nodup_range);intro e;simp at e;lia
 ·obtain⟨c,_,rfl⟩:=Ji.mp f;obtain⟨d,_,e⟩:=Ji.mp i;simp at e;lia
theorem zlz{α c : Type}{f : α->List c}:∀{l:List α},(∀a∈l,(f a).length=k)->(l.flatMap f).length=l.length*k
 | [],_=>by simp
 | a::l,h=>by rw[List.flatMap_cons,Y5,h a (.head _),zlz λb d=>h b (.tail _ d),Y4,Nat.succ_mul];lia
def zon(N:Nat):(box N).length=(N+1)*(N+1):=by
 unfold box;rw[zlz (k:=N+1) λa _=>by simp];simp
section
variable{F:Type}[Ta F]{n:Int}{H:Hp}{cr:Ka}{φ ψ : Po F}{kd N M:Int}
def Bd(kd N:Int)(φ:Po F):Prop:=∀t,φ t≠0->wt kd t<=N
def Bd.up(h:Bd kd N φ)(e:N<=M):Bd kd M φ:=λt a=>Int.le_trans (h t a) e
def Bd.zero:Bd kd N (λ_=>(0:F)):=λt a=>absurd rfl a
def Bd.add(h:Bd kd N φ)(h':Bd kd N ψ):Bd kd N (λt=>φ t + ψ t):=λt a=>by
 by_cases c : φ t=0
 ·exact h' t λz=>a (by show φ t + ψ t=0;rw[c,z];grind)
 ·exact h t c
def Bd.smul(x:F)(h:Bd kd N φ):Bd kd N (λt=>x * φ t):=λt a=>h t λz=>a (by show x * φ t=0;rw[z];grind)
def Bd.set(h:Bd kd N φ){k:Lc}(x:F)(b:wt kd k<=N):Bd kd N (setP φ k x):=λt a=>by
 by_cases c:t=k
 ·rw[c];exact b
 ·rw[zck c]at a;exact h t a
def Bd.set0(h:Bd kd N φ)(k:Lc):Bd kd N (setP φ k 0):=λt a=>by
 by_cases c:t=k
 ·rw[c,zey]at a;exact absurd rfl a
 ·rw[zck c]at a;exact h t a
def Bd.sh{l:Lc}(b:T0 2 l)(sp:Spt 2 ψ)(h:∀u,ψ u≠0->wt kd l+wt kd u<=N):Bd kd N (sh l ψ):=λt d=>by
 obtain⟨t0,_,a,e⟩:=zna b sp d;have c:=sp _ a;rw[e,zqf (by rw[b.len,c.len])];exact h _ a
def Bd.len{N:Nat}(h:PF n 2 H cr φ)(b:Bd kd N φ):cr.length<=(N+1)*(N+1):=by
 rw[<- zon N,<- zb3 cr];exact zb1 h.tnd λt a=>zj4 (h.sp t (h.tmem.mp a)) (b t (h.tmem.mp a))
def Bd.hds(h:PF n 2 H cr φ)(b:Bd kd 99 φ):HDs cr:=by
 refine⟨tms cr,h.keys,?_⟩;refine List.pairwise_map.mpr (List.Pairwise.imp_of_mem (fun{a c} ha hc ne e=>ne ?_) h.tnd);have i:=h.sp a (h.tmem.mp ha);have f:=h.sp c (h.tmem.mp hc);exact H2.hsI_inj i f (λx d=>by have:=zhs i (b a (h.tmem.mp ha)) x d;lia) (λx d=>by have:=zhs f (b c (h.tmem.mp hc)) x d;lia) e
def mulB(φ ψ : Po F):Po F:=mul (box 99) φ ψ
def zo0(h:PF n 2 H cr φ)(b:Bd kd 99 φ):mul (tms cr) φ ψ = mulB φ ψ:=zum h.tnd (zoo 99) (λt a=>h.tmem.mpr a) λt a=>zj4 (h.sp t a) (b t a)
def Bd.mulB(d:Spt 2 φ)(b:Spt 2 ψ)(b1:Bd kd N φ)(b2:Bd kd M ψ):Bd kd (N+M) (mulB φ ψ):=λt c=>by
 obtain⟨o,_,a,h⟩:=zxk c;refine Bd.sh (d o a) b (N:=N+M) (λu e=>?_) t h;have:=b1 o a;have:=b2 u e;lia
def smm(k:Nat)(ms gs:Nat->Po F):Po F:=λt=>sm (λi=>mulB (ms i) (gs i) t) (List.range k)
def zt1(k:Nat)(b a:Nat->Po F):smm (k+1) b a=λt=>smm k b a t+mulB (b k) (a k) t:=funext λt=>by
 unfold smm;rw[List.range_succ,znx]
def Tame(kd:Int)(rk:Lc->Lc)(φ:Po F):Prop:=∀h,Ld rk φ h->∀u,φ u≠0->wt kd u<=wt kd h
def zlr(k:kd≠0){t:Lc}(h:t.length=2):wt kd t=t.sum:=by
 match t,h with
 | [a,b],_=>unfold wt;rw[Yh k];simp
def zsr(h:HT.lexLt (a::l) (b::l')=true):a<=b:=by
 rw[HT.lexLt_cons]at h;by_cases c:a=b
 ·lia
 ·rw[Yh c]at h;have:=Jj h;lia
def zy0(k:kd≠0)(sp:Spt 2 φ):Tame kd rkD φ:=λh a u b=>by
 rw[zlr k (sp u b).len,zlr k (sp h a.1).len];rcases a.2 u b with rfl | q
 ·exact Int.le_refl _
 ·exact zsr q
def zys(k:kd≠0)(sp:Spt 2 φ):Tame kd rkT φ:=λh a u b=>by
 rw[zlr k (sp u b).len,zlr k (sp h a.1).len];rcases a.2 u b with rfl | q
 ·exact Int.le_refl _
 ·exact zsr q
def zy4(sp:Spt 2 φ)(b:∀t,φ t≠0->t.getD 1 0<=5):Tame 0 rkL φ:=λh i u j=>by
 rcases i.2 u j with rfl | q
 ·exact Int.le_refl _
 have f:HT.lexLt u h=true:=q;have b1:=b u j;have l:=(sp h i.1).nn 1;match u,h,(sp u j).len,(sp h i.1).len with
 | [a,b],[c,d],_,_=>
  rw[HT.lexLt_cons]at f;simp at b1 l;unfold wt;simp;by_cases e:a=c
  ·rw[Yl e,HT.lexLt_cons]at f;by_cases e2:b=d
   ·lia
   ·rw[Yh e2]at f;have:=Jj f;lia
  ·rw[Yh e]at f;have:=Jj f;lia
def wfK(h0:0<=kd)(h3:kd<3){rk:Lc->Lc}(e:rk=if kd=0 then rkL else if kd=1 then rkD else rkT)(P:Lc->Prop)(a:∀T,T0 2 T->(∀T',T0 2 T'->lt rk T' T->P T')->P T):∀T,T0 2 T->P T:=by
 by_cases c0:kd=0
 ·rw[Yl c0]at e;subst e;exact wfL 2 P a
 by_cases c1:kd=1
 ·rw[Yh c0,Yl c1]at e;subst e;exact wfD 2 P a
 ·rw[Yh c0,Yh c1]at e;subst e;exact wfT 2 P a
variable{rk:Lc->Lc}{ks:List Nat}{gs:Nat->Po F}{h:Nat->Lc}
def zs2(R:BRow rk 2 ks gs h){k:Nat}(q:Nat->Po F)(a:∀i,i<k->(∃t,gs i t≠0)->i∈ks):Cb 2 ks gs h (λ_=>True) (smm k q gs):=by
 refine Cb.sm (f:=λi=>mulB (q i) (gs i)) λi hi=>?_
 by_cases c:i∈ks
 ·refine Cb.sm (f:=λo t=>q i o*sh o (gs i) t) λo b=>?_
  exact(Cb.one c (zlu b) trivial).smul (q i o)
 ·refine Cb.zero.congr λt=>zc2 λo _=>?_
  have z:∀t,gs i t=0:=λt=>Classical.byContradiction λn=>c (a i (List.mem_range.mp hi) ⟨t,n⟩)
  unfold sh;split
  ·rw[z];grind
  ·grind
def zxp(R:BRow rk 2 ks gs h)(p:Po F){ψ:Po F}(c:Cb 2 ks gs h (λ_=>True) ψ):Cb 2 ks gs h (λ_=>True) (mulB p ψ):=by
 refine Cb.sm (f:=λo t=>p o*sh o ψ t) λo a=>?_
 exact(Cb.sh R (zlu a) c λ_ _ _=>trivial).smul (p o)
def never(R:BRow rk 2 ks gs h)(b:∀i∈ks,∀j∈ks,Good rk 2 ks gs h i j)(y:∀P:Lc->Prop,(∀T,T0 2 T->(∀T',T0 2 T'->lt rk T' T->P T')->P T)->∀T,T0 2 T->P T)
  {k d:Nat} (m:∀i,i<k->(∃t,gs i t≠0)->i∈ks) {e c:Nat->Po F} {bk:Nat->Nat->Po F} {q:Nat->Po F} {a φ : Po F} (o:∀t,φ t=smm d e c t) (x:∀j,j<d->∀t,smm k (bk j) gs t=c j t) (r:∀t,smm k q gs t + a t = φ t) (w:∃t,a t≠0) (sp:Spt 2 a) (z:∀t,a t≠0->∀i∈ks,zb0 (h i) t=false):False:=by
 have B:Cb 2 ks gs h (λ_=>True) (smm d e c):=Cb.sm (f:=λj=>mulB (e j) (c j)) λj A=>zxp R _ ((zs2 R (bk j) m).congr λt=>(x j (List.mem_range.mp A) t).symm)
 have p:Cb 2 ks gs h (λ_=>True) a:=(B.sub (zs2 R q m)).congr λt=>by
  rw[<- o,<- r];grind
 obtain⟨i,hi,u,s,l⟩:=zqw R b y p w;have:=z _ l.1 i hi;rw[zpd s (R.t0 hi)]at this
 cases this
end
end G
namespace K6
open PySem L2
def xg{S G:Prop}(h:∀g,g=G->S->g):S->G:=h G rfl
def sab(h:∀r,r=R->tSeq A r D σ H):tSeq A R D σ H:=h R rfl
def sM(h:sc.kind=.function/\sc.isCoroutine=false/\sc.isGenerator=false/\N.Nodup/\N.take P.length=P/\(∀x∈P,sc.names.lookup x=some .local\/sc.names.lookup x=some .cell)/\∀y∈sc.names,y.2≠.free):FnScope N P sc:=⟨h.1,h.2.1,h.2.2.1,h.2.2.2.1,h.2.2.2.2.1,h.2.2.2.2.2.1,h.2.2.2.2.2.2⟩
def okS{P:Ll}{w:Lk}{K:Li}{c:Sa}{base:Lo}{CX:CXT}{k:Nat}{f:Lg}{a:FuncData}{ps:List Lp}{sp:Sp}{e i:Lp}{st:Lm}{d:Lh}(N:List Lp)(_:FunD K e i st d f a)(b:FnScope N ps (za5 st)->FnOk P w K c base CX k f a ps sp)(h:(za5 st).kind=.function/\(za5 st).isCoroutine=false/\(za5 st).isGenerator=false/\N.Nodup/\N.take ps.length=ps/\(∀x∈ps,(za5 st).names.lookup x=some .local\/(za5 st).names.lookup x=some .cell)/\∀y∈(za5 st).names,y.2≠.free:=by decide +kernel):FnOk P w K c base CX k f a ps sp:=b (sM h)
def top(i:Nat):Lm:=PySem.Challenge.pw_idealroom_k45_never_both.main.body.getD i (.Pass ⟨0,0,0,0⟩)
abbrev zdq:Lm:=top 28
abbrev zhl:Lm:=top 29
abbrev zdn:Lm:=zbw (top 30) 0
abbrev zdp:Lm:=zbw (top 31) 0
abbrev zej:Lm:=zbw (top 31) 1
abbrev zfr:Lm:=zbw (top 31) 4
abbrev zev:Lm:=zbw (top 31) 5
abbrev zl3:Lm:=top 14
abbrev zfp:Lm:=zbw (top 55) 0
abbrev zep:Lm:=zbw (top 56) 0
abbrev zfz:Lm:=zbw (top 57) 0
abbrev zfn:Lm:=zbw (top 55) 5
abbrev zdw:Lm:=zbw (top 55) 3
abbrev zd9:Lm:=zbw (top 60) 0
abbrev zj3:Lm:=top 9
abbrev zg2:Lm:=top 10
abbrev zgj:Lm:=top 11
abbrev zma:Lm:=top 17
abbrev zmb:Lm:=top 18
abbrev zfk:Lm:=top 21
abbrev zda:Lm:=zbw (top 24) 2
abbrev zez:Lm:=zbw (top 24) 1
abbrev zc9:Lm:=zbw (top 24) 0
abbrev zd3:Lm:=zbw (top 24) 4
abbrev zdx:Lm:=zbw (top 25) 0
abbrev zd5:Lm:=zbw (top 25) 1
abbrev zkb:Lm:=top 38
abbrev zc5:Lm:=top 34
abbrev zht:Lm:=top 35
abbrev zgr:Lm:=top 33
abbrev zj7:Lm:=top 36
abbrev zca:Lm:=zbw (top 39) 2
abbrev zjr:Lm:=top 12
abbrev ze6:Lm:=top 13
abbrev zb2:Lm:=zbw (top 39) 3
abbrev zc8:Lm:=zbw (top 39) 0
abbrev zh2:Lm:=top 42
abbrev zjl:Lm:=top 43
abbrev zl4:Lm:=top 44
abbrev zdu:Lm:=top 41
abbrev zfc:Lm:=top 45
abbrev zjw:Lm:=top 46
abbrev zoh:Lm:=top 20
abbrev zsx:Lm:=top 19
abbrev zlk:Lm:=top 22
abbrev zg1:Lm:=top 48
abbrev zfx:Lm:=top 49
abbrev zji:Lm:=top 50
abbrev zgg:Lm:=top 51
abbrev zd2:Lm:=top 52
abbrev zox:Lm:=top 53
abbrev zga:Lm:=top 62
abbrev zd4:Lm:=top 63
abbrev zfq:Lm:=top 64
abbrev ze5:Lm:=top 65
abbrev zf6:Lm:=top 66
abbrev zdg:Lm:=top 67
abbrev zfs:Lm:=top 68
abbrev zg6:Lm:=top 69
abbrev ze0:Lm:=top 70
abbrev zha:Lm:=top 73
abbrev zg8:Lm:=top 72
abbrev zgf:Lm:=top 71
abbrev zft:Lm:=top 74
abbrev zem:Lm:=top 75
abbrev zeo:Lm:=top 76
abbrev zfh:Lm:=top 77
abbrev zg9:Lm:=top 78
abbrev zfy:Lm:=top 79
abbrev zgl:Lm:=top 80
abbrev zg5:Lm:=top 81
abbrev zgm:Lm:=top 82
abbrev zei:Lm:=top 83
abbrev zj9:Lm:=top 84
structure Txt(P:Ll)(w:Lk)(K:Li)(mg:Sa)(base:Lo)(zan zai zac zae zaj zam zay zak:Lg):Prop where
 b_abs:mg "abs" = none
 b_all:mg "all" = none
 b_dict:mg "dict" = none
 b_enumerate:mg "enumerate" = none
 b_int:mg "int" = none
 b_len:mg "len" = none
 b_list:mg "list" = none
 b_max:mg "max" = none
 b_min:mg "min" = none
 b_range:mg "range" = none
 b_reversed:mg "reversed" = none
 b_sorted:mg "sorted" = none
 b_sum:mg "sum" = none
 b_tuple:mg "tuple" = none
 b_zip:mg "zip" = none
 cl_Ring:Cls K zan
 mg_Ring:mg "Ring" = some (.ref zan)
 na_Ring_many:NoAttr K zan "many"
 na_Ring_field:NoAttr K zan "field"
 na_Ring_order:NoAttr K zan "order"
 cl_Rests:Cls K zai
 mg_Rests:mg "Rests" = some (.ref zai)
 na_Rests_prime:NoAttr K zai "prime"
 cl_Order:Cls K zac
 mg_Order:mg "Order" = some (.ref zac)
 n0_Order:Mk0 K zac
 cl_Degrees:Cls K zae
 mg_Degrees:mg "Degrees" = some (.ref zae)
 n0_Degrees:Mk0 K zae
 cl_Tails:Cls K zaj
 mg_Tails:mg "Tails" = some (.ref zaj)
 n0_Tails:Mk0 K zaj
 cl_Waiting:Cls K zam
 mg_Waiting:mg "Waiting" = some (.ref zam)
 na_Waiting_order:NoAttr K zam "order"
 na_Waiting_known:NoAttr K zam "known"
 na_Waiting_queue:NoAttr K zam "queue"
 cl_Leads:Cls K zay
 mg_Leads:mg "Leads" = some (.ref zay)
 na_Leads_pairs:NoAttr K zay "pairs"
 cl_Lowering:Cls K zak
 mg_Lowering:mg "Lowering" = some (.ref zak)
 na_Lowering_ring:NoAttr K zak "ring"
 na_Lowering_leads:NoAttr K zak "leads"
 na_Lowering_wholes:NoAttr K zak "wholes"
 g_GREATEST_PRIME:∃tk,mg "GREATEST_PRIME" = some (.int 9973 tk)
 g_LETTERS:∃tk,mg "LETTERS" = some (.str "xyzt" tk)
abbrev Cq(_:Txt P w K mg base zan zai zac zae zaj zam zay zak):=Cal P w K mg base CX0
abbrev Fq(_:Txt P w K mg base zan zai zac zae zaj zam zay zak):=FnOk P w K mg base CX0
abbrev Mq(_:Txt P w K mg base zan zai zac zae zaj zam zay zak):=MCal P w K mg base CX0
abbrev Kq(_:Txt P w K mg base zan zai zac zae zaj zam zay zak):=Mak P w K mg base CX0
def zli:(["power"]:List Lp).Nodup:=by decide +kernel
def zbp:(["power","further"]:List Lp).Nodup:=by decide +kernel
def zel:(["power","bound"]:List Lp).Nodup:=by decide +kernel
def zek:(["power","whole"]:List Lp).Nodup:=by decide +kernel
def zfv:(["at","f","ring"]:List Lp).Nodup:=by decide +kernel
def zjb:(["f","ring"]:List Lp).Nodup:=by decide +kernel
def zc7:(["pair","leads","turns"]:List Lp).Nodup:=by decide +kernel
def zch:(["multiples","f","ring","row"]:List Lp).Nodup:=by decide +kernel
def zew:(["term","leads"]:List Lp).Nodup:=by decide +kernel
def zdv:(["_law_x","_law_y"]:List Lp).Nodup:=by decide +kernel
def zbc:(["_law_a","_law_b"]:List Lp).Nodup:=by decide +kernel
def zjf:(["_law_d"]:List Lp).Nodup:=by decide +kernel
def zbo:(["_law_at","_law_cell_here","_law_most"]:List Lp).Nodup:=by decide +kernel
def zjc:(["_law_k"]:List Lp).Nodup:=by decide +kernel
def zj2:(["_law_f"]:List Lp).Nodup:=by decide +kernel
def zds:(["_law_i","_law_k"]:List Lp).Nodup:=by decide +kernel
def zj1:(["_law_g"]:List Lp).Nodup:=by decide +kernel
def zbg:(["_law_k","_law_prime_here","_law_script"]:List Lp).Nodup:=by decide +kernel
def za4:(["_law_k","_law_count","_law_prime_here","_law_script"]:List Lp).Nodup:=by decide +kernel
def uOne(r:Room k A):A.units+1<cLine:=by have:=r.units;lia
def zrr{X:Cx}{x:Lp}{i:Lp}{a:Pos}(b:∃tk,X.mg x=some (.str i tk))(hg:Gl X x)(hd:(x == ("__debug__" : Lp))=false:=by decide):PE X (.Name x a) (tC (.str i)):=by
 obtain⟨tk,e⟩:=b;exact zn9 hg e ⟨tk,Z⟩ hd
end K6
namespace K6
open PySem L2
open K1 K2 K3 K6 K8 K37 G K20
def zid(R:St->Hp->Prop)(c:∀σ' H',R σ' H'->r D σ' H')(b:∀N,(∀σ' H',R σ' H'->N σ' H')->a { D with nx:=N } σ H):tSeq a r D σ H:=by
 unfold tSeq;exact b _ c
inductive spShared(vs:Lf)(H:Hp)(Q:VK)(E:XK):Prop
 | mk (a b:Int) (_:vs=[.int a,.int b]) (_:0<=a/\0<=b/\Q (.int (gI a b)) H)
inductive spField(K:Li)(vs:Lf)(H:Hp)(Q:VK)(E:XK):Prop
 | mk (p C dx:Lg) (v:V) (_:vs=[.ref p,v]) (_:H p=some (.ins C dx [])/\Cls K C/\NoAttr K C "prime"/\Q .non (upd H p (.ins C dx [("prime",v)])))
def cellOf(ns:Lc)(k:Int):Int:=ns.getD k.toNat 0
inductive spCell(K:Li)(vs:Lf)(H:Hp)(Q:VK)(E:XK):Prop
 | mk (a:Lg) (ns:Lc) (k:Int) (_:vs=[.ref a,.int k]) (_:SqL K H a (ns.map V.int)/\0<=k/\Q (.int (cellOf ns k)) H)
def zur{a:Lc}(h0:0<=k)(h:k<(a.length:Int)):atI (a.map V.int) k=some (.int (cellOf a k)):=by
 have b:k.toNat<a.length:=by lia
 have c:k=((k.toNat:Nat):Int):=by lia
 have q:atI (a.map V.int) ((k.toNat:Nat):Int)=some (.int a[k.toNat]):=zbh (by rw[Ym,Yc b] <;> rfl);rw[<- c]at q;rw[q];unfold cellOf;rw[List.getD_eq_getElem?_getD,Yc b];rfl
inductive spPrime(vs:Lf)(H:Hp)(Q:VK)(E:XK):Prop
 | mk (n:Int) (_:vs=[.int n]) (_:n<=9973/\Q (.bl (isP n)) H)
inductive spRests(CR:Lg)(vs:Lf)(H:Hp)(Q:VK)(E:XK):Prop
 | mk (p dx:Lg) (n:Int) (_:vs=[.ref p,.int n]) (_:H p=some (.ins CR dx []) /\
 n<=9973/\isP n=true/\Q .non (upd H p (.ins CR dx [("prime",.int n)])))
def zlv{d n:Int}(h2:2<=d)(h:d<=101) : -(2^64)<d/\d<2^64:=by lia
def NumR(CR:Lg)(H:Hp)(p dx:Lg)(n:Int):Prop:=H p=some (.ins CR dx [("prime",.int n)])/\Pr n/\n<=9973
def no_R(m:Lp)(n:Int)(h:¬m = "prime"):([("prime",V.int n)]:List (Lp×V)).lookup m=none:=by
 have e:(m == (Str.ofString "prime"))=false:=by
  cases q:(m == (Str.ofString "prime")) with
  | true=>exact absurd (Jx q) h
  | false=>rfl
 simp only[List.lookup,e]
def In(n a:Int):Prop:=0<=a/\a<n
inductive spC(v:V)(vs:Lf)(H:Hp)(Q:VK)(E:XK):Prop
 | mk (p:V) (_:vs=[p]) (_:Q v H)
inductive spBinR(CR:Lg)(g:Int->Int->Int->Int)(vs:Lf)(H:Hp)(Q:VK)(E:XK):Prop
 | mk (p dx:Lg) (n a b:Int) (_:vs=[.ref p,.int a,.int b]) (_:NumR CR H p dx n/\In n a/\In n b/\Q (.int (g n a b)) H)
inductive spLPr(vs:Lf)(H:Hp)(Q:VK)(E:XK):Prop
 | mk (c:Int) (_:vs=[.int c]) (_:∀n:Int,isP n=true->n<=9973->Q (.int n) H)
def AtF(CF:Lg)(H:Hp)(p:Lg):Prop:=∃dx,H p=some (.ins CF dx [("prime",.int 0)])
def AtR(CR:Lg)(n:Int)(H:Hp)(p:Lg):Prop:=∃dx,NumR CR H p dx n
def no_P(m:Lp)(n:Int)(h:¬m = "prime"):([("prime",V.int n)]:List (Lp×V)).lookup m=none:=no_R m n h
def AtN(CF CR:Lg)(n:Int):Hp->Lg->Prop:=if n=0 then AtF CF else AtR CR n
def RgO(CG:Lg)(dx:Lg)(m:Int)(pf po:Lg):HO:=.ins CG dx [("many",.int m),("field",.ref pf),("order",.ref po)]
def RgAt(CG:Lg)(H:Hp)(r:Lg)(m:Int)(pf po:Lg):Prop:=∃dx,H r=some (RgO CG dx m pf po)
inductive spPl(n:Int)(At:Hp->Lg->Prop)(vs:Lf)(H:Hp)(Q:VK)(E:XK):Prop
 | mk (F:Type) (_:Ta F) (_:Chr n F) (p:Lg) (v1 v2:V) (x y:F) (_:vs=[.ref p,v1,v2]) (_:At H p/\Rep n H v1 x/\Rep n H v2 y/\Lim n 8900 x/\Lim n 8900 y/\∀v H',Same H H'->Rep n H' v (x+y)->Q v H')
inductive spTi(n:Int)(At:Hp->Lg->Prop)(vs:Lf)(H:Hp)(Q:VK)(E:XK):Prop
 | mk (F:Type) (_:Ta F) (_:Chr n F) (p:Lg) (v1 v2:V) (x y:F) (_:vs=[.ref p,v1,v2]) (_:At H p/\Rep n H v1 x/\Rep n H v2 y/\Lim n 8900 x/\Lim n 8900 y/\∀v H',Same H H'->Rep n H' v (x*y)->Q v H')
inductive spNo(c n:Int)(At:Hp->Lg->Prop)(vs:Lf)(H:Hp)(Q:VK)(E:XK):Prop
 | mk (F:Type) (_:Ta F) (_:Chr n F) (p:Lg) (_:vs=[.ref p]) (_:At H p/\∀v H',Same H H'->Rep n H' v (ic c:F)->Q v H')
structure FldP(P:Ll)(w:Lk)(K:Li)(mg:Sa)(base:Lo)(C:Lg)(At:Hp->Lg->Prop)(n:Int):Prop where
 same:∀{H H':Hp} {p:Lg},(∀b o,H b=some o->(∃C' dx fs,o=.ins C' dx fs)->H' b=some o)->At H p->At H' p
 ins:∀{H:Hp} {p:Lg},At H p->∃dx,H p=some (.ins C dx [("prime",.int n)])
 nought:MCal P w K mg base CX0 1 C "nought" ["self"] [] (spNo 0 n At)
 plus:MCal P w K mg base CX0 3 C "plus" ["self","a","b"] [] (spPl n At)
 times:MCal P w K mg base CX0 3 C "times" ["self","a","b"] [] (spTi n At)
def zt7(a:Pr n)(b:0<=c)(c1:c<=1){At:Hp->Lg->Prop}:∀vs H Q E,spNo c n At vs H Q E->spC (.int c) vs H Q E:=λ_ _ _ _ ⟨F,_,_,p,e,_,k⟩=>
 ⟨.ref p,e,k _ _ (Same.refl _) ((zes (zct a)).mpr ⟨c,Z,b,by have:=a.1;lia,Z⟩)⟩
def zu9{CR:Lg}(d:Pr n):∀vs H Q E,spPl n (AtR CR n) vs H Q E->spBinR CR (λn a b=>(a+b)%n) vs H Q E:=λ_ _ _ _ ⟨F,_,_,p,v1,v2,a,b,e,⟨o,f⟩,s,m,s1,s2,k⟩=>by
 have c:=zct d;have p2:=d.1;obtain⟨x,rfl,j,r,h⟩:=(zes c).mp s;obtain⟨y,rfl,i,q,l⟩:=(zes c).mp m;exact⟨p,o,n,x,y,e,f,⟨j,r⟩,⟨i,q⟩,k _ _ (Same.refl _) ((zes c).mpr ⟨_,Z,Jm _ c,Jc _ (by lia),by rw[zjk,zth,h,l]⟩)⟩
def zu2{CR:Lg}(d:Pr n):∀vs H Q E,spTi n (AtR CR n) vs H Q E->spBinR CR (λn a b=>a*b%n) vs H Q E:=λ_ _ _ _ ⟨F,_,_,p,v1,v2,a,b,e,⟨o,f⟩,s,m,s1,s2,k⟩=>by
 have c:=zct d;have p2:=d.1;obtain⟨x,rfl,j,r,h⟩:=(zes c).mp s;obtain⟨y,rfl,i,q,l⟩:=(zes c).mp m;exact⟨p,o,n,x,y,e,f,⟨j,r⟩,⟨i,q⟩,k _ _ (Same.refl _) ((zes c).mpr ⟨_,Z,Jm _ c,Jc _ (by lia),by rw[zjk,zec,h,l]⟩)⟩
def zwe{d CR:Lg}(j:Pr n)(f:MCal P w K mg base CX0 1 CR "nought" ["self"] [] (spNo 0 n (AtR CR n)))
  (l:MCal P w K mg base CX0 3 CR "plus" ["self","a","b"] [] (spPl n (AtR CR n))) (i:MCal P w K mg base CX0 3 CR "times" ["self","a","b"] [] (spTi n (AtR CR n))):FldP P w K mg base CR (AtN d CR n) n:=by
 have e:AtN d CR n=AtR CR n:=Yh (zct j);rw[e];exact⟨λk ⟨c,h⟩=>⟨c,k _ _ h.1 ⟨_,_,_,Z⟩,h.2⟩,fun⟨c,h⟩=>⟨c,h.1⟩,f,l,i⟩
structure Pws(xs:Lc):Prop where
 len:xs.length<=100
 ne:xs≠[]
 nn:Nn xs
 hi:∀x∈xs,x<10^31
structure OrdC(C:Lg)(At:Hp->Lg->Prop):Prop where
 same:∀{H H':Hp} {p:Lg},Same H H'->At H p->At H' p
 ins:∀{H:Hp} {p:Lg},At H p->∃dx fs,H p=some (.ins C dx fs)/\∀m:Lp,¬m = "weights"->fs.lookup m=none
def AtO(C:Lg)(H:Hp)(p:Lg):Prop:=∃dx,H p=some (.ins C dx [])
def AtW(C:Lg)(ws:Lc)(H:Hp)(p:Lg):Prop:=∃dx wt,H p=some (.ins C dx [("weights",.ref wt)])/\H wt=some (.tup (ws.map V.int))
def zmz(C:Lg):OrdC C (AtO C):=⟨λe ⟨a,h⟩=>⟨a,e _ _ h⟩,fun⟨a,h⟩=>⟨a,[],h,λ_ _=>Z⟩⟩
inductive spDeg(K:Li)(vs:Lf)(H:Hp)(Q:VK)(E:XK):Prop
 | mk (a:Lg) (xs:Lc) (_:vs=[.ref a]) (_:SqT K H a (xs.map V.int)/\Q (.int xs.sum) H)
inductive spRank(At:Hp->Lg->Prop)(rk:Lc->Lc)(vs:Lf)(H:Hp)(Q:VK)(E:XK):Prop
 | mk (p t:Lg) (xs:Lc) (_:vs=[.ref p,.ref t]) (_:At H p/\H t=some (.tup (xs.map V.int))/\Pws xs/\∀r H',Same H H'->H' r=some (.tup ((rk xs).map V.int))->Q (.ref r) H')
def AtK(CO CD CT CW:Lg)(k:Int)(ws:Lc):Hp->Lg->Prop:=if k=0 then AtO CO else if k=1 then AtO CD else if k=2 then AtO CT else AtW CW ws
noncomputable instance instDecNn(ws:Lc):Decidable (Nn ws):=Classical.propDecidable _
inductive spFirst(At:Hp->Lg->Prop)(rk:Lc->Lc)(vs:Lf)(H:Hp)(Q:VK)(E:XK):Prop
 | mk (p l:Lg) (ys:Lf) (xss:Lb) (_:vs=[.ref p,.ref l]) (_:At H p/\H l=some (.lst ys)/\Paired (Trm H) xss ys/\(∀xs∈xss,Pws xs) /\
 ys≠[]/\∀H' xs v,Same H H'->(xs,v)∈xss.zip ys->(∀p∈xss.zip ys,HT.lexLt (rk xs) (rk p.1)=false)->Q v H')
inductive spFits(At:Hp->Lg->Prop)(b:Int->Bool)(vs:Lf)(H:Hp)(Q:VK)(E:XK):Prop
 | mk (p:Lg) (k:Int) (_:vs=[.ref p,.int k]) (_:At H p/\∀H',Same H H'->Q (.bl (b k)) H')
def rkk(kd:Int)(ws xs:Lc):Lc:=if kd=0 then rkL xs else if kd=3 then rkW ws xs else if kd=1 then rkD xs else rkT xs
theorem ziv{K:Li}{rk:Lc->Lc}{l:Lg}{all:Lf}{sp:V->Hp->VK->Prop}{Q:VK}{H:Hp}{Pw:Lc->Prop}
  (j:∀H1 r xs Q,Same H H1->H1 r=some (.tup (xs.map V.int))->Pw xs->(∀k m,Same H1 m->m k=some (.tup ((rk xs).map V.int))->Q (.ref k) m)->sp (.ref r) H1 Q):∀(xss:Lb) (ys:Lf) (xb:Lc) (b:V) (c:Lg) (H1:Hp) (done:Lb),Same H H1->H1 l=some (.lst all)->Paired (Trm H1) xss ys->(∀xs∈xss,Pw xs) ->
  SqT K H1 c ((rk xb).map V.int)->(∀d∈done,HT.lexLt (rk xb) (rk d)=false) ->
  (∀H' x v,Same H H'->((x,v)=(xb,b)\/(x,v)∈xss.zip ys)->(∀d∈done,HT.lexLt (rk x) (rk d)=false)->(∀d∈xss,HT.lexLt (rk x) (rk d)=false)->Q v H') ->
  mxGo K l all sp ys b (.ref c) H1 Q
 | [],_,xb,b,c,H1,done,e,_,.nil,_,_,hd,hQ=>hQ H1 xb b e (.inl rfl) hd (λ_ h=>nomatch h)
 | xs::xss,_::ys,xb,b,c,H1,done,e,hl,.cons ⟨r,er,hr⟩ t,hw,hc,hd,hQ=>by
  subst er;refine j H1 r xs _ e hr (hw xs (.head _)) λk m i s=>have o:=SqT.of (K:=K) s;⟨i _ _ hl,k,c,rk xs,rk xb,Z,Z,o,i.seqT hc,λp=>?_,λy=>?_⟩
  ·refine ziv j xss ys xs (.ref r) k m (xs::xb::done) (e.trans i) (i _ _ hl) (pimp (λ_ _ h=>h.same i) t) (λx w=>hw x (.tail _ w)) o (λd h=>?_) λH' x v z f n A=>hQ H' x v z (.inr ?_) (λd a=>n d (.tail _ (.tail _ a))) (λd a=>?_)
   ·rcases Yj.mp h with rfl | h
    ·exact zgt _
    rcases Yj.mp h with rfl | h
    ·exact zui p
    ·cases q:HT.lexLt (rk xs) (rk d) with
     | false=>rfl
     | true=>have:=zr2 p q;rw[hd d h]at this;cases this
   ·rcases f with f | f
    ·rw[f];exact .head _
    ·exact .tail _ f
   ·rcases Yj.mp a with rfl | a
    ·exact n d (.head _)
    ·exact A d a
  ·refine ziv j xss ys xb b c m (xs::done) (e.trans i) (i _ _ hl) (pimp (λ_ _ h=>h.same i) t) (λx w=>hw x (.tail _ w)) (i.seqT hc) (λd h=>?_) λH' x v z f n A=>hQ H' x v z ?_ (λd a=>n d (.tail _ a)) (λd a=>?_)
   ·rcases Yj.mp h with rfl | h
    ·exact y
    ·exact hd d h
   ·rcases f with f | f
    ·exact .inl f
    ·exact .inr (.tail _ f)
   ·rcases Yj.mp a with rfl | a
    ·exact n d (.head _)
    ·exact A d a
theorem zu1{rk:Lc->Lc}{Pw:Lc->Prop}
  (f:∀H1 r xs Q,Same H H1->H1 r=some (.tup (xs.map V.int))->Pw xs->(∀k c,Same H1 c->c k=some (.tup ((rk xs).map V.int))->Q (.ref k) c)->sp (.ref r) H1 Q):∀xss ys,H l=some (.lst all)->Paired (Trm H) xss ys->(∀xs∈xss,Pw xs)->ys≠[] ->
  (∀H' x v,Same H H'->(x,v)∈xss.zip ys->(∀q∈xss.zip ys,HT.lexLt (rk x) (rk q.1)=false)->Q v H') ->
  zp4 K l all sp ys H Q
 | [],_,_,.nil,_,ne,_=>absurd rfl ne
 | xs::xss,_::ys,hl,.cons ⟨r,er,hr⟩ t,hw,_,k=>by
  subst er;refine f H r xs _ (Same.refl _) hr (hw xs (.head _)) λs c i e=>have j:=SqT.of (K:=K) e;⟨i _ _ hl,?_⟩
  refine ziv f xss ys xs (.ref r) s c [xs] i (i _ _ hl) (pimp (λ_ _ h=>h.same i) t) (λx m=>hw x (.tail _ m)) j (λd hd=>?_) λH' x v n b p o=>k H' x v n ?_ λq a=>?_
  ·rw[Yq.mp hd];exact zgt _
  ·rcases b with b | b
   ·rw[b];exact .head _
   ·exact .tail _ b
  ·rcases Yj.mp a with rfl | a
   ·exact p _ (.head _)
   ·exact o _ (List.of_mem_zip a).1
def zxa(b:OrdC C At){Q:VK}(a:Lb)(ys:Lf)(H:Hp)(i:At H p)(h:H l=some (.lst all))(d:Paired (Trm H) a ys)(hw:∀xs∈a,Pws xs)(j:ys≠[])
  (k:∀H' x v,Same H H'->(x,v)∈a.zip ys->(∀q∈a.zip ys,HT.lexLt (rk x) (rk q.1)=false)->Q v H') :
  zp4 K l all (λx H Q=>spRank At rk [.ref p,x] H Q E0) ys H Q:=
 zu1 (Pw:=Pws) (λ_ r xs _ e f c kk=>⟨p,r,xs,Z,b.same e i,f,c,kk⟩) a ys h d hw j k
def fbK(kd:Int)(ws:Lc)(m:Int):Bool:=if kd=3 then decide ((ws.length:Int)=m) else true
def okR(kd:Int)(ws:Lc)(m:Int):Prop:=1<=m/\m<=4/\fbK kd ws m=true
inductive spRgInit(CG CO CD CT CW:Lg)(vs:Lf)(H:Hp)(Q:VK)(E:XK):Prop
 | mk (r dx:Lg) (m:Int) (pf po:Lg) (kd:Int) (ws:Lc) (_:vs=[.ref r,.int m,.ref pf,.ref po]) (_:H r=some (.ins CG dx [])/\0<=kd/\kd<3/\Nn ws/\(∀x∈ws,x<10^31)/\AtK CO CD CT CW kd ws H po /\
 okR kd ws m/\∀H',H' r=some (RgO CG dx m pf po)->(∀b o,H b=some o->b≠r->H' b=some o)->Q .non H')
def zsl:((("xyzt" : Lp).length:Nat):Int)=4:=by decide +kernel
def atI0{a b:V}:atI [a,b] 0=some a:=rfl
def atI1{a b:V}:atI [a,b] 1=some b:=rfl
def zl(n:Nat)(h:n<=10000000):n<=sizeLine:=Yr h (by rw[sizeLine_eq];decide)
def zlt(n:Nat)(h:n<=10000000):n<sizeLine:=Yp h (by rw[sizeLine_eq];decide)
structure OrdP(P:Ll)(w:Lk)(K:Li)(mg:Sa)(base:Lo)(C:Lg)(At:Hp->Lg->Prop)(rk:Lc->Lc)(fb:Int->Bool):Prop where
 oC:OrdC C At
 fits:MCal P w K mg base CX0 1 C "fits" ["self","many"] [] (spFits At fb)
 rank:MCal P w K mg base CX0 3 C "rank" ["self","term"] [] (spRank At rk)
 first:MCal P w K mg base CX0 6 C "first_of" ["self","terms"] [] (spFirst At rk)
structure RgD where
 m:Nat
 pf:Lg
 po:Lg
 n:Int
 kd:Int
 ws:Lc
def RgD.rk(g:RgD):Lc->Lc:=rkk g.kd g.ws
structure RgP(CG CF CR CO CD CT CW:Lg)(H:Hp)(r:Lg)(g:RgD):Prop where
 nb:g.n<=9973
 np:Pr g.n
 m1:1<=g.m
 m4:g.m<=4
 k0:0<=g.kd
 k4:g.kd<3
 wn:Nn g.ws
 wb:∀x∈g.ws,x<10^31
 at_:RgAt CG H r g.m g.pf g.po
 fd:AtN CF CR g.n H g.pf
 od:AtK CO CD CT CW g.kd g.ws H g.po
def zkr{a CR:Lg}(k:Fix H H')(h:AtN a CR n H p):AtN a CR n H' p:=by
 by_cases z:n=0
 ·subst z;have e:AtN a CR 0=AtF a:=Yl rfl;rw[e]at h ⊢;obtain⟨b,q⟩:=h;exact⟨b,k.ins q⟩
 ·have e:AtN a CR n=AtR CR n:=Yh z;rw[e]at h ⊢;obtain⟨b,q⟩:=h;exact⟨b,k.ins q.1,q.2⟩
def zf9(k:Fix H H')(h:AtK CO CD CT CW kd ws H p):AtK CO CD CT CW kd ws H' p:=by
 unfold AtK at h ⊢
 repeat' split at h
 all_goals (first | rw[Yl (by assumption)] | skip)
 all_goals (first | rw[Yh (by assumption)] | skip)
 all_goals (first | rw[Yl (by assumption)] | skip)
 all_goals (first | rw[Yh (by assumption)] | skip)
 all_goals (first | rw[Yl (by assumption)] | skip)
 all_goals (first | rw[Yh (by assumption)] | skip)
 all_goals (first | (obtain⟨a,q⟩:=h;exact⟨a,k.ins q⟩) | (obtain⟨a,wt,q,b⟩:=h;exact⟨a,wt,k.ins q,k.tup _ _ b⟩))
section
variable{CG CF CR CO CD CT CW:Lg}{H H':Hp}{r:Lg}{g:RgD}
def RgP.fix(k:Fix H H')(h:RgP CG CF CR CO CD CT CW H r g):RgP CG CF CR CO CD CT CW H' r g:=by
 obtain⟨a,q⟩:=h.at_;exact⟨h.nb,h.np,h.m1,h.m4,h.k0,h.k4,h.wn,h.wb,⟨a,k.ins q⟩,zkr k h.fd,zf9 k h.od⟩
def RgP.same(e:Same H H')(h:RgP CG CF CR CO CD CT CW H r g):RgP CG CF CR CO CD CT CW H' r g:=h.fix (.of e)
def zlm(kd:Int){ws:Lc}(a:Nn ws)(m:Nat):OrdM (rkk kd ws) m:=by
 unfold rkk;by_cases c0:kd=0
 ·simp only[c0,if_pos];exact ordL m
 ·by_cases c3:kd=3
  ·simp only[c0,c3,if_neg,if_pos,not_false_eq_true];exact ordW a m
  ·by_cases c1:kd=1
   ·simp only[c0,c3,c1,if_neg,if_pos,not_false_eq_true];exact ordD m
   ·simp only[c0,c3,c1,if_neg,not_false_eq_true];exact ordT m
def RgP.om(h:RgP CG CF CR CO CD CT CW H r g):OrdM g.rk g.m:=zlm g.kd h.wn g.m
end
inductive spProd(K:Li)(vs:Lf)(H:Hp)(Q:VK)(E:XK):Prop
 | mk (a b:Lg) (xs ys:Lc) (_:vs=[.ref a,.ref b]) (_:SqT K H a (xs.map V.int)/\SqT K H b (ys.map V.int)/\xs.length<=1000/\∀r H',Same H H'->H' r=some (.tup ((addT xs ys).map V.int))->Q (.ref r) H')
inductive spGoes(K:Li)(vs:Lf)(H:Hp)(Q:VK)(E:XK):Prop
 | mk (a b:Lg) (xs ys:Lc) (_:vs=[.ref a,.ref b]) (_:SqT K H a (xs.map V.int)/\SqT K H b (ys.map V.int)/\xs.length=ys.length/\xs.length<=1000/\∀H',Same H H'->Q (.bl (zb0 xs ys)) H')
inductive spLeft(vs:Lf)(H:Hp)(Q:VK)(E:XK):Prop
 | mk (a b:Lg) (xs ys:Lc) (_:vs=[.ref a,.ref b]) (_:H a=some (.tup (xs.map V.int))/\H b=some (.tup (ys.map V.int))/\xs.length=ys.length/\xs.length<=1000/\zb0 xs ys=true/\∀r H',Same H H'->H' r=some (.tup ((subT ys xs).map V.int))->Q (.ref r) H')
inductive spAbs(CG CF CR CO CD CT CW:Lg)(vs:Lf)(H:Hp)(Q:VK)(E:XK):Prop
 | mk (F:Type) (_:Ta F) (r d e:Lg) (g:RgD) (_:Chr g.n F) (cr fvs:Ka) (φ ψ : Po F) (_:vs=[.ref r,.ref d,.ref e]) (_:RgP CG CF CR CO CD CT CW H r g/\d≠e/\H d=some (.dT cr)/\H e=some (.dT fvs) /\
 PF g.n g.m H cr φ/\PF g.n g.m H fvs ψ/\cr.length+fvs.length<sizeLine/\(∀t,Lim g.n 8900 (φ t))/\(∀t,Lim g.n 8900 (ψ t)) /\
 ∀H' kvs',Kp [d] H H'->H' d=some (.dT kvs')->PF g.n g.m H' kvs' (λt=>φ t + ψ t)->kvs'.length<=cr.length+fvs.length->Q .non H')
inductive spScal(CG CF CR CO CD CT CW:Lg)(vs:Lf)(H:Hp)(Q:VK)(E:XK):Prop
 | mk (F:Type) (_:Ta F) (r:Lg) (v:V) (t e:Lg) (g:RgD) (_:Chr g.n F) (fvs:Ka) (x:F) (l:Lc) (ψ:Po F) (_:vs=[.ref r,v,.ref t,.ref e]) (_:RgP CG CF CR CO CD CT CW H r g /\
 Rep g.n H v x/\Lim g.n 8900 x/\H t=some (.tup (l.map V.int))/\T0 g.m l/\H e=some (.dT fvs)/\PF g.n g.m H fvs ψ/\(∀t,Lim g.n 8900 (ψ t))/\fvs.length<sizeLine /\
 ∀d H' cr,H d=none->Same H H'->H' d=some (.dT cr)->PF g.n g.m H' cr (λt=>x*sh l ψ t)->cr.length<=fvs.length->Q (.ref d) H')
def TmB[Ta F](φ:Po F):Prop:=∀t,φ t≠0->∀x∈t,x<10^31
def zav{α:Type}{l:List α}{a : α}(h:l[i]? = some a):i<l.length:=by
 rcases Jg i l.length with q | q
 ·exact q
 ·rw[Yy q]at h;cases h
def tms_list{m:Nat}{l:Lg}{cr:Ka}{as:Le}(h:cr.map (·.1)=us.map ky)(la:as.length=cr.length)(hi:∀(i:Nat) k x,cr[i]? = some (k,x)->∃a,as[i]? = some a/\H a=some (.tup (k.map kV))):Paired (Trm H) us (as.map V.ref):=by
 have lu:us.length=cr.length:=by have:=Jw List.length h;simpa using this.symm
 have b:∀n,n<=us.length->Paired (Trm H) (us.take n) ((as.map V.ref).take n):=λn=>by
  induction n with
  | zero=>intro _;simp;exact .nil
  | succ n ih=>
   intro hn;have c:n<cr.length:=by lia
   obtain⟨a,e,d⟩:=hi n cr[n].1 cr[n].2 (by simp[c]);have o:ky (us[n]'(by lia))=cr[n].1:=by
    have:=Jw (λx=>x[n]?) h;simp[c,show n<us.length by lia]at this;exact this.symm
   rw[List.take_add_one,List.take_add_one];have f:us[n]? = some (us[n]'(by lia)):=Yc (by lia);have j:(as.map V.ref)[n]? = some (.ref a):=by rw[Ym,e];rfl
   rw[f,j];refine psnoc ⟨a,Z,?_⟩ (ih (by lia));rw[<- o,zce]at d;exact d
 have:=b us.length (Yi _);rwa [List.take_length,List.take_of_length_le (by rw[Yd];lia)]at this
theorem pz{R:Lc->V->Prop}:∀{l} {ys},Paired R l ys->∀p∈l.zip ys,R p.1 p.2
 | _,_,.nil,p,a=>by cases a
 | _,_,.cons r t,p,a=>by
  rcases Yj.mp a with rfl | a
  ·exact r
  ·exact pz t p a
theorem zto{α d : Type}:∀{l:List α} {l':List d} {a},l.length=l'.length->a∈l->∃b,(a,b)∈l.zip l'
 | [],_,_,_,h=>by cases h
 | x::l,[],_,h,_=>by simp at h
 | x::l,y::l',a,h,c=>by
  rcases Yj.mp c with rfl | c
  ·exact⟨y,by simp⟩
  ·obtain⟨b,e⟩:=zto (by simpa using h) c;exact⟨b,by simp[e]⟩
def zeg(a:X.K=K)(b:X.A.units+64<cLine):OpR X (compareOp .NotEq) (zr4 K true):=by
 subst a;exact zvi b
def zn3(h:T0 m t)(m1:1<=m)(m4:m<=4)(a:∀x∈t,x<10^31):Pws t:=⟨by rw[h.len];lia,λz=>by have:=h.len;rw[z]at this;simp at this;lia,h.mem,a⟩
inductive spFT(CG CF CR CO CD CT CW:Lg)(vs:Lf)(H:Hp)(Q:VK)(E:XK):Prop
 | mk (F:Type) (_:Ta F) (r d:Lg) (g:RgD) (_:Chr g.n F) (cr:Ka) (φ:Po F) (_:vs=[.ref r,.ref d]) (_:RgP CG CF CR CO CD CT CW H r g/\H d=some (.dT cr)/\PF g.n g.m H cr φ/\TmB φ/\cr≠[] /\
 ∀H' t a,Same H H'->H' a=some (.tup (t.map V.int))->Ld g.rk φ t->Q (.ref a) H')
theorem pget{R : α->V->Prop}:∀{l} {ys},Paired R l ys->∀{i:Nat} {v},ys[i]? = some v->∃a,l[i]? = some a/\R a v
 | _,_,.nil,_,_,h=>by simp at h
 | _,_,.cons r t,0,_,h=>by simp at h;subst h;exact⟨_,rfl,r⟩
 | _,_,.cons r t,i+1,_,h=>by simp at h;exact pget t h
theorem zfw{α:Type}{dd : α}{q : α->Bool}:∀{l:List α},((List.range l.length).filter λi=>q (l.getD i dd)).map (λi=>l.getD i dd)=l.filter q
 | []=>rfl
 | x::l=>by
  have a:=zfw (dd:=dd) (q:=q) (l:=l);rw[Y4,List.range_succ_eq_map,List.filter_cons,List.filter_cons,List.filter_map];have e:(λi=>q ((x::l).getD i dd)) ∘ Nat.succ=λi=>q (l.getD i dd):=by funext i;rfl
  have b:(x::l).getD 0 dd=x:=rfl;rw[e,b];split
  ·rw[Yz,Jh,b,<- a];rfl
  ·rw[Jh,<- a];rfl
theorem pmapl{R : β->V->Prop}{f : α->β}:∀{l} {ys},Paired (λi v=>R (f i) v) l ys->Paired R (l.map f) ys
 | _,_,.nil=>.nil
 | _,_,.cons r t=>.cons r (pmapl t)
def zux(b:H a=some (.lst ys))(h:Trm H x v):Trm (upd H a (.lst zs)) x v:=by
 obtain⟨r,rfl,q⟩:=h;exact⟨r,Z,by rw[zaf (za7 q b (by intro z;cases z))];exact q⟩
def zh3{J:It}{n:Nat}{P:Nat->V->Hp->Prop}{mp:List (Option Nat)}{q:TI}{g:TG}{s:TT}{r:TE}{m:St}{H H1:Hp}{Q:VK}(S:Walk J H1 n P)(E:n<=1000)(o:∀R,R J H1->q m H R)(h:St->Prop)(p:Nat->Bool)(F:Nat->V->Hp->Prop)
  (f:∀i v H H',Same H H'->F i v H->F i v H') (d:∀i v H a ys ys',H a=some (.lst ys)->F i v H->F i v (upd H a (.lst ys'))) (B:h (st0 mp m))
  (step:∀i x σ' H2,i<n->h σ'->Same H1 H2->P i x H2->∀(Ny:V->St->Hp->Prop) (Nn:St->Hp->Prop),(∀v c j,h c->Same H2 j->F i v j->p i=true->Ny v c j)->(∀c l,h c->Same H2 l->p i=false->Nn c l) ->
   g x σ' H2 λc A=>s c A λb l=>if b=true then r c l λv j=>Ny v c j else Nn c l)
  (C:∀D H' ys,H1 D=none->Same H1 H'->H' D=some (.lst ys)->Paired (λi v=>F i v H') ((List.range n).filter p) ys->Q (.ref D) H'):tComp mp q g s r m H Q:=by
 unfold tComp;refine o _ λD w=>?_
 exact zgk S w (Yr E (by rw[sizeLine_eq];decide)) h p F f d B step λH' ys e y z=>C D H' ys w e y z
theorem papp{R : α->V->Prop}:∀{l l'} {ys zs},Paired R l ys->Paired R l' zs->Paired R (l++l') (ys++zs)
 | _,_,_,_,.nil,h=>h
 | _,_,_,_,.cons r t,h=>.cons r (papp t h)
def zmj{g:TG}{tb:TS}{D:Ends}(c:Nat->St->Hp->Prop)(l:c 0 a H)(s:∀i a H,c i a H->FzD H d o cr)
  (r:∀i k v a H b,cr[i]? = some (k,v)->c i a H->H b=some (.tup (k.map kV))->g (.ref b) a H λe h=>tb { D with nx:=c (i+1),ct:=c (i+1),bk:=D.nx } e h) (hd:∀a H,c cr.length a H->D.nx a H) :
  ∃W:Nat->Nat->St->Hp->Prop,(∃m,W 0 m a H)/\∀i m a H,W i m a H ->
   ((ItK d o cr).stop i H/\D.nx a H)\/((ItK d o cr).go i H/\∃N,(∀f H',N f H'->∃m',m'<m/\W (i+1) m' f H')/\∀x H',(ItK d o cr).yld i H x H'->g x a H' λe h=>tb { D with nx:=N,ct:=N,bk:=D.nx } e h):=by
 refine⟨λi m a H=>m=cr.length-i/\i<=cr.length/\c i a H,⟨cr.length,by simp,Y2 _,l⟩,?_⟩;rintro i m a H ⟨rfl,hi,p⟩;have q:=s i a H p;by_cases hlt:i<cr.length
 ·refine .inr ⟨⟨q,hlt⟩,c (i+1),λf H' w=>⟨cr.length-(i+1),by lia,Z,hlt,w⟩,λx H' y=>?_⟩;obtain⟨rfl,b,k,v,j,n,rfl⟩:=y;exact r i k v a H' b j p n
 ·have z:i=cr.length:=by lia
  subst z;exact .inl ⟨⟨q,Yi _⟩,hd a H p⟩
def Ent(rk:Lc->Lc)(H:Hp)(t:Lc)(v:V):Prop:=∃p r a,v=.ref p/\H p=some (.tup [.ref r,.ref a])/\H r=some (.tup ((rk t).map V.int))/\H a=some (.tup (t.map V.int))
def Ent.fix(e:Fix H H')(h:Ent rk H t v):Ent rk H' t v:=by
 obtain⟨p,r,a,rfl,b,c,d⟩:=h;exact⟨p,r,a,Z,e.tup _ _ b,e.tup _ _ c,e.tup _ _ d⟩
structure Wa(CT:Lg)(rk:Lc->Lc)(H:Hp)(w po kn ql:Lg)(ks us:Lb):Prop where
 at_:∃dx,H w=some (.ins CT dx [("order",.ref po),("known",.ref kn),("queue",.ref ql)])
 kn:∃cr,H kn=some (.dT cr)/\cr.map (·.1)=ks.map ky
 ql:∃vs,H ql=some (.lst vs)/\Paired (Ent rk H) us vs
 nd:ks.Nodup
def Wa.fix{w j kn i:Lg}(h:Wa CT rk H w j kn i ks us)(e:Fix H H')(l:∀o,H kn=some o->H' kn=some o)(m:∀o,H i=some o->H' i=some o):Wa CT rk H' w j kn i ks us:=by
 obtain⟨n,a⟩:=h.at_;obtain⟨cr,b,c⟩:=h.kn;obtain⟨vs,d,f⟩:=h.ql;exact⟨⟨n,e.ins a⟩,⟨cr,l _ b,c⟩,⟨vs,m _ d,pimp (λ_ _ q=>q.fix e) f⟩,h.nd⟩
def Wa.same{w b kn a:Lg}(e:Same H H')(h:Wa CT rk H w b kn a ks us):Wa CT rk H' w b kn a ks us:=h.fix (.of e) (λo=>e _ o) λo=>e _ o
def zqr{c kn b:Lg}(x:Lp)(a:¬x = "order")(d:¬x = "known")(f:¬x = "queue"):([("order",V.ref c),("known",.ref kn),("queue",.ref b)]:List (Lp×V)).lookup x=none:=by
 have e:∀y:Lp,¬x=y->(x == y)=false:=λy h=>by
  cases q:(x == y) with
  | true=>exact absurd (Jx q) h
  | false=>rfl
 simp only[List.lookup,e _ a,e _ d,e _ f]
inductive spPlace(CT:Lg)(vs:Lf)(H:Hp)(Q:VK)(E:XK):Prop
 | mk (w r po kn ql:Lg) (rk:Lc->Lc) (ks us:Lb) (x:Lc) (_:vs=[.ref w,.ref r]) (_:Wa CT rk H w po kn ql ks us/\H r=some (.tup (x.map V.int)) /\
 (∀(i j:Nat) u v,i<j->us[i]? = some u->us[j]? = some v->HT.lexLt (rk v) x=true->HT.lexLt (rk u) x=true)/\us.length<=sizeLine /\
 ∀i:Nat,i<=us.length->(∀(j:Nat) u,us[j]? = some u->(j<i↔HT.lexLt (rk u) x=true))->Q (.int i) H)
def TmOk(m:Nat)(t:Lc):Prop:=T0 m t/\∀x∈t,x<10^31
inductive spPut(CT CO CD CW CWt:Lg)(vs:Lf)(H:Hp)(Q:VK)(E:XK):Prop
 | mk (w d po kn ql:Lg) (kd:Int) (ws:Lc) (m:Nat) (ks us ts:Lb) (cr:Ka) (_:vs=[.ref w,.ref d]) (_:0<=kd/\kd<3/\Nn ws/\(∀x∈ws,x<10^31)/\1<=m/\m<=4/\AtK CO CD CT CW kd ws H po/\Wa CWt (rkk kd ws) H w po kn ql ks us /\
 H d=some (.dT cr)/\cr.map (·.1)=ts.map ky/\(∀t∈ts,TmOk m t)/\d≠kn/\us.Pairwise (lt (rkk kd ws))/\(∀u∈us,u∈ks/\T0 m u)/\ks.length+ts.length<sizeLine/\us.length+ts.length<sizeLine /\
 ∀H' ks' us',Kp [kn,ql] H H'->Wa CWt (rkk kd ws) H' w po kn ql ks' us'->us'.Pairwise (lt (rkk kd ws))->(∀z,z∈us'↔z∈us\/(z∈ts/\z ∉ ks))->(∀z,z∈ks'↔z∈ks\/z∈ts)->ks'.length<=ks.length+ts.length->us'.length<=us.length+ts.length->Q .non H')
inductive spWaInit(CT CO CD CW CWt:Lg)(vs:Lf)(H:Hp)(Q:VK)(E:XK):Prop
 | mk (w dx d po:Lg) (kd:Int) (ws:Lc) (m:Nat) (ts:Lb) (cr:Ka) (_:vs=[.ref w,.ref po,.ref d]) (_:H w=some (.ins CWt dx [])/\po≠w/\0<=kd/\kd<3/\Nn ws/\(∀x∈ws,x<10^31)/\1<=m/\m<=4/\AtK CO CD CT CW kd ws H po /\
 H d=some (.dT cr)/\cr.map (·.1)=ts.map ky/\(∀t∈ts,TmOk m t)/\ts.length<sizeLine /\
 ∀H' kn ql ks us,H kn=none->H ql=none->Kp [w] H H'->Wa CWt (rkk kd ws) H' w po kn ql ks us->us.Pairwise (lt (rkk kd ws))->(∀z,z∈us↔z∈ts)->(∀z,z∈ks↔z∈ts)->ks.length<=ts.length->us.length<=ts.length->Q .non H')
def znp(k:Kp [a] H H')(i:H a=some (.ins C d []))(h:AtK CO CD CT CW kd ws H p)(f:p≠a):AtK CO CD CT CW kd ws H' p:=by
 have c:∀b o,H b=some o->b≠a->H' b=some o:=λb o q j=>k b o q (by simp[j])
 unfold AtK at h ⊢
 repeat' split at h
 all_goals (first | rw[Yl (by assumption)] | skip)
 all_goals (first | rw[Yh (by assumption)] | skip)
 all_goals (first | rw[Yl (by assumption)] | skip)
 all_goals (first | rw[Yh (by assumption)] | skip)
 all_goals (first | rw[Yl (by assumption)] | skip)
 all_goals (first | rw[Yh (by assumption)] | skip)
 all_goals (first | (obtain⟨d,q⟩:=h;exact⟨d,c _ _ q f⟩) | (obtain⟨d,wt,q,e⟩:=h;exact⟨d,wt,c _ _ q f,c _ _ e (za7 e i (by intro z;cases z))⟩))
inductive spTaken(CT:Lg)(vs:Lf)(H:Hp)(Q:VK)(E:XK):Prop
 | mk (w po kn ql:Lg) (rk:Lc->Lc) (ks us:Lb) (t:Lc) (_:vs=[.ref w]) (_:Wa CT rk H w po kn ql ks (us++[t]) /\
 ∀H' a,Kp [ql] H H'->Wa CT rk H' w po kn ql ks us->H' a=some (.tup (t.map V.int))->Q (.ref a) H')
def zm2(O:OrdM rk m){us:Lb}{t:Lc}{i:Nat}(p:us.Pairwise (lt rk))(n:∀u∈us,T0 m u)(o:T0 m t)(r:t ∉ us)(hi:∀j u,us[j]? = some u->(j<i↔HT.lexLt (rk u) (rk t)=true)):(us.take i++t::us.drop i).Pairwise (lt rk):=by
 have e:(us.take i++us.drop i).Pairwise (lt rk):=by rw[List.take_append_drop];exact p
 rw[List.pairwise_append]at e ⊢;have lo:∀u∈us.take i,lt rk u t:=λu f=>by
  obtain⟨j,c⟩:=Jd.mp f;rw[List.getElem?_take]at c;split at c
  ·rename_i q;exact(hi j u c).mp q
  ·cases c
 have up:∀u∈us.drop i,lt rk t u:=λu f=>by
  obtain⟨j,c⟩:=Jd.mp f;rw[List.getElem?_drop]at c;have l:=Yx c;rcases zit O (n u l).len o.len with q | q | q
  ·have:=(hi _ u c).mpr q;lia
  ·subst q;exact absurd l r
  ·exact q
 refine⟨e.1,?_,λa h b d=>?_⟩
 ·rw[List.pairwise_cons];exact⟨λb d=>up b d,e.2.1⟩
 ·rcases Yj.mp d with rfl | d
  ·exact lo a h
  ·exact e.2.2 a h b d
def bo{R : α->V->Prop}{l:List α}(h:Paired R l ys){a : α}{y:V}(r:R a y)(i:Nat):Paired R (l.take i++a::l.drop i) (ys.take i++y::ys.drop i):=by
 have b:∀{l:List α} {ys:Lf},Paired R l ys->∀i,Paired R (l.take i) (ys.take i)/\Paired R (l.drop i) (ys.drop i):=by
  intro l ys h;induction h with
  | nil=>intro i;simp;exact .nil
  | cons r t ih=>
   intro i
   cases i with
   | zero=>simp;exact⟨.nil,.cons r t⟩
   | succ i=>simp;exact⟨.cons r (ih i).1,(ih i).2⟩
 exact papp (b h i).1 (.cons r (b h i).2)
def ztx{α:Type}{l:List α}{a z : α}(i:Nat):z∈l.take i++a::l.drop i↔z∈l\/z=a:=by
 rw[Ju,Yj];have:z∈l↔z∈l.take i\/z∈l.drop i:=by rw[<- Ju,List.take_append_drop]
 rw[this];constructor
 ·rintro(h | h | h)
  ·exact .inl (.inl h)
  ·exact .inr h
  ·exact .inl (.inr h)
 ·rintro((h | h) | h)
  ·exact .inl h
  ·exact .inr (.inr h)
  ·exact .inr (.inl h)
def punsn{R : α->V->Prop}{l:List α}{a : α}(h:Paired R (l++[a]) ys):∃c y,ys=c++[y]/\Paired R l c/\R a y:=by
 induction l generalizing ys with
 | nil=>cases h with | cons r t=>cases t;exact⟨[],_,rfl,.nil,r⟩
 | cons b l ih=>
  cases h with
  | cons r t=>
   obtain⟨c,y,e,p,q⟩:=ih t;exact⟨_::c,y,by rw[e];rfl,.cons r p,q⟩
def LdE(H:Hp)(p:Nat×Lc)(v:V):Prop:=∃q a,v=.ref q/\H q=some (.tup [.int p.1,.ref a])/\H a=some (.tup (p.2.map V.int))
def LdE.fix(e:Fix H H')(h:LdE H p v):LdE H' p v:=by
 obtain⟨q,a,rfl,b,c⟩:=h;exact⟨q,a,Z,e.tup _ _ b,e.tup _ _ c⟩
structure LeA(CL:Lg)(H:Hp)(x pl:Lg)(lds:List (Nat×Lc)):Prop where
 at_:∃dx,H x=some (.ins CL dx [("pairs",.ref pl)])
 pl:∃vs,H pl=some (.lst vs)/\Paired (LdE H) lds vs
def LeA.keep{x pl:Lg}(h:LeA CL H x pl lds)(e:Fix H H')(b:∀o,H pl=some o->H' pl=some o):LeA CL H' x pl lds:=by
 obtain⟨c,a⟩:=h.at_;obtain⟨vs,d,f⟩:=h.pl;exact⟨⟨c,e.ins a⟩,⟨vs,b _ d,pimp (λ_ _ q=>q.fix e) f⟩⟩
structure Row{F:Type}[Ta F](n:Int)(m:Nat)(H:Hp)(b:Lg)(ds:Le)(kvss:List Ka)(gs:Nat->Po F):Prop where
 at_:H b=some (.lst (ds.map V.ref))
 len:ds.length=kvss.length
 row:∀(i:Nat) (d:Lg),ds[i]? = some d->∃cr,kvss[i]? = some cr/\H d=some (.dT cr)/\PF n m H cr (gs i)
 out:∀i,ds.length<=i->∀t,gs i t=0
 b:ds.length<=1000
def Row.same[Ta F]{b:Lg}{a:Nat->Po F}(e:Same H H')(h:Row n m H b ds kvss a):Row n m H' b ds kvss a:=⟨e _ _ h.at_,h.len,λi d hd=>by
 obtain⟨cr,c,j,f⟩:=h.row i d hd;exact⟨cr,c,e _ _ j,f.same e⟩,h.out,h.b⟩
def Row.sp[Ta F]{b:Lg}{a:Nat->Po F}(h:Row n m H b ds kvss a)(i:Nat):Spt m (a i):=λt d=>by
 rcases Jg i ds.length with c | c
 ·obtain⟨cr,_,_,q⟩:=h.row i _ (Yc c);exact q.sp t d
 ·exact absurd (h.out i c t) d
inductive spLeInit(CG CF CR CO CD CT CW CL:Lg)(vs:Lf)(H:Hp)(Q:VK)(E:XK):Prop
 | mk (F:Type) (_:Ta F) (x dx r b:Lg) (g:RgD) (_:Chr g.n F) (ds:Le) (kvss:List Ka) (gs:Nat->Po F) (_:vs=[.ref x,.ref r,.ref b]) (_:H x=some (.ins CL dx [])/\RgP CG CF CR CO CD CT CW H r g/\Row g.n g.m H b ds kvss gs/\(∀i,TmB (gs i)) /\
 ∀H' pl lds,H pl=none->Kp [x] H H'->LeA CL H' x pl lds->LdsOk g.rk g.m ds.length gs lds->Q .non H')
inductive spFit(CL:Lg)(vs:Lf)(H:Hp)(Q:VK)(E:XK):Prop
 | mk (x a pl:Lg) (m:Nat) (lds:List (Nat×Lc)) (t:Lc) (_:vs=[.ref x,.ref a]) (_:LeA CL H x pl lds/\H a=some (.tup (t.map V.int))/\t.length=m/\m<=4/\(∀p∈lds,p.2.length=m)/\(lds.Pairwise λa b=>a.1<b.1) /\
 ((∀p∈lds,zb0 p.2 t=false)->∀H',Same H H'->Q .non H')/\(∀i l,FitL lds t i l->∀H' q a',Same H H'->H' q=some (.tup [.int (i:Nat),.ref a'])->H' a'=some (.tup (l.map V.int))->Q (.ref q) H'))
theorem zi9{A:Nat×α->V->Prop}{B:Nat->α->Prop}:∀{is} {vs},Paired (λi v=>∃h,A (i,h) v/\B i h) is vs->∃c,c.map (·.1)=is/\Paired A c vs/\∀p∈c,B p.1 p.2
 | _,_,.nil=>⟨[],rfl,.nil,(λ_ z=>by cases z)⟩
 | _,_,.cons ⟨h,a,b⟩ t=>by
  obtain⟨c,e,p,q⟩:=zi9 t;refine⟨(_,h)::c,by rw[Yz,e],.cons a p,λx d=>?_⟩;rcases Yj.mp d with rfl | d
  ·exact b
  ·exact q x d
inductive spShf(vs:Lf)(H:Hp)(Q:VK)(E:XK):Prop
 | mk (F:Type) (_:Ta F) (n:Int) (m:Nat) (t e:Lg) (l:Lc) (fvs:Ka) (ψ:Po F) (_:vs=[.ref t,.ref e]) (_:H t=some (.tup (l.map V.int))/\T0 m l/\m<=4/\H e=some (.dT fvs)/\PF n m H fvs ψ/\fvs.length<sizeLine /\
 ∀d H' cr,H d=none->Same H H'->H' d=some (.dT cr)->PF n m H' cr (sh l ψ)->cr.length<=fvs.length->Q (.ref d) H')
inductive spLes(vs:Lf)(H:Hp)(Q:VK)(E:XK):Prop
 | mk (F:Type) (_:Ta F) (n:Int) (_:Chr n F) (m:Nat) (e:Lg) (fvs:Ka) (N:Lc->Int) (_:vs=[.int n,.ref e]) (_:Pr n/\H e=some (.dT fvs)/\IZ m fvs N/\fvs.length<sizeLine /\
 ∀d H' cr,H d=none->Same H H'->H' d=some (.dT cr)->PF n m H' cr (λt=>ic (F:=F) (N t))->cr.length<=fvs.length->Q (.ref d) H')
def Rep.congr'[Ta F]{x y:F}(h:Rep n H v x)(e:x=y):Rep n H v y:=e ▸ h
def zhz:PSs X b (λ_ _ _=>False):=λ_ _ _ _ _ _ h=>h.elim
inductive spWR(CR:Lg)(vs:Lf)(H:Hp)(Q:VK)(E:XK):Prop
 | mk (p e:Lg) (n:Int) (fvs:Ka) (_:vs=[.ref p,.ref e]) (_:AtR CR n H p/\Pr n/\H e=some (.dT fvs)/\HDs fvs/\∀d,H d=none->Q (.ref d) (upd H d (.dT fvs)))
inductive spClr(vs:Lf)(H:Hp)(Q:VK)(E:XK):Prop
 | mk (F:Type) (_:Ta F) (n:Int) (_:Chr n F) (m:Nat) (r o t:Lg) (k:Lc) (fvs gvs:Ka) (φ ψ : Po F) (_:vs=[.int n,.ref r,.ref o,.ref t]) (_:Pr n/\n<=9973/\r≠o/\H r=some (.dT fvs)/\H o=some (.dT gvs)/\PF n m H fvs φ/\PF n m H gvs ψ/\H t=some (.tup (k.map V.int))/\φ k≠0/\ψ k≠0/\fvs.length+gvs.length<sizeLine /\
 ∀d H' cr (a b c:F),H d=none->Same H H'->H' d=some (.dT cr)->c≠0->a*c = ψ k->b*c = φ k->PF n m H' cr (λu=>a * φ u-b * ψ u)->cr.length<=fvs.length+gvs.length->Q (.ref d) H')
structure Low{F:Type}[Ta F](CG CF CR CO CD CT CW CLo CLe:Lg)(g:RgD)(H:Hp)(x r le pl wl:Lg)(lds:List (Nat×Lc))(wds:Le)(wvss:List Ka)(gs:Nat->Po F)(h:Nat->Lc)(ks:List Nat)(U:Lb):Prop where
 at_:∃dx,H x=some (.ins CLo dx [("ring",.ref r),("leads",.ref le),("wholes",.ref wl)])
 rg:RgP CG CF CR CO CD CT CW H r g
 le:LeA CLe H le pl lds
 lo:LdsOk g.rk g.m wds.length gs lds
 row:Row g.n g.m H wl wds wvss gs
 br:BRow g.rk g.m ks gs h
 hl:∀i l,(i,l)∈lds->i∈ks/\h i=l
 nd:U.Nodup
 ok:∀t∈U,TmOk g.m t
 b:U.length<=1000000
 cl:∀t∈U,∀i l,(i,l)∈lds->zb0 l t=true->∀u,gs i u≠0->addT (subT t l) u∈U
def Low.same[Ta F]{m f CR i w j l c d:Lg}{x r p pl s:Lg}{n:Nat->Po F}(q:Low m f CR i w j l c d g H x r p pl s lds wds wvss n h ks U)(e:Same H H'):Low m f CR i w j l c d g H' x r p pl s lds wds wvss n h ks U:=by
 obtain⟨y,a⟩:=q.at_;exact⟨⟨y,e _ _ a⟩,q.rg.same e,q.le.keep (.of e) (λo=>e _ o),q.lo,q.row.same e,q.br,q.hl,q.nd,q.ok,q.b,q.cl⟩
def zxi(x:Lp)(a:¬x = "ring")(b:¬x = "leads")(c:¬x = "wholes"):([("ring",V.ref r),("leads",.ref le),("wholes",.ref wl)]:List (Lp×V)).lookup x=none:=by
 have e:∀y:Lp,¬x=y->(x == y)=false:=λy h=>by
  cases q:(x == y) with
  | true=>exact absurd (Jx q) h
  | false=>rfl
 simp only[List.lookup,e _ a,e _ b,e _ c]
def zwu{pl:Lg}(x:Lp)(a:¬x = "pairs"):([("pairs",V.ref pl)]:List (Lp×V)).lookup x=none:=by
 have e:∀y:Lp,¬x=y->(x == y)=false:=λy h=>by
  cases q:(x == y) with
  | true=>exact absurd (Jx q) h
  | false=>rfl
 simp only[List.lookup,e _ a]
def zuh{α:Type}{l:List α}(h:l≠[]):∃a t,l=a++[t]:=⟨l.dropLast,l.getLast h,(List.dropLast_concat_getLast h).symm⟩
theorem zwn{α i : Type}{f : α->i}:∀{l:List α},l.Nodup->(∀a∈l,∀b∈l,f a=f b->a=b)->(l.map f).Nodup
 | [],_,_=>List.nodup_nil
 | x::l,h,hi=>by
  rw[List.nodup_cons]at h;rw[Yz,List.nodup_cons];refine⟨λz=>?_,zwn h.2 λa d b j=>hi a (by simp[d]) b (by simp[j])⟩;obtain⟨y,c,e⟩:=Ji.mp z;rw[hi y (by simp[c]) x (by simp) e]at c;exact h.1 c
def zsp[Ta F]{φ:Po F}{U:Lb}(h:PF n m H cr φ)(b:∀t,φ t≠0->t∈U):cr.length<=U.length:=by
 rw[<- zb3 cr];exact zb1 h.tnd λt a=>b t (h.tmem.mp a)
def zk3[Ta F]{φ:Po F}{U:Lb}(j:l.length=m)(h:PF n m H cr φ)(r:∀t,φ t≠0->addT t l∈U):cr.length<=U.length:=by
 rw[<- zb3 cr,<- Yd (f:=λt=>addT t l) (as:=tms cr)];refine zb1 (zwn h.tnd λa d b p e=>?_) λt q=>?_
 ·have i:=(h.sp a (h.tmem.mp d)).len;have o:=(h.sp b (h.tmem.mp p)).len;refine zfb (c:=l) (i.trans o.symm) (i.trans j.symm) ?_;rw[zdz (j.trans i.symm),zdz (j.trans o.symm)];exact e
 ·obtain⟨a,d,rfl⟩:=Ji.mp q;exact r a (h.tmem.mp d)
inductive spRtn(CG CF CR CO CD CT CW CLo CLe:Lg)(vs:Lf)(H:Hp)(Q:VK)(E:XK):Prop
 | mk (F:Type) (_:Ta F) (g:RgD) (_:Chr g.n F) (x r le pl wl:Lg) (lds:List (Nat×Lc)) (wds:Le) (wvss:List Ka) (gs:Nat->Po F) (h:Nat->Lc) (ks:List Nat) (U:Lb) (d:Lg) (lvs:Ka) (φ:Po F) (M:Lc) (_:vs=[.ref x,.ref d]) (_:Low CG CF CR CO CD CT CW CLo CLe g H x r le pl wl lds wds wvss gs h ks U/\H d=some (.dT lvs)/\PF g.n g.m H lvs φ/\(∀t,φ t≠0->t∈U/\lt g.rk t M) /\
 ∀H' bb,Same H H'->(bb=true->Cb g.m ks gs h (λT=>lt g.rk T M) φ)->Q (.bl bb) H')
structure LwS{F:Type}[Ta F](CWt:Lg)(g:RgD)(ks:List Nat)(gs:Nat->Po F)(h:Nat->Lc)(U:Lb)(M:Lc)(φ:Po F)(H0 H:Hp)(wx kn qq la:Lg)(kns us Dn:Lb)(lf:Po F)(lvs:Ka):Prop where
 sm:Same H0 H
 lft:H la=some (.dT lvs)
 lp:PF g.n g.m H lvs lf
 wa:Wa CWt g.rk H wx g.po kn qq kns us
 lw:LwI g.rk g.m ks gs h U us Dn M φ lf
 km:∀z,z∈kns↔z∈us\/z∈Dn
 ne:la≠kn
inductive spMeet(K:Li)(vs:Lf)(H:Hp)(Q:VK)(E:XK):Prop
 | mk (a b:Lg) (xs ys:Lc) (_:vs=[.ref a,.ref b]) (_:SqT K H a (xs.map V.int)/\SqT K H b (ys.map V.int)/\xs.length=ys.length/\xs.length<=1000/\∀r H',Same H H'->H' r=some (.tup ((za3 xs ys).map V.int))->Q (.ref r) H')
inductive spApart(K:Li)(vs:Lf)(H:Hp)(Q:VK)(E:XK):Prop
 | mk (a b:Lg) (xs ys:Lc) (_:vs=[.ref a,.ref b]) (_:SqT K H a (xs.map V.int)/\SqT K H b (ys.map V.int)/\xs.length=ys.length/\xs.length<=1000/\∀H',Same H H'->Q (.bl (zhn xs ys)) H')
inductive spCtn(CG CF CR CO CD CT CW CLo CLe:Lg)(vs:Lf)(H:Hp)(Q:VK)(E:XK):Prop
 | mk (F:Type) (_:Ta F) (g:RgD) (_:Chr g.n F) (x r le pl wl:Lg) (lds:List (Nat×Lc)) (wds:Le) (wvss:List Ka) (gs:Nat->Po F) (h:Nat->Lc) (ks:List Nat) (U:Lb) (i j:Nat) (a b:Lg) (_:vs=[.ref x,.int i,.int j,.ref a,.ref b]) (_:Low CG CF CR CO CD CT CW CLo CLe g H x r le pl wl lds wds wvss gs h ks U/\i∈ks/\j∈ks/\i<wds.length/\j<wds.length/\H a=some (.tup ((h i).map V.int))/\H b=some (.tup ((h j).map V.int)) /\
 (∀t,gs i t≠0->addT (subT (za3 (h i) (h j)) (h i)) t∈U)/\(∀t,gs j t≠0->addT (subT (za3 (h i) (h j)) (h j)) t∈U) /\
 ∀H' bb,Same H H'->(bb=true->Good g.rk g.m ks gs h i j)->Q (.bl bb) H')
def zs9{H:Hp}(h:H b=some (.ins C dx (f::fs)))(h':H a=some (.ins C' dx' [])):b≠a:=λz=>by
 subst z;rw[h]at h'
 cases h'
def RgP.new{s CR l w m p:Lg}(k:Kp [a] H H')(f:H a=some (.ins C dx []))(x:g.po≠a)(h:RgP s CR CR l w m p H r g):RgP s CR CR l w m p H' r g:=by
 have c:∀b o,H b=some o->b≠a->H' b=some o:=λb o q n=>k b o q (by simp[n])
 obtain⟨d,q⟩:=h.at_;have j:=h.fd;have e:AtN CR CR g.n=AtR CR g.n:=Yh (zct h.np);rw[e]at j;obtain⟨d',i⟩:=j;exact⟨h.nb,h.np,h.m1,h.m4,h.k0,h.k4,h.wn,h.wb,⟨d,c _ _ q (zs9 q f)⟩,by rw[e];exact⟨d',c _ _ i.1 (zs9 i.1 f),i.2⟩,znp k f h.od x⟩
def Row.new[Ta F]{b a C s:Lg}{j:Nat->Po F}(k:Kp [a] H H')(e:H a=some (.ins C s fs))(h:Row n m H b ds kvss j):Row n m H' b ds kvss j:=by
 have c:∀b o,H b=some o->b≠a->H' b=some o:=λb o q n=>k b o q (by simp[n])
 refine⟨c _ _ h.at_ (za7 h.at_ e (by intro z;cases z)),h.len,λi d hd=>?_,h.out,h.b⟩;obtain⟨cr,p,f,r⟩:=h.row i d hd;exact⟨cr,p,c _ _ f (za7 f e (by intro z;cases z)),r.keep λb xs l=>c _ _ l (za7 l e (by intro z;cases z))⟩
def LeA.new{x pl:Lg}(k:Kp [a] H H')(f:H a=some (.ins C dx fs))(p:x≠a)(h:LeA CL H x pl lds):LeA CL H' x pl lds:=by
 have c:∀b o,H b=some o->b≠a->H' b=some o:=λb o q n=>k b o q (by simp[n])
 obtain⟨d,q⟩:=h.at_;obtain⟨vs,i,m⟩:=h.pl;refine⟨⟨d,c _ _ q p⟩,⟨vs,c _ _ i (za7 i f (by intro z;cases z)),pimp (λ_ _ r=>?_) m⟩⟩;obtain⟨y,b,e,l,j⟩:=r;exact⟨y,b,e,c _ _ l (za7 l f (by intro z;cases z)),c _ _ j (za7 j f (by intro z;cases z))⟩
theorem zo5{H:Hp}{R:Nat->Lg->Prop}:∀{l} {ys},Paired (λi v=>∃d,v=.ref d/\R i d) l ys->∃a:Le,ys=a.map V.ref/\a.length=l.length/\∀(j i:Nat) d,l[j]? = some i->a[j]? = some d->R i d
 | _,_,.nil=>⟨[],rfl,rfl,λj i d q=>by simp at q⟩
 | _,_,.cons ⟨d,e,r⟩ t=>by
  obtain⟨a,f,c,h⟩:=zo5 (H:=H) t;refine⟨d::a,by rw[e,f];rfl,by simp[c],λj i d' q b=>?_⟩
  cases j with
  | zero=>simp at q b;rw[<- q,<- b];exact r
  | succ j=>simp at q b;exact h j i d' q b
inductive spLoI(CG CF CR CO CD CT CW CLo CLe:Lg)(vs:Lf)(H:Hp)(Q:VK)(E:XK):Prop
 | mk (F:Type) (_:Ta F) (x dx r b:Lg) (g:RgD) (_:Chr g.n F) (ds:Le) (kvss:List Ka) (gs:Nat->Po F) (_:vs=[.ref x,.ref r,.ref b]) (_:H x=some (.ins CLo dx [])/\g.po≠x/\RgP CG CF CR CO CD CT CW H r g/\Row g.n g.m H b ds kvss gs/\(∀i,TmB (gs i))/\(∀cr∈kvss,HDs cr) /\
 ∀H' le pl wl lds wds,Kp [x] H H'->H' x=some (.ins CLo dx [("ring",.ref r),("leads",.ref le),("wholes",.ref wl)])->LeA CLe H' le pl lds->LdsOk g.rk g.m ds.length gs lds->Row g.n g.m H' wl wds kvss gs->wds.length=ds.length->Q .non H')
def zw7(h:T0 m t)(m1:1<=m)(m4:m<=4)(c:∀i,t.getD i 0<=200):Pws t:=⟨by rw[h.len];lia,λz=>by have:=h.len;rw[z]at this;simp at this;lia,h.mem,λx a=>by
 obtain⟨j,b,rfl⟩:=List.mem_iff_getElem.mp a;have:=c j;have e:t.getD j 0=t[j]:=by simp[List.getD,b]
 rw[e]at this;exact Int.lt_of_le_of_lt this (by decide)⟩
def u8(h:Room k A):A.units+8<cLine:=by have:=h.un;lia
def zvk(h:H d=some u):upd H d u=H:=by
 funext b;unfold upd;split
 ·rename_i z;rw[z,h]
 ·rfl
def LdK(H:Hp)(cr:List (Key×V))(hs:List (Option Lc)):Prop:=Paired (fun(i:Nat) (kv:Key×V)=>kv.1=.inl (i:Int)/\Trm H (hd hs i) kv.2) (pl hs) cr
theorem ppair:∀{l} {ys},Paired R l ys->(∀a∈l,∀b,R a b->S a b)->Paired S l ys
 | _,_,.nil,_=>.nil
 | _,_,.cons r t,h=>.cons (h _ (by simp) _ r) (ppair t λa d b c=>h a (by simp[d]) b c)
theorem zp2(r:R a v):∀{l} {ys},Paired R l ys->Paired R (l++[a]) (ys++[v])
 | _,_,.nil=>.cons r .nil
 | _,_,.cons q t=>.cons q (zp2 r t)
theorem zqe{R : α->β->Prop}:∀{l} {ys},Paired R l ys->∀{i:Nat} {v},ys[i]? = some v->∃a,l[i]? = some a/\R a v
 | _,_,.nil,_,_,h=>by simp at h
 | _,_,.cons r t,0,_,h=>by simp at h;subst h;exact⟨_,rfl,r⟩
 | _,_,.cons r t,i+1,_,h=>by simp at h;exact zqe t h
def LdK.same(h:LdK H cr hs)(e:∀b xs,H b=some (.tup xs)->H' b=some (.tup xs)):LdK H' cr hs:=ppair h λ_ _ _ ⟨a,r,c,d⟩=>⟨a,r,c,e _ _ d⟩
theorem zsn{R:Nat->V->Prop}:∀{l} {cr},Paired (fun(i:Nat) (d:Key×V)=>d.1=.inl (i:Int)/\R i d.2) l cr->∀i∈l,∃v,valV cr (.inl (i:Int))=some v/\R i v
 | _,_,.nil,i,h=>by cases h
 | _,_,.cons (a:=j) (b:=d) r t,i,h=>by
  by_cases c:i=j
  ·subst c;exact⟨d.2,by rw[zbu r.1],r.2⟩
  ·obtain⟨v,e,f⟩:=zsn t i (by rcases Yj.mp h with z | z;exact absurd z c;exact z);exact⟨v,by rw[zbr (by rw[r.1];intro z;injection z with z;lia)];exact e,f⟩
def LdK.get(h:LdK H cr hs){i:Nat}(hi:i∈pl hs):∃r,valV cr (.inl (i:Int))=some (.ref r)/\H r=some (.tup ((hd hs i).map V.int)):=by
 obtain⟨v,a,r,rfl,b⟩:=zsn (R:=λi v=>Trm H (hd hs i) v) h i hi;exact⟨r,a,b⟩
def zp1[DecidableEq κ]{cr:List (κ×V)}{k : κ}(h:k ∉ cr.map (·.1)):putK cr k v=cr++[(k,v)]:=by
 unfold putK;rw[Yh];intro z;rw[List.any_eq_true]at z;obtain⟨p,a,e⟩:=z;exact h (Ji.mpr ⟨p,a,Jj e⟩)
def zp7(h:i<hs.length):hd (hs++[o]) i=hd hs i:=by unfold hd;rw[zc1,Yh (by lia)]
def NstH(H:Hp)(ns:Lc)(v:V):Prop:=∃t r xs i j,v=V.ref t/\H t=some (.tup [.ref r,.int i,.int j])/\H r=some (.tup (xs.map V.int))/\ns=xs++[i,j]
def NstH.keep(h:NstH H ns v)(e:∀b xs,H b=some (.tup xs)->H' b=some (.tup xs)):NstH H' ns v:=by
 obtain⟨t,r,xs,i,j,a,d,f,c⟩:=h;exact⟨t,r,xs,i,j,a,e _ _ d,e _ _ f,c⟩
def NstH.v{v:V}(h:NstH H ns v):NstV K H ns v:=by
 obtain⟨t,r,xs,i,j,a,c,d,b⟩:=h;exact⟨t,r,xs,i,j,a,SqT.of c,SqT.of d,b⟩
def TuK(rk:Lc->Lc)(hs:List (Option Lc))(H:Hp)(tv:Ka)(ps:List (Nat×Nat)):Prop:=Paired (fun(p:Nat×Nat) (kv:List Key×V)=>kv.1=ky (pr2 p.1 p.2)/\NstH H (tk rk (hd hs) p.1 p.2) kv.2) ps tv
def TuK.keep(h:TuK rk hs H tv ps)(e:∀b xs,H b=some (.tup xs)->H' b=some (.tup xs)):TuK rk hs H' tv ps:=ppair h λ_ _ _ ⟨a,q⟩=>⟨a,q.keep e⟩
theorem zn4{R:Nat×Nat->V->Prop}:∀{l} {cr},Paired (fun(p:Nat×Nat) (d:List Key×V)=>d.1=ky (pr2 p.1 p.2)/\R p d.2) l cr->∀p∈l,∃v,valV cr (ky (pr2 p.1 p.2))=some v/\R p v
 | _,_,.nil,i,h=>by cases h
 | _,_,.cons (a:=j) (b:=d) r t,i,h=>by
  by_cases c:i=j
  ·subst c;exact⟨d.2,by rw[zbu r.1],r.2⟩
  ·obtain⟨v,f,n⟩:=zn4 t i (by rcases Yj.mp h with z | z;exact absurd z c;exact z);refine⟨v,?_,n⟩;rw[zbr (by
    rw[r.1];intro z;obtain⟨e,m⟩:=zkh (zdo z);exact c (Prod.ext e.symm m.symm))]
   exact f
theorem zn8:∀{tv} {ps},TuK rk hs H tv ps->tv.map (·.1)=ps.map λp=>ky (pr2 p.1 p.2)
 | _,_,.nil=>rfl
 | _,_,.cons r t=>by rw[Yz,Yz,r.1,zn8 t]
def zcb(c:∀b C a fs,H b=some (.ins C a fs)->H' b=some (.ins C a fs))(d:∀b xs,H b=some (.tup xs)->H' b=some (.tup xs)){p:Lg}(q:AtK CO CD CT CW kd ws H p):AtK CO CD CT CW kd ws H' p:=by
 have o:∀C,AtO C H p->AtO C H' p:=λC ⟨a,z⟩=>⟨a,c _ _ _ _ z⟩
 have w:AtW CW ws H p->AtW CW ws H' p:=fun⟨a,wt,z1,z2⟩=>⟨a,wt,c _ _ _ _ z1,d _ _ z2⟩
 unfold AtK at q ⊢;by_cases c0:kd=0
 ·rw[Yl c0]at q ⊢;exact o _ q
 ·rw[Yh c0]at q ⊢;by_cases c1:kd=1
  ·rw[Yl c1]at q ⊢;exact o _ q
  ·rw[Yh c1]at q ⊢;by_cases c2:kd=2
   ·rw[Yl c2]at q ⊢;exact o _ q
   ·rw[Yh c2]at q ⊢;exact w q
def HsT(m:Nat)(hs:List (Option Lc)):Prop:=∀i∈pl hs,T0 m (hd hs i)/\∀j,(hd hs i).getD j 0<=200
def PsAll(hs:List (Option Lc))(ps:List (Nat×Nat)):Prop:=ps.Nodup/\∀i j,(i,j)∈ps↔i<j/\i∈pl hs/\j∈pl hs
inductive spTurns(CG CO CD CT CW:Lg)(vs:Lf)(H:Hp)(Q:VK)(E:XK):Prop
 | mk (r d:Lg) (m:Nat) (pf po:Lg) (kd:Int) (ws:Lc) (kv:List (Key×V)) (hs:List (Option Lc)) (_:vs=[.ref r,.ref d]) (_:RgAt CG H r m pf po/\AtK CO CD CT CW kd ws H po/\1<=m/\m<=4/\0<=kd/\kd<3/\Nn ws/\(∀x∈ws,x<10^31)/\H d=some (.dK kv)/\LdK H kv hs/\HsT m hs/\hs.length<=100 /\
 ∀D H' tv ps,H D=none->Same H H'->H' D=some (.dT tv)->TuK (rkk kd ws) hs H' tv ps->PsAll hs ps->Q (.ref D) H')
def zri(h:HsT m hs)(d:1<=m)(b:m<=4){i j:Nat}(hi:i∈pl hs)(a:j∈pl hs):Pws (za3 (hd hs i) (hd hs j)):=by
 refine zw7 (zd0 (h i hi).1 (h j a).1) d b λq=>?_
 have bd:∀{t:Lc},(∀j,t.getD j 0<=200)->∀x∈t,x<=200:=fun{t} h x hx=>by
  obtain⟨j,a,rfl⟩:=List.mem_iff_getElem.mp hx;have:=h j;simpa[List.getD,a]using this
 have b2:=zl6 (P:=λx=>x<=200) (bd (h i hi).2) (bd (h j a).2);rcases Jg q (za3 (hd hs i) (hd hs j)).length with c | c
 ·have:=b2 _ (Jv c);simpa[List.getD,c]using this
 ·simp[List.getD,List.getElem?_eq_none c]
def zcv{α:Type}{l:List α}{a x : α}(h:l[i]? = some a):x∈l.take (i+1)↔x∈l.take i\/x=a:=by
 rw[List.take_add_one,h];simp
def zfm{l:List Nat}(h:l.Nodup){i a:Nat}(hi:l[i]? = some a):a ∉ l.take i:=λz=>by
 obtain⟨j,b⟩:=Jd.mp z;rw[List.getElem?_take]at b;split at b
 ·rename_i c
  have:=(List.getElem?_inj (by rcases Jg i l.length with q | q;exact q;rw[Yy q]at hi;cases hi) h).mp (hi.trans b.symm);lia
 ·cases b
structure Tn(m:Nat)(rk:Lc->Lc)(hs:List (Option Lc))(kv:List (Key×V))(tv:Ka)(ps:List (Nat×Nat))(H:Hp):Prop where
 ld:LdK H kv hs
 ht:HsT m hs
 tu:TuK rk hs H tv ps
 al:PsAll hs ps
def Tn.keep(h:Tn m rk hs kv tv ps H)(e:∀b xs,H b=some (.tup xs)->H' b=some (.tup xs)):Tn m rk hs kv tv ps H':=⟨h.ld.same e,h.ht,h.tu.keep e,h.al⟩
def Tn.turn(h:Tn m rk hs kv tv ps H){i j:Nat}(lt:i<j)(hi:i∈pl hs)(a:j∈pl hs):∃v,valV tv (ky (pr2 i j))=some v/\NstH H (tk rk (hd hs) i j) v:=zn4 (R:=λp v=>NstH H (tk rk (hd hs) p.1 p.2) v) h.tu (i,j) ((h.al.2 i j).mpr ⟨lt,hi,a⟩)
def Tn.turn2(h:Tn m rk hs kv tv ps H){i k:Nat}(ne:k≠i)(hi:i∈pl hs)(a:k∈pl hs):∃v,valV tv (ky (pr2 (min i k) (max i k)))=some v/\NstH H (tk rk (hd hs) (min i k) (max i k)) v:=by
 rcases Jg i k with c | c
 ·rw[Nat.min_eq_left (Nat.le_of_lt c),Nat.max_eq_right (Nat.le_of_lt c)];exact h.turn c hi a
 ·have:k<i:=by lia
  rw[Nat.min_eq_right c,Nat.max_eq_left c];exact h.turn this a hi
def RkL(rk:Lc->Lc)(m L:Nat):Prop:=∀t,t.length=m->(rk t).length=L
def zyc:∃L,RkL (rkk kd ws) m L:=by
 unfold RkL rkk;by_cases c:kd=0
 ·exact⟨m,λt a=>by rw[Yl c];exact a⟩
 ·refine⟨m+1,λt a=>?_⟩;rw[Yh c];split
  ·simp[rkW,a]
  ·split
   ·simp[rkD,a]
   ·simp[rkT,a]
def zhu(h:RkL rk m L){a:List (Option Lc)}(b:HsT m a){i j:Nat}(hi:i∈pl a)(c:j∈pl a):(tk rk (hd a) i j).length=L+2:=by
 unfold tk;rw[Y5,h _ (zd0 (b i hi).1 (b j c).1).len];rfl
inductive spLets(K:Li)(vs:Lf)(H:Hp)(Q:VK)(E:XK):Prop
 | mk (l t p:Lg) (m:Nat) (kd:Int) (ws:Lc) (hs:List (Option Lc)) (kv:List (Key×V)) (tv:Ka) (ps:List (Nat×Nat)) (i j k:Nat) (_:vs=[.ref l,.ref t,.ref p,.int k]) (_:m<=4/\Rd H l (.dK kv)/\H t=some (.dT tv)/\H p=some (.tup ((pr2 i j).map V.int))/\Tn m (rkk kd ws) hs kv tv ps H/\i<j/\i∈pl hs/\j∈pl hs/\k∈pl hs /\
 ∀H',Same H H'->Q (.bl (lets (rkk kd ws) (hd hs) i j k)) H')
inductive spDue1(K:Li)(vs:Lf)(H:Hp)(Q:VK)(E:XK):Prop
 | mk (l t p:Lg) (m:Nat) (kd:Int) (ws:Lc) (hs:List (Option Lc)) (kv:List (Key×V)) (tv:Ka) (ps:List (Nat×Nat)) (i j:Nat) (_:vs=[.ref l,.ref t,.ref p]) (_:m<=4/\H l=some (.dK kv)/\H t=some (.dT tv)/\H p=some (.tup ((pr2 i j).map V.int))/\Tn m (rkk kd ws) hs kv tv ps H/\i<j/\i∈pl hs/\j∈pl hs /\
 ∀H',Same H H'->Q (.bl (due (rkk kd ws) (hd hs) (pl hs) i j)) H')
def LdO[Ta F](rk:Lc->Lc)(o:Option Lc)(φ:Po F):Prop:=(o=none/\∀t,φ t=0)\/∃h,o=some h/\Ld rk φ h
inductive spLBP(CG CF CR CO CD CT CW:Lg)(vs:Lf)(H:Hp)(Q:VK)(E:XK):Prop
 | mk (F:Type) (_:Ta F) (r b:Lg) (g:RgD) (_:Chr g.n F) (ds:Le) (kvss:List Ka) (gs:Nat->Po F) (_:vs=[.ref r,.ref b]) (_:RgP CG CF CR CO CD CT CW H r g/\Row g.n g.m H b ds kvss gs/\(∀i,TmB (gs i)) /\
 ∀D H' kv hs,H D=none->Same H H'->H' D=some (.dK kv)->LdK H' kv hs->hs.length=ds.length->(∀i,i<hs.length->LdO g.rk (hs.getD i none) (gs i))->Q (.ref D) H')
structure TL(m:Nat)(H:Hp)(l:Lg)(ys:Lf)(xss:Lb):Prop where
 at_:H l=some (.lst ys)
 tm:Paired (Trm H) xss ys
 t0:∀x∈xss,T0 m x
 b:ys.length<=1000
def TL.same(e:Same H H')(h:TL m H l ys xss):TL m H' l ys xss:=⟨e _ _ h.at_,pimp (λ_ _ q=>q.same e) h.tm,h.t0,h.b⟩
def TL.get(h:TL m H l ys xss){i:Nat}{v:V}(hv:ys[i]? = some v):∃x r,xss[i]? = some x/\v=.ref r/\H r=some (.tup (x.map V.int))/\T0 m x:=by
 obtain⟨x,a,r,e,q⟩:=pget h.tm hv;exact⟨x,r,a,e,q,h.t0 x (Yx a)⟩
def TL.len(h:TL m H l ys xss):xss.length=ys.length:=Paired.length h.tm
def ButT(Pt:Lg)(H H':Hp):Prop:=∀b o,H b=some o->b≠Pt->H' b=some o
theorem zok{e:Type}{R:Lg->e->Prop}:∀{cr} {as} {f:List Key×V->e},as.length=cr.length->(∀(i:Nat) k x,cr[i]? = some (k,x)->∃a,as[i]? = some a/\R a (f (k,x)))->Paired (λa b=>R a (f b)) as cr
 | [],[],_,_,_=>.nil
 | [],_::_,_,h,_=>by simp at h
 | _::_,[],_,h,_=>by simp at h
 | b::cr,a::as,f,h,hi=>by
  refine .cons ?_ (zok (by simpa using h) λi k x l=>?_)
  ·obtain⟨j,c,d⟩:=hi 0 b.1 b.2 rfl;simp at c;subst c;exact d
  ·obtain⟨j,c,d⟩:=hi (i+1) k x (by simpa using l);exact⟨j,by simpa using c,d⟩
theorem pcomp:∀{ps} {as} {tv},Paired R ps tv->Paired S as tv->(∀p a kv,R p kv->S a kv->T p a)->Paired T ps as
 | _,_,_,.nil,.nil,_=>.nil
 | _,_,_,.cons r t,.cons r' t',h=>.cons (h _ _ _ r r') (pcomp t t' h)
theorem zx3:∀{ps} {as},Paired T ps as->(∀p∈ps,∀a,T p a->U (f a) (g p))->Paired U (as.map f) (ps.map g)
 | _,_,.nil,_=>.nil
 | _,_,.cons r t,h=>.cons (h _ (by simp) _ r) (zx3 t λp b a c=>h p (by simp[b]) a c)
theorem zme:∀{xs vs ks},Paired (λx v=>∀Q,Q v H->sp x H Q) xs vs->F (ks++vs) H->skGo sp xs ks H F
 | _,_,ks,.nil,h=>by rw[List.append_nil]at h;exact h
 | _,_,ks,.cons r t,h=>r _ (zme t (by rw[List.append_assoc];exact h))
def hs_q[Ta F]{a:Nat->Po F}(sp:∀i,Spt m (a i))(b:∀i t,a i t≠0->∀j,t.getD j 0<=200)(c:∀i,i<hs.length->LdO rk (hs.getD i none) (a i)):HsT m hs:=λi hi=>by
 have q:=List.mem_filter.mp hi;rcases c i (List.mem_range.mp q.1) with⟨z,_⟩ | ⟨h,z,l⟩
 ·have:=q.2;rw[z]at this;cases this
 ·have e:hd hs i=h:=by unfold hd;rw[z];rfl
  rw[e];exact⟨sp i h l.1,b i h l.1⟩
inductive spPairs(CG CF CR CO CD CT CW Pt:Lg)(vs:Lf)(H:Hp)(Q:VK)(E:XK):Prop
 | mk (F:Type) (_:Ta F) (r b:Lg) (g:RgD) (_:Chr g.n F) (ds:Le) (kvss:List Ka) (gs:Nat->Po F) (_:vs=[.ref r,.ref b]) (_:RgP CG CF CR CO CD CT CW H r g/\Row g.n g.m H b ds kvss gs/\(∀i,TmB (gs i))/\(∀i t,gs i t≠0->∀j,t.getD j 0<=200)/\ds.length<=7/\H Pt=some (.tbl #[]) /\
 ∀D H' us (qs:Lb) hs,H D=none->ButT Pt H H'->hs.length=ds.length->(∀i,i<hs.length->LdO g.rk (hs.getD i none) (gs i))->(∀p,p∈qs↔∃i j,i<j/\i∈pl hs/\j∈pl hs/\p=pr2 i j)->TL 2 H' D us (qs.filter (dueP g.rk (hd hs) (pl hs)))->Q (.ref D) H')
def zcn(k:ButT Pt H H')(d:H Pt=some (.tbl q)){b:Lg}{o:HO}(a:H b=some o)(c:∀x,o≠.tbl x):H' b=some o:=k b o a λz=>by
 subst z;rw[d]at a
 cases a;exact c _ rfl
def RgP.but{s CR l y m o w:Lg}(k:ButT w H H')(p:H w=some (.tbl q))(h:RgP s CR CR l y m o H r g):RgP s CR CR l y m o H' r g:=by
 have a:∀b C c fs,H b=some (.ins C c fs)->H' b=some (.ins C c fs):=λb C c fs f=>zcn k p f (λx z=>by cases z)
 obtain⟨d,q⟩:=h.at_;have j:=h.fd;have e:AtN CR CR g.n=AtR CR g.n:=Yh (zct h.np);rw[e]at j;obtain⟨d',i⟩:=j;exact⟨h.nb,h.np,h.m1,h.m4,h.k0,h.k4,h.wn,h.wb,⟨d,a _ _ _ _ q⟩,by rw[e];exact⟨d',a _ _ _ _ i.1,i.2⟩,zcb a (λb xs f=>zcn k p f (λx z=>by cases z)) h.od⟩
def LeA.but{x pl:Lg}(k:ButT Pt H H')(c:H Pt=some (.tbl q))(h:LeA CL H x pl lds):LeA CL H' x pl lds:=by
 obtain⟨d,a⟩:=h.at_;obtain⟨vs,f,i⟩:=h.pl;refine⟨⟨d,zcn k c a (λx z=>by cases z)⟩,⟨vs,zcn k c f (λx z=>by cases z),pimp (λ_ _ r=>?_) i⟩⟩;obtain⟨y,b,e,l,j⟩:=r;exact⟨y,b,e,zcn k c l (λx z=>by cases z),zcn k c j (λx z=>by cases z)⟩
section
variable{F:Type}[Ta F]{n kd N M:Int}{H H':Hp}{d b Pt:Lg}{φ ψ : Po F}{ds:Le}{gs:Nat->Po F}{q:Array Lh}
def PF.but(k:ButT Pt H H')(c:H Pt=some (.tbl q))(h:PF n m H cr φ):PF n m H' cr φ:=h.keep λb xs a=>zcn k c a (λx z=>by cases z)
def Row.but(k:ButT Pt H H')(a:H Pt=some (.tbl q))(h:Row n m H b ds kvss gs):Row n m H' b ds kvss gs:=by
 refine⟨zcn k a h.at_ (λx z=>by cases z),h.len,λi d hd=>?_,h.out,h.b⟩;obtain⟨cr,c,f,e⟩:=h.row i d hd;exact⟨cr,c,zcn k a f (λx z=>by cases z),PF.but k a e⟩
def PB(n kd N:Int)(H:Hp)(d:Lg)(φ:Po F):Prop:=∃cr,H d=some (.dT cr)/\PF n 2 H cr φ/\Bd kd N φ
def PB.same(e:Same H H')(h:PB n kd N H d φ):PB n kd N H' d φ:=let ⟨cr,a,p,b⟩:=h;⟨cr,e _ _ a,p.same e,b⟩
def PB.but(k:ButT Pt H H')(c:H Pt=some (.tbl q))(h:PB n kd N H d φ):PB n kd N H' d φ:=let ⟨cr,a,p,b⟩:=h;⟨cr,zcn k c a (λx z=>by cases z),PF.but k c p,b⟩
def PB.keep(e:Fix H H')(hd:∀o,H d=some o->H' d=some o)(h:PB n kd N H d φ):PB n kd N H' d φ:=let ⟨cr,a,p,b⟩:=h;⟨cr,hd _ a,p.fix e,b⟩
def PB.up(e:N<=M)(h:PB n kd N H d φ):PB n kd M H d φ:=let ⟨cr,a,p,b⟩:=h;⟨cr,a,p,b.up e⟩
def PB.sp(h:PB n kd N H d φ):Spt 2 φ:=let ⟨_,_,p,_⟩:=h;p.sp
def PB.bd(h:PB n kd N H d φ):Bd kd N φ:=let ⟨_,_,_,b⟩:=h;b
def PB.congr(h:PB n kd N H d φ)(e:∀t,φ t = ψ t):PB n kd N H d ψ:=by rw[<- show φ = ψ from funext e];exact h
structure RB(n kd N:Int)(H:Hp)(b:Lg)(ds:Le)(gs:Nat->Po F):Prop where
 at_:H b=some (.lst (ds.map V.ref))
 b:ds.length<=7
 row:∀i d,ds[i]? = some d->PB n kd N H d (gs i)
 out:∀i,ds.length<=i->∀t,gs i t=0
def RB.same(e:Same H H')(h:RB n kd N H b ds gs):RB n kd N H' b ds gs:=⟨e _ _ h.at_,h.b,λi d hd=>(h.row i d hd).same e,h.out⟩
def RB.but(k:ButT Pt H H')(a:H Pt=some (.tbl q))(h:RB n kd N H b ds gs):RB n kd N H' b ds gs:=⟨zcn k a h.at_ (λx z=>by cases z),h.b,λi d hd=>(h.row i d hd).but k a,h.out⟩
def RB.up(e:N<=M)(h:RB n kd N H b ds gs):RB n kd M H b ds gs:=⟨h.at_,h.b,λi d hd=>(h.row i d hd).up e,h.out⟩
def RB.bd(h:RB n kd N H b ds gs)(i:Nat):Bd kd N (gs i):=λt a=>by
 rcases Jg i ds.length with c | c
 ·exact(h.row i _ (Yc c)).bd t a
 ·exact absurd (h.out i c t) a
def RB.sp(h:RB n kd N H b ds gs)(i:Nat):Spt 2 (gs i):=λt a=>by
 rcases Jg i ds.length with c | c
 ·exact(h.row i _ (Yc c)).sp t a
 ·exact absurd (h.out i c t) a
def kvOf(H:Hp)(d:Lg):Ka:=match H d with
 | some (.dT cr)=>cr
 | _=>[]
def znu(h:H d=some (.dT cr)):kvOf H d=cr:=by unfold kvOf;rw[h]
def RB.toRow(h:RB n kd N H b ds gs)(e:N<=99):∃kvss,Row n 2 H b ds kvss gs/\∀cr∈kvss,HDs cr:=by
 refine⟨ds.map (kvOf H),⟨h.at_,by rw[Yd],λi d hd=>?_,h.out,Yr h.b (by decide)⟩,λcr c=>?_⟩
 ·obtain⟨cr,a,p,_⟩:=h.row i d hd;exact⟨cr,by rw[Ym,hd];exact Jw some (znu a),a,p⟩
 ·obtain⟨d,hd,rfl⟩:=Ji.mp c;obtain⟨i,hi,rfl⟩:=List.getElem_of_mem hd;obtain⟨cr,a,p,b⟩:=h.row i _ (Yc hi);rw[znu a];exact Bd.hds p (b.up e)
def zt3(h9:N<=99)(s:Spt 2 φ)(b:Bd kd N φ):TmB φ:=λt a x c=>by
 have:=zhs (s t a) (b t a) x c;have z:(99:Int)<10^31:=by decide
 lia
def zks(e:T0 2 a)(f:T0 2 c):wt kd (za3 a c)<=wt kd a+wt kd c:=by
 have a0:=e.nn 0;have a1:=e.nn 1;have c0:=f.nn 0;have c1:=f.nn 1;unfold wt;rw[zi1 e f,zi1 e f];unfold mx;split <;> split <;> split <;> lia
def LdO.one(h:LdO rk o φ)(h':LdO rk o' φ):o=o':=by
 rcases h with⟨rfl,z⟩ | ⟨l,rfl,p⟩ <;> rcases h' with⟨rfl,c⟩ | ⟨l',rfl,a⟩
 ·rfl
 ·exact absurd (z _) a.1
 ·exact absurd (c _) p.1
 ·rw[p.one a]
def LdO.all{c a:List (Option Lc)}(l:c.length=a.length)(h:∀i,i<c.length->LdO rk (c.getD i none) (gs i))(h':∀i,i<a.length->LdO rk (a.getD i none) (gs i)):c=a:=by
 refine List.ext_getElem l λi e f=>?_
 have:=(h i e).one (h' i f);simpa[List.getD_eq_getElem?_getD,e,f]using this
def zuc(O:OrdM rk 2)(h:∀i,i<hs.length->LdO rk (hs.getD i none) (gs i))(sp:∀i,Spt 2 (gs i))(bd:∀i,Bd kd 99 (gs i)):BRow rk 2 (pl hs) gs (hd hs)/\(∀i,i<hs.length->(∃t,gs i t≠0)->i∈pl hs)/\∀i∈pl hs,i<hs.length:=by
 refine⟨⟨O,λi _=>sp i,λi hi=>?_,λi _=>⟨box 99,zoo 99,λt a=>zlu a,λt a=>zj4 (sp i t a) (bd i t a)⟩⟩,λi hi ⟨t,a⟩=>?_,λi hi=>List.mem_range.mp (List.mem_filter.mp hi).1⟩
 ·have q:=List.mem_filter.mp hi;rcases h i (List.mem_range.mp q.1) with⟨z,_⟩ | ⟨l,z,p⟩
  ·have:=q.2;rw[z]at this;cases this
  ·have e:hd hs i=l:=by unfold hd;rw[z];rfl
   rw[e];exact p
 ·rcases h i hi with⟨z,w⟩ | ⟨l,z,p⟩
  ·exact absurd (w t) a
  ·exact pl_mem.mpr (by rw[z];rfl)
def Ubox(kd:Int):Lb:=(box 70).filter λt=>decide (wt kd t<=70)
def ub_mem:t∈Ubox kd↔T0 2 t/\wt kd t<=70:=by
 unfold Ubox;rw[List.mem_filter];exact⟨λh=>⟨zlu h.1,Jj h.2⟩,λh=>⟨zj4 h.1 h.2,Yo h.2⟩⟩
def zye:(Ubox kd).length<=5041:=Yr (List.length_filter_le _ _) (by rw[zon];decide)
end
inductive spIsB(CG CF CR CO CD CT CW Pt:Lg)(vs:Lf)(H:Hp)(Q:VK)(E:XK):Prop
 | mk (F:Type) (_:Ta F) (r b:Lg) (g:RgD) (_:Chr g.n F) (ds:Le) (gs:Nat->Po F) (_:vs=[.ref r,.ref b]) (_:RgP CG CF CR CO CD CT CW H r g/\g.m=2/\RB g.n g.kd 35 H b ds gs/\(∀i,Tame g.kd g.rk (gs i))/\H Pt=some (.tbl #[]) /\
 ∀H' bb,ButT Pt H H'->(bb=true->∃h ks,BRow g.rk 2 ks gs h/\(∀i,i<ds.length->(∃t,gs i t≠0)->i∈ks)/\(∀i∈ks,i<ds.length)/\∀i∈ks,∀j∈ks,Good g.rk 2 ks gs h i j)->Q (.bl bb) H')
def zsz[Ta F]{φ ψ : Po F}:mul (S++[o]) φ ψ = λt=>mul S φ ψ t + φ o*sh o ψ t:=funext λt=>by
 unfold mul;rw[znx]
inductive spTms(CG CF CR CO CD CT CW:Lg)(vs:Lf)(H:Hp)(Q:VK)(E:XK):Prop
 | mk (F:Type) (_:Ta F) (r e1 e2:Lg) (g:RgD) (_:Chr g.n F) (φ ψ : Po F) (N1 N2:Int) (_:vs=[.ref r,.ref e1,.ref e2]) (_:RgP CG CF CR CO CD CT CW H r g/\g.m=2/\e1≠e2/\PB g.n g.kd N1 H e1 φ/\PB g.n g.kd N2 H e2 ψ/\N1<=56/\N2<=35 /\
 ∀d H',H d=none->Same H H'->PB g.n g.kd (N1+N2) H' d (mulB φ ψ)->Q (.ref d) H')
inductive spPls(CG CF CR CO CD CT CW:Lg)(vs:Lf)(H:Hp)(Q:VK)(E:XK):Prop
 | mk (F:Type) (_:Ta F) (r e1 e2:Lg) (g:RgD) (_:Chr g.n F) (φ ψ : Po F) (_:vs=[.ref r,.ref e1,.ref e2]) (_:RgP CG CF CR CO CD CT CW H r g/\g.m=2/\PB g.n g.kd 99 H e1 φ/\PB g.n g.kd 99 H e2 ψ /\
 ∀d H',H d=none->Same H H'->PB g.n g.kd 99 H' d (λt=>φ t + ψ t)->Q (.ref d) H')
inductive spSmd(CG CF CR CO CD CT CW:Lg)(vs:Lf)(H:Hp)(Q:VK)(E:XK):Prop
 | mk (F:Type) (_:Ta F) (r ml b:Lg) (g:RgD) (_:Chr g.n F) (mds ds:Le) (ms gs:Nat->Po F) (_:vs=[.ref r,.ref ml,.ref b]) (_:RgP CG CF CR CO CD CT CW H r g/\g.m=2/\RB g.n g.kd 56 H ml mds ms/\RB g.n g.kd 35 H b ds gs/\mds.length=ds.length/\(∀x∈mds,∀y∈ds,x≠y) /\
 ∀d H',H d=none->Same H H'->PB g.n g.kd 91 H' d (smm ds.length ms gs)->Q (.ref d) H')
def zf0(a:X.K=K)(b:X.A.units+64<cLine):OpR X (compareOp .Eq) (zr4 K false):=by
 subst a;exact zow b
inductive spSup(CG CF CR CO CD CT CW:Lg)(vs:Lf)(H:Hp)(Q:VK)(E:XK):Prop
 | mk (F:Type) (_:Ta F) (r ml b f:Lg) (g:RgD) (_:Chr g.n F) (mds ds:Le) (ms gs:Nat->Po F) (φ:Po F) (_:vs=[.ref r,.ref ml,.ref b,.ref f]) (_:RgP CG CF CR CO CD CT CW H r g/\g.m=2/\RB g.n g.kd 56 H ml mds ms/\RB g.n g.kd 35 H b ds gs/\(∀x∈mds,∀y∈ds,x≠y)/\PB g.n g.kd 99 H f φ /\
 ∀H' bb,Same H H'->(bb=true↔mds.length=ds.length/\∀t,smm ds.length ms gs t = φ t)->Q (.bl bb) H')
structure LB{F:Type}[Ta F](n kd N:Int)(H:Hp)(ls:Lg)(las:Le)(dss:Nat->Le)(mss:Nat->Nat->Po F):Prop where
 at_:H ls=some (.lst (las.map V.ref))
 b:las.length<=7
 row:∀i a,las[i]? = some a->RB n kd N H a (dss i) (mss i)
def LB.same[Ta F]{c:Nat->Nat->Po F}(e:Same H H')(h:LB n kd N H ls las dss c):LB n kd N H' ls las dss c:=⟨e _ _ h.at_,h.b,λi a d=>(h.row i a d).same e⟩
theorem zp0{R:Nat->Bool->Prop}:∀{l} {ys},Paired (λi v=>∃bb,v=V.bl bb/\R i bb) l ys->∃bs:List Bool,ys=bs.map V.bl/\(bs.all id=true->∀i∈l,R i true)
 | _,_,.nil=>⟨[],rfl,λ_ i h=>nomatch h⟩
 | _,_,.cons ⟨b,e,r⟩ t=>by
  obtain⟨bs,c,a⟩:=zp0 t;refine⟨b::bs,by rw[e,c];rfl,λh i hi=>?_⟩;rw[List.all_cons,Jy]at h;rcases Yj.mp hi with rfl | hi
  ·have:b=true:=h.1;rw[<- this];exact r
  ·exact a h.2 i hi
inductive spAls(CG CF CR CO CD CT CW:Lg)(vs:Lf)(H:Hp)(Q:VK)(E:XK):Prop
 | mk (F:Type) (_:Ta F) (r ls b pl:Lg) (g:RgD) (_:Chr g.n F) (las ds pds:Le) (dss:Nat->Le) (mss:Nat->Nat->Po F) (gs ps:Nat->Po F) (_:vs=[.ref r,.ref ls,.ref b,.ref pl]) (_:RgP CG CF CR CO CD CT CW H r g/\g.m=2/\LB g.n g.kd 56 H ls las dss mss/\RB g.n g.kd 35 H b ds gs/\(∀i,i<las.length->∀x∈dss i,∀y∈ds,x≠y)/\RB g.n g.kd 35 H pl pds ps /\
 ∀H' bb,Same H H'->(bb=true->las.length=pds.length/\∀i,i<pds.length->∀t,smm ds.length (mss i) gs t=ps i t)->Q (.bl bb) H')
def zdi{J:It}{n:Nat}{P:Nat->V->Hp->Prop}{mp:List (Option Nat)}{q:TI}{g:TG}{s:TT}{r:TE}{m:St}{H H1:Hp}{Q:VK}(S:Walk J H1 n P)(E:n<=sizeLine)(o:∀R,R J H1->q m H R)(h:St->Prop)(p:Nat->Bool)(F:Nat->V->Hp->Prop)
  (f:∀i v H H',Same H H'->F i v H->F i v H') (d:∀i v H a ys ys',H a=some (.lst ys)->F i v H->F i v (upd H a (.lst ys'))) (B:h (st0 mp m))
  (step:∀i x σ' H2,i<n->h σ'->Same H1 H2->P i x H2->∀(Ny:V->St->Hp->Prop) (Nn:St->Hp->Prop),(∀v c j,h c->Same H2 j->F i v j->p i=true->Ny v c j)->(∀c l,h c->Same H2 l->p i=false->Nn c l) ->
   g x σ' H2 λc A=>s c A λb l=>if b=true then r c l λv j=>Ny v c j else Nn c l)
  (C:∀D H' ys,H1 D=none->Same H1 H'->H' D=some (.lst ys)->Paired (λi v=>F i v H') ((List.range n).filter p) ys->Q (.ref D) H'):tComp mp q g s r m H Q:=by
 unfold tComp;refine o _ λD w=>?_
 exact zgk S w E h p F f d B step λH' ys e y z=>C D H' ys w e y z
def zmp{mp:List (Option Nat)}{A:TE}{g:TG}{B:TT}{y:TE}{r:St}{H:Hp}{Q:VK}{d:Lg}{fvs:Ka}(hd:H d=some (.dT fvs))(s:∀R:VK,R (.ref d) H->A r H R)(L:fvs.length<=sizeLine)(m:St->Prop)(p:Nat->Bool)(F:Nat->V->Hp->Prop)
  (j:∀i v H H',Same H H'->F i v H->F i v H') (h:∀i v H a ys ys',H a=some (.lst ys)->F i v H->F i v (upd H a (.lst ys'))) (J:m (st0 mp r))
  (step:∀o i x f l,i<fvs.length->m f->Same (upd H d (.frz o (.dT fvs))) l->(∃b k v,fvs[i]? = some (k,v)/\l b=some (.tup (k.map kV))/\x=.ref b)->∀(Ny:V->St->Hp->Prop) (Nn:St->Hp->Prop),(∀v c n,m c->Same l n->F i v n->p i=true->Ny v c n)->(∀c q,m c->Same l q->p i=false->Nn c q) ->
   g x f l λc I=>B c I λb q=>if b=true then y c q λv n=>Ny v c n else Nn c q)
  (K:∀o D H' ys,D≠d->Same (upd H d (.frz o (.dT fvs))) H'->H' D=some (.lst ys)->Paired (λi v=>F i v H') ((List.range fvs.length).filter p) ys->Q (.ref D) H'):tComp mp (zs7 A) g B y r H Q:=by
 unfold tComp;refine s _ ⟨d,fvs,Z,.inl hd,λo D w=>?_⟩;have hz:FzD (upd H d (.frz o (.dT fvs))) d o fvs:=zad;have G:D≠d:=λz=>by subst z;rw[hz]at w;cases w
 exact zgk (zof hz) w L m p F j h J (λi x f l=>step o i x f l) λH' ys e C E=>K o D H' ys G e C E
inductive spIsR(CG CF CR CO CD CT CW:Lg)(vs:Lf)(H:Hp)(Q:VK)(E:XK):Prop
 | mk (F:Type) (_:Ta F) (r b e:Lg) (g:RgD) (_:Chr g.n F) (ds:Le) (gs:Nat->Po F) (ρ:Po F) (_:vs=[.ref r,.ref b,.ref e]) (_:RgP CG CF CR CO CD CT CW H r g/\g.m=2/\RB g.n g.kd 35 H b ds gs/\PB g.n g.kd 99 H e ρ /\
 ∀H' bb,Same H H'->(bb=true->(∃t,ρ t≠0)/\∀t,ρ t≠0->∀i h,i<ds.length->Ld g.rk (gs i) h->zb0 h t=false)->Q (.bl bb) H')
inductive spPrt(CG CF CR CO CD CT CW:Lg)(vs:Lf)(H:Hp)(Q:VK)(E:XK):Prop
 | mk (F:Type) (_:Ta F) (r b ql e f:Lg) (g:RgD) (_:Chr g.n F) (qds ds:Le) (qs gs:Nat->Po F) (ρ φ : Po F) (_:vs=[.ref r,.ref b,.ref ql,.ref e,.ref f]) (_:RgP CG CF CR CO CD CT CW H r g/\g.m=2/\RB g.n g.kd 56 H ql qds qs/\RB g.n g.kd 35 H b ds gs/\(∀x∈qds,∀y∈ds,x≠y)/\PB g.n g.kd 99 H e ρ/\PB g.n g.kd 99 H f φ /\
 ∀H' bb,Same H H'->(bb=true->∀t,smm ds.length qs gs t + ρ t = φ t)->Q (.bl bb) H')
structure WO{F:Type}[Ta F](g:RgD)(H:Hp)(pp:Lg)(b ls bk ql e:Lg)(las bks ds qds tds:Le)(dss bss:Nat->Le)(mss bmm:Nat->Nat->Po F)(gs qs:Nat->Po F)(ρ:Po F):Prop where
 at_:H pp=some (.tup [.str "without",.ref b,.ref ls,.ref bk,.ref ql,.ref e])
 bs:RB g.n g.kd 35 H b ds gs
 tm:∀i,Tame g.kd g.rk (gs i)
 ls:LB g.n g.kd 56 H ls las dss mss
 lj:∀i,i<las.length->∀x∈dss i,∀y∈tds,x≠y
 bk:LB g.n g.kd 56 H bk bks bss bmm
 bj:∀i,i<bks.length->∀x∈bss i,∀y∈ds,x≠y
 q:RB g.n g.kd 56 H ql qds qs
 qj:∀x∈qds,∀y∈ds,x≠y
 e:PB g.n g.kd 99 H e ρ
def WO.same[Ta F]{b l bk f e:Lg}{a c:Nat->Nat->Po F}{d j:Nat->Po F}{i:Po F}(s:Same H H')(h:WO g H pp b l bk f e las bks ds qds tds dss bss a c d j i):WO g H' pp b l bk f e las bks ds qds tds dss bss a c d j i:=⟨s _ _ h.at_,h.bs.same s,h.tm,h.ls.same s,h.lj,h.bk.same s,h.bj,h.q.same s,h.qj,h.e.same s⟩
inductive spHwo(CG CF CR CO CD CT CW Pt:Lg)(vs:Lf)(H:Hp)(Q:VK)(E:XK):Prop
 | mk (F:Type) (_:Ta F) (r td f pp:Lg) (g:RgD) (_:Chr g.n F) (b ls bk ql e:Lg) (las bks ds qds tds:Le) (dss bss:Nat->Le) (mss bmm:Nat->Nat->Po F) (gs qs ts ms:Nat->Po F) (ρ φ : Po F) (_:vs=[.ref r,.ref td,.ref f,.ref pp]) (_:RgP CG CF CR CO CD CT CW H r g/\g.m=2/\RB g.n g.kd 35 H td tds ts/\PB g.n g.kd 99 H f φ/\WO g H pp b ls bk ql e las bks ds qds tds dss bss mss bmm gs qs ρ/\(∀t,φ t=smm tds.length ms ts t)/\H Pt=some (.tbl #[]) /\
 ∀H',ButT Pt H H'->Q (.bl false) H')
def zu5(h3:kd<3):rkk kd ws=if kd=0 then rkL else if kd=1 then rkD else rkT:=by
 funext x
 unfold rkk;rw[Yh (show ¬kd=3 by lia)];by_cases c:kd=0
 ·rw[Yl c,Yl c]
 ·rw[Yh c,Yh c];by_cases c1:kd=1
  ·rw[Yl c1,Yl c1]
  ·rw[Yh c1,Yh c1]
def DIn.of[Ta F]{φ:Po F}(h:PB n kd N H d φ):DIn K H d:=by
 obtain⟨c,a,p,_⟩:=h;obtain⟨j,f,l,_⟩:=p.kds (K:=K);refine⟨c,j,.inl a,f,l,λq m k b=>?_⟩;obtain⟨t,e,_⟩:=p.ks q m;rw[e]at b;obtain⟨i,_,rfl⟩:=Ji.mp b
 trivial
def RB.din[Ta F]{b:Lg}{a:Nat->Po F}(h:RB n kd N H b ds a):∀d∈ds,DIn K H d:=λd hd=>by
 obtain⟨i,hi⟩:=Jd.mp hd;exact DIn.of (h.row i d hi)
def ztt(a:X.K=K)(b:X.A.units+64<cLine):OpR X (compareOp .In) (rInD K):=by
 subst a;exact zwp b
def zm5(a:X.K=K)(b:X.A.units+64<cLine):OpR X (compareOp .NotIn) (rInD K):=by
 subst a;exact zom b
def cEqV{a b:V}{A B:Prop}(d:a=b->A)(e:a≠b->B):if decide (a=b)=true then A else B:=by
 by_cases c:a=b
 ·rw[Yl (Yo c)];exact d c
 ·rw[Yh (λz=>c (Jj z))];exact e c
inductive spHld(CG CF CR CO CD CT CW Pt:Lg)(vs:Lf)(H:Hp)(Q:VK)(E:XK):Prop
 | mk (F:Type) (_:Ta F) (r td f pp:Lg) (g:RgD) (_:Chr g.n F) (tds:Le) (ts ms:Nat->Po F) (φ:Po F) (_:vs=[.ref r,.ref td,.ref f,.ref pp]) (_:RgP CG CF CR CO CD CT CW H r g/\g.m=2/\RB g.n g.kd 35 H td tds ts/\PB g.n g.kd 99 H f φ/\(∀t,φ t=smm tds.length ms ts t) /\
 ((∃ml mds,H pp=some (.tup [.str "within",.ref ml])/\RB g.n g.kd 56 H ml mds ms/\(∀x∈mds,∀y∈tds,x≠y)/\mds.length=tds.length/\∀H',Same H H'->Q (.bl true) H') \/
  (∃(b ls bk ql e:Lg) (las bks ds qds:Le) (dss bss:Nat->Le) (mss bmm:Nat->Nat->Po F) (gs qs:Nat->Po F) (ρ:Po F),WO g H pp b ls bk ql e las bks ds qds tds dss bss mss bmm gs qs ρ/\H Pt=some (.tbl #[])/\∀H',ButT Pt H H'->Q (.bl false) H')))
inductive spLTu(vs:Lf)(H:Hp)(Q:VK)(E:XK):Prop
 | mk (a n:Int) (_:vs=[.int a,.int n]) (_:Pr n/\n<=9973/\0<a/\a<n/\∀f:Int,0<=f->f<n->(f*a-1)%n=0->Q (.int f) H)
structure LTn(n a o e w v:Int)(s:Int):Prop where
 s1:s=1\/s = -1
 w0:0<=w
 v0:0<=v
 o1:1<=o
 e0:0<=e
 eo:e<o
 on:o<n\/(o=n/\e=a)
 sum:w*e+v*o=n
 c1:∃k,o=s*w*a+n*k
 c2:∃k,e = -s*v*a+n*k
def LTn.next(h:LTn n a o e w v s)(c:e≠0):LTn n a e (o-o / e*e) v (w+o / e*v) (-s):=by
 have l:=h.e0;have i:1<=e:=by lia
 have o1:=h.o1;have j:0<=o / e:=Int.ediv_nonneg (by lia) l;have r:o-o / e*e=o%e:=by have:=Int.emod_add_mul_ediv o e;rw[Int.mul_comm]at this;lia
 have r0:=Jm o c;have r1:=Jc o (show 0<e by lia);have eo:=h.eo;obtain⟨b,f⟩:=h.c1;obtain⟨k2,d⟩:=h.c2;have sm:=h.sum;refine⟨?_,h.v0,Int.add_nonneg h.w0 (Int.mul_nonneg j h.v0),i,by lia,by lia,.inl ?_,?_,⟨k2,d⟩,⟨b-o / e*k2,?_⟩⟩
 ·rcases h.s1 with z | z <;> rw[z] <;> decide
 ·rcases h.on with z | z <;> lia
 ·generalize o / e=q at *;grind
 ·generalize o / e=q at *;have:o-q*e=(s*w*a+n*b)-q*(-s*v*a+n*k2):=by rw[<- f,<- d]
  rw[this];grind
def LTn.vb(h:LTn n a o e w v s):v<=n:=by
 have h1:=Int.mul_nonneg h.w0 h.e0;have h2:=Y3 h.o1 h.v0;have:=h.sum;lia
def zxy(a:Pr n)(o1:1<=o)(on:o<n)(h:v*o=n):o=1:=by
 have n2:=a.1;have b:2<=v:=by
  rcases(by lia:v<=0\/v=1\/2<=v) with z | z | z
  ·have:=Int.mul_le_mul_of_nonneg_right z (show 0<=o by lia);lia
  ·rw[z]at h;lia
  ·exact z
 rcases(by lia:o=1\/2<=o) with z | z
 ·exact z
 exfalso;rcases Int.le_total o v with c | c
 ·refine a.2 o z ?_ ?_
  ·have:=Int.mul_le_mul_of_nonneg_right c (show 0<=o by lia);lia
  ·rw[<- h];exact Int.mul_fmod_left v o
 ·refine a.2 v b ?_ ?_
  ·have:=Y3 c (show 0<=v by lia);lia
  ·rw[<- h];exact Int.mul_fmod_right v o
def LTn.done(i:Pr n)(a0:0<a)(h:LTn n a o 0 w v s):(s*w%n*a-1)%n=0:=by
 have sm:=h.sum;have f:o<n:=by rcases h.on with z | z <;> lia
 have b:=zxy i h.o1 f (v:=v) (by rw[Int.mul_zero]at sm;lia);obtain⟨d,c⟩:=h.c1;rw[b]at c;have e:s*w%n=s*w-n*(s*w / n):=by have:=Int.emod_add_mul_ediv (s*w) n;lia
 rw[e];have:(s*w-n*(s*w / n))*a-1=n*(-d-s*w / n*a):=by
  generalize s*w / n=z;grind
 rw[this];exact Int.mul_emod_right n _
inductive spGn(vs:Lf)(H:Hp)(Q:VK)(E:XK):Prop
 | mk (F:Type) (_:Ta F) (n:Int) (_:Chr n F) (m:Nat) (d t:Lg) (l:Lc) (cr:Ka) (φ:Po F) (z:Int) (_:vs=[.ref d,.ref t,.int z,.int n]) (_:Pr n/\H d=some (.dT cr)/\PF n m H cr φ/\H t=some (.tup (l.map V.int))/\T0 m l/\cr.length<sizeLine /\
 ∀H' kvs',Kp [d] H H'->H' d=some (.dT kvs')->PF n m H' kvs' (setP φ l (φ l+ic z))->Q .non H')
def zpj[Ta F]{ψ:Po F}(h:cutP ψ S u≠0) : ψ u≠0:=λq=>h (by
 unfold cutP;split
 ·exact q
 ·rfl)
inductive spPT(vs:Lf)(H:Hp)(Q:VK)(E:XK):Prop
 | mk (F:Type) (_:Ta F) (n:Int) (_:Chr n F) (kd:Int) (d t e:Lg) (l:Lc) (φ ψ : Po F) (z:Int) (_:vs=[.ref d,.int z,.ref t,.ref e,.int n]) (_:Pr n/\n<=9973/\-10000<z/\z<10000/\d≠e/\PB n kd 99 H d φ/\PB n kd 99 H e ψ/\H t=some (.tup (l.map V.int))/\T0 2 l/\(∀u,ψ u≠0->wt kd l+wt kd u<=99) /\
 ∀d' H',H d'=none->Same H H'->PB n kd 99 H' d' (λt=>φ t+ic z*sh l ψ t)->Q (.ref d') H')
inductive spLTms(vs:Lf)(H:Hp)(Q:VK)(E:XK):Prop
 | mk (F:Type) (_:Ta F) (n:Int) (_:Chr n F) (kd:Int) (e1 e2:Lg) (φ ψ : Po F) (N1 N2:Int) (_:vs=[.ref e1,.ref e2,.int n]) (_:Pr n/\n<=9973/\e1≠e2/\PB n kd N1 H e1 φ/\PB n kd N2 H e2 ψ/\0<=N1/\0<=N2/\N1+N2<=99 /\
 ∀d H',H d=none->Same H H'->PB n kd (N1+N2) H' d (mulB φ ψ)->Q (.ref d) H')
inductive spLPls(vs:Lf)(H:Hp)(Q:VK)(E:XK):Prop
 | mk (F:Type) (_:Ta F) (n:Int) (_:Chr n F) (kd:Int) (e1 e2:Lg) (φ ψ : Po F) (N z:Int) (_:vs=[.ref e1,.int z,.ref e2,.int n]) (_:Pr n/\n<=9973/\-10000<z/\z<10000/\N<=99/\PB n kd N H e1 φ/\PB n kd N H e2 ψ /\
 ∀d H',H d=none->Same H H'->PB n kd N H' d (λt=>φ t+ic z * ψ t)->Q (.ref d) H')
inductive spLSm(vs:Lf)(H:Hp)(Q:VK)(E:XK):Prop
 | mk (F:Type) (_:Ta F) (n:Int) (_:Chr n F) (kd:Int) (ml b:Lg) (mds ds:Le) (ms gs:Nat->Po F) (N1 N2:Int) (_:vs=[.ref ml,.ref b,.int n]) (_:Pr n/\n<=9973/\RB n kd N1 H ml mds ms/\RB n kd N2 H b ds gs/\mds.length=ds.length/\(∀x∈mds,∀y∈ds,x≠y)/\0<=N1/\0<=N2/\N1+N2<=99 /\
 ∀d H',H d=none->Same H H'->PB n kd (N1+N2) H' d (smm ds.length ms gs)->Q (.ref d) H')
def zvn[Ta F]{φ ψ : Po F}{x:F}(h:u ∉ S):setP (λt=>φ t+x*cutP ψ S t) u (φ u+x*cutP ψ S u+x * ψ u)=λt=>φ t+x*cutP ψ (S++[u]) t:=funext λt=>by
 by_cases c:t=u
 ·subst c;rw[zey,ziq h,zk6 (S:=S++[t]) (by simp)];grind
 ·rw[zck c,zgd c]
inductive spLss(vs:Lf)(H:Hp)(Q:VK)(E:XK):Prop
 | mk (a b:Lg) (xs ys:Lc) (_:vs=[.ref a,.ref b]) (_:H a=some (.tup (xs.map V.int))/\H b=some (.tup (ys.map V.int))/\xs.length=ys.length/\xs.length<=1000/\∀r H',Same H H'->H' r=some (.tup ((subT xs ys).map V.int))->Q (.ref r) H')
inductive spInt(vs:Lf)(H:Hp)(Q:VK)(E:XK):Prop
 | mk (a b:Lg) (xs ys:Lc) (_:vs=[.ref a,.ref b]) (_:H a=some (.tup (xs.map V.int))/\H b=some (.tup (ys.map V.int))/\xs.length=ys.length/\xs.length<=1000/\∀H',Same H H'->Q (.bl (zb0 xs ys)) H')
inductive spLd5(CO CD CT CW:Lg)(vs:Lf)(H:Hp)(Q:VK)(E:XK):Prop
 | mk (F:Type) (_:Ta F) (n:Int) (_:Chr n F) (p d:Lg) (kd:Int) (ws:Lc) (φ:Po F) (_:vs=[.ref p,.ref d]) (_:0<=kd/\kd<3/\Nn ws/\(∀x∈ws,x<10^31)/\AtK CO CD CT CW kd ws H p/\PB n kd 99 H d φ /\
 ((∀t,φ t=0)->∀H',Same H H'->Q .non H')/\(∀a h H',Same H H'->H' a=some (.tup (h.map V.int))->Ld (rkk kd ws) φ h->Q (.ref a) H'))
inductive spPl5(CO CD CT CW:Lg)(vs:Lf)(H:Hp)(Q:VK)(E:XK):Prop
 | mk (F:Type) (_:Ta F) (n:Int) (_:Chr n F) (p t b:Lg) (kd:Int) (ws:Lc) (x:Lc) (ds:Le) (gs:Nat->Po F) (_:vs=[.ref p,.ref t,.ref b]) (_:0<=kd/\kd<3/\Nn ws/\(∀x∈ws,x<10^31)/\AtK CO CD CT CW kd ws H p/\H t=some (.tup (x.map V.int))/\T0 2 x/\RB n kd 35 H b ds gs/\(∀i,i<ds.length->∃t,gs i t≠0) /\
 (∀H',Same H H'->Q .non H')/\(∀(i:Nat) h H',Same H H'->i<ds.length->Ld (rkk kd ws) (gs i) h->zb0 h x=true->Q (.int i) H'))
inductive spDv5(CO CD CT CW:Lg)(vs:Lf)(H:Hp)(Q:VK)(E:XK):Prop
 | mk (F:Type) (_:Ta F) (n:Int) (_:Chr n F) (p e b:Lg) (kd:Int) (ws:Lc) (φ:Po F) (ds:Le) (gs:Nat->Po F) (N:Int) (_:vs=[.ref p,.ref e,.ref b,.int n]) (_:Pr n/\n<=9973/\0<=kd/\kd<3/\Nn ws/\(∀x∈ws,x<10^31)/\AtK CO CD CT CW kd ws H p/\PB n kd N H e φ/\N<=99/\RB n kd 35 H b ds gs/\(∀i,i<ds.length->∃t,gs i t≠0)/\(∀i,Tame kd (rkk kd ws) (gs i)) /\
 ∀(q ql:Lg) (qds:Le) (rd:Lg) (H':Hp) (ρ:Po F),Same H H'->H' q=some (.tup [.ref ql,.ref rd])->H ql=none->H' ql=some (.lst (qds.map V.ref))->qds.length=ds.length->(∀x∈qds,H x=none/\∃ψ : Po F,PB n kd N H' x ψ)->H rd=none->PB n kd N H' rd ρ->rd ∉ qds->Q (.ref q) H')
structure Dv5{F:Type}[Ta F](n kd N:Int)(rk:Lc->Lc)(H H':Hp)(la ql rd:Lg)(qds:Le)(Dn:Lb)(lf ρ : Po F):Prop where
 sm:Same H H'
 nl:H la=none
 nr:H rd=none
 lr:la≠rd
 lq:la ∉ qds
 rq:rd ∉ qds
 ql:H' ql=some (.lst (qds.map V.ref))
 q:∀x∈qds,H x=none/\∃ψ : Po F,PB n kd N H' x ψ
 r:PB n kd N H' rd ρ
 l:PB n kd N H' la lf
 nd:Dn.Nodup
 bx:∀d∈Dn,d∈box 99
 lo:∀d∈Dn,∀u,lf u≠0->lt rk u d
theorem zee{R:Lg->Prop}:∀{l} {ys},Paired (fun(_:Nat) v=>∃x,v=V.ref x/\R x) l ys->∃a:Le,ys=a.map V.ref/\a.length=l.length/\∀x∈a,R x
 | _,_,.nil=>⟨[],rfl,rfl,λx c=>nomatch c⟩
 | _,_,.cons ⟨x,e,r⟩ t=>by
  obtain⟨a,f,d,h⟩:=zee t;refine⟨x::a,by rw[e,f];rfl,by simp[d],λy b=>?_⟩;rcases Yj.mp b with rfl | b
  ·exact r
  ·exact h y b
def Dv5.same[Ta F]{f b rd:Lg}{d c : Po F}(e:Same H' H2)(I:Dv5 n kd N rk H H' f b rd qds Dn d c):Dv5 n kd N rk H H2 f b rd qds Dn d c:=⟨I.sm.trans e,I.nl,I.nr,I.lr,I.lq,I.rq,e _ _ I.ql,λx a=>⟨(I.q x a).1,let ⟨ψ,h⟩:=(I.q x a).2;⟨ψ,h.same e⟩⟩,I.r.same e,I.l.same e,I.nd,I.bx,I.lo⟩
def Dv5.lead[Ta F]{s w rd:Lg}{m q lf':Po F}(I:Dv5 n kd N rk H H' s w rd qds Dn m q)(r:N<=99)(c:Ld rk m t)(lo:∀u,lf' u≠0->lt rk u t):(Dn++[t]).Nodup/\(∀d∈Dn++[t],d∈box 99)/\(∀d∈Dn++[t],∀u,lf' u≠0->lt rk u d)/\Dn.length<(box 99).length:=by
 have o:t ∉ Dn:=λz=>lt_irrefl (I.lo t z t c.1)
 have i:(Dn++[t]).Nodup:=by
  rw[List.nodup_append];exact⟨I.nd,by simp,λa p b x e=>o (by rw[Yq.mp x]at e;rw[<- e];exact p)⟩
 have j:∀d∈Dn++[t],d∈box 99:=λd hd=>by
  rcases Ju.mp hd with h | h
  ·exact I.bx d h
  ·rw[Yq.mp h];exact zj4 (I.l.sp t c.1) (Int.le_trans (I.l.bd t c.1) r)
 refine⟨i,j,λd hd u f=>?_,?_⟩
 ·rcases Ju.mp hd with h | h
  ·exact lt_trans (lo u f) (I.lo d h t c.1)
  ·rw[Yq.mp h];exact lo u f
 ·have:=zb1 i j;simp at this;lia
inductive spCr5(CO CD CT CW:Lg)(vs:Lf)(H:Hp)(Q:VK)(E:XK):Prop
 | mk (F:Type) (_:Ta F) (n:Int) (_:Chr n F) (p e1 e2:Lg) (kd:Int) (ws:Lc) (φ ψ : Po F) (M:Int) (_:vs=[.ref p,.ref e1,.ref e2,.int n]) (_:Pr n/\n<=9973/\0<=kd/\kd<3/\Nn ws/\(∀x∈ws,x<10^31)/\AtK CO CD CT CW kd ws H p/\PB n kd M H e1 φ/\PB n kd M H e2 ψ/\M<=49/\(∃t,φ t≠0)/\(∃t,ψ t≠0)/\Tame kd (rkk kd ws) φ/\Tame kd (rkk kd ws) ψ /\
 ∀d H' (χ:Po F),H d=none->Same H H'->PB n kd (M+M) H' d χ->Q (.ref d) H')
inductive spOr5(CO CD CT CW:Lg)(vs:Lf)(H:Hp)(Q:VK)(E:XK):Prop
 | mk (c:Int) (_:vs=[.int c]) (_:∀p H',Same H H'->AtK CO CD CT CW (c%3) [] H' p->Q (.ref p) H')
def PM[Ta F](n mo:Int)(H:Hp)(d:Lg)(φ:Po F):Prop:=∃cr,H d=some (.dT cr)/\PF n 2 H cr φ/\∀t,φ t≠0->t.getD 0 0<=mo/\t.getD 1 0<=mo
def PM.same[Ta F]{φ:Po F}(e:Same H H')(h:PM n mo H d φ):PM n mo H' d φ:=let ⟨cr,a,p,b⟩:=h;⟨cr,e _ _ a,p.same e,b⟩
def PM.pb[Ta F]{φ:Po F}(h:PM n mo H d φ):PB n kd (if kd=0 then 7*mo else 2*mo) H d φ:=by
 obtain⟨cr,a,p,b⟩:=h;refine⟨cr,a,p,λt c=>?_⟩;have:=b t c;unfold wt;split <;> lia
def pw5(c mo:Int)(a:Nat):Int:=c*(48271+2*(a:Int))%10007 / 7%(mo+1)
def zx2(c b:Int)(a:Nat)(h:0<=b):0<=pw5 c b a/\pw5 c b a<=b:=by
 unfold pw5;generalize c*(48271+2*(a:Int))%10007 / 7=z;have h1:=Jm z (show b+1≠0 by lia);have h2:=Jc z (show 0<b+1 by lia);lia
inductive spPo5(K:Li)(vs:Lf)(H:Hp)(Q:VK)(E:XK):Prop
 | mk (F:Type) (_:Ta F) (n:Int) (_:Chr n F) (l:Lg) (cs:Lc) (mo:Int) (_:vs=[.ref l,.int mo,.int n]) (_:Pr n/\n<=9973/\H l=some (.lst (cs.map V.int))/\cs.length<=63/\0<=mo/\mo<=5 /\
 ∀d H' (φ:Po F),H d=none->Same H H'->PM n mo H' d φ->Q (.ref d) H')
def FR(F:Type)[Ta F](n kd N:Int)(H H':Hp)(b:Lg)(ds:Le):Prop:=H' b=some (.lst (ds.map V.ref))/\∀x∈ds,H x=none/\∃ψ : Po F,PB n kd N H' x ψ
def FR.same[Ta F](e:Same H' H2)(h:FR F n kd N H H' b ds):FR F n kd N H H2 b ds:=⟨e _ _ h.1,λx a=>⟨(h.2 x a).1,let ⟨ψ,q⟩:=(h.2 x a).2;⟨ψ,q.same e⟩⟩⟩
def FR.old[Ta F](e:Same H0 H)(h:FR F n kd N H H' b ds):FR F n kd N H0 H' b ds:=⟨h.1,λx a=>⟨e.free (h.2 x a).1,(h.2 x a).2⟩⟩
open Classical in
def FR.rb[Ta F](h:FR F n kd N H H' b ds)(l:ds.length<=7):∃gs:Nat->Po F,RB n kd N H' b ds gs:=by
 refine⟨λi=>if q:∃ψ : Po F,∃d,ds[i]? = some d/\PB n kd N H' d ψ then q.choose else λ_=>0,h.1,l,λi d hd=>?_,λi hi t=>?_⟩
 ·have q:∃ψ : Po F,∃d,ds[i]? = some d/\PB n kd N H' d ψ:=let ⟨ψ,p⟩:=(h.2 d (Yx hd)).2;⟨ψ,d,hd,p⟩;simp only[dif_pos q];obtain⟨d',a,c⟩:=q.choose_spec;rw[hd]at a
  cases a;exact c
 ·have q:¬∃ψ : Po F,∃d,ds[i]? = some d/\PB n kd N H' d ψ:=fun⟨_,d,hd,_⟩=>by
   rw[Yy hi]at hd;cases hd
  simp only[dif_neg q]
def FR.put[Ta F]{ψ:Po F}(h:FR F n kd N H H' b ds)(nb:H b=none)(m:H x=none)(l:PB n kd N H' x ψ):FR F n kd N H (upd H' b (.lst ((ds.set i x).map V.ref))) b (ds.set i x):=by
 have e:∀d ψ,PB n kd N H' d ψ->PB (F:=F) n kd N (upd H' b (.lst ((ds.set i x).map V.ref))) d ψ:=λd ψ q=>by
  obtain⟨f,a,p,c⟩:=q;exact⟨f,(zaf (za7 a h.1 (by intro z;cases z))).trans a,p.fix (zdl h.1),c⟩
 refine⟨zad,λy j=>?_⟩;rcases List.mem_or_eq_of_mem_set j with q | q
 ·exact⟨(h.2 y q).1,let ⟨ψ,r⟩:=(h.2 y q).2;⟨ψ,e _ _ r⟩⟩
 ·rw[q];exact⟨m,ψ,e _ _ l⟩
def zig(S:Walk J H1 n P)(K:n<=sizeLine)(p:∀R,R J H1->wi σ H R)
  (E:∀D H' (b:Le),H1 D=none->Same H1 H'->H' D=some (.lst (b.map V.ref))->b.length=n->(∀x∈b,H1 x=none/\H' x=some (.dT []))->Q (.ref D) H'):tComp mp wi (zap 0) tYes ztl σ H Q:=by
 refine zdi S K p (λ_=>True) (λ_=>true) (λi v H'=>∃x,v=.ref x/\H1 x=none/\H' x=some (.dT [])) (λi v A Hb e q=>let ⟨x,m,h,f⟩:=q;⟨x,m,h,e _ _ f⟩) (λi v A a ys ys' L q=>let ⟨x,m,h,f⟩:=q;⟨x,m,h,(zaf (za7 f L (by intro z;cases z))).trans f⟩) trivial (λi y σ' H4 hi hS w hy Ny Nn o hNn=>?_) λB I ys j G l c=>?_
 ·unfold zap tYes;dsimp only;rw[Yl rfl];exact λd s=>o _ _ _ trivial (Same.upd s) ⟨d,Z,w.free s,zad⟩ rfl
 ·rw[Yu.mpr (λ_ _=>Z)]at c;obtain⟨b,rfl,r,C⟩:=zee c;rw[List.length_range]at r;exact E B I b j G l r C
def zfd(h:i<l):ixN l (i:Int)=some i:=by
 unfold ixN;simp;lia
inductive spMx(vs:Lf)(H:Hp)(Q:VK)(E:XK):Prop
 | mk (F:Type) (_:Ta F) (n:Int) (_:Chr n F) (kd:Int) (ls ml:Lg) (las mds:Le) (dss:Nat->Le) (mss:Nat->Nat->Po F) (many:Nat) (N1 N2:Int) (_:vs=[.ref ls,.ref ml,.int many,.int n]) (_:Pr n/\n<=9973/\LB n kd N2 H ls las dss mss/\(∀i,i<las.length->(dss i).length=many)/\many<=7/\H ml=some (.lst (mds.map V.ref))/\las.length<=mds.length/\(∀x∈mds,∃ψ : Po F,PB n kd N1 H x ψ)/\(∀i,i<las.length->∀x∈mds,∀y∈dss i,x≠y)/\0<=N1/\0<=N2/\N1+N2<=99 /\
 ∀fl fds H',H fl=none->Same H H'->FR F n kd (N1+N2) H H' fl fds->fds.length=many->Q (.ref fl) H')
def zho[Ta F][Chr n F](d:Pr n)(f:H p=some (.dT []))(e:T0 2 l)(z0:0<z)(a:z<n)(w:wt kd l<=N):PB n kd N (upd H p (.dT [(ky l,.int z)])) p (setP (λ_=>(0:F)) l (ic z)):=by
 have b:=zct d;have c:ic (F:=F) z≠0:=λq=>by
  have:=(zr_n b).mp ((Chr.z (n:=n) z).mp q);rw[Int.emod_eq_of_lt (by lia) a]at this;lia
 exact⟨_,zad,((PF.nil (H:=H) (F:=F)).put e ((zes b).mpr ⟨z,Z,by lia,a,Z⟩) c).fix (zbd f),Bd.zero.set _ w⟩
def PB.upd1[Ta F]{φ:Po F}(a:H q=some (.dT kv))(c:d≠q)(h:PB n kd N H d φ):PB n kd N (upd H q (.dT kv')) d φ:=h.keep (zbd a) λo b=>(zaf c).trans b
def FR.upd1[Ta F](c:H q=some (.dT kv))(d:q ∉ ds)(h:FR F n kd N H0 H b ds):FR F n kd N H0 (upd H q (.dT kv')) b ds:=⟨(zaf (za7 h.1 c (by intro z;cases z))).trans h.1,λx a=>⟨(h.2 x a).1,let ⟨ψ,p⟩:=(h.2 x a).2;⟨ψ,p.upd1 c λz=>d (z ▸ a)⟩⟩⟩
def FR.new[Ta F](c:H q=none)(h:FR F n kd N H0 H b ds):q ∉ ds:=λz=>by
 obtain⟨ψ,kv,a,_⟩:=(h.2 q z).2;rw[c]at a;cases a
def PB.new[Ta F]{φ:Po F}(b:H q=none)(h:PB n kd N H d φ):d≠q:=λz=>by
 obtain⟨kv,a,_⟩:=h;rw[z,b]at a;cases a
def PB.updL[Ta F]{φ:Po F}(b:H q=some (.lst ys))(h:PB n kd N H d φ):PB n kd N (upd H q (.lst ys')) d φ:=by
 obtain⟨e,a,p,c⟩:=h;exact⟨e,(zaf (za7 a b (by intro z;cases z))).trans a,p.fix (zdl b),c⟩
def FR.updL[Ta F](c:H q=some (.lst ys))(d:b≠q)(h:FR F n kd N H0 H b ds):FR F n kd N H0 (upd H q (.lst ys')) b ds:=⟨(zaf d).trans h.1,λx a=>⟨(h.2 x a).1,let ⟨ψ,p⟩:=(h.2 x a).2;⟨ψ,p.updL c⟩⟩⟩
inductive spMo5(CO CD CT CW:Lg)(vs:Lf)(H:Hp)(Q:VK)(E:XK):Prop
 | mk (F:Type) (_:Ta F) (n:Int) (_:Chr n F) (p b ls pl:Lg) (kd:Int) (ws:Lc) (ds las:Le) (gs:Nat->Po F) (dss:Nat->Le) (mss:Nat->Nat->Po F) (i j many:Nat) (_:vs=[.ref p,.ref b,.ref ls,.ref pl,.int n]) (_:Pr n/\n<=9973/\0<=kd/\kd<3/\Nn ws/\(∀x∈ws,x<10^31)/\AtK CO CD CT CW kd ws H p/\RB n kd 10 H b ds gs/\(∀i,i<ds.length->∃t,gs i t≠0)/\(∀i,Tame kd (rkk kd ws) (gs i))/\H pl=some (.tup [.int i,.int j])/\i<ds.length/\j<ds.length/\LB n kd 0 H ls las dss mss/\las.length=ds.length/\(∀i,i<las.length->(dss i).length=many)/\many<=7/\b≠ls /\
 (∀H',Same H H'->Q (.bl false) H')/\∀H' (rd fl:Lg) (fds:Le) (ρ:Po F),Kp [b,ls] H H'->H' b=some (.lst ((ds++[rd]).map V.ref))->H' ls=some (.lst ((las++[fl]).map V.ref))->H rd=none->H fl=none->PB n kd 20 H' rd ρ->(∃t,ρ t≠0)->FR F n kd 20 H H' fl fds->fds.length=many->Q (.bl true) H')
def zo6{α:Type}(d : α){n:Nat}{P:Nat->α->Prop}(h:∀i,i<n->∃a,P i a):∃f:Nat->α,(∀i,i<n->P i (f i))/\∀i,n<=i->f i=d:=by
 classical
 refine⟨λi=>if q:i<n then(h i q).choose else d,λi hi=>?_,λi hi=>?_⟩
 ·simp only[dif_pos hi];exact(h i hi).choose_spec
 ·simp only[dif_neg (show ¬i<n by lia)]
def FQ[Ta F](P:Po F->Prop)(n kd N:Int)(H H':Hp)(b:Lg)(ds:Le):Prop:=H' b=some (.lst (ds.map V.ref))/\∀x∈ds,H x=none/\∃ψ ,PB n kd N H' x ψ/\P ψ
section
variable{F:Type}[Ta F]{P:Po F->Prop}{n kd N M:Int}{H H' H2:Hp}{b ls:Lg}{ds las:Le}{many:Nat}
def FQ.same(e:Same H' H2)(h:FQ P n kd N H H' b ds):FQ P n kd N H H2 b ds:=⟨e _ _ h.1,λx a=>⟨(h.2 x a).1,let ⟨ψ,q,r⟩:=(h.2 x a).2;⟨ψ,q.same e,r⟩⟩⟩
def FQ.up(e:N<=M)(h:FQ P n kd N H H' b ds):FQ P n kd M H H' b ds:=⟨h.1,λx a=>⟨(h.2 x a).1,let ⟨ψ,q,r⟩:=(h.2 x a).2;⟨ψ,q.up e,r⟩⟩⟩
def FQ.rb(h:FQ P n kd N H H' b ds)(l:ds.length<=7):∃a,RB n kd N H' b ds a/\∀i,i<ds.length->P (a i):=by
 obtain⟨a,c,e⟩:=zo6 (λ_=>(0:F)) (n:=ds.length) (P:=λi ψ=>∀d,ds[i]? = some d->PB n kd N H' d ψ/\P ψ) λi hi=>by
  obtain⟨ψ,q,r⟩:=(h.2 ds[i] (Jv hi)).2;exact⟨ψ,λd hd=>by rw[Yc hi]at hd;cases hd;exact⟨q,r⟩⟩
 refine⟨a,⟨h.1,l,λi d hd=>(c i (zav hd) d hd).1,λi hi t=>by rw[e i hi]⟩,λi hi=>(c i hi _ (Yc hi)).2⟩
def FQ.snoc(h:FQ P n kd N H H' b ds)(e:H x=none)(d:PB n kd N H' x ψ)(c:P ψ):FQ P n kd N H (upd H' b (.lst (ds.map V.ref++[.ref x]))) b (ds++[x]):=by
 refine⟨by rw[zad,List.map_append];rfl,λy a=>?_⟩;rcases Ju.mp a with q | q
 ·exact⟨(h.2 y q).1,let ⟨ψ,r,w⟩:=(h.2 y q).2;⟨ψ,r.updL h.1,w⟩⟩
 ·rw[Yq.mp q];exact⟨e,ψ,d.updL h.1,c⟩
def FQ.updL(c:H' q=some (.lst ys))(d:b≠q)(h:FQ P n kd N H H' b ds):FQ P n kd N H (upd H' q (.lst ys')) b ds:=⟨(zaf d).trans h.1,λx a=>⟨(h.2 x a).1,let ⟨ψ,p,w⟩:=(h.2 x a).2;⟨ψ,p.updL c,w⟩⟩⟩
def LQ(F:Type)[Ta F](n kd N:Int)(H H':Hp)(ls:Lg)(las:Le)(many:Nat):Prop:=H' ls=some (.lst (las.map V.ref))/\∀a∈las,H a=none/\∃fds,FR F n kd N H H' a fds/\fds.length=many
def FR.up(e:N<=M)(h:FR F n kd N H H' b ds):FR F n kd M H H' b ds:=⟨h.1,λx a=>⟨(h.2 x a).1,let ⟨ψ,q⟩:=(h.2 x a).2;⟨ψ,q.up e⟩⟩⟩
def LQ.same(e:Same H' H2)(h:LQ F n kd N H H' ls las many):LQ F n kd N H H2 ls las many:=⟨e _ _ h.1,λa d=>⟨(h.2 a d).1,let ⟨c,q,r⟩:=(h.2 a d).2;⟨c,q.same e,r⟩⟩⟩
def LQ.up(e:N<=M)(h:LQ F n kd N H H' ls las many):LQ F n kd M H H' ls las many:=⟨h.1,λa d=>⟨(h.2 a d).1,let ⟨c,q,r⟩:=(h.2 a d).2;⟨c,q.up e,r⟩⟩⟩
def LQ.lb(h:LQ F n kd N H H' ls las many)(l:las.length<=7)(m12:many<=7):∃(dss:Nat->Le) (mss:Nat->Nat->Po F),LB n kd N H' ls las dss mss/\∀i,i<las.length->(dss i).length=many/\∀x∈dss i,H x=none:=by
 obtain⟨f,j,_⟩:=zo6 (([],λ_ _=>0):Le×(Nat->Po F)) (n:=las.length) (P:=λi p=>(∀d,las[i]? = some d->RB n kd N H' d p.1 p.2)/\p.1.length=many/\∀x∈p.1,H x=none) λi hi=>by
  obtain⟨c,q,r⟩:=(h.2 las[i] (Jv hi)).2;obtain⟨o,w⟩:=q.rb (by lia);exact⟨(c,o),λd hd=>by rw[Yc hi]at hd;cases hd;exact w,r,λx m=>(q.2 x m).1⟩
 exact⟨λi=>(f i).1,λi=>(f i).2,⟨h.1,l,λi a e=>(j i (zav e)).1 a e⟩,λi hi=>(j i hi).2⟩
def LQ.updL(e:H' q=some (.lst ys))(i:ls≠q)(f:q ∉ las)(h:LQ F n kd N H H' ls las many):LQ F n kd N H (upd H' q (.lst ys')) ls las many:=⟨(zaf i).trans h.1,λa c=>⟨(h.2 a c).1,let ⟨d,p,w⟩:=(h.2 a c).2;⟨d,p.updL e λz=>f (z ▸ c),w⟩⟩⟩
def LQ.snoc(h:LQ F n kd N H H' ls las many)(c:ls ∉ las)(e:H x=none)(j:x≠ls)(i:FR F n kd N H H' x a)(f:a.length=many):LQ F n kd N H (upd H' ls (.lst (las.map V.ref++[.ref x]))) ls (las++[x]) many:=by
 refine⟨by rw[zad,List.map_append];rfl,λy d=>?_⟩;rcases Ju.mp d with q | q
 ·exact⟨(h.2 y q).1,let ⟨a,r,w⟩:=(h.2 y q).2;⟨a,r.updL h.1 λz=>c (z ▸ q),w⟩⟩
 ·rw[Yq.mp q];exact⟨e,a,i.updL h.1 j,f⟩
def ztd{φ:Po F}(k0:0<=kd)(a:kd<3)(k:kd≠0)(sp:Spt 2 φ):Tame kd (rkk kd ws) φ:=by
 rw[zu5 a,Yh k];by_cases c:kd=1
 ·rw[Yl c];exact zy0 k sp
 ·rw[Yh c];exact zys k sp
def zsw:Tame kd rk (λ_=>(0:F)):=λh a=>absurd rfl a.1
end
def Mk(kd:Int):Int:=if kd=0 then 35 else 10
def zoq(kd:Int):Mk kd<=35:=by unfold Mk;split <;> decide
def Pgood[Ta F](kd:Int)(ws:Lc)(ψ:Po F):Prop:=(∃t,ψ t≠0)/\Tame kd (rkk kd ws) ψ
inductive spBa5(CO CD CT CW:Lg)(vs:Lf)(H:Hp)(Q:VK)(E:XK):Prop
 | mk (F:Type) (_:Ta F) (n:Int) (_:Chr n F) (p td:Lg) (kd:Int) (ws:Lc) (tds:Le) (ts:Nat->Po F) (wide:Int) (_:vs=[.ref p,.ref td,.int wide,.int n]) (_:Pr n/\n<=9973/\0<=kd/\kd<3/\Nn ws/\(∀x∈ws,x<10^31)/\AtK CO CD CT CW kd ws H p/\RB n kd (Mk kd) H td tds ts/\(∀i,Tame kd (rkk kd ws) (ts i))/\tds.length<=3/\(wide=0\/(wide=1/\kd≠0)) /\
 ∀(q b ls:Lg) (ds las:Le) (H':Hp),Same H H'->H' q=some (.tup [.ref b,.ref ls])->FQ (F:=F) (Pgood kd ws) n kd 35 H H' b ds->LQ F n kd 20 H H' ls las tds.length->ds.length<=4->las.length<=4->Q (.ref q) H')
inductive spBk(vs:Lf)(H:Hp)(Q:VK)(E:XK):Prop
 | mk (F:Type) (_:Ta F) (n:Int) (_:Chr n F) (kd:Int) (td b:Lg) (tds ds:Le) (ts gs:Nat->Po F) (_:vs=[.ref td,.ref b,.int n]) (_:Pr n/\RB n kd 35 H td tds ts/\RB n kd 35 H b ds gs /\
 ∀rl ras H',H rl=none->Same H H'->LQ F n kd 0 H H' rl ras ds.length->ras.length=tds.length->Q (.ref rl) H')
def LB.up[Ta F]{c:Nat->Nat->Po F}(e:N<=M)(h:LB n kd N H ls las dss c):LB n kd M H ls las dss c:=⟨h.at_,h.b,λi a d=>(h.row i a d).up e⟩
inductive spWo(CO CD CT CW:Lg)(vs:Lf)(H:Hp)(Q:VK)(E:XK):Prop
 | mk (F:Type) (_:Ta F) (g:RgD) (_:Chr g.n F) (p td f:Lg) (tds:Le) (ts:Nat->Po F) (φ:Po F) (c wide:Int) (_:vs=[.ref p,.ref td,.ref f,.int c,.int wide,.int g.n]) (_:Pr g.n/\g.n<=9973/\0<=g.kd/\g.kd<3/\Nn g.ws/\(∀x∈g.ws,x<10^31)/\AtK CO CD CT CW g.kd g.ws H p/\RB g.n g.kd (Mk g.kd) H td tds ts/\(∀i,Tame g.kd g.rk (ts i))/\tds.length<=3/\(wide=0\/(wide=1/\g.kd≠0))/\PB g.n g.kd 56 H f φ /\
 ∀(pp b ls bk ql e:Lg) (las bks ds qds:Le) (dss bss:Nat->Le) (mss bmm:Nat->Nat->Po F) (gs qs:Nat->Po F) (ρ:Po F) H',Same H H'->WO g H' pp b ls bk ql e las bks ds qds tds dss bss mss bmm gs qs ρ->Q (.ref pp) H')
theorem zi2{b:Lc}:∀{ys},(∀y∈ys,y∈b.map V.int)->∃a:Lc,ys=a.map V.int/\a.length=ys.length
 | [],_=>⟨[],rfl,rfl⟩
 | y::ys,h=>by
  obtain⟨a,e,l⟩:=zi2 λz hz=>h z (.tail _ hz)
  obtain⟨x,_,rfl⟩:=Ji.mp (h y (.head _));exact⟨x::a,by rw[e];rfl,by simp[l]⟩
def zvs:∀y∈cutV xs lo hi,y∈xs:=λy a=>List.mem_of_mem_drop (List.mem_of_mem_take a)
def TD(F:Type)[Ta F](n mo:Int)(H H':Hp)(b:Lg)(ds:Le):Prop:=H' b=some (.lst (ds.map V.ref))/\∀x∈ds,H x=none/\∃φ : Po F,PM n mo H' x φ
def TD.same[Ta F](e:Same H' H2)(h:TD F n mo H H' b ds):TD F n mo H H2 b ds:=⟨e _ _ h.1,λx a=>⟨(h.2 x a).1,let ⟨φ,q⟩:=(h.2 x a).2;⟨φ,q.same e⟩⟩⟩
def TD.rb[Ta F](h:TD F n mo H H' b ds)(l:ds.length<=7):∃a:Nat->Po F,RB n kd (if kd=0 then 7*mo else 2*mo) H' b ds a/\∀i t,a i t≠0->t.getD 1 0<=mo:=by
 obtain⟨a,f,j⟩:=zo6 (λ_=>(0:F)) (n:=ds.length) (P:=λi ψ=>∀d,ds[i]? = some d->PM n mo H' d ψ) λi hi=>by
  obtain⟨ψ,q⟩:=(h.2 ds[i] (Jv hi)).2;exact⟨ψ,λd hd=>by rw[Yc hi]at hd;cases hd;exact q⟩
 refine⟨a,⟨h.1,l,λi d hd=>(f i (zav hd) d hd).pb,λi hi t=>by rw[j i hi]⟩,λi t e=>?_⟩;rcases Jg i ds.length with c | c
 ·obtain⟨kv,_,_,b⟩:=f i c _ (Yc c);exact(b t e).2
 ·rw[j i c]at e;exact absurd rfl e
def PM.updL[Ta F]{φ:Po F}(b:H q=some (.lst ys))(h:PM n mo H d φ):PM n mo (upd H q (.lst ys')) d φ:=by
 obtain⟨e,a,p,c⟩:=h;exact⟨e,(zaf (za7 a b (by intro z;cases z))).trans a,p.fix (zdl b),c⟩
def PM.up[Ta F]{φ:Po F}(e:mo<=mo')(h:PM n mo H d φ):PM n mo' H d φ:=let ⟨cr,a,p,b⟩:=h;⟨cr,a,p,λt c=>⟨Int.le_trans (b t c).1 e,Int.le_trans (b t c).2 e⟩⟩
def TD.one[Ta F][Chr n F](o:Pr n)(h:TD F n 5 H0 H b ds)(hx:x∈ds)(w:T0 2 l)(lb:l.getD 0 0<=5/\l.getD 1 0<=5){f:Ka}(d:H x=some (.dT f)):TD F n 5 H0 (upd H x (.dT (putK f (ky l) (.int 1)))) b ds:=by
 have s:=zct o;have n2:=o.1;have A:ic (F:=F) 1≠0:=λq=>by
  have:=(zr_n s).mp ((Chr.z (n:=n) 1).mp q);rw[Int.emod_eq_of_lt (by decide) (by lia)]at this;lia
 have m:Fix H (upd H x (.dT (putK f (ky l) (.int 1)))):=zbd d;refine⟨(zaf (za7 h.1 d (by intro z;cases z))).trans h.1,λy j=>⟨(h.2 y j).1,?_⟩⟩;obtain⟨φ,i,a,p,bd⟩:=(h.2 y j).2;by_cases c:y=x
 ·subst c;rw[d]at a
  cases a;refine⟨_,_,zad,(p.put w ((zes s).mpr ⟨1,Z,by decide,by lia,Z⟩) A).fix m,λt r=>?_⟩;by_cases e:t=l
  ·rw[e];exact lb
  ·rw[zck e]at r;exact bd t r
 ·exact⟨φ,i,(zaf c).trans a,p.fix m,bd⟩
inductive spLaw(K:Li)(Pt:Lg)(vs:Lf)(H:Hp)(Q:VK)(E:XK):Prop
 | mk (a:Lg) (ns:Lc) (_:vs=[.ref a]) (_:SqL K H a (ns.map V.int)/\ns.length<=63/\H Pt=some (.tbl #[])/\∀H',Q (.bl true) H')
abbrev OrdT(_:Txt P w K mg base zan zai zac zae zaj zam zay zak):Prop:=∀kd ws,0<=kd->kd<3->Nn ws->(∀x∈ws,x<10^31)->∃C,OrdP P w K mg base C (AtK zac zae zaj zac kd ws) (rkk kd ws) (fbK kd ws)
def nwH(h:H d=none)(o:HO):∃H2,upd H d o=H2/\Same H H2/\H2 d=some o:=⟨_,Z,Same.upd h,zad⟩
end K6
namespace K6
open PySem L2
open K1 K2 K3 K6 K8 K37 G K20
section
variable{P:Ll}{w:Lk}{K:Li}{mg:Sa}{base:Lo}{f:Lg}{fd:FuncData}{zan zai zac zae zaj zam zay zak:Lg}(T:Txt P w K mg base zan zai zac zae zaj zam zay zak)
include T
local macro_rules | `(tactic| walk_at "x") => `(tactic| (refine xg λg hg => ?_; repeat refine xl λ_ => ?_))
local macro_rules | `(tactic| walk_at "v") => `(tactic| (intro _ _ _ _; (repeat refine xl λ_ => ?_); exact λh => h.1 ▸ rfl))
local macro_rules | `(tactic| walk_at "sd") => `(tactic| first
 | assumption | ((try dsimp only);lia) | ((try dsimp only);decide) | exact⟨by decide,by decide⟩ | exact⟨by decide,by decide,by decide⟩ | exact Or.inl ⟨by decide,by decide⟩ | exact⟨by lia,by lia⟩ | exact Or.inl ⟨by lia,by lia⟩ | exact Or.inr ⟨by decide,by decide⟩ | exact Or.inr ⟨by lia,by lia⟩)
local macro_rules | `(tactic| walk_at "rd") => `(tactic| repeat first
 | refine⟨_,rfl,?_⟩ | refine⟨_,_,rfl,rfl,?_⟩ | refine⟨_,_,rfl,rfl,by walk_at "sd",?_⟩ | refine And.intro rfl ?_ | refine And.intro (by walk_at "sd") ?_ | with_reducible refine iteT ?_ | with_reducible refine iteF ?_ | (apply ixT_of;assumption;rfl))
local macro_rules | `(tactic| walk_at "clo") => `(tactic| exact h)
local macro_rules | `(tactic| walk_at "v") => `(tactic| (rintro _ _ _ _ ⟨⟩; rename_i e _; exact e ▸ rfl))
local macro_rules | `(tactic| walk_at "o") => do
 let i:=λn=>Lean.mkIdent n
 `(tactic| (refine $(i `F.okN) $(i `sc) (by walk_at "v") (λ$(i `cdv) $(i `A) $(i `outer) $(i `s) $(i `H) $(i `vs) $(i `Q) $(i `E) $(i `hr)=>?_);refine xg λ$(i `g_) $(i `hg_)=>?_;rintro⟨⟩;rename_i $(i `e_):ident $(i `h):ident))
local macro_rules | `(tactic| walk_at "h") => do
 let i:=λn=>Lean.mkIdent n
 `(tactic| (subst $(i `e_);subst $(i `hg_)))
def zo8(F:FunD K "shared_divisor" "shared_divisor" zdq .none f fd) : Fq T 1 f fd Pa spShared:=by
 refine okS ["one","other","rest"] F λsc=>?_
 walk_at "o";rename_i a b;walk_at "h"
 refine⟨_,(zaa (zdb PassesOwn.never (zat zil (pv 1) (zal) (nomark _)) (zaa (zaq 2 sc.nd (zaz zkq (pv 0) (pv 1)))
  (zaa (zaq 0 sc.nd (pv 1))
  (zah (zaq 1 sc.nd (pv 2))))))
  (zah (zao (pv 0)))),?_⟩
 obtain⟨r,x,k⟩:=h;refine⟨λm q H'=>∃(i d:Int) (v:Option V),m=d.toNat/\q = [some (.int i),some (.int d),v]/\H'=H/\0<=i/\0<=d/\Gc a b i d,⟨_,_,_,none,Z,Z,Z,K1.start r x⟩,?_⟩;rintro m q H' ⟨i,d,v,rfl,rfl,rfl,p,h2,hg⟩;walk_at "rd";refine cNe (λc=>?_) (λc=>?_)
 ·refine⟨λl j=>∃n,l=[some (.int d),some (.int (i.fmod d)),n]/\j=H',?_,?_⟩
  ·rintro l j ⟨n,rfl,rfl⟩;exact⟨(i.fmod d).toNat,K1.less (by lia),_,_,n,rfl,rfl,rfl,K1.turn hg p (by lia)⟩
  ·refine⟨_,Z,_,Z,_,_,Z,Z,c,?_⟩;walk_at "rd";rfl
 ·refine⟨_,Z,?_⟩;show Q (.int i) H';rw[K1.out hg p c];exact k
def zq0(F:FunD K "is_prime" "is_prime" zhl .none f fd) : Fq T 1 f fd ["number"] spPrime:=by
 refine okS ["number","divisor"] F λsc=>?_
 walk_at "o";rename_i n;walk_at "h"
 refine⟨_,(zaa (zbi (zat zmx (pv 0) (zal) (nomark _)) (zah (zao (zcs))) zax)
  (zaa (zaq 1 sc.nd (zal))
  (zaa (zdb PassesOwn.never (zat zvq (zaz zdh (pv 1) (pv 1)) (pv 0) (nomark _)) (zaa (zbi (zat zd1 (zaz zkq (pv 0) (pv 1)) (zal) (nomark _)) (zah (zao (zcs))) zax)
  (zah (zxs (i:=1) sc.nd rfl (Or.inl rfl) (zal) zwr))))
  (zah (zao (zcs)))))),?_⟩
 obtain⟨p,k⟩:=h;walk_at "rd";refine cD (λc=>?_) (λc=>?_)
 ·show Q (.bl false) H;rw[low c];exact k
 refine⟨λm l H'=>∃d:Int,m=(200-d).toNat/\l = [some (.int n),some (.int d)]/\H'=H/\2<=d/\d<=101/\NoDiv n d,⟨_,2,Z,Z,Z,K3.start n⟩,?_⟩;rintro m l H' ⟨d,rfl,rfl,rfl,b,x,hd⟩;refine⟨_,Z,_,Z,_,_,Z,Z,.inl (zlv (n:=n) b x),?_⟩;walk_at "rd";refine cD (λq=>?_) (λq=>?_)
 ·refine⟨λj a=>j=[some (.int n),some (.int (d+1))]/\a=H'/\¬Int.fmod n d=0,?_,?_⟩
  ·rintro j a ⟨rfl,rfl,r⟩;exact⟨(200-(d+1)).toNat,K3.less b q p,d+1,rfl,rfl,rfl,K3.turn hd r b q p⟩
  ·refine⟨_,Z,_,Z,_,_,Z,Z,(by show d≠0;lia),?_⟩;walk_at "rd";refine cEq (λz=>?_) (λz=>?_)
   ·show Q (.bl false) H';rw[found b q z];exact k
   ·walk_at "rd"
    exact z
 ·show Q (.bl true) H';rw[K3.out hd (by lia) b q];exact k
def zjt(F:FunD K "__init__" "Field.__init__" zdn .none f fd) : Fq T 1 f fd Nj (spField K):=by
 refine okS ["self","prime"] F λsc=>?_
 walk_at "o";rename_i p C b v;walk_at "h"
 refine⟨_,(zah (zd8 (pv 0) (pv 1) rfl)),?_⟩;obtain⟨d,c,a,k⟩:=h;exact⟨_,Z,_,Z,p,C,b,[],Z,d,c,a,(by show 0<1000;decide),k⟩
def zjs(F:FunD K "__init__" "Rests.__init__" zdp .none f fd)(b:Cq T 1 "is_prime" ["number"] [] spPrime)(a:CCal P w K mg base CX0 1 "Field" "__init__" ["self","prime"] [] (spField K)):Fq T 2 f fd Nj (spRests zai):=by
 refine okS ["self","prime"] F λsc=>?_
 walk_at "o";rename_i p j n;walk_at "h"
 refine⟨_,(zaa (zbi (PW.pt (zj8 (zat zqg (pv 1) (zr6 T.g_GREATEST_PRIME rfl) (nomark _)) (zh1 (ze4 (zdc (zau b hr (pa_1 1))))))) zhz zax)
  (zah (zb4 (zyw a hr zbx .nil (pa_2 0 1))))),?_⟩
 obtain⟨m,i,d,l⟩:=h;walk_at "rd";refine cD (λc=>absurd i (by lia)) (λc=>?_);refine⟨_,Z,n,Z,by lia,_,Z,?_⟩;rw[d];refine iteF ?_;exact⟨_,Z,_,Z,p,zai,j,_,Z,m,T.cl_Rests,T.na_Rests_prime,l⟩
def zmu(F:FunD K "nought" "Rests.nought" zej .none f fd) : Fq T 1 f fd ["self"] (spC (.int 0)):=by
 refine okS ["self"] F λsc=>?_
 walk_at "o";rename_i p;walk_at "h"
 refine⟨_,(zah (zao (zal))),?_⟩;exact h
def zry(F:FunD K "plus" "Rests.plus" zfr .none f fd) : Fq T 1 f fd Np (spBinR zai λn a b=>(a+b)%n):=by
 refine okS ["self","a","b"] F λsc=>?_
 walk_at "o";rename_i p c n a b;walk_at "h"
 refine⟨_,(zah (zao (zaz zb6 (zaz zcr (pv 1) (pv 2)) (zba (K:=K) rfl (pv 0) rfl)))),?_⟩;obtain⟨⟨i,d,pl⟩,ia,ib,k⟩:=h;have p2:=d.1;walk_at "rd";exact⟨p,zai,c,_,_,Z,i,T.cl_Rests,T.na_Rests_prime,Z,_,_,Z,Z,(by show 0<n;lia),k⟩
def zor(F:FunD K "times" "Rests.times" zev .none f fd) : Fq T 1 f fd Np (spBinR zai λn a b=>a*b%n):=by
 refine okS ["self","a","b"] F λsc=>?_
 walk_at "o";rename_i p c n a b;walk_at "h"
 refine⟨_,(zah (zao (zaz zb6 (zaz zdh (pv 1) (pv 2)) (zba (K:=K) rfl (pv 0) rfl)))),?_⟩;obtain⟨⟨d,j,pl⟩,i,ib,k⟩:=h;have p2:=j.1;obtain⟨a0,a1⟩:=i;walk_at "rd";exact⟨p,zai,c,_,_,Z,d,T.cl_Rests,T.na_Rests_prime,Z,_,_,Z,Z,(by show 0<n;lia),k⟩
def zwo(F:FunD K "degree" "degree" zl3 .none f fd) : Fq T 1 f fd ["term"] (spDeg K):=by
 refine okS ["term"] F λsc=>?_
 walk_at "o";rename_i a xs;walk_at "h"
 refine⟨_,(zah (zao (zaw (zn5 (K:=K) rfl true rfl) rfl T.b_sum (by kernel_rfl) (pa_1 0)))),?_⟩;obtain⟨b,k⟩:=h;exact⟨_,Z,a,xs,Z,b,k⟩
def zrv(F:FunD K "rank" "Order.rank" zfp .none f fd) : Fq T 1 f fd Pn (spRank (AtO zac) rkL):=by
 refine okS ["self","term"] F λsc=>?_
 walk_at "o";rename_i p t xs;walk_at "h"
 refine⟨_,(zah (zao (za9 (zbl (K:=K) rfl) rfl T.b_tuple (by kernel_rfl) (pa_1 1)))),?_⟩;obtain⟨hp,a,px,k⟩:=h;have b:=SqT.of (K:=K) a;exact⟨_,Z,t,_,Z,.inr ⟨b,k t H (Same.refl _) a⟩⟩
def zsg(F:FunD K "rank" "Degrees.rank" zep .none f fd)(a:Cq T 1 "degree" ["term"] [] (spDeg K)):Fq T 2 f fd Pn (spRank (AtO zae) rkD):=by
 refine okS ["self","term"] F λsc=>?_
 walk_at "o";rename_i p t xs;walk_at "h"
 refine⟨_,(zah (zao (zaz zpf (zci ((zab (zau a hr (pa_1 1)) zar))) (za9 (zbl (K:=K) rfl) rfl T.b_tuple (by kernel_rfl) (pa_1 1))))),?_⟩;obtain⟨hp,c,j,k⟩:=h;have i:=SqT.of (K:=K) c;refine⟨_,Z,t,xs,Z,i,(by show 1<=sizeLine;decide),λl m=>?_⟩;have b:Same H (upd H l (HO.tup [V.int xs.sum])):=Same.upd m;refine⟨_,Z,t,_,Z,.inr ⟨b.seqT i,?_⟩⟩;refine⟨_,_,_,_,Z,Z,SqT.of (zad),b.seqT i,by simp,by simp;exact Yr (Nat.add_le_add_left j.len 1) (by rw[sizeLine_eq];decide),λz=>?_,λ_ r d=>?_⟩
 ·exact absurd (List.map_eq_nil_iff.mp z) j.ne
 ·exact k r _ (b.updR (b.free d)) zad
def zsa(F:FunD K "rank" "Tails.rank" zfz .none f fd)(a:Cq T 1 "degree" ["term"] [] (spDeg K)):Fq T 2 f fd Pn (spRank (AtO zaj) rkT):=by
 refine okS ["self","term"] F λsc=>?_
 walk_at "o";rename_i p t xs;walk_at "h"
 refine⟨_,(zah (zao (zaz zpf (zci ((zab (zau a hr (pa_1 1)) zar))) (za9 (zbl (K:=K) rfl) rfl T.b_tuple (by kernel_rfl) ((zab (zb5 (N:=["power"]) (Blk.plain (by decide +kernel) (by decide +kernel) rfl (by decide +kernel) zli) rfl (zuz (K:=K) rfl rfl T.b_reversed (pa_1 1)) (λO G U b=>zdr (i:=0) zli rfl rfl) (λO G U b=>zbs) (λO G U b=>zm8 zh0 (pv 0))) zar)))))),?_⟩;obtain⟨hp,q,j,k⟩:=h;have I:=SqT.of (K:=K) q;refine⟨_,Z,t,xs,Z,I,(by show 1<=sizeLine;decide),λl hl=>?_⟩;have C:Same H (upd H l (HO.tup [V.int xs.sum])):=Same.upd hl;have c:=C.seqT I;have y:(xs.map V.int).length=xs.length:=Yd _;show tComp _ _ _ _ _ _ _ _;refine zos (J:=Itv K t (xs.map V.int).length) (H1:=upd H l (HO.tup [V.int xs.sum])) (zqt c) (by rw[y];exact Yr j.len (by decide)) ?_ (λσ=>σ.length=1) (λ_=>true) (λi=>.int (-(xs.getD (xs.length-1-i) 0))) rfl ?_ λD H' e d=>?_
 ·exact λR hR=>⟨_,Z,t,_,Z,c,hR⟩
 ·rintro i x n H2 hi hs e M Ny Nn W hn;rw[y]at M;rw[zet M];match n,hs with
  | [_],_=>exact⟨_,rfl,_,rfl,W _ _ rfl (Same.refl _) rfl⟩
 rw[Yu.mpr (λ_ _=>Z),y]at d;have X:(List.range xs.length).map (λi=>V.int (-(xs.getD (xs.length-1-i) 0)))=(xs.reverse.map λx => -x).map V.int:=by
  rw[<- zrh xs λx => -x,Jh];rfl
 rw[X]at d;refine⟨D,_,Z,.inl ⟨SqL.of d,λm Y=>?_⟩⟩;have S:Same H' (upd H' m (HO.tup ((xs.reverse.map λx => -x).map V.int))):=Same.upd Y;have L:=(C.trans e).trans S;refine⟨l,m,_,_,Z,Z,SqT.of (S _ _ (e _ _ zad)),SqT.of zad,by simp,by simp;exact Yr (Nat.add_le_add_left j.len 1) (by rw[sizeLine_eq];decide),λz=>?_,λ_ r B=>?_⟩
 ·exact absurd (by simpa using z) j.ne
 ·exact k r _ (L.updR (L.free B)) zad
def ziw(F:FunD K "fits" "Order.fits" zfn .none f fd) : Fq T 1 f fd ["self","many"] (spFits At λ_=>true):=by
 refine okS ["self","many"] F λsc=>?_
 walk_at "o";rename_i p k;walk_at "h"
 refine⟨_,(zah (zao (zcs))),?_⟩;exact h.2 H (Same.refl _)
def zh8(F:FunD K "first_of" "Order.first_of" zdw .none f fd) (i:OrdC C At) (m:Mq T 3 C "rank" Pn [] (spRank At rk)) (x:BM K C "rank"):Fq T 6 f fd Nb (spFirst At rk):=by
 refine okS ["self","terms"] F λsc=>?_
 walk_at "o";rename_i p l ys a;walk_at "h"
 refine⟨_,(zaa (zbi (zat zd1 (zaw (za8 (K:=K) rfl) rfl T.b_len PySem.boot_len (pa_1 1)) (zal) (nomark _)) zhz zax)
  (zah (zao (zt4 m x (pv 1) (pv 0) hr .nil T.b_max)))),?_⟩
 obtain⟨j,b,r,hw,d,k⟩:=h;obtain⟨q,fs,y,n⟩:=i.ins j;refine⟨_,Z,l,_,Z,.inl (SqL.of b),?_⟩;walk_at "rd";refine cEq (λc=>absurd (Y9.mp (by lia)) d) (λc=>?_);refine⟨_,Z,_,Z,p,q,fs,l,ys,Z,y,n "rank" (by decide +kernel),Z,b,?_⟩;exact zxa i a ys H j b r hw d k
def znv(F:FunD K "__init__" "Ring.__init__" zd9 .none f fd) (a:OrdT T):Fq T 2 f fd Nd (spRgInit zan zac zae zaj zac):=by
 refine okS ["self","many","field","order"] F λsc=>?_
 walk_at "o";rename_i r l m pf x kd ws;walk_at "h"
 obtain⟨C,O⟩:=a kd ws h.2.1 h.2.2.1 h.2.2.2.1 h.2.2.2.2.1;refine⟨_,(zaa (zbi (PW.pt (zj8 (zat zmx (pv 1) (zal) (nomark _)) (zj8 (zat zqg (pv 1) (zaw zj6 rfl T.b_len PySem.boot_len ((zab (zrr T.g_LETTERS rfl) zar))) (nomark _)) (zh1 (ze4 (zdc (pe_m O.fits (pv 3) hr zbx .nil (pa_1 1)))))))) zhz zax)
  (zaa (zd8 (pv 0) (pv 1) rfl)
  (zaa (zd8 (pv 0) (pv 2) rfl)
  (zah (zd8 (pv 0) (pv 3) rfl))))),?_⟩
 obtain⟨j,k0,k4,wn,wb,d,ok,k⟩:=h;walk_at "rd";refine cD (λc=>absurd ok.1 (by lia)) (λc=>?_);refine⟨_,Z,_,Z,(by decide +kernel),?_⟩;rw[zsl];walk_at "rd";refine cD (λG=>absurd ok.2.1 (by lia)) (λG=>?_);obtain⟨z,fs,D,y⟩:=O.oC.ins d;refine⟨_,Z,x,z,fs,Z,D,y "fits" (by decide +kernel),_,Z,x,m,Z,d,λH1 q=>?_⟩;refine⟨_,Z,cNB (λp=>by rw[ok.2.2]at p;cases p) (λp=>?_)⟩;have i:=q _ _ j;refine⟨_,Z,_,Z,r,zan,l,_,Z,i,T.cl_Ring,T.na_Ring_many,(by show 0<1000;decide),?_⟩;refine⟨_,Z,_,Z,r,zan,l,_,Z,zad,T.cl_Ring,T.na_Ring_field,(by show 1<1000;decide),?_⟩;refine⟨_,Z,_,Z,r,zan,l,_,Z,zad,T.cl_Ring,T.na_Ring_order,(by show 2<1000;decide),?_⟩;refine k _ zad λb o B n=>?_
 rw[zaf n,zaf n,zaf n];exact q _ _ B
def zt0(F:FunD K "product" "product" zj3 .none f fd) : Fq T 1 f fd Pa (spProd K):=by
 refine okS ["one","other"] F λsc=>?_
 walk_at "o";rename_i a b xs ys;walk_at "h"
 refine⟨_,(zah (zao (za9 (zbl (K:=K) rfl) rfl T.b_tuple (by kernel_rfl) ((zab (zb5 (N:=["power","further"]) (Blk.plain (by decide +kernel) (by decide +kernel) rfl (by decide +kernel) zbp) rfl (zcu (K:=K) rfl true true rfl T.b_zip (pa_2 0 1)) (λl j m c=>zen (K:=K) rfl rfl rfl zbp rfl rfl) (λl j m c=>zbs) (λl j m c=>zaz zcr (pv 0) (pv 1))) zar))))),?_⟩;obtain⟨n,p,z,k⟩:=h;show tComp _ _ _ _ _ _ _ _;refine zco (K:=K) (b1:=true) (b2:=true) (a:=a) (b:=b) (xs:=xs) (ys:=ys) yes2 (λx y=>.int (x+y)) (by rfl) ?_ n p z ?_ ?_ λD H' e d=>?_
 ·exact λR q=>⟨_,Z,_,Z,q⟩
 ·exact λ_ _ _ h=>h
 ·exact λi H' R _ h=>⟨_,Z,_,Z,_,_,Z,Z,h⟩
 rw[zgc (λx y=>x+y)]at d;refine⟨D,_,Z,.inl ⟨SqL.of d,λr hr=>?_⟩⟩;exact k r _ (e.trans (Same.upd hr)) zad
def zvc(F:FunD K "goes_into" "goes_into" zg2 .none f fd) : Fq T 1 f fd Pa (spGoes K):=by
 refine okS ["one","other"] F λsc=>?_
 walk_at "o";rename_i a b xs ys;walk_at "h"
 refine⟨_,(zah (zao (zaw (ze3 (K:=K) rfl rfl) rfl T.b_all (by kernel_rfl) ((zab (zb5 (N:=["power","bound"]) (Blk.plain (by decide +kernel) (by decide +kernel) rfl (by decide +kernel) zel) rfl (zcu (K:=K) rfl true true rfl T.b_zip (pa_2 0 1)) (λj d l c=>zen (K:=K) rfl rfl rfl zel rfl rfl) (λj d l c=>zbs) (λj d l c=>zcc zvq (pv 0) (pv 1) (nomark _))) zar))))),?_⟩;obtain⟨m,p,q,B,k⟩:=h;show tComp _ _ _ _ _ _ _ _;refine zco (K:=K) (b1:=true) (b2:=true) (a:=a) (b:=b) (xs:=xs) (ys:=ys) yes2 (λx y=>.bl (decide (x<=y))) (by rfl) ?_ m p B ?_ ?_ λD H' e n=>?_
 ·exact λR z=>⟨_,Z,_,Z,z⟩
 ·exact λ_ _ _ h=>h
 ·exact λi H' R _ h=>⟨_,Z,_,Z,_,_,Z,Z,h⟩
 refine⟨D,(List.range xs.length).map λi=>decide (xs.getD i 0<=ys.getD i 0),Z,SqL.of ?_,?_⟩
 ·rw[n];unfold zipV;rw[Yu.mpr (λ_ _=>Z),Jh,<- q,Nat.min_self];rfl
 ·have r:((List.range xs.length).map λi=>decide (xs.getD i 0<=ys.getD i 0)).all id=zb0 xs ys:=by
   unfold zb0;rw[List.all_map];rfl
  rw[r];exact k _ e
def zqo(F:FunD K "left_over" "left_over" zgj .none f fd)(c:Cq T 1 "goes_into" Pa [] (spGoes K)):Fq T 2 f fd Pa spLeft:=by
 refine okS ["one","other"] F λsc=>?_
 walk_at "o";rename_i a b xs ys;walk_at "h"
 refine⟨_,(zaa (zbi (ze4 (zdc (zau c hr (pa_2 0 1)))) zhz zax)
  (zah (zao (za9 (zbl (K:=K) rfl) rfl T.b_tuple (by kernel_rfl) ((zab (zb5 (N:=["power","whole"]) (Blk.plain (by decide +kernel) (by decide +kernel) rfl (by decide +kernel) zek) rfl (zcu (K:=K) rfl true true rfl T.b_zip (pa_2 0 1)) (λq n z d=>zen (K:=K) rfl rfl rfl zek rfl rfl) (λq n z d=>zbs) (λq n z d=>zaz zhb (pv 1) (pv 0))) zar)))))),?_⟩
 obtain⟨l,p,C,B,hg,k⟩:=h;refine⟨_,Z,_,Z,a,b,xs,ys,Z,SqT.of l,SqT.of p,C,B,λH1 j=>⟨_,Z,?_⟩⟩;rw[hg];refine iteF ?_;show tComp _ _ _ _ _ _ _ _;refine zco (K:=K) (b1:=true) (b2:=true) (a:=a) (b:=b) (xs:=xs) (ys:=ys) yes2 (λx y=>.int (y-x)) (by rfl) ?_ (SqT.of (j _ _ l)) (SqT.of (j _ _ p)) B ?_ ?_ λD H' e m=>?_
 ·exact λR G=>⟨_,Z,_,Z,G⟩
 ·exact λ_ _ _ h=>h
 ·exact λi H' R _ h=>⟨_,Z,_,Z,_,_,Z,Z,h⟩
 rw[zgc (λx y=>y-x)]at m;refine⟨D,_,Z,.inl ⟨SqL.of m,λr hr=>?_⟩⟩;refine k r _ ((j.trans e).trans (Same.upd hr)) ?_;rw[zad];congr 3;unfold subT;rw[List.zipWith_comm]
def zp8(F:FunD K "absorb" "absorb" zma .none f fd) (a6:∀n,n<=9973->Pr n->∃C,FldP P w K mg base C (AtN zai zai n) n):Fq T 4 f fd P8 (spAbs zan zai zai zac zae zaj zac):=by
 refine okS ["ring","total","f","nought","term","number"] F λsc=>?_
 walk_at "o";rename_i F fF r d e g cF cr fvs φ ψ;walk_at "h"
 obtain⟨CF,B⟩:=a6 g.n h.1.nb h.1.np;refine⟨_,(zaa (zaq 3 sc.nd (ztp B.nought (zba (K:=K) rfl (pv 0) rfl) hr zbx .nil))
  (zah (zc3 (zbm PassesOwn.never rfl (zcp (pv 2)) (zc4 rfl (za1 (zas (i:=4) sc.nd rfl (Or.inl rfl)) (za1 (zas (i:=5) sc.nd rfl (Or.inl rfl)) zcd))) (zaa (zbi (zlx (znj (uOne hr) (pv 4) (pv 1))) (zah (zaq 5 sc.nd (pe_m B.plus (zba (K:=K) rfl (pv 0) rfl) hr zbx .nil ((zab (zbf (uOne hr) (pv 1) (pv 4) (λ_ _=>Z)) (pa_1 5)))))) zax)
  (zah (zbi (zat (ztn hr.units) (pv 5) (pv 3) (nomark _)) (zah (zb4 (zlb (uOne hr) (pv 1) (pa_1 4)))) (zah (zcg (uOne hr) (pv 1) (pv 4) (pv 5) rfl))))))))),?_⟩
 obtain⟨hR,de,hd,he,pF,pG,hl,bF,bG,k⟩:=h;obtain⟨dx,a3⟩:=hR.at_;have hf:=hR.fd;obtain⟨dF,hF⟩:=B.ins hf;refine⟨_,Z,r,zan,dx,_,_,Z,a3,T.cl_Ring,T.na_Ring_field,Z,g.pf,dF,_,Z,hF,no_P _ _ (by decide +kernel),F,fF,cF,g.pf,Z,hf,λu H1 M hu=>?_⟩;rw[zeq]at hu;refine⟨_,Z,e,fvs,Z,.inl (M _ _ he),λo=>?_⟩;have a9:=pG.tnd;have lt:=zb3 fvs;have W:=M _ _ hd;have a4:H1 e=some (.dT fvs):=M _ _ he;refine zb9 (λi σ H'=>i<=fvs.length/\(∃v4 v5,σ = [some (.ref r),some (.ref d),some (.ref e),some u,v4,v5])/\FzD H' e o fvs/\Kp [d,e] H1 H'/\∃c,H' d=some (.dT c)/\PF g.n g.m H' c (λt=>φ t+cutP ψ ((tms fvs).take i) t)/\c.length<=cr.length+i) ?_ (λi σ H' h=>h.2.2.1) ?_ ?_
 ·refine⟨Y2 _,⟨none,none,Z⟩,zad,Kp.upd (by simp),cr,?_,?_,Yi _⟩
  ·rw[zaf de];exact W
  ·refine((pF.same M).fix (zbd a4)).congr λt=>?_
   rw[List.take_zero,zex];grind
 ·rintro i kx v σ H2 p b hk ⟨hi,⟨v4,v5,rfl⟩,hz,y,c,J,O,lk⟩ hp hb;obtain⟨t,rfl,t0,ht,iv,nv⟩:=pG.ix hk;have a7:=zav hk;have b0:=zm4 a9 ht;have tk:=zbv ht;have fx:Fix H1 H2:=y.fix λa ha ob x=>by
   rcases Yj.mp ha with rfl | ha
   ·rw[W]at x;cases x;exact .inl ⟨_,Z⟩
   ·rw[Yq.mp ha,a4]at x;cases x;exact .inl ⟨_,Z⟩
  have b1:Fix H H2:=(Fix.of M).tr fx;refine⟨p,_,Z,SqT.of zad,Z,_,_,Z,_,_,Z,Z,?_⟩;obtain⟨H3,uq,e3,-⟩:=nwH hp (.tup [.ref b,v]);rw[uq];have I:=e3 _ _ hb;have G:=e3 _ _ J;have l:Fix H H3:=b1.tr (.of e3);unfold zap
  try dsimp only
  have D:cutP ψ ((tms fvs).take i) t=0:=ziq b0;refine zid (λa0 H'=>Same H3 H'/\∃L,a0=[some (.ref r),some (.ref d),some (.ref e),some u,some (.ref b),some L]/\Rep g.n H' L (φ t + ψ t)/\(valV c (ky t)=none->φ t + ψ t≠0)) ?_ ?_;rotate_left
  ·intro N hN;refine⟨_,Z,_,Z,d,_,Z,DGet.t G I,_,Z,?_⟩
   cases hval:valV c (ky t) with
   | none=>
    have z:=O.out t hval;rw[D]at z;have z2 : φ t=0:=by grind
    have e0 : φ t + ψ t = ψ t:=by rw[z2];grind
    refine iteF (hN _ _ ⟨Same.refl _,v,Z,?_,λ_=>by rw[e0];exact nv⟩);rw[e0];exact iv.fix l
   | some v0=>
    obtain⟨a1,a2⟩:=O.val t v0 hval;rw[D]at a1;have e0 : φ t+0 = φ t:=by grind
    rw[e0]at a1;refine iteT ⟨_,Z,r,zan,dx,_,_,Z,l.ins a3,T.cl_Ring,T.na_Ring_field,Z,g.pf,dF,_,Z,l.ins hF,no_P _ _ (by decide +kernel),_,Z,_,Z,d,v0,Z,?_,_,Z,F,fF,cF,g.pf,v0,v,φ t,ψ t,Z,zkr l hf,a1.same e3,iv.fix l,bF t,bG t,λL H4 R b3=>hN _ _ ⟨R,L,Z,b3,λz=>(by rw[hval]at z;cases z)⟩⟩;have:=DGet.t (k:=ky t) G I;rw[hval]at this;exact this
  rintro a0 H4 ⟨R,L,rfl,X,b2⟩;have g4:=e3.trans R;have j:=R _ _ G;have U:=R _ _ I;have a5:FzD H4 e o fvs:=g4 _ _ hz;have Y:Kp [d,e] H1 H4:=y.tr (.of g4);have a8:=O.same g4;obtain⟨dn,z0,rd,rz,s1,s2,eq⟩:=zp5 (K:=K) X ((hu.fix fx).same g4);refine⟨_,rfl,_,rfl,dn,z0,rd,rz,s1,s2,_,rfl,?_⟩;rcases eq with⟨z,q⟩ | ⟨z,q⟩
  ·rw[q];refine iteT ?_
   cases hval:valV c (ky t) with
   | none=>exact absurd z (b2 hval)
   | some v0=>
    refine⟨_,Z,.inr (.inr (.inl ⟨Z,.inr ⟨_,j⟩⟩)),_,Z,d,b,c,ky t,v0,Z,Z,j,U,hval,?_⟩;refine⟨a7,⟨_,_,Z⟩,(zaf (Jb de)).trans a5,Y.tr (Kp.upd (by simp)),_,zad,?_,?_⟩
    ·rw[tk,<- zlg,z];exact(a8.drop t).fix (zbd j)
    ·have:=zls c (ky t);lia
  ·rw[q];refine iteF ⟨_,Z,_,Z,_,Z,d,_,Z,DPut.t j U (by lia),?_⟩;refine⟨a7,⟨_,_,Z⟩,(zaf (Jb de)).trans a5,Y.tr (Kp.upd (by simp)),_,zad,?_,?_⟩
   ·rw[tk,<- zlg];exact(a8.put t0 X z).fix (zbd j)
   ·have:=zbz c (ky t) L;lia
 ·rintro σ H2 ⟨_,⟨v4,v5,rfl⟩,hz,y,c,J,O,lk⟩;rw[<- lt,List.take_length,ze1 λt ht=>pG.tmem.mpr ht]at O;refine .inr ⟨e,o,_,hz,λo' w' z=>?_,k _ c (λb ob hb S=>?_) ?_ ?_ lk⟩
  ·have z':H e=some (.frz o' w'):=z;rw[he]at z';cases z'
  ·by_cases be:b=e
   ·subst be;rw[zad,<- he];exact hb
   ·rw[zaf be];exact y _ _ (M _ _ hb) (by simp at S;simp[S,be])
  ·rw[zaf de];exact J
  ·exact O.fix (zcz (u:=.dT []) hz (.inr (.inr ⟨_,_,Z⟩)))
def zvd(F:FunD K "scaled" "scaled" zmb .none f fd)(G:Cq T 1 "product" Pa [] (spProd K))(Y:∀n,n<=9973->Pr n->∃C,FldP P w K mg base C (AtN zai zai n) n):Fq T 4 f fd Nh (spScal zan zai zai zac zae zaj zac):=by
 refine okS ["ring","number","term","f","found","part","factor"] F λsc=>?_
 walk_at "o";rename_i F fF r v t e g cF fvs x l ψ;walk_at "h"
 obtain⟨CF,B⟩:=Y g.n h.1.nb h.1.np;refine⟨_,(zaa (zbi (zat (ztn hr.units) (pv 1) (ztp B.nought (zba (K:=K) rfl (pv 0) rfl) hr zbx .nil) (nomark _)) (zah (zao (za2))) zax)
  (zaa (zaq 4 sc.nd (za2))
  (zaa (zc3 (zbm PassesOwn.never rfl (zcp (pv 3)) (zc4 rfl (za1 (zas (i:=5) sc.nd rfl (Or.inl rfl)) (za1 (zas (i:=6) sc.nd rfl (Or.inl rfl)) zcd))) (zah (zcg (uOne hr) (pv 4) (zau G hr (pa_2 2 5)) (pe_m B.times (zba (K:=K) rfl (pv 0) rfl) hr zbx .nil (pa_2 1 6)) rfl))))
  (zah (zao (pv 4)))))),?_⟩
 obtain⟨hR,iv,bx,ht,O,he,pT,bT,hl,k⟩:=h;obtain⟨dx,W⟩:=hR.at_;have hf:=hR.fd;obtain⟨dF,hF⟩:=B.ins hf;refine⟨_,Z,_,Z,r,zan,dx,_,_,Z,W,T.cl_Ring,T.na_Ring_field,Z,g.pf,dF,_,Z,hF,no_P _ _ (by decide +kernel),F,fF,cF,g.pf,Z,hf,λu H1 L hu=>?_⟩;rw[zeq]at hu;obtain⟨dn,z0,rd,rz,s1,s2,eq⟩:=zp5 (K:=K) (iv.same L) hu;refine⟨dn,z0,rd,rz,s1,s2,_,Z,?_⟩;rcases eq with⟨z,q⟩ | ⟨z,q⟩
 ·rw[q];refine iteT ?_;intro d j;refine k d _ [] (L.free j) (L.updR (L.free j)) zad (PF.nil.congr λt=>by rw[z];grind) (Y2 _)
 ·rw[q];refine iteF ?_;intro d j;obtain⟨H2,uq,e2,X⟩:=nwH j (.dT []);rw[uq];have g2:=L.trans e2;have U:=g2 _ _ he;have de:d≠e:=λz=>by subst z;rw[L _ _ he]at j;cases j
  refine⟨_,Z,e,fvs,Z,.inl U,λo=>?_⟩;have a0:=pT.tnd;have a2:=zb3 fvs;refine zb9 (λi σ H'=>i<=fvs.length/\(∃v5 v6,σ = [some (.ref r),some v,some (.ref t),some (.ref e),some (.ref d),v5,v6])/\FzD H' e o fvs/\Kp [d,e] H2 H'/\∃M,H' d=some (.dT M)/\PF g.n g.m H' M (λt=>x*sh l (cutP ψ ((tms fvs).take i)) t)/\M.length<=i) ?_ (λi σ H' h=>h.2.2.1) ?_ ?_
  ·refine⟨Y2 _,⟨none,none,Z⟩,zad,Kp.upd (by simp),[],?_,PF.nil.congr λt=>?_,Y2 _⟩
   ·rw[zaf de];exact X
   ·rw[List.take_zero,zex];unfold sh;split <;> grind
  ·rintro i kx vx σ H3 p b hk ⟨hi,⟨v5,v6,rfl⟩,hz,J,M,N,pk,lk⟩ hp hb;obtain⟨y,rfl,y0,hy,iy,ny⟩:=pT.ix hk;have a4:=zav hk;have hti:=zm4 a0 hy;have tk:=zbv hy;have a1:Fix H H3:=(Fix.of g2).tr (J.fix λa ha ob I=>by
    rcases Yj.mp ha with rfl | ha
    ·rw[X]at I;cases I;exact .inl ⟨_,Z⟩
    ·rw[Yq.mp ha,U]at I;cases I;exact .inl ⟨_,Z⟩)
   refine⟨p,_,Z,SqT.of zad,Z,_,_,Z,_,_,Z,Z,?_⟩;obtain⟨H4,uq,e4,-⟩:=nwH hp (.tup [.ref b,vx]);rw[uq];have D:Fix H H4:=a1.tr (.of e4);refine⟨_,Z,r,zan,dx,_,_,Z,D.ins W,T.cl_Ring,T.na_Ring_field,Z,g.pf,dF,_,Z,D.ins hF,no_P _ _ (by decide +kernel),_,Z,_,Z,F,fF,cF,g.pf,v,vx,x,ψ y,Z,zkr D hf,iv.fix D,iy.fix D,bx,bT y,λv' H5 e5 a5=>?_⟩;have S:=e4 _ _ hb;rw[zce]at S;refine⟨_,Z,_,Z,_,Z,t,b,l,y,Z,SqT.of (e5 _ _ (D.tup _ _ ht)),SqT.of (e5 _ _ S),by rw[O.len];exact Yr hR.m4 (by decide),λrr H6 e6 a3=>?_⟩;have g6:=(e4.trans e5).trans e6;have R:=g6 _ _ N;refine⟨d,_,Z,DPut.t R (by rw[zce];exact a3) (by lia),?_⟩;refine⟨a4,⟨_,_,Z⟩,(zaf (Jb de)).trans (g6 _ _ hz),(J.tr (.of g6)).tr (Kp.upd (by simp)),_,zad,?_,?_⟩
   ·rw[tk,<- zhc (y0.len.trans O.len.symm)];refine((pk.same g6).put (T0.add O y0) (a5.same e6) ?_).fix (zbd R);intro z';rcases Classical.em (x=0) with q' | q'
    ·exact z q'
    ·apply ny;grind
   ·have:=zbz M (ky (addT l y)) v';lia
  ·rintro σ H3 ⟨_,⟨v5,v6,rfl⟩,hz,J,M,N,pk,lk⟩;rw[<- a2,List.take_length,ze1 λt ht=>pT.tmem.mpr ht]at pk;refine .inr ⟨e,o,_,hz,λo' w' z=>?_,?_⟩
   ·have z':H e=some (.frz o' w'):=z;rw[he]at z';cases z'
   refine⟨_,Z,k d _ M (L.free j) (λc ob hc=>?_) ((zaf de).trans N) ?_ lk⟩
   ·by_cases ce:c=e
    ·subst ce;rw[zad,<- he];exact hc
    ·rw[zaf ce];exact J _ _ (g2 _ _ hc) (by simp only[List.mem_cons,List.not_mem_nil,or_false,not_or];exact⟨(λz=>by subst z;rw[L _ _ hc]at j;cases j),ce⟩)
   ·exact pk.fix (zcz (u:=.dT []) hz (.inr (.inr ⟨_,_,Z⟩)))
def zyt(F:FunD K "first_term" "first_term" zfk .none f fd) (j:OrdT T):Fq T 8 f fd Nt (spFT zan zai zai zac zae zaj zac):=by
 refine okS ["ring","f"] F λsc=>?_
 walk_at "o";rename_i F fF r d g cF cr φ;walk_at "h"
 obtain⟨C,O⟩:=j g.kd g.ws h.1.k0 h.1.k4 h.1.wn h.1.wb;refine⟨_,(zaa (zbi (zat (zow hr.units) (pv 1) (za2) (nomark _)) zhz zax)
  (zah (zao (pe_m O.first (zba (K:=K) rfl (pv 0) rfl) hr zbx .nil ((zab (za9 (zhp rfl) rfl T.b_list (by kernel_rfl) (pa_1 1)) zar)))))),?_⟩
 obtain⟨i,hd,b,tb,Y,k⟩:=h;obtain⟨dx,D⟩:=i.at_;walk_at "rd";intro d2 N;obtain⟨H1,uq,c,I⟩:=nwH N (.dT []);rw[uq];obtain⟨y,kds,fl,_⟩:=(b.same c).kds (K:=K);have ld:cr.length=y.length:=Paired.length kds;refine⟨d,d2,cr,[],y,[],Z,Z,.inl (c _ _ hd),.inl I,kds,.nil,fl,(λ_ z=>by cases z),_,Z,?_⟩;have L:eqKD y []=false:=by
  unfold eqKD
  cases y with
  | nil=>exact absurd (Y9.mp ld) Y
  | cons x l=>rfl
 rw[L];refine iteF ?_;obtain⟨dO,fs,hO,nl⟩:=O.oC.ins i.od;refine⟨_,Z,r,zan,dx,_,_,Z,c _ _ D,T.cl_Ring,T.na_Ring_order,Z,g.po,dO,fs,Z,c _ _ hO,nl "first_of" (by decide +kernel),_,Z,d,cr,Z,.inl (c _ _ hd),λl as hl B hi=>?_⟩;have J:Same H1 (upd H1 l (.lst (as.map V.ref))):=Same.upd hl;have g2:=c.trans J;have ek:=b.keys;have X:=K6.tms_list (m:=g.m) (l:=l) ek B hi;have pw:∀xs∈tms cr,Pws xs:=λxs p=>zn3 (b.sp xs (b.tmem.mp p)) i.m1 i.m4 (tb xs (b.tmem.mp p))
 have G:as.map V.ref≠[]:=λz=>Y (Y9.mp (by rw[<- B];have:=Jw List.length z;simpa using this))
 refine⟨g.po,l,as.map V.ref,tms cr,Z,O.oC.same g2 i.od,zad,pimp (λ_ _ q=>q.same J) X,pw,G,λH' xs v W S p=>?_⟩;have g3:=g2.trans W;have M:=pimp (λ_ _ q=>(q.same J).same W) X;obtain⟨a,rfl,ha⟩:=pz M _ S;have n:=(List.of_mem_zip S).1;refine k H' xs a g3 ha ⟨b.tmem.mp n,λt U=>?_⟩;obtain⟨v',R⟩:=zto (l:=tms cr) (l':=as.map V.ref) (by rw[zb3,Yd,B]) (b.tmem.mpr U);exact not_lt i.om (b.sp xs (b.tmem.mp n)).len (b.sp t U).len (p _ R) |>.imp (λe=>e) λe=>e
def zq6(F:FunD K "place_of" "Waiting.place_of" zda .none f fd) : Fq T 1 f fd Nv (spPlace zam):=by
 refine okS ["self","rank","low","high","middle"] F λsc=>?_
 walk_at "o";rename_i J r po kn U rk ks us x;walk_at "h"
 refine⟨_,(zaa (zaq 2 sc.nd (zal))
  (zaa (zaq 3 sc.nd (zaw (za8 (K:=K) rfl) rfl T.b_len PySem.boot_len ((zab (zba (K:=K) rfl (pv 0) rfl) zar))))
  (zaa (zdb PassesOwn.never (zat zmx (pv 2) (pv 3) (nomark _)) (zaa (zaq 4 sc.nd (zaz zdm (zaz zcr (pv 2) (pv 3)) (zal)))
  (zah (zbi (zat (zxl (uOne hr |> Nat.lt_of_succ_lt)) (zbb (r:=rIxT K) zby (zbb (r:=rIxL K) za6 (zba (K:=K) rfl (pv 0) rfl) (pv 4) (λ_ _=>Z)) (zal) (λ_ _=>Z)) (pv 1) (nomark _)) (zah (zaq 2 sc.nd (zaz zcr (pv 4) (zal)))) (zah (zaq 3 sc.nd (pv 4)))))))
  (zah (zao (pv 2)))))),?_⟩
 obtain⟨X,O,mono,lu,k⟩:=h;obtain⟨S,hw⟩:=X.at_;obtain⟨vs,hq,en⟩:=X.ql;have lv:vs.length=us.length:=(Paired.length en).symm;refine⟨_,Z,J,zam,S,_,_,Z,hw,T.cl_Waiting,T.na_Waiting_queue,Z,U,vs,Z,.inl (SqL.of hq),?_⟩;refine⟨λm W H'=>∃(lo hi:Nat) (I:Option V),m=hi-lo/\W = [some (.ref J),some (.ref r),some (.int lo),some (.int hi),I]/\H'=H/\lo<=hi/\hi<=us.length/\(∀(j:Nat) u,us[j]? = some u->j<lo->HT.lexLt (rk u) x=true)/\∀(j:Nat) u,us[j]? = some u->hi<=j->HT.lexLt (rk u) x=false,⟨_,0,vs.length,none,Z,Z,Z,Y2 _,by lia,λj u _ z=>by lia,λj u i z=>?_⟩,?_⟩
 ·have:=zav i;lia
 rintro m W H' ⟨lo,hi,I,rfl,rfl,rfl,lh,hu,G,D⟩;refine⟨_,rfl,_,rfl,_,_,rfl,rfl,_,rfl,?_⟩;refine cD (λc=>?_) (λc=>?_)
 ·have c':lo<hi:=by lia
  refine⟨λB C=>∃(d a:Nat) (I:Option V),a-d<hi-lo/\B=[some (.ref J),some (.ref r),some (.int d),some (.int a),I]/\C=H'/\d<=a/\a<=us.length/\(∀(j:Nat) u,us[j]? = some u->j<d->HT.lexLt (rk u) x=true)/\∀(j:Nat) u,us[j]? = some u->a<=j->HT.lexLt (rk u) x=false,?_,?_⟩
  ·rintro B C ⟨d,a,v5,l1,rfl,rfl,l2,l3,l4,l5⟩;exact⟨_,l1,d,a,v5,rfl,rfl,rfl,l2,l3,l4,l5⟩
  have Y:Int.fdiv ((lo:Int)+(hi:Int)) 2=(((lo+hi) / 2:Nat):Int):=by rw[Int.fdiv_eq_ediv_of_nonneg _ (by decide)];lia
  obtain⟨b,M⟩:∃b,b=(lo+hi) / 2:=⟨_,Z⟩;rw[<- M]at Y;have m1:lo<=b:=by lia
  have m2:b<hi:=by lia
  refine⟨_,Z,_,Z,_,_,Z,Z,_,_,Z,Z,⟨by decide,by decide⟩,?_⟩;unfold zap
  try dsimp only
  rw[Y];have lm:b<vs.length:=by lia
  obtain⟨u,n,p,r1,r2,ev,hp,N,hr2⟩:=pget en (Yc lm);refine⟨_,Z,J,zam,S,_,_,Z,hw,T.cl_Waiting,T.na_Waiting_queue,Z,_,Z,U,vs,b,_,Z,Z,SqL.of hq,zbh (Yc lm),?_⟩;rw[ev];refine⟨p,_,0,_,Z,Z,SqT.of hp,atI0,_,Z,r1,r,rk u,x,Z,Z,SqT.of N,SqT.of O,_,Z,?_⟩;refine cB (λy=>?_) (λy=>?_)
  ·refine⟨_,Z,_,_,Z,Z,b+1,hi,_,by lia,Z,Z,by lia,by lia,λj L i l=>?_,D⟩;rcases Jg j b with q | q
   ·exact mono j b L u q i n y
   ·have:j=b:=by lia
    subst this;rw[n]at i;cases i;exact y
  ·refine⟨_,Z,lo,b,_,by lia,Z,Z,by lia,by lia,G,λj L i l=>?_⟩
   cases q:HT.lexLt (rk L) x with
   | false=>rfl
   | true=>
    rcases Jg b j with R | R
    ·rw[mono b j u L R n i q]at y;cases y
    ·have:j=b:=by lia
     subst this;rw[n]at i;cases i;rw[y]at q;cases q
 ·have e:lo=hi:=by lia
  subst e;refine⟨_,Z,k lo hu λj u i=>⟨G j u i,λq=>?_⟩⟩;rcases Jg j lo with z | z
  ·exact z
  ·rw[D j u i z]at q;cases q
def zw2(F:FunD K "put" "Waiting.put" zez .none f fd)(N:Mq T 1 zam "place_of" Nv [] (spPlace zam))(c3:OrdT T):Fq T 5 f fd Nb (spPut zaj zac zae zac zam):=by
 refine okS ["self","terms","term","rank"] F λsc=>?_
 walk_at "o";rename_i U d po kn S kd ws m ks us ts cr;walk_at "h"
 obtain⟨C,O⟩:=c3 kd ws h.1 h.2.1 h.2.2.1 h.2.2.2.1;refine⟨_,(zah (zc3 (zbm PassesOwn.never rfl (zlc (pv 1)) (zas (i:=2) sc.nd rfl (Or.inl rfl)) (zah (zbi (zlx (zpi (uOne hr) (pv 2) (zba (K:=K) rfl (pv 0) rfl))) (zaa (zcg (uOne hr) (zba (K:=K) rfl (pv 0) rfl) (pv 2) (zcs) rfl)
  (zaa (zaq 3 sc.nd (pe_m O.rank (zba (K:=K) rfl (pv 0) rfl) hr zbx .nil (pa_1 2)))
  (zah (zb4 (zkj PySem.F.plainAttrs_list PySem.F.slot_list_insert PySem.F.type_list_insert zoy (zba (K:=K) rfl (pv 0) rfl) ((zab (pe_m N (pv 0) hr zbx .nil (pa_1 3)) (zab (zci (pa_2 3 2)) zar)))))))) zax))))),?_⟩
 obtain⟨k0,k4,wn,wb,m1,m4,c2,hW,hd,b4,tok,a9,d3,a1,lk,lu,k⟩:=h;obtain⟨dw,hw⟩:=hW.at_;obtain⟨kv0,b0,ek0⟩:=hW.kn;obtain⟨vs0,hq,en0⟩:=hW.ql;obtain⟨dO,fs,hO,nl⟩:=O.oC.ins c2;have om:OrdM (rkk kd ws) m:=zlm kd wn m;have lt:cr.length=ts.length:=by have:=Jw List.length b4;simpa using this
 have a7:d≠S:=za7 hd hq (by intro z;cases z);have a2:kn≠S:=za7 b0 hq (by intro z;cases z);refine⟨_,Z,d,cr,Z,.inl hd,λo=>?_⟩;refine zmj (λi σ H'=>i<=cr.length/\(∃v2 v3,σ = [some (.ref U),some (.ref d),v2,v3])/\FzD H' d o cr/\Kp [kn,S,d] H H'/\∃(c l:Lb),Wa zam (rkk kd ws) H' U po kn S c l/\l.Pairwise (G.lt (rkk kd ws))/\(∀z,z∈l↔z∈us\/(z∈ts.take i/\z ∉ ks))/\(∀z,z∈c↔z∈ks\/z∈ts.take i)/\c.length<=ks.length+i/\l.length<=us.length+i) ?_ (λi σ H' h=>h.2.2.1) ?_ ?_
 ·refine⟨Y2 _,⟨none,none,Z⟩,zad,Kp.upd (by simp),ks,us,hW.fix (zbd hd) (λob q=>(zaf (Jb a9)).trans q) (λob q=>(zaf (Jb a7)).trans q),d3,λz=>by simp,λz=>by simp,Yi _,Yi _⟩
 ·rintro i kx v σ L b hk ⟨hi,⟨v2,v3,rfl⟩,hz,D,c,l,B,M,mu,mk,a6,b2⟩ hb;obtain⟨t,ht,rfl⟩:∃t,ts[i]? = some t/\kx=ky t:=by
   have q:(cr.map (·.1))[i]? = some kx:=by rw[Ym,hk];rfl
   rw[b4,Ym]at q;obtain⟨t,h1,h2⟩:=Option.map_eq_some_iff.mp q;exact⟨t,h1,h2.symm⟩
  have c7:=zav hk;have tk:=zbv ht;obtain⟨t0,tb⟩:=tok t (Yx ht);have a8:Fix H L:=D.fix λa ha ob n=>by
   simp only[List.mem_cons,List.not_mem_nil,or_false]at ha
   rcases ha with rfl | rfl | rfl
   ·rw[b0]at n;cases n;exact .inl ⟨_,Z⟩
   ·rw[hq]at n;cases n;exact .inr (.inl ⟨_,Z⟩)
   ·rw[hd]at n;cases n;exact .inl ⟨_,Z⟩
  have b5:=a8.ins hw;obtain⟨I,R,ek⟩:=B.kn;obtain⟨vs,c9,en⟩:=B.ql;have lkv:I.length=c.length:=by have:=Jw List.length ek;simpa using this
  have lvs:vs.length=l.length:=(Paired.length en).symm;have c4:∀z,valV I (ky z)=none↔z ∉ c:=λz=>by
   have e:(valV I (ky z)).isSome=true↔z∈c:=by
    rw[mem_of_valV,ek,Ji];exact⟨fun⟨u,hu,e⟩=>zdo e ▸ hu,λh=>⟨z,h,Z⟩⟩
   rw[<- e]
   cases valV I (ky z) <;> simp
  unfold zap
  try dsimp only
  refine⟨_,Z,_,Z,U,zam,dw,_,_,Z,b5,T.cl_Waiting,T.na_Waiting_known,Z,kn,_,Z,DGet.t R hb,_,Z,?_⟩
  cases hval:valV I (ky t) with
  | some v0=>
   have b6:t∈c:=Classical.byContradiction λz=>by rw[(c4 t).mpr z]at hval;cases hval
   refine iteF ⟨c7,⟨_,_,Z⟩,hz,D,c,l,B,M,λz=>?_,λz=>?_,by lia,by lia⟩
   ·rw[mu z,tk,Ju,Yq];constructor
    ·rintro(h | ⟨h,h'⟩)
     ·exact .inl h
     ·exact .inr ⟨.inl h,h'⟩
    ·rintro(h | ⟨h | h,h'⟩)
     ·exact .inl h
     ·exact .inr ⟨h,h'⟩
     ·subst h;rcases(mk z).mp b6 with q | q
      ·exact absurd q h'
      ·exact .inr ⟨q,h'⟩
   ·rw[mk z,tk,Ju,Yq];constructor
    ·rintro(h | h)
     ·exact .inl h
     ·exact .inr (.inl h)
    ·rintro(h | h | h)
     ·exact .inl h
     ·exact .inr h
     ·subst h;exact(mk z).mp b6
  | none=>
   have a5:t ∉ c:=(c4 t).mp hval;have c1:t ∉ ks:=λz=>a5 ((mk t).mpr (.inl z))
   have c8:t ∉ ts.take i:=λz=>a5 ((mk t).mpr (.inr z))
   refine iteT ⟨_,Z,U,zam,dw,_,_,Z,b5,T.cl_Waiting,T.na_Waiting_known,Z,_,Z,kn,_,Z,DPut.t R hb (by lia),?_⟩;have e3:Fix L (upd L kn (.dT (putK I (ky t) (.bl true)))):=zbd R;have J:(upd L kn (HO.dT (putK I (ky t) (.bl true)))) kn=some (.dT (putK I (ky t) (.bl true))):=zad;have k3:Kp [kn,S,d] L (upd L kn (.dT (putK I (ky t) (.bl true)))):=Kp.upd (by simp);have c6:(upd L kn (HO.dT (putK I (ky t) (.bl true)))) S=some (.lst vs):=(zaf (Jb a2)).trans c9;have b9:FzD (upd L kn (HO.dT (putK I (ky t) (.bl true)))) d o cr:=(zaf a9).trans hz;have c5:(putK I (ky t) (V.bl true)).map (·.1)=(c++[t]).map ky:=by rw[zr1 _ hval,List.map_append,List.map_append,ek];rfl
   generalize upd L kn (HO.dT (putK I (ky t) (V.bl true)))=H3 at e3 J k3 c6 b9;have W:=a8.tr e3;have b1:=e3.tup _ _ hb;rw[zce]at b1;refine⟨_,Z,U,zam,dw,_,_,Z,W.ins hw,T.cl_Waiting,T.na_Waiting_order,Z,po,dO,fs,Z,W.ins hO,nl "rank" (by decide +kernel),_,Z,po,b,t,Z,zf9 W c2,b1,zn3 t0 m1 m4 tb,λr H4 Y b3=>?_⟩;have X:=W.tr (.of Y);have a4:=Y _ _ c6;have b7:=pimp (λ_ _ q=>Ent.fix (e3.tr (.of Y)) q) en;have c0:Wa zam (rkk kd ws) H4 U po kn S (c++[t]) l:=⟨⟨dw,X.ins hw⟩,⟨_,Y _ _ J,c5⟩,⟨vs,a4,b7⟩,List.nodup_append.mpr ⟨B.nd,by simp,λa ha b hb e=>a5 (by rw[Yq.mp hb]at e;rw[<- e];exact ha)⟩⟩;refine⟨_,Z,U,zam,dw,_,_,Z,X.ins hw,T.cl_Waiting,T.na_Waiting_queue,Z,.inl ⟨Z,_,SqL.of a4⟩,?_⟩;refine⟨_,Z,U,dw,_,Z,X.ins hw,zqr _ (by decide +kernel) (by decide +kernel) (by decide +kernel),_,Z,U,r,po,kn,S,rkk kd ws,c++[t],l,rkk kd ws t,Z,c0,b3,λx y u v' xy hx hy q=>?_,by lia,λj hj d2=>?_⟩
   ·have:=List.pairwise_iff_getElem.mp M x y (zav hx) (zav hy) xy;rw[Yc (zav hx)]at hx;rw[Yc (zav hy)]at hy;injection hx with hx
    injection hy with hy
    rw[hx,hy]at this;exact lt_trans this q
   refine⟨_,Z,_,Z,(by show 2<=sizeLine;exact zl 2 (by decide)),λp np=>?_⟩;obtain⟨H5,uq,e5,d0⟩:=nwH np (.tup [.ref r,.ref b]);rw[uq];have b8:=e5 _ _ a4;have et:Ent (rkk kd ws) H5 t (.ref p):=⟨p,r,b,Z,d0,e5 _ _ b3,e5 _ _ (Y _ _ b1)⟩;refine⟨S,vs,j,.ref p,Z,Z,b8,by lia,by lia,?_⟩;have g5:Fix H5 (upd H5 S (.lst (vs.take j ++ .ref p::vs.drop j))):=zdl b8;have d1:t ∉ l:=λz=>by
    rcases(mu t).mp z with q | q
    ·exact c1 (a1 t q).1
    ·exact c8 q.1
   refine⟨c7,⟨_,_,Z⟩,?_,(D.tr k3).tr ((Kp.of (Y.trans e5)).tr (Kp.upd (by simp))),c++[t],l.take j++t::l.drop j,⟨⟨dw,g5.ins (e5 _ _ (X.ins hw))⟩,⟨_,(zaf a2).trans (e5 _ _ (Y _ _ J)),c5⟩,⟨_,zad,?_⟩,c0.nd⟩,?_,λz=>?_,λz=>?_,?_,?_⟩
   ·exact(zaf a7).trans (e5 _ _ (Y _ _ b9))
   ·exact bo (pimp (λ_ _ q=>Ent.fix ((Fix.of e5).tr g5) q) b7) (et.fix g5) j
   ·refine zm2 om M (λu hu=>?_) t0 d1 d2;rcases(mu u).mp hu with q | q
    ·exact(a1 u q).2
    ·exact(tok u (List.mem_of_mem_take q.1)).1
   ·rw[ztx,mu z,tk,Ju,Yq];constructor
    ·rintro((h | ⟨h,h'⟩) | h)
     ·exact .inl h
     ·exact .inr ⟨.inl h,h'⟩
     ·subst h;exact .inr ⟨.inr rfl,c1⟩
    ·rintro(h | ⟨h | h,h'⟩)
     ·exact .inl (.inl h)
     ·exact .inl (.inr ⟨h,h'⟩)
     ·exact .inr h
   ·rw[Ju,Yq,mk z,tk,Ju,Yq];exact or_assoc
   ·rw[Y5];show _+1<=_;lia
   ·rw[Y5,Y4,List.length_take,List.length_drop];lia
 ·rintro σ L ⟨_,⟨v2,v3,rfl⟩,hz,D,c,l,B,M,mu,mk,a6,b2⟩;rw[lt,List.take_length]at mu mk;rw[lt]at a6 b2;have a8:Fix H L:=D.fix λa ha ob n=>by
   simp only[List.mem_cons,List.not_mem_nil,or_false]at ha
   rcases ha with rfl | rfl | rfl
   ·rw[b0]at n;cases n;exact .inl ⟨_,Z⟩
   ·rw[hq]at n;cases n;exact .inr (.inl ⟨_,Z⟩)
   ·rw[hd]at n;cases n;exact .inl ⟨_,Z⟩
  refine .inr ⟨d,o,_,hz,λo' w' z=>?_,?_⟩
  ·have z':H d=some (.frz o' w'):=z;rw[hd]at z';cases z'
  refine k _ c l (λb ob hb a3=>?_) (B.fix (zcz (u:=.dT []) hz (.inr (.inr ⟨_,_,Z⟩))) (λob q=>(zaf (Jb a9)).trans q) λob q=>(zaf (Jb a7)).trans q) M mu mk a6 b2;by_cases be:b=d
  ·subst be;rw[zad,<- hd];exact hb
  ·rw[zaf be];exact D _ _ hb (by simp only[List.mem_cons,List.not_mem_nil,or_false,not_or]at a3 ⊢;exact⟨a3.1,a3.2,be⟩)
def zog(F:FunD K "__init__" "Waiting.__init__" zc9 .none f fd)(r:Mq T 5 zam "put" Nb [] (spPut zaj zac zae zac zam)):Fq T 6 f fd Nk (spWaInit zaj zac zae zac zam):=by
 refine okS ["self","order","terms"] F λsc=>?_
 walk_at "o";rename_i i y d S kd ws m ts cr;walk_at "h"
 refine⟨_,(zaa (zd8 (pv 0) (pv 1) rfl)
  (zaa (zd8 (pv 0) (za2) rfl)
  (zaa (zd8 (pv 0) (zmh (zar)) rfl)
  (zah (zb4 (pe_m r (pv 0) hr zbx .nil (pa_1 2))))))),?_⟩
 obtain⟨hw,pw,Y,k4,wn,wb,X,m4,O,hd,G,tok,lt,k⟩:=h;refine⟨_,Z,_,Z,i,zam,y,_,Z,hw,T.cl_Waiting,T.na_Waiting_order,(by show 0<1000;decide),?_⟩;intro kn n;have C:i≠kn:=λz=>by subst z;rw[zad]at n;cases n
 have a:H kn=none:=by rw[zaf (Jb C)]at n;exact n
 refine⟨_,Z,i,zam,y,_,Z,(zaf C).trans zad,T.cl_Waiting,T.na_Waiting_known,(by show 1<1000;decide),?_⟩;refine⟨(by show 0<=sizeLine;exact Y2 _),λq c=>?_⟩;have p:i≠q:=λz=>by subst z;rw[zad]at c;cases c
 have D:kn≠q:=λz=>by subst z;rw[zaf (Jb C),zad]at c;cases c
 have j:H q=none:=by rw[zaf (Jb p),zaf (Jb D),zaf (Jb p)]at c;exact c
 refine⟨_,Z,i,zam,y,_,Z,(zaf p).trans zad,T.cl_Waiting,T.na_Waiting_queue,(by show 2<1000;decide),?_⟩;have N:∀(B:Hp) (R:XK),B i=some (HO.ins zam y [("order",.ref S),("known",.ref kn),("queue",.ref q)])->Kp [i] H B->B kn=some (.dT [])->B q=some (.lst [])->spPut zaj zac zae zac zam [.ref i,.ref d] B (λ_ H'=>Q .non H') R:=by
  intro B R h1 J h3 W;have df:d≠i:=za7 hd hw (by intro z;cases z);have M:d≠kn:=λz=>by subst z;rw[hd]at a;cases a
  refine⟨i,d,S,kn,q,kd,ws,m,[],[],ts,cr,Z,Y,k4,wn,wb,X,m4,znp J hw O pw,⟨⟨y,h1⟩,⟨[],h3,Z⟩,⟨[],W,.nil⟩,List.nodup_nil⟩,J _ _ hd (by simp[df]),G,tok,M,.nil,(λu hu=>by cases hu),by simpa using lt,by simpa using lt,λH' I L kp wa U mu mk l1 l2=>?_⟩;refine k H' kn q I L a j (λb ob l x=>kp _ _ (J _ _ l x) ?_) wa U (λz=>?_) (λz=>?_) (by simpa using l1) (by simpa using l2)
  ·simp only[List.mem_cons,List.not_mem_nil,or_false,not_or]
   exact⟨(λz=>by subst z;rw[a]at l;cases l),(λz=>by subst z;rw[j]at l;cases l)⟩
  ·rw[mu z];simp
  ·rw[mk z];simp
 refine⟨_,Z,i,y,_,Z,zad,zqr _ (by decide +kernel) (by decide +kernel) (by decide +kernel),_,Z,N _ E0 zad (λb ob l x=>?_) ?_ ?_⟩
 ·rw[Yq]at x;rw[zaf x,zaf (λz=>by subst z;rw[j]at l;cases l),zaf x,zaf (λz=>by subst z;rw[a]at l;cases l),zaf x];exact l
 ·rw[zaf (Jb C),zaf D,zaf (Jb C)];exact zad
 ·rw[zaf (Jb p)];exact zad
def zqx(F:FunD K "taken" "Waiting.taken" zd3 .none f fd) : Fq T 1 f fd ["self"] (spTaken zam):=by
 refine okS ["self"] F λsc=>?_
 walk_at "o";rename_i B po kn l rk ks us t;walk_at "h"
 refine⟨_,(zah (zao (zbb (r:=rIxT K) zby (zvx PySem.F.plainAttrs_list PySem.F.slot_list_pop PySem.F.type_list_pop zyo (zba (K:=K) rfl (pv 0) rfl)) (zal) (λ_ _=>Z)))),?_⟩;obtain⟨i,k⟩:=h;obtain⟨n,hw⟩:=i.at_;obtain⟨vs,j,I⟩:=i.ql;obtain⟨x,y,rfl,m,p,r,a,rfl,C,h2,G⟩:=punsn I;obtain⟨cr,b,D⟩:=i.kn;have c:kn≠l:=za7 b j (by intro z;cases z);refine⟨_,Z,B,zam,n,_,_,Z,hw,T.cl_Waiting,T.na_Waiting_queue,Z,.inl ⟨Z,_,SqL.of j⟩,l,_,.ref p,Z,Z,j,by simp,?_⟩;rw[List.dropLast_concat];have d:Fix H (upd H l (.lst x)):=zdl j;refine⟨p,_,1,_,Z,Z,SqT.of (d.tup _ _ C),atI1,?_⟩;exact k _ a (Kp.upd (by simp)) ⟨⟨n,d.ins hw⟩,⟨cr,(zaf c).trans b,D⟩,⟨x,zad,pimp (λ_ _ q=>q.fix d) m⟩,i.nd⟩ (d.tup _ _ G)
def zpe(F:FunD K "__init__" "Leads.__init__" zdx .none f fd)(M:Cq T 8 "first_term" Nt [] (spFT zan zai zai zac zae zaj zac)):Fq T 9 f fd Ps (spLeInit zan zai zai zac zae zaj zac zay):=by
 refine okS ["self","ring","row"] F λsc=>?_
 walk_at "o";rename_i F fF x dx r b g cF Y y gs;walk_at "h"
 refine⟨_,(zah (zd8 (pv 0) (zb5 (N:=["at","f","ring"]) (cl:=[("ring",s.heap.objs.size+1)]) (mp:=[none,none,some 1]) (Blk.of rfl (by decide +kernel) rfl (by decide +kernel) zfv (zbn rfl zcy) (zii (fs:=["ring"]) rfl (by decide +kernel)) rfl (zb7 (zb7 (zbj rfl (.inl rfl) rfl zcx)))) rfl (zni (K:=K) rfl rfl T.b_enumerate (pa_1 2)) (λC0 s0 H0 W=>znw (K:=K) rfl rfl zfv rfl rfl rfl rfl) (λC0 s0 H0 W=>zki (zat (zeg (K:=K) rfl hr.units) (pv 1) (za2) (nomark _))) (λC0 s0 H0 W=>zci ((zab (pv 0) (zab (zau M hr (pa_2 2 1)) zar))))) rfl)),?_⟩;obtain⟨hx,hR,G,tb,k⟩:=h;show tComp _ _ _ _ _ _ _ _;refine zh3 (J:=Ite K b) (H1:=H) (zpn (SqL.of G.at_)) (by rw[Yd];exact G.b) ?_ (λσ=>∃v w,σ = [v,w,some (.ref r)]) (λi=>decide (y.getD i []≠[])) (λi v H'=>∃h,LdE H' (i,h) v/\Ld g.rk (gs i) h) (λi v H1 H2 e ⟨h,h1,h2⟩=>⟨h,h1.fix (.of e),h2⟩) (λi v H1 a y1 y2 ha ⟨h,h1,h2⟩=>⟨h,h1.fix (zdl ha),h2⟩) ⟨none,none,Z⟩ ?_ λld H1 ls nd e1 hL X=>?_
 ·exact λR hR=>⟨_,Z,b,Z,⟨_,SqL.of G.at_⟩,hR⟩
 ·rintro i v σ' H2 hi ⟨z,z',rfl⟩ e2 ⟨p,xv,rfl,n,hv⟩ Ny Nn hy hn;rw[Yd]at hi;have I:Y[i]? = some Y[i]:=Yc hi;obtain⟨cr,a0,D,L⟩:=(G.same e2).row i _ I;have ev:xv=.ref Y[i]:=by
   rw[Ym,I]at hv;exact(Jf hv).symm
  subst ev;have eg:y.getD i []=cr:=by simp[List.getD,a0]
  rw[eg]at hy hn;generalize Y[i]=d at D n;refine⟨p,_,Z,SqT.of n,Z,_,_,Z,_,_,Z,Z,?_⟩;refine⟨_,Z,?_⟩;intro d2 a2;obtain⟨H3,uq,C,a3⟩:=nwH a2 (.dT []);rw[uq];obtain⟨U,kds,fl,_⟩:=(L.same C).kds (K:=K);have O:cr.length=U.length:=Paired.length kds;refine⟨d,d2,cr,[],U,[],Z,Z,.inl (C _ _ D),.inl a3,kds,.nil,fl,(λ_ z=>by cases z),_,Z,?_⟩;by_cases c:cr=[]
  ·have ed:U=[]:=Y9.mp (by rw[<- O,c];rfl);rw[ed];exact iteF (hn _ _ ⟨_,_,Z⟩ C (by rw[decide_eq_false_iff_not];exact λq=>q c))
  ·have a1:eqKD U []=false:=by
    unfold eqKD
    cases U with
    | nil=>exact absurd (Y9.mp O) c
    | cons x l=>rfl
   rw[a1];have g3:=e2.trans C;refine iteT ⟨_,Z,_,Z,_,Z,F,fF,r,d,g,cF,cr,gs i,Z,hR.same g3,C _ _ D,L.same C,tb i,c,λH4 t a e4 ha hx=>?_⟩;refine⟨(by show 2<=sizeLine;exact zl 2 (by decide)),λq nq=>?_⟩;have e5:Same H4 (upd H4 q (.tup [.int i,.ref a])):=Same.upd nq;exact hy (.ref q) _ _ ⟨_,_,Z⟩ ((C.trans e4).trans e5) ⟨t,⟨q,a,Z,zad,e5 _ _ ha⟩,hx⟩ (Yo c)
 rw[Yd]at X;obtain⟨m,el,a4,n⟩:=zi9 (A:=LdE H1) (B:=λi h=>Ld g.rk (gs i) h) X;have fr:x≠ld:=λz=>by subst z;rw[hx]at nd;cases nd
 have S:=e1 _ _ hx;refine⟨_,Z,x,zay,dx,_,Z,S,T.cl_Leads,T.na_Leads_pairs,(by show 0<1000;decide),?_⟩;have j:∀b o,H1 b=some o->b≠x->(upd H1 x (HO.ins zay dx [("pairs",.ref ld)])) b=some o:=λb o q ne=>(zaf ne).trans q
 have nt:∀b xs,H1 b=some (.tup xs)->b≠x:=λb xs q=>za7 q S (by intro z;cases z)
 refine k _ ld m nd (λb ob hb nb=>j _ _ (e1 _ _ hb) (by simpa using nb)) ⟨⟨dx,zad⟩,⟨ls,j _ _ hL (Jb fr),pimp (λpr v ⟨q,a,e,q1,q2⟩=>⟨q,a,e,j _ _ q1 (nt _ _ q1),j _ _ q2 (nt _ _ q2)⟩) a4⟩⟩ ⟨λi=>G.sp i,?_,λi l hm=>⟨?_,n _ hm⟩,λi t hi hg=>?_⟩
 ·have:(m.map (·.1)).Pairwise (· < ·):=by rw[el];exact List.pairwise_lt_range.filter _
  exact List.pairwise_map.mp this
 ·have:i∈m.map (·.1):=Ji.mpr ⟨_,hm,Z⟩;rw[el]at this;exact List.mem_range.mp (List.mem_filter.mp this).1
 ·have:i∈m.map (·.1):=by
   rw[el];refine List.mem_filter.mpr ⟨List.mem_range.mpr hi,Yo λz=>?_⟩;obtain⟨cr,q1,_,q3⟩:=G.row i _ (Yc hi);have:cr=[]:=by rw[<- z];simp[List.getD,q1]
   exact hg (q3.empty.mp this t)
  obtain⟨p,X,e⟩:=Ji.mp this;exact⟨p.2,by rw[<- e];exact X⟩
def zwk(F:FunD K "fitting" "Leads.fitting" zd5 .none f fd)(d:Cq T 1 "goes_into" Pa [] (spGoes K)):Fq T 2 f fd Pn (spFit zay):=by
 refine okS ["self","term","pair"] F λsc=>?_
 walk_at "o";rename_i x a pl m C t;walk_at "h"
 refine⟨_,(zaa (zbm PassesOwn.never rfl (zcq (K:=K) rfl (zba (K:=K) rfl (pv 0) rfl)) (zas (i:=2) sc.nd rfl (Or.inl rfl)) (zah (zbi (zdc (zau d hr ((zab (zbb (r:=rIxT K) zby (pv 2) (zal) (λ_ _=>Z)) (pa_1 1))))) (zah (zao (pv 2))) zax)))
  (zah (zao (zg4)))),?_⟩
 obtain⟨R,ha,tl,m4,X,N,k1,k2⟩:=h;obtain⟨dx,hx⟩:=R.at_;obtain⟨vs,S,en⟩:=R.pl;have lv:C.length=vs.length:=Paired.length en;refine⟨_,Z,x,zay,dx,_,_,Z,hx,T.cl_Leads,T.na_Leads_pairs,Z,pl,Z,⟨_,SqL.of S⟩,?_⟩;refine zf2 (K:=K) (a:=pl) (xs:=vs) (λi I H'=>Same H H'/\(∃L,I = [some (.ref x),some (.ref a),L])/\∀(j:Nat) p,C[j]? = some p->j<i->zb0 p.2 t=false) ⟨Same.refl _,⟨none,Z⟩,λj p _ z=>by lia⟩ (λi I H' _ h=>SqL.of (h.1 _ _ S)) ?_ ?_
 ·rintro i v I Y hv ⟨B,⟨L,rfl⟩,G⟩;obtain⟨⟨ix,l⟩,n,q,W,rfl,U,D⟩:=pget en hv;have M:=Yx n;unfold zap
  try dsimp only
  refine⟨_,Z,q,_,1,_,Z,Z,SqT.of (B _ _ U),atI1,_,Z,W,a,l,t,Z,SqT.of (B _ _ D),SqT.of (B _ _ ha),(X _ M).trans tl.symm,by rw[X _ M];lia,λH3 e3=>⟨_,Z,?_⟩⟩;have J:=B.trans e3;refine cB (λc=>?_) (λc=>?_)
  ·refine⟨_,Z,k2 ix l ⟨M,c,λp O pi=>?_⟩ H3 q W J (J _ _ U) (J _ _ D)⟩;obtain⟨j,b⟩:=Jd.mp O;refine G j p b ?_;rcases Nat.lt_trichotomy j i with y | y | y
   ·exact y
   ·subst y;rw[n]at b;cases b;exact absurd pi (Nat.lt_irrefl _)
   ·have:=List.pairwise_iff_getElem.mp N i j (zav n) (zav b) y;rw[Yc (zav n)]at n;rw[Yc (zav b)]at b;injection n with n
    injection b with b
    rw[n,b]at this;have:ix<p.1:=this;lia
  ·refine⟨J,⟨_,Z⟩,λj p b l'=>?_⟩;rcases Jg j i with y | y
   ·exact G j p b y
   ·have:j=i:=by lia
    subst this;rw[n]at b;cases b;exact c
 ·rintro I Y ⟨B,⟨L,rfl⟩,G⟩;refine k1 (λp O=>?_) Y B;obtain⟨j,b⟩:=Jd.mp O;exact G j p b (by rw[<- lv];exact zav b)
def zwz(F:FunD K "shifted" "shifted" zkb .none f fd)(x:Cq T 1 "product" Pa [] (spProd K)):Fq T 2 f fd Nr spShf:=by
 refine okS ["term","row","found","part","number"] F λsc=>?_
 walk_at "o";rename_i F fF n m t e l fvs ψ;walk_at "h"
 refine⟨_,(zaa (zaq 2 sc.nd (za2))
  (zaa (zc3 (zbm PassesOwn.never rfl (zcp (pv 1)) (zc4 rfl (za1 (zas (i:=3) sc.nd rfl (Or.inl rfl)) (za1 (zas (i:=4) sc.nd rfl (Or.inl rfl)) zcd))) (zah (zcg (uOne hr) (pv 2) (zau x hr (pa_2 0 3)) (pv 4) rfl))))
  (zah (zao (pv 2))))),?_⟩
 obtain⟨X,D,m4,S,pT,hl,k⟩:=h;intro d j;obtain⟨H2,Y,e2,M⟩:=nwH j (.dT []);rw[Y];have J:=e2 _ _ S;have de:d≠e:=λz=>by subst z;rw[S]at j;cases j
 refine⟨_,Z,e,fvs,Z,.inl J,λo=>?_⟩;have a0:=pT.tnd;have a3:=zb3 fvs;refine zb9 (λi R H'=>i<=fvs.length/\(∃v5 v6,R = [some (.ref t),some (.ref e),some (.ref d),v5,v6])/\FzD H' e o fvs/\Kp [d,e] H2 H'/\∃B,H' d=some (.dT B)/\PF n m H' B (λt=>1*sh l (cutP ψ ((tms fvs).take i)) t)/\B.length<=i) ?_ (λi R H' h=>h.2.2.1) ?_ ?_
 ·refine⟨Y2 _,⟨none,none,Z⟩,zad,Kp.upd (by simp),[],?_,PF.nil.congr λt=>?_,Y2 _⟩
  ·rw[zaf de];exact M
  ·rw[List.take_zero,zex];unfold sh;split <;> grind
 ·rintro i kx vx R H3 p b hk ⟨hi,⟨v5,v6,rfl⟩,hz,r,B,C,O,lk⟩ hp hb;obtain⟨y,rfl,y0,hy,iy,ny⟩:=pT.ix hk;have a4:=zav hk;have hti:=zm4 a0 hy;have tk:=zbv hy;have a1:Fix H H3:=(Fix.of e2).tr (r.fix λa U ob q=>by
   rcases Yj.mp U with rfl | U
   ·rw[M]at q;cases q;exact .inl ⟨_,Z⟩
   ·rw[Yq.mp U,J]at q;cases q;exact .inl ⟨_,Z⟩)
  refine⟨p,_,Z,SqT.of zad,Z,_,_,Z,_,_,Z,Z,?_⟩;obtain⟨H4,Y,W,-⟩:=nwH hp (.tup [.ref b,vx]);rw[Y];have L:Fix H H4:=a1.tr (.of W);have I:=W _ _ hb;rw[zce]at I;refine⟨_,Z,_,Z,_,Z,_,Z,t,b,l,y,Z,SqT.of (L.tup _ _ X),SqT.of I,by rw[D.len];exact Yr m4 (by decide),λrr H6 e6 a2=>?_⟩;have N:=W.trans e6;have G:=N _ _ C;refine⟨d,_,Z,DPut.t G (by rw[zce];exact a2) (by lia),?_⟩;refine⟨a4,⟨_,_,Z⟩,(zaf (Jb de)).trans (N _ _ hz),(r.tr (.of N)).tr (Kp.upd (by simp)),_,zad,?_,?_⟩
  ·rw[tk,<- zhc (y0.len.trans D.len.symm)];refine((O.same N).put (T0.add D y0) (Rep.congr' (Rep.same e6 (Rep.fix L iy)) ?_) ?_).fix (zbd G)
   ·grind
   ·intro z';apply ny;grind
  ·have:=zbz B (ky (addT l y)) vx;lia
 ·rintro R H3 ⟨_,⟨v5,v6,rfl⟩,hz,r,B,C,O,lk⟩;rw[<- a3,List.take_length,ze1 λt X=>pT.tmem.mpr X]at O;refine .inr ⟨e,o,_,hz,λo' w' z=>?_,?_⟩
  ·have z':H e=some (.frz o' w'):=z;rw[S]at z';cases z'
  refine⟨_,Z,k d _ B j (λc ob hc=>?_) ((zaf de).trans C) ?_ lk⟩
  ·by_cases ce:c=e
   ·subst ce;rw[zad,<- S];exact hc
   ·rw[zaf ce];exact r _ _ (e2 _ _ hc) (by simp only[List.mem_cons,List.not_mem_nil,or_false,not_or];exact⟨(λz=>by subst z;rw[hc]at j;cases j),ce⟩)
  ·exact(O.fix (zcz (u:=.dT []) hz (.inr (.inr ⟨_,_,Z⟩)))).congr λt=>by grind
def zv2(F:FunD K "shared_by_all" "shared_by_all" zc5 .none f fd) : Fq T 1 f fd ["row"] (λ_ _ _ _=>False):=by
 have a:FnScope ["row","shared","number"] ["row"] (za5 zc5):=sM (by decide +kernel);exact F.okN (k:=0) a (λ_ _ _ _ h=>h.elim) (λ_ _ _ _ _ _ _ _ _ h=>h.elim)
def zwy(F:FunD K "lessened" "lessened" zht .none f fd)(x:Cq T 1 "shared_by_all" ["row"] [] (λ_ _ _ _=>False)):Fq T 2 f fd Nw spLes:=by
 refine okS ["prime","row","found","key","number","shared"] F λsc=>?_
 walk_at "o";rename_i F fF n cF m e fvs N;walk_at "h"
 refine⟨_,(zaa (zaq 2 sc.nd (za2))
  (zaa (zc3 (zbm PassesOwn.never rfl (zcp (pv 1)) (zc4 rfl (za1 (zas (i:=3) sc.nd rfl (Or.inl rfl)) (za1 (zas (i:=4) sc.nd rfl (Or.inl rfl)) zcd))) (zaa (zbi (zat zil (pv 0) (zal) (nomark _)) (zah (zaq 4 sc.nd (zaz zb6 (pv 4) (pv 0)))) zax)
  (zah (zbi (zat zil (pv 4) (zal) (nomark _)) (zah (zcg (uOne hr) (pv 2) (pv 3) (pv 4) rfl)) zax)))))
  (zaa (zbi (zat zil (pv 0) (zal) (nomark _)) (zah (zao (pv 2))) zax)
  (zaa (zaq 5 sc.nd (zau x hr (pa_1 2)))
  (zaa (zbi (zat zqg (pv 5) (zal) (nomark _)) (zah (zbm PassesOwn.never rfl (zcq (K:=K) rfl (za9 (zhp rfl) rfl T.b_list (by kernel_rfl) (pa_1 2))) (zas (i:=3) sc.nd rfl (Or.inl rfl)) (zah (zcg (uOne hr) (pv 2) (pv 3) (zaz zd7 (zbf (uOne hr) (pv 2) (pv 3) (λ_ _=>Z)) (pv 5)) rfl)))) zax)
  (zah (zao (pv 2)))))))),?_⟩
 obtain⟨pn,M,iN,hl,k⟩:=h;have D:=zct pn;have p2:=pn.1;intro d a;obtain⟨H2,R,e2,X⟩:=nwH a (.dT []);rw[R];have W:=e2 _ _ M;have de:d≠e:=λz=>by subst z;rw[M]at a;cases a
 refine⟨_,Z,e,fvs,Z,.inl W,λo=>?_⟩;have ntd:=iN.tnd;have a0:=zb3 fvs;refine zb9 (λi L H'=>i<=fvs.length/\(∃O S v6,L = [some (.int n),some (.ref e),some (.ref d),O,S,v6])/\FzD H' e o fvs/\Kp [d,e] H2 H'/\∃l,H' d=some (.dT l)/\PF n m H' l (λt=>ic (F:=F) (cutZ N ((tms fvs).take i) t))/\l.length<=i) ?_ (λi L H' h=>h.2.2.1) ?_ ?_
 ·refine⟨Y2 _,⟨none,none,none,Z⟩,zad,Kp.upd (by simp),[],?_,PF.nil.congr λt=>?_,Y2 _⟩
  ·rw[zaf de];exact X
  ·rw[List.take_zero];show (0:F)=ic (if t∈[] then N t else 0);rw[Yh (by simp),zeq]
 ·rintro i kx vx L H3 p b hk ⟨hi,⟨O,S,v6,rfl⟩,hz,j,l,C,G,lk⟩ hp hb;obtain⟨y,rfl,y0,hy,rfl⟩:=iN.ix hk;have J:=zav hk;have tk:=zbv hy;refine⟨p,_,rfl,SqT.of zad,rfl,_,_,rfl,_,_,rfl,rfl,?_⟩;obtain⟨H4,R,B,-⟩:=nwH hp (.tup [.ref b,.int (N y)]);rw[R];have U:=B _ _ hb;have r:=B _ _ C;have I:=B _ _ hz;have r0:=Jm (N y) D;have r1:=Jc (N y) (show 0<n by lia);refine⟨_,rfl,rfl,_,rfl,cNe (λ_=>?_) (λc=>absurd c D)⟩;refine⟨_,rfl,_,rfl,_,_,rfl,rfl,(by show (0:Int)<n;lia),?_⟩;dsimp only[zap];have put:(λt=>ic (F:=F) (cutZ N ((tms fvs).take (i+1)) t))=setP (λt=>ic (F:=F) (cutZ N ((tms fvs).take i) t)) y (ic (N y)):=by
   funext t
   rw[tk,zld];unfold setP;split <;> rfl
  refine⟨_,Z,Z,_,Z,cNe (λc=>?_) (λc=>?_)⟩
  ·refine⟨_,Z,_,Z,_,Z,d,_,Z,DPut.t r U (by lia),?_⟩;refine⟨J,⟨_,_,_,Z⟩,(zaf (Jb de)).trans I,(j.tr (.of B)).tr (Kp.upd (by simp)),_,zad,?_,?_⟩
   ·rw[put];refine((G.same B).put y0 ((zes D).mpr ⟨_,Z,r0,r1,(zjk _).symm⟩) λz=>c ?_).fix (zbd r);have:=(Chr.z (n:=n) (F:=F) (N y)).mp z;exact(zr_n D).mp this
   ·have:=zbz l (ky y) (V.int (N y%n));lia
  ·refine⟨J,⟨_,_,_,Z⟩,I,j.tr (.of B),l,r,?_,by lia⟩;rw[put];have z:ic (F:=F) (N y)=0:=(Chr.z (n:=n) (F:=F) (N y)).mpr ((zr_n D).mpr c);refine(G.same B).congr λt=>?_
   unfold setP;split
   ·rename_i q
    rw[z,q];show ic (if y∈(tms fvs).take i then N y else 0)=0;split
    ·exact z
    ·exact zeq
   ·rfl
 ·rintro L H3 ⟨_,⟨O,S,v6,rfl⟩,hz,j,l,C,G,lk⟩;rw[<- a0,List.take_length,zh5 iN]at G;refine .inr ⟨e,o,_,hz,λo' w' z=>?_,?_⟩
  ·have z':H e=some (.frz o' w'):=z;rw[M]at z';cases z'
  refine⟨_,Z,Z,_,Z,cNe (λ_=>?_) (λc=>absurd c D)⟩;refine⟨_,Z,k d _ l a (λc ob Y=>?_) ((zaf de).trans C) ?_ lk⟩
  ·by_cases ce:c=e
   ·subst ce;rw[zad,<- M];exact Y
   ·rw[zaf ce];exact j _ _ (e2 _ _ Y) (by simp only[List.mem_cons,List.not_mem_nil,or_false,not_or];exact⟨(λz=>by subst z;rw[Y]at a;cases a),ce⟩)
  ·exact G.fix (zcz (u:=.dT []) hz (.inr (.inr ⟨_,_,Z⟩)))
def zyu(F:FunD K "whole_row" "whole_row" zgr .none f fd) : Fq T 1 f fd Nq (spWR zai):=by
 refine okS ["field","numbers","bottom","number","row","key"] F λsc=>?_
 walk_at "o";rename_i p e n fvs;walk_at "h"
 refine⟨_,(zaa (zbi (zat zil (zba (K:=K) rfl (pv 0) rfl) (zal) (nomark _)) (zah (zao (za9 zc0 rfl T.b_dict (by kernel_rfl) (pa_1 1)))) zax)
  zhz),?_⟩
 obtain⟨⟨b,l⟩,i,d,a,k⟩:=h;have j:=zct i;refine⟨_,Z,p,zai,b,_,_,Z,l.1,T.cl_Rests,T.na_Rests_prime,Z,Z,_,Z,cNe (λ_=>?_) (λc=>absurd c j)⟩;exact⟨_,Z,e,fvs,Z,d,a,k⟩
def zxj(F:FunD K "cleared" "cleared" zj7 .none f fd)(G:Cq T 1 "shared_divisor" Pa [] spShared)(a2:Cq T 2 "lessened" Nw [] spLes):Fq T 3 f fd P2 spClr:=by
 refine okS ["prime","row","other","key","shared","many","fewer","found","at","number"] F λsc=>?_
 walk_at "o";rename_i F fF n cF m r o t k fvs x φ ψ;walk_at "h"
 refine⟨_,(zaa (zaq 4 sc.nd (zau G hr ((zab (zaw zl2 rfl T.b_abs (by kernel_rfl) ((zab (zbf (uOne hr) (pv 1) (pv 3) (λ_ _=>Z)) zar))) (zab (zaw zl2 rfl T.b_abs (by kernel_rfl) ((zab (zbf (uOne hr) (pv 2) (pv 3) (λ_ _=>Z)) zar))) zar)))))
  (zaa (zaq 5 sc.nd (zaz zdm (zbf (uOne hr) (pv 2) (pv 3) (λ_ _=>Z)) (pv 4)))
  (zaa (zaq 6 sc.nd (zaz zdm (zbf (uOne hr) (pv 1) (pv 3) (λ_ _=>Z)) (pv 4)))
  (zaa (zaq 7 sc.nd (za2))
  (zaa (zc3 (zbm PassesOwn.never rfl (zcp (pv 1)) (zc4 rfl (za1 (zas (i:=8) sc.nd rfl (Or.inl rfl)) (za1 (zas (i:=9) sc.nd rfl (Or.inl rfl)) zcd))) (zah (zcg (uOne hr) (pv 7) (pv 8) (zaz zn1 (pv 9) (pv 5)) rfl))))
  (zaa (zc3 (zbm PassesOwn.never rfl (zcp (pv 2)) (zc4 rfl (za1 (zas (i:=8) sc.nd rfl (Or.inl rfl)) (za1 (zas (i:=9) sc.nd rfl (Or.inl rfl)) zcd))) (zah (zcg (uOne hr) (pv 7) (pv 8) (zaz zhb (zl1 (uOne hr) (pv 7) (pv 8) (zal) ⟨Z,Z,Z,Z⟩) (zaz zn1 (pv 9) (pv 6))) rfl))))
  (zah (zao (zau a2 hr (pa_2 0 7)))))))))),?_⟩
 obtain⟨pn,n9,ro,L,ho,pR,pO,ht,kr,ko,hl,K⟩:=h;have n0:=zct pn;obtain⟨A,iA,eA,bA,zA⟩:=pR.iz n0;obtain⟨B,iB,eB,bB,zB⟩:=pO.iz n0;have p2:=pn.1;have bk:=bA k;have bk':=bB k;have a0:=zA k kr;have b0:=zB k ko;have vg:∀{f:Ka} {M:Lc->Int},IZ m f M->M k≠0->valV f (ky k)=some (.int (M k)):=fun{f M} i z=>by
  cases q:valV f (ky k) with
  | none=>exact absurd (i.out k q) z
  | some v=>rw[i.val k v q]
 have dR:DGet H r (.ref t) (some (.int (A k))):=by rw[<- vg iA a0];exact DGet.t L (by rw[zce];exact ht)
 have dO:DGet H o (.ref t) (some (.int (B k))):=by rw[<- vg iB b0];exact DGet.t ho (by rw[zce];exact ht)
 refine sab λrr C=>?_
 refine⟨_,Z,_,Z,r,_,Z,dR,_,Z,_,Z,_,Z,o,_,Z,dO,_,Z,_,_,Z,by split <;> lia,by split <;> lia,?_⟩;dsimp only[zap];rw[zvz];obtain⟨O,ea⟩:=zsi (A k) (B k);obtain⟨I,eb⟩:=zr7 (A k) (B k);have s0:=zw3 (a:=A k) (b:=B k) b0;generalize gI (A k) (B k)=s at ea eb s0;have sk:s<=A k:=Int.le_of_dvd (by lia) ⟨O,ea⟩;have qa:(A k).fdiv s=O:=by rw[ea];exact Int.mul_fdiv_cancel_left O (by lia)
 have qb:(B k).fdiv s=I:=by rw[eb];exact Int.mul_fdiv_cancel_left I (by lia)
 have la:0<=O/\O<=A k:=by
  rw[ea];have:=Int.nonneg_of_mul_nonneg_right (a:=s) (b:=O) (by rw[<- ea];lia) s0;exact⟨this,by have:=Int.mul_le_mul_of_nonneg_right (show 1<=s by lia) this;lia⟩
 have lb:0<=I/\I<=B k:=by
  rw[eb];have:=Int.nonneg_of_mul_nonneg_right (a:=s) (b:=I) (by rw[<- eb];lia) s0;exact⟨this,by have:=Int.mul_le_mul_of_nonneg_right (show 1<=s by lia) this;lia⟩
 subst C;have big:∀{z:Int},0<=z->z<10000->z.natAbs<2^20000:=fun{z} z0 z1=>Yf (show z.natAbs<2^14 by lia) (Yv (by decide) (by decide))
 have sB:s.natAbs<2^8999:=Yf (show s.natAbs<2^14 by lia) (Yv (by decide) (by decide));refine sab λrr C=>?_
 refine⟨_,Z,_,Z,o,_,Z,dO,_,Z,_,_,Z,Z,⟨by lia,sB⟩,?_⟩;dsimp only[zap];rw[qb];subst C;refine sab λrr C=>?_
 refine⟨_,Z,_,Z,r,_,Z,dR,_,Z,_,_,Z,Z,⟨by lia,sB⟩,?_⟩;dsimp only[zap];rw[qa];subst C;refine sab λrr C=>?_
 intro d j;dsimp only[zap];obtain⟨H2,uq,e2,b6⟩:=nwH j (.dT []);rw[uq];subst C;have dr:d≠r:=λz=>by subst z;rw[L]at j;cases j
 have Y:d≠o:=λz=>by subst z;rw[ho]at j;cases j
 have b3:=e2 _ _ L;have b1:=zb3 fvs;have b7:=zb3 x;have b2:=big lb.1 (by lia);have a9:=big la.1 (by lia);refine sab λrr C=>?_
 refine⟨_,Z,r,fvs,Z,.inl b3,λoz=>?_⟩;refine zb9 (λi W H'=>i<=fvs.length/\(∃v8 v9,W = [some (.int n),some (.ref r),some (.ref o),some (.ref t),some (.int s),some (.int I),some (.int O),some (.ref d),v8,v9])/\FzD H' r oz fvs/\Kp [d,r] H2 H'/\∃N,H' d=some (.dT N)/\IZ m N (λu=>cutZ A ((tms fvs).take i) u*I)/\N.length<=i) ?_ (λi W H' h=>h.2.2.1) ?_ ?_
 ·refine⟨Y2 _,⟨none,none,Z⟩,zad,Kp.upd (by simp),[],(zaf dr).trans b6,IZ.nil.congr λu=>?_,Y2 _⟩;rw[List.take_zero];show (0:Int)=(if u∈[] then A u else 0)*I;rw[Yh (by simp),Int.zero_mul]
 ·rintro i kx vx W H3 p b hk ⟨hi,⟨v8,v9,rfl⟩,hz,D,N,a3,R,lk⟩ hp hb;obtain⟨y,rfl,y0,hy,rfl⟩:=iA.ix hk;have a5:=zav hk;have tk:=zbv hy;refine⟨p,_,rfl,SqT.of zad,rfl,_,_,rfl,_,_,rfl,rfl,?_⟩;obtain⟨H4,uq,S,-⟩:=nwH hp (.tup [.ref b,.int (A y)]);rw[uq];have U:=S _ _ hb;have J:=S _ _ a3;have a1:=bA y
  refine⟨_,Z,_,Z,_,_,Z,Z,⟨big a1.1 (by lia),b2⟩,_,Z,_,Z,d,_,Z,DPut.t J U (by lia),?_⟩;refine⟨a5,⟨_,_,Z⟩,(zaf (Jb dr)).trans (S _ _ hz),(D.tr (.of S)).tr (Kp.upd (by simp)),_,zad,?_,?_⟩
  ·refine(R.put y0).congr λu=>?_
   rw[tk,zld];unfold setZ;split <;> rfl
  ·exact Yr (zbz _ _ _) (by lia)
 rintro W H3 ⟨_,⟨v8,v9,rfl⟩,hz,D,N,a3,R,lk⟩;rw[<- b1,List.take_length,zh5 iA]at R;refine .inr ⟨r,oz,_,hz,λo' w' z=>?_,?_⟩
 ·have z':H r=some (.frz o' w'):=z;rw[L]at z';cases z'
 have e5:Same H (upd H3 r (.dT fvs)):=λc ob hc=>by
  by_cases ce:c=r
  ·subst ce;rw[zad,<- L];exact hc
  ·rw[zaf ce];exact D _ _ (e2 _ _ hc) (by simp only[List.mem_cons,List.not_mem_nil,or_false,not_or];exact⟨(λz=>by subst z;rw[hc]at j;cases j),ce⟩)
 have a6:(upd H3 r (HO.dT fvs)) d=some (.dT N):=(zaf dr).trans a3;show rr _ _ _;generalize upd H3 r (HO.dT fvs)=H5 at e5 a6 ⊢;subst C;refine⟨_,Z,o,x,Z,.inl (e5 _ _ ho),λa8=>?_⟩;refine zb9 (λi W H'=>i<=x.length/\(∃v8 v9,W = [some (.int n),some (.ref r),some (.ref o),some (.ref t),some (.int s),some (.int I),some (.int O),some (.ref d),v8,v9])/\FzD H' o a8 x/\Kp [d,o] H5 H'/\∃N,H' d=some (.dT N)/\IZ m N (λu=>A u*I-cutZ B ((tms x).take i) u*O)/\N.length<=fvs.length+i) ?_ (λi W H' h=>h.2.2.1) ?_ ?_
 ·refine⟨Y2 _,⟨_,_,Z⟩,zad,Kp.upd (by simp),N,(zaf Y).trans a6,R.congr λu=>?_,lk⟩;rw[List.take_zero];show _=A u*I-(if u∈[] then B u else 0)*O;rw[Yh (by simp),Int.zero_mul,Int.sub_zero]
 ·rintro i kx vx W H6 p b hk ⟨hi,⟨v8,v9,rfl⟩,hz,D,a4,X,R,lk⟩ hp hb;obtain⟨y,rfl,y0,hy,rfl⟩:=iB.ix hk;have a5:=zav hk;have tk:=zbv hy;refine⟨p,_,rfl,SqT.of zad,rfl,_,_,rfl,_,_,rfl,rfl,?_⟩;obtain⟨H4,uq,S,-⟩:=nwH hp (.tup [.ref b,.int (B y)]);rw[uq];have U:=S _ _ hb;have J:=S _ _ X;have a1:=bB y
  have gt:=R.get y;refine⟨_,Z,d,Z,.inr ⟨_,.inl J⟩,_,Z,_,DGet.t J U,?_⟩;rw[gt];refine⟨_,Z,_,Z,_,_,Z,Z,⟨big a1.1 (by lia),a9⟩,_,_,Z,Z,_,Z,_,Z,d,_,Z,DPut.t J U (by lia),?_⟩;refine⟨a5,⟨_,_,Z⟩,(zaf (Jb Y)).trans (S _ _ hz),(D.tr (.of S)).tr (Kp.upd (by simp)),_,zad,?_,Yr (zbz _ _ _) (by lia)⟩;refine(R.put y0).congr λu=>?_
  have nb:cutZ B ((tms x).take i) y=0:=Yh (zm4 iB.tnd hy);rw[tk,zld];unfold setZ;split
  ·rename_i q
   rw[q,nb,Int.zero_mul,Int.sub_zero]
  ·rfl
 rintro W H6 ⟨_,⟨v8,v9,rfl⟩,hz,D,a4,X,R,lk⟩;rw[<- b7,List.take_length,zh5 iB]at R;refine .inr ⟨o,a8,_,hz,λo' w' z=>?_,?_⟩
 ·have z':H o=some (.frz o' w'):=z;rw[ho]at z';cases z'
 have e7:Same H (upd H6 o (.dT x)):=λc ob hc=>by
  by_cases ce:c=o
  ·subst ce;rw[zad,<- ho];exact hc
  ·rw[zaf ce];exact D _ _ (e5 _ _ hc) (by simp only[List.mem_cons,List.not_mem_nil,or_false,not_or];exact⟨(λz=>by subst z;rw[hc]at j;cases j),ce⟩)
 have a7:(upd H6 o (HO.dT x)) d=some (.dT a4):=(zaf Y).trans X;generalize upd H6 o (HO.dT x)=H7 at e7 a7 ⊢;refine⟨_,Z,_,Z,F,fF,n,cF,m,d,a4,_,Z,pn,a7,R,by lia,λd' H' cr b5 e' b4 pf l=>?_⟩;refine K d' H' cr (ic I) (ic O) (ic s) (e7.free b5) (e7.trans e') b4 ?_ ?_ ?_ (pf.congr λu=>?_) (by lia)
 ·intro z;have:=(zr_n n0).mp ((Chr.z (n:=n) (F:=F) s).mp z);rw[Int.emod_eq_of_lt (by lia) (by lia)]at this;lia
 ·rw[eB,eb,zec];grind
 ·rw[eA,ea,zec];grind
 ·rw[zod,zec,zec,<- eA,<- eB];grind
def zxr(F:FunD K "row_to_nothing" "Lowering.row_to_nothing" zca .none f fd)(S:Kq T 6 "Waiting" zam Nk [] (spWaInit zaj zac zae zac zam))(a2:Mq T 1 zam "taken" ["self"] [] (spTaken zam))(d0:Mq T 2 zay "fitting" Pn [] (spFit zay))(a4:Cq T 2 "left_over" Pa [] spLeft)(c5:Cq T 2 "shifted" Nr [] spShf)(d7:Mq T 5 zam "put" Nb [] (spPut zaj zac zae zac zam))(c4:Cq T 3 "cleared" P2 [] spClr)(e2:OrdT T):Fq T 16 f fd Nx (spRtn zan zai zai zac zae zaj zac zak zay):=by
 refine okS ["self","left","waiting","term","fit","taken"] F λsc=>?_
 walk_at "o";rename_i F fF g cF x r le pl wl f8 a1 wvss gs hd ks U d b7 φ M;walk_at "h"
 refine⟨_,(zaa (zaq 2 sc.nd (zms S hr zbx .nil ((zab (zba (K:=K) rfl (zba (K:=K) rfl (pv 0) rfl) rfl) (pa_1 1)))))
  (zaa (zdb PassesOwn.never (zat (zeg (K:=K) rfl hr.units) (pv 1) (za2) (nomark _)) (zaa (zaq 3 sc.nd (ztp a2 (pv 2) hr zbx .nil))
  (zah (zbi (zlx (znj (uOne hr) (pv 3) (pv 1))) (zaa (zaq 4 sc.nd (pe_m d0 (zba (K:=K) rfl (pv 0) rfl) hr zbx .nil (pa_1 3)))
  (zaa (zbi (zat zmk (pv 4) (zg4) (nomark _)) (zah (zao (zcs))) zax)
  (zaa (zaq 5 sc.nd (zau c5 hr ((zab (zau a4 hr ((zab (zbb (r:=rIxT K) zby (pv 4) (zal) (λ_ _=>Z)) (pa_1 3)))) (zab (zbb (r:=rIxL K) za6 (zba (K:=K) rfl (pv 0) rfl) (zbb (r:=rIxT K) zby (pv 4) (zal) (λ_ _=>Z)) (λ_ _=>Z)) zar)))))
  (zaa (zb4 (pe_m d7 (pv 2) hr zbx .nil (pa_1 5)))
  (zah (zaq 1 sc.nd (zau c4 hr ((zab (zba (K:=K) rfl (zba (K:=K) rfl (zba (K:=K) rfl (pv 0) rfl) rfl) rfl) (pa_3 1 5 3)))))))))) zax))))
  (zah (zao (zcs))))),?_⟩
 obtain⟨Y,b6,pf,hU,k⟩:=h;have B:=Y.rg;have om:=B.om;have LO:=Y.lo;have U6:=Y.b;have m4:=B.m4;obtain⟨dx,hx⟩:=Y.at_;obtain⟨dr,j4⟩:=B.at_;refine sab λrr D=>?_
 refine⟨_,Z,x,zak,dx,_,_,Z,hx,T.cl_Lowering,T.na_Lowering_ring,Z,r,zan,dr,_,_,Z,j4,T.cl_Ring,T.na_Ring_order,Z,_,Z,λwx c6 d4 e7 newx=>?_⟩;have e6:Same H (upd (upd H c6 (.own wx)) wx (.ins zam c6 [])):=λb o e=>by
  rw[zaf (zag e d4),zaf (zag e e7)];exact e
 have lfv:b7.length<=U.length:=zsp pf λt ht=>(hU t ht).1
 have i5:g.po≠wx:=λz=>by
  obtain⟨C0,O0⟩:=e2 g.kd g.ws B.k0 B.k4 B.wn B.wb;obtain⟨dO,fo,hO,_⟩:=O0.oC.ins B.od;rw[z,d4]at hO;cases hO
 refine⟨wx,c6,d,g.po,g.kd,g.ws,g.m,tms b7,b7,Z,zad,i5,B.k0,B.k4,B.wn,B.wb,B.m1,B.m4,(B.same e6).od,e6 _ _ b6,pf.keys,λt ht=>Y.ok t (hU t (pf.tmem.mp ht)).1,zlt _ (by rw[zb3];lia),λH7 kn qq C us i1 i8 k7 f3 f4 mu mk lk lu=>⟨Z,?_⟩⟩;have s7:Same H H7:=λb o O=>k7 b o (e6 _ _ O) (by simp[zag O d4])
 have c2:H kn=none:=e6.free i1;have c0:H qq=none:=e6.free i8;dsimp only[zap];subst D;refine⟨λmm σ H'=>∃(v3 v4 v5:Option V) (R:Lg) (C us X:Lb) (lf:Po F) (j:Ka),σ = [some (.ref x),some (.ref R),some (.ref wx),v3,v4,v5]/\mm=U.length-X.length/\LwS zam g ks gs hd U M φ H H' wx kn qq R C us X lf j,⟨_,none,none,none,d,C,us,[],φ,b7,Z,Z,s7,s7 _ _ b6,pf.same s7,f3,LwI.start f4 (λz=>by rw[mu,pf.tmem]) (λt ht=>⟨(hU t ht).1,pf.sp t ht⟩) λt ht=>(hU t ht).2,λz=>by rw[mk,mu];simp,λz=>by rw[z,c2]at b6;cases b6⟩,?_⟩;clear f3 f4 mu mk lk lu;rintro mm σ H8 ⟨v3,v4,v5,R,C,us,X,lf,j,rfl,rfl,I⟩;refine⟨_,Z,λd2 k8=>?_⟩;obtain⟨H9,uq,e9,i6⟩:=nwH k8 (.dT []);rw[uq];clear uq;have f0:=I.sm.trans e9;have c9:=e9 _ _ I.lft;have a8:=I.lp.same e9;have d5:=I.wa.same e9;obtain⟨da,kds,fl,_⟩:=a8.kds (K:=K);have ld:j.length=da.length:=Paired.length kds;refine⟨R,d2,j,[],da,[],Z,Z,.inl c9,.inl i6,kds,.nil,fl,(λ_ z=>by cases z),_,Z,?_⟩
 cases j with
 | nil=>
  have:da=[]:=Y9.mp (by rw[<- ld];rfl);subst this;refine iteF ?_;exact k _ true f0 λ_=>I.lw.done (a8.empty.mp rfl)
 | cons e0 l0=>
 have i4:eqKD da []=false:=by
  unfold eqKD
  cases da with
  | nil=>simp at ld
  | cons x l=>rfl
 generalize hlv:e0::l0=j at *;have i0:j≠[]:=by rw[<- hlv];exact λz=>nomatch z
 have j1:us≠[]:=λz=>i0 (a8.empty.mpr λt=>Classical.byContradiction λq=>by have:=I.lw.lft t q;rw[z]at this;cases this)
 obtain⟨W,t,rfl⟩:=zuh j1;rw[i4];refine iteT ⟨λg5 H'=>∃m',m'<U.length-X.length/\∃(v3 v4 v5:Option V) (R:Lg) (C us X:Lb) (lf:Po F) (j:Ka),g5=[some (.ref x),some (.ref R),some (.ref wx),v3,v4,v5]/\m'=U.length-X.length/\LwS zam g ks gs hd U M φ H H' wx kn qq R C us X lf j,λg5 H' h=>h,?_⟩;obtain⟨b1,b2,b3,b4,b5,tn⟩:=I.lw.base;have tU:=I.lw.inU t (.inl (by simp));have dnl:X.length<U.length:=Nat.lt_of_succ_le (by have:=zb1 b3 λz hz=>(b4 z (.inr hz)).1;simpa using this);refine sab λrr D=>?_
 obtain⟨dw,hw⟩:=d5.at_;refine⟨_,Z,wx,dw,_,Z,hw,zqr _ (by decide +kernel) (by decide +kernel) (by decide +kernel),wx,g.po,kn,qq,g.rk,C,W,t,Z,d5,λHA a kA a6 ha=>?_⟩;dsimp only[zap];subst D;obtain⟨vsq,b9,_⟩:=d5.ql;have f9:∀b o,H9 b=some o->b≠qq->HA b=some o:=λb o O nb=>kA b o O (by simp[nb])
 have fA:Fix H9 HA:=kA.fix λy hy o ho=>by
  rw[Yq.mp hy,b9]at ho;cases ho;exact .inr (.inl ⟨_,Z⟩)
 have sA:Same H HA:=λb o O=>f9 _ _ (f0 _ _ O) (zag O c0)
 have L:HA R=some (.dT j):=f9 _ _ c9 (za7 c9 b9 (by intro z;cases z));have a3:=a8.fix fA;have J:∀z,z∈C↔z∈W\/z∈X++[t]:=λz=>by
  rw[I.km];simp only[List.mem_append,List.mem_singleton];constructor
  ·rintro((h | h) | h)
   ·exact .inl h
   ·exact .inr (.inr h)
   ·exact .inr (.inl h)
  ·rintro(h | h | h)
   ·exact .inl (.inl h)
   ·exact .inr h
   ·exact .inl (.inr h)
 have g7:U.length-(X++[t]).length<U.length-X.length:=by rw[Y5];simp;lia
 refine⟨_,Z,_,Z,R,_,Z,DGet.t (k:=ky t) L (by rw[zce];exact ha),_,Z,?_⟩
 cases hval:valV j (ky t) with
 | none=>
  have l0:lf t=0:=Classical.byContradiction λz=>by
   obtain⟨v,h1,_⟩:=a3.get z;rw[hval]at h1;cases h1
  exact iteF ⟨_,g7,_,_,_,R,C,W,X++[t],lf,j,Z,Z,sA,L,a3,a6,I.lw.skip l0,J,I.ne⟩
 | some v=>
 obtain⟨rv,k9⟩:=a3.val t v hval;refine iteT ?_;refine sab λrr D=>?_
 have d1:=Y.same sA;obtain⟨j2,h5⟩:=d1.at_;obtain⟨g9,h6⟩:=d1.le.at_;have l3:∀p∈f8,p.2.length=g.m:=λp hp=>(LO.t0 (i:=p.1) (l:=p.2) hp).len
 refine⟨_,Z,x,zak,j2,_,_,Z,h5,T.cl_Lowering,T.na_Lowering_leads,Z,le,g9,_,Z,h6,zwu _ (by decide +kernel),_,Z,le,a,pl,g.m,f8,t,Z,d1.le,ha,tU.2.len,B.m4,l3,LO.inc,λnf HB eB=>?_,λi l ft HB qf a' eB g1 k5=>?_⟩
 ·dsimp only[zap];subst D;refine⟨_,Z,Z,_,Z,iteT ?_⟩;exact k _ false (sA.trans eB) (λz=>nomatch z)
 ·dsimp only[zap];subst D;have sB:=sA.trans eB;have ⟨ik,hl⟩:=LO.ld i l ft.mem;obtain⟨j5,h8⟩:=Y.hl i l ft.mem;have l0:=LO.t0 ft.mem;have o0:=T0.sub tU.2 l0 ft.goes;refine⟨_,Z,Z,_,Z,iteF ?_⟩;unfold zyi
  try dsimp only
  refine sab λrr D=>?_
  refine⟨_,Z,qf,_,1,_,Z,Z,SqT.of g1,atI1,_,Z,a',a,l,t,Z,k5,eB _ _ ha,by rw[l0.len,tU.2.len],by rw[l0.len];lia,ft.goes,λov HD eD j8=>?_⟩;have b0:=eB.trans eD;have sD:=sA.trans b0;have a5:=Y.same sD;obtain⟨i3,g8⟩:=a5.at_;have c7:a1[i]? = some a1[i]:=Yc ik;obtain⟨g2,hki,e1,d9⟩:=a5.row.row i _ c7;have e5:atI (a1.map V.ref) (i:Int)=some (.ref a1[i]):=zbh (by rw[Ym,c7];rfl);generalize a1[i]=di at c7 e1 e5;have cl:=Y.cl t tU.1 i l ft.mem ft.goes;have i7:g2.length<=U.length:=zk3 (l:=subT t l) o0.len d9 λu hu=>by
   have u0:=a5.row.sp i u hu;rw[zdz (u0.len.trans o0.len.symm)];exact cl u hu
  refine⟨_,Z,x,zak,i3,_,_,Z,g8,T.cl_Lowering,T.na_Lowering_wholes,Z,_,Z,qf,_,0,_,Z,Z,SqT.of (eD _ _ g1),atI0,wl,_,_,_,Z,Z,SqL.of a5.row.at_,e5,F,fF,g.n,g.m,ov,di,subT t l,g2,gs i,Z,j8,o0,m4,e1,d9,zlt _ (by lia),λtd HG N f1 eG d6 a7 h9=>?_⟩;dsimp only[zap];subst D;have a9:=b0.trans eG;have sG:=sA.trans a9;have b8:=a6.same a9;have c3:=a9 _ _ L;obtain⟨k6,k3⟩:=b8.at_;obtain⟨kvk,e3,ekG⟩:=b8.kn;obtain⟨vsqG,a0,_⟩:=b8.ql;have j7:∀z,sh (subT t l) (gs i) z≠0->z∈U:=λz hz=>by
   obtain⟨_,_,nz,e⟩:=zna o0 (LO.sp i) hz;rw[e];exact cl _ nz
  have c1:td≠kn:=λz=>by
   obtain⟨h7,h0,_⟩:=a6.kn;have:=b0 _ _ h0;rw[<- z,f1]at this;cases this
  have lks:C.length<=U.length:=zb1 a6.nd λz hz=>(b4 z ((J z).mp hz)).1
  have l1:W.Nodup:=List.Pairwise.imp (fun{a b} (h:G.lt g.rk a b) (e:a=b)=>by subst e;exact lt_irrefl h) b1;have lus:W.length<=U.length:=zb1 l1 λz hz=>(b4 z (.inl hz)).1
  have j0:N.length<=U.length:=Yr h9 i7;have ltt:(tms N).length<=U.length:=by rw[zb3];exact j0
  refine sab λrr D=>?_
  refine⟨_,Z,wx,k6,_,Z,k3,zqr _ (by decide +kernel) (by decide +kernel) (by decide +kernel),_,Z,wx,td,g.po,kn,qq,g.kd,g.ws,g.m,C,W,tms N,N,Z,B.k0,B.k4,B.wn,B.wb,B.m1,B.m4,(B.same sG).od,b8,d6,a7.keys,λz hz=>Y.ok z (j7 z (a7.tmem.mp hz)),c1,b1,λz hz=>⟨(J z).mpr (.inl hz),(b4 z (.inl hz)).2⟩,zlt _ (by lia),zlt _ (by lia),λHI g3 l2 kI f2 k1 f7 j6 lkI luI=>?_⟩;show rr _ _ _;subst D;have d3:∀b o,HG b=some o->b≠kn->b≠qq->HI b=some o:=λb o O n1 n2=>kI b o O (by simp[n1,n2])
  have f6:Fix HG HI:=kI.fix λy hy o ho=>by
   rcases Yj.mp hy with z | z
   ·rw[z,e3]at ho;cases ho;exact .inl ⟨_,Z⟩
   ·rw[Yq.mp z,a0]at ho;cases ho;exact .inr (.inl ⟨_,Z⟩)
  have d8:=(Fix.of a9).tr f6;have sI:Same H HI:=λb o O=>d3 _ _ (sG _ _ O) (zag O c2) (zag O c0)
  have e8:HI R=some (.dT j):=d3 _ _ c3 I.ne (za7 c3 a0 (by intro z;cases z));have f5:HI td=some (.dT N):=d3 _ _ d6 c1 (za7 d6 a0 (by intro z;cases z));have e4:R≠td:=λz=>by
   have:=b0 _ _ L;rw[z,f1]at this;cases this
  have llv:j.length<=U.length:=zsp a3 λz hz=>(I.lw.inU z (.inl (I.lw.lft z hz))).1
  have c8:=Y.same sI;obtain⟨j9,h4⟩:=c8.at_;obtain⟨i9,i2⟩:=c8.rg.at_;have g4:=c8.rg.fd;rw[show AtN zai zai g.n=AtR zai g.n from Yh (zct B.np)]at g4;obtain⟨dF,hF⟩:=g4;have e0:=back tU.2 l0 ft.goes;have top:sh (subT t l) (gs i) t=gs i l:=by
   have:=zmr (l:=subT t l) (u:=l) (φ:=gs i) (by rw[l0.len,o0.len]);rwa [e0]at this
  subst h8;refine⟨_,Z,x,zak,j9,_,_,Z,h4,T.cl_Lowering,T.na_Lowering_ring,Z,r,zan,i9,_,_,Z,i2,T.cl_Ring,T.na_Ring_field,Z,g.pf,zai,dF,_,_,Z,hF.1,T.cl_Rests,T.na_Rests_prime,Z,_,Z,_,Z,_,Z,F,fF,g.n,cF,g.m,R,td,a,t,j,N,lf,sh (subT t (hd i)) (gs i),Z,B.np,B.nb,e4,e8,f5,a3.fix d8,a7.fix f6,d8.tup _ _ ha,k9,by rw[top];exact hl.1,zlt _ (by lia),λd' HJ g6 aa bb cc g0 eJ j3 nc ea eb pJ lJ=>?_⟩;rw[top]at ea;dsimp only[zap];refine⟨_,g7,_,_,_,d',g3,l2,X++[t],_,g6,Z,Z,sI.trans eJ,j3,pJ,f2.same eJ,LwI.fit Y.br I.lw j5 ft.goes nc ea eb cl k1 (λz=>?_),λz=>?_,λz=>?_⟩
  ·rw[f7,a7.tmem,J];constructor
   ·rintro(h | ⟨h1,h2⟩)
    ·exact .inl h
    ·exact .inr ⟨h1,λz=>h2 (.inl z),λz=>h2 (.inr z)⟩
   ·rintro(h | ⟨h1,h2,h3⟩)
    ·exact .inl h
    ·exact .inr ⟨h1,λw=>w.elim h2 h3⟩
  ·rw[j6,f7,J];constructor
   ·rintro((h | h) | h)
    ·exact .inl (.inl h)
    ·exact .inr h
    ·by_cases c:z∈C
     ·rcases(J z).mp c with w | w
      ·exact .inl (.inl w)
      ·exact .inr w
     ·exact .inl (.inr ⟨h,λw=>c ((J z).mpr w)⟩)
   ·rintro((h | ⟨h,_⟩) | h)
    ·exact .inl (.inl h)
    ·exact .inr h
    ·exact .inl (.inr h)
  ·obtain⟨h7,h0,_⟩:=f2.kn;rw[z,h0]at g0;cases g0
def zvr(F:FunD K "meeting" "meeting" zjr .none f fd) : Fq T 1 f fd Pa (spMeet K):=by
 refine okS ["one","other"] F λsc=>?_
 walk_at "o";rename_i a b xs ys;walk_at "h"
 refine⟨_,(zah (zao (za9 (zbl (K:=K) rfl) rfl T.b_tuple (by kernel_rfl) ((zab (zb5 (N:=["power","further"]) (Blk.plain (by decide +kernel) (by decide +kernel) rfl (by decide +kernel) zbp) rfl (zcu (K:=K) rfl true true rfl T.b_zip (pa_2 0 1)) (λl j m c=>zen (K:=K) rfl rfl rfl zbp rfl rfl) (λl j m c=>zbs) (λl j m c=>zaw (zde rfl) rfl T.b_max (by kernel_rfl) (pa_2 0 1))) zar))))),?_⟩;obtain⟨n,p,he,z,k⟩:=h;show tComp _ _ _ _ _ _ _ _;refine zco (K:=K) (b1:=true) (b2:=true) (a:=a) (b:=b) (xs:=xs) (ys:=ys) yes2 (λx y=>.int (mx x y)) (by rfl) ?_ n p z ?_ ?_ λD H' e d=>?_
 ·exact λR q=>⟨_,Z,_,Z,q⟩
 ·exact λ_ _ _ h=>h
 ·exact λi H' R _ h=>⟨_,Z,_,Z,_,_,Z,h⟩
 rw[zgc (λx y=>mx x y)]at d;refine⟨D,_,Z,.inl ⟨SqL.of d,λr hr=>?_⟩⟩;exact k r _ (e.trans (Same.upd hr)) zad
def zsk(F:FunD K "stand_apart" "stand_apart" ze6 .none f fd) : Fq T 1 f fd Pa (spApart K):=by
 refine okS ["one","other"] F λsc=>?_
 walk_at "o";rename_i a b xs ys;walk_at "h"
 refine⟨_,(zah (zao (zaw (ze3 (K:=K) rfl rfl) rfl T.b_all (by kernel_rfl) ((zab (zb5 (N:=["power","further"]) (Blk.plain (by decide +kernel) (by decide +kernel) rfl (by decide +kernel) zbp) rfl (zcu (K:=K) rfl true true rfl T.b_zip (pa_2 0 1)) (λj d l c=>zen (K:=K) rfl rfl rfl zbp rfl rfl) (λj d l c=>zbs) (λj d l c=>zza (zcc zd1 (pv 0) (zal) (nomark _)) (zhr (zcc zd1 (pv 1) (zal) (nomark _))))) zar))))),?_⟩;obtain⟨m,p,q,B,k⟩:=h;show tComp _ _ _ _ _ _ _ _;refine zco (K:=K) (b1:=true) (b2:=true) (a:=a) (b:=b) (xs:=xs) (ys:=ys) yes2 (λx y=>.bl (decide (x=0)||decide (y=0))) (by rfl) ?_ m p B ?_ ?_ λD H' e n=>?_
 ·exact λR z=>⟨_,Z,_,Z,z⟩
 ·exact λ_ _ _ h=>h
 ·intro i H' R _ h;generalize xs.getD i 0=x at h;generalize ys.getD i 0=y at h;refine⟨_,Z,Z,_,Z,?_⟩;rw[zi3];by_cases cx:x=0
  ·rw[Yl (by rw[cx];rfl)];rw[Yo cx]at h;exact h
  ·rw[Yh (by simpa using cx)];rw[Yw cx,Bool.false_or]at h;refine⟨_,Z,Z,?_⟩;rw[zi3];exact h
 refine⟨D,(List.range xs.length).map λi=>decide (xs.getD i 0=0)||decide (ys.getD i 0=0),Z,SqL.of ?_,?_⟩
 ·rw[n];unfold zipV;rw[Yu.mpr (λ_ _=>Z),Jh,<- q,Nat.min_self];rfl
 ·have r:((List.range xs.length).map λi=>decide (xs.getD i 0=0)||decide (ys.getD i 0=0)).all id=zhn xs ys:=by
   unfold zhn;rw[List.all_map];rfl
  rw[r];exact k _ e
def zyj(F:FunD K "crossed_to_nothing" "Lowering.crossed_to_nothing" zb2 .none f fd)(J:Cq T 1 "meeting" Pa [] (spMeet K))(p:Cq T 2 "left_over" Pa [] spLeft)(C:Cq T 2 "shifted" Nr [] spShf)(W:Cq T 3 "cleared" P2 [] spClr)(Y:Mq T 16 zak "row_to_nothing" Nx [] (spRtn zan zai zai zac zae zaj zac zak zay)):Fq T 18 f fd Nf (spCtn zan zai zai zac zae zaj zac zak zay):=by
 refine okS ["self","i","j","one","other","met","row","taken"] F λsc=>?_
 walk_at "o";rename_i F fF g cF x r le pl wl d3 c a4 d hd ks U i j a b;walk_at "h"
 refine⟨_,(zaa (zaq 5 sc.nd (zau J hr (pa_2 3 4)))
  (zaa (zaq 6 sc.nd (zau C hr ((zab (zau p hr (pa_2 3 5)) (zab (zbb (r:=rIxL K) za6 (zba (K:=K) rfl (pv 0) rfl) (pv 1) (λ_ _=>Z)) zar)))))
  (zaa (zaq 7 sc.nd (zau C hr ((zab (zau p hr (pa_2 4 5)) (zab (zbb (r:=rIxL K) za6 (zba (K:=K) rfl (pv 0) rfl) (pv 2) (λ_ _=>Z)) zar)))))
  (zah (zao (pe_m Y (pv 0) hr zbx .nil ((zab (zau W hr ((zab (zba (K:=K) rfl (zba (K:=K) rfl (zba (K:=K) rfl (pv 0) rfl) rfl) rfl) (pa_3 6 7 5)))) zar)))))))),?_⟩
 obtain⟨O,hi,N,il,jl,ha,hb,Ui,Uj,k⟩:=h;have hR:=O.rg;have m4:=hR.m4;have U6:=O.b;have y:=O.br;have L:=y.t0 hi;have tj:=y.t0 N;have tM:=zd0 L tj;obtain⟨gi,gj⟩:=zgo L tj;have ui:=T0.sub tM L gi;have uj:=T0.sub tM tj gj;have ei:=back tM L gi;have ej:=back tM tj gj;have D:sh (subT (za3 (hd i) (hd j)) (hd i)) (d i) (za3 (hd i) (hd j))=d i (hd i):=by
  have:=zic y hi ui;rwa [ei]at this
 have B:sh (subT (za3 (hd i) (hd j)) (hd j)) (d j) (za3 (hd i) (hd j))=d j (hd j):=by
  have:=zic y N uj;rwa [ej]at this
 have ni:=(y.ld i hi).1;have nj:=(y.ld j N).1;have a7:=Ld.sh y.om (y.sp i hi) ui (y.ld i hi);have b2:=Ld.sh y.om (y.sp j N) uj (y.ld j N);rw[ei]at a7;rw[ej]at b2;have GS:=Good.ofS (F:=F) y hi N;generalize hM:za3 (hd i) (hd j)=M at *;have d8:∀t,sh (subT M (hd i)) (d i) t≠0->t∈U:=λt ht=>by
  obtain⟨_,_,nz,e⟩:=zna ui (y.sp i hi) ht;rw[e];exact Ui _ nz
 have c6:∀t,sh (subT M (hd j)) (d j) t≠0->t∈U:=λt ht=>by
  obtain⟨_,_,nz,e⟩:=zna uj (y.sp j N) ht;rw[e];exact Uj _ nz
 refine sab λrr G=>?_
 refine⟨_,Z,_,Z,a,b,hd i,hd j,Z,SqT.of ha,SqT.of hb,by rw[L.len,tj.len],by rw[L.len];lia,λq1 H1 e1 I=>?_⟩;rw[hM]at I;dsimp only[zap];subst G;have Lo1:=O.same e1;refine sab λrr G=>?_
 refine⟨_,Z,_,Z,a,q1,hd i,M,Z,e1 _ _ ha,I,by rw[L.len,tM.len],by rw[L.len];lia,gi,λq2 H2 e2 c3=>?_⟩;have s2:=e1.trans e2;have a1:=O.same s2;obtain⟨c2,d6⟩:=a1.at_;have a2:c[i]? = some c[i]:=Yc il;obtain⟨b4,hki,a8,a5⟩:=a1.row.row i _ a2;have b6:atI (c.map V.ref) (i:Int)=some (.ref c[i]):=zbh (by rw[Ym,a2];rfl);generalize c[i]=di at a2 a8 b6;have lki:b4.length<=U.length:=zk3 (l:=subT M (hd i)) ui.len a5 λu hu=>by
  have u0:=y.sp i hi u hu;rw[zdz (u0.len.trans ui.len.symm)];exact Ui u hu
 refine⟨_,Z,x,zak,c2,_,_,Z,d6,T.cl_Lowering,T.na_Lowering_wholes,Z,_,Z,wl,_,_,_,Z,Z,SqL.of a1.row.at_,b6,F,fF,g.n,g.m,q2,di,subT M (hd i),b4,d i,Z,c3,ui,m4,a8,a5,zlt _ (by lia),λd1 H3 k1 nd1 e3 b1 c8 ld1=>?_⟩;dsimp only[zap];subst G;have s3:=s2.trans e3;refine sab λrr G=>?_
 refine⟨_,Z,_,Z,b,q1,hd j,M,Z,s3 _ _ hb,e3 _ _ (e2 _ _ I),by rw[tj.len,tM.len],by rw[tj.len];lia,gj,λq4 H4 e4 c1=>?_⟩;have s4:=s3.trans e4;have a3:=O.same s4;obtain⟨d0,c9⟩:=a3.at_;have S:c[j]? = some c[j]:=Yc jl;obtain⟨b9,hkj,b5,b8⟩:=a3.row.row j _ S;have R:atI (c.map V.ref) (j:Int)=some (.ref c[j]):=zbh (by rw[Ym,S];rfl);generalize c[j]=dj at S b5 R;have lkj:b9.length<=U.length:=zk3 (l:=subT M (hd j)) uj.len b8 λu hu=>by
  have u0:=y.sp j N u hu;rw[zdz (u0.len.trans uj.len.symm)];exact Uj u hu
 refine⟨_,Z,x,zak,d0,_,_,Z,c9,T.cl_Lowering,T.na_Lowering_wholes,Z,_,Z,wl,_,_,_,Z,Z,SqL.of a3.row.at_,R,F,fF,g.n,g.m,q4,dj,subT M (hd j),b9,d j,Z,c1,uj,m4,b5,b8,zlt _ (by lia),λd2 H5 k2 d4 e5 d7 d5 ld2=>?_⟩;dsimp only[zap];subst G;have s5:=s4.trans e5;have X:=e4.trans e5;have a9:=X _ _ b1;have c5:d1≠d2:=λz=>by
  have:=e4 _ _ b1;rw[z,d4]at this;cases this
 have a0:=O.same s5;obtain⟨a6,b3⟩:=a0.at_;obtain⟨c4,d9⟩:=a0.rg.at_;have b0:=a0.rg.fd;rw[show AtN zai zai g.n=AtR zai g.n from Yh (zct hR.np)]at b0;obtain⟨dF,hF⟩:=b0;have b7:=X _ _ (e3 _ _ (e2 _ _ I));refine⟨_,Z,x,a6,_,Z,b3,zxi _ (by decide +kernel) (by decide +kernel) (by decide +kernel),?_⟩;refine⟨_,Z,x,zak,a6,_,_,Z,b3,T.cl_Lowering,T.na_Lowering_ring,Z,r,zan,c4,_,_,Z,d9,T.cl_Ring,T.na_Ring_field,Z,g.pf,zai,dF,_,_,Z,hF.1,T.cl_Rests,T.na_Rests_prime,Z,_,Z,_,Z,_,Z,F,fF,g.n,cF,g.m,d1,d2,q1,M,k1,k2,sh (subT M (hd i)) (d i),sh (subT M (hd j)) (d j),Z,hR.np,hR.nb,c5,a9,d7,c8.same X,d5,b7,by rw[D];exact ni,by rw[B];exact nj,zlt _ (by lia),λd' H6 c7 aa bb cc nd' e6 c0 nc ea eb p6 l6=>?_⟩;rw[B]at ea;rw[D]at eb;have s6:=s5.trans e6;refine⟨F,fF,g,cF,x,r,le,pl,wl,d3,c,a4,d,hd,ks,U,d',c7,_,M,Z,O.same s6,c0,p6,λt ht=>?_,λH' bl e' hc=>k H' bl (s6.trans e') λz=>?_⟩
 ·have or:sh (subT M (hd i)) (d i) t≠0\/sh (subT M (hd j)) (d j) t≠0:=Classical.byContradiction λn=>by
   rw[not_or,Classical.not_not,Classical.not_not]at n;refine ht ?_;show aa*sh (subT M (hd i)) (d i) t-bb*sh (subT M (hd j)) (d j) t=0;rw[n.1,n.2];grind
  have tm:t≠M:=λz=>by
   refine ht ?_;show aa*sh (subT M (hd i)) (d i) t-bb*sh (subT M (hd j)) (d j) t=0;rw[z,D,B,<- ea,<- eb];grind
  rcases or with q | q
  ·exact⟨d8 t q,(a7.2 t q).resolve_left tm⟩
  ·exact⟨c6 t q,(b2.2 t q).resolve_left tm⟩
 ·refine GS (((hc z).smul cc).congr λt=>?_);rw[<- ea,<- eb];grind
def zxm(F:FunD K "__init__" "Lowering.__init__" zc8 .none f fd)(l:Kq T 9 "Leads" zay Ps [] (spLeInit zan zai zai zac zae zaj zac zay))(a0:Cq T 1 "whole_row" Nq [] (spWR zai)):Fq T 12 f fd Ps (spLoI zan zai zai zac zae zaj zac zak zay):=by
 refine okS ["self","ring","row"] F λsc=>?_
 walk_at "o";rename_i F fF x j r b g cF ds G gs;walk_at "h"
 refine⟨_,(zaa (zd8 (pv 0) (pv 1) rfl)
  (zaa (zd8 (pv 0) (zms l hr zbx .nil (pa_2 1 2)) rfl)
  (zah (zd8 (pv 0) (zb5 (N:=["f","ring"]) (cl:=[("ring",s.heap.objs.size+1)]) (mp:=[none,some 1]) (Blk.of rfl (by decide +kernel) rfl (by decide +kernel) zjb (zbn rfl zcy) (zii (fs:=["ring"]) rfl (by decide +kernel)) rfl (zb7 (zbj rfl (.inl rfl) rfl zcx))) rfl (zcq (K:=K) rfl (pv 2)) (λC0 s0 H0 a9=>zdr (i:=0) zjb rfl rfl) (λC0 s0 H0 a9=>zbs) (λC0 s0 H0 a9=>zau a0 hr ((zab (zba (K:=K) rfl (pv 1) rfl) (pa_1 0))))) rfl)))),?_⟩
 obtain⟨hx,a8,X,U,tb,hh,k⟩:=h;refine⟨_,Z,_,Z,x,zak,j,_,Z,hx,T.cl_Lowering,T.na_Lowering_ring,(by show 0<1000;decide),?_⟩;have k1:Kp [x] H (upd H x (.ins zak j [("ring",.ref r)])):=Kp.upd (by simp);have O:(upd H x (HO.ins zak j [("ring",.ref r)])) x=some (.ins zak j [("ring",.ref r)]):=zad
 try dsimp only
 have pu:putF (Str.ofString "ring") (V.ref r) []=([("ring",V.ref r)]:List (Lp×V)):=rfl;rw[pu];generalize upd H x (HO.ins zak j [("ring",.ref r)])=H1 at k1 O ⊢;have b0:=X.new k1 hx a8;have b6:=U.new k1 hx;refine sab λrr b8=>?_
 refine⟨_,Z,_,Z,λc dl p b1 nel=>?_⟩;have e2:Same H1 (upd (upd H1 dl (.own c)) c (.ins zay dl [])):=λb o e=>by
  rw[zaf (zag e p),zaf (zag e b1)];exact e
 refine⟨F,fF,c,dl,r,b,g,cF,ds,G,gs,Z,zad,b0.same e2,b6.same e2,tb,λH2 pl b2 npl k2 c0 LO=>⟨Z,?_⟩⟩;have s2:Same H1 H2:=λb o B=>k2 b o (e2 _ _ B) (by simp[zag B p])
 have a3:=s2 _ _ O;refine⟨_,Z,x,zak,j,_,Z,a3,T.cl_Lowering,T.na_Lowering_leads,(by show 1<1000;decide),?_⟩;have b5:putF (Str.ofString "leads") (V.ref c) [(Str.ofString "ring",V.ref r)]=([("ring",V.ref r),("leads",V.ref c)]:List (Lp×V)):=rfl
 try dsimp only
 rw[b5];have J:Kp [x] H2 (upd H2 x (.ins zak j [("ring",.ref r),("leads",.ref c)])):=Kp.upd (by simp);have a7:(upd H2 x (HO.ins zak j [("ring",.ref r),("leads",.ref c)])) x=some (.ins zak j [("ring",.ref r),("leads",.ref c)]):=zad;generalize upd H2 x (HO.ins zak j [("ring",.ref r),("leads",.ref c)])=H3 at J a7 ⊢;subst b8;have k3:Kp [x] H H3:=λb o B Y=>J _ _ (s2 _ _ (k1 _ _ B Y)) Y
 have a1:=X.new k3 hx a8;have C:=U.new k3 hx;have a5:c≠x:=λz=>by rw[z,O]at p;cases p
 have a6:=c0.new J a3 a5;obtain⟨b4,b9⟩:=a1.at_;have a4:=a1.fd;rw[show AtN zai zai g.n=AtR zai g.n from Yh (zct X.np)]at a4;refine zhw (H1:=H3) (zeb (K:=K) (SqL.of C.at_)) (by rw[Yd];exact U.b) (λR X=>⟨_,Z,b,Z,⟨_,SqL.of C.at_⟩,X⟩) (λσ=>∃v,σ = [v,some (.ref r)]) (λ_=>true) (λi v H'=>∃d,v=.ref d/\∃cr,G[i]? = some cr/\H' d=some (.dT cr)) (λi v Ha Hb e q=>?_) (λi v Ha a ys ys' hl q=>?_) ⟨none,Z⟩ (λi y σ' H4 hi hS e4 I Ny Nn b7 hNn=>?_) λD H5 ys W hD hp=>?_
 ·obtain⟨d,rfl,cr,S,L⟩:=q;exact⟨d,Z,cr,S,e _ _ L⟩
 ·obtain⟨d,rfl,cr,S,L⟩:=q;exact⟨d,Z,cr,S,(zaf (za7 L hl (by intro z;cases z))).trans L⟩
 ·obtain⟨v,rfl⟩:=hS;rw[Ym]at I
  cases hd:ds[i]? with
  | none=>rw[hd]at I;cases I
  | some d=>
  rw[hd]at I;injection I with I
  subst I;obtain⟨cr,hk,c1,_⟩:=C.row i d hd;unfold zap tYes
  try dsimp only
  rw[Yl rfl];obtain⟨dF,hF⟩:=a4;refine⟨_,Z,r,zan,b4,_,_,Z,e4 _ _ b9,T.cl_Ring,T.na_Ring_field,Z,_,Z,g.pf,d,g.n,cr,Z,⟨dF,e4 _ _ hF.1,hF.2⟩,X.np,e4 _ _ c1,hh cr (Yx hk),λd' b3=>?_⟩;exact b7 _ _ _ ⟨_,Z⟩ (Same.upd b3) ⟨d',Z,cr,hk,zad⟩ rfl
 ·rw[show ((List.range (ds.map V.ref).length).filter λ_=>true)=List.range (ds.map V.ref).length from Yu.mpr λ_ _=>rfl]at hp;obtain⟨a2,rfl,wl,hw⟩:=zo5 (H:=H5) hp;rw[List.length_range,Yd]at wl;have m:=W _ _ a7;refine⟨_,Z,x,zak,j,_,Z,m,T.cl_Lowering,T.na_Lowering_wholes,(by show 2<1000;decide),?_⟩;have k6:Kp [x] H5 (upd H5 x (.ins zak j [("ring",.ref r),("leads",.ref c),("wholes",.ref D)])):=Kp.upd (by simp);have M:∀b o,H5 b=some o->b≠x->(upd H5 x (.ins zak j [("ring",.ref r),("leads",.ref c),("wholes",.ref D)])) b=some o:=λb o q n=>k6 b o q (by simp[n])
  refine k _ c pl D b2 a2 (λb o B Y=>k6 _ _ (W _ _ (k3 _ _ B Y)) Y) zad ((a6.keep (.of W) (λo=>W _ o)).new k6 m a5) LO ⟨M _ _ hD (za7 hD m (by intro z;cases z)),by rw[wl,U.len],λi d hd=>?_,λi hi=>U.out i (by rw[<- wl];exact hi),by rw[wl];exact U.b⟩ wl;have il:i<a2.length:=zav hd;obtain⟨cr,S,L⟩:=hw i i d (by rw[List.getElem?_range (by rw[Yd];lia)]) hd;obtain⟨kvs',r1,r2,r3⟩:=C.row i _ (Yc (by lia));rw[S]at r1
  cases r1;exact⟨cr,S,M _ _ L (za7 L m (by intro z;cases z)),r3.keep λb xs B=>M _ _ (W _ _ B) (za7 (W _ _ B) m (by intro z;cases z))⟩
def zqn(F:FunD K "turns_of" "turns_of" zh2 .none f fd)(a1:Cq T 1 "meeting" Pa [] (spMeet K))(b4:OrdT T):Fq T 9 f fd Nu (spTurns zan zac zae zaj zac):=by
 refine okS ["ring","leads","turns","i","j"] F λsc=>?_
 walk_at "o";rename_i r d m pf po kd ws S p;walk_at "h"
 obtain⟨C,O⟩:=b4 kd ws h.2.2.2.2.1 h.2.2.2.2.2.1 h.2.2.2.2.2.2.1 h.2.2.2.2.2.2.2.1;refine⟨_,(zaa (zaq 2 sc.nd (za2))
  (zaa (zc3 (zbm PassesOwn.never rfl (zf4 (pv 1)) (zas (i:=3) sc.nd rfl (Or.inl rfl)) (zah (zc3 (zbm PassesOwn.never rfl (zf4 (pv 1)) (zas (i:=4) sc.nd rfl (Or.inl rfl)) (zah (zbi (zat zmx (pv 3) (pv 4) (nomark _)) (zah (zcg (uOne hr) (pv 2) (zci (pa_2 3 4)) (zci ((zab (pe_m O.rank (zba (K:=K) rfl (pv 0) rfl) hr zbx .nil ((zab (zau a1 hr ((zab (zbf (uOne hr) (pv 1) (pv 3) (λ_ _=>Z)) (zab (zbf (uOne hr) (pv 1) (pv 4) (λ_ _=>Z)) zar)))) zar))) (pa_2 3 4)))) rfl)) zax)))))))
  (zah (zao (pv 2))))),?_⟩
 obtain⟨⟨dx,c9⟩,hk,m1,m4,k0,k4,wn,wb,U,ld,a5,l100,k⟩:=h;intro t nt;obtain⟨H1,uq,e1,d6⟩:=nwH nt (.dT []);rw[uq];refine⟨_,Z,d,S,Z,.inl (e1 _ _ U),λo _=>?_⟩;have dt:d≠t:=zag U nt;have M:(upd H1 d (HO.frz o (HO.dK S))) d=some (.frz o (.dK S)):=zad;have k2:∀b ob,H1 b=some ob->b≠d->(upd H1 d (HO.frz o (HO.dK S))) b=some ob:=λb ob l be=>(zaf be).trans l
 have c0:=k2 _ _ d6 (Jb dt);generalize upd H1 d (HO.frz o (HO.dK S))=H2 at M k2 c0;have b9:=e1 _ _ U;have c8:∀b xs,H b=some (.tup xs)->H2 b=some (.tup xs):=λb xs l=>k2 _ _ (e1 _ _ l) (za7 (e1 _ _ l) b9 (by intro z;cases z))
 have e3:∀b C dx fs,H b=some (.ins C dx fs)->H2 b=some (.ins C dx fs):=λb C dx fs l=>k2 _ _ (e1 _ _ l) (za7 (e1 _ _ l) b9 (by intro z;cases z))
 have a7:(pl p).length=S.length:=Paired.length ld;refine zg0 (tb:=λD W H=>tFor (zky (tVar 1)) (zap 4) _ (Ends.thw _ D) W H) (λi W H'=>(∃v3 v4,W = [some (.ref r),some (.ref d),some (.ref t),v3,v4])/\(∀b ob,H2 b=some ob->b≠t->H' b=some ob)/\∃(I:Ka) (ps:List (Nat×Nat)),H' t=some (.dT I)/\TuK (rkk kd ws) p H' I ps/\ps.Nodup/\ps.length<=i*100/\∀a b,(a,b)∈ps↔a<b/\a∈(pl p).take i/\b∈pl p) ?_ (λi W H' h=>h.2.1 _ _ M dt) ?_ ?_
 ·exact⟨⟨none,none,Z⟩,λb ob l _=>l,[],[],c0,.nil,List.nodup_nil,Y2 _,λa b=>by simp⟩
 ·rintro i kx vx W H3 d8 ⟨⟨v3,v4,rfl⟩,k3,I,ps,a4,a9,a6,c5,Y⟩;have hx3:∀b ob,H b=some ob->b≠d->b≠t->H3 b=some ob:=λb ob l n1 n2=>k3 _ _ (k2 _ _ (e1 _ _ l) n1) n2
  obtain⟨a,ha,ek,ta⟩:=zqe ld d8;have ek:kx=.inl (a:Int):=ek;subst ek;have N:=k3 _ _ M dt;have b8:a ∉ (pl p).take i:=zfm (zx0 p) ha;have a2:a∈pl p:=Yx ha;have hi:i<(pl p).length:=by
   rcases Jg i (pl p).length with c | c
   ·exact c
   ·rw[Yy c]at ha;cases ha
  have lp:=ztf p;show tFor (zky (tVar 1)) (zap 4) _ _ _ _;refine⟨_,Z,d,S,Z,.inr ⟨o,N⟩,λo' c6=>?_⟩;obtain rfl:=c6 o N;rw[zvk N];refine zg0 (tb:=tIfS _ _ _) (λj W H'=>(∃v4,W = [some (.ref r),some (.ref d),some (.ref t),some (.int a),v4])/\(∀b ob,H2 b=some ob->b≠t->H' b=some ob)/\∃(I:Ka) (ps:List (Nat×Nat)),H' t=some (.dT I)/\TuK (rkk kd ws) p H' I ps/\ps.Nodup/\ps.length<=i*100+j/\∀x y,(x,y)∈ps↔(x<y/\x∈(pl p).take i/\y∈pl p)\/(x=a/\x<y/\y∈(pl p).take j)) ?_ (λi W H' h=>h.2.1 _ _ M dt) ?_ ?_
  ·exact⟨⟨_,Z⟩,k3,I,ps,a4,a9,a6,by lia,λx y=>by rw[Y];simp⟩
  ·rintro j d7 vy W H4 c4 ⟨⟨v4,rfl⟩,L,I,ps,a0,R,X,c2,J⟩;obtain⟨c,hc,ek,tc⟩:=zqe ld c4;have ek:d7=.inl (c:Int):=ek;subst ek;have a3:c∈pl p:=Yx hc;have c1:c ∉ (pl p).take j:=zfm (zx0 p) hc;have hj:j<(pl p).length:=by
    rcases Jg j (pl p).length with q | q
    ·exact q
    ·rw[Yy q]at hc;cases hc
   dsimp only[zap,kV];have b7:∀b xs,H b=some (.tup xs)->H4 b=some (.tup xs):=λb xs l=>L _ _ (c8 _ _ l) (zag l nt)
   have b6:∀b C dx fs,H b=some (.ins C dx fs)->H4 b=some (.ins C dx fs):=λb C dx fs l=>L _ _ (e3 _ _ _ _ l) (zag l nt)
   have b2:=L _ _ M dt;refine⟨_,Z,_,Z,_,_,Z,Z,_,Z,?_⟩;refine cD (λlt=>?_) (λge=>?_)
   ·have lt:a<c:=by lia
    have c3:=zcb b6 b7 hk;obtain⟨dO,fo,hO,nl⟩:=O.oC.ins c3;have b5:=ld.same b7;obtain⟨ra,e4,c7⟩:=b5.get a2;obtain⟨rc,d4,d2⟩:=b5.get a3;have lm:=(a5 a a2).1.len;have d0:=(a5 c a3).1.len;refine⟨_,Z,r,zan,dx,_,_,Z,b6 _ _ _ _ c9,T.cl_Ring,T.na_Ring_order,Z,po,dO,fo,Z,hO,nl "rank" (by decide +kernel),_,Z,_,Z,d,_,Z,.inl ⟨S,.inl (a:Int),.inr ⟨o,b2⟩,Z,e4.symm⟩,_,Z,_,Z,d,_,Z,.inl ⟨S,.inl (c:Int),.inr ⟨o,b2⟩,Z,d4.symm⟩,ra,rc,_,_,Z,SqT.of c7,SqT.of d2,by rw[lm,d0],by rw[lm];lia,λrm H5 e5 d9=>?_⟩;refine⟨po,rm,_,Z,O.oC.same e5 c3,d9,zri a5 m1 m4 a2 a3,λrr H6 e6 e2=>?_⟩;refine⟨_,Z,_,Z,(by show 3<=sizeLine;decide),λtt d5=>?_⟩;have e7:Same H6 (upd H6 tt (.tup [.ref rr,.int a,.int c])):=Same.upd d5;have b1:(upd H6 tt (HO.tup [.ref rr,.int a,.int c])) tt=some (.tup [.ref rr,.int a,.int c]):=zad
    try dsimp only
    generalize upd H6 tt (HO.tup [.ref rr,.int a,.int c])=H7 at e7 b1;refine⟨_,Z,_,Z,_,Z,(by show 2<=sizeLine;decide),λkp d3=>?_⟩;have e8:Same H7 (upd H7 kp (.tup [.int a,.int c])):=Same.upd d3;have b3:(upd H7 kp (HO.tup [.int a,.int c])) kp=some (.tup [.int a,.int c]):=zad
    try dsimp only
    generalize upd H7 kp (HO.tup [.int a,.int c])=H8 at e8 b3;have g8:Same H4 H8:=((e5.trans e6).trans e7).trans e8;have b0:=g8 _ _ a0;have ltv:ps.length=I.length:=Paired.length R;have zt:I.length<sizeLine:=zlt _ (by have:=Nat.mul_le_mul_right 100 (show i<=100 by lia);lia);refine⟨t,_,Z,DPut.t (k:=ky (pr2 a c)) b0 (by rw[zce];exact b3) zt,?_⟩;have d1:ky (pr2 a c) ∉ I.map (·.1):=λz=>by
     rw[zn8 R]at z;obtain⟨q,hq,e⟩:=Ji.mp z;obtain⟨z1,z2⟩:=zkh (zdo e);have hq:(a,c)∈ps:=by rw[<- z1,<- z2];exact hq
     rcases(J a c).mp hq with⟨_,z3,_⟩ | ⟨_,_,z3⟩
     ·exact b8 z3
     ·exact c1 z3
    rw[zp1 d1];have a8:∀b xs,H8 b=some (.tup xs)->(upd H8 t (.dT (I++[(ky (pr2 a c),.ref tt)]))) b=some (.tup xs):=λb xs l=>by rw[zaf (za7 l b0 (by intro z;cases z))];exact l
    refine⟨⟨_,Z⟩,λb ob l nb=>by rw[zaf nb];exact g8 _ _ (L _ _ l nb),_,ps++[(a,c)],zad,zp2 ⟨Z,tt,rr,_,_,_,Z,a8 _ _ (e8 _ _ b1),a8 _ _ (e8 _ _ (e7 _ _ e2)),Z⟩ (R.keep λb xs l=>a8 _ _ (g8 _ _ l)),?_,by rw[Y5];simp;lia,λx y=>?_⟩
    ·refine List.nodup_append.mpr ⟨X,by simp,λq hq q' e0 e=>?_⟩;rw[Yq.mp e0]at e;subst e;rcases(J a c).mp hq with⟨_,z3,_⟩ | ⟨_,_,z3⟩
     ·exact b8 z3
     ·exact c1 z3
    ·rw[Ju,Yq,J,zcv hc];constructor
     ·rintro((n | ⟨n,G,B⟩) | n)
      ·exact .inl n
      ·exact .inr ⟨n,G,.inl B⟩
      ·injection n with n G
       subst n G;exact .inr ⟨Z,lt,.inr rfl⟩
     ·rintro(n | ⟨n,G,B | B⟩)
      ·exact .inl (.inl n)
      ·exact .inl (.inr ⟨n,G,B⟩)
      ·subst n B;exact .inr rfl
   ·refine⟨⟨_,Z⟩,L,I,ps,a0,R,X,by lia,λx y=>?_⟩;rw[J,zcv hc];constructor
    ·rintro(n | ⟨n,G,B⟩)
     ·exact .inl n
     ·exact .inr ⟨n,G,.inl B⟩
    ·rintro(n | ⟨n,G,B | B⟩)
     ·exact .inl n
     ·exact .inr ⟨n,G,B⟩
     ·subst n B;exact absurd G (by lia)
  ·rintro W H4 ⟨⟨v4,rfl⟩,L,I,ps,a0,R,X,c2,J⟩;rw[<- a7,List.take_length]at J;refine .inl ⟨⟨_,_,rfl⟩,L,I,ps,a0,R,X,by rw[<- a7]at c2;rw[Nat.add_mul];lia,λx y=>?_⟩;rw[J,zcv ha];constructor
   ·rintro(⟨n,G,B⟩ | ⟨n,G,B⟩)
    ·exact⟨n,.inl G,B⟩
    ·exact⟨G,.inr n,B⟩
   ·rintro⟨n,G | G,B⟩
    ·exact .inl ⟨n,G,B⟩
    ·exact .inr ⟨G,n,B⟩
 ·rintro W H3 ⟨⟨v3,v4,rfl⟩,k3,I,ps,a4,a9,a6,c5,Y⟩;rw[<- a7,List.take_length]at Y;have N:=k3 _ _ M dt;refine .inr ⟨d,o,.dK S,N,(λo w z=>by have z:=U.symm.trans z;cases z),?_⟩;have sm:Same H (upd H3 d (.dK S)):=λb ob l=>by
   by_cases c:b=d
   ·subst c;rw[zad,<- U];exact l
   ·rw[zaf c];exact k3 _ _ (k2 _ _ (e1 _ _ l) c) (zag l nt)
  refine⟨_,Z,k t _ I ps nt sm (by rw[zaf (Jb dt)];exact a4) (a9.keep λb xs l=>by rw[zaf (za7 l N (by intro z;cases z))];exact l) ⟨a6,Y⟩⟩
def zua(F:FunD K "lets_by" "lets_by" zjl .none f fd)(C:Cq T 1 "meeting" Pa [] (spMeet K))(B:Cq T 1 "goes_into" Pa [] (spGoes K)):Fq T 2 f fd Ni (spLets K):=by
 refine okS ["leads","turns","pair","k","i","j","turn"] F λsc=>?_
 walk_at "o";rename_i l t p m kd ws d kv tv ps i j kk;walk_at "h"
 refine⟨_,(zaa (zaq 4 sc.nd (zbb (r:=rIxT K) zby (pv 2) (zal) (λ_ _=>Z)))
  (zaa (zaq 5 sc.nd (zbb (r:=rIxT K) zby (pv 2) (zal) (λ_ _=>Z)))
  (zaa (zbi (PW.pt (zj8 (zat zd1 (pv 3) (pv 4) (nomark _)) (zj8 (zat zd1 (pv 3) (pv 5) (nomark _)) (zh1 (ze4 (zdc (zau B hr ((zab (zbf (uOne hr) (pv 0) (pv 3) (λ_ _=>Z)) (zab (zau C hr ((zab (zbf (uOne hr) (pv 0) (pv 4) (λ_ _=>Z)) (zab (zbf (uOne hr) (pv 0) (pv 5) (λ_ _=>Z)) zar)))) zar)))))))))) (zah (zao (zcs))) zax)
  (zaa (zaq 6 sc.nd (zbf (uOne hr) (pv 1) (pv 2) (λ_ _=>Z)))
  (zah (zao (zjx (zcc (zob (u8 hr)) (zbf (uOne hr) (pv 1) (zci ((zab (zaw (zjy rfl) rfl T.b_min (by kernel_rfl) (pa_2 4 3)) (zab (zaw (zde rfl) rfl T.b_max (by kernel_rfl) (pa_2 4 3)) zar)))) (λ_ _=>Z)) (pv 6) (nomark _)) (zhr (zcc (zob (u8 hr)) (zbf (uOne hr) (pv 1) (zci ((zab (zaw (zjy rfl) rfl T.b_min (by kernel_rfl) (pa_2 5 3)) (zab (zaw (zde rfl) rfl T.b_max (by kernel_rfl) (pa_2 5 3)) zar)))) (λ_ _=>Z)) (pv 6) (nomark _)))))))))),?_⟩
 obtain⟨m4,hl,ht,hp,x,lt,hi,D,y,k⟩:=h;refine⟨_,Z,p,_,0,_,Z,Z,SqT.of hp,atI0,?_⟩;refine⟨_,Z,p,_,1,_,Z,Z,SqT.of hp,atI1,?_⟩;dsimp only[zap];have G:∀a,a∈pl d->∃U,DGet H l (.int a) (some (.ref U))/\H U=some (.tup ((hd d a).map V.int)):=λa X=>by
  obtain⟨U,h1,h2⟩:=x.ld.get X;exact⟨U,.inl ⟨kv,.inl (a:Int),hl,Z,h1.symm⟩,h2⟩
 have I:∀a,a∈pl d->(hd d a).length=m:=λa X=>(x.ht a X).1.len
 obtain⟨L,J⟩:=zyc (kd:=kd) (ws:=ws) (m:=m);refine⟨_,Z,_,Z,Z,_,Z,?_⟩;show if decide (V.int (kk:Int)=V.int (i:Int))=true then _ else _
 refine cEq (λc=>iteT ?_) (λc=>?_)
 ·have q:=k H (Same.refl _);unfold lets at q;rw[show decide (kk≠i)=false from Yw (by lia)]at q;exact q
 refine⟨_,Z,_,Z,Z,_,Z,?_⟩;show if decide (V.int (kk:Int)=V.int (j:Int))=true then _ else _
 refine cEq (λc2=>iteT ?_) (λc2=>?_)
 ·have q:=k H (Same.refl _);unfold lets at q;rw[show decide (kk≠j)=false from Yw (by lia),Bool.and_false]at q;exact q
 obtain⟨ri,gi,a6⟩:=G i hi;obtain⟨rj,gj,b4⟩:=G j D;obtain⟨rq,gq,b0⟩:=G kk y;refine⟨_,Z,_,Z,l,_,Z,gq,_,Z,_,Z,l,_,Z,gi,_,Z,_,Z,l,_,Z,gj,ri,rj,_,_,Z,SqT.of a6,SqT.of b4,by rw[I i hi,I j D],by rw[I i hi];lia,λrm H1 e1 b3=>?_⟩;have lm:(za3 (hd d i) (hd d j)).length=m:=by rw[zh6 (by rw[I i hi,I j D]),I i hi]
 refine⟨rq,rm,_,_,Z,SqT.of (e1 _ _ b0),SqT.of b3,by rw[I kk y,lm],by rw[I kk y];lia,λH2 e2=>⟨_,Z,?_⟩⟩;have R:=e1.trans e2;show if (!zb0 (hd d kk) (za3 (hd d i) (hd d j)))=true then _ else _
 refine cNB (λg=>?_) (λg=>?_)
 ·have q:=k H2 R;unfold lets at q;rw[g,Bool.and_false]at q;exact q
 have M:=x.keep λb xs n=>R _ _ n
 have O:=R _ _ ht;obtain⟨vt,Y,nt⟩:=M.turn lt hi D;refine⟨_,Z,_,Z,t,vt,Z,.inr ⟨tv,ky (pr2 i j),p,.inl O,Z,by rw[zce];exact R _ _ hp,Y.symm⟩,?_⟩;dsimp only[zap];obtain⟨v1,a0,n1⟩:=M.turn2 (i:=i) (k:=kk) (by lia) hi y;refine⟨_,Z,_,Z,_,Z,_,_,Z,_,Z,_,Z,_,_,Z,(by show 2<=sizeLine;decide),λp1 b2=>?_⟩;have a3:[V.int (if (kk:Int)<(i:Int) then(kk:Int) else(i:Int)),V.int (if (kk:Int) > (i:Int) then(kk:Int) else(i:Int))]=(ky (pr2 (min i kk) (max i kk))).map kV:=by
  rw[zce];show [V.int (mn i kk),V.int (mx i kk)]=_;rw[zs1,zs4];rfl
 rw[a3];obtain⟨H3,uq,N,a8⟩:=nwH b2 (.tup ((ky (pr2 (min i kk) (max i kk))).map kV));rw[uq];refine⟨t,v1,Z,.inr ⟨tv,_,p1,.inl (N _ _ O),Z,a8,a0.symm⟩,_,Z,_,_,(n1.keep λb xs n=>N _ _ n).v,(nt.keep λb xs n=>N _ _ n).v,?_,_,Z,?_⟩
 ·rw[zhu J x.ht hi D];rcases Nat.le_total i kk with z | z
  ·rw[Nat.min_eq_left z,Nat.max_eq_right z];exact zhu J x.ht hi y
  ·rw[Nat.min_eq_right z,Nat.max_eq_left z];exact zhu J x.ht y hi
 have kq:∀H',Same H H'->Q (.bl (HT.lexLt (tk (rkk kd ws) (hd d) (min i kk) (max i kk)) (tk (rkk kd ws) (hd d) i j)&&HT.lexLt (tk (rkk kd ws) (hd d) (min j kk) (max j kk)) (tk (rkk kd ws) (hd d) i j))) H':=λH' e=>by
  have q:=k H' e;unfold lets at q;rw[Yo (show kk≠i by lia),Yo (show kk≠j by lia),g]at q;simpa using q
 have W:=R.trans N;refine cB (λb1=>?_) (λb1=>?_);rotate_left
 ·have q:=kq H3 W;rw[b1,Bool.false_and]at q;exact q
 have a5:=x.keep λb xs n=>W _ _ n
 have a2:=W _ _ ht;obtain⟨v2,a1,n2⟩:=a5.turn2 (i:=j) (k:=kk) (by lia) D y;refine⟨_,Z,_,Z,_,Z,_,_,Z,_,Z,_,Z,_,_,Z,(by show 2<=sizeLine;decide),λp2 a7=>?_⟩;have a4:[V.int (if (kk:Int)<(j:Int) then(kk:Int) else(j:Int)),V.int (if (kk:Int) > (j:Int) then(kk:Int) else(j:Int))]=(ky (pr2 (min j kk) (max j kk))).map kV:=by
  rw[zce];show [V.int (mn j kk),V.int (mx j kk)]=_;rw[zs1,zs4];rfl
 rw[a4];obtain⟨H4,uq,S,a9⟩:=nwH a7 (.tup ((ky (pr2 (min j kk) (max j kk))).map kV));rw[uq];refine⟨t,v2,Z,.inr ⟨tv,_,p2,.inl (S _ _ a2),Z,a9,a1.symm⟩,_,Z,_,_,(n2.keep λb xs n=>S _ _ n).v,(nt.keep λb xs n=>(N.trans S) _ _ n).v,?_,?_⟩
 ·rw[zhu J x.ht hi D];rcases Nat.le_total j kk with z | z
  ·rw[Nat.min_eq_left z,Nat.max_eq_right z];exact zhu J x.ht D y
  ·rw[Nat.min_eq_right z,Nat.max_eq_left z];exact zhu J x.ht y D
 have q:=kq H4 (W.trans S);rw[b1,Bool.true_and]at q;exact q
def zu3(F:FunD K "is_due" "is_due" zl4 .none f fd)(d:Cq T 1 "stand_apart" Pa [] (spApart K))(C:Cq T 2 "lets_by" Ni [] (spLets K)):Fq T 3 f fd Nl (spDue1 K):=by
 refine okS ["leads","turns","pair","k"] F λsc=>?_
 walk_at "o";rename_i l t p m kd ws D c tv ps i j;walk_at "h"
 refine⟨_,(zaa (zbi (zdc (zau d hr ((zab (zbf (uOne hr) (pv 0) (zbb (r:=rIxT K) zby (pv 2) (zal) (λ_ _=>Z)) (λ_ _=>Z)) (zab (zbf (uOne hr) (pv 0) (zbb (r:=rIxT K) zby (pv 2) (zal) (λ_ _=>Z)) (λ_ _=>Z)) zar))))) (zah (zao (zcs))) zax)
  (zaa (zc3 (zbm PassesOwn.never rfl (zf4 (pv 0)) (zas (i:=3) sc.nd rfl (Or.inl rfl)) (zah (zbi (zdc (zau C hr ((zab (pv 0) (pa_3 1 2 3))))) (zah (zao (zcs))) zax))))
  (zah (zao (zcs))))),?_⟩
 obtain⟨m4,N,ht,W,I,lt,hi,hj,k⟩:=h;obtain⟨ri,gi,a3⟩:=I.ld.get hi;obtain⟨rj,gj,a0⟩:=I.ld.get hj;have lh:∀a,a∈pl D->(hd D a).length=m:=λa L=>(I.ht a L).1.len
 refine⟨_,Z,_,Z,p,_,0,_,Z,Z,SqT.of W,atI0,l,_,Z,.inl ⟨c,.inl (i:Int),.inl N,Z,gi.symm⟩,_,Z,_,Z,p,_,1,_,Z,Z,SqT.of W,atI1,l,_,Z,.inl ⟨c,.inl (j:Int),.inl N,Z,gj.symm⟩,ri,rj,_,_,Z,SqT.of a3,SqT.of a0,by rw[lh i hi,lh j hj],by rw[lh i hi];lia,λH1 B=>⟨_,Z,?_⟩⟩;refine cB (λap=>?_) (λap=>?_)
 ·have q:=k H1 B;unfold due at q;rw[ap]at q;exact q
 refine⟨_,Z,l,c,Z,.inl (B _ _ N),λo _=>?_⟩;have G:=B _ _ N;have n:(upd H1 l (HO.frz o (HO.dK c))) l=some (.frz o (.dK c)):=zad;have k2:∀b ob,H1 b=some ob->b≠l->(upd H1 l (HO.frz o (HO.dK c))) b=some ob:=λb ob J be=>(zaf be).trans J
 have X:∀H',Same (upd H1 l (HO.frz o (HO.dK c))) H'->Same H1 (upd H' l (.dK c)):=λH' e=>ze2 G e
 generalize upd H1 l (HO.frz o (HO.dK c))=H2 at n k2 X;have t2:∀b xs,H b=some (.tup xs)->H2 b=some (.tup xs):=λb xs J=>k2 _ _ (B _ _ J) (za7 (B _ _ J) G (by intro z;cases z))
 have a1:H2 t=some (.dT tv):=k2 _ _ (B _ _ ht) (za7 (B _ _ ht) G (by intro z;cases z));have a2:=I.keep t2;have nf:∀o w,H l≠some (.frz o w):=λo w z=>by rw[N]at z;cases z
 refine zg0 (tb:=tIfS _ _ _) (λq R H'=>Same H2 H'/\(∃v3,R = [some (.ref l),some (.ref t),some (.ref p),v3])/\∀x∈(pl D).take q,lets (rkk kd ws) (hd D) i j x=false) ?_ (λi R H' h=>h.1 _ _ n) ?_ ?_
 ·exact⟨Same.refl _,⟨none,Z⟩,λx M=>by simp at M⟩
 ·rintro q kx vx R H3 U ⟨y,⟨v3,rfl⟩,O⟩;obtain⟨a,L,Y,ta⟩:=zqe I.ld U;have Y:kx=.inl (a:Int):=Y;subst Y;dsimp only[zap,kV];refine⟨_,rfl,_,rfl,_,rfl,_,rfl,l,t,p,m,kd,ws,D,c,tv,ps,i,j,a,rfl,m4,.inr ⟨o,y _ _ n⟩,y _ _ a1,y _ _ (t2 _ _ W),a2.keep λb xs J=>y _ _ J,lt,hi,hj,Yx L,λH4 S=>⟨_,rfl,?_⟩⟩;refine cB (λb1=>?_) (λb1=>?_)
  ·refine .inr ⟨l,o,.dK c,S _ _ (y _ _ n),nf,?_⟩;have q:=k _ (B.trans (X _ (y.trans S)));unfold due at q;rw[List.any_eq_true.mpr ⟨a,Yx L,b1⟩,Bool.not_true,Bool.and_false]at q;exact q
  ·refine⟨y.trans S,⟨_,Z⟩,λx M=>?_⟩;rcases(zcv L).mp M with z | z
   ·exact O x z
   ·rw[z];exact b1
 ·rintro R H3 ⟨y,⟨v3,rfl⟩,O⟩;rw[<- Paired.length I.ld,List.take_length]at O;refine .inr ⟨l,o,.dK c,y _ _ n,nf,?_⟩;have na:((pl D).any λx=>lets (rkk kd ws) (hd D) i j x)=false:=by
   rw[List.any_eq_false];intro x M z;rw[O x M]at z;cases z
  have q:=k _ (B.trans (X _ y));unfold due at q;rw[ap,na]at q;exact q
def zv1(F:FunD K "leads_by_place" "leads_by_place" zdu .none f fd)(W:Cq T 8 "first_term" Nt [] (spFT zan zai zai zac zae zaj zac)):Fq T 9 f fd Pq (spLBP zan zai zai zac zae zaj zac):=by
 refine okS ["ring","row","leads","at","f"] F λsc=>?_
 walk_at "o";rename_i F fF r b g cF ds kvss gs;walk_at "h"
 refine⟨_,(zaa (zaq 2 sc.nd zq8)
  (zaa (zbm PassesOwn.never rfl (zni (K:=K) rfl rfl T.b_enumerate (pa_1 1)) (zc4 rfl (za1 (zas (i:=3) sc.nd rfl (Or.inl rfl)) (za1 (zas (i:=4) sc.nd rfl (Or.inl rfl)) zcd))) (zah (zbi (zat (zeg (K:=K) rfl hr.units) (pv 4) (za2) (nomark _)) (zah (zcg (uOne hr) (pv 2) (pv 3) (zau W hr (pa_2 0 4)) rfl)) zax)))
  (zah (zao (pv 2))))),?_⟩
 obtain⟨hR,n,tb,k⟩:=h;intro d nd;obtain⟨H1,Y,e1,a4⟩:=nwH nd (.dK []);rw[Y];refine⟨_,Z,b,Z,⟨_,SqL.of (n.same e1).at_⟩,?_⟩;refine zr9 (K:=K) (a:=b) (xs:=ds.map V.ref) (λi σ H'=>Same H H'/\(∃v3 v4,σ = [some (.ref r),some (.ref b),some (.ref d),v3,v4])/\∃(y:List (Key×V)) (m:List (Option Lc)),H' d=some (.dK y)/\LdK H' y m/\m.length=i/\∀j,j<i->LdO g.rk (m.getD j none) (gs j)) ?_ (λi σ H' h=>SqL.of (n.same h.1).at_) ?_ ?_
 ·exact⟨e1,⟨none,none,Z⟩,[],[],a4,.nil,Z,λj hj=>by lia⟩
 ·rintro i x σ H2 p N ⟨e2,⟨v3,v4,rfl⟩,y,m,O,ld,C,U⟩ np;rw[Ym]at N
  cases hdi:ds[i]? with
  | none=>rw[hdi]at N;cases N
  | some di=>
  rw[hdi]at N;injection N with N
  subst N;have hi:i<ds.length:=by
   rcases Jg i ds.length with c | c
   ·exact c
   ·rw[Yy c]at hdi;cases hdi
  obtain⟨H3,Y,e3,a2⟩:=nwH np (.tup [.int i,.ref di]);rw[Y];refine⟨p,_,Z,SqT.of a2,Z,_,_,Z,_,_,Z,Z,?_⟩;refine⟨_,Z,?_⟩;intro d2 a6;obtain⟨H4,Y,e4,a0⟩:=nwH a6 (.dT []);rw[Y];have g4:=(e2.trans e3).trans e4;obtain⟨cr,hki,D,L⟩:=(n.same g4).row i _ hdi;obtain⟨R,kds,fl,_⟩:=L.kds (K:=K);have X:cr.length=R.length:=Paired.length kds;refine⟨di,d2,cr,[],R,[],Z,Z,.inl D,.inl a0,kds,.nil,fl,(λ_ z=>by cases z),_,Z,?_⟩;have G:=e4 _ _ (e3 _ _ O);have B:LdK H4 y m:=ld.same λb xs n=>e4 _ _ (e3 _ _ n)
  have J:∀a∈pl m,a<m.length:=λa M=>List.mem_range.mp (List.mem_filter.mp M).1
  by_cases c:cr=[]
  ·have ed:R=[]:=Y9.mp (by rw[<- X,c];rfl);rw[ed];refine iteF ⟨g4,⟨_,_,Z⟩,y,m++[none],G,?_,by simp[C],λj hj=>?_⟩
   ·unfold LdK;rw[znl];simp only[Option.isSome_none,Bool.false_eq_true,if_false,List.append_nil];exact ppair B λa M b q=>by rw[zp7 (J a M)];exact q
   ·rw[zc1,C];split
    ·rename_i q;subst q;exact .inl ⟨Z,L.empty.mp c⟩
    ·exact U j (by lia)
  ·have a5:eqKD R []=false:=by
    unfold eqKD
    cases R with
    | nil=>exact absurd (Y9.mp X) c
    | cons x l=>rfl
   rw[a5];refine iteT ?_;have lk:=Paired.length B;have lp:=ztf m;have l100:=n.b;refine⟨_,Z,_,Z,F,fF,r,di,g,cF,cr,gs i,Z,hR.same g4,D,L,tb i,c,λH5 t v e5 ht hm=>?_⟩;have I:=e5 _ _ G;refine⟨_,Z,_,Z,d,_,Z,DPut.k (k:=.inl (i:Int)) I (zlt _ (by lia)),?_⟩;have a3:(Sum.inl (i:Int):Key) ∉ y.map (·.1):=λz=>by
    obtain⟨q,hq,e⟩:=Ji.mp z;obtain⟨j,hj⟩:=Jd.mp hq;obtain⟨a,M,a1,_⟩:=zqe B hj;have:=J a (Yx M);rw[a1]at e;injection e with e
    lia
   rw[zp1 a3];have S:∀b xs,H5 b=some (.tup xs)->(upd H5 d (.dK (y++[(.inl (i:Int),.ref v)]))) b=some (.tup xs):=λb xs n=>by rw[zaf (za7 n I (by intro z;cases z))];exact n
   refine⟨(g4.trans e5).updR nd,⟨_,_,Z⟩,_,m++[some t],zad,?_,by simp[C],λj hj=>?_⟩
   ·unfold LdK;rw[znl,C];simp only[Option.isSome_some,if_true];refine zp2 ⟨Z,?_⟩ (ppair (B.same λb xs n=>S _ _ (e5 _ _ n)) λa M b q=>by rw[zp7 (J a M)];exact q);refine⟨v,Z,?_⟩;unfold hd;rw[zc1,Yl C.symm];exact S _ _ ht
   ·rw[zc1,C];split
    ·rename_i q;subst q;exact .inr ⟨t,Z,hm⟩
    ·exact U j (by lia)
 ·rintro σ H2 ⟨e2,⟨v3,v4,rfl⟩,y,m,O,ld,C,U⟩;rw[Yd]at C U;exact⟨_,rfl,k d H2 y m nd e2 O ld C λi hi=>U i (by lia)⟩
def zrp(F:FunD K "pairs" "pairs" zfc .none f fd)(a1:Cq T 9 "leads_by_place" Pq [] (spLBP zan zai zai zac zae zaj zac))(L:Cq T 9 "turns_of" Nu [] (spTurns zan zac zae zaj zac))(U:Cq T 3 "is_due" Nl [] (spDue1 K)){cc n:Lg}(c4:zgb K f=some cc)(c9:W.CodeHd base cc n)(c6:base.BuiltinsAt mg n):Fq T 12 f fd Pq (spPairs zan zai zai zac zae zaj zac n):=by
 have sc:FnScope ["ring","row","leads","turns","ahead"] Pq (za5 zfc):=sM (by decide +kernel);refine F.okL c4 (k:=11) sc (by walk_at "v") (λA outer s H vs Q E hr=>?_);refine xg λg_ hg_=>?_;rintro⟨⟩;rename_i e_ h;rename_i F fF r b g cF ds b5 gs;walk_at "h"
 refine⟨_,(zaa (zaq 2 sc.nd (zau a1 hr (pa_2 0 1)))
  (zaa (zaq 3 sc.nd (zau L hr (pa_2 0 2)))
  (zaa (zaq 4 sc.nd (zrs (x:="pair") (y:="turns") (i:=3) (cc:=cc) (P:=n) (pv 3) hr T.b_sorted rfl c9 c6 rfl (by decide +kernel) rfl rfl rfl rfl (λ_ _ _ _ _ _=>Z) rfl rfl (λq c1 c2 s1 H1=>zbf (uOne (Room.deeper (k:=8) (Room.in1 (k:=9) (Room.in1 (k:=10) hr)) _)) (pv 1) (pv 0) (λ_ _=>Z))))
  (zah (zao (zb5 (N:=["pair","leads","turns"]) (cl:=[("turns",s.heap.objs.size+2),("leads",s.heap.objs.size+1)]) (mp:=[none,some 2,some 3]) (Blk.of rfl (by decide +kernel) rfl (by decide +kernel) zc7 (zbn rfl (zbn rfl zcy)) (zii (fs:=["turns","leads"]) rfl (by decide +kernel)) rfl (zb7 (zbj rfl (.inl rfl) rfl (zbj rfl (.inl rfl) rfl zcx)))) rfl (zcq (K:=K) rfl (pv 4)) (λC0 s0 H0 c3=>zdr (i:=0) zc7 rfl rfl) (λC0 s0 H0 c3=>zki (zdc (zau U hr (pa_3 1 2 0)))) (λC0 s0 H0 c3=>pv 0))))))),?_⟩
 obtain⟨I,d,tb,b1,c7,hT,k⟩:=h;obtain⟨dx,c5⟩:=I.at_;have m4:=I.m4;refine⟨_,Z,_,Z,F,fF,r,b,g,cF,ds,b5,gs,Z,I,d,tb,λld H1 kv l nld e1 a4 lk a6 ho=>?_⟩;have b9:=hs_q d.sp b1 ho;have l12:l.length<=7:=by rw[a6];exact c7
 dsimp only[zap];refine⟨_,Z,_,Z,r,ld,g.m,g.pf,g.po,g.kd,g.ws,kv,l,Z,⟨dx,e1 _ _ c5⟩,zcb (λb C dx fs d=>e1 _ _ d) (λb xs d=>e1 _ _ d) I.od,I.m1,I.m4,I.k0,I.k4,I.wn,I.wb,a4,lk,b9,by lia,λt Y tv ps nt e2 ht tu al=>?_⟩;dsimp only[zap];have g2:=e1.trans e2;have S:=g2 _ _ hT;refine⟨_,Z,t,tv,.ref t,Z,ht,Z,S,λc' as hc' ncP la hi=>?_⟩;have X:∀b o,Y b=some o->b≠n->∀u,(upd Y n u) b=some o:=λb o d nb u=>by rw[zaf nb];exact d
 generalize eu:HO.tbl _=u at hi ⊢;have X:∀b o,Y b=some o->b≠n->(upd Y n u) b=some o:=λb o d nb=>X b o d nb u
 have b0:(upd Y n u) n=some u:=zad;generalize upd Y n u=H3 at X b0 hi ⊢;have t3:∀b xs,Y b=some (.tup xs)->H3 b=some (.tup xs):=λb xs d=>X _ _ d (za7 d S (by intro z;cases z))
 have b6:H3 t=some (.dT tv):=X _ _ ht (za7 ht S (by intro z;cases z));have a8:H3 ld=some (.dK kv):=X _ _ (e2 _ _ a4) (za7 (e2 _ _ a4) S (by intro z;cases z));have b7:Tn g.m (rkk g.kd g.ws) l kv tv ps H3:=⟨lk.same λb xs d=>t3 _ _ (e2 _ _ d),b9,tu.keep t3,al⟩;have PA:Paired (fun(p:Nat×Nat) (a:Lg)=>H3 a=some (.tup ((pr2 p.1 p.2).map V.int))) ps as:=pcomp tu (zok (R:=λa (kv:List Key×V)=>H3 a=some (.tup (kv.1.map kV))) (f:=id) la hi) λp a kv h1 G=>by
  have G:H3 a=some (.tup (kv.1.map kV)):=G;rw[h1.1,zce]at G;exact G
 let val:Nat×Nat->V:=λp=>(valV tv (ky (pr2 p.1 p.2))).getD .non
 have a0:∀p∈ps,valV tv (ky (pr2 p.1 p.2))=some (val p)/\NstH H3 (tk (rkk g.kd g.ws) (hd l) p.1 p.2) (val p):=λp O=>by
  obtain⟨v,h1,G⟩:=zn4 (R:=λp v=>NstH H3 (tk (rkk g.kd g.ws) (hd l) p.1 p.2) v) b7.tu p O;have:val p=v:=by show (valV tv (ky (pr2 p.1 p.2))).getD .non=v;rw[h1];rfl
  rw[this];exact⟨h1,G⟩
 refine zme (vs:=ps.map val) (zx3 (f:=V.ref) (g:=val) PA λp O a ha Q' hq=>?_) ?_
 ·exact⟨_,Z,_,Z,t,val p,Z,.inr ⟨tv,ky (pr2 p.1 p.2),a,.inl b6,Z,by rw[zce];exact ha,(a0 p O).1.symm⟩,hq⟩
 rw[List.nil_append];have c0:ps.length<=((List.range 7).flatMap λi=>(List.range 7).map λj=>(i,j)).length:=zb1 al.1 λp O=>by
  obtain⟨_,h3,h4⟩:=(al.2 p.1 p.2).mp O;have q1:=List.mem_range.mp (List.mem_filter.mp h3).1;have q2:=List.mem_range.mp (List.mem_filter.mp h4).1;exact List.mem_flatMap.mpr ⟨p.1,List.mem_range.mpr (by lia),Ji.mpr ⟨p.2,List.mem_range.mpr (by lia),Z⟩⟩
 replace c0:ps.length<=49:=c0;refine⟨by rw[Yd,<- Paired.length PA];lia,λk hk=>?_,λout po D nD=>?_⟩
 ·obtain⟨p,O,rfl⟩:=Ji.mp hk;exact⟨_,(a0 p O).2.v⟩
 obtain⟨l',d0,rfl⟩:=zja _ po _ rfl;obtain⟨d1,pp,c8⟩:=TS.paired_perm d0.symm PA;obtain⟨H4,uq,e4,d2⟩:=nwH nD (.lst (l'.map V.ref));rw[uq];obtain⟨B,a5⟩:∃B:Lb,B=d1.map λq=>pr2 q.1 q.2:=⟨_,Z⟩
 have b2:Paired (Trm H4) B (l'.map V.ref):=by
  rw[a5];exact TS.paired_map (λp a h=>⟨a,Z,e4 _ _ h⟩) c8
 have a3:∀p,p∈B↔∃i j,i<j/\i∈pl l/\j∈pl l/\p=pr2 i j:=λp=>by
  rw[a5,Ji];constructor
  ·rintro⟨⟨i,j⟩,h1,rfl⟩;obtain⟨G,h3,h4⟩:=(al.2 i j).mp (pp.mem_iff.mp h1);exact⟨i,j,G,h3,h4,rfl⟩
  ·rintro⟨i,j,G,h3,h4,rfl⟩;exact⟨(i,j),pp.mem_iff.mpr ((al.2 i j).mpr ⟨G,h3,h4⟩),rfl⟩
 have b4:B.length<=1000:=by rw[a5,Yd,pp.length_eq];lia
 have q0:∀x∈B,T0 2 x:=λx hx=>by
  obtain⟨i,j,_,_,_,rfl⟩:=(a3 x).mp hx;exact T0.of rfl λy hy=>by
   have hy:y=(i:Int)\/y=(j:Int):=by simpa[pr2]using hy
   rcases hy with rfl | rfl <;> lia
 have M:TL 2 H4 D (l'.map V.ref) B:=⟨d2,b2,q0,by rw[<- Paired.length b2];exact b4⟩;dsimp only[zap];show tComp _ _ _ _ _ _ _ _;refine zh3 (J:=Itl K D) (H1:=H4) (zeb (SqL.of M.at_)) M.b ?_ (λσ=>∃v,σ = [v,some (.ref ld),some (.ref t)]) (λi=>dueP (rkk g.kd g.ws) (hd l) (pl l) (B.getD i [])) (λi v H'=>Trm H' (B.getD i []) v) (λi v H1 Y e h=>h.same e) (λi v H1 a y1 y2 ha h=>zux ha h) ⟨none,Z⟩ ?_ λD2 H5 us a9 e5 hL O=>?_
 ·exact λR I=>⟨_,Z,D,Z,⟨_,SqL.of M.at_⟩,I⟩
 ·rintro i v σ' H6 hi' ⟨z,rfl⟩ e6 hv Ny Nn hy hn;obtain⟨t1,rt,b8,rfl,a7,t0⟩:=(M.same e6).get hv;have eg:B.getD i []=t1:=by simp[List.getD,b8]
  obtain⟨a,c,G,h3,h4,rfl⟩:=(a3 t1).mp (Yx b8);rw[eg]at hy hn;unfold zap
  try dsimp only
  have g6:=e4.trans e6;refine⟨_,Z,_,Z,_,Z,ld,t,rt,g.m,g.kd,g.ws,l,kv,tv,ps,a,c,Z,m4,g6 _ _ a8,g6 _ _ b6,a7,b7.keep λb xs d=>g6 _ _ d,G,h3,h4,λH7 e7=>⟨_,Z,?_⟩⟩
  try dsimp only
  cases o:due (rkk g.kd g.ws) (hd l) (pl l) a c with
  | true=>
   rw[Yl rfl];exact⟨_,Z,hy _ _ _ ⟨_,Z⟩ e7 ⟨rt,Z,e7 _ _ a7⟩ (by rw[zkk];exact o)⟩
  | false=>exact iteF (hn _ _ ⟨_,rfl⟩ e7 (by rw[zkk];exact o))
 rw[<- M.len]at O;have a2:=pmapl (R:=Trm H5) (f:=λi=>B.getD i []) O;rw[zfw (q:=dueP (rkk g.kd g.ws) (hd l) (pl l))]at a2;have nH:H D2=none:=by
  cases q:H D2 with
  | none=>rfl
  | some o=>
   by_cases c:D2=n
   ·have:=e4 _ _ b0;rw[<- c,a9]at this;cases this
   ·have:=e4 _ _ (X _ _ (g2 _ _ q) c);rw[a9]at this;cases this
 refine k D2 H5 us B l nH (λb o d nb=>e5 _ _ (e4 _ _ (X _ _ (g2 _ _ d) nb))) a6 ho a3 ⟨hL,a2,λx hx=>q0 x (List.mem_filter.mp hx).1,?_⟩;rw[<- Paired.length a2];exact Yr (List.length_filter_le _ _) b4
def zxw(F:FunD K "is_base" "is_base" zjw .none f fd)(a1:Cq T 9 "leads_by_place" Pq [] (spLBP zan zai zai zac zae zaj zac))(a0:Kq T 12 "Lowering" zak Ps [] (spLoI zan zai zai zac zae zaj zac zak zay))(a2:Mq T 18 zak "crossed_to_nothing" Nf [] (spCtn zan zai zai zac zae zaj zac zak zay)){Pt:Lg}(b2:OrdT T)(S:Cq T 12 "pairs" Pq [] (spPairs zan zai zai zac zae zaj zac Pt)):Fq T 20 f fd Pq (spIsB zan zai zai zac zae zaj zac Pt):=by
 refine okS ["ring","row","leads","lowering","i","j"] F λsc=>?_
 walk_at "o";rename_i F fF r b g cF ds J;walk_at "h"
 refine⟨_,(zaa (zaq 2 sc.nd (zau a1 hr (pa_2 0 1)))
  (zaa (zaq 3 sc.nd (zms a0 hr zbx .nil (pa_2 0 1)))
  (zaa (zbm PassesOwn.never rfl (zcq (K:=K) rfl (zau S hr (pa_2 0 1))) (zc4 rfl (za1 (zas (i:=4) sc.nd rfl (Or.inl rfl)) (za1 (zas (i:=5) sc.nd rfl (Or.inl rfl)) zcd))) (zah (zbi (ze4 (zdc (pe_m a2 (pv 3) hr zbx .nil ((zab (pv 4) (zab (pv 5) (zab (zbf (uOne hr) (pv 2) (pv 4) (λ_ _=>Z)) (zab (zbf (uOne hr) (pv 2) (pv 5) (λ_ _=>Z)) zar)))))))) (zah (zao (zcs))) zax)))
  (zah (zao (zcs)))))),?_⟩
 obtain⟨X,Y,G,tm,hT,k⟩:=h;obtain⟨y,d0,hh⟩:=G.toRow (by decide);have L:Row g.n g.m H b ds y J:=by rw[Y];exact d0
 have om:OrdM g.rk 2:=by have:=X.om;rwa [Y]at this
 have tb:∀i,TmB (J i):=λi=>zt3 (by decide) (G.sp i) (G.bd i)
 have lb:ds.length<=7:=G.b;refine sab λrr N=>?_
 refine⟨_,Z,_,Z,F,fF,r,b,g,cF,ds,y,J,Z,X,L,tb,λD H1 kv hs nD e1 hD lk B ho=>?_⟩;dsimp only[zap];subst N;obtain⟨W,b1,a5⟩:=zuc om ho G.sp λi=>(G.bd i).up (by decide)
 refine sab λrr N=>?_
 refine⟨_,Z,_,Z,λlo U a3 c0 nelo=>?_⟩;have e2:Same H1 (upd (upd H1 U (.own lo)) lo (.ins zak U [])):=λb o e=>by
  rw[zaf (zag e a3),zaf (zag e c0)];exact e
 have b4:=X.same e1;have c7:g.po≠lo:=λz=>by
  obtain⟨C0,O0⟩:=b2 g.kd g.ws X.k0 X.k4 X.wn X.wb;obtain⟨dO,fo,hO,_⟩:=O0.oC.ins b4.od;rw[z,a3]at hO;cases hO
 refine⟨F,fF,lo,U,r,b,g,cF,ds,y,J,Z,zad,c7,b4.same e2,(L.same e1).same e2,tb,hh,λH2 le a6 wl a4 b8 k2 c6 d2 LO a7 lw=>⟨Z,?_⟩⟩;have s2:Same H1 H2:=λb o I=>k2 b o (e2 _ _ I) (by simp[zag I a3])
 dsimp only[zap];subst N;have g2:=e1.trans s2;have M:=g2 _ _ hT;have a9:∀i t,J i t≠0->∀j,t.getD j 0<=200:=λi t C j=>by
  have q:=zhs (G.sp i t C) (G.bd i t C);rcases Jg j t.length with c | c
  ·have:=q t[j] (Jv c);simp[List.getD,c];lia
  ·simp[List.getD,List.getElem?_eq_none c]
 refine sab λrr N=>?_
 refine⟨_,Z,_,Z,F,fF,r,b,g,cF,ds,y,J,Z,X.same g2,L.same g2,tb,a9,lb,M,λDP H3 us qs d nDP bt b0 c3 b3 tl=>?_⟩;have eh:d=hs:=LdO.all (by rw[b0,B]) c3 ho;subst eh;have kk:∀{b:Lg} {o:HO},H2 b=some o->(∀x,o≠.tbl x)->H3 b=some o:=λI ho=>zcn bt M I ho
 have a8:LdK H3 kv d:=lk.same λb xs I=>kk (s2 _ _ I) (λx z=>by cases z)
 have c2:H3 D=some (.dK kv):=kk (s2 _ _ hD) (λx z=>by cases z);have bB:=G.bd;have b5:∀{i:Nat} {l:Lc},(i,l)∈a4->i<ds.length/\Ld g.rk (J i) l:=λh=>LO.ld _ _ h
 have c8:Low zan zai zai zac zae zaj zac zak zay g H3 lo r le a6 wl a4 b8 y J (hd d) (pl d) (Ubox g.kd):=by
  refine⟨⟨U,kk c6 (λx z=>by cases z)⟩,(X.same g2).but bt M,d2.but bt M,by rw[lw];exact LO,a7.but bt M,by rw[Y];exact W,λi l hl=>?_,(zoo 70).filter _,λt C=>?_,Yr zye (by decide),λt C i l hl go u hu=>?_⟩
  ·obtain⟨h1,h2⟩:=b5 hl;have ik:=b1 i (by rw[B];exact h1) ⟨l,h2.1⟩;exact⟨ik,(W.ld i ik).one h2⟩
  ·rw[Y];have q:=ub_mem.mp C;refine⟨q.1,λx hx=>?_⟩;have:=zhs q.1 q.2 x hx;have z:(70:Int)<10^31:=by decide
   lia
  ·obtain⟨h1,h2⟩:=b5 hl;have q:=ub_mem.mp C;have l0:=G.sp i l h2.1;have u0:=G.sp i u hu;have s0:=T0.sub q.1 l0 go;refine ub_mem.mpr ⟨T0.add s0 u0,?_⟩;rw[zqf (by rw[s0.len,u0.len]),zg3 (by rw[q.1.len,l0.len])];have:=tm i l h2 u hu;lia
 have Um:∀i j,i∈pl d->j∈pl d->∀t,J i t≠0->addT (subT (za3 (hd d i) (hd d j)) (hd d i)) t∈Ubox g.kd/\addT (subT (za3 (hd d j) (hd d i)) (hd d i)) t∈Ubox g.kd:=λi j hi O t C=>by
  have ti:=W.t0 hi;have tj:=W.t0 O;have t0:=G.sp i t C;have w1:=bB i _ (W.ld i hi).1;have w2:=bB j _ (W.ld j O).1;have wm:=zks (kd:=g.kd) ti tj;have wt:=tm i _ (W.ld i hi) t C;have tM:=zd0 ti tj;have s0:=T0.sub tM ti (zgo ti tj).1;have r1:addT (subT (za3 (hd d i) (hd d j)) (hd d i)) t∈Ubox g.kd:=by
   refine ub_mem.mpr ⟨T0.add s0 t0,?_⟩;rw[zqf (by rw[s0.len,t0.len]),zg3 (by rw[tM.len,ti.len])];lia
  exact⟨r1,by rw[zkd];exact r1⟩
 have h3:ButT Pt H H3:=λb o I nb=>bt b o (g2 _ _ I) nb
 refine⟨DP,Z,⟨_,SqL.of tl.at_⟩,?_⟩;refine zf2 (K:=K) (a:=DP) (xs:=us) (λq σ H'=>Same H3 H'/\(∃v4 v5,σ = [some (.ref r),some (.ref b),some (.ref D),some (.ref lo),v4,v5])/\∀(j:Nat) i i',(qs.filter (dueP g.rk (hd d) (pl d)))[j]? = some (pr2 i i')->j<q->Good g.rk 2 (pl d) J (hd d) i i') ⟨Same.refl _,⟨none,none,Z⟩,λj p _ _ z=>by lia⟩ (λi σ H' _ h=>SqL.of (h.1 _ _ tl.at_)) ?_ ?_
 ·rintro q v σ H4 hv ⟨R,⟨v4,v5,rfl⟩,gd⟩;obtain⟨x,rx,hx,rfl,c9,_⟩:=tl.get hv;obtain⟨i,j,ij,hi,O,rfl⟩:=(b3 x).mp (List.mem_filter.mp (Yx hx)).1;refine⟨rx,_,rfl,SqT.of (R _ _ c9),rfl,_,_,rfl,_,_,rfl,rfl,?_⟩;obtain⟨ri,gi,c4⟩:=a8.get hi;obtain⟨rj,gj,d1⟩:=a8.get O;have b6:=c8.same R;obtain⟨c1,c5⟩:=b6.at_;have b9:=R _ _ c2;refine⟨_,rfl,lo,c1,_,rfl,c5,zxi _ (by decide +kernel) (by decide +kernel) (by decide +kernel),_,rfl,_,rfl,_,rfl,_,rfl,D,_,rfl,.inl ⟨kv,.inl (i:Int),.inl b9,rfl,gi.symm⟩,_,rfl,_,rfl,D,_,rfl,.inl ⟨kv,.inl (j:Int),.inl b9,rfl,gj.symm⟩,F,fF,g,cF,lo,r,le,a6,wl,a4,b8,y,J,hd d,pl d,Ubox g.kd,i,j,ri,rj,rfl,b6,hi,O,by rw[lw,<- B];exact a5 i hi,by rw[lw,<- B];exact a5 j O,R _ _ c4,R _ _ d1,λt C=>(Um i j hi O t C).1,λt C=>(Um j i O hi t C).2,λH5 bb e5 d3=>⟨_,rfl,?_⟩⟩;refine cNB (λc=>?_) (λc=>?_)
  ·exact k _ false (λb o I nb=>e5 _ _ (R _ _ (h3 _ _ I nb))) λz=>nomatch z
  ·refine⟨R.trans e5,⟨_,_,Z⟩,λjj i1 i2 h1 h2=>?_⟩;rcases Jg jj q with z | z
   ·exact gd jj i1 i2 h1 z
   ·have:jj=q:=by lia
    subst this;rw[hx]at h1;obtain⟨rfl,rfl⟩:=zkh (Jf h1);have:=d3 c;rwa [Y]at this
 ·rintro σ H4 ⟨R,⟨v4,v5,rfl⟩,gd⟩;subst N;refine k _ true (λb o I nb=>R _ _ (h3 _ _ I nb)) λ_=>⟨hd d,pl d,W,λi hi=>b1 i (by rw[B];exact hi),λi hi=>by rw[<- B];exact a5 i hi,zrw W λi hi j O ij du=>?_⟩
  have Y:pr2 i j∈qs.filter (dueP g.rk (hd d) (pl d)):=List.mem_filter.mpr ⟨(b3 _).mpr ⟨i,j,ij,hi,O,Z⟩,by rw[zkk];exact du⟩;obtain⟨jj,b7⟩:=Jd.mp Y;exact gd jj i j b7 (by rw[<- tl.len];exact zav b7)
def zw4(F:FunD K "times" "times" zoh .none f fd)(C:Cq T 4 "scaled" Nh [] (spScal zan zai zai zac zae zaj zac))(j:Cq T 4 "absorb" P8 [] (spAbs zan zai zai zac zae zaj zac)):Fq T 6 f fd Nc (spTms zan zai zai zac zae zaj zac):=by
 refine okS ["ring","f","g","total","term","number"] F λsc=>?_
 walk_at "o";rename_i F fF r L e2 g cF φ ψ N1 N2;walk_at "h"
 refine⟨_,(zaa (zaq 3 sc.nd (za2))
  (zaa (zc3 (zbm PassesOwn.never rfl (zcp (pv 1)) (zc4 rfl (za1 (zas (i:=4) sc.nd rfl (Or.inl rfl)) (za1 (zas (i:=5) sc.nd rfl (Or.inl rfl)) zcd))) (zah (zb4 (zau j hr ((zab (pv 0) (zab (pv 3) (zab (zau C hr ((zab (pv 0) (pa_3 5 4 2)))) zar)))))))))
  (zah (zao (pv 3))))),?_⟩
 obtain⟨hR,hm,a5,⟨fvs,h1,q1,b1⟩,⟨c,h2,q2,b2⟩,n1,n2,k⟩:=h;have l1:fvs.length<=3249:=Bd.len (N:=56) q1 (b1.up n1);have l2:c.length<=1296:=Bd.len (N:=35) q2 (b2.up n2);have p1:PF g.n g.m H fvs φ:=by rw[hm];exact q1
 have p2:PF g.n g.m H c ψ:=by rw[hm];exact q2
 have I:∀x:F,Lim g.n 8900 x:=λx=>Lim.of_ne (zct hR.np)
 intro d l;obtain⟨H2,uq,g2,a0⟩:=nwH l (.dT []);dsimp only[zap];rw[uq];have X:=g2 _ _ h1;have de:d≠L:=λz=>zag h1 l z.symm
 have a8:d≠e2:=λz=>zag h2 l z.symm
 refine⟨_,Z,L,fvs,Z,.inl X,λo=>?_⟩;have a7:=zb3 fvs;have sl:4300000<sizeLine:=by rw[sizeLine_eq];decide
 refine zb9 (λi σ H'=>i<=fvs.length/\(∃v4 v5,σ = [some (.ref r),some (.ref L),some (.ref e2),some (.ref d),v4,v5])/\FzD H' L o fvs/\Kp [d,L] H2 H'/\∃M,H' d=some (.dT M)/\PF g.n g.m H' M (mul ((tms fvs).take i) φ ψ)/\M.length<=i*c.length) ?_ (λi σ H' h=>h.2.2.1) ?_ ?_
 ·refine⟨Y2 _,⟨none,none,Z⟩,zad,Kp.upd (by simp),[],(zaf de).trans a0,PF.nil.congr λt=>?_,Y2 _⟩;rw[List.take_zero];rfl
 ·rintro i kx vx σ H3 p b hk ⟨hi,⟨v4,v5,rfl⟩,hz,q,M,B,pk,lk⟩ hp O;obtain⟨y,rfl,y0,hy,iy,ny⟩:=p1.ix hk;have b5:=zav hk;have tk:=zbv hy;have a6:Fix H H3:=(Fix.of g2).tr (q.fix λa ha ob J=>by
   rcases Yj.mp ha with rfl | ha
   ·rw[a0]at J;cases J;exact .inl ⟨_,Z⟩
   ·rw[Yq.mp ha,X]at J;cases J;exact .inl ⟨_,Z⟩)
  refine⟨p,_,Z,SqT.of zad,Z,_,_,Z,_,_,Z,Z,?_⟩;obtain⟨H4,uq,U,-⟩:=nwH hp (.tup [.ref b,vx]);rw[uq];have D:Fix H H4:=a6.tr (.of U);have W:=U _ _ O;rw[zce]at W;have R:H4 e2=some (.dT c):=U _ _ (q _ _ (g2 _ _ h2) (by simp[Ne.symm a8,Ne.symm a5]));refine⟨_,Z,_,Z,_,Z,_,Z,_,Z,_,Z,F,fF,r,vx,b,e2,g,cF,c,φ y,y,ψ,Z,hR.fix D,iy.fix D,I _,W,y0,R,p2.fix D,λt=>I _,by lia,λd5 H5 b3 S g5 a9 a4 lk5=>?_⟩;have G:=U.trans g5;have a1:=G _ _ B;have a3:d≠d5:=λz=>by subst z;rw[U _ _ B]at S;cases S
  have lkk:i*c.length<=3249*1296:=Nat.mul_le_mul (by lia) l2;refine⟨F,fF,r,d,d5,g,cF,M,b3,_,_,Z,(hR.fix D).same g5,a3,a1,a9,pk.same G,a4,by lia,λt=>I _,λt=>I _,λH6 b4 Y a2 b0 lk6=>?_⟩;refine⟨b5,⟨_,_,Z⟩,Y _ _ (G _ _ hz) (by simp[Ne.symm de]),(q.tr (.of G)).tr (λb o O nb=>Y b o O λz=>nb (by simp at z;simp[z])),b4,a2,?_,?_⟩
  ·rw[tk,zsz];exact b0
  ·rw[Nat.succ_mul];lia
 ·rintro σ H3 ⟨_,⟨v4,v5,rfl⟩,hz,q,M,B,pk,lk⟩;rw[<- a7,List.take_length,zo0 q1 (b1.up (by lia)),hm]at pk;refine .inr ⟨L,o,_,hz,λo' w' z=>?_,_,rfl,k d _ l (λb ob O=>?_) ⟨M,(zaf de).trans B,pk.fix (zcz (u:=.dT []) hz (.inr (.inr ⟨_,_,rfl⟩))),Bd.mulB q1.sp q2.sp b1 b2⟩⟩
  ·have z':H L=some (.frz o' w'):=z;rw[h1]at z';cases z'
  ·by_cases be:b=L
   ·subst be;rw[zad,<- h1];exact O
   ·rw[zaf be];exact q _ _ (g2 _ _ O) (by simp[be,zag O l])
def zya(F:FunD K "plus" "plus" zsx .none f fd)(a:Cq T 4 "absorb" P8 [] (spAbs zan zai zai zac zae zaj zac)):Fq T 5 f fd Nc (spPls zan zai zai zac zae zaj zac):=by
 refine okS ["ring","f","g","total"] F λsc=>?_
 walk_at "o";rename_i F R r L X g U φ ψ;walk_at "h"
 refine⟨_,(zaa (zaq 3 sc.nd (za9 zc0 rfl T.b_dict (by kernel_rfl) (pa_1 1)))
  (zaa (zb4 (zau a hr (pa_3 0 3 2)))
  (zah (zao (pv 3))))),?_⟩
 obtain⟨J,q,⟨fvs,S,y,b1⟩,⟨c,D,I,b2⟩,k⟩:=h;have l1:fvs.length<=10000:=Bd.len (N:=99) y b1;have l2:c.length<=10000:=Bd.len (N:=99) I b2;have p1:PF g.n g.m H fvs φ:=by rw[q];exact y
 have O:PF g.n g.m H c ψ:=by rw[q];exact I
 have j:∀x:F,Lim g.n 8900 x:=λx=>Lim.of_ne (zct J.np)
 refine⟨_,Z,L,fvs,Z,S,Bd.hds y b1,λd l=>?_⟩;obtain⟨H3,M,i,C⟩:=nwH l (.dT fvs);dsimp only[zap];rw[M];refine⟨_,Z,_,Z,_,Z,F,R,r,d,X,g,U,fvs,c,φ,ψ,Z,J.same i,λz=>zag D l z.symm,C,i _ _ D,p1.same i,O.same i,by rw[sizeLine_eq];lia,λt=>j _,λt=>j _,λW B kp p Y lk=>?_⟩;refine⟨_,Z,k d W l (λb o G=>kp _ _ (i _ _ G) λz=>zag G l (Yq.mp z)) ⟨B,p,by rw[<- q];exact Y,b1.add b2⟩⟩
def zyk(F:FunD K "summed" "summed" zlk .none f fd)(q:Cq T 6 "times" Nc [] (spTms zan zai zai zac zae zaj zac))(a:Cq T 4 "absorb" P8 [] (spAbs zan zai zai zac zae zaj zac)):Fq T 8 f fd P7 (spSmd zan zai zai zac zae zaj zac):=by
 refine okS ["ring","multiples","row","total","multiple","f"] F λsc=>?_
 walk_at "o";rename_i F fF r ml b g cF R S ms gs;walk_at "h"
 refine⟨_,(zaa (zaq 3 sc.nd (za2))
  (zaa (zbm PassesOwn.never rfl (zcu (K:=K) rfl false false rfl T.b_zip (pa_2 1 2)) (zc4 rfl (za1 (zas (i:=4) sc.nd rfl (Or.inl rfl)) (za1 (zas (i:=5) sc.nd rfl (Or.inl rfl)) zcd))) (zah (zb4 (zau a hr ((zab (pv 0) (zab (pv 3) (zab (zau q hr (pa_3 0 4 5)) zar))))))))
  (zah (zao (pv 3))))),?_⟩
 obtain⟨hR,X,Y,hB,ll,dj,k⟩:=h;have M:∀x:F,Lim g.n 8900 x:=λx=>Lim.of_ne (zct hR.np)
 intro d j;obtain⟨H2,uq,C,a9⟩:=nwH j (.dT []);dsimp only[zap];rw[uq];refine⟨_,rfl,_,rfl,ml,b,rfl,⟨_,SqL.of (C _ _ Y.at_)⟩,⟨_,SqL.of (C _ _ hB.at_)⟩,?_⟩;have a5:(R.map V.ref).length=S.length:=by rw[Yd,ll]
 have a2:(S.map V.ref).length=S.length:=Yd _;refine zvm (K:=K) (b1:=false) (b2:=false) (xs:=R.map V.ref) (ys:=S.map V.ref) (λi σ H'=>i<=S.length/\(∃v5 v6,σ = [some (.ref r),some (.ref ml),some (.ref b),some (.ref d),v5,v6])/\Kp [d] H2 H'/\PB g.n g.kd 91 H' d (smm i ms gs)) ?_ (λi σ H' h=>⟨SqL.of (h.2.2.1 _ _ (C _ _ Y.at_) (by simp[zag Y.at_ j])),SqL.of (h.2.2.1 _ _ (C _ _ hB.at_) (by simp[zag hB.at_ j]))⟩) ?_ ?_
 ·exact⟨Y2 _,⟨none,none,Z⟩,Kp.refl _ _,[],a9,PF.nil,Bd.zero⟩
 ·rintro i x y σ H3 p hx hy ⟨hi,⟨v5,v6,rfl⟩,l,kv,U,pk,bk⟩ hp;rw[Ym]at hx hy;obtain⟨dm,I,rfl⟩:=Option.map_eq_some_iff.mp hx;obtain⟨dg,m,rfl⟩:=Option.map_eq_some_iff.mp hy;refine⟨p,_,rfl,SqT.of zad,rfl,_,_,rfl,_,_,rfl,rfl,?_⟩;obtain⟨H4,uq,e4,-⟩:=nwH hp (.tup [.ref dm,.ref dg]);rw[uq];have up:Same H H4:=λc ob W=>e4 _ _ (l _ _ (C _ _ W) (by simp[zag W j]))
  have dd:=dj dm (Yx I) dg (Yx m);refine⟨_,Z,_,Z,_,Z,_,Z,_,Z,F,fF,r,dm,dg,g,cF,ms i,gs i,56,35,Z,hR.same up,X,dd,(Y.row i dm I).same up,(hB.row i dg m).same up,by decide,by decide,λd5 H5 D g5 a8=>?_⟩;obtain⟨L,a6,G,J⟩:=a8;have B:=e4.trans g5;have O:=B _ _ U;have a3:d≠d5:=λz=>by subst z;rw[e4 _ _ U]at D;cases D
  have lk:kv.length<=8464:=Bd.len (N:=91) pk bk;have lk5:L.length<=8464:=Bd.len (N:=91) G J;refine⟨F,fF,r,d,d5,g,cF,kv,L,smm i ms gs,mulB (ms i) (gs i),Z,(hR.same up).same g5,a3,O,a6,by rw[X];exact pk.same B,by rw[X];exact G,by rw[sizeLine_eq];lia,λt=>M _,λt=>M _,λH6 a1 a4 a0 a7 lk6=>?_⟩;refine⟨by have:=zav m;lia,⟨_,_,Z⟩,(l.tr (.of B)).tr a4,a1,a0,?_,?_⟩
  ·rw[zt1,<- X];exact a7
  ·rw[zt1];exact bk.add J
 ·rintro σ H3 ⟨_,⟨v5,v6,rfl⟩,l,pb⟩;rw[a5,a2,Nat.min_self]at pb;exact⟨_,rfl,k d _ j (λc ob W=>l _ _ (C _ _ W) (by simp[zag W j])) pb⟩
def zyn(F:FunD K "sum_up_to" "sum_up_to" zg1 .none f fd)(a:Cq T 8 "summed" P7 [] (spSmd zan zai zai zac zae zaj zac)):Fq T 10 f fd P1 (spSup zan zai zai zac zae zaj zac):=by
 refine okS ["ring","multiples","row","f"] F λsc=>?_
 walk_at "o";rename_i F U r x b e g W i B ms Y φ;walk_at "h"
 refine⟨_,(zah (zao (zjx (zcc zd1 (zaw (za8 (K:=K) rfl) rfl T.b_len PySem.boot_len (pa_1 1)) (zaw (za8 (K:=K) rfl) rfl T.b_len PySem.boot_len (pa_1 2)) (nomark _)) (zhr (zcc (zf0 (K:=K) rfl hr.units) (zau a hr (pa_3 0 1 2)) (pv 3) (nomark _)))))),?_⟩;obtain⟨hR,O,q,D,R,N,k⟩:=h;refine⟨_,Z,x,_,Z,.inl (SqL.of q.at_),_,Z,b,_,Z,.inl (SqL.of D.at_),Z,_,Z,?_⟩;rw[Yd,Yd];refine cEq (λc=>?_) (λc=>?_);rotate_left
 ·refine k H false (Same.refl _) ⟨(λz=>nomatch z),λz=>?_⟩;have:=z.1;lia
 have C:i.length=B.length:=by lia
 refine⟨_,Z,_,Z,_,Z,F,U,r,x,b,g,W,i,B,ms,Y,Z,hR,O,q,D,C,R,λd H1 nd j pb=>?_⟩;obtain⟨I,hd,y,bk⟩:=pb;obtain⟨M,J,G,bf⟩:=N;obtain⟨X,l,m,ka,S⟩:=y.kds (K:=K);obtain⟨db,p,n,L,rb⟩:=(G.same j).kds (K:=K);refine⟨_,Z,d,e,I,M,X,db,Z,Z,.inl hd,.inl (j _ _ J),l,p,m,n,?_⟩;rw[Bool.false_xor];refine k H1 _ j ((y.eq (G.same j) ka L S rb).trans ⟨λz=>⟨C,z⟩,λz=>z.2⟩)
def zyg(F:FunD K "all_sum_up" "all_sum_up" zfx .none f fd)(d:Cq T 10 "sum_up_to" P1 [] (spSup zan zai zai zac zae zaj zac)):Fq T 12 f fd Ng (spAls zan zai zai zac zae zaj zac):=by
 refine okS ["ring","lists","row","polys"] F λsc=>?_
 walk_at "o";rename_i F fF r ls b pl g cF I S M J j X ps;walk_at "h"
 refine⟨_,(zaa (zbi (zat zil (zaw (za8 (K:=K) rfl) rfl T.b_len PySem.boot_len (pa_1 1)) (zaw (za8 (K:=K) rfl) rfl T.b_len PySem.boot_len (pa_1 3)) (nomark _)) (zah (zao (zcs))) zax)
  (zah (zao (zaw (ze3 (K:=K) rfl rfl) rfl T.b_all (by kernel_rfl) ((zab (zb5 (N:=["multiples","f","ring","row"]) (cl:=[("row",s.heap.objs.size+2),("ring",s.heap.objs.size+1)]) (mp:=[none,none,some 0,some 2]) (Blk.of rfl (by decide +kernel) rfl (by decide +kernel) zch (zbn rfl (zbn rfl zcy)) (zii (fs:=["row","ring"]) rfl (by decide +kernel)) rfl (zb7 (zb7 (zbj rfl (.inl rfl) rfl (zbj rfl (.inl rfl) rfl zcx))))) rfl (zcu (K:=K) rfl false false rfl T.b_zip (pa_2 1 3)) (λC0 s0 H0 n=>znw (K:=K) rfl rfl zch rfl rfl rfl rfl) (λC0 s0 H0 n=>zbs) (λC0 s0 H0 n=>zau d hr ((zab (pv 2) (pa_3 0 3 1))))) zar)))))),?_⟩
 obtain⟨hR,hm,m,hB,dj,B,k⟩:=h;refine sab λrr W=>?_
 refine⟨_,Z,ls,_,Z,.inl (SqL.of m.at_),_,Z,pl,_,Z,.inl (SqL.of B.at_),Z,_,Z,?_⟩;rw[Yd,Yd];refine cNe (λc=>?_) (λc=>?_)
 ·exact k H false (Same.refl _) (λz=>nomatch z)
 have ll:I.length=M.length:=by lia
 show rr _ _ _;subst W;show tComp _ _ _ _ _ _ _ _;have hb:=m.b;refine zhw (H1:=H) (zmf (K:=K) (b1:=false) (b2:=false) (SqL.of m.at_) (SqL.of B.at_)) (by rw[Yd,Yd];lia) (λR G=>⟨_,Z,_,Z,ls,pl,Z,⟨_,SqL.of m.at_⟩,⟨_,SqL.of B.at_⟩,G⟩) (λσ=>∃v0 v1,σ = [v0,v1,some (.ref r),some (.ref b)]) (λ_=>true) (λi v H'=>∃l,v=.bl l/\(l=true->∀t,smm S.length (j i) X t=ps i t)) (λi v Ha Hb e q=>q) (λi v Ha a ys ys' hl q=>q) ⟨none,none,Z⟩ (λi y σ' H4 hi hS C hy Ny Nn U hNn=>?_) λD H5 ys e5 hD O=>?_
 ·obtain⟨v0,v1,rfl⟩:=hS;obtain⟨p,x,z,rfl,O,hx,hz⟩:=hy;rw[Ym]at hx hz;obtain⟨a,Y,rfl⟩:=Option.map_eq_some_iff.mp hx;obtain⟨e,he,rfl⟩:=Option.map_eq_some_iff.mp hz;refine⟨p,_,Z,SqT.of O,Z,_,_,Z,_,_,Z,Z,?_⟩;unfold tYes
  try dsimp only
  rw[Yl rfl];exact⟨_,Z,_,Z,_,Z,_,Z,F,fF,r,a,b,e,g,cF,J i,S,j i,X,ps i,Z,hR.same C,hm,(m.row i a Y).same C,hB.same C,dj i (zav Y),((B.row i e he).same C).up (by decide),λH6 l e6 hb=>U _ _ _ ⟨_,_,Z⟩ e6 ⟨l,Z,λz=>(hb.mp z).2⟩ rfl⟩
 ·obtain⟨bs,rfl,L⟩:=zp0 (R:=λi l=>l=true->∀t,smm S.length (j i) X t=ps i t) O;refine⟨D,bs,Z,SqL.of hD,k H5 _ e5 λz=>⟨ll,λi hi=>L z i ?_ rfl⟩⟩;rw[List.mem_filter,List.mem_range,Yd,Yd];exact⟨by lia,Z⟩
def zxg(F:FunD K "is_rest" "is_rest" zji .none f fd)(B:Kq T 9 "Leads" zay Ps [] (spLeInit zan zai zai zac zae zaj zac zay))(O:Mq T 2 zay "fitting" Pn [] (spFit zay)):Fq T 14 f fd No (spIsR zan zai zai zac zae zaj zac):=by
 refine okS ["ring","base","rest","leads"] F λsc=>?_
 walk_at "o";rename_i F fF r b e g cF ds gs ρ;walk_at "h"
 refine⟨_,(zaa (zaq 3 sc.nd (zms B hr zbx .nil (pa_2 0 1)))
  (zah (zao (zjx (zcc (zeg (K:=K) rfl hr.units) (pv 2) (za2) (nomark _)) (zhr (zaw (ze3 (K:=K) rfl rfl) rfl T.b_all (by kernel_rfl) ((zab (zv7 (zb5 (N:=["term","leads"]) (cl:=[("leads",s.heap.objs.size+1)]) (mp:=[none,some 3]) (Blk.of rfl (by decide +kernel) rfl (by decide +kernel) zew (zbn rfl zcy) (zii (fs:=["leads"]) rfl (by decide +kernel)) rfl (zb7 (zbj rfl (.inl rfl) rfl zcx))) rfl (zlc (pv 2)) (λC0 s0 H0 a3=>zdr (i:=0) zew rfl rfl) (λC0 s0 H0 a3=>zbs) (λC0 s0 H0 a3=>zcc zmk (pe_m O (pv 1) hr zbx .nil (pa_1 0)) (zg4) (nomark _)))) zar)))))))),?_⟩
 obtain⟨hR,hm,hB,⟨G,he,pe,be⟩,k⟩:=h;obtain⟨L,b5,hh⟩:=hB.toRow (by decide);have a0:Row g.n g.m H b ds L gs:=by rw[hm];exact b5
 have tb:∀i,TmB (gs i):=λi=>zt3 (by decide) (hB.sp i) (hB.bd i)
 refine sab λrr b7=>?_
 refine⟨_,Z,_,Z,λI dl X a5 nel=>?_⟩;have e2:Same H (upd (upd H dl (.own I)) I (.ins zay dl [])):=λb o e=>by
  rw[zaf (zag e X),zaf (zag e a5)];exact e
 refine⟨F,fF,I,dl,r,b,g,cF,ds,L,gs,Z,zad,hR.same e2,a0.same e2,tb,λH2 pl c npl k2 b8 LO=>⟨Z,?_⟩⟩;have s2:Same H H2:=λb o Y=>k2 b o (e2 _ _ Y) (by simp[zag Y X])
 dsimp only[zap];subst b7;refine⟨_,Z,λd2 b3=>?_⟩;obtain⟨H3,uq,e9,b6⟩:=nwH b3 (.dT []);rw[uq];clear uq;have s3:=s2.trans e9;have C:=s3 _ _ he;have a7:=pe.same s3;have M:LeA zay H3 I pl c:=b8.keep (.of e9) (λo=>e9 _ o);obtain⟨da,kds,fl,_⟩:=a7.kds (K:=K);have ld:G.length=da.length:=Paired.length kds;refine⟨e,d2,G,[],da,[],Z,Z,.inl C,.inl b6,kds,.nil,fl,(λ_ z=>by cases z),_,Z,?_⟩
 cases hkv:G with
 | nil=>
  have:da=[]:=Y9.mp (by rw[<- ld,hkv];rfl);subst this;refine iteF ?_;exact k _ false s3 λz=>nomatch z
 | cons e0 l0=>
 have b2:eqKD da []=false:=by
  unfold eqKD
  cases da with
  | nil=>rw[hkv]at ld;simp at ld
  | cons x l=>rfl
 have a4:G≠[]:=by rw[hkv];exact λz=>nomatch z
 clear hkv;rw[b2];refine iteT ?_;have lk:G.length<=10000:=Bd.len (N:=99) pe be;show tComp _ _ _ _ _ _ _ _;have th:∀o H',Same (upd H3 e (HO.frz o (.dT G))) H'->Same H3 (upd H' e (.dT G)):=λo H' e=>ze2 C e
 obtain⟨vsl,b1,_⟩:=M.pl;have U:∀o,LeA zay (upd H3 e (HO.frz o (.dT G))) I pl c:=λo=>M.keep (zbd C) (λu hu=>(zaf (za7 b1 C (by intro z;cases z))).trans hu)
 refine zmp (d:=e) (fvs:=G) C (λR hR=>⟨_,Z,hR⟩) (by rw[sizeLine_eq];lia) (λσ=>∃v,σ = [v,some (.ref I)]) (λ_=>true) (λi v H'=>∃bb,v=.bl bb/\(bb=true->∀t,(tms G)[i]? = some t->∀p∈c,zb0 p.2 t=false)) (λi v Ha Hb e q=>q) (λi v Ha a ys ys' hl q=>q) ⟨none,Z⟩ (λo i y σ' H5 hi hS e5 hy Ny Nn a2 hNn=>?_) λo D H6 ys De e6 a6 S=>?_
 ·obtain⟨v0,rfl⟩:=hS;obtain⟨b0,kk,v,hk,Y,rfl⟩:=hy;obtain⟨t,rfl,t0,ht,_⟩:=pe.ix hk;rw[zce]at Y;have J:=(U o).keep (.of e5) (λo=>e5 _ o);obtain⟨b4,a8⟩:=J.at_;have f2:∀p∈c,p.2.length=2:=λp S=>by rw[<- hm];exact(LO.t0 (i:=p.1) (l:=p.2) S).len
  unfold zap tYes
  try dsimp only
  rw[Yl rfl];refine⟨_,Z,I,b4,_,Z,a8,zwu _ (by decide +kernel),_,Z,I,b0,pl,2,c,t,Z,J,Y,t0.len,by decide,f2,LO.inc,λnf H7 e7=>?_,λj l ft H7 q a' e7 hq ha'=>?_⟩
  ·exact⟨Z,a2 _ _ _ ⟨_,Z⟩ e7 ⟨true,Z,λ_ t' W p S=>by rw[ht]at W;cases W;exact nf p S⟩ rfl⟩
  ·exact⟨Z,a2 _ _ _ ⟨_,Z⟩ e7 ⟨false,Z,λz=>nomatch z⟩ rfl⟩
 ·obtain⟨bs,rfl,a9⟩:=zp0 (R:=λi bb=>bb=true->∀t,(tms G)[i]? = some t->∀p∈c,zb0 p.2 t=false) S;refine .inr ⟨e,o,_,e6 _ _ zad,λo' w' z=>?_,?_⟩
  ·have z':H e=some (.frz o' w'):=z;rw[he]at z';cases z'
  refine⟨D,bs,Z,SqL.of ((zaf De).trans a6),k _ _ (s3.trans (th _ _ e6)) λz=>⟨?_,λt ht i h hi hl=>?_⟩⟩
  ·exact Classical.byContradiction λn=>a4 (pe.empty.mpr λt=>Classical.byContradiction λq=>n ⟨t,q⟩)
  ·obtain⟨l,a1⟩:=LO.all i h hi hl.1;rw[hl.one (LO.ld i l a1).2];obtain⟨j,hj⟩:=Jd.mp (pe.tmem.mpr ht);have jl:=zav hj;rw[zb3]at jl;exact a9 z j (by rw[List.mem_filter,List.mem_range];exact⟨jl,Z⟩) rfl t hj (i,l) a1
def zxd(F:FunD K "is_parted" "is_parted" zgg .none f fd)(i:Cq T 8 "summed" P7 [] (spSmd zan zai zai zac zae zaj zac))(a:Cq T 5 "plus" Nc [] (spPls zan zai zai zac zae zaj zac)):Fq T 10 f fd Pz (spPrt zan zai zai zac zae zaj zac):=by
 refine okS ["ring","base","quotients","rest","poly"] F λsc=>?_
 walk_at "o";rename_i F I r b D e p g M j J qs gs W φ;walk_at "h"
 refine⟨_,(zah (zao (zjx (zcc zd1 (zaw (za8 (K:=K) rfl) rfl T.b_len PySem.boot_len (pa_1 2)) (zaw (za8 (K:=K) rfl) rfl T.b_len PySem.boot_len (pa_1 1)) (nomark _)) (zhr (zcc (zf0 (K:=K) rfl hr.units) (zau a hr ((zab (pv 0) (zab (zau i hr (pa_3 0 2 1)) (pa_1 3))))) (pv 4) (nomark _)))))),?_⟩;obtain⟨R,B,C,L,dj,hE,hF,k⟩:=h;refine⟨_,Z,D,_,Z,.inl (SqL.of C.at_),_,Z,b,_,Z,.inl (SqL.of L.at_),Z,_,Z,?_⟩;rw[Yd,Yd];refine cEq (λc=>?_) (λc=>?_);rotate_left
 ·exact k H false (Same.refl _) (λz=>nomatch z)
 have ll:j.length=J.length:=by lia
 refine⟨_,Z,_,Z,_,Z,_,Z,F,I,r,D,b,g,M,j,J,qs,gs,Z,R,B,C,L,ll,dj,λd H1 nd l pb=>?_⟩;refine⟨_,Z,F,I,r,d,e,g,M,_,W,Z,R.same l,B,pb.up (by decide),hE.same l,λU H2 nd2 e2 m=>?_⟩;have N:=l.trans e2;obtain⟨S,hd,G,bk⟩:=m;obtain⟨fv,X,O,bf⟩:=hF.same N;obtain⟨da,n,q,ka,ra⟩:=G.kds (K:=K);obtain⟨db,y,x,Y,rb⟩:=O.kds (K:=K);refine⟨_,Z,U,p,S,fv,da,db,Z,Z,.inl hd,.inl X,n,y,q,x,?_⟩;rw[Bool.false_xor];exact k H2 _ N λz=>(G.eq O ka Y ra rb).mp z
def zyl(F:FunD K "holds_without" "holds_without" zd2 .none f fd)(m:Cq T 14 "is_rest" No [] (spIsR zan zai zai zac zae zaj zac))(a:Cq T 12 "all_sum_up" Ng [] (spAls zan zai zai zac zae zaj zac))(l:Cq T 10 "is_parted" Pz [] (spPrt zan zai zai zac zae zaj zac)){Pt:Lg}(B:Cq T 20 "is_base" Pq [] (spIsB zan zai zai zac zae zaj zac Pt)):Fq T 22 f fd Pl (spHwo zan zai zai zac zae zaj zac Pt):=by
 refine okS ["ring","told","poly","paper","base"] F λsc=>?_
 walk_at "o";rename_i F R r td p y g I b ls bk ql e a7 b2 x a3 M a8 a5 a9 a4 J qs ts ms ρ φ;walk_at "h"
 refine⟨_,(zaa (zaq 4 sc.nd (zbb (r:=rIxT K) zby (pv 3) (zal) (λ_ _=>Z)))
  (zaa (zbi (PW.pt (zj8 (zat (ztt (K:=K) rfl hr.units) (za2) (pv 4) rfl) (zh1 (ze4 (zdc (zau m hr ((zab (pv 0) (zab (pv 4) (zab (zbb (r:=rIxT K) zby (pv 3) (zal) (λ_ _=>Z)) zar)))))))))) (zah (zao (zcs))) zax)
  (zaa (zbi (PW.pt (zj8 (ze4 (zdc (zau a hr ((zab (pv 0) (zab (zbb (r:=rIxT K) zby (pv 3) (zal) (λ_ _=>Z)) (pa_2 1 4))))))) (zh1 (ze4 (zdc (zau a hr ((zab (pv 0) (zab (zbb (r:=rIxT K) zby (pv 3) (zal) (λ_ _=>Z)) (pa_2 4 1)))))))))) (zah (zao (zcs))) zax)
  (zah (zao (zjx (zau l hr ((zab (pv 0) (zab (pv 4) (zab (zbb (r:=rIxT K) zby (pv 3) (zal) (λ_ _=>Z)) (zab (zbb (r:=rIxT K) zby (pv 3) (zal) (λ_ _=>Z)) (pa_1 2))))))) (zhr (zau B hr (pa_2 0 4))))))))),?_⟩
 obtain⟨j,C,hT,hF,W,a2,hP,k⟩:=h;have O:∀{H'},Same H H'->ButT Pt H H':=λs b o h _=>s b o h
 refine sab λY d=>?_
 refine⟨_,Z,y,_,1,_,Z,Z,SqT.of W.at_,Z,?_⟩;dsimp only[zap];subst d;refine sab λY d=>?_
 intro d2 a1;obtain⟨H2,uq,s2,b1⟩:=nwH a1 (.dT []);rw[uq];have G:=W.same s2;refine⟨_,rfl,d2,b,x,rfl,rfl,SqL.of G.bs.at_,⟨[],[],.inl b1,.nil,(λ_ z=>nomatch z),(λ_ z=>nomatch z)⟩,G.bs.din,λbb=>⟨_,rfl,?_⟩⟩;refine cB (λc=>iteT ?_) (λc=>?_)
 ·exact k _ (O s2)
 refine⟨_,Z,_,Z,_,Z,y,_,5,_,Z,Z,SqT.of G.at_,Z,F,R,r,b,e,g,I,x,J,ρ,Z,j.same s2,C,G.bs,G.e,λH3 b3 e3 a6=>⟨_,Z,?_⟩⟩;have L:=s2.trans e3;have W3:=W.same L;refine cNB (λc=>?_) (λc3=>?_)
 ·exact k _ (O L)
 show Y _ _ _;subst d;refine sab λY d=>?_
 refine⟨_,Z,_,Z,y,_,2,_,Z,Z,SqT.of W3.at_,Z,_,Z,_,Z,F,R,r,ls,td,b,g,I,a7,M,x,a8,a9,ts,J,Z,j.same L,C,W3.ls,hT.same L,W.lj,W3.bs,λH4 b4 e4 _=>⟨_,Z,?_⟩⟩;have S:=L.trans e4;have W4:=W.same S;refine cNB (λc=>iteT ?_) (λc4=>?_)
 ·exact k _ (O S)
 refine⟨_,Z,_,Z,y,_,3,_,Z,Z,SqT.of W4.at_,Z,_,Z,_,Z,F,R,r,bk,b,td,g,I,b2,x,M,a5,a4,J,ts,Z,j.same S,C,W4.bk,W4.bs,W.bj,hT.same S,λH5 b5 e5 a0=>⟨_,Z,?_⟩⟩;have U:=S.trans e5;have N:=W.same U;refine cNB (λc=>?_) (λc5=>?_)
 ·exact k _ (O U)
 show Y _ _ _;subst d;refine⟨_,Z,_,Z,_,Z,y,_,4,_,Z,Z,SqT.of N.at_,Z,_,Z,y,_,5,_,Z,Z,SqT.of N.at_,Z,_,Z,F,R,r,b,ql,e,p,g,I,a3,x,qs,J,ρ,φ,Z,j.same U,C,N.q,N.bs,W.qj,N.e,hF.same U,λH6 b6 e6 b0=>⟨_,Z,?_⟩⟩;have D:=U.trans e6;have W6:=W.same D;refine cB (λc6=>?_) (λc6=>?_);rotate_left
 ·exact k _ (O D)
 refine⟨_,Z,_,Z,F,R,r,b,g,I,x,J,Z,j.same D,C,W6.bs,W.tm,D _ _ hP,λH7 b7 e7 b9=>?_⟩;have:b7=false:=by
  cases q:b7 with
  | false=>rfl
  | true=>
   exfalso;obtain⟨h,ks,BR,hk,b8,X⟩:=b9 q;obtain⟨nz,nr⟩:=a6 c3;refine never BR X (λP hh=>wfK j.k0 j.k4 (zu5 j.k4) P hh) hk a2 (a0 c5).2 (b0 c6) nz W.e.sp λt ht i hi=>nr t ht i _ (b8 i hi) (BR.ld i hi)
 rw[this];exact k _ (λb o h n=>e7 b o (D b o h) n)
def zww(F:FunD K "holds" "holds" zox .none f fd)(a:Cq T 10 "sum_up_to" P1 [] (spSup zan zai zai zac zae zaj zac)){J:Lg}(d:Cq T 22 "holds_without" Pl [] (spHwo zan zai zai zac zae zaj zac J)):Fq T 24 f fd Pl (spHld zan zai zai zac zae zaj zac J):=by
 refine okS ["ring","told","poly","paper"] F λsc=>?_
 walk_at "o";rename_i F M r L p m g N j U R φ;walk_at "h"
 refine⟨_,(zaa (zbi (zat zd1 (zbb (r:=rIxT K) zby (pv 3) (zal) (λ_ _=>Z)) (zpt) (nomark _)) (zah (zao (zau a hr ((zab (pv 0) (zab (zbb (r:=rIxT K) zby (pv 3) (zal) (λ_ _=>Z)) (pa_2 1 2))))))) zax)
  (zah (zao (zau d hr ((zab (pv 0) (pa_3 1 2 3))))))),?_⟩
 obtain⟨S,I,O,G,l,h⟩:=h;rcases h with⟨ml,B,i,hM,dj,ll,k⟩ | ⟨b,ls,bk,ql,e,n,z,ds,C,q,D,y,x,gs,qs,ρ,W,X,k⟩
 ·refine⟨_,Z,m,_,0,_,Z,Z,SqT.of i,Z,Z,_,Z,?_⟩;refine cEqV (λc=>?_) (λc=>absurd rfl c);refine⟨_,Z,_,Z,m,_,1,_,Z,Z,SqT.of i,Z,_,Z,_,Z,F,M,r,ml,L,p,g,N,B,j,R,U,φ,Z,S,I,hM,O,dj,G,λH1 bb Y hb=>?_⟩;rw[hb.mpr ⟨ll,λt=>(l t).symm⟩];exact k _ Y
 ·refine⟨_,Z,m,_,0,_,Z,Z,SqT.of W.at_,Z,Z,_,Z,?_⟩;refine cEqV (λc=>?_) (λc=>?_)
  ·exact absurd c (by decide +kernel)
  exact⟨_,Z,_,Z,_,Z,_,Z,F,M,r,L,p,m,g,N,b,ls,bk,ql,e,n,z,ds,C,j,q,D,y,x,gs,qs,U,R,ρ,φ,Z,S,I,O,G,W,l,X,k⟩
def zuw(F:FunD K "_law_cell" "_law_cell" zga .none f fd) : Fq T 1 f fd Nm (spCell K):=by
 refine okS ["_law_script","_law_k"] F λsc=>?_
 walk_at "o";rename_i a b k;walk_at "h"
 refine⟨_,(zaa (zbi (zat zmx (pv 1) (zaw (za8 (K:=K) rfl) rfl T.b_len PySem.boot_len (pa_1 0)) (nomark _)) (zah (zao (zbb (r:=rIxL K) za6 (pv 0) (pv 1) (λ_ _=>Z)))) zax)
  (zah (zao (zal)))),?_⟩
 obtain⟨d,j,q⟩:=h;have i:(b.map V.int).length=b.length:=Yd _;refine⟨_,Z,_,Z,a,_,Z,.inl d,?_⟩;walk_at "rd";refine cD (λc=>?_) (λc=>?_)
 ·rw[i]at c;exact⟨_,Z,_,Z,a,_,_,_,Z,Z,d,zur j c,q⟩
 ·rw[i]at c;have e:cellOf b k=0:=by unfold cellOf;rw[List.getD_eq_getElem?_getD,Yy (by lia)];rfl
  rw[e]at q;exact q
def zo4(F:FunD K "_law_is_prime" "_law_is_prime" zd4 .none f fd) : Fq T 1 f fd Nz spPrime:=by
 refine okS ["_law_number","_law_divisor"] F λsc=>?_
 walk_at "o";rename_i n;walk_at "h"
 refine⟨_,(zaa (zaq 1 sc.nd (zal))
  (zaa (zdb PassesOwn.never (zat zvq (zaz zdh (pv 1) (pv 1)) (pv 0) (nomark _)) (zaa (zbi (zat zd1 (zaz zkq (pv 0) (pv 1)) (zal) (nomark _)) (zah (zao (zcs))) zax)
  (zah (zaq 1 sc.nd (zaz zcr (pv 1) (zal))))))
  (zah (zao (zcc zy1 (pv 0) (zal) (nomark _)))))),?_⟩
 obtain⟨j,k⟩:=h;refine⟨λm i H'=>∃d:Int,m=(200-d).toNat/\i = [some (.int n),some (.int d)]/\H'=H/\2<=d/\d<=101/\NoDiv n d,⟨_,2,Z,Z,Z,start n⟩,?_⟩;rintro m i H' ⟨d,rfl,rfl,rfl,b,p,hd⟩;refine⟨_,Z,_,Z,_,_,Z,Z,.inl (zlv (n:=n) b p),?_⟩;walk_at "rd";refine cD (λq=>?_) (λq=>?_)
 ·refine⟨λc a=>c=[some (.int n),some (.int (d+1))]/\a=H'/\¬Int.fmod n d=0,?_,?_⟩
  ·rintro c a ⟨rfl,rfl,l⟩;exact⟨(200-(d+1)).toNat,less b q j,d+1,rfl,rfl,rfl,turn hd l b q j⟩
  ·refine⟨_,Z,_,Z,_,_,Z,Z,(by show d≠0;lia),?_⟩;walk_at "rd";refine cEq (λz=>?_) (λz=>?_)
   ·show Q (.bl false) H';rw[found b q z];exact k
   ·walk_at "rd"
    exact z
 ·walk_at "rd"
  show Q (.bl (decide (2<=n))) H';rw[outB hd b q];exact k
def zv8(F:FunD K "_law_prime" "_law_prime" zfq .none f fd)(a:Cq T 1 "_law_is_prime" Nz [] spPrime):Fq T 2 f fd P4 spLPr:=by
 refine okS ["_law_cell_here","_law_number"] F λsc=>?_
 walk_at "o";rename_i c;walk_at "h"
 refine⟨_,(zaa (zaq 1 sc.nd (zaz zcr (zal) (zaz zb6 (pv 0) (zal))))
  (zaa (zdb PassesOwn.never (ze4 (zdc (zau a hr (pa_1 1)))) (zah (zaq 1 sc.nd (zaz zcr (pv 1) (zal)))))
  (zah (zao (pv 1))))),?_⟩
 have k:=h;walk_at "rd";refine⟨λm j H'=>∃n:Int,m=(9973-n).toNat/\j = [some (.int c),some (.int n)]/\H'=H/\n<=9973,⟨_,_,Z,Z,Z,by lia⟩,?_⟩;rintro m j H' ⟨n,rfl,rfl,rfl,l⟩;refine⟨_,Z,n,Z,l,_,Z,?_⟩;refine cNB (λi=>?_) (λi=>?_)
 ·refine⟨λd b=>d=[some (.int c),some (.int (n+1))]/\b=H',?_,?_⟩
  ·rintro d b ⟨rfl,rfl⟩;have:=zu4 i;exact⟨_,(by lia:(9973-(n+1)).toNat<(9973-n).toNat),n+1,rfl,rfl,rfl,by lia⟩
  ·walk_at "rd"
   rfl
 ·exact⟨_,Z,k n i l⟩
def zv6(F:FunD K "_law_turned" "_law_turned" ze5 .none f fd) : Fq T 1 f fd Na spLTu:=by
 refine okS ["_law_number","_law_prime_here","_law_old","_law_new","_law_was","_law_now","_law_many","_law_rest","_law_behind"] F λsc=>?_
 walk_at "o";rename_i a n;walk_at "h"
 refine⟨_,(zaa (zaq 2 sc.nd (pv 1))
  (zaa (zaq 3 sc.nd (pv 0))
  (zaa (zaq 4 sc.nd (zal))
  (zaa (zaq 5 sc.nd (zal))
  (zaa (zdb PassesOwn.never (zat zil (pv 3) (zal) (nomark _)) (zaa (zaq 6 sc.nd (zaz zd7 (pv 2) (pv 3)))
  (zaa (zaq 7 sc.nd (zaz zhb (pv 2) (zaz zdh (pv 6) (pv 3))))
  (zaa (zaq 2 sc.nd (pv 3))
  (zaa (zaq 3 sc.nd (pv 7))
  (zaa (zaq 8 sc.nd (zaz zhb (pv 4) (zaz zdh (pv 6) (pv 5))))
  (zaa (zaq 4 sc.nd (pv 5))
  (zah (zaq 5 sc.nd (pv 8))))))))))
  (zah (zao (zaz zb6 (pv 4) (pv 1))))))))),?_⟩
 obtain⟨L,n9,C,G,k⟩:=h;walk_at "rd";dsimp only[zap];refine⟨λm r H'=>∃(o e w v s x y:Int) (l j i:Option V),m=e.toNat/\r = [some (.int a),some (.int n),some (.int o),some (.int e),some (.int x),some (.int y),l,j,i]/\H'=H/\LTn n a o e w v s/\x=s*w/\y = -s*v,⟨_,n,a,0,1,-1,0,1,none,none,none,Z,Z,Z,⟨.inr rfl,by decide,by decide,by lia,by lia,G,.inr ⟨Z,Z⟩,by lia,⟨1,by lia⟩,⟨0,by lia⟩⟩,by lia,by lia⟩,?_⟩;rintro m r H' ⟨o,e,w,v,s,x,y,l,j,i,rfl,rfl,rfl,I,B,p⟩;have e0:=I.e0;have eo:=I.eo;have on:o<=n:=by rcases I.on with z | z <;> lia
 have vb:=I.vb;have v0:=I.v0;refine⟨_,Z,Z,_,Z,cNe (λc=>?_) (λc=>?_)⟩
 ·have J:=I.next c;have e1:1<=e:=by lia
  have r1:=J.e0;have r2:=J.eo;refine⟨λb d=>∃m',m'<e.toNat/\∃(o e w v s x y:Int) (l j i:Option V),m'=e.toNat/\b=[some (.int a),some (.int n),some (.int o),some (.int e),some (.int x),some (.int y),l,j,i]/\d=H'/\LTn n a o e w v s/\x=s*w/\y = -s*v,λb d h=>h,?_⟩;have D : -(2^64)<y/\y<2^64:=by
   rcases I.s1 with z | z <;> rw[z]at p <;> lia
  refine⟨_,Z,_,Z,_,_,Z,Z,⟨by lia,by lia⟩,?_⟩;dsimp only[zap];refine⟨_,Z,_,Z,_,Z,_,_,Z,Z,.inr ⟨by lia,by lia⟩,_,_,Z,Z,?_⟩;dsimp only[zap];refine⟨_,Z,_,Z,_,Z,_,Z,_,Z,_,_,Z,Z,.inr D,_,_,Z,Z,?_⟩;refine⟨_,Z,_,Z,?_⟩;refine⟨_,by lia,_,_,_,_,_,_,_,_,_,_,Z,Z,Z,J,?_,?_⟩
  ·rw[p]
  ·rw[B,p];generalize o / e=q;grind
 ·subst c;refine⟨_,Z,_,Z,_,_,Z,Z,(by lia),?_⟩;have M:n≠0:=by lia
  refine k _ (Jm _ M) (Jc _ (by lia)) ?_;rw[B];exact I.done L C
def zyz(F:FunD K "_law_gain" "_law_gain" zf6 .none f fd) : Fq T 1 f fd Pb spGn:=by
 refine okS ["_law_f","_law_term","_law_number","_law_prime_here","_law_fresh"] F λsc=>?_
 walk_at "o";rename_i F fF n cF m d t l cr φ z;walk_at "h"
 refine⟨_,(zaa (zaq 4 sc.nd (zaz zb6 (zaz zcr (zl1 (uOne hr) (pv 0) (pv 1) (zal) ⟨Z,Z,Z,Z⟩) (pv 2)) (pv 3)))
  (zah (zbi (zat zil (pv 4) (zal) (nomark _)) (zah (zcg (uOne hr) (pv 0) (pv 1) (pv 4) rfl)) (zah (zbi (zlx (znj (uOne hr) (pv 1) (pv 0))) (zah (zb4 (zlb (uOne hr) (pv 0) (pa_1 1)))) zax))))),?_⟩
 obtain⟨C,hd,b,D,J,L,k⟩:=h;have i:=zct C;have n2:=C.1;obtain⟨N,M,I,bN,zN⟩:=b.iz i;have a:H t=some (.tup ((ky l).map kV)):=by rw[zce];exact D
 have G:=M.get l;refine sab λrr r=>?_
 refine⟨_,Z,d,Z,.inr ⟨_,.inl hd⟩,_,Z,_,DGet.t hd a,?_⟩;rw[G];refine⟨_,Z,_,_,Z,Z,_,Z,_,_,Z,Z,(by lia),?_⟩;dsimp only[zap];subst r;have p:=Jm (N l+z) i;have x:=Jc (N l+z) (show 0<n by lia);have j:ic (F:=F) ((N l+z)%n) = φ l+ic z:=by rw[zjk,zth,I]
 generalize (N l+z)%n=u at p x j ⊢;have y : φ l+ic z=0↔u=0:=by
  rw[<- j,Chr.z (n:=n) (F:=F) u,zr_n i,Int.emod_eq_of_lt p x]
 have kp:∀o,Kp [d] H (upd H d o):=λo=>Kp.upd (by simp)
 refine⟨_,Z,Z,_,Z,cNe (λc=>?_) (λc=>?_)⟩
 ·refine⟨_,Z,_,Z,_,Z,d,_,Z,DPut.t hd a L,?_⟩;refine k _ _ (kp _) zad ((b.put J ((zes i).mpr ⟨u,Z,p,x,j.symm⟩) λq=>c (y.mp q)).fix (zbd hd))
 ·have B:=y.mpr c;refine⟨_,Z,_,Z,d,_,Z,DGet.t hd a,_,Z,?_⟩
  cases hval:valV cr (ky l) with
  | none=>
   refine iteF ?_;refine k _ cr (Kp.refl _ _) hd (b.congr λu=>?_);by_cases e:u=l
   ·rw[e,zey,B,b.out l hval]
   ·rw[zck e]
  | some v=>
   refine iteT ⟨_,Z,.inr (.inr (.inl ⟨Z,.inr ⟨_,hd⟩⟩)),_,Z,d,t,cr,ky l,v,Z,Z,hd,a,hval,?_⟩;refine k _ _ (kp _) zad ?_;rw[B];exact(b.drop l).fix (zbd hd)
def zzf(F:FunD K "_law_plus_times" "_law_plus_times" zdg .none f fd)(O:Cq T 1 "_law_gain" Pb [] spGn):Fq T 4 f fd Pc spPT:=by
 refine okS ["_law_f","_law_number","_law_term","_law_g","_law_prime_here","_law_found","_law_other","_law_b"] F λsc=>?_
 walk_at "o";rename_i F fF n cF kd d t e l φ ψ z;walk_at "h"
 refine⟨_,(zaa (zaq 5 sc.nd (za9 zc0 rfl T.b_dict (by kernel_rfl) (pa_1 0)))
  (zaa (zc3 (zbm PassesOwn.never rfl (zcp (pv 3)) (zc4 rfl (za1 (zas (i:=6) sc.nd rfl (Or.inl rfl)) (za1 (zas (i:=7) sc.nd rfl (Or.inl rfl)) zcd))) (zah (zb4 (zau O hr ((zab (pv 5) (zab (za9 (zbl (K:=K) rfl) rfl T.b_tuple (by kernel_rfl) ((zab (zb5 (N:=["_law_x","_law_y"]) (Blk.plain (by decide +kernel) (by decide +kernel) rfl (by decide +kernel) zdv) rfl (zcu (K:=K) rfl true true rfl T.b_zip (pa_2 2 6)) (λC0 s0 H0 a0=>zen (K:=K) rfl rfl rfl zdv rfl rfl) (λC0 s0 H0 a0=>zbs) (λC0 s0 H0 a0=>zaz zcr (pv 0) (pv 1))) zar))) (zab (zaz zdh (pv 1) (pv 7)) (pa_1 4))))))))))
  (zah (zao (pv 5))))),?_⟩
 obtain⟨pn,n9,z0,z1,de,⟨fvs,hd,pf,bf⟩,⟨c,he,pg,bg⟩,ht,W,wl,k⟩:=h;have n0:=zct pn;refine sab λrr b4=>?_
 refine⟨_,Z,d,fvs,Z,hd,Bd.hds pf bf,λd' nd=>?_⟩;obtain⟨H1,uq,e1,M⟩:=nwH nd (.dT fvs);dsimp only[zap];rw[uq];subst b4;have G:=e1 _ _ he;have C:d'≠e:=λz=>zag he nd z.symm
 refine⟨_,Z,e,c,Z,.inl G,λo=>?_⟩;have a3:=pg.tnd;have a5:=zb3 c;obtain⟨N,iN,eN,bN,zN⟩:=pg.iz n0;have X:∀S:Lb,Bd kd 99 (λt=>φ t+ic z*sh l (cutP ψ S) t):=λS=>bf.add (Bd.smul _ (Bd.sh W (λu hu=>pg.sp u (zpj hu)) λu hu=>wl u (zpj hu)))
 refine zb9 (λi σ H'=>i<=c.length/\(∃v6 v7,σ = [some (.ref d),some (.int z),some (.ref t),some (.ref e),some (.int n),some (.ref d'),v6,v7])/\FzD H' e o c/\Kp [d',e] H1 H'/\∃r,H' d'=some (.dT r)/\PF n 2 H' r (λt=>φ t+ic z*sh l (cutP ψ ((tms c).take i)) t)) ?_ (λi σ H' h=>h.2.2.1) ?_ ?_
 ·refine⟨Y2 _,⟨none,none,Z⟩,zad,Kp.upd (by simp),fvs,(zaf C).trans M,((pf.same e1).fix (zbd G)).congr λt=>?_⟩;rw[List.take_zero,zex];unfold sh;split <;> grind
 ·rintro i kx vx σ H3 p b hk ⟨hi,⟨v6,v7,rfl⟩,hz,q,r,B,pk⟩ hp hb;obtain⟨y,rfl,y0,hy,rfl⟩:=iN.ix hk;have b5:=zav hk;have a6:=zm4 a3 hy;have tk:=zbv hy;have a4:Fix H H3:=(Fix.of e1).tr (q.fix λa I ob m=>by
   rcases Yj.mp I with rfl | I
   ·rw[M]at m;cases m;exact .inl ⟨_,Z⟩
   ·rw[Yq.mp I,G]at m;cases m;exact .inl ⟨_,Z⟩)
  refine⟨p,_,Z,SqT.of zad,Z,_,_,Z,_,_,Z,Z,?_⟩;obtain⟨H4,uq,e4,-⟩:=nwH hp (.tup [.ref b,.int (N y)]);rw[uq];have a9:Fix H H4:=a4.tr (.of e4);have L:=e4 _ _ hb;rw[zce]at L;have a8:=a9.tup _ _ ht;refine⟨_,Z,?_⟩;show tComp _ _ _ _ _ _ _ _;refine zco (K:=K) (b1:=true) (b2:=true) (a:=t) (b:=b) (xs:=l) (ys:=y) yes2 (λx y=>.int (x+y)) (by rfl) ?_ (SqT.of a8) (SqT.of L) (by rw[W.len];decide) ?_ ?_ λD Y e5 hL=>?_
  ·exact λR hR=>⟨_,Z,_,Z,hR⟩
  ·exact λ_ _ _ h=>h
  ·exact λi H' R _ h=>⟨_,Z,_,Z,_,_,Z,Z,h⟩
  rw[zgc (λx y=>x+y)]at hL;refine⟨D,_,Z,.inl ⟨SqL.of hL,λJ a7=>?_⟩⟩;have e6:Same Y (upd Y J (.tup ((addT l y).map V.int))):=Same.upd a7;have U:(upd Y J (HO.tup ((addT l y).map V.int))) J=some (.tup ((addT l y).map V.int)):=zad;show zff _ _ _ (upd Y J (HO.tup ((addT l y).map V.int))) _;generalize upd Y J (HO.tup ((addT l y).map V.int))=H6 at e6 U ⊢;have j:=e4.trans (e5.trans e6);have a1:=j _ _ B;have by':=bN y
  have lk:r.length<=10000:=Bd.len (N:=99) pk (X _);refine⟨_,Z,_,Z,_,_,Z,Z,.inl ⟨by lia,by lia⟩,_,Z,F,fF,n,cF,2,d',J,addT l y,r,_,z*N y,Z,pn,a1,pk.same j,U,T0.add W y0,by rw[sizeLine_eq];lia,λH7 b0 k7 b3 a2=>?_⟩;refine⟨b5,⟨_,_,Z⟩,k7 _ _ (j _ _ hz) (by simp[Ne.symm C]),(q.tr (.of j)).tr (k7.sub λa I=>by simp at I;simp[I]),b0,b3,a2.congr λu=>?_⟩;have c0:sh l (cutP ψ ((tms c).take i)) (addT l y)=0:=by rw[zmr (y0.len.trans W.len.symm),ziq a6]
  have:=congrFun (zoj (φ:=φ) (x:=ic z) (l:=l) (ψ:=ψ) (S:=(tms c).take i) (u:=y) (y0.len.trans W.len.symm)) u;rw[tk,<- this];unfold setP;split
  ·rw[c0,zec,<- eN];grind
  ·rfl
 ·rintro σ H3 ⟨_,⟨v6,v7,rfl⟩,hz,q,r,B,pk⟩;have bS:=X ((tms c).take c.length);rw[<- a5,List.take_length,ze1 λt ht=>pg.tmem.mpr ht]at pk bS;refine .inr ⟨e,o,_,hz,λo' w' z=>?_,_,rfl,k d' _ nd (λb ob hb=>?_) ⟨r,(zaf C).trans B,pk.fix (zcz (u:=.dT []) hz (.inr (.inr ⟨_,_,rfl⟩))),bS⟩⟩
  ·have z':H e=some (.frz o' w'):=z;rw[he]at z';cases z'
  ·by_cases be:b=e
   ·subst be;rw[zad,<- he];exact hb
   ·rw[zaf be];exact q _ _ (e1 _ _ hb) (by simp[be,zag hb nd])
def ztr(F:FunD K "_law_times" "_law_times" zfs .none f fd)(J:Cq T 4 "_law_plus_times" Pc [] spPT):Fq T 6 f fd Pi spLTms:=by
 refine okS ["_law_f","_law_g","_law_prime_here","_law_total","_law_term","_law_number"] F λsc=>?_
 walk_at "o";rename_i F fF n cF kd a e2 φ ψ N1 N2;walk_at "h"
 refine⟨_,(zaa (zaq 3 sc.nd (za2))
  (zaa (zc3 (zbm PassesOwn.never rfl (zcp (pv 0)) (zc4 rfl (za1 (zas (i:=4) sc.nd rfl (Or.inl rfl)) (za1 (zas (i:=5) sc.nd rfl (Or.inl rfl)) zcd))) (zah (zaq 3 sc.nd (zau J hr ((zab (pv 3) (zab (pv 5) (pa_3 4 1 2)))))))))
  (zah (zao (pv 3))))),?_⟩
 obtain⟨pn,n9,a1,⟨fvs,S,O,b1⟩,⟨D,h2,q2,b2⟩,n1,n2,n12,k⟩:=h;have n0:=zct pn;obtain⟨N,iN,eN,bN,zN⟩:=O.iz n0;refine sab λrr a8=>?_
 intro Y B;obtain⟨d,uq,G,a6⟩:=nwH B (.dT []);dsimp only[zap];rw[uq];subst a8;have C:=G _ _ S;refine⟨_,rfl,a,fvs,rfl,.inl C,λo=>?_⟩;have a3:=zb3 fvs;have fz:Fix d (upd d a (HO.frz o (.dT fvs))):=zbd C;have m:(upd d a (HO.frz o (.dT fvs))) a=some (.frz o (.dT fvs)):=zad;have k2:∀b ob,d b=some ob->b≠a->(upd d a (HO.frz o (.dT fvs))) b=some ob:=λb ob hb be=>(zaf be).trans hb
 have th:∀H',Same (upd d a (HO.frz o (.dT fvs))) H'->Same d (upd H' a (.dT fvs)):=λH' e=>ze2 C e
 have a0:Y≠a:=λz=>zag S B z.symm
 have P0:PB n kd 99 (upd d a (HO.frz o (.dT fvs))) Y (mul (F:=F) [] φ ψ):=⟨[],k2 _ _ a6 a0,PF.nil,Bd.zero⟩;generalize upd d a (HO.frz o (.dT fvs))=H3 at fz m k2 th P0 ⊢;have a2:H3 e2=some (.dT D):=k2 _ _ (G _ _ h2) (Jb a1);have a4:PF n 2 H3 D ψ:=(q2.same G).fix fz;have nf:∀{x:Lg},d x=none->x≠a->H x=none:=λhx _=>G.free hx
 refine zb9 (λi R H'=>i<=fvs.length/\Same H3 H'/\∃r W v5,R = [some (.ref a),some (.ref e2),some (.int n),some (.ref r),W,v5]/\H r=none/\PB n kd 99 H' r (mul ((tms fvs).take i) φ ψ)) ?_ (λi R H' h=>h.2.1 _ _ m) ?_ ?_
 ·exact⟨Y2 _,Same.refl _,Y,none,none,Z,B,P0⟩
 ·rintro i kx vx R H4 p b hk ⟨hi,U,r,W,v5,rfl,j,pb⟩ hp hb;obtain⟨y,rfl,y0,hy,rfl⟩:=iN.ix hk;have a9:=zav hk;have tk:=zbv hy;refine⟨p,_,rfl,SqT.of zad,rfl,_,_,rfl,_,_,rfl,rfl,?_⟩;obtain⟨H5,uq,e5,-⟩:=nwH hp (.tup [.ref b,.int (N y)]);rw[uq];have M:=U.trans e5;have I:=e5 _ _ hb;rw[zce]at I;have by':=bN y
  refine⟨_,Z,_,Z,_,Z,_,Z,_,Z,F,fF,n,cF,kd,r,b,e2,y,_,ψ,N y,Z,pn,n9,by lia,by lia,λz=>zag h2 j z.symm,pb.same e5,⟨D,M _ _ a2,a4.same M,b2.up (by lia)⟩,I,y0,λu hu=>?_,λd' H6 l e6 X=>?_⟩
  ·have ty:=O.tmem.mp (Yx hy);have:=b1 y ty;have:=b2 u hu;lia
  refine⟨a9,M.trans e6,d',_,_,Z,?_,?_⟩
  ·cases q:H d' with
   | none=>rfl
   | some ob=>
    exfalso;by_cases c:d'=a
    ·subst c;rw[M _ _ m]at l;cases l
    ·rw[M _ _ (k2 _ _ (G _ _ q) c)]at l;cases l
  ·rw[tk,zsz,eN];exact X
 ·rintro R H4 ⟨_,U,r,W,v5,rfl,j,kv,a5,pk,bk⟩;rw[<- a3,List.take_length,zo0 O (b1.up (by lia))]at pk;have a7:r≠a:=λz=>zag S j z.symm
  have L:=U _ _ m;refine .inr ⟨a,o,_,L,λo' w' z=>?_,_,Z,k r _ j (G.trans (th _ U)) ⟨kv,(zaf a7).trans a5,pk.fix (zcz (u:=.dT []) L (.inr (.inr ⟨_,_,Z⟩))),Bd.mulB O.sp q2.sp b1 b2⟩⟩;have z':H a=some (.frz o' w'):=z;rw[S]at z';cases z'
def zuq(F:FunD K "_law_plus" "_law_plus" zg6 .none f fd)(C:Cq T 1 "_law_gain" Pb [] spGn):Fq T 4 f fd Pd spLPls:=by
 refine okS ["_law_f","_law_number","_law_g","_law_prime_here","_law_found","_law_term","_law_b"] F λsc=>?_
 walk_at "o";rename_i F fF n cF kd d e φ ψ N0 z;walk_at "h"
 refine⟨_,(zaa (zaq 4 sc.nd (za9 zc0 rfl T.b_dict (by kernel_rfl) (pa_1 0)))
  (zaa (zc3 (zbm PassesOwn.never rfl (zcp (pv 2)) (zc4 rfl (za1 (zas (i:=5) sc.nd rfl (Or.inl rfl)) (za1 (zas (i:=6) sc.nd rfl (Or.inl rfl)) zcd))) (zah (zb4 (zau C hr ((zab (pv 4) (zab (pv 5) (zab (zaz zdh (pv 1) (pv 6)) (pa_1 3))))))))))
  (zah (zao (pv 4))))),?_⟩
 obtain⟨pn,n9,z0,z1,N9,⟨fvs,hd,pf,bf⟩,⟨c,O,Y,bg⟩,k⟩:=h;have n0:=zct pn;refine sab λrr a4=>?_
 refine⟨_,Z,d,fvs,Z,hd,Bd.hds pf (bf.up N9),λd' L=>?_⟩;obtain⟨H1,uq,e1,W⟩:=nwH L (.dT fvs);dsimp only[zap];rw[uq];subst a4;have J:=e1 _ _ O;have m:d'≠e:=λz=>zag O L z.symm
 refine⟨_,Z,e,c,Z,.inl J,λo=>?_⟩;have X:=Y.tnd;have a0:=zb3 c;obtain⟨N,iN,eN,bN,zN⟩:=Y.iz n0;have D:∀S:Lb,Bd kd N0 (λt=>φ t+ic z*cutP ψ S t):=λS=>bf.add (Bd.smul _ λu hu=>bg u (zpj hu))
 refine zb9 (λi M H'=>i<=c.length/\(∃v6 v7,M = [some (.ref d),some (.int z),some (.ref e),some (.int n),some (.ref d'),v6,v7])/\FzD H' e o c/\Kp [d',e] H1 H'/\∃j,H' d'=some (.dT j)/\PF n 2 H' j (λt=>φ t+ic z*cutP ψ ((tms c).take i) t)) ?_ (λi M H' h=>h.2.2.1) ?_ ?_
 ·refine⟨Y2 _,⟨none,none,Z⟩,zad,Kp.upd (by simp),fvs,(zaf m).trans W,((pf.same e1).fix (zbd J)).congr λt=>?_⟩;rw[List.take_zero,zex];grind
 ·rintro i kx vx M H3 p b hk ⟨hi,⟨v6,v7,rfl⟩,hz,q,j,l,G⟩ hp I;obtain⟨y,rfl,y0,hy,rfl⟩:=iN.ix hk;have a5:=zav hk;have a1:=zm4 X hy;have tk:=zbv hy;refine⟨p,_,rfl,SqT.of zad,rfl,_,_,rfl,_,_,rfl,rfl,?_⟩;obtain⟨H4,uq,r,-⟩:=nwH hp (.tup [.ref b,.int (N y)]);rw[uq];have B:=r _ _ I;rw[zce]at B;have R:=r _ _ l;have by':=bN y
  have lk:j.length<=10000:=Bd.len (N:=99) G ((D _).up N9);refine⟨_,Z,_,Z,_,Z,_,Z,_,_,Z,Z,.inl ⟨by lia,by lia⟩,_,Z,F,fF,n,cF,2,d',b,y,j,_,z*N y,Z,pn,R,G.same r,B,y0,by rw[sizeLine_eq];lia,λH7 a2 k7 a3 U=>?_⟩;refine⟨a5,⟨_,_,Z⟩,k7 _ _ (r _ _ hz) (by simp[Ne.symm m]),(q.tr (.of r)).tr (k7.sub λa ha=>by simp at ha;simp[ha]),a2,a3,U.congr λu=>?_⟩;have:=congrFun (zvn (φ:=φ) (x:=ic z) (ψ:=ψ) a1) u;rw[tk,<- this,zec,eN]
 ·rintro M H3 ⟨_,⟨v6,v7,rfl⟩,hz,q,j,l,G⟩;have bS:=D ((tms c).take c.length);rw[<- a0,List.take_length,ze1 λt ht=>Y.tmem.mpr ht]at G bS;refine .inr ⟨e,o,_,hz,λo' w' z=>?_,_,rfl,k d' _ L (λb ob I=>?_) ⟨j,(zaf m).trans l,G.fix (zcz (u:=.dT []) hz (.inr (.inr ⟨_,_,rfl⟩))),bS⟩⟩
  ·have z':H e=some (.frz o' w'):=z;rw[O]at z';cases z'
  ·by_cases be:b=e
   ·subst be;rw[zad,<- O];exact I
   ·rw[zaf be];exact q _ _ (e1 _ _ I) (by simp[be,zag I L])
def zxz(F:FunD K "_law_summed" "_law_summed" ze0 .none f fd)(c:Cq T 6 "_law_times" Pi [] spLTms)(j:Cq T 4 "_law_plus" Pd [] spLPls):Fq T 8 f fd Px spLSm:=by
 refine okS ["_law_multiples","_law_row","_law_prime_here","_law_total","_law_k"] F λsc=>?_
 walk_at "o";rename_i F W n Y kd S b d z ms gs G O;walk_at "h"
 refine⟨_,(zaa (zaq 3 sc.nd (za2))
  (zaa (zbm PassesOwn.never rfl (zbq rfl T.b_range ((zab (zaw (za8 (K:=K) rfl) rfl T.b_len PySem.boot_len (pa_1 1)) zar))) (zas (i:=4) sc.nd rfl (Or.inl rfl)) (zah (zaq 3 sc.nd (zau j hr ((zab (pv 3) (zab (zal) (zab (zau c hr ((zab (zbb (r:=rIxL K) za6 (pv 0) (pv 4) (λ_ _=>Z)) (zab (zbb (r:=rIxL K) za6 (pv 1) (pv 4) (λ_ _=>Z)) (pa_1 2))))) (pa_1 2)))))))))
  (zah (zao (pv 3))))),?_⟩
 obtain⟨pn,X,U,B,ll,dj,n1,n2,y,k⟩:=h;refine sab λrr R=>?_
 intro d0 q;obtain⟨H2,uq,g2,M⟩:=nwH q (.dT []);dsimp only[zap];rw[uq];subst R;have lb:=B.b;refine⟨_,rfl,b,_,rfl,.inl (SqL.of (g2 _ _ B.at_)),_,rfl,by rw[Yd];lia,by rw[Yd];lia,?_⟩;rw[Yd,Y1];refine zcl (λi L H'=>i<=z.length/\Same H H'/\∃p C,L = [some (.ref S),some (.ref b),some (.int n),some (.ref p),C]/\H p=none/\PB n kd (G+O) H' p (smm i ms gs)) ?_ ?_ ?_
 ·exact⟨Y2 _,g2,d0,none,Z,q,[],M,PF.nil,Bd.zero⟩
 ·rintro i L H3 hi ⟨_,m,p,C,rfl,x,pb⟩;rw[Int.zero_add];dsimp only[zap];have l:d[i]? = some (d[i]'(by lia)):=Yc _;have a:z[i]? = some z[i]:=Yc hi;generalize d[i]'(by lia)=dm at l;generalize z[i]=dg at a;have a1:atI (d.map V.ref) (i:Int)=some (.ref dm):=zbh (by rw[Ym,l];rfl);have a2:atI (z.map V.ref) (i:Int)=some (.ref dg):=zbh (by rw[Ym,a];rfl);refine⟨_,rfl,_,rfl,_,rfl,S,_,_,_,rfl,rfl,SqL.of (m _ _ U.at_),a1,_,rfl,_,rfl,b,_,_,_,rfl,rfl,SqL.of (m _ _ B.at_),a2,_,rfl,F,W,n,Y,kd,dm,dg,ms i,gs i,G,O,rfl,pn,X,dj dm (Yx l) dg (Yx a),(U.row i dm l).same m,(B.row i dg a).same m,n1,n2,y,λd5 H5 nd5 N I=>?_⟩;refine⟨_,rfl,F,W,n,Y,kd,p,d5,_,_,G+O,1,rfl,pn,X,by decide,by decide,y,pb.same N,I,λd6 H6 J e6 D=>?_⟩;have s6:=m.trans (N.trans e6);refine⟨hi,s6,d6,_,rfl,(m.trans N).free J,D.congr λt=>?_⟩;rw[zt1,zti];grind
 ·rintro L H3 ⟨_,m,p,C,rfl,x,pb⟩;exact⟨_,rfl,k p _ x m pb⟩
def zwi(F:FunD K "_law_less" "_law_less" zha .none f fd) : Fq T 1 f fd Ph spLss:=by
 refine okS ["_law_one","_law_other"] F λsc=>?_
 walk_at "o";rename_i a b xs ys;walk_at "h"
 refine⟨_,(zah (zao (za9 (zbl (K:=K) rfl) rfl T.b_tuple (by kernel_rfl) ((zab (zb5 (N:=["_law_a","_law_b"]) (Blk.plain (by decide +kernel) (by decide +kernel) rfl (by decide +kernel) zbc) rfl (zcu (K:=K) rfl true true rfl T.b_zip (pa_2 0 1)) (λl j m c=>zen (K:=K) rfl rfl rfl zbc rfl rfl) (λl j m c=>zbs) (λl j m c=>zaz zhb (pv 0) (pv 1))) zar))))),?_⟩;obtain⟨n,p,he,z,k⟩:=h;show tComp _ _ _ _ _ _ _ _;refine zco (K:=K) (b1:=true) (b2:=true) (a:=a) (b:=b) (xs:=xs) (ys:=ys) yes2 (λx y=>.int (x-y)) (by rfl) ?_ (SqT.of n) (SqT.of p) z ?_ ?_ λD H' e d=>?_
 ·exact λR q=>⟨_,Z,_,Z,q⟩
 ·exact λ_ _ _ h=>h
 ·exact λi H' R _ h=>⟨_,Z,_,Z,_,_,Z,Z,h⟩
 rw[zgc (λx y=>x-y)]at d;refine⟨D,_,Z,.inl ⟨SqL.of d,λr hr=>?_⟩⟩;exact k r _ (e.trans (Same.upd hr)) zad
def zus(F:FunD K "_law_into" "_law_into" zg8 .none f fd) : Fq T 1 f fd Ph spInt:=by
 refine okS ["_law_one","_law_other"] F λsc=>?_
 walk_at "o";rename_i a b xs ys;walk_at "h"
 refine⟨_,(zah (zao (zcc zd1 (zaw (za8 (K:=K) rfl) rfl T.b_len PySem.boot_len ((zab (zb5 (N:=["_law_a","_law_b"]) (Blk.plain (by decide +kernel) (by decide +kernel) rfl (by decide +kernel) zbc) rfl (zcu (K:=K) rfl true true rfl T.b_zip (pa_2 0 1)) (λj d l c=>zen (K:=K) rfl rfl rfl zbc rfl rfl) (λj d l c=>zki (zat zqg (pv 0) (pv 1) (nomark _))) (λj d l c=>zal)) zar))) (zal) (nomark _)))),?_⟩;obtain⟨m,p,r,G,k⟩:=h;show tComp _ _ _ _ _ _ _ _;refine zco (K:=K) (b1:=true) (b2:=true) (a:=a) (b:=b) (xs:=xs) (ys:=ys) (λx y=>decide (y<x)) (λ_ _=>.int 1) (by rfl) ?_ (SqT.of m) (SqT.of p) G ?_ ?_ λD H' e n=>?_
 ·exact λR C=>⟨_,Z,_,Z,C⟩
 ·exact λi H' R h=>⟨_,Z,_,Z,_,_,Z,Z,_,Z,h⟩
 ·exact λi H' R _ h=>h
 refine⟨D,_,Z,.inl (SqL.of n),Z,?_⟩;have q:=k H' e;have B:zb0 xs ys=decide (V.int ((zipV (λx y=>decide (y<x)) (λ_ _=>V.int 1) xs ys).length:Int)=V.int 0):=by
  unfold zb0 zipV;rw[Yd,<- r,Nat.min_self];have z:(V.int (((List.range xs.length).filter λi=>decide (ys.getD i 0<xs.getD i 0)).length:Int)=V.int 0)↔((List.range xs.length).filter λi=>decide (ys.getD i 0<xs.getD i 0))=[]:=by
   rw[<- Y9];constructor
   ·intro h;injection h with h;lia
   ·intro h;rw[h];rfl
  rw[decide_eq_decide.mpr z,Bool.eq_iff_iff,decide_eq_true_iff,List.filter_eq_nil_iff,List.all_eq_true];constructor
  ·intro h i hi;have:=Jj (h i hi);exact λz=>absurd (Jj z) (by lia)
  ·intro h i hi;have:=h i hi;exact Yo (Int.not_lt.mp λz=>this (Yo z))
 rw[B]at q;exact q
def zw0(F:FunD K "_law_lead" "_law_lead" zgf .none f fd) (M:OrdT T):Fq T 5 f fd Pm (spLd5 zac zae zaj zac):=by
 refine okS ["_law_order_here","_law_f","_law_lead_here","_law_term"] F λsc=>?_
 walk_at "o";rename_i F fF n cF p d kd ws φ;walk_at "h"
 obtain⟨CO',O⟩:=M kd ws h.1 h.2.1 h.2.2.1 h.2.2.2.1;refine⟨_,(zaa (zaq 2 sc.nd (zg4))
  (zaa (zc3 (zbm PassesOwn.never rfl (zlc (pv 1)) (zas (i:=3) sc.nd rfl (Or.inl rfl)) (zah (zbi (PW.pt (zj8 (zat zmk (pv 2) (zg4) (nomark _)) (zh1 (zat (zxf hr.units0) (pe_m O.rank (pv 0) hr zbx .nil (pa_1 3)) (pe_m O.rank (pv 0) hr zbx .nil (pa_1 2)) (nomark _))))) (zah (zaq 2 sc.nd (pv 3))) zax))))
  (zah (zao (pv 2))))),?_⟩
 obtain⟨k0,k3,wn,wb,hp,⟨cr,hd,B,bf⟩,kn,kr⟩:=h;obtain⟨dO,fs,hO,nl⟩:=O.oC.ins hp;have om:OrdM (rkk kd ws) 2:=zlm kd wn 2;refine⟨_,Z,d,cr,Z,.inl hd,λo=>?_⟩;have W:Fix H (upd H d (HO.frz o (.dT cr))):=zbd hd;have r:(upd H d (HO.frz o (.dT cr))) d=some (.frz o (.dT cr)):=zad;have th:∀H',Same (upd H d (HO.frz o (.dT cr))) H'->Same H (upd H' d (.dT cr)):=λH' e=>ze2 hd e
 generalize upd H d (HO.frz o (.dT cr))=H3 at W r th ⊢;have R:=W.ins hO;have J:AtK zac zae zaj zac kd ws H3 p:=zcb (λb C dx fs j=>W.ins j) (λb xs j=>W.tup _ _ j) hp;have a1:=zb3 cr;have tok:∀u∈tms cr,T0 2 u/\Pws u:=λu l=>by
  have nz:=B.tmem.mp l;have u0:=B.sp u nz;exact⟨u0,zn3 u0 (by decide) (by decide) (zt3 (by decide) B.sp bf u nz)⟩
 refine zmj (λi N H'=>i<=cr.length/\Same H3 H'/\((i=0/\∃x,N = [some (.ref p),some (.ref d),some .non,x])\/∃a h x,N = [some (.ref p),some (.ref d),some (.ref a),x]/\H' a=some (.tup (h.map V.int))/\h∈(tms cr).take i/\∀u∈(tms cr).take i,u=h\/lt (rkk kd ws) u h)) ?_ (λi N H' h=>h.2.1 _ _ r) ?_ ?_
 ·exact⟨Y2 _,Same.refl _,.inl ⟨Z,none,Z⟩⟩
 ·rintro i kx vx N H4 b hk ⟨hi,m,hs⟩ j;obtain⟨y,rfl,y0,hy,_,_⟩:=B.ix hk;have D:=zav hk;have tk:=zbv hy;have ym:=Yx hy;rw[zce]at j;rcases hs with⟨rfl,x,rfl⟩ | ⟨a,h,x,rfl,L,I,mx⟩
  ·dsimp only[zap];refine⟨_,Z,Z,_,Z,iteT (iteT ?_)⟩;refine⟨_,Z,D,m,.inr ⟨b,y,_,Z,j,?_,λu l=>?_⟩⟩
   ·rw[tk];simp
   ·rw[tk]at l;simp at l;exact .inl l
  ·dsimp only[zap];refine⟨_,Z,Z,_,Z,iteF ?_⟩;have S:=tok h (List.mem_of_mem_take I);refine⟨_,Z,p,dO,fs,Z,m _ _ R,nl _ (by decide +kernel),_,Z,p,b,y,Z,zcb (λb C dx fs j=>m _ _ j) (λb xs j=>m _ _ j) J,j,(tok y ym).2,λr1 H5 U a0=>?_⟩;have X:=m.trans U;refine⟨_,Z,p,dO,fs,Z,X _ _ R,nl _ (by decide +kernel),_,Z,p,a,h,Z,zcb (λb C dx fs j=>X _ _ j) (λb xs j=>X _ _ j) J,U _ _ L,S.2,λr2 H6 Y a2=>?_⟩;have s6:=X.trans Y;refine⟨r1,r2,_,_,Z,Z,SqT.of (Y _ _ a0),SqT.of a2,_,Z,?_⟩;refine cB (λc=>?_) (λc=>?_)
   ·refine⟨_,Z,D,s6,.inr ⟨b,y,_,Z,Y _ _ (U _ _ j),by rw[tk];simp,λu l=>?_⟩⟩;rw[tk,Ju,Yq]at l;rcases l with q | q
    ·rcases mx u q with z | z
     ·rw[z];exact .inr c
     ·exact .inr (lt_trans z c)
    ·exact .inl q
   ·refine⟨D,s6,.inr ⟨a,h,_,Z,Y _ _ (U _ _ L),by rw[tk];simp[I],λu l=>?_⟩⟩;rw[tk,Ju,Yq]at l;rcases l with q | q
    ·exact mx u q
    ·rw[q];exact(G.not_lt om (S.1.len) y0.len c).imp (λz=>z) λz=>z
 ·rintro N H4 ⟨_,m,hs⟩;refine .inr ⟨d,o,_,m _ _ r,λo' w' z=>?_,?_⟩
  ·have z':H d=some (.frz o' w'):=z;rw[hd]at z';cases z'
  rcases hs with⟨z,x,rfl⟩ | ⟨a,h,x,rfl,L,I,mx⟩
  ·have:cr=[]:=Y9.mp z;exact⟨_,Z,kn (B.empty.mp this) _ (th _ m)⟩
  ·rw[<- a1,List.take_length]at I mx;refine⟨_,Z,kr a h _ (th _ m) ?_ ⟨B.tmem.mp I,λt S=>mx t (B.tmem.mpr S)⟩⟩;exact(zaf (za7 L (m _ _ r) (by intro z;cases z))).trans L
def zwc(F:FunD K "_law_place" "_law_place" zft .none f fd)(l:Cq T 5 "_law_lead" Pm [] (spLd5 zac zae zaj zac))(d:Cq T 1 "_law_into" Ph [] spInt):Fq T 7 f fd Pu (spPl5 zac zae zaj zac):=by
 refine okS ["_law_order_here","_law_term","_law_base_here","_law_k"] F λsc=>?_
 walk_at "o";rename_i F fF n cF p t b kd ws x y gs;walk_at "h"
 refine⟨_,(zaa (zbm PassesOwn.never rfl (zbq rfl T.b_range ((zab (zaw (za8 (K:=K) rfl) rfl T.b_len PySem.boot_len (pa_1 2)) zar))) (zas (i:=3) sc.nd rfl (Or.inl rfl)) (zah (zbi (zdc (zau d hr ((zab (zau l hr ((zab (pv 0) (zab (zbb (r:=rIxL K) za6 (pv 2) (pv 3) (λ_ _=>Z)) zar)))) (pa_1 1))))) (zah (zao (pv 3))) zax)))
  (zah (zao (zg4)))),?_⟩
 obtain⟨W,k3,wn,wb,hp,U,S,q,nz,kn,X⟩:=h;have lb:=q.b;refine⟨_,Z,b,_,Z,.inl (SqL.of q.at_),_,Z,by rw[Yd];lia,by rw[Yd];lia,?_⟩;rw[Yd,Y1];refine zcl (λi B H'=>Same H H'/\∃G,B = [some (.ref p),some (.ref t),some (.ref b),G]) ?_ ?_ ?_
 ·exact⟨Same.refl _,none,Z⟩
 ·rintro i B H3 hi ⟨m,G,rfl⟩;rw[Int.zero_add];dsimp only[zap];have j:y[i]? = some y[i]:=Yc hi;generalize y[i]=dg at j;have O:atI (y.map V.ref) (i:Int)=some (.ref dg):=zbh (by rw[Ym,j];rfl);refine⟨_,rfl,_,rfl,_,rfl,b,_,_,_,rfl,rfl,SqL.of (m _ _ q.at_),O,F,fF,n,cF,p,dg,kd,ws,gs i,rfl,W,k3,wn,wb,zcb (λb C dx fs D=>m _ _ D) (λb xs D=>m _ _ D) hp,((q.row i dg j).same m).up (by decide),λz=>?_,λa h H4 R N M=>?_⟩
  ·obtain⟨u,hu⟩:=nz i hi;exact absurd (z u) hu
  have J:=m.trans R;have I:=q.sp i h M.1;refine⟨_,Z,a,t,h,x,Z,N,J _ _ U,by rw[I.len,S.len],by rw[I.len];decide,λY e5=>⟨_,Z,?_⟩⟩;have L:=J.trans e5;refine cB (λc=>?_) (λc=>?_)
  ·exact⟨_,Z,X i h Y L hi M c⟩
  ·exact⟨L,_,Z⟩
 ·rintro B H3 ⟨m,G,rfl⟩;exact kn _ m
def zx4(F:FunD K "_law_divided" "_law_divided" zem .none f fd)(a9:Cq T 5 "_law_lead" Pm [] (spLd5 zac zae zaj zac))(c8:Cq T 7 "_law_place" Pu [] (spPl5 zac zae zaj zac))(c0:Cq T 1 "_law_turned" Na [] spLTu)(a6:Cq T 1 "_law_less" Ph [] spLss)(f4:Cq T 1 "_law_gain" Pb [] spGn)(f7:Cq T 4 "_law_plus_times" Pc [] spPT):Fq T 9 f fd Pf (spDv5 zac zae zaj zac):=by
 refine okS ["_law_order_here","_law_f","_law_base_here","_law_prime_here","_law_left","_law_quotients","_law_rest","_law_term","_law_at","_law_lead_here","_law_number"] F λsc=>?_
 walk_at "o";rename_i F fF n cF p e b kd ws φ ds gs N;walk_at "h"
 refine⟨_,(zaa (zaq 4 sc.nd (za9 zc0 rfl T.b_dict (by kernel_rfl) (pa_1 1)))
  (zaa (ze9 (N:=["_law_d"]) (zas (i:=5) sc.nd rfl (Or.inl rfl)) (Blk.plain (by decide +kernel) (by decide +kernel) rfl (by decide +kernel) zjf) rfl (zcq (K:=K) rfl (pv 2)) (λC0 s0 H0 g2=>zdr (i:=0) zjf rfl rfl) (λC0 s0 H0 g2=>zbs) (λC0 s0 H0 g2=>za2))
  (zaa (zaq 6 sc.nd (za2))
  (zaa (zdb PassesOwn.never (zat (zeg (K:=K) rfl hr.units) (pv 4) (za2) (nomark _)) (zaa (zaq 7 sc.nd (zau a9 hr (pa_2 0 4)))
  (zaa (zaq 8 sc.nd (zau c8 hr (pa_3 0 7 2)))
  (zah (zbi (zat zmk (pv 8) (zg4) (nomark _)) (zah (zcg (uOne hr) (pv 6) (pv 7) (zlb (uOne hr) (pv 4) (pa_1 7)) rfl)) (zaa (zaq 9 sc.nd (zau a9 hr ((zab (pv 0) (zab (zbb (r:=rIxL K) za6 (pv 2) (pv 8) (λ_ _=>Z)) zar)))))
  (zaa (zaq 10 sc.nd (zaz zb6 (zaz zdh (zbf (uOne hr) (pv 4) (pv 7) (λ_ _=>Z)) (zau c0 hr ((zab (zbf (uOne hr) (zbb (r:=rIxL K) za6 (pv 2) (pv 8) (λ_ _=>Z)) (pv 9) (λ_ _=>Z)) (pa_1 3))))) (pv 3)))
  (zaa (zb4 (zau f4 hr ((zab (zbb (r:=rIxL K) za6 (pv 5) (pv 8) (λ_ _=>Z)) (zab (zau a6 hr (pa_2 7 9)) (pa_2 10 3))))))
  (zah (zaq 4 sc.nd (zau f7 hr ((zab (pv 4) (zab (zm8 zh0 (pv 10)) (zab (zau a6 hr (pa_2 7 9)) (zab (zbb (r:=rIxL K) za6 (pv 2) (pv 8) (λ_ _=>Z)) (pa_1 3)))))))))))))))))
  (zah (zao (zci (pa_2 5 6)))))))),?_⟩
 obtain⟨pn,n9,k0,k3,wn,wb,hp,⟨fvs,he,pf,bf⟩,N9,W,nz,tm,k⟩:=h;have n0:=zct pn;refine sab λrr j=>?_
 refine⟨_,Z,e,fvs,Z,he,Bd.hds pf (bf.up N9),λm c9=>?_⟩;obtain⟨H1,uq,e1,b9⟩:=nwH c9 (.dT fvs);dsimp only[zap];rw[uq];clear uq;subst j;refine sab λrr j=>?_
 have lb:=W.b;refine zdi (H1:=H1) (zeb (K:=K) (SqL.of (e1 _ _ W.at_))) (by rw[Yd,sizeLine_eq];lia) (λR hR=>⟨_,Z,b,Z,⟨_,SqL.of (e1 _ _ W.at_)⟩,hR⟩) (λσ=>∃v,σ = [v]) (λ_=>true) (λi v H'=>∃x,v=.ref x/\H1 x=none/\H' x=some (.dT [])) (λi v Ha Hb e q=>let ⟨x,h1,h2,h3⟩:=q;⟨x,h1,h2,e _ _ h3⟩) (λi v Ha a ys ys' hl q=>let ⟨x,h1,h2,h3⟩:=q;⟨x,h1,h2,(zaf (za7 h3 hl (by intro z;cases z))).trans h3⟩) ⟨none,Z⟩ (λi y d1 H4 hi hS e4 hy Ny Nn h7 hNn=>?_) λql H2 ys h5 e2 f2 c5=>?_
 ·obtain⟨v,rfl⟩:=hS;unfold zap tYes
  try dsimp only
  rw[Yl rfl];exact λd nd=>h7 _ _ _ ⟨_,Z⟩ (Same.upd nd) ⟨d,Z,e4.free nd,zad⟩ rfl
 rw[Yu.mpr (λ_ _=>Z)]at c5;obtain⟨J,rfl,lq,hq⟩:=zee c5;rw[List.length_range,Yd]at lq;dsimp only[zap];subst j;refine sab λrr j=>?_
 intro rd b0;obtain⟨H3,uq,e3,a7⟩:=nwH b0 (.dT []);dsimp only[zap];rw[uq];clear uq;subst j;have s3:=e1.trans (e2.trans e3);have f6:H ql=none:=e1.free h5;have X:=e2 _ _ b9;have I0:Dv5 n kd N (rkk kd ws) H H3 m ql rd J [] φ (λ_=>0):=by
  refine⟨s3,c9,(e1.trans e2).free b0,(λz=>by rw[z,b0]at X;cases X),λz=>?_,λz=>?_,e3 _ _ f2,λx S=>⟨e1.free (hq x S).1,λ_=>0,[],e3 _ _ (hq x S).2,PF.nil,Bd.zero⟩,⟨[],a7,PF.nil,Bd.zero⟩,⟨fvs,e3 _ _ X,pf.same s3,bf⟩,List.nodup_nil,(λd hd=>nomatch hd),(λd hd=>nomatch hd)⟩
  ·have:=(hq m z).1;rw[b9]at this;cases this
  ·have:=(hq rd z).2;rw[b0]at this;cases this
 refine⟨λmm σ H'=>∃(m:Lg) (Dn:Lb) (O ρ : Po F) (v7 v8 v9 b4:Option V),σ = [some (.ref p),some (.ref e),some (.ref b),some (.int n),some (.ref m),some (.ref ql),some (.ref rd),v7,v8,v9,b4]/\mm=(box 99).length-Dn.length/\Dv5 n kd N (rkk kd ws) H H' m ql rd J Dn O ρ,⟨_,m,[],φ,λ_=>0,none,none,none,none,Z,Z,I0⟩,?_⟩;clear I0 X a7 e3 hq f2 c5 b9 s3 c9 b0 e2;rintro mm σ H4 ⟨m,Dn,O,ρ,v7,v8,v9,b4,rfl,rfl,I⟩;refine⟨_,Z,λd2 i1=>?_⟩;obtain⟨H5,uq,e5,h6⟩:=nwH i1 (.dT []);rw[uq];clear uq;have I5:=I.same e5;obtain⟨D,d9,e0,bl5⟩:=I5.l;obtain⟨da,kds,fl,_⟩:=e0.kds (K:=K);have ld:D.length=da.length:=Paired.length kds;refine⟨m,d2,D,[],da,[],Z,Z,.inl d9,.inl h6,kds,.nil,fl,(λ_ z=>by cases z),_,Z,?_⟩
 cases hlv:D with
 | nil=>
  have:da=[]:=Y9.mp (by rw[<- ld,hlv];rfl);subst this;refine iteF ?_;refine⟨_,Z,_,Z,(by show 2<=sizeLine;decide),λq nq=>?_⟩;have e6:Same H5 (upd H5 q (.tup [.ref ql,.ref rd])):=Same.upd nq;have I6:=I5.same e6;exact k q ql J rd _ ρ I6.sm zad f6 I6.ql lq I6.q I.nr I6.r I.rq
 | cons x0 l0=>
 have h4:eqKD da []=false:=by
  unfold eqKD
  cases da with
  | nil=>rw[hlv]at ld;simp at ld
  | cons x l=>rfl
 have g9:D≠[]:=by rw[hlv];exact λz=>nomatch z
 clear hlv;rw[h4];refine iteT ⟨λd1 H'=>∃m',m'<(box 99).length-Dn.length/\∃(m:Lg) (Dn:Lb) (O ρ : Po F) (v7 v8 v9 b4:Option V),d1=[some (.ref p),some (.ref e),some (.ref b),some (.int n),some (.ref m),some (.ref ql),some (.ref rd),v7,v8,v9,b4]/\m'=(box 99).length-Dn.length/\Dv5 n kd N (rkk kd ws) H H' m ql rd J Dn O ρ,λd1 H' h=>h,?_⟩;have d3:∀{H':Hp},Same H H'->AtK zac zae zaj zac kd ws H' p:=λs=>zcb (λb C dx fs L=>s _ _ L) (λb xs L=>s _ _ L) hp
 refine sab λrr j=>?_
 refine⟨_,Z,_,Z,F,fF,n,cF,p,m,kd,ws,O,Z,k0,k3,wn,wb,d3 I5.sm,I5.l.up N9,λz=>absurd (e0.empty.mpr z) g9,λta t H6 e6 b8 hl=>?_⟩;dsimp only[zap];subst j;have I6:=I5.same e6;have t0:=I6.l.sp t hl.1;have g8:=I6.l.bd t hl.1;refine sab λrr j=>?_
 refine⟨_,Z,_,Z,_,Z,F,fF,n,cF,p,ta,b,kd,ws,t,ds,gs,Z,k0,k3,wn,wb,d3 I6.sm,b8,t0,W.same I6.sm,nz,λH7 e7=>?_,λi h H7 e7 hi hh go=>?_⟩
 ·dsimp only[zap];subst j;have I7:=I6.same e7;obtain⟨D,a1,pl,bl⟩:=I7.l;obtain⟨Y,a7,pr,br⟩:=I7.r;have b6:H7 ta=some (.tup ((ky t).map kV)):=by rw[zce];exact e7 _ _ b8
  obtain⟨v,d8,rv⟩:=pl.get hl.1;have lr:Y.length<=10000:=Bd.len (N:=99) pr (br.up N9);refine⟨_,Z,Z,_,Z,iteT ?_⟩;refine⟨_,Z,.inr (.inr (.inl ⟨Z,.inr ⟨_,a1⟩⟩)),_,Z,m,ta,D,ky t,v,Z,Z,a1,b6,d8,?_⟩;have a4:Fix H7 (upd H7 m (.dT (zfg D (ky t)))):=zbd a1;have u8:(upd H7 m (HO.dT (zfg D (ky t)))) m=some (.dT (zfg D (ky t))):=zad;have k8:∀b o,H7 b=some o->b≠m->(upd H7 m (HO.dT (zfg D (ky t)))) b=some o:=λb o L nb=>(zaf nb).trans L
  generalize upd H7 m (HO.dT (zfg D (ky t)))=H8 at a4 u8 k8 ⊢;have b7:=k8 _ _ a7 (Jb I.lr);refine⟨_,Z,_,Z,rd,_,Z,DPut.t b7 (a4.tup _ _ b6) (by rw[sizeLine_eq];lia),?_⟩;have b2:Fix H8 (upd H8 rd (.dT (putK Y (ky t) v))):=zbd b7;have u9:(upd H8 rd (HO.dT (putK Y (ky t) v))) rd=some (.dT (putK Y (ky t) v)):=zad;have k9:∀b o,H8 b=some o->b≠rd->(upd H8 rd (HO.dT (putK Y (ky t) v))) b=some o:=λb o L nb=>(zaf nb).trans L
  generalize upd H8 rd (HO.dT (putK Y (ky t) v))=H9 at b2 u9 k9 ⊢;have lo:∀u,setP O t 0 u≠0->lt (rkk kd ws) u t:=λu hu=>by
   by_cases c:u=t
   ·rw[c,zey]at hu;exact absurd rfl hu
   ·rw[zck c]at hu;exact(hl.2 u hu).resolve_left c
  obtain⟨c1,c2,c3,c4⟩:=I.lead (lf':=setP O t 0) N9 hl lo;have kp:∀b o,H7 b=some o->b≠m->b≠rd->H9 b=some o:=λb o L n1 n2=>k9 _ _ (k8 _ _ L n1) n2
  refine⟨_,by rw[Y5];simp;lia,m,Dn++[t],setP O t 0,setP ρ t (O t),_,_,_,_,Z,Z,λb o L=>kp _ _ (I7.sm _ _ L) (zag L I.nl) (zag L I.nr),I.nl,I.nr,I.lr,I.lq,I.rq,?_,λx S=>⟨(I.q x S).1,?_⟩,⟨_,u9,((pr.fix a4).put t0 (rv.fix a4) hl.1).fix b2,br.set _ g8⟩,⟨_,k9 _ _ u8 I.lr,((pl.drop t).fix a4).fix b2,bl.set0 t⟩,c1,c2,c3⟩
  ·exact kp _ _ I7.ql (za7 I7.ql a1 (by intro z;cases z)) (za7 I7.ql a7 (by intro z;cases z))
  ·obtain⟨ψ,pb⟩:=(I7.q x S).2;exact⟨ψ,pb.keep (a4.tr b2) λo ho=>kp _ _ ho (λz=>I.lq (z ▸ S)) λz=>I.rq (z ▸ S)⟩
 ·dsimp only[zap];subst j;have I7:=I6.same e7;have a0:ds[i]? = some ds[i]:=Yc hi;generalize ds[i]=dg at a0;have a2:atI (ds.map V.ref) (i:Int)=some (.ref dg):=zbh (by rw[Ym,a0];rfl);have d0:J[i]? = some (J[i]'(by lia)):=Yc _;generalize J[i]'(by lia)=qx at d0;have a3:atI (J.map V.ref) (i:Int)=some (.ref qx):=zbh (by rw[Ym,d0];rfl);have qm:=Yx d0;have h0:=W.sp i h hh.1;have s0:=T0.sub t0 h0 go;have c7:t.length=h.length:=by rw[t0.len,h0.len]
  have l2:t.length<=1000:=by rw[t0.len];decide
  refine⟨_,Z,Z,_,Z,iteF ?_⟩;refine sab λrr j=>?_
  refine⟨_,Z,_,Z,_,Z,b,_,_,_,Z,Z,SqL.of (I7.sm _ _ W.at_),a2,F,fF,n,cF,p,dg,kd,ws,gs i,Z,k0,k3,wn,wb,d3 I7.sm,((W.row i dg a0).same I7.sm).up (by decide),λz=>absurd (z h) hh.1,λtb h' H8 e8 c6 i2=>?_⟩;have eh:h'=h:=i2.one hh;subst eh;dsimp only[zap];subst j;have I8:=I7.same e8;have a8:=e8 _ _ (e7 _ _ b8);obtain⟨D,a1,pl,bl⟩:=I8.l;obtain⟨gvs,hg,pg,bg⟩:=(W.row i dg a0).same I8.sm;obtain⟨A,iA,eA,bA,zA⟩:=pl.iz n0;obtain⟨B,iB,eB,bB,zB⟩:=pg.iz n0;have vg:∀{f:Ka} {M:Lc->Int} {x:Lc},IZ 2 f M->M x≠0->valV f (ky x)=some (.int (M x)):=fun{f M x} i z=>by
   cases q:valV f (ky x) with
   | none=>exact absurd (i.out x q) z
   | some v=>rw[i.val x v q]
  have g5:=zA t hl.1;have g7:=zB h' hh.1;have at1:=bA t;have bh1:=bB h';have dA:DGet H8 m (.ref ta) (some (.int (A t))):=by rw[<- vg iA g5];exact DGet.t a1 (by rw[zce];exact a8)
  have dB:DGet H8 dg (.ref tb) (some (.int (B h'))):=by rw[<- vg iB g7];exact DGet.t hg (by rw[zce];exact c6)
  refine sab λrr j=>?_
  refine⟨_,Z,_,Z,m,_,Z,dA,_,Z,_,Z,b,_,_,_,Z,Z,SqL.of (I8.sm _ _ W.at_),a2,_,Z,dg,_,Z,dB,_,Z,B h',n,Z,pn,n9,by lia,by lia,λfi f0 f1 fe=>?_⟩;refine⟨_,_,Z,Z,.inl ⟨by lia,by lia⟩,_,Z,_,_,Z,Z,(by lia),?_⟩;dsimp only[zap];subst j;have z0:=Jm (A t*fi) n0;have z1:=Jc (A t*fi) (show 0<n by lia);have ze:ic (F:=F) (A t*fi%n)*gs i h'=O t:=by
   have q:ic (F:=F) fi*ic (B h')=1:=by
    have q2:ic (F:=F) (fi*B h'-1)=0:=(Chr.z (n:=n) _).mpr ((zr_n n0).mpr fe);rw[zod,zec,zti]at q2;grind
   rw[zjk,zec,eA,eB];grind
  generalize A t*fi%n=z at z0 z1 ze ⊢;obtain⟨ψ,g1,g0,f8,f9⟩:=(I8.q qx qm).2;have lqv:g1.length<=10000:=Bd.len (N:=99) f8 (f9.up N9);refine sab λrr j=>?_
  refine⟨_,Z,_,Z,ql,_,_,_,Z,Z,SqL.of I8.ql,a3,_,Z,_,Z,ta,tb,t,h',Z,a8,c6,c7,l2,λo1 H9 e9 i4=>?_⟩;have I9:=I8.same e9;refine⟨_,Z,_,Z,F,fF,n,cF,2,qx,o1,subT t h',g1,ψ,z,Z,pn,e9 _ _ g0,f8.same e9,i4,s0,by rw[sizeLine_eq];lia,λHA d7 kA i5 g3=>?_⟩;show rr _ _ _;subst j;have d6:=e9 _ _ g0;have a5:Fix H9 HA:=kA.fix λa ha o ho=>by
   rw[Yq.mp ha,d6]at ho;cases ho;exact .inl ⟨_,Z⟩
  have b1:∀b o,H9 b=some o->b≠qx->HA b=some o:=λb o L nb=>kA b o L (by simp[nb])
  have i3:m≠qx:=λz=>I.lq (z ▸ qm)
  have i0:rd≠qx:=λz=>I.rq (z ▸ qm)
  have h9:Same H HA:=λb o L=>b1 _ _ (I9.sm _ _ L) (zag L (I.q qx qm).1)
  have w0:=wt_p (kd:=kd) h0;have wst:wt kd (subT t h')=wt kd t-wt kd h':=zg3 c7;have qA:∀x∈J,H x=none/\∃ψ : Po F,PB n kd N HA x ψ:=λx S=>by
   refine⟨(I.q x S).1,?_⟩;by_cases c:x=qx
   ·subst c;exact⟨_,d7,i5,g3,f9.set _ (by lia)⟩
   ·obtain⟨b3,pb⟩:=(I9.q x S).2;exact⟨b3,pb.keep a5 λo ho=>b1 _ _ ho c⟩
  have lA:PB n kd N HA m O:=I9.l.keep a5 λo ho=>b1 _ _ ho i3
  have rA:PB n kd N HA rd ρ:=I9.r.keep a5 λo ho=>b1 _ _ ho i0
  have d4:=b1 _ _ I9.ql (za7 I9.ql d6 (by intro z;cases z));refine⟨_,Z,_,Z,_,Z,_,Z,_,Z,ta,tb,t,h',Z,a5.tup _ _ (e9 _ _ a8),a5.tup _ _ (e9 _ _ c6),c7,l2,λo2 HB eB i6=>?_⟩;have b5:=h9.trans eB;have d5:=tm i h' hh;refine⟨_,Z,_,Z,b,_,_,_,Z,Z,SqL.of (b5 _ _ W.at_),a2,_,Z,F,fF,n,cF,kd,m,o2,dg,subT t h',O,gs i,-z,Z,pn,n9,by lia,by lia,?_,(lA.same eB).up N9,((W.row i dg a0).same b5).up (by decide),i6,s0,λu hu=>?_,λf3 HC U eC g4=>?_⟩
  ·obtain⟨gv,g6,_⟩:=W.row i dg a0;exact λz=>zag g6 I.nl z.symm
  ·have:=d5 u hu;lia
  dsimp only[zap];obtain⟨h8,hC,pC,_⟩:=g4;have f5:=Ld.sh (zlm kd wn 2) (W.sp i) s0 hh;rw[G.back t0 h0 go]at f5;have top:sh (subT t h') (gs i) t=gs i h':=by
   have:=zmr (l:=subT t h') (u:=h') (φ:=gs i) (by rw[h0.len,s0.len]);rwa [G.back t0 h0 go]at this
  have lo:∀u,O u+ic (-z)*sh (subT t h') (gs i) u≠0->lt (rkk kd ws) u t:=λu hu=>by
   have ut:u≠t:=λq=>hu (by rw[q,top,zyd,<- ze];grind)
   by_cases c:O u=0
   ·refine(f5.2 u λq=>hu (by rw[c,q];grind)).resolve_left ut
   ·exact(hl.2 u c).resolve_left ut
  obtain⟨c1,c2,c3,c4⟩:=I.lead (lf':=λu=>O u+ic (-z)*sh (subT t h') (gs i) u) N9 hl lo;have bC:Bd kd N (λu=>O u+ic (-z)*sh (subT t h') (gs i) u):=bl.add (Bd.smul _ (Bd.sh s0 (W.sp i) λu hu=>by have:=d5 u hu;lia));refine⟨_,by rw[Y5];simp;lia,f3,Dn++[t],_,ρ,_,_,_,_,Z,Z,b5.trans eC,b5.free U,I.nr,λq=>?_,λq=>?_,I.rq,eC _ _ (eB _ _ d4),λx S=>⟨(I.q x S).1,?_⟩,(rA.same eB).same eC,⟨h8,hC,pC,bC⟩,c1,c2,c3⟩
  ·obtain⟨rv,hr,_⟩:=rA.same eB;rw[<- q,U]at hr;cases hr
  ·obtain⟨b3,xv,S,_⟩:=(qA f3 q).2;rw[eB _ _ S]at U;cases U
  ·obtain⟨b3,pb⟩:=(qA x S).2;exact⟨b3,(pb.same eB).same eC⟩
def zyb(F:FunD K "_law_crossed" "_law_crossed" zeo .none f fd)(l:Cq T 5 "_law_lead" Pm [] (spLd5 zac zae zaj zac))(r:Cq T 1 "_law_less" Ph [] spLss)(O:Cq T 4 "_law_plus_times" Pc [] spPT):Fq T 7 f fd Pp (spCr5 zac zae zaj zac):=by
 refine okS ["_law_order_here","_law_f","_law_g","_law_prime_here","_law_one","_law_other","_law_top","_law_found"] F λsc=>?_
 walk_at "o";rename_i F fF n cF p e1 e2 kd ws φ ψ M;walk_at "h"
 refine⟨_,(zaa (zaq 4 sc.nd (zau l hr (pa_2 0 1)))
  (zaa (zaq 5 sc.nd (zau l hr (pa_2 0 2)))
  (zaa (zaq 6 sc.nd (za9 (zbl (K:=K) rfl) rfl T.b_tuple (by kernel_rfl) ((zab (zb5 (N:=["_law_a","_law_b"]) (Blk.plain (by decide +kernel) (by decide +kernel) rfl (by decide +kernel) zbc) rfl (zcu (K:=K) rfl true true rfl T.b_zip (pa_2 4 5)) (λC0 s0 H0 b4=>zen (K:=K) rfl rfl rfl zbc rfl rfl) (λC0 s0 H0 b4=>zbs) (λC0 s0 H0 b4=>zaw (zde rfl) rfl T.b_max (by kernel_rfl) (pa_2 0 1))) zar))))
  (zaa (zaq 7 sc.nd (zau O hr ((zab (za2) (zab (zbf (uOne hr) (pv 2) (pv 5) (λ_ _=>Z)) (zab (zau r hr (pa_2 6 4)) (pa_2 1 3)))))))
  (zah (zao (zau O hr ((zab (pv 7) (zab (zm8 zh0 (zbf (uOne hr) (pv 1) (pv 4) (λ_ _=>Z))) (zab (zau r hr (pa_2 6 5)) (pa_2 2 3)))))))))))),?_⟩
 obtain⟨pn,n9,k0,k3,wn,wb,hp,h1,h2,M9,z1,z2,a9,a5,k⟩:=h;have n0:=zct pn;have c5:∀{H':Hp},Same H H'->AtK zac zae zaj zac kd ws H' p:=λs=>zcb (λb C dx fs hb=>s _ _ hb) (λb xs hb=>s _ _ hb) hp
 refine sab λrr j=>?_
 refine⟨_,Z,_,Z,F,fF,n,cF,p,e1,kd,ws,φ,Z,k0,k3,wn,wb,hp,h1.up (by lia),λz=>(let ⟨t,ht⟩:=z1;absurd (z t) ht),λa1 c H1 s1 b8 m=>?_⟩;dsimp only[zap];subst j;refine sab λrr j=>?_
 refine⟨_,Z,_,Z,F,fF,n,cF,p,e2,kd,ws,ψ,Z,k0,k3,wn,wb,c5 s1,(h2.same s1).up (by lia),λz=>(let ⟨t,ht⟩:=z2;absurd (z t) ht),λa2 d H2 a4 a6 G=>?_⟩;dsimp only[zap];subst j;have s2:=s1.trans a4;have U:=a4 _ _ b8;have J:=h1.sp c m.1;have u2:=h2.sp d G.1;have l12:c.length=d.length:=by rw[J.len,u2.len]
 refine sab λrr j=>?_
 show tComp _ _ _ _ _ _ _ _;refine zco (K:=K) (b1:=true) (b2:=true) (a:=a1) (b:=a2) (xs:=c) (ys:=d) yes2 (λx y=>.int (mx x y)) (by rfl) ?_ (SqT.of U) (SqT.of a6) (by rw[J.len];decide) ?_ ?_ λD H3 e3 hL=>?_
 ·exact λR hR=>⟨_,Z,_,Z,hR⟩
 ·exact λ_ _ _ h=>h
 ·exact λi H' R _ h=>⟨_,Z,_,Z,_,_,Z,h⟩
 rw[zgc (λx y=>mx x y)]at hL;refine⟨D,_,Z,.inl ⟨SqL.of hL,λa3 b5=>?_⟩⟩;have e4:Same H3 (upd H3 a3 (.tup ((za3 c d).map V.int))):=Same.upd b5;have b3:(upd H3 a3 (HO.tup ((za3 c d).map V.int))) a3=some (.tup ((za3 c d).map V.int)):=zad;have a7:(HO.tup ((List.zipWith (λx y=>mx x y) c d).map V.int))=HO.tup ((za3 c d).map V.int):=rfl;rw[a7];generalize upd H3 a3 (HO.tup ((za3 c d).map V.int))=H4 at e4 b3 ⊢;dsimp only[zap];subst j;have s4:=s2.trans (e3.trans e4);have X:=zd0 J u2;obtain⟨g1,g2⟩:=zgo J u2;have v1:=T0.sub X J g1;have v2:=T0.sub X u2 g2;have wM:=zks (kd:=kd) J u2;have w1:=h1.bd c m.1;have w2:=h2.bd d G.1;have ws1:wt kd (subT (za3 c d) c)=wt kd (za3 c d)-wt kd c:=zg3 (by rw[X.len,J.len]);have ws2:wt kd (subT (za3 c d) d)=wt kd (za3 c d)-wt kd d:=zg3 (by rw[X.len,u2.len]);have c3:(za3 c d).length=c.length:=by rw[X.len,J.len]
 have c7:(za3 c d).length=d.length:=by rw[X.len,u2.len]
 have lM:(za3 c d).length<=1000:=by rw[X.len];decide
 generalize za3 c d=mt at *;have vg:∀{f:Ka} {M:Lc->Int} {x:Lc},IZ 2 f M->M x≠0->valV f (ky x)=some (.int (M x)):=fun{f M x} i z=>by
  cases q:valV f (ky x) with
  | none=>exact absurd (i.out x q) z
  | some v=>rw[i.val x v q]
 obtain⟨fvs,hf,pf,bf⟩:=h1;obtain⟨c8,hg,pg,bg⟩:=h2;obtain⟨A,iA,eA,bA,zA⟩:=pf.iz n0;obtain⟨B,iB,eB,bB,zB⟩:=pg.iz n0;have a0:=zA c m.1;have b0:=zB d G.1;have a1':=bA c;have b1':=bB d;refine sab λrr j=>?_
 intro d0 a8;obtain⟨H5,uq,e5,c1⟩:=nwH a8 (.dT []);rw[uq];have s5:=s4.trans e5;have L:=e5 _ _ (e4 _ _ (e3 _ _ U));have S:=e5 _ _ (e4 _ _ (e3 _ _ a6));have I:=e5 _ _ b3;have dB:DGet H5 e2 (.ref a2) (some (.int (B d))):=by rw[<- vg iB b0];exact DGet.t (s5 _ _ hg) (by rw[zce];exact S)
 refine⟨_,Z,_,Z,e2,_,Z,dB,_,Z,_,Z,a3,a1,mt,c,Z,I,L,c3,lM,λo1 H6 e6 c6=>?_⟩;have s6:=s5.trans e6;refine⟨_,Z,_,Z,F,fF,n,cF,kd,d0,o1,e1,subT mt c,λ_=>0,φ,B d,Z,pn,n9,by lia,by lia,(λz=>zag (s4 _ _ hf) a8 z.symm),⟨[],e6 _ _ c1,PF.nil,Bd.zero⟩,⟨fvs,s6 _ _ hf,pf.same s6,bf.up (by lia)⟩,c6,v1,λu Y=>?_,λd7 H7 b7 e7 b9=>?_⟩
 ·have:=a9 c m u Y;lia
 dsimp only[zap];subst j;have s7:=s6.trans e7;have W:=e6.trans e7;have dA:DGet H7 e1 (.ref a1) (some (.int (A c))):=by rw[<- vg iA a0];exact DGet.t (s7 _ _ hf) (by rw[zce];exact W _ _ L)
 refine⟨_,Z,_,Z,_,Z,e1,_,Z,dA,_,Z,_,Z,_,Z,a3,a2,mt,d,Z,W _ _ I,W _ _ S,c7,lM,λo2 H8 e8 c9=>?_⟩;have s8:=s7.trans e8;refine⟨_,Z,_,Z,F,fF,n,cF,kd,d7,o2,e2,subT mt d,_,ψ,-(A c),Z,pn,n9,by lia,by lia,(λz=>zag (s6 _ _ hg) b7 z.symm),b9.same e8,⟨c8,s8 _ _ hg,pg.same s8,bg.up (by lia)⟩,c9,v2,λu Y=>?_,λd9 H9 c4 e9 c2=>?_⟩
 ·have:=a5 d G u Y;lia
 obtain⟨b6,c0,p9,_⟩:=c2;refine k d9 H9 _ (s8.free c4) (s8.trans e9) ⟨b6,c0,p9,(Bd.zero.add (Bd.smul _ (Bd.sh v1 pf.sp λu Y=>?_))).add (Bd.smul _ (Bd.sh v2 pg.sp λu Y=>?_))⟩
 ·have:=a9 c m u Y;lia
 ·have:=a5 d G u Y;lia
def zw1(F:FunD K "_law_order" "_law_order" zfh .none f fd) : Fq T 2 f fd P4 (spOr5 zac zae zaj zac):=by
 refine okS ["_law_cell_here"] F λsc=>?_
 walk_at "o";rename_i c;walk_at "h"
 refine⟨_,(zaa (zbi (zat zd1 (zaz zb6 (pv 0) (zal)) (zal) (nomark _)) (zah (zao (zkn T.n0_Order T.mg_Order))) zax)
  (zaa (zbi (zat zd1 (zaz zb6 (pv 0) (zal)) (zal) (nomark _)) (zah (zao (zkn T.n0_Degrees T.mg_Degrees))) zax)
  (zah (zao (zkn T.n0_Tails T.mg_Tails))))),?_⟩
 have q:=h;have mk:∀{C:Lg} {H:Hp} {p d:Lg},H p=none->H d=none->Same H (upd (upd H d (.own p)) p (.ins C d [])):=fun{C H p d} i a b o e=>by
  rw[zaf (zag e i),zaf (zag e a)];exact e
 walk_at "rd"
 refine cEq (λcc=>?_) (λcc=>?_)
 ·intro p d i a l;exact q p _ (mk i a) (by unfold AtK;rw[Yl cc];exact⟨d,zad⟩)
 walk_at "rd"
 refine cEq (λj=>?_) (λj=>?_)
 ·intro p d i a l;exact q p _ (mk i a) (by unfold AtK;rw[Yh cc,Yl j];exact⟨d,zad⟩)
 intro p d i a l;exact q p _ (mk i a) (by unfold AtK;rw[Yh cc,Yh j,Yl (by lia)];exact⟨d,zad⟩)
def zv0(F:FunD K "_law_poly" "_law_poly" zg9 .none f fd)(C:Cq T 1 "_law_gain" Pb [] spGn):Fq T 4 f fd Py (spPo5 K):=by
 refine okS ["_law_cells","_law_most","_law_prime_here","_law_f","_law_cell_here","_law_term"] F λsc=>?_
 walk_at "o";rename_i F fF n cF l cs m;walk_at "h"
 refine⟨_,(zaa (zaq 3 sc.nd (za2))
  (zaa (zbm PassesOwn.never rfl (zcq (K:=K) rfl (pv 0)) (zas (i:=4) sc.nd rfl (Or.inr rfl)) (zaa (zaq 5 sc.nd (za9 (zbl (K:=K) rfl) rfl T.b_tuple (by kernel_rfl) ((zab (zb5 (N:=["_law_at","_law_cell_here","_law_most"]) (cl:=[("_law_most",s.heap.objs.size+1),("_law_cell_here",s.heap.objs.size+2)]) (mp:=[none,some 4,some 1]) (Blk.of rfl (by decide +kernel) rfl (by decide +kernel) zbo (zbn rfl (zbn rfl zcy)) (zii (fs:=["_law_most","_law_cell_here"]) rfl (by decide +kernel)) rfl (zb7 (zbj rfl (.inl rfl) rfl (zbj rfl (.inl rfl) rfl zcx)))) rfl (zbq rfl T.b_range ((zab (zal) zar))) (λC0 s0 H0 J=>zdr (i:=0) zbo rfl rfl) (λC0 s0 H0 J=>zbs) (λC0 s0 H0 J=>zaz zb6 (zaz zd7 (zaz zb6 (zaz zdh (pv 1) (zaz zcr (zal) (zaz zdh (zal) (pv 0)))) (zal)) (zal)) (zaz zcr (pv 2) (zal)))) zar))))
  (zah (zb4 (zau C hr ((zab (pv 3) (zab (pv 5) (zab (zaz zb6 (zaz zd7 (zaz zb6 (zaz zdh (pv 4) (zal)) (zal)) (zal)) (pv 2)) (pa_1 2))))))))))
  (zah (zao (pv 3))))),?_⟩
 obtain⟨pn,n9,hl,l63,m0,m5,k⟩:=h;refine sab λrr y=>?_
 intro d W;obtain⟨H1,uq,e1,a0⟩:=nwH W (.dT []);dsimp only[zap];rw[uq];subst y;have kept:∀{H':Hp} {b:Lg} {o:HO},Kp [d] H1 H'->H b=some o->H' b=some o:=fun{H' b o} kp L=>kp _ _ (e1 _ _ L) λz=>zag L W (Yq.mp z)
 refine⟨_,Z,l,Z,⟨_,SqL.of (e1 _ _ hl)⟩,?_⟩;refine zf2 (K:=K) (a:=l) (xs:=cs.map V.int) (λi B H'=>i<=cs.length/\(∃v4 v5,B = [some (.ref l),some (.int m),some (.int n),some (.ref d),v4,v5])/\Kp [d] H1 H'/\∃(q:Ka) (φ:Po F),H' d=some (.dT q)/\PF n 2 H' q φ/\∀t,φ t≠0->t.getD 0 0<=m/\t.getD 1 0<=m) ?_ ?_ ?_ ?_
 ·exact⟨Y2 _,⟨_,_,Z⟩,Kp.refl _ _,[],λ_=>0,a0,PF.nil,(λt G=>absurd rfl G)⟩
 ·rintro i B H' _ ⟨_,_,kp,_⟩;exact SqL.of (kept kp hl)
 ·rintro i x B Y I ⟨_,⟨v4,v5,rfl⟩,kp,q,φ,p,O,M⟩;rw[Ym]at I;obtain⟨c,hc,rfl⟩:=Option.map_eq_some_iff.mp I;have X:=zav hc;dsimp only[zap];refine sab λrr y=>?_
  show tComp _ _ _ _ _ _ _ _;refine znc (H1:=Y) 2 (λB=>∃v,B = [v,some (.int c),some (.int m)]) (λ_=>true) (λi=>.int (pw5 c m i)) (by decide) (by decide) ?_ ⟨none,Z⟩ ?_ λD HD eD hL=>?_
  ·exact λR hR=>hR
  ·rintro j σ' HE hj ⟨z,rfl⟩ eE Ny Nn hy hn;unfold tYes;dsimp only[zap];rw[Yl rfl,Int.zero_add];exact⟨_,rfl,_,rfl,_,_,rfl,rfl,.inl ⟨by decide,by decide⟩,_,_,rfl,rfl,_,_,rfl,rfl,.inr ⟨by lia,by lia⟩,_,_,rfl,rfl,(by show (0:Int)<10007;decide),_,_,rfl,rfl,⟨by decide,by decide⟩,_,rfl,_,_,rfl,rfl,_,_,rfl,rfl,(by show (0:Int)<m+1;lia),hy _ _ ⟨_,rfl⟩ (Same.refl _) rfl⟩
  have eL:((List.range (Int.toNat 2)).filter λ_=>true).map (λi:Nat=>V.int (pw5 c m i))=[pw5 c m 0,pw5 c m 1].map V.int:=rfl;rw[eL]at hL;refine⟨D,_,Z,.inl ⟨SqL.of hL,λt nt=>?_⟩⟩;obtain⟨HT,uq,eT,G⟩:=nwH nt (.tup ([pw5 c m 0,pw5 c m 1].map V.int));rw[uq];dsimp only[zap];subst y;have r:=eD.trans eT;have U:=r _ _ p;have q0:=zx2 c m 0 m0;have q1:=zx2 c m 1 m0;have t0:T0 2 [pw5 c m 0,pw5 c m 1]:=T0.of rfl λx I=>by
   simp at I
   rcases I with rfl | rfl
   ·exact q0.1
   ·exact q1.1
  have bk:Bd 1 10 φ:=λt G=>by
   have:=M t G;unfold wt;rw[Yh (by decide)];lia
  have lk:q.length<=121:=Bd.len (N:=10) O bk;have n2:=pn.1;refine⟨_,Z,_,Z,_,Z,_,_,Z,Z,.inr ⟨by decide,by decide⟩,_,_,Z,Z,(by show (0:Int)<10009;decide),_,_,Z,Z,⟨by decide,by decide⟩,_,Z,_,_,Z,Z,(by show (0:Int)<n;lia),_,Z,F,fF,n,cF,2,d,t,[pw5 c m 0,pw5 c m 1],q,φ,_,Z,pn,U,O.same r,G,t0,by rw[sizeLine_eq];lia,λHB a1 kB S pB=>?_⟩;refine⟨X,⟨_,_,Z⟩,(kp.tr (.of r)).tr kB,a1,_,S,pB,λu hu=>?_⟩;by_cases e:u=[pw5 c m 0,pw5 c m 1]
  ·rw[e];exact⟨q0.2,q1.2⟩
  ·rw[zck e]at hu;exact M u hu
 ·rintro B Y ⟨_,⟨v4,v5,rfl⟩,kp,q,φ,p,O,M⟩;exact⟨_,rfl,k d Y φ W (λb o L=>kept kp L) ⟨q,p,O,M⟩⟩
def zv9(F:FunD K "_law_mixed" "_law_mixed" zfy .none f fd)(q:Cq T 6 "_law_times" Pi [] spLTms)(D:Cq T 4 "_law_plus" Pd [] spLPls):Fq T 8 f fd Pj spMx:=by
 refine okS ["_law_lists","_law_multiples","_law_many","_law_prime_here","_law_found","_law_k","_law_i"] F λsc=>?_
 walk_at "o";rename_i F fF n cF kd ls ml z C B b2 l N1 N2;walk_at "h"
 refine⟨_,(zaa (ze9 (N:=["_law_k"]) (zas (i:=4) sc.nd rfl (Or.inl rfl)) (Blk.plain (by decide +kernel) (by decide +kernel) rfl (by decide +kernel) zjc) rfl (zbq rfl T.b_range (pa_1 2)) (λC0 s0 H0 a5=>zdr (i:=0) zjc rfl rfl) (λC0 s0 H0 a5=>zbs) (λC0 s0 H0 a5=>za2))
  (zaa (zbm PassesOwn.never rfl (zbq rfl T.b_range ((zab (zaw (za8 (K:=K) rfl) rfl T.b_len PySem.boot_len (pa_1 0)) zar))) (zas (i:=5) sc.nd rfl (Or.inl rfl)) (zah (zbm PassesOwn.never rfl (zbq rfl T.b_range (pa_1 2)) (zas (i:=6) sc.nd rfl (Or.inl rfl)) (zah (zhx (zau D hr ((zab (zbb (r:=rIxL K) za6 (pv 4) (pv 6) (λ_ _=>Z)) (zab (zal) (zab (zau q hr ((zab (zbb (r:=rIxL K) za6 (pv 1) (pv 5) (λ_ _=>Z)) (zab (zbb (r:=rIxL K) za6 (zbb (r:=rIxL K) za6 (pv 0) (pv 5) (λ_ _=>Z)) (pv 6) (λ_ _=>Z)) (pa_1 3))))) (pa_1 3)))))) (zhm (pv 4) (pv 6) zed))))))
  (zah (zao (pv 4))))),?_⟩
 obtain⟨pn,n9,hL,ld,m12,hM,lm,pM,dj,n1,n2,Y,k⟩:=h;have lL:=hL.b;refine sab λrr W=>?_
 refine zig (H1:=H) (zdj 0 (Int.toNat (l:Int))) (by rw[Y1,sizeLine_eq];lia) (λR hR=>⟨_,Z,_,Z,by lia,by lia,hR⟩) λG H1 d O e1 b0 lf hf=>?_
 rw[Y1]at lf;dsimp only[zap];subst W;have f1:FR F n kd (N1+N2) H H1 G d:=⟨b0,λx hx=>⟨(hf x hx).1,λ_=>0,[],(hf x hx).2,PF.nil,Bd.zero⟩⟩;refine sab λrr W=>?_
 refine⟨_,Z,ls,_,Z,.inl (SqL.of (e1 _ _ hL.at_)),_,Z,by rw[Yd];lia,by rw[Yd];lia,?_⟩;rw[Yd,Y1];refine zcl (λj S H'=>(∃v5 I,S = [some (.ref ls),some (.ref ml),some (.int l),some (.int n),some (.ref G),v5,I])/\Same H H'/\∃d,FR F n kd (N1+N2) H H' G d/\d.length=l) ?_ ?_ ?_
 ·exact⟨⟨none,none,Z⟩,e1,d,f1,lf⟩
 ·rintro kk S H2 hk ⟨⟨v5,I,rfl⟩,s2,m,f2,U⟩;rw[Int.zero_add];dsimp only[zap];have M:z[kk]? = some z[kk]:=Yc hk;generalize z[kk]=la at M;have X:C[kk]? = some (C[kk]'(by lia)):=Yc _;generalize C[kk]'(by lia)=mx at X;have mm:=Yx X;have a1:atI (C.map V.ref) (kk:Int)=some (.ref mx):=zbh (by rw[Ym,X];rfl);have a2:atI (z.map V.ref) (kk:Int)=some (.ref la):=zbh (by rw[Ym,M];rfl);have hR:=hL.row kk la M;have lk:=ld kk hk;refine⟨_,rfl,_,rfl,by lia,by lia,?_⟩;rw[Y1];refine zcl (λj S H'=>(∃I,S = [some (.ref ls),some (.ref ml),some (.int l),some (.int n),some (.ref G),some (.int kk),I])/\Same H H'/\∃d,FR F n kd (N1+N2) H H' G d/\d.length=l) ?_ ?_ ?_
  ·exact⟨⟨I,Z⟩,s2,m,f2,U⟩
  ·rintro i S H3 hi ⟨⟨I,rfl⟩,y,a,f3,J⟩;rw[Int.zero_add];dsimp only[zap];have p:(B kk)[i]? = some ((B kk)[i]'(by lia)):=Yc _;generalize (B kk)[i]'(by lia)=dx at p;have L:a[i]? = some (a[i]'(by lia)):=Yc _;generalize a[i]'(by lia)=fx at L;have a3:atI ((B kk).map V.ref) (i:Int)=some (.ref dx):=zbh (by rw[Ym,p];rfl);have a4:atI (a.map V.ref) (i:Int)=some (.ref fx):=zbh (by rw[Ym,L];rfl);obtain⟨ψ,a9⟩:=pM mx mm;obtain⟨_,χ,a8⟩:=f3.2 fx (Yx L);refine⟨_,rfl,_,rfl,G,_,_,_,rfl,rfl,SqL.of f3.1,a4,_,rfl,_,rfl,ml,_,_,_,rfl,rfl,SqL.of (y _ _ hM),a1,_,rfl,_,rfl,ls,_,_,_,rfl,rfl,SqL.of (y _ _ hL.at_),a2,_,rfl,la,_,_,_,rfl,rfl,SqL.of (y _ _ hR.at_),a3,_,rfl,F,fF,n,cF,kd,mx,dx,ψ,b2 kk i,N1,N2,rfl,pn,n9,dj kk hk mx mm dx (Yx p),a9.same y,(hR.row i dx p).same y,n1,n2,Y,λd4 H4 nd4 e4 a7=>?_⟩;refine⟨_,rfl,F,fF,n,cF,kd,fx,d4,χ,_,N1+N2,1,rfl,pn,n9,by decide,by decide,Y,a8.same e4,a7,λd5 H5 a6 e5 b1=>?_⟩;have s5:=y.trans (e4.trans e5);have f5:=(f3.same e4).same e5;refine⟨_,rfl,_,rfl,G,_,_,i,rfl,rfl,f5.1,by rw[Yd];exact zfd (by lia),?_⟩;have a0:(a.map V.ref).set i (.ref d5)=(a.set i d5).map V.ref:=by rw[List.map_set]
   rw[a0];refine⟨⟨_,Z⟩,λc o hc=>(zaf (zag hc O)).trans (s5 _ _ hc),a.set i d5,f5.put O ((y.trans e4).free a6) b1,by rw[List.length_set];exact J⟩
  ·rintro S H3 ⟨⟨I,rfl⟩,y,a,f3,J⟩;exact⟨⟨_,_,rfl⟩,y,a,f3,J⟩
 ·rintro S H2 ⟨⟨v5,I,rfl⟩,s2,m,f2,U⟩;subst W;exact⟨_,rfl,k G m H2 O s2 f2 U⟩
def zx5(F:FunD K "_law_more" "_law_more" zgl .none f fd)(h6:Cq T 7 "_law_crossed" Pp [] (spCr5 zac zae zaj zac))(c2:Cq T 5 "_law_lead" Pm [] (spLd5 zac zae zaj zac))(c0:Cq T 1 "_law_less" Ph [] spLss)(f7:Cq T 9 "_law_divided" Pf [] (spDv5 zac zae zaj zac))(d3:Cq T 4 "_law_plus" Pd [] spLPls)(i0:Cq T 8 "_law_mixed" Pj [] spMx):Fq T 11 f fd Pg (spMo5 zac zae zaj zac):=by
 refine okS ["_law_order_here","_law_base_here","_law_lists","_law_places","_law_prime_here","_law_i","_law_j","_law_many","_law_pair","_law_parts","_law_one","_law_other","_law_top","_law_found","_law_k"] F λsc=>?_
 walk_at "o";rename_i F fF n cF p b ls pl kd ws ds O gs l4 m4 i j e9;walk_at "h"
 refine⟨_,(zaa (zaq 5 sc.nd (zbb (r:=rIxT K) zby (pv 3) (zal) (λ_ _=>Z)))
  (zaa (zaq 6 sc.nd (zbb (r:=rIxT K) zby (pv 3) (zal) (λ_ _=>Z)))
  (zaa (zaq 7 sc.nd (zaw (za8 (K:=K) rfl) rfl T.b_len PySem.boot_len ((zab (zbb (r:=rIxL K) za6 (pv 2) (zal) (λ_ _=>Z)) zar))))
  (zaa (zaq 8 sc.nd (zau h6 hr ((zab (pv 0) (zab (zbb (r:=rIxL K) za6 (pv 1) (pv 5) (λ_ _=>Z)) (zab (zbb (r:=rIxL K) za6 (pv 1) (pv 6) (λ_ _=>Z)) (pa_1 4)))))))
  (zaa (ze9 (N:=["_law_f"]) (zas (i:=9) sc.nd rfl (Or.inl rfl)) (Blk.plain (by decide +kernel) (by decide +kernel) rfl (by decide +kernel) zj2) rfl (zcq (K:=K) rfl (pv 1)) (λC0 s0 H0 c9=>zdr (i:=0) zj2 rfl rfl) (λC0 s0 H0 c9=>zbs) (λC0 s0 H0 c9=>za2))
  (zaa (zaq 10 sc.nd (zau c2 hr ((zab (pv 0) (zab (zbb (r:=rIxL K) za6 (pv 1) (pv 5) (λ_ _=>Z)) zar)))))
  (zaa (zaq 11 sc.nd (zau c2 hr ((zab (pv 0) (zab (zbb (r:=rIxL K) za6 (pv 1) (pv 6) (λ_ _=>Z)) zar)))))
  (zaa (zaq 12 sc.nd (za9 (zbl (K:=K) rfl) rfl T.b_tuple (by kernel_rfl) ((zab (zb5 (N:=["_law_a","_law_b"]) (Blk.plain (by decide +kernel) (by decide +kernel) rfl (by decide +kernel) zbc) rfl (zcu (K:=K) rfl true true rfl T.b_zip (pa_2 10 11)) (λC0 s0 H0 c9=>zen (K:=K) rfl rfl rfl zbc rfl rfl) (λC0 s0 H0 c9=>zbs) (λC0 s0 H0 c9=>zaw (zde rfl) rfl T.b_max (by kernel_rfl) (pa_2 0 1))) zar))))
  (zaa (zhx (zef hr.units0 (zau c0 hr (pa_2 12 10)) (zbf (uOne hr) (zbb (r:=rIxL K) za6 (pv 1) (pv 6) (λ_ _=>Z)) (pv 11) (λ_ _=>Z))) (zhm (pv 9) (pv 5) zed))
  (zaa (zhx (zef hr.units0 (zau c0 hr (pa_2 12 11)) (zaz zb6 (zm8 zh0 (zbf (uOne hr) (zbb (r:=rIxL K) za6 (pv 1) (pv 5) (λ_ _=>Z)) (pv 10) (λ_ _=>Z))) (pv 4))) (zhm (pv 9) (pv 6) zed))
  (zaa (zaq 13 sc.nd (zau f7 hr ((zab (pv 0) (pa_3 8 1 4)))))
  (zaa (zbi (zat (zf0 (K:=K) rfl hr.units) (zbb (r:=rIxT K) zby (pv 13) (zal) (λ_ _=>Z)) (za2) (nomark _)) (zah (zao (zcs))) zax)
  (zaa (zbm PassesOwn.never rfl (zbq rfl T.b_range ((zab (zaw (za8 (K:=K) rfl) rfl T.b_len PySem.boot_len (pa_1 1)) zar))) (zas (i:=14) sc.nd rfl (Or.inl rfl)) (zah (zhx (zau d3 hr ((zab (zbb (r:=rIxL K) za6 (pv 9) (pv 14) (λ_ _=>Z)) (zab (zm8 zh0 zal) (zab (zbb (r:=rIxL K) za6 (zbb (r:=rIxT K) zby (pv 13) (zal) (λ_ _=>Z)) (pv 14) (λ_ _=>Z)) (pa_1 4)))))) (zhm (pv 9) (pv 14) zed))))
  (zaa (zb4 (zkj PySem.F.plainAttrs_list PySem.F.slot_list_append PySem.F.type_list_append zdf (pv 2) ((zab (zau i0 hr ((zab (pv 2) (pa_3 9 7 4)))) zar))))
  (zaa (zb4 (zkj PySem.F.plainAttrs_list PySem.F.slot_list_append PySem.F.type_list_append zdf (pv 1) ((zab (zbb (r:=rIxT K) zby (pv 13) (zal) (λ_ _=>Z)) zar))))
  (zah (zao (zcs)))))))))))))))))),?_⟩
 obtain⟨pn,n9,k0,k3,wn,wb,hp,hB,nz,tm,j0,hi,hj,hL,ll,ld,m6,k6,kf,kt⟩:=h;have n0:=zct pn;have n2:=pn.1;have lb:=hB.b;have h9:∀{H':Hp},Same H H'->AtK zac zae zaj zac kd ws H' p:=λs=>zcb (λb C dx fs hb=>s _ _ hb) (λb xs hb=>s _ _ hb) hp
 have h2:O[0]? = some (O[0]'(by lia)):=Yc _;generalize O[0]'(by lia)=la at h2;have l1:=hL.row 0 la h2;have l0:=ld 0 (by lia);have a0:atI (O.map V.ref) 0=some (.ref la):=zbh (j:=0) (by rw[Ym,h2];rfl);have g5:ds[i]? = some ds[i]:=Yc hi;have h7:ds[j]? = some ds[j]:=Yc hj;generalize ds[i]=di at g5;generalize ds[j]=dj at h7;have ai:atI (ds.map V.ref) (i:Int)=some (.ref di):=zbh (by rw[Ym,g5];rfl);have aj:atI (ds.map V.ref) (j:Int)=some (.ref dj):=zbh (by rw[Ym,h7];rfl);have g4:=hB.row i di g5;have i1:=hB.row j dj h7;refine sab λrr d=>?_
 refine⟨_,Z,pl,_,0,_,Z,Z,SqT.of j0,Z,?_⟩;dsimp only[zap];subst d;refine sab λrr d=>?_
 refine⟨_,Z,pl,_,1,_,Z,Z,SqT.of j0,Z,?_⟩;dsimp only[zap];subst d;refine sab λrr d=>?_
 refine⟨_,Z,ls,_,0,_,Z,Z,SqL.of hL.at_,a0,la,_,Z,.inl (SqL.of l1.at_),?_⟩;rw[Yd,l0];dsimp only[zap];subst d;refine sab λrr d=>?_
 refine⟨_,Z,_,Z,_,Z,b,_,_,_,Z,Z,SqL.of hB.at_,ai,_,Z,_,Z,b,_,_,_,Z,Z,SqL.of hB.at_,aj,_,Z,F,fF,n,cF,p,di,dj,kd,ws,gs i,gs j,10,Z,pn,n9,k0,k3,wn,wb,hp,g4,i1,by decide,nz i hi,nz j hj,tm i,tm j,λd1 H1 χ nd1 s1 d7=>?_⟩;dsimp only[zap];subst d;refine sab λrr d=>?_
 refine zig (H1:=H1) (zeb (K:=K) (SqL.of (s1 _ _ hB.at_))) (by rw[Yd,sizeLine_eq];lia) (λR hR=>⟨_,Z,b,Z,⟨_,SqL.of (s1 _ _ hB.at_)⟩,hR⟩) λI H2 S f3 e2 f1 i7 f4=>?_
 rw[Yd]at i7;dsimp only[zap];subst d;have s2:=s1.trans e2;have J:H I=none:=s1.free f3;have f2:FR F n kd 20 H H2 I S:=⟨f1,λx hx=>⟨s1.free (f4 x hx).1,λ_=>0,[],(f4 x hx).2,PF.nil,Bd.zero⟩⟩;have c4:=d7.same e2;refine sab λrr d=>?_
 refine⟨_,Z,_,Z,_,Z,b,_,_,_,Z,Z,SqL.of (s2 _ _ hB.at_),ai,F,fF,n,cF,p,di,kd,ws,gs i,Z,k0,k3,wn,wb,h9 s2,(g4.same s2).up (by decide),λz=>(let ⟨t,ht⟩:=nz i hi;absurd (z t) ht),λa1 m H3 e3 i5 h3=>?_⟩;dsimp only[zap];subst d;have s3:=s2.trans e3;refine sab λrr d=>?_
 refine⟨_,Z,_,Z,_,Z,b,_,_,_,Z,Z,SqL.of (s3 _ _ hB.at_),aj,F,fF,n,cF,p,dj,kd,ws,gs j,Z,k0,k3,wn,wb,h9 s3,(i1.same s3).up (by decide),λz=>(let ⟨t,ht⟩:=nz j hj;absurd (z t) ht),λa2 G H4 e4 h4 h5=>?_⟩;dsimp only[zap];subst d;have s4:=s3.trans e4;have b7:=e4 _ _ i5;have u1:=hB.sp i m h3.1;have u2:=hB.sp j G h5.1;refine sab λrr d=>?_
 show tComp _ _ _ _ _ _ _ _;refine zco (K:=K) (b1:=true) (b2:=true) (a:=a1) (b:=a2) (xs:=m) (ys:=G) yes2 (λx y=>.int (mx x y)) (by rfl) ?_ (SqT.of b7) (SqT.of h4) (by rw[u1.len];decide) ?_ ?_ λD H5 e5 h1=>?_
 ·exact λR hR=>⟨_,Z,_,Z,hR⟩
 ·exact λ_ _ _ h=>h
 ·exact λi H' R _ h=>⟨_,Z,_,Z,_,_,Z,h⟩
 rw[zgc (λx y=>mx x y)]at h1;refine⟨D,_,Z,.inl ⟨SqL.of h1,λa3 j3=>?_⟩⟩;have e6:Same H5 (upd H5 a3 (.tup ((za3 m G).map V.int))):=Same.upd j3;have d6:(upd H5 a3 (HO.tup ((za3 m G).map V.int))) a3=some (.tup ((za3 m G).map V.int)):=zad;have e0:(HO.tup ((List.zipWith (λx y=>mx x y) m G).map V.int))=HO.tup ((za3 m G).map V.int):=rfl;rw[e0];generalize upd H5 a3 (HO.tup ((za3 m G).map V.int))=H6 at e6 d6 ⊢;dsimp only[zap];subst d;have b9:=e5.trans e6;have s6:=s4.trans b9;have g9:=e3.trans (e4.trans b9);have f6:=f2.same g9;have g6:=c4.same g9;have c3:=b9 _ _ b7;have c8:=b9 _ _ h4;have tM:=zd0 u1 u2;obtain⟨g1,g2⟩:=zgo u1 u2;have v1:=T0.sub tM u1 g1;have v2:=T0.sub tM u2 g2;have wM:=zks (kd:=kd) u1 u2;have w1:=hB.bd i m h3.1;have w2:=hB.bd j G h5.1;have wp1:=wt_p (kd:=kd) u1;have wp2:=wt_p (kd:=kd) u2;have ws1:wt kd (subT (za3 m G) m)=wt kd (za3 m G)-wt kd m:=zg3 (by rw[tM.len,u1.len]);have ws2:wt kd (subT (za3 m G) G)=wt kd (za3 m G)-wt kd G:=zg3 (by rw[tM.len,u2.len]);have m8:(za3 m G).length=m.length:=by rw[tM.len,u1.len]
 have l7:(za3 m G).length=G.length:=by rw[tM.len,u2.len]
 have lM:(za3 m G).length<=1000:=by rw[tM.len];decide
 generalize za3 m G=mt at *;clear e3 e4 e5 e6 h1 i5 h4 b7 j3 e0 f1 f4 f2 c4 d7 e2 f3 b9 g9;have vg:∀{f:Ka} {M:Lc->Int} {x:Lc},IZ 2 f M->M x≠0->valV f (ky x)=some (.int (M x)):=fun{f M x} i z=>by
  cases q:valV f (ky x) with
  | none=>exact absurd (i.out x q) z
  | some v=>rw[i.val x v q]
 obtain⟨fvs,hf,pf,bf⟩:=g4;obtain⟨gvs,hg,pg,bg⟩:=i1;obtain⟨A,iA,eA,bA,zA⟩:=pf.iz n0;obtain⟨B,iB,eB,bB,zB⟩:=pg.iz n0;have az:=zA m h3.1;have bz:=zB G h5.1;have ab:=bA m;have bb:=bB G;refine sab λrr d=>?_
 intro q1 a9;obtain⟨H7,uq,e7,c5⟩:=nwH a9 (.dT []);rw[uq];clear uq;have s7:=s6.trans e7;refine⟨_,rfl,_,rfl,a3,a1,mt,m,rfl,e7 _ _ d6,e7 _ _ c3,m8,lM,λo1 H8 e8 j9=>?_⟩;have s8:=s7.trans e8;have Y:=e7.trans e8;have dB:DGet H8 dj (.ref a2) (some (.int (B G))):=by rw[<- vg iB bz];exact DGet.t (s8 _ _ hg) (by rw[zce];exact Y _ _ c8)
 have U:=e8 _ _ c5;refine⟨_,Z,_,Z,b,_,_,_,Z,Z,SqL.of (s8 _ _ hB.at_),aj,_,Z,dj,_,Z,dB,o1,ky (subT mt m),Z,U,by rw[zce];exact j9,?_⟩;have P9:PB n kd 20 (upd H8 q1 (.dT [(ky (subT mt m),.int (B G))])) q1 (setP (λ_=>(0:F)) (subT mt m) (ic (B G))):=zho pn U v1 (by lia) (by lia) (by lia);have f9:FR F n kd 20 H (upd H8 q1 (.dT [(ky (subT mt m),.int (B G))])) I S:=(f6.same Y).upd1 U (f6.new a9);have a4:PB n kd (10+10) (upd H8 q1 (.dT [(ky (subT mt m),.int (B G))])) d1 χ:=(g6.same Y).upd1 U (g6.new a9);have f8:Fix H8 (upd H8 q1 (.dT [(ky (subT mt m),.int (B G))])):=zbd U;have s9:Same H (upd H8 q1 (.dT [(ky (subT mt m),.int (B G))])):=λc o X=>(zaf (zag X (s6.free a9))).trans (s8 _ _ X)
 generalize upd H8 q1 (HO.dT [(ky (subT mt m),V.int (B G))])=H9 at P9 f9 a4 f8 s9 ⊢;refine⟨_,Z,_,Z,I,_,_,i,Z,Z,f9.1,by rw[Yd];exact zfd (by lia),?_⟩;have W:(S.map V.ref).set i (.ref q1)=(S.set i q1).map V.ref:=by rw[List.map_set]
 rw[W];have c1:=f9.put (i:=i) J (s6.free a9) P9;have a8:=a4.updL (ys':=(S.set i q1).map V.ref) f9.1;have b5:Fix H9 (upd H9 I (.lst ((S.set i q1).map V.ref))):=zdl f9.1;have c7:Same H (upd H9 I (.lst ((S.set i q1).map V.ref))):=λc o X=>(zaf (zag X J)).trans (s9 _ _ X)
 generalize upd H9 I (HO.lst ((S.set i q1).map V.ref))=HA at c1 a8 b5 c7 ⊢;have d0:Fix H6 HA:=(Fix.of Y).tr (f8.tr b5);show rr _ _ _;subst d;have b6:(S.set i q1).length=ds.length:=by rw[List.length_set];exact i7
 generalize S.set i q1=pd2 at c1 b6;have d9:=d0.tup _ _ c3;have f0:=d0.tup _ _ c8;have e1:=d0.tup _ _ d6;clear f8 b5 d0 s9 a4 f9 P9 U dB Y s8 j9 e8 s7 c5 e7 a9 W f6 g6 c3 c8 d6 H7 H8 H9;refine sab λrr d=>?_
 intro q2 b0;obtain⟨H7,uq,e7,c5⟩:=nwH b0 (.dT []);rw[uq];clear uq;have s7:=c7.trans e7;refine⟨_,rfl,_,rfl,a3,a2,mt,G,rfl,e7 _ _ e1,e7 _ _ f0,l7,lM,λo2 H8 e8 k1=>?_⟩;have s8:=s7.trans e8;have Y:=e7.trans e8;have dA:DGet H8 di (.ref a1) (some (.int (A m))):=by rw[<- vg iA az];exact DGet.t (s8 _ _ hf) (by rw[zce];exact Y _ _ d9)
 have U:=e8 _ _ c5;have em : -(A m)%n=n-A m:=by
  have : -(A m)%n=(-(A m)+n)%n:=by rw[Int.add_emod_right]
  rw[this,Int.emod_eq_of_lt (by lia) (by lia)];lia
 refine⟨_,Z,_,Z,b,_,_,_,Z,Z,SqL.of (s8 _ _ hB.at_),ai,_,Z,di,_,Z,dA,_,Z,_,Z,_,_,Z,Z,(by show (0:Int)<n;lia),o2,ky (subT mt G),Z,U,by rw[zce];exact k1,?_⟩
 try dsimp only
 rw[em];have P9:PB n kd 20 (upd H8 q2 (.dT [(ky (subT mt G),.int (n-A m))])) q2 (setP (λ_=>(0:F)) (subT mt G) (ic (n-A m))):=zho pn U v2 (by lia) (by lia) (by lia);have f9:FR F n kd 20 H (upd H8 q2 (.dT [(ky (subT mt G),.int (n-A m))])) I pd2:=(c1.same Y).upd1 U (c1.new b0);have a4:PB n kd (10+10) (upd H8 q2 (.dT [(ky (subT mt G),.int (n-A m))])) d1 χ:=(a8.same Y).upd1 U (a8.new b0);have s9:Same H (upd H8 q2 (.dT [(ky (subT mt G),.int (n-A m))])):=λc o X=>(zaf (zag X (c7.free b0))).trans (s8 _ _ X)
 generalize upd H8 q2 (HO.dT [(ky (subT mt G),V.int (n-A m))])=H9 at P9 f9 a4 s9 ⊢;refine⟨_,Z,_,Z,I,_,_,j,Z,Z,f9.1,by rw[Yd];exact zfd (by lia),?_⟩;have W:(pd2.map V.ref).set j (.ref q2)=(pd2.set j q2).map V.ref:=by rw[List.map_set]
 rw[W];have fB:=f9.put (i:=j) J (c7.free b0) P9;have i3:=a4.updL (ys':=(pd2.set j q2).map V.ref) f9.1;have sB:Same H (upd H9 I (.lst ((pd2.set j q2).map V.ref))):=λc o X=>(zaf (zag X J)).trans (s9 _ _ X)
 generalize upd H9 I (HO.lst ((pd2.set j q2).map V.ref))=HB at fB i3 sB ⊢;show rr _ _ _;subst d;have j1:(pd2.set j q2).length=ds.length:=by rw[List.length_set];exact b6
 generalize pd2.set j q2=pd3 at fB j1;clear s9 a4 f9 P9 U dA Y s8 k1 e8 s7 c5 e7 b0 W c1 a8 d9 f0 e1 H7 H8 H9 c7 b6 HA;refine sab λrr d=>?_
 refine⟨_,Z,_,Z,_,Z,_,Z,F,fF,n,cF,p,d1,b,kd,ws,χ,ds,gs,10+10,Z,pn,n9,k0,k3,wn,wb,h9 sB,i3,by decide,(hB.same sB).up (by decide),nz,tm,λq ql b3 rd HC ρ eC hq l6 m0 lq m3 m7 i9 rq=>?_⟩;dsimp only[zap];subst d;have sC:=sB.trans eC;have fC:=fB.same eC;refine sab λrr d=>?_
 refine⟨_,Z,q,_,1,_,Z,Z,SqT.of hq,Z,λd2 n1=>?_⟩;obtain⟨HD,uq,eD,l8⟩:=nwH n1 (.dT []);rw[uq];clear uq;have sD:=sC.trans eD;have m1:=i9.same eD;obtain⟨h0,i8,pR,bR⟩:=m1;obtain⟨da,kds,fl,_⟩:=pR.kds (K:=K);have g7:h0.length=da.length:=Paired.length kds;refine⟨rd,d2,h0,[],da,[],Z,Z,.inl i8,.inl l8,kds,.nil,fl,(λ_ z=>by cases z),_,Z,?_⟩
 cases hrv:h0 with
 | nil=>
  have:da=[]:=Y9.mp (by rw[<- g7,hrv];rfl);subst this;refine iteT ?_;exact kf _ sD
 | cons x0 l0=>
 have l2:eqKD da []=false:=by
  unfold eqKD
  cases da with
  | nil=>rw[hrv]at g7;simp at g7
  | cons x l=>rfl
 have m2:∃t,ρ t≠0:=Classical.byContradiction λz=>by
  have:=pR.empty.mpr λt=>Classical.byContradiction λw=>z ⟨t,w⟩
  rw[hrv]at this;cases this
 clear hrv;rw[l2];refine iteF ?_;show rr _ _ _;subst d;have fD:=fC.same eD;have j5:=eD _ _ hq;have k4:=eD _ _ m0;have k5:∀x∈b3,∃ψ : Po F,PB n kd (10+10) HD x ψ:=λx hx=>let ⟨ψ,z⟩:=(m3 x hx).2;⟨ψ,z.same eD⟩
 have g8:HB I≠none:=by rw[fB.1];exact λz=>nomatch z
 refine sab λrr d=>?_
 refine⟨_,Z,b,_,Z,.inl (SqL.of (sD _ _ hB.at_)),_,Z,by rw[Yd];lia,by rw[Yd];lia,?_⟩;rw[Yd,Y1];refine zcl (λkk σ H'=>(∃g0,σ = [some (.ref p),some (.ref b),some (.ref ls),some (.ref pl),some (.int n),some (.int i),some (.int j),some (.int e9),some (.ref d1),some (.ref I),some (.ref a1),some (.ref a2),some (.ref a3),some (.ref q),g0])/\Kp [I] HD H'/\∃S,FR F n kd 20 H H' I S/\S.length=ds.length) ?_ ?_ ?_
 ·exact⟨⟨none,Z⟩,Kp.refl _ _,pd3,fD,j1⟩
 ·rintro kk σ HE hk ⟨⟨g0,rfl⟩,kE,L,fE,lE⟩;rw[Int.zero_add];dsimp only[zap];have b8:Fix HD HE:=kE.fix λy hy o ho=>by
   rw[Yq.mp hy,fD.1]at ho;cases ho;exact .inr (.inl ⟨_,Z⟩)
  have d4:=b8.tup _ _ j5;have i4:HE ql=some (.lst (b3.map V.ref)):=kE _ _ k4 (by simp;exact λz=>g8 (z ▸ l6));have h8:b3[kk]? = some (b3[kk]'(by lia)):=Yc _;generalize b3[kk]'(by lia)=qx at h8;have g3:L[kk]? = some (L[kk]'(by lia)):=Yc _;generalize L[kk]'(by lia)=px at g3;have a5:atI (L.map V.ref) (kk:Int)=some (.ref px):=zbh (by rw[Ym,g3];rfl);have a6:atI (b3.map V.ref) (kk:Int)=some (.ref qx):=zbh (by rw[Ym,h8];rfl);obtain⟨k9,d7⟩:=(fE.2 px (Yx g3)).2;obtain⟨j6,c4⟩:=k5 qx (Yx h8);have j8:PB n kd 20 HE qx j6:=c4.keep b8 λo ho=>kE _ _ ho (by
   obtain⟨kv,hx,_⟩:=c4;simp;exact za7 hx fD.1 (by intro z;cases z))
  refine⟨_,Z,_,Z,I,_,_,_,Z,Z,SqL.of fE.1,a5,_,Z,_,Z,q,_,0,_,Z,Z,SqT.of d4,Z,_,Z,ql,_,_,_,Z,Z,SqL.of i4,a6,_,Z,F,fF,n,cF,kd,px,qx,k9,j6,20,-1,Z,pn,n9,by decide,by decide,by decide,d7,j8,λd5 H5 k7 e5 l5=>?_⟩;have f5:=fE.same e5;have sE:Same H HE:=λc o X=>kE _ _ (sD _ _ X) (by simp[zag X J])
  refine⟨_,Z,_,Z,I,_,_,kk,Z,Z,f5.1,by rw[Yd];exact zfd (by lia),?_⟩;have j7:(L.map V.ref).set kk (.ref d5)=(L.set kk d5).map V.ref:=by rw[List.map_set]
  rw[j7];exact⟨⟨_,Z⟩,(kE.tr (.of e5)).tr (Kp.upd (by simp)),L.set kk d5,f5.put J (sE.free k7) l5,by rw[List.length_set];exact lE⟩
 ·rintro σ HE ⟨⟨g0,rfl⟩,kE,L,fE,lE⟩;show rr _ _ _;subst d;have sE:Same H HE:=λc o X=>kE _ _ (sD _ _ X) (by simp[zag X J])
  have b8:Fix HD HE:=kE.fix λy hy o ho=>by
   rw[Yq.mp hy,fD.1]at ho;cases ho;exact .inr (.inl ⟨_,Z⟩)
  have d4:=b8.tup _ _ j5;have m5:PB n kd 20 HE rd ρ:=(i9.same eD).keep b8 λo ho=>kE _ _ ho (by simp;exact za7 i8 fD.1 (by intro z;cases z))
  refine sab λrr d=>?_
  refine⟨_,Z,.inl ⟨Z,_,SqL.of (sE _ _ hL.at_)⟩,_,Z,_,Z,_,Z,_,Z,F,fF,n,cF,kd,ls,I,O,L,l4,m4,e9,20,0,Z,pn,n9,hL.same sE,ld,m6,fE.1,by lia,λx hx=>(fE.2 x hx).2,λi' m9 x hx y hy z=>?_,by decide,by decide,by decide,λfl l3 HF c6 eF n3 lf=>?_⟩
  ·obtain⟨i2,hi2⟩:=Jd.mp hy;obtain⟨kv,j4,_⟩:=(hL.row i' _ (Yc m9)).row i2 y hi2;rw[<- z,(fE.2 x hx).1]at j4;cases j4
  have sF:=sE.trans eF;have a7:=sF _ _ hL.at_;have n4:=sF _ _ hB.at_;have lbl:=hL.b;refine⟨ls,_,_,Z,Z,a7,by rw[Yd,sizeLine_eq];lia,?_⟩;show rr _ _ _;subst d;have l9:fl≠ls:=λz=>by rw[z,sE _ _ hL.at_]at c6;cases c6
  have k8:fl≠b:=λz=>by rw[z,sE _ _ hB.at_]at c6;cases c6
  have i6:=(m5.same eF).updL (ys':=O.map V.ref++[.ref fl]) a7;have fG:=(n3.old sE).updL (ys':=O.map V.ref++[.ref fl]) a7 l9;have j2:(upd HF ls (.lst (O.map V.ref++[.ref fl]))) q=some (.tup [.ref ql,.ref rd]):=(zaf (za7 (eF _ _ d4) a7 (by intro z;cases z))).trans (eF _ _ d4);have b4:(upd HF ls (.lst (O.map V.ref++[.ref fl]))) b=some (.lst (ds.map V.ref)):=(zaf k6).trans n4;have d8:(upd HF ls (HO.lst (O.map V.ref++[.ref fl]))) ls=some (.lst (O.map V.ref++[.ref fl])):=zad;have kG:∀c o,H c=some o->c≠ls->(upd HF ls (HO.lst (O.map V.ref++[.ref fl]))) c=some o:=λc o X nc=>(zaf nc).trans (sF _ _ X)
  generalize upd HF ls (HO.lst (O.map V.ref++[V.ref fl]))=HG at i6 fG j2 b4 d8 kG ⊢;refine⟨_,Z,.inl ⟨Z,_,SqL.of b4⟩,_,Z,q,_,1,_,Z,Z,SqT.of j2,Z,b,_,_,Z,Z,b4,by rw[Yd,sizeLine_eq];lia,?_⟩;refine kt _ rd fl l3 ρ (λc o X nc=>?_) ?_ ?_ (sB.free m7) (sE.free c6) (i6.updL b4) m2 (fG.updL b4 k8) lf
  ·simp at nc
   exact(zaf nc.1).trans (kG c o X nc.2)
  ·rw[zad,List.map_append];rfl
  ·rw[zaf (Jb k6),d8,List.map_append];rfl
def zx9(F:FunD K "_law_base" "_law_base" zg5 .none f fd)(b5:Cq T 11 "_law_more" Pg [] (spMo5 zac zae zaj zac)):Fq T 13 f fd Pk (spBa5 zac zae zaj zac):=by
 refine okS ["_law_order_here","_law_told","_law_wide","_law_prime_here","_law_many","_law_base_here","_law_lists","_law_k","_law_first","_law_count","_law_j","_law_i"] F λsc=>?_
 walk_at "o";rename_i F fF n cF p td kd ws B ts I;walk_at "h"
 refine⟨_,(zaa (zaq 4 sc.nd (zaw (za8 (K:=K) rfl) rfl T.b_len PySem.boot_len (pa_1 1)))
  (zaa (zaq 5 sc.nd (zmh (zar)))
  (zaa (zaq 6 sc.nd (zmh (zar)))
  (zaa (zbm PassesOwn.never rfl (zbq rfl T.b_range (pa_1 4)) (zas (i:=7) sc.nd rfl (Or.inr rfl)) (zah (zbi (zat (zeg (K:=K) rfl hr.units) (zbb (r:=rIxL K) za6 (pv 1) (pv 7) (λ_ _=>Z)) (za2) (nomark _)) (zaa (zb4 (zkj PySem.F.plainAttrs_list PySem.F.slot_list_append PySem.F.type_list_append zdf (pv 5) ((zab (za9 zc0 rfl T.b_dict (by kernel_rfl) ((zab (zbb (r:=rIxL K) za6 (pv 1) (pv 7) (λ_ _=>Z)) zar))) zar))))
  (zah (zb4 (zkj PySem.F.plainAttrs_list PySem.F.slot_list_append PySem.F.type_list_append zdf (pv 6) ((zab (zb5 (N:=["_law_i","_law_k"]) (cl:=[("_law_k",s.heap.objs.size+1)]) (mp:=[none,some 7]) (Blk.of rfl (by decide +kernel) rfl (by decide +kernel) zds (zbn rfl zcy) (zii (fs:=["_law_k"]) rfl (by decide +kernel)) rfl (zb7 (zbj rfl (.inl rfl) rfl zcx))) rfl (zbq rfl T.b_range (pa_1 4)) (λC0 s0 H0 d5=>zdr (i:=0) zds rfl rfl) (λC0 s0 H0 d5=>zbs) (λC0 s0 H0 d5=>zrf (zat zd1 (pv 0) (pv 1) (nomark _)) (zef hr.units0 (zci ((zab (zal) (zab (zal) zar)))) (zal)) (za2))) zar)))))) zax)))
  (zaa (zaq 8 sc.nd (zaw (za8 (K:=K) rfl) rfl T.b_len PySem.boot_len (pa_1 5)))
  (zaa (zaq 9 sc.nd (zal))
  (zaa (zbm PassesOwn.never rfl (zbq rfl T.b_range (pa_1 8)) (zas (i:=10) sc.nd rfl (Or.inl rfl)) (zah (zbm PassesOwn.never rfl (zbq rfl T.b_range (pa_1 10)) (zas (i:=11) sc.nd rfl (Or.inl rfl)) (zah (zbi (zat zmx (pv 9) (pv 2) (nomark _)) (zah (zaq 9 sc.nd (zaz zcr (pv 9) (za9 zqh rfl T.b_int (by kernel_rfl) ((zab (zau b5 hr ((zab (pv 0) (zab (pv 5) (zab (pv 6) (zab (zci (pa_2 11 10)) (pa_1 3))))))) zar)))))) zax)))))
  (zah (zao (zci (pa_2 5 6))))))))))),?_⟩
 obtain⟨pn,n9,k0,k3,wn,wb,hp,hT,tm,l3,wd,k⟩:=h;have n2:=pn.1;have g8:∀{H':Hp},Same H H'->AtK zac zae zaj zac kd ws H' p:=λs=>zcb (λb C dx fs hb=>s _ _ hb) (λb xs hb=>s _ _ hb) hp
 refine sab λrr m=>?_
 refine⟨_,Z,td,_,Z,.inl (SqL.of hT.at_),?_⟩;rw[Yd];dsimp only[zap];subst m;refine sab λrr m=>?_
 refine⟨(by show 0<=sizeLine;decide),λb nb=>?_⟩;obtain⟨H1,uq,e1,c3⟩:=nwH nb (.lst []);dsimp only[zap];rw[uq];clear uq;subst m;refine sab λrr m=>?_
 refine⟨(by show 0<=sizeLine;decide),λL O=>?_⟩;obtain⟨H2,uq,e2,f9⟩:=nwH O (.lst []);dsimp only[zap];rw[uq];clear uq;subst m;have b9:H L=none:=e1.free O;have a8:b≠L:=λz=>by rw[<- z,c3]at O;cases O
 have f4:=e2 _ _ c3;have s2:=e1.trans e2;have d6:Mk kd<=99:=Int.le_trans (zoq kd) (by decide);refine sab λrr m=>?_
 refine⟨_,Z,_,Z,by lia,by lia,?_⟩;rw[Y1];refine zcl (λkk U H'=>kk<=B.length/\(∃v7,U = [some (.ref p),some (.ref td),some (.int I),some (.int n),some (.int B.length),some (.ref b),some (.ref L),v7,none,none,none,none])/\Same H H'/\∃M G,FQ (F:=F) (Pgood kd ws) n kd (Mk kd) H H' b M/\LQ F n kd 0 H H' L G B.length/\M.length<=kk/\G.length=M.length/\b ∉ G/\L ∉ G) ?_ ?_ ?_
 ·exact⟨Y2 _,⟨none,Z⟩,s2,[],[],⟨f4,λx hx=>nomatch hx⟩,⟨f9,λx hx=>nomatch hx⟩,Yi _,Z,by simp,by simp⟩
 ·rintro kk U H3 hk ⟨_,⟨v7,rfl⟩,s3,M,G,fq,lq,g0,a0,X,Y⟩;rw[Int.zero_add];dsimp only[zap];have a9:B[kk]? = some B[kk]:=Yc hk;generalize B[kk]=dk at a9;have a1:atI (B.map V.ref) (kk:Int)=some (.ref dk):=zbh (by rw[Ym,a9];rfl);obtain⟨cr,g1,pf,bf⟩:=hT.row kk dk a9;refine⟨_,rfl,_,rfl,td,_,_,_,rfl,rfl,SqL.of (s3 _ _ hT.at_),a1,λd2 g4=>?_⟩;obtain⟨H4,uq,e4,h0⟩:=nwH g4 (.dT []);rw[uq];clear uq;have s4:=s3.trans e4;have d0:=pf.same s4;have b8:=s4 _ _ g1;obtain⟨da,kds,fl,_⟩:=d0.kds (K:=K);have b0:cr.length=da.length:=Paired.length kds;refine⟨dk,d2,cr,[],da,[],rfl,rfl,.inl b8,.inl h0,kds,.nil,fl,(λ_ z=>by cases z),_,rfl,?_⟩
  cases hkv:cr with
  | nil=>
   have:da=[]:=Y9.mp (by rw[<- b0,hkv];rfl);subst this;refine iteF ?_;exact⟨hk,⟨_,Z⟩,s4,M,G,fq.same e4,lq.same e4,by lia,a0,X,Y⟩
  | cons x0 l0=>
  have g2:eqKD da []=false:=by
   unfold eqKD
   cases da with
   | nil=>rw[hkv]at b0;simp at b0
   | cons x l=>rfl
  have a7:∃t,ts kk t≠0:=Classical.byContradiction λz=>by
   have:=pf.empty.mpr λt=>Classical.byContradiction λw=>z ⟨t,w⟩
   rw[hkv]at this;cases this
  clear hkv;rw[g2];refine iteT ?_;have c5:=fq.same e4;have d7:=lq.same e4;refine sab λrr m=>?_
  refine⟨_,Z,.inl ⟨Z,_,SqL.of c5.1⟩,_,Z,_,Z,td,_,_,_,Z,Z,SqL.of (s4 _ _ hT.at_),a1,dk,cr,Z,b8,Bd.hds d0 (bf.up d6),λx nx=>?_⟩;obtain⟨H5,uq,e5,g5⟩:=nwH nx (.dT cr);rw[uq];clear uq;have s5:=s4.trans e5;have a6:=c5.same e5;have f8:=d7.same e5;refine⟨b,_,_,Z,Z,a6.1,by rw[Yd,sizeLine_eq];lia,?_⟩;have b6:=a6.snoc (s4.free nx) ⟨cr,g5,pf.same s5,bf⟩ ⟨a7,tm kk⟩;have a3:=f8.updL (ys':=M.map V.ref++[.ref x]) a6.1 (Jb a8) X;have s6:Same H (upd H5 b (.lst (M.map V.ref++[.ref x]))):=λc o S=>(zaf (zag S nb)).trans (s5 _ _ S)
  show rr _ _ _;generalize upd H5 b (HO.lst (M.map V.ref++[V.ref x]))=H6 at b6 a3 s6 ⊢;subst m;refine⟨_,Z,.inl ⟨Z,_,SqL.of a3.1⟩,?_⟩;show tComp _ _ _ _ _ _ _ _;refine zdi (H1:=H6) (zdj 0 (Int.toNat (B.length:Int))) (by rw[Y1,sizeLine_eq];lia) (λR hR=>⟨_,Z,_,Z,by lia,by lia,hR⟩) (λU=>∃v,U = [v,some (.int kk)]) (λ_=>true) (λi v H'=>∃x,v=.ref x/\H6 x=none/\∃ψ : Po F,PB n kd 0 H' x ψ) (λi v Ha Hb e q=>let ⟨x,h1,h2,ψ,h3⟩:=q;⟨x,h1,h2,ψ,h3.same e⟩) (λi v Ha a ys ys' hl q=>let ⟨x,h1,h2,ψ,h3⟩:=q;⟨x,h1,h2,ψ,h3.updL hl⟩) ⟨none,Z⟩ (λi y σ' H7 hi hS e7 hy Ny Nn d4 hNn=>?_) λla H7 ys a2 e7 e0 d3=>?_
  ·obtain⟨v,rfl⟩:=hS;subst hy;unfold tYes;dsimp only[zap];rw[Yl rfl];refine⟨_,Z,_,Z,Z,_,Z,cEq (λc=>?_) (λc=>?_)⟩
   ·intro q nq;refine⟨(by show 2<=sizeLine;decide),λa na=>?_⟩;have qa:q≠a:=λz=>by rw[<- z,zad]at na;cases na
    refine⟨a,ky [0,0],Z,(zaf qa).trans zad,zad,?_⟩;refine d4 _ _ _ ⟨_,Z⟩ (λc o S=>?_) ⟨q,Z,e7.free nq,_,zho (F:=F) (kd:=kd) (l:=[0,0]) (z:=1) pn ((zaf qa).trans zad) (T0.of rfl λx hx=>by simp at hx;lia) (by decide) (by lia) (by unfold wt;simp)⟩ rfl;have c2:=na;rw[zaf (Jb qa)]at c2;rw[zaf (zag S nq),zaf (zag S c2),zaf (zag S nq)];exact S
   ·exact λd nd=>d4 _ _ _ ⟨_,Z⟩ (Same.upd nd) ⟨d,Z,e7.free nd,λ_=>0,[],zad,PF.nil,Bd.zero⟩ rfl
  ·rw[Yu.mpr (λ_ _=>Z)]at d3;obtain⟨c8,rfl,lf,hf⟩:=zee d3;rw[List.length_range,Y1]at lf;have b7:=a3.same e7;have f0:=b6.same e7;have a5:la≠L:=λz=>by rw[z,a3.1]at a2;cases a2
   have g9:la≠b:=λz=>by rw[z,b6.1]at a2;cases a2
   refine⟨L,_,_,Z,Z,b7.1,by rw[Yd,sizeLine_eq];lia,?_⟩;refine⟨hk,⟨_,Z⟩,λc o S=>(zaf (zag S b9)).trans (e7 _ _ (s6 _ _ S)),M++[x],G++[la],f0.updL b7.1 a8,b7.snoc Y (s6.free a2) a5 ⟨e0,λy hy=>⟨s6.free (hf y hy).1,(hf y hy).2⟩⟩ lf,by simp;lia,by simp;lia,?_,?_⟩
   ·simp;exact⟨X,Jb g9⟩
   ·simp;exact⟨Y,Jb a5⟩
 ·rintro U H3 ⟨_,⟨v7,rfl⟩,s3,M,G,fq,lq,g0,a0,X,Y⟩;show rr _ _ _;subst m;refine sab λrr m=>?_
  refine⟨_,Z,b,_,Z,.inl (SqL.of fq.1),?_⟩;rw[Yd];dsimp only[zap];subst m;refine sab λrr m=>?_
  show rr _ _ _;subst m;refine sab λrr m=>?_
  refine⟨_,Z,_,Z,by lia,by lia,?_⟩;rw[Y1];have e8:∀H',Same H3 H'->∃D j,FQ (F:=F) (Pgood kd ws) n kd 35 H H' b D/\LQ F n kd 20 H H' L j B.length/\D.length<=4/\j.length<=4:=λH' e=>⟨M,G,(fq.same e).up (zoq kd),(lq.same e).up (by decide),by lia,by lia⟩
  generalize hS:(fun(c:Int) (H':Hp)=>(c=0/\Same H3 H')\/(c=1/\I=1/\Same H H'/\∃D j,FQ (F:=F) (Pgood kd ws) n kd 35 H H' b D/\LQ F n kd 20 H H' L j B.length/\D.length<=4/\j.length<=4))=St;have eS:∀c H',St c H'↔(c=0/\Same H3 H')\/(c=1/\I=1/\Same H H'/\∃D j,FQ (F:=F) (Pgood kd ws) n kd 35 H H' b D/\LQ F n kd 20 H H' L j B.length/\D.length<=4/\j.length<=4):=λc H'=>by rw[<- hS]
  refine zcl (λjj U H'=>∃(c:Int) (b3 J:Option V),U = [some (.ref p),some (.ref td),some (.int I),some (.int n),some (.int B.length),some (.ref b),some (.ref L),v7,some (.int M.length),some (.int c),b3,J]/\St c H') ?_ ?_ ?_
  ·exact⟨0,none,none,Z,(eS _ _).mpr (.inl ⟨Z,Same.refl _⟩)⟩
  ·rintro jj U H4 hjj ⟨c,b3,J,rfl,st⟩;rw[Int.zero_add];dsimp only[zap];refine⟨_,rfl,_,rfl,by lia,by lia,?_⟩;rw[Y1];refine zcl (λii U H'=>∃(c:Int) (J:Option V),U = [some (.ref p),some (.ref td),some (.int I),some (.int n),some (.int B.length),some (.ref b),some (.ref L),v7,some (.int M.length),some (.int c),some (.int jj),J]/\St c H') ?_ ?_ ?_
   ·exact⟨c,J,Z,st⟩
   ·clear st;rintro ii U H5 hii ⟨c,J,rfl,st⟩;rw[Int.zero_add];dsimp only[zap];refine⟨_,Z,_,Z,_,_,Z,Z,_,Z,cD (λc1=>?_) (λc1=>?_)⟩
    ·rcases(eS _ _).mp st with⟨rfl,e5⟩ | ⟨rfl,w1,_⟩
     rotate_left
     ·lia
     have w1:I=1/\kd≠0:=by
      rcases wd with z | z
      ·lia
      ·exact z
     have h5:Mk kd=10:=Yh w1.2;rw[h5]at fq;obtain⟨gs,c4,hg⟩:=(fq.same e5).rb (by lia);obtain⟨g7,e9,f7,f6⟩:=(lq.same e5).lb (by lia) (by lia);refine⟨_,Z,_,Z,_,Z,_,Z,_,Z,_,Z,(by show 2<=sizeLine;decide),λpl g3=>?_⟩;have e6:Same H5 (upd H5 pl (.tup [.int ii,.int jj])):=Same.upd g3;have c7:(upd H5 pl (HO.tup [.int ii,.int jj])) pl=some (.tup [.int ii,.int jj]):=zad;show zff _ _ _ (upd H5 pl (HO.tup [V.int ii,V.int jj])) _;generalize upd H5 pl (HO.tup [V.int ii,V.int jj])=H6 at e6 c7 ⊢;have W:=e5.trans e6;have s6:=s3.trans W;have tg:∀i,Tame kd (rkk kd ws) (gs i):=λi=>by
      rcases Jg i M.length with z | z
      ·exact(hg i z).2
      ·rw[show gs i=λ_=>0 from funext (c4.out i z)];exact zsw
     refine⟨_,Z,F,fF,n,cF,p,b,L,pl,kd,ws,M,G,gs,g7,e9,ii,jj,B.length,Z,pn,n9,k0,k3,wn,wb,g8 s6,c4.same e6,λi hi=>(hg i hi).1,tg,c7,by lia,by lia,f7.same e6,a0,λi hi=>(f6 i hi).1,by lia,a8,λH7 e7=>?_,λH7 rd fl c8 ρ k7 h4 c0 f5 g6 c6 a7 e3 lf=>?_⟩
     ·refine .inr ⟨false,Z,_,_,Z,Z,0,_,Z,(eS _ _).mpr (.inl ⟨Z,W.trans e7⟩)⟩
     ·have d1:=(fq.same W).1;have a4:=(lq.same W).1;have d8:Fix H6 H7:=k7.fix λy hy o ho=>by
       rcases Yj.mp hy with z | z
       ·rw[z,d1]at ho;cases ho;exact .inr (.inl ⟨_,Z⟩)
       ·rw[Yq.mp z,a4]at ho;cases ho;exact .inr (.inl ⟨_,Z⟩)
      have c9:∀{x:Lg} {ψ:Po F} {N:Int},PB n kd N H6 x ψ->PB n kd N H7 x ψ:=fun{x ψ N} q=>q.keep d8 λo ho=>k7 _ _ ho (by
       obtain⟨kv,hx,_⟩:=q;simp;exact⟨za7 hx d1 (by intro z;cases z),za7 hx a4 (by intro z;cases z)⟩)
      have s7:Same H H7:=λc o S=>k7 _ _ (s6 _ _ S) (by simp;exact⟨zag S nb,zag S b9⟩)
      refine .inr ⟨true,Z,_,_,Z,Z,1,_,Z,(eS _ _).mpr (.inr ⟨Z,w1.1,s7,M++[rd],G++[fl],⟨h4,λx hx=>?_⟩,⟨c0,λa ha=>?_⟩,by simp;lia,by simp;lia⟩)⟩
      ·rcases Ju.mp hx with q | q
       ·obtain⟨nx,ψ,b4,d9⟩:=(fq.same W).2 x q;exact⟨nx,ψ,(c9 b4).up (by decide),d9⟩
       ·rw[Yq.mp q];exact⟨s6.free f5,ρ,c6.up (by decide),a7,ztd k0 k3 w1.2 c6.sp⟩
      ·rcases Ju.mp ha with q | q
       ·obtain⟨nx,fd,⟨f1,f2⟩,f3⟩:=(lq.same W).2 a q;refine⟨nx,fd,⟨k7 _ _ f1 (by simp;exact⟨λz=>X (z ▸ q),λz=>Y (z ▸ q)⟩),λy hy=>⟨(f2 y hy).1,let ⟨ψ,b4⟩:=(f2 y hy).2;⟨ψ,(c9 b4).up (by decide)⟩⟩⟩,f3⟩
       ·rw[Yq.mp q];exact⟨s6.free g6,c8,e3.old s6,lf⟩
    ·exact⟨c,_,Z,st⟩
   ·rintro U H5 ⟨c,J,rfl,st⟩;exact⟨c,_,_,rfl,st⟩
  ·rintro U H4 ⟨c,b3,J,rfl,st⟩;subst m;refine⟨_,rfl,_,rfl,(by show 2<=sizeLine;decide),λq nq=>?_⟩;have eq:Same H4 (upd H4 q (.tup [.ref b,.ref L])):=Same.upd nq;rcases(eS _ _).mp st with⟨_,e4⟩ | ⟨_,_,s4,D,j,f,l,b1,b2⟩
   ·obtain⟨D,j,f,l,b1,b2⟩:=e8 _ e4;exact k q b L D j _ ((s3.trans e4).trans eq) zad (f.same eq) (l.same eq) b1 b2
   ·exact k q b L D j _ (s4.trans eq) zad (f.same eq) (l.same eq) b1 b2
def zxq(F:FunD K "_law_back" "_law_back" zgm .none f fd) : Fq T 4 f fd Pv spBk:=by
 refine okS ["_law_told","_law_base_here","_law_prime_here","_law_rows","_law_f","_law_row","_law_k"] F λsc=>?_
 walk_at "o";rename_i F fF n cF kd td b b5 ds ts gs;walk_at "h"
 refine⟨_,(zaa (zaq 3 sc.nd (zmh (zar)))
  (zaa (zbm PassesOwn.never rfl (zcq (K:=K) rfl (pv 0)) (zas (i:=4) sc.nd rfl (Or.inl rfl)) (zaa (ze9 (N:=["_law_g"]) (zas (i:=5) sc.nd rfl (Or.inl rfl)) (Blk.plain (by decide +kernel) (by decide +kernel) rfl (by decide +kernel) zj1) rfl (zcq (K:=K) rfl (pv 1)) (λC0 s0 H0 b1=>zdr (i:=0) zj1 rfl rfl) (λC0 s0 H0 b1=>zbs) (λC0 s0 H0 b1=>za2))
  (zaa (zbm PassesOwn.never rfl (zbq rfl T.b_range ((zab (zaw (za8 (K:=K) rfl) rfl T.b_len PySem.boot_len (pa_1 1)) zar))) (zas (i:=6) sc.nd rfl (Or.inl rfl)) (zah (zbi (PW.pt (zs0 (zat (zf0 (K:=K) rfl hr.units) (zbb (r:=rIxL K) za6 (pv 1) (pv 6) (λ_ _=>Z)) (pv 4) (nomark _)) (zpu (zat (zm5 (K:=K) rfl hr.units) (zef hr.units0 (zci ((zab (zal) (zab (zal) zar)))) (zal)) (pv 5) rfl)))) (zah (zhx (zef hr.units0 (zci ((zab (zal) (zab (zal) zar)))) (zal)) (zhm (pv 5) (pv 6) zed))) zax)))
  (zah (zb4 (zkj PySem.F.plainAttrs_list PySem.F.slot_list_append PySem.F.type_list_append zdf (pv 3) (pa_1 5)))))))
  (zah (zao (pv 3))))),?_⟩
 obtain⟨pn,hT,hB,k⟩:=h;have n2:=pn.1;have lb:=hB.b;have lt:=hT.b;refine sab λrr y=>?_
 refine⟨(by show 0<=sizeLine;decide),λrl a1=>?_⟩;obtain⟨H1,uq,e1,b2⟩:=nwH a1 (.lst []);dsimp only[zap];rw[uq];subst y;refine sab λrr y=>?_
 refine⟨_,Z,td,Z,⟨_,SqL.of (e1 _ _ hT.at_)⟩,?_⟩;refine zf2 (K:=K) (a:=td) (xs:=b5.map V.ref) (λq W H'=>(∃v4 v5 S,W = [some (.ref td),some (.ref b),some (.int n),some (.ref rl),v4,v5,S])/\Same H H'/\∃B,LQ F n kd 0 H H' rl B ds.length/\B.length=q/\rl ∉ B) ?_ (λq W H' _ h=>SqL.of (h.2.1 _ _ hT.at_)) ?_ ?_
 ·exact⟨⟨none,none,none,Z⟩,e1,[],⟨b2,λx D=>nomatch D⟩,Z,by simp⟩
 ·rintro q x W H2 D ⟨⟨v4,v5,S,rfl⟩,s2,B,lq,lr,nr⟩;rw[Ym]at D;obtain⟨e,he,rfl⟩:=Option.map_eq_some_iff.mp D;have pe:=hT.row q e he;dsimp only[zap];refine sab λrr y=>?_
  refine zig (H1:=H2) (zeb (K:=K) (SqL.of (s2 _ _ hB.at_))) (by rw[Yd,sizeLine_eq];lia) (λR hR=>⟨_,Z,b,Z,⟨_,SqL.of (s2 _ _ hB.at_)⟩,hR⟩) λI H3 rds J e3 b6 a6 a8=>?_
  rw[Yd]at a6;dsimp only[zap];subst y;have s3:=s2.trans e3;have C:H I=none:=s2.free J;have f3:FR F n kd 0 H H3 I rds:=⟨b6,λx D=>⟨s2.free (a8 x D).1,λ_=>0,[],(a8 x D).2,PF.nil,Bd.zero⟩⟩;have L:I≠rl:=λz=>by rw[z,lq.1]at J;cases J
  refine sab λrr y=>?_
  refine⟨_,Z,b,_,Z,.inl (SqL.of (s3 _ _ hB.at_)),_,Z,by rw[Yd];lia,by rw[Yd];lia,?_⟩;rw[Yd,Y1];refine zcl (λkk W H'=>(∃S,W = [some (.ref td),some (.ref b),some (.int n),some (.ref rl),some (.ref e),some (.ref I),S])/\Kp [I] H3 H'/\∃rds,FR F n kd 0 H H' I rds/\rds.length=ds.length) ?_ ?_ ?_
  ·exact⟨⟨S,Z⟩,Kp.refl _ _,rds,f3,a6⟩
  ·rintro kk W O hk ⟨⟨S,rfl⟩,k4,j,f4,l4⟩;rw[Int.zero_add];dsimp only[zap];have X:ds[kk]? = some ds[kk]:=Yc hk;generalize ds[kk]=dg at X;have Y:atI (ds.map V.ref) (kk:Int)=some (.ref dg):=zbh (by rw[Ym,X];rfl);have s4:Same H O:=λc o m=>k4 _ _ (s3 _ _ m) (by simp[zag m C])
   obtain⟨gv,c1,c0,_⟩:=(hB.row kk dg X).same s4;obtain⟨ev,c3,b3,_⟩:=pe.same s4;obtain⟨da,b8,b9,_⟩:=c0.kds (K:=K);obtain⟨db,b7,b4,_⟩:=b3.kds (K:=K);refine⟨_,Z,_,Z,b,_,_,_,Z,Z,SqL.of (s4 _ _ hB.at_),Y,_,Z,dg,e,gv,ev,da,db,Z,Z,.inl c1,.inl c3,b8,b7,b9,b4,_,Z,?_⟩;refine cB (λc=>?_) (λc=>iteF ?_);rotate_left
   ·exact⟨⟨_,Z⟩,k4,j,f4,l4⟩
   intro M a9;refine⟨(by show 2<=sizeLine;decide),λa na=>?_⟩;have qa:M≠a:=λz=>by rw[<- z,zad]at na;cases na
   have b0:=na;rw[zaf (Jb qa)]at b0;refine⟨a,ky [0,0],Z,(zaf qa).trans zad,zad,?_⟩;have P5:=zho (F:=F) (kd:=kd) (N:=0) (l:=[0,0]) (z:=1) pn (H:=upd (upd O M (.dT [])) a (.tup [.int 0,.int 0])) (p:=M) ((zaf qa).trans zad) (T0.of rfl λx D=>by simp at D;lia) (by decide) (by lia) (by unfold wt;simp);have e5:Same O (upd (upd (upd O M (.dT [])) a (.tup [.int 0,.int 0])) M (.dT [(ky [0,0],.int 1)])):=λc o m=>by
    rw[zaf (zag m a9),zaf (zag m b0),zaf (zag m a9)];exact m
   generalize upd (upd (upd O M (HO.dT [])) a (HO.tup [V.int 0,V.int 0])) M (HO.dT [(ky [0,0],V.int 1)])=H5 at P5 e5 ⊢;have f5:=f4.same e5;have din:∀d∈j,DIn K H5 d:=λd hd=>let ⟨_,z⟩:=(f5.2 d hd).2;DIn.of z
   refine⟨_,Z,M,I,j,Z,Z,SqL.of f5.1,DIn.of P5,din,λbb=>⟨_,Z,?_⟩⟩;refine cB (λc=>?_) (λc=>?_)
   ·intro G a5;refine⟨(by show 2<=sizeLine;decide),λY a3=>?_⟩;have a4:G≠Y:=λz=>by rw[<- z,zad]at a3;cases a3
    have U:=a3;rw[zaf (Jb a4)]at U;refine⟨Y,ky [0,0],Z,(zaf a4).trans zad,zad,?_⟩;have P6:=zho (F:=F) (kd:=kd) (N:=0) (l:=[0,0]) (z:=1) pn (H:=upd (upd H5 G (.dT [])) Y (.tup [.int 0,.int 0])) (p:=G) ((zaf a4).trans zad) (T0.of rfl λx D=>by simp at D;lia) (by decide) (by lia) (by unfold wt;simp);have e6:Same H5 (upd (upd (upd H5 G (.dT [])) Y (.tup [.int 0,.int 0])) G (.dT [(ky [0,0],.int 1)])):=λc o m=>by
     rw[zaf (zag m a5),zaf (zag m U),zaf (zag m a5)];exact m
    try dsimp only
    generalize upd (upd (upd H5 G (HO.dT [])) Y (HO.tup [V.int 0,V.int 0])) G (HO.dT [(ky [0,0],V.int 1)])=H6 at P6 e6 ⊢;have f6:=f5.same e6;refine⟨_,Z,_,Z,I,_,_,kk,Z,Z,f6.1,by rw[Yd];exact zfd (by lia),?_⟩;have a7:(j.map V.ref).set kk (.ref G)=(j.set kk G).map V.ref:=by rw[List.map_set]
    rw[a7];exact⟨⟨_,Z⟩,((k4.tr (.of e5)).tr (.of e6)).tr (Kp.upd (by simp)),j.set kk G,f6.put C ((s4.trans e5).free a5) P6,by rw[List.length_set];exact l4⟩
   ·exact⟨⟨_,Z⟩,k4.tr (.of e5),j,f5,l4⟩
  ·rintro W O ⟨⟨S,rfl⟩,k4,j,f4,l4⟩;show rr _ _ _;subst y;have s4:Same H O:=λc o m=>k4 _ _ (s3 _ _ m) (by simp[zag m C])
   have c2:Same H2 O:=λc o m=>k4 _ _ (e3 _ _ m) (by simp[zag m J])
   have a0:=lq.same c2;refine⟨_,Z,.inl ⟨Z,_,SqL.of a0.1⟩,_,Z,rl,_,_,Z,Z,a0.1,by have:=zav he;rw[Yd,sizeLine_eq];lia,?_⟩;refine⟨⟨_,_,_,Z⟩,λc o m=>(zaf (zag m a1)).trans (s4 _ _ m),B++[I],a0.snoc nr C L f4 l4,by simp;lia,?_⟩;simp;exact⟨nr,Jb L⟩
 ·rintro W H2 ⟨⟨v4,v5,S,rfl⟩,s2,B,lq,lr,nr⟩;subst y;exact⟨_,rfl,k rl B H2 a1 s2 lq (by rw[lr,Yd])⟩
def zvy(F:FunD K "_law_without" "_law_without" zei .none f fd)(a0:Cq T 13 "_law_base" Pk [] (spBa5 zac zae zaj zac))(a2:Cq T 9 "_law_divided" Pf [] (spDv5 zac zae zaj zac))(D:Cq T 4 "_law_plus" Pd [] spLPls)(L:Cq T 6 "_law_times" Pi [] spLTms)(a1:Cq T 4 "_law_back" Pv [] spBk):Fq T 15 f fd Pe (spWo zac zae zaj zac):=by
 refine okS ["_law_order_here","_law_told","_law_poly_here","_law_cell_here","_law_wide","_law_prime_here","_law_made","_law_base_here","_law_found","_law_quotients","_law_rest","_law_at","_law_moved"] F λsc=>?_
 walk_at "o";rename_i F fF g cF p td ff a7 ts φ c R;walk_at "h"
 refine⟨_,(zaa (zaq 6 sc.nd (zau a0 hr ((zab (pv 0) (pa_3 1 4 5)))))
  (zaa (zaq 7 sc.nd (zbb (r:=rIxT K) zby (pv 6) (zal) (λ_ _=>Z)))
  (zaa (zaq 8 sc.nd (zau a2 hr ((zab (pv 0) (pa_3 2 7 5)))))
  (zaa (zaq 9 sc.nd (zbb (r:=rIxT K) zby (pv 8) (zal) (λ_ _=>Z)))
  (zaa (zaq 10 sc.nd (zbb (r:=rIxT K) zby (pv 8) (zal) (λ_ _=>Z)))
  (zaa (zbi (PW.pt (zs0 (zat zd1 (zaz zb6 (pv 3) (zal)) (zal) (nomark _)) (zpu (zat zqg (zaw (za8 (K:=K) rfl) rfl T.b_len PySem.boot_len (pa_1 7)) (zal) (nomark _))))) (zaa (zaq 11 sc.nd (zaz zb6 (zaz zdm (pv 3) (zal)) (zaw (za8 (K:=K) rfl) rfl T.b_len PySem.boot_len (pa_1 7))))
  (zaa (zaq 12 sc.nd (zef hr.units0 (zci ((zab (zaz zb6 (zaz zdm (pv 3) (zal)) (zal)) (zab (zaz zb6 (zaz zdm (pv 3) (zal)) (zal)) zar)))) (zaz zcr (zal) (zaz zb6 (zaz zdm (pv 3) (zal)) (zaw (zde rfl) rfl T.b_max (by kernel_rfl) ((zab (zal) (zab (zaz zhb (pv 5) (zal)) zar))))))))
  (zaa (zhx (zau D hr ((zab (zbb (r:=rIxL K) za6 (pv 9) (pv 11) (λ_ _=>Z)) (zab (zm8 zh0 zal) (pa_2 12 5))))) (zhm (pv 9) (pv 11) zed))
  (zah (zaq 10 sc.nd (zau D hr ((zab (pv 10) (zab (zal) (zab (zau L hr ((zab (pv 12) (zab (zbb (r:=rIxL K) za6 (pv 7) (pv 11) (λ_ _=>Z)) (pa_1 5))))) (pa_1 5))))))))))) zax)
  (zah (zao (zci ((zab (zpt) (zab (pv 7) (zab (zbb (r:=rIxT K) zby (pv 6) (zal) (λ_ _=>Z)) (zab (zau a1 hr (pa_3 1 7 5)) (pa_2 9 10))))))))))))))),?_⟩
 obtain⟨X,n9,k0,k3,wn,wb,hp,hT,tm,l3,wd,hF,k⟩:=h;have n2:=X.1;have f8:∀{H':Hp},Same H H'->AtK zac zae zaj zac g.kd g.ws H' p:=λs=>zcb (λb C dx fs hb=>s _ _ hb) (λb xs hb=>s _ _ hb) hp
 refine sab λS m=>?_
 refine⟨_,Z,_,Z,_,Z,_,Z,F,fF,g.n,cF,p,td,g.kd,g.ws,a7,ts,R,Z,X,n9,k0,k3,wn,wb,hp,hT,tm,l3,wd,λmq b ls G c9 H1 s1 b2 fq lq ld4 la4=>?_⟩;dsimp only[zap];subst m;refine sab λS m=>?_
 refine⟨_,Z,mq,_,0,_,Z,Z,SqT.of b2,Z,?_⟩;dsimp only[zap];subst m;obtain⟨gs,B,hg⟩:=fq.rb (by lia);have tg:∀i,Tame g.kd g.rk (gs i):=λi=>by
  rcases Jg i G.length with z | z
  ·exact(hg i z).2
  ·rw[show gs i=λ_=>0 from funext (B.out i z)];exact zsw
 refine sab λS m=>?_
 refine⟨_,Z,_,Z,_,Z,_,Z,F,fF,g.n,cF,p,ff,b,g.kd,g.ws,φ,G,gs,56,Z,X,n9,k0,k3,wn,wb,f8 s1,hF.same s1,by decide,B,λi hi=>(hg i hi).1,tg,λq J d rd H2 ρ e2 hq b9 c6 lq2 d0 nrd a4 rq=>?_⟩;dsimp only[zap];subst m;have f2:FR F g.n g.kd 56 H1 H2 J d:=⟨c6,d0⟩;refine sab λS m=>?_
 refine⟨_,Z,q,_,0,_,Z,Z,SqT.of hq,Z,?_⟩;dsimp only[zap];subst m;refine sab λS m=>?_
 refine⟨_,Z,q,_,1,_,Z,Z,SqT.of hq,Z,?_⟩;dsimp only[zap];subst m;refine zid (λf7 H'=>∃(e:Lg) (ρ:Po F) (d:Le) (c0 b1:Option V),f7=[some (.ref p),some (.ref td),some (.ref ff),some (.int c),some (.int R),some (.int g.n),some (.ref mq),some (.ref b),some (.ref q),some (.ref J),some (.ref e),c0,b1]/\Same H1 H'/\FR F g.n g.kd 56 H1 H' J d/\d.length<=4/\PB g.n g.kd 56 H' e ρ) ?_ λN hN=>?_
 rotate_left
 ·refine⟨_,Z,_,_,Z,Z,(by show (0:Int)<3;decide),Z,_,Z,cEq (λc1=>?_) (λc1=>?_)⟩;rotate_left
  ·exact iteF (hN _ _ ⟨rd,ρ,d,none,none,Z,e2,f2,by lia,a4⟩)
  refine⟨_,Z,b,_,Z,.inl (SqL.of (e2 _ _ B.at_)),_,_,Z,Z,_,Z,?_⟩;rw[Yd];refine cD (λc2=>?_) (λc2=>?_);rotate_left
  ·exact hN _ _ ⟨rd,ρ,d,none,none,Z,e2,f2,by lia,a4⟩
  have p8:∀{k:Int},k≠0->k.natAbs<2^14->CDivB c k:=λh1 h2=>⟨h1,Yf h2 (Yv (by decide) (by decide))⟩
  refine sab λS m=>?_
  refine⟨_,Z,_,_,Z,Z,p8 (by decide) (by decide),_,Z,b,_,Z,.inl (SqL.of (e2 _ _ B.at_)),_,_,Z,Z,(by rw[Yd];exact c2),?_⟩;rw[Yd];dsimp only[zap];subst m;have i0:=Jm (c.fdiv 3) (show (G.length:Int)≠0 by lia);have i1:=Jc (c.fdiv 3) c2;obtain⟨i,hi⟩:∃i:Nat,c.fdiv 3%(G.length:Int)=(i:Int):=⟨(c.fdiv 3%(G.length:Int)).toNat,(Int.toNat_of_nonneg i0).symm⟩;rw[hi]at i0 i1 ⊢;have il:i<G.length:=by lia
  refine sab λS m=>?_
  intro I a3;refine⟨_,rfl,_,_,rfl,rfl,p8 (by decide) (by decide),_,_,rfl,rfl,(by show (0:Int)<3;decide),_,rfl,_,_,rfl,rfl,p8 (by decide) (by decide),_,_,rfl,rfl,(by show (0:Int)<3;decide),(by show 2<=sizeLine;decide),λa na=>?_⟩;have qa:I≠a:=λz=>by rw[<- z,zad]at na;cases na
  have b4:=na;rw[zaf (Jb qa)]at b4;have x0:=Jm (c.fdiv 7) (show (3:Int)≠0 by decide);have x1:=Jc (c.fdiv 7) (show (0:Int)<3 by decide);have y0:=Jm (c.fdiv 21) (show (3:Int)≠0 by decide);have y1:=Jc (c.fdiv 21) (show (0:Int)<3 by decide)
  try dsimp only
  generalize c.fdiv 7%3=x at x0 x1 ⊢;generalize c.fdiv 21%3=y at y0 y1 ⊢;refine⟨_,Z,_,_,Z,Z,p8 (by decide) (by decide),_,Z,_,_,Z,Z,_,_,Z,_,_,Z,Z,(by show (0:Int)<if g.n-1 > 1 then g.n-1 else 1;split <;> lia),_,_,Z,Z,a,ky [x,y],Z,(zaf qa).trans zad,zad,?_⟩;have z0:=Jm (c.fdiv 5) (show (if g.n-1 > 1 then g.n-1 else 1)≠0 by split <;> lia);have z1:=Jc (c.fdiv 5) (show 0<(if g.n-1 > 1 then g.n-1 else 1) by split <;> lia);have z2:1+c.fdiv 5%(if g.n-1 > 1 then g.n-1 else 1)<g.n:=by
   revert z1
   split <;> lia
  try dsimp only
  generalize c.fdiv 5%(if g.n-1 > 1 then g.n-1 else 1)=z at z0 z1 z2 ⊢;have P3:=zho (F:=F) (kd:=g.kd) (N:=14) (l:=[x,y]) (z:=1+z) X (H:=upd (upd H2 I (.dT [])) a (.tup [.int x,.int y])) (p:=I) ((zaf qa).trans zad) (T0.of rfl λu hu=>by simp at hu;lia) (by lia) z2 (by unfold wt;simp;split <;> lia);have e3:Same H2 (upd (upd (upd H2 I (.dT [])) a (.tup [.int x,.int y])) I (.dT [(ky [x,y],.int (1+z))])):=λc o hc=>by
   rw[zaf (zag hc a3),zaf (zag hc b4),zaf (zag hc a3)];exact hc
  generalize upd (upd (upd H2 I (HO.dT [])) a (HO.tup [V.int x,V.int y])) I (HO.dT [(ky [x,y],V.int (1+z))])=H3 at P3 e3 ⊢;dsimp only[zap];subst m;have f3:=f2.same e3;have b6:=e2.trans e3;have a8:d[i]? = some (d[i]'(by lia)):=Yc _;generalize d[i]'(by lia)=qx at a8;have a5:atI (d.map V.ref) (i:Int)=some (.ref qx):=zbh (by rw[Ym,a8];rfl);have Y:G[i]? = some G[i]:=Yc il;generalize G[i]=dg at Y;have a6:atI (G.map V.ref) (i:Int)=some (.ref dg):=zbh (by rw[Ym,Y];rfl);obtain⟨ψ,e9⟩:=(f3.2 qx (Yx a8)).2;refine sab λS m=>?_
  refine⟨_,Z,_,Z,J,_,_,_,Z,Z,SqL.of f3.1,a5,_,Z,_,Z,_,Z,F,fF,g.n,cF,g.kd,qx,I,ψ,_,56,-1,Z,X,n9,by decide,by decide,by decide,e9,P3.up (by decide),λd5 H5 c4 W f4=>?_⟩;have f5:=f3.same W;refine⟨_,Z,_,Z,J,_,_,i,Z,Z,f5.1,by rw[Yd];exact zfd (by lia),?_⟩;have b7:(d.map V.ref).set i (.ref d5)=(d.set i d5).map V.ref:=by rw[List.map_set]
  rw[b7];have f6:=f5.put (i:=i) b9 (b6.free c4) f4;have P6:=(P3.same W).updL (ys':=(d.set i d5).map V.ref) f5.1;have r6:=((a4.same e3).same W).updL (ys':=(d.set i d5).map V.ref) f5.1;have s6:Same H1 (upd H5 J (.lst ((d.set i d5).map V.ref))):=λc o hc=>(zaf (zag hc b9)).trans (W _ _ (b6 _ _ hc))
  generalize upd H5 J (HO.lst ((d.set i d5).map V.ref))=H6 at f6 P6 r6 s6 ⊢;show S _ _ _;subst m;have b0:=B.row i dg Y;have f9:I≠dg:=λw=>by
   obtain⟨kv,h0,_⟩:=b0;have:=e2 _ _ h0;rw[<- w,a3]at this;cases this
  refine⟨_,Z,_,Z,_,Z,_,Z,b,_,_,_,Z,Z,SqL.of (s6 _ _ B.at_),a6,_,Z,F,fF,g.n,cF,g.kd,I,dg,_,gs i,14,35,Z,X,n9,f9,P6,b0.same s6,by decide,by decide,by decide,λd7 H7 nd7 e7 d3=>?_⟩;refine⟨_,Z,F,fF,g.n,cF,g.kd,rd,d7,ρ,_,56,1,Z,X,n9,by decide,by decide,by decide,r6.same e7,d3.up (by decide),λd8 H8 nd8 e8 d9=>?_⟩;dsimp only[zap];exact hN _ _ ⟨d8,_,d.set i d5,_,_,Z,s6.trans (e7.trans e8),(f6.same e7).same e8,by rw[List.length_set];lia,d9⟩
 ·rintro σ H3 ⟨e,d6,b5,c0,b1,rfl,s3,f3,l3',pe⟩;have b8:=s1.trans s3;have c3:=s3 _ _ b2;have U:=B.same s3;refine⟨_,rfl,_,rfl,mq,_,1,_,rfl,rfl,SqT.of c3,rfl,_,rfl,_,rfl,_,rfl,F,fF,g.n,cF,g.kd,td,b,a7,G,ts,gs,rfl,X,(hT.same b8).up (zoq _),U,λrl d4 H4 nrl e4 d2 lras=>?_⟩;have s4:=b8.trans e4;refine⟨_,rfl,_,rfl,(by show 6<=sizeLine;decide),λpp c8=>?_⟩;have W:Same H4 (upd H4 pp (.tup [.str "without",.ref b,.ref ls,.ref rl,.ref J,.ref e])):=Same.upd c8;have O:=e4.trans W;obtain⟨f1,d1,e6,e1⟩:=lq.lb (by lia) (by lia);obtain⟨f0,c7,b3,c5⟩:=(d2.same W).lb (by lia) (by lia);obtain⟨qs,hQ⟩:=(f3.same O).rb (by lia);have e0:∀{x:Lg},H x=none->x ∉ a7:=fun{x} M z=>by
   obtain⟨j,hj⟩:=Jd.mp z;obtain⟨kv,h0,_⟩:=hT.row j x hj;rw[M]at h0;cases h0
  have a9:∀{x:Lg},H1 x=none->x ∉ G:=fun{x} M z=>by
   obtain⟨j,hj⟩:=Jd.mp z;obtain⟨kv,h0,_⟩:=B.row j x hj;rw[M]at h0;cases h0
  refine k pp b ls rl J e c9 d4 G b5 f1 f0 d1 c7 gs qs d6 _ (s4.trans W) ⟨zad,U.same O,tg,((e6.same s3).same O).up (by decide),λi hi x M y hy z=>?_,b3.up (by decide),λi hi x M y hy z=>?_,hQ,λx M y hy z=>?_,(pe.same O).up (by decide)⟩
  ·exact e0 ((e1 i hi).2 x M) (z ▸ hy)
  ·exact a9 (s3.free ((c5 i hi).2 x M)) (z ▸ hy)
  ·exact a9 (f3.2 x M).1 (z ▸ hy)
def zx8(F:FunD K "law" "law" zj9 .none f fd)(S:Cq T 1 "_law_cell" Nm [] (spCell K))(c2:Cq T 2 "_law_prime" P4 [] spLPr)(b9:Cq T 2 "_law_order" P4 [] (spOr5 zac zae zaj zac))(B:Kq T 2 "Rests" zai Nj [] (spRests zai))(U:Kq T 2 "Ring" zan Nd [] (spRgInit zan zac zae zaj zac))(a5:Cq T 4 "_law_poly" Py [] (spPo5 K))(c4:Cq T 8 "_law_summed" Px [] spLSm)(b8:Cq T 15 "_law_without" Pe [] (spWo zac zae zaj zac)){Pt:Lg}(hord:OrdT T)(J:Cq T 24 "holds" Pl [] (spHld zan zai zai zac zae zaj zac Pt)):Fq T 26 f fd N3 (spLaw K Pt):=by
 refine okS ["_law_script","_law_cell_here","_law_prime_here","_law_order_here","_law_ring","_law_count","_law_told","_law_multiples","_law_poly_here","_law_wide","_law_spoil","_law_within","_law_without_here"] F λsc=>?_
 walk_at "o";rename_i a ns;walk_at "h"
 refine⟨_,(zaa (zaq 1 sc.nd (zau S hr ((zab (pv 0) (zab (zal) zar)))))
  (zaa (zaq 2 sc.nd (zau c2 hr ((zab (zaz zd7 (pv 1) (zal)) zar))))
  (zaa (zaq 3 sc.nd (zau b9 hr (pa_1 1)))
  (zaa (zaq 4 sc.nd (zms U hr zbx .nil ((zab (zal) (zab (zms B hr zbx .nil (pa_1 2)) (pa_1 3))))))
  (zaa (zaq 5 sc.nd (zaz zcr (zal) (zaz zb6 (zaz zd7 (pv 1) (zal)) (zal))))
  (zaa (ze9 (N:=["_law_k","_law_prime_here","_law_script"]) (cl:=[("_law_script",s.heap.objs.size+1),("_law_prime_here",s.heap.objs.size+2)]) (mp:=[none,some 2,some 0]) (zas (i:=6) sc.nd rfl (Or.inl rfl)) (Blk.of rfl (by decide +kernel) rfl (by decide +kernel) zbg (zbn rfl (zbn rfl zcy)) (zii (fs:=["_law_script","_law_prime_here"]) rfl (by decide +kernel)) rfl (zb7 (zbj rfl (.inl rfl) rfl (zbj rfl (.inl rfl) rfl zcx)))) rfl (zbq rfl T.b_range (pa_1 5)) (λC0 s0 H0 a8=>zdr (i:=0) zbg rfl rfl) (λC0 s0 H0 a8=>zbs) (λC0 s0 H0 a8=>zau a5 hr ((zab (zro (zsf (K:=K) rfl) (pv 2) (zgn (zaz zcr (zal) (zaz zdh (zal) (pv 0)))) (zgn (zaz zcr (zal) (zaz zdh (zal) (pv 0))))) (zab (zal) (pa_1 1))))))
  (zaa (zbi (zat zd1 (zaz zb6 (zaz zd7 (pv 1) (zal)) (zal)) (zal) (nomark _)) (zaa (zcg (uOne hr) (zbb (r:=rIxL K) za6 (pv 6) (zal) (λ_ _=>Z)) (zci ((zab (zal) (zab (zal) zar)))) (zal) rfl)
  (zah (zcg (uOne hr) (zbb (r:=rIxL K) za6 (pv 6) (zal) (λ_ _=>Z)) (zci ((zab (zal) (zab (zal) zar)))) (zal) rfl))) zax)
  (zaa (ze9 (N:=["_law_k","_law_count","_law_prime_here","_law_script"]) (cl:=[("_law_script",s.heap.objs.size+1),("_law_prime_here",s.heap.objs.size+2),("_law_count",s.heap.objs.size+3)]) (mp:=[none,some 5,some 2,some 0]) (zas (i:=7) sc.nd rfl (Or.inl rfl)) (Blk.of rfl (by decide +kernel) rfl (by decide +kernel) za4 (zbn rfl (zbn rfl (zbn rfl zcy))) (zii (fs:=["_law_script","_law_prime_here","_law_count"]) rfl (by decide +kernel)) rfl (zb7 (zbj rfl (.inl rfl) rfl (zbj rfl (.inl rfl) rfl (zbj rfl (.inl rfl) rfl zcx))))) rfl (zbq rfl T.b_range (pa_1 5)) (λC0 s0 H0 a8=>zdr (i:=0) za4 rfl rfl) (λC0 s0 H0 a8=>zbs) (λC0 s0 H0 a8=>zau a5 hr ((zab (zpk (K:=K) rfl (pv 3) (zgn (zaz zcr (zal) (pv 0))) (zgn (zal)) (zgn (pv 1))) (zab (zal) (pa_1 2))))))
  (zaa (zaq 8 sc.nd (zau c4 hr (pa_3 7 6 2)))
  (zaa (zaq 9 sc.nd (zal))
  (zaa (zbi (zat zil (zaz zb6 (pv 1) (zal)) (zal) (nomark _)) (zah (zaq 9 sc.nd (zaz zhb (zal) (pv 5)))) zax)
  (zaa (zaq 10 sc.nd (zau S hr ((zab (pv 0) (zab (zal) zar)))))
  (zaa (zaq 11 sc.nd (zci ((zab (zpt) (pa_1 7)))))
  (zaa (zaq 12 sc.nd (zau b8 hr ((zab (pv 3) (zab (pv 6) (zab (pv 8) (pa_3 10 9 2)))))))
  (zaa (zbi (zat zd1 (zaz zb6 (zaz zd7 (pv 10) (zal)) (zal)) (zal) (nomark _)) (zaa (zbi (zat zoe (zau J hr ((zab (pv 4) (pa_3 6 8 11)))) (zcs) (nomark _)) (zah (zao (zcs))) zax)
  (zah (zao (zcc ztm (zau J hr ((zab (pv 4) (pa_3 6 8 12)))) (zcs) (nomark _))))) zax)
  (zaa (zbi (zat zoe (zau J hr ((zab (pv 4) (pa_3 6 8 12)))) (zcs) (nomark _)) (zah (zao (zcs))) zax)
  (zah (zao (zcc ztm (zau J hr ((zab (pv 4) (pa_3 6 8 11)))) (zcs) (nomark _)))))))))))))))))))),?_⟩
 obtain⟨hS,h63,hT,k⟩:=h;have mk:∀{C:Lg} {H:Hp} {p dx:Lg},H p=none->H dx=none->Same H (upd (upd H dx (.own p)) p (.ins C dx [])):=fun{C H p dx} np ndx b o e=>by
  rw[zaf (zag e np),zaf (zag e ndx)];exact e
 refine sab λI j=>?_
 refine⟨_,Z,a,ns,0,Z,hS,by decide,?_⟩;dsimp only[zap];generalize cellOf ns 0=c;subst j;refine sab λI j=>?_
 refine⟨_,Z,_,_,Z,Z,⟨by decide,by decide⟩,_,Z,λn X n9=>?_⟩;have X:=zy3 X;have n2:=X.1;dsimp only[zap];subst j;refine sab λI j=>?_
 refine⟨_,Z,c,Z,λpo H1 e1 b0=>?_⟩;dsimp only[zap];subst j;have k0:=Jm c (show (3:Int)≠0 by decide);have k3:=Jc c (show (0:Int)<3 by decide);generalize hkd:c%3=kd at b0 k0 k3;refine sab λI j=>?_
 refine⟨_,Z,λy dy ny c7 g0=>?_⟩;refine⟨y,dy,n,Z,zad,n9,isP_t X,Z,?_⟩;have e2:Same H1 (upd (upd (upd H1 dy (.own y)) y (.ins zai dy [])) y (.ins zai dy [("prime",.int n)])):=λb o hb=>by
  rw[zaf (zag hb ny),zaf (zag hb ny),zaf (zag hb c7)];exact hb
 have c3:(upd (upd (upd H1 dy (.own y)) y (.ins zai dy [])) y (HO.ins zai dy [("prime",.int n)])) y=some (.ins zai dy [("prime",.int n)]):=zad;generalize upd (upd (upd H1 dy (.own y)) y (.ins zai dy [])) y (HO.ins zai dy [("prime",.int n)])=H2 at e2 c3 ⊢;have wn:Nn ([]:Lc):=λx O=>nomatch O
 have wb:∀x∈([]:Lc),x<10^31:=λx O=>nomatch O
 refine⟨_,Z,λr dr nr c8 ne=>?_⟩;have e9:Same H2 (upd (upd H2 dr (.own r)) r (.ins zan dr [])):=mk nr c8;refine⟨r,dr,2,y,po,kd,[],Z,zad,k0,k3,wn,wb,zf9 (.of (e2.trans e9)) b0,⟨by decide,by decide,by unfold fbK;rw[Yh (by lia)]⟩,λY h1 h2=>⟨Z,?_⟩⟩;have e4:Same H2 Y:=λb o hb=>h2 b o (e9 _ _ hb) (zag hb nr)
 have s4:Same H Y:=e1.trans (e2.trans e4);have b6:=zf9 (.of (e2.trans e4)) b0;have hR:RgP zan zai zai zac zae zaj zac Y r ⟨2,y,po,n,kd,[]⟩:=⟨n9,X,by show 1<=2;decide,by show 2<=4;decide,k0,k3,wn,wb,⟨dr,h1⟩,by unfold AtN;rw[Yh (zct X)];exact⟨dy,e4 _ _ c3,X,n9⟩,b6⟩;have b7:=s4.seq hS;have f7:=s4 _ _ hT;dsimp only[zap];subst j;clear e9 b0 h1 h2 hS nr c8 ne e4 e2 e1 hT c3 ny c7 g0;obtain⟨F,fF,cF⟩:=zwf n (.inr X);refine sab λI j=>?_
 refine⟨_,Z,_,_,Z,Z,⟨by decide,by decide⟩,_,_,Z,Z,(by show (0:Int)<2;decide),_,_,Z,Z,?_⟩;obtain⟨m,em,m2,m3⟩:∃m:Nat,2+c / 3%2=(m:Int)/\2<=m/\m<=3:=⟨(2+c / 3%2).toNat,by lia,by lia,by lia⟩;dsimp only[zap];rw[em];subst j;refine sab λI j=>?_
 refine zdi (H1:=Y) (zdj 0 (Int.toNat (m:Int))) (by rw[Y1,sizeLine_eq];lia) (λR hR=>⟨_,Z,_,Z,by lia,by lia,hR⟩) (λσ=>∃v,σ = [v,some (.int n),some (.ref a)]) (λ_=>true) (λi v H'=>∃x,v=.ref x/\Y x=none/\∃φ : Po F,PM n 2 H' x φ) (λi v Ha Hb e q=>let ⟨x,h1,h2,φ,h3⟩:=q;⟨x,h1,h2,φ,h3.same e⟩) (λi v Ha a ys ys' hl q=>let ⟨x,h1,h2,φ,h3⟩:=q;⟨x,h1,h2,φ,h3.updL hl⟩) ⟨none,Z⟩ (λi y a7 H5 hi hS e5 hy Ny Nn c5 g2=>?_) λG H5 ys f2 e5 d3 a3=>?_
 ·obtain⟨v,rfl⟩:=hS;subst hy;unfold tYes;dsimp only[zap];rw[Yl rfl];refine⟨_,Z,_,Z,_,_,Z,Z,.inl ⟨by decide,by decide⟩,_,_,Z,Z,_,Z,_,Z,_,_,Z,Z,.inl ⟨by decide,by decide⟩,_,_,Z,Z,_,Z,a,_,Z,e5.seq b7,λq nq=>?_⟩;obtain⟨ms,g7,c6⟩:=zi2 (zvs (xs:=ns.map V.int) (lo:=some (1+3*(0+(i:Int)))) (hi:=some (4+3*(0+(i:Int)))));have lc:=zf7 (ns.map V.int) (some (1+3*(0+(i:Int)))) (some (4+3*(0+(i:Int))));rw[Yd]at lc;rw[g7];have e6:Same H5 (upd H5 q (.lst (ms.map V.int))):=Same.upd nq;exact⟨_,Z,F,fF,n,cF,q,ms,2,Z,X,n9,zad,by lia,by decide,by decide,λd H7 φ nd e7 pm=>c5 _ _ _ ⟨_,Z⟩ (e6.trans e7) ⟨d,Z,e5.free (e6.free nd),φ,pm⟩ rfl⟩
 rw[Yu.mpr (λ_ _=>Z)]at a3;obtain⟨l,rfl,lt,hq⟩:=zee a3;rw[List.length_range,Y1]at lt;dsimp only[zap];subst j;have ntd0:Y G=none:=f2;have T5:TD F n 5 Y H5 G l:=⟨d3,λx O=>⟨(hq x O).1,let ⟨φ,q⟩:=(hq x O).2;⟨φ,q.up (by decide)⟩⟩⟩;clear a3 hq d3;refine zid (λa7 H'=>a7=[some (.ref a),some (.int c),some (.int n),some (.ref po),some (.ref r),some (.int m),some (.ref G),none,none,none,none,none,none]/\Same Y H'/\TD F n 5 Y H' G l) ?_ λN hN=>?_
 rotate_left
 ·refine⟨_,Z,_,_,Z,Z,⟨by decide,by decide⟩,_,_,Z,Z,(by show (0:Int)<2;decide),Z,_,Z,cEq (λc1=>?_) (λc1=>?_)⟩;rotate_left
  ·exact hN _ _ ⟨Z,e5,T5⟩
  have put:∀(i:Nat) (l0 l1:Int) (H':Hp) (hl:0<=l0/\l0<=5/\0<=l1/\l1<=5),i<2->Same Y H'->TD F n 5 Y H' G l->∃x,atI (l.map V.ref) (i:Int)=some (.ref x)/\∀a,H' a=none->∃kv,(upd H' a (.tup [.int l0,.int l1])) x=some (.dT kv)/\kv.length<sizeLine/\Same Y (upd (upd H' a (.tup [.int l0,.int l1])) x (.dT (putK kv (ky [l0,l1]) (.int 1))))/\TD F n 5 Y (upd (upd H' a (.tup [.int l0,.int l1])) x (.dT (putK kv (ky [l0,l1]) (.int 1)))) G l:=λi l0 l1 H' hl hi s T=>by
   have O:l[i]? = some (l[i]'(by lia)):=Yc _;generalize l[i]'(by lia)=x at O;have xm:=Yx O;refine⟨x,zbh (by rw[Ym,O];rfl),λa na=>?_⟩;have e6:Same H' (upd H' a (.tup [.int l0,.int l1])):=Same.upd na;have T6:=T.same e6;obtain⟨nx,φ,kv,hk,p,bd⟩:=T6.2 x xm;have b1:Bd 1 10 φ:=λt ht=>by
    have:=bd t ht;unfold wt;rw[Yh (by decide)];lia
   have lk:kv.length<=121:=Bd.len (N:=10) p b1;refine⟨kv,hk,by rw[sizeLine_eq];lia,λb o hb=>(zaf (zag hb nx)).trans (e6 _ _ (s _ _ hb)),T6.one X xm (T0.of rfl λu hu=>by simp at hu;lia) ⟨by simp;lia,by simp;lia⟩ hk⟩
  obtain⟨x,ax,O⟩:=put 0 5 0 H5 (by decide) (by decide) e5 T5;refine sab λr2 a6=>?_
  refine⟨_,Z,G,_,0,_,Z,Z,SqL.of T5.1,ax,(by show 2<=sizeLine;decide),λa1 f5=>?_⟩;obtain⟨kv,hk,lk,s6,T6⟩:=O a1 f5;refine⟨x,_,Z,DPut.t (k:=ky [5,0]) hk zad lk,?_⟩;show r2 _ _ _;generalize upd (upd H5 a1 (HO.tup [V.int 5,V.int 0])) x (HO.dT (putK kv (ky [5,0]) (V.int 1)))=H6 at s6 T6 ⊢;subst a6;obtain⟨x2,f1,g4⟩:=put 1 0 5 H6 (by decide) (by decide) s6 T6;refine⟨_,Z,G,_,1,_,Z,Z,SqL.of T6.1,f1,(by show 2<=sizeLine;decide),λa2 g3=>?_⟩;obtain⟨kv2,f6,f4,s7,T7⟩:=g4 a2 g3;refine⟨x2,_,Z,DPut.t (k:=ky [0,5]) f6 zad f4,?_⟩;exact hN _ _ ⟨Z,s7,T7⟩
 clear T5 e5;rintro σ H5 ⟨rfl,e5,T5⟩;refine sab λI j=>?_
 refine zdi (H1:=H5) (zdj 0 (Int.toNat (m:Int))) (by rw[Y1,sizeLine_eq];lia) (λR hR=>⟨_,Z,_,Z,by lia,by lia,hR⟩) (λσ=>∃v,σ = [v,some (.int m),some (.int n),some (.ref a)]) (λ_=>true) (λi v H'=>∃x,v=.ref x/\H5 x=none/\∃φ : Po F,PM n 3 H' x φ) (λi v Ha Hb e q=>let ⟨x,h1,h2,φ,h3⟩:=q;⟨x,h1,h2,φ,h3.same e⟩) (λi v Ha a ys ys' hl q=>let ⟨x,h1,h2,φ,h3⟩:=q;⟨x,h1,h2,φ,h3.updL hl⟩) ⟨none,Z⟩ (λi y a7 H6 hi hS e6 hy Ny Nn c5 g2=>?_) λml H6 ys nml e6 g5 a3=>?_
 ·obtain⟨v,rfl⟩:=hS;subst hy;unfold tYes;dsimp only[zap];rw[Yl rfl];refine⟨_,Z,_,Z,_,_,Z,Z,_,Z,_,Z,_,Z,_,Z,(λz=>by injection z with z;lia),a,_,Z,(e5.trans e6).seq b7,λq ys g6 g1 nq=>?_⟩;obtain⟨ms,rfl,c6⟩:=zi2 g6;rw[<- c6,Yd]at g1;have e7:Same H6 (upd H6 q (.lst (ms.map V.int))):=Same.upd nq;exact⟨_,Z,F,fF,n,cF,q,ms,3,Z,X,n9,zad,by lia,by decide,by decide,λd H7 φ nd e8 pm=>c5 _ _ _ ⟨_,Z⟩ (e7.trans e8) ⟨d,Z,e6.free (e7.free nd),φ,pm⟩ rfl⟩
 rw[Yu.mpr (λ_ _=>Z)]at a3;obtain⟨a0,rfl,lm,hq⟩:=zee a3;rw[List.length_range,Y1]at lm;dsimp only[zap];subst j;have M6:TD F n 3 H5 H6 ml a0:=⟨g5,hq⟩;obtain⟨ts,a4,t5⟩:=(T5.same e6).rb (kd:=kd) (by lia);obtain⟨ms,b3,_⟩:=M6.rb (kd:=kd) (by lia);have f3:(if kd=0 then 7*5 else 2*5)=Mk kd:=by unfold Mk;split <;> rfl
 rw[f3]at a4;have b3:=b3.up (M:=21) (by split <;> decide);have f8:∀i,Tame kd (rkk kd []) (ts i):=λi=>by
  by_cases c0:kd=0
  ·have e0:rkk kd []=rkL:=by rw[zu5 k3,Yl c0]
   rw[e0,c0];exact zy4 (a4.sp i) (t5 i)
  ·exact ztd k0 k3 c0 (a4.sp i)
 have dj:∀x∈a0,∀y∈l,x≠y:=λx O y hy z=>by
  obtain⟨φ,kv,h0,_⟩:=(T5.2 y hy).2;rw[<- z,(hq x O).1]at h0;cases h0
 have ll:a0.length=l.length:=by rw[lm,lt]
 have s6:=e5.trans e6;refine sab λI j=>?_
 refine⟨_,Z,_,Z,_,Z,F,fF,n,cF,kd,ml,G,a0,l,ms,ts,21,35,Z,X,n9,b3,a4.up (zoq kd),ll,dj,by decide,by decide,by decide,λd8 H7 nd8 e7 d5=>?_⟩;dsimp only[zap];subst j;have s7:=s6.trans e7;have d9:=a4.same e7;have d4:=b3.same e7;refine sab λI j=>?_
 show I _ _ _;subst j;refine zid (λa7 H'=>H'=H7/\∃wd:Int,a7=[some (.ref a),some (.int c),some (.int n),some (.ref po),some (.ref r),some (.int m),some (.ref G),some (.ref ml),some (.ref d8),some (.int wd),none,none,none]/\(wd=0\/(wd=1/\kd≠0))) ?_ λN hN=>?_
 rotate_left
 ·refine⟨_,Z,_,_,Z,Z,(by show (0:Int)<3;decide),Z,_,Z,cNe (λc1=>?_) (λc1=>?_)⟩
  ·refine⟨_,Z,_,_,Z,Z,?_⟩;exact hN _ _ ⟨Z,3-m,Z,by lia⟩
  ·exact hN _ _ ⟨Z,0,Z,.inl rfl⟩
 rintro σ HX ⟨rfl,wd,rfl,f9⟩;refine sab λI j=>?_
 refine⟨_,Z,a,ns,10,Z,s7.seq b7,by decide,?_⟩;dsimp only[zap];generalize cellOf ns 10=sp;subst j;refine sab λI j=>?_
 refine⟨_,Z,(by show 2<=sizeLine;decide),λw nw=>?_⟩;obtain⟨H8,uq,e8,hw⟩:=nwH nw (.tup [.str "within",.ref ml]);dsimp only[zap];rw[uq];clear uq;subst j;have s8:=s7.trans e8;have b5:=d9.same e8;refine sab λI j=>?_
 refine⟨_,Z,_,Z,_,Z,_,Z,_,Z,_,Z,F,fF,⟨2,y,po,n,kd,[]⟩,cF,po,G,d8,l,ts,_,sp,wd,Z,X,n9,k0,k3,wn,wb,zf9 (.of s8) b6,b5,f8,by lia,f9,d5.same e8,λpp b ls bk ql e d1 e3 ds c9 d7 d6 d2 d0 gs qs ρ H9 e9 W=>?_⟩;dsimp only[zap];subst j;have s9:=s8.trans e9;have a9:=hR.same s9;have D:=s9 _ _ f7;have L:=(b5.same e9).up (zoq kd);have b4:=((d4.same e8).same e9).up (M:=56) (by decide);have b2:=((d5.same e8).same e9).up (M:=99) (by decide);have f0:=e9 _ _ hw;refine sab λI j=>?_
 refine⟨_,Z,_,_,Z,Z,⟨by decide,by decide⟩,_,_,Z,Z,(by show (0:Int)<2;decide),Z,_,Z,cEq (λc1=>?_) (λc1=>?_)⟩
 ·refine sab λr2 a6=>?_
  refine⟨_,Z,_,Z,_,Z,_,Z,F,fF,r,G,d8,w,⟨2,y,po,n,kd,[]⟩,cF,l,ts,ms,_,Z,a9,Z,L,b2,λt=>Z,.inl ⟨ml,a0,f0,b4,dj,ll,λHA eA=>?_⟩⟩;refine⟨_,_,Z,Z,_,Z,iteF ?_⟩;show r2 _ _ _;subst a6;refine⟨_,Z,_,Z,_,Z,_,Z,F,fF,r,G,d8,pp,⟨2,y,po,n,kd,[]⟩,cF,l,ts,ms,_,Z,a9.same eA,Z,L.same eA,b2.same eA,λt=>Z,.inr ⟨b,ls,bk,ql,e,d1,e3,ds,c9,d7,d6,d2,d0,gs,qs,ρ,W.same eA,eA _ _ D,λHB bt=>?_⟩⟩;exact⟨_,_,Z,Z,k _⟩
 ·show I _ _ _;subst j;refine sab λr2 a6=>?_
  refine⟨_,Z,_,Z,_,Z,_,Z,F,fF,r,G,d8,pp,⟨2,y,po,n,kd,[]⟩,cF,l,ts,ms,_,Z,a9,Z,L,b2,λt=>Z,.inr ⟨b,ls,bk,ql,e,d1,e3,ds,c9,d7,d6,d2,d0,gs,qs,ρ,W,D,λHA bt=>?_⟩⟩;refine⟨_,_,Z,Z,_,Z,iteF ?_⟩;show r2 _ _ _;subst a6;refine⟨_,Z,_,Z,_,Z,_,Z,F,fF,r,G,d8,w,⟨2,y,po,n,kd,[]⟩,cF,l,ts,ms,_,Z,a9.but bt D,Z,L.but bt D,b2.but bt D,λt=>Z,.inl ⟨ml,a0,zcn bt D f0 (λx z=>by cases z),b4.but bt D,dj,ll,λHB eB=>?_⟩⟩;exact⟨_,_,Z,Z,k _⟩
end
end K6
structure PySem.W.Fast:Prop where(tw6416553588547461257 tw13999516390034498444 tw8558861903160831759 tw2857974724713055547 tw2724413012659479260 tw7522370720980968383 tw11061877796723626765 tw15389437026852172300 tw13067610521455821418 tw16338727892251590602 tw5918141479264683732 tw11553605540228880402 tw15967331723732604475 tw17031304706930617590 tw13270757522397043388 tw48520861237872262 tw9549062575675698985 tw15017721713576975986 tw1390233372829380408 tw8019212058292757754 tw3946467771947115614 tw6004537805316249964 tw369773546865279715 tw13266021606142230523 tw550541013583485791 tw3126437510776061830 tw16234692641980212725 tw17255700899501321348 tw6460465121452080551 tw17977020852539200936 tw9415594678781465740 tw3839748095765027603 tw8466458943640370488 tw16614862807417215630 tw3109145485746818869 tw15338824335783329855 tw3978961722722196097 tw864947785304223743 tw4415134882803619384 tw7453847138937138879 tw11479275599716989232 tw5077315777487078198 tw2379644417146345911 tw7545664988214958137 tw9513280573407722351 tw6351393861721889767 tw3827976862246639179 tw8440875145627244094 tw5055001936433984387 tw9836715715992679691 tw15053460871346001200 tw14941721790522238145 tw58409685004462310 tw18028992651934162299 tw9726019657722711311 tw18269048181349864896 tw15150296028744902389 tw10758013873731020572 tw16964406304776969455 tw8553359520674165202 tw14436064933357717615 tw14789881746631236458 tw1318094306702426242 tw14660864515556126442 tw415534756679164303 tw2361014251944402389 tw9290067347578056669 tw2332116040759173338 tw16047414124699046831 tw17778813586064331300 tw16381771113122770140 tw5271637334337985251 tw11483566581482175442 tw7599535447203585996 tw16834002983265166296 tw15069947760609063130 tw168586873683503472 tw16364330971921193486 tw699570735208612452 tw10881827726704322581 tw4725414387818758620 tw15326138918477668397 tw643713538698986110 tw633341119178496543 tw8791689718048991806 tw7616722851084234748 tw3996612414099489901 tw15420570884592407546 tw7282176970378595156 tw11451895367944732375 tw9611603549189158521 tw4518024735596407310 tw8506838106345232708 tw11330820928311696962 tw804465747678764547 tw12438266395538046240 tw4829658990369199716 tw9910264957867265289 tw495893720388252829 tw14707549937693975113 tw5175467569634465013 tw585064995109090940 tw16537500943701994214 tw12092987406144292969 tw5892254369524924310 tw14371592063037471172 tw9651362744544781950 tw285735110625622909 tw1536466916786367738 tw4301381820799885236 tw14367150653067024910 tw8419263067065711054 tw3987321120523965807 tw7536496311548470093 tw7201424232139475125 tw3403916642396277149 tw11771991806491590054 tw1283990600879704258 tw11572744072257442056 tw7495799709474112873 tw12292890099421965644 tw8112572066337667881 tw11356937023464411770 tw10184792473264096134 tw97607588029000470 tw10848746619994186549 tw270257967141393819 tw9988503862517239329 tw2543921576412964790 tw12341297142887735261 tw4829536389083407402 tw3458304536326092878 tw6698129718095426748 tw12441318590044223939 tw16908386682770827522 tw7056346732400928855 tw126244435821017047 tw13629366872412467129 tw13862410392734847482 tw2170460099111651486 tw11221186289429700098 tw15186307682125406659 tw11249864154177143642 tw10438082977622917923 tw10781968114893100457 tw17081784962641915051 tw11886732741035755784 tw17432567324399055720 tw5794157084206976548 tw15928010696489717814 tw16961681589052605222 tw14546536479870542058 tw8732218442070018685 tw15307453928380920580 tw9506586825530396950 tw17118073209772740778 tw15904132295641029754 tw3374854707229973218 tw5393800175774742555 tw2855495910634862853 tw17582865783399162015 tw9242675692646024732 tw9340878767538803387 tw12505760881321042679 tw16243222979270564273 tw352808324032880038 tw1774747242365485092 tw12183826095320656188 tw17473362546676162126 tw8438670731165191571 tw12489652563544310618 tw7669538982011498856 tw16301565074846567261 tw10012266568354984882 tw5523092715174201322 tw13613730087664170755 tw11844764427918135055 tw813682674391852069 tw4911693290274073369 tw5932545750889329448 tw2738550188636229413 tw8038954640624385280 tw5591292541692690339 tw13202770474160435823 tw84286774486042444 tw8678155600575180942 tw13762717613549587395 tw6763484932276765917 tw12336099253189470443 tw11104407254548505555 tw16422121666162106828 tw465433711500420819 tw7622056237283517721 tw58069622678639178 tw5183854444106186596 tw2489292974736931120 tw16219947025155400397 tw15480288198995661852 tw14488628293392513083 tw10528822965276802293 tw9693979646819919124 tw10894933044922725311 tw3519703214670859068 tw12426398082727848539 tw16617512981887962029 tw11310805478035574129 tw2724603290682769550 tw12098277063426350138 tw18035411729685002144 tw10867515021820918773 tw2281447822150082312 tw6939377989188695177 tw488366036737577940 tw11971379128074514325 tw5808468335350072451 tw15359359696877784492 tw4073623324487375704 tw13169315225459815606 tw5781070258771078735 tw8835162247650997376 tw14588869027249153119 tw2332202362485113998 tw11163818024957417315 tw4640571882214964452 tw10606598133052220143 tw10781489306455747736 tw3193024642301382792 tw15735608334797370175 tw12096857455685158054 tw15941811673978041369 tw3309329899319939130 tw2187213780796280985 tw5655508496738968442 tw14588305051277642433 tw9262377946259698166 tw3806054533819506658 tw2180233268137041615 tw17473136767974645034 tw13200642357767890342 tw9295166689859601069 tw7196805743737326606 tw4612412014551542789 tw16277396124482416202 tw17532456028294608661 tw12897807159392053966 tw3208925813578218139 tw17977791028766877070 tw13671226166228163626 tw7817264157486614389 tw3695464670435782780 tw13901142294894706404 tw599932171713679494 tw14506551535159862219 tw16664749612191457818 tw8886991719946150782 tw13885488969206830911 tw1369918689205946970 tw13880173327888128752 tw5447015135680811153 tw5244109449842959814 tw11669720556794798322 tw4501404180582449017 tw3176208076405740081 tw12220800498384636370 tw14905192120488830175 tw10908004245289174854 tw6559754161585741487 tw1721107568478094946 tw5296775871140417719 tw5186747812276335116 tw981083859859183634 tw8608608933675669572 tw16985353324687458125 tw7948629476939333958 tw13716044813855267285 tw6786177250505439427 tw2020688365862119393 tw6008482968820631031 tw8285934909462006426 tw9330380279602259452 tw12992923989792362569 tw10140854345268916154 tw14094558291684613699 tw132743109409322861 tw17410294808365237088 tw12322451331300758371 tw444522234349650125 tw12613002009435428045 tw13458245242988114627 tw3022267888734391827 tw12836929889235803145 tw9283398423225321858 tw6989473929923719279 tw8716818884335046158 tw15144649778506896546 tw16592462511612245083 tw7251824239892784886 tw8348428528555285676 tw4145166095540139221 tw9792996698262142207 tw2374060683952561434 tw5202143644688646290 tw9595234482421241459 tw319519543769157496 tw15871857812185782245 tw11383920513810595508 tw5804376789373735526 tw3339005827886292039 tw18165489845093304194 tw2901988091632108058 tw10696594776804502929 tw13791147700480484253 tw12557513952066987633 tw1468430885466673348 tw10938424733846865724 tw17299589179228880609 tw15636675791021746491 tw7621261886008900433 tw2244943747794446524 tw15115065719857364200 tw16225775643951802533 tw12115762620046024411 tw13428529751889455826 tw17288289546475449913 tw1859714717236408386 tw2059322737648055664 tw12849582720955863516 tw13318070244668334971:True)
namespace K6
open PySem L2
theorem bl0{α:Type}{P:List α->Prop}{n:Nat}(h:∀a us,us.length=n->P (a::us)):∀us,us.length=n+1->P us
 | [],e=>nomatch e
 | a::us,e=>h a us (Nat.succ.inj e)
theorem bl1{α:Type}{P:List α->Prop}(h:∀a,P [a]):∀us,us.length=1->P us:=bl0 λa us e=>List.eq_nil_of_length_eq_zero e▸h a
theorem bl2{α:Type}{P:List α->Prop}(h:∀a b,P [a,b]):∀us,us.length=2->P us:=bl0 λa=>bl1 (P:=λu=>P (a::u)) (h a)
theorem bl3{α:Type}{P:List α->Prop}(h:∀a b c,P [a,b,c]):∀us,us.length=3->P us:=bl0 λa=>bl2 (P:=λu=>P (a::u)) (h a)
theorem bl4{α:Type}{P:List α->Prop}(h:∀a b c d,P [a,b,c,d]):∀us,us.length=4->P us:=bl0 λa=>bl3 (P:=λu=>P (a::u)) (h a)
theorem bl5{α:Type}{P:List α->Prop}(h:∀a b c d e,P [a,b,c,d,e]):∀us,us.length=5->P us:=bl0 λa=>bl4 (P:=λu=>P (a::u)) (h a)
theorem bl6{α:Type}{P:List α->Prop}(h:∀a b c d e f,P [a,b,c,d,e,f]):∀us,us.length=6->P us:=bl0 λa=>bl5 (P:=λu=>P (a::u)) (h a)
inductive FnE(K:Li)(f:Lg)(nm qn:Lp)(st:Lm):Prop
 | mk {oc kV dc pm cd ct:Lh} {od an:Option Lg} {sl:Array (Option Lh)} (l:K.lookup f=some ⟨oc,od,.func (W.fnOf nm qn (zc6 st) (zcm st) (za5 st) .none kV dc pm an cd ct),sl⟩) (c:W.codeIn K cd qn=true) (k:W.keepIn K (.ref f)=true):FnE K f nm qn st
def FnE.ob(e:FnE K f nm qn st)(h:∀kV doc pm an cdv ct us,us.length=ps.length->bindArgs (W.fnOf nm qn (zc6 st) (zcm st) (za5 st) .none kV doc pm an cdv ct) ⟨us,[]⟩=pure (ps.zip us)):∃fd,FunD K nm qn st .none f fd/\Binds K fd ps []/\W.keepIn K (.ref f)=true:=by
 obtain⟨l,c,k⟩:=e;exact⟨_,zix l c,(zix l c).binds h,k⟩
inductive GfE(K:Li)(nm:Lp)(st:Lm):Prop
 | mk {f:Lg} (a:W.nsIn K mainGlobals nm=some (some (.ref f))) (e:FnE K f nm nm st):GfE K nm st
def GfE.ob(X:K.In h)(G:h.Ns mainGlobals mg)(e:GfE K nm st)(c:∀kV doc pm an cdv ct us,us.length=ps.length->bindArgs (W.fnOf nm nm (zc6 st) (zcm st) (za5 st) .none kV doc pm an cdv ct) ⟨us,[]⟩=pure (ps.zip us)):∃f fd,FunD K nm nm st .none f fd/\∀{P} {w} {base} {CX} {k} {sp},FnOk P w K mg base CX k f fd ps sp->Cal P w K mg base CX k nm ps [] sp:=by
 obtain⟨a,e⟩:=e;obtain⟨_,F,b,k⟩:=FnE.ob e c;exact⟨_,_,F,λz=>⟨_,_,z,b,k,W.mg_of X G a⟩⟩
inductive MfE(K:Li)(C:Lg)(nm qn:Lp)(st:Lm):Prop
 | mk {f:Lg} (a:W.findIn K (.ref C) nm=some (some (.ref f))) (i:W.isFn K (.ref f)=true) (e:FnE K f nm qn st):MfE K C nm qn st
def MfE.ob(e:MfE K C nm qn st)(h:∀kV doc pm an cdv ct us,us.length=ps.length->bindArgs (W.fnOf nm qn (zc6 st) (zcm st) (za5 st) .none kV doc pm an cdv ct) ⟨us,[]⟩=pure (ps.zip us)):∃f fd,FunD K nm qn st .none f fd /\
  (∀{P} {w} {mg} {base} {CX} {k} {sp},Cls K C->FnOk P w K mg base CX k f fd ps sp->MCal P w K mg base CX k C nm ps [] sp) /\
  ∀{P} {w} {mg} {base} {CX} {k} {sp} {x},mg x=some (.ref C)->W.makesIn K C=true->W.keepIn K (.ref C)=true->FnOk P w K mg base CX k f fd ps sp->nm = "__init__"->Mak P w K mg base CX k x C ps [] sp:=by
 obtain⟨a,i,e⟩:=e;obtain⟨_,F,b,k⟩:=FnE.ob e h;exact⟨_,_,F,λc z=>⟨⟨_,_,z,b,⟨a,i,k⟩⟩,c⟩,λm d k2 z j=>⟨⟨_,_,z,b,⟨d,j ▸ a,i,k2⟩⟩,m⟩⟩
inductive ClE(K:Li)(C:Lg)(x:Lp):Prop
 | mk (a:W.nsIn K mainGlobals x=some (some (.ref C))) (b:W.plainGet K C Str.empty=true) (c:W.hasDictIn K C=true) (d:W.plainOver K C=true) (e:W.findIn K (.ref C) "__setattr__" = some (some (.builtin "object.__setattr__"))) (f:W.makesIn K C=true) (g:W.keepIn K (.ref C)=true):ClE K C x
inductive ClI(K:Li)(C:Lg)(x:Lp):Prop
 | mk (a:W.nsIn K mainGlobals x=some (some (.ref C))) (b:W.plainGet K C Str.empty=true) (c:W.hasDictIn K C=true) (d:W.plainOver K C=true) (e:W.findIn K (.ref C) "__setattr__" = some (some (.builtin "object.__setattr__"))) (f:W.makesIn K C=true) (g:W.keepIn K (.ref C)=true) (h:W.findIn K (.ref C) "__init__" = some (some (.builtin "object.__init__"))):ClI K C x
def all_mk{l:W.OpenLaw}{w:Lk}{K:Li}{h:Lo}{mg:Sa}{fa:Lg}(X:K.In h)(G:h.Ns mainGlobals mg)(hfa:mg "law" = some (.ref fa))
  {zan:Lg} {zai:Lg} {zac:Lg} {zae:Lg} {zaj:Lg} {zam:Lg} {zay:Lg} {zak:Lg} {f_2:Lg} {Cq_2:Lg} {f_4:Lg} {f_5:Lg} {f_6:Lg} {f_8:Lg} {f_9:Lg} {f_10:Lg} {f_11:Lg} {f_12:Lg} {f_40:Lg} {od_40 an_40:Option Lg} {sl_40:Array (Option Lh)} {oc_40 kV_40 dc_40 pm_40 cd_40 ct_40:Lh} {f_73:Lg} {od_73 an_73:Option Lg} {sl_73:Array (Option Lh)} {oc_73 kV_73 dc_73 pm_73 cd_73 ct_73:Lh} {tg_GREATEST_PRIME:Tok} {tg_LETTERS:Tok}
  (cz:ClE K zan "Ring")
  (au:W.findIn K (.ref zan) "many" = some none)
  (aq:W.findIn K (.ref zan) "field" = some none)
  (ar:W.findIn K (.ref zan) "order" = some none)
  (cm:ClE K zai "Rests")
  (am:W.findIn K (.ref zai) "prime" = some none)
  (cn:ClI K zac "Order")
  (bv:ClI K zae "Degrees")
  (cq:ClI K zaj "Tails")
  (bw:ClE K zam "Waiting")
  (ae:W.findIn K (.ref zam) "order" = some none)
  (af:W.findIn K (.ref zam) "known" = some none)
  (ag:W.findIn K (.ref zam) "queue" = some none)
  (cu:ClE K zay "Leads")
  (ao:W.findIn K (.ref zay) "pairs" = some none)
  (bc:ClE K zak "Lowering")
  (ah:W.findIn K (.ref zak) "ring" = some none)
  (ad:W.findIn K (.ref zak) "leads" = some none)
  (ac:W.findIn K (.ref zak) "wholes" = some none)
  (qe:GfE K "shared_divisor" zdq)
  (qg:GfE K "is_prime" zhl)
  (gc:W.nsIn K mainGlobals "Field" = some (some (.ref Cq_2)))
  (gf:W.readsIn K Cq_2 (.type "type")=true)
  (gg:W.findCls K (.ref Cq_2) (.type "type") "__init__" = some (.val (.ref f_2)))
  (gh:W.specialIn K (.ref Cq_2) "__getattribute__" = some (some (.builtin "type.__getattribute__")))
  (qh:W.isFn K (.ref f_2)=true)
  (qi:FnE K f_2 "__init__" "Field.__init__" zdn)
  (qk:MfE K zai "__init__" "Rests.__init__" zdp)
  (ca:W.findIn K (.ref zai) "nought" = some (some (.ref f_4)))
  (qo:W.isFn K (.ref f_4)=true)
  (qp:FnE K f_4 "nought" "Rests.nought" zej)
  (cf:W.findIn K (.ref zai) "plus" = some (some (.ref f_5)))
  (qr:W.isFn K (.ref f_5)=true)
  (qt:FnE K f_5 "plus" "Rests.plus" zfr)
  (cg:W.findIn K (.ref zai) "times" = some (some (.ref f_6)))
  (qu:W.isFn K (.ref f_6)=true)
  (qv:FnE K f_6 "times" "Rests.times" zev)
  (qy:GfE K "degree" zl3)
  (ci:W.findIn K (.ref zac) "rank" = some (some (.ref f_8)))
  (qz:W.isFn K (.ref f_8)=true)
  (gk:W.specialIn K (.ref f_8) "__get__" = some (some (.builtin "function.__get__")))
  (gl:W.takesIn K (.ref f_8)=some false)
  (rf:FnE K f_8 "rank" "Order.rank" zfp)
  (ay:W.findIn K (.ref zae) "rank" = some (some (.ref f_9)))
  (rn:W.isFn K (.ref f_9)=true)
  (gm:W.specialIn K (.ref f_9) "__get__" = some (some (.builtin "function.__get__")))
  (gn:W.takesIn K (.ref f_9)=some false)
  (rp:FnE K f_9 "rank" "Degrees.rank" zep)
  (bh:W.findIn K (.ref zaj) "rank" = some (some (.ref f_10)))
  (gp:W.isFn K (.ref f_10)=true)
  (dz:W.specialIn K (.ref f_10) "__get__" = some (some (.builtin "function.__get__")))
  (fc:W.takesIn K (.ref f_10)=some false)
  (gr:FnE K f_10 "rank" "Tails.rank" zfz)
  (av:W.findIn K (.ref zae) "fits" = some (some (.ref f_11)))
  (bi:W.findIn K (.ref zac) "fits" = some (some (.ref f_11)))
  (bn:W.findIn K (.ref zaj) "fits" = some (some (.ref f_11)))
  (gu:W.isFn K (.ref f_11)=true)
  (gw:FnE K f_11 "fits" "Order.fits" zfn)
  (aw:W.findIn K (.ref zae) "first_of" = some (some (.ref f_12)))
  (bp:W.findIn K (.ref zac) "first_of" = some (some (.ref f_12)))
  (bq:W.findIn K (.ref zaj) "first_of" = some (some (.ref f_12)))
  (gx:W.isFn K (.ref f_12)=true)
  (gy:FnE K f_12 "first_of" "Order.first_of" zdw)
  (gz:MfE K zan "__init__" "Ring.__init__" zd9)
  (ie:GfE K "product" zj3)
  (ig:GfE K "goes_into" zg2)
  (im:GfE K "left_over" zgj)
  (io:GfE K "absorb" zma)
  (ip:GfE K "scaled" zmb)
  (ir:GfE K "first_term" zfk)
  (iu:MfE K zam "place_of" "Waiting.place_of" zda)
  (iw:MfE K zam "put" "Waiting.put" zez)
  (ja:MfE K zam "__init__" "Waiting.__init__" zc9)
  (jb:MfE K zam "taken" "Waiting.taken" zd3)
  (jc:MfE K zay "__init__" "Leads.__init__" zdx)
  (jd:MfE K zay "fitting" "Leads.fitting" zd5)
  (je:GfE K "shifted" zkb)
  (jf:GfE K "shared_by_all" zc5)
  (jg:GfE K "lessened" zht)
  (jh:GfE K "whole_row" zgr)
  (ji:GfE K "cleared" zj7)
  (jk:MfE K zak "row_to_nothing" "Lowering.row_to_nothing" zca)
  (jm:GfE K "meeting" zjr)
  (jn:GfE K "stand_apart" ze6)
  (jo:MfE K zak "crossed_to_nothing" "Lowering.crossed_to_nothing" zb2)
  (jq:MfE K zak "__init__" "Lowering.__init__" zc8)
  (jr:GfE K "turns_of" zh2)
  (js:GfE K "lets_by" zjl)
  (jt:GfE K "is_due" zl4)
  (ju:GfE K "leads_by_place" zdu)
  (jv:W.nsIn K mainGlobals "pairs" = some (some (.ref f_40)))
  (jw:K.lookup f_40=some ⟨oc_40,od_40,.func (W.fnOf "pairs" "pairs" (zc6 zfc) (zcm zfc) (za5 zfc) .none kV_40 dc_40 pm_40 an_40 cd_40 ct_40),sl_40⟩)
  (jx:W.codeIn K cd_40 "pairs" = true)
  (jy:W.keepIn K (.ref f_40)=true)
  (jz:GfE K "is_base" zjw)
  (kc:GfE K "times" zoh)
  (ke:GfE K "plus" zsx)
  (kh:GfE K "summed" zlk)
  (kj:GfE K "sum_up_to" zg1)
  (ku:GfE K "all_sum_up" zfx)
  (kz:GfE K "is_rest" zji)
  (lg:GfE K "is_parted" zgg)
  (li:GfE K "holds_without" zd2)
  (ln:GfE K "holds" zox)
  (ma:GfE K "_law_cell" zga)
  (me:GfE K "_law_is_prime" zd4)
  (mf:GfE K "_law_prime" zfq)
  (mh:GfE K "_law_turned" ze5)
  (mi:GfE K "_law_gain" zf6)
  (mj:GfE K "_law_plus_times" zdg)
  (mv:GfE K "_law_times" zfs)
  (mw:GfE K "_law_plus" zg6)
  (mz:GfE K "_law_summed" ze0)
  (ng:GfE K "_law_less" zha)
  (nh:GfE K "_law_into" zg8)
  (nu:GfE K "_law_lead" zgf)
  (og:GfE K "_law_place" zft)
  (oh:GfE K "_law_divided" zem)
  (oj:GfE K "_law_crossed" zeo)
  (ot:GfE K "_law_order" zfh)
  (ou:GfE K "_law_poly" zg9)
  (ow:GfE K "_law_mixed" zfy)
  (ox:GfE K "_law_more" zgl)
  (oy:GfE K "_law_base" zg5)
  (pc:GfE K "_law_back" zgm)
  (pd:GfE K "_law_without" zei)
  (ph:W.nsIn K mainGlobals "law" = some (some (.ref f_73)))
  (pj:K.lookup f_73=some ⟨oc_73,od_73,.func (W.fnOf "law" "law" (zc6 zj9) (zcm zj9) (za5 zj9) .none kV_73 dc_73 pm_73 an_73 cd_73 ct_73),sl_73⟩)
  (pq:W.codeIn K cd_73 "law" = true)
  (qc:W.keepIn K (.ref f_73)=true)
  (fg:W.nsIn K mainGlobals "abs" = some none)
  (fh:W.nsIn K mainGlobals "all" = some none)
  (dh:W.nsIn K mainGlobals "dict" = some none)
  (ba:W.nsIn K mainGlobals "enumerate" = some none)
  (fj:W.nsIn K mainGlobals "int" = some none)
  (fk:W.nsIn K mainGlobals "len" = some none)
  (dq:W.nsIn K mainGlobals "list" = some none)
  (fm:W.nsIn K mainGlobals "max" = some none)
  (fu:W.nsIn K mainGlobals "min" = some none)
  (cw:W.nsIn K mainGlobals "range" = some none)
  (bu:W.nsIn K mainGlobals "reversed" = some none)
  (ck:W.nsIn K mainGlobals "sorted" = some none)
  (fw:W.nsIn K mainGlobals "sum" = some none)
  (cy:W.nsIn K mainGlobals "tuple" = some none)
  (fy:W.nsIn K mainGlobals "zip" = some none)
  (ak:W.nsIn K mainGlobals "GREATEST_PRIME" = some (some (.int 9973 tg_GREATEST_PRIME)))
  (cj:W.nsIn K mainGlobals "LETTERS" = some (some (.str "xyzt" tg_LETTERS)))
  {cc Pt:Lg} (qd:cd_40=.ref cc) (se:W.codeHdIn K cc Pt=true) (sf:K.lookup Pt=none)
  : ∃(cc:Lg) (fd:FuncData),W.codeHdIn K cc Pt=true/\K.lookup Pt=none/\(∀(s:Lj) (v:Lh),BindsTo s fd ⟨[v],[]⟩ [("_law_script",v)])/\∀base:Lo,K.In base->base.Ns mainGlobals mg->base.BuiltinsAt mg Pt->FnOk l.prog w K mg base CX0 26 fa fd N3 (spLaw K Pt):=by
 obtain⟨a_Ring,pg_Ring,hd_Ring,po_Ring,sa_Ring,mk_Ring,kc_Ring⟩:=cz;obtain⟨a_Rests,pg_Rests,hd_Rests,po_Rests,sa_Rests,mk_Rests,kc_Rests⟩:=cm;obtain⟨a_Order,pg_Order,hd_Order,po_Order,sa_Order,mk_Order,kc_Order,in_Order⟩:=cn;obtain⟨a_Degrees,pg_Degrees,hd_Degrees,po_Degrees,sa_Degrees,mk_Degrees,kc_Degrees,in_Degrees⟩:=bv;obtain⟨a_Tails,pg_Tails,hd_Tails,po_Tails,sa_Tails,mk_Tails,kc_Tails,in_Tails⟩:=cq;obtain⟨a_Waiting,pg_Waiting,hd_Waiting,po_Waiting,sa_Waiting,mk_Waiting,kc_Waiting⟩:=bw;obtain⟨a_Leads,pg_Leads,hd_Leads,po_Leads,sa_Leads,mk_Leads,kc_Leads⟩:=cu;obtain⟨a_Lowering,pg_Lowering,hd_Lowering,po_Lowering,sa_Lowering,mk_Lowering,kc_Lowering⟩:=bc;have e:=hfa.symm.trans (W.mg_of X G ph)
 cases e;obtain⟨_,_,F_0,k_0⟩:=GfE.ob (ps:=Pa) X G qe λ_ _ _ _ _ _=>bl2 λ_ _=>rfl
 obtain⟨_,_,F_1,k_1⟩:=GfE.ob (ps:=["number"]) X G qg λ_ _ _ _ _ _=>bl1 λ_=>rfl
 obtain⟨_,F_2,b_2,k_2⟩:=FnE.ob (ps:=Nj) qi λ_ _ _ _ _ _=>bl2 λ_ _=>rfl
 obtain⟨_,_,F_3,k_3,n_3⟩:=MfE.ob (ps:=Nj) qk λ_ _ _ _ _ _=>bl2 λ_ _=>rfl
 obtain⟨_,F_4,b_4,k_4⟩:=FnE.ob (ps:=["self"]) qp λ_ _ _ _ _ _=>bl1 λ_=>rfl
 obtain⟨_,F_5,b_5,k_5⟩:=FnE.ob (ps:=Np) qt λ_ _ _ _ _ _=>bl3 λ_ _ _=>rfl
 obtain⟨_,F_6,b_6,k_6⟩:=FnE.ob (ps:=Np) qv λ_ _ _ _ _ _=>bl3 λ_ _ _=>rfl
 obtain⟨_,_,F_7,k_7⟩:=GfE.ob (ps:=["term"]) X G qy λ_ _ _ _ _ _=>bl1 λ_=>rfl
 obtain⟨_,F_8,b_8,k_8⟩:=FnE.ob (ps:=Pn) rf λ_ _ _ _ _ _=>bl2 λ_ _=>rfl
 obtain⟨_,F_9,b_9,k_9⟩:=FnE.ob (ps:=Pn) rp λ_ _ _ _ _ _=>bl2 λ_ _=>rfl
 obtain⟨_,F_10,b_10,k_10⟩:=FnE.ob (ps:=Pn) gr λ_ _ _ _ _ _=>bl2 λ_ _=>rfl
 obtain⟨_,F_11,b_11,k_11⟩:=FnE.ob (ps:=["self","many"]) gw λ_ _ _ _ _ _=>bl2 λ_ _=>rfl
 obtain⟨_,F_12,b_12,k_12⟩:=FnE.ob (ps:=Nb) gy λ_ _ _ _ _ _=>bl2 λ_ _=>rfl
 obtain⟨_,_,F_13,k_13,n_13⟩:=MfE.ob (ps:=Nd) gz λ_ _ _ _ _ _=>bl4 λ_ _ _ _=>rfl
 obtain⟨_,_,F_14,k_14⟩:=GfE.ob (ps:=Pa) X G ie λ_ _ _ _ _ _=>bl2 λ_ _=>rfl
 obtain⟨_,_,F_15,k_15⟩:=GfE.ob (ps:=Pa) X G ig λ_ _ _ _ _ _=>bl2 λ_ _=>rfl
 obtain⟨_,_,F_16,k_16⟩:=GfE.ob (ps:=Pa) X G im λ_ _ _ _ _ _=>bl2 λ_ _=>rfl
 obtain⟨_,_,F_17,k_17⟩:=GfE.ob (ps:=P8) X G io λ_ _ _ _ _ _=>bl3 λ_ _ _=>rfl
 obtain⟨_,_,F_18,k_18⟩:=GfE.ob (ps:=Nh) X G ip λ_ _ _ _ _ _=>bl4 λ_ _ _ _=>rfl
 obtain⟨_,_,F_19,k_19⟩:=GfE.ob (ps:=Nt) X G ir λ_ _ _ _ _ _=>bl2 λ_ _=>rfl
 obtain⟨_,_,F_20,k_20,n_20⟩:=MfE.ob (ps:=Nv) iu λ_ _ _ _ _ _=>bl2 λ_ _=>rfl
 obtain⟨_,_,F_21,k_21,n_21⟩:=MfE.ob (ps:=Nb) iw λ_ _ _ _ _ _=>bl2 λ_ _=>rfl
 obtain⟨_,_,F_22,k_22,n_22⟩:=MfE.ob (ps:=Nk) ja λ_ _ _ _ _ _=>bl3 λ_ _ _=>rfl
 obtain⟨_,_,F_23,k_23,n_23⟩:=MfE.ob (ps:=["self"]) jb λ_ _ _ _ _ _=>bl1 λ_=>rfl
 obtain⟨_,_,F_24,k_24,n_24⟩:=MfE.ob (ps:=Ps) jc λ_ _ _ _ _ _=>bl3 λ_ _ _=>rfl
 obtain⟨_,_,F_25,k_25,n_25⟩:=MfE.ob (ps:=Pn) jd λ_ _ _ _ _ _=>bl2 λ_ _=>rfl
 obtain⟨_,_,F_26,k_26⟩:=GfE.ob (ps:=Nr) X G je λ_ _ _ _ _ _=>bl2 λ_ _=>rfl
 obtain⟨_,_,F_27,k_27⟩:=GfE.ob (ps:=["row"]) X G jf λ_ _ _ _ _ _=>bl1 λ_=>rfl
 obtain⟨_,_,F_28,k_28⟩:=GfE.ob (ps:=Nw) X G jg λ_ _ _ _ _ _=>bl2 λ_ _=>rfl
 obtain⟨_,_,F_29,k_29⟩:=GfE.ob (ps:=Nq) X G jh λ_ _ _ _ _ _=>bl2 λ_ _=>rfl
 obtain⟨_,_,F_30,k_30⟩:=GfE.ob (ps:=P2) X G ji λ_ _ _ _ _ _=>bl4 λ_ _ _ _=>rfl
 obtain⟨_,_,F_31,k_31,n_31⟩:=MfE.ob (ps:=Nx) jk λ_ _ _ _ _ _=>bl2 λ_ _=>rfl
 obtain⟨_,_,F_32,k_32⟩:=GfE.ob (ps:=Pa) X G jm λ_ _ _ _ _ _=>bl2 λ_ _=>rfl
 obtain⟨_,_,F_33,k_33⟩:=GfE.ob (ps:=Pa) X G jn λ_ _ _ _ _ _=>bl2 λ_ _=>rfl
 obtain⟨_,_,F_34,k_34,n_34⟩:=MfE.ob (ps:=Nf) jo λ_ _ _ _ _ _=>bl5 λ_ _ _ _ _=>rfl
 obtain⟨_,_,F_35,k_35,n_35⟩:=MfE.ob (ps:=Ps) jq λ_ _ _ _ _ _=>bl3 λ_ _ _=>rfl
 obtain⟨_,_,F_36,k_36⟩:=GfE.ob (ps:=Nu) X G jr λ_ _ _ _ _ _=>bl2 λ_ _=>rfl
 obtain⟨_,_,F_37,k_37⟩:=GfE.ob (ps:=Ni) X G js λ_ _ _ _ _ _=>bl4 λ_ _ _ _=>rfl
 obtain⟨_,_,F_38,k_38⟩:=GfE.ob (ps:=Nl) X G jt λ_ _ _ _ _ _=>bl3 λ_ _ _=>rfl
 obtain⟨_,_,F_39,k_39⟩:=GfE.ob (ps:=Pq) X G ju λ_ _ _ _ _ _=>bl2 λ_ _=>rfl
 have F_40:=zix (st:=zfc) jw jx;have b_40:=F_40.binds (ps:=Pq) λ_ _ _ _ _ _=>bl2 λ_ _=>rfl
 obtain⟨_,_,F_41,k_41⟩:=GfE.ob (ps:=Pq) X G jz λ_ _ _ _ _ _=>bl2 λ_ _=>rfl
 obtain⟨_,_,F_42,k_42⟩:=GfE.ob (ps:=Nc) X G kc λ_ _ _ _ _ _=>bl3 λ_ _ _=>rfl
 obtain⟨_,_,F_43,k_43⟩:=GfE.ob (ps:=Nc) X G ke λ_ _ _ _ _ _=>bl3 λ_ _ _=>rfl
 obtain⟨_,_,F_44,k_44⟩:=GfE.ob (ps:=P7) X G kh λ_ _ _ _ _ _=>bl3 λ_ _ _=>rfl
 obtain⟨_,_,F_45,k_45⟩:=GfE.ob (ps:=P1) X G kj λ_ _ _ _ _ _=>bl4 λ_ _ _ _=>rfl
 obtain⟨_,_,F_46,k_46⟩:=GfE.ob (ps:=Ng) X G ku λ_ _ _ _ _ _=>bl4 λ_ _ _ _=>rfl
 obtain⟨_,_,F_47,k_47⟩:=GfE.ob (ps:=No) X G kz λ_ _ _ _ _ _=>bl3 λ_ _ _=>rfl
 obtain⟨_,_,F_48,k_48⟩:=GfE.ob (ps:=Pz) X G lg λ_ _ _ _ _ _=>bl5 λ_ _ _ _ _=>rfl
 obtain⟨_,_,F_49,k_49⟩:=GfE.ob (ps:=Pl) X G li λ_ _ _ _ _ _=>bl4 λ_ _ _ _=>rfl
 obtain⟨_,_,F_50,k_50⟩:=GfE.ob (ps:=Pl) X G ln λ_ _ _ _ _ _=>bl4 λ_ _ _ _=>rfl
 obtain⟨_,_,F_51,k_51⟩:=GfE.ob (ps:=Nm) X G ma λ_ _ _ _ _ _=>bl2 λ_ _=>rfl
 obtain⟨_,_,F_52,k_52⟩:=GfE.ob (ps:=Nz) X G me λ_ _ _ _ _ _=>bl1 λ_=>rfl
 obtain⟨_,_,F_53,k_53⟩:=GfE.ob (ps:=P4) X G mf λ_ _ _ _ _ _=>bl1 λ_=>rfl
 obtain⟨_,_,F_54,k_54⟩:=GfE.ob (ps:=Na) X G mh λ_ _ _ _ _ _=>bl2 λ_ _=>rfl
 obtain⟨_,_,F_55,k_55⟩:=GfE.ob (ps:=Pb) X G mi λ_ _ _ _ _ _=>bl4 λ_ _ _ _=>rfl
 obtain⟨_,_,F_56,k_56⟩:=GfE.ob (ps:=Pc) X G mj λ_ _ _ _ _ _=>bl5 λ_ _ _ _ _=>rfl
 obtain⟨_,_,F_57,k_57⟩:=GfE.ob (ps:=Pi) X G mv λ_ _ _ _ _ _=>bl3 λ_ _ _=>rfl
 obtain⟨_,_,F_58,k_58⟩:=GfE.ob (ps:=Pd) X G mw λ_ _ _ _ _ _=>bl4 λ_ _ _ _=>rfl
 obtain⟨_,_,F_59,k_59⟩:=GfE.ob (ps:=Px) X G mz λ_ _ _ _ _ _=>bl3 λ_ _ _=>rfl
 obtain⟨_,_,F_60,k_60⟩:=GfE.ob (ps:=Ph) X G ng λ_ _ _ _ _ _=>bl2 λ_ _=>rfl
 obtain⟨_,_,F_61,k_61⟩:=GfE.ob (ps:=Ph) X G nh λ_ _ _ _ _ _=>bl2 λ_ _=>rfl
 obtain⟨_,_,F_62,k_62⟩:=GfE.ob (ps:=Pm) X G nu λ_ _ _ _ _ _=>bl2 λ_ _=>rfl
 obtain⟨_,_,F_63,k_63⟩:=GfE.ob (ps:=Pu) X G og λ_ _ _ _ _ _=>bl3 λ_ _ _=>rfl
 obtain⟨_,_,F_64,k_64⟩:=GfE.ob (ps:=Pf) X G oh λ_ _ _ _ _ _=>bl4 λ_ _ _ _=>rfl
 obtain⟨_,_,F_65,k_65⟩:=GfE.ob (ps:=Pp) X G oj λ_ _ _ _ _ _=>bl4 λ_ _ _ _=>rfl
 obtain⟨_,_,F_66,k_66⟩:=GfE.ob (ps:=P4) X G ot λ_ _ _ _ _ _=>bl1 λ_=>rfl
 obtain⟨_,_,F_67,k_67⟩:=GfE.ob (ps:=Py) X G ou λ_ _ _ _ _ _=>bl3 λ_ _ _=>rfl
 obtain⟨_,_,F_68,k_68⟩:=GfE.ob (ps:=Pj) X G ow λ_ _ _ _ _ _=>bl4 λ_ _ _ _=>rfl
 obtain⟨_,_,F_69,k_69⟩:=GfE.ob (ps:=Pg) X G ox λ_ _ _ _ _ _=>bl5 λ_ _ _ _ _=>rfl
 obtain⟨_,_,F_70,k_70⟩:=GfE.ob (ps:=Pk) X G oy λ_ _ _ _ _ _=>bl4 λ_ _ _ _=>rfl
 obtain⟨_,_,F_71,k_71⟩:=GfE.ob (ps:=Pv) X G pc λ_ _ _ _ _ _=>bl3 λ_ _ _=>rfl
 obtain⟨_,_,F_72,k_72⟩:=GfE.ob (ps:=Pe) X G pd λ_ _ _ _ _ _=>bl6 λ_ _ _ _ _ _=>rfl
 have F_73:=zix (st:=zj9) pj pq;have b_73:=F_73.binds (ps:=N3) λ_ _ _ _ _ _=>bl1 λ_=>rfl
 refine⟨cc,W.fnOf "law" "law" (zc6 zj9) (zcm zj9) (za5 zj9) .none kV_73 dc_73 pm_73 an_73 cd_73 ct_73,se,sf,λs v=>.of_eq rfl,λbase kb nb hBd=>?_⟩;have T:Txt l.prog w K mg base zan zai zac zae zaj zam zay zak:=⟨W.mg_none_of X G fg,W.mg_none_of X G fh,W.mg_none_of X G dh,W.mg_none_of X G ba,W.mg_none_of X G fj,W.mg_none_of X G fk,W.mg_none_of X G dq,W.mg_none_of X G fm,W.mg_none_of X G fu,W.mg_none_of X G cw,W.mg_none_of X G bu,W.mg_none_of X G ck,W.mg_none_of X G fw,W.mg_none_of X G cy,W.mg_none_of X G fy,⟨pg_Ring,hd_Ring,po_Ring,sa_Ring⟩,W.mg_of X G a_Ring,au,aq,ar,⟨pg_Rests,hd_Rests,po_Rests,sa_Rests⟩,W.mg_of X G a_Rests,am,⟨pg_Order,hd_Order,po_Order,sa_Order⟩,W.mg_of X G a_Order,⟨mk_Order,in_Order,kc_Order⟩,⟨pg_Degrees,hd_Degrees,po_Degrees,sa_Degrees⟩,W.mg_of X G a_Degrees,⟨mk_Degrees,in_Degrees,kc_Degrees⟩,⟨pg_Tails,hd_Tails,po_Tails,sa_Tails⟩,W.mg_of X G a_Tails,⟨mk_Tails,in_Tails,kc_Tails⟩,⟨pg_Waiting,hd_Waiting,po_Waiting,sa_Waiting⟩,W.mg_of X G a_Waiting,ae,af,ag,⟨pg_Leads,hd_Leads,po_Leads,sa_Leads⟩,W.mg_of X G a_Leads,ao,⟨pg_Lowering,hd_Lowering,po_Lowering,sa_Lowering⟩,W.mg_of X G a_Lowering,ah,ad,ac,⟨_,W.mg_of X G ak⟩,⟨_,W.mg_of X G cj⟩⟩;have hcc:zgb K f_40=some cc:=by unfold zgb;rw[jw,qd]
 have c_Shared:=k_0 (zo8 T F_0 );have c_Prime:=k_1 (zq0 T F_1 );have G_FieldInit:=zjt T F_2;have q_FieldInit:CCal _ _ _ _ _ _ _ _ _ _ _ _:=⟨_,_,_,G_FieldInit,b_2,⟨⟨_,gf,gg⟩,gh,k_2⟩,W.mg_of X G gc⟩;have k_RestsInit:=n_3 T.mg_Rests mk_Rests kc_Rests (zjs T F_3 c_Prime q_FieldInit ) rfl;have G_NoughtR:=zmu T F_4;have mf_NoughtR:∀n:Int,K3.Pr n->MCal l.prog w K mg base CX0 1 zai "nought" ["self"] [] (spNo 0 n (AtR zai n)):=λn hn=>⟨⟨_,_,((G_NoughtR).imp (zt7 hn (by decide) (by decide))).mono (by decide),b_4,⟨ca,qo,k_4⟩⟩,T.cl_Rests⟩
 have G_PlusR:=zry T F_5 ;have mf_PlusR:∀n:Int,K3.Pr n->MCal l.prog w K mg base CX0 3 zai "plus" ["self","a","b"] [] (spPl n (AtR zai n)):=λn hn=>⟨⟨_,_,((G_PlusR).imp (zu9 hn)).mono (by decide),b_5,⟨cf,qr,k_5⟩⟩,T.cl_Rests⟩
 have G_TimesR:=zor T F_6 ;have mf_TimesR:∀n:Int,K3.Pr n->MCal l.prog w K mg base CX0 3 zai "times" ["self","a","b"] [] (spTi n (AtR zai n)):=λn hn=>⟨⟨_,_,((G_TimesR).imp (zu2 hn)).mono (by decide),b_6,⟨cg,qu,k_6⟩⟩,T.cl_Rests⟩
 have hfld:∀n:Int,n<=9973->K3.Pr n->∃C,FldP l.prog w K mg base C (AtN zai zai n) n:=λn n1 n2=>⟨zai,zwe n2 (mf_NoughtR n n2) (mf_PlusR n n2) (mf_TimesR n n2)⟩
 have c_Deg:=k_7 (zwo T F_7 );have m_Rank_Order:MCal l.prog w K mg base CX0 3 zac "rank" ["self","term"] [] (spRank (AtO zac) rkL):=⟨⟨_,_,(zrv T F_8 ).mono (by decide),b_8,⟨ci,qz,k_8⟩⟩,T.cl_Order⟩;have bm_Order:BM K zac "rank":=⟨⟨_,ci,⟨gk,gl,by decide⟩⟩⟩;have m_Rank_Degrees:MCal l.prog w K mg base CX0 3 zae "rank" ["self","term"] [] (spRank (AtO zae) rkD):=⟨⟨_,_,(zsg T F_9 c_Deg).mono (by decide),b_9,⟨ay,rn,k_9⟩⟩,T.cl_Degrees⟩;have bm_Degrees:BM K zae "rank":=⟨⟨_,ay,⟨gm,gn,by decide⟩⟩⟩;have m_Rank_Tails:MCal l.prog w K mg base CX0 3 zaj "rank" ["self","term"] [] (spRank (AtO zaj) rkT):=⟨⟨_,_,(zsa T F_10 c_Deg).mono (by decide),b_10,⟨bh,gp,k_10⟩⟩,T.cl_Tails⟩;have bm_Tails:BM K zaj "rank":=⟨⟨_,bh,⟨dz,fc,by decide⟩⟩⟩;have fit_Order:MCal l.prog w K mg base CX0 1 zac "fits" ["self","many"] [] (spFits (AtO zac) λ_=>true):=⟨⟨_,_,ziw T (At:=AtO zac) F_11,b_11,⟨bi,gu,k_11⟩⟩,T.cl_Order⟩;have fit_Degrees:MCal l.prog w K mg base CX0 1 zae "fits" ["self","many"] [] (spFits (AtO zae) λ_=>true):=⟨⟨_,_,ziw T (At:=AtO zae) F_11,b_11,⟨av,gu,k_11⟩⟩,T.cl_Degrees⟩;have fit_Tails:MCal l.prog w K mg base CX0 1 zaj "fits" ["self","many"] [] (spFits (AtO zaj) λ_=>true):=⟨⟨_,_,ziw T (At:=AtO zaj) F_11,b_11,⟨bn,gu,k_11⟩⟩,T.cl_Tails⟩;have first_Order:MCal l.prog w K mg base CX0 6 zac "first_of" ["self","terms"] [] (spFirst (AtO zac) rkL):=⟨⟨_,_,zh8 T F_12 (zmz _) m_Rank_Order bm_Order,b_12,⟨bp,gx,k_12⟩⟩,T.cl_Order⟩;have first_Degrees:MCal l.prog w K mg base CX0 6 zae "first_of" ["self","terms"] [] (spFirst (AtO zae) rkD):=⟨⟨_,_,zh8 T F_12 (zmz _) m_Rank_Degrees bm_Degrees,b_12,⟨aw,gx,k_12⟩⟩,T.cl_Degrees⟩;have first_Tails:MCal l.prog w K mg base CX0 6 zaj "first_of" ["self","terms"] [] (spFirst (AtO zaj) rkT):=⟨⟨_,_,zh8 T F_12 (zmz _) m_Rank_Tails bm_Tails,b_12,⟨bq,gx,k_12⟩⟩,T.cl_Tails⟩;have hord:∀(kd:Int) (ws:Lc),0<=kd->kd<3->Nn ws->(∀x∈ws,x<10^31)->∃C,OrdP l.prog w K mg base C (AtK zac zae zaj zac kd ws) (rkk kd ws) (fbK kd ws):=by
  intro kd ws k0 k4 wn wb;rcases(by lia:kd=0\/kd=1\/kd=2) with rfl | rfl | rfl
  ·rw[show rkk 0 ws=rkL from funext λxs=>by unfold rkk;simp,show fbK 0 ws=λ_=>true from funext λm=>by unfold fbK;simp];show ∃C,OrdP l.prog w K mg base C (AtO zac) rkL _;exact⟨zac,zmz _,fit_Order,m_Rank_Order,first_Order⟩
  ·rw[show rkk 1 ws=rkD from funext λxs=>by unfold rkk;simp,show fbK 1 ws=λ_=>true from funext λm=>by unfold fbK;simp];show ∃C,OrdP l.prog w K mg base C (AtO zae) rkD _;exact⟨zae,zmz _,fit_Degrees,m_Rank_Degrees,first_Degrees⟩
  ·rw[show rkk 2 ws=rkT from funext λxs=>by unfold rkk;simp,show fbK 2 ws=λ_=>true from funext λm=>by unfold fbK;simp];show ∃C,OrdP l.prog w K mg base C (AtO zaj) rkT _;exact⟨zaj,zmz _,fit_Tails,m_Rank_Tails,first_Tails⟩
 have k_RgInit:=n_13 T.mg_Ring mk_Ring kc_Ring (znv T F_13 hord) rfl;have c_Prod:=k_14 (zt0 T F_14 );have c_Goes:=k_15 (zvc T F_15 );have c_LeftO:=k_16 (zqo T F_16 c_Goes );have c_Absorb:=k_17 (zp8 T F_17 hfld);have c_Scal:=k_18 (zvd T F_18 c_Prod hfld);have c_FT:=k_19 (zyt T F_19 hord);have m_Place:=k_20 T.cl_Waiting (zq6 T F_20 );have m_Put:=k_21 T.cl_Waiting (zw2 T F_21 m_Place hord);have k_WaInit:=n_22 T.mg_Waiting mk_Waiting kc_Waiting (zog T F_22 m_Put ) rfl;have m_Taken:=k_23 T.cl_Waiting (zqx T F_23 );have k_LeInit:=n_24 T.mg_Leads mk_Leads kc_Leads (zpe T F_24 c_FT ) rfl;have m_Fit:=k_25 T.cl_Leads (zwk T F_25 c_Goes );have c_Shf:=k_26 (zwz T F_26 c_Prod );have c_SbV:=k_27 (zv2 T F_27 );have c_Les:=k_28 (zwy T F_28 c_SbV );have c_WR:=k_29 (zyu T F_29 );have c_Clr:=k_30 (zxj T F_30 c_Shared c_Les );have m_Rtn:=k_31 T.cl_Lowering (zxr T F_31 k_WaInit m_Taken m_Fit c_LeftO c_Shf m_Put c_Clr hord);have c_Meet:=k_32 (zvr T F_32 );have c_Apart:=k_33 (zsk T F_33 );have m_Ctn:=k_34 T.cl_Lowering (zyj T F_34 c_Meet c_LeftO c_Shf c_Clr m_Rtn );have k_LoI:=n_35 T.mg_Lowering mk_Lowering kc_Lowering (zxm T F_35 k_LeInit c_WR ) rfl;have c_Turns:=k_36 (zqn T F_36 c_Meet hord);have c_Lets:=k_37 (zua T F_37 c_Meet c_Goes );have c_Due1:=k_38 (zu3 T F_38 c_Apart c_Lets );have c_LBP:=k_39 (zv1 T F_39 c_FT );have G_Pairs:=zrp T F_40 c_LBP c_Turns c_Due1 hcc (W.codeHd_of_K kb se) hBd;have cPairs:Cal _ _ _ _ _ _ _ _ _ _ _:=⟨_,_,G_Pairs,b_40,jy,W.mg_of X G jv⟩;have G_IsB:=zxw T F_41 c_LBP k_LoI m_Ctn hord cPairs;have cIsB:=k_41 G_IsB;have c_Tms:=k_42 (zw4 T F_42 c_Scal c_Absorb );have c_Pls:=k_43 (zya T F_43 c_Absorb );have c_Smd:=k_44 (zyk T F_44 c_Tms c_Absorb );have c_Sup:=k_45 (zyn T F_45 c_Smd );have c_Als:=k_46 (zyg T F_46 c_Sup );have c_IsR:=k_47 (zxg T F_47 k_LeInit m_Fit );have c_Prt:=k_48 (zxd T F_48 c_Smd c_Pls );have G_Hwo:=zyl T F_49 c_IsR c_Als c_Prt cIsB;have cHwo:=k_49 G_Hwo;have G_Hld:=zww T F_50 c_Sup cHwo;have cHld:=k_50 G_Hld;have c_Cell:=k_51 (zuw T F_51 );have c_LPrime:=k_52 (zo4 T F_52 );have c_LPr:=k_53 (zv8 T F_53 c_LPrime );have c_LTu:=k_54 (zv6 T F_54 );have c_Gn:=k_55 (zyz T F_55 );have c_PT:=k_56 (zzf T F_56 c_Gn );have c_LTms:=k_57 (ztr T F_57 c_PT );have c_LPls:=k_58 (zuq T F_58 c_Gn );have c_LSm:=k_59 (zxz T F_59 c_LTms c_LPls );have c_Lss:=k_60 (zwi T F_60 );have c_Into:=k_61 (zus T F_61 );have c_Ld5:=k_62 (zw0 T F_62 hord);have c_Pl5:=k_63 (zwc T F_63 c_Ld5 c_Into );have c_Dv5:=k_64 (zx4 T F_64 c_Ld5 c_Pl5 c_LTu c_Lss c_Gn c_PT );have c_Cr5:=k_65 (zyb T F_65 c_Ld5 c_Lss c_PT );have c_Or5:=k_66 (zw1 T F_66 );have c_Po5:=k_67 (zv0 T F_67 c_Gn );have c_Mx5:=k_68 (zv9 T F_68 c_LTms c_LPls );have c_Mo5:=k_69 (zx5 T F_69 c_Cr5 c_Ld5 c_Lss c_Dv5 c_LPls c_Mx5 );have c_Ba5:=k_70 (zx9 T F_70 c_Mo5 );have c_Bk5:=k_71 (zxq T F_71 );have c_Wo5:=k_72 (zvy T F_72 c_Ba5 c_Dv5 c_LPls c_LTms c_Bk5 );exact zx8 T F_73 c_Cell c_LPr c_Or5 k_RestsInit k_RgInit c_Po5 c_LSm c_Wo5 hord cHld
def walk{l:W.OpenLaw}{q:Ll}{c:List Lp}{p:Sa->Lo->Prop}{i:Lk->Lo->Prop}{d:DefRec}{K:Params->Li}(y:l.most=some 63)(e:d.params.defaults=[])
  (m:∀(w:Lk) (h:Lo),i w h->(K w.params).In h) (b:Lg) (o:∀(w:Lk) (h:Lo),i w h->h.get? b=some (W.tabObj #[]))
  (F:∀(w:Lk) (mg:Sa) (fa:Lg) (h:Lo),(K w.params).In h->h.Ns mainGlobals mg->mg d.name=some (.ref fa) ->
   ∃(cc:Lg) (fd:FuncData),W.codeHdIn (K w.params) cc b=true/\(K w.params).lookup b=none/\(∀(s:Lj) (u:Lh),BindsTo s fd ⟨[u],[]⟩ [("_law_script",u)])/\∀base:Lo,(K w.params).In base->base.Ns mainGlobals mg->base.BuiltinsAt mg b->FnOk l.prog w (K w.params) mg base CX0 26 fa fd ["_law_script"] (spLaw (K w.params) b)) :
  W.WalkO q c p i l.row.toRowW d [] (λf vs=>PySem.call f vs):=
 L2.walk_ofT (n:=63) (k:=26) (x:="_law_script") (CX:=λ_=>CX0) (sp:=λw b=>spLaw (K w.params) b) y (by decide) e ⟨Z,by decide,by decide⟩ m b o F (λ_ _ a j B r A=>⟨a,j,Z,A,B,r.2,λ_=>Z⟩) λ_ _ _ _ _ z=>z
end K6
open PySem PySem.W PyProof.Rows
set_option maxRecDepth 100000 in
theorem PySem.Challenge.cw_idealroom_k45_never_both_holds : PySem.Challenge.rw_idealroom_k45_never_both.Holds := by
 w_on;o_law;k_head;(case hw=>w_witness2)
 k_fill
 refine K6.walk (l:=PySem.Challenge.rw_idealroom_k45_never_both) rfl rfl (λw h Y=>W.km_in_of Y) _ (λw h Y=>W.km_tabs_of Y _ (List.Mem.head _)) ?F
 case F=>
  intro w mg fa h KX G hmg;refine' K6.all_mk KX G hmg ?cz ?au ?aq ?ar ?cm ?am ?cn ?bv ?cq ?bw ?ae ?af ?ag ?cu ?ao ?bc ?ah ?ad ?ac ?qe ?qg ?gc ?gf ?gg ?gh ?qh ?qi ?qk ?ca ?qo ?qp ?cf ?qr ?qt ?cg ?qu ?qv ?qy ?ci ?qz ?gk ?gl ?rf ?ay ?rn ?gm ?gn ?rp ?bh ?gp ?dz ?fc ?gr ?av ?bi ?bn ?gu ?gw ?aw ?bp ?bq ?gx ?gy ?gz ?ie ?ig ?im ?io ?ip ?ir ?iu ?iw ?ja ?jb ?jc ?jd ?je ?jf ?jg ?jh ?ji ?jk ?jm ?jn ?jo ?jq ?jr ?js ?jt ?ju ?jv ?jw ?jx ?jy ?jz ?kc ?ke ?kh ?kj ?ku ?kz ?lg ?li ?ln ?ma ?me ?mf ?mh ?mi ?mj ?mv ?mw ?mz ?ng ?nh ?nu ?og ?oh ?oj ?ot ?ou ?ow ?ox ?oy ?pc ?pd ?ph ?pj ?pq ?qc ?fg ?fh ?dh ?ba ?fj ?fk ?dq ?fm ?fu ?cw ?bu ?ck ?fw ?cy ?fy ?ak ?cj ?qd ?se ?sf
  all_goals try first | exact .mk (by k_is) (by k_is) (by k_is) (by k_is) (by k_is) (by k_is) (by k_is) | k_is | exact .mk (by k_is) (by k_is) (by k_is) (by k_is) (by k_is) (by k_is) (by k_is) (by k_is) | exact .mk (by k_is) (.mk (by k_is) (by k_is) (by k_is)) | exact .mk (by k_is) (by k_is) (by k_is) | exact .mk (by k_is) (by k_is) (.mk (by k_is) (by k_is) (by k_is)) | exact rfl | kernel_rfl
#print axioms PySem.Challenge.cw_idealroom_k45_never_both_holds
