import PyProof.Rows.All
import Wide.All
import OpenK.AllK
import Wide.FinOn
import Lean
import PyProof.EqAt
import PyProof.EqKinds
import PyProof.TupleCall
import KE.KSortTup
import KE.KSortAsk
import KE.KLam
import KE.KNestM
import KE.KDictList
import KE.KRevIter
import PyProof.ExcArgsOwn
import PyProof.NsDelKeeps
import PyProof.WalksEnum
import PyProof.EnumMake
import PySem.Challenge.RW_idealroom_k39_whole_tables
set_option maxHeartbeats 0
set_option Elab.async false
theorem Z.{u}{α:Sort u}{a:α}:a=a:=rfl
local macro_rules|`(↥$x)=>`(PySem.wpAny (PySem.model ($x).prog ($x).w) ($x).A)
local macro_rules|`(⇑$a)=>`(PySem.wpAny (PySem.model $(Lean.mkIdent `prog) $(Lean.mkIdent `w)) $a)
local macro_rules|`(‹$e›)=>`(by simpa using $e)
theorem Zb{P:Prop}(h:P:=by rfl):P:=h
theorem Zc{P:Prop}(h:P:=by decide):P:=h
local macro_rules|`(↑↑$p)=>`(autoParam $p Zc._auto_1)|`(↑$p)=>`(autoParam $p Zb._auto_1)
def RW{G:Prop}(h:∀g:Prop,(G->g)->g):G:=h G id
local macro_rules | `(tactic| lia) => `(tactic| first | lia +lia | omega)
local macro_rules | `(tactic| obtain $p:rcasesPatMed := $e) => `(tactic| (refine RW fun g k => ?_; rcases $e:term with $p:rcasesPatMed <;> (refine k ?_; clear k g)))
local macro_rules | `(tactic| rintro $ps:rintroPat*) => do
 let mut a : Array (Lean.TSyntax `tactic) := #[]
 let mut b := a
 for p in ps do
  let q := p.raw[0]
  let x := Lean.mkIdent (.mkSimple s!"y_{b.size}")
  if (q.find? (·.isToken "|")).isSome then Lean.Macro.throwUnsupported
  if q[0].isIdent && q[0].getId != `rfl then a := a.push (← `(tactic| intro $(⟨q[0]⟩):ident))
  else
   a := a.push (← `(tactic| intro $x:ident))
   b := b.push (← `(tactic| rcases $x:ident with $(⟨q⟩):rcasesPat))
 if b.size < 1 then Lean.Macro.throwUnsupported
 `(tactic| ($[$a];*; refine RW fun g k => ?_; $[$b];*; refine k ?_; clear k g))
local macro_rules | `(tactic| let $x:ident : $y := $e) => if y.raw.isOfKind ``Lean.Parser.Term.paren then Lean.Macro.throwUnsupported else `(tactic| have $x : $y := $e)
local macro_rules | `(tactic| let $x:ident := $e) => `(tactic| have $x := $e)
local macro_rules | `(tactic| let $p:term := $e) => do
 let rec f : Nat -> Lean.Syntax -> Lean.MacroM (Lean.TSyntax `rcasesPat)
 | 0,_ => Lean.Macro.throwUnsupported
 | n+1,s => do
  if s.isOfKind ``Lean.Parser.Term.anonymousCtor then
   let a ← s[1].getSepArgs.mapM fun x => do `(Lean.Parser.Tactic.rcasesPatLo| $(← f n x):rcasesPat)
   `(rcasesPat| ⟨$a,*⟩)
  else if s.isIdent then `(rcasesPat| $(⟨s⟩):ident) else `(rcasesPat| _)
 if p.raw.isOfKind ``Lean.Parser.Term.anonymousCtor then `(tactic| obtain $(← f 9 p.raw):rcasesPat := $e) else Lean.Macro.throwUnsupported
local macro_rules | `(tactic| exists $a,*) => `(tactic| refine ⟨$a,*, ?_⟩)
local macro_rules | `(⋯) => `(by lia)
local macro_rules | `(nofun) => `(by decide +kernel)
local macro_rules | `(∅) => `(by decide)
abbrev Lh:=PySem.Addr
abbrev Li:=PySem.Value
abbrev Lj:=PySem.W.Frag
abbrev Lk:=PySem.Shared
abbrev Ll:=PySem.World
abbrev Lm:=PySem.Program
abbrev Ln:=PySem.Stmt
abbrev Lo:=PySem.Expr
abbrev Lp:=PySem.Heap
abbrev Lq:=PySem.Str
section
open PySem
abbrev Pa:List Lq:=["_law_p","_law_a","_law_b"]
abbrev Pb:List Lq:=["_law_p","_law_top","_law_bottom"]
abbrev Pc:List Lq:=["one","other"]
abbrev Pd:List Lq:=["_law_way_here","_law_tops_here"]
abbrev Pe:List Lq:=["_law_p","_law_term","_law_tables","_law_size"]
abbrev Pf:List Lq:=["_law_top","_law_bottom"]
abbrev Pg:List Lq:=["self","a","b"]
abbrev Ph:List Lq:=["self","term"]
abbrev Pi:List Lq:=["_law_p","_law_way_here","_law_tops_here","_law_cells"]
abbrev Pj:List Lq:=["_law_p","_law_cell"]
abbrev Pk:List Lq:=["_law_p","_law_f","_law_term","_law_number_here"]
abbrev Pl:List Lq:=["_law_p","_law_row","_law_rows"]
abbrev Pm:List Lq:=["self"]
abbrev Pp:List Lq:=["_law_p","_law_size","_law_at"]
abbrev Pq:List Lq:=["_law_p","_law_many","_law_polys","_law_cell"]
abbrev Ps:List Lq:=["_law_p","_law_f","_law_tables","_law_size"]
abbrev Pu:List Lq:=["_law_way_here","_law_term"]
abbrev Pv:List Lq:=["ring","number","term","f"]
abbrev Px:List Lq:=["_law_p","_law_f","_law_g"]
abbrev Py:List Lq:=["self","terms"]
abbrev Pz:List Lq:=["self","a"]
abbrev P0:List Lq:=["ring","f","row"]
abbrev P1:List Lq:=["_law_script","_law_k"]
abbrev P2:List Lq:=["_law_p","_law_found","_law_size"]
abbrev P3:List Lq:=["self","top","bottom"]
abbrev P4:List Lq:=["_law_p","_law_one","_law_other"]
abbrev P5:List Lq:=["self","prime"]
abbrev P7:List Lq:=["many","at","power"]
abbrev P8:List Lq:=["self","many","field","order"]
abbrev P9:List Lq:=["_law_script"]
end
abbrev La:=List<|PySem.Addr×PySem.Obj
abbrev Va:=PySem.Value->PySem.Shared->Prop
abbrev Sa:=PySem.Str->Option PySem.Value
abbrev Lb:=List<|List Int
abbrev Lc:=List Int
abbrev Le:=List PySem.Addr
abbrev Lf:=List PySem.Str
abbrev Ta:=Lean.Grind.Field
section
open PySem PyProof.Rows
abbrev Ya:=@wpAny_bind
abbrev Yb:=@wpAny_pure
abbrev Yc:=@List.getElem?_eq_getElem
abbrev Yd:=@List.length_map
abbrev Ye:=@Heap.get?_push_of_some
abbrev Yf:=@Nat.lt_of_lt_of_le
abbrev Yg:=@List.mem_append_right
abbrev Yh:=@if_neg
abbrev Yi:=@Nat.le_refl
abbrev Yj:=@List.mem_cons
abbrev Yk:=@Heap.get?_push_size
abbrev Yl:=@if_pos
abbrev Ym:=@List.getElem?_map
abbrev Yn:=@Heap.lt_size
abbrev Yo:=@decide_eq_true
abbrev Yp:=@Nat.lt_of_le_of_lt
abbrev Yq:=@List.mem_singleton
abbrev Yr:=@Nat.le_trans
abbrev Ys:=@List.size_toArray
abbrev Yt:=@Bool.false_ne_true
abbrev Yu:=@List.filter_eq_self
abbrev Yv:=@Nat.pow_le_pow_right
abbrev Yw:=@decide_eq_false
abbrev Yx:=@List.mem_of_getElem?
abbrev Yy:=@List.getElem?_eq_none
abbrev Yz:=@List.map_cons
abbrev Y0:=@Nat.ne_of_lt
abbrev Y1:=@Int.toNat_natCast
abbrev Y2:=@Nat.zero_le
abbrev Y3:=@Int.mul_le_mul_of_nonneg_left
abbrev Y4:=@Nat.mul_le_mul_right
abbrev Y5:=@List.length_cons
abbrev Y6:=@List.length_append
abbrev Y7:=@wpAny_dictEntries
abbrev Y8:=@wpAny_call_entry
abbrev Y9:=@List.not_mem_nil
abbrev Ja:=@List.length_eq_zero_iff
abbrev Jb:=@wpAny_callSpecial?_slot
abbrev Jc:=@Ne.symm
abbrev Jd:=@Int.emod_lt_of_pos
abbrev Je:=@List.mem_iff_getElem?
abbrev Jf:=@False.elim
abbrev Jg:=@Option.some.inj
abbrev Jh:=@Nat.lt_or_ge
abbrev Ji:=@List.map_map
abbrev Jj:=@List.mem_map
abbrev Jk:=@of_decide_eq_true
abbrev Jl:=@wpAny_field
abbrev Jm:=@List.lookup_cons
abbrev Jn:=@Int.emod_nonneg
abbrev Jo:=@wpAny_newObj_type
abbrev Jp:=@wpAny_setField_rec
abbrev Jq:=@wpAny_truthy_bool
abbrev Jr:=@wpAny_holding
abbrev Js:=@wpAny_seqItems
abbrev Jt:=@wpAny_tryCatch
abbrev Ju:=@wpAny_richCompare_same_room
abbrev Jv:=@List.mem_append
abbrev Jw:=@List.getElem_mem
abbrev Jx:=@congrArg
abbrev Jy:=@eq_of_beq
abbrev Jz:=@Bool.and_eq_true
end
/- strict -/
/- ind2 -/
set_option linter.all false
set_option maxRecDepth 100000
namespace L2
open PySem PySem.Spec PyProof.Rows
abbrev eT:=Sum Int Lq
def wI:eT->Li->Bool
 | .inl k,v=>Value.isInt k v
 | .inr x,v=>Value.isStrOf x v
def G6(w:Ll):eT->Int
 | .inl k=>hashInt k
 | .inr x=>hashStr w x
theorem qZ:∀{k} {v},wI k v=true->(∃i t,k=Sum.inl i/\v=Value.int i t)\/(∃x t,k=Sum.inr x/\v=Value.str x t)
 | .inl i,v,h=>by let⟨t,e⟩:=Value.isInt_shape (k:=i) (v:=v) h;exact .inl ⟨i,t,Z,e⟩
 | .inr x,v,h=>by let⟨t,e⟩:=Value.isStrOf_shape (x:=x) (v:=v) h;exact .inr ⟨x,t,Z,e⟩
def YS(i:Int)(t:Tok):wI (.inl i) (.int i t)=true:=by simp[wI,Value.isInt]
def ZE(x:Lq)(t:Tok):wI (.inr x) (.str x t)=true:=by simp[wI,Value.isStrOf]
def z1v(a b:Int):decide ((Sum.inl a:eT)=Sum.inl b)=(a==b):=by
 by_cases e:a=b
 ·subst e;simp
 ·let h:¬(Sum.inl a:eT)=Sum.inl b:=λq=>e<|Sum.inl.inj q;rw[Yw h];exact(beq_eq_false_iff_ne.mpr e).symm
def z1x(a b:Lq):decide ((Sum.inr a:eT)=Sum.inr b)=decide (a=b):=by
 by_cases e:a=b
 ·subst e;simp
 ·let h:¬(Sum.inr a:eT)=Sum.inr b:=λq=>e<|Sum.inr.inj q;rw[Yw h,Yw e]
def z1m(a:Int)(b:Lq):decide ((Sum.inl a:eT)=Sum.inr b)=false:=Yw<|λq=>nomatch q
def z2f(a:Lq)(b:Int):decide ((Sum.inr a:eT)=Sum.inl b)=false:=Yw<|λq=>nomatch q
def gD(prog:Lm)(w:Ll):PySem.KeyKind prog w eT where
 is:=wI
 hash:=G6 w
 inj:=λv a b ha hb=>by
  rcases qZ ha with⟨i,t,rfl,rfl⟩ | ⟨x,t,rfl,rfl⟩
  ·rcases qZ hb with⟨j,u,rfl,e⟩ | ⟨y,u,rfl,e⟩
   ·injection e with e1 _;rw[e1]
   ·exact nomatch e
  ·rcases qZ hb with⟨j,u,rfl,e⟩ | ⟨y,u,rfl,e⟩
   ·exact nomatch e
   ·injection e with e1 _;rw[e1]
 byValue:=λk v h=>by rcases qZ h with⟨i,t,rfl,rfl⟩ | ⟨x,t,rfl,rfl⟩ <;> rfl
 pyHash:=λhv h=>by
  rcases qZ hv with⟨i,t,rfl,rfl⟩ | ⟨x,t,rfl,rfl⟩
  ·exact wpAny_pyHash_int h
  ·exact wpAny_pyHash_str h
 eqBool:=λhu hv h=>by
  rcases qZ hu with⟨i,t,rfl,rfl⟩ | ⟨x,t,rfl,rfl⟩
  ·rcases qZ hv with⟨j,u,rfl,rfl⟩ | ⟨y,u,rfl,rfl⟩
   ·rw[z1v]at h;exact wpAny_eqBool_int h
   ·rw[z1m]at h;exact SeqAt.EqAt.int_str i t y u _ _ _ _ h
  ·rcases qZ hv with⟨j,u,rfl,rfl⟩ | ⟨y,u,rfl,rfl⟩
   ·rw[z2f]at h;exact SeqAt.EqAt.str_int x t j u _ _ _ _ h
   ·rw[z1x]at h;exact wpAny_eqBool_str h
 «strs»:=λk x t v h=>by
  rcases qZ h with⟨i,u,rfl,e⟩ | ⟨y,u,rfl,e⟩
  ·exact nomatch e
  ·injection e with e1 _
   subst e1;cases v <;> rfl
def Z7(prog:Lm)(w:Ll)(i:Int)(t:Tok):(gD prog w).is (.inl i) (.int i t)=true:=YS i t
def zlj(prog:Lm)(w:Ll)(x:Lq)(t:Tok):(gD prog w).is (.inr x) (.str x t)=true:=ZE x t
inductive V where
 | non | bl (b:Bool) | int (i:Int) | str (x:Lq) | byt (b:Array UInt8) | flt (b:UInt64) | ref (a:Lh) | ty (n:String)
 deriving DecidableEq
abbrev Ka:=List<|List eT×V
abbrev Lg:=List V
def aS:V->Li->Prop
 | .non,u=>u=Value.none
 | .bl b,u=>u=Value.bool b
 | .int i,u=>∃t,u=Value.int i t
 | .str x,u=>∃t,u=Value.str x t
 | .byt b,u=>∃t,u=Value.bytes b t
 | .flt b,u=>∃t,u=Value.float b t
 | .ref a,u=>u=Value.ref a
 | .ty n,u=>u=Value.type n
abbrev aN:Lg->List Li->Prop:=Paired aS
def aN.length(r:aN xs us):xs.length=us.length:=Paired.length r
theorem aN.get:∀{xs} {us} {i:Nat} {x},aN xs us->xs[i]?=some x->∃u,us[i]?=some u/\aS x u
 | _,_,_,_,.nil,e=>by simp at e
 | _,_,0,_,.cons r _,e=>by simp at e;subst e;exact⟨_,rfl,r⟩
 | _,_,i+1,x,.cons _ t,e=>by let⟨u,b,a⟩:=aN.get (i:=i) (x:=x) t ‹e›;exact⟨u,‹b›,a⟩
theorem aN.set(r:aS x u):∀{xs} {us} i,aN xs us->aN (xs.set i x) (us.set i u)
 | _,_,_,.nil=>.nil
 | _,_,0,.cons _ t=>.cons r t
 | _,_,i+1,.cons q t=>.cons q<|aN.set r i t
theorem aN.append:∀{xs ys} {us ws},aN xs us->aN ys ws->aN (xs++ys) (us++ws)
 | _,_,_,_,.nil,s=>s
 | _,_,_,_,.cons r t,s=>.cons r<|aN.append t s
theorem aN.take:∀{xs} {us} n,aN xs us->aN (xs.take n) (us.take n)
 | _,_,0,_=>.nil
 | _,_,_+1,.nil=>.nil
 | _,_,n+1,.cons r t=>.cons r<|aN.take n t
theorem aN.drop:∀{xs} {us} n,aN xs us->aN (xs.drop n) (us.drop n)
 | _,_,0,r=>r
 | _,_,_+1,.nil=>.nil
 | _,_,n+1,.cons _ t=>aN.drop n t
def eI:Option V->Option Li->Prop
 | some v,some u=>aS v u
 | none,none=>True
 | _,_=>False
def KV:List (κ×V)->List (κ×Li)->Prop:=Paired fun(p:κ×V) (q:κ×Li)=>p.1=q.1/\aS p.2 q.2
def kV:eT->V
 | .inl i=>.int i
 | .inr x=>.str x
inductive HO where
  | lst (xs:Lg)
  | tup (xs:Lg)
  | dK (ap:List (eT×V)) | dT (ap:Ka)
  | set (S:Int->Bool) (n:Nat)
  | ins (C dx:Lh) (fs:List (Lq×V))
  | own (x:Lh)
  | xd (fs:List (Lq×V))
  | met (f x:Lh)
  | rng (lo hi:Int)
  | frz (o:Obj) (u:HO)
  | tbl (ps:Array Li)
  | ext (φ:Lp->Prop)
abbrev Hp:=Lh->Option HO
def upd(H:Hp)(a:Lh)(o:HO):Hp:=λb=>if b=a then some o else H b
def aW:upd H a o a=some o:=by unfold upd;rw[Yl Z]
def aV(h:b≠a):upd H a o b=H b:=by unfold upd;rw[Yh h]
def eM{H:Hp}(h:H a=some o)(h':H b=some u)(d:o≠u):a≠b:=by intro e;subst e;rw[h]at h';exact d<|Jg h'
def eE{H:Hp}(h:H a=some o)(h':H b=none):a≠b:=by intro e;subst e;rw[h]at h';cases h'
section
variable(P:Lm)(w:Ll)
def bN(H:Hp)(h:Lp)(a:Lh):HO->Prop
 | .lst xs=>xs.length<=sizeLine/\∃(its:List Li) (n:Nat),aN xs its/\h.get? a=some { cls:=.type "list",data:=.seq its.toArray n }
 | .tup xs=>xs.length<=sizeLine/\∃its:List Li,aN xs its/\IsTup h a its.toArray
 | .dK ap=>ap.length<=sizeLine/\(a==sysModules)=false/\∃vs,KV ap vs/\h.DictOf (gD P w) a vs
 | .dT ap=>ap.length<=sizeLine/\(a==sysModules)=false/\∃xs:List (List eT×Lh×Li),
   Paired (fun(p:List eT×V) (q:List eT×Lh×Li)=>p.1=q.1/\H q.2.1=some (.tup<|p.1.map kV)/\aS p.2 q.2.2) ap xs /\
   ∃o es ep,h.get? a=some o/\o.ExactDict/\o.data=.dict es ep/\es.toList=xs.map (entryOfKey<|tupleKind<|gD P w)/\(xs.map (·.1)).Nodup
 | .set S n=>h.SetOf (intKind P w) a S n
 | .ins C dx fs=>H dx=some (.own a)/\fs.length<=1000/\dx≠a/\h.get? a=some (W.instObj C dx) /\
   ∃mA,h.Ns1 dx mA/\(∀f,eI (fs.lookup f)<|mA f)/\PySem.Within mA (fs.map (·.1))
 | .own _=>∃o,h.get? a=some o
 | .xd fs=>∃mA,h.Ns1 a mA/\∀f,eI (fs.lookup f)<|mA f
 | .rng lo hi=>∃t u v,h.get? a=some { cls:=.type "range",data:=.fields #[.int lo t,.int hi u,.int 1 v] }
 | .frz o u=>h.get? a=some o/\bN H h a u
 | .tbl ps=>h.get? a=some { cls:=.none,data:=.fields ps }
 | .met f x=>h.get? a=some (W.methodObj (.ref f)<|.ref x)
 | .ext φ=>φ h/\(∃o,h.get? a=some o)/\∀h1 h2:Lp,φ h1->(∀o,h1.get? a=some o->h2.get? a=some o)->φ h2
def fV(H:Hp)(h:Lp):Prop:=∀a o,H a=some o->bN P w H h a o
end
section
variable{P:Lm}{w:Ll}{H H':Hp}{h h':Lp}{a:Lh}{o:HO}
def bN.lt(x:bN P w H h a o):a<h.objs.size:=by
 cases o with
 | lst xs=>let⟨_,_,_,_,e⟩:=x;exact Yn e
 | tup xs=>let⟨_,_,_,p⟩:=x;exact p.lt
 | dK ap=>let⟨_,_,_,_,o,_,_,e,_⟩:=x;exact Yn e
 | dT ap=>let⟨_,_,_,_,o,_,_,e,_⟩:=x;exact Yn e
 | set S n=>let⟨o,_,_,_,e,_⟩:=x;exact Yn e
 | ins C dx fs=>let⟨_,_,_,e,_⟩:=x;exact Yn e
 | own y=>let⟨_,e⟩:=x;exact Yn e
 | xd fs=>let⟨_,⟨_,_,_,e,_⟩,_⟩:=x;exact Yn e
 | rng lo hi=>let⟨_,_,_,e⟩:=x;exact Yn e
 | frz ob u=>let⟨e,_⟩:=x;exact Yn e
 | tbl ps=>exact Yn<|show h.get? a=some _ from x
 | met f y=>exact Yn<|show h.get? a=some _ from x
 | ext φ=>let⟨_,⟨_,e⟩,_⟩:=x;exact Yn e
theorem Paired.mapP:∀{l₁} {l₂},Paired F l₁ l₂->(∀a b,F a b->G a b)->Paired G l₁ l₂
 | _,_,.nil,_=>.nil
 | _,_,.cons r t,f=>.cons (f _ _ r)<|Paired.mapP t f
def Paired.imp'{F G:α->β->Prop}(f:∀a b,F a b->G a b){c:List α}{d:List β}(r:Paired F c d):Paired G c d:=Paired.mapP r f
def bN.stay(x:bN P w H h a o)(k:∀b u,(b=a\/H b=some (.own a))->h.get? b=some u->h'.get? b=some u)(s:∀b,H b=some (.own a)->H' b=some (.own a)) (A:∀b xs,H b=some (.tup xs)->H' b=some (.tup xs)):bN P w H' h' a o:=by
 induction o with
 | lst xs=>let⟨z,its,n,r,e⟩:=x;exact⟨z,its,n,r,k _ _ (.inl Z) e⟩
 | tup xs=>let⟨z,its,r,ob,e,c⟩:=x;exact⟨z,its,r,ob,k _ _ (.inl Z) e,c⟩
 | dK ap=>let⟨z,y,vs,r,ob,i,j,e,c⟩:=x;exact⟨z,y,vs,r,ob,i,j,k _ _ (.inl Z) e,c⟩
 | dT ap=>
  let⟨z,y,xs,r,ob,i,j,e,c⟩:=x;exact⟨z,y,xs,Paired.mapP r λp q z=>⟨z.1,A _ _ z.2.1,z.2.2⟩,ob,i,j,k _ _ (.inl Z) e,c⟩
 | set S n=>let⟨ob,i,j,t,e,c⟩:=x;exact⟨ob,i,j,t,k _ _ (.inl Z) e,c⟩
 | ins C dx fs=>
  let⟨d,z,D,e,m,⟨l,i,j,B,c⟩,r⟩:=x;exact⟨s _ d,z,D,k _ _ (.inl Z) e,m,⟨l,i,j,k _ _ (.inr d) B,c⟩,r⟩
 | own y=>let⟨ob,e⟩:=x;exact⟨ob,k _ _ (.inl Z) e⟩
 | xd fs=>let⟨m,⟨l,i,j,e,c⟩,r⟩:=x;exact⟨m,⟨l,i,j,k _ _ (.inl Z) e,c⟩,r⟩
 | rng lo hi=>let⟨t,u,v,e⟩:=x;exact⟨t,u,v,k _ _ (.inl Z) e⟩
 | frz ob u ih=>let⟨e,q⟩:=x;exact⟨k _ _ (.inl Z) e,ih q⟩
 | tbl ps=>
  let e:h.get? a=some { cls:=.none,data:=.fields ps }:=x;show h'.get? a=some { cls:=.none,data:=.fields ps };exact k a _ (.inl Z) e
 | met f y=>
  let e:h.get? a=some (W.methodObj (.ref f)<|.ref y):=x;show h'.get? a=some (W.methodObj (.ref f)<|.ref y);exact k a _ (.inl Z) e
 | ext φ=>let⟨p,⟨o,e⟩,st⟩:=x;exact⟨st _ _ p λo q=>k _ _ (.inl Z) q,⟨o,k _ _ (.inl Z) e⟩,st⟩
def fV.lt(x:fV P w H h)(e:H a=some o):a<h.objs.size:=(x a o e).lt
def fV.fresh(x:fV P w H h)(e:h.objs.size<=a):H a=none:=by
 cases q:H a with
 | none=>rfl
 | some u=>exact absurd (Yf (x.lt q) e)<|Nat.lt_irrefl _
def fV.kept(x:fV P w H h)(k:∀b u,h.get? b=some u->h'.get? b=some u):fV P w H h':=λa o e=>
 (x a o e).stay (λb u _ q=>k b u q) (λ_ q=>q) λ_ _ q=>q
def fV.laid(x:fV P w H h)(k:∀b u,h.get? b=some u->h'.get? b=some u)(j:h.objs.size<=a)(d:bN P w (upd H a o) h' a o):fV P w (upd H a o) h':=λb u e=>by
 let i:=x.fresh j;by_cases hb:b=a
 ·subst hb;rw[aW]at e;cases e;exact d
 ·rw[aV hb]at e;exact(x b u e).stay (λc v _ q=>k c v q) (λc q=>by rw[aV<|eE q i];exact q) λc xs q=>by rw[aV<|eE q i];exact q
end
def Rd(H:Hp)(a:Lh)(u:HO):Prop:=H a=some u\/∃o,H a=some (.frz o u)
def Rd.ok(r:Rd H a u)(x:fV P w H h):bN P w H h a u:=by
 rcases r with r | ⟨o,r⟩
 ·exact x a u r
 ·let⟨_,q⟩:=x a _ r;exact q
def AM:Option HO->Prop
 | some (.lst _)=>True
 | some (.dK _)=>True
 | some (.dT _)=>True
 | some (.set _ _)=>True
 | some (.ins _ _ _)=>True
 | some (.ext _)=>True
 | _=>False
section
variable{P:Lm}{w:Ll}{H:Hp}{h h':Lp}{x e:Lh}{o':HO}
def fV.write(ok:fV P w H h)(i:AM (H x))(n:e=x\/H e=some (.own x))(k:∀b u,b≠e->h.get? b=some u->h'.get? b=some u)(l:∃u,h'.get? e=some u)(m:bN P w (upd H x o') h' x o'):fV P w (upd H x o') h':=λb u q=>by
 let a:∀c y,H c=some (.own y)->c≠x:=λc y r z=>by subst z;rw[r]at i;exact i
 let d:∀c xs,H c=some (.tup xs)->c≠x:=λc xs r z=>by subst z;rw[r]at i;exact i
 by_cases hb:b=x
 ·subst hb;rw[aW]at q;cases q;exact m
 ·rw[aV hb]at q;by_cases hbe:b=e
  ·let o:H b=some (.own x):=by
    rcases n with z | z
    ·exact absurd (hbe.trans z) hb
    ·rw[hbe];exact z
   rw[q]at o;cases o;let⟨v,p⟩:=l;exact⟨v,by rw[hbe];exact p⟩
  ·refine(ok b u q).stay (λc v j r=>k c v ?_ r) (λc r=>by rw[aV<|a c b r];exact r) λc xs r=>by rw[aV<|d c xs r];exact r
   rcases j with rfl | j
   ·exact hbe
   ·rintro rfl;rcases n with z | z
    ·exact a c b j z
    ·rw[j]at z;cases z;exact hb rfl
end
structure Un(fs ex:Le)(H H':Hp)(h h':Lp):Prop where
 keep:∀b o,h.get? b=some o->H b=none->b∉fs->b∉ex->h'.get? b=some o
 slot:∀b o,h.get? b=some o->H b=none->b∈fs->b∉ex->∃sl,h'.get? b=some { o with slots:=sl }
 free:∀b o,h.get? b=some o->H b=none->b∉ex->H' b=none
 there:∀b o,h.get? b=some o->b∉ex->∃o',h'.get? b=some o'
 tups:∀b xs,H b=some (.tup xs)->H' b=some (.tup xs)
 frzs:∀b o u,H b=some (.frz o u)->H' b=some (.frz o u)
 tbls:∀b ps,H b=some (.tbl ps)->∃more,H' b=some (.tbl<|ps++more)
section
variable{fs fs' ex ex':Le}{H H1 H2:Hp}{h h1 h2 h':Lp}{a x e:Lh}{o:HO}
def Un.any(u:Un fs ex H H1 h h1){b:Lh}{ob:Obj}(q:h.get? b=some ob)(n:H b=none)(c:b∉ex):∃sl,h1.get? b=some { ob with slots:=sl }:=by
 by_cases hb:b∈fs
 ·exact u.slot b ob q n hb c
 ·exact⟨ob.slots,u.keep b ob q n hb c⟩
def Un.kept(k:∀b u,h.get? b=some u->h'.get? b=some u):Un fs ex H H h h':=
 ⟨λb ob q _ _ _=>k b ob q,λb ob q _ _ _=>⟨ob.slots,k b ob q⟩,λ_ _ _ n _=>n,λb ob q _=>⟨ob,k b ob q⟩,λ_ _ q=>q,λ_ _ _ q=>q,λ_ ps q=>⟨#[],by rw[q];simp⟩⟩
def Un.refl:Un fs ex H H h h:=Un.kept λ_ _ q=>q
def Un.laid(k:∀b u,h.get? b=some u->h'.get? b=some u)(d:h.objs.size<=a)(c:H a=none):Un fs ex H (upd H a o) h h' where
 keep:=λb u q _ _ _=>k b u q
 slot:=λb u q _ _ _=>⟨u.slots,k b u q⟩
 free:=λb u q n _=>by rw[aV<|Y0<|Yf (Yn q) d];exact n
 there:=λb u q _=>⟨u,k b u q⟩
 tups:=λb xs q=>by rw[aV<|eE q c];exact q
 frzs:=λb u xs q=>by rw[aV<|eE q c];exact q
 tbls:=λb ps q=>⟨#[],by rw[aV<|eE q c,q];simp⟩
def Un.write(c:AM (H x))(m:e=x\/H e=some (.own x))(k:∀b u,b≠e->h.get? b=some u->h'.get? b=some u)(i:∃u,h'.get? e=some u):Un fs ex H (upd H x o) h h':=by
 let j:∀b,H b=none->b≠x:=λb n z=>by subst z;rw[n]at c;exact c
 let l:∀b,H b=none->b≠e:=λb n z=>by
  subst z;rcases m with r | r
  ·exact j b n r
  ·rw[n]at r;cases r
 let d:∀b u,H b=some u->¬AM (some u)->b≠x:=λb u q p z=>by subst z;rw[q]at c;exact p c
 refine⟨λb u q n _ _=>k b u (l b n) q,λb u q n _ _=>⟨u.slots,k b u (l b n) q⟩,λb u q n _=>by rw[aV<|j b n];exact n,λb u q _=>?_,
  λb xs q=>by rw[aV<|d b _ q λz=>z];exact q,λb u xs q=>by rw[aV<|d b _ q λz=>z];exact q,λb ps q=>⟨#[],by rw[aV<|d b _ q λz=>z,q];simp⟩⟩
 by_cases hbe:b=e
 ·subst hbe;exact i
 ·exact⟨u,k b u hbe q⟩
end
def CS(h:Lp)(H:Hp):Le:=(List.range h.objs.size).filter λa=>(H a).isSome
def iU(h:Lp)(H:Hp):Lp:=W.hideAll h<|CS h H
def YA(h:Lp)(H:Hp):(iU h H).objs.size=h.objs.size:=W.hideAll_size _ _
def VE(e:h.get? b=some o)(n:H b=none):(iU h H).get? b=some o:=
 W.hideAll_get _ e λa=>by let q:(H b).isSome=true:=(List.mem_filter.mp a).2;rw[n]at q;simp at q
def TF(e:(iU h H).get? b=some o):h.get? b=some o/\H b=none:=by
 let a:h.get? b=some o:=W.of_hideAll (CS h H) e;exists a;cases q:H b with
 | none=>rfl
 | some x=>
  let c:b∈CS h H:=List.mem_filter.mpr ⟨List.mem_range.mpr<|Yn a,by simp[q]⟩;let z:(iU h H).get? b=none:=W.hideAll_none (CS h H) c;rw[z]at e;cases e
structure Mod(K:Lj)(mg:Sa)(base:Lp):Prop where
 kin:K.In base
 glob:base.Ns mainGlobals mg
 blt:∃mb,base.Ns builtinsNs mb/\∀x:Lq,x≠"__name__"->mb x=bootBuiltins x
 nolimit:base.NoLimit
structure Cx where
 prog:Lm
 w:Ll
 K:Lj
 mg:Sa
 base:Lp
 A:Around
 N:Lf
 s₀:Lk
 H₀:Hp
 env:Env
 outer:List Env
 stack:List Env
 ex:Le
 fn:Lq->Bool
 calm:Bool
 pn:La
 xe:Va
def lA(l:List Env):Le:=l.filterMap (·.frame)
abbrev Cx.fs(X:Cx):Le:=lA X.outer
def CZ(sc:Scope)(x:Lq):Prop:=sc.names.lookup x=some .local\/sc.names.lookup x=some .cell\/sc.names.lookup x=some .free
def wD(sc:Scope)(x:Lq):Prop:=sc.names.lookup x=some .local\/sc.names.lookup x=some .cell
def HW(env:Env)(h:Lp)(m:Sa)(x:Lq)(u:Li):Prop:=
 (env.kindOf x=some .local/\m x=some u)\/((env.kindOf x=some .cell\/env.kindOf x=some .free)/\∃c,env.cells.lookup x=some c/\h.IsCell c (some u))
structure Cx.Ok(X:Cx):Prop where
 mod:Mod X.K X.mg X.base
 kind:X.env.scope.kind=.function
 glob:X.env.globals=mainGlobals
 blt:X.env.builtins=builtinsNs
 above:X.s₀.heap.objs.size<=X.env.locals
 inj:∀x y c,X.env.cells.lookup x=some c->X.env.cells.lookup y=some c->x=y
 has:∀x,(X.env.kindOf x=some .cell\/X.env.kindOf x=some .free)->∃c,X.env.cells.lookup x=some c
 cab:∀x c,X.fn x=true->X.env.cells.lookup x=some c->X.s₀.heap.objs.size<=c
 hd:X.calm=true->X.A.handled=none
 frames:X.A.frames=some X.stack
 stk:X.stack=X.outer\/(X.stack=X.env::X.outer/\X.env.frame=some X.env.locals)
 exf:∀b∈X.ex,b≠X.env.locals/\∀x c,X.env.cells.lookup x=some c->c≠b
 bs:∀b o,X.base.get? b=some o->X.s₀.heap.get? b=some o/\X.H₀ b=none
 bsz:X.base.objs.size<=X.s₀.heap.objs.size
 noex:∀b o,X.base.get? b=some o->b∉X.ex
 exfs:∀b∈X.ex,b∉X.fs
 funs:X.s₀.heap.FunFrames X.base X.outer
 frf:∀b∈X.fs,X.H₀ b=none
structure aK(X:Cx)(ak:La)(σ:List (Option V))(H:Hp)(s:Lk):Prop where
 ok:X.Ok
 os:s.os=X.s₀.os
 bare:AllBare s.gens
 base:Un X.fs X.ex X.H₀ H X.s₀.heap s.heap
 loc:∃m,s.heap.Ns X.env.locals m/\∀(i:Nat) (x:Lq) (v:V),X.N[i]?=some x->σ[i]?=some (some v)->CZ X.env.scope x->∃u,aS v u/\HW X.env s.heap m x u
 cell:∀x c,X.env.cells.lookup x=some c->∃v,s.heap.IsCell c v
 free:H X.env.locals=none
 freeC:∀x c,X.env.cells.lookup x=some c->H c=none
 pin:∀p∈X.pn++ak,s.heap.get? p.1=some p.2/\H p.1=none/\p.1≠X.env.locals/\p.1∉X.fs/\∀v,p.2.data≠.cell v
 hok:fV X.prog X.w H s.heap
 len:σ.length=X.N.length
section
variable{X:Cx}{ak:La}{σ:List (Option V)}{H H':Hp}{s:Lk}{h':Lp}
def Cx.Ok.nofr(ok:X.Ok){b:Lh}{o:Obj}(e:X.base.get? b=some o):b∉X.fs:=λa=>by have:=(ok.funs.mem a).1;rw[e]at this;cases this
def aK.bs(I:aK X ak σ H s):∀b o,X.base.get? b=some o->s.heap.get? b=some o/\H b=none:=λb o e=>
 ⟨I.base.keep b o (I.ok.bs b o e).1 (I.ok.bs b o e).2 (I.ok.nofr e) (I.ok.noex b o e),I.base.free b o (I.ok.bs b o e).1 (I.ok.bs b o e).2 (I.ok.noex b o e)⟩
def aK.bk(I:aK X ak σ H s):∀b o,X.base.get? b=some o->s.heap.get? b=some o:=λb o e=>(I.bs b o e).1
def aK.mod(I:aK X ak σ H s):Mod X.K X.mg X.base:=I.ok.mod
def aK.kIn(I:aK X ak σ H s):X.K.In s.heap:=I.ok.mod.kin.keeps I.bk
def aK.nolimit(I:aK X ak σ H s):s.heap.NoLimit:=I.ok.mod.nolimit.keeps I.bk
def aK.lt(I:aK X ak σ H s):X.env.locals<s.heap.objs.size:=let ⟨_,a,_⟩:=I.loc;a.lt
def aK.sz(I:aK X ak σ H s):X.s₀.heap.objs.size<=s.heap.objs.size:=Yr I.ok.above<|Nat.le_of_lt I.lt
def aK.nofs(I:aK X ak σ H s){a:Lh}(h:s.heap.objs.size<=a):a∉X.fs:=λc=>by let⟨_,o,b,_⟩:=I.ok.funs.mem c;exact absurd (Yf (Yn b)<|Yr I.sz h)<|Nat.lt_irrefl _
def aK.cne(I:aK X ak σ H s):∀x c,X.env.cells.lookup x=some c->c≠X.env.locals:=λx c e z=>by let⟨v,o,d,h⟩:=I.cell x c e;let⟨m,⟨o',es,ep,b,a,_⟩,_⟩:=I.loc;rw[z,b]at d;cases d;rw[a]at h;cases h
def aK.funs(I:aK X ak σ H s):s.heap.FunFrames X.base X.outer:=by
 let all:∀(l:List Env),(∀b∈lA l,b∈X.fs)->X.s₀.heap.FunFrames X.base l->s.heap.FunFrames X.base l:=by
  intro l;induction l with
  | nil=>intro _ _;trivial
  | cons env r ih=>
   intro h i;let⟨m,⟨L,o,c,k,j,n⟩,p⟩:=i;let a:L∈X.fs:=h L (by unfold lA;rw[List.filterMap_cons,c];exact List.mem_cons_self);let⟨sl,e⟩:=I.base.slot L o j (I.ok.frf L a) a λz=>I.ok.exfs L z a;exact⟨m,⟨L,_,c,k,e,n⟩,ih (λb d=>h b<|by unfold lA;rw[List.filterMap_cons,c];exact List.mem_cons_of_mem _ d) p⟩
 exact all X.outer (λ_ d=>d) I.ok.funs
def aK.stack(I:aK X ak σ H s):s.heap.FunFrames X.base X.stack:=by
 rcases I.ok.stk with e | ⟨e,a⟩
 ·rw[e];exact I.funs
 ·rw[e];let⟨m,b,_⟩:=I.loc;refine .cons (by rw[I.ok.kind];decide) a b ?_ I.funs;exact Heap.get?_none_of_le<|Yr I.ok.bsz I.ok.above
def aK.stkSub(I:aK X ak σ H s):∀b∈lA X.stack,b∈X.env.locals::X.fs:=λb a=>by
 rcases I.ok.stk with e | ⟨e,c⟩
 ·rw[e]at a;exact List.mem_cons_of_mem _ a
 ·rw[e]at a;unfold lA at a;rw[List.filterMap_cons,c]at a;exact a
def aK.stkFree(I:aK X ak σ H s):∀b∈lA X.stack,H b=none:=λb a=>by
 rcases Yj.mp (I.stkSub b a) with e | a
 ·rw[e];exact I.free
 ·let⟨_,o,c,_⟩:=I.ok.funs.mem a;exact I.base.free b o c (I.ok.frf b a) λz=>I.ok.exfs b z a
def aK.step{ch:Le}(I:aK X ak σ H s)(j:∀b∈ch,(b∈X.ex\/X.s₀.heap.objs.size<=b)/\b≠X.env.locals/\(∀x c,X.env.cells.lookup x=some c->c≠b)/\∀p∈X.pn++ak,p.1≠b)(keep:∀b o,b≠X.env.locals->b∉X.fs->b∉ch->s.heap.get? b=some o->H b=none->h'.get? b=some o)(B:∀b o,b≠X.env.locals->b∈X.fs->b∉ch->s.heap.get? b=some o->H b=none->∃O,h'.get? b=some { o with slots:=O }) (free:∀b o,b∉ch->s.heap.get? b=some o->H b=none->H' b=none)(C:∀b o,b∉ch->s.heap.get? b=some o->∃G,h'.get? b=some G)(K:∀b xs,H b=some (.tup xs)->H' b=some (.tup xs)) (N:∀b o u,H b=some (.frz o u)->H' b=some (.frz o u)) (L:∀b ps,H b=some (.tbl ps)->∃more,H' b=some (.tbl<|ps++more))(ns:∀m,s.heap.Ns X.env.locals m->h'.Ns X.env.locals m) (R:fV X.prog X.w H' h') (hg:AllBare g'):aK X ak σ H' {s with heap:=h',gens:=g',drawn:=d',toks:=t' }:=by
 let M:∀b o,X.s₀.heap.get? b=some o->b≠X.env.locals:=λb o e=>Y0<|Yf (Yn e) I.ok.above;let A:∀b o,X.s₀.heap.get? b=some o->b∉X.ex->b∉ch:=λb o e a D=>by
  rcases(j b D).1 with z | z
  ·exact a z
  ·exact absurd (Yf (Yn e) z)<|Nat.lt_irrefl _
 let y:∀x c,X.env.cells.lookup x=some c->∀v,s.heap.IsCell c v->h'.IsCell c v:=λx c e v ⟨o,E,Q⟩=>by
  let h:c∉ch:=λz=>(j c z).2.2.1 x c e rfl;by_cases hc:c∈X.fs
  ·let⟨O,q⟩:=B c o (I.cne x c e) hc h E<|I.freeC x c e;exact⟨_,q,Q⟩
  ·exact⟨o,keep c o (I.cne x c e) hc h E<|I.freeC x c e,Q⟩
 refine⟨I.ok,I.os,hg,⟨λb o e n D a=>?_,λb o e n D a=>?_,λb o e n a=>?_,λb o e a=>?_,λb xs e=>K b xs<|I.base.tups b xs e,λb o xs e=>N b o xs<|I.base.frzs b o xs e,λb ps e=>?_⟩,?_,λx c e=>?_,?_,λx c e=>?_,λp U=>?_,R,I.len⟩
 ·exact keep b o (M b o e) D (A b o e a) (I.base.keep b o e n D a)<|I.base.free b o e n a
 ·let⟨O,e1⟩:=I.base.slot b o e n D a;let⟨P,J⟩:=B b _ (M b o e) D (A b o e a) e1<|I.base.free b o e n a;exact⟨P,J⟩
 ·let⟨G,e1⟩:=I.base.there b o e a;exact free b G (A b o e a) e1<|I.base.free b o e n a
 ·let⟨G,e1⟩:=I.base.there b o e a;exact C b G (A b o e a) e1
 ·let⟨m1,e1⟩:=I.base.tbls b ps e;let⟨m2,J⟩:=L b _ e1;exact⟨m1++m2,by rw[J,Array.append_assoc]⟩
 ·let⟨m,Y,W⟩:=I.loc;refine⟨m,ns m Y,λi x v e1 J e3=>?_⟩;let⟨u,r,l⟩:=W i x v e1 J e3;exists u,r;rcases l with l | ⟨k,c,e,z⟩
  ·exact .inl l
  ·exact .inr ⟨k,c,e,y x c e _ z⟩
 ·let⟨v,z⟩:=I.cell x c e;exact⟨v,y x c e v z⟩
 ·let⟨m,⟨o,_,_,E,_⟩,_⟩:=I.loc;exact free _ o (λz=>(j _ z).2.1 rfl) E I.free
 ·let⟨v,o,E,Q⟩:=I.cell x c e;exact free c o (λz=>(j c z).2.2.1 x c e rfl) E<|I.freeC x c e
 ·let⟨e,n,T,S,d⟩:=I.pin p U;let h:p.1∉ch:=λz=>(j p.1 z).2.2.2 p U rfl;exact⟨keep p.1 p.2 T S h e n,free p.1 p.2 h e n,T,S,d⟩
def aK.un(I:aK X ak σ H s)(u:Un X.fs [] H H' s.heap h')(d:fV X.prog X.w H' h'):aK X ak σ H' {s with heap:=h',toks:=t' }:=by let⟨m,⟨o,es,ep,j,r⟩,_⟩:=id I.loc;let⟨sl,l⟩:=u.any j I.free (by simp);exact I.step (g':=s.gens) (d':=s.drawn) (ch:=[]) (λ_ z=>nomatch z) (λb o _ i _ e n=>u.keep b o e n i<|by simp) (λb o _ i _ e n=>u.slot b o e n i<|by simp) (λb o _ e n=>u.free b o e n<|by simp) (λb o _ e=>u.there b o e<|by simp) u.tups u.frzs u.tbls (λm' p=>by let⟨o',c,h,a,k⟩:=p;rw[j]at a;cases a;exact⟨_,c,h,l,k⟩) d I.bare
def aK.call(I:aK X ak σ H s)(u:Un (lA X.stack) ch H H' s.heap h')(k:fV X.prog X.w H' h')(B:AllBare g')(d:∀b∈ch,(b∈X.ex\/X.s₀.heap.objs.size<=b)/\b≠X.env.locals/\(∀x c,X.env.cells.lookup x=some c->c≠b)/\∀p∈X.pn++ak,p.1≠b):aK X ak σ H' {s with heap:=h',gens:=g',drawn:=d',toks:=t' }:=by let⟨m,⟨o,es,ep,q,r⟩,_⟩:=id I.loc;let⟨sl,j⟩:=u.any q I.free λz=>(d _ z).2.1 rfl;exact I.step (ch:=ch) d (λb o j y a e n=>u.keep b o e n (λz=>(Yj.mp<|I.stkSub b z).elim j y) a) (λb o _ _ a e n=>u.any e n a) (λb o a e n=>u.free b o e n a) (λb o a e=>u.there b o e a) u.tups u.frzs u.tbls (λm' A=>by let⟨o',i,l,h,v⟩:=A;rw[q]at h;cases h;exact⟨_,i,l,j,v⟩) k B
def aK.turned(I:aK X ak σ H s)(k:∀b o,b≠it->s.heap.get? b=some o->h'.get? b=some o)(A:H it=none)(h:it≠X.env.locals)(w:it∈X.ex\/X.s₀.heap.objs.size<=it) (l:∀x c,X.env.cells.lookup x=some c->c≠it) (i:∀p∈X.pn++ak,p.1≠it):aK X ak σ H {s with heap:=h',toks:=t' }:=by
 let d:∀b u,H b=some u->b≠it:=λb u e z=>by rw[z,A]at e;cases e
 refine I.step (g':=s.gens) (d':=s.drawn) (ch:=[it]) (λb D=>?_) (λb o _ _ a e _=>k b o (λz=>a<|by simp[z]) e) (λb o _ _ a e _=>⟨o.slots,k b o (λz=>a<|by simp[z]) e⟩) (λ_ _ _ _ n=>n)
  (λb o a e=>⟨o,k b o (λz=>a<|by simp[z]) e⟩) (λ_ _ e=>e) (λ_ _ _ e=>e) (λb ps e=>⟨#[],by rw[e];simp⟩) (λm B=>?_) (λb u e=>?_) I.bare
 ·let e:b=it:=by simpa using D
  subst e;exact⟨w,h,l,i⟩
 ·let⟨o,y,C,j,r⟩:=B;exact⟨o,y,C,k _ o (Jc h) j,r⟩
 ·refine(I.hok b u e).stay (λc v a q=>k c v ?_ q) (λ_ q=>q) λ_ _ q=>q;rcases a with z | z
  ·rw[z];exact d b u e
  ·exact d c _ z
def aK.tok(I:aK X ak σ H s)(t:Nat):aK X ak σ H {s with toks:=t }:=I.un (h':=s.heap) (t':=t) Un.refl I.hok
def aK.kept(I:aK X ak σ H s)(k:∀b u,s.heap.get? b=some u->h'.get? b=some u):aK X ak σ H {s with heap:=h',toks:=t' }:=I.un (Un.kept k)<|I.hok.kept k
def aK.laid{a:Lh}(I:aK X ak σ H s)(k:∀b u,s.heap.get? b=some u->h'.get? b=some u)(c:s.heap.objs.size<=a)(d:bN X.prog X.w (upd H a o) h' a o):aK X ak σ (upd H a o) {s with heap:=h',toks:=t' }:=I.un (Un.laid k c<|I.hok.fresh c)<|I.hok.laid k c d
def aK.write(I:aK X ak σ H s)(d:AM (H x))(h:e=x\/H e=some (.own x))(k:∀b u,b≠e->s.heap.get? b=some u->h'.get? b=some u)(a:∃u,h'.get? e=some u)(c:bN X.prog X.w (upd H x o) h' x o):aK X ak σ (upd H x o) {s with heap:=h',toks:=t' }:=I.un (Un.write d h k a)<|I.hok.write d h k a c
def aK.pins_of(I:aK X ak σ H s)(h:∀p∈pins',s.heap.get? p.1=some p.2/\H p.1=none/\p.1≠X.env.locals/\p.1∉X.fs/\∀v,p.2.data≠.cell v):aK X pins' σ H s:=
 ⟨I.ok,I.os,I.bare,I.base,I.loc,I.cell,I.free,I.freeC,λp a=>(Jv.mp a).elim (λz=>I.pin p<|List.mem_append_left _ z) (h p),I.hok,I.len⟩
def MN{N:Lf}(d:N.Nodup){i j:Nat}{x:Lq}(a:N[i]?=some x)(b:N[j]?=some x):i=j:=by let⟨h1,e1⟩:=List.getElem?_eq_some_iff.mp a;let⟨h2,c⟩:=List.getElem?_eq_some_iff.mp b;exact(List.getElem_inj d).mp (e1.trans c.symm)
def XY{M:Model}{A:Around}{E:Va}{i:Nat}{x:Lq}{v:V}{u:Li}{Q:Unit->Lk->Prop}(I:aK X ak σ H s)(hN:X.N.Nodup)(T:X.N[i]?=some x)(D:wD X.env.scope x)(r:aS v u)(h:∀s',aK X ak (σ.set i<|some v) H s'->(∃a,Heap.SameBut a s.heap s'.heap/\(a=X.env.locals\/X.env.cells.lookup x=some a))->Q () s') (hf:X.fn x=true\/X.env.scope.names.lookup x=some .local:=by first | exact .inl rfl | exact .inr rfl | assumption):wpAny M A (storeName X.env x u) Q E s:=by
 let⟨m,hn,hl⟩:=id I.loc;let W:(X.env.scope.kind==.class||(X.env.scope.kind==.module&&X.env.locals != X.env.globals))=false:=by rw[I.ok.kind];rfl
 let L:i < σ.length:=by rw[I.len];exact(List.getElem?_eq_some_iff.mp T).1
 let cne:=I.cne;let B:∀{a:Lh} {h':Lp},(∃o,s.heap.get? a=some o/\H a=none)->Heap.SameBut a s.heap h'->fV X.prog X.w H h':=fun{a h'} ha l b ob e=>by
  let⟨_,_,G⟩:=ha;refine(I.hok b ob e).stay (λc w' C q=>(l.2 c ?_).trans q) (λ_ q=>q) λ_ _ q=>q;rintro rfl;rcases C with rfl | C
  ·rw[G]at e;cases e
  ·rw[G]at C;cases C
 rcases D with K | K
 ·refine wpAny_storeName_local K hn (λh' a0 l=>?_) W;let⟨oL,_,_,a1,_⟩:=id hn;refine h _ ⟨I.ok,I.os,I.bare,⟨λb o e n P D=>?_,λb o e n P D=>?_,I.base.free,λb o e D=>?_,I.base.tups,I.base.frzs,I.base.tbls⟩,⟨_,a0,λj y v' e1 J e3=>?_⟩,λy c e=>?_,I.free,I.freeC,λp hp=>?_,B ⟨oL,a1,I.free⟩ l,‹I.len›⟩ ⟨_,l,.inl Z⟩
  ·exact(l.2 b<|Y0<|Yf (Yn e) I.ok.above).trans (I.base.keep b o e n P D)
  ·let⟨sl,e1⟩:=I.base.slot b o e n P D;exact⟨sl,(l.2 b<|Y0<|Yf (Yn e) I.ok.above).trans e1⟩
  ·let⟨o',e1⟩:=I.base.there b o e D;exact⟨o',(l.2 b<|Y0<|Yf (Yn e) I.ok.above).trans e1⟩
  ·by_cases hj:j=i
   ·subst hj;rw[T]at e1;cases e1;rw[List.getElem?_set_self L]at J;cases J;exact⟨u,r,.inl ⟨K,by simp⟩⟩
   ·rw[List.getElem?_set_ne<|Jc hj]at J;let⟨u',r',q⟩:=hl j y v' e1 J e3;exists u',r';rcases q with⟨k,e⟩ | ⟨k,c,e,z⟩
    ·refine .inl ⟨k,?_⟩;have:y≠x:=λe=>hj<|MN hN e1<|e ▸ T;simp[this,e]
    ·exact .inr ⟨k,c,e,z.sameBut l<|cne y c e⟩
  ·let⟨w',z⟩:=I.cell y c e;exact⟨w',z.sameBut l<|cne y c e⟩
  ·let⟨e,n,ne,nf,d⟩:=I.pin p hp;exact⟨(l.2 p.1 ne).trans e,n,ne,nf,d⟩
 ·let O:X.fn x=true:=by
   rcases hf with z | z
   ·exact z
   ·rw[z]at K;cases K
  let⟨c,C⟩:=I.ok.has x<|.inl K;let⟨w',z⟩:=I.cell x c C;refine wpAny_storeName_cell I.ok.kind K C z<|λh' U l=>?_;let⟨oc,S,R⟩:=id z;refine h {s with heap:=h' } ⟨I.ok,I.os,I.bare,⟨λb o e n P D=>?_,λb o e n P D=>?_,I.base.free,λb o e D=>?_,I.base.tups,I.base.frzs,I.base.tbls⟩,⟨m,hn.sameBut l<|Jc<|cne x c C,λj y v' e1 J e3=>?_⟩,λy Y e=>?_,I.free,I.freeC,λp hp=>?_,B ⟨oc,S,I.freeC x c C⟩ l,‹I.len›⟩ ⟨c,l,.inr C⟩
  ·exact(l.2 b<|Y0<|Yf (Yn e)<|I.ok.cab x c O C).trans (I.base.keep b o e n P D)
  ·let⟨sl,e1⟩:=I.base.slot b o e n P D;exact⟨sl,(l.2 b<|Y0<|Yf (Yn e)<|I.ok.cab x c O C).trans e1⟩
  ·let⟨o',e1⟩:=I.base.there b o e D;exact⟨o',(l.2 b<|Y0<|Yf (Yn e)<|I.ok.cab x c O C).trans e1⟩
  ·by_cases hj:j=i
   ·subst hj;rw[T]at e1;cases e1;rw[List.getElem?_set_self L]at J;cases J;exact⟨u,r,.inr ⟨.inl K,c,C,U⟩⟩
   ·rw[List.getElem?_set_ne<|Jc hj]at J;let⟨u',r',q⟩:=hl j y v' e1 J e3;exists u',r';rcases q with q | ⟨k,Y,e,z'⟩
    ·exact .inl q
    ·refine .inr ⟨k,Y,e,z'.sameBut l ?_⟩;rintro rfl;exact hj<|MN hN e1<|I.ok.inj _ _ _ e C ▸ T
  ·by_cases hcc:Y=c
   ·subst hcc;exact⟨_,U⟩
   ·let⟨w2,z2⟩:=I.cell y Y e;exact⟨w2,z2.sameBut l hcc⟩
  ·let⟨e,n,ne,nf,d⟩:=I.pin p hp;refine⟨(l.2 p.1 ?_).trans e,n,ne,nf,d⟩;intro q;rw[q,S]at e;let q':oc=p.2:=Jg e;exact d w' (by rw[<- q'];exact R)
def FO{M:Model}{A:Around}{E:Va}{i:Nat}{x:Lq}{v:V}{u:Li}{Q:Unit->Lk->Prop}(I:aK X ak σ H s)(e:X.N.Nodup)(a:X.N[i]?=some x)(b:wD X.env.scope x)(r:aS v u)(h:∀s',aK X ak (σ.set i<|some v) H s'->Q () s') (d:X.fn x=true\/X.env.scope.names.lookup x=some .local:=by first | exact .inl rfl | exact .inr rfl | assumption):wpAny M A (storeName X.env x u) Q E s:=
 XY I e a b r (λs' c _=>h s' c) d
def aK.call'(I:aK X ak σ H s)(h:s'.os=s.os)(u:Un (lA X.stack) ch H H' s.heap s'.heap)(a:fV X.prog X.w H' s'.heap)(j:AllBare s'.gens)(d:∀b∈ch,(b∈X.ex\/X.s₀.heap.objs.size<=b)/\b≠X.env.locals/\(∀x c,X.env.cells.lookup x=some c->c≠b)/\∀p∈X.pn++ak,p.1≠b):aK X ak σ H' s':=by let⟨h',g',d',t',i⟩:=s';let e:i=s.os:=h;subst e;exact I.call (g':=g') (t':=t') (d':=d') u a j d
end
abbrev XK:=Li->Option Lh->Hp->Prop
abbrev St:=List<|Option V
abbrev VK:=V->Hp->Prop
abbrev TE:=St->Hp->VK->Prop
abbrev TT:=St->Hp->(Bool->Hp->Prop)->Prop
abbrev TA:=St->Hp->(Lg->Hp->Prop)->Prop
structure hE where
 nx:St->Hp->Prop
 rt:VK
 bk:St->Hp->Prop:=λ_ _=>False
 ct:St->Hp->Prop:=λ_ _=>False
abbrev TS:=hE->St->Hp->Prop
inductive EP(X:Cx)(ak:La)(σ:St)(Q:VK)(u:Li)(s':Lk):Prop
 | mk v H' (_:aK X ak σ H' s') (_:aS v u) (_:Q v H')
inductive TP(X:Cx)(ak:La)(σ:St)(Q:Bool->Hp->Prop)(b:Bool)(s':Lk):Prop
 | mk H' (_:aK X ak σ H' s') (_:Q b H')
inductive AP(X:Cx)(ak:La)(σ:St)(Q:Lg->Hp->Prop)(us:List Li)(s':Lk):Prop
 | mk vs H' (_:aK X ak σ H' s') (_:aN vs us) (_:Q vs H')
inductive NP(X:Cx)(ak:La)(s':Lk)(Q:St->Hp->Prop):Prop
 | mk σ' H' (_:aK X ak σ' H' s') (_:Q σ' H')
inductive RP(X:Cx)(ak:La)(s':Lk)(u:Li)(Q:VK):Prop
 | mk v σ' H' (_:aK X ak σ' H' s') (_:aS v u) (_:Q v H')
def SP(X:Cx)(ak:La)(D:hE)(f:Flow)(s':Lk):Prop:=
 match f with
 | .next=>NP X ak s' D.nx
 | .brk=>NP X ak s' D.bk
 | .cont=>NP X ak s' D.ct
 | .ret u=>RP X ak s' u D.rt
def PE(X:Cx)(e:Lo)(t:TE):Prop:=
 ∀⦃ak:La⦄ (s:Lk) (σ:St) (H:Hp) (Q:VK),aK X ak σ H s->t σ H Q->↥X (eval e X.env) (EP X ak σ Q) X.xe s
def PT(X:Cx)(e:Lo)(t:TT):Prop:=
 ∀⦃ak:La⦄ (s:Lk) (σ:St) (H:Hp) (Q:Bool->Hp->Prop),aK X ak σ H s->t σ H Q->↥X (isTrue e X.env<|eval e X.env) (TP X ak σ Q) X.xe s
def PW(X:Cx)(e:Lo)(t:TT):Prop:=
 ∀⦃whole:Sem Li⦄ (ak:La) (s:Lk) (σ:St) (H:Hp) (Q:Bool->Hp->Prop),aK X ak σ H s->t σ H Q->↥X (isTrue e X.env whole) (TP X ak σ Q) X.xe s
def PW.pt(h:PW X e t):PT X e t:=λ_=>h _
def PA(X:Cx)(es:List Lo)(t:TA):Prop:=
 ∀⦃pos:Pos⦄ (ak:La) (s:Lk) (σ:St) (H:Hp) (Q:Lg->Hp->Prop),aK X ak σ H s->t σ H Q->↥X (spliced<|backTo pos<|starEach es X.env) (AP X ak σ Q) X.xe s
def PS(X:Cx)(st:Ln)(t:TS):Prop:=
 ∀⦃ak:La⦄ (s:Lk) (σ:St) (H:Hp) (D:hE),aK X ak σ H s->t D σ H->↥X (exec st X.env) (SP X ak D) X.xe s
def lE(X:Cx)(st:List Ln)(t:TS):Prop:=
 ∀⦃ak:La⦄ (s:Lk) (σ:St) (H:Hp) (D:hE),aK X ak σ H s->t D σ H->↥X (execs st X.env) (SP X ak D) X.xe s
def bC(h:wpAny M A t Q E s)(b:∀a s,Q a s->Q' a s):wpAny M A t Q' E s:=wpAny_mono h b λ_ _ x=>x
section
variable{X:Cx}
inductive eZ(i:Nat)(σ:St)(H:Hp)(Q:VK):Prop
 | mk v (_:σ[i]?=some (some v)) (_:Q v H)
def tC(v:V):TE:=λ_ H Q=>Q v H
def z17{i:Nat}{x:Lq}{k:Pos}(y:X.N[i]?=some x)(q:CZ X.env.scope x)(d:↑↑((x==("__debug__":Lq))=false))(j:↑↑((x==("__classdict__":Lq))=false)):PE X (.Name x k) (eZ i):=by
 intro ak s σ H Q I h;let⟨v,e,h⟩:=h;let⟨m,p,o⟩:=I.loc;let⟨u,r,l⟩:=o i x v y e q;let fin:EP X ak σ Q u s:=⟨v,H,I,r,h⟩;rcases l with⟨b,w⟩ | ⟨b,c,n,a⟩
 ·exact wpAny_Name (wpAny_loadName_local I.ok.kind b p w fin) d
 ·rcases b with b | b
  ·exact wpAny_Name (wpAny_loadName_cell I.ok.kind b n a fin) d
  ·exact wpAny_Name (wpAny_loadName_free I.ok.kind b n a fin j) d
def aO{i j pos}:PE X (.Constant (.int i) j pos) (tC<|.int i):=λ_ _ _ H _ I h=>wpAny_Constant_int ⟨.int i,H,I.tok _,⟨_,Z⟩,h⟩
def jA{b j pos}:PE X (.Constant (.bool b) j pos) (tC<|.bl b):=λ_ _ _ H _ I h=>Constant_bool ⟨.bl b,H,I,Z,h⟩
def JK{j pos}:PE X (.Constant .none j pos) (tC .non):=λ_ _ _ H _ I h=>Constant_none ⟨.non,H,I,Z,h⟩
def Gl(X:Cx)(x:Lq):Prop:=X.env.kindOf x=some .globalImplicit
def wW{E:Va}{ak:La}{s:Lk}{σ:St}{H:Hp}{x:Lq}{u:Li}{a:Pos}{Q:Va}(I:aK X ak σ H s)(c:Gl X x)(b:X.mg x=some u)(h:Q u s)(d:↑↑((x==("__debug__":Lq))=false)):↥X (eval (.Name x a) X.env) Q E s:=
 Calls.Name_function_global I.ok.kind c (Calls.loadGlobal_global (by rw[I.ok.glob];exact I.mod.glob.keeps I.bk) b h) d
def nZ{E:Va}{ak:La}{s:Lk}{σ:St}{H:Hp}{x:Lq}{u:Li}{a:Pos}{Q:Va}(I:aK X ak σ H s)(k:Gl X x)(j:X.mg x=none)(e:bootBuiltins x=some u)(h:Q u s)(d:↑↑(x≠"__name__")) (i:↑↑((x==("__debug__":Lq))=false)):↥X (eval (.Name x a) X.env) Q E s:=by let⟨mb,c,b⟩:=I.mod.blt;exact Calls.Name_function_global I.ok.kind k (Calls.loadGlobal_builtin (by rw[I.ok.glob];exact I.mod.glob.keeps I.bk) j (by rw[I.ok.blt];exact c.keeps I.bk) ((b x d).trans e) h) i
def J0{x:Lq}{v:V}{u:Li}{a:Pos}(d:Gl X x)(b:X.mg x=some u)(r:aS v u)(c:↑↑((x==("__debug__":Lq))=false)):PE X (.Name x a) (tC v):=
 λ_ _ _ H _ I h=>wW I d b ⟨v,H,I,r,h⟩ c
def yM{x:Lq}{v:V}{u:Li}{a:Pos}(i:Gl X x)(b:X.mg x=none)(c:bootBuiltins x=some u)(r:aS v u)(d:↑↑(x≠"__name__"))(e:↑↑((x==("__debug__":Lq))=false)):PE X (.Name x a) (tC v):=
 λ_ _ _ H _ I h=>nZ I i b c ⟨v,H,I,r,h⟩ d e
variable{a b:Lo}{ta tb:TE}{pos:Pos}
def PC(X:Cx)(op:CmpOp)(a b:Lo)(t:TE):Prop:=
 ∀⦃ak:La⦄ (s:Lk) (σ:St) (H:Hp) (Q:VK),aK X ak σ H s->t σ H Q ->
  ↥X (eval a X.env) (λv s₁=>↥X (eval b X.env) (λu s₂=>↥X (compareOp op v u) (EP X ak σ Q) X.xe s₂) X.xe s₁) X.xe s
inductive rBl(x:V)(H1:Hp)(Q:Bool->Hp->Prop):Prop
 | mk c (_:x=.bl c) (_:Q c H1)
def tB(t:TE):TT:=λσ H Q=>t σ H λx H1=>rBl x H1 Q
def EJ{op:CmpOp}{t:TE}(h:PC X op a b t)(e:behindInMarks op b=false:=by first | exact nobehind _ ∅ ∅ | rfl):PT X (.Compare a [op] [b] pos) (tB t):=by intro ak s σ H Q I hw;refine wpAny_isTrue_Compare1 (bC (h s σ H _ I hw) λv s1 e=>bC e λu s2 l=>bC l λc s3 i=>?_) e;let⟨x,H1,k,m,j⟩:=i;let⟨d,rfl,q⟩:=j;cases m;exact Jq ⟨H1,k,q⟩
def lK{e:Lo}{t:TE}(h:PE X e t)(k:∀whole,isTrue e X.env whole=(do let v <- whole;standAt e.pos;holding [v]<|truthy v):=by intro _;rfl):PT X e (tB t):=by intro ak s σ H Q I hw;refine isTrue_plain (bC (h s σ H _ I hw) λv s1 c=>?_)<|k _;let⟨x,H1,j,l,i⟩:=c;let⟨d,rfl,q⟩:=i;cases l;exact Jq ⟨H1,j,q⟩
variable{tA tB':TT}{rest:List Lo}
def GN(t u:TT):TT:=λσ H Q=>t σ H λc H1=>if c=true then u σ H1 Q else Q false H1
def tOr(t u:TT):TT:=λσ H Q=>t σ H λc H1=>if c=true then Q true H1 else u σ H1 Q
def GG(t:TT):TT:=λσ H Q=>t σ H λc H1=>Q (!c) H1
def BT(d:PT X a tA):PW X (.BoolOp .And [a] pos) tA:=by
 intro wh ak s σ H Q I h;refine isTrue_and<|bC (d s σ H Q I h) λc s1 e=>?_;cases c with
 | true=>exact isTrue_and_nil e
 | false=>exact e
def uW(d:PT X a tA):PW X (.BoolOp .Or [a] pos) tA:=by
 intro wh ak s σ H Q I h;refine isTrue_or<|bC (d s σ H Q I h) λc s1 e=>?_;cases c with
 | false=>exact isTrue_or_nil e
 | true=>exact e
def BA(j:PT X a tA)(l:PW X (.BoolOp .And (b::rest) pos) tB'):PW X (.BoolOp .And (a::b::rest) pos) (GN tA tB'):=by
 intro wh ak s σ H Q I h;refine isTrue_and<|bC (j s σ H _ I h) λc k d=>?_;let⟨H1,i,e⟩:=d;cases c with
 | true=>exact l ak k σ H1 Q i e
 | false=>exact⟨H1,i,e⟩
def sL(j:PT X a tA)(l:PW X (.BoolOp .Or (b::rest) pos) tB'):PW X (.BoolOp .Or (a::b::rest) pos) (tOr tA tB'):=by
 intro wh ak s σ H Q I h;refine isTrue_or<|bC (j s σ H _ I h) λc k d=>?_;let⟨H1,i,e⟩:=d;cases c with
 | true=>exact⟨H1,i,e⟩
 | false=>exact l ak k σ H1 Q i e
def oA(i:PT X a tA):PT X (.UnaryOp .Not a pos) (GG tA):=by intro ak s σ H Q I h;exact isTrue_not (bC (i s σ H (λc H1=>Q (!c) H1) I h) λ_ _ h=>by let⟨H1,e,d⟩:=h;exact⟨H1,e,d⟩)
def z3p(ta tb:TE):TE:=λσ H Q=>ta σ H λx H1=>∃c,x=.bl c/\if c=true then tb σ H1 Q else Q (.bl false) H1
def z3n(ta:TE):TE:=λσ H Q=>ta σ H λx H1=>∃c,x=.bl c/\Q (.bl<|!c) H1
def JX{op}(h:PE X a t):PE X (.BoolOp op [a] pos) t:=λak s σ H Q I hw=>BoolOp_one<|h s σ H Q I hw
def JC(k:PE X a ta)(m:PE X (.BoolOp .And (b::rest) pos) tb):PE X (.BoolOp .And (a::b::rest) pos) (z3p ta tb):=by
 intro ak s σ H Q I h;refine BoolOp_and<|bC (k s σ H _ I h) λv l e=>?_;let⟨x,H1,i,j,d⟩:=e;let⟨c,rfl,d⟩:=d;cases j;refine Jq ?_;cases c with
 | true=>exact m l σ H1 Q i d
 | false=>exact⟨.bl false,H1,i,rfl,d⟩
def IU(k:PE X a ta):PE X (.UnaryOp .Not a pos) (z3n ta):=by intro ak s σ H Q I h;refine UnaryOp_<|bC (k s σ H _ I h) λv s1 e=>?_;let⟨x,H1,i,j,d⟩:=e;let⟨c,rfl,d⟩:=d;cases j;exact not_of<|Jq ⟨.bl<|!c,H1,i,Z,d⟩
def tIf(t:TT)(ta tb:TE):TE:=λσ H Q=>t σ H λc H1=>if c=true then ta σ H1 Q else tb σ H1 Q
def MF(l:PT X c tA)(m:PE X a ta)(n:PE X b tb):PE X (.IfExp c a b pos) (tIf tA ta tb):=by
 intro ak s σ H Q I h;refine wpAny_IfExp<|bC (l s σ H _ I h) λd k e=>?_;let⟨H1,j,i⟩:=e;cases d with
 | true=>exact m k σ H1 Q j i
 | false=>exact n k σ H1 Q j i
end
def aQ(K:Lj)(H:Hp)(a:Lh)(xs:Lg):Prop:=
 Rd H a (.lst xs) \/
  ∃o its n,K.lookup a=some o/\o.cls=.type "list"/\o.dict=none/\o.data=.seq its n/\its.size<=sizeLine/\aN xs its.toList
def aY(K:Lj)(H:Hp)(a:Lh)(xs:Lg):Prop:=
 Rd H a (.tup xs) \/
  ∃o its n,K.lookup a=some o/\o.cls=.type "tuple"/\o.data=.seq its n/\its.size<=sizeLine/\aN xs its.toList
def HQ:Li->Option V
 | .none=>some .non
 | .bool b=>some<|.bl b
 | .int i _=>some<|.int i
 | .str x _=>some<|.str x
 | .bytes b _=>some<|.byt b
 | .float b _=>some<|.flt b
 | .ref a=>some<|.ref a
 | .type n=>some<|.ty n
 | _=>none
def aS.abs(r:aS x u):HQ u=some x:=by
 cases x with
 | non=>cases r;rfl
 | bl _=>cases r;rfl
 | int _=>let⟨t,rfl⟩:=r;rfl
 | str _=>let⟨t,rfl⟩:=r;rfl
 | byt _=>let⟨t,rfl⟩:=r;rfl
 | flt _=>let⟨t,rfl⟩:=r;rfl
 | ref _=>cases r;rfl
 | ty _=>cases r;rfl
def aS.inj(r:aS x u)(q:aS y u):x=y:=Jg<|r.abs.symm.trans q.abs
theorem aN.inj:∀{xs ys} {us},aN xs us->aN ys us->xs=ys
 | _,_,_,.nil,.nil=>rfl
 | _,_,_,.cons r t,.cons r' t'=>by rw[r.inj r',aN.inj t t']
section
variable{X:Cx}{ak:La}{σ:St}{H:Hp}{s:Lk}{a:Lh}{xs ys:Lg}
def aQ.of{K:Lj}(h:H a=some (.lst xs)):aQ K H a xs:=.inl<|.inl h
def aY.of{K:Lj}(h:H a=some (.tup xs)):aY K H a xs:=.inl<|.inl h
def aK.list(I:aK X ak σ H s)(h:aQ X.K H a xs):∃its,aN xs its/\PlainL s.heap a its.toArray/\xs.length<=sizeLine:=by
 rcases h with h | ⟨o,its,n,d,b,i,c,hz,r⟩
 ·let⟨z,its,n,r,e⟩:=h.ok I.hok;exact⟨its,r,⟨_,n,e,Z,Z,Z⟩,z⟩
 ·exists its.toList,r,⟨o,n,I.kIn a o d,b,i,‹c›⟩;let e:=r.length;simp only[Array.length_toList]at e;lia
def aK.tuple(I:aK X ak σ H s)(h:aY X.K H a xs):∃its,aN xs its/\IsTup s.heap a its.toArray/\xs.length<=sizeLine:=by
 rcases h with h | ⟨o,its,n,d,b,c,hz,r⟩
 ·let⟨z,its,r,p⟩:=h.ok I.hok;exact⟨its,r,p,z⟩
 ·exists its.toList,r,⟨o,I.kIn a o d,b,n,‹c›⟩;let e:=r.length;simp only[Array.length_toList]at e;lia
def aK.list_inj(I:aK X ak σ H s)(h:aQ X.K H a xs)(h':aQ X.K H a ys):xs=ys:=by
 let⟨its,r,⟨o,n,e,_,_,d⟩,_⟩:=I.list h;let⟨its',c,⟨o',n',b,_,_,d'⟩,_⟩:=I.list h';rw[e]at b;cases b;rw[d]at d';injection d' with d1 _
 have:its=its':=by simpa using Jx Array.toList d1
 subst this;exact r.inj c
def aK.tuple_inj(I:aK X ak σ H s)(h:aY X.K H a xs)(h':aY X.K H a ys):xs=ys:=by
 let⟨its,r,⟨o,e,_,n,d⟩,_⟩:=I.tuple h;let⟨its',c,⟨o',b,_,n',d'⟩,_⟩:=I.tuple h';rw[e]at b;cases b;rw[d]at d';injection d' with d1 _
 have:its=its':=by simpa using Jx Array.toList d1
 subst this;exact r.inj c
end
abbrev Cx.wish(X:Cx)(E:Va):Cx:={ X with xe:=E }
abbrev Cx.nox(X:Cx):Cx:=X.wish λ_ _=>False
def Cx.Ok.wish{X:Cx}(ok:X.Ok)(E:Va):(X.wish E).Ok:=
 ⟨ok.mod,ok.kind,ok.glob,ok.blt,ok.above,ok.inj,ok.has,ok.cab,ok.hd,ok.frames,ok.stk,ok.exf,ok.bs,ok.bsz,ok.noex,ok.exfs,ok.funs,ok.frf⟩
def Cx.Ok.unwish{X:Cx}(ok:(X.wish E).Ok):X.Ok:=
 ⟨ok.mod,ok.kind,ok.glob,ok.blt,ok.above,ok.inj,ok.has,ok.cab,ok.hd,ok.frames,ok.stk,ok.exf,ok.bs,ok.bsz,ok.noex,ok.exfs,ok.funs,ok.frf⟩
section
variable{X:Cx}{ak:La}{σ:St}{H:Hp}{s:Lk}{E:Va}
def aK.wish(I:aK X ak σ H s)(E:Va):aK (X.wish E) ak σ H s:=⟨I.ok.wish E,I.os,I.bare,I.base,I.loc,I.cell,I.free,I.freeC,I.pin,I.hok,I.len⟩
def aK.unwish(I:aK (X.wish E) ak σ H s):aK X ak σ H s:=⟨I.ok.unwish,I.os,I.bare,I.base,I.loc,I.cell,I.free,I.freeC,I.pin,I.hok,I.len⟩
def SP.unwish(h:SP (X.wish E) ak D f s'):SP X ak D f s':=by
 cases f with
 | next=>let⟨a,H',I,q⟩:=h;exact⟨a,H',I.unwish,q⟩
 | brk=>let⟨a,H',I,q⟩:=h;exact⟨a,H',I.unwish,q⟩
 | cont=>let⟨a,H',I,q⟩:=h;exact⟨a,H',I.unwish,q⟩
 | ret u=>let⟨v,a,H',I,r,q⟩:=h;exact⟨v,a,H',I.unwish,r,q⟩
def lE.nox{st:List Ln}(h:lE X.nox st t):lE X st t:=λak s σ H D I hw=>
 wpAny_mono (h s σ H D (I.wish _) hw) (λ_ _ q=>q.unwish) λ_ _ z=>Jf z
end
section
variable{X:Cx}{st:Ln}{rest:List Ln}{t u:TS}{e:Lo}{te:TE}{pos:Pos}
def z24:TS:=λD σ H=>D.nx σ H
def lR(t u:TS):TS:=λD σ H=>t { D with nx:=u D } σ H
def cZ:lE X [] z24:=λ_ _ σ H _ I h=>wpAny_execs_nil ⟨σ,H,I,h⟩
def aT(c:PS X st t)(b:lE X rest u):lE X (st::rest) (lR t u):=by
 intro ak s σ H D I h;refine wpAny_execs_cons<|bC (c s σ H { D with nx:=u D } I h) λf d q=>?_;cases f with
 | next=>
  let⟨a,H',i,q⟩:=q;exact b d a H' D i q
 | ret v=>exact q
 | brk=>exact q
 | cont=>exact q
def aR(a:PS X st t):lE X [st] t:=by
 intro ak s σ H D I h;refine wpAny_execs_cons<|bC (a s σ H D I h) λf s1 q=>?_;cases f with
 | next=>exact wpAny_execs_nil q
 | ret v=>exact q
 | brk=>exact q
 | cont=>exact q
def aK.quiet{σ:St}(I:aK X ak σ H s):interactive X.env=false:=by simp[interactive,I.ok.kind]
def z3d(te:TE):TS:=λD σ H=>te σ H λ_ H1=>D.nx σ H1
def iR(d:PE X e te)(c:↑(swapsWith e none pos.line X.env=pure false)):PS X (.Expr e pos) (z3d te):=by intro ak s σ H D I h;exact wpAny_Expr_any (bC (d s σ H _ I h) λv s1 ⟨x,H1,b,r1,a⟩=>⟨σ,H1,b,a⟩) I.quiet c
def GF(te:TE):TS:=λD σ H=>te σ H D.rt
def bJ(c:PE X e te):PS X (.Return (some e) pos) (GF te):=by intro ak s σ H D I h;exact wpAny_Return_some<|bC (c s σ H _ I h) λv s1 ⟨x,H1,b,d,a⟩=>⟨x,σ,H1,b,d,a⟩
def GJ(c:TT)(t u:TS):TS:=λD σ H=>c σ H λb H1=>if b=true then t D σ H1 else u D σ H1
def cW(m:PT X c tc)(n:lE X a t)(o:lE X b u):PS X (.If c a b pos) (GJ tc t u):=by
 intro ak s σ H D I h;refine wpAny_If<|bC (m s σ H _ I h) λd l i=>?_;let⟨H1,k,j⟩:=i;cases d with
 | true=>exact n l σ H1 D k j
 | false=>exact o l σ H1 D k j
end
abbrev TG:=V->St->Hp->(St->Hp->Prop)->Prop
abbrev vZ:=Lg->St->Hp->(St->Hp->Prop)->Prop
def PG(X:Cx)(target:Lo)(t:TG):Prop:=
 ∀⦃ak:La⦄ (s:Lk) (σ:St) (H:Hp) (v:V) (u:Li) (Q:St->Hp->Prop),aK X ak σ H s->aS v u->t v σ H Q ->
  ↥X (assign target X.env u) (λ_ s'=>NP X ak s' Q) X.xe s
def C4(X:Cx)(ts:List Lo)(t:vZ):Prop:=
 ∀⦃ak:La⦄ (s:Lk) (σ:St) (H:Hp) (vs:Lg) (us:List Li) (Q:St->Hp->Prop),aK X ak σ H s->aN vs us->t vs σ H Q ->
  ↥X (assignInOrder ((assignEach ts X.env).map (·.2)) us) (λ_ s'=>NP X ak s' Q) X.xe s
abbrev vY:=V->V->V->Hp->(Hp->Prop)->Prop
def AJ(X:Cx)(t:vY):Prop:=
 ∀ak s (σ:St) H o i v ov iv u Q,aK X ak σ H s->aS o ov->aS i iv->aS v u->t o i v H Q ->
  ↥X (setItem ov iv u) (λ_ s'=>∃H',aK X ak σ H' s'/\Q H') X.xe s
abbrev C1:=V->V->Hp->VK->Prop
def RY(X:Cx)(op:Operator)(t:C1):Prop:=
 ∀ak s (σ:St) H x y v u Q,aK X ak σ H s->aS x v->aS y u->t x y H Q ->
  ↥X (inplaceOp op v u) (EP X ak σ Q) X.xe s
section
variable{X:Cx}{pos:Pos}
def bD(i:Nat):TG:=λv σ H Q=>Q (σ.set i<|some v) H
def wV{i:Nat}{x:Lq}(e:X.N.Nodup)(a:X.N[i]?=some x)(b:wD X.env.scope x)(d:X.fn x=true\/X.env.scope.names.lookup x=some .local:=by first | exact .inl rfl | exact .inr rfl | assumption):PG X (.Name x pos) (bD i):=by intro ak s σ H v u Q I r h;exact wpAny_assign_Name<|FO I e a b r (λs' c=>⟨_,H,c,h⟩) d
def rO:vZ:=λvs σ H Q=>vs=[]/\Q σ H
def uT(t:TG)(u:vZ):vZ:=λvs σ H Q=>∃v r,vs=v::r/\t v σ H λσ' H'=>u r σ' H' Q
def vD:C4 X [] rO:=by intro ak s σ H vs us Q I r h;let⟨e,h⟩:=h;subst e;cases r;exact assignInOrder_nil ⟨σ,H,I,h⟩
def mM{e:Lo}{a:List Lo}{t:TG}{u:vZ}(l:PG X e t)(j:C4 X a u)(k:↑((assignEach (e::a) X.env).map (·.2)=assign e X.env::(assignEach a X.env).map (·.2))):C4 X (e::a) (uT t u):=by
 intro ak s σ H vs us Q I r h;let⟨v,vr,e1,h⟩:=h;subst e1;cases r with
 | cons r rr=>
  rw[k];refine assignInOrder_cons<|bC (l s σ H _ _ _ I r h) λ_ m c=>?_;let⟨b,H1,i,d⟩:=c;exact j m b H1 _ _ Q i rr d
inductive rN(K:Lj)(n:Nat)(t:vZ)(v:V)(σ:St)(H:Hp)(Q:St->Hp->Prop):Prop
 | mk (a xs) (_:v=.ref a) (_:aY K H a xs) (_:xs.length=n) (_:t xs σ H Q)
def uZ{c:List Lo}{k:Nat}{t:vZ}{n:Nat}(q:X.calm=true)(h:C4 X c t)(l:↑((assignEach c X.env).length=n)) (d:↑((assignEach c X.env).findIdx? (·.1)=none)):PG X (.Tuple c k pos) (rN X.K n t):=by intro ak s σ H v u Q I r hw;let⟨a,xs,e1,p,j,hw⟩:=hw;subst e1;cases r;let⟨its,i,m,hz⟩:=I.tuple p;refine assign_Tuple_tuple (I.ok.hd q) m (by simp[l,<- j,i.length]) d λh' x=>?_;let w:aK X ak σ H {s with heap:=h' }:=I.kept (t':=s.toks) λb o e=>x b o (Y0<|Yn e) e;exact h _ σ H xs _ Q w ‹i› hw
def G7(to ti:TE)(t:vY):TG:=λv σ H Q=>to σ H λo H1=>ti σ H1 λi H2=>t o i v H2 λH3=>Q σ H3
def z09{o i:Lo}{d e:TE}{t:vY}(j:PE X o d)(C:PE X i e)(m:AJ X t)(J:∀v,assign (.Subscript o i pos) X.env v=(do
   let b <- holding [v] (eval o X.env);let c <- holding [v,b] (eval i X.env)
   standAt pos
   holding [v,b,c] (setItem b c v)
   release [v,b,c] []):=by intro _;rfl):PG X (.Subscript o i pos) (G7 d e t):=by intro ak s σ H v u Q I r h;rw[J];refine Ya<|Jr<|bC (j s σ H _ I h) λb w a=>?_;let⟨x,H1,A,p,z⟩:=a;refine Ya<|Jr<|bC (C w σ H1 _ A z) λc n a=>?_;let⟨y,E,l,q,D⟩:=a;refine Ya<|wpAny_standAt<|Ya<|Jr<|bC (m ak n σ E x y v b c u _ l p q r D) λ_ s3 a=>?_;let⟨k,G,B⟩:=a;exact wpAny_release ⟨σ,k,G,B⟩
def oV(te:TE)(g:TG):TS:=λD σ H=>te σ H λx H1=>g x σ H1 D.nx
def z0v{a e:Lo}{c:TE}{g:TG}(l:PE X e c)(n:PG X a g)(k:↑(swapsWithSole [a] e pos.line X.env=pure false))(hw:↑(swappedStores [a] e X.env=pure none))
  (j:↑((assignEach [a] X.env).map (·.2)=[assign a X.env])):PS X (.Assign [a] e pos) (oV c g):=by intro ak s σ H D I h;refine wpAny_Assign_stores (bC (l s σ H _ I h) λv o b=>?_) k hw;let⟨x,H1,i,m,d⟩:=b;rw[j];exact bC (n o σ H1 x v _ i m d) λ_ s2 q=>q
def z1i{i:Nat}{x:Lq}{e:Lo}{c:TE}{a:Pos}(r:X.N.Nodup)(m:X.N[i]?=some x)(n:wD X.env.scope x)(o:PE X e c)(l:↑(swapsWith e (some<|.Name x a) pos.line X.env=pure false))(q:X.fn x=true\/X.env.scope.names.lookup x=some .local:=by first | exact .inl rfl | exact .inr rfl | assumption):PS X (.Assign [.Name x a] e pos) (oV c<|bD i):=by intro ak s σ H D I h;refine wpAny_Assign_Name (bC (o s σ H _ I h) λv s1 b=>?_) l;let⟨y,H1,j,p,d⟩:=b;exact FO j r m n p (λs2 k=>⟨_,H1,k,d⟩) q
def GM(i:Nat)(te:TE)(ti:C1):TS:=λD σ H=>∃x,σ[i]?=some (some x)/\te σ H λy H1=>ti x y H1 λz H2=>D.nx (σ.set i<|some z) H2
def R4{i:Nat}{x:Lq}{e:Lo}{B:TE}{op:Operator}{E:C1}{o:Pos}(hN:X.N.Nodup)(C:X.N[i]?=some x)(q:wD X.env.scope x)(M:PE X e B)(J:RY X op E)(hf:X.fn x=true\/X.env.scope.names.lookup x=some .local:=by first | exact .inl rfl | exact .inr rfl | assumption):PS X (.AugAssign (.Name x o) op e pos) (GM i B E):=by
 intro ak s σ H D I h;let⟨v,e1,h⟩:=h;let⟨m,L,G⟩:=I.loc;let p:CZ X.env.scope x:=by rcases q with k | k;exact .inl k;exact .inr<|.inl k
 let⟨u,r,l⟩:=G i x v C e1 p;refine wpAny_AugAssign_Name ?_;let go:↥X (eval e X.env) (λw n=>↥X (inplaceOp op u w) (λr j=>↥X (storeName X.env x r) (λ_=>SP X ak D .next) X.xe j) X.xe n) X.xe s:=by refine bC (M s σ H _ I h) λw Q b=>?_;let⟨y,H1,T,O,S⟩:=b;refine bC (J ak Q σ H1 v y u w _ T r O S) λz s2 b=>?_;let⟨zv,Y,K,P,U⟩:=b;exact FO K hN C q P (λs3 I3=>⟨_,Y,I3,U⟩) hf
 rcases l with⟨a,W⟩ | ⟨a,c,R,d⟩
 ·exact wpAny_loadName_local I.ok.kind a L W go
 ·rcases a with a | a
  ·exact wpAny_loadName_cell I.ok.kind a R d go
  ·rcases q with k | k
   ·have:X.env.scope.names.lookup x=some .free:=a;rw[k]at this;cases this
   ·have:X.env.scope.names.lookup x=some .free:=a;rw[k]at this;cases this
def ipI(f:Int->Int->Int):C1:=λx y H Q=>∃i j,x=.int i/\y=.int j/\Q (.int<|f i j) H
def R5:RY X .Add (ipI λi j=>i+j):=by intro ak s σ H x y v u Q I a c h;let⟨i,j,e1,b,q⟩:=h;subst e1;subst b;let⟨t,rfl⟩:=a;let⟨t',rfl⟩:=c;exact iadd_int ⟨.int _,H,I.tok _,⟨_,rfl⟩,q⟩
end
section
variable{X:Cx}{pos:Pos}
def JU(c:TT)(tb:TS):TS:=λD σ H=>∃W:Nat->St->Hp->Prop,(∃m,W m σ H)/\∀m σ H,W m σ H ->
 c σ H λb H1=>if b=true then ∃N,(∀σ' H',N σ' H'->∃m',m'<m/\W m' σ' H')/\tb { D with nx:=N,ct:=N,bk:=D.nx } σ H1 else D.nx σ H1
def qY(u:PassesOwn (model X.prog X.w) X.A X.env X.xe)(J:PT X c tc)(L:lE X body tb):PS X (.While c body [] pos) (JU tc tb):=by
 intro ak s σ H D I h;let⟨W,⟨E,B⟩,turn⟩:=h;refine wpAny_While<|codeAny_whileLoop (λn s'=>NP X ak s'<|W n) ?_ E ⟨σ,H,I,B⟩;rintro n G ⟨d,H1,K,z⟩;refine wpAny_passesOwn u<|bC (J G d H1 _ K<|turn n d H1 z) λb C l=>?_;let⟨x,r,j⟩:=l;cases b with
 | true=>
  let⟨N,y,j⟩:=j;rw[Yl Z];refine wpAny_passesOwn u<|bC (L C d x _ r j) λf s3 i=>?_;cases f with
  | next=>
   let⟨a,e,q,o⟩:=i;let⟨k,p,m⟩:=y a e o;exact⟨k,p,a,e,q,m⟩
  | cont=>
   let⟨a,e,q,o⟩:=i;let⟨k,p,m⟩:=y a e o;exact⟨k,p,a,e,q,m⟩
  | brk=>exact i
  | ret v=>exact i
 | false=>
  rw[Yh Yt];exact wpAny_execs_nil ⟨d,x,r,j⟩
end
structure It where
 go:Nat->Hp->Prop
 yld:Nat->Hp->V->Hp->Prop
 stop:Nat->Hp->Prop
def cH(X:Cx)(ak:La)(H:Hp)(b:Lh):Prop:=
 H b=none/\b≠X.env.locals/\b∉X.fs/\(b∈X.ex\/X.s₀.heap.objs.size<=b)/\(∀x c,X.env.cells.lookup x=some c->c≠b)/\∀p∈X.pn++ak,p.1≠b
def aK.fpOk{σ:St}{b:Lh}(I:aK X ak σ H s)(a:s.heap.objs.size<=b)(h:H' b=none):cH X ak H' b:=by
 refine⟨h,Nat.ne_of_gt<|Yf I.lt a,I.nofs a,.inr<|Yr I.sz a,λx c e z=>?_,λp d z=>?_⟩
 ·let⟨v,q⟩:=I.cell x c e;exact absurd (Yf q.lt<|by rw[z];exact a)<|Nat.lt_irrefl _
 ·exact absurd (Yf (Yn (I.pin p d).1)<|by rw[z];exact a)<|Nat.lt_irrefl _
structure jT(P:Lm)(w:Ll)(K:Lj)(tg:Lo)(J:It)(fp:Le)(it:Lh)(tn:Nat->Lp->Prop):Prop where
 mem:it∈fp
 obj:∀i h,tn i h->∀b∈fp,∃o,h.get? b=some o/\∀v,o.data≠.cell v
 keep:∀i h h',tn i h->(∀b∈fp,∀o,h.get? b=some o->h'.get? b=some o)->tn i h'
 item:∀(X:Cx),X.prog=P->X.w=w->X.K=K->X.calm=true->∀(i:Nat) (ak:La) (s:Lk) (σ:St) (H:Hp) (E:Va),aK X ak σ H s->(∀b∈fp,cH X ak H b)->tn i s.heap->J.go i H ->
  wpAny (model P w) X.A (pyNext<|.ref it) (λr s1=>∃u,r=some u /\
   wpAny (model P w) X.A (letOwnedTupleGo tg (.ref it) u) (λ_ s2=>∃x H',aK X ak σ H' s2/\aS x u/\J.yld i H x H'/\tn (i+1) s2.heap/\∀b∈fp,H' b=none) E s1) E s
 done:∀(X:Cx),X.prog=P->X.w=w->X.K=K->X.calm=true->∀(i:Nat) (ak:La) (s:Lk) (σ:St) (H:Hp) (E:Va),aK X ak σ H s->(∀b∈fp,cH X ak H b)->tn i s.heap->J.stop i H ->
  wpAny (model P w) X.A (pyNext<|.ref it) (λr s1=>r=none/\aK X ak σ H s1) E s
 self:∀(A:Around) (i:Nat) (s:Lk) (Q:Va) (E:Va),tn i s.heap->Q (.ref it) s->wpAny (model P w) A (pyIter<|.ref it) Q E s
abbrev TI:=St->Hp->(It->Hp->Prop)->Prop
inductive RZ(X:Cx)(ak:La)(σ:St)(tg:Lo)(R:It->Hp->Prop)(itv:Li)(s2:Lk):Prop
 | mk (it:Lh) (fp:Le) (tn:Nat->Lp->Prop) (J:It) (H':Hp) (_:itv=.ref it) (_:aK X ak σ H' s2) (_:jT X.prog X.w X.K tg J fp it tn) (_:tn 0 s2.heap) (_:∀b∈fp,cH X ak H' b) (_:R J H')
def PI(X:Cx)(tg iter:Lo)(wi:TI):Prop:=
 ∀⦃ak:La⦄ (s:Lk) (σ:St) (H:Hp) (R:It->Hp->Prop),aK X ak σ H s->wi σ H R ->
  ↥X (eval iter X.env) (λv s1=>↥X (pyIter v) (RZ X ak σ tg R) X.xe s1) X.xe s
def A2(c:s.heap.get? it=some o)(b:o.cls=.type n)(e:o.data=.fields vs)(d:["enumerate","zip","dict_itemiterator","dict_reverseitemiterator","odict_iterator","itertools.zip_longest","itertools.pairwise"].contains n=false) (a:Q () s):wpAny M A (letOwnedTupleGo tg (.ref it) u) Q E s:=by
 unfold letOwnedTupleGo;cases tg <;> first
  | exact Yb a
  | (cases u <;> first
    | exact Yb a
    | (refine Ya<|wpAny_load c ?_
       rw[b,e];show wpAny M A (if (["enumerate","zip","dict_itemiterator","dict_reverseitemiterator","odict_iterator","itertools.zip_longest","itertools.pairwise"].contains n&&vs[0]?==some (rawInt _))=true then _ else _) Q E s;rw[Yh<|by intro h;rw[d,Bool.false_and]at h;cases h];exact Yb a))
def lF(K:Lj)(a:Lh):It:=
 ⟨λi H=>∃xs x,aQ K H a xs/\xs[i]?=some x,λi H x H'=>H'=H/\∀xs,aQ K H a xs->xs[i]?=some x,λi H=>∃xs,aQ K H a xs/\xs.length<=i⟩
def wE(lo:Int)(n:Nat):It:=⟨λi _=>i<n,λi H x H'=>H'=H/\x=.int (lo+i),λi _=>n<=i⟩
def YH{K:Lj}(a it:Lh):jT P w K tg (lF K a) [it] it (λi h=>h.IsListIter it a i) where
 mem:=by simp
 obj:=λi h st b j=>by
  let e:b=it:=by simpa using j
  subst e;let⟨o,e,c,d⟩:=st;exact⟨o,e,λv z=>by rw[d]at z;cases z⟩
 keep:=λi h h' st k=>st.at λo e=>k it (by simp) o e
 item:=by intro X G hw A M i ak s σ H E I n st L;subst G hw A;let⟨xs,x,m,C⟩:=L;let⟨its,J,p,hz⟩:=I.list m;let⟨u,T,S⟩:=J.get C;let⟨q,r,N,D,y,B⟩:=n it (by simp);refine wpAny_pyNext_list_item st p.isList (x:=u) ‹T› λh' l O=>?_;let R:aK X ak σ H {s with heap:=h' }:=I.turned (t':=s.toks) (λb o j e=>(O.2 b j).trans e) q r D y B;let⟨o,e,c,d⟩:=id l;exact⟨u,Z,A2 (s:={s with heap:=h' }) e c d ∅ ⟨x,H,R,S,⟨Z,λys U=>by rw[I.list_inj U m];exact C⟩,l,λb j=>(n b j).1⟩⟩
 done:=by intro X G hw A M i ak s σ H E I n st L;subst G hw A;let⟨xs,m,C⟩:=L;let⟨its,J,p,hz⟩:=I.list m;let⟨q,r,N,D,y,B⟩:=n it (by simp);let hl:=J.length;exact wpAny_pyNext_list_end (I.ok.hd M) st p.isList (by simp;lia) λh' Q=>⟨rfl,I.turned (t':=s.toks) (λb o j e=>Q b o j e) q r D y B⟩
 self:=λ_ _ _ _ _ st h=>wpAny_pyIter_listiter st h
def ZX{K:Lj}(it:Lh)(lo:Int)(n:Nat):jT P w K tg (wE lo n) [it] it (λi h=>IsRangeIter h it (lo+(i:Nat)*1) ((n:Int)-(i:Nat)) 1) where
 mem:=by simp
 obj:=λi h st b a=>by
  let e:b=it:=by simpa using a
  subst e;exact⟨_,st,λv z=>by let J:Data.fields _=Data.cell v:=z;cases J⟩
 keep:=λi h h' st k=>k it (by simp) _ st
 item:=by intro X x hw p r i ak s σ H E I d st y;subst x hw p;let⟨j,l,B,u,m,q⟩:=d it (by simp);let W:=Walks.range (prog:=X.prog) (w:=X.w) (I.ok.hd r) it lo 1 n;refine W.item i s _ _ y st λv h' A G c kk=>?_;let⟨t,rfl⟩:=G;let D:aK X ak σ H {s with heap:=h',toks:=A }:=I.turned (λb o a e=>kk b o ‹a› e) j l u m q;refine⟨_,Z,A2 (s:={s with heap:=h',toks:=A }) (n:="range_iterator") c rfl rfl ∅ ⟨.int<|lo+i,H,D,⟨t,?_⟩,⟨Z,Z⟩,c,λb a=>(d b a).1⟩⟩;rw[Int.mul_one]
 done:=by intro X x hw p r i ak s σ H E I d st y;subst x hw p;let⟨j,l,B,u,m,q⟩:=d it (by simp);exact wpAny_pyNext_range_end (I.ok.hd r) st (by have:n<=i:=y;lia) λh' C=>⟨rfl,I.turned (t':=s.toks) (λb o a e=>C b o a e) j l u m q⟩
 self:=λ_ _ _ _ _ st h=>wpAny_pyIter_rangeiter st h
section
variable{X:Cx}{tg:Lo}
def DS(K:Lj)(tl:TE):TI:=λσ H R=>tl σ H λx H1=>∃a,x=.ref a/\(∃xs,aQ K H1 a xs)/\R (lF K a) H1
def T1(j:PE X l tl):PI X tg l (DS X.K tl):=by
 intro ak s σ H R I h;refine bC (j s σ H _ I h) λv d i=>?_;let⟨x,H1,c,r,k⟩:=i;let⟨a,e,⟨xs,n⟩,q⟩:=k;subst e;cases r;let⟨its,rv,p,hz⟩:=c.list n;refine wpAny_pyIter_list p.isList ?_;refine⟨d.heap.objs.size,[d.heap.objs.size],_,_,H1,Z,c.kept (t':=d.toks) λb o e=>Ye _ e,YH a _,⟨_,Yk _ Z,Z,Z⟩,λb m=>?_,q⟩;let e:b=d.heap.objs.size:=by simpa using m
 subst e;exact c.fpOk (Yi _)<|c.hok.fresh<|Yi _
def V3{σ:St}{lo a:Int}(I:aK X ak σ H s)(i:-(2^62)<=lo)(h:lo<2^62)(d:-(2^62)<=a)(k:a<2^62)(q:R (wE lo (a-lo).toNat) H):↥X (pyIter<|.ref s.heap.objs.size) (RZ X ak σ tg R) E {s with heap:=s.heap.push { cls:=.type "range",data:=.fields #[.int lo t,.int a u,.int 1 v] },toks:=tk }:=by
 refine wpAny_pyIter_range (IsRange.new ..) (small_one i h d k) ?_;let c:aK X ak σ H {s with heap:=s.heap.push { cls:=.type "range",data:=.fields #[.int lo t,.int a u,.int 1 v] },toks:=tk }:=I.kept λb o e=>Ye _ e;refine⟨(s.heap.push { cls:=.type "range",data:=.fields #[.int lo t,.int a u,.int 1 v] }).objs.size,[(s.heap.push { cls:=.type "range",data:=.fields #[.int lo t,.int a u,.int 1 v] }).objs.size],_,_,H,Z,
  c.kept (t':=tk) λb o e=>Ye _ e,ZX _ lo (a-lo).toNat,?_,λb l=>?_,q⟩
 ·let e1:lo+((0:Nat):Int)*1=lo:=by simp
  let j:(((a-lo).toNat:Nat):Int)-((0:Nat):Int)=Builtin.Range.rangeSize lo a 1:=by rw[rangeSize_one];split <;> lia
  show IsRangeIter _ _ (lo+((0:Nat):Int)*1) ((((a-lo).toNat:Nat):Int)-((0:Nat):Int)) 1;rw[e1,j];exact Yk _ rfl
 ·let e:b=(s.heap.push { cls:=.type "range",data:=.fields #[.int lo t,.int a u,.int 1 v] }).objs.size:=by simpa using l
  subst e;exact c.fpOk (Yi _)<|c.hok.fresh<|Yi _
def RE(ta:TA):TI:=λσ H R=>ta σ H λvs H1=>∃j,vs=[.int j]/\-(2^62)<=j/\j<2^62/\R (wE 0 j.toNat) H1
def iI{a:Lo}{i:TA}{p d:Pos}(v:Gl X "range")(n:X.mg "range"=none)(u:PA X [a] i)(l:↑(starEach [a] X.env=[(false,eval a X.env)])):PI X tg (.Call (.Name "range" p) [a] [] d) (RE i):=by
 intro ak s σ H R I h;refine Call_<|nZ I v n boot_range<|PyProof.Rows.callWith_type1 (bC (u ak s σ H _ I h) λus s1 c=>?_) l rfl;let⟨vs,H1,k,o,b⟩:=c;let⟨j,e,b,m,q⟩:=b;subst e;cases o with
 | cons r rr=>
  cases rr;let⟨t,rfl⟩:=r;exact call_range_1<|V3 k ⋯ ⋯ b m ‹q›
def oU(wi:TI)(g:TG)(tb:TS):TS:=λD σ H=>wi σ H λJ H1=>∃W:Nat->Nat->St->Hp->Prop,(∃m,W 0 m σ H1)/\∀i m σ H,W i m σ H ->
 (J.stop i H/\D.nx σ H)\/(J.go i H/\∃N,(∀σ' H',N σ' H'->∃m',m'<m/\W (i+1) m' σ' H')/\∀x H',J.yld i H x H'->g x σ H' λσ2 H2=>tb { D with nx:=N,ct:=N,bk:=D.nx } σ2 H2)
def yA(fp:Le)(h:Lp):La:=fp.filterMap λb=>(h.get? b).map λo=>(b,o)
def zG(a:b∈fp)(e:h.get? b=some o):(b,o)∈yA fp h:=List.mem_filterMap.mpr ⟨b,a,by rw[e];rfl⟩
def ZA(a:p∈yA fp h):p.1∈fp/\h.get? p.1=some p.2:=by
 let⟨b,d,e⟩:=List.mem_filterMap.mp a;cases q:h.get? b with
 | none=>rw[q]at e;cases e
 | some o=>
  rw[q]at e;let c:(b,o)=p:=Jg e;subst c;exact⟨d,q⟩
def aK.pinned{σ:St}(I:aK X ak σ H s)(m:∀b∈fp,cH X ak H b)(k:∀b∈fp,∃o,s.heap.get? b=some o/\∀v,o.data≠.cell v):aK X (ak++yA fp s.heap) σ H s:=
 I.pins_of λp l=>(Jv.mp l).elim (λz=>I.pin p<|Yg _ z) λz=>by let⟨c,e⟩:=ZA z;let⟨i,j,h,_⟩:=m p.1 c;let⟨o,a,d⟩:=k p.1 c;rw[e]at a;cases a;exact⟨e,i,j,h,d⟩
def aK.unpinned{σ:St}(I:aK X (ak++pl) σ H s):aK X ak σ H s:=I.pins_of λp a=>I.pin p<|Yg _<|List.mem_append_left _ a
def z2e{k:Lo}{body:List Ln}{wi:TI}{g:TG}{tb:TS}{a0:Pos}(G:PassesOwn (model X.prog X.w) X.A X.env X.xe)(hc:X.calm=true)(hi:PI X tg k wi)(hg:PG X tg g)(z:lE X body tb)(hs:∀x,foldedSetIterable k X.env x=pure x:=by intro _;rfl):PS X (.For tg k body [] a0) (oU wi g tb):=by
 intro ak s σ H D I h;refine wpAny_For (bC (hi s σ H _ I h) λv s1 h1=>bC h1 λitv s2 h2=>?_) hs;let⟨it,fp,tn,J,H2,e,I2,T,Y,f2,W,⟨m0,w0⟩,turn⟩:=h2;subst e;let y:∀{H':Hp},(∀b∈fp,H' b=none)->∀b∈fp,cH X ak H' b:=λhn b z=>⟨hn b z,(f2 b z).2⟩;refine codeAny_forLoop_any (λn s'=>∃i σ' H',aK X ak σ' H' s'/\tn i s'.heap/\(∀b∈fp,H' b=none)/\W i n σ' H') ?_ m0 ⟨0,σ,H2,I2,Y,λb z=>(f2 b z).1,w0⟩;rintro n s3 ⟨i,p,O,I3,L,E,w3⟩;rcases turn i n p O w3 with⟨M,qn⟩ | ⟨go,N,hN,step⟩
 ·refine wpAny_passesOwn G<|bC (T.done X rfl rfl rfl hc i ak s3 p O X.xe I3 (y E) L M) λr s4 c=>?_;let⟨S,I4⟩:=c;subst S;exact wpAny_execs_nil ⟨p,O,I4,qn⟩
 ·refine wpAny_passesOwn G<|bC (T.item X rfl rfl rfl hc i ak s3 p O X.xe I3 (y E) L go) λr s4 c=>?_;let⟨u,S,h4⟩:=c;subst S;refine wpAny_passesOwn G<|bC h4 λ_ s5 c=>?_;let⟨x,H5,I5,r5,y5,C,Q⟩:=c;let R:=I5.pinned (y Q)<|T.obj _ _ C;refine wpAny_passesOwn G<|bC (hg s5 p H5 x u _ R r5<|step x H5 y5) λ_ s6 c=>?_;let⟨P,H6,I6,q6⟩:=c;refine wpAny_passesOwn G<|bC (z s6 P H6 _ I6 q6) λf U B=>?_;let q:∀{a:St} {j:Hp},aK X (ak++yA fp s5.heap) a j U->N a j->∃m,m<n/\∃i σ' H',aK X ak σ' H' U/\tn i U.heap/\(∀b∈fp,H' b=none)/\W i m σ' H':=fun{a j} l K=>by let⟨m',hm,w7⟩:=hN a j K;refine⟨m',hm,i+1,a,j,l.unpinned,T.keep _ _ _ C λb z o e=>(l.pin (b,o)<|Yg _<|Yg _<|zG z e).1,λb z=>?_,w7⟩;let⟨o,e,d⟩:=T.obj _ _ C b z;exact(l.pin (b,o)<|Yg _<|Yg _<|zG z e).2.1
  cases f with
  | next=>let⟨a,j,l,K⟩:=B;exact q l K
  | cont=>let⟨a,j,l,K⟩:=B;exact q l K
  | brk=>let⟨a,j,l,B⟩:=B;exact⟨a,j,l.unpinned,B⟩
  | ret v=>let⟨x7,a,j,l,r7,B⟩:=B;exact⟨x7,a,j,l.unpinned,r7,B⟩
end
def vF{K:Lj}{g:TG}{tb:TS}{D:hE}(b:Nat->St->Hp->Prop)(h0:b 0 σ H)(j:∀i σ H,i<=xs.length->b i σ H->aQ K H a xs)(k:∀i x σ H,xs[i]?=some x->b i σ H->g x σ H λc h=>tb { D with nx:=b<|i+1,ct:=b<|i+1,bk:=D.nx } c h) (n:∀σ H,b xs.length σ H->D.nx σ H):∃W:Nat->Nat->St->Hp->Prop,(∃m,W 0 m σ H)/\∀i m σ H,W i m σ H ->
   ((lF K a).stop i H/\D.nx σ H)\/((lF K a).go i H/\∃N,(∀d H',N d H'->∃m',m'<m/\W (i+1) m' d H')/\∀x H',(lF K a).yld i H x H'->g x σ H' λc h=>tb { D with nx:=N,ct:=N,bk:=D.nx } c h):=by
 exists λi m σ H=>m=xs.length-i/\i<=xs.length/\b i σ H,⟨xs.length,by simp,Y2 _,h0⟩;rintro i m σ H ⟨rfl,l,p⟩;let q:=j i σ H l p;by_cases hlt:i<xs.length
 ·refine .inr ⟨⟨xs,xs[i],q,by simp[hlt]⟩,b<|i+1,λd H' o=>⟨xs.length-(i+1),⋯,Z,hlt,o⟩,λx H' y=>?_⟩;let⟨e,y⟩:=y;subst e;exact k i x σ _ (y xs q) p
 ·let e:i=xs.length:=by lia
  subst e;exact .inl ⟨⟨xs,q,Yi _⟩,n σ H p⟩
def kY{lo:Int}{g:TG}{tb:TS}{D:hE}(b:Nat->St->Hp->Prop)(h0:b 0 σ H)(h:∀i σ H,i<n->b i σ H->g (.int<|lo+i) σ H λa d=>tb { D with nx:=b<|i+1,ct:=b<|i+1,bk:=D.nx } a d) (j:∀σ H,b n σ H->D.nx σ H):∃W:Nat->Nat->St->Hp->Prop,(∃m,W 0 m σ H)/\∀i m σ H,W i m σ H ->
   ((wE lo n).stop i H/\D.nx σ H)\/((wE lo n).go i H/\∃N,(∀c H',N c H'->∃m',m'<m/\W (i+1) m' c H')/\∀x H',(wE lo n).yld i H x H'->g x σ H' λa d=>tb { D with nx:=N,ct:=N,bk:=D.nx } a d):=by
 exists λi m σ H=>m=n-i/\i<=n/\b i σ H,⟨n,by simp,Y2 _,h0⟩;rintro i m σ H ⟨rfl,hi,p⟩;by_cases hlt:i<n
 ·refine .inr ⟨hlt,b<|i+1,λc H' k=>⟨n-(i+1),⋯,Z,hlt,k⟩,λx H' y=>?_⟩;let⟨e,y⟩:=y;subst e y;exact h i σ _ hlt p
 ·let e:i=n:=by lia
  subst e;exact .inl ⟨Yi _,j σ H p⟩
abbrev R2:=V->V->Hp->VK->Prop
def eS(X:Cx)(f:Li->Li->Sem Li)(r:R2):Prop:=
 ∀ak s (σ:St) H x y v u Q,aK X ak σ H s->aS x v->aS y u->r x y H Q ->
  ↥X (f v u) (EP X ak σ Q) X.xe s
def HR(X:Cx)(f:Li->Sem Li)(r:V->Hp->VK->Prop):Prop:=
 ∀ak s (σ:St) H x v Q,aK X ak σ H s->aS x v->r x H Q ->
  ↥X (f v) (EP X ak σ Q) X.xe s
def bZ(X:Cx)(f:Li)(r:Lg->Hp->VK->Prop):Prop:=
 ∀ak s (σ:St) H xs us Q,aK X ak σ H s->aN xs us->r xs H Q ->
  ↥X (call f us) (EP X ak σ Q) X.xe s
def tD(r:R2)(ta tb:TE):TE:=λσ H Q=>ta σ H λx H1=>tb σ H1 λy H2=>r x y H2 Q
def tUn(r:V->Hp->VK->Prop)(ta:TE):TE:=λσ H Q=>ta σ H λx H1=>r x H1 Q
inductive rI(C:Int->Int->Prop)(g:Int->Int->V)(x y:V)(H:Hp)(Q:VK):Prop
 | mk (i j) (_:x=.int i) (_:y=.int j) (_:C i j) (_:Q (g i j) H)
inductive vM(g:Int->Int->V)(x y:V)(H:Hp)(Q:VK):Prop
 | mk (i j) (_:x=.int i) (_:y=.int j) (_:Q (g i j) H)
inductive rU(g:Int->V)(x:V)(H:Hp)(Q:VK):Prop
 | mk i (_:x=.int i) (_:Q (g i) H)
section
variable{X:Cx}{a b c:Lo}{ta tb tc:TE}{pos:Pos}
def vV(z:PE X a ta)(C:PE X b tb){ak:La}{s:Lk}{σ:St}{H:Hp}{R:V->V->Hp->Prop}(I:aK X ak σ H s)(h:ta σ H λx H1=>tb σ H1 λy e=>R x y e) {Q:Va} {f:Li->Li->Sem Li}(r:∀v u k x y e,aK X ak σ e k->aS x v->aS y u->R x y e->↥X (f v u) Q X.xe k):↥X (eval a X.env) (λv i=>↥X (eval b X.env) (λu j=>↥X (f v u) Q X.xe j) X.xe i) X.xe s:=by refine bC (z s σ H _ I h) λv B d=>?_;let⟨x,H1,m,p,l⟩:=d;refine bC (C B σ H1 _ m l) λu k d=>?_;let⟨y,e,n,q,o⟩:=d;exact r v u k x y e n p q o
def bB(d:eS X (binaryOp op) r)(m:PE X a ta)(n:PE X b tb):PE X (.BinOp a op b pos) (tD r ta tb):=by intro ak s σ H Q I h;exact wpAny_BinOp<|vV m n I h λv u k x y l e j i q=>d ak k σ l x y v u Q e j i q
def sN(i:HR X (unaryOp op) r)(k:PE X a ta):PE X (.UnaryOp op a pos) (tUn r ta):=by intro ak s σ H Q I h;exact UnaryOp_<|bC (k s σ H _ I h) λv l ⟨x,H1,e,j,d⟩=>i ak l σ H1 x v Q e j d
def rM{g:Int->Int->Int}(d:∀i j t u s Q E,C i j->Q (.int (g i j) s.toks) {s with toks:=s.toks+1 }->↥X (f (.int i t)<|.int j u) Q E s):eS X f (rI C λi j=>.int<|g i j):=by intro ak s σ H x y v u Q I l k h;let⟨i,j,rfl,rfl,e,q⟩:=h;let⟨t,rfl⟩:=l;let⟨t',rfl⟩:=k;exact d i j t t' s _ _ e ⟨.int<|g i j,H,I.tok _,⟨_,rfl⟩,q⟩
def AC{g:Int->Int->Int}(d:∀i j t u s Q E,Q (.int (g i j) s.toks) {s with toks:=s.toks+1 }->↥X (f (.int i t)<|.int j u) Q E s):eS X f (vM λi j=>.int<|g i j):=by intro ak s σ H x y v u Q I k e h;let⟨i,j,rfl,rfl,q⟩:=h;let⟨t,rfl⟩:=k;let⟨t',rfl⟩:=e;exact d i j t t' s _ _ ⟨.int<|g i j,H,I.tok _,⟨_,rfl⟩,q⟩
def vP{g:Int->Int->Bool}(d:∀i j t u s Q E,Q (.bool<|g i j) s->↥X (f (.int i t)<|.int j u) Q E s):eS X f (vM λi j=>.bl<|g i j):=by intro ak s σ H x y v u Q I k e h;let⟨i,j,rfl,rfl,q⟩:=h;let⟨t,rfl⟩:=k;let⟨t',rfl⟩:=e;exact d i j t t' s _ _ ⟨.bl<|g i j,H,I,rfl,q⟩
def ID(i j:Int):Prop:=0<j/\j<1073741824
def AW(i j:Int):Prop:=j≠0/\j.natAbs<1073741824
def IC(i j:Int):Prop:=0<=j/\j<=1000000/\i.natAbs<2^64
def wG(i j:Int):Prop:=(-(2^64)<i/\i<2^64)\/(-(2^64)<j/\j<2^64)
def wG.ok(h:wG i j):IntMulOk i j:=by
 rcases h with⟨e,d⟩ | ⟨e,d⟩
 ·exact .of_left<|intBits_le_64 e d
 ·exact .of_right<|intBits_le_64 e d
def jB:eS X (binaryOp .Add) (vM λi j=>.int<|i+j):=AC λ_ _ _ _ _ _ _ q=>add_int q
def yF:eS X (binaryOp .Sub) (vM λi j=>.int<|i-j):=AC λ_ _ _ _ _ _ _ q=>sub_int q
def yI:eS X (binaryOp .Mult) (rI wG λi j=>.int<|i*j):=rM λ_ _ _ _ _ _ _ d q=>mul_int q d.ok
def wU:eS X (binaryOp .FloorDiv) (rI ID λi j=>.int<|i / j):=rM λi j _ _ _ _ _ d q=>by let h1:(0:Int)<j:=d.1;let h2:j<1073741824:=d.2;exact floordiv_int ⋯ (by rw[Int.fdiv_eq_ediv_of_nonneg i ⋯];exact q) (.inl<|PyProof.noPylong_small ⋯)
def XM:eS X (binaryOp .FloorDiv) (rI AW λi j=>.int<|i.fdiv j):=rM λ_ _ _ _ _ _ _ d q=>floordiv_int d.1 q<|.inl<|PyProof.noPylong_small d.2
def gS:eS X (binaryOp .Mod) (rI (λ_ j=>0<j) λi j=>.int<|i%j):=rM λi j _ _ _ _ _ d q=>by let h1:(0:Int)<j:=d;exact mod_int' ⋯ (by rw[Int.fmod_eq_emod_of_nonneg i ⋯];exact q)
def wY:eS X (binaryOp .Mod) (rI (λ_ j=>j≠0) λi j=>.int<|i.fmod j):=rM λ_ _ _ _ _ _ _ d q=>mod_int' d q
def SU:eS X (binaryOp .Pow) (rI IC λi j=>.int<|i^j.toNat):=rM λ_ _ _ _ _ _ _ d q=>pow_int_small d.1 d.2.1 d.2.2 q
def unI{g:Int->Int}(d:∀i t s Q E,Q (.int (g i) s.toks) {s with toks:=s.toks+1 }->↥X (f<|.int i t) Q E s):HR X f (rU λi=>.int<|g i):=by intro ak s σ H x v Q I e h;let⟨i,rfl,q⟩:=h;let⟨t,rfl⟩:=e;exact d i t s _ _ ⟨.int<|g i,H,I.tok _,⟨_,rfl⟩,q⟩
def sP:HR X (unaryOp .USub) (rU λi=>.int<|-i):=unI λ_ _ _ _ _ q=>neg_int q
end
def zQ:V->V->Bool
 | .non,.non=>true | .non,.int _=>true | .int _,.non=>true | .non,.bl _=>true | .bl _,.non=>true | .non,.str _=>true | .str _,.non=>true
 | .int _,.int _=>true | .bl _,.bl _=>true | .str _,.str _=>true | .byt _,.byt _=>true
 | .int _,.str _=>true | .str _,.int _=>true | .bl _,.str _=>true | .str _,.bl _=>true
 | _,_=>false
def rEq:R2:=λx y H Q=>zQ x y=true/\Q (.bl<|decide<|x=y) H
def rNe:R2:=λx y H Q=>zQ x y=true/\Q (.bl<|!decide (x=y)) H
def EQ:decide (V.int i=V.int j)=(i==j):=by rw[Bool.eq_iff_iff];simp
def JE:decide (V.bl i=V.bl j)=(i==j):=by rw[Bool.eq_iff_iff];simp
def LA:decide (V.str i=V.str j)=(i==j):=by rw[Bool.eq_iff_iff];simp
def KP:decide (V.byt i=V.byt j)=(i.toList==j.toList):=by rw[Bool.eq_iff_iff];cases i;cases j;simp
section
variable{X:Cx}{a b c:Lo}{ta tb tc:TE}{pos:Pos}
def fY{σ:St}(I:aK X ak σ H s)(q:Q (.bl k) H)(e:k=k'):EP X ak σ Q (.bool k') s:=by subst e;exact⟨.bl k,H,I,Z,q⟩
def hY:eS X (compareOp .Eq) rEq:=by
 intro ak s σ H x y v u Q I k d h;let⟨e,q⟩:=h;cases x with
 | non=>
  cases k;cases y with
  | non=>cases d;exact PySem.EqNone.eq_none_none<|fY I q (by simp)
  | bl j=>cases d;exact PySem.EqNone.eq_none_bool<|fY I q (by simp)
  | int j=>let⟨t',rfl⟩:=d;exact PySem.EqNone.eq_none_int<|fY I q (by simp)
  | str j=>let⟨t',rfl⟩:=d;exact PySem.EqNone.eq_none_str<|fY I q (by simp)
  | _=>exact absurd (show false=true from e) Yt
 | bl i=>
  cases k;cases y with
  | non=>cases d;exact PySem.EqNone.eq_bool_none<|fY I q (by simp)
  | bl j=>cases d;exact eq_bool<|fY I q JE
  | str j=>let⟨t',rfl⟩:=d;exact PySem.EqMixed.eq_bool_str<|fY I q (by simp)
  | _=>exact absurd (show false=true from e) Yt
 | int i=>
  let⟨t,rfl⟩:=k;cases y with
  | non=>cases d;exact PySem.EqNone.eq_int_none<|fY I q (by simp)
  | int j=>let⟨t',rfl⟩:=d;exact eq_int<|fY I q EQ
  | str j=>let⟨t',rfl⟩:=d;exact PySem.EqMixed.eq_int_str<|fY I q (by simp)
  | _=>exact absurd (show false=true from e) Yt
 | str i=>
  let⟨t,rfl⟩:=k;cases y with
  | non=>cases d;exact PySem.EqNone.eq_str_none<|fY I q (by simp)
  | bl j=>cases d;exact PySem.EqMixed.eq_str_bool<|fY I q (by simp)
  | int j=>let⟨t',rfl⟩:=d;exact PySem.EqMixed.eq_str_int<|fY I q (by simp)
  | str j=>let⟨t',rfl⟩:=d;exact eq_str<|fY I q LA
  | _=>exact absurd (show false=true from e) Yt
 | byt i=>
  let⟨t,rfl⟩:=k;cases y with
  | byt j=>let⟨t',rfl⟩:=d;exact W.eq_bytes<|fY I q KP
  | _=>exact absurd (show false=true from e) Yt
 | _=>cases y <;> exact absurd (show false=true from e) Yt
def wO:eS X (compareOp .NotEq) rNe:=by
 intro ak s σ H x y v u Q I k d h;let⟨e,q⟩:=h;cases x with
 | non=>
  cases k;cases y with
  | non=>cases d;exact PySem.EqNone.ne_none_none<|fY I q (by simp)
  | bl j=>cases d;exact PySem.EqNone.ne_none_bool<|fY I q (by simp)
  | int j=>let⟨t',rfl⟩:=d;exact PySem.EqNone.ne_none_int<|fY I q (by simp)
  | str j=>let⟨t',rfl⟩:=d;exact PySem.EqNone.ne_none_str<|fY I q (by simp)
  | _=>exact absurd (show false=true from e) Yt
 | bl i=>
  cases k;cases y with
  | non=>cases d;exact PySem.EqNone.ne_bool_none<|fY I q (by simp)
  | bl j=>cases d;exact ne_bool<|fY I q<|Jx not JE
  | str j=>let⟨t',rfl⟩:=d;exact PySem.EqMixed.ne_bool_str<|fY I q (by simp)
  | _=>exact absurd (show false=true from e) Yt
 | int i=>
  let⟨t,rfl⟩:=k;cases y with
  | non=>cases d;exact PySem.EqNone.ne_int_none<|fY I q (by simp)
  | int j=>let⟨t',rfl⟩:=d;exact ne_int<|fY I q<|Jx not EQ
  | str j=>let⟨t',rfl⟩:=d;exact PySem.EqMixed.ne_int_str<|fY I q (by simp)
  | _=>exact absurd (show false=true from e) Yt
 | str i=>
  let⟨t,rfl⟩:=k;cases y with
  | non=>cases d;exact PySem.EqNone.ne_str_none<|fY I q (by simp)
  | bl j=>cases d;exact PySem.EqMixed.ne_str_bool<|fY I q (by simp)
  | int j=>let⟨t',rfl⟩:=d;exact PySem.EqMixed.ne_str_int<|fY I q (by simp)
  | str j=>let⟨t',rfl⟩:=d;exact ne_str<|fY I q<|Jx not LA
  | _=>exact absurd (show false=true from e) Yt
 | byt i=>
  let⟨t,rfl⟩:=k;cases y with
  | byt j=>let⟨t',rfl⟩:=d;exact W.ne_bytes<|fY I q<|Jx not KP
  | _=>exact absurd (show false=true from e) Yt
 | _=>cases y <;> exact absurd (show false=true from e) Yt
def wL:eS X (compareOp .Lt) (vM λi j=>.bl<|decide<|i<j):=vP λ_ _ _ _ _ _ _ q=>lt_int q
def DV:eS X (compareOp .LtE) (vM λi j=>.bl<|decide<|i<=j):=vP λ_ _ _ _ _ _ _ q=>le_int q
def oN:eS X (compareOp .Gt) (vM λi j=>.bl<|decide<|j<i):=vP λ_ _ _ _ _ _ _ q=>gt_int q
def z0z:eS X (compareOp .Is) (λx y H Q=>y=.non/\Q (.bl<|decide<|x=.non) H):=by
 intro ak s σ H x y v u Q I d e h;let⟨rfl,q⟩:=h;cases e;refine is_none_gen<|fY I q ?_;cases x <;> first
  | (cases d;rfl)
  | (let⟨t,rfl⟩:=d;rfl)
def pW(b:Lo){op:CmpOp}(h:↑↑(op≠.In))(e:↑↑(op≠.NotIn)):behindInMarks op b=false:=by
 let e1:(op==CmpOp.In)=false:=by cases op <;> first | rfl | exact absurd rfl h
 let d:(op==CmpOp.NotIn)=false:=by cases op <;> first | rfl | exact absurd rfl e
 cases b <;> simp[behindInMarks,e1,d]
def TZ(d:eS X (compareOp op) r)(n:PE X a ta)(o:PE X b tb)(k:behindInMarks op b=false):PE X (.Compare a [op] [b] pos) (tD r ta tb):=by intro ak s σ H Q I h;exact wpAny_Compare1 (vV n o I h λv u l x y m e j i q=>d ak l σ m x y v u Q e j i q) k
inductive rTe(x:V)(H':Hp)(Q:Bool->Hp->Prop):Prop
 | mk k (_:x=.bl k) (_:Q k H')
def IE(t:TE):TT:=λσ H Q=>t σ H λx H'=>rTe x H' Q
def UI(d:eS X (compareOp op) r)(G:PE X a ta)(J:PE X b tb)(C:behindInMarks op b=false):PT X (.Compare a [op] [b] pos) (IE<|tD r ta tb):=by
 intro ak s σ H Q I h;refine wpAny_isTrue_Compare1 (bC (G s σ H _ I h) λv p ⟨x,H1,w,n,q⟩=>bC (J p σ H1 _ w q) λu l ⟨y,D,j,o,B⟩=>
  bC (d ak l σ D x y v u _ j n o B) λc s3 ⟨z,i,E,m,k,e,A⟩=>?_) C
 subst e;cases m;exact Jq ⟨i,E,A⟩
def uY:(sizeLine:Nat)<2^63:=by rw[sizeLine_eq];decide
def qG(r:aN [x] us):∃u,us=[u]/\aS x u:=by
 cases r with
 | cons r1 r2=>cases r2;exact⟨_,rfl,r1⟩
def RM(r:aN [x,y] us):∃u w',us=[u,w']/\aS x u/\aS y w':=by
 cases r with
 | cons r1 r2=>
  cases r2 with
  | cons r3 r4=>cases r4;exact⟨_,_,rfl,r1,r3⟩
def xC:bZ X (.builtin "abs") (λxs H Q=>∃i,xs=[.int i]/\Q (.int<|if i<0 then -i else i) H):=by intro ak s σ H xs us Q I r h;let⟨i,rfl,q⟩:=h;let⟨u,rfl,t,rfl⟩:=qG r;exact call_abs_int λu tk=>⟨.int<|if i<0 then -i else i,H,I.tok _,⟨_,rfl⟩,q⟩
def YM(d:X.calm=true):bZ X (.builtin "max") (λxs H Q=>∃i j,xs=[.int i,.int j]/\Q (.int<|if j > i then j else i) H):=by
 intro ak s σ H xs us Q I r h;let⟨i,j,rfl,q⟩:=h;let⟨u,w',rfl,⟨t,rfl⟩,⟨t',rfl⟩⟩:=RM r;refine max_two_ints (I.ok.hd d) λh' tk k=>⟨_,H,I.kept k,?_,q⟩;by_cases hj:j > i
 ·rw[Yl hj,Yl hj];exact⟨_,Z⟩
 ·rw[Yh hj,Yh hj];exact⟨_,Z⟩
def X9(d:X.calm=true):bZ X (.builtin "min") (λxs H Q=>∃i j,xs=[.int i,.int j]/\Q (.int<|if j<i then j else i) H):=by
 intro ak s σ H xs us Q I r h;let⟨i,j,rfl,q⟩:=h;let⟨u,w',rfl,⟨t,rfl⟩,⟨t',rfl⟩⟩:=RM r;refine min_two_ints (I.ok.hd d) λh' tk k=>⟨_,H,I.kept k,?_,q⟩;by_cases hj:j<i
 ·rw[Yl hj,Yl hj];exact⟨_,Z⟩
 ·rw[Yh hj,Yh hj];exact⟨_,Z⟩
def MV:bZ X (.type "int") (λxs H Q=>(∃i,xs=[.int i]/\Q (.int i) H)\/∃k,xs=[.bl k]/\Q (.int<|if k then 1 else 0) H):=by
 intro ak s σ H xs us Q I r h;rcases h with⟨i,rfl,q⟩ | ⟨k,rfl,q⟩
 ·let⟨u,rfl,t,rfl⟩:=qG r;exact call_int_int ⟨.int i,H,I,⟨_,Z⟩,q⟩
 ·let⟨u,rfl,d⟩:=qG r;cases d;exact call_int_bool ⟨.int<|if k then 1 else 0,H,I.tok _,⟨_,Z⟩,q⟩
end
structure mH(h:Lp)(x dx C:Lh)(mA:Sa):Prop where
 obj:h.get? x=some (W.instObj C dx)
 ns:h.Ns1 dx mA
 ne:dx≠x
def XU{h:Lp}(n:h.Ns1 dx mA):∃od,h.get? dx=some od/\∀name,W.lookIn name od=some (mA name):=by
 let⟨o,c,ep,d,k,j,_,l⟩:=n;refine⟨o,d,λname=>?_⟩;let e:=l name;unfold nsFind findBy at e;rw[<- Array.find?_toList]at e;unfold W.lookIn;rw[k];dsimp only;split
 ·rename_i y q;rw[q]at e;exact Jx some e
 ·rename_i q;rw[q]at e;let a:c.toList.any (·.refKey)=false:=by rw[List.any_eq_false];intro y m;let⟨z,t,b⟩:=j y<|Array.mem_toList_iff.mp m;simp[DictEntry.refKey,b]
  let i:¬c.toList.any (·.refKey)=true:=by rw[a];exact Yt
  rw[Yh i];exact Jx some e
def mH.look(I:mH h x dx C mA):∃a,W.InstAt h x (W.instObj C dx) C (some a)/\∀name,W.lookIn name a=some (mA name):=
 let ⟨a,c,b⟩:=XU I.ns
 ⟨a,⟨I.obj,Z,Z,c⟩,b⟩
section
variable{prog:Lm}{w:Ll}{A:Around}{E:Va}{s:Lk}{K:Lj}{x dx C f:Lh}{mA:Sa}{name:Lq}{v:Li}
def UN(X:K.In s.heap)(I:mH s.heap x dx C mA)(i:W.plainGet K C name=true)(c:W.hasDictIn K C=true)(e:W.findIn K (.ref C) name=some none) (d:mA name=some v) (a:W.handedIn v=true) (h:Q v {s with toks:=s.toks+1 }):⇑A (getAttr (.ref x) name expr) Q E s:=by let⟨od,J,b⟩:=I.look;exact W.get_value X J (W.plainGet_of i).1 (W.findObj_own c e rfl<|by rw[b,d]) a h
def VB(X:K.In s.heap)(I:mH s.heap x dx C mA)(a:W.plainGet K C name=true)(c:W.findIn K (.ref C) name=some (some<|.ref f)) (i:W.isFn K (.ref f)=true) (e:mA name=none) (h:Q (.ref f,[.ref x]) s):⇑A (getMethod (.ref x) name pl) Q E s:=by let⟨d,J,b⟩:=I.look;exact W.method_fn X J (W.plainGet_of a).1 (W.plainGet_of a).2 c (beq_iff_eq.mp i) (by show (W.lookIn name d).map (·.isSome)=some false;rw[b,e];rfl) h
def UW(X:K.In s.heap)(I:mH s.heap x dx C mA)(n:W.findIn K (.ref C) "__setattr__"=some (some<|.builtin "object.__setattr__")) (q:W.plainOver K C=true) (p:W.takerIn K C name=some none) (m:W.hasDictIn K C=true)(hw:PySem.Within mA ns) (hsz:ns.length<=sizeLine)(h:∀h',mH h' x dx C (λy=>if y=name then some v else mA y)->Heap.SameBut dx s.heap h'->Q () {s with heap:=h',toks:=s.toks+2 }):⇑A (setAttr (.ref x) name v) Q E s:=by let⟨od,J,hl⟩:=I.look;refine W.set_plain X J n<|W.osa_open (s:={s with toks:=s.toks+1 }) (r:=none) X J q p λb=>?_;let⟨cd,l,i⟩:=W.any_some m;let o:s.heap.get? x=some ⟨.ref C,some dx,.plain,#[]⟩:=I.obj;refine Ya<|Yb<|Ya<|Ya<|wpAny_loadPart o<|Ya<|W.Looks.here (s:={s with toks:=s.toks+1 }) (W.looks_clsIn X l) ?_;rw[i];refine Yb (a:=some dx)<|Ya<|Yb<|Ya ?_;refine wpAny_nsSet1 (s:={s with toks:=s.toks+1 }) I.ns λh' c d=>?_;let⟨oD,esD,epD,e,k,j⟩:=c.count<|PySem.Within.cons name v hw;refine Ya<|wpAny_lookBehind e (by rw[k];exact pastItsLine_dict<|Yr j<|by rw[Y5];lia) ?_;exact Yb<|h _ ⟨(d.2 _<|Jc I.ne).trans I.obj,c,I.ne⟩ d
def VO(X:K.In s.heap)(a:W.makesIn K C=true)(c:W.findIn K (.ref C) "__init__"=some (some<|.ref f)) (b:W.typeIn K (.ref f)=some (.type "function"))(h:codeAny (model prog w) (A.under<|.builtin "type.__call__" ⟨.ref C::vs,kw⟩) (.call (.ref f) ⟨.ref (s.heap.objs.size+1)::vs,kw⟩) (W.InitBack (s.heap.objs.size+1) R)
   {s with heap:=(s.heap.push W.emptyDict).push (W.instObj C s.heap.objs.size) }):
  codeAny (model prog w) A (.call (.ref C) ⟨vs,kw⟩) R s:=by let⟨hh,g,d,t,os⟩:=s;exact W.make_core (W.makes_of X a) (W.looks_findIn X c) (λself=>W.bind_fn X self b) (.inl Z) h
def YP(X:K.In s.heap)(a:W.makesIn K C=true)(b:W.findIn K (.ref C) "__init__"=some (some<|.builtin "object.__init__"))(c:∀self,W.Looks (model prog w) s.heap (bindSpecial (.builtin "object.__init__") self) (.builtin "object.__init__",[self]))(h:codeAny (model prog w) (A.under<|.builtin "type.__call__" ⟨[.ref C],[]⟩) (.call (.builtin "object.__init__") ⟨[.ref<|s.heap.objs.size+1],[]⟩) (W.InitBack (s.heap.objs.size+1) R)
   {s with heap:=(s.heap.push W.emptyDict).push (W.instObj C s.heap.objs.size) }):
  codeAny (model prog w) A (.call (.ref C) ⟨[],[]⟩) R s:=by let⟨hh,g,d,t,os⟩:=s;exact W.make_core (W.makes_of X a) (W.looks_findIn X b) c (.inr ⟨Z,Z⟩) h
end
def fR(f:Lq)(v:V):List (Lq×V)->List (Lq×V)
 | []=>[(f,v)]
 | (g,x)::r=>if g=f then(g,v)::r else(g,x)::fR f v r
theorem N8(f g:Lq)(v:V):∀fs,(fR f v fs).lookup g=if g=f then some v else fs.lookup g
 | []=>by
  show List.lookup g [(f,v)]=_;by_cases h:g=f
  ·let a:(g==f)=true:=beq_iff_eq.mpr h;simp only[List.lookup,a,if_pos h]
  ·let a:(g==f)=false:=beq_eq_false_iff_ne.mpr h;simp only[List.lookup,a,if_neg h]
 | (k,x)::r=>by
  let b:=N8 f g v r;rw[show fR f v ((k,x)::r)=(if k=f then(k,v)::r else(k,x)::fR f v r) from rfl];by_cases hk:k=f
  ·rw[Yl hk];by_cases h:g=k
   ·let a:(g==k)=true:=beq_iff_eq.mpr h;simp only[List.lookup,a,if_pos<|h.trans hk]
   ·let a:(g==k)=false:=beq_eq_false_iff_ne.mpr h;simp only[List.lookup,a,if_neg (λe:g=f=>h<|e.trans hk.symm)]
  ·rw[Yh hk];by_cases h:g=k
   ·let a:(g==k)=true:=beq_iff_eq.mpr h;simp only[List.lookup,a,if_neg (λe:g=f=>hk<|h.symm.trans e)]
   ·let a:(g==k)=false:=beq_eq_false_iff_ne.mpr h;simp only[List.lookup,a];exact b
theorem F4(f:Lq)(v:V):∀fs,f∈(fR f v fs).map (·.1)/\∀g,g∈fs.map (·.1)->g∈(fR f v fs).map (·.1)
 | []=>⟨by simp[fR],λg h=>by simp at h⟩
 | (k,x)::r=>by
  let⟨a,b⟩:=F4 f v r;rw[show fR f v ((k,x)::r)=(if k=f then(k,v)::r else(k,x)::fR f v r) from rfl];by_cases hk:k=f
  ·rw[Yl hk];subst hk;exact⟨by simp,λg h=>by simpa using h⟩
  ·rw[Yh hk];refine⟨?_,λg h=>?_⟩
   ·rw[Yz];exact List.mem_cons_of_mem _ a
   ·rw[Yz]at h ⊢;rcases Yj.mp h with e | e
    ·exact Yj.mpr<|.inl e
    ·exact List.mem_cons_of_mem _<|b g e
theorem OB(f:Lq)(v:V):∀fs,(fR f v fs).length<=fs.length+1
 | []=>by simp[fR]
 | (k,x)::r=>by
  let ih:=OB f v r;rw[show fR f v ((k,x)::r)=(if k=f then(k,v)::r else(k,x)::fR f v r) from rfl];by_cases hk:k=f
  ·rw[Yl hk,Y5,Y5];lia
  ·rw[Yh hk,Y5,Y5];lia
def eI.some_of(r:eI (some v) o):∃u,o=some u/\aS v u:=by
 cases o with
 | none=>exact(show False from r).elim
 | some u=>exact⟨u,rfl,r⟩
def eI.none_of(r:eI none o):o=none:=by
 cases o with
 | none=>rfl
 | some u=>exact(show False from r).elim
def X5(r:aS v u):W.handedIn u=true:=by
 cases v with
 | non=>cases (show u=Value.none from r);rfl
 | bl b=>cases (show u=Value.bool b from r);rfl
 | int i=>let⟨t,e⟩:=(show ∃t,u=Value.int i t from r);cases e;rfl
 | str x=>let⟨t,e⟩:=(show ∃t,u=Value.str x t from r);cases e;rfl
 | byt b=>let⟨t,e⟩:=(show ∃t,u=Value.bytes b t from r);cases e;rfl
 | flt b=>let⟨t,e⟩:=(show ∃t,u=Value.float b t from r);cases e;rfl
 | ref a=>cases (show u=Value.ref a from r);rfl
 | ty n=>cases (show u=Value.type n from r);rfl
section
variable{P:Lm}{w:Ll}{H H':Hp}{h h':Lp}{a C dx:Lh}{fs fs':List (Lq×V)}
def yQ(c:fV P w H h)(e:H a=some (.ins C dx fs)):∃b,mH h a dx C b/\(∀f,eI (fs.lookup f)<|b f)/\PySem.Within b (fs.map (·.1))/\fs.length<=1000/\H dx=some (.own a):=by let⟨d,z,i,ob,b,n,r,q⟩:=(show bN P w H h a (.ins C dx fs) from c a _ e);exact⟨b,⟨ob,n,i⟩,r,q,z,d⟩
end
structure iG(K:Lj)(C:Lh):Prop where
 pg:W.plainGet K C Str.empty=true
 hd:W.hasDictIn K C=true
 po:W.plainOver K C=true
 sa:W.findIn K (.ref C) "__setattr__"=some (some<|.builtin "object.__setattr__")
def iG.get{K:Lj}(c:iG K C)(f:Lq):W.plainGet K C f=true:=c.pg
def cE(K:Lj)(C:Lh)(f:Lq):Prop:=W.findIn K (.ref C) f=some none
def cE.taker{K:Lj}(n:cE K C f):W.takerIn K C f=some none:=by unfold W.takerIn;rw[show W.findIn K (.ref C) f=some none from n];rfl
structure rV(K:Lj)(C:Lh)(m:Lq)(f:Lh):Prop where
 at_:W.findIn K (.ref C) m=some (some<|.ref f)
 fn:W.isFn K (.ref f)=true
 kp:W.keepIn K (.ref f)=true
section
variable{X:Cx}{ak:La}{σ:St}{H:Hp}{s:Lk}{a C dx:Lh}{fs:List (Lq×V)}{f:Lq}{v:V}{A:Around}{E:Va}
def Z2(I:aK X ak σ H s)(e:H a=some (.ins C dx fs))(c:iG X.K C)(n:cE X.K C f)(l:fs.lookup f=some v)(h:∀u s',aK X ak σ H s'->aS v u->Q u s'):wpAny (model X.prog X.w) A (getAttr (.ref a) f b) Q E s:=by let⟨j,O,r,_,_,_⟩:=yQ I.hok e;let⟨u,i,d⟩:=eI.some_of (v:=v) (o:=j f) (by rw[<- l];exact r f);exact UN I.kIn O (c.get f) c.hd n i (X5 d)<|h u _ (I.tok _) d
def NV(I:aK X ak σ H s)(e:H a=some (.ins C dx fs))(c:iG X.K C)(k:rV X.K C m g)(l:fs.lookup m=none)(h:Q (.ref g,[.ref a]) s):wpAny (model X.prog X.w) A (getMethod (.ref a) m pl) Q E s:=by let⟨b,O,r,_,_,_⟩:=yQ I.hok e;let d:b m=none:=eI.none_of (by rw[<- l];exact r m);exact VB I.kIn O (c.get m) k.at_ k.fn d h
def ZY(I:aK X ak σ H s)(e:H a=some (.ins C dx fs))(c:iG X.K C)(n:cE X.K C f)(hl:fs.length<1000)(m:aS y u)(h:∀s',aK X ak σ (upd H a<|.ins C dx<|fR f y fs) s'->Q () s'):wpAny (model X.prog X.w) A (setAttr (.ref a) f u) Q E s:=by
 let⟨j,O,r,k,_,i⟩:=yQ I.hok e;let hz:(fs.map (·.1)).length<=sizeLine:=by rw[Yd,sizeLine_eq];lia
 refine UW I.kIn O c.sa c.po n.taker c.hd k hz λh' d B=>h _ ?_;let p:∃o,h'.get? dx=some o:=let ⟨o,_,_,D,_⟩:=d.ns;⟨o,D⟩;refine I.write (x:=a) (e:=dx) (by rw[e];exact True.intro) (.inr i) (λb q l z=>(B.2 b l).trans z) p ?_;refine⟨by rw[aV O.ne];exact i,?_,O.ne,d.obj,_,d.ns,λg=>?_,λg G=>?_⟩
 ·have:=OB f y fs;lia
 ·show eI ((fR f y fs).lookup g) (if g=f then some u else j g);rw[N8];by_cases q:g=f
  ·rw[Yl q,Yl q];exact m
  ·rw[Yh q,Yh q];exact r g
 ·by_cases q:g=f
  ·rw[q];exact(F4 f y fs).1
  ·refine(F4 f y fs).2 g (k g λz=>G ?_);show (if g=f then some u else j g)=none;rw[Yh q];exact z
def aK.made(I:aK X ak σ H s):aK X ak σ (upd (upd H s.heap.objs.size<|.own<|s.heap.objs.size+1) (s.heap.objs.size+1)<|.ins C s.heap.objs.size []) {s with heap:=(s.heap.push W.emptyDict).push (W.instObj C s.heap.objs.size) }:=by
 let e1:(s.heap.push W.emptyDict).get? s.heap.objs.size=some W.emptyDict:=Yk s.heap rfl;let i:((s.heap.push W.emptyDict).push (W.instObj C s.heap.objs.size)).get? (s.heap.objs.size+1)=some (W.instObj C s.heap.objs.size):=by have:=Yk (s.heap.push W.emptyDict) (o:=W.instObj C s.heap.objs.size) rfl;rwa [Heap.size_push]at this
 let k:(s.heap.push W.emptyDict).Ns s.heap.objs.size (λ_=>none):=⟨W.emptyDict,#[],_,e1,Z,(λe h=>absurd h<|by simp),λ_=>Z⟩;let d:=I.laid (a:=s.heap.objs.size) (o:=.own<|s.heap.objs.size+1) (h':=s.heap.push W.emptyDict) (t':=s.toks) (λb u q=>Ye _ q) (Yi _) ⟨_,e1⟩;refine d.laid (a:=s.heap.objs.size+1) (o:=.ins C s.heap.objs.size []) (t':=s.toks) (λb u q=>Ye _ q) (Nat.le_of_eq<|Heap.size_push _ _) ?_;let c:s.heap.objs.size≠s.heap.objs.size+1:=Y0<|Nat.lt_succ_self _;refine⟨by rw[aV c,aW],Y2 _,c,i,λ_=>none,(Heap.Ns1.of_empty k).at λo q=>Ye _ q,λ_=>True.intro,λy j=>absurd Z j⟩
def FH(c:attributeBase e f env (eval e env)=eval e env)(h:⇑A (eval e env) (λo b=>⇑A (getAttr o f true) Q E b) E s):⇑A (eval (.Attribute e f pos) env) Q E s:=
 Attribute_any_ h (by rw[arm_eval_Attribute,c])
end
inductive GV(K:Lj)(f:Lq)(x:V)(H1:Hp)(Q:VK):Prop
 | mk (a C dx fs v) (_:x=.ref a) (_:H1 a=some (.ins C dx fs)) (_:iG K C) (_:cE K C f) (_:fs.lookup f=some v) (_:Q v H1)
def zM(K:Lj)(ta:TE)(f:Lq):TE:=λσ H Q=>ta σ H λx H1=>GV K f x H1 Q
def GR(K:Lj)(ta tv:TE)(f:Lq):TS:=λD σ H=>tv σ H λy H1=>ta σ H1 λx H2=>∃a C dx fs,x=.ref a/\H2 a=some (.ins C dx fs)/\iG K C/\cE K C f/\fs.length<1000 /\
 D.nx σ (upd H2 a<|.ins C dx<|fR f y fs)
section
variable{X:Cx}{o e value:Lo}{f:Lq}{pos pos' tpos:Pos}{ta tv:TE}
def z19(m:PE X e ta)(r:attributeBase e f X.env (eval e X.env)=eval e X.env):PE X (.Attribute e f pos) (zM X.K ta f):=by intro ak s σ H Q I h;refine FH r<|bC (m s σ H _ I h) λu s1 b=>?_;let⟨x,H1,d,k,a,C,dx,fs,v,ex,p,c,n,l,q⟩:=b;subst ex;obtain rfl:u=Value.ref a:=k;exact Z2 d p c n l λu' s2 i j=>⟨v,H1,i,j,q⟩
def qW(B:PE X o ta)(v:PE X value tv)(i:swapsWith value (some<|.Attribute o f pos') pos.line X.env=pure false):PS X (.Assign [.Attribute o f pos'] value pos) (GR X.K ta tv f):=by intro ak s σ H D I h;refine plainObj_wpAny_Assign_Attribute (bC (v s σ H _ I h) λu m ⟨y,H1,p,j,q⟩=>bC (B m σ H1 _ p q) λr s2 b=>?_) i;let⟨x,H2,d,z,a,C,dx,fs,ex,k,c,n,l,w⟩:=b;subst ex;obtain rfl:r=Value.ref a:=z;exact ZY d k c n l j λs3 A=>⟨σ,_,A,w⟩
end
section
variable{X:Cx}{ak:La}{σ:St}{H:Hp}{s:Lk}{A:Around}{E:Va}{Q:Va}{c:Li}{b:Bool}
inductive gK(K:Lj)(H:Hp):V->Li->Prop where
 | non:gK K H .non (.type "NoneType")
 | bl (x:Bool):gK K H (.bl x) (.type "bool")
 | int (i:Int):gK K H (.int i) (.type "int")
 | str (x:Lq):gK K H (.str x) (.type "str")
 | flt (x:UInt64):gK K H (.flt x) (.type "float")
 | lst {a:Lh} {xs:Lg} (e:H a=some (.lst xs)):gK K H (.ref a) (.type "list")
 | frz {a:Lh} {o:Obj} {xs:Lg} (e:H a=some (.frz o<|.lst xs)):gK K H (.ref a) (.type "list")
 | tup {a:Lh} {xs:Lg} (e:H a=some (.tup xs)):gK K H (.ref a) (.type "tuple")
 | dK {a:Lh} {ap:List (eT×V)} (e:H a=some (.dK ap)):gK K H (.ref a) (.type "dict")
 | dT {a:Lh} {ap:Ka} (e:H a=some (.dT ap)):gK K H (.ref a) (.type "dict")
 | ins {a C dx:Lh} {fs:List (Lq×V)} (e:H a=some (.ins C dx fs)) (cl:iG K C) (ha:W.findIn K (.ref C) "__class__"=some (some<|.builtin "object.__class__"))
   (hn:W.specialIn K (.builtin "object.__class__") "__get__"=some (some<|.builtin "getset_descriptor.__get__")) (htk:W.takesIn K (.builtin "object.__class__")=some true)
   (hm:W.mroIn K C (.type "object")=some true):gK K H (.ref a) (.ref C)
def YV(I:aK X ak σ H s)(d:aS x u)(ty:gK X.K H x t)(e:W.kitOne X.K t c=some b)(h:∀tk,Q (.bool b) {s with toks:=tk }):wpAny (model X.prog X.w) A (call (.builtin "isinstance") [u,c]) Q E s:=by
 cases ty with
 | non=>cases (show u=Value.none from d);exact W.kia_one W.kitx_none I.kIn True.intro e (λz=>nomatch z) h
 | bl y=>cases (show u=Value.bool y from d);exact W.kia_one W.kitx_bool I.kIn True.intro e (λz=>nomatch z) h
 | int i=>let⟨t,q⟩:=(show ∃t,u=Value.int i t from d);cases q;exact W.kia_one W.kitx_int I.kIn True.intro e (λz=>nomatch z) h
 | str y=>let⟨t,q⟩:=(show ∃t,u=Value.str y t from d);cases q;exact W.kia_one W.kitx_str I.kIn True.intro e (λz=>nomatch z) h
 | flt y=>let⟨t,q⟩:=(show ∃t,u=Value.float y t from d);cases q;exact W.kia_one W.kitx_float I.kIn True.intro e (λz=>nomatch z) h
 | @lst a xs ea=>
  cases (show u=Value.ref a from d);let⟨_,_,n,_,j⟩:=(show bN X.prog X.w H s.heap a (.lst xs) from I.hok a _ ea);exact W.kia_one W.kitx_list I.kIn ⟨_,j,Z⟩ e (λz=>nomatch z) h
 | @frz a ob xs ea=>
  cases (show u=Value.ref a from d);let⟨_,_,_,n,_,j⟩:=(show bN X.prog X.w H s.heap a (.frz ob<|.lst xs) from I.hok a _ ea);exact W.kia_one W.kitx_list I.kIn ⟨_,j,Z⟩ e (λz=>nomatch z) h
 | @tup a xs ea=>
  cases (show u=Value.ref a from d);let⟨_,_,_,p⟩:=(show bN X.prog X.w H s.heap a (.tup xs) from I.hok a _ ea);let⟨o,j,k,_⟩:=p;exact W.kia_one W.kitx_tuple I.kIn ⟨o,j,k⟩ e (λz=>nomatch z) h
 | @dK a ap ea=>
  cases (show u=Value.ref a from d);let⟨_,_,vs,_,p⟩:=(show bN X.prog X.w H s.heap a (.dK ap) from I.hok a _ ea);let⟨o,l,m,j,k,_⟩:=p;exact W.kia_one W.kitx_dict I.kIn ⟨o,j,k.1⟩ e (λz=>nomatch z) h
 | @dT a ap ea=>
  cases (show u=Value.ref a from d);let⟨_,_,xs,_,o,l,m,j,k,_⟩:=(show bN X.prog X.w H s.heap a (.dT ap) from I.hok a _ ea);exact W.kia_one W.kitx_dict I.kIn ⟨o,j,k.1⟩ e (λz=>nomatch z) h
 | @ins a C dx fs ea cl ha hn htk hm=>
  cases (show u=Value.ref a from d);let⟨mA,O,_⟩:=yQ I.hok ea;let⟨od,J,_⟩:=O.look;exact W.kia_one (W.kitx_own (cl.get _) cl.hd ha hn htk hm) I.kIn J e (λz=>nomatch z) h
end
structure bM(k:Nat)(A:Around):Prop where
 hd:A.handled=none
 dp:A.depth+3*k+5<recursionLimit
 un:A.units+16*k+200<cLine
def bM.mono(r:bM k A)(h:j<=k):bM j A:=⟨r.hd,by have:=r.dp;lia,by have:=r.un;lia⟩
def bM.deeper(r:bM (k+1) A)(a:Env):bM k (A.deeper a):=
 ⟨r.hd,by have:=r.dp;show A.depth+1+3*k+5<_;lia,by have:=r.un;show A.units+3+16*k+200<_;lia⟩
def bM.in1(r:bM (k+1) A):bM k A.in1:=
 ⟨r.hd,by have:=r.dp;show A.depth+3*k+5<_;lia,by have:=r.un;show A.units+1+16*k+200<_;lia⟩
def ZS{A:Around}:(A.under<|.builtin "type.__call__" ⟨.ref C::us,kw⟩).depth=A.depth+1:=by first | rfl | simp[Around.under,Code.weight,Code.isCreation,Code.isGuard,Code.isCaller,Code.frames,Code.isFrame,guardIds]
def ZO{A:Around}:(A.under<|.builtin "type.__call__" ⟨.ref C::us,kw⟩).units=A.units+1:=by first | rfl | simp[Around.under,Code.cUnits,Code.frames,Code.isFrame]
def bM.make(r:bM (k+1) A)(C:Lh)(us:List Li)(a:List (Lq×Li)):bM k (A.under<|.builtin "type.__call__" ⟨.ref C::us,a⟩):=
 ⟨r.hd,by have:=r.dp;rw[ZS];lia,by have:=r.un;rw[ZO];lia⟩
def bM.depth(r:bM k A):A.depth<recursionLimit:=by have:=r.dp;lia
def bM.units(r:bM k A):A.units+64<cLine:=by have:=r.un;lia
def bM.units0(r:bM k A):A.units<cLine:=by have:=r.un;lia
def hC:TA:=λ_ H Q=>Q [] H
def lJ(ta:TE)(tr:TA):TA:=λσ H Q=>ta σ H λx H1=>tr σ H1 λxs H2=>Q (x::xs) H2
section
variable{X:Cx}{e:Lo}{es:List Lo}{te:TE}{t:TA}{pos:Pos}
def aU:PA X [] hC:=λ_ _ _ _ H Q I h=>Calls.spliced_nil ⟨[],H,I,.nil,h⟩
def aL(n:PE X e te)(o:PA X es t)(i:↑(starEach (e::es) X.env=(false,eval e X.env)::starEach es X.env)):PA X (e::es) (lJ te t):=by intro pos ak s σ H Q I h;rw[i];show wpAny _ _ (spliced ((false,eval e X.env)::backTo pos (starEach es X.env))) _ _ s;refine Calls.spliced_cons<|bC (n s σ H _ I h) λu p a=>?_;let⟨x,H1,c,l,b⟩:=a;exact bC (o ak p σ H1 _ c b) λus s2 ⟨xs,k,d,m,j⟩=>⟨x::xs,k,d,.cons l m,j⟩
def GE(t:TA):TE:=λσ H Q=>t σ H λxs H1=>xs.length<=sizeLine/\∀p,H1 p=none->Q (.ref p) (upd H1 p<|.tup xs)
def GI(t:TA):TE:=λσ H Q=>t σ H λxs H1=>xs.length<=sizeLine/\∀p,H1 p=none->Q (.ref p) (upd H1 p<|.lst xs)
def gO{x1}(h:PA X es t):PE X (.Tuple es x1 pos) (GE t):=by intro ak s σ H Q I d;refine wpAny_Tuple_spliced<|bC (h ak s σ H _ I d) λus a ⟨xs,H1,c,r,z,q⟩=>⟨by rw[<- r.length];exact z,?_⟩;let i:H1 a.heap.objs.size=none:=c.hok.fresh<|Yi _;refine⟨.ref a.heap.objs.size,upd H1 a.heap.objs.size<|.tup xs,c.laid (t':=a.toks) (λb u e=>Ye _ e) (Yi _) ?_,rfl,q _ i⟩;exact⟨z,us,r,⟨_,Yk _ Z,rfl,_,rfl⟩⟩
def iH(h:PA X es t):PE X (.List es pos) (GI t):=by intro ak s σ H Q I d;refine wpAny_List_spliced<|bC (h ak s σ H _ I d) λus a ⟨xs,H1,c,r,z,q⟩=>⟨by rw[<- r.length];exact z,?_⟩;let i:H1 a.heap.objs.size=none:=c.hok.fresh<|Yi _;refine⟨.ref a.heap.objs.size,upd H1 a.heap.objs.size<|.lst xs,c.laid (t':=a.toks) (λb u e=>Ye _ e) (Yi _) ?_,rfl,q _ i⟩;exact⟨z,us,0,r,Yk _ Z⟩
end
abbrev Sp:=Lg->Hp->VK->XK->Prop
abbrev kF:=List Env->Hp->Lk->XK->Va
structure iY(P:Lm)(w:Ll)(K:Lj)(mg:Sa)(base:Lp)(A:Around)(outer:List Env)(s:Lk)(H:Hp):Prop where
 frames:A.frames=some outer
 mod:Mod K mg base
 bs:∀b o,base.get? b=some o->s.heap.get? b=some o/\H b=none
 bsz:base.objs.size<=s.heap.objs.size
 funs:s.heap.FunFrames base outer
 frf:∀b∈lA outer,H b=none
 hok:fV P w H s.heap
 bare:AllBare s.gens
def CE(outer:List Env)(P:Lm)(w:Ll)(H:Hp)(s:Lk)(Q:VK)(u:Li)(s':Lk):Prop:=
 ∃v H',s'.os=s.os/\AllBare s'.gens/\Un (lA outer) [] H H' s.heap s'.heap/\fV P w H' s'.heap/\aS v u/\Q v H'
def CR(CX:kF)(outer:List Env)(P:Lm)(w:Ll)(H:Hp)(s:Lk)(Q:VK)(E:XK)(r:Result)(s':Lk):Prop:=
 match r with
 | .ok (.ret u)=>CE outer P w H s Q u s'
 | .ok _=>False
 | .error e=>CX outer H s E e s'
structure cJ(P:Lm)(w:Ll)(K:Lj)(mg:Sa)(base:Lp)(CX:kF)(k:Nat)(f:Lh)(fd:FuncData)(ps:Lf)(sp:Sp):Prop where
 len:∀vs H Q E,sp vs H Q E->vs.length=ps.length
 run:∀(A:Around) (outer:List Env) (s:Lk) (H:Hp) (args:Args) (us:List Li) (vs:Lg) (Q:VK) (E:XK),bM k A->iY P w K mg base A outer s H->BindsTo s fd args (ps.zip us)->aN vs us->sp vs H Q E ->
  codeAny (model P w) A (.call (.ref f) args) (CR CX outer P w H s Q E) s
def cJ.mono{K:Lj}(F:cJ P w K mg base CX j f fd ps sp)(h:j<=k):cJ P w K mg base CX k f fd ps sp:=⟨F.len,λA a s H b us vs Q E c=>F.run A a s H b us vs Q E<|c.mono h⟩
def cJ.imp{K:Lj}(F:cJ P w K mg base CX k f fd ps sp)(h:∀vs H Q E,sp' vs H Q E->sp vs H Q E):cJ P w K mg base CX k f fd ps sp':=
 ⟨λvs H Q E q=>F.len vs H Q E<|h _ _ _ _ q,λA a s H b us vs Q E e i j d c=>F.run A a s H b us vs Q E e i j d<|h _ _ _ _ c⟩
def iY.make{K:Lj}(e:iY P w K mg base A outer s H)(C:Lh)(us:List Li)(a:List (Lq×Li)):iY P w K mg base (A.under<|.builtin "type.__call__" ⟨.ref C::us,a⟩) outer s H:=⟨by first | exact e.frames | (simpa[Around.under,Code.envs,Code.isFrame,pushEnvs]using e.frames),e.mod,e.bs,e.bsz,e.funs,e.frf,e.hok,e.bare⟩
def iY.in1{K:Lj}(e:iY P w K mg base A outer s H):iY P w K mg base A.in1 outer s H:=⟨e.frames,e.mod,e.bs,e.bsz,e.funs,e.frf,e.hok,e.bare⟩
section
variable{X:Cx}{ak:La}{σ:St}{H:Hp}{s s':Lk}
def aK.env0(I:aK X ak σ H s):iY X.prog X.w X.K X.mg X.base X.A X.stack s H:=
 ⟨I.ok.frames,I.ok.mod,I.bs,Yr I.ok.bsz I.sz,I.stack,I.stkFree,I.hok,I.bare⟩
def aK.after(I:aK X ak σ H s)(h:CE X.stack X.prog X.w H s Q u s'):EP X ak σ Q u s':=by let⟨v,H',j,a,un,e,r,q⟩:=h;let⟨i,g,d,t,c⟩:=s';obtain rfl:c=s.os:=j;exact⟨v,H',I.call (h':=i) (g':=g) (d':=d) (t':=t) (ch:=[]) un e a<|λb z=>absurd z<|by simp,r,q⟩
end
inductive rMe(C:Lh)(m:Lq)(x:V)(H1:Hp)(R:Prop):Prop
 | mk (a dx:Lh) (fs:List (Lq×V)) (_:x=.ref a) (_:H1 a=some (.ins C dx fs)) (_:fs.lookup m=none) (_:R)
def cY(K:Lj)(fd:FuncData)(ps:Lf)(ds:List Li):Prop:=
 ∀s us,K.In s.heap->(us++ds).length=ps.length->BindsTo s fd ⟨us,[]⟩ (ps.zip<|us++ds)
def cY.all{K:Lj}(h:∀us,us.length=ps.length->bindArgs fd ⟨us,[]⟩=pure (ps.zip us)):cY K fd ps []:=λs us _ a=>by rw[List.append_nil]at a ⊢;exact .of_eq<|h us a
section
variable{X:Cx}{CX:kF}{k:Nat}{f C:Lh}{fd:FuncData}{ps:Lf}{sp:Sp}{dvs:Lg}{ds:List Li}{E:XK}{x m:Lq}{p pos apos:Pos}{e o:Lo}{es:List Lo}{ta:TE}{t:TA}
structure Mk(K:Lj)(C f:Lh):Prop where
 makes:W.makesIn K C=true
 init:W.findIn K (.ref C) "__init__"=some (some<|.ref f)
 fn:W.isFn K (.ref f)=true
 kp:W.keepIn K (.ref C)=true
end
structure eO(N P:Lf)(sc:Scope):Prop where
 kind:sc.kind=.function
 co:sc.isCoroutine=false
 gen:sc.isGenerator=false
 nd:N.Nodup
 pre:N.take P.length=P
 par:∀x∈P,sc.names.lookup x=some .local\/sc.names.lookup x=some .cell
 nofree:∀y∈sc.names,y.2≠.free
theorem MX{a:Lq->Option NameKind}:∀{binds} {m},(∀v,(x,v)∉binds)->bindL a binds m x=m x
 | [],_,_=>rfl
 | (n,v)::r,m,h=>by
  unfold bindL;rw[MX λw hw=>h w<|List.mem_cons_of_mem _ hw];split
  ·have:x≠n:=by rintro rfl;exact h v List.mem_cons_self
   simp[this]
  ·rfl
theorem M9{a:Lq->Option NameKind}:∀{binds} {m},(∀v,(x,v)∉binds)->bindC a binds m x=m x
 | [],_,_=>rfl
 | (n,v)::r,m,h=>by
  unfold bindC;rw[M9 λw hw=>h w<|List.mem_cons_of_mem _ hw];split
  ·rfl
  ·have:x≠n:=by rintro rfl;exact h v List.mem_cons_self
   simp[this]
theorem MY{a:Lq->Option NameKind}:∀{P:Lf} {vs} {i:Nat} {m},P.Nodup->P[i]?=some x->vs[i]?=some v->a x=some .local ->
  bindL a (P.zip vs) m x=some v
 | [],_,_,_,_,h,_,_=>by simp at h
 | _::_,[],_,_,_,_,h,_=>by simp at h
 | p::P,w::vs,0,m,nd,h1,h2,hk=>by simp at h1 h2;subst h1;subst h2;show bindL a ((p,w)::P.zip vs) m p=_;unfold bindL;rw[MX λv b=>(List.nodup_cons.mp nd).1 (List.of_mem_zip b).1,Yl hk];simp
 | p::P,w::vs,i+1,m,nd,h1,h2,hk=>by show bindL a ((p,w)::P.zip vs) m x=_;unfold bindL;exact MY (i:=i) (List.nodup_cons.mp nd).2 ‹h1› ‹h2› hk
theorem M8{a:Lq->Option NameKind}:∀{P:Lf} {vs} {i:Nat} {m},P.Nodup->P[i]?=some x->vs[i]?=some v->a x≠some .local ->
  bindC a (P.zip vs) m x=some v
 | [],_,_,_,_,h,_,_=>by simp at h
 | _::_,[],_,_,_,_,h,_=>by simp at h
 | p::P,w::vs,0,m,nd,h1,h2,hk=>by simp at h1 h2;subst h1;subst h2;show bindC a ((p,w)::P.zip vs) m p=_;unfold bindC;rw[M9 λv b=>(List.nodup_cons.mp nd).1 (List.of_mem_zip b).1,Yh hk];simp
 | p::P,w::vs,i+1,m,nd,h1,h2,hk=>by show bindC a ((p,w)::P.zip vs) m x=_;unfold bindC;exact M8 (i:=i) (List.nodup_cons.mp nd).2 ‹h1› ‹h2› hk
def start(N:Lf)(vs:Lg):St:=vs.map some++List.replicate (N.length-vs.length) none
def mC(CX:kF)(P:Lm)(w:Ll)(K:Lj)(mg:Sa)(base:Lp)(N:Lf)(qual:Lq)(scope:Scope)(f:Lh)(cd:Li)(A:Around)(outer:List Env)(s:Lk)(H:Hp)(E:XK):Cx where
 prog:=P
 w:=w
 K:=K
 mg:=mg
 base:=base
 A:=A.deeper (envOfC qual scope s.heap.objs.size f cd)
 N:=N
 s₀:=s
 H₀:=H
 env:=envOfC qual scope s.heap.objs.size f cd
 outer:=outer
 stack:=envOfC qual scope s.heap.objs.size f cd::outer
 ex:=[]
 calm:=true
 fn:=λ_=>true
 pn:=[]
 xe:=λe s'=>wpAny (model P w) (A.deeper<|envOfC qual scope s.heap.objs.size f cd) (leaving (envOfC qual scope s.heap.objs.size f cd) e) (λ_ s''=>CX outer H s E e s'') (λe' s''=>CX outer H s E e' s'') s'
def LP{a:Scope}(h:a.names.lookup x=some .cell):∃c,(cellsFrom n a.names []).lookup x=some c:=by let q:=W.cellsFrom_some a.names n []<|.inl h;exact Option.isSome_iff_exists.mp q
def XT{CX:kF}{P:Lm}{w:Ll}{K:Lj}{mg:Sa}{base:Lp}{N ps:Lf}{l:Lq}{d:Scope}{f:Lh}{I:Li}{A:Around}{j:List Env}{s O:Lk}{H:Hp}{E:XK}{us:List Li}{vs:Lg}(S:eO N ps d) (R:A.handled=none) (o:iY P w K mg base A j s H) (hl:vs.length=ps.length) (r:aN vs us)(x:InCallC s s.heap.objs.size (bindL (envOfC l d s.heap.objs.size f I).kindOf (ps.zip us) λ_=>none) (cellsFrom (s.heap.objs.size+1) d.names []) (bindC (envOfC l d s.heap.objs.size f I).kindOf (ps.zip us) λ_=>none) O):aK (mC CX P w K mg base N l d f I A j s H E) [] (start N vs) H O:=by
 let hpl:ps.length<=N.length:=by have:=Jx List.length S.pre;rw[List.length_take]at this;lia
 let⟨J,tk,rfl,M⟩:=x.done;let B:∀b:Lh,b∉(mC CX P w K mg base N l d f I A j s H E).ex:=λb z=>absurd (show b∈([]:Le) from z) (by simp);refine⟨⟨o.mod,S.kind,Z,Z,Yi _,λy z c J m=>?_,λy C=>?_,λy c _ h=>?_,λ_=>R,Around.frames_deeper o.frames,.inr ⟨Z,Z⟩,λb z=>absurd z<|B b,o.bs,o.bsz,λb _ _=>B b,λb z=>absurd z<|B b,o.funs,o.frf⟩,
  rfl,o.bare,Un.kept M,⟨_,x.toInCall.ns,λi y v J m h3=>?_⟩,λy c h=>⟨_,x.cell y c h⟩,o.hok.fresh<|Yi _,λy c h=>?_,λp D=>absurd (show p∈([]:La) from D)<|by simp,o.hok.kept M,?_⟩
 ·exact name_of_addr x.apart (PySem.mem_of_lookup J)<|PySem.mem_of_lookup m
 ·let C:d.names.lookup y=some .cell\/d.names.lookup y=some .free:=C;rcases C with C | C
  ·exact LP C
  ·exact absurd rfl<|S.nofree _<|PySem.mem_of_lookup C
 ·exact Nat.le_of_lt<|x.above y c<|PySem.mem_of_lookup h
 ·let L:i<vs.length:=by
   unfold start at m;by_cases L:i<vs.length
   ·exact L
   ·rw[List.getElem?_append_right<|by simpa using L]at m;rw[List.getElem?_replicate]at m;split at m <;> cases m
  let U:vs[i]?=some v:=by
   unfold start at m;rw[List.getElem?_append_left<|by simpa using L,Ym]at m;cases e:vs[i]? with
   | none=>rw[e]at m;cases m
   | some a=>rw[e]at m;cases m;rfl
  let⟨u,Q,T⟩:=r.get U;let D:ps[i]?=some y:=by rw[<- S.pre,List.getElem?_take_of_lt ⋯];exact J
  let G:ps.Nodup:=by rw[<- S.pre];exact S.nd.sublist<|List.take_sublist _ _
  exists u,T;rcases S.par y (Yx D) with k | k
  ·exact .inl ⟨k,MY G D Q k⟩
  ·let⟨c,e⟩:=LP (n:=s.heap.objs.size+1) k;refine .inr ⟨.inl k,c,e,?_⟩;let q:=x.cell y c e;rw[M8 G D Q<|by show d.names.lookup y≠_;rw[k];decide]at q;exact q
 ·exact o.hok.fresh<|Nat.le_of_lt<|x.above y c<|PySem.mem_of_lookup h
 ·unfold start;show _=N.length;rw[Y6,Yd,List.length_replicate];lia
def RK{CX:kF}{P:Lm}{w:Ll}{K:Lj}{mg:Sa}{base:Lp}{k:Nat}{f:Lh}{name d:Lq}{i:Arguments}{body:List Ln}{a:Scope}{T kV B R h Y oc:Li}{X od:Option Lh}{M:Array (Option Li)} {N ps:Lf} {sp:Sp} (lk:K.lookup f=some ⟨oc,od,.func<|W.fnOf name d i body a T kV B R X h Y,M⟩) (D:W.codeIn K h d=true) (S:eO N ps a)(len:∀vs H Q E,sp vs H Q E->vs.length=ps.length)(m:∀(A:Around) (c:List Env) (s:Lk) (H:Hp) (vs:Lg) (Q:VK) (E:XK),bM k (A.deeper<|envOfC d a s.heap.objs.size f h)->sp vs H Q E ->
   ∃t,lE (mC CX P w K mg base N d a f h A c s H E) body t/\t { nx:=λ_ H'=>Q .non H',rt:=Q } (start N vs) H):
  cJ P w K mg base CX (k+1) f (W.fnOf name d i body a T kV B R X h Y) ps sp:=by
 refine⟨len,λA c s H args us vs Q E G z hb r C=>?_⟩;let hl:=len _ _ _ _ C;let O:K.In s.heap:=z.mod.kin.keeps λb o e=>(z.bs b o e).1;let lim:s.heap.NoLimit:=z.mod.nolimit.keeps λb o e=>(z.bs b o e).1;let l:∀y∈ps.zip us,a.names.lookup y.1=some .local\/(a.names.lookup y.1=some .cell/\((cellsFrom (s.heap.objs.size+1) a.names []).lookup y.1).isSome=true):=fun⟨n,v⟩ hy=>by
  rcases S.par n (List.of_mem_zip hy).1 with q | q
  ·exact .inl q
  ·exact .inr ⟨q,W.cellsFrom_some _ _ _<|.inl q⟩
 refine codeAny_call_function G.depth (O _ _ lk) Z S.co S.gen rfl (W.codeRec_of O D)<|hb _ _ _ _ ?_;refine wpAny_newFunctionEnv_cells S.kind l λenv he U x=>?_;subst he;refine⟨lim.keeps x.toInCall.keep,codeAny_func ?_⟩;let⟨t,ht,hq⟩:=m A c s H vs Q E (G.deeper _) C;let I:aK (mC CX P w K mg base N d a f h A c s H E) [] (start N vs) H U:=XT S G.hd z hl r x;refine wpAny_mono (ht U (start N vs) H _ I hq) (λfl s' p=>?_) λe s' p=>p;let fin:∀{j:St} {H':Hp} {v:V} {u:Li},aK (mC CX P w K mg base N d a f h A c s H E) [] j H' s'->aS v u->Q v H'->CE c P w H s Q u s':=
  fun{j H' v u} J L q=>⟨v,H',J.os,J.bare,J.base,J.hok,L,q⟩
 cases fl with
 | ret u=>
  let⟨v,j,H',J,L,q⟩:=p;exact fin J L q
 | next=>
  let⟨j,H',J,q⟩:=p;exact fin (v:=V.non) (u:=Value.none) J rfl q
 | brk=>
  let⟨_,_,_,q⟩:=p;exact Jf q
 | cont=>
  let⟨_,_,_,q⟩:=p;exact Jf q
section
variable{X:Cx}{x:Lq}{p pos:Pos}{e:Lo}{es:List Lo}{t:TA}{id T:String}{r:Lg->Hp->VK->Prop}
def xH(r:Lg->Hp->VK->Prop)(t:TA):TE:=λσ H Q=>t σ H λvs H1=>r vs H1 Q
def gU(c:bZ X (.builtin id) r)(q:Gl X x)(l:X.mg x=none)(k:bootBuiltins x=some (.builtin id))(o:PA X (e::es) t)(j:↑↑(x≠"__name__"))(a:↑↑((x==("__debug__":Lq))=false))
  (m:↑(starEach (e::es) X.env=(false,eval e X.env)::starEach es X.env)) (b:↑((backTo pos<|starEach es X.env).any (·.1)=false)):PE X (.Call (.Name x p) (e::es) [] pos) (xH r t):=by intro ak s σ H Q I h;refine wpAny_Call_Name_kw<|nZ I q l k ?_ j a;exact PyProof.Rows.callWith_builtin1 (bC (o ak s σ H _ I h) λus u ⟨vs,H1,i,n,d⟩=>c ak u σ H1 vs us Q i n d) m b
def oT(c:bZ X (.type T) r)(q:Gl X x)(l:X.mg x=none)(k:bootBuiltins x=some (.type T))(o:PA X (e::es) t)(j:↑↑(x≠"__name__"))(a:↑↑((x==("__debug__":Lq))=false))
  (m:↑(starEach (e::es) X.env=(false,eval e X.env)::starEach es X.env)) (b:↑((backTo pos<|starEach es X.env).any (·.1)=false)):PE X (.Call (.Name x p) (e::es) [] pos) (xH r t):=by intro ak s σ H Q I h;refine wpAny_Call_Name_kw<|nZ I q l k ?_ j a;exact PyProof.Rows.callWith_type1 (bC (o ak s σ H _ I h) λus u ⟨vs,H1,i,n,d⟩=>c ak u σ H1 vs us Q i n d) m b
end
end L2
namespace HT
open PySem PyProof.Rows
def lexLt:Lc->Lc->Bool
 | [],[]=>false
 | [],_::_=>true
 | _::_,[]=>false
 | x::xs,y::ys=>if x=y then lexLt xs ys else decide<|x<y
def lexLt_cons(x y:Int)(xs ys:Lc):lexLt (x::xs) (y::ys)=if x=y then lexLt xs ys else decide (x<y):=rfl
def O2:lexLt [] []=false:=rfl
def lexLt_nil_cons(y:Int)(ys:Lc):lexLt [] (y::ys)=true:=rfl
def lexLt_cons_nil(x:Int)(xs:Lc):lexLt (x::xs) []=false:=rfl
def eqAt_int(A:Around)(s:Lk)(a:Int)(t:Tok)(c:Int)(u:Tok):∃e,SeqAt.EqAt A s (.int a t) (.int c u) e/\(e=true↔a=c):=
 ⟨a==c,SeqAt.EqAt.int_int a t c u,by simp⟩
def VX(A:Around)(s:Lk)(a:Int)(t:Tok)(c:Int)(u:Tok)(prog:Lm)(w:Ll)(E:Va)(Q:Va)(h:Q (.bool<|decide<|a<c) s):⇑A (richCompare .Lt (.int a t)<|.int c u) Q E s:=
 (PyProof.Rows.lt_int h:⇑A (compareOp .Lt (.int a t)<|.int c u) Q E s)
section
open PySem.SeqAt
open PySem.AutoSeq1 (wpAny_loadPart')
open PySem.MeetsSeq PySem.MeetsSeq2 PySem.MeetsSeq3
def zj4(l b:Lh)(j i:Array Li)(n S:Nat)(dd J:Option Lh)(Q I:Array (Option Li))(C E:Lc)(M:IntsAre j.toList C)(L:IntsAre i.toList E):Meets (Builtin.«tuple.__lt__» ⟨[.ref l,.ref b],[]⟩) (λ_ R s=>s.heap.get? l=some { cls:=.type "tuple",dict:=dd,data:=.seq j n,slots:=Q }/\s.heap.get? b=some { cls:=.type "tuple",dict:=J,data:=.seq i S,slots:=I } /\
    R (.ok<|.ret<|.bool<|lexLt C E) s):=
 .of_wp λprog w A R s h=>by
  let⟨G,g,d,H,D⟩:=s;let⟨O,T,h⟩:=h;let f2:=AutoSeq1.sub_tuple_tuple;let z1:j.size=C.length:=by rw[<- M.length];simp
  let z2:i.size=E.length:=by rw[<- L.length];simp
  wp_walk using wpAny_loadPart' O,wpAny_loadPart' T,wpAny_forIn_list _ (λrest b s'=>b.1=none/\s'=⟨G,g,d,H,D⟩/\∃(vs ws:List Li) (o m:Lc),rest=vs.zip ws /\
   IntsAre vs o/\IntsAre ws m/\o.length+i.size=m.length+j.size/\R (.ok<|.ret<|.bool<|lexLt o m) ⟨G,g,d,H,D⟩) _
  case turn=>
   rintro⟨y,x⟩ rest b s' ⟨B,rfl,vs,ws,o,m,hz,z,p,k,v⟩;cases z with
   | nil=>rw[List.zip_nil_left]at hz;cases hz
   | cons a t hvi'=>
    cases p with
    | nil=>rw[List.zip_nil_right]at hz;cases hz
    | cons c u hwi'=>
     rw[List.zip_cons_cons]at hz;injection hz with hyx hrest
     injection hyx with hy hx
     subst hy hx;rw[lexLt_cons]at v;simp only[List.length_cons]at k;let⟨e,P,r⟩:=eqAt_int A.in1 ⟨G,g,d,H,D⟩ a t c u;refine Ya<|P prog w _ _ ?_;cases e with
     | true=>
      rw[Yl<|r.mp rfl]at v;wp_walk;exact⟨Z,Z,_,_,_,_,hrest,hvi',hwi',⋯,v⟩
     | false=>
      rw[Yh<|λq=>absurd (r.mpr q) Yt]at v;let K:=VX A.in1 ⟨G,g,d,H,D⟩ a t c u prog w;wp_walk using K;exact⟨_,Z,‹v›⟩
  case fin=>
   rintro⟨b1,b2⟩ s' ⟨B,rfl,vs,ws,o,m,hz,z,p,k,v⟩;simp only at B;subst B;let N:lexLt o m=decide (j.size<i.size):=by
    cases z with
    | nil=>
     cases p with
     | nil=>
      simp only[List.length_nil]at k;rw[O2];exact(Yw ⋯).symm
     | cons c u hw=>
      simp only[List.length_nil,List.length_cons]at k;rw[lexLt_nil_cons];exact(Yo ⋯).symm
    | cons a t N=>
     cases p with
     | nil=>
      simp only[List.length_nil,List.length_cons]at k;rw[lexLt_cons_nil];exact(Yw ⋯).symm
     | cons c u hw=>
      rw[List.zip_cons_cons]at hz;cases hz
   rw[N]at v;wp_walk;exact⟨_,Z,by simpa[Builtin.Tuple.tupleCompareSizes]using v⟩
  case h=>
   exact⟨Z,Z,j.toList,i.toList,C,E,Z,M,L,⋯,h⟩
end
section
variable{prog:Lm}{w:Ll}{A:Around}{E:Va}{s:Lk}
def lt_tupInts(o:IsTup s.heap l items)(y:IsTup s.heap b items2)(q:IntsAre items.toList ns)(p:IntsAre items2.toList ms)(u:A.units<cLine) (h:Q (.bool<|lexLt ns ms) s):⇑A (compareOp .Lt (.ref l)<|.ref b) Q E s:=by
 let⟨⟨cls,dd,data,r⟩,k,j,n,m⟩:=id o;let⟨⟨cls2,i,data2,e⟩,c,d,v,a⟩:=id y;simp only at j m d a;subst j m d a;exact richCompare_meets_room (op:=.Lt) ⟨_,k,Z⟩ ⟨_,c,Z⟩ PySem.F.slot_tuple_lt PySem.F.entry_tuple_lt (PySem.F.args_tuple_lt_2 _ _) (zj4 l b items items2 n v dd i r e ns ms q p)
  ⟨k,c,show Value.bool (lexLt ns ms)≠Value.notImplemented/\Q (.bool<|lexLt ns ms) s from⟨(λx=>nomatch x),h⟩⟩ u
def cat_tup(u:IsTup s.heap t vs.toArray)(v:IsTup s.heap b ws.toArray)(l:vs≠[])(r:ws=[]->Q (.ref t) s) (q:ws≠[]->Q (.ref s.heap.objs.size) {s with heap:=s.heap.push { cls:=.type "tuple",data:=.seq (vs++ws).toArray } })(hsz:vs.length+ws.length<=sizeLine):⇑A (binaryOp .Add (.ref t)<|.ref b) Q E s:=by
 let⟨⟨cls,dd,data,o⟩,j,k,n,m⟩:=id u;let⟨⟨cls2,h,data2,c⟩,a,i,p,d⟩:=id v;simp only at k m i d;subst k m i d;let e:vs.toArray++ws.toArray=(vs++ws).toArray:=by simp
 by_cases hw:ws=[]
 ·exact concat_meets ⟨_,j,Z⟩ ⟨_,a,Z⟩ noFill_tuple_add seq_tuple_add PySem.F.slot_tuple_add PySem.F.entry_tuple_add (PySem.F.args_tuple_add_2 _ _)
   (tuple_addW1 t b vs.toArray ws.toArray n p dd h o c ‹l›<|by simp[hw]) ⟨j,a,r hw⟩
 ·refine concat_meets ⟨_,j,Z⟩ ⟨_,a,Z⟩ noFill_tuple_add seq_tuple_add PySem.F.slot_tuple_add PySem.F.entry_tuple_add (PySem.F.args_tuple_add_2 _ _)
   (tuple_addW2 t b vs.toArray ws.toArray n p dd h o c ‹l› ‹hw›<|by rw[Ys,Ys];exact hsz) ⟨j,a,?_⟩
  rw[e];exact q hw
def sIx(n d:Nat):Option Int->Nat
 | none=>d
 | some v=>if v<0 then(v+(n:Int)).toNat else min v.toNat n
end
end HT
namespace L2
open PySem PySem.Spec PyProof.Rows
abbrev TO:=St->Hp->(Option Int->Hp->Prop)->Prop
def PO(X:Cx)(e:Option Lo)(t:TO):Prop:=
 ∀⦃ak:La⦄ (s:Lk) (σ:St) (H:Hp) (Q:Option Int->Hp->Prop),aK X ak σ H s->t σ H Q ->
  ↥X (evalPart e X.env) (λu s'=>∃o H',aK X ak σ H' s'/\IsPart u o/\Q o H') X.xe s
def TB:TO:=λ_ H Q=>Q none H
def z22(t:TE):TO:=λσ H Q=>t σ H λx H1=>∃i,x=.int i/\Q (some i) H1
def xE:∀{us},aN (ns.map V.int) us->IntsAre us ns:=by
 induction ns with
 | nil=>intro us r;rw[List.map_nil]at r;cases r;exact .nil
 | cons n ns ih=>
  intro us r;rw[Yz]at r;cases r with
  | cons r1 r2=>
   let⟨t,e⟩:=r1;subst e;exact .cons n t<|ih r2
section
variable{X:Cx}{e:Lo}{te:TE}{lo hi:Option Lo}{tl th:TO}{pos p2:Pos}
def yT:PO X none TB:=by intro ak s σ H Q I h;rw[evalPart_none];exact Yb ⟨none,H,I,.none,h⟩
def yU(h:PE X e te):PO X (some e) (z22 te):=by intro ak s σ H Q I hw;rw[evalPart_some];refine bC (h s σ H _ I hw) λu s1 a=>?_;let⟨x,H1,c,d,b⟩:=a;let⟨i,rfl,q⟩:=b;let⟨t,rfl⟩:=d;exact⟨some i,H1,c,.int i t,q⟩
def HS(X:Cx)(r:V->Option Int->Option Int->Hp->VK->Prop):Prop:=
 ∀ak s (σ:St) H x v vl vu lo hi sl Q,aK X ak σ H s->aS x v->s.heap.IsSliceOf sl vl vu .none->IsPart vl lo->IsPart vu hi->r x lo hi H Q ->
  ∃T id,typeLookup (.type T) "__getitem__" = pure (some<|.builtin id)/\s.TypeIs v T/\↥X (getItem v<|.ref sl) (EP X ak σ Q) X.xe s
def tSl(r:V->Option Int->Option Int->Hp->VK->Prop)(te:TE)(tl th:TO):TE:=λσ H Q=>te σ H λx H1=>tl σ H1 λl H2=>th σ H2 λu H3=>r x l u H3 Q
def yX(y:HS X r)(o:PE X e te)(j:PO X lo tl)(K:PO X hi th):PE X (.Subscript e (.Slice lo hi none p2) pos) (tSl r te tl th):=by intro ak s σ H Q I h;refine Subscript_<|bC (o s σ H _ I h) λv z c=>?_;let⟨x,H1,D,p,C⟩:=c;refine wpAny_Slice<|bC (j z σ H1 _ D C) λvl n ⟨l,L,k,pl,J⟩=>bC (K n σ L _ k J) λd a c=>?_;let⟨u,i,N,M,E⟩:=c;rw[evalPart_none];refine Yb ?_;let G:aK X ak σ i { a with heap:=a.heap.push { cls:=.type "slice",data:=.fields #[vl,d,.none] } }:=N.kept (t':=a.toks) λb ob q=>Ye _ q;let⟨T,id,B,m,O⟩:=y ak { a with heap:=a.heap.push { cls:=.type "slice",data:=.fields #[vl,d,.none] } } σ i x v vl d l u a.heap.objs.size Q G p (Heap.IsSliceOf.new ..) pl M E;show ↥X (subscriptTail e (.Slice lo hi none p2) v<|.ref a.heap.objs.size) (EP X ak σ Q) X.xe { a with heap:=a.heap.push { cls:=.type "slice",data:=.fields #[vl,d,.none] } };exact tail_any (ops:=[.ref a.heap.objs.size,v]) m B O (by with_unfolding_all rfl)
def kT(xs:Lg)(lo hi:Option Int):Lg:=(xs.drop<|HT.sIx xs.length 0 lo).take (HT.sIx xs.length xs.length hi-HT.sIx xs.length 0 lo)
def zlo(xs:Lg)(lo hi:Option Int):(kT xs lo hi).length<=xs.length:=by unfold kT;rw[List.length_take,List.length_drop];lia
inductive GU(K:Lj)(x y:V)(H:Hp)(Q:VK):Prop
 | mk (a b ns ms) (_:x=.ref a) (_:y=.ref b) (_:aY K H a (ns.map V.int)) (_:aY K H b (ms.map V.int)) (_:Q (.bl<|HT.lexLt ns ms) H)
def JV(o:X.A.units<cLine):eS X (compareOp .Lt) (GU X.K):=by intro ak s σ H x y v u Q I l k h;let⟨a,b,d,i,rfl,rfl,w,z,q⟩:=h;cases l;cases k;let⟨its,p,n,_⟩:=I.tuple w;let⟨c,r,p2,_⟩:=I.tuple z;let m:IntsAre its.toArray.toList d:=xE p;let j:IntsAre c.toArray.toList i:=xE r;exact HT.lt_tupInts n p2 m j o ⟨.bl<|HT.lexLt d i,H,I,Z,q⟩
inductive zV(K:Lj)(x y:V)(H:Hp)(Q:VK):Prop
 | mk (a b xs ys) (_:x=.ref a) (_:y=.ref b) (_:aY K H a xs) (_:aY K H b ys) (_:xs≠[]) (_:xs.length+ys.length<=sizeLine) (_:(ys=[]->Q (.ref a) H)) (_:(ys≠[]->∀p,H p=none->Q (.ref p) (upd H p<|.tup<|xs++ys)))
def aN.nil_iff(r:aN xs us):us=[]↔xs=[]:=by
 cases r with
 | nil=>simp
 | cons _ _=>simp
def vC:eS X (binaryOp .Add) (zV X.K):=by intro ak s σ H x y v u Q I n i h;let⟨a,b,xs,ys,rfl,rfl,p,r,l,hz,k,m⟩:=h;cases n;cases i;let⟨its,d,j,_⟩:=I.tuple p;let⟨its2,c,p2,_⟩:=I.tuple r;refine HT.cat_tup j p2 (λz=>l<|d.nil_iff.mp z) (λz=>⟨.ref a,H,I,Z,k<|c.nil_iff.mp z⟩) (λz=>?_) (by rw[<- d.length,<- c.length];exact hz);refine⟨.ref s.heap.objs.size,_,I.laid (t':=s.toks) (o:=.tup<|xs++ys) (λb ob q=>Ye _ q) (Yi _) ?_,Z,m (λw=>z<|c.nil_iff.mpr w) _<|I.hok.fresh<|Yi _⟩;exact⟨by rw[Y6];exact hz,_,d.append c,IsTup.new _ _⟩
end
def uJ(n:Nat)(i:Int):Option Nat:=if 0<=i then(if i<n then some i.toNat else none) else if -(n:Int)<=i then some (i+n).toNat else none
def iO{α:Type}(xs:List α)(i:Int):Option α:=(uJ xs.length i).bind λj=>xs[j]?
def LH(h:uJ n i=some j):seqIndex? i n=some j/\j<n/\-(n:Int)<=i/\i<n:=by
 unfold uJ at h;by_cases h0:0<=i
 ·rw[Yl h0]at h;by_cases h1:i<n
  ·rw[Yl h1]at h;let e:i.toNat=j:=Jg h;exact⟨by rw[seqIndex_of h0 h1,e],⋯,⋯,h1⟩
  ·rw[Yh h1]at h;cases h
 ·rw[Yh h0]at h;by_cases h1:-(n:Int)<=i
  ·rw[Yl h1]at h;let e:(i+n).toNat=j:=Jg h;exact⟨by rw[seqIndex_neg ⋯ h1,e],⋯,h1,⋯⟩
  ·rw[Yh h1]at h;cases h
def LL(h:iO xs i=some v):∃j,seqIndex? i xs.length=some j/\xs[j]?=some v/\j<xs.length/\-(xs.length:Int)<=i/\i<xs.length:=by
 unfold iO at h;cases e:uJ xs.length i with
 | none=>rw[e]at h;cases h
 | some j=>
  rw[e]at h;let⟨c,b,a,d⟩:=LH e;exact⟨j,c,h,b,a,d⟩
def iC{xs:List α}{j:Nat}{v:α}(h:xs[j]?=some v):iO xs (j:Int)=some v:=by
 let hj:j<xs.length:=(List.getElem?_eq_some_iff.mp h).1;let e:uJ xs.length (j:Int)=some j:=by unfold uJ;rw[Yl ⋯,Yl ⋯];simp
 unfold iO;rw[e];exact h
def jV(b:Lo):Prop:=∀o i,subscripted b false o i=operate [o,i] (getItem o i)
def HX(X:Cx)(r:R2):Prop:=
 ∀value slice ak s (σ:St) H x y v u Q,aK X ak σ H s->aS x v->aS y u->r x y H Q ->
  subscripted slice false v u=operate [v,u] (getItem v u)->↥X (subscriptTail value slice v u) (EP X ak σ Q) X.xe s
def C5(X:Cx)(id:String)(r:V->Lg->Hp->VK->Prop):Prop:=
 ∀ak s (σ:St) H x xs v us Q,aK X ak σ H s->aS x v->aN xs us->r x xs H Q ->
  ↥X (call (.builtin id) (v::us)) (EP X ak σ Q) X.xe s
section
variable{X:Cx}{a b:Lo}{ta tb:TE}{pos:Pos}
def sK(m:HX X r)(l:PE X a ta)(n:PE X b tb)(d:jV b):PE X (.Subscript a b pos) (tD r ta tb):=by intro ak s σ H Q I h;exact Subscript_<|vV l n I h λv u j x y k c i e q=>m a b ak j σ k x y v u Q c i e q<|d _ _
inductive rF(K:Lj)(x y:V)(H:Hp)(Q:VK):Prop
 | mk (p xs i v) (_:x=.ref p) (_:y=.int i) (_:aQ K H p xs) (_:iO xs i=some v) (_:Q v H)
inductive lZ(K:Lj)(x y:V)(H:Hp)(Q:VK):Prop
 | mk (p xs i v) (_:x=.ref p) (_:y=.int i) (_:aY K H p xs) (_:iO xs i=some v) (_:Q v H)
def E2:HX X (rF X.K):=by
 intro value slice ak s σ H x y v u Q I C n h k;let⟨p,xs,i,z,rfl,rfl,o,A,q⟩:=h;cases C;let⟨t,rfl⟩:=n;let⟨its,r,pl,hz⟩:=I.list o;let⟨j,c,B,h3,E,D⟩:=LL A;let⟨w,l,e⟩:=r.get B;let m:=r.length;let hn:=uY;let fin:EP X ak σ Q w s:=⟨z,H,I,e,q⟩;by_cases h0:0<=i
 ·let d:i.toNat=j:=by rw[seqIndex_of h0 D]at c;exact Jg c
  exact item_listR pl.isList h0 ⋯ (by rw[d];simpa using l) fin k
 ·let d:(i+(its.toArray.size:Int)).toNat=j:=by rw[seqIndex_neg ⋯ E]at c;rw[Ys,<- m];exact Jg c
  exact subscriptTail_builtinR (x:=w) pl.isList.typeIs slot_list_getitem.lookup
   (wpAny_getItem_list_neg (Q:=λr s'=>r=w/\EP X ak σ Q r s') pl.isList ⋯ (by rw[Ys] <;> lia) ⋯ (by rw[d];simpa using l) ⟨Z,fin⟩) k
def yL:HX X (lZ X.K):=by
 intro value slice ak s σ H x y v u Q I B k h e;let⟨p,xs,i,z,rfl,rfl,m,n,q⟩:=h;cases B;let⟨t,rfl⟩:=k;let⟨its,r,pl,hz⟩:=I.tuple m;let⟨j,o,A,h3,h4,h5⟩:=LL n;let⟨w,l,c⟩:=r.get A;let d:=r.length;let hn:=uY;let fin:EP X ak σ Q w s:=⟨z,H,I,c,q⟩;exact subscriptTail_builtinR (x:=w) pl.typeIs slot_tuple_getitem.lookup
  (getItem_tuple (j:=j) (Q:=λr s'=>r=w/\EP X ak σ Q r s') pl ⋯ ⋯ (by rw[Ys,<- d];exact o) ‹l› ⟨Z,fin⟩) e
def Z1(its:List Li)(n j:Nat)(u:Li):Obj.mapSeq (·.setIfInBounds j u) { cls:=.type "list",data:=.seq its.toArray n }={ cls:=.type "list",data:=.seq (its.set j u).toArray n }:=by simp[Obj.mapSeq]
def aK.lst{ak:La}{σ:St}{H:Hp}{s:Lk}{p:Lh}{xs:Lg}(I:aK X ak σ H s)(h:H p=some (.lst xs)):∃its n,aN xs its/\s.heap.get? p=some { cls:=.type "list",data:=.seq its.toArray n }/\xs.length<=sizeLine:=by let⟨z,its,n,r,e⟩:=I.hok p _ h;exact⟨its,n,r,e,z⟩
def aK.lstUpd{σ:St}{its its':List Li}(I:aK X ak σ H s)(h:H p=some (.lst xs))(d:s.heap.get? p=some { cls:=.type "list",data:=.seq its.toArray n }) (c:f { cls:=.type "list",data:=.seq its.toArray n }={ cls:=.type "list",data:=.seq its'.toArray n' }) (r:aN ys its') (hz:ys.length<=sizeLine) (t:Nat):aK X ak σ (upd H p<|.lst ys) {s with heap:=s.heap.update p f,toks:=t }:=by
 let e:(s.heap.update p f).get? p=some { cls:=.type "list",data:=.seq its'.toArray n' }:=by rw[Heap.get?_update_self f d<|by rw[c] <;> rfl,c]
 refine I.write (x:=p) (e:=p) (by rw[h];trivial) (.inl Z) (λb u i q=>(Heap.get?_update_other _ _<|Jc i).trans q) ⟨_,e⟩ ?_;exact⟨hz,its',n',r,e⟩
inductive zT(o i v:V)(H:Hp)(Q:Hp->Prop):Prop
 | mk (p xs k j) (_:o=.ref p) (_:i=.int k) (_:H p=some (.lst xs)) (_:uJ xs.length k=some j) (_:Q (upd H p<|.lst<|xs.set j v))
def WV:AJ X zT:=by
 intro ak s σ H o i v ov iv u Q I C A B h;let⟨p,xs,k,j,rfl,rfl,x,z,q⟩:=h;cases C;let⟨t,rfl⟩:=A;let⟨its,n,r,e,hz⟩:=I.lst x;let⟨c,h2,m,y⟩:=LH z;let d:=r.length;let hn:=uY;let w:aK X ak σ (upd H p<|.lst<|xs.set j v) {s with heap:=s.heap.update p (Obj.mapSeq (·.setIfInBounds j u)) }:=
  I.lstUpd x e (Z1 its n j u) (r.set B j) (by rw[List.length_set];exact hz) s.toks
 by_cases h0:0<=k
 ·let l:k.toNat=j:=by rw[seqIndex_of h0 y]at c;exact Jg c
  exact W.ki_setAt e h0 ⋯ (by rw[Ys,<- d];exact y) (by rw[l];exact⟨_,w,q⟩)
 ·let l:(k+(its.toArray.size:Int)).toNat=j:=by rw[seqIndex_neg ⋯ m]at c;rw[Ys,<- d];exact Jg c
  exact W.ki_setBack e ⋯ (by rw[Ys,<- d];exact m) ⋯ (by rw[l];exact⟨_,w,q⟩)
def zk5(lo c:Option Int)(n:Nat):(sliceBounds lo c none n).1=((HT.sIx n 0 lo:Nat):Int)/\(sliceBounds lo c none n).2.1=((HT.sIx n n c:Nat):Int)/\(sliceBounds lo c none n).2.2=1:=by
 refine⟨?_,?_,Z⟩
 ·cases lo with
  | none=>simp[sliceBounds,HT.sIx]
  | some i=>
   simp only[sliceBounds,HT.sIx,Option.getD_none,show (1:Int) > 0 by decide,if_true];by_cases h:i<0
   ·simp only[h,if_true] <;> lia
   ·simp only[h,if_false] <;> lia
 ·cases c with
  | none=>simp[sliceBounds,HT.sIx]
  | some i=>
   simp only[sliceBounds,HT.sIx,Option.getD_none,show (1:Int) > 0 by decide,if_true];by_cases h:i<0
   ·simp only[h,if_true] <;> lia
   ·simp only[h,if_false] <;> lia
def zjf(its:List Li)(lo c:Option Int):slicePick its.toArray lo c none=((its.drop<|HT.sIx its.length 0 lo).take (HT.sIx its.length its.length c-HT.sIx its.length 0 lo)).toArray:=by let⟨h,e,d⟩:=zk5 lo c its.toArray.size;unfold slicePick;rw[h,e,d];simp only[sliceRange_one,pick_run,List.size_toArray] <;> rfl
inductive zS(K:Lj)(x:V)(lo hi:Option Int)(H:Hp)(Q:VK):Prop
 | mk (a xs) (_:x=.ref a) (_:aQ K H a xs) (_:∀p,H p=none->Q (.ref p) (upd H p<|.lst<|kT xs lo hi))
def UK:HS X (zS X.K):=by intro ak s σ H x v vl vu lo d sl Q I k i pl l h;let⟨a,xs,rfl,j,q⟩:=h;cases k;let⟨its,r,e,hz⟩:=I.list j;let c:=r.length;exists "list",_,slot_list_getitem.lookup,e.isList.typeIs;refine wpAny_getItem_list_slice e.isList i pl l .none (by simp) ?_ (by rw[List.size_toArray] <;> lia);rw[zjf,<- c];refine⟨.ref s.heap.objs.size,_,I.laid (t':=s.toks) (o:=.lst<|kT xs lo d) (λb ob q=>Ye _ q) (Yi _) ?_,Z,q _<|I.hok.fresh<|Yi _⟩;exact⟨Yr (zlo xs lo d) hz,_,0,(r.drop<|HT.sIx xs.length 0 lo).take (HT.sIx xs.length xs.length d-HT.sIx xs.length 0 lo),Yk _ rfl⟩
def jQ:bZ X (.builtin "len") (λxs H Q=>∃p ys,xs=[.ref p]/\(aQ X.K H p ys\/aY X.K H p ys)/\Q (.int ys.length) H):=by
 intro ak s σ H xs us Q I r h;let⟨p,ys,rfl,d,q⟩:=h;let⟨u,rfl,i⟩:=qG r;cases i;let hn:=uY;rcases d with d | d
 ·let⟨its,e,pl,hz⟩:=I.list d;let c:=e.length;exact Calls.call_len_list pl.isList (by simp only[List.size_toArray] <;> lia) ⟨.int ys.length,H,I.tok _,⟨s.toks+1,by rw[Ys,c]⟩,q⟩
 ·let⟨its,e,pl,hz⟩:=I.tuple d;let c:=e.length;exact len_tuple pl (by simp only[List.size_toArray] <;> lia) ⟨.int ys.length,H,I.tok _,⟨s.toks+1,by rw[Ys,c]⟩,q⟩
def zlf:bZ X (.builtin "len") (λxs H Q=>∃z,xs=[.str z]/\z.length<=sizeLine/\Q (.int z.length) H):=by intro ak s σ H xs us Q I r h;let⟨z,rfl,hz,q⟩:=h;let⟨u,rfl,t,rfl⟩:=qG r;let hn:=uY;exact len_str ⋯ ⟨.int z.length,H,I.tok _,⟨_,rfl⟩,q⟩
def jP:bZ X (.type "list") (λxs H Q=>∃p ys,xs=[.ref p]/\(aQ X.K H p ys\/aY X.K H p ys)/\∀l,H l=none->Q (.ref l) (upd H l<|.lst ys)):=by
 intro ak s σ H xs us Q I r h;let⟨p,ys,rfl,i,q⟩:=h;let⟨u,rfl,y⟩:=qG r;cases y;let fin:∀(its:List Li),aN ys its->ys.length<=sizeLine->∀(h':Lp) (d:Nat),(∀b o',s.heap.get? b=some o'->h'.get? b=some o') ->
   h'.get? s.heap.objs.size=some { cls:=.type "list",dict:=none,data:=.seq its.toArray d,slots := #[] }->EP X ak σ Q (.ref s.heap.objs.size) {s with heap:=h' }:=λits c hz h' d k e=>
  ⟨.ref s.heap.objs.size,_,I.laid (t':=s.toks) k (Yi _)<|show bN X.prog X.w _ h' _ (.lst ys) from⟨hz,its,d,c,e⟩,Z,q _<|I.hok.fresh<|Yi _⟩
 rcases i with i | i
 ·let⟨its,c,pl,hz⟩:=I.list i;let j:=c.length;let⟨o,v,m,n,x⟩:=pl.isList;exact call_list_seq p (.inl Z) v m x (λh' d k e=>fin its c hz h' d k e) (by simp only[List.size_toArray] <;> lia)
 ·let⟨its,c,pl,hz⟩:=I.tuple i;let j:=c.length;let⟨o,v,m,n,x⟩:=pl;exact call_list_seq p (.inr Z) v m x (λh' d k e=>fin its c hz h' d k e) (by simp only[List.size_toArray] <;> lia)
def iV:bZ X (.type "tuple") (λxs H Q=>∃p ys,xs=[.ref p]/\((aQ X.K H p ys/\∀l,H l=none->Q (.ref l) (upd H l<|.tup ys))\/(aY X.K H p ys/\Q (.ref p) H))):=by
 intro ak s σ H xs us Q I r h;let⟨p,ys,rfl,h⟩:=h;let⟨u,rfl,k⟩:=qG r;cases k;rcases h with⟨d,q⟩ | ⟨d,q⟩
 ·let⟨its,c,pl,hz⟩:=I.list d;let hlen:=c.length;refine call_tuple_list pl.isList (λh' m=>?_) (by simp only[List.size_toArray] <;> lia);let i:aK X ak σ H {s with heap:=h' }:=I.kept (t':=s.toks) m;let j:aK X ak σ (upd H h'.objs.size<|.tup ys) {s with heap:=h'.push { cls:=.type "tuple",data:=.seq its.toArray } }:=
   i.laid (t':=s.toks) (λb o e=>Ye _ e) (Yi _) (show bN X.prog X.w _ _ _ (.tup ys) from⟨hz,its,c,IsTup.new _ _⟩)
  exact⟨.ref h'.objs.size,_,j,Z,q _<|i.hok.fresh<|Yi _⟩
 ·let⟨its,c,pl,hz⟩:=I.tuple d;exact call_tuple_same pl ⟨.ref p,H,I,Z,q⟩
def GB(K:Lj)(T:String)(x:V)(H:Hp):Prop:=match x with
 | .str _=>T = "str"
 | .int _=>T = "int"
 | .ref p=>(T = "list"/\∃xs,aQ K H p xs)\/(T = "tuple"/\∃o,K.lookup p=some o/\o.cls=.type "tuple"/\o.dict=none) \/
   (T = "dict"/\((∃ap,H p=some (.dK ap))\/∃ap,H p=some (.dT ap)))\/(T = "set"/\∃S n,H p=some (.set S n))
 | _=>False
def IV{σ:St}(I:aK X ak σ H s)(r:aS x v)(ty:GB X.K T x H):s.TypeIs v T/\∀a,v=.ref a->∃ob,s.heap.get? a=some ob/\ob.dict=none:=by
 cases x with
 | str z=>
  let⟨t,rfl⟩:=r;cases (show T = "str" from ty);exact⟨typeIs_str s z t,λ_ e=>nomatch e⟩
 | int i=>
  let⟨t,rfl⟩:=r;cases (show T = "int" from ty);exact⟨typeIs_int s i t,λ_ e=>nomatch e⟩
 | ref p=>
  cases r;rcases ty with⟨rfl,xs,l⟩ | ⟨rfl,o,d,k,h⟩ | ⟨rfl,d⟩ | ⟨rfl,S,n,d⟩
  ·let⟨its,_,pl,_⟩:=I.list l;refine⟨pl.isList.typeIs,λa e=>?_⟩;cases e;let⟨o,n,e,c,h,_⟩:=pl;exact⟨o,e,h⟩
  ·refine⟨⟨o,I.kIn p o d,k⟩,λa e=>?_⟩;cases e;exact⟨o,I.kIn _ o d,h⟩
  ·let z:∃o,s.heap.get? p=some o/\o.ExactDict:=by
    rcases d with⟨ap,d⟩ | ⟨ap,d⟩
    ·let⟨_,_,_,_,o,_,_,e,ex,_⟩:=I.hok p _ d;exact⟨o,e,ex⟩
    ·let⟨_,_,_,_,o,_,_,e,ex,_⟩:=I.hok p _ d;exact⟨o,e,ex⟩
   let⟨o,e,ex⟩:=z;refine⟨⟨o,e,ex.1⟩,λa j=>?_⟩;cases j;exact⟨o,e,ex.2.1⟩
  ·let⟨o,_,_,_,e,ex,_⟩:=I.hok p _ d;refine⟨⟨o,e,ex.1⟩,λa j=>?_⟩;cases j;exact⟨o,e,ex.2.1⟩
 | _=>exact Jf ty
def GL(K:Lj)(T:String)(r:V->Lg->Hp->VK->Prop)(to:TE):TE:=λσ H Q=>to σ H λx H1=>GB K T x H1/\r x [] H1 Q
def RT(K:Lj)(T:String)(r:V->Lg->Hp->VK->Prop)(to:TE)(t:TA):TE:=λσ H Q=>to σ H λx H1=>GB K T x H1/\t σ H1 λxs H2=>r x xs H2 Q
variable{o e:Lo}{es:List Lo}{to:TE}{t:TA}{name:Lq}{apos cpos:Pos}{T id:String}{r:V->Lg->Hp->VK->Prop}
def D7(pa:PlainAttrs T)(i:Slot T name id)(k:typeOf (.builtin id)=pure (.type "method_descriptor"))(w:C5 X id r)(p:PE X o to)(d:↑(attributeBase o name X.env (eval o X.env)=eval o X.env)) (c:↑((apos.endLine==cpos.line)=true)):PE X (.Call (.Attribute o name apos) [] [] cpos) (GL X.K T r to):=by intro ak s σ H Q I h;refine wpAny_Call_method0_late d c<|bC (p s σ H _ I h) λv y j=>?_;let⟨x,H1,l,m,ty,n⟩:=j;let⟨q,u⟩:=IV l m ty;exact⟨T,id,pa,i,k,q,u,Calls.callWith_builtin rfl<|PySem.evalArgs_none<|w ak y σ H1 x [] v [] Q l m .nil n⟩
def nX(pa:PlainAttrs T)(j:Slot T name id)(n:typeOf (.builtin id)=pure (.type "method_descriptor"))(L:C5 X id r)(w:PE X o to)(N:PA X (e::es) t)(i:↑(attributeBase o name X.env (eval o X.env)=eval o X.env))
  (k:((backTo cpos<|starEach (e::es) X.env).all (λx => !x.1)&&(backToKw cpos<|keywordEach [] X.env).all (λx=>x.1.isSome)
   && decide ((e::es).length+([]:List Keyword).length+(if ([]:List Keyword).isEmpty then 0 else 1)<30))=true:=by rfl)
  (d:↑((apos.endLine==cpos.line)=true)) (z:↑(starEach (e::es) X.env=(false,eval e X.env)::starEach es X.env)) (c:↑((backTo cpos<|starEach es X.env).any (·.1)=false)):
  PE X (.Call (.Attribute o name apos) (e::es) [] cpos) (RT X.K T r to t):=by intro ak s σ H Q I h;refine wpAny_Call_method_late i k d rfl<|bC (w s σ H _ I h) λv C l=>?_;let⟨x,H1,u,q,ty,D⟩:=l;let⟨E,G⟩:=IV u q ty;exists T,id,pa,j,n,E,G;have p := @N cpos ak C σ H1 _ u D;rw[z]at p ⊢;refine Calls.callWith_builtin (by show (false||(backTo cpos<|starEach es X.env).any (·.1))=false;rw[c] <;> rfl)<|Calls.evalArgs_plain ?_;exact bC p λus A ⟨vs,M,y,B,J⟩=>L ak A σ M x vs v us Q y q B J
/- xs.append(e),list.index on a module's tuple .. are C5 facts of 06m -/
end
def xL(X:Cx)(id:String)(r:V->Lg->Hp->VK->Prop):Prop:=
 ∀ak s (σ:St) H x xs v us Q,aK X ak σ H s->aS x v->aN xs us->r x xs H Q ->
  ↥X (call (.builtin id) (v::us)) (EP X ak σ Q) X.xe s
theorem aN.one:∀{x} {us},aN [x] us->∃u,us=[u]/\aS x u
 | _,_,.cons r .nil=>⟨_,rfl,r⟩
theorem aN.two:∀{x y} {us},aN [x,y] us->∃u v,us=[u,v]/\aS x u/\aS y v:=λh=>by cases h with | cons r h=>cases h with | cons q h=>cases h;exact⟨_,_,rfl,r,q⟩
theorem aN.zero:∀{us},aN [] us->us=[]
 | _,.nil=>rfl
def aN.dropLast(h:aN xs us):aN xs.dropLast us.dropLast:=by
 induction h with
 | nil=>exact .nil
 | cons r t ih=>
  cases t with
  | nil=>exact .nil
  | cons q t'=>exact .cons r ih
def aN.reverse(h:aN xs us):aN xs.reverse us.reverse:=by
 induction h with
 | nil=>exact .nil
 | cons r t ih=>rw[List.reverse_cons,List.reverse_cons];exact aN.append ih<|.cons r .nil
theorem aN.rep(h:aN xs us):∀k,aN (List.replicate k xs).flatten (List.replicate k us).flatten
 | 0=>.nil
 | k+1=>by rw[List.replicate_succ,List.replicate_succ,List.flatten_cons,List.flatten_cons];exact aN.append h<|aN.rep h k
def ZQ{α:Type}(l:List α):l.eraseIdx (l.length-1)=l.dropLast:=by
 induction l with
 | nil=>rfl
 | cons a r ih=>
  cases r with
  | nil=>rfl
  | cons b r=>
   let e:(a::b::r).length-1=((b::r).length-1)+1:=by let h1:(a::b::r).length=r.length+2:=rfl;let h2:(b::r).length=r.length+1:=rfl;lia
   rw[e,List.eraseIdx_cons_succ,ih]
   all_goals rfl
theorem FU(its:List Li):∀k acc,
  List.foldl (λc b=>c++b) acc.toArray (List.replicate k its.toArray)=(acc++(List.replicate k its).flatten).toArray
 | 0,acc=>by simp
 | k+1,acc=>by
  let e:acc.toArray++its.toArray=(acc++its).toArray:=by simp
  let a:(acc++its)++(List.replicate k its).flatten=acc++(List.replicate (k+1) its).flatten:=by rw[List.replicate_succ,List.flatten_cons,List.append_assoc]
  rw[<- a,<- FU its k (acc++its),<- e,List.replicate_succ,List.foldl_cons]
section
variable{X:Cx}{ak:La}{σ:St}{H:Hp}{s:Lk}{l b:Lh}{xs ys zs:Lg}
def aK.lset{its its':List Li}(I:aK X ak σ H s)(h:H l=some (.lst xs))(e:s.heap.get? l=some { cls:=.type "list",data:=.seq its.toArray n }) (c:f its.toArray=its'.toArray) (d:aN ys its') (hz:ys.length<=sizeLine):aK X ak σ (upd H l<|.lst ys) {s with heap:=s.heap.update l<|Obj.mapSeq f,toks:=t' }:=by let q:=PySem.IsL.update e f;rw[c]at q;refine I.write (x:=l) (e:=l) (by rw[h];exact trivial) (.inl Z) (λb' u i a=>(Heap.get?_update_other s.heap (Obj.mapSeq f)<|Jc i).trans a) ⟨_,q⟩ ?_;exact⟨hz,its',_,d,q⟩
def aK.lnew(I:aK X ak σ H s)(a:aN ys its)(hz:ys.length<=sizeLine):aK X ak σ (upd H s.heap.objs.size<|.lst ys) {s with heap:=s.heap.push { cls:=.type "list",data:=.seq its.toArray },toks:=t' }:=
 I.laid (λ_ _ q=>Ye _ q) (Yi _) ⟨hz,its,0,a,Yk _ Z⟩
def aK.fresh(I:aK X ak σ H s):H s.heap.objs.size=none:=I.hok.fresh<|Yi _
def aK.lstM(I:aK X ak σ H s)(a:H l=some (.lst xs)):xs.length<=sizeLine/\∃its n,aN xs its/\xs.length=its.length/\s.heap.get? l=some { cls:=.type "list",data:=.seq its.toArray n }:=by let⟨z,its,n,r,e⟩:=I.hok l _ a;exact⟨z,its,n,r,r.length,e⟩
def MU(h:n<=sizeLine):Builtin.List.listTooLong n=false:=by unfold Builtin.List.listTooLong;exact Yw ⋯
end
section
variable{X:Cx}
inductive rK(x:V)(vs:Lg)(H:Hp)(Q:VK):Prop
 | mk (l xs y) (_:x=.ref l) (_:vs=[y]) (_:H l=some (.lst xs)) (_:xs.length<sizeLine) (_:Q .non (upd H l<|.lst<|xs++[y]))
def qJ:xL X "list.append" rK:=by intro ak s σ H x vs v us Q I c d h;let⟨l,xs,y,rfl,rfl,a,hz,q⟩:=h;cases c;let⟨u,rfl,b⟩:=d.one;let⟨z,its,n,r,hl,e⟩:=I.lstM a;refine call_meets F.slot_list_append ⟨_,e,Z⟩ F.entry_list_append (F.args_list_append_2 _ _) (PySem.list_append l its.toArray n u<|by rw[Ys];lia) ⟨e,?_⟩;refine⟨.non,_,I.lset (its':=its++[u]) a e (by simp) (r.append<|.cons b .nil) ?_,Z,q⟩;rw[Y6,List.length_singleton];lia
inductive rJ(x:V)(vs:Lg)(H:Hp)(Q:VK):Prop
 | mk (l b xs zs) (_:x=.ref l) (_:vs=[.ref b]) (_:H l=some (.lst xs)) (_:H b=some (.lst zs)) (_:xs.length+zs.length<=sizeLine) (_:Q .non (upd H l<|.lst<|xs++zs))
def X4:xL X "list.extend" rJ:=by
 intro ak s σ H x vs v us Q I o w h;let⟨l,b,xs,zs,rfl,rfl,d,i,hz,q⟩:=h;cases o;let⟨u,rfl,m⟩:=w.one;cases m;let⟨z,its,n,r,hl,e⟩:=I.lstM d;let⟨z2,a,p,k,hl2,j⟩:=I.lstM i;let hsz:its.toArray.size+a.toArray.size<=sizeLine:=by rw[Ys,Ys];lia
 let c:¬(!its.toArray.isEmpty&&Builtin.List.listTooLong (its.toArray.size+a.toArray.size))=true:=by rw[MU hsz,Bool.and_false];exact Yt
 refine call_meets F.slot_list_extend ⟨_,e,Z⟩ F.entry_list_extend (F.args_list_extend_2 _ _)
  (AutoSeq1.list_extend_list_list_0 l its.toArray n b a.toArray p c (by rw[Ys];lia) ⋯) ⟨e,j,?_⟩
 refine⟨.non,_,I.lset (its':=its++a) d e (by simp) (r.append k) ?_,Z,q⟩;rw[Y6];lia
inductive GT(x:V)(vs:Lg)(H:Hp)(Q:VK):Prop
 | mk (l xs y) (_:x=.ref l) (_:vs=[]) (_:H l=some (.lst xs)) (_:xs[xs.length-1]?=some y) (_:Q y (upd H l<|.lst xs.dropLast))
def z15:xL X "list.pop" GT:=by
 intro ak s σ H x vs v us Q I j o h;let⟨l,xs,y,rfl,rfl,c,m,q⟩:=h;cases j;let a:=o.zero;subst a;let⟨z,its,n,r,d,e⟩:=I.lstM c;let⟨u,k,i⟩:=r.get m;let b:its.toArray[its.toArray.size-1]?=some u:=by show its.toArray[its.length-1]?=some u;rw[<- Array.getElem?_toList,<- d];exact k
 refine call_meets F.slot_list_pop ⟨_,e,Z⟩ F.entry_list_pop (F.args_list_pop_1 _) (MeetsSeq.list_pop_last l its.toArray n u b<|by rw[Ys];lia) ⟨e,?_⟩;refine⟨y,_,I.lset (its':=its.dropLast) c e ?_ r.dropLast ?_,i,q⟩
 ·show its.toArray.eraseIdxIfInBounds (its.toArray.size-1)=its.dropLast.toArray;rw[Ys,List.eraseIdxIfInBounds_toArray,ZQ]
 ·rw[List.length_dropLast];lia
inductive pS(x:V)(vs:Lg)(H:Hp)(Q:VK):Prop
 | mk (l xs) (_:x=.ref l) (_:vs=[]) (_:H l=some (.lst xs)) (_:Q .non (upd H l<|.lst xs.reverse))
def Z5:xL X "list.reverse" pS:=by intro ak s σ H x vs v us Q I c d h;let⟨l,xs,rfl,rfl,b,q⟩:=h;cases c;let a:=d.zero;subst a;let⟨z,its,n,r,hl,e⟩:=I.lstM b;refine call_meets F.slot_list_reverse ⟨_,e,Z⟩ F.entry_list_reverse (F.args_list_reverse_1 _) (AutoSeq1.list_reverse_list_0 l its.toArray n<|by rw[Ys];lia) ⟨e,?_⟩;refine⟨.non,_,I.lset (its':=its.reverse) b e (by simp) r.reverse ?_,Z,q⟩;rw[List.length_reverse];lia
inductive vN(x:V)(vs:Lg)(H:Hp)(Q:VK):Prop
 | mk (l xs) (_:x=.ref l) (_:vs=[]) (_:H l=some (.lst xs)) (_:Q .non (upd H l<|.lst []))
def WM:xL X "list.clear" vN:=by intro ak s σ H x vs v us Q I c d h;let⟨l,xs,rfl,rfl,b,q⟩:=h;cases c;let a:=d.zero;subst a;let⟨z,its,n,r,hl,e⟩:=I.lstM b;refine call_meets F.slot_list_clear ⟨_,e,Z⟩ F.entry_list_clear (F.args_list_clear_1 _) (AutoSeq1.list_clear_list_0 l its.toArray n<|by rw[Ys];lia) ⟨e,?_⟩;exact⟨.non,_,I.lset (its':=[]) (ys:=[]) b e rfl .nil<|Y2 _,Z,q⟩
inductive GX(x y:V)(H:Hp)(Q:VK):Prop
 | mk (l b xs zs) (_:x=.ref l) (_:y=.ref b) (_:H l=some (.lst xs)) (_:H b=some (.lst zs)) (_:xs.length+zs.length<=sizeLine) (_:∀p,H p=none->Q (.ref p) (upd H p<|.lst<|xs++zs))
def BC:eS X (binaryOp .Add) GX:=by
 intro ak s σ H x y v u Q I o c h;let⟨l,b,xs,zs,rfl,rfl,m,d,hz,q⟩:=h;cases o;cases c;let⟨z,its,n,r,hl,e⟩:=I.lstM m;let⟨z2,a,n2,k,hl2,i⟩:=I.lstM d;refine PySem.P.add_list e i ?_ (by rw[Ys,Ys];lia);let j:its.toArray++a.toArray=(its++a).toArray:=by simp
 rw[j];exact⟨.ref _,_,I.lnew (t':=s.toks) (r.append k)<|by rw[Y6];lia,Z,q _ I.fresh⟩
inductive GS(x y:V)(H:Hp)(Q:VK):Prop
 | mk (l k xs) (_:x=.ref l) (_:y=.int k) (_:H l=some (.lst xs)) (_:-(2^63)<=k) (_:k<2^63) (_:xs.length*k.toNat<=sizeLine) (_:∀p,H p=none->Q (.ref p) (upd H p<|.lst (List.replicate k.toNat xs).flatten))
def E7{α:Type}(xs:List α)(k:Nat):(List.replicate k xs).flatten.length=k*xs.length:=by
 induction k with
 | zero=>simp
 | succ k ih=>rw[List.replicate_succ,List.flatten_cons,Y6,ih,Nat.succ_mul,Nat.add_comm]
def EF:eS X (binaryOp .Mult) GS:=by
 intro ak s σ H x y v u Q I G B h;let⟨l,k,xs,rfl,rfl,C,D,E,hz,q⟩:=h;cases G;let⟨t,rfl⟩:=B;let⟨z,its,n,r,A,e⟩:=I.lstM C;let d:its.toArray.size*k.toNat<=sizeLine:=by rw[Ys,<- A];exact hz
 let c:¬its.toArray.size*k.toNat > (2^63-1) / 8:=by
  have:(sizeLine:Nat)<=(2^63-1) / 8:=by decide
  lia
 let j:¬(!Builtin.List.listFitsIndex k)=true:=by rw[fitsIndex_both D E];exact Yt
 let b:¬Builtin.List.listTooLong (its.toArray.size*k.toNat)=true:=by rw[MU d];exact Yt
 let i:List.foldl (λo p=>o++p) #[] (List.replicate (if its.toArray.isEmpty=true then 0 else k.toNat) its.toArray)=(List.replicate k.toNat its).flatten.toArray:=by
  let w:∀m:Nat,List.foldl (λo p=>o++p) #[] (List.replicate m its.toArray)=(List.replicate m its).flatten.toArray:=λm=>by have:=FU its m [];rw[List.nil_append]at this;exact this
  rw[w];cases its with
  | nil=>simp
  | cons a r'=>rw[Yh<|by simp]
 refine wpAny_binaryOp_repeat_ref (T:="list") (U:="int") ∅ ⟨_,e,Z⟩ (λs'=>typeIs_int s' k t) noFill_list_mul F.fills_int_mul F.slot_int_rmul repeat_list F.slot_int_index.lookup
  (call_meets F.slot_int_rmul (typeIs_int s k t) F.entry_int_rmul (F.args_int_rmul_2 _ _) (int___rmul___int_list k t l its.toArray n)
   ⟨e,Z,⟨_,e,Z⟩,call_meets F.slot_list_mul ⟨_,e,Z⟩ F.entry_list_mul (F.args_list_mul_2 _ _) (AutoListH.list___mul___list_int_3 l its.toArray n k t j c b) ⟨e,?_⟩⟩)
 rw[i];exact⟨.ref _,_,I.lnew (t':=s.toks) (r.rep k.toNat)<|by rw[E7,Nat.mul_comm];exact hz,Z,q _ I.fresh⟩
end
end L2
namespace Att
open PySem PySem.W PySem.Calls PyProof.Rows
def zhe:∀c vs,WellAll P h vs (c.map WData.int)->IntsAre vs c:=by
 intro c;induction c with
 | nil=>
  intro vs w;rw[List.map_nil]at w;cases w;exact .nil
 | cons n c ih=>
  intro vs w;rw[Yz]at w;cases w with
  | cons a b=>
   cases a;exact .cons _ _<|ih _ b
def X6{l:OpenLaw}(w:l.most=some n){P:Params}{h:Lp}{args:List WData}{e:List Li}(c:l.row.toRowW.claim.pre args=true) (o:WellAll P h e args):∃a vs b,e=[Value.ref a]/\args=[WData.list<|b.map WData.int]/\h.get? a=some { cls:=.type "list",data:=.seq vs.toArray }/\IntsAre vs b/\b.length<=n:=by
 let m:WShape.hasAll [] args [.list .int]=true:=(pre_splitW c).1;let p:l.pre.holds [] { args:=args }=true:=(pre_splitW c).2;let⟨d,r,rfl,u,v⟩:=hasAllW_cons m;obtain rfl:=hasAllW_nil v;let⟨xs,rfl,s⟩:=hasW_list u;let⟨b,rfl⟩:=items_int s;let i:b.length<=n:=by
  unfold OpenLaw.pre at p;let k:(WTm.not<|.lt (.lit<|.int (n:Int))<|.len<|.arg 0).holds [] { args:=[.list<|b.map .int] }=true:=by let k:=(holds_andW p).1;rw[w]at k;exact k
  let j:=condW_of k<|w_not<|w_lt w_lit<|w_len_list<|w_arg rfl;rw[Yd]at j;refine Nat.le_of_not_lt λq=>?_;let x:(n:Int)<((b.length:Nat):Int):=by lia
  first
   | (rw[Yo x]at j;exact absurd j ∅)
   | (simp at j;lia)
 cases o with
 | cons w1 w2=>
  cases w2;cases w1 with
  | list ho hall=>exact⟨_,_,b,rfl,rfl,ho,zhe b _ hall,i⟩
def ZZ(l:OpenLaw)(args:List WData):l.row.toRowW.claim.post args (.bool true) args=true:=
 postW_of (r:=l.row.toRowW) (X:=(true==true))
  (show WShape.has [] (.bool true) .bool=true by first | rfl | decide | simp[WShape.has,WShape.arms,WShape.armsAll])
  (show (WTm.eq .res<|.lit<|.bool true).value [] { args:=args,res:=some<|.bool true,after:=args }=some (.bool<|true==true) from w_eq_bool (w_res rfl) w_lit) rfl
def attach_call{l:OpenLaw}{n:Nat}{q:Lm}{c:Lf}{E:Sa->Lp->Prop}{C:Ll->Lp->Prop}{d:DefRec}(J:l.most=some n) (v:d.params.defaults=[])(call:∀(w:Ll) (e b:Lk) (mg B:Sa) (m:Lh) (o:Obj) (A s i:Li) (a:Lh) (vs:List Li) (u:Lc),
   Ground q c [] E w e mg B b.heap->C w b.heap ->
   b.heap.get? m=some o->o.data=.func (docDef d.name d.params d.body d.scope A s i)->b.heap.CodeRec s d.name->mg d.name=some (.ref m) ->
   b.heap.get? a=some { cls:=.type "list",data:=.seq vs.toArray }->IntsAre vs u->u.length<=n->b.gens=#[] ->
   codeAny (model l.prog w) callerA (.call (.ref m) ⟨[.ref a],[]⟩) (λr s'=>r=.ok (.ret<|.bool true)/\OldK b.heap s'.heap/\s'.os=b.os/\AllBare s'.gens) b):
  WalkO q c E C l.row.toRowW d [] (λf vs=>PySem.call f vs):=by intro w e b mg B G Y m o A s i Q kV I M y D z P args vals as j hlay hrd x hlo;obtain rfl:Q=.none:=Dflts.none D v;obtain rfl:kV=.none:=Dflts.noKw D;let⟨a,vs,u,rfl,rfl,p,h,k⟩:=X6 J j x;refine enter_call<|codeAny_mono (call w e b mg B m o A s i a vs u G Y I (fd_plain M) y z p h k P) λr s' K=>?_;let⟨rfl,L,H,O⟩:=K;exact⟨.inl ⟨.bool true,.bool true,[],rfl,λ_=>rfl,.bool true,ZZ l _,λ_=>⟨List.Pairwise.nil,λ_ N=>(nomatch N)⟩⟩,L,H,O⟩
end Att
namespace L2
open PySem PySem.Spec PyProof.Rows
theorem MW:∀{vs} {ns},IntsAre vs ns->aN (ns.map V.int) vs
 | _,_,.nil=>.nil
 | _,_,.cons n t h=>.cons ⟨t,rfl⟩<|MW h
def eX(s:Ln)(j:Nat):Ln:=match s with
 | .ClassDef _ _ _ body _ _ _ _ _ _ _=>body.getD j<|.Pass ⟨0,0,0,0⟩
 | _=>.Pass ⟨0,0,0,0⟩
def oE(s:Ln):Arguments:=match s with
 | .FunctionDef _ a _ _ _ _ _ _ _ _=>a
 | _=>{ posonlyargs:=[],args:=[],vararg:=none,kwonlyargs:=[],kw_defaults:=[],kwarg:=none,defaults:=[] }
def mK(s:Ln):List Ln:=match s with
 | .FunctionDef _ _ b _ _ _ _ _ _ _=>b
 | _=>[]
def gP(s:Ln):Scope:=match s with
 | .FunctionDef _ _ _ _ _ _ sc _ _ _=>sc
 | _=>{ kind:=.function,names:=[],isGenerator:=false,isCoroutine:=false }
abbrev dG:kF:=λ_ _ _ _ _ _=>False
abbrev E0:XK:=λ_ _ _=>False
section
variable{X:Cx}
def pv(i:Nat){x:Lq}{a:Pos}(d:↑(X.N[i]?=some x))(c:CZ X.env.scope x:=by first | exact Or.inl rfl | exact Or.inr (Or.inl rfl) | exact Or.inr<|Or.inr rfl)(e:↑↑((x==("__debug__":Lq))=false))
  (b:↑↑((x==("__classdict__":Lq))=false)):PE X (.Name x a) (eZ i):=z17 d c e b
end
def cA{A B:Prop}(h:B):if false=true then A else B:=by rw[Yh Yt];exact h
def dQ{A B:Prop}(h:A):if true=true then A else B:=by rw[Yl Z];exact h
def aJ(H H':Hp):Prop:=∀b o,H b=some o->H' b=some o
def aJ.refl(H:Hp):aJ H H:=λ_ _ h=>h
def aJ.trans(a:aJ H H1)(b:aJ H1 H2):aJ H H2:=λc o h=>b c o<|a c o h
def aJ.free(e:aJ H H'){l:Lh}(h:H' l=Option.none):H l=Option.none:=by
 cases q:H l with
 | none=>rfl
 | some o=>
  rw[e l o q]at h;cases h
def aJ.seq{K:Lj}(e:aJ H H')(h:aQ K H a xs):aQ K H' a xs:=by
 rcases h with(h | ⟨o,h⟩) | h
 ·exact .inl<|.inl<|e _ _ h
 ·exact .inl<|.inr ⟨o,e _ _ h⟩
 ·exact .inr h
end L2
set_option Elab.async false
/- strict -/
/- ind2 -/
set_option linter.all false
set_option maxRecDepth 100000
namespace L2
open PySem PySem.Spec PyProof.Rows
abbrev kn(b:Bool):String:=if b then "tuple_iterator" else "list_iterator"
def dR(b:Bool)(h:Lp)(l:Lh)(items:Array Li):Prop:=match b with
 | true=>h.IsTuple l items
 | false=>h.IsList l items
def dC(b:Bool)(h:Lp)(it l:Lh)(i:Nat):Prop:=match b with
 | true=>h.IsTupleIter it l i
 | false=>h.IsListIter it l i
def dR.at(x:dR b h l items)(e:∀o,h.get? l=some o->h'.get? l=some o):dR b h' l items:=by
 cases b with
 | true=>let⟨o,a,r⟩:=x;exact⟨o,e o a,r⟩
 | false=>exact Heap.IsList.at x e
def dC.obj(x:dC b h it l i):∃o,h.get? it=some o/\∀v,o.data≠.cell v:=by cases b <;> (let⟨o,a,c,d⟩:=x;exact⟨o,a,λv z=>by rw[d]at z;cases z⟩)
def dC.at(x:dC b h it l i)(e:∀o,h.get? it=some o->h'.get? it=some o):dC b h' it l i:=by cases b <;> (let⟨o,a,r⟩:=x;exact⟨o,e o a,r⟩)
section
variable{prog:Lm}{w:Ll}{A:Around}{E:Va}{s:Lk}
def zjn(a:s.heap.IsTupleIter it t i)(l:s.heap.IsTuple t items)(k:items[i]?=some x)(j:∀h',h'.IsTupleIter it t (i+1)->Heap.SameBut it s.heap h'->Q x {s with heap:=h' }):⇑A (Builtin.SmallTypes.nextOf<|.ref it) Q E s:=by let⟨o,c,h,b⟩:=id a;let⟨ol,e,_,nl,d⟩:=l;unfold Builtin.SmallTypes.nextOf;refine Ya<|Jb (name:=Str.ofString "__next__") a.typeIs F.slot_tuple_iterator_next<|Y8 F.slot_tuple_iterator_next a.typeIs F.entry_tuple_iterator_next ?_<|F.args_tuple_iterator_next_1 _;show wpAny _ _ (field (.ref it) 0 >>= _) _ _ s;refine Ya<|Jl c b (x:=.ref t) rfl ?_;show wpAny _ _ (if (Value.ref t==Value.none)=true then _ else _) _ _ s;rw[Yh<|by intro z;cases z];show wpAny _ _ (field (.ref it) 1 >>= _) _ _ s;refine Ya<|Jl c b (x:=.int i 0) rfl ?_;show wpAny _ _ (seqItems? (.ref t) >>= _) _ _ s;refine Ya<|Js e d ?_;simp only[Int.toNat_natCast,k];refine Ya<|wpAny_setField c b (by simp)<|Yb ⟨x,Z,Yb<|j _ ⟨_,Heap.get?_update_self _ c<|Obj.isFreed_of_fields<|Obj.data_mapFields b _,(Obj.cls_mapFields ..).trans h,?_⟩<|Heap.SameBut.update ..⟩;rw[Obj.data_mapFields b];simp[rawInt]
def zk3(k:A.handled=none)(b:s.heap.IsTupleIter it t i)(p:s.heap.IsTuple t items)(n:items[i]?=none)(l:∀h' e,Heap.ExtBut it s.heap h'->(∃o,h'.get? e=some o/\o.cls=.type "StopIteration")->E (.ref e) {s with heap:=h' }):⇑A (Builtin.SmallTypes.nextOf<|.ref it) Q E s:=by
 let⟨o,d,hc,j⟩:=id b;let⟨ol,h,_,nl,c⟩:=p;unfold Builtin.SmallTypes.nextOf;refine Ya<|Jb (name:=Str.ofString "__next__") b.typeIs F.slot_tuple_iterator_next<|Y8 F.slot_tuple_iterator_next b.typeIs F.entry_tuple_iterator_next ?_<|F.args_tuple_iterator_next_1 _;show wpAny _ _ (field (.ref it) 0 >>= _) _ _ s;refine Ya<|Jl d j (x:=.ref t) rfl ?_;show wpAny _ _ (if (Value.ref t==Value.none)=true then _ else _) _ _ s;rw[Yh<|by intro z;cases z];show wpAny _ _ (field (.ref it) 1 >>= _) _ _ s;refine Ya<|Jl d j (x:=.int i 0) rfl ?_;show wpAny _ _ (seqItems? (.ref t) >>= _) _ _ s;refine Ya<|Js h c ?_;simp only[Int.toNat_natCast,n];refine Ya<|wpAny_rule<|Ya<|wpAny_setField d j (by simp) ?_;show wpAny _ _ (newExc (.type "StopIteration") [] >>= _) _ _ _;refine Ya ?_;simp only[newExc,newTuple];refine Ya<|Jo ?_ (by size_fits);refine Ya (m:=firstArgMember _ _)<|wpAny_of_eq (a:=Value.none) (by first | rfl | (simp only[firstArgMember];rfl)) ?_;refine Jo ?_ (by size_fits);simp only[raiseNew];refine Ya<|wpAny_handled ?_
 first | rw[show A.in1.handled=none from k] | rw[k]
 refine Ya<|Yb<|wpAny_throw ?_;exact l _ _ (((Heap.SameBut.update ..).extBut.push _).push _) ⟨_,Yk _ Z,Z⟩
def FV(a:dC b s.heap it l i)(c:dR b s.heap l items)(d:items[i]?=some x)(e:∀h',dC b h' it l (i+1)->Heap.SameBut it s.heap h'->Q x {s with heap:=h' }):⇑A (Builtin.SmallTypes.nextOf<|.ref it) Q E s:=by
 cases b with
 | true=>exact zjn a c d e
 | false=>exact wpAny_nextOf_list_item a c d e
def LV(d:A.handled=none)(a:dC b s.heap it l i)(c:dR b s.heap l items)(h:items[i]?=none)(j:∀h' e,Heap.ExtBut it s.heap h'->(∃o,h'.get? e=some o/\o.cls=.type "StopIteration")->E (.ref e) {s with heap:=h' }):⇑A (Builtin.SmallTypes.nextOf<|.ref it) Q E s:=by
 cases b with
 | true=>exact zk3 d a c h j
 | false=>exact wpAny_nextOf_list_end d a c h j
def KI(a:dR b s.heap l items)(c:Q (.ref s.heap.objs.size) {s with heap:=s.heap.push { cls:=.type<|kn b,data:=.fields #[.ref l,.int 0 0] } }):⇑A (pyIter<|.ref l) Q E s:=by
 cases b with
 | true=>exact wpAny_pyIter_tuple a c
 | false=>exact wpAny_pyIter_list a c
structure pZ(b1 b2:Bool)(z TI TO i1 i2 l1 l2:Lh)(f0:Li)(k:Nat)(h:Lp):Prop where
 zip:IsZip h z TI TO f0
 ti:IsPair h TI (.ref i1) (.ref i2)
 to:∃a b,IsPair h TO a b
 it1:dC b1 h i1 l1 k
 it2:dC b2 h i2 l2 k
def pZ.at{z TI TO c d i j:Lh}(x:pZ b1 b2 z TI TO c d i j f0 k h)(e:∀b∈[z,TI,TO,c,d],∀o,h.get? b=some o->h'.get? b=some o):pZ b1 b2 z TI TO c d i j f0 k h':=
 ⟨e z (by simp) _ x.zip,e TI (by simp) _ x.ti,let ⟨a,b,q⟩:=x.to;⟨a,b,e TO (by simp) _ q⟩,x.it1.at λo q=>e c (by simp) o q,x.it2.at λo q=>e d (by simp) o q⟩
def VG{z TI TO h i l m:Lh}{Q:Va}(D:ZipApart z TI TO h i l m)(S:pZ b1 b2 z TI TO h i l m .none k s.heap)(M:dR b1 s.heap l xs) (T:dR b2 s.heap m ys) (hx:xs[k]?=some x) (hy:ys[k]?=some y)(hQ:∀h',pZ b1 b2 z TI TO h i l m (rawInt s.heap.objs.size) (k+1) h'->IsPair h' s.heap.objs.size x y->h'.objs.size=s.heap.objs.size+1 ->
   (∀c o,c≠z->c≠TO->c≠h->c≠i->s.heap.get? c=some o->h'.get? c=some o)->Q (.ref s.heap.objs.size) {s with heap:=h' }):
  ⇑A (Builtin.«zip.__next__» ⟨[.ref z],[]⟩) (λfin s'=>∃v,fin=.done (.ret v)/\Q v s') E s:=by
 let⟨hz,n,⟨a,b,R⟩,h1,h2⟩:=S;show wpAny _ _ (field (.ref z) 2 >>= _) _ _ _;refine Ya<|Jl hz rfl (x:=.bool false) rfl ?_;show wpAny _ _ (field (.ref z) 3 >>= _) _ _ _;refine Ya<|Jl hz rfl (x:=.ref TI) rfl<|Ya<|Js n rfl ?_;show wpAny _ _ (Builtin.SmallTypes.ownedTupleIsFree (.ref z) >>= _) _ _ _;refine Ya ?_;unfold Builtin.SmallTypes.ownedTupleIsFree;refine Ya<|Jl hz rfl (x:=.none) rfl<|Yb ?_;simp only[if_true];refine Ya<|wpAny_rule<|Ya<|Jl hz rfl (x:=.ref TO) rfl ?_;refine Ya<|Jp hz (by simp) λL U e1=>?_;replace U:IsZip L z TI TO .ellipsis:=U;refine Ya ?_;simp only[List.zipIdx_cons,List.zipIdx_nil,List.forIn_cons,List.forIn_nil];refine Ya<|Ya<|wpAny_onRaise ?_;show wpAny _ _ (Builtin.SmallTypes.nextOf (.ref h) >>= _) _ _ _;let K:∀c o,c≠z->s.heap.get? c=some o->L.get? c=some o:=λc o p e=>e1.extBut c o p e;refine Ya<|FV (s:={s with heap:=L }) (h1.at λo q=>K h o D.i1z q) (M.at λo q=>K l o D.l1z q) hx λg2 t2 W=>Yb ?_;let k2:∀c o,c≠z->c≠h->s.heap.get? c=some o->g2.get? c=some o:=λc o p hd e=>W.extBut c o hd<|K c o p e;let p2:IsPair g2 TO a b:=k2 TO _ D.TOz D.TOi1 R;refine Ya<|Js p2 rfl<|Ya<|wpAny_updateSeq_pair p2 λP J G=>?_;replace J:IsPair P TO x b:=J;refine Ya<|wpAny_letGo<|Yb ?_;refine Ya<|Ya<|wpAny_onRaise ?_;show wpAny _ _ (Builtin.SmallTypes.nextOf (.ref i) >>= _) _ _ _;let O:∀c o,c≠z->c≠h->c≠TO->s.heap.get? c=some o->P.get? c=some o:=λc o p hd he e=>G.extBut c o he<|k2 c o p hd e;refine Ya<|FV (s:={s with heap:=P }) (h2.at λo q=>O i o D.i2z D.i12.symm D.TOi2.symm q) (T.at λo q=>O m o D.l2z D.l2i1 D.l2TO q) hy λg4 t4 B=>Yb ?_;let p4:IsPair g4 TO x b:=B.extBut _ _ D.TOi2 J;refine Ya<|Js p4 rfl<|Ya<|wpAny_updateSeq_pair p4 λd I r=>?_;replace I:IsPair d TO x y:=I;refine Ya<|wpAny_letGo<|Yb<|Yb ?_;refine Ya<|Js I rfl<|Ya<|wpAny_newTuple ?_;let sz:d.objs.size=s.heap.objs.size:=by rw[r.1,B.1,G.1,W.1,e1.1]
 let z5:IsZip d z TI TO .ellipsis:=r.extBut _ _ D.TOz.symm<|B.extBut _ _ D.i2z.symm<|G.extBut _ _ D.TOz.symm<|W.extBut _ _ D.i1z.symm U;let k5:∀c o,c≠z->c≠TO->c≠h->c≠i->s.heap.get? c=some o->d.get? c=some o:=λc o j C X Y e=>r.extBut _ _ C<|B.extBut _ _ Y<|O c o j X C e;let t5:dC b1 d h l (k+1):=t2.at λo q=>r.extBut _ _ D.TOi1.symm<|B.extBut _ _ D.i12<|G.extBut _ _ D.TOi1.symm q;let u5:dC b2 d i m (k+1):=t4.at λo q=>r.extBut _ _ D.TOi2.symm q;let gY:z<d.objs.size:=Yn z5;show wpAny _ _ (Builtin.SmallTypes.ownedTupleHandOut (.ref z) (.ref d.objs.size) >>= _) _ _ _;refine Ya ?_;unfold Builtin.SmallTypes.ownedTupleHandOut;let z6:IsZip (d.push { cls:=.type "tuple",data:=.seq #[x,y] }) z TI TO .ellipsis:=Ye _ z5;refine Ya<|Jp z6 (by simp) λg7 z7 N=>?_;replace z7:IsZip g7 z TI TO (rawInt d.objs.size):=z7;refine Jp z7 (by simp) λu H e8=>?_;replace H:IsZip u z TI TO (rawInt d.objs.size):=H;let up:∀c o,c≠z->d.get? c=some o->u.get? c=some o:=λc o j e=>e8.extBut _ _ j<|N.extBut _ _ j<|Ye _ e;let p8:IsPair u d.objs.size x y:=e8.extBut _ _ (Nat.ne_of_gt gY)<|N.extBut _ _ (Nat.ne_of_gt gY)<|Yk _ rfl;let s8:u.objs.size=d.objs.size+1:=by rw[e8.1,N.1,Heap.size_push]
 rw[sz]at H p8 s8;refine Yb ⟨_,Z,?_⟩;show Q (.ref d.objs.size) _;rw[sz];exact hQ u ⟨H,up _ _ D.TIz<|k5 TI _ D.TIz D.TITO D.TIi1 D.TIi2 n,⟨_,_,up _ _ D.TOz I⟩,t5.at λo q=>up _ o D.i1z q,u5.at λo q=>up _ o D.i2z q⟩ p8 s8 λc o j C X Y e=>up c o j<|k5 c o j C X Y e
def TK{z TI TO i l v H:Lh}(U:A.handled=none)(D:ZipApart z TI TO i l v H)(S:pZ b1 b2 z TI TO i l v H .none k s.heap)(u:dR b1 s.heap v xs) (R:dR b2 s.heap H ys) (r:xs[k]?=none\/ys[k]?=none)(Y:∀h' e,(∀c o,c≠z->c≠TO->c≠i->c≠l->s.heap.get? c=some o->h'.get? c=some o)->(∃o,h'.get? e=some o/\o.cls=.type "StopIteration")->E (.ref e) {s with heap:=h' }):⇑A (Builtin.«zip.__next__» ⟨[.ref z],[]⟩) Q E s:=by
 let⟨hz,L,⟨a,b,P⟩,h1,h2⟩:=S;show wpAny _ _ (field (.ref z) 2 >>= _) _ _ _;refine Ya<|Jl hz rfl (x:=.bool false) rfl ?_;show wpAny _ _ (field (.ref z) 3 >>= _) _ _ _;refine Ya<|Jl hz rfl (x:=.ref TI) rfl<|Ya<|Js L rfl ?_;show wpAny _ _ (Builtin.SmallTypes.ownedTupleIsFree (.ref z) >>= _) _ _ _;refine Ya ?_;unfold Builtin.SmallTypes.ownedTupleIsFree;refine Ya<|Jl hz rfl (x:=.none) rfl<|Yb ?_;simp only[if_true];refine Ya<|wpAny_rule<|Ya<|Jl hz rfl (x:=.ref TO) rfl ?_;refine Ya<|Jp hz (by simp) λC I e1=>?_;replace I:IsZip C z TI TO .ellipsis:=I;refine Ya ?_;simp only[List.zipIdx_cons,List.zipIdx_nil,List.forIn_cons,List.forIn_nil];refine Ya<|Ya<|wpAny_onRaise ?_;show wpAny _ _ (Builtin.SmallTypes.nextOf (.ref i) >>= _) _ _ _;let j:∀c o,c≠z->s.heap.get? c=some o->C.get? c=some o:=λc o y e=>e1.extBut c o y e;cases hx:xs[k]? with
 | none=>
  refine Ya<|LV (s:={s with heap:=C }) U (h1.at λo q=>j i o D.i1z q) (u.at λo q=>j v o D.l1z q) hx λJ e n m=>?_;let⟨K,d,h⟩:=m;let X:IsZip J z TI TO .ellipsis:=n _ _ D.i1z.symm I;let M:e≠z:=λq=>by subst q;rw[X]at d;cases d;simp at h
  exact Jp X (by simp) λG _ p=>Y G e (λc o B _ O _ q=>p.extBut _ _ B<|n _ _ O<|j c o B q) ⟨K,p.extBut _ _ M d,h⟩
 | some x=>
  let hy:ys[k]?=none:=by
   rcases r with q | q
   ·rw[hx]at q;cases q
   ·exact q
  refine Ya<|FV (s:={s with heap:=C }) (h1.at λo q=>j i o D.i1z q) (u.at λo q=>j v o D.l1z q) hx λJ t2 n=>Yb ?_;let k2:∀c o,c≠z->c≠i->s.heap.get? c=some o->J.get? c=some o:=λc o y T e=>n.extBut c o T<|j c o y e;let p2:IsPair J TO a b:=k2 TO _ D.TOz D.TOi1 P;refine Ya<|Js p2 rfl<|Ya<|wpAny_updateSeq_pair p2 λG p3 p=>?_;refine Ya<|wpAny_letGo<|Yb ?_;refine Ya<|Ya<|wpAny_onRaise ?_;show wpAny _ _ (Builtin.SmallTypes.nextOf (.ref l) >>= _) _ _ _;let N:∀c o,c≠z->c≠i->c≠TO->s.heap.get? c=some o->G.get? c=some o:=λc o y T m e=>p.extBut c o m<|k2 c o y T e;refine Ya<|LV (s:={s with heap:=G }) U (h2.at λo q=>N l o D.i2z D.i12.symm D.TOi2.symm q) (R.at λo q=>N H o D.l2z D.l2i1 D.l2TO q) hy λg4 e e4 m=>?_;let⟨K,d,h⟩:=m;let W:IsZip g4 z TI TO .ellipsis:=e4 _ _ D.i2z.symm<|p.extBut _ _ D.TOz.symm<|n.extBut _ _ D.i1z.symm I;let M:e≠z:=λq=>by subst q;rw[W]at d;cases d;simp at h
  exact Jp W (by simp) λg5 _ e5=>Y g5 e (λc o B c2 O c4 q=>e5.extBut _ _ B<|e4 _ _ c4<|N c o B O c2 q) ⟨K,e5.extBut _ _ M d,h⟩
end
abbrev A9(b1:Bool)(h:Lp)(l1:Lh):Lp:=h.push { cls:=.type<|kn b1,data:=.fields #[.ref l1,.int 0 0] }
abbrev A8(b1 b2:Bool)(h:Lp)(l1 l2:Lh):Lp:=(A9 b1 h l1).push { cls:=.type<|kn b2,data:=.fields #[.ref l2,.int 0 0] }
abbrev A7(b1 b2:Bool)(h:Lp)(l1 l2:Lh):Lp:=(A8 b1 b2 h l1 l2).push { cls:=.type "tuple",data:=.seq #[.ref h.objs.size,.ref (A9 b1 h l1).objs.size] }
abbrev A6(b1 b2:Bool)(h:Lp)(l1 l2:Lh):Lp:=(A7 b1 b2 h l1 l2).push { cls:=.type "tuple",data:=.seq #[.none,.none] }
abbrev uR(b1 b2:Bool)(h:Lp)(l1 l2:Lh):Lp:=(A6 b1 b2 h l1 l2).push { cls:=.type "zip",data:=.fields #[.none,.bool false,.bool false,.ref (A8 b1 b2 h l1 l2).objs.size,.ref (A7 b1 b2 h l1 l2).objs.size] }
def V8(b1 b2:Bool)(a b:Lh)(xs ys:Array Li):Meets (Builtin.«zip.__new__» ⟨[.type "zip",.ref a,.ref b],[]⟩) (λ_ R s=>dR b1 s.heap a xs/\dR b2 s.heap b ys /\
   R (.ok<|.ret<|.ref (A6 b1 b2 s.heap a b).objs.size) {s with heap:=uR b1 b2 s.heap a b }):=
 .of_wp λprog w A R s h=>by
  let⟨k,g,d,l,j⟩:=s;let⟨i,c,h⟩:=h;let hsub:=sub_zip;let m:dR b1 (Shared.heap ⟨k,g,d,l,j⟩) a xs:=i;let n:dR b2 (Shared.heap ⟨k.push { cls:=.type<|kn b1,data:=.fields #[.ref a,.int 0 0] },g,d,l,j⟩) b ys:=dR.at c λo e=>Ye _ e
  wp_walk using KI m,KI n
  exact⟨_,Z,h⟩
def U7{s:Lk}(l:dR b1 s.heap l1 xs)(b:dR b2 s.heap l2 ys)(h:∀h',pZ b1 b2 (s.heap.objs.size+4) (s.heap.objs.size+2) (s.heap.objs.size+3) s.heap.objs.size (s.heap.objs.size+1) l1 l2 .none 0 h'->(∀c o,s.heap.get? c=some o->h'.get? c=some o)->h'.objs.size=s.heap.objs.size+5 ->
   Q (.ref<|s.heap.objs.size+4) {s with heap:=h' }):⇑A (call (.type "zip") [.ref l1,.ref l2]) Q E s:=by
 refine callType_new F.called_zip ∅ (F.typeCall_zip_2 _ _) (F.newCall_zip_2 _ _) (λobj=>F.args_object_init_3 obj _ _) F.entry_zip_new (V8 b1 b2 l1 l2 xs ys) ⟨l,b,?_⟩;let d:(A9 b1 s.heap l1).objs.size=s.heap.objs.size+1:=Heap.size_push ..;let k:(A8 b1 b2 s.heap l1 l2).objs.size=s.heap.objs.size+2:=by rw[Heap.size_push,d]
 let j:(A7 b1 b2 s.heap l1 l2).objs.size=s.heap.objs.size+3:=by rw[Heap.size_push,k]
 let a:(A6 b1 b2 s.heap l1 l2).objs.size=s.heap.objs.size+4:=by rw[Heap.size_push,j]
 let q:(uR b1 b2 s.heap l1 l2).objs.size=s.heap.objs.size+5:=by rw[Heap.size_push,a]
 let dZ:∀{h:Lp} {o:Obj} {c:Lh} {u:Obj},h.get? c=some u->(h.push o).get? c=some u:=λe=>Ye _ e;let i:(uR b1 b2 s.heap l1 l2).get? (A6 b1 b2 s.heap l1 l2).objs.size=some _:=Yk _ rfl;let n:(uR b1 b2 s.heap l1 l2).get? (A7 b1 b2 s.heap l1 l2).objs.size=some _:=dZ<|Yk _ rfl;let m:(uR b1 b2 s.heap l1 l2).get? (A8 b1 b2 s.heap l1 l2).objs.size=some _:=dZ<|dZ<|Yk _ rfl;let p:(uR b1 b2 s.heap l1 l2).get? (A9 b1 s.heap l1).objs.size=some _:=dZ<|dZ<|dZ<|Yk _ rfl;let r:(uR b1 b2 s.heap l1 l2).get? s.heap.objs.size=some _:=dZ<|dZ<|dZ<|dZ<|Yk _ rfl;show _/\_;rw[k,j,a]at i;rw[d,k]at m;rw[j]at n;rw[d]at p;rw[a];refine⟨⟨_,i,Z⟩,h _ ⟨i,m,⟨_,_,n⟩,?_,?_⟩ (λc o x=>dZ<|dZ<|dZ<|dZ<|dZ x) q⟩
 ·cases b1 <;> exact⟨_,r,Z,Z⟩
 ·cases b2 <;> exact⟨_,p,Z,Z⟩
def zie{z TI TO d a e b:Lh}(D:ZipApart z TI TO d a e b)(S:pZ b1 b2 z TI TO d a e b .none k s.heap) (i:dR b1 s.heap e xs) (h:dR b2 s.heap b ys) (l:xs[k]?=some x) (r:ys[k]?=some y)(m:∀h',pZ b1 b2 z TI TO d a e b (rawInt s.heap.objs.size) (k+1) h'->IsPair h' s.heap.objs.size x y->h'.objs.size=s.heap.objs.size+1 ->
   (∀c o,c≠z->c≠TO->c≠d->c≠a->s.heap.get? c=some o->h'.get? c=some o)->Q (some<|.ref s.heap.objs.size) {s with heap:=h' }):⇑A (pyNext<|.ref z) Q E s:=by let j:s.TypeIs (.ref z) "zip":=⟨_,S.zip,Z⟩;unfold pyNext;refine Ya<|wpAny_attempt<|Jb (name:=Str.ofString "__next__") j F.slot_zip_next<|Y8 F.slot_zip_next j F.entry_zip_next ?_<|F.args_zip_next_1 _;exact VG D S i h l r λh' q p n u=>Yb<|m h' q p n u
def zim{z TI TO l d n i:Lh}(r:A.handled=none)(D:ZipApart z TI TO l d n i)(S:pZ b1 b2 z TI TO l d n i .none k s.heap) (m:dR b1 s.heap n xs) (h:dR b2 s.heap i ys) (a:xs[k]?=none\/ys[k]?=none)(x:∀h',(∀c o,c≠z->c≠TO->c≠l->c≠d->s.heap.get? c=some o->h'.get? c=some o)->Q none {s with heap:=h' }):⇑A (pyNext<|.ref z) Q E s:=by let p:s.TypeIs (.ref z) "zip":=⟨_,S.zip,Z⟩;unfold pyNext;refine Ya<|wpAny_attempt<|Jb (name:=Str.ofString "__next__") p F.slot_zip_next<|Y8 F.slot_zip_next p F.entry_zip_next ?_<|F.args_zip_next_1 _;refine TK r D S m h a λh' e v j=>?_;let⟨o,u,q⟩:=j;exact Ya<|wpAny_isInstance (T:="StopIteration") (b:=true) ⟨o,u,q⟩ isSubtype_stop<|Yb<|x _ v
section
variable{prog:Lm}{w:Ll}{A:Around}{R:Result->Lk->Prop}{s:Lk}
abbrev rY:Va:=λ_ _=>False
abbrev RN(ifs:List Lo)(env:Env):Sem Bool:=
 forIn ifs true λc r=>if r=true then do
   let ok <- isTrue c env (eval c env)
   pure (ForInStep.yield ok)
  else pure<|ForInStep.yield r
def ZH(J:Nat->Lk->Prop)(turn:∀n s,J n s->⇑A (pyNext it) (λr c=>match r with
   | none=>R (.ok .next) c
   | some v=>⇑A (letOwnedTupleGo tg it v) (λ_ i=>⇑A (assign tg env v) (λ_ e=>
     ⇑A (RN ifs env) (λok b=>
      if ok=true then
       ⇑A (eval elt env) (λx j=>⇑A (call (.builtin "list.append") [acc,x]) (λ_ k=>∃m,m<n/\J m k) rY j) rY b
      else ∃m,m<n/\J m b) rY e) rY i) rY c) rY s)
  (n:Nat) (h:J n s):codeAny (model prog w) A (.compLoop (.ListComp elt [⟨tg,iter,ifs,0⟩] scope pos) 0 it acc env) R s:=by
 let a:∀{α:Type} {t:Sem α} {Q:α->Lk->Prop} {E:Va} {s:Lk},⇑A t Q rY s->⇑A t Q E s:=λh=>wpAny_mono h (λ_ _ q=>q) λ_ _ z=>z.elim;refine codeAny_loop rfl J (λn s y=>?_) n h;show wpAny _ A ((compTurn (.ListComp elt [⟨tg,iter,ifs,0⟩] scope pos) 0 it acc env).onRaise _) _ _ s;refine wpAny_noted ?_;rw[compTurn_list];refine Ya<|wpAny_standAt<|Ya<|bC (a<|turn n s y) λr c d=>?_;cases r with
 | none=>exact Yb d
 | some v=>
  refine Ya<|bC (a d) λ_ i p=>?_;refine Ya<|bC (a p) λ_ e o=>?_;refine Ya<|bC (a o) λok b l=>?_;cases ok with
  | false=>exact Yb ⟨rfl,l⟩
  | true=>
   refine Ya<|Ya<|bC (a l) λx j B=>?_;exact Ya<|bC (a B) λ_ k u=>Yb<|Yb ⟨Z,u⟩
end
def jR(X:Cx)(N:Lf)(scope:Scope)(cl:List (Lq×Lh))(C:Lh)(s:Lk)(H:Hp)(fp:Le):Cx:=
 { X with N:=N,s₀:=s,H₀:=H,env:=compEnvC scope cl C X.env,outer:=X.stack,ex:=fp,fn:=λ_=>false,pn:=[],xe:=λ_ _=>False }
structure eK(X:Cx)(N:Lf)(scope:Scope)(cl:List (Lq×Lh))(mp:List (Option Nat)):Prop where
 clos:closureFor scope X.env=pure cl
 cell:∀y∈scope.names,y.2≠.cell
 kind:scope.kind=.function
 nms:∀y∈scope.names,y.2=.local->scope.names.lookup y.1=some .local
 nd:N.Nodup
 sub:∀x c,cl.lookup x=some c->X.env.cells.lookup x=some c
 has:∀x,((relabel scope X.env).names.lookup x=some .cell\/(relabel scope X.env).names.lookup x=some .free)->∃c,cl.lookup x=some c
 len:mp.length=N.length
 map:∀(i j:Nat) (x:Lq),mp[i]?=some (some j)->N[i]?=some x->X.N[j]?=some x/\(X.env.scope.names.lookup x=some .cell\/X.env.scope.names.lookup x=some .free) /\
  ((relabel scope X.env).names.lookup x=some .cell\/(relabel scope X.env).names.lookup x=some .free)
def mP(mp:List (Option Nat))(σ:St):St:=mp.map λo=>match o with
 | some j=>(σ[j]?).getD none
 | none=>none
section
variable{X:Cx}{ak:La}{σ:St}{H:Hp}{s:Lk}{N:Lf}{scope:Scope}{cl:List (Lq×Lh)}{mp:List (Option Nat)}{fp:Le}
def U1(B:eK X N scope cl mp)(I:aK X ak σ H s)(f:∀b∈fp,cH X ak H b)(lt:∀b∈fp,b<s.heap.objs.size){A:Lp}{t':Nat}(K:A.Ns s.heap.objs.size (λ_=>none))(k:∀b o,s.heap.get? b=some o->A.get? b=some o):aK (jR X N scope cl s.heap.objs.size s H fp) [] (mP mp σ) H {s with heap:=A,toks:=t' }:=by
 let fin:∀b∈fp,b∉lA X.stack:=λb w z=>by
  let⟨_,E,D,_⟩:=f b w;rcases Yj.mp (I.stkSub b z) with e | e
  ·exact E e
  ·exact D e
 let ok:(jR X N scope cl s.heap.objs.size s H fp).Ok:=by
  refine⟨I.ok.mod,B.kind,I.ok.glob,I.ok.blt,Yi _,λx y c A Y=>I.ok.inj x y c (B.sub x c A)<|B.sub y c Y,λx hx=>B.has x hx,(λx c hf=>nomatch (show false=true from hf)),I.ok.hd,I.ok.frames,.inl rfl,λb w=>?_,I.bs,Yr I.ok.bsz I.sz,λb o e w=>?_,fin,I.stack,I.stkFree⟩
  ·let⟨Q,E,D,P,L,U⟩:=f b w;exact⟨Y0<|lt b w,λx c e=>L x c<|B.sub x c e⟩
  ·let⟨Q,E,D,P,L,U⟩:=f b w;rcases P with z | z
   ·exact I.ok.noex b o e z
   ·exact absurd (Yf (Yn e)<|Yr I.ok.bsz z)<|Nat.lt_irrefl _
 exists ok,Z,I.bare,Un.kept k,⟨_,K,λi x v e1 n e3=>?_⟩,λx c e=>?_,I.hok.fresh<|Yi _,λx c e=>I.freeC x c<|B.sub x c e,λp hp=>absurd (show p∈([]:La) from hp)<|by simp,I.hok.kept k
 ·let G:∃j,mp[i]?=some (some j)/\σ[j]?=some (some v):=by
   unfold mP at n;rw[Ym]at n;cases q:mp[i]? with
   | none=>rw[q]at n;cases n
   | some o=>
    rw[q]at n;cases o with
    | none=>cases n
    | some j=>
     exists j,Z;let a:(σ[j]?).getD none=some v:=Jg n;cases r:σ[j]? with
     | none=>rw[r]at a;cases a
     | some z=>rw[r]at a;exact Jx some a
  let⟨j,T,hv⟩:=G;let⟨hN,h,M⟩:=B.map i j x T e1;let⟨m,hm,R⟩:=I.loc;let⟨u,r,l⟩:=R j x v hN hv<|h.elim (λz=>.inr<|.inl z) λz=>.inr<|.inr z;refine⟨u,r,.inr ⟨M,?_⟩⟩;rcases l with⟨z,_⟩ | ⟨_,c,S,z⟩
  ·let O:X.env.scope.names.lookup x=some .local:=z;rcases h with h | h
   ·rw[O]at h;cases h
   ·rw[O]at h;cases h
  ·let⟨W,C⟩:=B.has x M;let q:=B.sub x W C;rw[S]at q;cases q;let⟨o,J,d⟩:=z;exact⟨c,C,o,k c o J,d⟩
 ·let⟨v,o,J,d⟩:=I.cell x c<|B.sub x c e;exact⟨v,o,k c o J,d⟩
 ·show (mP mp σ).length=N.length;unfold mP;rw[Yd];exact B.len
def J6{C:Lh}{l:St}(I:aK X ak σ H s)(f:∀b∈fp,cH X ak H b)(A:s.heap.objs.size<=C)(J:aK (jR X N' scope cl C s H fp) [] l H' s') (i:Heap.SameBut C s'.heap h'):aK X ak σ H' { s' with heap:=h' }:=by
 let a:Un (lA X.stack) fp H H' s.heap s'.heap:=J.base;let m:∀b o,s.heap.get? b=some o->b≠C:=λb o e=>Y0<|Yf (Yn e) A;let u:Un (lA X.stack) fp H H' s.heap h':=by
  refine⟨λb o e n h d=>(i.2 b<|m b o e).trans (a.keep b o e n h d),λb o e n h d=>?_,a.free,λb o e d=>?_,a.tups,a.frzs,a.tbls⟩
  ·let⟨D,q⟩:=a.slot b o e n h d;exact⟨D,(i.2 b<|m b o e).trans q⟩
  ·let⟨y,q⟩:=a.there b o e d;exact⟨y,(i.2 b<|m b o e).trans q⟩
 let r:H' C=none:=J.free;let p:fV X.prog X.w H' h':=λb ob e=>by
  let k:fV X.prog X.w H' s'.heap:=J.hok;refine(k b ob e).stay (λc v j q=>(i.2 c ?_).trans q) (λ_ q=>q) λ_ _ q=>q;rintro rfl;rcases j with rfl | j
  ·rw[r]at e;cases e
  ·rw[r]at j;cases j
 refine I.call' (s':={ s' with heap:=h' }) (ch:=fp) ?_ u p J.bare λb h=>?_
 ·exact J.os
 ·let⟨f0,x,f2,E,z,B⟩:=f b h;exact⟨E,x,z,B⟩
end
def AI(X:Cx)(ifs:List Lo)(t:TT):Prop:=
 ∀⦃ak:La⦄ (s:Lk) (σ:St) (H:Hp) (Q:Bool->Hp->Prop),aK X ak σ H s->t σ H Q->↥X (RN ifs X.env) (TP X ak σ Q) X.xe s
def eH:TT:=λ_ H Q=>Q true H
def gZ:AI X [] eH:=λ_ _ _ H _ I h=>Yb ⟨H,I,h⟩
def FE(h:PT X c t):AI X [c] t:=λak s σ H Q I hw=>wpAny_tests_one<|h s σ H Q I hw
@[irreducible] def aX (mp:List (Option Nat)) (wi:TI) (g:TG) (tc:TT) (te:TE):TE:=λσ H Q=>wi σ H λJ H1=>∀D,H1 D=none->∃W:Nat->Nat->Lg->St->Hp->Prop,
 (∃m,W 0 m [] (mP mp σ)<|upd H1 D<|.lst [])/\∀i m ys σ' H',W i m ys σ' H'->H' D=some (.lst ys) /\
  ((J.stop i H'/\Q (.ref D) H')\/(J.go i H'/\ys.length<sizeLine/\∀x H2,J.yld i H' x H2->g x σ' H2 λσ2 H3=>tc σ2 H3 λb H4=>
   if b=true then te σ2 H4 λv H5=>H5 D=some (.lst ys)/\∃m',m'<m/\W (i+1) m' (ys++[v]) σ2 (upd H5 D<|.lst<|ys++[v])
   else ∃m',m'<m/\W (i+1) m' ys σ2 H4))
def AT(J:It)(D:Lh)(g:TG)(tc:TT)(te:TE)(Qf:Hp->Prop)(W:Nat->Nat->Lg->St->Hp->Prop):Prop:=∀i m ys σ' H',W i m ys σ' H'->H' D=some (.lst ys) /\
  ((J.stop i H'/\Qf H')\/(J.go i H'/\ys.length<sizeLine/\∀x H2,J.yld i H' x H2->g x σ' H2 λσ2 H3=>tc σ2 H3 λb H4=>
   if b=true then te σ2 H4 λv H5=>H5 D=some (.lst ys)/\∃m',m'<m/\W (i+1) m' (ys++[v]) σ2 (upd H5 D<|.lst<|ys++[v])
   else ∃m',m'<m/\W (i+1) m' ys σ2 H4))
def NX{X:Cx}{N:Lf}{scope:Scope}{cl:List (Lq×Lh)}{mp:List (Option Nat)}{Q tg L:Lo}{R:List Lo}{g:TG}{tc:TT}{te:TE}{a3:Pos}(B:eK X N scope cl mp)(hc:X.calm=true)(hg:∀C s H fp,PG (jR X N scope cl C s H fp) tg g) (ht:∀C s H fp,AI (jR X N scope cl C s H fp) R tc) (he:∀C s H fp,PE (jR X N scope cl C s H fp) Q te){ak:La} {σ:St} {q:Hp} {s:Lk} {fp:Le} {it D:Lh} {tn:Nat->Lp->Prop} {J:It} {Qf:Hp->Prop} {W:Nat->Nat->Lg->St->Hp->Prop} {m0:Nat} {E:Va} {RR:Lh->Result->Lk->Prop}(I:aK X ak σ q s) (f:∀b∈fp,cH X ak q b) (T:jT X.prog X.w X.K tg J fp it tn) (st:tn 0 s.heap) (w0:W 0 m0 [] (mP mp σ) q) (turn:AT J D g tc te Qf W)(b2:∀C H' σ' s',s.heap.objs.size<=C->aK (jR X N scope cl C s q fp) [] σ' H' s'->Qf H'->RR C (.ok .next) s'):↥X (newFunctionEnv scope X.env.globals cl [] X.env.qual none .none<|some X.env) (λM s4=>
   codeAny (model X.prog X.w) X.A (.compStart (.ListComp Q [⟨tg,L,R,0⟩] scope a3) 0 (.ref it) (.ref D) { M with scope:=relabel scope X.env }) (RR M.locals) s4) E s:=by
 let lt:∀b∈fp,b<s.heap.objs.size:=λb j=>let ⟨o,e,_⟩:=T.obj _ _ st b j;Yn e;refine wpAny_newFunctionEnv B.cell (by intro y hy;simp at hy) (λh3 a7 b0=>?_) B.kind;let k3:∀b o,s.heap.get? b=some o->h3.get? b=some o:=λb o e=>(b0.2 b<|Y0<|Yn e).trans (Ye _ e);let JB:=U1 (t':=s.toks+([]:List (Lq×Li)).length) B I f lt a7 k3;let a2:tn 0 h3:=T.keep _ _ _ st λb _ o e=>k3 b o e;let fin:∀b∈fp,b∉lA X.stack:=λb j z=>by
  let⟨_,f1,f2,_⟩:=f b j;rcases Yj.mp (I.stkSub b z) with e | e
  ·exact f1 e
  ·exact f2 e
 let G:∀{H':Hp},(∀b∈fp,H' b=none)->∀b∈fp,cH (jR X N scope cl s.heap.objs.size s q fp) [] H' b:=fun{H'} hn b j=>by let⟨f0,f1,f2,f3,f4,f5⟩:=f b j;exact⟨hn b j,Y0<|lt b j,fin b j,.inl j,λx c e=>f4 x c<|B.sub x c e,λp hp=>absurd (show p∈([]:La) from hp)<|by simp⟩
 let O:codeAny (model X.prog X.w) X.A (.compLoop (.ListComp Q [⟨tg,L,R,0⟩] scope a3) 0 (.ref it) (.ref D)<|compEnvC scope cl s.heap.objs.size X.env) (RR s.heap.objs.size) {s with heap:=h3,toks:=s.toks+([]:List (Lq×Li)).length }:=by
  refine ZH (λn s'=>∃i ys σ' H',aK (jR X N scope cl s.heap.objs.size s q fp) [] σ' H' s'/\tn i s'.heap/\(∀b∈fp,H' b=none)/\W i n ys σ' H') ?_ m0 ⟨0,[],_,q,JB,a2,λb j=>(f b j).1,w0⟩;rintro n s5 ⟨i,ys,l,H5,I5,a1,a5,w5⟩;let⟨hD,tr⟩:=turn i n ys l H5 w5;rcases tr with⟨a6,qn⟩ | ⟨go,hz,step⟩
  ·refine bC (T.done (jR X N scope cl s.heap.objs.size s q fp) Z rfl rfl hc i [] s5 l H5 rY I5 (G a5) a1 a6) λr s6 a=>?_;let⟨hr,I6⟩:=a;subst hr;exact b2 _ H5 l s6 (Yi _) I6 qn
  ·refine bC (T.item (jR X N scope cl s.heap.objs.size s q fp) Z rfl rfl hc i [] s5 l H5 rY I5 (G a5) a1 go) λr s6 a=>?_;let⟨u,hr,h6⟩:=a;subst hr;refine bC h6 λ_ s7 a=>?_;let⟨x,H7,I7,r7,y7,P,b1⟩:=a;let b4:=I7.pinned (G b1)<|T.obj _ _ P;let k:∀{ys':Lg} {h:St} {S:Hp} {U:Lk} {Y:Nat},aK (jR X N scope cl s.heap.objs.size s q fp) ([]++yA fp s7.heap) h S U->Y<n->W (i+1) Y ys' h S ->
     ∃m,m<n/\∃i ys σ' H',aK (jR X N scope cl s.heap.objs.size s q fp) [] σ' H' U/\tn i U.heap/\(∀b∈fp,H' b=none)/\W i m ys σ' H':=fun{ys' h S U Y} I8 hm w8=>by refine⟨Y,hm,i+1,ys',h,S,I8.unpinned,T.keep _ _ _ P λb j o e=>(I8.pin (b,o)<|Yg _<|Yg _<|zG j e).1,λb j=>?_,w8⟩;let⟨o,e,d⟩:=T.obj _ _ P b j;exact(I8.pin (b,o)<|Yg _<|Yg _<|zG j e).2.1
   refine bC (hg _ _ _ _ s7 l H7 x u _ b4 r7<|step x H7 y7) λ_ U a=>?_;let⟨h,S,I8,q8⟩:=a;refine bC (ht _ _ _ _ U h S _ I8 q8) λok s9 a=>?_;let⟨H9,I9,q9⟩:=a;cases ok with
   | false=>
    rw[Yh ∅]at q9;let⟨Y,hm,w9⟩:=q9;rw[Yh ∅];exact k I9 hm w9
   | true=>
    rw[Yl Z]at q9;rw[Yl Z];refine bC (he _ _ _ _ s9 h H9 _ I9 q9) λxv b5 a=>?_;let⟨v,a4,a9,a8,a0,Y,hm,w'⟩:=a;refine bC (qJ _ b5 h a4 (.ref D) [v] (.ref D) [xv] (λ_ H'=>H'=upd a4 D (.lst<|ys++[v])) a9 rfl (.cons a8 .nil) ⟨D,ys,v,Z,Z,a0,hz,Z⟩) λ_ s11 a=>?_;let⟨_,H11,b6,_,b3⟩:=a;subst b3;exact k b6 hm w'
 exact codeAny_compStart_list O<|T.self _ 0 _ _ _ a2 O
def iB{X:Cx}{N:Lf}{a:Scope}{cl:List (Lq×Lh)}{mp:List (Option Nat)}{d u c:Lo}{j:List Lo}{G:TI}{g:TG}{E:TT}{D:TE}{w:Pos}(B:eK X N a cl mp)(R:X.calm=true)(hi:PI X u c G) (hg:∀C s H fp,PG (jR X N a cl C s H fp) u g) (ht:∀C s H fp,AI (jR X N a cl C s H fp) j E) (P:∀C s H fp,PE (jR X N a cl C s H fp) d D)(L:∀x,foldedSetIterable c X.env x=pure x:=by intro _;rfl):PE X (.ListComp d [⟨u,c,j,0⟩] a w) (aX mp G g E D):=by
 intro ak s σ H Q I h;unfold aX at h;rw[eval_ListComp];refine wpAny_comprehension_free (use:=none) (cl:=cl) Z L B.clos B.kind B.nms<|bC (hi s σ H _ I h) λv s1 S=>bC S λitv p h2=>?_;let⟨it,fp,tn,J,H2,rfl,y,T,i,Y,q⟩:=h2;let n:∀b∈fp,b<p.heap.objs.size:=λb l=>let ⟨o,e,_⟩:=T.obj _ _ i b l;Yn e;let⟨W,⟨m0,w0⟩,turn⟩:=q _ y.fresh;let z:=y.lnew (ys:=[]) (its:=[]) (t':=p.toks) .nil<|Y2 _;let k:∀b∈fp,cH X ak (upd H2 p.heap.objs.size<|.lst []) b:=λb l=>by let⟨K,r⟩:=Y b l;exact⟨by rw[aV<|Y0<|n b l];exact K,r⟩
 refine Jo<|NX B R hg ht P z k T (T.keep _ _ _ i λb _ o e=>Ye _ e) w0 turn λC H' σ' s' O A U=>?_;let⟨m,hm,_⟩:=A.loc;exact⟨m,hm,λh' M=>⟨.ref _,H',J6 z k O A M,Z,U⟩⟩
def jU(K:Lj)(b:Bool)(H:Hp)(a:Lh)(xs:Lg):Prop:=match b with
 | true=>aY K H a xs
 | false=>aQ K H a xs
section
variable{X:Cx}{ak:La}{σ:St}{H:Hp}{s:Lk}{b:Bool}{a:Lh}{xs ys:Lg}
def aK.sq(I:aK X ak σ H s)(h:jU X.K b H a xs):∃its,aN xs its/\dR b s.heap a its.toArray:=by
 cases b with
 | true=>let⟨its,c,p,_⟩:=I.tuple h;exact⟨its,c,show s.heap.IsTuple a its.toArray from p⟩
 | false=>let⟨its,c,p,_⟩:=I.list h;exact⟨its,c,p.isList⟩
def aK.sq_inj(I:aK X ak σ H s)(h:jU X.K b H a xs)(h':jU X.K b H a ys):xs=ys:=by
 cases b with
 | true=>exact I.tuple_inj h h'
 | false=>exact I.list_inj h h'
def aK.turnedL{ch:Le}(I:aK X ak σ H s)(i:∀b∈ch,cH X ak H b)(k:∀b o,b∉ch->s.heap.get? b=some o->h'.get? b=some o):aK X ak σ H {s with heap:=h',toks:=t' }:=by
 let h:∀b u,H b=some u->b∉ch:=λb u e z=>by let q:=(i b z).1;rw[q]at e;cases e
 refine I.step (g':=s.gens) (d':=s.drawn) (ch:=ch) (λb C=>?_) (λb o _ _ d e _=>k b o d e) (λb o _ _ d e _=>⟨o.slots,k b o d e⟩) (λ_ _ _ _ n=>n)
  (λb o d e=>⟨o,k b o d e⟩) (λ_ _ e=>e) (λ_ _ _ e=>e) (λb ps e=>⟨#[],by rw[e];simp⟩) (λm x=>?_) (λb u e=>?_) I.bare
 ·let⟨f0,j,f2,y,w,A⟩:=i b C;exact⟨y,j,w,A⟩
 ·let⟨o,p,B,l,r⟩:=x;exact⟨o,p,B,k _ o (λz=>(i _ z).2.1 rfl) l,r⟩
 ·refine(I.hok b u e).stay (λc v d q=>k c v ?_ q) (λ_ q=>q) λ_ _ q=>q;rcases d with z | z
  ·rw[z];exact h b u e
  ·exact h c _ z
def aK.drawn{ch:Le}{p:Lh}(I:aK X ak σ H s)(x:∀b∈ch,cH X ak H b)(k:∀b o,b∉ch->s.heap.get? b=some o->h'.get? b=some o)(y:s.heap.objs.size<=p)(l:bN X.prog X.w (upd H p o) h' p o):aK X ak σ (upd H p o) {s with heap:=h',toks:=t' }:=by
 let h:∀b u,H b=some u->b∉ch:=λb u e z=>by let q:=(x b z).1;rw[q]at e;cases e
 let i:H p=none:=I.hok.fresh y;let J:∀b u,s.heap.get? b=some u->b≠p:=λb u e=>Y0<|Yf (Yn e) y;refine I.step (g':=s.gens) (d':=s.drawn) (ch:=ch) (λb j=>?_) (λb o _ _ d e _=>k b o d e) (λb o _ _ d e _=>⟨o.slots,k b o d e⟩) (λb o _ e n=>by rw[aV<|J b o e];exact n)
  (λb o d e=>⟨o,k b o d e⟩) (λb xs e=>by rw[aV<|eE e i];exact e) (λb o u e=>by rw[aV<|eE e i];exact e) (λb ps e=>⟨#[],by rw[aV<|eE e i,e];simp⟩) (λm K=>?_) (λb u e=>?_) I.bare
 ·let⟨f0,A,f2,L,D,E⟩:=x b j;exact⟨L,A,D,E⟩
 ·let⟨o,C,G,B,r⟩:=K;exact⟨o,C,G,k _ o (λz=>(x _ z).2.1 rfl) B,r⟩
 ·by_cases j:b=p
  ·subst j;rw[aW]at e;cases e;exact l
  ·rw[aV j]at e;refine(I.hok b u e).stay (λc v d q=>k c v ?_ q) (λc q=>by rw[aV<|eE q i];exact q) λc xs q=>by rw[aV<|eE q i];exact q
   rcases d with z | z
   ·rw[z];exact h b u e
   ·exact h c _ z
end
def HY(K:Lj)(b1 b2:Bool)(a1 a2:Lh):It:=
 ⟨λi H=>∃xs ys x y,jU K b1 H a1 xs/\jU K b2 H a2 ys/\xs[i]?=some x/\ys[i]?=some y,
  λi H v H'=>∃p x y,H p=none/\v=.ref p/\H'=upd H p (.tup [x,y])/\(∀xs,jU K b1 H a1 xs->xs[i]?=some x)/\∀ys,jU K b2 H a2 ys->ys[i]?=some y,
  λi H=>∃xs ys,jU K b1 H a1 xs/\jU K b2 H a2 ys/\(xs.length<=i\/ys.length<=i)⟩
def WZ{K:Lj}(b1 b2:Bool){z TI TO l j J G:Lh}(D:ZipApart z TI TO l j J G):jT P w K (.Tuple es ek pos) (HY K b1 b2 J G) [z,TI,TO,l,j] z (λi h=>pZ b1 b2 z TI TO l j J G .none i h) where
 mem:=by simp
 obj:=λi h st b c=>by
  simp only[List.mem_cons,List.not_mem_nil,or_false]at c;rcases c with rfl | rfl | rfl | rfl | rfl
  ·exact⟨_,st.zip,λv q=>by cases q⟩
  ·exact⟨_,st.ti,λv q=>by cases q⟩
  ·let⟨a,b,e⟩:=st.to;exact⟨_,e,λv q=>by cases q⟩
  ·exact st.it1.obj
  ·exact st.it2.obj
 keep:=λi h h' st k=>st.at k
 item:=by
  intro X Q hw C T i ak s σ H E I r st R;subst Q hw C;let⟨xs,ys,x,y,p,A,U,Y⟩:=R;let⟨us,N,M⟩:=I.sq p;let⟨ws,d,O⟩:=I.sq A;let⟨u,eu,rx⟩:=N.get U;let⟨v,ev,ry⟩:=d.get Y;refine zie D st M O (x:=u) (y:=v) ‹eu› ‹ev› λh' S p8 s8 k=>?_;refine⟨_,Z,wpAny_letOwnedTupleGo_zip S.zip λn z' m=>?_⟩;let gY:z<s.heap.objs.size:=Yn st.zip;let zp:s.heap.objs.size≠z:=Nat.ne_of_gt gY;let kk:∀b o,b∉[z,TO,l,j]->s.heap.get? b=some o->n.get? b=some o:=λb o c e=>by simp only[List.mem_cons,List.not_mem_nil,or_false,not_or]at c;exact m.extBut _ _ c.1<|k b o c.1 c.2.1 c.2.2.1 c.2.2.2 e
  let pp:IsPair n s.heap.objs.size u v:=m.extBut _ _ zp p8;refine⟨.ref s.heap.objs.size,upd H s.heap.objs.size<|.tup [x,y],I.drawn (t':=s.toks) (ch:=[z,TO,l,j]) (λb c=>r b ?_) kk (Yi _) ?_,Z,⟨_,x,y,I.fresh,Z,Z,λxs' L=>?_,λys' L=>?_⟩,?_,λb c=>?_⟩
  ·simp only[List.mem_cons,List.not_mem_nil,or_false]at c ⊢;rcases c with rfl | rfl | rfl | rfl <;> simp
  ·exact⟨by show 2<=sizeLine;rw[sizeLine_eq];decide,[u,v],.cons rx<|.cons ry .nil,⟨_,pp,Z,_,Z⟩⟩
  ·rw[I.sq_inj L p];exact U
  ·rw[I.sq_inj L A];exact Y
  ·exact⟨z',m.extBut _ _ D.TIz S.ti,(let ⟨a,b,e⟩:=S.to;⟨a,b,m.extBut _ _ D.TOz e⟩),S.it1.at λo q=>m.extBut _ _ D.i1z q,S.it2.at λo q=>m.extBut _ _ D.i2z q⟩
  ·obtain⟨o,e,_⟩:∃o,s.heap.get? b=some o/\∀v,o.data≠.cell v:=by
    simp only[List.mem_cons,List.not_mem_nil,or_false]at c;rcases c with rfl | rfl | rfl | rfl | rfl
    ·exact⟨_,st.zip,λv q=>by cases q⟩
    ·exact⟨_,st.ti,λv q=>by cases q⟩
    ·let⟨a,b,e⟩:=st.to;exact⟨_,e,λv q=>by cases q⟩
    ·exact st.it1.obj
    ·exact st.it2.obj
   rw[aV<|Y0<|Yn e];exact(r b c).1
 done:=by
  intro X Q hw C T i ak s σ H E I r st R;subst Q hw C;let⟨xs,ys,p,A,B⟩:=R;let⟨us,N,M⟩:=I.sq p;let⟨ws,d,O⟩:=I.sq A;let l1:=N.length;let l2:=d.length;refine zim (I.ok.hd T) D st M O ?_ λh' k=>⟨rfl,I.turnedL (t':=s.toks) (ch:=[z,TO,l,j]) (λb c=>r b ?_) λb o c e=>?_⟩
  ·rcases B with B | B
   ·exact .inl (by simp;lia)
   ·exact .inr (by simp;lia)
  ·simp only[List.mem_cons,List.not_mem_nil,or_false]at c ⊢;rcases c with rfl | rfl | rfl | rfl <;> simp
  ·simp only[List.mem_cons,List.not_mem_nil,or_false,not_or]at c;exact k b o c.1 c.2.1 c.2.2.1 c.2.2.2 e
 self:=λ_ _ _ _ _ st h=>wpAny_pyIter_zip st.zip h
def vU(K:Lj)(b1 b2:Bool)(ta:TA):TI:=λσ H R=>ta σ H λvs H1=>∃a1 a2,vs=[.ref a1,.ref a2]/\(∃xs,jU K b1 H1 a1 xs)/\(∃ys,jU K b2 H1 a2 ys)/\R (HY K b1 b2 a1 a2) H1
def SQ{X:Cx}{B:List Lo}{M:Nat}{j p i:Pos}(b1 b2:Bool){e1 c:Lo}{x:TA}(Q:Gl X "zip")(N:X.mg "zip"=none)(P:PA X [e1,c] x)(C:↑(starEach [e1,c] X.env=(false,eval e1 X.env)::starEach [c] X.env)) (v:↑((backTo i<|starEach [c] X.env).any (·.1)=false)):PI X (.Tuple B M j) (.Call (.Name "zip" p) [e1,c] [] i) (vU X.K b1 b2 x):=by
 intro ak s σ H R I h;refine wpAny_Call_Name_kw<|nZ I Q N boot_zip ?_ ∅ ∅;refine PyProof.Rows.callWith_type1 (bC (P ak s σ H _ I h) λus a ⟨vs,H1,d,D,O,E,G,⟨xs,J⟩,⟨ys,L⟩,q⟩=>?_) C v;subst G;let⟨u1,u2,rfl,m,n⟩:=D.two;cases m;cases n;let⟨us,ru,w⟩:=d.sq J;let⟨ws,rw',y⟩:=d.sq L;let u:O<a.heap.objs.size:=by cases b1 <;> (let⟨o,e,_⟩:=w;exact Yn e)
 let r:E<a.heap.objs.size:=by cases b2 <;> (let⟨o,e,_⟩:=y;exact Yn e)
 refine U7 w y λh' S k z5=>wpAny_pyIter_zip S.zip ?_;let A:aK X ak σ H1 { a with heap:=h' }:=d.kept (t':=a.toks) k;refine⟨a.heap.objs.size+4,[a.heap.objs.size+4,a.heap.objs.size+2,a.heap.objs.size+3,a.heap.objs.size,a.heap.objs.size+1],_,_,H1,Z,A,WZ b1 b2<|zipApart_new u r,S,λb z=>?_,q⟩;let l:a.heap.objs.size<=b:=by
  simp only[List.mem_cons,List.not_mem_nil,or_false]at z;rcases z with rfl | rfl | rfl | rfl | rfl
  ·exact Nat.le_add_right _ 4
  ·exact Nat.le_add_right _ 2
  ·exact Nat.le_add_right _ 3
  ·exact Yi _
  ·exact Nat.le_add_right _ 1
 exact d.fpOk l<|d.hok.fresh l
def aJ.upd{H:Hp}{p:Lh}{o:HO}(h:H p=none):aJ H (upd H p o):=λb u e=>by rw[aV<|eE e h];exact e
def aJ.updR(e:aJ H H')(h:H p=none):aJ H (L2.upd H' p o):=λb u q=>by rw[aV<|eE q h];exact e b u q
def aJ.seqT{K:Lj}(e:aJ H H')(h:aY K H a xs):aY K H' a xs:=by
 rcases h with(h | ⟨o,h⟩) | h
 ·exact .inl<|.inl<|e _ _ h
 ·exact .inl<|.inr ⟨o,e _ _ h⟩
 ·exact .inr h
def aJ.sqX{K:Lj}(e:aJ H H')(h:jU K b H a xs):jU K b H' a xs:=by
 cases b with
 | true=>exact e.seqT h
 | false=>exact e.seq h
structure gR(J:It)(H1:Hp)(n:Nat)(P:Nat->V->Hp->Prop):Prop where
 go:∀i H',aJ H1 H'->i<n->J.go i H'
 stop:∀H',aJ H1 H'->J.stop n H'
 yld:∀i H' x H2,aJ H1 H'->i<n->J.yld i H' x H2->aJ H' H2/\P i x H2
def oQ{K:Lj}(h:aQ K H1 a xs):gR (lF K a) H1 xs.length (λi x _=>xs[i]?=some x):=
 ⟨λi H' e b=>⟨xs,xs[i],e.seq h,by simp[b]⟩,λH' e=>⟨xs,e.seq h,Yi _⟩,λi H' x H2 e b y=>by let⟨rfl,q⟩:=y;exact⟨aJ.refl _,q xs<|e.seq h⟩⟩
def xF(lo:Int)(n:Nat):gR (wE lo n) H1 n (λi x _=>x=.int (lo+i)):=
 ⟨λi H' e a=>a,λH' e=>Yi _,λi H' x H2 e a y=>by let⟨rfl,q⟩:=y;exact⟨aJ.refl _,q⟩⟩
def WK{K:Lj}(b:jU K b1 H1 a1 xs)(a:jU K b2 H1 a2 ys):gR (HY K b1 b2 a1 a2) H1 (min xs.length ys.length) (λi v H=>∃p x y,v=.ref p/\H p=some (.tup [x,y])/\xs[i]?=some x/\ys[i]?=some y):=by
 refine⟨λi H' e d=>?_,λH' e=>⟨xs,ys,e.sqX b,e.sqX a,?_⟩,λi H' x H2 e d q=>?_⟩
 ·let k:i<xs.length:=by lia
  let h:i<ys.length:=by lia
  exact⟨xs,ys,xs[i],ys[i],e.sqX b,e.sqX a,by simp[k],by simp[h]⟩
 ·rcases Nat.le_total xs.length ys.length with q | q
  ·exact .inl ⋯
  ·exact .inr ⋯
 ·let⟨p,u,v,l,rfl,rfl,c,j⟩:=q;exact⟨aJ.upd l,p,u,v,Z,aW,c xs<|e.sqX b,j ys<|e.sqX a⟩
def FA{J:It}{H1:Hp}{n:Nat}{P:Nat->V->Hp->Prop}{g:TG}{R:TT}{O:TE}{Q:VK}{A:St}{D:Lh}(S:gR J H1 n P)(T:H1 D=none)(hn:n<=sizeLine)(z:St->Prop)(p:Nat->Bool)(F:Nat->V->Hp->Prop)(l:∀i v H H',aJ H H'->F i v H->F i v H') (k:∀i v H a ys ys',H a=some (.lst ys)->F i v H->F i v (upd H a<|.lst ys')) (h0:z A)(step:∀i x d o,i<n->z d->aJ H1 o->P i x o->∀(Ny:V->St->Hp->Prop) (Nn:St->Hp->Prop),(∀v c h,z c->aJ o h->F i v h->p i=true->Ny v c h)->(∀c r,z c->aJ o r->p i=false->Nn c r) ->
   g x d o λc E=>R c E λb r=>if b=true then O c r λv h=>Ny v c h else Nn c r)
  (hQ:∀H' ys,aJ H1 H'->H' D=some (.lst ys)->Paired (λi v=>F i v H') ((List.range n).filter p) ys->Q (.ref D) H'):
  ∃W:Nat->Nat->Lg->St->Hp->Prop,(∃m,W 0 m [] A<|upd H1 D<|.lst [])/\∀i m ys d H',W i m ys d H'->H' D=some (.lst ys) /\
  ((J.stop i H'/\Q (.ref D) H')\/(J.go i H'/\ys.length<sizeLine/\∀x o,J.yld i H' x o->g x d o λc E=>R c E λb r=>
   if b=true then O c r λv h=>h D=some (.lst ys)/\∃m',m'<m/\W (i+1) m' (ys++[v]) c (upd h D<|.lst<|ys++[v])
   else ∃m',m'<m/\W (i+1) m' ys c r)):=by
 exists λi m ys d H'=>m=n-i/\i<=n/\z d/\aJ H1 H'/\H' D=some (.lst ys)/\Paired (λj v=>F j v H') ((List.range i).filter p) ys,⟨n,Z,Y2 _,h0,aJ.upd T,aW,.nil⟩;rintro i m ys d H' ⟨rfl,hi,U,s,B,C⟩;exists B;let N:(List.range<|i+1).filter p=(List.range i).filter p++(if p i=true then [i] else []):=by rw[List.range_succ,List.filter_append];cases q:p i <;> simp[q]
 by_cases hlt:i<n
 ·refine .inr ⟨S.go i H' s hlt,?_,λx o y=>?_⟩
  ·let l1:=C.length;let Y:((List.range i).filter p).length<=(List.range i).length:=List.length_filter_le _ _;rw[List.length_range]at Y;lia
  ·let⟨u,hP⟩:=S.yld i H' x o s hlt y;refine step i x d o hlt U (s.trans u) hP _ _ (λv c h I K X L=>?_) λc r I M L=>?_
   ·let G:h D=some (.lst ys):=K _ _<|u _ _ B;refine⟨G,n-(i+1),⋯,Z,hlt,I,((s.trans u).trans K).updR T,aW,?_⟩;rw[N,Yl L];refine Paired.snoc (Paired.imp' (λj w q=>?_) C)<|k i v h D ys _ G X;exact k j w h D ys _ G<|l j w H' h (u.trans K) q
   ·refine⟨n-(i+1),⋯,Z,hlt,I,(s.trans u).trans M,M _ _<|u _ _ B,?_⟩;rw[N,Yh<|by rw[L];decide,List.append_nil];exact Paired.imp' (λj w q=>l j w H' r (u.trans M) q) C
 ·let e:i=n:=by lia
  subst e;exact .inl ⟨S.stop H' s,hQ H' ys s B C⟩
theorem Paired.eq_map{f:Nat->β}:∀{l} {ys},Paired (λi v=>v=f i) l ys->ys=l.map f
 | _,_,.nil=>rfl
 | _,_,.cons r t=>by rw[Yz,r,Paired.eq_map t]
def FX{J:It}{H1:Hp}{n:Nat}{P:Nat->V->Hp->Prop}{g:TG}{w:TT}{u:TE}{Q:VK}{l:St}{D:Lh}(S:gR J H1 n P)(E:H1 D=none)(z:n<=sizeLine)(k:St->Prop)(p:Nat->Bool)(f:Nat->V)(h0:k l)(step:∀i x c d,i<n->k c->aJ H1 d->P i x d->∀(o:V->St->Hp->Prop) (Nn:St->Hp->Prop),(∀a h,k a->aJ d h->p i=true->o (f i) a h)->(∀a j,k a->aJ d j->p i=false->Nn a j) ->
   g x c d λa r=>w a r λb j=>if b=true then u a j λv h=>o v a h else Nn a j)
  (I:∀H',aJ H1 H'->H' D=some (.lst<|((List.range n).filter p).map f)->Q (.ref D) H'):
  ∃W:Nat->Nat->Lg->St->Hp->Prop,(∃m,W 0 m [] l<|upd H1 D<|.lst [])/\∀i m ys c H',W i m ys c H'->H' D=some (.lst ys) /\
  ((J.stop i H'/\Q (.ref D) H')\/(J.go i H'/\ys.length<sizeLine/\∀x d,J.yld i H' x d->g x c d λa r=>w a r λb j=>
   if b=true then u a j λv h=>h D=some (.lst ys)/\∃m',m'<m/\W (i+1) m' (ys++[v]) a (upd h D<|.lst<|ys++[v])
   else ∃m',m'<m/\W (i+1) m' ys a j)):=
 FA S E z k p (λi v _=>v=f i) (λ_ _ _ _ _ q=>q) (λ_ _ _ _ _ _ _ q=>q) h0
  (λi x c d H y e M o Nn L s=>step i x c d H y e M o Nn (λa h B G K=>L _ a h B G rfl K) s)
  λH' ys e A C=>I H' e (by rw[<- Paired.eq_map C];exact A)
theorem OU{a:Env}:∀{names:List (Lq×NameKind)} {x},names.lookup x=some .free ->
  (names.map fun(n,k)=>if (k==NameKind.free&&a.scope.kind==.function&&a.kindOf n==some .cell) then(n,NameKind.cell) else(n,k)).lookup x=some .cell \/
  (names.map fun(n,k)=>if (k==NameKind.free&&a.scope.kind==.function&&a.kindOf n==some .cell) then(n,NameKind.cell) else(n,k)).lookup x=some .free
 | [],_,h=>by simp at h
 | (n,k)::r,x,h=>by
  have b := @OU a r x;rw[Yz];cases hx:x==n with
  | true=>
   simp only[List.lookup_cons,hx]at h;cases h;by_cases hc:(NameKind.free==NameKind.free&&a.scope.kind==.function&&a.kindOf n==some .cell)=true
   ·dsimp only;rw[Yl hc];simp only[List.lookup_cons,hx];exact .inl trivial
   ·dsimp only;rw[Yh hc];simp only[List.lookup_cons,hx];exact .inr trivial
  | false=>
   simp only[List.lookup_cons,hx]at h;by_cases hc:(k==NameKind.free&&a.scope.kind==.function&&a.kindOf n==some .cell)=true
   ·dsimp only;rw[Yl hc];simp only[List.lookup_cons,hx];exact b h
   ·dsimp only;rw[Yh hc];simp only[List.lookup_cons,hx];exact b h
def OP{b:Env}{a:List (Lq×NameKind)}(j:k=.cell\/k=.free)(i:∀y∈a,y.2≠.cell)(h:(a.map fun(n,k)=>if (k==NameKind.free&&b.scope.kind==.function&&b.kindOf n==some .cell) then(n,NameKind.cell) else(n,k)).lookup x=some k):∃y∈a,y.1=x/\y.2=.free:=by
 let m:=PySem.mem_of_lookup h;let⟨⟨n,d⟩,c,e⟩:=Jj.mp m;dsimp only at e;by_cases hc:(d==NameKind.free&&b.scope.kind==.function&&b.kindOf n==some .cell)=true
 ·rw[Yl hc]at e;simp only[Bool.and_eq_true,beq_iff_eq]at hc;cases e;exact⟨_,c,Z,hc.1.1⟩
 ·rw[Yh hc]at e;cases e;exists _,c,Z;rcases j with z | z
  ·exact absurd z<|i _ c
  ·exact z
def eK.of(d:closureFor scope X.env=pure cl)(a:∀y∈scope.names,y.2≠.cell)(b:scope.kind=.function)(e:∀y∈scope.names,y.2=.local->scope.names.lookup y.1=some .local) (m:N.Nodup) (sub:∀x c,cl.lookup x=some c->X.env.cells.lookup x=some c) (u:∀y∈scope.names,y.2=.free->∃c,cl.lookup y.1=some c) (len:mp.length=N.length)(h:∀(i j:Nat) x,mp[i]?=some (some j)->N[i]?=some x->X.N[j]?=some x/\(X.env.scope.names.lookup x=some .cell\/X.env.scope.names.lookup x=some .free)/\scope.names.lookup x=some .free):eK X N scope cl mp:=by
 refine⟨d,a,b,e,m,sub,λx p=>?_,len,λi j x n o=>?_⟩
 ·have:∃y∈scope.names,y.1=x/\y.2=.free:=p.elim (λz=>OP (.inl Z) a z) λz=>OP (.inr Z) a z;let⟨y,s,rfl,r⟩:=this;exact u y s r
 ·let⟨k,q,l⟩:=h i j x n o;exact⟨k,q,OU l⟩
def eK.plain(d:∀y∈scope.names,y.2≠.free)(b:∀y∈scope.names,y.2≠.cell)(a:scope.kind=.function)(c:∀y∈scope.names,y.2=.local->scope.names.lookup y.1=some .local)(e:N.Nodup):eK X N scope [] (N.map λ_=>none):=
 eK.of (closureFor_none d) b a c e (λ_ _ h=>nomatch h) (λy k h=>absurd h<|d y k) (Yd _) λi j x h=>by
  rw[Ym]at h;cases q:N[i]? with
  | none=>rw[q]at h;cases h
  | some z=>rw[q]at h;cases h
def qR(p:Int->Int->Bool)(φ:Int->Int->V)(xs ys:Lc):Lg:=((List.range<|min xs.length ys.length).filter λi=>p (xs.getD i 0)<|ys.getD i 0).map λi=>φ (xs.getD i 0)<|ys.getD i 0
def zJ{xs:Lc}{v:V}(h:(xs.map V.int)[i]?=some v):v=.int (xs.getD i 0):=by
 rw[Ym]at h;cases q:xs[i]? with
 | none=>rw[q]at h;cases h
 | some z=>
  rw[q]at h;let e:xs.getD i 0=z:=by rw[List.getD_eq_getElem?_getD,q];rfl
  rw[e];exact(Jg h).symm
def TY{σ:St}(h:σ.length=2)(x y:V):(σ.set 0<|some x).set 1 (some y)=[some x,some y]:=by
 match σ,h with
 | [_,_],_=>rfl
def xA{K:Lj}{b1 b2:Bool}{a b:Lh}{xs ys:Lc}{mp:List (Option Nat)}{r:TA}{m:TT}{k:TE}{σ:St}{H H1:Hp}{Q:VK}(p:Int->Int->Bool)(φ:Int->Int->V)(d:mp.length=2)(c:∀R,R [.ref a,.ref b] H1->r σ H R)(n:jU K b1 H1 a (xs.map V.int)) (o:jU K b2 H1 b (ys.map V.int)) (hz:xs.length<=1000)(h:∀(i:Nat) H' (R:Bool->Hp->Prop),R (p (xs.getD i 0)<|ys.getD i 0) H'->m [some<|.int<|xs.getD i 0,some<|.int<|ys.getD i 0] H' R)(j:∀(i:Nat) H' (R:VK),p (xs.getD i 0) (ys.getD i 0)=true->R (φ (xs.getD i 0)<|ys.getD i 0) H'->k [some<|.int<|xs.getD i 0,some<|.int<|ys.getD i 0] H' R)(A:∀D H',aJ H1 H'->H' D=some (.lst<|qR p φ xs ys)->Q (.ref D) H'):aX mp (vU K b1 b2 r) (rN K 2<|uT (bD 0)<|uT (bD 1) rO) m k σ H Q:=by
 unfold aX;refine c _ ⟨a,b,Z,⟨_,n⟩,⟨_,o⟩,λD z=>?_⟩;let W:=WK n o;rw[Yd,Yd]at W;refine FX W z (Yr (Nat.min_le_left _ _)<|Yr hz<|by rw[sizeLine_eq];decide) (λσ=>σ.length=2) (λi=>p (xs.getD i 0)<|ys.getD i 0) (λi=>φ (xs.getD i 0)<|ys.getD i 0) (by unfold mP;rw[Yd];exact d) ?_ λH' e y=>A D H' e y;rintro i v σ' H2 hi s e ⟨q,u,w,rfl,l,B,hw⟩ Ny Nn C x;rw[zJ B,zJ hw]at l;exists q,_,rfl,aY.of l,rfl,_,_,rfl,_,_,rfl,rfl;rw[TY s];refine h _ _ _ ?_;cases hp:p (xs.getD i 0) (ys.getD i 0) with
 | true=>rw[Yl rfl];exact j _ _ _ hp<|C _ _ rfl (aJ.refl _) hp
 | false=>rw[Yh ∅];exact x _ _ Z (aJ.refl _) hp
def wR{K:Lj}(j:X.K=K)(e:X.calm=true)(b:X.N=[x,y])(h:([x,y]:Lf).Nodup)(d:X.env.scope.names.lookup x=some .local)(c:X.env.scope.names.lookup y=some .local):PG X (.Tuple [.Name x px,.Name y py] k tp) (rN K 2<|uT (bD 0)<|uT (bD 1) rO):=by
 subst j;let a:X.N.Nodup:=by rw[b];exact h
 exact uZ e<|mM (wV (i:=0) a (by rw[b];rfl) (.inl d)<|.inr d)<|mM (wV (i:=1) a (by rw[b];rfl) (.inl c)<|.inr c) vD
def iT(c:X.N.Nodup)(b:X.N[i]?=some x)(a:X.env.scope.names.lookup x=some .local):PG X (.Name x px) (bD i):=wV c b (.inl a)<|.inr a
def NS(n:Int)(h:St->Prop)(p:Nat->Bool)(f:Nat->V)(hn0:0<=n)(hn:n<=1000)(o:∀R,R [.int n] H1->ta σ H R)(h0:h (mP mp σ))(step:∀(i:Nat) c d,(i:Int)<n->h c->aJ H1 d->∀(l:V->St->Hp->Prop) (Nn:St->Hp->Prop),(∀a k,h a->aJ d k->p i=true->l (f i) a k)->(∀a j,h a->aJ d j->p i=false->Nn a j) ->
   g (.int<|0+(i:Int)) c d λa q=>tc a q λb j=>if b=true then te a j λv k=>l v a k else Nn a j)
  (u:∀D H',aJ H1 H'->H' D=some (.lst<|((List.range n.toNat).filter p).map f)->Q (.ref D) H'):aX mp (RE ta) g tc te σ H Q:=by unfold aX;refine o _ ⟨n,Z,⋯,⋯,λD x=>?_⟩;refine FX (xF 0 n.toNat) x (Yr (show n.toNat<=1000 by lia)<|by rw[sizeLine_eq];decide) h p f h0 ?_ λH' e s=>u D H' e s;rintro i v c d hi r e rfl l Nn w m;exact step i c d ⋯ r e l Nn w m
def cG(CX:kF)(X:Cx)(E:St->XK):Prop:=∀ak (σ:St) H s e s',aK X ak σ H s->CX X.stack H s (E σ) e s'->X.xe e s'
def yK(sp:Sp)(dvs:Lg)(E:St->XK)(t:TA):TE:=λσ H Q=>t σ H λvs H1=>sp (vs++dvs) H1 Q<|E σ
def EB(C:Lh)(m:Lq)(sp:Sp)(dvs:Lg)(E:St->XK)(ta:TE)(t:TA):TE:=λσ H Q=>ta σ H λx H1=>rMe C m x H1<|t σ H1 λvs H2=>sp (x::(vs++dvs)) H2 Q<|E σ
def D8(C:Lh)(sp:Sp)(dvs:Lg)(E:St->XK)(t:TA):TE:=λσ H Q=>t σ H λvs H1=>∀x dx,H1 x=none->H1 dx=none->dx≠x ->
 sp (.ref x::(vs++dvs)) (upd (upd H1 dx<|.own x) x<|.ins C dx []) (λv H2=>v=.non/\Q (.ref x) H2) (E σ)
section
variable{X:Cx}{CX:kF}{k:Nat}{f C:Lh}{fd:FuncData}{ps:Lf}{sp:Sp}{dvs:Lg}{ds:List Li}{E:St->XK}{x m:Lq}{p pos apos:Pos}{e o:Lo}{es:List Lo}{ta:TE}{t:TA}
def B0{σ:St}(F:cJ X.prog X.w X.K X.mg X.base CX k f fd ps sp)(j:bM k X.A)(d:cY X.K fd ps ds)(l:aN dvs ds)(i:cG CX X E)(I:aK X ak σ H s) (r:aN vs us) (h:sp (vs++dvs) H Q (E σ)):↥X (call (.ref f) us) (EP X ak σ Q) X.xe s:=by
 let b:aN (vs++dvs) (us++ds):=r.append l;let c:(us++ds).length=ps.length:=by rw[<- b.length];exact F.len _ _ _ _ h
 refine wpAny_call<|codeAny_mono (F.run X.A X.stack s H ⟨us,[]⟩ (us++ds) (vs++dvs) Q (E σ) j I.env0 (d s us I.kIn c) b h) λr s' a=>?_;match r,a with
 | .error e,a=>exact i ak σ H s e s' I a
 | .ok (.ret u),a=>exact I.after a
 | .ok .next,a=>exact Jf a
 | .ok .brk,a=>exact Jf a
 | .ok .cont,a=>exact Jf a
def VF(F:cJ X.prog X.w X.K X.mg X.base CX k f fd ps sp)(y:bM k X.A)(z:Gl X x)(n:X.mg x=some (.ref f))(j:W.keepIn X.K (.ref f)=true)(d:cY X.K fd ps ds)(l:aN dvs ds)(i:cG CX X E)(v:PA X (e::es) t) (a:↑↑((x==("__debug__":Lq))=false)) (u:↑(starEach (e::es) X.env=(false,eval e X.env)::starEach es X.env)) (b:↑((backTo pos<|starEach es X.env).any (·.1)=false)):PE X (.Call (.Name x p) (e::es) [] pos) (yK sp dvs E t):=by intro ak s σ H Q I h;refine wpAny_Call_Name_kw<|wW I z n (W.callWith_K (h₀:=X.base) I.ok.mod.kin j (bC (v ak s σ H _ I h) λus s1 ⟨vs,H1,c,r,q⟩=>⟨c.kIn,?_⟩) u b) a;exact B0 F y d l i c r q
def W2{pl:Sem Bool}(B:PE X o ta)(c:iG X.K C)(y:rV X.K C m f)(F:cJ X.prog X.w X.K X.mg X.base CX k f fd ps sp)(G:bM k X.A)(R:cY X.K fd ps ds)(O:aN dvs ds)(L:cG CX X E)(P:PA X (e::es) t)(d:↑(starEach (e::es) X.env=(false,eval e X.env)::starEach es X.env)) (i:↑((backTo pos<|starEach es X.env).any (·.1)=false))
  (z:eval (.Call (.Attribute o m apos) (e::es) [] pos) X.env=(do
   let v <- eval o X.env
   standAt apos.atName
   let (f,first) <- holding [v] (getMethod v m pl)
   callWith pos f first (backTo pos<|starEach (e::es) X.env) (backToKw pos<|keywordEach [] X.env)):=by rfl):
  PE X (.Call (.Attribute o m apos) (e::es) [] pos) (EB C m sp dvs E ta t):=by intro ak s σ H Q I h;refine W.methodCall_KW (pl:=pl) (bC (B s σ H _ I h) λu J b=>?_) z;let⟨x,H1,n,N,a,dx,fs,ex,D,l,q⟩:=b;subst ex;obtain rfl:u=Value.ref a:=N;refine NV n D c y l<|W.callWith_K (first:=[.ref a]) (h₀:=X.base) I.ok.mod.kin y.kp (bC (P ak J σ H1 _ n q) λus s2 ⟨vs,H2,j,r,M⟩=>⟨j.kIn,?_⟩) d i;exact B0 (us:=.ref a::us) (vs:=.ref a::vs) F G R O L j (.cons rfl r) M
end
def OH:∀{us},aN (bs.map V.bl) us->LSm.BoolsAre us bs:=by
 induction bs with
 | nil=>intro us r;rw[List.map_nil]at r;cases r;exact .nil
 | cons n ns ih=>
  intro us r;rw[Yz]at r;cases r with
  | cons r1 r2=>cases (show _=Value.bool n from r1);exact .cons n<|ih r2
section
variable{X:Cx}
def YE(b:Bool)(e:X.calm=true):bZ X (.builtin "sum") (λxs H Q=>∃(a:Lh) (c:Lc),xs=[.ref a]/\jU X.K b H a (c.map V.int)/\Q (.int c.sum) H):=by
 intro ak s σ H xs us Q I r h;let⟨a,c,rfl,m,q⟩:=h;let⟨u,rfl,l⟩:=r.one;cases l;let⟨its,n,p⟩:=I.sq m;let i:=xE n;let⟨ys,k⟩:=i.allInts.items;let j:preSum (numAt ys) ys.size=c.sum:=by
  let e1:c=ys.toList.map (·.1):=by rw[<- nums_intItems,<- k];exact(show numsOf its.toArray.toList=c from i.numsOf).symm
  rw[preSum_eq,List.take_of_length_le<|by simp,e1]
 rw[k]at p;cases b with
 | true=>exact W.ktm_sumG (I.ok.hd e) p λh' o t' d=>⟨.int c.sum,H,I.kept d,⟨t',by rw[j]⟩,q⟩
 | false=>exact sum_intListG (I.ok.hd e) p λh' o t' d=>⟨.int c.sum,H,I.kept d,⟨t',by rw[j]⟩,q⟩
def YJ(m:X.calm=true):bZ X (.builtin "all") (λxs H Q=>∃(a:Lh) (bs:List Bool),xs=[.ref a]/\aQ X.K H a (bs.map V.bl)/\Q (.bl<|bs.all id) H):=by
 intro ak s σ H xs us Q I r h;let⟨a,bs,rfl,k,q⟩:=h;let⟨u,rfl,n⟩:=r.one;cases n;let⟨its,o,p,_⟩:=I.list k;let j:=OH o;let c:=p.isList;let lt:a<s.heap.objs.size:=by let⟨_,e,_⟩:=c;exact Yn e
 refine call_all_walk<|wpAny_pyIter_list c ⟨s.heap.objs.size,_,_,_,_,_,λi=>(bs[i]?).getD true,Z,Walks.list (A:=X.A.in1) (I.ok.hd m) _ a (Y0 lt) its.toArray,⟨⟨_,Yk _ rfl,Z,Z⟩,c.push _⟩,λi v s' Q' E' w d=>?_,λh' tk l=>?_⟩
 ·let⟨b,e,rfl⟩:=j.get i v ‹w›;simp only[e,Option.getD_some]at d;exact Jq d
 ·refine⟨.bl<|bs.all id,H,I.kept<|LSm.kept_iter l,?_,q⟩;show Value.bool _=Value.bool _;rw[Ys,j.length,LSm.range_all bs]
def YZ(m:X.calm=true):bZ X (.builtin "any") (λxs H Q=>∃(a:Lh) (bs:List Bool),xs=[.ref a]/\aQ X.K H a (bs.map V.bl)/\Q (.bl<|bs.any id) H):=by
 intro ak s σ H xs us Q I r h;let⟨a,bs,rfl,k,q⟩:=h;let⟨u,rfl,n⟩:=r.one;cases n;let⟨its,o,p,_⟩:=I.list k;let j:=OH o;let c:=p.isList;let lt:a<s.heap.objs.size:=by let⟨_,e,_⟩:=c;exact Yn e
 refine call_any_walk<|wpAny_pyIter_list c ⟨s.heap.objs.size,_,_,_,_,_,λi=>(bs[i]?).getD false,Z,Walks.list (A:=X.A.in1) (I.ok.hd m) _ a (Y0 lt) its.toArray,⟨⟨_,Yk _ rfl,Z,Z⟩,c.push _⟩,λi v s' Q' E' w d=>?_,λh' tk l=>?_⟩
 ·let⟨b,e,rfl⟩:=j.get i v ‹w›;simp only[e,Option.getD_some]at d;exact Jq d
 ·refine⟨.bl<|bs.any id,H,I.kept<|LSm.kept_iter l,?_,q⟩;show Value.bool _=Value.bool _;rw[Ys,j.length,LSm.range_any bs]
def RU:V->Option Li
 | .ty n=>some<|.type n
 | .ref a=>some<|.ref a
 | _=>none
def kU:bZ X (.builtin "isinstance") (λxs H Q=>∃x y t c b,xs=[x,y]/\RU y=some c/\gK X.K H x t/\W.kitOne X.K t c=some b/\Q (.bl b) H):=by
 intro ak s σ H xs us Q I r h;let⟨x,y,t,c,b,rfl,d,ty,e,q⟩:=h;let⟨u,v,rfl,k,i⟩:=r.two;let j:v=c:=by
  cases y with
  | ty n=>cases d;exact i
  | ref a=>cases d;exact i
  | _=>cases d
 subst j;exact YV I k ty e λtk=>⟨.bl b,H,I.tok _,Z,q⟩
end
def AV(i j:Int):Prop:=i.natAbs<2^4000/\j.natAbs<2^4000
def KS:eS X (binaryOp .Mult) (rI AV λi j=>.int<|i*j):=rM λ_ _ _ _ _ _ _ a q=>mul_int q<|PySem.IntMulOk.of_bits (Yr (intBits_le a.1) ∅)<|Yr (intBits_le a.2) ∅
structure uP(K:Lj)(C:Lh)(m:Lq)(f:Lh):Prop where
 ex:∃mc,W.readsIn K C mc=true/\W.findCls K (.ref C) mc m=some (.val<|.ref f)
 sp:W.specialIn K (.ref C) "__getattribute__"=some (some<|.builtin "type.__getattribute__")
 kp:W.keepIn K (.ref f)=true
section
variable{X:Cx}{CX:kF}{k:Nat}{f C:Lh}{fd:FuncData}{ps:Lf}{sp:Sp}{dvs:Lg}{ds:List Li}{E:St->XK}{x m:Lq}{p pos apos:Pos}{e o:Lo}{es:List Lo}{ta:TE}{t:TA}
def X1{pl:Sem Bool}(b:uP X.K C m f)(y:Gl X x)(G:X.mg x=some (.ref C))(F:cJ X.prog X.w X.K X.mg X.base CX k f fd ps sp)(n:bM k X.A)(L:cY X.K fd ps ds)(D:aN dvs ds)(z:cG CX X E)(J:PA X (e::es) t)(a:↑↑((x==("__debug__":Lq))=false)) (c:↑(starEach (e::es) X.env=(false,eval e X.env)::starEach es X.env)) (d:↑((backTo pos<|starEach es X.env).any (·.1)=false))
  (l:eval (.Call (.Attribute (.Name x p) m apos) (e::es) [] pos) X.env=(do
   let j <- eval (.Name x p) X.env
   standAt apos.atName
   let (f,first) <- holding [j] (getMethod j m pl)
   callWith pos f first (backTo pos<|starEach (e::es) X.env) (backToKw pos<|keywordEach [] X.env)):=by rfl):
  PE X (.Call (.Attribute (.Name x p) m apos) (e::es) [] pos) (yK sp dvs E t):=by intro ak s σ H Q I h;let⟨mc,u,B⟩:=b.ex;refine W.methodCall_KW (pl:=pl) (wW I y G (W.method_cls I.kIn b.sp<|W.cls_value I.kIn u B rfl ?_) a) l;let v:=I.tok<|s.toks+1;refine W.callWith_K (first:=[]) (h₀:=X.base) I.ok.mod.kin b.kp (bC (J ak _ σ H _ v h) λus s2 ⟨vs,H2,i,r,q⟩=>⟨i.kIn,?_⟩) c d;exact B0 F n L D z i r q
def M3{σ:St}(M:Mk X.K C f)(F:cJ X.prog X.w X.K X.mg X.base CX k f fd ps sp)(D:bM (k+1) X.A)(G:cY X.K fd ps ds)(q:aN dvs ds)(n:cG CX X E) (I:aK X ak σ H s) (r:aN vs us)(h:∀x dx,H x=none->H dx=none->dx≠x->sp (.ref x::(vs++dvs)) (upd (upd H dx<|.own x) x<|.ins C dx []) (λv y=>v=.non/\Q (.ref x) y) (E σ)):↥X (call (.ref C) us) (EP X ak σ Q) X.xe s:=by
 let c:=h (s.heap.objs.size+1) s.heap.objs.size (I.hok.fresh<|Nat.le_succ _) (I.hok.fresh<|Yi _)<|Y0<|Nat.lt_succ_self _;let b:=aK.made (C:=C) I;let d:aN (V.ref (s.heap.objs.size+1)::(vs++dvs)) (Value.ref (s.heap.objs.size+1)::(us++ds)):=.cons rfl<|r.append q;let i:(Value.ref (s.heap.objs.size+1)::us++ds).length=ps.length:=by let e:=d.length;rw[F.len _ _ _ _ c]at e;exact e.symm
 refine wpAny_call (VO (f:=f) I.kIn M.makes M.init (beq_iff_eq.mp M.fn) (codeAny_mono (F.run _ X.stack _ _ ⟨Value.ref (s.heap.objs.size+1)::us,[]⟩ (Value.ref (s.heap.objs.size+1)::(us++ds)) _ _ (E σ) (D.make C us [])
  (b.env0.make C us []) (G _ (Value.ref (s.heap.objs.size+1)::us) b.kIn i) d c) λr s' a=>?_))
 match r,a with
 | .error e,a=>exact n ak σ _ _ e s' b a
 | .ok (.ret u),a=>
  let⟨v,H',z,B,j,l⟩:=b.after a;subst j;exact⟨B,⟨V.ref<|s.heap.objs.size+1,H',z,Z,l⟩⟩
 | .ok .next,a=>exact Jf a
 | .ok .brk,a=>exact Jf a
 | .ok .cont,a=>exact Jf a
def XA(M:Mk X.K C f)(F:cJ X.prog X.w X.K X.mg X.base CX k f fd ps sp)(v:bM (k+1) X.A)(y:Gl X x)(l:X.mg x=some (.ref C))(d:cY X.K fd ps ds)(j:aN dvs ds)(i:cG CX X E)(u:PA X (e::es) t) (a:↑↑((x==("__debug__":Lq))=false)) (n:↑(starEach (e::es) X.env=(false,eval e X.env)::starEach es X.env)) (b:↑((backTo pos<|starEach es X.env).any (·.1)=false)):PE X (.Call (.Name x p) (e::es) [] pos) (D8 C sp dvs E t):=by intro ak s σ H Q I h;refine wpAny_Call_Name_kw<|wW I y l (W.callWith_K (h₀:=X.base) I.ok.mod.kin M.kp (bC (u ak s σ H _ I h) λus s1 ⟨vs,H1,c,r,q⟩=>⟨c.kIn,?_⟩) n b) a;exact M3 M F v d j i c r q
end
end L2
set_option Elab.async false
/- strict -/
/- ind2 -/
set_option linter.all false
set_option maxRecDepth 100000
namespace L2
open PySem PySem.Spec PyProof.Rows
structure bI(K:Lj)(x qual:Lq)(st:Ln)(dV:Li)(f:Lh)(fd:FuncData):Prop where
 ex:∃(oc:Li) (od:Option Lh) (kV doc pm:Li) (an:Option Lh) (cdv ct:Li) (osl:Array (Option Li)),
  fd=W.fnOf x qual (oE st) (mK st) (gP st) dV kV doc pm an cdv ct/\K.lookup f=some ⟨oc,od,.func fd,osl⟩/\W.codeIn K cdv qual=true
abbrev dN(K:Lj)(x:Lq)(s:Ln)(f:Lh)(d:FuncData):=bI K x x s .none f d
section
variable{P:Lm}{w:Ll}{K:Lj}{mg:Sa}{base:Lp}{x qual:Lq}{st:Ln}{dV:Li}{f:Lh}{fd:FuncData}{N ps:Lf}{k:Nat}{sp:Sp}
def bI.okN(F:bI K x qual st dV f fd)(S:eO N ps (gP st))(len:∀vs H Q E,sp vs H Q E->vs.length=ps.length)(c:∀b A a s H vs Q E,bM k (A.deeper<|envOfC qual (gP st) s.heap.objs.size f b)->sp vs H Q E ->
   ∃t,lE (mC dG P w K mg base N qual (gP st) f b A a s H E).nox (mK st) t/\t { nx:=λ_ H'=>Q .non H',rt:=Q } (start N vs) H):cJ P w K mg base dG (k+1) f fd ps sp:=by let⟨oc,od,kV,doc,pm,an,b,ct,osl,rfl,i,d⟩:=F.ex;refine RK i d S len λA a s H vs Q E j e=>?_;let⟨t,h,q⟩:=c b A a s H vs Q E j e;exact⟨t,h.nox,q⟩
def bI.binds(F:bI K x qual st .none f fd)(h:∀kV b c e a d us,us.length=ps.length->bindArgs (W.fnOf x qual (oE st) (mK st) (gP st) .none kV b c e a d) ⟨us,[]⟩=pure (ps.zip us)):cY K fd ps []:=by let⟨oc,od,kV,b,c,e,a,d,osl,rfl,lk,hcd⟩:=F.ex;exact .all<|h kV b c e a d
def bI.bindsD(F:bI K x qual st (.ref T) f fd)(q:K.lookup T=some o)(l:o.data=.seq items n)(h:∀kV b c d a e us,(us++ds).length=ps.length->∃k,bindArgs (W.fnOf x qual (oE st) (mK st) (gP st) (.ref T) kV b c d a e) ⟨us,[]⟩=seqItems? (.ref T) >>= k/\k (some items)=pure (ps.zip<|us++ds)):cY K fd ps ds:=by let⟨oc,od,kV,b,c,d,a,e,osl,rfl,lk,hcd⟩:=F.ex;intro s us p i;let⟨k,j,m⟩:=h kV b c d a e us i;exact BindsTo.of_defaults (T:=T) Z (p _ _ q) l j m
def yN{kV b d a e:Li}(l:K.lookup f=some ⟨oc,od,.func<|W.fnOf x qual (oE st) (mK st) (gP st) dV kV b d an a e,osl⟩)(c:W.codeIn K a qual=true):bI K x qual st dV f (W.fnOf x qual (oE st) (mK st) (gP st) dV kV b d an a e):=⟨⟨oc,od,kV,b,d,an,a,e,osl,Z,l,c⟩⟩
end
structure AU(P:Lm)(w:Ll)(K:Lj)(mg:Sa)(base:Lp)(CX:kF)(k:Nat)(x:Lq)(ps:Lf)(ds:List Li)(sp:Sp):Prop where
 ex:∃f fd,cJ P w K mg base CX k f fd ps sp/\cY K fd ps ds/\W.keepIn K (.ref f)=true/\mg x=some (.ref f)
structure cQ(P:Lm)(w:Ll)(K:Lj)(mg:Sa)(base:Lp)(CX:kF)(k:Nat)(C:Lh)(m:Lq)(ps:Lf)(ds:List Li)(sp:Sp):Prop where
 ex:∃f fd,cJ P w K mg base CX k f fd ps sp/\cY K fd ps ds/\rV K C m f
 cl:iG K C
structure C7(P:Lm)(w:Ll)(K:Lj)(mg:Sa)(base:Lp)(CX:kF)(k:Nat)(x:Lq)(C:Lh)(ps:Lf)(ds:List Li)(sp:Sp):Prop where
 ex:∃f fd,cJ P w K mg base CX k f fd ps sp/\cY K fd ps ds/\Mk K C f
 at_:mg x=some (.ref C)
structure sH(P:Lm)(w:Ll)(K:Lj)(mg:Sa)(base:Lp)(CX:kF)(k:Nat)(x:Lq)(m:Lq)(ps:Lf)(ds:List Li)(sp:Sp):Prop where
 ex:∃C f fd,cJ P w K mg base CX k f fd ps sp/\cY K fd ps ds/\uP K C m f/\mg x=some (.ref C)
def eW:cG dG X (λ_=>E0):=λ_ _ _ _ _ _ _ h=>h.elim
section
variable{X:Cx}{CX:kF}{k j:Nat}{C:Lh}{ps:Lf}{sp:Sp}{dvs:Lg}{ds:List Li}{E:St->XK}{x m:Lq}{p pos apos:Pos}{e o:Lo}{es:List Lo}{ta:TE}{t:TA}
def AB(c:AU X.prog X.w X.K X.mg X.base CX k x ps ds sp)(u:bM j X.A)(i:cG CX X E)(l:aN dvs ds)(s:PA X (e::es) t)(n:↑↑(k<=j))(v:↑(Gl X x))
  (a:↑↑((x==("__debug__":Lq))=false)) (r:↑(starEach (e::es) X.env=(false,eval e X.env)::starEach es X.env)) (d:↑((backTo pos<|starEach es X.env).any (·.1)=false)):
  PE X (.Call (.Name x p) (e::es) [] pos) (yK sp dvs E t):=by let⟨f,fd,F,h,b,q⟩:=c.ex;exact VF F (u.mono n) v q b h l i s a r d
def eV{pl:Sem Bool}(c:cQ X.prog X.w X.K X.mg X.base CX k C m ps ds sp)(r:PE X o ta)(u:bM j X.A)(h:cG CX X E)(n:aN dvs ds)(s:PA X (e::es) t)(l:↑↑(k<=j))
  (a:↑(starEach (e::es) X.env=(false,eval e X.env)::starEach es X.env)) (b:↑((backTo pos<|starEach es X.env).any (·.1)=false))
  (i:eval (.Call (.Attribute o m apos) (e::es) [] pos) X.env=(do
   let d <- eval o X.env
   standAt apos.atName
   let (f,first) <- holding [d] (getMethod d m pl)
   callWith pos f first (backTo pos<|starEach (e::es) X.env) (backToKw pos<|keywordEach [] X.env)):=by rfl):
  PE X (.Call (.Attribute o m apos) (e::es) [] pos) (EB C m sp dvs E ta t):=by let⟨f,fd,F,v,q⟩:=c.ex;exact W2 r c.cl q F (u.mono l) v n h s a b i
def sO{pl:Sem Bool}(c:cQ X.prog X.w X.K X.mg X.base CX k C m ps ds sp)(y:PE X o ta)(B:bM j X.A)(D:cG CX X E)(J:aN dvs ds)(v:↑↑(k<=j))
  (r:eval (.Call (.Attribute o m apos) [] [] pos) X.env=(do
   let i <- eval o X.env
   standAt apos.atName
   let (f,first) <- holding [i] (getMethod i m pl)
   callWith pos f first (backTo pos<|starEach [] X.env) (backToKw pos<|keywordEach [] X.env)):=by rfl):
  PE X (.Call (.Attribute o m apos) [] [] pos) (EB C m sp dvs E ta hC):=by let⟨f,fd,F,L,n⟩:=c.ex;intro ak s σ H Q I h;refine W.methodCall_KW (pl:=pl) (bC (y s σ H _ I h) λu s1 b=>?_) r;let⟨x,H1,d,G,a,dx,fs,ex,z,l,q⟩:=b;subst ex;obtain rfl:u=Value.ref a:=G;refine NV d z c.cl n l ?_;exact W.callWith_K0 (first:=[.ref a]) d.kIn n.kp<|B0 (us:=[.ref a]) (vs:=[.ref a]) F (B.mono v) L J D d (.cons rfl .nil) q
def xZ(c:C7 X.prog X.w X.K X.mg X.base CX k x C ps ds sp)(i:bM j X.A)(l:cG CX X E)(r:aN dvs ds)(n:PA X (e::es) t)(q:↑↑(k+1<=j))(s:↑(Gl X x))
  (a:↑↑((x==("__debug__":Lq))=false)) (h:↑(starEach (e::es) X.env=(false,eval e X.env)::starEach es X.env)) (b:↑((backTo pos<|starEach es X.env).any (·.1)=false)):
  PE X (.Call (.Name x p) (e::es) [] pos) (D8 C sp dvs E t):=by let⟨f,fd,F,u,d⟩:=c.ex;exact XA d F (i.mono q) s c.at_ u r l n a h b
def z0y(c:C7 X.prog X.w X.K X.mg X.base CX k x C ps ds sp)(q:bM j X.A)(i:cG CX X E)(n:aN dvs ds)(l:↑↑(k+1<=j))(r:↑(Gl X x))(a:↑↑((x==("__debug__":Lq))=false)):PE X (.Call (.Name x p) [] [] pos) (D8 C sp dvs E hC):=by let⟨f,fd,F,d,b⟩:=c.ex;intro ak s σ H Q I h;refine wpAny_Call_Name_kw<|wW I r c.at_ ?_ a;exact W.callWith_K0 I.kIn b.kp<|M3 (us:=[]) b F (q.mono l) d n i I .nil h
def RH{pl:Sem Bool}(c:sH X.prog X.w X.K X.mg X.base CX k x m ps ds sp)(y:bM j X.A)(n:cG CX X E)(s:aN dvs ds)(v:PA X (e::es) t)(r:↑↑(k<=j))(z:↑(Gl X x))
  (a:↑↑((x==("__debug__":Lq))=false)) (b:↑(starEach (e::es) X.env=(false,eval e X.env)::starEach es X.env)) (d:↑((backTo pos<|starEach es X.env).any (·.1)=false))
  (q:eval (.Call (.Attribute (.Name x p) m apos) (e::es) [] pos) X.env=(do
   let i <- eval (.Name x p) X.env
   standAt apos.atName
   let (f,first) <- holding [i] (getMethod i m pl)
   callWith pos f first (backTo pos<|starEach (e::es) X.env) (backToKw pos<|keywordEach [] X.env)):=by rfl):
  PE X (.Call (.Attribute (.Name x p) m apos) (e::es) [] pos) (yK sp dvs E t):=by let⟨C,f,fd,F,l,u,h⟩:=c.ex;exact X1 u z h F (y.mono r) l s n v a b d q
end
def V7{X:Cx}{x:Lq}{i:Int}{a:Pos}(c:∃b,X.mg x=some (.int i b))(d:Gl X x)(h:↑↑((x==("__debug__":Lq))=false)):PE X (.Name x a) (tC<|.int i):=by let⟨b,e⟩:=c;exact J0 d e ⟨b,Z⟩ h
def dU(_ j:Int):Prop:=j≠0/\j.natAbs<2^8999
def jC:eS X (binaryOp .FloorDiv) (rI dU λi j=>.int<|i.fdiv j):=rM λ_ j _ _ _ _ _ a q=>floordiv_int a.1 q (.inl (PyProof.noPylong_of_log2 (by let h0:j.natAbs≠0:=λz=>a.1<|Int.natAbs_eq_zero.mp z;exact Yf ((Nat.log2_lt h0).mpr a.2) ∅)))
def jF{A B:Prop}(d:a=b->A)(c:a≠b->B):if decide (V.int a=V.int b)=true then A else B:=by
 by_cases h:a=b
 ·rw[Yo<|Jx V.int h];exact dQ<|d h
 ·rw[Yw λz=>h<|by injection z];exact cA<|c h
def AH{A B:Prop}(d:a≠b->A)(c:a=b->B):if (!decide (V.int a=V.int b))=true then A else B:=by
 by_cases h:a=b
 ·rw[Yo<|Jx V.int h];exact cA<|c h
 ·rw[Yw λz=>h<|by injection z];exact dQ<|d h
def cD[Decidable c]{A B:Prop}(b:c->A)(a:¬c->B):if decide c=true then A else B:=by
 by_cases h:c
 ·rw[Yo h];exact dQ<|b h
 ·rw[Yw h];exact cA<|a h
def cN[Decidable c]{A B:Prop}(b:¬c->A)(a:c->B):if (!decide c)=true then A else B:=by
 by_cases h:c
 ·rw[Yo h];exact cA<|a h
 ·rw[Yw h];exact dQ<|b h
def cB{A B:Prop}(c:b=true->A)(a:b=false->B):if b=true then A else B:=by
 cases b with
 | true=>exact dQ<|c rfl
 | false=>exact cA<|a rfl
def RV{A B:Prop}(c:b=false->A)(a:b=true->B):if (!b)=true then A else B:=by
 cases b with
 | true=>exact cA<|a rfl
 | false=>exact dQ<|c rfl
def dI:decide (V.int a=V.int b)=decide (a=b):=by
 by_cases h:a=b
 ·rw[Yo<|Jx V.int h,Yo h]
 ·rw[Yw λz=>h (by injection z),Yw h]
mutual
inductive fU(K:Lj)(H:Hp):V->PyData->Prop
 | non:fU K H .non .none
 | bl (b:Bool):fU K H (.bl b) (.bool b)
 | int (i:Int):fU K H (.int i) (.int i)
 | str (x:Lq):fU K H (.str x) (.str x)
 | tup {a:Lh} {xs:Lg} {ds:List PyData}:aY K H a xs->bQ K H xs ds->fU K H (.ref a) (.tuple ds)
 | lst {a:Lh} {xs:Lg} {ds:List PyData}:aQ K H a xs->bQ K H xs ds->fU K H (.ref a) (.list ds)
inductive bQ(K:Lj)(H:Hp):Lg->List PyData->Prop
 | nil:bQ K H [] []
 | cons {x:V} {xs:Lg} {d:PyData} {ds:List PyData}:fU K H x d->bQ K H xs ds->bQ K H (x::xs) (d::ds)
end
theorem B8{K:Lj}:∀ns:Lc,bQ K H (ns.map V.int)<|ns.map PyData.int
 | []=>.nil
 | n::ns=>.cons (.int n)<|B8 ns
section
variable{X:Cx}{ak:La}{σ:St}{H:Hp}{s:Lk}
mutual
theorem aK.rds(I:aK X ak σ H s):∀{v} {d} {u},fU X.K H v d->aS v u->∃as,Reads s.heap u d as
 | _,_,_,.non,r=>by cases (show _=Value.none from r);exact⟨_,.none⟩
 | _,_,_,.bl b,r=>by cases (show _=Value.bool b from r);exact⟨_,.bool b⟩
 | _,_,_,.int i,r=>by let⟨t,rfl⟩:=r;exact⟨_,.int i t⟩
 | _,_,_,.str x,r=>by let⟨t,rfl⟩:=r;exact⟨_,.str x t⟩
 | _,_,_,.tup (a:=a) h hs,r=>by cases (show _=Value.ref a from r);let⟨its,j,⟨o,e,c,n,k⟩,_⟩:=I.tuple h;let⟨as,q⟩:=aK.rdsAll I hs j;exact⟨as,.tuple e c k<|by simpa using q⟩
 | _,_,_,.lst (a:=a) h hs,r=>by cases (show _=Value.ref a from r);let⟨its,j,p,_⟩:=I.list h;let⟨o,e,c,n,k⟩:=p.isList;let⟨as,q⟩:=aK.rdsAll I hs j;exact⟨_,.list e c k<|by simpa using q⟩
theorem aK.rdsAll(I:aK X ak σ H s):∀{vs} {ds} {us},bQ X.K H vs ds->aN vs us->∃as,ReadsAll s.heap us ds as
 | _,_,_,.nil,.nil=>⟨_,.nil⟩
 | _,_,_,.cons h hs,.cons r rs=>by let⟨as,q⟩:=aK.rds I h r;let⟨bs,p⟩:=aK.rdsAll I hs rs;exact⟨_,.cons q p⟩
end
end
section
variable{X:Cx}
def yH(j:X.A.units+64<cLine):eS X (compareOp .Eq) (λx y H Q=>∃d e,fU X.K H x d/\fU X.K H y e/\SeqAt.shaped d=true/\SeqAt.shaped e=true/\Q (.bl<|PyData.eqv d e) H):=by intro ak s σ H x y u v Q I b a h;let⟨d,e,c,k,m,i,q⟩:=h;let⟨as,n⟩:=I.rds c b;let⟨bs,l⟩:=I.rds k a;exact eq_dataH n l m i j ⟨.bl<|PyData.eqv d e,H,I,rfl,q⟩
def yJ(j:X.A.units+64<cLine):eS X (compareOp .NotEq) (λx y H Q=>∃d e,fU X.K H x d/\fU X.K H y e/\SeqAt.shaped d=true/\SeqAt.shaped e=true/\Q (.bl<|!PyData.eqv d e) H):=by intro ak s σ H x y u v Q I b a h;let⟨d,e,c,k,m,i,q⟩:=h;let⟨as,n⟩:=I.rds c b;let⟨bs,l⟩:=I.rds k a;exact ne_dataH n l m i j ⟨.bl<|!PyData.eqv d e,H,I,rfl,q⟩
end
theorem MH:∀ns ms:Lc,PyData.eqvAll (ns.map PyData.int) (ms.map PyData.int)=decide (ns=ms)
 | [],[]=>by simp[PyData.eqvAll]
 | [],_::_=>by simp[PyData.eqvAll]
 | _::_,[]=>by simp[PyData.eqvAll]
 | a::r,b::t=>by simp only[List.map_cons,PyData.eqvAll,PyData.eqv,MH r t];by_cases h:a=b <;> by_cases h':r=t <;> simp[h,h']
end L2
namespace HT
open PySem PyProof.Rows
section
open PySem.SeqAt
open PySem.AutoSeq1 (wpAny_loadPart')
open PySem.MeetsSeq PySem.MeetsSeq2 PySem.MeetsSeq3
def W6(A:Around)(s:Lk)(a:Int)(t:Tok)(c:Int)(u:Tok)(prog:Lm)(w:Ll)(E:Va)(Q:Va)(h:Q (.bool<|decide<|c<a) s):⇑A (richCompare .Gt (.int a t)<|.int c u) Q E s:=
 (PyProof.Rows.gt_int h:⇑A (compareOp .Gt (.int a t)<|.int c u) Q E s)
def zjt(l b:Lh)(j i:Array Li)(n S:Nat)(dd J:Option Lh)(Q I:Array (Option Li))(C E:Lc)(M:IntsAre j.toList C)(L:IntsAre i.toList E):Meets (Builtin.«tuple.__gt__» ⟨[.ref l,.ref b],[]⟩) (λ_ R s=>s.heap.get? l=some { cls:=.type "tuple",dict:=dd,data:=.seq j n,slots:=Q }/\s.heap.get? b=some { cls:=.type "tuple",dict:=J,data:=.seq i S,slots:=I } /\
    R (.ok<|.ret<|.bool<|lexLt E C) s):=
 .of_wp λprog w A R s h=>by
  let⟨G,g,d,H,D⟩:=s;let⟨O,T,h⟩:=h;let f2:=AutoSeq1.sub_tuple_tuple;let z1:j.size=C.length:=by rw[<- M.length];simp
  let z2:i.size=E.length:=by rw[<- L.length];simp
  wp_walk using wpAny_loadPart' O,wpAny_loadPart' T,wpAny_forIn_list _ (λrest b s'=>b.1=none/\s'=⟨G,g,d,H,D⟩/\∃(vs ws:List Li) (o m:Lc),rest=vs.zip ws /\
   IntsAre vs o/\IntsAre ws m/\o.length+i.size=m.length+j.size/\R (.ok<|.ret<|.bool<|lexLt m o) ⟨G,g,d,H,D⟩) _
  case turn=>
   rintro⟨y,x⟩ rest b s' ⟨B,rfl,vs,ws,o,m,hz,z,p,k,v⟩;cases z with
   | nil=>rw[List.zip_nil_left]at hz;cases hz
   | cons a t hvi'=>
    cases p with
    | nil=>rw[List.zip_nil_right]at hz;cases hz
    | cons c u hwi'=>
     rw[List.zip_cons_cons]at hz;injection hz with hyx hrest
     injection hyx with hy hx
     subst hy hx;rw[lexLt_cons]at v;simp only[List.length_cons]at k;let⟨e,P,r⟩:=eqAt_int A.in1 ⟨G,g,d,H,D⟩ a t c u;refine Ya<|P prog w _ _ ?_;cases e with
     | true=>
      rw[Yl (r.mp rfl).symm]at v;wp_walk;exact⟨Z,Z,_,_,_,_,hrest,hvi',hwi',⋯,v⟩
     | false=>
      rw[Yh<|λq=>absurd (r.mpr q.symm) Yt]at v;let K:=W6 A.in1 ⟨G,g,d,H,D⟩ a t c u prog w;wp_walk using K;exact⟨_,Z,‹v›⟩
  case fin=>
   rintro⟨b1,b2⟩ s' ⟨B,rfl,vs,ws,o,m,hz,z,p,k,v⟩;simp only at B;subst B;let N:lexLt m o=decide (i.size<j.size):=by
    cases z with
    | nil=>
     cases p with
     | nil=>
      simp only[List.length_nil]at k;rw[O2];exact(Yw ⋯).symm
     | cons c u hw=>
      simp only[List.length_nil,List.length_cons]at k;rw[lexLt_cons_nil];exact(Yw ⋯).symm
    | cons a t N=>
     cases p with
     | nil=>
      simp only[List.length_nil,List.length_cons]at k;rw[lexLt_nil_cons];exact(Yo ⋯).symm
     | cons c u hw=>
      rw[List.zip_cons_cons]at hz;cases hz
   rw[N]at v;wp_walk;exact⟨_,Z,by simpa[Builtin.Tuple.tupleCompareSizes]using v⟩
  case h=>
   exact⟨Z,Z,j.toList,i.toList,C,E,Z,M,L,⋯,h⟩
end
def gt_tupInts(o:IsTup s.heap l items)(y:IsTup s.heap b items2)(q:IntsAre items.toList ns)(p:IntsAre items2.toList ms)(u:A.units<cLine) (h:Q (.bool<|lexLt ms ns) s):⇑A (compareOp .Gt (.ref l)<|.ref b) Q E s:=by
 let⟨⟨cls,dd,data,r⟩,k,j,n,m⟩:=id o;let⟨⟨cls2,i,data2,e⟩,c,d,v,a⟩:=id y;simp only at j m d a;subst j m d a;exact richCompare_meets_room (op:=.Gt) ⟨_,k,Z⟩ ⟨_,c,Z⟩ PySem.F.slot_tuple_gt PySem.F.entry_tuple_gt (PySem.F.args_tuple_gt_2 _ _) (zjt l b items items2 n v dd i r e ns ms q p)
  ⟨k,c,show Value.bool (lexLt ms ns)≠Value.notImplemented/\Q (.bool<|lexLt ms ns) s from⟨(λx=>nomatch x),h⟩⟩ u
end HT
namespace PySem
namespace F
def NI:Manifest.owners.lookup (String.ofList ['d','e','s','r','e','v','e','r'].reverse)=some Manifest.sig_reversed:=by kernel_rfl
def slot_rvd_next:Slot "reversed" "__next__" "reversed.__next__":=
 .of (owner:="reversed") (n:="__next__") (by rw[typeLookup_type,builtinLookup_eq_fast];kernel_rfl) nofun nofun nofun
  (by first | exact .inl nofun | exact .inr nofun) (by rw[isSubtype_type];kernel_rfl)
def entry_rvd_next:entryFor table "reversed.__next__"=some Builtin.«reversed.__next__»:=entryFor_of_tree (by kernel_rfl)
def args_rvd_next_1(a:Li):argsOk "reversed.__next__" ⟨[a],[]⟩:=by unfold argsOk;rw[signature?_of (id:="reversed.__next__") (n:=['_','_','t','x','e','n','_','_']) (o:=['d','e','s','r','e','v','e','r']) (by kernel_rfl) NI];kernel_rfl
def slot_rvd_iter:Slot "reversed" "__iter__" "reversed.__iter__":=
 .of (owner:="reversed") (n:="__iter__") (by rw[typeLookup_type,builtinLookup_eq_fast];kernel_rfl) nofun nofun nofun
  (by first | exact .inl nofun | exact .inr nofun) (by rw[isSubtype_type];kernel_rfl)
def args_rvd_iter_1(a:Li):argsOk "reversed.__iter__" ⟨[a],[]⟩:=by unfold argsOk;rw[signature?_of (id:="reversed.__iter__") (n:=['_','_','r','e','t','i','_','_']) (o:=['d','e','s','r','e','v','e','r']) (by kernel_rfl) NI];kernel_rfl
def entry_rvd_iter:entryFor table "reversed.__iter__"=some Builtin.«dict_keyiterator.__iter__»:=
 entryFor_alias (id':="dict_keyiterator.__iter__") (by kernel_rfl) (by first | rfl | decide +kernel | (unfold String.splitOn;simp +decide [String.splitOnAux])) nofun (by kernel_rfl)
def lookup_tuple_reversed:typeLookup (.type "tuple") "__reversed__" = pure none:=by rw[typeLookup_type,builtinLookup_eq_fast];kernel_rfl
def zjs:Slot "reversed" "__init__" "object.__init__":=
 .of (owner:="object") (n:="__init__") (by rw[typeLookup_type,builtinLookup_eq_fast];kernel_rfl) nofun nofun nofun
  (by first | exact .inl nofun | exact .inr nofun) (by rw[isSubtype_type];kernel_rfl)
def called_reversed:TypeCalled "reversed" "reversed.__new__" "object.__init__":=
 ⟨nofun,nofun,⟨_,_,mro_reversed⟩,made_reversed,nofun,by rw[isSubtype_type];kernel_rfl,zjs⟩
end F
end PySem
namespace L2
open PySem PySem.Spec PyProof.Rows
section
open PySem.MeetsSeq
def WQ(t:Lh)(b:Array Li):Meets (Builtin.«reversed.__new__» ⟨[.type "reversed",.ref t],[]⟩) (λ_ R s=>IsTup s.heap t b/\(b.size:Int)<2^63 /\
   R (.ok<|.ret<|.ref s.heap.objs.size) {s with heap:=s.heap.push { cls:=.type "reversed",data:=.fields #[.ref t,rawInt<|(b.size:Int)-1] },toks:=s.toks+1+1 }):=
 .of_wp λprog w A R s h=>by
  let⟨c,hz,h⟩:=h;unfold Builtin.«reversed.__new__»;refine Ya<|wpAny_of_eq (newClass_reversed _) ?_
  try dsimp only
  refine Ya<|wpAny_of_eq (a:=()) (by first | rfl | kernel_rfl) ?_;refine Ya<|wpAny_of_eq (a:=()) (by first | rfl | kernel_rfl) ?_
  try dsimp only
  refine Ya<|wpAny_specialOf c.typeIs F.lookup_tuple_reversed ?_
  try dsimp only
  refine Ya ?_;show wpAny _ _ (isInstance (.ref t) (.type "dict") >>= _) _ _ _;refine Ya<|wpAny_isInstance c.typeIs F.sub_tuple_dict ?_;rw[Yh Yt];refine Ya<|wpAny_specialOf c.typeIs slot_tuple_getitem.lookup ?_;dsimp only;rw[Yl ∅];refine Yb ?_;simp only[Bool.not_true,Bool.false_eq_true,if_false];refine Ya<|len_tuple c hz ?_;refine Ya<|wpAny_of_eq (a:=some (b.size:Int)) rfl ?_;dsimp only;refine Ya ?_;unfold Builtin.SmallTypes.newRecord;dsimp only;refine Jo ?_;exact Yb ⟨_,Z,h⟩
section
variable{prog:Lm}{w:Ll}{A:Around}{E:Va}{s:Lk}
def gX(h:Lp)(a t:Lh)(i:Int):Prop:=∃o,h.get? a=some o/\o.cls=.type "reversed"/\o.data=.fields #[.ref t,rawInt i]
def gX.typeIs(x:gX s.heap a t i):s.TypeIs (.ref a) "reversed":=let ⟨o,c,b,_⟩:=x;⟨o,c,b⟩
def zgc(a:IsTup s.heap t items)(hz:(items.size:Int)<2^63)(h:Q (.ref s.heap.objs.size) {s with heap:=s.heap.push { cls:=.type "reversed",data:=.fields #[.ref t,rawInt<|(items.size:Int)-1] },toks:=s.toks+1+1 }):⇑A (call (.type "reversed") [.ref t]) Q E s:=by refine callType_new F.called_reversed ∅ (F.typeCall_reversed_1 _) (F.newCall_reversed_1 _) (λobj=>F.args_object_init_2 obj _) F.entry_reversed_new (WQ t items) ⟨a,hz,?_⟩;exact⟨⟨_,Yk _ Z,Z⟩,h⟩
def zid{i:Nat}(b:gX s.heap it t (i:Int))(h:IsTup s.heap t items)(hz:(items.size:Int)<2^63)(e:items[i]?=some x)(m:∀h',gX h' it t ((i:Int)-1)->Heap.SameBut it s.heap h'->Q (some x) {s with heap:=h',toks:=s.toks+1 }):⇑A (pyNext<|.ref it) Q E s:=by
 let⟨o,d,l,c⟩:=id b;let hi:i<items.size:=by
  rcases Jh i items.size with q | q
  ·exact q
  ·rw[Array.getElem?_eq_none q]at e;cases e
 let n:seqIndex? (i:Int) items.size=some i:=by
  unfold seqIndex?;let k:¬(i:Int)<0:=by lia
  simp only[k,if_false];rw[Yl<|by simp;lia];simp
 unfold pyNext;refine Ya (wpAny_attempt (Jb (name:=Str.ofString "__next__") b.typeIs F.slot_rvd_next
  (Y8 F.slot_rvd_next b.typeIs F.entry_rvd_next ?_<|F.args_rvd_next_1 _)))
 unfold Builtin.«reversed.__next__»;refine Ya<|wpAny_of_eq (a:=(Value.ref it,[])) rfl ?_
 try dsimp only
 refine Ya<|Jl d c (x:=.ref t) rfl ?_;refine Ya<|Jl d c (x:=rawInt (i:Int)) rfl ?_;show wpAny _ _ (if (i:Int)<0 then _ else _) _ _ s;rw[Yh ⋯];refine Ya<|wpAny_specialOf h.typeIs slot_tuple_getitem.lookup ?_;rw[Yh<|by simp];refine Ya<|wpAny_mkInt ?_;refine Ya<|wpAny_attempt<|getItem_tuple (j:=i) h ⋯ ⋯ n ‹e› ?_;dsimp only;refine Ya<|Jl d c (x:=rawInt (i:Int)) rfl ?_;show wpAny _ _ (setField (.ref it) 1 (rawInt<|(i:Int)-1) >>= _) _ _ _;refine Ya<|wpAny_setField d c (by simp) ?_;refine Yb ⟨x,Z,Yb<|m _ ?_<|Heap.SameBut.update ..⟩;exact⟨_,Heap.get?_update_self _ d<|Obj.isFreed_of_fields<|Obj.data_mapFields c _,(Obj.cls_mapFields ..).trans l,by
  rw[Obj.data_mapFields c];simp⟩
def zil(j:A.handled=none)(c:gX s.heap it t (-1))(l:∀h',Heap.ExtBut it s.heap h'->Q none {s with heap:=h' }):⇑A (pyNext<|.ref it) Q E s:=by
 let⟨o,h,hc,d⟩:=id c;unfold pyNext;refine Ya (wpAny_attempt (Jb (name:=Str.ofString "__next__") c.typeIs F.slot_rvd_next
  (Y8 F.slot_rvd_next c.typeIs F.entry_rvd_next ?_<|F.args_rvd_next_1 _)))
 unfold Builtin.«reversed.__next__»;refine Ya<|wpAny_of_eq (a:=(Value.ref it,[])) rfl ?_
 try dsimp only
 refine Ya<|Jl h d (x:=.ref t) rfl ?_;refine Ya<|Jl h d (x:=rawInt<|-1) rfl ?_;show wpAny _ _ (if (-1:Int)<0 then _ else _) _ _ s;rw[Yl ∅];refine Ya<|wpAny_rule ?_;refine Ya ?_;show wpAny _ _ (setField (.ref it) 1 (rawInt<|-1) >>= _) _ _ _;refine Ya<|wpAny_setField h d (by simp) ?_;let i:=Heap.get?_update_self (Obj.mapFields λx=>x.setIfInBounds 1<|rawInt<|-1) h<|Obj.isFreed_of_fields<|Obj.data_mapFields d _;refine wpAny_setField i (Obj.data_mapFields d _) (by simp) ?_;refine Ya ?_;show wpAny _ _ (newExc (.type "StopIteration") [] >>= _) _ _ _;refine Ya ?_;simp only[newExc,newTuple];refine Ya<|Jo ?_ (by size_fits);refine Ya (m:=firstArgMember _ _)<|wpAny_of_eq (a:=Value.none) (by first | rfl | (simp only[firstArgMember];rfl)) ?_;refine Jo ?_ (by size_fits);simp only[raiseNew];refine Ya<|wpAny_handled ?_
 first | rw[show A.in1.handled=none from j] | rw[j]
 refine Ya<|Yb<|wpAny_throw ?_;refine Ya<|wpAny_isInstance (T:="StopIteration") (b:=true) ⟨_,Yk _ rfl,Z⟩ isSubtype_stop ?_;exact Yb<|l _ λb o k e=>Ye _<|Ye _<|(Heap.SameBut.update ..).extBut b o k ((Heap.SameBut.update ..).extBut b o k e)
def NZ(a:gX s.heap it t i)(h:Q (.ref it) s):⇑A (pyIter<|.ref it) Q E s:=by refine wpAny_pyIter_slot a.typeIs F.slot_rvd_iter<|Y8 F.slot_rvd_iter a.typeIs F.entry_rvd_iter ?_<|F.args_rvd_iter_1 _;show wpAny _ _ (ret<|.ref it) _ _ s;exact Yb ⟨_,Z,"reversed",_,a.typeIs,F.slot_rvd_next.lookup,h⟩
end
def AN(K:Lj)(a:Lh)(n:Nat):It:=
 ⟨λi H=>i<n/\∃xs,aY K H a xs/\xs.length=n,λi H x H'=>H'=H/\∀xs,aY K H a xs->xs[n-1-i]?=some x,λi H=>i=n⟩
def XI{K:Lj}(a it:Lh)(n:Nat):jT P w K tg (AN K a n) [it] it (λi h=>gX h it a<|(n:Int)-1-(i:Int)) where
 mem:=by simp
 obj:=λi h st b c=>by simp only[List.mem_cons,List.not_mem_nil,or_false]at c;subst c;let⟨o,j,C,G⟩:=st;exact⟨o,j,λv q=>by rw[G]at q;cases q⟩
 keep:=λi h h' st k=>by let⟨o,j,r⟩:=st;exact⟨o,k it (by simp) o j,r⟩
 item:=by
  intro X L hw A C i ak s σ H E I l st M;subst L hw A;let⟨hi,xs,N,hn⟩:=M;let⟨its,O,p,hz⟩:=I.tuple N;let hl:=O.length;let hlt:=uY;let e1:(n:Int)-1-(i:Int)=((n-1-i:Nat):Int):=by lia
  rw[e1]at st;obtain⟨x,ex⟩:∃x,xs[n-1-i]?=some x:=⟨xs[n-1-i],by simp⟩;let⟨u,R,Y⟩:=O.get ex;refine zid st p (by rw[Ys];lia) (x:=u) ‹R› λh' d S=>⟨u,Z,?_⟩;let⟨o,j,D,G⟩:=id d;refine A2 (s:={s with heap:=h',toks:=s.toks+1 }) j D G ∅ ?_;let⟨m,y,Q,J,z,B⟩:=l it (by simp);let T:((n-1-i:Nat):Int)-1=(n:Int)-1-((i+1:Nat):Int):=by lia
  rw[T]at d;exact⟨x,H,I.turned (t':=s.toks+1) (λb o c e=>S.extBut b o c e) m y J z B,Y,⟨Z,λys hy=>by rw[I.tuple_inj hy N];exact ex⟩,d,λb c=>(l b c).1⟩
 done:=by
  intro X L hw A C i ak s σ H E I l st M;subst L hw A;obtain rfl:i=n:=M;let e1:(i:Int)-1-(i:Int)=-1:=by lia
  rw[e1]at st;let⟨m,y,Q,J,z,B⟩:=l it (by simp);exact zil (I.ok.hd C) st λh' U=>⟨Z,I.turned (t':=s.toks) (λb o c e=>U b o c e) m y J z B⟩
 self:=λ_ _ _ _ _ st h=>NZ st h
def AE(K:Lj)(ta:TA):TI:=λσ H R=>ta σ H λvs H1=>∃a xs,vs=[.ref a]/\aY K H1 a xs/\R (AN K a xs.length) H1
def PH:bootBuiltins "reversed"=some (.type "reversed"):=by kernel_rfl
def z2o{X:Cx}{x:Lo}{p i:Pos}{e1:Lo}{m:TA}(E:Gl X "reversed")(B:X.mg "reversed"=none)(D:PA X [e1] m)(v:↑(starEach [e1] X.env=(false,eval e1 X.env)::starEach [] X.env)) (l:↑((backTo i<|starEach [] X.env).any (·.1)=false)):PI X x (.Call (.Name "reversed" p) [e1] [] i) (AE X.K m):=by
 intro ak s σ H R I h;refine wpAny_Call_Name_kw<|nZ I E B PH ?_ ∅ ∅;refine PyProof.Rows.callWith_type1 (bC (D ak s σ H _ I h) λus c k=>?_) v l;let⟨vs,H1,j,w,a,xs,y,A,q⟩:=k;subst y;let⟨u,rfl,z⟩:=w.one;cases z;let⟨its,C,pt,hz⟩:=j.tuple A;let n:=C.length;let hlt:=uY;refine zgc pt (by rw[Ys];lia) ?_;let d:gX (c.heap.push { cls:=.type "reversed",data:=.fields #[.ref a,rawInt<|(its.toArray.size:Int)-1] }) c.heap.objs.size a ((xs.length:Int)-1-((0:Nat):Int)):=by
  exists _,Yk _ Z,Z;let e:((its.toArray.size:Nat):Int)-1=(xs.length:Int)-1-((0:Nat):Int):=by rw[Ys,n];lia
  rw[e]
 refine NZ d ?_;let r:aK X ak σ H1 { c with heap:=c.heap.push { cls:=.type "reversed",data:=.fields #[.ref a,rawInt<|(its.toArray.size:Int)-1] },toks:=c.toks+1+1 }:=j.kept (t':=c.toks+1+1) λb o e=>Ye _ e;refine⟨c.heap.objs.size,[c.heap.objs.size],_,_,H1,Z,r,XI a c.heap.objs.size xs.length,d,λb G=>?_,q⟩;obtain rfl:b=c.heap.objs.size:=by simpa using G
 exact j.fpOk (Yi _)<|j.hok.fresh<|Yi _
def MT{K:Lj}(h:aY K H1 a xs):gR (AN K a xs.length) H1 xs.length (λi x _=>xs[xs.length-1-i]?=some x):=
 ⟨λi H' e b=>⟨b,xs,e.seqT h,Z⟩,λH' e=>Z,λi H' x H2 e b y=>by let⟨rfl,q⟩:=y;exact⟨aJ.refl _,q xs<|e.seqT h⟩⟩
def vH{J:It}{n:Nat}{P:Nat->V->Hp->Prop}{mp:List (Option Nat)}{m:TI}{g:TG}{l:TT}{k:TE}{σ:St}{H H1:Hp}{Q:VK}(S:gR J H1 n P)(q:n<=1000)(j:∀R,R J H1->m σ H R)(c:St->Prop)(p:Nat->Bool)(f:Nat->V)(h0:c (mP mp σ))(step:∀i x σ' H2,i<n->c σ'->aJ H1 H2->P i x H2->∀(Ny:V->St->Hp->Prop) (Nn:St->Hp->Prop),(∀a h,c a->aJ H2 h->p i=true->Ny (f i) a h)->(∀a d,c a->aJ H2 d->p i=false->Nn a d) ->
   g x σ' H2 λa o=>l a o λb d=>if b=true then k a d λv h=>Ny v a h else Nn a d)
  (u:∀D H',aJ H1 H'->H' D=some (.lst<|((List.range n).filter p).map f)->Q (.ref D) H'):aX mp m g l k σ H Q:=by unfold aX;refine j _ λD s=>?_;exact FX S s (Yr q<|by rw[sizeLine_eq];decide) c p f h0 step λH' e r=>u D H' e r
end
section
def VU{cl:List (Lq×Lh)}(h:((own,n)::cl).lookup x=some c):(x=own/\c=n)\/(x≠own/\cl.lookup x=some c):=by
 rw[Jm]at h;cases q:(x==own) with
 | true=>rw[q]at h;exact .inl ⟨Jy q,(Jg h).symm⟩
 | false=>
  rw[q]at h;let a:x≠own:=λz=>by rw[z,beq_self_eq_true]at q;cases q
  exact .inr ⟨a,h⟩
def TC{a:Lq}{n:Lh}:((a,n)::cl).lookup a=some n:=by rw[Jm,beq_self_eq_true]
def SY{a x:Lq}{n:Lh}(h:x≠a):((a,n)::cl).lookup x=cl.lookup x:=by
 rw[Jm];cases q:(x==a) with
 | true=>exact absurd (Jy q) h
 | false=>rfl
end
section
def wA(cl cells:List (Lq×Lh)):Prop:=∀x c,cl.lookup x=some c->cells.lookup x=some c
def lM:wA [] cells:=λ_ _ h=>nomatch h
def iD(h:cells.lookup a=some n)(t:wA cl cells):wA ((a,n)::cl) cells:=λx c e=>by
 rcases VU e with⟨rfl,rfl⟩ | ⟨_,e⟩
 ·exact h
 ·exact t x c e
theorem KR:∀{cl:List (Lq×Lh)} {x},x∈cl.map (·.1)->∃c,cl.lookup x=some c
 | (a,n)::cl,x,h=>by
  by_cases q:x=a
  ·exact⟨n,by rw[q];exact TC⟩
  ·rcases Yj.mp h with z | z
   ·exact absurd z q
   ·let⟨c,e⟩:=KR z;exact⟨c,(SY q).trans e⟩
def lI{a:List (Lq×NameKind)}{cl:List (Lq×Lh)}(e:cl.map (·.1)=fs)(h:∀y∈a,y.2=.free->y.1∈fs):∀y∈a,y.2=.free->∃c,cl.lookup y.1=some c:=
 λy d b=>KR (by rw[e];exact h y d b)
def qC(X:Cx)(scope:Scope)(mp:List (Option Nat))(N:Lf):Prop:=∀(i j:Nat) x,mp[i]?=some (some j)->N[i]?=some x->X.N[j]?=some x/\(X.env.scope.names.lookup x=some .cell\/X.env.scope.names.lookup x=some .free)/\scope.names.lookup x=some .free
def lL:qC X scope [] N:=λi j x h=>by simp at h
def kZ(t:qC X scope mp N):qC X scope (none::mp) (y::N):=λi j x a b=>by
 cases i with
 | zero=>cases a
 | succ i=>exact t i j x ‹a› ‹b›
def iE(h:X.N[k]?=some y)(c:X.env.scope.names.lookup y=some .cell\/X.env.scope.names.lookup y=some .free)(d:scope.names.lookup y=some .free)(t:qC X scope mp N):qC X scope (some k::mp) (y::N):=λi j x a b=>by
 cases i with
 | zero=>
  simp only[List.getElem?_cons_zero,Option.some.injEq]at a b;subst a b;exact⟨h,c,d⟩
 | succ i=>exact t i j x ‹a› ‹b›
def ZJ{J:It}{n:Nat}{P:Nat->V->Hp->Prop}{mp:List (Option Nat)}{r:TI}{g:TG}{q:TT}{o:TE}{σ:St}{H H1:Hp}{Q:VK}(S:gR J H1 n P)(u:n<=1000)(m:∀R,R J H1->r σ H R)(k:St->Prop)(p:Nat->Bool)(F:Nat->V->Hp->Prop)(h:∀i v H H',aJ H H'->F i v H->F i v H') (d:∀i v H a ys ys',H a=some (.lst ys)->F i v H->F i v (upd H a<|.lst ys')) (h0:k (mP mp σ))(step:∀i x σ' H2,i<n->k σ'->aJ H1 H2->P i x H2->∀(Ny:V->St->Hp->Prop) (Nn:St->Hp->Prop),(∀v c j,k c->aJ H2 j->F i v j->p i=true->Ny v c j)->(∀c l,k c->aJ H2 l->p i=false->Nn c l) ->
   g x σ' H2 λc s=>q c s λb l=>if b=true then o c l λv j=>Ny v c j else Nn c l)
  (A:∀D H' ys,aJ H1 H'->H' D=some (.lst ys)->Paired (λi v=>F i v H') ((List.range n).filter p) ys->Q (.ref D) H'):aX mp r g q o σ H Q:=by unfold aX;refine m _ λD z=>?_;exact FA S z (Yr u<|by rw[sizeLine_eq];decide) k p F h d h0 step λH' ys e w y=>A D H' ys e w y
end
section
structure C6(K:Lj)(C:Lh):Prop where
 makes:W.makesIn K C=true
 init:W.findIn K (.ref C) "__init__"=some (some<|.builtin "object.__init__")
 kp:W.keepIn K (.ref C)=true
def GH(C:Lh):TE:=λ_ H Q=>∀x dx,H x=none->H dx=none->dx≠x->Q (.ref x) (upd (upd H dx<|.own x) x<|.ins C dx [])
def E5{X:Cx}{C:Lh}{x:Lq}{p c:Pos}(M:C6 X.K C)(l:X.mg x=some (.ref C))(n:↑(Gl X x))(a:↑↑((x==("__debug__":Lq))=false)):PE X (.Call (.Name x p) [] [] c) (GH C):=by
 intro ak s σ H Q I h;refine wpAny_Call_Name_kw<|wW I n l (W.callWith_K0 I.kIn M.kp ?_) a;let k:=h (s.heap.objs.size+1) s.heap.objs.size (I.hok.fresh<|Nat.le_succ _) (I.hok.fresh<|Yi _)<|Y0<|Nat.lt_succ_self _;let j:=aK.made (C:=C) I;refine wpAny_call<|YP I.kIn M.makes M.init (λself=>W.Looks.of_pure<|W.oi_bind self) ?_;let Y:=W.makes_of (M:=model X.prog X.w) I.kIn M.makes;let m:((s.heap.push W.emptyDict).push (W.instObj C s.heap.objs.size)).get? (s.heap.objs.size+1)=some (W.instObj C s.heap.objs.size):=by have:=Yk (s.heap.push W.emptyDict) (o:=W.instObj C s.heap.objs.size) rfl;rwa [Heap.size_push]at this
 let i:W.Looks (model X.prog X.w) ((s.heap.push W.emptyDict).push (W.instObj C s.heap.objs.size)) (typeOf<|.ref<|s.heap.objs.size+1) (.ref C):=(W.Looks.ld m).andThen .now;let d:W.Looks (model X.prog X.w) ((s.heap.push W.emptyDict).push (W.instObj C s.heap.objs.size)) (isInstance (.ref<|s.heap.objs.size+1)<|.type "object") true:=
  i.andThen (Y.top.keeps λb o e=>Ye _<|Ye _ e)
 refine codeAny_call_builtin W.oi_plain W.entry_oi<|@W.check_slot (model X.prog X.w) _ _ _ "object.__init__" "object" "__init__" (.ref<|s.heap.objs.size+1) [] [] _ W.oi_kind W.oi_split d (W.oi_args<|.ref<|s.heap.objs.size+1) ?_;rw[W.oi_run];exact Yb<|And.intro rfl ⟨.ref<|s.heap.objs.size+1,_,j,Z,k⟩
end
section
abbrev lQ:Int->Int->Bool:=λ_ _=>true
def yG(φ:Int->Int->Int)(xs ys:Lc):qR lQ (λx y=>.int<|φ x y) xs ys=(List.zipWith φ xs ys).map V.int:=by
 unfold qR;rw[Yu.mpr<|λ_ _=>Z];refine List.ext_getElem? λi=>?_;rw[Ym,Ym,List.getElem?_zipWith];by_cases h:i<min xs.length ys.length
 ·let b:i<xs.length:=by lia
  let a:i<ys.length:=by lia
  rw[List.getElem?_range h,Yc b,Yc a];simp[List.getD,b,a]
 ·rw[Yy<|by simpa using h];rcases Jh i xs.length with q | q
  ·rw[Yy (l:=ys) ⋯];cases xs[i]? <;> rfl
  ·rw[Yy (l:=xs) q];rfl
def L6(xs:Lc)(f:Int->Int):(List.range xs.length).map (λi=>f<|xs.getD (xs.length-1-i) 0)=xs.reverse.map f:=by
 refine List.ext_getElem? λi=>?_;rw[Ym,Ym];by_cases h:i<xs.length
 ·rw[List.getElem?_range h,List.getElem?_reverse h,Yc<|show xs.length-1-i<xs.length by lia];simp[List.getD,show xs.length-1-i<xs.length by lia]
 ·rw[Yy<|by simpa using h,Yy<|by rw[List.length_reverse];lia];rfl
def SG{K:Lj}(h:X.K=K)(d:X.calm=true)(a:X.N.Nodup)(h0:X.N[0]?=some x)(e:X.N[1]?=some y)(c:X.env.scope.names.lookup x=some .local)(b:X.env.scope.names.lookup y=some .local):PG X (.Tuple [.Name x px,.Name y py] k tp) (rN K 2<|uT (bD 0)<|uT (bD 1) rO):=by subst h;exact uZ d<|mM (wV (i:=0) a h0 (.inl c)<|.inr c)<|mM (wV (i:=1) a e (.inl b)<|.inr b) vD
end
section
def YN{k σ:St}{C:Lh}(Q:aK X ak k H0 s0)(H:s0.heap.objs.size<=C)(I:aK X ak σ H' s')(D:H' C=none)(h:∃m,s'.heap.Ns C m) (R:PG X (.Name x pos') (bD i)) (r:aS v u) (q:Nx (σ.set i<|some v) H'):↥X (assign (.Name x pos') X.env u) (λ_ a=>∃m,a.heap.Ns C m/\∀h',Heap.SameBut C a.heap h'->NP X ak { a with heap:=h' } Nx) X.xe s':=by
 let⟨m,o,B,L,l,s,rest⟩:=h;let fp:cH X ak H' C:=Q.fpOk H D;let M:=I.pinned (fp:=[C]) (λb c=>by
  obtain rfl:b=C:=by simpa using c
  exact fp) (λb c=>by
  obtain rfl:b=C:=by simpa using c
  exact⟨o,l,λv z=>by rw[s]at z;cases z⟩)
 refine bC (R _ _ _ _ _ Nx M r q) λ_ J d=>?_;let⟨j,O,n,N⟩:=d;let p:=n.pin (C,o)<|Yg _<|Yg _<|zG (by simp) l;refine⟨m,⟨o,B,L,p.1,s,rest⟩,λh' G=>⟨j,O,?_,N⟩⟩;let⟨f0,y,f2,P,E,K⟩:=fp;exact n.unpinned.turned (t':=J.toks) (λb ob c e=>G.extBut b ob c e) p.2.1 y P E K
def B2{X:Cx}{N:Lf}{a:Scope}{cl:List (Lq×Lh)}{mp:List (Option Nat)}{j p c:Lo}{k:List Lo}{R:TI}{g:TG}{Q:TT}{P:TE}{n d l:Pos}{i:Nat}{x:Lq}(hn:PG X (.Name x d) (bD i))(B:eK X N a cl mp)(hc:X.calm=true)(hi:PI X p c R) (hg:∀C s H fp,PG (jR X N a cl C s H fp) p g) (ht:∀C s H fp,AI (jR X N a cl C s H fp) k Q) (he:∀C s H fp,PE (jR X N a cl C s H fp) j P)(U:∀x,foldedSetIterable c X.env x=pure x:=by intro _;rfl) (D:↑(swapsWith (.ListComp j [⟨p,c,k,0⟩] a n) (some<|.Name x d) l.line X.env=pure true)):PS X (.Assign [.Name x d] (.ListComp j [⟨p,c,k,0⟩] a n) l) (oV (aX mp R g Q P)<|bD i):=by
 intro ak s σ H Dn I h;unfold oV aX at h;rw[exec_Assign_Name_used _ _ _ _ D];refine Ya<|wpAny_standAt<|Ya ?_;show wpAny _ _ (comprehension (.ListComp j [⟨p,c,k,0⟩] a n) a X.env _ (newList []) false (eval c X.env) (some<|assign (.Name x d) X.env) >>= _) _ _ _;refine Ya<|wpAny_comprehension_free (use:=some<|assign (.Name x d) X.env) (cl:=cl) rfl U B.clos B.kind B.nms<|bC (hi s σ H _ I h) λv s1 h1=>bC h1 λitv y h2=>?_;let⟨it,fp,tn,J,H2,rfl,M,T,u,f2,q⟩:=h2;let A:∀b∈fp,b<y.heap.objs.size:=λb z=>let ⟨o,e,_⟩:=T.obj _ _ u b z;Yn e;let⟨W,⟨m0,w0⟩,turn⟩:=q _ M.fresh;let E:=M.lnew (ys:=[]) (its:=[]) (t':=y.toks) .nil<|Y2 _;let w:∀b∈fp,cH X ak (upd H2 y.heap.objs.size<|.lst []) b:=λb z=>by let⟨S,r⟩:=f2 b z;exact⟨by rw[aV<|Y0<|A b z];exact S,r⟩
 refine Jo<|NX B hc hg ht he E w T (T.keep _ _ _ u λb _ o e=>Ye _ e) w0 turn λC H' σ' s' O G qf=>?_;let K:∃m,s'.heap.Ns C m:=let ⟨m,L,_⟩:=G.loc;⟨m,L⟩;let I3:aK X ak σ H' { s' with heap:=s'.heap }:=J6 E w O G<|Heap.SameBut.refl _ _;exact bC (YN (v:=.ref y.heap.objs.size) E O I3 G.free K hn rfl qf) λ_ s4 ⟨m,L,q4⟩=>⟨m,L,λh' Y=>Yb<|Yb<|q4 h' Y⟩
end
section
inductive kP(K:Lj)(xs:Lg)(H:Hp)(Q:VK):Prop
 | mk (p ys) (_:xs=[.ref p]) (_:((aQ K H p ys/\∀l,H l=none->Q (.ref l) (upd H l<|.tup ys))\/(aY K H p ys/\Q (.ref p) H)))
inductive nG(K:Lj)(xs:Lg)(H:Hp)(Q:VK):Prop
 | mk (p ys) (_:xs=[.ref p]) (_:(aQ K H p ys\/aY K H p ys)) (_:∀l,H l=none->Q (.ref l) (upd H l<|.lst ys))
inductive nJ(K:Lj)(xs:Lg)(H:Hp)(Q:VK):Prop
 | mk (p ys) (_:xs=[.ref p]) (_:(aQ K H p ys\/aY K H p ys)) (_:Q (.int ys.length) H)
inductive zR(K:Lj)(b:Bool)(xs:Lg)(H:Hp)(Q:VK):Prop
 | mk (a:Lh) (ns:Lc) (_:xs=[.ref a]) (_:jU K b H a (ns.map V.int)) (_:Q (.int ns.sum) H)
inductive zX(K:Lj)(xs:Lg)(H:Hp)(Q:VK):Prop
 | mk (a:Lh) (bs:List Bool) (_:xs=[.ref a]) (_:aQ K H a (bs.map V.bl)) (_:Q (.bl<|bs.all id) H)
inductive zW(K:Lj)(xs:Lg)(H:Hp)(Q:VK):Prop
 | mk (a:Lh) (bs:List Bool) (_:xs=[.ref a]) (_:aQ K H a (bs.map V.bl)) (_:Q (.bl<|bs.any id) H)
inductive rG(K:Lj)(xs:Lg)(H:Hp)(Q:VK):Prop
 | mk (x y t c b) (_:xs=[x,y]) (_:RU y=some c) (_:gK K H x t) (_:W.kitOne K t c=some b) (_:Q (.bl b) H)
section
variable{X:Cx}{K:Lj}
def bZ.imp(h:bZ X f r)(g:∀xs H Q,r' xs H Q->r xs H Q):bZ X f r':=λak s σ H xs us Q I v k=>h ak s σ H xs us Q I v<|g _ _ _ k
def zlx(c:X.K=K):bZ X (.type "tuple") (kP K):=by subst c;refine iV.imp ?_;rintro _ _ _ ⟨p,ys,a,b⟩;exact⟨p,ys,a,b⟩
def NW(d:X.K=K):bZ X (.type "list") (nG K):=by subst d;refine jP.imp ?_;rintro _ _ _ ⟨p,ys,a,b,c⟩;exact⟨p,ys,a,b,c⟩
def ZB(d:X.K=K):bZ X (.builtin "len") (nJ K):=by subst d;refine jQ.imp ?_;rintro _ _ _ ⟨p,ys,a,b,c⟩;exact⟨p,ys,a,b,c⟩
def zF(e:X.K=K)(b:Bool)(d:X.calm=true):bZ X (.builtin "sum") (zR K b):=by subst e;refine(YE b d).imp ?_;rintro _ _ _ ⟨p,ys,a,b,c⟩;exact⟨p,ys,a,b,c⟩
def F0(e:X.K=K)(d:X.calm=true):bZ X (.builtin "all") (zX K):=by subst e;refine(YJ d).imp ?_;rintro _ _ _ ⟨p,ys,a,b,c⟩;exact⟨p,ys,a,b,c⟩
def F3(e:X.K=K)(d:X.calm=true):bZ X (.builtin "any") (zW K):=by subst e;refine(YZ d).imp ?_;rintro _ _ _ ⟨p,ys,a,b,c⟩;exact⟨p,ys,a,b,c⟩
def zH(i:X.K=K):bZ X (.builtin "isinstance") (rG K):=by subst i;refine kU.imp ?_;rintro _ _ _ ⟨p,ys,a,b,c,d,e,f,g,h⟩;exact⟨p,ys,a,b,c,d,e,f,g,h⟩
def fO(a:X.K=K)(c:PE X e ta)(b:attributeBase e f X.env (eval e X.env)=eval e X.env):PE X (.Attribute e f pos) (zM K ta f):=by subst a;exact z19 c b
def jI(a:X.K=K)(b:PE X l tl):PI X tg l (DS K tl):=by subst a;exact T1 b
def wX{h:List Lo}{i:Nat}{c p b:Pos}(j:X.K=K)(b1 b2:Bool){e1 a:Lo}{e:TA}(n:Gl X "zip")(k:X.mg "zip"=none)(m:PA X [e1,a] e)(l:↑(starEach [e1,a] X.env=(false,eval e1 X.env)::starEach [a] X.env)) (d:↑((backTo b<|starEach [a] X.env).any (·.1)=false)):PI X (.Tuple h i c) (.Call (.Name "zip" p) [e1,a] [] b) (vU K b1 b2 e):=by subst j;exact SQ b1 b2 n k m l d
def LJ{d:Lo}{p a:Pos}{e1:Lo}{c:TA}(j:X.K=K)(k:Gl X "reversed")(e:X.mg "reversed"=none)(i:PA X [e1] c)(h:↑(starEach [e1] X.env=(false,eval e1 X.env)::starEach [] X.env)) (b:↑((backTo a<|starEach [] X.env).any (·.1)=false)):PI X d (.Call (.Name "reversed" p) [e1] [] a) (AE K c):=by subst j;exact z2o k e i h b
def yY(a:X.K=K):HS X (zS K):=by subst a;exact UK
end
end
end L2
set_option Elab.async false
/- strict -/
/- ind2 -/
set_option linter.all false
set_option maxRecDepth 100000
namespace L2
open PySem PySem.Spec PyProof.Rows
section
structure uQ(K:Lj)(m:Lq)(f:Lh):Prop where
 get:W.specialIn K (.ref f) "__get__"=some (some<|.builtin "function.__get__")
 tk:W.takesIn K (.ref f)=some false
 cp:W.copiedNames.contains m=false
def zl3{K:Lj}(d:W.hasDictIn K C=true)(h:W.findIn K (.ref C) name=some (some<|.ref f))(j:W.specialIn K (.ref f) "__get__"=some (some g))(k:W.takesIn K (.ref f)=some false) (b:W.copiedNames.contains name=false) (c:W.lookIn name od=some none):W.findObj K C (some od) name=some (.bind g<|.ref f):=by
 let⟨l,a,i⟩:=W.any_some d;unfold W.findObj;let e:W.ownOf l (some od) name=some none:=by unfold W.ownOf;rw[Yl i];exact c
 rw[a,Option.bind_some,h,Option.bind_some];simp only[j,k,Option.bind_some,e,b,Bool.false_and,Bool.false_eq_true,if_false]
section
variable{X:Cx}{ak:La}{σ:St}{H:Hp}{s:Lk}{a C dx:Lh}{fs:List (Lq×V)}{m:Lq}{f:Lh}{A:Around}{E:Va}
def NM(I:aK X ak σ H s)(e:H a=some (.ins C dx fs))(c:iG X.K C)(k:rV X.K C m f)(d:uQ X.K m f)(l:fs.lookup m=none)(h:Q (.ref s.heap.objs.size) {s with heap:=s.heap.push<|W.methodObj (.ref f)<|.ref a,toks:=s.toks+1 }):wpAny (model X.prog X.w) A (getAttr (.ref a) m b) Q E s:=by let⟨j,O,r,_,_,_⟩:=yQ I.hok e;let n:j m=none:=eI.none_of (by rw[<- l];exact r m);let⟨od,J,i⟩:=O.look;refine W.get_bind I.kIn J (W.plainGet_of<|c.get m).1 (zl3 c.hd k.at_ d.get d.tk d.cp<|by rw[i,n]) (W.plainGet_of<|c.get m).2 ?_;exact wpAny_call<|W.fn_get (s:={s with toks:=s.toks+1 }) I.kIn (beq_iff_eq.mp k.fn)<|W.handed_on rfl h
def aK.repin(I:aK X (pa++(b,o)::pb) σ H s)(f:cH X (pa++pb) H₁ b)(k:∀c u,c≠b->s.heap.get? c=some u->h'.get? c=some u)(e:h'.get? b=some o') (j:∀v,o'.data≠.cell v):aK X (pa++(b,o')::pb) σ H {s with heap:=h',toks:=t' }:=by
 let d:=I.pin (b,o)<|Yg _<|Yg _<|.head _;let l:aK X (pa++pb) σ H s:=I.pins_of λp h=>I.pin p<|Yg _<|(Jv.mp h).elim (λz=>List.mem_append_left _ z) λz=>Yg _<|.tail _ z;let i:=l.turned (t':=t') (h':=h') (it:=b) k d.2.1 f.2.1 f.2.2.2.1 f.2.2.2.2.1 f.2.2.2.2.2;refine i.pins_of λp h=>?_;rcases Jv.mp h with z | z
 ·exact i.pin p<|Yg _<|List.mem_append_left _ z
 ·rcases Yj.mp z with rfl | z
  ·exact⟨e,d.2.1,f.2.1,f.2.2.1,j⟩
  ·exact i.pin p<|Yg _<|Yg _ z
def cH.more(f:cH X ak H b)(h:∀p∈pa,p.1≠b):cH X (pa++ak) H b:=by
 refine⟨f.1,f.2.1,f.2.2.1,f.2.2.2.1,f.2.2.2.2.1,λp c=>?_⟩;rcases Jv.mp c with z | z
 ·exact f.2.2.2.2.2 p<|List.mem_append_left _ z
 ·rcases Jv.mp z with z | z
  ·exact h p z
  ·exact f.2.2.2.2.2 p<|Yg _ z
end
def wH(X:Cx)(q f a:Lh)(sp:V->Hp->VK->Prop):Prop:=∀ak s (σ:St) H Q x u,aK X ak σ H s->(q,W.methodObj (.ref f)<|.ref a)∈ak->aS x u->sp x H Q ->
 wpAny (model X.prog X.w) X.A.in1 (call (.ref q) [u]) (EP X ak σ Q) (λ_ _=>False) s
def TD(F:cJ X.prog X.w X.K X.mg X.base dG k f fd ps sp)(m:bM (k+1) X.A)(n:cY X.K fd ps ds)(l:aN dvs ds):wH X q f a λx H Q=>sp (.ref a::x::dvs) H Q E0:=by
 intro ak s σ H Q x u I b j h;let c:aN (.ref a::x::dvs) ([.ref a,u]++ds):=.cons rfl<|.cons j l;let d:([.ref a,u]++ds).length=ps.length:=by rw[<- c.length];exact F.len _ _ _ _ h
 let i:=(I.pin _<|Yg _ b).1;refine wpAny_call<|W.method_call i ?_;refine codeAny_mono (F.run X.A.in1 X.stack s H ⟨[.ref a,u],[]⟩ ([.ref a,u]++ds) (.ref a::x::dvs) Q E0 m.in1 I.env0.in1 (n s [.ref a,u] I.kIn d) c h) λr s' b=>?_
 match r,b with
 | .error e,b=>exact Jf b
 | .ok (.ret u),b=>exact I.after b
 | .ok .next,b=>exact Jf b
 | .ok .brk,b=>exact Jf b
 | .ok .cont,b=>exact Jf b
def pX(K:Lj)(l:Lh)(all:Lg)(sp:V->Hp->VK->Prop):Lg->V->V->Hp->VK->Prop
 | [],b,_,H,Q=>Q b H
 | x::xs,b,kb,H,Q=>sp x H λk H1=>H1 l=some (.lst all)/\∃(a c:Lh) (ns ms:Lc),k=.ref a/\kb=.ref c/\aY K H1 a (ns.map V.int)/\aY K H1 c (ms.map V.int) /\
  (HT.lexLt ms ns=true->pX K l all sp xs x k H1 Q)/\(HT.lexLt ms ns=false->pX K l all sp xs b kb H1 Q)
def xY(K:Lj)(l:Lh)(all:Lg)(sp:V->Hp->VK->Prop):Lg->Hp->VK->Prop
 | [],_,_=>False
 | x::xs,H,Q=>sp x H λk H1=>H1 l=some (.lst all)/\pX K l all sp xs x k H1 Q
section
variable{X:Cx}{ak:La}{σ:St}{l q It S f a:Lh}{all:Lg}{sp:V->Hp->VK->Prop}{Q:VK}{H₁:Hp}
def JM(r:aN xs us):∀{i:Nat} {x},xs[i]?=some x->∃u,us[i]?=some u/\aS x u:=by
 induction r with
 | nil=>intro i x h;simp at h
 | cons r1 _ ih=>
  intro i x h;cases i with
  | zero=>simp at h;subst h;exact⟨_,rfl,r1⟩
  | succ i=>simp at h;let⟨u,e,z⟩:=ih h;exact⟨u,‹e›,z⟩
def z0u(hh:X.A.handled=none)(hu:X.A.units+1<cLine)(B:wH X q f a sp)(hlI:l≠It)(M:S≠It)(a1:q≠It)(a2:q≠S)(fI:cH X ak H₁ It)(fS:cH X ak H₁ S):∀rest j b kb y d c oI H s,all.drop (j+1)=rest->pX X.K l all sp rest b kb H Q->H l=some (.lst all) ->
   aK X ((It,oI)::(S,seqObj "list" #[y,d] c)::(q,W.methodObj (.ref f)<|.ref a)::ak) σ H s->s.heap.IsListIter It l (j+1)->aS b y->aS kb d ->
   codeAny (model X.prog X.w) X.A (.builtin "max.loop" ⟨[.ref It,.ref q,.ref S],[]⟩) (λr s'=>match r with | .ok (.ret v)=>EP X ak σ Q v s' | .ok _=>False | .error e=>X.xe e s') s:=by
 let G:(toString "max"++toString ".loop":String) = "max.loop":=by decide
 intro rest;induction rest with
 | nil=>
  intro j b kb y d c oI H s i U hH I P rb a0;let a7:all.length<=j+1:=List.drop_eq_nil_iff.mp i;let⟨its,n,rv,hl,_⟩:=I.lst hH;let O:s.heap.IsList l its.toArray:=⟨_,hl,rfl,n,rfl⟩;let nS:=I.pin (S,seqObj "list" #[y,d] c)<|Yg _<|.tail _<|.head _;refine codeAny_builtin PySem.F.entry_max_loop ?_;rw[Around.under_plainId PySem.F.plain_max_loop _];show wpAny _ X.A.in1 (seqItems? (.ref S) >>= _) _ _ _;refine Ya<|Js nS.1 rfl ?_;show wpAny _ X.A.in1 (tryCatch (pyNext<|.ref It) _ >>= _) _ _ _;refine Ya<|Jt<|wpAny_pyNext_list_end (A:=X.A.in1) hh P O (by rw[List.getElem?_toArray,Yy];rw[<- rv.length];exact a7) λh' b1=>?_;let pI:=I.pin (It,oI)<|Yg _<|.head _;let I1:aK X ((S,seqObj "list" #[y,d] c)::(q,W.methodObj (.ref f)<|.ref a)::ak) σ H s:=I.pins_of λp hp=>I.pin p<|Yg _<|.tail _ hp;let C:=fI.more (pa:=[(S,seqObj "list" #[y,d] c),(q,W.methodObj (.ref f)<|.ref a)]) (by simp[M,a1]);let L:=I1.turned (t':=s.toks) (h':=h') (it:=It) (λR o N e=>b1 R o N e) pI.2.1 C.2.1 C.2.2.2.1 C.2.2.2.2.1 C.2.2.2.2.2;let E:=L.pin (S,seqObj "list" #[y,d] c)<|Yg _<|.head _;show wpAny _ X.A.in1 (updateSeq S (λ_ => #[]) >>= _) _ _ _;refine Ya ?_;refine wpAny_updateSeq E.1 rfl<|Ya<|wpAny_letGo<|Yb ?_;let D:=fS.more (pa:=[(q,W.methodObj (.ref f)<|.ref a)]) (by simp[a2]);let I3:aK X ((q,W.methodObj (.ref f)<|.ref a)::ak) σ H {s with heap:=h' }:=L.pins_of λp hp=>L.pin p<|Yg _<|.tail _ hp;let sb:=Heap.SameBut.update h' S<|Obj.mapSeq λ_=>(#[]:Array Li);let I4:=I3.turned (t':=s.toks) (h':=h'.update S<|Obj.mapSeq λ_ => #[]) (it:=S) (λR o N e=>(sb.2 R N).trans e) E.2.1 D.2.1 D.2.2.2.1 D.2.2.2.2.1 D.2.2.2.2.2;exact⟨b,H,I4.pins_of λp hp=>I4.pin p<|Yg _<|.tail _ hp,rb,U⟩
 | cons x xs ih=>
  intro j b kb y d c oI H s i U hH I P rb a0;let hx:all[j+1]?=some x:=by rw[<- List.head?_drop,i];rfl
  let m:all.drop (j+1+1)=xs:=by rw[<- List.tail_drop,i];rfl
  let⟨its,n,rv,hl,_⟩:=I.lst hH;let O:s.heap.IsList l its.toArray:=⟨_,hl,Z,n,Z⟩;let⟨u,b4,ru⟩:=JM rv hx;let nS:=I.pin (S,seqObj "list" #[y,d] c)<|Yg _<|.tail _<|.head _;refine codeAny_builtin PySem.F.entry_max_loop ?_;rw[Around.under_plainId PySem.F.plain_max_loop _];show wpAny _ X.A.in1 (seqItems? (.ref S) >>= _) _ _ _;refine Ya<|Js nS.1 rfl ?_;show wpAny _ X.A.in1 (tryCatch (pyNext<|.ref It) _ >>= _) _ _ _;refine Ya<|Jt<|wpAny_pyNext_list_item P O (x:=u) (by rw[List.getElem?_toArray];exact b4) λh' a8 b0=>?_;let⟨h,a9,a5,T⟩:=id a8;let C:=fI.more (pa:=[(S,seqObj "list" #[y,d] c),(q,W.methodObj (.ref f)<|.ref a)]) (by simp[M,a1]);let I1:aK X ((It,h)::(S,seqObj "list" #[y,d] c)::(q,W.methodObj (.ref f)<|.ref a)::ak) σ H {s with heap:=h' }:=
   aK.repin (pa:=[]) (t':=s.toks) I C (λR o N e=>(b0.2 R N).trans e) a9 (by intro v z;rw[T]at z;cases z)
  show wpAny _ X.A.in1 (tryCatch (holding [u]<|call (.ref q) [u]) _ >>= _) _ _ _;refine Ya<|Jt<|Jr<|wpAny_mono (B _ _ σ H _ x u I1 (.tail _<|.tail _<|.head _) ru U) (λuk Y he=>?_) λ_ _ hF=>hF.elim;let⟨k,H1,L,rk,a3,J,c',ns,ms,rfl,rfl,b8,b7,h1,h2⟩:=he;obtain rfl:uk=Value.ref J:=rk;obtain rfl:d=Value.ref c':=a0;let⟨b6,r1,p1,_⟩:=L.tuple b8;let⟨b2,r2,p2,_⟩:=L.tuple b7;let i1:IntsAre b6.toArray.toList ns:=xE r1;let i2:IntsAre b2.toArray.toList ms:=xE r2;let E:=L.pin (S,seqObj "list" #[y,.ref c'] c)<|Yg _<|.tail _<|.head _;let a4:=L.pin (It,h)<|Yg _<|.head _;let a6:Y.heap.IsListIter It l (j+1+1):=⟨h,a4.1,a5,T⟩;show wpAny _ X.A.in1 (tryCatch (holding [u,.ref J]<|richCompare .Gt (.ref J) (.ref c') >>= _) _ >>= _) _ _ _;refine Ya<|Jt<|Jr<|Ya<|HT.gt_tupInts (A:=X.A.in1) p1 p2 i1 i2 hu ?_;refine Ya<|Jr<|Jq ?_;refine Ya<|wpAny_letGo<|Yb ?_;cases N:HT.lexLt ms ns with
  | true=>
   let sb:=Heap.SameBut.update Y.heap S<|Obj.mapSeq λ_ => #[u,.ref J];obtain⟨c2,b5⟩:∃c2,(Y.heap.update S<|Obj.mapSeq λ_ => #[u,.ref J]).get? S=some (seqObj "list" #[u,.ref J] c2):=⟨_,get?_update_seq E.1 λ_ => #[u,.ref J]⟩;simp only[if_true];refine Ya ?_;refine wpAny_updateSeq E.1 rfl<|Ya<|wpAny_letGo ?_;rw[G];let D:cH X ((It,h)::(q,W.methodObj (.ref f)<|.ref a)::ak) H₁ S:=fS.more (pa:=[(It,h),(q,W.methodObj (.ref f)<|.ref a)]) (by simp[M.symm,a2]);let I3:aK X ((It,h)::(S,seqObj "list" #[u,.ref J] c2)::(q,W.methodObj (.ref f)<|.ref a)::ak) σ H1 { Y with heap:=Y.heap.update S (Obj.mapSeq λ_ => #[u,.ref J]) }:=
    aK.repin (pa:=[(It,h)]) (t':=Y.toks) L D (λR o b3 e=>(sb.2 R b3).trans e) b5 (by intro v z;cases z)
   exact Yb ⟨plainId_quiet PySem.F.plain_max_loop _,ih (j+1) x (.ref J) u (.ref J) c2 h H1 _ m (h1 N) a3 I3 ⟨h,(sb.2 It M.symm).trans a4.1,a5,T⟩ ru rfl⟩
  | false=>
   simp only[Bool.false_eq_true,if_false];refine Ya<|wpAny_letGo ?_;rw[G];exact Yb ⟨plainId_quiet PySem.F.plain_max_loop _,ih (j+1) b (.ref c') y (.ref c') c h H1 _ m (h2 N) a3 L a6 rb rfl⟩
end
end
section
structure BM(K:Lj)(C:Lh)(m:Lq):Prop where
 ex:∃f,W.findIn K (.ref C) m=some (some<|.ref f)/\uQ K m f
def z3q(K:Lj)(C:Lh)(m:Lq)(sp:Sp)(dvs:Lg)(te ta:TE):TE:=λσ H Q=>te σ H λv H1=>ta σ H1 λo H2=>∃a dx fs l all,o=.ref a/\H2 a=some (.ins C dx fs)/\fs.lookup m=none /\
 v=.ref l/\H2 l=some (.lst all)/\xY K l all (λx H Q=>sp (.ref a::x::dvs) H Q E0) all H2 Q
section
variable{X:Cx}{k j:Nat}{C:Lh}{ps:Lf}{sp:Sp}{dvs:Lg}{ds:List Li}{m:Lq}{p pos apos kpos:Pos}{e o:Lo}{te ta:TE}
def aK.pinNew{σ:St}(I:aK X ak σ H s)(h:ob.isFreed=false)(d:∀v,ob.data≠.cell v):aK X ((s.heap.objs.size,ob)::ak) σ H {s with heap:=s.heap.push ob,toks:=t' }:=by
 let c:aK X ak σ H {s with heap:=s.heap.push ob,toks:=t' }:=I.kept λb u e=>Ye _ e;refine c.pins_of λq a=>?_;rcases Yj.mp a with rfl | a
 ·exact⟨Yk _ h,I.hok.fresh<|Yi _,Nat.ne_of_gt I.lt,I.nofs<|Yi _,d⟩
 ·exact c.pin q<|Yg _ a
def U5{σ:St}{sp:V->Hp->VK->Prop}(hr:bM j X.A)(B:wH X q f a sp)(I:aK X ((q,W.methodObj (.ref f)<|.ref a)::ak) σ H s)(hH:H l=some (.lst all)) (h:xY X.K l all sp all H Q):↥X (call (.builtin "max") [.ref l] [(Str.ofString "key",.ref q)]) (EP X ak σ Q) X.xe s:=by
 let c:(toString "max"++toString ".loop":String) = "max.loop":=by decide
 let hh:X.A.handled=none:=hr.hd;let hu:X.A.units+1<cLine:=by have:=hr.un;lia
 cases all with
 | nil=>exact Jf h
 | cons x xs=>
  let⟨its,n,rv,hl,_⟩:=I.lst hH;let a1:s.heap.IsList l its.toArray:=⟨_,hl,Z,n,Z⟩;let a2:l<s.heap.objs.size:=Yn hl;refine kmk_tree PySem.F.kind_max PySem.F.plain_max PySem.F.entry_max (kmk_max_key _ _) ?_;show wpAny _ X.A.in1 (Builtin.Builtins.bindParams "max" ["key","default"] 0 ⟨[],[(Str.ofString "key",.ref q)]⟩ >>= _) _ _ s;refine Ya<|wpAny_of_eq (show Builtin.Builtins.bindParams "max" ["key","default"] 0 ⟨[],[(Str.ofString "key",.ref q)]⟩=pure [some<|.ref q,none] from rfl) ?_;refine Ya<|Yb ?_;refine Ya<|wpAny_pyIter_list a1 ?_;refine Ya<|wpAny_newList ?_<|Y2 _;rw[c];let R:(s.heap.push { cls:=.type "list_iterator",data:=.fields #[.ref l,.int 0 0] }).objs.size=s.heap.objs.size+1:=size_push' ..;let nq:=I.pin (q,W.methodObj (.ref f)<|.ref a)<|Yg _<|.head _;let N:q<s.heap.objs.size:=Yn nq.1;let I0:aK X ak σ H s:=I.pins_of λp y=>I.pin p<|Yg _<|.tail _ y;let Ia:aK X ((s.heap.objs.size,{ cls:=.type "list_iterator",data:=.fields #[.ref l,.int 0 0] })::(q,W.methodObj (.ref f)<|.ref a)::ak) σ H {s with heap:=s.heap.push { cls:=.type "list_iterator",data:=.fields #[.ref l,.int 0 0] } }:=I.pinNew (t':=s.toks) rfl (by intro v z;cases z);let U:=Ia.pinNew (t':=s.toks) (ob:=seqObj "list" #[] 0) Z (by intro v z;cases z);let fI:cH X ak H s.heap.objs.size:=I0.fpOk (Yi _)<|I.hok.fresh<|Yi _;let fS:cH X ak H (s.heap.push { cls:=.type "list_iterator",data:=.fields #[.ref l,.int 0 0] }).objs.size:=I0.fpOk (by rw[R];exact Nat.le_succ _)<|I.hok.fresh (by rw[R];exact Nat.le_succ _);generalize hS0:(s.heap.push { cls:=.type "list_iterator",data:=.fields #[.ref l,.int 0 0] }).objs.size=S at *;let a6:l≠s.heap.objs.size:=Y0 a2;let G:q≠s.heap.objs.size:=Y0 N;let d:S≠s.heap.objs.size:=by rw[R];exact Nat.ne_of_gt<|Nat.lt_succ_self _
  let J:q≠S:=by rw[R];exact Y0<|Nat.lt_succ_of_lt N
  refine Yb ⟨plainId_quiet PySem.F.plain_max_loop _,?_⟩;let nS:=U.pin (S,seqObj "list" #[] 0)<|Yg _ (by rw[<- hS0];exact .head _);let nI:=U.pin (s.heap.objs.size,_)<|Yg _<|.tail _<|.head _;let⟨its',n',a9,b4,_⟩:=U.lst hH;let O:((s.heap.push { cls:=.type "list_iterator",data:=.fields #[.ref l,.int 0 0] }).push (seqObj "list" #[] 0)).IsList l its'.toArray:=⟨_,b4,Z,n',Z⟩;let⟨u,b0,ru⟩:=JM (i:=0) a9 rfl;refine codeAny_builtin PySem.F.entry_max_loop ?_;rw[Around.under_plainId PySem.F.plain_max_loop _];show wpAny _ X.A.in1 (seqItems? (.ref S) >>= _) _ _ _;refine Ya<|Js nS.1 rfl ?_;show wpAny _ X.A.in1 (tryCatch (pyNext<|.ref s.heap.objs.size) _ >>= _) _ _ _;refine Ya<|Jt<|wpAny_pyNext_list_item (i:=0) ⟨_,nI.1,Z,Z⟩ O (x:=u) (by rw[List.getElem?_toArray];exact b0) λh' L a0=>?_;let⟨b,P,a8,M⟩:=id L;let Ic:aK X ((s.heap.objs.size,b)::(S,seqObj "list" #[] 0)::(q,W.methodObj (.ref f)<|.ref a)::ak) σ H {s with heap:=h' }:=by
   let a3:cH X ([(S,seqObj "list" #[] 0)]++(q,W.methodObj (.ref f)<|.ref a)::ak) H s.heap.objs.size:=fI.more (pa:=[(S,seqObj "list" #[] 0),(q,W.methodObj (.ref f)<|.ref a)]) (by simp[d,G]);let Iz:=aK.repin (pa:=[(S,seqObj "list" #[] 0)]) (t':=s.toks) (h':=h') U a3 (λb' o hb e=>(a0.2 b' hb).trans e) P (by intro v z;rw[M]at z;cases z);refine Iz.pins_of λp y=>Iz.pin p<|Yg _ ?_;rcases Yj.mp y with rfl | y
   ·exact .tail _<|.head _
   ·rcases Yj.mp y with rfl | y
    ·exact .head _
    ·exact .tail _<|.tail _ y
  show wpAny _ X.A.in1 (tryCatch (holding [u]<|call (.ref q) [u]) _ >>= _) _ _ _;refine Ya<|Jt<|Jr<|wpAny_mono (B _ _ σ H _ x u Ic (.tail _<|.tail _<|.head _) ru h) (λr D he=>?_) λ_ _ hF=>hF.elim;let⟨kv,H1,Y,rk,a5,b2⟩:=he;let E:=Y.pin (S,seqObj "list" #[] 0)<|Yg _<|.tail _<|.head _;let a7:=Y.pin (s.heap.objs.size,b)<|Yg _<|.head _;let sb:=Heap.SameBut.update D.heap S<|Obj.mapSeq λ_ => #[u,r];obtain⟨T,b1⟩:∃T,(D.heap.update S<|Obj.mapSeq λ_ => #[u,r]).get? S=some (seqObj "list" #[u,r] T):=⟨_,get?_update_seq E.1 λ_ => #[u,r]⟩;show wpAny _ X.A.in1 (updateSeq S (λ_ => #[u,r]) >>= _) _ _ _;refine Ya ?_;refine wpAny_updateSeq E.1 rfl ?_;rw[c];let b3:cH X ((s.heap.objs.size,b)::(q,W.methodObj (.ref f)<|.ref a)::ak) H S:=fS.more (pa:=[(s.heap.objs.size,b),(q,W.methodObj (.ref f)<|.ref a)]) (by simp[d.symm,J]);let I3:aK X ((s.heap.objs.size,b)::(S,seqObj "list" #[u,r] T)::(q,W.methodObj (.ref f)<|.ref a)::ak) σ H1 { D with heap:=D.heap.update S (Obj.mapSeq λ_ => #[u,r]) }:=
   aK.repin (pa:=[(s.heap.objs.size,b)]) (t':=D.toks) Y b3 (λb' o a4 e=>(sb.2 b' a4).trans e) b1 (by intro v z;cases z)
  exact Yb ⟨plainId_quiet PySem.F.plain_max_loop _,z0u (H₁:=H) hh hu B a6 d G J fI fS xs 0 x kv u r T b H1 _ Z b2 a5 I3 ⟨b,(sb.2 _ d.symm).trans a7.1,a8,M⟩ ru rk⟩
def TJ(c:cQ X.prog X.w X.K X.mg X.base dG k C m ps ds sp)(b:BM X.K C m)(N:PE X e te)(J:PE X o ta)(G:bM j X.A)(hd:aN dvs ds)(hm:X.mg ("max":Lq)=none)(L:↑↑(k+1<=j))(hg:↑(Gl X "max"))
  (hb:↑(attributeBase o m X.env (eval o X.env)=eval o X.env)) (q:↑(starEach [e] X.env=(false,eval e X.env)::starEach [] X.env)):
  PE X (.Call (.Name "max" p) [e] [⟨some "key",.Attribute o m apos,kpos⟩] pos) (z3q X.K C m sp dvs te ta):=by
 let⟨f,fd,F,y,i⟩:=c.ex;let⟨B,S,U⟩:=b.ex;have:B=f:=by let z:=i.at_;rw[S]at z;injection z with z;injection z with z;injection z
 subst this;intro ak s σ H Q I h;refine wpAny_Call_Name_kw<|nZ I hg hm boot_max ?_;let h':lJ te hC σ H (λvs H1=>match vs with
   | [v]=>ta σ H1 λo n=>∃(a E:Lh) (fs:List (Lq×V)) (l:Lh) (all:Lg),o=.ref a/\n a=some (.ins C E fs)/\fs.lookup m=none /\
     v=.ref l/\n l=some (.lst all)/\xY X.K l all (λx H Q=>sp (.ref a::x::dvs) H Q E0) all n Q
   | _=>False):=h
 refine callWith_kw (bC ((aL N aU q) ak s σ H _ I h') λus T d=>?_) (by rw[q];rfl) (by rw[q];rfl);let⟨vs,H1,I1,O,u⟩:=d;cases O with
 | nil=>exact Jf u
 | cons ru rr=>
  cases rr with
  | cons _ _=>exact Jf u
  | nil=>
   refine kwAll_cons<|FH hb<|bC (J T σ H1 _ I1 u) λuo M d=>?_;let⟨ov,n,D,ro,a,E,fs,l,all,eo,P,R,ev,Y,r⟩:=d;subst eo;subst ev;cases ro;cases ru;refine NM D P c.cl i U R<|kwAll_nil ?_;let I3:=D.pinNew (t':=M.toks+1) (ob:=W.methodObj (.ref B)<|.ref a) rfl (by intro v z;cases z);exact U5 G (TD F (G.mono L) y hd) I3 Y r
end
end
section
def aK.unpin{σ:St}(I:aK X ((D,seqObj "list" vs.toArray n)::ak) σ H s)(f:cH X ak H₁ D)(r:aN xs vs)(hz:xs.length<=sizeLine):aK X ak σ (upd H D<|.lst xs) s:=by
 let i:=I.pin (D,seqObj "list" vs.toArray n)<|Yg _<|.head _;let h:aK X ak σ H s:=I.pins_of λp k=>I.pin p<|Yg _<|.tail _ k;let d:∀b o,H b=some o->b≠D:=λb o e z=>by rw[z,i.2.1]at e;cases e
 let st:=h.step (h':=s.heap) (H':=upd H D<|.lst xs) (g':=s.gens) (d':=s.drawn) (t':=s.toks) (ch:=[D])
  (λb a=>by rw[Yq.mp a];exact⟨f.2.2.2.1,f.2.1,f.2.2.2.2.1,f.2.2.2.2.2⟩)
  (λb o _ _ _ e _=>e) (λb o _ _ _ e _=>⟨o.slots,e⟩) (λb o a _ e=>by rw[aV<|λz=>a<|by simp[z]];exact e)
  (λb o _ e=>⟨o,e⟩) (λb xs e=>by rw[aV<|d b _ e];exact e) (λb o u e=>by rw[aV<|d b _ e];exact e) (λb ps e=>⟨#[],by rw[aV<|d b _ e];simpa using e⟩)
  (λm j=>j) (λb o e=>?_) h.bare
 ·exact st
 ·by_cases a:b=D
  ·subst a;rw[aW]at e;cases e;exact⟨hz,vs,n,r,i.1⟩
  ·rw[aV a]at e;exact(I.hok b o e).stay (λc v hc q=>q) (λc q=>(by rw[aV<|d _ _ q];exact q)) λc w q=>(by rw[aV<|d _ _ q];exact q)
end
end L2
namespace TS
open PySem PyProof.Rows
section
structure DE(prog:Lm)(w:Ll)(A:Around)(s:Lk)(kd:SortKind)(a₀:Array Keyed)(O:KeyOrd)(key:Keyed->O.α):Prop where
 ask:∀x∈a₀.toList,∀y∈a₀.toList,∀(Q:Bool->Lk->Prop) (E:Va),Q (O.blt (key x)<|key y) s->⇑A (keyLt' kd x.1 y.1) Q E s
end
section
section
variable{O:KeyOrd}(key:Keyed->O.α)
def RX(l:List Keyed):Prop:=l.Pairwise λx y=>O.kle (key x)<|key y
variable{key}{la lb o:List Keyed}{ia ib:Nat}{x:Keyed}
end
end
section
open HT (lexLt)
open PySem.W (KatLex kat_nil kat_cons kat_yes kat_no kat_one kat_lt)
theorem qS:∀x:Lc,lexLt x x=false
 | []=>rfl
 | a::x=>by rw[HT.lexLt_cons,Yl Z];exact qS x
theorem uU:∀{x y z:Lc},lexLt x y=true->lexLt y z=true->lexLt x z=true
 | [],[],_,h,_=>by cases h
 | [],_::_,[],_,h=>by cases h
 | [],_::_,_::_,_,_=>rfl
 | _::_,[],_,h,_=>by cases h
 | _::_,_::_,[],_,h=>by cases h
 | a::x,b::y,c::z,h1,h2=>by
  rw[HT.lexLt_cons]at h1 h2 ⊢;by_cases e1:a=b
  ·rw[Yl e1]at h1;by_cases e2:b=c
   ·rw[Yl e2]at h2;rw[Yl<|e1.trans e2];exact uU h1 h2
   ·rw[Yh e2]at h2;rw[Yh ⋯,e1];exact h2
  ·rw[Yh e1]at h1;let l1:a<b:=Jk h1;by_cases e2:b=c
   ·rw[Yl e2]at h2;rw[Yh ⋯];exact Yo ⋯
   ·rw[Yh e2]at h2;let l2:b<c:=Jk h2;rw[Yh ⋯];exact Yo ⋯
theorem vA:∀{x y:Lc},x≠y->lexLt x y = !lexLt y x
 | [],[],h=>absurd rfl h
 | [],_::_,_=>rfl
 | _::_,[],_=>rfl
 | a::x,b::y,h=>by
  rw[HT.lexLt_cons,HT.lexLt_cons];by_cases e:a=b
  ·rw[Yl e,Yl e.symm];exact vA λz=>h (by rw[e,z])
  ·rw[Yh e,Yh<|Jc e];by_cases l:a<b
   ·rw[Yo l,Yw ⋯];rfl
   ·rw[Yw l,Yo ⋯];rfl
def vS:KeyOrd where
 α:=Lc
 blt:=lexLt
 irrefl:=qS
 trans:=λ_ _ _ h1 h2=>uU h1 h2
 negTrans:=λa b c h=>by
  cases q:lexLt a b with
  | true=>exact .inl rfl
  | false=>
   refine .inr ?_;by_cases e:a=b
   ·rw[<- e];exact h
   ·let z:=vA e;rw[q]at z;let z':lexLt b a=true:=by simpa using z.symm
    exact uU z' h
 total:=λa b h1 h2=>by
  by_cases e:a=b
  ·exact e
  ·let z:=vA e;rw[h1,h2]at z;cases z
section
variable{prog:Lm}{w:Ll}{A:Around}{s:Lk}
def ZM(b:Bool){x y:Int}{t u:Tok}{Q:Bool->Lk->Prop}{E:Va}(h:Q (decide<|x<y) s):⇑A (oneLt' b (.int x t)<|.int y u) Q E s:=by
 cases b with
 | true=>exact oneLt_int h
 | false=>exact kat_one _ _<|PyProof.Rows.lt_int<|show W.BoolBack Q (.bool<|decide<|x<y) s from h
theorem KD:∀ns ms {vs us} i fin,IntsAre vs ns->IntsAre us ms->fin=decide (ns.length<ms.length)->Q (lexLt ns ms) s ->
  KatLex prog w A b fin Q (vs.zip us) i s
 | [],[],vs,us,i,fin,hv,hu,hf,h=>by cases hv;cases hu;rw[hf];exact kat_nil h
 | [],_::_,vs,us,i,fin,hv,hu,hf,h=>by cases hv;cases hu;rw[HT.lexLt_nil_cons]at h;rw[hf];exact kat_nil ‹h›
 | _::_,[],vs,us,i,fin,hv,hu,hf,h=>by cases hv;cases hu;rw[HT.lexLt_cons_nil]at h;rw[hf];exact kat_nil ‹h›
 | n::ns,m::ms,_,_,i,fin,.cons _ t hv,.cons _ u hu,hf,h=>by
  rw[List.zip_cons_cons];rw[HT.lexLt_cons]at h;let⟨e,c,a⟩:=HT.eqAt_int A s n t m u;refine kat_cons<|c prog w _ _ ?_;cases e with
  | true=>
   rw[Yl<|a.mp rfl]at h;exact kat_yes<|KD ns ms (i+1) fin hv hu (by rw[hf];simp) h
  | false=>
   rw[Yh<|λq=>absurd (a.mpr q) Yt]at h;exact kat_no<|ZM _ h
def fW(h:Lp)(v:Li)(ns:Lc):Prop:=∃a its,v=.ref a/\IsTup h a its/\IntsAre its.toList ns
def fW.uniq(i:fW h v ns)(c:fW h v ms):ns=ms:=by let⟨a,its,rfl,⟨o,e,_,n,d⟩,k⟩:=i;let⟨a',its',l,⟨o',b,_,n',d'⟩,j⟩:=c;cases l;rw[e]at b;cases b;rw[d]at d';cases d';rw[<- k.nums,<- j.nums]
open Classical in
noncomputable def vB(h:Lp)(x:Keyed):Lc:=if e:∃ns,fW h x.1 ns then e.choose else []
def CI(t:fW h x.1 ns):vB h x=ns:=by unfold vB;let e:∃ns,fW h x.1 ns:=⟨ns,t⟩;rw[dif_pos e];exact e.choose_spec.uniq t
def VQ(b:Bool)(h:∀x∈a₀.toList,∃i,fW s.heap x.1 i):DE prog w A s (tuples' b) a₀ vS (vB s.heap):=by refine⟨λx u y z Q E k=>?_⟩;let⟨i,p⟩:=h x u;let⟨v,ty⟩:=h y z;rw[CI p,CI ty]at k;let⟨a,its,r,⟨o,e,_,n,d⟩,l⟩:=p;let⟨a',its',c,⟨o',B,_,n',d'⟩,j⟩:=ty;rw[r,c];refine kat_lt e d B d'<|KD i v 0 _ l j ?_ k;let m:=l.length;let q:=j.length;simp only[Array.length_toList]at m q;rw[m,q]
end
end
section
open PySem.W
def pR(F:List (Nat×Nat)):Nat->Nat->Nat->Bool
 | 0,_,_=>false
 | f+1,a,b=>(F.any λp=>p.1==a&&p.2==b)||F.any λp=>p.1==a&&pR F f p.2 b
def HP(F:List (Nat×Nat)):List Nat->Bool
 | a::b::l=>pR F 5 a b&&HP F (b::l)
 | _=>true
def CY(n:Nat):KasT (Array Nat)->List (Nat×Nat)->Bool
 | .ret p,F=>p.toList.isPerm (List.range n)&&HP F p.toList
 | .ask i j k,F=>decide (i<n/\j<n)&&(CY n (k true) ((i,j)::F)&&CY n (k false) ((j,i)::F))
def HM:[2,3,4,5,6].all (λn=>CY n (kas_sort n) [])=true:=by decide +kernel
section
variable{R:Nat->Nat->Prop}{F:List (Nat×Nat)}(tr:∀a b c,R a b->R b c->R a c)(h:∀p∈F,R p.1 p.2)
include tr h
theorem II:∀{f a b},pR F f a b=true->R a b
 | f+1,a,b,e=>by
  rcases Bool.or_eq_true .. |>.mp e with e | e
  all_goals
   let⟨p,i,q⟩:=List.any_eq_true.mp e;let⟨d,c⟩:=Jz .. |>.mp q;let r:=h p i;rw[Jy d]at r
  ·rw[Jy c]at r;exact r
  ·exact tr _ _ _ r<|II c
theorem IH:∀{l},HP F l=true->l.Pairwise R
 | [],_=>.nil
 | [_],_=>List.pairwise_singleton _ _
 | a::b::l,e=>by
  let⟨e1,i⟩:=Jz .. |>.mp e;let d:=IH i;let r:=II tr h e1;refine List.pairwise_cons.mpr ⟨λx c=>?_,d⟩;rcases Yj.mp c with rfl | c
  ·exact r
  ·exact tr _ _ _ r<|(List.pairwise_cons.mp d).1 x c
end
section
variable{prog:Lm}{w:Ll}{A:Around}{E:Va}{s:Lk}{kd:SortKind}{a₀:Array Keyed}{O:KeyOrd}{key:Keyed->O.α}
theorem EO(C:DE prog w A s kd a₀ O key){G:Array Nat->Lk->Prop}(l:∀p,p.toList.Perm (List.range a₀.size)->(p.toList.Pairwise λi j=>O.kle (key<|kas_item a₀ i)<|key<|kas_item a₀ j)->G p s):∀T F,(∀p∈F,O.kle (key<|kas_item a₀ p.1)<|key<|kas_item a₀ p.2)->CY a₀.size T F=true->T.kasWp (kas_cmp prog w A kd a₀) G s
 | .ret p,F,h,c=>by let⟨m,a⟩:=Jz .. |>.mp c;exact l p (List.isPerm_iff.mp m)<|IH (λ_ _ _=>KeyOrd.kle_trans) h a
 | .ask i j k,F,h,c=>by
  let⟨m,a⟩:=Jz .. |>.mp c;let⟨a,n⟩:=Jz .. |>.mp a;let⟨d,o⟩:=Jk m;let mem:∀i,i<a₀.size->kas_item a₀ i∈a₀.toList:=λi d=>by simp[kas_item,Array.getD,d]
  refine C.ask _ (mem i d) _ (mem j o) _ _ ?_;cases q:O.blt (key<|kas_item a₀ i) (key<|kas_item a₀ j) with
  | true=>exact EO C l (k true) _ (λp b=>(Yj.mp b).elim (λe=>by rw[e];exact KeyOrd.kle_of_klt q) (h p)) a
  | false=>exact EO C l (k false) _ (λp b=>(Yj.mp b).elim (λe=>by rw[e];exact q) (h p)) n
def W3(C:DE prog w A s kd a₀ O key){Q:Unit->SortSt->Prop}(c:2<=a₀.size)(h6:a₀.size<7)(h:∀b,failedOf b=none->(arrOf b).toList.Perm a₀.toList->RX key (arrOf b).toList->Q () b):wpS (model prog w) A E s sortRuns' Q (SortSt.mk' kd a₀ #[] 7 none):=by
 let e:=kas_range a₀;have:=kas_runs (E:=E) (it:=a₀) (κ:=kd) (n:=a₀.size) (Q:=λa b s'=>s'=s/\Q a b) (G:=λp s'=>s'=s/\p.toList.Perm (List.range a₀.size)/\p.toList.Pairwise λi j=>O.kle (key<|kas_item a₀ i)<|key<|kas_item a₀ j) c ⋯ (λp' b s' _ d m ⟨o,l,hw⟩=>⟨o,h b m ?_ ?_⟩) (EO C (λp k c=>⟨Z,k,c⟩) _ [] (λp z=>by cases z)<|List.all_eq_true.mp HM _<|by simp;lia)
 ·unfold kas_st at this;rw[e]at this;exact this
 ·have:=l.map<|kas_item a₀;rw[d,Array.toList_map];refine this.trans<|.of_eq ?_;have:=Jx Array.toList e;rw[Array.toList_map]at this;exact this
 ·rw[d,Array.toList_map];exact List.pairwise_map.mpr hw
end
end
section
open L2 (V aN aS)
section
variable{α β γ δ:Type}{R:α->β->Prop}
def Z6(p:l.Perm l'):∀{k},Paired R k l->∃a,a.Perm k/\Paired R a l':=by
 induction p with
 | nil=>intro k h;exact⟨k,.refl _,h⟩
 | cons x _ ih=>
  intro k h;cases h with
  | cons r t=>
   let⟨a,i,h'⟩:=ih t;exact⟨_::a,i.cons _,.cons r h'⟩
 | swap x y l=>
  intro k h;cases h with
  | cons r t=>
   cases t with
   | cons r' t=>exact⟨_::_::_,.swap _ _ _,.cons r'<|.cons r t⟩
 | trans _ _ ih1 ih2=>
  intro k h;let⟨k1,c,d⟩:=ih1 h;let⟨b,j,e⟩:=ih2 d;exact⟨b,j.trans c,e⟩
def ZW(h:Paired R k l):∀p∈k,∃x∈l,R p x:=by
 induction h with
 | nil=>intro p a;cases a
 | cons r _ ih=>
  intro p a;rcases Yj.mp a with rfl | a
  ·exact⟨_,.head _,r⟩
  ·let⟨x,b,z⟩:=ih p a;exact⟨x,.tail _ b,z⟩
def zlm(h:Paired R k l):∀x∈l,∃p∈k,R p x:=by
 induction h with
 | nil=>intro p a;cases a
 | cons r _ ih=>
  intro p a;rcases Yj.mp a with rfl | a
  ·exact⟨_,.head _,r⟩
  ·let⟨x,b,z⟩:=ih p a;exact⟨x,.tail _ b,z⟩
def zhd(a:∀p q x y,R p x->R q y->S x y->T p q){k:List α}{l:List β}(h:Paired R k l):l.Pairwise S->k.Pairwise T:=by
 induction h with
 | nil=>intro _;exact .nil
 | cons r t ih=>
  intro c;let⟨d,e⟩:=List.pairwise_cons.mp c;refine List.pairwise_cons.mpr ⟨λq b=>?_,ih e⟩;let⟨y,i,z⟩:=ZW t q b;exact a _ _ _ _ r z<|d y i
def CN(h:Paired R k l):∀{a:List γ} {l':List δ},Paired R' a l'->Paired (λp x=>R p.1 x.1/\R' p.2 x.2) (k.zip a) (l.zip l'):=by
 induction h with
 | nil=>intro a l' _;exact .nil
 | cons r _ ih=>
  intro a l' h';cases h' with
  | nil=>exact .nil
  | cons r' t'=>exact .cons ⟨r,r'⟩<|ih t'
def paired_reverse(h:Paired R k l):Paired R k.reverse l.reverse:=by
 let e:∀{a b:List α} {c d:List β},Paired R a c->Paired R b d->Paired R (a++b) (c++d):=by
  intro a b c d j i;induction j with
  | nil=>exact i
  | cons r _ ih=>exact .cons r ih
 induction h with
 | nil=>exact .nil
 | cons r _ ih=>
  rw[List.reverse_cons,List.reverse_cons];exact e ih<|.cons r .nil
def ZG(a:∀p x,R p x->S (f p) (g x)){k:List α}{l:List β}(h:Paired R k l):Paired S (k.map f) (l.map g):=by
 induction h with
 | nil=>exact .nil
 | cons r _ ih=>exact .cons (a _ _ r) ih
end
section
variable{prog:Lm}{w:Ll}{A:Around}{E:Va}{s:Lk}
def U8{st:SortSt}(j:s.heap.get? kS=some (seqObj "list" ks e))(i:s.heap.get? D=some (seqObj "list" #[] e1))(c:D≠kS)(d:failedOf st=none)(hz:ks.size<=sizeLine) (hz2:(arrOf st).size<=sizeLine)(h:P (.done<|.ret .none) {s with heap:=(s.heap.update kS<|Obj.mapSeq λ_ => #[]).update D (Obj.mapSeq λ_=>if b=true then((arrOf st).map (·.2)).reverse else(arrOf st).map (·.2)) }):⇑A (ksk_tail D b e1 (.ref kS) st) P E s:=by
 let k:=Heap.SameBut.update s.heap kS<|Obj.mapSeq λ_=>(#[]:Array Li);let a:(s.heap.update kS<|Obj.mapSeq λ_=>(#[]:Array Li)).get? D=some (seqObj "list" #[] e1):=(k.2 D c).trans i;unfold ksk_tail;dsimp only;refine Ya<|listUpdate_at j rfl ?_ hz<|Y2 _;refine Ya<|wpAny_letGo ?_;refine Ya<|seqEpoch_at a rfl ?_;refine Ya (listUpdate_at a rfl ?_ (Y2 _) (by
  split
  ·rw[Array.size_reverse,Array.size_map];lia
  ·rw[Array.size_map];lia))
 rw[d];simp only[bne_self_eq_false,Bool.false_eq_true,if_false];exact Yb h
def UV(R:s.heap.get? kS=some (seqObj "list" ks.toArray e))(hD:s.heap.get? D=some (seqObj "list" #[] e1))(K:D≠kS)(M:Paired (λS k=>fW s.heap k S/\S≠[]) kis ks) (hV:aN all vs) (Y:ks.length=vs.length) (hz:vs.length<=sizeLine) (h64:vs.length<7)(h:∀(ps:List (Lc×V)) out,ps.Perm (kis.zip all)->ps.Pairwise (λp q=>(if b=true then HT.lexLt p.1 q.1 else HT.lexLt q.1 p.1)=false)->aN (ps.map (·.2)) out.toList ->
   P (.done<|.ret .none) {s with heap:=(s.heap.update kS<|Obj.mapSeq λ_ => #[]).update D (Obj.mapSeq λ_=>out) }):
  ⇑A (ksk_end D b vs.toArray e1 (.ref kS) ks.toArray) P E s:=by
 let I:=CN M hV;let fin:∀st:SortSt,failedOf st=none->(arrOf st).toList.Perm (ks.zip vs)->(arrOf st).toList.Pairwise (λx y=>HT.lexLt (vB s.heap y) (vB s.heap x)=false)->⇑A (ksk_tail D b e1 (.ref kS) st) P E s:=by
  intro st hf J hs;let⟨ps,X,N⟩:=Z6 J.symm I;let pw:ps.Pairwise (λp q=>HT.lexLt q.1 p.1=false):=zhd (λp q x y r1 r2 z=>by rw[CI r1.1.1,CI r2.1.1]at z;exact z) N hs;let G:(arrOf st).size<=sizeLine:=by have:=J.length_eq;rw[Array.length_toList,List.length_zip]at this;lia
  let U:aN (ps.map (·.2)) ((arrOf st).toList.map (·.2)):=ZG (λp x r=>r.2) N;refine U8 R hD K hf (by rw[Ys];lia) G ?_;cases b with
  | false=>
   simp only[Bool.false_eq_true,if_false];exact h ps _ X ‹pw› (by rw[Array.toList_map];exact U)
  | true=>
   simp only[if_true];refine h ps.reverse _ ((List.reverse_perm ps).trans X) ?_ ?_
   ·simp only[if_true];rw[List.pairwise_reverse];exact pw
   ·rw[List.map_reverse,Array.toList_reverse,Array.toList_map];exact paired_reverse U
 let step:∀t:Sem PySem.Fin,⇑A t P E s->⇑A (if b=true then(do let _ <- rule "list.sort.reverse";t) else t) P E s:=by
  intro t L;split
  ·exact Ya<|wpAny_rule L
  ·exact L
 let j:(if b=true then(ks.toArray.zip vs.toArray).reverse else ks.toArray.zip vs.toArray).toList.Perm (ks.zip vs):=by
  split
  ·rw[Array.toList_reverse,ksk_zip];exact List.reverse_perm _
  ·rw[ksk_zip]
 unfold ksk_end;dsimp only;refine step _ ?_;by_cases h2:vs.toArray.size<2
 ·rw[Yl h2,Yl h2];refine Ya<|Yb ?_;refine Ya<|Yb ?_;refine fin _ Z j ?_;let B:=j.length_eq;rw[List.length_zip]at B;rw[Ys]at h2;show List.Pairwise _ (if b=true then(ks.toArray.zip vs.toArray).reverse else ks.toArray.zip vs.toArray).toList;generalize (if b=true then(ks.toArray.zip vs.toArray).reverse else ks.toArray.zip vs.toArray).toList=zs at B;match zs,B with
  | [],_=>exact .nil
  | [_],_=>exact List.pairwise_singleton _ _
  | _::_::_,B=>simp at B;lia
 ·rw[Yh h2,Yh h2];let hT:∃fs:List Li,W.KatTups s.heap ks fs/\fs.length=ks.length/\∀v∈fs,∃n t,v=.int n t:=by
   clear I fin j Y h R h2 hz;induction M with
   | nil=>exact⟨[],W.KatTups.nil,rfl,by simp⟩
   | cons r _ ih=>
    let⟨fs,t,l,q⟩:=ih;let⟨⟨a,its,rfl,⟨o,e,c,n,d⟩,i⟩,ne⟩:=r;let⟨ai⟩:=its;cases i with
    | nil=>exact absurd rfl ne
    | cons m tk i=>
     refine⟨.int m tk::fs,W.KatTups.cons e c d rfl t,by rw[Y5,Y5,l],λv H=>?_⟩;rcases Yj.mp H with rfl | H
     ·exact⟨m,tk,Z⟩
     ·exact q v H
  let⟨fs,tf,lf,qf⟩:=hT;rw[Ys]at h2;refine Ya<|W.kat_kind (T:=.type "int") tf ⋯ (λv H=>?_) ∅ ?_
  ·let⟨n,t,rfl⟩:=qf v H;exact .now
  ·let C:DE prog w A s (tuples'<|Value.type "int" != Value.type "tuple") (if b=true then(ks.toArray.zip vs.toArray).reverse else ks.toArray.zip vs.toArray) vS (vB s.heap):=by refine VQ _ λx hx=>?_;let⟨p,J,r⟩:=zlm I x<|j.mem_iff.mp hx;exact⟨p.1,r.1.1⟩
   let z:=j.length_eq;rw[List.length_zip,Array.length_toList]at z;refine Ya<|wpAny_mono (W3 (E:=E) C ⋯ ⋯ (Q:=λ_ u=>failedOf u=none/\(arrOf u).toList.Perm (if b=true then(ks.toArray.zip vs.toArray).reverse else ks.toArray.zip vs.toArray).toList/\RX (O:=vS) (vB s.heap) (arrOf u).toList) λu a b c=>⟨a,b,c⟩) ?_ λ_ _ x=>x;rintro⟨⟨⟩,u⟩ s' ⟨rfl,a',b',c'⟩;exact fin u a' (b'.trans j) c'
end
end
end TS
namespace L2
open PySem PySem.Spec PyProof.Rows TS
def iM(sp:V->Hp->VK->Prop):Lg->Lg->Hp->(Lg->Hp->Prop)->Prop
 | [],ks,H,F=>F ks H
 | x::xs,ks,H,F=>sp x H λk H1=>iM sp xs (ks++[k]) H1 F
def uS(K:Lj)(b:Bool)(all:Lg)(G:Lg->Hp->Prop)(ks:Lg)(H:Hp):Prop:=
 ∃kis,Paired (λns k=>∃t,k=V.ref t/\aY K H t (ns.map V.int)/\ns≠[]) kis ks/\all.length<7 /\
  ∀ps:List (Lc×V),ps.Perm (kis.zip all)->ps.Pairwise (λp q=>(if b=true then HT.lexLt p.1 q.1 else HT.lexLt q.1 p.1)=false)->G (ps.map (·.2)) H
def nM(X:Cx)(A:Around)(σ:St)(pl:La)(q:Lh)(oq:Obj)(sp:V->Hp->VK->Prop):Prop:=∀ak s H Q x u,aK X ak σ H s->(∀p∈(q,oq)::pl,p∈ak)->aS x u->sp x H Q ->
 wpAny (model X.prog X.w) A (call (.ref q) [u]) (EP X ak σ Q) (λ_ _=>False) s
def W5(F:cJ X.prog X.w X.K X.mg X.base dG k f fd ps sp)(n:bM (k+1+1) X.A)(o:cY X.K fd ps ds)(m:aN dvs ds):nM X X.A.in1.in1 σ pl q (W.methodObj (.ref f)<|.ref a) λx H Q=>sp (.ref a::x::dvs) H Q E0:=by
 intro ak s H Q x u I c l h;let b:=c _<|.head _;let d:aN (.ref a::x::dvs) ([.ref a,u]++ds):=.cons rfl<|.cons l m;let i:([.ref a,u]++ds).length=ps.length:=by rw[<- d.length];exact F.len _ _ _ _ h
 let j:=(I.pin _<|Yg _ b).1;refine wpAny_call<|W.method_call j ?_;refine codeAny_mono (F.run X.A.in1.in1 X.stack s H ⟨[.ref a,u],[]⟩ ([.ref a,u]++ds) (.ref a::x::dvs) Q E0 n.in1.in1 I.env0.in1.in1 (o s [.ref a,u] I.kIn i) d h) λr s' b=>?_
 match r,b with
 | .error e,b=>exact Jf b
 | .ok (.ret u),b=>exact I.after b
 | .ok .next,b=>exact Jf b
 | .ok .brk,b=>exact Jf b
 | .ok .cont,b=>exact Jf b
section
variable{X:Cx}{A:Around}{E:Va}{ak:La}{σ:St}{q kS D:Lh}{oD oq:Obj}{sp:V->Hp->VK->Prop}{H₁:Hp}{F:Lg->Hp->Prop}
def UA(B:nM X A σ ak q oq sp)(n:D≠kS)(L:q≠kS)(fK:cH X ak H₁ kS){body:Li->PUnit->Sem (ForInStep PUnit)}(hb:∀(x:Li) (s:Lk) (R:Va),wpAny (model X.prog X.w) A (call (.ref q) [x]) (λk s'=>∃(a:List Li) (e:Nat),s'.heap.get? kS=some (seqObj "list" a.toArray e)/\a.length<=sizeLine/\R k { s' with heap:=s'.heap.update kS (Obj.mapSeq (·.push k)) }) (λ_ _=>False) s ->
   wpAny (model X.prog X.w) A (body x ⟨⟩) (λr s'=>r=.yield ⟨⟩/\∃k,R k s') E s):
  ∀(r:Lg) (us:List Li) (d:Lg) (a:List Li) (e:Nat) (H:Hp) (s:Lk),aN r us->aN d a->d.length+r.length<=sizeLine->iM sp r d H F ->
   aK X ((kS,seqObj "list" a.toArray e)::(D,oD)::(q,oq)::ak) σ H s ->
   wpAny (model X.prog X.w) A (forIn us PUnit.unit body) (λ_ s'=>∃c b j H',aN c b/\c.length=d.length+r.length/\aK X ((kS,seqObj "list" b.toArray j)::(D,oD)::(q,oq)::ak) σ H' s'/\F c H') E s:=by
 intro r;induction r with
 | nil=>
  intro us d a e H s G m hz h I;cases G;rw[List.forIn_nil];exact Yb ⟨d,a,e,H,m,Z,I,h⟩
 | cons x r ih=>
  intro us d a e H s G m hz h I;cases G with
  | cons r1 t=>
   rename_i u us;rw[List.forIn_cons];let hz':d.length+(r.length+1)<=sizeLine:=hz;refine Ya<|wpAny_mono (hb u s (λk y=>∃l H1 j,aS l k/\aK X ((kS,seqObj "list" (a++[k]).toArray j)::(D,oD)::(q,oq)::ak) σ H1 y/\iM sp r (d++[l]) H1 F) ?_) (λrr s' S=>?_) λ_ _ x=>x
   ·refine wpAny_mono (B _ s H _ x u I (λp hp=>.tail _<|.tail _ hp) r1 h) (λk s' T=>?_) λ_ _ x=>x;let⟨l,H1,N,rk,i⟩:=T;let O:=N.pin (kS,seqObj "list" a.toArray e)<|Yg _<|.head _;let Q:=Heap.SameBut.update s'.heap kS<|Obj.mapSeq (·.push k);let U:a.toArray.push k=(a++[k]).toArray:=by simp
    obtain⟨C,J⟩:∃C,(s'.heap.update kS<|Obj.mapSeq (·.push k)).get? kS=some (seqObj "list" (a++[k]).toArray C):=⟨_,by rw[<- U];exact get?_update_seq O.1 (·.push k)⟩;let K:cH X ([]++((D,oD)::(q,oq)::ak)) H₁ kS:=fK.more (pa:=[(D,oD),(q,oq)]) (by simp[n,L]);exact⟨a,e,O.1,by rw[<- m.length];lia,l,H1,C,rk,aK.repin (pa:=[]) (t':=s'.toks) N K (λY o M j=>(Q.2 Y M).trans j) J (by intro v z;cases z),i⟩
   ·let⟨rfl,k,l,H1,j,rk,I3,i⟩:=S;show wpAny (model X.prog X.w) A (forIn us PUnit.unit body) _ E s';refine wpAny_mono (ih us (d++[l]) (a++[k]) j H1 s' t (m.append<|.cons rk .nil) (by simp;lia) i I3) (λ_ s4 hd=>?_) λ_ _ x=>x;let⟨c,b,e4,H',W,l',I',P⟩:=hd;exact⟨c,b,e4,H',W,by rw[l'];simp;lia,I',P⟩
def WC(B:nM X A σ ak q oq sp)(a3:q≠D)(fD:cH X ak H₁ D)(C:aN all vs)(hz:vs.length<=sizeLine)(I:aK X ((D,seqObj "list" vs.toArray n)::(q,oq)::ak) σ H s) (h:iM sp all [] H (uS X.K b all G)):wpAny (model X.prog X.w) A (ksk_tree D (.ref q) b) (λfin s'=>fin=.done (.ret .none)/\∃out outv n' H',aN out outv/\out.length<=sizeLine/\aK X ((D,seqObj "list" outv.toArray n')::(q,oq)::ak) σ H' s'/\G out H') E s:=by
 let nD:=I.pin (D,seqObj "list" vs.toArray n)<|Yg _<|.head _;let nq:=I.pin (q,oq)<|Yg _<|.tail _<|.head _;let s1:=Heap.SameBut.update s.heap D<|Obj.mapSeq λ_=>(#[]:Array Li);obtain⟨e1,S⟩:∃e1,(s.heap.update D<|Obj.mapSeq λ_=>(#[]:Array Li)).get? D=some (seqObj "list" #[] e1):=⟨_,get?_update_seq nD.1 λ_ => #[]⟩;let Q:cH X ([]++((q,oq)::ak)) H₁ D:=fD.more (pa:=[(q,oq)]) (by simp[a3]);let I1:aK X ((D,seqObj "list" #[] e1)::(q,oq)::ak) σ H {s with heap:=s.heap.update D (Obj.mapSeq λ_ => #[]) }:=
  aK.repin (pa:=[]) (t':=s.toks) I Q (λL o i T=>(s1.2 L i).trans T) S (by intro v z;cases z)
 unfold ksk_tree;refine Ya<|listItems_at nD.1 rfl ?_;refine Ya<|listUpdate_at nD.1 rfl ?_ (by rw[Ys];lia)<|Y2 _;refine Ya<|seqEpoch_at S rfl ?_;refine Ya<|wpAny_newTuple ?_ (by show vs.length<=_;lia);let J:aK X ((D,seqObj "list" #[] e1)::(q,oq)::ak) σ H {s with heap:=(s.heap.update D<|Obj.mapSeq λ_ => #[]).push (seqObj "tuple" vs.toArray 0) }:=I1.kept (t':=s.toks) λb u e=>Ye _ e;refine Ya<|wpAny_newList ?_<|Y2 _;refine Jr ?_;let I3:=J.pinNew (t':=s.toks) (ob:=seqObj "list" #[] 0) Z (by intro v z;cases z);let fK:cH X ak H ((s.heap.update D<|Obj.mapSeq λ_ => #[]).push (seqObj "tuple" vs.toArray 0)).objs.size:=by let I0:aK X ak σ H {s with heap:=(s.heap.update D<|Obj.mapSeq λ_ => #[]).push (seqObj "tuple" vs.toArray 0) }:=J.pins_of λp O=>J.pin p<|Yg _<|.tail _<|.tail _ O;exact I0.fpOk (Yi _)<|I0.hok.fresh<|Yi _
 let l:D≠((s.heap.update D<|Obj.mapSeq λ_ => #[]).push (seqObj "tuple" vs.toArray 0)).objs.size:=Y0<|Yn (J.pin (D,seqObj "list" #[] e1)<|Yg _<|.head _).1;let W:q≠((s.heap.update D<|Obj.mapSeq λ_ => #[]).push (seqObj "tuple" vs.toArray 0)).objs.size:=Y0<|Yn (J.pin (q,oq)<|Yg _<|.tail _<|.head _).1;show wpAny _ _ (ksk_rest D (.ref q) b vs.toArray e1<|.ref ((s.heap.update D<|Obj.mapSeq λ_ => #[]).push (seqObj "tuple" vs.toArray 0)).objs.size) _ _ {s with heap:=((s.heap.update D<|Obj.mapSeq λ_ => #[]).push (seqObj "tuple" vs.toArray 0)).push (seqObj "list" #[] 0) };let a1:aK X ((((s.heap.update D<|Obj.mapSeq λ_ => #[]).push (seqObj "tuple" vs.toArray 0)).objs.size,seqObj "list" ([]:List Li).toArray 0)::(D,seqObj "list" #[] e1)::(q,oq)::ak) σ H {s with heap:=((s.heap.update D<|Obj.mapSeq λ_ => #[]).push (seqObj "tuple" vs.toArray 0)).push (seqObj "list" #[] 0) }:=I3;generalize ((s.heap.update D<|Obj.mapSeq λ_ => #[]).push (seqObj "tuple" vs.toArray 0)).objs.size=kS at *;generalize ({s with heap:=((s.heap.update D<|Obj.mapSeq λ_ => #[]).push (seqObj "tuple" vs.toArray 0)).push (seqObj "list" #[] 0) }:Lk)=s3 at *;unfold ksk_rest;refine Ya<|wpAny_rule ?_;rw[<- Array.forIn_toList];refine Ya<|wpAny_mono (UA (F:=uS X.K b all G) (E:=E) B l W fK (λx s R hx=>?_) all vs [] [] 0 H s3 C .nil (by rw[C.length];simpa using hz) h a1) (λ_ c hd=>?_) λ_ _ x=>x
 ·refine Ya<|wpAny_attempt<|wpAny_mono hx (λk s'' hk=>?_) λ_ _ hF=>hF.elim;let⟨a,e,a4,hk2,hR⟩:=hk;dsimp only;refine Ya<|listUpdate_at a4 rfl ?_ (by rw[Ys];lia) (by rw[Array.size_push,Ys];lia);exact Yb ⟨Z,k,hR⟩
 ·let⟨ks,a,e,H',N,U,M,d,hP,a2,hG⟩:=hd;let nk:=M.pin (kS,seqObj "list" a.toArray e)<|Yg _<|.head _;let P:=M.pin (D,seqObj "list" #[] e1)<|Yg _<|.tail _<|.head _;refine Ya<|listItems_at nk.1 rfl ?_;let y:a.length=vs.length:=by rw[<- N.length,U,C.length];simp
  let hK:Paired (λm k=>fW c.heap k m/\m≠[]) d a:=by
   clear hG U y nk;let a0:∀{d:Lb} {ks:Lg} {a:List Li},Paired (λm k=>∃t,k=V.ref t/\aY X.K H' t (m.map V.int)/\m≠[]) d ks->aN ks a->Paired (λm k=>fW c.heap k m/\m≠[]) d a:=by
    intro d ks a O;induction O generalizing a with
    | nil=>intro hv;cases hv;exact .nil
    | cons r _ ih=>
     intro hv;cases hv with
     | cons r1 t=>
      let⟨tt,rfl,sq,ne⟩:=r;cases r1;let⟨it,rr,pt,_⟩:=M.tuple sq;exact .cons ⟨⟨tt,_,Z,pt,xE rr⟩,ne⟩<|ih t
   exact a0 hP N
  refine UV nk.1 P.1 l hK C y hz (by rw[<- C.length];exact a2) λps out pp pw pv=>⟨Z,ps.map (·.2),out.toList,?_⟩;let sa:=Heap.SameBut.update c.heap kS<|Obj.mapSeq λ_=>(#[]:Array Li);let a5:(c.heap.update kS<|Obj.mapSeq λ_=>(#[]:Array Li)).get? D=some (seqObj "list" #[] e1):=(sa.2 D l).trans P.1;let sb:=Heap.SameBut.update (c.heap.update kS<|Obj.mapSeq λ_=>(#[]:Array Li)) D<|Obj.mapSeq λ_=>out;obtain⟨Y,a6⟩:∃Y,((c.heap.update kS<|Obj.mapSeq λ_=>(#[]:Array Li)).update D (Obj.mapSeq λ_=>out)).get? D=some (seqObj "list" out Y):=⟨_,get?_update_seq a5 λ_=>out⟩;let I5:aK X ((D,seqObj "list" #[] e1)::(q,oq)::ak) σ H' c:=M.pins_of λp O=>M.pin p<|Yg _<|.tail _ O;let j:=fK.more (pa:=[(D,seqObj "list" #[] e1),(q,oq)]) (by simp[l,W]);let I6:=I5.turned (t':=c.toks) (h':=c.heap.update kS<|Obj.mapSeq λ_ => #[]) (it:=kS) (λL o i T=>(sa.2 L i).trans T) nk.2.1 j.2.1 j.2.2.2.1 j.2.2.2.2.1 j.2.2.2.2.2;let I7:aK X ((D,seqObj "list" out.toList.toArray Y)::(q,oq)::ak) σ H' { c with heap:=(c.heap.update kS<|Obj.mapSeq λ_ => #[]).update D (Obj.mapSeq λ_=>out) }:=
   aK.repin (s:={ c with heap:=c.heap.update kS (Obj.mapSeq λ_ => #[]) }) (pa:=[]) (t':=c.toks) I6 Q (λL o i T=>(sb.2 L i).trans T) ‹a6› (by intro v z;cases z)
  exact⟨Y,H',pv,by
   have:=pp.length_eq;rw[List.length_zip]at this;rw[Yd,this,C.length];lia,I7,hG ps pp pw⟩
end
end L2
namespace L2
open PySem PySem.Spec PyProof.Rows TS
def z1q(K:Lj)(C:Lh)(m:Lq)(sp:Sp)(dvs:Lg)(b:Bool)(te ta:TE):TE:=λσ H Q=>te σ H λv H1=>ta σ H1 λo H2=>∃a dx fs l all,o=.ref a/\H2 a=some (.ins C dx fs)/\fs.lookup m=none /\
 v=.ref l/\H2 l=some (.lst all)/\iM (λx H Q=>sp (.ref a::x::dvs) H Q E0) all [] H2 (uS K b all λout H'=>∀D,H' D=none->Q (.ref D) (upd H' D<|.lst out))
section
variable{X:Cx}{k j:Nat}{C:Lh}{ps:Lf}{sp:Sp}{dvs:Lg}{ds:List Li}{m:Lq}{p pos apos kpos rpos cpos:Pos}{e o:Lo}{te ta:TE}
def NO{sp:V->Hp->VK->Prop}(y:argsOk "sorted" ⟨[.ref l],kw⟩)(E:∀x,argsOk "list.sort" ⟨[.ref x],kw⟩)(Y:∀x,Builtin.«list.sort» ⟨[.ref x],kw⟩=ksk_tree x (.ref q) b) (B:nM X X.A.in1.in1 σ ak q oq sp) (I:aK X ((q,oq)::ak) σ H s) (hH:H l=some (.lst all))(h:iM sp all [] H (uS X.K b all λout H'=>∀D,H' D=none->Q (.ref D) (upd H' D<|.lst out))):↥X (call (.builtin "sorted") [.ref l] kw) (EP X ak σ Q) X.xe s:=by
 let⟨vs,n,P,U,hz⟩:=I.lst hH;let hz':vs.length<=sizeLine:=by rw[<- P.length];exact hz
 let u:s.heap.IsList l vs.toArray:=⟨_,U,Z,n,Z⟩;refine call_function_entry_kw kind_sorted plain_sorted entry_sorted y ?_;unfold Builtin.«sorted»;refine Ya (m:=checkCount "sorted" 1 1 _)<|Yb ?_;refine Ya<|collect_list u ?_ hz';let c:∀b o,s.heap.get? b=some o->((s.heap.push<|seqObj "list" #[] 0).update s.heap.objs.size (Obj.mapSeq (·++vs.toArray))).get? b=some o:=λb o q=>by let d:b<s.heap.objs.size:=Yn q;rw[Heap.get?_update_ne _ _ _ _<|Y0 d,Heap.get?_push_ne _ _ _<|Y0 d];exact q
 let r:aK X ((q,oq)::ak) σ H {s with heap:=(s.heap.push<|seqObj "list" #[] 0).update s.heap.objs.size (Obj.mapSeq (·++vs.toArray)) }:=I.kept (t':=s.toks) c;refine Ya<|wpAny_newList ?_ hz';let L:=r.pinNew (t':=s.toks) (ob:=seqObj "list" vs.toArray 0) Z (by intro v z;cases z);let S:aK X ak σ H {s with heap:=(s.heap.push<|seqObj "list" #[] 0).update s.heap.objs.size (Obj.mapSeq (·++vs.toArray)) }:=r.pins_of λp i=>r.pin p<|Yg _<|.tail _ i;let O:cH X ak H ((s.heap.push<|seqObj "list" #[] 0).update s.heap.objs.size (Obj.mapSeq (·++vs.toArray))).objs.size:=S.fpOk (Yi _)<|S.hok.fresh<|Yi _;let G:q≠((s.heap.push<|seqObj "list" #[] 0).update s.heap.objs.size (Obj.mapSeq (·++vs.toArray))).objs.size:=Y0<|Yn (r.pin (q,oq)<|Yg _<|.head _).1;let T:=L.pin (((s.heap.push<|seqObj "list" #[] 0).update s.heap.objs.size (Obj.mapSeq (·++vs.toArray))).objs.size,seqObj "list" vs.toArray 0)<|Yg _<|.head _;refine Ya<|Jr<|wpAny_call_entry_kw PyProof.Rows.slot_list_sort ⟨_,T.1,Z⟩ PyProof.Rows.entry_list_sort ?body<|E _
 case body=>
  rw[Y];refine wpAny_mono (WC B G O P hz' L h) (λfin s' hq=>?_) λ_ _ x=>x;let⟨rfl,out,a,M,H',v',W,N,hG⟩:=hq;refine⟨_,Z,Yb ⟨_,Z,?_⟩⟩;let R:aK X ((((s.heap.push<|seqObj "list" #[] 0).update s.heap.objs.size (Obj.mapSeq (·++vs.toArray))).objs.size,seqObj "list" a.toArray M)::ak) σ H' s':=N.pins_of λp i=>N.pin p (Yg _ (by
   rcases Yj.mp i with rfl | i
   ·exact .head _
   ·exact .tail _<|.tail _ i))
  let J:=R.pin (((s.heap.push<|seqObj "list" #[] 0).update s.heap.objs.size (Obj.mapSeq (·++vs.toArray))).objs.size,seqObj "list" a.toArray M)<|Yg _<|.head _;exact⟨.ref _,_,R.unpin O v' W,Z,hG _ J.2.1⟩
def V9{b:Bool}{L:Nat}(c:cQ X.prog X.w X.K X.mg X.base dG k C m ps ds sp)(bm:BM X.K C m)(O:PE X e te)(J:PE X o ta)(U:bM j X.A)(hd:aN dvs ds)(hm:X.mg ("sorted":Lq)=none)(M:↑↑(k+1+1<=j))(hg:↑(Gl X "sorted"))
  (hb:↑(attributeBase o m X.env (eval o X.env)=eval o X.env)) (q:↑(starEach [e] X.env=(false,eval e X.env)::starEach [] X.env)):
  PE X (.Call (.Name "sorted" p) [e] [⟨some "key",.Attribute o m apos,kpos⟩,⟨some "reverse",.Constant (.bool b) L cpos,rpos⟩] pos) (z1q X.K C m sp dvs b te ta):=by
 let⟨f,fd,F,y,i⟩:=c.ex;let⟨B,T,kb⟩:=bm.ex;have:B=f:=by let z:=i.at_;rw[T]at z;injection z with z;injection z with z;injection z
 subst this;intro ak s σ H Q I h;refine wpAny_Call_Name_kw<|nZ I hg hm boot_sorted ?_;let h':lJ te hC σ H (λvs H1=>match vs with
   | [v]=>ta σ H1 λo n=>∃(a G:Lh) (fs:List (Lq×V)) (l:Lh) (all:Lg),o=.ref a/\n a=some (.ins C G fs)/\fs.lookup m=none /\
     v=.ref l/\n l=some (.lst all)/\iM (λx H Q=>sp (.ref a::x::dvs) H Q E0) all [] n (uS X.K b all λout H'=>∀D,H' D=none->Q (.ref D) (upd H' D<|.lst out))
   | _=>False):=h
 refine callWith_kw (bC ((aL O aU q) ak s σ H _ I h') λus Y d=>?_) (by rw[q];rfl) (by rw[q];rfl);let⟨vs,H1,I1,P,u⟩:=d;cases P with
 | nil=>exact Jf u
 | cons ru rr=>
  cases rr with
  | cons _ _=>exact Jf u
  | nil=>
   refine kwAll_cons<|FH hb<|bC (J Y σ H1 _ I1 u) λuo N d=>?_;let⟨ov,n,E,ro,a,G,fs,l,all,eo,R,S,ev,eh,r⟩:=d;subst eo;subst ev;cases ro;cases ru;refine NM E R c.cl i kb S ?_;let I3:=E.pinNew (t':=N.toks+1) (ob:=W.methodObj (.ref B)<|.ref a) rfl (by intro v z;cases z);refine kwAll_cons<|Constant_bool<|kwAll_nil ?_;exact NO (ksk_s2 _ _ _) (λx=>ksk_l2 _ _ _) (λx=>ksk_t2 _ x b) (W5 F (U.mono M) y hd) I3 eh r
end
end L2
set_option Elab.async false
/- strict -/
/- ind2 -/
set_option linter.all false
set_option maxRecDepth 100000
namespace L2
open PySem PySem.Spec PyProof.Rows
section
def VW{J:It}{H1:Hp}{n:Nat}{P:Nat->V->Hp->Prop}{g:TG}{O:TT}{N:TE}{Q:VK}{A:St}{D:Lh}(S:gR J H1 n P)(R:H1 D=none)(hn:n<=sizeLine)(z:St->Prop)(p:Nat->Bool)(F:Nat->V->Hp->Prop)(l:∀i v H H',aJ H H'->F i v H->F i v H') (k:∀i v H ys ys',H D=some (.lst ys)->F i v H->F i v (upd H D<|.lst ys')) (h0:z A)(step:∀i x c h,i<n->z c->aJ H1 h->P i x h->(∃ys,h D=some (.lst ys))->∀(Ny:V->St->Hp->Prop) (Nn:St->Hp->Prop),(∀v a d,z a->aJ h d->F i v d->p i=true->Ny v a d)->(∀a o,z a->aJ h o->p i=false->Nn a o) ->
   g x c h λa C=>O a C λb o=>if b=true then N a o λv d=>Ny v a d else Nn a o)
  (Y:∀H' ys,aJ H1 H'->H' D=some (.lst ys)->Paired (λi v=>F i v H') ((List.range n).filter p) ys->Q (.ref D) H'):
  ∃W:Nat->Nat->Lg->St->Hp->Prop,(∃m,W 0 m [] A<|upd H1 D<|.lst [])/\∀i m ys c H',W i m ys c H'->H' D=some (.lst ys) /\
  ((J.stop i H'/\Q (.ref D) H')\/(J.go i H'/\ys.length<sizeLine/\∀x h,J.yld i H' x h->g x c h λa C=>O a C λb o=>
   if b=true then N a o λv d=>d D=some (.lst ys)/\∃m',m'<m/\W (i+1) m' (ys++[v]) a (upd d D<|.lst<|ys++[v])
   else ∃m',m'<m/\W (i+1) m' ys a o)):=by
 exists λi m ys c H'=>m=n-i/\i<=n/\z c/\aJ H1 H'/\H' D=some (.lst ys)/\Paired (λj v=>F j v H') ((List.range i).filter p) ys,⟨n,Z,Y2 _,h0,aJ.upd R,aW,.nil⟩;rintro i m ys c H' ⟨rfl,hi,T,s,u,B⟩;exists u;let M:(List.range<|i+1).filter p=(List.range i).filter p++(if p i=true then [i] else []):=by rw[List.range_succ,List.filter_append];cases q:p i <;> simp[q]
 by_cases hlt:i<n
 ·refine .inr ⟨S.go i H' s hlt,?_,λx h y=>?_⟩
  ·let l1:=B.length;let X:((List.range i).filter p).length<=(List.range i).length:=List.length_filter_le _ _;rw[List.length_range]at X;lia
  ·let⟨r,hP⟩:=S.yld i H' x h s hlt y;refine step i x c h hlt T (s.trans r) hP ⟨ys,r _ _ u⟩ _ _ (λv a d G I U K=>?_) λa o G L K=>?_
   ·let E:d D=some (.lst ys):=I _ _<|r _ _ u;refine⟨E,n-(i+1),⋯,Z,hlt,G,((s.trans r).trans I).updR R,aW,?_⟩;rw[M,Yl K];refine Paired.snoc (Paired.imp' (λj w q=>?_) B)<|k i v d ys _ E U;exact k j w d ys _ E<|l j w H' d (r.trans I) q
   ·refine⟨n-(i+1),⋯,Z,hlt,G,(s.trans r).trans L,L _ _<|r _ _ u,?_⟩;rw[M,Yh<|by rw[K];decide,List.append_nil];exact Paired.imp' (λj w q=>l j w H' o (r.trans L) q) B
 ·let e:i=n:=by lia
  subst e;exact .inl ⟨S.stop H' s,Y H' ys s u B⟩
end
section
section
variable{κ:Type}[DecidableEq κ]
def bK(ap:List (κ×V))(k:κ):Option V:=(ap.find? λkv=>decide<|kv.1=k).map (·.2)
def bE(ap:List (κ×V))(k:κ)(v:V):List (κ×V):=
 if (ap.any λkv=>decide<|kv.1=k)=true then ap.map (λkv=>if kv.1=k then(kv.1,v) else kv) else ap++[(k,v)]
def kG(ap:List (κ×V))(k:κ):List (κ×V):=ap.filter λkv=>decide<|kv.1≠k
def WF:bK ([]:List (κ×V)) k=none:=rfl
def mN{k:κ}(e:p.1=k):bK (p::r) k=some p.2:=by simp[bK,List.find?_cons,e]
def lO{k:κ}(e:¬p.1=k):bK (p::r) k=bK r k:=by simp[bK,List.find?_cons,e]
theorem vG(k:κ):∀ap,(ap.any λa=>decide<|a.1=k)=(bK ap k).isSome
 | []=>rfl
 | p::r=>by
  rw[List.any_cons];by_cases e:p.1=k
  ·simp only[mN e,decide_eq_true e,Bool.true_or,Option.isSome_some]
  ·rw[lO e,Yw e,Bool.false_or];exact vG k r
theorem L5(k j:κ)(y:V):∀ap,bK (ap.map λa=>if a.1=k then(a.1,y) else a) j=(bK ap j).map λx=>if j=k then y else x
 | []=>rfl
 | p::r=>by
  let b:=L5 k j y r;rw[Yz];by_cases h:p.1=k
  ·rw[Yl h];by_cases e:p.1=j
   ·rw[mN (p:=(p.1,y)) e,mN e,Option.map_some,Yl<|e.symm.trans h]
   ·rw[lO (p:=(p.1,y)) e,lO e,b]
  ·rw[Yh h];by_cases e:p.1=j
   ·rw[mN (p:=p) e,mN e,Option.map_some,Yh<|λz=>h<|e.trans z]
   ·rw[lO (p:=p) e,lO e,b]
theorem M6(k j:κ)(y:V):∀ap,bK ap k=none->bK (ap++[(k,y)]) j=if j=k then some y else bK ap j
 | [],_=>by
  by_cases e:k=j
  ·rw[Yl e.symm];exact mN (p:=(k,y)) e
  ·rw[Yh<|λz=>e z.symm];exact lO (p:=(k,y)) e
 | p::r,hn=>by
  rw[List.cons_append];let a:¬p.1=k:=λz=>by rw[mN z]at hn;cases hn
  rw[lO a]at hn;let b:=M6 k j y r hn;by_cases e:p.1=j
  ·rw[mN e,mN e,Yh<|λz=>a<|e.trans z]
  ·rw[lO e,lO e,b]
def ML(ap:List (κ×V))(k j:κ)(y:V):bK (bE ap k y) j=if j=k then some y else bK ap j:=by
 unfold bE;by_cases a:(ap.any λb=>decide<|b.1=k)=true
 ·rw[Yl a,L5];rw[vG]at a;by_cases e:j=k
  ·let⟨x,c⟩:=Option.isSome_iff_exists.mp a;rw[Yl e,e,c,Option.map_some,Yl Z]
  ·rw[Yh e];cases bK ap j with
   | none=>rfl
   | some x=>rw[Option.map_some,Yh e]
 ·rw[Yh a];refine M6 k j y ap ?_;rw[vG]at a;cases q:bK ap k with
  | none=>rfl
  | some x=>rw[q]at a;exact(a rfl).elim
def sZ(ap:List (κ×V))(k:κ)(v:V):(bE ap k v).length<=ap.length+1:=by
 unfold bE;split
 ·rw[Yd];lia
 ·rw[Y6,Y5,List.length_nil];lia
def XF{k:κ}(v:V)(h:bK ap k=none):bE ap k v=ap++[(k,v)]:=by unfold bE;rw[vG,h];exact Yh ∅
def eI.isSome_eq(r:eI o u):o.isSome=u.isSome:=by
 cases o with
 | none=>cases u with
  | none=>rfl
  | some _=>exact(show False from r).elim
 | some _=>cases u with
  | none=>exact(show False from r).elim
  | some _=>rfl
def eI.getD(r:eI o u)(rd:aS d d'):aS (o.getD d) (u.getD d'):=by
 cases o with
 | none=>cases u with
  | none=>exact rd
  | some _=>exact(show False from r).elim
 | some _=>cases u with
  | none=>exact(show False from r).elim
  | some _=>exact r
def KV.val(r:KV ap vs)(k:κ):eI (bK ap k) (valueAt vs k):=by
 unfold KV at r;induction r with
 | nil=>exact True.intro
 | @cons p q ps qs h t ih=>
  let⟨c,d⟩:=h;by_cases e:p.1=k
  ·let a:q.1=k:=c.symm.trans e;let b:valueAt (q::qs) k=some q.2:=by simp[valueAt,List.find?_cons,a]
   rw[mN e,b];exact d
  ·let a:¬q.1=k:=λz=>e<|c.trans z;let b:valueAt (q::qs) k=valueAt qs k:=by simp[valueAt,List.find?_cons,a]
   rw[lO e,b];exact ih
def KV.any(r:KV ap vs)(k:κ):(ap.any λa=>decide<|a.1=k)=vs.any λa=>decide (a.1=k):=by
 unfold KV at r;induction r with
 | nil=>rfl
 | cons h t ih=>rw[List.any_cons,List.any_cons,ih,h.1]
def KV.repl(r:KV ap vs)(k:κ){y:V}{u:Li}(d:aS y u):KV (ap.map λa=>if a.1=k then(a.1,y) else a) (vs.map λa=>if a.1=k then(a.1,u) else a):=by
 unfold KV at r ⊢;induction r with
 | nil=>exact .nil
 | @cons p q ps qs h t ih=>
  rw[Yz,Yz];refine .cons ?_ ih;let⟨b,c⟩:=h;by_cases e:p.1=k
  ·rw[Yl e,Yl<|b.symm.trans e];exact⟨b,d⟩
  ·rw[Yh e,Yh<|λz=>e<|b.trans z];exact⟨b,c⟩
def KV.put(r:KV ap vs)(k:κ){y:V}{u:Li}(a:aS y u):KV (bE ap k y) (stored vs k u):=by
 unfold bE stored;rw[r.any k];by_cases e:(vs.any λb=>decide<|b.1=k)=true
 ·rw[Yl e,Yl e];exact r.repl k a
 ·rw[Yh e,Yh e];exact Paired.snoc r ⟨Z,a⟩
def KV.length{ap:List (κ×V)}(r:KV ap vs):ap.length=vs.length:=Paired.length r
def FK(ap:List (κ×V))(k:κ):(kG ap k).length<=ap.length:=List.length_filter_le _ _
end
def wJ(r:aS (kV k) u):(gD P w).is k u=true:=by
 cases k with
 | inl i=>let⟨t,e⟩:=(show ∃t,u=Value.int i t from r);subst e;exact Z7 P w i t
 | inr x=>let⟨t,e⟩:=(show ∃t,u=Value.str x t from r);subst e;exact zlj P w x t
theorem NA:∀{ks} {us},aN (ks.map kV) us->ItemsAre (gD P w) ks us
 | [],_,r=>by rw[List.map_nil]at r;cases r;exact .nil
 | k::ks,_,r=>by
  rw[Yz]at r;cases r with
  | cons h t=>exact .cons (wJ h)<|NA t
abbrev KT(H:Hp):Ka->List (List eT×Lh×Li)->Prop:=Paired λp q=>p.1=q.1/\H q.2.1=some (.tup<|p.1.map kV)/\aS p.2 q.2.2
def KT.val(r:KT H ap xs)(k:List eT):eI (bK ap k) ((atKey xs k).map (·.2)):=by
 induction r with
 | nil=>exact True.intro
 | @cons p q ps qs h t ih=>
  let⟨c,_,d⟩:=h;by_cases e:p.1=k
  ·let a:q.1=k:=c.symm.trans e;let b:atKey (q::qs) k=some q.2:=by simp[atKey,List.find?_cons,a]
   rw[mN e,b];exact d
  ·let a:¬q.1=k:=λz=>e<|c.trans z;let b:atKey (q::qs) k=atKey qs k:=by simp[atKey,List.find?_cons,a]
   rw[lO e,b];exact ih
def KT.repl(r:KT H ap xs)(k:List eT){y:V}{u:Li}(i:aS y u):KT H (ap.map λb=>if b.1=k then(b.1,y) else b) (xs.map<|putAt k u):=by
 induction r with
 | nil=>exact .nil
 | @cons p q ps qs h t ih=>
  rw[Yz,Yz];refine .cons ?_ ih;let⟨a,c,d⟩:=h;unfold putAt;by_cases e:p.1=k
  ·rw[Yl e,Yl<|a.symm.trans e];exact⟨a,c,i⟩
  ·rw[Yh e,Yh<|λz=>e<|a.trans z];exact⟨a,c,d⟩
def KT.put(r:KT H ap xs)(k:List eT){b:Lh}{y:V}{u:Li}(d:H b=some (.tup<|k.map kV))(a:aS y u):KT H (bE ap k y) (storedH xs k b u):=by
 let e:(ap.any λc=>decide<|c.1=k)=(atKey xs k).isSome:=by rw[vG,(r.val k).isSome_eq,Option.isSome_map]
 unfold bE storedH;rw[e];by_cases q:(atKey xs k).isSome=true
 ·rw[Yl q,Yl q];exact r.repl k a
 ·rw[Yh q,Yh q];exact Paired.snoc r ⟨Z,d,a⟩
def KT.keeps(r:KT H ap xs)(a:∀b ys,H b=some (.tup ys)->H' b=some (.tup ys)):KT H' ap xs:=
 Paired.mapP r λ_ _ z=>⟨z.1,a _ _ z.2.1,z.2.2⟩
section
variable{P:Lm}{w:Ll}{H:Hp}{h:Lp}{a:Lh}
def RJ(ok:fV P w H h)(e:Rd H a u):bN P w H h a u:=e.ok ok
def uV(ok:fV P w H h)(e:Rd H a (.dK ap)):ap.length<=sizeLine/\(a==sysModules)=false/\∃vs,KV ap vs/\h.DictOf (gD P w) a vs:=
 show bN P w H h a (.dK ap) from RJ ok e
def z3o(ok:fV P w H h)(e:H a=some (.dK ap)):ap.length<=sizeLine/\(a==sysModules)=false/\∃vs,KV ap vs/\h.DictOf (gD P w) a vs:=uV ok<|.inl e
def sQ(ok:fV P w H h)(e:H a=some (.tup<|ks.map kV)):(tupleKind<|gD P w).is h ks a:=by let⟨_,its,r,o,c,d,n,b⟩:=(show bN P w H h a (.tup<|ks.map kV) from ok a _ e);exact⟨o,its.toArray,n,c,d,b,‹NA r›⟩
def lH(ok:fV P w H h)(e:Rd H a (.dT ap)):ap.length<=sizeLine/\(a==sysModules)=false /\
  ∃xs,KT H ap xs/\h.DictOfH (tupleKind<|gD P w) a xs:=by
 let⟨z,y,xs,r,o,j,s,d,i,c,n,k⟩:=(show bN P w H h a (.dT ap) from RJ ok e);refine⟨z,y,xs,r,o,j,s,d,i,c,n,λx b=>?_,k⟩;let all:∀{l:Ka} {m:List (List eT×Lh×Li)},KT H l m->∀x∈m,(tupleKind<|gD P w).is h x.1 x.2.1:=by
  intro l m q;induction q with
  | nil=>intro x b;exact nomatch b
  | @cons p q ps qs hq t ih=>
   intro x b;rcases Yj.mp b with e | b
   ·subst e;exact sQ ok (by rw[<- hq.1];exact hq.2.1)
   ·exact ih x b
 exact all r x b
def A1(ok:fV P w H h)(e:H a=some (.dT ap)):ap.length<=sizeLine/\(a==sysModules)=false /\
  ∃xs,KT H ap xs/\h.DictOfH (tupleKind<|gD P w) a xs:=lH ok<|.inl e
end
def fM(H:Hp)(a:Lh)(y:V)(r:Option V):Prop:=
 (∃ap k,Rd H a (.dK ap)/\y=kV k/\r=bK ap k)\/∃ap k b,Rd H a (.dT ap)/\y=.ref b/\H b=some (.tup<|k.map kV)/\r=bK ap k
def hJ(H:Hp)(a:Lh)(y v:V)(H':Hp):Prop:=
 (∃ap k,H a=some (.dK ap)/\y=kV k/\ap.length<sizeLine/\H'=upd H a (.dK<|bE ap k v)) \/
 ∃ap k b,H a=some (.dT ap)/\y=.ref b/\H b=some (.tup<|k.map kV)/\ap.length<sizeLine/\H'=upd H a (.dT<|bE ap k v)
def fM.t(e:H a=some (.dT ap))(c:H b=some (.tup<|k.map kV)):fM H a (.ref b) (bK ap k):=.inr ⟨ap,k,b,.inl e,Z,c,Z⟩
def hJ.t(e:H a=some (.dT ap))(d:H b=some (.tup<|k.map kV))(c:ap.length<sizeLine):hJ H a (.ref b) v (upd H a<|.dT<|bE ap k v):=.inr ⟨ap,k,b,e,Z,d,c,Z⟩
section
variable{X:Cx}{ak:La}{σ:St}{H:Hp}{s:Lk}{a:Lh}{y v:V}{u r:Li}{o:Option V}{A:Around}{E:Va}
def aK.big(I:aK X ak σ H s):sysModules<s.heap.objs.size:=by let h:mainGlobals<s.heap.objs.size:=(I.mod.glob.keeps I.bk).lt;exact Nat.lt_trans ∅ h
def XS(B:A.units+1<cLine)(I:aK X ak σ H s)(g:fM H a y (some v))(n:aS y u)(h:∀i s',aK X ak σ H s'->aS v i->Q i s'):wpAny (model X.prog X.w) A (getItem (.ref a) u) Q E s:=by
 rcases g with⟨ap,k,e,j,l⟩ | ⟨ap,k,b,e,j,C,l⟩
 ·subst j;let⟨z,q,vs,d,dd⟩:=uV I.hok e;let⟨i,hw,c⟩:=eI.some_of (v:=v) (o:=valueAt vs k) (by rw[l];exact d.val k);exact wpAny_getItem_of (wJ n) dd.mapOf hw<|h i _ (I.tok _) c
 ·subst j;cases (show u=Value.ref b from n);let⟨z,q,xs,d,dd⟩:=lH I.hok e;let⟨i,hw,c⟩:=eI.some_of (v:=v) (o:=(atKey xs k).map (·.2)) (by rw[l];exact d.val k);let⟨p,x,m⟩:=Option.map_eq_some_iff.mp hw;refine wpAny_getItem_heap (tupleKind_room_in1 B) (sQ I.hok C) dd x ?_;rw[m];exact h i _ (I.tok _) c
def HL(m:A.units+1<cLine)(I:aK X ak σ H s)(g:fM H a y o)(j:aS y u)(h:∀s',aK X ak σ H s'->Q (.bool o.isSome) s'):wpAny (model X.prog X.w) A (compareOp .In u<|.ref a) Q E s:=by
 rcases g with⟨ap,k,e,d,l⟩ | ⟨ap,k,b,e,d,n,l⟩
 ·subst d;let⟨z,i,vs,c,dd⟩:=uV I.hok e;refine wpAny_in_of (wJ j) i dd.mapOf ?_;rw[<- (c.val k).isSome_eq,<- l];exact h _<|I.tok _
 ·subst d;cases (show u=Value.ref b from j);let⟨z,i,xs,c,dd⟩:=lH I.hok e;refine wpAny_in_heap (tupleKind_room_in1 m) (sQ I.hok n) i dd ?_;let q:=(c.val k).isSome_eq;rw[Option.isSome_map]at q;rw[<- q,<- l];exact h _<|I.tok _
def SM(m:A.units+1<cLine)(I:aK X ak σ H s)(g:fM H a y o)(j:aS y u)(h:∀s',aK X ak σ H s'->Q (.bool<|!o.isSome) s'):wpAny (model X.prog X.w) A (compareOp .NotIn u<|.ref a) Q E s:=by
 rcases g with⟨ap,k,e,d,l⟩ | ⟨ap,k,b,e,d,n,l⟩
 ·subst d;let⟨z,i,vs,c,dd⟩:=uV I.hok e;refine wpAny_notIn_of (wJ j) i dd.mapOf ?_;rw[<- (c.val k).isSome_eq,<- l];exact h _<|I.tok _
 ·subst d;cases (show u=Value.ref b from j);let⟨z,i,xs,c,dd⟩:=lH I.hok e;refine wpAny_notIn_heap (tupleKind_room_in1 m) (sQ I.hok n) i dd ?_;let q:=(c.val k).isSome_eq;rw[Option.isSome_map]at q;rw[<- q,<- l];exact h _<|I.tok _
def BU(I:aK X ak σ H s)(d:AM (H a))(i:Heap.SameBut a s.heap h')(h:∃q,h'.get? a=some q)(c:bN X.prog X.w (upd H a ob) h' a ob):aK X ak σ (upd H a ob) {s with heap:=h',toks:=t' }:=
 I.write (x:=a) (e:=a) d (.inl Z) (λb q j z=>(i.2 b j).trans z) h c
def z2r(z:ap.length<=sizeLine)(c:(a==sysModules)=false)(b:KV ap vs)(dd:h'.DictOf (gD P w) a vs):bN P w H' h' a (.dK ap):=⟨z,c,vs,b,dd⟩
def XX(P:A.units+1<cLine)(I:aK X ak σ H s)(g:hJ H a y v H')(D:aS y u)(J:aS v r)(h:∀s',aK X ak σ H' s'->Q () s'):wpAny (model X.prog X.w) A (setItem (.ref a) u r) Q E s:=by
 rcases g with⟨ap,k,e,n,l,x⟩ | ⟨ap,k,b,e,n,G,l,x⟩
 ·subst n x;let⟨z,B,vs,d,dd⟩:=z3o I.hok e;let hz:vs.length<=sizeLine:=by rw[<- d.length];exact z
  let m:(bE ap k v).length<=sizeLine:=by have:=sZ ap k v;lia
  refine wpAny_setItem_pairs (hsz:=hz) (wJ D) dd λh' i p=>h _ ?_;let M:∃q,h'.get? a=some q:=let ⟨q,_,_,j,_⟩:=i;⟨q,j⟩;exact BU I (by rw[e];exact True.intro) p M<|z2r m B (d.put k J) i
 ·subst n x;cases (show u=Value.ref b from D);let⟨z,B,xs,d,dd⟩:=A1 I.hok e;let hz:xs.length<=sizeLine:=by rw[<- Paired.length d];exact z
  let m:(bE ap k v).length<=sizeLine:=by have:=sZ ap k v;lia
  refine wpAny_setItem_heap (hsz:=hz) (tupleKind_room_in1 P) (sQ I.hok G) dd λh' i p=>h _ ?_;let⟨q,L,N,j,O,K,S,_,R⟩:=i;refine BU I (by rw[e];exact True.intro) p ⟨q,j⟩ ⟨m,B,_,(d.put k G J).keeps λc ys C=>?_,q,L,N,j,O,K,S,R⟩;rw[aV<|eM C e<|λz=>nomatch z];exact C
end
def AK(i:Lo):Prop:=∀ov iv,subscripted i false ov iv=operate [ov,iv] (getItem ov iv)
def UF{T id:String}(l:typeLookup (.type T) "__getitem__" = pure (some<|.builtin id)) (m:AK slice)(h:⇑A (eval value env) (λo d=>⇑A (eval slice env) (λi a=>a.TypeIs o T/\⇑A (getItem o i) Q E a) E d) E s):⇑A (eval (.Subscript value slice pos) env) Q E s:=by
 refine Subscript_<|wpAny_mono h (λo d e=>wpAny_mono e (λi a b=>?_) λ_ _ x=>x) λ_ _ x=>x;let⟨k,b⟩:=b;unfold subscriptTail;refine Ya ?_;rw[getitemInPython_of_ne k.not_modules];refine Ya<|wpAny_specialOf k l ?_;let fin:⇑A (subscripted slice false o i) (λr c=>⇑A (letTemporaryGo value o r >>= λ_=>pure r) Q E c) E a:=by rw[m o i];exact wpAny_operating<|wpAny_mono b (λr c j=>Ya<|wpAny_letTemporaryGo<|Yb j) λ_ _ x=>x
 first
  | exact Yb<|Ya fin
  | exact Ya<|Yb<|Ya fin
  | exact Ya fin
def zl7{σ:St}(I:aK X ak σ H s)(g:fM H a y o):s.TypeIs (.ref a) "dict":=by
 rcases g with⟨ap,k,e,_,_⟩ | ⟨ap,k,b,e,_,_,_⟩
 ·let⟨_,_,vs,_,dd⟩:=uV I.hok e;exact dd.typeIs
 ·let⟨_,_,xs,_,dd⟩:=lH I.hok e;exact dd.typeIs
inductive GW(x y:V)(H2:Hp)(Q:VK):Prop
 | mk (a v) (_:x=.ref a) (_:fM H2 a y (some v)) (_:Q v H2)
def z29(td ty:TE):TE:=λσ H Q=>td σ H λx H1=>ty σ H1 λy H2=>GW x y H2 Q
inductive rDI(y x:V)(H2:Hp)(Q:VK):Prop
 | mk (a o) (_:x=.ref a) (_:fM H2 a y o) (_:Q (.bl o.isSome) H2)
def GK(ty td:TE):TE:=λσ H Q=>ty σ H λy H1=>td σ H1 λx H2=>rDI y x H2 Q
def S5(ty td:TE):TE:=λσ H Q=>ty σ H λy H1=>td σ H1 λx H2=>∃a o,x=.ref a/\fM H2 a y o/\Q (.bl<|!o.isSome) H2
def z3l(td ty tv:TE):TS:=λD σ H=>tv σ H λv H1=>td σ H1 λx H2=>ty σ H2 λy H3=>∃a H4,x=.ref a/\hJ H3 a y v H4/\D.nx σ H4
section
variable{X:Cx}{o i e value:Lo}{pos pos' tpos:Pos}{td ty tv:TE}
def E8(z:X.A.units+1<cLine)(j:PE X o td)(q:PE X i ty)(k:AK i):PE X (.Subscript o i pos) (z29 td ty):=by intro ak s σ H Q I h;refine UF PySem.F.slot_dict_getitem.lookup k<|bC (j s σ H _ I h) λu m ⟨x,H1,p,w,n⟩=>bC (q m σ H1 _ p n) λiv s2 b=>?_;let⟨y,B,d,l,a,v,ex,g,r⟩:=b;subst ex;obtain rfl:u=Value.ref a:=w;exact⟨zl7 d g,XS z d g l λw' s3 C c=>⟨v,B,C,c,r⟩⟩
def JP(r:X.A.units+1<cLine)(m:PE X i ty)(j:PE X o td):PC X .In i o (GK ty td):=by intro ak s σ H Q I h;refine bC (m s σ H _ I h) λiv z ⟨y,H1,d,n,c⟩=>bC (j z σ H1 _ d c) λu s2 b=>?_;let⟨x,v,k,q,a,l,ex,g,p⟩:=b;subst ex;obtain rfl:u=Value.ref a:=q;exact HL r k g n λs3 w=>⟨.bl l.isSome,v,w,Z,p⟩
def YL(r:X.A.units+1<cLine)(m:PE X i ty)(j:PE X o td):PC X .NotIn i o (S5 ty td):=by intro ak s σ H Q I h;refine bC (m s σ H _ I h) λiv z ⟨y,H1,d,n,c⟩=>bC (j z σ H1 _ d c) λu s2 b=>?_;let⟨x,v,k,q,a,l,ex,g,p⟩:=b;subst ex;obtain rfl:u=Value.ref a:=q;exact SM r k g n λs3 w=>⟨.bl<|!l.isSome,v,w,Z,p⟩
def sU(G:X.A.units+1<cLine)(c:PE X o td)(w:PE X i ty)(B:PE X value tv)(j:swapsWith value (some<|.Subscript o i pos') pos.line X.env=pure false):PS X (.Assign [.Subscript o i pos'] value pos) (z3l td ty tv):=by intro ak s σ H D I h;refine wpAny_Assign_Subscript (bC (B s σ H _ I h) λr m ⟨v,H1,p,L,n⟩=>bC (c m σ H1 _ p n) λu l ⟨x,J,d,E,C⟩=>bC (w l σ J _ d C) λiv s3 b=>?_) j;let⟨y,H3,M,k,a,K,ex,g,q⟩:=b;subst ex;obtain rfl:u=Value.ref a:=E;exact XX G M g k L λs4 z=>⟨σ,K,z,q⟩
end
def LN(h:Lp)(a:sysModules<h.objs.size):bN P w H (h.push { cls:=.type "dict",data:=.dict #[] }) h.objs.size (.dT []):=
 ⟨Y2 _,beq_eq_false_iff_ne.mpr<|Jc<|Y0 a,[],.nil,_,#[],0,Yk _ rfl,⟨Z,Z,Z⟩,Z,Z,List.nodup_nil⟩
def DZ:TE:=λ_ H Q=>∀p,H p=none->Q (.ref p) (upd H p<|.dT [])
section
variable{X:Cx}{pos:Pos}
def oP:PE X (.Dict [] [] pos) DZ:=λak s σ H Q I h=>
 wpAny_Dict_empty ⟨.ref s.heap.objs.size,_,I.laid (a:=s.heap.objs.size) (o:=.dT []) (t':=s.toks) (λ_ _ q=>Ye _ q) (Yi _)<|LN s.heap I.big,Z,h _<|I.hok.fresh<|Yi _⟩
end
def JF:List (TE×TE)->St->Hp->(List (V×V)->Hp->Prop)->Prop
 | [],_,H,Q=>Q [] H
 | (tk,tv)::r,σ,H,Q=>tk σ H λx H1=>tv σ H1 λy H2=>JF r σ H2 λps H3=>Q ((x,y)::ps) H3
abbrev VV:List (V×V)->List (Li×Li)->Prop:=Paired λp q=>aS p.1 q.1/\aS p.2 q.2
def C3(X:Cx)(pos:Pos)(keys:List (Option Lo))(values:List Lo)(trs:List (TE×TE)):Prop:=
 ∀⦃ak:La⦄ (s:Lk) (σ:St) (H:Hp) (Q:List (V×V)->Hp->Prop),aK X ak σ H s->JF trs σ H Q ->
  ↥X (evalPairs<|pairTrees keys values X.env pos) (λvs s'=>∃ps H',aK X ak σ H' s'/\VV ps vs/\Q ps H') X.xe s
def US:C3 X pos [] [] []:=λak s σ H Q I h=>pairTrees_nil_walk ⟨[],H,I,.nil,h⟩
def W9(o:PE X k tk)(j:PE X v tv)(w:C3 X pos ks vs trs):C3 X pos (some k::ks) (v::vs) ((tk,tv)::trs):=λak s σ H Q I h=>
 pairTrees_cons_walk (bC (o s σ H _ I h) λu z ⟨x,H1,c,n,b⟩=>bC (j z σ H1 _ c b) λw2 p ⟨y,q,d,l,m⟩=>
  bC (w p σ q _ d m) λws s3 ⟨ps,e,r,a,i⟩=>⟨(x,y)::ps,e,r,.cons ⟨n,l⟩ a,i⟩)
structure M2(X:Cx)(o:Lo)(m:Lq)(apos:Pos)(e f:Lo)(cpos:Pos):Prop where
 base:attributeBase o m X.env (eval o X.env)=eval o X.env
 few:((backTo cpos<|starEach [e,f] X.env).all (λx => !x.1)&&(backToKw cpos<|keywordEach [] X.env).all (λx=>x.1.isSome)
  && decide (([e,f]:List Lo).length+([]:List Keyword).length+(if ([]:List Keyword).isEmpty then 0 else 1)<30))=true
 line:(apos.endLine==cpos.line)=true
 trees:backTo cpos (starEach [e,f] X.env)=[(false,eval e X.env),(false,eval f X.env)]
def R0(H:Hp)(a:Lh):Prop:=(∃ap,Rd H a<|.dK ap)\/∃ap,Rd H a<|.dT ap
def z18{σ:St}(I:aK X ak σ H s)(d:R0 H a):s.TypeIs (.ref a) "dict"/\(∀b,Value.ref a=.ref b->∃ob,s.heap.get? b=some ob/\ob.dict=none)/\(a==sysModules)=false:=by
 rcases d with⟨ap,e⟩ | ⟨ap,e⟩
 ·let⟨_,i,vs,_,dd⟩:=uV I.hok e;refine⟨dd.typeIs,λb q=>?_,i⟩;cases q;let⟨ob,_,_,c,h,_⟩:=dd;exact⟨ob,c,h.2.1⟩
 ·let⟨_,i,xs,_,dd⟩:=lH I.hok e;refine⟨dd.typeIs,λb q=>?_,i⟩;cases q;let⟨ob,_,_,c,h,_⟩:=dd;exact⟨ob,c,h.2.1⟩
section
variable{X:Cx}{ak:La}{σ:St}{H:Hp}{s:Lk}{a:Lh}{y d:V}{u r:Li}{o:Option V}{A:Around}{E:Va}
def z1j(n:A.units+1<cLine)(I:aK X ak σ H s)(g:fM H a y o)(m:aS y u)(rd:aS d r)(h:∀w' s',aK X ak σ H s'->aS (o.getD d) w'->Q w' s'):wpAny (model X.prog X.w) A (call (.builtin "dict.get") [.ref a,u,r]) Q E s:=by
 rcases g with⟨ap,k,e,i,l⟩ | ⟨ap,k,b,e,i,p,l⟩
 ·subst i;let⟨z,j,vs,c,dd⟩:=uV I.hok e;refine call_meetsIn PySem.F.slot_dict_get dd.typeIs PySem.F.entry_dict_get (PySem.F.args_dict_get_3 _ _ _) (meets_dict_get_default (gD X.prog X.w) a (wJ m) j r) ⟨_,dd.mapOf,h _ _ (I.tok _) ?_⟩;rw[l];exact(c.val k).getD rd
 ·subst i;cases (show u=Value.ref b from m);let⟨z,j,xs,c,dd⟩:=lH I.hok e;refine call_meetsIn PySem.F.slot_dict_get dd.typeIs PySem.F.entry_dict_get (PySem.F.args_dict_get_3 _ _ _) (meetsH_dict_get_default (tupleKind<|gD X.prog X.w) a b j r) ⟨tupleKind_room_in1 n,k,xs,sQ I.hok p,dd,h _ _ (I.tok _) ?_⟩;rw[l];exact(c.val k).getD rd
end
def z2l(td ty tx:TE):TE:=λσ H Q=>td σ H λx H1=>∃a,x=.ref a/\R0 H1 a/\ty σ H1 λy H2=>tx σ H2 λz H3=>∃o,fM H3 a y o/\Q (o.getD z) H3
section
variable{X:Cx}{o e f:Lo}{apos cpos:Pos}{td ty tx:TE}
def L9(K:X.A.units+1<cLine)(k:PE X o td)(r:PE X e ty)(M:PE X f tx)(m:M2 X o "get" apos e f cpos):PE X (.Call (.Attribute o "get" apos) [e,f] [] cpos) (z2l td ty tx):=by
 intro ak s σ H Q I h;refine wpAny_Call_method m.base m.few m.line PySem.F.plainAttrs_dict PySem.F.slot_dict_get PySem.F.type_dict_get<|bC (k s σ H _ I h) λu v b=>?_;let⟨x,H1,i,J,a,ex,d,B⟩:=b;subst ex;obtain rfl:u=Value.ref a:=J;let⟨w,j,_⟩:=z18 i d;exists w,j;rw[m.trees];refine Calls.callWith_builtin rfl (Calls.evalArgs_plain (Calls.spliced_cons (bC (r v σ H1 _ i B) λiv q ⟨y,L,n,p,G⟩=>
  Calls.spliced_cons (bC (M q σ L _ n G) λfv s3 ⟨z,l,N,D,ov,g,C⟩=>Calls.spliced_nil ?_))))
 exact z1j K N g p D λw' s4 E c=>⟨_,l,E,c,C⟩
end
end
section
section
variable{X:Cx}{ak:La}{σ:St}{H:Hp}{s:Lk}{d:Lh}{o:Obj}{u v:HO}
def aK.swap(I:aK X ak σ H s)(e:H d=some u)(B:∀xs,u≠.tup xs)(r:∀x,u≠.own x)(C:∀ps,u≠.tbl ps)(n:∀o w,u=.frz o w->∀o w,X.H₀ d≠some (.frz o w))(j:bN X.prog X.w H s.heap d u->∀H',(∀b xs,H b=some (.tup xs)->H' b=some (.tup xs))->(∀b x,H b=some (.own x)->H' b=some (.own x))->bN X.prog X.w H' s.heap d v):aK X ak σ (upd H d v) s:=by
 let a:∀{b:Lh},H b=none->b≠d:=λz=>(eE e z).symm;let h:∀b xs,H b=some (.tup xs)->upd H d v b=some (.tup xs):=λb xs q=>by rw[aV<|eM q e<|λz=>B xs z.symm];exact q
 let k:∀b x,H b=some (.own x)->upd H d v b=some (.own x):=λb x q=>by rw[aV<|eM q e<|λz=>r x z.symm];exact q
 refine⟨I.ok,I.os,I.bare,⟨I.base.keep,I.base.slot,λb q y A m=>?_,I.base.there,λb xs q=>h b xs<|I.base.tups b xs q,λb i w q=>?_,λb ps q=>?_⟩,I.loc,I.cell,?_,λx c q=>?_,λp E=>?_,λb w q=>?_,I.len⟩
 ·let z:=I.base.free b q y A m;rw[aV<|a z];exact z
 ·let z:=I.base.frzs b i w q;by_cases hb:b=d
  ·subst hb;rw[e]at z;injection z with z
   exact absurd q<|n i w z i w
  ·rw[aV hb];exact z
 ·let⟨more,z⟩:=I.base.tbls b ps q;by_cases hb:b=d
  ·subst hb;rw[e]at z;injection z with z
   exact absurd z<|C _
  ·exact⟨more,by rw[aV hb];exact z⟩
 ·rw[aV<|a I.free];exact I.free
 ·rw[aV<|a<|I.freeC x c q];exact I.freeC x c q
 ·let⟨D,l,G⟩:=I.pin p E;exact⟨D,by rw[aV<|a l];exact l,G⟩
 ·by_cases hb:b=d
  ·subst hb;rw[aW]at q;injection q with q;subst q
   exact j (I.hok b _ e) _ h k
  ·rw[aV hb]at q;exact(I.hok b w q).stay (λ_ _ _ z=>z) (λc z=>k c b z) h
def aK.freeze(I:aK X ak σ H s)(e:H d=some (.dT ap))(a:s.heap.get? d=some o):aK X ak σ (upd H d<|.frz o<|.dT ap) s:=
 I.swap e (by intro _ z;cases z) (by intro _ z;cases z) (by intro _ z;cases z) (by intro _ _ z;cases z) λx H' t w=>⟨a,x.stay (λ_ _ _ z=>z) (λb z=>w b d z) t⟩
def aK.thaw(I:aK X ak σ H s)(e:H d=some (.frz o u))(n:∀o w,X.H₀ d≠some (.frz o w)):aK X ak σ (upd H d u) s:=
 I.swap e (by intro _ z;cases z) (by intro _ z;cases z) (by intro _ z;cases z) (λ_ _ _=>n) λx H' t w=>x.2.stay (λ_ _ _ z=>z) (λb z=>w b d z) t
end
def xK(H0:Hp)(H:Hp)(K:Hp->Prop):Prop:=K H\/∃d o u,H d=some (.frz o u)/\(∀o w,H0 d≠some (.frz o w))/\K (upd H d u)
section
variable{X:Cx}
def xK.inv{σ:St}{K:Hp->Prop}(h:xK X.H₀ H K)(I:aK X ak σ H s):∃H',aK X ak σ H' s/\K H':=by
 rcases h with h | ⟨d,o,u,e,n,h⟩
 ·exact⟨H,I,h⟩
 ·exact⟨_,I.thaw e n,h⟩
end
end
section
section
variable{prog:Lm}{w:Ll}{A:Around}{E:Va}{s:Lk}{it d:Lh}{i n ep:Nat}{es:Array DictEntry}{o:Obj}
def LW(j:s.heap.IsKeyIter it d i n ep)(h:s.heap.get? d=some o)(k:o.data=.dict es ep)(r:es.size=n)(q:es[i]?=some e)(u:∀h',h'.IsKeyIter it d (i+1) n ep->Heap.SameBut it s.heap h'->Q (some e.key) {s with heap:=h' }):⇑A (pyNext<|.ref it) Q E s:=by
 let⟨oi,c,m,a⟩:=id j;let T:=j.typeIs;let l:Builtin.Dict_items.ownsTuple "dict_keyiterator" = false:=by decide
 let p:¬((Value.ref d==Value.none)=true):=λz=>Yt z;unfold pyNext;refine Ya<|wpAny_attempt<|Jb (name:=Str.ofString "__next__") T F.slot_dict_keyiterator_next<|Y8 F.slot_dict_keyiterator_next T F.entry_dict_keyiterator_next ?_<|F.args_dict_keyiterator_next_1 _;refine Ya<|Yb<|Ya<|Ya ?_;refine Ya<|wpAny_typeNameOfWhole_keyiter T<|Yb<|Ya<|wpAny_fieldsOf c a ?_;simp only[l,Bool.false_eq_true,if_false];show wpAny _ _ (if (Value.ref d==Value.none)=true then _ else _) _ _ s;rw[Yh p];refine Ya<|Yb<|Ya<|Y7 h k ?_;rw[Yh<|by rw[r];simp];refine Ya<|Yb<|Ya<|wpAny_dictEpoch h k ?_;rw[Yh<|by simp];let lt:¬((i:Int)<0):=by lia
 refine Yb ?_;simp only[lt,if_false,Int.toNat_natCast,q];refine Ya<|Ya<|wpAny_typeNameOfWhole_keyiter T<|Yb<|Ya<|wpAny_isOneOf_keyiter T ?_;show wpAny _ _ (setField (.ref it) 1 (rawInt<|(i:Int)+1) >>= _) _ _ s;refine Ya<|wpAny_setField c a (by simp) ?_;let b:(s.heap.update it<|Obj.mapFields (·.setIfInBounds 1 (rawInt<|(i:Int)+1))).IsKeyIter it d (i+1) n ep:=⟨_,Heap.get?_update_self _ c<|Obj.isFreed_of_fields<|Obj.data_mapFields a _,(Obj.cls_mapFields ..).trans m,by rw[Obj.data_mapFields a];simp[rawInt]⟩;let v:Shared.TypeIs {s with heap:=s.heap.update it (Obj.mapFields (·.setIfInBounds 1 (rawInt<|(i:Int)+1))) } (.ref it) "dict_keyiterator":=b.typeIs;refine Ya<|Jr<|Ya<|wpAny_isOneOf_keyiter v ?_;show wpAny _ _ (pure e.key) _ _ _;exact Yb<|Yb ⟨_,Z,Yb<|u _ b<|Heap.SameBut.update ..⟩
def LT{Q:Option Li->Lk->Prop}(h:A'.handled=none)(c:∀h',(∀b o,s.heap.get? b=some o->h'.get? b=some o)->Q none {s with heap:=h' }){P:Fin->Lk->Prop}:wpAny (model prog w) A' (newExc (.type "StopIteration") [] >>= λe=>raiseNew e) P (λe s'=>⇑A (do if (<- isInstance e (.type "StopIteration"))=true then pure none else throw e) Q E' s') s:=by refine Ya ?_;simp only[newExc,newTuple];refine Ya<|Jo (Ya (m:=firstArgMember _ _)<|wpAny_of_eq (a:=Value.none) (by first | rfl | (simp only[firstArgMember];rfl))<|Jo ?_<|by size_fits) (by size_fits);simp only[raiseNew];refine Ya<|wpAny_handled ?_;rw[h];refine Ya<|Yb<|wpAny_throw ?_;let sub:=isSubtype_stop;refine Ya<|wpAny_isInstance (T:="StopIteration") (b:=true) ⟨_,Yk _ rfl,Z⟩ sub ?_;exact Yb<|c _ λb o e=>Ye _<|Ye _ e
def J2(r:A.handled=none)(h:s.heap.IsKeyIter it d i n ep)(c:s.heap.get? d=some o)(j:o.data=.dict es ep)(u:es.size=n)(hx:n<=i)(v:∀h',Heap.ExtBut it s.heap h'->Q none {s with heap:=h' }):⇑A (pyNext<|.ref it) Q E s:=by
 let⟨oi,l,hci,a⟩:=id h;let T:=h.typeIs;let m:Builtin.Dict_items.ownsTuple "dict_keyiterator" = false:=by decide
 let q:¬((Value.ref d==Value.none)=true):=λz=>Yt z;unfold pyNext;refine Ya<|wpAny_attempt<|Jb (name:=Str.ofString "__next__") T F.slot_dict_keyiterator_next<|Y8 F.slot_dict_keyiterator_next T F.entry_dict_keyiterator_next ?_<|F.args_dict_keyiterator_next_1 _;refine Ya<|Yb<|Ya<|Ya ?_;refine Ya<|wpAny_typeNameOfWhole_keyiter T<|Yb<|Ya<|wpAny_fieldsOf l a ?_;simp only[m,Bool.false_eq_true,if_false];show wpAny _ _ (if (Value.ref d==Value.none)=true then _ else _) _ _ s;rw[Yh q];refine Ya<|Yb<|Ya<|Y7 c j ?_;rw[Yh<|by rw[u];simp];refine Ya<|Yb<|Ya<|wpAny_dictEpoch c j ?_;rw[Yh<|by simp];let lt:¬((i:Int)<0):=by lia
 let p:es[i]?=none:=Array.getElem?_eq_none ⋯;refine Yb ?_;simp only[lt,if_false,Int.toNat_natCast,p];refine Ya<|Ya<|wpAny_typeNameOfWhole_keyiter T<|Yb ?_;show wpAny _ _ (setField (.ref it) 0 .none >>= _) _ _ s;refine Ya<|wpAny_setField l a (by simp) ?_;refine LT (A:=A) (A':=A.in1) (E':=E) r λh' k=>?_;exact v h' λb o x e=>k b o<|(Heap.SameBut.update ..).extBut b o x e
def XR(a:IsItemIter s.heap it d i n ep ok ov)(k:s.heap.get? d=some o)(j:o.data=.dict es ep)(M:es.size=n)(U:es[i]?=some e)(Y:∀h',IsItemIterOut h' it d (i+1) n ep e.key e.val s.heap.objs.size->h'.get? s.heap.objs.size=some { cls:=.type "tuple",data:=.seq #[e.key,e.val] }->h'.objs.size=s.heap.objs.size+1 ->
   (∀b q,b≠it->s.heap.get? b=some q->h'.get? b=some q)->Q (some<|.ref s.heap.objs.size) {s with heap:=h' }):⇑A (pyNext<|.ref it) Q E s:=by
 let T:s.TypeIs (.ref it) "dict_itemiterator":=⟨_,a,Z⟩;let u:Builtin.Dict_items.ownsTuple "dict_itemiterator" = true:=by decide
 let R:¬((Value.ref d==Value.none)=true):=λz=>Yt z;unfold pyNext;refine Ya<|wpAny_attempt<|Jb (name:=Str.ofString "__next__") T F.slot_dict_itemiterator_next<|Y8 F.slot_dict_itemiterator_next T F.entry_dict_itemiterator_next ?_<|F.args_dict_itemiterator_next_1 _;refine Ya<|Yb<|Ya<|Ya ?_;refine Ya<|wpAny_typeNameOfWhole_itemiter T<|Yb<|Ya<|wpAny_fieldsOf a rfl ?_;simp only[u,if_true];show wpAny _ _ (if (Value.ref d==Value.none)=true then _ else _) _ _ s;rw[Yh R];refine Ya<|Yb<|Ya<|Y7 k j ?_;rw[Yh<|by rw[M];simp];refine Ya<|Yb<|Ya<|wpAny_dictEpoch k j ?_;rw[Yh<|by simp];let lt:¬((i:Int)<0):=by lia
 refine Yb ?_;simp only[lt,if_false,Int.toNat_natCast,U];refine Ya<|Ya<|wpAny_typeNameOfWhole_itemiter T<|Yb<|Ya<|wpAny_isOneOf_itemiter T ?_;show wpAny _ _ (setField (.ref it) 3 (rawInt<|(i:Int)+1) >>= _) _ _ s;refine Ya<|Jp a (by simp) λc e1 D=>?_;let y:IsItemIter c it d (i+1) n ep ok ov:=by
  let z:((i+1:Nat):Int)=(i:Int)+1:=by lia
  unfold IsItemIter;rw[z];simpa[rawInt]using e1
 let v:Shared.TypeIs {s with heap:=c } (.ref it) "dict_itemiterator":=⟨_,y,Z⟩;refine Ya<|Jr<|Ya<|wpAny_isOneOf_itemiter v<|Ya<|wpAny_isOneOf_itemiter v ?_;show wpAny _ _ (Builtin.Dict_items.pairFromOwner (.ref it) 6 e.key e.val) _ _ _;unfold Builtin.Dict_items.pairFromOwner;refine Ya<|wpAny_newTuple ?_;let r:c.objs.size=s.heap.objs.size:=D.1;let p:it<s.heap.objs.size:=Yn a;let l:IsItemIter (c.push { cls:=.type "tuple",data:=.seq #[e.key,e.val] }) it d (i+1) n ep ok ov:=Ye _ y;let K:(c.push { cls:=.type "tuple",data:=.seq #[e.key,e.val] }).get? s.heap.objs.size=some { cls:=.type "tuple",data:=.seq #[e.key,e.val] }:=by rw[<- r];exact Yk _ rfl
 let N:(c.push { cls:=.type "tuple",data:=.seq #[e.key,e.val] }).objs.size=s.heap.objs.size+1:=by rw[Heap.size_push,r]
 let X:∀b q,b≠it->s.heap.get? b=some q->(c.push { cls:=.type "tuple",data:=.seq #[e.key,e.val] }).get? b=some q:=λb q h z=>Ye _<|D.extBut b q h z;dsimp only;rw[r];show wpAny _ _ (Builtin.Dict_items.ownedTupleIsFree (.ref it) >>= _) _ _ {s with heap:=c.push { cls:=.type "tuple",data:=.seq #[e.key,e.val] } };generalize (c.push { cls:=.type "tuple",data:=.seq #[e.key,e.val] }:Lp)=h2 at *;refine Ya ?_;unfold Builtin.Dict_items.ownedTupleIsFree;refine Ya<|Jl l rfl (x:=.none) rfl<|Yb ?_;simp only[if_true];refine Ya<|Jl l rfl (x:=ok) rfl<|Ya<|Jl l rfl (x:=ov) rfl<|Ya<|Jp l (by simp) λJ O H=>?_;let P:IsItemIter J it d (i+1) n ep e.key ov:=O;refine Ya<|Jp P (by simp) λh4 e4 G=>?_;let L:IsItemIter h4 it d (i+1) n ep e.key e.val:=e4;refine Ya<|Jp L (by simp) λh5 S I=>?_;let W:IsItemIterOut h5 it d (i+1) n ep e.key e.val s.heap.objs.size:=S;refine Ya<|Jp W (by simp) λm e6 C=>?_;let i6:IsItemIterOut m it d (i+1) n ep e.key e.val s.heap.objs.size:=e6;let B:∀b q,b≠it->h2.get? b=some q->m.get? b=some q:=λb q h z=>C.extBut b q h<|I.extBut b q h<|G.extBut b q h<|H.extBut b q h z;refine Ya<|wpAny_letGo<|Yb<|Yb ⟨_,Z,Yb<|Y m i6 (B _ _ (Nat.ne_of_gt p) K) ?_ λb q h z=>B b q h<|X b q h z⟩;exact(C.1.trans<|I.1.trans<|G.1.trans H.1).trans N
def WT(p:A.handled=none)(a:IsItemIter s.heap it d i n ep ok ov)(c:s.heap.get? d=some o)(h:o.data=.dict es ep)(q:es.size=n)(hx:n<=i)(r:∀h',Heap.ExtBut it s.heap h'->Q none {s with heap:=h' }):⇑A (pyNext<|.ref it) Q E s:=by
 let T:s.TypeIs (.ref it) "dict_itemiterator":=⟨_,a,Z⟩;let j:Builtin.Dict_items.ownsTuple "dict_itemiterator" = true:=by decide
 let m:¬((Value.ref d==Value.none)=true):=λz=>Yt z;unfold pyNext;refine Ya<|wpAny_attempt<|Jb (name:=Str.ofString "__next__") T F.slot_dict_itemiterator_next<|Y8 F.slot_dict_itemiterator_next T F.entry_dict_itemiterator_next ?_<|F.args_dict_itemiterator_next_1 _;refine Ya<|Yb<|Ya<|Ya ?_;refine Ya<|wpAny_typeNameOfWhole_itemiter T<|Yb<|Ya<|wpAny_fieldsOf a rfl ?_;simp only[j,if_true];show wpAny _ _ (if (Value.ref d==Value.none)=true then _ else _) _ _ s;rw[Yh m];refine Ya<|Yb<|Ya<|Y7 c h ?_;rw[Yh<|by rw[q];simp];refine Ya<|Yb<|Ya<|wpAny_dictEpoch c h ?_;rw[Yh<|by simp];let lt:¬((i:Int)<0):=by lia
 let l:es[i]?=none:=Array.getElem?_eq_none ⋯;refine Yb ?_;simp only[lt,if_false,Int.toNat_natCast,l];refine Ya<|Ya<|wpAny_typeNameOfWhole_itemiter T<|Yb ?_;show wpAny _ _ (setField (.ref it) 2 .none >>= _) _ _ s;refine Ya<|wpAny_setField a rfl (by simp) ?_;refine LT (A:=A) (A':=A.in1) (E':=E) p λh' k=>?_;exact r h' λb o u e=>k b o<|(Heap.SameBut.update ..).extBut b o u e
end
end
section
theorem Paired.at'{F:α->β->Prop}:∀{l} {m},Paired F l m->∀{i:Nat} {a},l[i]?=some a->∃b,m[i]?=some b/\F a b
 | _,_,.nil,i,a,h=>by simp at h
 | _,_,.cons r _,0,a,h=>by simp at h;subst h;exact⟨_,rfl,r⟩
 | _,_,.cons _ t,i+1,a,h=>by rw[List.getElem?_cons_succ]at h;let⟨b,c,d⟩:=Paired.at' t h;exact⟨b,by rw[List.getElem?_cons_succ];exact c,d⟩
def mI(H:Hp)(d:Lh)(o:Obj)(ap:Ka):Prop:=H d=some (.frz o<|.dT ap)
def AO(d:Lh)(o:Obj)(ap:Ka):It:=
 ⟨λi H=>mI H d o ap/\i<ap.length,λi H x H'=>H'=H/\∃b k v,ap[i]?=some (k,v)/\H b=some (.tup<|k.map kV)/\x=.ref b,λi H=>mI H d o ap/\ap.length<=i⟩
def AQ(d:Lh)(o:Obj)(ap:Ka):It:=
 ⟨λi H=>mI H d o ap/\i<ap.length,λi H x H'=>∃p b k v,H p=none/\ap[i]?=some (k,v)/\H b=some (.tup<|k.map kV)/\x=.ref p/\H'=upd H p (.tup [.ref b,v]),λi H=>mI H d o ap/\ap.length<=i⟩
section
variable{X:Cx}{ak:La}{σ:St}{H:Hp}{s:Lk}{d:Lh}{o:Obj}{ap:Ka}{es:Array DictEntry}{ep:Nat}
def aK.entries(I:aK X ak σ H s)(e:mI H d o ap)(c:o.data=.dict es ep):s.heap.get? d=some o/\es.size=ap.length/\∀(i:Nat) k v,ap[i]?=some (k,v)->∃(b:Lh) (e:DictEntry),es[i]?=some e/\e.key=.ref b/\H b=some (.tup<|k.map kV)/\aS v e.val:=by
 let⟨j,z,y,xs,r,x,es',ep',p,h2,a,h,h5⟩:=I.hok d _ e;let A:x=o:=Jg<|p.symm.trans j;subst A;rw[c]at a;injection a with a _
 subst a;refine⟨j,(size_of_entries h).trans (Paired.length r).symm,λi k v q=>?_⟩;let⟨⟨B,b,u⟩,l,q2,m,n⟩:=Paired.at' r q;refine⟨b,entryOfKey (tupleKind<|gD X.prog X.w) (B,b,u),by rw[entry_at h i,l];rfl,Z,m,n⟩
end
def YX{K:Lj}(a:o.data=.dict es ep):jT P w K tg (AO d o ap) [it] it (λi h=>h.IsKeyIter it d i ap.length ep) where
 mem:=by simp
 obj:=λi h st b l=>by
  let e:b=it:=by simpa using l
  subst e;let⟨q,e,c,z⟩:=st;exact⟨q,e,λv y=>by rw[z]at y;cases y⟩
 keep:=λi h h' st k=>st.at λq e=>k it (by simp) q e
 item:=by intro X L hw x O i ak s σ H E I m st M;subst L hw x;let⟨B,lt⟩:=M;let⟨G,hz,N⟩:=I.entries B a;obtain⟨⟨k,v⟩,Q⟩:∃p,ap[i]?=some p:=⟨ap[i],by simp[lt]⟩;let⟨b,e,ee,Y,A,_⟩:=N i k v Q;let⟨n,r,R,J,u,C⟩:=m it (by simp);refine LW st G a hz ee λh' j S=>?_;let T:aK X ak σ H {s with heap:=h' }:=I.turned (t':=s.toks) (λc q l z=>(S.2 c l).trans z) n r J u C;let⟨q,e',c,z⟩:=id j;exact⟨e.key,Z,A2 (s:={s with heap:=h' }) e' c z ∅ ⟨.ref b,H,T,by rw[Y];rfl,⟨Z,b,k,v,Q,A,Z⟩,j,λc D=>(m c D).1⟩⟩
 done:=by intro X L hw x O i ak s σ H E I m st M;subst L hw x;let⟨B,U⟩:=M;let⟨G,hz,N⟩:=I.entries B a;let⟨n,r,R,J,u,C⟩:=m it (by simp);exact J2 (I.ok.hd O) st G a hz U λh' A=>⟨rfl,I.turned (t':=s.toks) (λb q l e=>A b q l e) n r J u C⟩
 self:=λ_ _ _ _ _ st h=>wpAny_pyIter_keyiter st h
def zea(a:IsItemIter s.heap it d i n ep ok ov)(h:Q (.ref it) s):⇑A (pyIter<|.ref it) Q E s:=by let T:s.TypeIs (.ref it) "dict_itemiterator":=⟨_,a,Z⟩;let b:entryFor table "dict_itemiterator.__iter__"=some Builtin.«dict_keyiterator.__iter__»:=entryFor_alias (id':="dict_keyiterator.__iter__") (by kernel_rfl) Z nofun (by kernel_rfl);refine wpAny_pyIter_slot T F.slot_dict_itemiterator_iter<|Y8 F.slot_dict_itemiterator_iter T b ?_<|F.args_dict_itemiterator_iter_1 _;exact Yb ⟨_,Z,"dict_itemiterator",_,T,F.slot_dict_itemiterator_next.lookup,h⟩
def ZR{K:Lj}(a:o.data=.dict es ep):jT P w K (.Tuple xs xk pos) (AQ d o ap) [it] it (λi h=>∃ok l,IsItemIter h it d i ap.length ep ok l) where
 mem:=by simp
 obj:=λi h ⟨ok,l,st⟩ b G=>by
  let e:b=it:=by simpa using G
  subst e;exact⟨_,st,λv y=>by cases y⟩
 keep:=λi h h' ⟨ok,l,st⟩ k=>⟨ok,l,k it (by simp) _ st⟩
 item:=by
  intro X M hw x j i ak s σ H E I r st N;subst M hw x;let⟨ok,l,st⟩:=st;let⟨C,lt⟩:=N;let⟨L,hz,Q⟩:=I.entries C a;obtain⟨⟨k,v⟩,R⟩:∃p,ap[i]?=some p:=⟨ap[i],by simp[lt]⟩;let⟨b,e,ee,ek,B,rv⟩:=Q i k v R;let m:it<s.heap.objs.size:=Yn st;refine XR st L a hz ee λh' D tp sz Y=>?_;refine⟨_,Z,wpAny_letOwnedTupleGo_items D λn A O=>?_⟩;let J:n.get? s.heap.objs.size=some { cls:=.type "tuple",data:=.seq #[e.key,e.val] }:=O.extBut _ _ (Nat.ne_of_gt m) tp;let u:∀c q,c∉[it]->s.heap.get? c=some q->n.get? c=some q:=λc q j z=>O.extBut c q ‹j›<|Y c q ‹j› z;refine⟨.ref s.heap.objs.size,upd H s.heap.objs.size<|.tup [.ref b,v],I.drawn (t':=s.toks) (ch:=[it]) (λc j=>r c j) u (Yi _) ?_,Z,⟨_,b,k,v,I.fresh,R,B,Z,Z⟩,⟨_,_,A⟩,λc j=>?_⟩
  ·exact⟨by show 2<=sizeLine;rw[sizeLine_eq];decide,[e.key,e.val],.cons (by rw[ek];rfl)<|.cons rv .nil,⟨_,J,Z,_,Z⟩⟩
  ·let e:c=it:=by simpa using j
   subst e;rw[aV<|Y0 m];exact(r c<|by simp).1
 done:=by intro X M hw x j i ak s σ H E I r st N;subst M hw x;let⟨ok,l,st⟩:=st;let⟨C,ge⟩:=N;let⟨L,hz,Q⟩:=I.entries C a;let⟨S,T,f2,f3,U,f5⟩:=r it (by simp);exact WT (I.ok.hd j) st L a hz ge λh' B=>⟨rfl,I.turned (t':=s.toks) (λb q G e=>B b q G e) S T f3 U f5⟩
 self:=λ_ _ _ _ _ ⟨_,_,st⟩ h=>zea st h
end
section
section
variable{prog:Lm}{w:Ll}{A:Around}{E:Va}{s:Lk}{d:Lh}{ep:Nat}{es:Array DictEntry}{o:Obj}
def NG(e:(d==sysModules)=false)(T:s.TypeIs (.ref d) "dict")(b:s.heap.get? d=some o)(a:o.data=.dict es ep)(c:Q (.ref s.heap.objs.size) {s with heap:=s.heap.push { cls:=.type "dict_keyiterator",data:=.fields #[.ref d,.int 0 0,.int es.size 0,.int ep 0] } }):⇑A (pyIter<|.ref d) Q E s:=by
 refine wpAny_pyIter_slot T F.slot_dict_iter<|Y8 F.slot_dict_iter T F.entry_dict_iter ?_<|F.args_dict_iter_1 _;unfold Builtin.«dict.__iter__»;refine Ya ?_;unfold Builtin.Dict.dictSlotNone;refine Ya<|wpAny_notOrdered_dict T<|Yb ?_;let h:¬((d==sysModules)=true):=by rw[e];exact Yt
 show wpAny _ _ (Builtin.Dict.showsAll d >>= _) _ _ s;unfold Builtin.Dict.showsAll;rw[Yh h];refine Ya<|Yb<|Ya<|Y7 b a<|Ya<|wpAny_dictEpoch b a ?_;exact Ya<|Jo<|Yb ⟨_,Z,"dict_keyiterator",_,⟨_,Yk _ rfl,Z⟩,F.slot_dict_keyiterator_next.lookup,c⟩
theorem mB(b:(d==sysModules)=false)(T:s.TypeIs (.ref d) "dict")(c:Q (.ref s.heap.objs.size) {s with heap:=s.heap.push { cls:=.type "dict_items",data:=.fields #[.ref d] } }):⇑A (call (.builtin "dict.items") [.ref d]) Q E s:=by
 refine Y8 F.slot_dict_items T F.entry_dict_items ?_<|F.args_dict_items_1 _;let a:¬((d==sysModules)=true):=by rw[b];exact Yt
 unfold Builtin.«dict.items»;refine Ya ?_;unfold Builtin.Dict.noArgs;refine Ya<|wpAny_notOrdered_dict T<|Yb ?_;show wpAny _ _ (Builtin.Dict.showsAll d >>= _) _ _ s;unfold Builtin.Dict.showsAll;rw[Yh a];exact Ya<|Yb<|Ya<|Jo<|Yb ⟨_,Z,c⟩
def X0(e:s.heap.IsItemsView v d)(h:s.heap.get? d=some o)(a:o.data=.dict es ep)(i:Q (.ref s.heap.objs.size) {s with heap:=s.heap.push { cls:=.type "dict_itemiterator",data:=.fields #[.none,.bool false,.ref d,.int 0 0,.int es.size 0,.int ep 0,.none,.none] } }):⇑A (pyIter<|.ref v) Q E s:=by
 let⟨q,j,hc,b⟩:=id e;let c:Builtin.Dict_items.ownsTuple "dict_itemiterator" = true:=by decide
 refine wpAny_pyIter_slot e.typeIs F.slot_dict_items_iter<|Y8 F.slot_dict_items_iter e.typeIs F.entry_dict_items_iter ?_<|F.args_dict_items_iter_1 _;unfold Builtin.«dict_items.__iter__»;refine Ya<|Yb<|Ya ?_;unfold Builtin.Dict_items.dictOf;refine Ya<|Jl j b (x:=.ref d) rfl<|Yb<|Ya ?_;unfold Builtin.Dict_items.newIterator;refine Ya<|Y7 h a<|Ya<|wpAny_dictEpoch h a ?_;simp only[c,if_true];refine Jo (Yb ⟨_,Z,"dict_itemiterator",_,⟨_,Yk _ Z,Z⟩,F.slot_dict_itemiterator_next.lookup,?_⟩) (by simp only[sizeOk,Builtin.Dict_items.ownedTupleFields,List.size_toArray,List.length_append,List.length_cons,List.length_nil,sizeLine_eq];lia);simpa[rawInt,Builtin.Dict_items.ownedTupleFields]using i
end
def z0s(td:TE):TI:=λσ H R=>td σ H λx H1=>∃d ap,x=.ref d/\Rd H1 d (.dT ap)/\∀o,R (AO d o ap)<|upd H1 d<|.frz o<|.dT ap
def IJ(td:TE):TI:=λσ H R=>td σ H λx H1=>∃d ap,x=.ref d/\Rd H1 d (.dT ap)/\∀o,R (AQ d o ap)<|upd H1 d<|.frz o<|.dT ap
section
variable{X:Cx}{tg:Lo}{ak:La}{σ:St}{H:Hp}{s:Lk}{d:Lh}{ap:Ka}
def aK.still(I:aK X ak σ H s)(e:Rd H d (.dT ap)):∃o c j,s.heap.get? d=some o/\s.TypeIs (.ref d) "dict"/\(∀b,Value.ref d=.ref b->∃ob,s.heap.get? b=some ob/\ob.dict=none)/\(d==sysModules)=false /\
  o.data=.dict c j/\c.size=ap.length/\aK X ak σ (upd H d<|.frz o<|.dT ap) s:=by
 let⟨z,n,xs,i,o,c,j,a,k,l,p,h5,h6⟩:=lH I.hok e;let T:s.TypeIs (.ref d) "dict":=⟨o,a,k.1⟩;exists o,c,j,a,T,λb q=>?_,n,l,(size_of_entries p).trans (Paired.length i).symm
 ·cases q;exact⟨o,a,k.2.1⟩
 rcases e with e | ⟨h,e⟩
 ·exact I.freeze e a
 ·let q:s.heap.get? d=some h:=(I.hok d _ e).1;let m:h=o:=Jg<|q.symm.trans a;subst m;have:upd H d (.frz h<|.dT ap)=H:=by
   funext b;unfold upd;split
   ·rename_i z;rw[z,e]
   ·rfl
  rw[this];exact I
def T3(k:PE X l tl):PI X tg l (z0s tl):=by
 intro ak s σ H R I h;refine bC (k s σ H _ I h) λv c j=>?_;let⟨x,H1,u,p,d,ap,ex,e,q⟩:=j;subst ex;cases p;let⟨o,es,ep,m,T,_,n,a,hz,i⟩:=u.still e;refine NG n T m a ⟨c.heap.objs.size,[c.heap.objs.size],_,_,_,Z,i.kept (t':=c.toks) λb q z=>Ye _ z,YX a,⟨_,Yk _ Z,Z,by rw[hz];rfl⟩,λb w=>?_,q o⟩;let r:b=c.heap.objs.size:=by simpa using w
 subst r;exact i.fpOk (Yi _)<|i.hok.fresh<|Yi _
def yZ{xs:List Lo}{G:Nat}{E c a:Pos}{o:Lo}{r:TE}(u:PE X o r)(j:↑(attributeBase o "items" X.env (eval o X.env)=eval o X.env))(i:↑((c.endLine==a.line)=true)):PI X (.Tuple xs G E) (.Call (.Attribute o "items" c) [] [] a) (IJ r):=by intro ak s σ H R I h;refine wpAny_Call_method0_late j i<|bC (u s σ H _ I h) λv m l=>?_;let⟨x,H1,D,B,d,ap,ex,e,q⟩:=l;subst ex;cases B;let⟨ob,es,ep,n,T,y,A,k,hz,w⟩:=D.still e;refine⟨"dict","dict.items",PySem.F.plainAttrs_dict,PySem.F.slot_dict_items,PySem.F.type_dict_items,T,y,Calls.callWith_builtin rfl<|PySem.evalArgs_none<|mB A T ?_⟩;let p:=w.kept (t':=m.toks) (h':=m.heap.push { cls:=.type "dict_items",data:=.fields #[.ref d] }) λb q z=>Ye _ z;refine X0 ⟨_,Yk _ Z,Z,Z⟩ (Ye _ n) k ?_;refine⟨_,[_],_,_,_,Z,p.kept (t':=m.toks) λb q z=>Ye _ z,ZR k,⟨_,_,by rw[<- hz];exact Yk _ Z⟩,λb J=>?_,q ob⟩;let C:=Yq.mp J;subst C;exact p.fpOk (Yi _)<|p.hok.fresh<|Yi _
end
end
section
section
variable{prog:Lm}{w:Ll}{κ:Type}[DecidableEq κ]{knd:HeapKind prog w κ}{A:Around}{E:Va}{s:Lk}
inductive eU(A:Around)(s:Lk)(ys:List (κ×Lh×Li)):List (κ×Lh×Li)->Bool->Prop
 | nil:eU A s ys [] true
 | miss {x:κ×Lh×Li} {r:List (κ×Lh×Li)}:atKey ys x.1=none->eU A s ys (x::r) false
 | hit {x:κ×Lh×Li} {p:Lh×Li} {r:List (κ×Lh×Li)} {e c:Bool}:atKey ys x.1=some p->SeqAt.EqAt A s x.2.2 p.2 e->eU A s ys r c->eU A s ys (x::r) (e&&c)
def eU.inv{x:κ×Lh×Li}(h:eU A s ys (x::r) c):(atKey ys x.1=none/\c=false)\/∃p e c',atKey ys x.1=some p/\SeqAt.EqAt A s x.2.2 p.2 e/\eU A s ys r c'/\c=(e&&c'):=by
 cases h with
 | miss a=>exact .inl ⟨a,rfl⟩
 | hit a b c=>exact .inr ⟨_,_,_,a,b,c,rfl⟩
def NT(hu:knd.room A)(ha:(a==sysModules)=false)(hb:(b==sysModules)=false)(da:s.heap.DictOfH knd a xs)(db:s.heap.DictOfH knd b ys)(n:xs.length=ys.length->eU A s ys xs r) (h:Q (xs.length==ys.length&&r) s):⇑A (Builtin.Dict.samePairs nm a b) Q E s:=by
 let⟨oa,k,pa,u,_,q,N,T,na⟩:=da;let⟨ob,o,pb,v,_,tb,I,U,K⟩:=db;let B:k.size=xs.length:=size_of_entries N;let P:o.size=ys.length:=size_of_entries I;let C:¬((a==sysModules)=true):=by rw[ha];exact Yt
 let H:¬((b==sysModules)=true):=by rw[hb];exact Yt
 unfold Builtin.Dict.samePairs Builtin.Dict.showsAll;rw[Yh C,Yh H];refine Ya<|Yb<|Ya<|Yb<|Ya<|Y7 u q ?_;dsimp only;refine Ya<|Y7 v tb ?_;by_cases hz:xs.length=ys.length
 case neg=>
  let J:(k.size != o.size)=true:=by rw[B,P];simpa using hz
  let X:(xs.length==ys.length)=false:=by simpa using hz
  rw[Yl J];rw[X,Bool.false_and]at h;exact Ya<|wpAny_rule<|Yb h
 let J:¬((k.size != o.size)=true):=by rw[B,P,hz];simp
 let h':Q r s:=by simpa[hz]using h
 rw[Yh J];refine Ya<|wpAny_dictEpoch u q<|Ya ?_;rw[Std.Legacy.Range.forIn_eq_forIn_range'];simp only[Std.Legacy.Range.size,Nat.sub_zero,Nat.add_sub_cancel,Nat.div_one];refine wpAny_forIn_list _ (λrest c s'=>s'=s/\c=(none,())/\∃i,rest=List.range' i (k.size-i)/\i<=k.size/\eU A s ys (xs.drop i) r) _ ?_ ?_ _ _ ⟨Z,Z,0,by simp,Y2 _,n hz⟩
 ·rintro x rest c s' ⟨rfl,rfl,i,d,O,m⟩;let lt:i<k.size:=Nat.lt_of_not_le λz=>by rw[Nat.sub_eq_zero_of_le z]at d;simp at d
  let G:k.size-i=(k.size-(i+1))+1:=by lia
  rw[G,List.range'_succ]at d;injection d with e1 e2;subst e1
  let y:x<xs.length:=by lia
  let ex:k[x]?=some (entryOfKey knd xs[x]):=by rw[entry_at N x,Yc y];rfl
  let Y:xs.drop x=xs[x]::xs.drop (x+1):=List.drop_eq_getElem_cons y;refine Ya<|Y7 u q ?_;rw[ex];rw[Y]at m;show wpAny _ _ (holding [Value.ref xs[x].2.1,xs[x].2.2] _ >>= _) _ _ _;refine Ya<|Jr<|Ya<|wpAny_dictFind_heap hu (T _<|Jw y) v tb I U K (λR=>?_) λj p D=>?_
  ·rcases m.inv with⟨_,d⟩ | ⟨p,_,_,l,_⟩
   ·rw[d]at h';refine Yb ?_;show wpAny _ _ (if (!false)=true then _ else _) _ _ _;rw[Yl ∅];exact Yb<|Yb h'
   ·rw[atKey_none_of_get R]at l;cases l
  ·let lj:o[j]?=some (entryOfKey knd (xs[x].1,p)):=by rw[entry_at I j,D];rfl
   refine Ya<|Y7 v tb ?_;rw[lj];rcases m.inv with⟨L,_⟩ | ⟨p',e,c',l,S,M,d⟩
   ·rw[atKey_of_get K D]at L;cases L
   rw[atKey_of_get K D]at l;injection l with l;subst l
   refine Jr<|S prog w _ _ ?_;cases e with
   | false=>rw[d,Bool.false_and]at h';show wpAny _ _ (if (!false)=true then _ else _) _ _ _;rw[Yl ∅];exact Yb<|Yb h'
   | true=>
    rw[Bool.true_and]at d;rw[<- d]at M;show wpAny _ _ (if (!true)=true then _ else _) _ _ _;rw[Yh ∅];refine Ya<|wpAny_dictEpoch u q ?_;rw[Yh<|by simp];exact Yb ⟨Z,Z,x+1,e2,lt,M⟩
 ·rintro c s' ⟨rfl,rfl,i,d,O,m⟩;let W:i=k.size:=Nat.le_antisymm O (Nat.le_of_not_lt λz=>by
   let G:k.size-i=(k.size-(i+1))+1:=by lia
   rw[G,List.range'_succ]at d;cases d)
  refine Yb ?_;rw[W,B,List.drop_length]at m;cases m;exact h'
def L3(j:knd.room A.in1)(i:A.units<cLine)(k:(a==sysModules)=false)(l:(b==sysModules)=false)(d:s.heap.DictOfH knd a xs)(e:s.heap.DictOfH knd b ys)(c:xs.length=ys.length->eU A.in1 s ys xs r) (h:Q (.bool<|xs.length==ys.length&&r) s):⇑A (compareOp .Eq (.ref a)<|.ref b) Q E s:=by refine Ju (op:=.Eq) d.typeIs e.typeIs PySem.F.slot_dict_eq (Y8 PySem.F.slot_dict_eq d.typeIs PySem.F.entry_dict_eq ?_<|PySem.F.args_dict_eq_2 _ _) i;show wpAny _ _ (Builtin.Dict.dictSlotArgs "__eq__" ⟨[.ref a,.ref b],[]⟩ >>= _) _ _ s;refine Ya ?_;unfold Builtin.Dict.dictSlotArgs;refine Ya<|wpAny_notOrdered_dict d.typeIs<|Yb ?_;refine Ya<|wpAny_isInstance (T:="dict") e.typeIs PySem.F.sub_dict_dict ?_;simp only[Bool.not_true,Bool.false_eq_true,if_false];refine Ya<|Yb<|Ya<|Yb<|Ya<|NT j k l d e c<|Yb ⟨_,Z,(λx=>nomatch x),?_⟩;simpa using h
def WN(j:knd.room A.in1)(i:A.units<cLine)(k:(a==sysModules)=false)(l:(b==sysModules)=false)(d:s.heap.DictOfH knd a xs)(e:s.heap.DictOfH knd b ys)(c:xs.length=ys.length->eU A.in1 s ys xs r) (h:Q (.bool<|!(xs.length==ys.length&&r)) s):⇑A (compareOp .NotEq (.ref a)<|.ref b) Q E s:=by refine Ju (op:=.NotEq) d.typeIs e.typeIs PySem.F.slot_dict_ne (Y8 PySem.F.slot_dict_ne d.typeIs PySem.F.entry_dict_ne ?_<|PySem.F.args_dict_ne_2 _ _) i;show wpAny _ _ (Builtin.Dict.dictSlotArgs "__ne__" ⟨[.ref a,.ref b],[]⟩ >>= _) _ _ s;refine Ya ?_;unfold Builtin.Dict.dictSlotArgs;refine Ya<|wpAny_notOrdered_dict d.typeIs<|Yb ?_;refine Ya<|wpAny_isInstance (T:="dict") e.typeIs PySem.F.sub_dict_dict ?_;simp only[Bool.not_true,Bool.false_eq_true,if_false];refine Ya<|Yb<|Ya<|Yb<|Ya<|NT j k l d e c<|Yb ⟨_,Z,(λx=>nomatch x),?_⟩;simpa using h
end
end
section
def rW(K:Lj)(H:Hp):Ka->List (List eT×PyData)->Prop:=Paired λp q=>p.1=q.1/\fU K H p.2 q.2
def nY(ys:List (List eT×PyData))(k:List eT):Option PyData:=(ys.find? λq=>decide<|q.1=k).map (·.2)
def gC(xs ys:List (List eT×PyData)):Bool:=xs.length==ys.length&&xs.all λp=>match nY ys p.1 with | some d=>PyData.eqv p.2 d | none=>false
def gM(xs:List (List eT×PyData)):Prop:=∀p∈xs,p.2.canLay0=true/\p.2.depth<=60
section
variable{X:Cx}{ak:La}{σ:St}{H:Hp}{s:Lk}
theorem NF(I:aK X ak σ H s):∀{kb} {ys} {db},KT H kb ys->rW X.K H kb db->gM db->∀k,
  (atKey ys k=none/\nY db k=none)\/∃p d as,atKey ys k=some p/\nY db k=some d/\Reads s.heap p.2 d as/\d.canLay0=true/\d.depth<=60
 | _,_,_,.nil,.nil,_,_=>.inl ⟨rfl,rfl⟩
 | _,_,_,.cons (a:=a) (b:=b) r t,.cons (b:=c) q u,fl,k=>by
  let⟨j,r2,x⟩:=r;let⟨i,o⟩:=q;by_cases e:a.1=k
  ·let e1:b.1=k:=j.symm.trans e;let h:c.1=k:=i.symm.trans e;let⟨as,rd⟩:=I.rds o x;let⟨n,m⟩:=fl c<|.head _;exact .inr ⟨b.2,c.2,as,by simp[atKey,List.find?_cons,e1],by simp[nY,List.find?_cons,h],rd,n,m⟩
  ·let e1:¬b.1=k:=λz=>e<|j.trans z;let h:¬c.1=k:=λz=>e<|i.trans z;let v:∀l,atKey (b::l) k=atKey l k:=λl=>by simp[atKey,List.find?_cons,e1]
   let y:∀l,nY (c::l) k=nY l k:=λl=>by simp[nY,List.find?_cons,h]
   rw[v,y];exact NF I t u (λp w=>fl p<|.tail _ w) k
theorem BY(z:A.units+61<cLine)(I:aK X ak σ H s){n:Ka}{ys:List (List eT×Lh×Li)}{i:List (List eT×PyData)}(tb:KT H n ys)(j:rW X.K H n i)(l:gM i):∀{ka} {xs} {da},KT H ka xs->rW X.K H ka da->gM da->eU A s ys xs (da.all λp=>match nY i p.1 with | some d=>PyData.eqv p.2 d | none=>false)
 | _,_,_,.nil,.nil,_=>.nil
 | _,_,_,.cons (a:=a) (b:=b) r t,.cons (b:=c) q u,fl=>by
  let⟨m,r2,B⟩:=r;let⟨k,x⟩:=q;let w:=BY z I tb j l t u λp y=>fl p<|.tail _ y;let⟨as,rd⟩:=I.rds x B;let⟨v,f2⟩:=fl c<|.head _;rw[List.all_cons];rcases NF I tb j l b.1 with⟨h,e⟩ | ⟨p,d,bs,h,e,o,C,h5⟩
  ·rw[<- m,k]at e;rw[e];exact .miss h
  ·rw[<- m,k]at e;rw[e];refine .hit h (SeqAt.eqAt_reads c.2 d A s _ _ as bs rd o v C ?_) w;have:=Nat.min_le_left c.2.depth d.depth;lia
end
inductive pU(K:Lj)(neg:Bool)(x y:V)(H:Hp)(Q:VK):Prop
 | mk (a b:Lh) (ka kb:Ka) (da db:List (List eT×PyData)) (_:x=.ref a) (_:y=.ref b) (_:Rd H a (.dT ka)) (_:Rd H b (.dT kb)) (_:rW K H ka da) (_:rW K H kb db) (_:gM da) (_:gM db) (_:Q (.bl<|xor neg<|gC da db) H)
section
variable{X:Cx}
def T6(hu:X.A.units+64<cLine):eS X (compareOp .Eq) (pU X.K false):=by intro ak s σ H x y u v Q I C l h;let⟨a,b,ka,kb,c,d,rfl,rfl,D,E,i,e,o,m,q⟩:=h;cases C;cases l;let⟨_,p,xs,j,r⟩:=lH I.hok D;let⟨_,n,ys,tb,z⟩:=lH I.hok E;let k:xs.length=c.length:=(Paired.length j).symm.trans (Paired.length i);let B:ys.length=d.length:=(Paired.length tb).symm.trans (Paired.length e);refine L3 (knd:=tupleKind<|gD X.prog X.w) (tupleKind_room_in1 ⋯) ⋯ p n r z (λ_=>BY (by show X.A.units+1+61<cLine;lia) I tb e m j i o) ⟨.bl _,H,I,Z,?_⟩;rw[k,B];have:(false ^^ gC c d)=gC c d:=Bool.false_xor _;rw[this]at q;exact q
def SO(hu:X.A.units+64<cLine):eS X (compareOp .NotEq) (pU X.K true):=by intro ak s σ H x y u v Q I C l h;let⟨a,b,ka,kb,c,d,rfl,rfl,D,E,i,e,o,m,q⟩:=h;cases C;cases l;let⟨_,p,xs,j,r⟩:=lH I.hok D;let⟨_,n,ys,tb,z⟩:=lH I.hok E;let k:xs.length=c.length:=(Paired.length j).symm.trans (Paired.length i);let B:ys.length=d.length:=(Paired.length tb).symm.trans (Paired.length e);refine WN (knd:=tupleKind<|gD X.prog X.w) (tupleKind_room_in1 ⋯) ⋯ p n r z (λ_=>BY (by show X.A.units+1+61<cLine;lia) I tb e m j i o) ⟨.bl _,H,I,Z,?_⟩;rw[k,B];have:(true ^^ gC c d) = !gC c d:=Bool.true_xor _;rw[this]at q;exact q
def SF{σ:St}(C:A.units<cLine)(I:aK X ak σ H s)(e:H a=some (.dT ap))(n:H b=some (.tup<|k.map kV))(l:ap.length<sizeLine) (G:aS v r) (h:∀s',aK X ak σ (upd H a<|.dT<|bE ap k v) s'->Q () s'):wpAny (model X.prog X.w) A (dictSet a (.ref b) r) Q E s:=by
 let⟨z,B,xs,d,dd⟩:=A1 I.hok e;let hz:xs.length<=sizeLine:=by rw[<- Paired.length d];exact z
 let p:(bE ap k v).length<=sizeLine:=by have:=sZ ap k v;lia
 refine wpAny_dictSet_heap (hsz:=hz) (knd:=tupleKind<|gD X.prog X.w) C (sQ I.hok n) dd λh' i u=>h _ ?_;let⟨q,y,K,m,x,o,J,_,D⟩:=i;refine BU I (by rw[e];exact True.intro) u ⟨q,m⟩ ⟨p,B,_,(d.put k n G).keeps λc ys j=>?_,q,y,K,m,x,o,J,D⟩;rw[aV<|eM j e<|λz=>nomatch z];exact j
def z0o(tk tv:TE):TE:=λσ H Q=>∀p,H p=none->tk σ (upd H p<|.dT []) λx H1=>tv σ H1 λy H2=>∃b ks,x=.ref b/\H2 p=some (.dT [])/\H2 b=some (.tup<|ks.map kV)/\Q (.ref p) (upd H2 p<|.dT [(ks,y)])
def zD(D:X.A.units<cLine)(p:PE X k tk)(z:PE X v tv):PE X (.Dict [some k] [v] pos) (z0o tk tv):=by
 intro ak s σ H Q I q;let n:=I.hok.fresh<|Yi s.heap.objs.size;let w:=I.laid (a:=s.heap.objs.size) (o:=.dT []) (h':=s.heap.push { cls:=.type "dict",data:=.dict #[] }) (t':=s.toks) (λ_ _ q=>Ye _ q) (Yi _)<|LN s.heap I.big;refine wpAny_Dict_any rfl rfl (by simp) (by simp) ?_;let P:C3 X pos [some k] [v] [(tk,tv)]:=W9 p z US;refine bC (P _ σ _ (λps d=>match ps with | [(x,y)]=>∃b i,x=.ref b/\d s.heap.objs.size=some (.dT [])/\d b=some (.tup<|i.map kV)/\Q (.ref s.heap.objs.size) (upd d s.heap.objs.size<|.dT [(i,y)]) | _=>False) w<|q _ n) λws s2 e=>?_;let⟨ps,d,m,c,h⟩:=e;rcases ws with _ | ⟨⟨B,c2⟩,ws⟩
 ·cases c;exact h.elim
 cases c with
 | cons r t=>
  cases t with
  | cons _ _=>exact h.elim
  | nil=>
   let⟨j,l⟩:=r;let⟨b,i,ex,e1,u,C⟩:=h;dsimp only at ex j l;rw[ex]at j;obtain rfl:B=Value.ref b:=j;unfold storeAll;rw[List.forIn_cons];refine Ya<|Ya<|SF D m e1 u (by rw[sizeLine_eq];decide) l λs3 E=>Yb ?_;exact Yb ⟨.ref s.heap.objs.size,_,E,Z,C⟩
end
end
section
section
variable{X:Cx}
def Z3:fillsNumberSlot (.type "tuple") "mul" = pure false:=PySem.fillsNumberSlot_seq (id:="tuple.__mul__") (r:=some<|.builtin "tuple.__rmul__") F.slot_tuple_mul.lookup nofun F.slot_tuple_rmul.lookup nofun
def ZI:seqRepeat? (.type "tuple")=pure (some<|.builtin "tuple.__mul__"):=by unfold seqRepeat?;rw[PySem.seqSlot_of (T:="tuple") (name:="__mul__") (id:="tuple.__mul__") F.slot_tuple_mul.lookup nofun,PySem.seqSlot_of (T:="tuple") (name:="__rmul__") (id:="tuple.__rmul__") F.slot_tuple_rmul.lookup nofun];rfl
def VA(a:Int)(t:Tok)(l:Lh)(o:Obj)(its:Array Li)(n:Nat)(b:o.data=.seq its n):Meets (Builtin.«int.__rmul__» ⟨[.int a t,.ref l],[]⟩) (λ_ R s=>s.heap.get? l=some o/\R (.ok<|.ret Value.notImplemented) s):=
 .of_wp λprog w A R s h=>by let⟨hp,g,d,tk,os⟩:=s;let⟨hl,h⟩:=h;wp_walk;rw[b];wp_walk;exact⟨_,Z,h⟩
inductive zU(K:Lj)(x y:V)(H:Hp)(Q:VK):Prop
 | mk (a:Lh) (xs:Lg) (n:Int) (_:x=.ref a) (_:y=.int n) (_:aY K H a xs) (_:xs≠[]) (_:1<=n) (_:n<=1000) (_:xs.length*n.toNat<=1000) (_:(n=1->Q (.ref a) H)) (_:(2<=n->∀p,H p=none->Q (.ref p) (upd H p<|.tup (List.replicate n.toNat xs).flatten)))
def S7:eS X (binaryOp .Mult) (zU X.K):=by
 intro ak s σ H x y v u Q I D l h;let⟨a,xs,n,rfl,rfl,A,p,n1,n2,hz,w,C⟩:=h;cases D;let⟨t,rfl⟩:=l;let⟨its,r,e,hl⟩:=I.tuple A;let T:s.TypeIs (.ref a) "tuple":=e.typeIs;let le:=r.length;let⟨o,d,hc,m,j⟩:=id e;refine wpAny_binaryOp_repeat_ref (T:="tuple") (U:="int") ∅ T (λs'=>typeIs_int s' n t) Z3 F.fills_int_mul F.slot_int_rmul ZI F.slot_int_index.lookup
  (call_meets F.slot_int_rmul (typeIs_int s n t) F.entry_int_rmul (F.args_int_rmul_2 _ _) (VA n t a o its.toArray m j) ⟨d,Z,T,Y8 F.slot_tuple_mul T F.entry_tuple_mul ?_<|F.args_tuple_mul_2 _ _⟩)
 show wpAny _ _ (asIndex (.int n t) >>= _) _ _ s;refine Ya<|Yb ?_;dsimp only;let b1:(decide (n < -2^63)||decide (n ≥ 2^63))=false:=by rw[Yw ⋯,Yw ⋯];rfl
 rw[Yh<|by rw[b1];exact Yt];refine Ya<|wpAny_tupleItemsOf d j ?_;let i:its.toArray.isEmpty=false:=by
  cases its with
  | nil=>cases xs with
   | nil=>exact absurd rfl p
   | cons _ _=>simp at le
  | cons _ _=>rfl
 by_cases c:n=1
 ·let b2:(its.toArray.isEmpty||n==1)=true:=by rw[c];simp
  rw[Yl b2];unfold Builtin.Tuple.tupleIsExact;refine Ya<|Ya<|wpAny_typeOf T<|Yb ?_;rw[Yl ∅];exact Ya<|wpAny_rule<|Yb ⟨_,Z,.ref a,H,I,Z,w c⟩
 ·let b2:(its.toArray.isEmpty||n==1)=false:=by rw[i];simpa using c
  let J:(decide (n<=0)||its.toArray.isEmpty)=false:=by rw[i,Yw ⋯];rfl
  let sz:its.toArray.size*n.toNat<=1000:=by rw[Ys,<- le];exact hz
  let sz':((its.toArray.size:Nat):Int)*n<=1000:=by
   have:n=((n.toNat:Nat):Int):=by lia
   rw[this];exact_mod_cast sz
  rw[Yh<|by rw[b2];exact Yt,Yh<|by rw[J];exact Yt,Yh ⋯];let k:List.foldl (λB G=>B++G) #[] (List.replicate n.toNat its.toArray)=(List.replicate n.toNat its).flatten.toArray:=by have:=FU its n.toNat [];rw[List.nil_append]at this;exact this
  let E:Builtin.Tuple.tupleTooMany (((its.toArray.size:Nat):Int)*n)=false:=by unfold Builtin.Tuple.tupleTooMany;simp only[decide_eq_false_iff_not];let z:=sizeLine_eq;lia
  rw[Yh<|by rw[E];exact Yt,k];unfold Builtin.Tuple.tupleExact;let L:((List.replicate n.toNat its).flatten).length<=sizeLine:=by rw[E7,Nat.mul_comm,<- le,sizeLine_eq];lia
  refine Ya<|Jo (Yb ⟨_,Z,.ref s.heap.objs.size,_,I.laid (t':=s.toks) (o:=.tup (List.replicate n.toNat xs).flatten) (λb q z=>Ye _ z) (Yi _) ?_,Z,C ⋯ _ I.fresh⟩) (by show Array.size _<=sizeLine;rw[Ys];exact L);exact⟨by rw[E7,Nat.mul_comm,sizeLine_eq];lia,_,r.rep n.toNat,IsTup.new _ _⟩
end
def hE.thw(H0:Hp)(D:hE):hE:={ D with nx:=λσ H=>xK H0 H<|D.nx σ,rt:=λv H=>xK H0 H (D.rt v) }
section
variable{X:Cx}{st:Ln}{ss:List Ln}{t:TS}
def SP.thw(h:SP X ak (D.thw X.H₀) f s):SP X ak D f s:=by
 cases f with
 | next=>let⟨σ,H,I,q⟩:=h;let⟨H',b,a⟩:=xK.inv (K:=D.nx σ) q I;exact⟨σ,H',b,a⟩
 | brk=>exact h
 | cont=>exact h
 | ret u=>let⟨v,σ,H,I,r,q⟩:=h;let⟨H',b,a⟩:=xK.inv (K:=D.rt v) q I;exact⟨v,σ,H',b,r,a⟩
def wS(h:PS X st t):PS X st (λD σ H=>t (D.thw X.H₀) σ H):=λak s σ H D I q=>bC (h s σ H _ I q) λ_ _ z=>z.thw
end
end
section
theorem NB{α a:Type}(f:α->a):∀(l:List α) j,(l.map f).eraseIdx j=(l.eraseIdx j).map f
 | [],j=>by simp
 | x::l,0=>by simp
 | x::l,j+1=>by simp[NB f l j]
theorem O1{κ b:Type}[DecidableEq κ]:∀{xs:List (κ×b)} (_:(xs.map (·.1)).Nodup) {j} {k} {q},xs[j]?=some (k,q)->xs.eraseIdx j=xs.filter λx=>decide<|x.1≠k
 | [],_,j,k,q,h=>by simp at h
 | x::r,hn,0,k,q,h=>by simp at h;subst h;rw[Yz,List.nodup_cons]at hn;rw[List.eraseIdx_cons_zero,List.filter_cons,Yh<|by simp];refine(Yu.mpr λy a=>?_).symm;have:y.1≠k:=λe=>hn.1<|Jj.mpr ⟨y,a,e⟩;simpa using this
 | x::r,hn,j+1,k,q,h=>by rw[List.getElem?_cons_succ]at h;rw[Yz,List.nodup_cons]at hn;have:x.1≠k:=λe=>hn.1<|Jj.mpr ⟨(k,q),Yx h,e.symm⟩;rw[List.eraseIdx_cons_succ,List.filter_cons,Yl<|by simpa using this,O1 hn.2 h]
section
variable{prog:Lm}{w:Ll}{κ:Type}[DecidableEq κ]{knd:HeapKind prog w κ}{A:Around}{E:Va}{s:Lk}
def YB(B:knd.room A.in1)(b:knd.is s.heap k a)(hz:xs.length<=sizeLine)(dd:s.heap.DictOfH knd d xs)(m:atKey xs k=some p)(h:∀h',h'.DictOfH knd d (xs.filter λx=>decide<|x.1≠k)->Heap.SameBut d s.heap h'->Q p.2 {s with heap:=h',toks:=s.toks+knd.draws k }):⇑A (call (.builtin "dict.pop") [.ref d,.ref a]) Q E s:=by
 let T:=dd.typeIs;let⟨o,i,J,e,C,c,n,y,r⟩:=dd;let v:i.size<=sizeLine:=by rw[size_of_entries n];exact hz
 refine Y8 F.slot_dict_pop T F.entry_dict_pop ?_<|F.args_dict_pop_2 _ _;unfold Builtin.«dict.pop»;refine Ya ?_;unfold Builtin.Dict.keyAndDefault;refine Ya<|wpAny_notOrdered_dict T ?_;show wpAny _ _ (pure (d,Value.ref a,none)) _ _ s;refine Yb ?_;let I:(keyPart<|.ref a).isSome=false:=rfl;simp only[I,Bool.false_eq_true,if_false];refine Ya<|Y7 e c<|Ya<|Yb ?_;let K:i.isEmpty=false:=by
  have:xs≠[]:=λz=>by subst z;simp[atKey]at m
  have:0<xs.length:=List.length_pos_iff.mpr this;have:=size_of_entries n;simp[Array.isEmpty];intro z;simp[z]at this;lia
 rw[K];simp only[Bool.false_eq_true,if_false];refine Ya ?_;unfold Builtin.Dict.takeOut
 try with_reducible refine Jr ?_
 refine Ya<|knd.pyHash B b ?_;refine Ya<|wpAny_dictFind_heap (s:={s with toks:=s.toks+knd.draws k }) B b e c n y r (λD=>by rw[atKey_none_of_get D]at m;cases m) λj q u=>?_;let H:i[j]?=some (entryOfKey knd (k,q)):=by rw[entry_at n j,u];rfl
 let eq:q=p:=by rw[atKey_of_get r u]at m;exact Jg m
 subst eq;refine Ya<|Y7 (s:={s with toks:=s.toks+knd.draws k }) e c ?_;rw[H];refine Ya<|wpAny_updateDictKeys (hz:=v) (s:={s with toks:=s.toks+knd.draws k }) e c<|Yb ?_;simp only[Option.isNone_some,Bool.false_eq_true,if_false];refine Ya<|wpAny_letGo<|Yb ⟨q.2,Z,h _ ⟨_,_,J+1,Heap.get?_update_self _ e<|Obj.isFreed_of_dict<|Obj.data_mapDictKeys c _,C.mapDictKeys _,Obj.data_mapDictKeys c _,?_,?_,?_⟩<|Heap.SameBut.update ..⟩
 ·rw[<- O1 r u];have:(i.toList.eraseIdx j)=(xs.eraseIdx j).map (entryOfKey knd):=by rw[n,NB]
  rw[<- this];let⟨l⟩:=i;simp
 ·intro x G;exact knd.keeps (y x (List.mem_filter.mp G).1) e c<|Heap.SameBut.update ..
 ·exact r.sublist<|List.filter_sublist.map _
end
def KT.drop(r:KT H ap xs)(k:List eT):KT H (kG ap k) (xs.filter λx=>decide<|x.1≠k):=by
 unfold kG;induction r with
 | nil=>exact .nil
 | @cons p q ps qs h t ih=>
  let⟨c,d⟩:=h;rw[List.filter_cons,List.filter_cons];by_cases e:p.1=k
  ·let a:¬decide (p.1≠k)=true:=by simp[e]
   let b:¬decide (q.1≠k)=true:=by simp[c.symm.trans e]
   rw[Yh a,Yh b];exact ih
  ·let i:¬q.1=k:=λz=>e<|c.trans z;let a:decide (p.1≠k)=true:=by simp[e]
   let b:decide (q.1≠k)=true:=by simp[i]
   rw[Yl a,Yl b];exact .cons ⟨c,d⟩ ih
section
variable{X:Cx}
inductive uH(x:V)(vs:Lg)(H:Hp)(Q:VK):Prop
 | mk (d b ap k v) (_:x=.ref d) (_:vs=[.ref b]) (_:H d=some (.dT ap)) (_:H b=some (.tup<|k.map kV)) (_:bK ap k=some v) (_:Q v (upd H d<|.dT<|kG ap k))
def UC(L:X.A.units+1<cLine):C5 X "dict.pop" uH:=by
 intro ak s σ H x vs v us Q I G N h;let⟨d,b,ap,k,val,rfl,rfl,i,P,E,q⟩:=h;cases G;let⟨u,rfl,C⟩:=qG N;cases C;let⟨z,J,xs,a,dd⟩:=A1 I.hok i;let hz:xs.length<=sizeLine:=by rw[<- Paired.length a];exact z
 let⟨w',hw,j⟩:=eI.some_of (v:=val) (o:=(atKey xs k).map (·.2)) (by rw[<- E];exact a.val k);let⟨p,K,rfl⟩:=Option.map_eq_some_iff.mp hw;refine YB (knd:=tupleKind<|gD X.prog X.w) (tupleKind_room_in1 L) (sQ I.hok P) hz dd K λh' e r=>⟨val,_,?_,j,q⟩;let⟨o,y,B,m,D,n,O,_,M⟩:=e;refine BU I (by rw[i];exact True.intro) r ⟨o,m⟩ ⟨Yr (FK ap k) z,J,_,(a.drop k).keeps λc ys l=>?_,o,y,B,m,D,n,O,M⟩;rw[aV<|eM l i<|λz=>nomatch z];exact l
def FG{o e:Lo}{j:TE}{t:TA}{c a:Pos}(l:X.A.units+1<cLine)(k:PE X o j)(n:PA X [e] t)(h:↑(attributeBase o "pop" X.env (eval o X.env)=eval o X.env))
  (i:((backTo a<|starEach (e::[]) X.env).all (λx => !x.1)&&(backToKw a<|keywordEach [] X.env).all (λx=>x.1.isSome)
   && decide ((e::[]).length+([]:List Keyword).length+(if ([]:List Keyword).isEmpty then 0 else 1)<30))=true:=by rfl)
  (d:↑((c.endLine==a.line)=true)) (m:↑(starEach (e::[]) X.env=(false,eval e X.env)::starEach [] X.env)) (b:↑((backTo a<|starEach [] X.env).any (·.1)=false)):
  PE X (.Call (.Attribute o "pop" c) [e] [] a) (RT X.K "dict" uH j t):=nX PySem.F.plainAttrs_dict PySem.F.slot_dict_pop PySem.F.type_dict_pop (UC l) k n h i d m b
end
def zE{g:TG}{tb:TS}{D:hE}(a:Nat->St->Hp->Prop)(h0:a 0 σ H)(l:∀i σ H,a i σ H->mI H d o ap)(n:∀i k v σ H p b,ap[i]?=some (k,v)->a i σ H->H p=none->H b=some (.tup<|k.map kV)->g (.ref p) σ (upd H p<|.tup [.ref b,v]) λc h=>tb { D with nx:=a<|i+1,ct:=a<|i+1,bk:=D.nx } c h) (s:∀σ H,a ap.length σ H->D.nx σ H):∃W:Nat->Nat->St->Hp->Prop,(∃m,W 0 m σ H)/\∀i m σ H,W i m σ H ->
   ((AQ d o ap).stop i H/\D.nx σ H)\/((AQ d o ap).go i H/\∃N,(∀e H',N e H'->∃m',m'<m/\W (i+1) m' e H')/\∀x H',(AQ d o ap).yld i H x H'->g x σ H' λc h=>tb { D with nx:=N,ct:=N,bk:=D.nx } c h):=by
 exists λi m σ H=>m=ap.length-i/\i<=ap.length/\a i σ H,⟨ap.length,by simp,Y2 _,h0⟩;rintro i m σ H ⟨rfl,hi,p⟩;let q:=l i σ H p;by_cases hlt:i<ap.length
 ·refine .inr ⟨⟨q,hlt⟩,a<|i+1,λe H' j=>⟨ap.length-(i+1),⋯,Z,hlt,j⟩,λx H' y=>?_⟩;let⟨j,b,k,v,u,r,w,rfl,rfl⟩:=y;exact n i k v σ H j b r p u w
 ·let z:i=ap.length:=by lia
  subst z;exact .inl ⟨⟨q,Yi _⟩,s σ H p⟩
end
section
def VN{vs ws:List Li}(o:IsTup s.heap t vs.toArray)(r:IsTup s.heap b ws.toArray)(m:vs=[])(l:Q (.ref b) s):⇑A (binaryOp .Add (.ref t)<|.ref b) Q E s:=by
 let⟨⟨cls,dd,data,p⟩,j,i,n,k⟩:=id o;let⟨⟨cls2,h,data2,e⟩,c,d,q,a⟩:=id r;simp only at i k d a;subst i k d a;exact concat_meets ⟨_,j,Z⟩ ⟨_,c,Z⟩ noFill_tuple_add seq_tuple_add PySem.F.slot_tuple_add PySem.F.entry_tuple_add (PySem.F.args_tuple_add_2 _ _)
   (tuple_addW0 t b vs.toArray ws.toArray n q dd h p e<|by simp[m]) ⟨j,c,l⟩
def RO(K:Lj):R2:=λx y H Q=>∃a b xs ys,x=.ref a/\y=.ref b/\aY K H a xs/\aY K H b ys/\xs.length+ys.length<=sizeLine /\
 (xs=[]->Q (.ref b) H)/\(xs≠[]->ys=[]->Q (.ref a) H)/\(xs≠[]->ys≠[]->∀p,H p=none->Q (.ref p) (upd H p<|.tup<|xs++ys))
def TR{K:Lj}(l:X.K=K):eS X (binaryOp .Add) (RO K):=by
 subst l;intro ak s σ H x y v u Q I i e h;let⟨a,b,xs,ys,ex,d,j,k,hz,q,o,p⟩:=h;by_cases c:xs=[]
 ·subst ex d;cases i;cases e;let⟨its,n,m,_⟩:=I.tuple j;let⟨its2,r2,r,_⟩:=I.tuple k;exact VN m r (n.nil_iff.mpr c) ⟨.ref b,H,I,Z,q c⟩
 ·exact vC ak s σ H x y v u Q I i e ⟨a,b,xs,ys,ex,d,j,k,c,hz,o c,p c⟩
end
section
def AF(xs:Lc):Int:=reduceHash<|Builtin.Tuple.tupleHashOf<|xs.map hashInt
theorem O4{α:Type}{f:α->Int}:∀{l:List α} {e},(l.map f).Nodup->e∈l->(l.filter λx=>f x==f e).length<=1
 | [],e,_,h=>by cases h
 | x::l,e,hn,h=>by
  rw[Yz,List.nodup_cons]at hn;rw[List.filter_cons];by_cases q:f x=f e
  ·let z:(l.filter λy=>f y==f e)=[]:=by rw[List.filter_eq_nil_iff];intro y a b;exact hn.1<|Jj.mpr ⟨y,a,(beq_iff_eq.mp b).trans q.symm⟩
   rw[Yl<|beq_iff_eq.mpr q,z];exact Yi 1
  ·rw[Yh<|λz=>q<|beq_iff_eq.mp z];refine O4 hn.2 ?_;rcases Yj.mp h with z | z
   ·exact absurd (Jx f z.symm) q
   ·exact z
section
variable{prog:Lm}{w:Ll}{κ:Type}[DecidableEq κ]{kk:KeyKind prog w κ}{A:Around}{E:Va}{s:Lk}
def zl1(b:s.TypeIs (.ref a) "tuple")(h:Q false s):⇑A (Builtin.Dict.quietEq<|.ref a) Q E s:=by unfold Builtin.Dict.quietEq;refine Ya<|wpAny_specialOf b F.slot_tuple_eq.lookup<|Yb ?_;exact h
def ZL{xs:List (List κ×Lh×Li)}(d:s.heap.get? o=some ob)(j:ob.data=.dict es ep)(c:es.toList=xs.map (entryOfKey<|tupleKind kk)) (p:∀x∈xs,(tupleKind kk).is s.heap x.1 x.2.1) (n:(xs.map λx=>(tupleKind kk).hash x.1).Nodup) (h:Q es s):⇑A (Builtin.Dict.entriesForEmpty nm o) Q E s:=by
 unfold Builtin.Dict.entriesForEmpty;refine Ya<|Y7 d j ?_;refine Ya ?_;rw[<- Array.forIn_toList];let i:(es.toList.map (·.hash)).Nodup:=by rw[c,Ji];exact n
 refine wpAny_forIn_list _ (λrest (_:PUnit) s'=>s'=s/\∀e∈rest,e∈es.toList) _ ?_ ?_ _ _ ⟨Z,λe z=>z⟩
 ·rintro e rest b s' ⟨rfl,a⟩;let k:=a e List.mem_cons_self;let⟨x,m,rfl⟩:=Jj.mp (by rw[<- c];exact k);refine Ya<|zl1 (IsTupleKey.typeIs<|p x m) ?_;simp only[Bool.not_false,if_true];let le:¬((es.filter λz=>z.hash==(entryOfKey (tupleKind kk) x).hash).size > 1):=by
   let⟨l⟩:=es;let q:(l.filter λz=>z.hash==(entryOfKey (tupleKind kk) x).hash).length<=1:=O4 (f:=λz:DictEntry=>z.hash) i k;have:(Array.filter (λz=>z.hash==(entryOfKey (tupleKind kk) x).hash) { toList:=l }).size=(l.filter λz=>z.hash==(entryOfKey (tupleKind kk) x).hash).length:=by simp
   lia
  rw[Yh le];exact Yb ⟨Z,λe c=>a e<|List.mem_cons_of_mem _ c⟩
 ·rintro b s' ⟨rfl,_⟩;exact Yb h
def z2d(r:d≠o)(B:(o==sysModules)=false)(H:s.heap.DictOfH (tupleKind kk) d []) (J:s.heap.DictOfH (tupleKind kk) o xs) (K:(xs.map λx=>(tupleKind kk).hash x.1).Nodup)(I:∀h',h'.DictOfH (tupleKind kk) d xs->Heap.SameBut d s.heap h'->Q () {s with heap:=h' }) (hsz:xs.length<=sizeLine):⇑A (Builtin.Dict.mergeDict nm d o) Q E s:=by
 let⟨od,n,v,k,u,i,G,hkd,hnd⟩:=id H;let⟨oo,a,epo,j,hco,c,h,p,y⟩:=id J;unfold Builtin.Dict.mergeDict;rw[Yh<|by simpa using r];unfold Builtin.Dict.showsAll;rw[Yh<|by rw[B];exact Yt];refine Ya<|Yb ?_;refine Ya<|Y7 j c ?_;let D:n.isEmpty=true:=by let⟨l⟩:=n;have:l=[]:=G;subst this;rfl
 cases xs with
 | nil=>
  let q:a=#[]:=by let⟨l⟩:=a;have:l=[]:=h;subst this;rfl
  subst q;let m:(decide ((#[]:Array DictEntry).size<=8)&&(#[]:Array DictEntry).all λe=>(keyPart e.key).isSome)=true:=by simp
  simp only[m,Bool.not_true,Bool.false_eq_true,if_false];refine Ya<|wpAny_dictEpoch j c ?_;refine Ya<|Y7 j c ?_;refine Ya ?_;rw[Std.Legacy.Range.forIn_eq_forIn_range'];refine wpAny_forIn_list _ (λrest (_:PUnit) s'=>rest=[]/\s'=s) _ ?_ ?_ _ _ ⟨Z,Z⟩
  ·rintro x rest b s' ⟨z,_⟩;cases z
  ·rintro b s' ⟨_,rfl⟩;exact Yb<|I _ H<|Heap.SameBut.refl _ _
 | cons x xs=>
  let C:¬(a.isEmpty=true):=by let⟨l⟩:=a;have:l=(x::xs).map (entryOfKey<|tupleKind kk):=h;subst this;simp
  let m:(decide (a.size<=8)&&a.all λe=>(keyPart e.key).isSome)=false:=by let⟨l⟩:=a;have:l=(x::xs).map (entryOfKey<|tupleKind kk):=h;subst this;have:(keyPart (entryOfKey (tupleKind kk) x).key).isSome=false:=rfl;simp[this]
  simp only[m,Bool.not_false,if_true];refine Ya<|Y7 k i ?_;simp only[D,if_true];refine Ya<|ZL j c h p K ?_;rw[Bool.eq_false_iff.mpr C];simp only[Bool.not_false,if_true];refine Ya (wpAny_updateDictKeysTo (hz':=by
   have:a.size=(x::xs).length:=by rw[<- Array.length_toList,h,Yd]
   show a.size<=_;lia) k i (Yb (I _ ⟨_,_,v+1,Heap.get?_update_self _ k<|Obj.isFreed_of_dict<|Obj.data_mapDictKeys i _,
   u.mapDictKeys _,Obj.data_mapDictKeys i _,h,λx L=>?_,y⟩<|Heap.SameBut.update ..)))
  exact(tupleKind kk).keeps (p x L) k i (Heap.SameBut.update ..)
def Z4(k:(o==sysModules)=false)(m:s.heap.DictOfH (tupleKind kk) o xs)(r:(xs.map λx=>(tupleKind kk).hash x.1).Nodup)(hsz:xs.length<=sizeLine)(h:∀h',h'.DictOfH (tupleKind kk) s.heap.objs.size xs->Heap.SameBut s.heap.objs.size (s.heap.push { cls:=.type "dict",data:=.dict #[] }) h'->Q (.ref s.heap.objs.size) {s with heap:=h' }):⇑A (call (.type "dict") [.ref o]) Q E s:=by
 refine callType_codes (Q₁:=λobj c=>obj=.ref s.heap.objs.size/\c={s with heap:=s.heap.push { cls:=.type "dict",data:=.dict #[] } }) F.kt_called_dict (F.kt_typeCall_dict_1 _) F.entry_dict_init (kt_code_dict_new _ ⟨Z,Z⟩) ?_;rintro obj c ⟨rfl,rfl⟩;let a:(s.heap.push { cls:=.type "dict",data:=.dict #[] }).DictOfH (tupleKind kk) s.heap.objs.size []:=⟨_,_,_,Yk _ Z,⟨Z,Z,Z⟩,Z,Z,λx l=>(by cases l),List.nodup_nil⟩;let d:s.heap.objs.size≠o:=by let⟨_,_,_,J,_⟩:=m;exact λe=>absurd (Yn J) (by rw[e];exact Nat.lt_irrefl _)
 let b:(s.heap.push { cls:=.type "dict",data:=.dict #[] }).DictOfH (tupleKind kk) o xs:=by let⟨ob,q,u,B,C,n,I,H,p⟩:=m;refine⟨ob,q,u,Ye _ B,C,n,I,λx l=>?_,p⟩;let⟨v,D,y,z,G⟩:=H x l;exact⟨v,D,y,Ye _ z,G⟩
 exists a.typeIs,F.args_dict_init_2 _ _;unfold Builtin.«dict.__init__»;refine Ya ?_;unfold Builtin.Dict.selfAndRest;refine Ya<|wpAny_notOrdered_dict a.typeIs ?_;show wpAny _ _ (pure (s.heap.objs.size,[Value.ref o])) _ _ _;refine Yb ?_;show wpAny _ _ (Builtin.Dict.updateFrom "dict.__init__" s.heap.objs.size (.ref o) [] .none) _ _ _;unfold Builtin.Dict.updateFrom;refine Ya<|wpAny_typeOf b.typeIs ?_;rw[Yh ∅];refine Ya ?_;unfold Builtin.Dict.merge;refine Ya ?_;unfold Builtin.Dict.readDirectly;refine Ya<|wpAny_isInstance b.typeIs isSubtype_dict_dict ?_;simp only[Bool.not_true,Bool.false_eq_true,if_false];refine Ya<|wpAny_specialOf b.typeIs F.slot_dict_iter.lookup<|Yb ?_;simp only[beq_self_eq_true,if_true];refine Ya<|Yb ?_;refine z2d (hsz:=hsz) d k a b r λh' j i=>?_;show wpAny _ _ (Builtin.Dict.addKeywords s.heap.objs.size [] >>= _) _ _ _;exact Ya<|Yb<|Yb ⟨Z,h h' j i⟩
end
def qM(ap:Ka):Prop:=∃ts:Lb,ap.map (·.1)=ts.map (λt=>t.map Sum.inl)/\(ts.map AF).Nodup
def KT.keysEq(r:KT H ap xs):xs.map (·.1)=ap.map (·.1):=by
 induction r with
 | nil=>rfl
 | cons h t ih=>rw[Yz,Yz,ih,h.1]
section
variable{X:Cx}
def UZ(P:Lm)(w:Ll)(t:Lc):(tupleKind<|gD P w).hash (t.map Sum.inl)=AF t:=by show reduceHash (Builtin.Tuple.tupleHashOf<|(t.map Sum.inl).map (gD P w).hash)=_;rw[Ji];rfl
def CM:bZ X (.type "dict") (λxs H Q=>∃d ap,xs=[.ref d]/\H d=some (.dT ap)/\qM ap/\∀p,H p=none->Q (.ref p) (upd H p<|.dT ap)):=by
 intro ak s σ H xs us Q I r h;let⟨d,ap,rfl,J,⟨y,l,n⟩,q⟩:=h;let⟨u,rfl,N⟩:=qG r;cases N;let⟨z,O,ys,a,dd⟩:=A1 I.hok J;let hz:ys.length<=sizeLine:=by rw[<- Paired.length a];exact z
 let m:ys.map (·.1)=ap.map (·.1):=KT.keysEq a;let D:(ys.map λx=>(tupleKind<|gD X.prog X.w).hash x.1).Nodup:=by
  let e:(ys.map λx=>(tupleKind<|gD X.prog X.w).hash x.1)=(ys.map (·.1)).map (tupleKind<|gD X.prog X.w).hash:=by rw[Ji];rfl
  rw[e,m,l,Ji];let G:(y.map<|(tupleKind<|gD X.prog X.w).hash ∘ λt=>t.map Sum.inl)=y.map AF:=List.map_congr_left λt _=>UZ _ _ t;rw[G];exact n
 refine Z4 (kk:=gD X.prog X.w) O dd D hz λh' j B=>?_;let E:∀b k,s.heap.get? b=some k->h'.get? b=some k:=λb k e=>by rw[B.2 b<|Y0<|Yn e];exact Ye _ e
 let⟨o,C,K,L,M,A,R,_,P⟩:=j;let v:=I.hok.fresh<|Yi s.heap.objs.size;refine⟨.ref s.heap.objs.size,_,I.laid (t':=s.toks) E (Yi _)<|show bN X.prog X.w _ h' _ (.dT ap) from⟨z,?_,ys,a.keeps λc yy i=>?_,o,C,K,L,M,A,R,P⟩,Z,q _ v⟩
 ·exact beq_eq_false_iff_ne.mpr<|Nat.ne_of_gt I.big
 ·rw[aV (λe=>by rw[e,v]at i;cases i)];exact i
end
end
section
open TS
def DT(X:Cx)(N:Lf)(qual:Lq)(scope:Scope)(q c':Lh)(cl:List (Lq×Lh))(A:Around)(s:Lk)(H:Hp):Cx where
 prog:=X.prog
 w:=X.w
 K:=X.K
 mg:=X.mg
 base:=X.base
 A:=A.deeper (W.envX qual scope s.heap.objs.size q (.ref c') cl)
 N:=N
 s₀:=s
 H₀:=H
 env:=W.envX qual scope s.heap.objs.size q (.ref c') cl
 outer:=X.stack
 stack:=W.envX qual scope s.heap.objs.size q (.ref c') cl::X.stack
 ex:=[]
 calm:=true
 fn:=λ_=>false
 pn:=[]
 xe:=λ_ _=>False
end
section
def qA(P:Lh)(H:Hp):Prop:=(∀b,H b=none\/(∃o xs,H b=some (.frz o<|.lst xs))\/b=P)/\H P=some (.tbl #[])
def XP{P:Lm}{w:Ll}{K:Lj}{mg mb:Sa}{CX:kF}{k:Nat}{fa a cc l:Lh}{fd:FuncData}{x:Lq}{sp:Sp}{c:Lk}{vs:List Li}{M:Lc}(KX:K.In c.heap) (D:c.heap.Ns mainGlobals mg) (i:c.heap.Ns builtinsNs mb) (a2:∀x:Lq,x≠"__name__"->mb x=bootBuiltins x) (J:c.heap.NoLimit) (hg:c.gens=#[])(p:c.heap.get? l=some (W.tabObj #[])) (a0:W.CodeHd c.heap cc l) (a3:K.lookup l=none)(Y:∃bm ob,mg "__builtins__"=some (.ref bm)/\bm≠builtinsNs/\c.heap.get? bm=some ob/\ob.cls=.type "module"/\ob.dict=some builtinsNs/\ob.data=.plain)(T:c.heap.get? a=some { cls:=.type "list",data:=.seq vs.toArray }) (hi:IntsAre vs M) (hl:M.length<=sizeLine) (hr:bM k callerA)(F:∀base:Lp,K.In base->base.Ns mainGlobals mg->base.BuiltinsAt mg l->cJ P w K mg base CX k fa fd [x] sp) (E:∀(s:Lk) (u:Li),BindsTo s fd ⟨[u],[]⟩ [(x,u)])(a4:∀H:Hp,qA l H->aQ K H a (M.map V.int)->sp [.ref a] H (λv _=>v=.bl true) λ_ _ _=>False)(a1:∀H e s',CX [] H c (λ_ _ _=>False) e s'->False):codeAny (model P w) callerA (.call (.ref fa) ⟨[.ref a],[]⟩) (λr s'=>r=.ok (.ret<|.bool true)/\OldK c.heap s'.heap/\s'.os=c.os/\AllBare s'.gens) c:=by
 let rv:=MW hi;let R:=hi.length;let O:a≠l:=λz=>by subst z;rw[T]at p;cases p
 let B:∀H:Hp,qA l H->aQ K H a (M.map V.int)->fV P w H c.heap->(∀b,H b≠none->b=a\/b=l)->(H a≠none->K.lookup a=none) ->
   codeAny (model P w) callerA (.call (.ref fa) ⟨[.ref a],[]⟩) (λr s'=>r=.ok (.ret<|.bool true)/\OldK c.heap s'.heap/\s'.os=c.os/\AllBare s'.gens) c:=by
  intro H U hS S hA hK;let j:∀{b:Lh} {o:Obj},c.heap.get? b=some o->H b=none->(iU c.heap H).get? b=some o:=λe n=>VE e n;let L:∀{b:Lh} {o:Obj},c.heap.get? b=some o->(∀v n,o.data≠.seq v n)->(∀v,o.data≠.fields v)->H b=none:=fun{b o} e d1 d2=>by
   cases q:H b with
   | none=>rfl
   | some u=>
    exfalso;rcases hA b (by rw[q];simp) with z | z
    ·subst z;rw[T]at e;cases e;exact d1 _ _ rfl
    ·subst z;rw[p]at e;cases e;exact d2 _ rfl
  let y:∀{b:Lh} {m:Sa},c.heap.Ns b m->(iU c.heap H).Ns b m:=fun{b m} ⟨o,es,ep,e,d,r⟩=>⟨o,es,ep,j e<|L e (λv n z=>by rw[d]at z;cases z) (λv z=>by rw[d]at z;cases z),d,r⟩
  let N:K.In (iU c.heap H):=λb o e=>j (KX b o e) (by
   cases q:H b with
   | none=>rfl
   | some u=>
    exfalso;rcases hA b (by rw[q];simp) with z | z
    ·subst z;rw[hK<|by rw[q];simp]at e;cases e
    ·subst z;rw[a3]at e;cases e)
  let hM:Mod K mg (iU c.heap H):=⟨N,y D,⟨mb,y i,a2⟩,let ⟨mc,h1,h2⟩:=J;⟨mc,y h1,h2⟩⟩;let X:(iU c.heap H).BuiltinsAt mg l:=by
   let⟨bm,ob,b1,b2,I,b4,b5,G⟩:=Y;refine⟨bm,ob,b1,b2,λz=>?_,λz=>?_,j I<|L I (λv n z=>by rw[G]at z;cases z) (λv z=>by rw[G]at z;cases z),b4,b5,G⟩
   ·let⟨o,es,ep,e,d,_⟩:=D;rw[z,e]at I;cases I;rw[d]at G;cases G
   ·rw[z,p]at I;cases I;cases G
  let e0:iY P w K mg (iU c.heap H) callerA [] c H:=⟨Z,hM,λb o e=>TF e,Nat.le_of_eq<|YA _ _,trivial,λb i=>absurd (show b∈([]:Le) from i)<|by simp,S,.of_eq hg⟩;refine codeAny_mono ((F _ N (y D) X).run callerA [] c H ⟨[.ref a],[]⟩ [.ref a] [.ref a] _ _ hr e0 (E c<|.ref a) (.cons rfl .nil) (a4 H U hS)) λr s' h=>?_;cases r with
  | error e=>exact(a1 H e s' h).elim
  | ok fl=>
   cases fl with
   | next=>exact Jf h
   | brk=>exact Jf h
   | cont=>exact Jf h
   | ret u=>
    let⟨v,H',os,Q,un,C,r',q⟩:=h;let q':v=.bl true:=q;subst q';obtain rfl:u=Value.bool true:=r';refine⟨Z,⟨λb o e=>?_,λb o e=>un.there b o e<|by simp⟩,os,Q⟩;cases q:H b with
    | none=>exact .inl<|un.keep b o e q (by intro z;exact absurd (show b∈([]:Le) from z)<|by simp) (by simp)
    | some u=>
     rcases U.1 b with z | ⟨ob,xs,z⟩ | z
     ·rw[q]at z;cases z
     ·let z2:=un.frzs b ob _ z;let⟨e1,_⟩:=S b _ z;let⟨e2,_⟩:=C b _ z2;rw[e]at e1;cases e1;exact .inl e2
     ·subst z;rw[p]at e;cases e;let⟨more,z2⟩:=un.tbls b _ U.2;let e2:=C b _ z2;let⟨oc,vc,_,_,_,_,_,_,_,c1,c2,c3,c4,_⟩:=a0;exact .inr<|.inl ⟨⟨cc,oc,vc,c1,c2,c3,c4⟩,Z,_,more,Z,e2⟩
 cases hk:K.lookup a with
 | some o=>
  let e:=KX a o hk;rw[T]at e;cases e;refine B (λb=>if b=l then some (.tbl #[]) else none) ⟨λb=>?_,Yl Z⟩ (.inr ⟨_,vs.toArray,_,hk,Z,Z,Z,by rw[Ys,R];exact hl,‹rv›⟩) (λb u z=>?_) (λb z=>?_) λz=>absurd (Yh O) z
  ·by_cases i:b=l
   ·exact .inr<|.inr i
   ·exact .inl<|Yh i
  ·by_cases i:b=l
   ·let A:=(Yl i).symm.trans z;cases A;subst i;exact p
   ·let A:=(Yh i).symm.trans z;cases A
  ·by_cases i:b=l
   ·exact .inr i
   ·exact absurd (Yh i) z
 | none=>
  refine B (λb=>if b=a then some (.frz { cls:=.type "list",data:=.seq vs.toArray } (.lst<|M.map V.int)) else if b=l then some (.tbl #[]) else none) ⟨λb=>?_,(Yh O.symm).trans (Yl rfl)⟩ (.inl<|.inr ⟨{ cls:=.type "list",data:=.seq vs.toArray },Yl rfl⟩) (λb u z=>?_) (λb z=>?_) λ_=>hk
  ·by_cases i:b=a
   ·exact .inr<|.inl ⟨_,_,Yl i⟩
   ·by_cases hp:b=l
    ·exact .inr<|.inr hp
    ·exact .inl<|(Yh i).trans (Yh hp)
  ·by_cases i:b=a
   ·let A:=(Yl i).symm.trans z;cases A;subst i;exact⟨T,by rw[Yd];exact hl,vs,_,rv,T⟩
   ·by_cases hp:b=l
    ·let A:=((Yh i).trans (Yl hp)).symm.trans z;cases A;subst hp;exact p
    ·let A:=((Yh i).trans (Yh hp)).symm.trans z;cases A
  ·by_cases i:b=a
   ·exact .inl i
   ·by_cases hp:b=l
    ·exact .inr hp
    ·exact absurd ((Yh i).trans (Yh hp)) z
def walk_ofT{l:W.OpenLaw}{n k:Nat}{q:Lm}{i:Lf}{U:Sa->Lp->Prop}{C:Ll->Lp->Prop}{d:DefRec}{K:Params->Lj}{CX:Ll->kF}{sp:Ll->Lh->Sp}{x:Lq}(N:l.most=some n) (J:n<=sizeLine) (A:d.params.defaults=[]) (Q:bM k callerA)(X:∀(w:Ll) (h:Lp),C w h->(K w.params).In h) (m:Lh)(S:∀(w:Ll) (h:Lp),C w h->h.get? m=some (W.tabObj #[]))(F:∀(w:Ll) (mg:Sa) (y:Lh) (h:Lp),(K w.params).In h->h.Ns mainGlobals mg->mg d.name=some (.ref y) ->
   ∃(cc:Lh) (fd:FuncData),W.codeHdIn (K w.params) cc m=true/\(K w.params).lookup m=none/\(∀(s:Lk) (u:Li),BindsTo s fd ⟨[u],[]⟩ [(x,u)]) /\
    ∀base:Lp,(K w.params).In base->base.Ns mainGlobals mg->base.BuiltinsAt mg m->cJ l.prog w (K w.params) mg base (CX w) k y fd [x] (sp w m))
  (L:∀(w:Ll) (H:Hp) (a:Lh) (z:Lc),z.length<=n->qA m H->aQ (K w.params) H a (z.map V.int)->sp w m [.ref a] H (λv _=>v=.bl true) λ_ _ _=>False)
  (D:∀(w:Ll) (H:Hp) (s:Lk) (e:Li) (s':Lk),CX w [] H s (λ_ _ _=>False) e s'->False):
  W.WalkO q i U C l.row.toRowW d [] (λf vs=>PySem.call f vs):=by refine Att.attach_call N A λw s₀ p mg mb y o pm cd doc a vs z G Y ho hd hcd E r j c hg=>?_;let B:=X w _ Y;let⟨cc,fd,I,M,hb,P⟩:=F w mg y _ B G.T.g E;exact XP B G.T.g G.T.b G.T.builtins G.T.nolimit hg (S w _ Y) (W.codeHd_of_K B I) M G.T.bmain r j (Yr c J) Q P hb (λH R O=>L w H a z c R O) λH e s'=>D w H p e s'
end
section
section
variable{prog:Lm}{w:Ll}{d:Lh}{ep:Nat}{es:Array DictEntry}{o:Obj}
def HK(y:(d==sysModules)=false)(p:o.cls=.type "dict")(c:o.data=.dict es ep):W.KdlSrc prog w "dict" d d es.size (λi v=>∃e,es[i]?=some e/\v=e.key) (λh=>h.get? d=some o) where
 type:=λs a=>⟨o,a,p⟩
 there:=λ_ a=>⟨Yn a,Yn a⟩
 keep:=λ_ _ a n=>n d (.inl Z) o a
 notList:=by decide
 notTuple:=by decide
 hint:=λ_ _ s _ a r=>W.kdl_hint_dict (s:=s) ⟨o,a,p⟩ r
 iter:=λA s x a=>⟨_,λi h=>h.IsKeyIter s.heap.objs.size d i es.size ep/\h.get? d=some o,(λ_ _ r=>NG y ⟨o,a,p⟩ a c r),{
   sub:=λb j=>by simp at j;simp[j]
   frame:=λ_ _ _ st n=>⟨st.1.at λo e=>n _ (by simp) o e,n d (by simp) o st.2⟩
   item:=λi s' Q E z st m=>by obtain⟨e,u⟩:∃e,es[i]?=some e:=⟨es[i],Array.getElem?_eq_getElem z⟩;refine LW st.1 st.2 c rfl u λh' k l=>?_;exact m e.key h' s'.toks ⟨e,u,Z⟩ ⟨k,l.extBut d o (Y0<|Yn a) st.2⟩ λb o j e=>l.extBut b o (λh=>j<|by simp[h]) e
   done:=λs' Q E st m=>J2 x st.1 st.2 c rfl (Yi _) λh' q=>m h' s'.toks λb o j e=>q b o (λh=>j<|by simp[h]) e
   self:=λ_ _ _ _ st m=>wpAny_pyIter_keyiter st.1 m },⟨⟨_,Yk _ Z,Z,Z⟩,Ye _ a⟩⟩
end
section
variable{X:Cx}
def N0(T:X.calm=true):bZ X (.type "list") (λxs H Q=>∃d ap,xs=[.ref d]/\Rd H d (.dT ap)/\∀l (as:Le),H l=none->as.length=ap.length->(∀(i:Nat) k x,ap[i]?=some (k,x)->∃a,as[i]?=some a/\H a=some (.tup<|k.map kV)) ->
  Q (.ref l) (upd H l<|.lst<|as.map V.ref)):=by
 intro ak s σ H xs us Q I r h;let⟨d,ap,rfl,hd,q⟩:=h;let⟨u,rfl,rx⟩:=qG r;cases rx;let⟨zl,L,ys,A,ob,J,ep,S,g2,U,O,g5,g6⟩:=lH I.hok hd;let le:J.size=ap.length:=(size_of_entries O).trans (Paired.length A).symm;refine W.kdl_call (HK L g2.1 U) (I.ok.hd T) S ⋯ λh' tk m c Y R G=>?_;let row:∀(i:Nat) k x,ap[i]?=some (k,x)->∃a,m[i]?=some (.ref a)/\H a=some (.tup<|k.map kV):=λi k x o=>by
  let⟨y,hy,e1,e2,e3⟩:=Paired.at' A o;let P:i<m.size:=by
   rcases Jh i ap.length with z | z
   ·rw[G.1];lia
   ·rw[Yy z]at o;cases o
  let⟨e,B,hv⟩:=G.2 i m[i]<|Array.getElem?_eq_getElem P;have:J[i]?=some (entryOfKey (tupleKind<|gD X.prog X.w) y):=by
   let z:J.toList[i]?=some (entryOfKey (tupleKind<|gD X.prog X.w) y):=by rw[O,Ym,hy];rfl
   simpa using z
  rw[this]at B;injection B with B;subst B
  exact⟨y.2.1,by rw[Array.getElem?_eq_getElem P,hv];rfl,e2⟩
 obtain⟨as,C,v⟩:∃as:Le,as.length=ap.length/\m.toList=as.map Value.ref:=by
  let D:∀n,n<=ap.length->∃as:Le,as.length=n/\m.toList.take n=as.map Value.ref:=by
   intro n;induction n with
   | zero=>intro _;exact⟨[],rfl,rfl⟩
   | succ n ih=>
    intro hn;let⟨as,E,K⟩:=ih ⋯;obtain⟨⟨k,x⟩,o⟩:∃p,ap[n]?=some p:=⟨ap[n],Yc ⋯⟩;let⟨a,M,_⟩:=row n k x o;refine⟨as++[a],by rw[Y6,E];rfl,?_⟩;let j:m.toList[n]?=some (Value.ref a):=by simpa using M
    rw[List.take_add_one,j,K,List.map_append];rfl
  let⟨as,E,K⟩:=D ap.length<|Yi _;exists as,E;rwa [List.take_of_length_le<|by rw[Array.length_toList,G.1];lia]at K
 let N:h'.get? s.heap.objs.size=some { cls:=.type "list",data:=.seq (as.map Value.ref).toArray c }:=by rw[<- v];simpa using R
 let vv:aN (as.map V.ref) (as.map Value.ref):=by
  clear v C row N;induction as with
  | nil=>exact .nil
  | cons a as ih=>exact .cons rfl ih
 refine⟨.ref s.heap.objs.size,_,I.laid (t':=tk) Y (Yi _) ?_,Z,q s.heap.objs.size as (I.hok.fresh<|Yi _) C λi k x o=>?_⟩
 ·exact⟨by rw[Yd,C];exact zl,_,c,vv,N⟩
 ·let⟨a,M,e⟩:=row i k x o;refine⟨a,?_,e⟩;let j:m.toList[i]?=some (Value.ref a):=by simpa using M
  rw[v,Ym]at j;cases q2:as[i]? with
  | none=>rw[q2]at j;cases j
  | some b=>rw[q2]at j;injection j with j;injection j with j;rw[j]
end
end
section
def yV(K:Lj)(f:Lh):Option Lh:=match K.lookup f with
 | some ⟨_,_,.func fd,_⟩=>(match fd.code with | .ref c=>some c | _=>none)
 | _=>none
section
variable{P:Lm}{w:Ll}{K:Lj}{mg:Sa}{base:Lp}{x qual:Lq}{st:Ln}{dV:Li}{f:Lh}{fd:FuncData}{N ps:Lf}{k:Nat}{sp:Sp}
def bI.okL(F:bI K x qual st dV f fd)(b:yV K f=some cc)(S:eO N ps (gP st))(len:∀vs H Q E,sp vs H Q E->vs.length=ps.length)(d:∀A a s H vs Q E,bM k (A.deeper<|envOfC qual (gP st) s.heap.objs.size f<|.ref cc)->sp vs H Q E ->
   ∃t,lE (mC dG P w K mg base N qual (gP st) f (.ref cc) A a s H E).nox (mK st) t/\t { nx:=λ_ H'=>Q .non H',rt:=Q } (start N vs) H):cJ P w K mg base dG (k+1) f fd ps sp:=by
 let⟨oc,od,kV,doc,pm,an,i,ct,osl,rfl,m,j⟩:=F.ex;let e:i=.ref cc:=by
  unfold yV at b;rw[m]at b;cases i with
  | ref c=>injection b with z;rw[z]
  | _=>cases b
 subst e;refine RK m j S len λA a s H vs Q E n l=>?_;let⟨t,h,q⟩:=d A a s H vs Q E n l;exact⟨t,h.nox,q⟩
end
end
section
def X8:typeLookup (.type "list_reverseiterator") "__len__" = pure none:=by rw[typeLookup_type,builtinLookup_eq_fast];kernel_rfl
def WW:typeLookup (.type "list_reverseiterator") "__length_hint__" = pure (some<|.builtin "list_reverseiterator.__length_hint__"):=by rw[typeLookup_type,builtinLookup_eq_fast];kernel_rfl
section
variable{prog:Lm}{w:Ll}{A:Around}{E:Va}{s:Lk}{r l:Lh}
def V2(a:s.TypeIs (.ref r) "list_reverseiterator")(h:Q false s):⇑A (Builtin.List.listLengthHint<|.ref r) Q E s:=by
 unfold Builtin.List.listLengthHint;refine Ya<|wpAny_specialOf a X8 ?_;show wpAny _ A (specialOf (Value.ref r) (Str.ofString "__length_hint__") >>= _) _ _ _;refine Ya<|wpAny_specialOf a WW ?_;generalize hid:("list_reverseiterator.__length_hint__":String)=id0
 wp_delta
 rw[show splitId id0=some ("list_reverseiterator","__length_hint__") from by subst hid;decide +kernel];subst hid;refine Ya<|wpAny_isInstance (b:=true) a (by rw[isSubtype_type];kernel_rfl) ?_;exact Yb h
def ZT(L:A.handled=none)(j:s.heap.IsRevIter r l ((items.size:Int)-1))(K:s.heap.IsList l items)(y:l≠r)(S:Lh)(u:S≠r)(z:S≠l)(k:Li)(m:Nat)(P:s.heap.get? S=some { cls:=.type "list",data:=.seq #[] m })(M:∀h' x a p,(∀b o,b≠S->b≠r->s.heap.get? b=some o->h'.get? b=some o)->h'.get? S=some { cls:=.type "list",dict:=none,data:=.seq a p,slots := #[] }->ItemsOf (λi v=>items[items.size-1-i]?=some v) a items.size->R (.ok<|.ret k) {s with heap:=h',toks:=x }) (N:items.size<=sizeLine):wpAny (model prog w) A.in1 (Builtin.List.listExtendWith (.ref S) (.ref r) k) (λfin s'=>match fin with | .done f=>R (.ok f) s' | .again p=>p.quiet=true/\codeAny (model prog w) A p R s') (λe s'=>R (.error e) s') s:=by
 let W:=Walks.listRev (prog:=prog) (w:=w) (A:=A.in1) L r l y items;let G:S∉[r,l]:=by simp only[List.mem_cons,List.not_mem_nil,or_false,not_or];exact⟨u,z⟩
 let st:0<=items.size/\s.heap.IsRevIter r l ((items.size:Int)-1-((0:Nat):Int))/\s.heap.IsList l items:=⟨Y2 _,‹j›,K⟩;let C:∀(h:Lp) (c x:Nat),(0<=items.size/\h.IsRevIter r l ((items.size:Int)-1-((0:Nat):Int))/\h.IsList l items)->(∀b o,b≠S->s.heap.get? b=some o->h.get? b=some o) ->
   h.get? S=some { cls:=.type "list",data:=.seq #[] c }->codeAny (model prog w) A (.builtin "list.extend.loop" ⟨[.ref S,.ref r,k],[]⟩) R {s with heap:=h,toks:=x }:=by
  intro h c x D O n;refine codeAny_extend_loopS W.toS N S G k items.size 0 _ #[] c rfl (Y2 _) D n (ItemsOf.nil _) λs' a p J B q=>?_;rw[Moved.eq_with J];refine M s'.heap s'.toks a p (λb o I H e=>J.heap b o (λd=>?_)<|O b o I e) B q;rcases Yj.mp d with U | d
  ·exact I U
  ·exact H<|Yq.mp d
 unfold Builtin.List.listExtendWith;refine Ya<|wpAny_typeOf (T:="list_reverseiterator") j.typeIs ?_;let Q:Builtin.List.listSameRef (.ref S) (.ref r)=false:=by simp[Builtin.List.listSameRef,u]
 rw[Yh<|by rw[Q];decide];refine Ya<|wpAny_pyIter_revIter j ?_;refine Ya<|Jr<|V2 j.typeIs ?_;rw[Yh ∅];exact Yb ⟨plainId_quiet PySem.F.plain_extend_loop _,C _ m _ st (λb o _ e=>e) P⟩
def VI(D:A.handled=none)(u:s.heap.IsRevIter r l ((items.size:Int)-1))(C:s.heap.IsList l items)(q:l≠r)(S:Lh)(m:S≠r)(k:S≠l)(x:s.heap.get? S=some { cls:=.type "list",data:=.seq #[] })(G:∀h' B a h,(∀b o,b≠S->b≠r->s.heap.get? b=some o->h'.get? b=some o)->h'.get? S=some { cls:=.type "list",dict:=none,data:=.seq a h,slots := #[] }->ItemsOf (λi v=>items[items.size-1-i]?=some v) a items.size->R (.ok<|.ret .none) {s with heap:=h',toks:=B }) (H:items.size<=sizeLine):wpAny (model prog w) A.in1 (Builtin.«list.__init__» ⟨[.ref S,.ref r],[]⟩) (λfin s'=>match fin with | .done f=>R (.ok f) s' | .again h=>h.quiet=true/\codeAny (model prog w) A h R s') (λe s'=>R (.error e) s') s:=by
 show wpAny _ _ (do let p <- Builtin.List.listItems (.ref S);Builtin.List.listUpdate (.ref S)<|λ_ => #[];letGo p.toList.reverse;Builtin.List.listExtendWith (.ref S) (.ref r) .none) _ _ s;refine Ya ?_;unfold Builtin.List.listItems;refine Ya<|Js x rfl<|Yb ?_;show wpAny _ _ (updateSeq S (λ_ => #[]) >>= λ_=>letGo (#[]:Array Li).toList.reverse >>= λ_=>Builtin.List.listExtendWith (.ref S) (.ref r) .none) _ _ s;refine Ya<|wpAny_updateSeq x rfl ?_;let d:=Heap.get?_update_self (Obj.mapSeq<|λ_=>(#[]:Array Li)) x rfl;let c:∀b o,b≠S->s.heap.get? b=some o->(s.heap.update S<|Obj.mapSeq<|λ_=>(#[]:Array Li)).get? b=some o:=
  λb o n e=>(Heap.get?_update_other _ _<|Jc n).trans e
 refine Ya<|wpAny_letGo ?_;refine ZT D (u.at λo e=>c r o m.symm e) (C.at λo e=>c l o k.symm e) q S m k .none _ d (λh' B a h I y j=>?_) H;exact G h' B a h (λb o n z e=>I b o n z<|c b o n e) y j
def VJ(B:A.handled=none)(h:s.heap.IsRevIter r l ((items.size:Int)-1))(y:s.heap.IsList l items)(p:l≠r)(C:items.size<=sizeLine)(G:∀h' u a x,(∀b o,b≠r->s.heap.get? b=some o->h'.get? b=some o)->h'.get? s.heap.objs.size=some { cls:=.type "list",dict:=none,data:=.seq a x,slots := #[] }->ItemsOf (λi v=>items[items.size-1-i]?=some v) a items.size->Q (.ref s.heap.objs.size) {s with heap:=h',toks:=u }):⇑A (call (.type "list") [.ref r]) Q E s:=by
 refine callType_codes (Q₁:=λobj c=>obj=.ref s.heap.objs.size/\c={s with heap:=s.heap.push { cls:=.type "list",data:=.seq #[] } }) PySem.F.called_list (PySem.F.typeCall_list_1 _) PySem.F.entry_list_init
  (code_list_new _ ⟨Z,Z⟩) λobj c j=>?_
 let⟨rfl,rfl⟩:=j;let z:(s.heap.push { cls:=.type "list",data:=.seq #[] }).get? s.heap.objs.size=some { cls:=.type "list",data:=.seq #[] }:=Yk _ rfl;let n:r<s.heap.objs.size:=let ⟨o,k,_⟩:=h;Yn k;let m:l<s.heap.objs.size:=let ⟨o,k,_⟩:=y;Yn k;refine⟨⟨_,z,Z⟩,PySem.F.args_list_init_2 _ _,VI (A:=A.in1) B (h.at λo e=>Ye _ e) (y.at λo e=>Ye _ e) p _ (Nat.ne_of_gt n) (Nat.ne_of_gt m) z (λh' u a x D q d=>?_) C⟩;exact⟨Z,G h' u a x (λb o H e=>D b o (Y0<|Yn e) H<|Ye _ e) q d⟩
end
section
variable{X:Cx}
def VM(te:TE):TE:=λσ H Q=>te σ H λv H1=>∃l ys,v=.ref l/\H1 l=some (.lst ys)/\∀D,H1 D=none->Q (.ref D) (upd H1 D<|.lst ys.reverse)
def ZU{e:Lo}{P:TE}{W r k a:Pos}(he:PE X e P)(hc:X.calm=true)(C:X.mg ("list":Lq)=none)(D:X.mg ("reversed":Lq)=none)(K:↑(Gl X "list"))(J:↑(Gl X "reversed"))
  (O:↑(starEach [e] X.env=(false,eval e X.env)::starEach [] X.env))
  (p:↑(starEach [Expr.Call (.Name "reversed" r) [e] [] a] X.env=(false,eval (.Call (.Name "reversed" r) [e] [] a) X.env)::starEach [] X.env)):
  PE X (.Call (.Name "list" W) [.Call (.Name "reversed" r) [e] [] a] [] k) (VM P):=by
 intro ak s σ H Q I h;refine wpAny_Call_Name_kw<|nZ I K C (u:=.type "list") (by kernel_rfl) ?_ ∅ ∅;refine PyProof.Rows.callWith_type1 ?_ p rfl;rw[p];show wpAny _ _ (spliced ((false,eval (.Call (.Name "reversed" r) [e] [] a) X.env)::backTo k (starEach [] X.env))) _ _ s;refine Calls.spliced_cons ?_;refine wpAny_Call_Name_kw<|nZ I J D PH ?_ ∅ ∅;refine PyProof.Rows.callWith_type1 ?_ O rfl;rw[O];show wpAny _ _ (spliced ((false,eval e X.env)::backTo a (starEach [] X.env))) _ _ s;refine Calls.spliced_cons<|bC (he s σ H _ I h) λu d A=>?_;let⟨x,H1,v,r1,l,ys,ex,hH,q⟩:=A;subst ex;cases r1;refine Calls.spliced_nil ?_;let⟨its,n,S,N,hz⟩:=v.lst hH;let m:d.heap.IsList l its.toArray:=⟨_,N,Z,n,Z⟩;refine call_reversed_list m ?_;refine Calls.spliced_nil ?_;let z:(d.heap.push<|revObj l<|(its.toArray.size:Int)-1).IsRevIter d.heap.objs.size l ((its.toArray.size:Int)-1):=⟨_,Yk _ rfl,Z,Z⟩;let y:l<d.heap.objs.size:=Yn N;let B:its.toArray.size<=sizeLine:=by rw[Ys,<- S.length];exact hz
 refine VJ (s:={ d with heap:=d.heap.push (revObj l<|(its.toArray.size:Int)-1) }) (v.ok.hd hc) z (m.at λo e=>Ye _ e) (Y0 y) B λh' tk j c kp Y U=>?_;let R:(d.heap.push<|revObj l<|(its.toArray.size:Int)-1).objs.size=d.heap.objs.size+1:=by simp[Heap.push]
 let G:∀b o,d.heap.get? b=some o->h'.get? b=some o:=λb o e=>kp b o (Y0<|Yn e)<|Ye _ e;let ea:j.toList=its.reverse:=by
  refine List.ext_getElem? λi=>?_;let sz:j.size=its.length:=by rw[U.1,Ys]
  rcases Jh i its.length with M | M
  ·let T:i<j.size:=by lia
   let e1:=U.2 i j[i]<|Array.getElem?_eq_getElem T;rw[Ys,List.getElem?_toArray]at e1;rw[List.getElem?_reverse M,e1];simp[T]
  ·rw[Yy (l:=j.toList)<|by rw[Array.length_toList];lia,Yy (l:=its.reverse)<|by rw[List.length_reverse];exact M]
 let L:h'.get? (d.heap.push<|revObj l<|(its.toArray.size:Int)-1).objs.size=some { cls:=.type "list",data:=.seq its.reverse.toArray c }:=by rw[<- ea];simpa using Y
 let vr:aN ys.reverse its.reverse:=TS.paired_reverse S;let E:bN X.prog X.w (upd H1 (d.heap.push<|revObj l<|(its.toArray.size:Int)-1).objs.size (.lst ys.reverse)) h' (d.heap.push<|revObj l<|(its.toArray.size:Int)-1).objs.size (.lst ys.reverse):=⟨by rw[List.length_reverse];exact hz,_,c,vr,L⟩;refine⟨.ref _,_,v.laid (t':=tk) G (by rw[R];lia) E,Z,q _<|v.hok.fresh<|by rw[R];lia⟩
end
end
section
open MeetsSeq3
open AutoSeq1 (wpAny_loadPart')
section
variable{prog:Lm}{w:Ll}
def MP(l b:Lh)(xs ys:Array Li)(n C:Nat)(neg:Bool)(hsz:xs.size=ys.size)(e:Nat->Bool)(k:Nat):∀i,xs.size-i=k->MeetsIn prog w (Builtin.«list.__eq__.loop» ⟨[.ref l,.ref b,rawInt i,rawInt<|if neg then 3 else 2],[]⟩) (λA R s=>s.heap.get? l=some { cls:=.type "list",data:=.seq xs n }/\s.heap.get? b=some { cls:=.type "list",data:=.seq ys C } /\
    (∀j (h1:j<xs.size) (h2:j<ys.size) (E:Va) (Q:Bool->Lk->Prop),Q (e j) s->wpAny (model prog w) A.in1 (eqBool xs[j] ys[j]) Q E s) /\
    R (.ok<|.ret<|.bool<|xor neg<|((List.range xs.size).drop i).all e) s):=by
 induction k with
 | zero=>
  rintro i z A R ⟨B,g,d,D,y⟩ ⟨a,c,r,h⟩;cases neg <;>
  ·wp_walk using wpAny_loadPart' a,wpAny_loadPart' c
   let o:xs[((i:Nat):Int).toNat]?=none:=by simp;lia
   let m:ys[((i:Nat):Int).toNat]?=none:=by simp;lia
   let q:(List.range xs.size).drop i=[]:=by simp;lia
   rw[q]at h;rw[o,m];wp_walk using wpAny_loadPart' a,wpAny_loadPart' c
   first
    | (show R (.ok<|.ret<|.bool<|xs.size==ys.size) _;rw[hsz];simpa using h)
    | (show R (.ok<|.ret<|.bool<|xs.size != ys.size) _;rw[hsz];simpa using h)
 | succ k p=>
  rintro i z A R ⟨B,g,d,D,y⟩ ⟨a,c,r,h⟩;let u:i<xs.size:=by lia
  let v:i<ys.size:=by lia
  let o:xs[((i:Nat):Int).toNat]?=some xs[i]:=by simp[u]
  let m:ys[((i:Nat):Int).toNat]?=some ys[i]:=by simp[v]
  let q:(List.range xs.size).drop i=i::(List.range xs.size).drop (i+1):=by simp[List.drop_eq_getElem_cons,u]
  let x:((i:Int)+1)=((i+1:Nat):Int):=by push_cast;rfl
  let p:=p (i+1) ⋯;rw[q,List.all_cons]at h;cases neg <;>
  ·wp_walk using wpAny_loadPart' a,wpAny_loadPart' c
   rw[o,m];refine Ya<|r i u v _ _ ?_;cases hb':e i with
   | true=>
    rw[hb']at h;wp_walk;rw[x];exact⟨plainId_quiet plain_eq_loop _,codeAny_builtin entry_eq_loop (by rw[Around.under_plainId plain_eq_loop _];exact p A R _ ⟨a,c,r,‹h›⟩)⟩
   | false=>
    rw[hb']at h;wp_walk using wpAny_loadPart' a,wpAny_loadPart' c;rw[o,m];wp_walk;simpa using h
def VH(l b:Lh)(xs ys:Array Li)(n i:Nat)(neg:Bool)(e:Nat->Bool):MeetsIn prog w ((if neg then Builtin.«list.__ne__» else Builtin.«list.__eq__») ⟨[.ref l,.ref b],[]⟩) (λA R s=>s.heap.get? l=some { cls:=.type "list",data:=.seq xs n }/\s.heap.get? b=some { cls:=.type "list",data:=.seq ys i } /\
    (∀j (h1:j<xs.size) (h2:j<ys.size) (E:Va) (Q:Bool->Lk->Prop),Q (e j) s->wpAny (model prog w) A.in1 (eqBool xs[j] ys[j]) Q E s) /\
    R (.ok<|.ret<|.bool<|xor neg<|decide (xs.size=ys.size)&&(List.range xs.size).all e) s):=by
 rintro A R ⟨hp,g,d,tk,os⟩ ⟨a,c,m,h⟩;let f3:=AutoSeq1.sub_list_list;by_cases hz:xs.size=ys.size
 ·let k:¬(xs.size != ys.size)=true:=by simp[hz]
  rw[Yo hz,Bool.true_and]at h;cases neg
  ·simp only[Bool.false_eq_true,if_false]
   wp_walk using wpAny_loadPart' a,wpAny_loadPart' c
   exact⟨plainId_quiet plain_eq_loop _,codeAny_builtin entry_eq_loop (by rw[Around.under_plainId plain_eq_loop _];exact MP l b xs ys n i false hz e _ 0 rfl A R _ ⟨a,c,m,‹h›⟩)⟩
  ·simp only[if_true]
   wp_walk using wpAny_loadPart' a,wpAny_loadPart' c
   exact⟨plainId_quiet plain_eq_loop _,codeAny_builtin entry_eq_loop (by rw[Around.under_plainId plain_eq_loop _];exact MP l b xs ys n i true hz e _ 0 rfl A R _ ⟨a,c,m,‹h›⟩)⟩
 ·let k:(xs.size != ys.size)=true:=by simp[hz]
  rw[Yw hz,Bool.false_and]at h;cases neg
  ·simp only[Bool.false_eq_true,if_false]
   wp_walk using wpAny_loadPart' a,wpAny_loadPart' c
   let q:(CmpOp.Eq==CmpOp.NotEq)=false:=by decide
   rw[q];simpa using h
  ·simp only[if_true]
   wp_walk using wpAny_loadPart' a,wpAny_loadPart' c
   simpa using h
end
section
variable{X:Cx}{ak:La}{σ:St}{H:Hp}{s:Lk}
def DD(K:Lj)(H:Hp)(a b:Lh)(c:Bool):Prop:=∃ka kb da db,Rd H a (.dT ka)/\Rd H b (.dT kb)/\rW K H ka da/\rW K H kb db/\gM da/\gM db/\gC da db=c/\(a=b->c=true)
def YI(hu:A.units+64<cLine)(I:aK X ak σ H s)(h:DD X.K H a b c)(q:Q c s):wpAny (model X.prog X.w) A (eqBool (.ref a)<|.ref b) Q E s:=by
 let⟨ka,kb,k,l,z,B,i,d,r,o,e,y⟩:=h;let⟨_,u,xs,j,v⟩:=lH I.hok z;let⟨_,p,ys,tb,x⟩:=lH I.hok B;let m:xs.length=k.length:=(Paired.length j).symm.trans (Paired.length i);let n:ys.length=l.length:=(Paired.length tb).symm.trans (Paired.length d);unfold eqBool
 try with_reducible refine Jr ?_
 show wpAny _ _ (if (Value.ref a==Value.ref b)=true then _ else _) Q E s;by_cases hab:(Value.ref a==Value.ref b)=true
 ·rw[Yl hab];have:=y<|Value.ref.inj<|beq_iff_eq.mp hab;subst this;exact Ya<|wpAny_rule<|Yb q
 ·rw[Yh hab];refine Ya<|L3 (knd:=tupleKind<|gD X.prog X.w) (tupleKind_room_in1 ⋯) ⋯ u p v x (λ_=>BY (by show A.units+1+61<cLine;lia) I tb d o j i r) ?_;refine Jq ?_;rw[m,n];show Q (gC k l) s;rw[e];exact q
inductive uG(K:Lj)(neg:Bool)(x y:V)(H:Hp)(Q:VK):Prop
 | mk (l b:Lh) (as bs:Le) (e:Nat->Bool) (_:x=.ref l) (_:y=.ref b) (_:H l=some (.lst<|as.map V.ref)) (_:H b=some (.lst<|bs.map V.ref)) (_:(∀(i:Nat) (p q:Lh),as[i]?=some p->bs[i]?=some q->DD K H p q (e i))) (_:Q (.bl<|xor neg<|decide (as.length=bs.length)&&(List.range as.length).all e) H)
theorem F1:∀{as:Le} {us},aN (as.map V.ref) us->us=as.map Value.ref
 | [],_,.nil=>rfl
 | a::as,_,.cons r t=>by cases (show _=Value.ref a from r);rw[F1 t];rfl
def XC{as bs:Le}{Q:VK}(hu:X.A.units+70<cLine)(I:aK X ak σ H s)(v:H l=some (.lst<|as.map V.ref))(L:H b=some (.lst<|bs.map V.ref))(B:∀i p q,as[i]?=some p->bs[i]?=some q->DD X.K H p q (e i)) (q:Q (.bl<|xor neg<|decide (as.length=bs.length)&&(List.range as.length).all e) H):↥X (compareOp (if neg then .NotEq else .Eq) (.ref l)<|.ref b) (EP X ak σ Q) X.xe s:=by
 let⟨vs,n,G,h,hz⟩:=I.lst v;let⟨vs2,u,m,k,hz2⟩:=I.lst L;let e1:=F1 G;let C:=F1 m;subst e1 C;let c:s.TypeIs (.ref l) "list":=⟨_,h,Z⟩;let r:s.TypeIs (.ref b) "list":=⟨_,k,Z⟩;let body:=VH (prog:=X.prog) (w:=X.w) l b (as.map Value.ref).toArray (bs.map Value.ref).toArray n u neg e;let sz:∀(z:Le),(z.map Value.ref).toArray.size=z.length:=λz=>by simp
 let a:∀(R:Result->Lk->Prop),R (.ok<|.ret<|.bool<|xor neg<|decide (as.length=bs.length)&&(List.range as.length).all e) s->(fun(A:Around) (R:Result->Lk->Prop) (s:Lk)=>s.heap.get? l=some { cls:=.type "list",data:=.seq (as.map Value.ref).toArray n }/\s.heap.get? b=some { cls:=.type "list",data:=.seq (bs.map Value.ref).toArray u } /\
    (∀j (h:j<(as.map Value.ref).toArray.size) (k:j<(bs.map Value.ref).toArray.size) (E:Va) (Q:Bool->Lk->Prop),Q (e j) s->wpAny (model X.prog X.w) A.in1 (eqBool (as.map Value.ref).toArray[j] (bs.map Value.ref).toArray[j]) Q E s) /\
    R (.ok<|.ret<|.bool<|xor neg<|decide ((as.map Value.ref).toArray.size=(bs.map Value.ref).toArray.size)&&(List.range (as.map Value.ref).toArray.size).all e) s) X.A R s:=λR x=>by
  refine⟨h,k,λj d o E' Q' y=>?_,by rw[sz,sz];exact x⟩;rw[sz]at d o;let J:(as.map Value.ref).toArray[j]'(by rw[sz];exact d)=.ref as[j]:=by simp
  let D:(bs.map Value.ref).toArray[j]'(by rw[sz];exact o)=.ref bs[j]:=by simp
  rw[J,D];exact YI (by show X.A.units+1+64<cLine;lia) I (B j _ _ (Yc d)<|Yc o) y
 cases neg
 ·refine Ju (op:=.Eq) c r PySem.F.slot_list_eq (call_meetsIn PySem.F.slot_list_eq c PySem.F.entry_list_eq (PySem.F.args_list_eq_2 _ _) body<|a _ ?_) ⋯;exact⟨(λz=>nomatch z),.bl _,H,I,Z,q⟩
 ·refine Ju (op:=.NotEq) c r PySem.F.slot_list_ne (call_meetsIn PySem.F.slot_list_ne c PySem.F.entry_list_ne (PySem.F.args_list_ne_2 _ _) body<|a _ ?_) ⋯;exact⟨(λz=>nomatch z),.bl _,H,I,Z,q⟩
def JZ{K:Lj}(c:X.K=K)(j:X.A.units+70<cLine):eS X (compareOp .NotEq) (uG K true):=by subst c;intro ak s σ H x y u v Q I i d h;let⟨l,b,as,bs,e,rfl,rfl,a,m,k,q⟩:=h;cases i;cases d;exact XC (neg:=true) j I a m k q
end
end
section
def C8(K:Lj)(a:Lh):It:=
 ⟨λi H=>∃xs x,aQ K H a xs/\xs[i]?=some x,λi H v H'=>∃p x,H p=none/\v=.ref p/\H'=upd H p (.tup [.int i,x])/\∀xs,aQ K H a xs->xs[i]?=some x,λi H=>∃xs,aQ K H a xs/\xs.length<=i⟩
def ESt(e it l:Lh)(i:Nat)(h:Lp):Prop:=(∃old,IsEnum h e it i old)/\h.IsListIter it l i
def YU{K:Lj}(n:e≠it):jT P w K (.Tuple es ek pos) (C8 K a) [e,it] e (λi h=>ESt e it a i h) where
 mem:=by simp
 obj:=λi h ⟨⟨_,st⟩,J⟩ b c=>by
  simp only[List.mem_cons,List.not_mem_nil,or_false]at c;rcases c with rfl | rfl
  ·exact⟨_,st,λv q=>by cases q⟩
  ·let⟨o,eo,_,hd⟩:=J;exact⟨o,eo,λv q=>by rw[hd]at q;cases q⟩
 keep:=λi h h' ⟨⟨j,st⟩,J⟩ k=>⟨⟨j,k e (by simp) _ st⟩,J.at λo q=>k it (by simp) o q⟩
 item:=by
  intro X M hw D Q i ak s σ H E I B st N;subst M hw D;let⟨⟨j,y⟩,d⟩:=st;let⟨xs,x,A,R⟩:=N;let⟨us,L,p,_⟩:=I.list A;let⟨u,S,rx⟩:=L.get R;let r:e<s.heap.objs.size:=Yn y;let G:it<s.heap.objs.size:=by let⟨_,z,_⟩:=d;exact Yn z
  refine wpAny_pyNext_enum_item y d p.isList (x:=u) ‹S› n λh' T m hT hsz k=>?_;refine⟨_,Z,wpAny_letOwnedTupleGo_enum T λO l C=>?_⟩;let Y:s.heap.objs.size≠e:=Nat.ne_of_gt r;let kk:∀b o,b∉[e,it]->s.heap.get? b=some o->O.get? b=some o:=λb o c q=>by simp only[List.mem_cons,List.not_mem_nil,or_false,not_or]at c;exact(C.2 b c.1).trans (k b o c.1 c.2 q)
  refine⟨.ref s.heap.objs.size,upd H s.heap.objs.size<|.tup [.int i,x],I.drawn (t':=s.toks+1) (ch:=[e,it]) (λb c=>B b c) kk (Yi _) ?_,Z,⟨_,x,I.fresh,Z,Z,λxs' U=>?_⟩,?_,λb c=>?_⟩
  ·exact⟨by show 2<=sizeLine;rw[sizeLine_eq];decide,[.int i s.toks,u],.cons ⟨_,Z⟩<|.cons rx .nil,⟨_,(C.2 _ Y).trans hT,Z,_,Z⟩⟩
  ·rw[I.list_inj U A];exact R
  ·exact⟨⟨u,‹l›⟩,m.at λo q=>(C.2 it n.symm).trans q⟩
  ·have:b<s.heap.objs.size:=by
    simp only[List.mem_cons,List.not_mem_nil,or_false]at c;rcases c with rfl | rfl
    ·exact r
    ·exact G
   rw[aV<|Y0 this];exact(B b c).1
 done:=by intro X M hw D Q i ak s σ H E I B st N;subst M hw D;let⟨⟨j,y⟩,d⟩:=st;let⟨xs,A,hl⟩:=N;let⟨us,L,p,_⟩:=I.list A;let l1:=L.length;refine wpAny_pyNext_enum_end (I.ok.hd Q) y d p.isList (by rw[List.getElem?_toArray,Yy];lia) λh' k=>⟨rfl,I.turnedL (t':=s.toks) (ch:=[e,it]) (λb c=>B b c) λb o c q=>?_⟩;simp only[List.mem_cons,List.not_mem_nil,or_false,not_or]at c;exact k b o c.2 q
 self:=λ_ _ _ _ _ ⟨⟨_,st⟩,_⟩ h=>wpAny_pyIter_enum st h
def z20(K:Lj)(ta:TA):TI:=λσ H R=>ta σ H λvs H1=>∃a,vs=[.ref a]/\(∃xs,aQ K H1 a xs)/\R (C8 K a) H1
def zik:bootBuiltins "enumerate"=some (.type "enumerate"):=by kernel_rfl
def S3{X:Cx}{K:Lj}{v:List Lo}{D:Nat}{e p d:Pos}{e1:Lo}{o:TA}(w:X.K=K)(B:Gl X "enumerate")(E:X.mg "enumerate"=none)(G:PA X [e1] o)(y:↑(starEach [e1] X.env=(false,eval e1 X.env)::starEach [] X.env)) (m:↑((backTo d<|starEach [] X.env).any (·.1)=false)):PI X (.Tuple v D e) (.Call (.Name "enumerate" p) [e1] [] d) (z20 K o):=by
 subst w;intro ak s σ H R I h;refine wpAny_Call_Name_kw<|nZ I B E zik ?_ ∅ ∅;refine PyProof.Rows.callWith_type1 (bC (G ak s σ H _ I h) λus c ⟨vs,H1,j,z,a,A,⟨xs,C⟩,q⟩=>?_) y m;subst A;let⟨u1,rfl,l⟩:=z.one;cases l;let⟨us,ru,x,_⟩:=j.list C;refine call_enumerate_list x.isList λh' n it sz k=>wpAny_pyIter_enum n ?_;let u:aK X ak σ H1 { c with heap:=h' }:=j.kept (t':=c.toks) k;refine⟨c.heap.objs.size+1,[c.heap.objs.size+1,c.heap.objs.size],_,_,H1,Z,u,YU<|Nat.succ_ne_self _,⟨⟨_,n⟩,it⟩,λb r=>?_,q⟩;let i:c.heap.objs.size<=b:=by
  simp only[List.mem_cons,List.not_mem_nil,or_false]at r;rcases r with rfl | rfl
  ·exact Nat.le_add_right _ 1
  ·exact Yi _
 let F:=j.fpOk i<|j.hok.fresh i;exact F
def X3{K:Lj}(b:aQ K H1 a xs):gR (C8 K a) H1 xs.length (λi v H=>∃p x,v=.ref p/\H p=some (.tup [.int i,x])/\xs[i]?=some x):=by refine⟨λi H' e c=>⟨xs,xs[i],e.seq b,by simp[c]⟩,λH' e=>⟨xs,e.seq b,Yi _⟩,λi H' x H2 e c q=>?_⟩;let⟨p,u,h,rfl,rfl,d⟩:=q;exact⟨aJ.upd h,p,u,Z,aW,d xs<|e.seq b⟩
inductive rH(x:V)(vs:Lg)(H:Hp)(Q:VK):Prop
 | mk (l:Lh) (xs:Lg) (i:Nat) (y:V) (_:x=.ref l) (_:vs=[.int i,y]) (_:H l=some (.lst xs)) (_:i<=xs.length) (_:xs.length<sizeLine) (_:Q .non (upd H l<|.lst (xs.take i++y::xs.drop i)))
def V6(o:Obj)(f:Array Li->Array Li)(T:s.TypeIs (.ref l) "list")(M:Meets (Builtin.«list.insert» ⟨[.ref l,.int i t,u2],[]⟩) (λ_ R s=>s.heap.get? l=some o/\R (.ok<|.ret Value.none) {s with heap:=s.heap.update l<|Obj.mapSeq f,toks:=s.toks }))(e:s.heap.get? l=some o)(h:Q .none {s with heap:=s.heap.update l<|Obj.mapSeq f,toks:=s.toks }):⇑A (call (.builtin "list.insert") [.ref l,.int i t,u2]) Q E s:=call_meets PySem.F.slot_list_insert T PySem.F.entry_list_insert (PySem.F.args_list_insert_3 _ _ _) M ⟨e,h⟩
def vT(i:Int)(u:Li)(xs:Array Li):Array Li:=(xs.extract 0<|if i<0 then(i+((xs.size:Nat):Int)).toNat else min i.toNat xs.size).push u++xs.extract (if i<0 then(i+((xs.size:Nat):Int)).toNat else min i.toNat xs.size)
def XQ:xL X "list.insert" rH:=by
 intro ak s σ H x vs v us Q I B C h;let⟨l,xs,i,y,rfl,rfl,m,o,hz,q⟩:=h;cases B;let⟨u1,b,rfl,⟨t,rfl⟩,u⟩:=C.two;let⟨z,its,n,r,p,e⟩:=I.lstM m;let hsz:its.toArray.size<=sizeLine:=by rw[Ys];lia
 let a:¬(!Builtin.List.listFitsIndex (i:Int))=true:=by
  let d:(i:Int)<2^63:=by
   let A:i<sizeLine:=Yp o hz;let w:sizeLine<=2^62:=by rw[sizeLine_eq];decide
   let h3:i<2^62:=Yf A w;lia
  let c:-(2^63)<=(i:Int):=by lia
  unfold Builtin.List.listFitsIndex;rw[Yo d,Yo c];decide
 generalize ej:(i:Int)=j at a ⊢;refine V6 { cls:=.type "list",dict:=none,data:=.seq its.toArray n,slots := #[] } (vT j b) ⟨_,e,Z⟩ (@PySem.AutoSeq1.list_insert_list_int_val_1 l its.toArray n j t b a hsz) e ?_;refine⟨.non,_,I.lset (f:=vT j b) (its':=its.take i++b::its.drop i) m e ?_ ?_ ?_,Z,q⟩
 ·let k:i<=its.length:=by rw[<- p];exact o
  unfold vT;rw[Yh ⋯,<- ej,Y1,Ys,Nat.min_eq_left k];apply Array.ext';simp;rw[List.take_of_length_le (l:=its.drop i)<|by simp]
 ·exact(r.take i).append (.cons u<|r.drop i)
 ·rw[Y6,Y5,List.length_take,List.length_drop];lia
end
section
def fN(i j:Int):Prop:=i.natAbs<2^20000/\j.natAbs<2^20000
def oB:eS X (binaryOp .Mult) (rI fN λi j=>.int<|i*j):=rM λ_ _ _ _ _ _ _ a q=>mul_int q<|PySem.IntMulOk.of_bits (Yr (intBits_le a.1) ∅)<|Yr (intBits_le a.2) ∅
def RS(h:bM k A):A.units+70<cLine:=by have:=h.un;lia
end
section
open TS
def nU(c':Lh)(qual:Lq):HO:=.ext λh=>h.CodeRec (.ref c') qual
def Tb(P:Lh)(lp:Pos)(qual:Lq)(H:Hp):Prop:=H P=some (.tbl #[])\/∃c',c'≠P/\H P=some (.tbl #[rawInt lp.line,rawInt lp.col,.ref c'])/\H c'=some (nU c' qual)
def z0x{X:Cx}(r:h.CodeRec (.ref c') qual):bN X.prog X.w H h c' (nU c' qual):=by
 refine⟨r,?_,λh1 h2 q k=>?_⟩
 ·let⟨c,o,vs,t,e,g,_⟩:=r;cases e;exact⟨o,g⟩
 ·let⟨c,o,vs,t,e,g,r⟩:=q;cases e;exact⟨c',o,vs,t,Z,k _ g,r⟩
section
variable{X:Cx}{ak:La}{σ:St}{H:Hp}{s:Lk}{x:Lq}{ys:Lf}{yvs:Lg}{qual:Lq}{scope:Scope}{q c':Lh}{clos:List (Lq×Lh)}{A:Around}{u:Li}{xv:V}
def VD(I:aK X ak σ H s)(M:A.frames=some X.stack)(J:A.handled=none)(N:scope.kind=.function)(O:scope.names.lookup x=some .local)(T:∀y∈ys,scope.names.lookup y=some .free)(K:∀z,(scope.names.lookup z=some .cell\/scope.names.lookup z=some .free)->z∈ys) (k:∀z d,clos.lookup z=some d->X.env.cells.lookup z=some d) (n:∀y∈ys,∃d,clos.lookup y=some d) (G:yvs.length=ys.length)(P:∀(i:Nat) y v,ys[i]?=some y->yvs[i]?=some v->∃c r,X.env.cells.lookup y=some c/\s.heap.IsCell c (some r)/\aS v r) (Q:aS xv u)(C:h₁.Ns s.heap.objs.size (λz=>[(x,u)].reverse.lookup z)) (j:∀b o,s.heap.get? b=some o->h₁.get? b=some o):aK (DT X (x::ys) qual scope q c' clos A s H) [] (some xv::yvs.map some) H {s with heap:=h₁,toks:=tk }:=by
 let l:∀{c:Lh} {w:Option Li},s.heap.IsCell c w->h₁.IsCell c w:=λB=>let ⟨o,e,d⟩:=B;⟨o,j _ _ e,d⟩;refine⟨⟨I.ok.mod,N,Z,Z,Yi _,λz z' d m a=>I.ok.inj _ _ _ (k _ _ m)<|k _ _ a,λz hz=>?_,λz d S _=>absurd (show false=true from S) Yt,λ_=>J,Around.frames_deeper M,.inr ⟨Z,Z⟩,λb z=>(nomatch z),I.bs,Yr I.ok.bsz I.sz,λb _ _ z=>(nomatch z),λb z=>(nomatch z),I.stack,I.stkFree⟩,
  rfl,I.bare,Un.kept j,⟨_,C,λi z v m a h3=>?_⟩,λz d h=>?_,I.hok.fresh<|Yi _,λz d h=>I.freeC z d<|k _ _ h,λp R=>(nomatch R),I.hok.kept j,?_⟩
 ·exact n z<|K z hz
 ·match i,m,a with
  | 0,m,a=>
   cases m;cases a;exact⟨u,Q,.inl ⟨O,by show List.lookup x [(x,u)]=some u;rw[Jm];simp⟩⟩
  | i+1,m,a=>
   let m:ys[i]?=some z:=m;let a:(yvs.map some)[i]?=some (some v):=a;rw[Ym]at a;cases e:yvs[i]? with
   | none=>rw[e]at a;cases a
   | some v'=>
    rw[e]at a;injection a with a
    injection a with a
    subst a;let⟨c,r,W,U,L⟩:=P i z v' m e;let D:=Yx m;let⟨d,E⟩:=n z D;have:d=c:=Jg<|(k _ _ E).symm.trans W;subst this;exact⟨r,L,.inr ⟨.inr<|T z D,d,E,l U⟩⟩
 ·let⟨v,h⟩:=I.cell z d<|k _ _ h;exact⟨v,l h⟩
 ·show (some xv::yvs.map some).length=(x::ys).length;simp[G]
def W7(I:aK X ak σ H s)(a:(q,W.kla_obj "<lambda>" qual params body scope clos pm c' ctv)∈ak)(G:H c'=some (nU c' qual))(S:A.frames=some X.stack) (P:A.handled=none) (U:A.depth<recursionLimit) (L:scope.kind=.function) (p:scope.isCoroutine=false) (l:scope.isGenerator=false)(k:∀x∈scope.names,x.2≠.cell) (M:scope.names.lookup x=some .local) (hy:∀y∈ys,scope.names.lookup y=some .free) (O:∀z,(scope.names.lookup z=some .cell\/scope.names.lookup z=some .free)->z∈ys)(hb:∀u,bindArgs (W.kla_fn "<lambda>" qual params body scope clos pm (.ref c') ctv) ⟨[u],[]⟩=pure [(x,u)])(B:∀z d,clos.lookup z=some d->X.env.cells.lookup z=some d) (C:∀y∈ys,∃d,clos.lookup y=some d) (N:yvs.length=ys.length)(E:∀(i:Nat) y v,ys[i]?=some y->yvs[i]?=some v->∃c uy,X.env.cells.lookup y=some c/\s.heap.IsCell c (some uy)/\aS v uy) (rx:aS xv u)(n:PE (DT X (x::ys) qual scope q c' clos A s H) body t) (h:t (some xv::yvs.map some) H Q):wpAny (model X.prog X.w) A (call (.ref q) [u]) (EP X ak σ Q) (λ_ _=>False) s:=by
 let e1:=(I.pin _<|Yg _ a).1;let T:s.heap.CodeRec (.ref c') qual:=(I.hok c' _ G).1;refine wpAny_call<|codeAny_mono (R:=CR dG X.stack X.prog X.w H s Q E0) (W.kla_callFunE U e1 rfl p l rfl T ?_) λr s' a=>?_
 ·rw[hb u];refine Yb<|wpAny_newFunctionEnv k (λz hz=>?_) (λm K D=>?_) L
  ·obtain rfl:=Yq.mp hz;exact M
  ·let j:∀b o,s.heap.get? b=some o->m.get? b=some o:=λb o e=>D.extBut b o (Y0<|Yn e)<|Ye _ e;exists I.nolimit.keeps j;show codeAny _ _ (.expr body<|W.envX qual scope s.heap.objs.size q (.ref c') clos) _ _;refine W.kla_codeExpr<|wpAny_mono (n _ _ H Q (VD I S P L M hy O B C N E rx K j) h) (λv s' E=>?_) λ_ _ z=>Jf z;let⟨w,H',J,rw,Y⟩:=E;exact⟨w,H',J.os,J.bare,J.base,J.hok,rw,Y⟩
 ·match r,a with
  | .error e,a=>exact Jf a
  | .ok (.ret u),a=>exact I.after a
  | .ok .next,a=>exact Jf a
  | .ok .brk,a=>exact Jf a
  | .ok .cont,a=>exact Jf a
def ZC(I:aK X ak σ H s)(j:X.env.code=.ref cc)(C:W.CodeHd X.base cc P)(i:Tb P pos (X.env.qual ++"<lambda>") H) (hB:X.base.BuiltinsAt X.mg P) (M:closureFor scope X.env=pure clos) (l:defaultsOf params X.env=([],[]))(h:∀q c' a s' k,(∀b o,H b=some o->b≠P->k b=some o)->k P=some (.tbl #[rawInt pos.line,rawInt pos.col,.ref c'])->k c'=some (nU c'<|X.env.qual ++"<lambda>")->c'≠P ->
   aK X ((q,W.kla_obj "<lambda>" (X.env.qual ++"<lambda>") params body scope clos ((X.mg "__name__").getD .none) c' a)::ak) σ k s'->Qv (.ref q) s'):
  wpAny (model X.prog X.w) A (eval (.Lambda params body scope pos) X.env) Qv E s:=by
 let hg:=I.mod.glob.keeps I.bk;let K:s.heap.BuiltinsAt X.mg P:=let ⟨bm,ob,b1,b2,b3,b4,b5,r⟩:=hB;⟨bm,ob,b1,b2,b3,b4,I.bk _ _ b5,r⟩;rcases i with i | ⟨c',cP,i,U⟩
 ·let N:s.heap.get? P=some (W.tabObj #[]):=I.hok P _ i;let Y:mainGlobals≠P:=λz=>by let⟨o,es,ep,e,hd,_⟩:=hg;rw[z,N]at e;cases e;cases hd
  refine W.kla_eval l<|W.kla_makeFunction (ps := #[]) M I.ok.glob hg j (C.keeps I.bk) N trivial rfl Y K λc' a h' D O m hlt J G=>?_;let T:P<s.heap.objs.size:=Yn N;let p:c'≠P:=Nat.ne_of_gt<|Yf T m;let R:H c'=none:=I.hok.fresh m;let bP:∀b,H b=none->b≠P:=λb n z=>by subst z;rw[i]at n;cases n
  let bc:∀b o,s.heap.get? b=some o->b≠c':=λb o e=>Y0<|Yf (Yn e) m;let k:(Hp):=upd (upd H P<|.tbl #[rawInt pos.line,rawInt pos.col,.ref c']) c'<|nU c'<|X.env.qual ++"<lambda>";let B:∀b o,H b=some o->b≠P->k b=some o:=λb o c nb=>(aV<|eE c R).trans ((aV nb).trans c);let un:Un (lA X.stack) [] H k s.heap h':=
   ⟨λb o e n _ _=>O b o (bP b n) e,λb o e n _ _=>⟨o.slots,O b o (bP b n) e⟩,λb o e n _=>(aV<|bc b o e).trans ((aV<|bP b n).trans n),
    λb o e _=>by
     by_cases c:b=P
     ·subst c;exact⟨_,G⟩
     ·exact⟨_,O b o c e⟩,
    λb xs e=>B _ _ e<|eM e i (by intro z;cases z),λb o u e=>B _ _ e<|eM e i (by intro z;cases z),
    λb ps e=>by
     by_cases c:b=P
     ·subst c;rw[i]at e;cases e;exact⟨#[rawInt pos.line,rawInt pos.col,.ref c'],(aV<|Jc p).trans (by rw[aW];simp)⟩
     ·exact⟨#[],by rw[B _ _ e c];simp⟩⟩
  let L:fV X.prog X.w k h':=λb u e=>by
   by_cases hbc:b=c'
   ·subst hbc;let y:(upd (upd H P<|.tbl #[rawInt pos.line,rawInt pos.col,.ref b]) b<|nU b<|X.env.qual ++"<lambda>") b=some u:=e;rw[aW]at y;cases y;exact z0x J
   ·let y:upd H P (.tbl #[rawInt pos.line,rawInt pos.col,.ref c']) b=some u:=(aV hbc).symm.trans e;by_cases c:b=P
    ·subst c;rw[aW]at y;cases y;exact G
    ·rw[aV c]at y;refine(I.hok b u y).stay (λd v a0 r=>O d v ?_ r) (λd r=>B _ _ r<|eM r i<|by intro z;cases z) λd xs r=>B _ _ r<|eM r i (by intro z;cases z);rcases a0 with rfl | r
     ·exact c
     ·exact eM r i (by intro z;cases z)
  let S:aK X ak σ k {s with heap:=h',toks:=D }:=I.call (g':=s.gens) (d':=s.drawn) (t':=D) (ch:=[]) un L I.bare<|λb z=>absurd z (by simp);let Q:=S.pinNew (t':=D) (ob:=W.kla_obj "<lambda>" (X.env.qual ++"<lambda>") params body scope clos ((X.mg "__name__").getD .none) c' a) Z (by intro v z;cases z);exact h _ c' a _ k B ((aV<|Jc p).trans aW) aW p Q
 ·let N:s.heap.get? P=some (W.tabObj #[rawInt pos.line,rawInt pos.col,.ref c']):=I.hok P _ i;refine W.kla_eval l<|W.kla_makeFunctionHit (cv:=.ref c') M I.ok.glob hg j (C.keeps I.bk) N trivial ?_ K λa h' D hk hsz=>?_
  ·show codeAmong pos [rawInt pos.line,rawInt pos.col,.ref c']=some (.ref c');simp[codeAmong,rawInt]
  let S:aK X ak σ H {s with heap:=h',toks:=D }:=I.kept hk;let Q:=S.pinNew (t':=D) (ob:=W.kla_obj "<lambda>" (X.env.qual ++"<lambda>") params body scope clos ((X.mg "__name__").getD .none) c' a) Z (by intro v z;cases z);exact h _ c' a _ H (λ_ _ c _=>c) i U cP Q
end
end
section
open TS
theorem JS:∀{l:List (Lq×Lh)},l.lookup z=some d->(z,d)∈l
 | [],h=>by cases h
 | (a,b)::l,h=>by
  rw[Jm]at h;split at h
  ·rename_i e;cases h;rw[Jy e];exact .head _
  ·exact .tail _<|JS h
theorem KM:∀{l:List (Lq×Lh)},(z,d)∈l->∃d',l.lookup z=some d'
 | (a,b)::l,h=>by
  rw[Jm];by_cases e:z=a
  ·exact⟨b,by simp[e]⟩
  ·let c:(z==a)=false:=by simpa using e
   rw[c];rcases Yj.mp h with q | q
   ·cases q;exact absurd Z e
   ·exact KM q
theorem CN:∀{l} {m},Paired R l m->(∀p∈l.zip m,R p.1 p.2)/\∀a∈l,∃b,(a,b)∈l.zip m
 | _,_,.nil=>⟨λp h=>(by cases h),λa h=>(by cases h)⟩
 | _,_,.cons r t=>by
  let⟨d,c⟩:=CN t;refine⟨λp h=>?_,λa h=>?_⟩
  ·rcases Yj.mp h with rfl | h
   ·exact r
   ·exact d p h
  ·rcases Yj.mp h with rfl | h
   ·exact⟨_,.head _⟩
   ·let⟨b,e⟩:=c a h;exact⟨b,.tail _ e⟩
theorem M4:∀{l},(∀a∈l,∃b,R a b)->∃m,Paired R l m
 | [],_=>⟨[],.nil⟩
 | a::l,h=>by let⟨b,e⟩:=h a<|.head _;let⟨m,c⟩:=M4 (l:=l) λx d=>h x<|.tail _ d;exact⟨b::m,.cons e c⟩
theorem EW{R:α->β->Prop}{S:α->γ->Prop}:∀{l} {m} {n},Paired R l m->Paired S l n->m.length=n.length/\∀(i:Nat) b c,m[i]?=some b->n[i]?=some c->∃a,R a b/\S a c
 | _,_,_,.nil,.nil=>⟨rfl,λi b c h=>by simp at h⟩
 | _,_,_,.cons r t,.cons r' t'=>by
  let⟨j,k⟩:=EW t t';refine⟨by simp[j],λi b c e d=>?_⟩;cases i with
  | zero=>cases e;cases d;exact⟨_,r,r'⟩
  | succ i=>exact k i b c e d
def YT(b:scope.names=[(x,.local),(y,.free),(g,.globalImplicit)])(a:Le)(h:Paired (λy c=>env.cells.lookup y=some c) [y] a):closureFor scope env=pure (([y]:Lf).zip a).reverse:=by
 cases h with
 | cons h1 t=>
  cases t;unfold closureFor;rw[b];simp[cellOf,h1]
end
section
open TS
def z27(K:Lj)(P:Lh)(lp:Pos)(qual:Lq)(is:List Nat)(tb te:TE):TE:=λσ H Q=>te σ H λv H1=>∃l all yvs,v=.ref l/\H1 l=some (.lst all)/\Paired (λi v=>σ[i]?=some (some v)) is yvs/\Tb P lp qual H1 /\
 ∀c' H2,(∀b o,H1 b=some o->b≠P->H2 b=some o)->H2 P=some (.tbl #[rawInt lp.line,rawInt lp.col,.ref c'])->H2 c'=some (nU c' qual)->c'≠P->iM (λx H Q=>H c'=some (nU c' qual)/\tb (some x::yvs.map some) H Q) all [] H2 (uS K false all λout H'=>∀D,H' D=none->Q (.ref D) (upd H' D<|.lst out))
section
variable{X:Cx}{j:Nat}{is:List Nat}{p pos kpos lp:Pos}{e body:Lo}{te tb:TE}{P cc:Lh}{params:Arguments}{scope:Scope}{x:Lq}{ys:Lf}
def UT(he:PE X e te)(hr:bM j X.A)(hm:X.mg ("sorted":Lq)=none)(B:X.env.code=.ref cc)(C:W.CodeHd X.base cc P)(hB:X.base.BuiltinsAt X.mg P)(hx:scope.names.lookup x=some .local) (hy:∀y∈ys,scope.names.lookup y=some .free) (ho:∀z,(scope.names.lookup z=some .cell\/scope.names.lookup z=some .free)->z∈ys) (E:∀x∈scope.names,x.2≠.cell)(hk:scope.kind=.function) (a7:scope.isCoroutine=false) (T:scope.isGenerator=false) (U:defaultsOf params X.env=([],[]))(hb:∀qual clos pm cv S u,bindArgs (W.kla_fn "<lambda>" qual params body scope clos pm cv S) ⟨[u],[]⟩=pure [(x,u)])(O:∀r:Le,Paired (λy c=>X.env.cells.lookup y=some c) ys r->closureFor scope X.env=pure (ys.zip r).reverse)(hN:Paired (λi y=>X.N[i]?=some y/\X.env.scope.names.lookup y=some .cell) is ys)(a0:∀(q n:Lh) (clos:List (Lq×Lh)) (s:Lk) (H:Hp),PE (DT X (x::ys) (X.env.qual ++"<lambda>") scope q n clos X.A.in1.in1 s H) body tb)(b2:↑↑(1+1<=j)) (a5:↑(Gl X "sorted")) (hs:↑(starEach [e] X.env=(false,eval e X.env)::starEach [] X.env)):PE X (.Call (.Name "sorted" p) [e] [⟨some "key",.Lambda params body scope lp,kpos⟩] pos) (z27 X.K P lp (X.env.qual ++"<lambda>") is tb te):=by
 intro ak s σ H Q I h;refine wpAny_Call_Name_kw<|nZ I a5 hm boot_sorted ?_;let h':lJ te hC σ H (λvs H1=>match vs with
   | [v]=>∃(l:Lh) (all:Lg) (m:Lg),v=.ref l/\H1 l=some (.lst all)/\Paired (λi v=>σ[i]?=some (some v)) is m/\Tb P lp (X.env.qual ++"<lambda>") H1 /\
     ∀n L,(∀b o,H1 b=some o->b≠P->L b=some o)->L P=some (.tbl #[rawInt lp.line,rawInt lp.col,.ref n])->L n=some (nU n<|X.env.qual ++"<lambda>")->n≠P->iM (λx H Q=>H n=some (nU n<|X.env.qual ++"<lambda>")/\tb (some x::m.map some) H Q) all [] L (uS X.K false all λout H'=>∀D,H' D=none->Q (.ref D) (upd H' D<|.lst out))
   | _=>False):=h
 refine callWith_kw (bC ((aL he aU hs) ak s σ H _ I h') λus s1 a2=>?_) (by rw[hs];rfl) (by rw[hs];rfl);let⟨vs,H1,I1,r1,q1⟩:=a2;cases r1 with
 | nil=>exact Jf q1
 | cons ru rr=>
  cases rr with
  | cons _ _=>exact Jf q1
  | nil=>
   let⟨l,all,m,ev,eh,Y,J,a1⟩:=q1;subst ev;cases ru;let look:∀{a:La} {H4:Hp} {s4:Lk},aK X a σ H4 s4->∀(i:Nat) y v,ys[i]?=some y->m[i]?=some v->∃c uy,X.env.cells.lookup y=some c/\s4.heap.IsCell c (some uy)/\aS v uy:=fun{a H4 s4} R i y v h1 h2=>by
    let⟨k,⟨n1,n2⟩,n3⟩:=(EW hN Y).2 i y v h1 h2;let⟨m4,hns4,w⟩:=R.loc;let⟨uy,ry,G⟩:=w k y v n1 n3<|.inr<|.inl n2;rcases G with⟨z,_⟩ | ⟨_,c,h3,h4⟩
    ·let z':X.env.scope.names.lookup y=some .local:=z;rw[n2]at z';cases z'
    ·exact⟨c,uy,h3,h4,ry⟩
   let ll:m.length=ys.length:=(EW hN Y).1.symm;let a6:∃r,Paired (λy c=>X.env.cells.lookup y=some c) ys r:=M4 λy hy=>by
    let⟨i,hi⟩:=Je.mp hy;let li:i<m.length:=by
     rw[ll];rcases Jh i ys.length with z | z
     ·exact z
     ·rw[Yy z]at hi;cases hi
    let⟨c,_,h3,_⟩:=look I1 i y _ hi<|Yc li;exact⟨c,h3⟩
   let⟨r,M⟩:=a6;let⟨z1,z2⟩:=CN M;let b0:∀z d,((ys.zip r).reverse).lookup z=some d->X.env.cells.lookup z=some d:=λz d h=>z1 _<|List.mem_reverse.mp<|JS h;let b1:∀y∈ys,∃d,((ys.zip r).reverse).lookup y=some d:=λy hy=>by let⟨c,hc⟩:=z2 y hy;exact KM<|List.mem_reverse.mpr hc
   refine kwAll_cons<|ZC I1 B C J hB (O r M) U λq n S s' L k2 a8 b3 cP I2=>kwAll_nil ?_;let b5:=k2 _ _ eh (by
    rcases J with J | ⟨_,_,J,_⟩
    ·exact eM eh J (by intro z;cases z)
    ·exact eM eh J<|by intro z;cases z)
   refine bC (NO (ksk_s1 _ _) (λx=>ksk_l1 _ _) (λx=>ksk_t1 _ x) (sp:=λx H Q=>H n=some (nU n<|X.env.qual ++"<lambda>")/\tb (some x::m.map some) H Q) ?_ I2 b5<|a1 n L k2 a8 b3 cP) λu s5 ⟨v,H5,I5,r5,q5⟩=>⟨v,H5,I5,r5,q5⟩;intro a s4 H4 Q4 x4 u4 R a3 b4 ⟨a4,h4⟩;let a9:X.A.in1.in1.frames=some X.stack:=R.ok.frames;exact W7 R (a3 _<|.head _) a4 a9 hr.hd (bM.in1 (k:=0)<|bM.in1 (k:=1)<|hr.mono b2).depth hk a7 T E hx hy ho (hb _ _ _ _ _) b0 b1 ll (look R) b4 (a0 _ _ _ _ _) h4
end
end
end L2
set_option Elab.async false
/- strict -/
/- ind2 -/
set_option linter.all false
set_option maxRecDepth 100000
namespace L2
open PySem PySem.Spec PyProof.Rows
section
variable{X:Cx}{k j:Nat}{C:Lh}{ps:Lf}{sp:Sp}{x y z m:Lq}{p p2 p3 pos apos:Pos}{e o:Lo}{es:List Lo}{ta te:TE}{t:TA}
def bS(c:AU X.prog X.w X.K X.mg X.base dG k x ps [] sp)(i:bM j X.A)(h:PA X (e::es) t)(n:↑↑(k<=j))(l:↑(Gl X x))
  (a:↑↑((x==("__debug__":Lq))=false)) (d:↑(starEach (e::es) X.env=(false,eval e X.env)::starEach es X.env)) (b:↑((backTo pos<|starEach es X.env).any (·.1)=false)):
  PE X (.Call (.Name x p) (e::es) [] pos) (yK sp [] (λ_=>E0) t):=AB c i eW .nil h n l a d b
def bR(i:Nat)(l:X.N.Nodup)(a:PE X e te)(d:↑(X.N[i]?=some x))(h:wD X.env.scope x:=by first | exact Or.inl rfl | exact Or.inr rfl)(b:↑(swapsWith e (some<|.Name x p) pos.line X.env=pure false))(c:X.fn x=true\/X.env.scope.names.lookup x=some .local:=by first | exact .inl rfl | exact .inr rfl | assumption):PS X (.Assign [.Name x p] e pos) (oV te<|bD i):=z1i l d h a b c
def cO(i k:Nat)(c:PE X (.Name x p) (eZ i):=by exact pv _)(b:PE X (.Name y p2) (eZ k):=by exact pv _)(d:↑(starEach [.Name x p,.Name y p2] X.env=(false,eval (.Name x p) X.env)::starEach [.Name y p2] X.env))(a:↑(starEach [.Name y p2] X.env=(false,eval (.Name y p2) X.env)::starEach [] X.env)):PA X [.Name x p,.Name y p2] (lJ (eZ i)<|lJ (eZ k) hC):=aL c (aL b aU a) d
def aP(i:Nat)(b:PE X (.Name x p) (eZ i):=by exact pv _)(a:↑(starEach [.Name x p] X.env=(false,eval (.Name x p) X.env)::starEach [] X.env)):PA X [.Name x p] (lJ (eZ i) hC):=aL b aU a
def nQ(i k l:Nat)(a:PE X (.Name x p) (eZ i):=by exact pv _)(b:PA X [.Name y p2,.Name z p3] (lJ (eZ k)<|lJ (eZ l) hC):=by exact cO _ _)(c:↑(starEach [.Name x p,.Name y p2,.Name z p3] X.env=(false,eval (.Name x p) X.env)::starEach [.Name y p2,.Name z p3] X.env)):PA X [.Name x p,.Name y p2,.Name z p3] (lJ (eZ i)<|lJ (eZ k)<|lJ (eZ l) hC):=aL a b c
variable{K:Lj}{a b:Lo}{tb:TE}{op:CmpOp}{r:R2}{N:Lf}{scope:Scope}
def bA(i:eS X (compareOp op) r)(d:PE X a ta)(h:PE X b tb)(c:behindInMarks op b=false:=by exact pW _):PT X (.Compare a [op] [b] pos) (IE<|tD r ta tb):=UI i d h c
def kR(i:eS X (compareOp op) r)(d:PE X a ta)(h:PE X b tb)(c:behindInMarks op b=false:=by exact pW _):PE X (.Compare a [op] [b] pos) (tD r ta tb):=TZ i d h c
def cX(K:Lj)(d:PE X a ta)(i:PE X b tb)(h:↑(X.K=K))(c:jV b:=by exact λ_ _=>Z):PE X (.Subscript a b pos) (tD (lZ K) ta tb):=by subst h;exact sK yL d i c
def gW(K:Lj)(d:PE X a ta)(i:PE X b tb)(h:↑(X.K=K))(c:jV b:=by exact λ_ _=>Z):PE X (.Subscript a b pos) (tD (rF K) ta tb):=by subst h;exact sK E2 d i c
def eQ(i:Nat)(l:X.N.Nodup)(d:↑(X.N[i]?=some x))(h:wD X.env.scope x:=by first | exact Or.inl rfl | exact Or.inr rfl)(c:X.fn x=true\/X.env.scope.names.lookup x=some .local:=by first | exact .inl rfl | exact .inr rfl | assumption):PG X (.Name x pos) (bD i):=wV l d h c
def gE{d c:Lo}{body:List Ln}{h:TI}{g:TG}{tb:TS}(u:PI X d c h)(n:PG X d g)(s:lE X body tb)(i:↑(X.calm=true))(l:PassesOwn (model X.prog X.w) X.A X.env X.xe:=by exact PassesOwn.never)(q:∀x,foldedSetIterable c X.env x=pure x:=by intro _;rfl):PS X (.For d c body [] pos) (oU h g tb):=z2e l i u n s q
def iQ(K:Lj)(d:X.mg ("len":Lq)=none)(i:PA X (e::es) t)(l:↑(X.K=K))(n:↑(Gl X "len"))(h:↑(starEach (e::es) X.env=(false,eval e X.env)::starEach es X.env))(c:↑((backTo pos<|starEach es X.env).any (·.1)=false)):PE X (.Call (.Name "len" p) (e::es) [] pos) (xH (nJ K) t):=gU (ZB l) n d PySem.boot_len i ∅ ∅ h c
def mJ(K:Lj)(d:X.mg ("tuple":Lq)=none)(i:PA X (e::es) t)(l:↑(X.K=K))(n:↑(Gl X "tuple"))(h:↑(starEach (e::es) X.env=(false,eval e X.env)::starEach es X.env))(c:↑((backTo pos<|starEach es X.env).any (·.1)=false)):PE X (.Call (.Name "tuple" p) (e::es) [] pos) (xH (kP K) t):=oT (zlx l) n d (by kernel_rfl) i ∅ ∅ h c
def eK.pl(i:N.Nodup)(l:∀y∈scope.names,y.2≠.free:=by decide +kernel)(d:∀y∈scope.names,y.2≠.cell:=by decide +kernel)(c:↑(scope.kind=.function))(h:∀y∈scope.names,y.2=.local->scope.names.lookup y.1=some .local:=by decide +kernel):eK X N scope [] (N.map λ_=>none):=eK.plain l d c h i
end
end L2
namespace K1
section
def gI(a b:Int):Int:=((Int.gcd a b:Nat):Int)
def XW(a b:Int):0<=gI a b:=Int.natCast_nonneg _
def oO(h:b≠0):0<gI a b:=by have:0<Int.gcd a b:=Int.gcd_pos_of_ne_zero_right a h;unfold gI;lia
def L4(a b:Int):gI a b ∣ a:=Int.gcd_dvd_left a b
def B7(a b:Int):gI a b ∣ b:=Int.gcd_dvd_right a b
def IY(a:Int):gI a 1=1:=by unfold gI;simp
def TM(a:Int)(h:0<=a):gI a 0=a:=by unfold gI;rw[Int.gcd_zero_right];lia
def SL(ha:0<=a)(h:0<b):gI b (Int.fmod a b)=gI a b:=by
 unfold gI;congr 1;rw[Int.fmod_eq_emod_of_nonneg a<|Int.le_of_lt h];show Nat.gcd b.natAbs (a%b).natAbs=Nat.gcd a.natAbs b.natAbs;let e:(a%b).natAbs=a.natAbs%b.natAbs:=by
  let d:a=(a.natAbs:Int):=by lia
  let c:b=(b.natAbs:Int):=by lia
  conv=>lhs;rw[d,c]
  rw[<- Int.natCast_emod];exact Int.natAbs_natCast _
 rw[e,Nat.gcd_comm a.natAbs,Nat.gcd_rec b.natAbs a.natAbs,Nat.gcd_comm]
structure Gc(a0 b0 a b:Int):Prop where
 is:gI a b=gI a0 b0
def start(c:0<=a)(d:0<=b):0<=a/\0<=b/\Gc a b a b:=⟨c,d,⟨Z⟩⟩
def turn(h:Gc a0 b0 a b)(d:0<=a)(c:0<b):0<=b/\0<=Int.fmod a b/\Gc a0 b0 b (Int.fmod a b):=
 ⟨⋯,Int.fmod_nonneg_of_pos a c,⟨(SL d c).trans h.is⟩⟩
def less(c:0<b):(Int.fmod a b).toNat<b.toNat:=by have:=Int.fmod_lt_of_pos a c;have:=Int.fmod_nonneg_of_pos a c;lia
def out(h:Gc a0 b0 a b)(c:0<=a)(d:b=0):a=gI a0 b0:=by rw[<- h.is,d,TM a c]
def JY(a b:Int):gI (if a<0 then -a else a) (if b<0 then -b else b)=gI a b:=by
 unfold gI;congr 1;have h (x:Int):(if x<0 then -x else x).natAbs=x.natAbs:=by split <;> lia
 show Nat.gcd _ _=Nat.gcd _ _;rw[h,h]
def nL(hd:d≠0)(h:gI (d*q1) (d*q2)=d\/gI (d*q1) (d*q2)=-d):gI q1 q2=1:=by
 unfold gI at h ⊢;rw[Int.gcd_mul_left]at h;let h0:(d.natAbs*Int.gcd q1 q2:Nat)=d.natAbs:=by rcases h with h | h <;> lia
 have:Int.gcd q1 q2=1:=by
  let a:0<d.natAbs:=by lia
  exact Nat.eq_of_mul_eq_mul_left a ⋯
 rw[this];rfl
end
section
def dv(t b:Int):Int:=if b<0 then -(gI t b) else gI t b
def fT(t b:Int):Int:=t.fdiv<|dv t b
def fB(t b:Int):Int:=b.fdiv<|dv t b
def D5(t b:Int):(dv t b).natAbs=Int.gcd t b:=by unfold dv gI;split <;> lia
def wM(h:b≠0):dv t b≠0:=by have:=oO (a:=t) h;unfold dv;split <;> lia
def z3a(h:b≠0):(dv t b).natAbs<=b.natAbs:=by rw[D5];exact Nat.le_of_dvd ⋯ (Nat.gcd_dvd_right _ _)
def N1{n:Nat}(h:d.natAbs=n)(a:(n:Int) ∣ x):d ∣ x:=by rw[<- Int.natAbs_dvd,h];exact a
def ex(h:b≠0):∃c d,t=dv t b*c/\b=dv t b*d/\fT t b=c/\fB t b=d:=by
 let⟨c,e1⟩:=N1 (D5 t b)<|Int.gcd_dvd_left t b;let⟨d,e⟩:=N1 (D5 t b)<|Int.gcd_dvd_right t b;exists c,d,e1,e,?_
 ·unfold fT;have:=Int.mul_fdiv_cancel_left (a:=dv t b) c<|wM h;rw[<- e1]at this;exact this
 ·unfold fB;have:=Int.mul_fdiv_cancel_left (a:=dv t b) d<|wM h;rw[<- e]at this;exact this
def D4(h:b≠0):1<=fB t b:=by
 let⟨q1,d,_,e,_,i⟩:=ex (t:=t) h;rw[i];let hp:=oO (a:=t) h;rcases(by lia:d<=0\/1<=d) with q | q
 ·exfalso;by_cases hb:b<0
  ·let c:dv t b=-(gI t b):=by unfold dv;rw[Yl hb]
   rw[c]at e;have:=Int.mul_nonneg_of_nonpos_of_nonpos (show -(gI t b)<=0 by lia) q;lia
  ·let c:dv t b=gI t b:=by unfold dv;rw[Yh hb]
   rw[c]at e;have:=Int.mul_nonpos_of_nonneg_of_nonpos (show 0<=gI t b by lia) q;lia
 ·exact q
def EU(h:b≠0):fT t b*b=t*fB t b:=by
 let⟨q1,q2,e1,d,c,a⟩:=ex (t:=t) h;rw[c,a]
 conv=>lhs;rw[d]
 conv=>rhs;rw[e1]
 rw[Int.mul_assoc,Int.mul_left_comm]
def DU(h:b≠0):gI (fT t b) (fB t b)=1:=by
 let⟨q1,q2,e1,e,c,a⟩:=ex (t:=t) h;rw[c,a];refine nL (d:=dv t b) (wM h) ?_;rw[<- e1,<- e];unfold dv;split
 ·right;lia
 ·left;rfl
def A5(t:Int):fT t 1=t/\fB t 1=1:=by
 let e:dv t 1=1:=by unfold dv;rw[Yh ∅,IY]
 unfold fT fB;rw[e];exact⟨Int.fdiv_one t,∅⟩
def zY{d q x:Int}(hd:d≠0)(e:x=d*q):q.natAbs<=x.natAbs:=by rw[e,Int.natAbs_mul];exact Nat.le_mul_of_pos_left _ ⋯
def z3b(h:b≠0):(fT t b).natAbs<=t.natAbs:=by let⟨q1,q2,e1,e2,a,f2⟩:=ex (t:=t) h;rw[a];exact zY (wM h) e1
def z3c(h:b≠0):(fB t b).natAbs<=b.natAbs:=by let⟨q1,q2,e1,c,f1,a⟩:=ex (t:=t) h;rw[a];exact zY (wM h) c
end
section
def iN:gI a b=1↔Nat.Coprime a.natAbs b.natAbs:=by unfold gI Nat.Coprime;show ((Nat.gcd a.natAbs b.natAbs:Nat):Int)=1↔_;lia
def qT(h:gI a b=1):gI b a=1:=iN.mpr (iN.mp h).symm
def BP(h:gI a b=1)(h':gI a c=1):gI a (b*c)=1:=by rw[iN]at *;rw[Int.natAbs_mul];exact Nat.Coprime.mul_right h h'
def BW(h:gI a c=1)(h':gI b c=1):gI (a*b) c=1:=qT<|BP (qT h)<|qT h'
def xR(d:a' ∣ a)(h:gI a b=1):gI a' b=1:=by rw[iN]at *;exact Nat.Coprime.coprime_dvd_left (Int.natAbs_dvd_natAbs.mpr d) h
def AZ(d:b' ∣ b)(h:gI a b=1):gI a b'=1:=qT<|xR d<|qT h
def JN(h:gI a b=1):gI (a+b*k) b=1:=by
 unfold gI at *;have:Int.gcd (a+b*k) b=Int.gcd a b:=by simp
 rw[this];exact h
def B5(j:b≠0):∃c e,a=gI a b*c/\b=gI a b*e/\gI c e=1:=by let⟨c,h⟩:=L4 a b;let⟨e,i⟩:=B7 a b;let hp:=oO (a:=a) j;refine⟨c,e,h,i,nL (d:=gI a b) ⋯ (.inl ?_)⟩;rw[<- h,<- i]
def CJ(h:gI a b=1)(d:a ∣ b*c):a ∣ c:=by rw[iN]at h;have:=Int.natAbs_dvd_natAbs.mpr d;rw[Int.natAbs_mul]at this;exact Int.natAbs_dvd_natAbs.mp<|Nat.Coprime.dvd_of_dvd_mul_left h this
def KN(hq:1<=q)(hq':1<=q')(c:gI p q=1)(d:gI p' q'=1)(e:p*q'=p'*q):p=p'/\q=q':=by let b:q ∣ q':=CJ (qT c) ⟨p',by rw[e,Int.mul_comm]⟩;let a:q' ∣ q:=CJ (qT d) ⟨p,by rw[<- e,Int.mul_comm]⟩;let e1:q=q':=Int.dvd_antisymm ⋯ ⋯ b a;subst e1;exact⟨Int.eq_of_mul_eq_mul_right ⋯ e,Z⟩
def JH(a:b≠0)(d:1<=q)(c:gI p q=1)(e:p*b=t*q):fT t b=p/\fB t b=q:=by
 refine KN (D4 a) d (DU a) c ?_;let h:=EU (t:=t) a;refine Int.eq_of_mul_eq_mul_right a ?_
 calc fT t b*q*b=fT t b*b*q:=by rw[Int.mul_right_comm]
  _=t*fB t b*q:=by rw[h]
  _=t*q*fB t b:=by rw[Int.mul_right_comm]
  _=p*b*fB t b:=by rw[e]
  _=p*fB t b*b:=by rw[Int.mul_right_comm]
def fd(h:d≠0):Int.fdiv (d*q) d=q:=Int.mul_fdiv_cancel_left q h
def ab(a:Int):Int:=if a<0 then -a else a
def z28(a b:Int):gI (ab a) b=gI a b:=by unfold gI ab;congr 1;show Nat.gcd _ _=Nat.gcd _ _;congr 1;split <;> lia
def pV{d q:Int}(hd:0<d)(h:1<=d*q):1<=q:=by
 rcases(by lia:q<=0\/1<=q) with g | g
 ·have:=Int.mul_nonpos_of_nonneg_of_nonpos (show 0<=d by lia) g;lia
 ·exact g
def YG(C:1<=y)(hw:1<=w)(c:gI x y=1)(E:gI z w=1):(Int.fdiv x (gI x w)*Int.fdiv z (gI z y))=fT (x*z) (y*w)/\Int.fdiv y (gI z y)*Int.fdiv w (gI x w)=fB (x*z) (y*w):=by
 let⟨d,e,ex,u,s⟩:=B5 (a:=x) (b:=w) ⋯;let⟨i,j,n,m,v⟩:=B5 (a:=z) (b:=y) ⋯;let B:=oO (a:=x) (b:=w) ⋯;let D:=oO (a:=z) (b:=y) ⋯;generalize gI x w=g at *;generalize gI z y=h at *;subst ex u n m;rw[fd ⋯,fd ⋯,fd ⋯,fd ⋯];let l:=pV D C;let k:=pV B hw;let r:h*j*(g*e)≠0:=by intro q;rcases Int.mul_eq_zero.mp q with q | q <;> lia
 let A:gI d j=1:=xR (Int.dvd_mul_left g d)<|AZ (Int.dvd_mul_left h j) c;let o:gI i e=1:=xR (Int.dvd_mul_left h i)<|AZ (Int.dvd_mul_left g e) E;have:=JH (t:=g*d*(h*i)) (p:=d*i) (q:=j*e) r (Int.mul_pos l k)
  (BP (BW A v)<|BW s o) (by grind)
 exact⟨this.1.symm,this.2.symm⟩
def WX{x y z w:Int}(M:1<=y)(hw:1<=w)(c:gI x y=1)(J:gI z w=1):let g:=gI y w;let T:=x*Int.fdiv w g+z*Int.fdiv y g;let f:=gI T g
  Int.fdiv T f=fT (x*w+z*y) (y*w)/\Int.fdiv y g*Int.fdiv w f=fB (x*w+z*y) (y*w):=by
 intro g T f;let⟨e,d,A,C,B⟩:=B5 (a:=y) (b:=w) ⋯;let r:=oO (a:=y) (b:=w) ⋯;let E:0<f:=oO ⋯;let⟨h,v,i,j,K⟩:=B5 (a:=T) (b:=g) ⋯;let L:g=gI y w:=rfl;let k:T=x*Int.fdiv w g+z*Int.fdiv y g:=rfl;let l:f=gI T g:=rfl;rw[<- l]at i j;rw[<- L]at A C r
 clear_value g T f
 subst A C;rw[fd ⋯,fd ⋯]at k;let o:=pV r M;let u:=pV r hw;let s:gI T e=1:=by rw[k,Int.mul_comm z e];exact JN<|BW (AZ (Int.dvd_mul_left g e) c)<|qT B
 let n:gI T d=1:=by rw[k,Int.add_comm,Int.mul_comm x d];exact JN<|BW (AZ (Int.dvd_mul_left g d) J) B
 let m:1<=v:=pV E ⋯;let D:h ∣ T:=⟨f,by rw[i,Int.mul_comm]⟩;let e1:Int.fdiv T f=h:=by rw[i,fd ⋯]
 let H:Int.fdiv (g*d) f=v*d:=by rw[j,Int.mul_assoc,fd ⋯]
 let I:Int.fdiv (g*e) g=e:=fd ⋯;rw[e1,H,I];let G:g*e*(g*d)≠0:=by intro q;rcases Int.mul_eq_zero.mp q with q | q <;> lia
 have:=JH (t:=x*(g*d)+z*(g*e)) (p:=h) (q:=e*(v*d)) G (Int.mul_pos o<|Int.mul_pos m u)
  (BP (xR D s)<|BP K<|xR D n) (by
   have:x*d+z*e=f*h:=by rw[<- k];exact i
   let q:x*(g*d)+z*(g*e)=g*(f*h):=by rw[<- this];grind
   rw[q]
   conv=>lhs;rw[j]
   conv=>rhs;rw[j]
   grind)
 exact⟨this.1.symm,this.2.symm⟩
def DH(h:d ∣ a)(b:d≠0):(Int.fdiv a d).natAbs<=a.natAbs:=by let⟨q,rfl⟩:=h;rw[fd b,Int.natAbs_mul];exact Nat.le_mul_of_pos_left _ ⋯
end
end K1
namespace K3
structure jH(n d:Int):Prop where
 is:∀e:Int,2<=e->e<d->Int.fmod n e≠0
def Pr(n:Int):Prop:=2<=n/\∀e,2<=e->e*e<=n->Int.fmod n e≠0
noncomputable def qK(n:Int):Bool := @decide (Pr n) (Classical.propDecidable _)
def DJ(h:Pr n):qK n=true := @Yo _ (Classical.propDecidable _) h
def DK(h:¬Pr n):qK n=false := @Yw _ (Classical.propDecidable _) h
def uC{d n:Int}(_h2:2<=d)(h:d*d<=n)(hn:n<=9973):d<=99:=by
 rcases(by lia:d<=99\/100<=d) with e | e
 ·exact e
 ·have:=Int.mul_le_mul e e ∅ ⋯;lia
def start(n:Int):(2:Int)<=2/\(2:Int)<=101/\jH n 2:=⟨∅,∅,⟨λe h1 h2=>⋯⟩⟩
def turn(h:jH n d)(a:¬Int.fmod n d=0)(c:2<=d)(b:d*d<=n)(j:n<=9973):2<=d+1/\d+1<=101/\jH n (d+1):=by
 let s:=uC c b j;refine⟨⋯,⋯,⟨λe i h3=>?_⟩⟩;rcases(by lia:e<d\/e=d) with q | q
 ·exact h.is e i q
 ·rw[q];exact a
def less{n d:Int}(b:2<=d)(a:d*d<=n)(c:n<=9973):(200-(d+1)).toNat<(200-d).toNat:=by let s:=uC b a c;lia
def low(h:n<2):false=qK n:=by exact(DK λh'=>by have:=h'.1;lia).symm
def out(h:jH n d)(b:2<=n)(h2:2<=d)(hq:¬d*d<=n):true=qK n:=by
 refine(DJ ?_).symm;refine⟨b,λe a h3=>h.is e a ?_⟩;rcases(by lia:e<d\/d<=e) with q | q
 ·exact q
 ·have:=Int.mul_le_mul q q ⋯ ⋯;lia
def jE(b:2<=d)(a:d*d<=n)(c:Int.fmod n d=0):false=qK n:=by exact(DK λh'=>h'.2 d b a c).symm
end K3
namespace K2
def z2k(c:K3.Pr p)(h1:1<l)(h2:l<p):Int.fmod p l≠0:=by
 intro h0;rw[Int.fmod_eq_emod_of_nonneg p ⋯]at h0;let d:p=l*(p / l):=by have:=Int.mul_ediv_add_emod p l;lia
 let hq1:1<p / l:=by
  rcases(by lia:p / l<=1\/1<p / l) with q | q
  ·have:=Y3 q (by lia:0<=l);lia
  ·exact q
 rcases(by lia:l*l<=p\/p<l*l) with q | q
 ·refine c.2 l ⋯ q ?_;rw[Int.fmod_eq_emod_of_nonneg p ⋯];exact h0
 ·let a:p / l<l:=by
   rcases(by lia:p / l<l\/l<=p / l) with r | r
   ·exact r
   ·have:=Y3 r (by lia:0<=l);lia
  let b:(p / l)*(p / l)<=p:=by let h:=Int.mul_le_mul_of_nonneg_right (Int.le_of_lt a) (by lia:0<=p / l);lia
  refine c.2 (p / l) ⋯ b ?_;rw[Int.fmod_eq_emod_of_nonneg p ⋯];apply Int.emod_eq_zero_of_dvd;exact⟨l,by rw[Int.mul_comm];exact d⟩
structure Tn(p a jE left:Int):Prop where
 f0:0<=jE
 f1:jE<p
 l0:1<=left
 l1:left<p
 eq:(jE*a-left)%p=0
def MS(c:K3.Pr p)(h0:0<a)(b:a<p):Tn p a 1 a:=
 ⟨∅,by have:=c.1;lia,⋯,b,by rw[Int.one_mul,Int.sub_self];exact Int.zero_emod p⟩
def LC(b:K3.Pr p)(h:Tn p a f l)(hl:l≠1):Tn p a (Int.fmod (-f*Int.fdiv p l) p) (Int.fmod p l):=by
 let p2:=b.1;let l0:=h.l0;let hne:=z2k b (by lia:1<l) h.l1;let j:=h.eq;let hpos:=Int.fmod_nonneg_of_pos p (show 0<l by lia);let hlt:=Int.fmod_lt_of_pos p (show 0<l by lia);refine⟨Int.fmod_nonneg_of_pos _ ⋯,Int.fmod_lt_of_pos _ ⋯,⋯,by have:=h.l1;lia,?_⟩;let q:=Int.mul_fdiv_add_fmod p l;generalize Int.fdiv p l=d at *;generalize Int.fmod p l=r at *;rw[Int.fmod_eq_emod_of_nonneg _ ⋯];apply Int.emod_eq_zero_of_dvd;let⟨k,hk⟩:=Int.dvd_of_emod_eq_zero j;let m:=Int.mul_ediv_add_emod (-f*d) p;generalize (-f*d) / p=g at *;generalize (-f*d)%p=v at *;let e:v=-f*d-p*g:=by lia
 exists -(g*a)-d*k-1;rw[e];let c:f*a=l+p*k:=by lia
 let e1:(-f*d-p*g)*a=-(d*(f*a))-p*(g*a):=by
  rw[Int.sub_mul];have:-f*d*a=-(d*(f*a)):=by rw[Int.neg_mul,Int.neg_mul,Int.mul_comm f d,Int.mul_assoc]
  rw[this,Int.mul_assoc]
 rw[e1,c,Int.mul_add d l<|p*k,Int.mul_comm d l];let i:d*(p*k)=p*(d*k):=by rw[<- Int.mul_assoc,Int.mul_comm d p,Int.mul_assoc]
 rw[i,Int.mul_sub,Int.mul_sub,Int.mul_one,Int.mul_neg];lia
def LI(h:Tn p a f l):(Int.fmod p l).toNat<l.toNat:=by let l0:=h.l0;let hpos:=Int.fmod_nonneg_of_pos p (show 0<l by lia);let hlt:=Int.fmod_lt_of_pos p (show 0<l by lia);lia
def IQ(h:Tn p a f l)(b:l=1):0<=f/\f<p/\(f*a-1)%p=0:=by exists h.f0,h.f1;have:=h.eq;rw[b]at this;exact this
end K2
namespace K6
section
open HT (lexLt)
theorem qS:∀x,lexLt x x=false
 | []=>rfl
 | a::x=>by rw[HT.lexLt_cons,Yl Z];exact qS x
theorem uU:∀{x y z},lexLt x y=true->lexLt y z=true->lexLt x z=true
 | [],[],_,h,_=>by cases h
 | [],_::_,[],_,h=>by cases h
 | [],_::_,_::_,_,_=>rfl
 | _::_,[],_,h,_=>by cases h
 | _::_,_::_,[],_,h=>by cases h
 | a::x,b::y,c::z,h1,h2=>by
  rw[HT.lexLt_cons]at h1 h2 ⊢;by_cases e1:a=b
  ·rw[Yl e1]at h1;by_cases e2:b=c
   ·rw[Yl e2]at h2;rw[Yl<|e1.trans e2];exact uU h1 h2
   ·rw[Yh e2]at h2;rw[Yh ⋯,e1];exact h2
  ·rw[Yh e1]at h1;let l1:a<b:=Jk h1;by_cases e2:b=c
   ·rw[Yl e2]at h2;rw[Yh ⋯];exact Yo ⋯
   ·rw[Yh e2]at h2;let l2:b<c:=Jk h2;rw[Yh ⋯];exact Yo ⋯
theorem vA:∀{x y},x≠y->lexLt x y = !lexLt y x
 | [],[],h=>absurd rfl h
 | [],_::_,_=>rfl
 | _::_,[],_=>rfl
 | a::x,b::y,h=>by
  rw[HT.lexLt_cons,HT.lexLt_cons];by_cases e:a=b
  ·rw[Yl e,Yl e.symm];exact vA λz=>h (by rw[e,z])
  ·rw[Yh e,Yh<|Jc e];by_cases l:a<b
   ·rw[Yo l,Yw ⋯];rfl
   ·rw[Yw l,Yo ⋯];rfl
def S8(h:lexLt x y=true):lexLt y x=false:=by
 by_cases e:x=y
 ·rw[e,qS]at h;cases h
 ·have:=vA e;rw[h]at this;cases q:lexLt y x with
  | true=>rw[q]at this;cases this
  | false=>rfl
abbrev cU(x y:Lc):Lc:=List.zipWith (λa b=>a+b) x y
theorem JR:∀{x y z},x.length=z.length->y.length=z.length->lexLt (cU x z) (cU y z)=lexLt x y
 | [],[],_,_,_=>by simp[cU]
 | _::_,[],[],h,_=>by simp at h
 | [],_::_,[],_,h=>by simp at h
 | _::_,[],_::_,_,h=>by simp at h
 | [],_::_,_::_,h,_=>by simp at h
 | _::_,_::_,[],h,_=>by simp at h
 | a::x,b::y,c::z,h1,h2=>by
  let d:=JR (x:=x) (y:=y) (z:=z) ‹h1› ‹h2›;simp only[cU,List.zipWith_cons_cons,HT.lexLt_cons]at d ⊢;by_cases e:a=b
  ·rw[Yl ⋯,Yl e];exact d
  ·rw[Yh ⋯,Yh e];by_cases l:a<b
   ·rw[Yo l,Yo ⋯]
   ·rw[Yw l,Yw ⋯]
def uE(t:Lc):Lc:=t
def uF(t:Lc):Lc:=t.sum::t
def rC(t:Lc):Lc:=t.sum::t.reverse.map λx => -x
def dJ(ws t:Lc):Int:=(List.zipWith (λa b=>a*b) t ws).sum
def uD(ws t:Lc):Lc:=dJ ws t::t
def zer(n:Nat):Lc:=List.replicate n 0
def Nn(t:Lc):Prop:=∀x∈t,0<=x
theorem FJ:∀{a c},a.length=c.length->(cU a c).sum=a.sum+c.sum
 | [],[],_=>rfl
 | _::_,[],h=>by simp at h
 | [],_::_,h=>by simp at h
 | x::a,y::c,h=>by let b:=FJ (a:=a) (c:=c) ‹h›;simp only[cU,List.zipWith_cons_cons,List.sum_cons]at b ⊢;lia
theorem LU:∀{ws a c},a.length=c.length->dJ ws (cU a c)=dJ ws a+dJ ws c
 | _,[],[],_=>by simp[dJ,cU]
 | _,_::_,[],h=>by simp at h
 | _,[],_::_,h=>by simp at h
 | [],x::a,y::c,h=>by simp[dJ,cU]
 | w::ws,x::a,y::c,h=>by let b:=LU (ws:=ws) (a:=a) (c:=c) ‹h›;simp only[dJ,cU,List.zipWith_cons_cons,List.sum_cons]at b ⊢;rw[b,Int.add_mul];lia
theorem K5:∀{a c},(cU a c).map (λx => -x)=cU (a.map λx => -x) (c.map λx => -x)
 | [],_=>by simp[cU]
 | _::_,[]=>by simp[cU]
 | x::a,y::c=>by let b:=K5 (a:=a) (c:=c);simp only[cU,List.zipWith_cons_cons,List.map_cons]at b ⊢;rw[b];congr 1;lia
structure eJ(rk:Lc->Lc)(n:Nat):Prop where
 add:∀a c:Lc,a.length=n->c.length=n->rk (cU a c)=cU (rk a) (rk c)
 inj:∀a b:Lc,a.length=n->b.length=n->rk a=rk b->a=b
 len:∀a b:Lc,a.length=n->b.length=n->(rk a).length=(rk b).length
 pos:∀a:Lc,a.length=n->Nn a->a≠zer n->lexLt (rk<|zer n) (rk a)=true
def oR(n:Nat):(zer n).length=n:=List.length_replicate
theorem uX:∀{a},Nn a->0<=a.sum
 | [],_=>Int.le_refl 0
 | x::a,h=>by let h1:=h x<|.head _;let h2:=uX (a:=a) λy b=>h y<|.tail _ b;rw[List.sum_cons];lia
theorem ER:∀n,(zer n).sum=0
 | 0=>rfl
 | n+1=>by show ((0:Int)::zer n).sum=0;rw[List.sum_cons,ER n];rfl
theorem FF:∀{a},Nn a->a≠zer a.length->0<a.sum
 | [],_,h=>absurd rfl h
 | x::a,h,hne=>by
  let h1:=h x<|.head _;let b:Nn a:=λy c=>h y<|.tail _ c;let h2:=uX b;rw[List.sum_cons];by_cases e:x=0
  ·have:=FF (a:=a) b λz=>hne (by show x::a=0::zer a.length;rw[e,<- z])
   lia
  ·lia
theorem E3:∀{a},Nn a->a≠zer a.length->lexLt (zer a.length) a=true
 | [],_,h=>absurd rfl h
 | x::a,h,hne=>by
  let h1:=h x<|.head _;show lexLt (0::zer a.length) (x::a)=true;rw[HT.lexLt_cons];by_cases e:0=x
  ·rw[Yl e];exact E3 (λy b=>h y<|.tail _ b) λz=>hne (by show x::a=0::zer a.length;rw[<- e,<- z])
  ·rw[Yh e];exact Yo ⋯
def G1(n:Nat):eJ uE n:=⟨λ_ _ _ _=>Z,λ_ _ _ _ h=>h,λ_ _ b c=>b.trans c.symm,λa b c d=>by subst b;exact E3 c d⟩
def G2(n:Nat):eJ uF n:=by
 refine⟨λa c d e=>?_,λa b _ _ h=>?_,λa b d e=>?_,λa d e i=>?_⟩
 ·show (cU a c).sum::cU a c=(a.sum+c.sum)::cU a c;rw[FJ<|d.trans e.symm]
 ·injection h
 ·show (a.length+1)=b.length+1;rw[d,e]
 ·subst d;show lexLt ((zer a.length).sum::_) (a.sum::_)=true;rw[HT.lexLt_cons,ER];have:=FF e i;rw[Yh ⋯];exact Yo this
def G0(n:Nat):eJ rC n:=by
 refine⟨λa c i d=>?_,λa b _ _ h=>?_,λa b i d=>?_,λa i d j=>?_⟩
 ·show (cU a c).sum::((cU a c).reverse.map λx => -x)=(a.sum+c.sum)::cU (a.reverse.map λx => -x) (c.reverse.map λx => -x);rw[FJ<|i.trans d.symm,<- K5];congr 2;exact List.reverse_zipWith<|i.trans d.symm
 ·let h':a.reverse.map (λx => -x)=b.reverse.map (λx => -x):=by injection h
  let e:∀l:Lc,(l.map λx => -x).map (λx => -x)=l:=λl=>by
   rw[Ji]
   conv=>rhs;rw[<- List.map_id l]
   refine List.map_congr_left λx _=>?_;show - -x=x;lia
  let d:=Jx (List.map λx => -x) h';rw[e,e]at d;exact List.reverse_inj.mp d
 ·simp[rC,i,d]
 ·subst i;show lexLt ((zer a.length).sum::_) (a.sum::_)=true;rw[HT.lexLt_cons,ER];have:=FF d j;rw[Yh ⋯];exact Yo this
theorem EZ:∀{ws a},Nn ws->Nn a->0<=dJ ws a
 | _,[],_,_=>by simp[dJ]
 | [],_::_,_,_=>by simp[dJ]
 | w::ws,x::a,h1,h2=>by let c:=EZ (ws:=ws) (a:=a) (λy b=>h1 y<|.tail _ b) λy b=>h2 y<|.tail _ b;have:=Int.mul_nonneg (h2 x<|.head _)<|h1 w<|.head _;simp only[dJ,List.zipWith_cons_cons,List.sum_cons]at c ⊢;lia
theorem MI:∀ws n,dJ ws (zer n)=0
 | _,0=>by simp[dJ,zer]
 | [],n+1=>by simp[dJ]
 | w::ws,n+1=>by let c:=MI ws n;show (0*w::List.zipWith (λa b=>a*b) (zer n) ws).sum=0;rw[List.sum_cons];unfold dJ at c;rw[c];simp
def GZ(hw:Nn ws)(n:Nat):eJ (uD ws) n:=by
 refine⟨λa c i d=>?_,λa b _ _ h=>?_,λa b i d=>?_,λa i d j=>?_⟩
 ·show dJ ws (cU a c)::cU a c=(dJ ws a+dJ ws c)::cU a c;rw[LU<|i.trans d.symm]
 ·injection h
 ·show (a.length+1)=b.length+1;rw[i,d]
 ·subst i;show lexLt (dJ ws (zer a.length)::zer a.length) (dJ ws a::a)=true;rw[HT.lexLt_cons,MI];have:=EZ hw d;by_cases e:0=dJ ws a
  ·rw[Yl e];exact E3 d j
  ·rw[Yh e];exact Yo ⋯
def only(n at_:Nat)(p:Int):Lc:=(List.range n).map λi=>if i=at_ then p else 0
def only_len(n a:Nat)(p:Int):(only n a p).length=n:=by simp[only]
def only_get(n a:Nat)(p:Int)(i:Nat):(only n a p).getD i 0=if i<n/\i=a then p else 0:=by
 unfold only;rw[List.getD_eq_getElem?_getD,Ym];by_cases h:i<n
 ·rw[List.getElem?_range h];by_cases e:i=a
  ·subst e;simp[h]
  ·simp[e]
 ·rw[Yy<|by simpa using h];simp[h]
end
section
open L2 PySem
def OJ{α r:Type}(f:α->r):∀{l m},l.Perm m->∀c,m=c.map f->∃l':List α,l'.Perm c/\l=l'.map f:=by
 intro l m h;induction h with
 | nil=>intro c e;exact⟨[],(by cases c with | nil=>exact .nil | cons=>simp at e),rfl⟩
 | cons x _ ih=>
  intro c e;cases c with
  | nil=>simp at e
  | cons y c=>
   rw[Yz]at e;injection e with e1 e2
   let⟨l',p,q⟩:=ih c e2;exact⟨y::l',p.cons y,by rw[q,e1];rfl⟩
 | swap x y l=>
  intro c e;cases c with
  | nil=>simp at e
  | cons a c=>
   cases c with
   | nil=>simp at e
   | cons b c=>
    simp only[List.map_cons]at e;injection e with e1 e2
    injection e2 with e2 e3
    exact⟨b::a::c,List.Perm.swap a b c,by rw[e1,e2,e3];rfl⟩
 | trans _ _ ih1 ih2=>
  intro c e;let⟨j,i,k⟩:=ih2 c e;let⟨o,n,d⟩:=ih1 j k;exact⟨o,n.trans i,d⟩
theorem F2{α b a:Type}(f:α->a):∀(xs:List α) (ys:List b),(xs.map f).zip ys=(xs.zip ys).map λp=>(f p.1,p.2)
 | [],_=>by simp
 | _::_,[]=>by simp
 | x::xs,y::ys=>by simp[F2 f xs ys]
def fX(H:Hp)(xs:Lc)(v:V):Prop:=∃r,v=.ref r/\H r=some (.tup<|xs.map V.int)
def fX.same(e:aJ H H')(h:fX H xs v):fX H' xs v:=let ⟨r,a,b⟩:=h;⟨r,a,e _ _ b⟩
theorem bH{R S:α->V->Prop}(h:∀a v,R a v->S a v):∀{l} {ys},Paired R l ys->Paired S l ys
 | _,_,.nil=>.nil
 | _,_,.cons r t=>.cons (h _ _ r)<|bH h t
theorem gG{R:α->V->Prop}{a:α}(r:R a v):∀{l} {ys},Paired R l ys->Paired R (l++[a]) (ys++[v])
 | _,_,.nil=>.cons r .nil
 | _,_,.cons q t=>.cons q<|gG r t
end
section
open L2 PySem
def ky(xs:Lc):List eT:=xs.map Sum.inl
def hZ(xs:Lc):(ky xs).map kV=xs.map V.int:=by unfold ky;rw[Ji];rfl
structure AL(d:PyData):Prop where
 lay:d.canLay0=true
 dep:d.depth<=60
def AL.shaped(h:AL d):SeqAt.shaped d=true:=by have:=h.dep;unfold SeqAt.shaped;rw[h.lay,Bool.true_and,decide_eq_true_eq];lia
def R9(i:Int):AL (.int i):=⟨Z,by simp[PyData.depth]⟩
def XG(i j:Int):AL (.tuple [.int i,.int j]):=⟨Z,by simp[PyData.depth,PyData.depthAll]⟩
mutual
theorem fU.same(e:aJ H H'):∀{v} {d},fU K H v d->fU K H' v d
 | _,_,.non=>.non
 | _,_,.bl b=>.bl b
 | _,_,.int i=>.int i
 | _,_,.str x=>.str x
 | _,_,.tup h hs=>.tup (e.seqT h)<|bQ.same e hs
 | _,_,.lst h hs=>.lst (e.seq h)<|bQ.same e hs
theorem bQ.same(e:aJ H H'):∀{vs} {ds},bQ K H vs ds->bQ K H' vs ds
 | _,_,.nil=>.nil
 | _,_,.cons h hs=>.cons (fU.same e h)<|bQ.same e hs
end
def WE(e:H d=some (.dT ap))(h:aY K H a xs):aY K (upd H d o) a xs:=by
 rcases h with(h | ⟨q,h⟩) | h
 ·exact .inl<|.inl (by rw[aV<|eM h e<|by intro z;cases z];exact h)
 ·exact .inl<|.inr ⟨q,by rw[aV<|eM h e<|by intro z;cases z];exact h⟩
 ·exact .inr h
def W1(e:H d=some (.dT ap))(h:aQ K H a xs):aQ K (upd H d o) a xs:=by
 rcases h with(h | ⟨q,h⟩) | h
 ·exact .inl<|.inl (by rw[aV<|eM h e<|by intro z;cases z];exact h)
 ·exact .inl<|.inr ⟨q,by rw[aV<|eM h e<|by intro z;cases z];exact h⟩
 ·exact .inr h
mutual
theorem fU.updD(e:H d=some (.dT ap)):∀{v} {z},fU K H v z->fU K (upd H d o) v z
 | _,_,.non=>.non
 | _,_,.bl b=>.bl b
 | _,_,.int i=>.int i
 | _,_,.str x=>.str x
 | _,_,.tup h hs=>.tup (WE e h)<|bQ.updD e hs
 | _,_,.lst h hs=>.lst (W1 e h)<|bQ.updD e hs
theorem bQ.updD(e:H d=some (.dT ap)):∀{vs} {ds},bQ K H vs ds->bQ K (upd H d o) vs ds
 | _,_,.nil=>.nil
 | _,_,.cons h hs=>.cons (fU.updD e h)<|bQ.updD e hs
end
def U9(h:H r=some (.tup [.int i,.int j])):fU K H (.ref r) (.tuple [.int i,.int j]):=.tup (aY.of h)<|.cons (.int i)<|.cons (.int j) .nil
end
end K6
namespace K8
open L2 PySem K1 K2 K3 K6
def zr(n T:Int):Prop:=if n=0 then T=0 else T%n=0
instance KH(n T:Int):Decidable (zr n T):=by unfold zr;exact inferInstance
def lG:zr 0 T↔T=0:=by simp[zr]
def qN(h:n≠0):zr n T↔T%n=0:=by simp[zr,h]
def wN(h:Pr n):n≠0:=by have:=h.1;lia
def z07(hy:1<=y)(c:gI x y=1)(a:B≠0)(e:x*B=T*y):x.natAbs<=T.natAbs/\y.natAbs<=B.natAbs:=by
 exists ?_
 ·by_cases t:T=0
  ·subst t;rw[Int.zero_mul]at e;rcases Int.mul_eq_zero.mp e with q | q
   ·rw[q];simp
   ·exact absurd q a
  ·let d:x ∣ y*T:=⟨B,by rw[Int.mul_comm,<- e]⟩;have:=Int.natAbs_dvd_natAbs.mpr<|CJ c d;exact Nat.le_of_dvd ⋯ this
 ·let d:y ∣ x*B:=⟨T,by rw[e,Int.mul_comm]⟩;have:=Int.natAbs_dvd_natAbs.mpr<|CJ (qT c) d;exact Nat.le_of_dvd ⋯ this
end K8
namespace K8
open L2 PySem K1 K2 K3 K6
def qV(h:ky a=ky b):a=b:=by unfold ky at h;exact(List.map_inj_right<|λx y e=>Sum.inl.inj e).mp h
def L7{k:List eT}:((bE ap k v).map (·.1))=if (bK ap k).isSome then ap.map (·.1) else ap.map (·.1)++[k]:=by
 unfold bE;rw[vG];cases h:(bK ap k).isSome with
 | true=>
  rw[Yl Z,Yl Z,Ji];refine List.map_congr_left λp _=>?_;show (if p.1=k then(p.1,v) else p).1=p.1;split <;> rfl
 | false=>rw[Yh ∅,Yh ∅,List.map_append];rfl
def fJ{k:List eT}:(bK ap k).isSome=true↔k∈ap.map (·.1):=by
 rw[<- vG,List.any_eq_true];constructor
 ·rintro⟨p,a,e⟩;exact Jj.mpr ⟨p,a,Jk e⟩
 ·intro h;let⟨p,a,e⟩:=Jj.mp h;exact⟨p,a,Yo e⟩
def XZ(ap:Ka)(k j:List eT):bK (kG ap k) j=if j=k then none else bK ap j:=by
 unfold kG;induction ap with
 | nil=>rw[List.filter_nil,WF];split <;> rfl
 | cons p r ih=>
  rw[List.filter_cons];by_cases e:p.1=k
  ·rw[Yh<|by simp[e],ih];by_cases q:j=k
   ·rw[Yl q,Yl q]
   ·rw[Yh q,Yh q,lO<|λz=>q<|z.symm.trans e]
  ·rw[Yl<|by simp[e]];by_cases z:p.1=j
   ·rw[mN z,mN z,Yh<|λq=>e<|z.trans q]
   ·rw[lO z,lO z,ih]
theorem MJ:∀{ap:Ka} (_:(ap.map (·.1)).Nodup) {i:Nat} {k} {v},ap[i]?=some (k,v)->bK ap k=some v
 | [],_,i,k,v,h=>by simp at h
 | p::r,hn,0,k,v,h=>by simp at h;subst h;exact mN rfl
 | p::r,hn,i+1,k,v,h=>by rw[List.getElem?_cons_succ]at h;rw[Yz,List.nodup_cons]at hn;have:¬p.1=k:=λe=>hn.1<|Jj.mpr ⟨(k,v),Yx h,e.symm⟩;rw[lO this];exact MJ hn.2 h
def sX{α:Type}{l:List α}{a:α}(h:l[i]?=some a):l.take (i+1)=l.take i++[a]:=by rw[List.take_add_one,h];rfl
def UX{α:Type}{l:List α}(d:l.Nodup){i:Nat}{a:α}(h:l[i]?=some a):a∉l.take i:=by intro c;let e:l.take (i+1)=l.take i++[a]:=sX h;let b:(l.take<|i+1).Nodup:=d.sublist<|List.take_sublist _ _;rw[e,List.nodup_append]at b;exact b.2.2 a c a (by simp) rfl
theorem NJ{α b:Type}{f:α->b}:∀{l:List α},(l.map f).Nodup->l.Nodup
 | [],_=>List.nodup_nil
 | a::l,h=>by rw[Yz,List.nodup_cons]at h;exact List.nodup_cons.mpr ⟨λz=>h.1<|Jj.mpr ⟨a,z,Z⟩,NJ h.2⟩
def z0t{k:List eT}(h:(ap.map (·.1)).Nodup):((bE ap k v).map (·.1)).Nodup:=by
 rw[L7];cases q:(bK ap k).isSome with
 | true=>exact h
 | false=>
  rw[Yh ∅,List.nodup_append];refine⟨h,by simp,λx b y a e=>?_⟩;rw[Yq]at a;have:=fJ.mpr (show k∈ap.map (·.1) by rw[<- a,<- e];exact b);rw[q]at this;cases this
end K8
namespace K37
open L2 PySem
def dP(xs ys:Lc):Bool:=(List.range xs.length).all λi=>decide<|xs.getD i 0<=ys.getD i 0
def bV:dP xs ys=true↔∀i,i<xs.length->xs.getD i 0<=ys.getD i 0:=by
 unfold dP;rw[List.all_eq_true];constructor
 ·intro h i a;have:=h i<|List.mem_range.mpr a;simpa using this
 ·intro h i a;have:=h i<|List.mem_range.mp a;simpa using this
def dL(hs:Lb)(t:Lc):Bool := !(hs.any λh=>dP h t)
def fH:dL hs t=true↔∀h∈hs,dP h t=false:=by unfold dL;rw[Bool.not_eq_true',List.any_eq_false];exact⟨λq h a=>by simpa using q h a,λq h a=>by simpa using q h a⟩
def mL(h:Lc)(i:Nat):Bool:=decide<|h.sum=h.getD i 0
structure T0(m:Nat)(t:Lc):Prop where
 len:t.length=m
 nn:∀i,0<=t.getD i 0
def T0.mem(h:T0 m t):∀x∈t,0<=x:=λx b=>by let⟨j,a,rfl⟩:=List.mem_iff_getElem.mp b;have:=h.nn j;simpa[List.getD,a]using this
def T0.of(a:t.length=m)(h:∀x∈t,0<=x):T0 m t:=⟨a,λi=>by
 rcases Jh i t.length with c | c
 ·have:=h t[i]<|Jw c;simpa[List.getD,c]using this
 ·simp[List.getD,List.getElem?_eq_none c]⟩
def dZ(t:Lc)(i:Nat):Lc:=(List.range t.length).map λj=>if j=i then t.getD j 0+1 else t.getD j 0
def BS:(dZ t i).length=t.length:=by simp[dZ]
def BD(a:j<t.length):(dZ t i).getD j 0=if j=i then t.getD j 0+1 else t.getD j 0:=by simp[dZ,List.getD,a]
def pY(t:Lc)(i:Nat):Lc:=(List.range t.length).map λj=>if j=i then t.getD j 0-1 else t.getD j 0
def sT:(pY t i).length=t.length:=by simp[pY]
def EA(a:j<t.length):(pY t i).getD j 0=if j=i then t.getD j 0-1 else t.getD j 0:=by simp[pY,List.getD,a]
def lN{a b:Lc}(d:a.length=b.length)(h:∀i,i<a.length->a.getD i 0=b.getD i 0):a=b:=by refine List.ext_getElem d λi c e=>?_;have:=h i c;simpa[List.getD,c,e]using this
def DN(_hi:i<t.length):dZ (pY t i) i=t:=by refine lN (by rw[BS,sT]) λj a=>?_;rw[BS,sT]at a;rw[BD<|by rw[sT];exact a,EA a];split <;> lia
def PK(f:Nat->Int):∀n,((List.range<|n+1).map f).sum=((List.range n).map f).sum+f n:=λn=>by rw[List.range_succ,List.map_append,List.sum_append];simp
def X2(t:Lc):t.sum=((List.range t.length).map λj=>t.getD j 0).sum:=by congr 1;refine List.ext_getElem (by simp) λi a h2=>?_;simp[List.getD,a]
theorem EI{c:Int}:∀n,((List.range n).map λj=>if j=i then f j+c else f j).sum=((List.range n).map f).sum+(if i<n then c else 0)
 | 0=>by simp
 | n+1=>by
  rw[PK,PK,EI n];by_cases c1:n=i
  ·subst c1;simp;lia
  ·rw[Yh c1];by_cases c2:i<n
   ·rw[Yl c2,Yl ⋯];lia
   ·rw[Yh c2,Yh ⋯];lia
def LD(a:i<t.length):(dZ t i).sum=t.sum+1:=by unfold dZ;rw[EI (f:=λj=>t.getD j 0) t.length,Yl a,<- X2]
def KL(a:i<t.length):(pY t i).sum=t.sum-1:=by have:=LD (t:=pY t i) (i:=i) (by rw[sT];exact a);rw[DN a]at this;lia
def IX(h:T0 m t):T0 m (dZ t i):=⟨by rw[BS,h.len],λj=>by
 rcases Jh j t.length with c | c
 ·rw[BD c];have:=h.nn j;split <;> lia
 ·simp[dZ,List.getD,List.getElem?_eq_none,c]⟩
def uX(h:T0 m t):0<=t.sum:=by
 have:∀l:Lc,(∀x∈l,0<=x)->0<=l.sum:=λl=>by
  induction l with
  | nil=>intro _;simp
  | cons x l ih=>intro h;rw[List.sum_cons];have:=h x (by simp);have:=ih λy a=>h y (by simp[a]);lia
 exact this t h.mem
def BO(h:T0 m t)(i:Nat):t.getD i 0<=t.sum:=by
 have:∀(l:Lc) (i:Nat),(∀x∈l,0<=x)->l.getD i 0<=l.sum/\0<=l.sum:=λl=>by
  induction l with
  | nil=>intro i _;simp
  | cons x l ih=>
   intro i h;let h0:=h x (by simp);let a:∀y∈l,0<=y:=λy b=>h y (by simp[b]);rw[List.sum_cons];cases i with
   | zero=>have:=ih 0 a;simp;lia
   | succ i=>have:=ih i a;simp only[List.getD_cons_succ];lia
 exact(this t i h.mem).1
def UU(hl:h.length=t.length)(g:dP h t=true):dP h (dZ t i)=true:=by rw[bV]at g ⊢;intro j a;have:=g j a;rw[BD ⋯];split <;> lia
def JQ(b:∀h∈hs,h.length=m)(lt:t.length=m)(o:dL hs (dZ t i)=true):dL hs t=true:=by
 rw[fH]at o ⊢;intro h a;have:=o h a;cases q:dP h t with
 | false=>rfl
 | true=>rw[UU (by rw[b h a,lt]) q]at this;cases this
structure uN(m:Nat)(hs:Lb)(n:Nat)(l:Lb):Prop where
 nd:l.Nodup
 mem:∀t,t∈l↔T0 m t/\t.sum=n/\dL hs t=true
structure xP(m:Nat)(hs:Lb)(n:Nat)(l:Lb):Prop where
 nd:l.Nodup
 mem:∀t,t∈l↔T0 m t/\t.sum<n/\dL hs t=true
def VS{k l us:Lb}(v:∀h∈k,h.length=m)(h:uN m k n l)(w:us.Nodup)(E:∀u,u∈us↔∃t∈l,∃i,i<m/\u=dZ t i):uN m k (n+1) (us.filter<|dL k):=by
 refine⟨w.filter _,λu=>?_⟩;rw[List.mem_filter,E];constructor
 ·rintro⟨⟨t,D,i,p,rfl⟩,o⟩;let⟨a,b,c⟩:=(h.mem t).mp D;exact⟨IX a,by rw[LD<|by rw[a.len];exact p,b];lia,o⟩
 ·rintro⟨a,b,o⟩;obtain⟨i,p,pi⟩:∃i,i<m/\1<=u.getD i 0:=by
   refine Classical.byContradiction λz=>?_;let d:∀x∈u,x=0:=λx C=>by
    let⟨j,s,rfl⟩:=List.mem_iff_getElem.mp C;let A:=a.nn j;let B:¬1<=u.getD j 0:=λq=>z ⟨j,by rw[<- a.len];exact s,q⟩;let e:u.getD j 0=u[j]:=by simp[List.getD,s]
    rw[e]at A B;lia
   have:∀l:Lc,(∀x∈l,x=0)->l.sum=0:=λl=>by
    induction l with
    | nil=>intro _;rfl
    | cons x l ih=>intro h;rw[List.sum_cons,h x<|by simp,ih λy G=>h y<|by simp[G]];rfl
   have:=this u d;lia
  let r:i<u.length:=by rw[a.len];exact p
  let e:=DN r;refine⟨⟨pY u i,(h.mem _).mpr ⟨⟨by rw[sT,a.len],λj=>?_⟩,by rw[KL r,b];lia,?_⟩,i,p,e.symm⟩,o⟩
  ·rcases Jh j u.length with c | c
   ·rw[EA c];have:=a.nn j;split
    ·rename_i z;subst z;lia
    ·exact this
   ·simp[pY,List.getD,List.getElem?_eq_none,c]
  ·exact JQ (i:=i) v (by rw[sT,a.len]) (by rw[e];exact o)
def V1(h:uN m hs n l)(d:xP m hs n f):xP m hs (n+1) (f++l):=by
 refine⟨List.nodup_append.mpr ⟨d.nd,h.nd,λa i b j e=>?_⟩,λt=>?_⟩
 ·subst e;have:=((d.mem a).mp i).2.1;have:=((h.mem a).mp j).2.1;lia
 ·rw[Jv,d.mem,h.mem];constructor
  ·rintro(⟨a,b,c⟩ | ⟨a,b,c⟩)
   ·exact⟨a,⋯,c⟩
   ·exact⟨a,⋯,c⟩
  ·rintro⟨a,b,c⟩;rcases(by lia:t.sum<(n:Int)\/(n:Int)<=t.sum) with q | q
   ·exact .inl ⟨a,q,c⟩
   ·exact .inr ⟨a,⋯,c⟩
def XB(p:h∈hs)(h0:T0 m h)(al:mL h i=true)(d:T0 m t)(o:dL hs t=true):t.getD i 0<h.getD i 0:=by
 refine Classical.byContradiction λz=>?_;let g:dP h t=true:=bV.mpr λj hj=>by
  by_cases c:j=i
  ·subst c;lia
  ·let e:h.sum=h.getD i 0:=Jk al;let nn:=h0.nn j;have:h.getD j 0+h.getD i 0<=h.sum:=by
    let two:∀(l:Lc) (a b:Nat),a≠b->(∀x∈l,0<=x)->l.getD a 0+l.getD b 0<=l.sum:=λl=>by
     induction l with
     | nil=>intro a b _ _;simp
     | cons x l ih=>
      intro a b ab k;let n:∀y∈l,0<=y:=λy q=>k y (by simp[q]);let h0:=k x (by simp);rw[List.sum_cons];let lt:=BO<|T0.of rfl n;cases a with
      | zero=>
       cases b with
       | zero=>exact absurd rfl ab
       | succ b=>have:=lt b;simp only[List.getD_cons_zero,List.getD_cons_succ];lia
      | succ a=>
       cases b with
       | zero=>have:=lt a;simp only[List.getD_cons_zero,List.getD_cons_succ];lia
       | succ b=>have:=ih a b ⋯ n;simp only[List.getD_cons_succ];lia
    exact two h j i c h0.mem
   have:t.getD j 0 ≥ 0:=d.nn j;lia
 have:=fH.mp o h p;rw[g]at this;cases this
def IT(h:T0 m t){B:Nat}(c:∀i,i<m->t.getD i 0<B):t.sum<=m*B:=by
 have:∀l:Lc,(∀x∈l,x<=B)->l.sum<=l.length*B:=λl=>by
  induction l with
  | nil=>intro _;simp
  | cons x l ih=>
   intro h;let h1:=h x (by simp);let h2:=ih λy b=>h y (by simp[b]);rw[List.sum_cons,Y5,Int.natCast_add,Int.add_mul];simp only[Int.natCast_one,Int.one_mul];lia
 let q:=this t λx d=>by
  let⟨j,a,rfl⟩:=List.mem_iff_getElem.mp d;have:=c j (by rw[<- h.len];exact a);let e:t.getD j 0=t[j]:=by simp[List.getD,a]
  lia
 rw[h.len]at q;exact q
def XL(lt:t.length=m)(hi:i<m):List.zipWith (· + ·) t (K6.only m i 1)=dZ t i:=by
 refine lN (by rw[List.length_zipWith,K6.only_len,BS,lt];lia) λj d=>?_;rw[List.length_zipWith,K6.only_len]at d;let a:j<t.length:=by lia
 let b:j<(K6.only m i 1).length:=by rw[K6.only_len];lia
 let e:=K6.only_get m i 1 j;let e1:(K6.only m i 1).getD j 0=(K6.only m i 1)[j]:=by simp[List.getD,b]
 rw[BD a];have:(List.zipWith (· + ·) t<|K6.only m i 1).getD j 0=t.getD j 0+(K6.only m i 1).getD j 0:=by simp[List.getD,List.getElem?_zipWith,a,b]
 rw[this,e];by_cases c:j=i
 ·rw[Yl ⟨⋯,c⟩,Yl c]
 ·rw[Yh<|λz=>c z.2,Yh c];lia
theorem KA{n:Nat}(r:∀h∈hs,h.length=m)(h:∀t,T0 m t->t.sum=n->dL hs t=true->False):∀(d:Nat) t,T0 m t->t.sum=(n:Int)+d->dL hs t=true->False
 | 0,t,a,b,o=>h t a ⋯ o
 | d+1,t,a,b,o=>by
  obtain⟨i,w,pi⟩:∃i,i<m/\1<=t.getD i 0:=by
   refine Classical.byContradiction λz=>?_;let k:∀x∈t,x=0:=λx A=>by
    let⟨j,s,rfl⟩:=List.mem_iff_getElem.mp A;let u:=a.nn j;let v:¬1<=t.getD j 0:=λq=>z ⟨j,by rw[<- a.len];exact s,q⟩;let e:t.getD j 0=t[j]:=by simp[List.getD,s]
    rw[e]at u v;lia
   have:∀l:Lc,(∀x∈l,x=0)->l.sum=0:=λl=>by
    induction l with
    | nil=>intro _;rfl
    | cons x l ih=>intro h;rw[List.sum_cons,h x<|by simp,ih λy B=>h y<|by simp[B]];rfl
   have:=this t k;lia
  let p:i<t.length:=by rw[a.len];exact w
  let e:=DN p;refine KA r h d (pY t i) ⟨by rw[sT,a.len],λj=>?_⟩ (by rw[KL p,b];lia)<|JQ (i:=i) r (by rw[sT,a.len]) (by rw[e];exact o);rcases Jh j t.length with c | c
  ·rw[EA c];have:=a.nn j;split
   ·rename_i z;subst z;lia
   ·exact this
  ·simp[pY,List.getD,c]
def T0.zero(m:Nat):T0 m (List.replicate m 0):=⟨List.length_replicate,λi=>by
 rcases Jh i m with c | c
 ·simp[List.getD,c]
 ·simp[List.getD,c]⟩
def zC(m:Nat):(List.replicate m (0:Int)).sum=0:=by
 induction m with
 | zero=>rfl
 | succ m ih=>rw[List.replicate_succ,List.sum_cons,ih];rfl
def S0(h:T0 m t)(e:t.sum=0):t=List.replicate m 0:=by
 refine lN (by rw[h.len,List.length_replicate]) λi hi=>?_;have:=BO h i;have:=h.nn i;let hz:(List.replicate m (0:Int)).getD i 0=0:=by
  rcases Jh i m with c | c
  ·simp[List.getD,c]
  ·simp[List.getD,c]
 lia
def G5:uN m hs 0 ([List.replicate m 0].filter (dL hs)):=by
 refine⟨(show [List.replicate m (0:Int)].Nodup by simp).filter _,λt=>?_⟩;rw[List.mem_filter,Yq];constructor
 ·rintro⟨rfl,o⟩;exact⟨T0.zero m,zC m,o⟩
 ·rintro⟨a,b,o⟩;exact⟨S0 a ⋯,o⟩
def G8:xP m hs 0 []:=⟨List.nodup_nil,λt=>by
 constructor
 ·intro h;cases h
 ·rintro⟨a,b,_⟩;have:=uX a;lia⟩
def SE(d:∀h∈hs,h.length=m)(h:uN m hs n [])(e:xP m hs n f)(t:Lc):t∈f↔T0 m t/\dL hs t=true:=by
 rw[e.mem];constructor
 ·rintro⟨a,_,c⟩;exact⟨a,c⟩
 ·rintro⟨a,c⟩;refine⟨a,?_,c⟩;refine Classical.byContradiction λz=>?_;exact KA d (λt a b o=>by have:=(h.mem t).mpr ⟨a,b,o⟩;cases this) (t.sum-n).toNat t a ⋯ c
def D3(h0:∀h∈hs,T0 m h/\∀i,h.getD i 0<=200)(al:∀i,i<m->hs.any (λh=>mL h i)=true){t:Lc}(a:T0 m t)(o:dL hs t=true):∀i,t.getD i 0<200\/(m<=i/\t.getD i 0=0):=λi=>by
 rcases Jh i m with c | c
 ·let⟨h,b,q⟩:=List.any_eq_true.mp<|al i c;have:=XB b (h0 h b).1 q a o;have:=(h0 h b).2 i;exact .inl ⋯
 ·exact .inr ⟨c,by simp[List.getD,List.getElem?_eq_none,a.len,c]⟩
end K37
namespace K37
open L2 PySem
theorem oG{α:Type}[DecidableEq α]:∀{l l':List α},l.Nodup->(∀a∈l,a∈l')->l.length<=l'.length
 | [],_,_,_=>by simp
 | a::l,l',nd,h=>by
  rw[List.nodup_cons]at nd;have:=oG (l:=l) (l':=l'.erase a) nd.2 λb d=>by let c:=h b (by simp[d]);exact(List.mem_erase_of_ne<|λe=>nd.1<|by rw[<- e];exact d).mpr c
  rw[List.length_erase_of_mem<|h a<|by simp]at this;have:0<l'.length:=List.length_pos_of_mem<|h a (by simp);rw[Y5];lia
end K37
namespace G
open L2 PySem K1 K2 K3 K6 K8
section
variable{F:Type}[Ta F]
def ic(k:Int):F:=(Lean.Grind.Ring.intCast (α:=F)).intCast k
def wT(a b:Int):ic (F:=F) (a+b)=ic a+ic b:=Lean.Grind.Ring.intCast_add a b
def dE(a b:Int):ic (F:=F) (a*b)=ic a*ic b:=Lean.Grind.Ring.intCast_mul a b
def EN(a:Int):ic (F:=F) (-a)=- ic a:=Lean.Grind.Ring.intCast_neg a
def EL(a b:Int):ic (F:=F) (a-b)=ic a-ic b:=Lean.Grind.Ring.intCast_sub a b
def gT:ic (F:=F) 0=0:=Lean.Grind.Ring.intCast_zero
def cT:ic (F:=F) 1=1:=Lean.Grind.Ring.intCast_one
end
def z1s(k:Int):ic (F:=Rat) k=0↔k=0:=by
 show ((k:Int):Rat)=0↔k=0;constructor
 ·intro h;exact Rat.intCast_inj.mp ‹h›
 ·intro h;subst h;rfl
class cM (n:Int) (F:Type) [Ta F]:Prop where
 z:∀k:Int,ic (F:=F) k=0↔zr n k
def oM(p:Int):Setoid Int where
 r:=λa b=>∃k,a=b+p*k
 iseqv:=⟨λa=>⟨0,by simp⟩,fun{a b} ⟨k,h⟩=>⟨-k,by rw[h,Int.mul_neg];lia⟩,fun{a b c} ⟨k,h⟩ ⟨j,h'⟩=>⟨k+j,by rw[h,h',Int.mul_add];lia⟩⟩
def Zq(p:Int):Type:=Quotient<|oM p
namespace Zq
variable{p:Int}
def mk(a:Int):Zq p:=Quotient.mk (oM p) a
def snd(h:∃k,a=b+p*k):(mk a:Zq p)=mk b:=Quotient.sound (s:=oM p) h
def exa(h:(mk a:Zq p)=mk b):∃k,a=b+p*k:=Quotient.exact (s:=oM p) h
def ex(x:Zq p):∃a,x=mk a:=let ⟨a,h⟩:=Quotient.exists_rep (s:=oM p) x;⟨a,h.symm⟩
def add(x y:Zq p):Zq p:=Quotient.liftOn₂ x y (λa b=>mk<|a+b) λa b a' b' ⟨k,h⟩ ⟨j,h'⟩=>snd ⟨k+j,by rw[h,h',Int.mul_add];lia⟩
def mul(x y:Zq p):Zq p:=Quotient.liftOn₂ x y (λa b=>mk<|a*b) λa b a' b' ⟨k,h⟩ ⟨j,h'⟩=>snd ⟨a'*j+k*b'+p*k*j,by rw[h,h'];grind⟩
def neg(x:Zq p):Zq p:=Quotient.liftOn x (λa=>mk<|-a) λa b ⟨k,h⟩=>snd ⟨-k,by rw[h,Int.mul_neg];lia⟩
def pw(x:Zq p):Nat->Zq p
 | 0=>mk 1
 | k+1=>mul (pw x k) x
open Classical in
noncomputable def inv(x:Zq p):Zq p:=if h:∃y,mul x y=mk 1 then Classical.choose h else mk 0
noncomputable def YW(x:Zq p):Int->Zq p
 | .ofNat k=>pw x k
 | .negSucc k=>inv<|pw x<|k+1
instance:Add (Zq p):=⟨add⟩
instance:Mul (Zq p):=⟨mul⟩
instance:Neg (Zq p):=⟨neg⟩
instance:Sub (Zq p):=⟨λa b=>add a<|neg b⟩
noncomputable instance:Inv (Zq p):=⟨inv⟩
noncomputable instance:Div (Zq p):=⟨λa b=>mul a<|inv b⟩
theorem JA(b:Pr p):∀k {a f l},l.toNat<=k->Tn p a f l->∃f,(f*a-1)%p=0
 | 0,a,f,l,h,t=>by have:=t.l0;lia
 | k+1,a,f,l,h,t=>by
  by_cases c:l=1
  ·exact⟨f,(IQ t c).2.2⟩
  ·have:=LI t;exact JA b k ⋯ (LC b t c)
def z2b(b:Pr p){x:Zq p}(h:x≠mk 0):∃y,mul x y=mk 1:=by let⟨a,rfl⟩:=ex x;let p2:=b.1;let e:(mk a:Zq p)=mk (a%p):=snd ⟨a / p,by have:=Int.mul_ediv_add_emod a p;lia⟩;let h0:0<=a%p:=Jn _ ⋯;let c:a%p<p:=Jd _ ⋯;let hz:a%p≠0:=λz=>h (by rw[e,z]);let⟨f,d⟩:=JA b _ (Yi _)<|MS b ⋯ c;let⟨k,hk⟩:=Int.dvd_of_emod_eq_zero d;exists mk f;rw[e];exact snd ⟨k,by rw[Int.mul_comm];lia⟩
def BR(a:Pr p){x:Zq p}(h:x≠mk 0):mul x (inv x)=mk 1:=by let q:=z2b a h;unfold inv;rw[dif_pos q];exact Classical.choose_spec q
def xW(x y:Zq p):mul x y=mul y x:=by let⟨a,rfl⟩:=ex x;let⟨b,rfl⟩:=ex y;exact Jx mk<|Int.mul_comm a b
def IF(x y z:Zq p):mul (mul x y) z=mul x (mul y z):=by let⟨a,rfl⟩:=ex x;let⟨b,rfl⟩:=ex y;let⟨c,rfl⟩:=ex z;exact Jx mk<|Int.mul_assoc a b c
def xX(x:Zq p):mul (mk 1) x=x:=by let⟨a,rfl⟩:=ex x;exact Jx mk<|Int.one_mul a
def BK(x:Zq p):mul (mk 0) x=mk 0:=by let⟨a,rfl⟩:=ex x;exact Jx mk<|Int.zero_mul a
def BB(a:Pr p):(mk 0:Zq p)≠mk 1:=λh=>by
 let⟨k,e⟩:=exa h;let p2:=a.1;have:p*k=-1:=by lia
 let d:p ∣ 1:=⟨-k,by rw[Int.mul_neg];lia⟩;have:=Int.le_of_dvd ∅ d;lia
def DQ(a:Pr p):inv (mk 0:Zq p)=mk 0:=by unfold inv;rw[dif_neg];rintro⟨y,h⟩;rw[BK]at h;exact BB a h
def UL(a:Pr p)(x:Zq p):inv (inv x)=x:=by
 by_cases h:x=mk 0
 ·rw[h,DQ a,DQ a]
 ·let b:=BR a h;let d:inv x≠mk 0:=λz=>by rw[z,xW,BK]at b;exact BB a b
  let c:=BR a d
  calc inv (inv x)=mul (mk 1) (inv<|inv x):=(xX _).symm
   _=mul (mul x<|inv x) (inv<|inv x):=by rw[b]
   _=mul x (mul (inv x)<|inv<|inv x):=IF _ _ _
   _=mul x (mk 1):=by rw[c]
   _=x:=by rw[xW,xX]
def z25(a:Pr p):inv (mk 1:Zq p)=mk 1:=by let b:=BR a (x:=mk 1) (BB a).symm;rwa [xX]at b
noncomputable def fld(hp:Pr p):Lean.Grind.Field (Zq p) where
 natCast:=⟨λn=>mk n⟩
 ofNat:=λn=>⟨mk n⟩
 nsmul:=⟨λn x=>mul (mk n) x⟩
 npow:=⟨pw⟩
 intCast:=⟨λn=>mk n⟩
 zsmul:=⟨λn x=>mul (mk n) x⟩
 zpow:=⟨YW⟩
 add_zero:=λx=>by let⟨a,rfl⟩:=ex x;exact Jx mk (Int.add_zero a)
 add_comm:=λx y=>by let⟨a,rfl⟩:=ex x;let⟨b,rfl⟩:=ex y;exact Jx mk (Int.add_comm a b)
 add_assoc:=λx y z=>by let⟨a,rfl⟩:=ex x;let⟨b,rfl⟩:=ex y;let⟨c,rfl⟩:=ex z;exact Jx mk (Int.add_assoc a b c)
 mul_assoc:=IF
 mul_comm:=xW
 mul_one:=λx=>(xW x<|mk 1).trans (xX x)
 one_mul:=xX
 right_distrib:=λx y z=>by let⟨a,rfl⟩:=ex x;let⟨b,rfl⟩:=ex y;let⟨c,rfl⟩:=ex z;exact Jx mk<|Int.add_mul a b c
 left_distrib:=λx y z=>by let⟨a,rfl⟩:=ex x;let⟨b,rfl⟩:=ex y;let⟨c,rfl⟩:=ex z;exact Jx mk (Int.mul_add a b c)
 zero_mul:=BK
 mul_zero:=λx=>(xW _ _).trans (BK x)
 pow_zero:=λx=>rfl
 pow_succ:=λx n=>rfl
 ofNat_succ:=λn=>rfl
 ofNat_eq_natCast:=λn=>rfl
 nsmul_eq_natCast_mul:=λn x=>rfl
 neg_add_cancel:=λx=>by let⟨a,rfl⟩:=ex x;exact Jx mk (Int.add_left_neg a)
 sub_eq_add_neg:=λx y=>rfl
 neg_zsmul:=λi x=>by let⟨a,rfl⟩:=ex x;exact Jx mk (Int.neg_mul i a)
 zsmul_natCast_eq_nsmul:=λn x=>rfl
 intCast_ofNat:=λn=>rfl
 intCast_neg:=λn=>rfl
 div_eq_mul_inv:=λx y=>rfl
 zero_ne_one:=BB hp
 inv_zero:=DQ hp
 mul_inv_cancel:=fun{x} h=>BR hp h
 zpow_zero:=λx=>rfl
 zpow_succ:=λx n=>rfl
 zpow_neg:=λx n=>by
  cases n with
  | ofNat k=>
   cases k with
   | zero=>exact(z25 hp).symm
   | succ k=>rfl
  | negSucc k=>exact(UL hp _).symm
end Zq
def z2s(n:Int)(b:n=0\/Pr n):∃(F:Type) (_:Ta F),cM n F:=by
 by_cases c:n=0
 ·subst c;exact⟨Rat,inferInstance,⟨λk=>by rw[lG];exact z1s k⟩⟩
 ·let a:Pr n:=b.resolve_left c;refine⟨Zq n,Zq.fld a,@cM.mk n (Zq n) (Zq.fld a) λk=>?_⟩;rw[qN c];show (Zq.mk k:Zq n)=Zq.mk 0↔_;constructor
  ·intro h;let⟨j,e⟩:=Zq.exa h;rw[e];simp
  ·intro h;let⟨j,e⟩:=Int.dvd_of_emod_eq_zero h;exact Zq.snd ⟨j,by rw[e];simp⟩
end G
namespace G
open L2 PySem K1 K2 K3 K6 K8 K37
section
def aM(a b:Lc):Lc:=List.zipWith (· + ·) a b
def aZ(a b:Lc):Lc:=List.zipWith (· - ·) a b
def gV(h:a.length=b.length):(aM a b).length=a.length:=by simp[aM,h]
def lP(h:a.length=b.length):(aZ a b).length=a.length:=by simp[aZ,h]
def iS(h:a.length=b.length)(i:Nat):(aM a b).getD i 0=a.getD i 0+b.getD i 0:=by
 rcases Jh i a.length with c | c
 ·let d:i<b.length:=by lia
  simp[aM,List.getD,List.getElem?_zipWith,c,d]
 ·let d:b.length<=i:=by lia
  simp[aM,List.getD,List.getElem?_zipWith,List.getElem?_eq_none c,List.getElem?_eq_none d]
def sV(h:a.length=b.length)(i:Nat):(aZ a b).getD i 0=a.getD i 0-b.getD i 0:=by
 rcases Jh i a.length with c | c
 ·let d:i<b.length:=by lia
  simp[aZ,List.getD,List.getElem?_zipWith,c,d]
 ·let d:b.length<=i:=by lia
  simp[aZ,List.getD,List.getElem?_zipWith,List.getElem?_eq_none c,List.getElem?_eq_none d]
def jX(h:a.length=b.length):aM a b=aM b a:=lN (by rw[gV h,gV h.symm,h]) λi _=>by rw[iS h,iS h.symm];lia
def wQ(h:a.length=b.length)(h':b.length=c.length):aM (aM a b) c=aM a (aM b c):=
 lN (by rw[gV<|by rw[gV h];lia,gV h,gV<|by rw[gV h'];lia]) λi _=>by rw[iS<|by rw[gV h];lia,iS h,iS<|by rw[gV h'];lia,iS h'];lia
def sW(h:a.length=b.length):aM b (aZ a b)=a:=lN (by rw[gV<|by rw[lP h];lia,h]) λi _=>by rw[iS<|by rw[lP h];lia,sV h];lia
def FB(h:a.length=b.length):aZ (aM b a) b=a:=lN (by rw[lP<|by rw[gV h.symm],gV h.symm,h]) λi _=>by rw[sV<|by rw[gV h.symm],iS h.symm];lia
def F5(h:a.length=b.length)(h':a.length=c.length)(e:aM c a=aM c b):a=b:=lN h λi _=>by
 let this:(aM c a).getD i 0=(aM c b).getD i 0:=by rw[e]
 rw[iS h'.symm,iS ⋯]at this;lia
def DO(h:a.length=m):aM (zer m) a=a:=lN (by rw[gV<|by rw[oR,h],oR,h]) λi _=>by
 rw[iS<|by rw[oR,h]];have:(zer m).getD i 0=0:=by unfold zer;rcases Jh i m with c | c <;> simp[List.getD,c]
 lia
def T0.add(c:T0 m a)(d:T0 m b):T0 m (aM a b):=⟨by rw[gV<|by rw[c.len,d.len],c.len],λi=>by rw[iS<|by rw[c.len,d.len]];have:=c.nn i;have:=d.nn i;lia⟩
def T0.sub(d:T0 m a)(h:T0 m b)(g:dP b a=true):T0 m (aZ a b):=⟨by rw[lP<|by rw[d.len,h.len],d.len],λi=>by
 rw[sV<|by rw[d.len,h.len]];rcases Jh i b.length with c | c
 ·have:=bV.mp g i c;lia
 ·have:=d.nn i;let e:b.getD i 0=0:=by simp[List.getD,List.getElem?_eq_none c]
  lia⟩
def MB(c:T0 m a)(d:T0 m b):dP b (aM b a)=true:=bV.mpr λi _=>by rw[iS<|by rw[c.len,d.len]];have:=c.nn i;lia
def K4(ha:a.length=m)(hb:b.length=m)(h:dP a b=true)(h':dP b c=true):dP a c=true:=bV.mpr λi d=>by let h1:=bV.mp h i d;let h2:=bV.mp h' i ⋯;lia
def T0.zer(m:Nat):T0 m (zer m):=T0.zero m
section
variable{rk:Lc->Lc}{m:Nat}
def lt(rk:Lc->Lc)(a b:Lc):Prop:=HT.lexLt (rk a) (rk b)=true
def lt_irrefl(h:lt rk a a):False:=by unfold lt at h;rw[qS]at h;cases h
def lt_trans(h:lt rk a b)(h':lt rk b c):lt rk a c:=uU h h'
def yW(h:lt rk a b)(h':lt rk b a):False:=lt_irrefl<|lt_trans h h'
def FR(O:eJ rk m){a b:Lc}(c:a.length=m)(h:b.length=m):lt rk a b\/a=b\/lt rk b a:=by
 by_cases e:a=b
 ·exact .inr<|.inl e
 ·let d:rk a≠rk b:=λz=>e<|O.inj a b c h z;have:=vA d;cases q:HT.lexLt (rk b) (rk a) with
  | true=>exact .inr<|.inr q
  | false=>rw[q]at this;exact .inl this
def DY(O:eJ rk m){a b:Lc}(c:a.length=m)(d:b.length=m)(h:HT.lexLt (rk a) (rk b)=false):b=a\/lt rk b a:=by
 rcases FR O c d with q | q | q
 ·unfold lt at q;rw[q]at h;cases h
 ·exact .inl q.symm
 ·exact .inr q
def F6(O:eJ rk m){a b c:Lc}(e:a.length=m)(h:b.length=m)(d:c.length=m):lt rk (aM a c) (aM b c)↔lt rk a b:=by unfold lt;let e1:rk (aM a c)=cU (rk a) (rk c):=O.add a c e d;let i:rk (aM b c)=cU (rk b) (rk c):=O.add b c h d;rw[e1,i,JR (O.len a c e d)<|O.len b c h d]
def BZ(O:eJ rk m){a b c:Lc}(e:a.length=m)(h:b.length=m)(d:c.length=m):lt rk (aM c a) (aM c b)↔lt rk a b:=by rw[jX (by lia:c.length=a.length),jX (by lia:c.length=b.length)];exact F6 O e h d
def UD(O:eJ rk m){a b:Lc}(d:T0 m a)(i:T0 m b)(g:dP a b=true):a=b\/lt rk a b:=by
 let h:=T0.sub i d g;by_cases e:aZ b a=zer m
 ·left;have:=sW (a:=b) (b:=a) (by rw[d.len,i.len]);rw[e,jX<|by rw[oR,d.len],DO d.len]at this;exact this
 ·right;let p:=O.pos (aZ b a) h.len (λx j=>h.mem x j) e;have:=(BZ O (a:=zer m) (b:=aZ b a) (c:=a) (oR m) h.len d.len).mpr p;rwa [sW<|by rw[d.len,i.len],jX<|by rw[oR,d.len],DO d.len]at this
end
end
section
section
variable{F:Type}[Ta F]
def sm{α:Type}(φ:α->F):List α->F
 | []=>0
 | a::l=>φ a+sm φ l
variable{α β:Type}
theorem ED(φ:α->F):∀l l',sm φ (l++l')=sm φ l+sm φ l'
 | [],l'=>by show sm φ l'=0+sm φ l';grind
 | a::l,l'=>by show φ a+sm φ (l++l')=φ a+sm φ l+sm φ l';rw[ED φ l l'];grind
def J4(φ:α->F)(l:List α)(a:α):sm φ (l++[a])=sm φ l + φ a:=by rw[ED];show _+(φ a+0)=_;grind
theorem qI{φ ψ:α->F}:∀{l},(∀a∈l,φ a=ψ a)->sm φ l=sm ψ l
 | [],_=>rfl
 | a::l,h=>by show φ a+_=ψ a+_;rw[h a<|by simp,qI λb c=>h b<|by simp[c]]
theorem qX{φ:α->F}:∀{l},(∀a∈l,φ a=0)->sm φ l=0
 | [],_=>rfl
 | a::l,h=>by show φ a+_=0;rw[h a<|by simp,qX λb c=>h b<|by simp[c]];grind
theorem JL(φ ψ:α->F):∀l,sm (λa=>φ a + ψ a) l=sm φ l+sm ψ l
 | []=>by show (0:F)=0+0;grind
 | a::l=>by show φ a + ψ a+_=φ a+_+(ψ a+_);rw[JL φ ψ l];grind
theorem BE(c:F)(φ:α->F):∀l,sm (λa=>c * φ a) l=c*sm φ l
 | []=>by show (0:F)=c*0;grind
 | a::l=>by show c * φ a+_=c*(φ a+_);rw[BE c φ l];grind
theorem D9(φ:β->F)(f:α->β):∀l,sm φ (l.map f)=sm (λa=>φ<|f a) l
 | []=>rfl
 | a::l=>by show φ (f a)+_=_;rw[D9 φ f l];rfl
theorem KO(f:α->β->F)(l':List β):∀l,sm (λa=>sm (f a) l') l=sm (λb=>sm (λa=>f a b) l) l'
 | []=>by show (0:F)=_;rw[qX (l:=l')];intro a _;rfl
 | a::l=>by show sm (f a) l'+sm (λa=>sm (f a) l') l=sm (λb=>f a b+sm (λa=>f a b) l) l';rw[KO f l' l,JL]
def TH{φ:α->F}(h:l.Perm l'):sm φ l=sm φ l':=by
 induction h with
 | nil=>rfl
 | cons a _ ih=>show φ a+_=φ a+_;rw[ih]
 | swap a b l=>show φ b+(φ a+_)=φ a+(φ b+_);grind
 | trans _ _ h1 h2=>exact h1.trans h2
def FS[DecidableEq α]{φ:α->F}(h:a∈l):sm φ l=φ a+sm φ (l.erase a):=TH<|List.perm_cons_erase h
def DX[DecidableEq α]{φ:α->F}(c:l.Nodup)(h:a∈l)(z:∀b∈l,b≠a->φ b=0):sm φ l=φ a:=by
 rw[FS h,qX (l:=l.erase a)]
 ·grind
 ·intro b d;have:=(List.Nodup.mem_erase_iff c).mp d;exact z b this.2 this.1
abbrev Po(F:Type):=Lc->F
variable{m:Nat}
def uM(m:Nat)(φ:Po F):Prop:=∀t,φ t≠0->T0 m t
def sh(l:Lc)(φ:Po F):Po F:=λt=>if t.length=l.length then φ (aZ t l) else 0
def wP{φ:Po F}(h:u.length=l.length):sh l φ (aM l u)=φ u:=by unfold sh;rw[Yl<|gV h.symm,FB h]
def qO{φ:Po F}(h:t.length=l.length):sh l φ t=φ (aZ t l):=by unfold sh;rw[Yl h]
def xS{φ:Po F}(b:T0 m l)(c:uM m φ)(h:sh l φ t≠0):T0 m t/\dP l t=true/\φ (aZ t l)≠0/\t=aM l (aZ t l):=by
 unfold sh at h;split at h
 ·rename_i e;let t0:=c _ h;let a:=(sW e).symm;refine⟨?_,?_,h,a⟩
  ·rw[a];exact T0.add b t0
  ·rw[a];exact MB t0 b
 ·exact absurd Z h
def EG{φ:Po F}(d:uM m φ):sh (zer m) φ=φ:=funext λt=>by
 by_cases c:t.length=m
 ·rw[qO<|by rw[oR,c]];congr 1;have:=FB (a:=t) (b:=zer m) (by rw[oR,c]);rwa [DO c]at this
 ·unfold sh;rw[Yh<|by rw[oR];exact c];exact Classical.byContradiction λz=>c (d t<|λq=>z q.symm).len
def UR(d:a.length=b.length)(c:t.length=a.length):aZ (aZ t a) b=aZ t (aM a b):=
 lN (by rw[lP<|by rw[lP c];lia,lP c,lP<|by rw[gV d];lia]) λi _=>by rw[sV<|by rw[lP c];lia,sV c,sV<|by rw[gV d];lia,iS d];lia
def AY{φ:Po F}(h:a.length=b.length):sh a (sh b φ)=sh (aM a b) φ:=funext λt=>by
 by_cases c:t.length=a.length
 ·rw[qO c,qO<|by rw[lP c];lia,qO<|by rw[gV h];exact c,UR h c]
 ·unfold sh;rw[Yh c,Yh<|by rw[gV h];exact c]
def Ld(rk:Lc->Lc)(φ:Po F)(l:Lc):Prop:=φ l≠0/\∀t,φ t≠0->t=l\/lt rk t l
def Ld.one{φ:Po F}(h:Ld rk φ l)(h':Ld rk φ l'):l=l':=by
 rcases h.2 l' h'.1 with e | e
 ·exact e.symm
 ·rcases h'.2 l h.1 with a | a
  ·exact a
  ·exact(yW e a).elim
def Ld.sh{rk:Lc->Lc}(O:eJ rk m){φ:Po F}{l o:Lc}(b:uM m φ)(a:T0 m o)(h:Ld rk φ l):Ld rk (sh o φ) (aM o l):=by
 let c:=b l h.1;refine⟨by rw[wP<|by rw[c.len,a.len]];exact h.1,λt i=>?_⟩;let⟨t0,g,d,e⟩:=xS a b i;let j:=b _ d;rcases h.2 _ d with q | q
 ·left;rw[e,q]
 ·right;rw[e];exact(BZ O j.len c.len a.len).mpr q
end
end
section
section
variable{F:Type}[Ta F]{n:Int}
def qQ[cM n F](h:¬zr n k):ic (F:=F) k≠0:=λz=>h<|(cM.z k).mp z
def BH[cM n F]:ic (F:=F) a=ic b↔zr n (a-b):=by rw[<- cM.z (F:=F),EL];exact⟨λh=>by rw[h];grind,λh=>by grind⟩
def yC[cM n F](k:Int):ic (F:=F) (k%n)=ic k:=by
 rw[BH (n:=n)];by_cases c:n=0
 ·subst c;rw[lG];simp
 ·rw[qN c];have:=Int.mul_ediv_add_emod k n;let e:k%n-k=n*(-(k / n)):=by rw[Int.mul_neg];lia
  rw[e];simp
def bY(n:Int)(H:Hp)(v:V)(x:F):Prop:=
 if n=0 then ∃r p q,v=.ref r/\H r=some (.tup [.int p,.int q])/\1<=q/\gI p q=1/\x*ic q=ic p
 else ∃a,v=.int a/\0<=a/\a<n/\x=ic a
def fG{x:F}:bY 0 H v x↔∃(r:Lh) (p q:Int),v=.ref r/\H r=some (.tup [.int p,.int q])/\1<=q/\gI p q=1/\x*ic q=ic p:=by unfold bY;rw[Yl Z]
def iA(h:n≠0){H:Hp}{v:V}{x:F}:bY n H v x↔∃a,v=.int a/\0<=a/\a<n/\x=ic a:=by unfold bY;rw[Yh h]
def bY.keep{x:F}(k:∀b xs,H b=some (.tup xs)->H' b=some (.tup xs))(h:bY n H v x):bY n H' v x:=by
 by_cases z:n=0
 ·subst z;let⟨r,p,q,e,a,w⟩:=fG.mp h;exact fG.mpr ⟨r,p,q,e,k _ _ a,w⟩
 ·exact(iA z).mpr ((iA z).mp h)
def bY.same{x:F}(e:aJ H H')(h:bY n H v x):bY n H' v x:=h.keep λ_ _=>e _ _
def RD(n:Int)(x:F)(d:PyData):Prop:=
 if n=0 then ∃p q,d=.tuple [.int p,.int q]/\1<=q/\gI p q=1/\x*ic q=ic p
 else ∃a,d=.int a/\0<=a/\a<n/\x=ic a
def rE{x:F}:RD 0 x d↔∃p q,d=.tuple [.int p,.int q]/\1<=q/\gI p q=1/\x*ic q=ic p:=by unfold RD;rw[Yl Z]
def rD(h:n≠0){d:PyData}{x:F}:RD n x d↔∃a,d=.int a/\0<=a/\a<n/\x=ic a:=by unfold RD;rw[Yh h]
def bY.rd{x:F}(h:bY n H v x):∃d,fU K H v d/\AL d/\RD n x d:=by
 by_cases z:n=0
 ·subst z;let⟨r,p,q,rfl,b,w⟩:=fG.mp h;exact⟨_,U9 b,XG p q,rE.mpr ⟨p,q,Z,w⟩⟩
 ·let⟨a,rfl,w⟩:=(iA z).mp h;exact⟨_,.int a,R9 a,(rD z).mpr ⟨a,Z,w⟩⟩
def RD.eq[cM n F]{x y:F}(h:RD n x d)(h':RD n y e):PyData.eqv d e=true↔x=y:=by
 by_cases z:n=0
 ·subst z;let⟨p,q,rfl,s,c,w⟩:=rE.mp h;let⟨m,i,rfl,o,v,l⟩:=rE.mp h';let r:PyData.eqv (.tuple [.int p,.int q]) (.tuple [.int m,.int i])=decide ([p,q]=[m,i]):=by rw[PyData.eqv];exact MH [p,q] [m,i]
  let nz:ic (F:=F) q≠0:=qQ (n:=0) (by rw[lG];lia);let nz':ic (F:=F) i≠0:=qQ (n:=0) (by rw[lG];lia);rw[r,decide_eq_true_iff];constructor
  ·intro g;simp at g;let⟨rfl,rfl⟩:=g;grind
  ·rintro rfl;let k:ic (F:=F) (p*i)=ic (m*q):=by rw[dE,dE,<- w,<- l];grind
   rw[BH (n:=0),lG]at k;let⟨e1,u⟩:=KN s o c v ⋯;rw[e1,u]
 ·let⟨a,rfl,a0,a1,w⟩:=(rD z).mp h;let⟨b,rfl,b0,b1,l⟩:=(rD z).mp h';let r:PyData.eqv (.int a) (.int b)=decide (a=b):=by simp[PyData.eqv,Bool.beq_eq_decide_eq]
  rw[r,decide_eq_true_iff];constructor
  ·rintro rfl;rw[w,l]
  ·rintro rfl;let k:ic (F:=F) a=ic b:=by rw[<- w,<- l]
   rw[BH (n:=n),qN z]at k;let⟨j,hj⟩:=Int.dvd_of_emod_eq_zero k;have:j=0:=by
    rcases(by lia:j=0\/1<=j\/j<=-1) with q | q | q
    ·exact q
    ·have:=Y3 q (show 0<=n by lia);lia
    ·have:=Y3 q (show 0<=n by lia);lia
   subst this;lia
def un(k:List eT):Lc:=k.map λx=>match x with | .inl i=>i | .inr _=>0
theorem DR:∀xs,un (ky xs)=xs
 | []=>rfl
 | x::xs=>by show x::un (ky xs)=_;rw[DR xs]
def fQ(ap:Ka):Lb:=ap.map λp=>un p.1
structure PF(n:Int)(m:Nat)(H:Hp)(ap:Ka)(φ:Po F):Prop where
 ks:∀p∈ap,∃t,p.1=ky t/\T0 m t
 nd:(ap.map (·.1)).Nodup
 out:∀t,bK ap (ky t)=none->φ t=0
 val:∀t v,bK ap (ky t)=some v->bY n H v (φ t)/\φ t≠0
def fZ(φ:Po F)(k:Lc)(x:F):Po F:=λt=>if t=k then x else φ t
def sS{x:F}:fZ φ k x k=x:=Yl rfl
def nO{x:F}(h:t≠k):fZ φ k x t=φ t:=Yh h
variable{m:Nat}{H H':Hp}{ap:Ka}{φ ψ:Po F}
def PF.keep(k:∀b xs,H b=some (.tup xs)->H' b=some (.tup xs))(h:PF n m H ap φ):PF n m H' ap φ:=⟨h.ks,h.nd,h.out,λt v e=>⟨(h.val t v e).1.keep k,(h.val t v e).2⟩⟩
def PF.same(e:aJ H H')(h:PF n m H ap φ):PF n m H' ap φ:=h.keep λ_ _=>e _ _
def PF.congr(h:PF n m H ap φ)(e:∀t,φ t=ψ t):PF n m H ap ψ:=by rw[<- show φ=ψ from funext e];exact h
def PF.nil:PF n m H [] (λ_=>(0:F)):=⟨(λp a=>by cases a),List.nodup_nil,λ_ _=>Z,λt v e=>by simp[bK]at e⟩
def PF.mem(h:PF n m H ap φ){t:Lc}:φ t≠0↔ky t∈ap.map (·.1):=by
 rw[<- fJ];cases q:bK ap (ky t) with
 | none=>simp;exact h.out t q
 | some v=>simp;exact(h.val t v q).2
def PF.get(h:PF n m H ap φ){t:Lc}(a:φ t≠0):∃v,bK ap (ky t)=some v/\bY n H v (φ t):=by
 cases q:bK ap (ky t) with
 | none=>exact absurd (h.out t q) a
 | some v=>exact⟨v,rfl,(h.val t v q).1⟩
def PF.keys(h:PF n m H ap φ):ap.map (·.1)=(fQ ap).map ky:=by unfold fQ;rw[Ji];refine List.map_congr_left λp a=>?_;let⟨t,e,_⟩:=h.ks p a;show p.1=ky (un p.1);rw[e,DR]
def PF.tmem(h:PF n m H ap φ){t:Lc}:t∈fQ ap↔φ t≠0:=by
 rw[h.mem,h.keys,Jj];constructor
 ·intro a;exact⟨t,a,Z⟩
 ·rintro⟨u,b,e⟩;rw[<- qV e];exact b
def PF.tnd(h:PF n m H ap φ):(fQ ap).Nodup:=NJ (f:=ky) (by rw[<- h.keys];exact h.nd)
def PF.sp(h:PF n m H ap φ):uM m φ:=λt c=>by let⟨p,a,e⟩:=Jj.mp<|h.mem.mp c;let⟨u,b,t0⟩:=h.ks p a;rw[<- qV (b.symm.trans e)];exact t0
def PF.ix(h:PF n m H ap φ){i:Nat}{k:List eT}{v:V}(a:ap[i]?=some (k,v)):∃t,k=ky t/\T0 m t/\(fQ ap)[i]?=some t/\bY n H v (φ t)/\φ t≠0:=by let⟨t,e,t0⟩:=h.ks _<|Yx a;let e:k=ky t:=e;let b:=MJ h.nd a;rw[e]at b;refine⟨t,e,t0,?_,h.val t v b⟩;unfold fQ;rw[Ym,a];show some (un k)=_;rw[e,DR]
def PF.put(h:PF n m H ap φ){k:Lc}{v:V}{x:F}(j:T0 m k)(i:bY n H v x)(d:x≠0):PF n m H (bE ap (ky k) v) (fZ φ k x):=by
 let b:∀t,bK (bE ap (ky k) v) (ky t)=if t=k then some v else bK ap (ky t):=λt=>by
  rw[ML];by_cases c:t=k
  ·rw[Yl c,Yl<|by rw[c]]
  ·rw[Yh c,Yh λz=>c<|qV z]
 refine⟨λp l=>?_,z0t h.nd,λt e=>?_,λt w e=>?_⟩
 ·have:p.1∈(bE ap (ky k) v).map (·.1):=Jj.mpr ⟨p,l,Z⟩;rw[L7]at this;have:p.1∈ap.map (·.1)\/p.1=ky k:=by
   split at this
   ·exact .inl this
   ·rcases Jv.mp this with q | q
    ·exact .inl q
    ·exact .inr<|Yq.mp q
  rcases this with q | q
  ·let⟨o,a,e⟩:=Jj.mp q;let⟨t,r,t0⟩:=h.ks o a;exact⟨t,by rw[<- e,r],t0⟩
  ·exact⟨k,q,j⟩
 ·rw[b]at e;by_cases c:t=k
  ·rw[Yl c]at e;cases e
  ·rw[Yh c]at e;rw[nO c];exact h.out t e
 ·rw[b]at e;by_cases c:t=k
  ·rw[Yl c]at e;cases e;rw[c,sS];exact⟨i,d⟩
  ·rw[Yh c]at e;rw[nO c];exact h.val t w e
def PF.drop(h:PF n m H ap φ)(k:Lc):PF n m H (kG ap<|ky k) (fZ φ k 0):=by
 let a:∀t,bK (kG ap<|ky k) (ky t)=if t=k then none else bK ap (ky t):=λt=>by
  rw[XZ];by_cases c:t=k
  ·rw[Yl c,Yl<|by rw[c]]
  ·rw[Yh c,Yh λz=>c<|qV z]
 refine⟨λp b=>h.ks p (List.mem_filter.mp b).1,(List.Sublist.map _ List.filter_sublist).nodup h.nd,λt e=>?_,λt w e=>?_⟩
 ·by_cases c:t=k
  ·rw[c,sS]
  ·rw[a,Yh c]at e;rw[nO c];exact h.out t e
 ·rw[a]at e;by_cases c:t=k
  ·rw[Yl c]at e;cases e
  ·rw[Yh c]at e;rw[nO c];exact h.val t w e
def PF.empty(h:PF n m H ap φ):ap=[]↔∀t,φ t=0:=by
 constructor
 ·rintro rfl t;exact h.out t rfl
 ·intro z;cases ap with
  | nil=>rfl
  | cons p l=>
   let⟨t,e,_⟩:=h.ks p (by simp);have:φ t≠0:=h.mem.mpr (by rw[<- e];simp);exact absurd (z t) this
theorem IK:∀{ap} {φ:Po F},(∀p∈ap,∃t,p.1=ky t/\bY n H p.2 (φ t))->∃b,rW K H ap b/\gM b/\ap.map (·.1)=b.map (·.1)/\∀p∈b,∃t,p.1=ky t/\RD n (φ t) p.2
 | [],_,_=>⟨[],.nil,(λ_ z=>by cases z),rfl,(λ_ z=>by cases z)⟩
 | p::l,φ,h=>by
  let⟨t,o,k⟩:=h p<|.head _;let⟨b,i,j,e,s⟩:=IK (K:=K) (ap:=l) (φ:=φ) λq a=>h q<|.tail _ a;let⟨d,r,c,rd⟩:=k.rd (K:=K);refine⟨(p.1,d)::b,.cons ⟨Z,r⟩ i,λq a=>?_,by rw[Yz,Yz,e],λq a=>?_⟩
  ·rcases Yj.mp a with rfl | a
   ·exact⟨c.lay,c.dep⟩
   ·exact j q a
  ·rcases Yj.mp a with rfl | a
   ·exact⟨t,o,rd⟩
   ·exact s q a
def PF.kds(h:PF n m H ap φ):∃da,rW K H ap da/\gM da/\ap.map (·.1)=da.map (·.1)/\∀p∈da,∃t,p.1=ky t/\RD n (φ t) p.2:=IK λp a=>by let⟨i,b,e⟩:=List.mem_iff_getElem.mp a;let⟨t,e1,_,_,r,_⟩:=h.ix (i:=i) (k:=p.1) (v:=p.2) (by rw[Yc b,e]);exact⟨t,e1,r⟩
def NN(h:nY db k=some d):(k,d)∈db:=by unfold nY at h;let⟨p,a,e⟩:=Option.map_eq_some_iff.mp h;let c:=List.find?_some a;let b:=List.mem_of_find?_eq_some a;have:p.1=k:=Jk c;rw[<- this,<- e];exact b
def Z9(h:k∈db.map (·.1)):∃d,nY db k=some d:=by unfold nY;let⟨p,b,e⟩:=Jj.mp h;have:(db.find? λq=>decide<|q.1=k).isSome=true:=List.find?_isSome.mpr ⟨p,b,Yo e⟩;let⟨q,a⟩:=Option.isSome_iff_exists.mp this;exact⟨q.2,by rw[a];rfl⟩
def PF.eq[cM n F](h:PF n m H ap φ)(h':PF n m H' kvs' ψ)(y:ap.map (·.1)=da.map (·.1)) (A:kvs'.map (·.1)=db.map (·.1)) (C:∀p∈da,∃t,p.1=ky t/\RD n (φ t) p.2) (G:∀p∈db,∃t,p.1=ky t/\RD n (ψ t) p.2):gC da db=true↔∀t,φ t=ψ t:=by
 let la:ap.length=da.length:=by have:=Jx List.length y;simpa using this
 let lb:kvs'.length=db.length:=by have:=Jx List.length A;simpa using this
 let v:∀t,φ t≠0->ky t∈da.map (·.1):=λt a=>by rw[<- y];exact h.mem.mp a
 let l:∀t,ψ t≠0->ky t∈db.map (·.1):=λt a=>by rw[<- A];exact h'.mem.mp a
 unfold gC;rw[Jz,beq_iff_eq,List.all_eq_true];constructor
 ·rintro⟨hl,L⟩ t;let step:∀t,φ t≠0->φ t=ψ t:=λt a=>by
   let⟨p,i,e⟩:=Jj.mp<|v t a;let⟨u,o,r⟩:=C p i;let q:=L p i;have:u=t:=qV<|o.symm.trans e;subst this;split at q
   ·rename_i d s;let⟨J,x,w⟩:=G _<|NN s;have:J=u:=qV<|x.symm.trans o;subst this;exact(RD.eq r w).mp q
   ·cases q
  by_cases c:φ t=0
  ·rw[c];refine Classical.byContradiction λz=>?_;let hz:ψ t≠0:=λq=>z q.symm;let sub:∀k∈fQ ap,k∈(fQ kvs').erase t:=λk b=>by let j:=h.tmem.mp b;let e:=step k j;rw[List.Nodup.mem_erase_iff h'.tnd];refine⟨λq=>j<|by rw[q];exact c,h'.tmem.mpr<|by rw[<- e];exact j⟩
   let B:=oG h.tnd sub;rw[List.length_erase_of_mem<|h'.tmem.mpr hz]at B;let K:(fQ ap).length=ap.length:=Yd _;let M:(fQ kvs').length=kvs'.length:=Yd _;let I:0<(fQ kvs').length:=List.length_pos_of_mem<|h'.tmem.mpr hz;lia
  ·exact step t c
 ·intro e;let D:∀t,t∈fQ ap↔t∈fQ kvs':=λt=>by rw[h.tmem,h'.tmem,e]
  let B:=oG h.tnd λk b=>(D k).mp b;let K:=oG h'.tnd λk b=>(D k).mpr b;let M:(fQ ap).length=ap.length:=Yd _;let I:(fQ kvs').length=kvs'.length:=Yd _;refine⟨⋯,λp i=>?_⟩;let⟨t,E,r⟩:=C p i;let j:φ t≠0:=h.mem.mpr (by rw[y,<- E];exact Jj.mpr ⟨p,i,Z⟩);let⟨d,s⟩:=Z9<|l t (by rw[<- e];exact j);rw[E,s];let⟨u,o,w⟩:=G _<|NN s;have:t=u:=qV o;subst this;exact(RD.eq r w).mpr (e t)
end
end
section
section
variable{F:Type}[Ta F]{n:Int}
def cL(n:Int)(k:Nat)(x:F):Prop:=n=0->∃T B,B≠0/\x*ic B=ic T/\T.natAbs<2^k/\B.natAbs<2^k
def cL.up{x:F}(h:cL n k x)(a:k<=j):cL n j x:=λz=>by let⟨T,B,d,e,b,c⟩:=h z;exact⟨T,B,d,e,Yf b<|Yv ∅ a,Yf c<|Yv ∅ a⟩
def yE[cM 0 F](h:k≠0):ic (F:=F) k≠0:=qQ (n:=0) (by rw[lG];exact h)
def SJ[cM 0 F](h:ic (F:=F) a=ic b):a=b:=by rw[BH (n:=0),lG]at h;lia
def Z0[cM 0 F]{x:F}(h:x*ic q=ic p)(h':x*ic B=ic T):p*B=T*q:=
 SJ (F:=F) (by rw[dE,dE,<- h,<- h'];grind)
def yP[cM 0 F]{x:F}(h:bY 0 H v x)(l:cL 0 k x):∃(r:Lh) (p q:Int),v=.ref r/\H r=some (.tup [.int p,.int q])/\1<=q/\gI p q=1/\x*ic q=ic p/\p.natAbs<2^k/\q.natAbs<2^k:=by let⟨r,p,q,rfl,s,a,c,e⟩:=fG.mp h;let⟨T,B,i,o,b,d⟩:=l rfl;let⟨m,j⟩:=z07 a c i<|Z0 e o;exact⟨r,p,q,Z,s,a,c,e,Yp m b,Yp j d⟩
def B6[cM 0 F]{x:F}(a:b≠0)(h:H r=some (.tup [.int<|fT t b,.int<|fB t b]))(e:x*ic b=ic t):bY 0 H (.ref r) x:=by
 refine fG.mpr ⟨r,_,_,Z,h,D4 a,DU a,?_⟩;let c:=EU (t:=t) a;let d:ic (F:=F) (fT t b)*ic b=ic t*ic (fB t b):=by rw[<- dE,<- dE,c]
 let nz:ic (F:=F) b≠0:=yE a;rw[<- e]at d;grind
def cL.of{x:F}(c:B≠0)(e:x*ic B=ic T)(b:T.natAbs<2^k)(a:B.natAbs<2^k):cL n k x:=λ_=>⟨T,B,c,e,b,a⟩
def cL.zero(a:1<=k):cL n k (0:F):=.of (T:=0) (B:=1) ∅ (by rw[gT];grind) (Nat.two_pow_pos k) (Yf (by decide:(1:Int).natAbs<2^1)<|Yv ∅ a)
def cL.zero'{x:F}(h:cL n k x):cL n k (0:F):=λz=>by let⟨T,B,b,e,h1,a⟩:=h z;exact⟨0,B,b,by rw[gT];grind,Nat.two_pow_pos k,a⟩
def cL.neg{x:F}(h:cL n k x):cL n k (-x):=λz=>by let⟨T,B,c,e,a,b⟩:=h z;exact⟨-T,B,c,by rw[EN,<- e];grind,by rw[Int.natAbs_neg];exact a,b⟩
def cL.mul[cM n F]{x y:F}(h:cL n k x)(h':cL n j y):cL n (k+j) (x*y):=λz=>by
 let⟨T,B,l,e,d,i⟩:=h z;let⟨m,B',b,o,c,a⟩:=h' z;refine⟨T*m,B*B',(by intro q;rcases Int.mul_eq_zero.mp q with q | q;exact l q;exact b q),by rw[dE,dE,<- e,<- o];grind,?_,?_⟩
 ·rw[Int.natAbs_mul,Nat.pow_add];exact Nat.mul_lt_mul'' d c
 ·rw[Int.natAbs_mul,Nat.pow_add];exact Nat.mul_lt_mul'' i a
end
end
section
section
variable{F:Type}[Ta F]{n:Int}{rk:Lc->Lc}{m k:Nat}
structure gL(rk:Lc->Lc)(m k:Nat)(gs:Nat->Po F)(lds:List (Nat×Lc)):Prop where
 sp:∀i,uM m (gs i)
 inc:lds.Pairwise λa b=>a.1<b.1
 ld:∀i l,(i,l)∈lds->i<k/\Ld rk (gs i) l
 all:∀i t,i<k->gs i t≠0->∃l,(i,l)∈lds
def gL.t0{gs:Nat->Po F}(L:gL rk m k gs lds){i:Nat}{l:Lc}(h:(i,l)∈lds):T0 m l:=L.sp i l (L.ld i l h).2.1
structure AS(lds:List (Nat×Lc))(t:Lc)(i:Nat)(l:Lc):Prop where
 mem:(i,l)∈lds
 goes:dP l t=true
 first:∀p∈lds,p.1<i->dP p.2 t=false
structure iZ(rk:Lc->Lc)(m:Nat)(lds:List (Nat×Lc))(U us Dn:Lb)(ρ lf:Po F):Prop where
 lft:∀t,lf t≠0->t∈us
 srt:us.Pairwise (lt rk)
 ord:∀d∈Dn,∀u∈us,lt rk u d
 dnd:Dn.Nodup
 inU:∀t,t∈us\/t∈Dn->t∈U/\T0 m t
 ri:∀t,ρ t≠0->t∈Dn/\∀p∈lds,dP p.2 t=false
variable{φ:Po F}{gs:Nat->Po F}{lds:List (Nat×Lc)}{U us Dn:Lb}{ρ lf:Po F}
def F7(h:(us++[t]).Pairwise (lt rk)):us.Pairwise (lt rk)/\∀u∈us,lt rk u t:=by rw[List.pairwise_append]at h;exact⟨h.1,λu a=>h.2.2 u a t<|by simp⟩
def gQ{α:Type}{t u:α}{us:List α}:u∈us++[t]↔u∈us\/u=t:=by simp
def iZ.base(I:iZ rk m lds U (us++[t]) Dn ρ lf):us.Pairwise (lt rk)/\(∀d∈Dn++[t],∀u∈us,lt rk u d)/\(Dn++[t]).Nodup/\(∀z,z∈us\/z∈Dn++[t]->z∈U/\T0 m z)/\t∉Dn:=by
 let i:t∉Dn:=λh=>lt_irrefl<|I.ord t h t (by simp);let w:∀z,z∈us\/z∈Dn++[t]->z∈us++[t]\/z∈Dn:=λz h=>by
  simp only[List.mem_append,List.mem_singleton]at h ⊢;rcases h with h | h | h
  ·exact .inl<|.inl h
  ·exact .inr h
  ·exact .inl<|.inr h
 refine⟨(F7 I.srt).1,λd o u c=>?_,?_,λz h=>I.inU z<|w z h,i⟩
 ·rcases gQ.mp o with h | rfl
  ·exact I.ord d h u (by simp[c])
  ·exact(F7 I.srt).2 u c
 ·rw[List.nodup_append];refine⟨I.dnd,by simp,λa l b j e=>?_⟩;rw[Yq]at j;subst j e;exact i l
def iZ.skip(I:iZ rk m lds U (us++[t]) Dn ρ lf)(h:lf t=0):iZ rk m lds U us (Dn++[t]) ρ lf:=by
 let⟨b1,b2,b,a,tn⟩:=I.base;refine⟨λz hz=>?_,b1,b2,b,a,λz hz=>⟨by simp[(I.ri z hz).1],(I.ri z hz).2⟩⟩;rcases gQ.mp (I.lft z hz) with q | rfl
 ·exact q
 ·exact absurd h hz
def iZ.lead(I:iZ rk m lds U (us++[t]) Dn ρ lf)(h:lf t≠0):Ld rk lf t:=⟨h,λz hz=>by
 rcases gQ.mp (I.lft z hz) with q | q
 ·exact .inr<|(F7 I.srt).2 z q
 ·exact .inl q⟩
def iZ.rest(I:iZ rk m lds U (us++[t]) Dn ρ lf)(a:∀p∈lds,dP p.2 t=false):iZ rk m lds U us (Dn++[t]) (fZ ρ t<|lf t) (fZ lf t 0):=by
 let⟨b1,b2,d,b,tn⟩:=I.base;refine⟨λz hz=>?_,b1,b2,d,b,λz hz=>?_⟩
 ·by_cases c:z=t
  ·subst c;rw[sS]at hz;exact absurd Z hz
  ·rw[nO c]at hz;exact(gQ.mp<|I.lft z hz).resolve_right c
 ·by_cases c:z=t
  ·subst c;exact⟨by simp,a⟩
  ·rw[nO c]at hz;exact⟨by simp[(I.ri z hz).1],(I.ri z hz).2⟩
def iZ.quot(O:eJ rk m)(L:gL rk m k gs lds)(I:iZ rk m lds U (us++[t]) Dn ρ lf)(h:lf t≠0){i:Nat}{l:Lc}(v:AS lds t i l){x:F}(J:x*gs i l=lf t){b:Lb} (N:∀u,gs i u≠0->aM (aZ t l) u∈U) (w:b.Pairwise (lt rk)) (mem:∀z,z∈b↔z∈us\/(sh (aZ t l) (gs i) z≠0/\z∉us/\z∉Dn++[t])):iZ rk m lds U b (Dn++[t]) ρ (λz=>lf z-x*sh (aZ t l) (gs i) z):=by
 let⟨b1,b2,M,G,tn⟩:=I.base;let D:=I.inU t<|.inl (by simp);let s:=L.t0 v.mem;have ⟨ik,hl⟩:=L.ld i l v.mem;let r:=T0.sub D.2 s v.goes;let C:aM (aZ t l) l=t:=by rw[jX<|by rw[r.len,s.len]];exact sW (by rw[D.2.len,s.len])
 let lds:=Ld.sh O (L.sp i) r hl;rw[C]at lds;let a:∀z,sh (aZ t l) (gs i) z≠0->T0 m z/\z∈U/\(z=t\/lt rk z t):=λz hz=>by let⟨A,_,y,e⟩:=xS r (L.sp i) hz;exact⟨A,by rw[e];exact N _ y,lds.2 z hz⟩
 let j:∀d∈Dn++[t],d=t\/lt rk t d:=λd p=>by
  rcases gQ.mp p with q | q
  ·exact .inr<|I.ord d q t (by simp)
  ·exact .inl q
 let B:∀z∈b,z∉us->T0 m z/\z∈U/\lt rk z t:=λz hz y=>by
  rcases(mem z).mp hz with q | ⟨q,_,q2⟩
  ·exact absurd q y
  ·let⟨A,H,c⟩:=a z q;exact⟨A,H,c.resolve_left λe=>q2<|by simp[e]⟩
 refine⟨λz hz=>?_,w,λd p u K=>?_,M,λz hz=>?_,λz hz=>⟨by simp[(I.ri z hz).1],(I.ri z hz).2⟩⟩
 ·by_cases c:lf z=0
  ·let E:sh (aZ t l) (gs i) z≠0:=by intro e;apply hz;rw[c,e];grind
   rw[mem z];by_cases d:z∈us
   ·exact .inl d
   ·refine .inr ⟨E,d,λp=>?_⟩;rcases(a z E).2.2 with q | q
    ·subst q;exact h c
    ·rcases j z p with o | o
     ·subst o;exact h c
     ·exact yW q o
  ·rcases gQ.mp (I.lft z c) with d | d
   ·exact(mem z).mpr (.inl d)
   ·exfalso;apply hz;subst d;rw[show sh (aZ z l) (gs i) z=gs i l from by rw[<- wP (φ:=gs i) (by rw[r.len,s.len]),C],J];grind
 ·by_cases c:u∈us
  ·exact b2 d p u c
  ·have:=(B u K c).2.2;rcases j d p with o | o
   ·rw[o];exact this
   ·exact lt_trans this o
 ·by_cases c:z∈us
  ·exact G z<|.inl c
  ·rcases hz with q | q
   ·exact⟨(B z q c).2.1,(B z q c).1⟩
   ·exact G z<|.inr q
end
end
section
def Kp(A:Le)(H H':Hp):Prop:=∀b o,H b=some o->b∉A->H' b=some o
def Kp.of(e:aJ H H'):Kp A H H':=λb o h _=>e b o h
def Kp.tr(h:Kp A H H1)(h':Kp A H1 H2):Kp A H H2:=λb o q a=>h' b o (h b o q a) a
def Kp.upd{A:Le}{H:Hp}{a:Lh}{o:HO}(h:a∈A):Kp A H (upd H a o):=λb u q c=>(aV<|λe=>c<|by rw[e];exact h).trans q
def Kp.sub(h:Kp A H H')(s:∀a∈A,a∈B):Kp B H H':=λb o q c=>h b o q λz=>c<|s b z
def Kp.refl(A:Le)(H:Hp):Kp A H H:=λ_ _ h _=>h
def cR(H H':Hp):Prop:=∀b o,H b=some o->(∀kv,o≠.dT kv)->(∀ys,o≠.lst ys)->(∀q u,o≠.frz q u)->H' b=some o
def cR.of(e:aJ H H'):cR H H':=λb o h _ _ _=>e b o h
def cR.tr(h:cR H H1)(h':cR H1 H2):cR H H2:=λb o q a c d=>h' b o (h b o q a c d) a c d
def cR.tup{H H':Hp}(h:cR H H'):∀b xs,H b=some (.tup xs)->H' b=some (.tup xs):=λb xs q=>h b _ q (λ_ z=>by cases z) (λ_ z=>by cases z) (λ_ _ z=>by cases z)
def cR.ins{H H':Hp}(h:cR H H'){b C a:Lh}{fs:List (Lq×V)}(q:H b=some (.ins C a fs)):H' b=some (.ins C a fs):=h b _ q (λ_ z=>by cases z) (λ_ z=>by cases z) (λ_ _ z=>by cases z)
def Kp.fix(h:Kp A H H')(i:∀a∈A,∀o,H a=some o->(∃kv,o=.dT kv)\/(∃ys,o=.lst ys)\/∃q u,o=.frz q u):cR H H':=λb o q a c d=>h b o q λz=>by
 rcases i b z o q with⟨_,e⟩ | ⟨_,e⟩ | ⟨_,_,e⟩
 ·exact a _ e
 ·exact c _ e
 ·exact d _ _ e
def jZ(c:H d=some (.dT kv)):cR H (upd H d o):=λb u q a _ _=>(aV λe=>by subst e;rw[c]at q;injection q with q;exact a _ q.symm).trans q
def mO(c:H d=some (.lst ys)):cR H (upd H d o):=λb u q _ a _=>(aV λe=>by subst e;rw[c]at q;injection q with q;exact a _ q.symm).trans q
def xB{u:HO}(j:H d=some q)(i:(∃kv,q=.dT kv)\/(∃ys,q=.lst ys)\/∃x y,q=.frz x y):cR H (upd H d o):=λb u h a c e=>(aV λz=>by
 subst z;rw[j]at h;injection h with h;subst h
 rcases i with⟨_,r⟩ | ⟨_,r⟩ | ⟨_,_,r⟩
 ·exact a _ r
 ·exact c _ r
 ·exact e _ _ r).trans h
section
variable{F:Type}[Ta F]{n:Int}{m:Nat}{H H':Hp}
def bY.fix{x:F}(e:cR H H')(h:bY n H v x):bY n H' v x:=h.keep e.tup
def PF.fix{φ:Po F}(e:cR H H')(h:PF n m H ap φ):PF n m H' ap φ:=h.keep e.tup
def yS[cM n F]{x y:F}(i:bY n H v x)(h:bY n H u y):∃d e,fU K H v d/\fU K H u e/\SeqAt.shaped d=true/\SeqAt.shaped e=true/\((x=y/\PyData.eqv d e=true)\/(x≠y/\PyData.eqv d e=false)):=by
 let⟨d,rd,c,r⟩:=i.rd (K:=K);let⟨e,j,b,a⟩:=h.rd (K:=K);exists d,e,rd,j,c.shaped,b.shaped;cases q:PyData.eqv d e with
 | true=>exact .inl ⟨(RD.eq r a).mp q,rfl⟩
 | false=>exact .inr ⟨(λz=>by rw[(RD.eq r a).mpr z]at q;cases q),rfl⟩
def dY(ψ:Po F)(S:Lb):Po F:=λt=>if t∈S then ψ t else 0
def B9{ψ:Po F}:dY ψ []=λ_=>0:=funext λt=>by unfold dY;rw[Yh<|by simp]
def B3{ψ:Po F}(h:∀t,ψ t≠0->t∈S):dY ψ S=ψ:=funext λt=>by
 unfold dY;by_cases c:t∈S
 ·rw[Yl c]
 ·rw[Yh c];exact(Classical.byContradiction λz=>c<|h t λq=>z q.symm)
def E1{ψ:Po F}(h:t∈S):dY ψ S t=ψ t:=Yl h
def FL{ψ:Po F}(h:t∉S):dY ψ S t=0:=Yh h
def FZ{ψ:Po F}(h:t≠u):dY ψ (S++[u]) t=dY ψ S t:=by
 unfold dY;by_cases c:t∈S
 ·rw[Yl c,Yl<|by simp[c]]
 ·rw[Yh c,Yh<|by simp[c,h]]
def L1{φ ψ:Po F}:fZ (λt=>φ t+dY ψ S t) u (φ u + ψ u)=λt=>φ t+dY ψ (S++[u]) t:=funext λt=>by
 by_cases c:t=u
 ·subst c;rw[sS,E1<|by simp]
 ·rw[nO c,FZ c]
def NE{x:F}(a:u.length=l.length):fZ (λt=>x*sh l (dY ψ S) t) (aM l u) (x * ψ u)=λt=>x*sh l (dY ψ<|S++[u]) t:=funext λt=>by
 by_cases c:t=aM l u
 ·subst c;rw[sS,wP a,E1<|by simp]
 ·rw[nO c];by_cases d:t.length=l.length
  ·rw[qO d,qO d,FZ λe=>c<|by rw[<- e];exact(sW d).symm]
  ·unfold sh;rw[Yh d,Yh d]
def A4{a:Lb}(h:a.Nodup)(b:a[i]?=some t):t∉a.take i:=UX h b
def qH(ap:Ka):(fQ ap).length=ap.length:=Yd _
end
end
section
section
variable{F:Type}[Ta F]{n:Int}{rk:Lc->Lc}{m k:Nat}{φ:Po F}{gs:Nat->Po F}{lds:List (Nat×Lc)}{U us Dn:Lb}{ρ lf:Po F}
def iZ.start(c:us.Pairwise (lt rk))(b:∀z,φ z≠0->z∈us)(h0:∀z∈us,z∈U/\T0 m z):iZ rk m lds U us [] (λ_=>0) φ:=by
 refine⟨b,c,(λd e=>by cases e),List.nodup_nil,λt a=>?_,λt a=>absurd rfl a⟩;rcases a with h | h
 ·exact h0 t h
 ·cases h
def iZ.done(I:iZ rk m lds U [] Dn ρ lf):∀t,lf t=0:=λt=>Classical.byContradiction λh=>by have:=I.lft t h;cases this
def z3f(I:iZ rk m lds U (us++[t]) Dn ρ lf):Dn.length<U.length:=by let⟨_,_,c,b,_⟩:=I.base;have:=oG c λa d=>(b a<|.inr d).1;rw[Y6]at this;simp at this;lia
def z3s(I:iZ rk m lds U us Dn ρ lf):Dn.length<=U.length:=oG I.dnd λa b=>(I.inU a<|.inr b).1
end
end
section
section
variable{F:Type}[Ta F]{rk:Lc->Lc}{m:Nat}{ks:List Nat}{gs:Nat->Po F}{h:Nat->Lc}
structure hU(rk:Lc->Lc)(m:Nat)(ks:List Nat)(gs:Nat->Po F)(h:Nat->Lc):Prop where
 om:eJ rk m
 sp:∀i∈ks,uM m (gs i)
 ld:∀i∈ks,Ld rk (gs i) (h i)
 fin:∀i∈ks,∃S:Lb,S.Nodup/\(∀t∈S,T0 m t)/\∀t,gs i t≠0->t∈S
def hU.t0(R:hU rk m ks gs h){i:Nat}(a:i∈ks):T0 m (h i):=R.sp i a _ (R.ld i a).1
def mD(gs:Nat->Po F)(l:List (F×Nat×Lc)):Po F:=λt=>sm (λx=>x.1*sh x.2.2 (gs x.2.1) t) l
def Cb(m:Nat)(ks:List Nat)(gs:Nat->Po F)(h:Nat->Lc)(B:Lc->Prop)(φ:Po F):Prop:=∃l,(∀x∈l,x.2.1∈ks/\T0 m x.2.2/\B (aM x.2.2<|h x.2.1))/\∀t,φ t=mD gs l t
variable{B B':Lc->Prop}{φ ψ:Po F}
def Cb.zero:Cb m ks gs h B (λ_:Lc=>(0:F)):=⟨[],(λ_ a=>nomatch a),λ_=>Z⟩
def Cb.congr(c:Cb m ks gs h B φ)(e:∀t,ψ t=φ t):Cb m ks gs h B ψ:=by let⟨l,a,b⟩:=c;exact⟨l,a,λt=>(e t).trans (b t)⟩
def Cb.one(b:i∈ks)(a:T0 m u)(d:B (aM u<|h i)):Cb m ks gs h B (sh u<|gs i):=⟨[(1,i,u)],λx c=>by rw[Yq.mp c];exact⟨b,a,d⟩,λt=>by show _=1*sh u (gs i) t+0;grind⟩
def Cb.add(c:Cb m ks gs h B φ)(d:Cb m ks gs h B ψ):Cb m ks gs h B (λt=>φ t + ψ t):=by let⟨l,a,b⟩:=c;let⟨l',j,e⟩:=d;refine⟨l++l',λx i=>(Jv.mp i).elim (a x) (j x),λt=>?_⟩;show φ t + ψ t=_;unfold mD at b e ⊢;rw[ED,b,e]
def Cb.smul(k:F)(c:Cb m ks gs h B φ):Cb m ks gs h B (λt=>k * φ t):=by
 let⟨l,a,b⟩:=c;refine⟨l.map λx=>(k*x.1,x.2),λx e=>?_,λt=>?_⟩
 ·let⟨y,d,rfl⟩:=Jj.mp e;exact a y d
 ·show k * φ t=_;unfold mD at b ⊢;rw[D9,b,<- BE];exact qI λx _=>by grind
def Cb.sub(c:Cb m ks gs h B φ)(d:Cb m ks gs h B ψ):Cb m ks gs h B (λt=>φ t - ψ t):=(c.add<|d.smul<|-1).congr λt=>by grind
def D1(f:α->Po F)(l:List α)(t:Lc):sh w (λt=>sm (λa=>f a t) l) t=sm (λa=>sh w (f a) t) l:=by
 by_cases c:t.length=w.length
 ·rw[qO c];exact qI λa _=>(qO c).symm
 ·unfold sh;rw[Yh c];exact(qX λa _=>Yh c).symm
def BX(k:F)(φ:Po F)(t:Lc):sh w (λt=>k * φ t) t=k*sh w φ t:=by
 unfold sh;split
 ·rfl
 ·grind
def Cb.sh{w:Lc}(R:hU rk m ks gs h)(hw:T0 m w)(c:Cb m ks gs h B φ)(e:∀T,T0 m T->B T->B' (aM w T)):Cb m ks gs h B' (sh w φ):=by
 let⟨l,a,b⟩:=c;refine⟨l.map λx=>(x.1,x.2.1,aM w x.2.2),λx i=>?_,λt=>?_⟩
 ·let⟨y,o,rfl⟩:=Jj.mp i;let⟨k,d,n⟩:=a y o;exists k,T0.add hw d;show B' (aM (aM w y.2.2)<|h y.2.1);let j:=R.t0 k;rw[wQ (by rw[hw.len,d.len])<|by rw[d.len,j.len]];exact e _ (T0.add d j) n
 ·rw[show φ=mD gs l from funext b];unfold mD;rw[D9,D1<|fun(x:F×Nat×Lc)=>λt=>x.1*G.sh x.2.2 (gs x.2.1) t];refine qI λx i=>?_;rw[BX,AY<|by rw[hw.len,(a x i).2.1.len]]
def EH(c:T0 m u)(b:T0 m a):dP a (aM u a)=true:=by rw[jX<|by rw[c.len,b.len]];exact MB c b
def HN(c:T0 m T)(b:T0 m a)(g:dP a T=true):aM (aZ T a) a=T:=by have:=T0.sub c b g;rw[jX<|by rw[this.len,b.len]];exact sW (by rw[c.len,b.len])
def K9(c:T0 m u)(d:T0 m v)(b:T0 m a)(e:aM u a=aM v a):u=v:=by rw[jX (a:=u)<|by rw[c.len,b.len],jX (a:=v)<|by rw[d.len,b.len]]at e;exact F5 (by rw[c.len,d.len]) (by rw[c.len,b.len]) e
def iX(rk:Lc->Lc)(m:Nat)(ks:List Nat)(gs:Nat->Po F)(h:Nat->Lc)(i j:Nat):Prop:=∀u v,T0 m u->T0 m v->aM u (h i)=aM v (h j)->Cb m ks gs h (λT=>lt rk T<|aM u<|h i) (λt=>gs j (h j)*sh u (gs i) t-gs i (h i)*sh v (gs j) t)
def iX.refl(R:hU rk m ks gs h){i:Nat}(b:i∈ks):iX rk m ks gs h i i:=λu v a c e=>by have:u=v:=K9 a c (R.t0 b) e;subst this;exact Cb.zero.congr λt=>by grind
def TN(R:hU rk m ks gs h){i:Nat}{u:Lc}(b:i∈ks)(a:T0 m u):sh u (gs i) (aM u<|h i)=gs i (h i):=wP (by rw[(R.t0 b).len,a.len])
def K7(R:hU rk m ks gs h){T:Lc}(c:Cb m ks gs h (λi=>lt rk i T) φ):φ T=0:=by
 let⟨l,a,b⟩:=c;rw[b];refine qX λx k=>?_;let⟨e,j,d⟩:=a x k;let z:sh x.2.2 (gs x.2.1) T=0:=Classical.byContradiction λz=>by
  rcases((R.ld _ e).sh R.om (R.sp _ e) j).2 T z with q | q
  ·rw[q]at d;exact lt_irrefl d
  ·exact yW d q
 rw[z];grind
theorem L0(R:hU rk m ks gs h)(good:∀i∈ks,∀j∈ks,iX rk m ks gs h i j){T:Lc}{j:Nat}{v:Lc}(d:j∈ks)(e:T0 m v)(b:aM v (h j)=T):∀l,(∀x∈l,x.2.1∈ks/\T0 m x.2.2/\aM x.2.2 (h x.2.1)=T) ->
  Cb m ks gs h (λp=>lt rk p T) (λt=>gs j (h j)*mD gs l t-mD gs l T*sh v (gs j) t)
 | [],_=>Cb.zero.congr λt=>by show _*(0:F)-(0:F)*_=0;grind
 | x::l,hl=>by let⟨k,n,a⟩:=hl x (by simp);let o:=L0 R good d e b l λy q=>hl y (by simp[q]);let g:=(good _ k j d x.2.2 v n e<|by rw[a,b]).smul x.1;rw[a]at g;refine(g.add o).congr λt=>?_;let c:=TN R k n;rw[a]at c;show gs j (h j)*(x.1*sh x.2.2 (gs x.2.1) t+mD gs l t)-(x.1*sh x.2.2 (gs x.2.1) T+mD gs l T)*sh v (gs j) t=_;rw[c];grind
def UO(R:hU rk m ks gs h)(good:∀i∈ks,∀j∈ks,iX rk m ks gs h i j){T:Lc}(c:Cb m ks gs h (λe=>e=T\/lt rk e T) φ)(z:φ T=0):Cb m ks gs h (λe=>lt rk e T) φ:=by
 let⟨l,a,b⟩:=c;let r:∀l:List (F×Nat×Lc),(∀x∈l,x.2.1∈ks/\T0 m x.2.2/\(aM x.2.2 (h x.2.1)=T\/lt rk (aM x.2.2<|h x.2.1) T))->∃d:List (F×Nat×Lc),∃ψ,(∀x∈d,x.2.1∈ks/\T0 m x.2.2/\aM x.2.2 (h x.2.1)=T)/\Cb m ks gs h (λe=>lt rk e T) ψ/\∀t,mD gs l t=mD gs d t + ψ t:=by
  intro l;induction l with
  | nil=>exact λ_=>⟨[],_,(λ_ C=>nomatch C),Cb.zero,λt=>by show (0:F)=0+0;grind⟩
  | cons x l ih=>
   intro s;let⟨d,ψ,o,n,k⟩:=ih λy p=>s y (by simp[p]);obtain⟨v,w,q | q⟩:=s x (by simp)
   ·refine⟨x::d,ψ,λy p=>?_,n,λt=>?_⟩
    ·rcases Yj.mp p with rfl | p
     ·exact⟨v,w,q⟩
     ·exact o y p
    ·show _*_+mD gs l t=_*_+mD gs d t + ψ t;rw[k];grind
   ·refine⟨d,_,o,((Cb.one (B:=λe=>lt rk e T) v w q).smul x.1).add n,λt=>?_⟩;show x.1*sh x.2.2 (gs x.2.1) t+mD gs l t=_;rw[k];grind
 let⟨d,ψ,o,n,k⟩:=r l a;cases d with
 | nil=>exact n.congr λt=>by rw[b,k];show (0:F)+_=_;grind
 | cons y d=>
  let⟨u,D,A⟩:=o y (by simp);let c:=L0 R good u D A _ o;let G:mD gs (y::d) T=0:=by let q:=K7 R n;let E:=k T;rw[<- b,z,q]at E;grind
  let nz:=(R.ld _ u).1;refine((c.smul<|1 / gs y.2.1 (h y.2.1)).add n).congr λt=>?_;rw[b,k,G];grind
theorem EY(R:hU rk m ks gs h):∀l:List (F×Nat×Lc),l≠[]->(∀x∈l,x.2.1∈ks/\T0 m x.2.2)->∃y∈l,∀x∈l,aM x.2.2 (h x.2.1)=aM y.2.2 (h y.2.1)\/lt rk (aM x.2.2<|h x.2.1) (aM y.2.2<|h y.2.1)
 | [],ne,_=>absurd rfl ne
 | [x],_,_=>⟨x,by simp,λy a=>.inl<|by rw[Yq.mp a]⟩
 | x::x'::l,_,hl=>by
  let⟨y,a,b⟩:=EY R (x'::l) (by simp) λz hz=>hl z (by simp only[List.mem_cons]at hz ⊢;exact .inr hz);let⟨c,d⟩:=hl x (by simp);let⟨i,e⟩:=hl y<|List.mem_cons_of_mem _ a;rcases FR R.om (T0.add d<|R.t0 c).len (T0.add e<|R.t0 i).len with q | q | q
  ·refine⟨y,List.mem_cons_of_mem _ a,λz hz=>?_⟩;rcases Yj.mp hz with rfl | hz
   ·exact .inr q
   ·exact b z hz
  ·refine⟨y,List.mem_cons_of_mem _ a,λz hz=>?_⟩;rcases Yj.mp hz with rfl | hz
   ·exact .inl q
   ·exact b z hz
  ·refine⟨x,by simp,λz hz=>?_⟩;rcases Yj.mp hz with rfl | hz
   ·exact .inl rfl
   ·rcases b z hz with r | r
    ·exact .inr (by rw[r];exact q)
    ·exact .inr<|lt_trans r q
def WP(R:hU rk m ks gs h)(good:∀i∈ks,∀j∈ks,iX rk m ks gs h i j)(G:∀P:Lc->Prop,(∀T,T0 m T->(∀o,T0 m o->lt rk o T->P o)->P T)->∀T,T0 m T->P T) (c:Cb m ks gs h (λ_=>True) φ) (E:∃t,φ t≠0):∃i∈ks,∃u,T0 m u/\Ld rk φ (aM u<|h i):=by
 let w:∀T,T0 m T->Cb m ks gs h (λo=>o=T\/lt rk o T) φ->∃i∈ks,∃u,T0 m u/\Ld rk φ (aM u<|h i):=by
  refine G _ λT hT H c=>?_;by_cases z:φ T=0
  ·let⟨l,a,b⟩:=UO R good c z;by_cases e:l=[]
   ·let⟨t,k⟩:=E;exact absurd (by rw[b,e];rfl) k
   let⟨y,C,p⟩:=EY R l e λx d=>⟨(a x d).1,(a x d).2.1⟩;let⟨A,v,L⟩:=a y C;exact H _ (T0.add v<|R.t0 A) L ⟨l,λx d=>⟨(a x d).1,(a x d).2.1,p x d⟩,b⟩
  ·let⟨l,a,b⟩:=c;let lo:∀t,φ t≠0->t=T\/lt rk t T:=λt k=>by
    rw[b]at k;obtain⟨x,d,q⟩:∃x∈l,x.1*sh x.2.2 (gs x.2.1) t≠0:=Classical.byContradiction λn=>k<|qX λx d=>Classical.byContradiction λq=>n ⟨x,d,q⟩;let⟨D,K,J⟩:=a x d;let I:sh x.2.2 (gs x.2.1) t≠0:=λz=>q (by rw[z];grind);rcases((R.ld _ D).sh R.om (R.sp _ D) K).2 t I with r | r <;> rcases J with s | s
    ·exact .inl (by rw[r,s])
    ·exact .inr (by rw[r];exact s)
    ·exact .inr (by rw[<- s];exact r)
    ·exact .inr<|lt_trans r s
   let ex:∃x∈l,aM x.2.2 (h x.2.1)=T:=Classical.byContradiction λn=>z<|K7 R ⟨l,λx d=>⟨(a x d).1,(a x d).2.1,(a x d).2.2.resolve_left λq=>n ⟨x,d,q⟩⟩,b⟩;let⟨x,d,e⟩:=ex;exact⟨_,(a x d).1,_,(a x d).2.1,by rw[e];exact⟨z,lo⟩⟩
 let⟨l,a,b⟩:=c;by_cases e:l=[]
 ·let⟨t,k⟩:=E;exact absurd (by rw[b,e];rfl) k
 let⟨y,C,p⟩:=EY R l e λx d=>⟨(a x d).1,(a x d).2.1⟩;let⟨A,v,_⟩:=a y C;exact w _ (T0.add v<|R.t0 A) ⟨l,λx d=>⟨(a x d).1,(a x d).2.1,p x d⟩,b⟩
theorem Cb.sm{f:α->Po F}:∀{S},(∀o∈S,Cb m ks gs h B<|f o)->Cb m ks gs h B (λt=>G.sm (λo=>f o t) S)
 | [],_=>Cb.zero
 | o::S,c=>(c o<|by simp).add (Cb.sm (S:=S) λx a=>c x<|by simp[a])
def JT{b:Po F}(d:T0 m o)(p:S.Nodup)(k:∀t∈S,T0 m t)(l:∀t,b t≠0->t∈S)(t:Lc):sh o b t=sm (λj=>if aM o j=t then b j else 0) S:=by
 by_cases c:t.length=o.length
 ·rw[qO c];let e:aM o (aZ t o)=t:=sW c;let un:∀x∈S,aM o x=t->x=aZ t o:=λx a q=>by have:=(k x a).len;exact F5 (c:=o) (by rw[lP c,c,d.len,this]) (by rw[this,d.len]) (by rw[q,e])
  by_cases i:aZ t o∈S
  ·rw[DX p i λx a n=>Yh λq=>n<|un x a q,Yl e]
  ·let z:b (aZ t o)=0:=Classical.byContradiction λq=>i<|l _ q;rw[z,qX λx a=>Yh λq=>i<|un x a q ▸ a]
 ·unfold sh;rw[Yh c];exact(qX λx a=>Yh λq=>c<|by rw[<- q,gV<|by rw[d.len,(k x a).len]]).symm
def z0f{a b:Po F}(k:S.Nodup)(j:∀t∈S,T0 m t)(n:∀t,a t≠0->t∈S)(q:S'.Nodup)(i:∀t∈S',T0 m t)(l:∀t,b t≠0->t∈S')(t:Lc):sm (λo=>a o*sh o b t) S=sm (λo=>b o*sh o a t) S':=by
 let e1:sm (λo=>a o*sh o b t) S=sm (λo=>sm (λc=>if aM o c=t then a o*b c else 0) S') S:=qI λo d=>by rw[JT (j o d) q i l,<- BE];refine qI λc _=>?_;split <;> grind
 let p:sm (λo=>b o*sh o a t) S'=sm (λc=>sm (λo=>if aM o c=t then a o*b c else 0) S) S':=qI λo d=>by rw[JT (i o d) k j n,<- BE];refine qI λc e=>?_;rw[jX<|by rw[(i o d).len,(j c e).len]];split <;> grind
 rw[e1,p,KO]
def G4{a x b y:F}(q:a+x=b+y):b-a=x-y:=by grind
def iX.apart(R:hU rk m ks gs h){i j:Nat}(n:i∈ks)(k:j∈ks)(X:∀p,(h i).getD p 0=0\/(h j).getD p 0=0):iX rk m ks gs h i j:=λu v x G e=>by
 let d:=R.t0 n;let c:=R.t0 k;let J:dP (h j) u=true:=bV.mpr λp _=>by
  let q:(aM u<|h i).getD p 0=(aM v<|h j).getD p 0:=by rw[e]
  rw[iS<|by rw[x.len,d.len],iS<|by rw[G.len,c.len]]at q;have:=x.nn p;have:=G.nn p;have:=X p;lia
 let hw:=T0.sub x c J;let A:=HN x c J;generalize aZ u (h j)=w at hw A;let W:aM w (h i)=v:=K9 (T0.add hw d) G c (by rw[<- e,<- A,wQ (by rw[hw.len,d.len])<|by rw[d.len,c.len],wQ (by rw[hw.len,c.len])<|by rw[d.len,c.len],jX (a:=h i)<|by rw[d.len,c.len]]);subst A;subst W;let⟨S,H,E,M⟩:=R.fin i n;let⟨y,P,D,N⟩:=R.fin j k;let low:∀{a b:Nat} (ha:a∈ks) (hb:b∈ks) {T:Lb} (nT:T.Nodup) (l:∀t∈T,T0 m t),Cb m ks gs h (λT=>lt rk T<|aM w<|aM (h a)<|h b) (λt=>sm (λo=>gs a o*sh (aM w o) (gs b) t)<|@List.erase _ instBEqOfDecidableEq T<|h a):=fun{a b} ha hb {T} nT l=>by
  refine Cb.sm λo C=>?_;let⟨U,r⟩:=(@List.Nodup.mem_erase_iff _ instBEqOfDecidableEq _ _ _ _ nT).mp C;by_cases z:gs a o=0
  ·exact Cb.zero.congr λt=>by rw[z];grind
  refine(Cb.one hb (T0.add hw<|l o r) ?_).smul _;let O:=R.t0 ha;let tb:=R.t0 hb;let s:=l o r;rw[wQ (by rw[hw.len,s.len])<|by rw[s.len,tb.len]];refine(BZ R.om (T0.add s tb).len (T0.add O tb).len hw.len).mpr ((F6 R.om s.len O.len tb.len).mpr ?_);exact((R.ld a ha).2 o z).resolve_left U
 let Q:aM (aM w<|h j) (h i)=aM w (aM (h i)<|h j):=by rw[wQ (by rw[hw.len,c.len])<|by rw[d.len,c.len],jX (a:=h j)<|by rw[d.len,c.len]]
 rw[Q];let Y:=low n k H E;let K:=low k n P D;rw[jX (a:=h j)<|by rw[d.len,c.len]]at K;refine(Y.sub K).congr λt=>?_;let I:∀(a b:Nat) (T:Lb),(∀t∈T,T0 m t)->sm (λo=>gs a o*sh (aM w o) (gs b) t) T=sh w (λt=>sm (λo=>gs a o*sh o (gs b) t) T) t:=λa b T l=>by rw[D1<|λo=>λt=>gs a o*sh o (gs b) t];exact qI λo C=>by rw[BX,AY<|by rw[hw.len,(l o C).len]]
 let L:sm (λo=>gs i o*sh (aM w o) (gs j) t) S=sm (λo=>gs j o*sh (aM w o) (gs i) t) y:=by rw[I i j S E,I j i y D,show (λt=>sm (λo=>gs i o*sh o (gs j) t) S)=λt=>sm (λo=>gs j o*sh o (gs i) t) y from funext λt=>z0f H E M P D N t]
 rw[FS<|M _ (R.ld i n).1,FS<|N _ (R.ld j k).1]at L;exact G4 L
end
theorem KY:∀n (P:Lc->Prop),(∀a,a.length=n->Nn a->(∀b,b.length=n->Nn b->HT.lexLt b a=true->P b)->P a)->∀a,a.length=n->Nn a->P a
 | 0,P,hh,a,d,e=>hh a d e λb i _ l=>by rw[Ja.mp d,Ja.mp i,qS]at l;cases l
 | n+1,P,hh,a,d,e=>by
  have:∀(k:Nat) (x:Int),0<=x->x<k->∀a:Lc,a.length=n->Nn a->P (x::a):=by
   intro k;induction k with
   | zero=>exact λx h0 p=>absurd p ⋯
   | succ k ih=>
    intro x h0 p;refine KY n (λa=>P (x::a)) λa d e m=>hh _ (by simp[d]) (λy o=>?_) λb i q l=>?_
    ·rcases Yj.mp o with rfl | o
     ·exact h0
     ·exact e y o
    ·match b,i with
     | y::b,i=>
      let h:Nn b:=λz hz=>q z<|List.mem_cons_of_mem _ hz;let j:b.length=n:=by simpa using i
      by_cases c:y=x
      ·subst c;refine m b j h ?_;simpa[HT.lexLt]using l
      ·let c2:y<x:=by simp[HT.lexLt,c]at l;lia
       exact ih y (q y<|by simp) ⋯ b j h
  match a,d with
  | x::a,d=>exact this (x.toNat+1) x (e x<|by simp) (by have:=e x (by simp);lia) a ‹d› λz hz=>e z<|List.mem_cons_of_mem _ hz
def A0(f:Lc->Lc)(h:∀T,T0 m T->(f T).length=k/\Nn (f T))(j:∀T b,T0 m T->T0 m b->lt rk b T->HT.lexLt (f b) (f T)=true)(P:Lc->Prop)(i:∀T,T0 m T->(∀b,T0 m b->lt rk b T->P b)->P T):∀T,T0 m T->P T:=by have:=KY k (λa=>∀T,T0 m T->f T=a->P T) λa _ _ n T d e=>i T d λb c l=>n (f b) (h b c).1 (h b c).2 (by rw[<- e];exact j T b d c l) b c rfl;exact λT d=>this (f T) (h T d).1 (h T d).2 T d rfl
theorem JJ:∀{x y},HT.lexLt (x.map (c + ·)) (y.map (c + ·))=HT.lexLt x y
 | [],[]=>rfl
 | [],_::_=>rfl
 | _::_,[]=>rfl
 | a::x,b::y=>by
  rw[Yz,Yz,HT.lexLt_cons,HT.lexLt_cons,JJ (x:=x)];by_cases e:a=b
  ·rw[Yl e,Yl<|by rw[e]]
  ·rw[Yh e,Yh ⋯];congr 1;exact propext ⋯
theorem LM:∀{t},Nn t->∀x∈t,x<=t.sum
 | y::t,n,x,a=>by
  rw[List.sum_cons];let b:Nn t:=λz hz=>n z<|List.mem_cons_of_mem _ hz;rcases Yj.mp a with rfl | a
  ·have:=uX b;lia
  ·have:=LM b x a;have:=n y (by simp);lia
def wfL(m:Nat)(P:Lc->Prop):(∀T,T0 m T->(∀T',T0 m T'->lt uE T' T->P T')->P T)->∀T,T0 m T->P T:=A0 (k:=m) uE (λ_ a=>⟨a.len,a.mem⟩) (λ_ _ _ _ l=>l) P
def wfD(m:Nat)(P:Lc->Prop):(∀T,T0 m T->(∀T',T0 m T'->lt uF T' T->P T')->P T)->∀T,T0 m T->P T:=A0 (k:=m+1) uF (λT b=>⟨by show T.length+1=_;rw[b.len],λx a=>by
 rcases Yj.mp a with rfl | a
 ·exact uX b.mem
 ·exact b.mem x a⟩) (λ_ _ _ _ l=>l) P
def wfT(m:Nat)(P:Lc->Prop):(∀T,T0 m T->(∀a,T0 m a->lt rC a T->P a)->P T)->∀T,T0 m T->P T:=A0 (k:=m+1) (λT=>T.sum::(T.reverse.map λx => -x).map (T.sum + ·)) (λT c=>⟨by simp[c.len],λx b=>by
 rcases Yj.mp b with rfl | b
 ·exact uX c.mem
 ·rw[Ji]at b;let⟨y,d,rfl⟩:=Jj.mp b;have:=LM c.mem y<|List.mem_reverse.mp d;show 0<=T.sum + -y;lia⟩) (λT a _ _ l=>by
 unfold lt rC at l;rw[HT.lexLt_cons]at l ⊢;by_cases e:a.sum=T.sum
 ·rw[Yl e]at l ⊢;rw[e,JJ];exact l
 ·rw[Yh e]at l ⊢;exact l) P
end
end G
namespace K10
open L2 PySem
@[inline] def strN {α:Type} (n:Nat) (f:Nat->α):α:=Nat.rec (f 0) (λk _=>f<|Nat.succ k) n
end K10
namespace G
open L2 PySem K1 K2 K3 K6 K8 K37
section
variable{F:Type}[Ta F]{n:Int}
def KJ[cM 0 F](a:b≠0):∃x:F,x*ic b=ic t:=by let nz:ic (F:=F) b≠0:=yE a;exact⟨ic t*(ic b)⁻¹,by grind⟩
def WG[cM 0 F]{x:F}(hb:1<=b)(a:H r=some (.tup [.int<|t.fdiv<|gI t b,.int<|b.fdiv<|gI t b]))(e:x*ic b=ic t):bY 0 H (.ref r) x:=by refine B6 (t:=t) (b:=b) ⋯ ?_ e;unfold fT fB dv;rw[Yh ⋯];exact a
def LZ(a:Ka)(k:List eT)(v:V):kG (bE a k v) k=kG a k:=by
 let b:∀l:Ka,(l.map λa=>if a.1=k then(a.1,v) else a).filter (λa=>decide<|a.1≠k)=l.filter λa=>decide (a.1≠k):=λl=>by
  induction l with
  | nil=>rfl
  | cons q l ih=>
   rw[Yz,List.filter_cons,List.filter_cons,ih];by_cases c:q.1=k
   ·simp[c]
   ·simp[c]
 unfold bE;split
 ·unfold kG;exact b a
 ·unfold kG;rw[List.filter_append];simp
end
end G
namespace G
open L2 PySem K1 K2 K3 K6 K8 K37
section
theorem IL{α j:Type}{f:α->j}:∀{l:List α},l.Nodup->(∀a∈l,∀b∈l,f a=f b->a=b)->(l.map f).Nodup
 | [],_,_=>List.nodup_nil
 | x::l,h,hi=>by rw[List.nodup_cons]at h;rw[Yz,List.nodup_cons];refine⟨λz=>?_,IL h.2 λa d b i=>hi a (by simp[d]) b<|by simp[i]⟩;let⟨y,c,e⟩:=Jj.mp z;rw[hi y (by simp[c]) x (by simp) e]at c;exact h.1 c
def iW:Nat->Nat->Lb
 | 0,_=>[[]]
 | m+1,C=>(List.range<|C+1).flatMap λa:Nat=>(iW m C).map λt=>(a:Int)::t
theorem cC:∀{m C} {t},t∈iW m C↔T0 m t/\∀x∈t,x<=C
 | 0,C,t=>by
  constructor
  ·intro h;have:t=[]:=by simpa[iW]using h
   subst this;exact⟨T0.of rfl λx b=>(by cases b),λx b=>by cases b⟩
  ·rintro⟨h,_⟩;have:t=[]:=List.eq_nil_of_length_eq_zero h.len;rw[this];simp[iW]
 | m+1,C,t=>by
  constructor
  ·intro h;unfold iW at h;let⟨a,i,h⟩:=List.mem_flatMap.mp h;let⟨u,e,rfl⟩:=Jj.mp h;let⟨d,j⟩:=cC.mp e;let ac:=List.mem_range.mp i;refine⟨T0.of (by rw[Y5,d.len]) λx b=>?_,λx b=>?_⟩
   ·rcases Yj.mp b with rfl | b
    ·lia
    ·exact d.mem x b
   ·rcases Yj.mp b with rfl | b
    ·lia
    ·exact j x b
  ·rintro⟨h,h'⟩;cases t with
   | nil=>have:=h.len;simp at this
   | cons x u=>
    let k:=h.mem x<|.head _;let xc:=h' x<|.head _;unfold iW;refine List.mem_flatMap.mpr ⟨x.toNat,List.mem_range.mpr ⋯,Jj.mpr ⟨u,cC.mpr ⟨T0.of (by have:=h.len;simpa using this) λy c=>h.mem y<|.tail _ c,λy c=>h' y<|.tail _ c⟩,?_⟩⟩;rw[Int.toNat_of_nonneg k]
theorem BN:∀m C,(iW m C).Nodup
 | 0,_=>by simp[iW]
 | m+1,C=>by
  unfold iW;let d:∀l:List Nat,l.Nodup->(l.flatMap λa:Nat=>(iW m C).map λt=>(a:Int)::t).Nodup:=λl=>by
   induction l with
   | nil=>intro _;exact List.nodup_nil
   | cons a l ih=>
    intro h;rw[List.nodup_cons]at h;rw[List.flatMap_cons,List.nodup_append];refine⟨IL (BN m C) λx _ y _ e=>by injection e,ih h.2,λx i y c e=>?_⟩;let⟨u,_,rfl⟩:=Jj.mp i;let⟨b,j,c⟩:=List.mem_flatMap.mp c;let⟨v,_,rfl⟩:=Jj.mp c;injection e with e _
    have:a=b:=by lia
    rw[this]at h;exact h.1 j
  exact d _ List.nodup_range
variable{F:Type}[Ta F]{n:Int}{rk:Lc->Lc}{m:Nat}{T:Lc}{gp:Nat->Po F}{φ ψ ρ τ:Po F}
def Bx(m:Nat)(T t:Lc):Prop:=T0 m t/\∀i,i<m->t.getD i 0<T.getD i 0
def cI(m:Nat)(T:Lc)(k:Nat):Lc:=(List.range m).map λj=>if j=k then T.getD k 0 else 0
def oS:(cI m T k).length=m:=by simp[cI]
def jY:(cI m T k).getD i 0=if i=k/\i<m then T.getD k 0 else 0:=by
 unfold cI;by_cases h:i<m
 ·simp only[List.getD,List.getElem?_map,List.getElem?_range h,h,and_true,Option.map_some,Option.getD_some]
 ·rw[Yh λz=>h z.2];simp[List.getD,h]
def RQ(h:Bx m T t){k:Nat}(a:k<m):dP (cI m T k) t=false:=by
 cases c:dP (cI m T k) t with
 | false=>rfl
 | true=>
  have:=bV.mp c k (by rw[oS];exact a);rw[jY,Yl ⟨Z,a⟩]at this;have:=h.2 k a;lia
def RI(h:T0 m t)(g:∀k,k<m->dP (cI m T k) t=false)(tl:T.length=m):Bx m T t:=⟨h,λk a=>by
 rcases Int.lt_or_le (t.getD k 0) (T.getD k 0) with c | c
 ·exact c
 ·have:=g k a;rw[bV.mpr λi hi=>?_]at this
  ·cases this
  ·rw[jY];split
   ·next z=>rw[z.1];exact c
   ·exact h.nn i⟩
structure gN(rk:Lc->Lc)(m:Nat)(T:Lc)(gp:Nat->Po F):Prop where
 om:eJ rk m
 wf:∀P:Lc->Prop,(∀T,T0 m T->(∀T',T0 m T'->lt rk T' T->P T')->P T)->∀T,T0 m T->P T
 tl:T.length=m
 t1:∀i,i<m->1<=T.getD i 0/\T.getD i 0<=6
 one:∀k,k<m->gp k (cI m T k)=1
 low:∀k,k<m->∀t,gp k t≠0->t=cI m T k\/(Bx m T t/\lt rk t (cI m T k))
def gN.h0(P:gN rk m T gp){k:Nat}:T0 m (cI m T k):=⟨oS,λi=>by
 rw[jY];split
 ·next z=>have:=(P.t1 k<|z.1 ▸ z.2).1;lia
 ·exact Int.le_refl _⟩
def gN.in6(P:gN rk m T gp){k:Nat}(d:k<m){t:Lc}(h:gp k t≠0):t∈iW m 6:=by
 let c:∀{t:Lc},T0 m t->(∀i,i<m->t.getD i 0<=6)->t∈iW m 6:=fun{t} h0 h=>cC.mpr ⟨h0,λx e=>by let⟨i,a,rfl⟩:=List.getElem_of_mem e;have:=h i<|h0.len ▸ a;simpa[List.getD,a]using this⟩
 rcases P.low k d t h with rfl | ⟨b,_⟩
 ·refine c P.h0 λi a=>?_;rw[jY];split
  ·exact(P.t1 k d).2
  ·decide
 ·exact c b.1 λi a=>by have:=b.2 i a;have:=(P.t1 i a).2;lia
def gN.row(P:gN rk m T gp):hU rk m (List.range m) gp (cI m T) where
 om:=P.om
 sp:=λk b t a=>(cC.mp<|P.in6 (List.mem_range.mp b) a).1
 ld:=λk b=>⟨by rw[P.one k<|List.mem_range.mp b];exact λz=>Lean.Grind.Field.zero_ne_one z.symm,λt a=>(P.low k (List.mem_range.mp b) t a).imp_right (·.2)⟩
 fin:=λk b=>⟨iW m 6,BN m 6,λt a=>(cC.mp a).1,λt a=>P.in6 (List.mem_range.mp b) a⟩
def xO(m:Nat)(T:Lc)(gp:Nat->Po F)(φ:Po F):Prop:=Cb m (List.range m) gp (cI m T) (λ_=>True) φ
def gN.good(P:gN rk m T gp):∀i∈List.range m,∀j∈List.range m,iX rk m (List.range m) gp (cI m T) i j:=λi a j b=>by
 by_cases e:i=j
 ·subst e;exact iX.refl P.row a
 ·refine iX.apart P.row a b λp=>?_;rw[jY,jY];by_cases c:p=i
  ·exact .inr<|Yh λz=>e<|c.symm.trans z.1
  ·exact .inl<|Yh λz=>c z.1
def gN.nought(P:gN rk m T gp)(h:xO m T gp φ)(b:∀t,φ t≠0->Bx m T t)(t:Lc):φ t=0:=Classical.byContradiction λz=>by let⟨i,c,u,a,l⟩:=WP P.row P.good P.wf h ⟨t,z⟩;have:=RQ (b _ l.1)<|List.mem_range.mp c;rw[EH a P.h0]at this;cases this
structure Nf(m:Nat)(T:Lc)(gp:Nat->Po F)(φ ρ:Po F):Prop where
 bx:∀t,ρ t≠0->Bx m T t
 id:xO m T gp λt=>φ t - ρ t
def Nf.one(P:gN rk m T gp)(h:Nf m T gp φ ρ)(h':Nf m T gp φ τ)(t:Lc):ρ t=τ t:=by
 have:=P.nought (φ:=λt=>τ t - ρ t) ((h.id.sub h'.id).congr λt=>by grind) (λt a=>by
  by_cases c:ρ t=0
  ·exact h'.bx t λz=>a (by rw[c,z];grind)
  ·exact h.bx t c) t
 grind
def Nf.self(h:∀t,ρ t≠0->Bx m T t):Nf m T gp ρ ρ:=⟨h,Cb.zero.congr λt=>by grind⟩
def Nf.zero(h:xO m T gp φ):Nf m T gp φ (λ_=>0):=⟨λ_ z=>absurd Z z,h.congr λt=>by grind⟩
def Nf.congr(h:Nf m T gp φ ρ)(e:∀t,ψ t=φ t)(a:∀t,τ t=ρ t):Nf m T gp ψ τ:=by rw[show ψ=φ from funext e,show τ=ρ from funext a];exact h
def Nf.add(h:Nf m T gp φ ρ)(h':Nf m T gp φ' ρ')(c:F):Nf m T gp (λt=>φ t+c * φ' t) (λt=>ρ t+c * ρ' t):=⟨λt b=>by
 by_cases z:ρ t=0
 ·exact h'.bx t λa=>b (by rw[z,a];grind)
 ·exact h.bx t z,(h.id.add<|h'.id.smul c).congr λt=>by grind⟩
theorem Nf.sm{α:Type}{c:α->F}{f g:α->Po F}:∀{l:List α},(∀a∈l,Nf m T gp (f a)<|g a)->Nf m T gp (λt=>sm (λa=>c a*f a t) l) (λt=>sm (λa=>c a*g a t) l)
 | [],_=>Nf.self λ_ z=>absurd rfl z
 | a::l,h=>((Nf.sm (c:=c) (l:=l) λx b=>h x<|.tail _ b).add (h a<|.head _) (c a)).congr (λt=>by show c a*f a t+G.sm _ l=_;grind) λt=>by show c a*g a t+G.sm _ l=_;grind
def U4(φ ψ:Po F)(t:Lc):sh w (λt=>φ t - ψ t) t=sh w φ t-sh w ψ t:=by unfold sh;split <;> grind
def Nf.sh{w:Lc}(P:gN rk m T gp)(hw:T0 m w)(h:Nf m T gp φ ρ)(h':Nf m T gp (sh w ρ) τ):Nf m T gp (G.sh w φ) τ:=⟨h'.bx,((Cb.sh (B':=λ_=>True) P.row hw h.id λ_ _ _=>trivial).add h'.id).congr λt=>by rw[U4];grind⟩
def dl(u:Lc):Po F:=λt=>if t=u then 1 else 0
def DW(hw:w.length=m)(a:u.length=m)(t:Lc):sh w (dl u) t=dl (F:=F) (aM w u) t:=by
 unfold sh dl;by_cases c:t.length=w.length
 ·rw[Yl c];by_cases e:t=aM w u
  ·rw[Yl e,Yl<|by rw[e,FB<|by rw[a,hw]]]
  ·rw[Yh e,Yh λz=>e<|by rw[<- z,sW c]]
 ·rw[Yh c,Yh λz=>c<|by rw[z,gV<|by rw[hw,a]]]
def z03(a:bs.Nodup)(h:∀t,ρ t≠0->t∈bs)(t:Lc):ρ t=sm (λb=>ρ b*dl b t) bs:=by
 by_cases c:t∈bs
 ·rw[DX a c λb _ d=>by unfold dl;rw[Yh<|Jc d];grind];unfold dl;rw[Yl Z];grind
 ·rw[qX λb e=>by unfold dl;rw[Yh λz=>c<|by rw[z];exact e];grind];exact Classical.byContradiction λz=>c<|h t z
def Nf.thru{σ:Lc->Po F}(a:bs.Nodup)(h:∀t,ρ t≠0->t∈bs)(g:∀b∈bs,Nf m T gp (G.sh w<|dl b)<|σ b):Nf m T gp (G.sh w ρ) (λt=>G.sm (λb=>ρ b * σ b t) bs):=
 (Nf.sm (c:=ρ) g).congr (λt=>by
  let e:ρ=λt=>G.sm (λb=>ρ b*dl b t) bs:=funext λt=>z03 a h t
  conv=>lhs;rw[e]
  rw[D1 (f:=λb t=>ρ b*dl b t)];exact qI λb _=>BX _ _ _) λ_=>rfl
def Sc(n:Int)(c:F):Prop:=n=0->∃p q,p≠0/\q≠0/\p.natAbs<=49/\q.natAbs<=49/\c*ic q=ic p
structure Bs(n:Int)(m:Nat)(gp:Nat->Po F)(k:Nat)(gs:Nat->Po F):Prop where
 ent:∀i,(∀t,gs i t=0)\/∃j o c,j<m/\T0 m o/\c≠0/\Sc n c/\gs i=λt=>c*sh o (gp j) t
 all:∀j,j<m->∃i,i<k/\∃c,c≠0/\gs i=λt=>c*gp j t
 out:∀i,k<=i->∀t,gs i t=0
 ib:∀j,n=0->∀t,∃N:Int,gp j t*ic 6=ic N/\N.natAbs<=54
def ET(hc:c≠0):Ld rk (λt=>c * φ t) l↔Ld rk φ l:=by
 let a:∀t,c * φ t≠0↔φ t≠0:=λt=>⟨λh z=>h<|by rw[z];grind,λh z=>h<|by grind⟩;unfold Ld;constructor
 ·rintro⟨d,e⟩;exact⟨(a l).mp d,λt b=>e t<|(a t).mpr b⟩
 ·rintro⟨d,e⟩;exact⟨(a l).mpr d,λt b=>e t<|(a t).mp b⟩
variable{k:Nat}{gs:Nat->Po F}
def Bs.lead(B:Bs n m gp k gs)(P:gN rk m T gp){i:Nat}{l:Lc}(h:Ld rk (gs i) l):∃j o c,j<m/\T0 m o/\c≠0/\Sc n c/\gs i=(λt=>c*sh o (gp j) t)/\l=aM o (cI m T j):=by
 rcases B.ent i with z | ⟨j,o,c,a,d,b,p,e⟩
 ·exact absurd (z l) h.1
 ·exists j,o,c,a,d,b,p,e;rw[e]at h;exact(((ET b).mp h).one ((P.row.ld j<|List.mem_range.mpr a).sh P.om (P.row.sp j<|List.mem_range.mpr a) d))
def Nf.dvd(P:gN rk m T gp)(B:Bs n m gp k gs){a:List (Nat×Lc)}(L:gL rk m k gs a)(s:∀t,ρ t≠0->T0 m t/\∀p∈a,dP p.2 t=false)(id:xO m T gp λt=>φ t - ρ t):Nf m T gp φ ρ:=⟨λt q=>by
  let⟨t0,h⟩:=s t q;refine RI t0 (λj d=>?_) P.tl;let⟨i,o,c,r,e⟩:=B.all j d;let l:Ld rk (gs i) (cI m T j):=by rw[e];exact(ET r).mpr (P.row.ld j<|List.mem_range.mpr d)
  let⟨l',b⟩:=L.all i _ o l.1;have:=h _ b;rwa [(L.ld i l' b).2.one l]at this,id⟩
def fP(α t:Lc):Int:=(List.zipWith (λa b=>a*b) α t).sum
def S6(O:eJ rk m){a b c d:Lc}(j:a.length=m)(i:b.length=m)(e:c.length=m)(l:d.length=m)(h:lt rk a b)(h':lt rk c d):lt rk (aM a c) (aM b d):=
 lt_trans ((F6 O j i e).mpr h) ((BZ O e l i).mpr h')
theorem LF:∀{α a b},a.length=α.length->b.length=α.length->fP α (aM a b)=fP α a+fP α b
 | [],_,_,h,h'=>by simp[fP]
 | x::α,[],_,h,_=>by simp at h
 | x::α,_::_,[],_,h=>by simp at h
 | x::α,y::a,z::b,h,h'=>by let c:=LF (α:=α) (a:=a) (b:=b) ‹h› ‹h'›;unfold fP aM at c ⊢;simp only[List.zipWith_cons_cons,List.sum_cons]at c ⊢;rw[c,Int.mul_add];lia
theorem KQ:∀{α a b},a.length=α.length->b.length=α.length->fP α (aZ a b)=fP α a-fP α b
 | [],_,_,h,h'=>by simp[fP]
 | x::α,[],_,h,_=>by simp at h
 | x::α,_::_,[],_,h=>by simp at h
 | x::α,y::a,z::b,h,h'=>by let c:=KQ (α:=α) (a:=a) (b:=b) ‹h› ‹h'›;unfold fP aZ at c ⊢;simp only[List.zipWith_cons_cons,List.sum_cons]at c ⊢;rw[c,Int.mul_sub];lia
theorem IS:∀{α t},(∀x∈α,1<=x)->(∀x∈t,0<=x)->0<=fP α t
 | [],_,_,_=>by simp[fP]
 | _::_,[],_,_=>by simp[fP]
 | x::α,y::t,h,h'=>by let b:=IS (α:=α) (t:=t) (λz hz=>h z<|.tail _ hz)<|λz hz=>h' z<|.tail _ hz;let h1:=h x<|.head _;let a:=h' y<|.head _;let h3:0<=x*y:=Int.mul_nonneg ⋯ a;unfold fP at b ⊢;simp only[List.zipWith_cons_cons,List.sum_cons];lia
theorem E9:∀{α t},t.length=α.length->(∀x∈α,1<=x)->(∀x∈t,0<=x)->∀y∈t,y<=fP α t
 | [],t,hl,_,_,y,a=>by have:t=[]:=List.eq_nil_of_length_eq_zero hl;rw[this]at a;cases a
 | _::_,[],_,_,_,y,a=>by cases a
 | x::α,z::t,hl,h,h',y,a=>by
  let d:=E9 (α:=α) (t:=t) ‹hl› (λz hz=>h z<|.tail _ hz)<|λz hz=>h' z<|.tail _ hz;let nn:=IS (α:=α) (t:=t) (λz hz=>h z<|.tail _ hz)<|λz hz=>h' z<|.tail _ hz;let c:=h x<|.head _;let b:=h' z<|.head _;let h3:z<=x*z:=by have:=Int.mul_le_mul_of_nonneg_right c b;lia
  let e:fP (x::α) (z::t)=x*z+fP α t:=by unfold fP;simp only[List.zipWith_cons_cons,List.sum_cons]
  rw[e];rcases Yj.mp a with rfl | a
  ·lia
  ·have:=d y a;lia
def wB(m:Nat):Nat:=if m=3 then 8 else if m=4 then 4 else 6
def lB(m:Nat):Nat:=if m=1 then 6 else if m=4 then 2 else 3
def kQ(T:Lc):Int:=T.foldr (λa b=>a*b) 1
def eY(m:Nat):Lb:=(iW m<|lB m).filter λT=>T.all (λx=>decide<|1<=x)&&decide (kQ T<=6)
def al(b:Bool)(T:Lc):Lc:=
 let a:=T.map λx=>if b&&x==2&&T.contains 3 then(2:Int) else 1
 let w:=fP a (T.map λx=>x-1)
 List.zipWith (λx y=>if x==1 then max w 1 else y) T a
def e1(m i:Nat):Lc:=(List.range m).map λj=>if j=i then(1:Int) else 0
def z1p:[1,2,3,4].all (λm=>(eY m).all λT=>[false,true].all λb=>(al b T).length==m&&(al b T).all (λx=>decide<|1<=x)&&((iW m<|lB m).filter λu=>(List.zipWith (λx y=>decide<|x<y) u T).all id).all λu=>
 (List.range m).all λk=>decide (fP (al b T) (aM (e1 m k) u)<=(wB m:Int))&&(decide (fP (al b T) u<=fP (al b T) (cI m T k))||(u==T.map (λx=>x-1)&&(if b then T.getD k 0==3&&T.contains 2 else T.getD k 0==2&&T.contains 3))))=true:=by decide +kernel
def z1k:[1,2,3,4].all (λm=>(eY m).all λT=>decide<|((iW m<|lB m).filter λu=>(List.zipWith (λx y=>decide<|x<y) u T).all id).length<=6)=true:=by decide +kernel
def UB:[1,2,3,4].all (λm=>decide<|((iW m<|wB m).filter λt=>decide<|t.sum<=(wB m:Int)).length<=165)=true:=by decide +kernel
def qF{α:Type}{l:List α}{f:α->Bool}(h:l.all f=true){a:α}(b:a∈l):f a=true:=List.all_eq_true.mp h a b
def IZ(q:T∈eY m)(h:Bx m T u):u∈(iW m<|lB m).filter λu=>(List.zipWith (λx y=>decide<|x<y) u T).all id:=by
 let⟨e,j⟩:=cC.mp (List.mem_filter.mp q).1;let lt:∀i,i<m->u.getD i 0<T.getD i 0:=h.2;refine List.mem_filter.mpr ⟨cC.mpr ⟨h.1,λx o=>?_⟩,?_⟩
 ·let⟨i,d,rfl⟩:=List.getElem_of_mem o;let a:i<m:=h.1.len ▸ d;have:=lt i a;let c:i<T.length:=by rw[e.len];exact a
  let b:=j _<|Jw c;simp only[List.getD,List.getElem?_eq_getElem d,List.getElem?_eq_getElem c,Option.getD_some]at this;lia
 ·rw[List.all_eq_true];intro b l;let⟨i,d,rfl⟩:=List.getElem_of_mem l;rw[List.length_zipWith,h.1.len,e.len]at d;let a:i<m:=by lia
  have:=lt i a;let c:i<T.length:=by rw[e.len];exact a
  let p:i<u.length:=by rw[h.1.len];exact a
  simp only[List.getD,List.getElem?_eq_getElem p,List.getElem?_eq_getElem c,Option.getD_some]at this;simpa using this
structure Wt(rk:Lc->Lc)(m:Nat)(T α:Lc):Prop where
 len:α.length=m
 pos:∀x∈α,1<=x
 st:∀u,Bx m T u->∀k,k<m->fP α (aM (e1 m k) u)<=wB m
 low:∀u,Bx m T u->∀k,k<m->lt rk u (cI m T k)->fP α u<=fP α (cI m T k)
def z3k(O:eJ rk m)(m1:1<=m)(m4:m<=4)(A:T∈eY m):∃α,Wt rk m T α:=by
 let I:m∈[1,2,3,4]:=by simp;lia
 let v:=(cC.mp (List.mem_filter.mp A).1).1;let D:=(List.mem_filter.mp A).2;let y:∀b:Bool,(al b T).length=m/\(∀x∈al b T,1<=x)/\∀u,Bx m T u->∀k,k<m->fP (al b T) (aM (e1 m k) u)<=wB m/\(fP (al b T) u<=fP (al b T) (cI m T k)\/(u=T.map (λx=>x-1)/\(if b then T.getD k 0=3/\2∈T else T.getD k 0=2/\3∈T))):=λb=>by let h:=qF (qF (qF z1p I) A) (show b∈[false,true] by cases b <;> simp);rw[Jz,Jz]at h;refine⟨‹h.1.1›,λx H=>by simpa using qF h.1.2 H,λu d k o=>?_⟩;let h:=qF (qF h.2<|IZ A d)<|List.mem_range.mpr o;rw[Jz,Bool.or_eq_true,Jz]at h;refine⟨‹h.1›,h.2.imp (λz=>by simpa using z) λz=>⟨‹z.1›,?_⟩⟩;cases b <;> simpa using z.2
 by_cases c:∃j,j<m/\T.getD j 0=2/\3∈T/\lt rk (T.map λx=>x-1) (cI m T j)
 ·let⟨j,jm,E,t3,J⟩:=c;let⟨B,C,w⟩:=y true;refine⟨al true T,B,C,λu d k o=>(w u d k o).1,λu d k o l=>(w u d k o).2.resolve_right ?_⟩;rintro⟨rfl,z⟩;rw[Yl Z]at z;let r:=S6 O d.1.len oS d.1.len oS l J;let G:∀i,i<m->(T.map λx=>x-1).getD i 0=T.getD i 0-1:=λi s=>by
   have:i<T.length:=by rw[v.len];exact s
   simp[List.getD,this]
  let g:dP (aM (cI m T k)<|cI m T j) (aM (T.map λx=>x-1)<|T.map λx=>x-1)=true:=bV.mpr λi s=>by
   rw[gV<|by rw[oS,oS],oS]at s;rw[iS<|by rw[oS,oS],iS rfl,jY,jY,G i s];let t1:1<=T.getD i 0:=by
    have:i<T.length:=by rw[v.len];exact s
    rw[Jz]at D;have:=qF D.1<|Jw this;simpa[List.getD,(by assumption:i<T.length)]using this
   by_cases a:i=k <;> by_cases b:i=j
   ·rw[<- a]at z;rw[<- b]at E;lia
   ·rw[Yl ⟨a,s⟩,Yh λq=>b q.1,<- a];rw[<- a]at z;lia
   ·rw[Yh λq=>a q.1,Yl ⟨b,s⟩,<- b];rw[<- b]at E;lia
   ·rw[Yh λq=>a q.1,Yh λq=>b q.1];lia
  let p:∀k,T0 m (cI m T k):=λk=>⟨oS,λi=>by
   rw[jY];split
   ·exact v.nn _
   ·exact Int.le_refl _⟩
  rcases UD O (T0.add (p k)<|p j) (T0.add d.1 d.1) g with e | e
  ·rw[e]at r;exact lt_irrefl r
  ·exact yW e r
 ·let⟨B,C,w⟩:=y false;refine⟨al false T,B,C,λu d k o=>(w u d k o).1,λu d k o l=>(w u d k o).2.resolve_right ?_⟩;rintro⟨rfl,z⟩;rw[Yh ∅]at z;exact c ⟨k,o,z.1,z.2,l⟩
def Ud(m:Nat)(α:Lc):Lb:=(iW m<|wB m).filter λt=>decide<|fP α t<=wB m
theorem J9:∀{α t},t.length=α.length->(∀x∈α,1<=x)->(∀x∈t,0<=x)->t.sum<=fP α t
 | [],[],_,_,_=>Int.le_refl _
 | a::α,x::t,h,h1,h2=>by let ih:=J9 (α:=α) (t:=t) ‹h› (λy b=>h1 y<|.tail _ b) λy b=>h2 y<|.tail _ b;let p:=Int.mul_le_mul_of_nonneg_right (h1 a<|.head _)<|h2 x<|.head _;show (x::t).sum<=(a*x::List.zipWith _ α t).sum;rw[List.sum_cons,List.sum_cons];show x+t.sum<=a*x+fP α t;lia
def yB(W:Wt rk m T α):t∈Ud m α↔T0 m t/\fP α t<=wB m:=by
 unfold Ud;rw[List.mem_filter,cC];constructor
 ·rintro⟨h,h'⟩;exact⟨h.1,‹h'›⟩
 ·rintro⟨h,h'⟩;exact⟨⟨h,λx a=>Int.le_trans (E9 (by rw[h.len,W.len]) W.pos h.mem x a) h'⟩,‹h'›⟩
def IM(m1:1<=m)(m4:m<=4)(W:Wt rk m T α):(Ud m α).length<=165:=by let h:=qF UB (show m∈[1,2,3,4] by simp;lia);refine Yr (oG ((BN m _).filter _) λt a=>?_) ‹h›;let⟨h0,hd⟩:=(yB W).mp a;let s:=J9 (by rw[h0.len,W.len]) W.pos h0.mem;exact List.mem_filter.mpr ⟨(List.mem_filter.mp a).1,by simp;lia⟩
end
end G
namespace K6
open PySem L2
section
def xg{S G:Prop}(h:∀g,g=G->S->g):S->G:=h G rfl
def dX(h:∀r,r=R->lR A r D σ H):lR A R D σ H:=h R rfl
def sM(h:sc.kind=.function/\sc.isCoroutine=false/\sc.isGenerator=false/\N.Nodup/\N.take P.length=P/\(∀x∈P,sc.names.lookup x=some .local\/sc.names.lookup x=some .cell)/\∀y∈sc.names,y.2≠.free):eO N P sc:=⟨h.1,h.2.1,h.2.2.1,h.2.2.2.1,h.2.2.2.2.1,h.2.2.2.2.2.1,h.2.2.2.2.2.2⟩
def bW{P:Lm}{w:Ll}{K:Lj}{mg:Sa}{base:Lp}{CX:kF}{k:Nat}{f:Lh}{fd:FuncData}{ps:Lf}{sp:Sp}{c a:Lq}{st:Ln}{dv:Li}(N:Lf)(_:bI K c a st dv f fd)(b:eO N ps (gP st)->cJ P w K mg base CX k f fd ps sp)(h:(gP st).kind=.function/\(gP st).isCoroutine=false/\(gP st).isGenerator=false/\N.Nodup/\N.take ps.length=ps/\(∀x∈ps,(gP st).names.lookup x=some .local\/(gP st).names.lookup x=some .cell)/\∀y∈(gP st).names,y.2≠.free:=by decide +kernel):cJ P w K mg base CX k f fd ps sp:=b<|sM h
def top(i:Nat):Ln:=PySem.Challenge.pw_idealroom_k39_whole_tables.main.body.getD i<|.Pass ⟨0,0,0,0⟩
abbrev QZ:Ln:=top 12
abbrev NY:Ln:=top 13
abbrev QX:Ln:=eX (top 14) 0
abbrev Q2:Ln:=eX (top 15) 0
abbrev QQ:Ln:=eX (top 15) 1
abbrev PN:Ln:=eX (top 15) 2
abbrev zL:Ln:=eX (top 15) 3
abbrev Q0:Ln:=eX (top 15) 4
abbrev QK:Ln:=eX (top 15) 5
abbrev Q8:Ln:=eX (top 15) 6
abbrev QT:Ln:=eX (top 15) 7
abbrev CQ:Ln:=eX (top 14) 2
abbrev Q1:Ln:=eX (top 16) 0
abbrev QF:Ln:=eX (top 16) 1
abbrev N7:Ln:=eX (top 16) 2
abbrev OT:Ln:=eX (top 16) 4
abbrev O3:Ln:=eX (top 16) 5
abbrev PV:Ln:=eX (top 16) 6
abbrev O6:Ln:=eX (top 16) 7
abbrev LY:Ln:=top 21
abbrev OO:Ln:=eX (top 42) 0
abbrev QC:Ln:=eX (top 43) 0
abbrev OZ:Ln:=eX (top 44) 0
abbrev QS:Ln:=eX (top 45) 0
abbrev O8:Ln:=eX (top 45) 1
abbrev CP:Ln:=eX (top 42) 5
abbrev PX:Ln:=eX (top 45) 3
abbrev zK:Ln:=eX (top 42) 3
abbrev zI:Ln:=eX (top 42) 2
abbrev PQ:Ln:=eX (top 48) 0
abbrev NL:Ln:=top 18
abbrev OC:Ln:=top 19
abbrev OA:Ln:=top 20
abbrev LS:Ln:=top 24
abbrev MR:Ln:=top 25
abbrev OV:Ln:=top 26
abbrev QR:Ln:=eX (top 28) 2
abbrev PD:Ln:=eX (top 28) 1
abbrev QP:Ln:=eX (top 28) 0
abbrev QO:Ln:=eX (top 28) 3
abbrev PL:Ln:=eX (top 28) 4
abbrev QY:Ln:=eX (top 29) 0
abbrev PU:Ln:=eX (top 29) 1
abbrev NH:Ln:=top 30
abbrev O7:Ln:=top 31
abbrev KW:Ln:=top 22
abbrev OD:Ln:=eX (top 48) 2
abbrev QW:Ln:=top 33
abbrev OM:Ln:=top 35
abbrev NC:Ln:=top 36
abbrev QU:Ln:=top 34
abbrev OX:Ln:=top 37
abbrev ME:Ln:=top 38
abbrev QA:Ln:=eX (top 48) 3
abbrev J1:Ln:=top 40
abbrev PY:Ln:=top 50
abbrev PM:Ln:=top 51
abbrev N5:Ln:=top 54
abbrev OI:Ln:=top 55
abbrev OW:Ln:=top 52
abbrev OR:Ln:=top 53
abbrev OE:Ln:=top 56
abbrev PZ:Ln:=top 57
abbrev PB:Ln:=top 58
abbrev N6:Ln:=top 59
abbrev N4:Ln:=top 60
abbrev NQ:Ln:=top 61
abbrev OS:Ln:=top 63
abbrev OL:Ln:=top 66
abbrev QL:Ln:=top 70
abbrev N9:Ln:=top 74
abbrev ON:Ln:=top 64
abbrev QV:Ln:=top 65
abbrev PP:Ln:=top 72
abbrev QG:Ln:=top 73
abbrev QE:Ln:=top 75
abbrev Q3:Ln:=top 77
abbrev Q5:Ln:=top 76
abbrev OF:Ln:=top 67
abbrev vI:Ln:=top 68
abbrev O5:Ln:=top 69
abbrev O9:Ln:=top 71
abbrev sJ:Ln:=top 78
structure uL(P:Lm)(w:Ll)(K:Lj)(mg:Sa)(base:Lp)(aA aB aC aD aE aF aG aH aI:Lh):Prop where
 b_abs:mg "abs"=none
 b_all:mg "all"=none
 b_any:mg "any"=none
 b_bool:mg "bool"=none
 b_dict:mg "dict"=none
 b_enumerate:mg "enumerate"=none
 b_int:mg "int"=none
 b_isinstance:mg "isinstance"=none
 b_len:mg "len"=none
 b_list:mg "list"=none
 b_max:mg "max"=none
 b_min:mg "min"=none
 b_range:mg "range"=none
 b_reversed:mg "reversed"=none
 b_sorted:mg "sorted"=none
 b_sum:mg "sum"=none
 b_tuple:mg "tuple"=none
 b_zip:mg "zip"=none
 cl_Ring:iG K aA
 mg_Ring:mg "Ring"=some (.ref aA)
 na_Ring_many:cE K aA "many"
 na_Ring_field:cE K aA "field"
 na_Ring_order:cE K aA "order"
 cl_Fractions:iG K aB
 mg_Fractions:mg "Fractions"=some (.ref aB)
 na_Fractions_prime:cE K aB "prime"
 cl_Rests:iG K aC
 mg_Rests:mg "Rests"=some (.ref aC)
 na_Rests_prime:cE K aC "prime"
 cl_Order:iG K aD
 mg_Order:mg "Order"=some (.ref aD)
 n0_Order:C6 K aD
 cl_Degrees:iG K aE
 mg_Degrees:mg "Degrees"=some (.ref aE)
 n0_Degrees:C6 K aE
 cl_Tails:iG K aF
 mg_Tails:mg "Tails"=some (.ref aF)
 n0_Tails:C6 K aF
 cl_Weights:iG K aG
 mg_Weights:mg "Weights"=some (.ref aG)
 na_Weights_weights:cE K aG "weights"
 cl_Waiting:iG K aH
 mg_Waiting:mg "Waiting"=some (.ref aH)
 na_Waiting_order:cE K aH "order"
 na_Waiting_known:cE K aH "known"
 na_Waiting_queue:cE K aH "queue"
 cl_Leads:iG K aI
 mg_Leads:mg "Leads"=some (.ref aI)
 na_Leads_pairs:cE K aI "pairs"
 g_GREATEST_PRIME:∃tk,mg "GREATEST_PRIME"=some (.int 9973 tk)
 g_LETTERS:∃tk,mg "LETTERS"=some (.str "xyzt" tk)
 kii:W.kitOne K (.type "int") (.type "int")=some true
 kib:W.kitOne K (.type "int") (.type "bool")=some false
 ktt:W.kitOne K (.type "tuple") (.type "tuple")=some true
 kll:W.kitOne K (.type "list") (.type "list")=some true
abbrev Cq(_:uL P w K mg base aA aB aC aD aE aF aG aH aI):=AU P w K mg base dG
abbrev Fq(_:uL P w K mg base aA aB aC aD aE aF aG aH aI):=cJ P w K mg base dG
abbrev Mq(_:uL P w K mg base aA aB aC aD aE aF aG aH aI):=cQ P w K mg base dG
abbrev Kq(_:uL P w K mg base aA aB aC aD aE aF aG aH aI):=C7 P w K mg base dG
def MG:(["power"]:Lf).Nodup:=by decide +kernel
def M1:(["weight"]:Lf).Nodup:=by decide +kernel
def PR:(["power","weight"]:Lf).Nodup:=by decide +kernel
def QI:(["power","further"]:Lf).Nodup:=by decide +kernel
def QB:(["power","bound"]:Lf).Nodup:=by decide +kernel
def QD:(["power","whole"]:Lf).Nodup:=by decide +kernel
def OY:(["at","f","ring"]:Lf).Nodup:=by decide +kernel
def NR:(["divisor"]:Lf).Nodup:=by decide +kernel
def QM:(["place","at","power"]:Lf).Nodup:=by decide +kernel
def OQ:(["lead","term"]:Lf).Nodup:=by decide +kernel
def PJ:(["term","leads"]:Lf).Nodup:=by decide +kernel
def NU:(["lead","at"]:Lf).Nodup:=by decide +kernel
def NK:(["f","ring"]:Lf).Nodup:=by decide +kernel
def QN:(["other","rest","ring"]:Lf).Nodup:=by decide +kernel
def ND:(["_law_a"]:Lf).Nodup:=by decide +kernel
def QH:(["_law_a","_law_w"]:Lf).Nodup:=by decide +kernel
def QJ:(["_law_x","_law_y"]:Lf).Nodup:=by decide +kernel
def Q6:(["_law_k","_law_at","_law_p"]:Lf).Nodup:=by decide +kernel
def Q7:(["_law_number_here","_law_p"]:Lf).Nodup:=by decide +kernel
def xG:(["_law_k","_law_p"]:Lf).Nodup:=by decide +kernel
def RA:(["_law_k","_law_number_here","_law_p","_law_row","_law_total"]:Lf).Nodup:=by decide +kernel
def Q9:(["_law_j","_law_k","_law_tops_here"]:Lf).Nodup:=by decide +kernel
def CH:(["_law_f"]:Lf).Nodup:=by decide +kernel
def OG:(["_law_row"]:Lf).Nodup:=by decide +kernel
def RB:(["_law_f","_law_inside_here","_law_p","_law_tables"]:Lf).Nodup:=by decide +kernel
def z11{Q:V->Hp->Prop}(h:aY K H p xs)(h':iO xs i=some v)(q:Q v H):lZ K (.ref p) (.int i) H Q:=⟨p,xs,i,v,Z,Z,h,h',q⟩
def dW(r:bM k A):A.units+1<cLine:=by have:=r.units;lia
def WO{X:Cx}{x:Lq}{i:Lq}{a:Pos}(c:∃b,X.mg x=some (.str i b))(d:Gl X x)(h:↑↑((x==("__debug__":Lq))=false)):PE X (.Name x a) (tC<|.str i):=by let⟨b,e⟩:=c;exact J0 d e ⟨b,Z⟩ h
end
section
open K1 K2 K3 K6 K8 K37 G
def E4(R:St->Hp->Prop)(c:∀σ' H',R σ' H'->r D σ' H')(b:∀N,(∀σ' H',R σ' H'->N σ' H')->a { D with nx:=N } σ H):lR a r D σ H:=by unfold lR;exact b _ c
inductive gF(vs:Lg)(H:Hp)(Q:VK)(E:XK):Prop
 | mk (a b:Int) (_:vs=[.int a,.int b]) (_:0<=a/\0<=b/\Q (.int<|gI a b) H)
inductive jM(K:Lj)(vs:Lg)(H:Hp)(Q:VK)(E:XK):Prop
 | mk (p C dx:Lh) (v:V) (_:vs=[.ref p,v]) (_:H p=some (.ins C dx [])/\iG K C/\cE K C "prime"/\Q .non (upd H p<|.ins C dx [("prime",v)]))
inductive iJ(CF:Lh)(vs:Lg)(H:Hp)(Q:VK)(E:XK):Prop
 | mk (p dx:Lh) (_:vs=[.ref p]) (_:H p=some (.ins CF dx [])/\Q .non (upd H p<|.ins CF dx [("prime",.int 0)]))
def cellOf(ns:Lc)(k:Int):Int:=ns.getD k.toNat 0
inductive lY(K:Lj)(vs:Lg)(H:Hp)(Q:VK)(E:XK):Prop
 | mk (a:Lh) (ns:Lc) (k:Int) (_:vs=[.ref a,.int k]) (_:aQ K H a (ns.map V.int)/\0<=k/\Q (.int<|cellOf ns k) H)
def T2{a:Lc}(h0:0<=k)(h:k<(a.length:Int)):iO (a.map V.int) k=some (.int<|cellOf a k):=by
 let b:k.toNat<a.length:=by lia
 let c:k=((k.toNat:Nat):Int):=by lia
 let q:iO (a.map V.int) ((k.toNat:Nat):Int)=some (.int a[k.toNat]):=iC (by rw[Ym,Yc b] <;> rfl);rw[<- c]at q;rw[q];unfold cellOf;rw[List.getD_eq_getElem?_getD,Yc b];rfl
inductive mX(vs:Lg)(H:Hp)(Q:VK)(E:XK):Prop
 | mk (n:Int) (_:vs=[.int n]) (_:n<=9973/\Q (.bl<|qK n) H)
inductive mV(CR:Lh)(vs:Lg)(H:Hp)(Q:VK)(E:XK):Prop
 | mk (p dx:Lh) (n:Int) (_:vs=[.ref p,.int n]) (_:H p=some (.ins CR dx []) /\
 n<=9973/\qK n=true/\Q .non (upd H p<|.ins CR dx [("prime",.int n)]))
def MQ{d n:Int}(h2:2<=d)(h:d<=101):-(2^64)<d/\d<2^64:=by lia
structure Nm(x y:Int):Prop where
 pos:1<=y
 bx:x.natAbs<2^8900
 bz:y.natAbs<2^8900
 cop:gI x y=1
def up(h:n<2^a)(c:a<=b):n<2^b:=Yf h<|Yv ∅ c
def Nm.mul(h:Nm x y)(h':Nm z t):fN x z/\fN x t/\fN y t/\fN z y/\fN y z:=
 ⟨⟨up h.bx ∅,up h'.bx ∅⟩,⟨up h.bx ∅,up h'.bz ∅⟩,⟨up h.bz ∅,up h'.bz ∅⟩,⟨up h'.bx ∅,up h.bz ∅⟩,⟨up h.bz ∅,up h'.bx ∅⟩⟩
def wC(CF:Lh)(H:Hp)(p dx:Lh):Prop:=H p=some (.ins CF dx [("prime",.int 0)])
def iP(H:Hp)(r:Lh)(x y:Int):Prop:=H r=some (.tup [.int x,.int y])
inductive iL(CF:Lh)(t b:Int->Int->Int->Int->Int)(vs:Lg)(H:Hp)(Q:VK)(E:XK):Prop
 | mk (p dx ra rb:Lh) (x y z w:Int) (_:vs=[.ref p,.ref ra,.ref rb]) (_:wC CF H p dx/\iP H ra x y/\iP H rb z w/\Nm x y/\Nm z w /\
 ∀r H',aJ H H'->iP H' r (fT (t x y z w)<|b x y z w) (fB (t x y z w)<|b x y z w)->Q (.ref r) H')
inductive uA(vs:Lg)(H:Hp)(Q:VK)(E:XK):Prop
 | mk (p:V) (ra:Lh) (x y:Int) (_:vs=[p,.ref ra]) (_:iP H ra x y/\∀r H',aJ H H'->iP H' r (-x) y->Q (.ref r) H')
inductive tH(CF:Lh)(vs:Lg)(H:Hp)(Q:VK)(E:XK):Prop
 | mk (p dx ra:Lh) (x y:Int) (_:vs=[.ref p,.ref ra]) (_:wC CF H p dx/\iP H ra x y/\Nm x y /\
 x≠0/\∀r H',aJ H H'->iP H' r (fT y x) (fB y x)->Q (.ref r) H')
def CU(x y z w:Int):Int:=x*fT w z
def CV(x y z w:Int):Int:=y*fB w z
inductive tL(CF:Lh)(vs:Lg)(H:Hp)(Q:VK)(E:XK):Prop
 | mk (p dx ra rb:Lh) (x y z w:Int) (_:vs=[.ref p,.ref ra,.ref rb]) (_:wC CF H p dx/\iP H ra x y/\iP H rb z w/\Nm x y/\Nm z w /\
 z≠0/\∀r H',aJ H H'->iP H' r (fT (CU x y z w)<|CV x y z w) (fB (CU x y z w)<|CV x y z w)->Q (.ref r) H')
def Nm.tu(h:Nm x y)(a:x≠0):Nm (fT y x) (fB y x):=
 ⟨D4 a,Yp (z3b a) h.bz,Yp (z3c a) h.bx,DU a⟩
def wZ(a b:Int):gI (if a<0 then -a else a) b=gI a b:=z28 a b
def ST(a b:Int):gI (-a) b=gI a b:=by unfold gI;rw[Int.neg_gcd]
def xT(c:b≠0)(h:b.natAbs<n):gI a b≠0/\(gI a b).natAbs<n:=by have:=oO (a:=a) c;refine⟨⋯,Yp ?_ h⟩;unfold gI;rw[Int.natAbs_natCast];exact Nat.le_of_dvd ⋯ (Nat.gcd_dvd_right _ _)
def HH(c:b≠0)(h:a.natAbs<n):(Int.fdiv a<|gI a b).natAbs<n:=by have:=oO (a:=a) c;exact Yp (DH (L4 a b) ⋯) h
def G9(c:b≠0)(h:b.natAbs<n):(Int.fdiv b<|gI a b).natAbs<n:=by have:=oO (a:=a) c;exact Yp (DH (B7 a b) ⋯) h
def vR(m:Lq)(h:¬m = "prime"):([("prime",V.int 0)]:List (Lq×V)).lookup m=none:=by
 let e:(m==(Str.ofString "prime"))=false:=by
  cases q:(m==(Str.ofString "prime")) with
  | true=>exact absurd (Jy q) h
  | false=>rfl
 simp only[List.lookup,e]
def qB(CR:Lh)(H:Hp)(p dx:Lh)(n:Int):Prop:=H p=some (.ins CR dx [("prime",.int n)])/\Pr n/\n<=9973
def vQ(m:Lq)(n:Int)(h:¬m = "prime"):([("prime",V.int n)]:List (Lq×V)).lookup m=none:=by
 let e:(m==(Str.ofString "prime"))=false:=by
  cases q:(m==(Str.ofString "prime")) with
  | true=>exact absurd (Jy q) h
  | false=>rfl
 simp only[List.lookup,e]
def In(n a:Int):Prop:=0<=a/\a<n
inductive GO(v:V)(vs:Lg)(H:Hp)(Q:VK)(E:XK):Prop
 | mk (p:V) (_:vs=[p]) (_:Q v H)
inductive iK(CR:Lh)(g:Int->Int->Int->Int)(vs:Lg)(H:Hp)(Q:VK)(E:XK):Prop
 | mk (p dx:Lh) (n a b:Int) (_:vs=[.ref p,.int a,.int b]) (_:qB CR H p dx n/\In n a/\In n b/\Q (.int<|g n a b) H)
inductive tZ(CR:Lh)(vs:Lg)(H:Hp)(Q:VK)(E:XK):Prop
 | mk (p dx:Lh) (n a:Int) (_:vs=[.ref p,.int a]) (_:qB CR H p dx n/\In n a/\Q (.int<|-a%n) H)
def AR(n a f:Int):Prop:=0<=f/\f<n/\(f*a-1)%n=0
inductive tG(CR:Lh)(vs:Lg)(H:Hp)(Q:VK)(E:XK):Prop
 | mk (p dx:Lh) (n a:Int) (_:vs=[.ref p,.int a]) (_:qB CR H p dx n/\In n a/\a≠0/\∀f,AR n a f->Q (.int f) H)
inductive tK(CR:Lh)(vs:Lg)(H:Hp)(Q:VK)(E:XK):Prop
 | mk (p dx:Lh) (n a b:Int) (_:vs=[.ref p,.int a,.int b]) (_:qB CR H p dx n/\In n a/\In n b/\b≠0/\∀f,AR n b f->Q (.int<|a*f%n) H)
inductive lW(x y:Int)(vs:Lg)(H:Hp)(Q:VK)(E:XK):Prop
 | mk (p:V) (_:vs=[p]) (_:∀r H',aJ H H'->H' r=some (.tup [.int x,.int y])->Q (.ref r) H')
inductive pE(vs:Lg)(H:Hp)(Q:VK)(E:XK):Prop
 | mk (p:V) (t b:Int) (_:vs=[p,.int t,.int b]) (_:b.natAbs<2^8900 /\
 b≠0/\∀r H',aJ H H'->H' r=some (.tup [.int<|fT t b,.int<|fB t b])->Q (.ref r) H')
def z1o(h:b≠0)(a:b.natAbs<2^8900):dv t b≠0/\(dv t b).natAbs<2^8999:=⟨wM h,Yf (Yp (z3a h) a)<|Yv ∅ ∅⟩
def oK(CF:Lh)(H:Hp)(p:Lh):Prop:=∃dx,H p=some (.ins CF dx [("prime",.int 0)])
def nV(CR:Lh)(n:Int)(H:Hp)(p:Lh):Prop:=∃dx,qB CR H p dx n
def jO(m:Lq)(n:Int)(h:¬m = "prime"):([("prime",V.int n)]:List (Lq×V)).lookup m=none:=vQ m n h
def nN(CF CR:Lh)(n:Int):Hp->Lh->Prop:=if n=0 then oK CF else nV CR n
def HU(CG:Lh)(dx:Lh)(m:Int)(pf po:Lh):HO:=.ins CG dx [("many",.int m),("field",.ref pf),("order",.ref po)]
def rT(CG:Lh)(H:Hp)(r:Lh)(m:Int)(pf po:Lh):Prop:=∃dx,H r=some (HU CG dx m pf po)
def AD(x:Lq)(c:¬x = "many")(b:¬x = "field")(a:¬x = "order"):([("many",V.int m),("field",.ref pf),("order",.ref po)]:List (Lq×V)).lookup x=none:=by
 let e:∀y:Lq,¬x=y->(x==y)=false:=λy h=>by
  cases q:(x==y) with
  | true=>exact absurd (Jy q) h
  | false=>rfl
 simp only[List.lookup,e _ c,e _ b,e _ a]
inductive pA(n:Int)(At:Hp->Lh->Prop)(vs:Lg)(H:Hp)(Q:VK)(E:XK):Prop
 | mk (F:Type) (_:Ta F) (_:cM n F) (p:Lh) (v1 v2:V) (x y:F) (_:vs=[.ref p,v1,v2]) (_:At H p/\bY n H v1 x/\bY n H v2 y/\cL n 8900 x/\cL n 8900 y/\∀v H',aJ H H'->bY n H' v (x+y)->Q v H')
inductive oY(n:Int)(At:Hp->Lh->Prop)(vs:Lg)(H:Hp)(Q:VK)(E:XK):Prop
 | mk (F:Type) (_:Ta F) (_:cM n F) (p:Lh) (v1 v2:V) (x y:F) (_:vs=[.ref p,v1,v2]) (_:At H p/\bY n H v1 x/\bY n H v2 y/\cL n 8900 x/\cL n 8900 y/\∀v H',aJ H H'->bY n H' v (x*y)->Q v H')
inductive kN(c n:Int)(At:Hp->Lh->Prop)(vs:Lg)(H:Hp)(Q:VK)(E:XK):Prop
 | mk (F:Type) (_:Ta F) (_:cM n F) (p:Lh) (_:vs=[.ref p]) (_:At H p/\∀v H',aJ H H'->bY n H' v (ic c:F)->Q v H')
inductive pQ(n:Int)(At:Hp->Lh->Prop)(vs:Lg)(H:Hp)(Q:VK)(E:XK):Prop
 | mk (F:Type) (_:Ta F) (_:cM n F) (p:Lh) (v:V) (x:F) (_:vs=[.ref p,v]) (_:At H p/\bY n H v x/\∀v' H',aJ H H'->bY n H' v' (-x)->Q v' H')
inductive pB(n:Int)(At:Hp->Lh->Prop)(vs:Lg)(H:Hp)(Q:VK)(E:XK):Prop
 | mk (F:Type) (_:Ta F) (_:cM n F) (p:Lh) (v1 v2:V) (x y:F) (_:vs=[.ref p,v1,v2]) (_:At H p/\bY n H v1 x/\bY n H v2 y/\cL n 8900 x/\cL n 8900 y/\y≠0/\∀z v H',z*y=x->aJ H H'->bY n H' v z->Q v H')
structure rX(P:Lm)(w:Ll)(K:Lj)(mg:Sa)(base:Lp)(C:Lh)(At:Hp->Lh->Prop)(n:Int):Prop where
 same:∀{H H':Hp} {p:Lh},(∀b o,H b=some o->(∃C' dx fs,o=.ins C' dx fs)->H' b=some o)->At H p->At H' p
 ins:∀{H:Hp} {p:Lh},At H p->∃dx,H p=some (.ins C dx [("prime",.int n)])
 nought:cQ P w K mg base dG 1 C "nought" ["self"] [] (kN 0 n At)
 one:cQ P w K mg base dG 1 C "one" ["self"] [] (kN 1 n At)
 plus:cQ P w K mg base dG 3 C "plus" ["self","a","b"] [] (pA n At)
 times:cQ P w K mg base dG 3 C "times" ["self","a","b"] [] (oY n At)
 against:cQ P w K mg base dG 1 C "against" ["self","a"] [] (pQ n At)
 over:cQ P w K mg base dG 5 C "over" ["self","a","b"] [] (pB n At)
def wK[Ta F][cM 0 F]{x:F}(h:bY 0 H v x)(l:cL 0 8900 x):∃(r:Lh) (p q:Int),v=.ref r/\iP H r p q/\Nm p q/\x*ic q=ic p:=by let⟨r,p,q,e,i,a,c,ex,b,d⟩:=yP h l;exact⟨r,p,q,e,i,⟨a,b,d,c⟩,ex⟩
def EC{y w:Int}(hy:1<=y)(hw:1<=w):y*w≠0:=by intro q;rcases Int.mul_eq_zero.mp q with q | q <;> lia
def KC:∀vs H Q E,kN c 0 At vs H Q E->lW c 1 vs H Q E:=λ_ _ _ _ ⟨F,_,_,p,e,_,k⟩=>⟨.ref p,e,λr _ a h=>k _ _ a<|fG.mpr ⟨r,c,1,Z,h,∅,IY c,by rw[cT];grind⟩⟩
def LG(a:Pr n)(b:0<=c)(c1:c<=1){At:Hp->Lh->Prop}:∀vs H Q E,kN c n At vs H Q E->GO (.int c) vs H Q E:=λ_ _ _ _ ⟨F,_,_,p,e,_,k⟩=>
 ⟨.ref p,e,k _ _ (aJ.refl _)<|(iA<|wN a).mpr ⟨c,Z,b,by have:=a.1;lia,Z⟩⟩
def S4:∀vs H Q E,pA 0 (oK CF) vs H Q E->iL CF (λx y z w=>x*w+z*y) (λx y z w=>y*w) vs H Q E:=λ_ _ _ _ ⟨F,_,_,p,v1,v2,a,b,e,⟨v,A⟩,o,m,C,q,k⟩=>by let⟨s,x,y,rfl,j,c,i⟩:=wK o C;let⟨u,z,w,rfl,l,d,n⟩:=wK m q;refine⟨p,v,s,u,x,y,z,w,e,A,j,l,c,d,λr H' B h=>k _ _ B<|B6 (EC c.pos d.pos) h ?_⟩;rw[wT,dE,dE,dE,<- i,<- n];grind
def T9:∀vs H Q E,oY 0 (oK CF) vs H Q E->iL CF (λx y z w=>x*z) (λx y z w=>y*w) vs H Q E:=λ_ _ _ _ ⟨F,_,_,p,v1,v2,a,b,e,⟨v,A⟩,o,m,C,q,k⟩=>by let⟨s,x,y,rfl,j,c,i⟩:=wK o C;let⟨u,z,w,rfl,l,d,n⟩:=wK m q;refine⟨p,v,s,u,x,y,z,w,e,A,j,l,c,d,λr H' B h=>k _ _ B<|B6 (EC c.pos d.pos) h ?_⟩;rw[dE,dE,<- i,<- n];grind
def TX:∀vs H Q E,pB 0 (oK CF) vs H Q E->tL CF vs H Q E:=λ_ _ _ _ ⟨F,_,_,p,v1,v2,a,b,e,⟨u,J⟩,n,m,v,o,I,k⟩=>by
 let⟨q,x,y,rfl,B,i,A⟩:=wK n v;let⟨s,z,w,rfl,C,j,l⟩:=wK m o;let w0:ic (F:=F) w≠0:=yE (by have:=j.pos;lia);let y0:ic (F:=F) y≠0:=yE (by have:=i.pos;lia);let d:z≠0:=by rintro rfl;rw[gT]at l;apply I;grind
 refine⟨p,u,q,s,x,y,z,w,e,J,B,C,i,j,d,λr H' K h=>k (a*b⁻¹) _ _ (by grind) K<|B6 (EC i.pos (j.tu d).pos) h ?_⟩;let G:ic (F:=F) (fT w z)*ic z=ic w*ic (fB w z):=by rw[<- dE,<- dE,EU d]
 let zn:ic (F:=F) z≠0:=yE d;show a*b⁻¹ * ic (CV x y z w)=ic (CU x y z w);unfold CV CU;rw[dE,dE,<- A];let D:b⁻¹ * ic z=ic w:=by rw[<- l];grind
 let key:b⁻¹ * ic (fB w z)*ic z=ic (fT w z)*ic z:=by rw[G,<- D];grind
 let c:b⁻¹ * ic (fB w z)=ic (fT w z):=by grind
 rw[<- c];grind
def SI{CR:Lh}(d:Pr n):∀vs H Q E,pA n (nV CR n) vs H Q E->iK CR (λn a b=>(a+b)%n) vs H Q E:=λ_ _ _ _ ⟨F,_,_,p,v1,v2,a,b,e,⟨s,u⟩,o,i,s1,s2,k⟩=>by let c:=wN d;let p2:=d.1;let⟨x,rfl,m,j,h⟩:=(iA c).mp o;let⟨y,rfl,r,q,l⟩:=(iA c).mp i;exact⟨p,s,n,x,y,e,u,⟨m,j⟩,⟨r,q⟩,k _ _ (aJ.refl _)<|(iA c).mpr ⟨_,Z,Jn _ c,Jd _ ⋯,by rw[yC,wT,h,l]⟩⟩
def T4{CR:Lh}(d:Pr n):∀vs H Q E,oY n (nV CR n) vs H Q E->iK CR (λn a b=>a*b%n) vs H Q E:=λ_ _ _ _ ⟨F,_,_,p,v1,v2,a,b,e,⟨s,u⟩,o,i,s1,s2,k⟩=>by let c:=wN d;let p2:=d.1;let⟨x,rfl,m,j,h⟩:=(iA c).mp o;let⟨y,rfl,r,q,l⟩:=(iA c).mp i;exact⟨p,s,n,x,y,e,u,⟨m,j⟩,⟨r,q⟩,k _ _ (aJ.refl _)<|(iA c).mpr ⟨_,Z,Jn _ c,Jd _ ⋯,by rw[yC,dE,h,l]⟩⟩
def S2{CR:Lh}(h:Pr n):∀vs H Q E,pB n (nV CR n) vs H Q E->tK CR vs H Q E:=λ_ _ _ _ ⟨F,_,_,p,v1,v2,a,b,e,⟨w,A⟩,q,l,s1,s2,r,k⟩=>by
 let c:=wN h;let p2:=h.1;let⟨x,rfl,o,m,j⟩:=(iA c).mp q;let⟨y,rfl,u,s,d⟩:=(iA c).mp l;refine⟨p,w,n,x,y,e,A,⟨o,m⟩,⟨u,s⟩,?_,λf v=>k (a*ic f) _ _ ?_ (aJ.refl _)<|(iA c).mpr ⟨_,Z,Jn _ c,Jd _ ⋯,by rw[yC,dE,j]⟩⟩
 ·rintro rfl;rw[gT]at d;exact r d
 ·let i:ic (F:=F) (f*y-1)=0:=(cM.z (n:=n) _).mpr ((qN c).mpr v.2.2);rw[EL,dE,cT]at i;rw[d];grind
def T8:∀vs H Q E,pQ 0 At vs H Q E->uA vs H Q E:=λ_ _ _ _ ⟨F,_,_,p,v,a,e,_,d,k⟩=>by let⟨j,x,y,rfl,c,l,i,b⟩:=fG.mp d;refine⟨.ref p,j,x,y,e,c,λr H' m h=>k _ _ m<|fG.mpr ⟨r,_,_,Z,h,l,by rw[ST];exact i,by rw[EN,<- b];grind⟩⟩
def UH{CR:Lh}(c:Pr n):∀vs H Q E,pQ n (nV CR n) vs H Q E->tZ CR vs H Q E:=λ_ _ _ _ ⟨F,_,_,p,v,a,e,⟨j,l⟩,h,k⟩=>by let b:=wN c;let p2:=c.1;let⟨x,rfl,m,i,d⟩:=(iA b).mp h;exact⟨p,j,n,x,e,l,⟨m,i⟩,k _ _ (aJ.refl _)<|(iA b).mpr ⟨_,Z,Jn _ b,Jd _ ⋯,by rw[yC,EN,d]⟩⟩
def z1n{c CR:Lh}(l:cQ P w K mg base dG 1 c "nought" ["self"] [] (kN 0 0<|oK c))(j:cQ P w K mg base dG 1 c "one" ["self"] [] (kN 1 0<|oK c))(i:cQ P w K mg base dG 3 c "plus" ["self","a","b"] [] (pA 0<|oK c)) (o:cQ P w K mg base dG 3 c "times" ["self","a","b"] [] (oY 0<|oK c)) (n:cQ P w K mg base dG 1 c "against" ["self","a"] [] (pQ 0<|oK c)) (m:cQ P w K mg base dG 5 c "over" ["self","a","b"] [] (pB 0<|oK c)):rX P w K mg base c (nN c CR 0) 0:=by let e:nN c CR 0=oK c:=Yl rfl;rw[e];exact⟨λk ⟨d,h⟩=>⟨d,k _ _ h ⟨_,_,_,Z⟩⟩,fun⟨d,h⟩=>⟨d,h⟩,l,j,i,o,n,m⟩
def z1h{d CR:Lh}(q:Pr n)(l:cQ P w K mg base dG 1 CR "nought" ["self"] [] (kN 0 n<|nV CR n))(j:cQ P w K mg base dG 1 CR "one" ["self"] [] (kN 1 n<|nV CR n))(i:cQ P w K mg base dG 3 CR "plus" ["self","a","b"] [] (pA n<|nV CR n)) (p:cQ P w K mg base dG 3 CR "times" ["self","a","b"] [] (oY n<|nV CR n)) (o:cQ P w K mg base dG 1 CR "against" ["self","a"] [] (pQ n<|nV CR n)) (m:cQ P w K mg base dG 5 CR "over" ["self","a","b"] [] (pB n<|nV CR n)):rX P w K mg base CR (nN d CR n) n:=by let e:nN d CR n=nV CR n:=Yh<|wN q;rw[e];exact⟨λk ⟨c,h⟩=>⟨c,k _ _ h.1 ⟨_,_,_,Z⟩,h.2⟩,fun⟨c,h⟩=>⟨c,h.1⟩,l,j,i,p,o,m⟩
structure jG(xs:Lc):Prop where
 len:xs.length<=100
 ne:xs≠[]
 nn:Nn xs
 hi:∀x∈xs,x<10^31
def IW(xs:Lc)(i:Nat):xs.getD i 0=0\/xs.getD i 0∈xs:=by
 rw[List.getD_eq_getElem?_getD];cases q:xs[i]? with
 | none=>exact .inl rfl
 | some v=>exact .inr<|Yx q
def Nn.getD(h:Nn xs)(i:Nat):0<=xs.getD i 0:=by
 rcases IW xs i with q | q
 ·lia
 ·exact h _ q
def rQ(b:Nn xs)(c:∀x∈xs,x<10^31)(i:Nat):(xs.getD i 0).natAbs<2^4000:=by
 let h0:=b.getD i;let a:(xs.getD i 0).natAbs<2^110:=by
  let e:((2^110:Nat):Int)=2^110:=by decide
  let l:(10:Int)^31<2^110:=by decide
  rcases IW xs i with q | q
  ·lia
  ·have:=c _ q;lia
 exact Yf a<|Yv ∅ ∅
structure mG(C:Lh)(At:Hp->Lh->Prop):Prop where
 same:∀{H H':Hp} {p:Lh},aJ H H'->At H p->At H' p
 ins:∀{H:Hp} {p:Lh},At H p->∃dx fs,H p=some (.ins C dx fs)/\∀m:Lq,¬m = "weights"->fs.lookup m=none
def nW(C:Lh)(H:Hp)(p:Lh):Prop:=∃dx,H p=some (.ins C dx [])
def AX(C:Lh)(ws:Lc)(H:Hp)(p:Lh):Prop:=∃dx wt,H p=some (.ins C dx [("weights",.ref wt)])/\H wt=some (.tup<|ws.map V.int)
def G3(v:V)(m:Lq)(h:¬m = "weights"):([("weights",v)]:List (Lq×V)).lookup m=none:=by
 let e:(m==(Str.ofString "weights"))=false:=by
  cases q:(m==(Str.ofString "weights")) with
  | true=>exact absurd (Jy q) h
  | false=>rfl
 simp only[List.lookup,e]
def qP(C:Lh):mG C (nW C):=⟨λe ⟨a,h⟩=>⟨a,e _ _ h⟩,fun⟨a,h⟩=>⟨a,[],h,λ_ _=>Z⟩⟩
def DL(C:Lh)(ws:Lc):mG C (AX C ws):=⟨λe ⟨a,b,c,d⟩=>⟨a,b,e _ _ c,e _ _ d⟩,fun⟨a,b,h,_⟩=>⟨a,_,h,G3 _⟩⟩
inductive nE(K:Lj)(vs:Lg)(H:Hp)(Q:VK)(E:XK):Prop
 | mk (a:Lh) (xs:Lc) (_:vs=[.ref a]) (_:aY K H a (xs.map V.int)/\Q (.int xs.sum) H)
inductive eN(At:Hp->Lh->Prop)(rk:Lc->Lc)(vs:Lg)(H:Hp)(Q:VK)(E:XK):Prop
 | mk (p t:Lh) (xs:Lc) (_:vs=[.ref p,.ref t]) (_:At H p/\H t=some (.tup<|xs.map V.int)/\jG xs/\∀r H',aJ H H'->H' r=some (.tup<|(rk xs).map V.int)->Q (.ref r) H')
inductive mR(K:Lj)(C:Lh)(vs:Lg)(H:Hp)(Q:VK)(E:XK):Prop
 | mk (p dx l:Lh) (ws:Lc) (_:vs=[.ref p,.ref l]) (_:H p=some (.ins C dx [])/\aQ K H l (ws.map V.int)/\ws.length<=100 /\
 Nn ws/\∀wt H',H' p=some (.ins C dx [("weights",.ref wt)])->H' wt=some (.tup<|ws.map V.int)->(∀b o,H b=some o->b≠p->H' b=some o)->Q .non H')
def jW(CO CD CT CW:Lh)(k:Int)(ws:Lc):Hp->Lh->Prop:=if k=0 then nW CO else if k=1 then nW CD else if k=2 then nW CT else AX CW ws
noncomputable instance xI(ws:Lc):Decidable (Nn ws):=Classical.propDecidable _
def T7(ws:Lc):((List.range ws.length).map λi=>decide<|ws.getD i 0<0).any id = !decide (Nn ws):=by
 by_cases h:Nn ws
 ·rw[Yo h,Bool.not_true,List.any_eq_false];intro b d;let⟨i,_,rfl⟩:=Jj.mp d;have:=h.getD i;show decide (ws.getD i 0<0)≠true;rw[Yw ⋯];decide
 ·rw[Yw h,Bool.not_false,List.any_eq_true];have:∃x∈ws,x<0:=Classical.byContradiction λz=>h λx a=>by
   rcases(by lia:x<0\/0<=x) with q | q
   ·exact absurd ⟨x,a,q⟩ z
   ·exact q
  let⟨x,a,q⟩:=this;let⟨i,c,e⟩:=List.mem_iff_getElem.mp a;exact⟨_,Jj.mpr ⟨i,List.mem_range.mpr c,Z⟩,by simp[List.getD,c,e,q]⟩
inductive nC(At:Hp->Lh->Prop)(rk:Lc->Lc)(vs:Lg)(H:Hp)(Q:VK)(E:XK):Prop
 | mk (p l:Lh) (ys:Lg) (xss:Lb) (_:vs=[.ref p,.ref l]) (_:At H p/\H l=some (.lst ys)/\Paired (fX H) xss ys/\(∀xs∈xss,jG xs) /\
 ys≠[]/\∀H' xs v,aJ H H'->(xs,v)∈xss.zip ys->(∀p∈xss.zip ys,HT.lexLt (rk xs) (rk p.1)=false)->Q v H')
inductive lX(At:Hp->Lh->Prop)(b:Int->Bool)(vs:Lg)(H:Hp)(Q:VK)(E:XK):Prop
 | mk (p:Lh) (k:Int) (_:vs=[.ref p,.int k]) (_:At H p/\∀H',aJ H H'->Q (.bl<|b k) H')
def cK(kd:Int)(ws xs:Lc):Lc:=if kd=0 then uE xs else if kd=3 then uD ws xs else if kd=1 then uF xs else rC xs
theorem FP{K:Lj}{rk:Lc->Lc}{l:Lh}{all:Lg}{sp:V->Hp->VK->Prop}{Q:VK}{H:Hp}{Pw:Lc->Prop}(m:∀H1 r xs Q,aJ H H1->H1 r=some (.tup<|xs.map V.int)->Pw xs->(∀k n,aJ H1 n->n k=some (.tup<|(rk xs).map V.int)->Q (.ref k) n)->sp (.ref r) H1 Q):∀(xss:Lb) (ys:Lg) (xb:Lc) (b:V) (c:Lh) (H1:Hp) (done:Lb),aJ H H1->H1 l=some (.lst all)->Paired (fX H1) xss ys->(∀xs∈xss,Pw xs) ->
  aY K H1 c ((rk xb).map V.int)->(∀d∈done,HT.lexLt (rk xb) (rk d)=false) ->
  (∀H' x v,aJ H H'->((x,v)=(xb,b)\/(x,v)∈xss.zip ys)->(∀d∈done,HT.lexLt (rk x) (rk d)=false)->(∀d∈xss,HT.lexLt (rk x) (rk d)=false)->Q v H') ->
  pX K l all sp ys b (.ref c) H1 Q
 | [],_,xb,b,c,H1,done,e,_,.nil,_,_,hd,hQ=>hQ H1 xb b e (.inl rfl) hd<|λ_ h=>nomatch h
 | xs::xss,_::ys,xb,b,c,H1,done,e,hl,.cons ⟨r,er,hr⟩ t,hw,hc,hd,hQ=>by
  subst er;refine m H1 r xs _ e hr (hw xs<|.head _) λk n j u=>have o:=aY.of (K:=K) u;⟨j _ _ hl,k,c,rk xs,rk xb,Z,Z,o,j.seqT hc,λs=>?_,λA=>?_⟩
  ·refine FP m xss ys xs (.ref r) k n (xs::xb::done) (e.trans j) (j _ _ hl) (bH (λ_ _ h=>h.same j) t) (λx y=>hw x<|.tail _ y) o (λd h=>?_) λH' x v z i p w=>hQ H' x v z (.inr ?_) (λd a=>p d<|.tail _<|.tail _ a)<|λd a=>?_
   ·rcases Yj.mp h with rfl | h
    ·exact qS _
    rcases Yj.mp h with rfl | h
    ·exact S8 s
    ·cases q:HT.lexLt (rk xs) (rk d) with
     | false=>rfl
     | true=>have:=uU s q;rw[hd d h]at this;cases this
   ·rcases i with i | i
    ·rw[i];exact .head _
    ·exact .tail _ i
   ·rcases Yj.mp a with rfl | a
    ·exact p d<|.head _
    ·exact w d a
  ·refine FP m xss ys xb b c n (xs::done) (e.trans j) (j _ _ hl) (bH (λ_ _ h=>h.same j) t) (λx y=>hw x<|.tail _ y) (j.seqT hc) (λd h=>?_) λH' x v z i p w=>hQ H' x v z ?_ (λd a=>p d<|.tail _ a)<|λd a=>?_
   ·rcases Yj.mp h with rfl | h
    ·exact A
    ·exact hd d h
   ·rcases i with i | i
    ·exact .inl i
    ·exact .inr<|.tail _ i
   ·rcases Yj.mp a with rfl | a
    ·exact p d<|.head _
    ·exact w d a
theorem UE{rk:Lc->Lc}{Pw:Lc->Prop}(i:∀H1 r xs Q,aJ H H1->H1 r=some (.tup<|xs.map V.int)->Pw xs->(∀k e,aJ H1 e->e k=some (.tup<|(rk xs).map V.int)->Q (.ref k) e)->sp (.ref r) H1 Q):∀xss ys,H l=some (.lst all)->Paired (fX H) xss ys->(∀xs∈xss,Pw xs)->ys≠[] ->
  (∀H' x v,aJ H H'->(x,v)∈xss.zip ys->(∀q∈xss.zip ys,HT.lexLt (rk x) (rk q.1)=false)->Q v H') ->
  xY K l all sp ys H Q
 | [],_,_,.nil,_,ne,_=>absurd rfl ne
 | xs::xss,_::ys,hl,.cons ⟨r,er,hr⟩ t,hw,_,k=>by
  subst er;refine i H r xs _ (aJ.refl _) hr (hw xs<|.head _) λs e j b=>have m:=aY.of (K:=K) b;⟨j _ _ hl,?_⟩;refine FP i xss ys xs (.ref r) s e [xs] j (j _ _ hl) (bH (λ_ _ h=>h.same j) t) (λx n=>hw x<|.tail _ n) m (λd p=>?_) λH' x v w c u o=>k H' x v w ?_ λq a=>?_
  ·rw[Yq.mp p];exact qS _
  ·rcases c with c | c
   ·rw[c];exact .head _
   ·exact .tail _ c
  ·rcases Yj.mp a with rfl | a
   ·exact u _<|.head _
   ·exact o _ (List.of_mem_zip a).1
def R7(c:mG C At){Q:VK}(a:Lb)(ys:Lg)(H:Hp)(h:At H p)(b:H l=some (.lst all))(d:Paired (fX H) a ys)(hw:∀xs∈a,jG xs)(m:ys≠[])(k:∀H' x v,aJ H H'->(x,v)∈a.zip ys->(∀q∈a.zip ys,HT.lexLt (rk x) (rk q.1)=false)->Q v H'):xY K l all (λx H Q=>eN At rk [.ref p,x] H Q E0) ys H Q:=
 UE (Pw:=jG) (λ_ r xs _ e j i kk=>⟨p,r,xs,Z,c.same e h,j,i,kk⟩) a ys b d hw m k
def nR(kd:Int)(ws:Lc)(m:Int):Bool:=if kd=3 then decide ((ws.length:Int)=m) else true
def okR(kd:Int)(ws:Lc)(m:Int):Prop:=1<=m/\m<=4/\nR kd ws m=true
inductive kK(CG CO CD CT CW:Lh)(vs:Lg)(H:Hp)(Q:VK)(E:XK):Prop
 | mk (r dx:Lh) (m:Int) (pf po:Lh) (kd:Int) (ws:Lc) (_:vs=[.ref r,.int m,.ref pf,.ref po]) (_:H r=some (.ins CG dx [])/\0<=kd/\kd<4/\Nn ws/\(∀x∈ws,x<10^31)/\jW CO CD CT CW kd ws H po /\
 okR kd ws m/\∀H',H' r=some (HU CG dx m pf po)->(∀b o,H b=some o->b≠r->H' b=some o)->Q .non H')
def VC:((("xyzt":Lq).length:Nat):Int)=4:=by decide +kernel
def gJ{a b:V}:iO [a,b] 0=some a:=rfl
def gH{a b:V}:iO [a,b] 1=some b:=rfl
def zl(n:Nat)(h:n<=10000000):n<=sizeLine:=Yr h (by rw[sizeLine_eq];decide)
def gY(n:Nat)(h:n<=10000000):n<sizeLine:=Yp h (by rw[sizeLine_eq];decide)
def FQ{xs:Lc}(h:i<xs.length):iO (xs.map V.int) (i:Int)=some (.int<|xs.getD i 0):=iC (by simp[List.getD,h])
inductive pO(At:Hp->Lh->Prop)(rk:Lc->Lc)(vs:Lg)(H:Hp)(Q:VK)(E:XK):Prop
 | mk (p l:Lh) (ys:Lg) (xss:Lb) (_:vs=[.ref p,.ref l]) (_:At H p/\H l=some (.lst ys)/\Paired (fX H) xss ys/\(∀xs∈xss,jG xs)/\ys.length<7 /\
 ∀D H' (ps:List (Lc×V)),aJ H H'->ps.Perm (xss.zip ys)->ps.Pairwise (λp q=>HT.lexLt (rk p.1) (rk q.1)=false)->H' D=some (.lst<|ps.map (·.2))->Q (.ref D) H')
theorem J5(j:mG C At)(l:∀xs,jG xs->rk xs≠[]){F:Lg->Hp->Prop}:∀xss ys ks kis H H1,aJ H H1->At H1 p->Paired (fX H1) xss ys->(∀xs∈xss,jG xs) ->
  Paired (λb k=>∃t,k=V.ref t/\aY K H1 t (b.map V.int)/\b≠[]) kis ks ->
  (∀a H',aJ H H'->Paired (λb k=>∃t,k=V.ref t/\aY K H' t (b.map V.int)/\b≠[]) (kis++xss.map rk) a->F a H') ->
  iM (λx H Q=>eN At rk [.ref p,x] H Q E0) ys ks H1 F
 | [],_,ks,kis,H,H1,e,_,.nil,_,hk,hF=>by have:=hF ks H1 e ‹hk›;exact this
 | xs::xss,_,ks,kis,H,H1,e,hp,.cons ⟨r,er,hr⟩ t,hw,hk,hF=>by subst er;refine⟨p,r,xs,Z,hp,hr,hw xs<|.head _,λk s c d=>?_⟩;refine J5 j l xss _ _ (kis++[rk xs]) H s (e.trans c) (j.same c hp) (bH (λ_ _ h=>h.same c) t) (λx o=>hw x<|.tail _ o) (gG ⟨k,Z,aY.of d,l xs<|hw xs<|.head _⟩<|bH (λ_ _ ⟨t,m,q,n⟩=>⟨t,m,c.seqT q,n⟩) hk) λa H' u i=>hF a H' u ?_;simpa using i
structure mF(P:Lm)(w:Ll)(K:Lj)(mg:Sa)(base:Lp)(C:Lh)(At:Hp->Lh->Prop)(rk:Lc->Lc)(fb:Int->Bool):Prop where
 oC:mG C At
 fits:cQ P w K mg base dG 1 C "fits" ["self","many"] [] (lX At fb)
 rank:cQ P w K mg base dG 3 C "rank" ["self","term"] [] (eN At rk)
 first:cQ P w K mg base dG 6 C "first_of" ["self","terms"] [] (nC At rk)
 fall:cQ P w K mg base dG 6 C "falling" ["self","terms"] [] (pO At rk)
structure lD where
 m:Nat
 pf:Lh
 po:Lh
 n:Int
 kd:Int
 ws:Lc
def lD.rk(g:lD):Lc->Lc:=cK g.kd g.ws
structure kB(CG CF CR CO CD CT CW:Lh)(H:Hp)(r:Lh)(g:lD):Prop where
 nb:g.n<=9973
 np:g.n=0\/Pr g.n
 m1:1<=g.m
 m4:g.m<=4
 k0:0<=g.kd
 k4:g.kd<4
 wn:Nn g.ws
 wb:∀x∈g.ws,x<10^31
 at_:rT CG H r g.m g.pf g.po
 fd:nN CF CR g.n H g.pf
 od:jW CO CD CT CW g.kd g.ws H g.po
def vE{a CR:Lh}(k:cR H H')(h:nN a CR n H p):nN a CR n H' p:=by
 by_cases z:n=0
 ·subst z;let e:nN a CR 0=oK a:=Yl rfl;rw[e]at h ⊢;let⟨b,q⟩:=h;exact⟨b,k.ins q⟩
 ·let e:nN a CR n=nV CR n:=Yh z;rw[e]at h ⊢;let⟨b,q⟩:=h;exact⟨b,k.ins q.1,q.2⟩
def KU(k:cR H H')(h:jW CO CD CT CW kd ws H p):jW CO CD CT CW kd ws H' p:=by
 unfold jW at h ⊢
 repeat' split at h
 all_goals (first | rw[Yl<|by assumption] | skip)
 all_goals (first | rw[Yh<|by assumption] | skip)
 all_goals (first | rw[Yl<|by assumption] | skip)
 all_goals (first | rw[Yh<|by assumption] | skip)
 all_goals (first | rw[Yl<|by assumption] | skip)
 all_goals (first | rw[Yh<|by assumption] | skip)
 all_goals (first | (let⟨a,q⟩:=h;exact⟨a,k.ins q⟩) | (let⟨a,c,q,b⟩:=h;exact⟨a,c,k.ins q,k.tup _ _ b⟩))
section
variable{CG CF CR CO CD CT CW:Lh}{H H':Hp}{r:Lh}{g:lD}
def kB.fix(k:cR H H')(h:kB CG CF CR CO CD CT CW H r g):kB CG CF CR CO CD CT CW H' r g:=by let⟨a,q⟩:=h.at_;exact⟨h.nb,h.np,h.m1,h.m4,h.k0,h.k4,h.wn,h.wb,⟨a,k.ins q⟩,vE k h.fd,KU k h.od⟩
def kB.same(e:aJ H H')(h:kB CG CF CR CO CD CT CW H r g):kB CG CF CR CO CD CT CW H' r g:=h.fix<|.of e
def BF(kd:Int){ws:Lc}(a:Nn ws)(m:Nat):eJ (cK kd ws) m:=by
 unfold cK;by_cases c0:kd=0
 ·simp only[c0,if_pos];exact G1 m
 ·by_cases c3:kd=3
  ·simp only[c0,c3,if_neg,if_pos,not_false_eq_true];exact GZ a m
  ·by_cases c1:kd=1
   ·simp only[c0,c3,c1,if_neg,if_pos,not_false_eq_true];exact G2 m
   ·simp only[c0,c3,c1,if_neg,not_false_eq_true];exact G0 m
def kB.om(h:kB CG CF CR CO CD CT CW H r g):eJ g.rk g.m:=BF g.kd h.wn g.m
end
inductive lV(K:Lj)(vs:Lg)(H:Hp)(Q:VK)(E:XK):Prop
 | mk (a b:Lh) (xs ys:Lc) (_:vs=[.ref a,.ref b]) (_:aY K H a (xs.map V.int)/\aY K H b (ys.map V.int)/\xs.length<=1000/\∀r H',aJ H H'->H' r=some (.tup<|(aM xs ys).map V.int)->Q (.ref r) H')
inductive jL(K:Lj)(vs:Lg)(H:Hp)(Q:VK)(E:XK):Prop
 | mk (a b:Lh) (xs ys:Lc) (_:vs=[.ref a,.ref b]) (_:aY K H a (xs.map V.int)/\aY K H b (ys.map V.int)/\xs.length=ys.length/\xs.length<=1000/\∀H',aJ H H'->Q (.bl<|dP xs ys) H')
inductive pH(vs:Lg)(H:Hp)(Q:VK)(E:XK):Prop
 | mk (a b:Lh) (xs ys:Lc) (_:vs=[.ref a,.ref b]) (_:H a=some (.tup<|xs.map V.int)/\H b=some (.tup<|ys.map V.int)/\xs.length=ys.length/\xs.length<=1000/\dP xs ys=true/\∀r H',aJ H H'->H' r=some (.tup<|(aZ ys xs).map V.int)->Q (.ref r) H')
inductive uB(CG CF CR CO CD CT CW:Lh)(vs:Lg)(H:Hp)(Q:VK)(E:XK):Prop
 | mk (F:Type) (_:Ta F) (r d e:Lh) (g:lD) (_:cM g.n F) (ap fvs:Ka) (φ ψ:Po F) (_:vs=[.ref r,.ref d,.ref e]) (_:kB CG CF CR CO CD CT CW H r g/\d≠e/\H d=some (.dT ap)/\H e=some (.dT fvs) /\
 PF g.n g.m H ap φ/\PF g.n g.m H fvs ψ/\ap.length+fvs.length<sizeLine/\(∀t,cL g.n 8900<|φ t)/\(∀t,cL g.n 8900<|ψ t) /\
 ∀H' kvs',Kp [d] H H'->H' d=some (.dT kvs')->PF g.n g.m H' kvs' (λt=>φ t + ψ t)->kvs'.length<=ap.length+fvs.length->Q .non H')
inductive lU(CG CF CR CO CD CT CW:Lh)(vs:Lg)(H:Hp)(Q:VK)(E:XK):Prop
 | mk (F:Type) (_:Ta F) (r:Lh) (v:V) (t e:Lh) (g:lD) (_:cM g.n F) (fvs:Ka) (x:F) (l:Lc) (ψ:Po F) (_:vs=[.ref r,v,.ref t,.ref e]) (_:kB CG CF CR CO CD CT CW H r g /\
 bY g.n H v x/\cL g.n 8900 x/\H t=some (.tup<|l.map V.int)/\T0 g.m l/\H e=some (.dT fvs)/\PF g.n g.m H fvs ψ/\(∀t,cL g.n 8900<|ψ t)/\fvs.length<sizeLine /\
 ∀d H' ap,H d=none->aJ H H'->H' d=some (.dT ap)->PF g.n g.m H' ap (λt=>x*sh l ψ t)->ap.length<=fvs.length->Q (.ref d) H')
def vX[Ta F](φ:Po F):Prop:=∀t,φ t≠0->∀x∈t,x<10^31
def eR{α:Type}{l:List α}{a:α}(h:l[i]?=some a):i<l.length:=by
 rcases Jh i l.length with q | q
 ·exact q
 ·rw[Yy q]at h;cases h
def tms_list{m:Nat}{l:Lh}{ap:Ka}{as:Le}(h:ap.map (·.1)=us.map ky)(la:as.length=ap.length)(j:∀(i:Nat) k x,ap[i]?=some (k,x)->∃a,as[i]?=some a/\H a=some (.tup<|k.map kV)):Paired (fX H) us (as.map V.ref):=by
 let lu:us.length=ap.length:=by have:=Jx List.length h;simpa using this.symm
 let b:∀n,n<=us.length->Paired (fX H) (us.take n) ((as.map V.ref).take n):=λn=>by
  induction n with
  | zero=>intro _;simp;exact .nil
  | succ n ih=>
   intro hn;let c:n<ap.length:=by lia
   let⟨a,p,d⟩:=j n ap[n].1 ap[n].2 (by simp[c]);let e:ky (us[n]'⋯)=ap[n].1:=by have:=Jx (λx=>x[n]?) h;simp[c,show n<us.length by lia]at this;exact this.symm
   rw[List.take_add_one,List.take_add_one];let e1:us[n]?=some (us[n]'⋯):=Yc ⋯;let o:(as.map V.ref)[n]?=some (.ref a):=by rw[Ym,p];rfl
   rw[e1,o];refine gG ⟨a,Z,?_⟩<|ih ⋯;rw[<- e,hZ]at d;exact d
 have:=b us.length<|Yi _;rwa [List.take_length,List.take_of_length_le<|by rw[Yd];lia]at this
theorem pz{R:Lc->V->Prop}:∀{l} {ys},Paired R l ys->∀p∈l.zip ys,R p.1 p.2
 | _,_,.nil,p,a=>by cases a
 | _,_,.cons r t,p,a=>by
  rcases Yj.mp a with rfl | a
  ·exact r
  ·exact pz t p a
theorem JI{α e:Type}:∀{l:List α} {l':List e} {a},l.length=l'.length->a∈l->∃b,(a,b)∈l.zip l'
 | [],_,_,_,h=>by cases h
 | x::l,[],_,h,_=>by simp at h
 | x::l,y::l',a,h,c=>by
  rcases Yj.mp c with rfl | c
  ·exact⟨y,by simp⟩
  ·let⟨b,d⟩:=JI ‹h› c;exact⟨b,by simp[d]⟩
def LX(a:X.K=K)(b:X.A.units+64<cLine):eS X (compareOp .NotEq) (pU K true):=by subst a;exact SO b
def JO(h:T0 m t)(m1:1<=m)(m4:m<=4)(a:∀x∈t,x<10^31):jG t:=⟨by rw[h.len];lia,λz=>by have:=h.len;rw[z]at this;simp at this;lia,h.mem,a⟩
inductive vL(CG CF CR CO CD CT CW:Lh)(vs:Lg)(H:Hp)(Q:VK)(E:XK):Prop
 | mk (F:Type) (_:Ta F) (r d:Lh) (g:lD) (_:cM g.n F) (ap:Ka) (φ:Po F) (_:vs=[.ref r,.ref d]) (_:kB CG CF CR CO CD CT CW H r g/\H d=some (.dT ap)/\PF g.n g.m H ap φ/\vX φ/\ap≠[] /\
 ∀H' t a,aJ H H'->H' a=some (.tup<|t.map V.int)->Ld g.rk φ t->Q (.ref a) H')
def rB(xss:Lb):List PyData:=xss.map λxs=>PyData.tuple<|xs.map PyData.int
theorem MM:∀{xss} {ys},Paired (fX H) xss ys->bQ K H ys (rB xss)
 | _,_,.nil=>.nil
 | _,_,.cons ⟨r,er,hr⟩ t=>by subst er;exact .cons (.tup (aY.of hr)<|B8 _)<|MM t
theorem J8:∀xss,PyData.canLayAll0 (rB xss)=true
 | []=>rfl
 | xs::xss=>by let h:=J8 xss;simp only[rB,List.map_cons,PyData.canLayAll0,PyData.canLay0,W.ke_canLayAll0]at h ⊢;rw[h];rfl
theorem M5:∀xss,PyData.depthAll (rB xss)<=2
 | []=>by simp[rB,PyData.depthAll]
 | xs::xss=>by let h:=M5 xss;simp only[rB,List.map_cons,PyData.depthAll,PyData.depth,W.ke_depthAll]at h ⊢;lia
def ZV(a:Lb):SeqAt.shaped (.list<|rB a)=true:=by let b:=J8 a;let h2:=M5 a;unfold SeqAt.shaped;rw[PyData.canLay0,PyData.depth,b,Bool.true_and,decide_eq_true_eq];lia
theorem cV{R:α->V->Prop}:∀{l} {ys},Paired R l ys->∀{i:Nat} {v},ys[i]?=some v->∃a,l[i]?=some a/\R a v
 | _,_,.nil,_,_,h=>by simp at h
 | _,_,.cons r t,0,_,h=>by simp at h;subst h;exact⟨_,rfl,r⟩
 | _,_,.cons r t,i+1,_,h=>by simp at h;exact cV t h
theorem F9{α:Type}{dd:α}{q:α->Bool}:∀{l:List α},((List.range l.length).filter λi=>q<|l.getD i dd).map (λi=>l.getD i dd)=l.filter q
 | []=>rfl
 | x::l=>by
  let b:=F9 (dd:=dd) (q:=q) (l:=l);rw[Y5,List.range_succ_eq_map,List.filter_cons,List.filter_cons,List.filter_map];let e:(λi=>q<|(x::l).getD i dd) ∘ Nat.succ=λi=>q (l.getD i dd):=by funext i;rfl
  let a:(x::l).getD 0 dd=x:=rfl;rw[e,a];split
  ·rw[Yz,Ji,a,<- b];rfl
  ·rw[Ji,<- b];rfl
theorem nK{R:β->V->Prop}{f:α->β}:∀{l} {ys},Paired (λi v=>R (f i) v) l ys->Paired R (l.map f) ys
 | _,_,.nil=>.nil
 | _,_,.cons r t=>.cons r<|nK t
def yO(b:H a=some (.lst ys))(h:fX H x v):fX (upd H a<|.lst zs) x v:=by let⟨r,rfl,q⟩:=h;exact⟨r,Z,by rw[aV<|eM q b<|by intro z;cases z];exact q⟩
def sY{J:It}{n:Nat}{P:Nat->V->Hp->Prop}{mp:List (Option Nat)}{s:TI}{g:TG}{q:TT}{o:TE}{σ:St}{H H1:Hp}{Q:VK}(S:gR J H1 n P)(w:n<=1000)(m:∀R,R J H1->s σ H R)(k:St->Prop)(p:Nat->Bool)(F:Nat->V->Hp->Prop)(h:∀i v H H',aJ H H'->F i v H->F i v H') (d:∀i v H a ys ys',H a=some (.lst ys)->F i v H->F i v (upd H a<|.lst ys')) (h0:k (mP mp σ))(step:∀i x σ' H2,i<n->k σ'->aJ H1 H2->P i x H2->∀(Ny:V->St->Hp->Prop) (Nn:St->Hp->Prop),(∀v c j,k c->aJ H2 j->F i v j->p i=true->Ny v c j)->(∀c l,k c->aJ H2 l->p i=false->Nn c l) ->
   g x σ' H2 λc u=>q c u λb l=>if b=true then o c l λv j=>Ny v c j else Nn c l)
  (A:∀D H' ys,H1 D=none->aJ H1 H'->H' D=some (.lst ys)->Paired (λi v=>F i v H') ((List.range n).filter p) ys->Q (.ref D) H'):aX mp s g q o σ H Q:=by unfold aX;refine m _ λD r=>?_;exact FA S r (Yr w<|by rw[sizeLine_eq];decide) k p F h d h0 step λH' ys e y z=>A D H' ys r e y z
theorem vO{R:α->V->Prop}:∀{l l'} {ys zs},Paired R l ys->Paired R l' zs->Paired R (l++l') (ys++zs)
 | _,_,_,_,.nil,h=>h
 | _,_,_,_,.cons r t,h=>.cons r<|vO t h
def W8(a:Lb):PyData.eqv (.list<|rB a) (.list [])=decide (a=[]):=by
 cases a with
 | nil=>rfl
 | cons w ws=>rfl
def WJ{g:TG}{tb:TS}{D:hE}(a:Nat->St->Hp->Prop)(h0:a 0 σ H)(j:∀i σ H,a i σ H->mI H d o ap)(l:∀i k v σ H b,ap[i]?=some (k,v)->a i σ H->H b=some (.tup<|k.map kV)->g (.ref b) σ H λc h=>tb { D with nx:=a<|i+1,ct:=a<|i+1,bk:=D.nx } c h) (r:∀σ H,a ap.length σ H->D.nx σ H):∃W:Nat->Nat->St->Hp->Prop,(∃m,W 0 m σ H)/\∀i m σ H,W i m σ H ->
   ((AO d o ap).stop i H/\D.nx σ H)\/((AO d o ap).go i H/\∃N,(∀e H',N e H'->∃m',m'<m/\W (i+1) m' e H')/\∀x H',(AO d o ap).yld i H x H'->g x σ H' λc h=>tb { D with nx:=N,ct:=N,bk:=D.nx } c h):=by
 exists λi m σ H=>m=ap.length-i/\i<=ap.length/\a i σ H,⟨ap.length,by simp,Y2 _,h0⟩;rintro i m σ H ⟨rfl,hi,p⟩;let q:=j i σ H p;by_cases hlt:i<ap.length
 ·refine .inr ⟨⟨q,hlt⟩,a<|i+1,λe H' s=>⟨ap.length-(i+1),⋯,Z,hlt,s⟩,λx H' y=>?_⟩;let⟨rfl,b,k,v,n,u,rfl⟩:=y;exact l i k v σ H' b n p u
 ·let z:i=ap.length:=by lia
  subst z;exact .inl ⟨⟨q,Yi _⟩,r σ H p⟩
def uO(rk:Lc->Lc)(H:Hp)(t:Lc)(v:V):Prop:=∃p r a,v=.ref p/\H p=some (.tup [.ref r,.ref a])/\H r=some (.tup<|(rk t).map V.int)/\H a=some (.tup<|t.map V.int)
def uO.fix(e:cR H H')(h:uO rk H t v):uO rk H' t v:=by let⟨p,r,a,rfl,d,c,b⟩:=h;exact⟨p,r,a,Z,e.tup _ _ d,e.tup _ _ c,e.tup _ _ b⟩
def rP(rk:Lc->Lc)(us:Lb):List PyData:=us.map λt=>PyData.tuple [PyData.tuple<|(rk t).map PyData.int,PyData.tuple<|t.map PyData.int]
theorem MD:∀{us} {ys},Paired (uO rk H) us ys->bQ K H ys (rP rk us)
 | _,_,.nil=>.nil
 | _,_,.cons ⟨p,r,a,er,hp,hr,ha⟩ t=>by subst er;exact .cons (.tup (aY.of hp)<|.cons (.tup (aY.of hr)<|B8 _)<|.cons (.tup (aY.of ha)<|B8 _) .nil)<|MD t
theorem KZ(rk:Lc->Lc):∀us,PyData.canLayAll0 (rP rk us)=true
 | []=>rfl
 | t::us=>by let h:=KZ rk us;simp only[rP,List.map_cons,PyData.canLayAll0,PyData.canLay0,W.ke_canLayAll0]at h ⊢;rw[h];rfl
theorem M0(rk:Lc->Lc):∀us,PyData.depthAll (rP rk us)<=3
 | []=>by simp[rP,PyData.depthAll]
 | t::us=>by let h:=M0 rk us;simp only[rP,List.map_cons,PyData.depthAll,PyData.depth,W.ke_depthAll]at h ⊢;lia
def ZN(rk:Lc->Lc)(us:Lb):SeqAt.shaped (.list<|rP rk us)=true:=by let a:=KZ rk us;let h2:=M0 rk us;unfold SeqAt.shaped;rw[PyData.canLay0,PyData.depth,a,Bool.true_and,decide_eq_true_eq];lia
def WA(rk:Lc->Lc)(us:Lb):PyData.eqv (.list<|rP rk us) (.list [])=decide (us=[]):=by
 cases us with
 | nil=>rfl
 | cons w ws=>rfl
structure Wa(CT:Lh)(rk:Lc->Lc)(H:Hp)(w po kn ql:Lh)(ks us:Lb):Prop where
 at_:∃dx,H w=some (.ins CT dx [("order",.ref po),("known",.ref kn),("queue",.ref ql)])
 kn:∃ap,H kn=some (.dT ap)/\ap.map (·.1)=ks.map ky
 ql:∃vs,H ql=some (.lst vs)/\Paired (uO rk H) us vs
 nd:ks.Nodup
def Wa.fix{w j kn i:Lh}(h:Wa CT rk H w j kn i ks us)(e:cR H H')(l:∀o,H kn=some o->H' kn=some o)(k:∀o,H i=some o->H' i=some o):Wa CT rk H' w j kn i ks us:=by let⟨m,a⟩:=h.at_;let⟨ap,b,c⟩:=h.kn;let⟨vs,d,f⟩:=h.ql;exact⟨⟨m,e.ins a⟩,⟨ap,l _ b,c⟩,⟨vs,k _ d,bH (λ_ _ q=>q.fix e) f⟩,h.nd⟩
def Wa.same{w b kn a:Lh}(e:aJ H H')(h:Wa CT rk H w b kn a ks us):Wa CT rk H' w b kn a ks us:=h.fix (.of e) (λo=>e _ o) λo=>e _ o
def xV{i kn c:Lh}(x:Lq)(d:¬x = "order")(b:¬x = "known")(a:¬x = "queue"):([("order",V.ref i),("known",.ref kn),("queue",.ref c)]:List (Lq×V)).lookup x=none:=by
 let e:∀y:Lq,¬x=y->(x==y)=false:=λy h=>by
  cases q:(x==y) with
  | true=>exact absurd (Jy q) h
  | false=>rfl
 simp only[List.lookup,e _ d,e _ b,e _ a]
inductive mY(CT:Lh)(vs:Lg)(H:Hp)(Q:VK)(E:XK):Prop
 | mk (w r po kn ql:Lh) (rk:Lc->Lc) (ks us:Lb) (x:Lc) (_:vs=[.ref w,.ref r]) (_:Wa CT rk H w po kn ql ks us/\H r=some (.tup<|x.map V.int) /\
 (∀(i j:Nat) u v,i<j->us[i]?=some u->us[j]?=some v->HT.lexLt (rk v) x=true->HT.lexLt (rk u) x=true)/\us.length<=sizeLine /\
 ∀i:Nat,i<=us.length->(∀(j:Nat) u,us[j]?=some u->(j<i↔HT.lexLt (rk u) x=true))->Q (.int i) H)
def vW(m:Nat)(t:Lc):Prop:=T0 m t/\∀x∈t,x<10^31
inductive mW(CT CO CD CW CWt:Lh)(vs:Lg)(H:Hp)(Q:VK)(E:XK):Prop
 | mk (w d po kn ql:Lh) (kd:Int) (ws:Lc) (m:Nat) (ks us ts:Lb) (ap:Ka) (_:vs=[.ref w,.ref d]) (_:0<=kd/\kd<4/\Nn ws/\(∀x∈ws,x<10^31)/\1<=m/\m<=4/\jW CO CD CT CW kd ws H po/\Wa CWt (cK kd ws) H w po kn ql ks us /\
 H d=some (.dT ap)/\ap.map (·.1)=ts.map ky/\(∀t∈ts,vW m t)/\d≠kn/\us.Pairwise (lt<|cK kd ws)/\(∀u∈us,u∈ks/\T0 m u)/\ks.length+ts.length<sizeLine/\us.length+ts.length<sizeLine /\
 ∀H' ks' us',Kp [kn,ql] H H'->Wa CWt (cK kd ws) H' w po kn ql ks' us'->us'.Pairwise (lt<|cK kd ws)->(∀z,z∈us'↔z∈us\/(z∈ts/\z∉ks))->(∀z,z∈ks'↔z∈ks\/z∈ts)->ks'.length<=ks.length+ts.length->us'.length<=us.length+ts.length->Q .non H')
inductive kH(CT CO CD CW CWt:Lh)(vs:Lg)(H:Hp)(Q:VK)(E:XK):Prop
 | mk (w dx d po:Lh) (kd:Int) (ws:Lc) (m:Nat) (ts:Lb) (ap:Ka) (_:vs=[.ref w,.ref po,.ref d]) (_:H w=some (.ins CWt dx [])/\po≠w/\0<=kd/\kd<4/\Nn ws/\(∀x∈ws,x<10^31)/\1<=m/\m<=4/\jW CO CD CT CW kd ws H po /\
 H d=some (.dT ap)/\ap.map (·.1)=ts.map ky/\(∀t∈ts,vW m t)/\ts.length<sizeLine /\
 ∀H' kn ql ks us,H kn=none->H ql=none->Kp [w] H H'->Wa CWt (cK kd ws) H' w po kn ql ks us->us.Pairwise (lt<|cK kd ws)->(∀z,z∈us↔z∈ts)->(∀z,z∈ks↔z∈ts)->ks.length<=ts.length->us.length<=ts.length->Q .non H')
def U3(k:Kp [a] H H')(j:H a=some (.ins C d []))(h:jW CO CD CT CW kd ws H p)(e:p≠a):jW CO CD CT CW kd ws H' p:=by
 let c:∀b o,H b=some o->b≠a->H' b=some o:=λb o q m=>k b o q (by simp[m]);unfold jW at h ⊢
 repeat' split at h
 all_goals (first | rw[Yl<|by assumption] | skip)
 all_goals (first | rw[Yh<|by assumption] | skip)
 all_goals (first | rw[Yl<|by assumption] | skip)
 all_goals (first | rw[Yh<|by assumption] | skip)
 all_goals (first | rw[Yl<|by assumption] | skip)
 all_goals (first | rw[Yh<|by assumption] | skip)
 all_goals (first | (let⟨d,q⟩:=h;exact⟨d,c _ _ q e⟩) | (let⟨d,l,q,i⟩:=h;exact⟨d,l,c _ _ q e,c _ _ i<|eM i j<|by intro z;cases z⟩))
inductive tR(CT:Lh)(vs:Lg)(H:Hp)(Q:VK)(E:XK):Prop
 | mk (w po kn ql:Lh) (rk:Lc->Lc) (ks us:Lb) (_:vs=[.ref w]) (_:Wa CT rk H w po kn ql ks us/\∀H',aJ H H'->Q (.bl<|decide<|us=[]) H')
inductive mS(CT:Lh)(vs:Lg)(H:Hp)(Q:VK)(E:XK):Prop
 | mk (w po kn ql:Lh) (rk:Lc->Lc) (ks us:Lb) (t:Lc) (_:vs=[.ref w]) (_:Wa CT rk H w po kn ql ks (us++[t]) /\
 ∀H' a,Kp [ql] H H'->Wa CT rk H' w po kn ql ks us->H' a=some (.tup<|t.map V.int)->Q (.ref a) H')
def ZP(O:eJ rk m){us:Lb}{t:Lc}{i:Nat}(o:us.Pairwise (lt rk))(h0:∀u∈us,T0 m u)(r:T0 m t)(p:t∉us)(l:∀j u,us[j]?=some u->(j<i↔HT.lexLt (rk u) (rk t)=true)):(us.take i++t::us.drop i).Pairwise (lt rk):=by
 let e:(us.take i++us.drop i).Pairwise (lt rk):=by rw[List.take_append_drop];exact o
 rw[List.pairwise_append]at e ⊢;let lo:∀u∈us.take i,lt rk u t:=λu h=>by
  let⟨j,c⟩:=Je.mp h;rw[List.getElem?_take]at c;split at c
  ·rename_i q;exact(l j u c).mp q
  ·cases c
 let up:∀u∈us.drop i,lt rk t u:=λu h=>by
  let⟨j,c⟩:=Je.mp h;rw[List.getElem?_drop]at c;let k:=Yx c;rcases FR O (h0 u k).len r.len with q | q | q
  ·have:=(l _ u c).mpr q;lia
  ·subst q;exact absurd k p
  ·exact q
 refine⟨e.1,?_,λa n b d=>?_⟩
 ·rw[List.pairwise_cons];exact⟨λb d=>up b d,e.2.1⟩
 ·rcases Yj.mp d with rfl | d
  ·exact lo a n
  ·exact e.2.2 a n b d
def ak{R:α->V->Prop}{l:List α}(h:Paired R l ys){a:α}{y:V}(r:R a y)(i:Nat):Paired R (l.take i++a::l.drop i) (ys.take i++y::ys.drop i):=by
 let b:∀{l:List α} {ys:Lg},Paired R l ys->∀i,Paired R (l.take i) (ys.take i)/\Paired R (l.drop i) (ys.drop i):=by
  intro l ys h;induction h with
  | nil=>intro i;simp;exact .nil
  | cons r t ih=>
   intro i;cases i with
   | zero=>simp;exact⟨.nil,.cons r t⟩
   | succ i=>simp;exact⟨.cons r (ih i).1,(ih i).2⟩
 exact vO (b h i).1 (.cons r (b h i).2)
def UP{α:Type}{l:List α}{a z:α}(i:Nat):z∈l.take i++a::l.drop i↔z∈l\/z=a:=by
 rw[Jv,Yj];have:z∈l↔z∈l.take i\/z∈l.drop i:=by rw[<- Jv,List.take_append_drop]
 rw[this];constructor
 ·rintro(h | h | h)
  ·exact .inl<|.inl h
  ·exact .inr h
  ·exact .inl<|.inr h
 ·rintro((h | h) | h)
  ·exact .inl h
  ·exact .inr<|.inr h
  ·exact .inr<|.inl h
def zZ{R:α->V->Prop}{l:List α}{a:α}(h:Paired R (l++[a]) ys):∃c y,ys=c++[y]/\Paired R l c/\R a y:=by
 induction l generalizing ys with
 | nil=>cases h with | cons r t=>cases t;exact⟨[],_,rfl,.nil,r⟩
 | cons b l ih=>
  cases h with
  | cons r t=>
   let⟨c,y,e,p,q⟩:=ih t;exact⟨_::c,y,by rw[e];rfl,.cons r p,q⟩
def xN(H:Hp)(p:Nat×Lc)(v:V):Prop:=∃q a,v=.ref q/\H q=some (.tup [.int p.1,.ref a])/\H a=some (.tup<|p.2.map V.int)
def xN.fix(e:cR H H')(h:xN H p v):xN H' p v:=by let⟨q,a,rfl,c,b⟩:=h;exact⟨q,a,Z,e.tup _ _ c,e.tup _ _ b⟩
structure xM(CL:Lh)(H:Hp)(x pl:Lh)(lds:List (Nat×Lc)):Prop where
 at_:∃dx,H x=some (.ins CL dx [("pairs",.ref pl)])
 pl:∃vs,H pl=some (.lst vs)/\Paired (xN H) lds vs
def xM.keep{x pl:Lh}(h:xM CL H x pl lds)(e:cR H H')(b:∀o,H pl=some o->H' pl=some o):xM CL H' x pl lds:=by let⟨c,a⟩:=h.at_;let⟨vs,d,f⟩:=h.pl;exact⟨⟨c,e.ins a⟩,⟨vs,b _ d,bH (λ_ _ q=>q.fix e) f⟩⟩
structure oJ{F:Type}[Ta F](n:Int)(m:Nat)(H:Hp)(b:Lh)(ds:Le)(kvss:List Ka)(gs:Nat->Po F):Prop where
 at_:H b=some (.lst<|ds.map V.ref)
 len:ds.length=kvss.length
 row:∀(i:Nat) (d:Lh),ds[i]?=some d->∃ap,kvss[i]?=some ap/\H d=some (.dT ap)/\PF n m H ap (gs i)
 out:∀i,ds.length<=i->∀t,gs i t=0
 b:ds.length<=1000
def oJ.same[Ta F]{b:Lh}{gs:Nat->Po F}(e:aJ H H')(h:oJ n m H b ds kvss gs):oJ n m H' b ds kvss gs:=⟨e _ _ h.at_,h.len,λi d k=>by let⟨ap,c,j,a⟩:=h.row i d k;exact⟨ap,c,e _ _ j,a.same e⟩,h.out,h.b⟩
def oJ.sp[Ta F]{b:Lh}{gs:Nat->Po F}(h:oJ n m H b ds kvss gs)(i:Nat):uM m (gs i):=λt a=>by
 rcases Jh i ds.length with c | c
 ·let⟨ap,_,_,q⟩:=h.row i _<|Yc c;exact q.sp t a
 ·exact absurd (h.out i c t) a
inductive kO(CG CF CR CO CD CT CW CL:Lh)(vs:Lg)(H:Hp)(Q:VK)(E:XK):Prop
 | mk (F:Type) (_:Ta F) (x dx r b:Lh) (g:lD) (_:cM g.n F) (ds:Le) (kvss:List Ka) (gs:Nat->Po F) (_:vs=[.ref x,.ref r,.ref b]) (_:H x=some (.ins CL dx [])/\kB CG CF CR CO CD CT CW H r g/\oJ g.n g.m H b ds kvss gs/\(∀i,vX<|gs i) /\
 ∀H' pl lds,H pl=none->Kp [x] H H'->xM CL H' x pl lds->gL g.rk g.m ds.length gs lds->Q .non H')
inductive tP(CL:Lh)(vs:Lg)(H:Hp)(Q:VK)(E:XK):Prop
 | mk (x a pl:Lh) (m:Nat) (lds:List (Nat×Lc)) (t:Lc) (_:vs=[.ref x,.ref a]) (_:xM CL H x pl lds/\H a=some (.tup<|t.map V.int)/\t.length=m/\m<=4/\(∀p∈lds,p.2.length=m)/\(lds.Pairwise λa b=>a.1<b.1) /\
 ((∀p∈lds,dP p.2 t=false)->∀H',aJ H H'->Q .non H')/\(∀i l,AS lds t i l->∀H' q a',aJ H H'->H' q=some (.tup [.int (i:Nat),.ref a'])->H' a'=some (.tup<|l.map V.int)->Q (.ref q) H'))
theorem FY{A:Nat×α->V->Prop}{B:Nat->α->Prop}:∀{is} {vs},Paired (λi v=>∃h,A (i,h) v/\B i h) is vs->∃c,c.map (·.1)=is/\Paired A c vs/\∀p∈c,B p.1 p.2
 | _,_,.nil=>⟨[],rfl,.nil,(λ_ z=>by cases z)⟩
 | _,_,.cons ⟨h,a,b⟩ t=>by
  let⟨c,e,p,q⟩:=FY t;refine⟨(_,h)::c,by rw[Yz,e],.cons a p,λx d=>?_⟩;rcases Yj.mp d with rfl | d
  ·exact b
  ·exact q x d
def YR(S:gR J H N P)(hl:N<=1000)(o:∀R,R J H->wi σ H R)(u:∃v,mP mp σ=[v])(M:∀D H' (ds:Le),H D=none->aJ H H'->H' D=some (.lst<|ds.map V.ref)->ds.length=N->ds.Nodup->(∀d∈ds,H d=none/\H' d=some (.dT [])/\d≠D)->Q (.ref D) H'):aX mp wi (bD 0) eH DZ σ H Q:=by
 unfold aX;refine o _ λD s=>?_;exists λi m ys j H'=>m=N-i/\i<=N/\(∃v,j=[v])/\aJ H H'/\H' D=some (.lst ys)/\∃ds:Le,ys=ds.map V.ref/\ds.length=i/\ds.Nodup/\∀d∈ds,H d=none/\H' d=some (.dT [])/\d≠D,⟨N,Z,Y2 _,u,aJ.upd s,aW,[],Z,Z,List.nodup_nil,λd k=>by cases k⟩;rintro i m ys j H' ⟨rfl,hi,⟨v,rfl⟩,b,n,ds,rfl,G,C,k⟩;exists n;by_cases hlt:i<N
 ·refine .inr ⟨S.go i H' b hlt,Yp (show _<=1000 by rw[Yd];lia)<|by rw[sizeLine_eq];decide,λx w y=>?_⟩;let⟨h,_⟩:=S.yld i H' x w b hlt y;unfold bD eH;dsimp only;rw[Yl Z];intro p l;let E:p≠D:=λz=>by rw[z,h _ _ n]at l;cases l
  let r:aJ w (upd w p<|.dT []):=aJ.upd l;let A:=r _ _<|h _ _ n;refine⟨A,N-(i+1),⋯,Z,hlt,⟨_,Z⟩,((b.trans h).trans r).updR s,aW,ds++[p],by rw[List.map_append];rfl,by simp[G],?_,λd q=>?_⟩
  ·refine List.nodup_append.mpr ⟨C,by simp,λa O c I e=>?_⟩;rw[Yq.mp I]at e;have:=h _ _ (k a O).2.1;rw[e,l]at this;cases this
  ·rcases Jv.mp q with z | z
   ·let⟨K,L,B⟩:=k d z;exact⟨K,by rw[aV B];exact r _ _<|h _ _ L,B⟩
   ·rw[Yq.mp z];refine⟨?_,by rw[aV E];exact aW,E⟩;exact(b.trans h).free l
 ·let e:i=N:=by lia
  subst e;exact .inl ⟨S.stop H' b,M D H' ds s b n G C k⟩
def VZ(e:aQ K H b xs)(h:xs.length<=1000)(a:∀R:V->Hp->Prop,R (.ref b) H->tl σ H R)(c:∃v,mP mp σ=[v])(i:∀D H' (ds:Le),H D=none->aJ H H'->H' D=some (.lst<|ds.map V.ref)->ds.length=xs.length->ds.Nodup->(∀d∈ds,H d=none/\H' d=some (.dT [])/\d≠D)->Q (.ref D) H'):aX mp (DS K tl) (bD 0) eH DZ σ H Q:=YR (oQ e) h (λR j=>a _ ⟨b,Z,⟨_,e⟩,j⟩) c i
theorem DM{α j:Type}{f:α->j}:∀{l:List α},l.Nodup->(∀a∈l,∀b∈l,f a=f b->a=b)->(l.map f).Nodup
 | [],_,_=>List.nodup_nil
 | x::l,h,hi=>by rw[List.nodup_cons]at h;rw[Yz,List.nodup_cons];refine⟨λz=>?_,DM h.2 λa d b i=>hi a (by simp[d]) b<|by simp[i]⟩;let⟨y,c,e⟩:=Jj.mp z;rw[hi y (by simp[c]) x (by simp) e]at c;exact h.1 c
structure C2(H:Hp)(ql:Lh)(qds:Le)(N:Nat):Prop where
 at_:H ql=some (.lst<|qds.map V.ref)
 row:∀d∈qds,∃ap,H d=some (.dT ap)/\ap.length<=N
def C2.keep(h:C2 H ql qds N)(e:N<=M)(j:∀o,H ql=some o->H' ql=some o)(i:∀d∈qds,∀o,H d=some o->H' d=some o):C2 H' ql qds M:=⟨j _ h.at_,λd c=>by let⟨ap,a,b⟩:=h.row d c;exact⟨ap,i d c _ a,Yr b e⟩⟩
def D6[Ta F]{φ:Po F}{U:Lb}(h:PF n m H ap φ)(a:∀t,φ t≠0->t∈U):ap.length<=U.length:=by rw[<- qH ap];exact oG h.tnd λt b=>a t<|h.tmem.mp b
def SH[Ta F]{φ:Po F}{U:Lb}(d:l.length=m)(h:PF n m H ap φ)(o:∀t,φ t≠0->aM t l∈U):ap.length<=U.length:=by
 rw[<- qH ap,<- Yd (f:=λt=>aM t l) (as:=fQ ap)];refine oG (DM h.tnd λa j b q e=>?_) λt p=>?_
 ·let i:=(h.sp a<|h.tmem.mp j).len;let k:=(h.sp b<|h.tmem.mp q).len;refine F5 (c:=l) (i.trans k.symm) (i.trans d.symm) ?_;rw[jX<|d.trans i.symm,jX<|d.trans k.symm];exact e
 ·let⟨a,j,rfl⟩:=Jj.mp p;exact o a<|h.tmem.mp j
structure DB{F:Type}[Ta F](n:Int)(m:Nat)(rk:Lc->Lc)(φ:Po F)(gs:Nat->Po F)(U:Lb)(J:Nat->Po F->Po F->Prop):Prop where
 nd:U.Nodup
 ok:∀t∈U,vW m t
 b:U.length<=1000000
 f:∀t,φ t≠0->t∈U
 gl:∀i t,cL n 8900 (gs i t)
 j0:J 0 φ (λ_=>0)
 jl:∀s lf ρ,s<=U.length->J s lf ρ->∀t,cL n 8900 (lf t)
 js:∀s lf ρ,s<U.length->J s lf ρ->J (s+1) lf ρ
 jr:∀s lf ρ t,s<U.length->J s lf ρ->t∈U->Ld rk lf t->(∀i l,Ld rk (gs i) l->dP l t=false)->ρ t=0->J (s+1) (fZ lf t 0) (fZ ρ t<|lf t)
 jq:∀s lf ρ t i l x,s<U.length->J s lf ρ->t∈U->Ld rk lf t->Ld rk (gs i) l->dP l t=true->(∀j l',j<i->Ld rk (gs j) l'->dP l' t=false)->x*gs i l=lf t->cL n 8900 x/\(∀u,cL n 8900<|x*gs i u)/\(∀u,gs i u≠0->aM (aZ t l) u∈U)/\J (s+1) (λz=>lf z-x*sh (aZ t l) (gs i) z) ρ
def LE[Ta F]{gs:Nat->Po F}(L:gL rk m k gs lds)(out:∀i,k<=i->∀t,gs i t=0){i:Nat}{l:Lc}(h:Ld rk (gs i) l):(i,l)∈lds:=by
 rcases Jh i k with c | c
 ·let⟨l',a⟩:=L.all i l c h.1;rwa [h.one (L.ld i l' a).2]
 ·exact absurd (out i c l) h.1
structure DC where
 r:Lh
 f:Lh
 b:Lh
 x:Lh
 pl:Lh
 ql:Lh
 rd:Lh
 la:Lh
 wx:Lh
 kn:Lh
 qq:Lh
 qds:Le
structure DA{F:Type}[Ta F](CL CWt:Lh)(C:DC)(g:lD)(k:Nat)(φ:Po F)(gs:Nat->Po F)(lds:List (Nat×Lc))(U:Lb)(J:Nat->Po F->Po F->Prop)(H0 H:Hp)(ks us Dn:Lb)(ρ lf:Po F)(rvs lvs:Ka):Prop where
 sm:aJ H0 H
 le:xM CL H C.x C.pl lds
 qt:C2 H C.ql C.qds Dn.length
 rst:H C.rd=some (.dT rvs)
 rp:PF g.n g.m H rvs ρ
 lft:H C.la=some (.dT lvs)
 lp:PF g.n g.m H lvs lf
 wa:Wa CWt g.rk H C.wx g.po C.kn C.qq ks us
 dv:iZ g.rk g.m lds U us Dn ρ lf
 km:∀z,z∈ks↔z∈us\/z∈Dn
 j:J Dn.length lf ρ
def DA.same{F:Type}[Ta F]{l b:Lh}{C:DC}{g:lD}{k:Nat}{φ:Po F}{gs:Nat->Po F}{d:List (Nat×Lc)}{U:Lb}{J:Nat->Po F->Po F->Prop}{i H H':Hp}{m us n:Lb}{q p:Po F}{c a:Ka}(h:DA l b C g k φ gs d U J i H m us n q p c a)(e:aJ H H'):DA l b C g k φ gs d U J i H' m us n q p c a:=
 ⟨h.sm.trans e,h.le.keep (.of e)<|λo=>e _ o,h.qt.keep (Yi _) (λo=>e _ o)<|λ_ _ o=>e _ o,e _ _ h.rst,h.rp.same e,e _ _ h.lft,h.lp.same e,h.wa.same e,h.dv,h.km,h.j⟩
inductive IA{F:Type}[Ta F](CL CWt:Lh)(C:DC)(g:lD)(k:Nat)(φ:Po F)(gs:Nat->Po F)(lds:List (Nat×Lc))(U:Lb)(J:Nat->Po F->Po F->Prop)(H0:Hp)(mm:Nat)(σ:St)(H:Hp):Prop
 | mk (v8 v9 v10 v11 v12 v13:Option V) (ks us Dn:Lb) (ρ lf:Po F) (rvs lvs:Ka) (_:mm=U.length-Dn.length) (_:σ=[some<|.ref C.r,some<|.ref C.f,some<|.ref C.b,some<|.ref C.x,some<|.ref C.ql,some<|.ref C.rd,some<|.ref C.la,some<|.ref C.wx,v8,v9,v10,v11,v12,v13]) (_:DA CL CWt C g k φ gs lds U J H0 H ks us Dn ρ lf rvs lvs)
def z2v(x:Lq)(a:¬x = "pairs"):([("pairs",V.ref pl)]:List (Lq×V)).lookup x=none:=by
 let e:∀y:Lq,¬x=y->(x==y)=false:=λy h=>by
  cases q:(x==y) with
  | true=>exact absurd (Jy q) h
  | false=>rfl
 simp only[List.lookup,e _ a]
def SK{α:Type}{l:List α}(h:l≠[]):∃a t,l=a++[t]:=⟨l.dropLast,l.getLast h,(List.dropLast_concat_getLast h).symm⟩
inductive tV(CG CF CR CO CD CT CW:Lh)(vs:Lg)(H:Hp)(Q:VK)(E:XK):Prop
 | mk (F:Type) (_:Ta F) (r f b:Lh) (g:lD) (_:cM g.n F) (ds:Le) (kvss:List Ka) (gs:Nat->Po F) (fvs:Ka) (φ:Po F) (U:Lb) (J:Nat->Po F->Po F->Prop) (_:vs=[.ref r,.ref f,.ref b]) (_:kB CG CF CR CO CD CT CW H r g/\oJ g.n g.m H b ds kvss gs/\(∀i,vX<|gs i)/\H f=some (.dT fvs)/\PF g.n g.m H fvs φ/\qM fvs/\DB g.n g.m g.rk φ gs U J /\
 ∀H' p ql rd ρ lds rvs,aJ H H'->H' p=some (.tup [.ref ql,.ref rd])->H' rd=some (.dT rvs)->PF g.n g.m H' rvs ρ->gL g.rk g.m ds.length gs lds->(∀t,ρ t≠0->T0 g.m t/\∀p∈lds,dP p.2 t=false)->H rd=none->(∃s lf,s<=U.length/\(∀t,lf t=0)/\J s lf ρ)->Q (.ref p) H')
inductive zO(CG CF CR CO CD CT CW:Lh)(vs:Lg)(H:Hp)(Q:VK)(E:XK):Prop
 | mk (F:Type) (_:Ta F) (r f b:Lh) (g:lD) (_:cM g.n F) (ds:Le) (kvss:List Ka) (gs:Nat->Po F) (fvs:Ka) (φ:Po F) (U:Lb) (J:Nat->Po F->Po F->Prop) (_:vs=[.ref r,.ref f,.ref b]) (_:kB CG CF CR CO CD CT CW H r g/\oJ g.n g.m H b ds kvss gs/\(∀i,vX<|gs i)/\H f=some (.dT fvs)/\PF g.n g.m H fvs φ/\qM fvs/\DB g.n g.m g.rk φ gs U J /\
 ∀H' rd ρ lds rvs,aJ H H'->H' rd=some (.dT rvs)->PF g.n g.m H' rvs ρ->gL g.rk g.m ds.length gs lds->(∀t,ρ t≠0->T0 g.m t/\∀p∈lds,dP p.2 t=false)->H rd=none->(∃s lf,s<=U.length/\(∀t,lf t=0)/\J s lf ρ)->Q (.ref rd) H')
section
variable{F:Type}[Ta F]{n:Int}{rk:Lc->Lc}{m:Nat}{T α:Lc}{gp:Nat->Po F}{φ ψ ρ τ:Po F}{k:Nat}{gs:Nat->Po F}
def IB(n D:Int)(M:Nat)(φ:Po F):Prop:=n=0->∀t,∃N,φ t*ic D=ic N/\N.natAbs<=M
def JB(n:Int)(s:Nat)(φ:Po F):Prop:=IB n (6^s) (60^s) φ
def p6(s:Nat):(6:Int)^s≠0/\((6:Int)^s).natAbs<=60^s:=by
 induction s with
 | zero=>decide
 | succ s ih=>
  rw[Int.pow_succ];exists λz=>?_
  ·rcases Int.mul_eq_zero.mp z with z | z
   ·exact ih.1 z
   ·cases z
  ·rw[Int.natAbs_mul,Nat.pow_succ];exact Nat.mul_le_mul ih.2 ∅
def DI(h:s<=165):60^s*10000<2^1000:=Yp (Y4 _<|Yv ∅ h) nofun
def rA(h:a<2^1000):a<2^8900:=Yf h<|Yv ∅ ∅
def JB.lim(h:JB n s φ)(a:s<=165)(t:Lc):cL n 1000 (φ t):=λz=>by let⟨N,e,b⟩:=h z t;have:=DI a;exact⟨N,_,(p6 s).1,e,⋯,by have:=(p6 s).2;lia⟩
def JB.set(h:JB n s φ)(a:n=0->∃N,x*ic (6^s)=ic N/\N.natAbs<=60^s)(u:Lc):JB n s (fZ φ u x):=λz t=>by
 unfold fZ;split
 ·exact a z
 ·exact h z t
def JB.up(h:JB n s φ):JB n (s+1) φ:=λz t=>by let⟨N,e,b⟩:=h z t;refine⟨N*6,by rw[Int.pow_succ,dE,dE,<- e];grind,?_⟩;rw[Int.natAbs_mul,Nat.pow_succ];exact Nat.mul_le_mul b ∅
def z3e[cM n F](P:gN rk m T gp)(B:Bs n m gp k gs)(W:Wt rk m T α)(m1:1<=m)(m4:m<=4){M:Lc}(R:Bx m T M){a:Nat}(ha:a<m):DB n m rk (dl<|aM (e1 m a) M) gs (Ud m α) (λs A ρ=>JB n s A/\JB n s ρ/\xO m T gp λz=>dl (aM (e1 m a) M) z - ρ z-A z):=by
 let L:=IM m1 m4 W;let e0:T0 m (e1 m a):=⟨by simp[e1],λi=>by
  unfold e1;by_cases h:i<m
  ·simp only[List.getD,List.getElem?_map,List.getElem?_range h,Option.map_some,Option.getD_some];split <;> decide
  ·simp[List.getD,h]⟩
 let X:n=0->∀c:F,Sc n c->∀j o u,∃N D:Int,D≠0/\N.natAbs<10000/\D.natAbs<10000/\c*sh o (gp j) u*ic D=ic N:=λz c J j o u=>by
  let⟨p,q,p0,q0,pb,qb,e⟩:=J z;let y:∀x:F,(∃N:Int,x*ic 6=ic N/\N.natAbs<=54)->∃N D:Int,D≠0/\N.natAbs<10000/\D.natAbs<10000/\c*x*ic D=ic N:=λx ⟨N,e',b⟩=>by
   refine⟨p*N,q*6,λz=>?_,?_,?_,by rw[dE,dE,<- e,<- e'];grind⟩
   ·rcases Int.mul_eq_zero.mp z with z | z
    ·exact q0 z
    ·cases z
   ·rw[Int.natAbs_mul];exact Yp (Nat.mul_le_mul pb b) ∅
   ·rw[Int.natAbs_mul];exact Yp (Y4 _ qb) ∅
  unfold sh;split
  ·exact y _<|B.ib j z _
  ·exact y _ ⟨0,by rw[gT];grind,∅⟩
 let H:∀{N:Nat},N<10000->N<2^8900:=λh=>Yf h<|Yr (by decide:10000<=2^14)<|Yv ∅ ∅;refine⟨(BN m _).filter _,λt U=>?_,⋯,λt U=>?_,λi t=>?_,⟨λz t=>?_,λz t=>⟨0,by rw[gT];grind,Y2 _⟩,Cb.zero.congr λt=>by grind⟩,λs A ρ hs d t=>(d.1.lim ⋯ t).up ∅,λs A ρ _ d=>⟨d.1.up,d.2.1.up,d.2.2⟩,λs A ρ t _ d _ _ _ r0=>⟨(d.1.set (λ_=>⟨0,by rw[gT];grind,Y2 _⟩) t).up,(d.2.1.set (λz=>d.1 z t) t).up,d.2.2.congr λz=>?_⟩,?_⟩
 ·let⟨h0,hd⟩:=(yB W).mp U;refine⟨h0,λx hx=>?_⟩;have:=E9 (by rw[h0.len,W.len]) W.pos h0.mem x hx;let w8:(wB m:Int)<=8:=by
   unfold wB;split
   ·decide
   ·split <;> decide
  exact Int.lt_of_le_of_lt (show x<=8 by lia) ∅
 ·have:t=aM (e1 m a) M:=Classical.byContradiction λz=>U<|Yh z;rw[this];exact(yB W).mpr ⟨T0.add e0 R.1,W.st M R a ha⟩
 ·rcases B.ent i with z | ⟨j,o,c,_,_,_,J,e⟩
  ·rw[z];exact cL.zero ∅
  ·rw[e];exact λz=>let ⟨N,D,d0,nb,db,h⟩:=X z c J j o t;⟨N,D,d0,h,H nb,H db⟩
 ·show ∃N:Int,(if t=_ then(1:F) else 0)*ic 1=ic N/\_;split
  ·exact⟨1,by rw[cT];grind,∅⟩
  ·exact⟨0,by rw[cT,gT];grind,∅⟩
 ·by_cases c:z=t
  ·subst c;rw[sS,sS,r0];grind
  ·rw[nO c,nO c]
 ·intro s A ρ t i l x hs d tU hlf hl go _ ex;let⟨j,o,c,O,C,c0,J,e,Q⟩:=B.lead P hl;let Y:=List.mem_range.mpr O;let⟨t0,td⟩:=(yB W).mp tU;let h0:T0 m (cI m T j):=P.h0;let E:T0 m l:=by rw[Q];exact T0.add C h0
  let lc:gs i l=c:=by rw[e,Q];show c*sh o (gp j) (aM o<|cI m T j)=c;rw[wP<|by rw[h0.len,C.len],P.one j O];grind
  rw[lc]at ex;let es:aM (aZ t l) o=aZ t (cI m T j):=lN (by rw[gV<|by rw[lP<|by rw[t0.len,E.len],t0.len,C.len],lP<|by rw[t0.len,E.len],lP<|by rw[t0.len,h0.len]]) λp _=>by rw[iS<|by rw[lP<|by rw[t0.len,E.len],t0.len,C.len],sV<|by rw[t0.len,E.len],sV<|by rw[t0.len,h0.len],Q,iS<|by rw[C.len,h0.len]];lia
  let s0:=T0.sub t0 E go;let gh:dP (cI m T j) t=true:=K4 (m:=m) h0.len E.len (by rw[Q];exact EH C h0) go;let y:∀z,x*sh (aZ t l) (gs i) z=A t*sh (aZ t<|cI m T j) (gp j) z:=λz=>by rw[e,BX,AY<|by rw[s0.len,C.len],es,<- ex];grind
  refine⟨λz=>?_,λu z=>?_,λu R=>?_,λz v=>?_,d.2.1.up,(d.2.2.add<|(Cb.one (B:=λ_=>True) Y (T0.sub t0 h0 gh) trivial).smul (A t)).congr λz=>?_⟩
  ·let⟨N,I,K⟩:=d.1 z t;let⟨p,q,p0,q0,pb,qb,e'⟩:=J z;let G:=DI (s:=s) ⋯;refine⟨N*q,p*6^s,λz=>?_,by rw[dE,dE,<- e',<- I,<- ex];grind,rA ?_,rA ?_⟩
   ·rcases Int.mul_eq_zero.mp z with z | z
    ·exact p0 z
    ·exact(p6 s).1 z
   ·rw[Int.natAbs_mul];exact Yp (Nat.mul_le_mul K<|show q.natAbs<=10000 by lia) G
   ·rw[Int.natAbs_mul,Nat.mul_comm];exact Yp (Nat.mul_le_mul (p6 s).2 (show p.natAbs<=10000 by lia)) G
  ·let⟨N,I,K⟩:=d.1 z t;let G:=DI (s:=s) ⋯;let eq:x*gs i u=A t*sh o (gp j) u:=by rw[e,<- ex];grind
   have:∃w:Int,sh o (gp j) u*ic 6=ic w/\w.natAbs<=54:=by
    unfold sh;split
    ·exact B.ib j z _
    ·exact⟨0,by rw[gT];grind,∅⟩
   let⟨w,e1,b1⟩:=this;refine⟨N*w,6^s*6,λz=>?_,by rw[eq,dE,dE,<- I,<- e1];grind,rA ?_,rA ?_⟩
   ·rcases Int.mul_eq_zero.mp z with z | z
    ·exact(p6 s).1 z
    ·cases z
   ·rw[Int.natAbs_mul];exact Yp (Nat.mul_le_mul K<|show w.natAbs<=10000 by lia) G
   ·rw[Int.natAbs_mul];exact Yp (Nat.mul_le_mul (p6 s).2 ∅) G
  ·let hz:sh o (gp j) u≠0:=λz=>R (by rw[e];show c*_=0;rw[z];grind);let⟨u0',_,hz',eu⟩:=xS C (P.row.sp j Y) hz;let S:=P.row.sp j Y _ hz';let ea:aM (aZ t l) u=aM (aZ t<|cI m T j) (aZ u o):=by
    conv=>lhs;rw[eu]
    rw[<- wQ (by rw[s0.len,C.len]) (by rw[C.len,S.len]),es]
   rw[ea];let st:=T0.sub t0 h0 gh;refine(yB W).mpr ⟨T0.add st S,?_⟩;rw[LF (by rw[st.len,W.len])<|by rw[S.len,W.len],KQ (by rw[t0.len,W.len])<|by rw[h0.len,W.len]];have:fP α (aZ u o)<=fP α (cI m T j):=by
    rcases P.low j O _ hz' with r | ⟨r1,r2⟩
    ·rw[r];exact Int.le_refl _
    ·exact W.low _ r1 j O r2
   lia
  ·let⟨N,I,K⟩:=d.1 z t;let⟨N2,e2,b2⟩:=d.1 z v;have:∃w:Int,sh (aZ t<|cI m T j) (gp j) v*ic 6=ic w/\w.natAbs<=54:=by
    unfold sh;split
    ·exact B.ib j z _
    ·exact⟨0,by rw[gT];grind,∅⟩
   let⟨w,e1,b1⟩:=this;exists N2*6-N*w,?_
   ·show (A v-x*sh (aZ t l) (gs i) v)*_=_;rw[y,Int.pow_succ,dE,EL,dE,dE,<- e2,<- I,<- e1];grind
   ·let q1:(N*w).natAbs<=60^s*54:=by rw[Int.natAbs_mul];exact Nat.mul_le_mul K b1
    rw[Nat.pow_succ];generalize N*w=Zq at q1 ⊢;lia
  ·show _-_-(A z-x*sh (aZ t l) (gs i) z)=_;rw[y];grind
end
inductive jN(vs:Lg)(H:Hp)(Q:VK)(E:XK):Prop
 | mk (m a p:Int) (_:vs=[.int m,.int a,.int p]) (_:1<=m/\m<=10/\0<=a/\∀r H',aJ H H'->H' r=some (.tup<|(only m.toNat a.toNat p).map V.int)->Q (.ref r) H')
def EX(n:Nat):(List.replicate n [V.int 0]).flatten=(zer n).map V.int:=by unfold zer;rw[List.map_replicate];simp
inductive oW(CG:Lh)(vs:Lg)(H:Hp)(Q:VK)(E:XK):Prop
 | mk (r:Lh) (m:Int) (pf po:Lh) (_:vs=[.ref r]) (_:rT CG H r m pf po/\1<=m/\m<=4/\∀t H',aJ H H'->H' t=some (.tup<|(zer m.toNat).map V.int)->Q (.ref t) H')
inductive zN(K:Lj)(vs:Lg)(H:Hp)(Q:VK)(E:XK):Prop
 | mk (a:Lh) (i:Nat) (xs:Lc) (_:vs=[.ref a,.int i]) (_:aY K H a (xs.map V.int)/\i<xs.length/\Q (.bl<|mL xs i) H)
structure TL(m:Nat)(H:Hp)(l:Lh)(ys:Lg)(xss:Lb):Prop where
 at_:H l=some (.lst ys)
 tm:Paired (fX H) xss ys
 t0:∀x∈xss,T0 m x
 b:ys.length<=1000
def TL.same(e:aJ H H')(h:TL m H l ys xss):TL m H' l ys xss:=⟨e _ _ h.at_,bH (λ_ _ q=>q.same e) h.tm,h.t0,h.b⟩
def TL.get(h:TL m H l ys xss){i:Nat}{v:V}(b:ys[i]?=some v):∃x r,xss[i]?=some x/\v=.ref r/\H r=some (.tup<|x.map V.int)/\T0 m x:=by let⟨x,a,r,e,q⟩:=cV h.tm b;exact⟨x,r,a,e,q,h.t0 x<|Yx a⟩
def TL.len(h:TL m H l ys xss):xss.length=ys.length:=Paired.length h.tm
theorem FW:∀{l:Lb},((List.range l.length).map λi=>f<|l.getD i []).any id=l.any f
 | []=>rfl
 | x::l=>by rw[Y5,List.range_succ_eq_map,Yz,Ji,List.any_cons,List.any_cons];have:=FW (f:=f) (l:=l);rw[<- this];rfl
inductive pD(vs:Lg)(H:Hp)(Q:VK)(E:XK):Prop
 | mk (l t:Lh) (m:Nat) (ys:Lg) (hs:Lb) (x:Lc) (_:vs=[.ref l,.ref t]) (_:m<=4/\TL m H l ys hs/\H t=some (.tup<|x.map V.int)/\T0 m x/\∀H',aJ H H'->Q (.bl<|dL hs x) H')
inductive pC(vs:Lg)(H:Hp)(Q:VK)(E:XK):Prop
 | mk (l t:Lh) (m:Nat) (ys zs:Lg) (hs ts:Lb) (_:vs=[.ref l,.ref t]) (_:m<=4/\TL m H l ys hs/\TL m H t zs ts/\∀D H' us,H D=none->aJ H H'->TL m H' D us (ts.filter<|dL hs)->Q (.ref D) H')
inductive mT(CG:Lh)(vs:Lg)(H:Hp)(Q:VK)(E:XK):Prop
 | mk (r l:Lh) (m:Nat) (pf po:Lh) (ys:Lg) (ts:Lb) (_:vs=[.ref r,.ref l]) (_:rT CG H r m pf po/\1<=m/\m<=4/\TL m H l ys ts/\ys.length<=200 /\
 ∀D H' zs us,aJ H H'->TL m H' D zs us->us.Nodup->(∀u,u∈us↔∃t∈ts,∃i,i<m/\u=dZ t i)->Q (.ref D) H')
inductive tQ(CG:Lh)(vs:Lg)(H:Hp)(Q:VK)(E:XK):Prop
 | mk (r l:Lh) (m:Nat) (pf po:Lh) (ys:Lg) (hs:Lb) (_:vs=[.ref r,.ref l]) (_:rT CG H r m pf po/\1<=m/\m<=4/\TL m H l ys hs /\
 (∀i,i<m->hs.any (λh=>mL h i)=true)/\∀H',aJ H H'->Q .non H')
def jS(us:Lb)(u:Lc):Lb:=if u∈us then us else us++[u]
def UQ(h:us.Nodup):(jS us u).Nodup:=by
 unfold jS;split
 ·exact h
 ·rename_i c;exact List.nodup_append.mpr ⟨h,by simp,λa d b i e=>c<|by rw[Yq.mp i]at e;rw[<- e];exact d⟩
def WL:x∈jS us u↔x∈us\/x=u:=by
 unfold jS;split
 ·rename_i c;exact⟨.inl,λh=>h.elim id λe=>by rw[e];exact c⟩
 ·simp
def WB:(jS us u).length<=us.length+1:=by
 unfold jS;split
 ·lia
 ·simp
def XV(h:ap.map (·.1)=us.map ky):(bE ap (ky u) v).map (·.1)=(jS us u).map ky:=by
 unfold bE jS;let q:(ap.any λb=>decide<|b.1=ky u)=true↔u∈us:=by
  rw[List.any_eq_true];constructor
  ·rintro⟨p,a,e⟩;have:p.1∈us.map ky:=by rw[<- h];exact Jj.mpr ⟨p,a,rfl⟩
   let⟨t,d,j⟩:=Jj.mp this;let e:=Jk e;rw[<- j]at e;rw[<- qV e];exact d
  ·intro i;have:ky u∈ap.map (·.1):=by rw[h];exact Jj.mpr ⟨u,i,Z⟩
   let⟨p,a,e⟩:=Jj.mp this;exact⟨p,a,Yo e⟩
 by_cases c:u∈us
 ·rw[Yl<|q.mpr c,Yl c,<- h,Ji];refine List.map_congr_left λp _=>?_;show (if p.1=ky u then(p.1,v) else p).1=p.1;split <;> rfl
 ·rw[Yh<|λz=>c<|q.mp z,Yh c,List.map_append,List.map_append,h];rfl
def BI(h:T0 m t)(m1:1<=m)(m4:m<=4)(c:∀i,t.getD i 0<=200):jG t:=⟨by rw[h.len];lia,λz=>by have:=h.len;rw[z]at this;simp at this;lia,h.mem,λx b=>by
 let⟨j,a,rfl⟩:=List.mem_iff_getElem.mp b;have:=c j;let e:t.getD j 0=t[j]:=by simp[List.getD,a]
 rw[e]at this;exact Int.lt_of_le_of_lt this ∅⟩
theorem F8{R:α->V->Prop}:∀{ps:List (α×V)},(∀p∈ps,R p.1 p.2)->Paired R (ps.map (·.1)) (ps.map (·.2))
 | [],_=>.nil
 | p::ps,h=>.cons (h p<|.head _)<|F8 λq a=>h q<|.tail _ a
theorem FC{α a:Type}:∀{l:List α} {l':List a},l.length<=l'.length->(l.zip l').map (·.1)=l
 | [],_,_=>by simp
 | x::l,[],h=>by simp at h
 | x::l,y::l',h=>by simp only[List.zip_cons_cons,List.map_cons];rw[FC<|by simpa using h]
def qU:lE X b (λ_ _ _=>False):=λ_ _ _ _ _ _ h=>h.elim
def ZD(lt:t.length=m)(a:i<m):aM t (only m i 1)=dZ t i:=XL lt a
def cS(h:H d=none)(o:HO):∃H2,upd H d o=H2/\aJ H H2/\H2 d=some o:=⟨_,Z,aJ.upd h,aW⟩
section
variable{F:Type}[Ta F]
def C9(rk:Lc->Lc)(k:Nat)(gs:Nat->Po F)(hs:Lb):Prop:=(∀h∈hs,∃i,i<k/\Ld rk (gs i) h)/\∀i h,i<k->Ld rk (gs i) h->h∈hs
end
inductive tW(CG CF CR CO CD CT CW:Lh)(vs:Lg)(H:Hp)(Q:VK)(E:XK):Prop
 | mk (F:Type) (_:Ta F) (r b:Lh) (g:lD) (_:cM g.n F) (ds:Le) (kvss:List Ka) (gs:Nat->Po F) (_:vs=[.ref r,.ref b]) (_:kB CG CF CR CO CD CT CW H r g/\oJ g.n g.m H b ds kvss gs/\(∀i,vX<|gs i) /\
 ∀hs,C9 g.rk ds.length gs hs->(∀h∈hs,∀i,h.getD i 0<=200)/\(∀i,i<g.m->hs.any (λh=>mL h i)=true)/\(∀l:Lb,l.Nodup->(∀t∈l,T0 g.m t/\dL hs t=true)->l.length<=6) /\
   ∀D H' ys cs,H D=none->aJ H H'->TL g.m H' D ys cs->cs.Nodup->(∀t,t∈cs↔T0 g.m t/\dL hs t=true)->cs.Pairwise (λa b=>HT.lexLt (g.rk b) (g.rk a)=false)->Q (.ref D) H')
inductive tF(CG CF CR CO CD CT CW:Lh)(vs:Lg)(H:Hp)(Q:VK)(E:XK):Prop
 | mk (F:Type) (_:Ta F) (r:Lh) (g:lD) (_:cM g.n F) (a:Nat) (_:vs=[.ref r,.int a]) (_:kB CG CF CR CO CD CT CW H r g/\a<g.m /\
 ∀d H' ap,H d=none->aJ H H'->H' d=some (.dT ap)->ap.length<=1->PF (F:=F) g.n g.m H' ap (dl<|e1 g.m a)->Q (.ref d) H')
section
variable{F:Type}[Ta F]{n:Int}{m:Nat}{H:Hp}
def KF:(1:F)≠0:=λz=>Lean.Grind.Field.zero_ne_one z.symm
def EK{x:F}(c:T0 m t)(b:bY n H v x)(a:x≠0):PF n m H (bE [] (ky t) v) (λu=>x*dl t u):=(PF.nil.put c b a).congr λu=>by unfold fZ dl;split <;> grind
def dM:T0 m (e1 m a):=⟨by simp[e1],λi=>by
 unfold e1;by_cases h:i<m
 ·simp only[List.getD,List.getElem?_map,List.getElem?_range h,Option.map_some,Option.getD_some];split <;> decide
 ·simp[List.getD,h]⟩
end
section
variable{F:Type}[Ta F]{n:Int}{m k:Nat}{H H':Hp}{rk:Lc->Lc}{T:Lc}{gp gs:Nat->Po F}{hs bs:Lb}
def bL(n:Int)(H:Hp)(bs:Lb)(ρ:Po F)(l:Lh):Prop:=∃ys,H l=some (.lst ys)/\Paired (λt u=>bY n H u<|ρ t) bs ys
def bL.same{c:Po F}(e:aJ H H')(h:bL n H bs c l):bL n H' bs c l:=let ⟨ys,a,b⟩:=h;⟨ys,e _ _ a,bH (λ_ _ q=>q.same e) b⟩
def bL.keep{c:Po F}(e:cR H H')(d:∀o,H l=some o->H' l=some o)(h:bL n H bs c l):bL n H' bs c l:=let ⟨ys,a,b⟩:=h;⟨ys,d _ a,bH (λ_ _ q=>q.fix e) b⟩
def JB.le{φ:Po F}(h:JB n s φ)(hs:s<=s'):JB n s' φ:=by
 induction hs with
 | refl=>exact h
 | step _ ih=>exact ih.up
def TU(a:i<m):(cI m T i).sum=T.getD i 0:=by
 have:=EI (f:=λ_=>0) (c:=T.getD i 0) (i:=i) m;simp only[Int.zero_add,if_pos a]at this;unfold cI;rw[this];let z:∀n,((List.range n).map λ_=>(0:Int)).sum=0:=λn=>by rw[List.map_const',zC]
 rw[z];lia
def z01(P:gN rk m T gp)(B:Bs n m gp k gs)(d:C9 rk k gs hs):(∀i,i<m->hs.any (λh=>mL h i)=true)/\∀t,(T0 m t/\dL hs t=true)↔Bx m T t:=by
 let r:∀j,j<m->cI m T j∈hs:=λj a=>by let⟨i,v,c,w,e⟩:=B.all j a;exact d.2 i _ v (by rw[e];exact(ET w).mpr (P.row.ld j<|List.mem_range.mpr a))
 refine⟨λi b=>List.any_eq_true.mpr ⟨_,r i b,Yo ?_⟩,λt=>⟨fun⟨t0,o⟩=>RI t0 (λj a=>fH.mp o _<|r j a) P.tl,λh=>⟨h.1,fH.mpr λl s=>?_⟩⟩⟩
 ·rw[TU b,jY,Yl ⟨Z,b⟩]
 ·let⟨i,_,q⟩:=d.1 l s;let⟨j,o,c,u,p,_,_,_,rfl⟩:=B.lead P q;cases c:dP (aM o<|cI m T j) t with
  | false=>rfl
  | true=>
   have:=K4 (m:=m) P.h0.len (T0.add p P.h0).len (EH p P.h0) c;rw[RQ h u]at this;cases this
def BJ(hm:1<=m/\m<=4)(a:T∈eY m){l:Lb}(c:l.Nodup)(h:∀t∈l,Bx m T t):l.length<=6:=by have:=qF (qF z1k (show m∈[1,2,3,4] by simp;lia)) a;exact Yr (oG c λt b=>IZ a<|h t b) ‹this›
end
inductive tI(CG CF CR CO CD CT CW:Lh)(vs:Lg)(H:Hp)(Q:VK)(E:XK):Prop
 | mk (F:Type) (_:Ta F) (r b:Lh) (a:Nat) (g:lD) (_:cM g.n F) (ds:Le) (kvss:List Ka) (gs:Nat->Po F) (_:vs=[.ref r,.ref b,.int a]) (_:kB CG CF CR CO CD CT CW H r g/\oJ g.n g.m H b ds kvss gs/\(∀i,vX<|gs i)/\a<g.m/\(∀i h,Ld g.rk (gs i) h->∀j,h.getD j 0<=200) /\
 ((∃T gp,T∈eY g.m/\gN g.rk g.m T gp/\Bs g.n g.m gp ds.length gs/\∀D H' vs cs,H D=none->aJ H H'->H' D=some (.lst vs)->cs.Nodup->(∀t,t∈cs↔Bx g.m T t)->cs.Pairwise (λa b=>HT.lexLt (g.rk b) (g.rk a)=false) ->
   Paired (λt v=>∃(l:Lh) (ρ:Po F),v=.ref l/\H l=none/\bL g.n H' cs ρ l/\Nf g.m T gp (sh (e1 g.m a)<|dl t) ρ/\JB g.n 165 ρ) cs vs->Q (.ref D) H') \/
  ((∃i,i<ds.length/\Ld g.rk (gs i) (zer g.m))/\∀D H',H D=none->aJ H H'->H' D=some (.lst [])->Q (.ref D) H')))
def J3[Ta F]{φ:Po F}(h:PF n m H ap φ)(l:ap.length<=1):qM ap:=by
 refine⟨fQ ap,h.keys,List.pairwise_map.mpr ?_⟩;rw[<- qH]at l;match fQ ap,l with
 | [],_=>exact .nil
 | [x],_=>exact .cons (λ_ z=>by cases z) .nil
inductive kM(vs:Lg)(H:Hp)(Q:VK)(E:XK):Prop
 | mk (n:Int) (_:vs=[.int n]) (_:2<=n/\n<=9973/\Q (.bl<|qK n) H)
inductive tM(vs:Lg)(H:Hp)(Q:VK)(E:XK):Prop
 | mk (c:Int) (_:vs=[.int c]) (_:∀(n:Int) H',aJ H H'->(n=0\/Pr n)->n<=9973->Q (.int n) H')
def GD(h0:0<=r)(h1:r<4):∃v,1<=v/\v<=9972/\iO [V.int 1,V.int 6,V.int 120,V.int 9972] r=some (.int v):=by
 rcases(by lia:r=0\/r=1\/r=2\/r=3) with h | h | h | h <;> subst h
 ·exact⟨1,∅,∅,Z⟩
 ·exact⟨6,∅,∅,Z⟩
 ·exact⟨120,∅,∅,Z⟩
 ·exact⟨9972,∅,∅,Z⟩
def z2i:qK 2=true:=DJ ⟨∅,λe a h2=>by exfalso;have:=Int.mul_le_mul a a ∅ ⋯;lia⟩
def z3j(h:qK n=true):Pr n:=by
 by_cases q:Pr n
 ·exact q
 ·rw[DK q]at h;cases h
inductive pM(CF CR:Lh)(vs:Lg)(H:Hp)(Q:VK)(E:XK):Prop
 | mk (n:Int) (_:vs=[.int n]) (_:(n=0\/Pr n)/\n<=9973/\∀pf H',aJ H H'->nN CF CR n H' pf->Q (.ref pf) H')
inductive tE(vs:Lg)(H:Hp)(Q:VK)(E:XK):Prop
 | mk (c:Int) (m:Nat) (_:vs=[.int c,.int m]) (_:m<=4/\∀r l ws H',aJ H H'->H' r=some (.tup [.int<|c%4,.ref l])->H' l=some (.lst<|ws.map V.int)->ws.length=m->Nn ws->(∀x∈ws,x<10^31)->Q (.ref r) H')
def GC(h0:0<=r)(h1:r<5):∃v,0<=v/\v<10^31/\iO [V.int 0,V.int 1,V.int 2,V.int 7,V.int<|10^(Int.toNat 20)+3] r=some (.int v):=by
 let e:(10:Int)^(Int.toNat 20)+3=100000000000000000003:=by decide
 rcases(by lia:r=0\/r=1\/r=2\/r=3\/r=4) with h | h | h | h | h <;> subst h
 ·exact⟨0,∅,∅,Z⟩
 ·exact⟨1,∅,∅,Z⟩
 ·exact⟨2,∅,∅,Z⟩
 ·exact⟨7,∅,∅,Z⟩
 ·exact⟨10^(Int.toNat 20)+3,by rw[e];decide,by rw[e];decide,Z⟩
inductive pL(K:Lj)(CO CD CT CW:Lh)(vs:Lg)(H:Hp)(Q:VK)(E:XK):Prop
 | mk (r l:Lh) (kd:Int) (ws:Lc) (_:vs=[.ref r]) (_:H r=some (.tup [.int kd,.ref l])/\0<=kd/\kd<4/\H l=some (.lst<|ws.map V.int)/\ws.length<=100/\Nn ws/\∀p H',aJ H H'->jW CO CD CT CW kd ws H' p->Q (.ref p) H')
inductive jK(vs:Lg)(H:Hp)(Q:VK)(E:XK):Prop
 | mk (r l t:Lh) (kd:Int) (ws xs:Lc) (_:vs=[.ref r,.ref t]) (_:H r=some (.tup [.int kd,.ref l])/\0<=kd/\kd<4/\H l=some (.lst<|ws.map V.int)/\Nn ws/\(∀x∈ws,x<10^31)/\H t=some (.tup<|xs.map V.int)/\jG xs/\∀p H',aJ H H'->H' p=some (.tup<|(cK kd ws xs).map V.int)->Q (.ref p) H')
inductive kL(vs:Lg)(H:Hp)(Q:VK)(E:XK):Prop
 | mk (F:Type) (_:Ta F) (_:cM 0 F) (t b:Int) (_:vs=[.int t,.int b]) (_:1<=b/\b.natAbs<2^8900/\∀(x:F) v H',x*ic b=ic t->aJ H H'->bY 0 H' v x->Q v H')
inductive jD(vs:Lg)(H:Hp)(Q:VK)(E:XK):Prop
 | mk (F:Type) (_:Ta F) (n:Int) (_:cM n F) (t:Int) (_:vs=[.int n,.int t,.int 1]) (_:(n=0\/Pr n)/\∀v H',aJ H H'->bY n H' v (ic t:F)->Q v H')
inductive nF(vs:Lg)(H:Hp)(Q:VK)(E:XK):Prop
 | mk (F:Type) (_:Ta F) (n:Int) (_:cM n F) (v1 v2:V) (x y:F) (_:vs=[.int n,v1,v2]) (_:(n=0\/Pr n)/\n<=9973/\bY n H v1 x/\bY n H v2 y/\cL n 4000 x/\cL n 4000 y/\∀v H',aJ H H'->bY n H' v (x+y)->Q v H')
inductive mZ(vs:Lg)(H:Hp)(Q:VK)(E:XK):Prop
 | mk (F:Type) (_:Ta F) (n:Int) (_:cM n F) (v1 v2:V) (x y:F) (_:vs=[.int n,v1,v2]) (_:(n=0\/Pr n)/\n<=9973/\bY n H v1 x/\bY n H v2 y/\cL n 4000 x/\cL n 4000 y/\∀v H',aJ H H'->bY n H' v (x*y)->Q v H')
def BV[Ta F][cM n F](a:0<n){H:Hp}{t:Int}:bY n H (.int<|t%n) (ic t:F):=(iA ⋯).mpr ⟨_,Z,Jn _ ⋯,Jd _ a,(yC t).symm⟩
def ZF{a b:Int}(h:a.natAbs<2^k)(h':b.natAbs<2^j):(a*b).natAbs<2^(k+j):=by rw[Int.natAbs_mul,Nat.pow_add];exact Nat.mul_lt_mul'' h h'
def IG{a b:Int}(c:a.natAbs<2^4000)(d:b.natAbs<2^4000):(a*b).natAbs<2^8900:=Yf (ZF c d)<|Yv ∅ ∅
def vJ(h:a<2^k)(b:k<=20000):a<2^20000:=Yf h<|Yv ∅ b
def zP(h:a<=10000):a<2^20000:=vJ (Yp h (by decide:10000<2^14)) ∅
inductive pK(vs:Lg)(H:Hp)(Q:VK)(E:XK):Prop
 | mk (F:Type) (_:Ta F) (n:Int) (_:cM n F) (m:Nat) (d t:Lh) (v:V) (ap:Ka) (φ:Po F) (x:F) (l:Lc) (_:vs=[.int n,.ref d,.ref t,v]) (_:(n=0\/Pr n)/\n<=9973/\H d=some (.dT ap)/\PF n m H ap φ/\H t=some (.tup<|l.map V.int)/\T0 m l/\bY n H v x/\cL n 4000 (φ l)/\cL n 4000 x/\ap.length<1000 /\
 ∀H' kvs',Kp [d] H H'->H' d=some (.dT kvs')->PF n m H' kvs' (fZ φ l<|φ l+x)->kvs'.length<=ap.length+1->Q .non H')
inductive pJ(vs:Lg)(H:Hp)(Q:VK)(E:XK):Prop
 | mk (F:Type) (_:Ta F) (n:Int) (_:cM n F) (m:Nat) (e1 e2:Lh) (o:Lc) (v:V) (x:F) (gvs:Ka) (ψ:Po F) (_:vs=[.int n,.ref e1,.ref e2]) (_:(n=0\/Pr n)/\n<=9973/\m<=4/\e1≠e2/\H e1=some (.dT [(ky o,v)])/\T0 m o/\bY n H v x/\x≠0/\H e2=some (.dT gvs)/\PF n m H gvs ψ/\cL n 1000 x/\(∀t,cL n 1000<|ψ t)/\gvs.length<500 /\
 ∀d H' ap,H d=none->aJ H H'->H' d=some (.dT ap)->PF n m H' ap (λt=>x*sh o ψ t)->ap.length<=gvs.length->Q (.ref d) H')
section
variable{F:Type}[Ta F]
def rS(n:Int)(x:F):Prop:=n=0->∃N,x*ic 6=ic N/\N.natAbs<=54
def rR(n:Int)(x:F):Prop:=n=0->∃p q,p≠0/\q≠0/\p.natAbs<=7/\q.natAbs<=7/\x*ic q=ic p
end
def z13[Ta F][cM 0 F](h:H r=some (.tup [.int p,.int q]))(c:1<=q)(i:gI p q=1)(d:p≠0)(e:p.natAbs<=7)(a:q.natAbs<=7):∃x:F,x≠0/\rR 0 x/\bY 0 H (.ref r) x:=by
 let⟨x,ex⟩:=KJ (F:=F) (t:=p) (b:=q) ⋯;refine⟨x,λz=>?_,λ_=>⟨p,q,d,⋯,e,a,ex⟩,fG.mpr ⟨r,p,q,Z,h,c,i,ex⟩⟩;have:ic (F:=F) p≠0:=qQ (n:=0) λz=>by simp[zr]at z;lia
 rw[<- ex,z]at this;exact this (by grind)
inductive mU(vs:Lg)(H:Hp)(Q:VK)(E:XK):Prop
 | mk (F:Type) (_:Ta F) (n:Int) (_:cM n F) (c:Int) (_:vs=[.int n,.int c]) (_:(n=0\/Pr n)/\∀(x:F) v H',rS n x->aJ H H'->bY n H' v x->Q v H')
inductive vK(vs:Lg)(H:Hp)(Q:VK)(E:XK):Prop
 | mk (F:Type) (_:Ta F) (n:Int) (_:cM n F) (c:Int) (_:vs=[.int n,.int c]) (_:(n=0\/Pr n)/\∀(x:F) v H',x≠0->rR n x->aJ H H'->bY n H' v x->Q v H')
inductive jJ(vs:Lg)(H:Hp)(Q:VK)(E:XK):Prop
 | mk (F:Type) (_:Ta F) (n:Int) (_:cM n F) (sz a:Nat) (_:vs=[.int n,.int sz,.int a]) (_:(n=0\/Pr n)/\sz<=100/\∀l ys H',H l=none->aJ H H'->H' l=some (.lst ys)->Paired (λi u=>bY n H' u<|if i=a then(1:F) else 0) (List.range sz) ys->Q (.ref l) H')
inductive mQ(vs:Lg)(H:Hp)(Q:VK)(E:XK):Prop
 | mk (i:Int) (_:vs=[.int i]) (_:Q (.bl true) H)
inductive tO(vs:Lg)(H:Hp)(Q:VK)(E:XK):Prop
 | mk (F:Type) (_:Ta F) (n:Int) (_:cM n F) (v:V) (x:F) (_:vs=[.int n,v]) (_:(n=0\/Pr n)/\bY n H v x/\Q (.bl true) H)
def z3h(h:n=0\/Pr n)(c:¬0<n):n=0:=h.resolve_right λz=>by have:=z.1;lia
def MO(n:Nat):((List.range n).map λ_=>true).all id=true:=by simp
inductive tN(vs:Lg)(H:Hp)(Q:VK)(E:XK):Prop
 | mk (F:Type) (_:Ta F) (n:Int) (_:cM n F) (D:Lh) (ws:Lg) (sz:Nat) (_:vs=[.int n,.ref D,.int sz]) (_:(n=0\/Pr n)/\H D=some (.lst ws)/\ws.length=sz/\sz<=100/\(∀v∈ws,∃(l:Lh) (ρ:Po F) (bs:Lb),v=.ref l/\bL n H bs ρ l/\bs.length=sz)/\∀H',aJ H H'->Q (.bl true) H')
section
variable{F:Type}[Ta F]{n:Int}{H H':Hp}{l:Lh}{k:Nat}{f:Nat->F}{bs:Lb}{ρ:Po F}
def VL(n:Int)(H:Hp)(l:Lh)(k:Nat)(f:Nat->F):Prop:=∃ys,H l=some (.lst ys)/\ys.length=k/\∀i u,ys[i]?=some u->bY n H u (f i)
def bL.vl(h:bL n H bs ρ l):VL n H l bs.length λi=>ρ (bs.getD i []):=by let⟨ys,d,a⟩:=h;refine⟨ys,d,(Paired.length a).symm,λi u b=>?_⟩;let⟨t,c,q⟩:=cV a b;show bY n H u (ρ<|bs.getD i []);rw[show bs.getD i []=t by simp[List.getD,c]];exact q
theorem CA{R:α->V->Prop}:∀{as} {ys},as.length=ys.length->(∀(i:Nat) a u,as[i]?=some a->ys[i]?=some u->R a u)->Paired R as ys
 | [],[],_,_=>.nil
 | a::as,y::ys,h,q=>.cons (q 0 a y rfl rfl)<|CA ‹h› λi a u c b=>q (i+1) a u c b
def VL.row(h:VL n H l bs.length f)(e:∀i t,bs[i]?=some t->f i=ρ t):bL n H bs ρ l:=by let⟨ys,c,d,a⟩:=h;exact⟨ys,c,CA d.symm λi t u j b=>by rw[<- e i t j];exact a i u b⟩
def VL.same(e:aJ H H')(h:VL n H l k f):VL n H' l k f:=let ⟨ys,c,d,a⟩:=h;⟨ys,e _ _ c,d,λi u b=>(a i u b).same e⟩
theorem RG{i:Lc->Po F}(a:∀b,∃N,ρ b*ic A=ic N/\N.natAbs<=M):∀{S},(∀b∈S,∃N,i b t*ic A=ic N/\N.natAbs<=M)->∃N,sm (λb=>ρ b * i b t) S*ic (A*A)=ic N/\N.natAbs<=S.length*(M*M)
 | [],_=>⟨0,by show (0:F)*_=_;rw[gT];grind,Y2 _⟩
 | b::S,h=>by
  let⟨N,e,q⟩:=RG (t:=t) a (S:=S) λx o=>h x<|.tail _ o;let⟨c,e1,j⟩:=a b;let⟨d,m,p⟩:=h b<|.head _;exists c*d+N,?_
  ·show (ρ b * i b t+sm _ S)*_=_;rw[wT,dE c d,<- e,<- e1,<- m,dE A A];grind
  ·have:(c*d).natAbs<=M*M:=by rw[Int.natAbs_mul];exact Nat.mul_le_mul j p
   rw[Y5,Nat.succ_mul];generalize c*d=Zq at this ⊢;lia
def z1t[cM n F]{d:Lc->Po F}(a:JB n 165 ρ)(t:Lc){S:Lb}(h:S.length<=6)(c:∀b∈S,JB n 165<|d b):cL n 2000 (sm (λb=>ρ b * d b t) S):=λz=>by let⟨N,e,q⟩:=RG (a z) (t:=t) λb i=>c b i z t;refine⟨N,_,?_,e,Yp (Yr q<|Y4 _ h) nofun,nofun⟩;intro q;rcases Int.mul_eq_zero.mp q with q | q <;> exact(p6 165).1 q
end
inductive oZ(vs:Lg)(H:Hp)(Q:VK)(E:XK):Prop
 | mk (F:Type) (_:Ta F) (n:Int) (_:cM n F) (rl Rl:Lh) (bs:Lb) (ρ:Po F) (τ:Lc->Po F) (ws:Lg) (_:vs=[.int n,.ref rl,.ref Rl]) (_:(n=0\/Pr n)/\n<=9973/\bs.length<=6/\bL n H bs ρ rl/\H Rl=some (.lst ws)/\Paired (λb v=>∃l,v=.ref l/\bL n H bs (τ b) l) bs ws/\JB n 165 ρ/\(∀b∈bs,JB n 165<|τ b) /\
 ∀l H',H l=none->aJ H H'->bL n H' bs (λt=>sm (λb=>ρ b * τ b t) bs) l->Q (.ref l) H')
section
variable{F:Type}[Ta F]{n:Int}{H:Hp}{l l':Lh}{K:Lj}{bs:Lb}{ρ τ:Po F}
def z0d{x:F}(h:bY n H v x):∃d,fU K H v d/\PyData.canLay0 d=true/\PyData.depth d<=1/\RD n x d:=by
 by_cases c:n=0
 ·subst c;let⟨r,p,q,rfl,k,b,g,e⟩:=fG.mp h;exact⟨.tuple [.int p,.int q],.tup (aY.of k)<|.cons (.int p)<|.cons (.int q) .nil,Z,by simp[PyData.depth,PyData.depthAll],rE.mpr ⟨p,q,Z,b,g,e⟩⟩
 ·let⟨a,rfl,j,i,e⟩:=(iA c).mp h;exact⟨.int a,.int a,Z,by simp[PyData.depth],(rD c).mpr ⟨a,Z,j,i,e⟩⟩
theorem LK:∀{bs} {ys},Paired (λt u=>bY n H u<|ρ t) bs ys->∃ds,bQ K H ys ds/\PyData.canLayAll0 ds=true/\PyData.depthAll ds<=1/\Paired (λt d=>RD n (ρ t) d) bs ds
 | _,_,.nil=>⟨[],.nil,rfl,by simp[PyData.depthAll],.nil⟩
 | _,_,.cons r t=>by let⟨d,e,c,h3,h⟩:=z0d (K:=K) r;let⟨ds,a,i,q3,b⟩:=LK t;refine⟨d::ds,.cons e a,by simp only[PyData.canLayAll0,c,i];rfl,?_,.cons h b⟩;simp only[PyData.depthAll];lia
theorem EM[cM n F]:∀{bs} {ds es},Paired (λt d=>RD n (ρ t) d) bs ds->Paired (λt d=>RD n (τ t) d) bs es->(∀t∈bs,ρ t=τ t)->PyData.eqvAll ds es=true
 | _,_,_,.nil,.nil,_=>rfl
 | _,_,_,.cons r t,.cons r' t',h=>by rw[PyData.eqvAll,(RD.eq r r').mpr (h _<|.head _),EM t t' λx a=>h x<|.tail _ a];rfl
def BG(h:bL n H bs ρ l):∃ds,fU K H (.ref l) (.list ds)/\PyData.canLayAll0 ds=true/\PyData.depthAll ds<=1/\Paired (λt d=>RD n (ρ t) d) bs ds:=by let⟨ys,e,i⟩:=h;let⟨ds,a,j,b,c⟩:=LK (K:=K) i;exact⟨ds,.lst (aQ.of e) a,j,b,c⟩
def CK(a:PyData.canLayAll0 ds=true)(h2:PyData.depthAll ds<=2):SeqAt.shaped (.list ds)=true:=by unfold SeqAt.shaped;rw[PyData.canLay0,PyData.depth,a,Bool.true_and,decide_eq_true_eq];lia
def FI[cM n F](h:bL n H bs ρ l)(h':bL n H bs τ l')(e:∀t∈bs,ρ t=τ t):∃d e,fU K H (.ref l) d/\fU K H (.ref l') e/\SeqAt.shaped d=true/\SeqAt.shaped e=true/\PyData.eqv d e=true:=by let⟨ds,b,c,a3,i⟩:=BG (K:=K) h;let⟨es,b1,b2,b3,a⟩:=BG (K:=K) h';exact⟨_,_,b,b1,CK c ⋯,CK b2 ⋯,by rw[PyData.eqv];exact EM i a e⟩
theorem JW[cM n F]{σ c:Lc->Po F}:∀{cs} {ws ws'},Paired (λb v=>∃l,v=.ref l/\bL n H bs (σ b) l) cs ws->Paired (λb v=>∃l,v=.ref l/\bL n H bs (c b) l) cs ws'->(∀b∈cs,∀t∈bs,σ b t=c b t)->∃ds a,bQ K H ws ds/\bQ K H ws' a/\PyData.canLayAll0 ds=true/\PyData.canLayAll0 a=true/\PyData.depthAll ds<=2/\PyData.depthAll a<=2/\PyData.eqvAll ds a=true
 | _,_,_,.nil,.nil,_=>⟨[],[],.nil,.nil,rfl,rfl,by simp[PyData.depthAll],by simp[PyData.depthAll],rfl⟩
 | _,_,_,.cons ⟨l,e1,r⟩ t,.cons ⟨l',e2,r'⟩ t',h=>by
  let⟨ds,a,i,p,j,k,q5,q6,m⟩:=JW t t' λx o=>h x<|.tail _ o;let⟨d,u,s,a3,w⟩:=BG (K:=K) r;let⟨e,b1,b2,b3,q⟩:=BG (K:=K) r';subst e1 e2;refine⟨.list d::ds,.list e::a,.cons u i,.cons b1 p,by simp only[PyData.canLayAll0,PyData.canLay0,s,j];rfl,by simp only[PyData.canLayAll0,PyData.canLay0,b2,k];rfl,?_,?_,?_⟩
  ·simp only[PyData.depthAll,PyData.depth];lia
  ·simp only[PyData.depthAll,PyData.depth];lia
  ·rw[PyData.eqvAll,PyData.eqv,EM w q<|h _<|.head _,m];rfl
def U0[cM n F]{σ a:Lc->Po F}(k:H l=some (.lst ws))(j:H l'=some (.lst ws'))(r:Paired (λb v=>∃l,v=.ref l/\bL n H bs (σ b) l) bs ws)(s:Paired (λb v=>∃l,v=.ref l/\bL n H bs (a b) l) bs ws')(e:∀b∈bs,∀t∈bs,σ b t=a b t):∃d e,fU K H (.ref l) d/\fU K H (.ref l') e/\SeqAt.shaped d=true/\SeqAt.shaped e=true/\PyData.eqv d e=true:=by let⟨ds,es,c,o,h,i,q,p,m⟩:=JW (K:=K) r s e;exact⟨_,_,.lst (aQ.of k) c,.lst (aQ.of j) o,CK h q,CK i p,by rw[PyData.eqv];exact m⟩
end
section
variable{F:Type}[Ta F]{n:Int}{m:Nat}{rk:Lc->Lc}{T:Lc}{gp:Nat->Po F}{H H':Hp}{tl:Lh}{bs:Lb}{ls:Le}{τ:Nat->Lc->Po F}
structure xQ(m:Nat)(T:Lc)(bs:Lb):Prop where
 nd:bs.Nodup
 mem:∀t,t∈bs↔Bx m T t
 b6:bs.length<=6
 z:bs[0]?=some (zer m)
structure oH(n:Int)(m:Nat)(T:Lc)(gp:Nat->Po F)(H:Hp)(bs:Lb)(tl:Lh)(ls:Le)(τ:Nat->Lc->Po F):Prop where
 at_:H tl=some (.lst<|ls.map V.ref)
 tb:∀(a:Nat) l,ls[a]?=some l->∃ws,H l=some (.lst ws)/\Paired (λb v=>∃q,v=.ref q/\bL n H bs (τ a b) q) bs ws
 nf:∀(a:Nat),a<ls.length->∀b∈bs,Nf m T gp (sh (e1 m a)<|dl b) (τ a b)
 jb:∀(a:Nat),a<ls.length->∀b∈bs,JB n 165<|τ a b
def oH.same(e:aJ H H')(h:oH n m T gp H bs tl ls τ):oH n m T gp H' bs tl ls τ:=⟨e _ _ h.at_,λa l b=>let ⟨ws,c,d⟩:=h.tb a l b;⟨ws,e _ _ c,bH (λ_ _ ⟨q,e1,r⟩=>⟨q,e1,r.same e⟩) d⟩,h.nf,h.jb⟩
def pre(m:Nat)(u:Lc)(a:Nat)(j:Int):Lc:=(List.range m).map λi=>if i<a then u.getD i 0 else if i=a then j else 0
def sR(b:i<m):(pre m u a j).getD i 0=if i<a then u.getD i 0 else if i=a then j else 0:=by unfold pre;simp only[List.getD,List.getElem?_map,List.getElem?_range b,Option.map_some,Option.getD_some]
def oF:(pre m u a j).length=m:=by simp[pre]
def z26(b:i<m):(e1 m a).getD i 0=if i=a then 1 else 0:=by unfold e1;simp only[List.getD,List.getElem?_map,List.getElem?_range b,Option.map_some,Option.getD_some]
def z1z:aM (e1 m a) (pre m u a j)=pre m u a (j+1):=lN (by rw[gV<|by rw[dM.len,oF],dM.len,oF]) λi b=>by
 rw[gV<|by rw[dM.len,oF],dM.len]at b;rw[iS<|by rw[dM.len,oF],z26 b,sR b,sR b];by_cases c:i=a
 ·rw[Yl c,Yh ⋯,Yl c,Yh ⋯,Yl c];lia
 ·rw[Yh c,Yh c,Yh c];split <;> lia
def WI:pre m u a (u.getD a 0)=pre m u (a+1) 0:=lN (by rw[oF,oF]) λi b=>by
 rw[oF]at b;rw[sR b,sR b];rcases Nat.lt_trichotomy i a with c | c | c
 ·rw[Yl c,Yl ⋯]
 ·subst c;rw[Yh ⋯,Yl Z,Yl ⋯]
 ·rw[Yh ⋯,Yh ⋯,Yh ⋯];split <;> rfl
def z3g:pre m u 0 0=zer m:=lN (by rw[oF,oR]) λi a=>by
 rw[oF]at a;rw[sR a,Yh ⋯];have:(zer m).getD i 0=0:=by simp[zer,List.getD,a]
 rw[this];split <;> rfl
def SD(b:u.length=m):pre m u m 0=u:=lN (by rw[oF,b]) λi a=>by rw[oF]at a;rw[sR a,Yl a]
def HZ(m:Nat)(T u:Lc):Prop:=Bx m T u\/∃k,k<m/\u=cI m T k
def z1e(P:gN rk m T gp){u:Lc}(h:HZ m T u){a:Nat}(l:a<m){j:Int}(j0:0<=j)(e:j<u.getD a 0):Bx m T (pre m u a j):=by
 let d:(∀i,i<m->0<=u.getD i 0)/\∀i,i<m->(if i<a then u.getD i 0 else if i=a then j else 0)<T.getD i 0:=by
  rcases h with h | ⟨k,hk,rfl⟩
  ·refine⟨λi _=>h.1.nn i,λi b=>?_⟩;have:=h.2 i b;have:=(P.t1 i b).1;split
   ·lia
   ·split
    ·next c=>subst c;lia
    ·lia
  ·refine⟨λi _=>P.h0.nn i,λi b=>?_⟩;let t1:=(P.t1 i b).1;let o:a=k:=Classical.byContradiction λz=>by rw[jY,Yh λq=>z q.1]at e;lia
   subst o;rw[jY,Yl ⟨Z,l⟩]at e;split
   ·next c=>rw[jY,Yh ⋯];lia
   ·split
    ·next c=>subst c;exact e
    ·lia
 refine⟨⟨oF,λi=>?_⟩,λi b=>by rw[sR b];exact d.2 i b⟩;by_cases b:i<m
 ·rw[sR b];split
  ·exact d.1 i b
  ·split <;> lia
 ·have:(pre m u a j).getD i 0=0:=by simp[pre,List.getD,b]
  rw[this];exact Int.le_refl _
def z2z:JB n 165 (dl (F:=F) u):=by
 refine JB.le (s:=0) (λ_ t=>?_) ∅;show ∃N:Int,(if t=u then(1:F) else 0)*ic 1=ic N/\_;split
 ·exact⟨1,by rw[cT];grind,∅⟩
 ·exact⟨0,by rw[cT,gT];grind,∅⟩
def Nf.step(P:gN rk m T gp)(B:xQ m T bs)(h:oH n m T gp H bs tl ls τ){a:Nat}(i:a<ls.length){w:Lc}(hw:Bx m T w){c:Po F}(d:Nf m T gp (dl w) c):Nf m T gp (dl<|aM (e1 m a) w) (λt=>G.sm (λb=>c b * τ a b t) bs)/\JB n 165 (λt=>G.sm (λb=>c b * τ a b t) bs):=by
 let e:c=dl w:=funext λt=>d.one P (Nf.self λu j=>by have:u=w:=Classical.byContradiction λz=>j<|Yh z;rw[this];exact hw) t
 let s:(λt=>G.sm (λb=>c b * τ a b t) bs)=τ a w:=funext λt=>by rw[DX B.nd ((B.mem w).mpr hw) λb _ k=>by rw[e];show dl w b*_=0;unfold dl;rw[Yh k];grind,e];unfold dl;rw[Yl Z];grind
 rw[s];exact⟨(h.nf a i w<|(B.mem w).mpr hw).congr (λt=>(DW dM.len hw.1.len t).symm) λ_=>Z,h.jb a i w<|(B.mem w).mpr hw⟩
end
inductive pP(vs:Lg)(H:Hp)(Q:VK)(E:XK):Prop
 | mk (F:Type) (_:Ta F) (n:Int) (_:cM n F) (m:Nat) (rk:Lc->Lc) (T:Lc) (gp:Nat->Po F) (t tl:Lh) (bs:Lb) (ls:Le) (τ:Nat->Lc->Po F) (u:Lc) (_:vs=[.int n,.ref t,.ref tl,.int bs.length]) (_:(n=0\/Pr n)/\n<=9973/\gN rk m T gp/\xQ m T bs/\oH n m T gp H bs tl ls τ/\ls.length=m/\H t=some (.tup<|u.map V.int)/\T0 m u/\HZ m T u/\m<=4 /\
 ∀l ρ H',H l=none->aJ H H'->bL n H' bs ρ l->Nf m T gp (dl u) ρ->JB n 165 ρ->Q (.ref l) H')
section
variable{F:Type}[Ta F]{n:Int}{m:Nat}{rk:Lc->Lc}{T:Lc}{gp:Nat->Po F}{H H':Hp}{tl:Lh}{bs:Lb}{ls:Le}{τ:Nat->Lc->Po F}
def Nf.two(P:gN rk m T gp)(B:xQ m T bs)(h:oH n m T gp H bs tl ls τ){a b:Nat}(e:a<ls.length)(i:b<ls.length){w:Lc}(hw:w∈bs)(t:Lc):G.sm (λc=>τ a w c * τ b c t) bs=G.sm (λc=>τ b w c * τ a c t) bs:=by
 let d:∀{a b:Nat},a<ls.length->b<ls.length->Nf m T gp (G.sh (aM (e1 m b)<|e1 m a)<|dl w) (λt=>G.sm (λc=>τ a w c * τ b c t) bs):=fun{a b} e i=>by let q:=h.nf a e w hw;refine(q.sh P dM<|Nf.thru (σ:=τ b) B.nd (λt l=>(B.mem t).mpr (q.bx t l)) λc k=>h.nf b i c k).congr (λt=>?_) λ_=>rfl;rw[AY<|by rw[dM.len,dM.len]]
 let j:=d i e;rw[jX<|by rw[dM.len,dM.len]]at j;exact(d e i).one P j t
end
inductive tX(vs:Lg)(H:Hp)(Q:VK)(E:XK):Prop
 | mk (F:Type) (_:Ta F) (n:Int) (_:cM n F) (m:Nat) (rk:Lc->Lc) (T:Lc) (gp:Nat->Po F) (tl:Lh) (bs:Lb) (ls:Le) (τ:Nat->Lc->Po F) (a b:Nat) (x y:Lh) (_:vs=[.int n,.ref x,.ref y]) (_:(n=0\/Pr n)/\n<=9973/\gN rk m T gp/\xQ m T bs/\oH n m T gp H bs tl ls τ/\ls[a]?=some x/\ls[b]?=some y/\∀H',aJ H H'->Q (.bl true) H')
section
variable{F:Type}[Ta F]{n:Int}{m:Nat}{rk:Lc->Lc}{T:Lc}{gp:Nat->Po F}{H H':Hp}{tl l:Lh}{bs:Lb}{ls:Le}{τ:Nat->Lc->Po F}{ρ:Po F}
def Kd(H H':Hp):Prop:=∀b o,H b=some o->(∀kv,o≠.dT kv)->H' b=some o
def Kd.fix(h:Kd H H'):cR H H':=λb o q a _ _=>h b o q a
def bL.kd(e:Kd H H')(h:bL n H bs ρ l):bL n H' bs ρ l:=h.keep e.fix λo a=>by let⟨ys,b,_⟩:=h;rw[b]at a;cases a;exact e _ _ b (by intro kv z;cases z)
def oH.kd(e:Kd H H')(h:oH n m T gp H bs tl ls τ):oH n m T gp H' bs tl ls τ:=⟨e _ _ h.at_ (by intro c z;cases z),λa l b=>let ⟨ws,d,i⟩:=h.tb a l b;⟨ws,e _ _ d (by intro c z;cases z),bH (λ_ _ ⟨q,e1,r⟩=>⟨q,e1,r.kd e⟩) i⟩,h.nf,h.jb⟩
def TW(P:gN rk m T gp){j:Nat}(a:j<m):xO m T gp (gp j):=(Cb.one (gs:=gp) (h:=cI m T) (B:=λ_=>True) (List.mem_range.mpr a) (T0.zer m) trivial).congr λt=>by rw[EG<|P.row.sp j<|List.mem_range.mpr a]
def CB(n:Int)(i:Nat)(ρ:Po F):Prop:=n=0->∀t,∃N,ρ t*ic (6*6^165)=ic N/\N.natAbs<=i*(54*60^165)
def CB.lim[cM n F](h:CB n i ρ)(a:i<=100)(t:Lc):cL n 4000 (ρ t):=λz=>by
 let⟨N,e,b⟩:=h z t;refine⟨N,_,λq=>?_,e,Yp (Yr b<|Y4 _ a) nofun,nofun⟩;rcases Int.mul_eq_zero.mp q with q | q
 ·cases q
 ·exact(p6 165).1 q
def CB.add(h:CB n i ρ)(k:rS n c)(j:JB n 165 σ):CB n (i+1) (λt=>ρ t+c * σ t):=λz t=>by
 let⟨N,e,b⟩:=h z t;let⟨d,e1,b1⟩:=k z;let⟨a,o,b2⟩:=j z t;refine⟨N+d*a,by rw[wT,dE d a,<- e,<- e1,<- o,dE 6];grind,?_⟩;let q:(d*a).natAbs<=54*60^165:=by rw[Int.natAbs_mul];exact Nat.mul_le_mul b1 b2
 rw[Nat.succ_mul];generalize d*a=Zq at q ⊢;exact Yr (Int.natAbs_add_le _ _)<|Nat.add_le_add b q
def z2p{φ:Po F}(h:y∉S)(t:Lc):dY φ (S++[y]) t=dY φ S t + φ y*dl y t:=by
 unfold dl;by_cases c:t=y
 ·subst c;rw[E1<|by simp,FL h,Yl Z];grind
 ·rw[FZ c,Yh c];grind
end
inductive tY(vs:Lg)(H:Hp)(Q:VK)(E:XK):Prop
 | mk (F:Type) (_:Ta F) (n:Int) (_:cM n F) (m:Nat) (rk:Lc->Lc) (T:Lc) (gp:Nat->Po F) (e tl:Lh) (bs:Lb) (ls:Le) (τ:Nat->Lc->Po F) (j:Nat) (fvs:Ka) (_:vs=[.int n,.ref e,.ref tl,.int bs.length]) (_:(n=0\/Pr n)/\n<=9973/\gN rk m T gp/\xQ m T bs/\oH n m T gp H bs tl ls τ/\ls.length=m/\m<=4/\j<m/\H e=some (.dT fvs)/\PF n m H fvs (gp j)/\(∀t,rS n<|gp j t)/\fvs.length<=100/\∀H',aJ H H'->Q (.bl true) H')
inductive oX(vs:Lg)(H:Hp)(Q:VK)(E:XK):Prop
 | mk (m:Nat) (c:Int) (_:vs=[.int m,.int c]) (_:1<=m/\m<=4/\∀l T H',aJ H H'->H' l=some (.lst<|T.map V.int)->T∈eY m->Q (.ref l) H')
def D0(h0:0<=k):kT l (some k) none=l.drop k.toNat:=by
 unfold kT HT.sIx;simp only[];rw[Yh ⋯];rcases Nat.le_total k.toNat l.length with q | q
 ·rw[Nat.min_eq_left q];exact List.take_of_length_le (by rw[List.length_drop];lia)
 ·rw[Nat.min_eq_right q,List.drop_of_length_le<|Yi _,List.drop_of_length_le q,List.take_nil]
def JG(h0:0<=k):kT l none (some k)=l.take k.toNat:=by
 unfold kT HT.sIx;simp only[];rw[Yh ⋯,Nat.sub_zero,List.drop_zero];rcases Nat.le_total k.toNat l.length with q | q
 ·rw[Nat.min_eq_left q]
 ·rw[Nat.min_eq_right q,List.take_of_length_le<|Yi _,List.take_of_length_le q]
theorem yR:∀a b,kQ (a++b)=kQ a*kQ b
 | [],b=>by show kQ b=1*kQ b;lia
 | x::a,b=>by show x*kQ (a++b)=x*kQ a*kQ b;rw[yR a b,Int.mul_assoc]
def z0q{T:Lc}(l:T.length=m)(h:∀x∈T,1<=x/\x<=lB m)(p:kQ T<=6):T∈eY m:=List.mem_filter.mpr ⟨cC.mpr ⟨T0.of l λx a=>by have:=(h x a).1;lia,λx a=>(h x a).2⟩,by
 rw[Jz,List.all_eq_true];exact⟨λx a=>Yo (h x a).1,Yo p⟩⟩
def fL(bs:Lc):Lb:=bs.foldl (λacc b=>acc.flatMap λt=>(List.range b.toNat).map fun(a:Nat)=>t++[(a:Int)]) [[]]
def CC(bs:Lc)(b:Int):fL (bs++[b])=(fL bs).flatMap λt=>(List.range b.toNat).map fun(a:Nat)=>t++[(a:Int)]:=by unfold fL;rw[List.foldl_append];rfl
def FT{α:Type}{P:List α->Prop}(h0:P [])(d:∀l a,P l->P (l++[a]))(l:List α):P l:=by
 have:∀n (l:List α),l.length=n->P l:=λn=>by
  induction n with
  | zero=>intro l b;rw[Ja.mp b];exact h0
  | succ n ih=>
   intro l b;let c:l≠[]:=λz=>by rw[z]at b;simp at b
   rw[<- List.dropLast_concat_getLast c];exact d _ _<|ih _ (by rw[List.length_dropLast,b];rfl)
 exact this _ l rfl
def xD{a:Int}:(l++[a]).getD i 0=if i<l.length then l.getD i 0 else if i=l.length then a else 0:=by
 by_cases c:i<l.length
 ·rw[Yl c];simp[List.getD,List.getElem?_append_left c]
 ·rw[Yh c];by_cases d:i=l.length
  ·rw[Yl d];subst d;simp[List.getD]
  ·rw[Yh d];simp[List.getD,List.getElem?_eq_none,show l.length+1<=i by lia]
def LQ(bs:Lc):∀t,t∈fL bs↔t.length=bs.length/\∀i,i<bs.length->0<=t.getD i 0/\t.getD i 0<bs.getD i 0:=by
 refine FT (P:=λbs=>∀t,t∈fL bs↔t.length=bs.length/\∀i,i<bs.length->0<=t.getD i 0/\t.getD i 0<bs.getD i 0) ?_ ?_ bs
 ·intro t;show t∈[[]]↔_;rw[Yq];constructor
  ·rintro rfl;exact⟨rfl,λi e=>by simp at e⟩
  ·rintro⟨h,_⟩;exact Ja.mp h
 ·intro bs b l t;rw[CC,List.mem_flatMap];constructor
  ·rintro⟨u,q,p⟩;let⟨a,m,rfl⟩:=Jj.mp p;let m:=List.mem_range.mp m;let⟨d,j⟩:=(l u).mp q;refine⟨by simp[d],λi e=>?_⟩;rw[Y6]at e;simp only[List.length_singleton]at e;rw[xD,xD,d];by_cases c:i<bs.length
   ·rw[Yl c,Yl c];exact j i c
   ·have:i=bs.length:=by lia
    rw[Yh c,Yh c,Yl this,Yl this];lia
  ·rintro⟨d,j⟩;rw[Y6]at d j;simp only[List.length_singleton]at d j;let n:t≠[]:=λz=>by rw[z]at d;simp at d
   obtain⟨u,x,rfl⟩:∃u x,t=u++[x]:=⟨t.dropLast,t.getLast n,(List.dropLast_concat_getLast n).symm⟩;simp only[List.length_append,List.length_singleton]at d;let k:u.length=bs.length:=by lia
   let o:=j bs.length ⋯;rw[xD,xD,k,Yh ⋯,Yl Z,Yh ⋯,Yl Z]at o;refine⟨u,(l u).mpr ⟨k,λi e=>?_⟩,Jj.mpr ⟨x.toNat,List.mem_range.mpr ⋯,?_⟩⟩
   ·have:=j i ⋯;rw[xD,xD,k,Yl e,Yl e]at this;exact this
   ·rw[show ((x.toNat:Nat):Int)=x by lia]
theorem N3{α m:Type}{f:α->List m}:∀{l:List α},l.Nodup->(∀a∈l,(f a).Nodup)->(∀a∈l,∀b∈l,∀x,x∈f a->x∈f b->a=b)->(l.flatMap f).Nodup
 | [],_,_,_=>List.nodup_nil
 | a::l,nd,h1,h2=>by rw[List.flatMap_cons];rw[List.nodup_cons]at nd;refine List.nodup_append.mpr ⟨h1 a<|by simp,N3 nd.2 (λb d=>h1 b<|by simp[d])<|λb d c i x=>h2 b (by simp[d]) c (by simp[i]) x,λx k y j e=>?_⟩;subst e;let⟨b,d,h⟩:=List.mem_flatMap.mp j;have:=h2 a (by simp) b (by simp[d]) x k h;subst this;exact nd.1 d
def SN(bs:Lc):(fL bs).Nodup:=by
 refine FT (P:=λbs=>(fL bs).Nodup) (by show ([[]]:Lb).Nodup;simp) (λbs b c=>?_) bs;rw[CC];refine N3 c (λt _=>?_)<|λa _ b _ x i d=>?_
 ·exact(List.nodup_range).map _ (λx y h z=>h<|by simp at z;lia)
 ·let⟨p,_,rfl⟩:=Jj.mp i;let⟨q,_,e⟩:=Jj.mp d;exact((List.append_inj' e rfl).1).symm
theorem MC{α d:Type}{f:α->List d}:∀{l:List α},(∀a∈l,(f a).length<=n)->(l.flatMap f).length<=l.length*n
 | [],_=>by simp
 | a::l,h=>by rw[List.flatMap_cons,Y6,Y5,Nat.add_mul];have:=h a (by simp);have:=MC (f:=f) (l:=l) λb c=>h b (by simp[c]);lia
def WY{B:Nat}(bs:Lc):(∀b∈bs,b<=(B:Int))->(fL bs).length<=B^bs.length:=by refine FT (P:=fun(bs:Lc)=>(∀b∈bs,b<=(B:Int))->(fL bs).length<=B^bs.length) (λ_=>by show ([[]]:Lb).length<=_;simp) (λbs b d h=>?_) bs;rw[CC,Y6,List.length_singleton,Nat.pow_succ];refine Yr (MC (n:=B) λt _=>?_)<|Y4 _<|d λc a=>h c (by simp[a]);rw[Yd,List.length_range];have:=h b (by simp);lia
theorem L8{K:Lj}{f:V->Hp->VK->Prop}{rk:Lc->Lc}{OK:Hp->Prop}(l:∀(x:V) (H1:Hp) (xs:Lc) (Q:VK),OK H1->fX H1 xs x->jG xs->(∀p H',aJ H1 H'->H' p=some (.tup<|(rk xs).map V.int)->Q (.ref p) H')->f x H1 Q)(bW:∀H1 c,aJ H1 c->OK H1->OK c)(m:∀xs,jG xs->rk xs≠[]){F:Lg->Hp->Prop}:∀(xss:Lb) (ys ks:Lg) (kis:Lb) (H H1:Hp),aJ H H1->OK H1->Paired (fX H1) xss ys->(∀xs∈xss,jG xs) ->
  Paired (λb k=>∃t,k=V.ref t/\aY K H1 t (b.map V.int)/\b≠[]) kis ks ->
  (∀a H',aJ H H'->Paired (λb k=>∃t,k=V.ref t/\aY K H' t (b.map V.int)/\b≠[]) (kis++xss.map rk) a->F a H') ->
  iM f ys ks H1 F
 | [],_,ks,kis,H,H1,e,_,.nil,_,hk,hF=>by have:=hF ks H1 e ‹hk›;exact this
 | xs::xss,_,ks,kis,H,H1,e,hp,.cons hr t,hw,hk,hF=>by refine l _ H1 xs _ hp hr (hw xs<|.head _) λk c d i=>?_;refine L8 l bW m xss _ _ (kis++[rk xs]) H c (e.trans d) (bW _ _ d hp) (bH (λ_ _ h=>h.same d) t) (λx q=>hw x<|.tail _ q) (gG ⟨k,Z,aY.of i,m xs<|hw xs<|.head _⟩<|bH (λ_ _ ⟨t,n,r,o⟩=>⟨t,n,d.seqT r,o⟩) hk) λa H' s j=>hF a H' s ?_;simpa using j
def z1d(h:jG xs):cK kd ws xs≠[]:=by
 unfold cK;split
 ·exact h.ne
 ·split
  ·exact List.cons_ne_nil _ _
  ·split <;> exact List.cons_ne_nil _ _
def U2(i:H a=some (.tup xs))(d:H b=some (.tup ys))(h:ys≠[])(hz:xs.length+ys.length<=sizeLine)(q:∀r H',aJ H H'->H' r=some (.tup<|xs++ys)->Q (.ref r) H'):RO K (.ref a) (.ref b) H Q:=
 ⟨a,b,xs,ys,Z,Z,aY.of i,aY.of d,hz,λc=>q b H (aJ.refl _)<|by rw[c];exact d,λ_ c=>absurd c h,λ_ _ p e=>q p _ (aJ.upd e) aW⟩
def YQ{α b:Type}{f:α->List b}{l:List α}{a:α}(h:l[i]?=some a):(l.take<|i+1).flatMap f=(l.take i).flatMap f++f a:=by rw[List.take_add_one,h,List.flatMap_append];simp
def uI:Pos:=⟨440,33,440,84⟩
def rL:Lq:=(PyProof.Rows.envOfC (Str.ofString "_law_inside") (gP vI) 0 0 .none).qual++Str.ofString "<lambda>"
def BQ(h:Tb Pt lp ql H)(e:aJ H H'):Tb Pt lp ql H':=h.imp (λz=>e _ _ z) fun⟨c,h1,h2,h3⟩=>⟨c,h1,e _ _ h2,e _ _ h3⟩
def YY{c:Scope}(i:c.names=[(x,.local),(y,.free),(g,.globalImplicit)]):∀w,(c.names.lookup w=some .cell\/c.names.lookup w=some .free)->w∈[y]:=λw hw=>by
 let d:∀{k:NameKind},c.names.lookup w=some k->(w,k)∈c.names:=fun{k} h=>by
  generalize c.names=l at h;induction l with
  | nil=>cases h
  | cons p l ih=>
   let⟨a,b⟩:=p;rw[Jm]at h;split at h
   ·rename_i e;cases h;rw[Jy e];exact .head _
   ·exact .tail _<|ih h
 rcases hw with h | h
 ·have:=d h;rw[i]at this;simp at this
 ·have:=d h;rw[i]at this;simp at this;rw[this];simp
def z2g(l:T.length=m)(t:Lc):t∈fL T↔Bx m T t:=by
 rw[LQ,l];constructor
 ·rintro⟨b,c⟩;refine⟨T0.of b λy d=>?_,λi a=>(c i a).2⟩;let⟨i,a,rfl⟩:=List.mem_iff_getElem.mp d;have:=(c i ⋯).1;simpa[List.getD,a]using this
 ·rintro⟨b,c⟩;exact⟨b.len,λi a=>⟨b.nn i,c i a⟩⟩
def A3(h:T∈eY m):T.length=m/\∀x∈T,1<=x/\x<=6:=by
 let⟨d,a⟩:=List.mem_filter.mp h;rw[Jz,List.all_eq_true]at a;let⟨c,e⟩:=cC.mp d;let lb:lB m<=6:=by unfold lB;split <;> (try split) <;> decide
 exact⟨c.len,λx b=>⟨Jk<|a.1 x b,by have:=e x b;lia⟩⟩
inductive pN(Pt:Lh)(vs:Lg)(H:Hp)(Q:VK)(E:XK):Prop
 | mk (r l tl:Lh) (m:Nat) (kd:Int) (ws T:Lc) (_:vs=[.ref r,.ref tl]) (_:H r=some (.tup [.int kd,.ref l])/\H l=some (.lst<|ws.map V.int)/\0<=kd/\kd<4/\Nn ws/\(∀x∈ws,x<10^31)/\1<=m/\m<=4/\H tl=some (.lst<|T.map V.int)/\T∈eY m/\Tb Pt uI rL H /\
 ∀D H' ys bs,H D=none->(∀b o,H b=some o->b≠Pt->H' b=some o)->Tb Pt uI rL H'->TL m H' D ys bs->bs.Nodup->(∀t,t∈bs↔Bx m T t)->bs.Pairwise (λa b=>HT.lexLt (cK kd ws b) (cK kd ws a)=false)->Q (.ref D) H')
def dS(Pt:Lh)(H H':Hp):Prop:=∀b o,H b=some o->b≠Pt->H' b=some o
def dS.of(e:aJ H H'):dS Pt H H':=λb o h _=>e b o h
def dS.trans(a:dS Pt H H1)(b:dS Pt H1 H2):dS Pt H H2:=λc o h n=>b c o (a c o h n) n
def xU(h:Tb Pt lp ql H){b:Lh}{o:HO}(c:H b=some o)(a:∀ps,o≠.tbl ps):b≠Pt:=by
 rcases h with z | ⟨_,_,z,_⟩
 ·exact eM c z<|a _
 ·exact eM c z<|a _
def dS.tup{a:Lh}{e:Pos}{d:Lq}{H H':Hp}(k:dS a H H')(h:Tb a e d H)(b:Lh)(xs:Lg)(c:H b=some (.tup xs)):H' b=some (.tup xs):=k _ _ c<|xU h c (by intro ps z;cases z)
def dS.lst{a:Lh}{e:Pos}{d:Lq}{H H':Hp}(k:dS a H H')(h:Tb a e d H){b:Lh}{xs:Lg}(c:H b=some (.lst xs)):H' b=some (.lst xs):=k _ _ c<|xU h c (by intro ps z;cases z)
def dS.dT{a:Lh}{e:Pos}{d:Lq}{H H':Hp}(k:dS a H H')(h:Tb a e d H){b:Lh}{xs:Ka}(c:H b=some (.dT xs)):H' b=some (.dT xs):=k _ _ c<|xU h c (by intro ps z;cases z)
def dS.free(k:dS Pt H H')(h:Tb Pt lp ql H')(q:H' d=none):H d=none:=by
 cases c:H d with
 | none=>rfl
 | some o=>
  let a:d≠Pt:=λz=>by
   rw[z]at q;rcases h with y | ⟨_,_,y,_⟩
   ·rw[q]at y;cases y
   ·rw[q]at y;cases y
  rw[k _ _ c a]at q;cases q
def RF(h:Tb Pt lp ql H)(k:Kp [x] H H')(b:H x=some o)(e:∀ps,o≠.tbl ps)(l:∀c,o≠nU c ql):Tb Pt lp ql H':=by
 rcases h with z | ⟨c,j,a,d⟩
 ·exact .inl (k _ _ z λq=>by rw[Yq.mp q,b]at z;injection z with z;exact e _ z)
 ·refine .inr ⟨c,j,k _ _ a λq=>?_,k _ _ d λq=>?_⟩
  ·rw[Yq.mp q,b]at a;injection a with z;exact e _ z
  ·let i:=d;rw[Yq.mp q,b]at i;injection i with z;exact l _ z
structure HV{F:Type}[Ta F](n:Int)(rk:Lc->Lc)(m:Nat)(T:Lc)(H:Hp)(k:Nat)(ds:Le)(gp:Nat->Po F):Prop where
 len:ds.length=k
 pf:∀(i:Nat) d,ds[i]?=some d->∃ap,H d=some (.dT ap)/\PF n m H ap (gp i)/\ap.length<=7
 one:∀i,i<k->gp i (cI m T i)=1
 low:∀i,i<k->∀t,gp i t≠0->t=cI m T i\/(Bx m T t/\lt rk t (cI m T i))
 sm:∀i t,rS n<|gp i t
inductive tJ(Pt:Lh)(vs:Lg)(H:Hp)(Q:VK)(E:XK):Prop
 | mk (F:Type) (_:Ta F) (n:Int) (_:cM n F) (r l tl cl:Lh) (m:Nat) (kd:Int) (ws T cs:Lc) (_:vs=[.int n,.ref r,.ref tl,.ref cl]) (_:(n=0\/Pr n)/\H r=some (.tup [.int kd,.ref l])/\H l=some (.lst<|ws.map V.int)/\0<=kd/\kd<4/\Nn ws/\(∀x∈ws,x<10^31)/\1<=m/\m<=4/\H tl=some (.lst<|T.map V.int)/\T∈eY m/\H cl=some (.lst<|cs.map V.int)/\Tb Pt uI rL H /\
 ∀D H' ds (gp:Nat->Po F),H D=none->dS Pt H H'->Tb Pt uI rL H'->H' D=some (.lst<|ds.map V.ref)->(∀d∈ds,H d=none)->HV n (cK kd ws) m T H' m ds gp->Q (.ref D) H')
def DP[Ta F](n:Int)(m:Nat)(H:Hp)(φ:Po F)(v:V):Prop:=∃d ap,v=.ref d/\H d=some (.dT ap)/\PF n m H ap φ/\qM ap/\ap.length<=7
def DP.same[Ta F]{φ:Po F}(e:aJ H H'):DP n m H φ v->DP n m H' φ v:=fun⟨d,ap,h1,h2,h3,h4,h5⟩=>⟨d,ap,h1,e _ _ h2,h3.same e,h4,h5⟩
def IN[Ta F]{x:F}(h:rR n x):cL n 1000 x:=λz=>by
 let⟨p,q,_,a,h3,h4,b⟩:=h z;have:8<2^1000:=by decide
 exact⟨p,q,a,b,⋯,⋯⟩
def sC[Ta F](n:Int)(ψ:Nat->Po F)(j:Nat)(φ:Po F):Prop:=∃x,x≠0/\rR n x/\φ=λt=>x * ψ j t
def DP.updL[Ta F]{φ:Po F}(c:H D=some (.lst vs)):DP n m H φ v->DP n m (upd H D<|.lst ws) φ v:=fun⟨d,ap,q1,q2,q3,q4,q5⟩=>⟨d,ap,q1,(aV (λz=>by rw[z,c]at q2;cases q2)).trans q2,q3.keep λb xs a=>(aV (λz=>by rw[z,c]at a;cases a)).trans a,q4,q5⟩
def rZ[Ta F](n:Int)(K0:Nat)(ψ:Nat->Po F)(φs:List (Po F)):Prop:=K0<=φs.length/\(∀φ∈φs,(∀t,φ t=0)\/∃j,j<K0/\sC n ψ j φ)/\∀j,j<K0->∃φ∈φs,sC n ψ j φ
def rZ.mem[Ta F]{ψ:Nat->Po F}{a b:List (Po F)}(h:rZ n K0 ψ a)(l:b.length=a.length)(c:∀φ,φ∈b↔φ∈a):rZ n K0 ψ b:=⟨by rw[l];exact h.1,λφ q=>h.2.1 φ<|(c φ).mp q,λj e=>let ⟨φ,d,i⟩:=h.2.2 j e;⟨φ,(c φ).mpr d,i⟩⟩
def rZ.push[Ta F]{ψ:Nat->Po F}{a:List (Po F)}(h:rZ n K0 ψ a){φ:Po F}(q:(∀t,φ t=0)\/∃j,j<K0/\sC n ψ j φ):rZ n K0 ψ (a++[φ]):=⟨by rw[Y6];have:=h.1;lia,λb z=>(Jv.mp z).elim (h.2.1 b) λz=>by rw[Yq.mp z];exact q,λj d=>let ⟨φ,c,e⟩:=h.2.2 j d;⟨φ,List.mem_append_left _ c,e⟩⟩
def R1[Ta F](n:Int)(m:Nat)(K0:Nat)(ψ:Nat->Po F)(N:Nat)(H:Hp)(D:Lh):Prop:=∃vs φs,H D=some (.lst vs)/\Paired (DP n m H) φs vs/\φs.length<=N/\rZ n K0 ψ φs
theorem FD{R:α->V->Prop}:∀{a c} {b d},Paired R a b->Paired R c d->Paired R (a++c) (b++d)
 | _,_,_,_,.nil,h=>h
 | _,_,_,_,.cons r t,h=>.cons r<|FD t h
theorem LR{R:α->V->Prop}:∀k {a} {b},Paired R a b->Paired R (a.take k) (b.take k)
 | 0,_,_,_=>by rw[List.take_zero,List.take_zero];exact .nil
 | _+1,_,_,.nil=>.nil
 | k+1,_,_,.cons r t=>.cons r<|LR k t
theorem MA{R:α->V->Prop}:∀k {a} {b},Paired R a b->Paired R (a.drop k) (b.drop k)
 | 0,_,_,h=>h
 | _+1,_,_,.nil=>.nil
 | k+1,_,_,.cons _ t=>MA k t
theorem KB{R:α->V->Prop}:∀{a} {b},Paired R a b->Paired R a.reverse b.reverse
 | _,_,.nil=>.nil
 | _,_,.cons r t=>by rw[List.reverse_cons,List.reverse_cons];exact FD (KB t)<|.cons r .nil
inductive tT(vs:Lg)(H:Hp)(Q:VK)(E:XK):Prop
 | mk (F:Type) (_:Ta F) (n:Int) (_:cM n F) (m:Nat) (pl:Lh) (ds:Le) (ψ:Nat->Po F) (c:Int) (_:vs=[.int n,.int m,.ref pl,.int c]) (_:(n=0\/Pr n)/\n<=9973/\1<=m/\m<=4/\H pl=some (.lst<|ds.map V.ref)/\1<=ds.length/\ds.length<=5/\(∀(j:Nat) d,ds[j]?=some d->∃ap,H d=some (.dT ap)/\PF n m H ap (ψ j)/\ap.length<=7)/\(∀j t,cL n 1000<|ψ j t)/\(∀j,j<ds.length->∀H' ap (φ:Po F),PF n m H' ap φ->(∀t,φ t≠0->ψ j t≠0)->qM ap) /\
 ∀D H' vs (φs:List (Po F)),H D=none->aJ H H'->H' D=some (.lst vs)->Paired (DP n m H') φs vs->φs.length<=7->(∀φ∈φs,(∀t,φ t=0)\/∃j,j<ds.length/\sC n ψ j φ)->(∀j,j<ds.length->∃φ∈φs,sC n ψ j φ)->Q (.ref D) H')
def z2a:[(1,7),(2,4),(3,4),(4,3)].all (λp:Nat×Nat=>decide<|((iW p.1 p.2).map AF).Nodup)=true:=by decide +kernel
theorem JD{α k:Type}{f:α->k}:∀{l:List α},(l.map f).Nodup->∀{a b},a∈l->b∈l->f a=f b->a=b
 | x::l,h,a,b,c,d,e=>by
  rw[Yz,List.nodup_cons]at h;rcases Yj.mp c with j | c <;> rcases Yj.mp d with i | d
  ·rw[j,i]
  ·exact absurd (Jj.mpr ⟨b,d,by rw[<- e,j]⟩) h.1
  ·exact absurd (Jj.mpr ⟨a,c,by rw[e,i]⟩) h.1
  ·exact JD h.2 c d e
def z2u[Ta F]{φ:Po F}(m1:1<=m)(m4:m<=4)(h:PF n m H ap φ)(o:∀t,φ t≠0->∀x∈t,x<=lB m+1):qM ap:=by
 refine⟨fQ ap,h.keys,DM h.tnd λa q b j e=>?_⟩;let l:=h.tmem.mp q;let k:=h.tmem.mp j;let d:∀c:Nat,c=lB m+1->((iW m c).map AF).Nodup->a=b:=λc ec p=>JD p (cC.mpr ⟨h.sp a l,λx i=>by have:=o a l x i;lia⟩) (cC.mpr ⟨h.sp b k,λx i=>by have:=o b k x i;lia⟩) e;let t:=List.all_eq_true.mp z2a;rcases(by lia:m=1\/m=2\/m=3\/m=4) with r | r | r | r <;> subst r
 ·exact d 7 rfl<|Jk<|t (1,7) (by simp)
 ·exact d 4 rfl<|Jk<|t (2,4) (by simp)
 ·exact d 4 rfl<|Jk<|t (3,4) (by simp)
 ·exact d 3 rfl<|Jk<|t (4,3) (by simp)
theorem ES(O:eJ rk m):∀{a b:Lb},a.Nodup->b.Nodup->(∀t,t∈a↔t∈b)->(∀t∈a,t.length=m)->a.Pairwise (λx y=>HT.lexLt (rk y) (rk x)=false)->b.Pairwise (λx y=>HT.lexLt (rk y) (rk x)=false)->a=b
 | [],[],_,_,_,_,_,_=>rfl
 | [],y::b,_,_,h,_,_,_=>by have:=(h y).mpr (.head _);cases this
 | x::a,[],_,_,h,_,_,_=>by have:=(h x).mp (.head _);cases this
 | x::a,y::b,na,nb,h,hl,pa,pb=>by
  rw[List.nodup_cons]at na nb;rw[List.pairwise_cons]at pa pb;let k:y.length=m:=hl y<|(h y).mpr (.head _);let j:x.length=m:=hl x<|.head _;let e:x=y:=by
   rcases Yj.mp ((h x).mp (.head _)) with e | i
   ·exact e
   rcases Yj.mp ((h y).mpr (.head _)) with e | l
   ·exact e.symm
   rcases DY O k j (pa.1 y l) with e | d
   ·exact e
   ·have:=pb.1 x i;unfold lt at d;rw[this]at d;cases d
  subst e;rw[ES O na.2 nb.2 (λt=>?_) (λt n=>hl t<|.tail _ n) pa.2 pb.2];constructor
  ·intro q;rcases Yj.mp ((h t).mp (.tail _ q)) with e | c
   ·exact absurd (e ▸ q) na.1
   ·exact c
  ·intro q;rcases Yj.mp ((h t).mpr (.tail _ q)) with e | c
   ·exact absurd (e ▸ q) nb.1
   ·exact c
def wfW(c:Nn ws)(m:Nat)(P:Lc->Prop):(∀T,T0 m T->(∀T',T0 m T'->lt (uD ws) T' T->P T')->P T)->∀T,T0 m T->P T:=A0 (k:=m+1) (uD ws) (λT b=>⟨by show T.length+1=_;rw[b.len],λx a=>by
 rcases Yj.mp a with rfl | a
 ·exact EZ c b.mem
 ·exact b.mem x a⟩) (λ_ _ _ _ l=>l) P
def GA(kd:Int){ws:Lc}(a:Nn ws)(m:Nat)(P:Lc->Prop)(h:∀T,T0 m T->(∀T',T0 m T'->lt (cK kd ws) T' T->P T')->P T):∀T,T0 m T->P T:=by
 by_cases c0:kd=0
 ·let e:cK kd ws=uE:=funext λt=>by unfold cK;rw[Yl c0]
  rw[e]at h;exact wfL m P h
 by_cases c3:kd=3
 ·let e:cK kd ws=uD ws:=funext λt=>by unfold cK;rw[Yh c0,Yl c3]
  rw[e]at h;exact wfW a m P h
 by_cases c1:kd=1
 ·let e:cK kd ws=uF:=funext λt=>by unfold cK;rw[Yh c0,Yh c3,Yl c1]
  rw[e]at h;exact wfD m P h
 ·let e:cK kd ws=rC:=funext λt=>by unfold cK;rw[Yh c0,Yh c3,Yh c1]
  rw[e]at h;exact wfT m P h
def z2y[Ta F]{a:Nat->Po F}(b:Nn ws)(e:T∈eY m)(h:HV n (cK kd ws) m T H m ds a):gN (cK kd ws) m T a:=by let⟨c,d⟩:=A3 e;exact⟨BF kd b m,GA kd b m,c,λi hi=>d (T.getD i 0)<|by rw[List.getD,Yc ⋯];exact Jw _,h.one,h.low⟩
def SR(u:Nn ws)(s:1<=m)(p:m<=4)(j:T∈eY m)(d:bs.Nodup)(c:∀t,t∈bs↔Bx m T t)(st:bs.Pairwise (λa b=>HT.lexLt (cK kd ws b) (cK kd ws a)=false)):xQ m T bs:=by
 let⟨lT,k⟩:=A3 j;let O:=BF kd u m;let z:zer m∈bs:=(c _).mpr ⟨T0.zer m,λi n=>by
  have:=(k (T.getD i 0)<|by rw[List.getD,Yc ⋯];exact Jw _).1;have:(zer m).getD i 0=0:=by simp[zer,List.getD,n]
  lia⟩
 exists d,c,BJ ⟨s,p⟩ j d λt r=>(c t).mp r;cases bs with
 | nil=>cases z
 | cons h bs=>
  rw[List.pairwise_cons]at st;rcases Yj.mp z with e | q
  ·rw[e];rfl
  ·let h0:=((c h).mp (.head _)).1;rcases DY O (oR m) h0.len (st.1 _ q) with e | l
   ·rw[e];rfl
   ·by_cases e:h=zer m
    ·rw[e];rfl
    ·exact(yW l<|O.pos h h0.len (λx o=>h0.mem x o) e).elim
def GQ[Ta F]{x:F}(h:rR n x):Sc n x:=λz=>by let⟨p,q,b,a,h3,h4,c⟩:=h z;exact⟨p,q,b,a,⋯,⋯,c⟩
def GP[Ta F]{x y:F}(h:rR n x)(h':rR n y):Sc n (x*y):=λz=>by
 let⟨p,q,c,d,a,m,l⟩:=h z;let⟨o,r,j,k,b,e,i⟩:=h' z;exists p*o,q*r,Int.mul_ne_zero c j,Int.mul_ne_zero d k,?_,?_
 ·rw[Int.natAbs_mul];exact Nat.mul_le_mul a b
 ·rw[Int.natAbs_mul];exact Nat.mul_le_mul m e
 ·rw[dE,dE,<- l,<- i];grind
def z23[Ta F]{b:Nat->Po F}{a:List (Po F)}{y:F}(sp:∀j,j<m->uM m (b j))(sm:∀j t,rS n<|b j t)(u:j0<m)(r:T0 m o)(B:y≠0)(s:rR n y)(E:∀φ∈a,(∀t,φ t=0)\/∃j,j<m+1/\sC n (λj=>if j<m then b j else λt=>y*sh o (b j0) t) j φ) (A:∀j,j<m+1->∃φ∈a,sC n (λj=>if j<m then b j else λt=>y*sh o (b j0) t) j φ):Bs n m b a.length (λi=>a.getD i λ_=>0):=by
 let w:∀{x y:F},x≠0->y≠0->x*y≠0:=fun{x y} hx hy z=>by have:=Lean.Grind.Field.mul_inv_cancel hx;exact hy (by grind)
 refine⟨λi=>?_,λj p=>?_,λi d t=>?_,λj z t=>sm j t z⟩
 ·cases q:a[i]? with
  | none=>exact .inl λt=>by simp[List.getD,q]
  | some φ=>
   let e:a.getD i (λ_=>0)=φ:=by simp[List.getD,q]
   rw[e];rcases E φ (Yx q) with h | ⟨j,hj1,x,k,l,ex⟩
   ·exact .inl h
   ·by_cases c:j<m
    ·refine .inr ⟨j,zer m,x,c,T0.zer m,k,GQ l,?_⟩;rw[ex,EG<|sp j c];simp only[if_pos c]
    ·refine .inr ⟨j0,o,x*y,u,r,w k B,GP l s,?_⟩;rw[ex];simp only[if_neg c];funext t;grind
 ·let⟨φ,v,x,k,l,ex⟩:=A j ⋯;let⟨i,d⟩:=Je.mp v;exists i,eR d,x,k;let e:a.getD i (λ_=>0)=φ:=by simp[List.getD,d]
  rw[e,ex];simp only[if_pos p]
 ·simp[List.getD,List.getElem?_eq_none d]
def DF(J:It)(H1:Hp)(D:Lh)(g:TG)(tc:TT)(te:TE)(σ0:St)(Q:VK):Prop:=∃W:Nat->Nat->Lg->St->Hp->Prop,(∃m,W 0 m [] σ0<|upd H1 D<|.lst [])/\∀i m ys σ' H',W i m ys σ' H'->H' D=some (.lst ys) /\
  ((J.stop i H'/\Q (.ref D) H')\/(J.go i H'/\ys.length<sizeLine/\∀x H2,J.yld i H' x H2->g x σ' H2 λσ2 H3=>tc σ2 H3 λb H4=>
   if b=true then te σ2 H4 λv H5=>H5 D=some (.lst ys)/\∃m',m'<m/\W (i+1) m' (ys++[v]) σ2 (upd H5 D<|.lst<|ys++[v])
   else ∃m',m'<m/\W (i+1) m' ys σ2 H4))
def FN(h:wi σ H λJ H1=>∀D,H1 D=none->DF J H1 D g tc te (mP mp σ) Q):aX mp wi g tc te σ H Q:=by unfold aX;exact h
def J7(S:gR J H1 n P)(o:H1 D=none)(l:n<=sizeLine)(h:St->Prop)(p:Nat->Bool)(F:Nat->V->Hp->Prop)(d:∀i v H H',aJ H H'->F i v H->F i v H') (c:∀i v H ys ys',H D=some (.lst ys)->F i v H->F i v (upd H D<|.lst ys')) (h0:h σ0)(step:∀i x σ' H2,i<n->h σ'->aJ H1 H2->P i x H2->(∃ys,H2 D=some (.lst ys))->∀(Ny:V->St->Hp->Prop) (Nn:St->Hp->Prop),(∀v a e,h a->aJ H2 e->F i v e->p i=true->Ny v a e)->(∀a j,h a->aJ H2 j->p i=false->Nn a j) ->
   g x σ' H2 λa k=>tc a k λb j=>if b=true then te a j λv e=>Ny v a e else Nn a j)
  (m:∀H' ys,aJ H1 H'->H' D=some (.lst ys)->Paired (λi v=>F i v H') ((List.range n).filter p) ys->Q (.ref D) H'):DF J H1 D g tc te σ0 Q:=VW S o l h p F d c h0 step m
def EV(b:X.K=K)(a:X.A.units+64<cLine):eS X (compareOp .NotEq) (λx y H Q=>∃d e,fU K H x d/\fU K H y e/\SeqAt.shaped d=true/\SeqAt.shaped e=true/\Q (.bl<|!PyData.eqv d e) H):=by subst b;exact yJ a
def T5{A:Nat->Lh->Prop}(h:Paired (λi v=>∃d,v=V.ref d/\A i d) (List.range n) ys):∃ds:Le,ys=ds.map V.ref/\ds.length=n/\∀i d,ds[i]?=some d->A i d:=by
 let k:∀{l:List Nat} {ys:Lg},Paired (λi v=>∃d,v=V.ref d/\A i d) l ys->∃ds:Le,ys=ds.map V.ref:=fun{l ys} h=>by
  induction h with
  | nil=>exact⟨[],rfl⟩
  | cons r _ ih=>let⟨d,e,_⟩:=r;let⟨ds,q⟩:=ih;exact⟨d::ds,by rw[Yz,e,q]⟩
 let⟨ds,e⟩:=k h;let c:=Paired.length h;rw[List.length_range,e,Yd]at c;refine⟨ds,e,c.symm,λi d m=>?_⟩;let p:ys[i]?=some (.ref d):=by rw[e,Ym,m];rfl
 let⟨j,a,d',b,q⟩:=cV h p;let o:i<n:=by rw[c];exact(List.getElem?_eq_some_iff.mp m).1
 rw[List.getElem?_range o]at a;injection a with a;subst a
 injection b with b;subst b
 exact q
section
variable{F:Type}[Ta F]{n:Int}{m:Nat}
structure RC(n:Int)(m:Nat)(H:Hp)(ds:Le)(kvss:List Ka)(gs:Nat->Po F):Prop where
 len:ds.length=kvss.length
 row:∀(i:Nat) (d:Lh) ap,ds[i]?=some d->kvss[i]?=some ap->H d=some (.dT ap)/\PF n m H ap (gs i)/\qM ap
 out:∀i,ds.length<=i->∀t,gs i t=0
def RC.keep{gs:Nat->Po F}(h:RC n m H ds kvss gs)(e:cR H H')(k:∀d∈ds,∀o,H d=some o->H' d=some o):RC n m H' ds kvss gs:=
 ⟨h.len,λi d ap j l=>by let⟨a,b,c⟩:=h.row i d ap j l;exact⟨k d (Yx j) _ a,b.fix e,c⟩,h.out⟩
def RC.same{gs:Nat->Po F}(h:RC n m H ds kvss gs)(e:aJ H H'):RC n m H' ds kvss gs:=h.keep (.of e) λd _ o=>e d o
def RC.push(h:RC n m H ds kvss gs){d:Lh}{ap:Ka}{φ:Po F}(o:H d=some (.dT ap))(l:PF n m H ap φ)(j:qM ap):RC n m H (ds++[d]) (kvss++[ap]) (λi=>if i=ds.length then φ else gs i):=by
 refine⟨by rw[Y6,Y6,h.len];rfl,λi d' b a e=>?_,λi k t=>?_⟩
 ·rcases Nat.lt_trichotomy i ds.length with c | c | c
  ·rw[List.getElem?_append_left c]at a;rw[List.getElem?_append_left<|by rw[<- h.len];exact c]at e;rw[Yh ⋯];exact h.row i d' b a e
  ·rw[c,List.getElem?_concat_length]at a;rw[c,h.len,List.getElem?_concat_length]at e;cases a;cases e;rw[Yl c];exact⟨o,l,j⟩
  ·rw[Yy<|by rw[Y6];simp;lia]at a;cases a
 ·rw[Y6]at k;have:([d]:Le).length=1:=rfl;rw[Yh ⋯];exact h.out i ⋯ t
def RC.toRow{gs:Nat->Po F}(h:RC n m H ds kvss gs)(j:H b=some (.lst<|ds.map V.ref))(l:ds.length<=1000):oJ n m H b ds kvss gs:=
 ⟨j,h.len,λi d e=>by
  let c:i<kvss.length:=by rw[<- h.len];exact eR e
  let⟨a,b,_⟩:=h.row i d _ e<|Yc c;exact⟨_,Yc c,a,b⟩,h.out,l⟩
def z2n[cM n F]{φ ψ:Po F}(s:H a=some (.dT ka))(u:H b=some (.dT kb))(pa:PF n m H ka φ)(c:PF n m H kb ψ)(e:∀t,φ t=ψ t):DD K H a b true:=by let⟨p,i,j,d,r⟩:=pa.kds (K:=K);let⟨q,l,o,h,k⟩:=c.kds (K:=K);exact⟨ka,kb,p,q,.inl s,.inl u,i,l,j,o,(pa.eq c d h r k).mpr e,λ_=>Z⟩
def LB[cM n F]{gs:Nat->Po F}(j:H l=some (.lst<|as.map V.ref))(u:H b=some (.lst<|bs.map V.ref))(a:RC n m H as kvss gs)(h:RC n m H bs kvss gs)(neg:Bool){Q:VK}(q:Q (.bl<|!neg) H):uG K neg (.ref l) (.ref b) H Q:=by
 exists l,b,as,bs,λ_=>true,Z,Z,j,u,λi p s d k=>?_
 ·let c:i<kvss.length:=by rw[<- a.len];exact eR d
  let⟨r,o,_⟩:=a.row i p _ d<|Yc c;let⟨b1,b2,_⟩:=h.row i s _ k<|Yc c;exact z2n r b1 o b2 λ_=>rfl
 ·let e:(decide (as.length=bs.length)&&(List.range as.length).all λ_=>true)=true:=by rw[Yo<|a.len.trans h.len.symm];simp
  rw[e];cases neg <;> exact q
def RC.mem{gs:Nat->Po F}(h:RC n m H ds kvss gs){d:Lh}(c:d∈ds):∃ap,H d=some (.dT ap):=by
 let⟨i,a⟩:=Je.mp c;let b:i<kvss.length:=by rw[<- h.len];exact eR a
 exact⟨_,(h.row i d _ a<|Yc b).1⟩
def RC.copy{gs:Nat->Po F}(h:RC n m H ds kvss gs)(l:dh.length=ds.length)(k:∀(i:Nat) d ap,dh[i]?=some d->kvss[i]?=some ap->H d=some (.dT ap)):RC n m H dh kvss gs:=
 ⟨l.trans h.len,λi d ap a e=>by
  let j:i<ds.length:=by rw[<- l];exact eR a
  let⟨_,b,c⟩:=h.row i _ ap (Yc j) e;exact⟨k i d ap a e,b,c⟩,λi hi=>h.out i ⋯⟩
theorem RL:∀{φs:List (Po F)} {vs},Paired (DP n m H) φs vs->∃ds a,vs=ds.map V.ref/\ds.length=φs.length/\RC n m H ds a (λi=>φs.getD i λ_=>0)
 | _,_,.nil=>⟨[],[],rfl,rfl,rfl,(λi d ap h=>by cases h),λi _ t=>rfl⟩
 | φ::φs,_,.cons ⟨d,ap,e,h1,h2,h3,_⟩ p=>by
  let⟨ds,a,o,l,r⟩:=RL p;refine⟨d::ds,ap::a,by rw[e,o];rfl,Jx (· + 1) l,Jx (· + 1) r.len,λi d' j b c=>?_,λi k t=>?_⟩
  ·match i,b,c with
   | 0,b,c=>cases b;cases c;exact⟨h1,h2,h3⟩
   | i+1,b,c=>exact r.row i d' j b c
  ·match i,k with
   | i+1,k=>exact r.out i (Nat.le_of_succ_le_succ k) t
end
def TL.but(k:dS Pt H H')(c:Tb Pt lp ql H)(h:TL m H l ys xss):TL m H' l ys xss:=⟨k.lst c h.at_,bH (λ_ _ ⟨a,e,q⟩=>⟨a,e,k.tup c _ _ q⟩) h.tm,h.t0,h.b⟩
section
variable{F:Type}[Ta F]{n:Int}{m:Nat}{rk:Lc->Lc}{T:Lc}{gp:Nat->Po F}{H H':Hp}{tl:Lh}{bs:Lb}{ls:Le}{τ:Nat->Lc->Po F}{A:Lh->Prop}
def IR{x:F}(h:rS n x):cL n 1000 x:=λz=>by
 let⟨N,a,h2⟩:=h z;have:64<2^1000:=by decide
 exact⟨N,6,∅,a,⋯,⋯⟩
def z1b{x y:F}(h:rR n x)(h':rS n y):cL n 1000 (x*y):=λz=>by
 let⟨p,q,_,q0,a,q7,e⟩:=h z;let⟨N,b,c⟩:=h' z;have:400<2^1000:=by decide
 refine⟨p*N,q*6,⋯,by rw[dE,dE,<- e,<- b];grind,?_,⋯⟩;rw[Int.natAbs_mul];exact Yp (Nat.mul_le_mul a c) ⋯
def z3m(a:T∈eY m):∀x∈T,x<=lB m:=(cC.mp (List.mem_filter.mp a).1).2
def AG(P:gN rk m T gp)(d:T∈eY m){j:Nat}(a:j<m){t:Lc}(h:gp j t≠0)(i:Nat):t.getD i 0<=lB m:=by
 let tb:∀i,i<m->T.getD i 0<=lB m:=λi e=>z3m d _ (by rw[List.getD,Yc<|by rw[P.tl];exact e];exact Jw _);rcases P.low j a t h with rfl | ⟨b,_⟩
 ·rw[jY];split
  ·next z=>exact tb j a
  ·lia
 ·rcases Jh i m with c | c
  ·have:=b.2 i c;have:=tb i c;lia
  ·rw[show t.getD i 0=0 by simp[List.getD,List.getElem?_eq_none (show t.length<=i by rw[b.1.len];exact c)]];lia
def z3r{t:Lc}(h:∀i,t.getD i 0<=c):∀x∈t,x<=c:=λx b=>by let⟨i,a,rfl⟩:=List.getElem_of_mem b;have:=h i;simpa[List.getD,a]using this
def GY(P:gN rk m T gp)(k:T∈eY m){o:Lc}{y:F}{b:Nat}(a:b<m)(e:T0 m o)(l:∀i,o.getD i 0<=1){j:Nat}{t:Lc}(h:(if j<m then gp j else λt=>y*sh o (gp b) t) t≠0)(i:Nat):t.getD i 0<=lB m+1:=by
 by_cases c:j<m
 ·rw[Yl c]at h;have:=AG P k c h i;lia
 ·rw[Yh c]at h;let h:sh o (gp b) t≠0:=λz=>h (by show y*_=0;rw[z];grind);let⟨_,_,d,p⟩:=xS e (P.row.sp b<|List.mem_range.mpr a) h;rw[p,iS<|by rw[e.len,(P.row.sp b (List.mem_range.mpr a) _ d).len]];have:=AG P k a d i;have:=l i;lia
structure lC(n:Int)(m:Nat)(T:Lc)(gp:Nat->Po F)(A:Lh->Prop)(H:Hp)(bs:Lb)(tl:Lh)(ls:Le)(τ:Nat->Lc->Po F):Prop where
 at_:H tl=some (.lst<|ls.map V.ref)
 tb:∀(a:Nat) l,ls[a]?=some l->A l/\∃ws,H l=some (.lst ws)/\Paired (λb v=>∃q,v=.ref q/\A q/\bL n H bs (τ a b) q) bs ws
 nf:∀(a:Nat),a<ls.length->∀b∈bs,Nf m T gp (sh (e1 m a)<|dl b) (τ a b)
 jb:∀(a:Nat),a<ls.length->∀b∈bs,JB n 165<|τ a b
def lC.tbs(h:lC n m T gp A H bs tl ls τ):oH n m T gp H bs tl ls τ:=⟨h.at_,λa l b=>let ⟨_,ws,c,d⟩:=h.tb a l b;⟨ws,c,bH (λ_ _ ⟨q,e,_,r⟩=>⟨q,e,r⟩) d⟩,h.nf,h.jb⟩
def lC.same(e:aJ H H')(h:lC n m T gp A H bs tl ls τ):lC n m T gp A H' bs tl ls τ:=⟨e _ _ h.at_,λa l b=>let ⟨j,ws,d,i⟩:=h.tb a l b;⟨j,ws,e _ _ d,bH (λ_ _ ⟨q,e1,c,r⟩=>⟨q,e1,c,r.same e⟩) i⟩,h.nf,h.jb⟩
def lC.by(k:∀b o,H b=some o->A b->B b)(h:lC n m T gp A H bs tl ls τ):lC n m T gp B H bs tl ls τ:=⟨h.at_,λa l d=>let ⟨p,ws,c,j⟩:=h.tb a l d;⟨k _ _ c p,ws,c,bH (λ_ _ ⟨q,e1,e,r⟩=>⟨q,e1,let ⟨_,i,_⟩:=r;k _ _ i e,r⟩) j⟩,h.nf,h.jb⟩
def bL.updL{a:Po F}(b:H x=some (.lst ys))(c:l≠x)(h:bL n H bs a l):bL n (upd H x o) bs a l:=h.keep (mO b) λ_ q=>(aV c).trans q
def lC.updL(s:H x=some (.lst ys))(p:tl≠x)(e:∀b,A b->b≠x)(h:lC n m T gp A H bs tl ls τ):lC n m T gp A (upd H x o) bs tl ls τ:=⟨(aV p).trans h.at_,λa l i=>let ⟨d,ws,j,k⟩:=h.tb a l i;⟨d,ws,(aV<|e _ d).trans j,bH (λ_ _ ⟨q,e1,c,r⟩=>⟨q,e1,c,r.updL s<|e _ c⟩) k⟩,h.nf,h.jb⟩
def lC.push(u:∀b,A b->b≠tl)(h:lC n m T gp A H bs tl ls τ)(C:A L)(x:H L=some (.lst ws))(B:Paired (λb v=>∃q,v=.ref q/\A q/\bL n H bs (σ b) q) bs ws)(w:∀b∈bs,Nf m T gp (sh (e1 m ls.length)<|dl b)<|σ b)(y:∀b∈bs,JB n 165<|σ b):lC n m T gp A (upd H tl<|.lst<|ls.map V.ref++[.ref L]) bs tl (ls++[L]) (λa=>if a=ls.length then σ else τ a):=by
 let i:∀{l ws} {ν:Lc->Po F},A l->H l=some (.lst ws)->Paired (λb v=>∃q,v=.ref q/\A q/\bL n H bs (ν b) q) bs ws->A l/\∃ws,(upd H tl<|HO.lst<|ls.map V.ref++[.ref L]) l=some (.lst ws)/\Paired (λb v=>∃q,v=.ref q/\A q/\bL n (upd H tl<|.lst<|ls.map V.ref++[.ref L]) bs (ν b) q) bs ws:=λs D z=>⟨s,_,(aV<|u _ s).trans D,bH (λ_ _ ⟨q,e1,o,r⟩=>⟨q,e1,o,r.updL h.at_<|u _ o⟩) z⟩;let d:∀a,a<(ls++[L]).length->a≠ls.length->a<ls.length:=λa j p=>by rw[Y6]at j;have:([L]:Le).length=1:=rfl;lia
 refine⟨by rw[List.map_append];exact aW,λa l e=>?_,λa k=>?_,λa k=>?_⟩
 ·by_cases c:a=ls.length
  ·subst c;rw[List.getElem?_concat_length]at e;cases e;simp only[if_pos trivial];exact i C x B
  ·have:=d a (eR e) c;rw[List.getElem?_append_left this]at e;let⟨E,ws,j,p⟩:=h.tb a l e;simp only[if_neg c];exact i E j p
 ·by_cases c:a=ls.length
  ·simp only[if_pos c];rw[c];exact w
  ·simp only[if_neg c];exact h.nf a<|d a k c
 ·by_cases c:a=ls.length
  ·simp only[if_pos c];exact y
  ·simp only[if_neg c];exact h.jb a<|d a k c
end
section
variable{F:Type}[Ta F]{n:Int}{m:Nat}{rk:Lc->Lc}{T:Lc}{gp gs:Nat->Po F}{H:Hp}{bs:Lb}{K:Lj}{ds:Le}{kvss:List Ka}
def RC.updL(b:H x=some (.lst ys))(h:RC n m H ds kvss gs):RC n m (upd H x o) ds kvss gs:=h.keep (mO b) λd c _ q=>(aV λz=>by let⟨kv,a⟩:=h.mem c;rw[z,b]at a;cases a).trans q
def IP(r:RC n m H ds kvss gs)(I:H b=some (.lst<|ds.map V.ref))(l:ds.length<=1000)(G:H D=none){Q:VK}(k:∀H' h,aJ H H'->H' D=some (.lst<|h.map V.ref)->h.length=ds.length->RC n m H' h kvss gs->Q (.ref D) H'):DF (lF K b) H D (bD 0) eH (xH (λxs H Q=>∃d ap,xs=[V.ref d]/\H d=some (.dT ap)/\qM ap/\∀p,H p=none->Q (.ref p) (upd H p<|.dT ap))<|lJ (eZ 0) hC) [none] Q:=by
 refine J7 (oQ<|aQ.of I) G (zl _<|by rw[Yd];lia) (λσ=>∃v,σ=[v]) (λ_=>true) (λi v H'=>∃d,v=.ref d/\H' d=some (.dT<|kvss.getD i [])) (λi v H1 H2 e ⟨d,y,j⟩=>⟨d,y,e _ _ j⟩) (λi v H1 ys ys' A ⟨d,y,j⟩=>⟨d,y,by rw[aV<|eM j A<|by intro z;cases z];exact j⟩) ⟨none,Z⟩ ?_ λE ys o C q=>?_
 ·rintro i v σ' E hi ⟨z,rfl⟩ o c _ Ny Nn A hn;rw[Ym]at c;cases hd:ds[i]? with
  | none=>rw[hd]at c;cases c
  | some d=>
   rw[hd]at c;injection c with c
   subst c;let B:i<kvss.length:=by rw[<- r.len];exact eR hd
   let⟨w,_,x⟩:=r.row i d _ hd<|Yc B;unfold eH;dsimp only[bD];rw[Yl Z];refine⟨_,Z,d,_,Z,o _ _ w,x,λp q=>?_⟩;exact A _ _ _ ⟨_,Z⟩ (aJ.upd q) ⟨p,Z,by rw[show kvss.getD i []=kvss[i] by simp[List.getD,B]];exact aW⟩ rfl
 rw[Yu.mpr<|λ_ _=>Z]at q;let⟨h,u,a,s⟩:=T5 q;rw[Yd]at a;rw[u]at C;refine k E h o C a<|(r.same o).copy a λi d ap w x=>?_;have:=s i d w;rw[show kvss.getD i []=ap by simp[List.getD,x]]at this;exact this
def z05{σ:Lc->Po F}(b:Paired (λt v=>∃l,v=.ref l/\bL n H bs (σ t) l) bs vs)(S:H f=some (.lst vs))(l:vs.length<=1000)(M:H D=none){Q:VK}(k:∀H' ws,aJ H H'->H' D=some (.lst ws)->Paired (λt v=>∃q,v=.ref q/\H q=none/\bL n H' bs (σ t) q) bs ws->Q (.ref D) H'):DF (lF K f) H D (bD 0) eH (xH (nG K)<|lJ (eZ 0) hC) [none] Q:=by
 let lv:=Paired.length b;refine J7 (oQ<|aQ.of S) M (zl _ ⋯) (λσ=>∃v,σ=[v]) (λ_=>true) (λi v H'=>∃q,v=.ref q/\q≠D/\H q=none/\bL n H' bs (σ<|bs.getD i []) q) (λi v H1 H2 e ⟨d,B,r,x,y⟩=>⟨d,B,r,x,y.same e⟩) (λi v H1 ys ys' C ⟨d,B,r,x,y⟩=>⟨d,B,r,x,y.updL C r⟩) ⟨none,Z⟩ ?_ λI ys h P a=>?_
 ·rintro i v σ' I hi ⟨z,rfl⟩ h s ⟨yD,u⟩ Ny Nn C hn;let⟨t,w,l,rfl,J,A,R⟩:=cV b s;unfold eH;dsimp only[bD];rw[Yl Z];refine⟨_,rfl,l,_,rfl,.inl<|aQ.of<|h _ _ A,λp b=>?_⟩;let c:=aJ.upd (o:=.lst J) b;refine C _ _ _ ⟨_,rfl⟩ c ⟨p,rfl,(λz=>by rw[z,u]at b;cases b),h.free b,J,aW,?_⟩ rfl;rw[show bs.getD i []=t by simp[List.getD,w]];exact bH (λ_ _ q=>q.same<|h.trans c) R
 rw[Yu.mpr<|λ_ _=>Z]at a;let E:=Paired.length a;rw[List.length_range]at E;refine k I ys h P<|CA ⋯ λi t v w s=>?_;let⟨j,G,q,A,_,O,L⟩:=cV a s;let N:i<vs.length:=by rw[E];exact eR s
 rw[List.getElem?_range N]at G;cases G;rw[show bs.getD i []=t by simp[List.getD,w]]at L;exact⟨q,A,O,L⟩
def KK(P:gN rk m T gp){a:Nat}{vs:Lg}{A:Lh->Prop}(o:Paired (λt v=>∃(l:Lh) (c:Po F),v=.ref l/\A l/\bL n H bs c l/\Nf m T gp (sh (e1 m a)<|dl t) c/\JB n 165 c) bs vs):∃σ:Lc->Po F,Paired (λt v=>∃l,v=.ref l/\A l/\bL n H bs (σ t) l) bs vs/\(∀b∈bs,Nf m T gp (sh (e1 m a)<|dl b)<|σ b)/\∀b∈bs,JB n 165 (σ b):=by
 let ex:∀b∈bs,∃c:Po F,Nf m T gp (sh (e1 m a)<|dl b) c/\JB n 165 c:=λb d=>by
  let⟨i,r⟩:=Je.mp d;let s:i<vs.length:=by rw[<- Paired.length o];exact eR r
  let⟨t,k,_,c,_,_,_,p,q⟩:=cV o<|Yc s;rw[r]at k;cases k;exact⟨c,p,q⟩
 obtain⟨σ,e⟩:∃σ:Lc->Po F,∀b∈bs,Nf m T gp (sh (e1 m a)<|dl b) (σ b)/\JB n 165 (σ b):=by refine⟨λb=>if h:b∈bs then Classical.choose (ex b h) else λ_=>0,λb d=>?_⟩;simp only[dif_pos d];exact Classical.choose_spec<|ex b d
 refine⟨σ,CA (Paired.length o) λi t v k x=>?_,λb d=>(e b d).1,λb d=>(e b d).2⟩;let⟨t',j,l,c,p,q,w,y,_⟩:=cV o x;rw[k]at j;cases j;have:σ t=c:=funext λu=>Nf.one P (e t<|Yx k).1 y u;rw[this];exact⟨l,p,q,w⟩
end
theorem MK(x:Int):∀k,(List.replicate k [V.int x]).flatten=(List.replicate k x).map V.int
 | 0=>rfl
 | k+1=>by rw[List.replicate_succ,List.replicate_succ,List.flatten_cons,MK x k];rfl
def KG(k:dS Pt H H')(b:Tb Pt lp ql H)(h:aQ K H a xs):aQ K H' a xs:=h.imp (λq=>q.imp (λq=>k _ _ q<|xU b q<|by intro ps z;cases z) fun⟨u,q⟩=>⟨u,k _ _ q<|xU b q<|by intro ps z;cases z⟩) id
inductive nA(K:Lj)(Pt:Lh)(vs:Lg)(H:Hp)(Q:VK)(E:XK):Prop
 | mk (a:Lh) (ns:Lc) (_:vs=[.ref a]) (_:aQ K H a (ns.map V.int)/\ns.length<=63/\H Pt=some (.tbl #[])/\∀H',Q (.bl true) H')
abbrev mE(_:uL P w K mg base aA aB aC aD aE aF aG aH aI):Prop:=∀kd ws,0<=kd->kd<4->Nn ws->(∀x∈ws,x<10^31)->∃C,mF P w K mg base C (jW aD aE aF aG kd ws) (cK kd ws)<|nR kd ws
abbrev qE(_:uL P w K mg base aA aB aC aD aE aF aG aH aI):Prop:=∀n,n<=9973->(n=0\/Pr n)->∃C,rX P w K mg base C (nN aB aC n) n
end
section
open K1 K2 K3 K6 K8 K37 G
section
variable{P:Lm}{w:Ll}{K:Lj}{mg:Sa}{base:Lp}{f:Lh}{fd:FuncData}{aA aB aC aD aE aF aG aH aI:Lh}{tk_Made:Tok}(T:uL P w K mg base aA aB aC aD aE aF aG aH aI)
include T
local macro_rules | `(tactic| walk_at "x") => `(tactic| (refine xg λg hg => ?_; repeat refine xl λ_ => ?_))
local macro_rules | `(tactic| walk_at "v") => `(tactic| (intro _ _ _ _; (repeat refine xl λ_ => ?_); exact λh => h.1 ▸ rfl))
local macro_rules | `(tactic| walk_at "sd") => `(tactic| first
 | assumption | ((try dsimp only);lia) | ((try dsimp only);decide) | exact⟨∅,∅⟩ | exact⟨∅,∅,∅⟩ | exact Or.inl ⟨∅,∅⟩ | exact⟨⋯,⋯⟩ | exact Or.inl ⟨⋯,⋯⟩ | exact Or.inr ⟨∅,∅⟩ | exact Or.inr ⟨⋯,⋯⟩)
local macro_rules | `(tactic| walk_at "rd") => `(tactic| repeat first
 | refine⟨_,rfl,?_⟩ | refine⟨_,_,rfl,rfl,?_⟩ | refine⟨_,_,rfl,rfl,by walk_at "sd",?_⟩ | refine And.intro rfl ?_ | refine And.intro (by walk_at "sd") ?_ | with_reducible refine dQ ?_ | with_reducible refine cA ?_ | (apply z11;assumption;rfl))
local macro_rules | `(tactic| walk_at "clo") => `(tactic| exact h)
local macro_rules | `(tactic| walk_at "v") => `(tactic| (rintro _ _ _ _ ⟨⟩; rename_i e _; exact e ▸ rfl))
local macro_rules | `(tactic| walk_at "o") => do
 let i:=λn=>Lean.mkIdent n
 `(tactic| (refine $(i `F.okN) $(i `sc) (by walk_at "v") (λ$(i `cdv) $(i `A) $(i `outer) $(i `s) $(i `H) $(i `vs) $(i `Q) $(i `E) $(i `hr)=>?_);refine xg λ$(i `g_) $(i `hg_)=>?_;rintro⟨⟩;rename_i $(i `e_):ident $(i `h):ident))
local macro_rules | `(tactic| walk_at "h") => do
 let i:=λn=>Lean.mkIdent n
 `(tactic| (subst $(i `e_);subst $(i `hg_)))
def YO(F:dN K "shared_divisor" QZ f fd):Fq T 1 f fd Pc gF:=bW ["one","other","rest"] F λsc=>by
 walk_at "o";rename_i a b;walk_at "h";refine⟨_,(aT (qY PassesOwn.never (bA wO (pv 1)<|aO) (aT (bR 2 sc.nd<|bB wY (pv 0)<|pv 1)
  (aT (bR 0 sc.nd<|pv 1)
  (aR<|bR 1 sc.nd<|pv 2))))
  (aR<|bJ<|pv 0)),?_⟩
 let⟨q,r,k⟩:=h;exists λm σ H'=>∃(i d:Int) (v:Option V),m=d.toNat/\σ=[some<|.int i,some<|.int d,v]/\H'=H/\0<=i/\0<=d/\Gc a b i d,⟨_,_,_,none,Z,Z,Z,K1.start q r⟩;rintro m σ H' ⟨i,d,v,rfl,rfl,rfl,p,h2,hg⟩;walk_at "rd";refine AH (λc=>?_)<|λc=>?_
 ·exists λl j=>∃n,l=[some<|.int d,some<|.int<|i.fmod d,n]/\j=H',?_
  ·rintro l j ⟨n,rfl,rfl⟩;exact⟨(i.fmod d).toNat,K1.less ⋯,_,_,n,rfl,rfl,rfl,K1.turn hg p ⋯⟩
  ·exists _,Z,_,Z,_,_,Z,Z,c;walk_at "rd";rfl
 ·exists _,Z;show Q (.int i) H';rw[K1.out hg p c];exact k
def XD(F:dN K "is_prime" NY f fd):Fq T 1 f fd ["number"] mX:=bW ["number","divisor"] F λsc=>by
 walk_at "o";rename_i n;walk_at "h";refine⟨_,(aT (cW (bA wL (pv 0)<|aO) (aR<|bJ jA) cZ)
  (aT (bR 1 sc.nd aO)
  (aT (qY PassesOwn.never (bA DV (bB yI (pv 1)<|pv 1)<|pv 0) (aT (cW (bA hY (bB wY (pv 0)<|pv 1)<|aO) (aR<|bJ jA) cZ)
  (aR<|R4 (i:=1) sc.nd rfl (Or.inl rfl) (aO) R5)))
  (aR<|bJ jA)))),?_⟩
 let⟨l,k⟩:=h;walk_at "rd";refine cD (λc=>?_)<|λc=>?_
 ·show Q (.bl false) H;rw[low c];exact k
 exists λm σ H'=>∃d:Int,m=(200-d).toNat/\σ=[some<|.int n,some<|.int d]/\H'=H/\2<=d/\d<=101/\jH n d,⟨_,2,Z,Z,Z,K3.start n⟩;rintro m σ H' ⟨d,rfl,rfl,rfl,a,r,p⟩;exists _,Z,_,Z,_,_,Z,Z,.inl<|MQ (n:=n) a r;walk_at "rd";refine cD (λq=>?_)<|λq=>?_
 ·exists λj b=>j=[some<|.int n,some<|.int<|d+1]/\b=H'/\¬Int.fmod n d=0,?_
  ·rintro j b ⟨rfl,rfl,u⟩;exact⟨(200-(d+1)).toNat,K3.less a q l,d+1,rfl,rfl,rfl,K3.turn p u a q l⟩
  ·exists _,Z,_,Z,_,_,Z,Z,(by show d≠0;lia);walk_at "rd";refine jF (λz=>?_)<|λz=>?_
   ·show Q (.bl false) H';rw[jE a q z];exact k
   ·walk_at "rd";exact z
 ·show Q (.bl true) H';rw[K3.out p ⋯ a q];exact k
def zj8(F:bI K "__init__" "Field.__init__" QX .none f fd):Fq T 1 f fd P5 (jM K):=bW ["self","prime"] F λsc=>by walk_at "o";rename_i p C c v;walk_at "h";exists _,(aR<|qW (pv 0) (pv 1) rfl);let⟨b,a,d,k⟩:=h;exact⟨_,Z,_,Z,p,C,c,[],Z,b,a,d,(by show 0<1000;decide),k⟩
def Z8(F:bI K "__init__" "Fractions.__init__" Q2 .none f fd)(a:sH P w K mg base dG 1 "Field" "__init__" ["self","prime"] [] (jM K)):Fq T 2 f fd Pm (iJ aB):=bW ["self"] F λsc=>by walk_at "o";rename_i p c;walk_at "h";exists _,(aR<|iR<|RH a hr eW .nil<|aL (pv 0)<|aL aO aU);let⟨b,k⟩:=h;exact⟨_,Z,p,_,c,_,Z,b,T.cl_Fractions,T.na_Fractions_prime,k⟩
def YD(F:bI K "nought" "Fractions.nought" QQ .none f fd):Fq T 1 f fd Pm (lW 0 1):=bW ["self"] F λsc=>by walk_at "o";rename_i p;walk_at "h";exists _,(aR<|bJ<|gO<|aL aO<|aL aO aU);exact⟨(by show 2<=sizeLine;decide),λr a=>h r _ (aJ.upd a) aW⟩
def z2j(F:bI K "one" "Fractions.one" PN .none f fd):Fq T 1 f fd Pm (lW 1 1):=bW ["self"] F λsc=>by walk_at "o";rename_i p;walk_at "h";exists _,(aR<|bJ<|gO<|aL aO<|aL aO aU);exact⟨(by show 2<=sizeLine;decide),λr a=>h r _ (aJ.upd a) aW⟩
def TQ(F:bI K "made" "Fractions.made" zL (.ref dT) f fd)(a:Cq T 1 "shared_divisor" Pc [] gF):Fq T 2 f fd P3 pE:=bW ["self","top","bottom","divisor"] F λsc=>by
 walk_at "o";rename_i p t b;walk_at "h";refine⟨_,(aT (cW (bA hY (pv 2)<|aO) qU cZ)
  (aT (bR 3 sc.nd<|bS a hr<|aL (gU xC rfl T.b_abs (by kernel_rfl)<|aP 1)<|aL (gU xC rfl T.b_abs (by kernel_rfl)<|aP 2) aU)
  (aT (cW (bA wL (pv 2)<|aO) (aR<|bR 3 sc.nd<|sN sP<|pv 3) cZ)
  (aR<|bJ<|gO<|aL (bB jC (pv 1)<|pv 3)<|aL (bB jC (pv 2)<|pv 3) aU)))),?_⟩
 let⟨m,l,k⟩:=h;walk_at "rd";refine jF (λc=>absurd c l)<|λc=>?_;let⟨i,j⟩:=z1o (t:=t) c m;let c1:dU t (dv t b):=⟨i,j⟩;let c2:dU b (dv t b):=⟨i,j⟩;walk_at "rd";refine⟨_,_,Z,by split <;> lia,by split <;> lia,?_⟩;rw[JY];walk_at "rd";refine cD (λn=>?_)<|λn=>?_
 ·walk_at "rd";let e:-(gI t b)=dv t b:=by unfold dv;rw[Yl n]
  try dsimp only
  rw[e];walk_at "rd";exact⟨(by show 2<=sizeLine;decide),λr d=>k r _ (aJ.upd d) aW⟩
 ·let e:gI t b=dv t b:=by unfold dv;rw[Yh n]
  rw[e];walk_at "rd";exact⟨(by show 2<=sizeLine;decide),λr d=>k r _ (aJ.upd d) aW⟩
def VP(F:bI K "plus" "Fractions.plus" Q0 .none f fd)(c:Cq T 1 "shared_divisor" Pc [] gF):Fq T 2 f fd Pg (iL aB (λx y z w=>x*w+z*y)<|λx y z w=>y*w):=bW ["self","a","b","shared","top","further"] F λsc=>by
 walk_at "o";rename_i p dx ra rb x y z w;walk_at "h";refine⟨_,(aT (cW (PW.pt<|BA (bA hY (cX K (pv 1)<|aO)<|aO)<|BT<|bA hY (cX K (pv 2)<|aO)<|aO) (aR<|bJ<|gO<|aL (bB jB (cX K (pv 1)<|aO)<|cX K (pv 2)<|aO)<|aL aO aU) cZ)
  (aT (bR 3 sc.nd<|bS c hr<|aL (cX K (pv 1)<|aO)<|aL (cX K (pv 2)<|aO) aU)
  (aT (bR 4 sc.nd<|bB jB (bB oB (cX K (pv 1)<|aO)<|bB jC (cX K (pv 2)<|aO)<|pv 3)<|bB oB (cX K (pv 2)<|aO)<|bB jC (cX K (pv 1)<|aO)<|pv 3)
  (aT (bR 5 sc.nd<|bS c hr<|aL (gU xC rfl T.b_abs (by kernel_rfl)<|aP 4)<|aP 3)
  (aR<|bJ<|gO<|aL (bB jC (pv 4)<|pv 5)<|aL (bB oB (bB jC (cX K (pv 1)<|aO)<|pv 3)<|bB jC (cX K (pv 2)<|aO)<|pv 5) aU))))),?_⟩
 let⟨hp,M,N,l,i,k⟩:=h;let y0:y≠0:=by have:=l.pos;lia
 let n:w≠0:=by have:=i.pos;lia
 let L:=l.pos;let I:=i.pos;let A:=aY.of (K:=K) M;let B:=aY.of (K:=K) N;let⟨m1,m2,m3,m4,m5⟩:=l.mul i;let⟨G,C⟩:=WX L I l.cop i.cop;let j:=xT (a:=y) n i.bz;let u:=XW y w;let d1:dU w (gI y w):=⟨j.1,up j.2 ∅⟩;let d2:dU y (gI y w):=⟨j.1,up j.2 ∅⟩;let e1:=G9 (a:=y) n i.bz;let q:=HH (b:=w) n l.bz;let n1:fN x (Int.fdiv w<|gI y w):=⟨up l.bx ∅,up e1 ∅⟩;let n2:fN z (Int.fdiv y<|gI y w):=⟨up i.bx ∅,up q ∅⟩;let m:=xT (a:=x*Int.fdiv w (gI y w)+z*Int.fdiv y (gI y w)) j.1 j.2;let J:gI (x*Int.fdiv w (gI y w)+z*Int.fdiv y (gI y w)) (gI y w) ∣ w:=Int.dvd_trans (B7 _ _)<|B7 _ _;let d3:dU (x*Int.fdiv w (gI y w)+z*Int.fdiv y (gI y w)) (gI (x*Int.fdiv w (gI y w)+z*Int.fdiv y (gI y w))<|gI y w):=⟨m.1,up m.2 ∅⟩;let d4:dU w (gI (x*Int.fdiv w (gI y w)+z*Int.fdiv y (gI y w))<|gI y w):=⟨m.1,up m.2 ∅⟩;let n3:fN (Int.fdiv y<|gI y w) (Int.fdiv w<|gI (x*Int.fdiv w (gI y w)+z*Int.fdiv y (gI y w))<|gI y w):=⟨up q ∅,up (Yp (DH J m.1) i.bz) ∅⟩;walk_at "rd";refine jF (λD=>?_)<|λD=>?_
 ·walk_at "rd";refine jF (λv=>?_)<|λv=>?_
  ·walk_at "rd";refine⟨(by show 2<=sizeLine;decide),λr d=>?_⟩;refine k r _ (aJ.upd d) ?_;subst D v;simp only[Int.mul_one,(A5 _).1,(A5 _).2];exact aW
  ·walk_at "rd";refine⟨_,_,Z,⋯,⋯,?_⟩;walk_at "rd";refine⟨_,_,Z,by split <;> lia,u,?_⟩;rw[wZ];walk_at "rd";refine⟨(by show 2<=sizeLine;decide),λr d=>?_⟩;refine k r _ (aJ.upd d) ?_;show _=some (HO.tup [V.int<|fT (x*w+z*y)<|y*w,V.int<|fB (x*w+z*y)<|y*w]);rw[<- G,<- C];exact aW
 ·walk_at "rd";refine⟨_,_,Z,⋯,⋯,?_⟩;walk_at "rd";refine⟨_,_,Z,by split <;> lia,u,?_⟩;rw[wZ];walk_at "rd";refine⟨(by show 2<=sizeLine;decide),λr d=>?_⟩;refine k r _ (aJ.upd d) ?_;show _=some (HO.tup [V.int<|fT (x*w+z*y)<|y*w,V.int<|fB (x*w+z*y)<|y*w]);rw[<- G,<- C];exact aW
def M7(F:bI K "times" "Fractions.times" QK .none f fd)(c:Cq T 1 "shared_divisor" Pc [] gF):Fq T 2 f fd Pg (iL aB (λx y z w=>x*z)<|λx y z w=>y*w):=bW ["self","a","b","one","other"] F λsc=>by
 walk_at "o";rename_i p dx ra rb x y z w;walk_at "h";refine⟨_,(aT (cW (PW.pt<|BA (bA hY (cX K (pv 1)<|aO)<|aO)<|BT<|bA hY (cX K (pv 2)<|aO)<|aO) (aR<|bJ<|gO<|aL (bB oB (cX K (pv 1)<|aO)<|cX K (pv 2)<|aO)<|aL aO aU) cZ)
  (aT (bR 3 sc.nd<|bS c hr<|aL (gU xC rfl T.b_abs (by kernel_rfl)<|aL (cX K (pv 1)<|aO) aU)<|aL (cX K (pv 2)<|aO) aU)
  (aT (bR 4 sc.nd<|bS c hr<|aL (gU xC rfl T.b_abs (by kernel_rfl)<|aL (cX K (pv 2)<|aO) aU)<|aL (cX K (pv 1)<|aO) aU)
  (aR<|bJ<|gO<|aL (bB oB (bB jC (cX K (pv 1)<|aO)<|pv 3)<|bB jC (cX K (pv 2)<|aO)<|pv 4)<|aL (bB oB (bB jC (cX K (pv 1)<|aO)<|pv 4)<|bB jC (cX K (pv 2)<|aO)<|pv 3) aU)))),?_⟩
 let⟨hp,J,L,i,j,k⟩:=h;let q:y≠0:=by have:=i.pos;lia
 let n:w≠0:=by have:=j.pos;lia
 let I:=i.pos;let G:=j.pos;let A:=aY.of (K:=K) J;let B:=aY.of (K:=K) L;let⟨m1,m2,m3,m4,m5⟩:=i.mul j;let⟨D,v⟩:=YG I G i.cop j.cop;let l:=xT (a:=x) n j.bz;let m:=xT (a:=z) q i.bz;let d1:dU x (gI x w):=⟨l.1,up l.2 ∅⟩;let d2:dU z (gI z y):=⟨m.1,up m.2 ∅⟩;let d3:dU y (gI z y):=⟨m.1,up m.2 ∅⟩;let d4:dU w (gI x w):=⟨l.1,up l.2 ∅⟩;let n1:fN (Int.fdiv x<|gI x w) (Int.fdiv z<|gI z y):=⟨up (HH n i.bx) ∅,up (HH q j.bx) ∅⟩;let n2:fN (Int.fdiv y<|gI z y) (Int.fdiv w<|gI x w):=⟨up (G9 q i.bz) ∅,up (G9 n j.bz) ∅⟩;walk_at "rd";refine jF (λC=>?_)<|λC=>?_
 ·walk_at "rd";refine jF (λu=>?_)<|λu=>?_
  ·walk_at "rd";refine⟨(by show 2<=sizeLine;decide),λr d=>?_⟩;refine k r _ (aJ.upd d) ?_;subst C u;simp only[Int.mul_one,(A5 _).1,(A5 _).2];exact aW
  ·walk_at "rd";refine⟨_,_,Z,by split <;> lia,⋯,?_⟩;rw[wZ];walk_at "rd";refine⟨_,_,Z,by split <;> lia,⋯,?_⟩;rw[wZ];walk_at "rd";refine⟨(by show 2<=sizeLine;decide),λr d=>?_⟩;refine k r _ (aJ.upd d) ?_;show _=some (HO.tup [V.int<|fT (x*z)<|y*w,V.int<|fB (x*z)<|y*w]);rw[<- D,<- v];exact aW
 ·walk_at "rd";refine⟨_,_,Z,by split <;> lia,⋯,?_⟩;rw[wZ];walk_at "rd";refine⟨_,_,Z,by split <;> lia,⋯,?_⟩;rw[wZ];walk_at "rd";refine⟨(by show 2<=sizeLine;decide),λr d=>?_⟩;refine k r _ (aJ.upd d) ?_;show _=some (HO.tup [V.int<|fT (x*z)<|y*w,V.int<|fB (x*z)<|y*w]);rw[<- D,<- v];exact aW
def z10(F:bI K "against" "Fractions.against" Q8 .none f fd):Fq T 1 f fd Pz uA:=bW ["self","a"] F λsc=>by walk_at "o";rename_i p d x y;walk_at "h";exists _,(aR<|bJ<|gO<|aL (sN sP<|cX K (pv 1)<|aO)<|aL (cX K (pv 1)<|aO) aU);let⟨c,k⟩:=h;refine⟨_,Z,d,_,_,_,Z,Z,aY.of c,Z,_,Z,_,Z,d,_,_,_,Z,Z,aY.of c,Z,(by show 2<=sizeLine;decide),λr b=>?_⟩;exact k r _ (aJ.upd b) aW
def z0m(F:bI K "turned" "Fractions.turned" QT .none f fd)(b:Mq T 2 aB "made" P3 [] pE):Fq T 3 f fd Pz (tH aB):=bW ["self","a"] F λsc=>by walk_at "o";rename_i p l d x y;walk_at "h";exists _,(aR<|bJ<|eV b (pv 0) hr eW .nil<|aL (cX K (pv 1)<|aO)<|aL (cX K (pv 1)<|aO) aU);let⟨i,c,j,m,k⟩:=h;exists _,Z,p,l,_,Z,i,vR _ nofun;exists _,Z,d,_,_,_,Z,Z,aY.of c,Z,_,Z,d,_,_,_,Z,Z,aY.of c,Z;exact⟨_,_,_,Z,up j.bx ∅,m,k⟩
def R6(F:bI K "over" "Field.over" CQ .none f fd)(d:Mq T 3 aB "turned" Pz [] (tH aB))(c:Mq T 2 aB "times" Pg [] (iL aB (λx y z w=>x*z)<|λx y z w=>y*w)):Fq T 4 f fd Pg (tL aB):=bW ["self","a","b"] F λsc=>by walk_at "o";rename_i p i D I x y z w;walk_at "h";exists _,(aR<|bJ<|eV c (pv 0) hr eW .nil<|aL (pv 1)<|aL (eV d (pv 0) hr eW .nil<|aP 2) aU);let⟨j,J,L,u,m,n,k⟩:=h;exists _,Z,p,i,_,Z,j,vR _ nofun,_,Z,_,Z,p,i,_,Z,j,vR _ nofun,_,Z;exact⟨p,i,I,z,w,Z,j,L,m,n,λB H2 l G=>⟨p,i,D,B,x,y,_,_,Z,l _ _ j,l _ _ J,G,u,m.tu n,λv r C q=>k v r (l.trans C) q⟩⟩
def zkg(F:bI K "__init__" "Rests.__init__" Q1 .none f fd)(b:Cq T 1 "is_prime" ["number"] [] mX)(a:sH P w K mg base dG 1 "Field" "__init__" ["self","prime"] [] (jM K)):Fq T 2 f fd P5 (mV aC):=bW ["self","prime"] F λsc=>by
 walk_at "o";rename_i p k n;walk_at "h";refine⟨_,(aT (cW (PW.pt<|sL (bA oN (pv 1)<|V7 T.g_GREATEST_PRIME rfl)<|uW<|oA<|lK<|bS b hr<|aP 1) qU cZ)
  (aR<|iR<|RH a hr eW .nil<|cO 0 1)),?_⟩
 let⟨i,j,d,l⟩:=h;walk_at "rd";refine cD (λc=>absurd j ⋯)<|λc=>?_;refine⟨_,Z,n,Z,⋯,_,Z,?_⟩;rw[d];refine cA ?_;exact⟨_,Z,_,Z,p,aC,k,_,Z,i,T.cl_Rests,T.na_Rests_prime,l⟩
def ZK(F:bI K "nought" "Rests.nought" QF .none f fd):Fq T 1 f fd Pm (GO<|.int 0):=bW ["self"] F λsc=>by walk_at "o";rename_i p;walk_at "h";exists _,(aR<|bJ aO);exact h
def S9(F:bI K "one" "Rests.one" N7 .none f fd):Fq T 1 f fd Pm (GO<|.int 1):=bW ["self"] F λsc=>by walk_at "o";rename_i p;walk_at "h";exists _,(aR<|bJ aO);exact h
def VT(F:bI K "plus" "Rests.plus" OT .none f fd):Fq T 1 f fd Pg (iK aC λn a b=>(a+b)%n):=bW ["self","a","b"] F λsc=>by walk_at "o";rename_i p d n a b;walk_at "h";exists _,(aR<|bJ<|bB gS (bB jB (pv 1)<|pv 2)<|fO (K:=K) rfl (pv 0) rfl);let⟨⟨c,i,pl⟩,ia,ib,k⟩:=h;let p2:=i.1;walk_at "rd";exact⟨p,aC,d,_,_,Z,c,T.cl_Rests,T.na_Rests_prime,Z,_,_,Z,Z,(by show 0<n;lia),k⟩
def MZ(F:bI K "times" "Rests.times" O3 .none f fd):Fq T 1 f fd Pg (iK aC λn a b=>a*b%n):=bW ["self","a","b"] F λsc=>by walk_at "o";rename_i p i n a b;walk_at "h";exists _,(aR<|bJ<|bB gS (bB yI (pv 1)<|pv 2)<|fO (K:=K) rfl (pv 0) rfl);let⟨⟨d,j,pl⟩,c,ib,k⟩:=h;let p2:=j.1;let⟨a0,a1⟩:=c;walk_at "rd";exact⟨p,aC,i,_,_,Z,d,T.cl_Rests,T.na_Rests_prime,Z,_,_,Z,Z,(by show 0<n;lia),k⟩
def SW(F:bI K "against" "Rests.against" PV .none f fd):Fq T 1 f fd Pz (tZ aC):=bW ["self","a"] F λsc=>by walk_at "o";rename_i p c n a;walk_at "h";exists _,(aR<|bJ<|bB gS (sN sP<|pv 1)<|fO (K:=K) rfl (pv 0) rfl);let⟨⟨b,d,pl⟩,ia,k⟩:=h;let p2:=d.1;walk_at "rd";exact⟨p,aC,c,_,_,Z,b,T.cl_Rests,T.na_Rests_prime,Z,_,_,Z,Z,(by show 0<n;lia),k⟩
def z08(F:bI K "turned" "Rests.turned" O6 .none f fd):Fq T 1 f fd Pz (tG aC):=bW ["self","a","found","left"] F λsc=>by
 walk_at "o";rename_i p q n a;walk_at "h";refine⟨_,(aT (cW (bA hY (pv 1)<|aO) qU cZ)
  (aT (bR 2 sc.nd aO)
  (aT (bR 3 sc.nd<|pv 1)
  (aT (qY PassesOwn.never (bA wO (pv 3)<|aO) (aT (bR 2 sc.nd<|bB wY (bB yI (sN sP<|pv 2)<|bB XM (fO (K:=K) rfl (pv 0) rfl)<|pv 3)<|fO (K:=K) rfl (pv 0) rfl)
  (aR<|bR 3 sc.nd<|bB wY (fO (K:=K) rfl (pv 0) rfl)<|pv 3)))
  (aR<|bJ<|pv 2))))),?_⟩
 let⟨⟨u,j,pl⟩,⟨a0,x⟩,v,k⟩:=h;let p2:=j.1;walk_at "rd";refine jF (λc=>absurd c v)<|λc=>?_;walk_at "rd";exists λm σ H'=>∃(f l:Int),m=l.toNat/\σ=[some<|.ref p,some<|.int a,some<|.int f,some<|.int l]/\H'=H/\Tn n a f l,⟨_,1,a,Z,Z,Z,MS j ⋯ x⟩;rintro m σ H' ⟨f,l,rfl,rfl,rfl,b⟩;let f0:=b.f0;let f1:=b.f1;let l0:=b.l0;let l1:=b.l1;walk_at "rd";refine AH (λr=>?_)<|λr=>?_
 ·exists λi d=>i=[some<|.ref p,some<|.int a,some<|.int<|Int.fmod (-f*Int.fdiv n l) n,some<|.int<|Int.fmod n l]/\d=H',?_
  ·rintro i d ⟨rfl,rfl⟩;exact⟨(Int.fmod n l).toNat,LI b,_,_,rfl,rfl,rfl,LC j b r⟩
  ·exists _,Z,_,Z,_,Z,p,aC,q,_,_,Z,u,T.cl_Rests,T.na_Rests_prime,Z,_,Z,_,_,Z,Z,⟨by show l≠0;lia,⋯⟩,_,_,Z,Z,.inl ⟨⋯,⋯⟩;exists _,Z,p,aC,q,_,_,Z,u,T.cl_Rests,T.na_Rests_prime,Z,_,_,Z,Z,(by show n≠0;lia);exact⟨_,Z,p,aC,q,_,_,Z,u,T.cl_Rests,T.na_Rests_prime,Z,_,Z,_,_,Z,Z,(by show l≠0;lia),Z,Z⟩
 ·exact⟨_,Z,k f<|IQ b r⟩
def z2m(F:bI K "over" "Field.over" CQ .none f fd)(d:Mq T 1 aC "turned" Pz [] (tG aC))(c:Mq T 1 aC "times" Pg [] (iK aC λn a b=>a*b%n)):Fq T 2 f fd Pg (tK aC):=bW ["self","a","b"] F λsc=>by walk_at "o";rename_i p i n a b;walk_at "h";exists _,(aR<|bJ<|eV c (pv 0) hr eW .nil<|aL (pv 1)<|aL (eV d (pv 0) hr eW .nil<|aP 2) aU);let⟨l,q,u,r,k⟩:=h;let m:=l.1;exists _,Z,p,i,_,Z,m,vQ _ _ nofun,_,Z,_,Z,p,i,_,Z,m,vQ _ _ nofun,_,Z;exact⟨p,i,n,b,Z,l,u,r,λf j=>⟨p,i,n,a,f,Z,l,q,⟨j.1,j.2.1⟩,k f j⟩⟩
def SV(F:dN K "degree" LY f fd):Fq T 1 f fd ["term"] (nE K):=bW ["term"] F λsc=>by walk_at "o";rename_i a xs;walk_at "h";exists _,(aR<|bJ<|gU (zF (K:=K) rfl true rfl) rfl T.b_sum (by kernel_rfl)<|aP 0);let⟨b,k⟩:=h;exact⟨_,Z,a,xs,Z,b,k⟩
def XE(F:bI K "rank" "Order.rank" OO .none f fd):Fq T 1 f fd Ph (eN (nW aD) uE):=bW ["self","term"] F λsc=>by walk_at "o";rename_i p t xs;walk_at "h";exists _,(aR<|bJ<|mJ K T.b_tuple<|aP 1);let⟨hp,a,px,k⟩:=h;let b:=aY.of (K:=K) a;exact⟨_,Z,t,_,Z,.inr ⟨b,k t H (aJ.refl _) a⟩⟩
def XH(F:bI K "rank" "Degrees.rank" QC .none f fd)(a:Cq T 1 "degree" ["term"] [] (nE K)):Fq T 2 f fd Ph (eN (nW aE) uF):=bW ["self","term"] F λsc=>by
 walk_at "o";rename_i p t xs;walk_at "h";exists _,(aR<|bJ<|bB vC (gO<|aL (bS a hr<|aP 1) aU)<|mJ K T.b_tuple<|aP 1);let⟨hp,b,i,k⟩:=h;let c:=aY.of (K:=K) b;refine⟨_,Z,t,xs,Z,c,(by show 1<=sizeLine;decide),λl j=>?_⟩;let e1:aJ H (upd H l<|HO.tup [V.int xs.sum]):=aJ.upd j;refine⟨_,Z,t,_,Z,.inr ⟨e1.seqT c,?_⟩⟩;refine⟨_,_,_,_,Z,Z,aY.of aW,e1.seqT c,by simp,by simp;exact Yr (Nat.add_le_add_left i.len 1)<|by rw[sizeLine_eq];decide,λz=>?_,λ_ r d=>?_⟩
 ·exact absurd (List.map_eq_nil_iff.mp z) i.ne
 ·exact k r _ (e1.updR<|e1.free d) aW
def VY(F:bI K "rank" "Tails.rank" OZ .none f fd)(a:Cq T 1 "degree" ["term"] [] (nE K)):Fq T 2 f fd Ph (eN (nW aF) rC):=bW ["self","term"] F λsc=>by
 walk_at "o";rename_i p t xs;walk_at "h";exists _,(aR<|bJ<|bB vC (gO<|aL (bS a hr<|aP 1) aU)<|mJ K T.b_tuple<|aL (iB (N:=["power"]) (eK.pl MG) rfl (LJ (K:=K) rfl rfl T.b_reversed<|aP 1) (λM L y b=>iT (i:=0) MG rfl rfl) (λM L y b=>gZ)<|λM L y b=>sN sP<|pv 0) aU);let⟨hp,v,q,k⟩:=h;let B:=aY.of (K:=K) v;refine⟨_,Z,t,xs,Z,B,(by show 1<=sizeLine;decide),λl O=>?_⟩;let e1:aJ H (upd H l<|HO.tup [V.int xs.sum]):=aJ.upd O;let c:=e1.seqT B;let d:(xs.map V.int).length=xs.length:=Yd _;show aX _ _ _ _ _ _ _ _;refine vH (J:=AN K t (xs.map V.int).length) (H1:=upd H l<|HO.tup [V.int xs.sum]) (MT c) (by rw[d];exact Yr q.len ∅) ?_ (λσ=>σ.length=1) (λ_=>true) (λi=>.int<|-(xs.getD (xs.length-1-i) 0)) rfl ?_ λD H' e j=>?_
 ·exact λR S=>⟨_,Z,t,_,Z,c,S⟩
 ·rintro i x u H2 hi U e I Ny Nn Y hn;rw[d]at I;rw[zJ I];match u,U with
  | [_],_=>exact⟨_,rfl,_,rfl,Y _ _ rfl (aJ.refl _) rfl⟩
 rw[Yu.mpr<|λ_ _=>Z,d]at j;let W:(List.range xs.length).map (λi=>V.int<|-(xs.getD (xs.length-1-i) 0))=(xs.reverse.map λx => -x).map V.int:=by rw[<- L6 xs λx => -x,Ji];rfl
 rw[W]at j;refine⟨D,_,Z,.inl ⟨aQ.of j,λm X=>?_⟩⟩;let C:aJ H' (upd H' m<|HO.tup<|(xs.reverse.map λx => -x).map V.int):=aJ.upd X;let G:=(e1.trans e).trans C;refine⟨l,m,_,_,Z,Z,aY.of<|C _ _<|e _ _ aW,aY.of aW,by simp,by simp;exact Yr (Nat.add_le_add_left q.len 1)<|by rw[sizeLine_eq];decide,λz=>?_,λ_ r n=>?_⟩
 ·exact absurd ‹z› q.ne
 ·exact k r _ (G.updR<|G.free n) aW
def WD(F:bI K "__init__" "Weights.__init__" QS .none f fd):Fq T 1 f fd ["self","weights"] (mR K aG):=bW ["self","weights"] F λsc=>by
 walk_at "o";rename_i p U l ws;walk_at "h";refine⟨_,(aT (cW (lK<|gU (F3 (K:=K) rfl rfl) rfl T.b_any (by kernel_rfl)<|aL (iB (N:=["weight"]) (eK.pl M1) rfl (jI (K:=K) rfl<|pv 1) (λL G y a=>iT (i:=0) M1 rfl rfl) (λL G y a=>gZ)<|λL G y a=>kR wL (pv 0)<|aO) aU) qU cZ)
  (aR<|qW (pv 0) (mJ K T.b_tuple<|aP 1) rfl)),?_⟩
 let⟨I,j,d,S,k⟩:=h;let B:(ws.map V.int).length=ws.length:=Yd _;show aX _ _ _ _ _ _ _ _;refine vH (J:=lF K l) (H1:=H) (oQ j) (by rw[B];exact Yr d ∅) ?_ (λσ=>σ.length=1) (λ_=>true) (λi=>.bl<|decide<|ws.getD i 0<0) rfl ?_ λD H' e n=>?_
 ·exact λR M=>⟨_,Z,l,Z,⟨_,j⟩,M⟩
 ·rintro i x r H2 hi O e X Ny Nn hy hn;rw[zJ X];match r,O with
  | [_],_=>exact⟨_,rfl,_,_,rfl,rfl,hy _ _ rfl (aJ.refl _) rfl⟩
 rw[Yu.mpr<|λ_ _=>Z,B]at n;let W:(List.range ws.length).map (λi=>V.bl<|decide<|ws.getD i 0<0)=((List.range ws.length).map λi=>decide<|ws.getD i 0<0).map V.bl:=by rw[Ji];rfl
 rw[W]at n;exists D,_,Z,aQ.of n,_,Z;rw[T7];refine cN (λc=>absurd S c)<|λc=>?_;refine⟨_,Z,l,_,Z,.inl ⟨e.seq j,λm v=>?_⟩⟩;let C:aJ H' (upd H' m<|HO.tup<|ws.map V.int):=aJ.upd v;let q:=C _ _<|e _ _ I;let u:m≠p:=λz=>by subst z;rw[e _ _ I]at v;cases v
 exists _,Z,p,aG,U,[],Z,q,T.cl_Weights,T.na_Weights_weights,(by show 0<1000;decide);refine k m _ aW (by rw[aV u];exact aW) λb o hb Y=>?_;rw[aV Y];exact C _ _<|e _ _ hb
def WH(F:bI K "rank" "Weights.rank" O8 .none f fd) (n:Nn ws) (m:∀x∈ws,x<10^31):Fq T 1 f fd Ph (eN (AX aG ws)<|uD ws):=bW ["self","term","weighed"] F λsc=>by
 walk_at "o";rename_i p t xs;walk_at "h";refine⟨_,(aT (bR 2 sc.nd<|gU (zF (K:=K) rfl false rfl) rfl T.b_sum (by kernel_rfl)<|aL (iB (N:=["power","weight"]) (eK.pl PR) rfl (wX (K:=K) rfl true true rfl T.b_zip<|aL (pv 1)<|aL (fO (K:=K) rfl (pv 0) rfl) aU) (λI G B c=>wR (K:=K) rfl rfl rfl PR rfl rfl) (λI G B c=>gZ)<|λI G B c=>bB KS (pv 0)<|pv 1) aU)
  (aR<|bJ<|bB vC (gO<|aP 2)<|mJ K T.b_tuple<|aP 1)),?_⟩
 let⟨U,v,d,k⟩:=h;let q:=aY.of (K:=K) v;let⟨O,S,M,hw⟩:=id U;show aX _ _ _ _ _ _ _ _;refine xA (K:=K) (b1:=true) (b2:=true) (a:=t) (b:=S) (xs:=xs) (ys:=ws) lQ (λx y=>.int<|x*y) (by rfl) ?_ q (aY.of hw) (Yr d.len ∅) ?_ ?_ λD H' e C=>?_
 ·exact λR L=>⟨_,Z,_,Z,p,aG,O,_,_,Z,M,T.cl_Weights,T.na_Weights_weights,Z,L⟩
 ·exact λ_ _ _ h=>h
 ·exact λi H' R _ h=>⟨_,Z,_,Z,_,_,Z,Z,⟨rQ d.nn d.hi i,rQ n m i⟩,h⟩
 rw[yG]at C;exists D,_,Z,aQ.of C;refine⟨_,Z,(by show 1<=sizeLine;decide),λl J=>?_⟩;let e1:aJ H' (upd H' l<|HO.tup [V.int<|dJ ws xs]):=aJ.upd J;let j:=e.trans e1;refine⟨_,Z,t,_,Z,.inr ⟨j.seqT q,?_⟩⟩;refine⟨_,_,_,_,Z,Z,aY.of aW,j.seqT q,by simp,by simp;exact Yr (Nat.add_le_add_left d.len 1)<|by rw[sizeLine_eq];decide,λz=>?_,λ_ r u=>?_⟩
 ·exact absurd (List.map_eq_nil_iff.mp z) d.ne
 ·exact k r _ (j.updR<|j.free u) aW
def FM(F:bI K "fits" "Order.fits" CP .none f fd):Fq T 1 f fd ["self","many"] (lX At λ_=>true):=bW ["self","many"] F λsc=>by walk_at "o";rename_i p k;walk_at "h";exists _,(aR<|bJ jA);exact h.2 H<|aJ.refl _
def W4(F:bI K "fits" "Weights.fits" PX .none f fd):Fq T 1 f fd ["self","many"] (lX (AX aG ws) λk=>decide<|(ws.length:Int)=k):=bW ["self","many"] F λsc=>by walk_at "o";rename_i p k;walk_at "h";exists _,(aR<|bJ<|kR hY (iQ K T.b_len<|aL (fO (K:=K) rfl (pv 0) rfl) aU)<|pv 1);let⟨b,q⟩:=h;let⟨c,d,a,hw⟩:=id b;exists _,Z,p,aG,c,_,_,Z,a,T.cl_Weights,T.na_Weights_weights,Z,d,_,Z,.inr<|aY.of hw;rw[Yd];walk_at "rd";have:=q H<|aJ.refl _;rw[dI];exact this
def B4(F:bI K "first_of" "Order.first_of" zK .none f fd) (j:mG C At) (r:Mq T 3 C "rank" Ph [] (eN At rk)) (q:BM K C "rank"):Fq T 6 f fd Py (nC At rk):=bW ["self","terms"] F λsc=>by
 walk_at "o";rename_i p l ys b;walk_at "h";refine⟨_,(aT (cW (bA hY (iQ K T.b_len<|aP 1)<|aO) qU cZ)
  (aR<|bJ<|TJ r q (pv 1) (pv 0) hr .nil T.b_max)),?_⟩
 let⟨d,a,v,hw,i,k⟩:=h;let⟨u,fs,m,n⟩:=j.ins d;exists _,Z,l,_,Z,.inl<|aQ.of a;walk_at "rd";refine jF (λc=>absurd (Ja.mp ⋯) i)<|λc=>?_;exists _,Z,_,Z,p,u,fs,l,ys,Z,m,n "rank" nofun,Z,a;exact R7 j b ys H d a v hw i k
def B1(F:bI K "falling" "Order.falling" zI .none f fd) (i:mG C At) (q:Mq T 3 C "rank" Ph [] (eN At rk)) (n:BM K C "rank") (y:∀xs,jG xs->rk xs≠[]):Fq T 6 f fd Py (pO At rk):=bW ["self","terms"] F λsc=>by walk_at "o";rename_i p l ys c;walk_at "h";exists _,(aR<|bJ<|V9 q n (pv 1) (pv 0) hr .nil T.b_sorted);let⟨j,m,r,hw,d,k⟩:=h;let⟨x,fs,v,G⟩:=i.ins j;exists _,Z,_,Z,p,x,fs,l,ys,Z,v,G "rank" nofun,Z,m;refine J5 (K:=K) i y c ys [] [] H H (aJ.refl _) j r hw .nil λks' H' e u=>?_;refine⟨c.map rk,u,d,λps' b a D z=>?_⟩;rw[F2]at b;let⟨ps,B,rfl⟩:=OJ _ b _ rfl;rw[List.pairwise_map]at a;refine k D _ ps (e.updR<|e.free z) B (a.imp λh=>by simpa using h) ?_;rw[aW,Ji];rfl
def YC(F:bI K "__init__" "Ring.__init__" PQ .none f fd) (a:mE T):Fq T 2 f fd P8 (kK aA aD aE aF aG):=bW ["self","many","field","order"] F λsc=>by
 walk_at "o";rename_i r i m pf q kd ws;walk_at "h";let⟨C,O⟩:=a kd ws h.2.1 h.2.2.1 h.2.2.2.1 h.2.2.2.2.1;refine⟨_,(aT (cW (PW.pt<|sL (bA wL (pv 1)<|aO)<|sL (bA oN (pv 1)<|gU zlf rfl T.b_len PySem.boot_len<|aL (WO T.g_LETTERS rfl) aU)<|uW<|oA<|lK<|eV O.fits (pv 3) hr eW .nil<|aP 1) qU cZ)
  (aT (qW (pv 0) (pv 1) Z)
  (aT (qW (pv 0) (pv 2) Z)
  (aR<|qW (pv 0) (pv 3) rfl)))),?_⟩
 let⟨n,k0,k4,wn,wb,d,ok,k⟩:=h;walk_at "rd";refine cD (λc=>absurd ok.1 ⋯)<|λc=>?_;exists _,Z,_,Z,nofun;rw[VC];walk_at "rd";refine cD (λy=>absurd ok.2.1 ⋯)<|λy=>?_;let⟨v,fs,u,x⟩:=O.oC.ins d;refine⟨_,Z,q,v,fs,Z,u,x "fits" nofun,_,Z,q,m,Z,d,λH1 e1=>?_⟩;refine⟨_,Z,RV (λj=>by rw[ok.2.2]at j;cases j)<|λj=>?_⟩;let p:=e1 _ _ n;exists _,Z,_,Z,r,aA,i,_,Z,p,T.cl_Ring,T.na_Ring_many,(by show 0<1000;decide);exists _,Z,_,Z,r,aA,i,_,Z,aW,T.cl_Ring,T.na_Ring_field,(by show 1<1000;decide);exists _,Z,_,Z,r,aA,i,_,Z,aW,T.cl_Ring,T.na_Ring_order,(by show 2<1000;decide);refine k _ aW λb o z l=>?_;rw[aV l,aV l,aV l];exact e1 _ _ z
def SA(F:dN K "product" NL f fd):Fq T 1 f fd Pc (lV K):=bW ["one","other"] F λsc=>by
 walk_at "o";rename_i a b xs ys;walk_at "h";exists _,(aR<|bJ<|mJ K T.b_tuple<|aL (iB (N:=["power","further"]) (eK.pl QI) rfl (wX (K:=K) rfl true true rfl T.b_zip<|cO 0 1) (λm l d c=>wR (K:=K) rfl rfl rfl QI rfl rfl) (λm l d c=>gZ)<|λm l d c=>bB jB (pv 0)<|pv 1) aU);let⟨q,u,n,k⟩:=h;show aX _ _ _ _ _ _ _ _;refine xA (K:=K) (b1:=true) (b2:=true) (a:=a) (b:=b) (xs:=xs) (ys:=ys) lQ (λx y=>.int<|x+y) (by rfl) ?_ q u n ?_ ?_ λD H' e j=>?_
 ·exact λR p=>⟨_,Z,_,Z,p⟩
 ·exact λ_ _ _ h=>h
 ·exact λi H' R _ h=>⟨_,Z,_,Z,_,_,Z,Z,h⟩
 rw[yG<|λx y=>x+y]at j;refine⟨D,_,Z,.inl ⟨aQ.of j,λr hr=>?_⟩⟩;exact k r _ (e.trans<|aJ.upd hr) aW
def UJ(F:dN K "goes_into" OC f fd):Fq T 1 f fd Pc (jL K):=bW ["one","other"] F λsc=>by
 walk_at "o";rename_i a b xs ys;walk_at "h";exists _,(aR<|bJ<|gU (F0 (K:=K) rfl rfl) rfl T.b_all (by kernel_rfl)<|aL (iB (N:=["power","bound"]) (eK.pl QB) rfl (wX (K:=K) rfl true true rfl T.b_zip<|cO 0 1) (λl j d c=>wR (K:=K) rfl rfl rfl QB rfl rfl) (λl j d c=>gZ)<|λl j d c=>kR DV (pv 0)<|pv 1) aU);let⟨u,v,q,m,k⟩:=h;show aX _ _ _ _ _ _ _ _;refine xA (K:=K) (b1:=true) (b2:=true) (a:=a) (b:=b) (xs:=xs) (ys:=ys) lQ (λx y=>.bl<|decide<|x<=y) (by rfl) ?_ u v m ?_ ?_ λD H' e p=>?_
 ·exact λR n=>⟨_,Z,_,Z,n⟩
 ·exact λ_ _ _ h=>h
 ·exact λi H' R _ h=>⟨_,Z,_,Z,_,_,Z,Z,h⟩
 exists D,(List.range xs.length).map λi=>decide<|xs.getD i 0<=ys.getD i 0,Z,aQ.of ?_
 ·rw[p];unfold qR;rw[Yu.mpr<|λ_ _=>Z,Ji,<- q,Nat.min_self];rfl
 ·let r:((List.range xs.length).map λi=>decide<|xs.getD i 0<=ys.getD i 0).all id=dP xs ys:=by unfold dP;rw[List.all_map];rfl
  rw[r];exact k _ e
def WR(F:dN K "left_over" OA f fd)(c:Cq T 1 "goes_into" Pc [] (jL K)):Fq T 2 f fd Pc pH:=bW ["one","other"] F λsc=>by
 walk_at "o";rename_i a b xs ys;walk_at "h";refine⟨_,(aT (cW (oA<|lK<|bS c hr<|cO 0 1) qU cZ)
  (aR<|bJ<|mJ K T.b_tuple<|aL (iB (N:=["power","whole"]) (eK.pl QD) rfl (wX (K:=K) rfl true true rfl T.b_zip<|cO 0 1) (λp n j d=>wR (K:=K) rfl rfl rfl QD rfl rfl) (λp n j d=>gZ)<|λp n j d=>bB yF (pv 1)<|pv 0) aU)),?_⟩
 let⟨q,u,z,l,hg,k⟩:=h;refine⟨_,Z,_,Z,a,b,xs,ys,Z,aY.of q,aY.of u,z,l,λH1 e1=>⟨_,Z,?_⟩⟩;rw[hg];refine cA ?_;show aX _ _ _ _ _ _ _ _;refine xA (K:=K) (b1:=true) (b2:=true) (a:=a) (b:=b) (xs:=xs) (ys:=ys) lQ (λx y=>.int<|y-x) (by rfl) ?_ (aY.of<|e1 _ _ q) (aY.of<|e1 _ _ u) l ?_ ?_ λD H' e m=>?_
 ·exact λR v=>⟨_,Z,_,Z,v⟩
 ·exact λ_ _ _ h=>h
 ·exact λi H' R _ h=>⟨_,Z,_,Z,_,_,Z,Z,h⟩
 rw[yG<|λx y=>y-x]at m;refine⟨D,_,Z,.inl ⟨aQ.of m,λr hr=>?_⟩⟩;refine k r _ ((e1.trans e).trans (aJ.upd hr)) ?_;rw[aW];congr 3;unfold aZ;rw[List.zipWith_comm]
def XO(F:dN K "absorb" LS f fd) (a4:qE T):Fq T 4 f fd ["ring","total","f"] (uB aA aB aC aD aE aF aG):=bW ["ring","total","f","nought","term","number"] F λsc=>by
 walk_at "o";rename_i F fF r d e g cF ap c φ ψ;walk_at "h";let⟨CF,B⟩:=a4 g.n h.1.nb h.1.np;refine⟨_,(aT (bR 3 sc.nd<|sO B.nought (fO (K:=K) rfl (pv 0) rfl) hr eW .nil)
  (aR (wS (gE (yZ<|pv 2) (uZ rfl<|mM (eQ 4 sc.nd)<|mM (eQ 5 sc.nd) vD) (aT (cW (EJ<|JP (dW hr) (pv 4)<|pv 1) (aR<|bR 5 sc.nd<|eV B.plus (fO (K:=K) rfl (pv 0) rfl) hr eW .nil<|aL (E8 (dW hr) (pv 1) (pv 4)<|λ_ _=>Z)<|aP 5) cZ)
  (aR<|cW (bA (yH hr.units) (pv 5)<|pv 3) (aR<|iR<|FG (dW hr) (pv 1)<|aP 4)<|aR<|sU (dW hr) (pv 1) (pv 4) (pv 5) rfl)))))),?_⟩
 let⟨hR,de,hd,he,pF,pG,hl,bF,bG,k⟩:=h;let⟨dx,W⟩:=hR.at_;let hf:=hR.fd;let⟨dF,hF⟩:=B.ins hf;refine⟨_,Z,r,aA,dx,_,_,Z,W,T.cl_Ring,T.na_Ring_field,Z,g.pf,dF,_,Z,hF,jO _ _ nofun,F,fF,cF,g.pf,Z,hf,λu H1 e1 hu=>?_⟩;rw[gT]at hu;refine⟨_,Z,e,c,Z,.inl<|e1 _ _ he,λo=>?_⟩;let a9:=pG.tnd;let lt:=qH c;let X:=e1 _ _ hd;let U:H1 e=some (.dT c):=e1 _ _ he;refine zE (λi σ H'=>i<=c.length/\(∃v4 v5,σ=[some<|.ref r,some<|.ref d,some<|.ref e,some u,v4,v5])/\mI H' e o c/\Kp [d,e] H1 H'/\∃j,H' d=some (.dT j)/\PF g.n g.m H' j (λt=>φ t+dY ψ ((fQ c).take i) t)/\j.length<=ap.length+i) ?_ (λi σ H' h=>h.2.2.1) ?_ ?_
 ·refine⟨Y2 _,⟨none,none,Z⟩,aW,Kp.upd<|by simp,ap,?_,?_,Yi _⟩
  ·rw[aV de];exact X
  ·refine((pF.same e1).fix (jZ U)).congr λt=>?_;rw[List.take_zero,B9];grind
 ·rintro i kx v σ H2 p b hk ⟨hi,⟨v4,v5,rfl⟩,hz,C,j,I,L,lk⟩ hp hb;let⟨t,rfl,t0,ht,iv,nv⟩:=pG.ix hk;let O:=eR hk;let b1:=A4 a9 ht;let tk:=sX ht;let fx:cR H1 H2:=C.fix λa ha ob y=>by
   rcases Yj.mp ha with rfl | ha
   ·rw[X]at y;cases y;exact .inl ⟨_,Z⟩
   ·rw[Yq.mp ha,U]at y;cases y;exact .inl ⟨_,Z⟩
  let b0:cR H H2:=(cR.of e1).tr fx;exists p,_,Z,aY.of aW,Z,_,_,Z,_,_,Z,Z;obtain⟨H3,uq,e3,-⟩:=cS hp<|.tup [.ref b,v];rw[uq];let J:=e3 _ _ hb;let G:=e3 _ _ I;let x:cR H H3:=b0.tr<|.of e3;unfold bD
  try dsimp only
  let D:dY ψ ((fQ c).take i) t=0:=FL b1;refine E4 (λa3 H'=>aJ H3 H'/\∃M,a3=[some<|.ref r,some<|.ref d,some<|.ref e,some u,some<|.ref b,some M]/\bY g.n H' M (φ t + ψ t)/\(bK j (ky t)=none->φ t + ψ t≠0)) ?_ ?_;rotate_left
  ·intro N hN;exists _,Z,_,Z,d,_,Z,fM.t G J,_,Z;cases hval:bK j (ky t) with
   | none=>
    let z:=L.out t hval;rw[D]at z;let z2:φ t=0:=by grind
    let e0:φ t + ψ t=ψ t:=by rw[z2];grind
    refine cA<|hN _ _ ⟨aJ.refl _,v,Z,?_,λ_=>by rw[e0];exact nv⟩;rw[e0];exact iv.fix x
   | some v0=>
    let⟨a1,a2⟩:=L.val t v0 hval;rw[D]at a1;let e0:φ t+0=φ t:=by grind
    rw[e0]at a1;refine dQ ⟨_,Z,r,aA,dx,_,_,Z,x.ins W,T.cl_Ring,T.na_Ring_field,Z,g.pf,dF,_,Z,x.ins hF,jO _ _ nofun,_,Z,_,Z,d,v0,Z,?_,_,Z,F,fF,cF,g.pf,v0,v,φ t,ψ t,Z,vE x hf,a1.same e3,iv.fix x,bF t,bG t,λM H4 e4 a8=>hN _ _ ⟨e4,M,Z,a8,λz=>(by rw[hval]at z;cases z)⟩⟩;have:=fM.t (k:=ky t) G J;rw[hval]at this;exact this
  rintro a3 H4 ⟨e4,M,rfl,Y,a7⟩;let g4:=e3.trans e4;let l:=e4 _ _ G;let a5:=e4 _ _ J;let R:mI H4 e o c:=g4 _ _ hz;let S:Kp [d,e] H1 H4:=C.tr<|.of g4;let a6:=L.same g4;let⟨dn,z0,rd,rz,s1,s2,eq⟩:=yS (K:=K) Y<|(hu.fix fx).same g4;exists _,rfl,_,rfl,dn,z0,rd,rz,s1,s2,_,rfl;rcases eq with⟨z,q⟩ | ⟨z,q⟩
  ·rw[q];refine dQ ?_;cases hval:bK j (ky t) with
   | none=>exact absurd z<|a7 hval
   | some v0=>
    exists _,Z,.inr<|.inr<|.inl ⟨Z,.inr ⟨_,l⟩⟩,_,Z,d,b,j,ky t,v0,Z,Z,l,a5,hval;exists O,⟨_,_,Z⟩,(aV<|Jc de).trans R,S.tr<|Kp.upd<|by simp,_,aW,?_
    ·rw[tk,<- L1,z];exact(a6.drop t).fix (jZ l)
    ·have:=FK j<|ky t;lia
  ·rw[q];refine cA ⟨_,Z,_,Z,_,Z,d,_,Z,hJ.t l a5 ⋯,?_⟩;exists O,⟨_,_,Z⟩,(aV<|Jc de).trans R,S.tr<|Kp.upd<|by simp,_,aW,?_
   ·rw[tk,<- L1];exact(a6.put t0 Y z).fix (jZ l)
   ·have:=sZ j (ky t) M;lia
 ·rintro σ H2 ⟨_,⟨v4,v5,rfl⟩,hz,C,j,I,L,lk⟩;rw[<- lt,List.take_length,B3 λt ht=>pG.tmem.mpr ht]at L;refine .inr ⟨e,o,_,hz,λo' w' z=>?_,k _ j (λb ob hb a0=>?_) ?_ ?_ lk⟩
  ·let z':H e=some (.frz o' w'):=z;rw[he]at z';cases z'
  ·by_cases be:b=e
   ·subst be;rw[aW,<- he];exact hb
   ·rw[aV be];exact C _ _ (e1 _ _ hb) (by simp at a0;simp[a0,be])
  ·rw[aV de];exact I
  ·exact L.fix<|xB (u:=.dT []) hz<|.inr<|.inr ⟨_,_,Z⟩
def SC(F:dN K "scaled" MR f fd)(G:Cq T 1 "product" Pc [] (lV K))(W:qE T):Fq T 4 f fd Pv (lU aA aB aC aD aE aF aG):=bW ["ring","number","term","f","found","part","factor"] F λsc=>by
 walk_at "o";rename_i F fF r v t e g cF D x l ψ;walk_at "h";let⟨CF,B⟩:=W g.n h.1.nb h.1.np;refine⟨_,(aT (cW (bA (yH hr.units) (pv 1)<|sO B.nought (fO (K:=K) rfl (pv 0) rfl) hr eW .nil) (aR<|bJ oP) cZ)
  (aT (bR 4 sc.nd oP)
  (aT (wS<|gE (yZ<|pv 3) (uZ rfl<|mM (eQ 5 sc.nd)<|mM (eQ 6 sc.nd) vD)<|aR<|sU (dW hr) (pv 4) (bS G hr<|cO 2 5) (eV B.times (fO (K:=K) rfl (pv 0) rfl) hr eW .nil<|cO 1 6) rfl)
  (aR<|bJ<|pv 4)))),?_⟩
 let⟨hR,iv,bx,ht,N,Y,pT,bT,hl,k⟩:=h;let⟨dx,R⟩:=hR.at_;let hf:=hR.fd;let⟨dF,hF⟩:=B.ins hf;refine⟨_,Z,_,Z,r,aA,dx,_,_,Z,R,T.cl_Ring,T.na_Ring_field,Z,g.pf,dF,_,Z,hF,jO _ _ nofun,F,fF,cF,g.pf,Z,hf,λu H1 e1 hu=>?_⟩;rw[gT]at hu;let⟨dn,z0,rd,rz,s1,s2,eq⟩:=yS (K:=K) (iv.same e1) hu;exists dn,z0,rd,rz,s1,s2,_,Z;rcases eq with⟨z,q⟩ | ⟨z,q⟩
 ·rw[q];refine dQ ?_;intro d j;refine k d _ [] (e1.free j) (e1.updR<|e1.free j) aW (PF.nil.congr λt=>by rw[z];grind)<|Y2 _
 ·rw[q];refine cA ?_;intro d j;let⟨H2,uq,e2,U⟩:=cS j<|.dT [];rw[uq];let g2:=e1.trans e2;let O:=g2 _ _ Y;let de:d≠e:=λz=>by subst z;rw[e1 _ _ Y]at j;cases j
  refine⟨_,Z,e,D,Z,.inl O,λo=>?_⟩;let a3:=pT.tnd;let a1:=qH D;refine zE (λi σ H'=>i<=D.length/\(∃v5 v6,σ=[some<|.ref r,some v,some<|.ref t,some<|.ref e,some<|.ref d,v5,v6])/\mI H' e o D/\Kp [d,e] H2 H'/\∃L,H' d=some (.dT L)/\PF g.n g.m H' L (λt=>x*sh l (dY ψ<|(fQ D).take i) t)/\L.length<=i) ?_ (λi σ H' h=>h.2.2.1) ?_ ?_
  ·refine⟨Y2 _,⟨none,none,Z⟩,aW,Kp.upd<|by simp,[],?_,PF.nil.congr λt=>?_,Y2 _⟩
   ·rw[aV de];exact U
   ·rw[List.take_zero,B9];unfold sh;split <;> grind
  ·rintro i kx vx σ H3 p b hk ⟨hi,⟨v5,v6,rfl⟩,hz,J,L,M,pk,lk⟩ hp hb;let⟨y,rfl,y0,hy,iy,ny⟩:=pT.ix hk;let a0:=eR hk;let hti:=A4 a3 hy;let tk:=sX hy;let a4:cR H H3:=(cR.of g2).tr (J.fix λa ha ob I=>by
    rcases Yj.mp ha with rfl | ha
    ·rw[U]at I;cases I;exact .inl ⟨_,Z⟩
    ·rw[Yq.mp ha,O]at I;cases I;exact .inl ⟨_,Z⟩)
   exists p,_,Z,aY.of aW,Z,_,_,Z,_,_,Z,Z;obtain⟨H4,uq,e4,-⟩:=cS hp<|.tup [.ref b,vx];rw[uq];let C:cR H H4:=a4.tr<|.of e4;refine⟨_,Z,r,aA,dx,_,_,Z,C.ins R,T.cl_Ring,T.na_Ring_field,Z,g.pf,dF,_,Z,C.ins hF,jO _ _ nofun,_,Z,_,Z,F,fF,cF,g.pf,v,vx,x,ψ y,Z,vE C hf,iv.fix C,iy.fix C,bx,bT y,λv' H5 e5 a2=>?_⟩;let X:=e4 _ _ hb;rw[hZ]at X;refine⟨_,Z,_,Z,_,Z,t,b,l,y,Z,aY.of<|e5 _ _<|C.tup _ _ ht,aY.of<|e5 _ _ X,by rw[N.len];exact Yr hR.m4 ∅,λrr H6 e6 a5=>?_⟩;let g6:=(e4.trans e5).trans e6;let S:=g6 _ _ M;exists d,_,Z,hJ.t S (by rw[hZ];exact a5) ⋯;exists a0,⟨_,_,Z⟩,(aV<|Jc de).trans (g6 _ _ hz),(J.tr<|.of g6).tr (Kp.upd<|by simp),_,aW,?_
   ·rw[tk,<- NE (y0.len.trans N.len.symm)];refine((pk.same g6).put (T0.add N y0) (a2.same e6) ?_).fix (jZ S);intro z';rcases Classical.em (x=0) with q' | q'
    ·exact z q'
    ·apply ny;grind
   ·have:=sZ L (ky<|aM l y) v';lia
  ·rintro σ H3 ⟨_,⟨v5,v6,rfl⟩,hz,J,L,M,pk,lk⟩;rw[<- a1,List.take_length,B3 λt ht=>pT.tmem.mpr ht]at pk;refine .inr ⟨e,o,_,hz,λo' w' z=>?_,?_⟩
   ·let z':H e=some (.frz o' w'):=z;rw[Y]at z';cases z'
   refine⟨_,Z,k d _ L (e1.free j) (λc ob hc=>?_) ((aV de).trans M) ?_ lk⟩
   ·by_cases ce:c=e
    ·subst ce;rw[aW,<- Y];exact hc
    ·rw[aV ce];exact J _ _ (g2 _ _ hc) (by simp only[List.mem_cons,List.not_mem_nil,or_false,not_or];exact⟨(λz=>by subst z;rw[e1 _ _ hc]at j;cases j),ce⟩)
   ·exact pk.fix<|xB (u:=.dT []) hz<|.inr<|.inr ⟨_,_,Z⟩
def z2w(F:dN K "first_term" OV f fd) (j:mE T):Fq T 8 f fd ["ring","f"] (vL aA aB aC aD aE aF aG):=bW ["ring","f"] F λsc=>by
 walk_at "o";rename_i F fF r d g cF ap φ;walk_at "h";let⟨C,O⟩:=j g.kd g.ws h.1.k0 h.1.k4 h.1.wn h.1.wb;refine⟨_,(aT (cW (bA (T6 hr.units) (pv 1)<|oP) qU cZ)
  (aR<|bJ<|eV O.first (fO (K:=K) rfl (pv 0) rfl) hr eW .nil<|aL (oT (N0 rfl) rfl T.b_list (by kernel_rfl)<|aP 1) aU)),?_⟩
 let⟨c,U,b,tb,S,k⟩:=h;let⟨dx,G⟩:=c.at_;walk_at "rd";intro d2 D;let⟨H1,uq,e1,J⟩:=cS D<|.dT [];rw[uq];let⟨p,kds,fl,_⟩:=(b.same e1).kds (K:=K);let ld:ap.length=p.length:=Paired.length kds;exists d,d2,ap,[],p,[],Z,Z,.inl<|e1 _ _ U,.inl J,kds,.nil,fl,(λ_ z=>by cases z),_,Z;let M:gC p []=false:=by
  unfold gC;cases p with
  | nil=>exact absurd (Ja.mp ld) S
  | cons x l=>rfl
 rw[M];refine cA ?_;let⟨dO,fs,hO,nl⟩:=O.oC.ins c.od;refine⟨_,Z,r,aA,dx,_,_,Z,e1 _ _ G,T.cl_Ring,T.na_Ring_order,Z,g.po,dO,fs,Z,e1 _ _ hO,nl "first_of" nofun,_,Z,d,ap,Z,.inl<|e1 _ _ U,λl as hl I hi=>?_⟩;let y:aJ H1 (upd H1 l<|.lst<|as.map V.ref):=aJ.upd hl;let Y:=e1.trans y;let ek:=b.keys;let X:=K6.tms_list (m:=g.m) (l:=l) ek I hi;let pw:∀xs∈fQ ap,jG xs:=λxs n=>JO (b.sp xs<|b.tmem.mp n) c.m1 c.m4<|tb xs<|b.tmem.mp n;let u:as.map V.ref≠[]:=λz=>S<|Ja.mp (by rw[<- I];have:=Jx List.length z;simpa using this);refine⟨g.po,l,as.map V.ref,fQ ap,Z,O.oC.same Y c.od,aW,bH (λ_ _ q=>q.same y) X,pw,u,λH' xs v R W n=>?_⟩;let g3:=Y.trans R;let B:=bH (λ_ _ q=>(q.same y).same R) X;let⟨a,rfl,ha⟩:=pz B _ W;let i:=(List.of_mem_zip W).1;refine k H' xs a g3 ha ⟨b.tmem.mp i,λt N=>?_⟩;let⟨v',L⟩:=JI (l:=fQ ap) (l':=as.map V.ref) (by rw[qH,Yd,I])<|b.tmem.mpr N;exact DY c.om (b.sp xs<|b.tmem.mp i).len (b.sp t N).len (n _ L) |>.imp (λe=>e) λe=>e
def XN(F:bI K "place_of" "Waiting.place_of" QR .none f fd):Fq T 1 f fd ["self","rank"] (mY aH):=bW ["self","rank","low","high","middle"] F λsc=>by
 walk_at "o";rename_i L r po kn R rk ks us x;walk_at "h";refine⟨_,(aT (bR 2 sc.nd aO)
  (aT (bR 3 sc.nd<|iQ K T.b_len<|aL (fO (K:=K) rfl (pv 0) rfl) aU)
  (aT (qY PassesOwn.never (bA wL (pv 2)<|pv 3) (aT (bR 4 sc.nd<|bB jC (bB jB (pv 2)<|pv 3)<|aO)
  (aR<|cW (bA (JV<|dW hr |> Nat.lt_of_succ_lt) (cX K (gW K (fO (K:=K) rfl (pv 0) rfl)<|pv 4)<|aO)<|pv 1) (aR<|bR 2 sc.nd<|bB jB (pv 4)<|aO)<|aR<|bR 3 sc.nd<|pv 4)))
  (aR<|bJ<|pv 2)))),?_⟩
 let⟨hW,M,mono,lu,k⟩:=h;let⟨dw,hw⟩:=hW.at_;let⟨vs,W,Y⟩:=hW.ql;let lv:vs.length=us.length:=(Paired.length Y).symm;exists _,Z,L,aH,dw,_,_,Z,hw,T.cl_Waiting,T.na_Waiting_queue,Z,R,vs,Z,.inl<|aQ.of W;exists λm σ H'=>∃(lo b:Nat) (J:Option V),m=b-lo/\σ=[some<|.ref L,some<|.ref r,some<|.int lo,some<|.int b,J]/\H'=H/\lo<=b/\b<=us.length/\(∀(j:Nat) u,us[j]?=some u->j<lo->HT.lexLt (rk u) x=true)/\∀(j:Nat) u,us[j]?=some u->b<=j->HT.lexLt (rk u) x=false,⟨_,0,vs.length,none,Z,Z,Z,Y2 _,⋯,λj u _ z=>⋯,λj u n z=>?_⟩
 ·have:=eR n;lia
 rintro m σ H' ⟨lo,b,J,rfl,rfl,rfl,lh,hu,C,G⟩;exists _,rfl,_,rfl,_,_,rfl,rfl,_,rfl;refine cD (λc=>?_)<|λc=>?_
 ·let c':lo<b:=by lia
  exists λD B=>∃(i a:Nat) (J:Option V),a-i<b-lo/\D=[some<|.ref L,some<|.ref r,some<|.int i,some<|.int a,J]/\B=H'/\i<=a/\a<=us.length/\(∀(j:Nat) u,us[j]?=some u->j<i->HT.lexLt (rk u) x=true)/\∀(j:Nat) u,us[j]?=some u->a<=j->HT.lexLt (rk u) x=false,?_
  ·rintro D B ⟨i,a,v5,l1,rfl,rfl,l2,l3,l4,l5⟩;exact⟨_,l1,i,a,v5,rfl,rfl,rfl,l2,l3,l4,l5⟩
  let U:Int.fdiv ((lo:Int)+(b:Int)) 2=(((lo+b) / 2:Nat):Int):=by rw[Int.fdiv_eq_ediv_of_nonneg _ ∅];lia
  obtain⟨d,N⟩:∃d,d=(lo+b) / 2:=⟨_,Z⟩;rw[<- N]at U;let m1:lo<=d:=by lia
  let m2:d<b:=by lia
  exists _,Z,_,Z,_,_,Z,Z,_,_,Z,Z,⟨∅,∅⟩;unfold bD
  try dsimp only
  rw[U];let S:d<vs.length:=by lia
  let⟨u,v,p,r1,r2,ev,hp,O,hr2⟩:=cV Y<|Yc S;exists _,Z,L,aH,dw,_,_,Z,hw,T.cl_Waiting,T.na_Waiting_queue,Z,_,Z,R,vs,d,_,Z,Z,aQ.of W,iC<|Yc S;rw[ev];exists p,_,0,_,Z,Z,aY.of hp,gJ,_,Z,r1,r,rk u,x,Z,Z,aY.of O,aY.of M,_,Z;refine cB (λy=>?_)<|λy=>?_
  ·refine⟨_,Z,_,_,Z,Z,d+1,b,_,⋯,Z,Z,⋯,⋯,λj I n l=>?_,G⟩;rcases Jh j d with q | q
   ·exact mono j d I u q n v y
   ·have:j=d:=by lia
    subst this;rw[v]at n;cases n;exact y
  ·refine⟨_,Z,lo,d,_,⋯,Z,Z,⋯,⋯,C,λj I n l=>?_⟩;cases q:HT.lexLt (rk I) x with
   | false=>rfl
   | true=>
    rcases Jh d j with X | X
    ·rw[mono d j u I X v n q]at y;cases y
    ·have:j=d:=by lia
     subst this;rw[v]at n;cases n;rw[y]at q;cases q
 ·let e:lo=b:=by lia
  subst e;refine⟨_,Z,k lo hu λj u n=>⟨C j u n,λq=>?_⟩⟩;rcases Jh j lo with z | z
  ·exact z
  ·rw[G j u n z]at q;cases q
def z2t(F:bI K "put" "Waiting.put" PD .none f fd)(N:Mq T 1 aH "place_of" ["self","rank"] [] (mY aH))(b6:mE T):Fq T 5 f fd Py (mW aF aD aE aG aH):=bW ["self","terms","term","rank"] F λsc=>by
 walk_at "o";rename_i W d po kn S kd ws m ks us ts ap;walk_at "h";let⟨C,O⟩:=b6 kd ws h.1 h.2.1 h.2.2.1 h.2.2.2.1;refine⟨_,(aR (wS (gE (T3<|pv 1) (eQ 2 sc.nd) (aR (cW (EJ<|YL (dW hr) (pv 2)<|fO (K:=K) rfl (pv 0) rfl) (aT (sU (dW hr) (fO (K:=K) rfl (pv 0) rfl) (pv 2) (jA) rfl)
  (aT (bR 3 sc.nd<|eV O.rank (fO (K:=K) rfl (pv 0) rfl) hr eW .nil<|aP 2)
  (aR<|iR<|nX PySem.F.plainAttrs_list PySem.F.slot_list_insert PySem.F.type_list_insert XQ (fO (K:=K) rfl (pv 0) rfl)<|aL (eV N (pv 0) hr eW .nil<|aP 3)<|aL (gO<|cO 3 2) aU))) cZ))))),?_⟩
 let⟨k0,k4,wn,wb,m1,m4,c6,hW,hd,c2,tok,a5,d2,a2,lk,lu,k⟩:=h;let⟨dw,hw⟩:=hW.at_;let⟨kv0,a4,ek0⟩:=hW.kn;let⟨vs0,hq,en0⟩:=hW.ql;let⟨dO,fs,hO,nl⟩:=O.oC.ins c6;let om:eJ (cK kd ws) m:=BF kd wn m;let lt:ap.length=ts.length:=by have:=Jx List.length c2;simpa using this
 let b2:d≠S:=eM hd hq (by intro z;cases z);let a1:kn≠S:=eM a4 hq (by intro z;cases z);refine⟨_,Z,d,ap,Z,.inl hd,λo=>?_⟩;refine WJ (λi σ H'=>i<=ap.length/\(∃v2 v3,σ=[some<|.ref W,some<|.ref d,v2,v3])/\mI H' d o ap/\Kp [kn,S,d] H H'/\∃(c l:Lb),Wa aH (cK kd ws) H' W po kn S c l/\l.Pairwise (G.lt<|cK kd ws)/\(∀z,z∈l↔z∈us\/(z∈ts.take i/\z∉ks))/\(∀z,z∈c↔z∈ks\/z∈ts.take i)/\c.length<=ks.length+i/\l.length<=us.length+i) ?_ (λi σ H' h=>h.2.2.1) ?_ ?_
 ·refine⟨Y2 _,⟨none,none,Z⟩,aW,Kp.upd<|by simp,ks,us,hW.fix (jZ hd) (λob q=>(aV<|Jc a5).trans q)<|λob q=>(aV<|Jc b2).trans q,d2,λz=>by simp,λz=>by simp,Yi _,Yi _⟩
 ·rintro i kx v σ R b hk ⟨hi,⟨v2,v3,rfl⟩,hz,B,c,l,D,M,mu,mk,a8,a3⟩ hb;obtain⟨t,ht,rfl⟩:∃t,ts[i]?=some t/\kx=ky t:=by
   let q:(ap.map (·.1))[i]?=some kx:=by rw[Ym,hk];rfl
   rw[c2,Ym]at q;let⟨t,h1,h2⟩:=Option.map_eq_some_iff.mp q;exact⟨t,h1,h2.symm⟩
  let c1:=eR hk;let tk:=sX ht;let⟨t0,tb⟩:=tok t<|Yx ht;let b1:cR H R:=B.fix λa ha ob n=>by
   simp only[List.mem_cons,List.not_mem_nil,or_false]at ha;rcases ha with rfl | rfl | rfl
   ·rw[a4]at n;cases n;exact .inl ⟨_,Z⟩
   ·rw[hq]at n;cases n;exact .inr<|.inl ⟨_,Z⟩
   ·rw[hd]at n;cases n;exact .inl ⟨_,Z⟩
  let b7:=b1.ins hw;let⟨I,L,ek⟩:=D.kn;let⟨vs,d0,en⟩:=D.ql;let lkv:I.length=c.length:=by have:=Jx List.length ek;simpa using this
  let lvs:vs.length=l.length:=(Paired.length en).symm;let b9:∀z,bK I (ky z)=none↔z∉c:=λz=>by
   let e:(bK I<|ky z).isSome=true↔z∈c:=by rw[fJ,ek,Jj];exact⟨fun⟨u,hu,e⟩=>qV e ▸ hu,λh=>⟨z,h,Z⟩⟩
   rw[<- e];cases bK I (ky z) <;> simp
  unfold bD
  try dsimp only
  exists _,Z,_,Z,W,aH,dw,_,_,Z,b7,T.cl_Waiting,T.na_Waiting_known,Z,kn,_,Z,fM.t L hb,_,Z;cases hval:bK I (ky t) with
  | some v0=>
   let c4:t∈c:=Classical.byContradiction λz=>by rw[(b9 t).mpr z]at hval;cases hval
   refine cA ⟨c1,⟨_,_,Z⟩,hz,B,c,l,D,M,λz=>?_,λz=>?_,⋯,⋯⟩
   ·rw[mu z,tk,Jv,Yq];constructor
    ·rintro(h | ⟨h,h'⟩)
     ·exact .inl h
     ·exact .inr ⟨.inl h,h'⟩
    ·rintro(h | ⟨h | h,h'⟩)
     ·exact .inl h
     ·exact .inr ⟨h,h'⟩
     ·subst h;rcases(mk z).mp c4 with q | q
      ·exact absurd q h'
      ·exact .inr ⟨q,h'⟩
   ·rw[mk z,tk,Jv,Yq];constructor
    ·rintro(h | h)
     ·exact .inl h
     ·exact .inr<|.inl h
    ·rintro(h | h | h)
     ·exact .inl h
     ·exact .inr h
     ·subst h;exact(mk z).mp c4
  | none=>
   let a9:t∉c:=(b9 t).mp hval;let b8:t∉ks:=λz=>a9<|(mk t).mpr (.inl z);let d3:t∉ts.take i:=λz=>a9<|(mk t).mpr (.inr z);refine dQ ⟨_,Z,W,aH,dw,_,_,Z,b7,T.cl_Waiting,T.na_Waiting_known,Z,_,Z,kn,_,Z,hJ.t L hb ⋯,?_⟩;let e3:cR R (upd R kn<|.dT<|bE I (ky t)<|.bl true):=jZ L;let J:(upd R kn<|HO.dT<|bE I (ky t)<|.bl true) kn=some (.dT<|bE I (ky t)<|.bl true):=aW;let k3:Kp [kn,S,d] R (upd R kn<|.dT<|bE I (ky t)<|.bl true):=Kp.upd (by simp);let b4:(upd R kn<|HO.dT<|bE I (ky t)<|.bl true) S=some (.lst vs):=(aV<|Jc a1).trans d0;let c5:mI (upd R kn<|HO.dT<|bE I (ky t)<|.bl true) d o ap:=(aV a5).trans hz;let c0:(bE I (ky t)<|V.bl true).map (·.1)=(c++[t]).map ky:=by rw[XF _ hval,List.map_append,List.map_append,ek];rfl
   generalize upd R kn (HO.dT<|bE I (ky t)<|V.bl true)=H3 at e3 J k3 b4 c5;let U:=b1.tr e3;let a6:=e3.tup _ _ hb;rw[hZ]at a6;refine⟨_,Z,W,aH,dw,_,_,Z,U.ins hw,T.cl_Waiting,T.na_Waiting_order,Z,po,dO,fs,Z,U.ins hO,nl "rank" nofun,_,Z,po,b,t,Z,KU U c6,a6,JO t0 m1 m4 tb,λr H4 e4 b5=>?_⟩;let X:=U.tr<|.of e4;let b0:=e4 _ _ b4;let c3:=bH (λ_ _ q=>uO.fix (e3.tr<|.of e4) q) en;let b3:Wa aH (cK kd ws) H4 W po kn S (c++[t]) l:=⟨⟨dw,X.ins hw⟩,⟨_,e4 _ _ J,c0⟩,⟨vs,b0,c3⟩,List.nodup_append.mpr ⟨D.nd,by simp,λa ha b hb e=>a9<|by rw[Yq.mp hb]at e;rw[<- e];exact ha⟩⟩;exists _,Z,W,aH,dw,_,_,Z,X.ins hw,T.cl_Waiting,T.na_Waiting_queue,Z,.inl ⟨Z,_,aQ.of b0⟩;refine⟨_,Z,W,dw,_,Z,X.ins hw,xV _ nofun nofun nofun,_,Z,W,r,po,kn,S,cK kd ws,c++[t],l,cK kd ws t,Z,b3,b5,λx y u v' xy hx hy q=>?_,⋯,λj hj c8=>?_⟩
   ·have:=List.pairwise_iff_getElem.mp M x y (eR hx) (eR hy) xy;rw[Yc<|eR hx]at hx;rw[Yc<|eR hy]at hy;injection hx with hx
    injection hy with hy
    rw[hx,hy]at this;exact lt_trans this q
   refine⟨_,Z,_,Z,(by show 2<=sizeLine;exact zl 2 ∅),λp np=>?_⟩;let⟨H5,uq,Y,c9⟩:=cS np<|.tup [.ref r,.ref b];rw[uq];let c7:=Y _ _ b0;let et:uO (cK kd ws) H5 t (.ref p):=⟨p,r,b,Z,c9,Y _ _ b5,Y _ _<|e4 _ _ a6⟩;refine⟨S,vs,j,.ref p,Z,Z,c7,⋯,⋯,?_⟩;let g5:cR H5 (upd H5 S<|.lst (vs.take j++.ref p::vs.drop j)):=mO c7;let d1:t∉l:=λz=>by
    rcases(mu t).mp z with q | q
    ·exact b8 (a2 t q).1
    ·exact d3 q.1
   exists c1,⟨_,_,Z⟩,?_,(B.tr k3).tr ((Kp.of<|e4.trans Y).tr (Kp.upd<|by simp)),c++[t],l.take j++t::l.drop j,⟨⟨dw,g5.ins<|Y _ _<|X.ins hw⟩,⟨_,(aV a1).trans (Y _ _<|e4 _ _ J),c0⟩,⟨_,aW,?_⟩,b3.nd⟩,?_,λz=>?_,λz=>?_,?_
   ·exact(aV b2).trans (Y _ _<|e4 _ _ c5)
   ·exact ak (bH (λ_ _ q=>uO.fix ((cR.of Y).tr g5) q) c3) (et.fix g5) j
   ·refine ZP om M (λu hu=>?_) t0 d1 c8;rcases(mu u).mp hu with q | q
    ·exact(a2 u q).2
    ·exact(tok u<|List.mem_of_mem_take q.1).1
   ·rw[UP,mu z,tk,Jv,Yq];constructor
    ·rintro((h | ⟨h,h'⟩) | h)
     ·exact .inl h
     ·exact .inr ⟨.inl h,h'⟩
     ·subst h;exact .inr ⟨.inr Z,b8⟩
    ·rintro(h | ⟨h | h,h'⟩)
     ·exact .inl<|.inl h
     ·exact .inl<|.inr ⟨h,h'⟩
     ·exact .inr h
   ·rw[Jv,Yq,mk z,tk,Jv,Yq];exact or_assoc
   ·rw[Y6];show _+1<=_;lia
   ·rw[Y6,Y5,List.length_take,List.length_drop];lia
 ·rintro σ R ⟨_,⟨v2,v3,rfl⟩,hz,B,c,l,D,M,mu,mk,a8,a3⟩;rw[lt,List.take_length]at mu mk;rw[lt]at a8 a3;let b1:cR H R:=B.fix λa ha ob n=>by
   simp only[List.mem_cons,List.not_mem_nil,or_false]at ha;rcases ha with rfl | rfl | rfl
   ·rw[a4]at n;cases n;exact .inl ⟨_,Z⟩
   ·rw[hq]at n;cases n;exact .inr<|.inl ⟨_,Z⟩
   ·rw[hd]at n;cases n;exact .inl ⟨_,Z⟩
  refine .inr ⟨d,o,_,hz,λo' w' z=>?_,?_⟩
  ·let z':H d=some (.frz o' w'):=z;rw[hd]at z';cases z'
  refine k _ c l (λb ob hb a7=>?_) (D.fix (xB (u:=.dT []) hz<|.inr<|.inr ⟨_,_,Z⟩) (λob q=>(aV<|Jc a5).trans q) λob q=>(aV<|Jc b2).trans q) M mu mk a8 a3;by_cases be:b=d
  ·subst be;rw[aW,<- hd];exact hb
  ·rw[aV be];exact B _ _ hb (by simp only[List.mem_cons,List.not_mem_nil,or_false,not_or]at a7 ⊢;exact⟨a7.1,a7.2,be⟩)
def X7(F:bI K "__init__" "Waiting.__init__" QP .none f fd)(r:Mq T 5 aH "put" Py [] (mW aF aD aE aG aH)):Fq T 6 f fd ["self","order","terms"] (kH aF aD aE aG aH):=bW ["self","order","terms"] F λsc=>by
 walk_at "o";rename_i i v d R kd ws m ts ap;walk_at "h";refine⟨_,(aT (qW (pv 0) (pv 1) Z)
  (aT (qW (pv 0) (oP) Z)
  (aT (qW (pv 0) (iH aU) Z)
  (aR<|iR<|eV r (pv 0) hr eW .nil<|aP 2)))),?_⟩
 let⟨hw,pw,k0,k4,wn,wb,m1,Y,N,M,G,tok,lt,k⟩:=h;exists _,Z,_,Z,i,aH,v,_,Z,hw,T.cl_Waiting,T.na_Waiting_order,(by show 0<1000;decide);intro kn n;let B:i≠kn:=λz=>by subst z;rw[aW]at n;cases n
 let a:H kn=none:=by rw[aV<|Jc B]at n;exact n
 exists _,Z,i,aH,v,_,Z,(aV B).trans aW,T.cl_Waiting,T.na_Waiting_known,(by show 1<1000;decide);refine⟨(by show 0<=sizeLine;exact Y2 _),λq c=>?_⟩;let p:i≠q:=λz=>by subst z;rw[aW]at c;cases c
 let C:kn≠q:=λz=>by subst z;rw[aV<|Jc B,aW]at c;cases c
 let j:H q=none:=by rw[aV<|Jc p,aV<|Jc C,aV<|Jc p]at c;exact c
 exists _,Z,i,aH,v,_,Z,(aV p).trans aW,T.cl_Waiting,T.na_Waiting_queue,(by show 2<1000;decide);let I:∀(y:Hp) (S:XK),y i=some (HO.ins aH v [("order",.ref R),("known",.ref kn),("queue",.ref q)])->Kp [i] H y->y kn=some (.dT [])->y q=some (.lst [])->mW aF aD aE aG aH [.ref i,.ref d] y (λ_ H'=>Q .non H') S:=by
  intro y S h1 L U h4;let W:d≠i:=eM M hw (by intro z;cases z);let O:d≠kn:=λz=>by subst z;rw[M]at a;cases a
  refine⟨i,d,R,kn,q,kd,ws,m,[],[],ts,ap,Z,k0,k4,wn,wb,m1,Y,U3 L hw N pw,⟨⟨v,h1⟩,⟨[],U,Z⟩,⟨[],h4,.nil⟩,List.nodup_nil⟩,L _ _ M<|by simp[W],G,tok,O,.nil,(λu hu=>by cases hu),‹lt›,‹lt›,λH' D J kp wa X mu mk l1 l2=>?_⟩;refine k H' kn q D J a j (λb ob l x=>kp _ _ (L _ _ l x) ?_) wa X (λz=>?_) (λz=>?_) ‹l1› ‹l2›
  ·simp only[List.mem_cons,List.not_mem_nil,or_false,not_or];exact⟨(λz=>by subst z;rw[a]at l;cases l),(λz=>by subst z;rw[j]at l;cases l)⟩
  ·rw[mu z];simp
  ·rw[mk z];simp
 refine⟨_,Z,i,v,_,Z,aW,xV _ nofun nofun nofun,_,Z,I _ E0 aW (λb ob l x=>?_) ?_ ?_⟩
 ·rw[Yq]at x;rw[aV x,aV (λz=>by subst z;rw[j]at l;cases l),aV x,aV (λz=>by subst z;rw[a]at l;cases l),aV x];exact l
 ·rw[aV<|Jc B,aV C,aV<|Jc B];exact aW
 ·rw[aV<|Jc p];exact aW
def SX(F:bI K "is_empty" "Waiting.is_empty" QO .none f fd):Fq T 1 f fd Pm (tR aH):=bW ["self"] F λsc=>by walk_at "o";rename_i j po kn ql rk ks us;walk_at "h";exists _,(aR<|bJ<|kR (yH hr.units) (fO (K:=K) rfl (pv 0) rfl)<|iH aU);let⟨a,k⟩:=h;let⟨i,hw⟩:=a.at_;let⟨vs,b,c⟩:=a.ql;refine⟨_,Z,j,aH,i,_,_,Z,hw,T.cl_Waiting,T.na_Waiting_queue,Z,(by show 0<=sizeLine;exact Y2 _),λl d=>?_⟩;let e1:aJ H (upd H l<|.lst []):=aJ.upd d;refine⟨.list<|rP rk us,.list [],.lst (aQ.of<|e1 _ _ b)<|MD<|bH (λ_ _ q=>q.fix<|.of e1) c,.lst (aQ.of aW) .nil,ZN rk us,∅,?_⟩;rw[WA];exact k _ e1
def V0(F:bI K "taken" "Waiting.taken" PL .none f fd):Fq T 1 f fd Pm (mS aH):=bW ["self"] F λsc=>by walk_at "o";rename_i D po kn l rk ks us t;walk_at "h";exists _,(aR<|bJ<|cX K (D7 PySem.F.plainAttrs_list PySem.F.slot_list_pop PySem.F.type_list_pop z15<|fO (K:=K) rfl (pv 0) rfl)<|aO);let⟨j,k⟩:=h;let⟨u,hw⟩:=j.at_;let⟨vs,d,x⟩:=j.ql;let⟨n,y,rfl,m,p,r,a,rfl,B,h2,v⟩:=zZ x;let⟨ap,c,C⟩:=j.kn;let b:kn≠l:=eM c d (by intro z;cases z);refine⟨_,Z,D,aH,u,_,_,Z,hw,T.cl_Waiting,T.na_Waiting_queue,Z,.inl ⟨Z,_,aQ.of d⟩,l,_,.ref p,Z,Z,d,by simp,?_⟩;rw[List.dropLast_concat];let i:cR H (upd H l<|.lst n):=mO d;exists p,_,1,_,Z,Z,aY.of<|i.tup _ _ B,gH;exact k _ a (Kp.upd<|by simp) ⟨⟨u,i.ins hw⟩,⟨ap,(aV b).trans c,C⟩,⟨n,aW,bH (λ_ _ q=>q.fix i) m⟩,j.nd⟩<|i.tup _ _ v
def YK(F:bI K "__init__" "Leads.__init__" QY .none f fd)(G:Cq T 8 "first_term" ["ring","f"] [] (vL aA aB aC aD aE aF aG)):Fq T 9 f fd ["self","ring","row"] (kO aA aB aC aD aE aF aG aI):=bW ["self","ring","row"] F λsc=>by
 walk_at "o";rename_i F fF x dx r b g cF ds n gs;walk_at "h";exists _,(aR<|qW (pv 0) (iB (N:=["at","f","ring"]) (cl:=[("ring",s.heap.objs.size+1)]) (mp:=[none,none,some 1]) (eK.of rfl nofun rfl nofun OY (iD rfl lM) (lI (fs:=["ring"]) rfl nofun) rfl (kZ<|kZ<|iE rfl (.inl rfl) rfl lL)) rfl (S3 (K:=K) rfl rfl T.b_enumerate<|aP 2) (λC0 s0 H0 I=>SG (K:=K) rfl rfl OY rfl rfl rfl rfl) (λC0 s0 H0 I=>FE<|bA (LX (K:=K) rfl hr.units) (pv 1)<|oP)<|λC0 s0 H0 I=>gO<|aL (pv 0)<|aL (bS G hr<|cO 2 1) aU) rfl);let⟨W,hR,C,tb,k⟩:=h;show aX _ _ _ _ _ _ _ _;refine sY (J:=C8 K b) (H1:=H) (X3<|aQ.of C.at_) (by rw[Yd];exact C.b) ?_ (λσ=>∃v w,σ=[v,w,some<|.ref r]) (λi=>decide<|n.getD i []≠[]) (λi v H'=>∃h,xN H' (i,h) v/\Ld g.rk (gs i) h) (λi v H1 H2 e ⟨h,h1,h2⟩=>⟨h,h1.fix<|.of e,h2⟩) (λi v H1 a y1 y2 ha ⟨h,h1,h2⟩=>⟨h,h1.fix<|mO ha,h2⟩) ⟨none,none,Z⟩ ?_ λld H1 ls nd e1 hL X=>?_
 ·exact λR hR=>⟨_,Z,b,Z,⟨_,aQ.of C.at_⟩,hR⟩
 ·rintro i v σ' H2 S ⟨z,z',rfl⟩ e2 ⟨p,xv,rfl,j,hv⟩ Ny Nn hy hn;rw[Yd]at S;let O:ds[i]?=some ds[i]:=Yc S;let⟨ap,a2,u,M⟩:=(C.same e2).row i _ O;let ev:xv=.ref ds[i]:=by rw[Ym,O]at hv;exact(Jg hv).symm
  subst ev;let eg:n.getD i []=ap:=by simp[List.getD,a2]
  rw[eg]at hy hn;generalize ds[i]=d at u j;exists p,_,Z,aY.of j,Z,_,_,Z,_,_,Z,Z;exists _,Z;intro d2 a4;let⟨H3,uq,y,a0⟩:=cS a4<|.dT [];rw[uq];let⟨U,kds,fl,_⟩:=(M.same y).kds (K:=K);let D:ap.length=U.length:=Paired.length kds;exists d,d2,ap,[],U,[],Z,Z,.inl<|y _ _ u,.inl a0,kds,.nil,fl,(λ_ z=>by cases z),_,Z;by_cases c:ap=[]
  ·let ed:U=[]:=Ja.mp (by rw[<- D,c];rfl);rw[ed];exact cA<|hn _ _ ⟨_,_,Z⟩ y (by rw[decide_eq_false_iff_not];exact λq=>q c)
  ·let a3:gC U []=false:=by
    unfold gC;cases U with
    | nil=>exact absurd (Ja.mp D) c
    | cons x l=>rfl
   rw[a3];let g3:=e2.trans y;refine dQ ⟨_,Z,_,Z,_,Z,F,fF,r,d,g,cF,ap,gs i,Z,hR.same g3,y _ _ u,M.same y,tb i,c,λH4 t a e4 ha W=>?_⟩;refine⟨(by show 2<=sizeLine;exact zl 2 ∅),λq nq=>?_⟩;let e5:aJ H4 (upd H4 q<|.tup [.int i,.ref a]):=aJ.upd nq;exact hy (.ref q) _ _ ⟨_,_,Z⟩ ((y.trans e4).trans e5) ⟨t,⟨q,a,Z,aW,e5 _ _ ha⟩,W⟩<|Yo c
 rw[Yd]at X;let⟨m,el,a1,j⟩:=FY (A:=xN H1) (B:=λi h=>Ld g.rk (gs i) h) X;let fr:x≠ld:=λz=>by subst z;rw[W]at nd;cases nd
 let L:=e1 _ _ W;exists _,Z,x,aI,dx,_,Z,L,T.cl_Leads,T.na_Leads_pairs,(by show 0<1000;decide);let dZ:∀b o,H1 b=some o->b≠x->(upd H1 x<|HO.ins aI dx [("pairs",.ref ld)]) b=some o:=λb o q ne=>(aV ne).trans q;let nt:∀b xs,H1 b=some (.tup xs)->b≠x:=λb xs q=>eM q L (by intro z;cases z);refine k _ ld m nd (λb ob hb nb=>dZ _ _ (e1 _ _ hb)<|by simpa using nb) ⟨⟨dx,aW⟩,⟨ls,dZ _ _ hL<|Jc fr,bH (λpr v ⟨q,a,e,Y,q2⟩=>⟨q,a,e,dZ _ _ Y<|nt _ _ Y,dZ _ _ q2<|nt _ _ q2⟩) a1⟩⟩ ⟨λi=>C.sp i,?_,λi l hm=>⟨?_,j _ hm⟩,λi t S hg=>?_⟩
 ·have:(m.map (·.1)).Pairwise (· < ·):=by rw[el];exact List.pairwise_lt_range.filter _
  exact List.pairwise_map.mp this
 ·have:i∈m.map (·.1):=Jj.mpr ⟨_,hm,Z⟩;rw[el]at this;exact List.mem_range.mp (List.mem_filter.mp this).1
 ·have:i∈m.map (·.1):=by
   rw[el];refine List.mem_filter.mpr ⟨List.mem_range.mpr S,Yo λz=>?_⟩;let⟨ap,Y,_,q3⟩:=C.row i _<|Yc S;have:ap=[]:=by rw[<- z];simp[List.getD,Y]
   exact hg<|q3.empty.mp this t
  let⟨p,X,e⟩:=Jj.mp this;exact⟨p.2,by rw[<- e];exact X⟩
def z0p(F:bI K "fitting" "Leads.fitting" PU .none f fd)(k:Cq T 1 "goes_into" Pc [] (jL K)):Fq T 2 f fd Ph (tP aI):=bW ["self","term","pair"] F λsc=>by
 walk_at "o";rename_i x a pl m u t;walk_at "h";refine⟨_,(aT (gE (jI (K:=K) rfl<|fO (K:=K) rfl (pv 0) rfl) (eQ 2 sc.nd)<|aR<|cW (lK<|bS k hr<|aL (cX K (pv 2)<|aO)<|aP 1) (aR<|bJ<|pv 2) cZ)
  (aR<|bJ JK)),?_⟩
 let⟨L,ha,tl,m4,O,G,X,k2⟩:=h;let⟨dx,hx⟩:=L.at_;let⟨vs,S,R⟩:=L.pl;let lv:u.length=vs.length:=Paired.length R;exists _,Z,x,aI,dx,_,_,Z,hx,T.cl_Leads,T.na_Leads_pairs,Z,pl,Z,⟨_,aQ.of S⟩;refine vF (K:=K) (a:=pl) (xs:=vs) (λi σ H'=>aJ H H'/\(∃J,σ=[some<|.ref x,some<|.ref a,J])/\∀(j:Nat) p,u[j]?=some p->j<i->dP p.2 t=false) ⟨aJ.refl _,⟨none,Z⟩,λj p _ z=>⋯⟩ (λi σ H' _ h=>aQ.of<|h.1 _ _ S) ?_ ?_
 ·rintro i v σ U hv ⟨r,⟨J,rfl⟩,B⟩;let⟨⟨ix,l⟩,d,q,M,rfl,N,y⟩:=cV R hv;let D:=Yx d;unfold bD
  try dsimp only
  refine⟨_,Z,q,_,1,_,Z,Z,aY.of<|r _ _ N,gH,_,Z,M,a,l,t,Z,aY.of<|r _ _ y,aY.of<|r _ _ ha,(O _ D).trans tl.symm,by rw[O _ D];lia,λW e3=>⟨_,Z,?_⟩⟩;let C:=r.trans e3;refine cB (λc=>?_)<|λc=>?_
  ·refine⟨_,Z,k2 ix l ⟨D,c,λp I Y=>?_⟩ W q M C (C _ _ N)<|C _ _ y⟩;let⟨j,b⟩:=Je.mp I;refine B j p b ?_;rcases Nat.lt_trichotomy j i with n | n | n
   ·exact n
   ·subst n;rw[d]at b;cases b;exact absurd Y<|Nat.lt_irrefl _
   ·have:=List.pairwise_iff_getElem.mp G i j (eR d) (eR b) n;rw[Yc<|eR d]at d;rw[Yc<|eR b]at b;injection d with d
    injection b with b
    rw[d,b]at this;have:ix<p.1:=this;lia
  ·refine⟨C,⟨_,Z⟩,λj p b l'=>?_⟩;rcases Jh j i with n | n
   ·exact B j p b n
   ·have:j=i:=by lia
    subst this;rw[d]at b;cases b;exact c
 ·rintro σ U ⟨r,⟨J,rfl⟩,B⟩;refine X (λp I=>?_) U r;let⟨j,b⟩:=Je.mp I;exact B j p b (by rw[<- lv];exact eR b)
def z0h(F:dN K "divided" NH f fd)(d7:Kq T 9 "Leads" aI ["self","ring","row"] [] (kO aA aB aC aD aE aF aG aI))(d0:Kq T 6 "Waiting" aH ["self","order","terms"] [] (kH aF aD aE aG aH))(j4:Mq T 1 aH "is_empty" Pm [] (tR aH))(f8:Mq T 1 aH "taken" Pm [] (mS aH))(l1:Mq T 2 aI "fitting" Ph [] (tP aI))(f2:Cq T 2 "left_over" Pc [] pH)(g8:Cq T 4 "scaled" Pv [] (lU aA aB aC aD aE aF aG))(j3:Mq T 5 aH "put" Py [] (mW aF aD aE aG aH))(d3:Cq T 4 "absorb" ["ring","total","f"] [] (uB aA aB aC aD aE aF aG))(p4:qE T)(o9:mE T):Fq T 14 f fd P0 (tV aA aB aC aD aE aF aG):=bW ["ring","f","row","leads","quotients","rest","left","waiting","term","fit","divisor","number","over","taken"] F λsc=>by
 walk_at "o";rename_i F fF r f b g cF ds l4 gs e0 φ U J;walk_at "h";let⟨CF,B⟩:=p4 g.n h.1.nb h.1.np;refine⟨_,(aT (bR 3 sc.nd<|xZ d7 hr eW .nil<|cO 0 2)
  (aT (B2 (N:=["divisor"]) (eQ 4 sc.nd) (eK.pl NR) Z (jI (K:=K) rfl<|pv 2) (λC0 s0 H0 q3=>iT (i:=0) NR rfl rfl) (λC0 s0 H0 q3=>gZ)<|λC0 s0 H0 q3=>oP)
  (aT (bR 5 sc.nd oP)
  (aT (bR 6 sc.nd<|oT CM rfl T.b_dict (by kernel_rfl)<|aP 1)
  (aT (bR 7 sc.nd<|xZ d0 hr eW .nil<|aL (fO (K:=K) rfl (pv 0) rfl)<|aP 1)
  (aT (qY PassesOwn.never (oA<|lK<|sO j4 (pv 7) hr eW .nil) (aT (bR 8 sc.nd<|sO f8 (pv 7) hr eW .nil)
  (aR (cW (EJ<|JP (dW hr) (pv 8)<|pv 6) (aT (bR 9 sc.nd<|eV l1 (pv 3) hr eW .nil<|aP 8)
  (aR (cW (bA z0z (pv 9)<|JK) (aR<|sU (dW hr) (pv 5) (pv 8) (FG (dW hr) (pv 6)<|aP 8) rfl) (aT (bR 10 sc.nd<|sK (r:=rF K) E2 (pv 2) (sK (r:=lZ K) yL (pv 9) (aO)<|λ_ _=>Z)<|λ_ _=>Z)
  (aT (bR 11 sc.nd<|eV B.over (fO (K:=K) rfl (pv 0) rfl) hr eW .nil<|aL (E8 (dW hr) (pv 6) (pv 8)<|λ_ _=>Z)<|aL (E8 (dW hr) (pv 10) (sK (r:=lZ K) yL (pv 9) (aO)<|λ_ _=>Z)<|λ_ _=>Z) aU)
  (aT (bR 12 sc.nd<|bS f2 hr<|aL (sK (r:=lZ K) yL (pv 9) (aO)<|λ_ _=>Z)<|aP 8)
  (aT (sU (dW hr) (sK (r:=rF K) E2 (pv 4) (sK (r:=lZ K) yL (pv 9) (aO)<|λ_ _=>Z)<|λ_ _=>Z) (pv 12) (pv 11) rfl)
  (aT (bR 13 sc.nd<|bS g8 hr<|aL (pv 0)<|aL (eV B.against (fO (K:=K) rfl (pv 0) rfl) hr eW .nil<|aP 11)<|cO 12 10)
  (aT (iR<|eV j3 (pv 7) hr eW .nil<|aP 13)
  (aR<|iR<|bS d3 hr<|nQ 0 6 13)))))))))) cZ))))
  (aR<|bJ<|gO<|cO 4 5))))))),?_⟩
 let⟨W,hB,tb,hf,pf,u6,dv,k⟩:=h;let om:=W.om;refine dX λrr D=>?_;refine⟨_,Z,_,Z,λx dx nx u3 ne=>?_⟩;let e1:aJ H (upd (upd H dx<|.own x) x<|.ins aI dx []):=λb o e=>by rw[aV<|eE e nx,aV<|eE e u3];exact e
 refine⟨F,fF,x,dx,r,b,g,cF,ds,l4,gs,Z,aW,W.same e1,hB.same e1,tb,λH2 pl e2 npl k2 l3 LO=>⟨Z,?_⟩⟩;let s2:aJ H H2:=λb o O=>k2 b o (e1 _ _ O) (by simp[eE O nx]);clear k2;dsimp only[bD];subst D;refine dX λrr D=>?_;show aX _ _ _ _ _ _ _ _;refine VZ (K:=K) (b:=b) (xs:=ds.map V.ref) (aQ.of (hB.same s2).at_) (by rw[Yd];exact hB.b) (λR W=>⟨_,Z,W⟩) ⟨none,Z⟩ λql H3 a0 nql e3 t2 lq ndq g9=>?_;rw[Yd]at lq;dsimp only[bD];subst D;refine dX λrr D=>?_;intro rd g1;let⟨H4,uq,e4,h8⟩:=cS g1<|.dT [];rw[uq];clear uq;let s4:=(s2.trans e3).trans e4;dsimp only[bD];subst D;refine dX λrr D=>?_;refine⟨_,Z,f,e0,Z,s4 _ _ hf,u6,λS d9=>?_⟩;let⟨H5,uq,e5,i1⟩:=cS d9<|.dT e0;rw[uq];clear uq;let s5:=s4.trans e5;let n6:=W.same s5;let⟨dr,r2⟩:=n6.at_;dsimp only[bD];subst D;refine dX λrr D=>?_;refine⟨_,Z,r,aA,dr,_,_,Z,r2,T.cl_Ring,T.na_Ring_order,Z,_,Z,λwx j5 k8 n9 newx=>?_⟩;let e6:aJ H5 (upd (upd H5 j5<|.own wx) wx<|.ins aH j5 []):=λb o e=>by rw[aV<|eE e k8,aV<|eE e n9];exact e
 let s6:=s5.trans e6;let U6:U.length<=1000000:=dv.b;let lfv:e0.length<=U.length:=D6 pf dv.f;let s9:g.po≠wx:=λz=>by let⟨C0,O0⟩:=o9 g.kd g.ws W.k0 W.k4 W.wn W.wb;let⟨dO,fo,hO,_⟩:=O0.oC.ins n6.od;rw[z,k8]at hO;cases hO
 refine⟨wx,j5,f,g.po,g.kd,g.ws,g.m,fQ e0,e0,Z,aW,s9,W.k0,W.k4,W.wn,W.wb,W.m1,W.m4,(W.same s6).od,s6 _ _ hf,pf.keys,λt ht=>dv.ok t<|dv.f t<|pf.tmem.mp ht,gY _<|by rw[qH];lia,λH7 kn qq ks us n7 p9 k7 o8 o5 mu mk lk lu=>⟨Z,?_⟩⟩;let d4:aJ H5 H7:=λb o O=>k7 b o (e6 _ _ O) (by simp[eE O k8]);let s7:=s5.trans d4;let b9:H5 kn=none:=by
  cases z:H5 kn with
  | none=>rfl
  | some o=>rw[e6 _ _ z]at n7;cases n7
 let f6:H5 qq=none:=by
  cases z:H5 qq with
  | none=>rfl
  | some o=>rw[e6 _ _ z]at p9;cases p9
 dsimp only[bD];subst D;let j2:aJ H2 H7:=((e3.trans e4).trans e5).trans d4;let⟨vsp,m6,_⟩:=l3.pl;let l6:=e5 _ _<|e4 _ _<|e3 _ _ m6;let h5:=e5 _ _<|e4 _ _ t2;let h9:=e5 _ _ h8;let l7:∀d∈a0,H5 d=some (.dT []):=λd hd=>e5 _ _<|e4 _ _ (g9 d hd).2.1;let a4:S≠rd:=λz=>by rw[z,h8]at d9;cases d9
 let b8:S∉a0:=λz=>by rw[e4 _ _ (g9 S z).2.1]at d9;cases d9
 let f5:rd∉a0:=λz=>by rw[(g9 rd z).2.1]at g1;cases g1
 let a7:kn≠S:=λz=>by rw[z,i1]at b9;cases b9
 let c6:kn≠rd:=λz=>by rw[z,h9]at b9;cases b9
 let a3:kn∉a0:=λz=>by rw[l7 kn z]at b9;cases b9
 let a5:qq≠ql:=λz=>by rw[z,h5]at f6;cases f6
 let c2:qq≠pl:=λz=>by rw[z,l6]at f6;cases f6
 let i2:H S=none:=s4.free d9;let i0:H rd=none:=(s2.trans e3).free g1;let p1:H kn=none:=s5.free b9;let i5:H qq=none:=s5.free f6;let o2:∀d∈a0,H d=none:=λd hd=>s2.free (g9 d hd).1;obtain⟨C,eC⟩:∃C:DC,C=⟨r,f,b,x,pl,ql,rd,S,wx,kn,qq,a0⟩:=⟨_,Z⟩;let W0:IA aI aH C g ds.length φ gs e2 U J H (U.length-0) [some<|.ref r,some<|.ref f,some<|.ref b,some<|.ref x,some<|.ref ql,some<|.ref rd,some<|.ref S,some<|.ref wx,none,none,none,none,none,none] H7:=by subst eC;refine⟨none,none,none,none,none,none,ks,us,[],λ_=>0,φ,[],e0,Z,Z,s7,l3.keep (.of j2)<|λo=>j2 _ o,⟨d4 _ _ h5,λd hd=>⟨[],d4 _ _<|l7 d hd,Yi _⟩⟩,d4 _ _ h9,PF.nil,d4 _ _ i1,pf.same s7,o8,iZ.start o5 (λz hz=>(mu z).mpr (pf.tmem.mpr hz))<|λz hz=>?_,λz=>by rw[mk,mu];simp,dv.j0⟩;have:=pf.tmem.mp<|(mu z).mp hz;exact⟨dv.f z this,pf.sp z this⟩
 exists IA aI aH C g ds.length φ gs e2 U J H,⟨_,W0⟩;clear W0 o8 o5 mu mk lk lu j2;rintro mm σ H8 ⟨v8,v9,v10,v11,v12,v13,ks,us,Dn,ρ,lf,a1,X,rfl,rfl,I⟩;subst eC;dsimp only at I ⊢;let⟨dw,hw⟩:=I.wa.at_;refine⟨_,Z,wx,dw,_,Z,hw,xV _ nofun nofun nofun,wx,g.po,kn,qq,g.rk,ks,us,Z,I.wa,λH9 e9=>⟨_,Z,?_⟩⟩;let I:=I.same e9;show if (!decide (us=[]))=true then _ else _
 by_cases hus:us=[]
 ·subst hus;rw[Yo rfl];refine cA ⟨_,Z,_,Z,(by show 2<=sizeLine;decide),λp np=>?_⟩;let eP:aJ H9 (upd H9 p<|.tup [.ref ql,.ref rd]):=aJ.upd np;let I:=I.same eP;exact k _ p ql rd ρ e2 a1 I.sm aW I.rst I.rp LO (λt h=>⟨(I.dv.inU t<|.inr (I.dv.ri t h).1).2,(I.dv.ri t h).2⟩) i0 ⟨_,lf,z3s I.dv,I.dv.done,I.j⟩
 rw[Yw hus];let⟨b5,t,rfl⟩:=SK hus;refine dQ ⟨λm2 H'=>∃m',m'<U.length-Dn.length/\IA aI aH ⟨r,f,b,x,pl,ql,rd,S,wx,kn,qq,a0⟩ g ds.length φ gs e2 U J H m' m2 H',λm2 H' h=>h,?_⟩;let f7:=z3f I.dv;refine dX λrr D=>?_;let⟨dw,hw⟩:=I.wa.at_;refine⟨_,Z,wx,dw,_,Z,hw,xV _ nofun nofun nofun,wx,g.po,kn,qq,g.rk,ks,b5,t,Z,I.wa,λHA a kA b6 ha=>?_⟩;dsimp only[bD];subst D;let⟨vsq,a8,_⟩:=I.wa.ql;let b0:∀b o,H9 b=some o->b≠qq->HA b=some o:=λb o O nb=>kA b o O (by simp[nb]);let fA:cR H9 HA:=kA.fix λy hy o L=>by rw[Yq.mp hy,a8]at L;cases L;exact .inr<|.inl ⟨_,Z⟩
 let sA:aJ H HA:=λb o O=>b0 _ _ (I.sm _ _ O)<|eE O i5;let a2:HA S=some (.dT X):=b0 _ _ I.lft<|eM I.lft a8 (by intro z;cases z);let c1:HA rd=some (.dT a1):=b0 _ _ I.rst<|eM I.rst a8 (by intro z;cases z);let b7:=I.le.keep fA<|λo L=>b0 _ _ L<|Jc c2;let k5:(Dn++[t]).length=Dn.length+1:=by simp
 let d1:=I.qt.keep (M:=(Dn++[t]).length) ⋯ (λo L=>b0 _ _ L<|Jc a5) (λd hd o L=>by let⟨kv,h1,_⟩:=I.qt.row d hd;exact b0 _ _ L<|eM h1 a8<|by intro z;cases z)
 let g6:=I.rp.fix fA;let d5:=I.lp.fix fA;let a9:∀z,z∈ks↔z∈b5\/z∈Dn++[t]:=λz=>by
  rw[I.km];simp only[List.mem_append,List.mem_singleton];constructor
  ·rintro((h | h) | h)
   ·exact .inl h
   ·exact .inr<|.inr h
   ·exact .inr<|.inl h
  ·rintro(h | h | h)
   ·exact .inl<|.inl h
   ·exact .inr h
   ·exact .inl<|.inr h
 let j8:U.length-(Dn++[t]).length<U.length-Dn.length:=by rw[Y6];simp;lia
 let tU:=I.dv.inU t<|.inl (by simp);exists _,Z,_,Z,S,_,Z,fM.t (k:=ky t) a2<|by rw[hZ];exact ha,_,Z
 cases hval:bK X (ky t) with
 | none=>
  let l0:lf t=0:=Classical.byContradiction λz=>by let⟨v,h1,_⟩:=d5.get z;rw[hval]at h1;cases h1
  exact cA ⟨_,j8,_,_,_,_,_,_,ks,b5,Dn++[t],ρ,lf,a1,X,Z,Z,sA,b7,d1,c1,g6,a2,d5,b6,I.dv.skip l0,a9,by rw[k5];exact dv.js _ _ _ f7 I.j⟩
 | some v=>
 let⟨rv,g2⟩:=d5.val t v hval;refine dQ ?_;refine dX λrr D=>?_;let⟨r7,t7⟩:=b7.at_;let q6:∀p∈e2,p.2.length=g.m:=λp hp=>(LO.t0 (i:=p.1) (l:=p.2) hp).len;refine⟨_,Z,x,r7,_,Z,t7,?_,_,Z,x,a,pl,g.m,e2,t,Z,b7,ha,tU.2.len,W.m4,q6,LO.inc,λnf HB eB=>?_,λi l ft HB qf a' eB h4 p7=>?_⟩
 ·exact z2v _ nofun
 ·dsimp only[bD];subst D;refine⟨_,Z,Z,_,Z,dQ ?_⟩;let Y:=eB _ _ a2;let c8:=eB _ _ c1;let f9:=eB _ _ ha;let sB:=sA.trans eB;let lrv:a1.length<=U.length:=D6 g6 λz hz=>(I.dv.inU z<|.inr (I.dv.ri z hz).1).1;refine⟨_,Z,.inr<|.inr<|.inl ⟨Z,.inr ⟨_,Y⟩⟩,_,Z,S,a,X,ky t,v,Z,Z,Y,by rw[hZ];exact f9,hval,?_⟩;let fC:cR HB (upd HB S<|.dT<|kG X<|ky t):=jZ Y;let kC:∀b o,HB b=some o->b≠S->(upd HB S<|.dT<|kG X<|ky t) b=some o:=λb o O nb=>(aV nb).trans O;let h7:(upd HB S<|HO.dT<|kG X<|ky t) S=some (.dT<|kG X<|ky t):=aW
  try dsimp only
  generalize upd HB S (HO.dT<|kG X<|ky t)=HC at fC kC h7;let i3:=kC _ _ c8<|Jc a4;exists _,Z,_,Z,rd,_,Z,hJ.t (k:=ky t) i3 (by rw[hZ];exact fC.tup _ _ f9)<|gY _ ⋯;let fD:cR HC (upd HC rd<|.dT<|bE a1 (ky t) v):=jZ i3;let kD:∀b o,HC b=some o->b≠rd->(upd HC rd<|.dT<|bE a1 (ky t) v) b=some o:=λb o O nb=>(aV nb).trans O;let i7:(upd HC rd<|HO.dT<|bE a1 (ky t) v) rd=some (.dT<|bE a1 (ky t) v):=aW;generalize upd HC rd (HO.dT<|bE a1 (ky t) v)=HD at fD kD i7;let u1:=fC.tr fD;let d2:∀b o,HB b=some o->b≠S->b≠rd->HD b=some o:=λb o O n1 n2=>kD _ _ (kC _ _ O n1) n2;let f1:=(cR.of eB).tr u1;let⟨o7,c5,_⟩:=(b6.same eB).ql;let⟨i6,c3,_⟩:=(b7.keep (.of eB)<|λo=>eB _ o).pl;exact⟨_,j8,_,_,_,_,_,_,ks,b5,Dn++[t],_,_,_,_,Z,Z,λb o O=>d2 _ _ (sB _ _ O) (eE O i2)<|eE O i0,b7.keep f1<|λo L=>d2 _ _ (eB _ _ L) (λz=>by let z:pl=S:=z;rw[z,Y]at c3;cases c3) (λz=>by let z:pl=rd:=z;rw[z,c8]at c3;cases c3),
   d1.keep (Yi _) (λo L=>d2 _ _ (eB _ _ L) (λz=>by let z:ql=S:=z;have:=eB _ _ d1.at_;dsimp only at this;rw[z,Y]at this;cases this) (λz=>by let z:ql=rd:=z;have:=eB _ _ d1.at_;dsimp only at this;rw[z,c8]at this;cases this)) (λd hd o L=>d2 _ _ (eB _ _ L) (λz=>b8<|by rw[<- z];exact hd)<|λz=>f5<|by rw[<- z];exact hd),
   i7,(g6.fix f1).put tU.2 (bY.fix f1 rv) g2,kD _ _ h7 a4,(d5.fix f1).drop t,b6.fix f1 (λo L=>d2 _ _ (eB _ _ L) a7 c6)<|λo L=>d2 _ _ (eB _ _ L) (λz=>by let z:qq=S:=z;rw[z,Y]at c5;cases c5) (λz=>by let z:qq=rd:=z;rw[z,c8]at c5;cases c5),I.dv.rest nf,a9,by rw[k5];exact dv.jr _ _ _ _ f7 I.j tU.1 (I.dv.lead g2) (λi l hl=>nf _<|LE LO hB.out hl)<|Classical.byContradiction λz=>I.dv.base.2.2.2.2 (I.dv.ri t z).1⟩
 ·dsimp only[bD];subst D;let sB:=sA.trans eB;have ⟨ik,hl⟩:=LO.ld i l ft.mem;let l8:=hB.same sB;let g5:ds[i]?=some ds[i]:=Yc ik;let⟨r1,hki,m5,r9⟩:=l8.row i _ g5;let q2:iO (ds.map V.ref) (i:Int)=some (.ref ds[i]):=iC (by rw[Ym,g5];rfl);generalize ds[i]=d at g5 m5 q2;refine⟨_,Z,Z,_,Z,cA ?_⟩;refine dX λrr D=>?_;exists _,Z,_,Z,qf,_,0,_,Z,Z,aY.of h4,gJ,b,_,_,_,Z,Z,aQ.of l8.at_,q2;dsimp only[bD];subst D;refine dX λrr D=>?_;let⟨vd,s8,t8⟩:=r9.get hl.1;let k3:=W.same sB;let⟨dr,u2⟩:=k3.at_;let⟨dF,hF⟩:=B.ins k3.fd;let f9:=eB _ _ ha;let Y:=eB _ _ a2;refine⟨_,Z,r,aA,dr,_,_,Z,u2,T.cl_Ring,T.na_Ring_field,Z,g.pf,dF,_,Z,hF,jO _ _ nofun,_,Z,_,Z,S,v,Z,.inr ⟨X,ky t,a,.inl Y,Z,by rw[hZ];exact f9,hval.symm⟩,_,Z,_,Z,qf,_,1,_,Z,Z,aY.of h4,gH,d,vd,Z,.inr ⟨r1,ky l,a',.inl m5,Z,by rw[hZ];exact p7,s8.symm⟩,F,fF,cF,g.pf,v,vd,lf t,gs i l,Z,k3.fd,bY.fix (.of eB) rv,t8,dv.jl _ _ _ (Nat.le_of_lt f7) I.j t,dv.gl i l,hl.1,λxq vq HC p3 eC rq=>?_⟩;dsimp only[bD];subst D;refine dX λrr D=>?_;let⟨lx,m3,cl,jq⟩:=dv.jq Dn.length lf ρ t i l xq f7 I.j tU.1 (I.dv.lead g2) hl ft.goes (λj l' hj r8=>ft.first _ (LE LO hB.out r8) hj) p3;let l0:=LO.t0 ft.mem;let o0:=T0.sub tU.2 l0 ft.goes;refine⟨_,Z,qf,_,1,_,Z,Z,aY.of<|eC _ _ h4,gH,_,Z,a',a,l,t,Z,eC _ _ p7,eC _ _ f9,by rw[l0.len,tU.2.len],by rw[l0.len];have:=W.m4;lia,ft.goes,λov HD eD q4=>?_⟩;dsimp only[bD];subst D;refine dX λrr D=>?_;let a6:aJ HA HD:=(eB.trans eC).trans eD;let sD:=sA.trans a6;let m8:=eD _ _<|eC _ _ h4;let n8:=I.qt.keep (H':=HD) (Yi _) (λo L=>a6 _ _<|b0 _ _ L<|Jc a5)<|λd hd o L=>a6 _ _ (by let⟨kv,h1,_⟩:=I.qt.row d hd;exact b0 _ _ L<|eM h1 a8<|by intro z;cases z);let j1:a0[i]?=some (a0[i]'(by rw[lq];exact ik)):=Yc _;generalize a0[i]'(by rw[lq];exact ik)=qd at j1;let c0:qd∈a0:=Yx j1;let⟨d8,c9,lkq⟩:=n8.row qd c0;let u5:iO (a0.map V.ref) (i:Int)=some (.ref qd):=iC (by rw[Ym,j1];rfl);exists _,Z,_,Z,_,Z,qf,_,0,_,Z,Z,aY.of m8,gJ,ql,_,_,_,Z,Z,aQ.of n8.at_,u5,_,Z,qd,_,Z,hJ.t (k:=ky<|aZ t l) c9 (by rw[hZ];exact q4)<|gY _ ⋯;let fE:cR HD (upd HD qd<|.dT<|bE d8 (ky<|aZ t l) vq):=jZ c9;let kE:∀b o,HD b=some o->b≠qd->(upd HD qd<|.dT<|bE d8 (ky<|aZ t l) vq) b=some o:=λb o O nb=>(aV nb).trans O;let i8:(upd HD qd<|HO.dT<|bE d8 (ky<|aZ t l) vq) qd=some (.dT<|bE d8 (ky<|aZ t l) vq):=aW;generalize upd HD qd (HO.dT<|bE d8 (ky<|aZ t l) vq)=HE at fE kE i8;show rr _ _ _;subst D;refine dX λrr D=>?_;let sE:aJ H HE:=λb o O=>kE _ _ (sD _ _ O) (λz=>by rw[z,o2 qd c0]at O;cases O);let j6:=W.same sE;let⟨t1,t5⟩:=j6.at_;let⟨r5,u7⟩:=B.ins j6.fd;let r6:=bY.fix ((cR.of eD).tr fE) rq;refine⟨_,Z,_,Z,r,aA,t1,_,_,Z,t5,T.cl_Ring,T.na_Ring_field,Z,g.pf,r5,_,Z,u7,jO _ _ nofun,_,Z,F,fF,cF,g.pf,vq,xq,Z,j6.fd,r6,λvn HF eF rn=>?_⟩;let sF:=sE.trans eF;let o3:=hB.same sF;let⟨h6,hki',u4,l5⟩:=o3.row i d g5;let q7:h6.length<=U.length:=SH (l:=aZ t l) o0.len l5 λu hu=>by let u0:=o3.sp i u hu;rw[jX<|u0.len.trans o0.len.symm];exact cl u hu
  refine⟨_,Z,_,Z,F,fF,r,vn,ov,d,g,cF,h6,-xq,aZ t l,gs i,Z,W.same sF,rn,lx.neg,eF _ _<|fE.tup _ _ q4,o0,u4,l5,dv.gl i,gY _ ⋯,λtd HG d6 l2 eG k6 g4 t4=>?_⟩;dsimp only[bD];subst D;refine dX λrr D=>?_;let sG:=sF.trans eG;let j9:=eF.trans eG;let q0:cR HA HG:=((cR.of a6).tr fE).tr (.of j9);let g3:∀b o,HA b=some o->b≠qd->HG b=some o:=λb o O nb=>j9 _ _<|kE _ _ (a6 _ _ O) nb;let⟨o7,f3,_⟩:=b6.ql;let c7:qq≠qd:=λz=>by have:=a6 _ _ f3;rw[z,c9]at this;cases this
  let g7:Wa aH g.rk HG wx g.po kn qq ks b5:=b6.fix q0 (λo L=>g3 _ _ L<|λz=>a3<|by rw[z];exact c0)<|λo L=>g3 _ _ L c7;let⟨r4,u8⟩:=g7.at_;let r0:∀z,sh (aZ t l) (gs i) z≠0->z∈U:=λz hz=>by let⟨_,_,nz,e⟩:=xS o0 (LO.sp i) hz;rw[e];exact cl _ nz
  let q5:∀z,(-xq*sh (aZ t l) (gs i) z≠0)↔sh (aZ t l) (gs i) z≠0:=λz=>by
   constructor
   ·intro h e;apply h;rw[e];grind
   ·intro h e;apply h;grind
  let⟨kvk,o6,ekG⟩:=g7.kn;let i4:td≠kn:=λz=>by
   have:HF kn≠none:=by let⟨k1,h0,_⟩:=b6.kn;rw[eF _ _<|kE _ _ (a6 _ _ h0)<|λz=>a3<|by rw[z];exact c0];intro z;cases z
   rw[z]at l2;exact this l2
  let⟨b1,b2,b3,b4,tn⟩:=I.dv.base;let lks:ks.length<=U.length:=oG b6.nd λz hz=>(b4 z<|(a9 z).mp hz).1;let t6:b5.Nodup:=List.Pairwise.imp (fun{a b} (h:G.lt g.rk a b) (e:a=b)=>by subst e;exact lt_irrefl h) b1;let lus:b5.length<=U.length:=oG t6 λz hz=>(b4 z<|.inl hz).1;let s3:d6.length<=U.length:=Yr t4 q7;let ltt:(fQ d6).length<=U.length:=by rw[qH];exact s3
  refine⟨_,Z,wx,r4,_,Z,u8,xV _ nofun nofun nofun,_,Z,wx,td,g.po,kn,qq,g.kd,g.ws,g.m,ks,b5,fQ d6,d6,Z,W.k0,W.k4,W.wn,W.wb,W.m1,W.m4,(W.same sG).od,g7,k6,g4.keys,λz hz=>dv.ok z<|r0 z<|(q5 z).mp (g4.tmem.mp hz),i4,b1,λz hz=>⟨(a9 z).mpr (.inl hz),(b4 z<|.inl hz).2⟩,gY _ ⋯,gY _ ⋯,λHI r3 t9 kI q1 q9 p2 t3 lkI luI=>?_⟩;show rr _ _ _;subst D;let o1:∃kv,HA kn=some (.dT kv):=let ⟨k1,h0,_⟩:=b6.kn;⟨k1,h0⟩;let⟨vsqG,f0,_⟩:=g7.ql;let g0:∀b o,HG b=some o->b≠kn->b≠qq->HI b=some o:=λb o O n1 n2=>kI b o O (by simp[n1,n2]);let l9:cR HG HI:=kI.fix λy hy o L=>by
   rcases Yj.mp hy with z | z
   ·rw[z,o6]at L;cases L;exact .inl ⟨_,Z⟩
   ·rw[Yq.mp z,f0]at L;cases L;exact .inr<|.inl ⟨_,Z⟩
  let m0:=q0.tr l9;let sI:aJ H HI:=λb o O=>g0 _ _ (sG _ _ O) (eE O p1)<|eE O i5;let e7:S≠qd:=λz=>b8 (by rw[z];exact c0);let n0:rd≠qd:=λz=>f5 (by rw[z];exact c0);let i9:HG S=some (.dT X):=g3 _ _ a2 e7;let f4:HI S=some (.dT X):=g0 _ _ i9 (Jc a7)<|eM i9 f0 (by intro z;cases z);let p5:HI td=some (.dT d6):=g0 _ _ k6 i4<|eM k6 f0 (by intro z;cases z);let p0:S≠td:=λz=>by have:=eF _ _<|kE _ _ (a6 _ _ a2) e7;rw[z,l2]at this;cases this
  let llv:X.length<=U.length:=D6 d5 λz hz=>(I.dv.inU z<|.inl<|I.dv.lft z hz).1;refine⟨_,Z,_,Z,_,Z,F,fF,r,S,td,g,cF,X,d6,lf,_,Z,W.same sI,p0,f4,p5,d5.fix m0,g4.fix l9,gY _ ⋯,dv.jl _ _ _ (Nat.le_of_lt f7) I.j,λz=>?_,λHJ n5 kJ p8 s1 llJ=>?_⟩
  ·show cL g.n 8900 (-xq*sh (aZ t l) (gs i) z);have:cL g.n 8900 (xq*sh (aZ t l) (gs i) z):=by
    unfold sh;split
    ·exact m3 _
    ·let q:=(m3 l).zero';rw[show xq*(0:F)=0 by grind];exact q
   let q:=this.neg;rwa [show -(xq*sh (aZ t l) (gs i) z)=-xq*sh (aZ t l) (gs i) z by grind]at q
  let e8:∀b o,HI b=some o->b≠S->HJ b=some o:=λb o O nb=>kJ b o O (by simp[nb]);let m9:cR HI HJ:=kJ.fix λy hy o L=>by rw[Yq.mp hy,f4]at L;cases L;exact .inl ⟨_,Z⟩
  let o4:=m0.tr m9;let k9:∀b o,HA b=some o->b≠qd->b≠kn->b≠qq->b≠S->HJ b=some o:=λb o O n1 n2 n3 n4=>e8 _ _ (g0 _ _ (g3 _ _ O n1) n2 n3) n4;let lst:∀{y:Lh} {ys:Lg},HA y=some (.lst ys)->y≠qq->HJ y=some (.lst ys):=fun{y ys} hy nq=>by let⟨k1,h0⟩:=o1;refine k9 _ _ hy (λz=>?_) (eM hy h0<|by intro z;cases z) nq<|eM hy a2 (by intro z;cases z);have:=a6 _ _ hy;rw[z,c9]at this;cases this
  let⟨i6,c4,_⟩:=b7.pl;let m7:HJ rd=some (.dT a1):=k9 _ _ c1 n0 (Jc c6) (eM c1 f3<|by intro z;cases z)<|Jc a4;refine⟨_,j8,_,_,_,_,_,_,r3,t9,Dn++[t],ρ,_,a1,n5,Z,Z,λb o O=>e8 _ _ (sI _ _ O)<|eE O i2,b7.keep o4 (λo L=>by let c4:HA pl=some (.lst i6):=c4;rw[c4]at L;cases L;exact lst c4<|Jc c2),⟨lst d1.at_<|Jc a5,λdj j7=>?_⟩,m7,g6.fix o4,p8,s1.congr λz=>?_,(q1.fix m9 (λo L=>e8 _ _ L a7) (λo L=>e8 _ _ L (λz=>by let⟨v0,h0,_⟩:=q1.ql;let z:qq=S:=z;rw[z,f4]at h0;cases h0))),I.dv.quot om LO g2 ft p3 cl q9<|λz=>?_,λz=>?_,by rw[k5];exact jq⟩
  ·by_cases c:dj=qd
   ·subst c;exists _,e8 _ _ (g0 _ _ (j9 _ _ i8) (λz=>a3<|by rw[<- z];exact c0)<|Jc c7)<|Jc e7;have:=sZ d8 (ky<|aZ t l) vq;lia
   ·let⟨q8,h1,h2⟩:=d1.row dj j7;exact⟨q8,k9 _ _ h1 c (λz=>a3<|by rw[<- z];exact j7) (eM h1 f3<|by intro z;cases z)<|λz=>b8<|by rw[<- z];exact j7,h2⟩
  ·show lf z + -xq*sh (aZ t l) (gs i) z=lf z-xq*sh (aZ t l) (gs i) z;grind
  ·rw[p2,g4.tmem,q5,a9];constructor
   ·rintro(h | ⟨h1,h2⟩)
    ·exact .inl h
    ·exact .inr ⟨h1,λz=>h2<|.inl z,λz=>h2<|.inr z⟩
   ·rintro(h | ⟨h1,h2,h3⟩)
    ·exact .inl h
    ·exact .inr ⟨h1,λw=>w.elim h2 h3⟩
  ·rw[t3,p2,a9];constructor
   ·rintro((h | h) | h)
    ·exact .inl<|.inl h
    ·exact .inr h
    ·by_cases c:z∈ks
     ·rcases(a9 z).mp c with w | w
      ·exact .inl<|.inl w
      ·exact .inr w
     ·exact .inl<|.inr ⟨h,λw=>c<|(a9 z).mpr w⟩
   ·rintro((h | ⟨h,_⟩) | h)
    ·exact .inl<|.inl h
    ·exact .inr h
    ·exact .inl<|.inr h
def z21(F:dN K "brought_down" O7 f fd)(a:Cq T 14 "divided" P0 [] (tV aA aB aC aD aE aF aG)):Fq T 15 f fd P0 (zO aA aB aC aD aE aF aG):=bW ["ring","f","row"] F λsc=>by walk_at "o";rename_i F C r f b g B ds c gs i φ U J;walk_at "h";exists _,(aR<|bJ<|cX K (bS a hr<|nQ 0 1 2)<|aO);let⟨u,y,tb,G,v,m,dv,k⟩:=h;refine⟨_,Z,_,Z,_,Z,F,C,r,f,b,g,B,ds,c,gs,i,φ,U,J,Z,u,y,tb,G,v,m,dv,λH' p ql rd z j d e D l x lo dd n q=>?_⟩;exact⟨p,_,1,_,Z,Z,aY.of D,gH,k H' rd z j d e l x lo dd n q⟩
def VR(F:dN K "alone" KW f fd):Fq T 1 f fd P7 jN:=bW ["many","at","power"] F λsc=>by
 walk_at "o";rename_i m a p;walk_at "h";exists _,(aR<|bJ<|mJ K T.b_tuple<|aL (iB (N:=["place","at","power"]) (cl:=[("power",s.heap.objs.size+2),("at",s.heap.objs.size+1)]) (mp:=[none,some 1,some 2]) (eK.of rfl nofun rfl nofun QM (iD rfl<|iD rfl lM) (lI (fs:=["power","at"]) rfl nofun) rfl (kZ<|iE rfl (.inl rfl) rfl<|iE rfl (.inl rfl) rfl lL)) rfl (iI rfl T.b_range<|aP 0) (λr n d b=>iT (i:=0) QM rfl rfl) (λr n d b=>gZ)<|λr n d b=>MF (bA hY (pv 0)<|pv 1) (pv 2)<|aO) aU);let⟨m1,m2,a0,k⟩:=h;show aX _ _ _ _ _ _ _ _;refine NS (H1:=H) m (λσ=>∃v,σ=[v,some<|.int a,some<|.int p]) (λ_=>true) (λi=>.int<|if i=a.toNat then p else 0) ⋯ ⋯ ?_ ⟨none,Z⟩ ?_ λD H' e j=>?_
 ·exact λR x=>⟨_,Z,x⟩
 ·rintro i σ' y hi ⟨z,rfl⟩ e Ny Nn B hn;unfold bD eH
  try dsimp only
  rw[Yl Z];let q:=B [some<|.int<|0+(i:Int),some<|.int a,some<|.int p] y ⟨_,Z⟩ (aJ.refl _) rfl;refine⟨_,Z,_,Z,Z,_,Z,jF (λc=>?_)<|λc=>?_⟩
  ·rw[Yl ⋯]at q;exact⟨_,Z,q⟩
  ·rw[Yh ⋯]at q;exact q
 rw[Yu.mpr<|λ_ _=>Z]at j;refine⟨D,_,Z,.inl ⟨aQ.of j,λl u=>k l _ (e.updR<|e.free u) ?_⟩⟩;rw[aW];unfold only;rw[Ji];rfl
def UY(F:bI K "unit" "Ring.unit" OD .none f fd):Fq T 1 f fd Pm (oW aA):=bW ["self"] F λsc=>by
 walk_at "o";rename_i r m pf po;walk_at "h";exists _,(aR<|bJ<|bB S7 (gO<|aL aO aU)<|fO (K:=K) rfl (pv 0) rfl);let⟨⟨i,a⟩,c,m2,k⟩:=h;refine⟨(by show 1<=sizeLine;decide),λt0 b=>?_⟩;let e1:aJ H (upd H t0<|HO.tup [V.int 0]):=aJ.upd b;exists _,Z,r,aA,i,_,_,Z,e1 _ _ a,T.cl_Ring,T.na_Ring_many,Z;refine⟨t0,[.int 0],m,Z,Z,aY.of aW,by simp,c,⋯,by simp;lia,λe=>?_,λh2 p d=>?_⟩
 ·subst e;exact k t0 _ e1 aW
 ·rw[EX];exact k p _ (e1.updR<|e1.free d) aW
def z3i(F:dN K "is_power_alone" QW f fd)(b:Cq T 1 "degree" ["term"] [] (nE K)):Fq T 2 f fd ["term","at"] (zN K):=bW ["term","at"] F λsc=>by walk_at "o";rename_i a i xs;walk_at "h";exists _,(aR<|bJ<|kR hY (bS b hr<|aP 0)<|cX K (pv 0)<|pv 1);let⟨c,d,k⟩:=h;walk_at "rd";exists a,xs,Z,c;exists _,Z,_,Z,a,_,_,_,Z,Z,c,FQ d,Z;rw[EQ];exact k
def S1(F:dN K "is_outside" OM f fd)(a:Cq T 1 "goes_into" Pc [] (jL K)):Fq T 2 f fd ["leads","term"] pD:=bW ["leads","term"] F λsc=>by
 walk_at "o";rename_i l t m ys j x;walk_at "h";exists _,(aR<|bJ<|IU<|gU (F3 (K:=K) rfl rfl) rfl T.b_any (by kernel_rfl)<|aL (iB (N:=["lead","term"]) (cl:=[("term",s.heap.objs.size+1)]) (mp:=[none,some 1]) (eK.of rfl nofun rfl nofun OQ (iD rfl lM) (lI (fs:=["term"]) rfl nofun) rfl (kZ<|iE rfl (.inl rfl) rfl lL)) rfl (jI (K:=K) rfl<|pv 0) (λI G u d=>iT (i:=0) OQ rfl rfl) (λI G u d=>gZ)<|λI G u d=>bS a hr<|cO 0 1) aU);let⟨m4,c,S,Y,k⟩:=h;show aX _ _ _ _ _ _ _ _;refine vH (J:=lF K l) (H1:=H) (oQ<|aQ.of c.at_) c.b ?_ (λσ=>∃v,σ=[v,some<|.ref t]) (λ_=>true) (λi=>.bl<|dP (j.getD i []) x) ⟨none,Z⟩ ?_ λD H' e y=>?_
 ·exact λR O=>⟨_,Z,l,Z,⟨_,aQ.of c.at_⟩,O⟩
 ·rintro i v σ' H2 hi ⟨z,rfl⟩ n X Ny Nn hy hn;let⟨C,r,L,rfl,p,B⟩:=(c.same n).get X;unfold bD eH
  try dsimp only
  rw[Yl Z];refine⟨_,Z,_,Z,r,t,C,x,Z,aY.of p,aY.of<|n _ _ S,by rw[B.len,Y.len],by rw[B.len];lia,λM W=>?_⟩;let q:=hy [some<|.ref r,some<|.ref t] M ⟨_,Z⟩ W rfl;let U:j.getD i []=C:=by simp[List.getD,L]
  rw[U]at q;exact q
 rw[Yu.mpr<|λ_ _=>Z]at y;exists D,(List.range ys.length).map λi=>dP (j.getD i []) x,Z,aQ.of (by rw[y,Ji];rfl);let n:((List.range ys.length).map λi=>dP (j.getD i []) x).any id=j.any λh=>dP h x:=by rw[<- c.len];exact FW (f:=λh=>dP h x)
 rw[n];exact⟨_,Z,k _ e⟩
def UG(F:dN K "outside" NC f fd)(c:Cq T 2 "is_outside" ["leads","term"] [] pD):Fq T 3 f fd ["leads","terms"] pC:=bW ["leads","terms"] F λsc=>by
 walk_at "o";rename_i l t m ys zs y u;walk_at "h";exists _,(aR<|bJ<|iB (N:=["term","leads"]) (cl:=[("leads",s.heap.objs.size+1)]) (mp:=[none,some 0]) (eK.of rfl nofun rfl nofun PJ (iD rfl lM) (lI (fs:=["leads"]) rfl nofun) rfl (kZ<|iE rfl (.inl rfl) rfl lL)) rfl (jI (K:=K) rfl<|pv 1) (λS M I n=>iT (i:=0) PJ rfl rfl) (λS M I n=>FE<|lK<|bS c hr<|cO 1 0)<|λS M I n=>pv 0);let⟨m4,W,d,k⟩:=h;show aX _ _ _ _ _ _ _ _;refine sY (J:=lF K t) (H1:=H) (oQ<|aQ.of d.at_) d.b ?_ (λσ=>∃v,σ=[v,some<|.ref l]) (λi=>dL y<|u.getD i []) (λi v H'=>fX H' (u.getD i []) v) (λi v H1 H2 e h=>h.same e) (λi v H1 a y1 y2 ha h=>yO ha h) ⟨none,Z⟩ ?_ λD H' us U e hL O=>?_
 ·exact λR Y=>⟨_,Z,t,Z,⟨_,aQ.of d.at_⟩,Y⟩
 ·rintro i v σ' H2 hi ⟨z,rfl⟩ L hv Ny Nn hy hn;let⟨G,r,X,rfl,p,t0⟩:=(d.same L).get hv;let B:u.getD i []=G:=by simp[List.getD,X]
  unfold bD
  try dsimp only
  refine⟨_,Z,_,Z,l,r,m,ys,y,G,Z,m4,W.same L,p,t0,λH3 C=>⟨_,Z,?_⟩⟩
  try dsimp only
  cases o:dL y G with
  | true=>
   rw[Yl Z];exact⟨_,Z,hy _ _ _ ⟨_,Z⟩ C (by rw[B];exact⟨r,Z,C _ _ p⟩)<|by rw[B];exact o⟩
  | false=>exact cA<|hn _ _ ⟨_,rfl⟩ C (by rw[B];exact o)
 rw[<- d.len]at O;let j:=nK (R:=fX H') (f:=λi=>u.getD i []) O;rw[F9 (q:=dL y)]at j;refine k D H' us U e ⟨hL,j,λx hx=>d.t0 x (List.mem_filter.mp hx).1,?_⟩;rw[<- Paired.length j];exact Yr (List.length_filter_le _ _) (by rw[d.len];exact d.b)
def z1f(F:dN K "check_not_endless" QU f fd)(u:Cq T 2 "is_power_alone" ["term","at"] [] (zN K)):Fq T 3 f fd ["ring","leads"] (tQ aA):=bW ["ring","leads","at"] F λsc=>by
 walk_at "o";rename_i r l m pf po ys a;walk_at "h";exists _,(aR<|gE (iI rfl T.b_range<|aL (fO (K:=K) rfl (pv 0) rfl) aU) (eQ 2 sc.nd)<|aR<|cW (oA<|lK<|gU (F3 (K:=K) rfl rfl) rfl T.b_any (by kernel_rfl)<|aL (iB (N:=["lead","at"]) (cl:=[("at",s.heap.objs.size+1)]) (mp:=[none,some 2]) (eK.of rfl nofun rfl nofun NU (iD rfl lM) (lI (fs:=["at"]) rfl nofun) rfl (kZ<|iE rfl (.inl rfl) rfl lL)) rfl (jI (K:=K) rfl<|pv 1) (λX W G p=>iT (i:=0) NU rfl rfl) (λX W G p=>gZ)<|λX W G p=>bS u hr<|cO 0 1) aU) qU cZ);let⟨⟨dx,B⟩,m1,m4,y,k⟩:=h;walk_at "rd";refine⟨r,aA,dx,_,_,Z,B,T.cl_Ring,T.na_Ring_many,Z,(m:Int),Z,⋯,⋯,?_⟩;let Y:(m:Int).toNat=m:=by lia
 rw[Y];refine kY (lo:=0) (n:=m) (λj σ H'=>aJ H H'/\(∃v,σ=[some<|.ref r,some<|.ref l,v])/\∀i,i<j->a.any (λh=>mL h i)=true) ?_ ?_ ?_
 ·exact⟨aJ.refl _,⟨none,Z⟩,λi U=>⋯⟩
 ·rintro j σ I L ⟨x,⟨v,rfl⟩,al⟩;rw[Int.zero_add];unfold bD
  try dsimp only
  let d:=y.same x;show aX _ _ _ _ _ _ _ _;refine vH (J:=lF K l) (H1:=I) (oQ<|aQ.of d.at_) y.b ?_ (λσ=>∃v,σ=[v,some<|.int j]) (λ_=>true) (λi=>.bl<|mL (a.getD i []) j) ⟨none,Z⟩ ?_ λD H4 e4 M=>?_
  ·exact λR hR=>⟨_,Z,l,Z,⟨_,aQ.of d.at_⟩,hR⟩
  ·rintro i v σ' H5 U ⟨z,rfl⟩ e5 hv Ny Nn hy hn;let⟨S,O,hh,rfl,C,t1⟩:=(d.same e5).get hv;unfold eH
   try dsimp only
   rw[Yl Z];refine⟨_,Z,_,Z,O,j,S,Z,aY.of C,by rw[t1.len];exact L,?_⟩;let q:=hy [some<|.ref O,some<|.int j] H5 ⟨_,Z⟩ (aJ.refl _) rfl;let eg:a.getD i []=S:=by simp[List.getD,hh]
   rw[eg]at q;exact q
  rw[Yu.mpr<|λ_ _=>Z]at M;exists D,(List.range ys.length).map λi=>mL (a.getD i []) j,Z,aQ.of (by rw[M,Ji];rfl);let e2:((List.range ys.length).map λi=>mL (a.getD i []) j).any id=a.any λh=>mL h j:=by rw[<- y.len];exact FW (f:=λh=>mL h j)
  rw[e2];exists _,Z;cases c:a.any λh=>mL h j with
  | true=>
   refine cA ⟨x.trans e4,⟨_,Z⟩,λi U=>?_⟩;rcases(by lia:i<j\/i=j) with q | q
   ·exact al i q
   ·rw[q];exact c
  | false=>
   rw[k.1 j L]at c;cases c
 ·rintro σ I ⟨x,⟨v,rfl⟩,al⟩;exact k.2 _ x
def WS(F:dN K "steps_from" OX f fd)(B:Cq T 1 "alone" P7 [] jN)(G:Cq T 1 "product" Pc [] (lV K)):Fq T 2 f fd ["ring","terms"] (mT aA):=bW ["ring","terms","found","term","at"] F λsc=>by
 walk_at "o";rename_i r l m pf po ys ts;walk_at "h";refine⟨_,(aT (bR 2 sc.nd oP)
  (aT (gE (jI (K:=K) rfl<|pv 1) (eQ 3 sc.nd)<|aR<|gE (iI rfl T.b_range<|aL (fO (K:=K) rfl (pv 0) rfl) aU) (eQ 4 sc.nd)<|aR<|sU (dW hr) (pv 2) (bS G hr<|aL (pv 3)<|aL (bS B hr<|aL (fO (K:=K) rfl (pv 0) rfl)<|aL (pv 4)<|aL aO aU) aU) (jA) rfl)
  (aR<|bJ<|oT (N0 rfl) rfl T.b_list (by kernel_rfl)<|aP 2))),?_⟩
 let⟨⟨dx,Y⟩,m1,m4,W,b2,k⟩:=h;intro d a1;let⟨H1,uq,e1,a6⟩:=cS a1<|.dT [];rw[uq];let mt:(m:Int).toNat=m:=by lia
 exists _,Z,l,Z,⟨_,aQ.of (W.same e1).at_⟩;refine vF (K:=K) (a:=l) (xs:=ys) (λi σ H'=>aJ H H'/\(∃v3 O,σ=[some<|.ref r,some<|.ref l,some<|.ref d,v3,O])/\∃(C:Ka) (us:Lb),H' d=some (.dT C)/\C.map (·.1)=us.map ky/\us.Nodup/\us.length<=4*i/\∀u,u∈us↔∃t∈ts.take i,∃q,q<m/\u=dZ t q) ?_ (λi σ H' _ h=>aQ.of (W.same h.1).at_) ?_ ?_
 ·exact⟨e1,⟨none,none,Z⟩,[],[],a6,Z,List.nodup_nil,by simp,λu=>by simp⟩
 ·rintro i x σ H2 hx ⟨e2,⟨v3,O,rfl⟩,C,us,R,hk,nu,lu,mu⟩;let⟨t,rt,ht,rfl,a5,t0⟩:=(W.same e2).get hx;let hi:i<ys.length:=by
   rcases Jh i ys.length with c | c
   ·exact c
   ·rw[Yy c]at hx;cases hx
  let hit:i<ts.length:=by rw[W.len];exact hi
  let tk:ts.take (i+1)=ts.take i++[t]:=by rw[List.take_add_one,ht];rfl
  show oU _ _ _ _ _ _;refine⟨_,Z,r,aA,dx,_,_,Z,e2 _ _ Y,T.cl_Ring,T.na_Ring_many,Z,(m:Int),Z,⋯,⋯,?_⟩;rw[mt];refine kY (lo:=0) (n:=m) (λj σ H'=>aJ H H'/\(∃O,σ=[some<|.ref r,some<|.ref l,some<|.ref d,some<|.ref rt,O])/\H' rt=some (.tup<|t.map V.int)/\∃(C:Ka) (us:Lb),H' d=some (.dT C)/\C.map (·.1)=us.map ky/\us.Nodup/\us.length<=4*i+j/\∀u,u∈us↔(∃t∈ts.take i,∃q,q<m/\u=dZ t q)\/∃q,q<j/\u=dZ t q) ?_ ?_ ?_
  ·exact⟨e2,⟨_,Z⟩,a5,C,us,R,hk,nu,⋯,λu=>by rw[mu];exact⟨.inl,λh=>h.elim id fun⟨q,z,_⟩=>⋯⟩⟩
  ·rintro j σ H3 hj ⟨e3,⟨O,rfl⟩,p,L,J,N,I,U,a7,S⟩;rw[Int.zero_add];unfold bD
   try dsimp only
   refine⟨_,Z,_,Z,_,Z,r,aA,dx,_,_,Z,e3 _ _ Y,T.cl_Ring,T.na_Ring_many,Z,_,Z,(m:Int),(j:Int),1,Z,⋯,⋯,⋯,λra H4 e4 a4=>?_⟩;refine⟨rt,ra,t,_,Z,aY.of<|e4 _ _ p,aY.of a4,by rw[t0.len];lia,λrp H5 e5 a0=>?_⟩;rw[mt,Y1,ZD t0.len hj]at a0;let g5:=e4.trans e5;let X:=g5 _ _ N;let lk:L.length=J.length:=by have:=Jx List.length I;simpa using this
   exists d,_,Z,hJ.t (k:=ky<|dZ t j) X (by rw[hZ];exact a0)<|gY _ ⋯;let a3:H d=none:=a1;let e6:aJ H (upd H5 d<|.dT<|bE L (ky<|dZ t j)<|.bl true):=λb o hb=>by rw[aV (λz=>by rw[z,a3]at hb;cases hb)];exact g5 _ _<|e3 _ _ hb
   refine⟨e6,⟨_,Z⟩,?_,_,jS J<|dZ t j,aW,XV I,UQ U,Yr WB ⋯,λu=>?_⟩
   ·rw[aV<|eM (g5 _ _ p) X<|by intro z;cases z];exact g5 _ _ p
   ·rw[WL,S];constructor
    ·rintro((v | ⟨q,M,y⟩) | v)
     ·exact .inl v
     ·exact .inr ⟨q,⋯,y⟩
     ·exact .inr ⟨j,⋯,v⟩
    ·rintro(v | ⟨q,M,y⟩)
     ·exact .inl<|.inl v
     ·rcases(by lia:q<j\/q=j) with c | c
      ·exact .inl<|.inr ⟨q,c,y⟩
      ·rw[c]at y;exact .inr y
  ·rintro σ H3 ⟨e3,⟨O,rfl⟩,p,L,J,N,I,U,a7,S⟩;refine⟨e3,⟨_,_,rfl⟩,L,J,N,I,U,⋯,λu=>?_⟩;rw[S,tk];constructor
   ·rintro(⟨t',v,q,M,y⟩ | ⟨q,M,y⟩)
    ·exact⟨t',Jv.mpr<|.inl v,q,M,y⟩
    ·exact⟨t,by simp,q,M,y⟩
   ·rintro⟨t',v,q,M,y⟩;rcases Jv.mp v with v | v
    ·exact .inl ⟨t',v,q,M,y⟩
    ·rw[Yq.mp v]at y;exact .inr ⟨q,M,y⟩
 ·rintro σ H2 ⟨e2,⟨v3,O,rfl⟩,C,us,R,hk,nu,lu,mu⟩;rw[<- W.len,List.take_length]at mu;refine⟨_,rfl,d,C,rfl,.inl R,λD as hD la a8=>?_⟩;let eD:aJ H2 (upd H2 D<|.lst<|as.map V.ref):=aJ.upd hD;let hp:=tms_list (m:=m) (l:=D) hk la a8;let a2:us.length=C.length:=by have:=Jx List.length hk;simpa using this.symm
  refine k D _ _ us (e2.trans eD) ⟨aW,bH (λ_ _ h=>h.same eD) hp,λu hu=>?_,by rw[Yd,la,<- a2];lia⟩ nu mu;let⟨t,ht,q,_,rfl⟩:=(mu u).mp hu;exact IX<|W.t0 t ht
def z0i(F:dN K "corner" ME f fd)(d3:Cq T 8 "first_term" ["ring","f"] [] (vL aA aB aC aD aE aF aG))(b6:Cq T 3 "check_not_endless" ["ring","leads"] [] (tQ aA))(a5:Mq T 1 aA "unit" Pm [] (oW aA))(S:Cq T 3 "outside" ["leads","terms"] [] pC)(a0:Cq T 2 "steps_from" ["ring","terms"] [] (mT aA))(c3:mE T):Fq T 9 f fd ["ring","base"] (tW aA aB aC aD aE aF aG):=bW ["ring","base","leads","found","edge"] F λsc=>by
 walk_at "o";rename_i F fF r b g cF ds U gs;walk_at "h";let⟨C,O⟩:=c3 g.kd g.ws h.1.k0 h.1.k4 h.1.wn h.1.wb;refine⟨_,(aT (B2 (N:=["f","ring"]) (cl:=[("ring",s.heap.objs.size+1)]) (mp:=[none,some 0]) (eQ 2 sc.nd) (eK.of rfl nofun Z nofun NK (iD rfl lM) (lI (fs:=["ring"]) Z nofun) Z (kZ<|iE rfl (.inl rfl) rfl lL)) rfl (jI (K:=K) rfl<|pv 1) (λC0 s0 H0 d4=>iT (i:=0) NK rfl rfl) (λC0 s0 H0 d4=>FE<|bA (LX (K:=K) rfl hr.units) (pv 0)<|oP)<|λC0 s0 H0 d4=>bS d3 hr<|cO 1 0)
  (aT (iR<|bS b6 hr<|cO 0 2)
  (aT (bR 3 sc.nd<|iH aU)
  (aT (bR 4 sc.nd<|bS S hr<|aL (pv 2)<|aL (iH<|aL (sO a5 (pv 0) hr eW .nil) aU) aU)
  (aT (qY PassesOwn.never (bA (yJ hr.units) (pv 4)<|iH aU) (aT (iR<|nX PySem.F.plainAttrs_list PySem.F.slot_list_extend PySem.F.type_list_extend X4 (pv 3)<|aP 4)
  (aR<|bR 4 sc.nd<|bS S hr<|aL (pv 2)<|aL (bS a0 hr<|cO 0 4) aU)))
  (aR<|bJ<|ZU (eV O.fall (fO (K:=K) rfl (pv 0) rfl) hr eW .nil<|aP 3) rfl T.b_list T.b_reversed)))))),?_⟩
 let⟨hR,hb,tb,k⟩:=h;let⟨m,pf,po,n,kd,ws⟩:=g;let m1:1<=m:=hR.m1;let m4:m<=4:=hR.m4;let⟨dx,L⟩:=hR.at_;let L:H r=some (HU aA dx m pf po):=L;let hk:jW aD aE aF aG kd ws H po:=hR.od;let hb:oJ n m H b ds U gs:=hb;let O:mF P w K mg base C (jW aD aE aF aG kd ws) (cK kd ws) (nR kd ws):=O;show aX _ _ _ _ _ _ _ _;let lb:(ds.map V.ref).length=ds.length:=Yd _;refine ZJ (J:=lF K b) (H1:=H) (oQ<|aQ.of hb.at_) (by rw[Yd];exact hb.b) ?_ (λσ=>∃v,σ=[v,some<|.ref r]) (λi=>decide<|U.getD i []≠[]) (λi v H'=>∃h,fX H' h v/\Ld (cK kd ws) (gs i) h) (λi v H1 H2 e ⟨h,h1,h2⟩=>⟨h,h1.same e,h2⟩) (λi v H1 a y1 y2 ha ⟨h,h1,h2⟩=>⟨h,yO ha h1,h2⟩) ⟨none,Z⟩ ?_ λld H1 ls e1 hL hp=>?_
 ·exact λR hR=>⟨_,Z,b,Z,⟨_,aQ.of hb.at_⟩,hR⟩
 ·rintro i v b3 H2 hi ⟨z,rfl⟩ e2 hv Ny Nn hy hn;rw[Yd]at hi;let c8:ds[i]?=some ds[i]:=Yc hi;let ev:v=.ref ds[i]:=by rw[Ym,c8]at hv;exact(Jg hv).symm
  subst ev;let⟨ap,a8,b7,d1⟩:=(hb.same e2).row i _ c8;let eg:U.getD i []=ap:=by simp[List.getD,a8]
  rw[eg]at hy hn;generalize ds[i]=d at b7;dsimp only[bD];exists _,Z;intro d2 f5;let⟨H3,uq,e3,g0⟩:=cS f5<|.dT [];rw[uq];clear uq;let⟨da,kds,y,_⟩:=(d1.same e3).kds (K:=K);let d0:ap.length=da.length:=Paired.length kds;exists d,d2,ap,[],da,[],Z,Z,.inl<|e3 _ _ b7,.inl g0,kds,.nil,y,(λ_ z=>by cases z),_,Z;by_cases c:ap=[]
  ·let ed:da=[]:=Ja.mp (by rw[<- d0,c];rfl);rw[ed];exact cA<|hn _ _ ⟨_,Z⟩ e3 (by rw[decide_eq_false_iff_not];exact λq=>q c)
  ·let f3:gC da []=false:=by
    unfold gC;cases da with
    | nil=>exact absurd (Ja.mp d0) c
    | cons x l=>rfl
   rw[f3];let g3:=e2.trans e3;refine dQ ⟨_,Z,_,Z,F,fF,r,d,⟨m,pf,po,n,kd,ws⟩,cF,ap,gs i,Z,hR.same g3,e3 _ _ b7,d1.same e3,tb i,c,λH' t a e4 ha hl=>?_⟩;exact hy _ _ H' ⟨_,Z⟩ (e3.trans e4) ⟨t,⟨a,Z,ha⟩,hl⟩<|Yo c
 rw[lb]at hp;let⟨X,a4,c5,b2⟩:=FY (A:=λp v=>fX H1 p.2 v) (B:=λi h=>Ld (cK kd ws) (gs i) h) hp;let a7:Paired (fX H1) (X.map (·.2)) ls:=nK c5;let hh:C9 (cK kd ws) ds.length gs (X.map (·.2)):=by
  refine⟨λh hm=>?_,λi h hi hl=>?_⟩
  ·let⟨p,a1,rfl⟩:=Jj.mp hm;have:p.1∈X.map (·.1):=Jj.mpr ⟨p,a1,Z⟩;rw[a4]at this;exact⟨p.1,List.mem_range.mp (List.mem_filter.mp this).1,b2 p a1⟩
  ·let⟨ap,a8,_,g6⟩:=hb.row i _<|Yc hi;have:i∈X.map (·.1):=by rw[a4];refine List.mem_filter.mpr ⟨List.mem_range.mpr hi,Yo λz=>?_⟩;rw[show U.getD i []=ap by simp[List.getD,a8]]at z;have:=g6.tmem.mpr hl.1;rw[z]at this;cases this
   let⟨p,a1,rfl⟩:=Jj.mp this;exact Jj.mpr ⟨p,a1,(b2 p a1).one hl⟩
 let d7:(X.map (·.2)).length<=1000:=by have:=Jx List.length a4;rw[Yd]at this;rw[Yd,this];exact Yr (List.length_filter_le _ _) (by rw[List.length_range];exact hb.b)
 clear hp a4 c5 b2;generalize X.map (·.2)=hs at a7 hh d7;let⟨d9,al,bd,k⟩:=k hs hh;let h0:∀h∈hs,T0 m h/\∀i,h.getD i 0<=200:=λh hm=>by let⟨i,hi,hl⟩:=hh.1 h hm;exact⟨hb.sp i h hl.1,d9 h hm⟩
 let b0:TL m H1 ld ls hs:=⟨hL,a7,λx Y=>(h0 x Y).1,by rw[<- Paired.length a7];exact d7⟩;dsimp only[bD];exists _,Z,_,Z,r,ld,m,pf,po,ls,hs,Z,⟨dx,e1 _ _ L⟩,m1,m4,b0;refine⟨al,λH2 e2=>?_⟩;refine⟨Y2 _,λy nf=>?_⟩;let⟨H3,uq,e3,c1⟩:=cS nf<|.lst [];rw[uq];clear uq;let g2:=e1.trans e2;let g3:=g2.trans e3;refine⟨_,Z,_,Z,r,dx,_,Z,g3 _ _ L,AD _ nofun nofun nofun,r,(m:Int),pf,po,Z,⟨dx,g3 _ _ L⟩,⋯,⋯,λut H4 e4 c7=>?_⟩;refine⟨(by show 1<=sizeLine;decide),λul f8=>?_⟩;let⟨H5,uq,e5,d8⟩:=cS f8<|.lst [.ref ut];rw[uq];clear uq;let mt:(m:Int).toNat=m:=by lia
 rw[mt]at c7;let e9:TL m H5 ld ls hs:=(((b0.same e2).same e3).same e4).same e5;let h3:TL m H5 ul [.ref ut] [zer m]:=⟨d8,.cons ⟨ut,Z,e5 _ _ c7⟩ .nil,λx Y=>by rw[Yq.mp Y];exact T0.zero m,by simp⟩;refine⟨ld,ul,m,ls,[.ref ut],hs,[zer m],Z,m4,e9,h3,λed H6 zs h5 e6 g5=>?_⟩;let f4:aJ H2 H6:=((e3.trans e4).trans e5).trans e6;let g7:H6 y=some (.lst []):=e6 _ _<|e5 _ _<|e4 _ _ c1;let a6:∀h∈hs,h.length=m:=λh hh=>(h0 h hh).1.len;let b8:uN m hs 0 ([zer m].filter (dL hs)):=G5;let d5:y≠ed:=λz=>by let q1:=e5 _ _<|e4 _ _ c1;rw[z,h5]at q1;cases q1
 show JU _ _ _ _ _;exists λkk σ H'=>∃(nn:Nat) (ed:Lh) (zs j:Lg) (I fs:Lb),kk+nn=1000/\σ=[some<|.ref r,some<|.ref b,some<|.ref ld,some<|.ref y,some<|.ref ed]/\aJ H2 H'/\H' y=some (.lst j)/\Paired (fX H') fs j/\xP m hs nn fs/\TL m H' ed zs I/\uN m hs nn I/\y≠ed,⟨1000,0,ed,zs,[],_,[],Z,Z,f4,g7,.nil,G8,g5,b8,d5⟩;rintro kk σ H7 ⟨nn,b5,u,j,I,fs,ek,rfl,s7,c9,a2,W,c0,G,e0⟩;let f6:I.length<=200:=Yr (bd I G.nd λt ht=>⟨((G.mem t).mp ht).1,((G.mem t).mp ht).2.2⟩) ∅;let f0:fs.length<=6:=bd fs W.nd λt ht=>⟨((W.mem t).mp ht).1,((W.mem t).mp ht).2.2⟩;let f7:u.length<=200:=by rw[<- c0.len];exact f6
 let lf7:j.length<=6:=by rw[<- Paired.length a2];exact f0
 refine⟨_,Z,Y2 _,λel h4=>?_⟩;let⟨H8,uq,s8,e7⟩:=cS h4<|.lst [];rw[uq];clear uq;let M:=c0.same s8;exists .list (rB I),.list [],.lst (aQ.of M.at_)<|MM M.tm,.lst (aQ.of e7) .nil,ZV I,Z,_,Z;rw[W8];by_cases c:I=[]
 ·rw[Yo c];refine cA ?_;subst c;let all:=SE a6 G W;let g8:aJ H H8:=(g2.trans s7).trans s8;let⟨dO,fo,hO,nl⟩:=O.oC.ins hk;let pw:∀x∈fs,jG x:=λx Y=>by let⟨a,o⟩:=(all x).mp Y;exact BI a m1 m4 λi=>by rcases D3 h0 al a o i with q | q <;> lia
  refine⟨_,Z,r,aA,dx,_,_,Z,g8 _ _ L,T.cl_Ring,T.na_Ring_order,Z,po,dO,fo,Z,g8 _ _ hO,nl "falling" nofun,_,Z,po,y,j,fs,Z,O.oC.same g8 hk,s8 _ _ c9,bH (λ_ _ q=>q.same s8) a2,pw,⋯,λD H9 ps s9 pp pq hD=>?_⟩;refine⟨D,_,Z,hD,λD2 c2=>?_⟩;let d6:aJ H9 (upd H9 D2<|.lst (ps.map (·.2)).reverse):=aJ.upd c2;let pt:∀p∈ps,fX H9 p.1 p.2:=λp hp=>((pz a2 p<|pp.mem_iff.mp hp).same s8).same s9;let a3:(ps.map (·.1)).Perm fs:=by have:=pp.map (·.1);rwa [FC<|by rw[<- Paired.length a2];exact Yi _]at this
  let f2:=TS.paired_reverse<|bH (λ_ _ q=>q.same d6)<|F8 pt;refine k D2 _ _ (ps.map (·.1)).reverse ((g8.trans s9).free c2) ((g8.trans s9).trans d6) ⟨aW,f2,λx Y=>?_,?_⟩ ?_ ?_ ?_
  ·exact((all x).mp (a3.mem_iff.mp<|List.mem_reverse.mp Y)).1
  ·rw[List.length_reverse,Yd];have:=a3.length_eq;rw[Yd]at this;lia
  ·exact(List.reverse_perm _).nodup_iff.mpr (a3.nodup_iff.mpr W.nd)
  ·intro t;rw[List.mem_reverse,a3.mem_iff];exact all t
  ·rw[List.pairwise_reverse,List.pairwise_map];exact pq
 ·rw[Yw c];refine dQ ⟨λb3 H'=>∃m',m'<kk/\∃(nn:Nat) (ed:Lh) (zs j:Lg) (I fs:Lb),m'+nn=1000/\b3=[some<|.ref r,some<|.ref b,some<|.ref ld,some<|.ref y,some<|.ref ed]/\aJ H2 H'/\H' y=some (.lst j)/\Paired (fX H') fs j/\xP m hs nn fs/\TL m H' ed zs I/\uN m hs nn I/\y≠ed,λb3 H' h=>h,?_⟩;let b4:=s8 _ _ c9;exists _,Z,.inl ⟨Z,_,aQ.of b4⟩,_,Z,y,b5,j,u,Z,Z,b4,M.at_,zl _ ⋯;let keep:∀x o,H8 x=some o->x≠y->(upd H8 y<|.lst<|j++u) x=some o:=λx o Y nx=>by rw[aV nx];exact Y
  let a9:(upd H8 y<|HO.lst<|j++u) y=some (.lst<|j++u):=aW;let tk:∀a v,fX H8 a v->fX (upd H8 y<|HO.lst<|j++u) a v:=λa v h=>yO b4 h;generalize upd H8 y (HO.lst<|j++u)=H9 at keep a9 tk;let b9:aJ H2 H9:=λx o Y=>keep x o (s8 _ _<|s7 _ _ Y)<|eE Y nf;let g9:aJ H H9:=g2.trans b9;let c6:TL m H9 b5 u I:=⟨keep _ _ M.at_<|Jc e0,bH tk M.tm,M.t0,M.b⟩;let f1:TL m H9 ld ls hs:=(b0.same e2).same b9
  try dsimp only
  refine⟨_,Z,_,Z,_,Z,r,b5,m,pf,po,u,I,Z,⟨dx,g9 _ _ L⟩,m1,m4,c6,f7,λsd HA zA us sA g4 nu mu=>?_⟩;refine⟨ld,sd,m,ls,zA,hs,us,Z,m4,f1.same sA,g4,λf9 HB zB c4 sB g1=>?_⟩;let e8:=sB _ _<|sA _ _ a9;refine⟨kk-1,?_,nn+1,f9,zB,j++u,_,fs++I,?_,Z,(b9.trans sA).trans sB,e8,vO (bH (λa v h=>((tk a v<|h.same s8).same sA).same sB) a2)<|bH (λa v h=>(h.same sA).same sB) c6.tm,V1 G W,g1,VS a6 G nu mu,λz=>?_⟩
  ·have:nn<1000:=by
    let⟨t,ht⟩:=List.exists_mem_of_ne_nil I c;let⟨a,b1,o⟩:=(G.mem t).mp ht;have:=IT a (B:=200) λi hi=>by rcases D3 h0 al a o i with q | q <;> lia
    have:(m:Int)*(200:Nat)<=800:=by lia
    lia
   lia
  ·have:nn<1000:=by
    let⟨t,ht⟩:=List.exists_mem_of_ne_nil I c;let⟨a,b1,o⟩:=(G.mem t).mp ht;have:=IT a (B:=200) λi hi=>by rcases D3 h0 al a o i with q | q <;> lia
    have:(m:Int)*(200:Nat)<=800:=by lia
    lia
   lia
  ·let q1:=sA _ _ a9;rw[z,c4]at q1;cases q1
def z00(F:bI K "unknown" "Ring.unknown" QA .none f fd)(b:Cq T 1 "alone" P7 [] jN)(i:qE T):Fq T 3 f fd ["self","at"] (tF aA aB aC aD aE aF aG):=bW ["self","at"] F λsc=>by walk_at "o";rename_i F M r g L a;walk_at "h";let⟨CF,B⟩:=i g.n h.1.nb h.1.np;exists _,(aR<|bJ<|zD hr.units0 (bS b hr<|aL (fO (K:=K) rfl (pv 0) rfl)<|aL (pv 1)<|aL aO aU)<|sO B.one (fO (K:=K) rfl (pv 0) rfl) hr eW .nil);let⟨l,ha,k⟩:=h;let⟨z,c⟩:=l.at_;let D:=l.fd;let⟨I,J⟩:=B.ins D;let m1:=l.m1;let m4:=l.m4;intro d q;let e1:aJ H (upd H d<|.dT []):=aJ.upd q;refine⟨_,Z,r,aA,z,_,_,Z,e1 _ _ c,T.cl_Ring,T.na_Ring_many,Z,_,Z,g.m,a,1,Z,⋯,⋯,⋯,λt H1 y x=>?_⟩;let j:=e1.trans y;refine⟨_,Z,r,aA,z,_,_,Z,j _ _ c,T.cl_Ring,T.na_Ring_field,Z,g.pf,I,_,Z,j _ _ J,jO _ _ nofun,F,M,L,g.pf,Z,vE (.of j) D,λv N p C=>?_⟩;let G:N d=some (.dT []):=p _ _<|y _ _ aW;rw[Y1,Y1]at x;refine⟨t,ky<|only g.m a 1,Z,G,by rw[hZ];exact p _ _ x,?_⟩;rw[cT]at C;refine k d _ _ q ((j.trans p).updR q) aW (Yi _) ?_;exact(EK dM (C.fix<|jZ G) KF).congr λu=>by grind
def z1c(F:dN K "table" J1 f fd)(a3:Cq T 9 "corner" ["ring","base"] [] (tW aA aB aC aD aE aF aG))(b3:Mq T 3 aA "unknown" ["self","at"] [] (tF aA aB aC aD aE aF aG))(a0:Cq T 4 "scaled" Pv [] (lU aA aB aC aD aE aF aG))(c6:Cq T 15 "brought_down" P0 [] (zO aA aB aC aD aE aF aG))(c0:qE T)(hord:mE T):Fq T 16 f fd ["ring","base","at"] (tI aA aB aC aD aE aF aG):=bW ["ring","base","at","terms","rows","term","rest"] F λsc=>by
 walk_at "o";rename_i F fF r b a g cF ds a1 gs;walk_at "h";let⟨CF,B⟩:=c0 g.n h.1.nb h.1.np;refine⟨_,(aT (bR 3 sc.nd<|bS a3 hr<|cO 0 1)
  (aT (bR 4 sc.nd<|iH aU)
  (aT (gE (jI (K:=K) rfl<|pv 3) (eQ 5 sc.nd) (aT (bR 6 sc.nd<|bS c6 hr<|aL (pv 0)<|aL (bS a0 hr<|aL (pv 0)<|aL (sO B.one (fO (K:=K) rfl (pv 0) rfl) hr eW .nil)<|aL (pv 5)<|aL (eV b3 (pv 0) hr eW .nil<|aP 2) aU)<|aP 1)
  (aR<|iR<|nX PySem.F.plainAttrs_list PySem.F.slot_list_append PySem.F.type_list_append qJ (pv 4)<|aL (iB (N:=["other","rest","ring"]) (cl:=[("ring",s.heap.objs.size+1),("rest",s.heap.objs.size+2)]) (mp:=[none,some 6,some 0]) (eK.of rfl nofun rfl nofun QN (iD rfl<|iD rfl lM) (lI (fs:=["ring","rest"]) rfl nofun) rfl (kZ<|iE rfl (.inl rfl) rfl<|iE rfl (.inl rfl) rfl lL)) rfl (jI (K:=K) rfl<|pv 3) (λC0 s0 H0 c7=>iT (i:=0) QN rfl rfl) (λC0 s0 H0 c7=>gZ)<|λC0 s0 H0 c7=>L9 (dW hr) (pv 1) (pv 0) (sO B.nought (fO (K:=K) rfl (pv 2) rfl) hr eW .nil) ⟨Z,Z,Z,Z⟩) aU)))
  (aR<|bJ<|pv 4)))),?_⟩
 let⟨L,hb,tb,ha,h2,k⟩:=h;let⟨dx,a9⟩:=L.at_;let hf:=L.fd;let⟨dF,hF⟩:=B.ins hf;let m1:=L.m1;let m4:=L.m4;let d0:∃(S:Lc->Prop) (X:Lc->Po F->Prop),(∀hs,C9 g.rk ds.length gs hs->(∀i,i<g.m->hs.any (λh=>mL h i)=true)/\∀t,(T0 g.m t/\dL hs t=true)↔S t)/\(∀l:Lb,l.Nodup->(∀t∈l,S t)->l.length<=6) /\
   (∀t,S t->∃U J,DB g.n g.m g.rk (dl<|aM (e1 g.m a) t) gs U J/\∀Y d,gL g.rk g.m ds.length gs Y->(∀t,d t≠0->T0 g.m t/\∀p∈Y,dP p.2 t=false)->(∃s lf,s<=U.length/\(∀t,lf t=0)/\J s lf d)->X t d) /\
   ∀D H' vs C,H D=none->aJ H H'->H' D=some (.lst vs)->C.Nodup->(∀t,t∈C↔S t)->C.Pairwise (λa b=>HT.lexLt (g.rk b) (g.rk a)=false)->Paired (λt v=>∃(l:Lh) (d:Po F),v=.ref l/\H l=none/\bL g.n H' C d l/\X t d) C vs->Q (.ref D) H':=by
  rcases k with⟨T',gp,hT,hP,hB,k⟩ | ⟨⟨i,ik,hl⟩,k⟩
  ·let⟨α,W⟩:=z3k L.om m1 m4 hT;refine⟨Bx g.m T',λt d=>Nf g.m T' gp (sh (e1 g.m a)<|dl t) d/\JB g.n 165 d,λhs hh=>z01 hP hB hh,λl nd hl=>Yr (BJ ⟨m1,m4⟩ hT nd hl) ∅,λt ht=>⟨_,_,z3e hP hB W m1 m4 ht ha,λY d lo dd ⟨s,lf,hs,l0,hj⟩=>⟨?_,hj.2.1.le<|Yr hs<|IM m1 m4 W⟩⟩,k⟩;exact(Nf.dvd hP hB lo dd (hj.2.2.congr λz=>by rw[l0 z];grind)).congr (λu=>DW dM.len ht.1.len u) λ_=>rfl
  ·refine⟨λ_=>False,λ_ _=>True,λhs hh=>?_,λl _ hl=>?_,λt z=>z.elim,λD H' vs C nD e hD _ hm _ hp=>?_⟩
   ·let hz:=hh.2 i _ ik hl;refine⟨λj hj=>List.any_eq_true.mpr ⟨_,hz,Yo ?_⟩,λt=>⟨fun⟨t0,o⟩=>?_,λz=>z.elim⟩⟩
    ·rw[show (zer g.m).sum=0 from zC _];have:=(T0.zer g.m).nn j;have:=BO (T0.zer g.m) j;rw[show (zer g.m).sum=0 from zC _]at this;lia
    ·have:=fH.mp o _ hz;rw[bV.mpr λi hi=>?_]at this
     ·cases this
     ·have:=BO (T0.zer g.m) i;rw[show (zer g.m).sum=0 from zC _]at this;have:=t0.nn i;lia
   ·cases l with
    | nil=>exact Y2 _
    | cons x l=>exact(hl x<|.head _).elim
   ·have:C=[]:=List.eq_nil_iff_forall_not_mem.mpr λt ht=>(hm t).mp ht;subst this;cases hp;exact k D H' nD e hD
 clear k;let⟨S,X,c1,c2,c3,k⟩:=d0;refine⟨_,Z,_,Z,F,fF,r,b,g,cF,ds,a1,gs,Z,L,hb,tb,λhs hh=>?_⟩;let⟨al,mem⟩:=c1 hs hh;refine⟨λh hm=>let ⟨i,_,l⟩:=hh.1 h hm;h2 i h l,al,λl nd hl=>c2 l nd λt ht=>(mem t).mp (hl t ht),λD H1 ys C nD eA I nd hm d9=>?_⟩;let hm:∀t,t∈C↔S t:=λt=>(hm t).trans (mem t);dsimp only[bD];refine⟨Y2 _,λrl c=>?_⟩;let⟨H2,uq,e2,a2⟩:=cS c<|.lst [];rw[uq];clear uq;let g2:=eA.trans e2;exists _,Z,D,Z,⟨_,aQ.of<|e2 _ _ I.at_⟩;let ne:D≠rl:=λz=>by rw[<- z,I.at_]at c;cases c
 let c5:∀{H':Hp},Kp [rl] H2 H'->cR H H':=λG=>(cR.of g2).tr (G.fix λa ha o ho=>by rw[Yq.mp ha,a2]at ho;cases ho;exact .inr<|.inl ⟨_,Z⟩);let M:∀{H':Hp},Kp [rl] H2 H'->aJ H H':=λG b o hb=>G b o (g2 _ _ hb) (by simp;exact λz=>by rw[z]at hb;rw[eA _ _ hb]at c;cases c);refine vF (K:=K) (a:=D) (xs:=ys) (λi σ H'=>(∃v5 v6,σ=[some<|.ref r,some<|.ref b,some<|.int a,some<|.ref D,some<|.ref rl,v5,v6])/\Kp [rl] H2 H'/\∃vs,H' rl=some (.lst vs)/\vs.length<=i/\Paired (λt v=>∃(l:Lh) (d:Po F),v=.ref l/\H l=none/\l≠rl/\bL g.n H' C d l/\X t d) (C.take i) vs) ?_ (λi σ H' _ h=>aQ.of<|h.2.1 _ _ (e2 _ _ I.at_)<|by simp[ne]) ?_ ?_
 ·exact⟨⟨none,none,Z⟩,Kp.refl _ _,[],a2,Yi _,by rw[List.take_zero];exact .nil⟩
 ·rintro i x σ H3 hx ⟨⟨v5,v6,rfl⟩,G,vs,y,b9,hp⟩;let⟨t,rt,ht,rfl,a6,t0⟩:=I.get hx;let fx:=c5 G;let sm:=M G;let tS:=(hm t).mp (Yx ht);let⟨U,J,dv,hX⟩:=c3 t tS;let b6:=G _ _ (e2 _ _ a6) (by simp;exact λz=>by rw[z]at a6;rw[a6]at c;cases c);dsimp only[bD];refine⟨_,rfl,_,rfl,_,rfl,r,aA,dx,_,_,rfl,sm _ _ a9,T.cl_Ring,T.na_Ring_field,rfl,g.pf,dF,_,rfl,sm _ _ hF,jO _ _ nofun,F,fF,cF,g.pf,rfl,vE fx hf,λv1 H4 e4 b5=>?_⟩;rw[cT]at b5;refine⟨_,rfl,_,rfl,r,dx,_,rfl,e4 _ _<|sm _ _ a9,AD _ nofun nofun nofun,_,rfl,F,fF,r,g,cF,a,rfl,(L.fix fx).same e4,ha,λdu H5 d1 nu e5 hu lu pu=>?_⟩;let e0:=(sm.trans e4).trans e5;let l1:∀x:F,x=1\/x=0->cL g.n 8900 x:=λx hx=>by
   rcases hx with rfl | rfl
   ·exact cL.of (T:=1) (B:=1) ∅ (by rw[cT];grind) (Nat.one_lt_two_pow ∅) (Nat.one_lt_two_pow ∅)
   ·exact cL.zero ∅
  refine⟨F,fF,r,v1,rt,du,g,cF,d1,1,t,dl<|e1 g.m a,Z,((L.fix fx).same e4).same e5,b5.same e5,l1 _<|.inl rfl,e5 _ _<|e4 _ _ b6,t0,hu,pu,λu=>l1 _<|by unfold dl;split <;> simp,gY _ ⋯,λd6 H6 b8 n6 e6 h6 p6 l6=>?_⟩;let a8:=e0.trans e6;let ae:aM t (e1 g.m a)=aM (e1 g.m a) t:=jX (by rw[t0.len,dM.len]);let d3:PF g.n g.m H6 b8 (dl (F:=F)<|aM (e1 g.m a) t):=p6.congr λu=>by rw[DW t0.len dM.len,ae];grind
  refine⟨_,Z,F,fF,r,d6,b,g,cF,ds,a1,gs,b8,dl<|aM (e1 g.m a) t,U,J,Z,L.same a8,hb.same a8,tb,h6,d3,J3 p6 ⋯,dv,λH7 rd d Y c9 e7 c8 pr lo dd nrd hj=>?_⟩;let b7:=a8.trans e7;let O:aJ H3 H7:=((e4.trans e5).trans e6).trans e7;let d5:=hX Y d lo dd hj;dsimp only[bD];exists _,Z,.inl ⟨Z,_,aQ.of<|O _ _ y⟩;let a5:TL g.m H7 D ys C:=⟨O _ _<|G _ _ (e2 _ _ I.at_)<|by simp[ne],bH (λ_ _ q=>?_) I.tm,I.t0,I.b⟩
  ·show aX _ _ _ _ _ _ _ _;refine sY (J:=lF K D) (H1:=H7) (oQ<|aQ.of a5.at_) I.b ?_ (λσ=>∃v,σ=[v,some<|.ref rd,some<|.ref r]) (λ_=>true) (λi v H'=>bY g.n H' v<|d<|C.getD i []) (λi v H1 H2 e h=>h.same e) (λi v H1 a y1 y2 ha h=>h.fix<|mO ha) ⟨none,Z⟩ ?_ λq8 H8 ws a4 e8 d2 d8=>?_
   ·exact λR L=>⟨_,Z,D,Z,⟨_,aQ.of a5.at_⟩,L⟩
   ·rintro j v σ' H8 hj ⟨z,rfl⟩ e8 hv Ny Nn hy hn;let⟨t',rt',d4,rfl,c4,t0'⟩:=(a5.same e8).get hv;let a7:=b7.trans e8;dsimp only[bD];unfold eH
    try dsimp only
    rw[Yl Z];refine⟨_,Z,rd,Z,.inr ⟨_,.inl<|e8 _ _ c8⟩,_,Z,_,Z,r,aA,dx,_,_,Z,a7 _ _ a9,T.cl_Ring,T.na_Ring_field,Z,g.pf,dF,_,Z,a7 _ _ hF,jO _ _ nofun,F,fF,cF,g.pf,Z,vE (.of a7) hf,λu H9 e9 hu=>?_⟩;exists _,fM.t (k:=ky t') (e9 _ _<|e8 _ _ c8) (by rw[hZ];exact e9 _ _ c4);let eg:C.getD j []=t':=by simp[List.getD,d4]
    refine hy _ _ H9 ⟨_,Z⟩ e9 ?_ rfl;rw[eg];let d7:=(pr.same e8).same e9;cases q:bK c9 (ky t') with
    | none=>rw[pr.out t' q,<- gT];exact hu
    | some v=>exact(d7.val t' v q).1
   ·let b4:=nK (R:=λt u=>bY g.n H8 u<|d t) (f:=λi=>C.getD i []) d8;rw[<- I.len,F9 (q:=λ_=>true),Yu.mpr<|λ_ _=>Z]at b4;let b1:=O.trans e8;let b0:=b1 _ _ y;let nq:q8≠rl:=λz=>by rw[z,O _ _ y]at a4;cases a4
    let lti:i<ys.length:=eR hx;let yb:=I.b;exists rl,vs,.ref q8,Z,Z,b0,gY _ ⋯;refine⟨⟨_,_,Z⟩,λb o hb nb=>?_,vs++[.ref q8],aW,by rw[Y6];exact Nat.succ_le_succ b9,?_⟩
    ·rw[aV<|by simpa using nb];exact b1 _ _<|G b o hb nb
    ·rw[sX ht];refine gG ⟨q8,d,Z,b7.free a4,nq,⟨ws,by rw[aV nq];exact d2,bH (λ_ _ q=>q.fix<|mO b0) b4⟩,d5⟩<|bH (λ_ _ ⟨l,b2,e,nl,nr,rr,xx⟩=>⟨l,b2,e,nl,nr,(rr.same b1).keep (mO b0) (λo ho=>by rw[aV nr];exact ho),xx⟩) hp
  ·let⟨x,rfl,hx⟩:=q;exact⟨x,Z,O _ _<|G _ _ (e2 _ _ hx)<|by simp;exact λz=>by rw[z]at hx;rw[hx]at c;cases c⟩
 ·rintro σ H3 ⟨⟨v5,v6,rfl⟩,G,vs,y,b9,hp⟩;rw[<- I.len,List.take_length]at hp;exact⟨_,rfl,k rl H3 vs C (eA.free c) (M G) y nd hm d9<|bH (λ_ _ ⟨l,b2,e,nl,nr,rr,xx⟩=>⟨l,b2,e,nl,rr,xx⟩) hp⟩
def UM(F:dN K "_law_cell_at" PY f fd):Fq T 1 f fd P1 (lY K):=bW ["_law_script","_law_k"] F λsc=>by
 walk_at "o";rename_i a b k;walk_at "h";refine⟨_,(aT (cW (bA wL (pv 1)<|iQ K T.b_len<|aP 0) (aR<|bJ<|gW K (pv 0)<|pv 1) cZ)
  (aR<|bJ aO)),?_⟩
 let⟨i,h0,q⟩:=h;let d:(b.map V.int).length=b.length:=Yd _;exists _,Z,_,Z,a,_,Z,.inl i;walk_at "rd";refine cD (λc=>?_)<|λc=>?_
 ·rw[d]at c;exact⟨_,Z,_,Z,a,_,_,_,Z,Z,i,T2 h0 c,q⟩
 ·rw[d]at c;let e:cellOf b k=0:=by unfold cellOf;rw[List.getD_eq_getElem?_getD,Yy ⋯];rfl
  rw[e]at q;exact q
def YF(F:dN K "_law_is_prime" PM f fd):Fq T 1 f fd ["_law_number_here"] kM:=bW ["_law_number_here","_law_by"] F λsc=>by
 walk_at "o";rename_i n;walk_at "h";refine⟨_,(aT (bR 1 sc.nd aO)
  (aT (qY PassesOwn.never (bA DV (bB yI (pv 1)<|pv 1)<|pv 0) (aT (cW (bA hY (bB wY (pv 0)<|pv 1)<|aO) (aR<|bJ jA) cZ)
  (aR<|bR 1 sc.nd<|bB jB (pv 1)<|aO)))
  (aR<|bJ jA))),?_⟩
 let⟨i,j,k⟩:=h;exists λm σ H'=>∃d:Int,m=(200-d).toNat/\σ=[some<|.int n,some<|.int d]/\H'=H/\2<=d/\d<=101/\jH n d,⟨_,2,Z,Z,Z,K3.start n⟩;rintro m σ H' ⟨d,rfl,rfl,rfl,a,p,l⟩;exists _,Z,_,Z,_,_,Z,Z,.inl<|MQ (n:=n) a p;walk_at "rd";refine cD (λq=>?_)<|λq=>?_
 ·exists λc b=>c=[some<|.int n,some<|.int<|d+1]/\b=H'/\¬Int.fmod n d=0,?_
  ·rintro c b ⟨rfl,rfl,r⟩;exact⟨(200-(d+1)).toNat,K3.less a q j,d+1,rfl,rfl,rfl,K3.turn l r a q j⟩
  ·exists _,Z,_,Z,_,_,Z,Z,(by show d≠0;lia);walk_at "rd";refine jF (λz=>?_)<|λz=>?_
   ·show Q (.bl false) H';rw[jE a q z];exact k
   ·walk_at "rd";exact z
 ·show Q (.bl true) H';rw[K3.out l i a q];exact k
def z0g(F:dN K "_law_way" N5 f fd):Fq T 1 f fd ["_law_cell","_law_many"] tE:=bW ["_law_cell","_law_many","_law_weights","_law_left","_law_k"] F λsc=>by
 walk_at "o";rename_i c m;walk_at "h";refine⟨_,(aT (bR 2 sc.nd<|iH aU)
  (aT (bR 3 sc.nd<|bB wU (pv 0)<|aO)
  (aT (gE (iI rfl T.b_range<|aP 1) (eQ 4 sc.nd) (aT (iR<|nX PySem.F.plainAttrs_list PySem.F.slot_list_append PySem.F.type_list_append qJ (pv 2)<|aL (gW K (iH<|aL aO<|aL aO<|aL aO<|aL aO<|aL (bB jB (bB SU aO aO)<|aO) aU)<|bB gS (pv 3)<|aO) aU)
  (aR<|bR 3 sc.nd<|bB wU (pv 3)<|aO)))
  (aR<|bJ<|gO<|aL (bB gS (pv 0)<|aO)<|aP 2)))),?_⟩
 let⟨m4,k⟩:=h;refine⟨Y2 _,λl M=>?_⟩;let⟨H1,uq,e1,I⟩:=cS M<|.lst [];rw[uq];refine⟨_,Z,_,_,Z,Z,⟨∅,∅⟩,_,Z,(m:Int),Z,⋯,⋯,?_⟩;let N:(m:Int).toNat=m:=by lia
 refine kY (lo:=0) (n:=(m:Int).toNat) (λj σ H'=>aJ H H'/\∃(ws:Lc) (i:Int) (J:Option V),σ=[some<|.int c,some<|.int m,some<|.ref l,some<|.int i,J]/\H' l=some (.lst<|ws.map V.int)/\ws.length=j/\Nn ws/\∀x∈ws,x<10^31) ?_ ?_ ?_
 ·exact⟨e1,[],_,none,Z,I,Z,(λx L=>by cases L),λx L=>by cases L⟩
 ·rintro j σ B S ⟨u,ws,i,J,rfl,a,d,G,C⟩;rw[N]at S;unfold bD
  try dsimp only
  let⟨v,U,W,X⟩:=GC (r:=i%5) ⋯ ⋯;exists _,Z,.inl ⟨Z,_,aQ.of a⟩;refine⟨_,_,Z,Z,⟨∅,∅,∅⟩,_,_,Z,Z,(by show 5<=sizeLine;decide),λq O=>?_⟩;let D:l≠q:=λz=>by rw[z,O]at a;cases a
  let zz:(ws.map V.int).length<sizeLine:=gY _ (by rw[Yd];lia);exists _,Z,_,_,Z,Z,(by show (0:Int)<5;decide),q,_,_,_,Z,Z,aQ.of aW,X,l,ws.map V.int,.int v,Z,Z,(by rw[aV D];exact a),zz;exists _,Z,_,_,Z,Z,⟨∅,∅⟩;refine⟨(u.updR<|u.free O).updR M,ws++[v],_,_,Z,?_,by rw[Y6,d];rfl,λy b=>?_,λy b=>?_⟩
  ·rw[aW,List.map_append];rfl
  ·rcases Jv.mp b with b | b
   ·exact G y b
   ·rw[Yq.mp b];exact U
  ·rcases Jv.mp b with b | b
   ·exact C y b
   ·rw[Yq.mp b];exact W
 ·rintro σ B ⟨u,ws,i,J,rfl,a,d,G,C⟩;rw[N]at d;refine⟨_,rfl,_,_,rfl,rfl,(by show (0:Int)<4;decide),_,rfl,(by show 2<=sizeLine;decide),λp Y=>?_⟩;let R:aJ B (upd B p<|.tup [.int<|c%4,.ref l]):=aJ.upd Y;exact k p l ws _ (u.trans R) aW (R _ _ a) d G C
def R8(F:dN K "_law_order" OI f fd)(i:Kq T 1 "Weights" aG ["self","weights"] [] (mR K aG)):Fq T 3 f fd ["_law_way_here"] (pL K aD aE aF aG):=bW ["_law_way_here"] F λsc=>by
 walk_at "o";rename_i r l kd ws;walk_at "h";refine⟨_,(aT (cW (bA hY (cX K (pv 0)<|aO)<|aO) (aR<|bJ<|E5 T.n0_Degrees T.mg_Degrees) cZ)
  (aT (cW (bA hY (cX K (pv 0)<|aO)<|aO) (aR<|bJ<|E5 T.n0_Tails T.mg_Tails) cZ)
  (aT (cW (bA hY (cX K (pv 0)<|aO)<|aO) (aR<|bJ<|xZ i hr eW .nil<|aL (oT (NW (K:=K) rfl) rfl T.b_list (by kernel_rfl)<|aL (cX K (pv 0)<|aO) aU) aU) cZ)
  (aR<|bJ<|E5 T.n0_Order T.mg_Order)))),?_⟩
 let⟨k,k0,k4,z,n,B,q⟩:=h;let mk:∀{C:Lh} {H:Hp} {p d:Lh},H p=none->H d=none->aJ H (upd (upd H d<|.own p) p<|.ins C d []):=fun{C H p d} j a b o e=>by rw[aV<|eE e j,aV<|eE e a];exact e
 exists _,Z,r,_,_,_,Z,Z,aY.of k,gJ;refine⟨Z,_,Z,jF (λc=>?_)<|λc=>?_⟩
 ·intro p d j a u;exact q p _ (mk j a) (by unfold jW;rw[Yh ⋯,Yl c];exact⟨d,aW⟩)
 exists _,Z,r,_,_,_,Z,Z,aY.of k,gJ;refine⟨Z,_,Z,jF (λx=>?_)<|λx=>?_⟩
 ·intro p d j a u;exact q p _ (mk j a) (by unfold jW;rw[Yh ⋯,Yh ⋯,Yl x];exact⟨d,aW⟩)
 exists _,Z,r,_,_,_,Z,Z,aY.of k,gJ;refine⟨Z,_,Z,jF (λD=>?_)<|λD=>?_⟩
 ·refine⟨_,Z,r,_,_,_,Z,Z,aY.of k,gH,l,_,Z,.inl<|aQ.of z,λm L=>?_⟩;let e1:aJ H (upd H m<|HO.lst<|ws.map V.int):=aJ.upd L;intro p d j a u;let v:=mk (C:=aG) j a;refine⟨p,d,m,ws,Z,aW,aQ.of<|v _ _ aW,n,B,λJ H' G I y=>⟨Z,q p H' (λb o e=>y b o (v _ _<|e1 _ _ e)<|eE (e1 _ _ e) j) ?_⟩⟩;unfold jW;rw[Yh ⋯,Yh ⋯,Yh ⋯];exact⟨d,J,G,I⟩
 ·intro p d j a u;exact q p _ (mk j a) (by unfold jW;rw[Yl ⋯];exact⟨d,aW⟩)
def z2q(F:dN K "_law_prime" OW f fd)(a:Cq T 1 "_law_is_prime" ["_law_number_here"] [] kM):Fq T 2 f fd ["_law_cell"] tM:=bW ["_law_cell","_law_number_here"] F λsc=>by
 walk_at "o";rename_i c;walk_at "h";refine⟨_,(aT (cW (bA hY (bB gS (pv 0)<|aO)<|aO) (aR<|bJ aO) cZ)
  (aT (bR 1 sc.nd<|bB jB aO<|bB gS (bB wU (pv 0)<|aO)<|gW K (iH<|aL aO<|aL aO<|aL aO<|aL aO aU)<|bB gS (pv 0)<|aO)
  (aT (qY PassesOwn.never (oA<|lK<|bS a hr<|aP 1)<|aR<|bR 1 sc.nd<|bB yF (pv 1)<|aO)
  (aR<|bJ<|pv 1)))),?_⟩
 let k:=h;walk_at "rd";refine jF (λx=>?_)<|λx=>?_
 ·exact k 0 H (aJ.refl _) (.inl Z) ∅
 refine⟨_,Z,_,_,Z,Z,⟨∅,∅⟩,(by show 4<=sizeLine;decide),λl p=>?_⟩;let⟨v,v1,v2,u⟩:=GD (r:=c%4) ⋯ ⋯;let e1:aJ H (upd H l<|.lst [.int 1,.int 6,.int 120,.int 9972]):=aJ.upd p;exists _,Z,_,_,Z,Z,(by show (0:Int)<4;decide),l,_,_,_,Z,Z,aQ.of aW,u,_,_,Z,Z,(by show 0<v;lia),_,_,Z,Z;generalize upd H l (HO.lst [V.int 1,V.int 6,V.int 120,V.int 9972])=H1 at e1;let b0:=Jn (c / 4) (show v≠0 by lia);let b1:=Jd (c / 4) (show 0<v by lia);exists λm σ H'=>∃n:Int,m=n.toNat/\σ=[some<|.int c,some<|.int n]/\H'=H1/\2<=n/\n<=9973,⟨_,_,Z,Z,Z,⋯,⋯⟩;rintro m σ H' ⟨n,rfl,rfl,rfl,q,j⟩;exists _,Z,n,Z,q,j,_,Z;refine RV (λi=>?_)<|λi=>?_
 ·exists λd b=>d=[some<|.int c,some<|.int<|n-1]/\b=H',?_
  ·rintro d b ⟨rfl,rfl⟩;let n2:n≠2:=λz=>by rw[z,z2i]at i;cases i
   exact⟨(n-1).toNat,⋯,n-1,Z,Z,Z,⋯,⋯⟩
  ·walk_at "rd";rfl
 ·exact⟨_,Z,k n H' e1 (.inr<|z3j i) j⟩
def SB(F:dN K "_law_field" OR f fd)(a:Kq T 2 "Rests" aC P5 [] (mV aC))(d:Kq T 2 "Fractions" aB Pm [] (iJ aB)):Fq T 5 f fd ["_law_p"] (pM aB aC):=bW ["_law_p"] F λsc=>by
 walk_at "o";rename_i n;walk_at "h";refine⟨_,(aT (cW (bA oN (pv 0)<|aO) (aR<|bJ<|xZ a hr eW .nil<|aP 0) cZ)
  (aR<|bJ<|z0y d hr eW .nil)),?_⟩
 let⟨q,m,k⟩:=h;walk_at "rd";refine cD (λc=>?_)<|λc=>?_
 ·let p:Pr n:=q.resolve_left ⋯;refine⟨_,Z,λx j l i u=>?_⟩;exists x,j,n,Z,aW,m,DJ p,Z;refine k x _ (λb o e=>?_) ?_
  ·rw[aV<|eE e l,aV<|eE e l,aV<|eE e i];exact e
  ·unfold nN;rw[Yh ⋯];exact⟨j,aW,p,m⟩
 ·let r:n=0:=by
   rcases q with z | z
   ·exact z
   ·have:=z.1;lia
  subst r;intro x j l i u;exists x,j,Z,aW,Z;refine k x _ (λb o e=>?_) ?_
  ·rw[aV<|eE e l,aV<|eE e l,aV<|eE e i];exact e
  ·unfold nN;rw[Yl Z];exact⟨j,aW⟩
def XJ(F:dN K "_law_rank" OE f fd):Fq T 1 f fd Pu jK:=bW ["_law_way_here","_law_term"] F λsc=>by
 walk_at "o";rename_i r l t kd ws xs;walk_at "h";refine⟨_,(aT (cW (bA hY (cX K (pv 0)<|aO)<|aO) (aR<|bJ<|bB vC (gO<|aL (gU (zF (K:=K) rfl true rfl) rfl T.b_sum (by kernel_rfl)<|aP 1) aU)<|pv 1) cZ)
  (aT (cW (bA hY (cX K (pv 0)<|aO)<|aO) (aR<|bJ<|bB vC (gO<|aL (gU (zF (K:=K) rfl true rfl) rfl T.b_sum (by kernel_rfl)<|aP 1) aU)<|mJ K T.b_tuple<|aL (iB (N:=["_law_a"]) (eK.pl ND) rfl (LJ (K:=K) rfl rfl T.b_reversed<|aP 1) (λO L G d=>iT (i:=0) ND rfl rfl) (λO L G d=>gZ)<|λO L G d=>sN sP<|pv 0) aU) cZ)
  (aT (cW (bA hY (cX K (pv 0)<|aO)<|aO) (aR<|bJ<|bB vC (gO<|aL (gU (zF (K:=K) rfl false rfl) rfl T.b_sum (by kernel_rfl)<|aL (iB (N:=["_law_a","_law_w"]) (eK.pl QH) rfl (wX (K:=K) rfl true false rfl T.b_zip<|aL (pv 1)<|aL (cX K (pv 0)<|aO) aU) (λO L G d=>wR (K:=K) rfl rfl rfl QH rfl rfl) (λO L G d=>gZ)<|λO L G d=>bB KS (pv 0)<|pv 1) aU) aU)<|pv 1) cZ)
  (aR<|bJ<|pv 1)))),?_⟩
 let⟨u,k0,k4,hl,wn,wb,v,n,k⟩:=h;exists _,Z,r,_,_,_,Z,Z,aY.of u,gJ;refine⟨Z,_,Z,jF (λc=>?_)<|λc=>?_⟩
 ·refine⟨_,Z,t,xs,Z,aY.of v,(by show 1<=sizeLine;decide),λq j=>?_⟩;let e1:aJ H (upd H q<|HO.tup [V.int xs.sum]):=aJ.upd j;exists _,Z;refine⟨q,t,_,_,Z,Z,aY.of aW,aY.of<|e1 _ _ v,by simp,by simp;exact Yr (Nat.add_le_add_left n.len 1)<|by rw[sizeLine_eq];decide,λz=>?_,λ_ p M=>?_⟩
  ·exact absurd (List.map_eq_nil_iff.mp z) n.ne
  ·refine k p _ (e1.updR<|e1.free M) ?_;rw[aW];unfold cK;rw[Yh ⋯,Yh ⋯,Yl c];rfl
 exists _,Z,r,_,_,_,Z,Z,aY.of u,gJ;refine⟨Z,_,Z,jF (λc1=>?_)<|λc1=>?_⟩
 ·refine⟨_,Z,t,xs,Z,aY.of v,(by show 1<=sizeLine;decide),λq j=>?_⟩;let e1:aJ H (upd H q<|HO.tup [V.int xs.sum]):=aJ.upd j;let I:aY K (upd H q<|HO.tup [V.int xs.sum]) t (xs.map V.int):=aY.of<|e1 _ _ v;let U:(xs.map V.int).length=xs.length:=Yd _;show aX _ _ _ _ _ _ _ _;refine vH (J:=AN K t (xs.map V.int).length) (H1:=upd H q<|HO.tup [V.int xs.sum]) (MT I) (by rw[U];exact Yr n.len ∅) ?_ (λσ=>σ.length=1) (λ_=>true) (λi=>.int<|-(xs.getD (xs.length-1-i) 0)) rfl ?_ λD H' e B=>?_
  ·exact λR S=>⟨_,Z,t,_,Z,I,S⟩
  ·rintro i x W H2 hi hs e hx Ny Nn hy hn;rw[U]at hx;rw[zJ hx];match W,hs with
   | [_],_=>exact⟨_,rfl,_,rfl,hy _ _ rfl (aJ.refl _) rfl⟩
  rw[Yu.mpr<|λ_ _=>Z,U]at B;let eL:(List.range xs.length).map (λi=>V.int<|-(xs.getD (xs.length-1-i) 0))=(xs.reverse.map λx => -x).map V.int:=by rw[<- L6 xs λx => -x,Ji];rfl
  rw[eL]at B;refine⟨D,_,Z,.inl ⟨aQ.of B,λm hm=>?_⟩⟩;let C:aJ H' (upd H' m<|HO.tup<|(xs.reverse.map λx => -x).map V.int):=aJ.upd hm;let Y:=(e1.trans e).trans C;refine⟨q,m,_,_,Z,Z,aY.of<|C _ _<|e _ _ aW,aY.of aW,by simp,by simp;exact Yr (Nat.add_le_add_left n.len 1)<|by rw[sizeLine_eq];decide,λz=>?_,λ_ p M=>?_⟩
  ·exact absurd ‹z› n.ne
  ·refine k p _ (Y.updR<|Y.free M) ?_;rw[aW];unfold cK;rw[Yh ⋯,Yh ⋯,Yh ⋯];rfl
 exists _,Z,r,_,_,_,Z,Z,aY.of u,gJ;refine⟨Z,_,Z,jF (λX=>?_)<|λX=>?_⟩
 ·show aX _ _ _ _ _ _ _ _;refine xA (K:=K) (b1:=true) (b2:=false) (a:=t) (b:=l) (xs:=xs) (ys:=ws) lQ (λx y=>.int<|x*y) (by rfl) ?_ (aY.of v) (aQ.of hl) (Yr n.len ∅) ?_ ?_ λD H' e B=>?_
  ·exact λR S=>⟨_,Z,_,Z,r,_,_,_,Z,Z,aY.of u,gH,S⟩
  ·exact λ_ _ _ h=>h
  ·exact λi H' R _ h=>⟨_,Z,_,Z,_,_,Z,Z,⟨rQ n.nn n.hi i,rQ wn wb i⟩,h⟩
  rw[yG]at B;refine⟨D,_,Z,aQ.of B,(by show 1<=sizeLine;decide),λq j=>?_⟩;let e1:aJ H' (upd H' q<|HO.tup [V.int<|dJ ws xs]):=aJ.upd j;let C:=e.trans e1;exists _,Z;refine⟨q,t,_,_,Z,Z,aY.of aW,aY.of<|C _ _ v,by simp,by simp;exact Yr (Nat.add_le_add_left n.len 1)<|by rw[sizeLine_eq];decide,λz=>?_,λ_ p M=>?_⟩
  ·exact absurd (List.map_eq_nil_iff.mp z) n.ne
  ·refine k p _ (C.updR<|C.free M) ?_;rw[aW];unfold cK;rw[Yh ⋯,Yl X];rfl
 ·refine⟨_,Z,k t H (aJ.refl _) ?_⟩;unfold cK;rw[Yl ⋯];exact v
def SS(F:dN K "_law_reduced" PZ f fd):Fq T 1 f fd Pf kL:=bW ["_law_top","_law_bottom","_law_one","_law_other","_law_rest"] F λsc=>by
 walk_at "o";rename_i F fF cF t b;walk_at "h";refine⟨_,(aT (bR 2 sc.nd<|gU xC rfl T.b_abs (by kernel_rfl)<|aP 0)
  (aT (bR 3 sc.nd<|pv 1)
  (aT (qY PassesOwn.never (bA wO (pv 3)<|aO) (aT (bR 4 sc.nd<|bB wY (pv 2)<|pv 3)
  (aT (bR 2 sc.nd<|pv 3)
  (aR<|bR 3 sc.nd<|pv 4))))
  (aR<|bJ<|gO<|aL (bB jC (pv 0)<|pv 2)<|aL (bB jC (pv 1)<|pv 2) aU)))),?_⟩
 let⟨b1,z,k⟩:=h;walk_at "rd";exists λm σ H'=>∃(i d:Int) (v:Option V),m=d.toNat/\σ=[some<|.int t,some<|.int b,some<|.int i,some<|.int d,v]/\H'=H/\0<=i/\0<=d/\Gc (if t<0 then -t else t) b i d,⟨_,_,_,none,Z,Z,Z,K1.start (by split <;> lia) ⋯⟩;rintro m σ H' ⟨i,d,v,rfl,rfl,rfl,u,h2,hg⟩;walk_at "rd";refine AH (λc=>?_)<|λc=>?_
 ·exists λl j=>∃n,l=[some<|.int t,some<|.int b,some<|.int d,some<|.int<|i.fmod d,n]/\j=H',?_
  ·rintro l j ⟨n,rfl,rfl⟩;exact⟨(i.fmod d).toNat,K1.less ⋯,_,_,n,rfl,rfl,rfl,K1.turn hg u ⋯⟩
  ·exists _,Z,_,Z,_,_,Z,Z,c;walk_at "rd";rfl
 ·let y:i=gI t b:=by rw[K1.out hg u c];have:=JY t b;rwa [Yh (by lia:¬b<0)]at this
  let gp:0<gI t b:=oO ⋯;let⟨q,p⟩:=xT (a:=t) (show b≠0 by lia) z;subst y;refine⟨_,Z,_,Z,_,_,Z,Z,⟨q,up p ∅⟩,_,Z,_,Z,_,_,Z,Z,⟨q,up p ∅⟩,(by show 2<=sizeLine;decide),λr hr=>?_⟩;let⟨x,ex⟩:=KJ (F:=F) (t:=t) (b:=b) ⋯;exact k x _ _ ex (aJ.upd hr)<|WG b1 aW ex
def z02(F:dN K "_law_number" PB f fd)(a:Cq T 1 "_law_reduced" Pf [] kL):Fq T 2 f fd Pb jD:=bW ["_law_p","_law_top","_law_bottom"] F λsc=>by
 walk_at "o";rename_i F d n i t;walk_at "h";refine⟨_,(aT (cW (bA oN (pv 0)<|aO) (aR<|bJ<|bB gS (pv 1)<|pv 0) cZ)
  (aR<|bJ<|bS a hr<|cO 1 2)),?_⟩
 let⟨j,k⟩:=h;walk_at "rd";refine cD (λc=>?_)<|λc=>?_
 ·refine⟨_,Z,_,Z,_,_,Z,Z,(by show 0<n;lia),k _ H (aJ.refl _)<|BV ⋯⟩
 ·let b:n=0:=by
   rcases j with z | z
   ·exact z
   ·have:=z.1;lia
  subst b;refine⟨_,Z,_,Z,F,d,i,t,1,Z,∅,Nat.one_lt_two_pow ∅,λx v H' e m l=>?_⟩;rw[cT]at e;exact k v H' m (by rw[<- e];rw[show x*1=x by grind];exact l)
def z1l(F:dN K "_law_add" N6 f fd)(j:Cq T 1 "_law_reduced" Pf [] kL):Fq T 2 f fd Pa nF:=bW ["_law_p","_law_a","_law_b"] F λsc=>by
 walk_at "o";rename_i F X n W v1 v2 x y;walk_at "h";refine⟨_,(aT (cW (bA oN (pv 0)<|aO) (aR<|bJ<|bB gS (bB jB (pv 1)<|pv 2)<|pv 0) cZ)
  (aR<|bJ<|bS j hr<|aL (bB jB (bB oB (cX K (pv 1)<|aO)<|cX K (pv 2)<|aO)<|bB oB (cX K (pv 2)<|aO)<|cX K (pv 1)<|aO)<|aL (bB oB (cX K (pv 1)<|aO)<|cX K (pv 2)<|aO) aU)),?_⟩
 let⟨Y,n9,J,L,N,R,k⟩:=h;walk_at "rd";refine cD (λc=>?_)<|λc=>?_
 ·let⟨a,rfl,a0,an,rfl⟩:=(iA<|show n≠0 by lia).mp J;let⟨b,rfl,b0,bn,rfl⟩:=(iA<|show n≠0 by lia).mp L;refine⟨_,Z,_,Z,_,_,Z,Z,_,Z,_,_,Z,Z,(by show 0<n;lia),k _ H (aJ.refl _) ?_⟩;rw[<- wT];exact BV ⋯
 ·let U:n=0:=by
   rcases Y with z | z
   ·exact z
   ·have:=z.1;lia
  subst U;let⟨p,p1,D,rfl,I,g1,_,ex,l,d⟩:=yP J N;let⟨r,p2,G,rfl,q,g2,_,M,C,i⟩:=yP L R;let u:∀{a:Int},a.natAbs<2^4000->a.natAbs<2^20000:=λh=>vJ h ∅;let B:=aY.of (K:=K) I;let m:=aY.of (K:=K) q;exists _,Z,p,_,_,_,Z,Z,B,gJ,_,Z,r,_,_,_,Z,Z,m,gH,_,_,Z,Z,⟨u l,u i⟩,_,Z,r,_,_,_,Z,Z,m,gJ,_,Z,p,_,_,_,Z,Z,B,gH,_,_,Z,Z,⟨u C,u d⟩,_,_,Z,Z;let q0:1<=D*G:=by have:=Int.mul_pos (show 0<D by lia) (show 0<G by lia);lia
  refine⟨_,Z,p,_,_,_,Z,Z,B,gH,_,Z,r,_,_,_,Z,Z,m,gH,_,_,Z,Z,⟨u d,u i⟩,F,X,W,_,_,Z,q0,IG d i,λz v H' O e S=>k v H' e ?_⟩;let w1:ic (F:=F) D≠0:=qQ (n:=0) λz=>by simp[zr]at z;lia
  let w2:ic (F:=F) G≠0:=qQ (n:=0) λz=>by simp[zr]at z;lia
  rw[show x+y=z by rw[wT,dE,dE,dE,<- ex,<- M]at O;grind]
  exact S
def z1w(F:dN K "_law_mul" N4 f fd)(d:Cq T 1 "_law_reduced" Pf [] kL):Fq T 2 f fd Pa mZ:=bW ["_law_p","_law_a","_law_b"] F λsc=>by
 walk_at "o";rename_i F X n W v1 v2 x y;walk_at "h";refine⟨_,(aT (cW (bA oN (pv 0)<|aO) (aR<|bJ<|bB gS (bB oB (pv 1)<|pv 2)<|pv 0) cZ)
  (aR<|bJ<|bS d hr<|aL (bB oB (cX K (pv 1)<|aO)<|cX K (pv 2)<|aO)<|aL (bB oB (cX K (pv 1)<|aO)<|cX K (pv 2)<|aO) aU)),?_⟩
 let⟨Y,n9,J,L,N,R,k⟩:=h;walk_at "rd";refine cD (λc=>?_)<|λc=>?_
 ·let⟨a,rfl,a0,an,rfl⟩:=(iA<|show n≠0 by lia).mp J;let⟨b,rfl,b0,bn,rfl⟩:=(iA<|show n≠0 by lia).mp L;refine⟨_,Z,_,Z,_,_,Z,Z,⟨zP ⋯,zP ⋯⟩,_,Z,_,_,Z,Z,(by show 0<n;lia),k _ H (aJ.refl _) ?_⟩;rw[<- dE];exact BV ⋯
 ·let U:n=0:=by
   rcases Y with z | z
   ·exact z
   ·have:=z.1;lia
  subst U;let⟨D,p1,q,rfl,B,g1,_,ex,l,i⟩:=yP J N;let⟨G,p2,r,rfl,m,g2,_,M,p,j⟩:=yP L R;let u:∀{a:Int},a.natAbs<2^4000->a.natAbs<2^20000:=λh=>vJ h ∅;let I:=aY.of (K:=K) B;let C:=aY.of (K:=K) m;exists _,Z,D,_,_,_,Z,Z,I,gJ,_,Z,G,_,_,_,Z,Z,C,gJ,_,_,Z,Z,⟨u l,u p⟩;let q0:1<=q*r:=by have:=Int.mul_pos (show 0<q by lia) (show 0<r by lia);lia
  refine⟨_,Z,D,_,_,_,Z,Z,I,gH,_,Z,G,_,_,_,Z,Z,C,gH,_,_,Z,Z,⟨u i,u j⟩,F,X,W,_,_,Z,q0,IG i j,λz v H' O e S=>k v H' e ?_⟩;let w1:ic (F:=F) q≠0:=qQ (n:=0) λz=>by simp[zr]at z;lia
  let w2:ic (F:=F) r≠0:=qQ (n:=0) λz=>by simp[zr]at z;lia
  rw[show x*y=z by rw[dE,dE,<- ex,<- M]at O;grind]
  exact S
def TV(F:dN K "_law_put" NQ f fd)(a:Cq T 2 "_law_number" Pb [] jD)(i:Cq T 2 "_law_add" Pa [] nF):Fq T 3 f fd Pk pK:=bW ["_law_p","_law_f","_law_term","_law_number_here","_law_both"] F λsc=>by
 walk_at "o";rename_i F U n S m d t v ap φ x l;walk_at "h";refine⟨_,(aT (bR 4 sc.nd<|bS i hr<|aL (pv 0)<|aL (L9 (dW hr) (pv 1) (pv 2) (bS a hr<|aL (pv 0)<|aL aO<|aL aO aU) ⟨Z,Z,Z,Z⟩)<|aP 3)
  (aT (sU (dW hr) (pv 1) (pv 2) (pv 4) Z)
  (aR<|cW (bA (yH hr.units) (pv 4)<|bS a hr<|aL (pv 0)<|aL aO<|aL aO aU) (aR<|iR<|FG (dW hr) (pv 1)<|aP 2) cZ))),?_⟩
 let⟨W,n9,R,L,M,l0,O,lp,lx,lk,k⟩:=h;refine dX λrr j=>?_;refine⟨_,Z,_,Z,d,Z,.inr ⟨_,.inl R⟩,_,Z,_,Z,F,U,n,S,0,Z,W,λu H1 e1 hu=>?_⟩;rw[gT]at hu;let rg:bY n H1 ((bK ap<|ky l).getD u) (φ l):=by
  cases q:bK ap (ky l) with
  | none=>rw[L.out l q];exact hu
  | some v=>exact((L.same e1).val l v q).1
 refine⟨_,fM.t (k:=ky l) (e1 _ _ R)<|by rw[hZ];exact e1 _ _ M,_,Z,F,U,n,S,_,v,φ l,x,Z,W,n9,rg,O.same e1,lp,lx,λc p e2 N=>?_⟩;dsimp only[bD];subst j;let I:=e1.trans e2;let D:=I _ _ R;refine dX λrr j=>?_;exists _,Z,_,Z,_,Z,d,_,Z,hJ.t (k:=ky l) D (by rw[hZ];exact I _ _ M)<|gY _ ⋯;subst j;let J:cR p (upd p d<|.dT<|bE ap (ky l) c):=jZ D;let r:(upd p d<|HO.dT<|bE ap (ky l) c) d=some (.dT<|bE ap (ky l) c):=aW;let X:Kp [d] p (upd p d<|.dT<|bE ap (ky l) c):=Kp.upd (by simp);generalize upd p d (HO.dT<|bE ap (ky l) c)=H3 at J r X;let lp:=sZ ap (ky l) c;refine⟨_,Z,_,Z,F,U,n,S,0,Z,W,λu2 H4 G y=>?_⟩;rw[gT]at y;let b:=G _ _ r;let Y:Kp [d] H H4:=((Kp.of I).tr X).tr (.of G);let B:=((L.same I).fix J).same G;let C:=(N.fix J).same G;let⟨dn,z0,rd,rz,s1,s2,eq⟩:=yS (K:=K) C y;exists dn,z0,rd,rz,s1,s2,_,Z;rcases eq with⟨z,q⟩ | ⟨z,q⟩
 ·rw[q];refine dQ ?_;let O:bK (bE ap (ky l) c) (ky l)=some c:=by rw[ML,Yl Z]
  refine⟨_,Z,.inr<|.inr<|.inl ⟨Z,.inr ⟨_,b⟩⟩,_,Z,d,t,_,ky l,c,Z,Z,b,by rw[hZ];exact G _ _<|J.tup _ _<|I _ _ M,O,?_⟩;refine k _ _ (Y.tr<|Kp.upd<|by simp) aW ?_ ?_
  ·rw[LZ,z];exact(B.drop l).fix (jZ b)
  ·rw[LZ];have:=FK ap<|ky l;lia
 ·rw[q];exact cA<|k _ _ Y b (B.put l0 C z) ⋯
def z2h(F:dN K "_law_times" OS f fd)(a0:Cq T 2 "_law_mul" Pa [] mZ)(O:Cq T 3 "_law_put" Pk [] pK):Fq T 6 f fd Px pJ:=bW ["_law_p","_law_f","_law_g","_law_found","_law_one","_law_a","_law_other","_law_b","_law_both"] F λsc=>by
 walk_at "o";rename_i F fF n cF m e1 B o v x d ψ;walk_at "h";refine⟨_,(aT (bR 3 sc.nd oP)
  (aT (wS (gE (yZ<|pv 1) (uZ rfl<|mM (eQ 4 sc.nd)<|mM (eQ 5 sc.nd) vD) (aR (wS (gE (yZ<|pv 2) (uZ rfl<|mM (eQ 6 sc.nd)<|mM (eQ 7 sc.nd) vD) (aT (bR 8 sc.nd<|mJ K T.b_tuple<|aL (iB (N:=["_law_x","_law_y"]) (eK.pl QJ) rfl (wX (K:=K) rfl true true rfl T.b_zip<|cO 4 6) (λC0 s0 H0 c3=>wR (K:=K) rfl rfl rfl QJ rfl rfl) (λC0 s0 H0 c3=>gZ)<|λC0 s0 H0 c3=>bB jB (pv 0)<|pv 1) aU)
  (aR<|iR<|bS O hr<|aL (pv 0)<|aL (pv 3)<|aL (pv 8)<|aL (bS a0 hr<|nQ 0 5 7) aU)))))))
  (aR<|bJ<|pv 3))),?_⟩
 let⟨n2,n9,m4,a1,h1,o0,hv,x0,h2,pg,lx,b5,lk,k⟩:=h;refine dX λrr a7=>?_;intro L J;let⟨H2,uq,g2,c0⟩:=cS J<|.dT [];dsimp only[bD];rw[uq];subst a7;let a9:=g2 _ _ h1;refine⟨_,rfl,e1,_,rfl,.inl a9,λoz=>?_⟩;let d1:L≠e1:=λz=>eE h1 J z.symm;let d2:L≠B:=λz=>eE h2 J z.symm;refine zE (tb:=λD σ H=>oU (IJ<|eZ 2) _ _ (hE.thw _ D) σ H) (λi σ H'=>i<=1/\(∃v4 v5 v6 v7 v8,σ=[some<|.int n,some<|.ref e1,some<|.ref B,some<|.ref L,v4,v5,v6,v7,v8])/\mI H' e1 oz [(ky o,v)]/\Kp [L,e1] H2 H'/\∃C,H' L=some (.dT C)/\PF n m H' C (λt=>if i=0 then 0 else x*sh o ψ t)/\C.length<=if i=0 then 0 else d.length) ?_ (λi σ H' h=>h.2.2.1) ?_ ?_
 ·exact⟨Y2 _,⟨none,none,none,none,none,Z⟩,aW,Kp.upd<|by simp,[],(aV d1).trans c0,PF.nil.congr λt=>by rw[Yl Z],Yi _⟩
 ·rintro i kx vx σ H4 p b hk ⟨hi,⟨v4,v5,v6,v7,v8,rfl⟩,hz,G,C,a5,pk,Y⟩ hp hb;let i0:i=0:=by
   rcases i with _ | i
   ·rfl
   ·simp at hk
  subst i0;let hk:(ky o,v)=(kx,vx):=by simpa using hk
  injection hk with hk1 hk2
  subst hk1 hk2;rw[Yl Z]at Y;exists p,_,Z,aY.of aW,Z,_,_,Z,_,_,Z,Z;obtain⟨H5,uq,e5,-⟩:=cS hp<|.tup [.ref b,v];rw[uq];let c1:=e5 _ _ hb;rw[hZ]at c1;let b0:cR H H5:=(cR.of g2).tr ((G.fix λa M ob q=>by
   rcases Yj.mp M with rfl | M
   ·rw[c0]at q;cases q;exact .inl ⟨_,Z⟩
   ·rw[Yq.mp M,a9]at q;cases q;exact .inl ⟨_,Z⟩).tr (.of e5))
  let a8:H5 B=some (.dT d):=e5 _ _<|G _ _ (g2 _ _ h2) (by simp[Ne.symm d2,Ne.symm a1]);let b8:=e5 _ _ a5;let c6:=e5 _ _ hz;refine⟨_,Z,B,d,Z,.inl a8,λoy=>?_⟩;let d3:=pg.tnd;let c5:=qH d;refine zE (tb:=lR _ _) (λj σ H'=>j<=d.length/\(∃v6 v7 v8,σ=[some<|.int n,some<|.ref e1,some<|.ref B,some<|.ref L,some<|.ref b,some v,v6,v7,v8])/\mI H' B oy d/\Kp [L,B] H5 H'/\∃C,H' L=some (.dT C)/\PF n m H' C (λt=>x*sh o (dY ψ<|(fQ d).take j) t)/\C.length<=j) ?_ (λi σ H' h=>h.2.2.1) ?_ ?_
  ·refine⟨Y2 _,⟨_,_,_,Z⟩,aW,Kp.upd<|by simp,C,(aV d2).trans b8,((pk.same e5).fix (jZ a8)).congr λt=>?_,Y⟩;rw[Yl Z,List.take_zero,B9];unfold sh;split <;> grind
  ·rintro j kx vx σ H6 p2 c hk ⟨hj,⟨v6,v7,v8,rfl⟩,U,I,a2,a6,W,c4⟩ d5 hc;let⟨y,rfl,y0,hy,iy,ny⟩:=pg.ix hk;let c7:=eR hk;let d8:=A4 d3 hy;let tk:=sX hy;exists p2,_,rfl,aY.of aW,rfl,_,_,rfl,_,_,rfl,rfl;obtain⟨H7,uq,e7,-⟩:=cS d5<|.tup [.ref c,vx];rw[uq];let b6:=e7 _ _ hc;rw[hZ]at b6;let a4:cR H5 H7:=(I.fix λa M ob q=>by
    rcases Yj.mp M with rfl | M
    ·rw[b8]at q;cases q;exact .inl ⟨_,Z⟩
    ·rw[Yq.mp M,a8]at q;cases q;exact .inl ⟨_,Z⟩).tr (.of e7)
   let d6:=a4.tup _ _ c1;refine dX λrr a7=>?_;show aX _ _ _ _ _ _ _ _;refine xA (K:=K) (b1:=true) (b2:=true) (a:=b) (b:=c) (xs:=o) (ys:=y) lQ (λx y=>.int<|x+y) (by rfl) ?_ (aY.of d6) (aY.of b6) (by rw[o0.len];lia) ?_ ?_ λD H8 e8 hL=>?_
   ·exact λR hR=>⟨_,Z,_,Z,hR⟩
   ·exact λ_ _ _ h=>h
   ·exact λi H' R _ h=>⟨_,Z,_,Z,_,_,Z,Z,h⟩
   rw[yG]at hL;refine⟨D,_,Z,.inl ⟨aQ.of hL,λbt d7=>?_⟩⟩;let⟨H9,uq,e9,c8⟩:=cS d7<|.tup<|(List.zipWith (λx y=>x+y) o y).map V.int;dsimp only[bD];rw[uq];subst a7;let a3:=e8.trans e9;let c9:=e7.trans a3;let z0:x*sh o (dY ψ<|(fQ d).take j) (aM o y)=0:=by rw[wP<|by rw[y0.len,o0.len],FL d8];grind
   let b4:∀z:F,cL n 1000 z->cL n 4000 z:=λ_ h=>h.up ∅;refine⟨_,Z,_,Z,_,Z,_,Z,_,Z,_,Z,F,fF,n,cF,v,vx,x,ψ y,Z,n2,n9,(hv.fix<|b0.tr a4).same a3,(iy.fix<|b0.tr a4).same a3,b4 _ lx,b4 _<|b5 y,λvm H10 b9 d4=>?_⟩;let X:=c9.trans b9;refine⟨F,fF,n,cF,m,L,bt,vm,a2,_,x * ψ y,aM o y,Z,n2,n9,X _ _ a6,W.same X,b9 _ _ c8,T0.add o0 y0,d4,by rw[z0];exact cL.zero ∅,(lx.mul<|b5 y).up ∅,⋯,λH11 b7 c2 b3 d9 l11=>?_⟩;refine⟨c7,⟨_,_,_,Z⟩,c2 _ _ (X _ _ U)<|by simp[Ne.symm d2],(I.tr<|.of X).tr (c2.sub λa M=>by simp at M;simp[M]),b7,b3,d9.congr λu=>?_,⋯⟩;have:=congrFun (NE (x:=x) (l:=o) (ψ:=ψ) (S:=(fQ d).take j) (u:=y)<|by rw[y0.len,o0.len]) u;rw[tk,<- this,z0,show (0:F)+x * ψ y=x * ψ y by grind]
  ·rintro σ H6 ⟨_,⟨v6,v7,v8,rfl⟩,U,I,a2,a6,W,c4⟩;rw[<- c5,List.take_length,B3 λt ht=>pg.tmem.mpr ht]at W;let f6:cR H6 (upd H6 B<|.dT d):=xB (u:=.dT []) U<|.inr<|.inr ⟨_,_,rfl⟩;refine .inr ⟨B,oy,_,U,λo' w' z=>?_,⟨Yi _,⟨_,_,_,_,_,rfl⟩,(aV a1).trans (I _ _ c6<|by simp[Ne.symm d1,a1]),λb' ob r nb=>?_,a2,(aV d2).trans a6,(W.fix f6).congr λt=>by rw[Yh ∅],by rw[Yh ∅];lia⟩⟩
   ·let z':H B=some (.frz o' w'):=z;rw[h2]at z';cases z'
   ·by_cases c:b'=B
    ·subst c;rw[aW,<- g2 _ _ h2];exact r
    ·rw[aV c];simp at nb;exact I _ _ (e5 _ _<|G _ _ r<|by simp[nb]) (by simp[nb,c])
 ·rintro σ H4 ⟨_,⟨v4,v5,v6,v7,v8,rfl⟩,hz,G,C,a5,pk,Y⟩;let f4:cR H4 (upd H4 e1<|.dT [(ky o,v)]):=xB (u:=.dT []) hz<|.inr<|.inr ⟨_,_,rfl⟩;refine .inr ⟨e1,oz,_,hz,λo' w' z=>?_,_,rfl,k L _ C J (λb' ob r=>?_) ((aV d1).trans a5) ((pk.fix f4).congr λt=>by rw[Yh<|by simp])<|by rwa [if_neg<|by simp]at Y⟩
  ·let z':H e1=some (.frz o' w'):=z;rw[h1]at z';cases z'
  ·by_cases c:b'=e1
   ·subst c;rw[aW,<- h1];exact r
   ·rw[aV c];exact G _ _ (g2 _ _ r) (by simp[c];exact λz=>by rw[z,J]at r;cases r)
def V4(F:dN K "_law_small" OL f fd)(a:Cq T 1 "_law_reduced" Pf [] kL):Fq T 2 f fd Pj mU:=bW ["_law_p","_law_cell"] F λsc=>by
 walk_at "o";rename_i F i n d c;walk_at "h";refine⟨_,(aT (cW (bA oN (pv 0)<|aO) (aR<|bJ<|bB gS (pv 1)<|pv 0) cZ)
  (aR<|bJ<|bS a hr<|aL (bB yF (bB gS (pv 1)<|aO)<|aO)<|aL (bB jB aO<|bB gS (bB wU (pv 1)<|aO)<|aO) aU)),?_⟩
 let⟨l,k⟩:=h;walk_at "rd";refine cD (λj=>?_)<|λj=>?_
 ·refine⟨_,Z,_,Z,_,_,Z,Z,(by show 0<n;lia),k (ic c) _ H (λz=>⋯) (aJ.refl _)<|BV ⋯⟩
 ·let b:n=0:=by
   rcases l with z | z
   ·exact z
   ·have:=z.1;lia
  subst b;refine⟨_,Z,_,_,Z,Z,(by show (0:Int)<19;decide),_,_,Z,Z,_,Z,_,_,Z,Z,⟨∅,∅⟩,_,_,Z,Z,(by show (0:Int)<3;decide),_,_,Z,Z,F,i,d,_,_,Z,⋯,Yp (show _<=3 by lia)<|Yf (by decide:3<2^2)<|Yv ∅ ∅,λx v H' ex e m=>k x v H' (λ_=>?_) e m⟩;rcases(by lia:c / 19%3=0\/c / 19%3=1\/c / 19%3=2) with q | q | q <;> rw[q]at ex
  ·exact⟨(c%19-9)*6,by rw[dE,<- ex,show (1:Int)+0=1 from rfl,cT];grind,⋯⟩
  ·exact⟨(c%19-9)*3,by rw[dE,<- ex,show (6:Int)=(1+1)*3 from rfl,dE];grind,⋯⟩
  ·exact⟨(c%19-9)*2,by rw[dE,<- ex,show (6:Int)=(1+2)*2 from rfl,dE];grind,⋯⟩
def z2x(F:dN K "_law_not_nought" QL f fd):Fq T 1 f fd Pj vK:=bW ["_law_p","_law_cell"] F λsc=>by
 walk_at "o";rename_i F fF n cF c;walk_at "h";refine⟨_,(aT (cW (bA oN (pv 0)<|aO) (aR<|bJ<|MF (bA oN (pv 0)<|aO) (bB jB aO<|bB gS (pv 1)<|bB yF (pv 0)<|aO)<|aO) cZ)
  (aR<|bJ<|gW K (iH<|aL (gO<|aL aO<|aL aO aU)<|aL (gO<|aL (sN sP aO)<|aL aO aU)<|aL (gO<|aL aO<|aL aO aU)<|aL (gO<|aL aO<|aL aO aU)<|aL (gO<|aL (sN sP aO)<|aL aO aU) aU)<|bB gS (pv 1)<|aO)),?_⟩
 let⟨i,k⟩:=h;walk_at "rd";refine cD (λc0=>?_)<|λc0=>?_
 ·walk_at "rd";refine cD (λN=>?_)<|λN=>?_
  ·let b0:=Jn c (show n-1≠0 by lia);let b1:=Jd c (show 0<n-1 by lia);refine⟨_,Z,_,Z,_,_,Z,Z,_,_,Z,Z,(by show 0<n-1;lia),_,_,Z,Z,k (ic<|1+c%(n-1)) _ H (qQ (n:=n) λz=>?_) (λz=>⋯) (aJ.refl _)<|(iA ⋯).mpr ⟨_,Z,⋯,⋯,Z⟩⟩;unfold zr at z;rw[Yh ⋯,Int.emod_eq_of_lt ⋯ ⋯]at z;lia
  ·exact k 1 _ H KF (λz=>⋯) (aJ.refl _) ((iA ⋯).mpr ⟨1,Z,∅,by
    rcases i with z | z
    ·lia
    ·exact Int.lt_of_lt_of_le ∅ z.1,cT.symm⟩)
 ·let n0:n=0:=by
   rcases i with z | z
   ·exact z
   ·have:=z.1;lia
  subst n0;refine⟨(by show 2<=sizeLine;decide),λI C=>?_⟩;let⟨H1,a,e1,Y⟩:=cS C<|.tup [.int 1,.int 1];rw[a];refine⟨_,Z,(by show 2<=sizeLine;decide),λp2 i=>?_⟩;let⟨H2,a,L,h2⟩:=cS i<|.tup [.int<|-1,.int 1];rw[a];refine⟨(by show 2<=sizeLine;decide),λD n3=>?_⟩;let⟨H3,a,R,B⟩:=cS n3<|.tup [.int 2,.int 1];rw[a];refine⟨(by show 2<=sizeLine;decide),λS G=>?_⟩;let⟨H4,a,y,h4⟩:=cS G<|.tup [.int 3,.int 2];rw[a];refine⟨_,Z,(by show 2<=sizeLine;decide),λp5 M=>?_⟩;let⟨H5,a,j,h5⟩:=cS M<|.tup [.int<|-5,.int 7];rw[a];refine⟨(by show 5<=sizeLine;decide),λl X=>?_⟩;let⟨m,a,d,b⟩:=cS X<|.lst [.ref I,.ref p2,.ref D,.ref S,.ref p5];rw[a];exists _,Z,_,_,Z,Z,(by show (0:Int)<5;decide);let v:=(R.trans y).trans (j.trans d);let u:=(L.trans v);let fin:∀(r:Lh) (p q:Int),m r=some (.tup [.int p,.int q])->1<=q->gI p q=1->p≠0->p.natAbs<=7->q.natAbs<=7->Q (.ref r) m:=λr p q hr W g J O U=>by let⟨x,x0,sx,rx⟩:=z13 (F:=F) hr W g J O U;exact k x _ _ x0 sx (e1.trans u) rx
  rcases(by lia:c%5=0\/c%5=1\/c%5=2\/c%5=3\/c%5=4) with z | z | z | z | z <;> rw[z]
  ·exact⟨l,_,_,_,Z,Z,aQ.of b,Z,fin _ _ _ (u _ _ Y) ∅ ∅ ∅ ∅ ∅⟩
  ·exact⟨l,_,_,_,Z,Z,aQ.of b,Z,fin _ _ _ (v _ _ h2) ∅ ∅ ∅ ∅ ∅⟩
  ·exact⟨l,_,_,_,Z,Z,aQ.of b,Z,fin _ _ _ ((y.trans<|j.trans d) _ _ B) ∅ ∅ ∅ ∅ ∅⟩
  ·exact⟨l,_,_,_,Z,Z,aQ.of b,Z,fin _ _ _ ((j.trans d) _ _ h4) ∅ ∅ ∅ ∅ ∅⟩
  ·exact⟨l,_,_,_,Z,Z,aQ.of b,Z,fin _ _ _ (d _ _ h5) ∅ ∅ ∅ ∅ ∅⟩
def V5(F:dN K "_law_unit" N9 f fd)(b:Cq T 2 "_law_number" Pb [] jD):Fq T 3 f fd Pp jJ:=bW ["_law_p","_law_size","_law_at"] F λsc=>by
 walk_at "o";rename_i F I n G sz a;walk_at "h";exists _,(aR<|bJ<|iB (N:=["_law_k","_law_at","_law_p"]) (cl:=[("_law_p",s.heap.objs.size+1),("_law_at",s.heap.objs.size+2)]) (mp:=[none,some 2,some 0]) (eK.of rfl nofun rfl nofun Q6 (iD rfl<|iD rfl lM) (lI (fs:=["_law_p","_law_at"]) rfl nofun) rfl (kZ<|iE rfl (.inl rfl) rfl<|iE rfl (.inl rfl) rfl lL)) rfl (iI rfl T.b_range<|aP 1) (λp l j d=>iT (i:=0) Q6 rfl rfl) (λp l j d=>gZ)<|λp l j d=>bS b hr<|aL (pv 2)<|aL (oT MV rfl T.b_int (by kernel_rfl)<|aL (kR hY (pv 0)<|pv 1) aU)<|aL aO aU);let⟨M,s100,k⟩:=h;show aX _ _ _ _ _ _ _ _;refine sY (H1:=H) (xF 0 sz) ⋯ ?_ (λσ=>∃v,σ=[v,some<|.int a,some<|.int n]) (λ_=>true) (λi v H'=>bY n H' v<|if i=a then(1:F) else 0) (λi v H1 J e h=>h.same e) (λi v H1 a y1 y2 S h=>h.fix<|mO S) ⟨none,Z⟩ ?_ λD H' ys q e y m=>?_
 ·exact λR x=>⟨_,Z,(sz:Int),Z,⋯,⋯,by rw[Y1];exact x⟩
 ·rintro i v σ' J hi ⟨z,rfl⟩ e2 C Ny Nn O hn;obtain rfl:=C;unfold eH;dsimp only[bD];rw[Yl Z];refine⟨_,rfl,_,rfl,_,rfl,rfl,.inr ⟨_,rfl,F,I,n,G,_,rfl,M,λu r B L=>O u _ r ⟨_,rfl⟩ B ?_ rfl⟩⟩;rw[show (if i=a then(1:F) else 0)=ic (if decide (V.int (0+(i:Int))=V.int a)=true then 1 else 0) from ?_]
  ·exact L
  ·by_cases c:i=a
   ·rw[Yl c,Yl<|Yo<|by rw[c,Int.zero_add],cT]
   ·rw[Yh c,Yh<|by rw[decide_eq_true_eq];intro z;injection z with z;lia,gT]
 ·rw[Yu.mpr<|λ_ _=>Z]at m;exact k D ys H' q e y m
def WU(F:dN K "_law_whole" ON f fd):Fq T 1 f fd ["_law_found"] mQ:=bW ["_law_found"] F λsc=>by walk_at "o";rename_i i;walk_at "h";exists _,(aR<|bJ<|JC (gU (zH (K:=K) rfl) rfl T.b_isinstance (by kernel_rfl)<|aL (pv 0)<|aL (yM (v:=.ty "int") rfl T.b_int (by kernel_rfl) Z) aU)<|JX<|IU<|gU (zH (K:=K) rfl) rfl T.b_isinstance (by kernel_rfl)<|aL (pv 0)<|aL (yM (v:=.ty "bool") rfl T.b_bool (by kernel_rfl) Z) aU);exact⟨_,Z,_,_,_,_,_,Z,Z,.int i,T.kii,_,Z,dQ ⟨_,Z,_,_,_,_,_,Z,Z,.int i,T.kib,_,Z,h⟩⟩
def z12(F:dN K "_law_is_number" QV f fd)(b:Cq T 1 "_law_whole" ["_law_found"] [] mQ):Fq T 2 f fd ["_law_p","_law_found"] tO:=bW ["_law_p","_law_found"] F λsc=>by
 walk_at "o";rename_i F fF n cF v x;walk_at "h";refine⟨_,(aT (cW (bA oN (pv 0)<|aO) (aR<|bJ<|bS b hr<|aP 1) cZ)
  (aT (cW (PW.pt<|sL (oA<|lK<|gU (zH (K:=K) rfl) rfl T.b_isinstance (by kernel_rfl)<|aL (pv 1)<|aL (yM (v:=.ty "tuple") rfl T.b_tuple (by kernel_rfl) Z) aU)<|uW<|bA wO (iQ K T.b_len<|aP 1)<|aO) (aR<|bJ jA) cZ)
  (aR<|bJ<|JC (bS b hr<|aL (cX K (pv 1)<|aO) aU)<|JX<|bS b hr<|aL (cX K (pv 1)<|aO) aU))),?_⟩
 let⟨l,i,k⟩:=h;walk_at "rd";refine cD (λc=>?_)<|λc=>?_
 ·let j:n≠0:=by lia
  let⟨a,rfl,a0,a1,ea⟩:=(iA j).mp i;exact⟨_,Z,a,Z,k⟩
 ·obtain rfl:=z3h l c;let⟨r,p,q,rfl,d,q1,g1,e1⟩:=fG.mp i;refine⟨_,Z,_,_,_,_,_,Z,Z,.tup d,T.ktt,_,Z,cA ?_⟩;refine⟨_,Z,r,_,Z,.inr<|aY.of d,Z,_,Z,cA ?_⟩;refine⟨_,Z,r,_,_,_,Z,Z,aY.of d,gJ,p,Z,_,Z,dQ ?_⟩;exact⟨_,Z,r,_,_,_,Z,Z,aY.of d,gH,q,Z,k⟩
def z1a(F:dN K "_law_is_table" PP f fd)(b:Cq T 2 "_law_is_number" ["_law_p","_law_found"] [] tO):Fq T 3 f fd P2 tN:=bW ["_law_p","_law_found","_law_size","_law_row"] F λsc=>by
 walk_at "o";rename_i F fF n Y D ws sz;walk_at "h";refine⟨_,(aT (cW (PW.pt<|sL (oA<|lK<|gU (zH (K:=K) rfl) rfl T.b_isinstance (by kernel_rfl)<|aL (pv 1)<|aL (yM (v:=.ty "list") rfl T.b_list (by kernel_rfl) Z) aU)<|uW<|bA wO (iQ K T.b_len<|aP 1)<|pv 2) (aR<|bJ jA) cZ)
  (aT (gE (jI (K:=K) rfl<|pv 1) (eQ 3 sc.nd) (aT (cW (PW.pt<|sL (oA<|lK<|gU (zH (K:=K) rfl) rfl T.b_isinstance (by kernel_rfl)<|aL (pv 3)<|aL (yM (v:=.ty "list") rfl T.b_list (by kernel_rfl) Z) aU)<|uW<|bA wO (iQ K T.b_len<|aP 3)<|pv 2) (aR<|bJ jA) cZ)
  (aR<|cW (oA<|lK<|gU (F0 (K:=K) rfl rfl) rfl T.b_all (by kernel_rfl)<|aL (iB (N:=["_law_number_here","_law_p"]) (cl:=[("_law_p",s.heap.objs.size+1)]) (mp:=[none,some 0]) (eK.of rfl nofun rfl nofun Q7 (iD rfl lM) (lI (fs:=["_law_p"]) rfl nofun) rfl (kZ<|iE rfl (.inl rfl) rfl lL)) rfl (jI (K:=K) rfl<|pv 3) (λG B u d=>iT (i:=0) Q7 rfl rfl) (λG B u d=>gZ)<|λG B u d=>bS b hr<|cO 1 0) aU) (aR<|bJ jA) cZ)))
  (aR<|bJ jA))),?_⟩
 let⟨n2,q,lw,s100,hw,k⟩:=h;refine⟨_,Z,_,_,_,_,_,Z,Z,.lst q,T.kll,_,Z,cA ?_⟩;exists _,Z,D,_,Z,.inl<|aQ.of q,_,Z,Z,_,Z;refine AH (λc=>absurd (by rw[lw]) c)<|λ_=>?_;exists _,Z,D,Z,⟨_,aQ.of q⟩;refine vF (K:=K) (a:=D) (xs:=ws) (λi σ H'=>(∃v,σ=[some<|.int n,some<|.ref D,some<|.int sz,v])/\aJ H H') ⟨⟨none,Z⟩,aJ.refl _⟩ (λi σ H' _ h=>aQ.of<|h.2 _ _ q) ?_ ?_
 ·rintro i x σ r W ⟨⟨v,rfl⟩,p⟩;let⟨l,ρ,bs,rfl,rr,O⟩:=hw x<|Yx W;let⟨ys,m,C⟩:=rr.same p;let U:ys.length=sz:=by rw[<- Paired.length C,O]
  dsimp only[bD];refine⟨_,Z,_,_,_,_,_,Z,Z,.lst m,T.kll,_,Z,cA ?_⟩;exists _,Z,l,_,Z,.inl<|aQ.of m,_,Z,Z,_,Z;refine AH (λc=>absurd (by rw[U]) c)<|λ_=>?_;show aX _ _ _ _ _ _ _ _;refine vH (J:=lF K l) (H1:=r) (oQ<|aQ.of m) ⋯ ?_ (λσ=>∃v,σ=[v,some<|.int n]) (λ_=>true) (λi=>.bl true) ⟨none,Z⟩ ?_ λL H3 S y=>?_
  ·exact λR I=>⟨_,Z,l,Z,⟨_,aQ.of m⟩,I⟩
  ·rintro j v σ' H4 hj ⟨z,rfl⟩ e4 X Ny Nn hy hn;let⟨t,_,M⟩:=cV C X;unfold eH;dsimp only[bD];rw[Yl Z];exact⟨_,rfl,_,rfl,F,fF,n,Y,v,_,rfl,n2,M.same e4,hy _ H4 ⟨_,rfl⟩ (aJ.refl _) Z⟩
  rw[Yu.mpr<|λ_ _=>Z]at y;exists L,(List.range ys.length).map λ_=>true,Z,aQ.of (by rw[y,Ji];rfl);rw[MO];exact⟨_,Z,cA ⟨⟨_,Z⟩,p.trans S⟩⟩
 ·rintro σ r ⟨⟨v,rfl⟩,p⟩;exact k r p
def z0r(F:dN K "_law_through" QG f fd)(y:Cq T 2 "_law_number" Pb [] jD)(L:Cq T 2 "_law_mul" Pa [] mZ)(a5:Cq T 2 "_law_add" Pa [] nF):Fq T 6 f fd Pl oZ:=bW ["_law_p","_law_row","_law_rows","_law_found","_law_k","_law_j"] F λsc=>by
 walk_at "o";rename_i F fF n cF U Rl bs X M ws;walk_at "h";refine⟨_,(aT (B2 (N:=["_law_k","_law_p"]) (cl:=[("_law_p",s.heap.objs.size+1)]) (mp:=[none,some 0]) (eQ 3 sc.nd) (eK.of rfl nofun Z nofun xG (iD rfl lM) (lI (fs:=["_law_p"]) Z nofun) Z (kZ<|iE rfl (.inl rfl) rfl lL)) rfl (iI rfl T.b_range<|aL (iQ K T.b_len<|aP 1) aU) (λC0 s0 H0 b2=>iT (i:=0) xG rfl rfl) (λC0 s0 H0 b2=>gZ)<|λC0 s0 H0 b2=>bS y hr<|aL (pv 1)<|aL aO<|aL aO aU)
  (aT (gE (iI rfl T.b_range<|aL (iQ K T.b_len<|aP 1) aU) (eQ 4 sc.nd)<|aR<|cW (bA (yJ hr.units) (gW K (pv 1)<|pv 4)<|bS y hr<|aL (pv 0)<|aL aO<|aL aO aU) (aR<|gE (iI rfl T.b_range<|aL (iQ K T.b_len<|aP 1) aU) (eQ 5 sc.nd)<|aR<|z0v (bS a5 hr<|aL (pv 0)<|aL (gW K (pv 3)<|pv 5)<|aL (bS L hr<|aL (pv 0)<|aL (gW K (pv 1)<|pv 4)<|aL (gW K (gW K (pv 2)<|pv 4)<|pv 5) aU) aU)<|z09 (pv 3) (pv 5) WV) cZ)
  (aR<|bJ<|pv 3))),?_⟩
 let⟨n2,n9,b6,c1,b8,hp,a4,O,k⟩:=h;let⟨rs,x,b1⟩:=c1;let r:rs.length=bs.length:=(Paired.length b1).symm;refine dX λrr c4=>?_;show aX _ _ _ _ _ _ _ _;refine sY (H1:=H) (xF 0 bs.length) ⋯ ?_ (λσ=>∃v,σ=[v,some<|.int n]) (λ_=>true) (λi v H'=>bY n H' v (0:F)) (λi v H1 H2 e h=>h.same e) (λi v H1 a y1 y2 ha h=>h.fix<|mO ha) ⟨none,Z⟩ ?_ λC H1 ys a8 e1 b7 W=>?_
 ·exact λR hR=>⟨_,Z,U,_,Z,.inl<|aQ.of x,_,Z,⋯,by rw[r];lia,by rw[r,Y1];exact hR⟩
 ·rintro i v σ' H2 G ⟨z,rfl⟩ e2 hv Ny Nn hy hn;unfold eH;dsimp only[bD];rw[Yl Z];exact⟨_,rfl,F,fF,n,cF,0,rfl,n2,λu H3 e3 m=>hy u _ H3 ⟨_,rfl⟩ e3 (by rw[gT]at m;exact m) Z⟩
 rw[Yu.mpr<|λ_ _=>Z]at W;dsimp only[bD];subst c4;let a9:=e1 _ _ x;let g1:∀i:Nat,i<bs.length->∃u,rs[i]?=some u/\bY n H u (X<|bs.getD i []):=λi G=>by let m:rs[i]?=some (rs[i]'⋯):=Yc _;let⟨t,ht,q⟩:=cV b1 m;exact⟨_,m,by rw[show bs.getD i []=t by simp[List.getD,ht]];exact q⟩
 let g2:∀i j:Nat,i<bs.length->j<bs.length->∃l ls u,ws[i]?=some (.ref l)/\H l=some (.lst ls)/\ls[j]?=some u/\bY n H u (M (bs.getD i [])<|bs.getD j []):=λi j G hj=>by let hw:ws[i]?=some (ws[i]'(by rw[<- Paired.length hp];exact G)):=Yc _;let⟨t,ht,l,e,ls,h1,h2⟩:=cV hp hw;let m:ls[j]?=some (ls[j]'(by rw[<- Paired.length h2];exact hj)):=Yc _;let⟨t',c2,q⟩:=cV h2 m;exact⟨l,ls,_,by rw[hw,e],h1,m,by rw[show bs.getD i []=t by simp[List.getD,ht],show bs.getD j []=t' by simp[List.getD,c2]];exact q⟩
 let gm:∀i:Nat,i<bs.length->bs.getD i []∈bs/\bs.take (i+1)=bs.take i++[bs.getD i []]:=λi G=>by
  have:bs[i]?=some (bs.getD i []):=by simp[List.getD,G]
  exact⟨Yx this,sX this⟩
 let lS:∀i t,cL n 4000 (sm (λb=>X b * M b t)<|bs.take i):=λi t=>(z1t a4 t (by rw[List.length_take];lia) λb hb=>O b<|List.mem_of_mem_take hb).up ∅;let kf:∀{H':Hp},Kp [C] H1 H'->aJ H H':=λkp b o hb=>kp b o (e1 _ _ hb) (by simp;exact λz=>by rw[z,a8]at hb;cases hb);refine⟨_,Z,U,_,Z,.inl<|aQ.of a9,_,Z,⋯,by rw[r];lia,?_⟩;rw[r,Y1];refine kY (λi σ H'=>(∃v4 Y,σ=[some<|.int n,some<|.ref U,some<|.ref Rl,some<|.ref C,v4,Y])/\Kp [C] H1 H'/\VL n H' C bs.length (λj=>sm (λb=>X b * M b (bs.getD j []))<|bs.take i)) ?_ ?_ ?_
 ·refine⟨⟨none,none,Z⟩,Kp.refl _ _,ys,b7,by rw[<- Paired.length W,List.length_range],λi u m=>?_⟩;let⟨_,_,q⟩:=cV W m;exact q
 ·rintro i σ H2 G ⟨⟨v4,Y,rfl⟩,kp,vl⟩;let⟨u,m,ru⟩:=g1 i G;let a7:=kf kp;let⟨mi,ti⟩:=gm i G;rw[Int.zero_add];dsimp only[bD];refine⟨_,rfl,_,rfl,U,_,_,_,rfl,rfl,aQ.of<|a7 _ _ x,iC m,_,rfl,F,fF,n,cF,0,rfl,n2,λz H3 e3 hz=>?_⟩;rw[gT]at hz;let b4:=a7.trans e3;let b0:=kp.tr<|.of e3;let b5:=vl.same e3;let⟨d,e,rd,re,s1,s2,eq⟩:=yS (K:=K) (ru.same b4) hz;exists d,e,rd,re,s1,s2,_,rfl;rcases eq with⟨z0,q⟩ | ⟨z0,q⟩
  ·rw[q];refine cA ⟨⟨_,_,Z⟩,b0,?_⟩;let⟨a0,I,S,J⟩:=b5;refine⟨a0,I,S,λj u m=>?_⟩;show bY n H3 u (sm _<|bs.take<|i+1);rw[ti,J4,z0,show ∀a b:F,a+0*b=a by intros;grind];exact J j u m
  ·rw[q];refine dQ ?_;refine⟨_,Z,U,_,Z,.inl<|aQ.of<|b4 _ _ x,_,Z,⋯,by rw[r];lia,?_⟩;rw[r,Y1];refine kY (λj σ H'=>(∃Y,σ=[some<|.int n,some<|.ref U,some<|.ref Rl,some<|.ref C,some<|.int i,Y])/\Kp [C] H1 H'/\VL n H' C bs.length (λq=>sm (λb=>X b * M b (bs.getD q []))<|bs.take<|if q<j then i+1 else i)) ?_ ?_ ?_
   ·let⟨a0,I,S,J⟩:=b5;exact⟨⟨_,Z⟩,b0,a0,I,S,λj u m=>by show bY n H3 u (sm _<|bs.take<|if j<0 then i+1 else i);rw[Yh ⋯];exact J j u m⟩
   ·rintro j σ H4 hj ⟨⟨Y,rfl⟩,D,p,I,S,J⟩;let B:=kf D;let⟨lk,ls,w,w1,w2,w3,c0⟩:=g2 i j G hj;let hy:p[j]?=some (p[j]'⋯):=Yc _;let ry:=J j _ hy;generalize p[j]'⋯=yj at hy ry;let ry:bY n H4 yj (sm (λb=>X b * M b (bs.getD j []))<|bs.take i):=by have:=ry;simp only[Nat.lt_irrefl,if_false]at this;exact this
    let l1:cL n 4000 (X<|bs.getD i []):=(a4.lim ∅ _).up ∅;let l2:cL n 4000 (M (bs.getD i [])<|bs.getD j []):=((O _ mi).lim ∅ _).up ∅;let l3:cL n 4000 (X (bs.getD i []) * M (bs.getD i []) (bs.getD j [])):=((a4.lim ∅ _).mul ((O _ mi).lim ∅ _)).up ∅;rw[Int.zero_add];dsimp only[bD];refine⟨_,Z,_,Z,_,Z,C,_,_,_,Z,Z,aQ.of I,iC hy,_,Z,_,Z,_,Z,U,_,_,_,Z,Z,aQ.of<|B _ _ x,iC m,_,Z,_,Z,Rl,_,_,_,Z,Z,aQ.of<|B _ _ b8,iC w1,_,Z,lk,_,_,_,Z,Z,aQ.of<|B _ _ w2,iC w3,F,fF,n,cF,_,_,_,_,Z,n2,n9,ru.same B,c0.same B,l1,l2,λvm H5 e5 c3=>?_⟩;refine⟨F,fF,n,cF,_,_,_,_,Z,n2,n9,ry.same e5,c3,lS _ _,l3,λva H6 e6 b9=>?_⟩;let a6:=e5.trans e6;let b3:=a6 _ _ I;exists _,Z,_,Z,C,p,j,j,Z,Z,b3,?_
    ·unfold uJ;rw[Yl ⋯,Yl ⋯,Y1]
    ·refine⟨⟨_,Z⟩,(D.tr<|.of a6).tr (Kp.upd<|by simp),p.set j va,aW,by rw[List.length_set];exact S,λq u hq=>?_⟩;refine bY.fix (mO b3) ?_;show bY n H6 u (sm _<|bs.take<|if q<j+1 then i+1 else i);by_cases c:q=j
     ·subst c;rw[List.getElem?_set_self ⋯]at hq;injection hq with hq
      subst hq;rw[Yl ⋯,ti,J4];exact b9
     ·rw[List.getElem?_set_ne<|Jc c]at hq;have:=(J q u hq).same a6;rw[show (if q<j+1 then i+1 else i)=if q<j then i+1 else i by split <;> split <;> lia];exact this
   ·rintro σ H4 ⟨⟨Y,rfl⟩,D,p,I,S,J⟩;refine⟨⟨_,_,rfl⟩,D,p,I,S,λj u m=>?_⟩;have:=J j u m;dsimp only at this ⊢;rw[Yl (by have:=eR m;lia)]at this;exact this
 ·rintro σ H2 ⟨⟨v4,Y,rfl⟩,kp,vl⟩;rw[List.take_length]at vl;exact⟨_,rfl,k C H2 a8 (kf kp)<|vl.row λi t ht=>by rw[show bs.getD i []=t by simp[List.getD,ht]]⟩
def R3(F:dN K "_law_by_term" QE f fd)(p:Cq T 3 "_law_unit" Pp [] jJ)(G:Cq T 6 "_law_through" Pl [] oZ):Fq T 8 f fd Pe pP:=bW ["_law_p","_law_term","_law_tables","_law_size","_law_row","_law_at","_law_j"] F λsc=>by
 walk_at "o";rename_i F fF n cF m rk T_ gp t tl bs U τ u;walk_at "h";refine⟨_,(aT (bR 4 sc.nd<|bS p hr<|aL (pv 0)<|aL (pv 3)<|aL aO aU)
  (aT (gE (iI rfl T.b_range<|aL (iQ K T.b_len<|aP 1) aU) (eQ 5 sc.nd)<|aR<|gE (iI rfl T.b_range<|aL (cX K (pv 1)<|pv 5) aU) (eQ 6 sc.nd)<|aR<|bR 4 sc.nd<|bS G hr<|aL (pv 0)<|aL (pv 4)<|aL (gW K (pv 2)<|pv 5) aU)
  (aR<|bJ<|pv 4))),?_⟩
 let⟨n2,n9,P_,B,W,lm,ht,N,eu,m4,k⟩:=h;let b6:=B.b6;refine⟨_,Z,_,Z,F,fF,n,cF,bs.length,0,Z,n2,⋯,λl0 a1 H1 X e1 a4 O=>?_⟩;let r0:bL n H1 bs (dl (F:=F)<|zer m) l0:=by
  refine VL.row (f:=λi=>if i=0 then(1:F) else 0) ⟨a1,a4,by rw[<- Paired.length O,List.length_range],λi v hv=>?_⟩ λi t' d=>?_
  ·let⟨j,J,q⟩:=cV O hv;have:j=i:=by
    let hi:i<bs.length:=by rw[<- List.length_range (n:=bs.length)];exact eR J
    rw[List.getElem?_range hi]at J;injection J with J;exact J.symm
   subst this;exact q
  ·unfold dl;by_cases c:i=0
   ·subst c;rw[B.z]at d;injection d with d;rw[Yl Z,Yl d.symm]
   ·rw[Yh c,Yh λz=>?_];subst z;exact c<|(List.getElem?_inj (by have:=eR d;exact this) B.nd).mp (d.trans B.z.symm)
 dsimp only[bD];let ub:∀a,a<m->u.getD a 0<=6:=λa M=>by
  have:=(P_.t1 a M).2;rcases eu with h | ⟨k,_,rfl⟩
  ·have:=h.2 a M;lia
  ·rw[jY];split
   ·next c=>rw[<- c.1];exact this
   ·decide
 refine⟨_,Z,t,_,Z,.inr<|aY.of<|e1 _ _ ht,_,Z,⋯,by rw[Yd,N.len];lia,?_⟩;rw[Yd,N.len,Y1];refine kY (λa σ H'=>(∃l Y r,σ=[some<|.int n,some<|.ref t,some<|.ref tl,some<|.int bs.length,some<|.ref l,Y,r]/\H l=none/\∃b,bL n H' bs b l/\Nf m T_ gp (dl<|pre m u a 0) b/\JB n 165 b)/\aJ H H') ?_ ?_ ?_
 ·refine⟨⟨l0,none,none,Z,X,_,r0,?_,z2z⟩,e1⟩;rw[z3g];exact Nf.self λx hx=>by have:x=zer m:=Classical.byContradiction λz=>hx<|Yh z;rw[this];exact(B.mem _).mp (Yx B.z)
 ·rintro a σ H2 M ⟨⟨l,Y,r,rfl,I,b,D,y,C⟩,S⟩;let R:a<U.length:=by lia
  let a0:(U.map V.ref)[a]?=some (.ref U[a]):=by rw[Ym,Yc R];rfl
  let ua:=N.nn a;let ub:=ub a M;rw[Int.zero_add];dsimp only[bD];refine⟨_,Z,_,Z,t,_,_,_,Z,Z,aY.of<|S _ _ ht,FQ<|by rw[N.len];exact M,_,Z,⋯,⋯,?_⟩;refine kY (λj σ H'=>(∃l r,σ=[some<|.int n,some<|.ref t,some<|.ref tl,some<|.int bs.length,some<|.ref l,some<|.int a,r]/\H l=none/\∃b,bL n H' bs b l/\Nf m T_ gp (dl<|pre m u a j) b/\JB n 165 b)/\aJ H H') ?_ ?_ ?_
  ·exact⟨⟨l,r,Z,I,b,D,y,C⟩,S⟩
  ·rintro j σ H3 J ⟨⟨l,r,rfl,I,b,D,y,C⟩,L⟩;let⟨ws,w1,w2⟩:=(W.same L).tb a _ (Yc R);let⟨s1,s2⟩:=Nf.step P_ B W R (z1e P_ eu M (j:=j) ⋯ ⋯) y;rw[z1z]at s1;dsimp only[bD];refine⟨_,rfl,_,rfl,_,rfl,_,rfl,tl,_,_,_,rfl,rfl,aQ.of<|L _ _ W.at_,iC a0,F,fF,n,cF,l,U[a],bs,b,τ a,ws,rfl,n2,n9,b6,D,w1,w2,C,W.jb a R,λl' H4 a3 e4 a2=>?_⟩;exact⟨⟨l',_,rfl,L.free a3,_,a2,s1,s2⟩,L.trans e4⟩
  ·rintro σ H3 ⟨⟨l,r,rfl,I,b,D,y,C⟩,L⟩;rw[Int.toNat_of_nonneg ua,WI]at y;exact⟨⟨l,_,r,rfl,I,b,D,y,C⟩,L⟩
 ·rintro σ H2 ⟨⟨l,Y,r,rfl,I,b,D,y,C⟩,S⟩;rw[SD N.len]at y;exact⟨_,rfl,k l b H2 I S D y C⟩
def z1u(F:dN K "_law_change_places" Q3 f fd)(j:Cq T 6 "_law_through" Pl [] oZ):Fq T 8 f fd P4 tX:=bW ["_law_p","_law_one","_law_other","_law_k"] F λsc=>by
 walk_at "o";rename_i F fF n cF m rk T_ gp tl bs ls C a b x y;walk_at "h";refine⟨_,(aT (gE (iI rfl T.b_range<|aL (iQ K T.b_len<|aP 1) aU) (eQ 3 sc.nd)<|aR<|cW (bA (yJ hr.units) (bS j hr<|aL (pv 0)<|aL (gW K (pv 1)<|pv 3)<|aP 2)<|bS j hr<|aL (pv 0)<|aL (gW K (pv 2)<|pv 3)<|aP 1) (aR<|bJ jA) cZ)
  (aR<|bJ jA)),?_⟩
 let⟨n2,U,P_,B,z,Y,hy,k⟩:=h;let b6:=B.b6;let N:=eR Y;let L:=eR hy;let⟨ws,G,I⟩:=z.tb a x Y;let⟨O,z1,M⟩:=z.tb b y hy;let S:=Paired.length I;let W:=Paired.length M;refine⟨_,Z,x,_,Z,.inl<|aQ.of G,_,Z,⋯,⋯,?_⟩;rw[<- S,Y1];refine kY (λi σ H'=>(∃R,σ=[some<|.int n,some<|.ref x,some<|.ref y,R])/\aJ H H') ⟨⟨none,Z⟩,aJ.refl _⟩ ?_ ?_
 ·rintro i σ H2 hi ⟨⟨R,rfl⟩,p⟩;let hw:ws[i]?=some (ws[i]'⋯):=Yc _;let hz:O[i]?=some (O[i]'⋯):=Yc _;let⟨t,X,S,ew,J⟩:=cV I hw;let⟨t',l,W,ez,rz⟩:=cV M hz;rw[X]at l;injection l with l;subst l
  rw[ew]at hw;rw[ez]at hz;let tb:=Yx X;rw[Int.zero_add];dsimp only[bD];let keep:∀{c:Nat} {ws:Lg},Paired (λb v=>∃q,v=V.ref q/\bL n H bs (C c b) q) bs ws->∀{H':Hp},aJ H H'->Paired (λb v=>∃q,v=V.ref q/\bL n H' bs (C c b) q) bs ws:=λh _ e=>bH (λ_ _ ⟨q,e1,r⟩=>⟨q,e1,r.same e⟩) h;refine⟨_,Z,_,Z,_,Z,x,_,_,_,Z,Z,aQ.of<|p _ _ G,iC hw,_,Z,F,fF,n,cF,S,y,bs,C a t,C b,O,Z,n2,U,b6,J.same p,p _ _ z1,keep M p,z.jb a N t tb,z.jb b L,λl1 H3 n1 e3 r1=>?_⟩;let D:=p.trans e3;refine⟨_,Z,_,Z,_,Z,y,_,_,_,Z,Z,aQ.of<|D _ _ z1,iC hz,_,Z,F,fF,n,cF,W,x,bs,C b t,C a,ws,Z,n2,U,b6,rz.same D,D _ _ G,keep I D,z.jb b L t tb,z.jb a N,λl2 H4 n2' e4 r2=>?_⟩;let⟨d,e,q1,q2,q3,q4,q5⟩:=FI (K:=K) (r1.same e4) r2 λu _=>Nf.two P_ B z N L tb u;exists d,e,q1,q2,q3,q4,_,Z;rw[q5];exact cA ⟨⟨_,Z⟩,D.trans e4⟩
 ·rintro σ H2 ⟨⟨R,rfl⟩,p⟩;exact k H2 p
def z06(F:dN K "_law_comes_to_nought" Q5 f fd)(I:Cq T 2 "_law_number" Pb [] jD)(a1:Cq T 8 "_law_by_term" Pe [] pP)(Y:Cq T 2 "_law_mul" Pa [] mZ)(a3:Cq T 2 "_law_add" Pa [] nF):Fq T 10 f fd Ps tY:=bW ["_law_p","_law_f","_law_tables","_law_size","_law_total","_law_term","_law_number_here","_law_row"] F λsc=>by
 walk_at "o";rename_i F fF n cF m rk T_ S e tl bs ls τ j D;walk_at "h";refine⟨_,(aT (bR 4 sc.nd<|iB (N:=["_law_k","_law_p"]) (cl:=[("_law_p",s.heap.objs.size+1)]) (mp:=[none,some 0]) (eK.of rfl nofun rfl nofun xG (iD rfl lM) (lI (fs:=["_law_p"]) rfl nofun) rfl (kZ<|iE rfl (.inl rfl) rfl lL)) rfl (iI rfl T.b_range<|aP 3) (λW X O C=>iT (i:=0) xG rfl rfl) (λW X O C=>gZ)<|λW X O C=>bS I hr<|aL (pv 1)<|aL aO<|aL aO aU)
  (aT (wS (gE (yZ<|pv 1) (uZ rfl<|mM (eQ 5 sc.nd)<|mM (eQ 6 sc.nd) vD) (aT (bR 7 sc.nd<|bS a1 hr<|aL (pv 0)<|nQ 5 2 3)
  (aR<|bR 4 sc.nd<|iB (N:=["_law_k","_law_number_here","_law_p","_law_row","_law_total"]) (cl:=[("_law_total",s.heap.objs.size+2),("_law_row",s.heap.objs.size+4),("_law_p",s.heap.objs.size+1),("_law_number_here",s.heap.objs.size+3)]) (mp:=[none,some 6,some 0,some 7,some 4]) (eK.of rfl nofun rfl nofun RA (iD rfl<|iD rfl<|iD rfl<|iD rfl lM) (lI (fs:=["_law_total","_law_row","_law_p","_law_number_here"]) rfl nofun) rfl (kZ<|iE rfl (.inl rfl) rfl<|iE rfl (.inl rfl) rfl<|iE rfl (.inl rfl) rfl<|iE rfl (.inl rfl) rfl lL)) rfl (iI rfl T.b_range<|aP 3) (λW X O C=>iT (i:=0) RA rfl rfl) (λW X O C=>gZ)<|λW X O C=>bS a3 hr<|aL (pv 2)<|aL (gW K (pv 4)<|pv 0)<|aL (bS Y hr<|aL (pv 2)<|aL (pv 1)<|aL (gW K (pv 3)<|pv 0) aU) aU))))
  (aR<|bJ<|kR (yH hr.units) (pv 4)<|iB (N:=["_law_k","_law_p"]) (cl:=[("_law_p",s.heap.objs.size+1)]) (mp:=[none,some 0]) (eK.of rfl nofun rfl nofun xG (iD rfl lM) (lI (fs:=["_law_p"]) rfl nofun) rfl (kZ<|iE rfl (.inl rfl) rfl lL)) rfl (iI rfl T.b_range<|aP 3) (λW X O C=>iT (i:=0) xG rfl rfl) (λW X O C=>gZ)<|λW X O C=>bS I hr<|aL (pv 1)<|aL aO<|aL aO aU))),?_⟩
 let⟨n2,n9,P_,B,hT,lm,m4,jm,he,pf,s6,l100,k⟩:=h;let b6:=B.b6;refine dX λrr a4=>?_;show aX _ _ _ _ _ _ _ _;refine sY (H1:=H) (xF 0 bs.length) ⋯ ?_ (λσ=>∃v,σ=[v,some<|.int n]) (λ_=>true) (λi v H'=>bY n H' v (0:F)) (λi v H1 H2 e h=>h.same e) (λi v H1 a y1 y2 ha h=>h.fix<|mO ha) ⟨none,Z⟩ ?_ λfl H1 ys nfl e1 b7 a0=>?_
 ·exact λR hR=>⟨_,Z,_,Z,⋯,⋯,by rw[Y1];exact hR⟩
 ·rintro i v a9 H2 hi ⟨z,rfl⟩ e2 hv Ny Nn U hn;unfold eH;dsimp only[bD];rw[Yl Z];exact⟨_,rfl,F,fF,n,cF,0,rfl,n2,λu H3 e3 J=>U u _ H3 ⟨_,rfl⟩ e3 (by rw[gT]at J;exact J) Z⟩
 rw[Yu.mpr<|λ_ _=>Z]at a0;dsimp only[bD];subst a4;let r0:bL n H1 bs (λ_=>(0:F)) fl:=VL.row (f:=λ_=>0) ⟨ys,b7,by rw[<- Paired.length a0,List.length_range],λi u J=>(cV a0 J).elim λ_ q=>q.2⟩ λ_ _ _=>rfl;let b3:=e1 _ _ he;refine⟨_,Z,e,D,Z,.inl b3,λo=>?_⟩;let c6:=pf.tnd;let b5:=qH D;let kd:∀{H':Hp},(∀b ob,H1 b=some ob->b≠e->H' b=some ob)->Kd H H':=λh b ob x no=>h b ob (e1 _ _ x) λz=>by rw[z,he]at x;cases x;exact no _ rfl
 refine zE (tb:=lR _ _) (λi σ H'=>i<=D.length/\mI H' e o D/\(∀b ob,H1 b=some ob->b≠e->H' b=some ob)/\∃l v5 v6 v7,σ=[some<|.int n,some<|.ref e,some<|.ref tl,some<|.int bs.length,some<|.ref l,v5,v6,v7]/\∃M,bL n H' bs M l/\Nf m T_ S (dY (S j)<|(fQ D).take i) M/\CB n i M) ?_ (λi σ H' h=>h.2.1) ?_ ?_
 ·refine⟨Y2 _,aW,λb ob x be=>(aV be).trans x,fl,none,none,none,Z,_,r0.kd λb ob x no=>(aV λz=>?_).trans x,?_,λ_ t=>⟨0,by rw[gT];grind,Y2 _⟩⟩
  ·rw[z,b3]at x;cases x;exact no _ rfl
  ·rw[List.take_zero,B9];exact Nf.self λ_ z=>absurd Z z
 ·rintro i kx vx σ H4 p b hk ⟨hi,hz,k4,l,v5,v6,v7,rfl,M,rr,nf,cb⟩ hp x;let⟨y,rfl,y0,U,iy,ny⟩:=pf.ix hk;let c4:=eR hk;let c9:=A4 c6 U;let tk:=sX U;exists p,_,rfl,aY.of aW,rfl,_,_,rfl,_,_,rfl,rfl;obtain⟨H5,uq,e5,-⟩:=cS hp<|.tup [.ref b,vx];rw[uq];let b1:=e5 _ _ x;rw[hZ]at b1;let a6:Kd H H5:=λb ob x no=>e5 _ _<|kd k4 b ob x no;let ed:HZ m T_ y:=by
   rcases P_.low j jm y ny with q | q
   ·exact .inr ⟨j,jm,q⟩
   ·exact .inl q.1
  refine dX λrr' a4=>?_;refine⟨_,Z,_,Z,_,Z,_,Z,F,fF,n,cF,m,rk,T_,S,b,tl,bs,ls,τ,y,Z,n2,n9,P_,B,hT.kd a6,lm,b1,y0,ed,m4,λl2 a2 H6 n6 e6 r6 c7 a8=>?_⟩;dsimp only[bD];subst a4;let b4:=e5.trans e6;let⟨xs,x1,x2,x3⟩:=(rr.same b4).vl;let⟨zs,z1,z2,z3⟩:=r6.vl;let c2:=(iy.fix a6.fix).same e6;let lg:cL n 10 (S j y):=λz=>let ⟨N,e,b⟩:=s6 y z;⟨N,6,∅,e,Yp b ∅,∅⟩;let jl:=λt=>a8.lim ∅ t;show aX _ _ _ _ _ _ _ _;refine sY (H1:=H6) (xF 0 bs.length) ⋯ ?_ (λσ=>∃v,σ=[v,some vx,some<|.int n,some<|.ref l2,some<|.ref l]) (λ_=>true) (λi v H'=>bY n H' v<|M (bs.getD i [])+S j y * a2 (bs.getD i [])) (λi v H1 H2 e h=>h.same e) (λi v H1 a y1 y2 ha h=>h.fix<|mO ha) ⟨none,Z⟩ ?_ λnl H7 ws nn e7 c3 a5=>?_
  ·exact λR hR=>⟨_,Z,_,Z,⋯,⋯,by rw[Y1];exact hR⟩
  ·rintro q v a9 H8 hq ⟨z,rfl⟩ e8 hv Ny Nn U hn;obtain rfl:=hv;let xq:xs[q]?=some (xs[q]'⋯):=Yc _;let zq:zs[q]?=some (zs[q]'⋯):=Yc _;unfold eH;dsimp only[bD];rw[Yl Z,Int.zero_add];refine⟨_,rfl,_,rfl,_,rfl,l,_,_,_,rfl,rfl,aQ.of<|e8 _ _ x1,iC xq,_,rfl,_,rfl,_,rfl,_,rfl,l2,_,_,_,rfl,rfl,aQ.of<|e8 _ _ z1,iC zq,F,fF,n,cF,_,_,S j y,a2<|bs.getD q [],rfl,n2,n9,c2.same e8,(z3 q _ zq).same e8,lg.up ∅,(jl _).up ∅,λvm H9 e9 c8=>?_⟩;exact⟨F,fF,n,cF,_,_,M<|bs.getD q [],_,rfl,n2,n9,((x3 q _ xq).same e8).same e9,c8,cb.lim ⋯ _,(lg.mul<|jl _).up ∅,λva c0 c5 b8=>U va _ c0 ⟨_,rfl⟩ (e9.trans c5) b8 rfl⟩
  rw[Yu.mpr<|λ_ _=>Z]at a5;dsimp only[bD];let b0:=b4.trans e7;refine⟨c4,b0 _ _ hz,λb ob x be=>b0 _ _<|k4 b ob x be,nl,_,_,_,Z,_,VL.row (f:=λi=>M (bs.getD i [])+S j y * a2 (bs.getD i [])) ⟨ws,c3,by rw[<- Paired.length a5,List.length_range],λq u J=>?_⟩<|λq t ht=>by rw[show bs.getD q []=t by simp[List.getD,ht]],(nf.add c7<|S j y).congr (λt=>by rw[tk,z2p c9]) (λ_=>Z),cb.add (s6 y) a8⟩;let⟨q',G,r⟩:=cV a5 J;have:q'=q:=by
   let hi:q<bs.length:=by rw[<- List.length_range (n:=bs.length)];exact eR G
   rw[List.getElem?_range hi]at G;injection G with G;exact G.symm
  subst this;exact r
 ·rintro σ H4 ⟨_,hz,k4,l,v5,v6,v7,rfl,M,rr,nf,cb⟩;rw[<- b5,List.take_length,B3 λt ht=>pf.tmem.mpr ht]at nf;let z0:∀t,M t=0:=λt=>nf.one P_ (Nf.zero<|TW P_ jm) t;let a7:bL n (upd H4 e<|.dT D) bs M l:=rr.keep (xB (u:=.dT []) hz<|.inr<|.inr ⟨_,_,Z⟩) λob ho=>(aV λz=>by let⟨_,q,_⟩:=rr;rw[z,hz]at q;cases q).trans ho
  let sm:aJ H (upd H4 e<|.dT D):=λb ob x=>by
   by_cases c:b=e
   ·subst c;rw[aW,<- he];exact x
   ·rw[aV c];exact k4 _ _ (e1 _ _ x) c
  refine .inr ⟨e,o,_,hz,λo' w' z=>?_,?_⟩
  ·let z':H e=some (.frz o' w'):=z;rw[he]at z';cases z'
  generalize upd H4 e (HO.dT D)=H5 at sm a7 ⊢;exists _,Z;show aX _ _ _ _ _ _ _ _;refine sY (H1:=H5) (xF 0 bs.length) ⋯ ?_ (λσ=>∃v,σ=[v,some<|.int n]) (λ_=>true) (λi v H'=>bY n H' v (0:F)) (λi v H1 H2 e h=>h.same e) (λi v H1 a y1 y2 ha h=>h.fix<|mO ha) ⟨none,Z⟩ ?_ λb9 H6 c1 nfl' e6 b2 L=>?_
  ·exact λR hR=>⟨_,Z,_,Z,⋯,⋯,by rw[Y1];exact hR⟩
  ·rintro i v a9 H2 hi ⟨z,rfl⟩ e2 hv Ny Nn U hn;unfold eH;dsimp only[bD];rw[Yl Z];exact⟨_,rfl,F,fF,n,cF,0,rfl,n2,λu H3 e3 J=>U u _ H3 ⟨_,rfl⟩ e3 (by rw[gT]at J;exact J) Z⟩
  rw[Yu.mpr<|λ_ _=>Z]at L;let r1:bL n H6 bs (λ_=>(0:F)) b9:=VL.row (f:=λ_=>0) ⟨c1,b2,by rw[<- Paired.length L,List.length_range],λi u J=>(cV L J).elim λ_ q=>q.2⟩ λ_ _ _=>rfl;let⟨d,e',q1,q2,q3,q4,q5⟩:=FI (K:=K) (a7.same e6) r1 λt _=>z0 t;exists d,e',q1,q2,q3,q4;rw[q5];exact k H6<|sm.trans e6
def SZ(F:dN K "_law_tops" OF f fd):Fq T 1 f fd ["_law_many","_law_cell"] oX:=bW ["_law_many","_law_cell","_law_tops_here","_law_left","_law_k","_law_turn"] F λsc=>by
 walk_at "o";rename_i m c;walk_at "h";refine⟨_,(aT (bR 2 sc.nd<|iH aU)
  (aT (bR 3 sc.nd aO)
  (aT (gE (iI rfl T.b_range<|aP 0) (eQ 4 sc.nd) (aT (iR<|nX PySem.F.plainAttrs_list PySem.F.slot_list_append PySem.F.type_list_append qJ (pv 2)<|aL (bB jB aO<|bB gS (bB jB (pv 1)<|aO)<|gU (X9 rfl) rfl T.b_min (by kernel_rfl)<|aL (pv 3)<|aL (gW K (iH<|aL aO<|aL aO<|aL aO<|aL aO aU)<|bB yF (pv 0)<|aO) aU) aU)
  (aT (bR 1 sc.nd<|bB wU (pv 1)<|aO)
  (aR<|bR 3 sc.nd<|bB wU (pv 3)<|gW K (pv 2)<|pv 4))))
  (aT (bR 5 sc.nd<|bB gS (pv 1)<|pv 0)
  (aR<|bJ<|bB BC (yX (yY (K:=K) rfl) (pv 2) (yU<|pv 5) yT)<|yX (yY (K:=K) rfl) (pv 2) yT<|yU<|pv 5))))),?_⟩
 let⟨m1,m4,k⟩:=h;refine⟨Y2 _,λl hl=>?_⟩;let⟨H1,v,e1,M⟩:=cS hl<|.lst [];rw[v];dsimp only[bD];refine⟨_,Z,_,Z,⋯,⋯,?_⟩;rw[Y1];let lb:1<=lB m/\lB m<=6:=by unfold lB;split <;> (try split) <;> decide
 let hv:iO [V.int 6,V.int 3,V.int 3,V.int 2] ((m:Int)-1)=some (.int<|lB m):=by rcases(by lia:m=1\/m=2\/m=3\/m=4) with rfl | rfl | rfl | rfl <;> rfl
 refine kY (λj σ H'=>aJ H H'/\∃(T:Lc) (a c:Int) (W R:Option V),σ=[some<|.int m,some<|.int c,some<|.ref l,some<|.int a,W,R]/\H' l=some (.lst<|T.map V.int)/\T.length=j/\(∀x∈T,1<=x/\x<=lB m)/\kQ T*a<=6/\1<=a/\1<=kQ T) ?_ ?_ ?_
 ·exact⟨e1,[],6,c,none,none,Z,M,Z,(λx d=>by cases d),∅,∅,∅⟩
 ·rintro j σ C hj ⟨G,T,a,c,W,R,rfl,b,S,I,pT,B,D⟩;rw[Int.zero_add];dsimp only[bD];refine dX λrr O=>?_;refine⟨_,Z,.inl ⟨Z,_,aQ.of b⟩,_,Z,_,_,Z,Z,_,Z,(by show 4<=sizeLine;decide),λq hq=>?_⟩;let p:l≠q:=λz=>by rw[z,hq]at b;cases b
  let nlq:q≠l:=Jc p;obtain⟨i,u,mn1,mn2,mn3⟩:∃i:Int,(if (lB m:Int)<a then(lB m:Int) else a)=i/\1<=i/\i<=lB m/\i<=a:=⟨_,Z,by split <;> lia,by split <;> lia,by split <;> lia⟩;let r0:=Jn (c+1) (show i≠0 by lia);let r1:=Jd (c+1) (show 0<i by lia);exists _,Z,_,_,Z,Z,q,_,_,_,Z,Z,aQ.of aW,hv,_,_,Z,_,_,Z,Z,(by show 0<(if (lB m:Int)<a then(lB m:Int) else a);rw[u];lia),_,_,Z,Z,l,T.map V.int,.int<|1+(c+1)%(if (lB m:Int)<a then(lB m:Int) else a),Z,Z,(by rw[aV p];exact b),gY _ (by rw[Yd];lia);rw[u];generalize (c+1)%i=r at r0 r1 ⊢;subst O;let y:aJ H (upd (upd C q<|HO.lst [V.int 6,V.int 3,V.int 3,V.int 2]) l<|.lst<|T.map V.int++[.int<|1+r]):=(G.updR<|G.free hq).updR hl;let n:(upd (upd C q<|HO.lst [V.int 6,V.int 3,V.int 3,V.int 2]) l<|HO.lst<|T.map V.int++[V.int<|1+r]) l=some (.lst<|(T++[1+r]).map V.int):=by rw[aW,List.map_append];rfl
  generalize upd (upd C q<|HO.lst [V.int 6,V.int 3,V.int 3,V.int 2]) l (HO.lst<|T.map V.int++[V.int<|1+r])=H4 at y n ⊢;exists _,Z,_,_,Z,Z,⟨∅,∅⟩;dsimp only[bD];let ht:(T++[1+r])[j]?=some (1+r):=by rw[List.getElem?_append_right ⋯,S,Nat.sub_self];rfl
  let X:iO ((T++[1+r]).map V.int) (j:Int)=some (.int<|1+r):=iC (by rw[Ym,ht];rfl);exists _,Z,_,Z,_,Z,l,_,_,_,Z,Z,aQ.of n,X,_,_,Z,Z,?_
  ·exact⟨⋯,⋯⟩
  ·dsimp only[bD];let d1:a / (1+r)*(1+r)<=a:=Int.ediv_mul_le _ ⋯;let d2:1<=a / (1+r):=Int.le_ediv_of_mul_le ⋯ ⋯;refine⟨y,T++[1+r],_,_,_,_,Z,n,by rw[Y6,S];rfl,λx d=>?_,?_,d2,?_⟩
   ·rcases Jv.mp d with d | d
    ·exact I x d
    ·rw[Yq.mp d];lia
   ·rw[yR];show kQ T*((1+r)*1)*_<=6;have:kQ T*(a / (1+r)*(1+r))<=kQ T*a:=Y3 d1 ⋯;rw[Int.mul_one,Int.mul_assoc,Int.mul_comm<|1+r];lia
   ·rw[yR];show 1<=kQ T*((1+r)*1);rw[Int.mul_one];have:=Int.mul_le_mul D (show 1<=1+r by lia) ∅ ⋯;lia
 ·rintro σ C ⟨G,T,a,c,W,R,rfl,b,S,I,pT,B,D⟩;exists _,rfl,_,rfl,_,_,rfl,rfl,(by show (0:Int)<m;lia);let t0:=Jn c (show (m:Int)≠0 by lia);let t1:=Jd c (show (0:Int)<m by lia);dsimp only[bD];generalize c%(m:Int)=tn at t0 t1 ⊢;refine⟨_,rfl,_,rfl,tn,rfl,l,_,rfl,aQ.of b,λD J=>?_⟩;rw[D0 t0];let⟨H4,v,y,U⟩:=cS J<|.lst<|(T.map V.int).drop tn.toNat;rw[v];refine⟨_,rfl,_,rfl,tn,rfl,l,_,rfl,aQ.of<|y _ _ b,λp2 Y=>?_⟩;rw[JG t0];let⟨H5,v,e5,L⟩:=cS Y<|.lst<|(T.map V.int).take tn.toNat;rw[v];refine⟨D,p2,_,_,rfl,rfl,e5 _ _ U,L,zl _<|by rw[List.length_drop,List.length_take,Yd];lia,λp3 N=>?_⟩;let dt:T.drop tn.toNat++T.take tn.toNat∈eY m:=by
   refine z0q (by rw[Y6,List.length_drop,List.length_take];lia) (λx d=>?_) ?_
   ·rcases Jv.mp d with d | d
    ·exact I x<|List.mem_of_mem_drop d
    ·exact I x<|List.mem_of_mem_take d
   ·rw[yR,Int.mul_comm,<- yR,List.take_append_drop];have:=Y3 B (show 0<=kQ T by lia);lia
  refine k p3 _ _ (((G.trans y).trans e5).trans (aJ.upd N)) ?_ dt;rw[aW,List.map_append,List.map_drop,List.map_take]
def z2c(F:dN K "_law_inside" vI f fd) {cc Pt:Lh} (c4:yV K f=some cc) (c2:W.CodeHd base cc Pt) (c8:base.BuiltinsAt mg Pt) (D:Cq T 1 "_law_rank" Pu [] jK):Fq T 8 f fd Pd (pN Pt):=by
 let sc:eO ["_law_way_here","_law_tops_here","_law_some","_law_top","_law_longer","_law_term","_law_a"] Pd (gP vI):=sM nofun;refine F.okL c4 (k:=7) sc (by walk_at "v")<|λA outer s H vs Q E hr=>?_;refine xg λg_ hg_=>?_;rintro⟨⟩;rename_i e_ h;rename_i r l tl m kd ws u;walk_at "h";refine⟨_,(aT (bR 2 sc.nd<|iH<|aL (gO aU) aU)
  (aT (gE (jI (K:=K) rfl<|pv 1) (eQ 3 sc.nd) (aT (bR 4 sc.nd<|iH aU)
  (aT (gE (jI (K:=K) rfl<|pv 2) (eQ 5 sc.nd)<|aR<|gE (iI rfl T.b_range<|aP 3) (eQ 6 sc.nd)<|aR<|iR<|nX PySem.F.plainAttrs_list PySem.F.slot_list_append PySem.F.type_list_append qJ (pv 4)<|aL (bB (TR (K:=K) rfl) (pv 5)<|gO<|aP 6) aU)
  (aR<|bR 2 sc.nd<|pv 4))))
  (aR<|bJ<|UT (x:="_law_one") (ys:=["_law_way_here"]) (is:=[0]) (cc:=cc) (P:=Pt) (pv 2) hr T.b_sorted rfl c2 c8 rfl nofun (YY rfl) nofun rfl rfl rfl rfl (λ_ _ _ _ _ _=>Z) (YT rfl) (.cons ⟨Z,Z⟩ .nil) (λq c1 cl s1 H1=>AB D (bM.deeper (k:=4) (bM.in1 (k:=5)<|bM.in1 (k:=6) hr) _) eW .nil<|cO 1 0)))),?_⟩
 let⟨c5,b7,k0,k4,wn,wb,m1,m4,a6,b3,hT,k⟩:=h;let⟨lT,bT⟩:=A3 b3;refine⟨Y2 _,λL c3=>⟨(by show 1<=sizeLine;decide),λl0 U=>?_⟩⟩;let e0:aJ H (upd H L<|.tup []):=aJ.upd c3;let a7:(upd H L<|HO.tup []) L=some (.tup []):=aW;generalize upd H L (HO.tup [])=H0 at e0 a7 U;let e1:aJ H0 (upd H0 l0<|.lst [.ref L]):=aJ.upd U;let b1:(upd H0 l0<|HO.lst [.ref L]) l0=some (.lst [.ref L]):=aW;generalize upd H0 l0 (HO.lst [V.ref L])=H1 at e1 b1;let g1:=e0.trans e1;dsimp only[bD];exists _,Z,tl,Z,⟨_,aQ.of<|g1 _ _ a6⟩;refine vF (K:=K) (a:=tl) (xs:=u.map V.int) (λj σ H'=>aJ H H'/\∃(b:Lh) (v3 v4 v5 C:Option V) (zs:Lg),σ=[some<|.ref r,some<|.ref tl,some<|.ref b,v3,v4,v5,C]/\H' b=some (.lst zs)/\Paired (fX H') (fL<|u.take j) zs) ?_ (λi σ H' _ h=>aQ.of<|h.1 _ _ a6) ?_ ?_
 ·exact⟨g1,l0,none,none,none,none,_,Z,b1,.cons ⟨L,Z,e1 _ _ a7⟩ .nil⟩
 ·rintro j x σ H3 J ⟨e3,b,v3,v4,v5,C,zs,rfl,a9,a4⟩;rw[Ym,Option.map_eq_some_iff]at J;let⟨N,hN,rfl⟩:=J;let⟨n1,n6⟩:=bT N<|Yx hN;obtain⟨n,rfl⟩:∃n:Nat,N=(n:Int):=⟨N.toNat,⋯⟩;let lj:j<u.length:=eR hN;let et:u.take (j+1)=u.take j++[(n:Int)]:=by rw[List.take_add_one,hN];rfl
  let c0:∀i,(fL<|u.take i).length<=6^4:=λi=>Yr (WY (B:=6) _ λc hc=>(bT c<|List.mem_of_mem_take hc).2)<|Yv ∅ (by rw[List.length_take];lia);let I:fL (u.take<|j+1)=(fL<|u.take j).flatMap λt=>(List.range n).map fun(a:Nat)=>t++[(a:Int)]:=by rw[et,CC,Y1]
  let a3:=c0<|j+1;rw[I]at a3;let X:∀x∈fL (u.take j),x.length<=4:=λx J=>by rw[((LQ _ x).mp J).1,List.length_take];lia
  generalize fL (u.take j)=bs at a4 I X a3;dsimp only[bD];refine⟨Y2 _,λl6 b2=>?_⟩;let⟨H6,uq,M,c7⟩:=cS b2<|.lst [];rw[uq];let b8:bs.length=zs.length:=Paired.length a4;exists _,Z,b,Z,⟨_,aQ.of<|M _ _ a9⟩;refine vF (K:=K) (a:=b) (xs:=zs) (λi σ H'=>aJ H3 H'/\∃(v5 C:Option V) (us:Lg),σ=[some<|.ref r,some<|.ref tl,some<|.ref b,some<|.int n,some<|.ref l6,v5,C]/\H' l6=some (.lst us)/\Paired (fX H') ((bs.take i).flatMap λt=>(List.range n).map fun(a:Nat)=>t++[(a:Int)]) us) ?_ (λi σ H' _ h=>aQ.of<|h.1 _ _ a9) ?_ ?_
  ·exact⟨M,_,_,[],Z,c7,by simp;exact .nil⟩
  ·rintro i x σ H7 J ⟨Y,v5,C,us,rfl,a0,R⟩;let⟨t,ht,tt,rfl,b9⟩:=cV a4 J;let tl4:=X t<|Yx ht;let lfl:((bs.take i).flatMap λt=>(List.range n).map fun(a:Nat)=>t++[(a:Int)]).length<=6^4:=by
    refine Yr ?_ a3
    conv=>rhs;rw[<- List.take_append_drop i bs,List.flatMap_append,Y6]
    lia
   show oU _ _ _ _ _ _;refine⟨_,Z,(n:Int),Z,⋯,⋯,?_⟩;rw[Y1];refine kY (lo:=0) (n:=n) (λa σ H'=>aJ H3 H'/\∃(C:Option V) (us:Lg),σ=[some<|.ref r,some<|.ref tl,some<|.ref b,some<|.int n,some<|.ref l6,some<|.ref tt,C]/\H' l6=some (.lst us)/\Paired (fX H') (((bs.take i).flatMap λt=>(List.range n).map fun(a:Nat)=>t++[(a:Int)])++(List.range a).map fun(a:Nat)=>t++[(a:Int)]) us) ?_ ?_ ?_
   ·exact⟨Y,_,us,Z,a0,‹R›⟩
   ·rintro a σ H8 ha ⟨e8,C,us,rfl,d,S⟩;rw[Int.zero_add];dsimp only[bD];let lus:us.length<2000:=by let h1:=Paired.length S;rw[Y6,Yd,List.length_range]at h1;have:(6:Nat)^4=1296:=rfl;lia
    exists _,Z,.inl ⟨Z,_,aQ.of d⟩;refine⟨_,Z,_,Z,(by show 1<=sizeLine;decide),λq hq=>?_⟩;let⟨H9,uq,e9,c6⟩:=cS hq<|.tup [.int a];rw[uq];refine U2 (e9 _ _<|e8 _ _ b9) c6 (List.cons_ne_nil _ _) (zl _<|by rw[Yd];simp;lia) λrr HA eA c9=>?_;let gA:=e9.trans eA;exists l6,us,_,Z,Z,gA _ _ d,gY _ ⋯;exists (e8.trans gA).updR b2,_,_,Z,aW;rw[List.range_succ,List.map_append,<- List.append_assoc];refine gG ?_<|bH (λ_ _ z=>yO (gA _ _ d) z)<|bH (λ_ _ z=>fX.same gA z) S;refine yO (gA _ _ d) ⟨rr,Z,?_⟩;rw[c9,List.map_append];rfl
   ·rintro σ H8 ⟨e8,C,us,rfl,d,S⟩;exact⟨e8,_,_,us,rfl,d,by rw[YQ ht];exact S⟩
  ·rintro σ H7 ⟨Y,v5,C,us,rfl,a0,R⟩;rw[<- b8,List.take_length,<- I]at R;exact⟨_,rfl,e3.trans Y,l6,_,_,_,_,us,rfl,a0,R⟩
 ·rintro σ H4 ⟨g4,b,v3,v4,v5,C,us,rfl,hL,y⟩;rw[Yd,List.take_length]at y;let a2:=SN u;let G:=z2g lT;generalize fL u=fs at y a2 G;let lfs:fs.length<=6:=BJ ⟨m1,m4⟩ b3 a2 λt ht=>(G t).mp ht;let pw:∀x∈fs,jG x:=λx J=>by
   let⟨a,o⟩:=(G x).mp J;refine BI a m1 m4 λi=>?_;by_cases c:i<m
   ·let h1:=o i c;let h2:=bT (u.getD i 0) (by rw[List.getD,Yc ⋯];exact Jw _);lia
   ·rw[List.getD,Yy<|by rw[a.len];lia];decide
  let a8:=BQ hT g4;let nP:∀{b:Lh} {o:HO},H4 b=some o->(∀ps,o≠.tbl ps)->b≠Pt:=fun{b o} hb no=>by
   rcases a8 with z | ⟨_,_,z,_⟩
   ·exact eM hb z<|no _
   ·exact eM hb z<|no _
  refine⟨_,Z,b,us,[.ref r],Z,hL,.cons rfl .nil,a8,λc' H5 k5 b6 b4 cP=>?_⟩;let b5:∀{b:Lh} {xs:Lg},H4 b=some (.tup xs)->H5 b=some (.tup xs):=λhb=>k5 _ _ hb<|nP hb (by intro ps z;cases z);refine L8 (K:=K) (rk:=cK kd ws) (OK:=λH'=>(H' r=some (.tup [.int kd,.ref l])/\H' l=some (.lst<|ws.map V.int))/\H' c'=some (nU c' rL)) ?_ (λ_ _ e ⟨⟨q1,q2⟩,q3⟩=>⟨⟨e _ _ q1,e _ _ q2⟩,e _ _ q3⟩) (λxs h=>z1d h) fs us [] [] H5 H5 (aJ.refl _) ⟨⟨b5<|g4 _ _ c5,k5 _ _ (g4 _ _ b7)<|nP (g4 _ _ b7)<|by intro ps z;cases z⟩,b4⟩ (bH (λ_ _ ⟨a,q1,q2⟩=>⟨a,q1,b5 q2⟩) y) pw .nil λks' H6 M hk=>?_
  ·rintro x H7 xs Q' ⟨⟨o1,o2⟩,o3⟩ ⟨a,rfl,ha⟩ px kk;exact⟨o3,_,rfl,_,rfl,r,l,a,kd,ws,xs,rfl,o1,k0,k4,o2,wn,wb,ha,px,kk⟩
  refine⟨fs.map<|cK kd ws,hk,by rw[<- Paired.length y];lia,λps' a5 b0 D2 a1=>?_⟩;rw[F2]at a5;let⟨ps,pp,rfl⟩:=OJ _ a5 _ rfl;rw[List.pairwise_map]at b0;let em:(ps.map λp=>(cK kd ws p.1,p.2)).map (λx=>x.2)=ps.map (·.2):=by rw[Ji];rfl
  rw[em];let Y:aJ H6 (upd H6 D2<|.lst<|ps.map (·.2)):=aJ.upd a1;let pt:∀p∈ps,fX (upd H6 D2<|.lst<|ps.map (·.2)) p.1 p.2:=λp hp=>by let⟨a,q1,q2⟩:=pz y p<|pp.mem_iff.mp hp;exact⟨a,q1,Y _ _<|M _ _<|b5 q2⟩
  let O:(ps.map (·.1)).Perm fs:=by have:=pp.map (·.1);rwa [FC<|by rw[<- Paired.length y];exact Yi _]at this
  let nH:H D2=none:=by
   cases q:H D2 with
   | none=>rfl
   | some o=>
    by_cases c:D2=Pt
    ·have:=M _ _ b6;rw[<- c,a1]at this;cases this
    ·have:=M _ _<|k5 _ _ (g4 _ _ q) c;rw[a1]at this;cases this
  refine k D2 _ _ (ps.map (·.1)) nH (λb o hb nb=>Y _ _<|M _ _<|k5 _ _ (g4 _ _ hb) nb) (.inr ⟨c',cP,Y _ _<|M _ _ b6,Y _ _<|M _ _ b4⟩) ⟨aW,F8 pt,λx J=>?_,?_⟩ ?_ ?_ ?_
  ·exact((G x).mp (O.mem_iff.mp J)).1
  ·have:=O.length_eq;rw[Yd]at this ⊢;lia
  ·exact O.nodup_iff.mpr a2
  ·intro t;rw[O.mem_iff];exact G t
  ·rw[List.pairwise_map];exact b0.imp λh=>by simpa using h
def z0c(F:dN K "_law_planted" O5 f fd)(a9:Cq T 2 "_law_number" Pb [] jD)(b7:Cq T 1 "_law_cell_at" P1 [] (lY K))(a0:Cq T 2 "_law_small" Pj [] mU)(M:Cq T 1 "_law_rank" Pu [] jK){Pt:Lh}(e3:Cq T 8 "_law_inside" Pd [] (pN Pt)):Fq T 9 f fd Pi (tJ Pt):=bW ["_law_p","_law_way_here","_law_tops_here","_law_cells","_law_planted_here","_law_turn","_law_k","_law_head","_law_f","_law_term","_law_number_here"] F λsc=>by
 walk_at "o";rename_i F fF n cF r l tl cl m kd ws p cs;walk_at "h";refine⟨_,(aT (bR 4 sc.nd<|iH aU)
  (aT (bR 5 sc.nd aO)
  (aT (gE (iI rfl T.b_range<|aL (iQ K T.b_len<|aP 2) aU) (eQ 6 sc.nd) (aT (bR 7 sc.nd<|mJ K T.b_tuple<|aL (iB (N:=["_law_j","_law_k","_law_tops_here"]) (cl:=[("_law_tops_here",s.heap.objs.size+1),("_law_k",s.heap.objs.size+2)]) (mp:=[none,some 6,some 2]) (eK.of rfl nofun rfl nofun Q9 (iD rfl<|iD rfl lM) (lI (fs:=["_law_tops_here","_law_k"]) rfl nofun) rfl (kZ<|iE rfl (.inl rfl) rfl<|iE rfl (.inl rfl) rfl lL)) rfl (iI rfl T.b_range<|aL (iQ K T.b_len<|aP 2) aU) (λC0 s0 H0 f0=>iT (i:=0) Q9 rfl rfl) (λC0 s0 H0 f0=>gZ)<|λC0 s0 H0 f0=>bB yI (gW K (pv 2)<|pv 1)<|oT MV rfl T.b_int (by kernel_rfl)<|aL (kR hY (pv 0)<|pv 1) aU) aU)
  (aT (bR 8 sc.nd<|zD hr.units0 (pv 7)<|bS a9 hr<|aL (pv 0)<|aL aO<|aL aO aU)
  (aT (gE (jI (K:=K) rfl<|bS e3 hr<|cO 1 2) (eQ 9 sc.nd) (aT (bR 10 sc.nd<|bS a0 hr<|aL (pv 0)<|aL (bS b7 hr<|cO 3 5) aU)
  (aT (bR 5 sc.nd<|bB jB (pv 5)<|aO)
  (aR<|cW (PW.pt<|BA (bA (JV<|dW hr |> Nat.lt_of_succ_lt) (bS M hr<|cO 1 9)<|bS M hr<|cO 1 7)<|BT<|bA (yJ hr.units) (pv 10)<|bS a9 hr<|aL (pv 0)<|aL aO<|aL aO aU) (aR<|sU (dW hr) (pv 8) (pv 9) (pv 10) rfl) cZ))))
  (aR<|iR<|nX PySem.F.plainAttrs_list PySem.F.slot_list_append PySem.F.type_list_append qJ (pv 4)<|aP 8)))))
  (aR<|bJ<|pv 4)))),?_⟩
 let⟨n2,e8,f4,k0,k4,wn,wb,m1,m4,d1,d5,g9,hT,k⟩:=h;let⟨lT,bT⟩:=A3 d5;refine⟨Y2 _,λD hD=>?_⟩;let⟨H1,uq,e1,g4⟩:=cS hD<|.lst [];rw[uq];dsimp only[bD];refine⟨_,Z,tl,_,Z,.inl<|aQ.of<|e1 _ _ d1,_,Z,⋯,by rw[Yd];lia,?_⟩;rw[Yd,lT,Y1];refine kY (λj σ H'=>dS Pt H H'/\Tb Pt uI rL H'/\∃(t:Int) (v6 v7 v8 v9 S:Option V) (ds:Le) (gp:Nat->Po F),σ=[some<|.int n,some<|.ref r,some<|.ref tl,some<|.ref cl,some<|.ref D,some<|.int t,v6,v7,v8,v9,S]/\0<=t/\H' D=some (.lst<|ds.map V.ref)/\(∀d∈ds,H d=none)/\HV n (cK kd ws) m p H' j ds gp) ?_ ?_ ?_
 ·exact⟨.of e1,BQ hT e1,0,none,none,none,none,none,[],λ_ _=>0,Z,Int.le_refl _,g4,(λd hd=>by cases hd),Z,(λi d hd=>by simp at hd),(λi hi=>⋯),(λi hi=>⋯),λi t _=>⟨0,by rw[gT];grind,∅⟩⟩
 ·rintro j σ H3 hj ⟨b3,c1,t,v6,v7,v8,v9,S,ds,gp,rfl,t0,b4,d4,hP⟩;rw[Int.zero_add];dsimp only[bD];let c3:=b3.lst hT d1;show aX _ _ _ _ _ _ _ _;refine NS (H1:=H3) (m:Int) (λσ=>∃v,σ=[v,some<|.int j,some<|.ref tl]) (λ_=>true) (λi=>.int<|if i=j then p.getD j 0 else 0) ⋯ ⋯ ?_ ⟨none,rfl⟩ ?_ λq H4 e4 hq=>?_
  ·exact λR hR=>⟨_,Z,tl,_,Z,.inl<|aQ.of c3,by rw[Yd,lT];exact hR⟩
  ·rintro i σ' H4 hi ⟨z,rfl⟩ e4 Ny Nn hy hn;unfold eH;dsimp only[bD];rw[Yl Z];let h4:iO (p.map V.int) (j:Int)=some (.int<|p.getD j 0):=FQ ⋯;let bj:=bT (p.getD j 0) (by rw[List.getD,Yc ⋯];exact Jw _);refine⟨_,rfl,_,rfl,tl,_,_,_,rfl,rfl,aQ.of<|e4 _ _ c3,h4,_,rfl,_,rfl,rfl,.inr ⟨_,rfl,_,_,rfl,rfl,?_,?_⟩⟩
   ·by_cases c:decide (V.int (0+(i:Int))=V.int j)=true
    ·rw[Yl c];exact .inr ⟨∅,∅⟩
    ·rw[Yh c];exact .inr ⟨∅,∅⟩
   ·let q:=hy [some<|.int<|0+(i:Int),some<|.int j,some<|.ref tl] H4 ⟨_,Z⟩ (aJ.refl _) rfl;by_cases c:i=j
    ·rw[Yl c]at q;rw[Yl<|Yo<|by rw[c,Int.zero_add],Int.mul_one];exact q
    ·rw[Yh c]at q;rw[Yh<|by rw[decide_eq_true_eq];intro z;injection z with z;lia,Int.mul_zero];exact q
  rw[Y1,Yu.mpr<|λ_ _=>Z]at hq;let eq:(List.range m).map (λi=>V.int<|if i=j then p.getD j 0 else 0)=(cI m p j).map V.int:=by unfold cI;rw[Ji];rfl
  rw[eq]at hq;let h0:T0 m (cI m p j):=⟨oS,λi=>by
   rw[jY];split
   ·next z=>have:=(bT (p.getD j 0)<|by rw[List.getD,Yc ⋯];exact Jw _).1;lia
   ·exact Int.le_refl _⟩
  let g1:¬Bx m p (cI m p j):=fun⟨_,z⟩=>by have:=z j hj;rw[jY,Yl ⟨Z,hj⟩]at this;lia
  let f7:jG (cI m p j):=BI h0 m1 m4 λi=>by
   rw[jY];split
   ·next z=>have:=(bT (p.getD j 0)<|by rw[List.getD,Yc ⋯];exact Jw _).2;lia
   ·decide
  refine⟨q,_,Z,.inl ⟨aQ.of hq,λhd i1=>?_⟩⟩;let⟨H5,uq,e5,f3⟩:=cS i1<|.tup<|(cI m p j).map V.int;rw[uq];dsimp only[bD];refine dX λrr b2=>?_;intro d nd;let⟨H6,uq,e6,e9⟩:=cS nd<|.dT [];rw[uq];refine⟨_,rfl,_,rfl,F,fF,n,cF,1,rfl,n2,λv1 H7 e7 d8=>?_⟩;rw[cT]at d8;refine⟨hd,ky<|cI m p j,rfl,e7 _ _ e9,by rw[hZ];exact e7 _ _<|e6 _ _ f3,?_⟩;let g5:=e4.trans e5;let g7:aJ H3 H7:=(g5.trans e6).trans e7;let b5:H3 d=none:=g5.free nd;let g8:aJ H3 (upd H7 d<|.dT [(ky<|cI m p j,v1)]):=g7.updR b5;let d6:(upd H7 d<|HO.dT [(ky<|cI m p j,v1)]) d=some (.dT [(ky<|cI m p j,v1)]):=aW;let f8:cR H7 (upd H7 d<|.dT [(ky<|cI m p j,v1)]):=jZ<|e7 _ _ e9;let f2:=f8.tup _ _<|e7 _ _<|e6 _ _ f3;let d7:PF n m _ [(ky<|cI m p j,v1)] (λu=>(1:F)*dl (cI m p j) u):=EK h0 (d8.fix f8)<|λz=>Lean.Grind.Field.zero_ne_one z.symm;generalize upd H7 d (HO.dT [(ky<|cI m p j,v1)])=H8 at g8 d6 f8 f2 d7 ⊢;dsimp only[bD];subst b2;let W:=BQ c1 g8;let b8:dS Pt H H8:=b3.trans<|.of g8;refine⟨_,rfl,_,rfl,r,l,tl,m,kd,ws,p,rfl,b8.tup hT _ _ e8,b8.lst hT f4,k0,k4,wn,wb,m1,m4,b8.lst hT d1,d5,W,λB H9 ys bs nB b9 g0 b1 g2 d0 srt9=>?_⟩;let b9:dS Pt H8 H9:=b9;exists B,rfl,⟨_,aQ.of b1.at_⟩;let c2:=b8.trans b9;let Y:=b9.dT W d6;let h9:=d7.keep<|b9.tup W;let h5:=b9.tup W _ _ f2;let lys:ys.length<=6:=by rw[<- Paired.length b1.tm];exact BJ ⟨m1,m4⟩ d5 g2 λt ht=>(d0 t).mp ht
  let Bd:B≠d:=λz=>by have:=b1.at_;rw[z,Y]at this;cases this
  refine vF (K:=K) (a:=B) (xs:=ys) (λi σ H'=>Kp [d] H9 H'/\∃(t:Int) (v9 S:Option V) (ap:Ka) (φ:Po F),σ=[some<|.int n,some<|.ref r,some<|.ref tl,some<|.ref cl,some<|.ref D,some<|.int t,some<|.int j,some<|.ref hd,some<|.ref d,v9,S]/\0<=t/\H' d=some (.dT ap)/\PF n m H' ap φ/\ap.length<=1+i/\φ (cI m p j)=1/\(∀t,φ t≠0->t=cI m p j\/(Bx m p t/\lt (cK kd ws) t (cI m p j)))/\∀t,rS n<|φ t) ?_ (λi σ H' _ h=>aQ.of<|h.1 _ _ b1.at_<|by simp[Bd]) ?_ ?_
  ·refine⟨Kp.refl _ _,t,_,_,_,_,Z,t0,Y,h9,Yi _,?_,λt ht=>.inl ?_,λt=>?_⟩
   ·show (1:F)*dl (cI m p j) (cI m p j)=1;unfold dl;rw[Yl Z];grind
   ·let ht:(1:F)*dl (cI m p j) t≠0:=ht;by_cases c:t=cI m p j
    ·exact c
    ·exact absurd (by unfold dl;rw[Yh c];grind) ht
   ·show rS n ((1:F)*dl (cI m p j) t);intro _;by_cases c:t=cI m p j
    ·refine⟨6,?_,∅⟩;unfold dl;rw[Yl c];grind
    ·refine⟨0,?_,∅⟩;unfold dl;rw[Yh c,gT];grind
  ·rintro i x σ y e2 ⟨C,t,v9,S,ap,φ,rfl,t0,a7,b0,lk,a2,J,L⟩;let⟨t1,rt,i0,rfl,g3,d3⟩:=b1.get e2;let a5:cR H9 y:=C.fix λa ha ob a3=>by rw[Yq.mp ha,Y]at a3;cases a3;exact .inl ⟨_,Z⟩
   let a6:∀{b:Lh} {xs:Lg},H9 b=some (.lst xs)->y b=some (.lst xs):=fun{b xs} O=>C _ _ O (by intro z;rw[Yq.mp z,Y]at O;cases O)
   let d2:=(d0 t1).mp (Yx i0);let f6:jG t1:=BI d3 m1 m4 λi=>by
    by_cases c:i<m
    ·let h1:=d2.2 i c;let h2:=bT (p.getD i 0) (by rw[List.getD,Yc ⋯];exact Jw _);lia
    ·rw[List.getD,Yy<|by rw[d3.len];lia];decide
   dsimp only[bD];refine dX λrr b2=>?_;refine⟨_,Z,_,Z,_,Z,cl,cs,t,Z,aQ.of<|a6<|c2.lst hT g9,t0,F,fF,n,cF,_,Z,n2,λx v f5 g6 X U=>?_⟩;dsimp only[bD];subst b2;refine dX λrr b2=>?_;exists _,Z,_,_,Z,Z;dsimp only[bD];subst b2;let nx:t1≠cI m p j:=λz=>g1<|z ▸ d2;let c6:=X _ _<|a5.tup _ _<|c2.tup hT _ _ e8;let c7:=X _ _<|a6<|c2.lst hT f4;let d9:=X _ _<|a5.tup _ _ h5;let c9:=X _ _<|a5.tup _ _ g3;let a4:=X _ _ a7;let a1:Kp [d] H9 f5:=C.tr<|.of X;let a8:=b0.same X;refine⟨_,Z,_,Z,r,l,rt,kd,ws,t1,Z,c6,k0,k4,c7,wn,wb,c9,f6,λp1 H12 b6 f9=>?_⟩;refine⟨_,Z,_,Z,r,l,hd,kd,ws,_,Z,b6 _ _ c6,k0,k4,b6 _ _ c7,wn,wb,b6 _ _ d9,f7,λp2 H13 e0 h8=>?_⟩;exists p1,p2,_,_,Z,Z,aY.of<|e0 _ _ f9,aY.of h8,_,Z;let c0:=b6.trans e0;by_cases lc:HT.lexLt (cK kd ws t1) (cK kd ws<|cI m p j)=true
   ·rw[Yl lc];refine⟨_,Z,_,Z,F,fF,n,cF,0,Z,n2,λu H14 h6 hu=>?_⟩;rw[gT]at hu;let I:=c0.trans h6;let c4:=U.same I;let⟨dn,z0,rd,rz,s1,s2,eq⟩:=yS (K:=K) c4 hu;exists dn,z0,rd,rz,s1,s2,_,Z;rcases eq with⟨z,q⟩ | ⟨z,q⟩
    ·rw[q];refine cA ?_;exact⟨a1.tr<|.of I,t+1,_,_,ap,φ,Z,⋯,I _ _ a4,a8.same I,⋯,a2,J,L⟩
    ·rw[q];refine dQ ?_;let c5:=I _ _ a4;exists _,Z,_,Z,_,Z,d,_,Z,hJ.t (k:=ky t1) c5 (by rw[hZ];exact I _ _ c9)<|gY _ (by have:=eR e2;lia);let lp:=sZ ap (ky t1) v;refine⟨(a1.tr<|.of I).tr (Kp.upd<|by simp),t+1,_,_,_,fZ φ t1 x,Z,⋯,aW,((a8.same I).put d3 c4 z).fix (jZ c5),⋯,?_,λu hu=>?_,λu=>?_⟩
     ·rw[nO<|Jc nx];exact a2
     ·by_cases c:u=t1
      ·rw[c];exact .inr ⟨d2,lc⟩
      ·rw[nO c]at hu;exact J u hu
     ·by_cases c:u=t1
      ·rw[c,sS];exact g6
      ·rw[nO c];exact L u
   ·rw[Yh lc];exact⟨a1.tr<|.of c0,t+1,_,_,ap,φ,Z,⋯,c0 _ _ a4,a8.same c0,⋯,a2,J,L⟩
  ·rintro σ y ⟨C,t,v9,S,ap,φ,rfl,t0,a7,b0,lk,a2,J,L⟩;let a5:cR H9 y:=C.fix λa ha ob a3=>by rw[Yq.mp ha,Y]at a3;cases a3;exact .inl ⟨_,Z⟩
   let Hd:H d=none:=b3.free c1 b5;let dD:D≠d:=λz=>by rw[z,b5]at b4;cases b4
   let G:y D=some (.lst<|ds.map V.ref):=C _ _ (b9.lst W<|g8 _ _ b4) (by simp[dD]);exists _,Z,.inl ⟨Z,_,aQ.of G⟩,_,Z,D,_,_,Z,Z,G,gY _ (by rw[Yd,hP.len];lia);let eD:(upd y D<|HO.lst<|ds.map V.ref++[V.ref d]) D=some (.lst<|(ds++[d]).map V.ref):=by rw[aW,List.map_append];rfl
   let kD:Kp [D] y (upd y D<|.lst<|ds.map V.ref++[.ref d]):=Kp.upd (by simp);generalize upd y D (HO.lst<|ds.map V.ref++[V.ref d])=HF at eD kD ⊢;let f1:Tb Pt uI rL y:=RF g0 C Y (by intro ps z;cases z) (by intro c z;cases z);let h7:Tb Pt uI rL HF:=RF f1 kD G (by intro ps z;cases z) (by intro c z;cases z);let c8:∀b xs,y b=some (.tup xs)->HF b=some (.tup xs):=λb xs O=>kD _ _ O (by intro z;rw[Yq.mp z,G]at O;cases O)
   let dF:∀{b:Lh} {kv:Ka},y b=some (.dT kv)->HF b=some (.dT kv):=fun{b kv} O=>kD _ _ O (by intro z;rw[Yq.mp z,G]at O;cases O)
   refine⟨λb o O nb=>kD _ _ (C _ _ (c2 _ _ O nb)<|by intro z;rw[Yq.mp z,Hd]at O;cases O) (by intro z;rw[Yq.mp z,hD]at O;cases O),h7,t,_,_,_,_,_,ds++[d],λi=>if i=j then φ else gp i,Z,t0,eD,λx U=>?_,by rw[Y6,hP.len];rfl,λi x U=>?_,λi hi=>?_,λi hi u hu=>?_,λi u=>?_⟩
   ·rcases Jv.mp U with U | U
    ·exact d4 x U
    ·rw[Yq.mp U];exact Hd
   ·rcases(by have:=eR U;rw[Y6,hP.len]at this;simp at this;lia:i<j\/i=j) with c | c
    ·rw[List.getElem?_append_left<|by rw[hP.len];exact c]at U;let⟨kv,h1,h2,h3⟩:=hP.pf i x U;let xd:x≠d:=λz=>by rw[z,b5]at h1;cases h1
     refine⟨kv,dF<|C _ _ (b9.dT W<|g8 _ _ h1)<|by simp[xd],?_,h3⟩
     try dsimp only
     rw[Yh ⋯];exact(((h2.same g8).keep (b9.tup W)).fix a5).keep c8
    ·subst c;rw[List.getElem?_append_right<|by rw[hP.len];exact Yi _,hP.len,Nat.sub_self]at U;let U:d=x:=by simpa using U
     subst U;refine⟨ap,dF a7,?_,⋯⟩
     try dsimp only
     rw[Yl Z];exact b0.keep c8
   ·by_cases c:i=j
    ·rw[Yl c,c];exact a2
    ·rw[Yh c];exact hP.one i ⋯
   ·by_cases c:i=j
    ·rw[Yl c]at hu;rw[c];exact J u hu
    ·rw[Yh c]at hu;exact hP.low i ⋯ u hu
   ·by_cases c:i=j
    ·rw[Yl c];exact L u
    ·rw[Yh c];exact hP.sm i u
 ·rintro σ H3 ⟨b3,c1,t,v6,v7,v8,v9,S,ds,gp,rfl,t0,b4,d4,hP⟩;exact⟨_,rfl,k D H3 ds gp hD b3 c1 b4 d4 hP⟩
def z04(F:dN K "_law_dressed" O9 f fd)(a5:Cq T 1 "_law_not_nought" Pj [] vK)(O:Cq T 6 "_law_times" Px [] pJ):Fq T 9 f fd Pq tT:=bW ["_law_p","_law_many","_law_polys","_law_cell","_law_dressed_here","_law_k","_law_number_here","_law_turn"] F λsc=>by
 walk_at "o";rename_i F fF n cF m pl ds ψ c;walk_at "h";refine⟨_,(aT (bR 4 sc.nd<|iH aU)
  (aT (gE (iI rfl T.b_range<|aL (iQ K T.b_len<|aP 2) aU) (eQ 5 sc.nd) (aT (bR 6 sc.nd<|zD hr.units0 (mJ K T.b_tuple<|aL (bB EF (iH<|aL aO aU)<|pv 1) aU)<|bS a5 hr<|aL (pv 0)<|aL (bB jB (bB jC (pv 3)<|bB jB (pv 5)<|aO)<|pv 5) aU)
  (aR<|iR<|nX PySem.F.plainAttrs_list PySem.F.slot_list_append PySem.F.type_list_append qJ (pv 4)<|aL (bS O hr<|aL (pv 0)<|aL (pv 6)<|aL (gW K (pv 2)<|pv 5) aU) aU)))
  (aT (cW (bA hY (bB gS (pv 3)<|aO)<|aO) (aR<|iR<|nX PySem.F.plainAttrs_list PySem.F.slot_list_append PySem.F.type_list_append qJ (pv 4)<|aL oP aU) cZ)
  (aT (cW (PW.pt<|BA (bA hY (bB gS (pv 3)<|aO)<|aO)<|BT<|bA oN (iQ K T.b_len<|aP 4)<|aO) (aR<|iR<|nX PySem.F.plainAttrs_list PySem.F.slot_list_append PySem.F.type_list_append qJ (pv 4)<|aL (oT CM rfl T.b_dict (by kernel_rfl)<|aL (gW K (pv 4)<|aO) aU) aU) cZ)
  (aT (bR 7 sc.nd<|bB gS (bB jC (pv 3)<|aO)<|gU (YM rfl) rfl T.b_max (by kernel_rfl)<|aL aO<|aL (iQ K T.b_len<|aP 4) aU)
  (aT (bR 4 sc.nd<|bB BC (yX (yY (K:=K) rfl) (pv 4) (yU<|pv 7) yT)<|yX (yY (K:=K) rfl) (pv 4) yT<|yU<|pv 7)
  (aT (cW (bA hY (bB gS (bB jC (pv 3)<|aO)<|aO)<|aO) (aR<|iR<|D7 PySem.F.plainAttrs_list PySem.F.slot_list_reverse PySem.F.type_list_reverse Z5<|pv 4) cZ)
  (aR<|bJ<|pv 4)))))))),?_⟩
 let⟨n2,n9,m1,m4,a8,l1,l5,c9,lim,hh,k⟩:=h;refine⟨Y2 _,λD hD=>?_⟩;let⟨H1,r,e1,c2⟩:=cS hD<|.lst [];rw[r];clear r;dsimp only[bD];refine⟨_,Z,pl,_,Z,.inl<|aQ.of<|e1 _ _ a8,_,Z,⋯,by rw[Yd];lia,?_⟩;rw[Yd,Y1];refine kY (λj σ H'=>aJ H H'/\∃(v5 v6 v7:Option V) (vs:Lg) (a:List (Po F)),σ=[some<|.int n,some<|.int m,some<|.ref pl,some<|.int c,some<|.ref D,v5,v6,v7]/\H' D=some (.lst vs)/\Paired (DP n m H') a vs/\a.length=j/\(∀φ∈a,(∀t,φ t=0)\/∃i,i<ds.length/\sC n ψ i φ)/\∀i,i<j->∃φ∈a,sC n ψ i φ) ?_ ?_ ?_
 ·exact⟨e1,none,none,none,[],[],Z,c2,.nil,Z,(λφ B=>by cases B),λi hi=>⋯⟩
 ·rintro j σ H3 hj ⟨G,v5,v6,v7,vs,a,rfl,l,p,C,M,al⟩;rw[Int.zero_add];dsimp only[bD];refine dX λrr c8=>?_;intro d R;let⟨H4,r,u,I⟩:=cS R<|.dT [];rw[r];clear r;refine⟨(by show 1<=sizeLine;decide),λz0 b4=>?_⟩;let⟨H5,r,e5,b5⟩:=cS b4<|.lst [.int 0];rw[r];clear r;refine⟨_,rfl,z0,m,[.int 0],rfl,rfl,b5,⋯,⋯,zl _<|by simp;lia,λz1 c4=>?_⟩;let⟨H6,r,e6,a9⟩:=cS c4<|.lst (List.replicate (m:Int).toNat [V.int 0]).flatten;rw[r];clear r;rw[EX,Y1]at a9;refine⟨z1,_,rfl,.inl ⟨aQ.of a9,λzt c0=>?_⟩⟩;let⟨H7,r,e7,c3⟩:=cS c0<|.tup<|(zer m).map V.int;rw[r];clear r;let p8:dU c ((j:Int)+1):=⟨⋯,Yf (show ((j:Int)+1).natAbs<2^14 by lia)<|Yv ∅ ∅⟩;refine⟨_,rfl,_,rfl,_,rfl,_,_,rfl,rfl,_,_,rfl,rfl,p8,_,rfl,_,_,rfl,rfl,F,fF,n,cF,_,rfl,n2,λx v H8 x0 sn e8 hx=>?_⟩;let g7:=(u.trans e5).trans (e6.trans e7);let g8:aJ H4 H8:=(e5.trans<|e6.trans e7).trans e8;refine⟨zt,ky<|zer m,rfl,g8 _ _ I,by rw[hZ];exact e8 _ _ c3,?_⟩;let g9:aJ H3 (upd H8 d<|.dT [(ky<|zer m,v)]):=(u.trans g8).updR R;let a7:(upd H8 d<|HO.dT [(ky<|zer m,v)]) d=some (.dT [(ky<|zer m,v)]):=aW;let a3:=hx.fix<|jZ (o:=.dT [(ky<|zer m,v)])<|g8 _ _ I;generalize upd H8 d (HO.dT [(ky<|zer m,v)])=H9 at g9 a7 a3 ⊢;dsimp only[bD];subst c8;obtain⟨e2,a2⟩:∃e2,ds[j]?=some e2:=⟨_,Yc hj⟩;let⟨b9,h1,h2,h3⟩:=c9 j e2 a2;let Y:=G.trans g9;let de:d≠e2:=λz=>by rw[<- z,G.free R]at h1;cases h1
  let c6:iO (ds.map V.ref) (j:Int)=some (.ref e2):=iC (by rw[Ym,a2];rfl);refine⟨_,Z,.inl ⟨Z,_,aQ.of<|g9 _ _ l⟩,_,Z,_,Z,_,Z,_,Z,pl,_,_,_,Z,Z,aQ.of<|Y _ _ a8,c6,F,fF,n,cF,m,d,e2,zer m,v,x,b9,ψ j,Z,n2,n9,m4,de,a7,T0.zer m,a3,x0,Y _ _ h1,h2.same Y,IN sn,lim j,⋯,λd2 a4 ap nd2 W c5 X lk2=>?_⟩;let S:=Paired.length p;exists D,vs,_,Z,Z,W _ _<|g9 _ _ l,gY _ ⋯;let sf:(λt=>x*sh (zer m) (ψ j) t)=λt=>x * ψ j t:=by rw[EG h2.sp]
  rw[sf]at X;let U:=g9.trans W;let fD:∀{φ:Po F} {v:V},DP n m a4 φ v->DP n m (upd a4 D<|.lst<|vs++[.ref d2]) φ v:=fun{φ v} ⟨d,ap,q1,q2,q3,q4,q5⟩=>⟨d,ap,q1,(aV (λz=>by rw[z,U _ _ l]at q2;cases q2)).trans q2,q3.keep λb xs hb=>(aV (λz=>by rw[z,U _ _ l]at hb;cases hb)).trans hb,q4,q5⟩
  refine⟨(Y.trans W).updR hD,_,_,_,_,a++[λt=>x * ψ j t],Z,aW,gG (fD ⟨d2,ap,Z,c5,X,hh j hj _ _ _ X λt ht z=>ht<|by rw[z];grind,⋯⟩)<|bH (λ_ _ q=>fD<|q.same U) p,by rw[Y6,C];rfl,λφ B=>?_,λi hi=>?_⟩
  ·rcases Jv.mp B with B | B
   ·exact M φ B
   ·rw[Yq.mp B];exact .inr ⟨j,hj,x,x0,sn,Z⟩
  ·by_cases c:i<j
   ·let⟨φ,q1,q2⟩:=al i c;exact⟨φ,List.mem_append_left _ q1,q2⟩
   ·obtain rfl:i=j:=by lia
    exact⟨_,Yg _<|.head _,x,x0,sn,Z⟩
 ·rintro σ H3 ⟨G,v5,v6,v7,vs,a,rfl,l,p,C,M,al⟩;dsimp only[bD];let J:rZ n ds.length ψ a:=⟨⋯,M,al⟩;refine E4 (λσ H'=>aJ H H'/\R1 n m ds.length ψ (ds.length+1) H' D/\σ=[some<|.int n,some<|.int m,some<|.ref pl,some<|.int c,some<|.ref D,v5,v6,v7]) ?_ ?_;rotate_left
  ·intro N hN;refine⟨_,Z,_,_,Z,Z,∅,Z,_,Z,jF (λ_=>?_)<|λ_=>?_⟩
   ·refine⟨_,Z,.inl ⟨Z,_,aQ.of l⟩,λd R=>?_⟩;let⟨H4,r,u,I⟩:=cS R<|.dT [];rw[r];clear r;let S:=Paired.length p;refine⟨D,vs,_,Z,Z,u _ _ l,gY _ ⋯,hN _ _ ⟨(G.trans u).updR hD,⟨_,a++[λ_=>0],aW,gG (DP.updL (u _ _ l) ⟨d,[],Z,I,PF.nil,⟨[],Z,List.nodup_nil⟩,Y2 _⟩)<|bH (λ_ _ q=>DP.updL (u _ _ l)<|q.same u) p,by rw[Y6,C];exact Yi _,J.push<|.inl λ_=>Z⟩,Z⟩⟩
   ·exact hN _ _ ⟨G,⟨vs,a,l,p,⋯,J⟩,Z⟩
  clear l p C M al J vs a G H3;rintro σ H3 ⟨G,⟨vs,a,l,p,C,J⟩,rfl⟩;refine E4 (λσ H'=>aJ H H'/\R1 n m ds.length ψ (ds.length+2) H' D/\σ=[some<|.int n,some<|.int m,some<|.ref pl,some<|.int c,some<|.ref D,v5,v6,v7]) ?_ ?_;rotate_left
  ·intro N hN;let S:=Paired.length p;let l3:=J.1;refine⟨_,Z,_,_,Z,Z,∅,Z,_,Z,jF (λ_=>?_)<|λ_=>?_⟩
   ·exists _,Z,D,_,Z,.inl<|aQ.of l,_,_,Z,Z,_,Z;rw[Yl<|Yo ⋯];obtain⟨L,q0⟩:∃L,a[0]?=some L:=⟨_,Yc ⋯⟩;obtain⟨v0,q1⟩:∃v0,vs[0]?=some v0:=⟨_,Yc ⋯⟩;let⟨L,q0,d0,a0,rfl,b2,b7,b0,l0⟩:=cV p q1;refine⟨_,Z,.inl ⟨Z,_,aQ.of l⟩,_,Z,D,_,_,_,Z,Z,aQ.of l,iC (j:=0) q1,d0,a0,Z,b2,b0,λd R=>?_⟩;let⟨H4,r,u,I⟩:=cS R<|.dT a0;rw[r];clear r;refine⟨D,vs,_,Z,Z,u _ _ l,gY _ ⋯,hN _ _ ⟨(G.trans u).updR hD,⟨_,a++[L],aW,gG (DP.updL (u _ _ l) ⟨d,a0,Z,I,b7.same u,b0,l0⟩)<|bH (λ_ _ q=>DP.updL (u _ _ l)<|q.same u) p,by rw[Y6,List.length_singleton];lia,J.push<|J.2.1 L<|Yx q0⟩,Z⟩⟩
   ·exact hN _ _ ⟨G,⟨vs,a,l,p,⋯,J⟩,Z⟩
  clear l p C J vs a G H3;rintro σ H3 ⟨G,⟨vs,a,l,p,C,J⟩,rfl⟩;let S:=Paired.length p;let l3:=J.1;let p2:∀k:Int,k≠0->k.natAbs<2^14->dU c k:=λk h1 h2=>⟨h1,Yf h2<|Yv ∅ ∅⟩;obtain⟨mx,a1,b6⟩:∃mx:Int,(if (vs.length:Int) > 1 then(vs.length:Int) else 1)=mx/\0<mx:=⟨_,Z,by split <;> lia⟩;exists _,Z,_,_,Z,Z,p2 2 ∅ ∅,_,Z,D,_,Z,.inl<|aQ.of l,_,_,Z,_,_,Z,Z,(by show 0<(if (vs.length:Int) > 1 then(vs.length:Int) else 1);rw[a1];exact b6);rw[a1];let t0:=Jn (Int.fdiv c 2) (show mx≠0 by lia);generalize Int.fdiv c 2%mx=tn at t0 ⊢;dsimp only[bD];refine⟨_,Z,_,Z,tn,Z,D,_,Z,aQ.of l,λp1 b1=>?_⟩;rw[D0 t0];let⟨H4,r,u,b3⟩:=cS b1<|.lst<|vs.drop tn.toNat;rw[r];clear r;refine⟨_,Z,_,Z,tn,Z,D,_,Z,aQ.of<|u _ _ l,λb8 c1=>?_⟩;rw[JG t0];let⟨H5,r,e5,c7⟩:=cS c1<|.lst<|vs.take tn.toNat;rw[r];clear r;refine⟨p1,b8,_,_,Z,Z,e5 _ _ b3,c7,zl _<|by rw[List.length_drop,List.length_take];lia,λp3 a6=>?_⟩;let⟨H6,r,e6,y⟩:=cS a6<|.lst<|vs.drop tn.toNat++vs.take tn.toNat;rw[r];clear r;dsimp only[bD];let g6:=u.trans<|e5.trans e6;let Y:=G.trans g6;let nH:H p3=none:=(G.trans<|u.trans e5).free a6;let P6:Paired (DP n m H6) (a.drop tn.toNat++a.take tn.toNat) (vs.drop tn.toNat++vs.take tn.toNat):=bH (λ_ _ q=>q.same g6)<|FD (MA _ p)<|LR _ p;let E6:rZ n ds.length ψ (a.drop tn.toNat++a.take tn.toNat):=J.mem (by rw[Y6,List.length_drop,List.length_take];lia) λφ=>by rw[Jv,or_comm,<- Jv,List.take_append_drop]
  let l6:(a.drop tn.toNat++a.take tn.toNat).length<=7:=by rw[Y6,List.length_drop,List.length_take];lia
  generalize a.drop tn.toNat++a.take tn.toNat=φ6 at P6 E6 l6;generalize vs.drop tn.toNat++vs.take tn.toNat=v6' at P6 y;refine⟨_,Z,_,_,Z,Z,p2 7 ∅ ∅,_,_,Z,Z,∅,Z,_,Z,jF (λ_=>?_)<|λ_=>?_⟩
  ·exists _,Z,.inl ⟨Z,_,aQ.of y⟩,p3,_,Z,Z,y,_,Z;exact k p3 _ _ φ6.reverse nH (Y.updR nH) aW (KB<|bH (λ_ _ q=>DP.updL y q) P6) (by rw[List.length_reverse];exact l6) (E6.mem (List.length_reverse) λφ=>List.mem_reverse).2.1 (E6.mem (List.length_reverse) λφ=>List.mem_reverse).2.2
  ·exact⟨_,Z,k p3 _ _ φ6 nH Y y P6 l6 E6.2.1 E6.2.2⟩
def z0a(F:dN K "law" sJ f fd)(G:Cq T 1 "_law_cell_at" P1 [] (lY K))(p4:Cq T 2 "_law_prime" ["_law_cell"] [] tM)(q8:Cq T 1 "_law_way" ["_law_cell","_law_many"] [] tE)(j2:Cq T 1 "_law_tops" ["_law_many","_law_cell"] [] oX)(n6:Cq T 1 "_law_not_nought" Pj [] vK)(o8:Cq T 6 "_law_times" Px [] pJ)(t2:Cq T 9 "_law_dressed" Pq [] tT)(m6:Cq T 5 "_law_field" ["_law_p"] [] (pM aB aC))(j9:Cq T 3 "_law_order" ["_law_way_here"] [] (pL K aD aE aF aG))(d1:Kq T 2 "Ring" aA P8 [] (kK aA aD aE aF aG))(p3:Cq T 3 "_law_is_table" P2 [] tN)(t1:Cq T 8 "_law_by_term" Pe [] pP)(i0:Cq T 3 "_law_unit" Pp [] jJ)(p1:Cq T 8 "_law_change_places" P4 [] tX)(t3:Cq T 10 "_law_comes_to_nought" Ps [] tY){Pt:Lh}(hord:mE T)(cIns:Cq T 8 "_law_inside" Pd [] (pN Pt))(cPlt:Cq T 9 "_law_planted" Pi [] (tJ Pt))(i4:Cq T 16 "table" ["ring","base","at"] [] (tI aA aB aC aD aE aF aG)):Fq T 18 f fd P9 (nA K Pt):=bW ["_law_script","_law_p","_law_many","_law_way_here","_law_tops_here","_law_inside_here","_law_planted_here","_law_cell","_law_multiple","_law_base","_law_ring","_law_tables","_law_at","_law_handed","_law_found","_law_constant","_law_k","_law_j"] F λsc=>by
 walk_at "o";rename_i a ns;walk_at "h";refine⟨_,(aT (bR 1 sc.nd<|bS p4 hr<|aL (bS G hr<|aL (pv 0)<|aL aO aU) aU)
  (aT (bR 2 sc.nd<|bB jB aO<|bB gS (bS G hr<|aL (pv 0)<|aL aO aU)<|aO)
  (aT (bR 3 sc.nd<|bS q8 hr<|aL (bS G hr<|aL (pv 0)<|aL aO aU)<|aP 2)
  (aT (bR 4 sc.nd<|bS j2 hr<|aL (pv 2)<|aL (bB jC (bS G hr<|aL (pv 0)<|aL aO aU)<|aO) aU)
  (aT (bR 5 sc.nd<|bS cIns hr<|cO 3 4)
  (aT (bR 6 sc.nd<|bS cPlt hr<|aL (pv 1)<|aL (pv 3)<|aL (pv 4)<|aL (yX (yY (K:=K) rfl) (pv 0) (yU aO) yT) aU)
  (aT (bR 7 sc.nd<|bS G hr<|aL (pv 0)<|aL aO aU)
  (aT (bR 8 sc.nd<|bS o8 hr<|aL (pv 1)<|aL (zD hr.units0 (mJ K T.b_tuple<|aL (bB EF (iH<|aL (bB gS (bB jC (pv 7)<|aO)<|aO) aU)<|pv 2) aU)<|bS n6 hr<|cO 1 7)<|aL (gW K (pv 6)<|bB gS (pv 7)<|pv 2) aU)
  (aT (bR 9 sc.nd<|bS t2 hr<|aL (pv 1)<|aL (pv 2)<|aL (bB BC (pv 6)<|iH<|aP 8)<|aL (bS G hr<|aL (pv 0)<|aL aO aU) aU)
  (aT (bR 10 sc.nd<|xZ d1 hr eW .nil<|aL (pv 2)<|aL (bS m6 hr<|aP 1)<|aL (bS j9 hr<|aP 3) aU)
  (aT (bR 11 sc.nd<|iH aU)
  (aT (gE (iI rfl T.b_range<|aP 2) (eQ 12 sc.nd) (aT (B2 (N:=["_law_f"]) (eQ 13 sc.nd) (eK.pl CH) rfl (jI (K:=K) rfl<|pv 9) (λC0 s0 H0 X=>iT (i:=0) CH rfl rfl) (λC0 s0 H0 X=>gZ)<|λC0 s0 H0 X=>oT CM rfl T.b_dict (by kernel_rfl)<|aP 0)
  (aT (bR 14 sc.nd<|bS i4 hr<|nQ 10 13 12)
  (aT (cW (PW.pt<|sL (oA<|lK<|bS p3 hr<|aL (pv 1)<|aL (pv 14)<|aL (iQ K T.b_len<|aP 5) aU)<|uW<|bA (JZ (K:=K) rfl<|RS hr) (pv 13)<|pv 9) (aR<|bJ jA) cZ)
  (aT (iR<|nX PySem.F.plainAttrs_list PySem.F.slot_list_append PySem.F.type_list_append qJ (pv 11)<|aL (iB (N:=["_law_row"]) (eK.pl OG) rfl (jI (K:=K) rfl<|pv 14) (λC0 s0 H0 X=>iT (i:=0) OG rfl rfl) (λC0 s0 H0 X=>gZ)<|λC0 s0 H0 X=>oT (NW (K:=K) rfl) rfl T.b_list (by kernel_rfl)<|aP 0) aU)
  (aT (iR<|D7 PySem.F.plainAttrs_list PySem.F.slot_list_clear PySem.F.type_list_clear WM<|gW K (pv 14)<|aO)
  (aR<|cW (PW.pt<|sL (bA (EV (K:=K) rfl hr.units) (bS i4 hr<|nQ 10 13 12)<|gW K (pv 11)<|pv 12)<|uW<|bA (JZ (K:=K) rfl<|RS hr) (pv 13)<|pv 9) (aR<|bJ jA) cZ)))))))
  (aT (bR 15 sc.nd<|zD hr.units0 (mJ K T.b_tuple<|aL (bB EF (iH<|aL aO aU)<|pv 2) aU)<|bS n6 hr<|aL (pv 1)<|aL (bB jC (pv 7)<|aO) aU)
  (aT (cW (bA (EV (K:=K) Z hr.units) (bS i4 hr<|aL (pv 10)<|aL (bB BC (iB (N:=["_law_f"]) (eK.pl CH) rfl (jI (K:=K) rfl<|pv 9) (λC0 s0 H0 X=>iT (i:=0) CH rfl rfl) (λC0 s0 H0 X=>gZ)<|λC0 s0 H0 X=>oT CM rfl T.b_dict (by kernel_rfl)<|aP 0)<|iH<|aP 15)<|aL (bB gS (pv 7)<|pv 2) aU)<|iH aU) (aR<|bJ jA) cZ)
  (aT (gE (iI rfl T.b_range<|aL (iQ K T.b_len<|aP 5) aU) (eQ 16 sc.nd)<|aR<|cW (bA (EV (K:=K) rfl hr.units) (bS t1 hr<|aL (pv 1)<|aL (gW K (pv 5)<|pv 16)<|aL (pv 11)<|aL (iQ K T.b_len<|aP 5) aU)<|bS i0 hr<|aL (pv 1)<|aL (iQ K T.b_len<|aP 5)<|aP 16) (aR<|bJ jA) cZ)
  (aT (gE (iI rfl T.b_range<|aP 2) (eQ 16 sc.nd)<|aR<|gE (iI rfl T.b_range<|aP 16) (eQ 17 sc.nd)<|aR<|cW (oA<|lK<|bS p1 hr<|aL (pv 1)<|aL (gW K (pv 11)<|pv 17)<|aL (gW K (pv 11)<|pv 16) aU) (aR<|bJ jA) cZ)
  (aR<|bJ<|gU (F0 (K:=K) rfl rfl) rfl T.b_all (by kernel_rfl)<|aL (iB (N:=["_law_f","_law_inside_here","_law_p","_law_tables"]) (cl:=[("_law_tables",s.heap.objs.size+3),("_law_p",s.heap.objs.size+1),("_law_inside_here",s.heap.objs.size+2)]) (mp:=[none,some 5,some 1,some 11]) (eK.of rfl nofun rfl nofun RB (iD rfl<|iD rfl<|iD rfl lM) (lI (fs:=["_law_tables","_law_p","_law_inside_here"]) rfl nofun) rfl (kZ<|iE rfl (.inl rfl) rfl<|iE rfl (.inl rfl) rfl<|iE rfl (.inl rfl) rfl lL)) rfl (jI (K:=K) rfl<|pv 6) (λC0 s0 H0 X=>iT (i:=0) RB rfl rfl) (λC0 s0 H0 X=>gZ)<|λC0 s0 H0 X=>bS t3 hr<|aL (pv 2)<|aL (pv 0)<|aL (pv 3)<|aL (iQ K T.b_len<|aP 1) aU) aU))))))))))))))))),?_⟩
 let⟨hS,h63,hT,k⟩:=h;refine⟨_,Z,a,ns,0,Z,hS,∅,_,Z,λn H1 e1 n2 n1=>?_⟩;refine⟨_,Z,a,ns,1,Z,e1.seq hS,∅,_,_,Z,Z,(by show (0:Int)<4;decide),_,_,Z,Z,?_⟩;obtain⟨m,em,m1,m4⟩:∃m:Nat,1+cellOf ns 1%4=(m:Int)/\1<=m/\m<=4:=⟨(1+cellOf ns 1%4).toNat,⋯,⋯,⋯⟩;dsimp only[bD];rw[em];refine⟨_,Z,a,ns,2,Z,e1.seq hS,∅,_,Z,cellOf ns 2,m,Z,m4,λr l ws H2 e2 j5 d8 lw wn wb=>?_⟩;let g2:=e1.trans e2;dsimp only[bD];let⟨F,fF,cF⟩:=z2s n n2;let p2:∀(c k:Int),k≠0->k.natAbs<2^14->dU c k:=λc k h1 h2=>⟨h1,Yf h2<|Yv ∅ ∅⟩;refine dX λU p=>?_;refine⟨_,Z,_,Z,a,ns,1,Z,g2.seq hS,∅,_,_,Z,Z,p2 _ 4 ∅ ∅,m,_,Z,m1,m4,λtl Tt H3 e3 r9 c1=>?_⟩;dsimp only[bD];subst p;let g3:=g2.trans e3;let i6:0<=cellOf ns 2%4/\cellOf ns 2%4<4:=⟨Jn _ ∅,Jd _ ∅⟩;refine dX λU p=>?_;let L:Tb Pt uI rL H3:=.inl<|g3 _ _ hT;let o9:aJ H2 H3:=e3;refine⟨_,Z,_,Z,r,l,tl,m,_,ws,Tt,Z,e3 _ _ j5,e3 _ _ d8,i6.1,i6.2,wn,wb,m1,m4,r9,c1,L,λI H4 ys bs nI b4 n3 hL4 w1 m7 d0=>?_⟩;let b4:dS Pt H3 H4:=b4;dsimp only[bD];subst p;let BL:=SR wn m1 m4 c1 w1 m7 d0;refine dX λU p=>?_;let u6:aQ K H4 a (ns.map V.int):=KG b4 L<|g3.seq hS;refine⟨_,Z,_,Z,_,Z,_,Z,6,Z,a,_,Z,u6,λcl v2=>?_⟩;rw[D0<|show (0:Int)<=6 by decide];let⟨H5,C,e5,q7⟩:=cS v2<|.lst<|(ns.map V.int).drop (6:Int).toNat;rw[C];clear C;rw[<- List.map_drop]at q7;let b5:dS Pt H3 H5:=b4.trans<|.of e5;let i9:=BQ n3 e5;refine⟨F,fF,n,cF,r,l,tl,cl,m,_,ws,Tt,_,Z,n2,b5.tup L _ _<|e3 _ _ j5,b5.lst L<|e3 _ _ d8,i6.1,i6.2,wn,wb,m1,m4,b5.lst L r9,c1,q7,i9,λD H6 ds gp nD b6 v3 k9 fds hP=>?_⟩;dsimp only[bD];subst p;let Pn:=z2y wn c1 hP;refine dX λU p=>?_;let k2:=b5.trans b6;let t6:aQ K H6 a (ns.map V.int):=KG k2 L<|g3.seq hS;let t4:=k2.tup L _ _<|e3 _ _ j5;let hl6:=k2.lst L<|e3 _ _ d8;let w5:TL m H6 I ys bs:=(hL4.same e5).but b6 i9;clear u6 q7 b4 hL4 n3 nI m7 w1 r9 j5 d8 g3 o9 e3 g2 e1 e2 hS hT nD v2 b5 b6 k2 L i9 v3 e5 fds;refine⟨_,Z,a,ns,3,Z,t6,∅,?_⟩;dsimp only[bD];subst p;generalize cellOf ns 3=c3;refine dX λU p=>?_;exists _,Z;intro d nd;let⟨H7,C,e7,o7⟩:=cS nd<|.dT [];rw[C];clear C;refine⟨_,Z,_,_,Z,Z,p2 _ 2 ∅ ∅,_,_,Z,Z,(by show (0:Int)<2;decide),(by show 1<=sizeLine;decide),λz0 f8=>?_⟩;let u7:=Jn (Int.fdiv c3 2) (show (2:Int)≠0 by decide);let ob1:=Jd (Int.fdiv c3 2) (show (0:Int)<2 by decide);generalize Int.fdiv c3 2%2=ob at u7 ob1 ⊢;let⟨H8,C,e8,hz8⟩:=cS f8<|.lst [.int ob];rw[C];clear C;refine⟨_,Z,z0,m,[.int ob],Z,Z,hz8,⋯,⋯,zl _<|by simp;lia,λz1 i5=>?_⟩;let⟨H9,C,e9,l3⟩:=cS i5<|.lst (List.replicate (m:Int).toNat [V.int ob]).flatten;rw[C];clear C;rw[MK,Y1]at l3;let o0:T0 m (List.replicate m ob):=T0.of List.length_replicate λx hx=>by rw[(List.mem_replicate.mp hx).2];exact u7
 let o1:∀i,(List.replicate m ob).getD i 0<=1:=λi=>by rw[List.getD,List.getElem?_replicate];split <;> simp <;> lia
 generalize List.replicate m ob=o at l3 o0 o1;refine⟨z1,_,Z,.inl ⟨aQ.of l3,λzt i1=>?_⟩⟩;let⟨H10,C,v9,n8⟩:=cS i1<|.tup<|o.map V.int;rw[C];clear C;refine⟨_,Z,_,Z,F,fF,n,cF,_,Z,n2,λx v f5 x0 sn t7 hx=>?_⟩;let l6:aJ H7 f5:=(e8.trans<|e9.trans v9).trans t7;refine⟨zt,ky o,Z,l6 _ _ o7,by rw[hZ];exact t7 _ _ n8,?_⟩;let e4:aJ H6 (upd f5 d<|.dT [(ky o,v)]):=(e7.trans l6).updR nd;let g9:(upd f5 d<|HO.dT [(ky o,v)]) d=some (.dT [(ky o,v)]):=aW;let f6:=hx.fix<|jZ (o:=.dT [(ky o,v)])<|l6 _ _ o7;show lJ _ _ _ (upd f5 d<|HO.dT [(ky o,v)]) _;generalize upd f5 d (HO.dT [(ky o,v)])=H12 at e4 g9 f6 ⊢;obtain⟨j0,ej,p7⟩:∃j0:Nat,c3%(m:Int)=(j0:Int)/\j0<m:=by let h1:=Jn c3 (show (m:Int)≠0 by lia);let h2:=Jd c3 (show 0<(m:Int) by lia);exact⟨(c3%(m:Int)).toNat,⋯,⋯⟩
 let i8:=hP.len;obtain⟨e2,s4⟩:∃e2,ds[j0]?=some e2:=⟨_,Yc ⋯⟩;let⟨gvs,h1,h2,h3⟩:=hP.pf j0 e2 s4;let de:d≠e2:=λz=>by rw[<- z,nd]at h1;cases h1
 let d5:iO (ds.map V.ref) (c3%(m:Int))=some (.ref e2):=by rw[ej];exact iC (by rw[Ym,s4];rfl)
 refine⟨_,Z,_,Z,_,Z,_,_,Z,Z,(by show (0:Int)<m;lia),D,_,_,_,Z,Z,aQ.of<|e4 _ _ k9,d5,F,fF,n,cF,m,d,e2,o,v,x,gvs,gp j0,Z,n2,n1,m4,de,g9,o0,f6,x0,e4 _ _ h1,h2.same e4,IN sn,λt=>IR<|hP.sm j0 t,⋯,λd2 H13 kvs2 nd2 e13 w3 w2 lk2=>?_⟩;dsimp only[bD];subst p;let r7:=e4.trans e13;refine dX λU p=>?_;refine⟨_,Z,_,Z,_,Z,_,Z,(by show 1<=sizeLine;decide),λy0 g8=>?_⟩;let⟨H14,C,l8,n0⟩:=cS g8<|.lst [.ref d2];rw[C];clear C;refine⟨D,y0,_,_,Z,Z,l8 _ _<|r7 _ _ k9,n0,zl _<|by rw[Yd];simp;lia,λy1 g1=>?_⟩;let⟨H15,C,t9,n5⟩:=cS g1<|.lst<|ds.map V.ref++[.ref d2];rw[C];clear C;let f7:=(r7.trans l8).trans t9;let q5:=l8.trans t9;let lb1:(lB m:Int)+1<=7:=by unfold lB;split <;> (try split) <;> simp
 let pb:∀j t,(if j<m then gp j else λt=>x*sh o (gp j0) t) t≠0->∀z∈t,z<=lB m+1:=λj t h=>z3r λi=>GY Pn c1 p7 o0 o1 h i;refine⟨_,Z,a,ns,4,Z,f7.seq t6,∅,F,fF,n,cF,m,y1,ds++[d2],(λj=>if j<m then gp j else λt=>x*sh o (gp j0) t),_,Z,n2,n1,m1,m4,by rw[List.map_append];exact n5,by rw[Y6,i8];simp,by rw[List.length_append,i8];simp;lia,λj d' g6=>?_,λj t=>?_,λj hj H' ap φ pf hφ=>z2u m1 m4 pf λt ht=>pb j t<|hφ t ht,λD2 u5 vs s7 nD2 e16 s8 o5 l7 EE AA=>?_⟩
 ·by_cases c:j<m
  ·rw[List.getElem?_append_left ⋯]at g6;let⟨ap,q1,q2,q3⟩:=hP.pf j d' g6;rw[Yl c];exact⟨ap,f7 _ _ q1,q2.same f7,q3⟩
  ·let lj:=eR g6;rw[Y6,i8]at lj;obtain rfl:j=m:=by simp at lj;lia
   rw[<- i8,List.getElem?_concat_length]at g6;cases g6;rw[Yh c];exact⟨kvs2,q5 _ _ w3,w2.same q5,⋯⟩
 ·by_cases c:j<m
  ·simp only[if_pos c];exact IR<|hP.sm j t
  ·simp only[if_neg c];unfold sh;split
   ·exact z1b sn<|hP.sm j0 _
   ·rw[show x*0=(0:F) by grind];exact cL.zero ∅
 rw[Y6,i8]at EE AA;dsimp only[bD];subst p;refine dX λU p=>?_;let gB:=f7.trans e16;let r6:=z23 (λj hj=>Pn.row.sp j<|List.mem_range.mpr hj) hP.sm p7 o0 x0 sn EE AA;obtain⟨gs,u2⟩:∃gs:Nat->Po F,gs=λi=>s7.getD i λ_=>0:=⟨_,Z⟩;let s9:∀i t,gs i t≠0->∀z∈t,z<=7:=λi t ht z hz=>by
  rw[u2]at ht;dsimp only at ht;cases q:s7[i]? with
  | none=>simp[List.getD,q]at ht
  | some φ=>
   rw[show s7.getD i (λ_=>0)=φ by simp[List.getD,q]]at ht;rcases EE φ (Yx q) with h | ⟨j,_,w,_,_,e⟩
   ·exact absurd (h t) ht
   ·rw[e]at ht;have:=pb j t (λz=>ht<|by show w*(if j<m then gp j else λt=>x*sh o (gp j0) t) t=0;rw[z];grind) z hz;lia
 let⟨db,m8,evs,ldb,u1⟩:=RL o5;rw[evs]at s8;rw[<- ldb]at r6 l7;rw[<- u2]at r6 u1;clear u2;let t5:∀i,vX (gs i):=λi t ht z hz=>Int.lt_of_le_of_lt (s9 i t ht z hz) ∅;let m3:∀i h,Ld (cK (cellOf ns 2%4) ws) (gs i) h->∀j,h.getD j 0<=200:=λi h hl j=>by
  rcases Jh j h.length with c | c
  ·have:=s9 i h hl.1 (h.getD j 0) (by rw[List.getD,Yc c];exact Jw _);lia
  ·simp[List.getD,List.getElem?_eq_none c]
 clear EE AA s9 pb o5 w2 w3 n5 n0 f6 g9 hx n8 l3 hz8 o7;let⟨k0,k4⟩:=i6;generalize cellOf ns 2%4=kd at k0 k4 hP Pn t4 m3 d0;let hrB:=gB _ _ t4;let w9:=gB _ _ hl6;let hDB:=gB _ _ k9;let u8:=w5.same gB;let hPB:∀(i:Nat) d,ds[i]?=some d->∃ap,u5 d=some (.dT ap)/\PF n m u5 ap (gp i)/\ap.length<=7:=λi d hd=>let ⟨ap,q1,q2,q3⟩:=hP.pf i d hd;⟨ap,gB _ _ q1,q2.same gB,q3⟩;let hPs:=hP.sm;clear hP w5 k9 hl6 t4 t6 e16 gB nD2 q5 f7 t9 g1 l8 g8 r7 e13 nd2 lk2 d5 h1 h2 h3 s4 de e4 l6 t7 v9 i1 e9 i5 e8 f8 e7 nd;refine⟨_,Z,_,Z,n,Z,n2,n1,λpf H17 l9 hpf=>?_⟩;let⟨CO,O⟩:=hord kd ws k0 k4 wn wb;refine⟨_,Z,r,l,kd,ws,Z,l9 _ _ hrB,k0,k4,l9 _ _ w9,⋯,wn,λpo q4 s3 d5 rg dx nx ndx ne=>?_⟩;let e8:aJ q4 (upd (upd q4 dx<|.own rg) rg<|.ins aA dx []):=λb o hb=>by rw[aV<|eE hb nx,aV<|eE hb ndx];exact hb
 refine⟨rg,dx,m,pf,po,kd,ws,Z,aW,k0,k4,wn,wb,O.oC.same e8 d5,⟨⋯,⋯,?_⟩,λc6 h1 h2=>⟨Z,?_⟩⟩
 ·unfold nR;split
  ·exact Yo ⋯
  ·rfl
 let k6:aJ q4 c6:=λb o hb=>h2 b o (e8 _ _ hb)<|eE hb nx;let c8:=(l9.trans s3).trans k6;let hR:kB aA aB aC aD aE aF aG c6 rg ⟨m,pf,po,n,kd,ws⟩:=⟨n1,n2,m1,m4,k0,k4,wn,wb,⟨dx,h1⟩,vE (.of<|s3.trans k6) hpf,O.oC.same k6 d5⟩;let rc:=u1.same c8;let hb:=c8 _ _ s8;let hD:=c8 _ _ hDB;let hI:=u8.same c8;let hPf:∀(i:Nat) d,ds[i]?=some d->∃ap,c6 d=some (.dT ap)/\PF n m c6 ap (gp i)/\ap.length<=7:=λi d hd=>let ⟨ap,q1,q2,q3⟩:=hPB i d hd;⟨ap,c8 _ _ q1,q2.same c8,q3⟩;clear e8 h1 h2 k6 c8 d5 O hpf l9 s3 nx ndx ne u1 s8 hDB u8 hPB hrB w9;dsimp only[bD];subst p;refine dX λU p=>?_;refine⟨Y2 _,λtb ntb=>?_⟩;let⟨H20,C,e20,htb⟩:=cS ntb<|.lst [];rw[C];clear C;dsimp only[bD];subst p;refine dX λU p=>?_;refine⟨_,Z,_,Z,⋯,⋯,?_⟩;rw[Y1];let m0:=Paired.length hI.tm;let lb6:=BL.b6;refine kY (λi σ H'=>(∃d9 d3 d7,σ=[some<|.ref a,some<|.int n,some<|.int m,some<|.ref r,some<|.ref tl,some<|.ref I,some<|.ref D,some<|.int c3,some<|.ref d2,some<|.ref D2,some<|.ref rg,some<|.ref tb,d9,d3,d7,none,none,none])/\aJ c6 H'/\∃ls τ,ls.length=i/\lC n m Tt gp (·≠tb) H' bs tb ls τ) ?_ ?_ ?_
 ·exact⟨⟨none,none,none,Z⟩,e20,[],λ_ _ _=>0,Z,htb,(λa l h=>by cases h),(λa h=>by cases h),λa h=>by cases h⟩
 ·rintro i σ k1 hi ⟨⟨d9,d3,d7,rfl⟩,a7,ls,τ,b8,S⟩;clear htb e20 p;rw[Int.zero_add];dsimp only[bD];refine dX λU p=>?_;show aX _ _ _ _ _ _ _ _;refine FN ⟨_,Z,D2,Z,⟨_,aQ.of<|a7 _ _ hb⟩,λDh h5=>IP (rc.same a7) (a7 _ _ hb) ⋯ h5 λr8 dh a6 b9 j8 pR=>?_⟩;dsimp only[bD];subst p;refine dX λU p=>?_;let j7:=a7.trans a6;let w7:Bs n m gp dh.length gs:=by rw[j8];exact r6
  refine⟨_,Z,_,Z,_,Z,F,fF,rg,Dh,i,⟨m,pf,po,n,kd,ws⟩,cF,dh,m8,gs,Z,hR.same j7,pR.toRow b9 ⋯,t5,hi,m3,.inl ⟨Tt,gp,c1,Pn,w7,λfd H23 c7 cs nfd f4 v8 m5 a0 c9 k8=>?_⟩⟩;obtain rfl:bs=cs:=(ES Pn.om m5 BL.nd (λt=>(a0 t).trans (BL.mem t).symm) (λt ht=>((a0 t).mp ht).1.len) c9 d0).symm;let⟨s1,s5,l5,jb1⟩:=KK Pn k8;clear k8 m5 a0 c9;dsimp only[bD];subst p;refine dX λU p=>?_;let o9:=j7.trans f4;let lf:=Paired.length s5;refine⟨_,Z,_,Z,_,Z,I,_,Z,.inl<|aQ.of<|o9 _ _ hI.at_,F,fF,n,cF,fd,c7,ys.length,Z,n2,v8,⋯,⋯,λv hv=>?_,λj6 e0=>⟨_,Z,cA ?_⟩⟩
  ·let⟨j,hj⟩:=Je.mp hv;let⟨t,_,l',q1,_,q3⟩:=cV s5 hj;exact⟨l',_,bs,q1,q3,m0⟩
  let d6:=f4.trans e0;let v5:=j7.trans d6;refine⟨_,Z,_,Z,LB (d6 _ _ b9) (v5 _ _ hb) (pR.same d6) (rc.same v5) true ⟨_,Z,cA ?_⟩⟩;show U _ _ _;subst p;refine dX λU p=>?_;let g5:aJ k1 j6:=a6.trans d6;let j1:Paired (λt v=>∃l,v=.ref l/\r8 l=none/\bL n j6 bs (s1 t) l) bs c7:=bH (λ_ _ ⟨l',a1,a2,a3⟩=>⟨l',a1,a2,a3.same e0⟩) s5;let c2:=e0 _ _ v8;exists _,Z,.inl ⟨Z,_,aQ.of<|g5 _ _ S.at_⟩;show aX _ _ _ _ _ _ _ _;refine FN ⟨_,Z,fd,Z,⟨_,aQ.of c2⟩,λLt k3=>z05 (bH (λ_ _ ⟨l',a1,_,a3⟩=>⟨l',a1,a3⟩) j1) c2 ⋯ k3 λa8 wl b0 w8 hpl=>?_⟩;let k5:=g5.trans b0;let h9:=S.same k5;exists tb,_,_,Z,Z,h9.at_,gY _ (by rw[Yd];lia);obtain⟨q0,v6⟩:∃q0,c7[0]?=some (.ref q0):=by
   let l0:0<c7.length:=by rw[<- lf];exact eR BL.z
   let⟨_,_,q0,h,_⟩:=cV j1<|Yc l0;exact⟨q0,by rw[Yc l0,h]⟩
  let⟨_,_,q0',h',i7,zs0,hz0,_⟩:=cV j1 v6;cases h';let M:∀b,k1 b=none->b≠tb:=λb h z=>by rw[z,S.at_]at h;cases h
  let o4:=M q0<|a6.free i7;let u9:∀b,j6 b=none->b≠q0:=λb h z=>by rw[z,hz0]at h;cases h
  let h9:lC n m Tt gp (λb=>b≠tb/\b≠q0) a8 bs tb ls τ:=(S.by λb o h n=>⟨n,λz=>by rw[z,a6.free i7]at h;cases h⟩).same k5;let n9:=h9.push (σ:=s1) (λb h=>h.1) ⟨M _<|g5.free k3,u9 _ k3⟩ w8 (bH (λ_ _ ⟨q,a1,a2,a3⟩=>⟨q,a1,⟨M _<|g5.free a2,u9 _ a2⟩,a3⟩) hpl) (by rw[b8];exact l5) jb1;let a9:(upd a8 tb<|HO.lst<|ls.map V.ref++[.ref Lt]) q0=some (.lst zs0):=(aV o4).trans (b0 _ _ hz0);let f26:(upd a8 tb<|HO.lst<|ls.map V.ref++[.ref Lt]) fd=some (.lst c7):=(aV<|M _<|a6.free nfd).trans (b0 _ _ c2);let f0:(upd a8 tb<|HO.lst<|ls.map V.ref++[.ref Lt]) Dh=some (.lst<|dh.map V.ref):=(aV<|M _ h5).trans (b0 _ _<|d6 _ _ b9);let h7:=(pR.same<|d6.trans b0).updL (o:=.lst<|ls.map V.ref++[.ref Lt]) (k5 _ _ S.at_);let v1:aJ c6 (upd a8 tb<|.lst<|ls.map V.ref++[.ref Lt]):=(a7.trans k5).updR ntb;let v0:(upd a8 tb<|HO.lst<|ls.map V.ref++[.ref Lt]) Lt=some (.lst wl):=(aV<|M _<|g5.free k3).trans w8;generalize upd a8 tb (HO.lst<|ls.map V.ref++[.ref Lt])=a4 at n9 a9 f26 f0 h7 v1 v0 ⊢;show U _ _ _;subst p;refine dX λU p=>?_;exists _,Z,fd,_,_,_,Z,Z,aQ.of f26,iC (j:=0) v6,.inl ⟨Z,_,aQ.of a9⟩,q0,_,Z,Z,a9;let n4:=n9.updL (o:=.lst []) a9 (Jc o4) λb h=>h.2;let Dq:Dh≠q0:=λz=>by rw[<- z,b9]at i7;cases i7
  let b2:(upd a4 q0<|HO.lst []) Dh=some (.lst<|dh.map V.ref):=(aV Dq).trans f0;let b7:=h7.updL (o:=.lst []) a9;let a5:aJ c6 (upd a4 q0<|.lst []):=v1.updR<|j7.free i7;generalize upd a4 q0 (HO.lst [])=H27 at n4 b2 b7 a5 ⊢;show U _ _ _;subst p;refine⟨_,Z,_,Z,_,Z,F,fF,rg,Dh,i,⟨m,pf,po,n,kd,ws⟩,cF,dh,m8,gs,Z,hR.same a5,b7.toRow b2 ⋯,t5,hi,m3,.inl ⟨Tt,gp,c1,Pn,w7,λf2 H28 f2vs cs nf2 c4 hf2 m5 a0 c9 k8=>?_⟩⟩;obtain rfl:bs=cs:=(ES Pn.om m5 BL.nd (λt=>(a0 t).trans (BL.mem t).symm) (λt ht=>((a0 t).mp ht).1.len) c9 d0).symm;let⟨s2,m2,w6,_⟩:=KK Pn k8;let h8:=(n4.same c4).by (B:=λb=>b≠tb) λb _ _ h=>h.1;let lt':(ls++[Lt])[i]?=some Lt:=by rw[<- b8];exact List.getElem?_concat_length
  let⟨_,wl',v7,i3⟩:=h8.tb i Lt lt';rw[Yl b8.symm]at i3;exists _,Z,_,Z,tb,_,_,_,Z,Z,aQ.of h8.at_,iC (j:=i) (by rw[Ym,lt'];rfl);let⟨dA,dB,r1,r2,r3,r4,r5⟩:=U0 (K:=K) hf2 v7 (bH (λ_ _ ⟨l',a1,_,a3⟩=>⟨l',a1,a3⟩) m2) (bH (λ_ _ ⟨l',a1,_,a3⟩=>⟨l',a1,a3⟩) i3) λb hb t _=>Nf.one Pn (w6 b hb) (l5 b hb) t;exists dA,dB,r1,r2,r3,r4;rw[r5];let p9:=a5.trans c4;refine⟨_,Z,cA ⟨_,Z,_,Z,LB (c4 _ _ b2) (p9 _ _ hb) (b7.same c4) (rc.same p9) true ⟨_,Z,cA ?_⟩⟩⟩;exact⟨⟨_,_,_,Z⟩,p9,_,_,by rw[Y6,b8];rfl,h8⟩
 rintro σ k1 ⟨⟨d9,d3,d7,rfl⟩,a7,ls,τ,b8,S⟩;show U _ _ _;subst p;let hTb:=S.tbs;clear S;refine dX λU p=>?_;intro d nd;let⟨r8,C,a6,i2⟩:=cS nd<|.dT [];rw[C];clear C;refine⟨(by show 1<=sizeLine;decide),λz0 f8=>?_⟩;let⟨H23,C,f4,m9⟩:=cS f8<|.lst [.int 0];rw[C];clear C;refine⟨_,rfl,z0,m,[.int 0],rfl,rfl,m9,⋯,⋯,zl _<|by simp;lia,λz1 i5=>?_⟩;let⟨j6,C,e0,h6⟩:=cS i5<|.lst (List.replicate (m:Int).toNat [V.int 0]).flatten;rw[C];clear C;rw[EX,Y1]at h6;refine⟨z1,_,rfl,.inl ⟨aQ.of h6,λzt i1=>?_⟩⟩;let⟨a8,C,b0,o6⟩:=cS i1<|.tup<|(zer m).map V.int;rw[C];clear C;refine⟨_,rfl,_,rfl,_,_,rfl,rfl,p2 _ 3 ∅ ∅,F,fF,n,cF,_,rfl,n2,λy v a4 y0 _ u4 hy=>?_⟩;let j4:aJ r8 a4:=(f4.trans<|e0.trans b0).trans u4;refine⟨zt,ky<|zer m,rfl,j4 _ _ i2,by rw[hZ];exact u4 _ _ o6,?_⟩;let k7:aJ k1 (upd a4 d<|.dT [(ky<|zer m,v)]):=(a6.trans j4).updR nd;let g4:(upd a4 d<|HO.dT [(ky<|zer m,v)]) d=some (.dT [(ky<|zer m,v)]):=aW;let h4:=hy.fix<|jZ (o:=.dT [(ky<|zer m,v)])<|j4 _ _ i2;show bD 15 (.ref d) _ (upd a4 d<|HO.dT [(ky<|zer m,v)]) _;generalize upd a4 d (HO.dT [(ky<|zer m,v)])=H27 at k7 g4 h4 ⊢;let f9:PF n m H27 [(ky<|zer m,v)] (λu=>y*dl (zer m) u):=EK (T0.zer m) h4 y0;let a5:=a7.trans k7;clear h4 hy i2 m9 h6 o6 a6 f4 e0 b0 u4 j4 nd f8 i5 i1;dsimp only[bD];subst p;refine dX λU p=>?_;exists _,Z;show aX _ _ _ _ _ _ _ _;refine FN ⟨_,Z,D2,Z,⟨_,aQ.of<|a5 _ _ hb⟩,λDh h5=>IP (rc.same a5) (a5 _ _ hb) ⋯ h5 λH28 dh c4 b9 j8 pR=>?_⟩;refine⟨_,Z,(by show 1<=sizeLine;decide),λy0' g8=>?_⟩;let⟨H29,C,j3,o3⟩:=cS g8<|.lst [.ref d];rw[C];clear C;refine⟨Dh,y0',_,_,Z,Z,j3 _ _ b9,o3,zl _<|by rw[Yd];simp;lia,λy1' g1=>?_⟩;let⟨H30,C,p5,n7⟩:=cS g1<|.lst<|dh.map V.ref++[.ref d];rw[C];clear C;let g0:=(c4.trans j3).trans p5;let G30:=a5.trans g0;let o2:=(pR.same<|j3.trans p5).push (g0 _ _ g4) (f9.same g0) (J3 f9<|Yi _);let cl:∀i u,(if i=dh.length then(λu=>y*dl (zer m) u) else gs i) u≠0->u=zer m\/gs i u≠0:=λi u h=>by
  by_cases c:i=dh.length
  ·rw[Yl c]at h;refine .inl<|Classical.byContradiction λz=>h ?_;show y*dl (zer m) u=0;unfold dl;rw[Yh z];grind
  ·rw[Yh c]at h;exact .inr h
 refine⟨_,Z,_,Z,_,_,Z,Z,(by show (0:Int)<m;lia),F,fF,rg,y1',j0,⟨m,pf,po,n,kd,ws⟩,cF,dh++[d],_,_,(by rw[ej];rfl),hR.same G30,o2.toRow (by rw[List.map_append];exact n7)<|by rw[Y6,j8];simp;lia,λi u hu z hz=>?_,p7,λi h hl j=>?_,.inr ⟨⟨dh.length,by rw[Y6];simp,?_⟩,λf3 H31 nf3 w4 hf3=>?_⟩⟩
 ·rcases cl i u hu with e | h
  ·rw[e]at hz;rw[List.eq_of_mem_replicate hz];decide
  ·exact t5 i u h z hz
 ·by_cases c:i=dh.length
  ·rcases cl i h hl.1 with e | q
   ·rw[e];unfold zer;rw[List.getD,List.getElem?_replicate];split <;> simp
   ·rw[pR.out i ⋯]at q;exact absurd Z q
  ·refine m3 i h ?_ j;let hl:=hl;simp only[if_neg c]at hl;exact hl
 ·simp only[if_pos trivial];refine⟨λz=>y0 ?_,λu hu=>.inl<|Classical.byContradiction λz=>hu ?_⟩
  ·have:y*dl (zer m) (zer m)=0:=z;unfold dl at this;rw[Yl Z]at this;grind
  ·show y*dl (zer m) u=0;unfold dl;rw[Yh z];grind
 refine⟨Y2 _,λw0 nw0=>?_⟩;let⟨H32,C,p8,v4⟩:=cS nw0<|.lst [];rw[C];clear C;refine⟨.list [],.list [],.lst (aQ.of<|p8 _ _ hf3) .nil,.lst (aQ.of v4) .nil,nofun,nofun,?_⟩;rw[show PyData.eqv (.list []) (.list [])=true by decide +kernel];refine⟨_,Z,cA ?_⟩;let u3:=(k7.trans g0).trans (w4.trans p8);let l4:=a7.trans u3;let c0:=hTb.same u3;clear hTb u3 p8 w4 nw0 nf3 cl o2 g0 G30 p5 j3 c4 b9 pR j8 h5 g8 g1 o3 n7 a5 f9 g4 k7;show U _ _ _;subst p;refine dX λU p=>?_;let b1:=l4 _ _ hI.at_;refine⟨_,Z,I,_,Z,.inl<|aQ.of b1,_,Z,⋯,⋯,?_⟩;rw[Y1];refine kY (λi σ H'=>(∃e6,σ=[some<|.ref a,some<|.int n,some<|.int m,some<|.ref r,some<|.ref tl,some<|.ref I,some<|.ref D,some<|.int c3,some<|.ref d2,some<|.ref D2,some<|.ref rg,some<|.ref tb,d9,d3,d7,some<|.ref d,e6,none])/\aJ H32 H') ⟨⟨none,Z⟩,aJ.refl _⟩ ?_ ?_
 ·rintro i σ p0 hi ⟨⟨e6,rfl⟩,Y⟩;rw[Int.zero_add];dsimp only[bD];obtain⟨vi,hvi⟩:∃vi,ys[i]?=some vi:=⟨_,Yc hi⟩;let⟨u,ut,hu,rfl,hut,u0⟩:=(hI.same<|l4.trans Y).get hvi;let ub:=(BL.mem u).mp (Yx hu);refine⟨_,rfl,_,rfl,_,rfl,I,_,_,_,rfl,rfl,aQ.of<|Y _ _ b1,iC hvi,_,rfl,_,rfl,I,_,rfl,.inl<|aQ.of<|Y _ _ b1,F,fF,n,cF,m,cK kd ws,Tt,gp,ut,tb,bs,ls,τ,u,(by rw[m0];rfl),n2,n1,Pn,BL,c0.same Y,b8,hut,u0,.inl ub,m4,λl1 ρ q6 _ c5 rr1 l5 _=>?_⟩;refine⟨_,rfl,_,rfl,I,_,rfl,.inl<|aQ.of<|c5 _ _<|Y _ _ b1,_,rfl,F,fF,n,cF,ys.length,i,rfl,n2,⋯,λl2 zs g7 _ W d8 m2=>?_⟩;let r0:bL n g7 bs (dl (F:=F) u) l2:=by
   refine VL.row (f:=λj=>if j=i then(1:F) else 0) ⟨zs,d8,by rw[<- Paired.length m2,List.length_range,m0],λj v hv=>?_⟩ λj t' d4=>?_
   ·let⟨j',hj,q⟩:=cV m2 hv;have:j'=j:=by
     let hi:j<ys.length:=by rw[<- List.length_range (n:=ys.length)];exact eR hj
     rw[List.getElem?_range hi]at hj;injection hj with hj;exact hj.symm
    subst this;exact q
   ·unfold dl;by_cases c:j=i
    ·subst c;rw[hu]at d4;injection d4 with d4;rw[Yl Z,Yl d4.symm]
    ·rw[Yh c,Yh λz=>?_];subst z;exact c<|(List.getElem?_inj (by have:=eR d4;exact this) BL.nd).mp (d4.trans hu.symm)
  let⟨dA,dB,r1,r2,r3,r4,r5⟩:=FI (K:=K) (rr1.same W) r0 λt _=>Nf.one Pn l5 (Nf.self λx hx=>by have:x=u:=Classical.byContradiction λz=>hx<|Yh z;rw[this];exact ub) t
  exists dA,dB,r1,r2,r3,r4;rw[r5];exact⟨_,Z,cA ⟨⟨_,Z⟩,Y.trans<|c5.trans W⟩⟩
 rintro σ p0 ⟨⟨e6,rfl⟩,Y⟩;let G33:=l4.trans Y;let c0:=c0.same Y;clear Y b1 l4;show U _ _ _;subst p;refine dX λU p=>?_;refine⟨_,Z,_,Z,⋯,⋯,?_⟩;rw[Y1];refine kY (λi σ H'=>(∃e6 b3,σ=[some<|.ref a,some<|.int n,some<|.int m,some<|.ref r,some<|.ref tl,some<|.ref I,some<|.ref D,some<|.int c3,some<|.ref d2,some<|.ref D2,some<|.ref rg,some<|.ref tb,d9,d3,d7,some<|.ref d,e6,b3])/\aJ p0 H') ⟨⟨_,none,Z⟩,aJ.refl _⟩ ?_ ?_
 ·rintro i σ q6 hi ⟨⟨e6,b3,rfl⟩,c5⟩;rw[Int.zero_add];dsimp only[bD];refine⟨_,rfl,_,rfl,⋯,⋯,?_⟩;rw[Y1];refine kY (λj σ H'=>(∃b3,σ=[some<|.ref a,some<|.int n,some<|.int m,some<|.ref r,some<|.ref tl,some<|.ref I,some<|.ref D,some<|.int c3,some<|.ref d2,some<|.ref D2,some<|.ref rg,some<|.ref tb,d9,d3,d7,some<|.ref d,some<|.int i,b3])/\aJ p0 H') ⟨⟨_,rfl⟩,c5⟩ ?_ ?_
  ·rintro j σ g7 hj ⟨⟨b3,rfl⟩,W⟩;rw[Int.zero_add];dsimp only[bD];let tB:=c0.same W;obtain⟨x1,hx1⟩:∃x1,ls[j]?=some x1:=⟨_,Yc ⋯⟩;obtain⟨x2,hx2⟩:∃x2,ls[i]?=some x2:=⟨_,Yc ⋯⟩;let a1:iO (ls.map V.ref) (j:Int)=some (.ref x1):=iC (by rw[Ym,hx1];rfl);let a2:iO (ls.map V.ref) (i:Int)=some (.ref x2):=iC (by rw[Ym,hx2];rfl);refine⟨_,rfl,_,rfl,_,rfl,tb,_,_,_,rfl,rfl,aQ.of tB.at_,a1,_,rfl,_,rfl,tb,_,_,_,rfl,rfl,aQ.of tB.at_,a2,F,fF,n,cF,m,cK kd ws,Tt,gp,tb,bs,ls,τ,j,i,x1,x2,rfl,n2,n1,Pn,BL,tB,hx1,hx2,λH36 t8=>⟨_,rfl,cA ⟨⟨_,rfl⟩,W.trans t8⟩⟩⟩
  ·rintro σ g7 ⟨⟨b3,rfl⟩,W⟩;exact⟨⟨_,_,rfl⟩,W⟩
 rintro σ q6 ⟨⟨v16',b3,rfl⟩,c5⟩;let q9:=G33.trans c5;let c0:=c0.same c5;show U _ _ _;subst p;show aX _ _ _ _ _ _ _ _;refine vH (J:=lF K D) (H1:=q6) (oQ<|aQ.of<|q9 _ _ hD) (by rw[Yd];lia) ?_ (λσ=>∃v,σ=[v,some<|.ref I,some<|.int n,some<|.ref tb]) (λ_=>true) (λi=>.bl true) ⟨none,rfl⟩ ?_ λD' g7 W hL=>?_
 ·exact λR hR=>⟨_,Z,D,Z,⟨_,aQ.of<|q9 _ _ hD⟩,hR⟩
 ·rintro j v σ' g7 hj ⟨z,rfl⟩ W hv Ny Nn hy hn;rw[Yd]at hj;obtain⟨e,he⟩:∃e,ds[j]?=some e:=⟨_,Yc hj⟩;rw[Ym,he]at hv;cases hv;let⟨c7,f1,f2,f3⟩:=hPf j e he;let s6:=q9.trans W;unfold eH;dsimp only[bD];rw[Yl Z];refine⟨_,Z,_,Z,_,Z,_,Z,I,_,Z,.inl<|aQ.of<|s6 _ _ hI.at_,F,fF,n,cF,m,cK kd ws,Tt,gp,e,tb,bs,ls,τ,j,c7,(by rw[m0];rfl),n2,n1,Pn,BL,c0.same W,b8,m4,⋯,s6 _ _ f1,f2.same s6,hPs j,⋯,λH36 t8=>?_⟩;exact hy _ _ ⟨_,Z⟩ t8 rfl
 rw[Yu.mpr<|λ_ _=>Z]at hL;exists D',(List.range (ds.map V.ref).length).map λ_=>true,Z,aQ.of (by rw[hL,Ji];rfl);rw[MO];exact k _
end
end
end K6
structure PySem.W.Fast:Prop where(tw9340588351671948125 tw16175947467774239957 tw7400399387815185098 tw13410542272879160768 tw10755707608614887403 tw9158223026716887982 tw8754028513054298630 tw2756651151385319646 tw16171176669843459339 tw9169801215472910522 tw586730335764059979 tw1872374480514996805 tw4779600225442409819 tw2058612179349294981 tw4796871636890786735 tw16483566285998783035 tw1305140504067236731 tw6504466467101270924 tw4639441185327013253 tw2479898941547185895 tw13669204171058935113 tw1484347808727365349 tw8837371147086339339 tw4691567052876587684 tw9056145111985241723 tw15942891906153963218 tw2631654810774216073 tw4653292589698523616 tw4118001414359030655 tw1488235220543615163 tw5719081615470518009 tw14389663233858733979 tw16860653928845383621 tw3803586466726846485 tw17028673612922352182 tw3089021458054878901 tw12913801213053957466 tw6208300238784923566 tw16620977067178883382 tw11914947884232730396 tw8706141542693415750 tw897923724132504194 tw16518641917954043088 tw17715900940584280586 tw4845303974332277240 tw9008167079044047074 tw16541665556426459977 tw14264105730783320562 tw6423914163526924496 tw14295666118362798561 tw9060719993327678457 tw13169547793008515797 tw171731047771389932 tw7762894144271144991 tw4126669046286462333 tw1305546928569487079 tw4469408537631446966 tw11899398462604711936 tw8008947809172889568 tw11152217199797176520 tw16171846265405705184 tw8435164329043356409 tw8236339290469475438 tw6139609784236042997 tw16194648491577341946 tw14683381624687154938 tw13393345862875618879 tw8400895383739157380 tw12502434967743944463 tw9342099430070168570 tw4079843231608823339 tw4722137177215156863 tw13535451180074757114 tw6760853407777396677 tw3118407646498296298 tw13176299703711037948 tw7663537585689619502 tw13385656774601607338 tw4669221254589165493 tw2943883941968995046 tw16251028281984453874 tw215004170722866882 tw9334292596598938164 tw2686642229539632771 tw16057229665981891425 tw5596412785149863689 tw15057322028540765889 tw7341616536836335465 tw216706514909892798 tw5583306994046416650 tw8776105480681864782 tw3946376756552551891 tw17319362377256294559 tw4481211349313450907 tw7859098724079829330 tw15843573956439964292 tw4412818951718297864 tw2626829181632760278 tw8433445479686218997 tw7401217620218985797 tw4843285146059917123 tw15174710896484836045 tw1508025939139829 tw10745903513078195413 tw18310914921995916749 tw13600321937684842375 tw16116614858362895154 tw4243308159518231525 tw1605288464646526997 tw132655872402322997 tw14000518306559166384 tw10015328614308915214 tw17756504171952700473 tw11545193007307550190 tw2472776259511433751 tw14598934567169880663 tw1885555679692613398 tw7219543366495620385 tw5708885107256192824 tw11299094697321624629 tw12045955326862026250 tw13888152139605685414 tw17214652339188599093 tw13526252098371631707 tw17225669065915416449 tw4188153974861901380 tw12531591941697481141 tw18222116357409675169 tw16245537354572308466 tw7982510660856708491 tw3889881087622008430 tw12626082832422598839 tw8492648395388464116 tw347712983619215447 tw11892305528348649115 tw11728939760037384777 tw17969720758706261588 tw9601800309949984110 tw17042273658743073575 tw6004614308746045089 tw11672395833050100515 tw11989435083326052437 tw6622749634660704449 tw11104760284839317140 tw4591098054564661835 tw7349837279395743909 tw17083058118104425211 tw5579136464108584506 tw13895551467702724927 tw2959591613687314350 tw17288469008233054376 tw5813393708072637924 tw17183619999168155654 tw8067734246478134372 tw8600947501299315684 tw10828082406520948494 tw10273603799868329570 tw17721332205170006357 tw15957035576411894902 tw10562684461427379455 tw8496883955651503845 tw5446910216212965490 tw9465365421525013242 tw1217984925294631721 tw10417680070897744763 tw15912412074948034484 tw2518248195092886918 tw2007061735825983556 tw3981016257469954528 tw13394912595333940066 tw16502392274540524973 tw3594710185293669152 tw11740653570445507393 tw7863802923629668466 tw1890981478447148482 tw3114878450015706706 tw4802851537458595542 tw1855543853263255891 tw939092633154452655 tw540169913247574526 tw9602483945736660063 tw4262166501623019522 tw1400544881463031389 tw3910418683532373634 tw8862220916124366697 tw14278205036843132091 tw17892185591149100512 tw16644213082573509799 tw2091101379141166867 tw797134200625206042 tw9448074370290900329 tw3302233729480153166 tw14617694369202919770 tw12944113076076662606 tw4199927874246185637 tw17106317785927080515 tw8614195445254423458 tw6675465620663625507 tw11861587410535628019 tw13922450888630143867 tw7039905617372224611 tw12814562140239657051 tw4938007656867655056 tw536431184330427136 tw7384299818430075190 tw7812168772574391108 tw9954710093047393569 tw18442023343171614384 tw13596833815950764732 tw5561244496024712804 tw12113797960722494304 tw5050047555792544013 tw5513759430926328482 tw16163831128071822878 tw17650090990662930613 tw8352790144036845300 tw15781966619773258957 tw12130039010772540223 tw3558939146262165877 tw11069524539299715303 tw14803654137318997491 tw184320362580972631 tw15978101234930739261 tw17023443379273765759 tw2061352180010399009 tw5411432676473154418 tw4413307483536438347 tw1560994018251183524 tw7680540034909272507 tw15556455514779632614 tw1462957477746921511 tw5679706051201098690 tw823367341840798418 tw1455880617438178782 tw9101997091702170023 tw65184718721560545 tw16672741149839684915 tw6442476405774216041 tw13585690396318329842 tw11157471844681578912 tw9088223656919901533 tw15755971456252591006 tw15653908677653869431 tw12542102090530886514 tw10882717950892235779 tw1532465740459524104 tw3630974012905846099 tw10175389195520146232 tw12362522644981786281 tw1335137021964131397 tw16681189927589766394 tw532422958464706065 tw9355214223506587813 tw4493087782961271543 tw5604807239508420721 tw12957937860249387667 tw7786292426446112693 tw10824325327736942332 tw17978799866857463289 tw44332125927284725 tw18289594542310989200 tw13617839320890211909 tw16882079992312121813 tw5137001607402195845 tw16814349267314423889 tw13661419972809964946 tw5471543752188548582 tw3366177745998549101 tw16420533737520420596 tw4182452978882062227 tw16116138536430263510 tw14864318993914268489 tw14935332379386587692 tw4602013789847306532 tw13532999722122212067 tw8718224846673746069 tw10886953812638457357 tw10054695322072160189 tw15032696965466113651 tw10226144891237048507 tw1560170208197879144 tw15918258522242291537 tw11767154609457855718 tw12566231162498104681 tw11083272071348471456 tw2062258620318593737 tw17927150912379741134 tw6461254599585357750 tw9496663007145941426 tw7683977943858065420 tw7984734361310425311 tw16762700058797736678 tw14190551804087742504 tw7992458910054980811 tw17573014311651933806 tw13652807548184784149 tw7711665275183106763 tw11415320855759125490 tw17345271970276935796 tw18066751241569755406 tw13423567478684663316 tw7257934986169061039 tw11748139063228089682 tw5129761186596936692 tw14822388286708912715 tw2971471976113465266 tw5605328208132105658 tw17103741080476062316 tw13846662255118968409 tw15922871392601244782 tw3632802917365138829 tw6167374814549094185 tw4671698498169507010 tw11149461739419218005 tw9713053632143065934 tw10041440772745264241 tw1273331684005392330 tw12934674548017355959 tw15935886475731332378 tw6623609269869863031 tw5358382081517812499 tw3728944003230260299 tw364840084932779395 tw11020800499215541828 tw14947075516018949434 tw16378311431907862502 tw2209664306385621408 tw16037748519714864736 tw8182361630740077754 tw4329008036024254868 tw6854232444729923331 tw3494689556398937850 tw11438440329776436371 tw838764637755194940 tw6943327497966438459 tw16447095724291012561 tw9108145671218111157 tw13387157973120896807 tw9636522411230902856 tw1630578856995925215 tw5401543880890078341 tw11828679165878480101 tw9518408426090004469 tw18062146351493941908 tw14491512499657200764 tw253826428846097776 tw1596712078436256799 tw7470003694684228249 tw6579322798155108572 tw15221156338437201376 tw16380407981615429155 tw3228995789180994029 tw12451233390988938373 tw6663750272660560992 tw9122269462888900512 tw14269302221992266394 tw9711389041969692681 tw11933409478894839815 tw11670499688405227580 tw124264167748818148 tw11375207323868507726 tw14089220377554119132 tw4484302877681361732 tw12409502441188285350 tw12332938370472153476 tw14310374676544548105 tw9126684467941951795 tw10478735029973597962 tw7261499351274304763 tw16905912660798181622 tw4808820923662825989 tw18310866699203031860 tw9835554437478875704 tw17759863403478496340 tw6430506482331796113 tw9905764719286322129 tw13043972483129651977 tw4372759537107966547 tw10095629641988090844 tw2382214306707338251 tw11323686113427659692 tw2396931761592072979 tw16425898174501124588 tw3400146300770933463 tw245270498833686576 tw16260108625530943797 tw16927080835831471452 tw12699537182979611792 tw1953157600436726740 tw1302445730961217855 tw1550968170640954841 tw15115904874990828674 tw9995301978093782103 tw4691093571896754433 tw15755313193336280346 tw3180276929561107344 tw3707678763393919553 tw1408857967631098991 tw15539255509140841851 tw6561067943469426657 tw2399868260916152181 tw14295540182596127552 tw7283650907132855443 tw11946817744423627351 tw634309954800951128 tw5944321912363211537 tw9562324350390908864 tw15346179303668470679 tw10122644590079592628 tw8978701254524485449 tw11627368717116134379 tw1097710991666175076 tw18380954176880261271 tw7669330258788591583 tw11165015716899754415 tw9406430195994217549 tw52520246010626685 tw13676994233183266005 tw9882074566538824855 tw10963954469466393937 tw14979518456804064378 tw6348097360811580182 tw4967386778611925731 tw10988038318997885057 tw1303065160504682487 tw16067724615308696306 tw1347273969154211972 tw13110035854367197047 tw4382603989836066642 tw864646211268513844 tw8229982954516763440 tw17075316466167500921 tw17226178810269122952 tw4323581147041977188 tw1006924629670713774 tw15922269284298883923 tw12112214346966961720 tw7842651523179930132 tw8445146553396613164 tw13869404891559497896 tw15750770091581528343 tw10762324362502751535 tw10668590170053569120 tw12365228744088143646 tw13292495239259453815 tw1972853831062578075 tw4802105334103518160 tw8471221229962693987 tw4335922465112691165 tw10930955618871250690 tw7704501589667986734 tw3777952681475999146 tw11450353973640125679 tw18142031673027867176 tw17678183499024156218 tw1603966585875098547 tw8590857357748030540 tw12372567943417443698 tw8315788764183997940 tw14440254056063634824 tw2979018233585906155 tw692974789022239624 tw16184866899338537195 tw14875940423210967757 tw18180884687976729228 tw12655504819392272504 tw6436666134234399251 tw408104281251549740 tw15345288173239421787 tw8955686882194200485 tw18418900757701308258 tw18440288109365815529 tw11386859297229805072 tw14383688492259156897 tw9128075925745405252 tw13090289343802410603 tw10792323861107718381 tw10255878274603047574 tw6711713303533260733 tw6666155325080905919 tw3806038873970218454 tw8179635255755575393 tw3739378324060998714 tw18226895889795776767 tw15567259715847031468 tw7912823128934232039 tw10200476624436224049 tw17702219037513556199 tw373832286471482871 tw5812848664889681398 tw2327946297276039613 tw16366155968705821387 tw17847035722362795440 tw8099922258159945022 tw5464618933626733964 tw2981423967066731706 tw4825791450416645987 tw5859139117370101976 tw18320050232235948579 tw8754704808323265826 tw15377590805344705484 tw6861145305976134652 tw13055650371800278237 tw10282306947105880896 tw8504945883624809346 tw7776311358150372751 tw12679617854906190270 tw2375394640834158925 tw9215633982181894187 tw5077761268327153185 tw3744370993751767024 tw16203840717502820081 tw9862131915702739344 tw3993329772009923828 tw17856424392282002300 tw1793515049885240678 tw7857933650618762527 tw7069975026519947473 tw15479974214835905501 tw15276498406652195854 tw17764586803038893997 tw6557553211769171188 tw11208019690373614741 tw2391563899246917131 tw10199594516606981280 tw10452801057127665432 tw15073033164616748265 tw16737689768254892500 tw1389736424740765735 tw17612221372358943353 tw3060653354383898560 tw7581210131883276224 tw17053595493172652788 tw4781729866563980859 tw8474416763524784074 tw4566022122221982547 tw14835832082362847068 tw6827282621982994645 tw264730219617741879 tw10159048163364027680 tw6393549070853149637 tw18441543091694990558 tw229739563006521759 tw2678303231202674275 tw410924232749076570 tw17106996487878246407 tw8683308663130782901 tw17175499536745687422 tw814204629320106609 tw1862332784828619932 tw16832155065247152276 tw8242071470188409222 tw13487156773926573749 tw15793370379859779064 tw291275846756662524 tw16368339534844056381 tw3428384409265986789 tw12486660792593353644 tw15370010328760600282 tw14148076821360406179 tw3453725189683751090 tw345129439538582710 tw8952362384687904873:True)
namespace K6
open PySem L2
theorem xJ{α:Type}{P:List α->Prop}{n:Nat}(h:∀a us,us.length=n->P (a::us)):∀us,us.length=n+1->P us
 | [],e=>nomatch e
 | a::us,e=>h a us<|Nat.succ.inj e
theorem kW{α:Type}{P:List α->Prop}(h:∀a,P [a]):∀us,us.length=1->P us:=xJ λa us e=>List.eq_nil_of_length_eq_zero e▸h a
theorem dH{α:Type}{P:List α->Prop}(h:∀a b,P [a,b]):∀us,us.length=2->P us:=xJ λa=>kW (P:=λu=>P (a::u))<|h a
theorem iF{α:Type}{P:List α->Prop}(h:∀a b c,P [a,b,c]):∀us,us.length=3->P us:=xJ λa=>dH (P:=λu=>P (a::u))<|h a
theorem uK{α:Type}{P:List α->Prop}(h:∀a b c d,P [a,b,c,d]):∀us,us.length=4->P us:=xJ λa=>iF (P:=λu=>P (a::u))<|h a
theorem bl5{α:Type}{P:List α->Prop}(h:∀a b c d e,P [a,b,c,d,e]):∀us,us.length=5->P us:=xJ λa=>uK (P:=λu=>P (a::u))<|h a
theorem bl6{α:Type}{P:List α->Prop}(h:∀a b c d e f,P [a,b,c,d,e,f]):∀us,us.length=6->P us:=xJ λa=>bl5 (P:=λu=>P (a::u))<|h a
inductive qD(K:Lj)(f:Lh)(nm qn:Lq)(st:Ln):Prop
 | mk {oc kV dc pm cd ct:Li} {od an:Option Lh} {sl:Array (Option Li)} (l:K.lookup f=some ⟨oc,od,.func<|W.fnOf nm qn (oE st) (mK st) (gP st) .none kV dc pm an cd ct,sl⟩) (c:W.codeIn K cd qn=true) (k:W.keepIn K (.ref f)=true):qD K f nm qn st
def qD.ob(e:qD K f nm qn st)(h:∀kV doc pm an cdv ct us,us.length=ps.length->bindArgs (W.fnOf nm qn (oE st) (mK st) (gP st) .none kV doc pm an cdv ct) ⟨us,[]⟩=pure (ps.zip us)):∃fd,bI K nm qn st .none f fd/\cY K fd ps []/\W.keepIn K (.ref f)=true:=by let⟨l,c,k⟩:=e;exact⟨_,yN l c,(yN l c).binds h,k⟩
inductive bU(K:Lj)(nm:Lq)(st:Ln):Prop
 | mk {f:Lh} (a:W.nsIn K mainGlobals nm=some (some<|.ref f)) (e:qD K f nm nm st):bU K nm st
inductive bX(K:Lj)(C:Lh)(nm qn:Lq)(st:Ln):Prop
 | mk {f:Lh} (a:W.findIn K (.ref C) nm=some (some<|.ref f)) (i:W.isFn K (.ref f)=true) (e:qD K f nm qn st):bX K C nm qn st
inductive kX(K:Lj)(C:Lh)(nm qn:Lq)(st:Ln):Prop
 | mk {f:Lh} (a:W.findIn K (.ref C) nm=some (some<|.ref f)) (i:W.isFn K (.ref f)=true) (e:qD K f nm qn st) (g:W.specialIn K (.ref f) "__get__"=some (some<|.builtin "function.__get__")) (t:W.takesIn K (.ref f)=some false):kX K C nm qn st
section
variable{K:Lj}{C:Lh}{nm qn:Lq}{st:Ln}{ps:Lf}{mg:Sa}{P:Lm}{w:Ll}{base:Lp}{k:Nat}{sp:Sp}
abbrev DG(nm qn:Lq)(st:Ln)(ps:Lf):Prop:=∀{kV doc pm} {an} {cdv ct} us,us.length=ps.length->bindArgs (W.fnOf nm qn (oE st) (mK st) (gP st) .none kV doc pm an cdv ct) ⟨us,[]⟩=pure (ps.zip us)
def bU.go(X:K.In h)(G:h.Ns mainGlobals mg)(e:bU K nm st)(z:∀{f fd},bI K nm nm st .none f fd->cJ P w K mg base dG k f fd ps sp)(c:DG nm nm st ps):AU P w K mg base dG k nm ps [] sp:=by let⟨a,e⟩:=e;let⟨_,F,b,k⟩:=qD.ob e λ_ _ _ _ _ _=>c;exact⟨_,_,z F,b,k,W.mg_of X G a⟩
def bX.go(e:bX K C nm qn st)(c:iG K C)(z:∀{f fd},bI K nm qn st .none f fd->cJ P w K mg base dG k f fd ps sp)(d:DG nm qn st ps):cQ P w K mg base dG k C nm ps [] sp:=by let⟨a,i,e⟩:=e;let⟨_,F,b,k⟩:=qD.ob e λ_ _ _ _ _ _=>d;exact⟨⟨_,_,z F,b,⟨a,i,k⟩⟩,c⟩
def bX.ma(e:bX K C "__init__" qn st)(m:mg x=some (.ref C))(d:W.makesIn K C=true)(c:W.keepIn K (.ref C)=true)(z:∀{f fd},bI K "__init__" qn st .none f fd->cJ P w K mg base dG k f fd ps sp)(h:DG "__init__" qn st ps):C7 P w K mg base dG k x C ps [] sp:=by let⟨a,i,e⟩:=e;let⟨_,F,b,_⟩:=qD.ob e λ_ _ _ _ _ _=>h;exact⟨⟨_,_,z F,b,⟨d,a,i,c⟩⟩,m⟩
def kX.go(e:kX K C nm qn st)(c:iG K C)(z:∀{f fd},bI K nm qn st .none f fd->cJ P w K mg base dG k f fd ps sp)(b:DG nm qn st ps):cQ P w K mg base dG k C nm ps [] sp:=let ⟨a,i,e,_,_⟩:=e;bX.go ⟨a,i,e⟩ c z b
def kX.bm(e:kX K C nm qn st)(h:W.copiedNames.contains nm=false):BM K C nm:=let ⟨a,_,_,g,t⟩:=e;⟨⟨_,a,⟨g,t,h⟩⟩⟩
end
inductive bO(K:Lj)(C:Lh)(x:Lq):Prop
 | mk (a:W.nsIn K mainGlobals x=some (some<|.ref C)) (b:W.plainGet K C Str.empty=true) (c:W.hasDictIn K C=true) (d:W.plainOver K C=true) (e:W.findIn K (.ref C) "__setattr__"=some (some<|.builtin "object.__setattr__")) (f:W.makesIn K C=true) (g:W.keepIn K (.ref C)=true):bO K C x
def bO.cl(e:bO K C x):iG K C:=let ⟨_,b,c,d,e,_,_⟩:=e;⟨b,c,d,e⟩
def bO.mg{mg:Sa}(e:bO K C x)(X:K.In h)(G:h.Ns mainGlobals mg):mg x=some (.ref C):=let ⟨a,_,_,_,_,_,_⟩:=e;W.mg_of X G a
def bO.f(e:bO K C x):W.makesIn K C=true:=let ⟨_,_,_,_,_,f,_⟩:=e;f
def bO.g(e:bO K C x):W.keepIn K (.ref C)=true:=let ⟨_,_,_,_,_,_,g⟩:=e;g
abbrev wF(K:Lj)(C:Lh):=W.findIn K (.ref C) "__init__"=some (some<|.builtin "object.__init__")
abbrev qL(K:Lj)(C:Lh)(x:Lq):=W.findIn K (.ref C) x=some none
def all_mk{l:W.OpenLaw}{w:Ll}{K:Lj}{h:Lp}{mg:Sa}{fa:Lh}(X:K.In h)(G:h.Ns mainGlobals mg)(hfa:mg "law"=some (.ref fa)){aA aB aC aD aE aF aG aH aI:Lh} {f_2:Lh} {Cq_2:Lh} {f_6:Lh} {od_6 an_6:Option Lh} {sl_6:Array (Option Li)} {oc_6 kV_6 dc_6 pm_6 cd_6 ct_6:Li} {T_6:Lh} {tu_6:Li} {td_6:Option Lh} {tn_6:Nat} {ts_6:Array (Option Li)} {tk_6:Tok} {f_79:Lh} {od_79 an_79:Option Lh} {sl_79:Array (Option Li)} {oc_79 kV_79 dc_79 pm_79 cd_79 ct_79:Li} {f_82:Lh} {od_82 an_82:Option Lh} {sl_82:Array (Option Li)} {oc_82 kV_82 dc_82 pm_82 cd_82 ct_82:Li} {tg_GREATEST_PRIME:Tok} {tg_LETTERS:Tok}(di:bO K aA "Ring")(aw:qL K aA "many")(ar:qL K aA "field")(au:qL K aA "order")(bi:bO K aB "Fractions")(aa:qL K aB "prime")(cu:bO K aC "Rests")(am:qL K aC "prime")(cw:bO K aD "Order")(cn:wF K aD)(ci:bO K aE "Degrees")(bp:wF K aE)(cx:bO K aF "Tails")(cq:wF K aF)(cj:bO K aG "Weights")(ad:qL K aG "weights")(ck:bO K aH "Waiting")(af:qL K aH "order")(ag:qL K aH "known")(ah:qL K aH "queue")(cy:bO K aI "Leads")(ao:qL K aI "pairs")(ph:bU K "shared_divisor" QZ)(pj:bU K "is_prime" NY)(fy:W.nsIn K mainGlobals "Field"=some (some<|.ref Cq_2))(gc:W.readsIn K Cq_2 (.type "type")=true)(gf:W.findCls K (.ref Cq_2) (.type "type") "__init__"=some (.val<|.ref f_2))(gg:W.specialIn K (.ref Cq_2) "__getattribute__"=some (some<|.builtin "type.__getattribute__"))(qc:qD K f_2 "__init__" "Field.__init__" QX)(qe:bX K aB "__init__" "Fractions.__init__" Q2)(qg:bX K aB "nought" "Fractions.nought" QQ)(qh:bX K aB "one" "Fractions.one" PN)(av:W.findIn K (.ref aB) "made"=some (some<|.ref f_6))(qi:W.isFn K (.ref f_6)=true)(qj:K.lookup f_6=some ⟨oc_6,od_6,.func<|W.fnOf "made" "Fractions.made" (oE zL) (mK zL) (gP zL) (.ref T_6) kV_6 dc_6 pm_6 an_6 cd_6 ct_6,sl_6⟩)(qk:K.lookup T_6=some ⟨tu_6,td_6,.seq #[.int 1 tk_6] tn_6,ts_6⟩)(qm:W.codeIn K cd_6 "Fractions.made" = true)(qo:W.keepIn K (.ref f_6)=true)(qp:bX K aB "plus" "Fractions.plus" Q0)(qr:bX K aB "times" "Fractions.times" QK)(qu:bX K aB "against" "Fractions.against" Q8)(gi:bX K aB "turned" "Fractions.turned" QT)(aq:bX K aB "over" "Field.over" CQ)(bq:bX K aC "over" "Field.over" CQ)(gk:bX K aC "__init__" "Rests.__init__" Q1)(gn:bX K aC "nought" "Rests.nought" QF)(gq:bX K aC "one" "Rests.one" N7)(gr:bX K aC "plus" "Rests.plus" OT)(gt:bX K aC "times" "Rests.times" O3)(gu:bX K aC "against" "Rests.against" PV)(gv:bX K aC "turned" "Rests.turned" O6)(gw:bU K "degree" LY)(gx:kX K aD "rank" "Order.rank" OO)(gz:kX K aE "rank" "Degrees.rank" QC)(ie:kX K aF "rank" "Tails.rank" OZ)(ig:bX K aG "__init__" "Weights.__init__" QS)(ii:kX K aG "rank" "Weights.rank" O8)(ax:bX K aE "fits" "Order.fits" CP)(br:bX K aD "fits" "Order.fits" CP)(bu:bX K aF "fits" "Order.fits" CP)(ij:bX K aG "fits" "Weights.fits" PX)(ay:bX K aE "first_of" "Order.first_of" zK)(bv:bX K aD "first_of" "Order.first_of" zK)(bw:bX K aF "first_of" "Order.first_of" zK)(az:bX K aG "first_of" "Order.first_of" zK)(ba:bX K aE "falling" "Order.falling" zI)(ca:bX K aD "falling" "Order.falling" zI)(cf:bX K aF "falling" "Order.falling" zI)(bf:bX K aG "falling" "Order.falling" zI)(il:bX K aA "__init__" "Ring.__init__" PQ)(io:bU K "product" NL)(ip:bU K "goes_into" OC)(iq:bU K "left_over" OA)(ir:bU K "absorb" LS)(iw:bU K "scaled" MR)(iz:bU K "first_term" OV)(ja:bX K aH "place_of" "Waiting.place_of" QR)(jc:bX K aH "put" "Waiting.put" PD)(jd:bX K aH "__init__" "Waiting.__init__" QP)(je:bX K aH "is_empty" "Waiting.is_empty" QO)(jf:bX K aH "taken" "Waiting.taken" PL)(jg:bX K aI "__init__" "Leads.__init__" QY)(jh:bX K aI "fitting" "Leads.fitting" PU)(ji:bU K "divided" NH)(jk:bU K "brought_down" O7)(jn:bU K "alone" KW)(jo:bX K aA "unit" "Ring.unit" OD)(jp:bU K "is_power_alone" QW)(jt:bU K "is_outside" OM)(ju:bU K "outside" NC)(jv:bU K "check_not_endless" QU)(jw:bU K "steps_from" OX)(jx:bU K "corner" ME)(jy:bX K aA "unknown" "Ring.unknown" QA)(jz:bU K "table" J1)(kc:bU K "_law_cell_at" PY)(ke:bU K "_law_is_prime" PM)(kh:bU K "_law_way" N5)(ki:bU K "_law_order" OI)(kj:bU K "_law_prime" OW)(kl:bU K "_law_field" OR)(ko:bU K "_law_rank" OE)(kq:bU K "_law_reduced" PZ)(kr:bU K "_law_number" PB)(kt:bU K "_law_add" N6)(ku:bU K "_law_mul" N4)(lr:bU K "_law_put" NQ)(me:bU K "_law_times" OS)(mf:bU K "_law_small" OL)(mh:bU K "_law_not_nought" QL)(mj:bU K "_law_unit" N9)(ml:bU K "_law_whole" ON)(mo:bU K "_law_is_number" QV)(mq:bU K "_law_is_table" PP)(mv:bU K "_law_through" QG)(mw:bU K "_law_by_term" QE)(mz:bU K "_law_change_places" Q3)(ng:bU K "_law_comes_to_nought" Q5)(nh:bU K "_law_tops" OF)(ni:W.nsIn K mainGlobals "_law_inside"=some (some<|.ref f_79))(nj:K.lookup f_79=some ⟨oc_79,od_79,.func<|W.fnOf "_law_inside" "_law_inside" (oE vI) (mK vI) (gP vI) .none kV_79 dc_79 pm_79 an_79 cd_79 ct_79,sl_79⟩)(oh:W.codeIn K cd_79 "_law_inside" = true)(oj:W.keepIn K (.ref f_79)=true)(ot:bU K "_law_planted" O5)(ou:bU K "_law_dressed" O9)(ow:W.nsIn K mainGlobals "law"=some (some<|.ref f_82))(ox:K.lookup f_82=some ⟨oc_82,od_82,.func<|W.fnOf "law" "law" (oE sJ) (mK sJ) (gP sJ) .none kV_82 dc_82 pm_82 an_82 cd_82 ct_82,sl_82⟩)(pc:W.codeIn K cd_82 "law" = true)(dy:W.kitOne K (.type "int") (.type "int")=some true)(dz:W.kitOne K (.type "int") (.type "bool")=some false)(fe:W.kitOne K (.type "tuple") (.type "tuple")=some true)(ff:W.kitOne K (.type "list") (.type "list")=some true)(fg:W.nsIn K mainGlobals "abs"=some none)(fh:W.nsIn K mainGlobals "all"=some none)(fi:W.nsIn K mainGlobals "any"=some none)(dk:W.nsIn K mainGlobals "bool"=some none)(dm:W.nsIn K mainGlobals "dict"=some none)(bo:W.nsIn K mainGlobals "enumerate"=some none)(fj:W.nsIn K mainGlobals "int"=some none)(bh:W.nsIn K mainGlobals "isinstance"=some none)(fk:W.nsIn K mainGlobals "len"=some none)(dq:W.nsIn K mainGlobals "list"=some none)(fm:W.nsIn K mainGlobals "max"=some none)(fq:W.nsIn K mainGlobals "min"=some none)(cz:W.nsIn K mainGlobals "range"=some none)(cg:W.nsIn K mainGlobals "reversed"=some none)(cr:W.nsIn K mainGlobals "sorted"=some none)(fu:W.nsIn K mainGlobals "sum"=some none)(dg:W.nsIn K mainGlobals "tuple"=some none)(fw:W.nsIn K mainGlobals "zip"=some none)(aj:W.nsIn K mainGlobals "GREATEST_PRIME"=some (some<|.int 9973 tg_GREATEST_PRIME))(cm:W.nsIn K mainGlobals "LETTERS"=some (some<|.str "xyzt" tg_LETTERS)){cc Pt:Lh} (pd:cd_79=.ref cc) (qv:W.codeHdIn K cc Pt=true) (qx:K.lookup Pt=none)
  :∃(cc:Lh) (fd:FuncData),W.codeHdIn K cc Pt=true/\K.lookup Pt=none/\(∀(s:Lk) (v:Li),BindsTo s fd ⟨[v],[]⟩ [("_law_script",v)])/\∀base:Lp,K.In base->base.Ns mainGlobals mg->base.BuiltinsAt mg Pt->cJ l.prog w K mg base dG 18 fa fd P9 (nA K Pt):=by
 cases hfa.symm.trans (W.mg_of X G ow);let⟨_,F_2,b_2,k_2⟩:=qD.ob (ps:=P5) qc λ_ _ _ _ _ _=>dH λ_ _=>rfl;let F_6:=yN (st:=zL) qj qm;let b_6:=F_6.bindsD (ps:=P3) (ds:=[]) qk rfl λ_ _ _ _ _ _ us hl=>by
  let hl:us.length=3:=by simpa using hl
  exact match us,hl with | [_,_,_],_=>⟨_,Z,Z⟩
 let F_79:=yN (st:=vI) nj oh;let b_79:=F_79.binds (ps:=Pd) λ_ _ _ _ _ _=>dH λ_ _=>rfl;let F_82:=yN (st:=sJ) ox pc;let b_82:=F_82.binds (ps:=P9) λ_ _ _ _ _ _=>kW λ_=>rfl;refine⟨cc,W.fnOf "law" "law" (oE sJ) (mK sJ) (gP sJ) .none kV_82 dc_82 pm_82 an_82 cd_82 ct_82,qv,qx,λs v=>.of_eq rfl,λbase kb nb hBd=>?_⟩;let T:uL l.prog w K mg base aA aB aC aD aE aF aG aH aI:=⟨W.mg_none_of X G fg,W.mg_none_of X G fh,W.mg_none_of X G fi,W.mg_none_of X G dk,W.mg_none_of X G dm,W.mg_none_of X G bo,W.mg_none_of X G fj,W.mg_none_of X G bh,W.mg_none_of X G fk,W.mg_none_of X G dq,W.mg_none_of X G fm,W.mg_none_of X G fq,W.mg_none_of X G cz,W.mg_none_of X G cg,W.mg_none_of X G cr,W.mg_none_of X G fu,W.mg_none_of X G dg,W.mg_none_of X G fw,bO.cl di,bO.mg di X G,aw,ar,au,bO.cl bi,bO.mg bi X G,aa,bO.cl cu,bO.mg cu X G,am,bO.cl cw,bO.mg cw X G,⟨bO.f cw,cn,bO.g cw⟩,bO.cl ci,bO.mg ci X G,⟨bO.f ci,bp,bO.g ci⟩,bO.cl cx,bO.mg cx X G,⟨bO.f cx,cq,bO.g cx⟩,bO.cl cj,bO.mg cj X G,ad,bO.cl ck,bO.mg ck X G,af,ag,ah,bO.cl cy,bO.mg cy X G,ao,⟨_,W.mg_of X G aj⟩,⟨_,W.mg_of X G cm⟩,dy,dz,fe,ff⟩;let hcc:yV K f_79=some cc:=by unfold yV;rw[nj,pd]
 let c_Shared:=bU.go X G ph (λF=>YO T F )<|dH λ_ _=>Z;let c_Prime:=bU.go X G pj (λF=>XD T F )<|kW λ_=>Z;let G_FieldInit:=zj8 T F_2;let q_FieldInit:sH _ _ _ _ _ _ _ _ _ _ _ _:=⟨_,_,_,G_FieldInit,b_2,⟨⟨_,gc,gf⟩,gg,k_2⟩,W.mg_of X G fy⟩;let k_FracInit:=bX.ma qe (bO.mg bi X G) (bO.f bi) (bO.g bi) (λF=>Z8 T F q_FieldInit)<|kW λ_=>Z;let G_Made:=TQ T F_6 c_Shared;let m_Made:cQ _ _ _ _ _ _ _ _ _ _ _ _:=⟨⟨_,_,G_Made,b_6,⟨av,qi,qo⟩⟩,bO.cl bi⟩;let m_TimesF:=bX.go qr (bO.cl bi) (λF=>M7 T F c_Shared)<|iF λ_ _ _=>Z;let m_TuF:=bX.go gi (bO.cl bi) (λF=>z0m T F m_Made)<|dH λ_ _=>Z;let k_RestsInit:=bX.ma gk (bO.mg cu X G) (bO.f cu) (bO.g cu) (λF=>zkg T F c_Prime q_FieldInit)<|dH λ_ _=>Z;let m_TimesR:=bX.go gt (bO.cl cu) (λF=>MZ T F )<|iF λ_ _ _=>Z;let m_TuR:=bX.go gv (bO.cl cu) (λF=>z08 T F )<|dH λ_ _=>Z;let hfld:∀n:Int,n<=9973->(n=0\/K3.Pr n)->∃C,rX l.prog w K mg base C (nN aB aC n) n:=by
  rintro n n1 (rfl | n2)
  ·exact⟨aB,z1n (bX.go qg (bO.cl bi) (λF=>((YD T F ).imp KC).mono ∅)<|kW λ_=>Z) (bX.go qh (bO.cl bi) (λF=>((z2j T F ).imp KC).mono ∅)<|kW λ_=>Z) (bX.go qp (bO.cl bi) (λF=>((VP T F c_Shared).imp S4).mono ∅)<|iF λ_ _ _=>Z) (bX.go qr (bO.cl bi) (λF=>((M7 T F c_Shared).imp T9).mono ∅)<|iF λ_ _ _=>Z) (bX.go qu (bO.cl bi) (λF=>((z10 T F ).imp T8).mono ∅)<|dH λ_ _=>Z)<|bX.go aq (bO.cl bi) (λF=>((R6 T F m_TuF m_TimesF).imp TX).mono ∅)<|iF λ_ _ _=>Z⟩
  ·exact⟨aC,z1h n2 (bX.go gn (bO.cl cu) (λF=>((ZK T F ).imp (LG n2 ∅ ∅)).mono ∅)<|kW λ_=>Z) (bX.go gq (bO.cl cu) (λF=>((S9 T F ).imp (LG n2 ∅ ∅)).mono ∅)<|kW λ_=>Z) (bX.go gr (bO.cl cu) (λF=>((VT T F ).imp (SI n2)).mono ∅)<|iF λ_ _ _=>Z) (bX.go gt (bO.cl cu) (λF=>((MZ T F ).imp (T4 n2)).mono ∅)<|iF λ_ _ _=>Z) (bX.go gu (bO.cl cu) (λF=>((SW T F ).imp (UH n2)).mono ∅)<|dH λ_ _=>Z)<|bX.go bq (bO.cl cu) (λF=>((z2m T F m_TuR m_TimesR).imp (S2 n2)).mono ∅)<|iF λ_ _ _=>Z⟩
 let c_Deg:=bU.go X G gw (λF=>SV T F )<|kW λ_=>Z;let m_Rank_Order:=kX.go (k:=3) gx (bO.cl cw) (λF=>(XE T F ).mono ∅)<|dH λ_ _=>Z;let bm_Order:=kX.bm gx ∅;let m_Rank_Degrees:=kX.go (k:=3) gz (bO.cl ci) (λF=>(XH T F c_Deg).mono ∅)<|dH λ_ _=>Z;let bm_Degrees:=kX.bm gz ∅;let m_Rank_Tails:=kX.go (k:=3) ie (bO.cl cx) (λF=>(VY T F c_Deg).mono ∅)<|dH λ_ _=>Z;let bm_Tails:=kX.bm ie ∅;let k_WInit:=bX.ma ig (bO.mg cj X G) (bO.f cj) (bO.g cj) (λF=>WD T F )<|dH λ_ _=>Z;let m_Rank_Weights:=λws (h1:Nn ws) (h2:∀x∈ws,x<10^31)=>kX.go (k:=3) ii (bO.cl cj) (λF=>(WH T F h1 h2).mono ∅)<|dH λ_ _=>Z;let bm_Weights:=kX.bm ii ∅;let hord:∀(kd:Int) (ws:Lc),0<=kd->kd<4->Nn ws->(∀x∈ws,x<10^31)->∃C,mF l.prog w K mg base C (jW aD aE aF aG kd ws) (cK kd ws) (nR kd ws):=by
  intro kd ws k0 k4 wn wb;rcases(by lia:kd=0\/kd=1\/kd=2\/kd=3) with rfl | rfl | rfl | rfl
  ·rw[show cK 0 ws=uE from funext λxs=>by unfold cK;simp,show nR 0 ws=λ_=>true from funext λm=>by unfold nR;simp];show ∃C,mF l.prog w K mg base C (nW aD) uE _;exact⟨aD,qP _,bX.go br (bO.cl cw) (λF=>FM T (At:=nW aD) F)<|dH λ_ _=>Z,m_Rank_Order,bX.go bv (bO.cl cw) (λF=>B4 T F (qP _) m_Rank_Order bm_Order)<|dH λ_ _=>Z,bX.go ca (bO.cl cw) (λF=>B1 T F (qP _) m_Rank_Order bm_Order<|λxs h=>h.ne)<|dH λ_ _=>Z⟩
  ·rw[show cK 1 ws=uF from funext λxs=>by unfold cK;simp,show nR 1 ws=λ_=>true from funext λm=>by unfold nR;simp];show ∃C,mF l.prog w K mg base C (nW aE) uF _;exact⟨aE,qP _,bX.go ax (bO.cl ci) (λF=>FM T (At:=nW aE) F)<|dH λ_ _=>Z,m_Rank_Degrees,bX.go ay (bO.cl ci) (λF=>B4 T F (qP _) m_Rank_Degrees bm_Degrees)<|dH λ_ _=>Z,bX.go ba (bO.cl ci) (λF=>B1 T F (qP _) m_Rank_Degrees bm_Degrees<|λ_ _=>List.cons_ne_nil _ _)<|dH λ_ _=>Z⟩
  ·rw[show cK 2 ws=rC from funext λxs=>by unfold cK;simp,show nR 2 ws=λ_=>true from funext λm=>by unfold nR;simp];show ∃C,mF l.prog w K mg base C (nW aF) rC _;exact⟨aF,qP _,bX.go bu (bO.cl cx) (λF=>FM T (At:=nW aF) F)<|dH λ_ _=>Z,m_Rank_Tails,bX.go bw (bO.cl cx) (λF=>B4 T F (qP _) m_Rank_Tails bm_Tails)<|dH λ_ _=>Z,bX.go cf (bO.cl cx) (λF=>B1 T F (qP _) m_Rank_Tails bm_Tails<|λ_ _=>List.cons_ne_nil _ _)<|dH λ_ _=>Z⟩
  ·rw[show cK 3 ws=uD ws from funext λxs=>by unfold cK;simp,show nR 3 ws=λm=>decide ((ws.length:Int)=m) from funext λm=>by unfold nR;simp];show ∃C,mF l.prog w K mg base C (AX aG ws) (uD ws) _;let mr:=m_Rank_Weights ws wn wb;exact⟨aG,DL _ _,bX.go ij (bO.cl cj) (λF=>W4 T (ws:=ws) F)<|dH λ_ _=>Z,mr,bX.go az (bO.cl cj) (λF=>B4 T F (DL _ _) mr bm_Weights)<|dH λ_ _=>Z,bX.go bf (bO.cl cj) (λF=>B1 T F (DL _ _) mr bm_Weights<|λ_ _=>List.cons_ne_nil _ _)<|dH λ_ _=>Z⟩
 let k_RgInit:=bX.ma il (bO.mg di X G) (bO.f di) (bO.g di) (λF=>YC T F hord)<|uK λ_ _ _ _=>Z;let c_Prod:=bU.go X G io (λF=>SA T F )<|dH λ_ _=>Z;let c_Goes:=bU.go X G ip (λF=>UJ T F )<|dH λ_ _=>Z;let c_LeftO:=bU.go X G iq (λF=>WR T F c_Goes)<|dH λ_ _=>Z;let c_Absorb:=bU.go X G ir (λF=>XO T F hfld)<|iF λ_ _ _=>Z;let c_Scal:=bU.go X G iw (λF=>SC T F c_Prod hfld)<|uK λ_ _ _ _=>Z;let c_FT:=bU.go X G iz (λF=>z2w T F hord)<|dH λ_ _=>Z;let m_Place:=bX.go ja (bO.cl ck) (λF=>XN T F )<|dH λ_ _=>Z;let m_Put:=bX.go jc (bO.cl ck) (λF=>z2t T F m_Place hord)<|dH λ_ _=>Z;let k_WaInit:=bX.ma jd (bO.mg ck X G) (bO.f ck) (bO.g ck) (λF=>X7 T F m_Put)<|iF λ_ _ _=>Z;let m_Emp:=bX.go je (bO.cl ck) (λF=>SX T F )<|kW λ_=>Z;let m_Taken:=bX.go jf (bO.cl ck) (λF=>V0 T F )<|kW λ_=>Z;let k_LeInit:=bX.ma jg (bO.mg cy X G) (bO.f cy) (bO.g cy) (λF=>YK T F c_FT)<|iF λ_ _ _=>Z;let m_Fit:=bX.go jh (bO.cl cy) (λF=>z0p T F c_Goes)<|dH λ_ _=>Z;let c_Div:=bU.go X G ji (λF=>z0h T F k_LeInit k_WaInit m_Emp m_Taken m_Fit c_LeftO c_Scal m_Put c_Absorb hfld hord)<|iF λ_ _ _=>Z;let c_BD:=bU.go X G jk (λF=>z21 T F c_Div)<|iF λ_ _ _=>Z;let c_Alone:=bU.go X G jn (λF=>VR T F )<|iF λ_ _ _=>Z;let m_Unit:=bX.go jo (bO.cl di) (λF=>UY T F )<|kW λ_=>Z;let c_PA:=bU.go X G jp (λF=>z3i T F c_Deg)<|dH λ_ _=>Z;let c_Out1:=bU.go X G jt (λF=>S1 T F c_Goes)<|dH λ_ _=>Z;let c_Outs:=bU.go X G ju (λF=>UG T F c_Out1)<|dH λ_ _=>Z;let c_End:=bU.go X G jv (λF=>z1f T F c_PA)<|dH λ_ _=>Z;let c_Steps:=bU.go X G jw (λF=>WS T F c_Alone c_Prod)<|dH λ_ _=>Z;let c_Cor:=bU.go X G jx (λF=>z0i T F c_FT c_End m_Unit c_Outs c_Steps hord)<|dH λ_ _=>Z;let m_Unk:=bX.go jy (bO.cl di) (λF=>z00 T F c_Alone hfld)<|dH λ_ _=>Z;let cTbl:=bU.go X G jz (λF=>z1c T F c_Cor m_Unk c_Scal c_BD hfld hord)<|iF λ_ _ _=>Z;let c_Cell:=bU.go X G kc (λF=>UM T F )<|dH λ_ _=>Z;let c_LPrime:=bU.go X G ke (λF=>YF T F )<|kW λ_=>Z;let c_Way:=bU.go X G kh (λF=>z0g T F )<|dH λ_ _=>Z;let c_LOrd:=bU.go X G ki (λF=>R8 T F k_WInit)<|kW λ_=>Z;let c_LPr:=bU.go X G kj (λF=>z2q T F c_LPrime)<|kW λ_=>Z;let c_LFld:=bU.go X G kl (λF=>SB T F k_RestsInit k_FracInit)<|kW λ_=>Z;let c_LRank:=bU.go X G ko (λF=>XJ T F )<|dH λ_ _=>Z;let c_Red:=bU.go X G kq (λF=>SS T F )<|dH λ_ _=>Z;let c_Num:=bU.go X G kr (λF=>z02 T F c_Red)<|iF λ_ _ _=>Z;let c_Add:=bU.go X G kt (λF=>z1l T F c_Red)<|iF λ_ _ _=>Z;let c_Mul:=bU.go X G ku (λF=>z1w T F c_Red)<|iF λ_ _ _=>Z;let c_LPut:=bU.go X G lr (λF=>TV T F c_Num c_Add)<|uK λ_ _ _ _=>Z;let c_LTm:=bU.go X G me (λF=>z2h T F c_Mul c_LPut)<|iF λ_ _ _=>Z;let c_Small:=bU.go X G mf (λF=>V4 T F c_Red)<|dH λ_ _=>Z;let c_NN:=bU.go X G mh (λF=>z2x T F )<|dH λ_ _=>Z;let c_UnitL:=bU.go X G mj (λF=>V5 T F c_Num)<|iF λ_ _ _=>Z;let c_Whole:=bU.go X G ml (λF=>WU T F )<|kW λ_=>Z;let c_IsN:=bU.go X G mo (λF=>z12 T F c_Whole)<|dH λ_ _=>Z;let c_IsT:=bU.go X G mq (λF=>z1a T F c_IsN)<|iF λ_ _ _=>Z;let c_Thr:=bU.go X G mv (λF=>z0r T F c_Num c_Mul c_Add)<|iF λ_ _ _=>Z;let c_ByT:=bU.go X G mw (λF=>R3 T F c_UnitL c_Thr)<|uK λ_ _ _ _=>Z;let c_ChP:=bU.go X G mz (λF=>z1u T F c_Thr)<|iF λ_ _ _=>Z;let c_CTN:=bU.go X G ng (λF=>z06 T F c_Num c_ByT c_Mul c_Add)<|uK λ_ _ _ _=>Z;let c_Tops:=bU.go X G nh (λF=>SZ T F )<|dH λ_ _=>Z;let G_Ins:=z2c T F_79 hcc (W.codeHd_of_K kb qv) hBd c_LRank;let cIns:AU _ _ _ _ _ _ _ _ _ _ _:=⟨_,_,G_Ins,b_79,oj,W.mg_of X G ni⟩;let cPlt:=bU.go X G ot (λF=>z0c T F c_Num c_Cell c_Small c_LRank cIns)<|uK λ_ _ _ _=>Z;let c_Drs:=bU.go X G ou (λF=>z04 T F c_NN c_LTm)<|uK λ_ _ _ _=>Z;exact z0a T F_82 c_Cell c_LPr c_Way c_Tops c_NN c_LTm c_Drs c_LFld c_LOrd k_RgInit c_IsT c_ByT c_UnitL c_ChP c_CTN hord cIns cPlt cTbl
def walk{l:W.OpenLaw}{q:Lm}{c:Lf}{m:Sa->Lp->Prop}{i:Ll->Lp->Prop}{d:DefRec}{K:Params->Lj}(v:l.most=some 63)(e:d.params.defaults=[])(o:∀(w:Ll) (h:Lp),i w h->(K w.params).In h) (b:Lh) (r:∀(w:Ll) (h:Lp),i w h->h.get? b=some (W.tabObj #[]))(F:∀(w:Ll) (mg:Sa) (fa:Lh) (h:Lp),(K w.params).In h->h.Ns mainGlobals mg->mg d.name=some (.ref fa) ->
   ∃(cc:Lh) (fd:FuncData),W.codeHdIn (K w.params) cc b=true/\(K w.params).lookup b=none/\(∀(s:Lk) (u:Li),BindsTo s fd ⟨[u],[]⟩ [("_law_script",u)])/\∀base:Lp,(K w.params).In base->base.Ns mainGlobals mg->base.BuiltinsAt mg b->cJ l.prog w (K w.params) mg base dG 18 fa fd ["_law_script"] (nA (K w.params) b)):
  W.WalkO q c m i l.row.toRowW d [] (λf vs=>PySem.call f vs):=
 L2.walk_ofT (n:=63) (k:=18) (x:="_law_script") (CX:=λ_=>dG) (sp:=λw b=>nA (K w.params) b) v ∅ e ⟨Z,∅,∅⟩ o b r F (λ_ _ a p j A y=>⟨a,p,Z,y,j,A.2,λ_=>Z⟩) λ_ _ _ _ _ z=>z
end K6
open PySem PySem.W PyProof.Rows
set_option maxRecDepth 100000 in
theorem PySem.Challenge.cw_idealroom_k39_whole_tables_holds : PySem.Challenge.rw_idealroom_k39_whole_tables.Holds := by
 w_on;o_law;k_head;(case hw=>w_witness2)
 k_fill
 refine K6.walk (l:=PySem.Challenge.rw_idealroom_k39_whole_tables) Z rfl (λw h Y=>W.km_in_of Y) _ (λw h Y=>W.km_tabs_of Y _<|List.Mem.head _) ?F
 case F=>
  intro w mg fa h KX G hmg;refine' K6.all_mk KX G hmg ?di ?aw ?ar ?au ?bi ?aa ?cu ?am ?cw ?cn ?ci ?bp ?cx ?cq ?cj ?ad ?ck ?af ?ag ?ah ?cy ?ao ?ph ?pj ?fy ?gc ?gf ?gg ?qc ?qe ?qg ?qh ?av ?qi ?qj ?qk ?qm ?qo ?qp ?qr ?qu ?gi ?aq ?bq ?gk ?gn ?gq ?gr ?gt ?gu ?gv ?gw ?gx ?gz ?ie ?ig ?ii ?ax ?br ?bu ?ij ?ay ?bv ?bw ?az ?ba ?ca ?cf ?bf ?il ?io ?ip ?iq ?ir ?iw ?iz ?ja ?jc ?jd ?je ?jf ?jg ?jh ?ji ?jk ?jn ?jo ?jp ?jt ?ju ?jv ?jw ?jx ?jy ?jz ?kc ?ke ?kh ?ki ?kj ?kl ?ko ?kq ?kr ?kt ?ku ?lr ?me ?mf ?mh ?mj ?ml ?mo ?mq ?mv ?mw ?mz ?ng ?nh ?ni ?nj ?oh ?oj ?ot ?ou ?ow ?ox ?pc ?dy ?dz ?fe ?ff ?fg ?fh ?fi ?dk ?dm ?bo ?fj ?bh ?fk ?dq ?fm ?fq ?cz ?cg ?cr ?fu ?dg ?fw ?aj ?cm ?pd ?qv ?qx
  all_goals try first | exact .mk (by k_is) (by k_is) (by k_is) (by k_is) (by k_is) (by k_is) (by k_is) | k_is | exact .mk (by k_is) (.mk (by k_is) (by k_is)<|by k_is) | exact .mk (by k_is) (by k_is) (by k_is) | exact .mk (by k_is) (by k_is) (.mk (by k_is) (by k_is)<|by k_is) | exact .mk (by k_is) (by k_is) (.mk (by k_is) (by k_is)<|by k_is) (by k_is) (by k_is) | kit_is | exact rfl | kernel_rfl
#print axioms PySem.Challenge.cw_idealroom_k39_whole_tables_holds
