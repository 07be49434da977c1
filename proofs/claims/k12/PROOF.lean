import PyProof.Rows.All
import Wide.All
import OpenK.AllK
import Wide.FinOn
import Lean
import PyProof.EqAt
import PyProof.EqKinds
import PyProof.TupleCall
import KE.KSortTup
import KE.KLam
import KE.KNestM
import KE.KDictList
import PySem.Challenge.RW_idealroom_k12_shown
import PySem.Challenge.RW_idealroom_k12_shown
set_option Elab.async false
set_option linter.all false
set_option maxRecDepth 100000
namespace L2
open PySem PySem.Spec PyProof.Rows
abbrev Key := Sum Int Str
def keyIs : Key → Value → Bool
  | .inl k, v => Value.isInt k v
  | .inr x, v => Value.isStrOf x v
def keyH (w : World) : Key → Int
  | .inl k => hashInt k
  | .inr x => hashStr w x
theorem keyIs_shape : ∀ {k : Key} {v : Value}, keyIs k v = true → (∃ i t, k = Sum.inl i ∧ v = Value.int i t) ∨ (∃ x t, k = Sum.inr x ∧ v = Value.str x t)
  | .inl i, v, h => by
    obtain ⟨t, e⟩ := Value.isInt_shape (k := i) (v := v) h
    exact .inl ⟨i, t, rfl, e⟩
  | .inr x, v, h => by
    obtain ⟨t, e⟩ := Value.isStrOf_shape (x := x) (v := v) h
    exact .inr ⟨x, t, rfl, e⟩
theorem keyIs_int (i : Int) (t : Tok) : keyIs (.inl i) (.int i t) = true := by simp [keyIs, Value.isInt]
theorem keyIs_str (x : Str) (t : Tok) : keyIs (.inr x) (.str x t) = true := by simp [keyIs, Value.isStrOf]
theorem key_ll (a b : Int) : decide ((Sum.inl a : Key) = Sum.inl b) = (a == b) := by
  by_cases e : a = b
  · subst e; simp
  · have h : ¬ (Sum.inl a : Key) = Sum.inl b := fun q => e (Sum.inl.inj q)
    rw [decide_eq_false h]
    exact (beq_eq_false_iff_ne.mpr e).symm
theorem key_rr (a b : Str) : decide ((Sum.inr a : Key) = Sum.inr b) = decide (a = b) := by
  by_cases e : a = b
  · subst e; simp
  · have h : ¬ (Sum.inr a : Key) = Sum.inr b := fun q => e (Sum.inr.inj q)
    rw [decide_eq_false h, decide_eq_false e]
theorem key_lr (a : Int) (b : Str) : decide ((Sum.inl a : Key) = Sum.inr b) = false := decide_eq_false (fun q => nomatch q)
theorem key_rl (a : Str) (b : Int) : decide ((Sum.inr a : Key) = Sum.inl b) = false := decide_eq_false (fun q => nomatch q)
def mixKind (prog : Program) (w : World) : PySem.KeyKind prog w Key where
  is := keyIs
  hash := keyH w
  inj := fun v a b ha hb => by
    rcases keyIs_shape ha with ⟨i, t, rfl, rfl⟩ | ⟨x, t, rfl, rfl⟩
    · rcases keyIs_shape hb with ⟨j, u, rfl, e⟩ | ⟨y, u, rfl, e⟩
      · injection e with e1 _; rw [e1]
      · exact nomatch e
    · rcases keyIs_shape hb with ⟨j, u, rfl, e⟩ | ⟨y, u, rfl, e⟩
      · exact nomatch e
      · injection e with e1 _; rw [e1]
  byValue := fun k v h => by
    rcases keyIs_shape h with ⟨i, t, rfl, rfl⟩ | ⟨x, t, rfl, rfl⟩ <;> rfl
  pyHash := fun hv h => by
    rcases keyIs_shape hv with ⟨i, t, rfl, rfl⟩ | ⟨x, t, rfl, rfl⟩
    · exact wpAny_pyHash_int h
    · exact wpAny_pyHash_str h
  eqBool := fun hu hv h => by
    rcases keyIs_shape hu with ⟨i, t, rfl, rfl⟩ | ⟨x, t, rfl, rfl⟩
    · rcases keyIs_shape hv with ⟨j, u, rfl, rfl⟩ | ⟨y, u, rfl, rfl⟩
      · rw [key_ll] at h; exact wpAny_eqBool_int h
      · rw [key_lr] at h; exact SeqAt.EqAt.int_str i t y u _ _ _ _ h
    · rcases keyIs_shape hv with ⟨j, u, rfl, rfl⟩ | ⟨y, u, rfl, rfl⟩
      · rw [key_rl] at h; exact SeqAt.EqAt.str_int x t j u _ _ _ _ h
      · rw [key_rr] at h; exact wpAny_eqBool_str h
  «strs» := fun k x t v h => by
    rcases keyIs_shape h with ⟨i, u, rfl, e⟩ | ⟨y, u, rfl, e⟩
    · exact nomatch e
    · injection e with e1 _
      subst e1
      cases v <;> rfl
theorem mixKind_int (prog : Program) (w : World) (i : Int) (t : Tok) : (mixKind prog w).is (.inl i) (.int i t) = true := keyIs_int i t
theorem mixKind_str (prog : Program) (w : World) (x : Str) (t : Tok) : (mixKind prog w).is (.inr x) (.str x t) = true := keyIs_str x t
end L2
namespace L2
open PySem PySem.Spec PyProof.Rows
inductive V where
  | non | bl (b : Bool) | int (i : Int) | str (x : Str) | byt (b : Array UInt8) | flt (b : UInt64) | ref (a : Addr) | ty (n : String)
  deriving DecidableEq
def RelV : V → Value → Prop
  | .non, u => u = Value.none
  | .bl b, u => u = Value.bool b
  | .int i, u => ∃ t, u = Value.int i t
  | .str x, u => ∃ t, u = Value.str x t
  | .byt b, u => ∃ t, u = Value.bytes b t
  | .flt b, u => ∃ t, u = Value.float b t
  | .ref a, u => u = Value.ref a
  | .ty n, u => u = Value.type n
abbrev Vals : List V → List Value → Prop := Paired RelV
theorem Vals.length {xs : List V} {us : List Value} (r : Vals xs us) : xs.length = us.length := Paired.length r
theorem Vals.get : ∀ {xs : List V} {us : List Value} {i : Nat} {x : V}, Vals xs us → xs[i]? = some x → ∃ u, us[i]? = some u ∧ RelV x u
  | _, _, _, _, .nil, e => by simp at e
  | _, _, 0, _, .cons r _, e => by simp at e; subst e; exact ⟨_, rfl, r⟩
  | _, _, i + 1, x, .cons _ t, e => by
    obtain ⟨u, h1, h2⟩ := Vals.get (i := i) (x := x) t (by simpa using e)
    exact ⟨u, by simpa using h1, h2⟩
theorem Vals.set {x : V} {u : Value} (r : RelV x u) : ∀ {xs : List V} {us : List Value} (i : Nat), Vals xs us → Vals (xs.set i x) (us.set i u)
  | _, _, _, .nil => .nil
  | _, _, 0, .cons _ t => .cons r t
  | _, _, i + 1, .cons q t => .cons q (Vals.set r i t)
theorem Vals.append : ∀ {xs ys : List V} {us ws : List Value}, Vals xs us → Vals ys ws → Vals (xs ++ ys) (us ++ ws)
  | _, _, _, _, .nil, s => s
  | _, _, _, _, .cons r t, s => .cons r (Vals.append t s)
theorem Vals.take : ∀ {xs : List V} {us : List Value} (n : Nat), Vals xs us → Vals (xs.take n) (us.take n)
  | _, _, 0, _ => .nil
  | _, _, _ + 1, .nil => .nil
  | _, _, n + 1, .cons r t => .cons r (Vals.take n t)
theorem Vals.drop : ∀ {xs : List V} {us : List Value} (n : Nat), Vals xs us → Vals (xs.drop n) (us.drop n)
  | _, _, 0, r => r
  | _, _, _ + 1, .nil => .nil
  | _, _, n + 1, .cons _ t => Vals.drop n t
def RelO : Option V → Option Value → Prop
  | some v, some u => RelV v u
  | none, none => True
  | _, _ => False
def KV {κ : Type} : List (κ × V) → List (κ × Value) → Prop := Paired fun (p : κ × V) (q : κ × Value) => p.1 = q.1 ∧ RelV p.2 q.2
def kV : Key → V
  | .inl i => .int i
  | .inr x => .str x
inductive HO where
    | lst (xs : List V)
    | tup (xs : List V)
    | dK (kvs : List (Key × V)) | dT (kvs : List (List Key × V))
    | set (S : Int → Bool) (n : Nat)
    | ins (C dx : Addr) (fs : List (Str × V))
    | own (x : Addr)
    | xd (fs : List (Str × V))
    | met (f x : Addr)
    | rng (lo hi : Int)
    | frz (o : Obj) (u : HO)
    | tbl (ps : Array Value)
    | ext (φ : Heap → Prop)
abbrev Hp := Addr → Option HO
def upd (H : Hp) (a : Addr) (o : HO) : Hp := fun b => if b = a then some o else H b
theorem upd_same {H : Hp} {a : Addr} {o : HO} : upd H a o a = some o := by unfold upd; rw [if_pos rfl]
theorem upd_ne {H : Hp} {a b : Addr} {o : HO} (h : b ≠ a) : upd H a o b = H b := by unfold upd; rw [if_neg h]
theorem ne_of {H : Hp} {a b : Addr} {o u : HO} (h : H a = some o) (h' : H b = some u) (d : o ≠ u) : a ≠ b := by
  intro e; subst e; rw [h] at h'; exact d (Option.some.inj h')
theorem ne_of_none {H : Hp} {a b : Addr} {o : HO} (h : H a = some o) (h' : H b = none) : a ≠ b := by
  intro e; subst e; rw [h] at h'; cases h'
section
variable (P : Program) (w : World)
def ObjOk (H : Hp) (h : Heap) (a : Addr) : HO → Prop
  | .lst xs => xs.length ≤ sizeLine ∧ ∃ (its : List Value) (n : Nat), Vals xs its ∧ h.get? a = some { cls := .type "list", data := .seq its.toArray n }
  | .tup xs => xs.length ≤ sizeLine ∧ ∃ its : List Value, Vals xs its ∧ IsTup h a its.toArray
  | .dK kvs => kvs.length ≤ sizeLine ∧ (a == sysModules) = false ∧ ∃ vs, KV kvs vs ∧ h.DictOf (mixKind P w) a vs
  | .dT kvs => kvs.length ≤ sizeLine ∧ (a == sysModules) = false ∧ ∃ xs : List (List Key × Addr × Value),
      Paired (fun (p : List Key × V) (q : List Key × Addr × Value) => p.1 = q.1 ∧ H q.2.1 = some (.tup (p.1.map kV)) ∧ RelV p.2 q.2.2) kvs xs ∧
      ∃ o es ep, h.get? a = some o ∧ o.ExactDict ∧ o.data = .dict es ep ∧ es.toList = xs.map (entryOfKey (tupleKind (mixKind P w))) ∧ (xs.map (·.1)).Nodup
  | .set S n => h.SetOf (intKind P w) a S n
  | .ins C dx fs => H dx = some (.own a) ∧ fs.length ≤ 1000 ∧ dx ≠ a ∧ h.get? a = some (PySem.W.instObj C dx) ∧
      ∃ mA, h.Ns1 dx mA ∧ (∀ f, RelO (fs.lookup f) (mA f)) ∧ PySem.Within mA (fs.map (·.1))
  | .own _ => ∃ o, h.get? a = some o
  | .xd fs => ∃ mA, h.Ns1 a mA ∧ ∀ f, RelO (fs.lookup f) (mA f)
  | .rng lo hi => ∃ t u v, h.get? a = some { cls := .type "range", data := .fields #[.int lo t, .int hi u, .int 1 v] }
  | .frz o u => h.get? a = some o ∧ ObjOk H h a u
  | .tbl ps => h.get? a = some { cls := .none, data := .fields ps }
  | .met f x => h.get? a = some (PySem.W.methodObj (.ref f) (.ref x))
  | .ext φ => φ h ∧ (∃ o, h.get? a = some o) ∧ ∀ h1 h2 : Heap, φ h1 → (∀ o, h1.get? a = some o → h2.get? a = some o) → φ h2
def HOk (H : Hp) (h : Heap) : Prop := ∀ a o, H a = some o → ObjOk P w H h a o
end
section
variable {P : Program} {w : World} {H H' : Hp} {h h' : Heap} {a : Addr} {o : HO}
theorem ObjOk.lt (x : ObjOk P w H h a o) : a < h.objs.size := by
  cases o with
  | lst xs => obtain ⟨_, _, _, _, e⟩ := x; exact Heap.lt_size e
  | tup xs => obtain ⟨_, _, _, p⟩ := x; exact p.lt
  | dK kvs => obtain ⟨_, _, _, _, o, _, _, e, _⟩ := x; exact Heap.lt_size e
  | dT kvs => obtain ⟨_, _, _, _, o, _, _, e, _⟩ := x; exact Heap.lt_size e
  | set S n => obtain ⟨o, _, _, _, e, _⟩ := x; exact Heap.lt_size e
  | ins C dx fs => obtain ⟨_, _, _, e, _⟩ := x; exact Heap.lt_size e
  | own y => obtain ⟨_, e⟩ := x; exact Heap.lt_size e
  | xd fs => obtain ⟨_, ⟨_, _, _, e, _⟩, _⟩ := x; exact Heap.lt_size e
  | rng lo hi => obtain ⟨_, _, _, e⟩ := x; exact Heap.lt_size e
  | frz ob u => obtain ⟨e, _⟩ := x; exact Heap.lt_size e
  | tbl ps => exact Heap.lt_size (show h.get? a = some _ from x)
  | met f y => exact Heap.lt_size (show h.get? a = some _ from x)
  | ext φ => obtain ⟨_, ⟨_, e⟩, _⟩ := x; exact Heap.lt_size e
theorem Paired.mapP {α β : Type} {F G : α → β → Prop} : ∀ {l₁ : List α} {l₂ : List β}, Paired F l₁ l₂ → (∀ a b, F a b → G a b) → Paired G l₁ l₂
  | _, _, .nil, _ => .nil
  | _, _, .cons r t, f => .cons (f _ _ r) (Paired.mapP t f)
theorem Paired.imp' {α β : Type} {F G : α → β → Prop} (f : ∀ a b, F a b → G a b) {l₁ : List α} {l₂ : List β} (r : Paired F l₁ l₂) : Paired G l₁ l₂ := Paired.mapP r f
theorem ObjOk.stay (x : ObjOk P w H h a o) (k : ∀ b u, (b = a ∨ H b = some (.own a)) → h.get? b = some u → h'.get? b = some u)
    (ho : ∀ b, H b = some (.own a) → H' b = some (.own a)) (ht : ∀ b xs, H b = some (.tup xs) → H' b = some (.tup xs)) : ObjOk P w H' h' a o := by
  induction o with
  | lst xs => obtain ⟨z, its, n, r, e⟩ := x; exact ⟨z, its, n, r, k _ _ (.inl rfl) e⟩
  | tup xs => obtain ⟨z, its, r, ob, e, c⟩ := x; exact ⟨z, its, r, ob, k _ _ (.inl rfl) e, c⟩
  | dK kvs => obtain ⟨z, y, vs, r, ob, es, ep, e, c⟩ := x; exact ⟨z, y, vs, r, ob, es, ep, k _ _ (.inl rfl) e, c⟩
  | dT kvs =>
    obtain ⟨z, y, xs, r, ob, es, ep, e, c⟩ := x
    exact ⟨z, y, xs, Paired.mapP r fun p q z => ⟨z.1, ht _ _ z.2.1, z.2.2⟩, ob, es, ep, k _ _ (.inl rfl) e, c⟩
  | set S n => obtain ⟨ob, es, ep, t, e, c⟩ := x; exact ⟨ob, es, ep, t, k _ _ (.inl rfl) e, c⟩
  | ins C dx fs =>
    obtain ⟨d, z, ne, e, mA, ⟨od, es, ep, e2, c⟩, r⟩ := x
    exact ⟨ho _ d, z, ne, k _ _ (.inl rfl) e, mA, ⟨od, es, ep, k _ _ (.inr d) e2, c⟩, r⟩
  | own y => obtain ⟨ob, e⟩ := x; exact ⟨ob, k _ _ (.inl rfl) e⟩
  | xd fs => obtain ⟨mA, ⟨od, es, ep, e, c⟩, r⟩ := x; exact ⟨mA, ⟨od, es, ep, k _ _ (.inl rfl) e, c⟩, r⟩
  | rng lo hi => obtain ⟨t, u, v, e⟩ := x; exact ⟨t, u, v, k _ _ (.inl rfl) e⟩
  | frz ob u ih => obtain ⟨e, q⟩ := x; exact ⟨k _ _ (.inl rfl) e, ih q⟩
  | tbl ps =>
    have e : h.get? a = some { cls := .none, data := .fields ps } := x
    show h'.get? a = some { cls := .none, data := .fields ps }
    exact k a _ (.inl rfl) e
  | met f y =>
    have e : h.get? a = some (PySem.W.methodObj (.ref f) (.ref y)) := x
    show h'.get? a = some (PySem.W.methodObj (.ref f) (.ref y))
    exact k a _ (.inl rfl) e
  | ext φ => obtain ⟨p, ⟨o, e⟩, st⟩ := x; exact ⟨st _ _ p fun o q => k _ _ (.inl rfl) q, ⟨o, k _ _ (.inl rfl) e⟩, st⟩
theorem HOk.lt (x : HOk P w H h) (e : H a = some o) : a < h.objs.size := (x a o e).lt
theorem HOk.fresh (x : HOk P w H h) (e : h.objs.size ≤ a) : H a = none := by
  cases q : H a with
  | none => rfl
  | some u => exact absurd (Nat.lt_of_lt_of_le (x.lt q) e) (Nat.lt_irrefl _)
theorem HOk.kept (x : HOk P w H h) (k : ∀ b u, h.get? b = some u → h'.get? b = some u) : HOk P w H h' := fun a o e =>
  (x a o e).stay (fun b u _ q => k b u q) (fun _ q => q) fun _ _ q => q
theorem HOk.laid (x : HOk P w H h) (k : ∀ b u, h.get? b = some u → h'.get? b = some u) (hp : h.objs.size ≤ a) (new : ObjOk P w (upd H a o) h' a o) : HOk P w (upd H a o) h' := fun b u e => by
  have hn := x.fresh hp
  by_cases hb : b = a
  · subst hb; rw [upd_same] at e; cases e; exact new
  · rw [upd_ne hb] at e
    exact (x b u e).stay (fun c v _ q => k c v q) (fun c q => by rw [upd_ne (ne_of_none q hn)]; exact q) fun c xs q => by rw [upd_ne (ne_of_none q hn)]; exact q
end
def Rd (H : Hp) (a : Addr) (u : HO) : Prop := H a = some u ∨ ∃ o, H a = some (.frz o u)
theorem Rd.ok {P : Program} {w : World} {H : Hp} {h : Heap} {a : Addr} {u : HO} (r : Rd H a u) (x : HOk P w H h) : ObjOk P w H h a u := by
  rcases r with r | ⟨o, r⟩
  · exact x a u r
  · obtain ⟨_, q⟩ := x a _ r
    exact q
def Mut : Option HO → Prop
  | some (.lst _) => True
  | some (.dK _) => True
  | some (.dT _) => True
  | some (.set _ _) => True
  | some (.ins _ _ _) => True
  | some (.ext _) => True
  | _ => False
section
variable {P : Program} {w : World} {H : Hp} {h h' : Heap} {x e : Addr} {o' : HO}
theorem HOk.write (ok : HOk P w H h) (mu : Mut (H x)) (he : e = x ∨ H e = some (.own x)) (k : ∀ b u, b ≠ e → h.get? b = some u → h'.get? b = some u) (heo : ∃ u, h'.get? e = some u)
    (new : ObjOk P w (upd H x o') h' x o') : HOk P w (upd H x o') h' := fun b u q => by
  have nown : ∀ c y, H c = some (.own y) → c ≠ x := fun c y r z => by subst z; rw [r] at mu; exact mu
  have ntup : ∀ c xs, H c = some (.tup xs) → c ≠ x := fun c xs r z => by subst z; rw [r] at mu; exact mu
  by_cases hb : b = x
  · subst hb; rw [upd_same] at q; cases q; exact new
  · rw [upd_ne hb] at q
    by_cases hbe : b = e
    · have q' : H b = some (.own x) := by
        rcases he with z | z
        · exact absurd (hbe.trans z) hb
        · rw [hbe]; exact z
      rw [q] at q'; cases q'
      obtain ⟨v, hv⟩ := heo
      exact ⟨v, by rw [hbe]; exact hv⟩
    · refine (ok b u q).stay (fun c v hc r => k c v ?_ r) (fun c r => by rw [upd_ne (nown c b r)]; exact r) fun c xs r => by rw [upd_ne (ntup c xs r)]; exact r
      rcases hc with rfl | hc
      · exact hbe
      · rintro rfl
        rcases he with z | z
        · exact nown c b hc z
        · rw [hc] at z; cases z; exact hb rfl
end
structure Un (fs ex : List Addr) (H H' : Hp) (h h' : Heap) : Prop where
  keep : ∀ b o, h.get? b = some o → H b = none → b ∉ fs → b ∉ ex → h'.get? b = some o
  slot : ∀ b o, h.get? b = some o → H b = none → b ∈ fs → b ∉ ex → ∃ sl, h'.get? b = some { o with slots := sl }
  free : ∀ b o, h.get? b = some o → H b = none → b ∉ ex → H' b = none
  there : ∀ b o, h.get? b = some o → b ∉ ex → ∃ o', h'.get? b = some o'
  tups : ∀ b xs, H b = some (.tup xs) → H' b = some (.tup xs)
  frzs : ∀ b o u, H b = some (.frz o u) → H' b = some (.frz o u)
  tbls : ∀ b ps, H b = some (.tbl ps) → ∃ more, H' b = some (.tbl (ps ++ more))
section
variable {fs fs' ex ex' : List Addr} {H H1 H2 : Hp} {h h1 h2 h' : Heap} {a x e : Addr} {o : HO}
theorem Un.any (u : Un fs ex H H1 h h1) {b : Addr} {ob : Obj} (q : h.get? b = some ob) (n : H b = none) (hx : b ∉ ex) : ∃ sl, h1.get? b = some { ob with slots := sl } := by
  by_cases hb : b ∈ fs
  · exact u.slot b ob q n hb hx
  · exact ⟨ob.slots, u.keep b ob q n hb hx⟩
theorem Un.kept (k : ∀ b u, h.get? b = some u → h'.get? b = some u) : Un fs ex H H h h' :=
  ⟨fun b ob q _ _ _ => k b ob q, fun b ob q _ _ _ => ⟨ob.slots, k b ob q⟩, fun _ _ _ n _ => n, fun b ob q _ => ⟨ob, k b ob q⟩, fun _ _ q => q, fun _ _ _ q => q, fun _ ps q => ⟨#[], by rw [q]; simp⟩⟩
theorem Un.refl : Un fs ex H H h h := Un.kept fun _ _ q => q
theorem Un.laid (k : ∀ b u, h.get? b = some u → h'.get? b = some u) (hp : h.objs.size ≤ a) (hn : H a = none) : Un fs ex H (upd H a o) h h' where
  keep := fun b u q _ _ _ => k b u q
  slot := fun b u q _ _ _ => ⟨u.slots, k b u q⟩
  free := fun b u q n _ => by rw [upd_ne (Nat.ne_of_lt (Nat.lt_of_lt_of_le (Heap.lt_size q) hp))]; exact n
  there := fun b u q _ => ⟨u, k b u q⟩
  tups := fun b xs q => by rw [upd_ne (ne_of_none q hn)]; exact q
  frzs := fun b u xs q => by rw [upd_ne (ne_of_none q hn)]; exact q
  tbls := fun b ps q => ⟨#[], by rw [upd_ne (ne_of_none q hn), q]; simp⟩
theorem Un.write (mu : Mut (H x)) (he : e = x ∨ H e = some (.own x)) (k : ∀ b u, b ≠ e → h.get? b = some u → h'.get? b = some u) (heo : ∃ u, h'.get? e = some u) : Un fs ex H (upd H x o) h h' := by
  have hx : ∀ b, H b = none → b ≠ x := fun b n z => by subst z; rw [n] at mu; exact mu
  have hb : ∀ b, H b = none → b ≠ e := fun b n z => by
    subst z
    rcases he with r | r
    · exact hx b n r
    · rw [n] at r; cases r
  have hm : ∀ b u, H b = some u → ¬ Mut (some u) → b ≠ x := fun b u q nm z => by subst z; rw [q] at mu; exact nm mu
  refine ⟨fun b u q n _ _ => k b u (hb b n) q, fun b u q n _ _ => ⟨u.slots, k b u (hb b n) q⟩, fun b u q n _ => by rw [upd_ne (hx b n)]; exact n, fun b u q _ => ?_,
    fun b xs q => by rw [upd_ne (hm b _ q fun z => z)]; exact q, fun b u xs q => by rw [upd_ne (hm b _ q fun z => z)]; exact q, fun b ps q => ⟨#[], by rw [upd_ne (hm b _ q fun z => z), q]; simp⟩⟩
  by_cases hbe : b = e
  · subst hbe; exact heo
  · exact ⟨u, k b u hbe q⟩
end
def trk (h : Heap) (H : Hp) : List Addr := (List.range h.objs.size).filter fun a => (H a).isSome
def hidT (h : Heap) (H : Hp) : Heap := PySem.W.hideAll h (trk h H)
theorem hidT_size (h : Heap) (H : Hp) : (hidT h H).objs.size = h.objs.size := PySem.W.hideAll_size _ _
theorem hidT_get {h : Heap} {H : Hp} {b : Addr} {o : Obj} (e : h.get? b = some o) (n : H b = none) : (hidT h H).get? b = some o :=
  PySem.W.hideAll_get _ e fun hm => by
    have q : (H b).isSome = true := (List.mem_filter.mp hm).2
    rw [n] at q; simp at q
theorem of_hidT {h : Heap} {H : Hp} {b : Addr} {o : Obj} (e : (hidT h H).get? b = some o) : h.get? b = some o ∧ H b = none := by
  have e' : h.get? b = some o := PySem.W.of_hideAll (trk h H) e
  refine ⟨e', ?_⟩
  cases q : H b with
  | none => rfl
  | some x =>
    have hm : b ∈ trk h H := List.mem_filter.mpr ⟨List.mem_range.mpr (Heap.lt_size e'), by simp [q]⟩
    have z : (hidT h H).get? b = none := PySem.W.hideAll_none (trk h H) hm
    rw [z] at e; cases e
def allNews (g h : Heap) (L : Addr) : List (Addr × Obj) := (List.range h.objs.size).filterMap fun a => if a = L ∨ (g.get? a).isSome = true then none else (h.get? a).map fun o => (a, o)
def rest (g h : Heap) (L d : Addr) : List (Addr × Obj) := (allNews g h L).filter fun p => decide (p.1 ≠ d)
end L2
namespace L2
open PySem PySem.Spec PyProof.Rows
structure Mod (K : PySem.W.Frag) (mg : Str → Option Value) (base : Heap) : Prop where
  kin : K.In base
  glob : base.Ns mainGlobals mg
  blt : ∃ mb, base.Ns builtinsNs mb ∧ ∀ x : Str, x ≠ "__name__" → mb x = bootBuiltins x
  nolimit : base.NoLimit
structure Cx where
  prog : Program
  w : World
  K : PySem.W.Frag
  mg : Str → Option Value
  base : Heap
  A : Around
  N : List Str
  s₀ : Shared
  H₀ : Hp
  env : Env
  outer : List Env
  stack : List Env
  ex : List Addr
  fn : Str → Bool
  calm : Bool
  pn : List (Addr × Obj)
  xe : Value → Shared → Prop
def frs (l : List Env) : List Addr := l.filterMap (·.frame)
abbrev Cx.fs (X : Cx) : List Addr := frs X.outer
def Vis (sc : Scope) (x : Str) : Prop := sc.names.lookup x = some .local ∨ sc.names.lookup x = some .cell ∨ sc.names.lookup x = some .free
def Loc (sc : Scope) (x : Str) : Prop := sc.names.lookup x = some .local ∨ sc.names.lookup x = some .cell
def Look (env : Env) (h : Heap) (m : Str → Option Value) (x : Str) (u : Value) : Prop :=
  (env.kindOf x = some .local ∧ m x = some u) ∨ ((env.kindOf x = some .cell ∨ env.kindOf x = some .free) ∧ ∃ c, env.cells.lookup x = some c ∧ h.IsCell c (some u))
structure Cx.Ok (X : Cx) : Prop where
  mod : Mod X.K X.mg X.base
  kind : X.env.scope.kind = .function
  glob : X.env.globals = mainGlobals
  blt : X.env.builtins = builtinsNs
  above : X.s₀.heap.objs.size ≤ X.env.locals
  inj : ∀ x y c, X.env.cells.lookup x = some c → X.env.cells.lookup y = some c → x = y
  has : ∀ x, (X.env.kindOf x = some .cell ∨ X.env.kindOf x = some .free) → ∃ c, X.env.cells.lookup x = some c
  cab : ∀ x c, X.fn x = true → X.env.cells.lookup x = some c → X.s₀.heap.objs.size ≤ c
  hd : X.calm = true → X.A.handled = none
  frames : X.A.frames = some X.stack
  stk : X.stack = X.outer ∨ (X.stack = X.env :: X.outer ∧ X.env.frame = some X.env.locals)
  exf : ∀ b ∈ X.ex, b ≠ X.env.locals ∧ ∀ x c, X.env.cells.lookup x = some c → c ≠ b
  bs : ∀ b o, X.base.get? b = some o → X.s₀.heap.get? b = some o ∧ X.H₀ b = none
  bsz : X.base.objs.size ≤ X.s₀.heap.objs.size
  noex : ∀ b o, X.base.get? b = some o → b ∉ X.ex
  exfs : ∀ b ∈ X.ex, b ∉ X.fs
  funs : X.s₀.heap.FunFrames X.base X.outer
  frf : ∀ b ∈ X.fs, X.H₀ b = none
structure Inv (X : Cx) (pins : List (Addr × Obj)) (σ : List (Option V)) (H : Hp) (s : Shared) : Prop where
  ok : X.Ok
  os : s.os = X.s₀.os
  bare : AllBare s.gens
  base : Un X.fs X.ex X.H₀ H X.s₀.heap s.heap
  loc : ∃ m, s.heap.Ns X.env.locals m ∧ ∀ (i : Nat) (x : Str) (v : V), X.N[i]? = some x → σ[i]? = some (some v) → Vis X.env.scope x → ∃ u, RelV v u ∧ Look X.env s.heap m x u
  cell : ∀ x c, X.env.cells.lookup x = some c → ∃ v, s.heap.IsCell c v
  free : H X.env.locals = none
  freeC : ∀ x c, X.env.cells.lookup x = some c → H c = none
  pin : ∀ p ∈ X.pn ++ pins, s.heap.get? p.1 = some p.2 ∧ H p.1 = none ∧ p.1 ≠ X.env.locals ∧ p.1 ∉ X.fs ∧ ∀ v, p.2.data ≠ .cell v
  hok : HOk X.prog X.w H s.heap
  len : σ.length = X.N.length
section
variable {X : Cx} {pins : List (Addr × Obj)} {σ : List (Option V)} {H H' : Hp} {s : Shared} {h' : Heap}
theorem Cx.Ok.nofr (ok : X.Ok) {b : Addr} {o : Obj} (e : X.base.get? b = some o) : b ∉ X.fs := fun hb => by
  have := (ok.funs.mem hb).1
  rw [e] at this; cases this
theorem Inv.bs (I : Inv X pins σ H s) : ∀ b o, X.base.get? b = some o → s.heap.get? b = some o ∧ H b = none := fun b o e =>
  ⟨I.base.keep b o (I.ok.bs b o e).1 (I.ok.bs b o e).2 (I.ok.nofr e) (I.ok.noex b o e), I.base.free b o (I.ok.bs b o e).1 (I.ok.bs b o e).2 (I.ok.noex b o e)⟩
theorem Inv.bk (I : Inv X pins σ H s) : ∀ b o, X.base.get? b = some o → s.heap.get? b = some o := fun b o e => (I.bs b o e).1
theorem Inv.mod (I : Inv X pins σ H s) : Mod X.K X.mg X.base := I.ok.mod
theorem Inv.kIn (I : Inv X pins σ H s) : X.K.In s.heap := I.ok.mod.kin.keeps I.bk
theorem Inv.nolimit (I : Inv X pins σ H s) : s.heap.NoLimit := I.ok.mod.nolimit.keeps I.bk
theorem Inv.lt (I : Inv X pins σ H s) : X.env.locals < s.heap.objs.size := let ⟨_, hn, _⟩ := I.loc; hn.lt
theorem Inv.sz (I : Inv X pins σ H s) : X.s₀.heap.objs.size ≤ s.heap.objs.size := Nat.le_trans I.ok.above (Nat.le_of_lt I.lt)
theorem Inv.nofs (I : Inv X pins σ H s) {a : Addr} (h : s.heap.objs.size ≤ a) : a ∉ X.fs := fun hb => by
  obtain ⟨_, o, ho, _⟩ := I.ok.funs.mem hb
  exact absurd (Nat.lt_of_lt_of_le (Heap.lt_size ho) (Nat.le_trans I.sz h)) (Nat.lt_irrefl _)
theorem Inv.cne (I : Inv X pins σ H s) : ∀ x c, X.env.cells.lookup x = some c → c ≠ X.env.locals := fun x c e z => by
  obtain ⟨v, o, ho, hd⟩ := I.cell x c e
  obtain ⟨m, ⟨o', es, ep, ho', hd', _⟩, _⟩ := I.loc
  rw [z, ho'] at ho; cases ho; rw [hd'] at hd; cases hd
theorem Inv.funs (I : Inv X pins σ H s) : s.heap.FunFrames X.base X.outer := by
  have all : ∀ (l : List Env), (∀ b ∈ frs l, b ∈ X.fs) → X.s₀.heap.FunFrames X.base l → s.heap.FunFrames X.base l := by
    intro l
    induction l with
    | nil => intro _ _; trivial
    | cons env r ih =>
      intro hs hl
      obtain ⟨hk, ⟨L, o, hf, hn, ho, hd⟩, hr⟩ := hl
      have hL : L ∈ X.fs := hs L (by unfold frs; rw [List.filterMap_cons, hf]; exact List.mem_cons_self)
      obtain ⟨sl, e⟩ := I.base.slot L o ho (I.ok.frf L hL) hL fun z => I.ok.exfs L z hL
      exact ⟨hk, ⟨L, _, hf, hn, e, hd⟩, ih (fun b hb => hs b (by unfold frs; rw [List.filterMap_cons, hf]; exact List.mem_cons_of_mem _ hb)) hr⟩
  exact all X.outer (fun _ hb => hb) I.ok.funs
theorem Inv.stack (I : Inv X pins σ H s) : s.heap.FunFrames X.base X.stack := by
  rcases I.ok.stk with e | ⟨e, hf⟩
  · rw [e]; exact I.funs
  · rw [e]
    obtain ⟨m, hn, _⟩ := I.loc
    refine .cons (by rw [I.ok.kind]; decide) hf hn ?_ I.funs
    exact Heap.get?_none_of_le (Nat.le_trans I.ok.bsz I.ok.above)
theorem Inv.stkSub (I : Inv X pins σ H s) : ∀ b ∈ frs X.stack, b ∈ X.env.locals :: X.fs := fun b hb => by
  rcases I.ok.stk with e | ⟨e, hf⟩
  · rw [e] at hb; exact List.mem_cons_of_mem _ hb
  · rw [e] at hb
    unfold frs at hb
    rw [List.filterMap_cons, hf] at hb
    exact hb
theorem Inv.stkFree (I : Inv X pins σ H s) : ∀ b ∈ frs X.stack, H b = none := fun b hb => by
  rcases List.mem_cons.mp (I.stkSub b hb) with e | hb
  · rw [e]; exact I.free
  · obtain ⟨_, o, ho, _⟩ := I.ok.funs.mem hb
    exact I.base.free b o ho (I.ok.frf b hb) fun z => I.ok.exfs b z hb
theorem Inv.step {g' : Array GenState} {t' : Nat} {d' : Drawn} {ch : List Addr} (I : Inv X pins σ H s)
    (hch : ∀ b ∈ ch, (b ∈ X.ex ∨ X.s₀.heap.objs.size ≤ b) ∧ b ≠ X.env.locals ∧ (∀ x c, X.env.cells.lookup x = some c → c ≠ b) ∧ ∀ p ∈ X.pn ++ pins, p.1 ≠ b)
    (keep : ∀ b o, b ≠ X.env.locals → b ∉ X.fs → b ∉ ch → s.heap.get? b = some o → H b = none → h'.get? b = some o)
    (slot : ∀ b o, b ≠ X.env.locals → b ∈ X.fs → b ∉ ch → s.heap.get? b = some o → H b = none → ∃ sl, h'.get? b = some { o with slots := sl }) (free : ∀ b o, b ∉ ch → s.heap.get? b = some o → H b = none → H' b = none)
    (there : ∀ b o, b ∉ ch → s.heap.get? b = some o → ∃ o', h'.get? b = some o')
    (tups : ∀ b xs, H b = some (.tup xs) → H' b = some (.tup xs)) (frzs : ∀ b o u, H b = some (.frz o u) → H' b = some (.frz o u)) (tbls : ∀ b ps, H b = some (.tbl ps) → ∃ more, H' b = some (.tbl (ps ++ more)))
    (ns : ∀ m, s.heap.Ns X.env.locals m → h'.Ns X.env.locals m) (hok : HOk X.prog X.w H' h') (hg : AllBare g') :
    Inv X pins σ H' { s with heap := h', gens := g', drawn := d', toks := t' } := by
  have neL : ∀ b o, X.s₀.heap.get? b = some o → b ≠ X.env.locals := fun b o e => Nat.ne_of_lt (Nat.lt_of_lt_of_le (Heap.lt_size e) I.ok.above)
  have neC : ∀ b o, X.s₀.heap.get? b = some o → b ∉ X.ex → b ∉ ch := fun b o e hx hb => by
    rcases (hch b hb).1 with z | z
    · exact hx z
    · exact absurd (Nat.lt_of_lt_of_le (Heap.lt_size e) z) (Nat.lt_irrefl _)
  have cellK : ∀ x c, X.env.cells.lookup x = some c → ∀ v, s.heap.IsCell c v → h'.IsCell c v := fun x c e v ⟨o, ho, hd⟩ => by
    have nch : c ∉ ch := fun z => (hch c z).2.2.1 x c e rfl
    by_cases hc : c ∈ X.fs
    · obtain ⟨sl, q⟩ := slot c o (I.cne x c e) hc nch ho (I.freeC x c e)
      exact ⟨_, q, hd⟩
    · exact ⟨o, keep c o (I.cne x c e) hc nch ho (I.freeC x c e), hd⟩
  refine ⟨I.ok, I.os, hg, ⟨fun b o e n hb hx => ?_, fun b o e n hb hx => ?_, fun b o e n hx => ?_, fun b o e hx => ?_, fun b xs e => tups b xs (I.base.tups b xs e), fun b o xs e => frzs b o xs (I.base.frzs b o xs e), fun b ps e => ?_⟩, ?_, fun x c e => ?_, ?_, fun x c e => ?_, fun p hp => ?_, hok, I.len⟩
  · exact keep b o (neL b o e) hb (neC b o e hx) (I.base.keep b o e n hb hx) (I.base.free b o e n hx)
  · obtain ⟨sl, e1⟩ := I.base.slot b o e n hb hx
    obtain ⟨sl', e2⟩ := slot b _ (neL b o e) hb (neC b o e hx) e1 (I.base.free b o e n hx)
    exact ⟨sl', e2⟩
  · obtain ⟨o', e1⟩ := I.base.there b o e hx
    exact free b o' (neC b o e hx) e1 (I.base.free b o e n hx)
  · obtain ⟨o', e1⟩ := I.base.there b o e hx
    exact there b o' (neC b o e hx) e1
  · obtain ⟨m1, e1⟩ := I.base.tbls b ps e
    obtain ⟨m2, e2⟩ := tbls b _ e1
    exact ⟨m1 ++ m2, by rw [e2, Array.append_assoc]⟩
  · obtain ⟨m, hn, hl⟩ := I.loc
    refine ⟨m, ns m hn, fun i x v e1 e2 e3 => ?_⟩
    obtain ⟨u, r, l⟩ := hl i x v e1 e2 e3
    refine ⟨u, r, ?_⟩
    rcases l with l | ⟨k, c, e, z⟩
    · exact .inl l
    · exact .inr ⟨k, c, e, cellK x c e _ z⟩
  · obtain ⟨v, z⟩ := I.cell x c e
    exact ⟨v, cellK x c e v z⟩
  · obtain ⟨m, ⟨o, _, _, ho, _⟩, _⟩ := I.loc
    exact free _ o (fun z => (hch _ z).2.1 rfl) ho I.free
  · obtain ⟨v, o, ho, hd⟩ := I.cell x c e
    exact free c o (fun z => (hch c z).2.2.1 x c e rfl) ho (I.freeC x c e)
  · obtain ⟨e, n, ne, nf, d⟩ := I.pin p hp
    have nch : p.1 ∉ ch := fun z => (hch p.1 z).2.2.2 p hp rfl
    exact ⟨keep p.1 p.2 ne nf nch e n, free p.1 p.2 nch e n, ne, nf, d⟩
theorem Inv.un {t' : Nat} (I : Inv X pins σ H s) (u : Un X.fs [] H H' s.heap h') (hok : HOk X.prog X.w H' h') : Inv X pins σ H' { s with heap := h', toks := t' } := by
  obtain ⟨m, ⟨o, es, ep, ho, r⟩, _⟩ := id I.loc
  obtain ⟨sl, hL⟩ := u.any ho I.free (by simp)
  exact I.step (g' := s.gens) (d' := s.drawn) (ch := []) (fun _ z => nomatch z) (fun b o _ hb _ e n => u.keep b o e n hb (by simp)) (fun b o _ hb _ e n => u.slot b o e n hb (by simp)) (fun b o _ e n => u.free b o e n (by simp)) (fun b o _ e => u.there b o e (by simp)) u.tups u.frzs u.tbls (fun m' hm => by
    obtain ⟨o', es', ep', ho', r'⟩ := hm
    rw [ho] at ho'; cases ho'
    exact ⟨_, es', ep', hL, r'⟩) hok I.bare
theorem Inv.call {g' : Array GenState} {t' : Nat} {d' : Drawn} {ch : List Addr} (I : Inv X pins σ H s) (u : Un (frs X.stack) ch H H' s.heap h') (hok : HOk X.prog X.w H' h') (hg : AllBare g')
    (hch : ∀ b ∈ ch, (b ∈ X.ex ∨ X.s₀.heap.objs.size ≤ b) ∧ b ≠ X.env.locals ∧ (∀ x c, X.env.cells.lookup x = some c → c ≠ b) ∧ ∀ p ∈ X.pn ++ pins, p.1 ≠ b) :
    Inv X pins σ H' { s with heap := h', gens := g', drawn := d', toks := t' } := by
  obtain ⟨m, ⟨o, es, ep, ho, r⟩, _⟩ := id I.loc
  obtain ⟨sl, hL⟩ := u.any ho I.free fun z => (hch _ z).2.1 rfl
  exact I.step (ch := ch) hch (fun b o hL hb hc e n => u.keep b o e n (fun z => (List.mem_cons.mp (I.stkSub b z)).elim hL hb) hc) (fun b o _ _ hc e n => u.any e n hc) (fun b o hc e n => u.free b o e n hc) (fun b o hc e => u.there b o e hc) u.tups u.frzs u.tbls (fun m' hm => by
    obtain ⟨o', es', ep', ho', r'⟩ := hm
    rw [ho] at ho'; cases ho'
    exact ⟨_, es', ep', hL, r'⟩) hok hg
theorem Inv.turned {t' : Nat} {it : Addr} (I : Inv X pins σ H s) (k : ∀ b o, b ≠ it → s.heap.get? b = some o → h'.get? b = some o) (hn : H it = none) (hL : it ≠ X.env.locals)
    (h1 : it ∈ X.ex ∨ X.s₀.heap.objs.size ≤ it) (h2 : ∀ x c, X.env.cells.lookup x = some c → c ≠ it) (h3 : ∀ p ∈ X.pn ++ pins, p.1 ≠ it) : Inv X pins σ H { s with heap := h', toks := t' } := by
  have nit : ∀ b u, H b = some u → b ≠ it := fun b u e z => by rw [z, hn] at e; cases e
  refine I.step (g' := s.gens) (d' := s.drawn) (ch := [it]) (fun b hb => ?_) (fun b o _ _ hc e _ => k b o (fun z => hc (by simp [z])) e) (fun b o _ _ hc e _ => ⟨o.slots, k b o (fun z => hc (by simp [z])) e⟩) (fun _ _ _ _ n => n)
    (fun b o hc e => ⟨o, k b o (fun z => hc (by simp [z])) e⟩) (fun _ _ e => e) (fun _ _ _ e => e) (fun b ps e => ⟨#[], by rw [e]; simp⟩) (fun m hm => ?_) (fun b u e => ?_) I.bare
  · have e : b = it := by simpa using hb
    subst e
    exact ⟨h1, hL, h2, h3⟩
  · obtain ⟨o, es, ep, ho, r⟩ := hm
    exact ⟨o, es, ep, k _ o (Ne.symm hL) ho, r⟩
  · refine (I.hok b u e).stay (fun c v hc q => k c v ?_ q) (fun _ q => q) fun _ _ q => q
    rcases hc with z | z
    · rw [z]; exact nit b u e
    · exact nit c _ z
theorem Inv.tok (I : Inv X pins σ H s) (t : Nat) : Inv X pins σ H { s with toks := t } := I.un (h' := s.heap) (t' := t) Un.refl I.hok
theorem Inv.kept {t' : Nat} (I : Inv X pins σ H s) (k : ∀ b u, s.heap.get? b = some u → h'.get? b = some u) : Inv X pins σ H { s with heap := h', toks := t' } := I.un (Un.kept k) (I.hok.kept k)
theorem Inv.laid {a : Addr} {o : HO} {t' : Nat} (I : Inv X pins σ H s) (k : ∀ b u, s.heap.get? b = some u → h'.get? b = some u) (hp : s.heap.objs.size ≤ a) (new : ObjOk X.prog X.w (upd H a o) h' a o) :
    Inv X pins σ (upd H a o) { s with heap := h', toks := t' } := I.un (Un.laid k hp (I.hok.fresh hp)) (I.hok.laid k hp new)
theorem Inv.write {x e : Addr} {o : HO} {t' : Nat} (I : Inv X pins σ H s) (mu : Mut (H x)) (he : e = x ∨ H e = some (.own x)) (k : ∀ b u, b ≠ e → s.heap.get? b = some u → h'.get? b = some u) (heo : ∃ u, h'.get? e = some u)
    (new : ObjOk X.prog X.w (upd H x o) h' x o) : Inv X pins σ (upd H x o) { s with heap := h', toks := t' } := I.un (Un.write mu he k heo) (I.hok.write mu he k heo new)
theorem Inv.pins_of {pins' : List (Addr × Obj)} (I : Inv X pins σ H s) (h : ∀ p ∈ pins', s.heap.get? p.1 = some p.2 ∧ H p.1 = none ∧ p.1 ≠ X.env.locals ∧ p.1 ∉ X.fs ∧ ∀ v, p.2.data ≠ .cell v) : Inv X pins' σ H s :=
  ⟨I.ok, I.os, I.bare, I.base, I.loc, I.cell, I.free, I.freeC, fun p hp => (List.mem_append.mp hp).elim (fun z => I.pin p (List.mem_append_left _ z)) (h p), I.hok, I.len⟩
theorem nodup_ix {N : List Str} (hN : N.Nodup) {i j : Nat} {x : Str} (a : N[i]? = some x) (b : N[j]? = some x) : i = j := by
  obtain ⟨h1, e1⟩ := List.getElem?_eq_some_iff.mp a
  obtain ⟨h2, e2⟩ := List.getElem?_eq_some_iff.mp b
  exact (List.getElem_inj hN).mp (e1.trans e2.symm)
theorem store_ok2 {M : Model} {A : Around} {E : Value → Shared → Prop} {i : Nat} {x : Str} {v : V} {u : Value} {Q : Unit → Shared → Prop} (I : Inv X pins σ H s) (hN : X.N.Nodup) (hi : X.N[i]? = some x) (hx : Loc X.env.scope x) (r : RelV v u)
    (h : ∀ s', Inv X pins (σ.set i (some v)) H s' → (∃ a, Heap.SameBut a s.heap s'.heap ∧ (a = X.env.locals ∨ X.env.cells.lookup x = some a)) → Q () s') (hf : X.fn x = true ∨ X.env.scope.names.lookup x = some .local := by first | exact .inl rfl | exact .inr rfl | assumption) : wpAny M A (storeName X.env x u) Q E s := by
  obtain ⟨m, hn, hl⟩ := id I.loc
  have hcls : (X.env.scope.kind == .class || (X.env.scope.kind == .module && X.env.locals != X.env.globals)) = false := by rw [I.ok.kind]; rfl
  have hiσ : i < σ.length := by rw [I.len]; exact (List.getElem?_eq_some_iff.mp hi).1
  have cne := I.cne
  have tracked : ∀ {a : Addr} {h' : Heap}, (∃ o, s.heap.get? a = some o ∧ H a = none) → Heap.SameBut a s.heap h' → HOk X.prog X.w H h' := fun {a h'} ha hs b ob e => by
    obtain ⟨_, _, hfree⟩ := ha
    refine (I.hok b ob e).stay (fun c w' hc q => (hs.2 c ?_).trans q) (fun _ q => q) fun _ _ q => q
    rintro rfl
    rcases hc with rfl | hc
    · rw [hfree] at e; cases e
    · rw [hfree] at hc; cases hc
  rcases hx with hk | hk
  · refine wpAny_storeName_local hk hn (fun h' hn' hs => ?_) hcls
    obtain ⟨oL, _, _, hoL, _⟩ := id hn
    refine h _ ⟨I.ok, I.os, I.bare, ⟨fun b o e n hb hx => ?_, fun b o e n hb hx => ?_, I.base.free, fun b o e hx => ?_, I.base.tups, I.base.frzs, I.base.tbls⟩, ⟨_, hn', fun j y v' e1 e2 e3 => ?_⟩, fun y c e => ?_, I.free, I.freeC, fun p hp => ?_, tracked ⟨oL, hoL, I.free⟩ hs, by simpa using I.len⟩ ⟨_, hs, .inl rfl⟩
    · exact (hs.2 b (Nat.ne_of_lt (Nat.lt_of_lt_of_le (Heap.lt_size e) I.ok.above))).trans (I.base.keep b o e n hb hx)
    · obtain ⟨sl, e1⟩ := I.base.slot b o e n hb hx
      exact ⟨sl, (hs.2 b (Nat.ne_of_lt (Nat.lt_of_lt_of_le (Heap.lt_size e) I.ok.above))).trans e1⟩
    · obtain ⟨o', e1⟩ := I.base.there b o e hx
      exact ⟨o', (hs.2 b (Nat.ne_of_lt (Nat.lt_of_lt_of_le (Heap.lt_size e) I.ok.above))).trans e1⟩
    · by_cases hj : j = i
      · subst hj
        rw [hi] at e1; cases e1
        rw [List.getElem?_set_self hiσ] at e2
        cases e2
        exact ⟨u, r, .inl ⟨hk, by simp⟩⟩
      · rw [List.getElem?_set_ne (Ne.symm hj)] at e2
        obtain ⟨u', r', q⟩ := hl j y v' e1 e2 e3
        refine ⟨u', r', ?_⟩
        rcases q with ⟨k, e⟩ | ⟨k, c, e, z⟩
        · refine .inl ⟨k, ?_⟩
          have : y ≠ x := fun e => hj (nodup_ix hN e1 (e ▸ hi))
          simp [this, e]
        · exact .inr ⟨k, c, e, z.sameBut hs (cne y c e)⟩
    · obtain ⟨w', z⟩ := I.cell y c e
      exact ⟨w', z.sameBut hs (cne y c e)⟩
    · obtain ⟨e, n, ne, nf, d⟩ := I.pin p hp
      exact ⟨(hs.2 p.1 ne).trans e, n, ne, nf, d⟩
  · have hfn : X.fn x = true := by
      rcases hf with z | z
      · exact z
      · rw [z] at hk; cases hk
    obtain ⟨c, hc⟩ := I.ok.has x (.inl hk)
    obtain ⟨w', z⟩ := I.cell x c hc
    refine wpAny_storeName_cell I.ok.kind hk hc z (fun h' hc' hs => ?_)
    obtain ⟨oc, hoc, hocd⟩ := id z
    refine h { s with heap := h' } ⟨I.ok, I.os, I.bare, ⟨fun b o e n hb hx => ?_, fun b o e n hb hx => ?_, I.base.free, fun b o e hx => ?_, I.base.tups, I.base.frzs, I.base.tbls⟩, ⟨m, hn.sameBut hs (Ne.symm (cne x c hc)), fun j y v' e1 e2 e3 => ?_⟩, fun y c' e => ?_, I.free, I.freeC, fun p hp => ?_, tracked ⟨oc, hoc, I.freeC x c hc⟩ hs, by simpa using I.len⟩ ⟨c, hs, .inr hc⟩
    · exact (hs.2 b (Nat.ne_of_lt (Nat.lt_of_lt_of_le (Heap.lt_size e) (I.ok.cab x c hfn hc)))).trans (I.base.keep b o e n hb hx)
    · obtain ⟨sl, e1⟩ := I.base.slot b o e n hb hx
      exact ⟨sl, (hs.2 b (Nat.ne_of_lt (Nat.lt_of_lt_of_le (Heap.lt_size e) (I.ok.cab x c hfn hc)))).trans e1⟩
    · obtain ⟨o', e1⟩ := I.base.there b o e hx
      exact ⟨o', (hs.2 b (Nat.ne_of_lt (Nat.lt_of_lt_of_le (Heap.lt_size e) (I.ok.cab x c hfn hc)))).trans e1⟩
    · by_cases hj : j = i
      · subst hj
        rw [hi] at e1; cases e1
        rw [List.getElem?_set_self hiσ] at e2
        cases e2
        exact ⟨u, r, .inr ⟨.inl hk, c, hc, hc'⟩⟩
      · rw [List.getElem?_set_ne (Ne.symm hj)] at e2
        obtain ⟨u', r', q⟩ := hl j y v' e1 e2 e3
        refine ⟨u', r', ?_⟩
        rcases q with q | ⟨k, c', e, z'⟩
        · exact .inl q
        · refine .inr ⟨k, c', e, z'.sameBut hs ?_⟩
          rintro rfl
          exact hj (nodup_ix hN e1 (I.ok.inj _ _ _ e hc ▸ hi))
    · by_cases hcc : c' = c
      · subst hcc; exact ⟨_, hc'⟩
      · obtain ⟨w2, z2⟩ := I.cell y c' e
        exact ⟨w2, z2.sameBut hs hcc⟩
    · obtain ⟨e, n, ne, nf, d⟩ := I.pin p hp
      refine ⟨(hs.2 p.1 ?_).trans e, n, ne, nf, d⟩
      intro q
      rw [q, hoc] at e
      have q' : oc = p.2 := Option.some.inj e
      exact d w' (by rw [← q']; exact hocd)
theorem store_ok {M : Model} {A : Around} {E : Value → Shared → Prop} {i : Nat} {x : Str} {v : V} {u : Value} {Q : Unit → Shared → Prop} (I : Inv X pins σ H s) (hN : X.N.Nodup) (hi : X.N[i]? = some x) (hx : Loc X.env.scope x) (r : RelV v u)
    (h : ∀ s', Inv X pins (σ.set i (some v)) H s' → Q () s') (hf : X.fn x = true ∨ X.env.scope.names.lookup x = some .local := by first | exact .inl rfl | exact .inr rfl | assumption) : wpAny M A (storeName X.env x u) Q E s :=
  store_ok2 I hN hi hx r (fun s' I' _ => h s' I') hf
theorem Inv.call' {s' : Shared} {ch : List Addr} (I : Inv X pins σ H s) (ho : s'.os = s.os) (u : Un (frs X.stack) ch H H' s.heap s'.heap) (hok : HOk X.prog X.w H' s'.heap) (hg : AllBare s'.gens)
    (hch : ∀ b ∈ ch, (b ∈ X.ex ∨ X.s₀.heap.objs.size ≤ b) ∧ b ≠ X.env.locals ∧ (∀ x c, X.env.cells.lookup x = some c → c ≠ b) ∧ ∀ p ∈ X.pn ++ pins, p.1 ≠ b) : Inv X pins σ H' s' := by
  obtain ⟨h', g', d', t', o'⟩ := s'
  have e : o' = s.os := ho
  subst e
  exact I.call (g' := g') (t' := t') (d' := d') u hok hg hch
end
abbrev XK := Value → Option Addr → Hp → Prop
abbrev St := List (Option V)
abbrev VK := V → Hp → Prop
abbrev TE := St → Hp → VK → Prop
abbrev TT := St → Hp → (Bool → Hp → Prop) → Prop
abbrev TA := St → Hp → (List V → Hp → Prop) → Prop
structure Ends where
  nx : St → Hp → Prop
  rt : VK
  bk : St → Hp → Prop := fun _ _ => False
  ct : St → Hp → Prop := fun _ _ => False
abbrev TS := Ends → St → Hp → Prop
def EP (X : Cx) (pins : List (Addr × Obj)) (σ : St) (Q : VK) (u : Value) (s' : Shared) : Prop := ∃ v H', Inv X pins σ H' s' ∧ RelV v u ∧ Q v H'
def TP (X : Cx) (pins : List (Addr × Obj)) (σ : St) (Q : Bool → Hp → Prop) (b : Bool) (s' : Shared) : Prop := ∃ H', Inv X pins σ H' s' ∧ Q b H'
def AP (X : Cx) (pins : List (Addr × Obj)) (σ : St) (Q : List V → Hp → Prop) (us : List Value) (s' : Shared) : Prop := ∃ vs H', Inv X pins σ H' s' ∧ Vals vs us ∧ Q vs H'
def SP (X : Cx) (pins : List (Addr × Obj)) (D : Ends) (f : Flow) (s' : Shared) : Prop :=
  match f with
  | .next => ∃ σ' H', Inv X pins σ' H' s' ∧ D.nx σ' H'
  | .brk => ∃ σ' H', Inv X pins σ' H' s' ∧ D.bk σ' H'
  | .cont => ∃ σ' H', Inv X pins σ' H' s' ∧ D.ct σ' H'
  | .ret u => ∃ v σ' H', Inv X pins σ' H' s' ∧ RelV v u ∧ D.rt v H'
def PE (X : Cx) (e : Expr) (t : TE) : Prop :=
  ∀ (pins : List (Addr × Obj)) (s : Shared) (σ : St) (H : Hp) (Q : VK), Inv X pins σ H s → t σ H Q → wpAny (model X.prog X.w) X.A (eval e X.env) (EP X pins σ Q) X.xe s
def PT (X : Cx) (e : Expr) (t : TT) : Prop :=
  ∀ (pins : List (Addr × Obj)) (s : Shared) (σ : St) (H : Hp) (Q : Bool → Hp → Prop), Inv X pins σ H s → t σ H Q → wpAny (model X.prog X.w) X.A (isTrue e X.env (eval e X.env)) (TP X pins σ Q) X.xe s
def PW (X : Cx) (e : Expr) (t : TT) : Prop :=
  ∀ (whole : Sem Value) (pins : List (Addr × Obj)) (s : Shared) (σ : St) (H : Hp) (Q : Bool → Hp → Prop), Inv X pins σ H s → t σ H Q → wpAny (model X.prog X.w) X.A (isTrue e X.env whole) (TP X pins σ Q) X.xe s
theorem PW.pt {X : Cx} {e : Expr} {t : TT} (h : PW X e t) : PT X e t := h _
def PA (X : Cx) (es : List Expr) (t : TA) : Prop :=
  ∀ (pos : Pos) (pins : List (Addr × Obj)) (s : Shared) (σ : St) (H : Hp) (Q : List V → Hp → Prop), Inv X pins σ H s → t σ H Q → wpAny (model X.prog X.w) X.A (spliced (backTo pos (starEach es X.env))) (AP X pins σ Q) X.xe s
def PS (X : Cx) (st : Stmt) (t : TS) : Prop :=
  ∀ (pins : List (Addr × Obj)) (s : Shared) (σ : St) (H : Hp) (D : Ends), Inv X pins σ H s → t D σ H → wpAny (model X.prog X.w) X.A (exec st X.env) (SP X pins D) X.xe s
def PSs (X : Cx) (st : List Stmt) (t : TS) : Prop :=
  ∀ (pins : List (Addr × Obj)) (s : Shared) (σ : St) (H : Hp) (D : Ends), Inv X pins σ H s → t D σ H → wpAny (model X.prog X.w) X.A (execs st X.env) (SP X pins D) X.xe s
theorem thn {α : Type} {t : Sem α} {Q Q' : α → Shared → Prop} {M : Model} {A : Around} {E : Value → Shared → Prop} {s : Shared} (h : wpAny M A t Q E s) (hQ : ∀ a s, Q a s → Q' a s) : wpAny M A t Q' E s := wpAny_mono h hQ fun _ _ x => x
end L2
namespace L2
open PySem PySem.Spec PyProof.Rows
section
variable {X : Cx}
def tVar (i : Nat) : TE := fun σ H Q => ∃ v, σ[i]? = some (some v) ∧ Q v H
def tC (v : V) : TE := fun _ H Q => Q v H
theorem pe_var {i : Nat} {x : Str} {pos : Pos} (hN : X.N[i]? = some x) (hv : Vis X.env.scope x) (hd : (x == ("__debug__" : Str)) = false := by decide) (hcd : (x == ("__classdict__" : Str)) = false := by decide) : PE X (.Name x pos) (tVar i) := by
  intro pins s σ H Q I h
  obtain ⟨v, e, h⟩ := h
  obtain ⟨m, hn, hl⟩ := I.loc
  obtain ⟨u, r, l⟩ := hl i x v hN e hv
  have fin : EP X pins σ Q u s := ⟨v, H, I, r, h⟩
  rcases l with ⟨hk, hm⟩ | ⟨hk, c, hc, hcell⟩
  · exact wpAny_Name (wpAny_loadName_local I.ok.kind hk hn hm fin) hd
  · rcases hk with hk | hk
    · exact wpAny_Name (wpAny_loadName_cell I.ok.kind hk hc hcell fin) hd
    · exact wpAny_Name (wpAny_loadName_free I.ok.kind hk hc hcell fin hcd) hd
theorem pe_int {i j pos} : PE X (.Constant (.int i) j pos) (tC (.int i)) := fun _ _ _ H _ I h => wpAny_Constant_int ⟨.int i, H, I.tok _, ⟨_, rfl⟩, h⟩
theorem pe_bl {b j pos} : PE X (.Constant (.bool b) j pos) (tC (.bl b)) := fun _ _ _ H _ I h => Constant_bool ⟨.bl b, H, I, rfl, h⟩
theorem pe_str {x j pos} : PE X (.Constant (.str x) j pos) (tC (.str x)) := fun _ _ _ H _ I h => Calls.Constant_str ⟨.str x, H, I.tok _, ⟨_, rfl⟩, h⟩
def Gl (X : Cx) (x : Str) : Prop := X.env.kindOf x = some .globalImplicit
theorem ld_glob {E : Value → Shared → Prop} {pins : List (Addr × Obj)} {s : Shared} {σ : St} {H : Hp} {x : Str} {u : Value} {pos : Pos} {Q : Value → Shared → Prop} (I : Inv X pins σ H s) (hg : Gl X x) (hm : X.mg x = some u) (h : Q u s)
    (hd : (x == ("__debug__" : Str)) = false := by decide) : wpAny (model X.prog X.w) X.A (eval (.Name x pos) X.env) Q E s :=
  Calls.Name_function_global I.ok.kind hg (Calls.loadGlobal_global (by rw [I.ok.glob]; exact I.mod.glob.keeps I.bk) hm h) hd
theorem ld_blt {E : Value → Shared → Prop} {pins : List (Addr × Obj)} {s : Shared} {σ : St} {H : Hp} {x : Str} {u : Value} {pos : Pos} {Q : Value → Shared → Prop} (I : Inv X pins σ H s) (hg : Gl X x) (hm : X.mg x = none) (hv : bootBuiltins x = some u) (h : Q u s)
    (hn : x ≠ "__name__" := by decide) (hd : (x == ("__debug__" : Str)) = false := by decide) : wpAny (model X.prog X.w) X.A (eval (.Name x pos) X.env) Q E s := by
  obtain ⟨mb, h1, h2⟩ := I.mod.blt
  exact Calls.Name_function_global I.ok.kind hg (Calls.loadGlobal_builtin (by rw [I.ok.glob]; exact I.mod.glob.keeps I.bk) hm (by rw [I.ok.blt]; exact h1.keeps I.bk) ((h2 x hn).trans hv) h) hd
theorem pe_glob {x : Str} {v : V} {u : Value} {pos : Pos} (hg : Gl X x) (hm : X.mg x = some u) (r : RelV v u) (hd : (x == ("__debug__" : Str)) = false := by decide) : PE X (.Name x pos) (tC v) :=
  fun _ _ _ H _ I h => ld_glob I hg hm ⟨v, H, I, r, h⟩ hd
theorem pe_bltn {x : Str} {v : V} {u : Value} {pos : Pos} (hg : Gl X x) (hm : X.mg x = none) (hv : bootBuiltins x = some u) (r : RelV v u) (hn : x ≠ "__name__" := by decide) (hd : (x == ("__debug__" : Str)) = false := by decide) : PE X (.Name x pos) (tC v) :=
  fun _ _ _ H _ I h => ld_blt I hg hm hv ⟨v, H, I, r, h⟩ hn hd
def t2I (ta tb : TE) (k : Int → Int → Hp → Prop) : St → Hp → Prop := fun σ H => ta σ H fun x H1 => tb σ H1 fun y H2 => ∃ i j, x = .int i ∧ y = .int j ∧ k i j H2
def tAdd (ta tb : TE) : TE := fun σ H Q => t2I ta tb (fun i j H2 => Q (.int (i + j)) H2) σ H
def tSub (ta tb : TE) : TE := fun σ H Q => t2I ta tb (fun i j H2 => Q (.int (i - j)) H2) σ H
def tMul (ta tb : TE) : TE := fun σ H Q => t2I ta tb (fun i j H2 => (-(2 ^ 64) < i ∧ i < 2 ^ 64) ∧ Q (.int (i * j)) H2) σ H
variable {a b : Expr} {ta tb : TE} {pos : Pos}
def PC (X : Cx) (op : CmpOp) (a b : Expr) (t : TE) : Prop :=
  ∀ (pins : List (Addr × Obj)) (s : Shared) (σ : St) (H : Hp) (Q : VK), Inv X pins σ H s → t σ H Q →
    wpAny (model X.prog X.w) X.A (eval a X.env) (fun v s₁ => wpAny (model X.prog X.w) X.A (eval b X.env) (fun u s₂ => wpAny (model X.prog X.w) X.A (compareOp op v u) (EP X pins σ Q) X.xe s₂) X.xe s₁) X.xe s
def tCmp (p : Int → Int → Bool) (ta tb : TE) : TE := fun σ H Q => t2I ta tb (fun i j H2 => Q (.bl (p i j)) H2) σ H
abbrev tLt : TE → TE → TE := tCmp fun i j => decide (i < j)
abbrev tLe : TE → TE → TE := tCmp fun i j => decide (i ≤ j)
abbrev tGt : TE → TE → TE := tCmp fun i j => decide (j < i)
abbrev tGe : TE → TE → TE := tCmp fun i j => decide (j ≤ i)
abbrev tEqI : TE → TE → TE := tCmp fun i j => decide (i = j)
abbrev tNeI : TE → TE → TE := tCmp fun i j => !decide (i = j)
def tIsN (ta : TE) : TE := fun σ H Q => ta σ H fun x H1 => Q (.bl (decide (x = .non))) H1
def tNotN (ta : TE) : TE := fun σ H Q => ta σ H fun x H1 => Q (.bl (!decide (x = .non))) H1
def tB (t : TE) : TT := fun σ H Q => t σ H fun x H1 => ∃ c, x = .bl c ∧ Q c H1
theorem pt_val {e : Expr} {t : TE} (h : PE X e t) (he : ∀ whole, isTrue e X.env whole = (do let v ← whole; standAt e.pos; holding [v] (truthy v)) := by intro _; rfl) : PT X e (tB t) := by
  intro pins s σ H Q I hw
  refine isTrue_plain (thn (h pins s σ H _ I hw) fun v s1 ⟨x, H1, I1, r1, q1⟩ => ?_) (he _)
  obtain ⟨d, rfl, q⟩ := q1
  cases r1
  exact wpAny_truthy_bool ⟨H1, I1, q⟩
variable {tA tB' : TT} {rest : List Expr}
def tAnd (t u : TT) : TT := fun σ H Q => t σ H fun c H1 => if c = true then u σ H1 Q else Q false H1
def tOr (t u : TT) : TT := fun σ H Q => t σ H fun c H1 => if c = true then Q true H1 else u σ H1 Q
def tNot (t : TT) : TT := fun σ H Q => t σ H fun c H1 => Q (!c) H1
theorem pw_and1 (ha : PT X a tA) : PW X (.BoolOp .And [a] pos) tA := by
  intro wh pins s σ H Q I h
  refine isTrue_and (thn (ha pins s σ H Q I h) fun c s1 e => ?_)
  cases c with
  | true => exact isTrue_and_nil e
  | false => exact e
theorem pw_or1 (ha : PT X a tA) : PW X (.BoolOp .Or [a] pos) tA := by
  intro wh pins s σ H Q I h
  refine isTrue_or (thn (ha pins s σ H Q I h) fun c s1 e => ?_)
  cases c with
  | false => exact isTrue_or_nil e
  | true => exact e
theorem pw_and (ha : PT X a tA) (hb : PW X (.BoolOp .And (b :: rest) pos) tB') : PW X (.BoolOp .And (a :: b :: rest) pos) (tAnd tA tB') := by
  intro wh pins s σ H Q I h
  refine isTrue_and (thn (ha pins s σ H _ I h) fun c s1 ⟨H1, I1, q1⟩ => ?_)
  cases c with
  | true => exact hb wh pins s1 σ H1 Q I1 q1
  | false => exact ⟨H1, I1, q1⟩
theorem pw_or (ha : PT X a tA) (hb : PW X (.BoolOp .Or (b :: rest) pos) tB') : PW X (.BoolOp .Or (a :: b :: rest) pos) (tOr tA tB') := by
  intro wh pins s σ H Q I h
  refine isTrue_or (thn (ha pins s σ H _ I h) fun c s1 ⟨H1, I1, q1⟩ => ?_)
  cases c with
  | true => exact ⟨H1, I1, q1⟩
  | false => exact hb wh pins s1 σ H1 Q I1 q1
theorem pt_not (ha : PT X a tA) : PT X (.UnaryOp .Not a pos) (tNot tA) := by
  intro pins s σ H Q I h
  exact isTrue_not (ha pins s σ H (fun c H1 => Q (!c) H1) I h)
def tAndV (ta tb : TE) : TE := fun σ H Q => ta σ H fun x H1 => ∃ c, x = .bl c ∧ if c = true then tb σ H1 Q else Q (.bl false) H1
def tOrV (ta tb : TE) : TE := fun σ H Q => ta σ H fun x H1 => ∃ c, x = .bl c ∧ if c = true then Q (.bl true) H1 else tb σ H1 Q
def tNotV (ta : TE) : TE := fun σ H Q => ta σ H fun x H1 => ∃ c, x = .bl c ∧ Q (.bl (!c)) H1
theorem pe_one {op} {t : TE} (h : PE X a t) : PE X (.BoolOp op [a] pos) t := fun pins s σ H Q I hw => BoolOp_one (h pins s σ H Q I hw)
theorem pe_and (ha : PE X a ta) (hb : PE X (.BoolOp .And (b :: rest) pos) tb) : PE X (.BoolOp .And (a :: b :: rest) pos) (tAndV ta tb) := by
  intro pins s σ H Q I h
  refine BoolOp_and (thn (ha pins s σ H _ I h) fun v s1 ⟨x, H1, I1, r1, q1⟩ => ?_)
  obtain ⟨c, rfl, q1⟩ := q1
  cases r1
  refine wpAny_truthy_bool ?_
  cases c with
  | true => exact hb pins s1 σ H1 Q I1 q1
  | false => exact ⟨.bl false, H1, I1, rfl, q1⟩
def tIf (t : TT) (ta tb : TE) : TE := fun σ H Q => t σ H fun c H1 => if c = true then ta σ H1 Q else tb σ H1 Q
theorem pe_ifExp {c : Expr} (hc : PT X c tA) (ha : PE X a ta) (hb : PE X b tb) : PE X (.IfExp c a b pos) (tIf tA ta tb) := by
  intro pins s σ H Q I h
  refine wpAny_IfExp (thn (hc pins s σ H _ I h) fun d s1 ⟨H1, I1, q1⟩ => ?_)
  cases d with
  | true => exact ha pins s1 σ H1 Q I1 q1
  | false => exact hb pins s1 σ H1 Q I1 q1
end
end L2
namespace L2
open PySem PySem.Spec PyProof.Rows
def SqL (K : PySem.W.Frag) (H : Hp) (a : Addr) (xs : List V) : Prop :=
  Rd H a (.lst xs) ∨
    ∃ (o : Obj) (its : Array Value) (n : Nat), K.lookup a = some o ∧ o.cls = .type "list" ∧ o.dict = none ∧ o.data = .seq its n ∧ its.size ≤ sizeLine ∧ Vals xs its.toList
def SqT (K : PySem.W.Frag) (H : Hp) (a : Addr) (xs : List V) : Prop :=
  Rd H a (.tup xs) ∨
    ∃ (o : Obj) (its : Array Value) (n : Nat), K.lookup a = some o ∧ o.cls = .type "tuple" ∧ o.data = .seq its n ∧ its.size ≤ sizeLine ∧ Vals xs its.toList
def absV : Value → Option V
  | .none => some .non
  | .bool b => some (.bl b)
  | .int i _ => some (.int i)
  | .str x _ => some (.str x)
  | .bytes b _ => some (.byt b)
  | .float b _ => some (.flt b)
  | .ref a => some (.ref a)
  | .type n => some (.ty n)
  | _ => none
theorem RelV.abs {x : V} {u : Value} (r : RelV x u) : absV u = some x := by
  cases x with
  | non => cases r; rfl
  | bl _ => cases r; rfl
  | int _ => obtain ⟨t, rfl⟩ := r; rfl
  | str _ => obtain ⟨t, rfl⟩ := r; rfl
  | byt _ => obtain ⟨t, rfl⟩ := r; rfl
  | flt _ => obtain ⟨t, rfl⟩ := r; rfl
  | ref _ => cases r; rfl
  | ty _ => cases r; rfl
theorem RelV.inj {x y : V} {u : Value} (r : RelV x u) (q : RelV y u) : x = y := Option.some.inj (r.abs.symm.trans q.abs)
theorem Vals.inj : ∀ {xs ys : List V} {us : List Value}, Vals xs us → Vals ys us → xs = ys
  | _, _, _, .nil, .nil => rfl
  | _, _, _, .cons r t, .cons r' t' => by rw [r.inj r', Vals.inj t t']
section
variable {X : Cx} {pins : List (Addr × Obj)} {σ : St} {H : Hp} {s : Shared} {a : Addr} {xs ys : List V}
theorem SqL.of {K : PySem.W.Frag} (h : H a = some (.lst xs)) : SqL K H a xs := .inl (.inl h)
theorem SqT.of {K : PySem.W.Frag} (h : H a = some (.tup xs)) : SqT K H a xs := .inl (.inl h)
theorem Inv.list (I : Inv X pins σ H s) (h : SqL X.K H a xs) : ∃ its : List Value, Vals xs its ∧ PlainL s.heap a its.toArray ∧ xs.length ≤ sizeLine := by
  rcases h with h | ⟨o, its, n, hk, hc, hd, hs, hz, r⟩
  · obtain ⟨z, its, n, r, e⟩ := h.ok I.hok
    exact ⟨its, r, ⟨_, n, e, rfl, rfl, rfl⟩, z⟩
  · refine ⟨its.toList, r, ⟨o, n, I.kIn a o hk, hc, hd, by simpa using hs⟩, ?_⟩
    have e := r.length
    simp only [Array.length_toList] at e
    omega
theorem Inv.tuple (I : Inv X pins σ H s) (h : SqT X.K H a xs) : ∃ its : List Value, Vals xs its ∧ IsTup s.heap a its.toArray ∧ xs.length ≤ sizeLine := by
  rcases h with h | ⟨o, its, n, hk, hc, hs, hz, r⟩
  · obtain ⟨z, its, r, p⟩ := h.ok I.hok
    exact ⟨its, r, p, z⟩
  · refine ⟨its.toList, r, ⟨o, I.kIn a o hk, hc, n, by simpa using hs⟩, ?_⟩
    have e := r.length
    simp only [Array.length_toList] at e
    omega
theorem Inv.list_inj (I : Inv X pins σ H s) (h : SqL X.K H a xs) (h' : SqL X.K H a ys) : xs = ys := by
  obtain ⟨its, r, ⟨o, n, e, _, _, d⟩, _⟩ := I.list h
  obtain ⟨its', r', ⟨o', n', e', _, _, d'⟩, _⟩ := I.list h'
  rw [e] at e'; cases e'
  rw [d] at d'
  injection d' with d1 _
  have : its = its' := by simpa using congrArg Array.toList d1
  subst this
  exact r.inj r'
theorem Inv.tuple_inj (I : Inv X pins σ H s) (h : SqT X.K H a xs) (h' : SqT X.K H a ys) : xs = ys := by
  obtain ⟨its, r, ⟨o, e, _, n, d⟩, _⟩ := I.tuple h
  obtain ⟨its', r', ⟨o', e', _, n', d'⟩, _⟩ := I.tuple h'
  rw [e] at e'; cases e'
  rw [d] at d'
  injection d' with d1 _
  have : its = its' := by simpa using congrArg Array.toList d1
  subst this
  exact r.inj r'
end
abbrev Cx.wish (X : Cx) (E : Value → Shared → Prop) : Cx := { X with xe := E }
abbrev Cx.nox (X : Cx) : Cx := X.wish fun _ _ => False
theorem Cx.Ok.wish {X : Cx} (ok : X.Ok) (E : Value → Shared → Prop) : (X.wish E).Ok :=
  ⟨ok.mod, ok.kind, ok.glob, ok.blt, ok.above, ok.inj, ok.has, ok.cab, ok.hd, ok.frames, ok.stk, ok.exf, ok.bs, ok.bsz, ok.noex, ok.exfs, ok.funs, ok.frf⟩
theorem Cx.Ok.unwish {X : Cx} {E : Value → Shared → Prop} (ok : (X.wish E).Ok) : X.Ok :=
  ⟨ok.mod, ok.kind, ok.glob, ok.blt, ok.above, ok.inj, ok.has, ok.cab, ok.hd, ok.frames, ok.stk, ok.exf, ok.bs, ok.bsz, ok.noex, ok.exfs, ok.funs, ok.frf⟩
section
variable {X : Cx} {pins : List (Addr × Obj)} {σ : St} {H : Hp} {s : Shared} {E : Value → Shared → Prop}
theorem Inv.wish (I : Inv X pins σ H s) (E : Value → Shared → Prop) : Inv (X.wish E) pins σ H s := ⟨I.ok.wish E, I.os, I.bare, I.base, I.loc, I.cell, I.free, I.freeC, I.pin, I.hok, I.len⟩
theorem Inv.unwish (I : Inv (X.wish E) pins σ H s) : Inv X pins σ H s := ⟨I.ok.unwish, I.os, I.bare, I.base, I.loc, I.cell, I.free, I.freeC, I.pin, I.hok, I.len⟩
theorem SP.unwish {D : Ends} {f : Flow} {s' : Shared} (h : SP (X.wish E) pins D f s') : SP X pins D f s' := by
  cases f with
  | next => obtain ⟨σ', H', I, q⟩ := h; exact ⟨σ', H', I.unwish, q⟩
  | brk => obtain ⟨σ', H', I, q⟩ := h; exact ⟨σ', H', I.unwish, q⟩
  | cont => obtain ⟨σ', H', I, q⟩ := h; exact ⟨σ', H', I.unwish, q⟩
  | ret u => obtain ⟨v, σ', H', I, r, q⟩ := h; exact ⟨v, σ', H', I.unwish, r, q⟩
theorem PSs.nox {st : List Stmt} {t : TS} (h : PSs X.nox st t) : PSs X st t := fun pins s σ H D I hw =>
  wpAny_mono (h pins s σ H D (I.wish _) hw) (fun _ _ q => q.unwish) fun _ _ z => False.elim z
end
section
variable {X : Cx} {st : Stmt} {rest : List Stmt} {t u : TS} {e : Expr} {te : TE} {pos : Pos}
def tNext : TS := fun D σ H => D.nx σ H
def tSeq (t u : TS) : TS := fun D σ H => t { D with nx := u D } σ H
theorem pss_nil : PSs X [] tNext := fun _ _ σ H _ I h => wpAny_execs_nil ⟨σ, H, I, h⟩
theorem pss_cons (h1 : PS X st t) (h2 : PSs X rest u) : PSs X (st :: rest) (tSeq t u) := by
  intro pins s σ H D I h
  refine wpAny_execs_cons (thn (h1 pins s σ H { D with nx := u D } I h) fun f s1 q => ?_)
  cases f with
  | next =>
    obtain ⟨σ', H', I', q⟩ := q
    exact h2 pins s1 σ' H' D I' q
  | ret v => exact q
  | brk => exact q
  | cont => exact q
theorem pss_one (h1 : PS X st t) : PSs X [st] t := by
  intro pins s σ H D I h
  refine wpAny_execs_cons (thn (h1 pins s σ H D I h) fun f s1 q => ?_)
  cases f with
  | next => exact wpAny_execs_nil q
  | ret v => exact q
  | brk => exact q
  | cont => exact q
def tBreak : TS := fun D σ H => D.bk σ H
def tCont : TS := fun D σ H => D.ct σ H
theorem Inv.quiet {pins : List (Addr × Obj)} {σ : St} {H : Hp} {s : Shared} (I : Inv X pins σ H s) : interactive X.env = false := by simp [interactive, I.ok.kind]
def tDrop (te : TE) : TS := fun D σ H => te σ H fun _ H1 => D.nx σ H1
theorem ps_expr (he : PE X e te) (hs : swapsWith e none pos.line X.env = pure false := by rfl) : PS X (.Expr e pos) (tDrop te) := by
  intro pins s σ H D I h
  exact wpAny_Expr_any (thn (he pins s σ H _ I h) fun v s1 ⟨x, H1, I1, r1, q1⟩ => ⟨σ, H1, I1, q1⟩) I.quiet hs
def tRet (te : TE) : TS := fun D σ H => te σ H D.rt
theorem ps_ret (he : PE X e te) : PS X (.Return (some e) pos) (tRet te) := by
  intro pins s σ H D I h
  exact wpAny_Return_some (thn (he pins s σ H _ I h) fun v s1 ⟨x, H1, I1, r1, q1⟩ => ⟨x, σ, H1, I1, r1, q1⟩)
def tRetN : TS := fun D _ H => D.rt .non H
def tIfS (c : TT) (t u : TS) : TS := fun D σ H => c σ H fun b H1 => if b = true then t D σ H1 else u D σ H1
theorem ps_if {c : Expr} {a b : List Stmt} {tc : TT} (hc : PT X c tc) (ha : PSs X a t) (hb : PSs X b u) : PS X (.If c a b pos) (tIfS tc t u) := by
  intro pins s σ H D I h
  refine wpAny_If (thn (hc pins s σ H _ I h) fun d s1 ⟨H1, I1, q1⟩ => ?_)
  cases d with
  | true => exact ha pins s1 σ H1 D I1 q1
  | false => exact hb pins s1 σ H1 D I1 q1
def tNever : TS := fun _ _ _ => False
end
abbrev TG := V → St → Hp → (St → Hp → Prop) → Prop
abbrev TGs := List V → St → Hp → (St → Hp → Prop) → Prop
def PG (X : Cx) (target : Expr) (t : TG) : Prop :=
  ∀ (pins : List (Addr × Obj)) (s : Shared) (σ : St) (H : Hp) (v : V) (u : Value) (Q : St → Hp → Prop), Inv X pins σ H s → RelV v u → t v σ H Q →
    wpAny (model X.prog X.w) X.A (assign target X.env u) (fun _ s' => ∃ σ' H', Inv X pins σ' H' s' ∧ Q σ' H') X.xe s
def PGs (X : Cx) (ts : List Expr) (t : TGs) : Prop :=
  ∀ (pins : List (Addr × Obj)) (s : Shared) (σ : St) (H : Hp) (vs : List V) (us : List Value) (Q : St → Hp → Prop), Inv X pins σ H s → Vals vs us → t vs σ H Q →
    wpAny (model X.prog X.w) X.A (assignInOrder ((assignEach ts X.env).map (·.2)) us) (fun _ s' => ∃ σ' H', Inv X pins σ' H' s' ∧ Q σ' H') X.xe s
abbrev TSet := V → V → V → Hp → (Hp → Prop) → Prop
def PSet (X : Cx) (t : TSet) : Prop :=
  ∀ (pins : List (Addr × Obj)) (s : Shared) (σ : St) (H : Hp) (o i v : V) (ov iv u : Value) (Q : Hp → Prop), Inv X pins σ H s → RelV o ov → RelV i iv → RelV v u → t o i v H Q →
    wpAny (model X.prog X.w) X.A (setItem ov iv u) (fun _ s' => ∃ H', Inv X pins σ H' s' ∧ Q H') X.xe s
abbrev TIp := V → V → Hp → VK → Prop
def PIp (X : Cx) (op : Operator) (t : TIp) : Prop :=
  ∀ (pins : List (Addr × Obj)) (s : Shared) (σ : St) (H : Hp) (x y : V) (v u : Value) (Q : VK), Inv X pins σ H s → RelV x v → RelV y u → t x y H Q →
    wpAny (model X.prog X.w) X.A (inplaceOp op v u) (EP X pins σ Q) X.xe s
section
variable {X : Cx} {pos : Pos}
def gName (i : Nat) : TG := fun v σ H Q => Q (σ.set i (some v)) H
theorem pg_name {i : Nat} {x : Str} (hN : X.N.Nodup) (hi : X.N[i]? = some x) (hx : Loc X.env.scope x) (hf : X.fn x = true ∨ X.env.scope.names.lookup x = some .local := by first | exact .inl rfl | exact .inr rfl | assumption) : PG X (.Name x pos) (gName i) := by
  intro pins s σ H v u Q I r h
  exact wpAny_assign_Name (store_ok I hN hi hx r (fun s' I' => ⟨_, H, I', h⟩) hf)
def gNil : TGs := fun vs σ H Q => vs = [] ∧ Q σ H
def gCons (t : TG) (u : TGs) : TGs := fun vs σ H Q => ∃ v r, vs = v :: r ∧ t v σ H fun σ' H' => u r σ' H' Q
theorem pgs_nil : PGs X [] gNil := by
  intro pins s σ H vs us Q I r h
  obtain ⟨e, h⟩ := h
  subst e
  cases r
  exact assignInOrder_nil ⟨σ, H, I, h⟩
theorem pgs_cons {e : Expr} {es : List Expr} {t : TG} {u : TGs} (h1 : PG X e t) (h2 : PGs X es u)
    (hs : (assignEach (e :: es) X.env).map (·.2) = assign e X.env :: (assignEach es X.env).map (·.2) := by rfl) : PGs X (e :: es) (gCons t u) := by
  intro pins s σ H vs us Q I r h
  obtain ⟨v, vr, e1, h⟩ := h
  subst e1
  cases r with
  | cons r rr =>
    rw [hs]
    refine assignInOrder_cons (thn (h1 pins s σ H _ _ _ I r h) fun _ s1 ⟨σ1, H1, I1, q1⟩ => ?_)
    exact h2 pins s1 σ1 H1 _ _ Q I1 rr q1
def gTup (K : PySem.W.Frag) (n : Nat) (t : TGs) : TG := fun v σ H Q => ∃ a xs, v = .ref a ∧ SqT K H a xs ∧ xs.length = n ∧ t xs σ H Q
theorem pg_tup {es : List Expr} {k : Nat} {t : TGs} {n : Nat} (hc : X.calm = true) (h : PGs X es t)
    (hn : (assignEach es X.env).length = n := by rfl) (hst : (assignEach es X.env).findIdx? (·.1) = none := by rfl) : PG X (.Tuple es k pos) (gTup X.K n t) := by
  intro pins s σ H v u Q I r hw
  obtain ⟨a, xs, e1, hq, hl, hw⟩ := hw
  subst e1
  cases r
  obtain ⟨its, rv, ht, hz⟩ := I.tuple hq
  refine assign_Tuple_tuple (I.ok.hd hc) ht (by simp [hn, ← hl, rv.length]) hst fun h' hx => ?_
  have I1 : Inv X pins σ H { s with heap := h' } := I.kept (t' := s.toks) fun b o e => hx b o (Nat.ne_of_lt (Heap.lt_size e)) e
  exact h pins _ σ H xs _ Q I1 (by simpa using rv) hw
def gSub (to ti : TE) (t : TSet) : TG := fun v σ H Q => to σ H fun o H1 => ti σ H1 fun i H2 => t o i v H2 fun H3 => Q σ H3
theorem pg_sub {o i : Expr} {to ti : TE} {t : TSet} (ho : PE X o to) (hi : PE X i ti) (hs : PSet X t)
    (ha : ∀ v, assign (.Subscript o i pos) X.env v = (do
      let ov ← holding [v] (eval o X.env)
      let iv ← holding [v, ov] (eval i X.env)
      standAt pos
      holding [v, ov, iv] (setItem ov iv v)
      release [v, ov, iv] []) := by intro _; rfl) : PG X (.Subscript o i pos) (gSub to ti t) := by
  intro pins s σ H v u Q I r h
  rw [ha]
  refine wpAny_bind (wpAny_holding (thn (ho pins s σ H _ I h) fun ov s1 ⟨x, H1, I1, r1, q1⟩ => ?_))
  refine wpAny_bind (wpAny_holding (thn (hi pins s1 σ H1 _ I1 q1) fun iv s2 ⟨y, H2, I2, r2, q2⟩ => ?_))
  refine wpAny_bind (wpAny_standAt (wpAny_bind (wpAny_holding (thn (hs pins s2 σ H2 x y v ov iv u _ I2 r1 r2 r q2) fun _ s3 ⟨H3, I3, q3⟩ => ?_))))
  exact wpAny_release ⟨σ, H3, I3, q3⟩
def tAsg (te : TE) (g : TG) : TS := fun D σ H => te σ H fun x H1 => g x σ H1 D.nx
theorem ps_asg {tg e : Expr} {te : TE} {g : TG} (he : PE X e te) (hg : PG X tg g) (hs : swapsWithSole [tg] e pos.line X.env = pure false := by rfl) (hw : swappedStores [tg] e X.env = pure none := by rfl)
    (h1 : (assignEach [tg] X.env).map (·.2) = [assign tg X.env] := by rfl) : PS X (.Assign [tg] e pos) (tAsg te g) := by
  intro pins s σ H D I h
  refine wpAny_Assign_stores (thn (he pins s σ H _ I h) fun v s1 ⟨x, H1, I1, r1, q1⟩ => ?_) hs hw
  rw [h1]
  exact thn (hg pins s1 σ H1 x v _ I1 r1 q1) fun _ s2 q => q
theorem ps_set {i : Nat} {x : Str} {e : Expr} {te : TE} {pos' : Pos} (hN : X.N.Nodup) (hi : X.N[i]? = some x) (hx : Loc X.env.scope x) (he : PE X e te) (hs : swapsWith e (some (.Name x pos')) pos.line X.env = pure false := by rfl) (hf : X.fn x = true ∨ X.env.scope.names.lookup x = some .local := by first | exact .inl rfl | exact .inr rfl | assumption) :
    PS X (.Assign [.Name x pos'] e pos) (tAsg te (gName i)) := by
  intro pins s σ H D I h
  refine wpAny_Assign_Name (thn (he pins s σ H _ I h) fun v s1 ⟨y, H1, I1, r1, q1⟩ => ?_) hs
  exact store_ok I1 hN hi hx r1 (fun s2 I2 => ⟨_, H1, I2, q1⟩) hf
def tPar (i j : Nat) (ta : TA) : TS := fun D σ H => ta σ H fun vs H1 => ∃ v w, vs = [v, w] ∧ D.nx ((σ.set i (some v)).set j (some w)) H1
def tAug (i : Nat) (te : TE) (ti : TIp) : TS := fun D σ H => ∃ x, σ[i]? = some (some x) ∧ te σ H fun y H1 => ti x y H1 fun z H2 => D.nx (σ.set i (some z)) H2
theorem ps_aug {i : Nat} {x : Str} {e : Expr} {te : TE} {op : Operator} {ti : TIp} {pos' : Pos} (hN : X.N.Nodup) (hi : X.N[i]? = some x) (hx : Loc X.env.scope x) (he : PE X e te) (ho : PIp X op ti) (hf : X.fn x = true ∨ X.env.scope.names.lookup x = some .local := by first | exact .inl rfl | exact .inr rfl | assumption) :
    PS X (.AugAssign (.Name x pos') op e pos) (tAug i te ti) := by
  intro pins s σ H D I h
  obtain ⟨v, e1, h⟩ := h
  obtain ⟨m, hn, hl⟩ := I.loc
  have vis : Vis X.env.scope x := by rcases hx with k | k; exact .inl k; exact .inr (.inl k)
  obtain ⟨u, r, l⟩ := hl i x v hi e1 vis
  refine wpAny_AugAssign_Name ?_
  have go : wpAny (model X.prog X.w) X.A (eval e X.env) (fun w s₂ => wpAny (model X.prog X.w) X.A (inplaceOp op u w) (fun r s₃ => wpAny (model X.prog X.w) X.A (storeName X.env x r) (fun _ => SP X pins D .next) X.xe s₃) X.xe s₂) X.xe s := by
    refine thn (he pins s σ H _ I h) fun w s1 ⟨y, H1, I1, r1, q1⟩ => ?_
    refine thn (ho pins s1 σ H1 v y u w _ I1 r r1 q1) fun z s2 ⟨zv, H2, I2, r2, q2⟩ => ?_
    exact store_ok I2 hN hi hx r2 (fun s3 I3 => ⟨_, H2, I3, q2⟩) hf
  rcases l with ⟨hk, hm⟩ | ⟨hk, c, hc, hcell⟩
  · exact wpAny_loadName_local I.ok.kind hk hn hm go
  · rcases hk with hk | hk
    · exact wpAny_loadName_cell I.ok.kind hk hc hcell go
    · rcases hx with k | k
      · have : X.env.scope.names.lookup x = some .free := hk
        rw [k] at this; cases this
      · have : X.env.scope.names.lookup x = some .free := hk
        rw [k] at this; cases this
def tAugS (to ti te : TE) (tget : V → V → Hp → VK → Prop) (tip : TIp) (tset : TSet) : TS := fun D σ H => to σ H fun o H1 => ti σ H1 fun i H2 => tget o i H2 fun x H3 => te σ H3 fun y H4 => tip x y H4 fun z H5 => tset o i z H5 fun H6 => D.nx σ H6
def PGet (X : Cx) (t : V → V → Hp → VK → Prop) : Prop :=
  ∀ (pins : List (Addr × Obj)) (s : Shared) (σ : St) (H : Hp) (o i : V) (ov iv : Value) (Q : VK), Inv X pins σ H s → RelV o ov → RelV i iv → t o i H Q →
    wpAny (model X.prog X.w) X.A (getItem ov iv) (EP X pins σ Q) X.xe s
def ipI (f : Int → Int → Int) : TIp := fun x y H Q => ∃ i j, x = .int i ∧ y = .int j ∧ Q (.int (f i j)) H
theorem ip_add : PIp X .Add (ipI fun i j => i + j) := by
  intro pins s σ H x y v u Q I r1 r2 h
  obtain ⟨i, j, e1, e2, q⟩ := h
  subst e1; subst e2
  obtain ⟨t, rfl⟩ := r1
  obtain ⟨t', rfl⟩ := r2
  exact iadd_int ⟨.int _, H, I.tok _, ⟨_, rfl⟩, q⟩
end
section
variable {X : Cx} {pos : Pos}
def tWhile (c : TT) (tb : TS) : TS := fun D σ H => ∃ W : Nat → St → Hp → Prop, (∃ m, W m σ H) ∧ ∀ m σ H, W m σ H →
  c σ H fun b H1 => if b = true then ∃ N : St → Hp → Prop, (∀ σ' H', N σ' H' → ∃ m', m' < m ∧ W m' σ' H') ∧ tb { D with nx := N, ct := N, bk := D.nx } σ H1 else D.nx σ H1
theorem ps_while {c : Expr} {body : List Stmt} {tc : TT} {tb : TS} (hp : PassesOwn (model X.prog X.w) X.A X.env X.xe) (hc : PT X c tc) (hb : PSs X body tb) : PS X (.While c body [] pos) (tWhile tc tb) := by
  intro pins s σ H D I h
  obtain ⟨W, ⟨m0, w0⟩, turn⟩ := h
  refine wpAny_While (codeAny_whileLoop (fun n s' => ∃ σ' H', Inv X pins σ' H' s' ∧ W n σ' H') ?_ m0 ⟨σ, H, I, w0⟩)
  rintro n s1 ⟨σ1, H1, I1, w1⟩
  refine wpAny_passesOwn hp (thn (hc pins s1 σ1 H1 _ I1 (turn n σ1 H1 w1)) fun b s2 ⟨H2, I2, q2⟩ => ?_)
  cases b with
  | true =>
    obtain ⟨N, hN, q2⟩ := q2
    rw [if_pos rfl]
    refine wpAny_passesOwn hp (thn (hb pins s2 σ1 H2 _ I2 q2) fun f s3 q3 => ?_)
    cases f with
    | next =>
      obtain ⟨σ3, H3, I3, n3⟩ := q3
      obtain ⟨m', hm, w3⟩ := hN σ3 H3 n3
      exact ⟨m', hm, σ3, H3, I3, w3⟩
    | cont =>
      obtain ⟨σ3, H3, I3, n3⟩ := q3
      obtain ⟨m', hm, w3⟩ := hN σ3 H3 n3
      exact ⟨m', hm, σ3, H3, I3, w3⟩
    | brk => exact q3
    | ret v => exact q3
  | false =>
    rw [if_neg Bool.false_ne_true]
    exact wpAny_execs_nil ⟨σ1, H2, I2, q2⟩
end
structure It where
  go : Nat → Hp → Prop
  yld : Nat → Hp → V → Hp → Prop
  stop : Nat → Hp → Prop
def FpOk (X : Cx) (pins : List (Addr × Obj)) (H : Hp) (b : Addr) : Prop :=
  H b = none ∧ b ≠ X.env.locals ∧ b ∉ X.fs ∧ (b ∈ X.ex ∨ X.s₀.heap.objs.size ≤ b) ∧ (∀ x c, X.env.cells.lookup x = some c → c ≠ b) ∧ ∀ p ∈ X.pn ++ pins, p.1 ≠ b
theorem Inv.fpOk {X : Cx} {pins : List (Addr × Obj)} {σ : St} {H H' : Hp} {s : Shared} {b : Addr} (I : Inv X pins σ H s) (hb : s.heap.objs.size ≤ b) (hn : H' b = none) : FpOk X pins H' b := by
  refine ⟨hn, Nat.ne_of_gt (Nat.lt_of_lt_of_le I.lt hb), I.nofs hb, .inr (Nat.le_trans I.sz hb), fun x c e z => ?_, fun p hp z => ?_⟩
  · obtain ⟨v, q⟩ := I.cell x c e
    exact absurd (Nat.lt_of_lt_of_le q.lt (by rw [z]; exact hb)) (Nat.lt_irrefl _)
  · exact absurd (Nat.lt_of_lt_of_le (Heap.lt_size (I.pin p hp).1) (by rw [z]; exact hb)) (Nat.lt_irrefl _)
structure Turn (P : Program) (w : World) (K : PySem.W.Frag) (tg : Expr) (J : It) (fp : List Addr) (it : Addr) (tn : Nat → Heap → Prop) : Prop where
  mem : it ∈ fp
  obj : ∀ i h, tn i h → ∀ b ∈ fp, ∃ o, h.get? b = some o ∧ ∀ v, o.data ≠ .cell v
  keep : ∀ i h h', tn i h → (∀ b ∈ fp, ∀ o, h.get? b = some o → h'.get? b = some o) → tn i h'
  item : ∀ (X : Cx), X.prog = P → X.w = w → X.K = K → X.calm = true → ∀ (i : Nat) (pins : List (Addr × Obj)) (s : Shared) (σ : St) (H : Hp) (E : Value → Shared → Prop), Inv X pins σ H s → (∀ b ∈ fp, FpOk X pins H b) → tn i s.heap → J.go i H →
    wpAny (model P w) X.A (pyNext (.ref it)) (fun r s1 => ∃ u, r = some u ∧
      wpAny (model P w) X.A (letOwnedTupleGo tg (.ref it) u) (fun _ s2 => ∃ x H', Inv X pins σ H' s2 ∧ RelV x u ∧ J.yld i H x H' ∧ tn (i + 1) s2.heap ∧ ∀ b ∈ fp, H' b = none) E s1) E s
  done : ∀ (X : Cx), X.prog = P → X.w = w → X.K = K → X.calm = true → ∀ (i : Nat) (pins : List (Addr × Obj)) (s : Shared) (σ : St) (H : Hp) (E : Value → Shared → Prop), Inv X pins σ H s → (∀ b ∈ fp, FpOk X pins H b) → tn i s.heap → J.stop i H →
    wpAny (model P w) X.A (pyNext (.ref it)) (fun r s1 => r = none ∧ Inv X pins σ H s1) E s
  self : ∀ (A : Around) (i : Nat) (s : Shared) (Q : Value → Shared → Prop) (E : Value → Shared → Prop), tn i s.heap → Q (.ref it) s → wpAny (model P w) A (pyIter (.ref it)) Q E s
abbrev TI := St → Hp → (It → Hp → Prop) → Prop
def PIE (X : Cx) (pins : List (Addr × Obj)) (σ : St) (tg : Expr) (R : It → Hp → Prop) (itv : Value) (s2 : Shared) : Prop :=
  ∃ (it : Addr) (fp : List Addr) (tn : Nat → Heap → Prop) (J : It) (H' : Hp), itv = .ref it ∧ Inv X pins σ H' s2 ∧ Turn X.prog X.w X.K tg J fp it tn ∧ tn 0 s2.heap ∧ (∀ b ∈ fp, FpOk X pins H' b) ∧ R J H'
def PI (X : Cx) (tg iter : Expr) (wi : TI) : Prop :=
  ∀ (pins : List (Addr × Obj)) (s : Shared) (σ : St) (H : Hp) (R : It → Hp → Prop), Inv X pins σ H s → wi σ H R →
    wpAny (model X.prog X.w) X.A (eval iter X.env) (fun v s1 => wpAny (model X.prog X.w) X.A (pyIter v) (PIE X pins σ tg R) X.xe s1) X.xe s
theorem go_of {M : Model} {A : Around} {E : Value → Shared → Prop} {s : Shared} {tg : Expr} {it : Addr} {u : Value} {o : Obj} {n : String} {vs : Array Value} {Q : Unit → Shared → Prop} (ho : s.heap.get? it = some o) (hc : o.cls = .type n) (hd : o.data = .fields vs)
    (hn : ["enumerate", "zip", "dict_itemiterator", "dict_reverseitemiterator", "odict_iterator", "itertools.zip_longest", "itertools.pairwise"].contains n = false) (hQ : Q () s) : wpAny M A (letOwnedTupleGo tg (.ref it) u) Q E s := by
  unfold letOwnedTupleGo
  cases tg <;> first
    | exact wpAny_pure hQ
    | (cases u <;> first
        | exact wpAny_pure hQ
        | (refine wpAny_bind (wpAny_load ho ?_)
           rw [hc, hd]
           show wpAny M A (if (["enumerate", "zip", "dict_itemiterator", "dict_reverseitemiterator", "odict_iterator", "itertools.zip_longest", "itertools.pairwise"].contains n && vs[0]? == some (rawInt _)) = true then _ else _) Q E s
           rw [if_neg (by intro h; rw [hn, Bool.false_and] at h; cases h)]
           exact wpAny_pure hQ))
def Itl (K : PySem.W.Frag) (a : Addr) : It :=
  ⟨fun i H => ∃ xs x, SqL K H a xs ∧ xs[i]? = some x, fun i H x H' => H' = H ∧ ∀ xs, SqL K H a xs → xs[i]? = some x, fun i H => ∃ xs, SqL K H a xs ∧ xs.length ≤ i⟩
def Itt (K : PySem.W.Frag) (a : Addr) : It :=
  ⟨fun i H => ∃ xs x, SqT K H a xs ∧ xs[i]? = some x, fun i H x H' => H' = H ∧ ∀ xs, SqT K H a xs → xs[i]? = some x, fun i H => ∃ xs, SqT K H a xs ∧ xs.length ≤ i⟩
def Itr (lo : Int) (n : Nat) : It := ⟨fun i _ => i < n, fun i H x H' => H' = H ∧ x = .int (lo + i), fun i _ => n ≤ i⟩
theorem turn_list {P : Program} {w : World} {K : PySem.W.Frag} {tg : Expr} (a it : Addr) : Turn P w K tg (Itl K a) [it] it (fun i h => h.IsListIter it a i) where
  mem := by simp
  obj := fun i h st b hb => by
    have e : b = it := by simpa using hb
    subst e
    obtain ⟨o, e, c, d⟩ := st
    exact ⟨o, e, fun v z => by rw [d] at z; cases z⟩
  keep := fun i h h' st k => st.at fun o e => k it (by simp) o e
  item := by
    intro X hP hw hK hc i pins s σ H E I hf st hg
    subst hP hw hK
    obtain ⟨xs, x, hq, hx⟩ := hg
    obtain ⟨its, rv, p, hz⟩ := I.list hq
    obtain ⟨u, hu, ru⟩ := rv.get hx
    obtain ⟨f0, f1, f2, f3, f4, f5⟩ := hf it (by simp)
    refine wpAny_pyNext_list_item st p.isList (x := u) (by simpa using hu) fun h' st' sb => ?_
    have I1 : Inv X pins σ H { s with heap := h' } := I.turned (t' := s.toks) (fun b o hb e => (sb.2 b hb).trans e) f0 f1 f3 f4 f5
    obtain ⟨o, e, c, d⟩ := id st'
    exact ⟨u, rfl, go_of (s := { s with heap := h' }) e c d (by decide) ⟨x, H, I1, ru, ⟨rfl, fun ys hy => by rw [I.list_inj hy hq]; exact hx⟩, st', fun b hb => (hf b hb).1⟩⟩
  done := by
    intro X hP hw hK hc i pins s σ H E I hf st hg
    subst hP hw hK
    obtain ⟨xs, hq, hx⟩ := hg
    obtain ⟨its, rv, p, hz⟩ := I.list hq
    obtain ⟨f0, f1, f2, f3, f4, f5⟩ := hf it (by simp)
    have hl := rv.length
    exact wpAny_pyNext_list_end (I.ok.hd hc) st p.isList (by simp; omega) fun h' eb => ⟨rfl, I.turned (t' := s.toks) (fun b o hb e => eb b o hb e) f0 f1 f3 f4 f5⟩
  self := fun _ _ _ _ _ st h => wpAny_pyIter_listiter st h
theorem turn_range {P : Program} {w : World} {K : PySem.W.Frag} {tg : Expr} (it : Addr) (lo : Int) (n : Nat) : Turn P w K tg (Itr lo n) [it] it (fun i h => IsRangeIter h it (lo + (i : Nat) * 1) ((n : Int) - (i : Nat)) 1) where
  mem := by simp
  obj := fun i h st b hb => by
    have e : b = it := by simpa using hb
    subst e
    exact ⟨_, st, fun v z => by
      have z' : Data.fields _ = Data.cell v := z
      cases z'⟩
  keep := fun i h h' st k => k it (by simp) _ st
  item := by
    intro X hP hw hK hc i pins s σ H E I hf st hg
    subst hP hw hK
    obtain ⟨f0, f1, f2, f3, f4, f5⟩ := hf it (by simp)
    have W := Walks.range (prog := X.prog) (w := X.w) (I.ok.hd hc) it lo 1 n
    refine W.item i s _ _ hg st fun v h' tk hv st' kk => ?_
    obtain ⟨t, rfl⟩ := hv
    have I1 : Inv X pins σ H { s with heap := h', toks := tk } := I.turned (fun b o hb e => kk b o (by simpa using hb) e) f0 f1 f3 f4 f5
    refine ⟨_, rfl, go_of (s := { s with heap := h', toks := tk }) (n := "range_iterator") st' rfl rfl (by decide) ⟨.int (lo + i), H, I1, ⟨t, ?_⟩, ⟨rfl, rfl⟩, st', fun b hb => (hf b hb).1⟩⟩
    rw [Int.mul_one]
  done := by
    intro X hP hw hK hc i pins s σ H E I hf st hg
    subst hP hw hK
    obtain ⟨f0, f1, f2, f3, f4, f5⟩ := hf it (by simp)
    exact wpAny_pyNext_range_end (I.ok.hd hc) st (by have : n ≤ i := hg; omega) fun h' eb => ⟨rfl, I.turned (t' := s.toks) (fun b o hb e => eb b o hb e) f0 f1 f3 f4 f5⟩
  self := fun _ _ _ _ _ st h => wpAny_pyIter_rangeiter st h
end L2
namespace L2
open PySem PySem.Spec PyProof.Rows
section
variable {X : Cx} {tg : Expr}
def iList (K : PySem.W.Frag) (tl : TE) : TI := fun σ H R => tl σ H fun x H1 => ∃ a, x = .ref a ∧ (∃ xs, SqL K H1 a xs) ∧ R (Itl K a) H1
def iTup (K : PySem.W.Frag) (tl : TE) : TI := fun σ H R => tl σ H fun x H1 => ∃ a, x = .ref a ∧ (∃ xs, SqT K H1 a xs) ∧ R (Itt K a) H1
theorem pi_list {l : Expr} {tl : TE} (hl : PE X l tl) : PI X tg l (iList X.K tl) := by
  intro pins s σ H R I h
  refine thn (hl pins s σ H _ I h) fun v s1 ⟨x, H1, I1, r1, q1⟩ => ?_
  obtain ⟨a, e, ⟨xs, hq⟩, q⟩ := q1
  subst e
  cases r1
  obtain ⟨its, rv, p, hz⟩ := I1.list hq
  refine wpAny_pyIter_list p.isList ?_
  refine ⟨s1.heap.objs.size, [s1.heap.objs.size], _, _, H1, rfl, I1.kept (t' := s1.toks) fun b o e => Heap.get?_push_of_some _ e, turn_list a _, ⟨_, Heap.get?_push_size _ rfl, rfl, rfl⟩, fun b hb => ?_, q⟩
  have e : b = s1.heap.objs.size := by simpa using hb
  subst e
  exact I1.fpOk (Nat.le_refl _) (I1.hok.fresh (Nat.le_refl _))
theorem range_it {pins : List (Addr × Obj)} {σ : St} {H : Hp} {s : Shared} {R : It → Hp → Prop} {E : Value → Shared → Prop} {lo hi : Int} {t u v : Tok} {tk : Nat} (I : Inv X pins σ H s) (h1 : -(2 ^ 62) ≤ lo) (h2 : lo < 2 ^ 62) (h3 : -(2 ^ 62) ≤ hi) (h4 : hi < 2 ^ 62)
    (q : R (Itr lo (hi - lo).toNat) H) : wpAny (model X.prog X.w) X.A (pyIter (.ref s.heap.objs.size)) (PIE X pins σ tg R) E { s with heap := s.heap.push { cls := .type "range", data := .fields #[.int lo t, .int hi u, .int 1 v] }, toks := tk } := by
  refine wpAny_pyIter_range (IsRange.new ..) (small_one h1 h2 h3 h4) ?_
  have I1 : Inv X pins σ H { s with heap := s.heap.push { cls := .type "range", data := .fields #[.int lo t, .int hi u, .int 1 v] }, toks := tk } := I.kept fun b o e => Heap.get?_push_of_some _ e
  refine ⟨(s.heap.push { cls := .type "range", data := .fields #[.int lo t, .int hi u, .int 1 v] }).objs.size, [(s.heap.push { cls := .type "range", data := .fields #[.int lo t, .int hi u, .int 1 v] }).objs.size], _, _, H, rfl,
    I1.kept (t' := tk) fun b o e => Heap.get?_push_of_some _ e, turn_range _ lo (hi - lo).toNat, ?_, fun b hb => ?_, q⟩
  · have e1 : lo + ((0 : Nat) : Int) * 1 = lo := by simp
    have e2 : (((hi - lo).toNat : Nat) : Int) - ((0 : Nat) : Int) = Builtin.Range.rangeSize lo hi 1 := by rw [rangeSize_one]; split <;> omega
    show IsRangeIter _ _ (lo + ((0 : Nat) : Int) * 1) ((((hi - lo).toNat : Nat) : Int) - ((0 : Nat) : Int)) 1
    rw [e1, e2]
    exact Heap.get?_push_size _ rfl
  · have e : b = (s.heap.push { cls := .type "range", data := .fields #[.int lo t, .int hi u, .int 1 v] }).objs.size := by simpa using hb
    subst e
    exact I1.fpOk (Nat.le_refl _) (I1.hok.fresh (Nat.le_refl _))
def iRng1 (ta : TA) : TI := fun σ H R => ta σ H fun vs H1 => ∃ j : Int, vs = [.int j] ∧ -(2 ^ 62) ≤ j ∧ j < 2 ^ 62 ∧ R (Itr 0 j.toNat) H1
def iRng2 (ta : TA) : TI := fun σ H R => ta σ H fun vs H1 => ∃ i j : Int, vs = [.int i, .int j] ∧ (-(2 ^ 62) ≤ i ∧ i < 2 ^ 62 ∧ -(2 ^ 62) ≤ j ∧ j < 2 ^ 62) ∧ R (Itr i (j - i).toNat) H1
theorem pi_range1 {a : Expr} {ta : TA} {p pos : Pos} (hg : Gl X "range") (hm : X.mg "range" = none) (ha : PA X [a] ta) (hs : starEach [a] X.env = [(false, eval a X.env)] := by rfl) : PI X tg (.Call (.Name "range" p) [a] [] pos) (iRng1 ta) := by
  intro pins s σ H R I h
  refine Call_ (ld_blt I hg hm boot_range (PyProof.Rows.callWith_type1 (thn (ha pos pins s σ H _ I h) fun us s1 ⟨vs, H1, I1, r1, q1⟩ => ?_) hs rfl))
  obtain ⟨j, e, q1, q2, q⟩ := q1
  subst e
  cases r1 with
  | cons r rr =>
    cases rr
    obtain ⟨t, rfl⟩ := r
    exact call_range_1 (range_it I1 (by omega) (by omega) q1 q2 (by simpa using q))
def tFor (wi : TI) (g : TG) (tb : TS) : TS := fun D σ H => wi σ H fun J H1 => ∃ W : Nat → Nat → St → Hp → Prop, (∃ m, W 0 m σ H1) ∧ ∀ i m σ H, W i m σ H →
  (J.stop i H ∧ D.nx σ H) ∨ (J.go i H ∧ ∃ N : St → Hp → Prop, (∀ σ' H', N σ' H' → ∃ m', m' < m ∧ W (i + 1) m' σ' H') ∧ ∀ x H', J.yld i H x H' → g x σ H' fun σ2 H2 => tb { D with nx := N, ct := N, bk := D.nx } σ2 H2)
def pinsAt (fp : List Addr) (h : Heap) : List (Addr × Obj) := fp.filterMap fun b => (h.get? b).map fun o => (b, o)
theorem mem_pinsAt {fp : List Addr} {h : Heap} {b : Addr} {o : Obj} (hb : b ∈ fp) (e : h.get? b = some o) : (b, o) ∈ pinsAt fp h := List.mem_filterMap.mpr ⟨b, hb, by rw [e]; rfl⟩
theorem of_pinsAt {fp : List Addr} {h : Heap} {p : Addr × Obj} (hp : p ∈ pinsAt fp h) : p.1 ∈ fp ∧ h.get? p.1 = some p.2 := by
  obtain ⟨b, hb, e⟩ := List.mem_filterMap.mp hp
  cases q : h.get? b with
  | none => rw [q] at e; cases e
  | some o =>
    rw [q] at e
    have e' : (b, o) = p := Option.some.inj e
    subst e'
    exact ⟨hb, q⟩
theorem Inv.pinned {pins : List (Addr × Obj)} {σ : St} {H : Hp} {s : Shared} {fp : List Addr} (I : Inv X pins σ H s) (hf : ∀ b ∈ fp, FpOk X pins H b) (ho : ∀ b ∈ fp, ∃ o, s.heap.get? b = some o ∧ ∀ v, o.data ≠ .cell v) : Inv X (pins ++ pinsAt fp s.heap) σ H s :=
  I.pins_of fun p hp => (List.mem_append.mp hp).elim (fun z => I.pin p (List.mem_append_right _ z)) fun z => by
    obtain ⟨hb, e⟩ := of_pinsAt z
    obtain ⟨f0, f1, f2, _⟩ := hf p.1 hb
    obtain ⟨o, e', d⟩ := ho p.1 hb
    rw [e] at e'; cases e'
    exact ⟨e, f0, f1, f2, d⟩
theorem Inv.unpinned {pins pl : List (Addr × Obj)} {σ : St} {H : Hp} {s : Shared} (I : Inv X (pins ++ pl) σ H s) : Inv X pins σ H s := I.pins_of fun p hp => I.pin p (List.mem_append_right _ (List.mem_append_left _ hp))
theorem ps_for {iter : Expr} {body : List Stmt} {wi : TI} {g : TG} {tb : TS} {pos : Pos} (hp : PassesOwn (model X.prog X.w) X.A X.env X.xe) (hc : X.calm = true) (hi : PI X tg iter wi) (hg : PG X tg g) (hb : PSs X body tb)
    (hs : ∀ x, foldedSetIterable iter X.env x = pure x := by intro _; rfl) : PS X (.For tg iter body [] pos) (tFor wi g tb) := by
  intro pins s σ H D I h
  refine wpAny_For (thn (hi pins s σ H _ I h) fun v s1 h1 => thn h1 fun itv s2 h2 => ?_) hs
  obtain ⟨it, fp, tn, J, H2, e, I2, T, st2, f2, W, ⟨m0, w0⟩, turn⟩ := h2
  subst e
  -- what stays true of the iterator's objects through the loop
  have stat : ∀ {H' : Hp}, (∀ b ∈ fp, H' b = none) → ∀ b ∈ fp, FpOk X pins H' b := fun hn b hb => ⟨hn b hb, (f2 b hb).2⟩
  refine codeAny_forLoop_any (fun n s' => ∃ i σ' H', Inv X pins σ' H' s' ∧ tn i s'.heap ∧ (∀ b ∈ fp, H' b = none) ∧ W i n σ' H') ?_ m0 ⟨0, σ, H2, I2, st2, fun b hb => (f2 b hb).1, w0⟩
  rintro n s3 ⟨i, σ3, H3, I3, st3, fr3, w3⟩
  rcases turn i n σ3 H3 w3 with ⟨stop, qn⟩ | ⟨go, N, hN, step⟩
  · refine wpAny_passesOwn hp (thn (T.done X rfl rfl rfl hc i pins s3 σ3 H3 X.xe I3 (stat fr3) st3 stop) fun r s4 ⟨hr, I4⟩ => ?_)
    subst hr
    exact wpAny_execs_nil ⟨σ3, H3, I4, qn⟩
  · refine wpAny_passesOwn hp (thn (T.item X rfl rfl rfl hc i pins s3 σ3 H3 X.xe I3 (stat fr3) st3 go) fun r s4 ⟨u, hr, h4⟩ => ?_)
    subst hr
    refine wpAny_passesOwn hp (thn h4 fun _ s5 ⟨x, H5, I5, r5, y5, st5, fr5⟩ => ?_)
    have I5' := I5.pinned (stat fr5) (T.obj _ _ st5)
    refine wpAny_passesOwn hp (thn (hg _ s5 σ3 H5 x u _ I5' r5 (step x H5 y5)) fun _ s6 ⟨σ6, H6, I6, q6⟩ => ?_)
    refine wpAny_passesOwn hp (thn (hb _ s6 σ6 H6 _ I6 q6) fun f s7 q7 => ?_)
    have again : ∀ {σ7 : St} {H7 : Hp}, Inv X (pins ++ pinsAt fp s5.heap) σ7 H7 s7 → N σ7 H7 → ∃ m, m < n ∧ ∃ i σ' H', Inv X pins σ' H' s7 ∧ tn i s7.heap ∧ (∀ b ∈ fp, H' b = none) ∧ W i m σ' H' := fun {σ7 H7} I7 n7 => by
      obtain ⟨m', hm, w7⟩ := hN σ7 H7 n7
      refine ⟨m', hm, i + 1, σ7, H7, I7.unpinned, T.keep _ _ _ st5 fun b hb o e => (I7.pin (b, o) (List.mem_append_right _ (List.mem_append_right _ (mem_pinsAt hb e)))).1, fun b hb => ?_, w7⟩
      obtain ⟨o, e, d⟩ := T.obj _ _ st5 b hb
      exact (I7.pin (b, o) (List.mem_append_right _ (List.mem_append_right _ (mem_pinsAt hb e)))).2.1
    cases f with
    | next => obtain ⟨σ7, H7, I7, n7⟩ := q7; exact again I7 n7
    | cont => obtain ⟨σ7, H7, I7, n7⟩ := q7; exact again I7 n7
    | brk => obtain ⟨σ7, H7, I7, q7⟩ := q7; exact ⟨σ7, H7, I7.unpinned, q7⟩
    | ret v => obtain ⟨x7, σ7, H7, I7, r7, q7⟩ := q7; exact ⟨x7, σ7, H7, I7.unpinned, r7, q7⟩
end
theorem for_range {lo : Int} {n : Nat} {g : TG} {tb : TS} {D : Ends} {σ : St} {H : Hp} (Pv : Nat → St → Hp → Prop) (h0 : Pv 0 σ H)
    (hs : ∀ i σ H, i < n → Pv i σ H → g (.int (lo + i)) σ H fun σ2 H2 => tb { D with nx := Pv (i + 1), ct := Pv (i + 1), bk := D.nx } σ2 H2) (hd : ∀ σ H, Pv n σ H → D.nx σ H) :
    ∃ W : Nat → Nat → St → Hp → Prop, (∃ m, W 0 m σ H) ∧ ∀ i m σ H, W i m σ H →
      ((Itr lo n).stop i H ∧ D.nx σ H) ∨ ((Itr lo n).go i H ∧ ∃ N : St → Hp → Prop, (∀ σ' H', N σ' H' → ∃ m', m' < m ∧ W (i + 1) m' σ' H') ∧ ∀ x H', (Itr lo n).yld i H x H' → g x σ H' fun σ2 H2 => tb { D with nx := N, ct := N, bk := D.nx } σ2 H2) := by
  refine ⟨fun i m σ H => m = n - i ∧ i ≤ n ∧ Pv i σ H, ⟨n, by simp, Nat.zero_le _, h0⟩, ?_⟩
  rintro i m σ H ⟨rfl, hi, p⟩
  by_cases hlt : i < n
  · refine .inr ⟨hlt, Pv (i + 1), fun σ' H' p' => ⟨n - (i + 1), by omega, rfl, hlt, p'⟩, fun x H' y => ?_⟩
    obtain ⟨e, y⟩ := y
    subst e y
    exact hs i σ _ hlt p
  · have e : i = n := by omega
    subst e
    exact .inl ⟨Nat.le_refl _, hd σ H p⟩
end L2
namespace L2
open PySem PySem.Spec PyProof.Rows
abbrev R2 := V → V → Hp → VK → Prop
def OpR (X : Cx) (f : Value → Value → Sem Value) (r : R2) : Prop :=
  ∀ (pins : List (Addr × Obj)) (s : Shared) (σ : St) (H : Hp) (x y : V) (v u : Value) (Q : VK), Inv X pins σ H s → RelV x v → RelV y u → r x y H Q →
    wpAny (model X.prog X.w) X.A (f v u) (EP X pins σ Q) X.xe s
def UnR (X : Cx) (f : Value → Sem Value) (r : V → Hp → VK → Prop) : Prop :=
  ∀ (pins : List (Addr × Obj)) (s : Shared) (σ : St) (H : Hp) (x : V) (v : Value) (Q : VK), Inv X pins σ H s → RelV x v → r x H Q →
    wpAny (model X.prog X.w) X.A (f v) (EP X pins σ Q) X.xe s
def CallR (X : Cx) (f : Value) (r : List V → Hp → VK → Prop) : Prop :=
  ∀ (pins : List (Addr × Obj)) (s : Shared) (σ : St) (H : Hp) (xs : List V) (us : List Value) (Q : VK), Inv X pins σ H s → Vals xs us → r xs H Q →
    wpAny (model X.prog X.w) X.A (call f us) (EP X pins σ Q) X.xe s
def TruR (X : Cx) (r : V → Hp → (Bool → Hp → Prop) → Prop) : Prop :=
  ∀ (pins : List (Addr × Obj)) (s : Shared) (σ : St) (H : Hp) (x : V) (v : Value) (Q : Bool → Hp → Prop), Inv X pins σ H s → RelV x v → r x H Q →
    wpAny (model X.prog X.w) X.A (truthy v) (TP X pins σ Q) X.xe s
def tOp (r : R2) (ta tb : TE) : TE := fun σ H Q => ta σ H fun x H1 => tb σ H1 fun y H2 => r x y H2 Q
def tUn (r : V → Hp → VK → Prop) (ta : TE) : TE := fun σ H Q => ta σ H fun x H1 => r x H1 Q
def rI (C : Int → Int → Prop) (g : Int → Int → V) : R2 := fun x y H Q => ∃ i j, x = .int i ∧ y = .int j ∧ C i j ∧ Q (g i j) H
def rI0 (g : Int → Int → V) : R2 := fun x y H Q => ∃ i j, x = .int i ∧ y = .int j ∧ Q (g i j) H
def rU (g : Int → V) : V → Hp → VK → Prop := fun x H Q => ∃ i, x = .int i ∧ Q (g i) H
section
variable {X : Cx} {a b c : Expr} {ta tb tc : TE} {pos : Pos}
theorem binT (ha : PE X a ta) (hb : PE X b tb) {pins : List (Addr × Obj)} {s : Shared} {σ : St} {H : Hp} {R : V → V → Hp → Prop} (I : Inv X pins σ H s)
    (h : ta σ H fun x H1 => tb σ H1 fun y H2 => R x y H2) {Q : Value → Shared → Prop} {f : Value → Value → Sem Value}
    (hf : ∀ v u s2 x y H2, Inv X pins σ H2 s2 → RelV x v → RelV y u → R x y H2 → wpAny (model X.prog X.w) X.A (f v u) Q X.xe s2) :
    wpAny (model X.prog X.w) X.A (eval a X.env) (fun v s₁ => wpAny (model X.prog X.w) X.A (eval b X.env) (fun u s₂ => wpAny (model X.prog X.w) X.A (f v u) Q X.xe s₂) X.xe s₁) X.xe s := by
  refine thn (ha pins s σ H _ I h) fun v s1 ⟨x, H1, I1, r1, q1⟩ => ?_
  refine thn (hb pins s1 σ H1 _ I1 q1) fun u s2 ⟨y, H2, I2, r2, q2⟩ => ?_
  exact hf v u s2 x y H2 I2 r1 r2 q2
theorem pe_op {op : Operator} {r : R2} (ho : OpR X (binaryOp op) r) (ha : PE X a ta) (hb : PE X b tb) : PE X (.BinOp a op b pos) (tOp r ta tb) := by
  intro pins s σ H Q I h
  exact wpAny_BinOp (binT ha hb I h fun v u s2 x y H2 I2 rx ry q => ho pins s2 σ H2 x y v u Q I2 rx ry q)
theorem pe_un {op : UnaryOp} {r : V → Hp → VK → Prop} (ho : UnR X (unaryOp op) r) (ha : PE X a ta) : PE X (.UnaryOp op a pos) (tUn r ta) := by
  intro pins s σ H Q I h
  exact UnaryOp_ (thn (ha pins s σ H _ I h) fun v s1 ⟨x, H1, I1, r1, q1⟩ => ho pins s1 σ H1 x v Q I1 r1 q1)
theorem opI {f : Value → Value → Sem Value} {C : Int → Int → Prop} {g : Int → Int → Int}
    (rule : ∀ (i j : Int) (t u : Tok) (s : Shared) (Q : Value → Shared → Prop) (E : Value → Shared → Prop), C i j → Q (.int (g i j) s.toks) { s with toks := s.toks + 1 } → wpAny (model X.prog X.w) X.A (f (.int i t) (.int j u)) Q E s) :
    OpR X f (rI C fun i j => .int (g i j)) := by
  intro pins s σ H x y v u Q I rx ry h
  obtain ⟨i, j, rfl, rfl, hc, q⟩ := h
  obtain ⟨t, rfl⟩ := rx
  obtain ⟨t', rfl⟩ := ry
  exact rule i j t t' s _ _ hc ⟨.int (g i j), H, I.tok _, ⟨_, rfl⟩, q⟩
theorem opI0 {f : Value → Value → Sem Value} {g : Int → Int → Int}
    (rule : ∀ (i j : Int) (t u : Tok) (s : Shared) (Q : Value → Shared → Prop) (E : Value → Shared → Prop), Q (.int (g i j) s.toks) { s with toks := s.toks + 1 } → wpAny (model X.prog X.w) X.A (f (.int i t) (.int j u)) Q E s) :
    OpR X f (rI0 fun i j => .int (g i j)) := by
  intro pins s σ H x y v u Q I rx ry h
  obtain ⟨i, j, rfl, rfl, q⟩ := h
  obtain ⟨t, rfl⟩ := rx
  obtain ⟨t', rfl⟩ := ry
  exact rule i j t t' s _ _ ⟨.int (g i j), H, I.tok _, ⟨_, rfl⟩, q⟩
theorem opB0 {f : Value → Value → Sem Value} {g : Int → Int → Bool}
    (rule : ∀ (i j : Int) (t u : Tok) (s : Shared) (Q : Value → Shared → Prop) (E : Value → Shared → Prop), Q (.bool (g i j)) s → wpAny (model X.prog X.w) X.A (f (.int i t) (.int j u)) Q E s) :
    OpR X f (rI0 fun i j => .bl (g i j)) := by
  intro pins s σ H x y v u Q I rx ry h
  obtain ⟨i, j, rfl, rfl, q⟩ := h
  obtain ⟨t, rfl⟩ := rx
  obtain ⟨t', rfl⟩ := ry
  exact rule i j t t' s _ _ ⟨.bl (g i j), H, I, rfl, q⟩
def CDiv (i j : Int) : Prop := 0 < j ∧ j < 1073741824
def CDivN (i j : Int) : Prop := j ≠ 0 ∧ j.natAbs < 1073741824
def CPow (i j : Int) : Prop := 0 ≤ j ∧ j ≤ 1000000 ∧ i.natAbs < 2 ^ 64
def CMul (i j : Int) : Prop := (-(2 ^ 64) < i ∧ i < 2 ^ 64) ∨ (-(2 ^ 64) < j ∧ j < 2 ^ 64)
theorem CMul.ok {i j : Int} (h : CMul i j) : IntMulOk i j := by
  rcases h with ⟨h1, h2⟩ | ⟨h1, h2⟩
  · exact .of_left (intBits_le_64 h1 h2)
  · exact .of_right (intBits_le_64 h1 h2)
theorem op_add : OpR X (binaryOp .Add) (rI0 fun i j => .int (i + j)) := opI0 fun _ _ _ _ _ _ _ q => add_int q
theorem op_sub : OpR X (binaryOp .Sub) (rI0 fun i j => .int (i - j)) := opI0 fun _ _ _ _ _ _ _ q => sub_int q
theorem op_mul : OpR X (binaryOp .Mult) (rI CMul fun i j => .int (i * j)) := opI fun _ _ _ _ _ _ _ hc q => mul_int q hc.ok
theorem op_fdiv : OpR X (binaryOp .FloorDiv) (rI CDiv fun i j => .int (i / j)) := opI fun i j _ _ _ _ _ hc q => by
  have h1 : (0 : Int) < j := hc.1
  have h2 : j < 1073741824 := hc.2
  exact floordiv_int (by omega) (by rw [Int.fdiv_eq_ediv_of_nonneg i (by omega)]; exact q) (.inl (PyProof.noPylong_small (by omega)))
theorem op_mod : OpR X (binaryOp .Mod) (rI (fun _ j => 0 < j) fun i j => .int (i % j)) := opI fun i j _ _ _ _ _ hc q => by
  have h1 : (0 : Int) < j := hc
  exact mod_int' (by omega) (by rw [Int.fmod_eq_emod_of_nonneg i (by omega)]; exact q)
theorem op_modN : OpR X (binaryOp .Mod) (rI (fun _ j => j ≠ 0) fun i j => .int (i.fmod j)) := opI fun _ _ _ _ _ _ _ hc q => mod_int' hc q
theorem op_pow : OpR X (binaryOp .Pow) (rI CPow fun i j => .int (i ^ j.toNat)) := opI fun _ _ _ _ _ _ _ hc q => pow_int_small hc.1 hc.2.1 hc.2.2 q
theorem unI {f : Value → Sem Value} {g : Int → Int}
    (rule : ∀ (i : Int) (t : Tok) (s : Shared) (Q : Value → Shared → Prop) (E : Value → Shared → Prop), Q (.int (g i) s.toks) { s with toks := s.toks + 1 } → wpAny (model X.prog X.w) X.A (f (.int i t)) Q E s) :
    UnR X f (rU fun i => .int (g i)) := by
  intro pins s σ H x v Q I rx h
  obtain ⟨i, rfl, q⟩ := h
  obtain ⟨t, rfl⟩ := rx
  exact rule i t s _ _ ⟨.int (g i), H, I.tok _, ⟨_, rfl⟩, q⟩
theorem un_neg : UnR X (unaryOp .USub) (rU fun i => .int (-i)) := unI fun _ _ _ _ _ q => neg_int q
end
def scal : V → V → Bool
  | .non, .non => true | .non, .int _ => true | .int _, .non => true | .non, .bl _ => true | .bl _, .non => true | .non, .str _ => true | .str _, .non => true
  | .int _, .int _ => true | .bl _, .bl _ => true | .str _, .str _ => true | .byt _, .byt _ => true
  | .int _, .str _ => true | .str _, .int _ => true | .bl _, .str _ => true | .str _, .bl _ => true
  | _, _ => false
def rEq : R2 := fun x y H Q => scal x y = true ∧ Q (.bl (decide (x = y))) H
def rNe : R2 := fun x y H Q => scal x y = true ∧ Q (.bl (!decide (x = y))) H
theorem dec_int {i j : Int} : decide (V.int i = V.int j) = (i == j) := by
  rw [Bool.eq_iff_iff]
  simp
theorem dec_bl {i j : Bool} : decide (V.bl i = V.bl j) = (i == j) := by
  rw [Bool.eq_iff_iff]
  simp
theorem dec_str {i j : Str} : decide (V.str i = V.str j) = (i == j) := by
  rw [Bool.eq_iff_iff]
  simp
theorem dec_byt {i j : Array UInt8} : decide (V.byt i = V.byt j) = (i.toList == j.toList) := by
  rw [Bool.eq_iff_iff]
  cases i
  cases j
  simp
section
variable {X : Cx} {a b c : Expr} {ta tb tc : TE} {pos : Pos}
theorem fin_bl {pins : List (Addr × Obj)} {σ : St} {H : Hp} {s : Shared} {Q : VK} {k k' : Bool} (I : Inv X pins σ H s) (q : Q (.bl k) H) (e : k = k') : EP X pins σ Q (.bool k') s := by
  subst e
  exact ⟨.bl k, H, I, rfl, q⟩
theorem op_eq : OpR X (compareOp .Eq) rEq := by
  intro pins s σ H x y v u Q I rx ry h
  obtain ⟨hs, q⟩ := h
  cases x with
  | non =>
    cases rx
    cases y with
    | non => cases ry; exact PySem.EqNone.eq_none_none (fin_bl I q (by simp))
    | bl j => cases ry; exact PySem.EqNone.eq_none_bool (fin_bl I q (by simp))
    | int j => obtain ⟨t', rfl⟩ := ry; exact PySem.EqNone.eq_none_int (fin_bl I q (by simp))
    | str j => obtain ⟨t', rfl⟩ := ry; exact PySem.EqNone.eq_none_str (fin_bl I q (by simp))
    | _ => exact absurd (show false = true from hs) Bool.false_ne_true
  | bl i =>
    cases rx
    cases y with
    | non => cases ry; exact PySem.EqNone.eq_bool_none (fin_bl I q (by simp))
    | bl j => cases ry; exact eq_bool (fin_bl I q dec_bl)
    | str j => obtain ⟨t', rfl⟩ := ry; exact PySem.EqMixed.eq_bool_str (fin_bl I q (by simp))
    | _ => exact absurd (show false = true from hs) Bool.false_ne_true
  | int i =>
    obtain ⟨t, rfl⟩ := rx
    cases y with
    | non => cases ry; exact PySem.EqNone.eq_int_none (fin_bl I q (by simp))
    | int j => obtain ⟨t', rfl⟩ := ry; exact eq_int (fin_bl I q dec_int)
    | str j => obtain ⟨t', rfl⟩ := ry; exact PySem.EqMixed.eq_int_str (fin_bl I q (by simp))
    | _ => exact absurd (show false = true from hs) Bool.false_ne_true
  | str i =>
    obtain ⟨t, rfl⟩ := rx
    cases y with
    | non => cases ry; exact PySem.EqNone.eq_str_none (fin_bl I q (by simp))
    | bl j => cases ry; exact PySem.EqMixed.eq_str_bool (fin_bl I q (by simp))
    | int j => obtain ⟨t', rfl⟩ := ry; exact PySem.EqMixed.eq_str_int (fin_bl I q (by simp))
    | str j => obtain ⟨t', rfl⟩ := ry; exact eq_str (fin_bl I q dec_str)
    | _ => exact absurd (show false = true from hs) Bool.false_ne_true
  | byt i =>
    obtain ⟨t, rfl⟩ := rx
    cases y with
    | byt j => obtain ⟨t', rfl⟩ := ry; exact PySem.W.eq_bytes (fin_bl I q dec_byt)
    | _ => exact absurd (show false = true from hs) Bool.false_ne_true
  | _ => cases y <;> exact absurd (show false = true from hs) Bool.false_ne_true
theorem op_ne : OpR X (compareOp .NotEq) rNe := by
  intro pins s σ H x y v u Q I rx ry h
  obtain ⟨hs, q⟩ := h
  cases x with
  | non =>
    cases rx
    cases y with
    | non => cases ry; exact PySem.EqNone.ne_none_none (fin_bl I q (by simp))
    | bl j => cases ry; exact PySem.EqNone.ne_none_bool (fin_bl I q (by simp))
    | int j => obtain ⟨t', rfl⟩ := ry; exact PySem.EqNone.ne_none_int (fin_bl I q (by simp))
    | str j => obtain ⟨t', rfl⟩ := ry; exact PySem.EqNone.ne_none_str (fin_bl I q (by simp))
    | _ => exact absurd (show false = true from hs) Bool.false_ne_true
  | bl i =>
    cases rx
    cases y with
    | non => cases ry; exact PySem.EqNone.ne_bool_none (fin_bl I q (by simp))
    | bl j => cases ry; exact ne_bool (fin_bl I q (congrArg not dec_bl))
    | str j => obtain ⟨t', rfl⟩ := ry; exact PySem.EqMixed.ne_bool_str (fin_bl I q (by simp))
    | _ => exact absurd (show false = true from hs) Bool.false_ne_true
  | int i =>
    obtain ⟨t, rfl⟩ := rx
    cases y with
    | non => cases ry; exact PySem.EqNone.ne_int_none (fin_bl I q (by simp))
    | int j => obtain ⟨t', rfl⟩ := ry; exact ne_int (fin_bl I q (congrArg not dec_int))
    | str j => obtain ⟨t', rfl⟩ := ry; exact PySem.EqMixed.ne_int_str (fin_bl I q (by simp))
    | _ => exact absurd (show false = true from hs) Bool.false_ne_true
  | str i =>
    obtain ⟨t, rfl⟩ := rx
    cases y with
    | non => cases ry; exact PySem.EqNone.ne_str_none (fin_bl I q (by simp))
    | bl j => cases ry; exact PySem.EqMixed.ne_str_bool (fin_bl I q (by simp))
    | int j => obtain ⟨t', rfl⟩ := ry; exact PySem.EqMixed.ne_str_int (fin_bl I q (by simp))
    | str j => obtain ⟨t', rfl⟩ := ry; exact ne_str (fin_bl I q (congrArg not dec_str))
    | _ => exact absurd (show false = true from hs) Bool.false_ne_true
  | byt i =>
    obtain ⟨t, rfl⟩ := rx
    cases y with
    | byt j => obtain ⟨t', rfl⟩ := ry; exact PySem.W.ne_bytes (fin_bl I q (congrArg not dec_byt))
    | _ => exact absurd (show false = true from hs) Bool.false_ne_true
  | _ => cases y <;> exact absurd (show false = true from hs) Bool.false_ne_true
theorem op_lt : OpR X (compareOp .Lt) (rI0 fun i j => .bl (decide (i < j))) := opB0 fun _ _ _ _ _ _ _ q => lt_int q
theorem op_le : OpR X (compareOp .LtE) (rI0 fun i j => .bl (decide (i ≤ j))) := opB0 fun _ _ _ _ _ _ _ q => le_int q
theorem op_gt : OpR X (compareOp .Gt) (rI0 fun i j => .bl (decide (j < i))) := opB0 fun _ _ _ _ _ _ _ q => gt_int q
def isObj : HO → Bool
  | .lst _ => true
  | .ins _ _ _ => true
  | _ => false
theorem nomark (b : Expr) {op : CmpOp} (h : op ≠ .In := by decide) (h2 : op ≠ .NotIn := by decide) : behindInMarks op b = false := by
  have e1 : (op == CmpOp.In) = false := by cases op <;> first | rfl | exact absurd rfl h
  have e2 : (op == CmpOp.NotIn) = false := by cases op <;> first | rfl | exact absurd rfl h2
  cases b <;> simp [behindInMarks, e1, e2]
theorem pe_cmpR {op : CmpOp} {r : R2} (ho : OpR X (compareOp op) r) (ha : PE X a ta) (hb : PE X b tb) (hm : behindInMarks op b = false) : PE X (.Compare a [op] [b] pos) (tOp r ta tb) := by
  intro pins s σ H Q I h
  exact wpAny_Compare1 (binT ha hb I h fun v u s2 x y H2 I2 rx ry q => ho pins s2 σ H2 x y v u Q I2 rx ry q) hm
def tTest (t : TE) : TT := fun σ H Q => t σ H fun x H' => ∃ k, x = .bl k ∧ Q k H'
theorem pt_cmpR {op : CmpOp} {r : R2} (ho : OpR X (compareOp op) r) (ha : PE X a ta) (hb : PE X b tb) (hm : behindInMarks op b = false) : PT X (.Compare a [op] [b] pos) (tTest (tOp r ta tb)) := by
  intro pins s σ H Q I h
  refine wpAny_isTrue_Compare1 (thn (ha pins s σ H _ I h) fun v s1 ⟨x, H1, I1, r1, q1⟩ => thn (hb pins s1 σ H1 _ I1 q1) fun u s2 ⟨y, H2, I2, r2, q2⟩ =>
    thn (ho pins s2 σ H2 x y v u _ I2 r1 r2 q2) fun c s3 ⟨z, H3, I3, r3, k, e, q3⟩ => ?_) hm
  subst e
  cases r3
  exact wpAny_truthy_bool ⟨H3, I3, q3⟩
def tChain (r r' : R2) (ta tb tc : TE) : TE := fun σ H Q => ta σ H fun x H1 => tb σ H1 fun y H2 => r x y H2 fun z H3 => ∃ k, z = .bl k ∧
  (if k = true then tc σ H3 fun w' H4 => r' y w' H4 Q else Q (.bl false) H3)
def TruV (K : PySem.W.Frag) (x : V) (H : Hp) (k : Bool) : Prop :=
  match x with
  | .non => k = false
  | .bl b => k = b
  | .int i => k = (i != 0)
  | .str y => y.length ≤ sizeLine ∧ k = ((y.length : Int) != 0)
  | .byt y => y.size ≤ sizeLine ∧ k = ((y.size : Int) != 0)
  | .ref p => (∃ xs, SqL K H p xs ∧ k = !xs.isEmpty) ∨ (∃ xs, SqT K H p xs ∧ k = !xs.isEmpty) ∨ ∃ kvs, H p = some (.dK kvs) ∧ k = !kvs.isEmpty
  | _ => False
theorem line63 : (sizeLine : Nat) < 2 ^ 63 := by rw [sizeLine_eq]; decide
theorem op_add_str : OpR X (binaryOp .Add) (fun x y H Q => ∃ i j, x = .str i ∧ y = .str j ∧ i.length + j.length ≤ sizeLine ∧ Q (.str (i ++ j)) H) := by
  intro pins s σ H x y v u Q I rx ry h
  obtain ⟨i, j, rfl, rfl, hz, q⟩ := h
  obtain ⟨t, rfl⟩ := rx
  obtain ⟨t', rfl⟩ := ry
  exact add_str (fun t' tk => ⟨.str (i ++ j), H, I.tok _, ⟨_, rfl⟩, q⟩) hz
theorem iop_add_str : OpR X (inplaceOp .Add) (fun x y H Q => ∃ i j, x = .str i ∧ y = .str j ∧ i.length + j.length ≤ sizeLine ∧ Q (.str (i ++ j)) H) := by
  intro pins s σ H x y v u Q I rx ry h
  obtain ⟨i, j, rfl, rfl, hz, q⟩ := h
  obtain ⟨t, rfl⟩ := rx
  obtain ⟨t', rfl⟩ := ry
  exact iadd_str (fun t' tk => ⟨.str (i ++ j), H, I.tok _, ⟨_, rfl⟩, q⟩) hz
def PlainIxT (b : Expr) : Prop := ∀ o i, subscripted b false o i = operate [o, i] (getItem o i)
theorem vals1 {x : V} {us : List Value} (r : Vals [x] us) : ∃ u, us = [u] ∧ RelV x u := by
  cases r with
  | cons r1 r2 => cases r2; exact ⟨_, rfl, r1⟩
theorem call_abs : CallR X (.builtin "abs") (fun xs H Q => ∃ i, xs = [.int i] ∧ Q (.int (if i < 0 then -i else i)) H) := by
  intro pins s σ H xs us Q I r h
  obtain ⟨i, rfl, q⟩ := h
  obtain ⟨u, rfl, t, rfl⟩ := vals1 r
  exact call_abs_int fun u tk => ⟨.int (if i < 0 then -i else i), H, I.tok _, ⟨_, rfl⟩, q⟩
theorem call_str_int : CallR X (.type "str") (fun xs H Q => ∃ i, xs = [.int i] ∧ i.natAbs.log2 < 1920 ∧ Q (.str (toString i)) H) := by
  intro pins s σ H xs us Q I r h
  obtain ⟨i, rfl, hz, q⟩ := h
  obtain ⟨u, rfl, t, rfl⟩ := vals1 r
  exact PySem.P.str_of_int hz ⟨.str _, H, I.tok _, ⟨_, rfl⟩, q⟩
def LenV (K : PySem.W.Frag) (x : V) (H : Hp) (n : Nat) : Prop :=
  match x with
  | .str y => y.length ≤ sizeLine ∧ n = y.length
  | .byt y => y.size ≤ sizeLine ∧ n = y.size
  | .ref p => (∃ xs, SqL K H p xs ∧ n = xs.length) ∨ ∃ xs, SqT K H p xs ∧ n = xs.length
  | _ => False
end
end L2
namespace L2
open PySem PySem.Spec PyProof.Rows
structure ObjM (h : Heap) (x dx C : Addr) (mA : Str → Option Value) : Prop where
  obj : h.get? x = some (PySem.W.instObj C dx)
  ns : h.Ns1 dx mA
  ne : dx ≠ x
theorem lookIn_ns {h : Heap} {dx : Addr} {mA : Str → Option Value} (n : h.Ns1 dx mA) : ∃ od, h.get? dx = some od ∧ ∀ name, PySem.W.lookIn name od = some (mA name) := by
  obtain ⟨o, es, ep, ho, hd, hk, _, hm⟩ := n
  refine ⟨o, ho, fun name => ?_⟩
  have e := hm name
  unfold nsFind findBy at e
  rw [← Array.find?_toList] at e
  unfold PySem.W.lookIn
  rw [hd]
  dsimp only
  split
  · rename_i y q
    rw [q] at e
    exact congrArg some e
  · rename_i q
    rw [q] at e
    have a : es.toList.any (·.refKey) = false := by
      rw [List.any_eq_false]
      intro y hy
      obtain ⟨z, t, hkey⟩ := hk y (Array.mem_toList_iff.mp hy)
      simp [DictEntry.refKey, hkey]
    have a' : ¬ es.toList.any (·.refKey) = true := by rw [a]; exact Bool.false_ne_true
    rw [if_neg a']
    exact congrArg some e
theorem ObjM.look {h : Heap} {x dx C : Addr} {mA : Str → Option Value} (I : ObjM h x dx C mA) : ∃ od, PySem.W.InstAt h x (PySem.W.instObj C dx) C (some od) ∧ ∀ name, PySem.W.lookIn name od = some (mA name) :=
  let ⟨od, ho, hl⟩ := lookIn_ns I.ns
  ⟨od, ⟨I.obj, rfl, rfl, ho⟩, hl⟩
section
variable {prog : Program} {w : World} {A : Around} {E : Value → Shared → Prop} {s : Shared} {K : PySem.W.Frag} {x dx C f : Addr} {mA : Str → Option Value} {name : Str} {v : Value}
theorem get_map {expr : Bool} {Q : Value → Shared → Prop} (X : K.In s.heap) (I : ObjM s.heap x dx C mA) (hg : PySem.W.plainGet K C name = true) (hh : PySem.W.hasDictIn K C = true)
    (ha : PySem.W.findIn K (.ref C) name = some none) (hv : mA name = some v) (hv' : PySem.W.handedIn v = true) (h : Q v { s with toks := s.toks + 1 }) :
    wpAny (model prog w) A (getAttr (.ref x) name expr) Q E s := by
  obtain ⟨od, J, hl⟩ := I.look
  exact PySem.W.get_value X J (PySem.W.plainGet_of hg).1 (PySem.W.findObj_own hh ha rfl (by rw [hl, hv])) hv' h
theorem get_meth {pl : Sem Bool} {Q : Value × List Value → Shared → Prop} (X : K.In s.heap) (I : ObjM s.heap x dx C mA) (hg : PySem.W.plainGet K C name = true)
    (hf : PySem.W.findIn K (.ref C) name = some (some (.ref f))) (ht : PySem.W.isFn K (.ref f) = true) (hv : mA name = none) (h : Q (.ref f, [.ref x]) s) :
    wpAny (model prog w) A (getMethod (.ref x) name pl) Q E s := by
  obtain ⟨od, J, hl⟩ := I.look
  exact PySem.W.method_fn X J (PySem.W.plainGet_of hg).1 (PySem.W.plainGet_of hg).2 hf (beq_iff_eq.mp ht) (by show (PySem.W.lookIn name od).map (·.isSome) = some false; rw [hl, hv]; rfl) h
theorem set_map {ns : List Str} {Q : Unit → Shared → Prop} (X : K.In s.heap) (I : ObjM s.heap x dx C mA)
    (hs : PySem.W.findIn K (.ref C) "__setattr__" = some (some (.builtin "object.__setattr__"))) (hp : PySem.W.plainOver K C = true) (ht : PySem.W.takerIn K C name = some none) (hh : PySem.W.hasDictIn K C = true)
    (hw : PySem.Within mA ns) (hsz : ns.length ≤ sizeLine)
    (h : ∀ h', ObjM h' x dx C (fun y => if y = name then some v else mA y) → Heap.SameBut dx s.heap h' → Q () { s with heap := h', toks := s.toks + 2 }) :
    wpAny (model prog w) A (setAttr (.ref x) name v) Q E s := by
  obtain ⟨od, J, hl⟩ := I.look
  refine PySem.W.set_plain X J hs (PySem.W.osa_open (s := { s with toks := s.toks + 1 }) (r := none) X J hp ht fun b => ?_)
  obtain ⟨cd, hc, hd'⟩ := PySem.W.any_some hh
  have hx : s.heap.get? x = some ⟨.ref C, some dx, .plain, #[]⟩ := I.obj
  refine wpAny_bind (wpAny_pure (wpAny_bind (wpAny_bind (wpAny_loadPart hx (wpAny_bind (PySem.W.Looks.here (s := { s with toks := s.toks + 1 }) (PySem.W.looks_clsIn X hc) ?_))))))
  rw [hd']
  refine wpAny_pure (a := some dx) (wpAny_bind (wpAny_pure (wpAny_bind ?_)))
  refine wpAny_nsSet1 (s := { s with toks := s.toks + 1 }) I.ns fun h' hn2 hs2 => ?_
  obtain ⟨oD, esD, epD, hoD, hdD, hcD⟩ := hn2.count (PySem.Within.cons name v hw)
  refine wpAny_bind (wpAny_lookBehind hoD (by rw [hdD]; exact pastItsLine_dict (Nat.le_trans hcD (by rw [List.length_cons]; omega))) ?_)
  exact wpAny_pure (h _ ⟨(hs2.2 _ (Ne.symm I.ne)).trans I.obj, hn2, I.ne⟩ hs2)
theorem make_map {R : Result → Shared → Prop} {vs : List Value} {kw : List (Str × Value)} (X : K.In s.heap) (hm : PySem.W.makesIn K C = true)
    (hi : PySem.W.findIn K (.ref C) "__init__" = some (some (.ref f))) (hf : PySem.W.typeIn K (.ref f) = some (.type "function"))
    (h : codeAny (model prog w) (A.under (.builtin "type.__call__" ⟨.ref C :: vs, kw⟩)) (.call (.ref f) ⟨.ref (s.heap.objs.size + 1) :: vs, kw⟩) (PySem.W.InitBack (s.heap.objs.size + 1) R)
      { s with heap := (s.heap.push PySem.W.emptyDict).push (PySem.W.instObj C s.heap.objs.size) }) :
    codeAny (model prog w) A (.call (.ref C) ⟨vs, kw⟩) R s := by
  obtain ⟨hh, g, d, t, os⟩ := s
  exact PySem.W.make_core (PySem.W.makes_of X hm) (PySem.W.looks_findIn X hi) (fun self => PySem.W.bind_fn X self hf) (.inl rfl) h
theorem make_map0 {R : Result → Shared → Prop} (X : K.In s.heap) (hm : PySem.W.makesIn K C = true)
    (hi : PySem.W.findIn K (.ref C) "__init__" = some (some (.builtin "object.__init__")))
    (hb : ∀ self, PySem.W.Looks (model prog w) s.heap (bindSpecial (.builtin "object.__init__") self) (.builtin "object.__init__", [self]))
    (h : codeAny (model prog w) (A.under (.builtin "type.__call__" ⟨[.ref C], []⟩)) (.call (.builtin "object.__init__") ⟨[.ref (s.heap.objs.size + 1)], []⟩) (PySem.W.InitBack (s.heap.objs.size + 1) R)
      { s with heap := (s.heap.push PySem.W.emptyDict).push (PySem.W.instObj C s.heap.objs.size) }) :
    codeAny (model prog w) A (.call (.ref C) ⟨[], []⟩) R s := by
  obtain ⟨hh, g, d, t, os⟩ := s
  exact PySem.W.make_core (PySem.W.makes_of X hm) (PySem.W.looks_findIn X hi) hb (.inr ⟨rfl, rfl⟩) h
end
def putF (f : Str) (v : V) : List (Str × V) → List (Str × V)
  | [] => [(f, v)]
  | (g, x) :: r => if g = f then (g, v) :: r else (g, x) :: putF f v r
theorem lookup_putF (f g : Str) (v : V) : ∀ fs : List (Str × V), (putF f v fs).lookup g = if g = f then some v else fs.lookup g
  | [] => by
    show List.lookup g [(f, v)] = _
    by_cases h : g = f
    · have hb : (g == f) = true := beq_iff_eq.mpr h
      simp only [List.lookup, hb, if_pos h]
    · have hb : (g == f) = false := beq_eq_false_iff_ne.mpr h
      simp only [List.lookup, hb, if_neg h]
  | (k, x) :: r => by
    have ih := lookup_putF f g v r
    rw [show putF f v ((k, x) :: r) = (if k = f then (k, v) :: r else (k, x) :: putF f v r) from rfl]
    by_cases hk : k = f
    · rw [if_pos hk]
      by_cases h : g = k
      · have hb : (g == k) = true := beq_iff_eq.mpr h
        simp only [List.lookup, hb, if_pos (h.trans hk)]
      · have hb : (g == k) = false := beq_eq_false_iff_ne.mpr h
        simp only [List.lookup, hb, if_neg (fun e : g = f => h (e.trans hk.symm))]
    · rw [if_neg hk]
      by_cases h : g = k
      · have hb : (g == k) = true := beq_iff_eq.mpr h
        simp only [List.lookup, hb, if_neg (fun e : g = f => hk (h.symm.trans e))]
      · have hb : (g == k) = false := beq_eq_false_iff_ne.mpr h
        simp only [List.lookup, hb]
        exact ih
theorem keys_putF (f : Str) (v : V) : ∀ fs : List (Str × V), f ∈ (putF f v fs).map (·.1) ∧ ∀ g, g ∈ fs.map (·.1) → g ∈ (putF f v fs).map (·.1)
  | [] => ⟨by simp [putF], fun g h => by simp at h⟩
  | (k, x) :: r => by
    obtain ⟨i1, i2⟩ := keys_putF f v r
    rw [show putF f v ((k, x) :: r) = (if k = f then (k, v) :: r else (k, x) :: putF f v r) from rfl]
    by_cases hk : k = f
    · rw [if_pos hk]
      subst hk
      exact ⟨by simp, fun g h => by simpa using h⟩
    · rw [if_neg hk]
      refine ⟨?_, fun g h => ?_⟩
      · rw [List.map_cons]
        exact List.mem_cons_of_mem _ i1
      · rw [List.map_cons] at h ⊢
        rcases List.mem_cons.mp h with e | e
        · exact List.mem_cons.mpr (.inl e)
        · exact List.mem_cons_of_mem _ (i2 g e)
theorem length_putF (f : Str) (v : V) : ∀ fs : List (Str × V), (putF f v fs).length ≤ fs.length + 1
  | [] => by simp [putF]
  | (k, x) :: r => by
    have ih := length_putF f v r
    rw [show putF f v ((k, x) :: r) = (if k = f then (k, v) :: r else (k, x) :: putF f v r) from rfl]
    by_cases hk : k = f
    · rw [if_pos hk, List.length_cons, List.length_cons]; omega
    · rw [if_neg hk, List.length_cons, List.length_cons]; omega
theorem RelO.some_of {v : V} {o : Option Value} (r : RelO (some v) o) : ∃ u, o = some u ∧ RelV v u := by
  cases o with
  | none => exact (show False from r).elim
  | some u => exact ⟨u, rfl, r⟩
theorem RelO.none_of {o : Option Value} (r : RelO none o) : o = none := by
  cases o with
  | none => rfl
  | some u => exact (show False from r).elim
theorem handed_of {v : V} {u : Value} (r : RelV v u) : PySem.W.handedIn u = true := by
  cases v with
  | non => cases (show u = Value.none from r); rfl
  | bl b => cases (show u = Value.bool b from r); rfl
  | int i => obtain ⟨t, e⟩ := (show ∃ t, u = Value.int i t from r); cases e; rfl
  | str x => obtain ⟨t, e⟩ := (show ∃ t, u = Value.str x t from r); cases e; rfl
  | byt b => obtain ⟨t, e⟩ := (show ∃ t, u = Value.bytes b t from r); cases e; rfl
  | flt b => obtain ⟨t, e⟩ := (show ∃ t, u = Value.float b t from r); cases e; rfl
  | ref a => cases (show u = Value.ref a from r); rfl
  | ty n => cases (show u = Value.type n from r); rfl
section
variable {P : Program} {w : World} {H H' : Hp} {h h' : Heap} {a C dx : Addr} {fs fs' : List (Str × V)}
theorem ins_get (hok : HOk P w H h) (e : H a = some (.ins C dx fs)) : ∃ mA, ObjM h a dx C mA ∧ (∀ f, RelO (fs.lookup f) (mA f)) ∧ PySem.Within mA (fs.map (·.1)) ∧ fs.length ≤ 1000 ∧ H dx = some (.own a) := by
  obtain ⟨d, z, ne, ob, mA, n, r, q⟩ := (show ObjOk P w H h a (.ins C dx fs) from hok a _ e)
  exact ⟨mA, ⟨ob, n, ne⟩, r, q, z, d⟩
end
structure Cls (K : PySem.W.Frag) (C : Addr) : Prop where
  pg : PySem.W.plainGet K C Str.empty = true
  hd : PySem.W.hasDictIn K C = true
  po : PySem.W.plainOver K C = true
  sa : PySem.W.findIn K (.ref C) "__setattr__" = some (some (.builtin "object.__setattr__"))
theorem Cls.get {K : PySem.W.Frag} {C : Addr} (c : Cls K C) (f : Str) : PySem.W.plainGet K C f = true := c.pg
def NoAttr (K : PySem.W.Frag) (C : Addr) (f : Str) : Prop := PySem.W.findIn K (.ref C) f = some none
theorem NoAttr.taker {K : PySem.W.Frag} {C : Addr} {f : Str} (n : NoAttr K C f) : PySem.W.takerIn K C f = some none := by
  unfold PySem.W.takerIn
  rw [show PySem.W.findIn K (.ref C) f = some none from n]
  rfl
structure Con (K : PySem.W.Frag) (C : Addr) (f : Str) (v : V) (u : Value) : Prop where
  at_ : PySem.W.findIn K (.ref C) f = some (some u)
  rel : RelV v u
  get : PySem.W.specialIn K u "__get__" = some none
  cp : PySem.W.copiedNames.contains f = false
structure Meth (K : PySem.W.Frag) (C : Addr) (m : Str) (f : Addr) : Prop where
  at_ : PySem.W.findIn K (.ref C) m = some (some (.ref f))
  fn : PySem.W.isFn K (.ref f) = true
  kp : PySem.W.keepIn K (.ref f) = true
section
variable {X : Cx} {pins : List (Addr × Obj)} {σ : St} {H : Hp} {s : Shared} {a C dx : Addr} {fs : List (Str × V)} {f : Str} {v : V} {A : Around} {E : Value → Shared → Prop}
theorem getattr_ok {b : Bool} {Q : Value → Shared → Prop} (I : Inv X pins σ H s) (e : H a = some (.ins C dx fs)) (c : Cls X.K C) (n : NoAttr X.K C f) (l : fs.lookup f = some v)
    (h : ∀ u s', Inv X pins σ H s' → RelV v u → Q u s') : wpAny (model X.prog X.w) A (getAttr (.ref a) f b) Q E s := by
  obtain ⟨mA, O, r, _, _, _⟩ := ins_get I.hok e
  obtain ⟨u, hu, ru⟩ := RelO.some_of (v := v) (o := mA f) (by rw [← l]; exact r f)
  exact get_map I.kIn O (c.get f) c.hd n hu (handed_of ru) (h u _ (I.tok _) ru)
theorem getmeth_ok {m : Str} {g : Addr} {pl : Sem Bool} {Q : Value × List Value → Shared → Prop} (I : Inv X pins σ H s) (e : H a = some (.ins C dx fs)) (c : Cls X.K C) (k : Meth X.K C m g) (l : fs.lookup m = none)
    (h : Q (.ref g, [.ref a]) s) : wpAny (model X.prog X.w) A (getMethod (.ref a) m pl) Q E s := by
  obtain ⟨mA, O, r, _, _, _⟩ := ins_get I.hok e
  have hn : mA m = none := RelO.none_of (by rw [← l]; exact r m)
  exact get_meth I.kIn O (c.get m) k.at_ k.fn hn h
theorem setattr_ok {y : V} {u : Value} {Q : Unit → Shared → Prop} (I : Inv X pins σ H s) (e : H a = some (.ins C dx fs)) (c : Cls X.K C) (n : NoAttr X.K C f) (hl : fs.length < 1000) (ry : RelV y u)
    (h : ∀ s', Inv X pins σ (upd H a (.ins C dx (putF f y fs))) s' → Q () s') : wpAny (model X.prog X.w) A (setAttr (.ref a) f u) Q E s := by
  obtain ⟨mA, O, r, wi, _, ho⟩ := ins_get I.hok e
  have hz : (fs.map (·.1)).length ≤ sizeLine := by rw [List.length_map, sizeLine_eq]; omega
  refine set_map I.kIn O c.sa c.po n.taker c.hd wi hz fun h' O' sb => h _ ?_
  have hd : ∃ o, h'.get? dx = some o := let ⟨o, _, _, e', _⟩ := O'.ns; ⟨o, e'⟩
  refine I.write (x := a) (e := dx) (by rw [e]; exact True.intro) (.inr ho) (fun b q hb z => (sb.2 b hb).trans z) hd ?_
  refine ⟨by rw [upd_ne O.ne]; exact ho, ?_, O.ne, O'.obj, _, O'.ns, fun g => ?_, fun g hg => ?_⟩
  · have := length_putF f y fs; omega
  · show RelO ((putF f y fs).lookup g) (if g = f then some u else mA g)
    rw [lookup_putF]
    by_cases q : g = f
    · rw [if_pos q, if_pos q]; exact ry
    · rw [if_neg q, if_neg q]; exact r g
  · by_cases q : g = f
    · rw [q]; exact (keys_putF f y fs).1
    · refine (keys_putF f y fs).2 g (wi g fun z => hg ?_)
      show (if g = f then some u else mA g) = none
      rw [if_neg q]; exact z
theorem Inv.made (I : Inv X pins σ H s) : Inv X pins σ (upd (upd H s.heap.objs.size (.own (s.heap.objs.size + 1))) (s.heap.objs.size + 1) (.ins C s.heap.objs.size []))
    { s with heap := (s.heap.push PySem.W.emptyDict).push (PySem.W.instObj C s.heap.objs.size) } := by
  have e1 : (s.heap.push PySem.W.emptyDict).get? s.heap.objs.size = some PySem.W.emptyDict := Heap.get?_push_size s.heap rfl
  have e2 : ((s.heap.push PySem.W.emptyDict).push (PySem.W.instObj C s.heap.objs.size)).get? (s.heap.objs.size + 1) = some (PySem.W.instObj C s.heap.objs.size) := by
    have := Heap.get?_push_size (s.heap.push PySem.W.emptyDict) (o := PySem.W.instObj C s.heap.objs.size) rfl
    rwa [Heap.size_push] at this
  have e3 : (s.heap.push PySem.W.emptyDict).Ns s.heap.objs.size (fun _ => none) := ⟨PySem.W.emptyDict, #[], _, e1, rfl, (fun e he => absurd he (by simp)), fun _ => rfl⟩
  have I1 := I.laid (a := s.heap.objs.size) (o := .own (s.heap.objs.size + 1)) (h' := s.heap.push PySem.W.emptyDict) (t' := s.toks) (fun b u q => Heap.get?_push_of_some _ q) (Nat.le_refl _) ⟨_, e1⟩
  refine I1.laid (a := s.heap.objs.size + 1) (o := .ins C s.heap.objs.size []) (t' := s.toks) (fun b u q => Heap.get?_push_of_some _ q) (Nat.le_of_eq (Heap.size_push _ _)) ?_
  have ne : s.heap.objs.size ≠ s.heap.objs.size + 1 := Nat.ne_of_lt (Nat.lt_succ_self _)
  refine ⟨by rw [upd_ne ne, upd_same], Nat.zero_le _, ne, e2, fun _ => none, (Heap.Ns1.of_empty e3).at fun o q => Heap.get?_push_of_some _ q, fun _ => True.intro, fun y hy => absurd rfl hy⟩
theorem attr_of {prog : Program} {w : World} {env : Env} {e : Expr} {f : Str} {pos : Pos} {s : Shared} {Q : Value → Shared → Prop} (hb : attributeBase e f env (eval e env) = eval e env)
    (h : wpAny (model prog w) A (eval e env) (fun o s₁ => wpAny (model prog w) A (getAttr o f true) Q E s₁) E s) : wpAny (model prog w) A (eval (.Attribute e f pos) env) Q E s :=
  Attribute_any_ h (by rw [arm_eval_Attribute, hb])
end
def tFld (K : PySem.W.Frag) (ta : TE) (f : Str) : TE := fun σ H Q => ta σ H fun x H1 => ∃ a C dx fs v, x = .ref a ∧ H1 a = some (.ins C dx fs) ∧ Cls K C ∧ NoAttr K C f ∧ fs.lookup f = some v ∧ Q v H1
def tCon (K : PySem.W.Frag) (ta : TE) (f : Str) : TE := fun σ H Q => ta σ H fun x H1 => ∃ a C dx fs v u, x = .ref a ∧ H1 a = some (.ins C dx fs) ∧ Cls K C ∧ Con K C f v u ∧ fs.lookup f = none ∧ Q v H1
def sFld (K : PySem.W.Frag) (ta tv : TE) (f : Str) : TS := fun D σ H => tv σ H fun y H1 => ta σ H1 fun x H2 => ∃ a C dx fs, x = .ref a ∧ H2 a = some (.ins C dx fs) ∧ Cls K C ∧ NoAttr K C f ∧ fs.length < 1000 ∧
  D.nx σ (upd H2 a (.ins C dx (putF f y fs)))
def InOp (X : Cx) (op : Operator) (rd : V → V → Hp → VK → Prop) : Prop :=
  ∀ (pins : List (Addr × Obj)) (s : Shared) (σ : St) (H : Hp) (x y : V) (u v : Value) (Q : VK), Inv X pins σ H s → RelV x u → RelV y v → rd x y H Q → wpAny (model X.prog X.w) X.A (inplaceOp op u v) (EP X pins σ Q) X.xe s
def sFldAug (K : PySem.W.Frag) (ta tv : TE) (rd : V → V → Hp → VK → Prop) (f : Str) : TS := fun D σ H => ta σ H fun x H1 => ∃ a C dx fs v, x = .ref a ∧ H1 a = some (.ins C dx fs) ∧ Cls K C ∧ NoAttr K C f ∧ fs.lookup f = some v ∧
  tv σ H1 fun y H2 => rd v y H2 fun z H3 => ∃ dx' fs', H3 a = some (.ins C dx' fs') ∧ fs'.length < 1000 ∧ D.nx σ (upd H3 a (.ins C dx' (putF f z fs')))
section
variable {X : Cx} {o e value : Expr} {f : Str} {pos pos' tpos : Pos} {ta tv : TE}
theorem pe_fld (he : PE X e ta) (hb : attributeBase e f X.env (eval e X.env) = eval e X.env) : PE X (.Attribute e f pos) (tFld X.K ta f) := by
  intro pins s σ H Q I h
  refine attr_of hb (thn (he pins s σ H _ I h) fun u s1 ⟨x, H1, I1, rx, a, C, dx, fs, v, ex, ea, c, n, l, q⟩ => ?_)
  subst ex
  obtain rfl : u = Value.ref a := rx
  exact getattr_ok I1 ea c n l fun u' s2 I2 ru => ⟨v, H1, I2, ru, q⟩
theorem ps_fld (ha : PE X o ta) (hv : PE X value tv) (hs : swapsWith value (some (.Attribute o f pos')) pos.line X.env = pure false) : PS X (.Assign [.Attribute o f pos'] value pos) (sFld X.K ta tv f) := by
  intro pins s σ H D I h
  refine plainObj_wpAny_Assign_Attribute (thn (hv pins s σ H _ I h) fun u s1 ⟨y, H1, I1, ry, q⟩ => thn (ha pins s1 σ H1 _ I1 q) fun ov s2 ⟨x, H2, I2, rx, a, C, dx, fs, ex, ea, c, n, l, q2⟩ => ?_) hs
  subst ex
  obtain rfl : ov = Value.ref a := rx
  exact setattr_ok I2 ea c n l ry fun s3 I3 => ⟨σ, _, I3, q2⟩
def rAdd : V → V → Hp → VK → Prop := fun x y H Q => ∃ i j, x = .int i ∧ y = .int j ∧ Q (.int (i + j)) H
def rSub : V → V → Hp → VK → Prop := fun x y H Q => ∃ i j, x = .int i ∧ y = .int j ∧ Q (.int (i - j)) H
end
section
variable {X : Cx} {pins : List (Addr × Obj)} {σ : St} {H : Hp} {s : Shared} {A : Around} {E : Value → Shared → Prop} {Q : Value → Shared → Prop} {c : Value} {b : Bool}
inductive TyOf (K : PySem.W.Frag) (H : Hp) : V → Value → Prop where
  | non : TyOf K H .non (.type "NoneType")
  | bl (x : Bool) : TyOf K H (.bl x) (.type "bool")
  | int (i : Int) : TyOf K H (.int i) (.type "int")
  | str (x : Str) : TyOf K H (.str x) (.type "str")
  | flt (x : UInt64) : TyOf K H (.flt x) (.type "float")
  | lst {a : Addr} {xs : List V} (e : H a = some (.lst xs)) : TyOf K H (.ref a) (.type "list")
  | frz {a : Addr} {o : Obj} {xs : List V} (e : H a = some (.frz o (.lst xs))) : TyOf K H (.ref a) (.type "list")
  | tup {a : Addr} {xs : List V} (e : H a = some (.tup xs)) : TyOf K H (.ref a) (.type "tuple")
  | dK {a : Addr} {kvs : List (Key × V)} (e : H a = some (.dK kvs)) : TyOf K H (.ref a) (.type "dict")
  | dT {a : Addr} {kvs : List (List Key × V)} (e : H a = some (.dT kvs)) : TyOf K H (.ref a) (.type "dict")
  | ins {a C dx : Addr} {fs : List (Str × V)} (e : H a = some (.ins C dx fs)) (cl : Cls K C) (ha : PySem.W.findIn K (.ref C) "__class__" = some (some (.builtin "object.__class__")))
      (hn : PySem.W.specialIn K (.builtin "object.__class__") "__get__" = some (some (.builtin "getset_descriptor.__get__"))) (htk : PySem.W.takesIn K (.builtin "object.__class__") = some true)
      (hm : PySem.W.mroIn K C (.type "object") = some true) : TyOf K H (.ref a) (.ref C)
theorem isinst_ok {x : V} {u t : Value} (I : Inv X pins σ H s) (rx : RelV x u) (ty : TyOf X.K H x t) (e : PySem.W.kitOne X.K t c = some b) (h : ∀ tk, Q (.bool b) { s with toks := tk }) :
    wpAny (model X.prog X.w) A (call (.builtin "isinstance") [u, c]) Q E s := by
  cases ty with
  | non => cases (show u = Value.none from rx); exact PySem.W.kia_one PySem.W.kitx_none I.kIn True.intro e (fun z => nomatch z) h
  | bl y => cases (show u = Value.bool y from rx); exact PySem.W.kia_one PySem.W.kitx_bool I.kIn True.intro e (fun z => nomatch z) h
  | int i => obtain ⟨t, q⟩ := (show ∃ t, u = Value.int i t from rx); cases q; exact PySem.W.kia_one PySem.W.kitx_int I.kIn True.intro e (fun z => nomatch z) h
  | str y => obtain ⟨t, q⟩ := (show ∃ t, u = Value.str y t from rx); cases q; exact PySem.W.kia_one PySem.W.kitx_str I.kIn True.intro e (fun z => nomatch z) h
  | flt y => obtain ⟨t, q⟩ := (show ∃ t, u = Value.float y t from rx); cases q; exact PySem.W.kia_one PySem.W.kitx_float I.kIn True.intro e (fun z => nomatch z) h
  | @lst a xs ea =>
    cases (show u = Value.ref a from rx)
    obtain ⟨_, _, n, _, h1⟩ := (show ObjOk X.prog X.w H s.heap a (.lst xs) from I.hok a _ ea)
    exact PySem.W.kia_one PySem.W.kitx_list I.kIn ⟨_, h1, rfl⟩ e (fun z => nomatch z) h
  | @frz a ob xs ea =>
    cases (show u = Value.ref a from rx)
    obtain ⟨_, _, _, n, _, h1⟩ := (show ObjOk X.prog X.w H s.heap a (.frz ob (.lst xs)) from I.hok a _ ea)
    exact PySem.W.kia_one PySem.W.kitx_list I.kIn ⟨_, h1, rfl⟩ e (fun z => nomatch z) h
  | @tup a xs ea =>
    cases (show u = Value.ref a from rx)
    obtain ⟨_, _, _, p⟩ := (show ObjOk X.prog X.w H s.heap a (.tup xs) from I.hok a _ ea)
    obtain ⟨o, h1, h2, _⟩ := p
    exact PySem.W.kia_one PySem.W.kitx_tuple I.kIn ⟨o, h1, h2⟩ e (fun z => nomatch z) h
  | @dK a kvs ea =>
    cases (show u = Value.ref a from rx)
    obtain ⟨_, _, vs, _, p⟩ := (show ObjOk X.prog X.w H s.heap a (.dK kvs) from I.hok a _ ea)
    obtain ⟨o, es, ep, h1, h2, _⟩ := p
    exact PySem.W.kia_one PySem.W.kitx_dict I.kIn ⟨o, h1, h2.1⟩ e (fun z => nomatch z) h
  | @dT a kvs ea =>
    cases (show u = Value.ref a from rx)
    obtain ⟨_, _, xs, _, o, es, ep, h1, h2, _⟩ := (show ObjOk X.prog X.w H s.heap a (.dT kvs) from I.hok a _ ea)
    exact PySem.W.kia_one PySem.W.kitx_dict I.kIn ⟨o, h1, h2.1⟩ e (fun z => nomatch z) h
  | @ins a C dx fs ea cl ha hn htk hm =>
    cases (show u = Value.ref a from rx)
    obtain ⟨mA, O, _⟩ := ins_get I.hok ea
    obtain ⟨od, J, _⟩ := O.look
    exact PySem.W.kia_one (PySem.W.kitx_own (cl.get _) cl.hd ha hn htk hm) I.kIn J e (fun z => nomatch z) h
end
end L2
namespace L2
open PySem PySem.Spec PyProof.Rows
structure Room (k : Nat) (A : Around) : Prop where
  hd : A.handled = none
  dp : A.depth + 3 * k + 5 < recursionLimit
  un : A.units + 16 * k + 200 < cLine
theorem Room.mono {j k : Nat} {A : Around} (r : Room k A) (h : j ≤ k) : Room j A := ⟨r.hd, by have := r.dp; omega, by have := r.un; omega⟩
theorem Room.deeper {k : Nat} {A : Around} (r : Room (k + 1) A) (env : Env) : Room k (A.deeper env) :=
  ⟨r.hd, by have := r.dp; show A.depth + 1 + 3 * k + 5 < _; omega, by have := r.un; show A.units + 3 + 16 * k + 200 < _; omega⟩
theorem Room.in1 {k : Nat} {A : Around} (r : Room (k + 1) A) : Room k A.in1 :=
  ⟨r.hd, by have := r.dp; show A.depth + 3 * k + 5 < _; omega, by have := r.un; show A.units + 1 + 16 * k + 200 < _; omega⟩
theorem make_depth {A : Around} {C : Addr} {us : List Value} {kw : List (Str × Value)} : (A.under (.builtin "type.__call__" ⟨.ref C :: us, kw⟩)).depth = A.depth + 1 := by
  first | rfl | simp [Around.under, Code.weight, Code.isCreation, Code.isGuard, Code.isCaller, Code.frames, Code.isFrame, guardIds]
theorem make_units {A : Around} {C : Addr} {us : List Value} {kw : List (Str × Value)} : (A.under (.builtin "type.__call__" ⟨.ref C :: us, kw⟩)).units = A.units + 1 := by
  first | rfl | simp [Around.under, Code.cUnits, Code.frames, Code.isFrame]
theorem Room.make {k : Nat} {A : Around} (r : Room (k + 1) A) (C : Addr) (us : List Value) (kw : List (Str × Value)) : Room k (A.under (.builtin "type.__call__" ⟨.ref C :: us, kw⟩)) :=
  ⟨r.hd, by have := r.dp; rw [make_depth]; omega, by have := r.un; rw [make_units]; omega⟩
theorem Room.depth {k : Nat} {A : Around} (r : Room k A) : A.depth < recursionLimit := by have := r.dp; omega
theorem Room.units {k : Nat} {A : Around} (r : Room k A) : A.units + 64 < cLine := by have := r.un; omega
def tNil : TA := fun _ H Q => Q [] H
def tCons (ta : TE) (tr : TA) : TA := fun σ H Q => ta σ H fun x H1 => tr σ H1 fun xs H2 => Q (x :: xs) H2
section
variable {X : Cx} {e : Expr} {es : List Expr} {te : TE} {t : TA} {pos : Pos}
theorem pa_nil : PA X [] tNil := fun _ _ _ _ H Q I h => Calls.spliced_nil ⟨[], H, I, .nil, h⟩
theorem pa_cons (ha : PE X e te) (hr : PA X es t) (hs : starEach (e :: es) X.env = (false, eval e X.env) :: starEach es X.env := by rfl) : PA X (e :: es) (tCons te t) := by
  intro pos pins s σ H Q I h
  rw [hs]
  show wpAny _ _ (spliced ((false, eval e X.env) :: backTo pos (starEach es X.env))) _ _ s
  refine Calls.spliced_cons (thn (ha pins s σ H _ I h) fun u s1 ⟨x, H1, I1, r1, q1⟩ => ?_)
  exact thn (hr pos pins s1 σ H1 _ I1 q1) fun us s2 ⟨xs, H2, I2, r2, q2⟩ => ⟨x :: xs, H2, I2, .cons r1 r2, q2⟩
def tTup (t : TA) : TE := fun σ H Q => t σ H fun xs H1 => xs.length ≤ sizeLine ∧ ∀ p, H1 p = none → Q (.ref p) (upd H1 p (.tup xs))
def tLst (t : TA) : TE := fun σ H Q => t σ H fun xs H1 => xs.length ≤ sizeLine ∧ ∀ p, H1 p = none → Q (.ref p) (upd H1 p (.lst xs))
theorem pe_tup {x1} (h : PA X es t) : PE X (.Tuple es x1 pos) (tTup t) := by
  intro pins s σ H Q I hq
  refine wpAny_Tuple_spliced (thn (h pos pins s σ H _ I hq) fun us s1 ⟨xs, H1, I1, r, z, q⟩ => ⟨by rw [← r.length]; exact z, ?_⟩)
  have hf : H1 s1.heap.objs.size = none := I1.hok.fresh (Nat.le_refl _)
  refine ⟨.ref s1.heap.objs.size, upd H1 s1.heap.objs.size (.tup xs), I1.laid (t' := s1.toks) (fun b u e => Heap.get?_push_of_some _ e) (Nat.le_refl _) ?_, rfl, q _ hf⟩
  exact ⟨z, us, r, ⟨_, Heap.get?_push_size _ rfl, rfl, _, rfl⟩⟩
theorem pe_lst (h : PA X es t) : PE X (.List es pos) (tLst t) := by
  intro pins s σ H Q I hq
  refine wpAny_List_spliced (thn (h pos pins s σ H _ I hq) fun us s1 ⟨xs, H1, I1, r, z, q⟩ => ⟨by rw [← r.length]; exact z, ?_⟩)
  have hf : H1 s1.heap.objs.size = none := I1.hok.fresh (Nat.le_refl _)
  refine ⟨.ref s1.heap.objs.size, upd H1 s1.heap.objs.size (.lst xs), I1.laid (t' := s1.toks) (fun b u e => Heap.get?_push_of_some _ e) (Nat.le_refl _) ?_, rfl, q _ hf⟩
  exact ⟨z, us, 0, r, Heap.get?_push_size _ rfl⟩
end
abbrev Sp := List V → Hp → VK → XK → Prop
abbrev CXT := List Env → Hp → Shared → XK → Value → Shared → Prop
structure Env0 (P : Program) (w : World) (K : PySem.W.Frag) (mg : Str → Option Value) (base : Heap) (A : Around) (outer : List Env) (s : Shared) (H : Hp) : Prop where
  frames : A.frames = some outer
  mod : Mod K mg base
  bs : ∀ b o, base.get? b = some o → s.heap.get? b = some o ∧ H b = none
  bsz : base.objs.size ≤ s.heap.objs.size
  funs : s.heap.FunFrames base outer
  frf : ∀ b ∈ frs outer, H b = none
  hok : HOk P w H s.heap
  bare : AllBare s.gens
def CE (outer : List Env) (P : Program) (w : World) (H : Hp) (s : Shared) (Q : VK) (u : Value) (s' : Shared) : Prop :=
  ∃ v H', s'.os = s.os ∧ AllBare s'.gens ∧ Un (frs outer) [] H H' s.heap s'.heap ∧ HOk P w H' s'.heap ∧ RelV v u ∧ Q v H'
def CR (CX : CXT) (outer : List Env) (P : Program) (w : World) (H : Hp) (s : Shared) (Q : VK) (E : XK) (r : Result) (s' : Shared) : Prop :=
  match r with
  | .ok (.ret u) => CE outer P w H s Q u s'
  | .ok _ => False
  | .error e => CX outer H s E e s'
structure FnOk (P : Program) (w : World) (K : PySem.W.Frag) (mg : Str → Option Value) (base : Heap) (CX : CXT) (k : Nat) (f : Addr) (fd : FuncData) (ps : List Str) (sp : Sp) : Prop where
  len : ∀ vs H Q E, sp vs H Q E → vs.length = ps.length
  run : ∀ (A : Around) (outer : List Env) (s : Shared) (H : Hp) (args : Args) (us : List Value) (vs : List V) (Q : VK) (E : XK), Room k A → Env0 P w K mg base A outer s H → BindsTo s fd args (ps.zip us) → Vals vs us → sp vs H Q E →
    codeAny (model P w) A (.call (.ref f) args) (CR CX outer P w H s Q E) s
theorem FnOk.mono {P : Program} {w : World} {K : PySem.W.Frag} {mg : Str → Option Value} {base : Heap} {CX : CXT} {j k : Nat} {f : Addr} {fd : FuncData} {ps : List Str} {sp : Sp} (F : FnOk P w K mg base CX j f fd ps sp) (h : j ≤ k) :
    FnOk P w K mg base CX k f fd ps sp := ⟨F.len, fun A outer s H args us vs Q E hr => F.run A outer s H args us vs Q E (hr.mono h)⟩
theorem Env0.make {P : Program} {w : World} {K : PySem.W.Frag} {mg : Str → Option Value} {base : Heap} {A : Around} {outer : List Env} {s : Shared} {H : Hp} (e : Env0 P w K mg base A outer s H) (C : Addr) (us : List Value) (kw : List (Str × Value)) :
    Env0 P w K mg base (A.under (.builtin "type.__call__" ⟨.ref C :: us, kw⟩)) outer s H := ⟨by first | exact e.frames | (simpa [Around.under, Code.envs, Code.isFrame, pushEnvs] using e.frames), e.mod, e.bs, e.bsz, e.funs, e.frf, e.hok, e.bare⟩
theorem Env0.in1 {P : Program} {w : World} {K : PySem.W.Frag} {mg : Str → Option Value} {base : Heap} {A : Around} {outer : List Env} {s : Shared} {H : Hp} (e : Env0 P w K mg base A outer s H) :
    Env0 P w K mg base A.in1 outer s H := ⟨e.frames, e.mod, e.bs, e.bsz, e.funs, e.frf, e.hok, e.bare⟩
section
variable {X : Cx} {pins : List (Addr × Obj)} {σ : St} {H : Hp} {s s' : Shared}
theorem Inv.env0 (I : Inv X pins σ H s) : Env0 X.prog X.w X.K X.mg X.base X.A X.stack s H :=
  ⟨I.ok.frames, I.ok.mod, I.bs, Nat.le_trans I.ok.bsz I.sz, I.stack, I.stkFree, I.hok, I.bare⟩
theorem Inv.after {Q : VK} {u : Value} (I : Inv X pins σ H s) (h : CE X.stack X.prog X.w H s Q u s') : EP X pins σ Q u s' := by
  obtain ⟨v, H', os, bare, un, hok, r, q⟩ := h
  obtain ⟨hh, g, d, t, os'⟩ := s'
  obtain rfl : os' = s.os := os
  exact ⟨v, H', I.call (h' := hh) (g' := g) (d' := d) (t' := t) (ch := []) un hok bare (fun b z => absurd z (by simp)), r, q⟩
end
def tCall (sp : Sp) (dvs : List V) (E : XK) (t : TA) : TE := fun σ H Q => t σ H fun vs H1 => sp (vs ++ dvs) H1 Q E
def tMeth (C : Addr) (m : Str) (sp : Sp) (dvs : List V) (E : XK) (ta : TE) (t : TA) : TE := fun σ H Q => ta σ H fun x H1 => ∃ a dx fs, x = .ref a ∧ H1 a = some (.ins C dx fs) ∧ fs.lookup m = none ∧
  t σ H1 fun vs H2 => sp (x :: (vs ++ dvs)) H2 Q E
def tMake (C : Addr) (sp : Sp) (dvs : List V) (E : XK) (t : TA) : TE := fun σ H Q => t σ H fun vs H1 => ∀ x dx, H1 x = none → H1 dx = none → dx ≠ x →
  sp (.ref x :: (vs ++ dvs)) (upd (upd H1 dx (.own x)) x (.ins C dx [])) (fun v H2 => v = .non ∧ Q (.ref x) H2) E
def Binds (K : PySem.W.Frag) (fd : FuncData) (ps : List Str) (ds : List Value) : Prop :=
  ∀ (s : Shared) (us : List Value), K.In s.heap → (us ++ ds).length = ps.length → BindsTo s fd ⟨us, []⟩ (ps.zip (us ++ ds))
theorem Binds.all {K : PySem.W.Frag} {fd : FuncData} {ps : List Str} (h : ∀ us : List Value, us.length = ps.length → bindArgs fd ⟨us, []⟩ = pure (ps.zip us)) : Binds K fd ps [] := fun s us _ hl => by
  rw [List.append_nil] at hl ⊢
  exact .of_eq (h us hl)
def Passes (CX : CXT) (X : Cx) (E : XK) : Prop := ∀ (pins : List (Addr × Obj)) (σ : St) (H : Hp) (s : Shared) (e : Value) (s' : Shared), Inv X pins σ H s → CX X.stack H s E e s' → X.xe e s'
section
variable {X : Cx} {CX : CXT} {k : Nat} {f C : Addr} {fd : FuncData} {ps : List Str} {sp : Sp} {dvs : List V} {ds : List Value} {E : XK} {x m : Str} {p pos apos : Pos} {e o : Expr} {es : List Expr} {ta : TE} {t : TA}
structure Mk (K : PySem.W.Frag) (C f : Addr) : Prop where
  makes : PySem.W.makesIn K C = true
  init : PySem.W.findIn K (.ref C) "__init__" = some (some (.ref f))
  fn : PySem.W.isFn K (.ref f) = true
  kp : PySem.W.keepIn K (.ref C) = true
end
def PK (X : Cx) (kws : List Keyword) (t : TA) : Prop :=
  ∀ (pos : Pos) (pins : List (Addr × Obj)) (s : Shared) (σ : St) (H : Hp) (Q : List V → Hp → Prop), Inv X pins σ H s → t σ H Q → wpAny (model X.prog X.w) X.A (evalAll ((backToKw pos (keywordEach kws X.env)).map (·.2))) (AP X pins σ Q) X.xe s
section
variable {X : Cx} {CX : CXT} {k : Nat} {f C : Addr} {fd : FuncData} {ps ks : List Str} {sp : Sp} {E : XK} {x m : Str} {p pos apos kpos : Pos} {e o : Expr} {es : List Expr} {kws : List Keyword} {te ta : TE} {t tk : TA} {nm : Option Str}
structure KBinds (K : PySem.W.Frag) (fd : FuncData) (ps ks : List Str) (g : List Value → List Value → List Value) (gV : List V → List V → List V) : Prop where
  to : ∀ (s : Shared) (us ws : List Value), K.In s.heap → (g us ws).length = ps.length → BindsTo s fd ⟨us, ks.zip ws⟩ (ps.zip (g us ws))
  rel : ∀ {vs : List V} {us : List Value} {zs : List V} {ws : List Value}, Vals vs us → Vals zs ws → Vals (gV vs zs) (g us ws)
def tCallK (sp : Sp) (gV : List V → List V → List V) (E : XK) (t tk : TA) : TE := fun σ H Q => t σ H fun vs H1 => tk σ H1 fun zs H2 => sp (gV vs zs) H2 Q E
variable {g : List Value → List Value → List Value} {gV : List V → List V → List V}
end
structure FnScope (N P : List Str) (sc : Scope) : Prop where
  kind : sc.kind = .function
  co : sc.isCoroutine = false
  gen : sc.isGenerator = false
  nd : N.Nodup
  pre : N.take P.length = P
  par : ∀ x ∈ P, sc.names.lookup x = some .local ∨ sc.names.lookup x = some .cell
  nofree : ∀ y ∈ sc.names, y.2 ≠ .free
theorem bindL_out {kindOf : Str → Option NameKind} {x : Str} : ∀ {binds : List (Str × Value)} {m : Str → Option Value}, (∀ v, (x, v) ∉ binds) → bindL kindOf binds m x = m x
  | [], _, _ => rfl
  | (n, v) :: r, m, h => by
    unfold bindL
    rw [bindL_out fun w hw => h w (List.mem_cons_of_mem _ hw)]
    split
    · have : x ≠ n := by rintro rfl; exact h v List.mem_cons_self
      simp [this]
    · rfl
theorem bindC_out {kindOf : Str → Option NameKind} {x : Str} : ∀ {binds : List (Str × Value)} {m : Str → Option Value}, (∀ v, (x, v) ∉ binds) → bindC kindOf binds m x = m x
  | [], _, _ => rfl
  | (n, v) :: r, m, h => by
    unfold bindC
    rw [bindC_out fun w hw => h w (List.mem_cons_of_mem _ hw)]
    split
    · rfl
    · have : x ≠ n := by rintro rfl; exact h v List.mem_cons_self
      simp [this]
theorem bindL_get {kindOf : Str → Option NameKind} {x : Str} {v : Value} : ∀ {P : List Str} {vs : List Value} {i : Nat} {m : Str → Option Value}, P.Nodup → P[i]? = some x → vs[i]? = some v → kindOf x = some .local →
    bindL kindOf (P.zip vs) m x = some v
  | [], _, _, _, _, h, _, _ => by simp at h
  | _ :: _, [], _, _, _, _, h, _ => by simp at h
  | p :: P, w :: vs, 0, m, nd, h1, h2, hk => by
    simp at h1 h2; subst h1; subst h2
    show bindL kindOf ((p, w) :: P.zip vs) m p = _
    unfold bindL
    rw [bindL_out fun v hv => (List.nodup_cons.mp nd).1 (List.of_mem_zip hv).1, if_pos hk]
    simp
  | p :: P, w :: vs, i + 1, m, nd, h1, h2, hk => by
    show bindL kindOf ((p, w) :: P.zip vs) m x = _
    unfold bindL
    exact bindL_get (i := i) (List.nodup_cons.mp nd).2 (by simpa using h1) (by simpa using h2) hk
theorem bindC_get {kindOf : Str → Option NameKind} {x : Str} {v : Value} : ∀ {P : List Str} {vs : List Value} {i : Nat} {m : Str → Option Value}, P.Nodup → P[i]? = some x → vs[i]? = some v → kindOf x ≠ some .local →
    bindC kindOf (P.zip vs) m x = some v
  | [], _, _, _, _, h, _, _ => by simp at h
  | _ :: _, [], _, _, _, _, h, _ => by simp at h
  | p :: P, w :: vs, 0, m, nd, h1, h2, hk => by
    simp at h1 h2; subst h1; subst h2
    show bindC kindOf ((p, w) :: P.zip vs) m p = _
    unfold bindC
    rw [bindC_out fun v hv => (List.nodup_cons.mp nd).1 (List.of_mem_zip hv).1, if_neg hk]
    simp
  | p :: P, w :: vs, i + 1, m, nd, h1, h2, hk => by
    show bindC kindOf ((p, w) :: P.zip vs) m x = _
    unfold bindC
    exact bindC_get (i := i) (List.nodup_cons.mp nd).2 (by simpa using h1) (by simpa using h2) hk
def start (N : List Str) (vs : List V) : St := vs.map some ++ List.replicate (N.length - vs.length) none
def cxOf (CX : CXT) (P : Program) (w : World) (K : PySem.W.Frag) (mg : Str → Option Value) (base : Heap) (N : List Str) (qual : Str) (scope : Scope) (f : Addr) (cd : Value) (A : Around) (outer : List Env) (s : Shared) (H : Hp) (E : XK) : Cx where
  prog := P
  w := w
  K := K
  mg := mg
  base := base
  A := A.deeper (envOfC qual scope s.heap.objs.size f cd)
  N := N
  s₀ := s
  H₀ := H
  env := envOfC qual scope s.heap.objs.size f cd
  outer := outer
  stack := envOfC qual scope s.heap.objs.size f cd :: outer
  ex := []
  calm := true
  fn := fun _ => true
  pn := []
  xe := fun e s' => wpAny (model P w) (A.deeper (envOfC qual scope s.heap.objs.size f cd)) (leaving (envOfC qual scope s.heap.objs.size f cd) e) (fun _ s'' => CX outer H s E e s'') (fun e' s'' => CX outer H s E e' s'') s'
theorem cell_has {sc : Scope} {n : Nat} {x : Str} (h : sc.names.lookup x = some .cell) : ∃ c, (cellsFrom n sc.names []).lookup x = some c := by
  have q := PySem.W.cellsFrom_some sc.names n [] (.inl h)
  exact Option.isSome_iff_exists.mp q
theorem inv_start {CX : CXT} {P : Program} {w : World} {K : PySem.W.Frag} {mg : Str → Option Value} {base : Heap} {N ps : List Str} {qual : Str} {scope : Scope} {f : Addr} {cd : Value} {A : Around} {outer : List Env} {s s1 : Shared} {H : Hp} {E : XK} {us : List Value} {vs : List V}
    (S : FnScope N ps scope) (hd : A.handled = none) (e0 : Env0 P w K mg base A outer s H) (hl : vs.length = ps.length) (r : Vals vs us)
    (x : InCallC s s.heap.objs.size (bindL (envOfC qual scope s.heap.objs.size f cd).kindOf (ps.zip us) fun _ => none) (cellsFrom (s.heap.objs.size + 1) scope.names []) (bindC (envOfC qual scope s.heap.objs.size f cd).kindOf (ps.zip us) fun _ => none) s1) :
    Inv (cxOf CX P w K mg base N qual scope f cd A outer s H E) [] (start N vs) H s1 := by
  have hpl : ps.length ≤ N.length := by have := congrArg List.length S.pre; rw [List.length_take] at this; omega
  obtain ⟨h1, tk, rfl, hk⟩ := x.done
  have noA : ∀ b : Addr, b ∉ (cxOf CX P w K mg base N qual scope f cd A outer s H E).ex := fun b z => absurd (show b ∈ ([] : List Addr) from z) (by simp)
  refine ⟨⟨e0.mod, S.kind, rfl, rfl, Nat.le_refl _, fun y z c h1 h2 => ?_, fun y hy => ?_, fun y c _ h => ?_, fun _ => hd, Around.frames_deeper e0.frames, .inr ⟨rfl, rfl⟩, fun b z => absurd z (noA b), e0.bs, e0.bsz, fun b _ _ => noA b, fun b z => absurd z (noA b), e0.funs, e0.frf⟩,
    rfl, e0.bare, Un.kept hk, ⟨_, x.toInCall.ns, fun i y v h1 h2 h3 => ?_⟩, fun y c h => ⟨_, x.cell y c h⟩, e0.hok.fresh (Nat.le_refl _), fun y c h => ?_, fun p hp => absurd (show p ∈ ([] : List (Addr × Obj)) from hp) (by simp), e0.hok.kept hk, ?_⟩
  · exact name_of_addr x.apart (PySem.mem_of_lookup h1) (PySem.mem_of_lookup h2)
  · have hy : scope.names.lookup y = some .cell ∨ scope.names.lookup y = some .free := hy
    rcases hy with hy | hy
    · exact cell_has hy
    · exact absurd rfl (S.nofree _ (PySem.mem_of_lookup hy))
  · exact Nat.le_of_lt (x.above y c (PySem.mem_of_lookup h))
  · have hi : i < vs.length := by
      unfold start at h2
      by_cases hi : i < vs.length
      · exact hi
      · rw [List.getElem?_append_right (by simpa using hi)] at h2
        rw [List.getElem?_replicate] at h2
        split at h2 <;> cases h2
    have ha : vs[i]? = some v := by
      unfold start at h2
      rw [List.getElem?_append_left (by simpa using hi), List.getElem?_map] at h2
      cases e : vs[i]? with
      | none => rw [e] at h2; cases h2
      | some a => rw [e] at h2; cases h2; rfl
    obtain ⟨u, hu, rv⟩ := r.get ha
    have hp : ps[i]? = some y := by
      rw [← S.pre, List.getElem?_take_of_lt (by omega)]; exact h1
    have ndP : ps.Nodup := by rw [← S.pre]; exact S.nd.sublist (List.take_sublist _ _)
    refine ⟨u, rv, ?_⟩
    rcases S.par y (List.mem_of_getElem? hp) with k | k
    · exact .inl ⟨k, bindL_get ndP hp hu k⟩
    · obtain ⟨c, e⟩ := cell_has (n := s.heap.objs.size + 1) k
      refine .inr ⟨.inl k, c, e, ?_⟩
      have q := x.cell y c e
      rw [bindC_get ndP hp hu (by show scope.names.lookup y ≠ _; rw [k]; decide)] at q
      exact q
  · exact e0.hok.fresh (Nat.le_of_lt (x.above y c (PySem.mem_of_lookup h)))
  · unfold start
    show _ = N.length
    rw [List.length_append, List.length_map, List.length_replicate]
    omega
theorem fn_of {CX : CXT} {P : Program} {w : World} {K : PySem.W.Frag} {mg : Str → Option Value} {base : Heap} {k : Nat} {f : Addr} {name qual : Str} {params : Arguments} {body : List Stmt} {scope : Scope} {dV kV doc pm cdv ct oc : Value} {an od : Option Addr}
    {osl : Array (Option Value)} {N ps : List Str} {sp : Sp} (lk : K.lookup f = some ⟨oc, od, .func (PySem.W.fnOf name qual params body scope dV kV doc pm an cdv ct), osl⟩) (hcd : PySem.W.codeIn K cdv qual = true) (S : FnScope N ps scope)
    (len : ∀ vs H Q E, sp vs H Q E → vs.length = ps.length)
    (hbody : ∀ (A : Around) (outer : List Env) (s : Shared) (H : Hp) (vs : List V) (Q : VK) (E : XK), Room k (A.deeper (envOfC qual scope s.heap.objs.size f cdv)) → sp vs H Q E →
      ∃ t, PSs (cxOf CX P w K mg base N qual scope f cdv A outer s H E) body t ∧ t { nx := fun _ H' => Q .non H', rt := Q } (start N vs) H) :
    FnOk P w K mg base CX (k + 1) f (PySem.W.fnOf name qual params body scope dV kV doc pm an cdv ct) ps sp := by
  refine ⟨len, fun A outer s H args us vs Q E hr e0 hb r hsp => ?_⟩
  have hl := len _ _ _ _ hsp
  have KX : K.In s.heap := e0.mod.kin.keeps fun b o e => (e0.bs b o e).1
  have lim : s.heap.NoLimit := e0.mod.nolimit.keeps fun b o e => (e0.bs b o e).1
  have hkind : ∀ y ∈ ps.zip us, scope.names.lookup y.1 = some .local ∨ (scope.names.lookup y.1 = some .cell ∧ ((cellsFrom (s.heap.objs.size + 1) scope.names []).lookup y.1).isSome = true) := fun ⟨n, v⟩ hy => by
    rcases S.par n (List.of_mem_zip hy).1 with q | q
    · exact .inl q
    · exact .inr ⟨q, PySem.W.cellsFrom_some _ _ _ (.inl q)⟩
  refine codeAny_call_function hr.depth (KX _ _ lk) rfl S.co S.gen rfl (PySem.W.codeRec_of KX hcd) (hb _ _ _ _ ?_)
  refine wpAny_newFunctionEnv_cells S.kind hkind fun env he s1 x => ?_
  subst he
  refine ⟨lim.keeps x.toInCall.keep, codeAny_func ?_⟩
  obtain ⟨t, ht, hq⟩ := hbody A outer s H vs Q E (hr.deeper _) hsp
  have I : Inv (cxOf CX P w K mg base N qual scope f cdv A outer s H E) [] (start N vs) H s1 := inv_start S hr.hd e0 hl r x
  refine wpAny_mono (ht [] s1 (start N vs) H _ I hq) (fun fl s' hs => ?_) fun e s' hs => hs
  have fin : ∀ {σ' : St} {H' : Hp} {v : V} {u : Value}, Inv (cxOf CX P w K mg base N qual scope f cdv A outer s H E) [] σ' H' s' → RelV v u → Q v H' → CE outer P w H s Q u s' :=
    fun {σ' H' v u} J rv q => ⟨v, H', J.os, J.bare, J.base, J.hok, rv, q⟩
  cases fl with
  | ret u =>
    obtain ⟨v, σ', H', J, rv, q⟩ := hs
    exact fin J rv q
  | next =>
    obtain ⟨σ', H', J, q⟩ := hs
    exact fin (v := V.non) (u := Value.none) J rfl q
  | brk =>
    obtain ⟨_, _, _, q⟩ := hs
    exact False.elim q
  | cont =>
    obtain ⟨_, _, _, q⟩ := hs
    exact False.elim q
end L2
namespace L2
open PySem PySem.Spec PyProof.Rows
section
variable {X : Cx} {x : Str} {p pos : Pos} {e : Expr} {es : List Expr} {t : TA} {id T : String} {r : List V → Hp → VK → Prop}
def tCB (r : List V → Hp → VK → Prop) (t : TA) : TE := fun σ H Q => t σ H fun vs H1 => r vs H1 Q
theorem pe_callB (hc : CallR X (.builtin id) r) (hg : Gl X x) (hm : X.mg x = none) (hv : bootBuiltins x = some (.builtin id)) (ha : PA X (e :: es) t) (hn : x ≠ "__name__" := by decide) (hdb : (x == ("__debug__" : Str)) = false := by decide)
    (he : starEach (e :: es) X.env = (false, eval e X.env) :: starEach es X.env := by rfl) (hpl : (backTo pos (starEach es X.env)).any (·.1) = false := by rfl) : PE X (.Call (.Name x p) (e :: es) [] pos) (tCB r t) := by
  intro pins s σ H Q I h
  refine wpAny_Call_Name_kw (ld_blt I hg hm hv ?_ hn hdb)
  exact PyProof.Rows.callWith_builtin1 (thn (ha pos pins s σ H _ I h) fun us s1 ⟨vs, H1, I1, r1, q1⟩ => hc pins s1 σ H1 vs us Q I1 r1 q1) he hpl
theorem pe_callTy (hc : CallR X (.type T) r) (hg : Gl X x) (hm : X.mg x = none) (hv : bootBuiltins x = some (.type T)) (ha : PA X (e :: es) t) (hn : x ≠ "__name__" := by decide) (hdb : (x == ("__debug__" : Str)) = false := by decide)
    (he : starEach (e :: es) X.env = (false, eval e X.env) :: starEach es X.env := by rfl) (hpl : (backTo pos (starEach es X.env)).any (·.1) = false := by rfl) : PE X (.Call (.Name x p) (e :: es) [] pos) (tCB r t) := by
  intro pins s σ H Q I h
  refine wpAny_Call_Name_kw (ld_blt I hg hm hv ?_ hn hdb)
  exact PyProof.Rows.callWith_type1 (thn (ha pos pins s σ H _ I h) fun us s1 ⟨vs, H1, I1, r1, q1⟩ => hc pins s1 σ H1 vs us Q I1 r1 q1) he hpl
end
end L2
namespace HT
open PySem PyProof.Rows
def lexLt : List Int → List Int → Bool
  | [], [] => false
  | [], _ :: _ => true
  | _ :: _, [] => false
  | x :: xs, y :: ys => if x = y then lexLt xs ys else decide (x < y)
theorem lexLt_cons (x y : Int) (xs ys : List Int) : lexLt (x :: xs) (y :: ys) = if x = y then lexLt xs ys else decide (x < y) := rfl
theorem lexLt_nil_cons (y : Int) (ys : List Int) : lexLt [] (y :: ys) = true := rfl
theorem lexLt_cons_nil (x : Int) (xs : List Int) : lexLt (x :: xs) [] = false := rfl
theorem eqAt_int (A : Around) (s : Shared) (a : Int) (t : Tok) (c : Int) (u : Tok) : ∃ e, SeqAt.EqAt A s (.int a t) (.int c u) e ∧ (e = true ↔ a = c) :=
  ⟨(a == c), SeqAt.EqAt.int_int a t c u, by simp⟩
section
open PySem.SeqAt
open PySem.AutoSeq1 (wpAny_loadPart')
open PySem.MeetsSeq PySem.MeetsSeq2 PySem.MeetsSeq3
end
section
variable {prog : Program} {w : World} {A : Around} {E : Value → Shared → Prop} {s : Shared}
theorem cat_tup {t b : Addr} {vs ws : List Value} {Q : Value → Shared → Prop} (ht : IsTup s.heap t vs.toArray) (hb : IsTup s.heap b ws.toArray) (hv : vs ≠ [])
    (h1 : ws = [] → Q (.ref t) s) (h2 : ws ≠ [] → Q (.ref s.heap.objs.size) { s with heap := s.heap.push { cls := .type "tuple", data := .seq (vs ++ ws).toArray } })
    (hsz : vs.length + ws.length ≤ sizeLine) : wpAny (model prog w) A (binaryOp .Add (.ref t) (.ref b)) Q E s := by
  obtain ⟨⟨cls, dd, data, sl⟩, ho, hc, n, hd⟩ := id ht
  obtain ⟨⟨cls2, dd2, data2, sl2⟩, ho2, hc2, n2, hd2⟩ := id hb
  simp only at hc hd hc2 hd2
  subst hc hd hc2 hd2
  have e : vs.toArray ++ ws.toArray = (vs ++ ws).toArray := by simp
  by_cases hw : ws = []
  · exact concat_meets ⟨_, ho, rfl⟩ ⟨_, ho2, rfl⟩ noFill_tuple_add seq_tuple_add PySem.F.slot_tuple_add PySem.F.entry_tuple_add (PySem.F.args_tuple_add_2 _ _)
      (tuple_addW1 t b vs.toArray ws.toArray n n2 dd dd2 sl sl2 (by simpa using hv) (by simp [hw])) ⟨ho, ho2, h1 hw⟩
  · refine concat_meets ⟨_, ho, rfl⟩ ⟨_, ho2, rfl⟩ noFill_tuple_add seq_tuple_add PySem.F.slot_tuple_add PySem.F.entry_tuple_add (PySem.F.args_tuple_add_2 _ _)
      (tuple_addW2 t b vs.toArray ws.toArray n n2 dd dd2 sl sl2 (by simpa using hv) (by simpa using hw) (by rw [List.size_toArray, List.size_toArray]; exact hsz)) ⟨ho, ho2, ?_⟩
    rw [e]
    exact h2 hw
def sIx (n d : Nat) : Option Int → Nat
  | none => d
  | some v => if v < 0 then (v + (n : Int)).toNat else min v.toNat n
end
end HT
namespace L2
open PySem PySem.Spec PyProof.Rows
abbrev TO := St → Hp → (Option Int → Hp → Prop) → Prop
def PO (X : Cx) (e : Option Expr) (t : TO) : Prop :=
  ∀ (pins : List (Addr × Obj)) (s : Shared) (σ : St) (H : Hp) (Q : Option Int → Hp → Prop), Inv X pins σ H s → t σ H Q →
    wpAny (model X.prog X.w) X.A (evalPart e X.env) (fun u s' => ∃ o H', Inv X pins σ H' s' ∧ IsPart u o ∧ Q o H') X.xe s
def tNoPart : TO := fun _ H Q => Q none H
def tPart (t : TE) : TO := fun σ H Q => t σ H fun x H1 => ∃ i, x = .int i ∧ Q (some i) H1
theorem intsAre_of {ns : List Int} : ∀ {us : List Value}, Vals (ns.map V.int) us → IntsAre us ns := by
  induction ns with
  | nil => intro us r; rw [List.map_nil] at r; cases r; exact .nil
  | cons n ns ih =>
    intro us r
    rw [List.map_cons] at r
    cases r with
    | cons r1 r2 =>
      obtain ⟨t, e⟩ := r1
      subst e
      exact .cons n t (ih r2)
section
variable {X : Cx} {e : Expr} {te : TE} {lo hi : Option Expr} {tl th : TO} {pos p2 : Pos}
theorem po_none : PO X none tNoPart := by
  intro pins s σ H Q I h
  rw [evalPart_none]
  exact wpAny_pure ⟨none, H, I, .none, h⟩
theorem po_some (h : PE X e te) : PO X (some e) (tPart te) := by
  intro pins s σ H Q I hw
  rw [evalPart_some]
  refine thn (h pins s σ H _ I hw) fun u s1 ⟨x, H1, I1, r1, q1⟩ => ?_
  obtain ⟨i, rfl, q⟩ := q1
  obtain ⟨t, rfl⟩ := r1
  exact ⟨some i, H1, I1, .int i t, q⟩
def SlR (X : Cx) (r : V → Option Int → Option Int → Hp → VK → Prop) : Prop :=
  ∀ (pins : List (Addr × Obj)) (s : Shared) (σ : St) (H : Hp) (x : V) (v vl vu : Value) (lo hi : Option Int) (sl : Addr) (Q : VK), Inv X pins σ H s → RelV x v → s.heap.IsSliceOf sl vl vu .none → IsPart vl lo → IsPart vu hi → r x lo hi H Q →
    ∃ T id, typeLookup (.type T) "__getitem__" = pure (some (.builtin id)) ∧ s.TypeIs v T ∧ wpAny (model X.prog X.w) X.A (getItem v (.ref sl)) (EP X pins σ Q) X.xe s
def tSl (r : V → Option Int → Option Int → Hp → VK → Prop) (te : TE) (tl th : TO) : TE := fun σ H Q => te σ H fun x H1 => tl σ H1 fun l H2 => th σ H2 fun u H3 => r x l u H3 Q
theorem pe_slice {r : V → Option Int → Option Int → Hp → VK → Prop} (hr : SlR X r) (he : PE X e te) (hl : PO X lo tl) (hu : PO X hi th) : PE X (.Subscript e (.Slice lo hi none p2) pos) (tSl r te tl th) := by
  intro pins s σ H Q I h
  refine Subscript_ (thn (he pins s σ H _ I h) fun v s1 ⟨x, H1, I1, r1, q1⟩ => ?_)
  refine wpAny_Slice (thn (hl pins s1 σ H1 _ I1 q1) fun vl s2 ⟨l, H2, I2, pl, q2⟩ => thn (hu pins s2 σ H2 _ I2 q2) fun vu s3 ⟨u, H3, I3, pu, q3⟩ => ?_)
  rw [evalPart_none]
  refine wpAny_pure ?_
  have I4 : Inv X pins σ H3 { s3 with heap := s3.heap.push { cls := .type "slice", data := .fields #[vl, vu, .none] } } := I3.kept (t' := s3.toks) fun b ob q => Heap.get?_push_of_some _ q
  obtain ⟨T, id, hT, ht, hg⟩ := hr pins { s3 with heap := s3.heap.push { cls := .type "slice", data := .fields #[vl, vu, .none] } } σ H3 x v vl vu l u s3.heap.objs.size Q I4 r1 (Heap.IsSliceOf.new ..) pl pu q3
  show wpAny (model X.prog X.w) X.A (subscriptTail e (.Slice lo hi none p2) v (.ref s3.heap.objs.size)) (EP X pins σ Q) X.xe { s3 with heap := s3.heap.push { cls := .type "slice", data := .fields #[vl, vu, .none] } }
  exact tail_any (ops := [.ref s3.heap.objs.size, v]) ht hT hg (by with_unfolding_all rfl)
def cutV (xs : List V) (lo hi : Option Int) : List V := (xs.drop (HT.sIx xs.length 0 lo)).take (HT.sIx xs.length xs.length hi - HT.sIx xs.length 0 lo)
theorem cutV_length (xs : List V) (lo hi : Option Int) : (cutV xs lo hi).length ≤ xs.length := by
  unfold cutV
  rw [List.length_take, List.length_drop]
  omega
def rSlT (K : PySem.W.Frag) : V → Option Int → Option Int → Hp → VK → Prop := fun x lo hi H Q => ∃ a xs, x = .ref a ∧ SqT K H a xs ∧
  ¬ (HT.sIx xs.length 0 lo = 0 ∧ HT.sIx xs.length xs.length hi = xs.length) ∧ ∀ p, H p = none → Q (.ref p) (upd H p (.tup (cutV xs lo hi)))
def rLtT (K : PySem.W.Frag) : R2 := fun x y H Q => ∃ a b ns ms, x = .ref a ∧ y = .ref b ∧ SqT K H a (ns.map V.int) ∧ SqT K H b (ms.map V.int) ∧ Q (.bl (HT.lexLt ns ms)) H
def rCatT (K : PySem.W.Frag) : R2 := fun x y H Q => ∃ a b xs ys, x = .ref a ∧ y = .ref b ∧ SqT K H a xs ∧ SqT K H b ys ∧ xs ≠ [] ∧ xs.length + ys.length ≤ sizeLine ∧
  (ys = [] → Q (.ref a) H) ∧ (ys ≠ [] → ∀ p, H p = none → Q (.ref p) (upd H p (.tup (xs ++ ys))))
theorem Vals.nil_iff {xs : List V} {us : List Value} (r : Vals xs us) : us = [] ↔ xs = [] := by
  cases r with
  | nil => simp
  | cons _ _ => simp
theorem op_catT : OpR X (binaryOp .Add) (rCatT X.K) := by
  intro pins s σ H x y v u Q I rx ry h
  obtain ⟨a, b, xs, ys, rfl, rfl, ha, hb, hx, hz, q1, q2⟩ := h
  cases rx
  cases ry
  obtain ⟨its, r1, p1, _⟩ := I.tuple ha
  obtain ⟨its2, r2, p2, _⟩ := I.tuple hb
  refine HT.cat_tup p1 p2 (fun z => hx (r1.nil_iff.mp z)) (fun z => ⟨.ref a, H, I, rfl, q1 (r2.nil_iff.mp z)⟩) (fun z => ?_) (by rw [← r1.length, ← r2.length]; exact hz)
  refine ⟨.ref s.heap.objs.size, _, I.laid (t' := s.toks) (o := .tup (xs ++ ys)) (fun b ob q => Heap.get?_push_of_some _ q) (Nat.le_refl _) ?_, rfl, q2 (fun w => z (r2.nil_iff.mpr w)) _ (I.hok.fresh (Nat.le_refl _))⟩
  exact ⟨by rw [List.length_append]; exact hz, _, r1.append r2, IsTup.new _ _⟩
end
end L2
namespace L2
open PySem PySem.Spec PyProof.Rows
def ixN (n : Nat) (i : Int) : Option Nat := if 0 ≤ i then (if i < n then some i.toNat else none) else if -(n : Int) ≤ i then some (i + n).toNat else none
def atI {α : Type} (xs : List α) (i : Int) : Option α := (ixN xs.length i).bind fun j => xs[j]?
theorem ixN_seq {n : Nat} {i : Int} {j : Nat} (h : ixN n i = some j) : seqIndex? i n = some j ∧ j < n ∧ -(n : Int) ≤ i ∧ i < n := by
  unfold ixN at h
  by_cases h0 : 0 ≤ i
  · rw [if_pos h0] at h
    by_cases h1 : i < n
    · rw [if_pos h1] at h
      have e : i.toNat = j := Option.some.inj h
      exact ⟨by rw [seqIndex_of h0 h1, e], by omega, by omega, h1⟩
    · rw [if_neg h1] at h; cases h
  · rw [if_neg h0] at h
    by_cases h1 : -(n : Int) ≤ i
    · rw [if_pos h1] at h
      have e : (i + n).toNat = j := Option.some.inj h
      exact ⟨by rw [seqIndex_neg (by omega) h1, e], by omega, h1, by omega⟩
    · rw [if_neg h1] at h; cases h
theorem atI_get {α : Type} {xs : List α} {i : Int} {v : α} (h : atI xs i = some v) : ∃ j, seqIndex? i xs.length = some j ∧ xs[j]? = some v ∧ j < xs.length ∧ -(xs.length : Int) ≤ i ∧ i < xs.length := by
  unfold atI at h
  cases e : ixN xs.length i with
  | none => rw [e] at h; cases h
  | some j =>
    rw [e] at h
    obtain ⟨h1, h2, h3, h4⟩ := ixN_seq e
    exact ⟨j, h1, h, h2, h3, h4⟩
theorem atI_nat {α : Type} {xs : List α} {j : Nat} {v : α} (h : xs[j]? = some v) : atI xs (j : Int) = some v := by
  have hj : j < xs.length := (List.getElem?_eq_some_iff.mp h).1
  have e : ixN xs.length (j : Int) = some j := by
    unfold ixN
    rw [if_pos (by omega), if_pos (by omega)]; simp
  unfold atI; rw [e]; exact h
def PlainIx (b : Expr) : Prop := ∀ o i, subscripted b false o i = operate [o, i] (getItem o i)
def IxR (X : Cx) (r : R2) : Prop :=
  ∀ (value slice : Expr) (pins : List (Addr × Obj)) (s : Shared) (σ : St) (H : Hp) (x y : V) (v u : Value) (Q : VK), Inv X pins σ H s → RelV x v → RelV y u → r x y H Q →
    subscripted slice false v u = operate [v, u] (getItem v u) → wpAny (model X.prog X.w) X.A (subscriptTail value slice v u) (EP X pins σ Q) X.xe s
def MtR (X : Cx) (id : String) (r : V → List V → Hp → VK → Prop) : Prop :=
  ∀ (pins : List (Addr × Obj)) (s : Shared) (σ : St) (H : Hp) (x : V) (xs : List V) (v : Value) (us : List Value) (Q : VK), Inv X pins σ H s → RelV x v → Vals xs us → r x xs H Q →
    wpAny (model X.prog X.w) X.A (call (.builtin id) (v :: us)) (EP X pins σ Q) X.xe s
section
variable {X : Cx} {a b : Expr} {ta tb : TE} {pos : Pos}
theorem pe_ix {r : R2} (hr : IxR X r) (ha : PE X a ta) (hb : PE X b tb) (hs : PlainIx b) : PE X (.Subscript a b pos) (tOp r ta tb) := by
  intro pins s σ H Q I h
  exact Subscript_ (binT ha hb I h fun v u s2 x y H2 I2 rx ry q => hr a b pins s2 σ H2 x y v u Q I2 rx ry q (hs _ _))
def rIxL (K : PySem.W.Frag) : R2 := fun x y H Q => ∃ p xs i v, x = .ref p ∧ y = .int i ∧ SqL K H p xs ∧ atI xs i = some v ∧ Q v H
def rIxT (K : PySem.W.Frag) : R2 := fun x y H Q => ∃ p xs i v, x = .ref p ∧ y = .int i ∧ SqT K H p xs ∧ atI xs i = some v ∧ Q v H
def rIxS : R2 := fun x y H Q => ∃ z i c, x = .str z ∧ y = .int i ∧ z.length ≤ sizeLine ∧ atI z.cps.toList i = some c ∧ Q (.str ⟨#[c]⟩) H
theorem ix_list : IxR X (rIxL X.K) := by
  intro value slice pins s σ H x y v u Q I rx ry h hs
  obtain ⟨p, xs, i, z, rfl, rfl, hq, he, q⟩ := h
  cases rx
  obtain ⟨t, rfl⟩ := ry
  obtain ⟨its, r, pl, hz⟩ := I.list hq
  obtain ⟨j, h1, h2, h3, h4, h5⟩ := atI_get he
  obtain ⟨w, ew, rw'⟩ := r.get h2
  have hl := r.length
  have hn := line63
  have fin : EP X pins σ Q w s := ⟨z, H, I, rw', q⟩
  by_cases h0 : 0 ≤ i
  · have hj : i.toNat = j := by
      rw [seqIndex_of h0 h5] at h1
      exact Option.some.inj h1
    exact item_listR pl.isList h0 (by omega) (by rw [hj]; simpa using ew) fin hs
  · have hj : (i + (its.toArray.size : Int)).toNat = j := by
      rw [seqIndex_neg (by omega) h4] at h1
      rw [List.size_toArray, ← hl]
      exact Option.some.inj h1
    exact subscriptTail_builtinR (x := w) pl.isList.typeIs slot_list_getitem.lookup
      (wpAny_getItem_list_neg (Q := fun r s' => r = w ∧ EP X pins σ Q r s') pl.isList (by omega) (by rw [List.size_toArray] <;> omega) (by omega) (by rw [hj]; simpa using ew) ⟨rfl, fin⟩) hs
theorem ix_tup : IxR X (rIxT X.K) := by
  intro value slice pins s σ H x y v u Q I rx ry h hs
  obtain ⟨p, xs, i, z, rfl, rfl, hq, he, q⟩ := h
  cases rx
  obtain ⟨t, rfl⟩ := ry
  obtain ⟨its, r, pl, hz⟩ := I.tuple hq
  obtain ⟨j, h1, h2, h3, h4, h5⟩ := atI_get he
  obtain ⟨w, ew, rw'⟩ := r.get h2
  have hl := r.length
  have hn := line63
  have fin : EP X pins σ Q w s := ⟨z, H, I, rw', q⟩
  exact subscriptTail_builtinR (x := w) pl.typeIs slot_tuple_getitem.lookup
    (getItem_tuple (j := j) (Q := fun r s' => r = w ∧ EP X pins σ Q r s') pl (by omega) (by omega) (by rw [List.size_toArray, ← hl]; exact h1) (by simpa using ew) ⟨rfl, fin⟩) hs
theorem ix_str : IxR X rIxS := by
  intro value slice pins s σ H x y v u Q I rx ry h hs
  obtain ⟨z, i, c, rfl, rfl, hz, he, q⟩ := h
  obtain ⟨t, rfl⟩ := rx
  obtain ⟨t', rfl⟩ := ry
  obtain ⟨j, h1, h2, h3, h4, h5⟩ := atI_get he
  have hl : z.cps.toList.length = z.length := by simp [Str.length]
  rw [hl] at h1 h4 h5
  have hn := line63
  exact tail_any (typeIs_str s z t) slot_str_getitem.lookup (getItem_str (c := c) (by
    have e1 : decide (i < -(2 ^ 63 : Int)) = false := decide_eq_false (by omega)
    have e2 : decide (i ≥ 2 ^ 63) = false := decide_eq_false (by omega)
    rw [e1, e2, Bool.or_false]) (by rw [h1]; simpa using h2) ⟨.str ⟨#[c]⟩, H, I.tok _, ⟨_, rfl⟩, q⟩) hs
def rIx (K : PySem.W.Frag) : R2 := fun x y H Q => rIxL K x y H Q ∨ rIxT K x y H Q ∨ rIxS x y H Q
theorem mapSeq_set (its : List Value) (n j : Nat) (u : Value) : Obj.mapSeq (·.setIfInBounds j u) { cls := .type "list", data := .seq its.toArray n } = { cls := .type "list", data := .seq (its.set j u).toArray n } := by
  simp [Obj.mapSeq]
theorem Inv.lst {pins : List (Addr × Obj)} {σ : St} {H : Hp} {s : Shared} {p : Addr} {xs : List V} (I : Inv X pins σ H s) (h : H p = some (.lst xs)) :
    ∃ (its : List Value) (n : Nat), Vals xs its ∧ s.heap.get? p = some { cls := .type "list", data := .seq its.toArray n } ∧ xs.length ≤ sizeLine := by
  obtain ⟨z, its, n, r, e⟩ := I.hok p _ h
  exact ⟨its, n, r, e, z⟩
theorem Inv.lstUpd {pins : List (Addr × Obj)} {σ : St} {H : Hp} {s : Shared} {p : Addr} {xs ys : List V} {its its' : List Value} {n n' : Nat} {f : Obj → Obj} (I : Inv X pins σ H s) (h : H p = some (.lst xs))
    (ho : s.heap.get? p = some { cls := .type "list", data := .seq its.toArray n }) (hf : f { cls := .type "list", data := .seq its.toArray n } = { cls := .type "list", data := .seq its'.toArray n' }) (r : Vals ys its') (hz : ys.length ≤ sizeLine) (t : Nat) :
    Inv X pins σ (upd H p (.lst ys)) { s with heap := s.heap.update p f, toks := t } := by
  have e : (s.heap.update p f).get? p = some { cls := .type "list", data := .seq its'.toArray n' } := by
    rw [Heap.get?_update_self f ho (by rw [hf] <;> rfl), hf]
  refine I.write (x := p) (e := p) (by rw [h]; trivial) (.inl rfl) (fun b u hb q => (Heap.get?_update_other _ _ (Ne.symm hb)).trans q) ⟨_, e⟩ ?_
  exact ⟨hz, its', n', r, e⟩
def rSetL : V → V → V → Hp → (Hp → Prop) → Prop := fun o i v H Q => ∃ p xs k j, o = .ref p ∧ i = .int k ∧ H p = some (.lst xs) ∧ ixN xs.length k = some j ∧ Q (upd H p (.lst (xs.set j v)))
theorem set_list : PSet X rSetL := by
  intro pins s σ H o i v ov iv u Q I ro ri rv h
  obtain ⟨p, xs, k, j, rfl, rfl, hp, hj, q⟩ := h
  cases ro
  obtain ⟨t, rfl⟩ := ri
  obtain ⟨its, n, r, ho, hz⟩ := I.lst hp
  obtain ⟨h1, h2, h3, h4⟩ := ixN_seq hj
  have hl := r.length
  have hn := line63
  have I' : Inv X pins σ (upd H p (.lst (xs.set j v))) { s with heap := s.heap.update p (Obj.mapSeq (·.setIfInBounds j u)) } :=
    I.lstUpd hp ho (mapSeq_set its n j u) (r.set rv j) (by rw [List.length_set]; exact hz) s.toks
  by_cases h0 : 0 ≤ k
  · have hk : k.toNat = j := by
      rw [seqIndex_of h0 h4] at h1
      exact Option.some.inj h1
    exact PySem.W.ki_setAt ho h0 (by omega) (by rw [List.size_toArray, ← hl]; exact h4) (by rw [hk]; exact ⟨_, I', q⟩)
  · have hk : (k + (its.toArray.size : Int)).toNat = j := by
      rw [seqIndex_neg (by omega) h3] at h1
      rw [List.size_toArray, ← hl]
      exact Option.some.inj h1
    exact PySem.W.ki_setBack ho (by omega) (by rw [List.size_toArray, ← hl]; exact h3) (by omega) (by rw [hk]; exact ⟨_, I', q⟩)
theorem slice_bounds (lo hi : Option Int) (n : Nat) : (sliceBounds lo hi none n).1 = ((HT.sIx n 0 lo : Nat) : Int) ∧ (sliceBounds lo hi none n).2.1 = ((HT.sIx n n hi : Nat) : Int) ∧ (sliceBounds lo hi none n).2.2 = 1 := by
  refine ⟨?_, ?_, rfl⟩
  · cases lo with
    | none => simp [sliceBounds, HT.sIx]
    | some i =>
      simp only [sliceBounds, HT.sIx, Option.getD_none, show (1 : Int) > 0 by decide, if_true]
      by_cases h : i < 0
      · simp only [h, if_true] <;> omega
      · simp only [h, if_false] <;> omega
  · cases hi with
    | none => simp [sliceBounds, HT.sIx]
    | some i =>
      simp only [sliceBounds, HT.sIx, Option.getD_none, show (1 : Int) > 0 by decide, if_true]
      by_cases h : i < 0
      · simp only [h, if_true] <;> omega
      · simp only [h, if_false] <;> omega
theorem slicePick_cut (its : List Value) (lo hi : Option Int) : slicePick its.toArray lo hi none = ((its.drop (HT.sIx its.length 0 lo)).take (HT.sIx its.length its.length hi - HT.sIx its.length 0 lo)).toArray := by
  obtain ⟨h1, h2, h3⟩ := slice_bounds lo hi its.toArray.size
  unfold slicePick
  rw [h1, h2, h3]
  simp only [sliceRange_one, pick_run, List.size_toArray] <;> rfl
def rSlL (K : PySem.W.Frag) : V → Option Int → Option Int → Hp → VK → Prop := fun x lo hi H Q => ∃ a xs, x = .ref a ∧ SqL K H a xs ∧ ∀ p, H p = none → Q (.ref p) (upd H p (.lst (cutV xs lo hi)))
theorem sl_list : SlR X (rSlL X.K) := by
  intro pins s σ H x v vl vu lo hi sl Q I rx hs pl pu h
  obtain ⟨a, xs, rfl, hx, q⟩ := h
  cases rx
  obtain ⟨its, r, ht, hz⟩ := I.list hx
  have hlen := r.length
  refine ⟨"list", _, slot_list_getitem.lookup, ht.isList.typeIs, ?_⟩
  refine wpAny_getItem_list_slice ht.isList hs pl pu .none (by simp) ?_ (by rw [List.size_toArray] <;> omega)
  rw [slicePick_cut, ← hlen]
  refine ⟨.ref s.heap.objs.size, _, I.laid (t' := s.toks) (o := .lst (cutV xs lo hi)) (fun b ob q => Heap.get?_push_of_some _ q) (Nat.le_refl _) ?_, rfl, q _ (I.hok.fresh (Nat.le_refl _))⟩
  exact ⟨Nat.le_trans (cutV_length xs lo hi) hz, _, 0, (r.drop (HT.sIx xs.length 0 lo)).take (HT.sIx xs.length xs.length hi - HT.sIx xs.length 0 lo), Heap.get?_push_size _ rfl⟩
def flatV : V → Bool
  | .non => true
  | .bl _ => true
  | .int _ => true
  | .str _ => true
  | _ => false
def eqV : V → V → Bool
  | .non, .non => true
  | .bl a, .bl b => a == b
  | .bl a, .int b => (if a then 1 else 0) == b
  | .int a, .bl b => a == (if b then 1 else 0)
  | .int a, .int b => a == b
  | .str a, .str b => a == b
  | _, _ => false
def eqU (x : V) (u : Value) : Bool := match u with
  | .none => eqV .non x
  | .bool b => eqV (.bl b) x
  | .int i _ => eqV (.int i) x
  | .str z _ => eqV (.str z) x
  | _ => false
def inV (x : V) (xs : List V) : Bool := xs.any fun y => eqV y x
def rIn (K : PySem.W.Frag) (neg : Bool) : R2 := fun x y H Q => ∃ p xs, y = .ref p ∧ (SqL K H p xs ∨ SqT K H p xs) ∧ flatV x = true ∧ xs.all flatV = true ∧ Q (.bl (if neg then !inV x xs else inV x xs)) H
theorem call_len_seq : CallR X (.builtin "len") (fun xs H Q => ∃ p ys, xs = [.ref p] ∧ (SqL X.K H p ys ∨ SqT X.K H p ys) ∧ Q (.int ys.length) H) := by
  intro pins s σ H xs us Q I r h
  obtain ⟨p, ys, rfl, hq, q⟩ := h
  obtain ⟨u, rfl, rx⟩ := vals1 r
  cases rx
  have hn := line63
  rcases hq with hq | hq
  · obtain ⟨its, r', pl, hz⟩ := I.list hq
    have hlen := r'.length
    exact Calls.call_len_list pl.isList (by simp only [List.size_toArray] <;> omega) ⟨.int ys.length, H, I.tok _, ⟨s.toks + 1, by rw [List.size_toArray, hlen]⟩, q⟩
  · obtain ⟨its, r', pl, hz⟩ := I.tuple hq
    have hlen := r'.length
    exact len_tuple pl (by simp only [List.size_toArray] <;> omega) ⟨.int ys.length, H, I.tok _, ⟨s.toks + 1, by rw [List.size_toArray, hlen]⟩, q⟩
theorem call_len_str : CallR X (.builtin "len") (fun xs H Q => ∃ z, xs = [.str z] ∧ z.length ≤ sizeLine ∧ Q (.int z.length) H) := by
  intro pins s σ H xs us Q I r h
  obtain ⟨z, rfl, hz, q⟩ := h
  obtain ⟨u, rfl, t, rfl⟩ := vals1 r
  have hn := line63
  exact len_str (by omega) ⟨.int z.length, H, I.tok _, ⟨_, rfl⟩, q⟩
theorem call_list_of : CallR X (.type "list") (fun xs H Q => ∃ p ys, xs = [.ref p] ∧ (SqL X.K H p ys ∨ SqT X.K H p ys) ∧ ∀ l, H l = none → Q (.ref l) (upd H l (.lst ys))) := by
  intro pins s σ H xs us Q I r h
  obtain ⟨p, ys, rfl, hq, q⟩ := h
  obtain ⟨u, rfl, rx⟩ := vals1 r
  cases rx
  have fin : ∀ (its : List Value), Vals ys its → ys.length ≤ sizeLine → ∀ (h' : Heap) (c' : Nat), (∀ b o', s.heap.get? b = some o' → h'.get? b = some o') →
      h'.get? s.heap.objs.size = some { cls := .type "list", dict := none, data := .seq its.toArray c', slots := #[] } → EP X pins σ Q (.ref s.heap.objs.size) { s with heap := h' } := fun its r' hz h' c' kp e =>
    ⟨.ref s.heap.objs.size, _, I.laid (t' := s.toks) kp (Nat.le_refl _) (show ObjOk X.prog X.w _ h' _ (.lst ys) from ⟨hz, its, c', r', e⟩), rfl, q _ (I.hok.fresh (Nat.le_refl _))⟩
  rcases hq with hq | hq
  · obtain ⟨its, r', pl, hz⟩ := I.list hq
    have hlen := r'.length
    obtain ⟨o, ho, hc, n, hd⟩ := pl.isList
    exact call_list_seq p (.inl rfl) ho hc hd (fun h' c' kp e => fin its r' hz h' c' kp e) (by simp only [List.size_toArray] <;> omega)
  · obtain ⟨its, r', pl, hz⟩ := I.tuple hq
    have hlen := r'.length
    obtain ⟨o, ho, hc, n, hd⟩ := pl
    exact call_list_seq p (.inr rfl) ho hc hd (fun h' c' kp e => fin its r' hz h' c' kp e) (by simp only [List.size_toArray] <;> omega)
theorem call_tuple_of : CallR X (.type "tuple") (fun xs H Q => ∃ p ys, xs = [.ref p] ∧ ((SqL X.K H p ys ∧ ∀ l, H l = none → Q (.ref l) (upd H l (.tup ys))) ∨ (SqT X.K H p ys ∧ Q (.ref p) H))) := by
  intro pins s σ H xs us Q I r h
  obtain ⟨p, ys, rfl, h⟩ := h
  obtain ⟨u, rfl, rx⟩ := vals1 r
  cases rx
  rcases h with ⟨hq, q⟩ | ⟨hq, q⟩
  · obtain ⟨its, r', pl, hz⟩ := I.list hq
    have hlen := r'.length
    refine call_tuple_list pl.isList (fun h' kp => ?_) (by simp only [List.size_toArray] <;> omega)
    have I1 : Inv X pins σ H { s with heap := h' } := I.kept (t' := s.toks) kp
    have I2 : Inv X pins σ (upd H h'.objs.size (.tup ys)) { s with heap := h'.push { cls := .type "tuple", data := .seq its.toArray } } :=
      I1.laid (t' := s.toks) (fun b o e => Heap.get?_push_of_some _ e) (Nat.le_refl _) (show ObjOk X.prog X.w _ _ _ (.tup ys) from ⟨hz, its, r', IsTup.new _ _⟩)
    exact ⟨.ref h'.objs.size, _, I2, rfl, q _ (I1.hok.fresh (Nat.le_refl _))⟩
  · obtain ⟨its, r', pl, hz⟩ := I.tuple hq
    exact call_tuple_same pl ⟨.ref p, H, I, rfl, q⟩
def tyV (K : PySem.W.Frag) (T : String) (x : V) (H : Hp) : Prop := match x with
  | .str _ => T = "str"
  | .int _ => T = "int"
  | .ref p => (T = "list" ∧ ∃ xs, SqL K H p xs) ∨ (T = "tuple" ∧ ∃ o, K.lookup p = some o ∧ o.cls = .type "tuple" ∧ o.dict = none) ∨
      (T = "dict" ∧ ((∃ kvs, H p = some (.dK kvs)) ∨ ∃ kvs, H p = some (.dT kvs))) ∨ (T = "set" ∧ ∃ S n, H p = some (.set S n))
  | _ => False
theorem tyV_is {pins : List (Addr × Obj)} {σ : St} {H : Hp} {s : Shared} {T : String} {x : V} {v : Value} (I : Inv X pins σ H s) (r : RelV x v) (ty : tyV X.K T x H) :
    s.TypeIs v T ∧ ∀ a, v = .ref a → ∃ ob, s.heap.get? a = some ob ∧ ob.dict = none := by
  cases x with
  | str z =>
    obtain ⟨t, rfl⟩ := r
    cases (show T = "str" from ty)
    exact ⟨typeIs_str s z t, fun _ e => nomatch e⟩
  | int i =>
    obtain ⟨t, rfl⟩ := r
    cases (show T = "int" from ty)
    exact ⟨typeIs_int s i t, fun _ e => nomatch e⟩
  | ref p =>
    cases r
    rcases ty with ⟨rfl, xs, hq⟩ | ⟨rfl, o, hk, hc, hd⟩ | ⟨rfl, hk⟩ | ⟨rfl, S, n, hk⟩
    · obtain ⟨its, _, pl, _⟩ := I.list hq
      refine ⟨pl.isList.typeIs, fun a e => ?_⟩
      cases e
      obtain ⟨o, n, e, c, hd, _⟩ := pl
      exact ⟨o, e, hd⟩
    · refine ⟨⟨o, I.kIn p o hk, hc⟩, fun a e => ?_⟩
      cases e
      exact ⟨o, I.kIn _ o hk, hd⟩
    · have z : ∃ o, s.heap.get? p = some o ∧ o.ExactDict := by
        rcases hk with ⟨kvs, hk⟩ | ⟨kvs, hk⟩
        · obtain ⟨_, _, _, _, o, _, _, e, ex, _⟩ := I.hok p _ hk
          exact ⟨o, e, ex⟩
        · obtain ⟨_, _, _, _, o, _, _, e, ex, _⟩ := I.hok p _ hk
          exact ⟨o, e, ex⟩
      obtain ⟨o, e, ex⟩ := z
      refine ⟨⟨o, e, ex.1⟩, fun a e2 => ?_⟩
      cases e2
      exact ⟨o, e, ex.2.1⟩
    · obtain ⟨o, _, _, _, e, ex, _⟩ := I.hok p _ hk
      refine ⟨⟨o, e, ex.1⟩, fun a e2 => ?_⟩
      cases e2
      exact ⟨o, e, ex.2.1⟩
  | _ => exact False.elim ty
def tBM0 (K : PySem.W.Frag) (T : String) (r : V → List V → Hp → VK → Prop) (to : TE) : TE := fun σ H Q => to σ H fun x H1 => tyV K T x H1 ∧ r x [] H1 Q
def tBM (K : PySem.W.Frag) (T : String) (r : V → List V → Hp → VK → Prop) (to : TE) (t : TA) : TE := fun σ H Q => to σ H fun x H1 => tyV K T x H1 ∧ t σ H1 fun xs H2 => r x xs H2 Q
variable {o e : Expr} {es : List Expr} {to : TE} {t : TA} {name : Str} {apos cpos : Pos} {T id : String} {r : V → List V → Hp → VK → Prop}
theorem pe_bm (pa : PlainAttrs T) (slot : Slot T name id) (hty : typeOf (.builtin id) = pure (.type "method_descriptor")) (hm : MtR X id r) (ho : PE X o to) (ha : PA X (e :: es) t)
    (hbase : attributeBase o name X.env (eval o X.env) = eval o X.env := by rfl)
    (hfew : ((backTo cpos (starEach (e :: es) X.env)).all (fun x => !x.1) && (backToKw cpos (keywordEach [] X.env)).all (fun x => x.1.isSome)
      && decide ((e :: es).length + ([] : List Keyword).length + (if ([] : List Keyword).isEmpty then 0 else 1) < 30)) = true := by rfl)
    (hline : (apos.endLine == cpos.line) = true := by rfl) (hs : starEach (e :: es) X.env = (false, eval e X.env) :: starEach es X.env := by rfl) (hplain : (backTo cpos (starEach es X.env)).any (·.1) = false := by rfl) :
    PE X (.Call (.Attribute o name apos) (e :: es) [] cpos) (tBM X.K T r to t) := by
  intro pins s σ H Q I h
  refine wpAny_Call_method_late hbase hfew hline rfl (thn (ho pins s σ H _ I h) fun v s1 ⟨x, H1, I1, r1, ty, q1⟩ => ?_)
  obtain ⟨h1, h2⟩ := tyV_is I1 r1 ty
  refine ⟨T, id, pa, slot, hty, h1, h2, ?_⟩
  have hA := ha cpos pins s1 σ H1 _ I1 q1
  rw [hs] at hA ⊢
  refine Calls.callWith_builtin (by show (false || (backTo cpos (starEach es X.env)).any (·.1)) = false; rw [hplain] <;> rfl) (Calls.evalArgs_plain ?_)
  exact thn hA fun us s2 ⟨vs, H2, I2, r2, q2⟩ => hm pins s2 σ H2 x vs v us Q I2 r1 r2 q2
/- xs.append(e), list.index on a module's tuple .. are MtR facts of 06m -/
end
end L2
namespace L2
open PySem PySem.Spec PyProof.Rows
def MtM (X : Cx) (id : String) (r : V → List V → Hp → VK → Prop) : Prop :=
  ∀ (pins : List (Addr × Obj)) (s : Shared) (σ : St) (H : Hp) (x : V) (xs : List V) (v : Value) (us : List Value) (Q : VK), Inv X pins σ H s → RelV x v → Vals xs us → r x xs H Q →
    wpAny (model X.prog X.w) X.A (call (.builtin id) (v :: us)) (EP X pins σ Q) X.xe s
theorem Vals.one : ∀ {x : V} {us : List Value}, Vals [x] us → ∃ u, us = [u] ∧ RelV x u
  | _, _, .cons r .nil => ⟨_, rfl, r⟩
theorem Vals.two : ∀ {x y : V} {us : List Value}, Vals [x, y] us → ∃ u v, us = [u, v] ∧ RelV x u ∧ RelV y v
  | _, _, _, .cons r (.cons q .nil) => ⟨_, _, rfl, r, q⟩
section
variable {X : Cx} {pins : List (Addr × Obj)} {σ : St} {H : Hp} {s : Shared} {l b : Addr} {xs ys zs : List V}
theorem Inv.lset {its its' : List Value} {n : Nat} {f : Array Value → Array Value} {t' : Nat} (I : Inv X pins σ H s) (hH : H l = some (.lst xs))
    (e : s.heap.get? l = some { cls := .type "list", data := .seq its.toArray n }) (hf : f its.toArray = its'.toArray) (hv : Vals ys its') (hz : ys.length ≤ sizeLine) :
    Inv X pins σ (upd H l (.lst ys)) { s with heap := s.heap.update l (Obj.mapSeq f), toks := t' } := by
  have q := PySem.IsL.update e f
  rw [hf] at q
  refine I.write (x := l) (e := l) (by rw [hH]; exact trivial) (.inl rfl) (fun b' u hb hu => (Heap.get?_update_other s.heap (Obj.mapSeq f) (Ne.symm hb)).trans hu) ⟨_, q⟩ ?_
  exact ⟨hz, its', _, hv, q⟩
theorem Inv.lnew {its : List Value} {t' : Nat} (I : Inv X pins σ H s) (hv : Vals ys its) (hz : ys.length ≤ sizeLine) :
    Inv X pins σ (upd H s.heap.objs.size (.lst ys)) { s with heap := s.heap.push { cls := .type "list", data := .seq its.toArray }, toks := t' } :=
  I.laid (fun _ _ q => Heap.get?_push_of_some _ q) (Nat.le_refl _) ⟨hz, its, 0, hv, Heap.get?_push_size _ rfl⟩
theorem Inv.fresh (I : Inv X pins σ H s) : H s.heap.objs.size = none := I.hok.fresh (Nat.le_refl _)
theorem Inv.lstM (I : Inv X pins σ H s) (hH : H l = some (.lst xs)) : xs.length ≤ sizeLine ∧ ∃ (its : List Value) (n : Nat), Vals xs its ∧ xs.length = its.length ∧ s.heap.get? l = some { cls := .type "list", data := .seq its.toArray n } := by
  obtain ⟨z, its, n, r, e⟩ := I.hok l _ hH
  exact ⟨z, its, n, r, r.length, e⟩
end
section
variable {X : Cx}
def rAppend : V → List V → Hp → VK → Prop := fun x vs H Q => ∃ l xs y, x = .ref l ∧ vs = [y] ∧ H l = some (.lst xs) ∧ xs.length < sizeLine ∧ Q .non (upd H l (.lst (xs ++ [y])))
theorem mt_append : MtM X "list.append" rAppend := by
  intro pins s σ H x vs v us Q I rx rv h
  obtain ⟨l, xs, y, rfl, rfl, hH, hz, q⟩ := h
  cases rx
  obtain ⟨u, rfl, ru⟩ := rv.one
  obtain ⟨z, its, n, r, hl, e⟩ := I.lstM hH
  refine call_meets F.slot_list_append ⟨_, e, rfl⟩ F.entry_list_append (F.args_list_append_2 _ _) (PySem.list_append l its.toArray n u (by rw [List.size_toArray]; omega)) ⟨e, ?_⟩
  refine ⟨.non, _, I.lset (its' := its ++ [u]) hH e (by simp) (r.append (.cons ru .nil)) ?_, rfl, q⟩
  rw [List.length_append, List.length_singleton]
  omega
def rExtend : V → List V → Hp → VK → Prop := fun x vs H Q => ∃ l b xs zs, x = .ref l ∧ vs = [.ref b] ∧ H l = some (.lst xs) ∧ H b = some (.lst zs) ∧ xs.length + zs.length ≤ sizeLine ∧ Q .non (upd H l (.lst (xs ++ zs)))
def rPop : V → List V → Hp → VK → Prop := fun x vs H Q => ∃ l xs y, x = .ref l ∧ vs = [] ∧ H l = some (.lst xs) ∧ xs[xs.length - 1]? = some y ∧ Q y (upd H l (.lst xs.dropLast))
def rPopAt : V → List V → Hp → VK → Prop := fun x vs H Q => ∃ l xs i k y, x = .ref l ∧ vs = [.int i] ∧ H l = some (.lst xs) ∧ -(2 ^ 63) ≤ i ∧ i < 2 ^ 63 ∧ seqIndex? i xs.length = some k ∧ xs[k]? = some y ∧ Q y (upd H l (.lst (xs.eraseIdx k)))
def rReverse : V → List V → Hp → VK → Prop := fun x vs H Q => ∃ l xs, x = .ref l ∧ vs = [] ∧ H l = some (.lst xs) ∧ Q .non (upd H l (.lst xs.reverse))
def rClear : V → List V → Hp → VK → Prop := fun x vs H Q => ∃ l xs, x = .ref l ∧ vs = [] ∧ H l = some (.lst xs) ∧ Q .non (upd H l (.lst []))
def rCat : R2 := fun x y H Q => ∃ l b xs zs, x = .ref l ∧ y = .ref b ∧ H l = some (.lst xs) ∧ H b = some (.lst zs) ∧ xs.length + zs.length ≤ sizeLine ∧ ∀ p, H p = none → Q (.ref p) (upd H p (.lst (xs ++ zs)))
theorem op_cat : OpR X (binaryOp .Add) rCat := by
  intro pins s σ H x y v u Q I rx ry h
  obtain ⟨l, b, xs, zs, rfl, rfl, hH, hB, hz, q⟩ := h
  cases rx
  cases ry
  obtain ⟨z, its, n, r, hl, e⟩ := I.lstM hH
  obtain ⟨z2, its2, n2, r2, hl2, e2⟩ := I.lstM hB
  refine PySem.P.add_list e e2 ?_ (by rw [List.size_toArray, List.size_toArray]; omega)
  have ea : its.toArray ++ its2.toArray = (its ++ its2).toArray := by simp
  rw [ea]
  exact ⟨.ref _, _, I.lnew (t' := s.toks) (r.append r2) (by rw [List.length_append]; omega), rfl, q _ I.fresh⟩
def rRep : R2 := fun x y H Q => ∃ l k xs, x = .ref l ∧ y = .int k ∧ H l = some (.lst xs) ∧ -(2 ^ 63) ≤ k ∧ k < 2 ^ 63 ∧ xs.length * k.toNat ≤ sizeLine ∧
  ∀ p, H p = none → Q (.ref p) (upd H p (.lst (List.replicate k.toNat xs).flatten))
end
section
variable {prog : Program} {w : World} {A : Around} {E : Value → Shared → Prop} {s : Shared}
end
section
variable {X : Cx}
end
end L2
namespace Att
open PySem PySem.W PySem.Calls PyProof.Rows
theorem ints_of_wellAll {P : Params} {h : Heap} : ∀ (ns : List Int) (vs : List Value), WellAll P h vs (ns.map WData.int) → IntsAre vs ns := by
  intro ns
  induction ns with
  | nil =>
    intro vs w
    rw [List.map_nil] at w
    cases w
    exact .nil
  | cons n ns ih =>
    intro vs w
    rw [List.map_cons] at w
    cases w with
    | cons a b =>
      cases a
      exact .cons _ _ (ih _ b)
theorem script_of {l : OpenLaw} {n : Nat} (hn : l.most = some n) {P : Params} {h : Heap} {args : List WData} {vals : List Value}
    (hpre : l.row.toRowW.claim.pre args = true) (hwl : WellAll P h vals args) :
    ∃ a vs ns, vals = [Value.ref a] ∧ args = [WData.list (ns.map WData.int)] ∧ h.get? a = some { cls := .type "list", data := .seq vs.toArray } ∧ IntsAre vs ns ∧ ns.length ≤ n := by
  have hsh : WShape.hasAll [] args [.list .int] = true := (pre_splitW hpre).1
  have hc : l.pre.holds [] { args := args } = true := (pre_splitW hpre).2
  obtain ⟨d, r, rfl, h1, h2⟩ := hasAllW_cons hsh
  obtain rfl := hasAllW_nil h2
  obtain ⟨xs, rfl, h3⟩ := hasW_list h1
  obtain ⟨ns, rfl⟩ := items_int h3
  have hlen : ns.length ≤ n := by
    unfold OpenLaw.pre at hc
    have h4 : (WTm.not (.lt (.lit (.int (n : Int))) (.len (.arg 0)))).holds [] { args := [.list (ns.map .int)] } = true := by
      have h4 := (holds_andW hc).1
      rw [hn] at h4
      exact h4
    have h5 := condW_of h4 (w_not (w_lt w_lit (w_len_list (w_arg rfl))))
    rw [List.length_map] at h5
    refine Nat.le_of_not_lt fun q => ?_
    have q' : (n : Int) < ((ns.length : Nat) : Int) := by omega
    first
      | (rw [decide_eq_true q'] at h5; exact absurd h5 (by decide))
      | (simp at h5; omega)
  cases hwl with
  | cons w1 w2 =>
    cases w2
    cases w1 with
    | list ho hall => exact ⟨_, _, ns, rfl, rfl, ho, ints_of_wellAll ns _ hall, hlen⟩
theorem post_true (l : OpenLaw) (args : List WData) : l.row.toRowW.claim.post args (.bool true) args = true :=
  postW_of (r := l.row.toRowW) (X := (true == true))
    (show WShape.has [] (.bool true) .bool = true by first | rfl | decide | simp [WShape.has, WShape.arms, WShape.armsAll])
    (show (WTm.eq .res (.lit (.bool true))).value [] { args := args, res := some (.bool true), after := args } = some (.bool (true == true)) from w_eq_bool (w_res rfl) w_lit) rfl
theorem attach_call {l : OpenLaw} {n : Nat} {q : Program} {loose : List Str} {XP : (Str → Option Value) → Heap → Prop} {YP : World → Heap → Prop} {d : DefRec}
    (hn : l.most = some n) (hdf : d.params.defaults = [])
    (call : ∀ (w : World) (s₀ s₁ : Shared) (mg mb : Str → Option Value) (fa : Addr) (o : Obj) (pm cd doc : Value) (a : Addr) (vs : List Value) (ns : List Int),
      Ground q loose [] XP w s₀ mg mb s₁.heap → YP w s₁.heap →
      s₁.heap.get? fa = some o → o.data = .func (docDef d.name d.params d.body d.scope pm cd doc) → s₁.heap.CodeRec cd d.name → mg d.name = some (.ref fa) →
      s₁.heap.get? a = some { cls := .type "list", data := .seq vs.toArray } → IntsAre vs ns → ns.length ≤ n → s₁.gens = #[] →
      codeAny (model l.prog w) callerA (.call (.ref fa) ⟨[.ref a], []⟩) (fun r s' => r = .ok (.ret (.bool true)) ∧ OldK s₁.heap s'.heap ∧ s'.os = s₁.os ∧ AllBare s'.gens) s₁) :
    WalkO q loose XP YP l.row.toRowW d [] (fun f vs => PySem.call f vs) := by
  intro w s₀ s₁ mg mb G Y fa o pm cd doc dV kV ho hd hcd hD hmg hg args vals as hpre hlay hrd hwl hlo
  obtain rfl : dV = .none := Dflts.none hD hdf
  obtain rfl : kV = .none := Dflts.noKw hD
  obtain ⟨a, vs, ns, rfl, rfl, hobj, hints, hlen⟩ := script_of hn hpre hwl
  refine enter_call (codeAny_mono (call w s₀ s₁ mg mb fa o pm cd doc a vs ns G Y ho (fd_plain hd) hcd hmg hobj hints hlen hg) fun r s' hq => ?_)
  obtain ⟨rfl, h2, h3, h4⟩ := hq
  exact ⟨.inl ⟨.bool true, .bool true, [], rfl, fun _ => rfl, .bool true, post_true l _, fun _ => ⟨List.Pairwise.nil, fun _ hm => (nomatch hm)⟩⟩, h2, h3, h4⟩
section
variable {prog : Program} {w : World} {A : Around} {E : Value → Shared → Prop} {s : Shared} {K : Frag}
def noObjs (h : Heap) : Heap := { h with objs := #[] }
def ledger (h : Heap) (L d : Addr) : List (Addr × Obj) := (List.range h.objs.size).filterMap fun a => if a = L ∨ a = d then none else (h.get? a).map fun o => (a, o)
end
end Att
namespace L2
open PySem PySem.Spec PyProof.Rows
theorem vals_ints : ∀ {vs : List Value} {ns : List Int}, IntsAre vs ns → Vals (ns.map V.int) vs
  | _, _, .nil => .nil
  | _, _, .cons n t h => .cons ⟨t, rfl⟩ (vals_ints h)
def Only (H : Hp) : Prop := ∀ b, H b = none ∨ ∃ o xs, H b = some (.frz o (.lst xs))
end L2
namespace L2
open PySem PySem.Spec PyProof.Rows
abbrev KOf {K : PySem.W.Frag} {h : Heap} (_ : K.In h) : PySem.W.Frag := K
end L2
namespace L2
open PySem PySem.Spec PyProof.Rows
def inClass (s : Stmt) (j : Nat) : Stmt := match s with
  | .ClassDef _ _ _ body _ _ _ _ _ _ _ => body.getD j (.Pass ⟨0, 0, 0, 0⟩)
  | _ => .Pass ⟨0, 0, 0, 0⟩
def defArgs (s : Stmt) : Arguments := match s with
  | .FunctionDef _ a _ _ _ _ _ _ _ _ => a
  | _ => { posonlyargs := [], args := [], vararg := none, kwonlyargs := [], kw_defaults := [], kwarg := none, defaults := [] }
def defBody (s : Stmt) : List Stmt := match s with
  | .FunctionDef _ _ b _ _ _ _ _ _ _ => b
  | _ => []
def defScope (s : Stmt) : Scope := match s with
  | .FunctionDef _ _ _ _ _ _ sc _ _ _ => sc
  | _ => { kind := .function, names := [], isGenerator := false, isCoroutine := false }
abbrev CX0 : CXT := fun _ _ _ _ _ _ => False
abbrev E0 : XK := fun _ _ _ => False
structure Fun (K : PySem.W.Frag) (x qual : Str) (st : Stmt) (f : Addr) (fd : FuncData) : Prop where
  ex : ∃ (oc : Value) (od : Option Addr) (kV doc pm : Value) (an : Option Addr) (cdv ct : Value) (osl : Array (Option Value)),
    fd = PySem.W.fnOf x qual (defArgs st) (defBody st) (defScope st) .none kV doc pm an cdv ct ∧ K.lookup f = some ⟨oc, od, .func fd, osl⟩ ∧ PySem.W.codeIn K cdv qual = true
  kp : PySem.W.keepIn K (.ref f) = true
section
variable {P : Program} {w : World} {K : PySem.W.Frag} {mg : Str → Option Value} {base : Heap}
end
section
variable {X : Cx}
theorem pv (i : Nat) {x : Str} {pos : Pos} (hN : X.N[i]? = some x := by rfl) (hv : Vis X.env.scope x := by first | exact Or.inl rfl | exact Or.inr (Or.inl rfl) | exact Or.inr (Or.inr rfl)) (hd : (x == ("__debug__" : Str)) = false := by decide)
    (hcd : (x == ("__classdict__" : Str)) = false := by decide) : PE X (.Name x pos) (tVar i) := pe_var hN hv hd hcd
end
theorem iteF {A B : Prop} (h : B) : if false = true then A else B := by
  rw [if_neg Bool.false_ne_true]
  exact h
theorem iteT {A B : Prop} (h : A) : if true = true then A else B := by
  rw [if_pos rfl]
  exact h
def Same (H H' : Hp) : Prop := ∀ b o, H b = some o → H' b = some o
theorem Same.refl (H : Hp) : Same H H := fun _ _ h => h
theorem Same.trans {H H1 H2 : Hp} (a : Same H H1) (b : Same H1 H2) : Same H H2 := fun c o h => b c o (a c o h)
theorem Same.free {H H' : Hp} (e : Same H H') {l : Addr} (h : H' l = Option.none) : H l = Option.none := by
  cases q : H l with
  | none => rfl
  | some o =>
    rw [e l o q] at h
    cases h
theorem Same.seq {K : PySem.W.Frag} {H H' : Hp} {a : Addr} {xs : List V} (e : Same H H') (h : SqL K H a xs) : SqL K H' a xs := by
  rcases h with (h | ⟨o, h⟩) | h
  · exact .inl (.inl (e _ _ h))
  · exact .inl (.inr ⟨o, e _ _ h⟩)
  · exact .inr h
end L2
set_option Elab.async false
set_option linter.all false
set_option maxRecDepth 100000
namespace L2
open PySem PySem.Spec PyProof.Rows
abbrev kn (b : Bool) : String := if b then "tuple_iterator" else "list_iterator"
def SqAt (b : Bool) (h : Heap) (l : Addr) (items : Array Value) : Prop := match b with
  | true => h.IsTuple l items
  | false => h.IsList l items
def IterAt (b : Bool) (h : Heap) (it l : Addr) (i : Nat) : Prop := match b with
  | true => h.IsTupleIter it l i
  | false => h.IsListIter it l i
theorem SqAt.at {b : Bool} {h h' : Heap} {l : Addr} {items : Array Value} (x : SqAt b h l items) (e : ∀ o, h.get? l = some o → h'.get? l = some o) : SqAt b h' l items := by
  cases b with
  | true => obtain ⟨o, ho, r⟩ := x; exact ⟨o, e o ho, r⟩
  | false => exact Heap.IsList.at x e
theorem IterAt.obj {b : Bool} {h : Heap} {it l : Addr} {i : Nat} (x : IterAt b h it l i) : ∃ o, h.get? it = some o ∧ ∀ v, o.data ≠ .cell v := by
  cases b <;> (obtain ⟨o, ho, c, d⟩ := x; exact ⟨o, ho, fun v z => by rw [d] at z; cases z⟩)
theorem IterAt.at {b : Bool} {h h' : Heap} {it l : Addr} {i : Nat} (x : IterAt b h it l i) (e : ∀ o, h.get? it = some o → h'.get? it = some o) : IterAt b h' it l i := by
  cases b <;> (obtain ⟨o, ho, r⟩ := x; exact ⟨o, e o ho, r⟩)
section
variable {prog : Program} {w : World} {A : Around} {E : Value → Shared → Prop} {s : Shared}
theorem next_tup_item {it t : Addr} {i : Nat} {items : Array Value} {x : Value} {Q : Value → Shared → Prop} (hit : s.heap.IsTupleIter it t i) (ht : s.heap.IsTuple t items) (hx : items[i]? = some x)
    (hQ : ∀ h', h'.IsTupleIter it t (i + 1) → Heap.SameBut it s.heap h' → Q x { s with heap := h' }) : wpAny (model prog w) A (Builtin.SmallTypes.nextOf (.ref it)) Q E s := by
  obtain ⟨o, ho, hc, hd⟩ := id hit; obtain ⟨ol, hol, _, nl, hdl⟩ := ht
  unfold Builtin.SmallTypes.nextOf; refine wpAny_bind (wpAny_callSpecial?_slot (name := Str.ofString "__next__") hit.typeIs F.slot_tuple_iterator_next (wpAny_call_entry F.slot_tuple_iterator_next hit.typeIs F.entry_tuple_iterator_next ?_ (F.args_tuple_iterator_next_1 _)))
  show wpAny _ _ (field (.ref it) 0 >>= _) _ _ s; refine wpAny_bind (wpAny_field ho hd (x := .ref t) rfl ?_)
  show wpAny _ _ (if (Value.ref t == Value.none) = true then _ else _) _ _ s; rw [if_neg (by intro z; cases z)]
  show wpAny _ _ (field (.ref it) 1 >>= _) _ _ s; refine wpAny_bind (wpAny_field ho hd (x := .int i 0) rfl ?_)
  show wpAny _ _ (seqItems? (.ref t) >>= _) _ _ s; refine wpAny_bind (wpAny_seqItems hol hdl ?_); simp only [Int.toNat_natCast, hx]
  refine wpAny_bind (wpAny_setField ho hd (by simp) (wpAny_pure ⟨x, rfl, wpAny_pure (hQ _ ⟨_, Heap.get?_update_self _ ho (Obj.isFreed_of_fields (Obj.data_mapFields hd _)), (Obj.cls_mapFields ..).trans hc, ?_⟩ (Heap.SameBut.update ..))⟩))
  rw [Obj.data_mapFields hd]; simp [rawInt]
theorem next_tup_end {it t : Addr} {i : Nat} {items : Array Value} {Q : Value → Shared → Prop} (hh : A.handled = none) (hit : s.heap.IsTupleIter it t i) (ht : s.heap.IsTuple t items) (hx : items[i]? = none)
    (hE : ∀ h' e, Heap.ExtBut it s.heap h' → (∃ o, h'.get? e = some o ∧ o.cls = .type "StopIteration") → E (.ref e) { s with heap := h' }) : wpAny (model prog w) A (Builtin.SmallTypes.nextOf (.ref it)) Q E s := by
  obtain ⟨o, ho, hc, hd⟩ := id hit; obtain ⟨ol, hol, _, nl, hdl⟩ := ht
  unfold Builtin.SmallTypes.nextOf; refine wpAny_bind (wpAny_callSpecial?_slot (name := Str.ofString "__next__") hit.typeIs F.slot_tuple_iterator_next (wpAny_call_entry F.slot_tuple_iterator_next hit.typeIs F.entry_tuple_iterator_next ?_ (F.args_tuple_iterator_next_1 _)))
  show wpAny _ _ (field (.ref it) 0 >>= _) _ _ s; refine wpAny_bind (wpAny_field ho hd (x := .ref t) rfl ?_)
  show wpAny _ _ (if (Value.ref t == Value.none) = true then _ else _) _ _ s; rw [if_neg (by intro z; cases z)]
  show wpAny _ _ (field (.ref it) 1 >>= _) _ _ s; refine wpAny_bind (wpAny_field ho hd (x := .int i 0) rfl ?_)
  show wpAny _ _ (seqItems? (.ref t) >>= _) _ _ s; refine wpAny_bind (wpAny_seqItems hol hdl ?_); simp only [Int.toNat_natCast, hx]
  refine wpAny_bind (wpAny_rule (wpAny_bind (wpAny_setField ho hd (by simp) ?_))); show wpAny _ _ (newExc (.type "StopIteration") [] >>= _) _ _ _
  refine wpAny_bind ?_; simp only [newExc, newTuple]
  refine wpAny_bind (wpAny_newObj_type ?_ (by size_fits)); refine wpAny_bind (m := firstArgMember _ _) (wpAny_of_eq (a := Value.none) (by first | rfl | (simp only [firstArgMember]; rfl)) ?_)
  refine wpAny_newObj_type ?_ (by size_fits); simp only [raiseNew]; refine wpAny_bind (wpAny_handled ?_)
  first | rw [show A.in1.handled = none from hh] | rw [hh]
  refine wpAny_bind (wpAny_pure (wpAny_throw ?_)); exact hE _ _ (((Heap.SameBut.update ..).extBut.push _).push _) ⟨_, Heap.get?_push_size _ rfl, rfl⟩
theorem next_item {b : Bool} {it l : Addr} {i : Nat} {items : Array Value} {x : Value} {Q : Value → Shared → Prop} (hit : IterAt b s.heap it l i) (hl : SqAt b s.heap l items) (hx : items[i]? = some x)
    (hQ : ∀ h', IterAt b h' it l (i + 1) → Heap.SameBut it s.heap h' → Q x { s with heap := h' }) : wpAny (model prog w) A (Builtin.SmallTypes.nextOf (.ref it)) Q E s := by
  cases b with
  | true => exact next_tup_item hit hl hx hQ
  | false => exact wpAny_nextOf_list_item hit hl hx hQ
theorem next_end {b : Bool} {it l : Addr} {i : Nat} {items : Array Value} {Q : Value → Shared → Prop} (hh : A.handled = none) (hit : IterAt b s.heap it l i) (hl : SqAt b s.heap l items) (hx : items[i]? = none)
    (hE : ∀ h' e, Heap.ExtBut it s.heap h' → (∃ o, h'.get? e = some o ∧ o.cls = .type "StopIteration") → E (.ref e) { s with heap := h' }) : wpAny (model prog w) A (Builtin.SmallTypes.nextOf (.ref it)) Q E s := by
  cases b with
  | true => exact next_tup_end hh hit hl hx hE
  | false => exact wpAny_nextOf_list_end hh hit hl hx hE
theorem iter_sq {b : Bool} {l : Addr} {items : Array Value} {Q : Value → Shared → Prop} (hl : SqAt b s.heap l items)
    (hQ : Q (.ref s.heap.objs.size) { s with heap := s.heap.push { cls := .type (kn b), data := .fields #[.ref l, .int 0 0] } }) : wpAny (model prog w) A (pyIter (.ref l)) Q E s := by
  cases b with
  | true => exact wpAny_pyIter_tuple hl hQ
  | false => exact wpAny_pyIter_list hl hQ
structure ZSt (b1 b2 : Bool) (z TI TO i1 i2 l1 l2 : Addr) (f0 : Value) (k : Nat) (h : Heap) : Prop where
  zip : IsZip h z TI TO f0
  ti : IsPair h TI (.ref i1) (.ref i2)
  to : ∃ a b, IsPair h TO a b
  it1 : IterAt b1 h i1 l1 k
  it2 : IterAt b2 h i2 l2 k
theorem ZSt.at {b1 b2 : Bool} {z TI TO i1 i2 l1 l2 : Addr} {f0 : Value} {k : Nat} {h h' : Heap} (x : ZSt b1 b2 z TI TO i1 i2 l1 l2 f0 k h) (e : ∀ b ∈ [z, TI, TO, i1, i2], ∀ o, h.get? b = some o → h'.get? b = some o) :
    ZSt b1 b2 z TI TO i1 i2 l1 l2 f0 k h' :=
  ⟨e z (by simp) _ x.zip, e TI (by simp) _ x.ti, let ⟨a, b, q⟩ := x.to; ⟨a, b, e TO (by simp) _ q⟩, x.it1.at fun o q => e i1 (by simp) o q, x.it2.at fun o q => e i2 (by simp) o q⟩
theorem zip_item {b1 b2 : Bool} {z TI TO i1 i2 l1 l2 : Addr} {k : Nat} {xs ys : Array Value} {x y : Value} {Q : Value → Shared → Prop} (D : ZipApart z TI TO i1 i2 l1 l2) (S : ZSt b1 b2 z TI TO i1 i2 l1 l2 .none k s.heap)
    (hl1 : SqAt b1 s.heap l1 xs) (hl2 : SqAt b2 s.heap l2 ys) (hx : xs[k]? = some x) (hy : ys[k]? = some y)
    (hQ : ∀ h', ZSt b1 b2 z TI TO i1 i2 l1 l2 (rawInt s.heap.objs.size) (k + 1) h' → IsPair h' s.heap.objs.size x y → h'.objs.size = s.heap.objs.size + 1 →
      (∀ c o, c ≠ z → c ≠ TO → c ≠ i1 → c ≠ i2 → s.heap.get? c = some o → h'.get? c = some o) → Q (.ref s.heap.objs.size) { s with heap := h' }) :
    wpAny (model prog w) A (Builtin.«zip.__next__» ⟨[.ref z], []⟩) (fun fin s' => ∃ v, fin = .done (.ret v) ∧ Q v s') E s := by
  obtain ⟨hz, hTI, ⟨a, b, hTO⟩, h1, h2⟩ := S
  show wpAny _ _ (field (.ref z) 2 >>= _) _ _ _; refine wpAny_bind (wpAny_field hz rfl (x := .bool false) rfl ?_)
  show wpAny _ _ (field (.ref z) 3 >>= _) _ _ _; refine wpAny_bind (wpAny_field hz rfl (x := .ref TI) rfl (wpAny_bind (wpAny_seqItems hTI rfl ?_)))
  show wpAny _ _ (Builtin.SmallTypes.ownedTupleIsFree (.ref z) >>= _) _ _ _; refine wpAny_bind ?_
  unfold Builtin.SmallTypes.ownedTupleIsFree; refine wpAny_bind (wpAny_field hz rfl (x := .none) rfl (wpAny_pure ?_)); simp only [if_true]
  refine wpAny_bind (wpAny_rule (wpAny_bind (wpAny_field hz rfl (x := .ref TO) rfl ?_)))
  refine wpAny_bind (wpAny_setField_rec hz (by simp) fun g1 z1 e1 => ?_)
  replace z1 : IsZip g1 z TI TO .ellipsis := z1; refine wpAny_bind ?_
  simp only [List.zipIdx_cons, List.zipIdx_nil, List.forIn_cons, List.forIn_nil]; refine wpAny_bind (wpAny_bind (wpAny_onRaise ?_))
  show wpAny _ _ (Builtin.SmallTypes.nextOf (.ref i1) >>= _) _ _ _
  have k1 : ∀ c o, c ≠ z → s.heap.get? c = some o → g1.get? c = some o := fun c o hc e => e1.extBut c o hc e
  refine wpAny_bind (next_item (s := { s with heap := g1 }) (h1.at fun o q => k1 i1 o D.i1z q) (hl1.at fun o q => k1 l1 o D.l1z q) hx fun g2 t2 e2 => wpAny_pure ?_)
  have k2 : ∀ c o, c ≠ z → c ≠ i1 → s.heap.get? c = some o → g2.get? c = some o := fun c o hc hd e => e2.extBut c o hd (k1 c o hc e)
  have p2 : IsPair g2 TO a b := k2 TO _ D.TOz D.TOi1 hTO
  refine wpAny_bind (wpAny_seqItems p2 rfl (wpAny_bind (wpAny_updateSeq_pair p2 fun g3 p3 e3 => ?_)))
  replace p3 : IsPair g3 TO x b := p3; refine wpAny_bind (wpAny_letGo (wpAny_pure ?_)); refine wpAny_bind (wpAny_bind (wpAny_onRaise ?_))
  show wpAny _ _ (Builtin.SmallTypes.nextOf (.ref i2) >>= _) _ _ _
  have k3 : ∀ c o, c ≠ z → c ≠ i1 → c ≠ TO → s.heap.get? c = some o → g3.get? c = some o := fun c o hc hd he e => e3.extBut c o he (k2 c o hc hd e)
  refine wpAny_bind (next_item (s := { s with heap := g3 }) (h2.at fun o q => k3 i2 o D.i2z D.i12.symm D.TOi2.symm q) (hl2.at fun o q => k3 l2 o D.l2z D.l2i1 D.l2TO q) hy fun g4 t4 e4 => wpAny_pure ?_)
  have p4 : IsPair g4 TO x b := e4.extBut _ _ D.TOi2 p3
  refine wpAny_bind (wpAny_seqItems p4 rfl (wpAny_bind (wpAny_updateSeq_pair p4 fun g5 p5 e5 => ?_)))
  replace p5 : IsPair g5 TO x y := p5; refine wpAny_bind (wpAny_letGo (wpAny_pure (wpAny_pure ?_))); refine wpAny_bind (wpAny_seqItems p5 rfl (wpAny_bind (wpAny_newTuple ?_)))
  have sz : g5.objs.size = s.heap.objs.size := by rw [e5.1, e4.1, e3.1, e2.1, e1.1]
  have z5 : IsZip g5 z TI TO .ellipsis := e5.extBut _ _ D.TOz.symm (e4.extBut _ _ D.i2z.symm (e3.extBut _ _ D.TOz.symm (e2.extBut _ _ D.i1z.symm z1)))
  have k5 : ∀ c o, c ≠ z → c ≠ TO → c ≠ i1 → c ≠ i2 → s.heap.get? c = some o → g5.get? c = some o := fun c o c1 c2 c3 c4 e => e5.extBut _ _ c2 (e4.extBut _ _ c4 (k3 c o c1 c3 c2 e))
  have t5 : IterAt b1 g5 i1 l1 (k + 1) := t2.at fun o q => e5.extBut _ _ D.TOi1.symm (e4.extBut _ _ D.i12 (e3.extBut _ _ D.TOi1.symm q))
  have u5 : IterAt b2 g5 i2 l2 (k + 1) := t4.at fun o q => e5.extBut _ _ D.TOi2.symm q
  have zlt : z < g5.objs.size := Heap.lt_size z5
  show wpAny _ _ (Builtin.SmallTypes.ownedTupleHandOut (.ref z) (.ref g5.objs.size) >>= _) _ _ _; refine wpAny_bind ?_
  unfold Builtin.SmallTypes.ownedTupleHandOut
  have z6 : IsZip (g5.push { cls := .type "tuple", data := .seq #[x, y] }) z TI TO .ellipsis := Heap.get?_push_of_some _ z5
  refine wpAny_bind (wpAny_setField_rec z6 (by simp) fun g7 z7 e7 => ?_)
  replace z7 : IsZip g7 z TI TO (rawInt g5.objs.size) := z7; refine wpAny_setField_rec z7 (by simp) fun g8 z8 e8 => ?_
  replace z8 : IsZip g8 z TI TO (rawInt g5.objs.size) := z8
  have up : ∀ c o, c ≠ z → g5.get? c = some o → g8.get? c = some o := fun c o c1 e => e8.extBut _ _ c1 (e7.extBut _ _ c1 (Heap.get?_push_of_some _ e))
  have p8 : IsPair g8 g5.objs.size x y := e8.extBut _ _ (Nat.ne_of_gt zlt) (e7.extBut _ _ (Nat.ne_of_gt zlt) (Heap.get?_push_size _ rfl))
  have s8 : g8.objs.size = g5.objs.size + 1 := by rw [e8.1, e7.1, Heap.size_push]
  rw [sz] at z8 p8 s8
  refine wpAny_pure ⟨_, rfl, ?_⟩
  show Q (.ref g5.objs.size) _
  rw [sz]
  exact hQ g8 ⟨z8, up _ _ D.TIz (k5 TI _ D.TIz D.TITO D.TIi1 D.TIi2 hTI), ⟨_, _, up _ _ D.TOz p5⟩, t5.at fun o q => up _ o D.i1z q, u5.at fun o q => up _ o D.i2z q⟩ p8 s8 fun c o c1 c2 c3 c4 e => up c o c1 (k5 c o c1 c2 c3 c4 e)
theorem zip_end {b1 b2 : Bool} {z TI TO i1 i2 l1 l2 : Addr} {k : Nat} {xs ys : Array Value} {Q : Fin → Shared → Prop} (hh : A.handled = none) (D : ZipApart z TI TO i1 i2 l1 l2) (S : ZSt b1 b2 z TI TO i1 i2 l1 l2 .none k s.heap)
    (hl1 : SqAt b1 s.heap l1 xs) (hl2 : SqAt b2 s.heap l2 ys) (hend : xs[k]? = none ∨ ys[k]? = none)
    (hE : ∀ h' e, (∀ c o, c ≠ z → c ≠ TO → c ≠ i1 → c ≠ i2 → s.heap.get? c = some o → h'.get? c = some o) → (∃ o, h'.get? e = some o ∧ o.cls = .type "StopIteration") → E (.ref e) { s with heap := h' }) :
    wpAny (model prog w) A (Builtin.«zip.__next__» ⟨[.ref z], []⟩) Q E s := by
  obtain ⟨hz, hTI, ⟨a, b, hTO⟩, h1, h2⟩ := S
  show wpAny _ _ (field (.ref z) 2 >>= _) _ _ _; refine wpAny_bind (wpAny_field hz rfl (x := .bool false) rfl ?_)
  show wpAny _ _ (field (.ref z) 3 >>= _) _ _ _; refine wpAny_bind (wpAny_field hz rfl (x := .ref TI) rfl (wpAny_bind (wpAny_seqItems hTI rfl ?_)))
  show wpAny _ _ (Builtin.SmallTypes.ownedTupleIsFree (.ref z) >>= _) _ _ _; refine wpAny_bind ?_
  unfold Builtin.SmallTypes.ownedTupleIsFree; refine wpAny_bind (wpAny_field hz rfl (x := .none) rfl (wpAny_pure ?_)); simp only [if_true]
  refine wpAny_bind (wpAny_rule (wpAny_bind (wpAny_field hz rfl (x := .ref TO) rfl ?_)))
  refine wpAny_bind (wpAny_setField_rec hz (by simp) fun g1 z1 e1 => ?_)
  replace z1 : IsZip g1 z TI TO .ellipsis := z1; refine wpAny_bind ?_
  simp only [List.zipIdx_cons, List.zipIdx_nil, List.forIn_cons, List.forIn_nil]; refine wpAny_bind (wpAny_bind (wpAny_onRaise ?_))
  show wpAny _ _ (Builtin.SmallTypes.nextOf (.ref i1) >>= _) _ _ _
  have k1 : ∀ c o, c ≠ z → s.heap.get? c = some o → g1.get? c = some o := fun c o hc e => e1.extBut c o hc e
  cases hx : xs[k]? with
  | none =>
    refine wpAny_bind (next_end (s := { s with heap := g1 }) hh (h1.at fun o q => k1 i1 o D.i1z q) (hl1.at fun o q => k1 l1 o D.l1z q) hx fun g2 e e2 he => ?_)
    obtain ⟨oe, hoe, hce⟩ := he
    have z2 : IsZip g2 z TI TO .ellipsis := e2 _ _ D.i1z.symm z1
    have ez : e ≠ z := fun q => by subst q; rw [z2] at hoe; cases hoe; simp at hce
    exact wpAny_setField_rec z2 (by simp) fun g3 _ e3 => hE g3 e (fun c o c1 _ c3 _ q => e3.extBut _ _ c1 (e2 _ _ c3 (k1 c o c1 q))) ⟨oe, e3.extBut _ _ ez hoe, hce⟩
  | some x =>
    have hy : ys[k]? = none := by
      rcases hend with q | q
      · rw [hx] at q; cases q
      · exact q
    refine wpAny_bind (next_item (s := { s with heap := g1 }) (h1.at fun o q => k1 i1 o D.i1z q) (hl1.at fun o q => k1 l1 o D.l1z q) hx fun g2 t2 e2 => wpAny_pure ?_)
    have k2 : ∀ c o, c ≠ z → c ≠ i1 → s.heap.get? c = some o → g2.get? c = some o := fun c o hc hd e => e2.extBut c o hd (k1 c o hc e)
    have p2 : IsPair g2 TO a b := k2 TO _ D.TOz D.TOi1 hTO
    refine wpAny_bind (wpAny_seqItems p2 rfl (wpAny_bind (wpAny_updateSeq_pair p2 fun g3 p3 e3 => ?_)))
    refine wpAny_bind (wpAny_letGo (wpAny_pure ?_)); refine wpAny_bind (wpAny_bind (wpAny_onRaise ?_))
    show wpAny _ _ (Builtin.SmallTypes.nextOf (.ref i2) >>= _) _ _ _
    have k3 : ∀ c o, c ≠ z → c ≠ i1 → c ≠ TO → s.heap.get? c = some o → g3.get? c = some o := fun c o hc hd he e => e3.extBut c o he (k2 c o hc hd e)
    refine wpAny_bind (next_end (s := { s with heap := g3 }) hh (h2.at fun o q => k3 i2 o D.i2z D.i12.symm D.TOi2.symm q) (hl2.at fun o q => k3 l2 o D.l2z D.l2i1 D.l2TO q) hy fun g4 e e4 he => ?_)
    obtain ⟨oe, hoe, hce⟩ := he
    have z4 : IsZip g4 z TI TO .ellipsis := e4 _ _ D.i2z.symm (e3.extBut _ _ D.TOz.symm (e2.extBut _ _ D.i1z.symm z1))
    have ez : e ≠ z := fun q => by subst q; rw [z4] at hoe; cases hoe; simp at hce
    exact wpAny_setField_rec z4 (by simp) fun g5 _ e5 => hE g5 e (fun c o c1 c2 c3 c4 q => e5.extBut _ _ c1 (e4 _ _ c4 (k3 c o c1 c3 c2 q))) ⟨oe, e5.extBut _ _ ez hoe, hce⟩
end
end L2
namespace L2
open PySem PySem.Spec PyProof.Rows
abbrev zq1 (b1 : Bool) (h : Heap) (l1 : Addr) : Heap := h.push { cls := .type (kn b1), data := .fields #[.ref l1, .int 0 0] }
abbrev zq2 (b1 b2 : Bool) (h : Heap) (l1 l2 : Addr) : Heap := (zq1 b1 h l1).push { cls := .type (kn b2), data := .fields #[.ref l2, .int 0 0] }
abbrev zq3 (b1 b2 : Bool) (h : Heap) (l1 l2 : Addr) : Heap := (zq2 b1 b2 h l1 l2).push { cls := .type "tuple", data := .seq #[.ref h.objs.size, .ref (zq1 b1 h l1).objs.size] }
abbrev zq4 (b1 b2 : Bool) (h : Heap) (l1 l2 : Addr) : Heap := (zq3 b1 b2 h l1 l2).push { cls := .type "tuple", data := .seq #[.none, .none] }
abbrev zq5 (b1 b2 : Bool) (h : Heap) (l1 l2 : Addr) : Heap := (zq4 b1 b2 h l1 l2).push { cls := .type "zip", data := .fields #[.none, .bool false, .bool false, .ref (zq2 b1 b2 h l1 l2).objs.size, .ref (zq3 b1 b2 h l1 l2).objs.size] }
theorem zip_made (b1 b2 : Bool) (l1 l2 : Addr) (xs ys : Array Value) : Meets (Builtin.«zip.__new__» ⟨[.type "zip", .ref l1, .ref l2], []⟩) (fun _ R s => SqAt b1 s.heap l1 xs ∧ SqAt b2 s.heap l2 ys ∧
      R (.ok (.ret (.ref (zq4 b1 b2 s.heap l1 l2).objs.size))) { s with heap := zq5 b1 b2 s.heap l1 l2 }) :=
  .of_wp fun prog w A R s h => by
    obtain ⟨hp, g, d, tk, os⟩ := s; obtain ⟨hl1, hl2, h⟩ := h
    have hsub := sub_zip
    have q1 : SqAt b1 (Shared.heap ⟨hp, g, d, tk, os⟩) l1 xs := hl1
    have q2 : SqAt b2 (Shared.heap ⟨hp.push { cls := .type (kn b1), data := .fields #[.ref l1, .int 0 0] }, g, d, tk, os⟩) l2 ys := SqAt.at hl2 fun o e => Heap.get?_push_of_some _ e
    wp_walk using iter_sq q1, iter_sq q2
    exact ⟨_, rfl, h⟩
theorem call_zip {prog : Program} {w : World} {A : Around} {E : Value → Shared → Prop} {s : Shared} {b1 b2 : Bool} {l1 l2 : Addr} {xs ys : Array Value} {Q : Value → Shared → Prop} (hl1 : SqAt b1 s.heap l1 xs) (hl2 : SqAt b2 s.heap l2 ys)
    (h : ∀ h', ZSt b1 b2 (s.heap.objs.size + 4) (s.heap.objs.size + 2) (s.heap.objs.size + 3) s.heap.objs.size (s.heap.objs.size + 1) l1 l2 .none 0 h' → (∀ c o, s.heap.get? c = some o → h'.get? c = some o) → h'.objs.size = s.heap.objs.size + 5 →
      Q (.ref (s.heap.objs.size + 4)) { s with heap := h' }) : wpAny (model prog w) A (call (.type "zip") [.ref l1, .ref l2]) Q E s := by
  refine callType_new F.called_zip (by decide) (F.typeCall_zip_2 _ _) (F.newCall_zip_2 _ _) (fun obj => F.args_object_init_3 obj _ _) F.entry_zip_new (zip_made b1 b2 l1 l2 xs ys) ⟨hl1, hl2, ?_⟩
  have z1 : (zq1 b1 s.heap l1).objs.size = s.heap.objs.size + 1 := Heap.size_push ..
  have z2 : (zq2 b1 b2 s.heap l1 l2).objs.size = s.heap.objs.size + 2 := by rw [Heap.size_push, z1]
  have z3 : (zq3 b1 b2 s.heap l1 l2).objs.size = s.heap.objs.size + 3 := by rw [Heap.size_push, z2]
  have z4 : (zq4 b1 b2 s.heap l1 l2).objs.size = s.heap.objs.size + 4 := by rw [Heap.size_push, z3]
  have z5 : (zq5 b1 b2 s.heap l1 l2).objs.size = s.heap.objs.size + 5 := by rw [Heap.size_push, z4]
  have up1 : ∀ {h : Heap} {o : Obj} {c : Addr} {u : Obj}, h.get? c = some u → (h.push o).get? c = some u := fun e => Heap.get?_push_of_some _ e
  have g5 : (zq5 b1 b2 s.heap l1 l2).get? (zq4 b1 b2 s.heap l1 l2).objs.size = some _ := Heap.get?_push_size _ rfl
  have g4 : (zq5 b1 b2 s.heap l1 l2).get? (zq3 b1 b2 s.heap l1 l2).objs.size = some _ := up1 (Heap.get?_push_size _ rfl)
  have g3 : (zq5 b1 b2 s.heap l1 l2).get? (zq2 b1 b2 s.heap l1 l2).objs.size = some _ := up1 (up1 (Heap.get?_push_size _ rfl))
  have g2 : (zq5 b1 b2 s.heap l1 l2).get? (zq1 b1 s.heap l1).objs.size = some _ := up1 (up1 (up1 (Heap.get?_push_size _ rfl)))
  have g1 : (zq5 b1 b2 s.heap l1 l2).get? s.heap.objs.size = some _ := up1 (up1 (up1 (up1 (Heap.get?_push_size _ rfl))))
  show _ ∧ _
  rw [z2, z3, z4] at g5
  rw [z1, z2] at g3
  rw [z3] at g4
  rw [z1] at g2
  rw [z4]
  refine ⟨⟨_, g5, rfl⟩, h _ ⟨g5, g3, ⟨_, _, g4⟩, ?_, ?_⟩ (fun c o x => up1 (up1 (up1 (up1 (up1 x))))) z5⟩
  · cases b1 <;> exact ⟨_, g1, rfl, rfl⟩
  · cases b2 <;> exact ⟨_, g2, rfl, rfl⟩
theorem pyNext_zip_item {prog : Program} {w : World} {A : Around} {E : Value → Shared → Prop} {s : Shared} {b1 b2 : Bool} {z TI TO i1 i2 l1 l2 : Addr} {k : Nat} {xs ys : Array Value} {x y : Value} {Q : Option Value → Shared → Prop} (D : ZipApart z TI TO i1 i2 l1 l2)
    (S : ZSt b1 b2 z TI TO i1 i2 l1 l2 .none k s.heap) (hl1 : SqAt b1 s.heap l1 xs) (hl2 : SqAt b2 s.heap l2 ys) (hx : xs[k]? = some x) (hy : ys[k]? = some y)
    (hQ : ∀ h', ZSt b1 b2 z TI TO i1 i2 l1 l2 (rawInt s.heap.objs.size) (k + 1) h' → IsPair h' s.heap.objs.size x y → h'.objs.size = s.heap.objs.size + 1 →
      (∀ c o, c ≠ z → c ≠ TO → c ≠ i1 → c ≠ i2 → s.heap.get? c = some o → h'.get? c = some o) → Q (some (.ref s.heap.objs.size)) { s with heap := h' }) : wpAny (model prog w) A (pyNext (.ref z)) Q E s := by
  have hT : s.TypeIs (.ref z) "zip" := ⟨_, S.zip, rfl⟩; unfold pyNext
  refine wpAny_bind (wpAny_attempt (wpAny_callSpecial?_slot (name := Str.ofString "__next__") hT F.slot_zip_next (wpAny_call_entry F.slot_zip_next hT F.entry_zip_next ?_ (F.args_zip_next_1 _))))
  exact zip_item D S hl1 hl2 hx hy fun h' a1 a2 a3 a4 => wpAny_pure (hQ h' a1 a2 a3 a4)
theorem pyNext_zip_end {prog : Program} {w : World} {A : Around} {E : Value → Shared → Prop} {s : Shared} {b1 b2 : Bool} {z TI TO i1 i2 l1 l2 : Addr} {k : Nat} {xs ys : Array Value} {Q : Option Value → Shared → Prop} (hh : A.handled = none) (D : ZipApart z TI TO i1 i2 l1 l2)
    (S : ZSt b1 b2 z TI TO i1 i2 l1 l2 .none k s.heap) (hl1 : SqAt b1 s.heap l1 xs) (hl2 : SqAt b2 s.heap l2 ys) (hend : xs[k]? = none ∨ ys[k]? = none)
    (hQ : ∀ h', (∀ c o, c ≠ z → c ≠ TO → c ≠ i1 → c ≠ i2 → s.heap.get? c = some o → h'.get? c = some o) → Q none { s with heap := h' }) : wpAny (model prog w) A (pyNext (.ref z)) Q E s := by
  have hT : s.TypeIs (.ref z) "zip" := ⟨_, S.zip, rfl⟩; unfold pyNext
  refine wpAny_bind (wpAny_attempt (wpAny_callSpecial?_slot (name := Str.ofString "__next__") hT F.slot_zip_next (wpAny_call_entry F.slot_zip_next hT F.entry_zip_next ?_ (F.args_zip_next_1 _))))
  refine zip_end hh D S hl1 hl2 hend fun h' e hk ⟨o, ho, hc⟩ => ?_
  exact wpAny_bind (wpAny_isInstance (T := "StopIteration") (b := true) ⟨o, ho, hc⟩ isSubtype_stop (wpAny_pure (hQ _ hk)))
end L2
namespace L2
open PySem PySem.Spec PyProof.Rows
section
variable {prog : Program} {w : World} {A : Around} {R : Result → Shared → Prop} {s : Shared}
abbrev E00 : Value → Shared → Prop := fun _ _ => False
abbrev ifsOf (ifs : List Expr) (env : Env) : Sem Bool :=
  forIn ifs true fun c r => if r = true then do
      let ok ← isTrue c env (eval c env)
      pure (ForInStep.yield ok)
    else pure (ForInStep.yield r)
theorem comp_turns {elt tg iter : Expr} {ifs : List Expr} {scope : Scope} {pos : Pos} {it acc : Value} {env : Env} (J : Nat → Shared → Prop)
    (turn : ∀ n s, J n s → wpAny (model prog w) A (pyNext it) (fun r s1 => match r with
      | none => R (.ok .next) s1
      | some v => wpAny (model prog w) A (letOwnedTupleGo tg it v) (fun _ s2 => wpAny (model prog w) A (assign tg env v) (fun _ s3 =>
          wpAny (model prog w) A (ifsOf ifs env) (fun ok s4 =>
            if ok = true then
              wpAny (model prog w) A (eval elt env) (fun x s5 => wpAny (model prog w) A (call (.builtin "list.append") [acc, x]) (fun _ s6 => ∃ m, m < n ∧ J m s6) E00 s5) E00 s4
            else ∃ m, m < n ∧ J m s4) E00 s3) E00 s2) E00 s1) E00 s)
    (n : Nat) (h : J n s) : codeAny (model prog w) A (.compLoop (.ListComp elt [⟨tg, iter, ifs, 0⟩] scope pos) 0 it acc env) R s := by
  have fl : ∀ {α : Type} {t : Sem α} {Q : α → Shared → Prop} {E : Value → Shared → Prop} {s : Shared}, wpAny (model prog w) A t Q E00 s → wpAny (model prog w) A t Q E s := fun h => wpAny_mono h (fun _ _ q => q) fun _ _ z => z.elim
  refine codeAny_loop rfl J (fun n s hJ => ?_) n h
  show wpAny _ A ((compTurn (.ListComp elt [⟨tg, iter, ifs, 0⟩] scope pos) 0 it acc env).onRaise _) _ _ s
  refine wpAny_noted ?_
  rw [compTurn_list]
  refine wpAny_bind (wpAny_standAt (wpAny_bind (thn (fl (turn n s hJ)) fun r s1 h1 => ?_)))
  cases r with
  | none => exact wpAny_pure h1
  | some v =>
    refine wpAny_bind (thn (fl h1) fun _ s2 h2 => ?_)
    refine wpAny_bind (thn (fl h2) fun _ s3 h3 => ?_)
    refine wpAny_bind (thn (fl h3) fun ok s4 h4 => ?_)
    cases ok with
    | false => exact wpAny_pure ⟨rfl, h4⟩
    | true =>
      refine wpAny_bind (wpAny_bind (thn (fl h4) fun x s5 h5 => ?_))
      exact wpAny_bind (thn (fl h5) fun _ s6 h6 => wpAny_pure (wpAny_pure ⟨rfl, h6⟩))
end
def blk (X : Cx) (N : List Str) (scope : Scope) (cl : List (Str × Addr)) (C : Addr) (s : Shared) (H : Hp) (fp : List Addr) : Cx :=
  { X with N := N, s₀ := s, H₀ := H, env := compEnvC scope cl C X.env, outer := X.stack, ex := fp, fn := fun _ => false, pn := [], xe := fun _ _ => False }
structure Blk (X : Cx) (N : List Str) (scope : Scope) (cl : List (Str × Addr)) (mp : List (Option Nat)) : Prop where
  clos : closureFor scope X.env = pure cl
  cell : ∀ y ∈ scope.names, y.2 ≠ .cell
  kind : scope.kind = .function
  nms : ∀ y ∈ scope.names, y.2 = .local → scope.names.lookup y.1 = some .local
  nd : N.Nodup
  sub : ∀ x c, cl.lookup x = some c → X.env.cells.lookup x = some c
  has : ∀ x, ((relabel scope X.env).names.lookup x = some .cell ∨ (relabel scope X.env).names.lookup x = some .free) → ∃ c, cl.lookup x = some c
  len : mp.length = N.length
  map : ∀ (i j : Nat) (x : Str), mp[i]? = some (some j) → N[i]? = some x → X.N[j]? = some x ∧ (X.env.scope.names.lookup x = some .cell ∨ X.env.scope.names.lookup x = some .free) ∧
    ((relabel scope X.env).names.lookup x = some .cell ∨ (relabel scope X.env).names.lookup x = some .free)
def st0 (mp : List (Option Nat)) (σ : St) : St := mp.map fun o => match o with
  | some j => (σ[j]?).getD none
  | none => none
section
variable {X : Cx} {pins : List (Addr × Obj)} {σ : St} {H : Hp} {s : Shared} {N : List Str} {scope : Scope} {cl : List (Str × Addr)} {mp : List (Option Nat)} {fp : List Addr}
theorem blk_inv (B : Blk X N scope cl mp) (I : Inv X pins σ H s) (f : ∀ b ∈ fp, FpOk X pins H b) (lt : ∀ b ∈ fp, b < s.heap.objs.size) {h1 : Heap} {t' : Nat} (hns : h1.Ns s.heap.objs.size (fun _ => none))
    (k : ∀ b o, s.heap.get? b = some o → h1.get? b = some o) : Inv (blk X N scope cl s.heap.objs.size s H fp) [] (st0 mp σ) H { s with heap := h1, toks := t' } := by
  have fin : ∀ b ∈ fp, b ∉ frs X.stack := fun b hb z => by
    obtain ⟨_, f1, f2, _⟩ := f b hb
    rcases List.mem_cons.mp (I.stkSub b z) with e | e
    · exact f1 e
    · exact f2 e
  have ok : (blk X N scope cl s.heap.objs.size s H fp).Ok := by
    refine ⟨I.ok.mod, B.kind, I.ok.glob, I.ok.blt, Nat.le_refl _, fun x y c h1 h2 => I.ok.inj x y c (B.sub x c h1) (B.sub y c h2), fun x hx => B.has x hx, (fun x c hf => nomatch (show false = true from hf)), I.ok.hd, I.ok.frames, .inl rfl, fun b hb => ?_, I.bs, Nat.le_trans I.ok.bsz I.sz, fun b o e hb => ?_, fin, I.stack, I.stkFree⟩
    · obtain ⟨f0, f1, f2, f3, f4, f5⟩ := f b hb
      exact ⟨Nat.ne_of_lt (lt b hb), fun x c e => f4 x c (B.sub x c e)⟩
    · obtain ⟨f0, f1, f2, f3, f4, f5⟩ := f b hb
      rcases f3 with z | z
      · exact I.ok.noex b o e z
      · exact absurd (Nat.lt_of_lt_of_le (Heap.lt_size e) (Nat.le_trans I.ok.bsz z)) (Nat.lt_irrefl _)
  refine ⟨ok, rfl, I.bare, Un.kept k, ⟨_, hns, fun i x v e1 e2 e3 => ?_⟩, fun x c e => ?_, I.hok.fresh (Nat.le_refl _), fun x c e => I.freeC x c (B.sub x c e), fun p hp => absurd (show p ∈ ([] : List (Addr × Obj)) from hp) (by simp), I.hok.kept k, ?_⟩
  · have e2' : ∃ j, mp[i]? = some (some j) ∧ σ[j]? = some (some v) := by
      unfold st0 at e2
      rw [List.getElem?_map] at e2
      cases q : mp[i]? with
      | none => rw [q] at e2; cases e2
      | some o =>
        rw [q] at e2
        cases o with
        | none => cases e2
        | some j =>
          refine ⟨j, rfl, ?_⟩
          have e2'' : (σ[j]?).getD none = some v := Option.some.inj e2
          cases r : σ[j]? with
          | none => rw [r] at e2''; cases e2''
          | some z => rw [r] at e2''; exact congrArg some e2''
    obtain ⟨j, hj, hv⟩ := e2'
    obtain ⟨hN, ho, hi⟩ := B.map i j x hj e1
    obtain ⟨m, hm, hl⟩ := I.loc
    obtain ⟨u, r, l⟩ := hl j x v hN hv (ho.elim (fun z => .inr (.inl z)) fun z => .inr (.inr z))
    refine ⟨u, r, .inr ⟨hi, ?_⟩⟩
    rcases l with ⟨z, _⟩ | ⟨_, c, ec, z⟩
    · have z' : X.env.scope.names.lookup x = some .local := z
      rcases ho with ho | ho
      · rw [z'] at ho; cases ho
      · rw [z'] at ho; cases ho
    · obtain ⟨c', ec'⟩ := B.has x hi
      have q := B.sub x c' ec'
      rw [ec] at q; cases q
      obtain ⟨o, eo, d⟩ := z
      exact ⟨c, ec', o, k c o eo, d⟩
  · obtain ⟨v, o, eo, d⟩ := I.cell x c (B.sub x c e)
    exact ⟨v, o, k c o eo, d⟩
  · show (st0 mp σ).length = N.length
    unfold st0
    rw [List.length_map]; exact B.len
theorem blk_out {N' : List Str} {C : Addr} {H' : Hp} {σ' : St} {s' : Shared} {h' : Heap} (I : Inv X pins σ H s) (f : ∀ b ∈ fp, FpOk X pins H b) (hC : s.heap.objs.size ≤ C)
    (J : Inv (blk X N' scope cl C s H fp) [] σ' H' s') (sb : Heap.SameBut C s'.heap h') : Inv X pins σ H' { s' with heap := h' } := by
  have ub : Un (frs X.stack) fp H H' s.heap s'.heap := J.base
  have ne : ∀ b o, s.heap.get? b = some o → b ≠ C := fun b o e => Nat.ne_of_lt (Nat.lt_of_lt_of_le (Heap.lt_size e) hC)
  have u : Un (frs X.stack) fp H H' s.heap h' := by
    refine ⟨fun b o e n hb hx => (sb.2 b (ne b o e)).trans (ub.keep b o e n hb hx), fun b o e n hb hx => ?_, ub.free, fun b o e hx => ?_, ub.tups, ub.frzs, ub.tbls⟩
    · obtain ⟨sl, q⟩ := ub.slot b o e n hb hx
      exact ⟨sl, (sb.2 b (ne b o e)).trans q⟩
    · obtain ⟨o', q⟩ := ub.there b o e hx
      exact ⟨o', (sb.2 b (ne b o e)).trans q⟩
  have fC : H' C = none := J.free
  have ok' : HOk X.prog X.w H' h' := fun b ob e => by
    have jok : HOk X.prog X.w H' s'.heap := J.hok
    refine (jok b ob e).stay (fun c v hc q => (sb.2 c ?_).trans q) (fun _ q => q) fun _ _ q => q
    rintro rfl
    rcases hc with rfl | hc
    · rw [fC] at e; cases e
    · rw [fC] at hc; cases hc
  refine I.call' (s' := { s' with heap := h' }) (ch := fp) ?_ u ok' J.bare fun b hb => ?_
  · exact J.os
  · obtain ⟨f0, f1, f2, f3, f4, f5⟩ := f b hb
    exact ⟨f3, f1, f4, f5⟩
end
def PTs (X : Cx) (ifs : List Expr) (t : TT) : Prop :=
  ∀ (pins : List (Addr × Obj)) (s : Shared) (σ : St) (H : Hp) (Q : Bool → Hp → Prop), Inv X pins σ H s → t σ H Q → wpAny (model X.prog X.w) X.A (ifsOf ifs X.env) (TP X pins σ Q) X.xe s
def tYes : TT := fun _ H Q => Q true H
theorem pts_nil {X : Cx} : PTs X [] tYes := fun _ _ _ H _ I h => wpAny_pure ⟨H, I, h⟩
theorem pts_one {X : Cx} {c : Expr} {t : TT} (h : PT X c t) : PTs X [c] t := fun pins s σ H Q I hw => wpAny_tests_one (h pins s σ H Q I hw)
@[irreducible] def tComp (mp : List (Option Nat)) (wi : TI) (g : TG) (tc : TT) (te : TE) : TE := fun σ H Q => wi σ H fun J H1 => ∀ D, H1 D = none → ∃ W : Nat → Nat → List V → St → Hp → Prop,
  (∃ m, W 0 m [] (st0 mp σ) (upd H1 D (.lst []))) ∧ ∀ i m ys σ' H', W i m ys σ' H' → H' D = some (.lst ys) ∧
    ((J.stop i H' ∧ Q (.ref D) H') ∨ (J.go i H' ∧ ys.length < sizeLine ∧ ∀ x H2, J.yld i H' x H2 → g x σ' H2 fun σ2 H3 => tc σ2 H3 fun b H4 =>
      if b = true then te σ2 H4 fun v H5 => H5 D = some (.lst ys) ∧ ∃ m', m' < m ∧ W (i + 1) m' (ys ++ [v]) σ2 (upd H5 D (.lst (ys ++ [v])))
      else ∃ m', m' < m ∧ W (i + 1) m' ys σ2 H4))
def CompW (J : It) (D : Addr) (g : TG) (tc : TT) (te : TE) (Qf : Hp → Prop) (W : Nat → Nat → List V → St → Hp → Prop) : Prop := ∀ i m ys σ' H', W i m ys σ' H' → H' D = some (.lst ys) ∧
    ((J.stop i H' ∧ Qf H') ∨ (J.go i H' ∧ ys.length < sizeLine ∧ ∀ x H2, J.yld i H' x H2 → g x σ' H2 fun σ2 H3 => tc σ2 H3 fun b H4 =>
      if b = true then te σ2 H4 fun v H5 => H5 D = some (.lst ys) ∧ ∃ m', m' < m ∧ W (i + 1) m' (ys ++ [v]) σ2 (upd H5 D (.lst (ys ++ [v])))
      else ∃ m', m' < m ∧ W (i + 1) m' ys σ2 H4))
theorem comp_block {X : Cx} {N : List Str} {scope : Scope} {cl : List (Str × Addr)} {mp : List (Option Nat)} {elt tg iter : Expr} {ifs : List Expr} {g : TG} {tc : TT} {te : TE} {pos : Pos} (B : Blk X N scope cl mp) (hc : X.calm = true)
    (hg : ∀ C s H fp, PG (blk X N scope cl C s H fp) tg g) (ht : ∀ C s H fp, PTs (blk X N scope cl C s H fp) ifs tc) (he : ∀ C s H fp, PE (blk X N scope cl C s H fp) elt te)
    {pins : List (Addr × Obj)} {σ : St} {HD : Hp} {s : Shared} {fp : List Addr} {it D : Addr} {tn : Nat → Heap → Prop} {J : It} {Qf : Hp → Prop} {W : Nat → Nat → List V → St → Hp → Prop} {m0 : Nat} {E : Value → Shared → Prop} {RR : Addr → Result → Shared → Prop}
    (I : Inv X pins σ HD s) (f : ∀ b ∈ fp, FpOk X pins HD b) (T : Turn X.prog X.w X.K tg J fp it tn) (st : tn 0 s.heap) (w0 : W 0 m0 [] (st0 mp σ) HD) (turn : CompW J D g tc te Qf W)
    (hRR : ∀ C H' σ' s', s.heap.objs.size ≤ C → Inv (blk X N scope cl C s HD fp) [] σ' H' s' → Qf H' → RR C (.ok .next) s') :
    wpAny (model X.prog X.w) X.A (newFunctionEnv scope X.env.globals cl [] X.env.qual none .none (some X.env)) (fun cenv s4 =>
      codeAny (model X.prog X.w) X.A (.compStart (.ListComp elt [⟨tg, iter, ifs, 0⟩] scope pos) 0 (.ref it) (.ref D) { cenv with scope := relabel scope X.env }) (RR cenv.locals) s4) E s := by
  have lt : ∀ b ∈ fp, b < s.heap.objs.size := fun b hb => let ⟨o, e, _⟩ := T.obj _ _ st b hb; Heap.lt_size e
  refine wpAny_newFunctionEnv B.cell (by intro y hy; simp at hy) (fun h3 hns hsb => ?_) B.kind
  have k3 : ∀ b o, s.heap.get? b = some o → h3.get? b = some o := fun b o e => (hsb.2 b (Nat.ne_of_lt (Heap.lt_size e))).trans (Heap.get?_push_of_some _ e)
  have JB := blk_inv (t' := s.toks + ([] : List (Str × Value)).length) B I f lt hns k3
  have st3 : tn 0 h3 := T.keep _ _ _ st fun b _ o e => k3 b o e
  have fin : ∀ b ∈ fp, b ∉ frs X.stack := fun b hb z => by
    obtain ⟨_, f1, f2, _⟩ := f b hb
    rcases List.mem_cons.mp (I.stkSub b z) with e | e
    · exact f1 e
    · exact f2 e
  have stat : ∀ {H' : Hp}, (∀ b ∈ fp, H' b = none) → ∀ b ∈ fp, FpOk (blk X N scope cl s.heap.objs.size s HD fp) [] H' b := fun {H'} hn b hb => by
    obtain ⟨f0, f1, f2, f3, f4, f5⟩ := f b hb
    exact ⟨hn b hb, Nat.ne_of_lt (lt b hb), fin b hb, .inl hb, fun x c e => f4 x c (B.sub x c e), fun p hp => absurd (show p ∈ ([] : List (Addr × Obj)) from hp) (by simp)⟩
  have loop : codeAny (model X.prog X.w) X.A (.compLoop (.ListComp elt [⟨tg, iter, ifs, 0⟩] scope pos) 0 (.ref it) (.ref D) (compEnvC scope cl s.heap.objs.size X.env)) (RR s.heap.objs.size) { s with heap := h3, toks := s.toks + ([] : List (Str × Value)).length } := by
    refine comp_turns (fun n s' => ∃ i ys σ' H', Inv (blk X N scope cl s.heap.objs.size s HD fp) [] σ' H' s' ∧ tn i s'.heap ∧ (∀ b ∈ fp, H' b = none) ∧ W i n ys σ' H') ?_ m0 ⟨0, [], _, HD, JB, st3, fun b hb => (f b hb).1, w0⟩
    rintro n s5 ⟨i, ys, σ5, H5, I5, st5, fr5, w5⟩
    obtain ⟨hD, tr⟩ := turn i n ys σ5 H5 w5
    rcases tr with ⟨stop, qn⟩ | ⟨go, hz, step⟩
    · refine thn (T.done (blk X N scope cl s.heap.objs.size s HD fp) rfl rfl rfl hc i [] s5 σ5 H5 E00 I5 (stat fr5) st5 stop) fun r s6 ⟨hr, I6⟩ => ?_
      subst hr
      exact hRR _ H5 σ5 s6 (Nat.le_refl _) I6 qn
    · refine thn (T.item (blk X N scope cl s.heap.objs.size s HD fp) rfl rfl rfl hc i [] s5 σ5 H5 E00 I5 (stat fr5) st5 go) fun r s6 ⟨u, hr, h6⟩ => ?_
      subst hr
      refine thn h6 fun _ s7 ⟨x, H7, I7, r7, y7, st7, fr7⟩ => ?_
      have I7' := I7.pinned (stat fr7) (T.obj _ _ st7)
      have again : ∀ {ys' : List V} {σ8 : St} {H8 : Hp} {s8 : Shared} {m' : Nat}, Inv (blk X N scope cl s.heap.objs.size s HD fp) ([] ++ pinsAt fp s7.heap) σ8 H8 s8 → m' < n → W (i + 1) m' ys' σ8 H8 →
          ∃ m, m < n ∧ ∃ i ys σ' H', Inv (blk X N scope cl s.heap.objs.size s HD fp) [] σ' H' s8 ∧ tn i s8.heap ∧ (∀ b ∈ fp, H' b = none) ∧ W i m ys σ' H' := fun {ys' σ8 H8 s8 m'} I8 hm w8 => by
        refine ⟨m', hm, i + 1, ys', σ8, H8, I8.unpinned, T.keep _ _ _ st7 fun b hb o e => (I8.pin (b, o) (List.mem_append_right _ (List.mem_append_right _ (mem_pinsAt hb e)))).1, fun b hb => ?_, w8⟩
        obtain ⟨o, e, d⟩ := T.obj _ _ st7 b hb
        exact (I8.pin (b, o) (List.mem_append_right _ (List.mem_append_right _ (mem_pinsAt hb e)))).2.1
      refine thn (hg _ _ _ _ _ s7 σ5 H7 x u _ I7' r7 (step x H7 y7)) fun _ s8 ⟨σ8, H8, I8, q8⟩ => ?_
      refine thn (ht _ _ _ _ _ s8 σ8 H8 _ I8 q8) fun ok s9 ⟨H9, I9, q9⟩ => ?_
      cases ok with
      | false =>
        rw [if_neg (by decide)] at q9
        obtain ⟨m', hm, w9⟩ := q9
        rw [if_neg (by decide)]
        exact again I9 hm w9
      | true =>
        rw [if_pos rfl] at q9
        rw [if_pos rfl]
        refine thn (he _ _ _ _ _ s9 σ8 H9 _ I9 q9) fun xv s10 ⟨v, H10, I10, r10, hD10, m', hm, w'⟩ => ?_
        refine thn (mt_append _ s10 σ8 H10 (.ref D) [v] (.ref D) [xv] (fun _ H' => H' = upd H10 D (.lst (ys ++ [v]))) I10 rfl (.cons r10 .nil) ⟨D, ys, v, rfl, rfl, hD10, hz, rfl⟩) fun _ s11 ⟨_, H11, I11, _, e11⟩ => ?_
        subst e11
        exact again I11 hm w'
  exact codeAny_compStart_list loop (T.self _ 0 _ _ _ st3 loop)
theorem pe_comp {X : Cx} {N : List Str} {scope : Scope} {cl : List (Str × Addr)} {mp : List (Option Nat)} {elt tg iter : Expr} {ifs : List Expr} {wi : TI} {g : TG} {tc : TT} {te : TE} {pos : Pos} (B : Blk X N scope cl mp) (hc : X.calm = true)
    (hi : PI X tg iter wi) (hg : ∀ C s H fp, PG (blk X N scope cl C s H fp) tg g) (ht : ∀ C s H fp, PTs (blk X N scope cl C s H fp) ifs tc) (he : ∀ C s H fp, PE (blk X N scope cl C s H fp) elt te)
    (hs : ∀ x, foldedSetIterable iter X.env x = pure x := by intro _; rfl) : PE X (.ListComp elt [⟨tg, iter, ifs, 0⟩] scope pos) (tComp mp wi g tc te) := by
  intro pins s σ H Q I h
  unfold tComp at h
  rw [eval_ListComp]
  refine wpAny_comprehension_free (use := none) (cl := cl) rfl hs B.clos B.kind B.nms (thn (hi pins s σ H _ I h) fun v s1 h1 => thn h1 fun itv s2 h2 => ?_)
  obtain ⟨it, fp, tn, J, H2, rfl, I2, T, st2, f2, q⟩ := h2
  have lt2 : ∀ b ∈ fp, b < s2.heap.objs.size := fun b hb => let ⟨o, e, _⟩ := T.obj _ _ st2 b hb; Heap.lt_size e
  obtain ⟨W, ⟨m0, w0⟩, turn⟩ := q _ I2.fresh
  have ID := I2.lnew (ys := []) (its := []) (t' := s2.toks) .nil (Nat.zero_le _)
  have fD' : ∀ b ∈ fp, FpOk X pins (upd H2 s2.heap.objs.size (.lst [])) b := fun b hb => by
    obtain ⟨f0, r⟩ := f2 b hb
    exact ⟨by rw [upd_ne (Nat.ne_of_lt (lt2 b hb))]; exact f0, r⟩
  refine wpAny_newObj_type (comp_block B hc hg ht he ID fD' T (T.keep _ _ _ st2 fun b _ o e => Heap.get?_push_of_some _ e) w0 turn fun C H' σ' s' hC J' qf => ?_)
  obtain ⟨m, hm, _⟩ := J'.loc
  exact ⟨m, hm, fun h' sb => ⟨.ref _, H', blk_out ID fD' hC J' sb, rfl, qf⟩⟩
end L2
namespace L2
open PySem PySem.Spec PyProof.Rows
def SqX (K : PySem.W.Frag) (b : Bool) (H : Hp) (a : Addr) (xs : List V) : Prop := match b with
  | true => SqT K H a xs
  | false => SqL K H a xs
section
variable {X : Cx} {pins : List (Addr × Obj)} {σ : St} {H : Hp} {s : Shared} {b : Bool} {a : Addr} {xs ys : List V}
theorem Inv.sq (I : Inv X pins σ H s) (h : SqX X.K b H a xs) : ∃ its : List Value, Vals xs its ∧ SqAt b s.heap a its.toArray := by
  cases b with
  | true => obtain ⟨its, rv, p, _⟩ := I.tuple h; exact ⟨its, rv, show s.heap.IsTuple a its.toArray from p⟩
  | false => obtain ⟨its, rv, p, _⟩ := I.list h; exact ⟨its, rv, p.isList⟩
theorem Inv.sq_inj (I : Inv X pins σ H s) (h : SqX X.K b H a xs) (h' : SqX X.K b H a ys) : xs = ys := by
  cases b with
  | true => exact I.tuple_inj h h'
  | false => exact I.list_inj h h'
theorem Inv.turnedL {ch : List Addr} {h' : Heap} {t' : Nat} (I : Inv X pins σ H s) (hf : ∀ b ∈ ch, FpOk X pins H b) (k : ∀ b o, b ∉ ch → s.heap.get? b = some o → h'.get? b = some o) : Inv X pins σ H { s with heap := h', toks := t' } := by
  have nch : ∀ b u, H b = some u → b ∉ ch := fun b u e z => by have q := (hf b z).1; rw [q] at e; cases e
  refine I.step (g' := s.gens) (d' := s.drawn) (ch := ch) (fun b hb => ?_) (fun b o _ _ hc e _ => k b o hc e) (fun b o _ _ hc e _ => ⟨o.slots, k b o hc e⟩) (fun _ _ _ _ n => n)
    (fun b o hc e => ⟨o, k b o hc e⟩) (fun _ _ e => e) (fun _ _ _ e => e) (fun b ps e => ⟨#[], by rw [e]; simp⟩) (fun m hm => ?_) (fun b u e => ?_) I.bare
  · obtain ⟨f0, f1, f2, f3, f4, f5⟩ := hf b hb
    exact ⟨f3, f1, f4, f5⟩
  · obtain ⟨o, es, ep, ho, r⟩ := hm
    exact ⟨o, es, ep, k _ o (fun z => (hf _ z).2.1 rfl) ho, r⟩
  · refine (I.hok b u e).stay (fun c v hc q => k c v ?_ q) (fun _ q => q) fun _ _ q => q
    rcases hc with z | z
    · rw [z]; exact nch b u e
    · exact nch c _ z
theorem Inv.drawn {ch : List Addr} {h' : Heap} {t' : Nat} {p : Addr} {o : HO} (I : Inv X pins σ H s) (hf : ∀ b ∈ ch, FpOk X pins H b) (k : ∀ b o, b ∉ ch → s.heap.get? b = some o → h'.get? b = some o) (hp : s.heap.objs.size ≤ p)
    (new : ObjOk X.prog X.w (upd H p o) h' p o) : Inv X pins σ (upd H p o) { s with heap := h', toks := t' } := by
  have nch : ∀ b u, H b = some u → b ∉ ch := fun b u e z => by have q := (hf b z).1; rw [q] at e; cases e
  have hn : H p = none := I.hok.fresh hp
  have np : ∀ b u, s.heap.get? b = some u → b ≠ p := fun b u e => Nat.ne_of_lt (Nat.lt_of_lt_of_le (Heap.lt_size e) hp)
  refine I.step (g' := s.gens) (d' := s.drawn) (ch := ch) (fun b hb => ?_) (fun b o _ _ hc e _ => k b o hc e) (fun b o _ _ hc e _ => ⟨o.slots, k b o hc e⟩) (fun b o _ e n => by rw [upd_ne (np b o e)]; exact n)
    (fun b o hc e => ⟨o, k b o hc e⟩) (fun b xs e => by rw [upd_ne (ne_of_none e hn)]; exact e) (fun b o u e => by rw [upd_ne (ne_of_none e hn)]; exact e) (fun b ps e => ⟨#[], by rw [upd_ne (ne_of_none e hn), e]; simp⟩) (fun m hm => ?_) (fun b u e => ?_) I.bare
  · obtain ⟨f0, f1, f2, f3, f4, f5⟩ := hf b hb
    exact ⟨f3, f1, f4, f5⟩
  · obtain ⟨o, es, ep, ho, r⟩ := hm
    exact ⟨o, es, ep, k _ o (fun z => (hf _ z).2.1 rfl) ho, r⟩
  · by_cases hb : b = p
    · subst hb; rw [upd_same] at e; cases e; exact new
    · rw [upd_ne hb] at e
      refine (I.hok b u e).stay (fun c v hc q => k c v ?_ q) (fun c q => by rw [upd_ne (ne_of_none q hn)]; exact q) fun c xs q => by rw [upd_ne (ne_of_none q hn)]; exact q
      rcases hc with z | z
      · rw [z]; exact nch b u e
      · exact nch c _ z
end
def Itz (K : PySem.W.Frag) (b1 b2 : Bool) (a1 a2 : Addr) : It :=
  ⟨fun i H => ∃ xs ys x y, SqX K b1 H a1 xs ∧ SqX K b2 H a2 ys ∧ xs[i]? = some x ∧ ys[i]? = some y,
   fun i H v H' => ∃ p x y, H p = none ∧ v = .ref p ∧ H' = upd H p (.tup [x, y]) ∧ (∀ xs, SqX K b1 H a1 xs → xs[i]? = some x) ∧ ∀ ys, SqX K b2 H a2 ys → ys[i]? = some y,
   fun i H => ∃ xs ys, SqX K b1 H a1 xs ∧ SqX K b2 H a2 ys ∧ (xs.length ≤ i ∨ ys.length ≤ i)⟩
theorem turn_zip {P : Program} {w : World} {K : PySem.W.Frag} {es : List Expr} {ek : Nat} {pos : Pos} (b1 b2 : Bool) {z TI TO i1 i2 a1 a2 : Addr} (D : ZipApart z TI TO i1 i2 a1 a2) :
    Turn P w K (.Tuple es ek pos) (Itz K b1 b2 a1 a2) [z, TI, TO, i1, i2] z (fun i h => ZSt b1 b2 z TI TO i1 i2 a1 a2 .none i h) where
  mem := by simp
  obj := fun i h st b hb => by
    simp only [List.mem_cons, List.not_mem_nil, or_false] at hb
    rcases hb with rfl | rfl | rfl | rfl | rfl
    · exact ⟨_, st.zip, fun v q => by cases q⟩
    · exact ⟨_, st.ti, fun v q => by cases q⟩
    · obtain ⟨a, b, e⟩ := st.to
      exact ⟨_, e, fun v q => by cases q⟩
    · exact st.it1.obj
    · exact st.it2.obj
  keep := fun i h h' st k => st.at k
  item := by
    intro X hP hw hK hc i pins s σ H E I hf st hg
    subst hP hw hK
    obtain ⟨xs, ys, x, y, h1, h2, hx, hy⟩ := hg
    obtain ⟨us, ru, q1⟩ := I.sq h1
    obtain ⟨ws, rw', q2⟩ := I.sq h2
    obtain ⟨u, eu, rx⟩ := ru.get hx
    obtain ⟨v, ev, ry⟩ := rw'.get hy
    refine pyNext_zip_item D st q1 q2 (x := u) (y := v) (by simpa using eu) (by simpa using ev) fun h' S p8 s8 k => ?_
    refine ⟨_, rfl, wpAny_letOwnedTupleGo_zip S.zip fun h'' z' e' => ?_⟩
    have zlt : z < s.heap.objs.size := Heap.lt_size st.zip
    have zp : s.heap.objs.size ≠ z := Nat.ne_of_gt zlt
    have kk : ∀ b o, b ∉ [z, TO, i1, i2] → s.heap.get? b = some o → h''.get? b = some o := fun b o hb e => by
      simp only [List.mem_cons, List.not_mem_nil, or_false, not_or] at hb
      exact e'.extBut _ _ hb.1 (k b o hb.1 hb.2.1 hb.2.2.1 hb.2.2.2 e)
    have pp : IsPair h'' s.heap.objs.size u v := e'.extBut _ _ zp p8
    refine ⟨.ref s.heap.objs.size, upd H s.heap.objs.size (.tup [x, y]), I.drawn (t' := s.toks) (ch := [z, TO, i1, i2]) (fun b hb => hf b ?_) kk (Nat.le_refl _) ?_, rfl, ⟨_, x, y, I.fresh, rfl, rfl, fun xs' hq => ?_, fun ys' hq => ?_⟩, ?_, fun b hb => ?_⟩
    · simp only [List.mem_cons, List.not_mem_nil, or_false] at hb ⊢
      rcases hb with rfl | rfl | rfl | rfl <;> simp
    · exact ⟨by show 2 ≤ sizeLine; rw [sizeLine_eq]; decide, [u, v], .cons rx (.cons ry .nil), ⟨_, pp, rfl, _, rfl⟩⟩
    · rw [I.sq_inj hq h1]; exact hx
    · rw [I.sq_inj hq h2]; exact hy
    · exact ⟨z', e'.extBut _ _ D.TIz S.ti, (let ⟨a, b, e⟩ := S.to; ⟨a, b, e'.extBut _ _ D.TOz e⟩), S.it1.at fun o q => e'.extBut _ _ D.i1z q, S.it2.at fun o q => e'.extBut _ _ D.i2z q⟩
    · obtain ⟨o, e, _⟩ : ∃ o, s.heap.get? b = some o ∧ ∀ v, o.data ≠ .cell v := by
        simp only [List.mem_cons, List.not_mem_nil, or_false] at hb
        rcases hb with rfl | rfl | rfl | rfl | rfl
        · exact ⟨_, st.zip, fun v q => by cases q⟩
        · exact ⟨_, st.ti, fun v q => by cases q⟩
        · obtain ⟨a, b, e⟩ := st.to
          exact ⟨_, e, fun v q => by cases q⟩
        · exact st.it1.obj
        · exact st.it2.obj
      rw [upd_ne (Nat.ne_of_lt (Heap.lt_size e))]
      exact (hf b hb).1
  done := by
    intro X hP hw hK hc i pins s σ H E I hf st hg
    subst hP hw hK
    obtain ⟨xs, ys, h1, h2, hl⟩ := hg
    obtain ⟨us, ru, q1⟩ := I.sq h1
    obtain ⟨ws, rw', q2⟩ := I.sq h2
    have l1 := ru.length
    have l2 := rw'.length
    refine pyNext_zip_end (I.ok.hd hc) D st q1 q2 ?_ fun h' k => ⟨rfl, I.turnedL (t' := s.toks) (ch := [z, TO, i1, i2]) (fun b hb => hf b ?_) fun b o hb e => ?_⟩
    · rcases hl with hl | hl
      · exact .inl (by simp; omega)
      · exact .inr (by simp; omega)
    · simp only [List.mem_cons, List.not_mem_nil, or_false] at hb ⊢
      rcases hb with rfl | rfl | rfl | rfl <;> simp
    · simp only [List.mem_cons, List.not_mem_nil, or_false, not_or] at hb
      exact k b o hb.1 hb.2.1 hb.2.2.1 hb.2.2.2 e
  self := fun _ _ _ _ _ st h => wpAny_pyIter_zip st.zip h
def iZip (K : PySem.W.Frag) (b1 b2 : Bool) (ta : TA) : TI := fun σ H R => ta σ H fun vs H1 => ∃ a1 a2, vs = [.ref a1, .ref a2] ∧ (∃ xs, SqX K b1 H1 a1 xs) ∧ (∃ ys, SqX K b2 H1 a2 ys) ∧ R (Itz K b1 b2 a1 a2) H1
theorem pi_zip {X : Cx} {es : List Expr} {ek : Nat} {tpos p pos : Pos} (b1 b2 : Bool) {e1 e2 : Expr} {ta : TA} (hg : Gl X "zip") (hm : X.mg "zip" = none) (ha : PA X [e1, e2] ta)
    (he : starEach [e1, e2] X.env = (false, eval e1 X.env) :: starEach [e2] X.env := by rfl) (hpl : (backTo pos (starEach [e2] X.env)).any (·.1) = false := by rfl) :
    PI X (.Tuple es ek tpos) (.Call (.Name "zip" p) [e1, e2] [] pos) (iZip X.K b1 b2 ta) := by
  intro pins s σ H R I h
  refine wpAny_Call_Name_kw (ld_blt I hg hm boot_zip ?_ (by decide) (by decide))
  refine PyProof.Rows.callWith_type1 (thn (ha pos pins s σ H _ I h) fun us s1 ⟨vs, H1, I1, r1, a1, a2, ev, ⟨xs, h1⟩, ⟨ys, h2⟩, q⟩ => ?_) he hpl
  subst ev
  obtain ⟨u1, u2, rfl, e1', e2'⟩ := r1.two
  cases e1'; cases e2'
  obtain ⟨us, ru, q1⟩ := I1.sq h1
  obtain ⟨ws, rw', q2⟩ := I1.sq h2
  have lt1 : a1 < s1.heap.objs.size := by cases b1 <;> (obtain ⟨o, e, _⟩ := q1; exact Heap.lt_size e)
  have lt2 : a2 < s1.heap.objs.size := by cases b2 <;> (obtain ⟨o, e, _⟩ := q2; exact Heap.lt_size e)
  refine call_zip q1 q2 fun h' S k z5 => wpAny_pyIter_zip S.zip ?_
  have I2 : Inv X pins σ H1 { s1 with heap := h' } := I1.kept (t' := s1.toks) k
  refine ⟨s1.heap.objs.size + 4, [s1.heap.objs.size + 4, s1.heap.objs.size + 2, s1.heap.objs.size + 3, s1.heap.objs.size, s1.heap.objs.size + 1], _, _, H1, rfl, I2, turn_zip b1 b2 (zipApart_new lt1 lt2), S, fun b hb => ?_, q⟩
  have hb' : s1.heap.objs.size ≤ b := by
    simp only [List.mem_cons, List.not_mem_nil, or_false] at hb
    rcases hb with rfl | rfl | rfl | rfl | rfl
    · exact Nat.le_add_right _ 4
    · exact Nat.le_add_right _ 2
    · exact Nat.le_add_right _ 3
    · exact Nat.le_refl _
    · exact Nat.le_add_right _ 1
  exact I1.fpOk hb' (I1.hok.fresh hb')
end L2
namespace L2
open PySem PySem.Spec PyProof.Rows
theorem Same.upd {H : Hp} {p : Addr} {o : HO} (h : H p = none) : Same H (upd H p o) := fun b u e => by rw [upd_ne (ne_of_none e h)]; exact e
theorem Same.updR {H H' : Hp} {p : Addr} {o : HO} (e : Same H H') (h : H p = none) : Same H (L2.upd H' p o) := fun b u q => by rw [upd_ne (ne_of_none q h)]; exact e b u q
theorem Same.seqT {K : PySem.W.Frag} {H H' : Hp} {a : Addr} {xs : List V} (e : Same H H') (h : SqT K H a xs) : SqT K H' a xs := by
  rcases h with (h | ⟨o, h⟩) | h
  · exact .inl (.inl (e _ _ h))
  · exact .inl (.inr ⟨o, e _ _ h⟩)
  · exact .inr h
theorem Same.sqX {K : PySem.W.Frag} {b : Bool} {H H' : Hp} {a : Addr} {xs : List V} (e : Same H H') (h : SqX K b H a xs) : SqX K b H' a xs := by
  cases b with
  | true => exact e.seqT h
  | false => exact e.seq h
structure Walk (J : It) (H1 : Hp) (n : Nat) (P : Nat → V → Hp → Prop) : Prop where
  go : ∀ i H', Same H1 H' → i < n → J.go i H'
  stop : ∀ H', Same H1 H' → J.stop n H'
  yld : ∀ i H' x H2, Same H1 H' → i < n → J.yld i H' x H2 → Same H' H2 ∧ P i x H2
theorem walk_list {K : PySem.W.Frag} {H1 : Hp} {a : Addr} {xs : List V} (h : SqL K H1 a xs) : Walk (Itl K a) H1 xs.length (fun i x _ => xs[i]? = some x) :=
  ⟨fun i H' e hi => ⟨xs, xs[i], e.seq h, by simp [hi]⟩, fun H' e => ⟨xs, e.seq h, Nat.le_refl _⟩, fun i H' x H2 e hi y => by
    obtain ⟨rfl, q⟩ := y
    exact ⟨Same.refl _, q xs (e.seq h)⟩⟩
theorem walk_zip {K : PySem.W.Frag} {b1 b2 : Bool} {H1 : Hp} {a1 a2 : Addr} {xs ys : List V} (h1 : SqX K b1 H1 a1 xs) (h2 : SqX K b2 H1 a2 ys) :
    Walk (Itz K b1 b2 a1 a2) H1 (min xs.length ys.length) (fun i v H => ∃ p x y, v = .ref p ∧ H p = some (.tup [x, y]) ∧ xs[i]? = some x ∧ ys[i]? = some y) := by
  refine ⟨fun i H' e hi => ?_, fun H' e => ⟨xs, ys, e.sqX h1, e.sqX h2, ?_⟩, fun i H' x H2 e hi q => ?_⟩
  · have i1 : i < xs.length := by omega
    have i2 : i < ys.length := by omega
    exact ⟨xs, ys, xs[i], ys[i], e.sqX h1, e.sqX h2, by simp [i1], by simp [i2]⟩
  · rcases Nat.le_total xs.length ys.length with q | q
    · exact .inl (by omega)
    · exact .inr (by omega)
  · obtain ⟨p, u, v, hp, rfl, rfl, q1, q2⟩ := q
    exact ⟨Same.upd hp, p, u, v, rfl, upd_same, q1 xs (e.sqX h1), q2 ys (e.sqX h2)⟩
theorem comp_of {J : It} {H1 : Hp} {n : Nat} {P : Nat → V → Hp → Prop} {g : TG} {tc : TT} {te : TE} {Q : VK} {σ0 : St} {D : Addr} (S : Walk J H1 n P) (hD : H1 D = none) (hn : n ≤ sizeLine) (Sv : St → Prop) (p : Nat → Bool) (F : Nat → V → Hp → Prop)
    (monoS : ∀ i v H H', Same H H' → F i v H → F i v H') (monoU : ∀ i v H a ys ys', H a = some (.lst ys) → F i v H → F i v (upd H a (.lst ys'))) (h0 : Sv σ0)
    (step : ∀ i x σ' H2, i < n → Sv σ' → Same H1 H2 → P i x H2 → ∀ (Ny : V → St → Hp → Prop) (Nn : St → Hp → Prop), (∀ v σ2 H5, Sv σ2 → Same H2 H5 → F i v H5 → p i = true → Ny v σ2 H5) → (∀ σ2 H4, Sv σ2 → Same H2 H4 → p i = false → Nn σ2 H4) →
      g x σ' H2 fun σ2 H3 => tc σ2 H3 fun b H4 => if b = true then te σ2 H4 fun v H5 => Ny v σ2 H5 else Nn σ2 H4)
    (hQ : ∀ H' ys, Same H1 H' → H' D = some (.lst ys) → Paired (fun i v => F i v H') ((List.range n).filter p) ys → Q (.ref D) H') :
    ∃ W : Nat → Nat → List V → St → Hp → Prop, (∃ m, W 0 m [] σ0 (upd H1 D (.lst []))) ∧ ∀ i m ys σ' H', W i m ys σ' H' → H' D = some (.lst ys) ∧
    ((J.stop i H' ∧ Q (.ref D) H') ∨ (J.go i H' ∧ ys.length < sizeLine ∧ ∀ x H2, J.yld i H' x H2 → g x σ' H2 fun σ2 H3 => tc σ2 H3 fun b H4 =>
      if b = true then te σ2 H4 fun v H5 => H5 D = some (.lst ys) ∧ ∃ m', m' < m ∧ W (i + 1) m' (ys ++ [v]) σ2 (upd H5 D (.lst (ys ++ [v])))
      else ∃ m', m' < m ∧ W (i + 1) m' ys σ2 H4)) := by
  refine ⟨fun i m ys σ' H' => m = n - i ∧ i ≤ n ∧ Sv σ' ∧ Same H1 H' ∧ H' D = some (.lst ys) ∧ Paired (fun j v => F j v H') ((List.range i).filter p) ys, ⟨n, rfl, Nat.zero_le _, h0, Same.upd hD, upd_same, .nil⟩, ?_⟩
  rintro i m ys σ' H' ⟨rfl, hi, hs, hS, hL, hF⟩
  refine ⟨hL, ?_⟩
  have rs : (List.range (i + 1)).filter p = (List.range i).filter p ++ (if p i = true then [i] else []) := by
    rw [List.range_succ, List.filter_append]
    cases q : p i <;> simp [q]
  by_cases hlt : i < n
  · refine .inr ⟨S.go i H' hS hlt, ?_, fun x H2 y => ?_⟩
    · have l1 := hF.length
      have l2 : ((List.range i).filter p).length ≤ (List.range i).length := List.length_filter_le _ _
      rw [List.length_range] at l2
      omega
    · obtain ⟨e2, hP⟩ := S.yld i H' x H2 hS hlt y
      refine step i x σ' H2 hlt hs (hS.trans e2) hP _ _ (fun v σ2 H5 s2 e5 f5 hp => ?_) fun σ2 H4 s2 e4 hp => ?_
      · have l5 : H5 D = some (.lst ys) := e5 _ _ (e2 _ _ hL)
        refine ⟨l5, n - (i + 1), by omega, rfl, hlt, s2, ((hS.trans e2).trans e5).updR hD, upd_same, ?_⟩
        rw [rs, if_pos hp]
        refine Paired.snoc (Paired.imp' (fun j w q => ?_) hF) (monoU i v H5 D ys _ l5 f5)
        exact monoU j w H5 D ys _ l5 (monoS j w H' H5 (e2.trans e5) q)
      · refine ⟨n - (i + 1), by omega, rfl, hlt, s2, (hS.trans e2).trans e4, e4 _ _ (e2 _ _ hL), ?_⟩
        rw [rs, if_neg (by rw [hp]; decide), List.append_nil]
        exact Paired.imp' (fun j w q => monoS j w H' H4 (e2.trans e4) q) hF
  · have e : i = n := by omega
    subst e
    exact .inl ⟨S.stop H' hS, hQ H' ys hS hL hF⟩
theorem Paired.eq_map {β : Type} {f : Nat → β} : ∀ {l : List Nat} {ys : List β}, Paired (fun i v => v = f i) l ys → ys = l.map f
  | _, _, .nil => rfl
  | _, _, .cons r t => by rw [List.map_cons, r, Paired.eq_map t]
theorem comp_vals {J : It} {H1 : Hp} {n : Nat} {P : Nat → V → Hp → Prop} {g : TG} {tc : TT} {te : TE} {Q : VK} {σ0 : St} {D : Addr} (S : Walk J H1 n P) (hD : H1 D = none) (hn : n ≤ sizeLine) (Sv : St → Prop) (p : Nat → Bool) (f : Nat → V) (h0 : Sv σ0)
    (step : ∀ i x σ' H2, i < n → Sv σ' → Same H1 H2 → P i x H2 → ∀ (Ny : V → St → Hp → Prop) (Nn : St → Hp → Prop), (∀ σ2 H5, Sv σ2 → Same H2 H5 → p i = true → Ny (f i) σ2 H5) → (∀ σ2 H4, Sv σ2 → Same H2 H4 → p i = false → Nn σ2 H4) →
      g x σ' H2 fun σ2 H3 => tc σ2 H3 fun b H4 => if b = true then te σ2 H4 fun v H5 => Ny v σ2 H5 else Nn σ2 H4)
    (hQ : ∀ H', Same H1 H' → H' D = some (.lst (((List.range n).filter p).map f)) → Q (.ref D) H') :
    ∃ W : Nat → Nat → List V → St → Hp → Prop, (∃ m, W 0 m [] σ0 (upd H1 D (.lst []))) ∧ ∀ i m ys σ' H', W i m ys σ' H' → H' D = some (.lst ys) ∧
    ((J.stop i H' ∧ Q (.ref D) H') ∨ (J.go i H' ∧ ys.length < sizeLine ∧ ∀ x H2, J.yld i H' x H2 → g x σ' H2 fun σ2 H3 => tc σ2 H3 fun b H4 =>
      if b = true then te σ2 H4 fun v H5 => H5 D = some (.lst ys) ∧ ∃ m', m' < m ∧ W (i + 1) m' (ys ++ [v]) σ2 (upd H5 D (.lst (ys ++ [v])))
      else ∃ m', m' < m ∧ W (i + 1) m' ys σ2 H4)) :=
  comp_of S hD hn Sv p (fun i v _ => v = f i) (fun _ _ _ _ _ q => q) (fun _ _ _ _ _ _ _ q => q) h0
    (fun i x σ' H2 hi hs e hP Ny Nn hy hn' => step i x σ' H2 hi hs e hP Ny Nn (fun σ2 H5 s2 e5 hp => hy _ σ2 H5 s2 e5 rfl hp) hn')
    fun H' ys e hL hF => hQ H' e (by rw [← Paired.eq_map hF]; exact hL)
end L2
namespace L2
open PySem PySem.Spec PyProof.Rows
theorem relabel_free {env : Env} : ∀ {names : List (Str × NameKind)} {x : Str}, names.lookup x = some .free →
    (names.map fun (n, k) => if (k == NameKind.free && env.scope.kind == .function && env.kindOf n == some .cell) then (n, NameKind.cell) else (n, k)).lookup x = some .cell ∨
    (names.map fun (n, k) => if (k == NameKind.free && env.scope.kind == .function && env.kindOf n == some .cell) then (n, NameKind.cell) else (n, k)).lookup x = some .free
  | [], _, h => by simp at h
  | (n, k) :: r, x, h => by
    have ih := @relabel_free env r x
    rw [List.map_cons]
    cases hx : x == n with
    | true =>
      simp only [List.lookup_cons, hx] at h
      cases h
      by_cases hc : (NameKind.free == NameKind.free && env.scope.kind == .function && env.kindOf n == some .cell) = true
      · dsimp only; rw [if_pos hc]; simp only [List.lookup_cons, hx]; exact .inl trivial
      · dsimp only; rw [if_neg hc]; simp only [List.lookup_cons, hx]; exact .inr trivial
    | false =>
      simp only [List.lookup_cons, hx] at h
      by_cases hc : (k == NameKind.free && env.scope.kind == .function && env.kindOf n == some .cell) = true
      · dsimp only; rw [if_pos hc]; simp only [List.lookup_cons, hx]; exact ih h
      · dsimp only; rw [if_neg hc]; simp only [List.lookup_cons, hx]; exact ih h
theorem relabel_kind {env : Env} {names : List (Str × NameKind)} {x : Str} {k : NameKind} (hk : k = .cell ∨ k = .free) (nc : ∀ y ∈ names, y.2 ≠ .cell)
    (h : (names.map fun (n, k) => if (k == NameKind.free && env.scope.kind == .function && env.kindOf n == some .cell) then (n, NameKind.cell) else (n, k)).lookup x = some k) : ∃ y ∈ names, y.1 = x ∧ y.2 = .free := by
  have m := PySem.mem_of_lookup h
  obtain ⟨⟨n, k0⟩, hm, e⟩ := List.mem_map.mp m
  dsimp only at e
  by_cases hc : (k0 == NameKind.free && env.scope.kind == .function && env.kindOf n == some .cell) = true
  · rw [if_pos hc] at e
    simp only [Bool.and_eq_true, beq_iff_eq] at hc
    cases e
    exact ⟨_, hm, rfl, hc.1.1⟩
  · rw [if_neg hc] at e
    cases e
    refine ⟨_, hm, rfl, ?_⟩
    rcases hk with z | z
    · exact absurd z (nc _ hm)
    · exact z
theorem Blk.of {X : Cx} {N : List Str} {scope : Scope} {cl : List (Str × Addr)} {mp : List (Option Nat)} (clos : closureFor scope X.env = pure cl) (cell : ∀ y ∈ scope.names, y.2 ≠ .cell) (kind : scope.kind = .function)
    (nms : ∀ y ∈ scope.names, y.2 = .local → scope.names.lookup y.1 = some .local) (nd : N.Nodup) (sub : ∀ x c, cl.lookup x = some c → X.env.cells.lookup x = some c) (fr : ∀ y ∈ scope.names, y.2 = .free → ∃ c, cl.lookup y.1 = some c) (len : mp.length = N.length)
    (map : ∀ (i j : Nat) (x : Str), mp[i]? = some (some j) → N[i]? = some x → X.N[j]? = some x ∧ (X.env.scope.names.lookup x = some .cell ∨ X.env.scope.names.lookup x = some .free) ∧ scope.names.lookup x = some .free) : Blk X N scope cl mp := by
  refine ⟨clos, cell, kind, nms, nd, sub, fun x hx => ?_, len, fun i j x h1 h2 => ?_⟩
  · have : ∃ y ∈ scope.names, y.1 = x ∧ y.2 = .free := hx.elim (fun z => relabel_kind (.inl rfl) cell z) fun z => relabel_kind (.inr rfl) cell z
    obtain ⟨y, hy, rfl, hf⟩ := this
    exact fr y hy hf
  · obtain ⟨q1, q2, q3⟩ := map i j x h1 h2
    exact ⟨q1, q2, relabel_free q3⟩
theorem Blk.plain {X : Cx} {N : List Str} {scope : Scope} (fr : ∀ y ∈ scope.names, y.2 ≠ .free) (cell : ∀ y ∈ scope.names, y.2 ≠ .cell) (kind : scope.kind = .function) (nms : ∀ y ∈ scope.names, y.2 = .local → scope.names.lookup y.1 = some .local) (nd : N.Nodup) :
    Blk X N scope [] (N.map fun _ => none) :=
  Blk.of (closureFor_none fr) cell kind nms nd (fun _ _ h => nomatch h) (fun y hy h => absurd h (fr y hy)) (List.length_map _) fun i j x h => by
    rw [List.getElem?_map] at h
    cases q : N[i]? with
    | none => rw [q] at h; cases h
    | some z => rw [q] at h; cases h
def zipV (p : Int → Int → Bool) (φ : Int → Int → V) (xs ys : List Int) : List V := ((List.range (min xs.length ys.length)).filter fun i => p (xs.getD i 0) (ys.getD i 0)).map fun i => φ (xs.getD i 0) (ys.getD i 0)
theorem getD_of_map {xs : List Int} {i : Nat} {v : V} (h : (xs.map V.int)[i]? = some v) : v = .int (xs.getD i 0) := by
  rw [List.getElem?_map] at h
  cases q : xs[i]? with
  | none => rw [q] at h; cases h
  | some z =>
    rw [q] at h
    have e : xs.getD i 0 = z := by rw [List.getD_eq_getElem?_getD, q]; rfl
    rw [e]; exact (Option.some.inj h).symm
theorem two_set {σ : St} (h : σ.length = 2) (x y : V) : (σ.set 0 (some x)).set 1 (some y) = [some x, some y] := by
  match σ, h with
  | [_, _], _ => rfl
theorem zip_comp {K : PySem.W.Frag} {b1 b2 : Bool} {a b : Addr} {xs ys : List Int} {mp : List (Option Nat)} {ta : TA} {tc : TT} {te : TE} {σ : St} {H H1 : Hp} {Q : VK} (p : Int → Int → Bool) (φ : Int → Int → V) (hmp : mp.length = 2) (hta : ∀ R, R [.ref a, .ref b] H1 → ta σ H R)
    (h1 : SqX K b1 H1 a (xs.map V.int)) (h2 : SqX K b2 H1 b (ys.map V.int)) (hz : xs.length ≤ 1000)
    (htc : ∀ (i : Nat) H' (R : Bool → Hp → Prop), R (p (xs.getD i 0) (ys.getD i 0)) H' → tc [some (.int (xs.getD i 0)), some (.int (ys.getD i 0))] H' R)
    (hte : ∀ (i : Nat) H' (R : VK), p (xs.getD i 0) (ys.getD i 0) = true → R (φ (xs.getD i 0) (ys.getD i 0)) H' → te [some (.int (xs.getD i 0)), some (.int (ys.getD i 0))] H' R)
    (hQ : ∀ D H', Same H1 H' → H' D = some (.lst (zipV p φ xs ys)) → Q (.ref D) H') :
    tComp mp (iZip K b1 b2 ta) (gTup K 2 (gCons (gName 0) (gCons (gName 1) gNil))) tc te σ H Q := by
  unfold tComp
  refine hta _ ⟨a, b, rfl, ⟨_, h1⟩, ⟨_, h2⟩, fun D hD => ?_⟩
  have W := walk_zip h1 h2
  rw [List.length_map, List.length_map] at W
  refine comp_vals W hD (Nat.le_trans (Nat.min_le_left _ _) (Nat.le_trans hz (by rw [sizeLine_eq]; decide))) (fun σ => σ.length = 2) (fun i => p (xs.getD i 0) (ys.getD i 0)) (fun i => φ (xs.getD i 0) (ys.getD i 0)) (by unfold st0; rw [List.length_map]; exact hmp) ?_ fun H' e hL => hQ D H' e hL
  rintro i v σ' H2 hi hs e ⟨q, u, w, rfl, hq, hu, hw⟩ Ny Nn hy hn
  rw [getD_of_map hu, getD_of_map hw] at hq
  refine ⟨q, _, rfl, SqT.of hq, rfl, _, _, rfl, _, _, rfl, rfl, ?_⟩
  rw [two_set hs]
  refine htc _ _ _ ?_
  cases hp : p (xs.getD i 0) (ys.getD i 0) with
  | true => rw [if_pos rfl]; exact hte _ _ _ hp (hy _ _ rfl (Same.refl _) hp)
  | false => rw [if_neg (by decide)]; exact hn _ _ rfl (Same.refl _) hp
end L2
namespace L2
open PySem PySem.Spec PyProof.Rows
theorem pg_two {X : Cx} {K : PySem.W.Frag} {x y : Str} {px py tp : Pos} {k : Nat} (hK : X.K = K) (hc : X.calm = true) (hN : X.N = [x, y]) (nd : ([x, y] : List Str).Nodup) (hx : X.env.scope.names.lookup x = some .local) (hy : X.env.scope.names.lookup y = some .local) :
    PG X (.Tuple [.Name x px, .Name y py] k tp) (gTup K 2 (gCons (gName 0) (gCons (gName 1) gNil))) := by
  subst hK
  have nd' : X.N.Nodup := by rw [hN]; exact nd
  exact pg_tup hc (pgs_cons (pg_name (i := 0) nd' (by rw [hN]; rfl) (.inl hx) (.inr hx)) (pgs_cons (pg_name (i := 1) nd' (by rw [hN]; rfl) (.inl hy) (.inr hy)) pgs_nil))
theorem pg_one {X : Cx} {x : Str} {px : Pos} {i : Nat} (nd : X.N.Nodup) (hN : X.N[i]? = some x) (hx : X.env.scope.names.lookup x = some .local) : PG X (.Name x px) (gName i) := pg_name nd hN (.inl hx) (.inr hx)
end L2
namespace L2
open PySem PySem.Spec PyProof.Rows
end L2
namespace L2
open PySem PySem.Spec PyProof.Rows
theorem for_same {J : It} {H1 : Hp} {n : Nat} {P : Nat → V → Hp → Prop} {g : TG} {tb : TS} {D : Ends} {σ : St} (S : Walk J H1 n P) (Sv : Nat → St → Prop) (h0 : Sv 0 σ)
    (hs : ∀ i x σ H', i < n → Sv i σ → Same H1 H' → P i x H' → g x σ H' fun σ2 H2 => tb { D with nx := fun σ3 H3 => Sv (i + 1) σ3 ∧ Same H1 H3, ct := fun σ3 H3 => Sv (i + 1) σ3 ∧ Same H1 H3, bk := D.nx } σ2 H2)
    (hd : ∀ σ H, Sv n σ → Same H1 H → D.nx σ H) :
    ∃ W : Nat → Nat → St → Hp → Prop, (∃ m, W 0 m σ H1) ∧ ∀ i m σ H, W i m σ H →
      (J.stop i H ∧ D.nx σ H) ∨ (J.go i H ∧ ∃ N : St → Hp → Prop, (∀ σ' H', N σ' H' → ∃ m', m' < m ∧ W (i + 1) m' σ' H') ∧ ∀ x H', J.yld i H x H' → g x σ H' fun σ2 H2 => tb { D with nx := N, ct := N, bk := D.nx } σ2 H2) := by
  refine ⟨fun i m σ H => m = n - i ∧ i ≤ n ∧ Sv i σ ∧ Same H1 H, ⟨n, rfl, Nat.zero_le _, h0, Same.refl _⟩, ?_⟩
  rintro i m σ H ⟨rfl, hi, sv, e⟩
  by_cases hlt : i < n
  · refine .inr ⟨S.go i H e hlt, fun σ3 H3 => Sv (i + 1) σ3 ∧ Same H1 H3, fun σ' H' q => ⟨n - (i + 1), by omega, rfl, hlt, q.1, q.2⟩, fun x H' y => ?_⟩
    obtain ⟨e2, hP⟩ := S.yld i H x H' e hlt y
    exact hs i x σ H' hlt sv (e.trans e2) hP
  · have z : i = n := by omega
    subst z
    exact .inl ⟨S.stop H e, hd σ H sv e⟩
end L2
namespace L2
open PySem PySem.Spec PyProof.Rows
theorem ObjOk.obj {P : Program} {w : World} {H : Hp} {h : Heap} {a : Addr} {o : HO} (x : ObjOk P w H h a o) : ∃ ob, h.get? a = some ob := by
  cases o with
  | lst xs => obtain ⟨_, _, _, _, e⟩ := x; exact ⟨_, e⟩
  | tup xs => obtain ⟨_, _, _, ob, e, _⟩ := x; exact ⟨_, e⟩
  | dK kvs => obtain ⟨_, _, _, _, o, _, _, e, _⟩ := x; exact ⟨_, e⟩
  | dT kvs => obtain ⟨_, _, _, _, o, _, _, e, _⟩ := x; exact ⟨_, e⟩
  | set S n => obtain ⟨o, _, _, _, e, _⟩ := x; exact ⟨_, e⟩
  | ins C dx fs => obtain ⟨_, _, _, e, _⟩ := x; exact ⟨_, e⟩
  | own y => obtain ⟨_, e⟩ := x; exact ⟨_, e⟩
  | xd fs => obtain ⟨_, ⟨_, _, _, e, _⟩, _⟩ := x; exact ⟨_, e⟩
  | rng lo hi => obtain ⟨_, _, _, e⟩ := x; exact ⟨_, e⟩
  | frz ob u => obtain ⟨e, _⟩ := x; exact ⟨_, e⟩
  | tbl ps => exact ⟨_, show h.get? a = some _ from x⟩
  | met f y => exact ⟨_, show h.get? a = some _ from x⟩
  | ext φ => obtain ⟨_, ⟨_, e⟩, _⟩ := x; exact ⟨_, e⟩
structure Cov (B : Heap) (fs : List Addr) (H' : Hp) (h : Heap) : Prop where
  old : ∀ b o, h.get? b = some o → b ∉ fs → ∃ o', B.get? b = some o'
  trk : ∀ b u, H' b = some u → ∃ o', B.get? b = some o'
def CXe (P : Program) (w : World) : CXT := fun outer H s E e s' => ∃ (a : Addr) (cls a0 : Value) (B : Heap) (H' : Hp), e = .ref a ∧ s'.os = s.os ∧ AllBare s'.gens ∧ Un (frs outer) [] H H' s.heap s'.heap ∧ HOk P w H' s'.heap ∧
  Heap.FlyingW B outer a cls a0 s'.heap ∧ Cov B (frs outer) H' s.heap ∧ E cls none H'
section
variable {P : Program} {w : World} {fs : List Addr} {H H' : Hp} {h h1 h2 B : Heap}
theorem Heap.two {B h1 h2 : Heap} (s1 : B.StaysIn h1) (s2 : B.StaysIn h2) {b : Addr} {o o' : Obj} (e : h1.get? b = some o) (q : B.get? b = some o') : h2.get? b = some o := by
  have := s1 b o' q
  rw [e] at this; cases this
  exact s2 b _ q
theorem fly_un (u : Un fs [] H H' h h1) (cov : Cov B fs H' h) (s1 : B.StaysIn h1) (s2 : B.StaysIn h2) (sl : ∀ b o, b ∈ fs → h1.get? b = some o → ∃ sl, h2.get? b = some { o with slots := sl }) : Un fs [] H H' h h2 := by
  refine ⟨fun b o e n hb hx => ?_, fun b o e n hb hx => ?_, u.free, fun b o e hx => ?_, u.tups, u.frzs, u.tbls⟩
  · obtain ⟨o', q⟩ := cov.old b o e hb
    exact Heap.two s1 s2 (u.keep b o e n hb hx) q
  · obtain ⟨sl1, e1⟩ := u.slot b o e n hb hx
    obtain ⟨sl2, e2⟩ := sl b _ hb e1
    exact ⟨sl2, e2⟩
  · by_cases hb : b ∈ fs
    · obtain ⟨o', e1⟩ := u.there b o e hx
      obtain ⟨sl2, e2⟩ := sl b _ hb e1
      exact ⟨_, e2⟩
    · obtain ⟨o', q⟩ := cov.old b o e hb
      exact ⟨o', s2 b o' q⟩
theorem fly_ok (ok : HOk P w H' h1) (trk : ∀ b u, H' b = some u → ∃ o', B.get? b = some o') (s1 : B.StaysIn h1) (s2 : B.StaysIn h2) : HOk P w H' h2 := fun b u e => by
  refine (ok b u e).stay (fun c v hc q => ?_) (fun _ q => q) fun _ _ q => q
  have : ∃ o', B.get? c = some o' := by
    rcases hc with rfl | hc
    · exact trk c u e
    · exact trk c _ hc
  obtain ⟨o', q'⟩ := this
  exact Heap.two s1 s2 q q'
end
def RaisesTo (X : Cx) (E : St → XK) : Prop := ∀ (pins : List (Addr × Obj)) (σ : St) (H : Hp) (s : Shared) (h' : Heap) (e : Addr) (cls : Value) (args : List Value), Inv X pins σ H s → Heap.MadeExcOf s.heap h' e cls args → E σ cls none H → X.xe (.ref e) { s with heap := h' }
def PassesS (CX : CXT) (X : Cx) (E : St → XK) : Prop := ∀ (pins : List (Addr × Obj)) (σ : St) (H : Hp) (s : Shared) (e : Value) (s' : Shared), Inv X pins σ H s → CX X.stack H s (E σ) e s' → X.xe e s'
section
variable {P : Program} {w : World} {K : PySem.W.Frag} {mg : Str → Option Value} {base : Heap} {N : List Str} {qual : Str} {scope : Scope} {f : Addr} {cd : Value} {A : Around} {outer : List Env} {s₀ : Shared} {H₀ : Hp} {E : XK}
theorem raisesTo_body : RaisesTo (cxOf (CXe P w) P w K mg base N qual scope f cd A outer s₀ H₀ E) (fun _ => E) := by
  intro pins σ H s h' e cls args I hx hE
  have ff := PySem.W.funFrames_hide (as := frs (cxOf (CXe P w) P w K mg base N qual scope f cd A outer s₀ H₀ E).stack) I.stack fun env he a ha => List.mem_filterMap.mpr ⟨env, he, ha⟩
  have stB : (PySem.W.hideAll s.heap (frs (cxOf (CXe P w) P w K mg base N qual scope f cd A outer s₀ H₀ E).stack)).StaysIn s.heap := fun b o e => PySem.W.of_hideAll _ e
  have inB : ∀ b o, s.heap.get? b = some o → b ∉ frs (cxOf (CXe P w) P w K mg base N qual scope f cd A outer s₀ H₀ E).stack → (PySem.W.hideAll s.heap (frs (cxOf (CXe P w) P w K mg base N qual scope f cd A outer s₀ H₀ E).stack)).get? b = some o :=
    fun b o e hb => PySem.W.hideAll_get _ e hb
  refine wpAny_leaves_madeW (outer := outer) I.ok.frames rfl stB ff hx fun h'' t fl tup nt up => ?_
  have cov : Cov (PySem.W.hideAll s.heap (frs (cxOf (CXe P w) P w K mg base N qual scope f cd A outer s₀ H₀ E).stack)) (frs outer) H s₀.heap := by
    refine ⟨fun b o e hb => ?_, fun b u e => ?_⟩
    · obtain ⟨o1, e1⟩ := I.base.there b o e (by intro z; exact absurd (show b ∈ ([] : List Addr) from z) (by simp))
      refine ⟨o1, inB b o1 e1 fun z => ?_⟩
      rcases List.mem_cons.mp (I.stkSub b z) with q | q
      · exact absurd q (Nat.ne_of_lt (Nat.lt_of_lt_of_le (Heap.lt_size e) I.ok.above))
      · exact hb q
    · obtain ⟨ob, eo⟩ := (I.hok b u e).obj
      exact ⟨ob, inB b ob eo fun z => by rw [I.stkFree b z] at e; cases e⟩
  refine ⟨e, cls, .ref t, _, H, rfl, I.os, I.bare, fly_un I.base cov stB fl.1 fun b o hb eo => ?_, fly_ok I.hok cov.trk stB fl.1, fl, cov, hE⟩
  obtain ⟨_, o', e', d⟩ := I.funs.mem hb
  rw [eo] at e'; cases e'
  exact up b o (hx.keeps b o eo) d
end
def tCallS (sp : Sp) (dvs : List V) (E : St → XK) (t : TA) : TE := fun σ H Q => t σ H fun vs H1 => sp (vs ++ dvs) H1 Q (E σ)
def tMethS (C : Addr) (m : Str) (sp : Sp) (dvs : List V) (E : St → XK) (ta : TE) (t : TA) : TE := fun σ H Q => ta σ H fun x H1 => ∃ a dx fs, x = .ref a ∧ H1 a = some (.ins C dx fs) ∧ fs.lookup m = none ∧
  t σ H1 fun vs H2 => sp (x :: (vs ++ dvs)) H2 Q (E σ)
def tMakeS (C : Addr) (sp : Sp) (dvs : List V) (E : St → XK) (t : TA) : TE := fun σ H Q => t σ H fun vs H1 => ∀ x dx, H1 x = none → H1 dx = none → dx ≠ x →
  sp (.ref x :: (vs ++ dvs)) (upd (upd H1 dx (.own x)) x (.ins C dx [])) (fun v H2 => v = .non ∧ Q (.ref x) H2) (E σ)
section
variable {X : Cx} {CX : CXT} {k : Nat} {f C : Addr} {fd : FuncData} {ps : List Str} {sp : Sp} {dvs : List V} {ds : List Value} {E : St → XK} {x m : Str} {p pos apos : Pos} {e o : Expr} {es : List Expr} {ta : TE} {t : TA}
theorem run_fnS {pins : List (Addr × Obj)} {σ : St} {H : Hp} {s : Shared} {Q : VK} {us : List Value} {vs : List V} (F : FnOk X.prog X.w X.K X.mg X.base CX k f fd ps sp) (hr : Room k X.A) (hb : Binds X.K fd ps ds) (hd : Vals dvs ds) (hx : PassesS CX X E)
    (I : Inv X pins σ H s) (r : Vals vs us) (h : sp (vs ++ dvs) H Q (E σ)) : wpAny (model X.prog X.w) X.A (call (.ref f) us) (EP X pins σ Q) X.xe s := by
  have r2 : Vals (vs ++ dvs) (us ++ ds) := r.append hd
  have hl : (us ++ ds).length = ps.length := by rw [← r2.length]; exact F.len _ _ _ _ h
  refine wpAny_call (codeAny_mono (F.run X.A X.stack s H ⟨us, []⟩ (us ++ ds) (vs ++ dvs) Q (E σ) hr I.env0 (hb s us I.kIn hl) r2 h) fun r s' hq => ?_)
  match r, hq with
  | .error e, hq => exact hx pins σ H s e s' I hq
  | .ok (.ret u), hq => exact I.after hq
  | .ok .next, hq => exact False.elim hq
  | .ok .brk, hq => exact False.elim hq
  | .ok .cont, hq => exact False.elim hq
theorem pe_callS (F : FnOk X.prog X.w X.K X.mg X.base CX k f fd ps sp) (hr : Room k X.A) (hg : Gl X x) (hm : X.mg x = some (.ref f)) (hk : PySem.W.keepIn X.K (.ref f) = true) (hb : Binds X.K fd ps ds) (hd : Vals dvs ds) (hx : PassesS CX X E)
    (ha : PA X (e :: es) t) (hdb : (x == ("__debug__" : Str)) = false := by decide) (he : starEach (e :: es) X.env = (false, eval e X.env) :: starEach es X.env := by rfl) (hpl : (backTo pos (starEach es X.env)).any (·.1) = false := by rfl) :
    PE X (.Call (.Name x p) (e :: es) [] pos) (tCallS sp dvs E t) := by
  intro pins s σ H Q I h
  refine wpAny_Call_Name_kw (ld_glob I hg hm (PySem.W.callWith_K (h₀ := X.base) I.ok.mod.kin hk (thn (ha pos pins s σ H _ I h) fun us s1 ⟨vs, H1, I1, r, q⟩ => ⟨I1.kIn, ?_⟩) he hpl) hdb)
  exact run_fnS F hr hb hd hx I1 r q
theorem pe_methS {pl : Sem Bool} (he : PE X o ta) (c : Cls X.K C) (hm : Meth X.K C m f) (F : FnOk X.prog X.w X.K X.mg X.base CX k f fd ps sp) (hr : Room k X.A) (hb : Binds X.K fd ps ds) (hd : Vals dvs ds) (hx : PassesS CX X E) (ha : PA X (e :: es) t)
    (hst : starEach (e :: es) X.env = (false, eval e X.env) :: starEach es X.env := by rfl) (hpl : (backTo pos (starEach es X.env)).any (·.1) = false := by rfl)
    (ht : eval (.Call (.Attribute o m apos) (e :: es) [] pos) X.env = (do
      let ov ← eval o X.env
      standAt apos.atName
      let (f, first) ← holding [ov] (getMethod ov m pl)
      callWith pos f first (backTo pos (starEach (e :: es) X.env)) (backToKw pos (keywordEach [] X.env))) := by rfl) :
    PE X (.Call (.Attribute o m apos) (e :: es) [] pos) (tMethS C m sp dvs E ta t) := by
  intro pins s σ H Q I h
  refine PySem.W.methodCall_KW (pl := pl) (thn (he pins s σ H _ I h) fun u s1 ⟨x, H1, I1, rx, a, dx, fs, ex, ea, l, q⟩ => ?_) ht
  subst ex
  obtain rfl : u = Value.ref a := rx
  refine getmeth_ok I1 ea c hm l (PySem.W.callWith_K (first := [.ref a]) (h₀ := X.base) I.ok.mod.kin hm.kp (thn (ha pos pins s1 σ H1 _ I1 q) fun us s2 ⟨vs, H2, I2, r, q2⟩ => ⟨I2.kIn, ?_⟩) hst hpl)
  exact run_fnS (us := .ref a :: us) (vs := .ref a :: vs) F hr hb hd hx I2 (.cons rfl r) q2
end
def tRaise (C : Addr) (E : St → XK) (t : TA) : TS := fun _ σ H => t σ H fun vs H1 => vs.length ≤ sizeLine ∧ E σ (.ref C) none H1
theorem ps_raise {X : Cx} {C : Addr} {x : Str} {bm : List Value} {newId initId B : String} {e : Expr} {es : List Expr} {t : TA} {np cpos pos : Pos} {E : St → XK} (O : OwnCls x C bm newId X.mg X.base) (FB : ExcBaseFacts B newId initId bm) (hc : X.calm = true) (hg : Gl X x)
    (hx : RaisesTo X E) (ha : PA X (e :: es) t) (he : starEach (e :: es) X.env = (false, eval e X.env) :: starEach es X.env := by rfl) (hpl : (backTo cpos (starEach es X.env)).any (·.1) = false := by rfl) (hd : (x == ("__debug__" : Str)) = false := by decide) :
    PS X (.Raise (some (.Call (.Name x np) (e :: es) [] cpos)) none pos) (tRaise C E t) := by
  intro pins s σ H D I h
  obtain ⟨tl, N, nm, q, bs, hdct, sn, sub, ab, col, dd, k0, k1, k2, k3, k5, mN, hC, hN, hni, T⟩ := O.obj
  refine wpAny_Raise_call_subT (C := C) (nm := nm) (q := q) (N := N) (bs := bs) (bm := tl) (hdct := hdct) (sn := sn) (sub := sub) (ab := ab) (col := col) (dd := dd) (k0 := k0) (k1 := k1) (k2 := k2) (k3 := k3) (k5 := k5)
    FB (mN := mN) (T.hasType FB.hasBase) (I.ok.hd hc) (by rw [he]; show (false || (backTo cpos (starEach es X.env)).any (·.1)) = false; rw [hpl]; rfl) hni (ld_glob I hg O.bound ⟨rfl, ?_⟩ hd)
  have ha' := ha cpos pins s σ H _ I h
  rw [he] at ha' ⊢
  refine Calls.evalArgs_plain (thn ha' fun us s2 ⟨vs, H2, I2, r, hl, hE⟩ => ⟨rfl, by rw [← r.length]; exact hl, I2.bk _ _ hC, hN.keeps I2.bk, T.keeps I2.bk, fun h' e hm => hx pins σ H2 s2 h' e _ _ I2 hm hE⟩)
end L2
namespace L2
open PySem PySem.Spec PyProof.Rows
theorem own_in {K : PySem.W.Frag} {h : Heap} {mg : Str → Option Value} {x : Str} {C : Addr} {bm : List Value} {nid : String} (X : K.In h) (G : h.Ns mainGlobals mg) (e : PySem.W.nsIn K mainGlobals x = some (some (.ref C))) (q : PySem.W.excIn K C bm nid = true) : OwnCls x C bm nid mg h := by
  have G' := PySem.W.mg_of X G e
  unfold PySem.W.excIn at q; split at q
  case h_2 => cases q
  rename_i dd cd sl ho; split at q
  case h_2 => cases q
  rename_i C' tl k0 k1 k2 k3 n k5 hm hs; simp only [Bool.and_eq_true, beq_iff_eq, Bool.not_eq_true'] at q
  obtain ⟨⟨⟨⟨⟨q1, q2⟩, q3⟩, q4⟩, q5⟩, q6⟩ := q; subst q1; subst q2
  obtain ⟨c1, c2, c3, c4, c5, c6, c7, c8, c9, c10, c11⟩ := cd; dsimp only at hm q3 q5 q6; subst hm; subst q3
  have z : sl = #[k0, k1, k2, k3, some (.builtin n), k5] := by obtain ⟨l⟩ := sl; simp only at hs; rw [hs]
  subst z
  exact ⟨G', tl, c4, c1, c5, c2, c6, c7, c8, c9, c10, dd, k0, k1, k2, k3, k5, _, X _ _ ho, .of_isNs (PySem.W.isNs_of_in X q5), PySem.W.nsMap_none_of_in X q5 q6, PySem.W.tail_of_in X q4⟩
end L2
namespace L2
open PySem PySem.Spec PyProof.Rows
abbrev Cx.wishP (X : Cx) (pl : List (Addr × Obj)) (E : Value → Shared → Prop) : Cx := { X with pn := X.pn ++ pl, xe := E }
abbrev Cx.caught (X : Cx) (a : Addr) : Cx := { X with A := X.A.mark (some (.ref a)), calm := false, xe := fun _ _ => False }
section
variable {X : Cx} {pins pl : List (Addr × Obj)} {σ : St} {H : Hp} {s : Shared} {E : Value → Shared → Prop} {a : Addr}
end
def tTry (K : PySem.W.Frag) (c : Value) (tb : (St → XK) → TS) (th : TS) : TS := fun D σ H => tb (fun σ' cls _ H' => PySem.W.exmOne K cls c = some true ∧ th D σ' H') D σ H
end L2
namespace L2
open PySem PySem.Spec PyProof.Rows
theorem boolsAre_of {bs : List Bool} : ∀ {us : List Value}, Vals (bs.map V.bl) us → LSm.BoolsAre us bs := by
  induction bs with
  | nil => intro us r; rw [List.map_nil] at r; cases r; exact .nil
  | cons n ns ih =>
    intro us r
    rw [List.map_cons] at r
    cases r with
    | cons r1 r2 => cases (show _ = Value.bool n from r1); exact .cons n (ih r2)
section
variable {X : Cx}
theorem call_sumX (b : Bool) (hc : X.calm = true) : CallR X (.builtin "sum") (fun xs H Q => ∃ (a : Addr) (ns : List Int), xs = [.ref a] ∧ SqX X.K b H a (ns.map V.int) ∧ Q (.int ns.sum) H) := by
  intro pins s σ H xs us Q I r h
  obtain ⟨a, ns, rfl, hs, q⟩ := h
  obtain ⟨u, rfl, ru⟩ := r.one
  cases ru
  obtain ⟨its, rv, p⟩ := I.sq hs
  have hi := intsAre_of rv
  obtain ⟨ys, hy⟩ := hi.allInts.items
  have e2 : preSum (numAt ys) ys.size = ns.sum := by
    have e1 : ns = ys.toList.map (·.1) := by
      rw [← nums_intItems, ← hy]; exact (show numsOf its.toArray.toList = ns from hi.numsOf).symm
    rw [preSum_eq, List.take_of_length_le (by simp), e1]
  rw [hy] at p
  cases b with
  | true => exact PySem.W.ktm_sumG (I.ok.hd hc) p fun h' tk t' hk => ⟨.int ns.sum, H, I.kept hk, ⟨t', by rw [e2]⟩, q⟩
  | false => exact sum_intListG (I.ok.hd hc) p fun h' tk t' hk => ⟨.int ns.sum, H, I.kept hk, ⟨t', by rw [e2]⟩, q⟩
theorem call_anyB (hc : X.calm = true) : CallR X (.builtin "any") (fun xs H Q => ∃ (a : Addr) (bs : List Bool), xs = [.ref a] ∧ SqL X.K H a (bs.map V.bl) ∧ Q (.bl (bs.any id)) H) := by
  intro pins s σ H xs us Q I r h
  obtain ⟨a, bs, rfl, hs, q⟩ := h
  obtain ⟨u, rfl, ru⟩ := r.one
  cases ru
  obtain ⟨its, rv, p, _⟩ := I.list hs
  have hb := boolsAre_of rv
  have hl := p.isList
  have lt : a < s.heap.objs.size := by obtain ⟨_, e, _⟩ := hl; exact Heap.lt_size e
  refine call_any_walk (wpAny_pyIter_list hl ⟨s.heap.objs.size, _, _, _, _, _, fun i => (bs[i]?).getD false, rfl, Walks.list (A := X.A.in1) (I.ok.hd hc) _ a (Nat.ne_of_lt lt) its.toArray, ⟨⟨_, Heap.get?_push_size _ rfl, rfl, rfl⟩, hl.push _⟩, fun i v s' Q' E' hP hQ => ?_, fun h' tk hk => ?_⟩)
  · obtain ⟨b, e, rfl⟩ := hb.get i v (by simpa using hP)
    simp only [e, Option.getD_some] at hQ; exact wpAny_truthy_bool hQ
  · refine ⟨.bl (bs.any id), H, I.kept (LSm.kept_iter hk), ?_, q⟩
    show Value.bool _ = Value.bool _
    rw [List.size_toArray, hb.length, LSm.range_any bs]
def clV : V → Option Value
  | .ty n => some (.type n)
  | .ref a => some (.ref a)
  | _ => none
theorem call_isinst : CallR X (.builtin "isinstance") (fun xs H Q => ∃ x y t c b, xs = [x, y] ∧ clV y = some c ∧ TyOf X.K H x t ∧ PySem.W.kitOne X.K t c = some b ∧ Q (.bl b) H) := by
  intro pins s σ H xs us Q I r h
  obtain ⟨x, y, t, c, b, rfl, hy, ty, e, q⟩ := h
  obtain ⟨u, v, rfl, ru, rv⟩ := r.two
  have ev : v = c := by
    cases y with
    | ty n => cases hy; exact rv
    | ref a => cases hy; exact rv
    | _ => cases hy
  subst ev
  exact isinst_ok I ru ty e fun tk => ⟨.bl b, H, I.tok _, rfl, q⟩
end
end L2
namespace L2
open PySem PySem.Spec PyProof.Rows
section
variable {P : Program} {w : World} {K : PySem.W.Frag} {mg : Str → Option Value} {base : Heap}
end
def CMulB (i j : Int) : Prop := i.natAbs < 2 ^ 4000 ∧ j.natAbs < 2 ^ 4000
theorem op_mulB {X : Cx} : OpR X (binaryOp .Mult) (rI CMulB fun i j => .int (i * j)) := opI fun _ _ _ _ _ _ _ hc q => mul_int q (PySem.IntMulOk.of_bits (Nat.le_trans (intBits_le hc.1) (by decide)) (Nat.le_trans (intBits_le hc.2) (by decide)))
end L2
namespace L2
open PySem PySem.Spec PyProof.Rows
structure CMeth (K : PySem.W.Frag) (C : Addr) (m : Str) (f : Addr) : Prop where
  ex : ∃ mc, PySem.W.readsIn K C mc = true ∧ PySem.W.findCls K (.ref C) mc m = some (.val (.ref f))
  sp : PySem.W.specialIn K (.ref C) "__getattribute__" = some (some (.builtin "type.__getattribute__"))
  kp : PySem.W.keepIn K (.ref f) = true
section
variable {X : Cx} {CX : CXT} {k : Nat} {f C : Addr} {fd : FuncData} {ps : List Str} {sp : Sp} {dvs : List V} {ds : List Value} {E : St → XK} {x m : Str} {p pos apos : Pos} {e o : Expr} {es : List Expr} {ta : TE} {t : TA}
theorem pe_cmeth {pl : Sem Bool} (CM : CMeth X.K C m f) (hg : Gl X x) (hm : X.mg x = some (.ref C)) (F : FnOk X.prog X.w X.K X.mg X.base CX k f fd ps sp) (hr : Room k X.A) (hb : Binds X.K fd ps ds) (hd : Vals dvs ds) (hx : PassesS CX X E) (ha : PA X (e :: es) t)
    (hdb : (x == ("__debug__" : Str)) = false := by decide) (hst : starEach (e :: es) X.env = (false, eval e X.env) :: starEach es X.env := by rfl) (hpl : (backTo pos (starEach es X.env)).any (·.1) = false := by rfl)
    (ht : eval (.Call (.Attribute (.Name x p) m apos) (e :: es) [] pos) X.env = (do
      let ov ← eval (.Name x p) X.env
      standAt apos.atName
      let (f, first) ← holding [ov] (getMethod ov m pl)
      callWith pos f first (backTo pos (starEach (e :: es) X.env)) (backToKw pos (keywordEach [] X.env))) := by rfl) :
    PE X (.Call (.Attribute (.Name x p) m apos) (e :: es) [] pos) (tCallS sp dvs E t) := by
  intro pins s σ H Q I h
  obtain ⟨mc, q1, q2⟩ := CM.ex
  refine PySem.W.methodCall_KW (pl := pl) (ld_glob I hg hm (PySem.W.method_cls I.kIn CM.sp (PySem.W.cls_value I.kIn q1 q2 rfl ?_)) hdb) ht
  have I1 := I.tok (s.toks + 1)
  refine PySem.W.callWith_K (first := []) (h₀ := X.base) I.ok.mod.kin CM.kp (thn (ha pos pins _ σ H _ I1 h) fun us s2 ⟨vs, H2, I2, r, q⟩ => ⟨I2.kIn, ?_⟩) hst hpl
  exact run_fnS F hr hb hd hx I2 r q
theorem run_makeS {pins : List (Addr × Obj)} {σ : St} {H : Hp} {s : Shared} {Q : VK} {us : List Value} {vs : List V} (M : Mk X.K C f) (F : FnOk X.prog X.w X.K X.mg X.base CX k f fd ps sp) (hr : Room (k + 1) X.A) (hb : Binds X.K fd ps ds) (hd : Vals dvs ds)
    (hx : PassesS CX X E) (I : Inv X pins σ H s) (r : Vals vs us)
    (h : ∀ x dx, H x = none → H dx = none → dx ≠ x → sp (.ref x :: (vs ++ dvs)) (upd (upd H dx (.own x)) x (.ins C dx [])) (fun v H2 => v = .non ∧ Q (.ref x) H2) (E σ)) :
    wpAny (model X.prog X.w) X.A (call (.ref C) us) (EP X pins σ Q) X.xe s := by
  have hq := h (s.heap.objs.size + 1) s.heap.objs.size (I.hok.fresh (Nat.le_succ _)) (I.hok.fresh (Nat.le_refl _)) (Nat.ne_of_lt (Nat.lt_succ_self _))
  have I2 := Inv.made (C := C) I
  have r2 : Vals (V.ref (s.heap.objs.size + 1) :: (vs ++ dvs)) (Value.ref (s.heap.objs.size + 1) :: (us ++ ds)) := .cons rfl (r.append hd)
  have hl : (Value.ref (s.heap.objs.size + 1) :: us ++ ds).length = ps.length := by
    have e := r2.length
    rw [F.len _ _ _ _ hq] at e
    exact e.symm
  refine wpAny_call (make_map (f := f) I.kIn M.makes M.init (beq_iff_eq.mp M.fn) (codeAny_mono (F.run _ X.stack _ _ ⟨Value.ref (s.heap.objs.size + 1) :: us, []⟩ (Value.ref (s.heap.objs.size + 1) :: (us ++ ds)) _ _ (E σ) (hr.make C us [])
    (I2.env0.make C us []) (hb _ (Value.ref (s.heap.objs.size + 1) :: us) I2.kIn hl) r2 hq) fun r s' hq' => ?_))
  match r, hq' with
  | .error e, hq' => exact hx pins σ _ _ e s' I2 hq'
  | .ok (.ret u), hq' =>
    obtain ⟨v, H', I3, rv, ev, q3⟩ := I2.after hq'
    subst ev
    exact ⟨rv, ⟨V.ref (s.heap.objs.size + 1), H', I3, rfl, q3⟩⟩
  | .ok .next, hq' => exact False.elim hq'
  | .ok .brk, hq' => exact False.elim hq'
  | .ok .cont, hq' => exact False.elim hq'
theorem pe_makeS (M : Mk X.K C f) (F : FnOk X.prog X.w X.K X.mg X.base CX k f fd ps sp) (hr : Room (k + 1) X.A) (hg : Gl X x) (hm : X.mg x = some (.ref C)) (hb : Binds X.K fd ps ds) (hd : Vals dvs ds) (hx : PassesS CX X E)
    (ha : PA X (e :: es) t) (hdb : (x == ("__debug__" : Str)) = false := by decide) (he : starEach (e :: es) X.env = (false, eval e X.env) :: starEach es X.env := by rfl) (hpl : (backTo pos (starEach es X.env)).any (·.1) = false := by rfl) :
    PE X (.Call (.Name x p) (e :: es) [] pos) (tMakeS C sp dvs E t) := by
  intro pins s σ H Q I h
  refine wpAny_Call_Name_kw (ld_glob I hg hm (PySem.W.callWith_K (h₀ := X.base) I.ok.mod.kin M.kp (thn (ha pos pins s σ H _ I h) fun us s1 ⟨vs, H1, I1, r, q⟩ => ⟨I1.kIn, ?_⟩) he hpl) hdb)
  exact run_makeS M F hr hb hd hx I1 r q
end
end L2
set_option Elab.async false
set_option linter.all false
set_option maxRecDepth 100000
namespace L2
open PySem PySem.Spec PyProof.Rows
structure FunD (K : PySem.W.Frag) (x qual : Str) (st : Stmt) (dV : Value) (f : Addr) (fd : FuncData) : Prop where
  ex : ∃ (oc : Value) (od : Option Addr) (kV doc pm : Value) (an : Option Addr) (cdv ct : Value) (osl : Array (Option Value)),
    fd = PySem.W.fnOf x qual (defArgs st) (defBody st) (defScope st) dV kV doc pm an cdv ct ∧ K.lookup f = some ⟨oc, od, .func fd, osl⟩ ∧ PySem.W.codeIn K cdv qual = true
section
variable {P : Program} {w : World} {K : PySem.W.Frag} {mg : Str → Option Value} {base : Heap} {x qual : Str} {st : Stmt} {dV : Value} {f : Addr} {fd : FuncData} {N ps : List Str} {k : Nat} {sp : Sp}
theorem FunD.okN (F : FunD K x qual st dV f fd) (S : FnScope N ps (defScope st)) (len : ∀ vs H Q E, sp vs H Q E → vs.length = ps.length)
    (hbody : ∀ (cdv : Value) (A : Around) (outer : List Env) (s : Shared) (H : Hp) (vs : List V) (Q : VK) (E : XK), Room k (A.deeper (envOfC qual (defScope st) s.heap.objs.size f cdv)) → sp vs H Q E →
      ∃ t, PSs (cxOf CX0 P w K mg base N qual (defScope st) f cdv A outer s H E).nox (defBody st) t ∧ t { nx := fun _ H' => Q .non H', rt := Q } (start N vs) H) : FnOk P w K mg base CX0 (k + 1) f fd ps sp := by
  obtain ⟨oc, od, kV, doc, pm, an, cdv, ct, osl, rfl, lk, hcd⟩ := F.ex
  refine fn_of lk hcd S len fun A outer s H vs Q E hr hsp => ?_
  obtain ⟨t, h, q⟩ := hbody cdv A outer s H vs Q E hr hsp
  exact ⟨t, h.nox, q⟩
theorem FunD.okX (F : FunD K x qual st dV f fd) (S : FnScope N ps (defScope st)) (len : ∀ vs H Q E, sp vs H Q E → vs.length = ps.length)
    (hbody : ∀ (cdv : Value) (A : Around) (outer : List Env) (s : Shared) (H : Hp) (vs : List V) (Q : VK) (E : XK), Room k (A.deeper (envOfC qual (defScope st) s.heap.objs.size f cdv)) → sp vs H Q E →
      ∃ t, PSs (cxOf (CXe P w) P w K mg base N qual (defScope st) f cdv A outer s H E) (defBody st) t ∧ t { nx := fun _ H' => Q .non H', rt := Q } (start N vs) H) : FnOk P w K mg base (CXe P w) (k + 1) f fd ps sp := by
  obtain ⟨oc, od, kV, doc, pm, an, cdv, ct, osl, rfl, lk, hcd⟩ := F.ex
  exact fn_of lk hcd S len fun A outer s H vs Q E hr hsp => hbody cdv A outer s H vs Q E hr hsp
theorem FunD.binds (F : FunD K x qual st .none f fd)
    (h : ∀ (kV doc pm : Value) (an : Option Addr) (cdv ct : Value) (us : List Value), us.length = ps.length → bindArgs (PySem.W.fnOf x qual (defArgs st) (defBody st) (defScope st) .none kV doc pm an cdv ct) ⟨us, []⟩ = pure (ps.zip us)) : Binds K fd ps [] := by
  obtain ⟨oc, od, kV, doc, pm, an, cdv, ct, osl, rfl, lk, hcd⟩ := F.ex
  exact .all (h kV doc pm an cdv ct)
theorem funD_mk {oc : Value} {od an : Option Addr} {osl : Array (Option Value)} {kV doc pm cdv ct : Value} (l : K.lookup f = some ⟨oc, od, .func (PySem.W.fnOf x qual (defArgs st) (defBody st) (defScope st) dV kV doc pm an cdv ct), osl⟩)
    (c : PySem.W.codeIn K cdv qual = true) : FunD K x qual st dV f (PySem.W.fnOf x qual (defArgs st) (defBody st) (defScope st) dV kV doc pm an cdv ct) := ⟨⟨oc, od, kV, doc, pm, an, cdv, ct, osl, rfl, l, c⟩⟩
end
structure Cal (P : Program) (w : World) (K : PySem.W.Frag) (mg : Str → Option Value) (base : Heap) (CX : CXT) (k : Nat) (x : Str) (ps : List Str) (ds : List Value) (sp : Sp) : Prop where
  ex : ∃ f fd, FnOk P w K mg base CX k f fd ps sp ∧ Binds K fd ps ds ∧ PySem.W.keepIn K (.ref f) = true ∧ mg x = some (.ref f)
structure MCal (P : Program) (w : World) (K : PySem.W.Frag) (mg : Str → Option Value) (base : Heap) (CX : CXT) (k : Nat) (C : Addr) (m : Str) (ps : List Str) (ds : List Value) (sp : Sp) : Prop where
  ex : ∃ f fd, FnOk P w K mg base CX k f fd ps sp ∧ Binds K fd ps ds ∧ Meth K C m f
  cl : Cls K C
structure Mak (P : Program) (w : World) (K : PySem.W.Frag) (mg : Str → Option Value) (base : Heap) (CX : CXT) (k : Nat) (x : Str) (C : Addr) (ps : List Str) (ds : List Value) (sp : Sp) : Prop where
  ex : ∃ f fd, FnOk P w K mg base CX k f fd ps sp ∧ Binds K fd ps ds ∧ Mk K C f
  at_ : mg x = some (.ref C)
structure CCal (P : Program) (w : World) (K : PySem.W.Frag) (mg : Str → Option Value) (base : Heap) (CX : CXT) (k : Nat) (x : Str) (m : Str) (ps : List Str) (ds : List Value) (sp : Sp) : Prop where
  ex : ∃ C f fd, FnOk P w K mg base CX k f fd ps sp ∧ Binds K fd ps ds ∧ CMeth K C m f ∧ mg x = some (.ref C)
structure Exc (K : PySem.W.Frag) (mg : Str → Option Value) (base : Heap) (x : Str) (C : Addr) : Prop where
  ex : ∃ bm nid init B, OwnCls x C bm nid mg base ∧ ExcBaseFacts B nid init bm
  at_ : mg x = some (.ref C)
  me : PySem.W.exmOne K (.ref C) (.ref C) = some true
theorem pass00 {X : Cx} : PassesS CX0 X (fun _ => E0) := fun _ _ _ _ _ _ _ h => h.elim
theorem passF {X : Cx} {P : Program} {w : World} : PassesS (CXe P w) X (fun _ => E0) := by
  rintro _ _ _ _ _ _ _ ⟨_, _, _, _, _, _, _, _, _, _, _, _, h⟩
  exact h.elim
section
variable {X : Cx} {CX : CXT} {k j : Nat} {C : Addr} {ps : List Str} {sp : Sp} {dvs : List V} {ds : List Value} {E : St → XK} {x m : Str} {p pos apos : Pos} {e o : Expr} {es : List Expr} {ta : TE} {t : TA}
theorem pe_c (c : Cal X.prog X.w X.K X.mg X.base CX k x ps ds sp) (hr : Room j X.A) (hx : PassesS CX X E) (hd : Vals dvs ds) (ha : PA X (e :: es) t) (hk : k ≤ j := by decide) (hg : Gl X x := by rfl)
    (hdb : (x == ("__debug__" : Str)) = false := by decide) (he : starEach (e :: es) X.env = (false, eval e X.env) :: starEach es X.env := by rfl) (hpl : (backTo pos (starEach es X.env)).any (·.1) = false := by rfl) :
    PE X (.Call (.Name x p) (e :: es) [] pos) (tCallS sp dvs E t) := by
  obtain ⟨f, fd, F, hb, hk', hm⟩ := c.ex
  exact pe_callS F (hr.mono hk) hg hm hk' hb hd hx ha hdb he hpl
theorem pe_m {pl : Sem Bool} (c : MCal X.prog X.w X.K X.mg X.base CX k C m ps ds sp) (he : PE X o ta) (hr : Room j X.A) (hx : PassesS CX X E) (hd : Vals dvs ds) (ha : PA X (e :: es) t) (hk : k ≤ j := by decide)
    (hst : starEach (e :: es) X.env = (false, eval e X.env) :: starEach es X.env := by rfl) (hpl : (backTo pos (starEach es X.env)).any (·.1) = false := by rfl)
    (ht : eval (.Call (.Attribute o m apos) (e :: es) [] pos) X.env = (do
      let ov ← eval o X.env
      standAt apos.atName
      let (f, first) ← holding [ov] (getMethod ov m pl)
      callWith pos f first (backTo pos (starEach (e :: es) X.env)) (backToKw pos (keywordEach [] X.env))) := by rfl) :
    PE X (.Call (.Attribute o m apos) (e :: es) [] pos) (tMethS C m sp dvs E ta t) := by
  obtain ⟨f, fd, F, hb, hm⟩ := c.ex
  exact pe_methS he c.cl hm F (hr.mono hk) hb hd hx ha hst hpl ht
theorem pe_m0 {pl : Sem Bool} (c : MCal X.prog X.w X.K X.mg X.base CX k C m ps ds sp) (he : PE X o ta) (hr : Room j X.A) (hx : PassesS CX X E) (hd : Vals dvs ds) (hk : k ≤ j := by decide)
    (ht : eval (.Call (.Attribute o m apos) [] [] pos) X.env = (do
      let ov ← eval o X.env
      standAt apos.atName
      let (f, first) ← holding [ov] (getMethod ov m pl)
      callWith pos f first (backTo pos (starEach [] X.env)) (backToKw pos (keywordEach [] X.env))) := by rfl) :
    PE X (.Call (.Attribute o m apos) [] [] pos) (tMethS C m sp dvs E ta tNil) := by
  obtain ⟨f, fd, F, hb, hm⟩ := c.ex
  intro pins s σ H Q I h
  refine PySem.W.methodCall_KW (pl := pl) (thn (he pins s σ H _ I h) fun u s1 ⟨x, H1, I1, rx, a, dx, fs, ex, ea, l, q⟩ => ?_) ht
  subst ex
  obtain rfl : u = Value.ref a := rx
  refine getmeth_ok I1 ea c.cl hm l ?_
  exact PySem.W.callWith_K0 (first := [.ref a]) I1.kIn hm.kp (run_fnS (us := [.ref a]) (vs := [.ref a]) F (hr.mono hk) hb hd hx I1 (.cons rfl .nil) q)
theorem pe_mk (c : Mak X.prog X.w X.K X.mg X.base CX k x C ps ds sp) (hr : Room j X.A) (hx : PassesS CX X E) (hd : Vals dvs ds) (ha : PA X (e :: es) t) (hk : k + 1 ≤ j := by decide) (hg : Gl X x := by rfl)
    (hdb : (x == ("__debug__" : Str)) = false := by decide) (he : starEach (e :: es) X.env = (false, eval e X.env) :: starEach es X.env := by rfl) (hpl : (backTo pos (starEach es X.env)).any (·.1) = false := by rfl) :
    PE X (.Call (.Name x p) (e :: es) [] pos) (tMakeS C sp dvs E t) := by
  obtain ⟨f, fd, F, hb, hm⟩ := c.ex
  exact pe_makeS hm F (hr.mono hk) hg c.at_ hb hd hx ha hdb he hpl
theorem pe_mk0 (c : Mak X.prog X.w X.K X.mg X.base CX k x C ps ds sp) (hr : Room j X.A) (hx : PassesS CX X E) (hd : Vals dvs ds) (hk : k + 1 ≤ j := by decide) (hg : Gl X x := by rfl) (hdb : (x == ("__debug__" : Str)) = false := by decide) :
    PE X (.Call (.Name x p) [] [] pos) (tMakeS C sp dvs E tNil) := by
  obtain ⟨f, fd, F, hb, hm⟩ := c.ex
  intro pins s σ H Q I h
  refine wpAny_Call_Name_kw (ld_glob I hg c.at_ ?_ hdb)
  exact PySem.W.callWith_K0 I.kIn hm.kp (run_makeS (us := []) hm F (hr.mono hk) hb hd hx I .nil h)
theorem pe_cm {pl : Sem Bool} (c : CCal X.prog X.w X.K X.mg X.base CX k x m ps ds sp) (hr : Room j X.A) (hx : PassesS CX X E) (hd : Vals dvs ds) (ha : PA X (e :: es) t) (hk : k ≤ j := by decide) (hg : Gl X x := by rfl)
    (hdb : (x == ("__debug__" : Str)) = false := by decide) (hst : starEach (e :: es) X.env = (false, eval e X.env) :: starEach es X.env := by rfl) (hpl : (backTo pos (starEach es X.env)).any (·.1) = false := by rfl)
    (ht : eval (.Call (.Attribute (.Name x p) m apos) (e :: es) [] pos) X.env = (do
      let ov ← eval (.Name x p) X.env
      standAt apos.atName
      let (f, first) ← holding [ov] (getMethod ov m pl)
      callWith pos f first (backTo pos (starEach (e :: es) X.env)) (backToKw pos (keywordEach [] X.env))) := by rfl) :
    PE X (.Call (.Attribute (.Name x p) m apos) (e :: es) [] pos) (tCallS sp dvs E t) := by
  obtain ⟨C, f, fd, F, hb, hm, hmg⟩ := c.ex
  exact pe_cmeth hm hg hmg F (hr.mono hk) hb hd hx ha hdb hst hpl ht
theorem ps_rz {np cpos : Pos} (x' : Exc X.K X.mg X.base x C) (hc : X.calm = true) (hg : Gl X x) (hx : RaisesTo X E) (ha : PA X (e :: es) t) (he : starEach (e :: es) X.env = (false, eval e X.env) :: starEach es X.env := by rfl) (hpl : (backTo cpos (starEach es X.env)).any (·.1) = false := by rfl) (hd : (x == ("__debug__" : Str)) = false := by decide) :
    PS X (.Raise (some (.Call (.Name x np) (e :: es) [] cpos)) none pos) (tRaise C E t) := by
  obtain ⟨bm, nid, init, B, O, FB⟩ := x'.ex
  exact ps_raise O FB hc hg hx ha he hpl hd
end
theorem pe_globI {X : Cx} {x : Str} {i : Int} {pos : Pos} (hm : ∃ tk, X.mg x = some (.int i tk)) (hg : Gl X x) (hd : (x == ("__debug__" : Str)) = false := by decide) : PE X (.Name x pos) (tC (.int i)) := by
  obtain ⟨tk, e⟩ := hm
  exact pe_glob hg e ⟨tk, rfl⟩ hd
def CDivB (_ j : Int) : Prop := j ≠ 0 ∧ j.natAbs < 2 ^ 8999
theorem op_fdivB {X : Cx} : OpR X (binaryOp .FloorDiv) (rI CDivB fun i j => .int (i.fdiv j)) := opI fun _ j _ _ _ _ _ hc q => floordiv_int hc.1 q (.inl (PyProof.noPylong_of_log2 (by
  have h0 : j.natAbs ≠ 0 := fun z => hc.1 (Int.natAbs_eq_zero.mp z)
  exact Nat.lt_of_lt_of_le ((Nat.log2_lt h0).mpr hc.2) (by decide))))
theorem cEq {a b : Int} {A B : Prop} (h1 : a = b → A) (h2 : a ≠ b → B) : if decide (V.int a = V.int b) = true then A else B := by
  by_cases h : a = b
  · rw [decide_eq_true (congrArg V.int h)]; exact iteT (h1 h)
  · rw [decide_eq_false fun z => h (by injection z)]; exact iteF (h2 h)
theorem cNe {a b : Int} {A B : Prop} (h1 : a ≠ b → A) (h2 : a = b → B) : if (!decide (V.int a = V.int b)) = true then A else B := by
  by_cases h : a = b
  · rw [decide_eq_true (congrArg V.int h)]; exact iteF (h2 h)
  · rw [decide_eq_false fun z => h (by injection z)]; exact iteT (h1 h)
theorem cD {c : Prop} [Decidable c] {A B : Prop} (h1 : c → A) (h2 : ¬ c → B) : if decide c = true then A else B := by
  by_cases h : c
  · rw [decide_eq_true h]; exact iteT (h1 h)
  · rw [decide_eq_false h]; exact iteF (h2 h)
theorem cN {c : Prop} [Decidable c] {A B : Prop} (h1 : ¬ c → A) (h2 : c → B) : if (!decide c) = true then A else B := by
  by_cases h : c
  · rw [decide_eq_true h]; exact iteF (h2 h)
  · rw [decide_eq_false h]; exact iteT (h1 h)
theorem cNB {b : Bool} {A B : Prop} (h1 : b = false → A) (h2 : b = true → B) : if (!b) = true then A else B := by
  cases b with
  | true => exact iteF (h2 rfl)
  | false => exact iteT (h1 rfl)
theorem dI {a b : Int} : decide (V.int a = V.int b) = decide (a = b) := by
  by_cases h : a = b
  · rw [decide_eq_true (congrArg V.int h), decide_eq_true h]
  · rw [decide_eq_false fun z => h (by injection z), decide_eq_false h]
end L2
namespace L2
open PySem PySem.Spec PyProof.Rows
mutual
inductive Rds (K : PySem.W.Frag) (H : Hp) : V → PyData → Prop
  | non : Rds K H .non .none
  | bl (b : Bool) : Rds K H (.bl b) (.bool b)
  | int (i : Int) : Rds K H (.int i) (.int i)
  | str (x : Str) : Rds K H (.str x) (.str x)
  | tup {a : Addr} {xs : List V} {ds : List PyData} : SqT K H a xs → RdsAll K H xs ds → Rds K H (.ref a) (.tuple ds)
  | lst {a : Addr} {xs : List V} {ds : List PyData} : SqL K H a xs → RdsAll K H xs ds → Rds K H (.ref a) (.list ds)
inductive RdsAll (K : PySem.W.Frag) (H : Hp) : List V → List PyData → Prop
  | nil : RdsAll K H [] []
  | cons {x : V} {xs : List V} {d : PyData} {ds : List PyData} : Rds K H x d → RdsAll K H xs ds → RdsAll K H (x :: xs) (d :: ds)
end
section
variable {X : Cx} {pins : List (Addr × Obj)} {σ : St} {H : Hp} {s : Shared}
mutual
theorem Inv.rds (I : Inv X pins σ H s) : ∀ {v : V} {d : PyData} {u : Value}, Rds X.K H v d → RelV v u → ∃ as, Reads s.heap u d as
  | _, _, _, .non, r => by cases (show _ = Value.none from r); exact ⟨_, .none⟩
  | _, _, _, .bl b, r => by cases (show _ = Value.bool b from r); exact ⟨_, .bool b⟩
  | _, _, _, .int i, r => by obtain ⟨t, rfl⟩ := r; exact ⟨_, .int i t⟩
  | _, _, _, .str x, r => by obtain ⟨t, rfl⟩ := r; exact ⟨_, .str x t⟩
  | _, _, _, .tup (a := a) h hs, r => by
    cases (show _ = Value.ref a from r)
    obtain ⟨its, rv, ⟨o, ho, hc, n, hd⟩, _⟩ := I.tuple h
    obtain ⟨as, q⟩ := Inv.rdsAll I hs rv
    exact ⟨as, .tuple ho hc hd (by simpa using q)⟩
  | _, _, _, .lst (a := a) h hs, r => by
    cases (show _ = Value.ref a from r)
    obtain ⟨its, rv, p, _⟩ := I.list h
    obtain ⟨o, ho, hc, n, hd⟩ := p.isList
    obtain ⟨as, q⟩ := Inv.rdsAll I hs rv
    exact ⟨_, .list ho hc hd (by simpa using q)⟩
theorem Inv.rdsAll (I : Inv X pins σ H s) : ∀ {vs : List V} {ds : List PyData} {us : List Value}, RdsAll X.K H vs ds → Vals vs us → ∃ as, ReadsAll s.heap us ds as
  | _, _, _, .nil, .nil => ⟨_, .nil⟩
  | _, _, _, .cons h hs, .cons r rs => by
    obtain ⟨as, q⟩ := Inv.rds I h r
    obtain ⟨bs, p⟩ := Inv.rdsAll I hs rs
    exact ⟨_, .cons q p⟩
end
end
section
variable {X : Cx}
theorem op_eqD (hu : X.A.units + 64 < cLine) : OpR X (compareOp .Eq) (fun x y H Q => ∃ d e, Rds X.K H x d ∧ Rds X.K H y e ∧ SeqAt.shaped d = true ∧ SeqAt.shaped e = true ∧ Q (.bl (PyData.eqv d e)) H) := by
  intro pins s σ H x y u v Q I rx ry h
  obtain ⟨d, e, hd, he, s1, s2, q⟩ := h
  obtain ⟨as, ra⟩ := I.rds hd rx
  obtain ⟨bs, rb⟩ := I.rds he ry
  exact eq_dataH ra rb s1 s2 hu ⟨.bl (PyData.eqv d e), H, I, rfl, q⟩
theorem op_neD (hu : X.A.units + 64 < cLine) : OpR X (compareOp .NotEq) (fun x y H Q => ∃ d e, Rds X.K H x d ∧ Rds X.K H y e ∧ SeqAt.shaped d = true ∧ SeqAt.shaped e = true ∧ Q (.bl (!PyData.eqv d e)) H) := by
  intro pins s σ H x y u v Q I rx ry h
  obtain ⟨d, e, hd, he, s1, s2, q⟩ := h
  obtain ⟨as, ra⟩ := I.rds hd rx
  obtain ⟨bs, rb⟩ := I.rds he ry
  exact ne_dataH ra rb s1 s2 hu ⟨.bl (!PyData.eqv d e), H, I, rfl, q⟩
end
theorem eqv_ints : ∀ ns ms : List Int, PyData.eqvAll (ns.map PyData.int) (ms.map PyData.int) = decide (ns = ms)
  | [], [] => by simp [PyData.eqvAll]
  | [], _ :: _ => by simp [PyData.eqvAll]
  | _ :: _, [] => by simp [PyData.eqvAll]
  | a :: r, b :: t => by
    simp only [List.map_cons, PyData.eqvAll, PyData.eqv, eqv_ints r t]
    by_cases h : a = b <;> by_cases h' : r = t <;> simp [h, h']
section
variable {X : Cx}
def rEqT (K : PySem.W.Frag) : R2 := fun x y H Q => ∃ (a b : Addr) (xs ys : List Int), x = .ref a ∧ y = .ref b ∧ SqT K H a (xs.map V.int) ∧ SqT K H b (ys.map V.int) ∧ Q (.bl (decide (xs = ys))) H
def rNeT (K : PySem.W.Frag) : R2 := fun x y H Q => ∃ (a b : Addr) (xs ys : List Int), x = .ref a ∧ y = .ref b ∧ SqT K H a (xs.map V.int) ∧ SqT K H b (ys.map V.int) ∧ Q (.bl (!decide (xs = ys))) H
end
end L2
namespace HT
open PySem PyProof.Rows
section
open PySem.SeqAt
open PySem.AutoSeq1 (wpAny_loadPart')
open PySem.MeetsSeq PySem.MeetsSeq2 PySem.MeetsSeq3
end
end HT
namespace L2
open PySem PySem.Spec PyProof.Rows
variable {X : Cx}
def rGtT (K : PySem.W.Frag) : R2 := fun x y H Q => ∃ (a b : Addr) (ns ms : List Int), x = .ref a ∧ y = .ref b ∧ SqT K H a (ns.map V.int) ∧ SqT K H b (ms.map V.int) ∧ Q (.bl (HT.lexLt ms ns)) H
end L2
namespace PySem
namespace F
theorem owner_rvd : Manifest.owners.lookup (String.ofList ['d', 'e', 's', 'r', 'e', 'v', 'e', 'r'].reverse) = some Manifest.sig_reversed := by kernel_rfl
theorem slot_rvd_next : Slot "reversed" "__next__" "reversed.__next__" :=
  .of (owner := "reversed") (n := "__next__") (by rw [typeLookup_type, builtinLookup_eq_fast]; kernel_rfl) (by decide +kernel) (by decide +kernel) (by decide +kernel)
    (by first | exact .inl (by decide +kernel) | exact .inr (by decide +kernel)) (by rw [isSubtype_type]; kernel_rfl)
theorem entry_rvd_next : entryFor table "reversed.__next__" = some Builtin.«reversed.__next__» := entryFor_of_tree (by kernel_rfl)
theorem args_rvd_next_1 (a : Value) : argsOk "reversed.__next__" ⟨[a], []⟩ := by
  unfold argsOk; rw [signature?_of (id := "reversed.__next__") (n := ['_', '_', 't', 'x', 'e', 'n', '_', '_']) (o := ['d', 'e', 's', 'r', 'e', 'v', 'e', 'r']) (by kernel_rfl) owner_rvd]; kernel_rfl
theorem slot_rvd_iter : Slot "reversed" "__iter__" "reversed.__iter__" :=
  .of (owner := "reversed") (n := "__iter__") (by rw [typeLookup_type, builtinLookup_eq_fast]; kernel_rfl) (by decide +kernel) (by decide +kernel) (by decide +kernel)
    (by first | exact .inl (by decide +kernel) | exact .inr (by decide +kernel)) (by rw [isSubtype_type]; kernel_rfl)
theorem args_rvd_iter_1 (a : Value) : argsOk "reversed.__iter__" ⟨[a], []⟩ := by
  unfold argsOk; rw [signature?_of (id := "reversed.__iter__") (n := ['_', '_', 'r', 'e', 't', 'i', '_', '_']) (o := ['d', 'e', 's', 'r', 'e', 'v', 'e', 'r']) (by kernel_rfl) owner_rvd]; kernel_rfl
theorem entry_rvd_iter : entryFor table "reversed.__iter__" = some Builtin.«dict_keyiterator.__iter__» :=
  entryFor_alias (id' := "dict_keyiterator.__iter__") (by kernel_rfl) (by first | rfl | decide +kernel | (unfold String.splitOn; simp +decide [String.splitOnAux])) (by decide +kernel) (by kernel_rfl)
theorem lookup_tuple_reversed : typeLookup (.type "tuple") "__reversed__" = pure none := by rw [typeLookup_type, builtinLookup_eq_fast]; kernel_rfl
theorem slot_rvd_init : Slot "reversed" "__init__" "object.__init__" :=
  .of (owner := "object") (n := "__init__") (by rw [typeLookup_type, builtinLookup_eq_fast]; kernel_rfl) (by decide +kernel) (by decide +kernel) (by decide +kernel)
    (by first | exact .inl (by decide +kernel) | exact .inr (by decide +kernel)) (by rw [isSubtype_type]; kernel_rfl)
theorem called_reversed : TypeCalled "reversed" "reversed.__new__" "object.__init__" :=
  ⟨by decide +kernel, by decide +kernel, ⟨_, _, mro_reversed⟩, made_reversed, by decide +kernel, by rw [isSubtype_type]; kernel_rfl, slot_rvd_init⟩
end F
end PySem
namespace L2
open PySem PySem.Spec PyProof.Rows PySem.MeetsSeq
theorem rev_made (t : Addr) (items : Array Value) : Meets (Builtin.«reversed.__new__» ⟨[.type "reversed", .ref t], []⟩) (fun _ R s => IsTup s.heap t items ∧ (items.size : Int) < 2 ^ 63 ∧
      R (.ok (.ret (.ref s.heap.objs.size))) { s with heap := s.heap.push { cls := .type "reversed", data := .fields #[.ref t, rawInt ((items.size : Int) - 1)] }, toks := s.toks + 1 + 1 }) :=
  .of_wp fun prog w A R s h => by
    obtain ⟨ht, hz, h⟩ := h
    unfold Builtin.«reversed.__new__»
    refine wpAny_bind (wpAny_of_eq (newClass_reversed _) ?_)
    try dsimp only
    refine wpAny_bind (wpAny_of_eq (a := ()) (by first | rfl | kernel_rfl) ?_)
    refine wpAny_bind (wpAny_of_eq (a := ()) (by first | rfl | kernel_rfl) ?_)
    try dsimp only
    refine wpAny_bind (wpAny_specialOf ht.typeIs F.lookup_tuple_reversed ?_)
    try dsimp only
    refine wpAny_bind ?_
    show wpAny _ _ (isInstance (.ref t) (.type "dict") >>= _) _ _ _
    refine wpAny_bind (wpAny_isInstance ht.typeIs F.sub_tuple_dict ?_)
    rw [if_neg Bool.false_ne_true]
    refine wpAny_bind (wpAny_specialOf ht.typeIs slot_tuple_getitem.lookup ?_)
    dsimp only
    rw [if_pos (by decide)]
    refine wpAny_pure ?_
    simp only [Bool.not_true, Bool.false_eq_true, if_false]
    refine wpAny_bind (len_tuple ht hz ?_)
    refine wpAny_bind (wpAny_of_eq (a := some (items.size : Int)) rfl ?_)
    dsimp only
    refine wpAny_bind ?_
    unfold Builtin.SmallTypes.newRecord
    dsimp only
    refine wpAny_newObj_type ?_
    exact wpAny_pure ⟨_, rfl, h⟩
section
variable {prog : Program} {w : World} {A : Around} {E : Value → Shared → Prop} {s : Shared}
def IsRvd (h : Heap) (a t : Addr) (i : Int) : Prop := ∃ o, h.get? a = some o ∧ o.cls = .type "reversed" ∧ o.data = .fields #[.ref t, rawInt i]
theorem IsRvd.typeIs {a t : Addr} {i : Int} (x : IsRvd s.heap a t i) : s.TypeIs (.ref a) "reversed" := let ⟨o, ho, hc, _⟩ := x; ⟨o, ho, hc⟩
theorem call_reversed_tup {t : Addr} {items : Array Value} {Q : Value → Shared → Prop} (ht : IsTup s.heap t items) (hz : (items.size : Int) < 2 ^ 63)
    (h : Q (.ref s.heap.objs.size) { s with heap := s.heap.push { cls := .type "reversed", data := .fields #[.ref t, rawInt ((items.size : Int) - 1)] }, toks := s.toks + 1 + 1 }) : wpAny (model prog w) A (call (.type "reversed") [.ref t]) Q E s := by
  refine callType_new F.called_reversed (by decide) (F.typeCall_reversed_1 _) (F.newCall_reversed_1 _) (fun obj => F.args_object_init_2 obj _) F.entry_reversed_new (rev_made t items) ⟨ht, hz, ?_⟩
  exact ⟨⟨_, Heap.get?_push_size _ rfl, rfl⟩, h⟩
theorem pyNext_rvd_item {it t : Addr} {i : Nat} {items : Array Value} {x : Value} {Q : Option Value → Shared → Prop} (hit : IsRvd s.heap it t (i : Int)) (ht : IsTup s.heap t items) (hz : (items.size : Int) < 2 ^ 63) (hx : items[i]? = some x)
    (hQ : ∀ h', IsRvd h' it t ((i : Int) - 1) → Heap.SameBut it s.heap h' → Q (some x) { s with heap := h', toks := s.toks + 1 }) : wpAny (model prog w) A (pyNext (.ref it)) Q E s := by
  obtain ⟨o, ho, hc, hd⟩ := id hit
  have hi : i < items.size := by
    rcases Nat.lt_or_ge i items.size with q | q
    · exact q
    · rw [Array.getElem?_eq_none q] at hx; cases hx
  have hs : seqIndex? (i : Int) items.size = some i := by
    unfold seqIndex?
    have n0 : ¬ (i : Int) < 0 := by omega
    simp only [n0, if_false]
    rw [if_pos (by simp; omega)]
    simp
  unfold pyNext
  refine wpAny_bind (wpAny_attempt (wpAny_callSpecial?_slot (name := Str.ofString "__next__") hit.typeIs F.slot_rvd_next
    (wpAny_call_entry F.slot_rvd_next hit.typeIs F.entry_rvd_next ?_ (F.args_rvd_next_1 _))))
  unfold Builtin.«reversed.__next__»
  refine wpAny_bind (wpAny_of_eq (a := (Value.ref it, [])) rfl ?_)
  try dsimp only
  refine wpAny_bind (wpAny_field ho hd (x := .ref t) rfl ?_)
  refine wpAny_bind (wpAny_field ho hd (x := rawInt (i : Int)) rfl ?_)
  show wpAny _ _ (if (i : Int) < 0 then _ else _) _ _ s
  rw [if_neg (by omega)]
  refine wpAny_bind (wpAny_specialOf ht.typeIs slot_tuple_getitem.lookup ?_)
  rw [if_neg (by simp)]
  refine wpAny_bind (wpAny_mkInt ?_)
  refine wpAny_bind (wpAny_attempt (getItem_tuple (j := i) ht (by omega) (by omega) hs (by simpa using hx) ?_))
  dsimp only
  refine wpAny_bind (wpAny_field ho hd (x := rawInt (i : Int)) rfl ?_)
  show wpAny _ _ (setField (.ref it) 1 (rawInt ((i : Int) - 1)) >>= _) _ _ _
  refine wpAny_bind (wpAny_setField ho hd (by simp) ?_)
  refine wpAny_pure ⟨x, rfl, wpAny_pure (hQ _ ?_ (Heap.SameBut.update ..))⟩
  exact ⟨_, Heap.get?_update_self _ ho (Obj.isFreed_of_fields (Obj.data_mapFields hd _)), (Obj.cls_mapFields ..).trans hc, by
    rw [Obj.data_mapFields hd]; simp⟩
theorem pyNext_rvd_end {it t : Addr} {Q : Option Value → Shared → Prop} (hh : A.handled = none) (hit : IsRvd s.heap it t (-1))
    (hQ : ∀ h', Heap.ExtBut it s.heap h' → Q none { s with heap := h' }) : wpAny (model prog w) A (pyNext (.ref it)) Q E s := by
  obtain ⟨o, ho, hc, hd⟩ := id hit
  unfold pyNext
  refine wpAny_bind (wpAny_attempt (wpAny_callSpecial?_slot (name := Str.ofString "__next__") hit.typeIs F.slot_rvd_next
    (wpAny_call_entry F.slot_rvd_next hit.typeIs F.entry_rvd_next ?_ (F.args_rvd_next_1 _))))
  unfold Builtin.«reversed.__next__»
  refine wpAny_bind (wpAny_of_eq (a := (Value.ref it, [])) rfl ?_)
  try dsimp only
  refine wpAny_bind (wpAny_field ho hd (x := .ref t) rfl ?_)
  refine wpAny_bind (wpAny_field ho hd (x := rawInt (-1)) rfl ?_)
  show wpAny _ _ (if (-1 : Int) < 0 then _ else _) _ _ s
  rw [if_pos (by decide)]
  refine wpAny_bind (wpAny_rule ?_)
  refine wpAny_bind ?_
  show wpAny _ _ (setField (.ref it) 1 (rawInt (-1)) >>= _) _ _ _
  refine wpAny_bind (wpAny_setField ho hd (by simp) ?_)
  have ho2 := Heap.get?_update_self (Obj.mapFields fun x => x.setIfInBounds 1 (rawInt (-1))) ho (Obj.isFreed_of_fields (Obj.data_mapFields hd _))
  refine wpAny_setField ho2 (Obj.data_mapFields hd _) (by simp) ?_
  refine wpAny_bind ?_
  show wpAny _ _ (newExc (.type "StopIteration") [] >>= _) _ _ _
  refine wpAny_bind ?_
  simp only [newExc, newTuple]
  refine wpAny_bind (wpAny_newObj_type ?_ (by size_fits))
  refine wpAny_bind (m := firstArgMember _ _) (wpAny_of_eq (a := Value.none) (by first | rfl | (simp only [firstArgMember]; rfl)) ?_)
  refine wpAny_newObj_type ?_ (by size_fits)
  simp only [raiseNew]
  refine wpAny_bind (wpAny_handled ?_)
  first | rw [show A.in1.handled = none from hh] | rw [hh]
  refine wpAny_bind (wpAny_pure (wpAny_throw ?_))
  refine wpAny_bind (wpAny_isInstance (T := "StopIteration") (b := true) ⟨_, Heap.get?_push_size _ rfl, rfl⟩ isSubtype_stop ?_)
  exact wpAny_pure (hQ _ fun b o hb e => Heap.get?_push_of_some _ (Heap.get?_push_of_some _ ((Heap.SameBut.update ..).extBut b o hb ((Heap.SameBut.update ..).extBut b o hb e))))
theorem pyIter_rvd {it t : Addr} {i : Int} {Q : Value → Shared → Prop} (hit : IsRvd s.heap it t i) (h : Q (.ref it) s) : wpAny (model prog w) A (pyIter (.ref it)) Q E s := by
  refine wpAny_pyIter_slot hit.typeIs F.slot_rvd_iter (wpAny_call_entry F.slot_rvd_iter hit.typeIs F.entry_rvd_iter ?_ (F.args_rvd_iter_1 _))
  show wpAny _ _ (ret (.ref it)) _ _ s
  exact wpAny_pure ⟨_, rfl, "reversed", _, hit.typeIs, F.slot_rvd_next.lookup, h⟩
end
def Itv (K : PySem.W.Frag) (a : Addr) (n : Nat) : It :=
  ⟨fun i H => i < n ∧ ∃ xs, SqT K H a xs ∧ xs.length = n, fun i H x H' => H' = H ∧ ∀ xs, SqT K H a xs → xs[n - 1 - i]? = some x, fun i H => i = n⟩
theorem turn_rvd {P : Program} {w : World} {K : PySem.W.Frag} {tg : Expr} (a it : Addr) (n : Nat) : Turn P w K tg (Itv K a n) [it] it (fun i h => IsRvd h it a ((n : Int) - 1 - (i : Int))) where
  mem := by simp
  obj := fun i h st b hb => by
    simp only [List.mem_cons, List.not_mem_nil, or_false] at hb
    subst hb
    obtain ⟨o, ho, hc, hd⟩ := st
    exact ⟨o, ho, fun v q => by rw [hd] at q; cases q⟩
  keep := fun i h h' st k => by obtain ⟨o, ho, r⟩ := st; exact ⟨o, k it (by simp) o ho, r⟩
  item := by
    intro X hP hw hK hc i pins s σ H E I hf st hg
    subst hP hw hK
    obtain ⟨hi, xs, hx, hn⟩ := hg
    obtain ⟨its, rv, p, hz⟩ := I.tuple hx
    have hl := rv.length
    have hlt := line63
    have e1 : (n : Int) - 1 - (i : Int) = ((n - 1 - i : Nat) : Int) := by omega
    rw [e1] at st
    obtain ⟨x, ex⟩ : ∃ x, xs[n - 1 - i]? = some x := ⟨xs[n - 1 - i], by simp⟩
    obtain ⟨u, eu, ru⟩ := rv.get ex
    refine pyNext_rvd_item st p (by rw [List.size_toArray]; omega) (x := u) (by simpa using eu) fun h' st' sb => ⟨u, rfl, ?_⟩
    obtain ⟨o, ho, hcl, hd⟩ := id st'
    refine go_of (s := { s with heap := h', toks := s.toks + 1 }) ho hcl hd (by decide) ?_
    obtain ⟨f0, f1, f2, f3, f4, f5⟩ := hf it (by simp)
    have e2 : ((n - 1 - i : Nat) : Int) - 1 = (n : Int) - 1 - ((i + 1 : Nat) : Int) := by omega
    rw [e2] at st'
    exact ⟨x, H, I.turned (t' := s.toks + 1) (fun b o hb e => sb.extBut b o hb e) f0 f1 f3 f4 f5, ru, ⟨rfl, fun ys hy => by rw [I.tuple_inj hy hx]; exact ex⟩, st', fun b hb => (hf b hb).1⟩
  done := by
    intro X hP hw hK hc i pins s σ H E I hf st hg
    subst hP hw hK
    obtain rfl : i = n := hg
    have e1 : (i : Int) - 1 - (i : Int) = -1 := by omega
    rw [e1] at st
    obtain ⟨f0, f1, f2, f3, f4, f5⟩ := hf it (by simp)
    exact pyNext_rvd_end (I.ok.hd hc) st fun h' eb => ⟨rfl, I.turned (t' := s.toks) (fun b o hb e => eb b o hb e) f0 f1 f3 f4 f5⟩
  self := fun _ _ _ _ _ st h => pyIter_rvd st h
def iRvd (K : PySem.W.Frag) (ta : TA) : TI := fun σ H R => ta σ H fun vs H1 => ∃ a xs, vs = [.ref a] ∧ SqT K H1 a xs ∧ R (Itv K a xs.length) H1
theorem boot_reversed : bootBuiltins "reversed" = some (.type "reversed") := by kernel_rfl
theorem pi_rev {X : Cx} {tg : Expr} {p pos : Pos} {e1 : Expr} {ta : TA} (hg : Gl X "reversed") (hm : X.mg "reversed" = none) (ha : PA X [e1] ta)
    (he : starEach [e1] X.env = (false, eval e1 X.env) :: starEach [] X.env := by rfl) (hpl : (backTo pos (starEach [] X.env)).any (·.1) = false := by rfl) :
    PI X tg (.Call (.Name "reversed" p) [e1] [] pos) (iRvd X.K ta) := by
  intro pins s σ H R I h
  refine wpAny_Call_Name_kw (ld_blt I hg hm boot_reversed ?_ (by decide) (by decide))
  refine PyProof.Rows.callWith_type1 (thn (ha pos pins s σ H _ I h) fun us s1 ⟨vs, H1, I1, r1, a, xs, ev, hx, q⟩ => ?_) he hpl
  subst ev
  obtain ⟨u, rfl, ru⟩ := r1.one
  cases ru
  obtain ⟨its, rv, pt, hz⟩ := I1.tuple hx
  have hl := rv.length
  have hlt := line63
  refine call_reversed_tup pt (by rw [List.size_toArray]; omega) ?_
  have hit : IsRvd (s1.heap.push { cls := .type "reversed", data := .fields #[.ref a, rawInt ((its.toArray.size : Int) - 1)] }) s1.heap.objs.size a ((xs.length : Int) - 1 - ((0 : Nat) : Int)) := by
    refine ⟨_, Heap.get?_push_size _ rfl, rfl, ?_⟩
    have e : ((its.toArray.size : Nat) : Int) - 1 = (xs.length : Int) - 1 - ((0 : Nat) : Int) := by rw [List.size_toArray, hl]; omega
    rw [e]
  refine pyIter_rvd hit ?_
  have I2 : Inv X pins σ H1 { s1 with heap := s1.heap.push { cls := .type "reversed", data := .fields #[.ref a, rawInt ((its.toArray.size : Int) - 1)] }, toks := s1.toks + 1 + 1 } := I1.kept (t' := s1.toks + 1 + 1) fun b o e => Heap.get?_push_of_some _ e
  refine ⟨s1.heap.objs.size, [s1.heap.objs.size], _, _, H1, rfl, I2, turn_rvd a s1.heap.objs.size xs.length, hit, fun b hb => ?_, q⟩
  obtain rfl : b = s1.heap.objs.size := by simpa using hb
  exact I1.fpOk (Nat.le_refl _) (I1.hok.fresh (Nat.le_refl _))
theorem walk_rvd {K : PySem.W.Frag} {H1 : Hp} {a : Addr} {xs : List V} (h : SqT K H1 a xs) : Walk (Itv K a xs.length) H1 xs.length (fun i x _ => xs[xs.length - 1 - i]? = some x) :=
  ⟨fun i H' e hi => ⟨hi, xs, e.seqT h, rfl⟩, fun H' e => rfl, fun i H' x H2 e hi y => by
    obtain ⟨rfl, q⟩ := y
    exact ⟨Same.refl _, q xs (e.seqT h)⟩⟩
theorem walk_comp {J : It} {n : Nat} {P : Nat → V → Hp → Prop} {mp : List (Option Nat)} {wi : TI} {g : TG} {tc : TT} {te : TE} {σ : St} {H H1 : Hp} {Q : VK} (S : Walk J H1 n P) (hn : n ≤ 1000) (hwi : ∀ R, R J H1 → wi σ H R) (Sv : St → Prop) (p : Nat → Bool) (f : Nat → V) (h0 : Sv (st0 mp σ))
    (step : ∀ i x σ' H2, i < n → Sv σ' → Same H1 H2 → P i x H2 → ∀ (Ny : V → St → Hp → Prop) (Nn : St → Hp → Prop), (∀ σ2 H5, Sv σ2 → Same H2 H5 → p i = true → Ny (f i) σ2 H5) → (∀ σ2 H4, Sv σ2 → Same H2 H4 → p i = false → Nn σ2 H4) →
      g x σ' H2 fun σ2 H3 => tc σ2 H3 fun b H4 => if b = true then te σ2 H4 fun v H5 => Ny v σ2 H5 else Nn σ2 H4)
    (hQ : ∀ D H', Same H1 H' → H' D = some (.lst (((List.range n).filter p).map f)) → Q (.ref D) H') : tComp mp wi g tc te σ H Q := by
  unfold tComp
  refine hwi _ fun D hD => ?_
  exact comp_vals S hD (Nat.le_trans hn (by rw [sizeLine_eq]; decide)) Sv p f h0 step fun H' e hL => hQ D H' e hL
end L2
namespace L2
open PySem PySem.Spec PyProof.Rows
def blk1 (X : Cx) (N : List Str) (scope : Scope) (cl : List (Str × Addr)) (own : Str) (C : Addr) (s : Shared) (H : Hp) (fp : List Addr) : Cx :=
  { X with N := N, s₀ := s, H₀ := H, env := compEnvC scope ((own, C + 1) :: cl) C X.env, outer := X.stack, ex := fp, fn := fun x => decide (x = own), pn := [], xe := fun _ _ => False }
structure Blk1 (X : Cx) (N : List Str) (scope : Scope) (cl : List (Str × Addr)) (own : Str) (mp : List (Option Nat)) : Prop where
  clos : closureFor scope X.env = pure cl
  cf : ∀ n, cellsFrom n scope.names cl = (own, n) :: cl
  pc : ∀ h : Heap, pushCells h scope.names = h.push { cls := .type "cell", data := .cell none }
  kind : scope.kind = .function
  nms : ∀ y ∈ scope.names, y.2 = .local → scope.names.lookup y.1 = some .local
  nd : N.Nodup
  sub : ∀ x c, cl.lookup x = some c → X.env.cells.lookup x = some c
  has : ∀ x, ((relabel scope X.env).names.lookup x = some .cell ∨ (relabel scope X.env).names.lookup x = some .free) → x = own ∨ ∃ c, cl.lookup x = some c
  len : mp.length = N.length
  map : ∀ (i j : Nat) (x : Str), mp[i]? = some (some j) → N[i]? = some x → x ≠ own ∧ X.N[j]? = some x ∧ (X.env.scope.names.lookup x = some .cell ∨ X.env.scope.names.lookup x = some .free) ∧
    ((relabel scope X.env).names.lookup x = some .cell ∨ (relabel scope X.env).names.lookup x = some .free)
section
variable {X : Cx} {pins : List (Addr × Obj)} {σ : St} {H : Hp} {s : Shared} {N : List Str} {scope : Scope} {cl : List (Str × Addr)} {own : Str} {mp : List (Option Nat)} {fp : List Addr}
end
end L2
namespace L2
open PySem PySem.Spec PyProof.Rows
def SubC (cl cells : List (Str × Addr)) : Prop := ∀ x c, cl.lookup x = some c → cells.lookup x = some c
def MapC (X : Cx) (scope : Scope) (mp : List (Option Nat)) (N : List Str) : Prop := ∀ (i j : Nat) (x : Str), mp[i]? = some (some j) → N[i]? = some x → X.N[j]? = some x ∧ (X.env.scope.names.lookup x = some .cell ∨ X.env.scope.names.lookup x = some .free) ∧ scope.names.lookup x = some .free
end L2
namespace L2
open PySem PySem.Spec PyProof.Rows
structure Mk0 (K : PySem.W.Frag) (C : Addr) : Prop where
  makes : PySem.W.makesIn K C = true
  init : PySem.W.findIn K (.ref C) "__init__" = some (some (.builtin "object.__init__"))
  kp : PySem.W.keepIn K (.ref C) = true
def tMk0 (C : Addr) : TE := fun _ H Q => ∀ x dx, H x = none → H dx = none → dx ≠ x → Q (.ref x) (upd (upd H dx (.own x)) x (.ins C dx []))
theorem pe_new0 {X : Cx} {C : Addr} {x : Str} {p pos : Pos} (M : Mk0 X.K C) (hm : X.mg x = some (.ref C)) (hg : Gl X x := by rfl) (hdb : (x == ("__debug__" : Str)) = false := by decide) : PE X (.Call (.Name x p) [] [] pos) (tMk0 C) := by
  intro pins s σ H Q I h
  refine wpAny_Call_Name_kw (ld_glob I hg hm (PySem.W.callWith_K0 I.kIn M.kp ?_) hdb)
  have hq := h (s.heap.objs.size + 1) s.heap.objs.size (I.hok.fresh (Nat.le_succ _)) (I.hok.fresh (Nat.le_refl _)) (Nat.ne_of_lt (Nat.lt_succ_self _))
  have I2 := Inv.made (C := C) I
  refine wpAny_call (make_map0 I.kIn M.makes M.init (fun self => PySem.W.Looks.of_pure (PySem.W.oi_bind self)) ?_)
  have Y := PySem.W.makes_of (M := model X.prog X.w) I.kIn M.makes
  have e2 : ((s.heap.push PySem.W.emptyDict).push (PySem.W.instObj C s.heap.objs.size)).get? (s.heap.objs.size + 1) = some (PySem.W.instObj C s.heap.objs.size) := by
    have := Heap.get?_push_size (s.heap.push PySem.W.emptyDict) (o := PySem.W.instObj C s.heap.objs.size) rfl
    rwa [Heap.size_push] at this
  have t1 : PySem.W.Looks (model X.prog X.w) ((s.heap.push PySem.W.emptyDict).push (PySem.W.instObj C s.heap.objs.size)) (typeOf (.ref (s.heap.objs.size + 1))) (.ref C) := (PySem.W.Looks.ld e2).andThen .now
  have t2 : PySem.W.Looks (model X.prog X.w) ((s.heap.push PySem.W.emptyDict).push (PySem.W.instObj C s.heap.objs.size)) (isInstance (.ref (s.heap.objs.size + 1)) (.type "object")) true :=
    t1.andThen (Y.top.keeps fun b o e => Heap.get?_push_of_some _ (Heap.get?_push_of_some _ e))
  refine codeAny_call_builtin PySem.W.oi_plain PySem.W.entry_oi (@PySem.W.check_slot (model X.prog X.w) _ _ _ "object.__init__" "object" "__init__" (.ref (s.heap.objs.size + 1)) [] [] _ PySem.W.oi_kind PySem.W.oi_split t2 (PySem.W.oi_args (.ref (s.heap.objs.size + 1))) ?_)
  rw [PySem.W.oi_run]
  exact wpAny_pure (And.intro rfl ⟨.ref (s.heap.objs.size + 1), _, I2, rfl, hq⟩)
end L2
namespace L2
open PySem PySem.Spec PyProof.Rows
abbrev yes2 : Int → Int → Bool := fun _ _ => true
theorem zipV_W (φ : Int → Int → Int) (xs ys : List Int) : zipV yes2 (fun x y => .int (φ x y)) xs ys = (List.zipWith φ xs ys).map V.int := by
  unfold zipV
  rw [List.filter_eq_self.mpr (fun _ _ => rfl)]
  refine List.ext_getElem? fun i => ?_
  rw [List.getElem?_map, List.getElem?_map, List.getElem?_zipWith]
  by_cases h : i < min xs.length ys.length
  · have h1 : i < xs.length := by omega
    have h2 : i < ys.length := by omega
    rw [List.getElem?_range h, List.getElem?_eq_getElem h1, List.getElem?_eq_getElem h2]
    simp [List.getD, h1, h2]
  · rw [List.getElem?_eq_none (by simpa using h)]
    rcases Nat.lt_or_ge i xs.length with q | q
    · rw [List.getElem?_eq_none (l := ys) (by omega)]
      cases xs[i]? <;> rfl
    · rw [List.getElem?_eq_none (l := xs) q]; rfl
theorem rev_getD (xs : List Int) (f : Int → Int) : (List.range xs.length).map (fun i => f (xs.getD (xs.length - 1 - i) 0)) = xs.reverse.map f := by
  refine List.ext_getElem? fun i => ?_
  rw [List.getElem?_map, List.getElem?_map]
  by_cases h : i < xs.length
  · rw [List.getElem?_range h, List.getElem?_reverse h, List.getElem?_eq_getElem (show xs.length - 1 - i < xs.length by omega)]
    simp [List.getD, show xs.length - 1 - i < xs.length by omega]
  · rw [List.getElem?_eq_none (by simpa using h), List.getElem?_eq_none (by rw [List.length_reverse]; omega)]; rfl
end L2
namespace L2
open PySem PySem.Spec PyProof.Rows
theorem store_use {X : Cx} {pins : List (Addr × Obj)} {σ0 σ : St} {H0 H' : Hp} {s0 s' : Shared} {C : Addr} {i : Nat} {x : Str} {pos' : Pos} {v : V} {u : Value} {Nx : St → Hp → Prop} (I0 : Inv X pins σ0 H0 s0) (hC : s0.heap.objs.size ≤ C) (I : Inv X pins σ H' s') (hn : H' C = none)
    (hns : ∃ m, s'.heap.Ns C m) (hg : PG X (.Name x pos') (gName i)) (r : RelV v u) (q : Nx (σ.set i (some v)) H') :
    wpAny (model X.prog X.w) X.A (assign (.Name x pos') X.env u) (fun _ s'' => ∃ m, s''.heap.Ns C m ∧ ∀ h', Heap.SameBut C s''.heap h' → ∃ σ2 H2, Inv X pins σ2 H2 { s'' with heap := h' } ∧ Nx σ2 H2) X.xe s' := by
  obtain ⟨m, o, es, ep, ho, hd, rest⟩ := hns
  have fp : FpOk X pins H' C := I0.fpOk hC hn
  have I1 := I.pinned (fp := [C]) (fun b hb => by obtain rfl : b = C := by simpa using hb
                                                  exact fp) (fun b hb => by
    obtain rfl : b = C := by simpa using hb
    exact ⟨o, ho, fun v z => by rw [hd] at z; cases z⟩)
  refine thn (hg _ _ _ _ _ _ Nx I1 r q) fun _ s2 ⟨σ2, H2, I2, q2⟩ => ?_
  have pn := I2.pin (C, o) (List.mem_append_right _ (List.mem_append_right _ (mem_pinsAt (by simp) ho)))
  refine ⟨m, ⟨o, es, ep, pn.1, hd, rest⟩, fun h' sb => ⟨σ2, H2, ?_, q2⟩⟩
  obtain ⟨f0, f1, f2, f3, f4, f5⟩ := fp
  exact I2.unpinned.turned (t' := s2.toks) (fun b ob hb e => sb.extBut b ob hb e) pn.2.1 f1 f3 f4 f5
theorem ps_setC {X : Cx} {N : List Str} {scope : Scope} {cl : List (Str × Addr)} {mp : List (Option Nat)} {elt tg iter : Expr} {ifs : List Expr} {wi : TI} {g : TG} {tc : TT} {te : TE} {pos pos' posA : Pos} {i : Nat} {x : Str} (hn : PG X (.Name x pos') (gName i)) (B : Blk X N scope cl mp) (hc : X.calm = true)
    (hi : PI X tg iter wi) (hg : ∀ C s H fp, PG (blk X N scope cl C s H fp) tg g) (ht : ∀ C s H fp, PTs (blk X N scope cl C s H fp) ifs tc) (he : ∀ C s H fp, PE (blk X N scope cl C s H fp) elt te)
    (hs : ∀ x, foldedSetIterable iter X.env x = pure x := by intro _; rfl) (hsw : swapsWith (.ListComp elt [⟨tg, iter, ifs, 0⟩] scope pos) (some (.Name x pos')) posA.line X.env = pure true := by rfl) :
    PS X (.Assign [.Name x pos'] (.ListComp elt [⟨tg, iter, ifs, 0⟩] scope pos) posA) (tAsg (tComp mp wi g tc te) (gName i)) := by
  intro pins s σ H Dn I h
  unfold tAsg tComp at h
  rw [exec_Assign_Name_used _ _ _ _ hsw]
  refine wpAny_bind (wpAny_standAt (wpAny_bind ?_))
  show wpAny _ _ (comprehension (.ListComp elt [⟨tg, iter, ifs, 0⟩] scope pos) scope X.env _ (newList []) false (eval iter X.env) (some (assign (.Name x pos') X.env)) >>= _) _ _ _
  refine wpAny_bind (wpAny_comprehension_free (use := some (assign (.Name x pos') X.env)) (cl := cl) rfl hs B.clos B.kind B.nms (thn (hi pins s σ H _ I h) fun v s1 h1 => thn h1 fun itv s2 h2 => ?_))
  obtain ⟨it, fp, tn, J, H2, rfl, I2, T, st2, f2, q⟩ := h2
  have lt2 : ∀ b ∈ fp, b < s2.heap.objs.size := fun b hb => let ⟨o, e, _⟩ := T.obj _ _ st2 b hb; Heap.lt_size e
  obtain ⟨W, ⟨m0, w0⟩, turn⟩ := q _ I2.fresh
  have ID := I2.lnew (ys := []) (its := []) (t' := s2.toks) .nil (Nat.zero_le _)
  have fD' : ∀ b ∈ fp, FpOk X pins (upd H2 s2.heap.objs.size (.lst [])) b := fun b hb => by
    obtain ⟨f0, r⟩ := f2 b hb
    exact ⟨by rw [upd_ne (Nat.ne_of_lt (lt2 b hb))]; exact f0, r⟩
  refine wpAny_newObj_type (comp_block B hc hg ht he ID fD' T (T.keep _ _ _ st2 fun b _ o e => Heap.get?_push_of_some _ e) w0 turn fun C H' σ' s' hC J' qf => ?_)
  have hns : ∃ m, s'.heap.Ns C m := let ⟨m, hm, _⟩ := J'.loc; ⟨m, hm⟩
  have I3 : Inv X pins σ H' { s' with heap := s'.heap } := blk_out ID fD' hC J' (Heap.SameBut.refl _ _)
  exact thn (store_use (v := .ref s2.heap.objs.size) ID hC I3 J'.free hns hn rfl qf) fun _ s4 ⟨m, hm, q4⟩ => ⟨m, hm, fun h' sb => wpAny_pure (wpAny_pure (q4 h' sb))⟩
end L2
namespace L2
open PySem PySem.Spec PyProof.Rows
def rTupleOf (K : PySem.W.Frag) : List V → Hp → VK → Prop := fun xs H Q => ∃ p ys, xs = [.ref p] ∧ ((SqL K H p ys ∧ ∀ l, H l = none → Q (.ref l) (upd H l (.tup ys))) ∨ (SqT K H p ys ∧ Q (.ref p) H))
def rListOf (K : PySem.W.Frag) : List V → Hp → VK → Prop := fun xs H Q => ∃ p ys, xs = [.ref p] ∧ (SqL K H p ys ∨ SqT K H p ys) ∧ ∀ l, H l = none → Q (.ref l) (upd H l (.lst ys))
def rLenSeq (K : PySem.W.Frag) : List V → Hp → VK → Prop := fun xs H Q => ∃ p ys, xs = [.ref p] ∧ (SqL K H p ys ∨ SqT K H p ys) ∧ Q (.int ys.length) H
def rSumX (K : PySem.W.Frag) (b : Bool) : List V → Hp → VK → Prop := fun xs H Q => ∃ (a : Addr) (ns : List Int), xs = [.ref a] ∧ SqX K b H a (ns.map V.int) ∧ Q (.int ns.sum) H
def rAllB (K : PySem.W.Frag) : List V → Hp → VK → Prop := fun xs H Q => ∃ (a : Addr) (bs : List Bool), xs = [.ref a] ∧ SqL K H a (bs.map V.bl) ∧ Q (.bl (bs.all id)) H
def rAnyB (K : PySem.W.Frag) : List V → Hp → VK → Prop := fun xs H Q => ∃ (a : Addr) (bs : List Bool), xs = [.ref a] ∧ SqL K H a (bs.map V.bl) ∧ Q (.bl (bs.any id)) H
def rIsInst (K : PySem.W.Frag) : List V → Hp → VK → Prop := fun xs H Q => ∃ x y t c b, xs = [x, y] ∧ clV y = some c ∧ TyOf K H x t ∧ PySem.W.kitOne K t c = some b ∧ Q (.bl b) H
section
variable {X : Cx} {K : PySem.W.Frag}
theorem call_tupleK (hK : X.K = K) : CallR X (.type "tuple") (rTupleOf K) := by subst hK; exact call_tuple_of
theorem call_listK (hK : X.K = K) : CallR X (.type "list") (rListOf K) := by subst hK; exact call_list_of
theorem call_lenK (hK : X.K = K) : CallR X (.builtin "len") (rLenSeq K) := by subst hK; exact call_len_seq
theorem call_sumK (hK : X.K = K) (b : Bool) (hc : X.calm = true) : CallR X (.builtin "sum") (rSumX K b) := by subst hK; exact call_sumX b hc
theorem call_anyK (hK : X.K = K) (hc : X.calm = true) : CallR X (.builtin "any") (rAnyB K) := by subst hK; exact call_anyB hc
theorem call_isinstK (hK : X.K = K) : CallR X (.builtin "isinstance") (rIsInst K) := by subst hK; exact call_isinst
theorem pe_fldK {e : Expr} {f : Str} {pos : Pos} {ta : TE} (hK : X.K = K) (he : PE X e ta) (hb : attributeBase e f X.env (eval e X.env) = eval e X.env) : PE X (.Attribute e f pos) (tFld K ta f) := by subst hK; exact pe_fld he hb
theorem pi_listK {tg l : Expr} {tl : TE} (hK : X.K = K) (hl : PE X l tl) : PI X tg l (iList K tl) := by subst hK; exact pi_list hl
theorem pi_zipK {es : List Expr} {ek : Nat} {tpos p pos : Pos} (hK : X.K = K) (b1 b2 : Bool) {e1 e2 : Expr} {ta : TA} (hg : Gl X "zip") (hm : X.mg "zip" = none) (ha : PA X [e1, e2] ta)
    (he : starEach [e1, e2] X.env = (false, eval e1 X.env) :: starEach [e2] X.env := by rfl) (hpl : (backTo pos (starEach [e2] X.env)).any (·.1) = false := by rfl) :
    PI X (.Tuple es ek tpos) (.Call (.Name "zip" p) [e1, e2] [] pos) (iZip K b1 b2 ta) := by subst hK; exact pi_zip b1 b2 hg hm ha he hpl
theorem pi_revK {tg : Expr} {p pos : Pos} {e1 : Expr} {ta : TA} (hK : X.K = K) (hg : Gl X "reversed") (hm : X.mg "reversed" = none) (ha : PA X [e1] ta)
    (he : starEach [e1] X.env = (false, eval e1 X.env) :: starEach [] X.env := by rfl) (hpl : (backTo pos (starEach [] X.env)).any (·.1) = false := by rfl) :
    PI X tg (.Call (.Name "reversed" p) [e1] [] pos) (iRvd K ta) := by subst hK; exact pi_rev hg hm ha he hpl
theorem sl_listK (hK : X.K = K) : SlR X (rSlL K) := by subst hK; exact sl_list
end
end L2
set_option Elab.async false
set_option linter.all false
set_option maxRecDepth 100000
namespace L2
open PySem PySem.Spec PyProof.Rows
structure BMeth (K : PySem.W.Frag) (m : Str) (f : Addr) : Prop where
  get : PySem.W.specialIn K (.ref f) "__get__" = some (some (.builtin "function.__get__"))
  tk : PySem.W.takesIn K (.ref f) = some false
  cp : PySem.W.copiedNames.contains m = false
theorem findObj_fnL {K : PySem.W.Frag} {C f : Addr} {name : Str} {od : Obj} {g : Value} (hh : PySem.W.hasDictIn K C = true) (ha : PySem.W.findIn K (.ref C) name = some (some (.ref f))) (hg : PySem.W.specialIn K (.ref f) "__get__" = some (some g))
    (ht : PySem.W.takesIn K (.ref f) = some false) (hc : PySem.W.copiedNames.contains name = false) (hl : PySem.W.lookIn name od = some none) : PySem.W.findObj K C (some od) name = some (.bind g (.ref f)) := by
  obtain ⟨cd, hc', hd⟩ := PySem.W.any_some hh
  unfold PySem.W.findObj
  have ho : PySem.W.ownOf cd (some od) name = some none := by unfold PySem.W.ownOf; rw [if_pos hd]; exact hl
  rw [hc', Option.bind_some, ha, Option.bind_some]
  simp only [hg, ht, Option.bind_some, ho, hc, Bool.false_and, Bool.false_eq_true, if_false]
section
variable {X : Cx} {pins : List (Addr × Obj)} {σ : St} {H : Hp} {s : Shared} {a C dx : Addr} {fs : List (Str × V)} {m : Str} {f : Addr} {A : Around} {E : Value → Shared → Prop}
theorem getbnd_ok {b : Bool} {Q : Value → Shared → Prop} (I : Inv X pins σ H s) (e : H a = some (.ins C dx fs)) (c : Cls X.K C) (k : Meth X.K C m f) (kb : BMeth X.K m f) (l : fs.lookup m = none)
    (h : Q (.ref s.heap.objs.size) { s with heap := s.heap.push (PySem.W.methodObj (.ref f) (.ref a)), toks := s.toks + 1 }) : wpAny (model X.prog X.w) A (getAttr (.ref a) m b) Q E s := by
  obtain ⟨mA, O, r, _, _, _⟩ := ins_get I.hok e
  have hn : mA m = none := RelO.none_of (by rw [← l]; exact r m)
  obtain ⟨od, J, hl⟩ := O.look
  refine PySem.W.get_bind I.kIn J (PySem.W.plainGet_of (c.get m)).1 (findObj_fnL c.hd k.at_ kb.get kb.tk kb.cp (by rw [hl, hn])) (PySem.W.plainGet_of (c.get m)).2 ?_
  exact wpAny_call (PySem.W.fn_get (s := { s with toks := s.toks + 1 }) I.kIn (beq_iff_eq.mp k.fn) (PySem.W.handed_on rfl h))
theorem Inv.repin {pa pb : List (Addr × Obj)} {b : Addr} {o o' : Obj} {t' : Nat} {h' : Heap} {H₁ : Hp} (I : Inv X (pa ++ (b, o) :: pb) σ H s) (f : FpOk X (pa ++ pb) H₁ b) (k : ∀ c u, c ≠ b → s.heap.get? c = some u → h'.get? c = some u)
    (e : h'.get? b = some o') (hc : ∀ v, o'.data ≠ .cell v) : Inv X (pa ++ (b, o') :: pb) σ H { s with heap := h', toks := t' } := by
  have pb' := I.pin (b, o) (List.mem_append_right _ (List.mem_append_right _ (.head _)))
  have I1 : Inv X (pa ++ pb) σ H s := I.pins_of fun p hp => I.pin p (List.mem_append_right _ ((List.mem_append.mp hp).elim (fun z => List.mem_append_left _ z) fun z => List.mem_append_right _ (.tail _ z)))
  have I2 := I1.turned (t' := t') (h' := h') (it := b) k pb'.2.1 f.2.1 f.2.2.2.1 f.2.2.2.2.1 f.2.2.2.2.2
  refine I2.pins_of fun p hp => ?_
  rcases List.mem_append.mp hp with z | z
  · exact I2.pin p (List.mem_append_right _ (List.mem_append_left _ z))
  · rcases List.mem_cons.mp z with rfl | z
    · exact ⟨e, pb'.2.1, f.2.1, f.2.2.1, hc⟩
    · exact I2.pin p (List.mem_append_right _ (List.mem_append_right _ z))
theorem FpOk.more {pa : List (Addr × Obj)} {b : Addr} (f : FpOk X pins H b) (h : ∀ p ∈ pa, p.1 ≠ b) : FpOk X (pa ++ pins) H b := by
  refine ⟨f.1, f.2.1, f.2.2.1, f.2.2.2.1, f.2.2.2.2.1, fun p hp => ?_⟩
  rcases List.mem_append.mp hp with z | z
  · exact f.2.2.2.2.2 p (List.mem_append_left _ z)
  · rcases List.mem_append.mp z with z | z
    · exact h p z
    · exact f.2.2.2.2.2 p (List.mem_append_right _ z)
end
def BRun (X : Cx) (q f a : Addr) (sp : V → Hp → VK → Prop) : Prop := ∀ (pins : List (Addr × Obj)) (s : Shared) (σ : St) (H : Hp) (Q : VK) (x : V) (u : Value), Inv X pins σ H s → (q, PySem.W.methodObj (.ref f) (.ref a)) ∈ pins → RelV x u → sp x H Q →
  wpAny (model X.prog X.w) X.A.in1 (call (.ref q) [u]) (EP X pins σ Q) (fun _ _ => False) s
def mxGo (K : PySem.W.Frag) (l : Addr) (all : List V) (sp : V → Hp → VK → Prop) : List V → V → V → Hp → VK → Prop
  | [], b, _, H, Q => Q b H
  | x :: xs, b, kb, H, Q => sp x H fun k H1 => H1 l = some (.lst all) ∧ ∃ (a c : Addr) (ns ms : List Int), k = .ref a ∧ kb = .ref c ∧ SqT K H1 a (ns.map V.int) ∧ SqT K H1 c (ms.map V.int) ∧
    (HT.lexLt ms ns = true → mxGo K l all sp xs x k H1 Q) ∧ (HT.lexLt ms ns = false → mxGo K l all sp xs b kb H1 Q)
def mxAll (K : PySem.W.Frag) (l : Addr) (all : List V) (sp : V → Hp → VK → Prop) : List V → Hp → VK → Prop
  | [], _, _ => False
  | x :: xs, H, Q => sp x H fun k H1 => H1 l = some (.lst all) ∧ mxGo K l all sp xs x k H1 Q
section
variable {X : Cx} {pins : List (Addr × Obj)} {σ : St} {l q It S f a : Addr} {all : List V} {sp : V → Hp → VK → Prop} {Q : VK} {H₁ : Hp}
end
end L2
namespace L2
open PySem PySem.Spec PyProof.Rows
structure BM (K : PySem.W.Frag) (C : Addr) (m : Str) : Prop where
  ex : ∃ f, PySem.W.findIn K (.ref C) m = some (some (.ref f)) ∧ BMeth K m f
def tMaxK (K : PySem.W.Frag) (C : Addr) (m : Str) (sp : Sp) (dvs : List V) (te ta : TE) : TE := fun σ H Q => te σ H fun v H1 => ta σ H1 fun o H2 => ∃ (a dx : Addr) (fs : List (Str × V)) (l : Addr) (all : List V), o = .ref a ∧ H2 a = some (.ins C dx fs) ∧ fs.lookup m = none ∧
  v = .ref l ∧ H2 l = some (.lst all) ∧ mxAll K l all (fun x H Q => sp (.ref a :: x :: dvs) H Q E0) all H2 Q
section
variable {X : Cx} {k j : Nat} {C : Addr} {ps : List Str} {sp : Sp} {dvs : List V} {ds : List Value} {m : Str} {p pos apos kpos : Pos} {e o : Expr} {te ta : TE}
theorem Inv.pinNew {pins : List (Addr × Obj)} {σ : St} {H : Hp} {s : Shared} {ob : Obj} {t' : Nat} (I : Inv X pins σ H s) (hf : ob.isFreed = false) (hc : ∀ v, ob.data ≠ .cell v) : Inv X ((s.heap.objs.size, ob) :: pins) σ H { s with heap := s.heap.push ob, toks := t' } := by
  have I1 : Inv X pins σ H { s with heap := s.heap.push ob, toks := t' } := I.kept fun b u e => Heap.get?_push_of_some _ e
  refine I1.pins_of fun q hq => ?_
  rcases List.mem_cons.mp hq with rfl | hq
  · exact ⟨Heap.get?_push_size _ hf, I.hok.fresh (Nat.le_refl _), Nat.ne_of_gt I.lt, I.nofs (Nat.le_refl _), hc⟩
  · exact I1.pin q (List.mem_append_right _ hq)
end
end L2
namespace L2
open PySem PySem.Spec PyProof.Rows
theorem Inv.unpin {X : Cx} {pins : List (Addr × Obj)} {σ : St} {H H₁ : Hp} {s : Shared} {D : Addr} {xs : List V} {vs : List Value} {n : Nat} (I : Inv X ((D, seqObj "list" vs.toArray n) :: pins) σ H s) (f : FpOk X pins H₁ D) (r : Vals xs vs) (hz : xs.length ≤ sizeLine) : Inv X pins σ (upd H D (.lst xs)) s := by
  have pD := I.pin (D, seqObj "list" vs.toArray n) (List.mem_append_right _ (.head _))
  have I1 : Inv X pins σ H s := I.pins_of fun p hp => I.pin p (List.mem_append_right _ (.tail _ hp))
  have ne : ∀ b o, H b = some o → b ≠ D := fun b o e z => by rw [z, pD.2.1] at e; cases e
  have st := I1.step (h' := s.heap) (H' := upd H D (.lst xs)) (g' := s.gens) (d' := s.drawn) (t' := s.toks) (ch := [D])
    (fun b hb => by rw [List.mem_singleton.mp hb]; exact ⟨f.2.2.2.1, f.2.1, f.2.2.2.2.1, f.2.2.2.2.2⟩)
    (fun b o _ _ _ e _ => e) (fun b o _ _ _ e _ => ⟨o.slots, e⟩) (fun b o hb _ e => by rw [upd_ne (fun z => hb (by simp [z]))]; exact e)
    (fun b o _ e => ⟨o, e⟩) (fun b xs e => by rw [upd_ne (ne b _ e)]; exact e) (fun b o u e => by rw [upd_ne (ne b _ e)]; exact e) (fun b ps e => ⟨#[], by rw [upd_ne (ne b _ e)]; simpa using e⟩)
    (fun m hm => hm) (fun b o e => ?_) I1.bare
  · exact st
  · by_cases hb : b = D
    · subst hb
      rw [upd_same] at e; cases e
      exact ⟨hz, vs, n, r, pD.1⟩
    · rw [upd_ne hb] at e
      exact (I.hok b o e).stay (fun c v hc q => q) (fun c q => (by rw [upd_ne (ne _ _ q)]; exact q)) fun c w q => (by rw [upd_ne (ne _ _ q)]; exact q)
end L2
namespace TS
open PySem PyProof.Rows
local macro_rules | `(tactic| walk_at "sort gallop") => do `(tactic| delta $(Lean.mkIdent (Lean.mkPrivateNameCore `PySem.Builtin.List.W1All `PySem.Builtin.gallop)):ident)
structure Cmp (prog : Program) (w : World) (A : Around) (s : Shared) (kd : SortKind) (a₀ : Array Keyed) (O : KeyOrd) (key : Keyed → O.α) : Prop where
  ask : ∀ x ∈ a₀.toList, ∀ y ∈ a₀.toList, ∀ (Q : Bool → Shared → Prop) (E : Value → Shared → Prop), Q (O.blt (key x) (key y)) s → wpAny (model prog w) A (keyLt' kd x.1 y.1) Q E s
structure SB (kd : SortKind) (a₀ : Array Keyed) (st : SortSt) : Prop where
  kind : kindOf st = kd
  perm : (arrOf st).Perm a₀
  failed : failedOf st = none
section
variable {prog : Program} {w : World} {A : Around} {E : Value → Shared → Prop} {s : Shared} {kd : SortKind} {a₀ : Array Keyed} {O : KeyOrd} {key : Keyed → O.α}
theorem SB.size {st : SortSt} (B : SB kd a₀ st) : (arrOf st).size = a₀.size := B.perm.size_eq
theorem SB.mem {st : SortSt} (B : SB kd a₀ st) {x : Keyed} (h : x ∈ (arrOf st).toList) : x ∈ a₀.toList := (Array.perm_iff_toList_perm.mp B.perm).mem_iff.mp h
theorem wp_lt (C : Cmp prog w A s kd a₀ O key) {st : SortSt} (hk : kindOf st = kd) {x y : Keyed} (hx : x ∈ a₀.toList) (hy : y ∈ a₀.toList) {Q : Option Bool → SortSt → Prop} (h : Q (some (O.blt (key x) (key y))) st) :
    wpS (model prog w) A E s ((sortPriv% PySem.Builtin.lt) x y) Q st := by
  show wpS (model prog w) A E s (lt' x y) Q st
  rw [lt'_eq]
  refine wpS_bind (wpS_get ?_)
  rw [hk]
  exact wpS_bind (wpS_lift (wpAny_attempt (C.ask x hx y hy _ _ ⟨rfl, wpS_pure h⟩)))
theorem wp_elem {arr : Array Keyed} {i : Nat} {x : Keyed} {st : SortSt} {Q : Keyed → SortSt → Prop} (hi : arr[i]? = some x) (h : Q x st) : wpS (model prog w) A E s ((sortPriv% PySem.Builtin.elem) arr i) Q st := by
  show wpS (model prog w) A E s (elem' arr i) Q st
  rw [elem'_eq, hi]
  exact wpS_pure h
def bey (O : KeyOrd) (left : Bool) (k x : O.α) : Bool := if left then O.blt x k else !(O.blt k x)
end
end TS
namespace TS
open PySem PyProof.Rows
local macro_rules | `(tactic| walk_at "sort setMinGallop") => do `(tactic| delta $(Lean.mkIdent (Lean.mkPrivateNameCore `PySem.Builtin.List.W1All `PySem.Builtin.setMinGallop)):ident)
local macro_rules | `(tactic| walk_at "sort mergeLo") => do `(tactic| delta $(Lean.mkIdent (Lean.mkPrivateNameCore `PySem.Builtin.List.W1All `PySem.Builtin.mergeLo)):ident)
section
variable {O : KeyOrd} (key : Keyed → O.α)
def Srt (l : List Keyed) : Prop := l.Pairwise fun x y => O.kle (key x) (key y)
structure Mrg (la lb o : List Keyed) (ia ib : Nat) : Prop where
  perm : (o ++ (la.drop ia ++ lb.drop ib)).Perm (la ++ lb)
  srt : Srt key o
  lea : ∀ x ∈ o, ∀ y ∈ la.drop ia, O.kle (key x) (key y)
  leb : ∀ x ∈ o, ∀ y ∈ lb.drop ib, O.kle (key x) (key y)
def Res (la lb r : List Keyed) : Prop := r.Perm (la ++ lb) ∧ Srt key r
variable {key} {la lb o : List Keyed} {ia ib : Nat} {x : Keyed}
end
section
variable {prog : Program} {w : World} {A : Around} {E : Value → Shared → Prop} {s : Shared} {kd : SortKind} {a₀ : Array Keyed} {O : KeyOrd} {key : Keyed → O.α}
structure Same (st₀ st : SortSt) : Prop where
  kind : kindOf st = kindOf st₀
  arr : arrOf st = arrOf st₀
  pend : pendingOf st = pendingOf st₀
  fail : failedOf st = failedOf st₀
end
end TS
namespace TS
open PySem PyProof.Rows
local macro_rules | `(tactic| walk_at "sort mergeHi") => do `(tactic| delta $(Lean.mkIdent (Lean.mkPrivateNameCore `PySem.Builtin.List.W1All `PySem.Builtin.mergeHi)):ident)
section
variable {O : KeyOrd} (key : Keyed → O.α)
structure MrgH (la lb o : List Keyed) (na nb : Nat) : Prop where
  perm : (la.take na ++ lb.take nb ++ o.reverse).Perm (la ++ lb)
  srt : Srt key o.reverse
  lea : ∀ x ∈ la.take na, ∀ y ∈ o, O.kle (key x) (key y)
  leb : ∀ x ∈ lb.take nb, ∀ y ∈ o, O.kle (key x) (key y)
variable {key} {la lb o : List Keyed} {na nb : Nat} {x : Keyed}
end
section
variable {prog : Program} {w : World} {A : Around} {E : Value → Shared → Prop} {s : Shared} {kd : SortKind} {a₀ : Array Keyed} {O : KeyOrd} {key : Keyed → O.α}
end
end TS
namespace TS
open PySem PyProof.Rows
local macro_rules | `(tactic| walk_at "sort mergeAt") => do `(tactic| delta $(Lean.mkIdent (Lean.mkPrivateNameCore `PySem.Builtin.List.W1All `PySem.Builtin.mergeAt)):ident)
section
variable {O : KeyOrd} {key : Keyed → O.α} {la lb m : List Keyed} {k r : Nat}
end
section
variable {prog : Program} {w : World} {A : Around} {E : Value → Shared → Prop} {s : Shared} {kd : SortKind} {a₀ : Array Keyed} {O : KeyOrd} {key : Keyed → O.α}
end
end TS
namespace TS
open PySem PyProof.Rows
local macro_rules | `(tactic| walk_at "sort ltAt") => do `(tactic| delta $(Lean.mkIdent (Lean.mkPrivateNameCore `PySem.Builtin.List.W1All `PySem.Builtin.ltAt)):ident)
local macro_rules | `(tactic| walk_at "sort countRun") => do `(tactic| delta $(Lean.mkIdent (Lean.mkPrivateNameCore `PySem.Builtin.List.W1All `PySem.Builtin.countRun)):ident)
local macro_rules | `(tactic| walk_at "sort binarySort") => do `(tactic| delta $(Lean.mkIdent (Lean.mkPrivateNameCore `PySem.Builtin.List.W1All `PySem.Builtin.binarySort)):ident)
section
variable {O : KeyOrd} (key : Keyed → O.α)
def Kf (xs : Array Keyed) (i : Nat) : O.α := key (xs.getD i (.none, .none))
def SegS (xs : Array Keyed) (lo n : Nat) : Prop := ∀ i j, lo ≤ i → i ≤ j → j < lo + n → O.kle (Kf key xs i) (Kf key xs j)
def SegD (xs : Array Keyed) (lo n : Nat) : Prop := ∀ i j, lo ≤ i → i ≤ j → j < lo + n → O.kle (Kf key xs j) (Kf key xs i)
variable {key}
theorem Kf_congr {xs ys : Array Keyed} {i j : Nat} (h : xs[i]? = ys[j]?) : Kf key xs i = Kf key ys j := by
  unfold Kf; rw [Array.getD_eq_getD_getElem?, Array.getD_eq_getD_getElem?, h]
theorem Kf_mirror {xs : Array Keyed} {i j : Nat} (hj : j ≤ xs.size) (k : Nat) : Kf key (mirror xs i j ((j - i) / 2)) k = if i ≤ k ∧ k < j then Kf key xs (i + j - 1 - k) else Kf key xs k := by
  have e := getElem?_mirror_all (i := i) hj k
  by_cases h1 : i ≤ k ∧ k < j
  · rw [if_pos h1] at e ⊢; exact Kf_congr e
  · rw [if_neg h1] at e ⊢; exact Kf_congr e
theorem Kf_mirror_equal {xs : Array Keyed} {i j : Nat} (hj : j ≤ xs.size) (heq : ∀ k, i ≤ k → k < j → Kf key xs k = Kf key xs (j - 1)) (k : Nat) : Kf key (mirror xs i j ((j - i) / 2)) k = Kf key xs k := by
  rw [Kf_mirror hj]
  split
  · rw [heq _ (by omega) (by omega), heq k (by omega) (by omega)]
  · rfl
theorem Kf_bubble {xs : Array Keyed} {src d : Nat} (hs : src < xs.size) (hd : d ≤ src) (k : Nat) :
    Kf key (bubble xs src d) k = if k = src - d then Kf key xs src else if src - d < k ∧ k ≤ src then Kf key xs (k - 1) else Kf key xs k := by
  have e := getElem?_bubble hs d hd k
  by_cases h1 : k = src - d
  · rw [if_pos h1] at e ⊢; exact Kf_congr e
  · rw [if_neg h1] at e ⊢
    by_cases h2 : src - d < k ∧ k ≤ src
    · rw [if_pos h2] at e ⊢; exact Kf_congr e
    · rw [if_neg h2] at e ⊢; exact Kf_congr e
end
section
variable {O : KeyOrd} {key : Keyed → O.α}
theorem seg_one {xs : Array Keyed} {lo : Nat} : SegS key xs lo 1 := fun i j h1 h2 h3 => by
  have : i = j := by omega
  subst this; exact KeyOrd.kle_refl _
theorem seg_succ {xs : Array Keyed} {lo x : Nat} (hs : SegS key xs lo x) (hx : 1 ≤ x) (hl : O.blt (Kf key xs (lo + x)) (Kf key xs (lo + x - 1)) = false) : SegS key xs lo (x + 1) := fun i j h1 h2 h3 => by
  by_cases hj : j < lo + x
  · exact hs i j h1 h2 hj
  · have : j = lo + x := by omega
    subst this
    by_cases hi : i = lo + x
    · subst hi; exact KeyOrd.kle_refl _
    · exact KeyOrd.kle_trans (hs i (lo + x - 1) h1 (by omega) (by omega)) hl
theorem segD_succ {xs : Array Keyed} {lo x : Nat} (hs : SegD key xs lo x) (hx : 1 ≤ x) (hl : O.kle (Kf key xs (lo + x)) (Kf key xs (lo + x - 1))) : SegD key xs lo (x + 1) := fun i j h1 h2 h3 => by
  by_cases hj : j < lo + x
  · exact hs i j h1 h2 hj
  · have : j = lo + x := by omega
    subst this
    by_cases hi : i = lo + x
    · subst hi; exact KeyOrd.kle_refl _
    · exact KeyOrd.kle_trans hl (hs i (lo + x - 1) h1 (by omega) (by omega))
theorem segD_congr {xs ys : Array Keyed} {lo x : Nat} (hs : SegD key xs lo x) (h : ∀ k, Kf key ys k = Kf key xs k) : SegD key ys lo x := fun i j h1 h2 h3 => by
  rw [h, h]; exact hs i j h1 h2 h3
theorem segD_mirror {xs : Array Keyed} {lo m : Nat} (hs : SegD key xs lo m) (hz : lo + m ≤ xs.size) : SegS key (mirror xs lo (lo + m) ((lo + m - lo) / 2)) lo m := fun i j h1 h2 h3 => by
  rw [Kf_mirror hz, Kf_mirror hz, if_pos (by omega), if_pos (by omega)]
  exact hs _ _ (by omega) (by omega) (by omega)
end
structure Kp (lo : Nat) (st₀ st : SortSt) : Prop where
  kind : kindOf st = kindOf st₀
  perm : (arrOf st).Perm (arrOf st₀)
  low : ∀ k, k < lo → (arrOf st)[k]? = (arrOf st₀)[k]?
  pend : pendingOf st = pendingOf st₀
  fail : failedOf st = failedOf st₀
theorem Kp.refl {lo : Nat} {st : SortSt} : Kp lo st st := ⟨rfl, Array.Perm.refl _, fun _ _ => rfl, rfl, rfl⟩
theorem Kp.mirror {lo i j : Nat} {st₀ st : SortSt} (h : Kp lo st₀ st) (hi : lo ≤ i) (hj : j ≤ (arrOf st).size) : Kp lo st₀ (setArr st (mirror (arrOf st) i j ((j - i) / 2))) :=
  ⟨h.kind, (mirror_perm _ _ _ _).trans h.perm, fun k hk => by
    refine Eq.trans ?_ (h.low k hk)
    show (PyProof.Rows.mirror (arrOf st) i j ((j - i) / 2))[k]? = _
    rw [getElem?_mirror_all hj, if_neg (by omega)], h.pend, h.fail⟩
theorem Kp.bubble {lo src d : Nat} {st₀ st : SortSt} (h : Kp lo st₀ st) (hs : src < (arrOf st).size) (hd : d + lo ≤ src) : Kp lo st₀ (setArr st (bubble (arrOf st) src d)) :=
  ⟨h.kind, (bubble_perm _ _ _).trans h.perm, fun k hk => by
    refine Eq.trans ?_ (h.low k hk)
    show (PyProof.Rows.bubble (arrOf st) src d)[k]? = _
    rw [getElem?_bubble hs d (by omega), if_neg (by omega), if_neg (by omega)], h.pend, h.fail⟩
section
variable {prog : Program} {w : World} {A : Around} {E : Value → Shared → Prop} {s : Shared} {kd : SortKind} {a₀ : Array Keyed} {O : KeyOrd} {key : Keyed → O.α}
theorem SB.of_kp {lo : Nat} {st₀ st : SortSt} (B : SB kd a₀ st₀) (h : Kp lo st₀ st) : SB kd a₀ st := ⟨h.kind.trans B.kind, h.perm.trans B.perm, h.fail.trans B.failed⟩
theorem wp_ltAt (C : Cmp prog w A s kd a₀ O key) {st : SortSt} (B : SB kd a₀ st) {i j : Nat} (hi : i < a₀.size) (hj : j < a₀.size) {Q : Option Bool → SortSt → Prop} (h : Q (some (O.blt (Kf key (arrOf st) i) (Kf key (arrOf st) j))) st) :
    wpS (model prog w) A E s ((sortPriv% PySem.Builtin.ltAt) i j) Q st := by
  have hz := B.size
  have e1 : (arrOf st)[i]? = some (arrOf st)[i] := getElem?_pos ..
  have e2 : (arrOf st)[j]? = some (arrOf st)[j] := getElem?_pos ..
  walk_at "sort ltAt"
  refine wpS_bind (wpS_get (wpS_bind (wp_elem e1 (wpS_bind (wp_elem e2 (wp_lt C B.kind (B.mem (by simp)) (B.mem (by simp)) ?_))))))
  unfold Kf at h
  rw [Array.getD_eq_getD_getElem?, Array.getD_eq_getD_getElem?, e1, e2] at h
  exact h
theorem wp_reverse {st : SortSt} {i j : Nat} {Q : Unit → SortSt → Prop} (h : Q () (setArr st (mirror (arrOf st) i j ((j - i) / 2)))) : wpS (model prog w) A E s ((sortPriv% PySem.Builtin.reverseSlice) i j) Q st := by
  show wpS (model prog w) A E s (reverseSlice' i j) Q st
  rw [reverseSlice'_eq]
  exact wpS_modify h
theorem wp_moveDown {st : SortSt} {i j : Nat} {Q : Unit → SortSt → Prop} (h : Q () (setArr st (bubble (arrOf st) i (i - j)))) : wpS (model prog w) A E s ((sortPriv% PySem.Builtin.moveDown) i j) Q st := by
  show wpS (model prog w) A E s (moveDown' i j) Q st
  rw [moveDown'_eq]
  exact wpS_modify h
theorem wp_countRun (C : Cmp prog w A s kd a₀ O key) {lo nrem : Nat} {st : SortSt} {Q : Option Nat → SortSt → Prop} (B : SB kd a₀ st) (h1 : 1 ≤ nrem) (hn : lo + nrem ≤ a₀.size)
    (h : ∀ m st', 1 ≤ m → m ≤ nrem → SegS key (arrOf st') lo m → Kp lo st st' → Q (some m) st') : wpS (model prog w) A E s ((sortPriv% PySem.Builtin.countRun) lo nrem) Q st := by
  have hz : (arrOf st).size = a₀.size := B.size
  walk_at "sort countRun"
  refine wpS_bind (wpS_mono (wpS_forRange (I := fun x c st' => st' = st ∧ c = (none, x) ∧ SegS key (arrOf st) lo x)
    (Q := fun c st' => st' = st ∧ ∃ n, c = (none, n) ∧ 1 ≤ n ∧ n ≤ nrem ∧ SegS key (arrOf st) lo n ∧ (n = nrem ∨ O.klt (Kf key (arrOf st) (lo + n)) (Kf key (arrOf st) (lo + n - 1)))) ?step1 ?fin1 ⟨rfl, rfl, seg_one⟩) ?post1)
  case fin1 =>
    rintro c st' ⟨rfl, rfl, hs'⟩
    rw [show max (1) nrem = nrem by omega] at hs' ⊢
    exact ⟨rfl, nrem, rfl, by omega, Nat.le_refl _, hs', .inl rfl⟩
  case step1 =>
    rintro x c st' hax hxn ⟨est, rfl, hs'⟩
    have hax' : 1 ≤ x := hax
    rw [est]
    dsimp only
    refine wpS_bind (wp_ltAt C B (by omega) (by omega) ?_)
    cases hless : O.blt (Kf key (arrOf st) (lo + x)) (Kf key (arrOf st) (lo + x - 1)) with
    | true =>
      simp only [if_true]
      exact wpS_pure ⟨rfl, x, rfl, by omega, by omega, hs', .inr hless⟩
    | false =>
      simp only [Bool.false_eq_true, if_false]
      exact wpS_pure ⟨rfl, rfl, seg_succ hs' (by omega) hless⟩
  case post1 =>
    rintro c st' ⟨est, n, rfl, hn1, hnr, hs, hor⟩
    rw [est]
    extract_lets r0 n0 z0 z1 jp
    have hjp : ∀ st1, Kp lo st st1 → n + 1 ≤ nrem → SegD key (arrOf st1) lo (n + 1) → wpS (model prog w) A E s (jp ()) Q st1 := by
      intro st1 K1 hle hD
      refine wpS_bind (wpS_lift (wpAny_rule ⟨rfl, ?_⟩))
      refine wpS_bind (wpS_mono (wpS_forRange (I := fun x c st' => ∃ neq, c = (none, x, neq) ∧ Kp lo st st' ∧ SegD key (arrOf st') lo x ∧ neq + 1 ≤ x ∧ (∀ i, lo + x - (neq + 1) ≤ i → i < lo + x → Kf key (arrOf st') i = Kf key (arrOf st') (lo + x - 1)))
        (Q := fun c st' => ∃ m neq, c = (none, m, neq) ∧ Kp lo st st' ∧ n + 1 ≤ m ∧ m ≤ nrem ∧ SegD key (arrOf st') lo m ∧ neq + 1 ≤ m ∧ (∀ i, lo + m - (neq + 1) ≤ i → i < lo + m → Kf key (arrOf st') i = Kf key (arrOf st') (lo + m - 1))) ?step2 ?fin2
        ⟨0, rfl, K1, hD, by show 0 + 1 ≤ n + 1; omega, fun i h1 h2 => by congr 1; have : lo + (n + 1) - (0 + 1) ≤ i := h1; have : i < lo + (n + 1) := h2; show i = lo + (n + 1) - 1; omega⟩) ?post2)
      case fin2 =>
        rintro c st' ⟨neq, rfl, K, hD', hq, he⟩
        have hm : max (n + 1) nrem = nrem := by omega
        have hD2 : SegD key (arrOf st') lo (max (n + 1) nrem) := hD'
        have hq2 : neq + 1 ≤ max (n + 1) nrem := hq
        have he2 : ∀ i, lo + max (n + 1) nrem - (neq + 1) ≤ i → i < lo + max (n + 1) nrem → Kf key (arrOf st') i = Kf key (arrOf st') (lo + max (n + 1) nrem - 1) := he
        show ∃ m neq', (none, max (n + 1) nrem, neq) = _ ∧ _
        rw [hm] at hD2 hq2 he2 ⊢
        exact ⟨nrem, neq, rfl, K, hle, Nat.le_refl _, hD2, hq2, he2⟩
      case step2 =>
        rintro x c st' hax hxn ⟨neq, rfl, K, hD', hq, he⟩
        have hax' : n + 1 ≤ x := hax
        have B' := B.of_kp K
        have hz' := B'.size
        dsimp only
        refine wpS_bind (wp_ltAt C B' (by omega) (by omega) ?_)
        cases hless : O.blt (Kf key (arrOf st') (lo + x)) (Kf key (arrOf st') (lo + x - 1)) with
        | true =>
          simp only [if_true]
          have D1 := segD_succ hD' (by omega) (KeyOrd.kle_of_klt hless)
          by_cases hneq : neq > 0
          · rw [if_pos hneq]
            refine wpS_bind (wp_reverse (wpS_pure ⟨0, rfl, K.mirror (by omega) (by omega), segD_congr D1 (Kf_mirror_equal (by omega) he), by omega, fun i h1 h2 => by congr 1; omega⟩))
          · rw [if_neg hneq]
            exact wpS_pure ⟨0, rfl, K, D1, by omega, fun i h1 h2 => by congr 1; omega⟩
        | false =>
          simp only [Bool.false_eq_true, if_false]
          refine wpS_bind (wp_ltAt C B' (by omega) (by omega) ?_)
          cases hlarger : O.blt (Kf key (arrOf st') (lo + x - 1)) (Kf key (arrOf st') (lo + x)) with
          | true =>
            simp only [if_true]
            exact wpS_pure ⟨x, neq, rfl, K, hax', by omega, hD', hq, he⟩
          | false =>
            simp only [Bool.false_eq_true, if_false]
            have heqx : Kf key (arrOf st') (lo + x) = Kf key (arrOf st') (lo + x - 1) := KeyOrd.kle_antisymm hlarger hless
            refine wpS_pure ⟨neq + 1, rfl, K, segD_succ hD' (by omega) (by rw [heqx]; exact KeyOrd.kle_refl _), by omega, fun i h1 h2 => ?_⟩
            rw [show lo + (x + 1) - 1 = lo + x by omega]
            by_cases hix : i = lo + x
            · subst hix; rfl
            · rw [heqx]; exact he i (by omega) (by omega)
      case post2 =>
        rintro c st' ⟨m, neq, rfl, K, hm1, hm2, hD', hq, he⟩
        have B' := B.of_kp K
        have hz' := B'.size
        extract_lets r1 s1 m1 neq1 jp2
        have hjp2 : ∀ st2, Kp lo st st2 → SegD key (arrOf st2) lo m → wpS (model prog w) A E s (jp2 ()) Q st2 := by
          intro st2 K2 hD2
          have B2 := B.of_kp K2
          have hz2 := B2.size
          refine wpS_bind (wp_reverse ?_)
          have K3 : Kp lo st (setArr st2 (mirror (arrOf st2) lo (lo + m) ((lo + m - lo) / 2))) := K2.mirror (Nat.le_refl _) (by omega)
          have S3 : SegS key (arrOf (setArr st2 (mirror (arrOf st2) lo (lo + m) ((lo + m - lo) / 2)))) lo m := segD_mirror hD2 (by omega)
          show wpS _ _ _ _ _ _ (setArr st2 (mirror (arrOf st2) lo (lo + m) ((lo + m - lo) / 2)))
          generalize setArr st2 (mirror (arrOf st2) lo (lo + m) ((lo + m - lo) / 2)) = st3 at K3 S3 ⊢
          have B3 := B.of_kp K3
          refine wpS_bind (wpS_mono (wpS_forRange (I := fun x c st' => st' = st3 ∧ c = (none, x) ∧ SegS key (arrOf st3) lo x)
            (Q := fun c st' => st' = st3 ∧ ∃ n, c = (none, n) ∧ m ≤ n ∧ n ≤ nrem ∧ SegS key (arrOf st3) lo n ∧ (n = nrem ∨ O.klt (Kf key (arrOf st3) (lo + n)) (Kf key (arrOf st3) (lo + n - 1)))) ?step3 ?fin3 ⟨rfl, rfl, S3⟩) ?post3)
          case fin3 =>
            rintro c st' ⟨rfl, rfl, hs'⟩
            rw [show max (m) nrem = nrem by omega] at hs' ⊢
            exact ⟨rfl, nrem, rfl, by omega, Nat.le_refl _, hs', .inl rfl⟩
          case step3 =>
            rintro x c st' hax hxn ⟨est, rfl, hs'⟩
            have hax' : m ≤ x := hax
            rw [est]
            dsimp only
            refine wpS_bind (wp_ltAt C B3 (by omega) (by omega) ?_)
            cases hless : O.blt (Kf key (arrOf st3) (lo + x)) (Kf key (arrOf st3) (lo + x - 1)) with
            | true =>
              simp only [if_true]
              exact wpS_pure ⟨rfl, x, rfl, by omega, by omega, hs', .inr hless⟩
            | false =>
              simp only [Bool.false_eq_true, if_false]
              exact wpS_pure ⟨rfl, rfl, seg_succ hs' (by omega) hless⟩
          case post3 =>
            rintro c st' ⟨rfl, m', rfl, h1', h2', hs', _⟩
            exact wpS_pure (h m' _ (by omega) h2' hs' K3)
        clear_value jp2
        show wpS _ _ _ _ (if neq > 0 then _ else _) _ _
        by_cases hneq : neq > 0
        · rw [if_pos hneq]
          exact wpS_bind (wp_reverse (hjp2 _ (K.mirror (by show lo ≤ lo + m - (neq + 1); omega) (by show lo + m ≤ _; omega)) (segD_congr hD' (Kf_mirror_equal (by show lo + m ≤ _; omega) he))))
        · rw [if_neg hneq]
          exact hjp2 _ K hD'
    clear_value jp
    show wpS _ _ _ _ (if (n == nrem) = true then _ else _) _ _
    by_cases hnn : n = nrem
    · rw [if_pos (by simpa using hnn)]
      exact wpS_pure (h n st hn1 hnr hs Kp.refl)
    rw [if_neg (by simpa using hnn)]
    have hlt : O.klt (Kf key (arrOf st) (lo + n)) (Kf key (arrOf st) (lo + n - 1)) := hor.resolve_left hnn
    show wpS _ _ _ _ (if n > 1 then _ else _) _ _
    by_cases hgt : n > 1
    · rw [if_pos hgt]
      refine wpS_bind (wp_ltAt C B (by omega) (by show lo + n - 1 < _; omega) ?_)
      dsimp only
      show wpS _ _ _ _ (if O.blt (Kf key (arrOf st) lo) (Kf key (arrOf st) (lo + n - 1)) = true then _ else _) _ _
      cases hrose : O.blt (Kf key (arrOf st) lo) (Kf key (arrOf st) (lo + n - 1)) with
      | true =>
        simp only [if_true]
        exact wpS_pure (h n st hn1 hnr hs Kp.refl)
      | false =>
        simp only [Bool.false_eq_true, if_false]
        have hall : ∀ k, lo ≤ k → k < lo + n → Kf key (arrOf st) k = Kf key (arrOf st) (lo + n - 1) := by
          intro k h1 h2
          have a1 := hs lo k (Nat.le_refl _) h1 h2
          have a2 := hs k (lo + n - 1) h1 (by omega) (by omega)
          exact KeyOrd.kle_antisymm a2 (KeyOrd.kle_trans hrose a1)
        refine wpS_bind (wp_reverse (hjp _ (Kp.refl.mirror (Nat.le_refl _) (by show lo + n ≤ _; omega)) (by omega) (segD_congr (segD_succ (fun i j h1 h2 h3 => ?_) hn1 (KeyOrd.kle_of_klt hlt)) (Kf_mirror_equal (by show lo + n ≤ _; omega) hall))))
        rw [hall i h1 (by omega), hall j (by omega) h3]; exact KeyOrd.kle_refl _
    · rw [if_neg hgt]
      have hn1' : n = 1 := by omega
      refine hjp _ Kp.refl (by omega) (segD_succ (fun i j h1 h2 h3 => ?_) hn1 (KeyOrd.kle_of_klt hlt))
      have : i = j := by omega
      subst this; exact KeyOrd.kle_refl _
theorem wp_binarySort (C : Cmp prog w A s kd a₀ O key) {lo n ok : Nat} {st : SortSt} {Q : Bool → SortSt → Prop} (B : SB kd a₀ st) (hok : ok ≤ n) (hn : lo + n ≤ a₀.size) (hs : SegS key (arrOf st) lo ok)
    (h : ∀ st', SegS key (arrOf st') lo n → Kp lo st st' → Q true st') : wpS (model prog w) A E s ((sortPriv% PySem.Builtin.binarySort) lo n ok) Q st := by
  walk_at "sort binarySort"
  refine wpS_bind (wpS_mono (wpS_forRange (I := fun k c st' => c = (none, ()) ∧ Kp lo st st' ∧ SegS key (arrOf st') lo (min k n))
    (Q := fun c st' => c = (none, ()) ∧ Kp lo st st' ∧ SegS key (arrOf st') lo n) ?step ?fin ?init) ?post)
  case post =>
    rintro c st' ⟨rfl, K, hs'⟩
    exact wpS_pure (h st' hs' K)
  case init =>
    refine ⟨rfl, Kp.refl, fun i j h1 h2 h3 => ?_⟩
    by_cases ho : ok = 0
    · have : i = j := by omega
      subst this; exact KeyOrd.kle_refl _
    · exact hs i j h1 h2 (by omega)
  case fin =>
    rintro c st' ⟨hc, K, hs'⟩
    refine ⟨hc, K, ?_⟩
    rwa [show min (max (max ok 1) n) n = n by omega] at hs'
  case step =>
    rintro k c st' hak hkn ⟨rfl, K, hs'⟩
    rw [show min k n = k by omega] at hs'
    have B' := B.of_kp K
    have hz' := B'.size
    refine wpS_bind (wpS_mono (wpS_forRange (I := fun x c st'' => st'' = st' ∧ ∃ l r, c = (none, l, r) ∧ l ≤ r ∧ r ≤ k ∧ r - l ≤ k - x ∧
        (∀ i, lo ≤ i → i < lo + l → O.kle (Kf key (arrOf st') i) (Kf key (arrOf st') (lo + k))) ∧ (∀ i, lo + r ≤ i → i < lo + k → O.klt (Kf key (arrOf st') (lo + k)) (Kf key (arrOf st') i)))
      (Q := fun c st'' => st'' = st' ∧ ∃ l r, c = (none, l, r) ∧ l ≤ k ∧
        (∀ i, lo ≤ i → i < lo + l → O.kle (Kf key (arrOf st') i) (Kf key (arrOf st') (lo + k))) ∧ (∀ i, lo + l ≤ i → i < lo + k → O.klt (Kf key (arrOf st') (lo + k)) (Kf key (arrOf st') i))) ?istep ?ifin ?iinit) ?ipost)
    case iinit => exact ⟨rfl, 0, k, rfl, by omega, by omega, by omega, fun i hi => by omega, fun i h1 h2 => by omega⟩
    case ifin =>
      rintro c st'' ⟨rfl, l, r, rfl, hlr, hrk, hm, hlo, hhi⟩
      have : l = r := by omega
      subst this
      exact ⟨rfl, l, l, rfl, hrk, hlo, hhi⟩
    case istep =>
      rintro x c st'' _ hxk ⟨est, l, r, rfl, hlr, hrk, hm, hlo, hhi⟩
      rw [est]
      dsimp only
      by_cases hge : l ≥ r
      · rw [if_pos hge]
        have : l = r := by omega
        subst this
        exact wpS_pure ⟨rfl, l, l, rfl, hrk, hlo, hhi⟩
      · rw [if_neg hge]
        refine wpS_bind (wp_ltAt C B' (by omega) (by omega) ?_)
        cases hless : O.blt (Kf key (arrOf st') (lo + k)) (Kf key (arrOf st') (lo + (l + r) / 2)) with
        | true =>
          simp only [if_true]
          refine wpS_pure ⟨rfl, l, (l + r) / 2, rfl, by omega, by omega, by omega, hlo, fun i h1 h2 => ?_⟩
          exact KeyOrd.klt_of_klt_of_kle hless (hs' _ _ (by omega) h1 h2)
        | false =>
          simp only [Bool.false_eq_true, if_false]
          refine wpS_pure ⟨rfl, (l + r) / 2 + 1, r, rfl, by omega, by omega, by omega, fun i h1 h2 => ?_, hhi⟩
          exact KeyOrd.kle_trans (hs' i (lo + (l + r) / 2) h1 (by omega) (by omega)) (show O.kle _ _ from hless)
    case ipost =>
      rintro c st'' ⟨est, l, r, rfl, hlk, hlo, hhi⟩
      rw [est]
      dsimp only
      refine wpS_bind (wp_moveDown (wpS_pure ⟨rfl, K.bubble (by omega) (by omega), ?_⟩))
      rw [show min (k + 1) n = k + 1 by omega]
      have hks : lo + k < (arrOf st').size := by omega
      intro i j hi hij hj
      show O.kle (Kf key (bubble (arrOf st') (lo + k) (lo + k - (lo + l))) i) (Kf key (bubble (arrOf st') (lo + k) (lo + k - (lo + l))) j)
      rw [Kf_bubble hks (by omega), Kf_bubble hks (by omega), show lo + k - (lo + k - (lo + l)) = lo + l by omega]
      repeat' split
      all_goals first
        | (exfalso; omega)
        | exact KeyOrd.kle_refl _
        | exact hlo _ (by omega) (by omega)
        | exact KeyOrd.kle_of_klt (hhi _ (by omega) (by omega))
        | exact hs' _ _ (by omega) (by omega) (by omega)
end
end TS
namespace TS
open PySem PyProof.Rows
local macro_rules | `(tactic| walk_at "sort sortRuns") => do `(tactic| delta $(Lean.mkIdent (Lean.mkPrivateNameCore `PySem.Builtin.List.W1All `PySem.Builtin.sortRuns)):ident)
def sp2 (x : Nat × Nat × Nat) : Nat × Nat := (x.1, x.2.1)
inductive Runs {O : KeyOrd} (key : Keyed → O.α) : Nat → List (List Keyed) → List (Nat × Nat) → Prop
  | nil {off : Nat} : Runs key off [] []
  | cons {off : Nat} {r : List Keyed} {rs : List (List Keyed)} {ps : List (Nat × Nat)} : r ≠ [] → Srt key r → Runs key (off + r.length) rs ps → Runs key off (r :: rs) ((off, r.length) :: ps)
section
variable {O : KeyOrd} {key : Keyed → O.α}
theorem seg_srt {xs : Array Keyed} {lo n : Nat} (h : SegS key xs lo n) (hz : lo + n ≤ xs.size) : Srt key ((xs.toList.drop lo).take n) := by
  refine List.pairwise_iff_getElem.mpr fun i j hi hj hij => ?_
  rw [List.length_take, List.length_drop] at hi hj
  have z := h (lo + i) (lo + j) (by omega) (by omega) (by omega)
  unfold Kf at z
  rw [Array.getD_eq_getD_getElem?, Array.getD_eq_getD_getElem?, getElem?_pos xs (lo + i) (by omega), getElem?_pos xs (lo + j) (by omega)] at z
  simpa using z
end
section
variable {prog : Program} {w : World} {A : Around} {E : Value → Shared → Prop} {s : Shared} {kd : SortKind} {a₀ : Array Keyed} {O : KeyOrd} {key : Keyed → O.α}
structure GR (kd : SortKind) (a₀ : Array Keyed) {O : KeyOrd} (key : Keyed → O.α) (rest : List Keyed) (lo : Nat) (st : SortSt) : Prop where
  sb : SB kd a₀ st
  ex : ∃ runs : List (List Keyed), (arrOf st).toList = runs.flatten ++ rest ∧ runs.flatten.length = lo ∧ Runs key 0 runs ((pendingOf st).toList.map sp2)
theorem wp_sortRuns (C : Cmp prog w A s kd a₀ O key) {st : SortSt} {Q : Unit → SortSt → Prop} (B : SB kd a₀ st) (hp : pendingOf st = #[]) (h64 : a₀.size < 64)
    (h : ∀ st', SB kd a₀ st' → Srt key (arrOf st').toList → Q () st') : wpS (model prog w) A E s sortRuns' Q st := by
  have hz := B.size
  have mr : minRun' a₀.size a₀.size 0 = a₀.size := by
    cases e : a₀.size with
    | zero => rfl
    | succ k => rw [minRun'_succ, if_pos (by omega)]
  have kp : ∀ {st1 st2 : SortSt}, SB kd a₀ st1 → Kp 0 st1 st2 → SB kd a₀ st2 := fun b k => ⟨k.kind.trans b.kind, k.perm.trans b.perm, k.fail.trans b.failed⟩
  rw [sortRuns'_eq]; refine wpS_bind (wpS_get ?_); dsimp only; simp only [hz, mr]
  refine wpS_bind (wpS_mono (wpS_forRange (I := fun x c st' => (x = 0 ∧ c = (none, 0) ∧ st' = st) ∨ (1 ≤ x ∧ c = (none, a₀.size) ∧ SB kd a₀ st' ∧ (pendingOf st').size = 1 ∧ SegS key (arrOf st') 0 a₀.size))
    (Q := fun c st' => c = (none, a₀.size) ∧ SB kd a₀ st' ∧ (pendingOf st').size ≤ 1 ∧ SegS key (arrOf st') 0 a₀.size) ?turn ?over (.inl ⟨rfl, rfl, rfl⟩)) ?rest)
  case over =>
    rintro c st' (⟨hx, rfl, rfl⟩ | ⟨_, hc, b, p, g⟩)
    · have e : a₀.size = 0 := by omega
      exact ⟨by rw [e], B, by simp [hp], fun i j _ _ hj => by omega⟩
    · exact ⟨hc, b, by omega, g⟩
  case turn =>
    rintro x c st' _ hx (⟨rfl, rfl, rfl⟩ | ⟨hx1, rfl, b, p, g⟩)
    · dsimp only; rw [if_neg (by omega)]; simp only [Nat.sub_zero, Nat.min_self, Nat.zero_add]
      refine wpS_bind (wp_countRun C B (by omega) (by omega) fun m st2 m1 m2 g2 k2 => ?_); dsimp only
      have b2 := kp B k2
      by_cases lt : m < a₀.size
      · rw [if_pos lt]; refine wpS_bind (wpS_lift (wpAny_rule ⟨rfl, ?_⟩))
        refine wpS_bind (wp_binarySort C b2 m2 (by omega) g2 fun st3 g3 k3 => ?_); simp only [Bool.not_true, Bool.false_eq_true, if_false]
        have pe : pendingOf st3 = #[] := k3.pend.trans (k2.pend.trans hp)
        have bk : (pendingOf st3).back? = none := by rw [pe]; rfl
        refine wpS_bind (wpS_get ?_); rw [bk]; dsimp only
        exact wpS_bind (wpS_modify (wpS_pure (.inr ⟨by omega, rfl, ⟨(kp b2 k3).kind, (kp b2 k3).perm, (kp b2 k3).failed⟩, by show ((pendingOf st3).push _).size = 1; rw [pe]; rfl, g3⟩)))
      · rw [if_neg lt]
        have em : m = a₀.size := by omega
        subst em
        have pe : pendingOf st2 = #[] := k2.pend.trans hp
        have bk : (pendingOf st2).back? = none := by rw [pe]; rfl
        refine wpS_bind (wpS_get ?_); rw [bk]; dsimp only
        exact wpS_bind (wpS_modify (wpS_pure (.inr ⟨by omega, rfl, ⟨b2.kind, b2.perm, b2.failed⟩, by show ((pendingOf st2).push _).size = 1; rw [pe]; rfl, g2⟩)))
    · dsimp only; rw [if_pos (Nat.le_refl _)]; exact wpS_pure ⟨rfl, b, by omega, g⟩
  case rest =>
    rintro c st' ⟨rfl, b, p, g⟩
    dsimp only
    refine wpS_bind (wpS_mono (wpS_forRange (I := fun _ c st2 => st2 = st' ∧ c = (none, ())) (Q := fun c st2 => st2 = st' ∧ c = (none, ())) ?_ (fun _ _ z => z) ⟨rfl, rfl⟩) ?_)
    · rintro x c st2 _ _ ⟨rfl, rfl⟩
      refine wpS_bind (wpS_get ?_); rw [if_pos (show (pendingOf st2).size ≤ 1 from p)]; exact wpS_pure ⟨rfl, rfl⟩
    · rintro c st2 ⟨rfl, rfl⟩
      have z := seg_srt g (by rw [b.size]; omega)
      rw [List.drop_zero, List.take_of_length_le (by rw [Array.length_toList, b.size]; exact Nat.le_refl _)] at z
      exact wpS_pure (h _ b z)
end
end TS
namespace TS
open PySem PyProof.Rows
open HT (lexLt)
open PySem.W (KatLex kat_nil kat_cons kat_yes kat_no kat_one kat_lt)
theorem lt_irr : ∀ x : List Int, lexLt x x = false
  | [] => rfl
  | a :: x => by rw [HT.lexLt_cons, if_pos rfl]; exact lt_irr x
theorem lt_tr : ∀ {x y z : List Int}, lexLt x y = true → lexLt y z = true → lexLt x z = true
  | [], [], _, h, _ => by cases h
  | [], _ :: _, [], _, h => by cases h
  | [], _ :: _, _ :: _, _, _ => rfl
  | _ :: _, [], _, h, _ => by cases h
  | _ :: _, _ :: _, [], _, h => by cases h
  | a :: x, b :: y, c :: z, h1, h2 => by
    rw [HT.lexLt_cons] at h1 h2 ⊢
    by_cases e1 : a = b
    · rw [if_pos e1] at h1
      by_cases e2 : b = c
      · rw [if_pos e2] at h2
        rw [if_pos (e1.trans e2)]
        exact lt_tr h1 h2
      · rw [if_neg e2] at h2
        rw [if_neg (by omega), e1]
        exact h2
    · rw [if_neg e1] at h1
      have l1 : a < b := of_decide_eq_true h1
      by_cases e2 : b = c
      · rw [if_pos e2] at h2
        rw [if_neg (by omega)]
        exact decide_eq_true (by omega)
      · rw [if_neg e2] at h2
        have l2 : b < c := of_decide_eq_true h2
        rw [if_neg (by omega)]
        exact decide_eq_true (by omega)
theorem lt_tri : ∀ {x y : List Int}, x ≠ y → lexLt x y = !lexLt y x
  | [], [], h => absurd rfl h
  | [], _ :: _, _ => rfl
  | _ :: _, [], _ => rfl
  | a :: x, b :: y, h => by
    rw [HT.lexLt_cons, HT.lexLt_cons]
    by_cases e : a = b
    · rw [if_pos e, if_pos e.symm]
      exact lt_tri fun z => h (by rw [e, z])
    · rw [if_neg e, if_neg (Ne.symm e)]
      by_cases l : a < b
      · rw [decide_eq_true l, decide_eq_false (by omega)]; rfl
      · rw [decide_eq_false l, decide_eq_true (by omega)]; rfl
def lexO : KeyOrd where
  α := List Int
  blt := lexLt
  irrefl := lt_irr
  trans := fun _ _ _ h1 h2 => lt_tr h1 h2
  negTrans := fun a b c h => by
    cases q : lexLt a b with
    | true => exact .inl rfl
    | false =>
      refine .inr ?_
      by_cases e : a = b
      · rw [← e]; exact h
      · have z := lt_tri e
        rw [q] at z
        have z' : lexLt b a = true := by simpa using z.symm
        exact lt_tr z' h
  total := fun a b h1 h2 => by
    by_cases e : a = b
    · exact e
    · have z := lt_tri e
      rw [h1, h2] at z; cases z
section
variable {prog : Program} {w : World} {A : Around} {s : Shared}
theorem oneLt_ints (b : Bool) {x y : Int} {t u : Tok} {Q : Bool → Shared → Prop} {E : Value → Shared → Prop} (h : Q (decide (x < y)) s) : wpAny (model prog w) A (oneLt' b (.int x t) (.int y u)) Q E s := by
  cases b with
  | true => exact oneLt_int h
  | false => exact kat_one _ _ (PyProof.Rows.lt_int (show PySem.W.BoolBack Q (.bool (decide (x < y))) s from h))
theorem lex_ask {b : Bool} {Q : Bool → Shared → Prop} : ∀ (ns ms : List Int) {vs us : List Value} (i : Nat) (fin : Bool), IntsAre vs ns → IntsAre us ms → fin = decide (ns.length < ms.length) → Q (lexLt ns ms) s →
    KatLex prog w A b fin Q (vs.zip us) i s
  | [], [], vs, us, i, fin, hv, hu, hf, h => by
    cases hv; cases hu
    rw [hf]; exact kat_nil h
  | [], _ :: _, vs, us, i, fin, hv, hu, hf, h => by
    cases hv; cases hu
    rw [HT.lexLt_nil_cons] at h
    rw [hf]; exact kat_nil (by simpa using h)
  | _ :: _, [], vs, us, i, fin, hv, hu, hf, h => by
    cases hv; cases hu
    rw [HT.lexLt_cons_nil] at h
    rw [hf]; exact kat_nil (by simpa using h)
  | n :: ns, m :: ms, _, _, i, fin, .cons _ t hv, .cons _ u hu, hf, h => by
    rw [List.zip_cons_cons]
    rw [HT.lexLt_cons] at h
    obtain ⟨e, he, hiff⟩ := HT.eqAt_int A s n t m u
    refine kat_cons (he prog w _ _ ?_)
    cases e with
    | true =>
      rw [if_pos (hiff.mp rfl)] at h
      exact kat_yes (lex_ask ns ms (i + 1) fin hv hu (by rw [hf]; simp) h)
    | false =>
      rw [if_neg (fun q => absurd (hiff.mpr q) Bool.false_ne_true)] at h
      exact kat_no (oneLt_ints _ h)
def TupAt (h : Heap) (v : Value) (ns : List Int) : Prop := ∃ a its, v = .ref a ∧ IsTup h a its ∧ IntsAre its.toList ns
theorem TupAt.uniq {h : Heap} {v : Value} {ns ms : List Int} (h1 : TupAt h v ns) (h2 : TupAt h v ms) : ns = ms := by
  obtain ⟨a, its, rfl, ⟨o, e, _, n, d⟩, i1⟩ := h1
  obtain ⟨a', its', ea, ⟨o', e', _, n', d'⟩, i2⟩ := h2
  cases ea
  rw [e] at e'; cases e'
  rw [d] at d'; cases d'
  rw [← i1.nums, ← i2.nums]
open Classical in
noncomputable def tupKey (h : Heap) (x : Keyed) : List Int := if e : ∃ ns, TupAt h x.1 ns then e.choose else []
theorem tupKey_eq {h : Heap} {x : Keyed} {ns : List Int} (t : TupAt h x.1 ns) : tupKey h x = ns := by
  unfold tupKey
  have e : ∃ ns, TupAt h x.1 ns := ⟨ns, t⟩
  rw [dif_pos e]
  exact e.choose_spec.uniq t
theorem cmp_tups {a₀ : Array Keyed} (b : Bool) (h : ∀ x ∈ a₀.toList, ∃ ns, TupAt s.heap x.1 ns) : Cmp prog w A s (tuples' b) a₀ lexO (tupKey s.heap) := by
  refine ⟨fun x hx y hy Q E hq => ?_⟩
  obtain ⟨ns, tx⟩ := h x hx
  obtain ⟨ms, ty⟩ := h y hy
  rw [tupKey_eq tx, tupKey_eq ty] at hq
  obtain ⟨a, its, ea, ⟨o, e, _, n, d⟩, i1⟩ := tx
  obtain ⟨a', its', ea', ⟨o', e', _, n', d'⟩, i2⟩ := ty
  rw [ea, ea']
  refine kat_lt e d e' d' (lex_ask ns ms 0 _ i1 i2 ?_ hq)
  have l1 := i1.length
  have l2 := i2.length
  simp only [Array.length_toList] at l1 l2
  rw [l1, l2]
end
end TS
namespace TS
open PySem PyProof.Rows
open L2 (V Vals RelV)
section
variable {α β γ δ : Type} {R : α → β → Prop}
theorem paired_perm {l l' : List β} (p : l.Perm l') : ∀ {k : List α}, Paired R k l → ∃ k', k'.Perm k ∧ Paired R k' l' := by
  induction p with
  | nil => intro k h; exact ⟨k, .refl _, h⟩
  | cons x _ ih =>
    intro k h
    cases h with
    | cons r t =>
      obtain ⟨k', p', h'⟩ := ih t
      exact ⟨_ :: k', p'.cons _, .cons r h'⟩
  | swap x y l =>
    intro k h
    cases h with
    | cons r t =>
      cases t with
      | cons r' t => exact ⟨_ :: _ :: _, .swap _ _ _, .cons r' (.cons r t)⟩
  | trans _ _ ih1 ih2 =>
    intro k h
    obtain ⟨k1, p1, h1⟩ := ih1 h
    obtain ⟨k2, p2, h2⟩ := ih2 h1
    exact ⟨k2, p2.trans p1, h2⟩
theorem paired_mem {k : List α} {l : List β} (h : Paired R k l) : ∀ p ∈ k, ∃ x ∈ l, R p x := by
  induction h with
  | nil => intro p hp; cases hp
  | cons r _ ih =>
    intro p hp
    rcases List.mem_cons.mp hp with rfl | hp
    · exact ⟨_, .head _, r⟩
    · obtain ⟨x, hx, z⟩ := ih p hp; exact ⟨x, .tail _ hx, z⟩
theorem paired_mem' {k : List α} {l : List β} (h : Paired R k l) : ∀ x ∈ l, ∃ p ∈ k, R p x := by
  induction h with
  | nil => intro p hp; cases hp
  | cons r _ ih =>
    intro p hp
    rcases List.mem_cons.mp hp with rfl | hp
    · exact ⟨_, .head _, r⟩
    · obtain ⟨x, hx, z⟩ := ih p hp; exact ⟨x, .tail _ hx, z⟩
theorem paired_pairwise {S : β → β → Prop} {T : α → α → Prop} (hst : ∀ p q x y, R p x → R q y → S x y → T p q) {k : List α} {l : List β} (h : Paired R k l) : l.Pairwise S → k.Pairwise T := by
  induction h with
  | nil => intro _; exact .nil
  | cons r t ih =>
    intro hp
    obtain ⟨h1, h2⟩ := List.pairwise_cons.mp hp
    refine List.pairwise_cons.mpr ⟨fun q hq => ?_, ih h2⟩
    obtain ⟨y, hy, z⟩ := paired_mem t q hq
    exact hst _ _ _ _ r z (h1 y hy)
theorem paired_zip {R' : γ → δ → Prop} {k : List α} {l : List β} (h : Paired R k l) : ∀ {k' : List γ} {l' : List δ}, Paired R' k' l' → Paired (fun p x => R p.1 x.1 ∧ R' p.2 x.2) (k.zip k') (l.zip l') := by
  induction h with
  | nil => intro k' l' _; exact .nil
  | cons r _ ih =>
    intro k' l' h'
    cases h' with
    | nil => exact .nil
    | cons r' t' => exact .cons ⟨r, r'⟩ (ih t')
theorem paired_reverse {k : List α} {l : List β} (h : Paired R k l) : Paired R k.reverse l.reverse := by
  have app : ∀ {a b : List α} {c d : List β}, Paired R a c → Paired R b d → Paired R (a ++ b) (c ++ d) := by
    intro a b c d h1 h2
    induction h1 with
    | nil => exact h2
    | cons r _ ih => exact .cons r ih
  induction h with
  | nil => exact .nil
  | cons r _ ih =>
    rw [List.reverse_cons, List.reverse_cons]
    exact app ih (.cons r .nil)
theorem paired_map {S : γ → δ → Prop} {f : α → γ} {g : β → δ} (hfg : ∀ p x, R p x → S (f p) (g x)) {k : List α} {l : List β} (h : Paired R k l) : Paired S (k.map f) (l.map g) := by
  induction h with
  | nil => exact .nil
  | cons r _ ih => exact .cons (hfg _ _ r) ih
end
section
variable {prog : Program} {w : World} {A : Around} {E : Value → Shared → Prop} {s : Shared}
theorem tail_run {b : Bool} {st : SortSt} {kS D : Addr} {ks : Array Value} {e e1 : Nat} {P : PySem.Fin → Shared → Prop} (hk : s.heap.get? kS = some (seqObj "list" ks e)) (hD : s.heap.get? D = some (seqObj "list" #[] e1)) (hne : D ≠ kS) (hf : failedOf st = none)
    (hz : ks.size ≤ sizeLine) (hz2 : (arrOf st).size ≤ sizeLine)
    (h : P (.done (.ret .none)) { s with heap := (s.heap.update kS (Obj.mapSeq fun _ => #[])).update D (Obj.mapSeq fun _ => if b = true then ((arrOf st).map (·.2)).reverse else (arrOf st).map (·.2)) }) :
    wpAny (model prog w) A (ksk_tail D b e1 (.ref kS) st) P E s := by
  have s1 := Heap.SameBut.update s.heap kS (Obj.mapSeq fun _ => (#[] : Array Value))
  have hD1 : (s.heap.update kS (Obj.mapSeq fun _ => (#[] : Array Value))).get? D = some (seqObj "list" #[] e1) := (s1.2 D hne).trans hD
  unfold ksk_tail
  dsimp only
  refine wpAny_bind (listUpdate_at hk rfl ?_ hz (Nat.zero_le _))
  refine wpAny_bind (wpAny_letGo ?_)
  refine wpAny_bind (seqEpoch_at hD1 rfl ?_)
  refine wpAny_bind (listUpdate_at hD1 rfl ?_ (Nat.zero_le _) (by
    split
    · rw [Array.size_reverse, Array.size_map]; omega
    · rw [Array.size_map]; omega))
  rw [hf]
  simp only [bne_self_eq_false, Bool.false_eq_true, if_false]
  exact wpAny_pure h
theorem end_run {b : Bool} {kS D : Addr} {ks vs : List Value} {kis : List (List Int)} {all : List V} {e e1 : Nat} {P : PySem.Fin → Shared → Prop} (hk : s.heap.get? kS = some (seqObj "list" ks.toArray e)) (hD : s.heap.get? D = some (seqObj "list" #[] e1)) (hne : D ≠ kS)
    (hK : Paired (fun ns k => TupAt s.heap k ns ∧ ns ≠ []) kis ks) (hV : Vals all vs) (hl : ks.length = vs.length) (hz : vs.length ≤ sizeLine) (h64 : vs.length < 64)
    (h : ∀ (ps : List (List Int × V)) (out : Array Value), ps.Perm (kis.zip all) → ps.Pairwise (fun p q => (if b = true then HT.lexLt p.1 q.1 else HT.lexLt q.1 p.1) = false) → Vals (ps.map (·.2)) out.toList →
      P (.done (.ret .none)) { s with heap := (s.heap.update kS (Obj.mapSeq fun _ => #[])).update D (Obj.mapSeq fun _ => out) }) :
    wpAny (model prog w) A (ksk_end D b vs.toArray e1 (.ref kS) ks.toArray) P E s := by
  have hR := paired_zip hK hV
  have fin : ∀ st : SortSt, failedOf st = none → (arrOf st).toList.Perm (ks.zip vs) → (arrOf st).toList.Pairwise (fun x y => HT.lexLt (tupKey s.heap y) (tupKey s.heap x) = false) → wpAny (model prog w) A (ksk_tail D b e1 (.ref kS) st) P E s := by
    intro st hf hp hs
    obtain ⟨ps, pp, pr⟩ := paired_perm hp.symm hR
    have pw : ps.Pairwise (fun p q => HT.lexLt q.1 p.1 = false) := paired_pairwise (fun p q x y r1 r2 z => by rw [tupKey_eq r1.1.1, tupKey_eq r2.1.1] at z; exact z) pr hs
    have hlen : (arrOf st).size ≤ sizeLine := by
      have := hp.length_eq
      rw [Array.length_toList, List.length_zip] at this; omega
    have pm : Vals (ps.map (·.2)) ((arrOf st).toList.map (·.2)) := paired_map (fun p x r => r.2) pr
    refine tail_run hk hD hne hf (by rw [List.size_toArray]; omega) hlen ?_
    cases b with
    | false =>
      simp only [Bool.false_eq_true, if_false]
      exact h ps _ pp (by simpa using pw) (by rw [Array.toList_map]; exact pm)
    | true =>
      simp only [if_true]
      refine h ps.reverse _ ((List.reverse_perm ps).trans pp) ?_ ?_
      · simp only [if_true]
        rw [List.pairwise_reverse]; exact pw
      · rw [List.map_reverse, Array.toList_reverse, Array.toList_map]
        exact paired_reverse pm
  have step : ∀ t : Sem PySem.Fin, wpAny (model prog w) A t P E s → wpAny (model prog w) A (if b = true then (do let _ ← rule "list.sort.reverse"; t) else t) P E s := by
    intro t ht
    split
    · exact wpAny_bind (wpAny_rule ht)
    · exact ht
  have hz0 : (if b = true then (ks.toArray.zip vs.toArray).reverse else ks.toArray.zip vs.toArray).toList.Perm (ks.zip vs) := by
    split
    · rw [Array.toList_reverse, ksk_zip]; exact List.reverse_perm _
    · rw [ksk_zip]
  unfold ksk_end
  dsimp only
  refine step _ ?_
  by_cases h2 : vs.toArray.size < 2
  · rw [if_pos h2, if_pos h2]
    refine wpAny_bind (wpAny_pure ?_)
    refine wpAny_bind (wpAny_pure ?_)
    refine fin _ rfl hz0 ?_
    have hlz := hz0.length_eq
    rw [List.length_zip] at hlz
    rw [List.size_toArray] at h2
    show List.Pairwise _ (if b = true then (ks.toArray.zip vs.toArray).reverse else ks.toArray.zip vs.toArray).toList
    generalize (if b = true then (ks.toArray.zip vs.toArray).reverse else ks.toArray.zip vs.toArray).toList = zs at hlz
    match zs, hlz with
    | [], _ => exact .nil
    | [_], _ => exact List.pairwise_singleton _ _
    | _ :: _ :: _, hlz => simp at hlz; omega
  · rw [if_neg h2, if_neg h2]
    have hT : ∃ fs : List Value, PySem.W.KatTups s.heap ks fs ∧ fs.length = ks.length ∧ ∀ v ∈ fs, ∃ n t, v = .int n t := by
      clear hR fin hz0 hl h hk h2 hz
      induction hK with
      | nil => exact ⟨[], PySem.W.KatTups.nil, rfl, by simp⟩
      | cons r _ ih =>
        obtain ⟨fs, t, l, q⟩ := ih
        obtain ⟨⟨a, its, rfl, ⟨o, e, c, n, d⟩, i⟩, ne⟩ := r
        obtain ⟨ai⟩ := its
        cases i with
        | nil => exact absurd rfl ne
        | cons m tk i =>
          refine ⟨.int m tk :: fs, PySem.W.KatTups.cons e c d rfl t, by rw [List.length_cons, List.length_cons, l], fun v hv => ?_⟩
          rcases List.mem_cons.mp hv with rfl | hv
          · exact ⟨m, tk, rfl⟩
          · exact q v hv
    obtain ⟨fs, tf, lf, qf⟩ := hT
    rw [List.size_toArray] at h2
    refine wpAny_bind (PySem.W.kat_kind (T := .type "int") tf (by omega) (fun v hv => ?_) (by decide) ?_)
    · obtain ⟨n, t, rfl⟩ := qf v hv
      exact .now
    · have C : Cmp prog w A s (tuples' (Value.type "int" != Value.type "tuple")) (if b = true then (ks.toArray.zip vs.toArray).reverse else ks.toArray.zip vs.toArray) lexO (tupKey s.heap) := by
        refine cmp_tups _ fun x hx => ?_
        obtain ⟨p, hp, r⟩ := paired_mem' hR x (hz0.mem_iff.mp hx)
        exact ⟨p.1, r.1.1⟩
      refine wpAny_bind (wpAny_mono (wp_sortRuns (E := E) C (st := SortSt.mk' _ _ #[] 7 none) ⟨rfl, Array.Perm.refl _, rfl⟩ rfl (by have z := hz0.length_eq; rw [List.length_zip, Array.length_toList] at z; omega) (Q := fun _ st' => SB (tuples' (Value.type "int" != Value.type "tuple")) (if b = true then (ks.toArray.zip vs.toArray).reverse else ks.toArray.zip vs.toArray) st' ∧ Srt (O := lexO) (tupKey s.heap) (arrOf st').toList) fun st' B' S' => ⟨B', S'⟩) ?_ fun _ _ x => x)
      rintro ⟨⟨⟩, st'⟩ s' ⟨rfl, B', S'⟩
      exact fin st' B'.failed ((Array.perm_iff_toList_perm.mp B'.perm).trans hz0) S'
end
end TS
namespace L2
open PySem PySem.Spec PyProof.Rows TS
def skGo (sp : V → Hp → VK → Prop) : List V → List V → Hp → (List V → Hp → Prop) → Prop
  | [], ks, H, F => F ks H
  | x :: xs, ks, H, F => sp x H fun k H1 => skGo sp xs (ks ++ [k]) H1 F
def skEnd (K : PySem.W.Frag) (b : Bool) (all : List V) (G : List V → Hp → Prop) (ks : List V) (H : Hp) : Prop :=
  ∃ kis : List (List Int), Paired (fun ns k => ∃ t, k = V.ref t ∧ SqT K H t (ns.map V.int) ∧ ns ≠ []) kis ks ∧ all.length < 64 ∧
    ∀ ps : List (List Int × V), ps.Perm (kis.zip all) → ps.Pairwise (fun p q => (if b = true then HT.lexLt p.1 q.1 else HT.lexLt q.1 p.1) = false) → G (ps.map (·.2)) H
def BRunA (X : Cx) (A : Around) (σ : St) (pl : List (Addr × Obj)) (q : Addr) (oq : Obj) (sp : V → Hp → VK → Prop) : Prop := ∀ (pins : List (Addr × Obj)) (s : Shared) (H : Hp) (Q : VK) (x : V) (u : Value), Inv X pins σ H s → (∀ p ∈ (q, oq) :: pl, p ∈ pins) → RelV x u → sp x H Q →
  wpAny (model X.prog X.w) A (call (.ref q) [u]) (EP X pins σ Q) (fun _ _ => False) s
theorem brunA_of {X : Cx} {k : Nat} {f : Addr} {fd : FuncData} {ps : List Str} {sp : Sp} {dvs : List V} {ds : List Value} {q a : Addr} {σ : St} {pl : List (Addr × Obj)} (F : FnOk X.prog X.w X.K X.mg X.base CX0 k f fd ps sp) (hr : Room (k + 1 + 1) X.A) (hb : Binds X.K fd ps ds) (hd : Vals dvs ds) :
    BRunA X X.A.in1.in1 σ pl q (PySem.W.methodObj (.ref f) (.ref a)) fun x H Q => sp (.ref a :: x :: dvs) H Q E0 := by
  intro pins s H Q x u I hin rx h
  have hq := hin _ (.head _)
  have r2 : Vals (.ref a :: x :: dvs) ([.ref a, u] ++ ds) := .cons rfl (.cons rx hd)
  have hl : ([.ref a, u] ++ ds).length = ps.length := by rw [← r2.length]; exact F.len _ _ _ _ h
  have ho := (I.pin _ (List.mem_append_right _ hq)).1
  refine wpAny_call (PySem.W.method_call ho ?_)
  refine codeAny_mono (F.run X.A.in1.in1 X.stack s H ⟨[.ref a, u], []⟩ ([.ref a, u] ++ ds) (.ref a :: x :: dvs) Q E0 hr.in1.in1 I.env0.in1.in1 (hb s [.ref a, u] I.kIn hl) r2 h) fun r s' hq => ?_
  match r, hq with
  | .error e, hq => exact False.elim hq
  | .ok (.ret u), hq => exact I.after hq
  | .ok .next, hq => exact False.elim hq
  | .ok .brk, hq => exact False.elim hq
  | .ok .cont, hq => exact False.elim hq
section
variable {X : Cx} {A : Around} {E : Value → Shared → Prop} {pins : List (Addr × Obj)} {σ : St} {q kS D : Addr} {oD oq : Obj} {sp : V → Hp → VK → Prop} {H₁ : Hp} {F : List V → Hp → Prop}
theorem keys_go (B : BRunA X A σ pins q oq sp) (hKD : D ≠ kS) (hKq : q ≠ kS) (fK : FpOk X pins H₁ kS) {body : Value → PUnit → Sem (ForInStep PUnit)}
    (hb : ∀ (x : Value) (s : Shared) (R : Value → Shared → Prop), wpAny (model X.prog X.w) A (call (.ref q) [x]) (fun k s' => ∃ (kus : List Value) (e : Nat), s'.heap.get? kS = some (seqObj "list" kus.toArray e) ∧ kus.length ≤ sizeLine ∧ R k { s' with heap := s'.heap.update kS (Obj.mapSeq (·.push k)) }) (fun _ _ => False) s →
      wpAny (model X.prog X.w) A (body x ⟨⟩) (fun r s' => r = .yield ⟨⟩ ∧ ∃ k, R k s') E s) :
    ∀ (r : List V) (us : List Value) (ks : List V) (kus : List Value) (e : Nat) (H : Hp) (s : Shared), Vals r us → Vals ks kus → ks.length + r.length ≤ sizeLine → skGo sp r ks H F →
      Inv X ((kS, seqObj "list" kus.toArray e) :: (D, oD) :: (q, oq) :: pins) σ H s →
      wpAny (model X.prog X.w) A (forIn us PUnit.unit body) (fun _ s' => ∃ ks' kus' e' H', Vals ks' kus' ∧ ks'.length = ks.length + r.length ∧ Inv X ((kS, seqObj "list" kus'.toArray e') :: (D, oD) :: (q, oq) :: pins) σ H' s' ∧ F ks' H') E s := by
  intro r
  induction r with
  | nil =>
    intro us ks kus e H s hr hk hz h I
    cases hr
    rw [List.forIn_nil]
    exact wpAny_pure ⟨ks, kus, e, H, hk, rfl, I, h⟩
  | cons x r ih =>
    intro us ks kus e H s hr hk hz h I
    cases hr with
    | cons r1 t =>
      rename_i u us
      rw [List.forIn_cons]
      have hz' : ks.length + (r.length + 1) ≤ sizeLine := hz
      refine wpAny_bind (wpAny_mono (hb u s (fun k s'' => ∃ kv H1 e', RelV kv k ∧ Inv X ((kS, seqObj "list" (kus ++ [k]).toArray e') :: (D, oD) :: (q, oq) :: pins) σ H1 s'' ∧ skGo sp r (ks ++ [kv]) H1 F) ?_) (fun rr s' hq => ?_) fun _ _ x => x)
      · refine wpAny_mono (B _ s H _ x u I (fun p hp => .tail _ (.tail _ hp)) r1 h) (fun k s' he => ?_) fun _ _ x => x
        obtain ⟨kv, H1, I2, rk, hgo⟩ := he
        have nk := I2.pin (kS, seqObj "list" kus.toArray e) (List.mem_append_right _ (.head _))
        have sb := Heap.SameBut.update s'.heap kS (Obj.mapSeq (·.push k))
        have ea : kus.toArray.push k = (kus ++ [k]).toArray := by simp
        obtain ⟨c2, hc2⟩ : ∃ c2, (s'.heap.update kS (Obj.mapSeq (·.push k))).get? kS = some (seqObj "list" (kus ++ [k]).toArray c2) := ⟨_, by rw [← ea]; exact get?_update_seq nk.1 (·.push k)⟩
        have fK' : FpOk X ([] ++ ((D, oD) :: (q, oq) :: pins)) H₁ kS := fK.more (pa := [(D, oD), (q, oq)]) (by simp [hKD, hKq])
        exact ⟨kus, e, nk.1, by rw [← hk.length]; omega, kv, H1, c2, rk, Inv.repin (pa := []) (t' := s'.toks) I2 fK' (fun b' o hb' e' => (sb.2 b' hb').trans e') hc2 (by intro v z; cases z), hgo⟩
      · obtain ⟨rfl, k, kv, H1, e', rk, I3, hgo⟩ := hq
        show wpAny (model X.prog X.w) A (forIn us PUnit.unit body) _ E s'
        refine wpAny_mono (ih us (ks ++ [kv]) (kus ++ [k]) e' H1 s' t (hk.append (.cons rk .nil)) (by simp; omega) hgo I3) (fun _ s4 hd => ?_) fun _ _ x => x
        obtain ⟨ks', kus', e4, H', v', l', I', f'⟩ := hd
        exact ⟨ks', kus', e4, H', v', by rw [l']; simp; omega, I', f'⟩
theorem tree_run {b : Bool} {all : List V} {vs : List Value} {n : Nat} {H : Hp} {s : Shared} {G : List V → Hp → Prop} (B : BRunA X A σ pins q oq sp) (hqD : q ≠ D) (fD : FpOk X pins H₁ D) (hV : Vals all vs) (hz : vs.length ≤ sizeLine)
    (I : Inv X ((D, seqObj "list" vs.toArray n) :: (q, oq) :: pins) σ H s) (h : skGo sp all [] H (skEnd X.K b all G)) :
    wpAny (model X.prog X.w) A (ksk_tree D (.ref q) b) (fun fin s' => fin = .done (.ret .none) ∧ ∃ out outv n' H', Vals out outv ∧ out.length ≤ sizeLine ∧ Inv X ((D, seqObj "list" outv.toArray n') :: (q, oq) :: pins) σ H' s' ∧ G out H') E s := by
  have nD := I.pin (D, seqObj "list" vs.toArray n) (List.mem_append_right _ (.head _))
  have nq := I.pin (q, oq) (List.mem_append_right _ (.tail _ (.head _)))
  have s1 := Heap.SameBut.update s.heap D (Obj.mapSeq fun _ => (#[] : Array Value))
  obtain ⟨e1, ho1⟩ : ∃ e1, (s.heap.update D (Obj.mapSeq fun _ => (#[] : Array Value))).get? D = some (seqObj "list" #[] e1) := ⟨_, get?_update_seq nD.1 fun _ => #[]⟩
  have fD' : FpOk X ([] ++ ((q, oq) :: pins)) H₁ D := fD.more (pa := [(q, oq)]) (by simp [hqD])
  have I1 : Inv X ((D, seqObj "list" #[] e1) :: (q, oq) :: pins) σ H { s with heap := s.heap.update D (Obj.mapSeq fun _ => #[]) } :=
    Inv.repin (pa := []) (t' := s.toks) I fD' (fun b' o hb' e' => (s1.2 b' hb').trans e') ho1 (by intro v z; cases z)
  unfold ksk_tree
  refine wpAny_bind (listItems_at nD.1 rfl ?_)
  refine wpAny_bind (listUpdate_at nD.1 rfl ?_ (by rw [List.size_toArray]; omega) (Nat.zero_le _))
  refine wpAny_bind (seqEpoch_at ho1 rfl ?_)
  refine wpAny_bind (wpAny_newTuple ?_ (by show vs.length ≤ _; omega))
  have I2 : Inv X ((D, seqObj "list" #[] e1) :: (q, oq) :: pins) σ H { s with heap := (s.heap.update D (Obj.mapSeq fun _ => #[])).push (seqObj "tuple" vs.toArray 0) } := I1.kept (t' := s.toks) fun b u e => Heap.get?_push_of_some _ e
  refine wpAny_bind (wpAny_newList ?_ (Nat.zero_le _))
  refine wpAny_holding ?_
  have I3 := I2.pinNew (t' := s.toks) (ob := seqObj "list" #[] 0) rfl (by intro v z; cases z)
  have fK : FpOk X pins H ((s.heap.update D (Obj.mapSeq fun _ => #[])).push (seqObj "tuple" vs.toArray 0)).objs.size := by
    have I0 : Inv X pins σ H { s with heap := (s.heap.update D (Obj.mapSeq fun _ => #[])).push (seqObj "tuple" vs.toArray 0) } := I2.pins_of fun p hp => I2.pin p (List.mem_append_right _ (.tail _ (.tail _ hp)))
    exact I0.fpOk (Nat.le_refl _) (I0.hok.fresh (Nat.le_refl _))
  have hDk : D ≠ ((s.heap.update D (Obj.mapSeq fun _ => #[])).push (seqObj "tuple" vs.toArray 0)).objs.size := Nat.ne_of_lt (Heap.lt_size (I2.pin (D, seqObj "list" #[] e1) (List.mem_append_right _ (.head _))).1)
  have hqk : q ≠ ((s.heap.update D (Obj.mapSeq fun _ => #[])).push (seqObj "tuple" vs.toArray 0)).objs.size := Nat.ne_of_lt (Heap.lt_size (I2.pin (q, oq) (List.mem_append_right _ (.tail _ (.head _)))).1)
  show wpAny _ _ (ksk_rest D (.ref q) b vs.toArray e1 (.ref ((s.heap.update D (Obj.mapSeq fun _ => #[])).push (seqObj "tuple" vs.toArray 0)).objs.size)) _ _ { s with heap := ((s.heap.update D (Obj.mapSeq fun _ => #[])).push (seqObj "tuple" vs.toArray 0)).push (seqObj "list" #[] 0) }
  have I3' : Inv X ((((s.heap.update D (Obj.mapSeq fun _ => #[])).push (seqObj "tuple" vs.toArray 0)).objs.size, seqObj "list" ([] : List Value).toArray 0) :: (D, seqObj "list" #[] e1) :: (q, oq) :: pins) σ H { s with heap := ((s.heap.update D (Obj.mapSeq fun _ => #[])).push (seqObj "tuple" vs.toArray 0)).push (seqObj "list" #[] 0) } := I3
  generalize ((s.heap.update D (Obj.mapSeq fun _ => #[])).push (seqObj "tuple" vs.toArray 0)).objs.size = kS at *
  generalize ({ s with heap := ((s.heap.update D (Obj.mapSeq fun _ => #[])).push (seqObj "tuple" vs.toArray 0)).push (seqObj "list" #[] 0) } : Shared) = s3 at *
  unfold ksk_rest
  refine wpAny_bind (wpAny_rule ?_)
  rw [← Array.forIn_toList]
  refine wpAny_bind (wpAny_mono (keys_go (F := skEnd X.K b all G) (E := E) B hDk hqk fK (fun x s R hx => ?_) all vs [] [] 0 H s3 hV .nil (by rw [hV.length]; simpa using hz) h I3') (fun _ s4 hd => ?_) fun _ _ x => x)
  · refine wpAny_bind (wpAny_attempt (wpAny_mono hx (fun k s'' hk => ?_) fun _ _ hF => hF.elim))
    obtain ⟨kus, e, hk1, hk2, hR⟩ := hk
    dsimp only
    refine wpAny_bind (listUpdate_at hk1 rfl ?_ (by rw [List.size_toArray]; omega) (by rw [Array.size_push, List.size_toArray]; omega))
    exact wpAny_pure ⟨rfl, k, hR⟩
  · obtain ⟨ks, kus, e, H', hv', hl', I4, kis, hP, h64, hG⟩ := hd
    have nk := I4.pin (kS, seqObj "list" kus.toArray e) (List.mem_append_right _ (.head _))
    have nD4 := I4.pin (D, seqObj "list" #[] e1) (List.mem_append_right _ (.tail _ (.head _)))
    refine wpAny_bind (listItems_at nk.1 rfl ?_)
    have hlen : kus.length = vs.length := by rw [← hv'.length, hl', hV.length]; simp
    have hK : Paired (fun ns k => TupAt s4.heap k ns ∧ ns ≠ []) kis kus := by
      clear hG hl' hlen nk
      have key : ∀ {kis : List (List Int)} {ks : List V} {kus : List Value}, Paired (fun ns k => ∃ t, k = V.ref t ∧ SqT X.K H' t (ns.map V.int) ∧ ns ≠ []) kis ks → Vals ks kus → Paired (fun ns k => TupAt s4.heap k ns ∧ ns ≠ []) kis kus := by
        intro kis ks kus hp
        induction hp generalizing kus with
        | nil => intro hv; cases hv; exact .nil
        | cons r _ ih =>
          intro hv
          cases hv with
          | cons r1 t =>
            obtain ⟨tt, rfl, sq, ne⟩ := r
            cases r1
            obtain ⟨it, rr, pt, _⟩ := I4.tuple sq
            exact .cons ⟨⟨tt, _, rfl, pt, intsAre_of rr⟩, ne⟩ (ih t)
      exact key hP hv'
    refine end_run nk.1 nD4.1 hDk hK hV hlen hz (by rw [← hV.length]; exact h64) fun ps out pp pw pv => ⟨rfl, ps.map (·.2), out.toList, ?_⟩
    have sa := Heap.SameBut.update s4.heap kS (Obj.mapSeq fun _ => (#[] : Array Value))
    have hD5 : (s4.heap.update kS (Obj.mapSeq fun _ => (#[] : Array Value))).get? D = some (seqObj "list" #[] e1) := (sa.2 D hDk).trans nD4.1
    have sb := Heap.SameBut.update (s4.heap.update kS (Obj.mapSeq fun _ => (#[] : Array Value))) D (Obj.mapSeq fun _ => out)
    obtain ⟨c2, hc2⟩ : ∃ c2, ((s4.heap.update kS (Obj.mapSeq fun _ => (#[] : Array Value))).update D (Obj.mapSeq fun _ => out)).get? D = some (seqObj "list" out c2) := ⟨_, get?_update_seq hD5 fun _ => out⟩
    have I5 : Inv X ((D, seqObj "list" #[] e1) :: (q, oq) :: pins) σ H' s4 := I4.pins_of fun p hp => I4.pin p (List.mem_append_right _ (.tail _ hp))
    have fK' := fK.more (pa := [(D, seqObj "list" #[] e1), (q, oq)]) (by simp [hDk, hqk])
    have I6 := I5.turned (t' := s4.toks) (h' := s4.heap.update kS (Obj.mapSeq fun _ => #[])) (it := kS) (fun b' o hb' e' => (sa.2 b' hb').trans e') nk.2.1 fK'.2.1 fK'.2.2.2.1 fK'.2.2.2.2.1 fK'.2.2.2.2.2
    have I7 : Inv X ((D, seqObj "list" out.toList.toArray c2) :: (q, oq) :: pins) σ H' { s4 with heap := (s4.heap.update kS (Obj.mapSeq fun _ => #[])).update D (Obj.mapSeq fun _ => out) } :=
      Inv.repin (s := { s4 with heap := s4.heap.update kS (Obj.mapSeq fun _ => #[]) }) (pa := []) (t' := s4.toks) I6 fD' (fun b' o hb' e' => (sb.2 b' hb').trans e') (by simpa using hc2) (by intro v z; cases z)
    exact ⟨c2, H', pv, by
      have := pp.length_eq
      rw [List.length_zip] at this
      rw [List.length_map, this, hV.length]; omega, I7, hG ps pp pw⟩
end
end L2
namespace L2
open PySem PySem.Spec PyProof.Rows TS
def tSortK (K : PySem.W.Frag) (C : Addr) (m : Str) (sp : Sp) (dvs : List V) (b : Bool) (te ta : TE) : TE := fun σ H Q => te σ H fun v H1 => ta σ H1 fun o H2 => ∃ (a dx : Addr) (fs : List (Str × V)) (l : Addr) (all : List V), o = .ref a ∧ H2 a = some (.ins C dx fs) ∧ fs.lookup m = none ∧
  v = .ref l ∧ H2 l = some (.lst all) ∧ skGo (fun x H Q => sp (.ref a :: x :: dvs) H Q E0) all [] H2 (skEnd K b all fun out H' => ∀ D, H' D = none → Q (.ref D) (upd H' D (.lst out)))
section
variable {X : Cx} {k j : Nat} {C : Addr} {ps : List Str} {sp : Sp} {dvs : List V} {ds : List Value} {m : Str} {p pos apos kpos rpos cpos : Pos} {e o : Expr} {te ta : TE}
theorem sorted_run {pins : List (Addr × Obj)} {σ : St} {H : Hp} {s : Shared} {q l : Addr} {oq : Obj} {all : List V} {sp : V → Hp → VK → Prop} {Q : VK} {kw : List (Str × Value)} {b : Bool} (ha1 : argsOk "sorted" ⟨[.ref l], kw⟩) (ha2 : ∀ x, argsOk "list.sort" ⟨[.ref x], kw⟩)
    (ht : ∀ x, Builtin.«list.sort» ⟨[.ref x], kw⟩ = ksk_tree x (.ref q) b) (B : BRunA X X.A.in1.in1 σ pins q oq sp) (I : Inv X ((q, oq) :: pins) σ H s) (hH : H l = some (.lst all))
    (h : skGo sp all [] H (skEnd X.K b all fun out H' => ∀ D, H' D = none → Q (.ref D) (upd H' D (.lst out)))) : wpAny (model X.prog X.w) X.A (call (.builtin "sorted") [.ref l] kw) (EP X pins σ Q) X.xe s := by
  obtain ⟨vs, n, hV, hl, hz⟩ := I.lst hH
  have hz' : vs.length ≤ sizeLine := by rw [← hV.length]; exact hz
  have hls : s.heap.IsList l vs.toArray := ⟨_, hl, rfl, n, rfl⟩
  refine call_function_entry_kw kind_sorted plain_sorted entry_sorted ha1 ?_
  unfold Builtin.«sorted»
  refine wpAny_bind (m := checkCount "sorted" 1 1 _) (wpAny_pure ?_)
  refine wpAny_bind (collect_list hls ?_ hz')
  have keep0 : ∀ b o, s.heap.get? b = some o → ((s.heap.push (seqObj "list" #[] 0)).update s.heap.objs.size (Obj.mapSeq (· ++ vs.toArray))).get? b = some o := fun b o q => by
    have hlt : b < s.heap.objs.size := Heap.lt_size q
    rw [Heap.get?_update_ne _ _ _ _ (Nat.ne_of_lt hlt), Heap.get?_push_ne _ _ _ (Nat.ne_of_lt hlt)]
    exact q
  have I1 : Inv X ((q, oq) :: pins) σ H { s with heap := (s.heap.push (seqObj "list" #[] 0)).update s.heap.objs.size (Obj.mapSeq (· ++ vs.toArray)) } := I.kept (t' := s.toks) keep0
  refine wpAny_bind (wpAny_newList ?_ hz')
  have I2 := I1.pinNew (t' := s.toks) (ob := seqObj "list" vs.toArray 0) rfl (by intro v z; cases z)
  have I0 : Inv X pins σ H { s with heap := (s.heap.push (seqObj "list" #[] 0)).update s.heap.objs.size (Obj.mapSeq (· ++ vs.toArray)) } := I1.pins_of fun p hp => I1.pin p (List.mem_append_right _ (.tail _ hp))
  have fD : FpOk X pins H ((s.heap.push (seqObj "list" #[] 0)).update s.heap.objs.size (Obj.mapSeq (· ++ vs.toArray))).objs.size := I0.fpOk (Nat.le_refl _) (I0.hok.fresh (Nat.le_refl _))
  have hqD : q ≠ ((s.heap.push (seqObj "list" #[] 0)).update s.heap.objs.size (Obj.mapSeq (· ++ vs.toArray))).objs.size := Nat.ne_of_lt (Heap.lt_size (I1.pin (q, oq) (List.mem_append_right _ (.head _))).1)
  have nD := I2.pin (((s.heap.push (seqObj "list" #[] 0)).update s.heap.objs.size (Obj.mapSeq (· ++ vs.toArray))).objs.size, seqObj "list" vs.toArray 0) (List.mem_append_right _ (.head _))
  refine wpAny_bind (wpAny_holding (wpAny_call_entry_kw PyProof.Rows.slot_list_sort ⟨_, nD.1, rfl⟩ PyProof.Rows.entry_list_sort ?body (ha2 _)))
  case body =>
    rw [ht]
    refine wpAny_mono (tree_run B hqD fD hV hz' I2 h) (fun fin s' hq => ?_) fun _ _ x => x
    obtain ⟨rfl, out, outv, n', H', v', lz, I', hG⟩ := hq
    refine ⟨_, rfl, wpAny_pure ⟨_, rfl, ?_⟩⟩
    have I3 : Inv X ((((s.heap.push (seqObj "list" #[] 0)).update s.heap.objs.size (Obj.mapSeq (· ++ vs.toArray))).objs.size, seqObj "list" outv.toArray n') :: pins) σ H' s' := I'.pins_of fun p hp => I'.pin p (List.mem_append_right _ (by
      rcases List.mem_cons.mp hp with rfl | hp
      · exact .head _
      · exact .tail _ (.tail _ hp)))
    have nD' := I3.pin (((s.heap.push (seqObj "list" #[] 0)).update s.heap.objs.size (Obj.mapSeq (· ++ vs.toArray))).objs.size, seqObj "list" outv.toArray n') (List.mem_append_right _ (.head _))
    exact ⟨.ref _, _, I3.unpin fD v' lz, rfl, hG _ nD'.2.1⟩
theorem pe_sortK {b : Bool} {jj : Nat} (c : MCal X.prog X.w X.K X.mg X.base CX0 k C m ps ds sp) (bm : BM X.K C m) (he : PE X e te) (ho : PE X o ta) (hr : Room j X.A) (hd : Vals dvs ds) (hm : X.mg ("sorted" : Str) = none) (hk : k + 1 + 1 ≤ j := by decide) (hg : Gl X "sorted" := by rfl)
    (hb : attributeBase o m X.env (eval o X.env) = eval o X.env := by rfl) (hs : starEach [e] X.env = (false, eval e X.env) :: starEach [] X.env := by rfl) :
    PE X (.Call (.Name "sorted" p) [e] [⟨some "key", .Attribute o m apos, kpos⟩, ⟨some "reverse", .Constant (.bool b) jj cpos, rpos⟩] pos) (tSortK X.K C m sp dvs b te ta) := by
  obtain ⟨f, fd, F, hbi, hme⟩ := c.ex
  obtain ⟨f', ef, kb⟩ := bm.ex
  have : f' = f := by have z := hme.at_; rw [ef] at z; injection z with z; injection z with z; injection z
  subst this
  intro pins s σ H Q I h
  refine wpAny_Call_Name_kw (ld_blt I hg hm boot_sorted ?_)
  have h' : tCons te tNil σ H (fun vs H1 => match vs with
      | [v] => ta σ H1 fun o H2 => ∃ (a dx : Addr) (fs : List (Str × V)) (l : Addr) (all : List V), o = .ref a ∧ H2 a = some (.ins C dx fs) ∧ fs.lookup m = none ∧
          v = .ref l ∧ H2 l = some (.lst all) ∧ skGo (fun x H Q => sp (.ref a :: x :: dvs) H Q E0) all [] H2 (skEnd X.K b all fun out H' => ∀ D, H' D = none → Q (.ref D) (upd H' D (.lst out)))
      | _ => False) := h
  refine callWith_kw (thn ((pa_cons he pa_nil hs) pos pins s σ H _ I h') fun us s1 ⟨vs, H1, I1, r1, q1⟩ => ?_) (by rw [hs]; rfl) (by rw [hs]; rfl)
  cases r1 with
  | nil => exact False.elim q1
  | cons ru rr =>
    cases rr with
    | cons _ _ => exact False.elim q1
    | nil =>
      refine kwAll_cons (attr_of hb (thn (ho pins s1 σ H1 _ I1 q1) fun uo s2 ⟨ov, H2, I2, ro, a, dx, fs, l, all, eo, ea, el, ev, eh, hmx⟩ => ?_))
      subst eo
      subst ev
      cases ro
      cases ru
      refine getbnd_ok I2 ea c.cl hme kb el ?_
      have I3 := I2.pinNew (t' := s2.toks + 1) (ob := PySem.W.methodObj (.ref f') (.ref a)) rfl (by intro v z; cases z)
      refine kwAll_cons (Constant_bool (kwAll_nil ?_))
      exact sorted_run (ksk_s2 _ _ _) (fun x => ksk_l2 _ _ _) (fun x => ksk_t2 _ x b) (brunA_of F (hr.mono hk) hbi hd) I3 eh hmx
end
end L2
namespace LC
open PySem PyProof.Rows PySem.MeetsSeq3
end LC
namespace L2
open PySem PySem.Spec PyProof.Rows
variable {X : Cx}
def rGtL (K : PySem.W.Frag) : R2 := fun x y H Q => ∃ (a b : Addr) (ns ms : List Int), x = .ref a ∧ y = .ref b ∧ H a = some (.lst (ns.map V.int)) ∧ H b = some (.lst (ms.map V.int)) ∧ Q (.bl (HT.lexLt ms ns)) H
end L2
namespace LC
open PySem PyProof.Rows TS
section
variable {prog : Program} {w : World} {A : Around} {s : Shared}
def LstAt (h : Heap) (v : Value) (ns : List Int) : Prop := ∃ a its n, v = .ref a ∧ h.get? a = some { cls := .type "list", dict := none, data := .seq its n, slots := #[] } ∧ IntsAre its.toList ns
open Classical in
noncomputable def lstKey (h : Heap) (x : Keyed) : List Int := if e : ∃ ns, LstAt h x.1 ns then e.choose else []
end
end LC
namespace LC
open PySem PyProof.Rows TS
open L2 (V Vals RelV)
section
variable {prog : Program} {w : World} {A : Around} {E : Value → Shared → Prop} {s : Shared}
end
end LC
namespace L2
open PySem PySem.Spec PyProof.Rows TS LC
def tSortN (b : Bool) (te : TE) : TE := fun σ H Q => te σ H fun v H1 => ∃ (l : Addr) (all : List V) (kis : List (List Int)), v = .ref l ∧ H1 l = some (.lst all) ∧ Paired (fun ns x => ∃ t, x = V.ref t ∧ H1 t = some (.lst (ns.map V.int))) kis all ∧ all.length < 64 ∧
  ∀ ps : List (List Int × V), ps.Perm (kis.zip all) → ps.Pairwise (fun p q => (if b = true then HT.lexLt p.1 q.1 else HT.lexLt q.1 p.1) = false) → ∀ D, H1 D = none → Q (.ref D) (upd H1 D (.lst (ps.map (·.2))))
section
variable {X : Cx} {j : Nat} {p pos rpos cpos : Pos} {e : Expr} {te : TE}
end
end L2
set_option Elab.async false
set_option linter.all false
set_option maxRecDepth 100000
namespace L2
open PySem PySem.Spec PyProof.Rows
section
variable {X : Cx}
def rCount (K : PySem.W.Frag) : V → List V → Hp → VK → Prop := fun x vs H Q => ∃ (l : Addr) (xs : List V) (y : V) (ds : List PyData) (d : PyData), x = .ref l ∧ vs = [y] ∧ SqL K H l xs ∧ RdsAll K H xs ds ∧ Rds K H y d ∧
  PyData.canLayAll0 ds = true ∧ d.canLay0 = true ∧ d.depth ≤ 60 ∧ Q (.int ((ds.countP fun e => PyData.eqv e d : Nat) : Int)) H
end
end L2
namespace L2
open PySem PySem.Spec PyProof.Rows
end L2
set_option Elab.async false
set_option linter.all false
set_option maxRecDepth 100000
namespace L2
open PySem PySem.Spec PyProof.Rows
section
variable {κ : Type} [DecidableEq κ]
def valV (kvs : List (κ × V)) (k : κ) : Option V := (kvs.find? fun kv => decide (kv.1 = k)).map (·.2)
def putK (kvs : List (κ × V)) (k : κ) (v : V) : List (κ × V) :=
  if (kvs.any fun kv => decide (kv.1 = k)) = true then kvs.map (fun kv => if kv.1 = k then (kv.1, v) else kv) else kvs ++ [(k, v)]
def dropK (kvs : List (κ × V)) (k : κ) : List (κ × V) := kvs.filter fun kv => decide (kv.1 ≠ k)
theorem valV_pos {p : κ × V} {r : List (κ × V)} {k : κ} (e : p.1 = k) : valV (p :: r) k = some p.2 := by simp [valV, List.find?_cons, e]
theorem valV_neg {p : κ × V} {r : List (κ × V)} {k : κ} (e : ¬ p.1 = k) : valV (p :: r) k = valV r k := by simp [valV, List.find?_cons, e]
theorem valV_any (k : κ) : ∀ kvs : List (κ × V), (kvs.any fun kv => decide (kv.1 = k)) = (valV kvs k).isSome
  | [] => rfl
  | p :: r => by
    rw [List.any_cons]
    by_cases e : p.1 = k
    · simp only [valV_pos e, decide_eq_true e, Bool.true_or, Option.isSome_some]
    · rw [valV_neg e, decide_eq_false e, Bool.false_or]; exact valV_any k r
theorem length_putK (kvs : List (κ × V)) (k : κ) (v : V) : (putK kvs k v).length ≤ kvs.length + 1 := by
  unfold putK
  split
  · rw [List.length_map]; omega
  · rw [List.length_append, List.length_cons, List.length_nil]; omega
theorem RelO.isSome_eq {o : Option V} {u : Option Value} (r : RelO o u) : o.isSome = u.isSome := by
  cases o with
  | none => cases u with
    | none => rfl
    | some _ => exact (show False from r).elim
  | some _ => cases u with
    | none => exact (show False from r).elim
    | some _ => rfl
theorem KV.val {kvs : List (κ × V)} {vs : List (κ × Value)} (r : KV kvs vs) (k : κ) : RelO (valV kvs k) (valueAt vs k) := by
  unfold KV at r
  induction r with
  | nil => exact True.intro
  | @cons p q ps qs h t ih =>
    obtain ⟨h1, h2⟩ := h
    by_cases e : p.1 = k
    · have e' : q.1 = k := h1.symm.trans e
      have b : valueAt (q :: qs) k = some q.2 := by simp [valueAt, List.find?_cons, e']
      rw [valV_pos e, b]; exact h2
    · have e' : ¬ q.1 = k := fun z => e (h1.trans z)
      have b : valueAt (q :: qs) k = valueAt qs k := by simp [valueAt, List.find?_cons, e']
      rw [valV_neg e, b]; exact ih
theorem KV.any {kvs : List (κ × V)} {vs : List (κ × Value)} (r : KV kvs vs) (k : κ) : (kvs.any fun kv => decide (kv.1 = k)) = vs.any fun kv => decide (kv.1 = k) := by
  unfold KV at r
  induction r with
  | nil => rfl
  | cons h t ih => rw [List.any_cons, List.any_cons, ih, h.1]
theorem KV.repl {kvs : List (κ × V)} {vs : List (κ × Value)} (r : KV kvs vs) (k : κ) {y : V} {u : Value} (ry : RelV y u) :
    KV (kvs.map fun kv => if kv.1 = k then (kv.1, y) else kv) (vs.map fun kv => if kv.1 = k then (kv.1, u) else kv) := by
  unfold KV at r ⊢
  induction r with
  | nil => exact .nil
  | @cons p q ps qs h t ih =>
    rw [List.map_cons, List.map_cons]
    refine .cons ?_ ih
    obtain ⟨h1, h2⟩ := h
    by_cases e : p.1 = k
    · rw [if_pos e, if_pos (h1.symm.trans e)]; exact ⟨h1, ry⟩
    · rw [if_neg e, if_neg (fun z => e (h1.trans z))]; exact ⟨h1, h2⟩
theorem KV.put {kvs : List (κ × V)} {vs : List (κ × Value)} (r : KV kvs vs) (k : κ) {y : V} {u : Value} (ry : RelV y u) : KV (putK kvs k y) (stored vs k u) := by
  unfold putK stored
  rw [r.any k]
  by_cases e : (vs.any fun kv => decide (kv.1 = k)) = true
  · rw [if_pos e, if_pos e]; exact r.repl k ry
  · rw [if_neg e, if_neg e]; exact Paired.snoc r ⟨rfl, ry⟩
theorem KV.length {kvs : List (κ × V)} {vs : List (κ × Value)} (r : KV kvs vs) : kvs.length = vs.length := Paired.length r
end
theorem kV_is {P : Program} {w : World} {k : Key} {u : Value} (r : RelV (kV k) u) : (mixKind P w).is k u = true := by
  cases k with
  | inl i => obtain ⟨t, e⟩ := (show ∃ t, u = Value.int i t from r); subst e; exact mixKind_int P w i t
  | inr x => obtain ⟨t, e⟩ := (show ∃ t, u = Value.str x t from r); subst e; exact mixKind_str P w x t
theorem items_are {P : Program} {w : World} : ∀ {ks : List Key} {us : List Value}, Vals (ks.map kV) us → ItemsAre (mixKind P w) ks us
  | [], _, r => by rw [List.map_nil] at r; cases r; exact .nil
  | k :: ks, _, r => by
    rw [List.map_cons] at r
    cases r with
    | cons h t => exact .cons (kV_is h) (items_are t)
abbrev KT (H : Hp) : List (List Key × V) → List (List Key × Addr × Value) → Prop := Paired fun p q => p.1 = q.1 ∧ H q.2.1 = some (.tup (p.1.map kV)) ∧ RelV p.2 q.2.2
theorem KT.val {H : Hp} {kvs : List (List Key × V)} {xs : List (List Key × Addr × Value)} (r : KT H kvs xs) (k : List Key) : RelO (valV kvs k) ((atKey xs k).map (·.2)) := by
  induction r with
  | nil => exact True.intro
  | @cons p q ps qs h t ih =>
    obtain ⟨h1, _, h2⟩ := h
    by_cases e : p.1 = k
    · have e' : q.1 = k := h1.symm.trans e
      have b : atKey (q :: qs) k = some q.2 := by simp [atKey, List.find?_cons, e']
      rw [valV_pos e, b]; exact h2
    · have e' : ¬ q.1 = k := fun z => e (h1.trans z)
      have b : atKey (q :: qs) k = atKey qs k := by simp [atKey, List.find?_cons, e']
      rw [valV_neg e, b]; exact ih
theorem KT.repl {H : Hp} {kvs : List (List Key × V)} {xs : List (List Key × Addr × Value)} (r : KT H kvs xs) (k : List Key) {y : V} {u : Value} (ry : RelV y u) :
    KT H (kvs.map fun kv => if kv.1 = k then (kv.1, y) else kv) (xs.map (putAt k u)) := by
  induction r with
  | nil => exact .nil
  | @cons p q ps qs h t ih =>
    rw [List.map_cons, List.map_cons]
    refine .cons ?_ ih
    obtain ⟨h1, h2, h3⟩ := h
    unfold putAt
    by_cases e : p.1 = k
    · rw [if_pos e, if_pos (h1.symm.trans e)]; exact ⟨h1, h2, ry⟩
    · rw [if_neg e, if_neg (fun z => e (h1.trans z))]; exact ⟨h1, h2, h3⟩
theorem KT.put {H : Hp} {kvs : List (List Key × V)} {xs : List (List Key × Addr × Value)} (r : KT H kvs xs) (k : List Key) {b : Addr} {y : V} {u : Value} (hb : H b = some (.tup (k.map kV))) (ry : RelV y u) :
    KT H (putK kvs k y) (storedH xs k b u) := by
  have e : (kvs.any fun kv => decide (kv.1 = k)) = (atKey xs k).isSome := by
    rw [valV_any, (r.val k).isSome_eq, Option.isSome_map]
  unfold putK storedH
  rw [e]
  by_cases q : (atKey xs k).isSome = true
  · rw [if_pos q, if_pos q]; exact r.repl k ry
  · rw [if_neg q, if_neg q]; exact Paired.snoc r ⟨rfl, hb, ry⟩
theorem KT.keeps {H H' : Hp} {kvs : List (List Key × V)} {xs : List (List Key × Addr × Value)} (r : KT H kvs xs) (ht : ∀ b ys, H b = some (.tup ys) → H' b = some (.tup ys)) : KT H' kvs xs :=
  Paired.mapP r fun _ _ z => ⟨z.1, ht _ _ z.2.1, z.2.2⟩
section
variable {P : Program} {w : World} {H : Hp} {h : Heap} {a : Addr}
theorem rd_of {u : HO} (ok : HOk P w H h) (e : Rd H a u) : ObjOk P w H h a u := e.ok ok
theorem dk_rd {kvs : List (Key × V)} (ok : HOk P w H h) (e : Rd H a (.dK kvs)) : kvs.length ≤ sizeLine ∧ (a == sysModules) = false ∧ ∃ vs, KV kvs vs ∧ h.DictOf (mixKind P w) a vs :=
  show ObjOk P w H h a (.dK kvs) from rd_of ok e
theorem dk_of {kvs : List (Key × V)} (ok : HOk P w H h) (e : H a = some (.dK kvs)) : kvs.length ≤ sizeLine ∧ (a == sysModules) = false ∧ ∃ vs, KV kvs vs ∧ h.DictOf (mixKind P w) a vs := dk_rd ok (.inl e)
theorem key_of {ks : List Key} (ok : HOk P w H h) (e : H a = some (.tup (ks.map kV))) : (tupleKind (mixKind P w)).is h ks a := by
  obtain ⟨_, its, r, o, h1, h2, n, h3⟩ := (show ObjOk P w H h a (.tup (ks.map kV)) from ok a _ e)
  exact ⟨o, its.toArray, n, h1, h2, h3, by simpa using items_are r⟩
theorem dt_rd {kvs : List (List Key × V)} (ok : HOk P w H h) (e : Rd H a (.dT kvs)) : kvs.length ≤ sizeLine ∧ (a == sysModules) = false ∧
    ∃ xs, KT H kvs xs ∧ h.DictOfH (tupleKind (mixKind P w)) a xs := by
  obtain ⟨z, y, xs, r, o, es, ep, h1, h2, h3, h4, h5⟩ := (show ObjOk P w H h a (.dT kvs) from rd_of ok e)
  refine ⟨z, y, xs, r, o, es, ep, h1, h2, h3, h4, fun x hx => ?_, h5⟩
  have all : ∀ {l : List (List Key × V)} {m : List (List Key × Addr × Value)}, KT H l m → ∀ x ∈ m, (tupleKind (mixKind P w)).is h x.1 x.2.1 := by
    intro l m q
    induction q with
    | nil => intro x hx; exact nomatch hx
    | @cons p q ps qs hq t ih =>
      intro x hx
      rcases List.mem_cons.mp hx with e | hx
      · subst e
        exact key_of ok (by rw [← hq.1]; exact hq.2.1)
      · exact ih x hx
  exact all r x hx
theorem dt_of {kvs : List (List Key × V)} (ok : HOk P w H h) (e : H a = some (.dT kvs)) : kvs.length ≤ sizeLine ∧ (a == sysModules) = false ∧
    ∃ xs, KT H kvs xs ∧ h.DictOfH (tupleKind (mixKind P w)) a xs := dt_rd ok (.inl e)
end
def DGet (H : Hp) (a : Addr) (y : V) (r : Option V) : Prop :=
  (∃ kvs k, Rd H a (.dK kvs) ∧ y = kV k ∧ r = valV kvs k) ∨ ∃ kvs k b, Rd H a (.dT kvs) ∧ y = .ref b ∧ H b = some (.tup (k.map kV)) ∧ r = valV kvs k
def DPut (H : Hp) (a : Addr) (y v : V) (H' : Hp) : Prop :=
  (∃ kvs k, H a = some (.dK kvs) ∧ y = kV k ∧ kvs.length < sizeLine ∧ H' = upd H a (.dK (putK kvs k v))) ∨
  ∃ kvs k b, H a = some (.dT kvs) ∧ y = .ref b ∧ H b = some (.tup (k.map kV)) ∧ kvs.length < sizeLine ∧ H' = upd H a (.dT (putK kvs k v))
theorem DGet.t {H : Hp} {a b : Addr} {kvs : List (List Key × V)} {k : List Key} (e : H a = some (.dT kvs)) (eb : H b = some (.tup (k.map kV))) : DGet H a (.ref b) (valV kvs k) := .inr ⟨kvs, k, b, .inl e, rfl, eb, rfl⟩
theorem DPut.t {H : Hp} {a b : Addr} {kvs : List (List Key × V)} {k : List Key} {v : V} (e : H a = some (.dT kvs)) (eb : H b = some (.tup (k.map kV))) (hl : kvs.length < sizeLine) :
    DPut H a (.ref b) v (upd H a (.dT (putK kvs k v))) := .inr ⟨kvs, k, b, e, rfl, eb, hl, rfl⟩
section
variable {X : Cx} {pins : List (Addr × Obj)} {σ : St} {H : Hp} {s : Shared} {a : Addr} {y v : V} {u r : Value} {o : Option V} {A : Around} {E : Value → Shared → Prop}
theorem Inv.big (I : Inv X pins σ H s) : sysModules < s.heap.objs.size := by
  have h : mainGlobals < s.heap.objs.size := (I.mod.glob.keeps I.bk).lt
  exact Nat.lt_trans (by decide) h
theorem d_getItem {Q : Value → Shared → Prop} (hu : A.units + 1 < cLine) (I : Inv X pins σ H s) (g : DGet H a y (some v)) (ry : RelV y u) (h : ∀ w' s', Inv X pins σ H s' → RelV v w' → Q w' s') :
    wpAny (model X.prog X.w) A (getItem (.ref a) u) Q E s := by
  rcases g with ⟨kvs, k, e, ey, l⟩ | ⟨kvs, k, b, e, ey, eb, l⟩
  · subst ey
    obtain ⟨z, hd, vs, rel, dd⟩ := dk_rd I.hok e
    obtain ⟨w', hw, rw'⟩ := RelO.some_of (v := v) (o := valueAt vs k) (by rw [l]; exact rel.val k)
    exact wpAny_getItem_of (kV_is ry) dd.mapOf hw (h w' _ (I.tok _) rw')
  · subst ey
    cases (show u = Value.ref b from ry)
    obtain ⟨z, hd, xs, rel, dd⟩ := dt_rd I.hok e
    obtain ⟨w', hw, rw'⟩ := RelO.some_of (v := v) (o := (atKey xs k).map (·.2)) (by rw [l]; exact rel.val k)
    obtain ⟨p, hp, hp2⟩ := Option.map_eq_some_iff.mp hw
    refine wpAny_getItem_heap (tupleKind_room_in1 hu) (key_of I.hok eb) dd hp ?_
    rw [hp2]
    exact h w' _ (I.tok _) rw'
theorem d_write {h' : Heap} {t' : Nat} {ob : HO} (I : Inv X pins σ H s) (mu : Mut (H a)) (hs : Heap.SameBut a s.heap h') (he : ∃ q, h'.get? a = some q) (new : ObjOk X.prog X.w (upd H a ob) h' a ob) :
    Inv X pins σ (upd H a ob) { s with heap := h', toks := t' } :=
  I.write (x := a) (e := a) mu (.inl rfl) (fun b q hb z => (hs.2 b hb).trans z) he new
theorem dk_new {P : Program} {w : World} {H' : Hp} {h' : Heap} {kvs : List (Key × V)} {vs : List (Key × Value)} (z : kvs.length ≤ sizeLine) (hd : (a == sysModules) = false) (rel : KV kvs vs) (dd : h'.DictOf (mixKind P w) a vs) :
    ObjOk P w H' h' a (.dK kvs) := ⟨z, hd, vs, rel, dd⟩
theorem d_setItem {H' : Hp} {Q : Unit → Shared → Prop} (hu : A.units + 1 < cLine) (I : Inv X pins σ H s) (g : DPut H a y v H') (ry : RelV y u) (rv : RelV v r) (h : ∀ s', Inv X pins σ H' s' → Q () s') :
    wpAny (model X.prog X.w) A (setItem (.ref a) u r) Q E s := by
  rcases g with ⟨kvs, k, e, ey, l, eH⟩ | ⟨kvs, k, b, e, ey, eb, l, eH⟩
  · subst ey eH
    obtain ⟨z, hd, vs, rel, dd⟩ := dk_of I.hok e
    have hz : vs.length ≤ sizeLine := by rw [← rel.length]; exact z
    have hl : (putK kvs k v).length ≤ sizeLine := by have := length_putK kvs k v; omega
    refine wpAny_setItem_pairs (hsz := hz) (kV_is ry) dd fun h' dd' hs => h _ ?_
    have he : ∃ q, h'.get? a = some q := let ⟨q, _, _, hq, _⟩ := dd'; ⟨q, hq⟩
    exact d_write I (by rw [e]; exact True.intro) hs he (dk_new hl hd (rel.put k rv) dd')
  · subst ey eH
    cases (show u = Value.ref b from ry)
    obtain ⟨z, hd, xs, rel, dd⟩ := dt_of I.hok e
    have hz : xs.length ≤ sizeLine := by rw [← Paired.length rel]; exact z
    have hl : (putK kvs k v).length ≤ sizeLine := by have := length_putK kvs k v; omega
    refine wpAny_setItem_heap (hsz := hz) (tupleKind_room_in1 hu) (key_of I.hok eb) dd fun h' dd' hs => h _ ?_
    obtain ⟨q, es, ep, hq, h2, h3, h4, _, h5⟩ := dd'
    refine d_write I (by rw [e]; exact True.intro) hs ⟨q, hq⟩ ⟨hl, hd, _, (rel.put k eb rv).keeps fun c ys ec => ?_, q, es, ep, hq, h2, h3, h4, h5⟩
    rw [upd_ne (ne_of ec e (fun z => nomatch z))]
    exact ec
end
section
variable {X : Cx} {pins : List (Addr × Obj)} {σ : St} {H : Hp} {s : Shared} {a : Addr} {kvs : List (Key × V)} {k : Key} {u : Value} {A : Around} {E : Value → Shared → Prop}
end
def NoSl (i : Expr) : Prop := ∀ ov iv, subscripted i false ov iv = operate [ov, iv] (getItem ov iv)
theorem subD_of {prog : Program} {w : World} {A : Around} {E : Value → Shared → Prop} {s : Shared} {env : Env} {value slice : Expr} {pos : Pos} {T id : String} {Q : Value → Shared → Prop}
    (hl : typeLookup (.type T) "__getitem__" = pure (some (.builtin id))) (hs : NoSl slice)
    (h : wpAny (model prog w) A (eval value env) (fun o s₁ => wpAny (model prog w) A (eval slice env) (fun i s₂ => s₂.TypeIs o T ∧ wpAny (model prog w) A (getItem o i) Q E s₂) E s₁) E s) :
    wpAny (model prog w) A (eval (.Subscript value slice pos) env) Q E s := by
  refine Subscript_ (wpAny_mono h (fun o s₁ h₁ => wpAny_mono h₁ (fun i s₂ h₂ => ?_) fun _ _ x => x) fun _ _ x => x)
  obtain ⟨hT, h₂⟩ := h₂
  unfold subscriptTail
  refine wpAny_bind ?_
  rw [getitemInPython_of_ne hT.not_modules]
  refine wpAny_bind (wpAny_specialOf hT hl ?_)
  have fin : wpAny (model prog w) A (subscripted slice false o i) (fun r s₃ => wpAny (model prog w) A (letTemporaryGo value o r >>= fun _ => pure r) Q E s₃) E s₂ := by
    rw [hs o i]
    exact wpAny_operating (wpAny_mono h₂ (fun r s₃ h₃ => wpAny_bind (wpAny_letTemporaryGo (wpAny_pure h₃))) fun _ _ x => x)
  first
    | exact wpAny_pure (wpAny_bind fin)
    | exact wpAny_bind (wpAny_pure (wpAny_bind fin))
    | exact wpAny_bind fin
theorem dict_typeIs {X : Cx} {pins : List (Addr × Obj)} {σ : St} {H : Hp} {s : Shared} {a : Addr} {y : V} {o : Option V} (I : Inv X pins σ H s) (g : DGet H a y o) : s.TypeIs (.ref a) "dict" := by
  rcases g with ⟨kvs, k, e, _, _⟩ | ⟨kvs, k, b, e, _, _, _⟩
  · obtain ⟨_, _, vs, _, dd⟩ := dk_rd I.hok e
    exact dd.typeIs
  · obtain ⟨_, _, xs, _, dd⟩ := dt_rd I.hok e
    exact dd.typeIs
def tDGet (td ty : TE) : TE := fun σ H Q => td σ H fun x H1 => ty σ H1 fun y H2 => ∃ a v, x = .ref a ∧ DGet H2 a y (some v) ∧ Q v H2
def tDIn (ty td : TE) : TE := fun σ H Q => ty σ H fun y H1 => td σ H1 fun x H2 => ∃ a o, x = .ref a ∧ DGet H2 a y o ∧ Q (.bl o.isSome) H2
def tDNotIn (ty td : TE) : TE := fun σ H Q => ty σ H fun y H1 => td σ H1 fun x H2 => ∃ a o, x = .ref a ∧ DGet H2 a y o ∧ Q (.bl (!o.isSome)) H2
def sDPut (td ty tv : TE) : TS := fun D σ H => tv σ H fun v H1 => td σ H1 fun x H2 => ty σ H2 fun y H3 => ∃ a H4, x = .ref a ∧ DPut H3 a y v H4 ∧ D.nx σ H4
def sDAug (td ty tv : TE) (rd : V → V → Hp → VK → Prop) : TS := fun D σ H => td σ H fun x H1 => ty σ H1 fun y H2 => ∃ a v, x = .ref a ∧ DGet H2 a y (some v) ∧
  tv σ H2 fun y2 H3 => rd v y2 H3 fun z H4 => ∃ H5, DPut H4 a y z H5 ∧ D.nx σ H5
def sDDel (td ty : TE) : TS := fun D σ H => td σ H fun x H1 => ty σ H1 fun y H2 => ∃ a kvs k, x = .ref a ∧ H2 a = some (.dK kvs) ∧ y = kV k ∧ (valV kvs k).isSome = true ∧ D.nx σ (upd H2 a (.dK (dropK kvs k)))
section
variable {X : Cx} {o i e value : Expr} {pos pos' tpos : Pos} {td ty tv : TE}
theorem pe_dget (hu : X.A.units + 1 < cLine) (ho : PE X o td) (hi : PE X i ty) (hs : NoSl i) : PE X (.Subscript o i pos) (tDGet td ty) := by
  intro pins s σ H Q I h
  refine subD_of PySem.F.slot_dict_getitem.lookup hs (thn (ho pins s σ H _ I h) fun u s1 ⟨x, H1, I1, rx, q1⟩ => thn (hi pins s1 σ H1 _ I1 q1) fun iv s2 ⟨y, H2, I2, ry, a, v, ex, g, q2⟩ => ?_)
  subst ex
  obtain rfl : u = Value.ref a := rx
  exact ⟨dict_typeIs I2 g, d_getItem hu I2 g ry fun w' s3 I3 rw' => ⟨v, H2, I3, rw', q2⟩⟩
theorem ps_dput (hu : X.A.units + 1 < cLine) (ho : PE X o td) (hi : PE X i ty) (hv : PE X value tv) (hs : swapsWith value (some (.Subscript o i pos')) pos.line X.env = pure false) :
    PS X (.Assign [.Subscript o i pos'] value pos) (sDPut td ty tv) := by
  intro pins s σ H D I h
  refine wpAny_Assign_Subscript (thn (hv pins s σ H _ I h) fun r s1 ⟨v, H1, I1, rv, q1⟩ => thn (ho pins s1 σ H1 _ I1 q1) fun u s2 ⟨x, H2, I2, rx, q2⟩ => thn (hi pins s2 σ H2 _ I2 q2) fun iv s3 ⟨y, H3, I3, ry, a, H4, ex, g, q3⟩ => ?_) hs
  subst ex
  obtain rfl : u = Value.ref a := rx
  exact d_setItem hu I3 g ry rv fun s4 I4 => ⟨σ, H4, I4, q3⟩
end
theorem dt_empty {P : Program} {w : World} {H : Hp} (h : Heap) (hb : sysModules < h.objs.size) : ObjOk P w H (h.push { cls := .type "dict", data := .dict #[] }) h.objs.size (.dT []) :=
  ⟨Nat.zero_le _, beq_eq_false_iff_ne.mpr (Ne.symm (Nat.ne_of_lt hb)), [], .nil, _, #[], 0, Heap.get?_push_size _ rfl, ⟨rfl, rfl, rfl⟩, rfl, rfl, List.nodup_nil⟩
def tDNewK : TE := fun _ H Q => ∀ p, H p = none → Q (.ref p) (upd H p (.dK []))
def tDNewT : TE := fun _ H Q => ∀ p, H p = none → Q (.ref p) (upd H p (.dT []))
section
variable {X : Cx} {pos : Pos}
theorem pe_dnewT : PE X (.Dict [] [] pos) tDNewT := fun pins s σ H Q I h =>
  wpAny_Dict_empty ⟨.ref s.heap.objs.size, _, I.laid (a := s.heap.objs.size) (o := .dT []) (t' := s.toks) (fun _ _ q => Heap.get?_push_of_some _ q) (Nat.le_refl _) (dt_empty s.heap I.big), rfl, h _ (I.hok.fresh (Nat.le_refl _))⟩
end
def tPairs : List (TE × TE) → St → Hp → (List (V × V) → Hp → Prop) → Prop
  | [], _, H, Q => Q [] H
  | (tk, tv) :: r, σ, H, Q => tk σ H fun x H1 => tv σ H1 fun y H2 => tPairs r σ H2 fun ps H3 => Q ((x, y) :: ps) H3
abbrev VV : List (V × V) → List (Value × Value) → Prop := Paired fun p q => RelV p.1 q.1 ∧ RelV p.2 q.2
def PPs (X : Cx) (pos : Pos) (keys : List (Option Expr)) (values : List Expr) (trs : List (TE × TE)) : Prop :=
  ∀ (pins : List (Addr × Obj)) (s : Shared) (σ : St) (H : Hp) (Q : List (V × V) → Hp → Prop), Inv X pins σ H s → tPairs trs σ H Q →
    wpAny (model X.prog X.w) X.A (evalPairs (pairTrees keys values X.env pos)) (fun vs s' => ∃ ps H', Inv X pins σ H' s' ∧ VV ps vs ∧ Q ps H') X.xe s
def mergeK (kvs more : List (Key × V)) : List (Key × V) := more.foldl (fun acc kv => putK acc kv.1 kv.2) kvs
def tDisp (trs : List (TE × TE)) : TE := fun σ H Q => ∀ p, H p = none → tPairs trs σ (upd H p (.dK [])) fun ps H2 => H2 p = some (.dK []) ∧ ∃ kvs : List (Key × V), ps = kvs.map (fun kv => (kV kv.1, kv.2)) ∧ kvs.length ≤ 15 ∧ Q (.ref p) (upd H2 p (.dK (mergeK [] kvs)))
structure M1 (X : Cx) (o : Expr) (m : Str) (apos : Pos) (e : Expr) (cpos : Pos) : Prop where
  base : attributeBase o m X.env (eval o X.env) = eval o X.env
  few : ((backTo cpos (starEach [e] X.env)).all (fun x => !x.1) && (backToKw cpos (keywordEach [] X.env)).all (fun x => x.1.isSome)
    && decide (([e] : List Expr).length + ([] : List Keyword).length + (if ([] : List Keyword).isEmpty then 0 else 1) < 30)) = true
  line : (apos.endLine == cpos.line) = true
  trees : backTo cpos (starEach [e] X.env) = [(false, eval e X.env)]
structure M2 (X : Cx) (o : Expr) (m : Str) (apos : Pos) (e f : Expr) (cpos : Pos) : Prop where
  base : attributeBase o m X.env (eval o X.env) = eval o X.env
  few : ((backTo cpos (starEach [e, f] X.env)).all (fun x => !x.1) && (backToKw cpos (keywordEach [] X.env)).all (fun x => x.1.isSome)
    && decide (([e, f] : List Expr).length + ([] : List Keyword).length + (if ([] : List Keyword).isEmpty then 0 else 1) < 30)) = true
  line : (apos.endLine == cpos.line) = true
  trees : backTo cpos (starEach [e, f] X.env) = [(false, eval e X.env), (false, eval f X.env)]
def IsD (H : Hp) (a : Addr) : Prop := (∃ kvs, Rd H a (.dK kvs)) ∨ ∃ kvs, Rd H a (.dT kvs)
section
variable {X : Cx} {pins : List (Addr × Obj)} {σ : St} {H : Hp} {s : Shared} {a : Addr} {y d : V} {u r : Value} {o : Option V} {A : Around} {E : Value → Shared → Prop}
end
def tDGet1 (td ty : TE) : TE := fun σ H Q => td σ H fun x H1 => ∃ a, x = .ref a ∧ IsD H1 a ∧ ty σ H1 fun y H2 => ∃ o, DGet H2 a y o ∧ Q (o.getD .non) H2
def tDGet2 (td ty tx : TE) : TE := fun σ H Q => td σ H fun x H1 => ∃ a, x = .ref a ∧ IsD H1 a ∧ ty σ H1 fun y H2 => tx σ H2 fun z H3 => ∃ o, DGet H3 a y o ∧ Q (o.getD z) H3
def tDPop1 (td ty : TE) : TE := fun σ H Q => td σ H fun x H1 => ∃ a, x = .ref a ∧ IsD H1 a ∧ ty σ H1 fun y H2 => ∃ kvs k v, H2 a = some (.dK kvs) ∧ y = kV k ∧ valV kvs k = some v ∧ Q v (upd H2 a (.dK (dropK kvs k)))
def tDPop2 (td ty tx : TE) : TE := fun σ H Q => td σ H fun x H1 => ∃ a, x = .ref a ∧ IsD H1 a ∧ ty σ H1 fun y H2 => tx σ H2 fun z H3 => ∃ kvs k, H3 a = some (.dK kvs) ∧ y = kV k ∧
  (∀ v, valV kvs k = some v → Q v (upd H3 a (.dK (dropK kvs k)))) ∧ (valV kvs k = none → Q z H3)
section
variable {X : Cx} {o e f : Expr} {apos cpos : Pos} {td ty tx : TE}
end
section
variable {X : Cx} {pins : List (Addr × Obj)} {σ : St} {H : Hp} {s : Shared} {a : Addr} {kvs : List (Key × V)} {A : Around} {E : Value → Shared → Prop}
end
section
variable {X : Cx} {pins : List (Addr × Obj)} {σ : St} {H : Hp} {s : Shared} {a : Addr} {y : V} {u : Value} {A : Around} {E : Value → Shared → Prop}
end
end L2
namespace L2
open PySem PySem.Spec PyProof.Rows
section
variable {X : Cx} {pins : List (Addr × Obj)} {σ : St} {H : Hp} {s : Shared} {d : Addr} {o : Obj} {u v : HO}
end
def Thw (H0 : Hp) (H : Hp) (K : Hp → Prop) : Prop := K H ∨ ∃ d o u, H d = some (.frz o u) ∧ (∀ o w, H0 d ≠ some (.frz o w)) ∧ K (upd H d u)
section
variable {X : Cx}
def tThw (H0 : Hp) (t : TE) : TE := fun σ H Q => t σ H fun v H' => Thw H0 H' (Q v)
end
end L2
namespace L2
open PySem PySem.Spec PyProof.Rows
section
variable {prog : Program} {w : World} {A : Around} {E : Value → Shared → Prop} {s : Shared} {it d : Addr} {i n ep : Nat} {es : Array DictEntry} {o : Obj}
theorem key_next {e : DictEntry} {Q : Option Value → Shared → Prop} (hit : s.heap.IsKeyIter it d i n ep) (hod : s.heap.get? d = some o) (hdd : o.data = .dict es ep) (hn : es.size = n) (hx : es[i]? = some e)
    (hQ : ∀ h', h'.IsKeyIter it d (i + 1) n ep → Heap.SameBut it s.heap h' → Q (some e.key) { s with heap := h' }) : wpAny (model prog w) A (pyNext (.ref it)) Q E s := by
  obtain ⟨oi, hoi, hci, hdi⟩ := id hit
  have T := hit.typeIs
  have own : Builtin.Dict_items.ownsTuple "dict_keyiterator" = false := by decide
  have nn : ¬ ((Value.ref d == Value.none) = true) := fun z => Bool.false_ne_true z
  unfold pyNext; refine wpAny_bind (wpAny_attempt (wpAny_callSpecial?_slot (name := Str.ofString "__next__") T F.slot_dict_keyiterator_next (wpAny_call_entry F.slot_dict_keyiterator_next T F.entry_dict_keyiterator_next ?_ (F.args_dict_keyiterator_next_1 _))))
  refine wpAny_bind (wpAny_pure (wpAny_bind (wpAny_bind ?_))); refine wpAny_bind (wpAny_typeNameOfWhole_keyiter T (wpAny_pure (wpAny_bind (wpAny_fieldsOf hoi hdi ?_))))
  simp only [own, Bool.false_eq_true, if_false]; show wpAny _ _ (if (Value.ref d == Value.none) = true then _ else _) _ _ s; rw [if_neg nn]
  refine wpAny_bind (wpAny_pure (wpAny_bind (wpAny_dictEntries hod hdd ?_))); rw [if_neg (by rw [hn]; simp)]
  refine wpAny_bind (wpAny_pure (wpAny_bind (wpAny_dictEpoch hod hdd ?_))); rw [if_neg (by simp)]
  have lt : ¬ ((i : Int) < 0) := by omega
  refine wpAny_pure ?_; simp only [lt, if_false, Int.toNat_natCast, hx]
  refine wpAny_bind (wpAny_bind (wpAny_typeNameOfWhole_keyiter T (wpAny_pure (wpAny_bind (wpAny_isOneOf_keyiter T ?_)))))
  show wpAny _ _ (setField (.ref it) 1 (rawInt ((i : Int) + 1)) >>= _) _ _ s; refine wpAny_bind (wpAny_setField hoi hdi (by simp) ?_)
  have hit' : (s.heap.update it (Obj.mapFields (·.setIfInBounds 1 (rawInt ((i : Int) + 1))))).IsKeyIter it d (i + 1) n ep := ⟨_, Heap.get?_update_self _ hoi (Obj.isFreed_of_fields (Obj.data_mapFields hdi _)), (Obj.cls_mapFields ..).trans hci, by rw [Obj.data_mapFields hdi]; simp [rawInt]⟩
  have T' : Shared.TypeIs { s with heap := s.heap.update it (Obj.mapFields (·.setIfInBounds 1 (rawInt ((i : Int) + 1)))) } (.ref it) "dict_keyiterator" := hit'.typeIs
  refine wpAny_bind (wpAny_holding (wpAny_bind (wpAny_isOneOf_keyiter T' ?_))); show wpAny _ _ (pure e.key) _ _ _
  exact wpAny_pure (wpAny_pure ⟨_, rfl, wpAny_pure (hQ _ hit' (Heap.SameBut.update ..))⟩)
theorem stop_end {A' : Around} {Q : Option Value → Shared → Prop} {E' : Value → Shared → Prop} (hh : A'.handled = none) (hQ : ∀ h', (∀ b o, s.heap.get? b = some o → h'.get? b = some o) → Q none { s with heap := h' }) {P : Fin → Shared → Prop} :
    wpAny (model prog w) A' (newExc (.type "StopIteration") [] >>= fun e => raiseNew e) P (fun e s' => wpAny (model prog w) A (do if (← isInstance e (.type "StopIteration")) = true then pure none else throw e) Q E' s') s := by
  refine wpAny_bind ?_
  simp only [newExc, newTuple]; refine wpAny_bind (wpAny_newObj_type (wpAny_bind (m := firstArgMember _ _) (wpAny_of_eq (a := Value.none) (by first | rfl | (simp only [firstArgMember]; rfl)) (wpAny_newObj_type ?_ (by size_fits)))) (by size_fits))
  simp only [raiseNew]; refine wpAny_bind (wpAny_handled ?_); rw [hh]
  refine wpAny_bind (wpAny_pure (wpAny_throw ?_))
  have sub := isSubtype_stop; refine wpAny_bind (wpAny_isInstance (T := "StopIteration") (b := true) ⟨_, Heap.get?_push_size _ rfl, rfl⟩ sub ?_)
  exact wpAny_pure (hQ _ fun b o e => Heap.get?_push_of_some _ (Heap.get?_push_of_some _ e))
theorem key_end {Q : Option Value → Shared → Prop} (hh : A.handled = none) (hit : s.heap.IsKeyIter it d i n ep) (hod : s.heap.get? d = some o) (hdd : o.data = .dict es ep) (hn : es.size = n) (hx : n ≤ i)
    (hQ : ∀ h', Heap.ExtBut it s.heap h' → Q none { s with heap := h' }) : wpAny (model prog w) A (pyNext (.ref it)) Q E s := by
  obtain ⟨oi, hoi, hci, hdi⟩ := id hit
  have T := hit.typeIs
  have own : Builtin.Dict_items.ownsTuple "dict_keyiterator" = false := by decide
  have nn : ¬ ((Value.ref d == Value.none) = true) := fun z => Bool.false_ne_true z
  unfold pyNext; refine wpAny_bind (wpAny_attempt (wpAny_callSpecial?_slot (name := Str.ofString "__next__") T F.slot_dict_keyiterator_next (wpAny_call_entry F.slot_dict_keyiterator_next T F.entry_dict_keyiterator_next ?_ (F.args_dict_keyiterator_next_1 _))))
  refine wpAny_bind (wpAny_pure (wpAny_bind (wpAny_bind ?_))); refine wpAny_bind (wpAny_typeNameOfWhole_keyiter T (wpAny_pure (wpAny_bind (wpAny_fieldsOf hoi hdi ?_))))
  simp only [own, Bool.false_eq_true, if_false]; show wpAny _ _ (if (Value.ref d == Value.none) = true then _ else _) _ _ s; rw [if_neg nn]
  refine wpAny_bind (wpAny_pure (wpAny_bind (wpAny_dictEntries hod hdd ?_))); rw [if_neg (by rw [hn]; simp)]
  refine wpAny_bind (wpAny_pure (wpAny_bind (wpAny_dictEpoch hod hdd ?_))); rw [if_neg (by simp)]
  have lt : ¬ ((i : Int) < 0) := by omega
  have hx' : es[i]? = none := Array.getElem?_eq_none (by omega)
  refine wpAny_pure ?_; simp only [lt, if_false, Int.toNat_natCast, hx']
  refine wpAny_bind (wpAny_bind (wpAny_typeNameOfWhole_keyiter T (wpAny_pure ?_)))
  show wpAny _ _ (setField (.ref it) 0 .none >>= _) _ _ s; refine wpAny_bind (wpAny_setField hoi hdi (by simp) ?_)
  refine stop_end (A := A) (A' := A.in1) (E' := E) hh fun h' k => ?_
  exact hQ h' fun b o hb e => k b o ((Heap.SameBut.update ..).extBut b o hb e)
end
end L2
namespace L2
open PySem PySem.Spec PyProof.Rows
theorem Paired.at' {α β : Type} {F : α → β → Prop} : ∀ {l : List α} {m : List β}, Paired F l m → ∀ {i : Nat} {a : α}, l[i]? = some a → ∃ b, m[i]? = some b ∧ F a b
  | _, _, .nil, i, a, h => by simp at h
  | _, _, .cons r _, 0, a, h => by simp at h; subst h; exact ⟨_, rfl, r⟩
  | _, _, .cons _ t, i + 1, a, h => by
    rw [List.getElem?_cons_succ] at h
    obtain ⟨b, h1, h2⟩ := Paired.at' t h
    exact ⟨b, by rw [List.getElem?_cons_succ]; exact h1, h2⟩
def FzD (H : Hp) (d : Addr) (o : Obj) (kvs : List (List Key × V)) : Prop := H d = some (.frz o (.dT kvs))
def ItK (d : Addr) (o : Obj) (kvs : List (List Key × V)) : It :=
  ⟨fun i H => FzD H d o kvs ∧ i < kvs.length, fun i H x H' => H' = H ∧ ∃ b k v, kvs[i]? = some (k, v) ∧ H b = some (.tup (k.map kV)) ∧ x = .ref b, fun i H => FzD H d o kvs ∧ kvs.length ≤ i⟩
def ItI (d : Addr) (o : Obj) (kvs : List (List Key × V)) : It :=
  ⟨fun i H => FzD H d o kvs ∧ i < kvs.length, fun i H x H' => ∃ p b k v, H p = none ∧ kvs[i]? = some (k, v) ∧ H b = some (.tup (k.map kV)) ∧ x = .ref p ∧ H' = upd H p (.tup [.ref b, v]), fun i H => FzD H d o kvs ∧ kvs.length ≤ i⟩
section
variable {X : Cx} {pins : List (Addr × Obj)} {σ : St} {H : Hp} {s : Shared} {d : Addr} {o : Obj} {kvs : List (List Key × V)} {es : Array DictEntry} {ep : Nat}
end
end L2
namespace L2
open PySem PySem.Spec PyProof.Rows
section
variable {prog : Program} {w : World} {A : Around} {E : Value → Shared → Prop} {s : Shared} {d : Addr} {ep : Nat} {es : Array DictEntry} {o : Obj}
theorem dict_iter {Q : Value → Shared → Prop} (hs : (d == sysModules) = false) (T : s.TypeIs (.ref d) "dict") (ho : s.heap.get? d = some o) (hdd : o.data = .dict es ep)
    (hQ : Q (.ref s.heap.objs.size) { s with heap := s.heap.push { cls := .type "dict_keyiterator", data := .fields #[.ref d, .int 0 0, .int es.size 0, .int ep 0] } }) : wpAny (model prog w) A (pyIter (.ref d)) Q E s := by
  refine wpAny_pyIter_slot T F.slot_dict_iter (wpAny_call_entry F.slot_dict_iter T F.entry_dict_iter ?_ (F.args_dict_iter_1 _))
  unfold Builtin.«dict.__iter__»; refine wpAny_bind ?_; unfold Builtin.Dict.dictSlotNone; refine wpAny_bind (wpAny_notOrdered_dict T (wpAny_pure ?_))
  have no : ¬ ((d == sysModules) = true) := by rw [hs]; exact Bool.false_ne_true
  show wpAny _ _ (Builtin.Dict.showsAll d >>= _) _ _ s; unfold Builtin.Dict.showsAll; rw [if_neg no]
  refine wpAny_bind (wpAny_pure (wpAny_bind (wpAny_dictEntries ho hdd (wpAny_bind (wpAny_dictEpoch ho hdd ?_)))))
  exact wpAny_bind (wpAny_newObj_type (wpAny_pure ⟨_, rfl, "dict_keyiterator", _, ⟨_, Heap.get?_push_size _ rfl, rfl⟩, F.slot_dict_keyiterator_next.lookup, hQ⟩))
end
def iDictK (td : TE) : TI := fun σ H R => td σ H fun x H1 => ∃ d kvs, x = .ref d ∧ Rd H1 d (.dT kvs) ∧ ∀ o, R (ItK d o kvs) (upd H1 d (.frz o (.dT kvs)))
def iDictI (td : TE) : TI := fun σ H R => td σ H fun x H1 => ∃ d kvs, x = .ref d ∧ Rd H1 d (.dT kvs) ∧ ∀ o, R (ItI d o kvs) (upd H1 d (.frz o (.dT kvs)))
section
variable {X : Cx} {tg : Expr} {pins : List (Addr × Obj)} {σ : St} {H : Hp} {s : Shared} {d : Addr} {kvs : List (List Key × V)}
end
end L2
namespace L2
open PySem PySem.Spec PyProof.Rows
section
variable {prog : Program} {w : World} {κ : Type} [DecidableEq κ] {knd : HeapKind prog w κ} {A : Around} {E : Value → Shared → Prop} {s : Shared}
inductive HHits (A : Around) (s : Shared) (ys : List (κ × Addr × Value)) : List (κ × Addr × Value) → Bool → Prop
  | nil : HHits A s ys [] true
  | miss {x : κ × Addr × Value} {r : List (κ × Addr × Value)} : atKey ys x.1 = none → HHits A s ys (x :: r) false
  | hit {x : κ × Addr × Value} {p : Addr × Value} {r : List (κ × Addr × Value)} {e c : Bool} : atKey ys x.1 = some p → SeqAt.EqAt A s x.2.2 p.2 e → HHits A s ys r c → HHits A s ys (x :: r) (e && c)
theorem HHits.inv {ys : List (κ × Addr × Value)} {x : κ × Addr × Value} {r : List (κ × Addr × Value)} {c : Bool} (h : HHits A s ys (x :: r) c) :
    (atKey ys x.1 = none ∧ c = false) ∨ ∃ p e c', atKey ys x.1 = some p ∧ SeqAt.EqAt A s x.2.2 p.2 e ∧ HHits A s ys r c' ∧ c = (e && c') := by
  cases h with
  | miss a => exact .inl ⟨a, rfl⟩
  | hit a b c => exact .inr ⟨_, _, _, a, b, c, rfl⟩
theorem same_pairs {nm : String} {a b : Addr} {xs ys : List (κ × Addr × Value)} {r : Bool} {Q : Bool → Shared → Prop} (hu : knd.room A) (ha : (a == sysModules) = false) (hb : (b == sysModules) = false) (da : s.heap.DictOfH knd a xs) (db : s.heap.DictOfH knd b ys)
    (hits : xs.length = ys.length → HHits A s ys xs r) (h : Q (xs.length == ys.length && r) s) : wpAny (model prog w) A (Builtin.Dict.samePairs nm a b) Q E s := by
  obtain ⟨oa, ea, pa, ga, _, ta, la, ka, na⟩ := da
  obtain ⟨ob, eb, pb, gb, _, tb, lb, kb, nb⟩ := db
  have za : ea.size = xs.length := size_of_entries la
  have zb : eb.size = ys.length := size_of_entries lb
  have no1 : ¬ ((a == sysModules) = true) := by rw [ha]; exact Bool.false_ne_true
  have no2 : ¬ ((b == sysModules) = true) := by rw [hb]; exact Bool.false_ne_true
  unfold Builtin.Dict.samePairs Builtin.Dict.showsAll; rw [if_neg no1, if_neg no2]
  refine wpAny_bind (wpAny_pure (wpAny_bind (wpAny_pure (wpAny_bind (wpAny_dictEntries ga ta ?_))))); dsimp only; refine wpAny_bind (wpAny_dictEntries gb tb ?_)
  by_cases hz : xs.length = ys.length
  case neg =>
    have q1 : (ea.size != eb.size) = true := by rw [za, zb]; simpa using hz
    have q2 : (xs.length == ys.length) = false := by simpa using hz
    rw [if_pos q1]; rw [q2, Bool.false_and] at h
    exact wpAny_bind (wpAny_rule (wpAny_pure h))
  have q1 : ¬ ((ea.size != eb.size) = true) := by rw [za, zb, hz]; simp
  have h' : Q r s := by simpa [hz] using h
  rw [if_neg q1]; refine wpAny_bind (wpAny_dictEpoch ga ta (wpAny_bind ?_)); rw [Std.Legacy.Range.forIn_eq_forIn_range']; simp only [Std.Legacy.Range.size, Nat.sub_zero, Nat.add_sub_cancel, Nat.div_one]
  refine wpAny_forIn_list _ (fun rest c s' => s' = s ∧ c = (none, ()) ∧ ∃ i, rest = List.range' i (ea.size - i) ∧ i ≤ ea.size ∧ HHits A s ys (xs.drop i) r) _ ?_ ?_ _ _ ⟨rfl, rfl, 0, by simp, Nat.zero_le _, hits hz⟩
  · rintro x rest c s' ⟨rfl, rfl, i, er, hi, hp⟩
    have lt : i < ea.size := Nat.lt_of_not_le fun z => by rw [Nat.sub_eq_zero_of_le z] at er; simp at er
    have es : ea.size - i = (ea.size - (i + 1)) + 1 := by omega
    rw [es, List.range'_succ] at er; injection er with e1 e2; subst e1
    have lx : x < xs.length := by omega
    have ex : ea[x]? = some (entryOfKey knd xs[x]) := by rw [entry_at la x, List.getElem?_eq_getElem lx]; rfl
    have dr : xs.drop x = xs[x] :: xs.drop (x + 1) := List.drop_eq_getElem_cons lx
    refine wpAny_bind (wpAny_dictEntries ga ta ?_); rw [ex]; rw [dr] at hp
    show wpAny _ _ (holding [Value.ref xs[x].2.1, xs[x].2.2] _ >>= _) _ _ _
    refine wpAny_bind (wpAny_holding (wpAny_bind (wpAny_dictFind_heap hu (ka _ (List.getElem_mem lx)) gb tb lb kb nb (fun no => ?_) fun j p hj => ?_)))
    · rcases hp.inv with ⟨_, er⟩ | ⟨p, _, _, hy, _⟩
      · rw [er] at h'; refine wpAny_pure ?_; show wpAny _ _ (if (!false) = true then _ else _) _ _ _; rw [if_pos (by decide)]; exact wpAny_pure (wpAny_pure h')
      · rw [atKey_none_of_get no] at hy; cases hy
    · have lj : eb[j]? = some (entryOfKey knd (xs[x].1, p)) := by rw [entry_at lb j, hj]; rfl
      refine wpAny_bind (wpAny_dictEntries gb tb ?_); rw [lj]
      rcases hp.inv with ⟨hn, _⟩ | ⟨p', e, c', hy, he, hr, er⟩
      · rw [atKey_of_get nb hj] at hn; cases hn
      rw [atKey_of_get nb hj] at hy; injection hy with hy; subst hy
      refine wpAny_holding (he prog w _ _ ?_)
      cases e with
      | false => rw [er, Bool.false_and] at h'; show wpAny _ _ (if (!false) = true then _ else _) _ _ _; rw [if_pos (by decide)]; exact wpAny_pure (wpAny_pure h')
      | true =>
        rw [Bool.true_and] at er; rw [← er] at hr
        show wpAny _ _ (if (!true) = true then _ else _) _ _ _; rw [if_neg (by decide)]; refine wpAny_bind (wpAny_dictEpoch ga ta ?_); rw [if_neg (by simp)]
        exact wpAny_pure ⟨rfl, rfl, x + 1, e2, lt, hr⟩
  · rintro c s' ⟨rfl, rfl, i, er, hi, hp⟩
    have ei : i = ea.size := Nat.le_antisymm hi (Nat.le_of_not_lt fun z => by
      have es : ea.size - i = (ea.size - (i + 1)) + 1 := by omega
      rw [es, List.range'_succ] at er; cases er)
    refine wpAny_pure ?_; rw [ei, za, List.drop_length] at hp; cases hp; exact h'
theorem dict_eqH {a b : Addr} {xs ys : List (κ × Addr × Value)} {r : Bool} {Q : Value → Shared → Prop} (hu : knd.room A.in1) (hc : A.units < cLine) (ha : (a == sysModules) = false) (hb : (b == sysModules) = false) (da : s.heap.DictOfH knd a xs) (db : s.heap.DictOfH knd b ys)
    (hits : xs.length = ys.length → HHits A.in1 s ys xs r) (h : Q (.bool (xs.length == ys.length && r)) s) : wpAny (model prog w) A (compareOp .Eq (.ref a) (.ref b)) Q E s := by
  refine wpAny_richCompare_same_room (op := .Eq) da.typeIs db.typeIs PySem.F.slot_dict_eq (wpAny_call_entry PySem.F.slot_dict_eq da.typeIs PySem.F.entry_dict_eq ?_ (PySem.F.args_dict_eq_2 _ _)) hc
  show wpAny _ _ (Builtin.Dict.dictSlotArgs "__eq__" ⟨[.ref a, .ref b], []⟩ >>= _) _ _ s; refine wpAny_bind ?_; unfold Builtin.Dict.dictSlotArgs; refine wpAny_bind (wpAny_notOrdered_dict da.typeIs (wpAny_pure ?_))
  refine wpAny_bind (wpAny_isInstance (T := "dict") db.typeIs PySem.F.sub_dict_dict ?_); simp only [Bool.not_true, Bool.false_eq_true, if_false]
  refine wpAny_bind (wpAny_pure (wpAny_bind (wpAny_pure (wpAny_bind (same_pairs hu ha hb da db hits (wpAny_pure ⟨_, rfl, (fun x => nomatch x), ?_⟩))))))
  simpa using h
end
end L2
namespace L2
open PySem PySem.Spec PyProof.Rows
def KDs (K : PySem.W.Frag) (H : Hp) : List (List Key × V) → List (List Key × PyData) → Prop := Paired fun p q => p.1 = q.1 ∧ Rds K H p.2 q.2
def findKD (ys : List (List Key × PyData)) (k : List Key) : Option PyData := (ys.find? fun q => decide (q.1 = k)).map (·.2)
def eqKD (xs ys : List (List Key × PyData)) : Bool := xs.length == ys.length && xs.all fun p => match findKD ys p.1 with | some d => PyData.eqv p.2 d | none => false
def Flats (xs : List (List Key × PyData)) : Prop := ∀ p ∈ xs, p.2.canLay0 = true ∧ p.2.depth ≤ 60
section
variable {X : Cx} {pins : List (Addr × Obj)} {σ : St} {H : Hp} {s : Shared}
theorem at_findKD (I : Inv X pins σ H s) : ∀ {kb : List (List Key × V)} {ys : List (List Key × Addr × Value)} {db : List (List Key × PyData)}, KT H kb ys → KDs X.K H kb db → Flats db → ∀ k : List Key,
    (atKey ys k = none ∧ findKD db k = none) ∨ ∃ p d as, atKey ys k = some p ∧ findKD db k = some d ∧ Reads s.heap p.2 d as ∧ d.canLay0 = true ∧ d.depth ≤ 60
  | _, _, _, .nil, .nil, _, _ => .inl ⟨rfl, rfl⟩
  | _, _, _, .cons (a := a) (b := b) r t, .cons (b := c) q u, fl, k => by
    obtain ⟨r1, r2, r3⟩ := r
    obtain ⟨q1, q2⟩ := q
    by_cases e : a.1 = k
    · have e1 : b.1 = k := r1.symm.trans e
      have e2 : c.1 = k := q1.symm.trans e
      obtain ⟨as, rd⟩ := I.rds q2 r3
      obtain ⟨f1, f2⟩ := fl c (.head _)
      exact .inr ⟨b.2, c.2, as, by simp [atKey, List.find?_cons, e1], by simp [findKD, List.find?_cons, e2], rd, f1, f2⟩
    · have e1 : ¬ b.1 = k := fun z => e (r1.trans z)
      have e2 : ¬ c.1 = k := fun z => e (q1.trans z)
      have z1 : ∀ l, atKey (b :: l) k = atKey l k := fun l => by simp [atKey, List.find?_cons, e1]
      have z2 : ∀ l, findKD (c :: l) k = findKD l k := fun l => by simp [findKD, List.find?_cons, e2]
      rw [z1, z2]
      exact at_findKD I t u (fun p hp => fl p (.tail _ hp)) k
theorem hits_of {A : Around} (hu : A.units + 61 < cLine) (I : Inv X pins σ H s) {kb : List (List Key × V)} {ys : List (List Key × Addr × Value)} {db : List (List Key × PyData)} (tb : KT H kb ys) (qb : KDs X.K H kb db) (fb : Flats db) :
    ∀ {ka : List (List Key × V)} {xs : List (List Key × Addr × Value)} {da : List (List Key × PyData)}, KT H ka xs → KDs X.K H ka da → Flats da → HHits A s ys xs (da.all fun p => match findKD db p.1 with | some d => PyData.eqv p.2 d | none => false)
  | _, _, _, .nil, .nil, _ => .nil
  | _, _, _, .cons (a := a) (b := b) r t, .cons (b := c) q u, fl => by
    obtain ⟨r1, r2, r3⟩ := r
    obtain ⟨q1, q2⟩ := q
    have ih := hits_of hu I tb qb fb t u fun p hp => fl p (.tail _ hp)
    obtain ⟨as, rd⟩ := I.rds q2 r3
    obtain ⟨f1, f2⟩ := fl c (.head _)
    rw [List.all_cons]
    rcases at_findKD I tb qb fb b.1 with ⟨h1, h2⟩ | ⟨p, d, bs, h1, h2, h3, h4, h5⟩
    · rw [← r1, q1] at h2; rw [h2]; exact .miss h1
    · rw [← r1, q1] at h2; rw [h2]
      refine .hit h1 (SeqAt.eqAt_reads c.2 d A s _ _ as bs rd h3 f1 h4 ?_) ih
      have := Nat.min_le_left c.2.depth d.depth
      omega
end
def rEqDT (K : PySem.W.Frag) (neg : Bool) : R2 := fun x y H Q => ∃ (a b : Addr) (ka kb : List (List Key × V)) (da db : List (List Key × PyData)), x = .ref a ∧ y = .ref b ∧ Rd H a (.dT ka) ∧ Rd H b (.dT kb) ∧ KDs K H ka da ∧ KDs K H kb db ∧ Flats da ∧ Flats db ∧ Q (.bl (xor neg (eqKD da db))) H
section
variable {X : Cx}
theorem op_eqDT (hu : X.A.units + 64 < cLine) : OpR X (compareOp .Eq) (rEqDT X.K false) := by
  intro pins s σ H x y u v Q I rx ry h
  obtain ⟨a, b, ka, kb, da, db, rfl, rfl, ha, hb, qa, qb, fa, fb, q⟩ := h
  cases rx
  cases ry
  obtain ⟨_, sa, xs, ta, ea⟩ := dt_rd I.hok ha
  obtain ⟨_, sb, ys, tb, eb⟩ := dt_rd I.hok hb
  have lx : xs.length = da.length := (Paired.length ta).symm.trans (Paired.length qa)
  have ly : ys.length = db.length := (Paired.length tb).symm.trans (Paired.length qb)
  refine dict_eqH (knd := tupleKind (mixKind X.prog X.w)) (tupleKind_room_in1 (by omega)) (by omega) sa sb ea eb (fun _ => hits_of (by show X.A.units + 1 + 61 < cLine; omega) I tb qb fb ta qa fa) ⟨.bl _, H, I, rfl, ?_⟩
  rw [lx, ly]
  have : (false ^^ eqKD da db) = eqKD da db := Bool.false_xor _
  rw [this] at q
  exact q
def rDClear : V → List V → Hp → VK → Prop := fun x vs H Q => ∃ d kvs, x = .ref d ∧ vs = [] ∧ H d = some (.dT kvs) ∧ Q .non (upd H d (.dT []))
def tDisp1 (tk tv : TE) : TE := fun σ H Q => ∀ p, H p = none → tk σ (upd H p (.dT [])) fun x H1 => tv σ H1 fun y H2 => ∃ b ks, x = .ref b ∧ H2 p = some (.dT []) ∧ H2 b = some (.tup (ks.map kV)) ∧ Q (.ref p) (upd H2 p (.dT [(ks, y)]))
end
end L2
namespace L2
open PySem PySem.Spec PyProof.Rows
def pickS (x : Str) (lo hi : Option Int) : List Nat := Builtin.Str.strSliceIndices lo hi 1 x.length
def cutS (x : Str) (lo hi : Option Int) : Str := if ((pickS x lo hi).length == x.length) = true then x else ⟨((pickS x lo hi).filterMap (x.cps[·]?)).toArray⟩
def rSlS : V → Option Int → Option Int → Hp → VK → Prop := fun x lo hi H Q => ∃ z, x = .str z ∧ (cutS z lo hi).length ≤ sizeLine ∧ Q (.str (cutS z lo hi)) H
section
variable {X : Cx}
theorem sl_str : SlR X rSlS := by
  intro pins s σ H x v vl vu lo hi sl Q I rx hs pl pu h
  obtain ⟨z, rfl, hz, q⟩ := h
  obtain ⟨t, rfl⟩ := rx
  refine ⟨"str", _, F.slot_str_getitem.lookup, typeIs_str _ z t, ?_⟩
  obtain ⟨l, el, e1⟩ : ∃ l : Option (Int × Tok), vl = partValue l ∧ l.map (·.1) = lo := by
    cases pl with
    | none => exact ⟨none, rfl, rfl⟩
    | int i t => exact ⟨some (i, t), rfl, rfl⟩
  obtain ⟨u, eu, e2⟩ : ∃ u : Option (Int × Tok), vu = partValue u ∧ u.map (·.1) = hi := by
    cases pu with
    | none => exact ⟨none, rfl, rfl⟩
    | int i t => exact ⟨some (i, t), rfl, rfl⟩
  subst el eu e1 e2
  refine wpAny_getItem_str_slice (l := l) (u := u) (st := none) hs rfl ?_
  have ep : slicePicked z l u none = pickS z (l.map (·.1)) (u.map (·.1)) := rfl
  unfold sliceMade
  rw [ep]
  unfold cutS at q hz
  by_cases c : ((pickS z (l.map (·.1)) (u.map (·.1))).length == z.length) = true
  · rw [if_pos c] at q
    rw [if_pos (by simpa using c)]
    exact ⟨.str z, H, I, ⟨t, rfl⟩, q⟩
  · rw [if_neg c] at q hz
    rw [if_neg (by simpa using c)]
    exact ⟨hz, .str _, H, I.tok _, ⟨_, rfl⟩, q⟩
def rRepT (K : PySem.W.Frag) : R2 := fun x y H Q => ∃ (a : Addr) (xs : List V) (n : Int), x = .ref a ∧ y = .int n ∧ SqT K H a xs ∧ xs ≠ [] ∧ 1 ≤ n ∧ n ≤ 1000 ∧ xs.length * n.toNat ≤ 1000 ∧
  (n = 1 → Q (.ref a) H) ∧ (2 ≤ n → ∀ p, H p = none → Q (.ref p) (upd H p (.tup (List.replicate n.toNat xs).flatten)))
end
def Ends.thw (H0 : Hp) (D : Ends) : Ends := { D with nx := fun σ H => Thw H0 H (D.nx σ), rt := fun v H => Thw H0 H (D.rt v) }
section
variable {X : Cx} {st : Stmt} {ss : List Stmt} {t : TS}
end
end L2
namespace L2
open PySem PySem.Spec PyProof.Rows
section
variable {prog : Program} {w : World} {A : Around} {E : Value → Shared → Prop} {s : Shared}
end
section
variable {X : Cx}
def upFrom (lo : Int) (n : Nat) : List Int := (List.range n).map fun i : Nat => lo + (i : Int)
def rRange2 : List V → Hp → VK → Prop := fun xs H Q => ∃ i j : Int, xs = [.int i, .int j] ∧ ∀ p, H p = none → Q (.ref p) (upd H p (.rng i j))
def rTupRng : List V → Hp → VK → Prop := fun xs H Q => ∃ (p : Addr) (lo hi : Int), xs = [.ref p] ∧ H p = some (.rng lo hi) ∧ -1000 ≤ lo ∧ lo ≤ 1000 ∧ -1000 ≤ hi ∧ hi ≤ 1000 ∧ ∀ l, H l = none → Q (.ref l) (upd H l (.tup ((upFrom lo (hi - lo).toNat).map V.int)))
end
end L2
set_option Elab.async false
set_option linter.all false
set_option maxRecDepth 100000
namespace L2
open PySem PySem.Spec PyProof.Rows
section
variable {prog : Program} {w : World} {κ : Type} [DecidableEq κ] {knd : HeapKind prog w κ} {A : Around} {E : Value → Shared → Prop} {s : Shared}
end
section
variable {X : Cx}
def rDPop : V → List V → Hp → VK → Prop := fun x vs H Q => ∃ d b kvs k v, x = .ref d ∧ vs = [.ref b] ∧ H d = some (.dT kvs) ∧ H b = some (.tup (k.map kV)) ∧ valV kvs k = some v ∧ Q v (upd H d (.dT (dropK kvs k)))
end
section
variable {prog : Program} {w : World} {κ : Type} [DecidableEq κ] {knd : HeapKind prog w κ} {A : Around} {E : Value → Shared → Prop} {s : Shared}
end
end L2
namespace L2
open PySem PySem.Spec PyProof.Rows
def tTry2 (K : PySem.W.Frag) (c1 c2 : Value) (tb : (St → XK) → TS) (th1 th2 : TS) : TS := fun D σ H => tb (fun σ' cls _ H' => (PySem.W.exmOne K cls c1 = some true ∧ th1 D σ' H') ∨ (PySem.W.exmOne K cls c1 = some false ∧ PySem.W.exmOne K cls c2 = some true ∧ th2 D σ' H')) D σ H
end L2
namespace L2
open PySem PySem.Spec PyProof.Rows
def rCatA (K : PySem.W.Frag) : R2 := fun x y H Q => ∃ a b xs ys, x = .ref a ∧ y = .ref b ∧ SqT K H a xs ∧ SqT K H b ys ∧ xs.length + ys.length ≤ sizeLine ∧
  (xs = [] → Q (.ref b) H) ∧ (xs ≠ [] → ys = [] → Q (.ref a) H) ∧ (xs ≠ [] → ys ≠ [] → ∀ p, H p = none → Q (.ref p) (upd H p (.tup (xs ++ ys))))
end L2
namespace L2
open PySem PySem.Spec PyProof.Rows
def hsI (xs : List Int) : Int := reduceHash (Builtin.Tuple.tupleHashOf (xs.map hashInt))
theorem nd_filter_one {α : Type} {f : α → Int} : ∀ {l : List α} {e : α}, (l.map f).Nodup → e ∈ l → (l.filter fun x => f x == f e).length ≤ 1
  | [], e, _, h => by cases h
  | x :: l, e, hn, h => by
    rw [List.map_cons, List.nodup_cons] at hn
    rw [List.filter_cons]
    by_cases q : f x = f e
    · have z : (l.filter fun y => f y == f e) = [] := by
        rw [List.filter_eq_nil_iff]
        intro y hy hb
        exact hn.1 (List.mem_map.mpr ⟨y, hy, (beq_iff_eq.mp hb).trans q.symm⟩)
      rw [if_pos (beq_iff_eq.mpr q), z]; exact Nat.le_refl 1
    · rw [if_neg (fun z => q (beq_iff_eq.mp z))]
      refine nd_filter_one hn.2 ?_
      rcases List.mem_cons.mp h with z | z
      · exact absurd (congrArg f z.symm) q
      · exact z
section
variable {prog : Program} {w : World} {κ : Type} [DecidableEq κ] {kk : KeyKind prog w κ} {A : Around} {E : Value → Shared → Prop} {s : Shared}
theorem quiet_tuple {a : Addr} {Q : Bool → Shared → Prop} (hT : s.TypeIs (.ref a) "tuple") (h : Q false s) : wpAny (model prog w) A (Builtin.Dict.quietEq (.ref a)) Q E s := by
  unfold Builtin.Dict.quietEq
  refine wpAny_bind (wpAny_specialOf hT F.slot_tuple_eq.lookup (wpAny_pure ?_))
  exact h
theorem forEmpty_H {nm : String} {o : Addr} {ob : Obj} {es : Array DictEntry} {ep : Nat} {xs : List (List κ × Addr × Value)} {Q : Array DictEntry → Shared → Prop} (hob : s.heap.get? o = some ob) (hdt : ob.data = .dict es ep)
    (he : es.toList = xs.map (entryOfKey (tupleKind kk))) (hk : ∀ x ∈ xs, (tupleKind kk).is s.heap x.1 x.2.1) (hn : (xs.map fun x => (tupleKind kk).hash x.1).Nodup) (h : Q es s) : wpAny (model prog w) A (Builtin.Dict.entriesForEmpty nm o) Q E s := by
  unfold Builtin.Dict.entriesForEmpty
  refine wpAny_bind (wpAny_dictEntries hob hdt ?_)
  refine wpAny_bind ?_
  rw [← Array.forIn_toList]
  have hn' : (es.toList.map (·.hash)).Nodup := by rw [he, List.map_map]; exact hn
  refine wpAny_forIn_list _ (fun rest (_ : PUnit) s' => s' = s ∧ ∀ e ∈ rest, e ∈ es.toList) _ ?_ ?_ _ _ ⟨rfl, fun e z => z⟩
  · rintro e rest b s' ⟨rfl, hin⟩
    have hm := hin e List.mem_cons_self
    obtain ⟨x, hx, rfl⟩ := List.mem_map.mp (by rw [← he]; exact hm)
    refine wpAny_bind (quiet_tuple (IsTupleKey.typeIs (hk x hx)) ?_)
    simp only [Bool.not_false, if_true]
    have le : ¬ ((es.filter fun z => z.hash == (entryOfKey (tupleKind kk) x).hash).size > 1) := by
      obtain ⟨l⟩ := es
      have q : (l.filter fun z => z.hash == (entryOfKey (tupleKind kk) x).hash).length ≤ 1 := nd_filter_one (f := fun z : DictEntry => z.hash) hn' hm
      have : (Array.filter (fun z => z.hash == (entryOfKey (tupleKind kk) x).hash) { toList := l }).size = (l.filter fun z => z.hash == (entryOfKey (tupleKind kk) x).hash).length := by simp
      omega
    rw [if_neg le]
    exact wpAny_pure ⟨rfl, fun e he => hin e (List.mem_cons_of_mem _ he)⟩
  · rintro b s' ⟨rfl, _⟩
    exact wpAny_pure h
theorem mergeH {nm : String} {d o : Addr} {xs : List (List κ × Addr × Value)} {Q : Unit → Shared → Prop} (hdo : d ≠ o) (hoS : (o == sysModules) = false)
    (hd : s.heap.DictOfH (tupleKind kk) d []) (ho : s.heap.DictOfH (tupleKind kk) o xs) (hn : (xs.map fun x => (tupleKind kk).hash x.1).Nodup)
    (hQ : ∀ h', h'.DictOfH (tupleKind kk) d xs → Heap.SameBut d s.heap h' → Q () { s with heap := h' }) (hsz : xs.length ≤ sizeLine) :
    wpAny (model prog w) A (Builtin.Dict.mergeDict nm d o) Q E s := by
  obtain ⟨od, esd, epd, hod, hcd, hdd, hed, hkd, hnd⟩ := id hd
  obtain ⟨oo, eso, epo, hoo, hco, hdo', heo, hko, hno⟩ := id ho
  unfold Builtin.Dict.mergeDict
  rw [if_neg (by simpa using hdo)]
  unfold Builtin.Dict.showsAll
  rw [if_neg (by rw [hoS]; exact Bool.false_ne_true)]
  refine wpAny_bind (wpAny_pure ?_)
  refine wpAny_bind (wpAny_dictEntries hoo hdo' ?_)
  have hde : esd.isEmpty = true := by
    obtain ⟨l⟩ := esd
    have : l = [] := hed
    subst this; rfl
  cases xs with
  | nil =>
    have hoe : eso = #[] := by
      obtain ⟨l⟩ := eso
      have : l = [] := heo
      subst this; rfl
    subst hoe
    have few : (decide ((#[] : Array DictEntry).size ≤ 8) && (#[] : Array DictEntry).all fun e => (keyPart e.key).isSome) = true := by simp
    simp only [few, Bool.not_true, Bool.false_eq_true, if_false]
    refine wpAny_bind (wpAny_dictEpoch hoo hdo' ?_)
    refine wpAny_bind (wpAny_dictEntries hoo hdo' ?_)
    refine wpAny_bind ?_
    rw [Std.Legacy.Range.forIn_eq_forIn_range']
    refine wpAny_forIn_list _ (fun rest (_ : PUnit) s' => rest = [] ∧ s' = s) _ ?_ ?_ _ _ ⟨rfl, rfl⟩
    · rintro x rest b s' ⟨z, _⟩; cases z
    · rintro b s' ⟨_, rfl⟩
      exact wpAny_pure (hQ _ hd (Heap.SameBut.refl _ _))
  | cons x xs =>
    have hne : ¬ (eso.isEmpty = true) := by
      obtain ⟨l⟩ := eso
      have : l = (x :: xs).map (entryOfKey (tupleKind kk)) := heo
      subst this; simp
    have few : (decide (eso.size ≤ 8) && eso.all fun e => (keyPart e.key).isSome) = false := by
      obtain ⟨l⟩ := eso
      have : l = (x :: xs).map (entryOfKey (tupleKind kk)) := heo
      subst this
      have : (keyPart (entryOfKey (tupleKind kk) x).key).isSome = false := rfl
      simp [this]
    simp only [few, Bool.not_false, if_true]
    refine wpAny_bind (wpAny_dictEntries hod hdd ?_)
    simp only [hde, if_true]
    refine wpAny_bind (forEmpty_H hoo hdo' heo hko hn ?_)
    rw [Bool.eq_false_iff.mpr hne]
    simp only [Bool.not_false, if_true]
    refine wpAny_bind (wpAny_updateDictKeysTo (hz' := by
      have : eso.size = (x :: xs).length := by rw [← Array.length_toList, heo, List.length_map]
      show eso.size ≤ _
      omega) hod hdd (wpAny_pure (hQ _ ⟨_, _, epd + 1, Heap.get?_update_self _ hod (Obj.isFreed_of_dict (Obj.data_mapDictKeys hdd _)),
      hcd.mapDictKeys _, Obj.data_mapDictKeys hdd _, heo, fun x hx => ?_, hno⟩ (Heap.SameBut.update ..))))
    exact (tupleKind kk).keeps (hko x hx) hod hdd (Heap.SameBut.update ..)
theorem call_dictH {o : Addr} {xs : List (List κ × Addr × Value)} {Q : Value → Shared → Prop} (hoS : (o == sysModules) = false) (ho : s.heap.DictOfH (tupleKind kk) o xs) (hn : (xs.map fun x => (tupleKind kk).hash x.1).Nodup) (hsz : xs.length ≤ sizeLine)
    (h : ∀ h', h'.DictOfH (tupleKind kk) s.heap.objs.size xs → Heap.SameBut s.heap.objs.size (s.heap.push { cls := .type "dict", data := .dict #[] }) h' → Q (.ref s.heap.objs.size) { s with heap := h' }) :
    wpAny (model prog w) A (call (.type "dict") [.ref o]) Q E s := by
  refine callType_codes (Q₁ := fun obj s₁ => obj = .ref s.heap.objs.size ∧ s₁ = { s with heap := s.heap.push { cls := .type "dict", data := .dict #[] } }) F.kt_called_dict (F.kt_typeCall_dict_1 _) F.entry_dict_init (kt_code_dict_new _ ⟨rfl, rfl⟩) ?_
  rintro obj s₁ ⟨rfl, rfl⟩
  have hnew : (s.heap.push { cls := .type "dict", data := .dict #[] }).DictOfH (tupleKind kk) s.heap.objs.size [] := ⟨_, _, _, Heap.get?_push_size _ rfl, ⟨rfl, rfl, rfl⟩, rfl, rfl, fun x hx => (by cases hx), List.nodup_nil⟩
  have hdo : s.heap.objs.size ≠ o := by
    obtain ⟨_, _, _, hg, _⟩ := ho
    exact fun e => absurd (Heap.lt_size hg) (by rw [e]; exact Nat.lt_irrefl _)
  have ho' : (s.heap.push { cls := .type "dict", data := .dict #[] }).DictOfH (tupleKind kk) o xs := by
    obtain ⟨ob, es, ep, h1, h2, h3, h4, h5, h6⟩ := ho
    refine ⟨ob, es, ep, Heap.get?_push_of_some _ h1, h2, h3, h4, fun x hx => ?_, h6⟩
    obtain ⟨q1, q2, q3, q4, q5⟩ := h5 x hx
    exact ⟨q1, q2, q3, Heap.get?_push_of_some _ q4, q5⟩
  refine ⟨hnew.typeIs, F.args_dict_init_2 _ _, ?_⟩
  unfold Builtin.«dict.__init__»
  refine wpAny_bind ?_
  unfold Builtin.Dict.selfAndRest
  refine wpAny_bind (wpAny_notOrdered_dict hnew.typeIs ?_)
  show wpAny _ _ (pure (s.heap.objs.size, [Value.ref o])) _ _ _
  refine wpAny_pure ?_
  show wpAny _ _ (Builtin.Dict.updateFrom "dict.__init__" s.heap.objs.size (.ref o) [] .none) _ _ _
  unfold Builtin.Dict.updateFrom
  refine wpAny_bind (wpAny_typeOf ho'.typeIs ?_)
  rw [if_neg (by decide)]
  refine wpAny_bind ?_
  unfold Builtin.Dict.merge
  refine wpAny_bind ?_
  unfold Builtin.Dict.readDirectly
  refine wpAny_bind (wpAny_isInstance ho'.typeIs isSubtype_dict_dict ?_)
  simp only [Bool.not_true, Bool.false_eq_true, if_false]
  refine wpAny_bind (wpAny_specialOf ho'.typeIs F.slot_dict_iter.lookup (wpAny_pure ?_))
  simp only [beq_self_eq_true, if_true]
  refine wpAny_bind (wpAny_pure ?_)
  refine mergeH (hsz := hsz) hdo hoS hnew ho' hn fun h' hd' hs' => ?_
  show wpAny _ _ (Builtin.Dict.addKeywords s.heap.objs.size [] >>= _) _ _ _
  exact wpAny_bind (wpAny_pure (wpAny_pure ⟨rfl, h h' hd' hs'⟩))
end
def HDs (kvs : List (List Key × V)) : Prop := ∃ ts : List (List Int), kvs.map (·.1) = ts.map (fun t => t.map Sum.inl) ∧ (ts.map hsI).Nodup
theorem KT.keysEq {H : Hp} {kvs : List (List Key × V)} {xs : List (List Key × Addr × Value)} (r : KT H kvs xs) : xs.map (·.1) = kvs.map (·.1) := by
  induction r with
  | nil => rfl
  | cons h t ih => rw [List.map_cons, List.map_cons, ih, h.1]
section
variable {X : Cx}
theorem hsT_int (P : Program) (w : World) (t : List Int) : (tupleKind (mixKind P w)).hash (t.map Sum.inl) = hsI t := by
  show reduceHash (Builtin.Tuple.tupleHashOf ((t.map Sum.inl).map (mixKind P w).hash)) = _
  rw [List.map_map]; rfl
theorem call_dictD : CallR X (.type "dict") (fun xs H Q => ∃ d kvs, xs = [.ref d] ∧ H d = some (.dT kvs) ∧ HDs kvs ∧ ∀ p, H p = none → Q (.ref p) (upd H p (.dT kvs))) := by
  intro pins s σ H xs us Q I r h
  obtain ⟨d, kvs, rfl, hH, ⟨ts, hts, htn⟩, q⟩ := h
  obtain ⟨u, rfl, rx⟩ := vals1 r
  cases rx
  obtain ⟨z, hd, ys, rel, dd⟩ := dt_of I.hok hH
  have hz : ys.length ≤ sizeLine := by rw [← Paired.length rel]; exact z
  have kys : ys.map (·.1) = kvs.map (·.1) := KT.keysEq rel
  have hn : (ys.map fun x => (tupleKind (mixKind X.prog X.w)).hash x.1).Nodup := by
    have e : (ys.map fun x => (tupleKind (mixKind X.prog X.w)).hash x.1) = (ys.map (·.1)).map (tupleKind (mixKind X.prog X.w)).hash := by rw [List.map_map]; rfl
    rw [e, kys, hts, List.map_map]
    have e2 : (ts.map ((tupleKind (mixKind X.prog X.w)).hash ∘ fun t => t.map Sum.inl)) = ts.map hsI := List.map_congr_left fun t _ => hsT_int _ _ t
    rw [e2]; exact htn
  refine call_dictH (kk := mixKind X.prog X.w) hd dd hn hz fun h' dd' hs => ?_
  have kp : ∀ b o', s.heap.get? b = some o' → h'.get? b = some o' := fun b o' e => by
    rw [hs.2 b (Nat.ne_of_lt (Heap.lt_size e))]; exact Heap.get?_push_of_some _ e
  obtain ⟨o, es, ep, h1, h2, h3, h4, _, h5⟩ := dd'
  have nf := I.hok.fresh (Nat.le_refl s.heap.objs.size)
  refine ⟨.ref s.heap.objs.size, _, I.laid (t' := s.toks) kp (Nat.le_refl _) (show ObjOk X.prog X.w _ h' _ (.dT kvs) from ⟨z, ?_, ys, rel.keeps fun c yy ec => ?_, o, es, ep, h1, h2, h3, h4, h5⟩), rfl, q _ nf⟩
  · exact beq_eq_false_iff_ne.mpr (Nat.ne_of_gt I.big)
  · rw [upd_ne (fun e => by rw [e, nf] at ec; cases ec)]; exact ec
end
end L2
namespace L2
open PySem PySem.Spec PyProof.Rows TS
def lamCx (X : Cx) (N : List Str) (qual : Str) (scope : Scope) (q c' : Addr) (cl : List (Str × Addr)) (A : Around) (s : Shared) (H : Hp) : Cx where
  prog := X.prog
  w := X.w
  K := X.K
  mg := X.mg
  base := X.base
  A := A.deeper (PySem.W.envX qual scope s.heap.objs.size q (.ref c') cl)
  N := N
  s₀ := s
  H₀ := H
  env := PySem.W.envX qual scope s.heap.objs.size q (.ref c') cl
  outer := X.stack
  stack := PySem.W.envX qual scope s.heap.objs.size q (.ref c') cl :: X.stack
  ex := []
  calm := true
  fn := fun _ => false
  pn := []
  xe := fun _ _ => False
section
variable {X : Cx} {pins : List (Addr × Obj)} {σ : St} {H : Hp} {s : Shared} {x y : Str} {qual : Str} {scope : Scope} {q c' c : Addr} {A : Around} {u uy : Value} {xv yv : V}
theorem inv_lam {h₁ : Heap} {tk : Nat} (I : Inv X pins σ H s) (hA : A.frames = some X.stack) (hh : A.handled = none) (hk : scope.kind = .function) (hx : scope.names.lookup x = some .local) (hy : scope.names.lookup y = some .free)
    (ho : ∀ z, (scope.names.lookup z = some .cell ∨ scope.names.lookup z = some .free) → z = y) (hcy : X.env.cells.lookup y = some c) (hcc : s.heap.IsCell c (some uy)) (ry : RelV yv uy) (rx : RelV xv u)
    (hns : h₁.Ns s.heap.objs.size (fun z => [(x, u)].reverse.lookup z)) (hk₁ : ∀ b o, s.heap.get? b = some o → h₁.get? b = some o) :
    Inv (lamCx X [x, y] qual scope q c' [(y, c)] A s H) [] [some xv, some yv] H { s with heap := h₁, toks := tk } := by
  have lkc : ∀ z d, ([(y, c)] : List (Str × Addr)).lookup z = some d → z = y ∧ d = c := fun z d h => by
    rw [List.lookup_cons] at h
    split at h
    · rename_i e
      exact ⟨by simpa using e, by cases h; rfl⟩
    · cases h
  have lky : ([(y, c)] : List (Str × Addr)).lookup y = some c := by rw [List.lookup_cons]; simp
  have hc1 : h₁.IsCell c (some uy) := let ⟨o, e, d⟩ := hcc; ⟨o, hk₁ _ _ e, d⟩
  have hkd : ∀ z, Env.kindOf (PySem.W.envX qual scope s.heap.objs.size q (.ref c') [(y, c)]) z = scope.names.lookup z := fun _ => rfl
  refine ⟨⟨I.ok.mod, hk, rfl, rfl, Nat.le_refl _, fun z z' d h1 h2 => (lkc _ _ h1).1.trans (lkc _ _ h2).1.symm, fun z hz => ⟨c, ?_⟩, fun z d hf _ => absurd (show false = true from hf) Bool.false_ne_true, fun _ => hh, Around.frames_deeper hA, .inr ⟨rfl, rfl⟩, fun b z => (nomatch z), I.bs, Nat.le_trans I.ok.bsz I.sz, fun b _ _ z => (nomatch z), fun b z => (nomatch z), I.stack, I.stkFree⟩,
    rfl, I.bare, Un.kept hk₁, ⟨_, hns, fun i z v h1 h2 h3 => ?_⟩, fun z d h => ⟨some uy, by rw [(lkc z d h).2]; exact hc1⟩, I.hok.fresh (Nat.le_refl _), fun z d h => by rw [(lkc z d h).2]; exact I.freeC y c hcy, fun p hp => (nomatch hp), I.hok.kept hk₁, rfl⟩
  · have := ho z hz
    subst this
    exact lky
  · match i, h1, h2 with
    | 0, h1, h2 =>
      cases h1
      cases h2
      exact ⟨u, rx, .inl ⟨hx, by show List.lookup x [(x, u)] = some u; rw [List.lookup_cons]; simp⟩⟩
    | 1, h1, h2 =>
      cases h1
      cases h2
      exact ⟨uy, ry, .inr ⟨.inr hy, c, lky, hc1⟩⟩
    | i + 2, h1, h2 => exact absurd (show (none : Option Str) = some z from h1) (by simp)
theorem lam_run {oc : Obj} {vs : Array Value} {tq : Tok} {params : Arguments} {body : Expr} {pm ctv : Value} {t : TE} {Q : VK} (I : Inv X pins σ H s) (hq : (q, PySem.W.kla_obj "<lambda>" qual params body scope [(y, c)] pm c' ctv) ∈ pins) (hc' : (c', oc) ∈ pins)
    (hd : oc.data = .fields vs) (hv : vs[1]? = some (.str qual tq)) (hA : A.frames = some X.stack) (hh : A.handled = none) (hr : A.depth < recursionLimit) (hk : scope.kind = .function) (hco : scope.isCoroutine = false) (hgen : scope.isGenerator = false)
    (hcell : ∀ x ∈ scope.names, x.2 ≠ .cell) (hx : scope.names.lookup x = some .local) (hy : scope.names.lookup y = some .free) (ho : ∀ z, (scope.names.lookup z = some .cell ∨ scope.names.lookup z = some .free) → z = y)
    (hb : ∀ u, bindArgs (PySem.W.kla_fn "<lambda>" qual params body scope [(y, c)] pm (.ref c') ctv) ⟨[u], []⟩ = pure [(x, u)])
    (hcy : X.env.cells.lookup y = some c) (hcc : s.heap.IsCell c (some uy)) (ry : RelV yv uy) (rx : RelV xv u)
    (PEb : PE (lamCx X [x, y] qual scope q c' [(y, c)] A s H) body t) (h : t [some xv, some yv] H Q) : wpAny (model X.prog X.w) A (call (.ref q) [u]) (EP X pins σ Q) (fun _ _ => False) s := by
  have e1 := (I.pin _ (List.mem_append_right _ hq)).1
  have e2 := (I.pin _ (List.mem_append_right _ hc')).1
  refine wpAny_call (codeAny_mono (R := CR CX0 X.stack X.prog X.w H s Q E0) (PySem.W.kla_callFunE hr e1 rfl hco hgen rfl ⟨c', oc, vs, tq, rfl, e2, hd, hv⟩ ?_) fun r s' hq => ?_)
  · rw [hb u]
    refine wpAny_pure (wpAny_newFunctionEnv hcell (fun z hz => ?_) (fun h₁ hns hsb => ?_) hk)
    · obtain rfl := List.mem_singleton.mp hz
      exact hx
    · have hk₁ : ∀ b o, s.heap.get? b = some o → h₁.get? b = some o := fun b o e => hsb.extBut b o (Nat.ne_of_lt (Heap.lt_size e)) (Heap.get?_push_of_some _ e)
      refine ⟨I.nolimit.keeps hk₁, ?_⟩
      show codeAny _ _ (.expr body (PySem.W.envX qual scope s.heap.objs.size q (.ref c') [(y, c)])) _ _
      refine PySem.W.kla_codeExpr (wpAny_mono (PEb [] _ _ H Q (inv_lam I hA hh hk hx hy ho hcy hcc ry rx hns hk₁) h) (fun v s' hv => ?_) fun _ _ z => False.elim z)
      obtain ⟨w, H', J, rw, qw⟩ := hv
      exact ⟨w, H', J.os, J.bare, J.base, J.hok, rw, qw⟩
  · match r, hq with
    | .error e, hq => exact False.elim hq
    | .ok (.ret u), hq => exact I.after hq
    | .ok .next, hq => exact False.elim hq
    | .ok .brk, hq => exact False.elim hq
    | .ok .cont, hq => exact False.elim hq
theorem lam_make {P cc : Addr} {params : Arguments} {body : Expr} {clos : List (Str × Addr)} {pos : Pos} {Qv : Value → Shared → Prop} {E : Value → Shared → Prop} (I : Inv X pins σ H s) (hcode : X.env.code = .ref cc) (C : PySem.W.CodeHd X.base cc P)
    (hT : H P = some (.tbl #[])) (hB : X.base.BuiltinsAt X.mg P) (hcl : closureFor scope X.env = pure clos) (hdef : defaultsOf params X.env = ([], []))
    (h : ∀ (q c' : Addr) (oc : Obj) (vs : Array Value) (tq : Tok) (ctv : Value) (s' : Shared), oc.data = .fields vs → vs[1]? = some (.str (X.env.qual ++ "<lambda>") tq) → H c' = none → c' ≠ P →
      Inv X ((q, PySem.W.kla_obj "<lambda>" (X.env.qual ++ "<lambda>") params body scope clos ((X.mg "__name__").getD .none) c' ctv) :: (c', oc) :: pins) σ (upd H P (.tbl #[rawInt pos.line, rawInt pos.col, .ref c'])) s' → Qv (.ref q) s') :
    wpAny (model X.prog X.w) A (eval (.Lambda params body scope pos) X.env) Qv E s := by
  have hP : s.heap.get? P = some (PySem.W.tabObj #[]) := I.hok P _ hT
  have hg := I.mod.glob.keeps I.bk
  have hgP : mainGlobals ≠ P := fun z => by
    obtain ⟨o, es, ep, e, hd, _⟩ := hg
    rw [z, hP] at e; cases e; cases hd
  have hB' : s.heap.BuiltinsAt X.mg P := let ⟨bm, ob, b1, b2, b3, b4, b5, r⟩ := hB; ⟨bm, ob, b1, b2, b3, b4, I.bk _ _ b5, r⟩
  refine PySem.W.kla_eval hdef (PySem.W.kla_makeFunction (ps := #[]) hcl I.ok.glob hg hcode (C.keeps I.bk) hP trivial rfl hgP hB' fun c' ctv h' tk hx hge hlt hrec htb => ?_)
  obtain ⟨c₂, oc, vs, tq, z2, hoc, hd, hv⟩ := hrec
  cases z2
  have hPl : P < s.heap.objs.size := Heap.lt_size hP
  have hcP : c' ≠ P := Nat.ne_of_gt (Nat.lt_of_lt_of_le hPl hge)
  have hcn : H c' = none := I.hok.fresh hge
  have bP : ∀ b, H b = none → b ≠ P := fun b n z => by subst z; rw [hT] at n; cases n
  have un : Un (frs X.stack) [] H (upd H P (.tbl #[rawInt pos.line, rawInt pos.col, .ref c'])) s.heap h' :=
    ⟨fun b o e n _ _ => hx b o (bP b n) e, fun b o e n _ _ => ⟨o.slots, hx b o (bP b n) e⟩, fun b o e n _ => by rw [upd_ne (bP b n)]; exact n,
      fun b o e _ => by
        by_cases hb : b = P
        · subst hb; exact ⟨_, htb⟩
        · exact ⟨_, hx b o hb e⟩,
      fun b xs e => by rw [upd_ne (ne_of e hT (by intro z; cases z))]; exact e, fun b o u e => by rw [upd_ne (ne_of e hT (by intro z; cases z))]; exact e,
      fun b ps e => by
        by_cases hb : b = P
        · subst hb; rw [hT] at e; cases e; exact ⟨#[rawInt pos.line, rawInt pos.col, .ref c'], by rw [upd_same]; simp⟩
        · exact ⟨#[], by rw [upd_ne hb, e]; simp⟩⟩
  have hok' : HOk X.prog X.w (upd H P (.tbl #[rawInt pos.line, rawInt pos.col, .ref c'])) h' := fun b u e => by
    by_cases hb : b = P
    · subst hb; rw [upd_same] at e; cases e; exact htb
    · rw [upd_ne hb] at e
      refine (I.hok b u e).stay (fun d v hdv r => hx d v ?_ r) (fun d r => by rw [upd_ne (ne_of r hT (by intro z; cases z))]; exact r) fun d xs r => by rw [upd_ne (ne_of r hT (by intro z; cases z))]; exact r
      rcases hdv with rfl | r
      · exact hb
      · exact ne_of r hT (by intro z; cases z)
  have I1 : Inv X pins σ (upd H P (.tbl #[rawInt pos.line, rawInt pos.col, .ref c'])) { s with heap := h', toks := tk } := I.call (g' := s.gens) (d' := s.drawn) (t' := tk) (ch := []) un hok' I.bare (fun b z => absurd z (by simp))
  have I2 := I1.pinNew (t' := tk) (ob := PySem.W.kla_obj "<lambda>" (X.env.qual ++ "<lambda>") params body scope clos ((X.mg "__name__").getD .none) c' ctv) rfl (by intro v z; cases z)
  refine h _ c' oc vs tq ctv _ hd hv hcn hcP (I2.pins_of fun p hp => ?_)
  rcases List.mem_cons.mp hp with rfl | hp
  · exact I2.pin _ (List.mem_append_right _ (.head _))
  · rcases List.mem_cons.mp hp with rfl | hp
    · refine ⟨Heap.get?_push_of_some _ hoc, by rw [upd_ne hcP]; exact hcn, Nat.ne_of_gt (Nat.lt_of_lt_of_le I.lt hge), I.nofs hge, fun v z => ?_⟩
      rw [hd] at z; cases z
    · exact I2.pin p (List.mem_append_right _ (.tail _ hp))
end
def tSortL (K : PySem.W.Frag) (P : Addr) (lp : Pos) (i : Nat) (tb : TE) (b : Bool) (te : TE) : TE := fun σ H Q => te σ H fun v H1 => ∃ (l : Addr) (all : List V) (yv : V), v = .ref l ∧ H1 l = some (.lst all) ∧ σ[i]? = some (some yv) ∧ H1 P = some (.tbl #[]) ∧
  ∀ c', H1 c' = none → c' ≠ P → skGo (fun x H Q => tb [some x, some yv] H Q) all [] (upd H1 P (.tbl #[rawInt lp.line, rawInt lp.col, .ref c'])) (skEnd K b all fun out H' => ∀ D, H' D = none → Q (.ref D) (upd H' D (.lst out)))
theorem closure1 {scope : Scope} {env : Env} {x y g : Str} {c : Addr} (hs : scope.names = [(x, .local), (y, .free), (g, .globalImplicit)]) (h : env.cells.lookup y = some c) : closureFor scope env = pure [(y, c)] := by
  unfold closureFor
  rw [hs]
  simp [cellOf, h]
section
variable {X : Cx} {j i : Nat} {p pos kpos rpos cpos lp : Pos} {e body : Expr} {te tb : TE} {P cc : Addr} {params : Arguments} {scope : Scope} {x y g : Str} {kg : NameKind}
theorem pe_sortL {b : Bool} {jj : Nat} (he : PE X e te) (hr : Room j X.A) (hm : X.mg ("sorted" : Str) = none) (hcode : X.env.code = .ref cc) (C : PySem.W.CodeHd X.base cc P) (hB : X.base.BuiltinsAt X.mg P)
    (hsc : scope.names = [(x, .local), (y, .free), (g, kg)]) (hkg : kg = .globalImplicit) (hxy : x ≠ y) (hgx : g ≠ x) (hgy : g ≠ y) (hk : scope.kind = .function) (hco : scope.isCoroutine = false) (hgen : scope.isGenerator = false) (hdef : defaultsOf params X.env = ([], []))
    (hb : ∀ qual c pm cv ctv u, bindArgs (PySem.W.kla_fn "<lambda>" qual params body scope [(y, c)] pm cv ctv) ⟨[u], []⟩ = pure [(x, u)])
    (hN : X.N[i]? = some y) (hy : X.env.scope.names.lookup y = some .cell)
    (PEb : ∀ (q c' c : Addr) (s : Shared) (H : Hp), PE (lamCx X [x, y] (X.env.qual ++ "<lambda>") scope q c' [(y, c)] X.A.in1.in1 s H) body tb)
    (hk2 : 1 + 1 ≤ j := by decide) (hgl : Gl X "sorted" := by rfl) (hs : starEach [e] X.env = (false, eval e X.env) :: starEach [] X.env := by rfl) :
    PE X (.Call (.Name "sorted" p) [e] [⟨some "key", .Lambda params body scope lp, kpos⟩, ⟨some "reverse", .Constant (.bool b) jj cpos, rpos⟩] pos) (tSortL X.K P lp i tb b te) := by
  intro pins s σ H Q I h
  subst hkg
  refine wpAny_Call_Name_kw (ld_blt I hgl hm boot_sorted ?_)
  have h' : tCons te tNil σ H (fun vs H1 => match vs with
      | [v] => ∃ (l : Addr) (all : List V) (yv : V), v = .ref l ∧ H1 l = some (.lst all) ∧ σ[i]? = some (some yv) ∧ H1 P = some (.tbl #[]) ∧
          ∀ c', H1 c' = none → c' ≠ P → skGo (fun x H Q => tb [some x, some yv] H Q) all [] (upd H1 P (.tbl #[rawInt lp.line, rawInt lp.col, .ref c'])) (skEnd X.K b all fun out H' => ∀ D, H' D = none → Q (.ref D) (upd H' D (.lst out)))
      | _ => False) := h
  refine callWith_kw (thn ((pa_cons he pa_nil hs) pos pins s σ H _ I h') fun us s1 ⟨vs, H1, I1, r1, q1⟩ => ?_) (by rw [hs]; rfl) (by rw [hs]; rfl)
  cases r1 with
  | nil => exact False.elim q1
  | cons ru rr =>
    cases rr with
    | cons _ _ => exact False.elim q1
    | nil =>
      obtain ⟨l, all, yv, ev, eh, hσ, hT, hmx⟩ := q1
      subst ev
      cases ru
      obtain ⟨m, hns, hloc⟩ := I1.loc
      obtain ⟨uy, ry, hlook⟩ := hloc i y yv hN hσ (.inr (.inl hy))
      have hlk : ∃ c, X.env.cells.lookup y = some c ∧ s1.heap.IsCell c (some uy) := by
        rcases hlook with ⟨z, _⟩ | ⟨_, z⟩
        · have z' : X.env.scope.names.lookup y = some .local := z
          rw [hy] at z'; cases z'
        · exact z
      obtain ⟨c, hcy, _⟩ := hlk
      have nyx : (y == x) = false := by simpa using fun z : y = x => hxy z.symm
      have ngx : (g == x) = false := by simpa using hgx
      have ngy : (g == y) = false := by simpa using hgy
      have lx : scope.names.lookup x = some .local := by rw [hsc, List.lookup_cons]; simp
      have ly : scope.names.lookup y = some .free := by rw [hsc, List.lookup_cons, nyx, List.lookup_cons]; simp
      have lo : ∀ z, (scope.names.lookup z = some .cell ∨ scope.names.lookup z = some .free) → z = y := fun z hz => by
        by_cases e : z = y
        · exact e
        · exfalso
          have zy : (z == y) = false := by simpa using e
          rw [hsc, List.lookup_cons, List.lookup_cons, List.lookup_cons, zy] at hz
          cases hzx : z == x <;> cases hzg : z == g <;> simp [hzx, hzg] at hz
      refine kwAll_cons (lam_make I1 hcode C hT hB (closure1 hsc hcy) hdef fun q c' oc vs tq ctv s' hd hv hcn hcP I2 => ?_)
      refine kwAll_cons (Constant_bool (kwAll_nil ?_))
      refine thn (sorted_run (ksk_s2 _ _ _) (fun x => ksk_l2 _ _ _) (fun x => ksk_t2 _ x b) (sp := fun x H Q => tb [some x, some yv] H Q) ?_ I2 (by rw [upd_ne (ne_of eh hT (by intro z; cases z))]; exact eh) (hmx c' hcn hcP)) fun u s5 ⟨v, H5, I5, r5, q5⟩ => ⟨v, H5, I5.pins_of fun p hp => I5.pin p (List.mem_append_right _ (.tail _ hp)), r5, q5⟩
      intro pins4 s4 H4 Q4 x4 u4 I4 hin rx4 h4
      obtain ⟨m4, hns4, hloc4⟩ := I4.loc
      obtain ⟨uy4, ry4, hlook4⟩ := hloc4 i y yv hN hσ (.inr (.inl hy))
      have hlk4 : ∃ c, X.env.cells.lookup y = some c ∧ s4.heap.IsCell c (some uy4) := by
        rcases hlook4 with ⟨z, _⟩ | ⟨_, z⟩
        · have z' : X.env.scope.names.lookup y = some .local := z
          rw [hy] at z'; cases z'
        · exact z
      obtain ⟨c4, hcy4, hcc4⟩ := hlk4
      rw [hcy] at hcy4; cases hcy4
      have hfr : X.A.in1.in1.frames = some X.stack := I4.ok.frames
      refine lam_run (x := x) (y := y) I4 (hin _ (.head _)) (hin _ (.tail _ (.head _))) hd hv hfr hr.hd ?_ hk hco hgen ?_ lx ly lo (hb _ _ _ _ _) hcy hcc4 ry4 rx4 (PEb _ _ _ _ _) h4
      · exact (Room.in1 (k := 0) (Room.in1 (k := 1) (hr.mono hk2))).depth
      · intro z hz
        rw [hsc] at hz
        simp at hz
        rcases hz with rfl | rfl | rfl <;> simp
end
end L2
namespace L2
open PySem PySem.Spec PyProof.Rows
def OnlyT (P : Addr) (H : Hp) : Prop := (∀ b, H b = none ∨ (∃ o xs, H b = some (.frz o (.lst xs))) ∨ b = P) ∧ H P = some (.tbl #[])
theorem law_callT {P : Program} {w : World} {K : PySem.W.Frag} {mg mb : Str → Option Value} {CX : CXT} {k : Nat} {fa a cc Pt : Addr} {fd : FuncData} {x : Str} {sp : Sp} {s₁ : Shared} {vs : List Value} {ns : List Int}
    (KX : K.In s₁.heap) (hns : s₁.heap.Ns mainGlobals mg) (hb : s₁.heap.Ns builtinsNs mb) (hbb : ∀ x : Str, x ≠ "__name__" → mb x = bootBuiltins x) (hlim : s₁.heap.NoLimit) (hg : s₁.gens = #[])
    (hPt : s₁.heap.get? Pt = some (PySem.W.tabObj #[])) (hCd : PySem.W.CodeHd s₁.heap cc Pt) (hKP : K.lookup Pt = none)
    (hbm : ∃ bm ob, mg "__builtins__" = some (.ref bm) ∧ bm ≠ builtinsNs ∧ s₁.heap.get? bm = some ob ∧ ob.cls = .type "module" ∧ ob.dict = some builtinsNs ∧ ob.data = .plain)
    (ha : s₁.heap.get? a = some { cls := .type "list", data := .seq vs.toArray }) (hi : IntsAre vs ns) (hl : ns.length ≤ sizeLine) (hr : Room k callerA)
    (F : ∀ base : Heap, K.In base → base.Ns mainGlobals mg → base.BuiltinsAt mg Pt → FnOk P w K mg base CX k fa fd [x] sp) (hbind : ∀ (s : Shared) (u : Value), BindsTo s fd ⟨[u], []⟩ [(x, u)])
    (hsp : ∀ H : Hp, OnlyT Pt H → SqL K H a (ns.map V.int) → sp [.ref a] H (fun v _ => v = .bl true) fun _ _ _ => False)
    (hCX : ∀ H e s', CX [] H s₁ (fun _ _ _ => False) e s' → False) :
    codeAny (model P w) callerA (.call (.ref fa) ⟨[.ref a], []⟩) (fun r s' => r = .ok (.ret (.bool true)) ∧ OldK s₁.heap s'.heap ∧ s'.os = s₁.os ∧ AllBare s'.gens) s₁ := by
  have rv := vals_ints hi
  have lenV := hi.length
  have naP : a ≠ Pt := fun z => by subst z; rw [ha] at hPt; cases hPt
  have core : ∀ H : Hp, OnlyT Pt H → SqL K H a (ns.map V.int) → HOk P w H s₁.heap → (∀ b, H b ≠ none → b = a ∨ b = Pt) → (H a ≠ none → K.lookup a = none) →
      codeAny (model P w) callerA (.call (.ref fa) ⟨[.ref a], []⟩) (fun r s' => r = .ok (.ret (.bool true)) ∧ OldK s₁.heap s'.heap ∧ s'.os = s₁.os ∧ AllBare s'.gens) s₁ := by
    intro H hO hS hok hA hK
    have base_of : ∀ {b : Addr} {o : Obj}, s₁.heap.get? b = some o → H b = none → (hidT s₁.heap H).get? b = some o := fun e n => hidT_get e n
    have noS : ∀ {b : Addr} {o : Obj}, s₁.heap.get? b = some o → (∀ v n, o.data ≠ .seq v n) → (∀ v, o.data ≠ .fields v) → H b = none := fun {b o} e d1 d2 => by
      cases q : H b with
      | none => rfl
      | some u =>
        exfalso
        rcases hA b (by rw [q]; simp) with z | z
        · subst z; rw [ha] at e; cases e; exact d1 _ _ rfl
        · subst z; rw [hPt] at e; cases e; exact d2 _ rfl
    have nsK : ∀ {b : Addr} {m : Str → Option Value}, s₁.heap.Ns b m → (hidT s₁.heap H).Ns b m := fun {b m} ⟨o, es, ep, e, d, r⟩ => ⟨o, es, ep, base_of e (noS e (fun v n z => by rw [d] at z; cases z) (fun v z => by rw [d] at z; cases z)), d, r⟩
    have hKb : K.In (hidT s₁.heap H) := fun b o e => base_of (KX b o e) (by
      cases q : H b with
      | none => rfl
      | some u =>
        exfalso
        rcases hA b (by rw [q]; simp) with z | z
        · subst z; rw [hK (by rw [q]; simp)] at e; cases e
        · subst z; rw [hKP] at e; cases e)
    have hM : Mod K mg (hidT s₁.heap H) := ⟨hKb, nsK hns, ⟨mb, nsK hb, hbb⟩, let ⟨mc, h1, h2⟩ := hlim; ⟨mc, nsK h1, h2⟩⟩
    have hBm : (hidT s₁.heap H).BuiltinsAt mg Pt := by
      obtain ⟨bm, ob, b1, b2, b3, b4, b5, b6⟩ := hbm
      refine ⟨bm, ob, b1, b2, fun z => ?_, fun z => ?_, base_of b3 (noS b3 (fun v n z => by rw [b6] at z; cases z) (fun v z => by rw [b6] at z; cases z)), b4, b5, b6⟩
      · obtain ⟨o, es, ep, e, d, _⟩ := hns
        rw [z, e] at b3; cases b3; rw [d] at b6; cases b6
      · rw [z, hPt] at b3; cases b3; cases b6
    have e0 : Env0 P w K mg (hidT s₁.heap H) callerA [] s₁ H := ⟨rfl, hM, fun b o e => of_hidT e, Nat.le_of_eq (hidT_size _ _), trivial, fun b hb => absurd (show b ∈ ([] : List Addr) from hb) (by simp), hok, .of_eq hg⟩
    refine codeAny_mono ((F _ hKb (nsK hns) hBm).run callerA [] s₁ H ⟨[.ref a], []⟩ [.ref a] [.ref a] _ _ hr e0 (hbind s₁ (.ref a)) (.cons rfl .nil) (hsp H hO hS)) fun r s' h => ?_
    cases r with
    | error e => exact (hCX H e s' h).elim
    | ok fl =>
      cases fl with
      | next => exact False.elim h
      | brk => exact False.elim h
      | cont => exact False.elim h
      | ret u =>
        obtain ⟨v, H', os, bare, un, hok', r', q⟩ := h
        have q' : v = .bl true := q
        subst q'
        obtain rfl : u = Value.bool true := r'
        refine ⟨rfl, ⟨fun b o e => ?_, fun b o e => un.there b o e (by simp)⟩, os, bare⟩
        cases q : H b with
        | none => exact .inl (un.keep b o e q (by intro z; exact absurd (show b ∈ ([] : List Addr) from z) (by simp)) (by simp))
        | some u =>
          rcases hO.1 b with z | ⟨ob, xs, z⟩ | z
          · rw [q] at z; cases z
          · have z2 := un.frzs b ob _ z
            obtain ⟨e1, _⟩ := hok b _ z
            obtain ⟨e2, _⟩ := hok' b _ z2
            rw [e] at e1; cases e1
            exact .inl e2
          · subst z
            rw [hPt] at e; cases e
            obtain ⟨more, z2⟩ := un.tbls b _ hO.2
            have e2 := hok' b _ z2
            obtain ⟨oc, vc, _, _, _, _, _, _, _, c1, c2, c3, c4, _⟩ := hCd
            exact .inr (.inl ⟨⟨cc, oc, vc, c1, c2, c3, c4⟩, rfl, _, more, rfl, e2⟩)
  cases hk : K.lookup a with
  | some o =>
    have e := KX a o hk
    rw [ha] at e
    cases e
    refine core (fun b => if b = Pt then some (.tbl #[]) else none) ⟨fun b => ?_, if_pos rfl⟩ (.inr ⟨_, vs.toArray, _, hk, rfl, rfl, rfl, by rw [List.size_toArray, lenV]; exact hl, by simpa using rv⟩) (fun b u z => ?_) (fun b z => ?_) fun z => absurd (if_neg naP) z
    · by_cases hb : b = Pt
      · exact .inr (.inr hb)
      · exact .inl (if_neg hb)
    · by_cases hb : b = Pt
      · have z' := (if_pos hb).symm.trans z
        cases z'
        subst hb
        exact hPt
      · have z' := (if_neg hb).symm.trans z
        cases z'
    · by_cases hb : b = Pt
      · exact .inr hb
      · exact absurd (if_neg hb) z
  | none =>
    refine core (fun b => if b = a then some (.frz { cls := .type "list", data := .seq vs.toArray } (.lst (ns.map V.int))) else if b = Pt then some (.tbl #[]) else none) ⟨fun b => ?_, (if_neg naP.symm).trans (if_pos rfl)⟩ (.inl (.inr ⟨{ cls := .type "list", data := .seq vs.toArray }, if_pos rfl⟩)) (fun b u z => ?_) (fun b z => ?_) fun _ => hk
    · by_cases hb : b = a
      · exact .inr (.inl ⟨_, _, if_pos hb⟩)
      · by_cases hp : b = Pt
        · exact .inr (.inr hp)
        · exact .inl ((if_neg hb).trans (if_neg hp))
    · by_cases hb : b = a
      · have z' := (if_pos hb).symm.trans z
        cases z'
        subst hb
        exact ⟨ha, by rw [List.length_map]; exact hl, vs, _, rv, ha⟩
      · by_cases hp : b = Pt
        · have z' := ((if_neg hb).trans (if_pos hp)).symm.trans z
          cases z'
          subst hp
          exact hPt
        · have z' := ((if_neg hb).trans (if_neg hp)).symm.trans z
          cases z'
    · by_cases hb : b = a
      · exact .inl hb
      · by_cases hp : b = Pt
        · exact .inr hp
        · exact absurd ((if_neg hb).trans (if_neg hp)) z
theorem walk_ofT {l : PySem.W.OpenLaw} {n k : Nat} {q : Program} {loose : List Str} {XP : (Str → Option Value) → Heap → Prop} {YP : World → Heap → Prop} {d : DefRec} {K : Params → PySem.W.Frag} {CX : World → CXT} {sp : World → Addr → Sp} {x : Str}
    (hn : l.most = some n) (hn2 : n ≤ sizeLine) (hdf : d.params.defaults = []) (hr : Room k callerA)
    (hY : ∀ (w : World) (h : Heap), YP w h → (K w.params).In h) (Pt : Addr)
    (hT : ∀ (w : World) (h : Heap), YP w h → h.get? Pt = some (PySem.W.tabObj #[]))
    (F : ∀ (w : World) (mg : Str → Option Value) (fa : Addr) (h : Heap), (K w.params).In h → h.Ns mainGlobals mg → mg d.name = some (.ref fa) →
      ∃ (cc : Addr) (fd : FuncData), PySem.W.codeHdIn (K w.params) cc Pt = true ∧ (K w.params).lookup Pt = none ∧ (∀ (s : Shared) (u : Value), BindsTo s fd ⟨[u], []⟩ [(x, u)]) ∧
        ∀ base : Heap, (K w.params).In base → base.Ns mainGlobals mg → base.BuiltinsAt mg Pt → FnOk l.prog w (K w.params) mg base (CX w) k fa fd [x] (sp w Pt))
    (hsp : ∀ (w : World) (H : Hp) (a : Addr) (ns : List Int), ns.length ≤ n → OnlyT Pt H → SqL (K w.params) H a (ns.map V.int) → sp w Pt [.ref a] H (fun v _ => v = .bl true) fun _ _ _ => False)
    (hCX : ∀ (w : World) (H : Hp) (s : Shared) (e : Value) (s' : Shared), CX w [] H s (fun _ _ _ => False) e s' → False) :
    PySem.W.WalkO q loose XP YP l.row.toRowW d [] (fun f vs => PySem.call f vs) := by
  refine Att.attach_call hn hdf fun w s₀ s₁ mg mb fa o pm cd doc a vs ns G Y ho hd hcd hmg hobj hints hlen hg => ?_
  have KX := hY w _ Y
  obtain ⟨cc, fd, hcc, hkp, hb, hF⟩ := F w mg fa _ KX G.T.g hmg
  exact law_callT KX G.T.g G.T.b G.T.builtins G.T.nolimit hg (hT w _ Y) (PySem.W.codeHd_of_K KX hcc) hkp G.T.bmain hobj hints (Nat.le_trans hlen hn2) hr hF hb (fun H hO hS => hsp w H a ns hlen hO hS) fun H e s' => hCX w H s₁ e s'
end L2
namespace L2
open PySem PySem.Spec PyProof.Rows
theorem strIter_at {h h' : Heap} {it : Addr} {x : Str} {t : Tok} {i : Nat} (y : h.IsStrIter it "str_ascii_iterator" x t i) (e : ∀ o, h.get? it = some o → h'.get? it = some o) : h'.IsStrIter it "str_ascii_iterator" x t i := let ⟨o, ho, r⟩ := y; ⟨o, e o ho, r⟩
theorem strIter_obj {h : Heap} {it : Addr} {x : Str} {t : Tok} {i : Nat} (y : h.IsStrIter it "str_ascii_iterator" x t i) : ∃ o, h.get? it = some o ∧ ∀ v, o.data ≠ .cell v := by
  obtain ⟨o, ho, c, d⟩ := y; exact ⟨o, ho, fun v z => by rw [d] at z; cases z⟩
section
variable {prog : Program} {w : World} {A : Around} {E : Value → Shared → Prop} {s : Shared}
structure ZStS (b2 : Bool) (w1 : Str) (t1 : Tok) (z TI TO i1 i2 l2 : Addr) (f0 : Value) (k : Nat) (h : Heap) : Prop where
  zip : IsZip h z TI TO f0
  ti : IsPair h TI (.ref i1) (.ref i2)
  to : ∃ a b, IsPair h TO a b
  it1 : h.IsStrIter i1 "str_ascii_iterator" w1 t1 k
  it2 : IterAt b2 h i2 l2 k
theorem ZStS.at {b2 : Bool} {w1 : Str} {t1 : Tok} {z TI TO i1 i2 l2 : Addr} {f0 : Value} {k : Nat} {h h' : Heap} (x : ZStS b2 w1 t1 z TI TO i1 i2 l2 f0 k h) (e : ∀ b ∈ [z, TI, TO, i1, i2], ∀ o, h.get? b = some o → h'.get? b = some o) :
    ZStS b2 w1 t1 z TI TO i1 i2 l2 f0 k h' :=
  ⟨e z (by simp) _ x.zip, e TI (by simp) _ x.ti, let ⟨a, b, q⟩ := x.to; ⟨a, b, e TO (by simp) _ q⟩, strIter_at x.it1 fun o q => e i1 (by simp) o q, x.it2.at fun o q => e i2 (by simp) o q⟩
theorem zip_itemS {b2 : Bool} {w1 : Str} {t1 : Tok} {z TI TO i1 i2 l2 : Addr} {k : Nat} {ys : Array Value} {x : Nat} {y : Value} {Q : Value → Shared → Prop} (D : ZipApart z TI TO i1 i2 l2 l2) (S : ZStS b2 w1 t1 z TI TO i1 i2 l2 .none k s.heap)
    (hl2 : SqAt b2 s.heap l2 ys) (hx : w1.cps[k]? = some x) (hy : ys[k]? = some y)
    (hQ : ∀ h', ZStS b2 w1 t1 z TI TO i1 i2 l2 (rawInt s.heap.objs.size) (k + 1) h' → IsPair h' s.heap.objs.size (.str ⟨#[x]⟩ s.toks) y → h'.objs.size = s.heap.objs.size + 1 →
      (∀ c o, c ≠ z → c ≠ TO → c ≠ i1 → c ≠ i2 → s.heap.get? c = some o → h'.get? c = some o) → Q (.ref s.heap.objs.size) { s with heap := h', toks := s.toks + 1 }) :
    wpAny (model prog w) A (Builtin.«zip.__next__» ⟨[.ref z], []⟩) (fun fin s' => ∃ v, fin = .done (.ret v) ∧ Q v s') E s := by
  obtain ⟨hz, hTI, ⟨a, b, hTO⟩, h1, h2⟩ := S
  show wpAny _ _ (field (.ref z) 2 >>= _) _ _ _; refine wpAny_bind (wpAny_field hz rfl (x := .bool false) rfl ?_)
  show wpAny _ _ (field (.ref z) 3 >>= _) _ _ _; refine wpAny_bind (wpAny_field hz rfl (x := .ref TI) rfl (wpAny_bind (wpAny_seqItems hTI rfl ?_)))
  show wpAny _ _ (Builtin.SmallTypes.ownedTupleIsFree (.ref z) >>= _) _ _ _; refine wpAny_bind ?_
  unfold Builtin.SmallTypes.ownedTupleIsFree; refine wpAny_bind (wpAny_field hz rfl (x := .none) rfl (wpAny_pure ?_)); simp only [if_true]
  refine wpAny_bind (wpAny_rule (wpAny_bind (wpAny_field hz rfl (x := .ref TO) rfl ?_)))
  refine wpAny_bind (wpAny_setField_rec hz (by simp) fun g1 z1 e1 => ?_)
  replace z1 : IsZip g1 z TI TO .ellipsis := z1; refine wpAny_bind ?_
  simp only [List.zipIdx_cons, List.zipIdx_nil, List.forIn_cons, List.forIn_nil]; refine wpAny_bind (wpAny_bind (wpAny_onRaise ?_))
  show wpAny _ _ (Builtin.SmallTypes.nextOf (.ref i1) >>= _) _ _ _
  have k1 : ∀ c o, c ≠ z → s.heap.get? c = some o → g1.get? c = some o := fun c o hc e => e1.extBut c o hc e
  refine wpAny_bind (wpAny_nextOf_ascii_item (s := { s with heap := g1 }) (strIter_at h1 fun o q => k1 i1 o D.i1z q) hx fun g2 t2 e2 => wpAny_pure ?_)
  have k2 : ∀ c o, c ≠ z → c ≠ i1 → s.heap.get? c = some o → g2.get? c = some o := fun c o hc hd e => e2.extBut c o hd (k1 c o hc e)
  have p2 : IsPair g2 TO a b := k2 TO _ D.TOz D.TOi1 hTO
  refine wpAny_bind (wpAny_seqItems p2 rfl (wpAny_bind (wpAny_updateSeq_pair p2 fun g3 p3 e3 => ?_)))
  replace p3 : IsPair g3 TO (.str ⟨#[x]⟩ s.toks) b := p3; refine wpAny_bind (wpAny_letGo (wpAny_pure ?_)); refine wpAny_bind (wpAny_bind (wpAny_onRaise ?_))
  show wpAny _ _ (Builtin.SmallTypes.nextOf (.ref i2) >>= _) _ _ _
  have k3 : ∀ c o, c ≠ z → c ≠ i1 → c ≠ TO → s.heap.get? c = some o → g3.get? c = some o := fun c o hc hd he e => e3.extBut c o he (k2 c o hc hd e)
  refine wpAny_bind (next_item (s := { s with heap := g3, toks := s.toks + 1 }) (h2.at fun o q => k3 i2 o D.i2z D.i12.symm D.TOi2.symm q) (hl2.at fun o q => k3 l2 o D.l2z D.l2i1 D.l2TO q) hy fun g4 t4 e4 => wpAny_pure ?_)
  have p4 : IsPair g4 TO (.str ⟨#[x]⟩ s.toks) b := e4.extBut _ _ D.TOi2 p3
  refine wpAny_bind (wpAny_seqItems p4 rfl (wpAny_bind (wpAny_updateSeq_pair p4 fun g5 p5 e5 => ?_)))
  replace p5 : IsPair g5 TO (.str ⟨#[x]⟩ s.toks) y := p5; refine wpAny_bind (wpAny_letGo (wpAny_pure (wpAny_pure ?_))); refine wpAny_bind (wpAny_seqItems p5 rfl (wpAny_bind (wpAny_newTuple ?_)))
  have sz : g5.objs.size = s.heap.objs.size := by rw [e5.1, e4.1, e3.1, e2.1, e1.1]
  have z5 : IsZip g5 z TI TO .ellipsis := e5.extBut _ _ D.TOz.symm (e4.extBut _ _ D.i2z.symm (e3.extBut _ _ D.TOz.symm (e2.extBut _ _ D.i1z.symm z1)))
  have k5 : ∀ c o, c ≠ z → c ≠ TO → c ≠ i1 → c ≠ i2 → s.heap.get? c = some o → g5.get? c = some o := fun c o c1 c2 c3 c4 e => e5.extBut _ _ c2 (e4.extBut _ _ c4 (k3 c o c1 c3 c2 e))
  have t5 : g5.IsStrIter i1 "str_ascii_iterator" w1 t1 (k + 1) := strIter_at t2 fun o q => e5.extBut _ _ D.TOi1.symm (e4.extBut _ _ D.i12 (e3.extBut _ _ D.TOi1.symm q))
  have u5 : IterAt b2 g5 i2 l2 (k + 1) := t4.at fun o q => e5.extBut _ _ D.TOi2.symm q
  have zlt : z < g5.objs.size := Heap.lt_size z5
  show wpAny _ _ (Builtin.SmallTypes.ownedTupleHandOut (.ref z) (.ref g5.objs.size) >>= _) _ _ _; refine wpAny_bind ?_
  unfold Builtin.SmallTypes.ownedTupleHandOut
  have z6 : IsZip (g5.push { cls := .type "tuple", data := .seq #[.str ⟨#[x]⟩ s.toks, y] }) z TI TO .ellipsis := Heap.get?_push_of_some _ z5
  refine wpAny_bind (wpAny_setField_rec z6 (by simp) fun g7 z7 e7 => ?_)
  replace z7 : IsZip g7 z TI TO (rawInt g5.objs.size) := z7; refine wpAny_setField_rec z7 (by simp) fun g8 z8 e8 => ?_
  replace z8 : IsZip g8 z TI TO (rawInt g5.objs.size) := z8
  have up : ∀ c o, c ≠ z → g5.get? c = some o → g8.get? c = some o := fun c o c1 e => e8.extBut _ _ c1 (e7.extBut _ _ c1 (Heap.get?_push_of_some _ e))
  have p8 : IsPair g8 g5.objs.size (.str ⟨#[x]⟩ s.toks) y := e8.extBut _ _ (Nat.ne_of_gt zlt) (e7.extBut _ _ (Nat.ne_of_gt zlt) (Heap.get?_push_size _ rfl))
  have s8 : g8.objs.size = g5.objs.size + 1 := by rw [e8.1, e7.1, Heap.size_push]
  rw [sz] at z8 p8 s8
  refine wpAny_pure ⟨_, rfl, ?_⟩
  show Q (.ref g5.objs.size) _
  rw [sz]
  exact hQ g8 ⟨z8, up _ _ D.TIz (k5 TI _ D.TIz D.TITO D.TIi1 D.TIi2 hTI), ⟨_, _, up _ _ D.TOz p5⟩, strIter_at t5 fun o q => up _ o D.i1z q, u5.at fun o q => up _ o D.i2z q⟩ p8 s8 fun c o c1 c2 c3 c4 e => up c o c1 (k5 c o c1 c2 c3 c4 e)
theorem zip_endS {b2 : Bool} {w1 : Str} {t1 : Tok} {z TI TO i1 i2 l2 : Addr} {k : Nat} {ys : Array Value} {Q : Fin → Shared → Prop} (hh : A.handled = none) (D : ZipApart z TI TO i1 i2 l2 l2) (S : ZStS b2 w1 t1 z TI TO i1 i2 l2 .none k s.heap)
    (hl2 : SqAt b2 s.heap l2 ys) (hend : w1.cps[k]? = none ∨ ys[k]? = none)
    (hE : ∀ h' e, (∀ c o, c ≠ z → c ≠ TO → c ≠ i1 → c ≠ i2 → s.heap.get? c = some o → h'.get? c = some o) → (∃ o, h'.get? e = some o ∧ o.cls = .type "StopIteration") → ∀ tk, E (.ref e) { s with heap := h', toks := tk }) :
    wpAny (model prog w) A (Builtin.«zip.__next__» ⟨[.ref z], []⟩) Q E s := by
  obtain ⟨hz, hTI, ⟨a, b, hTO⟩, h1, h2⟩ := S
  show wpAny _ _ (field (.ref z) 2 >>= _) _ _ _; refine wpAny_bind (wpAny_field hz rfl (x := .bool false) rfl ?_)
  show wpAny _ _ (field (.ref z) 3 >>= _) _ _ _; refine wpAny_bind (wpAny_field hz rfl (x := .ref TI) rfl (wpAny_bind (wpAny_seqItems hTI rfl ?_)))
  show wpAny _ _ (Builtin.SmallTypes.ownedTupleIsFree (.ref z) >>= _) _ _ _; refine wpAny_bind ?_
  unfold Builtin.SmallTypes.ownedTupleIsFree; refine wpAny_bind (wpAny_field hz rfl (x := .none) rfl (wpAny_pure ?_)); simp only [if_true]
  refine wpAny_bind (wpAny_rule (wpAny_bind (wpAny_field hz rfl (x := .ref TO) rfl ?_)))
  refine wpAny_bind (wpAny_setField_rec hz (by simp) fun g1 z1 e1 => ?_)
  replace z1 : IsZip g1 z TI TO .ellipsis := z1; refine wpAny_bind ?_
  simp only [List.zipIdx_cons, List.zipIdx_nil, List.forIn_cons, List.forIn_nil]; refine wpAny_bind (wpAny_bind (wpAny_onRaise ?_))
  show wpAny _ _ (Builtin.SmallTypes.nextOf (.ref i1) >>= _) _ _ _
  have k1 : ∀ c o, c ≠ z → s.heap.get? c = some o → g1.get? c = some o := fun c o hc e => e1.extBut c o hc e
  cases hx : w1.cps[k]? with
  | none =>
    refine wpAny_bind (wpAny_nextOf_ascii_end (s := { s with heap := g1 }) hh (strIter_at h1 fun o q => k1 i1 o D.i1z q) hx fun g2 e e2 he => ?_)
    obtain ⟨oe, hoe, hce⟩ := he
    have z2 : IsZip g2 z TI TO .ellipsis := e2 _ _ D.i1z.symm z1
    have ez : e ≠ z := fun q => by subst q; rw [z2] at hoe; cases hoe; simp at hce
    exact wpAny_setField_rec z2 (by simp) fun g3 _ e3 => hE g3 e (fun c o c1 _ c3 _ q => e3.extBut _ _ c1 (e2 _ _ c3 (k1 c o c1 q))) ⟨oe, e3.extBut _ _ ez hoe, hce⟩ _
  | some x =>
    have hy : ys[k]? = none := by
      rcases hend with q | q
      · rw [hx] at q; cases q
      · exact q
    refine wpAny_bind (wpAny_nextOf_ascii_item (s := { s with heap := g1 }) (strIter_at h1 fun o q => k1 i1 o D.i1z q) hx fun g2 t2 e2 => wpAny_pure ?_)
    have k2 : ∀ c o, c ≠ z → c ≠ i1 → s.heap.get? c = some o → g2.get? c = some o := fun c o hc hd e => e2.extBut c o hd (k1 c o hc e)
    have p2 : IsPair g2 TO a b := k2 TO _ D.TOz D.TOi1 hTO
    refine wpAny_bind (wpAny_seqItems p2 rfl (wpAny_bind (wpAny_updateSeq_pair p2 fun g3 p3 e3 => ?_)))
    refine wpAny_bind (wpAny_letGo (wpAny_pure ?_)); refine wpAny_bind (wpAny_bind (wpAny_onRaise ?_))
    show wpAny _ _ (Builtin.SmallTypes.nextOf (.ref i2) >>= _) _ _ _
    have k3 : ∀ c o, c ≠ z → c ≠ i1 → c ≠ TO → s.heap.get? c = some o → g3.get? c = some o := fun c o hc hd he e => e3.extBut c o he (k2 c o hc hd e)
    refine wpAny_bind (next_end (s := { s with heap := g3, toks := s.toks + 1 }) hh (h2.at fun o q => k3 i2 o D.i2z D.i12.symm D.TOi2.symm q) (hl2.at fun o q => k3 l2 o D.l2z D.l2i1 D.l2TO q) hy fun g4 e e4 he => ?_)
    obtain ⟨oe, hoe, hce⟩ := he
    have z4 : IsZip g4 z TI TO .ellipsis := e4 _ _ D.i2z.symm (e3.extBut _ _ D.TOz.symm (e2.extBut _ _ D.i1z.symm z1))
    have ez : e ≠ z := fun q => by subst q; rw [z4] at hoe; cases hoe; simp at hce
    exact wpAny_setField_rec z4 (by simp) fun g5 _ e5 => hE g5 e (fun c o c1 c2 c3 c4 q => e5.extBut _ _ c1 (e4 _ _ c4 (k3 c o c1 c3 c2 q))) ⟨oe, e5.extBut _ _ ez hoe, hce⟩ _
end
abbrev zs1 (w1 : Str) (t1 : Tok) (h : Heap) : Heap := h.push { cls := .type (strIterType w1), data := .fields #[.str w1 t1, .int 0 0] }
abbrev zs2 (w1 : Str) (t1 : Tok) (b2 : Bool) (h : Heap) (l2 : Addr) : Heap := (zs1 w1 t1 h).push { cls := .type (kn b2), data := .fields #[.ref l2, .int 0 0] }
abbrev zs3 (w1 : Str) (t1 : Tok) (b2 : Bool) (h : Heap) (l2 : Addr) : Heap := (zs2 w1 t1 b2 h l2).push { cls := .type "tuple", data := .seq #[.ref h.objs.size, .ref (zs1 w1 t1 h).objs.size] }
abbrev zs4 (w1 : Str) (t1 : Tok) (b2 : Bool) (h : Heap) (l2 : Addr) : Heap := (zs3 w1 t1 b2 h l2).push { cls := .type "tuple", data := .seq #[.none, .none] }
abbrev zs5 (w1 : Str) (t1 : Tok) (b2 : Bool) (h : Heap) (l2 : Addr) : Heap := (zs4 w1 t1 b2 h l2).push { cls := .type "zip", data := .fields #[.none, .bool false, .bool false, .ref (zs2 w1 t1 b2 h l2).objs.size, .ref (zs3 w1 t1 b2 h l2).objs.size] }
 set_option maxHeartbeats 2000000 in
theorem zip_madeS (w1 : Str) (t1 : Tok) (b2 : Bool) (l2 : Addr) (ys : Array Value) : Meets (Builtin.«zip.__new__» ⟨[.type "zip", .str w1 t1, .ref l2], []⟩) (fun _ R s => SqAt b2 s.heap l2 ys ∧
      R (.ok (.ret (.ref (zs4 w1 t1 b2 s.heap l2).objs.size))) { s with heap := zs5 w1 t1 b2 s.heap l2 }) :=
  .of_wp fun prog w A R s h => by
    obtain ⟨hp, g, d, tk, os⟩ := s; obtain ⟨hl2, h⟩ := h
    have hsub := sub_zip
    have q2 : SqAt b2 (Shared.heap ⟨hp.push { cls := .type (strIterType w1), data := .fields #[.str w1 t1, .int 0 0] }, g, d, tk, os⟩) l2 ys := SqAt.at hl2 fun o e => Heap.get?_push_of_some _ e
    wp_walk using wpAny_pyIter_strU, iter_sq q2
    exact ⟨_, rfl, h⟩
theorem call_zipS {prog : Program} {w : World} {A : Around} {E : Value → Shared → Prop} {s : Shared} {w1 : Str} {t1 : Tok} {b2 : Bool} {l2 : Addr} {ys : Array Value} {Q : Value → Shared → Prop} (hw : strIterType w1 = "str_ascii_iterator") (hl2 : SqAt b2 s.heap l2 ys)
    (h : ∀ h', ZStS b2 w1 t1 (s.heap.objs.size + 4) (s.heap.objs.size + 2) (s.heap.objs.size + 3) s.heap.objs.size (s.heap.objs.size + 1) l2 .none 0 h' → (∀ c o, s.heap.get? c = some o → h'.get? c = some o) → h'.objs.size = s.heap.objs.size + 5 →
      Q (.ref (s.heap.objs.size + 4)) { s with heap := h' }) : wpAny (model prog w) A (call (.type "zip") [.str w1 t1, .ref l2]) Q E s := by
  refine callType_new F.called_zip (by decide) (F.typeCall_zip_2 _ _) (F.newCall_zip_2 _ _) (fun obj => F.args_object_init_3 obj _ _) F.entry_zip_new (zip_madeS w1 t1 b2 l2 ys) ⟨hl2, ?_⟩
  have z1 : (zs1 w1 t1 s.heap).objs.size = s.heap.objs.size + 1 := Heap.size_push ..
  have z2 : (zs2 w1 t1 b2 s.heap l2).objs.size = s.heap.objs.size + 2 := by rw [Heap.size_push, z1]
  have z3 : (zs3 w1 t1 b2 s.heap l2).objs.size = s.heap.objs.size + 3 := by rw [Heap.size_push, z2]
  have z4 : (zs4 w1 t1 b2 s.heap l2).objs.size = s.heap.objs.size + 4 := by rw [Heap.size_push, z3]
  have z5 : (zs5 w1 t1 b2 s.heap l2).objs.size = s.heap.objs.size + 5 := by rw [Heap.size_push, z4]
  have up1 : ∀ {h : Heap} {o : Obj} {c : Addr} {u : Obj}, h.get? c = some u → (h.push o).get? c = some u := fun e => Heap.get?_push_of_some _ e
  have g5 : (zs5 w1 t1 b2 s.heap l2).get? (zs4 w1 t1 b2 s.heap l2).objs.size = some _ := Heap.get?_push_size _ rfl
  have g4 : (zs5 w1 t1 b2 s.heap l2).get? (zs3 w1 t1 b2 s.heap l2).objs.size = some _ := up1 (Heap.get?_push_size _ rfl)
  have g3 : (zs5 w1 t1 b2 s.heap l2).get? (zs2 w1 t1 b2 s.heap l2).objs.size = some _ := up1 (up1 (Heap.get?_push_size _ rfl))
  have g2 : (zs5 w1 t1 b2 s.heap l2).get? (zs1 w1 t1 s.heap).objs.size = some _ := up1 (up1 (up1 (Heap.get?_push_size _ rfl)))
  have g1 : (zs5 w1 t1 b2 s.heap l2).get? s.heap.objs.size = some _ := up1 (up1 (up1 (up1 (Heap.get?_push_size _ rfl))))
  show _ ∧ _
  rw [z2, z3, z4] at g5
  rw [z1, z2] at g3
  rw [z3] at g4
  rw [z1] at g2
  rw [z4]
  refine ⟨⟨_, g5, rfl⟩, h _ ⟨g5, g3, ⟨_, _, g4⟩, ?_, ?_⟩ (fun c o x => up1 (up1 (up1 (up1 (up1 x))))) z5⟩
  · exact ⟨_, g1, by rw [hw], rfl⟩
  · cases b2 <;> exact ⟨_, g2, rfl, rfl⟩
theorem pyNext_zip_itemS {prog : Program} {w : World} {A : Around} {E : Value → Shared → Prop} {s : Shared} {b2 : Bool} {w1 : Str} {t1 : Tok} {z TI TO i1 i2 l2 : Addr} {k : Nat} {ys : Array Value} {x : Nat} {y : Value} {Q : Option Value → Shared → Prop} (D : ZipApart z TI TO i1 i2 l2 l2)
    (S : ZStS b2 w1 t1 z TI TO i1 i2 l2 .none k s.heap) (hl2 : SqAt b2 s.heap l2 ys) (hx : w1.cps[k]? = some x) (hy : ys[k]? = some y)
    (hQ : ∀ h', ZStS b2 w1 t1 z TI TO i1 i2 l2 (rawInt s.heap.objs.size) (k + 1) h' → IsPair h' s.heap.objs.size (.str ⟨#[x]⟩ s.toks) y → h'.objs.size = s.heap.objs.size + 1 →
      (∀ c o, c ≠ z → c ≠ TO → c ≠ i1 → c ≠ i2 → s.heap.get? c = some o → h'.get? c = some o) → Q (some (.ref s.heap.objs.size)) { s with heap := h', toks := s.toks + 1 }) : wpAny (model prog w) A (pyNext (.ref z)) Q E s := by
  have hT : s.TypeIs (.ref z) "zip" := ⟨_, S.zip, rfl⟩; unfold pyNext
  refine wpAny_bind (wpAny_attempt (wpAny_callSpecial?_slot (name := Str.ofString "__next__") hT F.slot_zip_next (wpAny_call_entry F.slot_zip_next hT F.entry_zip_next ?_ (F.args_zip_next_1 _))))
  exact zip_itemS D S hl2 hx hy fun h' a1 a2 a3 a4 => wpAny_pure (hQ h' a1 a2 a3 a4)
theorem pyNext_zip_endS {prog : Program} {w : World} {A : Around} {E : Value → Shared → Prop} {s : Shared} {b2 : Bool} {w1 : Str} {t1 : Tok} {z TI TO i1 i2 l2 : Addr} {k : Nat} {ys : Array Value} {Q : Option Value → Shared → Prop} (hh : A.handled = none) (D : ZipApart z TI TO i1 i2 l2 l2)
    (S : ZStS b2 w1 t1 z TI TO i1 i2 l2 .none k s.heap) (hl2 : SqAt b2 s.heap l2 ys) (hend : w1.cps[k]? = none ∨ ys[k]? = none)
    (hQ : ∀ h', (∀ c o, c ≠ z → c ≠ TO → c ≠ i1 → c ≠ i2 → s.heap.get? c = some o → h'.get? c = some o) → ∀ tk, Q none { s with heap := h', toks := tk }) : wpAny (model prog w) A (pyNext (.ref z)) Q E s := by
  have hT : s.TypeIs (.ref z) "zip" := ⟨_, S.zip, rfl⟩; unfold pyNext
  refine wpAny_bind (wpAny_attempt (wpAny_callSpecial?_slot (name := Str.ofString "__next__") hT F.slot_zip_next (wpAny_call_entry F.slot_zip_next hT F.entry_zip_next ?_ (F.args_zip_next_1 _))))
  refine zip_endS hh D S hl2 hend fun h' e hk ⟨o, ho, hc⟩ tk => ?_
  exact wpAny_bind (wpAny_isInstance (T := "StopIteration") (b := true) ⟨o, ho, hc⟩ isSubtype_stop (wpAny_pure (hQ _ hk _)))
def ItzS (K : PySem.W.Frag) (b2 : Bool) (w1 : Str) (a2 : Addr) : It :=
  ⟨fun i H => ∃ ys x y, SqX K b2 H a2 ys ∧ w1.cps[i]? = some x ∧ ys[i]? = some y,
   fun i H v H' => ∃ p x y, H p = none ∧ v = .ref p ∧ H' = upd H p (.tup [.str ⟨#[x]⟩, y]) ∧ w1.cps[i]? = some x ∧ ∀ ys, SqX K b2 H a2 ys → ys[i]? = some y,
   fun i H => ∃ ys, SqX K b2 H a2 ys ∧ (w1.cps.size ≤ i ∨ ys.length ≤ i)⟩
theorem turn_zipS {P : Program} {w : World} {K : PySem.W.Frag} {es : List Expr} {ek : Nat} {pos : Pos} (b2 : Bool) {w1 : Str} {t1 : Tok} {z TI TO i1 i2 a2 : Addr} (D : ZipApart z TI TO i1 i2 a2 a2) :
    Turn P w K (.Tuple es ek pos) (ItzS K b2 w1 a2) [z, TI, TO, i1, i2] z (fun i h => ZStS b2 w1 t1 z TI TO i1 i2 a2 .none i h) where
  mem := by simp
  obj := fun i h st b hb => by
    simp only [List.mem_cons, List.not_mem_nil, or_false] at hb
    rcases hb with rfl | rfl | rfl | rfl | rfl
    · exact ⟨_, st.zip, fun v q => by cases q⟩
    · exact ⟨_, st.ti, fun v q => by cases q⟩
    · obtain ⟨a, b, e⟩ := st.to
      exact ⟨_, e, fun v q => by cases q⟩
    · exact strIter_obj st.it1
    · exact st.it2.obj
  keep := fun i h h' st k => st.at k
  item := by
    intro X hP hw hK hc i pins s σ H E I hf st hg
    subst hP hw hK
    obtain ⟨ys, x, y, h2, hx, hy⟩ := hg
    obtain ⟨ws, rw', q2⟩ := I.sq h2
    obtain ⟨v, ev, ry⟩ := rw'.get hy
    refine pyNext_zip_itemS D st q2 (x := x) (y := v) hx (by simpa using ev) fun h' S p8 s8 k => ?_
    refine ⟨_, rfl, wpAny_letOwnedTupleGo_zip S.zip fun h'' z' e' => ?_⟩
    have zlt : z < s.heap.objs.size := Heap.lt_size st.zip
    have zp : s.heap.objs.size ≠ z := Nat.ne_of_gt zlt
    have kk : ∀ b o, b ∉ [z, TO, i1, i2] → s.heap.get? b = some o → h''.get? b = some o := fun b o hb e => by
      simp only [List.mem_cons, List.not_mem_nil, or_false, not_or] at hb
      exact e'.extBut _ _ hb.1 (k b o hb.1 hb.2.1 hb.2.2.1 hb.2.2.2 e)
    have pp : IsPair h'' s.heap.objs.size (.str ⟨#[x]⟩ s.toks) v := e'.extBut _ _ zp p8
    refine ⟨.ref s.heap.objs.size, upd H s.heap.objs.size (.tup [.str ⟨#[x]⟩, y]), I.drawn (t' := s.toks + 1) (ch := [z, TO, i1, i2]) (fun b hb => hf b ?_) kk (Nat.le_refl _) ?_, rfl, ⟨_, x, y, I.fresh, rfl, rfl, hx, fun ys' hq => ?_⟩, ?_, fun b hb => ?_⟩
    · simp only [List.mem_cons, List.not_mem_nil, or_false] at hb ⊢
      rcases hb with rfl | rfl | rfl | rfl <;> simp
    · exact ⟨by show 2 ≤ sizeLine; rw [sizeLine_eq]; decide, [.str ⟨#[x]⟩ s.toks, v], .cons ⟨_, rfl⟩ (.cons ry .nil), ⟨_, pp, rfl, _, rfl⟩⟩
    · rw [I.sq_inj hq h2]; exact hy
    · exact ⟨z', e'.extBut _ _ D.TIz S.ti, (let ⟨a, b, e⟩ := S.to; ⟨a, b, e'.extBut _ _ D.TOz e⟩), strIter_at S.it1 fun o q => e'.extBut _ _ D.i1z q, S.it2.at fun o q => e'.extBut _ _ D.i2z q⟩
    · obtain ⟨o, e, _⟩ : ∃ o, s.heap.get? b = some o ∧ ∀ v, o.data ≠ .cell v := by
        simp only [List.mem_cons, List.not_mem_nil, or_false] at hb
        rcases hb with rfl | rfl | rfl | rfl | rfl
        · exact ⟨_, st.zip, fun v q => by cases q⟩
        · exact ⟨_, st.ti, fun v q => by cases q⟩
        · obtain ⟨a, b, e⟩ := st.to
          exact ⟨_, e, fun v q => by cases q⟩
        · exact strIter_obj st.it1
        · exact st.it2.obj
      rw [upd_ne (Nat.ne_of_lt (Heap.lt_size e))]
      exact (hf b hb).1
  done := by
    intro X hP hw hK hc i pins s σ H E I hf st hg
    subst hP hw hK
    obtain ⟨ys, h2, hl⟩ := hg
    obtain ⟨ws, rw', q2⟩ := I.sq h2
    have l2 := rw'.length
    refine pyNext_zip_endS (I.ok.hd hc) D st q2 ?_ fun h' k tk => ⟨rfl, I.turnedL (t' := tk) (ch := [z, TO, i1, i2]) (fun b hb => hf b ?_) fun b o hb e => ?_⟩
    · rcases hl with hl | hl
      · exact .inl (by simp; omega)
      · exact .inr (by simp; omega)
    · simp only [List.mem_cons, List.not_mem_nil, or_false] at hb ⊢
      rcases hb with rfl | rfl | rfl | rfl <;> simp
    · simp only [List.mem_cons, List.not_mem_nil, or_false, not_or] at hb
      exact k b o hb.1 hb.2.1 hb.2.2.1 hb.2.2.2 e
  self := fun _ _ _ _ _ st h => wpAny_pyIter_zip st.zip h
def iZipS (K : PySem.W.Frag) (b2 : Bool) (ta : TA) : TI := fun σ H R => ta σ H fun vs H1 => ∃ w1 a2, vs = [.str w1, .ref a2] ∧ strIterType w1 = "str_ascii_iterator" ∧ (∃ ys, SqX K b2 H1 a2 ys) ∧ R (ItzS K b2 w1 a2) H1
theorem pi_zipS {X : Cx} {es : List Expr} {ek : Nat} {tpos p pos : Pos} (b2 : Bool) {e1 e2 : Expr} {ta : TA} (hg : Gl X "zip") (hm : X.mg "zip" = none) (ha : PA X [e1, e2] ta)
    (he : starEach [e1, e2] X.env = (false, eval e1 X.env) :: starEach [e2] X.env := by rfl) (hpl : (backTo pos (starEach [e2] X.env)).any (·.1) = false := by rfl) :
    PI X (.Tuple es ek tpos) (.Call (.Name "zip" p) [e1, e2] [] pos) (iZipS X.K b2 ta) := by
  intro pins s σ H R I h
  refine wpAny_Call_Name_kw (ld_blt I hg hm boot_zip ?_ (by decide) (by decide))
  refine PyProof.Rows.callWith_type1 (thn (ha pos pins s σ H _ I h) fun us s1 ⟨vs, H1, I1, r1, w1, a2, ev, hw, ⟨ys, h2⟩, q⟩ => ?_) he hpl
  subst ev
  obtain ⟨u1, u2, rfl, e1', e2'⟩ := r1.two
  obtain ⟨t1, e1'⟩ := e1'; cases e1'; cases e2'
  obtain ⟨ws, rw', q2⟩ := I1.sq h2
  have lt2 : a2 < s1.heap.objs.size := by cases b2 <;> (obtain ⟨o, e, _⟩ := q2; exact Heap.lt_size e)
  refine call_zipS hw q2 fun h' S k z5 => wpAny_pyIter_zip S.zip ?_
  have I2 : Inv X pins σ H1 { s1 with heap := h' } := I1.kept (t' := s1.toks) k
  refine ⟨s1.heap.objs.size + 4, [s1.heap.objs.size + 4, s1.heap.objs.size + 2, s1.heap.objs.size + 3, s1.heap.objs.size, s1.heap.objs.size + 1], _, _, H1, rfl, I2, turn_zipS b2 (zipApart_new lt2 lt2), S, fun b hb => ?_, q⟩
  have hb' : s1.heap.objs.size ≤ b := by
    simp only [List.mem_cons, List.not_mem_nil, or_false] at hb
    rcases hb with rfl | rfl | rfl | rfl | rfl
    · exact Nat.le_add_right _ 4
    · exact Nat.le_add_right _ 2
    · exact Nat.le_add_right _ 3
    · exact Nat.le_refl _
    · exact Nat.le_add_right _ 1
  exact I1.fpOk hb' (I1.hok.fresh hb')
end L2
namespace L2
open PySem PySem.Spec PyProof.Rows
section
variable {prog : Program} {w : World} {d : Addr} {ep : Nat} {es : Array DictEntry} {o : Obj}
theorem dsrc (hs : (d == sysModules) = false) (hc : o.cls = .type "dict") (hdd : o.data = .dict es ep) : PySem.W.KdlSrc prog w "dict" d d es.size (fun i v => ∃ e, es[i]? = some e ∧ v = e.key) (fun h => h.get? d = some o) where
  type := fun s hm => ⟨o, hm, hc⟩
  there := fun _ hm => ⟨Heap.lt_size hm, Heap.lt_size hm⟩
  keep := fun _ _ hm hk => hk d (.inl rfl) o hm
  notList := by decide
  notTuple := by decide
  hint := fun _ _ s _ hm hq => PySem.W.kdl_hint_dict (s := s) ⟨o, hm, hc⟩ hq
  iter := fun A s hh hm => ⟨_, fun i h => h.IsKeyIter s.heap.objs.size d i es.size ep ∧ h.get? d = some o, (fun _ _ hq => dict_iter hs ⟨o, hm, hc⟩ hm hdd hq), {
      sub := fun b hb => by simp at hb; simp [hb]
      frame := fun _ _ _ st hk => ⟨st.1.at fun o e => hk _ (by simp) o e, hk d (by simp) o st.2⟩
      item := fun i s' Q E hi st hQ => by
        obtain ⟨e, he⟩ : ∃ e, es[i]? = some e := ⟨es[i], Array.getElem?_eq_getElem hi⟩
        refine key_next st.1 st.2 hdd rfl he fun h' hit' hs' => ?_
        exact hQ e.key h' s'.toks ⟨e, he, rfl⟩ ⟨hit', hs'.extBut d o (Nat.ne_of_lt (Heap.lt_size hm)) st.2⟩ fun b o hb e => hs'.extBut b o (fun h => hb (by simp [h])) e
      done := fun s' Q E st hQ => key_end hh st.1 st.2 hdd rfl (Nat.le_refl _) fun h' he' => hQ h' s'.toks fun b o hb e => he' b o (fun h => hb (by simp [h])) e
      self := fun _ _ _ _ st hQ => wpAny_pyIter_keyiter st.1 hQ }, ⟨⟨_, Heap.get?_push_size _ rfl, rfl, rfl⟩, Heap.get?_push_of_some _ hm⟩⟩
end
section
variable {X : Cx}
theorem call_listD (hc : X.calm = true) : CallR X (.type "list") (fun xs H Q => ∃ d kvs, xs = [.ref d] ∧ Rd H d (.dT kvs) ∧ ∀ (l : Addr) (as : List Addr), H l = none → as.length = kvs.length → (∀ (i : Nat) k x, kvs[i]? = some (k, x) → ∃ a, as[i]? = some a ∧ H a = some (.tup (k.map kV))) →
    Q (.ref l) (upd H l (.lst (as.map V.ref)))) := by
  intro pins s σ H xs us Q I r h
  obtain ⟨d, kvs, rfl, hd, q⟩ := h
  obtain ⟨u, rfl, rx⟩ := vals1 r
  cases rx
  obtain ⟨zl, hds, ys, rel, ob, es, ep, g1, g2, g3, g4, g5, g6⟩ := dt_rd I.hok hd
  have le : es.size = kvs.length := (size_of_entries g4).trans (Paired.length rel).symm
  refine PySem.W.kdl_call (dsrc hds g2.1 g3) (I.ok.hd hc) g1 (by omega) fun h' tk acc c kp hS hI => ?_
  have row : ∀ (i : Nat) k x, kvs[i]? = some (k, x) → ∃ a, acc[i]? = some (.ref a) ∧ H a = some (.tup (k.map kV)) := fun i k x hk => by
    obtain ⟨y, hy, e1, e2, e3⟩ := Paired.at' rel hk
    have hi : i < acc.size := by
      rcases Nat.lt_or_ge i kvs.length with z | z
      · rw [hI.1]; omega
      · rw [List.getElem?_eq_none z] at hk; cases hk
    obtain ⟨e, he, hv⟩ := hI.2 i acc[i] (Array.getElem?_eq_getElem hi)
    have : es[i]? = some (entryOfKey (tupleKind (mixKind X.prog X.w)) y) := by
      have z : es.toList[i]? = some (entryOfKey (tupleKind (mixKind X.prog X.w)) y) := by rw [g4, List.getElem?_map, hy]; rfl
      simpa using z
    rw [this] at he; injection he with he; subst he
    exact ⟨y.2.1, by rw [Array.getElem?_eq_getElem hi, hv]; rfl, e2⟩
  obtain ⟨as, hl, has⟩ : ∃ as : List Addr, as.length = kvs.length ∧ acc.toList = as.map Value.ref := by
    have key : ∀ n, n ≤ kvs.length → ∃ as : List Addr, as.length = n ∧ acc.toList.take n = as.map Value.ref := by
      intro n
      induction n with
      | zero => intro _; exact ⟨[], rfl, rfl⟩
      | succ n ih =>
        intro hn
        obtain ⟨as, h1, h2⟩ := ih (by omega)
        obtain ⟨⟨k, x⟩, hk⟩ : ∃ p, kvs[n]? = some p := ⟨kvs[n], List.getElem?_eq_getElem (by omega)⟩
        obtain ⟨a, ha, _⟩ := row n k x hk
        refine ⟨as ++ [a], by rw [List.length_append, h1]; rfl, ?_⟩
        have ha' : acc.toList[n]? = some (Value.ref a) := by simpa using ha
        rw [List.take_add_one, ha', h2, List.map_append]; rfl
    obtain ⟨as, h1, h2⟩ := key kvs.length (Nat.le_refl _)
    refine ⟨as, h1, ?_⟩
    rwa [List.take_of_length_le (by rw [Array.length_toList, hI.1]; omega)] at h2
  have hD : h'.get? s.heap.objs.size = some { cls := .type "list", data := .seq (as.map Value.ref).toArray c } := by rw [← has]; simpa using hS
  have vv : Vals (as.map V.ref) (as.map Value.ref) := by
    clear has hl row hD
    induction as with
    | nil => exact .nil
    | cons a as ih => exact .cons rfl ih
  refine ⟨.ref s.heap.objs.size, _, I.laid (t' := tk) kp (Nat.le_refl _) ?_, rfl, q s.heap.objs.size as (I.hok.fresh (Nat.le_refl _)) hl fun i k x hk => ?_⟩
  · exact ⟨by rw [List.length_map, hl]; exact zl, _, c, vv, hD⟩
  · obtain ⟨a, ha, e⟩ := row i k x hk
    refine ⟨a, ?_, e⟩
    have ha' : acc.toList[i]? = some (Value.ref a) := by simpa using ha
    rw [has, List.getElem?_map] at ha'
    cases q2 : as[i]? with
    | none => rw [q2] at ha'; cases ha'
    | some b => rw [q2] at ha'; injection ha' with ha'; injection ha' with ha'; rw [ha']
def rJoin (K : PySem.W.Frag) : V → List V → Hp → VK → Prop := fun x vs H Q => ∃ sep l ws, x = .str sep ∧ vs = [.ref l] ∧ SqL K H l (ws.map V.str) ∧ JoinOk sep ws = true ∧ Q (.str (Txt.join sep ws)) H
theorem mt_join : MtR X "str.join" (rJoin X.K) := by
  intro pins s σ H x vs u us Q I rx rv h
  obtain ⟨sep, l, ws, rfl, rfl, hl, hok, q⟩ := h
  obtain ⟨t, rfl⟩ := rx
  obtain ⟨u, rfl, ru⟩ := rv.one
  cases ru
  obtain ⟨its, rv', p, hz⟩ := I.list hl
  have hls : s.heap.IsList l its.toArray := p.isList
  obtain ⟨st, e1, e2⟩ : ∃ st : List (Str × Tok), its = strValues st ∧ st.map (·.1) = ws := by
    clear hl hok q p hls hz
    induction ws generalizing its with
    | nil => cases rv'; exact ⟨[], rfl, rfl⟩
    | cons a ws ih =>
      cases rv' with
      | cons r1 r2 =>
        obtain ⟨t, rfl⟩ := r1
        obtain ⟨st, rfl, rfl⟩ := ih _ r2
        exact ⟨(a, t) :: st, rfl, rfl⟩
  subst e1
  exact SC.join hls e2 hok fun t' k => ⟨.str _, H, I.kept (t' := k) fun _ _ e => e, ⟨t', rfl⟩, q⟩
theorem pe_join {sep : Str} {jj : Nat} {cp apos cpos : Pos} {K : PySem.W.Frag} {e : Expr} {es : List Expr} {t : TA} (hK : X.K = K) (ha : PA X (e :: es) t)
    (hfew : ((backTo cpos (starEach (e :: es) X.env)).all (fun x => !x.1) && (backToKw cpos (keywordEach [] X.env)).all (fun x => x.1.isSome)
      && decide ((e :: es).length + ([] : List Keyword).length + (if ([] : List Keyword).isEmpty then 0 else 1) < 30)) = true := by rfl)
    (hline : (apos.endLine == cpos.line) = true := by rfl) (hs : starEach (e :: es) X.env = (false, eval e X.env) :: starEach es X.env := by rfl) (hplain : (backTo cpos (starEach es X.env)).any (·.1) = false := by rfl) :
    PE X (.Call (.Attribute (.Constant (.str sep) jj cp) "join" apos) (e :: es) [] cpos) (tBM K "str" (rJoin K) (tC (.str sep)) t) := by
  subst hK
  exact pe_bm PySem.F.plainAttrs_str PySem.F.slot_str_join PySem.F.type_str_join mt_join pe_str ha rfl hfew hline hs hplain
end
theorem pi_zipSK {X : Cx} {K : PySem.W.Frag} {es : List Expr} {ek : Nat} {tpos p pos : Pos} (hK : X.K = K) (b2 : Bool) {e1 e2 : Expr} {ta : TA} (hg : Gl X "zip") (hm : X.mg "zip" = none) (ha : PA X [e1, e2] ta)
    (he : starEach [e1, e2] X.env = (false, eval e1 X.env) :: starEach [e2] X.env := by rfl) (hpl : (backTo pos (starEach [e2] X.env)).any (·.1) = false := by rfl) :
    PI X (.Tuple es ek tpos) (.Call (.Name "zip" p) [e1, e2] [] pos) (iZipS K b2 ta) := by
  subst hK; exact pi_zipS b2 hg hm ha he hpl
end L2
namespace L2
open PySem PySem.Spec PyProof.Rows
theorem call_maxT {X : Cx} (hc : X.calm = true) {K : PySem.W.Frag} (hK : X.K = K) : CallR X (.builtin "max") (fun xs H Q => ∃ t ys, xs = [.ref t] ∧ SqT K H t (ys.map V.int) ∧ ys ≠ [] ∧ ∀ M, M ∈ ys → (∀ a ∈ ys, a ≤ M) → Q (.int M) H) := by
  subst hK
  intro pins s σ H xs us Q I r h
  obtain ⟨t, ys, rfl, ht, ne, q⟩ := h
  obtain ⟨u, rfl, rx⟩ := vals1 r
  cases rx
  obtain ⟨its, rv, p, _⟩ := I.tuple ht
  have hT : s.heap.IsTuple t its.toArray := p
  have hlt : t < s.heap.objs.size := by obtain ⟨o, e, _⟩ := hT; exact Heap.lt_size e
  have hi : IntsAre its ys := intsAre_of rv
  have hl := hi.length
  have h0 : 0 < ys.length := by cases ys with | nil => exact absurd rfl ne | cons _ _ => simp
  refine call_max_walk (wpAny_pyIter_tuple hT ?_)
  refine ⟨_, [s.heap.objs.size, t], [s.heap.objs.size], _, _, _, _, rfl, Walks.tuple (A := X.A.in1) (I.ok.hd hc) _ t (Nat.ne_of_lt hlt) its.toArray, ⟨⟨_, Heap.get?_push_size _ rfl, rfl, rfl⟩, hT.push _⟩, fun b hb => ?_, by simp; omega, CmpOf.ints_gt (fun i => ys.getD i 0) (fun i v e => ?_), fun v h' tk hP hk => ?_⟩
  · show b < (s.heap.push _).objs.size
    rw [Heap.size_push]
    simp only [List.mem_cons, List.not_mem_nil, or_false] at hb
    rcases hb with z | z
    · rw [z]; exact Nat.lt_succ_self _
    · rw [z]; exact Nat.lt_succ_of_lt hlt
  · have e' : its[i]? = some v := by simpa using e
    have hi' : i < ys.length := by
      rcases Nat.lt_or_ge i its.length with z | z
      · omega
      · rw [List.getElem?_eq_none z] at e'; cases e'
    obtain ⟨tx, hu⟩ := hi.get i ys[i] (List.getElem?_eq_getElem hi')
    rw [hu] at e'
    cases e'
    exact ⟨tx, by simp [List.getD, hi']⟩
  · obtain ⟨b1, b2⟩ := argBest_gt (fun i => ys.getD i 0) (its.toArray.size - 1)
    have sz : its.toArray.size = ys.length := by simp; omega
    rw [sz] at b1 b2
    have hP' : its[argBest (fun i j => decide (ys.getD i 0 > ys.getD j 0)) (ys.length - 1)]? = some v := by
      have := hP
      rw [sz] at this
      simpa using this
    generalize argBest (fun i j => decide (ys.getD i 0 > ys.getD j 0)) (ys.length - 1) = m at b1 b2 hP'
    have hm : m < ys.length := by omega
    obtain ⟨tx, hu⟩ := hi.get m ys[m] (List.getElem?_eq_getElem hm)
    rw [hu] at hP'
    cases hP'
    refine ⟨.int ys[m], H, I.kept (t' := tk) fun b o e => hk b o (fun hmem => ?_) (Heap.get?_push_of_some _ e), ⟨tx, rfl⟩, q _ (List.getElem_mem hm) fun a ha => ?_⟩
    · exact absurd (Heap.lt_size e) (by rw [List.mem_singleton.mp hmem]; exact Nat.lt_irrefl _)
    · obtain ⟨j, hj, rfl⟩ := List.mem_iff_getElem.mp ha
      have := b2 j (by omega)
      simpa [List.getD, hj, hm] using this
theorem walk_zipS {K : PySem.W.Frag} {b2 : Bool} {H1 : Hp} {w1 : Str} {a2 : Addr} {ys : List V} (h2 : SqX K b2 H1 a2 ys) :
    Walk (ItzS K b2 w1 a2) H1 (min w1.cps.size ys.length) (fun i v H => ∃ p x y, v = .ref p ∧ H p = some (.tup [.str ⟨#[x]⟩, y]) ∧ w1.cps[i]? = some x ∧ ys[i]? = some y) := by
  refine ⟨fun i H' e hi => ?_, fun H' e => ⟨ys, e.sqX h2, ?_⟩, fun i H' x H2 e hi q => ?_⟩
  · have i1 : i < w1.cps.size := by omega
    have i2 : i < ys.length := by omega
    exact ⟨ys, w1.cps[i], ys[i], e.sqX h2, by simp [i1], by simp [i2]⟩
  · rcases Nat.le_total w1.cps.size ys.length with q | q
    · exact .inl (by omega)
    · exact .inr (by omega)
  · obtain ⟨p, u, v, hp, rfl, rfl, q1, q2⟩ := q
    exact ⟨Same.upd hp, p, u, v, rfl, upd_same, q1, q2 ys (e.sqX h2)⟩
def codeOfF (K : PySem.W.Frag) (f : Addr) : Option Addr := match K.lookup f with
  | some ⟨_, _, .func fd, _⟩ => (match fd.code with | .ref c => some c | _ => none)
  | _ => none
section
variable {P : Program} {w : World} {K : PySem.W.Frag} {mg : Str → Option Value} {base : Heap} {x qual : Str} {st : Stmt} {dV : Value} {f : Addr} {fd : FuncData} {N ps : List Str} {k : Nat} {sp : Sp}
theorem FunD.okL {cc : Addr} (F : FunD K x qual st dV f fd) (hcc : codeOfF K f = some cc) (S : FnScope N ps (defScope st)) (len : ∀ vs H Q E, sp vs H Q E → vs.length = ps.length)
    (hbody : ∀ (A : Around) (outer : List Env) (s : Shared) (H : Hp) (vs : List V) (Q : VK) (E : XK), Room k (A.deeper (envOfC qual (defScope st) s.heap.objs.size f (.ref cc))) → sp vs H Q E →
      ∃ t, PSs (cxOf CX0 P w K mg base N qual (defScope st) f (.ref cc) A outer s H E).nox (defBody st) t ∧ t { nx := fun _ H' => Q .non H', rt := Q } (start N vs) H) : FnOk P w K mg base CX0 (k + 1) f fd ps sp := by
  obtain ⟨oc, od, kV, doc, pm, an, cdv, ct, osl, rfl, lk, hcd⟩ := F.ex
  have e : cdv = .ref cc := by
    unfold codeOfF at hcc
    rw [lk] at hcc
    cases cdv with
    | ref c => injection hcc with z; rw [z]
    | _ => cases hcc
  subst e
  refine fn_of lk hcd S len fun A outer s H vs Q E hr hsp => ?_
  obtain ⟨t, h, q⟩ := hbody A outer s H vs Q E hr hsp
  exact ⟨t, h.nox, q⟩
end
end L2
namespace K1
def gI (a b : Int) : Int := ((Int.gcd a b : Nat) : Int)
theorem gI_pos {a b : Int} (h : b ≠ 0) : 0 < gI a b := by
  have : 0 < Int.gcd a b := Int.gcd_pos_of_ne_zero_right a h
  unfold gI; omega
theorem gI_one (a : Int) : gI a 1 = 1 := by unfold gI; simp
theorem gI_zero (a : Int) (h : 0 ≤ a) : gI a 0 = a := by unfold gI; rw [Int.gcd_zero_right]; omega
/-- one turn of the loop -/
theorem gI_step {a b : Int} (ha : 0 ≤ a) (hb : 0 < b) : gI b (Int.fmod a b) = gI a b := by
  unfold gI
  congr 1
  rw [Int.fmod_eq_emod_of_nonneg a (Int.le_of_lt hb)]
  show Nat.gcd b.natAbs (a % b).natAbs = Nat.gcd a.natAbs b.natAbs
  have e : (a % b).natAbs = a.natAbs % b.natAbs := by
    have h1 : a = (a.natAbs : Int) := by omega
    have h2 : b = (b.natAbs : Int) := by omega
    conv => lhs; rw [h1, h2]
    rw [← Int.natCast_emod]
    exact Int.natAbs_natCast _
  rw [e, Nat.gcd_comm a.natAbs, Nat.gcd_rec b.natAbs a.natAbs, Nat.gcd_comm]
structure Gc (a0 b0 a b : Int) : Prop where
  is : gI a b = gI a0 b0
theorem start {a b : Int} (ha : 0 ≤ a) (hb : 0 ≤ b) : 0 ≤ a ∧ 0 ≤ b ∧ Gc a b a b := ⟨ha, hb, ⟨rfl⟩⟩
theorem turn {a0 b0 a b : Int} (h : Gc a0 b0 a b) (ha : 0 ≤ a) (hb : 0 < b) : 0 ≤ b ∧ 0 ≤ Int.fmod a b ∧ Gc a0 b0 b (Int.fmod a b) :=
  ⟨by omega, Int.fmod_nonneg_of_pos a hb, ⟨(gI_step ha hb).trans h.is⟩⟩
theorem less {a b : Int} (hb : 0 < b) : (Int.fmod a b).toNat < b.toNat := by
  have := Int.fmod_lt_of_pos a hb
  have := Int.fmod_nonneg_of_pos a hb
  omega
theorem out {a0 b0 a b : Int} (h : Gc a0 b0 a b) (ha : 0 ≤ a) (hb : b = 0) : a = gI a0 b0 := by
  rw [← h.is, hb, gI_zero a ha]
/-- abs -/
theorem gI_abs (a b : Int) : gI (if a < 0 then -a else a) (if b < 0 then -b else b) = gI a b := by
  unfold gI
  congr 1
  have h (x : Int) : (if x < 0 then -x else x).natAbs = x.natAbs := by split <;> omega
  show Nat.gcd _ _ = Nat.gcd _ _
  rw [h, h]
end K1

namespace K1
/-- by what top and bottom are divided, with the bottom's sign -/
def dv (t b : Int) : Int := if b < 0 then -(gI t b) else gI t b
def fT (t b : Int) : Int := t.fdiv (dv t b)
def fB (t b : Int) : Int := b.fdiv (dv t b)
end K1

namespace K1
def ab (a : Int) : Int := if a < 0 then -a else a
end K1

namespace K3
structure NoDiv (n d : Int) : Prop where
  is : ∀ e : Int, 2 ≤ e → e < d → Int.fmod n e ≠ 0
def Pr (n : Int) : Prop := 2 ≤ n ∧ ∀ e : Int, 2 ≤ e → e * e ≤ n → Int.fmod n e ≠ 0
noncomputable def isP (n : Int) : Bool := @decide (Pr n) (Classical.propDecidable _)
theorem isP_t {n : Int} (h : Pr n) : isP n = true := @decide_eq_true _ (Classical.propDecidable _) h
theorem isP_f {n : Int} (h : ¬ Pr n) : isP n = false := @decide_eq_false _ (Classical.propDecidable _) h
theorem small {d n : Int} (_h2 : 2 ≤ d) (h : d * d ≤ n) (hn : n ≤ 9973) : d ≤ 99 := by
  rcases (by omega : d ≤ 99 ∨ 100 ≤ d) with e | e
  · exact e
  · have := Int.mul_le_mul e e (by decide) (by omega)
    omega
theorem start (n : Int) : (2 : Int) ≤ 2 ∧ (2 : Int) ≤ 101 ∧ NoDiv n 2 := ⟨by decide, by decide, ⟨fun e h1 h2 => by omega⟩⟩
theorem turn {n d : Int} (h : NoDiv n d) (hm : ¬ Int.fmod n d = 0) (h2 : 2 ≤ d) (hq : d * d ≤ n) (hn : n ≤ 9973) : 2 ≤ d + 1 ∧ d + 1 ≤ 101 ∧ NoDiv n (d + 1) := by
  have s := small h2 hq hn
  refine ⟨by omega, by omega, ⟨fun e h1 h3 => ?_⟩⟩
  rcases (by omega : e < d ∨ e = d) with q | q
  · exact h.is e h1 q
  · rw [q]; exact hm
theorem less {n d : Int} (h2 : 2 ≤ d) (hq : d * d ≤ n) (hn : n ≤ 9973) : (200 - (d + 1)).toNat < (200 - d).toNat := by
  have s := small h2 hq hn
  omega
theorem low {n : Int} (h : n < 2) : false = isP n := by
  exact (isP_f fun h' => by have := h'.1; omega).symm
theorem out {n d : Int} (h : NoDiv n d) (hn : 2 ≤ n) (h2 : 2 ≤ d) (hq : ¬ d * d ≤ n) : true = isP n := by
  refine (isP_t ?_).symm
  refine ⟨hn, fun e h1 h3 => h.is e h1 ?_⟩
  rcases (by omega : e < d ∨ d ≤ e) with q | q
  · exact q
  · have := Int.mul_le_mul q q (by omega) (by omega)
    omega
theorem found {n d : Int} (h2 : 2 ≤ d) (hq : d * d ≤ n) (hm : Int.fmod n d = 0) : false = isP n := by
  exact (isP_f fun h' => h'.2 d h2 hq hm).symm
end K3

namespace K2
/-- the next prime -/
structure Up (n0 n : Int) : Prop where
  le : n ≤ 9973
/-- the number turned over: the loop's word -/
structure Tn (p a found left : Int) : Prop where
  f0 : 0 ≤ found
  f1 : found < p
  l0 : 1 ≤ left
  l1 : left < p
  eq : (found * a - left) % p = 0
end K2

namespace K2
end K2

namespace K6
open HT (lexLt)
/-! ### the order of tuples -/
theorem lt_tri : ∀ {x y : List Int}, x ≠ y → lexLt x y = !lexLt y x
  | [], [], h => absurd rfl h
  | [], _ :: _, _ => rfl
  | _ :: _, [], _ => rfl
  | a :: x, b :: y, h => by
    rw [HT.lexLt_cons, HT.lexLt_cons]
    by_cases e : a = b
    · rw [if_pos e, if_pos e.symm]
      exact lt_tri fun z => h (by rw [e, z])
    · rw [if_neg e, if_neg (Ne.symm e)]
      by_cases l : a < b
      · rw [decide_eq_true l, decide_eq_false (by omega)]; rfl
      · rw [decide_eq_false l, decide_eq_true (by omega)]; rfl
abbrev vadd (x y : List Int) : List Int := List.zipWith (fun a b => a + b) x y
/-! ### the ranks -/
def rkL (t : List Int) : List Int := t
def rkD (t : List Int) : List Int := t.sum :: t
def rkT (t : List Int) : List Int := t.sum :: t.reverse.map fun x => -x
def wsum (ws t : List Int) : Int := (List.zipWith (fun a b => a * b) t ws).sum
def rkW (ws t : List Int) : List Int := wsum ws t :: t
def zer (n : Nat) : List Int := List.replicate n 0
def Nn (t : List Int) : Prop := ∀ x ∈ t, 0 ≤ x
theorem sum_add : ∀ {a c : List Int}, a.length = c.length → (vadd a c).sum = a.sum + c.sum
  | [], [], _ => rfl
  | _ :: _, [], h => by simp at h
  | [], _ :: _, h => by simp at h
  | x :: a, y :: c, h => by
    have ih := sum_add (a := a) (c := c) (by simpa using h)
    simp only [vadd, List.zipWith_cons_cons, List.sum_cons] at ih ⊢
    omega
theorem wsum_add : ∀ {ws a c : List Int}, a.length = c.length → wsum ws (vadd a c) = wsum ws a + wsum ws c
  | _, [], [], _ => by simp [wsum, vadd]
  | _, _ :: _, [], h => by simp at h
  | _, [], _ :: _, h => by simp at h
  | [], x :: a, y :: c, h => by simp [wsum, vadd]
  | w :: ws, x :: a, y :: c, h => by
    have ih := wsum_add (ws := ws) (a := a) (c := c) (by simpa using h)
    simp only [wsum, vadd, List.zipWith_cons_cons, List.sum_cons] at ih ⊢
    rw [ih, Int.add_mul]; omega
theorem neg_add : ∀ {a c : List Int}, (vadd a c).map (fun x => -x) = vadd (a.map fun x => -x) (c.map fun x => -x)
  | [], _ => by simp [vadd]
  | _ :: _, [] => by simp [vadd]
  | x :: a, y :: c => by
    have ih := neg_add (a := a) (c := c)
    simp only [vadd, List.zipWith_cons_cons, List.map_cons] at ih ⊢
    rw [ih]; congr 1; omega
/-- what the law asks of a rank, for terms of n powers -/
structure OrdM (rk : List Int → List Int) (n : Nat) : Prop where
  add : ∀ a c : List Int, a.length = n → c.length = n → rk (vadd a c) = vadd (rk a) (rk c)
  inj : ∀ a b : List Int, a.length = n → b.length = n → rk a = rk b → a = b
  len : ∀ a b : List Int, a.length = n → b.length = n → (rk a).length = (rk b).length
  pos : ∀ a : List Int, a.length = n → Nn a → a ≠ zer n → lexLt (rk (zer n)) (rk a) = true
theorem sum_nn : ∀ {a : List Int}, Nn a → 0 ≤ a.sum
  | [], _ => Int.le_refl 0
  | x :: a, h => by
    have h1 := h x (.head _)
    have h2 := sum_nn (a := a) fun y hy => h y (.tail _ hy)
    rw [List.sum_cons]; omega
theorem sum_zer : ∀ n : Nat, (zer n).sum = 0
  | 0 => rfl
  | n + 1 => by
    show ((0 : Int) :: zer n).sum = 0
    rw [List.sum_cons, sum_zer n]; rfl
theorem sum_pos : ∀ {a : List Int}, Nn a → a ≠ zer a.length → 0 < a.sum
  | [], _, h => absurd rfl h
  | x :: a, h, hne => by
    have h1 := h x (.head _)
    have hn : Nn a := fun y hy => h y (.tail _ hy)
    have h2 := sum_nn hn
    rw [List.sum_cons]
    by_cases e : x = 0
    · have := sum_pos (a := a) hn fun z => hne (by
        show x :: a = 0 :: zer a.length
        rw [e, ← z])
      omega
    · omega
theorem lex_pos : ∀ {a : List Int}, Nn a → a ≠ zer a.length → lexLt (zer a.length) a = true
  | [], _, h => absurd rfl h
  | x :: a, h, hne => by
    have h1 := h x (.head _)
    show lexLt (0 :: zer a.length) (x :: a) = true
    rw [HT.lexLt_cons]
    by_cases e : 0 = x
    · rw [if_pos e]
      exact lex_pos (fun y hy => h y (.tail _ hy)) fun z => hne (by
        show x :: a = 0 :: zer a.length
        rw [← e, ← z])
    · rw [if_neg e]; exact decide_eq_true (by omega)
theorem ordL (n : Nat) : OrdM rkL n := ⟨fun _ _ _ _ => rfl, fun _ _ _ _ h => h, fun _ _ h1 h2 => h1.trans h2.symm, fun a h1 h2 h3 => by subst h1; exact lex_pos h2 h3⟩
theorem ordD (n : Nat) : OrdM rkD n := by
  refine ⟨fun a c h1 h2 => ?_, fun a b _ _ h => ?_, fun a b h1 h2 => ?_, fun a h1 h2 h3 => ?_⟩
  · show (vadd a c).sum :: vadd a c = (a.sum + c.sum) :: vadd a c
    rw [sum_add (h1.trans h2.symm)]
  · injection h
  · show (a.length + 1) = b.length + 1
    rw [h1, h2]
  · subst h1
    show lexLt ((zer a.length).sum :: _) (a.sum :: _) = true
    rw [HT.lexLt_cons, sum_zer]
    have := sum_pos h2 h3
    rw [if_neg (by omega)]
    exact decide_eq_true this
theorem ordT (n : Nat) : OrdM rkT n := by
  refine ⟨fun a c h1 h2 => ?_, fun a b _ _ h => ?_, fun a b h1 h2 => ?_, fun a h1 h2 h3 => ?_⟩
  · show (vadd a c).sum :: ((vadd a c).reverse.map fun x => -x) = (a.sum + c.sum) :: vadd (a.reverse.map fun x => -x) (c.reverse.map fun x => -x)
    rw [sum_add (h1.trans h2.symm), ← neg_add]
    congr 2
    exact List.reverse_zipWith (h1.trans h2.symm)
  · have h' : a.reverse.map (fun x => -x) = b.reverse.map (fun x => -x) := by injection h
    have e : ∀ l : List Int, (l.map fun x => -x).map (fun x => -x) = l := fun l => by
      rw [List.map_map]
      conv => rhs; rw [← List.map_id l]
      refine List.map_congr_left fun x _ => ?_
      show - -x = x
      omega
    have h2 := congrArg (List.map fun x => -x) h'
    rw [e, e] at h2
    exact List.reverse_inj.mp h2
  · simp [rkT, h1, h2]
  · subst h1
    show lexLt ((zer a.length).sum :: _) (a.sum :: _) = true
    rw [HT.lexLt_cons, sum_zer]
    have := sum_pos h2 h3
    rw [if_neg (by omega)]
    exact decide_eq_true this
theorem wsum_nn : ∀ {ws a : List Int}, Nn ws → Nn a → 0 ≤ wsum ws a
  | _, [], _, _ => by simp [wsum]
  | [], _ :: _, _, _ => by simp [wsum]
  | w :: ws, x :: a, h1, h2 => by
    have ih := wsum_nn (ws := ws) (a := a) (fun y hy => h1 y (.tail _ hy)) fun y hy => h2 y (.tail _ hy)
    have := Int.mul_nonneg (h2 x (.head _)) (h1 w (.head _))
    simp only [wsum, List.zipWith_cons_cons, List.sum_cons] at ih ⊢
    omega
theorem wsum_zer : ∀ (ws : List Int) (n : Nat), wsum ws (zer n) = 0
  | _, 0 => by simp [wsum, zer]
  | [], n + 1 => by simp [wsum]
  | w :: ws, n + 1 => by
    have ih := wsum_zer ws n
    show (0 * w :: List.zipWith (fun a b => a * b) (zer n) ws).sum = 0
    rw [List.sum_cons]
    unfold wsum at ih
    rw [ih]; simp
theorem ordW {ws : List Int} (hw : Nn ws) (n : Nat) : OrdM (rkW ws) n := by
  refine ⟨fun a c h1 h2 => ?_, fun a b _ _ h => ?_, fun a b h1 h2 => ?_, fun a h1 h2 h3 => ?_⟩
  · show wsum ws (vadd a c) :: vadd a c = (wsum ws a + wsum ws c) :: vadd a c
    rw [wsum_add (h1.trans h2.symm)]
  · injection h
  · show (a.length + 1) = b.length + 1
    rw [h1, h2]
  · subst h1
    show lexLt (wsum ws (zer a.length) :: zer a.length) (wsum ws a :: a) = true
    rw [HT.lexLt_cons, wsum_zer]
    have := wsum_nn hw h2
    by_cases e : 0 = wsum ws a
    · rw [if_pos e]; exact lex_pos h2 h3
    · rw [if_neg e]; exact decide_eq_true (by omega)
/-! ### unknowns taken out -/
/-- of the first k some is not nought in l, all are nought in r -/
structure Out (k : Nat) (l r : List Int) : Prop where
  len : l.length = r.length
  nl : Nn l
  nz : ∃ i, i < k ∧ i < l.length ∧ l.getD i 0 ≠ 0
  zr : ∀ i, i < k → r.getD i 0 = 0
/-- one power alone -/
def only (n at_ : Nat) (p : Int) : List Int := (List.range n).map fun i => if i = at_ then p else 0
end K6

namespace K6
open L2 PySem

/-- what stands in the order of a mapped list is the map of a like list -/
theorem perm_map_inv {α β : Type} (f : α → β) : ∀ {l m : List β}, l.Perm m → ∀ m' : List α, m = m'.map f → ∃ l' : List α, l'.Perm m' ∧ l = l'.map f := by
  intro l m h
  induction h with
  | nil => intro m' e; exact ⟨[], (by cases m' with | nil => exact .nil | cons => simp at e), rfl⟩
  | cons x _ ih =>
    intro m' e
    cases m' with
    | nil => simp at e
    | cons y m' =>
      rw [List.map_cons] at e
      injection e with e1 e2
      obtain ⟨l', p, q⟩ := ih m' e2
      exact ⟨y :: l', p.cons y, by rw [q, e1]; rfl⟩
  | swap x y l =>
    intro m' e
    cases m' with
    | nil => simp at e
    | cons a m' =>
      cases m' with
      | nil => simp at e
      | cons b m' =>
        simp only [List.map_cons] at e
        injection e with e1 e2
        injection e2 with e2 e3
        exact ⟨b :: a :: m', List.Perm.swap a b m', by rw [e1, e2, e3]; rfl⟩
  | trans _ _ ih1 ih2 =>
    intro m' e
    obtain ⟨l2, p2, q2⟩ := ih2 m' e
    obtain ⟨l1, p1, q1⟩ := ih1 l2 q2
    exact ⟨l1, p1.trans p2, q1⟩
theorem zip_map_l {α β γ : Type} (f : α → γ) : ∀ (xs : List α) (ys : List β), (xs.map f).zip ys = (xs.zip ys).map fun p => (f p.1, p.2)
  | [], _ => by simp
  | _ :: _, [] => by simp
  | x :: xs, y :: ys => by simp [zip_map_l f xs ys]
/-- a term at v -/
def Trm (H : Hp) (xs : List Int) (v : V) : Prop := ∃ r, v = .ref r ∧ H r = some (.tup (xs.map V.int))
theorem Trm.same {H H' : Hp} {xs : List Int} {v : V} (e : Same H H') (h : Trm H xs v) : Trm H' xs v := let ⟨r, a, b⟩ := h; ⟨r, a, e _ _ b⟩
theorem pimp {α : Type} {R S : α → V → Prop} (h : ∀ a v, R a v → S a v) : ∀ {l : List α} {ys : List V}, Paired R l ys → Paired S l ys
  | _, _, .nil => .nil
  | _, _, .cons r t => .cons (h _ _ r) (pimp h t)
theorem psnoc {α : Type} {R : α → V → Prop} {a : α} {v : V} (r : R a v) : ∀ {l : List α} {ys : List V}, Paired R l ys → Paired R (l ++ [a]) (ys ++ [v])
  | _, _, .nil => .cons r .nil
  | _, _, .cons q t => .cons q (psnoc r t)
/-- of n powers -/
structure Tm (n : Nat) (xs : List Int) : Prop where
  len : xs.length = n
  nn : Nn xs
  b : ∀ x ∈ xs, x < 10 ^ 31
end K6

namespace K6
open L2 PySem
/-- a term as a key -/
def ky (xs : List Int) : List Key := xs.map Sum.inl
theorem ky_kV (xs : List Int) : (ky xs).map kV = xs.map V.int := by unfold ky; rw [List.map_map]; rfl
/-- a number of a field, as data -/
structure NmD (d : PyData) : Prop where
  lay : d.canLay0 = true
  dep : d.depth ≤ 60
theorem NmD.shaped {d : PyData} (h : NmD d) : SeqAt.shaped d = true := by
  have := h.dep
  unfold SeqAt.shaped
  rw [h.lay, Bool.true_and, decide_eq_true_eq]; omega
theorem NmD.refl {d : PyData} (h : NmD d) : PyData.eqv d d = true := SeqAt.eqv_refl _ h.lay
theorem nmd_int (i : Int) : NmD (.int i) := ⟨rfl, by simp [PyData.depth]⟩
theorem nmd_pair (i j : Int) : NmD (.tuple [.int i, .int j]) := ⟨rfl, by simp [PyData.depth, PyData.depthAll]⟩
mutual
theorem Rds.same {K : PySem.W.Frag} {H H' : Hp} (e : Same H H') : ∀ {v : V} {d : PyData}, Rds K H v d → Rds K H' v d
  | _, _, .non => .non
  | _, _, .bl b => .bl b
  | _, _, .int i => .int i
  | _, _, .str x => .str x
  | _, _, .tup h hs => .tup (e.seqT h) (RdsAll.same e hs)
  | _, _, .lst h hs => .lst (e.seq h) (RdsAll.same e hs)
theorem RdsAll.same {K : PySem.W.Frag} {H H' : Hp} (e : Same H H') : ∀ {vs : List V} {ds : List PyData}, RdsAll K H vs ds → RdsAll K H' vs ds
  | _, _, .nil => .nil
  | _, _, .cons h hs => .cons (Rds.same e h) (RdsAll.same e hs)
end
theorem sqT_updD {K : PySem.W.Frag} {H : Hp} {d a : Addr} {kvs : List (List Key × V)} {o : HO} {xs : List V} (e : H d = some (.dT kvs)) (h : SqT K H a xs) : SqT K (upd H d o) a xs := by
  rcases h with (h | ⟨q, h⟩) | h
  · exact .inl (.inl (by rw [upd_ne (ne_of h e (by intro z; cases z))]; exact h))
  · exact .inl (.inr ⟨q, by rw [upd_ne (ne_of h e (by intro z; cases z))]; exact h⟩)
  · exact .inr h
theorem sqL_updD {K : PySem.W.Frag} {H : Hp} {d a : Addr} {kvs : List (List Key × V)} {o : HO} {xs : List V} (e : H d = some (.dT kvs)) (h : SqL K H a xs) : SqL K (upd H d o) a xs := by
  rcases h with (h | ⟨q, h⟩) | h
  · exact .inl (.inl (by rw [upd_ne (ne_of h e (by intro z; cases z))]; exact h))
  · exact .inl (.inr ⟨q, by rw [upd_ne (ne_of h e (by intro z; cases z))]; exact h⟩)
  · exact .inr h
mutual
theorem Rds.updD {K : PySem.W.Frag} {H : Hp} {d : Addr} {kvs : List (List Key × V)} {o : HO} (e : H d = some (.dT kvs)) : ∀ {v : V} {z : PyData}, Rds K H v z → Rds K (upd H d o) v z
  | _, _, .non => .non
  | _, _, .bl b => .bl b
  | _, _, .int i => .int i
  | _, _, .str x => .str x
  | _, _, .tup h hs => .tup (sqT_updD e h) (RdsAll.updD e hs)
  | _, _, .lst h hs => .lst (sqL_updD e h) (RdsAll.updD e hs)
theorem RdsAll.updD {K : PySem.W.Frag} {H : Hp} {d : Addr} {kvs : List (List Key × V)} {o : HO} (e : H d = some (.dT kvs)) : ∀ {vs : List V} {ds : List PyData}, RdsAll K H vs ds → RdsAll K (upd H d o) vs ds
  | _, _, .nil => .nil
  | _, _, .cons h hs => .cons (Rds.updD e h) (RdsAll.updD e hs)
end
theorem rds_pair {K : PySem.W.Frag} {H : Hp} {r : Addr} {i j : Int} (h : H r = some (.tup [.int i, .int j])) : Rds K H (.ref r) (.tuple [.int i, .int j]) := .tup (SqT.of h) (.cons (.int i) (.cons (.int j) .nil))
end K6

namespace K12
open L2 PySem
/-! texts of numbers, of parts -/
abbrev sI (i : Int) : Str := Str.ofString (toString i)
theorem sI_one {i : Int} (h0 : 0 ≤ i) : sI i = "1" ↔ i = 1 := by
  obtain ⟨m, rfl⟩ := Int.eq_ofNat_of_zero_le h0
  constructor
  · intro h
    have e := (PyProof.Rows.text_ofNat m).symm.trans h
    have e1 : ("1" : Str) = ⟨#[49]⟩ := by decide +kernel
    rw [e1] at e
    injection e with e
    have e2 : (Nat.toDigits 10 m).map Char.toNat = [49] := by
      have := congrArg Array.toList e
      simpa using this
    match hd : Nat.toDigits 10 m, e2 with
    | [c], e2 =>
      have hc : c = '1' := by
        simp at e2
        exact Char.ext (UInt32.toNat_inj.mp e2)
      have := Nat.ofDigitChars_toDigits (b := 10) (n := m) (by decide) (by decide)
      rw [hd, hc] at this
      have q : Nat.ofDigitChars 10 ['1'] 0 = 1 := by decide
      rw [q] at this
      omega
    | [], e2 => cases e2
    | _ :: _ :: _, e2 => exact absurd (congrArg List.length e2) (by simp)
  · intro h
    have : m = 1 := by omega
    subst this
    rfl
theorem sI_len {i : Int} (h : i.natAbs.log2 < 1920) : (sI i).length ≤ 1921 := PyProof.Rows.int_text_len_1921 h
def abz (x : Int) : Int := if x < 0 then -x else x
def numT (n : Int) (z : Int × Int) : Str := if n = 0 then (if z.2 = 1 then sI (abz z.1) else sI (abz z.1) ++ "/" ++ sI z.2) else sI z.1
def pwT (l : Str) (a : Int) : Str := if a = 1 then l else l ++ "^" ++ sI a
def ltr (k : Nat) : Str := ⟨#[("xyzt" : Str).cps.getD k 0]⟩
def facs (t : List Int) : List Str := ((List.range t.length).filter fun i => decide (0 < t.getD i 0)).map fun i => pwT (ltr i) (t.getD i 0)
def wrds (n : Int) (t : List Int) (z : Int × Int) : List Str := if numT n z ≠ "1" ∨ facs t = [] then numT n z :: facs t else facs t
def prt (n : Int) (t : List Int) (z : Int × Int) : Str := Txt.join "*" (wrds n t z)
def blw (n : Int) (z : Int × Int) : Bool := decide (n = 0) && decide (z.1 < 0)
def stpT (n : Int) (s : Str) (t : List Int) (z : Int × Int) : Str := (if s = "" then (if blw n z = true then ("-" : Str) else ("" : Str)) else s ++ (if blw n z = true then (" - " : Str) else (" + " : Str))) ++ prt n t z
/-- a number that may be shown -/
structure NOk (n : Int) (z : Int × Int) : Prop where
  b1 : z.1.natAbs.log2 < 1920
  b2 : z.2.natAbs.log2 < 1920
  nn : n ≠ 0 → 0 ≤ z.1
theorem abz_nat (x : Int) : (abz x).natAbs = x.natAbs := by unfold abz; split <;> omega
theorem abz_nn (x : Int) : 0 ≤ abz x := by unfold abz; split <;> omega
theorem numT_len {n : Int} {z : Int × Int} (h : NOk n z) : (numT n z).length ≤ 3843 := by
  have l1 := sI_len h.b1
  have l2 := sI_len h.b2
  have l3 := sI_len (i := abz z.1) (by rw [abz_nat]; exact h.b1)
  have l4 : ("/" : Str).length = 1 := by decide +kernel
  unfold numT
  split
  · split
    · omega
    · rw [Str.length_append, Str.length_append, l4]; omega
  · omega
theorem numT_one {n : Int} {z : Int × Int} (h : NOk n z) : numT n z = "1" ↔ if n = 0 then (abz z.1 = 1 ∧ z.2 = 1) else z.1 = 1 := by
  unfold numT
  by_cases c : n = 0
  · rw [if_pos c, if_pos c]
    by_cases d : z.2 = 1
    · rw [if_pos d]
      exact (sI_one (abz_nn _)).trans ⟨fun q => ⟨q, d⟩, fun q => q.1⟩
    · rw [if_neg d]
      refine ⟨fun q => ?_, fun q => absurd q.2 d⟩
      exfalso
      have e := congrArg (fun s : Str => s.cps.toList) q
      have m : 47 ∈ (sI (abz z.1) ++ "/" ++ sI z.2).cps.toList := by
        rw [Str.cps_append, Str.cps_append]
        have : ("/" : Str).cps = #[47] := by decide +kernel
        rw [this]
        simp
      have e' : (sI (abz z.1) ++ "/" ++ sI z.2).cps.toList = ("1" : Str).cps.toList := e
      rw [e'] at m
      revert m
      decide +kernel
  · rw [if_neg c, if_neg c]
    exact sI_one (h.nn c)
theorem pwT_len {l : Str} {a : Int} (h : a.natAbs.log2 < 1920) : (pwT l a).length ≤ l.length + 1922 := by
  have l1 := sI_len h
  have l4 : ("^" : Str).length = 1 := by decide +kernel
  unfold pwT
  split
  · omega
  · rw [Str.length_append, Str.length_append, l4]; omega
theorem ltr_len (k : Nat) : (ltr k).length = 1 := rfl
theorem facs_len (t : List Int) : (facs t).length ≤ t.length := by
  unfold facs
  rw [List.length_map]
  exact Nat.le_trans (List.length_filter_le _ _) (by simp)
def SmT (t : List Int) : Prop := ∀ x ∈ t, 0 ≤ x ∧ x ≤ 200
theorem small_log {a : Int} (h0 : 0 ≤ a) (h1 : a ≤ 200) : a.natAbs.log2 < 1920 := by
  by_cases c : a = 0
  · subst c; decide
  · exact (Nat.log2_lt (by omega)).mpr (Nat.lt_of_le_of_lt (show a.natAbs ≤ 200 by omega) (Nat.lt_of_lt_of_le (show 200 < 2 ^ 8 by decide) (Nat.pow_le_pow_right (by decide) (by decide))))
theorem SmT.at_ {t : List Int} (h : SmT t) (i : Nat) : 0 ≤ t.getD i 0 ∧ t.getD i 0 ≤ 200 := by
  rw [List.getD_eq_getElem?_getD]
  cases q : t[i]? with
  | none => exact ⟨by decide, by decide⟩
  | some v => exact h v (List.mem_of_getElem? q)
theorem wrds_ok {n : Int} {t : List Int} {z : Int × Int} (h : NOk n z) (ht : SmT t) (h4 : t.length ≤ 4) : (wrds n t z).length ≤ 5 ∧ ∀ y ∈ wrds n t z, y.length ≤ 3843 := by
  have hf := facs_len t
  have hm : ∀ y ∈ facs t, y.length ≤ 3843 := fun y hy => by
    obtain ⟨i, _, rfl⟩ := List.mem_map.mp hy
    have b := ht.at_ i
    have := pwT_len (l := ltr i) (small_log b.1 b.2)
    rw [ltr_len] at this
    omega
  have hn := numT_len h
  unfold wrds
  split
  · refine ⟨by simp; omega, fun y hy => ?_⟩
    rcases List.mem_cons.mp hy with rfl | hy
    · exact hn
    · exact hm y hy
  · exact ⟨by omega, hm⟩
theorem star_len : ("*" : Str).length = 1 := by decide +kernel
theorem join_ok {n : Int} {t : List Int} {z : Int × Int} (h : NOk n z) (ht : SmT t) (h4 : t.length ≤ 4) : JoinOk "*" (wrds n t z) = true := by
  obtain ⟨l, b⟩ := wrds_ok h ht h4
  unfold JoinOk
  rw [StrLaws.joinFits b (by rw [star_len]; omega)]
  rfl
theorem prt_len {n : Int} {t : List Int} {z : Int × Int} (h : NOk n z) (ht : SmT t) (h4 : t.length ≤ 4) : (prt n t z).length ≤ 20000 := by
  obtain ⟨l, b⟩ := wrds_ok h ht h4
  unfold prt
  show (Builtin.Str.glued "*" (wrds n t z)).length ≤ 20000
  rw [StrLaws.glued_eq_join]
  have h1 := StrLaws.join_length_le "*" (wrds n t z)
  have h2 := StrLaws.sumLen_le (wrds n t z) b
  rw [star_len] at h1
  have h3 : (wrds n t z).length * 3843 ≤ 5 * 3843 := Nat.mul_le_mul_right _ l
  omega
theorem stpT_len {n : Int} {s : Str} {t : List Int} {z : Int × Int} (h : NOk n z) (ht : SmT t) (h4 : t.length ≤ 4) : (stpT n s t z).length ≤ s.length + 20003 := by
  have hp := prt_len h ht h4
  have e1 : ("-" : Str).length = 1 := by decide +kernel
  have e2 : ("" : Str).length = 0 := by decide +kernel
  have e3 : (" - " : Str).length = 3 := by decide +kernel
  have e4 : (" + " : Str).length = 3 := by decide +kernel
  unfold stpT
  rw [Str.length_append]
  split
  · split
    · rw [e1]; omega
    · rw [e2]; omega
  · rw [Str.length_append]
    split
    · rw [e3]; omega
    · rw [e4]; omega
/-- no power above nought -/
theorem facs_nil {t : List Int} : facs t = [] ↔ ∀ x ∈ t, x ≤ 0 := by
  unfold facs
  rw [List.map_eq_nil_iff, List.filter_eq_nil_iff]
  constructor
  · intro h x hx
    obtain ⟨i, hi, rfl⟩ := List.mem_iff_getElem.mp hx
    have := h i (List.mem_range.mpr hi)
    simp [List.getD, hi] at this
    omega
  · intro h i hi
    rw [List.mem_range] at hi
    have := h t[i] (List.getElem_mem hi)
    simp [List.getD, hi]
    omega
/-! the terms in their order -/
def txt (n : Int) (T : List Int → Int × Int) (ts : List (List Int)) : Str := ts.foldl (fun s t => stpT n s t (T t)) ""
def fin (s : Str) : Str := if s = "" then ("0" : Str) else s
def Srt (rk : List Int → List Int) (xss ts : List (List Int)) : Prop := ts.Perm xss ∧ ts.Pairwise fun p q => HT.lexLt (rk p) (rk q) = false
theorem Srt.one {rk : List Int → List Int} {xss ts us : List (List Int)} (inj : ∀ a ∈ xss, ∀ b ∈ xss, HT.lexLt (rk a) (rk b) = false → HT.lexLt (rk b) (rk a) = false → a = b) (h : Srt rk xss ts) (h' : Srt rk xss us) : ts = us :=
  List.Perm.eq_of_pairwise (le := fun p q => HT.lexLt (rk p) (rk q) = false) (fun a b ha hb h1 h2 => inj a (h.1.mem_iff.mp ha) b (h'.1.mem_iff.mp hb) h1 h2) h.2 h'.2 (h.1.trans h'.1.symm)
theorem srt_map {rk : List Int → List Int} {xss : List (List Int)} {ys : List V} {ps : List (List Int × V)} (hl : xss.length = ys.length) (hp : ps.Perm (xss.zip ys)) (hs : ps.Pairwise fun p q => HT.lexLt (rk p.1) (rk q.1) = false) : Srt rk xss (ps.map (·.1)) := by
  refine ⟨?_, ?_⟩
  · have := hp.map (·.1)
    rwa [List.map_fst_zip (by omega)] at this
  · rw [List.pairwise_map]; exact hs
theorem txt_take (n : Int) (T : List Int → Int × Int) {ts : List (List Int)} {i : Nat} {t : List Int} (h : ts[i]? = some t) : txt n T (ts.take (i + 1)) = stpT n (txt n T (ts.take i)) t (T t) := by
  unfold txt
  rw [List.take_add_one, h, List.foldl_append]
  rfl
theorem emp_app (s : Str) : ("" : Str) ++ s = s := by
  have : ("" : Str) = Str.empty := by decide +kernel
  rw [this]; exact Str.empty_append s
end K12

namespace K12
open L2 PySem
@[inline] def strN {α : Type} (n : Nat) (f : Nat → α) : α := Nat.rec (f 0) (fun k _ => f (Nat.succ k)) n
theorem strN_eq {α : Type} (n : Nat) (f : Nat → α) : strN n f = f n := by cases n <;> rfl
/-- a tuple's hash, step by step -/
def stp (acc h : Nat) : Nat := ((((acc + h * 14029467366897019727) % 18446744073709551616) * 2147483648 % 18446744073709551616 + ((acc + h * 14029467366897019727) % 18446744073709551616) / 8589934592) * 11400714785074694791) % 18446744073709551616
def lst (a l : Nat) : Nat := (a + (l ^^^ (2870177450012600261 ^^^ 3527539))) % 18446744073709551616
def fixN (a : Nat) : Nat := bif Nat.beq a 18446744073709551615 then 1546275796 else a
theorem fixN_ne {a : Nat} (ha : a ≠ 18446744073709551615) : fixN a = a := by
  have q : Nat.beq a 18446744073709551615 = false := by
    cases q : Nat.beq a 18446744073709551615
    · rfl
    · exact absurd (Nat.eq_of_beq_eq_true q) ha
  unfold fixN; rw [q, cond_false]
def hN (t : List Nat) : Nat := fixN (lst (t.foldl stp 2870177450012600261) t.length)
/- plain numbers -/
theorem mul_back {M a b P Q : Nat} (h : P * Q % M = 1 % M) (e : a * P % M = b * P % M) : a % M = b % M := by
  have q : ∀ x : Nat, x * P % M * Q % M = x % M := fun x => by
    rw [Nat.mod_mul_mod, Nat.mul_assoc, Nat.mul_mod, h, ← Nat.mul_mod, Nat.mul_one]
  rw [← q a, e, q b]
theorem add_back {M a b c : Nat} (ha : a < M) (hb : b < M) (e : (a + c) % M = (b + c) % M) : a = b := by
  have h1 := Nat.mod_add_div (a + c) M
  have h2 := Nat.mod_add_div (b + c) M
  rw [e] at h1
  rcases Nat.lt_trichotomy ((a + c) / M) ((b + c) / M) with q | q | q
  · have := Nat.mul_le_mul_left M q
    rw [Nat.mul_succ] at this
    omega
  · rw [q] at h1; omega
  · have := Nat.mul_le_mul_left M q
    rw [Nat.mul_succ] at this
    omega
theorem pr_inj {a b c d K : Nat} (hb : b < K) (hd : d < K) (e : a * K + b = c * K + d) : a = c ∧ b = d := by
  rcases Nat.lt_trichotomy a c with q | q | q
  · have := Nat.mul_le_mul_right K q
    rw [Nat.succ_mul] at this; omega
  · subst q; exact ⟨rfl, by omega⟩
  · have := Nat.mul_le_mul_right K q
    rw [Nat.succ_mul] at this; omega
theorem rot_eq {v : Nat} : v * 2147483648 % 18446744073709551616 + v / 8589934592 = v % 8589934592 * 2147483648 + v / 8589934592 := by
  have h := Nat.mul_mod_mul_right 2147483648 v 8589934592
  have q : 8589934592 * 2147483648 = 18446744073709551616 := by decide
  rw [q] at h
  rw [h]
theorem rot_inj {v w : Nat} (hv : v < 18446744073709551616) (hw : w < 18446744073709551616) (e : v * 2147483648 % 18446744073709551616 + v / 8589934592 = w * 2147483648 % 18446744073709551616 + w / 8589934592) : v = w := by
  have e := rot_eq.symm.trans (e.trans rot_eq)
  have b1 : v / 8589934592 < 2147483648 := Nat.div_lt_of_lt_mul hv
  have b2 : w / 8589934592 < 2147483648 := Nat.div_lt_of_lt_mul hw
  have q := pr_inj b1 b2 e
  rw [← Nat.div_add_mod v 8589934592, ← Nat.div_add_mod w 8589934592, q.1, q.2]
theorem rot_lt {v : Nat} (hv : v < 18446744073709551616) : v * 2147483648 % 18446744073709551616 + v / 8589934592 < 18446744073709551616 := by
  rw [rot_eq]; omega
theorem stp_lt (a h : Nat) : stp a h < 18446744073709551616 := Nat.mod_lt _ (by decide)
theorem stp_inj {a h b k : Nat} (e : stp a h = stp b k) : (a + h * 14029467366897019727) % 18446744073709551616 = (b + k * 14029467366897019727) % 18446744073709551616 := by
  have l1 := Nat.mod_lt (a + h * 14029467366897019727) (show 18446744073709551616 > 0 by decide)
  have l2 := Nat.mod_lt (b + k * 14029467366897019727) (show 18446744073709551616 > 0 by decide)
  unfold stp at e
  revert e l1 l2
  generalize (a + h * 14029467366897019727) % 18446744073709551616 = v
  generalize (b + k * 14029467366897019727) % 18446744073709551616 = w
  intro e l1 l2
  have q := mul_back (Q := 614540362697595703) (by decide) e
  rw [Nat.mod_eq_of_lt (rot_lt l1), Nat.mod_eq_of_lt (rot_lt l2)] at q
  exact rot_inj l1 l2 q
theorem lst_inj {a b l : Nat} (ha : a < 18446744073709551616) (hb : b < 18446744073709551616) (e : lst a l = lst b l) : a = b := by
  unfold lst at e
  exact add_back ha hb e
/-- what is ahead of the last power, as a place of it -/
def gOf (s : Nat) : Nat := s * 839798700976720815 % 18446744073709551616
theorem gOf_add (s x : Nat) : (s + x * 14029467366897019727) * 839798700976720815 % 18446744073709551616 = (gOf s + x) % 18446744073709551616 := by
  unfold gOf
  rw [Nat.add_mul, Nat.mul_assoc, Nat.add_mod, Nat.mul_mod x, show 14029467366897019727 * 839798700976720815 % 18446744073709551616 = 1 by decide, Nat.mul_one, Nat.mod_mod, ← Nat.add_mod, Nat.mod_add_mod]
theorem last_eq {s x s' x' l : Nat} (e : lst (stp s x) l = lst (stp s' x') l) : (gOf s + x) % 18446744073709551616 = (gOf s' + x') % 18446744073709551616 := by
  have q := stp_inj (lst_inj (stp_lt s x) (stp_lt s' x') e)
  rw [← gOf_add, ← gOf_add, Nat.mul_mod, q, ← Nat.mul_mod]
theorem hash_small {x : Nat} (h : x < 1000) : (hashInt (Int.ofNat x) % ((2 ^ 64 : Nat) : Int)).toNat = x := by
  have e : rawHash (Int.ofNat x) = Int.ofNat x := by
    unfold rawHash
    have a : (((Int.ofNat x).natAbs : Nat) : Int) % ((2 ^ 61 - 1 : Nat) : Int) = (x : Int) := Int.emod_eq_of_lt (by omega) (by show (x : Int) < ((2 ^ 61 - 1 : Nat) : Int); omega)
    have b : ¬ Int.ofNat x < 0 := by simp
    simp only [b, if_false]
    rw [a]
    have c : ((x : Int) == -1) = false := by rw [beq_eq_false_iff_ne]; omega
    rw [c]; rfl
  unfold hashInt
  rw [e]
  have c : (Int.ofNat x == -1) = false := by rw [beq_eq_false_iff_ne]; show (x : Int) ≠ -1; omega
  rw [c]
  show ((x : Int) % ((2 ^ 64 : Nat) : Int)).toNat = x
  rw [Int.emod_eq_of_lt (by omega) (by omega)]
  rfl
theorem fold_stp : ∀ (t : List Nat) (a : Nat), (∀ x ∈ t, x < 1000) → (((t.map Int.ofNat).map hashInt).foldl (init := a) fun acc h =>
    let acc := (acc + (h % ((2 ^ 64 : Nat) : Int)).toNat * 14029467366897019727) % 2 ^ 64
    let acc := (acc * 2 ^ 31) % 2 ^ 64 + acc / 2 ^ 33
    (acc * 11400714785074694791) % 2 ^ 64) = t.foldl stp a
  | [], _, _ => rfl
  | x :: t, a, h => by
    rw [List.map_cons, List.map_cons, List.foldl_cons, List.foldl_cons, hash_small (h x (by simp))]
    exact fold_stp t _ fun y hy => h y (by simp [hy])
theorem hsI_N {t : List Nat} (h : ∀ x ∈ t, x < 1000) : (hsI (t.map Int.ofNat) % 18446744073709551616).toNat = hN t := by
  unfold hsI Builtin.Tuple.tupleHashOf hN
  have e := fold_stp t 2870177450012600261 h
  simp only [] at e ⊢
  rw [e, List.length_map, List.length_map]
  have lt : lst (t.foldl stp 2870177450012600261) t.length < 18446744073709551616 := Nat.mod_lt _ (by decide)
  show ((reduceHash (if (lst (t.foldl stp 2870177450012600261) t.length == 18446744073709551615) = true then 1546275796 else if lst (t.foldl stp 2870177450012600261) t.length < 9223372036854775808 then (lst (t.foldl stp 2870177450012600261) t.length : Int) else (lst (t.foldl stp 2870177450012600261) t.length : Int) - 18446744073709551616)) % 18446744073709551616).toNat = _
  generalize lst (t.foldl stp 2870177450012600261) t.length = a at lt
  by_cases c : a = 18446744073709551615
  · subst c; rfl
  · have c1 : (a == 18446744073709551615) = false := by rw [beq_eq_false_iff_ne]; exact c
    rw [c1, fixN_ne c]
    simp only [Bool.false_eq_true, if_false]
    have rh : ∀ i : Int, -9223372036854775808 ≤ i → i < 9223372036854775808 → i ≠ -1 → reduceHash i = i := fun i h1 h2 h3 => by
      unfold reduceHash
      have q : (decide (-(2 ^ 63 : Int) ≤ i) && decide (i < 2 ^ 63)) = true := by
        rw [Bool.and_eq_true, decide_eq_true_eq, decide_eq_true_eq]
        exact ⟨by omega, by omega⟩
      rw [q, if_pos rfl]
      have q2 : (i == -1) = false := by rw [beq_eq_false_iff_ne]; exact h3
      rw [q2]; rfl
    split
    · rw [rh _ (by omega) (by omega) (by omega)]; omega
    · rw [rh _ (by omega) (by omega) (by omega)]; omega
def mrg : Nat → List (Nat × Nat) → List (Nat × Nat) → List (Nat × Nat)
  | 0, xs, ys => xs ++ ys
  | _ + 1, [], ys => ys
  | _ + 1, xs, [] => xs
  | k + 1, x :: xs, y :: ys => if Nat.ble x.1 y.1 then x :: mrg k xs (y :: ys) else y :: mrg k (x :: xs) ys
theorem mem_mrg : ∀ {k : Nat} {xs ys : List (Nat × Nat)} {p : Nat × Nat}, p ∈ xs ∨ p ∈ ys → p ∈ mrg k xs ys
  | 0, xs, ys, p, h => by unfold mrg; exact List.mem_append.mpr h
  | k + 1, [], ys, p, h => by
    unfold mrg
    rcases h with h | h
    · cases h
    · exact h
  | k + 1, x :: xs, [], p, h => by
    unfold mrg
    rcases h with h | h
    · exact h
    · cases h
  | k + 1, x :: xs, y :: ys, p, h => by
    unfold mrg
    split
    · rcases h with h | h
      · rcases List.mem_cons.mp h with h | h
        · exact List.mem_cons.mpr (.inl h)
        · exact List.mem_cons.mpr (.inr (mem_mrg (.inl h)))
      · exact List.mem_cons.mpr (.inr (mem_mrg (.inr h)))
    · rcases h with h | h
      · exact List.mem_cons.mpr (.inr (mem_mrg (.inl h)))
      · rcases List.mem_cons.mp h with h | h
        · exact List.mem_cons.mpr (.inl h)
        · exact List.mem_cons.mpr (.inr (mem_mrg (.inr h)))
def srtG (f : Nat → Nat) : Nat → Nat → Nat → List (Nat × Nat)
  | 0, lo, w => bif Nat.beq w 0 then [] else strN (f lo) fun h => [(h, lo)]
  | k + 1, lo, w => mrg 100000 (srtG f k lo (w / 2)) (srtG f k (lo + w / 2) (w - w / 2))
theorem mem_srtG {f : Nat → Nat} : ∀ {k lo w c : Nat}, w ≤ 2 ^ k → lo ≤ c → c < lo + w → (f c, c) ∈ srtG f k lo w
  | 0, lo, w, c, h1, h2, h3 => by
    have w1 : w = 1 := by simp at h1; omega
    have : c = lo := by omega
    subst w1 this
    show _ ∈ strN (f c) fun h => [(h, c)]
    rw [strN_eq]; simp
  | k + 1, lo, w, c, h1, h2, h3 => by
    unfold srtG
    rw [Nat.pow_succ] at h1
    refine mem_mrg ?_
    rcases Nat.lt_or_ge c (lo + w / 2) with q | q
    · exact .inl (mem_srtG (by omega) h2 q)
    · exact .inr (mem_srtG (by omega) q (by omega))
/-- the places lie more than two hundred apart, but where the terms are the same -/
def adjG (tm : Nat → List Nat) : List (Nat × Nat) → Bool
  | [] => true
  | [x] => Nat.blt (x.1 + 200) 18446744073709551616
  | x :: y :: r => (Nat.blt (x.1 + 200) y.1 || (Nat.beq x.1 y.1 && decide (tm x.2 = tm y.2))) && adjG tm (y :: r)
theorem adjG_hd {tm : Nat → List Nat} : ∀ {l : List (Nat × Nat)} {x : Nat × Nat}, adjG tm (x :: l) = true → x.1 + 200 < 18446744073709551616
  | [], x, h => by unfold adjG at h; exact Nat.blt_eq.mp h
  | y :: l, x, h => by
    unfold adjG at h
    rw [Bool.and_eq_true, Bool.or_eq_true, Bool.and_eq_true, Nat.blt_eq, Nat.beq_eq, decide_eq_true_eq] at h
    have := adjG_hd h.2
    rcases h.1 with a | a <;> omega
theorem adjG_lt {tm : Nat → List Nat} : ∀ {l : List (Nat × Nat)} {x : Nat × Nat}, adjG tm (x :: l) = true → ∀ q ∈ l, x.1 + 200 < q.1 ∨ (x.1 = q.1 ∧ tm x.2 = tm q.2)
  | [], _, _, q, hq => by cases hq
  | y :: l, x, h, q, hq => by
    unfold adjG at h
    rw [Bool.and_eq_true, Bool.or_eq_true, Bool.and_eq_true, Nat.blt_eq, Nat.beq_eq, decide_eq_true_eq] at h
    obtain ⟨h1, h2⟩ := h
    rcases List.mem_cons.mp hq with rfl | hq
    · exact h1
    · have := adjG_lt h2 q hq
      rcases h1 with a | ⟨a, b⟩ <;> rcases this with c | ⟨c, d⟩
      · exact .inl (by omega)
      · exact .inl (by omega)
      · exact .inl (by omega)
      · exact .inr ⟨by omega, b.trans d⟩
theorem adjG_tl {tm : Nat → List Nat} {l : List (Nat × Nat)} {x : Nat × Nat} (h : adjG tm (x :: l) = true) : adjG tm l = true := by
  cases l with
  | nil => rfl
  | cons y l => unfold adjG at h; rw [Bool.and_eq_true] at h; exact h.2
theorem adjG_all {tm : Nat → List Nat} : ∀ {l : List (Nat × Nat)}, adjG tm l = true → ∀ p ∈ l, p.1 + 200 < 18446744073709551616
  | [], _, p, hp => by cases hp
  | x :: l, h, p, hp => by
    rcases List.mem_cons.mp hp with hp | hp
    · rw [hp]; exact adjG_hd h
    · exact adjG_all (adjG_tl h) p hp
theorem adjG_inj {tm : Nat → List Nat} : ∀ {l : List (Nat × Nat)}, adjG tm l = true → ∀ p ∈ l, ∀ q ∈ l, ∀ {x y : Nat}, x ≤ 200 → y ≤ 200 → p.1 + x = q.1 + y → tm p.2 = tm q.2 ∧ x = y
  | [], _, p, hp, _, _, _, _, _, _, _ => by cases hp
  | z :: l, h, p, hp, q, hq, x, y, hx, hy, e => by
    rcases List.mem_cons.mp hp with hp | hp <;> rcases List.mem_cons.mp hq with hq | hq
    · rw [hp, hq] at e; rw [hp, hq]; exact ⟨rfl, by omega⟩
    · rw [hp] at e ⊢
      rcases adjG_lt h q hq with a | a
      · omega
      · exact ⟨a.2, by omega⟩
    · rw [hq] at e ⊢
      rcases adjG_lt h p hp with a | a
      · omega
      · exact ⟨a.2.symm, by omega⟩
    · exact adjG_inj (adjG_tl h) p hp q hq hx hy e
theorem mod_gap {M a b : Nat} (ha : a < M) (hb : b < M) (e : a % M = b % M) : a = b := by
  rwa [Nat.mod_eq_of_lt ha, Nat.mod_eq_of_lt hb] at e
/-- the states of what is ahead of the last power, and at place w the one state that is told otherwise -/
def fG (w b0 : Nat) (tm : Nat → List Nat) (c : Nat) : Nat := bif Nat.beq c w then gOf b0 else gOf ((tm c).foldl stp 2870177450012600261)
theorem fG_at {w b0 c : Nat} {tm : Nat → List Nat} (h : c < w) : fG w b0 tm c = gOf ((tm c).foldl stp 2870177450012600261) := by
  have q : Nat.beq c w = false := by
    cases q : Nat.beq c w
    · rfl
    · exact absurd (Nat.eq_of_beq_eq_true q) (by omega)
  unfold fG; rw [q, cond_false]
theorem fG_w {w b0 : Nat} {tm : Nat → List Nat} : fG w b0 tm w = gOf b0 := by
  unfold fG; rw [Nat.beq_refl, cond_true]
theorem hN_last (p : List Nat) (x : Nat) : hN (p ++ [x]) = fixN (lst (stp (p.foldl stp 2870177450012600261) x) (p.length + 1)) := by
  unfold hN
  rw [List.foldl_append, List.length_append, List.foldl_cons, List.foldl_nil, List.length_singleton]
section
/-! the gaps -/
theorem gap_ne {tm : Nat → List Nat} {k w m b0 : Nat} (h : adjG tm (srtG (fG w b0 tm) k 0 (w + 1)) = true) (hw : w + 1 ≤ 2 ^ k) (nw : ∀ c, c < w → tm c ≠ tm w) (hb : lst (stp b0 0) m = 18446744073709551615) {c x : Nat} (hc : c < w) (hx : x ≤ 200) : lst (stp ((tm c).foldl stp 2870177450012600261) x) m ≠ 18446744073709551615 := fun e => by
  have q := last_eq (e.trans hb.symm)
  have m1 := mem_srtG (f := fG w b0 tm) hw (Nat.zero_le c) (by omega)
  have m2 := mem_srtG (f := fG w b0 tm) hw (Nat.zero_le w) (by omega)
  rw [fG_at hc] at m1
  rw [fG_w] at m2
  have g1 := adjG_all h _ m1
  have g2 := adjG_all h _ m2
  have e2 := mod_gap (by have : gOf ((tm c).foldl stp 2870177450012600261) + 200 < 18446744073709551616 := g1; omega) (by have : gOf b0 + 200 < 18446744073709551616 := g2; omega) q
  exact nw c hc (adjG_inj h _ m1 _ m2 hx (Nat.zero_le 200) e2).1
theorem gap_inj {tm : Nat → List Nat} {k w m b0 : Nat} (h : adjG tm (srtG (fG w b0 tm) k 0 (w + 1)) = true) (hw : w + 1 ≤ 2 ^ k) (nw : ∀ c, c < w → tm c ≠ tm w) (hb : lst (stp b0 0) (m + 1) = 18446744073709551615) {c d x y : Nat} (lc : (tm c).length = m) (ld : (tm d).length = m) (hc : c < w) (hd : d < w) (hx : x ≤ 200) (hy : y ≤ 200) (e : hN (tm c ++ [x]) = hN (tm d ++ [y])) : tm c = tm d ∧ x = y := by
  rw [hN_last, hN_last, lc, ld] at e
  have n1 := gap_ne h hw nw hb hc hx
  have n2 := gap_ne h hw nw hb hd hy
  rw [fixN_ne n1, fixN_ne n2] at e
  have q := last_eq e
  have m1 := mem_srtG (f := fG w b0 tm) hw (Nat.zero_le c) (by omega)
  have m2 := mem_srtG (f := fG w b0 tm) hw (Nat.zero_le d) (by omega)
  rw [fG_at hc] at m1
  rw [fG_at hd] at m2
  have g1 := adjG_all h _ m1
  have g2 := adjG_all h _ m2
  have e2 := mod_gap (by have : gOf ((tm c).foldl stp 2870177450012600261) + 200 < 18446744073709551616 := g1; omega) (by have : gOf ((tm d).foldl stp 2870177450012600261) + 200 < 18446744073709551616 := g2; omega) q
  exact adjG_inj h _ m1 _ m2 hx hy e2
end
theorem hs_gap {tm : Nat → List Nat} {k w m b0 : Nat} (h : adjG tm (srtG (fG w b0 tm) k 0 (w + 1)) = true) (hw : w + 1 ≤ 2 ^ k) (nw : ∀ c, c < w → tm c ≠ tm w) (hb : lst (stp b0 0) (m + 1) = 18446744073709551615) (sm : ∀ c, c < w → ∀ x ∈ tm c, x < 1000) (ln : ∀ c, c < w → (tm c).length = m) {p q : List Int} {a b : Int} (hp : ∃ c, c < w ∧ (tm c).map Int.ofNat = p) (hq : ∃ c, c < w ∧ (tm c).map Int.ofNat = q) (a0 : 0 ≤ a) (a1 : a ≤ 200) (b0' : 0 ≤ b) (b1 : b ≤ 200) (e : hsI (p ++ [a]) = hsI (q ++ [b])) : p ++ [a] = q ++ [b] := by
  obtain ⟨c, hc, rfl⟩ := hp
  obtain ⟨d, hd, rfl⟩ := hq
  have ea : a = Int.ofNat a.toNat := by simp; omega
  have eb : b = Int.ofNat b.toNat := by simp; omega
  have tc : (tm c).map Int.ofNat ++ [a] = (tm c ++ [a.toNat]).map Int.ofNat := by rw [List.map_append, List.map_cons, List.map_nil, ← ea]
  have td : (tm d).map Int.ofNat ++ [b] = (tm d ++ [b.toNat]).map Int.ofNat := by rw [List.map_append, List.map_cons, List.map_nil, ← eb]
  rw [tc, td] at e ⊢
  have s1 : ∀ x ∈ tm c ++ [a.toNat], x < 1000 := fun x hx => by
    rcases List.mem_append.mp hx with hx | hx
    · exact sm c hc x hx
    · rw [List.mem_singleton.mp hx]; omega
  have s2 : ∀ x ∈ tm d ++ [b.toNat], x < 1000 := fun x hx => by
    rcases List.mem_append.mp hx with hx | hx
    · exact sm d hd x hx
    · rw [List.mem_singleton.mp hx]; omega
  have e2 : hN (tm c ++ [a.toNat]) = hN (tm d ++ [b.toNat]) := by rw [← hsI_N s1, ← hsI_N s2, e]
  have := gap_inj h hw nw hb (ln c hc) (ln d hd) hc hd (by omega) (by omega) e2
  rw [this.1, this.2]
def tr0 (c : Nat) : List Nat := bif Nat.beq c 1 then [999] else []
theorem hr_1 : adjG tr0 (srtG (fG 1 5662582672528149307 tr0) 1 0 2) = true := by decide +kernel
def tr1 (c : Nat) : List Nat := bif Nat.beq c 201 then [999] else [c % 201]
theorem tr1_at {c : Nat} (h : c < 201) : tr1 c = [c % 201] := by
  have q : Nat.beq c 201 = false := by
    cases q : Nat.beq c 201
    · rfl
    · exact absurd (Nat.eq_of_beq_eq_true q) (by omega)
  unfold tr1; rw [q, cond_false]
theorem tr1_sm (c : Nat) (h : c < 201) : ∀ x ∈ tr1 c, x < 1000 := fun x hx => by
  rw [tr1_at h] at hx
  rw [List.mem_singleton.mp hx]; omega
theorem tr1_len (c : Nat) (h : c < 201) : (tr1 c).length = 1 := by
  rw [tr1_at h]
  rfl
theorem tr1_ne (c : Nat) (h : c < 201) : tr1 c ≠ tr1 201 := fun e => by
  have q : (999 : Nat) ∈ tr1 c := by rw [e]; exact List.mem_singleton.mpr rfl
  rw [tr1_at h] at q
  have := List.mem_singleton.mp q; omega
theorem hr_2 : adjG tr1 (srtG (fG 201 9148689060682678900 tr1) 8 0 202) = true := by decide +kernel
theorem dr1_0 {a : Int} (h0 : 0 ≤ a) (g0 : a ≤ 200) : ∃ c, c < 201 ∧ (tr1 c).map Int.ofNat = [a] := by
  refine ⟨a.toNat, by omega, ?_⟩
  rw [tr1_at (by omega)]
  rw [show (a.toNat) % 201 = a.toNat by omega]
  simp; omega
def tr2 (c : Nat) : List Nat := bif Nat.beq c 1206 then [999] else bif Nat.blt c 603 then [c % 201, c / 201 % 3] else [(c - 603) / 201 % 3, (c - 603) % 201]
theorem tr2_at {c : Nat} (h : c < 1206) : tr2 c = bif Nat.blt c 603 then [c % 201, c / 201 % 3] else [(c - 603) / 201 % 3, (c - 603) % 201] := by
  have q : Nat.beq c 1206 = false := by
    cases q : Nat.beq c 1206
    · rfl
    · exact absurd (Nat.eq_of_beq_eq_true q) (by omega)
  unfold tr2; rw [q, cond_false]
theorem tr2_sm (c : Nat) (h : c < 1206) : ∀ x ∈ tr2 c, x < 1000 := fun x hx => by
  rw [tr2_at h] at hx
  cases q0 : Nat.blt c 603 with
  | true => rw [q0, cond_true] at hx; simp at hx; rcases hx with hx | hx <;> omega
  | false =>
    rw [q0, cond_false] at hx
    simp at hx; rcases hx with hx | hx <;> omega
theorem tr2_len (c : Nat) (h : c < 1206) : (tr2 c).length = 2 := by
  rw [tr2_at h]
  cases Nat.blt c 603 <;> rfl
theorem tr2_ne (c : Nat) (h : c < 1206) : tr2 c ≠ tr2 1206 := fun e => by
  have q : (999 : Nat) ∈ tr2 c := by rw [e]; exact List.mem_singleton.mpr rfl
  rw [tr2_at h] at q
  cases z : Nat.blt c 603 <;> rw [z] at q <;> simp at q <;> omega
theorem hr_3 : adjG tr2 (srtG (fG 1206 1837738906727985164 tr2) 11 0 1207) = true := by decide +kernel
theorem dr2_0 {a b : Int} (h0 : 0 ≤ a) (g0 : a ≤ 200) (h1 : 0 ≤ b) (g1 : b ≤ 2) : ∃ c, c < 1206 ∧ (tr2 c).map Int.ofNat = [a, b] := by
  refine ⟨a.toNat + 201 * b.toNat, by omega, ?_⟩
  rw [tr2_at (by omega)]
  have q0 : Nat.blt (a.toNat + 201 * b.toNat) 603 = true := by rw [Nat.blt_eq]; omega
  rw [q0, cond_true, show (a.toNat + 201 * b.toNat) % 201 = a.toNat by omega, show (a.toNat + 201 * b.toNat) / 201 % 3 = b.toNat by omega]
  simp; omega
theorem dr2_1 {a b : Int} (h0 : 0 ≤ a) (g0 : a ≤ 2) (h1 : 0 ≤ b) (g1 : b ≤ 200) : ∃ c, c < 1206 ∧ (tr2 c).map Int.ofNat = [a, b] := by
  refine ⟨603 + b.toNat + 201 * a.toNat, by omega, ?_⟩
  rw [tr2_at (by omega)]
  have q0 : Nat.blt (603 + b.toNat + 201 * a.toNat) 603 = false := by rw [← Bool.not_eq_true, Nat.blt_eq]; omega
  rw [q0, cond_false, show (603 + b.toNat + 201 * a.toNat - 603) / 201 % 3 = a.toNat by omega, show (603 + b.toNat + 201 * a.toNat - 603) % 201 = b.toNat by omega]
  simp; omega
def tr3 (c : Nat) : List Nat := bif Nat.beq c 5427 then [999] else bif Nat.blt c 1809 then [c % 201, c / 201 % 3, c / 603 % 3] else bif Nat.blt c 3618 then [(c - 1809) / 201 % 3, (c - 1809) % 201, (c - 1809) / 603 % 3] else [(c - 3618) / 201 % 3, (c - 3618) / 603 % 3, (c - 3618) % 201]
theorem tr3_at {c : Nat} (h : c < 5427) : tr3 c = bif Nat.blt c 1809 then [c % 201, c / 201 % 3, c / 603 % 3] else bif Nat.blt c 3618 then [(c - 1809) / 201 % 3, (c - 1809) % 201, (c - 1809) / 603 % 3] else [(c - 3618) / 201 % 3, (c - 3618) / 603 % 3, (c - 3618) % 201] := by
  have q : Nat.beq c 5427 = false := by
    cases q : Nat.beq c 5427
    · rfl
    · exact absurd (Nat.eq_of_beq_eq_true q) (by omega)
  unfold tr3; rw [q, cond_false]
theorem tr3_sm (c : Nat) (h : c < 5427) : ∀ x ∈ tr3 c, x < 1000 := fun x hx => by
  rw [tr3_at h] at hx
  cases q0 : Nat.blt c 1809 with
  | true => rw [q0, cond_true] at hx; simp at hx; rcases hx with hx | hx | hx <;> omega
  | false =>
    rw [q0, cond_false] at hx
    cases q1 : Nat.blt c 3618 with
    | true => rw [q1, cond_true] at hx; simp at hx; rcases hx with hx | hx | hx <;> omega
    | false =>
      rw [q1, cond_false] at hx
      simp at hx; rcases hx with hx | hx | hx <;> omega
theorem tr3_len (c : Nat) (h : c < 5427) : (tr3 c).length = 3 := by
  rw [tr3_at h]
  cases Nat.blt c 1809 <;> cases Nat.blt c 3618 <;> rfl
theorem tr3_ne (c : Nat) (h : c < 5427) : tr3 c ≠ tr3 5427 := fun e => by
  have q : (999 : Nat) ∈ tr3 c := by rw [e]; exact List.mem_singleton.mpr rfl
  rw [tr3_at h] at q
  cases z : Nat.blt c 1809 <;> cases z2 : Nat.blt c 3618 <;> simp only [z, z2, cond_true, cond_false] at q <;> simp at q <;> omega
theorem hr_4 : adjG tr3 (srtG (fG 5427 5323845294882514757 tr3) 13 0 5428) = true := by decide +kernel
theorem dr3_0 {a b d : Int} (h0 : 0 ≤ a) (g0 : a ≤ 200) (h1 : 0 ≤ b) (g1 : b ≤ 2) (h2 : 0 ≤ d) (g2 : d ≤ 2) : ∃ c, c < 5427 ∧ (tr3 c).map Int.ofNat = [a, b, d] := by
  refine ⟨a.toNat + 201 * b.toNat + 603 * d.toNat, by omega, ?_⟩
  rw [tr3_at (by omega)]
  have q0 : Nat.blt (a.toNat + 201 * b.toNat + 603 * d.toNat) 1809 = true := by rw [Nat.blt_eq]; omega
  rw [q0, cond_true, show (a.toNat + 201 * b.toNat + 603 * d.toNat) % 201 = a.toNat by omega, show (a.toNat + 201 * b.toNat + 603 * d.toNat) / 201 % 3 = b.toNat by omega, show (a.toNat + 201 * b.toNat + 603 * d.toNat) / 603 % 3 = d.toNat by omega]
  simp; omega
theorem dr3_1 {a b d : Int} (h0 : 0 ≤ a) (g0 : a ≤ 2) (h1 : 0 ≤ b) (g1 : b ≤ 200) (h2 : 0 ≤ d) (g2 : d ≤ 2) : ∃ c, c < 5427 ∧ (tr3 c).map Int.ofNat = [a, b, d] := by
  refine ⟨1809 + b.toNat + 201 * a.toNat + 603 * d.toNat, by omega, ?_⟩
  rw [tr3_at (by omega)]
  have q0 : Nat.blt (1809 + b.toNat + 201 * a.toNat + 603 * d.toNat) 1809 = false := by rw [← Bool.not_eq_true, Nat.blt_eq]; omega
  have q1 : Nat.blt (1809 + b.toNat + 201 * a.toNat + 603 * d.toNat) 3618 = true := by rw [Nat.blt_eq]; omega
  rw [q0, cond_false, q1, cond_true, show (1809 + b.toNat + 201 * a.toNat + 603 * d.toNat - 1809) / 201 % 3 = a.toNat by omega, show (1809 + b.toNat + 201 * a.toNat + 603 * d.toNat - 1809) % 201 = b.toNat by omega, show (1809 + b.toNat + 201 * a.toNat + 603 * d.toNat - 1809) / 603 % 3 = d.toNat by omega]
  simp; omega
theorem dr3_2 {a b d : Int} (h0 : 0 ≤ a) (g0 : a ≤ 2) (h1 : 0 ≤ b) (g1 : b ≤ 2) (h2 : 0 ≤ d) (g2 : d ≤ 200) : ∃ c, c < 5427 ∧ (tr3 c).map Int.ofNat = [a, b, d] := by
  refine ⟨3618 + d.toNat + 201 * a.toNat + 603 * b.toNat, by omega, ?_⟩
  rw [tr3_at (by omega)]
  have q0 : Nat.blt (3618 + d.toNat + 201 * a.toNat + 603 * b.toNat) 1809 = false := by rw [← Bool.not_eq_true, Nat.blt_eq]; omega
  have q1 : Nat.blt (3618 + d.toNat + 201 * a.toNat + 603 * b.toNat) 3618 = false := by rw [← Bool.not_eq_true, Nat.blt_eq]; omega
  rw [q0, cond_false, q1, cond_false, show (3618 + d.toNat + 201 * a.toNat + 603 * b.toNat - 3618) / 201 % 3 = a.toNat by omega, show (3618 + d.toNat + 201 * a.toNat + 603 * b.toNat - 3618) / 603 % 3 = b.toNat by omega, show (3618 + d.toNat + 201 * a.toNat + 603 * b.toNat - 3618) % 201 = d.toNat by omega]
  simp; omega
/-- a drawn term: each power below three but one, up to two hundred -/
def DrT (m : Nat) (t : List Int) : Prop := t.length = m ∧ ∃ i0 : Nat, (∀ j, j ≠ i0 → 0 ≤ t.getD j 0 ∧ t.getD j 0 ≤ 2) ∧ 0 ≤ t.getD i0 0 ∧ t.getD i0 0 ≤ 200
theorem DrT.sm {m : Nat} {t : List Int} (h : DrT m t) : SmT t := by
  obtain ⟨_, i0, h1, h2, h3⟩ := h
  intro x hx
  obtain ⟨j, hj, rfl⟩ := List.mem_iff_getElem.mp hx
  have e : t.getD j 0 = t[j] := by simp [List.getD, hj]
  by_cases c : j = i0
  · rw [← e, c]; exact ⟨h2, h3⟩
  · have := h1 j c; rw [e] at this; omega
theorem dr_1 {a : Int} (h : DrT 1 [a]) : ∃ c, c < 201 ∧ (tr1 c).map Int.ofNat = [a] := by
  obtain ⟨_, i0, h1, h2, h3⟩ := h
  rcases (by omega : i0 = 0 ∨ 1 ≤ i0) with rfl | hi
  · skip
    have h2 : 0 ≤ a := h2
    have h3 : a ≤ 200 := h3
    exact dr1_0 h2 h3
  · have k0 := h1 0 (by omega)
    have k0 : 0 ≤ a ∧ a ≤ 2 := k0
    exact dr1_0 k0.1 (by omega)
theorem dr_2 {a b : Int} (h : DrT 2 [a, b]) : ∃ c, c < 1206 ∧ (tr2 c).map Int.ofNat = [a, b] := by
  obtain ⟨_, i0, h1, h2, h3⟩ := h
  rcases (by omega : i0 = 0 ∨ i0 = 1 ∨ 2 ≤ i0) with rfl | rfl | hi
  · have k1 := h1 1 (by omega)
    have k1 : 0 ≤ b ∧ b ≤ 2 := k1
    have h2 : 0 ≤ a := h2
    have h3 : a ≤ 200 := h3
    exact dr2_0 h2 h3 k1.1 k1.2
  · have k0 := h1 0 (by omega)
    have k0 : 0 ≤ a ∧ a ≤ 2 := k0
    have h2 : 0 ≤ b := h2
    have h3 : b ≤ 200 := h3
    exact dr2_1 k0.1 k0.2 h2 h3
  · have k0 := h1 0 (by omega); have k1 := h1 1 (by omega)
    have k0 : 0 ≤ a ∧ a ≤ 2 := k0
    have k1 : 0 ≤ b ∧ b ≤ 2 := k1
    exact dr2_0 k0.1 (by omega) k1.1 k1.2
theorem dr_3 {a b d : Int} (h : DrT 3 [a, b, d]) : ∃ c, c < 5427 ∧ (tr3 c).map Int.ofNat = [a, b, d] := by
  obtain ⟨_, i0, h1, h2, h3⟩ := h
  rcases (by omega : i0 = 0 ∨ i0 = 1 ∨ i0 = 2 ∨ 3 ≤ i0) with rfl | rfl | rfl | hi
  · have k1 := h1 1 (by omega); have k2 := h1 2 (by omega)
    have k1 : 0 ≤ b ∧ b ≤ 2 := k1
    have k2 : 0 ≤ d ∧ d ≤ 2 := k2
    have h2 : 0 ≤ a := h2
    have h3 : a ≤ 200 := h3
    exact dr3_0 h2 h3 k1.1 k1.2 k2.1 k2.2
  · have k0 := h1 0 (by omega); have k2 := h1 2 (by omega)
    have k0 : 0 ≤ a ∧ a ≤ 2 := k0
    have k2 : 0 ≤ d ∧ d ≤ 2 := k2
    have h2 : 0 ≤ b := h2
    have h3 : b ≤ 200 := h3
    exact dr3_1 k0.1 k0.2 h2 h3 k2.1 k2.2
  · have k0 := h1 0 (by omega); have k1 := h1 1 (by omega)
    have k0 : 0 ≤ a ∧ a ≤ 2 := k0
    have k1 : 0 ≤ b ∧ b ≤ 2 := k1
    have h2 : 0 ≤ d := h2
    have h3 : d ≤ 200 := h3
    exact dr3_2 k0.1 k0.2 k1.1 k1.2 h2 h3
  · have k0 := h1 0 (by omega); have k1 := h1 1 (by omega); have k2 := h1 2 (by omega)
    have k0 : 0 ≤ a ∧ a ≤ 2 := k0
    have k1 : 0 ≤ b ∧ b ≤ 2 := k1
    have k2 : 0 ≤ d ∧ d ≤ 2 := k2
    exact dr3_0 k0.1 (by omega) k1.1 k1.2 k2.1 k2.2
theorem dr_0 : ∃ c, c < 1 ∧ (tr0 c).map Int.ofNat = [] := ⟨0, by omega, rfl⟩
theorem DrT.init {m : Nat} {p : List Int} {x : Int} (h : DrT (m + 1) (p ++ [x])) : DrT m p ∧ 0 ≤ x ∧ x ≤ 200 := by
  obtain ⟨l, i0, h1, h2, h3⟩ := h
  have lp : p.length = m := by rw [List.length_append] at l; simp at l; exact l
  have eq : ∀ j, j < m → (p ++ [x]).getD j 0 = p.getD j 0 := fun j hj => by
    simp [List.getD, List.getElem?_append_left (by omega : j < p.length)]
  have ge : ∀ j, m ≤ j → p.getD j 0 = 0 := fun j hj => by
    simp [List.getD, List.getElem?_eq_none (by omega : p.length ≤ j)]
  have ex : (p ++ [x]).getD m 0 = x := by simp [List.getD, ← lp]
  refine ⟨⟨lp, i0, fun j hj => ?_, ?_, ?_⟩, ?_, ?_⟩
  · rcases Nat.lt_or_ge j m with c | c
    · rw [← eq j c]; exact h1 j hj
    · rw [ge j c]; omega
  · rcases Nat.lt_or_ge i0 m with c | c
    · rw [← eq i0 c]; exact h2
    · rw [ge i0 c]; omega
  · rcases Nat.lt_or_ge i0 m with c | c
    · rw [← eq i0 c]; exact h3
    · rw [ge i0 c]; omega
  · by_cases c : m = i0
    · rw [← ex, c]; exact h2
    · have := h1 m c; rw [ex] at this; omega
  · by_cases c : m = i0
    · rw [← ex, c]; exact h3
    · have := h1 m c; rw [ex] at this; omega
theorem DrT.hs {m : Nat} {p q : List Int} (m1 : 1 ≤ m) (m4 : m ≤ 4) (hp : DrT m p) (hq : DrT m q) (e : hsI p = hsI q) : p = q := by
  have lp := hp.1
  have lq := hq.1
  rcases (by omega : m = 1 ∨ m = 2 ∨ m = 3 ∨ m = 4) with rfl | rfl | rfl | rfl
  · match p, q, lp, lq with
    | [a], [a'], _, _ =>
      have hp := DrT.init (p := []) hp
      have hq := DrT.init (p := []) hq
      exact hs_gap (p := []) (q := []) (m := 0) hr_1 (by decide) (fun c hc => by rcases (by omega : c = 0) with rfl; decide) (by decide) (fun c hc => by rcases (by omega : c = 0) with rfl; intro x hx; cases hx) (fun c hc => by rcases (by omega : c = 0) with rfl; rfl) dr_0 dr_0 hp.2.1 hp.2.2 hq.2.1 hq.2.2 e
  · match p, q, lp, lq with
    | [a, b], [a', b'], _, _ =>
      have hp := DrT.init (p := [a]) hp
      have hq := DrT.init (p := [a']) hq
      exact hs_gap (p := [a]) (q := [a']) (m := 1) hr_2 (by decide) tr1_ne (by decide) tr1_sm tr1_len (dr_1 hp.1) (dr_1 hq.1) hp.2.1 hp.2.2 hq.2.1 hq.2.2 e
  · match p, q, lp, lq with
    | [a, b, d], [a', b', d'], _, _ =>
      have hp := DrT.init (p := [a, b]) hp
      have hq := DrT.init (p := [a', b']) hq
      exact hs_gap (p := [a, b]) (q := [a', b']) (m := 2) hr_3 (by decide) tr2_ne (by decide) tr2_sm tr2_len (dr_2 hp.1) (dr_2 hq.1) hp.2.1 hp.2.2 hq.2.1 hq.2.2 e
  · match p, q, lp, lq with
    | [a, b, d, f], [a', b', d', f'], _, _ =>
      have hp := DrT.init (p := [a, b, d]) hp
      have hq := DrT.init (p := [a', b', d']) hq
      exact hs_gap (p := [a, b, d]) (q := [a', b', d']) (m := 3) hr_4 (by decide) tr3_ne (by decide) tr3_sm tr3_len (dr_3 hp.1) (dr_3 hq.1) hp.2.1 hp.2.2 hq.2.1 hq.2.2 e
theorem DrT.nodup {m : Nat} (m1 : 1 ≤ m) (m4 : m ≤ 4) : ∀ {ts : List (List Int)}, (∀ t ∈ ts, DrT m t) → ts.Nodup → (ts.map hsI).Nodup
  | [], _, _ => List.nodup_nil
  | t :: ts, h, nd => by
    rw [List.nodup_cons] at nd
    rw [List.map_cons, List.nodup_cons]
    refine ⟨fun z => ?_, DrT.nodup m1 m4 (fun x hx => h x (.tail _ hx)) nd.2⟩
    obtain ⟨u, hu, e⟩ := List.mem_map.mp z
    exact nd.1 (by rw [DrT.hs m1 m4 (h t (.head _)) (h u (.tail _ hu)) e.symm]; exact hu)
end K12

namespace K6
open PySem L2
def top (i : Nat) : Stmt := PySem.Challenge.pw_idealroom_k12_shown.main.body.getD i (.Pass ⟨0, 0, 0, 0⟩)
abbrev s_degree : Stmt := top 21
abbrev s_is_below_nought : Stmt := top 2
abbrev s_number_shown : Stmt := top 3
abbrev s_power_shown : Stmt := top 4
abbrev s_Ring_letters : Stmt := inClass (top 30) 1
abbrev s_part_shown : Stmt := top 5
abbrev s_Order_rank : Stmt := inClass (top 24) 0
abbrev s_Degrees_rank : Stmt := inClass (top 25) 0
abbrev s_Tails_rank : Stmt := inClass (top 26) 0
abbrev s_Weights___init__ : Stmt := inClass (top 27) 0
abbrev s_Weights_rank : Stmt := inClass (top 27) 1
abbrev s_Order_falling : Stmt := inClass (top 24) 2
abbrev s_Order_fits : Stmt := inClass (top 24) 5
abbrev s_Weights_fits : Stmt := inClass (top 27) 3
abbrev s_Ring___init__ : Stmt := inClass (top 30) 0
abbrev s_is_prime : Stmt := top 16
abbrev s_Field___init__ : Stmt := inClass (top 17) 0
abbrev s_Fractions___init__ : Stmt := inClass (top 18) 0
abbrev s_Rests___init__ : Stmt := inClass (top 19) 0
abbrev s_shown : Stmt := top 6
abbrev s__law_cell_at : Stmt := top 32
abbrev s__law_is_prime : Stmt := top 33
abbrev s__law_prime : Stmt := top 34
abbrev s__law_field : Stmt := top 35
abbrev s__law_way : Stmt := top 36
abbrev s__law_order : Stmt := top 37
abbrev s__law_rank : Stmt := top 38
abbrev s__law_reduced : Stmt := top 39
abbrev s__law_number : Stmt := top 40
abbrev s__law_drawn : Stmt := top 41
abbrev s__law_term : Stmt := top 42
abbrev s__law_parts : Stmt := top 43
abbrev s__law_part : Stmt := top 44
abbrev s__law_text : Stmt := top 45
abbrev s_law : Stmt := top 46
structure Txt (K : PySem.W.Frag) (mg : Str → Option Value) (C_Ring C_Fractions C_Rests C_Order C_Degrees C_Tails C_Weights : Addr) : Prop where
  b_abs : mg "abs" = none
  b_any : mg "any" = none
  b_dict : mg "dict" = none
  b_isinstance : mg "isinstance" = none
  b_len : mg "len" = none
  b_list : mg "list" = none
  b_max : mg "max" = none
  b_range : mg "range" = none
  b_reversed : mg "reversed" = none
  b_sorted : mg "sorted" = none
  b_str : mg "str" = none
  b_sum : mg "sum" = none
  b_tuple : mg "tuple" = none
  b_zip : mg "zip" = none
  cl_Ring : Cls K C_Ring
  mg_Ring : mg "Ring" = some (.ref C_Ring)
  na_Ring_many : NoAttr K C_Ring "many"
  na_Ring_field : NoAttr K C_Ring "field"
  na_Ring_order : NoAttr K C_Ring "order"
  cl_Fractions : Cls K C_Fractions
  mg_Fractions : mg "Fractions" = some (.ref C_Fractions)
  na_Fractions_prime : NoAttr K C_Fractions "prime"
  cl_Rests : Cls K C_Rests
  mg_Rests : mg "Rests" = some (.ref C_Rests)
  na_Rests_prime : NoAttr K C_Rests "prime"
  cl_Order : Cls K C_Order
  mg_Order : mg "Order" = some (.ref C_Order)
  n0_Order : Mk0 K C_Order
  cl_Degrees : Cls K C_Degrees
  mg_Degrees : mg "Degrees" = some (.ref C_Degrees)
  n0_Degrees : Mk0 K C_Degrees
  cl_Tails : Cls K C_Tails
  mg_Tails : mg "Tails" = some (.ref C_Tails)
  n0_Tails : Mk0 K C_Tails
  cl_Weights : Cls K C_Weights
  mg_Weights : mg "Weights" = some (.ref C_Weights)
  na_Weights_weights : NoAttr K C_Weights "weights"
  g_GREATEST_PRIME : ∃ tk, mg "GREATEST_PRIME" = some (.int 9973 tk)
  g_LETTERS : ∃ tk, mg "LETTERS" = some (.str "xyzt" tk)
  kss : PySem.W.kitOne K (.type "str") (.type "str") = some true
theorem nd_letter_power : (["letter", "power"] : List Str).Nodup := by decide +kernel
theorem nd_power : (["power"] : List Str).Nodup := by decide +kernel
theorem nd_weight : (["weight"] : List Str).Nodup := by decide +kernel
theorem nd_power_weight : (["power", "weight"] : List Str).Nodup := by decide +kernel
theorem nd__law_a : (["_law_a"] : List Str).Nodup := by decide +kernel
theorem nd__law_a__law_w : (["_law_a", "_law_w"] : List Str).Nodup := by decide +kernel
theorem uOne {k : Nat} {A : Around} (r : Room k A) : A.units + 1 < cLine := by have := r.units; omega
theorem pe_globS {X : Cx} {x : Str} {i : Str} {pos : Pos} (hm : ∃ tk, X.mg x = some (.str i tk)) (hg : Gl X x) (hd : (x == ("__debug__" : Str)) = false := by decide) : PE X (.Name x pos) (tC (.str i)) := by
  obtain ⟨tk, e⟩ := hm
  exact pe_glob hg e ⟨tk, rfl⟩ hd
end K6
namespace K6
open PySem L2

open K1 K2 K3 K12
theorem seq_mid {a r : TS} {D : Ends} {σ : St} {H : Hp} (R : St → Hp → Prop) (hu : ∀ σ' H', R σ' H' → r D σ' H') (hc : ∀ N : St → Hp → Prop, (∀ σ' H', R σ' H' → N σ' H') → a { D with nx := N } σ H) : tSeq a r D σ H := by
  unfold tSeq
  exact hc _ hu
def spField (K : PySem.W.Frag) : Sp := fun vs H Q _ => ∃ (p C dx : Addr) (v : V), vs = [.ref p, v] ∧ H p = some (.ins C dx []) ∧ Cls K C ∧ NoAttr K C "prime" ∧ Q .non (upd H p (.ins C dx [("prime", v)]))
def spFracInit (CF : Addr) : Sp := fun vs H Q _ => ∃ (p dx : Addr), vs = [.ref p] ∧ H p = some (.ins CF dx []) ∧ Q .non (upd H p (.ins CF dx [("prime", .int 0)]))
def cellOf (ns : List Int) (k : Int) : Int := ns.getD k.toNat 0
def spCell (K : PySem.W.Frag) : Sp := fun vs H Q _ => ∃ (a : Addr) (ns : List Int) (k : Int), vs = [.ref a, .int k] ∧ SqL K H a (ns.map V.int) ∧ 0 ≤ k ∧ Q (.int (cellOf ns k)) H
theorem atI_int {ns : List Int} {k : Int} (h0 : 0 ≤ k) (h : k < (ns.length : Int)) : atI (ns.map V.int) k = some (.int (cellOf ns k)) := by
  have hk : k.toNat < ns.length := by omega
  have ek : k = ((k.toNat : Nat) : Int) := by omega
  have q : atI (ns.map V.int) ((k.toNat : Nat) : Int) = some (.int ns[k.toNat]) := atI_nat (by rw [List.getElem?_map, List.getElem?_eq_getElem hk] <;> rfl)
  rw [← ek] at q
  rw [q]
  unfold cellOf
  rw [List.getD_eq_getElem?_getD, List.getElem?_eq_getElem hk]; rfl
def spPrime : Sp := fun vs H Q _ => ∃ (n : Int), vs = [.int n] ∧ n ≤ 9973 ∧ Q (.bl (isP n)) H
def spRests (CR NP : Addr) : Sp := fun vs H Q E => ∃ (p dx : Addr) (n : Int), vs = [.ref p, .int n] ∧ H p = some (.ins CR dx []) ∧
  ((n ≤ 9973 ∧ isP n = true ∧ Q .non (upd H p (.ins CR dx [("prime", .int n)]))) ∨ ((9973 < n ∨ isP n = false) ∧ E (.ref NP) none H))
theorem sq_small {d n : Int} (h2 : 2 ≤ d) (h : d ≤ 101) : -(2 ^ 64) < d ∧ d < 2 ^ 64 := by omega

theorem up {n a b : Nat} (h : n < 2 ^ a) (hab : a ≤ b) : n < 2 ^ b := Nat.lt_of_lt_of_le h (Nat.pow_le_pow_right (by decide) hab)
theorem gI_bd {a b : Int} {n : Nat} (hb : b ≠ 0) (h : b.natAbs < n) : gI a b ≠ 0 ∧ (gI a b).natAbs < n := by
  have := gI_pos (a := a) hb
  refine ⟨by omega, Nat.lt_of_le_of_lt ?_ h⟩
  unfold gI
  rw [Int.natAbs_natCast]
  exact Nat.le_of_dvd (by omega) (Nat.gcd_dvd_right _ _)
def NumR (CR : Addr) (H : Hp) (p dx : Addr) (n : Int) : Prop := H p = some (.ins CR dx [("prime", .int n)]) ∧ Pr n ∧ n ≤ 9973
/-- a term's powers -/
structure Pws (xs : List Int) : Prop where
  len : xs.length ≤ 100
  ne : xs ≠ []
  nn : Nn xs
  hi : ∀ x ∈ xs, x < 10 ^ 31
theorem mem_or (xs : List Int) (i : Nat) : xs.getD i 0 = 0 ∨ xs.getD i 0 ∈ xs := by
  rw [List.getD_eq_getElem?_getD]
  cases q : xs[i]? with
  | none => exact .inl rfl
  | some v => exact .inr (List.mem_of_getElem? q)
theorem Nn.getD {xs : List Int} (h : Nn xs) (i : Nat) : 0 ≤ xs.getD i 0 := by
  rcases mem_or xs i with q | q
  · omega
  · exact h _ q
theorem bits {xs : List Int} (h1 : Nn xs) (h2 : ∀ x ∈ xs, x < 10 ^ 31) (i : Nat) : (xs.getD i 0).natAbs < 2 ^ 4000 := by
  have h0 := h1.getD i
  have h3 : (xs.getD i 0).natAbs < 2 ^ 110 := by
    have e : ((2 ^ 110 : Nat) : Int) = 2 ^ 110 := by decide
    have l : (10 : Int) ^ 31 < 2 ^ 110 := by decide
    rcases mem_or xs i with q | q
    · omega
    · have := h2 _ q; omega
  exact Nat.lt_of_lt_of_le h3 (Nat.pow_le_pow_right (by decide) (by decide))

structure OrdC (C : Addr) (At : Hp → Addr → Prop) : Prop where
  same : ∀ {H H' : Hp} {p : Addr}, Same H H' → At H p → At H' p
  ins : ∀ {H : Hp} {p : Addr}, At H p → ∃ dx fs, H p = some (.ins C dx fs) ∧ ∀ m : Str, ¬ m = "weights" → fs.lookup m = none
def AtO (C : Addr) (H : Hp) (p : Addr) : Prop := ∃ dx, H p = some (.ins C dx [])
def AtW (C : Addr) (ws : List Int) (H : Hp) (p : Addr) : Prop := ∃ dx wt, H p = some (.ins C dx [("weights", .ref wt)]) ∧ H wt = some (.tup (ws.map V.int))

theorem no_W (v : V) (m : Str) (h : ¬ m = "weights") : ([("weights", v)] : List (Str × V)).lookup m = none := by
  have e : (m == (Str.ofString "weights")) = false := by
    cases q : (m == (Str.ofString "weights")) with
    | true => exact absurd (eq_of_beq q) h
    | false => rfl
  simp only [List.lookup, e]
theorem ordcO (C : Addr) : OrdC C (AtO C) := ⟨fun e ⟨dx, h⟩ => ⟨dx, e _ _ h⟩, fun ⟨dx, h⟩ => ⟨dx, [], h, fun _ _ => rfl⟩⟩
theorem ordcW (C : Addr) (ws : List Int) : OrdC C (AtW C ws) := ⟨fun e ⟨dx, wt, h1, h2⟩ => ⟨dx, wt, e _ _ h1, e _ _ h2⟩, fun ⟨dx, wt, h, _⟩ => ⟨dx, _, h, no_W _⟩⟩
def spDeg (K : PySem.W.Frag) : Sp := fun vs H Q _ => ∃ (a : Addr) (xs : List Int), vs = [.ref a] ∧ SqT K H a (xs.map V.int) ∧ Q (.int xs.sum) H
def spRank (At : Hp → Addr → Prop) (rk : List Int → List Int) : Sp := fun vs H Q _ => ∃ (p t : Addr) (xs : List Int), vs = [.ref p, .ref t] ∧ At H p ∧ H t = some (.tup (xs.map V.int)) ∧ Pws xs ∧ ∀ r H', Same H H' → H' r = some (.tup ((rk xs).map V.int)) → Q (.ref r) H'
def spWInit (K : PySem.W.Frag) (C NO : Addr) : Sp := fun vs H Q E => ∃ (p dx l : Addr) (ws : List Int), vs = [.ref p, .ref l] ∧ H p = some (.ins C dx []) ∧ SqL K H l (ws.map V.int) ∧ ws.length ≤ 100 ∧
  ((Nn ws ∧ ∀ wt H', H' p = some (.ins C dx [("weights", .ref wt)]) → H' wt = some (.tup (ws.map V.int)) → (∀ b o, H b = some o → b ≠ p → H' b = some o) → Q .non H') ∨ (¬ Nn ws ∧ ∀ H', Same H H' → E (.ref NO) none H'))
def AtK (CO CD CT CW : Addr) (k : Int) (ws : List Int) : Hp → Addr → Prop := if k = 0 then AtO CO else if k = 1 then AtO CD else if k = 2 then AtO CT else AtW CW ws
def spOrder (K : PySem.W.Frag) (CO CD CT CW : Addr) : Sp := fun vs H Q _ => ∃ (k : Int) (l : Addr) (ws : List Int), vs = [.int k, .ref l] ∧ SqL K H l (ws.map V.int) ∧ ws.length ≤ 100 ∧ Nn ws ∧ ∀ p H', Same H H' → AtK CO CD CT CW k ws H' p → Q (.ref p) H'
noncomputable instance instDecNn (ws : List Int) : Decidable (Nn ws) := Classical.propDecidable _
theorem any_neg (ws : List Int) : ((List.range ws.length).map fun i => decide (ws.getD i 0 < 0)).any id = !decide (Nn ws) := by
  by_cases h : Nn ws
  · rw [decide_eq_true h, Bool.not_true, List.any_eq_false]
    intro b hb
    obtain ⟨i, _, rfl⟩ := List.mem_map.mp hb
    have := h.getD i
    show decide (ws.getD i 0 < 0) ≠ true
    rw [decide_eq_false (by omega)]
    decide
  · rw [decide_eq_false h, Bool.not_false, List.any_eq_true]
    have : ∃ x ∈ ws, x < 0 := Classical.byContradiction fun z => h fun x hx => by
      rcases (by omega : x < 0 ∨ 0 ≤ x) with q | q
      · exact absurd ⟨x, hx, q⟩ z
      · exact q
    obtain ⟨x, hx, q⟩ := this
    obtain ⟨i, hi, e⟩ := List.mem_iff_getElem.mp hx
    exact ⟨_, List.mem_map.mpr ⟨i, List.mem_range.mpr hi, rfl⟩, by simp [List.getD, hi, e, q]⟩


def spFall (At : Hp → Addr → Prop) (rk : List Int → List Int) : Sp := fun vs H Q _ => ∃ (p l : Addr) (ys : List V) (xss : List (List Int)), vs = [.ref p, .ref l] ∧ At H p ∧ H l = some (.lst ys) ∧ Paired (Trm H) xss ys ∧ (∀ xs ∈ xss, Pws xs) ∧ ys.length < 64 ∧
  ∀ D H' (ps : List (List Int × V)), Same H H' → ps.Perm (xss.zip ys) → ps.Pairwise (fun p q => HT.lexLt (rk p.1) (rk q.1) = false) → H' D = some (.lst (ps.map (·.2))) → Q (.ref D) H'
def spFits (At : Hp → Addr → Prop) (b : Int → Bool) : Sp := fun vs H Q _ => ∃ (p : Addr) (k : Int), vs = [.ref p, .int k] ∧ At H p ∧ ∀ H', Same H H' → Q (.bl (b k)) H'
/-- the keys one by one -/
theorem sk_walk {K : PySem.W.Frag} {At : Hp → Addr → Prop} {rk : List Int → List Int} {C p : Addr} (oC : OrdC C At) (ne : ∀ xs, Pws xs → rk xs ≠ []) {F : List V → Hp → Prop} : ∀ (xss : List (List Int)) (ys ks : List V) (kis : List (List Int)) (H H1 : Hp), Same H H1 → At H1 p → Paired (Trm H1) xss ys → (∀ xs ∈ xss, Pws xs) →
    Paired (fun ns k => ∃ t, k = V.ref t ∧ SqT K H1 t (ns.map V.int) ∧ ns ≠ []) kis ks →
    (∀ ks' H', Same H H' → Paired (fun ns k => ∃ t, k = V.ref t ∧ SqT K H' t (ns.map V.int) ∧ ns ≠ []) (kis ++ xss.map rk) ks' → F ks' H') →
    skGo (fun x H Q => spRank At rk [.ref p, x] H Q E0) ys ks H1 F
  | [], _, ks, kis, H, H1, e, _, .nil, _, hk, hF => by
    have := hF ks H1 e (by simpa using hk)
    exact this
  | xs :: xss, _, ks, kis, H, H1, e, hp, .cons ⟨r, er, hr⟩ t, hw, hk, hF => by
    subst er
    refine ⟨p, r, xs, rfl, hp, hr, hw xs (.head _), fun k H2 e2 hk2 => ?_⟩
    refine sk_walk oC ne xss _ _ (kis ++ [rk xs]) H H2 (e.trans e2) (oC.same e2 hp) (pimp (fun _ _ h => h.same e2) t) (fun x hx => hw x (.tail _ hx)) (psnoc ⟨k, rfl, SqT.of hk2, ne xs (hw xs (.head _))⟩ (pimp (fun _ _ ⟨t, q1, q2, q3⟩ => ⟨t, q1, e2.seqT q2, q3⟩) hk)) fun ks' H' e' hk' => hF ks' H' e' ?_
    simpa using hk'
def rkk (kd : Int) (ws xs : List Int) : List Int := if kd = 0 then rkL xs else if kd = 3 then rkW ws xs else if kd = 1 then rkD xs else rkT xs
def AtF (CF : Addr) (H : Hp) (p : Addr) : Prop := ∃ dx, H p = some (.ins CF dx [("prime", .int 0)])
def AtR (CR : Addr) (n : Int) (H : Hp) (p : Addr) : Prop := ∃ dx, NumR CR H p dx n
/-- n = 0: the fractions -/
def AtN (CF CR : Addr) (n : Int) : Hp → Addr → Prop := if n = 0 then AtF CF else AtR CR n
/-- the ring's object -/
def RgO (CG : Addr) (dx : Addr) (m : Int) (pf po : Addr) : HO := .ins CG dx [("many", .int m), ("field", .ref pf), ("order", .ref po)]
def RgAt (CG : Addr) (H : Hp) (r : Addr) (m : Int) (pf po : Addr) : Prop := ∃ dx, H r = some (RgO CG dx m pf po)
theorem no_G {m : Int} {pf po : Addr} (x : Str) (h1 : ¬ x = "many") (h2 : ¬ x = "field") (h3 : ¬ x = "order") : ([("many", V.int m), ("field", .ref pf), ("order", .ref po)] : List (Str × V)).lookup x = none := by
  have e : ∀ y : Str, ¬ x = y → (x == y) = false := fun y h => by
    cases q : (x == y) with
    | true => exact absurd (eq_of_beq q) h
    | false => rfl
  simp only [List.lookup, e _ h1, e _ h2, e _ h3]
def fbK (kd : Int) (ws : List Int) (m : Int) : Bool := if kd = 3 then decide ((ws.length : Int) = m) else true
def okR (kd : Int) (ws : List Int) (m : Int) : Prop := 1 ≤ m ∧ m ≤ 4 ∧ fbK kd ws m = true
def spRgInit (CG NR CO CD CT CW : Addr) : Sp := fun vs H Q E => ∃ (r dx : Addr) (m : Int) (pf po : Addr) (kd : Int) (ws : List Int), vs = [.ref r, .int m, .ref pf, .ref po] ∧ H r = some (.ins CG dx []) ∧ 0 ≤ kd ∧ kd < 4 ∧ Nn ws ∧ (∀ x ∈ ws, x < 10 ^ 31) ∧ AtK CO CD CT CW kd ws H po ∧
  ((okR kd ws m ∧ ∀ H', H' r = some (RgO CG dx m pf po) → (∀ b o, H b = some o → b ≠ r → H' b = some o) → Q .non H') ∨ (¬ okR kd ws m ∧ ∀ H', Same H H' → E (.ref NR) none H'))
def spLetters (CG : Addr) : Sp := fun vs H Q _ => ∃ (r : Addr) (m : Int) (pf po : Addr), vs = [.ref r] ∧ RgAt CG H r m pf po ∧ 1 ≤ m ∧ m ≤ 4 ∧ Q (.str (cutS "xyzt" none (some m))) H
theorem cut_len {m : Int} (h1 : 1 ≤ m) (h2 : m ≤ 4) : (cutS "xyzt" none (some m)).length ≤ sizeLine := by
  rcases (by omega : m = 1 ∨ m = 2 ∨ m = 3 ∨ m = 4) with rfl | rfl | rfl | rfl <;> decide +kernel
theorem len_xyzt : ((("xyzt" : Str).length : Nat) : Int) = 4 := by decide +kernel
theorem cut_map (ns : List Int) (lo hi : Option Int) : ∃ ms : List Int, cutV (ns.map V.int) lo hi = ms.map V.int ∧ ms.length ≤ ns.length := by
  refine ⟨(ns.drop (HT.sIx ns.length 0 lo)).take (HT.sIx ns.length ns.length hi - HT.sIx ns.length 0 lo), ?_, ?_⟩
  · unfold cutV
    rw [List.length_map, List.map_take, List.map_drop]
  · rw [List.length_take, List.length_drop]; omega

structure OrdE (P : Program) (w : World) (K : PySem.W.Frag) (mg : Str → Option Value) (base : Heap) (C : Addr) (At : Hp → Addr → Prop) (rk : List Int → List Int) (fb : Int → Bool) : Prop where
  oC : OrdC C At
  fits : MCal P w K mg base CX0 1 C "fits" ["self", "many"] [] (spFits At fb)
  fall : MCal P w K mg base CX0 6 C "falling" ["self", "terms"] [] (spFall At rk)
/-- a number of the field, as it lies -/
def NV (n : Int) (H : Hp) (v : V) (z : Int × Int) : Prop := if n = 0 then ∃ r, v = .ref r ∧ H r = some (.tup [.int z.1, .int z.2]) else v = .int z.1
theorem NV.same {n : Int} {H H' : Hp} {v : V} {z : Int × Int} (e : Same H H') (h : NV n H v z) : NV n H' v z := by
  unfold NV at h ⊢
  by_cases c : n = 0
  · rw [if_pos c] at h ⊢
    obtain ⟨r, a, b⟩ := h; exact ⟨r, a, e _ _ b⟩
  · rw [if_neg c] at h ⊢
    exact h
theorem nv_0 {H : Hp} {v : V} {z : Int × Int} : NV 0 H v z ↔ ∃ r, v = .ref r ∧ H r = some (.tup [.int z.1, .int z.2]) := by unfold NV; rw [if_pos rfl]
theorem nv_n {n : Int} (h : n ≠ 0) {H : Hp} {v : V} {z : Int × Int} : NV n H v z ↔ v = .int z.1 := by unfold NV; rw [if_neg h]
/-- the polynomial as a dict -/
structure PF (n : Int) (m : Nat) (H : Hp) (kvs : List (List Key × V)) (T : List Int → Int × Int) : Prop where
  row : ∀ p ∈ kvs, ∃ t, p.1 = ky t ∧ DrT m t ∧ NV n H p.2 (T t) ∧ NOk n (T t)
  nd : (kvs.map (·.1)).Nodup
theorem val_mem {kvs : List (List Key × V)} : ∀ {p : List Key × V}, (kvs.map (·.1)).Nodup → p ∈ kvs → valV kvs p.1 = some p.2 := by
  induction kvs with
  | nil => intro p _ h; cases h
  | cons q l ih =>
    intro p nd hp
    rw [List.map_cons, List.nodup_cons] at nd
    rcases List.mem_cons.mp hp with rfl | hp
    · exact valV_pos rfl
    · rw [valV_neg (fun e => nd.1 (by rw [e]; exact List.mem_map.mpr ⟨p, hp, rfl⟩))]
      exact ih nd.2 hp
theorem PF.same {n : Int} {m : Nat} {H H' : Hp} {kvs : List (List Key × V)} {T : List Int → Int × Int} (e : Same H H') (h : PF n m H kvs T) : PF n m H' kvs T :=
  ⟨fun p hp => let ⟨t, a, b, c, d⟩ := h.row p hp; ⟨t, a, b, c.same e, d⟩, h.nd⟩
def spBel (CF CR : Addr) : Sp := fun vs H Q _ => ∃ (pf : Addr) (v : V) (n : Int) (z : Int × Int), vs = [.ref pf, v] ∧ AtN CF CR n H pf ∧ NV n H v z ∧ Q (.bl (blw n z)) H
def spNumT (CF CR : Addr) : Sp := fun vs H Q _ => ∃ (pf : Addr) (v : V) (n : Int) (z : Int × Int), vs = [.ref pf, v] ∧ AtN CF CR n H pf ∧ NV n H v z ∧ NOk n z ∧ Q (.str (numT n z)) H
def spPwT : Sp := fun vs H Q _ => ∃ (l : Str) (a : Int), vs = [.str l, .int a] ∧ l.length ≤ 10 ∧ 0 ≤ a ∧ a ≤ 200 ∧ Q (.str (pwT l a)) H
/-- the ring, its field and its order -/
structure RgX (CG CF CR CO CD CT CW : Addr) (H : Hp) (r : Addr) (m : Nat) (n kd : Int) (ws : List Int) : Prop where
  ex : ∃ pf po, RgAt CG H r m pf po ∧ AtN CF CR n H pf ∧ AtK CO CD CT CW kd ws H po
  m1 : 1 ≤ m
  m4 : m ≤ 4
def spPrt (CG CF CR CO CD CT CW : Addr) : Sp := fun vs H Q _ => ∃ (r : Addr) (v : V) (b : Addr) (m : Nat) (n kd : Int) (ws t : List Int) (z : Int × Int), vs = [.ref r, v, .ref b] ∧ RgX CG CF CR CO CD CT CW H r m n kd ws ∧ NV n H v z ∧ NOk n z ∧ H b = some (.tup (t.map V.int)) ∧ DrT m t ∧
  ∀ H', Same H H' → Q (.str (prt n t z)) H'
theorem atN_pr {CF CR : Addr} {n : Int} {H : Hp} {p : Addr} (h : AtN CF CR n H p) : ∃ C dx, (C = CF ∨ C = CR) ∧ H p = some (.ins C dx [("prime", .int n)]) := by
  unfold AtN at h
  split at h
  · rename_i c; subst c
    obtain ⟨dx, h⟩ := h; exact ⟨CF, dx, .inl rfl, h⟩
  · obtain ⟨dx, h⟩ := h; exact ⟨CR, dx, .inr rfl, h.1⟩
theorem atI0 {a b : V} : atI [a, b] 0 = some a := rfl
theorem atI1 {a b : V} : atI [a, b] 1 = some b := rfl
theorem ip_addS {X : Cx} : PIp X .Add (fun x y H Q => ∃ i j, x = .str i ∧ y = .str j ∧ i.length + j.length ≤ sizeLine ∧ Q (.str (i ++ j)) H) := iop_add_str
theorem zl (n : Nat) (h : n ≤ 10000000) : n ≤ sizeLine := Nat.le_trans h (by rw [sizeLine_eq]; decide)

theorem ltr_at {m : Nat} (m4 : m ≤ 4) {i x : Nat} (h : (cutS "xyzt" none (some (m : Int))).cps[i]? = some x) : (⟨#[x]⟩ : Str) = ltr i := by
  have key : ∀ m ≤ 4, ∀ i < 5, (cutS "xyzt" none (some ((m : Nat) : Int))).cps[i]?.map (fun x => (⟨#[x]⟩ : Str)) = none ∨ (cutS "xyzt" none (some ((m : Nat) : Int))).cps[i]?.map (fun x => (⟨#[x]⟩ : Str)) = some (ltr i) := by decide +kernel
  have sz : ∀ m ≤ 4, (cutS "xyzt" none (some ((m : Nat) : Int))).cps.size ≤ 4 := by decide +kernel
  have hi : i < 5 := by
    rcases Nat.lt_or_ge i (cutS "xyzt" none (some (m : Int))).cps.size with q | q
    · have := sz m m4; omega
    · rw [Array.getElem?_eq_none q] at h; cases h
  rcases key m m4 i hi with q | q
  · rw [h] at q; cases q
  · rw [h] at q
    have q' : some (⟨#[x]⟩ : Str) = some (ltr i) := q
    injection q'
theorem cut_size {m : Nat} (m4 : m ≤ 4) : (cutS "xyzt" none (some (m : Int))).cps.size = m := by
  have key : ∀ m ≤ 4, (cutS "xyzt" none (some ((m : Nat) : Int))).cps.size = m := by decide +kernel
  exact key m m4
theorem cut_ascii {m : Nat} (m4 : m ≤ 4) : strIterType (cutS "xyzt" none (some (m : Int))) = "str_ascii_iterator" := by
  have key : ∀ m ≤ 4, strIterType (cutS "xyzt" none (some ((m : Nat) : Int))) = "str_ascii_iterator" := by decide +kernel
  exact key m m4
theorem facs_eq (t : List Int) : (((List.range t.length).filter fun i => decide (0 < t.getD i 0)).map fun i => V.str (pwT (ltr i) (t.getD i 0))) = (facs t).map V.str := by unfold facs; rw [List.map_map]; rfl
theorem rds_strs {K : PySem.W.Frag} {H : Hp} : ∀ ws : List Str, RdsAll K H (ws.map V.str) (ws.map PyData.str)
  | [] => .nil
  | n :: ns => .cons (.str n) (rds_strs ns)
def Sok (x : Str) : Prop := ∀ c ∈ x.cps.toList, c < 0x110000
theorem Sok.lay {x : Str} (h : Sok x) : PyData.canLay0 (.str x) = true := by
  unfold PyData.canLay0 PyData.strOk
  rw [Array.all_eq_true']
  intro c hc
  exact decide_eq_true (h c (by simpa using hc))
theorem Sok.app {x y : Str} (h : Sok x) (h' : Sok y) : Sok (x ++ y) := fun c hc => by
  rw [Str.cps_append, Array.toList_append, List.mem_append] at hc
  exact hc.elim (h c) (h' c)
theorem sok_sI (i : Int) : Sok (sI i) := fun c hc => by
  have e := Str.ofString_eq_toList (toString i)
  unfold sI at hc
  rw [e] at hc
  have hc' : c ∈ (toString i).toList.map Char.toNat := by simpa using hc
  obtain ⟨ch, h1, rfl⟩ := List.mem_map.mp hc'
  have := int_ascii i ch h1
  omega
theorem sok_ltr (k : Nat) : Sok (ltr k) := fun c hc => by
  have hc' : c = ("xyzt" : Str).cps.getD k 0 := by simpa [ltr] using hc
  have key : ∀ k < 4, ("xyzt" : Str).cps.getD k 0 < 0x110000 := by decide +kernel
  have sz : ("xyzt" : Str).cps.size = 4 := by decide +kernel
  rw [hc']
  rcases Nat.lt_or_ge k 4 with q | q
  · exact key k q
  · rw [Array.getD_eq_getD_getElem?, Array.getElem?_eq_none (by rw [sz]; exact q)]
    decide
theorem sok_facs (t : List Int) : ∀ w ∈ facs t, Sok w := fun w hw => by
  obtain ⟨i, _, rfl⟩ := List.mem_map.mp hw
  unfold pwT
  split
  · exact sok_ltr i
  · refine ((sok_ltr i).app ?_).app (sok_sI _)
    intro c hc
    revert c
    decide +kernel
theorem lay_strs : ∀ ws : List Str, (∀ w ∈ ws, Sok w) → PyData.canLayAll0 (ws.map PyData.str) = true
  | [], _ => rfl
  | w :: ws, h => by
    show (PyData.canLay0 (.str w) && PyData.canLayAll0 (ws.map PyData.str)) = true
    rw [lay_strs ws fun x hx => h x (.tail _ hx), (h w (.head _)).lay]; rfl
theorem dep_strs : ∀ ws : List Str, PyData.depthAll (ws.map PyData.str) ≤ 2
  | [] => by simp [PyData.depthAll]
  | w :: ws => by
    have := dep_strs ws
    simp only [List.map_cons, PyData.depthAll]
    simp [PyData.depth]; omega
theorem shp_strs (ws : List Str) (hs : ∀ w ∈ ws, Sok w) : SeqAt.shaped (.list (ws.map PyData.str)) = true := by
  unfold SeqAt.shaped
  have h1 : PyData.canLay0 (.list (ws.map PyData.str)) = true := by simpa [PyData.canLay0] using lay_strs ws hs
  have h2 := dep_strs ws
  rw [h1, Bool.true_and, decide_eq_true_eq]
  simp only [PyData.depth]
  omega
theorem eqv_nil (ws : List Str) : PyData.eqv (.list (ws.map PyData.str)) (.list []) = decide (ws = []) := by
  cases ws with
  | nil => rfl
  | cons w ws => rfl

theorem zlt (n : Nat) (h : n ≤ 10000000) : n < sizeLine := Nat.lt_of_le_of_lt h (by rw [sizeLine_eq]; decide)
/-- the terms of a dict -/
def un (k : List Key) : List Int := k.map fun x => match x with | .inl i => i | .inr _ => 0
theorem un_ky : ∀ xs : List Int, un (ky xs) = xs
  | [] => rfl
  | x :: xs => by show x :: un (ky xs) = _; rw [un_ky xs]
def tms (kvs : List (List Key × V)) : List (List Int) := kvs.map fun p => un p.1
section
variable {n : Int} {m : Nat} {H : Hp} {kvs : List (List Key × V)} {T : List Int → Int × Int}
theorem PF.tm (h : PF n m H kvs T) {t : List Int} (ht : t ∈ tms kvs) : DrT m t ∧ NOk n (T t) ∧ ∃ v, valV kvs (K6.ky t) = some v ∧ NV n H v (T t) := by
  obtain ⟨p, hp, rfl⟩ := List.mem_map.mp ht
  obtain ⟨t, a, b, c, d⟩ := h.row p hp
  have e : un p.1 = t := by rw [a, un_ky]
  show DrT m (un p.1) ∧ NOk n (T (un p.1)) ∧ ∃ v, valV kvs (K6.ky (un p.1)) = some v ∧ NV n H v (T (un p.1))
  rw [e]
  refine ⟨b, d, p.2, ?_, c⟩
  rw [← a]
  exact val_mem h.nd hp
end
/-- the keys as they are told by list(d) -/
theorem trms {n : Int} {m : Nat} {H : Hp} {kvs : List (List Key × V)} {T : List Int → Int × Int} (h : PF n m H kvs T) : ∀ {l : List (List Key × V)} {as : List Addr}, (∀ p ∈ l, p ∈ kvs) → as.length = l.length → (∀ (i : Nat) k x, l[i]? = some (k, x) → ∃ a, as[i]? = some a ∧ H a = some (.tup (k.map kV))) → Paired (Trm H) (tms l) (as.map V.ref)
  | [], [], _, _, _ => .nil
  | p :: l, a :: as, hm, hl, hi => by
    obtain ⟨t, e, _⟩ := h.row p (hm p (.head _))
    obtain ⟨a', ha, hq⟩ := hi 0 p.1 p.2 rfl
    injection ha with ha
    subst ha
    refine .cons ⟨a, rfl, ?_⟩ (trms h (fun q hq => hm q (.tail _ hq)) (by simpa using hl) fun i k x hk => ?_)
    · have e' : un p.1 = t := by rw [e, un_ky]
      show H a = some (.tup ((un p.1).map V.int))
      rw [hq, e', e, ky_kV]
    · obtain ⟨b, hb, q⟩ := hi (i + 1) k x (by simpa using hk)
      exact ⟨b, by simpa using hb, q⟩
def spShown (CG CF CR CO CD CT CW : Addr) : Sp := fun vs H Q _ => ∃ (r d : Addr) (m : Nat) (n kd : Int) (ws : List Int) (kvs : List (List Key × V)) (T : List Int → Int × Int), vs = [.ref r, .ref d] ∧ RgX CG CF CR CO CD CT CW H r m n kd ws ∧ 0 ≤ kd ∧ kd < 4 ∧ Nn ws ∧ (∀ x ∈ ws, x < 10 ^ 31) ∧ H d = some (.dT kvs) ∧ PF n m H kvs T ∧ kvs.length < 64 ∧
  ∀ H' ts, Same H H' → Srt (rkk kd ws) (tms kvs) ts → Q (.str (fin (txt n T ts))) H'
theorem drt_pws {m : Nat} {t : List Int} (h : DrT m t) (m1 : 1 ≤ m) (m4 : m ≤ 4) : Pws t := by
  have l := h.1
  have s := h.sm
  refine ⟨by omega, fun z => by rw [z] at l; simp at l; omega, fun x hx => (s x hx).1, fun x hx => ?_⟩
  have := (s x hx).2
  exact Int.lt_of_le_of_lt this (by decide)
theorem pz {R : List Int → V → Prop} : ∀ {xs : List (List Int)} {ys : List V}, Paired R xs ys → ∀ p ∈ xs.zip ys, R p.1 p.2
  | _, _, .nil, p, h => by cases h
  | _, _, .cons r t, p, h => by
    rcases List.mem_cons.mp h with rfl | h
    · exact r
    · exact pz t p h
theorem txt_len {n : Int} {T : List Int → Int × Int} : ∀ {ts : List (List Int)}, (∀ t ∈ ts, NOk n (T t) ∧ SmT t ∧ t.length ≤ 4) → ∀ s : Str, (ts.foldl (fun s t => stpT n s t (T t)) s).length ≤ s.length + 20003 * ts.length
  | [], _, s => by simp
  | t :: ts, h, s => by
    obtain ⟨a, b, c⟩ := h t (.head _)
    have h1 := txt_len (n := n) (T := T) (ts := ts) (fun t ht => h t (.tail _ ht)) (stpT n s t (T t))
    have h2 := stpT_len (s := s) a b c
    rw [List.foldl_cons, List.length_cons]
    omega

def spPrime2 : Sp := fun vs H Q _ => ∃ (n : Int), vs = [.int n] ∧ 2 ≤ n ∧ n ≤ 9973 ∧ Q (.bl (isP n)) H

def spLPr : Sp := fun vs H Q _ => ∃ (c : Int), vs = [.int c] ∧ ∀ (n : Int) H', Same H H' → (n = 0 ∨ Pr n) → n ≤ 9973 → Q (.int n) H'
theorem tab4 {r : Int} (h0 : 0 ≤ r) (h1 : r < 4) : ∃ v : Int, 1 ≤ v ∧ v ≤ 9972 ∧ atI [V.int 1, V.int 6, V.int 120, V.int 9972] r = some (.int v) := by
  rcases (by omega : r = 0 ∨ r = 1 ∨ r = 2 ∨ r = 3) with h | h | h | h <;> subst h
  · exact ⟨1, by decide, by decide, rfl⟩
  · exact ⟨6, by decide, by decide, rfl⟩
  · exact ⟨120, by decide, by decide, rfl⟩
  · exact ⟨9972, by decide, by decide, rfl⟩
theorem two_pr : isP 2 = true := isP_t ⟨by decide, fun e h1 h2 => by
  exfalso
  have := Int.mul_le_mul h1 h1 (by decide) (by omega)
  omega⟩
theorem pr_of {n : Int} (h : isP n = true) : Pr n := by
  by_cases q : Pr n
  · exact q
  · rw [isP_f q] at h; cases h
def spLFld (CF CR : Addr) : Sp := fun vs H Q _ => ∃ (n : Int), vs = [.int n] ∧ (n = 0 ∨ Pr n) ∧ n ≤ 9973 ∧ ∀ pf H', Same H H' → AtN CF CR n H' pf → Q (.ref pf) H'
def spWay : Sp := fun vs H Q _ => ∃ (c : Int) (m : Nat), vs = [.int c, .int m] ∧ m ≤ 4 ∧ ∀ r l ws H', Same H H' → H' r = some (.tup [.int (c % 4), .ref l]) → H' l = some (.lst (ws.map V.int)) → ws.length = m → Nn ws → (∀ x ∈ ws, x < 10 ^ 31) → Q (.ref r) H'
theorem tab5 {r : Int} (h0 : 0 ≤ r) (h1 : r < 5) : ∃ v : Int, 0 ≤ v ∧ v < 10 ^ 31 ∧ atI [V.int 0, V.int 1, V.int 2, V.int 7, V.int (10 ^ (Int.toNat 20) + 3)] r = some (.int v) := by
  have e : (10 : Int) ^ (Int.toNat 20) + 3 = 100000000000000000003 := by decide
  rcases (by omega : r = 0 ∨ r = 1 ∨ r = 2 ∨ r = 3 ∨ r = 4) with h | h | h | h | h <;> subst h
  · exact ⟨0, by decide, by decide, rfl⟩
  · exact ⟨1, by decide, by decide, rfl⟩
  · exact ⟨2, by decide, by decide, rfl⟩
  · exact ⟨7, by decide, by decide, rfl⟩
  · exact ⟨10 ^ (Int.toNat 20) + 3, by rw [e]; decide, by rw [e]; decide, rfl⟩

def spLOrd (K : PySem.W.Frag) (CO CD CT CW : Addr) : Sp := fun vs H Q _ => ∃ (r l : Addr) (kd : Int) (ws : List Int), vs = [.ref r] ∧ H r = some (.tup [.int kd, .ref l]) ∧ 0 ≤ kd ∧ kd < 4 ∧ H l = some (.lst (ws.map V.int)) ∧ ws.length ≤ 100 ∧ Nn ws ∧ ∀ p H', Same H H' → AtK CO CD CT CW kd ws H' p → Q (.ref p) H'

def spLRank : Sp := fun vs H Q _ => ∃ (r l t : Addr) (kd : Int) (ws xs : List Int), vs = [.ref r, .ref t] ∧ H r = some (.tup [.int kd, .ref l]) ∧ 0 ≤ kd ∧ kd < 4 ∧ H l = some (.lst (ws.map V.int)) ∧ Nn ws ∧ (∀ x ∈ ws, x < 10 ^ 31) ∧ H t = some (.tup (xs.map V.int)) ∧ Pws xs ∧ ∀ p H', Same H H' → H' p = some (.tup ((rkk kd ws xs).map V.int)) → Q (.ref p) H'

/-- a drawn number -/
def numZ (n t b : Int) : Int × Int := if n = 0 then (t / gI t b, b / gI t b) else (t % n, 0)
def spRed : Sp := fun vs H Q _ => ∃ (t b : Int), vs = [.int t, .int b] ∧ 1 ≤ b ∧ b.natAbs < 2 ^ 400 ∧ t.natAbs < 2 ^ 400 ∧ ∀ r H', Same H H' → H' r = some (.tup [.int (t / gI t b), .int (b / gI t b)]) → Q (.ref r) H'
def spNum : Sp := fun vs H Q _ => ∃ (n t b : Int), vs = [.int n, .int t, .int b] ∧ (n = 0 ∨ Pr n) ∧ 1 ≤ b ∧ b.natAbs < 2 ^ 400 ∧ t.natAbs < 2 ^ 400 ∧ ∀ v H', Same H H' → NV n H' v (numZ n t b) → Q v H'
theorem log_lt {a : Int} (h : a.natAbs < 2 ^ 500) : a.natAbs.log2 < 1920 := by
  by_cases c : a.natAbs = 0
  · rw [c]; decide
  · exact (Nat.log2_lt c).mpr (Nat.lt_of_lt_of_le h (Nat.pow_le_pow_right (by decide) (by decide)))
theorem div_bd {a g : Int} (h : 0 < g) : (a / g).natAbs ≤ a.natAbs := by
  rcases Int.le_total 0 a with q | q
  · have h1 := Int.ediv_nonneg q (Int.le_of_lt h)
    have h2 := Int.ediv_le_self g q
    omega
  · have h1 : a / g ≤ 0 := Int.ediv_nonpos_of_nonpos_of_neg q (by omega)
    have h2 : a ≤ a / g := by
      have := Int.mul_ediv_add_emod a g
      have := Int.emod_nonneg a (Int.ne_of_gt h)
      refine Int.le_ediv_of_mul_le h ?_
      have : a * g ≤ a * 1 := Int.mul_le_mul_of_nonpos_left q (by omega)
      omega
    omega
theorem numZ_ok {n t b : Int} (hn : n = 0 ∨ Pr n) (n1 : n ≤ 9973) (b1 : 1 ≤ b) (hb : b.natAbs < 2 ^ 400) (ht : t.natAbs < 2 ^ 400) (hg : 0 < gI t b) : NOk n (numZ n t b) := by
  have u : ∀ {x : Nat}, x < 2 ^ 400 → x < 2 ^ 500 := fun h => Nat.lt_of_lt_of_le h (Nat.pow_le_pow_right (by decide) (by decide))
  unfold numZ
  by_cases c : n = 0
  · rw [if_pos c]
    exact ⟨log_lt (u (Nat.lt_of_le_of_lt (div_bd hg) ht)), log_lt (u (Nat.lt_of_le_of_lt (div_bd hg) hb)), fun z => absurd c z⟩
  · rw [if_neg c]
    have hp := (hn.resolve_left c).1
    have h1 := Int.emod_nonneg t c
    have h2 := Int.emod_lt_of_pos t (show 0 < n by omega)
    refine ⟨log_lt (Nat.lt_of_le_of_lt (show _ ≤ 9973 by show (t % n).natAbs ≤ 9973; omega) (Nat.lt_of_lt_of_le (show 9973 < 2 ^ 14 by decide) (Nat.pow_le_pow_right (by decide) (by decide)))), by show (0 : Int).natAbs.log2 < 1920; decide, fun _ => h1⟩

def spDrw : Sp := fun vs H Q _ => ∃ (n c mo : Int), vs = [.int n, .int c, .int mo] ∧ mo = 10 ^ (Int.toNat 59) ∧ (n = 0 ∨ Pr n) ∧ n ≤ 9973 ∧ ∀ v z H', Same H H' → NV n H' v z → NOk n z → Q v H'
theorem e59 : (10 : Int) ^ (Int.toNat 59) = 100000000000000000000000000000000000000000000000000000000000 := by decide
theorem e20 : (10 : Int) ^ (Int.toNat 20) = 100000000000000000000 := by decide
theorem bd400 {a : Int} (h : a.natAbs ≤ 200000000000000000000000000000000000000000000000000000000000) : a.natAbs < 2 ^ 400 := Nat.lt_of_le_of_lt h (Nat.lt_of_lt_of_le (show 200000000000000000000000000000000000000000000000000000000000 < 2 ^ 200 by decide) (Nat.pow_le_pow_right (by decide) (by decide)))

def spTrm : Sp := fun vs H Q _ => ∃ (m : Nat) (c : Int), vs = [.int m, .int c, .int 200] ∧ 1 ≤ m ∧ m ≤ 4 ∧ ∀ p t H', H p = none → Same H H' → H' p = some (.tup (t.map V.int)) → DrT m t → Q (.ref p) H'
theorem drt_low {m : Nat} {ps : List Int} (hl : ps.length = m) (h : ∀ x ∈ ps, 0 ≤ x ∧ x ≤ 2) : DrT m ps := by
  have at_ : ∀ j, 0 ≤ ps.getD j 0 ∧ ps.getD j 0 ≤ 2 := fun j => by
    rw [List.getD_eq_getElem?_getD]
    cases q : ps[j]? with
    | none => exact ⟨by decide, by decide⟩
    | some v => exact h v (List.mem_of_getElem? q)
  exact ⟨hl, 0, fun j _ => at_ j, (at_ 0).1, by have := (at_ 0).2; omega⟩
theorem drt_set {m : Nat} {ps : List Int} (hl : ps.length = m) (h : ∀ x ∈ ps, 0 ≤ x ∧ x ≤ 2) {i : Nat} {v : Int} (v0 : 0 ≤ v) (v1 : v ≤ 200) : DrT m (ps.set i v) := by
  have at_ : ∀ j, 0 ≤ ps.getD j 0 ∧ ps.getD j 0 ≤ 2 := fun j => by
    rw [List.getD_eq_getElem?_getD]
    cases q : ps[j]? with
    | none => exact ⟨by decide, by decide⟩
    | some v => exact h v (List.mem_of_getElem? q)
  refine ⟨by rw [List.length_set]; exact hl, i, fun j hj => ?_, ?_⟩
  · rw [List.getD_eq_getElem?_getD, List.getElem?_set_ne (Ne.symm hj), ← List.getD_eq_getElem?_getD]
    exact at_ j
  · rw [List.getD_eq_getElem?_getD]
    by_cases c : i < ps.length
    · rw [List.getElem?_set_self c]; exact ⟨v0, v1⟩
    · rw [List.getElem?_eq_none (by rw [List.length_set]; omega)]; exact ⟨by decide, by decide⟩

def spPts (K : PySem.W.Frag) : Sp := fun vs H Q _ => ∃ (n : Int) (m : Nat) (l : Addr) (cs : List Int) (mo : Int), vs = [.int n, .int m, .ref l, .int mo, .int 200] ∧ (n = 0 ∨ Pr n) ∧ n ≤ 9973 ∧ 1 ≤ m ∧ m ≤ 4 ∧ SqL K H l (cs.map V.int) ∧ cs.length ≤ 63 ∧ mo = 10 ^ (Int.toNat 59) ∧
  ∀ d kvs T H', Same H H' → H' d = some (.dT kvs) → PF n m H' kvs T → kvs.length < 64 → Q (.ref d) H'
theorem mem_putK {kvs : List (List Key × V)} {k : List Key} {v : V} {p : List Key × V} (h : p ∈ putK kvs k v) : (p.1 = k ∧ p.2 = v) ∨ (p ∈ kvs ∧ p.1 ≠ k) := by
  unfold putK at h
  split at h
  · obtain ⟨q, hq, rfl⟩ := List.mem_map.mp h
    by_cases c : q.1 = k
    · rw [if_pos c]; exact .inl ⟨c, rfl⟩
    · rw [if_neg c]; exact .inr ⟨hq, c⟩
  · rename_i nn
    rcases List.mem_append.mp h with h | h
    · refine .inr ⟨h, fun z => nn ?_⟩
      exact List.any_eq_true.mpr ⟨p, h, decide_eq_true z⟩
    · rw [List.mem_singleton.mp h]; exact .inl ⟨rfl, rfl⟩
theorem nd_putK {kvs : List (List Key × V)} {k : List Key} {v : V} (h : (kvs.map (·.1)).Nodup) : ((putK kvs k v).map (·.1)).Nodup := by
  unfold putK
  split
  · have e : (kvs.map fun kv => if kv.1 = k then (kv.1, v) else kv).map (·.1) = kvs.map (·.1) := by
      rw [List.map_map]
      refine List.map_congr_left fun q _ => ?_
      show (if q.1 = k then (q.1, v) else q).1 = q.1
      split <;> rfl
    rw [e]; exact h
  · rename_i nn
    rw [List.map_append, List.nodup_append]
    refine ⟨h, by simp, fun a ha b hb e => ?_⟩
    obtain ⟨q, hq, rfl⟩ := List.mem_map.mp ha
    have hb' : b = k := by simpa using hb
    exact nn (List.any_eq_true.mpr ⟨q, hq, decide_eq_true (e.trans hb')⟩)
theorem PF.put {n : Int} {m : Nat} {H : Hp} {kvs : List (List Key × V)} {T : List Int → Int × Int} (h : PF n m H kvs T) {t : List Int} {v : V} {z : Int × Int} (dt : DrT m t) (nv : NV n H v z) (ok : NOk n z) : PF n m H (putK kvs (ky t) v) (fun u => if u = t then z else T u) := by
  refine ⟨fun p hp => ?_, nd_putK h.nd⟩
  rcases mem_putK hp with ⟨e1, e2⟩ | ⟨hm, ne⟩
  · refine ⟨t, e1, dt, ?_, ?_⟩
    · rw [if_pos rfl, e2]; exact nv
    · rw [if_pos rfl]; exact ok
  · obtain ⟨u, a, b, c, d⟩ := h.row p hm
    have ut : u ≠ t := fun q => ne (by rw [a, q])
    refine ⟨u, a, b, ?_, ?_⟩
    · rw [if_neg ut]; exact c
    · rw [if_neg ut]; exact d
theorem NV.rds {n : Int} {K : PySem.W.Frag} {H : Hp} {v : V} {z : Int × Int} (h : NV n H v z) : ∃ d, Rds K H v d ∧ NmD d ∧ d = (if n = 0 then PyData.tuple [.int z.1, .int z.2] else .int z.1) := by
  by_cases c : n = 0
  · subst c
    obtain ⟨r, rfl, hr⟩ := nv_0.mp h
    exact ⟨_, rds_pair hr, nmd_pair _ _, by rw [if_pos rfl]⟩
  · have := (nv_n c).mp h
    subst this
    exact ⟨_, .int _, nmd_int _, by rw [if_neg c]⟩
theorem NV.updD {n : Int} {H : Hp} {v : V} {z : Int × Int} {d : Addr} {kvs : List (List Key × V)} {o : HO} (e : H d = some (.dT kvs)) (h : NV n H v z) : NV n (upd H d o) v z := by
  by_cases c : n = 0
  · subst c
    obtain ⟨r, rfl, hr⟩ := nv_0.mp h
    exact nv_0.mpr ⟨r, rfl, by rw [upd_ne (ne_of hr e (by intro z; cases z))]; exact hr⟩
  · exact (nv_n c).mpr ((nv_n c).mp h)
theorem PF.updD {n : Int} {m : Nat} {H : Hp} {kvs k2 : List (List Key × V)} {T : List Int → Int × Int} {d : Addr} {o : HO} (e : H d = some (.dT k2)) (h : PF n m H kvs T) : PF n m (upd H d o) kvs T := ⟨fun p hp => let ⟨t, a, b, c, f⟩ := h.row p hp; ⟨t, a, b, c.updD e, f⟩, h.nd⟩

def ngz (n : Int) (z : Int × Int) : Int × Int := if n = 0 then (abz z.1, z.2) else z
def spLPt : Sp := fun vs H Q _ => ∃ (n : Int) (b : Addr) (v : V) (m : Nat) (t : List Int) (z : Int × Int), vs = [.int n, .ref b, v] ∧ (n = 0 ∨ Pr n) ∧ H b = some (.tup (t.map V.int)) ∧ DrT m t ∧ 1 ≤ m ∧ m ≤ 4 ∧ NV n H v (ngz n z) ∧ NOk n z ∧ ∀ H', Same H H' → Q (.str (prt n t z)) H'
theorem map_snoc (l : List Str) (x : Str) : (l ++ [x]).map V.str = l.map V.str ++ [V.str x] := by simp
theorem if_mid2 {c : TT} {t u : TS} {D : Ends} {σ : St} {H : Hp} (R : Bool → Hp → Prop) (ht : ∀ H', R true H' → t D σ H') (hu : ∀ H', R false H' → u D σ H') (hc : ∀ N : Bool → Hp → Prop, (∀ b H', R b H' → N b H') → c σ H N) : tIfS c t u D σ H := by
  unfold tIfS
  refine hc _ fun b H' r => ?_
  cases b with
  | true => rw [if_pos rfl]; exact ht H' r
  | false => rw [if_neg (by decide)]; exact hu H' r
def preW (n : Int) (t : List Int) (z : Int × Int) : List Str := if numT n z ≠ "1" ∨ facs t = [] then [numT n z] else []
def facT (t : List Int) (i : Nat) : List Str := ((List.range i).filter fun i => decide (0 < t.getD i 0)).map fun i => pwT (ltr i) (t.getD i 0)
theorem wrds_pre (n : Int) (t : List Int) (z : Int × Int) : preW n t z ++ facT t t.length = wrds n t z := by
  unfold preW wrds
  split <;> rfl
theorem facT_len (t : List Int) (i : Nat) : (facT t i).length ≤ i := by
  unfold facT; rw [List.length_map]; exact Nat.le_trans (List.length_filter_le _ _) (by simp)
theorem preW_len (n : Int) (t : List Int) (z : Int × Int) : (preW n t z).length ≤ 1 := by unfold preW; split <;> simp
theorem facT_succ (t : List Int) (i : Nat) : facT t (i + 1) = facT t i ++ (if 0 < t.getD i 0 then [pwT (ltr i) (t.getD i 0)] else []) := by
  unfold facT
  rw [List.range_succ, List.filter_append, List.map_append]
  by_cases c : 0 < t.getD i 0
  · have e : ([i] : List Nat).filter (fun i => decide (0 < t.getD i 0)) = [i] := by
      rw [List.filter_eq_self]
      intro x hx
      rw [List.mem_singleton.mp hx]; exact decide_eq_true c
    rw [if_pos c, e]; rfl
  · have e : ([i] : List Nat).filter (fun i => decide (0 < t.getD i 0)) = [] := by
      rw [List.filter_eq_nil_iff]
      intro x hx
      rw [List.mem_singleton.mp hx, decide_eq_false c]; decide
    rw [if_neg c, e]; rfl
theorem one_num {n : Int} (hn : n = 0 ∨ Pr n) {z : Int × Int} (ok : NOk n z) : PyData.eqv (if n = 0 then PyData.tuple [.int (ngz n z).1, .int (ngz n z).2] else .int (ngz n z).1) (if n = 0 then PyData.tuple [.int (numZ n 1 1).1, .int (numZ n 1 1).2] else .int (numZ n 1 1).1) = decide (numT n z = "1") := by
  have key := numT_one ok
  by_cases c : n = 0
  · subst c
    rw [if_pos rfl] at key ⊢
    have e1 : ngz 0 z = (abz z.1, z.2) := if_pos rfl
    have e2 : numZ 0 1 1 = (1, 1) := by unfold numZ; rw [if_pos rfl, gI_one]; rfl
    rw [e1, e2, if_pos rfl]
    have q := eqv_ints [abz z.1, z.2] [1, 1]
    rw [PyData.eqv]
    refine q.trans (decide_eq_decide.mpr ?_)
    rw [key]
    simp
  · have n2 := (hn.resolve_left c).1
    rw [if_neg c] at key ⊢
    have e1 : ngz n z = z := if_neg c
    have e2 : numZ n 1 1 = (1, 0) := by unfold numZ; rw [if_neg c, Int.emod_eq_of_lt (by decide) (by omega)]
    rw [e1, e2, if_neg c]
    have q : PyData.eqv (.int z.1) (.int 1) = decide (z.1 = 1) := by simp [PyData.eqv, Bool.beq_eq_decide_eq]
    rw [q]
    exact decide_eq_decide.mpr key.symm
theorem max_nil {t : List Int} {M : Int} (sm : SmT t) (hM : M ∈ t) (hmx : ∀ a ∈ t, a ≤ M) : M = 0 ↔ facs t = [] := by
  rw [facs_nil]
  constructor
  · intro h x hx; have := hmx x hx; omega
  · intro h; have := h M hM; have := (sm M hM).1; omega
theorem xyzt_at {i : Nat} (h : i < 4) : atI ("xyzt" : Str).cps.toList (0 + (i : Int)) = some (("xyzt" : Str).cps.getD i 0) := by
  have key : ∀ i < 4, atI ("xyzt" : Str).cps.toList (0 + ((i : Nat) : Int)) = some (("xyzt" : Str).cps.getD i 0) := by decide +kernel
  exact key i h

theorem sk_walkL {K : PySem.W.Frag} {f : V → Hp → VK → Prop} {rk : List Int → List Int} {OK : Hp → Prop} (hf : ∀ (x : V) (H1 : Hp) (xs : List Int) (Q : VK), OK H1 → Trm H1 xs x → Pws xs → (∀ p H', Same H1 H' → H' p = some (.tup ((rk xs).map V.int)) → Q (.ref p) H') → f x H1 Q) (okS : ∀ H1 H2, Same H1 H2 → OK H1 → OK H2) (ne : ∀ xs, Pws xs → rk xs ≠ []) {F : List V → Hp → Prop} :
    ∀ (xss : List (List Int)) (ys ks : List V) (kis : List (List Int)) (H H1 : Hp), Same H H1 → OK H1 → Paired (Trm H1) xss ys → (∀ xs ∈ xss, Pws xs) →
    Paired (fun ns k => ∃ t, k = V.ref t ∧ SqT K H1 t (ns.map V.int) ∧ ns ≠ []) kis ks →
    (∀ ks' H', Same H H' → Paired (fun ns k => ∃ t, k = V.ref t ∧ SqT K H' t (ns.map V.int) ∧ ns ≠ []) (kis ++ xss.map rk) ks' → F ks' H') →
    skGo f ys ks H1 F
  | [], _, ks, kis, H, H1, e, _, .nil, _, hk, hF => by
    have := hF ks H1 e (by simpa using hk)
    exact this
  | xs :: xss, _, ks, kis, H, H1, e, hp, .cons hr t, hw, hk, hF => by
    refine hf _ H1 xs _ hp hr (hw xs (.head _)) fun k H2 e2 hk2 => ?_
    refine sk_walkL hf okS ne xss _ _ (kis ++ [rk xs]) H H2 (e.trans e2) (okS _ _ e2 hp) (pimp (fun _ _ h => h.same e2) t) (fun x hx => hw x (.tail _ hx)) (psnoc ⟨k, rfl, SqT.of hk2, ne xs (hw xs (.head _))⟩ (pimp (fun _ _ ⟨t, q1, q2, q3⟩ => ⟨t, q1, e2.seqT q2, q3⟩) hk)) fun ks' H' e' hk' => hF ks' H' e' ?_
    simpa using hk'
/-- all but the table at Pt is as it was -/
def ButT (Pt : Addr) (H H' : Hp) : Prop := ∀ b o, H b = some o → b ≠ Pt → H' b = some o
def spLTx (Pt : Addr) : Sp := fun vs H Q _ => ∃ (n : Int) (r d l : Addr) (m : Nat) (kd : Int) (ws : List Int) (kvs : List (List Key × V)) (T : List Int → Int × Int), vs = [.int n, .ref r, .ref d] ∧ H r = some (.tup [.int kd, .ref l]) ∧ H l = some (.lst (ws.map V.int)) ∧ (n = 0 ∨ Pr n) ∧ 1 ≤ m ∧ m ≤ 4 ∧ 0 ≤ kd ∧ kd < 4 ∧ Nn ws ∧ (∀ x ∈ ws, x < 10 ^ 31) ∧ H d = some (.dT kvs) ∧ PF n m H kvs T ∧ kvs.length < 64 ∧ H Pt = some (.tbl #[]) ∧
  ∀ H' ts, ButT Pt H H' → Srt (rkk kd ws) (tms kvs) ts → Q (.str (fin (txt n T ts))) H'
theorem rkk_ne {kd : Int} {ws xs : List Int} (h : Pws xs) : rkk kd ws xs ≠ [] := by
  unfold rkk
  split
  · exact h.ne
  · split
    · exact List.cons_ne_nil _ _
    · split <;> exact List.cons_ne_nil _ _

def spLaw (K : PySem.W.Frag) (Pt : Addr) : Sp := fun vs H Q _ => ∃ (a : Addr) (ns : List Int), vs = [.ref a] ∧ SqL K H a (ns.map V.int) ∧ ns.length ≤ 63 ∧ H Pt = some (.tbl #[]) ∧ ∀ H', Q (.bl true) H'
def dtZ (n : Int) (z : Int × Int) : PyData := if n = 0 then PyData.tuple [.int z.1, .int z.2] else .int z.1
theorem dtZ_nm (n : Int) (z : Int × Int) : NmD (dtZ n z) := by unfold dtZ; split; exact nmd_pair _ _; exact nmd_int _
theorem NV.dt {n : Int} {K : PySem.W.Frag} {H : Hp} {v : V} {z : Int × Int} (h : NV n H v z) : Rds K H v (dtZ n z) := by
  obtain ⟨d, r, _, e⟩ := h.rds (K := K)
  unfold dtZ
  rw [← e]; exact r
theorem kds_pf {n : Int} {m : Nat} {K : PySem.W.Frag} {H : Hp} {T : List Int → Int × Int} : ∀ {kvs : List (List Key × V)}, (∀ p ∈ kvs, ∃ t, p.1 = ky t ∧ DrT m t ∧ NV n H p.2 (T t) ∧ NOk n (T t)) → KDs K H kvs (kvs.map fun p => (p.1, dtZ n (T (un p.1))))
  | [], _ => .nil
  | p :: l, h => by
    obtain ⟨t, a, _, c, _⟩ := h p (.head _)
    refine .cons ⟨rfl, ?_⟩ (kds_pf fun q hq => h q (.tail _ hq))
    have e : un p.1 = t := by rw [a, un_ky]
    show Rds K H p.2 (dtZ n (T (un p.1)))
    rw [e]; exact c.dt
theorem find_self : ∀ {da : List (List Key × PyData)} {p : List Key × PyData}, (da.map (·.1)).Nodup → p ∈ da → findKD da p.1 = some p.2
  | [], p, _, hp => by cases hp
  | q :: l, p, nd, hp => by
    rw [List.map_cons, List.nodup_cons] at nd
    rcases List.mem_cons.mp hp with rfl | hp
    · simp [findKD]
    · have ne : ¬ q.1 = p.1 := fun e => nd.1 (by rw [e]; exact List.mem_map.mpr ⟨p, hp, rfl⟩)
      have := find_self nd.2 hp
      unfold findKD at this ⊢
      rw [List.find?_cons_of_neg (by rw [decide_eq_false ne]; decide)]
      exact this
theorem eqKD_self {da : List (List Key × PyData)} (nd : (da.map (·.1)).Nodup) (h : ∀ p ∈ da, NmD p.2) : eqKD da da = true := by
  unfold eqKD
  rw [beq_self_eq_true, Bool.true_and, List.all_eq_true]
  intro p hp
  rw [find_self nd hp]
  exact (h p hp).refl
theorem PF.hds {n : Int} {m : Nat} {H : Hp} {kvs : List (List Key × V)} {T : List Int → Int × Int} (m1 : 1 ≤ m) (m4 : m ≤ 4) (h : PF n m H kvs T) : HDs kvs := by
  have e : kvs.map (·.1) = (tms kvs).map ky := by
    unfold tms
    rw [List.map_map]
    refine List.map_congr_left fun p hp => ?_
    obtain ⟨t, a, _⟩ := h.row p hp
    show p.1 = ky (un p.1)
    rw [a, un_ky]
  refine ⟨tms kvs, e, DrT.nodup m1 m4 (fun t ht => (h.tm ht).1) ?_⟩
  have nd := h.nd
  rw [e] at nd
  exact List.Pairwise.of_map ky (fun a b hab z => hab (by rw [z])) nd
theorem rkk_inj {kd : Int} (k0 : 0 ≤ kd) (k4 : kd < 4) {ws : List Int} {n : Nat} (wn : Nn ws) {a b : List Int} (la : a.length = n) (lb : b.length = n) (h1 : HT.lexLt (rkk kd ws a) (rkk kd ws b) = false) (h2 : HT.lexLt (rkk kd ws b) (rkk kd ws a) = false) : a = b := by
  have e : rkk kd ws a = rkk kd ws b := Classical.byContradiction fun ne => by
    have := lt_tri ne
    rw [h1, h2] at this; cases this
  rcases (by omega : kd = 0 ∨ kd = 1 ∨ kd = 2 ∨ kd = 3) with rfl | rfl | rfl | rfl
  · exact (ordL n).inj a b la lb (by simpa [rkk] using e)
  · exact (ordD n).inj a b la lb (by simpa [rkk] using e)
  · exact (ordT n).inj a b la lb (by simpa [rkk] using e)
  · exact (ordW wn n).inj a b la lb (by simpa [rkk] using e)
theorem atn_same {CF CR : Addr} {n : Int} {H H' : Hp} {p : Addr} (e : Same H H') (h : AtN CF CR n H p) : AtN CF CR n H' p := by
  unfold AtN at h ⊢
  by_cases c : n = 0
  · rw [if_pos c] at h ⊢
    obtain ⟨d, q⟩ := h; exact ⟨d, e _ _ q⟩
  · rw [if_neg c] at h ⊢
    obtain ⟨d, q⟩ := h; exact ⟨d, e _ _ q.1, q.2⟩

end K6
namespace K6
open PySem L2
open K1 K2 K3 K12
section
variable {P : Program} {w : World} {K : PySem.W.Frag} {mg : Str → Option Value} {base : Heap} {f : Addr} {fd : FuncData} {C_Ring C_Fractions C_Rests C_Order C_Degrees C_Tails C_Weights : Addr} {E_NoOrder E_NoPrime E_NoRing : Addr}
local macro_rules | `(tactic| walk_at "sd") => `(tactic| first
  | assumption | (dsimp only; omega) | (dsimp only; decide) | exact ⟨by decide, by decide⟩ | exact ⟨by decide, by decide, by decide⟩ | exact Or.inl ⟨by decide, by decide⟩ | exact ⟨by omega, by omega⟩ | exact Or.inl ⟨by omega, by omega⟩ | exact Or.inr ⟨by decide, by decide⟩ | exact Or.inr ⟨by omega, by omega⟩)
local macro_rules | `(tactic| walk_at "rd") => `(tactic| repeat first
  | refine ⟨_, rfl, ?_⟩ | refine ⟨_, _, rfl, rfl, ?_⟩ | refine And.intro rfl ?_ | refine And.intro (by walk_at "sd") ?_ | with_reducible refine iteT ?_ | with_reducible refine iteF ?_ | (apply ixT_of; assumption; rfl))
local macro_rules | `(tactic| walk_at "clo") => `(tactic| exact h)

theorem scDeg : FnScope ["term"] ["term"] (defScope s_degree) := ⟨rfl, rfl, rfl, by decide +kernel, rfl, by decide +kernel, by decide +kernel⟩
set_option maxHeartbeats 4000000 in
theorem ok_Deg  (F : FunD K "degree" "degree" s_degree .none f fd) (T : Txt K mg C_Ring C_Fractions C_Rests C_Order C_Degrees C_Tails C_Weights)   : FnOk P w K mg base CX0 1 f fd ["term"] (spDeg K) := by
  refine F.okN (k := 0) scDeg (fun vs H Q E h => ?_) (fun cdv A outer s H vs Q E hr h => ?_)
  · obtain ⟨a, xs, rfl, _⟩ := h
    rfl
  obtain ⟨a, xs, rfl, h⟩ := h
  refine ⟨_, (pss_one (ps_ret (pe_callB (call_sumK (K := K) rfl true rfl) rfl T.b_sum (by kernel_rfl) ((pa_cons (pv 0) pa_nil))))), ?_⟩
  obtain ⟨h1, k⟩ := h
  exact ⟨_, rfl, a, xs, rfl, h1, k⟩
end
end K6
namespace K6
open PySem L2
open K1 K2 K3 K12
section
variable {P : Program} {w : World} {K : PySem.W.Frag} {mg : Str → Option Value} {base : Heap} {f : Addr} {fd : FuncData} {C_Ring C_Fractions C_Rests C_Order C_Degrees C_Tails C_Weights : Addr} {E_NoOrder E_NoPrime E_NoRing : Addr}
local macro_rules | `(tactic| walk_at "sd") => `(tactic| first
  | assumption | (dsimp only; omega) | (dsimp only; decide) | exact ⟨by decide, by decide⟩ | exact ⟨by decide, by decide, by decide⟩ | exact Or.inl ⟨by decide, by decide⟩ | exact ⟨by omega, by omega⟩ | exact Or.inl ⟨by omega, by omega⟩ | exact Or.inr ⟨by decide, by decide⟩ | exact Or.inr ⟨by omega, by omega⟩)
local macro_rules | `(tactic| walk_at "rd") => `(tactic| repeat first
  | refine ⟨_, rfl, ?_⟩ | refine ⟨_, _, rfl, rfl, ?_⟩ | refine And.intro rfl ?_ | refine And.intro (by walk_at "sd") ?_ | with_reducible refine iteT ?_ | with_reducible refine iteF ?_ | (apply ixT_of; assumption; rfl))
local macro_rules | `(tactic| walk_at "clo") => `(tactic| exact h)

theorem scBel : FnScope ["field", "number"] ["field", "number"] (defScope s_is_below_nought) := ⟨rfl, rfl, rfl, by decide +kernel, rfl, by decide +kernel, by decide +kernel⟩
set_option maxHeartbeats 4000000 in
theorem ok_Bel  (F : FunD K "is_below_nought" "is_below_nought" s_is_below_nought .none f fd) (T : Txt K mg C_Ring C_Fractions C_Rests C_Order C_Degrees C_Tails C_Weights)   : FnOk P w K mg base CX0 1 f fd ["field", "number"] (spBel C_Fractions C_Rests) := by
  refine F.okN (k := 0) scBel (fun vs H Q E h => ?_) (fun cdv A outer s H vs Q E hr h => ?_)
  · obtain ⟨pf, v, n, z, rfl, _⟩ := h
    rfl
  obtain ⟨pf, v, n, z, rfl, h⟩ := h
  refine ⟨_, (pss_one (ps_ret (pe_and (pe_cmpR op_eq (pe_fldK (K := K) rfl (pv 0) rfl) (pe_int) (nomark _)) (pe_one (pe_cmpR op_lt (pe_ix (r := rIxT K) ix_tup (pv 1) (pe_int) (fun _ _ => rfl)) (pe_int) (nomark _)))))), ?_⟩
  obtain ⟨hf, hv, k⟩ := h
  obtain ⟨CF', dF, hCF, hF⟩ := atN_pr hf
  have clF : Cls K CF' := by rcases hCF with rfl | rfl; exact T.cl_Fractions; exact T.cl_Rests
  have naF : NoAttr K CF' "prime" := by rcases hCF with rfl | rfl; exact T.na_Fractions_prime; exact T.na_Rests_prime
  refine ⟨_, rfl, pf, CF', dF, _, _, rfl, hF, clF, naF, rfl, ?_⟩
  walk_at "rd"
  refine cEq (fun c => ?_) (fun c => ?_)
  · subst c
    obtain ⟨r, rfl, hr0⟩ := nv_0.mp hv
    have e : blw 0 z = decide (z.1 < 0) := by unfold blw; rw [decide_eq_true rfl, Bool.true_and]
    rw [e] at k
    exact ⟨_, rfl, r, _, _, _, rfl, rfl, SqT.of hr0, atI0, _, _, rfl, rfl, k⟩
  · have e : blw n z = false := by unfold blw; rw [decide_eq_false c, Bool.false_and]
    rw [e] at k
    exact k
end
end K6
namespace K6
open PySem L2
open K1 K2 K3 K12
section
variable {P : Program} {w : World} {K : PySem.W.Frag} {mg : Str → Option Value} {base : Heap} {f : Addr} {fd : FuncData} {C_Ring C_Fractions C_Rests C_Order C_Degrees C_Tails C_Weights : Addr} {E_NoOrder E_NoPrime E_NoRing : Addr}
local macro_rules | `(tactic| walk_at "sd") => `(tactic| first
  | assumption | (dsimp only; omega) | (dsimp only; decide) | exact ⟨by decide, by decide⟩ | exact ⟨by decide, by decide, by decide⟩ | exact Or.inl ⟨by decide, by decide⟩ | exact ⟨by omega, by omega⟩ | exact Or.inl ⟨by omega, by omega⟩ | exact Or.inr ⟨by decide, by decide⟩ | exact Or.inr ⟨by omega, by omega⟩)
local macro_rules | `(tactic| walk_at "rd") => `(tactic| repeat first
  | refine ⟨_, rfl, ?_⟩ | refine ⟨_, _, rfl, rfl, ?_⟩ | refine And.intro rfl ?_ | refine And.intro (by walk_at "sd") ?_ | with_reducible refine iteT ?_ | with_reducible refine iteF ?_ | (apply ixT_of; assumption; rfl))
local macro_rules | `(tactic| walk_at "clo") => `(tactic| exact h)

theorem scNumT : FnScope ["field", "number"] ["field", "number"] (defScope s_number_shown) := ⟨rfl, rfl, rfl, by decide +kernel, rfl, by decide +kernel, by decide +kernel⟩
set_option maxHeartbeats 4000000 in
theorem ok_NumT  (F : FunD K "number_shown" "number_shown" s_number_shown .none f fd) (T : Txt K mg C_Ring C_Fractions C_Rests C_Order C_Degrees C_Tails C_Weights)   : FnOk P w K mg base CX0 1 f fd ["field", "number"] (spNumT C_Fractions C_Rests) := by
  refine F.okN (k := 0) scNumT (fun vs H Q E h => ?_) (fun cdv A outer s H vs Q E hr h => ?_)
  · obtain ⟨pf, v, n, z, rfl, _⟩ := h
    rfl
  obtain ⟨pf, v, n, z, rfl, h⟩ := h
  refine ⟨_, (pss_cons (ps_if (pt_cmpR op_ne (pe_fldK (K := K) rfl (pv 0) rfl) (pe_int) (nomark _)) (pss_one (ps_ret (pe_callTy call_str_int rfl T.b_str (by kernel_rfl) ((pa_cons (pv 1) pa_nil))))) pss_nil)
    (pss_cons (ps_if (pt_cmpR op_eq (pe_ix (r := rIxT K) ix_tup (pv 1) (pe_int) (fun _ _ => rfl)) (pe_int) (nomark _)) (pss_one (ps_ret (pe_callTy call_str_int rfl T.b_str (by kernel_rfl) ((pa_cons (pe_callB call_abs rfl T.b_abs (by kernel_rfl) ((pa_cons (pe_ix (r := rIxT K) ix_tup (pv 1) (pe_int) (fun _ _ => rfl)) pa_nil))) pa_nil))))) pss_nil)
    (pss_one (ps_ret (pe_op op_add_str (pe_op op_add_str (pe_callTy call_str_int rfl T.b_str (by kernel_rfl) ((pa_cons (pe_callB call_abs rfl T.b_abs (by kernel_rfl) ((pa_cons (pe_ix (r := rIxT K) ix_tup (pv 1) (pe_int) (fun _ _ => rfl)) pa_nil))) pa_nil))) (pe_str)) (pe_callTy call_str_int rfl T.b_str (by kernel_rfl) ((pa_cons (pe_ix (r := rIxT K) ix_tup (pv 1) (pe_int) (fun _ _ => rfl)) pa_nil)))))))), ?_⟩
  obtain ⟨hf, hv, ok, k⟩ := h
  obtain ⟨CF', dF, hCF, hF⟩ := atN_pr hf
  have clF : Cls K CF' := by rcases hCF with rfl | rfl; exact T.cl_Fractions; exact T.cl_Rests
  have naF : NoAttr K CF' "prime" := by rcases hCF with rfl | rfl; exact T.na_Fractions_prime; exact T.na_Rests_prime
  refine ⟨_, rfl, pf, CF', dF, _, _, rfl, hF, clF, naF, rfl, ?_⟩
  walk_at "rd"
  unfold numT at k
  refine cNe (fun c => ?_) (fun c => ?_)
  · rw [if_neg c] at k
    have := (nv_n c).mp hv
    subst this
    exact ⟨_, rfl, z.1, rfl, ok.b1, k⟩
  · subst c
    rw [if_pos rfl] at k
    obtain ⟨r, rfl, hr0⟩ := nv_0.mp hv
    have ba : (abz z.1).natAbs.log2 < 1920 := by rw [abz_nat]; exact ok.b1
    refine ⟨_, rfl, r, _, _, _, rfl, rfl, SqT.of hr0, atI1, ?_⟩
    walk_at "rd"
    refine cEq (fun c1 => ?_) (fun c1 => ?_)
    · rw [if_pos c1] at k
      exact ⟨_, rfl, r, _, _, _, rfl, rfl, SqT.of hr0, atI0, _, rfl, _, rfl, ba, k⟩
    · rw [if_neg c1] at k
      have l1 := sI_len ba
      have l2 := sI_len ok.b2
      have l3 : ("/" : Str).length = 1 := by decide +kernel
      refine ⟨_, rfl, r, _, _, _, rfl, rfl, SqT.of hr0, atI0, _, rfl, _, rfl, ba, _, _, rfl, rfl, ?_, ?_⟩
      · refine zl _ ?_
        show (sI (abz z.1)).length + ("/" : Str).length ≤ _
        omega
      refine ⟨_, rfl, r, _, _, _, rfl, rfl, SqT.of hr0, atI1, z.2, rfl, ok.b2, _, _, rfl, rfl, ?_, k⟩
      refine zl _ ?_
      show (sI (abz z.1) ++ "/").length + (sI z.2).length ≤ _
      rw [Str.length_append]
      omega
end
end K6
namespace K6
open PySem L2
open K1 K2 K3 K12
section
variable {P : Program} {w : World} {K : PySem.W.Frag} {mg : Str → Option Value} {base : Heap} {f : Addr} {fd : FuncData} {C_Ring C_Fractions C_Rests C_Order C_Degrees C_Tails C_Weights : Addr} {E_NoOrder E_NoPrime E_NoRing : Addr}
local macro_rules | `(tactic| walk_at "sd") => `(tactic| first
  | assumption | (dsimp only; omega) | (dsimp only; decide) | exact ⟨by decide, by decide⟩ | exact ⟨by decide, by decide, by decide⟩ | exact Or.inl ⟨by decide, by decide⟩ | exact ⟨by omega, by omega⟩ | exact Or.inl ⟨by omega, by omega⟩ | exact Or.inr ⟨by decide, by decide⟩ | exact Or.inr ⟨by omega, by omega⟩)
local macro_rules | `(tactic| walk_at "rd") => `(tactic| repeat first
  | refine ⟨_, rfl, ?_⟩ | refine ⟨_, _, rfl, rfl, ?_⟩ | refine And.intro rfl ?_ | refine And.intro (by walk_at "sd") ?_ | with_reducible refine iteT ?_ | with_reducible refine iteF ?_ | (apply ixT_of; assumption; rfl))
local macro_rules | `(tactic| walk_at "clo") => `(tactic| exact h)

theorem scPwT : FnScope ["letter", "power"] ["letter", "power"] (defScope s_power_shown) := ⟨rfl, rfl, rfl, by decide +kernel, rfl, by decide +kernel, by decide +kernel⟩
set_option maxHeartbeats 4000000 in
theorem ok_PwT  (F : FunD K "power_shown" "power_shown" s_power_shown .none f fd) (T : Txt K mg C_Ring C_Fractions C_Rests C_Order C_Degrees C_Tails C_Weights)   : FnOk P w K mg base CX0 1 f fd ["letter", "power"] spPwT := by
  refine F.okN (k := 0) scPwT (fun vs H Q E h => ?_) (fun cdv A outer s H vs Q E hr h => ?_)
  · obtain ⟨l, a, rfl, _⟩ := h
    rfl
  obtain ⟨l, a, rfl, h⟩ := h
  refine ⟨_, (pss_cons (ps_if (pt_cmpR op_eq (pv 1) (pe_int) (nomark _)) (pss_one (ps_ret (pv 0))) pss_nil)
    (pss_one (ps_ret (pe_op op_add_str (pe_op op_add_str (pv 0) (pe_str)) (pe_callTy call_str_int rfl T.b_str (by kernel_rfl) ((pa_cons (pv 1) pa_nil))))))), ?_⟩
  obtain ⟨hl, a0, a1, k⟩ := h
  unfold pwT at k
  walk_at "rd"
  refine cEq (fun c => ?_) (fun c => ?_)
  · rw [if_pos c] at k
    exact ⟨_, rfl, k⟩
  · rw [if_neg c] at k
    have sl := small_log a0 a1
    have l2 := sI_len sl
    have l3 : ("^" : Str).length = 1 := by decide +kernel
    refine ⟨_, rfl, _, _, rfl, rfl, zl _ (by omega), ?_⟩
    refine ⟨_, rfl, a, rfl, sl, _, _, rfl, rfl, ?_, k⟩
    refine zl _ ?_
    show (l ++ "^").length + (sI a).length ≤ _
    rw [Str.length_append]
    omega
end
end K6
namespace K6
open PySem L2
open K1 K2 K3 K12
section
variable {P : Program} {w : World} {K : PySem.W.Frag} {mg : Str → Option Value} {base : Heap} {f : Addr} {fd : FuncData} {C_Ring C_Fractions C_Rests C_Order C_Degrees C_Tails C_Weights : Addr} {E_NoOrder E_NoPrime E_NoRing : Addr}
local macro_rules | `(tactic| walk_at "sd") => `(tactic| first
  | assumption | (dsimp only; omega) | (dsimp only; decide) | exact ⟨by decide, by decide⟩ | exact ⟨by decide, by decide, by decide⟩ | exact Or.inl ⟨by decide, by decide⟩ | exact ⟨by omega, by omega⟩ | exact Or.inl ⟨by omega, by omega⟩ | exact Or.inr ⟨by decide, by decide⟩ | exact Or.inr ⟨by omega, by omega⟩)
local macro_rules | `(tactic| walk_at "rd") => `(tactic| repeat first
  | refine ⟨_, rfl, ?_⟩ | refine ⟨_, _, rfl, rfl, ?_⟩ | refine And.intro rfl ?_ | refine And.intro (by walk_at "sd") ?_ | with_reducible refine iteT ?_ | with_reducible refine iteF ?_ | (apply ixT_of; assumption; rfl))
local macro_rules | `(tactic| walk_at "clo") => `(tactic| exact h)

theorem scLetters : FnScope ["self"] ["self"] (defScope s_Ring_letters) := ⟨rfl, rfl, rfl, by decide +kernel, rfl, by decide +kernel, by decide +kernel⟩
set_option maxHeartbeats 4000000 in
theorem ok_Letters  (F : FunD K "letters" "Ring.letters" s_Ring_letters .none f fd) (T : Txt K mg C_Ring C_Fractions C_Rests C_Order C_Degrees C_Tails C_Weights)   : FnOk P w K mg base CX0 1 f fd ["self"] (spLetters C_Ring) := by
  refine F.okN (k := 0) scLetters (fun vs H Q E h => ?_) (fun cdv A outer s H vs Q E hr h => ?_)
  · obtain ⟨r, m, pf, po, rfl, _⟩ := h
    rfl
  obtain ⟨r, m, pf, po, rfl, h⟩ := h
  refine ⟨_, (pss_one (ps_ret (pe_slice sl_str (pe_globS T.g_LETTERS rfl) po_none (po_some (pe_fldK (K := K) rfl (pv 0) rfl))))), ?_⟩
  obtain ⟨⟨dx, hr0⟩, m1, m2, k⟩ := h
  walk_at "rd"
  exact ⟨r, C_Ring, dx, _, _, rfl, hr0, T.cl_Ring, T.na_Ring_many, rfl, m, rfl, _, rfl, cut_len m1 m2, k⟩
end
end K6
namespace K6
open PySem L2
open K1 K2 K3 K12
section
variable {P : Program} {w : World} {K : PySem.W.Frag} {mg : Str → Option Value} {base : Heap} {f : Addr} {fd : FuncData} {C_Ring C_Fractions C_Rests C_Order C_Degrees C_Tails C_Weights : Addr} {E_NoOrder E_NoPrime E_NoRing : Addr}
local macro_rules | `(tactic| walk_at "sd") => `(tactic| first
  | assumption | (dsimp only; omega) | (dsimp only; decide) | exact ⟨by decide, by decide⟩ | exact ⟨by decide, by decide, by decide⟩ | exact Or.inl ⟨by decide, by decide⟩ | exact ⟨by omega, by omega⟩ | exact Or.inl ⟨by omega, by omega⟩ | exact Or.inr ⟨by decide, by decide⟩ | exact Or.inr ⟨by omega, by omega⟩)
local macro_rules | `(tactic| walk_at "rd") => `(tactic| repeat first
  | refine ⟨_, rfl, ?_⟩ | refine ⟨_, _, rfl, rfl, ?_⟩ | refine And.intro rfl ?_ | refine And.intro (by walk_at "sd") ?_ | with_reducible refine iteT ?_ | with_reducible refine iteF ?_ | (apply ixT_of; assumption; rfl))
local macro_rules | `(tactic| walk_at "clo") => `(tactic| exact h)

theorem scPrt : FnScope ["ring", "number", "term", "factors", "size"] ["ring", "number", "term"] (defScope s_part_shown) := ⟨rfl, rfl, rfl, by decide +kernel, rfl, by decide +kernel, by decide +kernel⟩
set_option maxHeartbeats 4000000 in
theorem ok_Prt  (F : FunD K "part_shown" "part_shown" s_part_shown .none f fd) (T : Txt K mg C_Ring C_Fractions C_Rests C_Order C_Degrees C_Tails C_Weights) (m_Letters : MCal P w K mg base CX0 1 C_Ring "letters" ["self"] [] (spLetters C_Ring)) (c_PwT : Cal P w K mg base CX0 1 "power_shown" ["letter", "power"] [] spPwT) (c_NumT : Cal P w K mg base CX0 1 "number_shown" ["field", "number"] [] (spNumT C_Fractions C_Rests))  : FnOk P w K mg base CX0 4 f fd ["ring", "number", "term"] (spPrt C_Ring C_Fractions C_Rests C_Order C_Degrees C_Tails C_Weights) := by
  refine F.okN (k := 3) scPrt (fun vs H Q E h => ?_) (fun cdv A outer s H vs Q E hr h => ?_)
  · obtain ⟨r, v, b, m, n, kd, ws, t, z, rfl, _⟩ := h
    rfl
  obtain ⟨r, v, b, m, n, kd, ws, t, z, rfl, h⟩ := h
  refine ⟨_, (pss_cons (ps_setC (N := ["letter", "power"]) (pg_name (i := 3) scPrt.nd rfl (Or.inl rfl)) (Blk.plain (by decide +kernel) (by decide +kernel) rfl (by decide +kernel) nd_letter_power) rfl (pi_zipSK (K := K) rfl true rfl T.b_zip ((pa_cons (pe_m0 m_Letters (pv 0) hr pass00 .nil) (pa_cons (pv 2) pa_nil)))) (fun C0 s0 H0 fp0 => pg_two (K := K) rfl rfl rfl nd_letter_power rfl rfl) (fun C0 s0 H0 fp0 => pts_one (pt_cmpR op_gt (pv 1) (pe_int) (nomark _))) (fun C0 s0 H0 fp0 => pe_c c_PwT hr pass00 .nil ((pa_cons (pv 0) (pa_cons (pv 1) pa_nil)))))
    (pss_cons (ps_set (i := 4) scPrt.nd rfl (Or.inl rfl) (pe_c c_NumT hr pass00 .nil ((pa_cons (pe_fldK (K := K) rfl (pv 0) rfl) (pa_cons (pv 1) pa_nil)))))
    (pss_cons (ps_if (PW.pt (pw_or (pt_cmpR op_ne (pv 4) (pe_str) (nomark _)) (pw_or1 (pt_cmpR (op_eqD hr.units) (pv 3) (pe_lst (pa_nil)) (nomark _))))) (pss_one (ps_set (i := 3) scPrt.nd rfl (Or.inl rfl) (pe_op op_cat (pe_lst ((pa_cons (pv 4) pa_nil))) (pv 3)))) pss_nil)
    (pss_one (ps_ret (pe_join rfl ((pa_cons (pv 3) pa_nil)))))))), ?_⟩
  obtain ⟨⟨⟨pf, po, ⟨dx, hr0⟩, hf, hk⟩, m1, m4⟩, hv, ok, hb, dt, k⟩ := h
  have lt := dt.1
  have sm := dt.sm
  have lm : (t.map V.int).length = t.length := List.length_map _
  show tComp _ _ _ _ _ _ _ _
  have nn : min (cutS "xyzt" none (some (m : Int))).cps.size (t.map V.int).length = t.length := by rw [cut_size m4, lm, lt, Nat.min_self]
  refine walk_comp (J := ItzS K true (cutS "xyzt" none (some (m : Int))) b) (H1 := H) (walk_zipS (b2 := true) (show SqX K true H b (t.map V.int) from SqT.of hb)) (by rw [nn]; omega) ?_ (fun σ => ∃ v1 v2, σ = [v1, v2]) (fun i => decide (0 < t.getD i 0)) (fun i => .str (pwT (ltr i) (t.getD i 0))) ⟨none, none, rfl⟩ ?_ fun D H1 e1 hL => ?_
  · exact fun R hR => ⟨_, rfl, r, dx, _, rfl, hr0, no_G _ (by decide +kernel) (by decide +kernel) (by decide +kernel), r, m, pf, po, rfl, ⟨dx, hr0⟩, by omega, by omega, _, rfl, _, b, rfl, cut_ascii m4, ⟨_, SqT.of hb⟩, hR⟩
  · rintro i x σ' H2 hi ⟨v1, v2, rfl⟩ e ⟨p, c, y, rfl, hp, hx, hy⟩ Ny Nn hyy hnn
    have ey := getD_of_map hy
    subst ey
    have ex := ltr_at m4 hx
    rw [ex] at hp
    refine ⟨p, _, rfl, SqT.of hp, rfl, _, _, rfl, ?_⟩
    dsimp only [gName]
    refine ⟨_, _, rfl, ?_⟩
    dsimp only [gName]
    refine ⟨rfl, ?_⟩
    have bt := sm.at_ i
    refine ⟨_, rfl, _, _, rfl, rfl, _, rfl, ?_⟩
    cases c : decide (0 < t.getD i 0) with
    | true =>
      refine iteT ⟨_, rfl, _, rfl, _, _, rfl, by rw [ltr_len]; decide, bt.1, bt.2, ?_⟩
      exact hyy _ H2 ⟨_, _, rfl⟩ (Same.refl _) c
    | false => exact iteF (hnn _ H2 ⟨_, _, rfl⟩ (Same.refl _) c)
  rw [nn, facs_eq] at hL
  dsimp only [gName]
  have jo := join_ok ok sm (by omega)
  have wk := (wrds_ok ok sm (by omega)).1
  refine ⟨_, rfl, r, C_Ring, dx, _, _, rfl, e1 _ _ hr0, T.cl_Ring, T.na_Ring_field, rfl, _, rfl, pf, v, n, z, rfl, ?_, hv.same e1, ok, ?_⟩
  · unfold AtN at hf ⊢
    by_cases c : n = 0
    · rw [if_pos c] at hf ⊢
      obtain ⟨d, q⟩ := hf; exact ⟨d, e1 _ _ q⟩
    · rw [if_neg c] at hf ⊢
      obtain ⟨d, q⟩ := hf; exact ⟨d, e1 _ _ q.1, q.2⟩
  dsimp only [gName]
  refine seq_mid (fun σ' H' => Same H H' ∧ ∃ D' v4, σ' = [some (.ref r), some v, some (.ref b), some (.ref D'), v4] ∧ H' D' = some (.lst ((wrds n t z).map V.str))) ?_ ?_
  · rintro σ' H' ⟨e, D', v4, rfl, hD'⟩
    exact ⟨rfl, _, rfl, _, D', _, rfl, rfl, SqL.of hD', jo, k H' e⟩
  intro N hN
  have no : wrds n t z = facs t → N [some (.ref r), some v, some (.ref b), some (.ref D), some (.str (numT n z))] H1 := fun q => hN _ _ ⟨e1, D, _, rfl, by rw [q]; exact hL⟩
  have no' : wrds n t z = facs t → ∀ H2, Same H1 H2 → N [some (.ref r), some v, some (.ref b), some (.ref D), some (.str (numT n z))] H2 := fun q H2 e2 => hN _ _ ⟨e1.trans e2, D, _, rfl, by rw [q]; exact e2 _ _ hL⟩
  have yes : wrds n t z = numT n z :: facs t → ∀ H2, Same H1 H2 → ∀ l, H2 l = none → ∀ p, (upd H2 l (.lst [.str (numT n z)])) p = none → N [some (.ref r), some v, some (.ref b), some (.ref p), some (.str (numT n z))] (upd (upd H2 l (.lst [.str (numT n z)])) p (.lst ([.str (numT n z)] ++ (facs t).map V.str))) := fun q H2 e2 l hl p hp => by
    have g2 := e2.updR (o := HO.lst [V.str (numT n z)]) (e2.free hl)
    refine hN _ _ ⟨e1.trans (g2.updR (g2.free hp)), p, _, rfl, ?_⟩
    rw [upd_same, q]; rfl
  have catl : ∀ H2, Same H1 H2 → wrds n t z = numT n z :: facs t → tAsg (tOp rCat (tLst (tCons (tVar 4) tNil)) (tVar 3)) (gName 3) { nx := N, rt := Q } [some (.ref r), some v, some (.ref b), some (.ref D), some (.str (numT n z))] H2 := fun H2 e2 q => by
    refine ⟨_, rfl, (by show 1 ≤ sizeLine; decide), fun l hl => ⟨_, rfl, l, D, _, _, rfl, rfl, upd_same, ?_, ?_, fun p hp => yes q H2 e2 l hl p hp⟩⟩
    · rw [upd_ne (fun z' => by rw [← z', e2 _ _ hL] at hl; cases hl)]; exact e2 _ _ hL
    · refine zl _ ?_
      have := facs_len t
      rw [List.length_map]
      show 1 + _ ≤ _
      omega
  refine ⟨_, rfl, rfl, _, rfl, ?_⟩
  by_cases c : numT n z = "1"
  · have d : (!decide (V.str (numT n z) = V.str "1")) = false := by rw [c, decide_eq_true rfl]; rfl
    dsimp only
    rw [d]
    refine iteF ⟨_, rfl, Nat.zero_le _, fun l hl => ?_⟩
    have e2 : Same H1 (upd H1 l (.lst [])) := Same.upd hl
    refine ⟨.list ((facs t).map PyData.str), .list [], .lst (SqL.of (e2 _ _ hL)) (rds_strs _), .lst (xs := []) (SqL.of upd_same) .nil, shp_strs _ (sok_facs t), rfl, _, rfl, ?_⟩
    rw [eqv_nil]
    by_cases c2 : facs t = []
    · rw [decide_eq_true c2]
      refine iteT ?_
      exact catl _ e2 (by unfold wrds; rw [if_pos (.inr c2)])
    · rw [decide_eq_false c2]
      refine iteF ?_
      exact no' (by unfold wrds; rw [if_neg (fun q => q.elim (fun q => q c) c2)]) _ e2
  · have d : (!decide (V.str (numT n z) = V.str "1")) = true := by rw [decide_eq_false (fun q => c (by injection q))]; rfl
    dsimp only
    rw [d]
    refine iteT (iteT ?_)
    exact catl _ (Same.refl _) (by unfold wrds; rw [if_pos (.inl c)])
end
end K6
namespace K6
open PySem L2
open K1 K2 K3 K12
section
variable {P : Program} {w : World} {K : PySem.W.Frag} {mg : Str → Option Value} {base : Heap} {f : Addr} {fd : FuncData} {C_Ring C_Fractions C_Rests C_Order C_Degrees C_Tails C_Weights : Addr} {E_NoOrder E_NoPrime E_NoRing : Addr}
local macro_rules | `(tactic| walk_at "sd") => `(tactic| first
  | assumption | (dsimp only; omega) | (dsimp only; decide) | exact ⟨by decide, by decide⟩ | exact ⟨by decide, by decide, by decide⟩ | exact Or.inl ⟨by decide, by decide⟩ | exact ⟨by omega, by omega⟩ | exact Or.inl ⟨by omega, by omega⟩ | exact Or.inr ⟨by decide, by decide⟩ | exact Or.inr ⟨by omega, by omega⟩)
local macro_rules | `(tactic| walk_at "rd") => `(tactic| repeat first
  | refine ⟨_, rfl, ?_⟩ | refine ⟨_, _, rfl, rfl, ?_⟩ | refine And.intro rfl ?_ | refine And.intro (by walk_at "sd") ?_ | with_reducible refine iteT ?_ | with_reducible refine iteF ?_ | (apply ixT_of; assumption; rfl))
local macro_rules | `(tactic| walk_at "clo") => `(tactic| exact h)

theorem scRankO : FnScope ["self", "term"] ["self", "term"] (defScope s_Order_rank) := ⟨rfl, rfl, rfl, by decide +kernel, rfl, by decide +kernel, by decide +kernel⟩
set_option maxHeartbeats 4000000 in
theorem ok_RankO  (F : FunD K "rank" "Order.rank" s_Order_rank .none f fd) (T : Txt K mg C_Ring C_Fractions C_Rests C_Order C_Degrees C_Tails C_Weights)   : FnOk P w K mg base CX0 1 f fd ["self", "term"] (spRank (AtO C_Order) rkL) := by
  refine F.okN (k := 0) scRankO (fun vs H Q E h => ?_) (fun cdv A outer s H vs Q E hr h => ?_)
  · obtain ⟨p, t, xs, rfl, _⟩ := h
    rfl
  obtain ⟨p, t, xs, rfl, h⟩ := h
  refine ⟨_, (pss_one (ps_ret (pe_callTy (call_tupleK (K := K) rfl) rfl T.b_tuple (by kernel_rfl) ((pa_cons (pv 1) pa_nil))))), ?_⟩
  obtain ⟨hp, ht0, px, k⟩ := h
  have ht := SqT.of (K := K) ht0
  exact ⟨_, rfl, t, _, rfl, .inr ⟨ht, k t H (Same.refl _) ht0⟩⟩
end
end K6
namespace K6
open PySem L2
open K1 K2 K3 K12
section
variable {P : Program} {w : World} {K : PySem.W.Frag} {mg : Str → Option Value} {base : Heap} {f : Addr} {fd : FuncData} {C_Ring C_Fractions C_Rests C_Order C_Degrees C_Tails C_Weights : Addr} {E_NoOrder E_NoPrime E_NoRing : Addr}
local macro_rules | `(tactic| walk_at "sd") => `(tactic| first
  | assumption | (dsimp only; omega) | (dsimp only; decide) | exact ⟨by decide, by decide⟩ | exact ⟨by decide, by decide, by decide⟩ | exact Or.inl ⟨by decide, by decide⟩ | exact ⟨by omega, by omega⟩ | exact Or.inl ⟨by omega, by omega⟩ | exact Or.inr ⟨by decide, by decide⟩ | exact Or.inr ⟨by omega, by omega⟩)
local macro_rules | `(tactic| walk_at "rd") => `(tactic| repeat first
  | refine ⟨_, rfl, ?_⟩ | refine ⟨_, _, rfl, rfl, ?_⟩ | refine And.intro rfl ?_ | refine And.intro (by walk_at "sd") ?_ | with_reducible refine iteT ?_ | with_reducible refine iteF ?_ | (apply ixT_of; assumption; rfl))
local macro_rules | `(tactic| walk_at "clo") => `(tactic| exact h)

theorem scRankD : FnScope ["self", "term"] ["self", "term"] (defScope s_Degrees_rank) := ⟨rfl, rfl, rfl, by decide +kernel, rfl, by decide +kernel, by decide +kernel⟩
set_option maxHeartbeats 4000000 in
theorem ok_RankD  (F : FunD K "rank" "Degrees.rank" s_Degrees_rank .none f fd) (T : Txt K mg C_Ring C_Fractions C_Rests C_Order C_Degrees C_Tails C_Weights) (c_Deg : Cal P w K mg base CX0 1 "degree" ["term"] [] (spDeg K))  : FnOk P w K mg base CX0 2 f fd ["self", "term"] (spRank (AtO C_Degrees) rkD) := by
  refine F.okN (k := 1) scRankD (fun vs H Q E h => ?_) (fun cdv A outer s H vs Q E hr h => ?_)
  · obtain ⟨p, t, xs, rfl, _⟩ := h
    rfl
  obtain ⟨p, t, xs, rfl, h⟩ := h
  refine ⟨_, (pss_one (ps_ret (pe_op op_catT (pe_tup ((pa_cons (pe_c c_Deg hr pass00 .nil ((pa_cons (pv 1) pa_nil))) pa_nil))) (pe_callTy (call_tupleK (K := K) rfl) rfl T.b_tuple (by kernel_rfl) ((pa_cons (pv 1) pa_nil)))))), ?_⟩
  obtain ⟨hp, ht0, px, k⟩ := h
  have ht := SqT.of (K := K) ht0
  refine ⟨_, rfl, t, xs, rfl, ht, (by show 1 ≤ sizeLine; decide), fun l hl => ?_⟩
  have e1 : Same H (upd H l (HO.tup [V.int xs.sum])) := Same.upd hl
  refine ⟨_, rfl, t, _, rfl, .inr ⟨e1.seqT ht, ?_⟩⟩
  refine ⟨_, _, _, _, rfl, rfl, SqT.of (upd_same), e1.seqT ht, by simp, by simp; exact Nat.le_trans (Nat.add_le_add_left px.len 1) (by rw [sizeLine_eq]; decide), fun z => ?_, fun _ r hr' => ?_⟩
  · exact absurd (List.map_eq_nil_iff.mp z) px.ne
  · exact k r _ (e1.updR (e1.free hr')) upd_same
end
end K6
namespace K6
open PySem L2
open K1 K2 K3 K12
section
variable {P : Program} {w : World} {K : PySem.W.Frag} {mg : Str → Option Value} {base : Heap} {f : Addr} {fd : FuncData} {C_Ring C_Fractions C_Rests C_Order C_Degrees C_Tails C_Weights : Addr} {E_NoOrder E_NoPrime E_NoRing : Addr}
local macro_rules | `(tactic| walk_at "sd") => `(tactic| first
  | assumption | (dsimp only; omega) | (dsimp only; decide) | exact ⟨by decide, by decide⟩ | exact ⟨by decide, by decide, by decide⟩ | exact Or.inl ⟨by decide, by decide⟩ | exact ⟨by omega, by omega⟩ | exact Or.inl ⟨by omega, by omega⟩ | exact Or.inr ⟨by decide, by decide⟩ | exact Or.inr ⟨by omega, by omega⟩)
local macro_rules | `(tactic| walk_at "rd") => `(tactic| repeat first
  | refine ⟨_, rfl, ?_⟩ | refine ⟨_, _, rfl, rfl, ?_⟩ | refine And.intro rfl ?_ | refine And.intro (by walk_at "sd") ?_ | with_reducible refine iteT ?_ | with_reducible refine iteF ?_ | (apply ixT_of; assumption; rfl))
local macro_rules | `(tactic| walk_at "clo") => `(tactic| exact h)

theorem scRankT : FnScope ["self", "term"] ["self", "term"] (defScope s_Tails_rank) := ⟨rfl, rfl, rfl, by decide +kernel, rfl, by decide +kernel, by decide +kernel⟩
set_option maxHeartbeats 4000000 in
theorem ok_RankT  (F : FunD K "rank" "Tails.rank" s_Tails_rank .none f fd) (T : Txt K mg C_Ring C_Fractions C_Rests C_Order C_Degrees C_Tails C_Weights) (c_Deg : Cal P w K mg base CX0 1 "degree" ["term"] [] (spDeg K))  : FnOk P w K mg base CX0 2 f fd ["self", "term"] (spRank (AtO C_Tails) rkT) := by
  refine F.okN (k := 1) scRankT (fun vs H Q E h => ?_) (fun cdv A outer s H vs Q E hr h => ?_)
  · obtain ⟨p, t, xs, rfl, _⟩ := h
    rfl
  obtain ⟨p, t, xs, rfl, h⟩ := h
  refine ⟨_, (pss_one (ps_ret (pe_op op_catT (pe_tup ((pa_cons (pe_c c_Deg hr pass00 .nil ((pa_cons (pv 1) pa_nil))) pa_nil))) (pe_callTy (call_tupleK (K := K) rfl) rfl T.b_tuple (by kernel_rfl) ((pa_cons (pe_comp (N := ["power"]) (Blk.plain (by decide +kernel) (by decide +kernel) rfl (by decide +kernel) nd_power) rfl (pi_revK (K := K) rfl rfl T.b_reversed ((pa_cons (pv 1) pa_nil))) (fun C0 s0 H0 fp0 => pg_one (i := 0) nd_power rfl rfl) (fun C0 s0 H0 fp0 => pts_nil) (fun C0 s0 H0 fp0 => pe_un un_neg (pv 0))) pa_nil)))))), ?_⟩
  obtain ⟨hp, ht0, px, k⟩ := h
  have ht := SqT.of (K := K) ht0
  refine ⟨_, rfl, t, xs, rfl, ht, (by show 1 ≤ sizeLine; decide), fun l hl => ?_⟩
  have e1 : Same H (upd H l (HO.tup [V.int xs.sum])) := Same.upd hl
  have ht1 := e1.seqT ht
  have lm : (xs.map V.int).length = xs.length := List.length_map _
  show tComp _ _ _ _ _ _ _ _
  refine walk_comp (J := Itv K t (xs.map V.int).length) (H1 := upd H l (HO.tup [V.int xs.sum])) (walk_rvd ht1) (by rw [lm]; exact Nat.le_trans px.len (by decide)) ?_ (fun σ => σ.length = 1) (fun _ => true) (fun i => .int (-(xs.getD (xs.length - 1 - i) 0))) rfl ?_ fun D H' e hL => ?_
  · exact fun R hR => ⟨_, rfl, t, _, rfl, ht1, hR⟩
  · rintro i x σ' H2 hi hs e hx Ny Nn hy hn
    rw [lm] at hx
    rw [getD_of_map hx]
    match σ', hs with
    | [_], _ => exact ⟨_, rfl, _, rfl, hy _ _ rfl (Same.refl _) rfl⟩
  rw [List.filter_eq_self.mpr (fun _ _ => rfl), lm] at hL
  have eL : (List.range xs.length).map (fun i => V.int (-(xs.getD (xs.length - 1 - i) 0))) = (xs.reverse.map fun x => -x).map V.int := by
    rw [← rev_getD xs fun x => -x, List.map_map]; rfl
  rw [eL] at hL
  refine ⟨D, _, rfl, .inl ⟨SqL.of hL, fun m hm => ?_⟩⟩
  have e2 : Same H' (upd H' m (HO.tup ((xs.reverse.map fun x => -x).map V.int))) := Same.upd hm
  have e3 := (e1.trans e).trans e2
  refine ⟨l, m, _, _, rfl, rfl, SqT.of (e2 _ _ (e _ _ upd_same)), SqT.of upd_same, by simp, by simp; exact Nat.le_trans (Nat.add_le_add_left px.len 1) (by rw [sizeLine_eq]; decide), fun z => ?_, fun _ r hr' => ?_⟩
  · exact absurd (by simpa using z) px.ne
  · exact k r _ (e3.updR (e3.free hr')) upd_same
end
end K6
namespace K6
open PySem L2
open K1 K2 K3 K12
section
variable {P : Program} {w : World} {K : PySem.W.Frag} {mg : Str → Option Value} {base : Heap} {f : Addr} {fd : FuncData} {C_Ring C_Fractions C_Rests C_Order C_Degrees C_Tails C_Weights : Addr} {E_NoOrder E_NoPrime E_NoRing : Addr}
local macro_rules | `(tactic| walk_at "sd") => `(tactic| first
  | assumption | (dsimp only; omega) | (dsimp only; decide) | exact ⟨by decide, by decide⟩ | exact ⟨by decide, by decide, by decide⟩ | exact Or.inl ⟨by decide, by decide⟩ | exact ⟨by omega, by omega⟩ | exact Or.inl ⟨by omega, by omega⟩ | exact Or.inr ⟨by decide, by decide⟩ | exact Or.inr ⟨by omega, by omega⟩)
local macro_rules | `(tactic| walk_at "rd") => `(tactic| repeat first
  | refine ⟨_, rfl, ?_⟩ | refine ⟨_, _, rfl, rfl, ?_⟩ | refine And.intro rfl ?_ | refine And.intro (by walk_at "sd") ?_ | with_reducible refine iteT ?_ | with_reducible refine iteF ?_ | (apply ixT_of; assumption; rfl))
local macro_rules | `(tactic| walk_at "clo") => `(tactic| exact h)

theorem scWInit : FnScope ["self", "weights"] ["self", "weights"] (defScope s_Weights___init__) := ⟨rfl, rfl, rfl, by decide +kernel, rfl, by decide +kernel, by decide +kernel⟩
set_option maxHeartbeats 4000000 in
theorem ok_WInit  (F : FunD K "__init__" "Weights.__init__" s_Weights___init__ .none f fd) (T : Txt K mg C_Ring C_Fractions C_Rests C_Order C_Degrees C_Tails C_Weights) (x_NoOrder : Exc K mg base "NoOrder" E_NoOrder)  : FnOk P w K mg base (CXe P w) 1 f fd ["self", "weights"] (spWInit K C_Weights E_NoOrder) := by
  refine F.okX (k := 0) scWInit (fun vs H Q E h => ?_) (fun cdv A outer s H vs Q E hr h => ?_)
  · obtain ⟨p, dx, l, ws, rfl, _⟩ := h
    rfl
  obtain ⟨p, dx, l, ws, rfl, h⟩ := h
  refine ⟨_, (pss_cons (ps_if (pt_val (pe_callB (call_anyK (K := K) rfl rfl) rfl T.b_any (by kernel_rfl) ((pa_cons (pe_comp (N := ["weight"]) (Blk.plain (by decide +kernel) (by decide +kernel) rfl (by decide +kernel) nd_weight) rfl (pi_listK (K := K) rfl (pv 1)) (fun C0 s0 H0 fp0 => pg_one (i := 0) nd_weight rfl rfl) (fun C0 s0 H0 fp0 => pts_nil) (fun C0 s0 H0 fp0 => pe_cmpR op_lt (pv 0) (pe_int) (nomark _))) pa_nil)))) (pss_one (ps_rz x_NoOrder rfl rfl raisesTo_body ((pa_cons (pe_str) pa_nil)))) pss_nil)
    (pss_one (ps_fld (pv 0) (pe_callTy (call_tupleK (K := K) rfl) rfl T.b_tuple (by kernel_rfl) ((pa_cons (pv 1) pa_nil))) rfl))), ?_⟩
  obtain ⟨hp, hl, hlen, k⟩ := h
  have lm : (ws.map V.int).length = ws.length := List.length_map _
  show tComp _ _ _ _ _ _ _ _
  refine walk_comp (J := Itl K l) (H1 := H) (walk_list hl) (by rw [lm]; exact Nat.le_trans hlen (by decide)) ?_ (fun σ => σ.length = 1) (fun _ => true) (fun i => .bl (decide (ws.getD i 0 < 0))) rfl ?_ fun D H' e hL => ?_
  · exact fun R hR => ⟨_, rfl, l, rfl, ⟨_, hl⟩, hR⟩
  · rintro i x σ' H2 hi hs e hx Ny Nn hy hn
    rw [getD_of_map hx]
    match σ', hs with
    | [_], _ => exact ⟨_, rfl, _, _, rfl, rfl, hy _ _ rfl (Same.refl _) rfl⟩
  rw [List.filter_eq_self.mpr (fun _ _ => rfl), lm] at hL
  have eL : (List.range ws.length).map (fun i => V.bl (decide (ws.getD i 0 < 0))) = ((List.range ws.length).map fun i => decide (ws.getD i 0 < 0)).map V.bl := by rw [List.map_map]; rfl
  rw [eL] at hL
  refine ⟨D, _, rfl, SqL.of hL, _, rfl, ?_⟩
  rw [any_neg]
  refine cN (fun c => ?_) (fun c => ?_)
  · refine ⟨(by show 1 ≤ sizeLine; decide), ?_⟩
    rcases k with ⟨q, _⟩ | ⟨_, q⟩
    · exact absurd q c
    · exact q H' e
  rcases k with ⟨_, k⟩ | ⟨q, _⟩
  case inr => exact absurd c q
  refine ⟨_, rfl, l, _, rfl, .inl ⟨e.seq hl, fun m hm => ?_⟩⟩
  have e2 : Same H' (upd H' m (HO.tup (ws.map V.int))) := Same.upd hm
  have hp2 := e2 _ _ (e _ _ hp)
  have npm : m ≠ p := fun z => by subst z; rw [e _ _ hp] at hm; cases hm
  refine ⟨_, rfl, p, C_Weights, dx, [], rfl, hp2, T.cl_Weights, T.na_Weights_weights, (by show 0 < 1000; decide), ?_⟩
  refine k m _ upd_same (by rw [upd_ne npm]; exact upd_same) fun b o hb nb => ?_
  rw [upd_ne nb]
  exact e2 _ _ (e _ _ hb)
end
end K6
namespace K6
open PySem L2
open K1 K2 K3 K12
section
variable {P : Program} {w : World} {K : PySem.W.Frag} {mg : Str → Option Value} {base : Heap} {f : Addr} {fd : FuncData} {C_Ring C_Fractions C_Rests C_Order C_Degrees C_Tails C_Weights : Addr} {E_NoOrder E_NoPrime E_NoRing : Addr}
local macro_rules | `(tactic| walk_at "sd") => `(tactic| first
  | assumption | (dsimp only; omega) | (dsimp only; decide) | exact ⟨by decide, by decide⟩ | exact ⟨by decide, by decide, by decide⟩ | exact Or.inl ⟨by decide, by decide⟩ | exact ⟨by omega, by omega⟩ | exact Or.inl ⟨by omega, by omega⟩ | exact Or.inr ⟨by decide, by decide⟩ | exact Or.inr ⟨by omega, by omega⟩)
local macro_rules | `(tactic| walk_at "rd") => `(tactic| repeat first
  | refine ⟨_, rfl, ?_⟩ | refine ⟨_, _, rfl, rfl, ?_⟩ | refine And.intro rfl ?_ | refine And.intro (by walk_at "sd") ?_ | with_reducible refine iteT ?_ | with_reducible refine iteF ?_ | (apply ixT_of; assumption; rfl))
local macro_rules | `(tactic| walk_at "clo") => `(tactic| exact h)

theorem scRankW : FnScope ["self", "term", "weighed"] ["self", "term"] (defScope s_Weights_rank) := ⟨rfl, rfl, rfl, by decide +kernel, rfl, by decide +kernel, by decide +kernel⟩
set_option maxHeartbeats 4000000 in
theorem ok_RankW {ws : List Int} (F : FunD K "rank" "Weights.rank" s_Weights_rank .none f fd) (T : Txt K mg C_Ring C_Fractions C_Rests C_Order C_Degrees C_Tails C_Weights)  (hwn : Nn ws) (hwb : ∀ x ∈ ws, x < 10 ^ 31) : FnOk P w K mg base CX0 1 f fd ["self", "term"] (spRank (AtW C_Weights ws) (rkW ws)) := by
  refine F.okN (k := 0) scRankW (fun vs H Q E h => ?_) (fun cdv A outer s H vs Q E hr h => ?_)
  · obtain ⟨p, t, xs, rfl, _⟩ := h
    rfl
  obtain ⟨p, t, xs, rfl, h⟩ := h
  refine ⟨_, (pss_cons (ps_set (i := 2) scRankW.nd rfl (Or.inl rfl) (pe_callB (call_sumK (K := K) rfl false rfl) rfl T.b_sum (by kernel_rfl) ((pa_cons (pe_comp (N := ["power", "weight"]) (Blk.plain (by decide +kernel) (by decide +kernel) rfl (by decide +kernel) nd_power_weight) rfl (pi_zipK (K := K) rfl true true rfl T.b_zip ((pa_cons (pv 1) (pa_cons (pe_fldK (K := K) rfl (pv 0) rfl) pa_nil)))) (fun C0 s0 H0 fp0 => pg_two (K := K) rfl rfl rfl nd_power_weight rfl rfl) (fun C0 s0 H0 fp0 => pts_nil) (fun C0 s0 H0 fp0 => pe_op op_mulB (pv 0) (pv 1))) pa_nil))))
    (pss_one (ps_ret (pe_op op_catT (pe_tup ((pa_cons (pv 2) pa_nil))) (pe_callTy (call_tupleK (K := K) rfl) rfl T.b_tuple (by kernel_rfl) ((pa_cons (pv 1) pa_nil))))))), ?_⟩
  obtain ⟨hp, ht0, px, k⟩ := h
  have ht := SqT.of (K := K) ht0
  obtain ⟨dx, wt, hq, hw⟩ := id hp
  show tComp _ _ _ _ _ _ _ _
  refine zip_comp (K := K) (b1 := true) (b2 := true) (a := t) (b := wt) (xs := xs) (ys := ws) yes2 (fun x y => .int (x * y)) (by rfl) ?_ ht (SqT.of hw) (Nat.le_trans px.len (by decide)) ?_ ?_ fun D H' e hL => ?_
  · exact fun R hR => ⟨_, rfl, _, rfl, p, C_Weights, dx, _, _, rfl, hq, T.cl_Weights, T.na_Weights_weights, rfl, hR⟩
  · exact fun _ _ _ h => h
  · exact fun i H' R _ h => ⟨_, rfl, _, rfl, _, _, rfl, rfl, ⟨bits px.nn px.hi i, bits hwn hwb i⟩, h⟩
  rw [zipV_W] at hL
  refine ⟨D, _, rfl, SqL.of hL, ?_⟩
  refine ⟨_, rfl, (by show 1 ≤ sizeLine; decide), fun l hl => ?_⟩
  have e1 : Same H' (upd H' l (HO.tup [V.int (wsum ws xs)])) := Same.upd hl
  have e2 := e.trans e1
  refine ⟨_, rfl, t, _, rfl, .inr ⟨e2.seqT ht, ?_⟩⟩
  refine ⟨_, _, _, _, rfl, rfl, SqT.of (upd_same), e2.seqT ht, by simp, by simp; exact Nat.le_trans (Nat.add_le_add_left px.len 1) (by rw [sizeLine_eq]; decide), fun z => ?_, fun _ r hr' => ?_⟩
  · exact absurd (List.map_eq_nil_iff.mp z) px.ne
  · exact k r _ (e2.updR (e2.free hr')) upd_same
end
end K6
namespace K6
open PySem L2
open K1 K2 K3 K12
section
variable {P : Program} {w : World} {K : PySem.W.Frag} {mg : Str → Option Value} {base : Heap} {f : Addr} {fd : FuncData} {C_Ring C_Fractions C_Rests C_Order C_Degrees C_Tails C_Weights : Addr} {E_NoOrder E_NoPrime E_NoRing : Addr}
local macro_rules | `(tactic| walk_at "sd") => `(tactic| first
  | assumption | (dsimp only; omega) | (dsimp only; decide) | exact ⟨by decide, by decide⟩ | exact ⟨by decide, by decide, by decide⟩ | exact Or.inl ⟨by decide, by decide⟩ | exact ⟨by omega, by omega⟩ | exact Or.inl ⟨by omega, by omega⟩ | exact Or.inr ⟨by decide, by decide⟩ | exact Or.inr ⟨by omega, by omega⟩)
local macro_rules | `(tactic| walk_at "rd") => `(tactic| repeat first
  | refine ⟨_, rfl, ?_⟩ | refine ⟨_, _, rfl, rfl, ?_⟩ | refine And.intro rfl ?_ | refine And.intro (by walk_at "sd") ?_ | with_reducible refine iteT ?_ | with_reducible refine iteF ?_ | (apply ixT_of; assumption; rfl))
local macro_rules | `(tactic| walk_at "clo") => `(tactic| exact h)

theorem scFall : FnScope ["self", "terms"] ["self", "terms"] (defScope s_Order_falling) := ⟨rfl, rfl, rfl, by decide +kernel, rfl, by decide +kernel, by decide +kernel⟩
set_option maxHeartbeats 4000000 in
theorem ok_Fall {C : Addr} {At : Hp → Addr → Prop} {rk : List Int → List Int} (F : FunD K "falling" "Order.falling" s_Order_falling .none f fd) (T : Txt K mg C_Ring C_Fractions C_Rests C_Order C_Degrees C_Tails C_Weights)  (oC : OrdC C At) (mR : MCal P w K mg base CX0 3 C "rank" ["self", "term"] [] (spRank At rk)) (bR : BM K C "rank") (ne : ∀ xs, Pws xs → rk xs ≠ []) : FnOk P w K mg base CX0 6 f fd ["self", "terms"] (spFall At rk) := by
  refine F.okN (k := 5) scFall (fun vs H Q E h => ?_) (fun cdv A outer s H vs Q E hr h => ?_)
  · obtain ⟨p, l, ys, xss, rfl, _⟩ := h
    rfl
  obtain ⟨p, l, ys, xss, rfl, h⟩ := h
  refine ⟨_, (pss_one (ps_ret (pe_sortK mR bR (pv 1) (pv 0) hr .nil T.b_sorted))), ?_⟩
  obtain ⟨hp, hl, ht, hw, h64, k⟩ := h
  obtain ⟨dx, fs, hq, nl⟩ := oC.ins hp
  refine ⟨_, rfl, _, rfl, p, dx, fs, l, ys, rfl, hq, nl "rank" (by decide +kernel), rfl, hl, ?_⟩
  refine sk_walk (K := K) oC ne xss ys [] [] H H (Same.refl _) hp ht hw .nil fun ks' H' e hk => ?_
  refine ⟨xss.map rk, hk, h64, fun ps' hp' hs' D hD => ?_⟩
  rw [zip_map_l] at hp'
  obtain ⟨ps, q1, rfl⟩ := perm_map_inv _ hp' _ rfl
  rw [List.pairwise_map] at hs'
  refine k D _ ps (e.updR (e.free hD)) q1 (hs'.imp fun h => by simpa using h) ?_
  rw [upd_same, List.map_map]
  rfl
end
end K6
namespace K6
open PySem L2
open K1 K2 K3 K12
section
variable {P : Program} {w : World} {K : PySem.W.Frag} {mg : Str → Option Value} {base : Heap} {f : Addr} {fd : FuncData} {C_Ring C_Fractions C_Rests C_Order C_Degrees C_Tails C_Weights : Addr} {E_NoOrder E_NoPrime E_NoRing : Addr}
local macro_rules | `(tactic| walk_at "sd") => `(tactic| first
  | assumption | (dsimp only; omega) | (dsimp only; decide) | exact ⟨by decide, by decide⟩ | exact ⟨by decide, by decide, by decide⟩ | exact Or.inl ⟨by decide, by decide⟩ | exact ⟨by omega, by omega⟩ | exact Or.inl ⟨by omega, by omega⟩ | exact Or.inr ⟨by decide, by decide⟩ | exact Or.inr ⟨by omega, by omega⟩)
local macro_rules | `(tactic| walk_at "rd") => `(tactic| repeat first
  | refine ⟨_, rfl, ?_⟩ | refine ⟨_, _, rfl, rfl, ?_⟩ | refine And.intro rfl ?_ | refine And.intro (by walk_at "sd") ?_ | with_reducible refine iteT ?_ | with_reducible refine iteF ?_ | (apply ixT_of; assumption; rfl))
local macro_rules | `(tactic| walk_at "clo") => `(tactic| exact h)

theorem scFitsO : FnScope ["self", "many"] ["self", "many"] (defScope s_Order_fits) := ⟨rfl, rfl, rfl, by decide +kernel, rfl, by decide +kernel, by decide +kernel⟩
set_option maxHeartbeats 4000000 in
theorem ok_FitsO {At : Hp → Addr → Prop} (F : FunD K "fits" "Order.fits" s_Order_fits .none f fd) (T : Txt K mg C_Ring C_Fractions C_Rests C_Order C_Degrees C_Tails C_Weights)   : FnOk P w K mg base CX0 1 f fd ["self", "many"] (spFits At fun _ => true) := by
  refine F.okN (k := 0) scFitsO (fun vs H Q E h => ?_) (fun cdv A outer s H vs Q E hr h => ?_)
  · obtain ⟨p, k, rfl, _⟩ := h
    rfl
  obtain ⟨p, k, rfl, h⟩ := h
  refine ⟨_, (pss_one (ps_ret (pe_bl))), ?_⟩
  exact h.2 H (Same.refl _)
end
end K6
namespace K6
open PySem L2
open K1 K2 K3 K12
section
variable {P : Program} {w : World} {K : PySem.W.Frag} {mg : Str → Option Value} {base : Heap} {f : Addr} {fd : FuncData} {C_Ring C_Fractions C_Rests C_Order C_Degrees C_Tails C_Weights : Addr} {E_NoOrder E_NoPrime E_NoRing : Addr}
local macro_rules | `(tactic| walk_at "sd") => `(tactic| first
  | assumption | (dsimp only; omega) | (dsimp only; decide) | exact ⟨by decide, by decide⟩ | exact ⟨by decide, by decide, by decide⟩ | exact Or.inl ⟨by decide, by decide⟩ | exact ⟨by omega, by omega⟩ | exact Or.inl ⟨by omega, by omega⟩ | exact Or.inr ⟨by decide, by decide⟩ | exact Or.inr ⟨by omega, by omega⟩)
local macro_rules | `(tactic| walk_at "rd") => `(tactic| repeat first
  | refine ⟨_, rfl, ?_⟩ | refine ⟨_, _, rfl, rfl, ?_⟩ | refine And.intro rfl ?_ | refine And.intro (by walk_at "sd") ?_ | with_reducible refine iteT ?_ | with_reducible refine iteF ?_ | (apply ixT_of; assumption; rfl))
local macro_rules | `(tactic| walk_at "clo") => `(tactic| exact h)

theorem scFitsW : FnScope ["self", "many"] ["self", "many"] (defScope s_Weights_fits) := ⟨rfl, rfl, rfl, by decide +kernel, rfl, by decide +kernel, by decide +kernel⟩
set_option maxHeartbeats 4000000 in
theorem ok_FitsW {ws : List Int} (F : FunD K "fits" "Weights.fits" s_Weights_fits .none f fd) (T : Txt K mg C_Ring C_Fractions C_Rests C_Order C_Degrees C_Tails C_Weights)   : FnOk P w K mg base CX0 1 f fd ["self", "many"] (spFits (AtW C_Weights ws) fun k => decide ((ws.length : Int) = k)) := by
  refine F.okN (k := 0) scFitsW (fun vs H Q E h => ?_) (fun cdv A outer s H vs Q E hr h => ?_)
  · obtain ⟨p, k, rfl, _⟩ := h
    rfl
  obtain ⟨p, k, rfl, h⟩ := h
  refine ⟨_, (pss_one (ps_ret (pe_cmpR op_eq (pe_callB (call_lenK (K := K) rfl) rfl T.b_len PySem.boot_len ((pa_cons (pe_fldK (K := K) rfl (pv 0) rfl) pa_nil))) (pv 1) (nomark _)))), ?_⟩
  obtain ⟨hp, q⟩ := h
  obtain ⟨dx, wt, hq, hw⟩ := id hp
  refine ⟨_, rfl, p, C_Weights, dx, _, _, rfl, hq, T.cl_Weights, T.na_Weights_weights, rfl, wt, _, rfl, .inr (SqT.of hw), ?_⟩
  rw [List.length_map]
  walk_at "rd"
  have := q H (Same.refl _)
  rw [dI]
  exact this
end
end K6
namespace K6
open PySem L2
open K1 K2 K3 K12
section
variable {P : Program} {w : World} {K : PySem.W.Frag} {mg : Str → Option Value} {base : Heap} {f : Addr} {fd : FuncData} {C_Ring C_Fractions C_Rests C_Order C_Degrees C_Tails C_Weights : Addr} {E_NoOrder E_NoPrime E_NoRing : Addr}
local macro_rules | `(tactic| walk_at "sd") => `(tactic| first
  | assumption | (dsimp only; omega) | (dsimp only; decide) | exact ⟨by decide, by decide⟩ | exact ⟨by decide, by decide, by decide⟩ | exact Or.inl ⟨by decide, by decide⟩ | exact ⟨by omega, by omega⟩ | exact Or.inl ⟨by omega, by omega⟩ | exact Or.inr ⟨by decide, by decide⟩ | exact Or.inr ⟨by omega, by omega⟩)
local macro_rules | `(tactic| walk_at "rd") => `(tactic| repeat first
  | refine ⟨_, rfl, ?_⟩ | refine ⟨_, _, rfl, rfl, ?_⟩ | refine And.intro rfl ?_ | refine And.intro (by walk_at "sd") ?_ | with_reducible refine iteT ?_ | with_reducible refine iteF ?_ | (apply ixT_of; assumption; rfl))
local macro_rules | `(tactic| walk_at "clo") => `(tactic| exact h)

theorem scRgInit : FnScope ["self", "many", "field", "order"] ["self", "many", "field", "order"] (defScope s_Ring___init__) := ⟨rfl, rfl, rfl, by decide +kernel, rfl, by decide +kernel, by decide +kernel⟩
set_option maxHeartbeats 4000000 in
theorem ok_RgInit  (F : FunD K "__init__" "Ring.__init__" s_Ring___init__ .none f fd) (T : Txt K mg C_Ring C_Fractions C_Rests C_Order C_Degrees C_Tails C_Weights) (x_NoRing : Exc K mg base "NoRing" E_NoRing) (hord : ∀ (kd : Int) (ws : List Int), 0 ≤ kd → kd < 4 → Nn ws → (∀ x ∈ ws, x < 10 ^ 31) → ∃ C, OrdE P w K mg base C (AtK C_Order C_Degrees C_Tails C_Weights kd ws) (rkk kd ws) (fbK kd ws)) : FnOk P w K mg base (CXe P w) 2 f fd ["self", "many", "field", "order"] (spRgInit C_Ring E_NoRing C_Order C_Degrees C_Tails C_Weights) := by
  refine F.okX (k := 1) scRgInit (fun vs H Q E h => ?_) (fun cdv A outer s H vs Q E hr h => ?_)
  · obtain ⟨r, dx, m, pf, po, kd, ws, rfl, _⟩ := h
    rfl
  obtain ⟨r, dx, m, pf, po, kd, ws, rfl, h⟩ := h
  obtain ⟨C, O⟩ := hord kd ws h.2.1 h.2.2.1 h.2.2.2.1 h.2.2.2.2.1
  refine ⟨_, (pss_cons (ps_if (PW.pt (pw_or (pt_cmpR op_lt (pv 1) (pe_int) (nomark _)) (pw_or (pt_cmpR op_gt (pv 1) (pe_callB call_len_str rfl T.b_len PySem.boot_len ((pa_cons (pe_globS T.g_LETTERS rfl) pa_nil))) (nomark _)) (pw_or1 (pt_not (pt_val (pe_m O.fits (pv 3) hr pass00 .nil ((pa_cons (pv 1) pa_nil))))))))) (pss_one (ps_rz x_NoRing rfl rfl raisesTo_body ((pa_cons (pe_str) pa_nil)))) pss_nil)
    (pss_cons (ps_fld (pv 0) (pv 1) rfl)
    (pss_cons (ps_fld (pv 0) (pv 2) rfl)
    (pss_one (ps_fld (pv 0) (pv 3) rfl))))), ?_⟩
  obtain ⟨hr0, k0, k4, wn, wb, hat, k⟩ := h
  have no : ¬ okR kd ws m → ∀ H', Same H H' → E (.ref E_NoRing) none H' := fun q => by
    rcases k with ⟨z, _⟩ | ⟨_, z⟩
    · exact absurd z q
    · exact z
  walk_at "rd"
  refine cD (fun c => ?_) (fun c => ?_)
  · exact ⟨(by show 1 ≤ sizeLine; decide), no (fun z => by have := z.1; omega) H (Same.refl _)⟩
  refine ⟨_, rfl, _, rfl, (by decide +kernel), ?_⟩
  rw [len_xyzt]
  walk_at "rd"
  refine cD (fun c1 => ?_) (fun c1 => ?_)
  · exact ⟨(by show 1 ≤ sizeLine; decide), no (fun z => by have := z.2.1; omega) H (Same.refl _)⟩
  obtain ⟨dO, fs, hq, nl⟩ := O.oC.ins hat
  refine ⟨_, rfl, po, dO, fs, rfl, hq, nl "fits" (by decide +kernel), _, rfl, po, m, rfl, hat, fun H1 e1 => ?_⟩
  refine ⟨_, rfl, cNB (fun c2 => ?_) (fun c2 => ?_)⟩
  · exact ⟨(by show 1 ≤ sizeLine; decide), no (fun z => by rw [z.2.2] at c2; cases c2) H1 e1⟩
  rcases k with ⟨_, k⟩ | ⟨q, _⟩
  case inr => exact absurd ⟨by omega, by omega, c2⟩ q
  have hr1 := e1 _ _ hr0
  refine ⟨_, rfl, _, rfl, r, C_Ring, dx, _, rfl, hr1, T.cl_Ring, T.na_Ring_many, (by show 0 < 1000; decide), ?_⟩
  refine ⟨_, rfl, _, rfl, r, C_Ring, dx, _, rfl, upd_same, T.cl_Ring, T.na_Ring_field, (by show 1 < 1000; decide), ?_⟩
  refine ⟨_, rfl, _, rfl, r, C_Ring, dx, _, rfl, upd_same, T.cl_Ring, T.na_Ring_order, (by show 2 < 1000; decide), ?_⟩
  refine k _ upd_same fun b o hb ne => ?_
  rw [upd_ne ne, upd_ne ne, upd_ne ne]
  exact e1 _ _ hb
end
end K6
namespace K6
open PySem L2
open K1 K2 K3 K12
section
variable {P : Program} {w : World} {K : PySem.W.Frag} {mg : Str → Option Value} {base : Heap} {f : Addr} {fd : FuncData} {C_Ring C_Fractions C_Rests C_Order C_Degrees C_Tails C_Weights : Addr} {E_NoOrder E_NoPrime E_NoRing : Addr}
local macro_rules | `(tactic| walk_at "sd") => `(tactic| first
  | assumption | (dsimp only; omega) | (dsimp only; decide) | exact ⟨by decide, by decide⟩ | exact ⟨by decide, by decide, by decide⟩ | exact Or.inl ⟨by decide, by decide⟩ | exact ⟨by omega, by omega⟩ | exact Or.inl ⟨by omega, by omega⟩ | exact Or.inr ⟨by decide, by decide⟩ | exact Or.inr ⟨by omega, by omega⟩)
local macro_rules | `(tactic| walk_at "rd") => `(tactic| repeat first
  | refine ⟨_, rfl, ?_⟩ | refine ⟨_, _, rfl, rfl, ?_⟩ | refine And.intro rfl ?_ | refine And.intro (by walk_at "sd") ?_ | with_reducible refine iteT ?_ | with_reducible refine iteF ?_ | (apply ixT_of; assumption; rfl))
local macro_rules | `(tactic| walk_at "clo") => `(tactic| exact h)

theorem scPrime : FnScope ["number", "divisor"] ["number"] (defScope s_is_prime) := ⟨rfl, rfl, rfl, by decide +kernel, rfl, by decide +kernel, by decide +kernel⟩
set_option maxHeartbeats 4000000 in
theorem ok_Prime  (F : FunD K "is_prime" "is_prime" s_is_prime .none f fd) (T : Txt K mg C_Ring C_Fractions C_Rests C_Order C_Degrees C_Tails C_Weights)   : FnOk P w K mg base CX0 1 f fd ["number"] spPrime := by
  refine F.okN (k := 0) scPrime (fun vs H Q E h => ?_) (fun cdv A outer s H vs Q E hr h => ?_)
  · obtain ⟨n, rfl, _⟩ := h
    rfl
  obtain ⟨n, rfl, h⟩ := h
  refine ⟨_, (pss_cons (ps_if (pt_cmpR op_lt (pv 0) (pe_int) (nomark _)) (pss_one (ps_ret (pe_bl))) pss_nil)
    (pss_cons (ps_set (i := 1) scPrime.nd rfl (Or.inl rfl) (pe_int))
    (pss_cons (ps_while PassesOwn.never (pt_cmpR op_le (pe_op op_mul (pv 1) (pv 1)) (pv 0) (nomark _)) (pss_cons (ps_if (pt_cmpR op_eq (pe_op op_modN (pv 0) (pv 1)) (pe_int) (nomark _)) (pss_one (ps_ret (pe_bl))) pss_nil)
    (pss_one (ps_aug (i := 1) scPrime.nd rfl (Or.inl rfl) (pe_int) ip_add))))
    (pss_one (ps_ret (pe_bl)))))), ?_⟩
  obtain ⟨hn, k⟩ := h
  walk_at "rd"
  refine cD (fun c => ?_) (fun c => ?_)
  · show Q (.bl false) H
    rw [low c]
    exact k
  refine ⟨fun m σ H' => ∃ d : Int, m = (200 - d).toNat ∧ σ = [some (.int n), some (.int d)] ∧ H' = H ∧ 2 ≤ d ∧ d ≤ 101 ∧ NoDiv n d, ⟨_, 2, rfl, rfl, rfl, K3.start n⟩, ?_⟩
  rintro m σ H' ⟨d, rfl, rfl, rfl, h2, h3, hd⟩
  refine ⟨_, rfl, _, rfl, _, _, rfl, rfl, .inl (sq_small (n := n) h2 h3), ?_⟩
  walk_at "rd"
  refine cD (fun q => ?_) (fun q => ?_)
  · refine ⟨fun σ' H'' => σ' = [some (.int n), some (.int (d + 1))] ∧ H'' = H' ∧ ¬ Int.fmod n d = 0, ?_, ?_⟩
    · rintro σ' H'' ⟨rfl, rfl, nz⟩
      exact ⟨(200 - (d + 1)).toNat, K3.less h2 q hn, d + 1, rfl, rfl, rfl, K3.turn hd nz h2 q hn⟩
    · refine ⟨_, rfl, _, rfl, _, _, rfl, rfl, (by show d ≠ 0; omega), ?_⟩
      walk_at "rd"
      refine cEq (fun z => ?_) (fun z => ?_)
      · show Q (.bl false) H'
        rw [found h2 q z]
        exact k
      · walk_at "rd"
        exact z
  · show Q (.bl true) H'
    rw [K3.out hd (by omega) h2 q]
    exact k
end
end K6
namespace K6
open PySem L2
open K1 K2 K3 K12
section
variable {P : Program} {w : World} {K : PySem.W.Frag} {mg : Str → Option Value} {base : Heap} {f : Addr} {fd : FuncData} {C_Ring C_Fractions C_Rests C_Order C_Degrees C_Tails C_Weights : Addr} {E_NoOrder E_NoPrime E_NoRing : Addr}
local macro_rules | `(tactic| walk_at "sd") => `(tactic| first
  | assumption | (dsimp only; omega) | (dsimp only; decide) | exact ⟨by decide, by decide⟩ | exact ⟨by decide, by decide, by decide⟩ | exact Or.inl ⟨by decide, by decide⟩ | exact ⟨by omega, by omega⟩ | exact Or.inl ⟨by omega, by omega⟩ | exact Or.inr ⟨by decide, by decide⟩ | exact Or.inr ⟨by omega, by omega⟩)
local macro_rules | `(tactic| walk_at "rd") => `(tactic| repeat first
  | refine ⟨_, rfl, ?_⟩ | refine ⟨_, _, rfl, rfl, ?_⟩ | refine And.intro rfl ?_ | refine And.intro (by walk_at "sd") ?_ | with_reducible refine iteT ?_ | with_reducible refine iteF ?_ | (apply ixT_of; assumption; rfl))
local macro_rules | `(tactic| walk_at "clo") => `(tactic| exact h)

theorem scFieldInit : FnScope ["self", "prime"] ["self", "prime"] (defScope s_Field___init__) := ⟨rfl, rfl, rfl, by decide +kernel, rfl, by decide +kernel, by decide +kernel⟩
set_option maxHeartbeats 4000000 in
theorem ok_FieldInit  (F : FunD K "__init__" "Field.__init__" s_Field___init__ .none f fd) (T : Txt K mg C_Ring C_Fractions C_Rests C_Order C_Degrees C_Tails C_Weights)   : FnOk P w K mg base CX0 1 f fd ["self", "prime"] (spField K) := by
  refine F.okN (k := 0) scFieldInit (fun vs H Q E h => ?_) (fun cdv A outer s H vs Q E hr h => ?_)
  · obtain ⟨p, C, dx, v, rfl, _⟩ := h
    rfl
  obtain ⟨p, C, dx, v, rfl, h⟩ := h
  refine ⟨_, (pss_one (ps_fld (pv 0) (pv 1) rfl)), ?_⟩
  obtain ⟨hp, hc, ha, k⟩ := h
  exact ⟨_, rfl, _, rfl, p, C, dx, [], rfl, hp, hc, ha, (by show 0 < 1000; decide), k⟩
end
end K6
namespace K6
open PySem L2
open K1 K2 K3 K12
section
variable {P : Program} {w : World} {K : PySem.W.Frag} {mg : Str → Option Value} {base : Heap} {f : Addr} {fd : FuncData} {C_Ring C_Fractions C_Rests C_Order C_Degrees C_Tails C_Weights : Addr} {E_NoOrder E_NoPrime E_NoRing : Addr}
local macro_rules | `(tactic| walk_at "sd") => `(tactic| first
  | assumption | (dsimp only; omega) | (dsimp only; decide) | exact ⟨by decide, by decide⟩ | exact ⟨by decide, by decide, by decide⟩ | exact Or.inl ⟨by decide, by decide⟩ | exact ⟨by omega, by omega⟩ | exact Or.inl ⟨by omega, by omega⟩ | exact Or.inr ⟨by decide, by decide⟩ | exact Or.inr ⟨by omega, by omega⟩)
local macro_rules | `(tactic| walk_at "rd") => `(tactic| repeat first
  | refine ⟨_, rfl, ?_⟩ | refine ⟨_, _, rfl, rfl, ?_⟩ | refine And.intro rfl ?_ | refine And.intro (by walk_at "sd") ?_ | with_reducible refine iteT ?_ | with_reducible refine iteF ?_ | (apply ixT_of; assumption; rfl))
local macro_rules | `(tactic| walk_at "clo") => `(tactic| exact h)

theorem scFracInit : FnScope ["self"] ["self"] (defScope s_Fractions___init__) := ⟨rfl, rfl, rfl, by decide +kernel, rfl, by decide +kernel, by decide +kernel⟩
set_option maxHeartbeats 4000000 in
theorem ok_FracInit  (F : FunD K "__init__" "Fractions.__init__" s_Fractions___init__ .none f fd) (T : Txt K mg C_Ring C_Fractions C_Rests C_Order C_Degrees C_Tails C_Weights) (q_FieldInit : CCal P w K mg base CX0 1 "Field" "__init__" ["self", "prime"] [] (spField K))  : FnOk P w K mg base CX0 2 f fd ["self"] (spFracInit C_Fractions) := by
  refine F.okN (k := 1) scFracInit (fun vs H Q E h => ?_) (fun cdv A outer s H vs Q E hr h => ?_)
  · obtain ⟨p, dx, rfl, _⟩ := h
    rfl
  obtain ⟨p, dx, rfl, h⟩ := h
  refine ⟨_, (pss_one (ps_expr (pe_cm q_FieldInit hr pass00 .nil ((pa_cons (pv 0) (pa_cons (pe_int) pa_nil)))))), ?_⟩
  obtain ⟨hp, k⟩ := h
  exact ⟨_, rfl, p, _, dx, _, rfl, hp, T.cl_Fractions, T.na_Fractions_prime, k⟩
end
end K6
namespace K6
open PySem L2
open K1 K2 K3 K12
section
variable {P : Program} {w : World} {K : PySem.W.Frag} {mg : Str → Option Value} {base : Heap} {f : Addr} {fd : FuncData} {C_Ring C_Fractions C_Rests C_Order C_Degrees C_Tails C_Weights : Addr} {E_NoOrder E_NoPrime E_NoRing : Addr}
local macro_rules | `(tactic| walk_at "sd") => `(tactic| first
  | assumption | (dsimp only; omega) | (dsimp only; decide) | exact ⟨by decide, by decide⟩ | exact ⟨by decide, by decide, by decide⟩ | exact Or.inl ⟨by decide, by decide⟩ | exact ⟨by omega, by omega⟩ | exact Or.inl ⟨by omega, by omega⟩ | exact Or.inr ⟨by decide, by decide⟩ | exact Or.inr ⟨by omega, by omega⟩)
local macro_rules | `(tactic| walk_at "rd") => `(tactic| repeat first
  | refine ⟨_, rfl, ?_⟩ | refine ⟨_, _, rfl, rfl, ?_⟩ | refine And.intro rfl ?_ | refine And.intro (by walk_at "sd") ?_ | with_reducible refine iteT ?_ | with_reducible refine iteF ?_ | (apply ixT_of; assumption; rfl))
local macro_rules | `(tactic| walk_at "clo") => `(tactic| exact h)

theorem scRestsInit : FnScope ["self", "prime"] ["self", "prime"] (defScope s_Rests___init__) := ⟨rfl, rfl, rfl, by decide +kernel, rfl, by decide +kernel, by decide +kernel⟩
set_option maxHeartbeats 4000000 in
theorem ok_RestsInit  (F : FunD K "__init__" "Rests.__init__" s_Rests___init__ .none f fd) (T : Txt K mg C_Ring C_Fractions C_Rests C_Order C_Degrees C_Tails C_Weights) (c_Prime : Cal P w K mg base CX0 1 "is_prime" ["number"] [] spPrime) (q_FieldInit : CCal P w K mg base CX0 1 "Field" "__init__" ["self", "prime"] [] (spField K)) (x_NoPrime : Exc K mg base "NoPrime" E_NoPrime)  : FnOk P w K mg base (CXe P w) 2 f fd ["self", "prime"] (spRests C_Rests E_NoPrime) := by
  refine F.okX (k := 1) scRestsInit (fun vs H Q E h => ?_) (fun cdv A outer s H vs Q E hr h => ?_)
  · obtain ⟨p, dx, n, rfl, _⟩ := h
    rfl
  obtain ⟨p, dx, n, rfl, h⟩ := h
  refine ⟨_, (pss_cons (ps_if (PW.pt (pw_or (pt_cmpR op_gt (pv 1) (pe_globI T.g_GREATEST_PRIME rfl) (nomark _)) (pw_or1 (pt_not (pt_val (pe_c c_Prime hr pass00 .nil ((pa_cons (pv 1) pa_nil)))))))) (pss_one (ps_rz x_NoPrime rfl rfl raisesTo_body ((pa_cons (pe_str) pa_nil)))) pss_nil)
    (pss_one (ps_expr (pe_cm q_FieldInit hr pass00 .nil ((pa_cons (pv 0) (pa_cons (pv 1) pa_nil))))))), ?_⟩
  obtain ⟨hp, k⟩ := h
  walk_at "rd"
  refine cD (fun c => ?_) (fun c => ?_)
  · walk_at "rd"
    refine ⟨(by show 1 ≤ sizeLine; decide), ?_⟩
    rcases k with ⟨q, _⟩ | ⟨_, q⟩
    · omega
    · exact q
  · refine ⟨_, rfl, n, rfl, by omega, _, rfl, ?_⟩
    rcases k with ⟨_, q1, q2⟩ | ⟨q1, q2⟩
    · rw [q1]
      refine iteF ?_
      exact ⟨_, rfl, _, rfl, p, C_Rests, dx, _, rfl, hp, T.cl_Rests, T.na_Rests_prime, q2⟩
    · have q : isP n = false := q1.resolve_left c
      rw [q]
      exact iteT ⟨(by show 1 ≤ sizeLine; decide), q2⟩
end
end K6
namespace K6
open PySem L2
open K1 K2 K3 K12
section
variable {P : Program} {w : World} {K : PySem.W.Frag} {mg : Str → Option Value} {base : Heap} {f : Addr} {fd : FuncData} {C_Ring C_Fractions C_Rests C_Order C_Degrees C_Tails C_Weights : Addr} {E_NoOrder E_NoPrime E_NoRing : Addr}
local macro_rules | `(tactic| walk_at "sd") => `(tactic| first
  | assumption | (dsimp only; omega) | (dsimp only; decide) | exact ⟨by decide, by decide⟩ | exact ⟨by decide, by decide, by decide⟩ | exact Or.inl ⟨by decide, by decide⟩ | exact ⟨by omega, by omega⟩ | exact Or.inl ⟨by omega, by omega⟩ | exact Or.inr ⟨by decide, by decide⟩ | exact Or.inr ⟨by omega, by omega⟩)
local macro_rules | `(tactic| walk_at "rd") => `(tactic| repeat first
  | refine ⟨_, rfl, ?_⟩ | refine ⟨_, _, rfl, rfl, ?_⟩ | refine And.intro rfl ?_ | refine And.intro (by walk_at "sd") ?_ | with_reducible refine iteT ?_ | with_reducible refine iteF ?_ | (apply ixT_of; assumption; rfl))
local macro_rules | `(tactic| walk_at "clo") => `(tactic| exact h)

theorem scShown : FnScope ["ring", "f", "text", "term", "below"] ["ring", "f"] (defScope s_shown) := ⟨rfl, rfl, rfl, by decide +kernel, rfl, by decide +kernel, by decide +kernel⟩
set_option maxHeartbeats 4000000 in
theorem ok_Shown  (F : FunD K "shown" "shown" s_shown .none f fd) (T : Txt K mg C_Ring C_Fractions C_Rests C_Order C_Degrees C_Tails C_Weights) (c_Bel : Cal P w K mg base CX0 1 "is_below_nought" ["field", "number"] [] (spBel C_Fractions C_Rests)) (c_Prt : Cal P w K mg base CX0 4 "part_shown" ["ring", "number", "term"] [] (spPrt C_Ring C_Fractions C_Rests C_Order C_Degrees C_Tails C_Weights)) (hord : ∀ (kd : Int) (ws : List Int), 0 ≤ kd → kd < 4 → Nn ws → (∀ x ∈ ws, x < 10 ^ 31) → ∃ C, OrdE P w K mg base C (AtK C_Order C_Degrees C_Tails C_Weights kd ws) (rkk kd ws) (fbK kd ws)) : FnOk P w K mg base CX0 8 f fd ["ring", "f"] (spShown C_Ring C_Fractions C_Rests C_Order C_Degrees C_Tails C_Weights) := by
  refine F.okN (k := 7) scShown (fun vs H Q E h => ?_) (fun cdv A outer s H vs Q E hr h => ?_)
  · obtain ⟨r, d, m, n, kd, ws, kvs, T0, rfl, _⟩ := h
    rfl
  obtain ⟨r, d, m, n, kd, ws, kvs, T0, rfl, h⟩ := h
  obtain ⟨C, O⟩ := hord kd ws h.2.1 h.2.2.1 h.2.2.2.1 h.2.2.2.2.1
  refine ⟨_, (pss_cons (ps_set (i := 2) scShown.nd rfl (Or.inl rfl) (pe_str))
    (pss_cons (ps_for PassesOwn.never rfl (pi_listK (K := K) rfl (pe_m O.fall (pe_fldK (K := K) rfl (pv 0) rfl) hr pass00 .nil ((pa_cons (pe_callTy (call_listD rfl) rfl T.b_list (by kernel_rfl) ((pa_cons (pv 1) pa_nil))) pa_nil)))) (pg_name (i := 3) scShown.nd rfl (Or.inl rfl)) (pss_cons (ps_set (i := 4) scShown.nd rfl (Or.inl rfl) (pe_c c_Bel hr pass00 .nil ((pa_cons (pe_fldK (K := K) rfl (pv 0) rfl) (pa_cons (pe_dget (uOne hr) (pv 1) (pv 3) (fun _ _ => rfl)) pa_nil)))))
    (pss_cons (ps_if (pt_cmpR op_eq (pv 2) (pe_str) (nomark _)) (pss_one (ps_set (i := 2) scShown.nd rfl (Or.inl rfl) (pe_ifExp (pt_val (pv 4)) (pe_str) (pe_str)))) (pss_one (ps_aug (i := 2) scShown.nd rfl (Or.inl rfl) (pe_ifExp (pt_val (pv 4)) (pe_str) (pe_str)) ip_addS)))
    (pss_one (ps_aug (i := 2) scShown.nd rfl (Or.inl rfl) (pe_c c_Prt hr pass00 .nil ((pa_cons (pv 0) (pa_cons (pe_dget (uOne hr) (pv 1) (pv 3) (fun _ _ => rfl)) (pa_cons (pv 3) pa_nil))))) ip_addS)))))
    (pss_cons (ps_if (pt_cmpR op_eq (pv 2) (pe_str) (nomark _)) (pss_one (ps_ret (pe_str))) pss_nil)
    (pss_one (ps_ret (pv 2)))))), ?_⟩
  obtain ⟨rg, k0, k4, wn, wb, hd, pf0, l64, k⟩ := h
  obtain ⟨⟨pf, po, ⟨dx, hr0⟩, hf, hk⟩, m1, m4⟩ := id rg
  obtain ⟨dO, fs, hq, nl⟩ := O.oC.ins hk
  refine ⟨_, rfl, r, C_Ring, dx, _, _, rfl, hr0, T.cl_Ring, T.na_Ring_order, rfl, po, dO, fs, rfl, hq, nl "falling" (by decide +kernel), _, rfl, d, kvs, rfl, .inl hd, fun l as hl la hi => ?_⟩
  have e1 : Same H (upd H l (.lst (as.map V.ref))) := Same.upd hl
  have tr := trms pf0 (fun p hp => hp) la hi
  have dts : ∀ t ∈ tms kvs, DrT m t := fun t ht => (pf0.tm ht).1
  refine ⟨po, l, _, tms kvs, rfl, O.oC.same e1 hk, upd_same, pimp (fun _ _ h => h.same e1) tr, fun t ht => drt_pws (dts t ht) m1 m4, by rw [List.length_map, la]; exact l64, fun D H2 ps e2 pp pw hD => ?_⟩
  have f2 := e1.trans e2
  have lz : (tms kvs).length = (as.map V.ref).length := by rw [List.length_map, la]; exact List.length_map _
  have st := srt_map (rk := rkk kd ws) lz pp pw
  have mem : ∀ p ∈ ps, Trm H2 p.1 p.2 ∧ p.1 ∈ tms kvs := fun p hp => by
    have h1 := pp.mem_iff.mp hp
    exact ⟨(pz tr p h1).same f2, (List.of_mem_zip h1).1⟩
  have nps : ps.length < 64 := by
    have := pp.length_eq
    rw [List.length_zip, ← lz, Nat.min_self] at this
    rw [this]
    show (kvs.map _).length < 64
    rw [List.length_map]; exact l64
  have all : ∀ t ∈ ps.map (·.1), NOk n (T0 t) ∧ SmT t ∧ t.length ≤ 4 := fun t ht => by
    obtain ⟨p, hp, rfl⟩ := List.mem_map.mp ht
    obtain ⟨a, b, _⟩ := pf0.tm (mem p hp).2
    exact ⟨b, a.sm, by have := a.1; omega⟩
  have tl : ∀ i, (txt n T0 ((ps.map (·.1)).take i)).length ≤ 20003 * 64 := fun i => by
    have h1 := txt_len (n := n) (T := T0) (ts := (ps.map (·.1)).take i) (fun t ht => all t (List.mem_of_mem_take ht)) ""
    have h2 : (("" : Str)).length = 0 := by decide +kernel
    have h3 : ((ps.map (·.1)).take i).length ≤ 64 := by rw [List.length_take, List.length_map]; omega
    rw [h2] at h1
    have h4 : 20003 * ((ps.map (·.1)).take i).length ≤ 20003 * 64 := Nat.mul_le_mul_left _ h3
    unfold txt
    omega
  refine ⟨D, rfl, ⟨_, SqL.of hD⟩, ?_⟩
  have lp : (ps.map (·.2)).length = ps.length := List.length_map _
  refine for_same (walk_list (K := K) (SqL.of hD)) (fun i σ => ∃ v3 v4, σ = [some (.ref r), some (.ref d), some (.str (txt n T0 ((ps.map (·.1)).take i))), v3, v4]) ⟨none, none, rfl⟩ ?_ ?_
  · rintro i x σ H3 hi ⟨v3, v4, rfl⟩ e3 hx
    rw [List.getElem?_map] at hx
    cases hp : ps[i]? with
    | none => rw [hp] at hx; cases hx
    | some p =>
      rw [hp] at hx
      injection hx with hx
      subst hx
      obtain ⟨⟨b, eb, hb⟩, mt⟩ := mem p (List.mem_of_getElem? hp)
      obtain ⟨dt, ok, v, hv, nv⟩ := pf0.tm mt
      have g3 := f2.trans e3
      have hb3 := e3 _ _ hb
      have nx := txt_take n T0 (ts := ps.map (·.1)) (i := i) (t := p.1) (by rw [List.getElem?_map, hp]; rfl)
      have ll := tl i
      generalize txt n T0 ((ps.map (·.1)).take i) = tx at nx ll
      have pl := prt_len ok dt.sm (by have := dt.1; omega)
      dsimp only
      rw [eb]
      have dg : DGet H3 d (.ref b) (some v) := by
        have := DGet.t (k := ky p.1) (g3 _ _ hd) (by rw [ky_kV]; exact hb3)
        rwa [hv] at this
      have atn : ∀ {H4 : Hp}, Same H H4 → AtN C_Fractions C_Rests n H4 pf := fun {H4} e => by
        unfold AtN at hf ⊢
        by_cases c : n = 0
        · rw [if_pos c] at hf ⊢
          obtain ⟨d, q⟩ := hf; exact ⟨d, e _ _ q⟩
        · rw [if_neg c] at hf ⊢
          obtain ⟨d, q⟩ := hf; exact ⟨d, e _ _ q.1, q.2⟩
      dsimp only [gName]
      refine ⟨_, rfl, r, C_Ring, dx, _, _, rfl, g3 _ _ hr0, T.cl_Ring, T.na_Ring_field, rfl, _, rfl, _, rfl, d, v, rfl, dg, pf, v, n, T0 p.1, rfl, atn g3, nv.same g3, ?_⟩
      dsimp only [gName]
      refine seq_mid (fun σ' H' => H' = H3 ∧ σ' = [some (.ref r), some (.ref d), some (.str (if tx = "" then (if blw n (T0 p.1) = true then ("-" : Str) else ("" : Str)) else tx ++ (if blw n (T0 p.1) = true then (" - " : Str) else (" + " : Str)))), some (.ref b), some (.bl (blw n (T0 p.1)))]) ?_ ?_
      · rintro σ' H' ⟨rfl, rfl⟩
        refine ⟨_, rfl, _, rfl, _, rfl, _, rfl, d, v, rfl, dg, _, rfl, r, v, b, m, n, kd, ws, p.1, T0 p.1, rfl, ⟨⟨pf, po, ⟨dx, g3 _ _ hr0⟩, atn g3, O.oC.same g3 hk⟩, m1, m4⟩, nv.same g3, ok, hb3, dt, fun H4 e4 => ⟨_, _, rfl, rfl, ?_, ⟨some (.ref b), some (.bl (blw n (T0 p.1))), ?_⟩, e3.trans e4⟩⟩
        · have h1 := stpT_len (s := tx) ok dt.sm (by have := dt.1; omega)
          unfold stpT at h1
          rw [Str.length_append] at h1
          exact zl _ (by omega)
        · rw [nx]; rfl
      · intro N hN
        refine ⟨_, rfl, rfl, _, rfl, ?_⟩
        by_cases c : tx = ""
        · have dc : decide (V.str tx = V.str "") = true := decide_eq_true (by rw [c])
          dsimp only
          rw [dc]
          refine iteT ⟨_, rfl, _, rfl, ?_⟩
          have q := hN _ H3 ⟨rfl, rfl⟩
          rw [if_pos c] at q
          cases cb : blw n (T0 p.1) with
          | true => rw [cb] at q; exact iteT q
          | false => rw [cb] at q; exact iteF q
        · have dc : decide (V.str tx = V.str "") = false := decide_eq_false (fun z => c (by injection z))
          dsimp only
          rw [dc]
          refine iteF ⟨_, rfl, _, rfl, _, rfl, ?_⟩
          have q := hN _ H3 ⟨rfl, rfl⟩
          rw [if_neg c] at q
          have e3' : (" - " : Str).length = 3 := by decide +kernel
          have e4' : (" + " : Str).length = 3 := by decide +kernel
          cases cb : blw n (T0 p.1) with
          | true => rw [cb] at q; exact iteT ⟨_, _, rfl, rfl, zl _ (by omega), q⟩
          | false => rw [cb] at q; exact iteF ⟨_, _, rfl, rfl, zl _ (by omega), q⟩
  · rintro σ H3 ⟨v3, v4, rfl⟩ e3
    have k2 := k H3 (ps.map (·.1)) (f2.trans e3) st
    have et : (ps.map (·.1)).take (ps.map (·.2)).length = ps.map (·.1) := List.take_of_length_le (by simp)
    rw [et]
    unfold fin at k2
    generalize txt n T0 (ps.map (·.1)) = tx at k2
    refine ⟨_, rfl, rfl, _, rfl, ?_⟩
    by_cases c : tx = ""
    · have dc : decide (V.str tx = V.str "") = true := decide_eq_true (by rw [c])
      rw [if_pos c] at k2
      dsimp only
      rw [dc]
      exact iteT k2
    · have dc : decide (V.str tx = V.str "") = false := decide_eq_false (fun z => c (by injection z))
      rw [if_neg c] at k2
      dsimp only
      rw [dc]
      exact iteF ⟨_, rfl, k2⟩
end
end K6
namespace K6
open PySem L2
open K1 K2 K3 K12
section
variable {P : Program} {w : World} {K : PySem.W.Frag} {mg : Str → Option Value} {base : Heap} {f : Addr} {fd : FuncData} {C_Ring C_Fractions C_Rests C_Order C_Degrees C_Tails C_Weights : Addr} {E_NoOrder E_NoPrime E_NoRing : Addr}
local macro_rules | `(tactic| walk_at "sd") => `(tactic| first
  | assumption | (dsimp only; omega) | (dsimp only; decide) | exact ⟨by decide, by decide⟩ | exact ⟨by decide, by decide, by decide⟩ | exact Or.inl ⟨by decide, by decide⟩ | exact ⟨by omega, by omega⟩ | exact Or.inl ⟨by omega, by omega⟩ | exact Or.inr ⟨by decide, by decide⟩ | exact Or.inr ⟨by omega, by omega⟩)
local macro_rules | `(tactic| walk_at "rd") => `(tactic| repeat first
  | refine ⟨_, rfl, ?_⟩ | refine ⟨_, _, rfl, rfl, ?_⟩ | refine And.intro rfl ?_ | refine And.intro (by walk_at "sd") ?_ | with_reducible refine iteT ?_ | with_reducible refine iteF ?_ | (apply ixT_of; assumption; rfl))
local macro_rules | `(tactic| walk_at "clo") => `(tactic| exact h)

theorem scCell : FnScope ["_law_script", "_law_k"] ["_law_script", "_law_k"] (defScope s__law_cell_at) := ⟨rfl, rfl, rfl, by decide +kernel, rfl, by decide +kernel, by decide +kernel⟩
set_option maxHeartbeats 4000000 in
theorem ok_Cell  (F : FunD K "_law_cell_at" "_law_cell_at" s__law_cell_at .none f fd) (T : Txt K mg C_Ring C_Fractions C_Rests C_Order C_Degrees C_Tails C_Weights)   : FnOk P w K mg base CX0 1 f fd ["_law_script", "_law_k"] (spCell K) := by
  refine F.okN (k := 0) scCell (fun vs H Q E h => ?_) (fun cdv A outer s H vs Q E hr h => ?_)
  · obtain ⟨a, ns, k, rfl, _⟩ := h
    rfl
  obtain ⟨a, ns, k, rfl, h⟩ := h
  refine ⟨_, (pss_cons (ps_if (pt_cmpR op_lt (pv 1) (pe_callB (call_lenK (K := K) rfl) rfl T.b_len PySem.boot_len ((pa_cons (pv 0) pa_nil))) (nomark _)) (pss_one (ps_ret (pe_ix (r := rIxL K) ix_list (pv 0) (pv 1) (fun _ _ => rfl)))) pss_nil)
    (pss_one (ps_ret (pe_int)))), ?_⟩
  obtain ⟨hS, h0, q⟩ := h
  have hl : (ns.map V.int).length = ns.length := List.length_map _
  refine ⟨_, rfl, _, rfl, a, _, rfl, .inl hS, ?_⟩
  walk_at "rd"
  refine cD (fun c => ?_) (fun c => ?_)
  · rw [hl] at c
    exact ⟨_, rfl, _, rfl, a, _, _, _, rfl, rfl, hS, atI_int h0 c, q⟩
  · rw [hl] at c
    have e : cellOf ns k = 0 := by unfold cellOf; rw [List.getD_eq_getElem?_getD, List.getElem?_eq_none (by omega)]; rfl
    rw [e] at q
    exact q
end
end K6
namespace K6
open PySem L2
open K1 K2 K3 K12
section
variable {P : Program} {w : World} {K : PySem.W.Frag} {mg : Str → Option Value} {base : Heap} {f : Addr} {fd : FuncData} {C_Ring C_Fractions C_Rests C_Order C_Degrees C_Tails C_Weights : Addr} {E_NoOrder E_NoPrime E_NoRing : Addr}
local macro_rules | `(tactic| walk_at "sd") => `(tactic| first
  | assumption | (dsimp only; omega) | (dsimp only; decide) | exact ⟨by decide, by decide⟩ | exact ⟨by decide, by decide, by decide⟩ | exact Or.inl ⟨by decide, by decide⟩ | exact ⟨by omega, by omega⟩ | exact Or.inl ⟨by omega, by omega⟩ | exact Or.inr ⟨by decide, by decide⟩ | exact Or.inr ⟨by omega, by omega⟩)
local macro_rules | `(tactic| walk_at "rd") => `(tactic| repeat first
  | refine ⟨_, rfl, ?_⟩ | refine ⟨_, _, rfl, rfl, ?_⟩ | refine And.intro rfl ?_ | refine And.intro (by walk_at "sd") ?_ | with_reducible refine iteT ?_ | with_reducible refine iteF ?_ | (apply ixT_of; assumption; rfl))
local macro_rules | `(tactic| walk_at "clo") => `(tactic| exact h)

theorem scLPrime : FnScope ["_law_number_here", "_law_by"] ["_law_number_here"] (defScope s__law_is_prime) := ⟨rfl, rfl, rfl, by decide +kernel, rfl, by decide +kernel, by decide +kernel⟩
set_option maxHeartbeats 4000000 in
theorem ok_LPrime  (F : FunD K "_law_is_prime" "_law_is_prime" s__law_is_prime .none f fd) (T : Txt K mg C_Ring C_Fractions C_Rests C_Order C_Degrees C_Tails C_Weights)   : FnOk P w K mg base CX0 1 f fd ["_law_number_here"] spPrime2 := by
  refine F.okN (k := 0) scLPrime (fun vs H Q E h => ?_) (fun cdv A outer s H vs Q E hr h => ?_)
  · obtain ⟨n, rfl, _⟩ := h
    rfl
  obtain ⟨n, rfl, h⟩ := h
  refine ⟨_, (pss_cons (ps_set (i := 1) scLPrime.nd rfl (Or.inl rfl) (pe_int))
    (pss_cons (ps_while PassesOwn.never (pt_cmpR op_le (pe_op op_mul (pv 1) (pv 1)) (pv 0) (nomark _)) (pss_cons (ps_if (pt_cmpR op_eq (pe_op op_modN (pv 0) (pv 1)) (pe_int) (nomark _)) (pss_one (ps_ret (pe_bl))) pss_nil)
    (pss_one (ps_set (i := 1) scLPrime.nd rfl (Or.inl rfl) (pe_op op_add (pv 1) (pe_int))))))
    (pss_one (ps_ret (pe_bl))))), ?_⟩
  obtain ⟨hn2, hn, k⟩ := h
  refine ⟨fun m σ H' => ∃ d : Int, m = (200 - d).toNat ∧ σ = [some (.int n), some (.int d)] ∧ H' = H ∧ 2 ≤ d ∧ d ≤ 101 ∧ NoDiv n d, ⟨_, 2, rfl, rfl, rfl, K3.start n⟩, ?_⟩
  rintro m σ H' ⟨d, rfl, rfl, rfl, h2, h3, hd⟩
  refine ⟨_, rfl, _, rfl, _, _, rfl, rfl, .inl (sq_small (n := n) h2 h3), ?_⟩
  walk_at "rd"
  refine cD (fun q => ?_) (fun q => ?_)
  · refine ⟨fun σ' H'' => σ' = [some (.int n), some (.int (d + 1))] ∧ H'' = H' ∧ ¬ Int.fmod n d = 0, ?_, ?_⟩
    · rintro σ' H'' ⟨rfl, rfl, nz⟩
      exact ⟨(200 - (d + 1)).toNat, K3.less h2 q hn, d + 1, rfl, rfl, rfl, K3.turn hd nz h2 q hn⟩
    · refine ⟨_, rfl, _, rfl, _, _, rfl, rfl, (by show d ≠ 0; omega), ?_⟩
      walk_at "rd"
      refine cEq (fun z => ?_) (fun z => ?_)
      · show Q (.bl false) H'
        rw [found h2 q z]
        exact k
      · walk_at "rd"
        exact z
  · show Q (.bl true) H'
    rw [K3.out hd hn2 h2 q]
    exact k
end
end K6
namespace K6
open PySem L2
open K1 K2 K3 K12
section
variable {P : Program} {w : World} {K : PySem.W.Frag} {mg : Str → Option Value} {base : Heap} {f : Addr} {fd : FuncData} {C_Ring C_Fractions C_Rests C_Order C_Degrees C_Tails C_Weights : Addr} {E_NoOrder E_NoPrime E_NoRing : Addr}
local macro_rules | `(tactic| walk_at "sd") => `(tactic| first
  | assumption | (dsimp only; omega) | (dsimp only; decide) | exact ⟨by decide, by decide⟩ | exact ⟨by decide, by decide, by decide⟩ | exact Or.inl ⟨by decide, by decide⟩ | exact ⟨by omega, by omega⟩ | exact Or.inl ⟨by omega, by omega⟩ | exact Or.inr ⟨by decide, by decide⟩ | exact Or.inr ⟨by omega, by omega⟩)
local macro_rules | `(tactic| walk_at "rd") => `(tactic| repeat first
  | refine ⟨_, rfl, ?_⟩ | refine ⟨_, _, rfl, rfl, ?_⟩ | refine And.intro rfl ?_ | refine And.intro (by walk_at "sd") ?_ | with_reducible refine iteT ?_ | with_reducible refine iteF ?_ | (apply ixT_of; assumption; rfl))
local macro_rules | `(tactic| walk_at "clo") => `(tactic| exact h)

theorem scLPr : FnScope ["_law_cell", "_law_number_here"] ["_law_cell"] (defScope s__law_prime) := ⟨rfl, rfl, rfl, by decide +kernel, rfl, by decide +kernel, by decide +kernel⟩
set_option maxHeartbeats 4000000 in
theorem ok_LPr  (F : FunD K "_law_prime" "_law_prime" s__law_prime .none f fd) (T : Txt K mg C_Ring C_Fractions C_Rests C_Order C_Degrees C_Tails C_Weights) (c_LPrime : Cal P w K mg base CX0 1 "_law_is_prime" ["_law_number_here"] [] spPrime2)  : FnOk P w K mg base CX0 2 f fd ["_law_cell"] spLPr := by
  refine F.okN (k := 1) scLPr (fun vs H Q E h => ?_) (fun cdv A outer s H vs Q E hr h => ?_)
  · obtain ⟨c, rfl, _⟩ := h
    rfl
  obtain ⟨c, rfl, h⟩ := h
  refine ⟨_, (pss_cons (ps_if (pt_cmpR op_eq (pe_op op_mod (pv 0) (pe_int)) (pe_int) (nomark _)) (pss_one (ps_ret (pe_int))) pss_nil)
    (pss_cons (ps_set (i := 1) scLPr.nd rfl (Or.inl rfl) (pe_op op_add (pe_int) (pe_op op_mod (pe_op op_fdiv (pv 0) (pe_int)) (pe_ix (r := rIxL K) ix_list (pe_lst ((pa_cons (pe_int) (pa_cons (pe_int) (pa_cons (pe_int) (pa_cons (pe_int) pa_nil)))))) (pe_op op_mod (pv 0) (pe_int)) (fun _ _ => rfl)))))
    (pss_cons (ps_while PassesOwn.never (pt_not (pt_val (pe_c c_LPrime hr pass00 .nil ((pa_cons (pv 1) pa_nil))))) (pss_one (ps_set (i := 1) scLPr.nd rfl (Or.inl rfl) (pe_op op_sub (pv 1) (pe_int)))))
    (pss_one (ps_ret (pv 1)))))), ?_⟩
  have k := h
  walk_at "rd"
  refine cEq (fun c0 => ?_) (fun c0 => ?_)
  · exact k 0 H (Same.refl _) (.inl rfl) (by decide)
  refine ⟨_, rfl, _, _, rfl, rfl, ⟨by decide, by decide⟩, (by show 4 ≤ sizeLine; decide), fun l hl => ?_⟩
  obtain ⟨v, v1, v2, hv⟩ := tab4 (r := c % 4) (by omega) (by omega)
  have e1 : Same H (upd H l (.lst [.int 1, .int 6, .int 120, .int 9972])) := Same.upd hl
  refine ⟨_, rfl, _, _, rfl, rfl, (by show (0 : Int) < 4; decide), l, _, _, _, rfl, rfl, SqL.of upd_same, hv, _, _, rfl, rfl, (by show 0 < v; omega), _, _, rfl, rfl, ?_⟩
  generalize upd H l (HO.lst [V.int 1, V.int 6, V.int 120, V.int 9972]) = H1 at e1
  have b0 := Int.emod_nonneg (c / 4) (show v ≠ 0 by omega)
  have b1 := Int.emod_lt_of_pos (c / 4) (show 0 < v by omega)
  refine ⟨fun m σ H' => ∃ n : Int, m = n.toNat ∧ σ = [some (.int c), some (.int n)] ∧ H' = H1 ∧ 2 ≤ n ∧ n ≤ 9973, ⟨_, _, rfl, rfl, rfl, by omega, by omega⟩, ?_⟩
  rintro m σ H' ⟨n, rfl, rfl, rfl, h2, hn⟩
  refine ⟨_, rfl, n, rfl, h2, hn, _, rfl, ?_⟩
  refine cNB (fun c1 => ?_) (fun c1 => ?_)
  · refine ⟨fun σ' H'' => σ' = [some (.int c), some (.int (n - 1))] ∧ H'' = H', ?_, ?_⟩
    · rintro σ' H'' ⟨rfl, rfl⟩
      have n2 : n ≠ 2 := fun z => by rw [z, two_pr] at c1; cases c1
      exact ⟨(n - 1).toNat, by omega, n - 1, rfl, rfl, rfl, by omega, by omega⟩
    · walk_at "rd"
      rfl
  · exact ⟨_, rfl, k n H' e1 (.inr (pr_of c1)) hn⟩
end
end K6
namespace K6
open PySem L2
open K1 K2 K3 K12
section
variable {P : Program} {w : World} {K : PySem.W.Frag} {mg : Str → Option Value} {base : Heap} {f : Addr} {fd : FuncData} {C_Ring C_Fractions C_Rests C_Order C_Degrees C_Tails C_Weights : Addr} {E_NoOrder E_NoPrime E_NoRing : Addr}
local macro_rules | `(tactic| walk_at "sd") => `(tactic| first
  | assumption | (dsimp only; omega) | (dsimp only; decide) | exact ⟨by decide, by decide⟩ | exact ⟨by decide, by decide, by decide⟩ | exact Or.inl ⟨by decide, by decide⟩ | exact ⟨by omega, by omega⟩ | exact Or.inl ⟨by omega, by omega⟩ | exact Or.inr ⟨by decide, by decide⟩ | exact Or.inr ⟨by omega, by omega⟩)
local macro_rules | `(tactic| walk_at "rd") => `(tactic| repeat first
  | refine ⟨_, rfl, ?_⟩ | refine ⟨_, _, rfl, rfl, ?_⟩ | refine And.intro rfl ?_ | refine And.intro (by walk_at "sd") ?_ | with_reducible refine iteT ?_ | with_reducible refine iteF ?_ | (apply ixT_of; assumption; rfl))
local macro_rules | `(tactic| walk_at "clo") => `(tactic| exact h)

theorem scLFld : FnScope ["_law_p"] ["_law_p"] (defScope s__law_field) := ⟨rfl, rfl, rfl, by decide +kernel, rfl, by decide +kernel, by decide +kernel⟩
set_option maxHeartbeats 4000000 in
theorem ok_LFld  (F : FunD K "_law_field" "_law_field" s__law_field .none f fd) (T : Txt K mg C_Ring C_Fractions C_Rests C_Order C_Degrees C_Tails C_Weights) (k_RestsInit : Mak P w K mg base (CXe P w) 2 "Rests" C_Rests ["self", "prime"] [] (spRests C_Rests E_NoPrime)) (k_FracInit : Mak P w K mg base CX0 2 "Fractions" C_Fractions ["self"] [] (spFracInit C_Fractions))  : FnOk P w K mg base CX0 5 f fd ["_law_p"] (spLFld C_Fractions C_Rests) := by
  refine F.okN (k := 4) scLFld (fun vs H Q E h => ?_) (fun cdv A outer s H vs Q E hr h => ?_)
  · obtain ⟨n, rfl, _⟩ := h
    rfl
  obtain ⟨n, rfl, h⟩ := h
  refine ⟨_, (pss_cons (ps_if (pt_cmpR op_gt (pv 0) (pe_int) (nomark _)) (pss_one (ps_ret (pe_mk k_RestsInit hr passF .nil ((pa_cons (pv 0) pa_nil))))) pss_nil)
    (pss_one (ps_ret (pe_mk0 k_FracInit hr pass00 .nil)))), ?_⟩
  obtain ⟨n2, n1, k⟩ := h
  walk_at "rd"
  refine cD (fun c => ?_) (fun c => ?_)
  · have hp : Pr n := n2.resolve_left (by omega)
    refine ⟨_, rfl, fun x dx nx ndx ne => ?_⟩
    refine ⟨x, dx, n, rfl, upd_same, .inl ⟨n1, isP_t hp, rfl, ?_⟩⟩
    refine k x _ (fun b o e => ?_) ?_
    · rw [upd_ne (ne_of_none e nx), upd_ne (ne_of_none e nx), upd_ne (ne_of_none e ndx)]
      exact e
    · unfold AtN
      rw [if_neg (by omega)]
      exact ⟨dx, upd_same, hp, n1⟩
  · have n0 : n = 0 := by
      rcases n2 with z | z
      · exact z
      · have := z.1; omega
    subst n0
    intro x dx nx ndx ne
    refine ⟨x, dx, rfl, upd_same, rfl, ?_⟩
    refine k x _ (fun b o e => ?_) ?_
    · rw [upd_ne (ne_of_none e nx), upd_ne (ne_of_none e nx), upd_ne (ne_of_none e ndx)]
      exact e
    · unfold AtN
      rw [if_pos rfl]
      exact ⟨dx, upd_same⟩
end
end K6
namespace K6
open PySem L2
open K1 K2 K3 K12
section
variable {P : Program} {w : World} {K : PySem.W.Frag} {mg : Str → Option Value} {base : Heap} {f : Addr} {fd : FuncData} {C_Ring C_Fractions C_Rests C_Order C_Degrees C_Tails C_Weights : Addr} {E_NoOrder E_NoPrime E_NoRing : Addr}
local macro_rules | `(tactic| walk_at "sd") => `(tactic| first
  | assumption | (dsimp only; omega) | (dsimp only; decide) | exact ⟨by decide, by decide⟩ | exact ⟨by decide, by decide, by decide⟩ | exact Or.inl ⟨by decide, by decide⟩ | exact ⟨by omega, by omega⟩ | exact Or.inl ⟨by omega, by omega⟩ | exact Or.inr ⟨by decide, by decide⟩ | exact Or.inr ⟨by omega, by omega⟩)
local macro_rules | `(tactic| walk_at "rd") => `(tactic| repeat first
  | refine ⟨_, rfl, ?_⟩ | refine ⟨_, _, rfl, rfl, ?_⟩ | refine And.intro rfl ?_ | refine And.intro (by walk_at "sd") ?_ | with_reducible refine iteT ?_ | with_reducible refine iteF ?_ | (apply ixT_of; assumption; rfl))
local macro_rules | `(tactic| walk_at "clo") => `(tactic| exact h)

theorem scWay : FnScope ["_law_cell", "_law_many", "_law_weights", "_law_left", "_law_k"] ["_law_cell", "_law_many"] (defScope s__law_way) := ⟨rfl, rfl, rfl, by decide +kernel, rfl, by decide +kernel, by decide +kernel⟩
set_option maxHeartbeats 4000000 in
theorem ok_Way  (F : FunD K "_law_way" "_law_way" s__law_way .none f fd) (T : Txt K mg C_Ring C_Fractions C_Rests C_Order C_Degrees C_Tails C_Weights)   : FnOk P w K mg base CX0 1 f fd ["_law_cell", "_law_many"] spWay := by
  refine F.okN (k := 0) scWay (fun vs H Q E h => ?_) (fun cdv A outer s H vs Q E hr h => ?_)
  · obtain ⟨c, m, rfl, _⟩ := h
    rfl
  obtain ⟨c, m, rfl, h⟩ := h
  refine ⟨_, (pss_cons (ps_set (i := 2) scWay.nd rfl (Or.inl rfl) (pe_lst (pa_nil)))
    (pss_cons (ps_set (i := 3) scWay.nd rfl (Or.inl rfl) (pe_op op_fdiv (pv 0) (pe_int)))
    (pss_cons (ps_for PassesOwn.never rfl (pi_range1 rfl T.b_range ((pa_cons (pv 1) pa_nil))) (pg_name (i := 4) scWay.nd rfl (Or.inl rfl)) (pss_cons (ps_expr (pe_bm PySem.F.plainAttrs_list PySem.F.slot_list_append PySem.F.type_list_append mt_append (pv 2) ((pa_cons (pe_ix (r := rIxL K) ix_list (pe_lst ((pa_cons (pe_int) (pa_cons (pe_int) (pa_cons (pe_int) (pa_cons (pe_int) (pa_cons (pe_op op_add (pe_op op_pow (pe_int) (pe_int)) (pe_int)) pa_nil))))))) (pe_op op_mod (pv 3) (pe_int)) (fun _ _ => rfl)) pa_nil))))
    (pss_one (ps_set (i := 3) scWay.nd rfl (Or.inl rfl) (pe_op op_fdiv (pv 3) (pe_int))))))
    (pss_one (ps_ret (pe_tup ((pa_cons (pe_op op_mod (pv 0) (pe_int)) (pa_cons (pv 2) pa_nil))))))))), ?_⟩
  obtain ⟨m4, k⟩ := h
  refine ⟨Nat.zero_le _, fun l hl => ?_⟩
  have e1 : Same H (upd H l (.lst [])) := Same.upd hl
  have hl1 : (upd H l (HO.lst [])) l = some (.lst []) := upd_same
  generalize upd H l (HO.lst []) = H1 at e1 hl1
  refine ⟨_, rfl, _, _, rfl, rfl, ⟨by decide, by decide⟩, _, rfl, (m : Int), rfl, by omega, by omega, ?_⟩
  have mt : ((m : Int)).toNat = m := by omega
  refine for_range (lo := 0) (n := (m : Int).toNat) (fun j σ H' => Same H H' ∧ ∃ (ws : List Int) (lf : Int) (v4 : Option V), σ = [some (.int c), some (.int m), some (.ref l), some (.int lf), v4] ∧ H' l = some (.lst (ws.map V.int)) ∧ ws.length = j ∧ Nn ws ∧ ∀ x ∈ ws, x < 10 ^ 31) ?_ ?_ ?_
  · exact ⟨e1, [], _, none, rfl, hl1, rfl, (fun x hx => by cases hx), fun x hx => by cases hx⟩
  · rintro j σ H3 hj ⟨e3, ws, lf, v4, rfl, hl3, lw, wn, wb⟩
    rw [mt] at hj
    unfold gName
    dsimp only
    obtain ⟨v, v0, v1, hv⟩ := tab5 (r := lf % 5) (by omega) (by omega)
    refine ⟨_, rfl, .inl ⟨rfl, _, SqL.of hl3⟩, ?_⟩
    refine ⟨_, _, rfl, rfl, ⟨by decide, by decide, by decide⟩, _, _, rfl, rfl, (by show 5 ≤ sizeLine; decide), fun q hq => ?_⟩
    have nql : l ≠ q := fun z => by rw [z, hq] at hl3; cases hl3
    have zz : (ws.map V.int).length < sizeLine := zlt _ (by rw [List.length_map]; omega)
    refine ⟨_, rfl, _, _, rfl, rfl, (by show (0 : Int) < 5; decide), q, _, _, _, rfl, rfl, SqL.of upd_same, hv, l, ws.map V.int, .int v, rfl, rfl, (by rw [upd_ne nql]; exact hl3), zz, ?_⟩
    refine ⟨_, rfl, _, _, rfl, rfl, ⟨by decide, by decide⟩, ?_⟩
    refine ⟨(e3.updR (e3.free hq)).updR hl, ws ++ [v], _, _, rfl, ?_, by rw [List.length_append, lw]; rfl, fun y hy => ?_, fun y hy => ?_⟩
    · rw [upd_same, List.map_append]; rfl
    · rcases List.mem_append.mp hy with hy | hy
      · exact wn y hy
      · rw [List.mem_singleton.mp hy]; exact v0
    · rcases List.mem_append.mp hy with hy | hy
      · exact wb y hy
      · rw [List.mem_singleton.mp hy]; exact v1
  · rintro σ H3 ⟨e3, ws, lf, v4, rfl, hl3, lw, wn, wb⟩
    rw [mt] at lw
    refine ⟨_, rfl, _, _, rfl, rfl, (by show (0 : Int) < 4; decide), _, rfl, (by show 2 ≤ sizeLine; decide), fun p hp => ?_⟩
    have e4 : Same H3 (upd H3 p (.tup [.int (c % 4), .ref l])) := Same.upd hp
    exact k p l ws _ (e3.trans e4) upd_same (e4 _ _ hl3) lw wn wb
end
end K6
namespace K6
open PySem L2
open K1 K2 K3 K12
section
variable {P : Program} {w : World} {K : PySem.W.Frag} {mg : Str → Option Value} {base : Heap} {f : Addr} {fd : FuncData} {C_Ring C_Fractions C_Rests C_Order C_Degrees C_Tails C_Weights : Addr} {E_NoOrder E_NoPrime E_NoRing : Addr}
local macro_rules | `(tactic| walk_at "sd") => `(tactic| first
  | assumption | (dsimp only; omega) | (dsimp only; decide) | exact ⟨by decide, by decide⟩ | exact ⟨by decide, by decide, by decide⟩ | exact Or.inl ⟨by decide, by decide⟩ | exact ⟨by omega, by omega⟩ | exact Or.inl ⟨by omega, by omega⟩ | exact Or.inr ⟨by decide, by decide⟩ | exact Or.inr ⟨by omega, by omega⟩)
local macro_rules | `(tactic| walk_at "rd") => `(tactic| repeat first
  | refine ⟨_, rfl, ?_⟩ | refine ⟨_, _, rfl, rfl, ?_⟩ | refine And.intro rfl ?_ | refine And.intro (by walk_at "sd") ?_ | with_reducible refine iteT ?_ | with_reducible refine iteF ?_ | (apply ixT_of; assumption; rfl))
local macro_rules | `(tactic| walk_at "clo") => `(tactic| exact h)

theorem scLOrd : FnScope ["_law_way_here"] ["_law_way_here"] (defScope s__law_order) := ⟨rfl, rfl, rfl, by decide +kernel, rfl, by decide +kernel, by decide +kernel⟩
set_option maxHeartbeats 4000000 in
theorem ok_LOrd  (F : FunD K "_law_order" "_law_order" s__law_order .none f fd) (T : Txt K mg C_Ring C_Fractions C_Rests C_Order C_Degrees C_Tails C_Weights) (k_WInit : Mak P w K mg base (CXe P w) 1 "Weights" C_Weights ["self", "weights"] [] (spWInit K C_Weights E_NoOrder))  : FnOk P w K mg base CX0 3 f fd ["_law_way_here"] (spLOrd K C_Order C_Degrees C_Tails C_Weights) := by
  refine F.okN (k := 2) scLOrd (fun vs H Q E h => ?_) (fun cdv A outer s H vs Q E hr h => ?_)
  · obtain ⟨r, l, kd, ws, rfl, _⟩ := h
    rfl
  obtain ⟨r, l, kd, ws, rfl, h⟩ := h
  refine ⟨_, (pss_cons (ps_if (pt_cmpR op_eq (pe_ix (r := rIxT K) ix_tup (pv 0) (pe_int) (fun _ _ => rfl)) (pe_int) (nomark _)) (pss_one (ps_ret (pe_new0 T.n0_Degrees T.mg_Degrees))) pss_nil)
    (pss_cons (ps_if (pt_cmpR op_eq (pe_ix (r := rIxT K) ix_tup (pv 0) (pe_int) (fun _ _ => rfl)) (pe_int) (nomark _)) (pss_one (ps_ret (pe_new0 T.n0_Tails T.mg_Tails))) pss_nil)
    (pss_cons (ps_if (pt_cmpR op_eq (pe_ix (r := rIxT K) ix_tup (pv 0) (pe_int) (fun _ _ => rfl)) (pe_int) (nomark _)) (pss_one (ps_ret (pe_mk k_WInit hr passF .nil ((pa_cons (pe_callTy (call_listK (K := K) rfl) rfl T.b_list (by kernel_rfl) ((pa_cons (pe_ix (r := rIxT K) ix_tup (pv 0) (pe_int) (fun _ _ => rfl)) pa_nil))) pa_nil))))) pss_nil)
    (pss_one (ps_ret (pe_new0 T.n0_Order T.mg_Order)))))), ?_⟩
  obtain ⟨hr0, k0, k4, hl, hlen, hn, q⟩ := h
  have mk : ∀ {C : Addr} {H : Hp} {p dx : Addr}, H p = none → H dx = none → Same H (upd (upd H dx (.own p)) p (.ins C dx [])) := fun {C H p dx} np ndx b o e => by
    rw [upd_ne (ne_of_none e np), upd_ne (ne_of_none e ndx)]
    exact e
  refine ⟨_, rfl, r, _, _, _, rfl, rfl, SqT.of hr0, atI0, ?_⟩
  refine ⟨rfl, _, rfl, cEq (fun c => ?_) (fun c => ?_)⟩
  · intro p dx np ndx ne
    exact q p _ (mk np ndx) (by unfold AtK; rw [if_neg (by omega), if_pos c]; exact ⟨dx, upd_same⟩)
  refine ⟨_, rfl, r, _, _, _, rfl, rfl, SqT.of hr0, atI0, ?_⟩
  refine ⟨rfl, _, rfl, cEq (fun c1 => ?_) (fun c1 => ?_)⟩
  · intro p dx np ndx ne
    exact q p _ (mk np ndx) (by unfold AtK; rw [if_neg (by omega), if_neg (by omega), if_pos c1]; exact ⟨dx, upd_same⟩)
  refine ⟨_, rfl, r, _, _, _, rfl, rfl, SqT.of hr0, atI0, ?_⟩
  refine ⟨rfl, _, rfl, cEq (fun c2 => ?_) (fun c2 => ?_)⟩
  · refine ⟨_, rfl, r, _, _, _, rfl, rfl, SqT.of hr0, atI1, l, _, rfl, .inl (SqL.of hl), fun m hm => ?_⟩
    have e1 : Same H (upd H m (HO.lst (ws.map V.int))) := Same.upd hm
    intro p dx np ndx ne
    have e2 := mk (C := C_Weights) np ndx
    refine ⟨p, dx, m, ws, rfl, upd_same, SqL.of (e2 _ _ upd_same), hlen, .inl ⟨hn, fun wt H' h1 h2 h3 => ⟨rfl, q p H' (fun b o e => h3 b o (e2 _ _ (e1 _ _ e)) (ne_of_none (e1 _ _ e) np)) ?_⟩⟩⟩
    unfold AtK
    rw [if_neg (by omega), if_neg (by omega), if_neg (by omega)]
    exact ⟨dx, wt, h1, h2⟩
  · intro p dx np ndx ne
    exact q p _ (mk np ndx) (by unfold AtK; rw [if_pos (by omega)]; exact ⟨dx, upd_same⟩)
end
end K6
namespace K6
open PySem L2
open K1 K2 K3 K12
section
variable {P : Program} {w : World} {K : PySem.W.Frag} {mg : Str → Option Value} {base : Heap} {f : Addr} {fd : FuncData} {C_Ring C_Fractions C_Rests C_Order C_Degrees C_Tails C_Weights : Addr} {E_NoOrder E_NoPrime E_NoRing : Addr}
local macro_rules | `(tactic| walk_at "sd") => `(tactic| first
  | assumption | (dsimp only; omega) | (dsimp only; decide) | exact ⟨by decide, by decide⟩ | exact ⟨by decide, by decide, by decide⟩ | exact Or.inl ⟨by decide, by decide⟩ | exact ⟨by omega, by omega⟩ | exact Or.inl ⟨by omega, by omega⟩ | exact Or.inr ⟨by decide, by decide⟩ | exact Or.inr ⟨by omega, by omega⟩)
local macro_rules | `(tactic| walk_at "rd") => `(tactic| repeat first
  | refine ⟨_, rfl, ?_⟩ | refine ⟨_, _, rfl, rfl, ?_⟩ | refine And.intro rfl ?_ | refine And.intro (by walk_at "sd") ?_ | with_reducible refine iteT ?_ | with_reducible refine iteF ?_ | (apply ixT_of; assumption; rfl))
local macro_rules | `(tactic| walk_at "clo") => `(tactic| exact h)

theorem scLRank : FnScope ["_law_way_here", "_law_term_here"] ["_law_way_here", "_law_term_here"] (defScope s__law_rank) := ⟨rfl, rfl, rfl, by decide +kernel, rfl, by decide +kernel, by decide +kernel⟩
set_option maxHeartbeats 4000000 in
theorem ok_LRank  (F : FunD K "_law_rank" "_law_rank" s__law_rank .none f fd) (T : Txt K mg C_Ring C_Fractions C_Rests C_Order C_Degrees C_Tails C_Weights)   : FnOk P w K mg base CX0 1 f fd ["_law_way_here", "_law_term_here"] spLRank := by
  refine F.okN (k := 0) scLRank (fun vs H Q E h => ?_) (fun cdv A outer s H vs Q E hr h => ?_)
  · obtain ⟨r, l, t, kd, ws, xs, rfl, _⟩ := h
    rfl
  obtain ⟨r, l, t, kd, ws, xs, rfl, h⟩ := h
  refine ⟨_, (pss_cons (ps_if (pt_cmpR op_eq (pe_ix (r := rIxT K) ix_tup (pv 0) (pe_int) (fun _ _ => rfl)) (pe_int) (nomark _)) (pss_one (ps_ret (pe_op op_catT (pe_tup ((pa_cons (pe_callB (call_sumK (K := K) rfl true rfl) rfl T.b_sum (by kernel_rfl) ((pa_cons (pv 1) pa_nil))) pa_nil))) (pv 1)))) pss_nil)
    (pss_cons (ps_if (pt_cmpR op_eq (pe_ix (r := rIxT K) ix_tup (pv 0) (pe_int) (fun _ _ => rfl)) (pe_int) (nomark _)) (pss_one (ps_ret (pe_op op_catT (pe_tup ((pa_cons (pe_callB (call_sumK (K := K) rfl true rfl) rfl T.b_sum (by kernel_rfl) ((pa_cons (pv 1) pa_nil))) pa_nil))) (pe_callTy (call_tupleK (K := K) rfl) rfl T.b_tuple (by kernel_rfl) ((pa_cons (pe_comp (N := ["_law_a"]) (Blk.plain (by decide +kernel) (by decide +kernel) rfl (by decide +kernel) nd__law_a) rfl (pi_revK (K := K) rfl rfl T.b_reversed ((pa_cons (pv 1) pa_nil))) (fun C0 s0 H0 fp0 => pg_one (i := 0) nd__law_a rfl rfl) (fun C0 s0 H0 fp0 => pts_nil) (fun C0 s0 H0 fp0 => pe_un un_neg (pv 0))) pa_nil)))))) pss_nil)
    (pss_cons (ps_if (pt_cmpR op_eq (pe_ix (r := rIxT K) ix_tup (pv 0) (pe_int) (fun _ _ => rfl)) (pe_int) (nomark _)) (pss_one (ps_ret (pe_op op_catT (pe_tup ((pa_cons (pe_callB (call_sumK (K := K) rfl false rfl) rfl T.b_sum (by kernel_rfl) ((pa_cons (pe_comp (N := ["_law_a", "_law_w"]) (Blk.plain (by decide +kernel) (by decide +kernel) rfl (by decide +kernel) nd__law_a__law_w) rfl (pi_zipK (K := K) rfl true false rfl T.b_zip ((pa_cons (pv 1) (pa_cons (pe_ix (r := rIxT K) ix_tup (pv 0) (pe_int) (fun _ _ => rfl)) pa_nil)))) (fun C0 s0 H0 fp0 => pg_two (K := K) rfl rfl rfl nd__law_a__law_w rfl rfl) (fun C0 s0 H0 fp0 => pts_nil) (fun C0 s0 H0 fp0 => pe_op op_mulB (pv 0) (pv 1))) pa_nil))) pa_nil))) (pv 1)))) pss_nil)
    (pss_one (ps_ret (pv 1)))))), ?_⟩
  obtain ⟨hr0, k0, k4, hl, wn, wb, ht, px, k⟩ := h
  refine ⟨_, rfl, r, _, _, _, rfl, rfl, SqT.of hr0, atI0, ?_⟩
  refine ⟨rfl, _, rfl, cEq (fun c => ?_) (fun c => ?_)⟩
  · refine ⟨_, rfl, t, xs, rfl, SqT.of ht, (by show 1 ≤ sizeLine; decide), fun l1 hl1 => ?_⟩
    have e1 : Same H (upd H l1 (HO.tup [V.int xs.sum])) := Same.upd hl1
    refine ⟨_, rfl, ?_⟩
    refine ⟨l1, t, _, _, rfl, rfl, SqT.of (upd_same), SqT.of (e1 _ _ ht), by simp, by simp; exact Nat.le_trans (Nat.add_le_add_left px.len 1) (by rw [sizeLine_eq]; decide), fun z => ?_, fun _ p hp => ?_⟩
    · exact absurd (List.map_eq_nil_iff.mp z) px.ne
    · refine k p _ (e1.updR (e1.free hp)) ?_
      rw [upd_same]
      unfold rkk
      rw [if_neg (by omega), if_neg (by omega), if_pos c]
      rfl
  refine ⟨_, rfl, r, _, _, _, rfl, rfl, SqT.of hr0, atI0, ?_⟩
  refine ⟨rfl, _, rfl, cEq (fun c1 => ?_) (fun c1 => ?_)⟩
  · refine ⟨_, rfl, t, xs, rfl, SqT.of ht, (by show 1 ≤ sizeLine; decide), fun l1 hl1 => ?_⟩
    have e1 : Same H (upd H l1 (HO.tup [V.int xs.sum])) := Same.upd hl1
    have ht1 : SqT K (upd H l1 (HO.tup [V.int xs.sum])) t (xs.map V.int) := SqT.of (e1 _ _ ht)
    have lm : (xs.map V.int).length = xs.length := List.length_map _
    show tComp _ _ _ _ _ _ _ _
    refine walk_comp (J := Itv K t (xs.map V.int).length) (H1 := upd H l1 (HO.tup [V.int xs.sum])) (walk_rvd ht1) (by rw [lm]; exact Nat.le_trans px.len (by decide)) ?_ (fun σ => σ.length = 1) (fun _ => true) (fun i => .int (-(xs.getD (xs.length - 1 - i) 0))) rfl ?_ fun D H' e hL => ?_
    · exact fun R hR => ⟨_, rfl, t, _, rfl, ht1, hR⟩
    · rintro i x σ' H2 hi hs e hx Ny Nn hy hn
      rw [lm] at hx
      rw [getD_of_map hx]
      match σ', hs with
      | [_], _ => exact ⟨_, rfl, _, rfl, hy _ _ rfl (Same.refl _) rfl⟩
    rw [List.filter_eq_self.mpr (fun _ _ => rfl), lm] at hL
    have eL : (List.range xs.length).map (fun i => V.int (-(xs.getD (xs.length - 1 - i) 0))) = (xs.reverse.map fun x => -x).map V.int := by
      rw [← rev_getD xs fun x => -x, List.map_map]; rfl
    rw [eL] at hL
    refine ⟨D, _, rfl, .inl ⟨SqL.of hL, fun m hm => ?_⟩⟩
    have e2 : Same H' (upd H' m (HO.tup ((xs.reverse.map fun x => -x).map V.int))) := Same.upd hm
    have e3 := (e1.trans e).trans e2
    refine ⟨l1, m, _, _, rfl, rfl, SqT.of (e2 _ _ (e _ _ upd_same)), SqT.of upd_same, by simp, by simp; exact Nat.le_trans (Nat.add_le_add_left px.len 1) (by rw [sizeLine_eq]; decide), fun z => ?_, fun _ p hp => ?_⟩
    · exact absurd (by simpa using z) px.ne
    · refine k p _ (e3.updR (e3.free hp)) ?_
      rw [upd_same]
      unfold rkk
      rw [if_neg (by omega), if_neg (by omega), if_neg (by omega)]
      rfl
  refine ⟨_, rfl, r, _, _, _, rfl, rfl, SqT.of hr0, atI0, ?_⟩
  refine ⟨rfl, _, rfl, cEq (fun c2 => ?_) (fun c2 => ?_)⟩
  · show tComp _ _ _ _ _ _ _ _
    refine zip_comp (K := K) (b1 := true) (b2 := false) (a := t) (b := l) (xs := xs) (ys := ws) yes2 (fun x y => .int (x * y)) (by rfl) ?_ (SqT.of ht) (SqL.of hl) (Nat.le_trans px.len (by decide)) ?_ ?_ fun D H' e hL => ?_
    · exact fun R hR => ⟨_, rfl, _, rfl, r, _, _, _, rfl, rfl, SqT.of hr0, atI1, hR⟩
    · exact fun _ _ _ h => h
    · exact fun i H' R _ h => ⟨_, rfl, _, rfl, _, _, rfl, rfl, ⟨bits px.nn px.hi i, bits wn wb i⟩, h⟩
    rw [zipV_W] at hL
    refine ⟨D, _, rfl, SqL.of hL, (by show 1 ≤ sizeLine; decide), fun l1 hl1 => ?_⟩
    have e1 : Same H' (upd H' l1 (HO.tup [V.int (wsum ws xs)])) := Same.upd hl1
    have e2 := e.trans e1
    refine ⟨_, rfl, ?_⟩
    refine ⟨l1, t, _, _, rfl, rfl, SqT.of (upd_same), SqT.of (e2 _ _ ht), by simp, by simp; exact Nat.le_trans (Nat.add_le_add_left px.len 1) (by rw [sizeLine_eq]; decide), fun z => ?_, fun _ p hp => ?_⟩
    · exact absurd (List.map_eq_nil_iff.mp z) px.ne
    · refine k p _ (e2.updR (e2.free hp)) ?_
      rw [upd_same]
      unfold rkk
      rw [if_neg (by omega), if_pos c2]
      rfl
  · refine ⟨_, rfl, k t H (Same.refl _) ?_⟩
    unfold rkk
    rw [if_pos (by omega)]
    exact ht
end
end K6
namespace K6
open PySem L2
open K1 K2 K3 K12
section
variable {P : Program} {w : World} {K : PySem.W.Frag} {mg : Str → Option Value} {base : Heap} {f : Addr} {fd : FuncData} {C_Ring C_Fractions C_Rests C_Order C_Degrees C_Tails C_Weights : Addr} {E_NoOrder E_NoPrime E_NoRing : Addr}
local macro_rules | `(tactic| walk_at "sd") => `(tactic| first
  | assumption | (dsimp only; omega) | (dsimp only; decide) | exact ⟨by decide, by decide⟩ | exact ⟨by decide, by decide, by decide⟩ | exact Or.inl ⟨by decide, by decide⟩ | exact ⟨by omega, by omega⟩ | exact Or.inl ⟨by omega, by omega⟩ | exact Or.inr ⟨by decide, by decide⟩ | exact Or.inr ⟨by omega, by omega⟩)
local macro_rules | `(tactic| walk_at "rd") => `(tactic| repeat first
  | refine ⟨_, rfl, ?_⟩ | refine ⟨_, _, rfl, rfl, ?_⟩ | refine And.intro rfl ?_ | refine And.intro (by walk_at "sd") ?_ | with_reducible refine iteT ?_ | with_reducible refine iteF ?_ | (apply ixT_of; assumption; rfl))
local macro_rules | `(tactic| walk_at "clo") => `(tactic| exact h)

theorem scRed : FnScope ["_law_top", "_law_bottom", "_law_one", "_law_other", "_law_rest"] ["_law_top", "_law_bottom"] (defScope s__law_reduced) := ⟨rfl, rfl, rfl, by decide +kernel, rfl, by decide +kernel, by decide +kernel⟩
set_option maxHeartbeats 4000000 in
theorem ok_Red  (F : FunD K "_law_reduced" "_law_reduced" s__law_reduced .none f fd) (T : Txt K mg C_Ring C_Fractions C_Rests C_Order C_Degrees C_Tails C_Weights)   : FnOk P w K mg base CX0 1 f fd ["_law_top", "_law_bottom"] spRed := by
  refine F.okN (k := 0) scRed (fun vs H Q E h => ?_) (fun cdv A outer s H vs Q E hr h => ?_)
  · obtain ⟨t, b, rfl, _⟩ := h
    rfl
  obtain ⟨t, b, rfl, h⟩ := h
  refine ⟨_, (pss_cons (ps_set (i := 2) scRed.nd rfl (Or.inl rfl) (pe_callB call_abs rfl T.b_abs (by kernel_rfl) ((pa_cons (pv 0) pa_nil))))
    (pss_cons (ps_set (i := 3) scRed.nd rfl (Or.inl rfl) (pv 1))
    (pss_cons (ps_while PassesOwn.never (pt_cmpR op_ne (pv 3) (pe_int) (nomark _)) (pss_cons (ps_set (i := 4) scRed.nd rfl (Or.inl rfl) (pe_op op_modN (pv 2) (pv 3)))
    (pss_cons (ps_set (i := 2) scRed.nd rfl (Or.inl rfl) (pv 3))
    (pss_one (ps_set (i := 3) scRed.nd rfl (Or.inl rfl) (pv 4))))))
    (pss_one (ps_ret (pe_tup ((pa_cons (pe_op op_fdivB (pv 0) (pv 2)) (pa_cons (pe_op op_fdivB (pv 1) (pv 2)) pa_nil))))))))), ?_⟩
  obtain ⟨b1, hb, ht, k⟩ := h
  walk_at "rd"
  refine ⟨fun m σ H' => ∃ (a' b' : Int) (v : Option V), m = b'.toNat ∧ σ = [some (.int t), some (.int b), some (.int a'), some (.int b'), v] ∧ H' = H ∧ 0 ≤ a' ∧ 0 ≤ b' ∧ Gc (if t < 0 then -t else t) b a' b', ⟨_, _, _, none, rfl, rfl, rfl, K1.start (by split <;> omega) (by omega)⟩, ?_⟩
  rintro m σ H' ⟨a', b', v, rfl, rfl, rfl, h1, h2, hg⟩
  walk_at "rd"
  refine cNe (fun c => ?_) (fun c => ?_)
  · refine ⟨fun σ' H'' => ∃ v', σ' = [some (.int t), some (.int b), some (.int b'), some (.int (a'.fmod b')), v'] ∧ H'' = H', ?_, ?_⟩
    · rintro σ' H'' ⟨v', rfl, rfl⟩
      exact ⟨(a'.fmod b').toNat, K1.less (by omega), _, _, v', rfl, rfl, rfl, K1.turn hg h1 (by omega)⟩
    · refine ⟨_, rfl, _, rfl, _, _, rfl, rfl, c, ?_⟩
      walk_at "rd"
      rfl
  · have eg : a' = gI t b := by
      rw [K1.out hg h1 c]
      have := gI_abs t b
      rwa [if_neg (by omega : ¬ b < 0)] at this
    have gp : 0 < gI t b := gI_pos (by omega)
    obtain ⟨g0, gb⟩ := gI_bd (a := t) (show b ≠ 0 by omega) hb
    subst eg
    refine ⟨_, rfl, _, rfl, _, _, rfl, rfl, ⟨g0, up gb (by decide)⟩, _, rfl, _, rfl, _, _, rfl, rfl, ⟨g0, up gb (by decide)⟩, (by show 2 ≤ sizeLine; decide), fun r hr => ?_⟩
    refine k r _ (Same.upd hr) ?_
    dsimp only
    rw [upd_same, Int.fdiv_eq_ediv_of_nonneg _ (Int.le_of_lt gp), Int.fdiv_eq_ediv_of_nonneg _ (Int.le_of_lt gp)]
end
end K6
namespace K6
open PySem L2
open K1 K2 K3 K12
section
variable {P : Program} {w : World} {K : PySem.W.Frag} {mg : Str → Option Value} {base : Heap} {f : Addr} {fd : FuncData} {C_Ring C_Fractions C_Rests C_Order C_Degrees C_Tails C_Weights : Addr} {E_NoOrder E_NoPrime E_NoRing : Addr}
local macro_rules | `(tactic| walk_at "sd") => `(tactic| first
  | assumption | (dsimp only; omega) | (dsimp only; decide) | exact ⟨by decide, by decide⟩ | exact ⟨by decide, by decide, by decide⟩ | exact Or.inl ⟨by decide, by decide⟩ | exact ⟨by omega, by omega⟩ | exact Or.inl ⟨by omega, by omega⟩ | exact Or.inr ⟨by decide, by decide⟩ | exact Or.inr ⟨by omega, by omega⟩)
local macro_rules | `(tactic| walk_at "rd") => `(tactic| repeat first
  | refine ⟨_, rfl, ?_⟩ | refine ⟨_, _, rfl, rfl, ?_⟩ | refine And.intro rfl ?_ | refine And.intro (by walk_at "sd") ?_ | with_reducible refine iteT ?_ | with_reducible refine iteF ?_ | (apply ixT_of; assumption; rfl))
local macro_rules | `(tactic| walk_at "clo") => `(tactic| exact h)

theorem scNum : FnScope ["_law_p", "_law_top", "_law_bottom"] ["_law_p", "_law_top", "_law_bottom"] (defScope s__law_number) := ⟨rfl, rfl, rfl, by decide +kernel, rfl, by decide +kernel, by decide +kernel⟩
set_option maxHeartbeats 4000000 in
theorem ok_Num  (F : FunD K "_law_number" "_law_number" s__law_number .none f fd) (T : Txt K mg C_Ring C_Fractions C_Rests C_Order C_Degrees C_Tails C_Weights) (c_Red : Cal P w K mg base CX0 1 "_law_reduced" ["_law_top", "_law_bottom"] [] spRed)  : FnOk P w K mg base CX0 2 f fd ["_law_p", "_law_top", "_law_bottom"] spNum := by
  refine F.okN (k := 1) scNum (fun vs H Q E h => ?_) (fun cdv A outer s H vs Q E hr h => ?_)
  · obtain ⟨n, t, b, rfl, _⟩ := h
    rfl
  obtain ⟨n, t, b, rfl, h⟩ := h
  refine ⟨_, (pss_cons (ps_if (pt_cmpR op_gt (pv 0) (pe_int) (nomark _)) (pss_one (ps_ret (pe_op op_mod (pv 1) (pv 0)))) pss_nil)
    (pss_one (ps_ret (pe_c c_Red hr pass00 .nil ((pa_cons (pv 1) (pa_cons (pv 2) pa_nil))))))), ?_⟩
  obtain ⟨n2, b1, hb, ht, k⟩ := h
  walk_at "rd"
  refine cD (fun c => ?_) (fun c => ?_)
  · refine ⟨_, rfl, _, rfl, _, _, rfl, rfl, (by show 0 < n; omega), ?_⟩
    have n0 : n ≠ 0 := by omega
    exact k _ H (Same.refl _) ((nv_n n0).mpr (by unfold numZ; rw [if_neg n0]))
  · have n0 : n = 0 := by
      rcases n2 with z | z
      · exact z
      · have := z.1; omega
    subst n0
    refine ⟨_, rfl, _, rfl, t, b, rfl, b1, hb, ht, fun r H' e hr' => ?_⟩
    exact k _ H' e (nv_0.mpr ⟨r, rfl, by unfold numZ; rw [if_pos rfl]; exact hr'⟩)
end
end K6
namespace K6
open PySem L2
open K1 K2 K3 K12
section
variable {P : Program} {w : World} {K : PySem.W.Frag} {mg : Str → Option Value} {base : Heap} {f : Addr} {fd : FuncData} {C_Ring C_Fractions C_Rests C_Order C_Degrees C_Tails C_Weights : Addr} {E_NoOrder E_NoPrime E_NoRing : Addr}
local macro_rules | `(tactic| walk_at "sd") => `(tactic| first
  | assumption | (dsimp only; omega) | (dsimp only; decide) | exact ⟨by decide, by decide⟩ | exact ⟨by decide, by decide, by decide⟩ | exact Or.inl ⟨by decide, by decide⟩ | exact ⟨by omega, by omega⟩ | exact Or.inl ⟨by omega, by omega⟩ | exact Or.inr ⟨by decide, by decide⟩ | exact Or.inr ⟨by omega, by omega⟩)
local macro_rules | `(tactic| walk_at "rd") => `(tactic| repeat first
  | refine ⟨_, rfl, ?_⟩ | refine ⟨_, _, rfl, rfl, ?_⟩ | refine And.intro rfl ?_ | refine And.intro (by walk_at "sd") ?_ | with_reducible refine iteT ?_ | with_reducible refine iteF ?_ | (apply ixT_of; assumption; rfl))
local macro_rules | `(tactic| walk_at "clo") => `(tactic| exact h)

theorem scDrw : FnScope ["_law_p", "_law_cell", "_law_most"] ["_law_p", "_law_cell", "_law_most"] (defScope s__law_drawn) := ⟨rfl, rfl, rfl, by decide +kernel, rfl, by decide +kernel, by decide +kernel⟩
set_option maxHeartbeats 4000000 in
theorem ok_Drw  (F : FunD K "_law_drawn" "_law_drawn" s__law_drawn .none f fd) (T : Txt K mg C_Ring C_Fractions C_Rests C_Order C_Degrees C_Tails C_Weights) (c_Num : Cal P w K mg base CX0 2 "_law_number" ["_law_p", "_law_top", "_law_bottom"] [] spNum)  : FnOk P w K mg base CX0 3 f fd ["_law_p", "_law_cell", "_law_most"] spDrw := by
  refine F.okN (k := 2) scDrw (fun vs H Q E h => ?_) (fun cdv A outer s H vs Q E hr h => ?_)
  · obtain ⟨n, c, mo, rfl, _⟩ := h
    rfl
  obtain ⟨n, c, mo, rfl, h⟩ := h
  refine ⟨_, (pss_cons (ps_if (pt_cmpR op_eq (pe_op op_mod (pv 1) (pe_int)) (pe_int) (nomark _)) (pss_one (ps_ret (pe_c c_Num hr pass00 .nil ((pa_cons (pv 0) (pa_cons (pe_op op_sub (pe_int) (pe_op op_mul (pe_int) (pe_op op_mod (pe_op op_fdiv (pv 1) (pe_int)) (pe_int)))) (pa_cons (pe_int) pa_nil))))))) pss_nil)
    (pss_cons (ps_if (pt_cmpR op_eq (pe_op op_mod (pv 1) (pe_int)) (pe_int) (nomark _)) (pss_one (ps_ret (pe_c c_Num hr pass00 .nil ((pa_cons (pv 0) (pa_cons (pe_op op_sub (pe_op op_mod (pe_op op_fdiv (pv 1) (pe_int)) (pe_op op_mul (pe_int) (pv 2))) (pv 2)) (pa_cons (pe_op op_add (pe_int) (pe_op op_mod (pv 1) (pe_op op_pow (pe_int) (pe_int)))) pa_nil))))))) pss_nil)
    (pss_one (ps_ret (pe_c c_Num hr pass00 .nil ((pa_cons (pv 0) (pa_cons (pe_op op_sub (pe_op op_mod (pv 1) (pe_int)) (pe_int)) (pa_cons (pe_op op_add (pe_int) (pe_op op_mod (pe_op op_fdiv (pv 1) (pe_int)) (pe_int))) pa_nil))))))))), ?_⟩
  obtain ⟨em, n2, n1, k⟩ := h
  have fin : ∀ (t b : Int), 1 ≤ b → b.natAbs < 2 ^ 400 → t.natAbs < 2 ^ 400 → ∀ v H', Same H H' → NV n H' v (numZ n t b) → Q v H' := fun t b b1 hb ht v H' e nv =>
    k v _ H' e nv (numZ_ok n2 n1 b1 hb ht (gI_pos (by omega)))
  walk_at "rd"
  refine cEq (fun c0 => ?_) (fun c0 => ?_)
  · walk_at "rd"
    exact ⟨n, _, _, rfl, n2, by decide, by decide, bd400 (by omega), fin _ _ (by decide) (by decide) (bd400 (by omega))⟩
  walk_at "rd"
  refine cEq (fun c1 => ?_) (fun c1 => ?_)
  · have q1 : (0 : Int) < 2 * mo := by rw [em, e59]; decide
    have q2 : (0 : Int) < 10 ^ (Int.toNat 20) := by rw [e20]; decide
    have r1 := Int.emod_nonneg (c / 5) (Int.ne_of_gt q1)
    have r2 := Int.emod_lt_of_pos (c / 5) q1
    have r3 := Int.emod_nonneg c (Int.ne_of_gt q2)
    have r4 := Int.emod_lt_of_pos c q2
    have tb : (c / 5 % (2 * mo) - mo).natAbs < 2 ^ 400 := bd400 (by rw [em, e59] at r1 r2 ⊢; omega)
    have bb : (1 + c % 10 ^ (Int.toNat 20)).natAbs < 2 ^ 400 := bd400 (by rw [e20] at r3 r4 ⊢; omega)
    refine ⟨_, rfl, _, rfl, _, _, rfl, rfl, ⟨by decide, by decide⟩, _, rfl, _, _, rfl, rfl, .inl ⟨by decide, by decide⟩, _, _, rfl, rfl, q1, _, rfl, _, _, rfl, rfl, ?_⟩
    refine ⟨_, rfl, _, _, rfl, rfl, ⟨by decide, by decide, by decide⟩, _, _, rfl, rfl, q2, _, _, rfl, rfl, n, _, _, rfl, n2, by omega, bb, tb, fin _ _ (by omega) bb tb⟩
  · walk_at "rd"
    exact ⟨n, _, _, rfl, n2, by show 1 ≤ 1 + c / 19 % 4; omega, bd400 (by omega), bd400 (by omega), fin _ _ (by omega) (bd400 (by omega)) (bd400 (by omega))⟩
end
end K6
namespace K6
open PySem L2
open K1 K2 K3 K12
section
variable {P : Program} {w : World} {K : PySem.W.Frag} {mg : Str → Option Value} {base : Heap} {f : Addr} {fd : FuncData} {C_Ring C_Fractions C_Rests C_Order C_Degrees C_Tails C_Weights : Addr} {E_NoOrder E_NoPrime E_NoRing : Addr}
local macro_rules | `(tactic| walk_at "sd") => `(tactic| first
  | assumption | (dsimp only; omega) | (dsimp only; decide) | exact ⟨by decide, by decide⟩ | exact ⟨by decide, by decide, by decide⟩ | exact Or.inl ⟨by decide, by decide⟩ | exact ⟨by omega, by omega⟩ | exact Or.inl ⟨by omega, by omega⟩ | exact Or.inr ⟨by decide, by decide⟩ | exact Or.inr ⟨by omega, by omega⟩)
local macro_rules | `(tactic| walk_at "rd") => `(tactic| repeat first
  | refine ⟨_, rfl, ?_⟩ | refine ⟨_, _, rfl, rfl, ?_⟩ | refine And.intro rfl ?_ | refine And.intro (by walk_at "sd") ?_ | with_reducible refine iteT ?_ | with_reducible refine iteF ?_ | (apply ixT_of; assumption; rfl))
local macro_rules | `(tactic| walk_at "clo") => `(tactic| exact h)

theorem scTrm : FnScope ["_law_many", "_law_cell", "_law_most", "_law_powers", "_law_left", "_law_k"] ["_law_many", "_law_cell", "_law_most"] (defScope s__law_term) := ⟨rfl, rfl, rfl, by decide +kernel, rfl, by decide +kernel, by decide +kernel⟩
set_option maxHeartbeats 4000000 in
theorem ok_Trm  (F : FunD K "_law_term" "_law_term" s__law_term .none f fd) (T : Txt K mg C_Ring C_Fractions C_Rests C_Order C_Degrees C_Tails C_Weights)   : FnOk P w K mg base CX0 1 f fd ["_law_many", "_law_cell", "_law_most"] spTrm := by
  refine F.okN (k := 0) scTrm (fun vs H Q E h => ?_) (fun cdv A outer s H vs Q E hr h => ?_)
  · obtain ⟨m, c, rfl, _⟩ := h
    rfl
  obtain ⟨m, c, rfl, h⟩ := h
  refine ⟨_, (pss_cons (ps_set (i := 3) scTrm.nd rfl (Or.inl rfl) (pe_lst (pa_nil)))
    (pss_cons (ps_set (i := 4) scTrm.nd rfl (Or.inl rfl) (pv 1))
    (pss_cons (ps_for PassesOwn.never rfl (pi_range1 rfl T.b_range ((pa_cons (pv 0) pa_nil))) (pg_name (i := 5) scTrm.nd rfl (Or.inl rfl)) (pss_cons (ps_expr (pe_bm PySem.F.plainAttrs_list PySem.F.slot_list_append PySem.F.type_list_append mt_append (pv 3) ((pa_cons (pe_op op_mod (pv 4) (pe_int)) pa_nil))))
    (pss_one (ps_set (i := 4) scTrm.nd rfl (Or.inl rfl) (pe_op op_fdiv (pv 4) (pe_int))))))
    (pss_cons (ps_if (pt_cmpR op_eq (pe_op op_mod (pv 1) (pe_int)) (pe_int) (nomark _)) (pss_one (ps_asg (pe_op op_mod (pe_op op_fdiv (pv 1) (pe_int)) (pe_op op_add (pv 2) (pe_int))) (pg_sub (pv 3) (pe_op op_mod (pe_op op_fdiv (pv 1) (pe_int)) (pv 0)) set_list))) pss_nil)
    (pss_one (ps_ret (pe_callTy (call_tupleK (K := K) rfl) rfl T.b_tuple (by kernel_rfl) ((pa_cons (pv 3) pa_nil))))))))), ?_⟩
  obtain ⟨m1, m4, k⟩ := h
  refine ⟨Nat.zero_le _, fun l hl => ?_⟩
  have e1 : Same H (upd H l (.lst [])) := Same.upd hl
  have hl1 : (upd H l (HO.lst [])) l = some (.lst []) := upd_same
  generalize upd H l (HO.lst []) = H1 at e1 hl1
  refine ⟨_, rfl, _, rfl, (m : Int), rfl, by omega, by omega, ?_⟩
  have mt : ((m : Int)).toNat = m := by omega
  refine for_range (lo := 0) (n := (m : Int).toNat) (fun j σ H' => Same H H' ∧ ∃ (ps : List Int) (lf : Int) (v5 : Option V), σ = [some (.int m), some (.int c), some (.int 200), some (.ref l), some (.int lf), v5] ∧ H' l = some (.lst (ps.map V.int)) ∧ ps.length = j ∧ ∀ x ∈ ps, 0 ≤ x ∧ x ≤ 2) ?_ ?_ ?_
  · exact ⟨e1, [], _, none, rfl, hl1, rfl, fun x hx => by cases hx⟩
  · rintro j σ H3 hj ⟨e3, ps, lf, v5, rfl, hl3, lw, wb⟩
    rw [mt] at hj
    unfold gName
    dsimp only
    have zz : (ps.map V.int).length < sizeLine := zlt _ (by rw [List.length_map]; omega)
    refine ⟨_, rfl, .inl ⟨rfl, _, SqL.of hl3⟩, ?_⟩
    refine ⟨_, rfl, _, _, rfl, rfl, (by show (0 : Int) < 3; decide), l, ps.map V.int, _, rfl, rfl, hl3, zz, ?_⟩
    refine ⟨_, rfl, _, _, rfl, rfl, ⟨by decide, by decide⟩, ?_⟩
    refine ⟨e3.updR hl, ps ++ [lf % 3], _, _, rfl, ?_, by rw [List.length_append, lw]; rfl, fun y hy => ?_⟩
    · rw [upd_same, List.map_append]; rfl
    · rcases List.mem_append.mp hy with hy | hy
      · exact wb y hy
      · rw [List.mem_singleton.mp hy]; omega
  · rintro σ H3 ⟨e3, ps, lf, v5, rfl, hl3, lw, wb⟩
    rw [mt] at lw
    have lp : (ps.map V.int).length = m := by rw [List.length_map]; exact lw
    dsimp only
    refine seq_mid (fun σ' H' => Same H H' ∧ σ' = [some (.int m), some (.int c), some (.int 200), some (.ref l), some (.int lf), v5] ∧ ∃ qs : List Int, H' l = some (.lst (qs.map V.int)) ∧ DrT m qs) ?_ ?_
    · rintro σ' H' ⟨e, rfl, qs, hq, dt⟩
      refine ⟨_, rfl, l, _, rfl, .inl ⟨SqL.of hq, fun p hp => ?_⟩⟩
      exact k p qs _ (e.free hp) (e.trans (Same.upd hp)) upd_same dt
    intro N hN
    refine ⟨_, rfl, _, _, rfl, rfl, (by show (0 : Int) < 8; decide), rfl, _, rfl, cEq (fun c0 => ?_) (fun c0 => ?_)⟩
    · have b0 := Int.emod_nonneg (c / 8) (show (m : Int) ≠ 0 by omega)
      have b1 := Int.emod_lt_of_pos (c / 8) (show (0 : Int) < m by omega)
      refine ⟨_, rfl, _, _, rfl, rfl, ⟨by decide, by decide⟩, _, rfl, _, _, rfl, rfl, _, _, rfl, rfl, (by show (0 : Int) < 200 + 1; decide), ?_⟩
      refine ⟨_, rfl, _, rfl, _, _, rfl, rfl, ⟨by decide, by decide⟩, _, rfl, _, _, rfl, rfl, (by show (0 : Int) < m; omega), l, ps.map V.int, _, (c / 8 % (m : Int)).toNat, rfl, rfl, hl3, ?_, ?_⟩
      · unfold ixN
        rw [lp, if_pos b0, if_pos b1]
      · refine hN _ _ ⟨e3.updR hl, rfl, ps.set (c / 8 % (m : Int)).toNat (c / 32 % (200 + 1)), ?_, drt_set lw wb (by omega) (by omega)⟩
        rw [upd_same, List.map_set]
    · exact hN _ _ ⟨e3, rfl, ps, hl3, drt_low lw wb⟩
end
end K6
namespace K6
open PySem L2
open K1 K2 K3 K12
section
variable {P : Program} {w : World} {K : PySem.W.Frag} {mg : Str → Option Value} {base : Heap} {f : Addr} {fd : FuncData} {C_Ring C_Fractions C_Rests C_Order C_Degrees C_Tails C_Weights : Addr} {E_NoOrder E_NoPrime E_NoRing : Addr}
local macro_rules | `(tactic| walk_at "sd") => `(tactic| first
  | assumption | (dsimp only; omega) | (dsimp only; decide) | exact ⟨by decide, by decide⟩ | exact ⟨by decide, by decide, by decide⟩ | exact Or.inl ⟨by decide, by decide⟩ | exact ⟨by omega, by omega⟩ | exact Or.inl ⟨by omega, by omega⟩ | exact Or.inr ⟨by decide, by decide⟩ | exact Or.inr ⟨by omega, by omega⟩)
local macro_rules | `(tactic| walk_at "rd") => `(tactic| repeat first
  | refine ⟨_, rfl, ?_⟩ | refine ⟨_, _, rfl, rfl, ?_⟩ | refine And.intro rfl ?_ | refine And.intro (by walk_at "sd") ?_ | with_reducible refine iteT ?_ | with_reducible refine iteF ?_ | (apply ixT_of; assumption; rfl))
local macro_rules | `(tactic| walk_at "clo") => `(tactic| exact h)

theorem scPts : FnScope ["_law_p", "_law_many", "_law_cells", "_law_most", "_law_highest", "_law_f", "_law_k", "_law_number_here", "_law_term_here"] ["_law_p", "_law_many", "_law_cells", "_law_most", "_law_highest"] (defScope s__law_parts) := ⟨rfl, rfl, rfl, by decide +kernel, rfl, by decide +kernel, by decide +kernel⟩
set_option maxHeartbeats 4000000 in
theorem ok_Pts  (F : FunD K "_law_parts" "_law_parts" s__law_parts .none f fd) (T : Txt K mg C_Ring C_Fractions C_Rests C_Order C_Degrees C_Tails C_Weights) (c_Drw : Cal P w K mg base CX0 3 "_law_drawn" ["_law_p", "_law_cell", "_law_most"] [] spDrw) (c_Cell : Cal P w K mg base CX0 1 "_law_cell_at" ["_law_script", "_law_k"] [] (spCell K)) (c_Trm : Cal P w K mg base CX0 1 "_law_term" ["_law_many", "_law_cell", "_law_most"] [] spTrm) (c_Num : Cal P w K mg base CX0 2 "_law_number" ["_law_p", "_law_top", "_law_bottom"] [] spNum)  : FnOk P w K mg base CX0 4 f fd ["_law_p", "_law_many", "_law_cells", "_law_most", "_law_highest"] (spPts K) := by
  refine F.okN (k := 3) scPts (fun vs H Q E h => ?_) (fun cdv A outer s H vs Q E hr h => ?_)
  · obtain ⟨n, m, l, cs, mo, rfl, _⟩ := h
    rfl
  obtain ⟨n, m, l, cs, mo, rfl, h⟩ := h
  refine ⟨_, (pss_cons (ps_set (i := 5) scPts.nd rfl (Or.inl rfl) (pe_dnewT))
    (pss_cons (ps_for PassesOwn.never rfl (pi_range1 rfl T.b_range ((pa_cons (pe_callB (call_lenK (K := K) rfl) rfl T.b_len PySem.boot_len ((pa_cons (pv 2) pa_nil))) pa_nil))) (pg_name (i := 6) scPts.nd rfl (Or.inl rfl)) (pss_cons (ps_set (i := 7) scPts.nd rfl (Or.inl rfl) (pe_c c_Drw hr pass00 .nil ((pa_cons (pv 0) (pa_cons (pe_ix (r := rIxL K) ix_list (pv 2) (pv 6) (fun _ _ => rfl)) (pa_cons (pv 3) pa_nil))))))
    (pss_cons (ps_set (i := 8) scPts.nd rfl (Or.inl rfl) (pe_c c_Trm hr pass00 .nil ((pa_cons (pv 1) (pa_cons (pe_c c_Cell hr pass00 .nil ((pa_cons (pv 2) (pa_cons (pe_op op_add (pv 6) (pe_int)) pa_nil)))) (pa_cons (pv 4) pa_nil))))))
    (pss_one (ps_if (pt_cmpR (op_neD hr.units) (pv 7) (pe_c c_Num hr pass00 .nil ((pa_cons (pv 0) (pa_cons (pe_int) (pa_cons (pe_int) pa_nil))))) (nomark _)) (pss_one (ps_dput (uOne hr) (pv 5) (pv 8) (pv 7) rfl)) pss_nil)))))
    (pss_one (ps_ret (pv 5))))), ?_⟩
  obtain ⟨n2, n1, m1, m4, hS, hl, em, k⟩ := h
  intro d0 nd0
  have e0 : Same H (upd H d0 (.dT [])) := Same.upd nd0
  have hd1 : (upd H d0 (HO.dT [])) d0 = some (.dT []) := upd_same
  generalize upd H d0 (HO.dT []) = H1 at e0 hd1
  have lc : (cs.map V.int).length = cs.length := List.length_map _
  refine ⟨_, rfl, l, _, rfl, .inl (e0.seq hS), ?_⟩
  rw [lc]
  refine ⟨(cs.length : Int), rfl, by omega, by omega, ?_⟩
  have mt : ((cs.length : Int)).toNat = cs.length := by omega
  refine for_range (lo := 0) (n := ((cs.length : Int)).toNat) (fun j σ H' => Same H H' ∧ ∃ (v6 v7 v8 : Option V) (kvs : List (List Key × V)) (T : List Int → Int × Int), σ = [some (.int n), some (.int m), some (.ref l), some (.int mo), some (.int 200), some (.ref d0), v6, v7, v8] ∧ H' d0 = some (.dT kvs) ∧ PF n m H' kvs T ∧ kvs.length ≤ j) ?_ ?_ ?_
  · exact ⟨e0, none, none, none, [], fun _ => (0, 0), rfl, hd1, ⟨(fun p hp => by cases hp), List.nodup_nil⟩, Nat.le_refl _⟩
  · rintro j σ H3 hj ⟨e3, v6, v7, v8, kvs, T1, rfl, hd3, pf, lk⟩
    rw [mt] at hj
    unfold gName
    dsimp only
    refine ⟨_, rfl, _, rfl, _, rfl, l, _, _, _, rfl, rfl, e3.seq hS, atI_int (by omega) (by omega), _, rfl, n, _, mo, rfl, em, n2, n1, fun v z H4 e4 nv ok => ?_⟩
    dsimp only
    refine ⟨_, rfl, _, rfl, _, rfl, _, _, rfl, rfl, l, cs, _, rfl, (e3.trans e4).seq hS, by omega, _, rfl, m, _, rfl, m1, m4, fun p t H5 np e5 hp dt => ?_⟩
    dsimp only
    refine ⟨_, rfl, _, rfl, n, 0, 1, rfl, n2, by decide, by decide, by decide, fun u H6 e6 nu => ?_⟩
    obtain ⟨d1, r1, q1, _⟩ := (nv.same (e5.trans e6)).rds (K := K)
    obtain ⟨d2, r2, q2, _⟩ := nu.rds (K := K)
    refine ⟨d1, d2, r1, r2, q1.shaped, q2.shaped, _, rfl, ?_⟩
    have g6 := ((e3.trans e4).trans e5).trans e6
    have hd6 := e6 _ _ (e5 _ _ (e4 _ _ hd3))
    have pf6 := pf.same ((e4.trans e5).trans e6)
    have zz : kvs.length < sizeLine := zlt _ (by omega)
    cases (!d1.eqv d2) with
    | true =>
      refine iteT ⟨_, rfl, _, rfl, _, rfl, d0, _, rfl, DPut.t (k := ky t) hd6 (by rw [ky_kV]; exact e6 _ _ hp) zz, ?_⟩
      refine ⟨g6.updR nd0, _, _, _, putK kvs (ky t) v, _, rfl, upd_same, (pf6.put dt (nv.same (e5.trans e6)) ok).updD hd6, ?_⟩
      have := length_putK kvs (ky t) v
      omega
    | false => exact iteF ⟨g6, _, _, _, kvs, T1, rfl, hd6, pf6, by omega⟩
  · rintro σ H3 ⟨e3, v6, v7, v8, kvs, T1, rfl, hd3, pf, lk⟩
    rw [mt] at lk
    exact ⟨_, rfl, k d0 kvs T1 H3 e3 hd3 pf (by omega)⟩
end
end K6
namespace K6
open PySem L2
open K1 K2 K3 K12
section
variable {P : Program} {w : World} {K : PySem.W.Frag} {mg : Str → Option Value} {base : Heap} {f : Addr} {fd : FuncData} {C_Ring C_Fractions C_Rests C_Order C_Degrees C_Tails C_Weights : Addr} {E_NoOrder E_NoPrime E_NoRing : Addr}
local macro_rules | `(tactic| walk_at "sd") => `(tactic| first
  | assumption | (dsimp only; omega) | (dsimp only; decide) | exact ⟨by decide, by decide⟩ | exact ⟨by decide, by decide, by decide⟩ | exact Or.inl ⟨by decide, by decide⟩ | exact ⟨by omega, by omega⟩ | exact Or.inl ⟨by omega, by omega⟩ | exact Or.inr ⟨by decide, by decide⟩ | exact Or.inr ⟨by omega, by omega⟩)
local macro_rules | `(tactic| walk_at "rd") => `(tactic| repeat first
  | refine ⟨_, rfl, ?_⟩ | refine ⟨_, _, rfl, rfl, ?_⟩ | refine And.intro rfl ?_ | refine And.intro (by walk_at "sd") ?_ | with_reducible refine iteT ?_ | with_reducible refine iteF ?_ | (apply ixT_of; assumption; rfl))
local macro_rules | `(tactic| walk_at "clo") => `(tactic| exact h)

theorem scLPt : FnScope ["_law_p", "_law_term_here", "_law_number_here", "_law_words", "_law_k"] ["_law_p", "_law_term_here", "_law_number_here"] (defScope s__law_part) := ⟨rfl, rfl, rfl, by decide +kernel, rfl, by decide +kernel, by decide +kernel⟩
set_option maxHeartbeats 4000000 in
theorem ok_LPt  (F : FunD K "_law_part" "_law_part" s__law_part .none f fd) (T : Txt K mg C_Ring C_Fractions C_Rests C_Order C_Degrees C_Tails C_Weights) (c_Num : Cal P w K mg base CX0 2 "_law_number" ["_law_p", "_law_top", "_law_bottom"] [] spNum)  : FnOk P w K mg base CX0 3 f fd ["_law_p", "_law_term_here", "_law_number_here"] spLPt := by
  refine F.okN (k := 2) scLPt (fun vs H Q E h => ?_) (fun cdv A outer s H vs Q E hr h => ?_)
  · obtain ⟨n, b, v, m, t, z, rfl, _⟩ := h
    rfl
  obtain ⟨n, b, v, m, t, z, rfl, h⟩ := h
  refine ⟨_, (pss_cons (ps_set (i := 3) scLPt.nd rfl (Or.inl rfl) (pe_lst (pa_nil)))
    (pss_cons (ps_if (PW.pt (pw_or (pt_cmpR (op_neD hr.units) (pv 2) (pe_c c_Num hr pass00 .nil ((pa_cons (pv 0) (pa_cons (pe_int) (pa_cons (pe_int) pa_nil))))) (nomark _)) (pw_or1 (pt_cmpR op_eq (pe_callB (call_maxT rfl rfl) rfl T.b_max (by kernel_rfl) ((pa_cons (pv 1) pa_nil))) (pe_int) (nomark _))))) (pss_one (ps_if (pt_cmpR op_gt (pv 0) (pe_int) (nomark _)) (pss_one (ps_expr (pe_bm PySem.F.plainAttrs_list PySem.F.slot_list_append PySem.F.type_list_append mt_append (pv 3) ((pa_cons (pe_callTy call_str_int rfl T.b_str (by kernel_rfl) ((pa_cons (pv 2) pa_nil))) pa_nil))))) (pss_one (ps_if (pt_cmpR op_eq (pe_ix (r := rIxT K) ix_tup (pv 2) (pe_int) (fun _ _ => rfl)) (pe_int) (nomark _)) (pss_one (ps_expr (pe_bm PySem.F.plainAttrs_list PySem.F.slot_list_append PySem.F.type_list_append mt_append (pv 3) ((pa_cons (pe_callTy call_str_int rfl T.b_str (by kernel_rfl) ((pa_cons (pe_ix (r := rIxT K) ix_tup (pv 2) (pe_int) (fun _ _ => rfl)) pa_nil))) pa_nil))))) (pss_one (ps_expr (pe_bm PySem.F.plainAttrs_list PySem.F.slot_list_append PySem.F.type_list_append mt_append (pv 3) ((pa_cons (pe_op op_add_str (pe_op op_add_str (pe_callTy call_str_int rfl T.b_str (by kernel_rfl) ((pa_cons (pe_ix (r := rIxT K) ix_tup (pv 2) (pe_int) (fun _ _ => rfl)) pa_nil))) (pe_str)) (pe_callTy call_str_int rfl T.b_str (by kernel_rfl) ((pa_cons (pe_ix (r := rIxT K) ix_tup (pv 2) (pe_int) (fun _ _ => rfl)) pa_nil)))) pa_nil))))))))) pss_nil)
    (pss_cons (ps_for PassesOwn.never rfl (pi_range1 rfl T.b_range ((pa_cons (pe_callB (call_lenK (K := K) rfl) rfl T.b_len PySem.boot_len ((pa_cons (pv 1) pa_nil))) pa_nil))) (pg_name (i := 4) scLPt.nd rfl (Or.inl rfl)) (pss_cons (ps_if (pt_cmpR op_eq (pe_ix (r := rIxT K) ix_tup (pv 1) (pv 4) (fun _ _ => rfl)) (pe_int) (nomark _)) (pss_one (ps_expr (pe_bm PySem.F.plainAttrs_list PySem.F.slot_list_append PySem.F.type_list_append mt_append (pv 3) ((pa_cons (pe_ix ix_str (pe_str) (pv 4) (fun _ _ => rfl)) pa_nil))))) pss_nil)
    (pss_one (ps_if (pt_cmpR op_gt (pe_ix (r := rIxT K) ix_tup (pv 1) (pv 4) (fun _ _ => rfl)) (pe_int) (nomark _)) (pss_one (ps_expr (pe_bm PySem.F.plainAttrs_list PySem.F.slot_list_append PySem.F.type_list_append mt_append (pv 3) ((pa_cons (pe_op op_add_str (pe_op op_add_str (pe_ix ix_str (pe_str) (pv 4) (fun _ _ => rfl)) (pe_str)) (pe_callTy call_str_int rfl T.b_str (by kernel_rfl) ((pa_cons (pe_ix (r := rIxT K) ix_tup (pv 1) (pv 4) (fun _ _ => rfl)) pa_nil)))) pa_nil))))) pss_nil))))
    (pss_one (ps_ret (pe_join rfl ((pa_cons (pv 3) pa_nil)))))))), ?_⟩
  obtain ⟨n2, hb, dt, m1, m4, nv, ok, k⟩ := h
  have lt := dt.1
  have sm := dt.sm
  have lm : (t.map V.int).length = t.length := List.length_map _
  have jo := join_ok ok sm (by omega)
  refine ⟨Nat.zero_le _, fun W hW => ?_⟩
  have e1 : Same H (upd H W (.lst [])) := Same.upd hW
  have hW1 : (upd H W (HO.lst [])) W = some (.lst []) := upd_same
  generalize upd H W (HO.lst []) = H1 at e1 hW1
  dsimp only [gName]
  refine seq_mid (fun σ' H' => Same H H' ∧ ∃ v4, σ' = [some (.int n), some (.ref b), some v, some (.ref W), v4] ∧ H' W = some (.lst ((preW n t z).map V.str))) ?_ ?_
  · rintro σ' H' ⟨e, v4, rfl, hW'⟩
    refine ⟨_, rfl, b, _, rfl, .inr (SqT.of (e _ _ hb)), ?_⟩
    rw [lm]
    refine ⟨(t.length : Int), rfl, by omega, by omega, ?_⟩
    have mt : ((t.length : Int)).toNat = t.length := by omega
    refine for_range (lo := 0) (n := ((t.length : Int)).toNat) (fun j σ H' => Same H H' ∧ (∃ v4, σ = [some (.int n), some (.ref b), some v, some (.ref W), v4]) ∧ H' W = some (.lst ((preW n t z ++ facT t j).map V.str))) ?_ ?_ ?_
    · exact ⟨e, ⟨v4, rfl⟩, by rw [hW']; unfold facT; simp⟩
    · rintro j σ H3 hj ⟨e3, ⟨v4, rfl⟩, hW3⟩
      rw [mt] at hj
      unfold gName
      dsimp only
      have ea : cellOf t (0 + (j : Int)) = t.getD j 0 := by unfold cellOf; rw [show (0 + (j : Int)).toNat = j by omega]
      have ai : atI (t.map V.int) (0 + (j : Int)) = some (.int (t.getD j 0)) := by rw [← ea]; exact atI_int (by omega) (by omega)
      have bt := sm.at_ j
      have fs := facT_succ t j
      have fl := facT_len t j
      have pl := preW_len n t z
      have xa := xyzt_at (show j < 4 by omega)
      have xl : ("xyzt" : Str).length ≤ sizeLine := by decide +kernel
      generalize t.getD j 0 = a at ai bt fs
      have sl := small_log bt.1 bt.2
      refine seq_mid (fun σ' H' => Same H H' ∧ σ' = [some (.int n), some (.ref b), some v, some (.ref W), some (.int (0 + (j : Int)))] ∧ H' W = some (.lst ((preW n t z ++ facT t j ++ (if a = 1 then [ltr j] else [])).map V.str))) ?_ ?_
      · rintro σ' H4 ⟨e4, rfl, hW4⟩
        refine ⟨_, rfl, _, rfl, b, _, _, _, rfl, rfl, SqT.of (e4 _ _ hb), ai, _, _, rfl, rfl, _, rfl, cD (fun c => ?_) (fun c => ?_)⟩
        · rw [if_neg (by omega), List.append_nil] at hW4
          rw [if_pos (by omega)] at fs
          have zz : ((preW n t z ++ facT t j).map V.str).length < sizeLine := zlt _ (by rw [List.length_map, List.length_append]; omega)
          have l2 := sI_len sl
          have l3 : ("^" : Str).length = 1 := by decide +kernel
          have l4 := ltr_len j
          refine ⟨_, rfl, .inl ⟨rfl, _, SqL.of hW4⟩, _, rfl, _, _, _, rfl, rfl, xl, xa, _, _, rfl, rfl, zl _ (by show (ltr j).length + _ ≤ _; omega), _, rfl, _, rfl, b, _, _, _, rfl, rfl, SqT.of (e4 _ _ hb), ai, a, rfl, sl, _, _, rfl, rfl, ?_, W, _, _, rfl, rfl, hW4, zz, ?_⟩
          · refine zl _ ?_
            show (ltr j ++ "^").length + (sI a).length ≤ _
            rw [Str.length_append]
            omega
          · refine ⟨e4.updR hW, ⟨_, rfl⟩, ?_⟩
            rw [upd_same, fs, ← List.append_assoc, map_snoc]
            unfold pwT
            rw [if_neg (by omega)]
            rfl
        · refine ⟨e4, ⟨_, rfl⟩, ?_⟩
          rw [hW4, fs]
          by_cases c1 : a = 1
          · rw [if_pos c1, if_pos (by omega)]
            unfold pwT
            rw [if_pos c1, List.append_assoc]
          · rw [if_neg c1, if_neg (by omega), List.append_nil, List.append_nil]
      · intro N' hN'
        refine ⟨_, rfl, _, rfl, b, _, _, _, rfl, rfl, SqT.of (e3 _ _ hb), ai, rfl, _, rfl, cEq (fun c => ?_) (fun c => ?_)⟩
        · have zz : ((preW n t z ++ facT t j).map V.str).length < sizeLine := zlt _ (by rw [List.length_map, List.length_append]; omega)
          refine ⟨_, rfl, .inl ⟨rfl, _, SqL.of hW3⟩, _, rfl, _, _, _, rfl, rfl, xl, xa, W, _, _, rfl, rfl, hW3, zz, ?_⟩
          refine hN' _ _ ⟨e3.updR hW, rfl, ?_⟩
          rw [upd_same, if_pos c, map_snoc]
          rfl
        · refine hN' _ _ ⟨e3, rfl, ?_⟩
          rw [if_neg c, List.append_nil]
          exact hW3
    · rintro σ H3 ⟨e3, ⟨v4, rfl⟩, hW3⟩
      rw [mt, wrds_pre] at hW3
      exact ⟨rfl, _, rfl, _, W, _, rfl, rfl, SqL.of hW3, jo, k H3 e3⟩
  · intro N hN
    have yes : preW n t z = [numT n z] → ∀ H2, Same H H2 → H2 W = some (.lst []) → N [some (.int n), some (.ref b), some v, some (.ref W), none] (upd H2 W (.lst ([] ++ [.str (numT n z)]))) := fun q H2 e2 hW2 => hN _ _ ⟨e2.updR hW, _, rfl, by rw [upd_same, q]; rfl⟩
    have no : preW n t z = [] → ∀ H2, Same H H2 → H2 W = some (.lst []) → N [some (.int n), some (.ref b), some v, some (.ref W), none] H2 := fun q H2 e2 hW2 => hN _ _ ⟨e2, _, rfl, by rw [hW2, q]; rfl⟩
    refine if_mid2 (fun bb H' => Same H H' ∧ H' W = some (.lst []) ∧ NV n H' v (ngz n z) ∧ (bb = true → preW n t z = [numT n z]) ∧ (bb = false → preW n t z = [])) ?_ ?_ ?_
    · rintro H' ⟨e', hW', nv', q', _⟩
      have q := q' rfl
      have zz : ([] : List V).length < sizeLine := zlt _ (by simp)
      refine ⟨_, rfl, _, _, rfl, rfl, _, rfl, cD (fun c => ?_) (fun c => ?_)⟩
      · have n0 : n ≠ 0 := by omega
        have e1' := (nv_n n0).mp nv'
        have e2' : (ngz n z).1 = z.1 := by unfold ngz; rw [if_neg n0]
        rw [e2'] at e1'
        subst e1'
        refine ⟨_, rfl, .inl ⟨rfl, _, SqL.of hW'⟩, _, rfl, z.1, rfl, ok.b1, W, _, _, rfl, rfl, hW', zz, ?_⟩
        have := yes q H' e' hW'
        unfold numT at this
        rw [if_neg n0] at this
        exact this
      · have n0 : n = 0 := by
          rcases n2 with z | z
          · exact z
          · have := z.1; omega
        subst n0
        obtain ⟨r, rfl, hr0⟩ := nv_0.mp nv'
        have e2' : ngz 0 z = (abz z.1, z.2) := if_pos rfl
        rw [e2'] at hr0
        have ba : (abz z.1).natAbs.log2 < 1920 := by rw [abz_nat]; exact ok.b1
        have yy := yes q H' e' hW'
        unfold numT at yy
        rw [if_pos rfl] at yy
        refine ⟨_, rfl, r, _, _, _, rfl, rfl, SqT.of hr0, atI1, rfl, _, rfl, cEq (fun c1 => ?_) (fun c1 => ?_)⟩
        · rw [if_pos c1] at yy
          exact ⟨_, rfl, .inl ⟨rfl, _, SqL.of hW'⟩, _, rfl, r, _, _, _, rfl, rfl, SqT.of hr0, atI0, _, rfl, ba, W, _, _, rfl, rfl, hW', zz, yy⟩
        · rw [if_neg c1] at yy
          have l1 := sI_len ba
          have l2 := sI_len ok.b2
          have l3 : ("/" : Str).length = 1 := by decide +kernel
          refine ⟨_, rfl, .inl ⟨rfl, _, SqL.of hW'⟩, _, rfl, r, _, _, _, rfl, rfl, SqT.of hr0, atI0, _, rfl, ba, _, _, rfl, rfl, ?_, _, rfl, r, _, _, _, rfl, rfl, SqT.of hr0, atI1, z.2, rfl, ok.b2, _, _, rfl, rfl, ?_, W, _, _, rfl, rfl, hW', zz, yy⟩
          · refine zl _ ?_
            show (sI (abz z.1)).length + ("/" : Str).length ≤ _
            omega
          · refine zl _ ?_
            show (sI (abz z.1) ++ "/").length + (sI z.2).length ≤ _
            rw [Str.length_append]
            omega
    · rintro H' ⟨e', hW', nv', _, q'⟩
      exact no (q' rfl) H' e' hW'
    intro M hM
    refine ⟨_, rfl, _, rfl, n, 1, 1, rfl, n2, by decide, by decide, by decide, fun u H2 e2 nu => ?_⟩
    obtain ⟨d1, r1, q1, s1⟩ := (nv.same (e1.trans e2)).rds (K := K)
    obtain ⟨d2, r2, q2, s2⟩ := nu.rds (K := K)
    have g2 := e1.trans e2
    have hW2 := e2 _ _ hW1
    refine ⟨d1, d2, r1, r2, q1.shaped, q2.shaped, _, rfl, ?_⟩
    have eq : PyData.eqv d1 d2 = decide (numT n z = "1") := by rw [s1, s2]; exact one_num n2 ok
    rw [eq]
    by_cases c : numT n z = "1"
    · rw [decide_eq_true c]
      refine iteF ⟨_, rfl, b, t, rfl, SqT.of (g2 _ _ hb), (fun z => by rw [z] at lt; simp at lt; omega), fun M0 hM0 hmx => ?_⟩
      have mn := max_nil sm hM0 hmx
      refine ⟨rfl, _, rfl, ?_⟩
      by_cases c1 : M0 = 0
      · have dc : decide (V.int M0 = V.int 0) = true := decide_eq_true (by rw [c1])
        rw [dc]
        exact hM _ _ ⟨g2, hW2, nv.same g2, fun _ => by unfold preW; rw [if_pos (.inr (mn.mp c1))], fun z => by cases z⟩
      · have dc : decide (V.int M0 = V.int 0) = false := decide_eq_false (fun q => c1 (by injection q))
        rw [dc]
        exact hM _ _ ⟨g2, hW2, nv.same g2, (fun z => by cases z), fun _ => by unfold preW; rw [if_neg (fun q => q.elim (fun q => q c) fun q => c1 (mn.mpr q))]⟩
    · rw [decide_eq_false c]
      refine iteT ?_
      exact hM _ _ ⟨g2, hW2, nv.same g2, fun _ => by unfold preW; rw [if_pos (.inl c)], fun z => by cases z⟩
end
end K6
namespace K6
open PySem L2
open K1 K2 K3 K12
section
variable {P : Program} {w : World} {K : PySem.W.Frag} {mg : Str → Option Value} {base : Heap} {f : Addr} {fd : FuncData} {C_Ring C_Fractions C_Rests C_Order C_Degrees C_Tails C_Weights : Addr} {E_NoOrder E_NoPrime E_NoRing : Addr}
local macro_rules | `(tactic| walk_at "sd") => `(tactic| first
  | assumption | (dsimp only; omega) | (dsimp only; decide) | exact ⟨by decide, by decide⟩ | exact ⟨by decide, by decide, by decide⟩ | exact Or.inl ⟨by decide, by decide⟩ | exact ⟨by omega, by omega⟩ | exact Or.inl ⟨by omega, by omega⟩ | exact Or.inr ⟨by decide, by decide⟩ | exact Or.inr ⟨by omega, by omega⟩)
local macro_rules | `(tactic| walk_at "rd") => `(tactic| repeat first
  | refine ⟨_, rfl, ?_⟩ | refine ⟨_, _, rfl, rfl, ?_⟩ | refine And.intro rfl ?_ | refine And.intro (by walk_at "sd") ?_ | with_reducible refine iteT ?_ | with_reducible refine iteF ?_ | (apply ixT_of; assumption; rfl))
local macro_rules | `(tactic| walk_at "clo") => `(tactic| exact h)

theorem scLTx : FnScope ["_law_p", "_law_way_here", "_law_f", "_law_text_here", "_law_term_here", "_law_number_here", "_law_below", "_law_joint"] ["_law_p", "_law_way_here", "_law_f"] (defScope s__law_text) := ⟨rfl, rfl, rfl, by decide +kernel, rfl, by decide +kernel, by decide +kernel⟩
set_option maxHeartbeats 4000000 in
theorem ok_LTx  (F : FunD K "_law_text" "_law_text" s__law_text .none f fd) (T : Txt K mg C_Ring C_Fractions C_Rests C_Order C_Degrees C_Tails C_Weights) (c_LPt : Cal P w K mg base CX0 3 "_law_part" ["_law_p", "_law_term_here", "_law_number_here"] [] spLPt) {cc Pt : Addr} (hcc : codeOfF K f = some cc) (hCd : PySem.W.CodeHd base cc Pt) (hBd : base.BuiltinsAt mg Pt) (c_LRank : Cal P w K mg base CX0 1 "_law_rank" ["_law_way_here", "_law_term_here"] [] spLRank) : FnOk P w K mg base CX0 8 f fd ["_law_p", "_law_way_here", "_law_f"] (spLTx Pt) := by
  refine F.okL hcc (k := 7) scLTx (fun vs H Q E h => ?_) (fun A outer s H vs Q E hr h => ?_)
  · obtain ⟨n, r, d, l, m, kd, ws, kvs, T0, rfl, _⟩ := h
    rfl
  obtain ⟨n, r, d, l, m, kd, ws, kvs, T0, rfl, h⟩ := h
  refine ⟨_, (pss_cons (ps_set (i := 3) scLTx.nd rfl (Or.inl rfl) (pe_str))
    (pss_cons (ps_for PassesOwn.never rfl (pi_listK (K := K) rfl (pe_sortL (x := "_law_one") (y := "_law_way_here") (g := "_law_rank") (i := 1) (cc := cc) (P := Pt) (pe_callTy (call_listD rfl) rfl T.b_list (by kernel_rfl) (pa_cons (pv 2) pa_nil)) hr T.b_sorted rfl hCd hBd rfl rfl (by decide +kernel) (by decide +kernel) (by decide +kernel) rfl rfl rfl rfl (fun _ _ _ _ _ _ => rfl) rfl rfl (fun q c1 c2 s1 H1 => pe_c c_LRank (Room.deeper (k := 4) (Room.in1 (k := 5) (Room.in1 (k := 6) hr)) _) pass00 .nil (pa_cons (pv 1) (pa_cons (pv 0) pa_nil))))) (pg_name (i := 4) scLTx.nd rfl (Or.inl rfl)) (pss_cons (ps_set (i := 5) scLTx.nd rfl (Or.inl rfl) (pe_dget (uOne hr) (pv 2) (pv 4) (fun _ _ => rfl)))
    (pss_cons (ps_set (i := 6) scLTx.nd rfl (Or.inl rfl) (pe_int))
    (pss_cons (ps_if (PW.pt (pw_and (pt_cmpR op_eq (pv 0) (pe_int) (nomark _)) (pw_and1 (pt_cmpR op_lt (pe_ix (r := rIxT K) ix_tup (pv 5) (pe_int) (fun _ _ => rfl)) (pe_int) (nomark _))))) (pss_cons (ps_set (i := 6) scLTx.nd rfl (Or.inl rfl) (pe_int))
    (pss_one (ps_set (i := 5) scLTx.nd rfl (Or.inl rfl) (pe_tup ((pa_cons (pe_un un_neg (pe_ix (r := rIxT K) ix_tup (pv 5) (pe_int) (fun _ _ => rfl))) (pa_cons (pe_ix (r := rIxT K) ix_tup (pv 5) (pe_int) (fun _ _ => rfl)) pa_nil))))))) pss_nil)
    (pss_cons (ps_set (i := 7) scLTx.nd rfl (Or.inl rfl) (pe_ix (r := rIxL K) ix_list (pe_lst ((pa_cons (pe_str) (pa_cons (pe_str) pa_nil)))) (pv 6) (fun _ _ => rfl)))
    (pss_cons (ps_if (pt_cmpR op_eq (pv 3) (pe_str) (nomark _)) (pss_one (ps_set (i := 7) scLTx.nd rfl (Or.inl rfl) (pe_ix (r := rIxL K) ix_list (pe_lst ((pa_cons (pe_str) (pa_cons (pe_str) pa_nil)))) (pv 6) (fun _ _ => rfl)))) pss_nil)
    (pss_one (ps_set (i := 3) scLTx.nd rfl (Or.inl rfl) (pe_op op_add_str (pe_op op_add_str (pv 3) (pv 7)) (pe_c c_LPt hr pass00 .nil ((pa_cons (pv 0) (pa_cons (pv 4) (pa_cons (pv 5) pa_nil))))))))))))))
    (pss_cons (ps_if (pt_cmpR op_eq (pv 3) (pe_str) (nomark _)) (pss_one (ps_ret (pe_str))) pss_nil)
    (pss_one (ps_ret (pv 3)))))), ?_⟩
  obtain ⟨hr0, hl0, n2, m1, m4, k0, k4, wn, wb, hd, pf0, l64, hT, k⟩ := h
  refine ⟨_, rfl, d, kvs, rfl, .inl hd, fun l1 as hl1 la hi => ?_⟩
  have e1 : Same H (upd H l1 (.lst (as.map V.ref))) := Same.upd hl1
  have hl2 : (upd H l1 (HO.lst (as.map V.ref))) l1 = some (.lst (as.map V.ref)) := upd_same
  generalize upd H l1 (HO.lst (as.map V.ref)) = H1 at e1 hl2
  refine ⟨l1, as.map V.ref, .ref r, rfl, hl2, rfl, e1 _ _ hT, fun c' hc' ncP => ?_⟩
  have b2 : ∀ b o, H b = some o → b ≠ Pt → (upd H1 Pt (.tbl #[rawInt (316 : Nat), rawInt (51 : Nat), .ref c'])) b = some o := fun b o hb nb => by rw [upd_ne nb]; exact e1 _ _ hb
  have tr := trms pf0 (fun p hp => hp) la hi
  have ntP : ∀ {b : Addr} {xs : List V}, H b = some (.tup xs) → b ≠ Pt := fun {b xs} hb => ne_of hb hT (by intro z; cases z)
  have dts : ∀ t ∈ tms kvs, DrT m t := fun t ht => (pf0.tm ht).1
  have ndP : d ≠ Pt := ne_of hd hT (by intro z; cases z)
  show skGo _ _ _ (upd H1 Pt (.tbl #[rawInt (316 : Nat), rawInt (51 : Nat), .ref c'])) _
  generalize upd H1 Pt (.tbl #[rawInt (316 : Nat), rawInt (51 : Nat), .ref c']) = H2 at b2
  refine sk_walkL (K := K) (rk := rkk kd ws) (OK := fun H' => H' r = some (.tup [.int kd, .ref l]) ∧ H' l = some (.lst (ws.map V.int))) ?_ (fun _ _ e ⟨q1, q2⟩ => ⟨e _ _ q1, e _ _ q2⟩) (fun xs h => rkk_ne h) (tms kvs) (as.map V.ref) [] [] H2 H2 (Same.refl _) ⟨b2 _ _ hr0 (ntP hr0), b2 _ _ hl0 (ne_of hl0 hT (by intro z; cases z))⟩ (pimp (fun _ _ ⟨a, q1, q2⟩ => ⟨a, q1, b2 _ _ q2 (ntP q2)⟩) tr) (fun t ht => drt_pws (dts t ht) m1 m4) .nil fun ks' H3 e3 hk => ?_
  · rintro x H4 xs Q' ⟨o1, o2⟩ ⟨a, rfl, ha⟩ px kk
    exact ⟨_, rfl, _, rfl, r, l, a, kd, ws, xs, rfl, o1, k0, k4, o2, wn, wb, ha, px, kk⟩
  refine ⟨(tms kvs).map (rkk kd ws), hk, by rw [List.length_map, la]; exact l64, fun ps' hp' hs' D hD => ?_⟩
  rw [zip_map_l] at hp'
  obtain ⟨ps, pp, rfl⟩ := perm_map_inv _ hp' _ rfl
  rw [List.pairwise_map] at hs'
  have pw : ps.Pairwise (fun p q => HT.lexLt (rkk kd ws p.1) (rkk kd ws q.1) = false) := hs'.imp fun h => by simpa using h
  have b4 : ∀ b o, H b = some o → b ≠ Pt → (upd H3 D (.lst (ps.map (·.2)))) b = some o := fun b o hb nb => (Same.upd hD) _ _ (e3 _ _ (b2 b o hb nb))
  have hD4 : (upd H3 D (HO.lst (ps.map (·.2)))) D = some (.lst (ps.map (·.2))) := upd_same
  have em : (ps.map fun p => (rkk kd ws p.1, p.2)).map (fun x => x.2) = ps.map (·.2) := by rw [List.map_map]; rfl
  rw [em]
  generalize upd H3 D (HO.lst (ps.map (·.2))) = H4 at b4 hD4 ⊢
  have lz : (tms kvs).length = (as.map V.ref).length := by rw [List.length_map, la]; exact List.length_map _
  have st := srt_map (rk := rkk kd ws) lz pp pw
  have mem : ∀ p ∈ ps, Trm H4 p.1 p.2 ∧ p.1 ∈ tms kvs := fun p hp => by
    have h1 := pp.mem_iff.mp hp
    obtain ⟨a, q1, q2⟩ := pz tr p h1
    exact ⟨⟨a, q1, b4 _ _ q2 (ntP q2)⟩, (List.of_mem_zip h1).1⟩
  have nvP : ∀ {v : V} {z : Int × Int}, NV n H v z → NV n H4 v z := fun {v z} h => by
    by_cases c : n = 0
    · subst c
      obtain ⟨a, q1, q2⟩ := nv_0.mp h
      exact nv_0.mpr ⟨a, q1, b4 _ _ q2 (ntP q2)⟩
    · exact (nv_n c).mpr ((nv_n c).mp h)
  have hd4 := b4 _ _ hd ndP
  have nps : ps.length < 64 := by
    have := pp.length_eq
    rw [List.length_zip, ← lz, Nat.min_self] at this
    rw [this]
    show (kvs.map _).length < 64
    rw [List.length_map]; exact l64
  have all : ∀ t ∈ ps.map (·.1), NOk n (T0 t) ∧ SmT t ∧ t.length ≤ 4 := fun t ht => by
    obtain ⟨p, hp, rfl⟩ := List.mem_map.mp ht
    obtain ⟨a, b, _⟩ := pf0.tm (mem p hp).2
    exact ⟨b, a.sm, by have := a.1; omega⟩
  have tl : ∀ i, (txt n T0 ((ps.map (·.1)).take i)).length ≤ 20003 * 64 := fun i => by
    have h1 := txt_len (n := n) (T := T0) (ts := (ps.map (·.1)).take i) (fun t ht => all t (List.mem_of_mem_take ht)) ""
    have h2 : (("" : Str)).length = 0 := by decide +kernel
    have h3 : ((ps.map (·.1)).take i).length ≤ 64 := by rw [List.length_take, List.length_map]; omega
    rw [h2] at h1
    have h4 : 20003 * ((ps.map (·.1)).take i).length ≤ 20003 * 64 := Nat.mul_le_mul_left _ h3
    unfold txt
    omega
  refine ⟨D, rfl, ⟨_, SqL.of hD4⟩, ?_⟩
  refine for_same (walk_list (K := K) (SqL.of hD4)) (fun i σ => ∃ v4 v5 v6 v7, σ = [some (.int n), some (.ref r), some (.ref d), some (.str (txt n T0 ((ps.map (·.1)).take i))), v4, v5, v6, v7]) ⟨none, none, none, none, rfl⟩ ?_ ?_
  · rintro i x σ H5 hi ⟨v4, v5, v6, v7, rfl⟩ e5 hx
    rw [List.getElem?_map] at hx
    cases hp : ps[i]? with
    | none => rw [hp] at hx; cases hx
    | some p =>
      rw [hp] at hx
      injection hx with hx
      subst hx
      obtain ⟨⟨b, eb, hb⟩, mt⟩ := mem p (List.mem_of_getElem? hp)
      obtain ⟨dt, ok, v, hv, nv⟩ := pf0.tm mt
      have hb5 := e5 _ _ hb
      have nv5 := (nvP nv).same e5
      have nx := txt_take n T0 (ts := ps.map (·.1)) (i := i) (t := p.1) (by rw [List.getElem?_map, hp]; rfl)
      have ll := tl i
      generalize txt n T0 ((ps.map (·.1)).take i) = tx at nx ll
      have pl := prt_len ok dt.sm (by have := dt.1; omega)
      dsimp only
      rw [eb]
      have dg : DGet H5 d (.ref b) (some v) := by
        have := DGet.t (k := ky p.1) (e5 _ _ hd4) (by rw [ky_kV]; exact hb5)
        rwa [hv] at this
      dsimp only [gName]
      refine ⟨_, rfl, _, rfl, d, v, rfl, dg, ?_⟩
      dsimp only [gName]
      refine seq_mid (fun σ' H' => H' = H5 ∧ σ' = [some (.int n), some (.ref r), some (.ref d), some (.str tx), some (.ref b), some v, some (.int 0), v7]) ?_ (fun N hN => hN _ _ ⟨rfl, rfl⟩)
      rintro σ' H' ⟨rfl, rfl⟩
      refine seq_mid (fun σ' H'' => Same H' H'' ∧ ∃ v', σ' = [some (.int n), some (.ref r), some (.ref d), some (.str tx), some (.ref b), some v', some (.int (if blw n (T0 p.1) = true then 1 else 0)), v7] ∧ NV n H'' v' (ngz n (T0 p.1))) ?_ ?_
      · rintro σ' H6 ⟨e6, v', rfl, nv6⟩
        have hat : ∀ (x y : Str), atI [V.str x, V.str y] (if blw n (T0 p.1) = true then 1 else 0) = some (.str (if blw n (T0 p.1) = true then y else x)) := fun x y => by
          cases blw n (T0 p.1) <;> rfl
        refine ⟨(by show 2 ≤ sizeLine; decide), fun q hq => ⟨_, rfl, q, _, _, _, rfl, rfl, SqL.of upd_same, hat _ _, ?_⟩⟩
        have e7 : Same H6 (upd H6 q (.lst [.str " + ", .str " - "])) := Same.upd hq
        generalize upd H6 q (HO.lst [V.str " + ", V.str " - "]) = H7 at e7
        dsimp only [gName]
        refine seq_mid (fun σ' H'' => Same H6 H'' ∧ σ' = [some (.int n), some (.ref r), some (.ref d), some (.str tx), some (.ref b), some v', some (.int (if blw n (T0 p.1) = true then 1 else 0)), some (.str (if tx = "" then (if blw n (T0 p.1) = true then ("-" : Str) else ("" : Str)) else (if blw n (T0 p.1) = true then (" - " : Str) else (" + " : Str))))]) ?_ ?_
        · rintro σ' H8 ⟨e8, rfl⟩
          have g8 := e6.trans e8
          have h1 := stpT_len (s := tx) ok dt.sm (by have := dt.1; omega)
          have jl : (if tx = "" then (if blw n (T0 p.1) = true then ("-" : Str) else ("" : Str)) else (if blw n (T0 p.1) = true then (" - " : Str) else (" + " : Str))).length ≤ 3 := by
            have f1 : ("-" : Str).length = 1 := by decide +kernel
            have f2 : ("" : Str).length = 0 := by decide +kernel
            have f3 : (" - " : Str).length = 3 := by decide +kernel
            have f4 : (" + " : Str).length = 3 := by decide +kernel
            split <;> split <;> omega
          have js : stpT n tx p.1 (T0 p.1) = tx ++ (if tx = "" then (if blw n (T0 p.1) = true then ("-" : Str) else ("" : Str)) else (if blw n (T0 p.1) = true then (" - " : Str) else (" + " : Str))) ++ prt n p.1 (T0 p.1) := by
            unfold stpT
            by_cases c : tx = ""
            · rw [if_pos c, if_pos c, c, emp_app]
            · rw [if_neg c, if_neg c]
          generalize (if tx = "" then (if blw n (T0 p.1) = true then ("-" : Str) else ("" : Str)) else (if blw n (T0 p.1) = true then (" - " : Str) else (" + " : Str))) = jn at jl js
          refine ⟨_, rfl, _, rfl, _, _, rfl, rfl, zl _ (by omega), _, rfl, _, rfl, _, rfl, n, b, v', m, p.1, T0 p.1, rfl, n2, g8 _ _ hb5, dt, m1, m4, nv6.same e8, ok, fun H9 e9 => ⟨_, _, rfl, rfl, ?_, ⟨some (.ref b), some v', some (.int (if blw n (T0 p.1) = true then 1 else 0)), some (.str jn), ?_⟩, (e5.trans g8).trans e9⟩⟩
          · refine zl _ ?_
            show (tx ++ jn).length + (prt n p.1 (T0 p.1)).length ≤ _
            rw [Str.length_append]
            omega
          · rw [nx, js]; rfl
        · intro N hN
          refine ⟨_, rfl, rfl, _, rfl, ?_⟩
          by_cases c : tx = ""
          · have dc : decide (V.str tx = V.str "") = true := decide_eq_true (by rw [c])
            dsimp only
            rw [dc]
            refine iteT ⟨(by show 2 ≤ sizeLine; decide), fun q2 hq2 => ⟨_, rfl, q2, _, _, _, rfl, rfl, SqL.of upd_same, hat _ _, ?_⟩⟩
            refine hN _ _ ⟨e7.trans (Same.upd hq2), ?_⟩
            rw [if_pos c]; rfl
          · have dc : decide (V.str tx = V.str "") = false := decide_eq_false (fun z => c (by injection z))
            dsimp only
            rw [dc]
            refine iteF ?_
            refine hN _ _ ⟨e7, ?_⟩
            rw [if_neg c]; rfl
      · intro N hN
        refine if_mid2 (fun bb H'' => H'' = H' ∧ bb = blw n (T0 p.1)) ?_ ?_ ?_
        · rintro H'' ⟨rfl, eb'⟩
          have n0 : n = 0 := by
            unfold blw at eb'
            by_cases c : n = 0
            · exact c
            · rw [decide_eq_false c, Bool.false_and] at eb'; cases eb'
          subst n0
          have zn : (T0 p.1).1 < 0 := by
            unfold blw at eb'
            rw [decide_eq_true rfl, Bool.true_and] at eb'
            exact of_decide_eq_true eb'.symm
          obtain ⟨a, rfl, ha⟩ := nv_0.mp nv5
          refine ⟨_, rfl, a, _, _, _, rfl, rfl, SqT.of ha, atI0, _, rfl, _, rfl, a, _, _, _, rfl, rfl, SqT.of ha, atI1, (by show 2 ≤ sizeLine; decide), fun q hq => ?_⟩
          refine hN _ _ ⟨Same.upd hq, .ref q, ?_, nv_0.mpr ⟨q, rfl, ?_⟩⟩
          · rw [if_pos eb'.symm]; rfl
          · rw [upd_same]
            unfold ngz abz
            rw [if_pos rfl, if_pos zn]
        · rintro H'' ⟨rfl, eb'⟩
          refine hN _ _ ⟨Same.refl _, v, ?_, ?_⟩
          · rw [if_neg (by rw [← eb']; decide)]
          · have : ngz n (T0 p.1) = T0 p.1 := by
              unfold ngz
              by_cases c : n = 0
              · rw [if_pos c]
                unfold blw at eb'
                rw [decide_eq_true c, Bool.true_and] at eb'
                have zn := of_decide_eq_false eb'.symm
                unfold abz
                rw [if_neg zn]
              · rw [if_neg c]
            rw [this]; exact nv5
        intro M hM
        refine ⟨_, rfl, rfl, _, rfl, ?_⟩
        by_cases c : n = 0
        · have dc : decide (V.int n = V.int 0) = true := decide_eq_true (by rw [c])
          dsimp only
          rw [dc]
          refine iteT ?_
          subst c
          obtain ⟨a, rfl, ha⟩ := nv_0.mp nv5
          refine ⟨_, rfl, a, _, _, _, rfl, rfl, SqT.of ha, atI0, _, _, rfl, rfl, _, rfl, ?_⟩
          exact hM _ _ ⟨rfl, by unfold blw; rw [decide_eq_true rfl, Bool.true_and]⟩
        · have dc : decide (V.int n = V.int 0) = false := decide_eq_false (fun q => c (by injection q))
          dsimp only
          rw [dc]
          refine iteF ?_
          exact hM _ _ ⟨rfl, by unfold blw; rw [decide_eq_false c, Bool.false_and]⟩
  · rintro σ H5 ⟨v4, v5, v6, v7, rfl⟩ e5
    have k2 := k H5 (ps.map (·.1)) (fun b o hb nb => e5 _ _ (b4 b o hb nb)) st
    have et : (ps.map (·.1)).take (ps.map (·.2)).length = ps.map (·.1) := List.take_of_length_le (by simp)
    rw [et]
    unfold fin at k2
    generalize txt n T0 (ps.map (·.1)) = tx at k2
    refine ⟨_, rfl, rfl, _, rfl, ?_⟩
    by_cases c : tx = ""
    · have dc : decide (V.str tx = V.str "") = true := decide_eq_true (by rw [c])
      rw [if_pos c] at k2
      dsimp only
      rw [dc]
      exact iteT k2
    · have dc : decide (V.str tx = V.str "") = false := decide_eq_false (fun z => c (by injection z))
      rw [if_neg c] at k2
      dsimp only
      rw [dc]
      exact iteF ⟨_, rfl, k2⟩
end
end K6
namespace K6
open PySem L2
open K1 K2 K3 K12
section
variable {P : Program} {w : World} {K : PySem.W.Frag} {mg : Str → Option Value} {base : Heap} {f : Addr} {fd : FuncData} {C_Ring C_Fractions C_Rests C_Order C_Degrees C_Tails C_Weights : Addr} {E_NoOrder E_NoPrime E_NoRing : Addr}
local macro_rules | `(tactic| walk_at "sd") => `(tactic| first
  | assumption | (dsimp only; omega) | (dsimp only; decide) | exact ⟨by decide, by decide⟩ | exact ⟨by decide, by decide, by decide⟩ | exact Or.inl ⟨by decide, by decide⟩ | exact ⟨by omega, by omega⟩ | exact Or.inl ⟨by omega, by omega⟩ | exact Or.inr ⟨by decide, by decide⟩ | exact Or.inr ⟨by omega, by omega⟩)
local macro_rules | `(tactic| walk_at "rd") => `(tactic| repeat first
  | refine ⟨_, rfl, ?_⟩ | refine ⟨_, _, rfl, rfl, ?_⟩ | refine And.intro rfl ?_ | refine And.intro (by walk_at "sd") ?_ | with_reducible refine iteT ?_ | with_reducible refine iteF ?_ | (apply ixT_of; assumption; rfl))
local macro_rules | `(tactic| walk_at "clo") => `(tactic| exact h)

theorem scLaw : FnScope ["_law_script", "_law_p", "_law_many", "_law_way_here", "_law_f", "_law_handed", "_law_found"] ["_law_script"] (defScope s_law) := ⟨rfl, rfl, rfl, by decide +kernel, rfl, by decide +kernel, by decide +kernel⟩
set_option maxHeartbeats 4000000 in
theorem ok_Law  (F : FunD K "law" "law" s_law .none f fd) (T : Txt K mg C_Ring C_Fractions C_Rests C_Order C_Degrees C_Tails C_Weights) (c_Cell : Cal P w K mg base CX0 1 "_law_cell_at" ["_law_script", "_law_k"] [] (spCell K)) (c_LPr : Cal P w K mg base CX0 2 "_law_prime" ["_law_cell"] [] spLPr) (c_Way : Cal P w K mg base CX0 1 "_law_way" ["_law_cell", "_law_many"] [] spWay) (c_Pts : Cal P w K mg base CX0 4 "_law_parts" ["_law_p", "_law_many", "_law_cells", "_law_most", "_law_highest"] [] (spPts K)) (c_LFld : Cal P w K mg base CX0 5 "_law_field" ["_law_p"] [] (spLFld C_Fractions C_Rests)) (c_LOrd : Cal P w K mg base CX0 3 "_law_order" ["_law_way_here"] [] (spLOrd K C_Order C_Degrees C_Tails C_Weights)) (k_RgInit : Mak P w K mg base (CXe P w) 2 "Ring" C_Ring ["self", "many", "field", "order"] [] (spRgInit C_Ring E_NoRing C_Order C_Degrees C_Tails C_Weights)) {Pt : Addr} (hord : ∀ (kd : Int) (ws : List Int), 0 ≤ kd → kd < 4 → Nn ws → (∀ x ∈ ws, x < 10 ^ 31) → ∃ C, OrdE P w K mg base C (AtK C_Order C_Degrees C_Tails C_Weights kd ws) (rkk kd ws) (fbK kd ws)) (cSh : Cal P w K mg base CX0 8 "shown" ["ring", "f"] [] (spShown C_Ring C_Fractions C_Rests C_Order C_Degrees C_Tails C_Weights)) (cTx : Cal P w K mg base CX0 8 "_law_text" ["_law_p", "_law_way_here", "_law_f"] [] (spLTx Pt)) : FnOk P w K mg base CX0 10 f fd ["_law_script"] (spLaw K Pt) := by
  refine F.okN (k := 9) scLaw (fun vs H Q E h => ?_) (fun cdv A outer s H vs Q E hr h => ?_)
  · obtain ⟨a, ns, rfl, _⟩ := h
    rfl
  obtain ⟨a, ns, rfl, h⟩ := h
  refine ⟨_, (pss_cons (ps_set (i := 1) scLaw.nd rfl (Or.inl rfl) (pe_c c_LPr hr pass00 .nil ((pa_cons (pe_c c_Cell hr pass00 .nil ((pa_cons (pv 0) (pa_cons (pe_int) pa_nil)))) pa_nil))))
    (pss_cons (ps_set (i := 2) scLaw.nd rfl (Or.inl rfl) (pe_op op_add (pe_int) (pe_op op_mod (pe_c c_Cell hr pass00 .nil ((pa_cons (pv 0) (pa_cons (pe_int) pa_nil)))) (pe_int))))
    (pss_cons (ps_set (i := 3) scLaw.nd rfl (Or.inl rfl) (pe_c c_Way hr pass00 .nil ((pa_cons (pe_c c_Cell hr pass00 .nil ((pa_cons (pv 0) (pa_cons (pe_int) pa_nil)))) (pa_cons (pv 2) pa_nil)))))
    (pss_cons (ps_set (i := 4) scLaw.nd rfl (Or.inl rfl) (pe_c c_Pts hr pass00 .nil ((pa_cons (pv 1) (pa_cons (pv 2) (pa_cons (pe_slice (sl_listK (K := K) rfl) (pv 0) (po_some (pe_int)) (po_some (pe_int))) (pa_cons (pe_op op_pow (pe_int) (pe_int)) (pa_cons (pe_int) pa_nil))))))))
    (pss_cons (ps_set (i := 5) scLaw.nd rfl (Or.inl rfl) (pe_callTy call_dictD rfl T.b_dict (by kernel_rfl) ((pa_cons (pv 4) pa_nil))))
    (pss_cons (ps_set (i := 6) scLaw.nd rfl (Or.inl rfl) (pe_c cSh hr pass00 .nil ((pa_cons (pe_mk k_RgInit hr passF .nil ((pa_cons (pv 2) (pa_cons (pe_c c_LFld hr pass00 .nil ((pa_cons (pv 1) pa_nil))) (pa_cons (pe_c c_LOrd hr pass00 .nil ((pa_cons (pv 3) pa_nil))) pa_nil))))) (pa_cons (pv 5) pa_nil)))))
    (pss_one (ps_ret (pe_and (pe_callB (call_isinstK (K := K) rfl) rfl T.b_isinstance (by kernel_rfl) ((pa_cons (pv 6) (pa_cons (pe_bltn (v := .ty "str") rfl T.b_str (by kernel_rfl) rfl) pa_nil)))) (pe_and (pe_cmpR op_eq (pv 6) (pe_c cTx hr pass00 .nil ((pa_cons (pv 1) (pa_cons (pv 3) (pa_cons (pv 4) pa_nil))))) (nomark _)) (pe_one (pe_cmpR (op_eqDT hr.units) (pv 5) (pv 4) (nomark _))))))))))))), ?_⟩
  obtain ⟨hS, h63, hT, k⟩ := h
  refine ⟨_, rfl, a, ns, 0, rfl, hS, by decide, _, rfl, fun n H1 e1 n2 n1 => ?_⟩
  refine ⟨_, rfl, a, ns, 1, rfl, e1.seq hS, by decide, _, _, rfl, rfl, (by show (0 : Int) < 4; decide), _, _, rfl, rfl, ?_⟩
  obtain ⟨m, em, m1, m4⟩ : ∃ m : Nat, 1 + cellOf ns 1 % 4 = (m : Int) ∧ 1 ≤ m ∧ m ≤ 4 := ⟨(1 + cellOf ns 1 % 4).toNat, by omega, by omega, by omega⟩
  dsimp only [gName]
  rw [em]
  refine ⟨_, rfl, a, ns, 2, rfl, e1.seq hS, by decide, _, rfl, cellOf ns 2, m, rfl, m4, fun r l ws H2 e2 hr2 hl2 lw wn wb => ?_⟩
  have g2 := e1.trans e2
  obtain ⟨cs, ec, lc⟩ := cut_map ns (some 3) (some 63)
  refine ⟨_, rfl, _, rfl, _, rfl, 3, rfl, 63, rfl, a, _, rfl, g2.seq hS, fun q hq => ?_⟩
  rw [ec]
  have e3 : Same H2 (upd H2 q (.lst (cs.map V.int))) := Same.upd hq
  have hq3 : (upd H2 q (HO.lst (cs.map V.int))) q = some (.lst (cs.map V.int)) := upd_same
  generalize upd H2 q (HO.lst (cs.map V.int)) = H3 at e3 hq3
  have g3 := g2.trans e3
  obtain ⟨CO, O⟩ := hord (cellOf ns 2 % 4) ws (by omega) (by omega) wn wb
  refine ⟨_, _, rfl, rfl, ⟨by decide, by decide, by decide⟩, n, m, q, cs, _, rfl, n2, n1, m1, m4, SqL.of hq3, by omega, rfl, fun d kvs T1 H4 e4 hd4 pf4 l64 => ?_⟩
  dsimp only [gName]
  refine ⟨_, rfl, d, kvs, rfl, hd4, pf4.hds m1 m4, fun dh nh => ?_⟩
  have e5 : Same H4 (upd H4 dh (.dT kvs)) := Same.upd nh
  have hdh : (upd H4 dh (HO.dT kvs)) dh = some (.dT kvs) := upd_same
  generalize upd H4 dh (HO.dT kvs) = H5 at e5 hdh
  have g5 := (e3.trans e4).trans e5
  dsimp only [gName]
  refine ⟨_, rfl, _, rfl, n, rfl, n2, n1, fun pf H6 e6 hpf => ?_⟩
  have g6 := g5.trans e6
  refine ⟨_, rfl, r, l, cellOf ns 2 % 4, ws, rfl, g6 _ _ hr2, by omega, by omega, g6 _ _ hl2, by omega, wn, fun po H7 e7 hat x dx nx ndx ne => ?_⟩
  have e8 : Same H7 (upd (upd H7 dx (.own x)) x (.ins C_Ring dx [])) := fun b o hb => by
    rw [upd_ne (ne_of_none hb nx), upd_ne (ne_of_none hb ndx)]; exact hb
  refine ⟨x, dx, m, pf, po, cellOf ns 2 % 4, ws, rfl, upd_same, by omega, by omega, wn, wb, O.oC.same e8 hat, .inl ⟨⟨by omega, by omega, ?_⟩, fun H9 h1 h2 => ⟨rfl, ?_⟩⟩⟩
  · unfold fbK
    split
    · exact decide_eq_true (by omega)
    · rfl
  have e9 : Same H7 H9 := fun b o hb => h2 b o (e8 _ _ hb) (ne_of_none hb nx)
  have g9 := e7.trans e9
  have g59 := e6.trans g9
  refine ⟨_, rfl, x, dh, m, n, cellOf ns 2 % 4, ws, kvs, T1, rfl, ⟨⟨pf, po, ⟨dx, h1⟩, atn_same g9 hpf, O.oC.same e9 hat⟩, m1, m4⟩, by omega, by omega, wn, wb, g59 _ _ hdh, (pf4.same e5).same g59, l64, fun H10 ts e10 st => ?_⟩
  have f10 := g59.trans e10
  dsimp only [gName]
  refine ⟨_, rfl, _, _, _, _, _, rfl, rfl, .str _, T.kss, ?_⟩
  refine ⟨_, rfl, iteT ?_⟩
  have gA := g5.trans f10
  have gB := e5.trans f10
  have pf10 := pf4.same gB
  have hT10 := (g2.trans gA) _ _ hT
  refine ⟨_, rfl, _, rfl, _, rfl, _, rfl, n, r, d, l, m, cellOf ns 2 % 4, ws, kvs, T1, rfl, gA _ _ hr2, gA _ _ hl2, n2, m1, m4, by omega, by omega, wn, wb, gB _ _ hd4, pf10, l64, hT10, fun H11 us b11 st2 => ?_⟩
  have eu : ts = us := Srt.one (fun a ha b hb q1 q2 => rkk_inj (n := m) (by omega) (by omega) wn (pf4.tm ha).1.1 (pf4.tm hb).1.1 q1 q2) st st2
  subst eu
  refine ⟨rfl, _, rfl, ?_⟩
  rw [decide_eq_true rfl]
  refine iteT ?_
  have hd11 := b11 _ _ (gB _ _ hd4) (ne_of (gB _ _ hd4) hT10 (by intro z; cases z))
  have hdh11 := b11 _ _ (f10 _ _ hdh) (ne_of (f10 _ _ hdh) hT10 (by intro z; cases z))
  have pf11 : ∀ p ∈ kvs, ∃ t, p.1 = ky t ∧ DrT m t ∧ NV n H11 p.2 (T1 t) ∧ NOk n (T1 t) := fun p hp => by
    obtain ⟨t, q1, q2, q3, q4⟩ := pf10.row p hp
    refine ⟨t, q1, q2, ?_, q4⟩
    by_cases c : n = 0
    · subst c
      obtain ⟨rr, z1, z2⟩ := nv_0.mp q3
      exact nv_0.mpr ⟨rr, z1, b11 _ _ z2 (ne_of z2 hT10 (by intro z; cases z))⟩
    · exact (nv_n c).mpr ((nv_n c).mp q3)
  have kd := kds_pf (K := K) pf11
  have fl : Flats (kvs.map fun p => (p.1, dtZ n (T1 (un p.1)))) := fun p hp => by
    obtain ⟨q, _, rfl⟩ := List.mem_map.mp hp
    exact ⟨(dtZ_nm _ _).lay, (dtZ_nm _ _).dep⟩
  refine ⟨_, rfl, _, rfl, dh, d, kvs, kvs, _, _, rfl, rfl, .inl hdh11, .inl hd11, kd, kd, fl, fl, ?_⟩
  rw [eqKD_self (by rw [List.map_map]; exact pf4.nd) (fun p hp => by obtain ⟨q, _, rfl⟩ := List.mem_map.mp hp; exact dtZ_nm _ _)]
  exact k _
end
end K6
def PySem.W.Fast.tw893649945278041286 : Unit := ()
def PySem.W.Fast.tw5876065066041133941 : Unit := ()
def PySem.W.Fast.tw17541997713895725845 : Unit := ()
def PySem.W.Fast.tw16949942330066222777 : Unit := ()
def PySem.W.Fast.tw11827797881420902411 : Unit := ()
def PySem.W.Fast.tw14738725984812978186 : Unit := ()
def PySem.W.Fast.tw2847766867607809806 : Unit := ()
def PySem.W.Fast.tw16299330724077401574 : Unit := ()
def PySem.W.Fast.tw13493028580260079066 : Unit := ()
def PySem.W.Fast.tw11615561946971145804 : Unit := ()
def PySem.W.Fast.tw11730724483443693083 : Unit := ()
def PySem.W.Fast.tw4586970008593148473 : Unit := ()
def PySem.W.Fast.tw12851321208895116214 : Unit := ()
def PySem.W.Fast.tw584860917890056341 : Unit := ()
def PySem.W.Fast.tw5177251485101826683 : Unit := ()
def PySem.W.Fast.tw17948109521011824998 : Unit := ()
def PySem.W.Fast.tw17446496283577091166 : Unit := ()
def PySem.W.Fast.tw10053788130803671082 : Unit := ()
namespace K6
open PySem L2
set_option maxHeartbeats 8000000 in
theorem all_mk {l : PySem.W.OpenLaw} {w : World} {K : PySem.W.Frag} {h : Heap} {mg : Str → Option Value} {fa : Addr} (X : K.In h) (G : h.Ns mainGlobals mg) (hfa : mg "law" = some (.ref fa))
    {C_Ring : Addr} {C_Fractions : Addr} {C_Rests : Addr} {C_Order : Addr} {C_Degrees : Addr} {C_Tails : Addr} {C_Weights : Addr} {f_0 : Addr} {od_0 an_0 : Option Addr} {sl_0 : Array (Option Value)} {oc_0 kV_0 dc_0 pm_0 cd_0 ct_0 : Value} {f_1 : Addr} {od_1 an_1 : Option Addr} {sl_1 : Array (Option Value)} {oc_1 kV_1 dc_1 pm_1 cd_1 ct_1 : Value} {f_2 : Addr} {od_2 an_2 : Option Addr} {sl_2 : Array (Option Value)} {oc_2 kV_2 dc_2 pm_2 cd_2 ct_2 : Value} {f_3 : Addr} {od_3 an_3 : Option Addr} {sl_3 : Array (Option Value)} {oc_3 kV_3 dc_3 pm_3 cd_3 ct_3 : Value} {f_4 : Addr} {od_4 an_4 : Option Addr} {sl_4 : Array (Option Value)} {oc_4 kV_4 dc_4 pm_4 cd_4 ct_4 : Value} {f_5 : Addr} {od_5 an_5 : Option Addr} {sl_5 : Array (Option Value)} {oc_5 kV_5 dc_5 pm_5 cd_5 ct_5 : Value} {f_6 : Addr} {od_6 an_6 : Option Addr} {sl_6 : Array (Option Value)} {oc_6 kV_6 dc_6 pm_6 cd_6 ct_6 : Value} {f_7 : Addr} {od_7 an_7 : Option Addr} {sl_7 : Array (Option Value)} {oc_7 kV_7 dc_7 pm_7 cd_7 ct_7 : Value} {f_8 : Addr} {od_8 an_8 : Option Addr} {sl_8 : Array (Option Value)} {oc_8 kV_8 dc_8 pm_8 cd_8 ct_8 : Value} {f_9 : Addr} {od_9 an_9 : Option Addr} {sl_9 : Array (Option Value)} {oc_9 kV_9 dc_9 pm_9 cd_9 ct_9 : Value} {f_10 : Addr} {od_10 an_10 : Option Addr} {sl_10 : Array (Option Value)} {oc_10 kV_10 dc_10 pm_10 cd_10 ct_10 : Value} {f_11 : Addr} {od_11 an_11 : Option Addr} {sl_11 : Array (Option Value)} {oc_11 kV_11 dc_11 pm_11 cd_11 ct_11 : Value} {f_12 : Addr} {od_12 an_12 : Option Addr} {sl_12 : Array (Option Value)} {oc_12 kV_12 dc_12 pm_12 cd_12 ct_12 : Value} {f_13 : Addr} {od_13 an_13 : Option Addr} {sl_13 : Array (Option Value)} {oc_13 kV_13 dc_13 pm_13 cd_13 ct_13 : Value} {f_14 : Addr} {od_14 an_14 : Option Addr} {sl_14 : Array (Option Value)} {oc_14 kV_14 dc_14 pm_14 cd_14 ct_14 : Value} {f_15 : Addr} {od_15 an_15 : Option Addr} {sl_15 : Array (Option Value)} {oc_15 kV_15 dc_15 pm_15 cd_15 ct_15 : Value} {f_16 : Addr} {od_16 an_16 : Option Addr} {sl_16 : Array (Option Value)} {oc_16 kV_16 dc_16 pm_16 cd_16 ct_16 : Value} {Cq_16 : Addr} {f_17 : Addr} {od_17 an_17 : Option Addr} {sl_17 : Array (Option Value)} {oc_17 kV_17 dc_17 pm_17 cd_17 ct_17 : Value} {f_18 : Addr} {od_18 an_18 : Option Addr} {sl_18 : Array (Option Value)} {oc_18 kV_18 dc_18 pm_18 cd_18 ct_18 : Value} {f_19 : Addr} {od_19 an_19 : Option Addr} {sl_19 : Array (Option Value)} {oc_19 kV_19 dc_19 pm_19 cd_19 ct_19 : Value} {f_20 : Addr} {od_20 an_20 : Option Addr} {sl_20 : Array (Option Value)} {oc_20 kV_20 dc_20 pm_20 cd_20 ct_20 : Value} {f_21 : Addr} {od_21 an_21 : Option Addr} {sl_21 : Array (Option Value)} {oc_21 kV_21 dc_21 pm_21 cd_21 ct_21 : Value} {f_22 : Addr} {od_22 an_22 : Option Addr} {sl_22 : Array (Option Value)} {oc_22 kV_22 dc_22 pm_22 cd_22 ct_22 : Value} {f_23 : Addr} {od_23 an_23 : Option Addr} {sl_23 : Array (Option Value)} {oc_23 kV_23 dc_23 pm_23 cd_23 ct_23 : Value} {f_24 : Addr} {od_24 an_24 : Option Addr} {sl_24 : Array (Option Value)} {oc_24 kV_24 dc_24 pm_24 cd_24 ct_24 : Value} {f_25 : Addr} {od_25 an_25 : Option Addr} {sl_25 : Array (Option Value)} {oc_25 kV_25 dc_25 pm_25 cd_25 ct_25 : Value} {f_26 : Addr} {od_26 an_26 : Option Addr} {sl_26 : Array (Option Value)} {oc_26 kV_26 dc_26 pm_26 cd_26 ct_26 : Value} {f_27 : Addr} {od_27 an_27 : Option Addr} {sl_27 : Array (Option Value)} {oc_27 kV_27 dc_27 pm_27 cd_27 ct_27 : Value} {f_28 : Addr} {od_28 an_28 : Option Addr} {sl_28 : Array (Option Value)} {oc_28 kV_28 dc_28 pm_28 cd_28 ct_28 : Value} {f_29 : Addr} {od_29 an_29 : Option Addr} {sl_29 : Array (Option Value)} {oc_29 kV_29 dc_29 pm_29 cd_29 ct_29 : Value} {f_30 : Addr} {od_30 an_30 : Option Addr} {sl_30 : Array (Option Value)} {oc_30 kV_30 dc_30 pm_30 cd_30 ct_30 : Value} {f_31 : Addr} {od_31 an_31 : Option Addr} {sl_31 : Array (Option Value)} {oc_31 kV_31 dc_31 pm_31 cd_31 ct_31 : Value} {f_32 : Addr} {od_32 an_32 : Option Addr} {sl_32 : Array (Option Value)} {oc_32 kV_32 dc_32 pm_32 cd_32 ct_32 : Value} {f_33 : Addr} {od_33 an_33 : Option Addr} {sl_33 : Array (Option Value)} {oc_33 kV_33 dc_33 pm_33 cd_33 ct_33 : Value} {f_34 : Addr} {od_34 an_34 : Option Addr} {sl_34 : Array (Option Value)} {oc_34 kV_34 dc_34 pm_34 cd_34 ct_34 : Value} {E_NoOrder : Addr} {bm_NoOrder : List Value} {nid_NoOrder : String} {ini_NoOrder B_NoOrder : String} {E_NoPrime : Addr} {bm_NoPrime : List Value} {nid_NoPrime : String} {ini_NoPrime B_NoPrime : String} {E_NoRing : Addr} {bm_NoRing : List Value} {nid_NoRing : String} {ini_NoRing B_NoRing : String} {tg_GREATEST_PRIME : Tok} {tg_LETTERS : Tok}
    (a_Ring : PySem.W.nsIn K mainGlobals "Ring" = some (some (.ref C_Ring)))
    (pg_Ring : PySem.W.plainGet K C_Ring Str.empty = true)
    (hd_Ring : PySem.W.hasDictIn K C_Ring = true)
    (po_Ring : PySem.W.plainOver K C_Ring = true)
    (sa_Ring : PySem.W.findIn K (.ref C_Ring) "__setattr__" = some (some (.builtin "object.__setattr__")))
    (mk_Ring : PySem.W.makesIn K C_Ring = true)
    (kc_Ring : PySem.W.keepIn K (.ref C_Ring) = true)
    (na_Ring_many : PySem.W.findIn K (.ref C_Ring) "many" = some none)
    (na_Ring_field : PySem.W.findIn K (.ref C_Ring) "field" = some none)
    (na_Ring_order : PySem.W.findIn K (.ref C_Ring) "order" = some none)
    (a_Fractions : PySem.W.nsIn K mainGlobals "Fractions" = some (some (.ref C_Fractions)))
    (pg_Fractions : PySem.W.plainGet K C_Fractions Str.empty = true)
    (hd_Fractions : PySem.W.hasDictIn K C_Fractions = true)
    (po_Fractions : PySem.W.plainOver K C_Fractions = true)
    (sa_Fractions : PySem.W.findIn K (.ref C_Fractions) "__setattr__" = some (some (.builtin "object.__setattr__")))
    (mk_Fractions : PySem.W.makesIn K C_Fractions = true)
    (kc_Fractions : PySem.W.keepIn K (.ref C_Fractions) = true)
    (na_Fractions_prime : PySem.W.findIn K (.ref C_Fractions) "prime" = some none)
    (a_Rests : PySem.W.nsIn K mainGlobals "Rests" = some (some (.ref C_Rests)))
    (pg_Rests : PySem.W.plainGet K C_Rests Str.empty = true)
    (hd_Rests : PySem.W.hasDictIn K C_Rests = true)
    (po_Rests : PySem.W.plainOver K C_Rests = true)
    (sa_Rests : PySem.W.findIn K (.ref C_Rests) "__setattr__" = some (some (.builtin "object.__setattr__")))
    (mk_Rests : PySem.W.makesIn K C_Rests = true)
    (kc_Rests : PySem.W.keepIn K (.ref C_Rests) = true)
    (na_Rests_prime : PySem.W.findIn K (.ref C_Rests) "prime" = some none)
    (a_Order : PySem.W.nsIn K mainGlobals "Order" = some (some (.ref C_Order)))
    (pg_Order : PySem.W.plainGet K C_Order Str.empty = true)
    (hd_Order : PySem.W.hasDictIn K C_Order = true)
    (po_Order : PySem.W.plainOver K C_Order = true)
    (sa_Order : PySem.W.findIn K (.ref C_Order) "__setattr__" = some (some (.builtin "object.__setattr__")))
    (mk_Order : PySem.W.makesIn K C_Order = true)
    (in_Order : PySem.W.findIn K (.ref C_Order) "__init__" = some (some (.builtin "object.__init__")))
    (kc_Order : PySem.W.keepIn K (.ref C_Order) = true)
    (a_Degrees : PySem.W.nsIn K mainGlobals "Degrees" = some (some (.ref C_Degrees)))
    (pg_Degrees : PySem.W.plainGet K C_Degrees Str.empty = true)
    (hd_Degrees : PySem.W.hasDictIn K C_Degrees = true)
    (po_Degrees : PySem.W.plainOver K C_Degrees = true)
    (sa_Degrees : PySem.W.findIn K (.ref C_Degrees) "__setattr__" = some (some (.builtin "object.__setattr__")))
    (mk_Degrees : PySem.W.makesIn K C_Degrees = true)
    (in_Degrees : PySem.W.findIn K (.ref C_Degrees) "__init__" = some (some (.builtin "object.__init__")))
    (kc_Degrees : PySem.W.keepIn K (.ref C_Degrees) = true)
    (a_Tails : PySem.W.nsIn K mainGlobals "Tails" = some (some (.ref C_Tails)))
    (pg_Tails : PySem.W.plainGet K C_Tails Str.empty = true)
    (hd_Tails : PySem.W.hasDictIn K C_Tails = true)
    (po_Tails : PySem.W.plainOver K C_Tails = true)
    (sa_Tails : PySem.W.findIn K (.ref C_Tails) "__setattr__" = some (some (.builtin "object.__setattr__")))
    (mk_Tails : PySem.W.makesIn K C_Tails = true)
    (in_Tails : PySem.W.findIn K (.ref C_Tails) "__init__" = some (some (.builtin "object.__init__")))
    (kc_Tails : PySem.W.keepIn K (.ref C_Tails) = true)
    (a_Weights : PySem.W.nsIn K mainGlobals "Weights" = some (some (.ref C_Weights)))
    (pg_Weights : PySem.W.plainGet K C_Weights Str.empty = true)
    (hd_Weights : PySem.W.hasDictIn K C_Weights = true)
    (po_Weights : PySem.W.plainOver K C_Weights = true)
    (sa_Weights : PySem.W.findIn K (.ref C_Weights) "__setattr__" = some (some (.builtin "object.__setattr__")))
    (mk_Weights : PySem.W.makesIn K C_Weights = true)
    (kc_Weights : PySem.W.keepIn K (.ref C_Weights) = true)
    (na_Weights_weights : PySem.W.findIn K (.ref C_Weights) "weights" = some none)
    (a_0 : PySem.W.nsIn K mainGlobals "degree" = some (some (.ref f_0)))
    (l_0 : K.lookup f_0 = some ⟨oc_0, od_0, .func (PySem.W.fnOf "degree" "degree" (defArgs s_degree) (defBody s_degree) (defScope s_degree) .none kV_0 dc_0 pm_0 an_0 cd_0 ct_0), sl_0⟩)
    (c_0 : PySem.W.codeIn K cd_0 "degree" = true)
    (k_0 : PySem.W.keepIn K (.ref f_0) = true)
    (a_1 : PySem.W.nsIn K mainGlobals "is_below_nought" = some (some (.ref f_1)))
    (l_1 : K.lookup f_1 = some ⟨oc_1, od_1, .func (PySem.W.fnOf "is_below_nought" "is_below_nought" (defArgs s_is_below_nought) (defBody s_is_below_nought) (defScope s_is_below_nought) .none kV_1 dc_1 pm_1 an_1 cd_1 ct_1), sl_1⟩)
    (c_1 : PySem.W.codeIn K cd_1 "is_below_nought" = true)
    (k_1 : PySem.W.keepIn K (.ref f_1) = true)
    (a_2 : PySem.W.nsIn K mainGlobals "number_shown" = some (some (.ref f_2)))
    (l_2 : K.lookup f_2 = some ⟨oc_2, od_2, .func (PySem.W.fnOf "number_shown" "number_shown" (defArgs s_number_shown) (defBody s_number_shown) (defScope s_number_shown) .none kV_2 dc_2 pm_2 an_2 cd_2 ct_2), sl_2⟩)
    (c_2 : PySem.W.codeIn K cd_2 "number_shown" = true)
    (k_2 : PySem.W.keepIn K (.ref f_2) = true)
    (a_3 : PySem.W.nsIn K mainGlobals "power_shown" = some (some (.ref f_3)))
    (l_3 : K.lookup f_3 = some ⟨oc_3, od_3, .func (PySem.W.fnOf "power_shown" "power_shown" (defArgs s_power_shown) (defBody s_power_shown) (defScope s_power_shown) .none kV_3 dc_3 pm_3 an_3 cd_3 ct_3), sl_3⟩)
    (c_3 : PySem.W.codeIn K cd_3 "power_shown" = true)
    (k_3 : PySem.W.keepIn K (.ref f_3) = true)
    (a_4_Ring : PySem.W.findIn K (.ref C_Ring) "letters" = some (some (.ref f_4)))
    (i_4 : PySem.W.isFn K (.ref f_4) = true)
    (l_4 : K.lookup f_4 = some ⟨oc_4, od_4, .func (PySem.W.fnOf "letters" "Ring.letters" (defArgs s_Ring_letters) (defBody s_Ring_letters) (defScope s_Ring_letters) .none kV_4 dc_4 pm_4 an_4 cd_4 ct_4), sl_4⟩)
    (c_4 : PySem.W.codeIn K cd_4 "Ring.letters" = true)
    (k_4 : PySem.W.keepIn K (.ref f_4) = true)
    (a_5 : PySem.W.nsIn K mainGlobals "part_shown" = some (some (.ref f_5)))
    (l_5 : K.lookup f_5 = some ⟨oc_5, od_5, .func (PySem.W.fnOf "part_shown" "part_shown" (defArgs s_part_shown) (defBody s_part_shown) (defScope s_part_shown) .none kV_5 dc_5 pm_5 an_5 cd_5 ct_5), sl_5⟩)
    (c_5 : PySem.W.codeIn K cd_5 "part_shown" = true)
    (k_5 : PySem.W.keepIn K (.ref f_5) = true)
    (a_6_Order : PySem.W.findIn K (.ref C_Order) "rank" = some (some (.ref f_6)))
    (i_6 : PySem.W.isFn K (.ref f_6) = true)
    (bg_6 : PySem.W.specialIn K (.ref f_6) "__get__" = some (some (.builtin "function.__get__")))
    (bt_6 : PySem.W.takesIn K (.ref f_6) = some false)
    (l_6 : K.lookup f_6 = some ⟨oc_6, od_6, .func (PySem.W.fnOf "rank" "Order.rank" (defArgs s_Order_rank) (defBody s_Order_rank) (defScope s_Order_rank) .none kV_6 dc_6 pm_6 an_6 cd_6 ct_6), sl_6⟩)
    (c_6 : PySem.W.codeIn K cd_6 "Order.rank" = true)
    (k_6 : PySem.W.keepIn K (.ref f_6) = true)
    (a_7_Degrees : PySem.W.findIn K (.ref C_Degrees) "rank" = some (some (.ref f_7)))
    (i_7 : PySem.W.isFn K (.ref f_7) = true)
    (bg_7 : PySem.W.specialIn K (.ref f_7) "__get__" = some (some (.builtin "function.__get__")))
    (bt_7 : PySem.W.takesIn K (.ref f_7) = some false)
    (l_7 : K.lookup f_7 = some ⟨oc_7, od_7, .func (PySem.W.fnOf "rank" "Degrees.rank" (defArgs s_Degrees_rank) (defBody s_Degrees_rank) (defScope s_Degrees_rank) .none kV_7 dc_7 pm_7 an_7 cd_7 ct_7), sl_7⟩)
    (c_7 : PySem.W.codeIn K cd_7 "Degrees.rank" = true)
    (k_7 : PySem.W.keepIn K (.ref f_7) = true)
    (a_8_Tails : PySem.W.findIn K (.ref C_Tails) "rank" = some (some (.ref f_8)))
    (i_8 : PySem.W.isFn K (.ref f_8) = true)
    (bg_8 : PySem.W.specialIn K (.ref f_8) "__get__" = some (some (.builtin "function.__get__")))
    (bt_8 : PySem.W.takesIn K (.ref f_8) = some false)
    (l_8 : K.lookup f_8 = some ⟨oc_8, od_8, .func (PySem.W.fnOf "rank" "Tails.rank" (defArgs s_Tails_rank) (defBody s_Tails_rank) (defScope s_Tails_rank) .none kV_8 dc_8 pm_8 an_8 cd_8 ct_8), sl_8⟩)
    (c_8 : PySem.W.codeIn K cd_8 "Tails.rank" = true)
    (k_8 : PySem.W.keepIn K (.ref f_8) = true)
    (a_9_Weights : PySem.W.findIn K (.ref C_Weights) "__init__" = some (some (.ref f_9)))
    (i_9 : PySem.W.isFn K (.ref f_9) = true)
    (l_9 : K.lookup f_9 = some ⟨oc_9, od_9, .func (PySem.W.fnOf "__init__" "Weights.__init__" (defArgs s_Weights___init__) (defBody s_Weights___init__) (defScope s_Weights___init__) .none kV_9 dc_9 pm_9 an_9 cd_9 ct_9), sl_9⟩)
    (c_9 : PySem.W.codeIn K cd_9 "Weights.__init__" = true)
    (k_9 : PySem.W.keepIn K (.ref f_9) = true)
    (a_10_Weights : PySem.W.findIn K (.ref C_Weights) "rank" = some (some (.ref f_10)))
    (i_10 : PySem.W.isFn K (.ref f_10) = true)
    (bg_10 : PySem.W.specialIn K (.ref f_10) "__get__" = some (some (.builtin "function.__get__")))
    (bt_10 : PySem.W.takesIn K (.ref f_10) = some false)
    (l_10 : K.lookup f_10 = some ⟨oc_10, od_10, .func (PySem.W.fnOf "rank" "Weights.rank" (defArgs s_Weights_rank) (defBody s_Weights_rank) (defScope s_Weights_rank) .none kV_10 dc_10 pm_10 an_10 cd_10 ct_10), sl_10⟩)
    (c_10 : PySem.W.codeIn K cd_10 "Weights.rank" = true)
    (k_10 : PySem.W.keepIn K (.ref f_10) = true)
    (a_11_Degrees : PySem.W.findIn K (.ref C_Degrees) "falling" = some (some (.ref f_11)))
    (a_11_Order : PySem.W.findIn K (.ref C_Order) "falling" = some (some (.ref f_11)))
    (a_11_Tails : PySem.W.findIn K (.ref C_Tails) "falling" = some (some (.ref f_11)))
    (a_11_Weights : PySem.W.findIn K (.ref C_Weights) "falling" = some (some (.ref f_11)))
    (i_11 : PySem.W.isFn K (.ref f_11) = true)
    (l_11 : K.lookup f_11 = some ⟨oc_11, od_11, .func (PySem.W.fnOf "falling" "Order.falling" (defArgs s_Order_falling) (defBody s_Order_falling) (defScope s_Order_falling) .none kV_11 dc_11 pm_11 an_11 cd_11 ct_11), sl_11⟩)
    (c_11 : PySem.W.codeIn K cd_11 "Order.falling" = true)
    (k_11 : PySem.W.keepIn K (.ref f_11) = true)
    (a_12_Degrees : PySem.W.findIn K (.ref C_Degrees) "fits" = some (some (.ref f_12)))
    (a_12_Order : PySem.W.findIn K (.ref C_Order) "fits" = some (some (.ref f_12)))
    (a_12_Tails : PySem.W.findIn K (.ref C_Tails) "fits" = some (some (.ref f_12)))
    (i_12 : PySem.W.isFn K (.ref f_12) = true)
    (l_12 : K.lookup f_12 = some ⟨oc_12, od_12, .func (PySem.W.fnOf "fits" "Order.fits" (defArgs s_Order_fits) (defBody s_Order_fits) (defScope s_Order_fits) .none kV_12 dc_12 pm_12 an_12 cd_12 ct_12), sl_12⟩)
    (c_12 : PySem.W.codeIn K cd_12 "Order.fits" = true)
    (k_12 : PySem.W.keepIn K (.ref f_12) = true)
    (a_13_Weights : PySem.W.findIn K (.ref C_Weights) "fits" = some (some (.ref f_13)))
    (i_13 : PySem.W.isFn K (.ref f_13) = true)
    (l_13 : K.lookup f_13 = some ⟨oc_13, od_13, .func (PySem.W.fnOf "fits" "Weights.fits" (defArgs s_Weights_fits) (defBody s_Weights_fits) (defScope s_Weights_fits) .none kV_13 dc_13 pm_13 an_13 cd_13 ct_13), sl_13⟩)
    (c_13 : PySem.W.codeIn K cd_13 "Weights.fits" = true)
    (k_13 : PySem.W.keepIn K (.ref f_13) = true)
    (a_14_Ring : PySem.W.findIn K (.ref C_Ring) "__init__" = some (some (.ref f_14)))
    (i_14 : PySem.W.isFn K (.ref f_14) = true)
    (l_14 : K.lookup f_14 = some ⟨oc_14, od_14, .func (PySem.W.fnOf "__init__" "Ring.__init__" (defArgs s_Ring___init__) (defBody s_Ring___init__) (defScope s_Ring___init__) .none kV_14 dc_14 pm_14 an_14 cd_14 ct_14), sl_14⟩)
    (c_14 : PySem.W.codeIn K cd_14 "Ring.__init__" = true)
    (k_14 : PySem.W.keepIn K (.ref f_14) = true)
    (a_15 : PySem.W.nsIn K mainGlobals "is_prime" = some (some (.ref f_15)))
    (l_15 : K.lookup f_15 = some ⟨oc_15, od_15, .func (PySem.W.fnOf "is_prime" "is_prime" (defArgs s_is_prime) (defBody s_is_prime) (defScope s_is_prime) .none kV_15 dc_15 pm_15 an_15 cd_15 ct_15), sl_15⟩)
    (c_15 : PySem.W.codeIn K cd_15 "is_prime" = true)
    (k_15 : PySem.W.keepIn K (.ref f_15) = true)
    (aq_16 : PySem.W.nsIn K mainGlobals "Field" = some (some (.ref Cq_16)))
    (rq_16 : PySem.W.readsIn K Cq_16 (.type "type") = true)
    (fq_16 : PySem.W.findCls K (.ref Cq_16) (.type "type") "__init__" = some (.val (.ref f_16)))
    (sq_16 : PySem.W.specialIn K (.ref Cq_16) "__getattribute__" = some (some (.builtin "type.__getattribute__")))
    (i_16 : PySem.W.isFn K (.ref f_16) = true)
    (l_16 : K.lookup f_16 = some ⟨oc_16, od_16, .func (PySem.W.fnOf "__init__" "Field.__init__" (defArgs s_Field___init__) (defBody s_Field___init__) (defScope s_Field___init__) .none kV_16 dc_16 pm_16 an_16 cd_16 ct_16), sl_16⟩)
    (c_16 : PySem.W.codeIn K cd_16 "Field.__init__" = true)
    (k_16 : PySem.W.keepIn K (.ref f_16) = true)
    (a_17_Fractions : PySem.W.findIn K (.ref C_Fractions) "__init__" = some (some (.ref f_17)))
    (i_17 : PySem.W.isFn K (.ref f_17) = true)
    (l_17 : K.lookup f_17 = some ⟨oc_17, od_17, .func (PySem.W.fnOf "__init__" "Fractions.__init__" (defArgs s_Fractions___init__) (defBody s_Fractions___init__) (defScope s_Fractions___init__) .none kV_17 dc_17 pm_17 an_17 cd_17 ct_17), sl_17⟩)
    (c_17 : PySem.W.codeIn K cd_17 "Fractions.__init__" = true)
    (k_17 : PySem.W.keepIn K (.ref f_17) = true)
    (a_18_Rests : PySem.W.findIn K (.ref C_Rests) "__init__" = some (some (.ref f_18)))
    (i_18 : PySem.W.isFn K (.ref f_18) = true)
    (l_18 : K.lookup f_18 = some ⟨oc_18, od_18, .func (PySem.W.fnOf "__init__" "Rests.__init__" (defArgs s_Rests___init__) (defBody s_Rests___init__) (defScope s_Rests___init__) .none kV_18 dc_18 pm_18 an_18 cd_18 ct_18), sl_18⟩)
    (c_18 : PySem.W.codeIn K cd_18 "Rests.__init__" = true)
    (k_18 : PySem.W.keepIn K (.ref f_18) = true)
    (a_19 : PySem.W.nsIn K mainGlobals "shown" = some (some (.ref f_19)))
    (l_19 : K.lookup f_19 = some ⟨oc_19, od_19, .func (PySem.W.fnOf "shown" "shown" (defArgs s_shown) (defBody s_shown) (defScope s_shown) .none kV_19 dc_19 pm_19 an_19 cd_19 ct_19), sl_19⟩)
    (c_19 : PySem.W.codeIn K cd_19 "shown" = true)
    (k_19 : PySem.W.keepIn K (.ref f_19) = true)
    (a_20 : PySem.W.nsIn K mainGlobals "_law_cell_at" = some (some (.ref f_20)))
    (l_20 : K.lookup f_20 = some ⟨oc_20, od_20, .func (PySem.W.fnOf "_law_cell_at" "_law_cell_at" (defArgs s__law_cell_at) (defBody s__law_cell_at) (defScope s__law_cell_at) .none kV_20 dc_20 pm_20 an_20 cd_20 ct_20), sl_20⟩)
    (c_20 : PySem.W.codeIn K cd_20 "_law_cell_at" = true)
    (k_20 : PySem.W.keepIn K (.ref f_20) = true)
    (a_21 : PySem.W.nsIn K mainGlobals "_law_is_prime" = some (some (.ref f_21)))
    (l_21 : K.lookup f_21 = some ⟨oc_21, od_21, .func (PySem.W.fnOf "_law_is_prime" "_law_is_prime" (defArgs s__law_is_prime) (defBody s__law_is_prime) (defScope s__law_is_prime) .none kV_21 dc_21 pm_21 an_21 cd_21 ct_21), sl_21⟩)
    (c_21 : PySem.W.codeIn K cd_21 "_law_is_prime" = true)
    (k_21 : PySem.W.keepIn K (.ref f_21) = true)
    (a_22 : PySem.W.nsIn K mainGlobals "_law_prime" = some (some (.ref f_22)))
    (l_22 : K.lookup f_22 = some ⟨oc_22, od_22, .func (PySem.W.fnOf "_law_prime" "_law_prime" (defArgs s__law_prime) (defBody s__law_prime) (defScope s__law_prime) .none kV_22 dc_22 pm_22 an_22 cd_22 ct_22), sl_22⟩)
    (c_22 : PySem.W.codeIn K cd_22 "_law_prime" = true)
    (k_22 : PySem.W.keepIn K (.ref f_22) = true)
    (a_23 : PySem.W.nsIn K mainGlobals "_law_field" = some (some (.ref f_23)))
    (l_23 : K.lookup f_23 = some ⟨oc_23, od_23, .func (PySem.W.fnOf "_law_field" "_law_field" (defArgs s__law_field) (defBody s__law_field) (defScope s__law_field) .none kV_23 dc_23 pm_23 an_23 cd_23 ct_23), sl_23⟩)
    (c_23 : PySem.W.codeIn K cd_23 "_law_field" = true)
    (k_23 : PySem.W.keepIn K (.ref f_23) = true)
    (a_24 : PySem.W.nsIn K mainGlobals "_law_way" = some (some (.ref f_24)))
    (l_24 : K.lookup f_24 = some ⟨oc_24, od_24, .func (PySem.W.fnOf "_law_way" "_law_way" (defArgs s__law_way) (defBody s__law_way) (defScope s__law_way) .none kV_24 dc_24 pm_24 an_24 cd_24 ct_24), sl_24⟩)
    (c_24 : PySem.W.codeIn K cd_24 "_law_way" = true)
    (k_24 : PySem.W.keepIn K (.ref f_24) = true)
    (a_25 : PySem.W.nsIn K mainGlobals "_law_order" = some (some (.ref f_25)))
    (l_25 : K.lookup f_25 = some ⟨oc_25, od_25, .func (PySem.W.fnOf "_law_order" "_law_order" (defArgs s__law_order) (defBody s__law_order) (defScope s__law_order) .none kV_25 dc_25 pm_25 an_25 cd_25 ct_25), sl_25⟩)
    (c_25 : PySem.W.codeIn K cd_25 "_law_order" = true)
    (k_25 : PySem.W.keepIn K (.ref f_25) = true)
    (a_26 : PySem.W.nsIn K mainGlobals "_law_rank" = some (some (.ref f_26)))
    (l_26 : K.lookup f_26 = some ⟨oc_26, od_26, .func (PySem.W.fnOf "_law_rank" "_law_rank" (defArgs s__law_rank) (defBody s__law_rank) (defScope s__law_rank) .none kV_26 dc_26 pm_26 an_26 cd_26 ct_26), sl_26⟩)
    (c_26 : PySem.W.codeIn K cd_26 "_law_rank" = true)
    (k_26 : PySem.W.keepIn K (.ref f_26) = true)
    (a_27 : PySem.W.nsIn K mainGlobals "_law_reduced" = some (some (.ref f_27)))
    (l_27 : K.lookup f_27 = some ⟨oc_27, od_27, .func (PySem.W.fnOf "_law_reduced" "_law_reduced" (defArgs s__law_reduced) (defBody s__law_reduced) (defScope s__law_reduced) .none kV_27 dc_27 pm_27 an_27 cd_27 ct_27), sl_27⟩)
    (c_27 : PySem.W.codeIn K cd_27 "_law_reduced" = true)
    (k_27 : PySem.W.keepIn K (.ref f_27) = true)
    (a_28 : PySem.W.nsIn K mainGlobals "_law_number" = some (some (.ref f_28)))
    (l_28 : K.lookup f_28 = some ⟨oc_28, od_28, .func (PySem.W.fnOf "_law_number" "_law_number" (defArgs s__law_number) (defBody s__law_number) (defScope s__law_number) .none kV_28 dc_28 pm_28 an_28 cd_28 ct_28), sl_28⟩)
    (c_28 : PySem.W.codeIn K cd_28 "_law_number" = true)
    (k_28 : PySem.W.keepIn K (.ref f_28) = true)
    (a_29 : PySem.W.nsIn K mainGlobals "_law_drawn" = some (some (.ref f_29)))
    (l_29 : K.lookup f_29 = some ⟨oc_29, od_29, .func (PySem.W.fnOf "_law_drawn" "_law_drawn" (defArgs s__law_drawn) (defBody s__law_drawn) (defScope s__law_drawn) .none kV_29 dc_29 pm_29 an_29 cd_29 ct_29), sl_29⟩)
    (c_29 : PySem.W.codeIn K cd_29 "_law_drawn" = true)
    (k_29 : PySem.W.keepIn K (.ref f_29) = true)
    (a_30 : PySem.W.nsIn K mainGlobals "_law_term" = some (some (.ref f_30)))
    (l_30 : K.lookup f_30 = some ⟨oc_30, od_30, .func (PySem.W.fnOf "_law_term" "_law_term" (defArgs s__law_term) (defBody s__law_term) (defScope s__law_term) .none kV_30 dc_30 pm_30 an_30 cd_30 ct_30), sl_30⟩)
    (c_30 : PySem.W.codeIn K cd_30 "_law_term" = true)
    (k_30 : PySem.W.keepIn K (.ref f_30) = true)
    (a_31 : PySem.W.nsIn K mainGlobals "_law_parts" = some (some (.ref f_31)))
    (l_31 : K.lookup f_31 = some ⟨oc_31, od_31, .func (PySem.W.fnOf "_law_parts" "_law_parts" (defArgs s__law_parts) (defBody s__law_parts) (defScope s__law_parts) .none kV_31 dc_31 pm_31 an_31 cd_31 ct_31), sl_31⟩)
    (c_31 : PySem.W.codeIn K cd_31 "_law_parts" = true)
    (k_31 : PySem.W.keepIn K (.ref f_31) = true)
    (a_32 : PySem.W.nsIn K mainGlobals "_law_part" = some (some (.ref f_32)))
    (l_32 : K.lookup f_32 = some ⟨oc_32, od_32, .func (PySem.W.fnOf "_law_part" "_law_part" (defArgs s__law_part) (defBody s__law_part) (defScope s__law_part) .none kV_32 dc_32 pm_32 an_32 cd_32 ct_32), sl_32⟩)
    (c_32 : PySem.W.codeIn K cd_32 "_law_part" = true)
    (k_32 : PySem.W.keepIn K (.ref f_32) = true)
    (a_33 : PySem.W.nsIn K mainGlobals "_law_text" = some (some (.ref f_33)))
    (l_33 : K.lookup f_33 = some ⟨oc_33, od_33, .func (PySem.W.fnOf "_law_text" "_law_text" (defArgs s__law_text) (defBody s__law_text) (defScope s__law_text) .none kV_33 dc_33 pm_33 an_33 cd_33 ct_33), sl_33⟩)
    (c_33 : PySem.W.codeIn K cd_33 "_law_text" = true)
    (k_33 : PySem.W.keepIn K (.ref f_33) = true)
    (a_34 : PySem.W.nsIn K mainGlobals "law" = some (some (.ref f_34)))
    (l_34 : K.lookup f_34 = some ⟨oc_34, od_34, .func (PySem.W.fnOf "law" "law" (defArgs s_law) (defBody s_law) (defScope s_law) .none kV_34 dc_34 pm_34 an_34 cd_34 ct_34), sl_34⟩)
    (c_34 : PySem.W.codeIn K cd_34 "law" = true)
    (k_34 : PySem.W.keepIn K (.ref f_34) = true)
    (a_NoOrder : PySem.W.nsIn K mainGlobals "NoOrder" = some (some (.ref E_NoOrder)))
    (FB_NoOrder : ExcBaseFacts B_NoOrder nid_NoOrder ini_NoOrder bm_NoOrder)
    (xE_NoOrder : PySem.W.excIn K E_NoOrder bm_NoOrder nid_NoOrder = true)
    (xm_NoOrder : PySem.W.exmOne K (.ref E_NoOrder) (.ref E_NoOrder) = some true)
    (a_NoPrime : PySem.W.nsIn K mainGlobals "NoPrime" = some (some (.ref E_NoPrime)))
    (FB_NoPrime : ExcBaseFacts B_NoPrime nid_NoPrime ini_NoPrime bm_NoPrime)
    (xE_NoPrime : PySem.W.excIn K E_NoPrime bm_NoPrime nid_NoPrime = true)
    (xm_NoPrime : PySem.W.exmOne K (.ref E_NoPrime) (.ref E_NoPrime) = some true)
    (a_NoRing : PySem.W.nsIn K mainGlobals "NoRing" = some (some (.ref E_NoRing)))
    (FB_NoRing : ExcBaseFacts B_NoRing nid_NoRing ini_NoRing bm_NoRing)
    (xE_NoRing : PySem.W.excIn K E_NoRing bm_NoRing nid_NoRing = true)
    (xm_NoRing : PySem.W.exmOne K (.ref E_NoRing) (.ref E_NoRing) = some true)
    (q_kss : PySem.W.kitOne K (.type "str") (.type "str") = some true)
    (z_abs : PySem.W.nsIn K mainGlobals "abs" = some none)
    (z_any : PySem.W.nsIn K mainGlobals "any" = some none)
    (z_dict : PySem.W.nsIn K mainGlobals "dict" = some none)
    (z_isinstance : PySem.W.nsIn K mainGlobals "isinstance" = some none)
    (z_len : PySem.W.nsIn K mainGlobals "len" = some none)
    (z_list : PySem.W.nsIn K mainGlobals "list" = some none)
    (z_max : PySem.W.nsIn K mainGlobals "max" = some none)
    (z_range : PySem.W.nsIn K mainGlobals "range" = some none)
    (z_reversed : PySem.W.nsIn K mainGlobals "reversed" = some none)
    (z_sorted : PySem.W.nsIn K mainGlobals "sorted" = some none)
    (z_str : PySem.W.nsIn K mainGlobals "str" = some none)
    (z_sum : PySem.W.nsIn K mainGlobals "sum" = some none)
    (z_tuple : PySem.W.nsIn K mainGlobals "tuple" = some none)
    (z_zip : PySem.W.nsIn K mainGlobals "zip" = some none)
    (g_GREATEST_PRIME : PySem.W.nsIn K mainGlobals "GREATEST_PRIME" = some (some (.int 9973 tg_GREATEST_PRIME)))
    (g_LETTERS : PySem.W.nsIn K mainGlobals "LETTERS" = some (some (.str "xyzt" tg_LETTERS)))
    {cc Pt : Addr} (hcc0 : cd_33 = .ref cc) (hch : PySem.W.codeHdIn K cc Pt = true) (hkp : K.lookup Pt = none)
    : ∃ (cc : Addr) (fd : FuncData), PySem.W.codeHdIn K cc Pt = true ∧ K.lookup Pt = none ∧ (∀ (s : Shared) (v : Value), BindsTo s fd ⟨[v], []⟩ [("_law_script", v)]) ∧ ∀ base : Heap, K.In base → base.Ns mainGlobals mg → base.BuiltinsAt mg Pt → FnOk l.prog w K mg base CX0 10 fa fd ["_law_script"] (spLaw K Pt) := by
  have e := hfa.symm.trans (PySem.W.mg_of X G a_34)
  cases e
  have T : Txt K mg C_Ring C_Fractions C_Rests C_Order C_Degrees C_Tails C_Weights := ⟨PySem.W.mg_none_of X G z_abs, PySem.W.mg_none_of X G z_any, PySem.W.mg_none_of X G z_dict, PySem.W.mg_none_of X G z_isinstance, PySem.W.mg_none_of X G z_len, PySem.W.mg_none_of X G z_list, PySem.W.mg_none_of X G z_max, PySem.W.mg_none_of X G z_range, PySem.W.mg_none_of X G z_reversed, PySem.W.mg_none_of X G z_sorted, PySem.W.mg_none_of X G z_str, PySem.W.mg_none_of X G z_sum, PySem.W.mg_none_of X G z_tuple, PySem.W.mg_none_of X G z_zip, ⟨pg_Ring, hd_Ring, po_Ring, sa_Ring⟩, PySem.W.mg_of X G a_Ring, na_Ring_many, na_Ring_field, na_Ring_order, ⟨pg_Fractions, hd_Fractions, po_Fractions, sa_Fractions⟩, PySem.W.mg_of X G a_Fractions, na_Fractions_prime, ⟨pg_Rests, hd_Rests, po_Rests, sa_Rests⟩, PySem.W.mg_of X G a_Rests, na_Rests_prime, ⟨pg_Order, hd_Order, po_Order, sa_Order⟩, PySem.W.mg_of X G a_Order, ⟨mk_Order, in_Order, kc_Order⟩, ⟨pg_Degrees, hd_Degrees, po_Degrees, sa_Degrees⟩, PySem.W.mg_of X G a_Degrees, ⟨mk_Degrees, in_Degrees, kc_Degrees⟩, ⟨pg_Tails, hd_Tails, po_Tails, sa_Tails⟩, PySem.W.mg_of X G a_Tails, ⟨mk_Tails, in_Tails, kc_Tails⟩, ⟨pg_Weights, hd_Weights, po_Weights, sa_Weights⟩, PySem.W.mg_of X G a_Weights, na_Weights_weights, ⟨_, PySem.W.mg_of X G g_GREATEST_PRIME⟩, ⟨_, PySem.W.mg_of X G g_LETTERS⟩, q_kss⟩
  have F_0 := funD_mk (st := s_degree) l_0 c_0
  have b_0 := F_0.binds (ps := ["term"]) fun _ _ _ _ _ _ us hl => match us, hl with | [_], _ => rfl
  have F_1 := funD_mk (st := s_is_below_nought) l_1 c_1
  have b_1 := F_1.binds (ps := ["field", "number"]) fun _ _ _ _ _ _ us hl => match us, hl with | [_, _], _ => rfl
  have F_2 := funD_mk (st := s_number_shown) l_2 c_2
  have b_2 := F_2.binds (ps := ["field", "number"]) fun _ _ _ _ _ _ us hl => match us, hl with | [_, _], _ => rfl
  have F_3 := funD_mk (st := s_power_shown) l_3 c_3
  have b_3 := F_3.binds (ps := ["letter", "power"]) fun _ _ _ _ _ _ us hl => match us, hl with | [_, _], _ => rfl
  have F_4 := funD_mk (st := s_Ring_letters) l_4 c_4
  have b_4 := F_4.binds (ps := ["self"]) fun _ _ _ _ _ _ us hl => match us, hl with | [_], _ => rfl
  have F_5 := funD_mk (st := s_part_shown) l_5 c_5
  have b_5 := F_5.binds (ps := ["ring", "number", "term"]) fun _ _ _ _ _ _ us hl => match us, hl with | [_, _, _], _ => rfl
  have F_6 := funD_mk (st := s_Order_rank) l_6 c_6
  have b_6 := F_6.binds (ps := ["self", "term"]) fun _ _ _ _ _ _ us hl => match us, hl with | [_, _], _ => rfl
  have F_7 := funD_mk (st := s_Degrees_rank) l_7 c_7
  have b_7 := F_7.binds (ps := ["self", "term"]) fun _ _ _ _ _ _ us hl => match us, hl with | [_, _], _ => rfl
  have F_8 := funD_mk (st := s_Tails_rank) l_8 c_8
  have b_8 := F_8.binds (ps := ["self", "term"]) fun _ _ _ _ _ _ us hl => match us, hl with | [_, _], _ => rfl
  have F_9 := funD_mk (st := s_Weights___init__) l_9 c_9
  have b_9 := F_9.binds (ps := ["self", "weights"]) fun _ _ _ _ _ _ us hl => match us, hl with | [_, _], _ => rfl
  have F_10 := funD_mk (st := s_Weights_rank) l_10 c_10
  have b_10 := F_10.binds (ps := ["self", "term"]) fun _ _ _ _ _ _ us hl => match us, hl with | [_, _], _ => rfl
  have F_11 := funD_mk (st := s_Order_falling) l_11 c_11
  have b_11 := F_11.binds (ps := ["self", "terms"]) fun _ _ _ _ _ _ us hl => match us, hl with | [_, _], _ => rfl
  have F_12 := funD_mk (st := s_Order_fits) l_12 c_12
  have b_12 := F_12.binds (ps := ["self", "many"]) fun _ _ _ _ _ _ us hl => match us, hl with | [_, _], _ => rfl
  have F_13 := funD_mk (st := s_Weights_fits) l_13 c_13
  have b_13 := F_13.binds (ps := ["self", "many"]) fun _ _ _ _ _ _ us hl => match us, hl with | [_, _], _ => rfl
  have F_14 := funD_mk (st := s_Ring___init__) l_14 c_14
  have b_14 := F_14.binds (ps := ["self", "many", "field", "order"]) fun _ _ _ _ _ _ us hl => match us, hl with | [_, _, _, _], _ => rfl
  have F_15 := funD_mk (st := s_is_prime) l_15 c_15
  have b_15 := F_15.binds (ps := ["number"]) fun _ _ _ _ _ _ us hl => match us, hl with | [_], _ => rfl
  have F_16 := funD_mk (st := s_Field___init__) l_16 c_16
  have b_16 := F_16.binds (ps := ["self", "prime"]) fun _ _ _ _ _ _ us hl => match us, hl with | [_, _], _ => rfl
  have F_17 := funD_mk (st := s_Fractions___init__) l_17 c_17
  have b_17 := F_17.binds (ps := ["self"]) fun _ _ _ _ _ _ us hl => match us, hl with | [_], _ => rfl
  have F_18 := funD_mk (st := s_Rests___init__) l_18 c_18
  have b_18 := F_18.binds (ps := ["self", "prime"]) fun _ _ _ _ _ _ us hl => match us, hl with | [_, _], _ => rfl
  have F_19 := funD_mk (st := s_shown) l_19 c_19
  have b_19 := F_19.binds (ps := ["ring", "f"]) fun _ _ _ _ _ _ us hl => match us, hl with | [_, _], _ => rfl
  have F_20 := funD_mk (st := s__law_cell_at) l_20 c_20
  have b_20 := F_20.binds (ps := ["_law_script", "_law_k"]) fun _ _ _ _ _ _ us hl => match us, hl with | [_, _], _ => rfl
  have F_21 := funD_mk (st := s__law_is_prime) l_21 c_21
  have b_21 := F_21.binds (ps := ["_law_number_here"]) fun _ _ _ _ _ _ us hl => match us, hl with | [_], _ => rfl
  have F_22 := funD_mk (st := s__law_prime) l_22 c_22
  have b_22 := F_22.binds (ps := ["_law_cell"]) fun _ _ _ _ _ _ us hl => match us, hl with | [_], _ => rfl
  have F_23 := funD_mk (st := s__law_field) l_23 c_23
  have b_23 := F_23.binds (ps := ["_law_p"]) fun _ _ _ _ _ _ us hl => match us, hl with | [_], _ => rfl
  have F_24 := funD_mk (st := s__law_way) l_24 c_24
  have b_24 := F_24.binds (ps := ["_law_cell", "_law_many"]) fun _ _ _ _ _ _ us hl => match us, hl with | [_, _], _ => rfl
  have F_25 := funD_mk (st := s__law_order) l_25 c_25
  have b_25 := F_25.binds (ps := ["_law_way_here"]) fun _ _ _ _ _ _ us hl => match us, hl with | [_], _ => rfl
  have F_26 := funD_mk (st := s__law_rank) l_26 c_26
  have b_26 := F_26.binds (ps := ["_law_way_here", "_law_term_here"]) fun _ _ _ _ _ _ us hl => match us, hl with | [_, _], _ => rfl
  have F_27 := funD_mk (st := s__law_reduced) l_27 c_27
  have b_27 := F_27.binds (ps := ["_law_top", "_law_bottom"]) fun _ _ _ _ _ _ us hl => match us, hl with | [_, _], _ => rfl
  have F_28 := funD_mk (st := s__law_number) l_28 c_28
  have b_28 := F_28.binds (ps := ["_law_p", "_law_top", "_law_bottom"]) fun _ _ _ _ _ _ us hl => match us, hl with | [_, _, _], _ => rfl
  have F_29 := funD_mk (st := s__law_drawn) l_29 c_29
  have b_29 := F_29.binds (ps := ["_law_p", "_law_cell", "_law_most"]) fun _ _ _ _ _ _ us hl => match us, hl with | [_, _, _], _ => rfl
  have F_30 := funD_mk (st := s__law_term) l_30 c_30
  have b_30 := F_30.binds (ps := ["_law_many", "_law_cell", "_law_most"]) fun _ _ _ _ _ _ us hl => match us, hl with | [_, _, _], _ => rfl
  have F_31 := funD_mk (st := s__law_parts) l_31 c_31
  have b_31 := F_31.binds (ps := ["_law_p", "_law_many", "_law_cells", "_law_most", "_law_highest"]) fun _ _ _ _ _ _ us hl => match us, hl with | [_, _, _, _, _], _ => rfl
  have F_32 := funD_mk (st := s__law_part) l_32 c_32
  have b_32 := F_32.binds (ps := ["_law_p", "_law_term_here", "_law_number_here"]) fun _ _ _ _ _ _ us hl => match us, hl with | [_, _, _], _ => rfl
  have F_33 := funD_mk (st := s__law_text) l_33 c_33
  have b_33 := F_33.binds (ps := ["_law_p", "_law_way_here", "_law_f"]) fun _ _ _ _ _ _ us hl => match us, hl with | [_, _, _], _ => rfl
  have F_34 := funD_mk (st := s_law) l_34 c_34
  have b_34 := F_34.binds (ps := ["_law_script"]) fun _ _ _ _ _ _ us hl => match us, hl with | [_], _ => rfl
  refine ⟨cc, PySem.W.fnOf "law" "law" (defArgs s_law) (defBody s_law) (defScope s_law) .none kV_34 dc_34 pm_34 an_34 cd_34 ct_34, hch, hkp, fun s v => .of_eq rfl, fun base kb nb hBd => ?_⟩
  have hcc : codeOfF K f_33 = some cc := by unfold codeOfF; rw [l_33, hcc0]
  have x_NoOrder : Exc K mg base "NoOrder" E_NoOrder := ⟨⟨_, _, _, _, own_in kb nb a_NoOrder xE_NoOrder, FB_NoOrder⟩, PySem.W.mg_of X G a_NoOrder, xm_NoOrder⟩
  have x_NoPrime : Exc K mg base "NoPrime" E_NoPrime := ⟨⟨_, _, _, _, own_in kb nb a_NoPrime xE_NoPrime, FB_NoPrime⟩, PySem.W.mg_of X G a_NoPrime, xm_NoPrime⟩
  have x_NoRing : Exc K mg base "NoRing" E_NoRing := ⟨⟨_, _, _, _, own_in kb nb a_NoRing xE_NoRing, FB_NoRing⟩, PySem.W.mg_of X G a_NoRing, xm_NoRing⟩
  have G_Deg := ok_Deg (P := l.prog) (w := w) (base := base) F_0 T  
  have c_Deg : Cal _ _ _ _ _ _ _ _ _ _ _ := ⟨_, _, G_Deg, b_0, k_0, PySem.W.mg_of X G a_0⟩
  have G_Bel := ok_Bel (P := l.prog) (w := w) (base := base) F_1 T  
  have c_Bel : Cal _ _ _ _ _ _ _ _ _ _ _ := ⟨_, _, G_Bel, b_1, k_1, PySem.W.mg_of X G a_1⟩
  have G_NumT := ok_NumT (P := l.prog) (w := w) (base := base) F_2 T  
  have c_NumT : Cal _ _ _ _ _ _ _ _ _ _ _ := ⟨_, _, G_NumT, b_2, k_2, PySem.W.mg_of X G a_2⟩
  have G_PwT := ok_PwT (P := l.prog) (w := w) (base := base) F_3 T  
  have c_PwT : Cal _ _ _ _ _ _ _ _ _ _ _ := ⟨_, _, G_PwT, b_3, k_3, PySem.W.mg_of X G a_3⟩
  have G_Letters := ok_Letters (P := l.prog) (w := w) (base := base) F_4 T  
  have m_Letters : MCal _ _ _ _ _ _ _ _ _ _ _ _ := ⟨⟨_, _, G_Letters, b_4, ⟨a_4_Ring, i_4, k_4⟩⟩, T.cl_Ring⟩
  have G_Prt := ok_Prt (P := l.prog) (w := w) (base := base) F_5 T m_Letters c_PwT c_NumT 
  have c_Prt : Cal _ _ _ _ _ _ _ _ _ _ _ := ⟨_, _, G_Prt, b_5, k_5, PySem.W.mg_of X G a_5⟩
  have m_Rank_Order : MCal l.prog w K mg base CX0 3 C_Order "rank" ["self", "term"] [] (spRank (AtO C_Order) rkL) := ⟨⟨_, _, (ok_RankO (P := l.prog) (w := w) (base := base) F_6 T ).mono (by decide), b_6, ⟨a_6_Order, i_6, k_6⟩⟩, T.cl_Order⟩
  have bm_Order : BM K C_Order "rank" := ⟨⟨_, a_6_Order, ⟨bg_6, bt_6, by decide⟩⟩⟩
  have m_Rank_Degrees : MCal l.prog w K mg base CX0 3 C_Degrees "rank" ["self", "term"] [] (spRank (AtO C_Degrees) rkD) := ⟨⟨_, _, (ok_RankD (P := l.prog) (w := w) (base := base) F_7 T c_Deg).mono (by decide), b_7, ⟨a_7_Degrees, i_7, k_7⟩⟩, T.cl_Degrees⟩
  have bm_Degrees : BM K C_Degrees "rank" := ⟨⟨_, a_7_Degrees, ⟨bg_7, bt_7, by decide⟩⟩⟩
  have m_Rank_Tails : MCal l.prog w K mg base CX0 3 C_Tails "rank" ["self", "term"] [] (spRank (AtO C_Tails) rkT) := ⟨⟨_, _, (ok_RankT (P := l.prog) (w := w) (base := base) F_8 T c_Deg).mono (by decide), b_8, ⟨a_8_Tails, i_8, k_8⟩⟩, T.cl_Tails⟩
  have bm_Tails : BM K C_Tails "rank" := ⟨⟨_, a_8_Tails, ⟨bg_8, bt_8, by decide⟩⟩⟩
  have G_WInit := ok_WInit (P := l.prog) (w := w) (base := base) F_9 T x_NoOrder 
  have k_WInit : Mak _ _ _ _ _ _ _ _ _ _ _ _ := ⟨⟨_, _, G_WInit, b_9, ⟨mk_Weights, a_9_Weights, i_9, kc_Weights⟩⟩, T.mg_Weights⟩
  have m_Rank_Weights : ∀ ws : List Int, Nn ws → (∀ x ∈ ws, x < 10 ^ 31) → MCal l.prog w K mg base CX0 3 C_Weights "rank" ["self", "term"] [] (spRank (AtW C_Weights ws) (rkW ws)) := fun ws h1 h2 => ⟨⟨_, _, (ok_RankW (P := l.prog) (w := w) (base := base) F_10 T h1 h2).mono (by decide), b_10, ⟨a_10_Weights, i_10, k_10⟩⟩, T.cl_Weights⟩
  have bm_Weights : BM K C_Weights "rank" := ⟨⟨_, a_10_Weights, ⟨bg_10, bt_10, by decide⟩⟩⟩
  have fall_Order : MCal l.prog w K mg base CX0 6 C_Order "falling" ["self", "terms"] [] (spFall (AtO C_Order) rkL) := ⟨⟨_, _, ok_Fall (P := l.prog) (w := w) (base := base) F_11 T  (ordcO _) m_Rank_Order bm_Order (fun xs h => h.ne), b_11, ⟨a_11_Order, i_11, k_11⟩⟩, T.cl_Order⟩
  have fall_Degrees : MCal l.prog w K mg base CX0 6 C_Degrees "falling" ["self", "terms"] [] (spFall (AtO C_Degrees) rkD) := ⟨⟨_, _, ok_Fall (P := l.prog) (w := w) (base := base) F_11 T  (ordcO _) m_Rank_Degrees bm_Degrees (fun _ _ => List.cons_ne_nil _ _), b_11, ⟨a_11_Degrees, i_11, k_11⟩⟩, T.cl_Degrees⟩
  have fall_Tails : MCal l.prog w K mg base CX0 6 C_Tails "falling" ["self", "terms"] [] (spFall (AtO C_Tails) rkT) := ⟨⟨_, _, ok_Fall (P := l.prog) (w := w) (base := base) F_11 T  (ordcO _) m_Rank_Tails bm_Tails (fun _ _ => List.cons_ne_nil _ _), b_11, ⟨a_11_Tails, i_11, k_11⟩⟩, T.cl_Tails⟩
  have fall_Weights : ∀ ws : List Int, Nn ws → (∀ x ∈ ws, x < 10 ^ 31) → MCal l.prog w K mg base CX0 6 C_Weights "falling" ["self", "terms"] [] (spFall (AtW C_Weights ws) (rkW ws)) := fun ws h1 h2 => ⟨⟨_, _, ok_Fall (P := l.prog) (w := w) (base := base) F_11 T  (ordcW _ _) (m_Rank_Weights ws h1 h2) bm_Weights (fun _ _ => List.cons_ne_nil _ _), b_11, ⟨a_11_Weights, i_11, k_11⟩⟩, T.cl_Weights⟩
  have fit_Order : MCal l.prog w K mg base CX0 1 C_Order "fits" ["self", "many"] [] (spFits (AtO C_Order) fun _ => true) := ⟨⟨_, _, ok_FitsO (P := l.prog) (w := w) (base := base) (At := AtO C_Order) F_12 T, b_12, ⟨a_12_Order, i_12, k_12⟩⟩, T.cl_Order⟩
  have fit_Degrees : MCal l.prog w K mg base CX0 1 C_Degrees "fits" ["self", "many"] [] (spFits (AtO C_Degrees) fun _ => true) := ⟨⟨_, _, ok_FitsO (P := l.prog) (w := w) (base := base) (At := AtO C_Degrees) F_12 T, b_12, ⟨a_12_Degrees, i_12, k_12⟩⟩, T.cl_Degrees⟩
  have fit_Tails : MCal l.prog w K mg base CX0 1 C_Tails "fits" ["self", "many"] [] (spFits (AtO C_Tails) fun _ => true) := ⟨⟨_, _, ok_FitsO (P := l.prog) (w := w) (base := base) (At := AtO C_Tails) F_12 T, b_12, ⟨a_12_Tails, i_12, k_12⟩⟩, T.cl_Tails⟩
  have fit_Weights : ∀ ws : List Int, MCal l.prog w K mg base CX0 1 C_Weights "fits" ["self", "many"] [] (spFits (AtW C_Weights ws) fun k => decide ((ws.length : Int) = k)) := fun ws => ⟨⟨_, _, ok_FitsW (P := l.prog) (w := w) (base := base) (ws := ws) F_13 T, b_13, ⟨a_13_Weights, i_13, k_13⟩⟩, T.cl_Weights⟩
  have hord : ∀ (kd : Int) (ws : List Int), 0 ≤ kd → kd < 4 → Nn ws → (∀ x ∈ ws, x < 10 ^ 31) → ∃ C, OrdE l.prog w K mg base C (AtK C_Order C_Degrees C_Tails C_Weights kd ws) (rkk kd ws) (fbK kd ws) := by
    intro kd ws k0 k4 wn wb
    rcases (by omega : kd = 0 ∨ kd = 1 ∨ kd = 2 ∨ kd = 3) with rfl | rfl | rfl | rfl
    · rw [show rkk 0 ws = rkL from funext fun xs => by unfold rkk; simp, show fbK 0 ws = fun _ => true from funext fun m => by unfold fbK; simp]
      show ∃ C, OrdE l.prog w K mg base C (AtO C_Order) rkL _
      exact ⟨C_Order, ordcO _, fit_Order, fall_Order⟩
    · rw [show rkk 1 ws = rkD from funext fun xs => by unfold rkk; simp, show fbK 1 ws = fun _ => true from funext fun m => by unfold fbK; simp]
      show ∃ C, OrdE l.prog w K mg base C (AtO C_Degrees) rkD _
      exact ⟨C_Degrees, ordcO _, fit_Degrees, fall_Degrees⟩
    · rw [show rkk 2 ws = rkT from funext fun xs => by unfold rkk; simp, show fbK 2 ws = fun _ => true from funext fun m => by unfold fbK; simp]
      show ∃ C, OrdE l.prog w K mg base C (AtO C_Tails) rkT _
      exact ⟨C_Tails, ordcO _, fit_Tails, fall_Tails⟩
    · rw [show rkk 3 ws = rkW ws from funext fun xs => by unfold rkk; simp, show fbK 3 ws = fun m => decide ((ws.length : Int) = m) from funext fun m => by unfold fbK; simp]
      show ∃ C, OrdE l.prog w K mg base C (AtW C_Weights ws) (rkW ws) _
      exact ⟨C_Weights, ordcW _ _, fit_Weights ws, fall_Weights ws wn wb⟩
  have G_RgInit := ok_RgInit (P := l.prog) (w := w) (base := base) F_14 T x_NoRing hord
  have k_RgInit : Mak _ _ _ _ _ _ _ _ _ _ _ _ := ⟨⟨_, _, G_RgInit, b_14, ⟨mk_Ring, a_14_Ring, i_14, kc_Ring⟩⟩, T.mg_Ring⟩
  have G_Prime := ok_Prime (P := l.prog) (w := w) (base := base) F_15 T  
  have c_Prime : Cal _ _ _ _ _ _ _ _ _ _ _ := ⟨_, _, G_Prime, b_15, k_15, PySem.W.mg_of X G a_15⟩
  have G_FieldInit := ok_FieldInit (P := l.prog) (w := w) (base := base) F_16 T  
  have q_FieldInit : CCal _ _ _ _ _ _ _ _ _ _ _ _ := ⟨_, _, _, G_FieldInit, b_16, ⟨⟨_, rq_16, fq_16⟩, sq_16, k_16⟩, PySem.W.mg_of X G aq_16⟩
  have G_FracInit := ok_FracInit (P := l.prog) (w := w) (base := base) F_17 T q_FieldInit 
  have k_FracInit : Mak _ _ _ _ _ _ _ _ _ _ _ _ := ⟨⟨_, _, G_FracInit, b_17, ⟨mk_Fractions, a_17_Fractions, i_17, kc_Fractions⟩⟩, T.mg_Fractions⟩
  have G_RestsInit := ok_RestsInit (P := l.prog) (w := w) (base := base) F_18 T c_Prime q_FieldInit x_NoPrime 
  have k_RestsInit : Mak _ _ _ _ _ _ _ _ _ _ _ _ := ⟨⟨_, _, G_RestsInit, b_18, ⟨mk_Rests, a_18_Rests, i_18, kc_Rests⟩⟩, T.mg_Rests⟩
  have G_Shown := ok_Shown (P := l.prog) (w := w) (base := base) F_19 T c_Bel c_Prt hord
  have cSh : Cal _ _ _ _ _ _ _ _ _ _ _ := ⟨_, _, G_Shown, b_19, k_19, PySem.W.mg_of X G a_19⟩
  have G_Cell := ok_Cell (P := l.prog) (w := w) (base := base) F_20 T  
  have c_Cell : Cal _ _ _ _ _ _ _ _ _ _ _ := ⟨_, _, G_Cell, b_20, k_20, PySem.W.mg_of X G a_20⟩
  have G_LPrime := ok_LPrime (P := l.prog) (w := w) (base := base) F_21 T  
  have c_LPrime : Cal _ _ _ _ _ _ _ _ _ _ _ := ⟨_, _, G_LPrime, b_21, k_21, PySem.W.mg_of X G a_21⟩
  have G_LPr := ok_LPr (P := l.prog) (w := w) (base := base) F_22 T c_LPrime 
  have c_LPr : Cal _ _ _ _ _ _ _ _ _ _ _ := ⟨_, _, G_LPr, b_22, k_22, PySem.W.mg_of X G a_22⟩
  have G_LFld := ok_LFld (P := l.prog) (w := w) (base := base) F_23 T k_RestsInit k_FracInit 
  have c_LFld : Cal _ _ _ _ _ _ _ _ _ _ _ := ⟨_, _, G_LFld, b_23, k_23, PySem.W.mg_of X G a_23⟩
  have G_Way := ok_Way (P := l.prog) (w := w) (base := base) F_24 T  
  have c_Way : Cal _ _ _ _ _ _ _ _ _ _ _ := ⟨_, _, G_Way, b_24, k_24, PySem.W.mg_of X G a_24⟩
  have G_LOrd := ok_LOrd (P := l.prog) (w := w) (base := base) F_25 T k_WInit 
  have c_LOrd : Cal _ _ _ _ _ _ _ _ _ _ _ := ⟨_, _, G_LOrd, b_25, k_25, PySem.W.mg_of X G a_25⟩
  have G_LRank := ok_LRank (P := l.prog) (w := w) (base := base) F_26 T  
  have c_LRank : Cal _ _ _ _ _ _ _ _ _ _ _ := ⟨_, _, G_LRank, b_26, k_26, PySem.W.mg_of X G a_26⟩
  have G_Red := ok_Red (P := l.prog) (w := w) (base := base) F_27 T  
  have c_Red : Cal _ _ _ _ _ _ _ _ _ _ _ := ⟨_, _, G_Red, b_27, k_27, PySem.W.mg_of X G a_27⟩
  have G_Num := ok_Num (P := l.prog) (w := w) (base := base) F_28 T c_Red 
  have c_Num : Cal _ _ _ _ _ _ _ _ _ _ _ := ⟨_, _, G_Num, b_28, k_28, PySem.W.mg_of X G a_28⟩
  have G_Drw := ok_Drw (P := l.prog) (w := w) (base := base) F_29 T c_Num 
  have c_Drw : Cal _ _ _ _ _ _ _ _ _ _ _ := ⟨_, _, G_Drw, b_29, k_29, PySem.W.mg_of X G a_29⟩
  have G_Trm := ok_Trm (P := l.prog) (w := w) (base := base) F_30 T  
  have c_Trm : Cal _ _ _ _ _ _ _ _ _ _ _ := ⟨_, _, G_Trm, b_30, k_30, PySem.W.mg_of X G a_30⟩
  have G_Pts := ok_Pts (P := l.prog) (w := w) (base := base) F_31 T c_Drw c_Cell c_Trm c_Num 
  have c_Pts : Cal _ _ _ _ _ _ _ _ _ _ _ := ⟨_, _, G_Pts, b_31, k_31, PySem.W.mg_of X G a_31⟩
  have G_LPt := ok_LPt (P := l.prog) (w := w) (base := base) F_32 T c_Num 
  have c_LPt : Cal _ _ _ _ _ _ _ _ _ _ _ := ⟨_, _, G_LPt, b_32, k_32, PySem.W.mg_of X G a_32⟩
  have G_LTx := ok_LTx (P := l.prog) (w := w) (base := base) F_33 T c_LPt hcc (PySem.W.codeHd_of_K kb hch) hBd c_LRank
  have cTx : Cal _ _ _ _ _ _ _ _ _ _ _ := ⟨_, _, G_LTx, b_33, k_33, PySem.W.mg_of X G a_33⟩
  exact ok_Law (P := l.prog) (w := w) (base := base) F_34 T c_Cell c_LPr c_Way c_Pts c_LFld c_LOrd k_RgInit hord cSh cTx
theorem walk {l : PySem.W.OpenLaw} {q : Program} {loose : List Str} {XP : (Str → Option Value) → Heap → Prop} {YP : World → Heap → Prop} {d : DefRec} {K : Params → PySem.W.Frag} (hn : l.most = some 63) (hdf : d.params.defaults = [])
    (hY : ∀ (w : World) (h : Heap), YP w h → (K w.params).In h) (Pt : Addr) (hT : ∀ (w : World) (h : Heap), YP w h → h.get? Pt = some (PySem.W.tabObj #[]))
    (F : ∀ (w : World) (mg : Str → Option Value) (fa : Addr) (h : Heap), (K w.params).In h → h.Ns mainGlobals mg → mg d.name = some (.ref fa) →
      ∃ (cc : Addr) (fd : FuncData), PySem.W.codeHdIn (K w.params) cc Pt = true ∧ (K w.params).lookup Pt = none ∧ (∀ (s : Shared) (u : Value), BindsTo s fd ⟨[u], []⟩ [("_law_script", u)]) ∧ ∀ base : Heap, (K w.params).In base → base.Ns mainGlobals mg → base.BuiltinsAt mg Pt → FnOk l.prog w (K w.params) mg base CX0 10 fa fd ["_law_script"] (spLaw (K w.params) Pt)) :
    PySem.W.WalkO q loose XP YP l.row.toRowW d [] (fun f vs => PySem.call f vs) :=
  L2.walk_ofT (n := 63) (k := 10) (x := "_law_script") (CX := fun _ => CX0) (sp := fun w Pt => spLaw (K w.params) Pt) hn (by decide) hdf ⟨rfl, by decide, by decide⟩ hY Pt hT F (fun _ _ a ns hl hO hS => ⟨a, ns, rfl, hS, hl, hO.2, fun _ => rfl⟩) fun _ _ _ _ _ z => z
end K6
open PySem PySem.W PyProof.Rows
set_option maxRecDepth 100000 in
set_option maxHeartbeats 0 in
theorem PySem.Challenge.cw_idealroom_k12_shown_holds : PySem.Challenge.rw_idealroom_k12_shown.Holds := by
  w_on; o_law; k_head; (case hw => w_witness2)
  k_fill
  refine K6.walk (l := PySem.Challenge.rw_idealroom_k12_shown) rfl rfl (fun w h Y => PySem.W.km_in_of Y) _ (fun w h Y => PySem.W.km_tabs_of Y _ (List.Mem.head _)) ?F
  case F =>
    intro w mg fa h KX G hmg
    refine' K6.all_mk KX G hmg ?a_Ring ?pg_Ring ?hd_Ring ?po_Ring ?sa_Ring ?mk_Ring ?kc_Ring ?na_Ring_many ?na_Ring_field ?na_Ring_order ?a_Fractions ?pg_Fractions ?hd_Fractions ?po_Fractions ?sa_Fractions ?mk_Fractions ?kc_Fractions ?na_Fractions_prime ?a_Rests ?pg_Rests ?hd_Rests ?po_Rests ?sa_Rests ?mk_Rests ?kc_Rests ?na_Rests_prime ?a_Order ?pg_Order ?hd_Order ?po_Order ?sa_Order ?mk_Order ?in_Order ?kc_Order ?a_Degrees ?pg_Degrees ?hd_Degrees ?po_Degrees ?sa_Degrees ?mk_Degrees ?in_Degrees ?kc_Degrees ?a_Tails ?pg_Tails ?hd_Tails ?po_Tails ?sa_Tails ?mk_Tails ?in_Tails ?kc_Tails ?a_Weights ?pg_Weights ?hd_Weights ?po_Weights ?sa_Weights ?mk_Weights ?kc_Weights ?na_Weights_weights ?a_0 ?l_0 ?c_0 ?k_0 ?a_1 ?l_1 ?c_1 ?k_1 ?a_2 ?l_2 ?c_2 ?k_2 ?a_3 ?l_3 ?c_3 ?k_3 ?a_4_Ring ?i_4 ?l_4 ?c_4 ?k_4 ?a_5 ?l_5 ?c_5 ?k_5 ?a_6_Order ?i_6 ?bg_6 ?bt_6 ?l_6 ?c_6 ?k_6 ?a_7_Degrees ?i_7 ?bg_7 ?bt_7 ?l_7 ?c_7 ?k_7 ?a_8_Tails ?i_8 ?bg_8 ?bt_8 ?l_8 ?c_8 ?k_8 ?a_9_Weights ?i_9 ?l_9 ?c_9 ?k_9 ?a_10_Weights ?i_10 ?bg_10 ?bt_10 ?l_10 ?c_10 ?k_10 ?a_11_Degrees ?a_11_Order ?a_11_Tails ?a_11_Weights ?i_11 ?l_11 ?c_11 ?k_11 ?a_12_Degrees ?a_12_Order ?a_12_Tails ?i_12 ?l_12 ?c_12 ?k_12 ?a_13_Weights ?i_13 ?l_13 ?c_13 ?k_13 ?a_14_Ring ?i_14 ?l_14 ?c_14 ?k_14 ?a_15 ?l_15 ?c_15 ?k_15 ?aq_16 ?rq_16 ?fq_16 ?sq_16 ?i_16 ?l_16 ?c_16 ?k_16 ?a_17_Fractions ?i_17 ?l_17 ?c_17 ?k_17 ?a_18_Rests ?i_18 ?l_18 ?c_18 ?k_18 ?a_19 ?l_19 ?c_19 ?k_19 ?a_20 ?l_20 ?c_20 ?k_20 ?a_21 ?l_21 ?c_21 ?k_21 ?a_22 ?l_22 ?c_22 ?k_22 ?a_23 ?l_23 ?c_23 ?k_23 ?a_24 ?l_24 ?c_24 ?k_24 ?a_25 ?l_25 ?c_25 ?k_25 ?a_26 ?l_26 ?c_26 ?k_26 ?a_27 ?l_27 ?c_27 ?k_27 ?a_28 ?l_28 ?c_28 ?k_28 ?a_29 ?l_29 ?c_29 ?k_29 ?a_30 ?l_30 ?c_30 ?k_30 ?a_31 ?l_31 ?c_31 ?k_31 ?a_32 ?l_32 ?c_32 ?k_32 ?a_33 ?l_33 ?c_33 ?k_33 ?a_34 ?l_34 ?c_34 ?k_34 ?a_NoOrder ?FB_NoOrder ?xE_NoOrder ?xm_NoOrder ?a_NoPrime ?FB_NoPrime ?xE_NoPrime ?xm_NoPrime ?a_NoRing ?FB_NoRing ?xE_NoRing ?xm_NoRing ?q_kss ?z_abs ?z_any ?z_dict ?z_isinstance ?z_len ?z_list ?z_max ?z_range ?z_reversed ?z_sorted ?z_str ?z_sum ?z_tuple ?z_zip ?g_GREATEST_PRIME ?g_LETTERS ?hcc0 ?hch ?hkp
    (case a_Ring => k_is)
    (case pg_Ring => k_is)
    (case hd_Ring => k_is)
    (case po_Ring => k_is)
    (case sa_Ring => k_is)
    (case mk_Ring => k_is)
    (case kc_Ring => k_is)
    (case na_Ring_many => k_is)
    (case na_Ring_field => k_is)
    (case na_Ring_order => k_is)
    (case a_Fractions => k_is)
    (case pg_Fractions => k_is)
    (case hd_Fractions => k_is)
    (case po_Fractions => k_is)
    (case sa_Fractions => k_is)
    (case mk_Fractions => k_is)
    (case kc_Fractions => k_is)
    (case na_Fractions_prime => k_is)
    (case a_Rests => k_is)
    (case pg_Rests => k_is)
    (case hd_Rests => k_is)
    (case po_Rests => k_is)
    (case sa_Rests => k_is)
    (case mk_Rests => k_is)
    (case kc_Rests => k_is)
    (case na_Rests_prime => k_is)
    (case a_Order => k_is)
    (case pg_Order => k_is)
    (case hd_Order => k_is)
    (case po_Order => k_is)
    (case sa_Order => k_is)
    (case mk_Order => k_is)
    (case in_Order => k_is)
    (case kc_Order => k_is)
    (case a_Degrees => k_is)
    (case pg_Degrees => k_is)
    (case hd_Degrees => k_is)
    (case po_Degrees => k_is)
    (case sa_Degrees => k_is)
    (case mk_Degrees => k_is)
    (case in_Degrees => k_is)
    (case kc_Degrees => k_is)
    (case a_Tails => k_is)
    (case pg_Tails => k_is)
    (case hd_Tails => k_is)
    (case po_Tails => k_is)
    (case sa_Tails => k_is)
    (case mk_Tails => k_is)
    (case in_Tails => k_is)
    (case kc_Tails => k_is)
    (case a_Weights => k_is)
    (case pg_Weights => k_is)
    (case hd_Weights => k_is)
    (case po_Weights => k_is)
    (case sa_Weights => k_is)
    (case mk_Weights => k_is)
    (case kc_Weights => k_is)
    (case na_Weights_weights => k_is)
    (case a_0 => k_is)
    (case l_0 => k_is)
    (case c_0 => k_is)
    (case k_0 => k_is)
    (case a_1 => k_is)
    (case l_1 => k_is)
    (case c_1 => k_is)
    (case k_1 => k_is)
    (case a_2 => k_is)
    (case l_2 => k_is)
    (case c_2 => k_is)
    (case k_2 => k_is)
    (case a_3 => k_is)
    (case l_3 => k_is)
    (case c_3 => k_is)
    (case k_3 => k_is)
    (case a_4_Ring => k_is)
    (case i_4 => k_is)
    (case l_4 => k_is)
    (case c_4 => k_is)
    (case k_4 => k_is)
    (case a_5 => k_is)
    (case l_5 => k_is)
    (case c_5 => k_is)
    (case k_5 => k_is)
    (case a_6_Order => k_is)
    (case i_6 => k_is)
    (case bg_6 => k_is)
    (case bt_6 => k_is)
    (case l_6 => k_is)
    (case c_6 => k_is)
    (case k_6 => k_is)
    (case a_7_Degrees => k_is)
    (case i_7 => k_is)
    (case bg_7 => k_is)
    (case bt_7 => k_is)
    (case l_7 => k_is)
    (case c_7 => k_is)
    (case k_7 => k_is)
    (case a_8_Tails => k_is)
    (case i_8 => k_is)
    (case bg_8 => k_is)
    (case bt_8 => k_is)
    (case l_8 => k_is)
    (case c_8 => k_is)
    (case k_8 => k_is)
    (case a_9_Weights => k_is)
    (case i_9 => k_is)
    (case l_9 => k_is)
    (case c_9 => k_is)
    (case k_9 => k_is)
    (case a_10_Weights => k_is)
    (case i_10 => k_is)
    (case bg_10 => k_is)
    (case bt_10 => k_is)
    (case l_10 => k_is)
    (case c_10 => k_is)
    (case k_10 => k_is)
    (case a_11_Degrees => k_is)
    (case a_11_Order => k_is)
    (case a_11_Tails => k_is)
    (case a_11_Weights => k_is)
    (case i_11 => k_is)
    (case l_11 => k_is)
    (case c_11 => k_is)
    (case k_11 => k_is)
    (case a_12_Degrees => k_is)
    (case a_12_Order => k_is)
    (case a_12_Tails => k_is)
    (case i_12 => k_is)
    (case l_12 => k_is)
    (case c_12 => k_is)
    (case k_12 => k_is)
    (case a_13_Weights => k_is)
    (case i_13 => k_is)
    (case l_13 => k_is)
    (case c_13 => k_is)
    (case k_13 => k_is)
    (case a_14_Ring => k_is)
    (case i_14 => k_is)
    (case l_14 => k_is)
    (case c_14 => k_is)
    (case k_14 => k_is)
    (case a_15 => k_is)
    (case l_15 => k_is)
    (case c_15 => k_is)
    (case k_15 => k_is)
    (case aq_16 => k_is)
    (case rq_16 => k_is)
    (case fq_16 => k_is)
    (case sq_16 => k_is)
    (case i_16 => k_is)
    (case l_16 => k_is)
    (case c_16 => k_is)
    (case k_16 => k_is)
    (case a_17_Fractions => k_is)
    (case i_17 => k_is)
    (case l_17 => k_is)
    (case c_17 => k_is)
    (case k_17 => k_is)
    (case a_18_Rests => k_is)
    (case i_18 => k_is)
    (case l_18 => k_is)
    (case c_18 => k_is)
    (case k_18 => k_is)
    (case a_19 => k_is)
    (case l_19 => k_is)
    (case c_19 => k_is)
    (case k_19 => k_is)
    (case a_20 => k_is)
    (case l_20 => k_is)
    (case c_20 => k_is)
    (case k_20 => k_is)
    (case a_21 => k_is)
    (case l_21 => k_is)
    (case c_21 => k_is)
    (case k_21 => k_is)
    (case a_22 => k_is)
    (case l_22 => k_is)
    (case c_22 => k_is)
    (case k_22 => k_is)
    (case a_23 => k_is)
    (case l_23 => k_is)
    (case c_23 => k_is)
    (case k_23 => k_is)
    (case a_24 => k_is)
    (case l_24 => k_is)
    (case c_24 => k_is)
    (case k_24 => k_is)
    (case a_25 => k_is)
    (case l_25 => k_is)
    (case c_25 => k_is)
    (case k_25 => k_is)
    (case a_26 => k_is)
    (case l_26 => k_is)
    (case c_26 => k_is)
    (case k_26 => k_is)
    (case a_27 => k_is)
    (case l_27 => k_is)
    (case c_27 => k_is)
    (case k_27 => k_is)
    (case a_28 => k_is)
    (case l_28 => k_is)
    (case c_28 => k_is)
    (case k_28 => k_is)
    (case a_29 => k_is)
    (case l_29 => k_is)
    (case c_29 => k_is)
    (case k_29 => k_is)
    (case a_30 => k_is)
    (case l_30 => k_is)
    (case c_30 => k_is)
    (case k_30 => k_is)
    (case a_31 => k_is)
    (case l_31 => k_is)
    (case c_31 => k_is)
    (case k_31 => k_is)
    (case a_32 => k_is)
    (case l_32 => k_is)
    (case c_32 => k_is)
    (case k_32 => k_is)
    (case a_33 => k_is)
    (case l_33 => k_is)
    (case c_33 => k_is)
    (case k_33 => k_is)
    (case a_34 => k_is)
    (case l_34 => k_is)
    (case c_34 => k_is)
    (case k_34 => k_is)
    (case a_NoOrder => k_is)
    (case FB_NoOrder => exact PySem.F.excBase_ValueError)
    (case xE_NoOrder => k_exc)
    (case xm_NoOrder => kts_exm)
    (case a_NoPrime => k_is)
    (case FB_NoPrime => exact PySem.F.excBase_ValueError)
    (case xE_NoPrime => k_exc)
    (case xm_NoPrime => kts_exm)
    (case a_NoRing => k_is)
    (case FB_NoRing => exact PySem.F.excBase_ValueError)
    (case xE_NoRing => k_exc)
    (case xm_NoRing => kts_exm)
    (case q_kss => kit_is)
    (case z_abs => k_is)
    (case z_any => k_is)
    (case z_dict => k_is)
    (case z_isinstance => k_is)
    (case z_len => k_is)
    (case z_list => k_is)
    (case z_max => k_is)
    (case z_range => k_is)
    (case z_reversed => k_is)
    (case z_sorted => k_is)
    (case z_str => k_is)
    (case z_sum => k_is)
    (case z_tuple => k_is)
    (case z_zip => k_is)
    (case g_GREATEST_PRIME => k_is)
    (case g_LETTERS => k_is)
    (case hcc0 => exact rfl)
    (case hch => kernel_rfl)
    (case hkp => kernel_rfl)
#print axioms PySem.Challenge.cw_idealroom_k12_shown_holds
