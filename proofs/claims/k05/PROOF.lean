import PyProof.Rows.All
import Wide.All
import OpenK.AllK
import Wide.FinOn
import Lean
import PyProof.EqAt
import PyProof.EqKinds
import PyProof.TupleCall
import KE.KSortTup
import PySem.Challenge.RW_idealroom_k05_orders_rank
set_option Elab.async false
set_option linter.all false
set_option maxRecDepth 100000
namespace L2
open PySem PySem.Spec PyProof.Rows
abbrev Key := Sum Int Str
def keyIs : Key → Value → Bool
  | .inl k, v => Value.isInt k v
  | .inr x, v => Value.isStrOf x v
def keyH (w : World) : Key → Int
  | .inl k => hashInt k
  | .inr x => hashStr w x
theorem keyIs_shape : ∀ {k : Key} {v : Value}, keyIs k v = true → (∃ i t, k = Sum.inl i ∧ v = Value.int i t) ∨ (∃ x t, k = Sum.inr x ∧ v = Value.str x t)
  | .inl i, v, h => by
    obtain ⟨t, e⟩ := Value.isInt_shape (k := i) (v := v) h
    exact .inl ⟨i, t, rfl, e⟩
  | .inr x, v, h => by
    obtain ⟨t, e⟩ := Value.isStrOf_shape (x := x) (v := v) h
    exact .inr ⟨x, t, rfl, e⟩
theorem key_ll (a b : Int) : decide ((Sum.inl a : Key) = Sum.inl b) = (a == b) := by
  by_cases e : a = b
  · subst e; simp
  · have h : ¬ (Sum.inl a : Key) = Sum.inl b := fun q => e (Sum.inl.inj q)
    rw [decide_eq_false h]
    exact (beq_eq_false_iff_ne.mpr e).symm
theorem key_rr (a b : Str) : decide ((Sum.inr a : Key) = Sum.inr b) = decide (a = b) := by
  by_cases e : a = b
  · subst e; simp
  · have h : ¬ (Sum.inr a : Key) = Sum.inr b := fun q => e (Sum.inr.inj q)
    rw [decide_eq_false h, decide_eq_false e]
theorem key_lr (a : Int) (b : Str) : decide ((Sum.inl a : Key) = Sum.inr b) = false := decide_eq_false (fun q => nomatch q)
theorem key_rl (a : Str) (b : Int) : decide ((Sum.inr a : Key) = Sum.inl b) = false := decide_eq_false (fun q => nomatch q)
def mixKind (prog : Program) (w : World) : PySem.KeyKind prog w Key where
  is := keyIs
  hash := keyH w
  inj := fun v a b ha hb => by
    rcases keyIs_shape ha with ⟨i, t, rfl, rfl⟩ | ⟨x, t, rfl, rfl⟩
    · rcases keyIs_shape hb with ⟨j, u, rfl, e⟩ | ⟨y, u, rfl, e⟩
      · injection e with e1 _; rw [e1]
      · exact nomatch e
    · rcases keyIs_shape hb with ⟨j, u, rfl, e⟩ | ⟨y, u, rfl, e⟩
      · exact nomatch e
      · injection e with e1 _; rw [e1]
  byValue := fun k v h => by
    rcases keyIs_shape h with ⟨i, t, rfl, rfl⟩ | ⟨x, t, rfl, rfl⟩ <;> rfl
  pyHash := fun hv h => by
    rcases keyIs_shape hv with ⟨i, t, rfl, rfl⟩ | ⟨x, t, rfl, rfl⟩
    · exact wpAny_pyHash_int h
    · exact wpAny_pyHash_str h
  eqBool := fun hu hv h => by
    rcases keyIs_shape hu with ⟨i, t, rfl, rfl⟩ | ⟨x, t, rfl, rfl⟩
    · rcases keyIs_shape hv with ⟨j, u, rfl, rfl⟩ | ⟨y, u, rfl, rfl⟩
      · rw [key_ll] at h; exact wpAny_eqBool_int h
      · rw [key_lr] at h; exact SeqAt.EqAt.int_str i t y u _ _ _ _ h
    · rcases keyIs_shape hv with ⟨j, u, rfl, rfl⟩ | ⟨y, u, rfl, rfl⟩
      · rw [key_rl] at h; exact SeqAt.EqAt.str_int x t j u _ _ _ _ h
      · rw [key_rr] at h; exact wpAny_eqBool_str h
  «strs» := fun k x t v h => by
    rcases keyIs_shape h with ⟨i, u, rfl, e⟩ | ⟨y, u, rfl, e⟩
    · exact nomatch e
    · injection e with e1 _
      subst e1
      cases v <;> rfl
end L2
namespace L2
open PySem PySem.Spec PyProof.Rows
inductive V where
  | non | bl (b : Bool) | int (i : Int) | str (x : Str) | byt (b : Array UInt8) | flt (b : UInt64) | ref (a : Addr) | ty (n : String)
  deriving DecidableEq
def RelV : V → Value → Prop
  | .non, u => u = Value.none
  | .bl b, u => u = Value.bool b
  | .int i, u => ∃ t, u = Value.int i t
  | .str x, u => ∃ t, u = Value.str x t
  | .byt b, u => ∃ t, u = Value.bytes b t
  | .flt b, u => ∃ t, u = Value.float b t
  | .ref a, u => u = Value.ref a
  | .ty n, u => u = Value.type n
abbrev Vals : List V → List Value → Prop := Paired RelV
theorem Vals.length {xs : List V} {us : List Value} (r : Vals xs us) : xs.length = us.length := Paired.length r
theorem Vals.get : ∀ {xs : List V} {us : List Value} {i : Nat} {x : V}, Vals xs us → xs[i]? = some x → ∃ u, us[i]? = some u ∧ RelV x u
  | _, _, _, _, .nil, e => by simp at e
  | _, _, 0, _, .cons r _, e => by simp at e; subst e; exact ⟨_, rfl, r⟩
  | _, _, i + 1, x, .cons _ t, e => by
    obtain ⟨u, h1, h2⟩ := Vals.get (i := i) (x := x) t (by simpa using e)
    exact ⟨u, by simpa using h1, h2⟩
theorem Vals.set {x : V} {u : Value} (r : RelV x u) : ∀ {xs : List V} {us : List Value} (i : Nat), Vals xs us → Vals (xs.set i x) (us.set i u)
  | _, _, _, .nil => .nil
  | _, _, 0, .cons _ t => .cons r t
  | _, _, i + 1, .cons q t => .cons q (Vals.set r i t)
theorem Vals.append : ∀ {xs ys : List V} {us ws : List Value}, Vals xs us → Vals ys ws → Vals (xs ++ ys) (us ++ ws)
  | _, _, _, _, .nil, s => s
  | _, _, _, _, .cons r t, s => .cons r (Vals.append t s)
theorem Vals.take : ∀ {xs : List V} {us : List Value} (n : Nat), Vals xs us → Vals (xs.take n) (us.take n)
  | _, _, 0, _ => .nil
  | _, _, _ + 1, .nil => .nil
  | _, _, n + 1, .cons r t => .cons r (Vals.take n t)
theorem Vals.drop : ∀ {xs : List V} {us : List Value} (n : Nat), Vals xs us → Vals (xs.drop n) (us.drop n)
  | _, _, 0, r => r
  | _, _, _ + 1, .nil => .nil
  | _, _, n + 1, .cons _ t => Vals.drop n t
def RelO : Option V → Option Value → Prop
  | some v, some u => RelV v u
  | none, none => True
  | _, _ => False
def KV {κ : Type} : List (κ × V) → List (κ × Value) → Prop := Paired fun (p : κ × V) (q : κ × Value) => p.1 = q.1 ∧ RelV p.2 q.2
def kV : Key → V
  | .inl i => .int i
  | .inr x => .str x
inductive HO where
    | lst (xs : List V)
    | tup (xs : List V)
    | dK (kvs : List (Key × V)) | dT (kvs : List (List Key × V))
    | set (S : Int → Bool) (n : Nat)
    | ins (C dx : Addr) (fs : List (Str × V))
    | own (x : Addr)
    | xd (fs : List (Str × V))
    | met (f x : Addr)
    | rng (lo hi : Int)
    | frz (o : Obj) (u : HO)
    | tbl (ps : Array Value)
    | ext (φ : Heap → Prop)
abbrev Hp := Addr → Option HO
def upd (H : Hp) (a : Addr) (o : HO) : Hp := fun b => if b = a then some o else H b
theorem upd_same {H : Hp} {a : Addr} {o : HO} : upd H a o a = some o := by unfold upd; rw [if_pos rfl]
theorem upd_ne {H : Hp} {a b : Addr} {o : HO} (h : b ≠ a) : upd H a o b = H b := by unfold upd; rw [if_neg h]
theorem ne_of {H : Hp} {a b : Addr} {o u : HO} (h : H a = some o) (h' : H b = some u) (d : o ≠ u) : a ≠ b := by
  intro e; subst e; rw [h] at h'; exact d (Option.some.inj h')
theorem ne_of_none {H : Hp} {a b : Addr} {o : HO} (h : H a = some o) (h' : H b = none) : a ≠ b := by
  intro e; subst e; rw [h] at h'; cases h'
section
variable (P : Program) (w : World)
def ObjOk (H : Hp) (h : Heap) (a : Addr) : HO → Prop
  | .lst xs => xs.length ≤ sizeLine ∧ ∃ (its : List Value) (n : Nat), Vals xs its ∧ h.get? a = some { cls := .type "list", data := .seq its.toArray n }
  | .tup xs => xs.length ≤ sizeLine ∧ ∃ its : List Value, Vals xs its ∧ IsTup h a its.toArray
  | .dK kvs => kvs.length ≤ sizeLine ∧ (a == sysModules) = false ∧ ∃ vs, KV kvs vs ∧ h.DictOf (mixKind P w) a vs
  | .dT kvs => kvs.length ≤ sizeLine ∧ (a == sysModules) = false ∧ ∃ xs : List (List Key × Addr × Value),
      Paired (fun (p : List Key × V) (q : List Key × Addr × Value) => p.1 = q.1 ∧ H q.2.1 = some (.tup (p.1.map kV)) ∧ RelV p.2 q.2.2) kvs xs ∧
      ∃ o es ep, h.get? a = some o ∧ o.ExactDict ∧ o.data = .dict es ep ∧ es.toList = xs.map (entryOfKey (tupleKind (mixKind P w))) ∧ (xs.map (·.1)).Nodup
  | .set S n => h.SetOf (intKind P w) a S n
  | .ins C dx fs => H dx = some (.own a) ∧ fs.length ≤ 1000 ∧ dx ≠ a ∧ h.get? a = some (PySem.W.instObj C dx) ∧
      ∃ mA, h.Ns1 dx mA ∧ (∀ f, RelO (fs.lookup f) (mA f)) ∧ PySem.Within mA (fs.map (·.1))
  | .own _ => ∃ o, h.get? a = some o
  | .xd fs => ∃ mA, h.Ns1 a mA ∧ ∀ f, RelO (fs.lookup f) (mA f)
  | .rng lo hi => ∃ t u v, h.get? a = some { cls := .type "range", data := .fields #[.int lo t, .int hi u, .int 1 v] }
  | .frz o u => h.get? a = some o ∧ ObjOk H h a u
  | .tbl ps => h.get? a = some { cls := .none, data := .fields ps }
  | .met f x => h.get? a = some (PySem.W.methodObj (.ref f) (.ref x))
  | .ext φ => φ h ∧ (∃ o, h.get? a = some o) ∧ ∀ h1 h2 : Heap, φ h1 → (∀ o, h1.get? a = some o → h2.get? a = some o) → φ h2
def HOk (H : Hp) (h : Heap) : Prop := ∀ a o, H a = some o → ObjOk P w H h a o
end
section
variable {P : Program} {w : World} {H H' : Hp} {h h' : Heap} {a : Addr} {o : HO}
theorem ObjOk.lt (x : ObjOk P w H h a o) : a < h.objs.size := by
  cases o with
  | lst xs => obtain ⟨_, _, _, _, e⟩ := x; exact Heap.lt_size e
  | tup xs => obtain ⟨_, _, _, p⟩ := x; exact p.lt
  | dK kvs => obtain ⟨_, _, _, _, o, _, _, e, _⟩ := x; exact Heap.lt_size e
  | dT kvs => obtain ⟨_, _, _, _, o, _, _, e, _⟩ := x; exact Heap.lt_size e
  | set S n => obtain ⟨o, _, _, _, e, _⟩ := x; exact Heap.lt_size e
  | ins C dx fs => obtain ⟨_, _, _, e, _⟩ := x; exact Heap.lt_size e
  | own y => obtain ⟨_, e⟩ := x; exact Heap.lt_size e
  | xd fs => obtain ⟨_, ⟨_, _, _, e, _⟩, _⟩ := x; exact Heap.lt_size e
  | rng lo hi => obtain ⟨_, _, _, e⟩ := x; exact Heap.lt_size e
  | frz ob u => obtain ⟨e, _⟩ := x; exact Heap.lt_size e
  | tbl ps => exact Heap.lt_size (show h.get? a = some _ from x)
  | met f y => exact Heap.lt_size (show h.get? a = some _ from x)
  | ext φ => obtain ⟨_, ⟨_, e⟩, _⟩ := x; exact Heap.lt_size e
theorem Paired.mapP {α β : Type} {F G : α → β → Prop} : ∀ {l₁ : List α} {l₂ : List β}, Paired F l₁ l₂ → (∀ a b, F a b → G a b) → Paired G l₁ l₂
  | _, _, .nil, _ => .nil
  | _, _, .cons r t, f => .cons (f _ _ r) (Paired.mapP t f)
theorem Paired.imp' {α β : Type} {F G : α → β → Prop} (f : ∀ a b, F a b → G a b) {l₁ : List α} {l₂ : List β} (r : Paired F l₁ l₂) : Paired G l₁ l₂ := Paired.mapP r f
theorem ObjOk.stay (x : ObjOk P w H h a o) (k : ∀ b u, (b = a ∨ H b = some (.own a)) → h.get? b = some u → h'.get? b = some u)
    (ho : ∀ b, H b = some (.own a) → H' b = some (.own a)) (ht : ∀ b xs, H b = some (.tup xs) → H' b = some (.tup xs)) : ObjOk P w H' h' a o := by
  induction o with
  | lst xs => obtain ⟨z, its, n, r, e⟩ := x; exact ⟨z, its, n, r, k _ _ (.inl rfl) e⟩
  | tup xs => obtain ⟨z, its, r, ob, e, c⟩ := x; exact ⟨z, its, r, ob, k _ _ (.inl rfl) e, c⟩
  | dK kvs => obtain ⟨z, y, vs, r, ob, es, ep, e, c⟩ := x; exact ⟨z, y, vs, r, ob, es, ep, k _ _ (.inl rfl) e, c⟩
  | dT kvs =>
    obtain ⟨z, y, xs, r, ob, es, ep, e, c⟩ := x
    exact ⟨z, y, xs, Paired.mapP r fun p q z => ⟨z.1, ht _ _ z.2.1, z.2.2⟩, ob, es, ep, k _ _ (.inl rfl) e, c⟩
  | set S n => obtain ⟨ob, es, ep, t, e, c⟩ := x; exact ⟨ob, es, ep, t, k _ _ (.inl rfl) e, c⟩
  | ins C dx fs =>
    obtain ⟨d, z, ne, e, mA, ⟨od, es, ep, e2, c⟩, r⟩ := x
    exact ⟨ho _ d, z, ne, k _ _ (.inl rfl) e, mA, ⟨od, es, ep, k _ _ (.inr d) e2, c⟩, r⟩
  | own y => obtain ⟨ob, e⟩ := x; exact ⟨ob, k _ _ (.inl rfl) e⟩
  | xd fs => obtain ⟨mA, ⟨od, es, ep, e, c⟩, r⟩ := x; exact ⟨mA, ⟨od, es, ep, k _ _ (.inl rfl) e, c⟩, r⟩
  | rng lo hi => obtain ⟨t, u, v, e⟩ := x; exact ⟨t, u, v, k _ _ (.inl rfl) e⟩
  | frz ob u ih => obtain ⟨e, q⟩ := x; exact ⟨k _ _ (.inl rfl) e, ih q⟩
  | tbl ps =>
    have e : h.get? a = some { cls := .none, data := .fields ps } := x
    show h'.get? a = some { cls := .none, data := .fields ps }
    exact k a _ (.inl rfl) e
  | met f y =>
    have e : h.get? a = some (PySem.W.methodObj (.ref f) (.ref y)) := x
    show h'.get? a = some (PySem.W.methodObj (.ref f) (.ref y))
    exact k a _ (.inl rfl) e
  | ext φ => obtain ⟨p, ⟨o, e⟩, st⟩ := x; exact ⟨st _ _ p fun o q => k _ _ (.inl rfl) q, ⟨o, k _ _ (.inl rfl) e⟩, st⟩
theorem HOk.lt (x : HOk P w H h) (e : H a = some o) : a < h.objs.size := (x a o e).lt
theorem HOk.fresh (x : HOk P w H h) (e : h.objs.size ≤ a) : H a = none := by
  cases q : H a with
  | none => rfl
  | some u => exact absurd (Nat.lt_of_lt_of_le (x.lt q) e) (Nat.lt_irrefl _)
theorem HOk.kept (x : HOk P w H h) (k : ∀ b u, h.get? b = some u → h'.get? b = some u) : HOk P w H h' := fun a o e =>
  (x a o e).stay (fun b u _ q => k b u q) (fun _ q => q) fun _ _ q => q
theorem HOk.laid (x : HOk P w H h) (k : ∀ b u, h.get? b = some u → h'.get? b = some u) (hp : h.objs.size ≤ a) (new : ObjOk P w (upd H a o) h' a o) : HOk P w (upd H a o) h' := fun b u e => by
  have hn := x.fresh hp
  by_cases hb : b = a
  · subst hb; rw [upd_same] at e; cases e; exact new
  · rw [upd_ne hb] at e
    exact (x b u e).stay (fun c v _ q => k c v q) (fun c q => by rw [upd_ne (ne_of_none q hn)]; exact q) fun c xs q => by rw [upd_ne (ne_of_none q hn)]; exact q
end
def Rd (H : Hp) (a : Addr) (u : HO) : Prop := H a = some u ∨ ∃ o, H a = some (.frz o u)
theorem Rd.ok {P : Program} {w : World} {H : Hp} {h : Heap} {a : Addr} {u : HO} (r : Rd H a u) (x : HOk P w H h) : ObjOk P w H h a u := by
  rcases r with r | ⟨o, r⟩
  · exact x a u r
  · obtain ⟨_, q⟩ := x a _ r
    exact q
def Mut : Option HO → Prop
  | some (.lst _) => True
  | some (.dK _) => True
  | some (.dT _) => True
  | some (.set _ _) => True
  | some (.ins _ _ _) => True
  | some (.ext _) => True
  | _ => False
section
variable {P : Program} {w : World} {H : Hp} {h h' : Heap} {x e : Addr} {o' : HO}
theorem HOk.write (ok : HOk P w H h) (mu : Mut (H x)) (he : e = x ∨ H e = some (.own x)) (k : ∀ b u, b ≠ e → h.get? b = some u → h'.get? b = some u) (heo : ∃ u, h'.get? e = some u)
    (new : ObjOk P w (upd H x o') h' x o') : HOk P w (upd H x o') h' := fun b u q => by
  have nown : ∀ c y, H c = some (.own y) → c ≠ x := fun c y r z => by subst z; rw [r] at mu; exact mu
  have ntup : ∀ c xs, H c = some (.tup xs) → c ≠ x := fun c xs r z => by subst z; rw [r] at mu; exact mu
  by_cases hb : b = x
  · subst hb; rw [upd_same] at q; cases q; exact new
  · rw [upd_ne hb] at q
    by_cases hbe : b = e
    · have q' : H b = some (.own x) := by
        rcases he with z | z
        · exact absurd (hbe.trans z) hb
        · rw [hbe]; exact z
      rw [q] at q'; cases q'
      obtain ⟨v, hv⟩ := heo
      exact ⟨v, by rw [hbe]; exact hv⟩
    · refine (ok b u q).stay (fun c v hc r => k c v ?_ r) (fun c r => by rw [upd_ne (nown c b r)]; exact r) fun c xs r => by rw [upd_ne (ntup c xs r)]; exact r
      rcases hc with rfl | hc
      · exact hbe
      · rintro rfl
        rcases he with z | z
        · exact nown c b hc z
        · rw [hc] at z; cases z; exact hb rfl
end
structure Un (fs ex : List Addr) (H H' : Hp) (h h' : Heap) : Prop where
  keep : ∀ b o, h.get? b = some o → H b = none → b ∉ fs → b ∉ ex → h'.get? b = some o
  slot : ∀ b o, h.get? b = some o → H b = none → b ∈ fs → b ∉ ex → ∃ sl, h'.get? b = some { o with slots := sl }
  free : ∀ b o, h.get? b = some o → H b = none → b ∉ ex → H' b = none
  there : ∀ b o, h.get? b = some o → b ∉ ex → ∃ o', h'.get? b = some o'
  tups : ∀ b xs, H b = some (.tup xs) → H' b = some (.tup xs)
  frzs : ∀ b o u, H b = some (.frz o u) → H' b = some (.frz o u)
  tbls : ∀ b ps, H b = some (.tbl ps) → ∃ more, H' b = some (.tbl (ps ++ more))
section
variable {fs fs' ex ex' : List Addr} {H H1 H2 : Hp} {h h1 h2 h' : Heap} {a x e : Addr} {o : HO}
theorem Un.any (u : Un fs ex H H1 h h1) {b : Addr} {ob : Obj} (q : h.get? b = some ob) (n : H b = none) (hx : b ∉ ex) : ∃ sl, h1.get? b = some { ob with slots := sl } := by
  by_cases hb : b ∈ fs
  · exact u.slot b ob q n hb hx
  · exact ⟨ob.slots, u.keep b ob q n hb hx⟩
theorem Un.kept (k : ∀ b u, h.get? b = some u → h'.get? b = some u) : Un fs ex H H h h' :=
  ⟨fun b ob q _ _ _ => k b ob q, fun b ob q _ _ _ => ⟨ob.slots, k b ob q⟩, fun _ _ _ n _ => n, fun b ob q _ => ⟨ob, k b ob q⟩, fun _ _ q => q, fun _ _ _ q => q, fun _ ps q => ⟨#[], by rw [q]; simp⟩⟩
theorem Un.refl : Un fs ex H H h h := Un.kept fun _ _ q => q
theorem Un.laid (k : ∀ b u, h.get? b = some u → h'.get? b = some u) (hp : h.objs.size ≤ a) (hn : H a = none) : Un fs ex H (upd H a o) h h' where
  keep := fun b u q _ _ _ => k b u q
  slot := fun b u q _ _ _ => ⟨u.slots, k b u q⟩
  free := fun b u q n _ => by rw [upd_ne (Nat.ne_of_lt (Nat.lt_of_lt_of_le (Heap.lt_size q) hp))]; exact n
  there := fun b u q _ => ⟨u, k b u q⟩
  tups := fun b xs q => by rw [upd_ne (ne_of_none q hn)]; exact q
  frzs := fun b u xs q => by rw [upd_ne (ne_of_none q hn)]; exact q
  tbls := fun b ps q => ⟨#[], by rw [upd_ne (ne_of_none q hn), q]; simp⟩
theorem Un.write (mu : Mut (H x)) (he : e = x ∨ H e = some (.own x)) (k : ∀ b u, b ≠ e → h.get? b = some u → h'.get? b = some u) (heo : ∃ u, h'.get? e = some u) : Un fs ex H (upd H x o) h h' := by
  have hx : ∀ b, H b = none → b ≠ x := fun b n z => by subst z; rw [n] at mu; exact mu
  have hb : ∀ b, H b = none → b ≠ e := fun b n z => by
    subst z
    rcases he with r | r
    · exact hx b n r
    · rw [n] at r; cases r
  have hm : ∀ b u, H b = some u → ¬ Mut (some u) → b ≠ x := fun b u q nm z => by subst z; rw [q] at mu; exact nm mu
  refine ⟨fun b u q n _ _ => k b u (hb b n) q, fun b u q n _ _ => ⟨u.slots, k b u (hb b n) q⟩, fun b u q n _ => by rw [upd_ne (hx b n)]; exact n, fun b u q _ => ?_,
    fun b xs q => by rw [upd_ne (hm b _ q fun z => z)]; exact q, fun b u xs q => by rw [upd_ne (hm b _ q fun z => z)]; exact q, fun b ps q => ⟨#[], by rw [upd_ne (hm b _ q fun z => z), q]; simp⟩⟩
  by_cases hbe : b = e
  · subst hbe; exact heo
  · exact ⟨u, k b u hbe q⟩
end
def trk (h : Heap) (H : Hp) : List Addr := (List.range h.objs.size).filter fun a => (H a).isSome
def hidT (h : Heap) (H : Hp) : Heap := PySem.W.hideAll h (trk h H)
theorem hidT_size (h : Heap) (H : Hp) : (hidT h H).objs.size = h.objs.size := PySem.W.hideAll_size _ _
theorem hidT_get {h : Heap} {H : Hp} {b : Addr} {o : Obj} (e : h.get? b = some o) (n : H b = none) : (hidT h H).get? b = some o :=
  PySem.W.hideAll_get _ e fun hm => by
    have q : (H b).isSome = true := (List.mem_filter.mp hm).2
    rw [n] at q; simp at q
theorem of_hidT {h : Heap} {H : Hp} {b : Addr} {o : Obj} (e : (hidT h H).get? b = some o) : h.get? b = some o ∧ H b = none := by
  have e' : h.get? b = some o := PySem.W.of_hideAll (trk h H) e
  refine ⟨e', ?_⟩
  cases q : H b with
  | none => rfl
  | some x =>
    have hm : b ∈ trk h H := List.mem_filter.mpr ⟨List.mem_range.mpr (Heap.lt_size e'), by simp [q]⟩
    have z : (hidT h H).get? b = none := PySem.W.hideAll_none (trk h H) hm
    rw [z] at e; cases e
def allNews (g h : Heap) (L : Addr) : List (Addr × Obj) := (List.range h.objs.size).filterMap fun a => if a = L ∨ (g.get? a).isSome = true then none else (h.get? a).map fun o => (a, o)
def rest (g h : Heap) (L d : Addr) : List (Addr × Obj) := (allNews g h L).filter fun p => decide (p.1 ≠ d)
end L2
namespace L2
open PySem PySem.Spec PyProof.Rows
structure Mod (K : PySem.W.Frag) (mg : Str → Option Value) (base : Heap) : Prop where
  kin : K.In base
  glob : base.Ns mainGlobals mg
  blt : ∃ mb, base.Ns builtinsNs mb ∧ ∀ x : Str, x ≠ "__name__" → mb x = bootBuiltins x
  nolimit : base.NoLimit
structure Cx where
  prog : Program
  w : World
  K : PySem.W.Frag
  mg : Str → Option Value
  base : Heap
  A : Around
  N : List Str
  s₀ : Shared
  H₀ : Hp
  env : Env
  outer : List Env
  stack : List Env
  ex : List Addr
  fn : Str → Bool
  calm : Bool
  pn : List (Addr × Obj)
  xe : Value → Shared → Prop
def frs (l : List Env) : List Addr := l.filterMap (·.frame)
abbrev Cx.fs (X : Cx) : List Addr := frs X.outer
def Vis (sc : Scope) (x : Str) : Prop := sc.names.lookup x = some .local ∨ sc.names.lookup x = some .cell ∨ sc.names.lookup x = some .free
def Loc (sc : Scope) (x : Str) : Prop := sc.names.lookup x = some .local ∨ sc.names.lookup x = some .cell
def Look (env : Env) (h : Heap) (m : Str → Option Value) (x : Str) (u : Value) : Prop :=
  (env.kindOf x = some .local ∧ m x = some u) ∨ ((env.kindOf x = some .cell ∨ env.kindOf x = some .free) ∧ ∃ c, env.cells.lookup x = some c ∧ h.IsCell c (some u))
structure Cx.Ok (X : Cx) : Prop where
  mod : Mod X.K X.mg X.base
  kind : X.env.scope.kind = .function
  glob : X.env.globals = mainGlobals
  blt : X.env.builtins = builtinsNs
  above : X.s₀.heap.objs.size ≤ X.env.locals
  inj : ∀ x y c, X.env.cells.lookup x = some c → X.env.cells.lookup y = some c → x = y
  has : ∀ x, (X.env.kindOf x = some .cell ∨ X.env.kindOf x = some .free) → ∃ c, X.env.cells.lookup x = some c
  cab : ∀ x c, X.fn x = true → X.env.cells.lookup x = some c → X.s₀.heap.objs.size ≤ c
  hd : X.calm = true → X.A.handled = none
  frames : X.A.frames = some X.stack
  stk : X.stack = X.outer ∨ (X.stack = X.env :: X.outer ∧ X.env.frame = some X.env.locals)
  exf : ∀ b ∈ X.ex, b ≠ X.env.locals ∧ ∀ x c, X.env.cells.lookup x = some c → c ≠ b
  bs : ∀ b o, X.base.get? b = some o → X.s₀.heap.get? b = some o ∧ X.H₀ b = none
  bsz : X.base.objs.size ≤ X.s₀.heap.objs.size
  noex : ∀ b o, X.base.get? b = some o → b ∉ X.ex
  exfs : ∀ b ∈ X.ex, b ∉ X.fs
  funs : X.s₀.heap.FunFrames X.base X.outer
  frf : ∀ b ∈ X.fs, X.H₀ b = none
structure Inv (X : Cx) (pins : List (Addr × Obj)) (σ : List (Option V)) (H : Hp) (s : Shared) : Prop where
  ok : X.Ok
  os : s.os = X.s₀.os
  bare : AllBare s.gens
  base : Un X.fs X.ex X.H₀ H X.s₀.heap s.heap
  loc : ∃ m, s.heap.Ns X.env.locals m ∧ ∀ (i : Nat) (x : Str) (v : V), X.N[i]? = some x → σ[i]? = some (some v) → Vis X.env.scope x → ∃ u, RelV v u ∧ Look X.env s.heap m x u
  cell : ∀ x c, X.env.cells.lookup x = some c → ∃ v, s.heap.IsCell c v
  free : H X.env.locals = none
  freeC : ∀ x c, X.env.cells.lookup x = some c → H c = none
  pin : ∀ p ∈ X.pn ++ pins, s.heap.get? p.1 = some p.2 ∧ H p.1 = none ∧ p.1 ≠ X.env.locals ∧ p.1 ∉ X.fs ∧ ∀ v, p.2.data ≠ .cell v
  hok : HOk X.prog X.w H s.heap
  len : σ.length = X.N.length
section
variable {X : Cx} {pins : List (Addr × Obj)} {σ : List (Option V)} {H H' : Hp} {s : Shared} {h' : Heap}
theorem Cx.Ok.nofr (ok : X.Ok) {b : Addr} {o : Obj} (e : X.base.get? b = some o) : b ∉ X.fs := fun hb => by
  have := (ok.funs.mem hb).1
  rw [e] at this; cases this
theorem Inv.bs (I : Inv X pins σ H s) : ∀ b o, X.base.get? b = some o → s.heap.get? b = some o ∧ H b = none := fun b o e =>
  ⟨I.base.keep b o (I.ok.bs b o e).1 (I.ok.bs b o e).2 (I.ok.nofr e) (I.ok.noex b o e), I.base.free b o (I.ok.bs b o e).1 (I.ok.bs b o e).2 (I.ok.noex b o e)⟩
theorem Inv.bk (I : Inv X pins σ H s) : ∀ b o, X.base.get? b = some o → s.heap.get? b = some o := fun b o e => (I.bs b o e).1
theorem Inv.mod (I : Inv X pins σ H s) : Mod X.K X.mg X.base := I.ok.mod
theorem Inv.kIn (I : Inv X pins σ H s) : X.K.In s.heap := I.ok.mod.kin.keeps I.bk
theorem Inv.lt (I : Inv X pins σ H s) : X.env.locals < s.heap.objs.size := let ⟨_, hn, _⟩ := I.loc; hn.lt
theorem Inv.sz (I : Inv X pins σ H s) : X.s₀.heap.objs.size ≤ s.heap.objs.size := Nat.le_trans I.ok.above (Nat.le_of_lt I.lt)
theorem Inv.nofs (I : Inv X pins σ H s) {a : Addr} (h : s.heap.objs.size ≤ a) : a ∉ X.fs := fun hb => by
  obtain ⟨_, o, ho, _⟩ := I.ok.funs.mem hb
  exact absurd (Nat.lt_of_lt_of_le (Heap.lt_size ho) (Nat.le_trans I.sz h)) (Nat.lt_irrefl _)
theorem Inv.cne (I : Inv X pins σ H s) : ∀ x c, X.env.cells.lookup x = some c → c ≠ X.env.locals := fun x c e z => by
  obtain ⟨v, o, ho, hd⟩ := I.cell x c e
  obtain ⟨m, ⟨o', es, ep, ho', hd', _⟩, _⟩ := I.loc
  rw [z, ho'] at ho; cases ho; rw [hd'] at hd; cases hd
theorem Inv.funs (I : Inv X pins σ H s) : s.heap.FunFrames X.base X.outer := by
  have all : ∀ (l : List Env), (∀ b ∈ frs l, b ∈ X.fs) → X.s₀.heap.FunFrames X.base l → s.heap.FunFrames X.base l := by
    intro l
    induction l with
    | nil => intro _ _; trivial
    | cons env r ih =>
      intro hs hl
      obtain ⟨hk, ⟨L, o, hf, hn, ho, hd⟩, hr⟩ := hl
      have hL : L ∈ X.fs := hs L (by unfold frs; rw [List.filterMap_cons, hf]; exact List.mem_cons_self)
      obtain ⟨sl, e⟩ := I.base.slot L o ho (I.ok.frf L hL) hL fun z => I.ok.exfs L z hL
      exact ⟨hk, ⟨L, _, hf, hn, e, hd⟩, ih (fun b hb => hs b (by unfold frs; rw [List.filterMap_cons, hf]; exact List.mem_cons_of_mem _ hb)) hr⟩
  exact all X.outer (fun _ hb => hb) I.ok.funs
theorem Inv.stack (I : Inv X pins σ H s) : s.heap.FunFrames X.base X.stack := by
  rcases I.ok.stk with e | ⟨e, hf⟩
  · rw [e]; exact I.funs
  · rw [e]
    obtain ⟨m, hn, _⟩ := I.loc
    refine .cons (by rw [I.ok.kind]; decide) hf hn ?_ I.funs
    exact Heap.get?_none_of_le (Nat.le_trans I.ok.bsz I.ok.above)
theorem Inv.stkSub (I : Inv X pins σ H s) : ∀ b ∈ frs X.stack, b ∈ X.env.locals :: X.fs := fun b hb => by
  rcases I.ok.stk with e | ⟨e, hf⟩
  · rw [e] at hb; exact List.mem_cons_of_mem _ hb
  · rw [e] at hb
    unfold frs at hb
    rw [List.filterMap_cons, hf] at hb
    exact hb
theorem Inv.stkFree (I : Inv X pins σ H s) : ∀ b ∈ frs X.stack, H b = none := fun b hb => by
  rcases List.mem_cons.mp (I.stkSub b hb) with e | hb
  · rw [e]; exact I.free
  · obtain ⟨_, o, ho, _⟩ := I.ok.funs.mem hb
    exact I.base.free b o ho (I.ok.frf b hb) fun z => I.ok.exfs b z hb
theorem Inv.step {g' : Array GenState} {t' : Nat} {d' : Drawn} {ch : List Addr} (I : Inv X pins σ H s)
    (hch : ∀ b ∈ ch, (b ∈ X.ex ∨ X.s₀.heap.objs.size ≤ b) ∧ b ≠ X.env.locals ∧ (∀ x c, X.env.cells.lookup x = some c → c ≠ b) ∧ ∀ p ∈ X.pn ++ pins, p.1 ≠ b)
    (keep : ∀ b o, b ≠ X.env.locals → b ∉ X.fs → b ∉ ch → s.heap.get? b = some o → H b = none → h'.get? b = some o)
    (slot : ∀ b o, b ≠ X.env.locals → b ∈ X.fs → b ∉ ch → s.heap.get? b = some o → H b = none → ∃ sl, h'.get? b = some { o with slots := sl }) (free : ∀ b o, b ∉ ch → s.heap.get? b = some o → H b = none → H' b = none)
    (there : ∀ b o, b ∉ ch → s.heap.get? b = some o → ∃ o', h'.get? b = some o')
    (tups : ∀ b xs, H b = some (.tup xs) → H' b = some (.tup xs)) (frzs : ∀ b o u, H b = some (.frz o u) → H' b = some (.frz o u)) (tbls : ∀ b ps, H b = some (.tbl ps) → ∃ more, H' b = some (.tbl (ps ++ more)))
    (ns : ∀ m, s.heap.Ns X.env.locals m → h'.Ns X.env.locals m) (hok : HOk X.prog X.w H' h') (hg : AllBare g') :
    Inv X pins σ H' { s with heap := h', gens := g', drawn := d', toks := t' } := by
  have neL : ∀ b o, X.s₀.heap.get? b = some o → b ≠ X.env.locals := fun b o e => Nat.ne_of_lt (Nat.lt_of_lt_of_le (Heap.lt_size e) I.ok.above)
  have neC : ∀ b o, X.s₀.heap.get? b = some o → b ∉ X.ex → b ∉ ch := fun b o e hx hb => by
    rcases (hch b hb).1 with z | z
    · exact hx z
    · exact absurd (Nat.lt_of_lt_of_le (Heap.lt_size e) z) (Nat.lt_irrefl _)
  have cellK : ∀ x c, X.env.cells.lookup x = some c → ∀ v, s.heap.IsCell c v → h'.IsCell c v := fun x c e v ⟨o, ho, hd⟩ => by
    have nch : c ∉ ch := fun z => (hch c z).2.2.1 x c e rfl
    by_cases hc : c ∈ X.fs
    · obtain ⟨sl, q⟩ := slot c o (I.cne x c e) hc nch ho (I.freeC x c e)
      exact ⟨_, q, hd⟩
    · exact ⟨o, keep c o (I.cne x c e) hc nch ho (I.freeC x c e), hd⟩
  refine ⟨I.ok, I.os, hg, ⟨fun b o e n hb hx => ?_, fun b o e n hb hx => ?_, fun b o e n hx => ?_, fun b o e hx => ?_, fun b xs e => tups b xs (I.base.tups b xs e), fun b o xs e => frzs b o xs (I.base.frzs b o xs e), fun b ps e => ?_⟩, ?_, fun x c e => ?_, ?_, fun x c e => ?_, fun p hp => ?_, hok, I.len⟩
  · exact keep b o (neL b o e) hb (neC b o e hx) (I.base.keep b o e n hb hx) (I.base.free b o e n hx)
  · obtain ⟨sl, e1⟩ := I.base.slot b o e n hb hx
    obtain ⟨sl', e2⟩ := slot b _ (neL b o e) hb (neC b o e hx) e1 (I.base.free b o e n hx)
    exact ⟨sl', e2⟩
  · obtain ⟨o', e1⟩ := I.base.there b o e hx
    exact free b o' (neC b o e hx) e1 (I.base.free b o e n hx)
  · obtain ⟨o', e1⟩ := I.base.there b o e hx
    exact there b o' (neC b o e hx) e1
  · obtain ⟨m1, e1⟩ := I.base.tbls b ps e
    obtain ⟨m2, e2⟩ := tbls b _ e1
    exact ⟨m1 ++ m2, by rw [e2, Array.append_assoc]⟩
  · obtain ⟨m, hn, hl⟩ := I.loc
    refine ⟨m, ns m hn, fun i x v e1 e2 e3 => ?_⟩
    obtain ⟨u, r, l⟩ := hl i x v e1 e2 e3
    refine ⟨u, r, ?_⟩
    rcases l with l | ⟨k, c, e, z⟩
    · exact .inl l
    · exact .inr ⟨k, c, e, cellK x c e _ z⟩
  · obtain ⟨v, z⟩ := I.cell x c e
    exact ⟨v, cellK x c e v z⟩
  · obtain ⟨m, ⟨o, _, _, ho, _⟩, _⟩ := I.loc
    exact free _ o (fun z => (hch _ z).2.1 rfl) ho I.free
  · obtain ⟨v, o, ho, hd⟩ := I.cell x c e
    exact free c o (fun z => (hch c z).2.2.1 x c e rfl) ho (I.freeC x c e)
  · obtain ⟨e, n, ne, nf, d⟩ := I.pin p hp
    have nch : p.1 ∉ ch := fun z => (hch p.1 z).2.2.2 p hp rfl
    exact ⟨keep p.1 p.2 ne nf nch e n, free p.1 p.2 nch e n, ne, nf, d⟩
theorem Inv.un {t' : Nat} (I : Inv X pins σ H s) (u : Un X.fs [] H H' s.heap h') (hok : HOk X.prog X.w H' h') : Inv X pins σ H' { s with heap := h', toks := t' } := by
  obtain ⟨m, ⟨o, es, ep, ho, r⟩, _⟩ := id I.loc
  obtain ⟨sl, hL⟩ := u.any ho I.free (by simp)
  exact I.step (g' := s.gens) (d' := s.drawn) (ch := []) (fun _ z => nomatch z) (fun b o _ hb _ e n => u.keep b o e n hb (by simp)) (fun b o _ hb _ e n => u.slot b o e n hb (by simp)) (fun b o _ e n => u.free b o e n (by simp)) (fun b o _ e => u.there b o e (by simp)) u.tups u.frzs u.tbls (fun m' hm => by
    obtain ⟨o', es', ep', ho', r'⟩ := hm
    rw [ho] at ho'; cases ho'
    exact ⟨_, es', ep', hL, r'⟩) hok I.bare
theorem Inv.call {g' : Array GenState} {t' : Nat} {d' : Drawn} {ch : List Addr} (I : Inv X pins σ H s) (u : Un (frs X.stack) ch H H' s.heap h') (hok : HOk X.prog X.w H' h') (hg : AllBare g')
    (hch : ∀ b ∈ ch, (b ∈ X.ex ∨ X.s₀.heap.objs.size ≤ b) ∧ b ≠ X.env.locals ∧ (∀ x c, X.env.cells.lookup x = some c → c ≠ b) ∧ ∀ p ∈ X.pn ++ pins, p.1 ≠ b) :
    Inv X pins σ H' { s with heap := h', gens := g', drawn := d', toks := t' } := by
  obtain ⟨m, ⟨o, es, ep, ho, r⟩, _⟩ := id I.loc
  obtain ⟨sl, hL⟩ := u.any ho I.free fun z => (hch _ z).2.1 rfl
  exact I.step (ch := ch) hch (fun b o hL hb hc e n => u.keep b o e n (fun z => (List.mem_cons.mp (I.stkSub b z)).elim hL hb) hc) (fun b o _ _ hc e n => u.any e n hc) (fun b o hc e n => u.free b o e n hc) (fun b o hc e => u.there b o e hc) u.tups u.frzs u.tbls (fun m' hm => by
    obtain ⟨o', es', ep', ho', r'⟩ := hm
    rw [ho] at ho'; cases ho'
    exact ⟨_, es', ep', hL, r'⟩) hok hg
theorem Inv.turned {t' : Nat} {it : Addr} (I : Inv X pins σ H s) (k : ∀ b o, b ≠ it → s.heap.get? b = some o → h'.get? b = some o) (hn : H it = none) (hL : it ≠ X.env.locals)
    (h1 : it ∈ X.ex ∨ X.s₀.heap.objs.size ≤ it) (h2 : ∀ x c, X.env.cells.lookup x = some c → c ≠ it) (h3 : ∀ p ∈ X.pn ++ pins, p.1 ≠ it) : Inv X pins σ H { s with heap := h', toks := t' } := by
  have nit : ∀ b u, H b = some u → b ≠ it := fun b u e z => by rw [z, hn] at e; cases e
  refine I.step (g' := s.gens) (d' := s.drawn) (ch := [it]) (fun b hb => ?_) (fun b o _ _ hc e _ => k b o (fun z => hc (by simp [z])) e) (fun b o _ _ hc e _ => ⟨o.slots, k b o (fun z => hc (by simp [z])) e⟩) (fun _ _ _ _ n => n)
    (fun b o hc e => ⟨o, k b o (fun z => hc (by simp [z])) e⟩) (fun _ _ e => e) (fun _ _ _ e => e) (fun b ps e => ⟨#[], by rw [e]; simp⟩) (fun m hm => ?_) (fun b u e => ?_) I.bare
  · have e : b = it := by simpa using hb
    subst e
    exact ⟨h1, hL, h2, h3⟩
  · obtain ⟨o, es, ep, ho, r⟩ := hm
    exact ⟨o, es, ep, k _ o (Ne.symm hL) ho, r⟩
  · refine (I.hok b u e).stay (fun c v hc q => k c v ?_ q) (fun _ q => q) fun _ _ q => q
    rcases hc with z | z
    · rw [z]; exact nit b u e
    · exact nit c _ z
theorem Inv.tok (I : Inv X pins σ H s) (t : Nat) : Inv X pins σ H { s with toks := t } := I.un (h' := s.heap) (t' := t) Un.refl I.hok
theorem Inv.kept {t' : Nat} (I : Inv X pins σ H s) (k : ∀ b u, s.heap.get? b = some u → h'.get? b = some u) : Inv X pins σ H { s with heap := h', toks := t' } := I.un (Un.kept k) (I.hok.kept k)
theorem Inv.laid {a : Addr} {o : HO} {t' : Nat} (I : Inv X pins σ H s) (k : ∀ b u, s.heap.get? b = some u → h'.get? b = some u) (hp : s.heap.objs.size ≤ a) (new : ObjOk X.prog X.w (upd H a o) h' a o) :
    Inv X pins σ (upd H a o) { s with heap := h', toks := t' } := I.un (Un.laid k hp (I.hok.fresh hp)) (I.hok.laid k hp new)
theorem Inv.write {x e : Addr} {o : HO} {t' : Nat} (I : Inv X pins σ H s) (mu : Mut (H x)) (he : e = x ∨ H e = some (.own x)) (k : ∀ b u, b ≠ e → s.heap.get? b = some u → h'.get? b = some u) (heo : ∃ u, h'.get? e = some u)
    (new : ObjOk X.prog X.w (upd H x o) h' x o) : Inv X pins σ (upd H x o) { s with heap := h', toks := t' } := I.un (Un.write mu he k heo) (I.hok.write mu he k heo new)
theorem Inv.pins_of {pins' : List (Addr × Obj)} (I : Inv X pins σ H s) (h : ∀ p ∈ pins', s.heap.get? p.1 = some p.2 ∧ H p.1 = none ∧ p.1 ≠ X.env.locals ∧ p.1 ∉ X.fs ∧ ∀ v, p.2.data ≠ .cell v) : Inv X pins' σ H s :=
  ⟨I.ok, I.os, I.bare, I.base, I.loc, I.cell, I.free, I.freeC, fun p hp => (List.mem_append.mp hp).elim (fun z => I.pin p (List.mem_append_left _ z)) (h p), I.hok, I.len⟩
theorem nodup_ix {N : List Str} (hN : N.Nodup) {i j : Nat} {x : Str} (a : N[i]? = some x) (b : N[j]? = some x) : i = j := by
  obtain ⟨h1, e1⟩ := List.getElem?_eq_some_iff.mp a
  obtain ⟨h2, e2⟩ := List.getElem?_eq_some_iff.mp b
  exact (List.getElem_inj hN).mp (e1.trans e2.symm)
theorem store_ok2 {M : Model} {A : Around} {E : Value → Shared → Prop} {i : Nat} {x : Str} {v : V} {u : Value} {Q : Unit → Shared → Prop} (I : Inv X pins σ H s) (hN : X.N.Nodup) (hi : X.N[i]? = some x) (hx : Loc X.env.scope x) (r : RelV v u)
    (h : ∀ s', Inv X pins (σ.set i (some v)) H s' → (∃ a, Heap.SameBut a s.heap s'.heap ∧ (a = X.env.locals ∨ X.env.cells.lookup x = some a)) → Q () s') (hf : X.fn x = true ∨ X.env.scope.names.lookup x = some .local := by first | exact .inl rfl | exact .inr rfl | assumption) : wpAny M A (storeName X.env x u) Q E s := by
  obtain ⟨m, hn, hl⟩ := id I.loc
  have hcls : (X.env.scope.kind == .class || (X.env.scope.kind == .module && X.env.locals != X.env.globals)) = false := by rw [I.ok.kind]; rfl
  have hiσ : i < σ.length := by rw [I.len]; exact (List.getElem?_eq_some_iff.mp hi).1
  have cne := I.cne
  have tracked : ∀ {a : Addr} {h' : Heap}, (∃ o, s.heap.get? a = some o ∧ H a = none) → Heap.SameBut a s.heap h' → HOk X.prog X.w H h' := fun {a h'} ha hs b ob e => by
    obtain ⟨_, _, hfree⟩ := ha
    refine (I.hok b ob e).stay (fun c w' hc q => (hs.2 c ?_).trans q) (fun _ q => q) fun _ _ q => q
    rintro rfl
    rcases hc with rfl | hc
    · rw [hfree] at e; cases e
    · rw [hfree] at hc; cases hc
  rcases hx with hk | hk
  · refine wpAny_storeName_local hk hn (fun h' hn' hs => ?_) hcls
    obtain ⟨oL, _, _, hoL, _⟩ := id hn
    refine h _ ⟨I.ok, I.os, I.bare, ⟨fun b o e n hb hx => ?_, fun b o e n hb hx => ?_, I.base.free, fun b o e hx => ?_, I.base.tups, I.base.frzs, I.base.tbls⟩, ⟨_, hn', fun j y v' e1 e2 e3 => ?_⟩, fun y c e => ?_, I.free, I.freeC, fun p hp => ?_, tracked ⟨oL, hoL, I.free⟩ hs, by simpa using I.len⟩ ⟨_, hs, .inl rfl⟩
    · exact (hs.2 b (Nat.ne_of_lt (Nat.lt_of_lt_of_le (Heap.lt_size e) I.ok.above))).trans (I.base.keep b o e n hb hx)
    · obtain ⟨sl, e1⟩ := I.base.slot b o e n hb hx
      exact ⟨sl, (hs.2 b (Nat.ne_of_lt (Nat.lt_of_lt_of_le (Heap.lt_size e) I.ok.above))).trans e1⟩
    · obtain ⟨o', e1⟩ := I.base.there b o e hx
      exact ⟨o', (hs.2 b (Nat.ne_of_lt (Nat.lt_of_lt_of_le (Heap.lt_size e) I.ok.above))).trans e1⟩
    · by_cases hj : j = i
      · subst hj
        rw [hi] at e1; cases e1
        rw [List.getElem?_set_self hiσ] at e2
        cases e2
        exact ⟨u, r, .inl ⟨hk, by simp⟩⟩
      · rw [List.getElem?_set_ne (Ne.symm hj)] at e2
        obtain ⟨u', r', q⟩ := hl j y v' e1 e2 e3
        refine ⟨u', r', ?_⟩
        rcases q with ⟨k, e⟩ | ⟨k, c, e, z⟩
        · refine .inl ⟨k, ?_⟩
          have : y ≠ x := fun e => hj (nodup_ix hN e1 (e ▸ hi))
          simp [this, e]
        · exact .inr ⟨k, c, e, z.sameBut hs (cne y c e)⟩
    · obtain ⟨w', z⟩ := I.cell y c e
      exact ⟨w', z.sameBut hs (cne y c e)⟩
    · obtain ⟨e, n, ne, nf, d⟩ := I.pin p hp
      exact ⟨(hs.2 p.1 ne).trans e, n, ne, nf, d⟩
  · have hfn : X.fn x = true := by
      rcases hf with z | z
      · exact z
      · rw [z] at hk; cases hk
    obtain ⟨c, hc⟩ := I.ok.has x (.inl hk)
    obtain ⟨w', z⟩ := I.cell x c hc
    refine wpAny_storeName_cell I.ok.kind hk hc z (fun h' hc' hs => ?_)
    obtain ⟨oc, hoc, hocd⟩ := id z
    refine h { s with heap := h' } ⟨I.ok, I.os, I.bare, ⟨fun b o e n hb hx => ?_, fun b o e n hb hx => ?_, I.base.free, fun b o e hx => ?_, I.base.tups, I.base.frzs, I.base.tbls⟩, ⟨m, hn.sameBut hs (Ne.symm (cne x c hc)), fun j y v' e1 e2 e3 => ?_⟩, fun y c' e => ?_, I.free, I.freeC, fun p hp => ?_, tracked ⟨oc, hoc, I.freeC x c hc⟩ hs, by simpa using I.len⟩ ⟨c, hs, .inr hc⟩
    · exact (hs.2 b (Nat.ne_of_lt (Nat.lt_of_lt_of_le (Heap.lt_size e) (I.ok.cab x c hfn hc)))).trans (I.base.keep b o e n hb hx)
    · obtain ⟨sl, e1⟩ := I.base.slot b o e n hb hx
      exact ⟨sl, (hs.2 b (Nat.ne_of_lt (Nat.lt_of_lt_of_le (Heap.lt_size e) (I.ok.cab x c hfn hc)))).trans e1⟩
    · obtain ⟨o', e1⟩ := I.base.there b o e hx
      exact ⟨o', (hs.2 b (Nat.ne_of_lt (Nat.lt_of_lt_of_le (Heap.lt_size e) (I.ok.cab x c hfn hc)))).trans e1⟩
    · by_cases hj : j = i
      · subst hj
        rw [hi] at e1; cases e1
        rw [List.getElem?_set_self hiσ] at e2
        cases e2
        exact ⟨u, r, .inr ⟨.inl hk, c, hc, hc'⟩⟩
      · rw [List.getElem?_set_ne (Ne.symm hj)] at e2
        obtain ⟨u', r', q⟩ := hl j y v' e1 e2 e3
        refine ⟨u', r', ?_⟩
        rcases q with q | ⟨k, c', e, z'⟩
        · exact .inl q
        · refine .inr ⟨k, c', e, z'.sameBut hs ?_⟩
          rintro rfl
          exact hj (nodup_ix hN e1 (I.ok.inj _ _ _ e hc ▸ hi))
    · by_cases hcc : c' = c
      · subst hcc; exact ⟨_, hc'⟩
      · obtain ⟨w2, z2⟩ := I.cell y c' e
        exact ⟨w2, z2.sameBut hs hcc⟩
    · obtain ⟨e, n, ne, nf, d⟩ := I.pin p hp
      refine ⟨(hs.2 p.1 ?_).trans e, n, ne, nf, d⟩
      intro q
      rw [q, hoc] at e
      have q' : oc = p.2 := Option.some.inj e
      exact d w' (by rw [← q']; exact hocd)
theorem store_ok {M : Model} {A : Around} {E : Value → Shared → Prop} {i : Nat} {x : Str} {v : V} {u : Value} {Q : Unit → Shared → Prop} (I : Inv X pins σ H s) (hN : X.N.Nodup) (hi : X.N[i]? = some x) (hx : Loc X.env.scope x) (r : RelV v u)
    (h : ∀ s', Inv X pins (σ.set i (some v)) H s' → Q () s') (hf : X.fn x = true ∨ X.env.scope.names.lookup x = some .local := by first | exact .inl rfl | exact .inr rfl | assumption) : wpAny M A (storeName X.env x u) Q E s :=
  store_ok2 I hN hi hx r (fun s' I' _ => h s' I') hf
theorem Inv.call' {s' : Shared} {ch : List Addr} (I : Inv X pins σ H s) (ho : s'.os = s.os) (u : Un (frs X.stack) ch H H' s.heap s'.heap) (hok : HOk X.prog X.w H' s'.heap) (hg : AllBare s'.gens)
    (hch : ∀ b ∈ ch, (b ∈ X.ex ∨ X.s₀.heap.objs.size ≤ b) ∧ b ≠ X.env.locals ∧ (∀ x c, X.env.cells.lookup x = some c → c ≠ b) ∧ ∀ p ∈ X.pn ++ pins, p.1 ≠ b) : Inv X pins σ H' s' := by
  obtain ⟨h', g', d', t', o'⟩ := s'
  have e : o' = s.os := ho
  subst e
  exact I.call (g' := g') (t' := t') (d' := d') u hok hg hch
end
abbrev XK := Value → Option Addr → Hp → Prop
abbrev St := List (Option V)
abbrev VK := V → Hp → Prop
abbrev TE := St → Hp → VK → Prop
abbrev TT := St → Hp → (Bool → Hp → Prop) → Prop
abbrev TA := St → Hp → (List V → Hp → Prop) → Prop
structure Ends where
  nx : St → Hp → Prop
  rt : VK
  bk : St → Hp → Prop := fun _ _ => False
  ct : St → Hp → Prop := fun _ _ => False
abbrev TS := Ends → St → Hp → Prop
def EP (X : Cx) (pins : List (Addr × Obj)) (σ : St) (Q : VK) (u : Value) (s' : Shared) : Prop := ∃ v H', Inv X pins σ H' s' ∧ RelV v u ∧ Q v H'
def TP (X : Cx) (pins : List (Addr × Obj)) (σ : St) (Q : Bool → Hp → Prop) (b : Bool) (s' : Shared) : Prop := ∃ H', Inv X pins σ H' s' ∧ Q b H'
def AP (X : Cx) (pins : List (Addr × Obj)) (σ : St) (Q : List V → Hp → Prop) (us : List Value) (s' : Shared) : Prop := ∃ vs H', Inv X pins σ H' s' ∧ Vals vs us ∧ Q vs H'
def SP (X : Cx) (pins : List (Addr × Obj)) (D : Ends) (f : Flow) (s' : Shared) : Prop :=
  match f with
  | .next => ∃ σ' H', Inv X pins σ' H' s' ∧ D.nx σ' H'
  | .brk => ∃ σ' H', Inv X pins σ' H' s' ∧ D.bk σ' H'
  | .cont => ∃ σ' H', Inv X pins σ' H' s' ∧ D.ct σ' H'
  | .ret u => ∃ v σ' H', Inv X pins σ' H' s' ∧ RelV v u ∧ D.rt v H'
def PE (X : Cx) (e : Expr) (t : TE) : Prop :=
  ∀ (pins : List (Addr × Obj)) (s : Shared) (σ : St) (H : Hp) (Q : VK), Inv X pins σ H s → t σ H Q → wpAny (model X.prog X.w) X.A (eval e X.env) (EP X pins σ Q) X.xe s
def PT (X : Cx) (e : Expr) (t : TT) : Prop :=
  ∀ (pins : List (Addr × Obj)) (s : Shared) (σ : St) (H : Hp) (Q : Bool → Hp → Prop), Inv X pins σ H s → t σ H Q → wpAny (model X.prog X.w) X.A (isTrue e X.env (eval e X.env)) (TP X pins σ Q) X.xe s
def PW (X : Cx) (e : Expr) (t : TT) : Prop :=
  ∀ (whole : Sem Value) (pins : List (Addr × Obj)) (s : Shared) (σ : St) (H : Hp) (Q : Bool → Hp → Prop), Inv X pins σ H s → t σ H Q → wpAny (model X.prog X.w) X.A (isTrue e X.env whole) (TP X pins σ Q) X.xe s
theorem PW.pt {X : Cx} {e : Expr} {t : TT} (h : PW X e t) : PT X e t := h _
def PA (X : Cx) (es : List Expr) (t : TA) : Prop :=
  ∀ (pos : Pos) (pins : List (Addr × Obj)) (s : Shared) (σ : St) (H : Hp) (Q : List V → Hp → Prop), Inv X pins σ H s → t σ H Q → wpAny (model X.prog X.w) X.A (spliced (backTo pos (starEach es X.env))) (AP X pins σ Q) X.xe s
def PS (X : Cx) (st : Stmt) (t : TS) : Prop :=
  ∀ (pins : List (Addr × Obj)) (s : Shared) (σ : St) (H : Hp) (D : Ends), Inv X pins σ H s → t D σ H → wpAny (model X.prog X.w) X.A (exec st X.env) (SP X pins D) X.xe s
def PSs (X : Cx) (st : List Stmt) (t : TS) : Prop :=
  ∀ (pins : List (Addr × Obj)) (s : Shared) (σ : St) (H : Hp) (D : Ends), Inv X pins σ H s → t D σ H → wpAny (model X.prog X.w) X.A (execs st X.env) (SP X pins D) X.xe s
theorem thn {α : Type} {t : Sem α} {Q Q' : α → Shared → Prop} {M : Model} {A : Around} {E : Value → Shared → Prop} {s : Shared} (h : wpAny M A t Q E s) (hQ : ∀ a s, Q a s → Q' a s) : wpAny M A t Q' E s := wpAny_mono h hQ fun _ _ x => x
end L2
namespace L2
open PySem PySem.Spec PyProof.Rows
section
variable {X : Cx}
def tVar (i : Nat) : TE := fun σ H Q => ∃ v, σ[i]? = some (some v) ∧ Q v H
def tC (v : V) : TE := fun _ H Q => Q v H
theorem pe_var {i : Nat} {x : Str} {pos : Pos} (hN : X.N[i]? = some x) (hv : Vis X.env.scope x) (hd : (x == ("__debug__" : Str)) = false := by decide) (hcd : (x == ("__classdict__" : Str)) = false := by decide) : PE X (.Name x pos) (tVar i) := by
  intro pins s σ H Q I h
  obtain ⟨v, e, h⟩ := h
  obtain ⟨m, hn, hl⟩ := I.loc
  obtain ⟨u, r, l⟩ := hl i x v hN e hv
  have fin : EP X pins σ Q u s := ⟨v, H, I, r, h⟩
  rcases l with ⟨hk, hm⟩ | ⟨hk, c, hc, hcell⟩
  · exact wpAny_Name (wpAny_loadName_local I.ok.kind hk hn hm fin) hd
  · rcases hk with hk | hk
    · exact wpAny_Name (wpAny_loadName_cell I.ok.kind hk hc hcell fin) hd
    · exact wpAny_Name (wpAny_loadName_free I.ok.kind hk hc hcell fin hcd) hd
theorem pe_int {i j pos} : PE X (.Constant (.int i) j pos) (tC (.int i)) := fun _ _ _ H _ I h => wpAny_Constant_int ⟨.int i, H, I.tok _, ⟨_, rfl⟩, h⟩
theorem pe_bl {b j pos} : PE X (.Constant (.bool b) j pos) (tC (.bl b)) := fun _ _ _ H _ I h => Constant_bool ⟨.bl b, H, I, rfl, h⟩
theorem pe_non {j pos} : PE X (.Constant .none j pos) (tC .non) := fun _ _ _ H _ I h => Constant_none ⟨.non, H, I, rfl, h⟩
theorem pe_str {x j pos} : PE X (.Constant (.str x) j pos) (tC (.str x)) := fun _ _ _ H _ I h => Calls.Constant_str ⟨.str x, H, I.tok _, ⟨_, rfl⟩, h⟩
def Gl (X : Cx) (x : Str) : Prop := X.env.kindOf x = some .globalImplicit
theorem ld_glob {E : Value → Shared → Prop} {pins : List (Addr × Obj)} {s : Shared} {σ : St} {H : Hp} {x : Str} {u : Value} {pos : Pos} {Q : Value → Shared → Prop} (I : Inv X pins σ H s) (hg : Gl X x) (hm : X.mg x = some u) (h : Q u s)
    (hd : (x == ("__debug__" : Str)) = false := by decide) : wpAny (model X.prog X.w) X.A (eval (.Name x pos) X.env) Q E s :=
  Calls.Name_function_global I.ok.kind hg (Calls.loadGlobal_global (by rw [I.ok.glob]; exact I.mod.glob.keeps I.bk) hm h) hd
theorem ld_blt {E : Value → Shared → Prop} {pins : List (Addr × Obj)} {s : Shared} {σ : St} {H : Hp} {x : Str} {u : Value} {pos : Pos} {Q : Value → Shared → Prop} (I : Inv X pins σ H s) (hg : Gl X x) (hm : X.mg x = none) (hv : bootBuiltins x = some u) (h : Q u s)
    (hn : x ≠ "__name__" := by decide) (hd : (x == ("__debug__" : Str)) = false := by decide) : wpAny (model X.prog X.w) X.A (eval (.Name x pos) X.env) Q E s := by
  obtain ⟨mb, h1, h2⟩ := I.mod.blt
  exact Calls.Name_function_global I.ok.kind hg (Calls.loadGlobal_builtin (by rw [I.ok.glob]; exact I.mod.glob.keeps I.bk) hm (by rw [I.ok.blt]; exact h1.keeps I.bk) ((h2 x hn).trans hv) h) hd
theorem pe_glob {x : Str} {v : V} {u : Value} {pos : Pos} (hg : Gl X x) (hm : X.mg x = some u) (r : RelV v u) (hd : (x == ("__debug__" : Str)) = false := by decide) : PE X (.Name x pos) (tC v) :=
  fun _ _ _ H _ I h => ld_glob I hg hm ⟨v, H, I, r, h⟩ hd
theorem pe_bltn {x : Str} {v : V} {u : Value} {pos : Pos} (hg : Gl X x) (hm : X.mg x = none) (hv : bootBuiltins x = some u) (r : RelV v u) (hn : x ≠ "__name__" := by decide) (hd : (x == ("__debug__" : Str)) = false := by decide) : PE X (.Name x pos) (tC v) :=
  fun _ _ _ H _ I h => ld_blt I hg hm hv ⟨v, H, I, r, h⟩ hn hd
def t2I (ta tb : TE) (k : Int → Int → Hp → Prop) : St → Hp → Prop := fun σ H => ta σ H fun x H1 => tb σ H1 fun y H2 => ∃ i j, x = .int i ∧ y = .int j ∧ k i j H2
def tAdd (ta tb : TE) : TE := fun σ H Q => t2I ta tb (fun i j H2 => Q (.int (i + j)) H2) σ H
def tSub (ta tb : TE) : TE := fun σ H Q => t2I ta tb (fun i j H2 => Q (.int (i - j)) H2) σ H
def tMul (ta tb : TE) : TE := fun σ H Q => t2I ta tb (fun i j H2 => (-(2 ^ 64) < i ∧ i < 2 ^ 64) ∧ Q (.int (i * j)) H2) σ H
variable {a b : Expr} {ta tb : TE} {pos : Pos}
def PC (X : Cx) (op : CmpOp) (a b : Expr) (t : TE) : Prop :=
  ∀ (pins : List (Addr × Obj)) (s : Shared) (σ : St) (H : Hp) (Q : VK), Inv X pins σ H s → t σ H Q →
    wpAny (model X.prog X.w) X.A (eval a X.env) (fun v s₁ => wpAny (model X.prog X.w) X.A (eval b X.env) (fun u s₂ => wpAny (model X.prog X.w) X.A (compareOp op v u) (EP X pins σ Q) X.xe s₂) X.xe s₁) X.xe s
def tCmp (p : Int → Int → Bool) (ta tb : TE) : TE := fun σ H Q => t2I ta tb (fun i j H2 => Q (.bl (p i j)) H2) σ H
abbrev tLt : TE → TE → TE := tCmp fun i j => decide (i < j)
abbrev tLe : TE → TE → TE := tCmp fun i j => decide (i ≤ j)
abbrev tGt : TE → TE → TE := tCmp fun i j => decide (j < i)
abbrev tGe : TE → TE → TE := tCmp fun i j => decide (j ≤ i)
abbrev tEqI : TE → TE → TE := tCmp fun i j => decide (i = j)
abbrev tNeI : TE → TE → TE := tCmp fun i j => !decide (i = j)
def tIsN (ta : TE) : TE := fun σ H Q => ta σ H fun x H1 => Q (.bl (decide (x = .non))) H1
def tNotN (ta : TE) : TE := fun σ H Q => ta σ H fun x H1 => Q (.bl (!decide (x = .non))) H1
def tB (t : TE) : TT := fun σ H Q => t σ H fun x H1 => ∃ c, x = .bl c ∧ Q c H1
theorem pt_val {e : Expr} {t : TE} (h : PE X e t) (he : ∀ whole, isTrue e X.env whole = (do let v ← whole; standAt e.pos; holding [v] (truthy v)) := by intro _; rfl) : PT X e (tB t) := by
  intro pins s σ H Q I hw
  refine isTrue_plain (thn (h pins s σ H _ I hw) fun v s1 ⟨x, H1, I1, r1, q1⟩ => ?_) (he _)
  obtain ⟨d, rfl, q⟩ := q1
  cases r1
  exact wpAny_truthy_bool ⟨H1, I1, q⟩
variable {tA tB' : TT} {rest : List Expr}
def tAnd (t u : TT) : TT := fun σ H Q => t σ H fun c H1 => if c = true then u σ H1 Q else Q false H1
def tOr (t u : TT) : TT := fun σ H Q => t σ H fun c H1 => if c = true then Q true H1 else u σ H1 Q
def tNot (t : TT) : TT := fun σ H Q => t σ H fun c H1 => Q (!c) H1
theorem pw_or1 (ha : PT X a tA) : PW X (.BoolOp .Or [a] pos) tA := by
  intro wh pins s σ H Q I h
  refine isTrue_or (thn (ha pins s σ H Q I h) fun c s1 e => ?_)
  cases c with
  | false => exact isTrue_or_nil e
  | true => exact e
theorem pw_or (ha : PT X a tA) (hb : PW X (.BoolOp .Or (b :: rest) pos) tB') : PW X (.BoolOp .Or (a :: b :: rest) pos) (tOr tA tB') := by
  intro wh pins s σ H Q I h
  refine isTrue_or (thn (ha pins s σ H _ I h) fun c s1 ⟨H1, I1, q1⟩ => ?_)
  cases c with
  | true => exact ⟨H1, I1, q1⟩
  | false => exact hb wh pins s1 σ H1 Q I1 q1
theorem pt_not (ha : PT X a tA) : PT X (.UnaryOp .Not a pos) (tNot tA) := by
  intro pins s σ H Q I h
  exact isTrue_not (ha pins s σ H (fun c H1 => Q (!c) H1) I h)
def tAndV (ta tb : TE) : TE := fun σ H Q => ta σ H fun x H1 => ∃ c, x = .bl c ∧ if c = true then tb σ H1 Q else Q (.bl false) H1
def tOrV (ta tb : TE) : TE := fun σ H Q => ta σ H fun x H1 => ∃ c, x = .bl c ∧ if c = true then Q (.bl true) H1 else tb σ H1 Q
def tNotV (ta : TE) : TE := fun σ H Q => ta σ H fun x H1 => ∃ c, x = .bl c ∧ Q (.bl (!c)) H1
theorem pe_one {op} {t : TE} (h : PE X a t) : PE X (.BoolOp op [a] pos) t := fun pins s σ H Q I hw => BoolOp_one (h pins s σ H Q I hw)
theorem pe_and (ha : PE X a ta) (hb : PE X (.BoolOp .And (b :: rest) pos) tb) : PE X (.BoolOp .And (a :: b :: rest) pos) (tAndV ta tb) := by
  intro pins s σ H Q I h
  refine BoolOp_and (thn (ha pins s σ H _ I h) fun v s1 ⟨x, H1, I1, r1, q1⟩ => ?_)
  obtain ⟨c, rfl, q1⟩ := q1
  cases r1
  refine wpAny_truthy_bool ?_
  cases c with
  | true => exact hb pins s1 σ H1 Q I1 q1
  | false => exact ⟨.bl false, H1, I1, rfl, q1⟩
def tIf (t : TT) (ta tb : TE) : TE := fun σ H Q => t σ H fun c H1 => if c = true then ta σ H1 Q else tb σ H1 Q
end
end L2
namespace L2
open PySem PySem.Spec PyProof.Rows
def SqL (K : PySem.W.Frag) (H : Hp) (a : Addr) (xs : List V) : Prop :=
  Rd H a (.lst xs) ∨
    ∃ (o : Obj) (its : Array Value) (n : Nat), K.lookup a = some o ∧ o.cls = .type "list" ∧ o.dict = none ∧ o.data = .seq its n ∧ its.size ≤ sizeLine ∧ Vals xs its.toList
def SqT (K : PySem.W.Frag) (H : Hp) (a : Addr) (xs : List V) : Prop :=
  Rd H a (.tup xs) ∨
    ∃ (o : Obj) (its : Array Value) (n : Nat), K.lookup a = some o ∧ o.cls = .type "tuple" ∧ o.data = .seq its n ∧ its.size ≤ sizeLine ∧ Vals xs its.toList
def absV : Value → Option V
  | .none => some .non
  | .bool b => some (.bl b)
  | .int i _ => some (.int i)
  | .str x _ => some (.str x)
  | .bytes b _ => some (.byt b)
  | .float b _ => some (.flt b)
  | .ref a => some (.ref a)
  | .type n => some (.ty n)
  | _ => none
theorem RelV.abs {x : V} {u : Value} (r : RelV x u) : absV u = some x := by
  cases x with
  | non => cases r; rfl
  | bl _ => cases r; rfl
  | int _ => obtain ⟨t, rfl⟩ := r; rfl
  | str _ => obtain ⟨t, rfl⟩ := r; rfl
  | byt _ => obtain ⟨t, rfl⟩ := r; rfl
  | flt _ => obtain ⟨t, rfl⟩ := r; rfl
  | ref _ => cases r; rfl
  | ty _ => cases r; rfl
theorem RelV.inj {x y : V} {u : Value} (r : RelV x u) (q : RelV y u) : x = y := Option.some.inj (r.abs.symm.trans q.abs)
theorem Vals.inj : ∀ {xs ys : List V} {us : List Value}, Vals xs us → Vals ys us → xs = ys
  | _, _, _, .nil, .nil => rfl
  | _, _, _, .cons r t, .cons r' t' => by rw [r.inj r', Vals.inj t t']
section
variable {X : Cx} {pins : List (Addr × Obj)} {σ : St} {H : Hp} {s : Shared} {a : Addr} {xs ys : List V}
theorem SqL.of {K : PySem.W.Frag} (h : H a = some (.lst xs)) : SqL K H a xs := .inl (.inl h)
theorem SqT.of {K : PySem.W.Frag} (h : H a = some (.tup xs)) : SqT K H a xs := .inl (.inl h)
theorem Inv.list (I : Inv X pins σ H s) (h : SqL X.K H a xs) : ∃ its : List Value, Vals xs its ∧ PlainL s.heap a its.toArray ∧ xs.length ≤ sizeLine := by
  rcases h with h | ⟨o, its, n, hk, hc, hd, hs, hz, r⟩
  · obtain ⟨z, its, n, r, e⟩ := h.ok I.hok
    exact ⟨its, r, ⟨_, n, e, rfl, rfl, rfl⟩, z⟩
  · refine ⟨its.toList, r, ⟨o, n, I.kIn a o hk, hc, hd, by simpa using hs⟩, ?_⟩
    have e := r.length
    simp only [Array.length_toList] at e
    omega
theorem Inv.tuple (I : Inv X pins σ H s) (h : SqT X.K H a xs) : ∃ its : List Value, Vals xs its ∧ IsTup s.heap a its.toArray ∧ xs.length ≤ sizeLine := by
  rcases h with h | ⟨o, its, n, hk, hc, hs, hz, r⟩
  · obtain ⟨z, its, r, p⟩ := h.ok I.hok
    exact ⟨its, r, p, z⟩
  · refine ⟨its.toList, r, ⟨o, I.kIn a o hk, hc, n, by simpa using hs⟩, ?_⟩
    have e := r.length
    simp only [Array.length_toList] at e
    omega
theorem Inv.list_inj (I : Inv X pins σ H s) (h : SqL X.K H a xs) (h' : SqL X.K H a ys) : xs = ys := by
  obtain ⟨its, r, ⟨o, n, e, _, _, d⟩, _⟩ := I.list h
  obtain ⟨its', r', ⟨o', n', e', _, _, d'⟩, _⟩ := I.list h'
  rw [e] at e'; cases e'
  rw [d] at d'
  injection d' with d1 _
  have : its = its' := by simpa using congrArg Array.toList d1
  subst this
  exact r.inj r'
theorem Inv.tuple_inj (I : Inv X pins σ H s) (h : SqT X.K H a xs) (h' : SqT X.K H a ys) : xs = ys := by
  obtain ⟨its, r, ⟨o, e, _, n, d⟩, _⟩ := I.tuple h
  obtain ⟨its', r', ⟨o', e', _, n', d'⟩, _⟩ := I.tuple h'
  rw [e] at e'; cases e'
  rw [d] at d'
  injection d' with d1 _
  have : its = its' := by simpa using congrArg Array.toList d1
  subst this
  exact r.inj r'
end
abbrev Cx.wish (X : Cx) (E : Value → Shared → Prop) : Cx := { X with xe := E }
abbrev Cx.nox (X : Cx) : Cx := X.wish fun _ _ => False
theorem Cx.Ok.wish {X : Cx} (ok : X.Ok) (E : Value → Shared → Prop) : (X.wish E).Ok :=
  ⟨ok.mod, ok.kind, ok.glob, ok.blt, ok.above, ok.inj, ok.has, ok.cab, ok.hd, ok.frames, ok.stk, ok.exf, ok.bs, ok.bsz, ok.noex, ok.exfs, ok.funs, ok.frf⟩
theorem Cx.Ok.unwish {X : Cx} {E : Value → Shared → Prop} (ok : (X.wish E).Ok) : X.Ok :=
  ⟨ok.mod, ok.kind, ok.glob, ok.blt, ok.above, ok.inj, ok.has, ok.cab, ok.hd, ok.frames, ok.stk, ok.exf, ok.bs, ok.bsz, ok.noex, ok.exfs, ok.funs, ok.frf⟩
section
variable {X : Cx} {pins : List (Addr × Obj)} {σ : St} {H : Hp} {s : Shared} {E : Value → Shared → Prop}
theorem Inv.wish (I : Inv X pins σ H s) (E : Value → Shared → Prop) : Inv (X.wish E) pins σ H s := ⟨I.ok.wish E, I.os, I.bare, I.base, I.loc, I.cell, I.free, I.freeC, I.pin, I.hok, I.len⟩
theorem Inv.unwish (I : Inv (X.wish E) pins σ H s) : Inv X pins σ H s := ⟨I.ok.unwish, I.os, I.bare, I.base, I.loc, I.cell, I.free, I.freeC, I.pin, I.hok, I.len⟩
theorem SP.unwish {D : Ends} {f : Flow} {s' : Shared} (h : SP (X.wish E) pins D f s') : SP X pins D f s' := by
  cases f with
  | next => obtain ⟨σ', H', I, q⟩ := h; exact ⟨σ', H', I.unwish, q⟩
  | brk => obtain ⟨σ', H', I, q⟩ := h; exact ⟨σ', H', I.unwish, q⟩
  | cont => obtain ⟨σ', H', I, q⟩ := h; exact ⟨σ', H', I.unwish, q⟩
  | ret u => obtain ⟨v, σ', H', I, r, q⟩ := h; exact ⟨v, σ', H', I.unwish, r, q⟩
theorem PSs.nox {st : List Stmt} {t : TS} (h : PSs X.nox st t) : PSs X st t := fun pins s σ H D I hw =>
  wpAny_mono (h pins s σ H D (I.wish _) hw) (fun _ _ q => q.unwish) fun _ _ z => False.elim z
end
section
variable {X : Cx} {st : Stmt} {rest : List Stmt} {t u : TS} {e : Expr} {te : TE} {pos : Pos}
def tNext : TS := fun D σ H => D.nx σ H
def tSeq (t u : TS) : TS := fun D σ H => t { D with nx := u D } σ H
theorem pss_nil : PSs X [] tNext := fun _ _ σ H _ I h => wpAny_execs_nil ⟨σ, H, I, h⟩
theorem pss_cons (h1 : PS X st t) (h2 : PSs X rest u) : PSs X (st :: rest) (tSeq t u) := by
  intro pins s σ H D I h
  refine wpAny_execs_cons (thn (h1 pins s σ H { D with nx := u D } I h) fun f s1 q => ?_)
  cases f with
  | next =>
    obtain ⟨σ', H', I', q⟩ := q
    exact h2 pins s1 σ' H' D I' q
  | ret v => exact q
  | brk => exact q
  | cont => exact q
theorem pss_one (h1 : PS X st t) : PSs X [st] t := by
  intro pins s σ H D I h
  refine wpAny_execs_cons (thn (h1 pins s σ H D I h) fun f s1 q => ?_)
  cases f with
  | next => exact wpAny_execs_nil q
  | ret v => exact q
  | brk => exact q
  | cont => exact q
def tBreak : TS := fun D σ H => D.bk σ H
def tCont : TS := fun D σ H => D.ct σ H
theorem Inv.quiet {pins : List (Addr × Obj)} {σ : St} {H : Hp} {s : Shared} (I : Inv X pins σ H s) : interactive X.env = false := by simp [interactive, I.ok.kind]
def tDrop (te : TE) : TS := fun D σ H => te σ H fun _ H1 => D.nx σ H1
theorem ps_expr (he : PE X e te) (hs : swapsWith e none pos.line X.env = pure false := by rfl) : PS X (.Expr e pos) (tDrop te) := by
  intro pins s σ H D I h
  exact wpAny_Expr_any (thn (he pins s σ H _ I h) fun v s1 ⟨x, H1, I1, r1, q1⟩ => ⟨σ, H1, I1, q1⟩) I.quiet hs
def tRet (te : TE) : TS := fun D σ H => te σ H D.rt
theorem ps_ret (he : PE X e te) : PS X (.Return (some e) pos) (tRet te) := by
  intro pins s σ H D I h
  exact wpAny_Return_some (thn (he pins s σ H _ I h) fun v s1 ⟨x, H1, I1, r1, q1⟩ => ⟨x, σ, H1, I1, r1, q1⟩)
def tRetN : TS := fun D _ H => D.rt .non H
def tIfS (c : TT) (t u : TS) : TS := fun D σ H => c σ H fun b H1 => if b = true then t D σ H1 else u D σ H1
theorem ps_if {c : Expr} {a b : List Stmt} {tc : TT} (hc : PT X c tc) (ha : PSs X a t) (hb : PSs X b u) : PS X (.If c a b pos) (tIfS tc t u) := by
  intro pins s σ H D I h
  refine wpAny_If (thn (hc pins s σ H _ I h) fun d s1 ⟨H1, I1, q1⟩ => ?_)
  cases d with
  | true => exact ha pins s1 σ H1 D I1 q1
  | false => exact hb pins s1 σ H1 D I1 q1
def tNever : TS := fun _ _ _ => False
end
abbrev TG := V → St → Hp → (St → Hp → Prop) → Prop
abbrev TGs := List V → St → Hp → (St → Hp → Prop) → Prop
def PG (X : Cx) (target : Expr) (t : TG) : Prop :=
  ∀ (pins : List (Addr × Obj)) (s : Shared) (σ : St) (H : Hp) (v : V) (u : Value) (Q : St → Hp → Prop), Inv X pins σ H s → RelV v u → t v σ H Q →
    wpAny (model X.prog X.w) X.A (assign target X.env u) (fun _ s' => ∃ σ' H', Inv X pins σ' H' s' ∧ Q σ' H') X.xe s
def PGs (X : Cx) (ts : List Expr) (t : TGs) : Prop :=
  ∀ (pins : List (Addr × Obj)) (s : Shared) (σ : St) (H : Hp) (vs : List V) (us : List Value) (Q : St → Hp → Prop), Inv X pins σ H s → Vals vs us → t vs σ H Q →
    wpAny (model X.prog X.w) X.A (assignInOrder ((assignEach ts X.env).map (·.2)) us) (fun _ s' => ∃ σ' H', Inv X pins σ' H' s' ∧ Q σ' H') X.xe s
abbrev TSet := V → V → V → Hp → (Hp → Prop) → Prop
def PSet (X : Cx) (t : TSet) : Prop :=
  ∀ (pins : List (Addr × Obj)) (s : Shared) (σ : St) (H : Hp) (o i v : V) (ov iv u : Value) (Q : Hp → Prop), Inv X pins σ H s → RelV o ov → RelV i iv → RelV v u → t o i v H Q →
    wpAny (model X.prog X.w) X.A (setItem ov iv u) (fun _ s' => ∃ H', Inv X pins σ H' s' ∧ Q H') X.xe s
abbrev TIp := V → V → Hp → VK → Prop
def PIp (X : Cx) (op : Operator) (t : TIp) : Prop :=
  ∀ (pins : List (Addr × Obj)) (s : Shared) (σ : St) (H : Hp) (x y : V) (v u : Value) (Q : VK), Inv X pins σ H s → RelV x v → RelV y u → t x y H Q →
    wpAny (model X.prog X.w) X.A (inplaceOp op v u) (EP X pins σ Q) X.xe s
section
variable {X : Cx} {pos : Pos}
def gName (i : Nat) : TG := fun v σ H Q => Q (σ.set i (some v)) H
theorem pg_name {i : Nat} {x : Str} (hN : X.N.Nodup) (hi : X.N[i]? = some x) (hx : Loc X.env.scope x) (hf : X.fn x = true ∨ X.env.scope.names.lookup x = some .local := by first | exact .inl rfl | exact .inr rfl | assumption) : PG X (.Name x pos) (gName i) := by
  intro pins s σ H v u Q I r h
  exact wpAny_assign_Name (store_ok I hN hi hx r (fun s' I' => ⟨_, H, I', h⟩) hf)
def gNil : TGs := fun vs σ H Q => vs = [] ∧ Q σ H
def gCons (t : TG) (u : TGs) : TGs := fun vs σ H Q => ∃ v r, vs = v :: r ∧ t v σ H fun σ' H' => u r σ' H' Q
theorem pgs_nil : PGs X [] gNil := by
  intro pins s σ H vs us Q I r h
  obtain ⟨e, h⟩ := h
  subst e
  cases r
  exact assignInOrder_nil ⟨σ, H, I, h⟩
theorem pgs_cons {e : Expr} {es : List Expr} {t : TG} {u : TGs} (h1 : PG X e t) (h2 : PGs X es u)
    (hs : (assignEach (e :: es) X.env).map (·.2) = assign e X.env :: (assignEach es X.env).map (·.2) := by rfl) : PGs X (e :: es) (gCons t u) := by
  intro pins s σ H vs us Q I r h
  obtain ⟨v, vr, e1, h⟩ := h
  subst e1
  cases r with
  | cons r rr =>
    rw [hs]
    refine assignInOrder_cons (thn (h1 pins s σ H _ _ _ I r h) fun _ s1 ⟨σ1, H1, I1, q1⟩ => ?_)
    exact h2 pins s1 σ1 H1 _ _ Q I1 rr q1
def gTup (K : PySem.W.Frag) (n : Nat) (t : TGs) : TG := fun v σ H Q => ∃ a xs, v = .ref a ∧ SqT K H a xs ∧ xs.length = n ∧ t xs σ H Q
theorem pg_tup {es : List Expr} {k : Nat} {t : TGs} {n : Nat} (hc : X.calm = true) (h : PGs X es t)
    (hn : (assignEach es X.env).length = n := by rfl) (hst : (assignEach es X.env).findIdx? (·.1) = none := by rfl) : PG X (.Tuple es k pos) (gTup X.K n t) := by
  intro pins s σ H v u Q I r hw
  obtain ⟨a, xs, e1, hq, hl, hw⟩ := hw
  subst e1
  cases r
  obtain ⟨its, rv, ht, hz⟩ := I.tuple hq
  refine assign_Tuple_tuple (I.ok.hd hc) ht (by simp [hn, ← hl, rv.length]) hst fun h' hx => ?_
  have I1 : Inv X pins σ H { s with heap := h' } := I.kept (t' := s.toks) fun b o e => hx b o (Nat.ne_of_lt (Heap.lt_size e)) e
  exact h pins _ σ H xs _ Q I1 (by simpa using rv) hw
def gSub (to ti : TE) (t : TSet) : TG := fun v σ H Q => to σ H fun o H1 => ti σ H1 fun i H2 => t o i v H2 fun H3 => Q σ H3
theorem pg_sub {o i : Expr} {to ti : TE} {t : TSet} (ho : PE X o to) (hi : PE X i ti) (hs : PSet X t)
    (ha : ∀ v, assign (.Subscript o i pos) X.env v = (do
      let ov ← holding [v] (eval o X.env)
      let iv ← holding [v, ov] (eval i X.env)
      standAt pos
      holding [v, ov, iv] (setItem ov iv v)
      release [v, ov, iv] []) := by intro _; rfl) : PG X (.Subscript o i pos) (gSub to ti t) := by
  intro pins s σ H v u Q I r h
  rw [ha]
  refine wpAny_bind (wpAny_holding (thn (ho pins s σ H _ I h) fun ov s1 ⟨x, H1, I1, r1, q1⟩ => ?_))
  refine wpAny_bind (wpAny_holding (thn (hi pins s1 σ H1 _ I1 q1) fun iv s2 ⟨y, H2, I2, r2, q2⟩ => ?_))
  refine wpAny_bind (wpAny_standAt (wpAny_bind (wpAny_holding (thn (hs pins s2 σ H2 x y v ov iv u _ I2 r1 r2 r q2) fun _ s3 ⟨H3, I3, q3⟩ => ?_))))
  exact wpAny_release ⟨σ, H3, I3, q3⟩
def tAsg (te : TE) (g : TG) : TS := fun D σ H => te σ H fun x H1 => g x σ H1 D.nx
theorem ps_asg {tg e : Expr} {te : TE} {g : TG} (he : PE X e te) (hg : PG X tg g) (hs : swapsWithSole [tg] e pos.line X.env = pure false := by rfl) (hw : swappedStores [tg] e X.env = pure none := by rfl)
    (h1 : (assignEach [tg] X.env).map (·.2) = [assign tg X.env] := by rfl) : PS X (.Assign [tg] e pos) (tAsg te g) := by
  intro pins s σ H D I h
  refine wpAny_Assign_stores (thn (he pins s σ H _ I h) fun v s1 ⟨x, H1, I1, r1, q1⟩ => ?_) hs hw
  rw [h1]
  exact thn (hg pins s1 σ H1 x v _ I1 r1 q1) fun _ s2 q => q
theorem ps_set {i : Nat} {x : Str} {e : Expr} {te : TE} {pos' : Pos} (hN : X.N.Nodup) (hi : X.N[i]? = some x) (hx : Loc X.env.scope x) (he : PE X e te) (hs : swapsWith e (some (.Name x pos')) pos.line X.env = pure false := by rfl) (hf : X.fn x = true ∨ X.env.scope.names.lookup x = some .local := by first | exact .inl rfl | exact .inr rfl | assumption) :
    PS X (.Assign [.Name x pos'] e pos) (tAsg te (gName i)) := by
  intro pins s σ H D I h
  refine wpAny_Assign_Name (thn (he pins s σ H _ I h) fun v s1 ⟨y, H1, I1, r1, q1⟩ => ?_) hs
  exact store_ok I1 hN hi hx r1 (fun s2 I2 => ⟨_, H1, I2, q1⟩) hf
def tPar (i j : Nat) (ta : TA) : TS := fun D σ H => ta σ H fun vs H1 => ∃ v w, vs = [v, w] ∧ D.nx ((σ.set i (some v)).set j (some w)) H1
def tAug (i : Nat) (te : TE) (ti : TIp) : TS := fun D σ H => ∃ x, σ[i]? = some (some x) ∧ te σ H fun y H1 => ti x y H1 fun z H2 => D.nx (σ.set i (some z)) H2
def tAugS (to ti te : TE) (tget : V → V → Hp → VK → Prop) (tip : TIp) (tset : TSet) : TS := fun D σ H => to σ H fun o H1 => ti σ H1 fun i H2 => tget o i H2 fun x H3 => te σ H3 fun y H4 => tip x y H4 fun z H5 => tset o i z H5 fun H6 => D.nx σ H6
def PGet (X : Cx) (t : V → V → Hp → VK → Prop) : Prop :=
  ∀ (pins : List (Addr × Obj)) (s : Shared) (σ : St) (H : Hp) (o i : V) (ov iv : Value) (Q : VK), Inv X pins σ H s → RelV o ov → RelV i iv → t o i H Q →
    wpAny (model X.prog X.w) X.A (getItem ov iv) (EP X pins σ Q) X.xe s
def ipI (f : Int → Int → Int) : TIp := fun x y H Q => ∃ i j, x = .int i ∧ y = .int j ∧ Q (.int (f i j)) H
end
section
variable {X : Cx} {pos : Pos}
def tWhile (c : TT) (tb : TS) : TS := fun D σ H => ∃ W : Nat → St → Hp → Prop, (∃ m, W m σ H) ∧ ∀ m σ H, W m σ H →
  c σ H fun b H1 => if b = true then ∃ N : St → Hp → Prop, (∀ σ' H', N σ' H' → ∃ m', m' < m ∧ W m' σ' H') ∧ tb { D with nx := N, ct := N, bk := D.nx } σ H1 else D.nx σ H1
end
structure It where
  go : Nat → Hp → Prop
  yld : Nat → Hp → V → Hp → Prop
  stop : Nat → Hp → Prop
def FpOk (X : Cx) (pins : List (Addr × Obj)) (H : Hp) (b : Addr) : Prop :=
  H b = none ∧ b ≠ X.env.locals ∧ b ∉ X.fs ∧ (b ∈ X.ex ∨ X.s₀.heap.objs.size ≤ b) ∧ (∀ x c, X.env.cells.lookup x = some c → c ≠ b) ∧ ∀ p ∈ X.pn ++ pins, p.1 ≠ b
theorem Inv.fpOk {X : Cx} {pins : List (Addr × Obj)} {σ : St} {H H' : Hp} {s : Shared} {b : Addr} (I : Inv X pins σ H s) (hb : s.heap.objs.size ≤ b) (hn : H' b = none) : FpOk X pins H' b := by
  refine ⟨hn, Nat.ne_of_gt (Nat.lt_of_lt_of_le I.lt hb), I.nofs hb, .inr (Nat.le_trans I.sz hb), fun x c e z => ?_, fun p hp z => ?_⟩
  · obtain ⟨v, q⟩ := I.cell x c e
    exact absurd (Nat.lt_of_lt_of_le q.lt (by rw [z]; exact hb)) (Nat.lt_irrefl _)
  · exact absurd (Nat.lt_of_lt_of_le (Heap.lt_size (I.pin p hp).1) (by rw [z]; exact hb)) (Nat.lt_irrefl _)
structure Turn (P : Program) (w : World) (K : PySem.W.Frag) (tg : Expr) (J : It) (fp : List Addr) (it : Addr) (tn : Nat → Heap → Prop) : Prop where
  mem : it ∈ fp
  obj : ∀ i h, tn i h → ∀ b ∈ fp, ∃ o, h.get? b = some o ∧ ∀ v, o.data ≠ .cell v
  keep : ∀ i h h', tn i h → (∀ b ∈ fp, ∀ o, h.get? b = some o → h'.get? b = some o) → tn i h'
  item : ∀ (X : Cx), X.prog = P → X.w = w → X.K = K → X.calm = true → ∀ (i : Nat) (pins : List (Addr × Obj)) (s : Shared) (σ : St) (H : Hp) (E : Value → Shared → Prop), Inv X pins σ H s → (∀ b ∈ fp, FpOk X pins H b) → tn i s.heap → J.go i H →
    wpAny (model P w) X.A (pyNext (.ref it)) (fun r s1 => ∃ u, r = some u ∧
      wpAny (model P w) X.A (letOwnedTupleGo tg (.ref it) u) (fun _ s2 => ∃ x H', Inv X pins σ H' s2 ∧ RelV x u ∧ J.yld i H x H' ∧ tn (i + 1) s2.heap ∧ ∀ b ∈ fp, H' b = none) E s1) E s
  done : ∀ (X : Cx), X.prog = P → X.w = w → X.K = K → X.calm = true → ∀ (i : Nat) (pins : List (Addr × Obj)) (s : Shared) (σ : St) (H : Hp) (E : Value → Shared → Prop), Inv X pins σ H s → (∀ b ∈ fp, FpOk X pins H b) → tn i s.heap → J.stop i H →
    wpAny (model P w) X.A (pyNext (.ref it)) (fun r s1 => r = none ∧ Inv X pins σ H s1) E s
  self : ∀ (A : Around) (i : Nat) (s : Shared) (Q : Value → Shared → Prop) (E : Value → Shared → Prop), tn i s.heap → Q (.ref it) s → wpAny (model P w) A (pyIter (.ref it)) Q E s
abbrev TI := St → Hp → (It → Hp → Prop) → Prop
def PIE (X : Cx) (pins : List (Addr × Obj)) (σ : St) (tg : Expr) (R : It → Hp → Prop) (itv : Value) (s2 : Shared) : Prop :=
  ∃ (it : Addr) (fp : List Addr) (tn : Nat → Heap → Prop) (J : It) (H' : Hp), itv = .ref it ∧ Inv X pins σ H' s2 ∧ Turn X.prog X.w X.K tg J fp it tn ∧ tn 0 s2.heap ∧ (∀ b ∈ fp, FpOk X pins H' b) ∧ R J H'
def PI (X : Cx) (tg iter : Expr) (wi : TI) : Prop :=
  ∀ (pins : List (Addr × Obj)) (s : Shared) (σ : St) (H : Hp) (R : It → Hp → Prop), Inv X pins σ H s → wi σ H R →
    wpAny (model X.prog X.w) X.A (eval iter X.env) (fun v s1 => wpAny (model X.prog X.w) X.A (pyIter v) (PIE X pins σ tg R) X.xe s1) X.xe s
theorem go_of {M : Model} {A : Around} {E : Value → Shared → Prop} {s : Shared} {tg : Expr} {it : Addr} {u : Value} {o : Obj} {n : String} {vs : Array Value} {Q : Unit → Shared → Prop} (ho : s.heap.get? it = some o) (hc : o.cls = .type n) (hd : o.data = .fields vs)
    (hn : ["enumerate", "zip", "dict_itemiterator", "dict_reverseitemiterator", "odict_iterator", "itertools.zip_longest", "itertools.pairwise"].contains n = false) (hQ : Q () s) : wpAny M A (letOwnedTupleGo tg (.ref it) u) Q E s := by
  unfold letOwnedTupleGo
  cases tg <;> first
    | exact wpAny_pure hQ
    | (cases u <;> first
        | exact wpAny_pure hQ
        | (refine wpAny_bind (wpAny_load ho ?_)
           rw [hc, hd]
           show wpAny M A (if (["enumerate", "zip", "dict_itemiterator", "dict_reverseitemiterator", "odict_iterator", "itertools.zip_longest", "itertools.pairwise"].contains n && vs[0]? == some (rawInt _)) = true then _ else _) Q E s
           rw [if_neg (by intro h; rw [hn, Bool.false_and] at h; cases h)]
           exact wpAny_pure hQ))
def Itl (K : PySem.W.Frag) (a : Addr) : It :=
  ⟨fun i H => ∃ xs x, SqL K H a xs ∧ xs[i]? = some x, fun i H x H' => H' = H ∧ ∀ xs, SqL K H a xs → xs[i]? = some x, fun i H => ∃ xs, SqL K H a xs ∧ xs.length ≤ i⟩
def Itt (K : PySem.W.Frag) (a : Addr) : It :=
  ⟨fun i H => ∃ xs x, SqT K H a xs ∧ xs[i]? = some x, fun i H x H' => H' = H ∧ ∀ xs, SqT K H a xs → xs[i]? = some x, fun i H => ∃ xs, SqT K H a xs ∧ xs.length ≤ i⟩
def Itr (lo : Int) (n : Nat) : It := ⟨fun i _ => i < n, fun i H x H' => H' = H ∧ x = .int (lo + i), fun i _ => n ≤ i⟩
theorem turn_list {P : Program} {w : World} {K : PySem.W.Frag} {tg : Expr} (a it : Addr) : Turn P w K tg (Itl K a) [it] it (fun i h => h.IsListIter it a i) where
  mem := by simp
  obj := fun i h st b hb => by
    have e : b = it := by simpa using hb
    subst e
    obtain ⟨o, e, c, d⟩ := st
    exact ⟨o, e, fun v z => by rw [d] at z; cases z⟩
  keep := fun i h h' st k => st.at fun o e => k it (by simp) o e
  item := by
    intro X hP hw hK hc i pins s σ H E I hf st hg
    subst hP hw hK
    obtain ⟨xs, x, hq, hx⟩ := hg
    obtain ⟨its, rv, p, hz⟩ := I.list hq
    obtain ⟨u, hu, ru⟩ := rv.get hx
    obtain ⟨f0, f1, f2, f3, f4, f5⟩ := hf it (by simp)
    refine wpAny_pyNext_list_item st p.isList (x := u) (by simpa using hu) fun h' st' sb => ?_
    have I1 : Inv X pins σ H { s with heap := h' } := I.turned (t' := s.toks) (fun b o hb e => (sb.2 b hb).trans e) f0 f1 f3 f4 f5
    obtain ⟨o, e, c, d⟩ := id st'
    exact ⟨u, rfl, go_of (s := { s with heap := h' }) e c d (by decide) ⟨x, H, I1, ru, ⟨rfl, fun ys hy => by rw [I.list_inj hy hq]; exact hx⟩, st', fun b hb => (hf b hb).1⟩⟩
  done := by
    intro X hP hw hK hc i pins s σ H E I hf st hg
    subst hP hw hK
    obtain ⟨xs, hq, hx⟩ := hg
    obtain ⟨its, rv, p, hz⟩ := I.list hq
    obtain ⟨f0, f1, f2, f3, f4, f5⟩ := hf it (by simp)
    have hl := rv.length
    exact wpAny_pyNext_list_end (I.ok.hd hc) st p.isList (by simp; omega) fun h' eb => ⟨rfl, I.turned (t' := s.toks) (fun b o hb e => eb b o hb e) f0 f1 f3 f4 f5⟩
  self := fun _ _ _ _ _ st h => wpAny_pyIter_listiter st h
theorem turn_range {P : Program} {w : World} {K : PySem.W.Frag} {tg : Expr} (it : Addr) (lo : Int) (n : Nat) : Turn P w K tg (Itr lo n) [it] it (fun i h => IsRangeIter h it (lo + (i : Nat) * 1) ((n : Int) - (i : Nat)) 1) where
  mem := by simp
  obj := fun i h st b hb => by
    have e : b = it := by simpa using hb
    subst e
    exact ⟨_, st, fun v z => by
      have z' : Data.fields _ = Data.cell v := z
      cases z'⟩
  keep := fun i h h' st k => k it (by simp) _ st
  item := by
    intro X hP hw hK hc i pins s σ H E I hf st hg
    subst hP hw hK
    obtain ⟨f0, f1, f2, f3, f4, f5⟩ := hf it (by simp)
    have W := Walks.range (prog := X.prog) (w := X.w) (I.ok.hd hc) it lo 1 n
    refine W.item i s _ _ hg st fun v h' tk hv st' kk => ?_
    obtain ⟨t, rfl⟩ := hv
    have I1 : Inv X pins σ H { s with heap := h', toks := tk } := I.turned (fun b o hb e => kk b o (by simpa using hb) e) f0 f1 f3 f4 f5
    refine ⟨_, rfl, go_of (s := { s with heap := h', toks := tk }) (n := "range_iterator") st' rfl rfl (by decide) ⟨.int (lo + i), H, I1, ⟨t, ?_⟩, ⟨rfl, rfl⟩, st', fun b hb => (hf b hb).1⟩⟩
    rw [Int.mul_one]
  done := by
    intro X hP hw hK hc i pins s σ H E I hf st hg
    subst hP hw hK
    obtain ⟨f0, f1, f2, f3, f4, f5⟩ := hf it (by simp)
    exact wpAny_pyNext_range_end (I.ok.hd hc) st (by have : n ≤ i := hg; omega) fun h' eb => ⟨rfl, I.turned (t' := s.toks) (fun b o hb e => eb b o hb e) f0 f1 f3 f4 f5⟩
  self := fun _ _ _ _ _ st h => wpAny_pyIter_rangeiter st h
end L2
namespace L2
open PySem PySem.Spec PyProof.Rows
section
variable {X : Cx} {tg : Expr}
def iList (K : PySem.W.Frag) (tl : TE) : TI := fun σ H R => tl σ H fun x H1 => ∃ a, x = .ref a ∧ (∃ xs, SqL K H1 a xs) ∧ R (Itl K a) H1
def iTup (K : PySem.W.Frag) (tl : TE) : TI := fun σ H R => tl σ H fun x H1 => ∃ a, x = .ref a ∧ (∃ xs, SqT K H1 a xs) ∧ R (Itt K a) H1
theorem pi_list {l : Expr} {tl : TE} (hl : PE X l tl) : PI X tg l (iList X.K tl) := by
  intro pins s σ H R I h
  refine thn (hl pins s σ H _ I h) fun v s1 ⟨x, H1, I1, r1, q1⟩ => ?_
  obtain ⟨a, e, ⟨xs, hq⟩, q⟩ := q1
  subst e
  cases r1
  obtain ⟨its, rv, p, hz⟩ := I1.list hq
  refine wpAny_pyIter_list p.isList ?_
  refine ⟨s1.heap.objs.size, [s1.heap.objs.size], _, _, H1, rfl, I1.kept (t' := s1.toks) fun b o e => Heap.get?_push_of_some _ e, turn_list a _, ⟨_, Heap.get?_push_size _ rfl, rfl, rfl⟩, fun b hb => ?_, q⟩
  have e : b = s1.heap.objs.size := by simpa using hb
  subst e
  exact I1.fpOk (Nat.le_refl _) (I1.hok.fresh (Nat.le_refl _))
theorem range_it {pins : List (Addr × Obj)} {σ : St} {H : Hp} {s : Shared} {R : It → Hp → Prop} {E : Value → Shared → Prop} {lo hi : Int} {t u v : Tok} {tk : Nat} (I : Inv X pins σ H s) (h1 : -(2 ^ 62) ≤ lo) (h2 : lo < 2 ^ 62) (h3 : -(2 ^ 62) ≤ hi) (h4 : hi < 2 ^ 62)
    (q : R (Itr lo (hi - lo).toNat) H) : wpAny (model X.prog X.w) X.A (pyIter (.ref s.heap.objs.size)) (PIE X pins σ tg R) E { s with heap := s.heap.push { cls := .type "range", data := .fields #[.int lo t, .int hi u, .int 1 v] }, toks := tk } := by
  refine wpAny_pyIter_range (IsRange.new ..) (small_one h1 h2 h3 h4) ?_
  have I1 : Inv X pins σ H { s with heap := s.heap.push { cls := .type "range", data := .fields #[.int lo t, .int hi u, .int 1 v] }, toks := tk } := I.kept fun b o e => Heap.get?_push_of_some _ e
  refine ⟨(s.heap.push { cls := .type "range", data := .fields #[.int lo t, .int hi u, .int 1 v] }).objs.size, [(s.heap.push { cls := .type "range", data := .fields #[.int lo t, .int hi u, .int 1 v] }).objs.size], _, _, H, rfl,
    I1.kept (t' := tk) fun b o e => Heap.get?_push_of_some _ e, turn_range _ lo (hi - lo).toNat, ?_, fun b hb => ?_, q⟩
  · have e1 : lo + ((0 : Nat) : Int) * 1 = lo := by simp
    have e2 : (((hi - lo).toNat : Nat) : Int) - ((0 : Nat) : Int) = Builtin.Range.rangeSize lo hi 1 := by rw [rangeSize_one]; split <;> omega
    show IsRangeIter _ _ (lo + ((0 : Nat) : Int) * 1) ((((hi - lo).toNat : Nat) : Int) - ((0 : Nat) : Int)) 1
    rw [e1, e2]
    exact Heap.get?_push_size _ rfl
  · have e : b = (s.heap.push { cls := .type "range", data := .fields #[.int lo t, .int hi u, .int 1 v] }).objs.size := by simpa using hb
    subst e
    exact I1.fpOk (Nat.le_refl _) (I1.hok.fresh (Nat.le_refl _))
def iRng1 (ta : TA) : TI := fun σ H R => ta σ H fun vs H1 => ∃ j : Int, vs = [.int j] ∧ -(2 ^ 62) ≤ j ∧ j < 2 ^ 62 ∧ R (Itr 0 j.toNat) H1
def iRng2 (ta : TA) : TI := fun σ H R => ta σ H fun vs H1 => ∃ i j : Int, vs = [.int i, .int j] ∧ (-(2 ^ 62) ≤ i ∧ i < 2 ^ 62 ∧ -(2 ^ 62) ≤ j ∧ j < 2 ^ 62) ∧ R (Itr i (j - i).toNat) H1
theorem pi_range1 {a : Expr} {ta : TA} {p pos : Pos} (hg : Gl X "range") (hm : X.mg "range" = none) (ha : PA X [a] ta) (hs : starEach [a] X.env = [(false, eval a X.env)] := by rfl) : PI X tg (.Call (.Name "range" p) [a] [] pos) (iRng1 ta) := by
  intro pins s σ H R I h
  refine Call_ (ld_blt I hg hm boot_range (PyProof.Rows.callWith_type1 (thn (ha pos pins s σ H _ I h) fun us s1 ⟨vs, H1, I1, r1, q1⟩ => ?_) hs rfl))
  obtain ⟨j, e, q1, q2, q⟩ := q1
  subst e
  cases r1 with
  | cons r rr =>
    cases rr
    obtain ⟨t, rfl⟩ := r
    exact call_range_1 (range_it I1 (by omega) (by omega) q1 q2 (by simpa using q))
def tFor (wi : TI) (g : TG) (tb : TS) : TS := fun D σ H => wi σ H fun J H1 => ∃ W : Nat → Nat → St → Hp → Prop, (∃ m, W 0 m σ H1) ∧ ∀ i m σ H, W i m σ H →
  (J.stop i H ∧ D.nx σ H) ∨ (J.go i H ∧ ∃ N : St → Hp → Prop, (∀ σ' H', N σ' H' → ∃ m', m' < m ∧ W (i + 1) m' σ' H') ∧ ∀ x H', J.yld i H x H' → g x σ H' fun σ2 H2 => tb { D with nx := N, ct := N, bk := D.nx } σ2 H2)
def pinsAt (fp : List Addr) (h : Heap) : List (Addr × Obj) := fp.filterMap fun b => (h.get? b).map fun o => (b, o)
theorem mem_pinsAt {fp : List Addr} {h : Heap} {b : Addr} {o : Obj} (hb : b ∈ fp) (e : h.get? b = some o) : (b, o) ∈ pinsAt fp h := List.mem_filterMap.mpr ⟨b, hb, by rw [e]; rfl⟩
theorem of_pinsAt {fp : List Addr} {h : Heap} {p : Addr × Obj} (hp : p ∈ pinsAt fp h) : p.1 ∈ fp ∧ h.get? p.1 = some p.2 := by
  obtain ⟨b, hb, e⟩ := List.mem_filterMap.mp hp
  cases q : h.get? b with
  | none => rw [q] at e; cases e
  | some o =>
    rw [q] at e
    have e' : (b, o) = p := Option.some.inj e
    subst e'
    exact ⟨hb, q⟩
theorem Inv.pinned {pins : List (Addr × Obj)} {σ : St} {H : Hp} {s : Shared} {fp : List Addr} (I : Inv X pins σ H s) (hf : ∀ b ∈ fp, FpOk X pins H b) (ho : ∀ b ∈ fp, ∃ o, s.heap.get? b = some o ∧ ∀ v, o.data ≠ .cell v) : Inv X (pins ++ pinsAt fp s.heap) σ H s :=
  I.pins_of fun p hp => (List.mem_append.mp hp).elim (fun z => I.pin p (List.mem_append_right _ z)) fun z => by
    obtain ⟨hb, e⟩ := of_pinsAt z
    obtain ⟨f0, f1, f2, _⟩ := hf p.1 hb
    obtain ⟨o, e', d⟩ := ho p.1 hb
    rw [e] at e'; cases e'
    exact ⟨e, f0, f1, f2, d⟩
theorem Inv.unpinned {pins pl : List (Addr × Obj)} {σ : St} {H : Hp} {s : Shared} (I : Inv X (pins ++ pl) σ H s) : Inv X pins σ H s := I.pins_of fun p hp => I.pin p (List.mem_append_right _ (List.mem_append_left _ hp))
theorem ps_for {iter : Expr} {body : List Stmt} {wi : TI} {g : TG} {tb : TS} {pos : Pos} (hp : PassesOwn (model X.prog X.w) X.A X.env X.xe) (hc : X.calm = true) (hi : PI X tg iter wi) (hg : PG X tg g) (hb : PSs X body tb)
    (hs : ∀ x, foldedSetIterable iter X.env x = pure x := by intro _; rfl) : PS X (.For tg iter body [] pos) (tFor wi g tb) := by
  intro pins s σ H D I h
  refine wpAny_For (thn (hi pins s σ H _ I h) fun v s1 h1 => thn h1 fun itv s2 h2 => ?_) hs
  obtain ⟨it, fp, tn, J, H2, e, I2, T, st2, f2, W, ⟨m0, w0⟩, turn⟩ := h2
  subst e
  -- what stays true of the iterator's objects through the loop
  have stat : ∀ {H' : Hp}, (∀ b ∈ fp, H' b = none) → ∀ b ∈ fp, FpOk X pins H' b := fun hn b hb => ⟨hn b hb, (f2 b hb).2⟩
  refine codeAny_forLoop_any (fun n s' => ∃ i σ' H', Inv X pins σ' H' s' ∧ tn i s'.heap ∧ (∀ b ∈ fp, H' b = none) ∧ W i n σ' H') ?_ m0 ⟨0, σ, H2, I2, st2, fun b hb => (f2 b hb).1, w0⟩
  rintro n s3 ⟨i, σ3, H3, I3, st3, fr3, w3⟩
  rcases turn i n σ3 H3 w3 with ⟨stop, qn⟩ | ⟨go, N, hN, step⟩
  · refine wpAny_passesOwn hp (thn (T.done X rfl rfl rfl hc i pins s3 σ3 H3 X.xe I3 (stat fr3) st3 stop) fun r s4 ⟨hr, I4⟩ => ?_)
    subst hr
    exact wpAny_execs_nil ⟨σ3, H3, I4, qn⟩
  · refine wpAny_passesOwn hp (thn (T.item X rfl rfl rfl hc i pins s3 σ3 H3 X.xe I3 (stat fr3) st3 go) fun r s4 ⟨u, hr, h4⟩ => ?_)
    subst hr
    refine wpAny_passesOwn hp (thn h4 fun _ s5 ⟨x, H5, I5, r5, y5, st5, fr5⟩ => ?_)
    have I5' := I5.pinned (stat fr5) (T.obj _ _ st5)
    refine wpAny_passesOwn hp (thn (hg _ s5 σ3 H5 x u _ I5' r5 (step x H5 y5)) fun _ s6 ⟨σ6, H6, I6, q6⟩ => ?_)
    refine wpAny_passesOwn hp (thn (hb _ s6 σ6 H6 _ I6 q6) fun f s7 q7 => ?_)
    have again : ∀ {σ7 : St} {H7 : Hp}, Inv X (pins ++ pinsAt fp s5.heap) σ7 H7 s7 → N σ7 H7 → ∃ m, m < n ∧ ∃ i σ' H', Inv X pins σ' H' s7 ∧ tn i s7.heap ∧ (∀ b ∈ fp, H' b = none) ∧ W i m σ' H' := fun {σ7 H7} I7 n7 => by
      obtain ⟨m', hm, w7⟩ := hN σ7 H7 n7
      refine ⟨m', hm, i + 1, σ7, H7, I7.unpinned, T.keep _ _ _ st5 fun b hb o e => (I7.pin (b, o) (List.mem_append_right _ (List.mem_append_right _ (mem_pinsAt hb e)))).1, fun b hb => ?_, w7⟩
      obtain ⟨o, e, d⟩ := T.obj _ _ st5 b hb
      exact (I7.pin (b, o) (List.mem_append_right _ (List.mem_append_right _ (mem_pinsAt hb e)))).2.1
    cases f with
    | next => obtain ⟨σ7, H7, I7, n7⟩ := q7; exact again I7 n7
    | cont => obtain ⟨σ7, H7, I7, n7⟩ := q7; exact again I7 n7
    | brk => obtain ⟨σ7, H7, I7, q7⟩ := q7; exact ⟨σ7, H7, I7.unpinned, q7⟩
    | ret v => obtain ⟨x7, σ7, H7, I7, r7, q7⟩ := q7; exact ⟨x7, σ7, H7, I7.unpinned, r7, q7⟩
end
end L2
namespace L2
open PySem PySem.Spec PyProof.Rows
abbrev R2 := V → V → Hp → VK → Prop
def OpR (X : Cx) (f : Value → Value → Sem Value) (r : R2) : Prop :=
  ∀ (pins : List (Addr × Obj)) (s : Shared) (σ : St) (H : Hp) (x y : V) (v u : Value) (Q : VK), Inv X pins σ H s → RelV x v → RelV y u → r x y H Q →
    wpAny (model X.prog X.w) X.A (f v u) (EP X pins σ Q) X.xe s
def UnR (X : Cx) (f : Value → Sem Value) (r : V → Hp → VK → Prop) : Prop :=
  ∀ (pins : List (Addr × Obj)) (s : Shared) (σ : St) (H : Hp) (x : V) (v : Value) (Q : VK), Inv X pins σ H s → RelV x v → r x H Q →
    wpAny (model X.prog X.w) X.A (f v) (EP X pins σ Q) X.xe s
def CallR (X : Cx) (f : Value) (r : List V → Hp → VK → Prop) : Prop :=
  ∀ (pins : List (Addr × Obj)) (s : Shared) (σ : St) (H : Hp) (xs : List V) (us : List Value) (Q : VK), Inv X pins σ H s → Vals xs us → r xs H Q →
    wpAny (model X.prog X.w) X.A (call f us) (EP X pins σ Q) X.xe s
def TruR (X : Cx) (r : V → Hp → (Bool → Hp → Prop) → Prop) : Prop :=
  ∀ (pins : List (Addr × Obj)) (s : Shared) (σ : St) (H : Hp) (x : V) (v : Value) (Q : Bool → Hp → Prop), Inv X pins σ H s → RelV x v → r x H Q →
    wpAny (model X.prog X.w) X.A (truthy v) (TP X pins σ Q) X.xe s
def tOp (r : R2) (ta tb : TE) : TE := fun σ H Q => ta σ H fun x H1 => tb σ H1 fun y H2 => r x y H2 Q
def tUn (r : V → Hp → VK → Prop) (ta : TE) : TE := fun σ H Q => ta σ H fun x H1 => r x H1 Q
def rI (C : Int → Int → Prop) (g : Int → Int → V) : R2 := fun x y H Q => ∃ i j, x = .int i ∧ y = .int j ∧ C i j ∧ Q (g i j) H
def rI0 (g : Int → Int → V) : R2 := fun x y H Q => ∃ i j, x = .int i ∧ y = .int j ∧ Q (g i j) H
def rU (g : Int → V) : V → Hp → VK → Prop := fun x H Q => ∃ i, x = .int i ∧ Q (g i) H
section
variable {X : Cx} {a b c : Expr} {ta tb tc : TE} {pos : Pos}
theorem binT (ha : PE X a ta) (hb : PE X b tb) {pins : List (Addr × Obj)} {s : Shared} {σ : St} {H : Hp} {R : V → V → Hp → Prop} (I : Inv X pins σ H s)
    (h : ta σ H fun x H1 => tb σ H1 fun y H2 => R x y H2) {Q : Value → Shared → Prop} {f : Value → Value → Sem Value}
    (hf : ∀ v u s2 x y H2, Inv X pins σ H2 s2 → RelV x v → RelV y u → R x y H2 → wpAny (model X.prog X.w) X.A (f v u) Q X.xe s2) :
    wpAny (model X.prog X.w) X.A (eval a X.env) (fun v s₁ => wpAny (model X.prog X.w) X.A (eval b X.env) (fun u s₂ => wpAny (model X.prog X.w) X.A (f v u) Q X.xe s₂) X.xe s₁) X.xe s := by
  refine thn (ha pins s σ H _ I h) fun v s1 ⟨x, H1, I1, r1, q1⟩ => ?_
  refine thn (hb pins s1 σ H1 _ I1 q1) fun u s2 ⟨y, H2, I2, r2, q2⟩ => ?_
  exact hf v u s2 x y H2 I2 r1 r2 q2
theorem pe_op {op : Operator} {r : R2} (ho : OpR X (binaryOp op) r) (ha : PE X a ta) (hb : PE X b tb) : PE X (.BinOp a op b pos) (tOp r ta tb) := by
  intro pins s σ H Q I h
  exact wpAny_BinOp (binT ha hb I h fun v u s2 x y H2 I2 rx ry q => ho pins s2 σ H2 x y v u Q I2 rx ry q)
theorem pe_un {op : UnaryOp} {r : V → Hp → VK → Prop} (ho : UnR X (unaryOp op) r) (ha : PE X a ta) : PE X (.UnaryOp op a pos) (tUn r ta) := by
  intro pins s σ H Q I h
  exact UnaryOp_ (thn (ha pins s σ H _ I h) fun v s1 ⟨x, H1, I1, r1, q1⟩ => ho pins s1 σ H1 x v Q I1 r1 q1)
theorem opI {f : Value → Value → Sem Value} {C : Int → Int → Prop} {g : Int → Int → Int}
    (rule : ∀ (i j : Int) (t u : Tok) (s : Shared) (Q : Value → Shared → Prop) (E : Value → Shared → Prop), C i j → Q (.int (g i j) s.toks) { s with toks := s.toks + 1 } → wpAny (model X.prog X.w) X.A (f (.int i t) (.int j u)) Q E s) :
    OpR X f (rI C fun i j => .int (g i j)) := by
  intro pins s σ H x y v u Q I rx ry h
  obtain ⟨i, j, rfl, rfl, hc, q⟩ := h
  obtain ⟨t, rfl⟩ := rx
  obtain ⟨t', rfl⟩ := ry
  exact rule i j t t' s _ _ hc ⟨.int (g i j), H, I.tok _, ⟨_, rfl⟩, q⟩
theorem opI0 {f : Value → Value → Sem Value} {g : Int → Int → Int}
    (rule : ∀ (i j : Int) (t u : Tok) (s : Shared) (Q : Value → Shared → Prop) (E : Value → Shared → Prop), Q (.int (g i j) s.toks) { s with toks := s.toks + 1 } → wpAny (model X.prog X.w) X.A (f (.int i t) (.int j u)) Q E s) :
    OpR X f (rI0 fun i j => .int (g i j)) := by
  intro pins s σ H x y v u Q I rx ry h
  obtain ⟨i, j, rfl, rfl, q⟩ := h
  obtain ⟨t, rfl⟩ := rx
  obtain ⟨t', rfl⟩ := ry
  exact rule i j t t' s _ _ ⟨.int (g i j), H, I.tok _, ⟨_, rfl⟩, q⟩
theorem opB0 {f : Value → Value → Sem Value} {g : Int → Int → Bool}
    (rule : ∀ (i j : Int) (t u : Tok) (s : Shared) (Q : Value → Shared → Prop) (E : Value → Shared → Prop), Q (.bool (g i j)) s → wpAny (model X.prog X.w) X.A (f (.int i t) (.int j u)) Q E s) :
    OpR X f (rI0 fun i j => .bl (g i j)) := by
  intro pins s σ H x y v u Q I rx ry h
  obtain ⟨i, j, rfl, rfl, q⟩ := h
  obtain ⟨t, rfl⟩ := rx
  obtain ⟨t', rfl⟩ := ry
  exact rule i j t t' s _ _ ⟨.bl (g i j), H, I, rfl, q⟩
def CDiv (i j : Int) : Prop := 0 < j ∧ j < 1073741824
def CDivN (i j : Int) : Prop := j ≠ 0 ∧ j.natAbs < 1073741824
def CPow (i j : Int) : Prop := 0 ≤ j ∧ j ≤ 1000000 ∧ i.natAbs < 2 ^ 64
def CMul (i j : Int) : Prop := (-(2 ^ 64) < i ∧ i < 2 ^ 64) ∨ (-(2 ^ 64) < j ∧ j < 2 ^ 64)
theorem CMul.ok {i j : Int} (h : CMul i j) : IntMulOk i j := by
  rcases h with ⟨h1, h2⟩ | ⟨h1, h2⟩
  · exact .of_left (intBits_le_64 h1 h2)
  · exact .of_right (intBits_le_64 h1 h2)
theorem op_add : OpR X (binaryOp .Add) (rI0 fun i j => .int (i + j)) := opI0 fun _ _ _ _ _ _ _ q => add_int q
theorem op_sub : OpR X (binaryOp .Sub) (rI0 fun i j => .int (i - j)) := opI0 fun _ _ _ _ _ _ _ q => sub_int q
theorem op_mul : OpR X (binaryOp .Mult) (rI CMul fun i j => .int (i * j)) := opI fun _ _ _ _ _ _ _ hc q => mul_int q hc.ok
theorem op_fdiv : OpR X (binaryOp .FloorDiv) (rI CDiv fun i j => .int (i / j)) := opI fun i j _ _ _ _ _ hc q => by
  have h1 : (0 : Int) < j := hc.1
  have h2 : j < 1073741824 := hc.2
  exact floordiv_int (by omega) (by rw [Int.fdiv_eq_ediv_of_nonneg i (by omega)]; exact q) (.inl (PyProof.noPylong_small (by omega)))
theorem op_mod : OpR X (binaryOp .Mod) (rI (fun _ j => 0 < j) fun i j => .int (i % j)) := opI fun i j _ _ _ _ _ hc q => by
  have h1 : (0 : Int) < j := hc
  exact mod_int' (by omega) (by rw [Int.fmod_eq_emod_of_nonneg i (by omega)]; exact q)
theorem op_pow : OpR X (binaryOp .Pow) (rI CPow fun i j => .int (i ^ j.toNat)) := opI fun _ _ _ _ _ _ _ hc q => pow_int_small hc.1 hc.2.1 hc.2.2 q
theorem unI {f : Value → Sem Value} {g : Int → Int}
    (rule : ∀ (i : Int) (t : Tok) (s : Shared) (Q : Value → Shared → Prop) (E : Value → Shared → Prop), Q (.int (g i) s.toks) { s with toks := s.toks + 1 } → wpAny (model X.prog X.w) X.A (f (.int i t)) Q E s) :
    UnR X f (rU fun i => .int (g i)) := by
  intro pins s σ H x v Q I rx h
  obtain ⟨i, rfl, q⟩ := h
  obtain ⟨t, rfl⟩ := rx
  exact rule i t s _ _ ⟨.int (g i), H, I.tok _, ⟨_, rfl⟩, q⟩
theorem un_neg : UnR X (unaryOp .USub) (rU fun i => .int (-i)) := unI fun _ _ _ _ _ q => neg_int q
end
def scal : V → V → Bool
  | .non, .non => true | .non, .int _ => true | .int _, .non => true | .non, .bl _ => true | .bl _, .non => true | .non, .str _ => true | .str _, .non => true
  | .int _, .int _ => true | .bl _, .bl _ => true | .str _, .str _ => true | .byt _, .byt _ => true
  | .int _, .str _ => true | .str _, .int _ => true | .bl _, .str _ => true | .str _, .bl _ => true
  | _, _ => false
def rEq : R2 := fun x y H Q => scal x y = true ∧ Q (.bl (decide (x = y))) H
def rNe : R2 := fun x y H Q => scal x y = true ∧ Q (.bl (!decide (x = y))) H
theorem dec_int {i j : Int} : decide (V.int i = V.int j) = (i == j) := by
  rw [Bool.eq_iff_iff]
  simp
theorem dec_bl {i j : Bool} : decide (V.bl i = V.bl j) = (i == j) := by
  rw [Bool.eq_iff_iff]
  simp
theorem dec_str {i j : Str} : decide (V.str i = V.str j) = (i == j) := by
  rw [Bool.eq_iff_iff]
  simp
theorem dec_byt {i j : Array UInt8} : decide (V.byt i = V.byt j) = (i.toList == j.toList) := by
  rw [Bool.eq_iff_iff]
  cases i
  cases j
  simp
section
variable {X : Cx} {a b c : Expr} {ta tb tc : TE} {pos : Pos}
theorem fin_bl {pins : List (Addr × Obj)} {σ : St} {H : Hp} {s : Shared} {Q : VK} {k k' : Bool} (I : Inv X pins σ H s) (q : Q (.bl k) H) (e : k = k') : EP X pins σ Q (.bool k') s := by
  subst e
  exact ⟨.bl k, H, I, rfl, q⟩
theorem op_eq : OpR X (compareOp .Eq) rEq := by
  intro pins s σ H x y v u Q I rx ry h
  obtain ⟨hs, q⟩ := h
  cases x with
  | non =>
    cases rx
    cases y with
    | non => cases ry; exact PySem.EqNone.eq_none_none (fin_bl I q (by simp))
    | bl j => cases ry; exact PySem.EqNone.eq_none_bool (fin_bl I q (by simp))
    | int j => obtain ⟨t', rfl⟩ := ry; exact PySem.EqNone.eq_none_int (fin_bl I q (by simp))
    | str j => obtain ⟨t', rfl⟩ := ry; exact PySem.EqNone.eq_none_str (fin_bl I q (by simp))
    | _ => exact absurd (show false = true from hs) Bool.false_ne_true
  | bl i =>
    cases rx
    cases y with
    | non => cases ry; exact PySem.EqNone.eq_bool_none (fin_bl I q (by simp))
    | bl j => cases ry; exact eq_bool (fin_bl I q dec_bl)
    | str j => obtain ⟨t', rfl⟩ := ry; exact PySem.EqMixed.eq_bool_str (fin_bl I q (by simp))
    | _ => exact absurd (show false = true from hs) Bool.false_ne_true
  | int i =>
    obtain ⟨t, rfl⟩ := rx
    cases y with
    | non => cases ry; exact PySem.EqNone.eq_int_none (fin_bl I q (by simp))
    | int j => obtain ⟨t', rfl⟩ := ry; exact eq_int (fin_bl I q dec_int)
    | str j => obtain ⟨t', rfl⟩ := ry; exact PySem.EqMixed.eq_int_str (fin_bl I q (by simp))
    | _ => exact absurd (show false = true from hs) Bool.false_ne_true
  | str i =>
    obtain ⟨t, rfl⟩ := rx
    cases y with
    | non => cases ry; exact PySem.EqNone.eq_str_none (fin_bl I q (by simp))
    | bl j => cases ry; exact PySem.EqMixed.eq_str_bool (fin_bl I q (by simp))
    | int j => obtain ⟨t', rfl⟩ := ry; exact PySem.EqMixed.eq_str_int (fin_bl I q (by simp))
    | str j => obtain ⟨t', rfl⟩ := ry; exact eq_str (fin_bl I q dec_str)
    | _ => exact absurd (show false = true from hs) Bool.false_ne_true
  | byt i =>
    obtain ⟨t, rfl⟩ := rx
    cases y with
    | byt j => obtain ⟨t', rfl⟩ := ry; exact PySem.W.eq_bytes (fin_bl I q dec_byt)
    | _ => exact absurd (show false = true from hs) Bool.false_ne_true
  | _ => cases y <;> exact absurd (show false = true from hs) Bool.false_ne_true
theorem op_ne : OpR X (compareOp .NotEq) rNe := by
  intro pins s σ H x y v u Q I rx ry h
  obtain ⟨hs, q⟩ := h
  cases x with
  | non =>
    cases rx
    cases y with
    | non => cases ry; exact PySem.EqNone.ne_none_none (fin_bl I q (by simp))
    | bl j => cases ry; exact PySem.EqNone.ne_none_bool (fin_bl I q (by simp))
    | int j => obtain ⟨t', rfl⟩ := ry; exact PySem.EqNone.ne_none_int (fin_bl I q (by simp))
    | str j => obtain ⟨t', rfl⟩ := ry; exact PySem.EqNone.ne_none_str (fin_bl I q (by simp))
    | _ => exact absurd (show false = true from hs) Bool.false_ne_true
  | bl i =>
    cases rx
    cases y with
    | non => cases ry; exact PySem.EqNone.ne_bool_none (fin_bl I q (by simp))
    | bl j => cases ry; exact ne_bool (fin_bl I q (congrArg not dec_bl))
    | str j => obtain ⟨t', rfl⟩ := ry; exact PySem.EqMixed.ne_bool_str (fin_bl I q (by simp))
    | _ => exact absurd (show false = true from hs) Bool.false_ne_true
  | int i =>
    obtain ⟨t, rfl⟩ := rx
    cases y with
    | non => cases ry; exact PySem.EqNone.ne_int_none (fin_bl I q (by simp))
    | int j => obtain ⟨t', rfl⟩ := ry; exact ne_int (fin_bl I q (congrArg not dec_int))
    | str j => obtain ⟨t', rfl⟩ := ry; exact PySem.EqMixed.ne_int_str (fin_bl I q (by simp))
    | _ => exact absurd (show false = true from hs) Bool.false_ne_true
  | str i =>
    obtain ⟨t, rfl⟩ := rx
    cases y with
    | non => cases ry; exact PySem.EqNone.ne_str_none (fin_bl I q (by simp))
    | bl j => cases ry; exact PySem.EqMixed.ne_str_bool (fin_bl I q (by simp))
    | int j => obtain ⟨t', rfl⟩ := ry; exact PySem.EqMixed.ne_str_int (fin_bl I q (by simp))
    | str j => obtain ⟨t', rfl⟩ := ry; exact ne_str (fin_bl I q (congrArg not dec_str))
    | _ => exact absurd (show false = true from hs) Bool.false_ne_true
  | byt i =>
    obtain ⟨t, rfl⟩ := rx
    cases y with
    | byt j => obtain ⟨t', rfl⟩ := ry; exact PySem.W.ne_bytes (fin_bl I q (congrArg not dec_byt))
    | _ => exact absurd (show false = true from hs) Bool.false_ne_true
  | _ => cases y <;> exact absurd (show false = true from hs) Bool.false_ne_true
theorem op_lt : OpR X (compareOp .Lt) (rI0 fun i j => .bl (decide (i < j))) := opB0 fun _ _ _ _ _ _ _ q => lt_int q
theorem op_isN : OpR X (compareOp .Is) (fun x y H Q => y = .non ∧ Q (.bl (decide (x = .non))) H) := by
  intro pins s σ H x y v u Q I rx ry h
  obtain ⟨rfl, q⟩ := h
  cases ry
  refine is_none_gen (fin_bl I q ?_)
  cases x <;> first
    | (cases rx; rfl)
    | (obtain ⟨t, rfl⟩ := rx; rfl)
def isObj : HO → Bool
  | .lst _ => true
  | .ins _ _ _ => true
  | _ => false
theorem nomark (b : Expr) {op : CmpOp} (h : op ≠ .In := by decide) (h2 : op ≠ .NotIn := by decide) : behindInMarks op b = false := by
  have e1 : (op == CmpOp.In) = false := by cases op <;> first | rfl | exact absurd rfl h
  have e2 : (op == CmpOp.NotIn) = false := by cases op <;> first | rfl | exact absurd rfl h2
  cases b <;> simp [behindInMarks, e1, e2]
theorem pe_cmpR {op : CmpOp} {r : R2} (ho : OpR X (compareOp op) r) (ha : PE X a ta) (hb : PE X b tb) (hm : behindInMarks op b = false) : PE X (.Compare a [op] [b] pos) (tOp r ta tb) := by
  intro pins s σ H Q I h
  exact wpAny_Compare1 (binT ha hb I h fun v u s2 x y H2 I2 rx ry q => ho pins s2 σ H2 x y v u Q I2 rx ry q) hm
def tTest (t : TE) : TT := fun σ H Q => t σ H fun x H' => ∃ k, x = .bl k ∧ Q k H'
theorem pt_cmpR {op : CmpOp} {r : R2} (ho : OpR X (compareOp op) r) (ha : PE X a ta) (hb : PE X b tb) (hm : behindInMarks op b = false) : PT X (.Compare a [op] [b] pos) (tTest (tOp r ta tb)) := by
  intro pins s σ H Q I h
  refine wpAny_isTrue_Compare1 (thn (ha pins s σ H _ I h) fun v s1 ⟨x, H1, I1, r1, q1⟩ => thn (hb pins s1 σ H1 _ I1 q1) fun u s2 ⟨y, H2, I2, r2, q2⟩ =>
    thn (ho pins s2 σ H2 x y v u _ I2 r1 r2 q2) fun c s3 ⟨z, H3, I3, r3, k, e, q3⟩ => ?_) hm
  subst e
  cases r3
  exact wpAny_truthy_bool ⟨H3, I3, q3⟩
def tChain (r r' : R2) (ta tb tc : TE) : TE := fun σ H Q => ta σ H fun x H1 => tb σ H1 fun y H2 => r x y H2 fun z H3 => ∃ k, z = .bl k ∧
  (if k = true then tc σ H3 fun w' H4 => r' y w' H4 Q else Q (.bl false) H3)
def TruV (K : PySem.W.Frag) (x : V) (H : Hp) (k : Bool) : Prop :=
  match x with
  | .non => k = false
  | .bl b => k = b
  | .int i => k = (i != 0)
  | .str y => y.length ≤ sizeLine ∧ k = ((y.length : Int) != 0)
  | .byt y => y.size ≤ sizeLine ∧ k = ((y.size : Int) != 0)
  | .ref p => (∃ xs, SqL K H p xs ∧ k = !xs.isEmpty) ∨ (∃ xs, SqT K H p xs ∧ k = !xs.isEmpty) ∨ ∃ kvs, H p = some (.dK kvs) ∧ k = !kvs.isEmpty
  | _ => False
theorem line63 : (sizeLine : Nat) < 2 ^ 63 := by rw [sizeLine_eq]; decide
def PlainIxT (b : Expr) : Prop := ∀ o i, subscripted b false o i = operate [o, i] (getItem o i)
theorem vals1 {x : V} {us : List Value} (r : Vals [x] us) : ∃ u, us = [u] ∧ RelV x u := by
  cases r with
  | cons r1 r2 => cases r2; exact ⟨_, rfl, r1⟩
def LenV (K : PySem.W.Frag) (x : V) (H : Hp) (n : Nat) : Prop :=
  match x with
  | .str y => y.length ≤ sizeLine ∧ n = y.length
  | .byt y => y.size ≤ sizeLine ∧ n = y.size
  | .ref p => (∃ xs, SqL K H p xs ∧ n = xs.length) ∨ ∃ xs, SqT K H p xs ∧ n = xs.length
  | _ => False
end
end L2
namespace L2
open PySem PySem.Spec PyProof.Rows
structure ObjM (h : Heap) (x dx C : Addr) (mA : Str → Option Value) : Prop where
  obj : h.get? x = some (PySem.W.instObj C dx)
  ns : h.Ns1 dx mA
  ne : dx ≠ x
theorem lookIn_ns {h : Heap} {dx : Addr} {mA : Str → Option Value} (n : h.Ns1 dx mA) : ∃ od, h.get? dx = some od ∧ ∀ name, PySem.W.lookIn name od = some (mA name) := by
  obtain ⟨o, es, ep, ho, hd, hk, _, hm⟩ := n
  refine ⟨o, ho, fun name => ?_⟩
  have e := hm name
  unfold nsFind findBy at e
  rw [← Array.find?_toList] at e
  unfold PySem.W.lookIn
  rw [hd]
  dsimp only
  split
  · rename_i y q
    rw [q] at e
    exact congrArg some e
  · rename_i q
    rw [q] at e
    have a : es.toList.any (·.refKey) = false := by
      rw [List.any_eq_false]
      intro y hy
      obtain ⟨z, t, hkey⟩ := hk y (Array.mem_toList_iff.mp hy)
      simp [DictEntry.refKey, hkey]
    have a' : ¬ es.toList.any (·.refKey) = true := by rw [a]; exact Bool.false_ne_true
    rw [if_neg a']
    exact congrArg some e
theorem ObjM.look {h : Heap} {x dx C : Addr} {mA : Str → Option Value} (I : ObjM h x dx C mA) : ∃ od, PySem.W.InstAt h x (PySem.W.instObj C dx) C (some od) ∧ ∀ name, PySem.W.lookIn name od = some (mA name) :=
  let ⟨od, ho, hl⟩ := lookIn_ns I.ns
  ⟨od, ⟨I.obj, rfl, rfl, ho⟩, hl⟩
section
variable {prog : Program} {w : World} {A : Around} {E : Value → Shared → Prop} {s : Shared} {K : PySem.W.Frag} {x dx C f : Addr} {mA : Str → Option Value} {name : Str} {v : Value}
theorem get_map {expr : Bool} {Q : Value → Shared → Prop} (X : K.In s.heap) (I : ObjM s.heap x dx C mA) (hg : PySem.W.plainGet K C name = true) (hh : PySem.W.hasDictIn K C = true)
    (ha : PySem.W.findIn K (.ref C) name = some none) (hv : mA name = some v) (hv' : PySem.W.handedIn v = true) (h : Q v { s with toks := s.toks + 1 }) :
    wpAny (model prog w) A (getAttr (.ref x) name expr) Q E s := by
  obtain ⟨od, J, hl⟩ := I.look
  exact PySem.W.get_value X J (PySem.W.plainGet_of hg).1 (PySem.W.findObj_own hh ha rfl (by rw [hl, hv])) hv' h
theorem get_meth {pl : Sem Bool} {Q : Value × List Value → Shared → Prop} (X : K.In s.heap) (I : ObjM s.heap x dx C mA) (hg : PySem.W.plainGet K C name = true)
    (hf : PySem.W.findIn K (.ref C) name = some (some (.ref f))) (ht : PySem.W.isFn K (.ref f) = true) (hv : mA name = none) (h : Q (.ref f, [.ref x]) s) :
    wpAny (model prog w) A (getMethod (.ref x) name pl) Q E s := by
  obtain ⟨od, J, hl⟩ := I.look
  exact PySem.W.method_fn X J (PySem.W.plainGet_of hg).1 (PySem.W.plainGet_of hg).2 hf (beq_iff_eq.mp ht) (by show (PySem.W.lookIn name od).map (·.isSome) = some false; rw [hl, hv]; rfl) h
theorem set_map {ns : List Str} {Q : Unit → Shared → Prop} (X : K.In s.heap) (I : ObjM s.heap x dx C mA)
    (hs : PySem.W.findIn K (.ref C) "__setattr__" = some (some (.builtin "object.__setattr__"))) (hp : PySem.W.plainOver K C = true) (ht : PySem.W.takerIn K C name = some none) (hh : PySem.W.hasDictIn K C = true)
    (hw : PySem.Within mA ns) (hsz : ns.length ≤ sizeLine)
    (h : ∀ h', ObjM h' x dx C (fun y => if y = name then some v else mA y) → Heap.SameBut dx s.heap h' → Q () { s with heap := h', toks := s.toks + 2 }) :
    wpAny (model prog w) A (setAttr (.ref x) name v) Q E s := by
  obtain ⟨od, J, hl⟩ := I.look
  refine PySem.W.set_plain X J hs (PySem.W.osa_open (s := { s with toks := s.toks + 1 }) (r := none) X J hp ht fun b => ?_)
  obtain ⟨cd, hc, hd'⟩ := PySem.W.any_some hh
  have hx : s.heap.get? x = some ⟨.ref C, some dx, .plain, #[]⟩ := I.obj
  refine wpAny_bind (wpAny_pure (wpAny_bind (wpAny_bind (wpAny_loadPart hx (wpAny_bind (PySem.W.Looks.here (s := { s with toks := s.toks + 1 }) (PySem.W.looks_clsIn X hc) ?_))))))
  rw [hd']
  refine wpAny_pure (a := some dx) (wpAny_bind (wpAny_pure (wpAny_bind ?_)))
  refine wpAny_nsSet1 (s := { s with toks := s.toks + 1 }) I.ns fun h' hn2 hs2 => ?_
  obtain ⟨oD, esD, epD, hoD, hdD, hcD⟩ := hn2.count (PySem.Within.cons name v hw)
  refine wpAny_bind (wpAny_lookBehind hoD (by rw [hdD]; exact pastItsLine_dict (Nat.le_trans hcD (by rw [List.length_cons]; omega))) ?_)
  exact wpAny_pure (h _ ⟨(hs2.2 _ (Ne.symm I.ne)).trans I.obj, hn2, I.ne⟩ hs2)
theorem make_map {R : Result → Shared → Prop} {vs : List Value} {kw : List (Str × Value)} (X : K.In s.heap) (hm : PySem.W.makesIn K C = true)
    (hi : PySem.W.findIn K (.ref C) "__init__" = some (some (.ref f))) (hf : PySem.W.typeIn K (.ref f) = some (.type "function"))
    (h : codeAny (model prog w) (A.under (.builtin "type.__call__" ⟨.ref C :: vs, kw⟩)) (.call (.ref f) ⟨.ref (s.heap.objs.size + 1) :: vs, kw⟩) (PySem.W.InitBack (s.heap.objs.size + 1) R)
      { s with heap := (s.heap.push PySem.W.emptyDict).push (PySem.W.instObj C s.heap.objs.size) }) :
    codeAny (model prog w) A (.call (.ref C) ⟨vs, kw⟩) R s := by
  obtain ⟨hh, g, d, t, os⟩ := s
  exact PySem.W.make_core (PySem.W.makes_of X hm) (PySem.W.looks_findIn X hi) (fun self => PySem.W.bind_fn X self hf) (.inl rfl) h
theorem make_map0 {R : Result → Shared → Prop} (X : K.In s.heap) (hm : PySem.W.makesIn K C = true)
    (hi : PySem.W.findIn K (.ref C) "__init__" = some (some (.builtin "object.__init__")))
    (hb : ∀ self, PySem.W.Looks (model prog w) s.heap (bindSpecial (.builtin "object.__init__") self) (.builtin "object.__init__", [self]))
    (h : codeAny (model prog w) (A.under (.builtin "type.__call__" ⟨[.ref C], []⟩)) (.call (.builtin "object.__init__") ⟨[.ref (s.heap.objs.size + 1)], []⟩) (PySem.W.InitBack (s.heap.objs.size + 1) R)
      { s with heap := (s.heap.push PySem.W.emptyDict).push (PySem.W.instObj C s.heap.objs.size) }) :
    codeAny (model prog w) A (.call (.ref C) ⟨[], []⟩) R s := by
  obtain ⟨hh, g, d, t, os⟩ := s
  exact PySem.W.make_core (PySem.W.makes_of X hm) (PySem.W.looks_findIn X hi) hb (.inr ⟨rfl, rfl⟩) h
end
def putF (f : Str) (v : V) : List (Str × V) → List (Str × V)
  | [] => [(f, v)]
  | (g, x) :: r => if g = f then (g, v) :: r else (g, x) :: putF f v r
theorem lookup_putF (f g : Str) (v : V) : ∀ fs : List (Str × V), (putF f v fs).lookup g = if g = f then some v else fs.lookup g
  | [] => by
    show List.lookup g [(f, v)] = _
    by_cases h : g = f
    · have hb : (g == f) = true := beq_iff_eq.mpr h
      simp only [List.lookup, hb, if_pos h]
    · have hb : (g == f) = false := beq_eq_false_iff_ne.mpr h
      simp only [List.lookup, hb, if_neg h]
  | (k, x) :: r => by
    have ih := lookup_putF f g v r
    rw [show putF f v ((k, x) :: r) = (if k = f then (k, v) :: r else (k, x) :: putF f v r) from rfl]
    by_cases hk : k = f
    · rw [if_pos hk]
      by_cases h : g = k
      · have hb : (g == k) = true := beq_iff_eq.mpr h
        simp only [List.lookup, hb, if_pos (h.trans hk)]
      · have hb : (g == k) = false := beq_eq_false_iff_ne.mpr h
        simp only [List.lookup, hb, if_neg (fun e : g = f => h (e.trans hk.symm))]
    · rw [if_neg hk]
      by_cases h : g = k
      · have hb : (g == k) = true := beq_iff_eq.mpr h
        simp only [List.lookup, hb, if_neg (fun e : g = f => hk (h.symm.trans e))]
      · have hb : (g == k) = false := beq_eq_false_iff_ne.mpr h
        simp only [List.lookup, hb]
        exact ih
theorem keys_putF (f : Str) (v : V) : ∀ fs : List (Str × V), f ∈ (putF f v fs).map (·.1) ∧ ∀ g, g ∈ fs.map (·.1) → g ∈ (putF f v fs).map (·.1)
  | [] => ⟨by simp [putF], fun g h => by simp at h⟩
  | (k, x) :: r => by
    obtain ⟨i1, i2⟩ := keys_putF f v r
    rw [show putF f v ((k, x) :: r) = (if k = f then (k, v) :: r else (k, x) :: putF f v r) from rfl]
    by_cases hk : k = f
    · rw [if_pos hk]
      subst hk
      exact ⟨by simp, fun g h => by simpa using h⟩
    · rw [if_neg hk]
      refine ⟨?_, fun g h => ?_⟩
      · rw [List.map_cons]
        exact List.mem_cons_of_mem _ i1
      · rw [List.map_cons] at h ⊢
        rcases List.mem_cons.mp h with e | e
        · exact List.mem_cons.mpr (.inl e)
        · exact List.mem_cons_of_mem _ (i2 g e)
theorem length_putF (f : Str) (v : V) : ∀ fs : List (Str × V), (putF f v fs).length ≤ fs.length + 1
  | [] => by simp [putF]
  | (k, x) :: r => by
    have ih := length_putF f v r
    rw [show putF f v ((k, x) :: r) = (if k = f then (k, v) :: r else (k, x) :: putF f v r) from rfl]
    by_cases hk : k = f
    · rw [if_pos hk, List.length_cons, List.length_cons]; omega
    · rw [if_neg hk, List.length_cons, List.length_cons]; omega
theorem RelO.some_of {v : V} {o : Option Value} (r : RelO (some v) o) : ∃ u, o = some u ∧ RelV v u := by
  cases o with
  | none => exact (show False from r).elim
  | some u => exact ⟨u, rfl, r⟩
theorem RelO.none_of {o : Option Value} (r : RelO none o) : o = none := by
  cases o with
  | none => rfl
  | some u => exact (show False from r).elim
theorem handed_of {v : V} {u : Value} (r : RelV v u) : PySem.W.handedIn u = true := by
  cases v with
  | non => cases (show u = Value.none from r); rfl
  | bl b => cases (show u = Value.bool b from r); rfl
  | int i => obtain ⟨t, e⟩ := (show ∃ t, u = Value.int i t from r); cases e; rfl
  | str x => obtain ⟨t, e⟩ := (show ∃ t, u = Value.str x t from r); cases e; rfl
  | byt b => obtain ⟨t, e⟩ := (show ∃ t, u = Value.bytes b t from r); cases e; rfl
  | flt b => obtain ⟨t, e⟩ := (show ∃ t, u = Value.float b t from r); cases e; rfl
  | ref a => cases (show u = Value.ref a from r); rfl
  | ty n => cases (show u = Value.type n from r); rfl
section
variable {P : Program} {w : World} {H H' : Hp} {h h' : Heap} {a C dx : Addr} {fs fs' : List (Str × V)}
theorem ins_get (hok : HOk P w H h) (e : H a = some (.ins C dx fs)) : ∃ mA, ObjM h a dx C mA ∧ (∀ f, RelO (fs.lookup f) (mA f)) ∧ PySem.Within mA (fs.map (·.1)) ∧ fs.length ≤ 1000 ∧ H dx = some (.own a) := by
  obtain ⟨d, z, ne, ob, mA, n, r, q⟩ := (show ObjOk P w H h a (.ins C dx fs) from hok a _ e)
  exact ⟨mA, ⟨ob, n, ne⟩, r, q, z, d⟩
end
structure Cls (K : PySem.W.Frag) (C : Addr) : Prop where
  pg : PySem.W.plainGet K C Str.empty = true
  hd : PySem.W.hasDictIn K C = true
  po : PySem.W.plainOver K C = true
  sa : PySem.W.findIn K (.ref C) "__setattr__" = some (some (.builtin "object.__setattr__"))
theorem Cls.get {K : PySem.W.Frag} {C : Addr} (c : Cls K C) (f : Str) : PySem.W.plainGet K C f = true := c.pg
def NoAttr (K : PySem.W.Frag) (C : Addr) (f : Str) : Prop := PySem.W.findIn K (.ref C) f = some none
theorem NoAttr.taker {K : PySem.W.Frag} {C : Addr} {f : Str} (n : NoAttr K C f) : PySem.W.takerIn K C f = some none := by
  unfold PySem.W.takerIn
  rw [show PySem.W.findIn K (.ref C) f = some none from n]
  rfl
structure Con (K : PySem.W.Frag) (C : Addr) (f : Str) (v : V) (u : Value) : Prop where
  at_ : PySem.W.findIn K (.ref C) f = some (some u)
  rel : RelV v u
  get : PySem.W.specialIn K u "__get__" = some none
  cp : PySem.W.copiedNames.contains f = false
structure Meth (K : PySem.W.Frag) (C : Addr) (m : Str) (f : Addr) : Prop where
  at_ : PySem.W.findIn K (.ref C) m = some (some (.ref f))
  fn : PySem.W.isFn K (.ref f) = true
  kp : PySem.W.keepIn K (.ref f) = true
section
variable {X : Cx} {pins : List (Addr × Obj)} {σ : St} {H : Hp} {s : Shared} {a C dx : Addr} {fs : List (Str × V)} {f : Str} {v : V} {A : Around} {E : Value → Shared → Prop}
theorem getattr_ok {b : Bool} {Q : Value → Shared → Prop} (I : Inv X pins σ H s) (e : H a = some (.ins C dx fs)) (c : Cls X.K C) (n : NoAttr X.K C f) (l : fs.lookup f = some v)
    (h : ∀ u s', Inv X pins σ H s' → RelV v u → Q u s') : wpAny (model X.prog X.w) A (getAttr (.ref a) f b) Q E s := by
  obtain ⟨mA, O, r, _, _, _⟩ := ins_get I.hok e
  obtain ⟨u, hu, ru⟩ := RelO.some_of (v := v) (o := mA f) (by rw [← l]; exact r f)
  exact get_map I.kIn O (c.get f) c.hd n hu (handed_of ru) (h u _ (I.tok _) ru)
theorem getmeth_ok {m : Str} {g : Addr} {pl : Sem Bool} {Q : Value × List Value → Shared → Prop} (I : Inv X pins σ H s) (e : H a = some (.ins C dx fs)) (c : Cls X.K C) (k : Meth X.K C m g) (l : fs.lookup m = none)
    (h : Q (.ref g, [.ref a]) s) : wpAny (model X.prog X.w) A (getMethod (.ref a) m pl) Q E s := by
  obtain ⟨mA, O, r, _, _, _⟩ := ins_get I.hok e
  have hn : mA m = none := RelO.none_of (by rw [← l]; exact r m)
  exact get_meth I.kIn O (c.get m) k.at_ k.fn hn h
theorem setattr_ok {y : V} {u : Value} {Q : Unit → Shared → Prop} (I : Inv X pins σ H s) (e : H a = some (.ins C dx fs)) (c : Cls X.K C) (n : NoAttr X.K C f) (hl : fs.length < 1000) (ry : RelV y u)
    (h : ∀ s', Inv X pins σ (upd H a (.ins C dx (putF f y fs))) s' → Q () s') : wpAny (model X.prog X.w) A (setAttr (.ref a) f u) Q E s := by
  obtain ⟨mA, O, r, wi, _, ho⟩ := ins_get I.hok e
  have hz : (fs.map (·.1)).length ≤ sizeLine := by rw [List.length_map, sizeLine_eq]; omega
  refine set_map I.kIn O c.sa c.po n.taker c.hd wi hz fun h' O' sb => h _ ?_
  have hd : ∃ o, h'.get? dx = some o := let ⟨o, _, _, e', _⟩ := O'.ns; ⟨o, e'⟩
  refine I.write (x := a) (e := dx) (by rw [e]; exact True.intro) (.inr ho) (fun b q hb z => (sb.2 b hb).trans z) hd ?_
  refine ⟨by rw [upd_ne O.ne]; exact ho, ?_, O.ne, O'.obj, _, O'.ns, fun g => ?_, fun g hg => ?_⟩
  · have := length_putF f y fs; omega
  · show RelO ((putF f y fs).lookup g) (if g = f then some u else mA g)
    rw [lookup_putF]
    by_cases q : g = f
    · rw [if_pos q, if_pos q]; exact ry
    · rw [if_neg q, if_neg q]; exact r g
  · by_cases q : g = f
    · rw [q]; exact (keys_putF f y fs).1
    · refine (keys_putF f y fs).2 g (wi g fun z => hg ?_)
      show (if g = f then some u else mA g) = none
      rw [if_neg q]; exact z
theorem Inv.made (I : Inv X pins σ H s) : Inv X pins σ (upd (upd H s.heap.objs.size (.own (s.heap.objs.size + 1))) (s.heap.objs.size + 1) (.ins C s.heap.objs.size []))
    { s with heap := (s.heap.push PySem.W.emptyDict).push (PySem.W.instObj C s.heap.objs.size) } := by
  have e1 : (s.heap.push PySem.W.emptyDict).get? s.heap.objs.size = some PySem.W.emptyDict := Heap.get?_push_size s.heap rfl
  have e2 : ((s.heap.push PySem.W.emptyDict).push (PySem.W.instObj C s.heap.objs.size)).get? (s.heap.objs.size + 1) = some (PySem.W.instObj C s.heap.objs.size) := by
    have := Heap.get?_push_size (s.heap.push PySem.W.emptyDict) (o := PySem.W.instObj C s.heap.objs.size) rfl
    rwa [Heap.size_push] at this
  have e3 : (s.heap.push PySem.W.emptyDict).Ns s.heap.objs.size (fun _ => none) := ⟨PySem.W.emptyDict, #[], _, e1, rfl, (fun e he => absurd he (by simp)), fun _ => rfl⟩
  have I1 := I.laid (a := s.heap.objs.size) (o := .own (s.heap.objs.size + 1)) (h' := s.heap.push PySem.W.emptyDict) (t' := s.toks) (fun b u q => Heap.get?_push_of_some _ q) (Nat.le_refl _) ⟨_, e1⟩
  refine I1.laid (a := s.heap.objs.size + 1) (o := .ins C s.heap.objs.size []) (t' := s.toks) (fun b u q => Heap.get?_push_of_some _ q) (Nat.le_of_eq (Heap.size_push _ _)) ?_
  have ne : s.heap.objs.size ≠ s.heap.objs.size + 1 := Nat.ne_of_lt (Nat.lt_succ_self _)
  refine ⟨by rw [upd_ne ne, upd_same], Nat.zero_le _, ne, e2, fun _ => none, (Heap.Ns1.of_empty e3).at fun o q => Heap.get?_push_of_some _ q, fun _ => True.intro, fun y hy => absurd rfl hy⟩
theorem attr_of {prog : Program} {w : World} {env : Env} {e : Expr} {f : Str} {pos : Pos} {s : Shared} {Q : Value → Shared → Prop} (hb : attributeBase e f env (eval e env) = eval e env)
    (h : wpAny (model prog w) A (eval e env) (fun o s₁ => wpAny (model prog w) A (getAttr o f true) Q E s₁) E s) : wpAny (model prog w) A (eval (.Attribute e f pos) env) Q E s :=
  Attribute_any_ h (by rw [arm_eval_Attribute, hb])
end
def tFld (K : PySem.W.Frag) (ta : TE) (f : Str) : TE := fun σ H Q => ta σ H fun x H1 => ∃ a C dx fs v, x = .ref a ∧ H1 a = some (.ins C dx fs) ∧ Cls K C ∧ NoAttr K C f ∧ fs.lookup f = some v ∧ Q v H1
def tCon (K : PySem.W.Frag) (ta : TE) (f : Str) : TE := fun σ H Q => ta σ H fun x H1 => ∃ a C dx fs v u, x = .ref a ∧ H1 a = some (.ins C dx fs) ∧ Cls K C ∧ Con K C f v u ∧ fs.lookup f = none ∧ Q v H1
def sFld (K : PySem.W.Frag) (ta tv : TE) (f : Str) : TS := fun D σ H => tv σ H fun y H1 => ta σ H1 fun x H2 => ∃ a C dx fs, x = .ref a ∧ H2 a = some (.ins C dx fs) ∧ Cls K C ∧ NoAttr K C f ∧ fs.length < 1000 ∧
  D.nx σ (upd H2 a (.ins C dx (putF f y fs)))
def InOp (X : Cx) (op : Operator) (rd : V → V → Hp → VK → Prop) : Prop :=
  ∀ (pins : List (Addr × Obj)) (s : Shared) (σ : St) (H : Hp) (x y : V) (u v : Value) (Q : VK), Inv X pins σ H s → RelV x u → RelV y v → rd x y H Q → wpAny (model X.prog X.w) X.A (inplaceOp op u v) (EP X pins σ Q) X.xe s
def sFldAug (K : PySem.W.Frag) (ta tv : TE) (rd : V → V → Hp → VK → Prop) (f : Str) : TS := fun D σ H => ta σ H fun x H1 => ∃ a C dx fs v, x = .ref a ∧ H1 a = some (.ins C dx fs) ∧ Cls K C ∧ NoAttr K C f ∧ fs.lookup f = some v ∧
  tv σ H1 fun y H2 => rd v y H2 fun z H3 => ∃ dx' fs', H3 a = some (.ins C dx' fs') ∧ fs'.length < 1000 ∧ D.nx σ (upd H3 a (.ins C dx' (putF f z fs')))
section
variable {X : Cx} {o e value : Expr} {f : Str} {pos pos' tpos : Pos} {ta tv : TE}
theorem pe_fld (he : PE X e ta) (hb : attributeBase e f X.env (eval e X.env) = eval e X.env) : PE X (.Attribute e f pos) (tFld X.K ta f) := by
  intro pins s σ H Q I h
  refine attr_of hb (thn (he pins s σ H _ I h) fun u s1 ⟨x, H1, I1, rx, a, C, dx, fs, v, ex, ea, c, n, l, q⟩ => ?_)
  subst ex
  obtain rfl : u = Value.ref a := rx
  exact getattr_ok I1 ea c n l fun u' s2 I2 ru => ⟨v, H1, I2, ru, q⟩
theorem ps_fld (ha : PE X o ta) (hv : PE X value tv) (hs : swapsWith value (some (.Attribute o f pos')) pos.line X.env = pure false) : PS X (.Assign [.Attribute o f pos'] value pos) (sFld X.K ta tv f) := by
  intro pins s σ H D I h
  refine plainObj_wpAny_Assign_Attribute (thn (hv pins s σ H _ I h) fun u s1 ⟨y, H1, I1, ry, q⟩ => thn (ha pins s1 σ H1 _ I1 q) fun ov s2 ⟨x, H2, I2, rx, a, C, dx, fs, ex, ea, c, n, l, q2⟩ => ?_) hs
  subst ex
  obtain rfl : ov = Value.ref a := rx
  exact setattr_ok I2 ea c n l ry fun s3 I3 => ⟨σ, _, I3, q2⟩
def rAdd : V → V → Hp → VK → Prop := fun x y H Q => ∃ i j, x = .int i ∧ y = .int j ∧ Q (.int (i + j)) H
def rSub : V → V → Hp → VK → Prop := fun x y H Q => ∃ i j, x = .int i ∧ y = .int j ∧ Q (.int (i - j)) H
end
section
variable {X : Cx} {pins : List (Addr × Obj)} {σ : St} {H : Hp} {s : Shared} {A : Around} {E : Value → Shared → Prop} {Q : Value → Shared → Prop} {c : Value} {b : Bool}
inductive TyOf (K : PySem.W.Frag) (H : Hp) : V → Value → Prop where
  | non : TyOf K H .non (.type "NoneType")
  | bl (x : Bool) : TyOf K H (.bl x) (.type "bool")
  | int (i : Int) : TyOf K H (.int i) (.type "int")
  | str (x : Str) : TyOf K H (.str x) (.type "str")
  | flt (x : UInt64) : TyOf K H (.flt x) (.type "float")
  | lst {a : Addr} {xs : List V} (e : H a = some (.lst xs)) : TyOf K H (.ref a) (.type "list")
  | frz {a : Addr} {o : Obj} {xs : List V} (e : H a = some (.frz o (.lst xs))) : TyOf K H (.ref a) (.type "list")
  | tup {a : Addr} {xs : List V} (e : H a = some (.tup xs)) : TyOf K H (.ref a) (.type "tuple")
  | dK {a : Addr} {kvs : List (Key × V)} (e : H a = some (.dK kvs)) : TyOf K H (.ref a) (.type "dict")
  | dT {a : Addr} {kvs : List (List Key × V)} (e : H a = some (.dT kvs)) : TyOf K H (.ref a) (.type "dict")
  | ins {a C dx : Addr} {fs : List (Str × V)} (e : H a = some (.ins C dx fs)) (cl : Cls K C) (ha : PySem.W.findIn K (.ref C) "__class__" = some (some (.builtin "object.__class__")))
      (hn : PySem.W.specialIn K (.builtin "object.__class__") "__get__" = some (some (.builtin "getset_descriptor.__get__"))) (htk : PySem.W.takesIn K (.builtin "object.__class__") = some true)
      (hm : PySem.W.mroIn K C (.type "object") = some true) : TyOf K H (.ref a) (.ref C)
theorem isinst_ok {x : V} {u t : Value} (I : Inv X pins σ H s) (rx : RelV x u) (ty : TyOf X.K H x t) (e : PySem.W.kitOne X.K t c = some b) (h : ∀ tk, Q (.bool b) { s with toks := tk }) :
    wpAny (model X.prog X.w) A (call (.builtin "isinstance") [u, c]) Q E s := by
  cases ty with
  | non => cases (show u = Value.none from rx); exact PySem.W.kia_one PySem.W.kitx_none I.kIn True.intro e (fun z => nomatch z) h
  | bl y => cases (show u = Value.bool y from rx); exact PySem.W.kia_one PySem.W.kitx_bool I.kIn True.intro e (fun z => nomatch z) h
  | int i => obtain ⟨t, q⟩ := (show ∃ t, u = Value.int i t from rx); cases q; exact PySem.W.kia_one PySem.W.kitx_int I.kIn True.intro e (fun z => nomatch z) h
  | str y => obtain ⟨t, q⟩ := (show ∃ t, u = Value.str y t from rx); cases q; exact PySem.W.kia_one PySem.W.kitx_str I.kIn True.intro e (fun z => nomatch z) h
  | flt y => obtain ⟨t, q⟩ := (show ∃ t, u = Value.float y t from rx); cases q; exact PySem.W.kia_one PySem.W.kitx_float I.kIn True.intro e (fun z => nomatch z) h
  | @lst a xs ea =>
    cases (show u = Value.ref a from rx)
    obtain ⟨_, _, n, _, h1⟩ := (show ObjOk X.prog X.w H s.heap a (.lst xs) from I.hok a _ ea)
    exact PySem.W.kia_one PySem.W.kitx_list I.kIn ⟨_, h1, rfl⟩ e (fun z => nomatch z) h
  | @frz a ob xs ea =>
    cases (show u = Value.ref a from rx)
    obtain ⟨_, _, _, n, _, h1⟩ := (show ObjOk X.prog X.w H s.heap a (.frz ob (.lst xs)) from I.hok a _ ea)
    exact PySem.W.kia_one PySem.W.kitx_list I.kIn ⟨_, h1, rfl⟩ e (fun z => nomatch z) h
  | @tup a xs ea =>
    cases (show u = Value.ref a from rx)
    obtain ⟨_, _, _, p⟩ := (show ObjOk X.prog X.w H s.heap a (.tup xs) from I.hok a _ ea)
    obtain ⟨o, h1, h2, _⟩ := p
    exact PySem.W.kia_one PySem.W.kitx_tuple I.kIn ⟨o, h1, h2⟩ e (fun z => nomatch z) h
  | @dK a kvs ea =>
    cases (show u = Value.ref a from rx)
    obtain ⟨_, _, vs, _, p⟩ := (show ObjOk X.prog X.w H s.heap a (.dK kvs) from I.hok a _ ea)
    obtain ⟨o, es, ep, h1, h2, _⟩ := p
    exact PySem.W.kia_one PySem.W.kitx_dict I.kIn ⟨o, h1, h2.1⟩ e (fun z => nomatch z) h
  | @dT a kvs ea =>
    cases (show u = Value.ref a from rx)
    obtain ⟨_, _, xs, _, o, es, ep, h1, h2, _⟩ := (show ObjOk X.prog X.w H s.heap a (.dT kvs) from I.hok a _ ea)
    exact PySem.W.kia_one PySem.W.kitx_dict I.kIn ⟨o, h1, h2.1⟩ e (fun z => nomatch z) h
  | @ins a C dx fs ea cl ha hn htk hm =>
    cases (show u = Value.ref a from rx)
    obtain ⟨mA, O, _⟩ := ins_get I.hok ea
    obtain ⟨od, J, _⟩ := O.look
    exact PySem.W.kia_one (PySem.W.kitx_own (cl.get _) cl.hd ha hn htk hm) I.kIn J e (fun z => nomatch z) h
end
end L2
namespace L2
open PySem PySem.Spec PyProof.Rows
structure Room (k : Nat) (A : Around) : Prop where
  hd : A.handled = none
  dp : A.depth + 3 * k + 5 < recursionLimit
  un : A.units + 16 * k + 200 < cLine
theorem Room.mono {j k : Nat} {A : Around} (r : Room k A) (h : j ≤ k) : Room j A := ⟨r.hd, by have := r.dp; omega, by have := r.un; omega⟩
theorem Room.deeper {k : Nat} {A : Around} (r : Room (k + 1) A) (env : Env) : Room k (A.deeper env) :=
  ⟨r.hd, by have := r.dp; show A.depth + 1 + 3 * k + 5 < _; omega, by have := r.un; show A.units + 3 + 16 * k + 200 < _; omega⟩
theorem Room.in1 {k : Nat} {A : Around} (r : Room (k + 1) A) : Room k A.in1 :=
  ⟨r.hd, by have := r.dp; show A.depth + 3 * k + 5 < _; omega, by have := r.un; show A.units + 1 + 16 * k + 200 < _; omega⟩
theorem make_depth {A : Around} {C : Addr} {us : List Value} {kw : List (Str × Value)} : (A.under (.builtin "type.__call__" ⟨.ref C :: us, kw⟩)).depth = A.depth + 1 := by
  first | rfl | simp [Around.under, Code.weight, Code.isCreation, Code.isGuard, Code.isCaller, Code.frames, Code.isFrame, guardIds]
theorem make_units {A : Around} {C : Addr} {us : List Value} {kw : List (Str × Value)} : (A.under (.builtin "type.__call__" ⟨.ref C :: us, kw⟩)).units = A.units + 1 := by
  first | rfl | simp [Around.under, Code.cUnits, Code.frames, Code.isFrame]
theorem Room.make {k : Nat} {A : Around} (r : Room (k + 1) A) (C : Addr) (us : List Value) (kw : List (Str × Value)) : Room k (A.under (.builtin "type.__call__" ⟨.ref C :: us, kw⟩)) :=
  ⟨r.hd, by have := r.dp; rw [make_depth]; omega, by have := r.un; rw [make_units]; omega⟩
theorem Room.depth {k : Nat} {A : Around} (r : Room k A) : A.depth < recursionLimit := by have := r.dp; omega
theorem Room.units {k : Nat} {A : Around} (r : Room k A) : A.units + 64 < cLine := by have := r.un; omega
theorem Room.units0 {k : Nat} {A : Around} (r : Room k A) : A.units < cLine := by have := r.un; omega
def tNil : TA := fun _ H Q => Q [] H
def tCons (ta : TE) (tr : TA) : TA := fun σ H Q => ta σ H fun x H1 => tr σ H1 fun xs H2 => Q (x :: xs) H2
section
variable {X : Cx} {e : Expr} {es : List Expr} {te : TE} {t : TA} {pos : Pos}
theorem pa_nil : PA X [] tNil := fun _ _ _ _ H Q I h => Calls.spliced_nil ⟨[], H, I, .nil, h⟩
theorem pa_cons (ha : PE X e te) (hr : PA X es t) (hs : starEach (e :: es) X.env = (false, eval e X.env) :: starEach es X.env := by rfl) : PA X (e :: es) (tCons te t) := by
  intro pos pins s σ H Q I h
  rw [hs]
  show wpAny _ _ (spliced ((false, eval e X.env) :: backTo pos (starEach es X.env))) _ _ s
  refine Calls.spliced_cons (thn (ha pins s σ H _ I h) fun u s1 ⟨x, H1, I1, r1, q1⟩ => ?_)
  exact thn (hr pos pins s1 σ H1 _ I1 q1) fun us s2 ⟨xs, H2, I2, r2, q2⟩ => ⟨x :: xs, H2, I2, .cons r1 r2, q2⟩
def tTup (t : TA) : TE := fun σ H Q => t σ H fun xs H1 => xs.length ≤ sizeLine ∧ ∀ p, H1 p = none → Q (.ref p) (upd H1 p (.tup xs))
def tLst (t : TA) : TE := fun σ H Q => t σ H fun xs H1 => xs.length ≤ sizeLine ∧ ∀ p, H1 p = none → Q (.ref p) (upd H1 p (.lst xs))
theorem pe_tup {x1} (h : PA X es t) : PE X (.Tuple es x1 pos) (tTup t) := by
  intro pins s σ H Q I hq
  refine wpAny_Tuple_spliced (thn (h pos pins s σ H _ I hq) fun us s1 ⟨xs, H1, I1, r, z, q⟩ => ⟨by rw [← r.length]; exact z, ?_⟩)
  have hf : H1 s1.heap.objs.size = none := I1.hok.fresh (Nat.le_refl _)
  refine ⟨.ref s1.heap.objs.size, upd H1 s1.heap.objs.size (.tup xs), I1.laid (t' := s1.toks) (fun b u e => Heap.get?_push_of_some _ e) (Nat.le_refl _) ?_, rfl, q _ hf⟩
  exact ⟨z, us, r, ⟨_, Heap.get?_push_size _ rfl, rfl, _, rfl⟩⟩
theorem pe_lst (h : PA X es t) : PE X (.List es pos) (tLst t) := by
  intro pins s σ H Q I hq
  refine wpAny_List_spliced (thn (h pos pins s σ H _ I hq) fun us s1 ⟨xs, H1, I1, r, z, q⟩ => ⟨by rw [← r.length]; exact z, ?_⟩)
  have hf : H1 s1.heap.objs.size = none := I1.hok.fresh (Nat.le_refl _)
  refine ⟨.ref s1.heap.objs.size, upd H1 s1.heap.objs.size (.lst xs), I1.laid (t' := s1.toks) (fun b u e => Heap.get?_push_of_some _ e) (Nat.le_refl _) ?_, rfl, q _ hf⟩
  exact ⟨z, us, 0, r, Heap.get?_push_size _ rfl⟩
end
abbrev Sp := List V → Hp → VK → XK → Prop
abbrev CXT := List Env → Hp → Shared → XK → Value → Shared → Prop
structure Env0 (P : Program) (w : World) (K : PySem.W.Frag) (mg : Str → Option Value) (base : Heap) (A : Around) (outer : List Env) (s : Shared) (H : Hp) : Prop where
  frames : A.frames = some outer
  mod : Mod K mg base
  bs : ∀ b o, base.get? b = some o → s.heap.get? b = some o ∧ H b = none
  bsz : base.objs.size ≤ s.heap.objs.size
  funs : s.heap.FunFrames base outer
  frf : ∀ b ∈ frs outer, H b = none
  hok : HOk P w H s.heap
  bare : AllBare s.gens
def CE (outer : List Env) (P : Program) (w : World) (H : Hp) (s : Shared) (Q : VK) (u : Value) (s' : Shared) : Prop :=
  ∃ v H', s'.os = s.os ∧ AllBare s'.gens ∧ Un (frs outer) [] H H' s.heap s'.heap ∧ HOk P w H' s'.heap ∧ RelV v u ∧ Q v H'
def CR (CX : CXT) (outer : List Env) (P : Program) (w : World) (H : Hp) (s : Shared) (Q : VK) (E : XK) (r : Result) (s' : Shared) : Prop :=
  match r with
  | .ok (.ret u) => CE outer P w H s Q u s'
  | .ok _ => False
  | .error e => CX outer H s E e s'
structure FnOk (P : Program) (w : World) (K : PySem.W.Frag) (mg : Str → Option Value) (base : Heap) (CX : CXT) (k : Nat) (f : Addr) (fd : FuncData) (ps : List Str) (sp : Sp) : Prop where
  len : ∀ vs H Q E, sp vs H Q E → vs.length = ps.length
  run : ∀ (A : Around) (outer : List Env) (s : Shared) (H : Hp) (args : Args) (us : List Value) (vs : List V) (Q : VK) (E : XK), Room k A → Env0 P w K mg base A outer s H → BindsTo s fd args (ps.zip us) → Vals vs us → sp vs H Q E →
    codeAny (model P w) A (.call (.ref f) args) (CR CX outer P w H s Q E) s
theorem FnOk.mono {P : Program} {w : World} {K : PySem.W.Frag} {mg : Str → Option Value} {base : Heap} {CX : CXT} {j k : Nat} {f : Addr} {fd : FuncData} {ps : List Str} {sp : Sp} (F : FnOk P w K mg base CX j f fd ps sp) (h : j ≤ k) :
    FnOk P w K mg base CX k f fd ps sp := ⟨F.len, fun A outer s H args us vs Q E hr => F.run A outer s H args us vs Q E (hr.mono h)⟩
theorem Env0.make {P : Program} {w : World} {K : PySem.W.Frag} {mg : Str → Option Value} {base : Heap} {A : Around} {outer : List Env} {s : Shared} {H : Hp} (e : Env0 P w K mg base A outer s H) (C : Addr) (us : List Value) (kw : List (Str × Value)) :
    Env0 P w K mg base (A.under (.builtin "type.__call__" ⟨.ref C :: us, kw⟩)) outer s H := ⟨by first | exact e.frames | (simpa [Around.under, Code.envs, Code.isFrame, pushEnvs] using e.frames), e.mod, e.bs, e.bsz, e.funs, e.frf, e.hok, e.bare⟩
theorem Env0.in1 {P : Program} {w : World} {K : PySem.W.Frag} {mg : Str → Option Value} {base : Heap} {A : Around} {outer : List Env} {s : Shared} {H : Hp} (e : Env0 P w K mg base A outer s H) :
    Env0 P w K mg base A.in1 outer s H := ⟨e.frames, e.mod, e.bs, e.bsz, e.funs, e.frf, e.hok, e.bare⟩
section
variable {X : Cx} {pins : List (Addr × Obj)} {σ : St} {H : Hp} {s s' : Shared}
theorem Inv.env0 (I : Inv X pins σ H s) : Env0 X.prog X.w X.K X.mg X.base X.A X.stack s H :=
  ⟨I.ok.frames, I.ok.mod, I.bs, Nat.le_trans I.ok.bsz I.sz, I.stack, I.stkFree, I.hok, I.bare⟩
theorem Inv.after {Q : VK} {u : Value} (I : Inv X pins σ H s) (h : CE X.stack X.prog X.w H s Q u s') : EP X pins σ Q u s' := by
  obtain ⟨v, H', os, bare, un, hok, r, q⟩ := h
  obtain ⟨hh, g, d, t, os'⟩ := s'
  obtain rfl : os' = s.os := os
  exact ⟨v, H', I.call (h' := hh) (g' := g) (d' := d) (t' := t) (ch := []) un hok bare (fun b z => absurd z (by simp)), r, q⟩
end
def tCall (sp : Sp) (dvs : List V) (E : XK) (t : TA) : TE := fun σ H Q => t σ H fun vs H1 => sp (vs ++ dvs) H1 Q E
def tMeth (C : Addr) (m : Str) (sp : Sp) (dvs : List V) (E : XK) (ta : TE) (t : TA) : TE := fun σ H Q => ta σ H fun x H1 => ∃ a dx fs, x = .ref a ∧ H1 a = some (.ins C dx fs) ∧ fs.lookup m = none ∧
  t σ H1 fun vs H2 => sp (x :: (vs ++ dvs)) H2 Q E
def tMake (C : Addr) (sp : Sp) (dvs : List V) (E : XK) (t : TA) : TE := fun σ H Q => t σ H fun vs H1 => ∀ x dx, H1 x = none → H1 dx = none → dx ≠ x →
  sp (.ref x :: (vs ++ dvs)) (upd (upd H1 dx (.own x)) x (.ins C dx [])) (fun v H2 => v = .non ∧ Q (.ref x) H2) E
def Binds (K : PySem.W.Frag) (fd : FuncData) (ps : List Str) (ds : List Value) : Prop :=
  ∀ (s : Shared) (us : List Value), K.In s.heap → (us ++ ds).length = ps.length → BindsTo s fd ⟨us, []⟩ (ps.zip (us ++ ds))
theorem Binds.all {K : PySem.W.Frag} {fd : FuncData} {ps : List Str} (h : ∀ us : List Value, us.length = ps.length → bindArgs fd ⟨us, []⟩ = pure (ps.zip us)) : Binds K fd ps [] := fun s us _ hl => by
  rw [List.append_nil] at hl ⊢
  exact .of_eq (h us hl)
def Passes (CX : CXT) (X : Cx) (E : XK) : Prop := ∀ (pins : List (Addr × Obj)) (σ : St) (H : Hp) (s : Shared) (e : Value) (s' : Shared), Inv X pins σ H s → CX X.stack H s E e s' → X.xe e s'
section
variable {X : Cx} {CX : CXT} {k : Nat} {f C : Addr} {fd : FuncData} {ps : List Str} {sp : Sp} {dvs : List V} {ds : List Value} {E : XK} {x m : Str} {p pos apos : Pos} {e o : Expr} {es : List Expr} {ta : TE} {t : TA}
structure Mk (K : PySem.W.Frag) (C f : Addr) : Prop where
  makes : PySem.W.makesIn K C = true
  init : PySem.W.findIn K (.ref C) "__init__" = some (some (.ref f))
  fn : PySem.W.isFn K (.ref f) = true
  kp : PySem.W.keepIn K (.ref C) = true
end
def PK (X : Cx) (kws : List Keyword) (t : TA) : Prop :=
  ∀ (pos : Pos) (pins : List (Addr × Obj)) (s : Shared) (σ : St) (H : Hp) (Q : List V → Hp → Prop), Inv X pins σ H s → t σ H Q → wpAny (model X.prog X.w) X.A (evalAll ((backToKw pos (keywordEach kws X.env)).map (·.2))) (AP X pins σ Q) X.xe s
section
variable {X : Cx} {CX : CXT} {k : Nat} {f C : Addr} {fd : FuncData} {ps ks : List Str} {sp : Sp} {E : XK} {x m : Str} {p pos apos kpos : Pos} {e o : Expr} {es : List Expr} {kws : List Keyword} {te ta : TE} {t tk : TA} {nm : Option Str}
structure KBinds (K : PySem.W.Frag) (fd : FuncData) (ps ks : List Str) (g : List Value → List Value → List Value) (gV : List V → List V → List V) : Prop where
  to : ∀ (s : Shared) (us ws : List Value), K.In s.heap → (g us ws).length = ps.length → BindsTo s fd ⟨us, ks.zip ws⟩ (ps.zip (g us ws))
  rel : ∀ {vs : List V} {us : List Value} {zs : List V} {ws : List Value}, Vals vs us → Vals zs ws → Vals (gV vs zs) (g us ws)
def tCallK (sp : Sp) (gV : List V → List V → List V) (E : XK) (t tk : TA) : TE := fun σ H Q => t σ H fun vs H1 => tk σ H1 fun zs H2 => sp (gV vs zs) H2 Q E
variable {g : List Value → List Value → List Value} {gV : List V → List V → List V}
end
structure FnScope (N P : List Str) (sc : Scope) : Prop where
  kind : sc.kind = .function
  co : sc.isCoroutine = false
  gen : sc.isGenerator = false
  nd : N.Nodup
  pre : N.take P.length = P
  par : ∀ x ∈ P, sc.names.lookup x = some .local ∨ sc.names.lookup x = some .cell
  nofree : ∀ y ∈ sc.names, y.2 ≠ .free
theorem bindL_out {kindOf : Str → Option NameKind} {x : Str} : ∀ {binds : List (Str × Value)} {m : Str → Option Value}, (∀ v, (x, v) ∉ binds) → bindL kindOf binds m x = m x
  | [], _, _ => rfl
  | (n, v) :: r, m, h => by
    unfold bindL
    rw [bindL_out fun w hw => h w (List.mem_cons_of_mem _ hw)]
    split
    · have : x ≠ n := by rintro rfl; exact h v List.mem_cons_self
      simp [this]
    · rfl
theorem bindC_out {kindOf : Str → Option NameKind} {x : Str} : ∀ {binds : List (Str × Value)} {m : Str → Option Value}, (∀ v, (x, v) ∉ binds) → bindC kindOf binds m x = m x
  | [], _, _ => rfl
  | (n, v) :: r, m, h => by
    unfold bindC
    rw [bindC_out fun w hw => h w (List.mem_cons_of_mem _ hw)]
    split
    · rfl
    · have : x ≠ n := by rintro rfl; exact h v List.mem_cons_self
      simp [this]
theorem bindL_get {kindOf : Str → Option NameKind} {x : Str} {v : Value} : ∀ {P : List Str} {vs : List Value} {i : Nat} {m : Str → Option Value}, P.Nodup → P[i]? = some x → vs[i]? = some v → kindOf x = some .local →
    bindL kindOf (P.zip vs) m x = some v
  | [], _, _, _, _, h, _, _ => by simp at h
  | _ :: _, [], _, _, _, _, h, _ => by simp at h
  | p :: P, w :: vs, 0, m, nd, h1, h2, hk => by
    simp at h1 h2; subst h1; subst h2
    show bindL kindOf ((p, w) :: P.zip vs) m p = _
    unfold bindL
    rw [bindL_out fun v hv => (List.nodup_cons.mp nd).1 (List.of_mem_zip hv).1, if_pos hk]
    simp
  | p :: P, w :: vs, i + 1, m, nd, h1, h2, hk => by
    show bindL kindOf ((p, w) :: P.zip vs) m x = _
    unfold bindL
    exact bindL_get (i := i) (List.nodup_cons.mp nd).2 (by simpa using h1) (by simpa using h2) hk
theorem bindC_get {kindOf : Str → Option NameKind} {x : Str} {v : Value} : ∀ {P : List Str} {vs : List Value} {i : Nat} {m : Str → Option Value}, P.Nodup → P[i]? = some x → vs[i]? = some v → kindOf x ≠ some .local →
    bindC kindOf (P.zip vs) m x = some v
  | [], _, _, _, _, h, _, _ => by simp at h
  | _ :: _, [], _, _, _, _, h, _ => by simp at h
  | p :: P, w :: vs, 0, m, nd, h1, h2, hk => by
    simp at h1 h2; subst h1; subst h2
    show bindC kindOf ((p, w) :: P.zip vs) m p = _
    unfold bindC
    rw [bindC_out fun v hv => (List.nodup_cons.mp nd).1 (List.of_mem_zip hv).1, if_neg hk]
    simp
  | p :: P, w :: vs, i + 1, m, nd, h1, h2, hk => by
    show bindC kindOf ((p, w) :: P.zip vs) m x = _
    unfold bindC
    exact bindC_get (i := i) (List.nodup_cons.mp nd).2 (by simpa using h1) (by simpa using h2) hk
def start (N : List Str) (vs : List V) : St := vs.map some ++ List.replicate (N.length - vs.length) none
def cxOf (CX : CXT) (P : Program) (w : World) (K : PySem.W.Frag) (mg : Str → Option Value) (base : Heap) (N : List Str) (qual : Str) (scope : Scope) (f : Addr) (cd : Value) (A : Around) (outer : List Env) (s : Shared) (H : Hp) (E : XK) : Cx where
  prog := P
  w := w
  K := K
  mg := mg
  base := base
  A := A.deeper (envOfC qual scope s.heap.objs.size f cd)
  N := N
  s₀ := s
  H₀ := H
  env := envOfC qual scope s.heap.objs.size f cd
  outer := outer
  stack := envOfC qual scope s.heap.objs.size f cd :: outer
  ex := []
  calm := true
  fn := fun _ => true
  pn := []
  xe := fun e s' => wpAny (model P w) (A.deeper (envOfC qual scope s.heap.objs.size f cd)) (leaving (envOfC qual scope s.heap.objs.size f cd) e) (fun _ s'' => CX outer H s E e s'') (fun e' s'' => CX outer H s E e' s'') s'
theorem cell_has {sc : Scope} {n : Nat} {x : Str} (h : sc.names.lookup x = some .cell) : ∃ c, (cellsFrom n sc.names []).lookup x = some c := by
  have q := PySem.W.cellsFrom_some sc.names n [] (.inl h)
  exact Option.isSome_iff_exists.mp q
theorem inv_start {CX : CXT} {P : Program} {w : World} {K : PySem.W.Frag} {mg : Str → Option Value} {base : Heap} {N ps : List Str} {qual : Str} {scope : Scope} {f : Addr} {cd : Value} {A : Around} {outer : List Env} {s s1 : Shared} {H : Hp} {E : XK} {us : List Value} {vs : List V}
    (S : FnScope N ps scope) (hd : A.handled = none) (e0 : Env0 P w K mg base A outer s H) (hl : vs.length = ps.length) (r : Vals vs us)
    (x : InCallC s s.heap.objs.size (bindL (envOfC qual scope s.heap.objs.size f cd).kindOf (ps.zip us) fun _ => none) (cellsFrom (s.heap.objs.size + 1) scope.names []) (bindC (envOfC qual scope s.heap.objs.size f cd).kindOf (ps.zip us) fun _ => none) s1) :
    Inv (cxOf CX P w K mg base N qual scope f cd A outer s H E) [] (start N vs) H s1 := by
  have hpl : ps.length ≤ N.length := by have := congrArg List.length S.pre; rw [List.length_take] at this; omega
  obtain ⟨h1, tk, rfl, hk⟩ := x.done
  have noA : ∀ b : Addr, b ∉ (cxOf CX P w K mg base N qual scope f cd A outer s H E).ex := fun b z => absurd (show b ∈ ([] : List Addr) from z) (by simp)
  refine ⟨⟨e0.mod, S.kind, rfl, rfl, Nat.le_refl _, fun y z c h1 h2 => ?_, fun y hy => ?_, fun y c _ h => ?_, fun _ => hd, Around.frames_deeper e0.frames, .inr ⟨rfl, rfl⟩, fun b z => absurd z (noA b), e0.bs, e0.bsz, fun b _ _ => noA b, fun b z => absurd z (noA b), e0.funs, e0.frf⟩,
    rfl, e0.bare, Un.kept hk, ⟨_, x.toInCall.ns, fun i y v h1 h2 h3 => ?_⟩, fun y c h => ⟨_, x.cell y c h⟩, e0.hok.fresh (Nat.le_refl _), fun y c h => ?_, fun p hp => absurd (show p ∈ ([] : List (Addr × Obj)) from hp) (by simp), e0.hok.kept hk, ?_⟩
  · exact name_of_addr x.apart (PySem.mem_of_lookup h1) (PySem.mem_of_lookup h2)
  · have hy : scope.names.lookup y = some .cell ∨ scope.names.lookup y = some .free := hy
    rcases hy with hy | hy
    · exact cell_has hy
    · exact absurd rfl (S.nofree _ (PySem.mem_of_lookup hy))
  · exact Nat.le_of_lt (x.above y c (PySem.mem_of_lookup h))
  · have hi : i < vs.length := by
      unfold start at h2
      by_cases hi : i < vs.length
      · exact hi
      · rw [List.getElem?_append_right (by simpa using hi)] at h2
        rw [List.getElem?_replicate] at h2
        split at h2 <;> cases h2
    have ha : vs[i]? = some v := by
      unfold start at h2
      rw [List.getElem?_append_left (by simpa using hi), List.getElem?_map] at h2
      cases e : vs[i]? with
      | none => rw [e] at h2; cases h2
      | some a => rw [e] at h2; cases h2; rfl
    obtain ⟨u, hu, rv⟩ := r.get ha
    have hp : ps[i]? = some y := by
      rw [← S.pre, List.getElem?_take_of_lt (by omega)]; exact h1
    have ndP : ps.Nodup := by rw [← S.pre]; exact S.nd.sublist (List.take_sublist _ _)
    refine ⟨u, rv, ?_⟩
    rcases S.par y (List.mem_of_getElem? hp) with k | k
    · exact .inl ⟨k, bindL_get ndP hp hu k⟩
    · obtain ⟨c, e⟩ := cell_has (n := s.heap.objs.size + 1) k
      refine .inr ⟨.inl k, c, e, ?_⟩
      have q := x.cell y c e
      rw [bindC_get ndP hp hu (by show scope.names.lookup y ≠ _; rw [k]; decide)] at q
      exact q
  · exact e0.hok.fresh (Nat.le_of_lt (x.above y c (PySem.mem_of_lookup h)))
  · unfold start
    show _ = N.length
    rw [List.length_append, List.length_map, List.length_replicate]
    omega
theorem fn_of {CX : CXT} {P : Program} {w : World} {K : PySem.W.Frag} {mg : Str → Option Value} {base : Heap} {k : Nat} {f : Addr} {name qual : Str} {params : Arguments} {body : List Stmt} {scope : Scope} {dV kV doc pm cdv ct oc : Value} {an od : Option Addr}
    {osl : Array (Option Value)} {N ps : List Str} {sp : Sp} (lk : K.lookup f = some ⟨oc, od, .func (PySem.W.fnOf name qual params body scope dV kV doc pm an cdv ct), osl⟩) (hcd : PySem.W.codeIn K cdv qual = true) (S : FnScope N ps scope)
    (len : ∀ vs H Q E, sp vs H Q E → vs.length = ps.length)
    (hbody : ∀ (A : Around) (outer : List Env) (s : Shared) (H : Hp) (vs : List V) (Q : VK) (E : XK), Room k (A.deeper (envOfC qual scope s.heap.objs.size f cdv)) → sp vs H Q E →
      ∃ t, PSs (cxOf CX P w K mg base N qual scope f cdv A outer s H E) body t ∧ t { nx := fun _ H' => Q .non H', rt := Q } (start N vs) H) :
    FnOk P w K mg base CX (k + 1) f (PySem.W.fnOf name qual params body scope dV kV doc pm an cdv ct) ps sp := by
  refine ⟨len, fun A outer s H args us vs Q E hr e0 hb r hsp => ?_⟩
  have hl := len _ _ _ _ hsp
  have KX : K.In s.heap := e0.mod.kin.keeps fun b o e => (e0.bs b o e).1
  have lim : s.heap.NoLimit := e0.mod.nolimit.keeps fun b o e => (e0.bs b o e).1
  have hkind : ∀ y ∈ ps.zip us, scope.names.lookup y.1 = some .local ∨ (scope.names.lookup y.1 = some .cell ∧ ((cellsFrom (s.heap.objs.size + 1) scope.names []).lookup y.1).isSome = true) := fun ⟨n, v⟩ hy => by
    rcases S.par n (List.of_mem_zip hy).1 with q | q
    · exact .inl q
    · exact .inr ⟨q, PySem.W.cellsFrom_some _ _ _ (.inl q)⟩
  refine codeAny_call_function hr.depth (KX _ _ lk) rfl S.co S.gen rfl (PySem.W.codeRec_of KX hcd) (hb _ _ _ _ ?_)
  refine wpAny_newFunctionEnv_cells S.kind hkind fun env he s1 x => ?_
  subst he
  refine ⟨lim.keeps x.toInCall.keep, codeAny_func ?_⟩
  obtain ⟨t, ht, hq⟩ := hbody A outer s H vs Q E (hr.deeper _) hsp
  have I : Inv (cxOf CX P w K mg base N qual scope f cdv A outer s H E) [] (start N vs) H s1 := inv_start S hr.hd e0 hl r x
  refine wpAny_mono (ht [] s1 (start N vs) H _ I hq) (fun fl s' hs => ?_) fun e s' hs => hs
  have fin : ∀ {σ' : St} {H' : Hp} {v : V} {u : Value}, Inv (cxOf CX P w K mg base N qual scope f cdv A outer s H E) [] σ' H' s' → RelV v u → Q v H' → CE outer P w H s Q u s' :=
    fun {σ' H' v u} J rv q => ⟨v, H', J.os, J.bare, J.base, J.hok, rv, q⟩
  cases fl with
  | ret u =>
    obtain ⟨v, σ', H', J, rv, q⟩ := hs
    exact fin J rv q
  | next =>
    obtain ⟨σ', H', J, q⟩ := hs
    exact fin (v := V.non) (u := Value.none) J rfl q
  | brk =>
    obtain ⟨_, _, _, q⟩ := hs
    exact False.elim q
  | cont =>
    obtain ⟨_, _, _, q⟩ := hs
    exact False.elim q
end L2
namespace L2
open PySem PySem.Spec PyProof.Rows
section
variable {X : Cx} {x : Str} {p pos : Pos} {e : Expr} {es : List Expr} {t : TA} {id T : String} {r : List V → Hp → VK → Prop}
def tCB (r : List V → Hp → VK → Prop) (t : TA) : TE := fun σ H Q => t σ H fun vs H1 => r vs H1 Q
theorem pe_callB (hc : CallR X (.builtin id) r) (hg : Gl X x) (hm : X.mg x = none) (hv : bootBuiltins x = some (.builtin id)) (ha : PA X (e :: es) t) (hn : x ≠ "__name__" := by decide) (hdb : (x == ("__debug__" : Str)) = false := by decide)
    (he : starEach (e :: es) X.env = (false, eval e X.env) :: starEach es X.env := by rfl) (hpl : (backTo pos (starEach es X.env)).any (·.1) = false := by rfl) : PE X (.Call (.Name x p) (e :: es) [] pos) (tCB r t) := by
  intro pins s σ H Q I h
  refine wpAny_Call_Name_kw (ld_blt I hg hm hv ?_ hn hdb)
  exact PyProof.Rows.callWith_builtin1 (thn (ha pos pins s σ H _ I h) fun us s1 ⟨vs, H1, I1, r1, q1⟩ => hc pins s1 σ H1 vs us Q I1 r1 q1) he hpl
theorem pe_callTy (hc : CallR X (.type T) r) (hg : Gl X x) (hm : X.mg x = none) (hv : bootBuiltins x = some (.type T)) (ha : PA X (e :: es) t) (hn : x ≠ "__name__" := by decide) (hdb : (x == ("__debug__" : Str)) = false := by decide)
    (he : starEach (e :: es) X.env = (false, eval e X.env) :: starEach es X.env := by rfl) (hpl : (backTo pos (starEach es X.env)).any (·.1) = false := by rfl) : PE X (.Call (.Name x p) (e :: es) [] pos) (tCB r t) := by
  intro pins s σ H Q I h
  refine wpAny_Call_Name_kw (ld_blt I hg hm hv ?_ hn hdb)
  exact PyProof.Rows.callWith_type1 (thn (ha pos pins s σ H _ I h) fun us s1 ⟨vs, H1, I1, r1, q1⟩ => hc pins s1 σ H1 vs us Q I1 r1 q1) he hpl
end
end L2
namespace HT
open PySem PyProof.Rows
def lexLt : List Int → List Int → Bool
  | [], [] => false
  | [], _ :: _ => true
  | _ :: _, [] => false
  | x :: xs, y :: ys => if x = y then lexLt xs ys else decide (x < y)
theorem lexLt_cons (x y : Int) (xs ys : List Int) : lexLt (x :: xs) (y :: ys) = if x = y then lexLt xs ys else decide (x < y) := rfl
theorem lexLt_nil_nil : lexLt [] [] = false := rfl
theorem lexLt_nil_cons (y : Int) (ys : List Int) : lexLt [] (y :: ys) = true := rfl
theorem lexLt_cons_nil (x : Int) (xs : List Int) : lexLt (x :: xs) [] = false := rfl
theorem eqAt_int (A : Around) (s : Shared) (a : Int) (t : Tok) (c : Int) (u : Tok) : ∃ e, SeqAt.EqAt A s (.int a t) (.int c u) e ∧ (e = true ↔ a = c) :=
  ⟨(a == c), SeqAt.EqAt.int_int a t c u, by simp⟩
section
open PySem.SeqAt
open PySem.AutoSeq1 (wpAny_loadPart')
open PySem.MeetsSeq PySem.MeetsSeq2 PySem.MeetsSeq3
end
section
variable {prog : Program} {w : World} {A : Around} {E : Value → Shared → Prop} {s : Shared}
theorem cat_tup {t b : Addr} {vs ws : List Value} {Q : Value → Shared → Prop} (ht : IsTup s.heap t vs.toArray) (hb : IsTup s.heap b ws.toArray) (hv : vs ≠ [])
    (h1 : ws = [] → Q (.ref t) s) (h2 : ws ≠ [] → Q (.ref s.heap.objs.size) { s with heap := s.heap.push { cls := .type "tuple", data := .seq (vs ++ ws).toArray } })
    (hsz : vs.length + ws.length ≤ sizeLine) : wpAny (model prog w) A (binaryOp .Add (.ref t) (.ref b)) Q E s := by
  obtain ⟨⟨cls, dd, data, sl⟩, ho, hc, n, hd⟩ := id ht
  obtain ⟨⟨cls2, dd2, data2, sl2⟩, ho2, hc2, n2, hd2⟩ := id hb
  simp only at hc hd hc2 hd2
  subst hc hd hc2 hd2
  have e : vs.toArray ++ ws.toArray = (vs ++ ws).toArray := by simp
  by_cases hw : ws = []
  · exact concat_meets ⟨_, ho, rfl⟩ ⟨_, ho2, rfl⟩ noFill_tuple_add seq_tuple_add PySem.F.slot_tuple_add PySem.F.entry_tuple_add (PySem.F.args_tuple_add_2 _ _)
      (tuple_addW1 t b vs.toArray ws.toArray n n2 dd dd2 sl sl2 (by simpa using hv) (by simp [hw])) ⟨ho, ho2, h1 hw⟩
  · refine concat_meets ⟨_, ho, rfl⟩ ⟨_, ho2, rfl⟩ noFill_tuple_add seq_tuple_add PySem.F.slot_tuple_add PySem.F.entry_tuple_add (PySem.F.args_tuple_add_2 _ _)
      (tuple_addW2 t b vs.toArray ws.toArray n n2 dd dd2 sl sl2 (by simpa using hv) (by simpa using hw) (by rw [List.size_toArray, List.size_toArray]; exact hsz)) ⟨ho, ho2, ?_⟩
    rw [e]
    exact h2 hw
def sIx (n d : Nat) : Option Int → Nat
  | none => d
  | some v => if v < 0 then (v + (n : Int)).toNat else min v.toNat n
end
end HT
namespace L2
open PySem PySem.Spec PyProof.Rows
abbrev TO := St → Hp → (Option Int → Hp → Prop) → Prop
def PO (X : Cx) (e : Option Expr) (t : TO) : Prop :=
  ∀ (pins : List (Addr × Obj)) (s : Shared) (σ : St) (H : Hp) (Q : Option Int → Hp → Prop), Inv X pins σ H s → t σ H Q →
    wpAny (model X.prog X.w) X.A (evalPart e X.env) (fun u s' => ∃ o H', Inv X pins σ H' s' ∧ IsPart u o ∧ Q o H') X.xe s
def tNoPart : TO := fun _ H Q => Q none H
def tPart (t : TE) : TO := fun σ H Q => t σ H fun x H1 => ∃ i, x = .int i ∧ Q (some i) H1
theorem intsAre_of {ns : List Int} : ∀ {us : List Value}, Vals (ns.map V.int) us → IntsAre us ns := by
  induction ns with
  | nil => intro us r; rw [List.map_nil] at r; cases r; exact .nil
  | cons n ns ih =>
    intro us r
    rw [List.map_cons] at r
    cases r with
    | cons r1 r2 =>
      obtain ⟨t, e⟩ := r1
      subst e
      exact .cons n t (ih r2)
section
variable {X : Cx} {e : Expr} {te : TE} {lo hi : Option Expr} {tl th : TO} {pos p2 : Pos}
theorem po_some (h : PE X e te) : PO X (some e) (tPart te) := by
  intro pins s σ H Q I hw
  rw [evalPart_some]
  refine thn (h pins s σ H _ I hw) fun u s1 ⟨x, H1, I1, r1, q1⟩ => ?_
  obtain ⟨i, rfl, q⟩ := q1
  obtain ⟨t, rfl⟩ := r1
  exact ⟨some i, H1, I1, .int i t, q⟩
def SlR (X : Cx) (r : V → Option Int → Option Int → Hp → VK → Prop) : Prop :=
  ∀ (pins : List (Addr × Obj)) (s : Shared) (σ : St) (H : Hp) (x : V) (v vl vu : Value) (lo hi : Option Int) (sl : Addr) (Q : VK), Inv X pins σ H s → RelV x v → s.heap.IsSliceOf sl vl vu .none → IsPart vl lo → IsPart vu hi → r x lo hi H Q →
    ∃ T id, typeLookup (.type T) "__getitem__" = pure (some (.builtin id)) ∧ s.TypeIs v T ∧ wpAny (model X.prog X.w) X.A (getItem v (.ref sl)) (EP X pins σ Q) X.xe s
def tSl (r : V → Option Int → Option Int → Hp → VK → Prop) (te : TE) (tl th : TO) : TE := fun σ H Q => te σ H fun x H1 => tl σ H1 fun l H2 => th σ H2 fun u H3 => r x l u H3 Q
theorem pe_slice {r : V → Option Int → Option Int → Hp → VK → Prop} (hr : SlR X r) (he : PE X e te) (hl : PO X lo tl) (hu : PO X hi th) : PE X (.Subscript e (.Slice lo hi none p2) pos) (tSl r te tl th) := by
  intro pins s σ H Q I h
  refine Subscript_ (thn (he pins s σ H _ I h) fun v s1 ⟨x, H1, I1, r1, q1⟩ => ?_)
  refine wpAny_Slice (thn (hl pins s1 σ H1 _ I1 q1) fun vl s2 ⟨l, H2, I2, pl, q2⟩ => thn (hu pins s2 σ H2 _ I2 q2) fun vu s3 ⟨u, H3, I3, pu, q3⟩ => ?_)
  rw [evalPart_none]
  refine wpAny_pure ?_
  have I4 : Inv X pins σ H3 { s3 with heap := s3.heap.push { cls := .type "slice", data := .fields #[vl, vu, .none] } } := I3.kept (t' := s3.toks) fun b ob q => Heap.get?_push_of_some _ q
  obtain ⟨T, id, hT, ht, hg⟩ := hr pins { s3 with heap := s3.heap.push { cls := .type "slice", data := .fields #[vl, vu, .none] } } σ H3 x v vl vu l u s3.heap.objs.size Q I4 r1 (Heap.IsSliceOf.new ..) pl pu q3
  show wpAny (model X.prog X.w) X.A (subscriptTail e (.Slice lo hi none p2) v (.ref s3.heap.objs.size)) (EP X pins σ Q) X.xe { s3 with heap := s3.heap.push { cls := .type "slice", data := .fields #[vl, vu, .none] } }
  exact tail_any (ops := [.ref s3.heap.objs.size, v]) ht hT hg (by with_unfolding_all rfl)
def cutV (xs : List V) (lo hi : Option Int) : List V := (xs.drop (HT.sIx xs.length 0 lo)).take (HT.sIx xs.length xs.length hi - HT.sIx xs.length 0 lo)
theorem cutV_length (xs : List V) (lo hi : Option Int) : (cutV xs lo hi).length ≤ xs.length := by
  unfold cutV
  rw [List.length_take, List.length_drop]
  omega
def rSlT (K : PySem.W.Frag) : V → Option Int → Option Int → Hp → VK → Prop := fun x lo hi H Q => ∃ a xs, x = .ref a ∧ SqT K H a xs ∧
  ¬ (HT.sIx xs.length 0 lo = 0 ∧ HT.sIx xs.length xs.length hi = xs.length) ∧ ∀ p, H p = none → Q (.ref p) (upd H p (.tup (cutV xs lo hi)))
def rLtT (K : PySem.W.Frag) : R2 := fun x y H Q => ∃ a b ns ms, x = .ref a ∧ y = .ref b ∧ SqT K H a (ns.map V.int) ∧ SqT K H b (ms.map V.int) ∧ Q (.bl (HT.lexLt ns ms)) H
def rCatT (K : PySem.W.Frag) : R2 := fun x y H Q => ∃ a b xs ys, x = .ref a ∧ y = .ref b ∧ SqT K H a xs ∧ SqT K H b ys ∧ xs ≠ [] ∧ xs.length + ys.length ≤ sizeLine ∧
  (ys = [] → Q (.ref a) H) ∧ (ys ≠ [] → ∀ p, H p = none → Q (.ref p) (upd H p (.tup (xs ++ ys))))
theorem Vals.nil_iff {xs : List V} {us : List Value} (r : Vals xs us) : us = [] ↔ xs = [] := by
  cases r with
  | nil => simp
  | cons _ _ => simp
theorem op_catT : OpR X (binaryOp .Add) (rCatT X.K) := by
  intro pins s σ H x y v u Q I rx ry h
  obtain ⟨a, b, xs, ys, rfl, rfl, ha, hb, hx, hz, q1, q2⟩ := h
  cases rx
  cases ry
  obtain ⟨its, r1, p1, _⟩ := I.tuple ha
  obtain ⟨its2, r2, p2, _⟩ := I.tuple hb
  refine HT.cat_tup p1 p2 (fun z => hx (r1.nil_iff.mp z)) (fun z => ⟨.ref a, H, I, rfl, q1 (r2.nil_iff.mp z)⟩) (fun z => ?_) (by rw [← r1.length, ← r2.length]; exact hz)
  refine ⟨.ref s.heap.objs.size, _, I.laid (t' := s.toks) (o := .tup (xs ++ ys)) (fun b ob q => Heap.get?_push_of_some _ q) (Nat.le_refl _) ?_, rfl, q2 (fun w => z (r2.nil_iff.mpr w)) _ (I.hok.fresh (Nat.le_refl _))⟩
  exact ⟨by rw [List.length_append]; exact hz, _, r1.append r2, IsTup.new _ _⟩
end
end L2
namespace L2
open PySem PySem.Spec PyProof.Rows
def ixN (n : Nat) (i : Int) : Option Nat := if 0 ≤ i then (if i < n then some i.toNat else none) else if -(n : Int) ≤ i then some (i + n).toNat else none
def atI {α : Type} (xs : List α) (i : Int) : Option α := (ixN xs.length i).bind fun j => xs[j]?
theorem ixN_seq {n : Nat} {i : Int} {j : Nat} (h : ixN n i = some j) : seqIndex? i n = some j ∧ j < n ∧ -(n : Int) ≤ i ∧ i < n := by
  unfold ixN at h
  by_cases h0 : 0 ≤ i
  · rw [if_pos h0] at h
    by_cases h1 : i < n
    · rw [if_pos h1] at h
      have e : i.toNat = j := Option.some.inj h
      exact ⟨by rw [seqIndex_of h0 h1, e], by omega, by omega, h1⟩
    · rw [if_neg h1] at h; cases h
  · rw [if_neg h0] at h
    by_cases h1 : -(n : Int) ≤ i
    · rw [if_pos h1] at h
      have e : (i + n).toNat = j := Option.some.inj h
      exact ⟨by rw [seqIndex_neg (by omega) h1, e], by omega, h1, by omega⟩
    · rw [if_neg h1] at h; cases h
theorem atI_get {α : Type} {xs : List α} {i : Int} {v : α} (h : atI xs i = some v) : ∃ j, seqIndex? i xs.length = some j ∧ xs[j]? = some v ∧ j < xs.length ∧ -(xs.length : Int) ≤ i ∧ i < xs.length := by
  unfold atI at h
  cases e : ixN xs.length i with
  | none => rw [e] at h; cases h
  | some j =>
    rw [e] at h
    obtain ⟨h1, h2, h3, h4⟩ := ixN_seq e
    exact ⟨j, h1, h, h2, h3, h4⟩
theorem atI_nat {α : Type} {xs : List α} {j : Nat} {v : α} (h : xs[j]? = some v) : atI xs (j : Int) = some v := by
  have hj : j < xs.length := (List.getElem?_eq_some_iff.mp h).1
  have e : ixN xs.length (j : Int) = some j := by
    unfold ixN
    rw [if_pos (by omega), if_pos (by omega)]; simp
  unfold atI; rw [e]; exact h
def PlainIx (b : Expr) : Prop := ∀ o i, subscripted b false o i = operate [o, i] (getItem o i)
def IxR (X : Cx) (r : R2) : Prop :=
  ∀ (value slice : Expr) (pins : List (Addr × Obj)) (s : Shared) (σ : St) (H : Hp) (x y : V) (v u : Value) (Q : VK), Inv X pins σ H s → RelV x v → RelV y u → r x y H Q →
    subscripted slice false v u = operate [v, u] (getItem v u) → wpAny (model X.prog X.w) X.A (subscriptTail value slice v u) (EP X pins σ Q) X.xe s
def MtR (X : Cx) (id : String) (r : V → List V → Hp → VK → Prop) : Prop :=
  ∀ (pins : List (Addr × Obj)) (s : Shared) (σ : St) (H : Hp) (x : V) (xs : List V) (v : Value) (us : List Value) (Q : VK), Inv X pins σ H s → RelV x v → Vals xs us → r x xs H Q →
    wpAny (model X.prog X.w) X.A (call (.builtin id) (v :: us)) (EP X pins σ Q) X.xe s
section
variable {X : Cx} {a b : Expr} {ta tb : TE} {pos : Pos}
theorem pe_ix {r : R2} (hr : IxR X r) (ha : PE X a ta) (hb : PE X b tb) (hs : PlainIx b) : PE X (.Subscript a b pos) (tOp r ta tb) := by
  intro pins s σ H Q I h
  exact Subscript_ (binT ha hb I h fun v u s2 x y H2 I2 rx ry q => hr a b pins s2 σ H2 x y v u Q I2 rx ry q (hs _ _))
def rIxL (K : PySem.W.Frag) : R2 := fun x y H Q => ∃ p xs i v, x = .ref p ∧ y = .int i ∧ SqL K H p xs ∧ atI xs i = some v ∧ Q v H
def rIxT (K : PySem.W.Frag) : R2 := fun x y H Q => ∃ p xs i v, x = .ref p ∧ y = .int i ∧ SqT K H p xs ∧ atI xs i = some v ∧ Q v H
def rIxS : R2 := fun x y H Q => ∃ z i c, x = .str z ∧ y = .int i ∧ z.length ≤ sizeLine ∧ atI z.cps.toList i = some c ∧ Q (.str ⟨#[c]⟩) H
theorem ix_list : IxR X (rIxL X.K) := by
  intro value slice pins s σ H x y v u Q I rx ry h hs
  obtain ⟨p, xs, i, z, rfl, rfl, hq, he, q⟩ := h
  cases rx
  obtain ⟨t, rfl⟩ := ry
  obtain ⟨its, r, pl, hz⟩ := I.list hq
  obtain ⟨j, h1, h2, h3, h4, h5⟩ := atI_get he
  obtain ⟨w, ew, rw'⟩ := r.get h2
  have hl := r.length
  have hn := line63
  have fin : EP X pins σ Q w s := ⟨z, H, I, rw', q⟩
  by_cases h0 : 0 ≤ i
  · have hj : i.toNat = j := by
      rw [seqIndex_of h0 h5] at h1
      exact Option.some.inj h1
    exact item_listR pl.isList h0 (by omega) (by rw [hj]; simpa using ew) fin hs
  · have hj : (i + (its.toArray.size : Int)).toNat = j := by
      rw [seqIndex_neg (by omega) h4] at h1
      rw [List.size_toArray, ← hl]
      exact Option.some.inj h1
    exact subscriptTail_builtinR (x := w) pl.isList.typeIs slot_list_getitem.lookup
      (wpAny_getItem_list_neg (Q := fun r s' => r = w ∧ EP X pins σ Q r s') pl.isList (by omega) (by rw [List.size_toArray] <;> omega) (by omega) (by rw [hj]; simpa using ew) ⟨rfl, fin⟩) hs
theorem ix_tup : IxR X (rIxT X.K) := by
  intro value slice pins s σ H x y v u Q I rx ry h hs
  obtain ⟨p, xs, i, z, rfl, rfl, hq, he, q⟩ := h
  cases rx
  obtain ⟨t, rfl⟩ := ry
  obtain ⟨its, r, pl, hz⟩ := I.tuple hq
  obtain ⟨j, h1, h2, h3, h4, h5⟩ := atI_get he
  obtain ⟨w, ew, rw'⟩ := r.get h2
  have hl := r.length
  have hn := line63
  have fin : EP X pins σ Q w s := ⟨z, H, I, rw', q⟩
  exact subscriptTail_builtinR (x := w) pl.typeIs slot_tuple_getitem.lookup
    (getItem_tuple (j := j) (Q := fun r s' => r = w ∧ EP X pins σ Q r s') pl (by omega) (by omega) (by rw [List.size_toArray, ← hl]; exact h1) (by simpa using ew) ⟨rfl, fin⟩) hs
def rIx (K : PySem.W.Frag) : R2 := fun x y H Q => rIxL K x y H Q ∨ rIxT K x y H Q ∨ rIxS x y H Q
theorem mapSeq_set (its : List Value) (n j : Nat) (u : Value) : Obj.mapSeq (·.setIfInBounds j u) { cls := .type "list", data := .seq its.toArray n } = { cls := .type "list", data := .seq (its.set j u).toArray n } := by
  simp [Obj.mapSeq]
theorem Inv.lst {pins : List (Addr × Obj)} {σ : St} {H : Hp} {s : Shared} {p : Addr} {xs : List V} (I : Inv X pins σ H s) (h : H p = some (.lst xs)) :
    ∃ (its : List Value) (n : Nat), Vals xs its ∧ s.heap.get? p = some { cls := .type "list", data := .seq its.toArray n } ∧ xs.length ≤ sizeLine := by
  obtain ⟨z, its, n, r, e⟩ := I.hok p _ h
  exact ⟨its, n, r, e, z⟩
theorem Inv.lstUpd {pins : List (Addr × Obj)} {σ : St} {H : Hp} {s : Shared} {p : Addr} {xs ys : List V} {its its' : List Value} {n n' : Nat} {f : Obj → Obj} (I : Inv X pins σ H s) (h : H p = some (.lst xs))
    (ho : s.heap.get? p = some { cls := .type "list", data := .seq its.toArray n }) (hf : f { cls := .type "list", data := .seq its.toArray n } = { cls := .type "list", data := .seq its'.toArray n' }) (r : Vals ys its') (hz : ys.length ≤ sizeLine) (t : Nat) :
    Inv X pins σ (upd H p (.lst ys)) { s with heap := s.heap.update p f, toks := t } := by
  have e : (s.heap.update p f).get? p = some { cls := .type "list", data := .seq its'.toArray n' } := by
    rw [Heap.get?_update_self f ho (by rw [hf] <;> rfl), hf]
  refine I.write (x := p) (e := p) (by rw [h]; trivial) (.inl rfl) (fun b u hb q => (Heap.get?_update_other _ _ (Ne.symm hb)).trans q) ⟨_, e⟩ ?_
  exact ⟨hz, its', n', r, e⟩
def rSetL : V → V → V → Hp → (Hp → Prop) → Prop := fun o i v H Q => ∃ p xs k j, o = .ref p ∧ i = .int k ∧ H p = some (.lst xs) ∧ ixN xs.length k = some j ∧ Q (upd H p (.lst (xs.set j v)))
theorem set_list : PSet X rSetL := by
  intro pins s σ H o i v ov iv u Q I ro ri rv h
  obtain ⟨p, xs, k, j, rfl, rfl, hp, hj, q⟩ := h
  cases ro
  obtain ⟨t, rfl⟩ := ri
  obtain ⟨its, n, r, ho, hz⟩ := I.lst hp
  obtain ⟨h1, h2, h3, h4⟩ := ixN_seq hj
  have hl := r.length
  have hn := line63
  have I' : Inv X pins σ (upd H p (.lst (xs.set j v))) { s with heap := s.heap.update p (Obj.mapSeq (·.setIfInBounds j u)) } :=
    I.lstUpd hp ho (mapSeq_set its n j u) (r.set rv j) (by rw [List.length_set]; exact hz) s.toks
  by_cases h0 : 0 ≤ k
  · have hk : k.toNat = j := by
      rw [seqIndex_of h0 h4] at h1
      exact Option.some.inj h1
    exact PySem.W.ki_setAt ho h0 (by omega) (by rw [List.size_toArray, ← hl]; exact h4) (by rw [hk]; exact ⟨_, I', q⟩)
  · have hk : (k + (its.toArray.size : Int)).toNat = j := by
      rw [seqIndex_neg (by omega) h3] at h1
      rw [List.size_toArray, ← hl]
      exact Option.some.inj h1
    exact PySem.W.ki_setBack ho (by omega) (by rw [List.size_toArray, ← hl]; exact h3) (by omega) (by rw [hk]; exact ⟨_, I', q⟩)
theorem slice_bounds (lo hi : Option Int) (n : Nat) : (sliceBounds lo hi none n).1 = ((HT.sIx n 0 lo : Nat) : Int) ∧ (sliceBounds lo hi none n).2.1 = ((HT.sIx n n hi : Nat) : Int) ∧ (sliceBounds lo hi none n).2.2 = 1 := by
  refine ⟨?_, ?_, rfl⟩
  · cases lo with
    | none => simp [sliceBounds, HT.sIx]
    | some i =>
      simp only [sliceBounds, HT.sIx, Option.getD_none, show (1 : Int) > 0 by decide, if_true]
      by_cases h : i < 0
      · simp only [h, if_true] <;> omega
      · simp only [h, if_false] <;> omega
  · cases hi with
    | none => simp [sliceBounds, HT.sIx]
    | some i =>
      simp only [sliceBounds, HT.sIx, Option.getD_none, show (1 : Int) > 0 by decide, if_true]
      by_cases h : i < 0
      · simp only [h, if_true] <;> omega
      · simp only [h, if_false] <;> omega
theorem slicePick_cut (its : List Value) (lo hi : Option Int) : slicePick its.toArray lo hi none = ((its.drop (HT.sIx its.length 0 lo)).take (HT.sIx its.length its.length hi - HT.sIx its.length 0 lo)).toArray := by
  obtain ⟨h1, h2, h3⟩ := slice_bounds lo hi its.toArray.size
  unfold slicePick
  rw [h1, h2, h3]
  simp only [sliceRange_one, pick_run, List.size_toArray] <;> rfl
def rSlL (K : PySem.W.Frag) : V → Option Int → Option Int → Hp → VK → Prop := fun x lo hi H Q => ∃ a xs, x = .ref a ∧ SqL K H a xs ∧ ∀ p, H p = none → Q (.ref p) (upd H p (.lst (cutV xs lo hi)))
theorem sl_list : SlR X (rSlL X.K) := by
  intro pins s σ H x v vl vu lo hi sl Q I rx hs pl pu h
  obtain ⟨a, xs, rfl, hx, q⟩ := h
  cases rx
  obtain ⟨its, r, ht, hz⟩ := I.list hx
  have hlen := r.length
  refine ⟨"list", _, slot_list_getitem.lookup, ht.isList.typeIs, ?_⟩
  refine wpAny_getItem_list_slice ht.isList hs pl pu .none (by simp) ?_ (by rw [List.size_toArray] <;> omega)
  rw [slicePick_cut, ← hlen]
  refine ⟨.ref s.heap.objs.size, _, I.laid (t' := s.toks) (o := .lst (cutV xs lo hi)) (fun b ob q => Heap.get?_push_of_some _ q) (Nat.le_refl _) ?_, rfl, q _ (I.hok.fresh (Nat.le_refl _))⟩
  exact ⟨Nat.le_trans (cutV_length xs lo hi) hz, _, 0, (r.drop (HT.sIx xs.length 0 lo)).take (HT.sIx xs.length xs.length hi - HT.sIx xs.length 0 lo), Heap.get?_push_size _ rfl⟩
def flatV : V → Bool
  | .non => true
  | .bl _ => true
  | .int _ => true
  | .str _ => true
  | _ => false
def eqV : V → V → Bool
  | .non, .non => true
  | .bl a, .bl b => a == b
  | .bl a, .int b => (if a then 1 else 0) == b
  | .int a, .bl b => a == (if b then 1 else 0)
  | .int a, .int b => a == b
  | .str a, .str b => a == b
  | _, _ => false
def eqU (x : V) (u : Value) : Bool := match u with
  | .none => eqV .non x
  | .bool b => eqV (.bl b) x
  | .int i _ => eqV (.int i) x
  | .str z _ => eqV (.str z) x
  | _ => false
def inV (x : V) (xs : List V) : Bool := xs.any fun y => eqV y x
def rIn (K : PySem.W.Frag) (neg : Bool) : R2 := fun x y H Q => ∃ p xs, y = .ref p ∧ (SqL K H p xs ∨ SqT K H p xs) ∧ flatV x = true ∧ xs.all flatV = true ∧ Q (.bl (if neg then !inV x xs else inV x xs)) H
theorem call_len_seq : CallR X (.builtin "len") (fun xs H Q => ∃ p ys, xs = [.ref p] ∧ (SqL X.K H p ys ∨ SqT X.K H p ys) ∧ Q (.int ys.length) H) := by
  intro pins s σ H xs us Q I r h
  obtain ⟨p, ys, rfl, hq, q⟩ := h
  obtain ⟨u, rfl, rx⟩ := vals1 r
  cases rx
  have hn := line63
  rcases hq with hq | hq
  · obtain ⟨its, r', pl, hz⟩ := I.list hq
    have hlen := r'.length
    exact Calls.call_len_list pl.isList (by simp only [List.size_toArray] <;> omega) ⟨.int ys.length, H, I.tok _, ⟨s.toks + 1, by rw [List.size_toArray, hlen]⟩, q⟩
  · obtain ⟨its, r', pl, hz⟩ := I.tuple hq
    have hlen := r'.length
    exact len_tuple pl (by simp only [List.size_toArray] <;> omega) ⟨.int ys.length, H, I.tok _, ⟨s.toks + 1, by rw [List.size_toArray, hlen]⟩, q⟩
theorem call_list_of : CallR X (.type "list") (fun xs H Q => ∃ p ys, xs = [.ref p] ∧ (SqL X.K H p ys ∨ SqT X.K H p ys) ∧ ∀ l, H l = none → Q (.ref l) (upd H l (.lst ys))) := by
  intro pins s σ H xs us Q I r h
  obtain ⟨p, ys, rfl, hq, q⟩ := h
  obtain ⟨u, rfl, rx⟩ := vals1 r
  cases rx
  have fin : ∀ (its : List Value), Vals ys its → ys.length ≤ sizeLine → ∀ (h' : Heap) (c' : Nat), (∀ b o', s.heap.get? b = some o' → h'.get? b = some o') →
      h'.get? s.heap.objs.size = some { cls := .type "list", dict := none, data := .seq its.toArray c', slots := #[] } → EP X pins σ Q (.ref s.heap.objs.size) { s with heap := h' } := fun its r' hz h' c' kp e =>
    ⟨.ref s.heap.objs.size, _, I.laid (t' := s.toks) kp (Nat.le_refl _) (show ObjOk X.prog X.w _ h' _ (.lst ys) from ⟨hz, its, c', r', e⟩), rfl, q _ (I.hok.fresh (Nat.le_refl _))⟩
  rcases hq with hq | hq
  · obtain ⟨its, r', pl, hz⟩ := I.list hq
    have hlen := r'.length
    obtain ⟨o, ho, hc, n, hd⟩ := pl.isList
    exact call_list_seq p (.inl rfl) ho hc hd (fun h' c' kp e => fin its r' hz h' c' kp e) (by simp only [List.size_toArray] <;> omega)
  · obtain ⟨its, r', pl, hz⟩ := I.tuple hq
    have hlen := r'.length
    obtain ⟨o, ho, hc, n, hd⟩ := pl
    exact call_list_seq p (.inr rfl) ho hc hd (fun h' c' kp e => fin its r' hz h' c' kp e) (by simp only [List.size_toArray] <;> omega)
theorem call_tuple_of : CallR X (.type "tuple") (fun xs H Q => ∃ p ys, xs = [.ref p] ∧ ((SqL X.K H p ys ∧ ∀ l, H l = none → Q (.ref l) (upd H l (.tup ys))) ∨ (SqT X.K H p ys ∧ Q (.ref p) H))) := by
  intro pins s σ H xs us Q I r h
  obtain ⟨p, ys, rfl, h⟩ := h
  obtain ⟨u, rfl, rx⟩ := vals1 r
  cases rx
  rcases h with ⟨hq, q⟩ | ⟨hq, q⟩
  · obtain ⟨its, r', pl, hz⟩ := I.list hq
    have hlen := r'.length
    refine call_tuple_list pl.isList (fun h' kp => ?_) (by simp only [List.size_toArray] <;> omega)
    have I1 : Inv X pins σ H { s with heap := h' } := I.kept (t' := s.toks) kp
    have I2 : Inv X pins σ (upd H h'.objs.size (.tup ys)) { s with heap := h'.push { cls := .type "tuple", data := .seq its.toArray } } :=
      I1.laid (t' := s.toks) (fun b o e => Heap.get?_push_of_some _ e) (Nat.le_refl _) (show ObjOk X.prog X.w _ _ _ (.tup ys) from ⟨hz, its, r', IsTup.new _ _⟩)
    exact ⟨.ref h'.objs.size, _, I2, rfl, q _ (I1.hok.fresh (Nat.le_refl _))⟩
  · obtain ⟨its, r', pl, hz⟩ := I.tuple hq
    exact call_tuple_same pl ⟨.ref p, H, I, rfl, q⟩
def tyV (K : PySem.W.Frag) (T : String) (x : V) (H : Hp) : Prop := match x with
  | .str _ => T = "str"
  | .int _ => T = "int"
  | .ref p => (T = "list" ∧ ∃ xs, SqL K H p xs) ∨ (T = "tuple" ∧ ∃ o, K.lookup p = some o ∧ o.cls = .type "tuple" ∧ o.dict = none) ∨
      (T = "dict" ∧ ((∃ kvs, H p = some (.dK kvs)) ∨ ∃ kvs, H p = some (.dT kvs))) ∨ (T = "set" ∧ ∃ S n, H p = some (.set S n))
  | _ => False
theorem tyV_is {pins : List (Addr × Obj)} {σ : St} {H : Hp} {s : Shared} {T : String} {x : V} {v : Value} (I : Inv X pins σ H s) (r : RelV x v) (ty : tyV X.K T x H) :
    s.TypeIs v T ∧ ∀ a, v = .ref a → ∃ ob, s.heap.get? a = some ob ∧ ob.dict = none := by
  cases x with
  | str z =>
    obtain ⟨t, rfl⟩ := r
    cases (show T = "str" from ty)
    exact ⟨typeIs_str s z t, fun _ e => nomatch e⟩
  | int i =>
    obtain ⟨t, rfl⟩ := r
    cases (show T = "int" from ty)
    exact ⟨typeIs_int s i t, fun _ e => nomatch e⟩
  | ref p =>
    cases r
    rcases ty with ⟨rfl, xs, hq⟩ | ⟨rfl, o, hk, hc, hd⟩ | ⟨rfl, hk⟩ | ⟨rfl, S, n, hk⟩
    · obtain ⟨its, _, pl, _⟩ := I.list hq
      refine ⟨pl.isList.typeIs, fun a e => ?_⟩
      cases e
      obtain ⟨o, n, e, c, hd, _⟩ := pl
      exact ⟨o, e, hd⟩
    · refine ⟨⟨o, I.kIn p o hk, hc⟩, fun a e => ?_⟩
      cases e
      exact ⟨o, I.kIn _ o hk, hd⟩
    · have z : ∃ o, s.heap.get? p = some o ∧ o.ExactDict := by
        rcases hk with ⟨kvs, hk⟩ | ⟨kvs, hk⟩
        · obtain ⟨_, _, _, _, o, _, _, e, ex, _⟩ := I.hok p _ hk
          exact ⟨o, e, ex⟩
        · obtain ⟨_, _, _, _, o, _, _, e, ex, _⟩ := I.hok p _ hk
          exact ⟨o, e, ex⟩
      obtain ⟨o, e, ex⟩ := z
      refine ⟨⟨o, e, ex.1⟩, fun a e2 => ?_⟩
      cases e2
      exact ⟨o, e, ex.2.1⟩
    · obtain ⟨o, _, _, _, e, ex, _⟩ := I.hok p _ hk
      refine ⟨⟨o, e, ex.1⟩, fun a e2 => ?_⟩
      cases e2
      exact ⟨o, e, ex.2.1⟩
  | _ => exact False.elim ty
def tBM0 (K : PySem.W.Frag) (T : String) (r : V → List V → Hp → VK → Prop) (to : TE) : TE := fun σ H Q => to σ H fun x H1 => tyV K T x H1 ∧ r x [] H1 Q
def tBM (K : PySem.W.Frag) (T : String) (r : V → List V → Hp → VK → Prop) (to : TE) (t : TA) : TE := fun σ H Q => to σ H fun x H1 => tyV K T x H1 ∧ t σ H1 fun xs H2 => r x xs H2 Q
variable {o e : Expr} {es : List Expr} {to : TE} {t : TA} {name : Str} {apos cpos : Pos} {T id : String} {r : V → List V → Hp → VK → Prop}
theorem pe_bm (pa : PlainAttrs T) (slot : Slot T name id) (hty : typeOf (.builtin id) = pure (.type "method_descriptor")) (hm : MtR X id r) (ho : PE X o to) (ha : PA X (e :: es) t)
    (hbase : attributeBase o name X.env (eval o X.env) = eval o X.env := by rfl)
    (hfew : ((backTo cpos (starEach (e :: es) X.env)).all (fun x => !x.1) && (backToKw cpos (keywordEach [] X.env)).all (fun x => x.1.isSome)
      && decide ((e :: es).length + ([] : List Keyword).length + (if ([] : List Keyword).isEmpty then 0 else 1) < 30)) = true := by rfl)
    (hline : (apos.endLine == cpos.line) = true := by rfl) (hs : starEach (e :: es) X.env = (false, eval e X.env) :: starEach es X.env := by rfl) (hplain : (backTo cpos (starEach es X.env)).any (·.1) = false := by rfl) :
    PE X (.Call (.Attribute o name apos) (e :: es) [] cpos) (tBM X.K T r to t) := by
  intro pins s σ H Q I h
  refine wpAny_Call_method_late hbase hfew hline rfl (thn (ho pins s σ H _ I h) fun v s1 ⟨x, H1, I1, r1, ty, q1⟩ => ?_)
  obtain ⟨h1, h2⟩ := tyV_is I1 r1 ty
  refine ⟨T, id, pa, slot, hty, h1, h2, ?_⟩
  have hA := ha cpos pins s1 σ H1 _ I1 q1
  rw [hs] at hA ⊢
  refine Calls.callWith_builtin (by show (false || (backTo cpos (starEach es X.env)).any (·.1)) = false; rw [hplain] <;> rfl) (Calls.evalArgs_plain ?_)
  exact thn hA fun us s2 ⟨vs, H2, I2, r2, q2⟩ => hm pins s2 σ H2 x vs v us Q I2 r1 r2 q2
/- xs.append(e), list.index on a module's tuple .. are MtR facts of 06m -/
end
end L2
namespace L2
open PySem PySem.Spec PyProof.Rows
def MtM (X : Cx) (id : String) (r : V → List V → Hp → VK → Prop) : Prop :=
  ∀ (pins : List (Addr × Obj)) (s : Shared) (σ : St) (H : Hp) (x : V) (xs : List V) (v : Value) (us : List Value) (Q : VK), Inv X pins σ H s → RelV x v → Vals xs us → r x xs H Q →
    wpAny (model X.prog X.w) X.A (call (.builtin id) (v :: us)) (EP X pins σ Q) X.xe s
theorem Vals.one : ∀ {x : V} {us : List Value}, Vals [x] us → ∃ u, us = [u] ∧ RelV x u
  | _, _, .cons r .nil => ⟨_, rfl, r⟩
theorem Vals.two : ∀ {x y : V} {us : List Value}, Vals [x, y] us → ∃ u v, us = [u, v] ∧ RelV x u ∧ RelV y v
  | _, _, _, .cons r (.cons q .nil) => ⟨_, _, rfl, r, q⟩
section
variable {X : Cx} {pins : List (Addr × Obj)} {σ : St} {H : Hp} {s : Shared} {l b : Addr} {xs ys zs : List V}
theorem Inv.lset {its its' : List Value} {n : Nat} {f : Array Value → Array Value} {t' : Nat} (I : Inv X pins σ H s) (hH : H l = some (.lst xs))
    (e : s.heap.get? l = some { cls := .type "list", data := .seq its.toArray n }) (hf : f its.toArray = its'.toArray) (hv : Vals ys its') (hz : ys.length ≤ sizeLine) :
    Inv X pins σ (upd H l (.lst ys)) { s with heap := s.heap.update l (Obj.mapSeq f), toks := t' } := by
  have q := PySem.IsL.update e f
  rw [hf] at q
  refine I.write (x := l) (e := l) (by rw [hH]; exact trivial) (.inl rfl) (fun b' u hb hu => (Heap.get?_update_other s.heap (Obj.mapSeq f) (Ne.symm hb)).trans hu) ⟨_, q⟩ ?_
  exact ⟨hz, its', _, hv, q⟩
theorem Inv.lnew {its : List Value} {t' : Nat} (I : Inv X pins σ H s) (hv : Vals ys its) (hz : ys.length ≤ sizeLine) :
    Inv X pins σ (upd H s.heap.objs.size (.lst ys)) { s with heap := s.heap.push { cls := .type "list", data := .seq its.toArray }, toks := t' } :=
  I.laid (fun _ _ q => Heap.get?_push_of_some _ q) (Nat.le_refl _) ⟨hz, its, 0, hv, Heap.get?_push_size _ rfl⟩
theorem Inv.fresh (I : Inv X pins σ H s) : H s.heap.objs.size = none := I.hok.fresh (Nat.le_refl _)
theorem Inv.lstM (I : Inv X pins σ H s) (hH : H l = some (.lst xs)) : xs.length ≤ sizeLine ∧ ∃ (its : List Value) (n : Nat), Vals xs its ∧ xs.length = its.length ∧ s.heap.get? l = some { cls := .type "list", data := .seq its.toArray n } := by
  obtain ⟨z, its, n, r, e⟩ := I.hok l _ hH
  exact ⟨z, its, n, r, r.length, e⟩
end
section
variable {X : Cx}
def rAppend : V → List V → Hp → VK → Prop := fun x vs H Q => ∃ l xs y, x = .ref l ∧ vs = [y] ∧ H l = some (.lst xs) ∧ xs.length < sizeLine ∧ Q .non (upd H l (.lst (xs ++ [y])))
theorem mt_append : MtM X "list.append" rAppend := by
  intro pins s σ H x vs v us Q I rx rv h
  obtain ⟨l, xs, y, rfl, rfl, hH, hz, q⟩ := h
  cases rx
  obtain ⟨u, rfl, ru⟩ := rv.one
  obtain ⟨z, its, n, r, hl, e⟩ := I.lstM hH
  refine call_meets F.slot_list_append ⟨_, e, rfl⟩ F.entry_list_append (F.args_list_append_2 _ _) (PySem.list_append l its.toArray n u (by rw [List.size_toArray]; omega)) ⟨e, ?_⟩
  refine ⟨.non, _, I.lset (its' := its ++ [u]) hH e (by simp) (r.append (.cons ru .nil)) ?_, rfl, q⟩
  rw [List.length_append, List.length_singleton]
  omega
def rExtend : V → List V → Hp → VK → Prop := fun x vs H Q => ∃ l b xs zs, x = .ref l ∧ vs = [.ref b] ∧ H l = some (.lst xs) ∧ H b = some (.lst zs) ∧ xs.length + zs.length ≤ sizeLine ∧ Q .non (upd H l (.lst (xs ++ zs)))
def rPop : V → List V → Hp → VK → Prop := fun x vs H Q => ∃ l xs y, x = .ref l ∧ vs = [] ∧ H l = some (.lst xs) ∧ xs[xs.length - 1]? = some y ∧ Q y (upd H l (.lst xs.dropLast))
def rPopAt : V → List V → Hp → VK → Prop := fun x vs H Q => ∃ l xs i k y, x = .ref l ∧ vs = [.int i] ∧ H l = some (.lst xs) ∧ -(2 ^ 63) ≤ i ∧ i < 2 ^ 63 ∧ seqIndex? i xs.length = some k ∧ xs[k]? = some y ∧ Q y (upd H l (.lst (xs.eraseIdx k)))
def rReverse : V → List V → Hp → VK → Prop := fun x vs H Q => ∃ l xs, x = .ref l ∧ vs = [] ∧ H l = some (.lst xs) ∧ Q .non (upd H l (.lst xs.reverse))
def rClear : V → List V → Hp → VK → Prop := fun x vs H Q => ∃ l xs, x = .ref l ∧ vs = [] ∧ H l = some (.lst xs) ∧ Q .non (upd H l (.lst []))
def rCat : R2 := fun x y H Q => ∃ l b xs zs, x = .ref l ∧ y = .ref b ∧ H l = some (.lst xs) ∧ H b = some (.lst zs) ∧ xs.length + zs.length ≤ sizeLine ∧ ∀ p, H p = none → Q (.ref p) (upd H p (.lst (xs ++ zs)))
theorem op_cat : OpR X (binaryOp .Add) rCat := by
  intro pins s σ H x y v u Q I rx ry h
  obtain ⟨l, b, xs, zs, rfl, rfl, hH, hB, hz, q⟩ := h
  cases rx
  cases ry
  obtain ⟨z, its, n, r, hl, e⟩ := I.lstM hH
  obtain ⟨z2, its2, n2, r2, hl2, e2⟩ := I.lstM hB
  refine PySem.P.add_list e e2 ?_ (by rw [List.size_toArray, List.size_toArray]; omega)
  have ea : its.toArray ++ its2.toArray = (its ++ its2).toArray := by simp
  rw [ea]
  exact ⟨.ref _, _, I.lnew (t' := s.toks) (r.append r2) (by rw [List.length_append]; omega), rfl, q _ I.fresh⟩
def rRep : R2 := fun x y H Q => ∃ l k xs, x = .ref l ∧ y = .int k ∧ H l = some (.lst xs) ∧ -(2 ^ 63) ≤ k ∧ k < 2 ^ 63 ∧ xs.length * k.toNat ≤ sizeLine ∧
  ∀ p, H p = none → Q (.ref p) (upd H p (.lst (List.replicate k.toNat xs).flatten))
end
section
variable {prog : Program} {w : World} {A : Around} {E : Value → Shared → Prop} {s : Shared}
end
section
variable {X : Cx}
end
end L2
namespace Att
open PySem PySem.W PySem.Calls PyProof.Rows
theorem ints_of_wellAll {P : Params} {h : Heap} : ∀ (ns : List Int) (vs : List Value), WellAll P h vs (ns.map WData.int) → IntsAre vs ns := by
  intro ns
  induction ns with
  | nil =>
    intro vs w
    rw [List.map_nil] at w
    cases w
    exact .nil
  | cons n ns ih =>
    intro vs w
    rw [List.map_cons] at w
    cases w with
    | cons a b =>
      cases a
      exact .cons _ _ (ih _ b)
theorem script_of {l : OpenLaw} {n : Nat} (hn : l.most = some n) {P : Params} {h : Heap} {args : List WData} {vals : List Value}
    (hpre : l.row.toRowW.claim.pre args = true) (hwl : WellAll P h vals args) :
    ∃ a vs ns, vals = [Value.ref a] ∧ args = [WData.list (ns.map WData.int)] ∧ h.get? a = some { cls := .type "list", data := .seq vs.toArray } ∧ IntsAre vs ns ∧ ns.length ≤ n := by
  have hsh : WShape.hasAll [] args [.list .int] = true := (pre_splitW hpre).1
  have hc : l.pre.holds [] { args := args } = true := (pre_splitW hpre).2
  obtain ⟨d, r, rfl, h1, h2⟩ := hasAllW_cons hsh
  obtain rfl := hasAllW_nil h2
  obtain ⟨xs, rfl, h3⟩ := hasW_list h1
  obtain ⟨ns, rfl⟩ := items_int h3
  have hlen : ns.length ≤ n := by
    unfold OpenLaw.pre at hc
    have h4 : (WTm.not (.lt (.lit (.int (n : Int))) (.len (.arg 0)))).holds [] { args := [.list (ns.map .int)] } = true := by
      have h4 := (holds_andW hc).1
      rw [hn] at h4
      exact h4
    have h5 := condW_of h4 (w_not (w_lt w_lit (w_len_list (w_arg rfl))))
    rw [List.length_map] at h5
    refine Nat.le_of_not_lt fun q => ?_
    have q' : (n : Int) < ((ns.length : Nat) : Int) := by omega
    first
      | (rw [decide_eq_true q'] at h5; exact absurd h5 (by decide))
      | (simp at h5; omega)
  cases hwl with
  | cons w1 w2 =>
    cases w2
    cases w1 with
    | list ho hall => exact ⟨_, _, ns, rfl, rfl, ho, ints_of_wellAll ns _ hall, hlen⟩
theorem post_true (l : OpenLaw) (args : List WData) : l.row.toRowW.claim.post args (.bool true) args = true :=
  postW_of (r := l.row.toRowW) (X := (true == true))
    (show WShape.has [] (.bool true) .bool = true by first | rfl | decide | simp [WShape.has, WShape.arms, WShape.armsAll])
    (show (WTm.eq .res (.lit (.bool true))).value [] { args := args, res := some (.bool true), after := args } = some (.bool (true == true)) from w_eq_bool (w_res rfl) w_lit) rfl
theorem attach_call {l : OpenLaw} {n : Nat} {q : Program} {loose : List Str} {XP : (Str → Option Value) → Heap → Prop} {YP : World → Heap → Prop} {d : DefRec}
    (hn : l.most = some n) (hdf : d.params.defaults = [])
    (call : ∀ (w : World) (s₀ s₁ : Shared) (mg mb : Str → Option Value) (fa : Addr) (o : Obj) (pm cd doc : Value) (a : Addr) (vs : List Value) (ns : List Int),
      Ground q loose [] XP w s₀ mg mb s₁.heap → YP w s₁.heap →
      s₁.heap.get? fa = some o → o.data = .func (docDef d.name d.params d.body d.scope pm cd doc) → s₁.heap.CodeRec cd d.name → mg d.name = some (.ref fa) →
      s₁.heap.get? a = some { cls := .type "list", data := .seq vs.toArray } → IntsAre vs ns → ns.length ≤ n → s₁.gens = #[] →
      codeAny (model l.prog w) callerA (.call (.ref fa) ⟨[.ref a], []⟩) (fun r s' => r = .ok (.ret (.bool true)) ∧ OldK s₁.heap s'.heap ∧ s'.os = s₁.os ∧ AllBare s'.gens) s₁) :
    WalkO q loose XP YP l.row.toRowW d [] (fun f vs => PySem.call f vs) := by
  intro w s₀ s₁ mg mb G Y fa o pm cd doc dV kV ho hd hcd hD hmg hg args vals as hpre hlay hrd hwl hlo
  obtain rfl : dV = .none := Dflts.none hD hdf
  obtain rfl : kV = .none := Dflts.noKw hD
  obtain ⟨a, vs, ns, rfl, rfl, hobj, hints, hlen⟩ := script_of hn hpre hwl
  refine enter_call (codeAny_mono (call w s₀ s₁ mg mb fa o pm cd doc a vs ns G Y ho (fd_plain hd) hcd hmg hobj hints hlen hg) fun r s' hq => ?_)
  obtain ⟨rfl, h2, h3, h4⟩ := hq
  exact ⟨.inl ⟨.bool true, .bool true, [], rfl, fun _ => rfl, .bool true, post_true l _, fun _ => ⟨List.Pairwise.nil, fun _ hm => (nomatch hm)⟩⟩, h2, h3, h4⟩
section
variable {prog : Program} {w : World} {A : Around} {E : Value → Shared → Prop} {s : Shared} {K : Frag}
def noObjs (h : Heap) : Heap := { h with objs := #[] }
def ledger (h : Heap) (L d : Addr) : List (Addr × Obj) := (List.range h.objs.size).filterMap fun a => if a = L ∨ a = d then none else (h.get? a).map fun o => (a, o)
end
end Att
namespace L2
open PySem PySem.Spec PyProof.Rows
theorem vals_ints : ∀ {vs : List Value} {ns : List Int}, IntsAre vs ns → Vals (ns.map V.int) vs
  | _, _, .nil => .nil
  | _, _, .cons n t h => .cons ⟨t, rfl⟩ (vals_ints h)
def Only (H : Hp) : Prop := ∀ b, H b = none ∨ ∃ o xs, H b = some (.frz o (.lst xs))
theorem law_call {P : Program} {w : World} {K : PySem.W.Frag} {mg mb : Str → Option Value} {CX : CXT} {k : Nat} {fa a : Addr} {fd : FuncData} {x : Str} {sp : Sp} {s₁ : Shared} {vs : List Value} {ns : List Int}
    (KX : K.In s₁.heap) (hns : s₁.heap.Ns mainGlobals mg) (hb : s₁.heap.Ns builtinsNs mb) (hbb : ∀ x : Str, x ≠ "__name__" → mb x = bootBuiltins x) (hlim : s₁.heap.NoLimit) (hg : s₁.gens = #[])
    (ha : s₁.heap.get? a = some { cls := .type "list", data := .seq vs.toArray }) (hi : IntsAre vs ns) (hl : ns.length ≤ sizeLine) (hr : Room k callerA)
    (F : ∀ base : Heap, K.In base → base.Ns mainGlobals mg → FnOk P w K mg base CX k fa fd [x] sp) (hbind : ∀ (s : Shared) (u : Value), BindsTo s fd ⟨[u], []⟩ [(x, u)])
    (hsp : ∀ H : Hp, Only H → SqL K H a (ns.map V.int) → sp [.ref a] H (fun v _ => v = .bl true) fun _ _ _ => False)
    (hCX : ∀ H e s', CX [] H s₁ (fun _ _ _ => False) e s' → False) :
    codeAny (model P w) callerA (.call (.ref fa) ⟨[.ref a], []⟩) (fun r s' => r = .ok (.ret (.bool true)) ∧ OldK s₁.heap s'.heap ∧ s'.os = s₁.os ∧ AllBare s'.gens) s₁ := by
  have rv := vals_ints hi
  have lenV := hi.length
  -- from an abstract heap in which nothing but the script may be tracked
  have core : ∀ H : Hp, Only H → SqL K H a (ns.map V.int) → HOk P w H s₁.heap → (∀ b, H b ≠ none → b = a) → (H a ≠ none → K.lookup a = none) →
      codeAny (model P w) callerA (.call (.ref fa) ⟨[.ref a], []⟩) (fun r s' => r = .ok (.ret (.bool true)) ∧ OldK s₁.heap s'.heap ∧ s'.os = s₁.os ∧ AllBare s'.gens) s₁ := by
    intro H hO hS hok hA hK
    have base_of : ∀ {b : Addr} {o : Obj}, s₁.heap.get? b = some o → H b = none → (hidT s₁.heap H).get? b = some o := fun e n => hidT_get e n
    have noA : ∀ {b : Addr} {o : Obj} {es : Array DictEntry} {ep : Nat}, s₁.heap.get? b = some o → o.data = .dict es ep → H b = none := fun {b o es ep} e d => by
      cases q : H b with
      | none => rfl
      | some u =>
        have e' : b = a := hA b (by rw [q]; simp)
        subst e'
        rw [ha] at e; cases e
        have d' : Data.seq vs.toArray _ = Data.dict es ep := d
        cases d'
    have nsK : ∀ {b : Addr} {m : Str → Option Value}, s₁.heap.Ns b m → (hidT s₁.heap H).Ns b m := fun {b m} ⟨o, es, ep, e, d, r⟩ => ⟨o, es, ep, base_of e (noA e d), d, r⟩
    have hKb : K.In (hidT s₁.heap H) := fun b o e => base_of (KX b o e) (by
      cases q : H b with
      | none => rfl
      | some u =>
        have e' : b = a := hA b (by rw [q]; simp)
        subst e'
        rw [hK (by rw [q]; simp)] at e; cases e)
    have hM : Mod K mg (hidT s₁.heap H) := ⟨hKb, nsK hns, ⟨mb, nsK hb, hbb⟩, let ⟨mc, h1, h2⟩ := hlim; ⟨mc, nsK h1, h2⟩⟩
    have e0 : Env0 P w K mg (hidT s₁.heap H) callerA [] s₁ H := ⟨rfl, hM, fun b o e => of_hidT e, Nat.le_of_eq (hidT_size _ _), trivial, fun b hb => absurd (show b ∈ ([] : List Addr) from hb) (by simp), hok, .of_eq hg⟩
    refine codeAny_mono ((F _ hKb (nsK hns)).run callerA [] s₁ H ⟨[.ref a], []⟩ [.ref a] [.ref a] _ _ hr e0 (hbind s₁ (.ref a)) (.cons rfl .nil) (hsp H hO hS)) fun r s' h => ?_
    cases r with
    | error e => exact (hCX H e s' h).elim
    | ok fl =>
      cases fl with
      | next => exact False.elim h
      | brk => exact False.elim h
      | cont => exact False.elim h
      | ret u =>
        obtain ⟨v, H', os, bare, un, hok', r', q⟩ := h
        have q' : v = .bl true := q
        subst q'
        obtain rfl : u = Value.bool true := r'
        refine ⟨rfl, OldK.of_keep fun b o e => ?_, os, bare⟩
        cases q : H b with
        | none => exact un.keep b o e q (by intro z; exact absurd (show b ∈ ([] : List Addr) from z) (by simp)) (by simp)
        | some u =>
          rcases hO b with z | ⟨ob, xs, z⟩
          · rw [q] at z; cases z
          · have z2 := un.frzs b ob _ z
            obtain ⟨e1, _⟩ := hok b _ z
            obtain ⟨e2, _⟩ := hok' b _ z2
            rw [e] at e1; cases e1
            exact e2
  cases hk : K.lookup a with
  | some o =>
    -- the script is one of the module's own objects
    have e := KX a o hk
    rw [ha] at e
    cases e
    refine core (fun _ => none) (fun _ => .inl rfl) (.inr ⟨_, vs.toArray, _, hk, rfl, rfl, rfl, by rw [List.size_toArray, lenV]; exact hl, by simpa using rv⟩) (fun b u z => by have z' : (none : Option HO) = some u := z; cases z') (fun b z => absurd rfl z) fun z => absurd rfl z
  | none =>
    refine core (fun b => if b = a then some (.frz { cls := .type "list", data := .seq vs.toArray } (.lst (ns.map V.int))) else none) (fun b => ?_) (.inl (.inr ⟨{ cls := .type "list", data := .seq vs.toArray }, if_pos rfl⟩)) (fun b u z => ?_) (fun b z => ?_) fun _ => hk
    · by_cases hb : b = a
      · exact .inr ⟨_, _, if_pos hb⟩
      · exact .inl (if_neg hb)
    · by_cases hb : b = a
      · have z' := (if_pos hb).symm.trans z
        cases z'
        subst hb
        exact ⟨ha, by rw [List.length_map]; exact hl, vs, _, rv, ha⟩
      · have z' := (if_neg hb).symm.trans z
        cases z'
    · by_cases hb : b = a
      · exact hb
      · exact absurd (if_neg hb) z
end L2
namespace L2
open PySem PySem.Spec PyProof.Rows
abbrev KOf {K : PySem.W.Frag} {h : Heap} (_ : K.In h) : PySem.W.Frag := K
theorem walk_of {l : PySem.W.OpenLaw} {n k : Nat} {q : Program} {loose : List Str} {XP : (Str → Option Value) → Heap → Prop} {YP : World → Heap → Prop} {d : DefRec} {K : Params → PySem.W.Frag} {CX : World → CXT} {sp : World → Sp} {x : Str}
    (hn : l.most = some n) (hn2 : n ≤ sizeLine) (hdf : d.params.defaults = []) (hr : Room k callerA)
    (hY : ∀ (w : World) (h : Heap), YP w h → (K w.params).In h)
    (F : ∀ (w : World) (mg : Str → Option Value) (fa : Addr) (h : Heap), (K w.params).In h → h.Ns mainGlobals mg → mg d.name = some (.ref fa) →
      ∃ fd : FuncData, (∀ (s : Shared) (u : Value), BindsTo s fd ⟨[u], []⟩ [(x, u)]) ∧
        ∀ base : Heap, (K w.params).In base → base.Ns mainGlobals mg → FnOk l.prog w (K w.params) mg base (CX w) k fa fd [x] (sp w))
    (hsp : ∀ (w : World) (H : Hp) (a : Addr) (ns : List Int), ns.length ≤ n → Only H → SqL (K w.params) H a (ns.map V.int) → sp w [.ref a] H (fun v _ => v = .bl true) fun _ _ _ => False)
    (hCX : ∀ (w : World) (H : Hp) (s : Shared) (e : Value) (s' : Shared), CX w [] H s (fun _ _ _ => False) e s' → False) :
    PySem.W.WalkO q loose XP YP l.row.toRowW d [] (fun f vs => PySem.call f vs) := by
  refine Att.attach_call hn hdf fun w s₀ s₁ mg mb fa o pm cd doc a vs ns G Y ho hd hcd hmg hobj hints hlen hg => ?_
  have KX := hY w _ Y
  obtain ⟨fd, hb, hF⟩ := F w mg fa _ KX G.T.g hmg
  exact law_call KX G.T.g G.T.b G.T.builtins G.T.nolimit hg hobj hints (Nat.le_trans hlen hn2) hr hF hb (fun H hO hS => hsp w H a ns hlen hO hS) fun H e s' => hCX w H s₁ e s'
end L2
namespace L2
open PySem PySem.Spec PyProof.Rows
def inClass (s : Stmt) (j : Nat) : Stmt := match s with
  | .ClassDef _ _ _ body _ _ _ _ _ _ _ => body.getD j (.Pass ⟨0, 0, 0, 0⟩)
  | _ => .Pass ⟨0, 0, 0, 0⟩
def defArgs (s : Stmt) : Arguments := match s with
  | .FunctionDef _ a _ _ _ _ _ _ _ _ => a
  | _ => { posonlyargs := [], args := [], vararg := none, kwonlyargs := [], kw_defaults := [], kwarg := none, defaults := [] }
def defBody (s : Stmt) : List Stmt := match s with
  | .FunctionDef _ _ b _ _ _ _ _ _ _ => b
  | _ => []
def defScope (s : Stmt) : Scope := match s with
  | .FunctionDef _ _ _ _ _ _ sc _ _ _ => sc
  | _ => { kind := .function, names := [], isGenerator := false, isCoroutine := false }
abbrev CX0 : CXT := fun _ _ _ _ _ _ => False
abbrev E0 : XK := fun _ _ _ => False
structure Fun (K : PySem.W.Frag) (x qual : Str) (st : Stmt) (f : Addr) (fd : FuncData) : Prop where
  ex : ∃ (oc : Value) (od : Option Addr) (kV doc pm : Value) (an : Option Addr) (cdv ct : Value) (osl : Array (Option Value)),
    fd = PySem.W.fnOf x qual (defArgs st) (defBody st) (defScope st) .none kV doc pm an cdv ct ∧ K.lookup f = some ⟨oc, od, .func fd, osl⟩ ∧ PySem.W.codeIn K cdv qual = true
  kp : PySem.W.keepIn K (.ref f) = true
section
variable {P : Program} {w : World} {K : PySem.W.Frag} {mg : Str → Option Value} {base : Heap}
end
section
variable {X : Cx}
theorem pv (i : Nat) {x : Str} {pos : Pos} (hN : X.N[i]? = some x := by rfl) (hv : Vis X.env.scope x := by first | exact Or.inl rfl | exact Or.inr (Or.inl rfl) | exact Or.inr (Or.inr rfl)) (hd : (x == ("__debug__" : Str)) = false := by decide)
    (hcd : (x == ("__classdict__" : Str)) = false := by decide) : PE X (.Name x pos) (tVar i) := pe_var hN hv hd hcd
end
theorem iteF {A B : Prop} (h : B) : if false = true then A else B := by
  rw [if_neg Bool.false_ne_true]
  exact h
theorem iteT {A B : Prop} (h : A) : if true = true then A else B := by
  rw [if_pos rfl]
  exact h
theorem iteNS {c A B : Prop} [Decidable c] (hc : c) (h : B) : if (!decide c) = true then A else B := by
  rw [decide_eq_true hc]
  exact iteF h
def Same (H H' : Hp) : Prop := ∀ b o, H b = some o → H' b = some o
theorem Same.refl (H : Hp) : Same H H := fun _ _ h => h
theorem Same.trans {H H1 H2 : Hp} (a : Same H H1) (b : Same H1 H2) : Same H H2 := fun c o h => b c o (a c o h)
theorem Same.free {H H' : Hp} (e : Same H H') {l : Addr} (h : H' l = Option.none) : H l = Option.none := by
  cases q : H l with
  | none => rfl
  | some o =>
    rw [e l o q] at h
    cases h
theorem Same.seq {K : PySem.W.Frag} {H H' : Hp} {a : Addr} {xs : List V} (e : Same H H') (h : SqL K H a xs) : SqL K H' a xs := by
  rcases h with (h | ⟨o, h⟩) | h
  · exact .inl (.inl (e _ _ h))
  · exact .inl (.inr ⟨o, e _ _ h⟩)
  · exact .inr h
end L2
set_option Elab.async false
set_option linter.all false
set_option maxRecDepth 100000
namespace L2
open PySem PySem.Spec PyProof.Rows
abbrev kn (b : Bool) : String := if b then "tuple_iterator" else "list_iterator"
def SqAt (b : Bool) (h : Heap) (l : Addr) (items : Array Value) : Prop := match b with
  | true => h.IsTuple l items
  | false => h.IsList l items
def IterAt (b : Bool) (h : Heap) (it l : Addr) (i : Nat) : Prop := match b with
  | true => h.IsTupleIter it l i
  | false => h.IsListIter it l i
theorem SqAt.at {b : Bool} {h h' : Heap} {l : Addr} {items : Array Value} (x : SqAt b h l items) (e : ∀ o, h.get? l = some o → h'.get? l = some o) : SqAt b h' l items := by
  cases b with
  | true => obtain ⟨o, ho, r⟩ := x; exact ⟨o, e o ho, r⟩
  | false => exact Heap.IsList.at x e
theorem IterAt.obj {b : Bool} {h : Heap} {it l : Addr} {i : Nat} (x : IterAt b h it l i) : ∃ o, h.get? it = some o ∧ ∀ v, o.data ≠ .cell v := by
  cases b <;> (obtain ⟨o, ho, c, d⟩ := x; exact ⟨o, ho, fun v z => by rw [d] at z; cases z⟩)
theorem IterAt.at {b : Bool} {h h' : Heap} {it l : Addr} {i : Nat} (x : IterAt b h it l i) (e : ∀ o, h.get? it = some o → h'.get? it = some o) : IterAt b h' it l i := by
  cases b <;> (obtain ⟨o, ho, r⟩ := x; exact ⟨o, e o ho, r⟩)
section
variable {prog : Program} {w : World} {A : Around} {E : Value → Shared → Prop} {s : Shared}
theorem next_tup_item {it t : Addr} {i : Nat} {items : Array Value} {x : Value} {Q : Value → Shared → Prop} (hit : s.heap.IsTupleIter it t i) (ht : s.heap.IsTuple t items) (hx : items[i]? = some x)
    (hQ : ∀ h', h'.IsTupleIter it t (i + 1) → Heap.SameBut it s.heap h' → Q x { s with heap := h' }) : wpAny (model prog w) A (Builtin.SmallTypes.nextOf (.ref it)) Q E s := by
  obtain ⟨o, ho, hc, hd⟩ := id hit; obtain ⟨ol, hol, _, nl, hdl⟩ := ht
  unfold Builtin.SmallTypes.nextOf; refine wpAny_bind (wpAny_callSpecial?_slot (name := Str.ofString "__next__") hit.typeIs F.slot_tuple_iterator_next (wpAny_call_entry F.slot_tuple_iterator_next hit.typeIs F.entry_tuple_iterator_next ?_ (F.args_tuple_iterator_next_1 _)))
  show wpAny _ _ (field (.ref it) 0 >>= _) _ _ s; refine wpAny_bind (wpAny_field ho hd (x := .ref t) rfl ?_)
  show wpAny _ _ (if (Value.ref t == Value.none) = true then _ else _) _ _ s; rw [if_neg (by intro z; cases z)]
  show wpAny _ _ (field (.ref it) 1 >>= _) _ _ s; refine wpAny_bind (wpAny_field ho hd (x := .int i 0) rfl ?_)
  show wpAny _ _ (seqItems? (.ref t) >>= _) _ _ s; refine wpAny_bind (wpAny_seqItems hol hdl ?_); simp only [Int.toNat_natCast, hx]
  refine wpAny_bind (wpAny_setField ho hd (by simp) (wpAny_pure ⟨x, rfl, wpAny_pure (hQ _ ⟨_, Heap.get?_update_self _ ho (Obj.isFreed_of_fields (Obj.data_mapFields hd _)), (Obj.cls_mapFields ..).trans hc, ?_⟩ (Heap.SameBut.update ..))⟩))
  rw [Obj.data_mapFields hd]; simp [rawInt]
theorem next_tup_end {it t : Addr} {i : Nat} {items : Array Value} {Q : Value → Shared → Prop} (hh : A.handled = none) (hit : s.heap.IsTupleIter it t i) (ht : s.heap.IsTuple t items) (hx : items[i]? = none)
    (hE : ∀ h' e, Heap.ExtBut it s.heap h' → (∃ o, h'.get? e = some o ∧ o.cls = .type "StopIteration") → E (.ref e) { s with heap := h' }) : wpAny (model prog w) A (Builtin.SmallTypes.nextOf (.ref it)) Q E s := by
  obtain ⟨o, ho, hc, hd⟩ := id hit; obtain ⟨ol, hol, _, nl, hdl⟩ := ht
  unfold Builtin.SmallTypes.nextOf; refine wpAny_bind (wpAny_callSpecial?_slot (name := Str.ofString "__next__") hit.typeIs F.slot_tuple_iterator_next (wpAny_call_entry F.slot_tuple_iterator_next hit.typeIs F.entry_tuple_iterator_next ?_ (F.args_tuple_iterator_next_1 _)))
  show wpAny _ _ (field (.ref it) 0 >>= _) _ _ s; refine wpAny_bind (wpAny_field ho hd (x := .ref t) rfl ?_)
  show wpAny _ _ (if (Value.ref t == Value.none) = true then _ else _) _ _ s; rw [if_neg (by intro z; cases z)]
  show wpAny _ _ (field (.ref it) 1 >>= _) _ _ s; refine wpAny_bind (wpAny_field ho hd (x := .int i 0) rfl ?_)
  show wpAny _ _ (seqItems? (.ref t) >>= _) _ _ s; refine wpAny_bind (wpAny_seqItems hol hdl ?_); simp only [Int.toNat_natCast, hx]
  refine wpAny_bind (wpAny_rule (wpAny_bind (wpAny_setField ho hd (by simp) ?_))); show wpAny _ _ (newExc (.type "StopIteration") [] >>= _) _ _ _
  refine wpAny_bind ?_; simp only [newExc, newTuple]
  refine wpAny_bind (wpAny_newObj_type ?_ (by size_fits)); refine wpAny_bind (m := firstArgMember _ _) (wpAny_of_eq (a := Value.none) (by first | rfl | (simp only [firstArgMember]; rfl)) ?_)
  refine wpAny_newObj_type ?_ (by size_fits); simp only [raiseNew]; refine wpAny_bind (wpAny_handled ?_)
  first | rw [show A.in1.handled = none from hh] | rw [hh]
  refine wpAny_bind (wpAny_pure (wpAny_throw ?_)); exact hE _ _ (((Heap.SameBut.update ..).extBut.push _).push _) ⟨_, Heap.get?_push_size _ rfl, rfl⟩
theorem next_item {b : Bool} {it l : Addr} {i : Nat} {items : Array Value} {x : Value} {Q : Value → Shared → Prop} (hit : IterAt b s.heap it l i) (hl : SqAt b s.heap l items) (hx : items[i]? = some x)
    (hQ : ∀ h', IterAt b h' it l (i + 1) → Heap.SameBut it s.heap h' → Q x { s with heap := h' }) : wpAny (model prog w) A (Builtin.SmallTypes.nextOf (.ref it)) Q E s := by
  cases b with
  | true => exact next_tup_item hit hl hx hQ
  | false => exact wpAny_nextOf_list_item hit hl hx hQ
theorem next_end {b : Bool} {it l : Addr} {i : Nat} {items : Array Value} {Q : Value → Shared → Prop} (hh : A.handled = none) (hit : IterAt b s.heap it l i) (hl : SqAt b s.heap l items) (hx : items[i]? = none)
    (hE : ∀ h' e, Heap.ExtBut it s.heap h' → (∃ o, h'.get? e = some o ∧ o.cls = .type "StopIteration") → E (.ref e) { s with heap := h' }) : wpAny (model prog w) A (Builtin.SmallTypes.nextOf (.ref it)) Q E s := by
  cases b with
  | true => exact next_tup_end hh hit hl hx hE
  | false => exact wpAny_nextOf_list_end hh hit hl hx hE
theorem iter_sq {b : Bool} {l : Addr} {items : Array Value} {Q : Value → Shared → Prop} (hl : SqAt b s.heap l items)
    (hQ : Q (.ref s.heap.objs.size) { s with heap := s.heap.push { cls := .type (kn b), data := .fields #[.ref l, .int 0 0] } }) : wpAny (model prog w) A (pyIter (.ref l)) Q E s := by
  cases b with
  | true => exact wpAny_pyIter_tuple hl hQ
  | false => exact wpAny_pyIter_list hl hQ
structure ZSt (b1 b2 : Bool) (z TI TO i1 i2 l1 l2 : Addr) (f0 : Value) (k : Nat) (h : Heap) : Prop where
  zip : IsZip h z TI TO f0
  ti : IsPair h TI (.ref i1) (.ref i2)
  to : ∃ a b, IsPair h TO a b
  it1 : IterAt b1 h i1 l1 k
  it2 : IterAt b2 h i2 l2 k
theorem ZSt.at {b1 b2 : Bool} {z TI TO i1 i2 l1 l2 : Addr} {f0 : Value} {k : Nat} {h h' : Heap} (x : ZSt b1 b2 z TI TO i1 i2 l1 l2 f0 k h) (e : ∀ b ∈ [z, TI, TO, i1, i2], ∀ o, h.get? b = some o → h'.get? b = some o) :
    ZSt b1 b2 z TI TO i1 i2 l1 l2 f0 k h' :=
  ⟨e z (by simp) _ x.zip, e TI (by simp) _ x.ti, let ⟨a, b, q⟩ := x.to; ⟨a, b, e TO (by simp) _ q⟩, x.it1.at fun o q => e i1 (by simp) o q, x.it2.at fun o q => e i2 (by simp) o q⟩
theorem zip_item {b1 b2 : Bool} {z TI TO i1 i2 l1 l2 : Addr} {k : Nat} {xs ys : Array Value} {x y : Value} {Q : Value → Shared → Prop} (D : ZipApart z TI TO i1 i2 l1 l2) (S : ZSt b1 b2 z TI TO i1 i2 l1 l2 .none k s.heap)
    (hl1 : SqAt b1 s.heap l1 xs) (hl2 : SqAt b2 s.heap l2 ys) (hx : xs[k]? = some x) (hy : ys[k]? = some y)
    (hQ : ∀ h', ZSt b1 b2 z TI TO i1 i2 l1 l2 (rawInt s.heap.objs.size) (k + 1) h' → IsPair h' s.heap.objs.size x y → h'.objs.size = s.heap.objs.size + 1 →
      (∀ c o, c ≠ z → c ≠ TO → c ≠ i1 → c ≠ i2 → s.heap.get? c = some o → h'.get? c = some o) → Q (.ref s.heap.objs.size) { s with heap := h' }) :
    wpAny (model prog w) A (Builtin.«zip.__next__» ⟨[.ref z], []⟩) (fun fin s' => ∃ v, fin = .done (.ret v) ∧ Q v s') E s := by
  obtain ⟨hz, hTI, ⟨a, b, hTO⟩, h1, h2⟩ := S
  show wpAny _ _ (field (.ref z) 2 >>= _) _ _ _; refine wpAny_bind (wpAny_field hz rfl (x := .bool false) rfl ?_)
  show wpAny _ _ (field (.ref z) 3 >>= _) _ _ _; refine wpAny_bind (wpAny_field hz rfl (x := .ref TI) rfl (wpAny_bind (wpAny_seqItems hTI rfl ?_)))
  show wpAny _ _ (Builtin.SmallTypes.ownedTupleIsFree (.ref z) >>= _) _ _ _; refine wpAny_bind ?_
  unfold Builtin.SmallTypes.ownedTupleIsFree; refine wpAny_bind (wpAny_field hz rfl (x := .none) rfl (wpAny_pure ?_)); simp only [if_true]
  refine wpAny_bind (wpAny_rule (wpAny_bind (wpAny_field hz rfl (x := .ref TO) rfl ?_)))
  refine wpAny_bind (wpAny_setField_rec hz (by simp) fun g1 z1 e1 => ?_)
  replace z1 : IsZip g1 z TI TO .ellipsis := z1; refine wpAny_bind ?_
  simp only [List.zipIdx_cons, List.zipIdx_nil, List.forIn_cons, List.forIn_nil]; refine wpAny_bind (wpAny_bind (wpAny_onRaise ?_))
  show wpAny _ _ (Builtin.SmallTypes.nextOf (.ref i1) >>= _) _ _ _
  have k1 : ∀ c o, c ≠ z → s.heap.get? c = some o → g1.get? c = some o := fun c o hc e => e1.extBut c o hc e
  refine wpAny_bind (next_item (s := { s with heap := g1 }) (h1.at fun o q => k1 i1 o D.i1z q) (hl1.at fun o q => k1 l1 o D.l1z q) hx fun g2 t2 e2 => wpAny_pure ?_)
  have k2 : ∀ c o, c ≠ z → c ≠ i1 → s.heap.get? c = some o → g2.get? c = some o := fun c o hc hd e => e2.extBut c o hd (k1 c o hc e)
  have p2 : IsPair g2 TO a b := k2 TO _ D.TOz D.TOi1 hTO
  refine wpAny_bind (wpAny_seqItems p2 rfl (wpAny_bind (wpAny_updateSeq_pair p2 fun g3 p3 e3 => ?_)))
  replace p3 : IsPair g3 TO x b := p3; refine wpAny_bind (wpAny_letGo (wpAny_pure ?_)); refine wpAny_bind (wpAny_bind (wpAny_onRaise ?_))
  show wpAny _ _ (Builtin.SmallTypes.nextOf (.ref i2) >>= _) _ _ _
  have k3 : ∀ c o, c ≠ z → c ≠ i1 → c ≠ TO → s.heap.get? c = some o → g3.get? c = some o := fun c o hc hd he e => e3.extBut c o he (k2 c o hc hd e)
  refine wpAny_bind (next_item (s := { s with heap := g3 }) (h2.at fun o q => k3 i2 o D.i2z D.i12.symm D.TOi2.symm q) (hl2.at fun o q => k3 l2 o D.l2z D.l2i1 D.l2TO q) hy fun g4 t4 e4 => wpAny_pure ?_)
  have p4 : IsPair g4 TO x b := e4.extBut _ _ D.TOi2 p3
  refine wpAny_bind (wpAny_seqItems p4 rfl (wpAny_bind (wpAny_updateSeq_pair p4 fun g5 p5 e5 => ?_)))
  replace p5 : IsPair g5 TO x y := p5; refine wpAny_bind (wpAny_letGo (wpAny_pure (wpAny_pure ?_))); refine wpAny_bind (wpAny_seqItems p5 rfl (wpAny_bind (wpAny_newTuple ?_)))
  have sz : g5.objs.size = s.heap.objs.size := by rw [e5.1, e4.1, e3.1, e2.1, e1.1]
  have z5 : IsZip g5 z TI TO .ellipsis := e5.extBut _ _ D.TOz.symm (e4.extBut _ _ D.i2z.symm (e3.extBut _ _ D.TOz.symm (e2.extBut _ _ D.i1z.symm z1)))
  have k5 : ∀ c o, c ≠ z → c ≠ TO → c ≠ i1 → c ≠ i2 → s.heap.get? c = some o → g5.get? c = some o := fun c o c1 c2 c3 c4 e => e5.extBut _ _ c2 (e4.extBut _ _ c4 (k3 c o c1 c3 c2 e))
  have t5 : IterAt b1 g5 i1 l1 (k + 1) := t2.at fun o q => e5.extBut _ _ D.TOi1.symm (e4.extBut _ _ D.i12 (e3.extBut _ _ D.TOi1.symm q))
  have u5 : IterAt b2 g5 i2 l2 (k + 1) := t4.at fun o q => e5.extBut _ _ D.TOi2.symm q
  have zlt : z < g5.objs.size := Heap.lt_size z5
  show wpAny _ _ (Builtin.SmallTypes.ownedTupleHandOut (.ref z) (.ref g5.objs.size) >>= _) _ _ _; refine wpAny_bind ?_
  unfold Builtin.SmallTypes.ownedTupleHandOut
  have z6 : IsZip (g5.push { cls := .type "tuple", data := .seq #[x, y] }) z TI TO .ellipsis := Heap.get?_push_of_some _ z5
  refine wpAny_bind (wpAny_setField_rec z6 (by simp) fun g7 z7 e7 => ?_)
  replace z7 : IsZip g7 z TI TO (rawInt g5.objs.size) := z7; refine wpAny_setField_rec z7 (by simp) fun g8 z8 e8 => ?_
  replace z8 : IsZip g8 z TI TO (rawInt g5.objs.size) := z8
  have up : ∀ c o, c ≠ z → g5.get? c = some o → g8.get? c = some o := fun c o c1 e => e8.extBut _ _ c1 (e7.extBut _ _ c1 (Heap.get?_push_of_some _ e))
  have p8 : IsPair g8 g5.objs.size x y := e8.extBut _ _ (Nat.ne_of_gt zlt) (e7.extBut _ _ (Nat.ne_of_gt zlt) (Heap.get?_push_size _ rfl))
  have s8 : g8.objs.size = g5.objs.size + 1 := by rw [e8.1, e7.1, Heap.size_push]
  rw [sz] at z8 p8 s8
  refine wpAny_pure ⟨_, rfl, ?_⟩
  show Q (.ref g5.objs.size) _
  rw [sz]
  exact hQ g8 ⟨z8, up _ _ D.TIz (k5 TI _ D.TIz D.TITO D.TIi1 D.TIi2 hTI), ⟨_, _, up _ _ D.TOz p5⟩, t5.at fun o q => up _ o D.i1z q, u5.at fun o q => up _ o D.i2z q⟩ p8 s8 fun c o c1 c2 c3 c4 e => up c o c1 (k5 c o c1 c2 c3 c4 e)
theorem zip_end {b1 b2 : Bool} {z TI TO i1 i2 l1 l2 : Addr} {k : Nat} {xs ys : Array Value} {Q : Fin → Shared → Prop} (hh : A.handled = none) (D : ZipApart z TI TO i1 i2 l1 l2) (S : ZSt b1 b2 z TI TO i1 i2 l1 l2 .none k s.heap)
    (hl1 : SqAt b1 s.heap l1 xs) (hl2 : SqAt b2 s.heap l2 ys) (hend : xs[k]? = none ∨ ys[k]? = none)
    (hE : ∀ h' e, (∀ c o, c ≠ z → c ≠ TO → c ≠ i1 → c ≠ i2 → s.heap.get? c = some o → h'.get? c = some o) → (∃ o, h'.get? e = some o ∧ o.cls = .type "StopIteration") → E (.ref e) { s with heap := h' }) :
    wpAny (model prog w) A (Builtin.«zip.__next__» ⟨[.ref z], []⟩) Q E s := by
  obtain ⟨hz, hTI, ⟨a, b, hTO⟩, h1, h2⟩ := S
  show wpAny _ _ (field (.ref z) 2 >>= _) _ _ _; refine wpAny_bind (wpAny_field hz rfl (x := .bool false) rfl ?_)
  show wpAny _ _ (field (.ref z) 3 >>= _) _ _ _; refine wpAny_bind (wpAny_field hz rfl (x := .ref TI) rfl (wpAny_bind (wpAny_seqItems hTI rfl ?_)))
  show wpAny _ _ (Builtin.SmallTypes.ownedTupleIsFree (.ref z) >>= _) _ _ _; refine wpAny_bind ?_
  unfold Builtin.SmallTypes.ownedTupleIsFree; refine wpAny_bind (wpAny_field hz rfl (x := .none) rfl (wpAny_pure ?_)); simp only [if_true]
  refine wpAny_bind (wpAny_rule (wpAny_bind (wpAny_field hz rfl (x := .ref TO) rfl ?_)))
  refine wpAny_bind (wpAny_setField_rec hz (by simp) fun g1 z1 e1 => ?_)
  replace z1 : IsZip g1 z TI TO .ellipsis := z1; refine wpAny_bind ?_
  simp only [List.zipIdx_cons, List.zipIdx_nil, List.forIn_cons, List.forIn_nil]; refine wpAny_bind (wpAny_bind (wpAny_onRaise ?_))
  show wpAny _ _ (Builtin.SmallTypes.nextOf (.ref i1) >>= _) _ _ _
  have k1 : ∀ c o, c ≠ z → s.heap.get? c = some o → g1.get? c = some o := fun c o hc e => e1.extBut c o hc e
  cases hx : xs[k]? with
  | none =>
    refine wpAny_bind (next_end (s := { s with heap := g1 }) hh (h1.at fun o q => k1 i1 o D.i1z q) (hl1.at fun o q => k1 l1 o D.l1z q) hx fun g2 e e2 he => ?_)
    obtain ⟨oe, hoe, hce⟩ := he
    have z2 : IsZip g2 z TI TO .ellipsis := e2 _ _ D.i1z.symm z1
    have ez : e ≠ z := fun q => by subst q; rw [z2] at hoe; cases hoe; simp at hce
    exact wpAny_setField_rec z2 (by simp) fun g3 _ e3 => hE g3 e (fun c o c1 _ c3 _ q => e3.extBut _ _ c1 (e2 _ _ c3 (k1 c o c1 q))) ⟨oe, e3.extBut _ _ ez hoe, hce⟩
  | some x =>
    have hy : ys[k]? = none := by
      rcases hend with q | q
      · rw [hx] at q; cases q
      · exact q
    refine wpAny_bind (next_item (s := { s with heap := g1 }) (h1.at fun o q => k1 i1 o D.i1z q) (hl1.at fun o q => k1 l1 o D.l1z q) hx fun g2 t2 e2 => wpAny_pure ?_)
    have k2 : ∀ c o, c ≠ z → c ≠ i1 → s.heap.get? c = some o → g2.get? c = some o := fun c o hc hd e => e2.extBut c o hd (k1 c o hc e)
    have p2 : IsPair g2 TO a b := k2 TO _ D.TOz D.TOi1 hTO
    refine wpAny_bind (wpAny_seqItems p2 rfl (wpAny_bind (wpAny_updateSeq_pair p2 fun g3 p3 e3 => ?_)))
    refine wpAny_bind (wpAny_letGo (wpAny_pure ?_)); refine wpAny_bind (wpAny_bind (wpAny_onRaise ?_))
    show wpAny _ _ (Builtin.SmallTypes.nextOf (.ref i2) >>= _) _ _ _
    have k3 : ∀ c o, c ≠ z → c ≠ i1 → c ≠ TO → s.heap.get? c = some o → g3.get? c = some o := fun c o hc hd he e => e3.extBut c o he (k2 c o hc hd e)
    refine wpAny_bind (next_end (s := { s with heap := g3 }) hh (h2.at fun o q => k3 i2 o D.i2z D.i12.symm D.TOi2.symm q) (hl2.at fun o q => k3 l2 o D.l2z D.l2i1 D.l2TO q) hy fun g4 e e4 he => ?_)
    obtain ⟨oe, hoe, hce⟩ := he
    have z4 : IsZip g4 z TI TO .ellipsis := e4 _ _ D.i2z.symm (e3.extBut _ _ D.TOz.symm (e2.extBut _ _ D.i1z.symm z1))
    have ez : e ≠ z := fun q => by subst q; rw [z4] at hoe; cases hoe; simp at hce
    exact wpAny_setField_rec z4 (by simp) fun g5 _ e5 => hE g5 e (fun c o c1 c2 c3 c4 q => e5.extBut _ _ c1 (e4 _ _ c4 (k3 c o c1 c3 c2 q))) ⟨oe, e5.extBut _ _ ez hoe, hce⟩
end
end L2
namespace L2
open PySem PySem.Spec PyProof.Rows
abbrev zq1 (b1 : Bool) (h : Heap) (l1 : Addr) : Heap := h.push { cls := .type (kn b1), data := .fields #[.ref l1, .int 0 0] }
abbrev zq2 (b1 b2 : Bool) (h : Heap) (l1 l2 : Addr) : Heap := (zq1 b1 h l1).push { cls := .type (kn b2), data := .fields #[.ref l2, .int 0 0] }
abbrev zq3 (b1 b2 : Bool) (h : Heap) (l1 l2 : Addr) : Heap := (zq2 b1 b2 h l1 l2).push { cls := .type "tuple", data := .seq #[.ref h.objs.size, .ref (zq1 b1 h l1).objs.size] }
abbrev zq4 (b1 b2 : Bool) (h : Heap) (l1 l2 : Addr) : Heap := (zq3 b1 b2 h l1 l2).push { cls := .type "tuple", data := .seq #[.none, .none] }
abbrev zq5 (b1 b2 : Bool) (h : Heap) (l1 l2 : Addr) : Heap := (zq4 b1 b2 h l1 l2).push { cls := .type "zip", data := .fields #[.none, .bool false, .bool false, .ref (zq2 b1 b2 h l1 l2).objs.size, .ref (zq3 b1 b2 h l1 l2).objs.size] }
theorem zip_made (b1 b2 : Bool) (l1 l2 : Addr) (xs ys : Array Value) : Meets (Builtin.«zip.__new__» ⟨[.type "zip", .ref l1, .ref l2], []⟩) (fun _ R s => SqAt b1 s.heap l1 xs ∧ SqAt b2 s.heap l2 ys ∧
      R (.ok (.ret (.ref (zq4 b1 b2 s.heap l1 l2).objs.size))) { s with heap := zq5 b1 b2 s.heap l1 l2 }) :=
  .of_wp fun prog w A R s h => by
    obtain ⟨hp, g, d, tk, os⟩ := s; obtain ⟨hl1, hl2, h⟩ := h
    have hsub := sub_zip
    have q1 : SqAt b1 (Shared.heap ⟨hp, g, d, tk, os⟩) l1 xs := hl1
    have q2 : SqAt b2 (Shared.heap ⟨hp.push { cls := .type (kn b1), data := .fields #[.ref l1, .int 0 0] }, g, d, tk, os⟩) l2 ys := SqAt.at hl2 fun o e => Heap.get?_push_of_some _ e
    wp_walk using iter_sq q1, iter_sq q2
    exact ⟨_, rfl, h⟩
theorem call_zip {prog : Program} {w : World} {A : Around} {E : Value → Shared → Prop} {s : Shared} {b1 b2 : Bool} {l1 l2 : Addr} {xs ys : Array Value} {Q : Value → Shared → Prop} (hl1 : SqAt b1 s.heap l1 xs) (hl2 : SqAt b2 s.heap l2 ys)
    (h : ∀ h', ZSt b1 b2 (s.heap.objs.size + 4) (s.heap.objs.size + 2) (s.heap.objs.size + 3) s.heap.objs.size (s.heap.objs.size + 1) l1 l2 .none 0 h' → (∀ c o, s.heap.get? c = some o → h'.get? c = some o) → h'.objs.size = s.heap.objs.size + 5 →
      Q (.ref (s.heap.objs.size + 4)) { s with heap := h' }) : wpAny (model prog w) A (call (.type "zip") [.ref l1, .ref l2]) Q E s := by
  refine callType_new F.called_zip (by decide) (F.typeCall_zip_2 _ _) (F.newCall_zip_2 _ _) (fun obj => F.args_object_init_3 obj _ _) F.entry_zip_new (zip_made b1 b2 l1 l2 xs ys) ⟨hl1, hl2, ?_⟩
  have z1 : (zq1 b1 s.heap l1).objs.size = s.heap.objs.size + 1 := Heap.size_push ..
  have z2 : (zq2 b1 b2 s.heap l1 l2).objs.size = s.heap.objs.size + 2 := by rw [Heap.size_push, z1]
  have z3 : (zq3 b1 b2 s.heap l1 l2).objs.size = s.heap.objs.size + 3 := by rw [Heap.size_push, z2]
  have z4 : (zq4 b1 b2 s.heap l1 l2).objs.size = s.heap.objs.size + 4 := by rw [Heap.size_push, z3]
  have z5 : (zq5 b1 b2 s.heap l1 l2).objs.size = s.heap.objs.size + 5 := by rw [Heap.size_push, z4]
  have up1 : ∀ {h : Heap} {o : Obj} {c : Addr} {u : Obj}, h.get? c = some u → (h.push o).get? c = some u := fun e => Heap.get?_push_of_some _ e
  have g5 : (zq5 b1 b2 s.heap l1 l2).get? (zq4 b1 b2 s.heap l1 l2).objs.size = some _ := Heap.get?_push_size _ rfl
  have g4 : (zq5 b1 b2 s.heap l1 l2).get? (zq3 b1 b2 s.heap l1 l2).objs.size = some _ := up1 (Heap.get?_push_size _ rfl)
  have g3 : (zq5 b1 b2 s.heap l1 l2).get? (zq2 b1 b2 s.heap l1 l2).objs.size = some _ := up1 (up1 (Heap.get?_push_size _ rfl))
  have g2 : (zq5 b1 b2 s.heap l1 l2).get? (zq1 b1 s.heap l1).objs.size = some _ := up1 (up1 (up1 (Heap.get?_push_size _ rfl)))
  have g1 : (zq5 b1 b2 s.heap l1 l2).get? s.heap.objs.size = some _ := up1 (up1 (up1 (up1 (Heap.get?_push_size _ rfl))))
  show _ ∧ _
  rw [z2, z3, z4] at g5
  rw [z1, z2] at g3
  rw [z3] at g4
  rw [z1] at g2
  rw [z4]
  refine ⟨⟨_, g5, rfl⟩, h _ ⟨g5, g3, ⟨_, _, g4⟩, ?_, ?_⟩ (fun c o x => up1 (up1 (up1 (up1 (up1 x))))) z5⟩
  · cases b1 <;> exact ⟨_, g1, rfl, rfl⟩
  · cases b2 <;> exact ⟨_, g2, rfl, rfl⟩
theorem pyNext_zip_item {prog : Program} {w : World} {A : Around} {E : Value → Shared → Prop} {s : Shared} {b1 b2 : Bool} {z TI TO i1 i2 l1 l2 : Addr} {k : Nat} {xs ys : Array Value} {x y : Value} {Q : Option Value → Shared → Prop} (D : ZipApart z TI TO i1 i2 l1 l2)
    (S : ZSt b1 b2 z TI TO i1 i2 l1 l2 .none k s.heap) (hl1 : SqAt b1 s.heap l1 xs) (hl2 : SqAt b2 s.heap l2 ys) (hx : xs[k]? = some x) (hy : ys[k]? = some y)
    (hQ : ∀ h', ZSt b1 b2 z TI TO i1 i2 l1 l2 (rawInt s.heap.objs.size) (k + 1) h' → IsPair h' s.heap.objs.size x y → h'.objs.size = s.heap.objs.size + 1 →
      (∀ c o, c ≠ z → c ≠ TO → c ≠ i1 → c ≠ i2 → s.heap.get? c = some o → h'.get? c = some o) → Q (some (.ref s.heap.objs.size)) { s with heap := h' }) : wpAny (model prog w) A (pyNext (.ref z)) Q E s := by
  have hT : s.TypeIs (.ref z) "zip" := ⟨_, S.zip, rfl⟩; unfold pyNext
  refine wpAny_bind (wpAny_attempt (wpAny_callSpecial?_slot (name := Str.ofString "__next__") hT F.slot_zip_next (wpAny_call_entry F.slot_zip_next hT F.entry_zip_next ?_ (F.args_zip_next_1 _))))
  exact zip_item D S hl1 hl2 hx hy fun h' a1 a2 a3 a4 => wpAny_pure (hQ h' a1 a2 a3 a4)
theorem pyNext_zip_end {prog : Program} {w : World} {A : Around} {E : Value → Shared → Prop} {s : Shared} {b1 b2 : Bool} {z TI TO i1 i2 l1 l2 : Addr} {k : Nat} {xs ys : Array Value} {Q : Option Value → Shared → Prop} (hh : A.handled = none) (D : ZipApart z TI TO i1 i2 l1 l2)
    (S : ZSt b1 b2 z TI TO i1 i2 l1 l2 .none k s.heap) (hl1 : SqAt b1 s.heap l1 xs) (hl2 : SqAt b2 s.heap l2 ys) (hend : xs[k]? = none ∨ ys[k]? = none)
    (hQ : ∀ h', (∀ c o, c ≠ z → c ≠ TO → c ≠ i1 → c ≠ i2 → s.heap.get? c = some o → h'.get? c = some o) → Q none { s with heap := h' }) : wpAny (model prog w) A (pyNext (.ref z)) Q E s := by
  have hT : s.TypeIs (.ref z) "zip" := ⟨_, S.zip, rfl⟩; unfold pyNext
  refine wpAny_bind (wpAny_attempt (wpAny_callSpecial?_slot (name := Str.ofString "__next__") hT F.slot_zip_next (wpAny_call_entry F.slot_zip_next hT F.entry_zip_next ?_ (F.args_zip_next_1 _))))
  refine zip_end hh D S hl1 hl2 hend fun h' e hk ⟨o, ho, hc⟩ => ?_
  exact wpAny_bind (wpAny_isInstance (T := "StopIteration") (b := true) ⟨o, ho, hc⟩ isSubtype_stop (wpAny_pure (hQ _ hk)))
end L2
namespace L2
open PySem PySem.Spec PyProof.Rows
section
variable {prog : Program} {w : World} {A : Around} {R : Result → Shared → Prop} {s : Shared}
abbrev E00 : Value → Shared → Prop := fun _ _ => False
abbrev ifsOf (ifs : List Expr) (env : Env) : Sem Bool :=
  forIn ifs true fun c r => if r = true then do
      let ok ← isTrue c env (eval c env)
      pure (ForInStep.yield ok)
    else pure (ForInStep.yield r)
theorem comp_turns {elt tg iter : Expr} {ifs : List Expr} {scope : Scope} {pos : Pos} {it acc : Value} {env : Env} (J : Nat → Shared → Prop)
    (turn : ∀ n s, J n s → wpAny (model prog w) A (pyNext it) (fun r s1 => match r with
      | none => R (.ok .next) s1
      | some v => wpAny (model prog w) A (letOwnedTupleGo tg it v) (fun _ s2 => wpAny (model prog w) A (assign tg env v) (fun _ s3 =>
          wpAny (model prog w) A (ifsOf ifs env) (fun ok s4 =>
            if ok = true then
              wpAny (model prog w) A (eval elt env) (fun x s5 => wpAny (model prog w) A (call (.builtin "list.append") [acc, x]) (fun _ s6 => ∃ m, m < n ∧ J m s6) E00 s5) E00 s4
            else ∃ m, m < n ∧ J m s4) E00 s3) E00 s2) E00 s1) E00 s)
    (n : Nat) (h : J n s) : codeAny (model prog w) A (.compLoop (.ListComp elt [⟨tg, iter, ifs, 0⟩] scope pos) 0 it acc env) R s := by
  have fl : ∀ {α : Type} {t : Sem α} {Q : α → Shared → Prop} {E : Value → Shared → Prop} {s : Shared}, wpAny (model prog w) A t Q E00 s → wpAny (model prog w) A t Q E s := fun h => wpAny_mono h (fun _ _ q => q) fun _ _ z => z.elim
  refine codeAny_loop rfl J (fun n s hJ => ?_) n h
  show wpAny _ A ((compTurn (.ListComp elt [⟨tg, iter, ifs, 0⟩] scope pos) 0 it acc env).onRaise _) _ _ s
  refine wpAny_noted ?_
  rw [compTurn_list]
  refine wpAny_bind (wpAny_standAt (wpAny_bind (thn (fl (turn n s hJ)) fun r s1 h1 => ?_)))
  cases r with
  | none => exact wpAny_pure h1
  | some v =>
    refine wpAny_bind (thn (fl h1) fun _ s2 h2 => ?_)
    refine wpAny_bind (thn (fl h2) fun _ s3 h3 => ?_)
    refine wpAny_bind (thn (fl h3) fun ok s4 h4 => ?_)
    cases ok with
    | false => exact wpAny_pure ⟨rfl, h4⟩
    | true =>
      refine wpAny_bind (wpAny_bind (thn (fl h4) fun x s5 h5 => ?_))
      exact wpAny_bind (thn (fl h5) fun _ s6 h6 => wpAny_pure (wpAny_pure ⟨rfl, h6⟩))
end
def blk (X : Cx) (N : List Str) (scope : Scope) (cl : List (Str × Addr)) (C : Addr) (s : Shared) (H : Hp) (fp : List Addr) : Cx :=
  { X with N := N, s₀ := s, H₀ := H, env := compEnvC scope cl C X.env, outer := X.stack, ex := fp, fn := fun _ => false, pn := [], xe := fun _ _ => False }
structure Blk (X : Cx) (N : List Str) (scope : Scope) (cl : List (Str × Addr)) (mp : List (Option Nat)) : Prop where
  clos : closureFor scope X.env = pure cl
  cell : ∀ y ∈ scope.names, y.2 ≠ .cell
  kind : scope.kind = .function
  nms : ∀ y ∈ scope.names, y.2 = .local → scope.names.lookup y.1 = some .local
  nd : N.Nodup
  sub : ∀ x c, cl.lookup x = some c → X.env.cells.lookup x = some c
  has : ∀ x, ((relabel scope X.env).names.lookup x = some .cell ∨ (relabel scope X.env).names.lookup x = some .free) → ∃ c, cl.lookup x = some c
  len : mp.length = N.length
  map : ∀ (i j : Nat) (x : Str), mp[i]? = some (some j) → N[i]? = some x → X.N[j]? = some x ∧ (X.env.scope.names.lookup x = some .cell ∨ X.env.scope.names.lookup x = some .free) ∧
    ((relabel scope X.env).names.lookup x = some .cell ∨ (relabel scope X.env).names.lookup x = some .free)
def st0 (mp : List (Option Nat)) (σ : St) : St := mp.map fun o => match o with
  | some j => (σ[j]?).getD none
  | none => none
section
variable {X : Cx} {pins : List (Addr × Obj)} {σ : St} {H : Hp} {s : Shared} {N : List Str} {scope : Scope} {cl : List (Str × Addr)} {mp : List (Option Nat)} {fp : List Addr}
theorem blk_inv (B : Blk X N scope cl mp) (I : Inv X pins σ H s) (f : ∀ b ∈ fp, FpOk X pins H b) (lt : ∀ b ∈ fp, b < s.heap.objs.size) {h1 : Heap} {t' : Nat} (hns : h1.Ns s.heap.objs.size (fun _ => none))
    (k : ∀ b o, s.heap.get? b = some o → h1.get? b = some o) : Inv (blk X N scope cl s.heap.objs.size s H fp) [] (st0 mp σ) H { s with heap := h1, toks := t' } := by
  have fin : ∀ b ∈ fp, b ∉ frs X.stack := fun b hb z => by
    obtain ⟨_, f1, f2, _⟩ := f b hb
    rcases List.mem_cons.mp (I.stkSub b z) with e | e
    · exact f1 e
    · exact f2 e
  have ok : (blk X N scope cl s.heap.objs.size s H fp).Ok := by
    refine ⟨I.ok.mod, B.kind, I.ok.glob, I.ok.blt, Nat.le_refl _, fun x y c h1 h2 => I.ok.inj x y c (B.sub x c h1) (B.sub y c h2), fun x hx => B.has x hx, (fun x c hf => nomatch (show false = true from hf)), I.ok.hd, I.ok.frames, .inl rfl, fun b hb => ?_, I.bs, Nat.le_trans I.ok.bsz I.sz, fun b o e hb => ?_, fin, I.stack, I.stkFree⟩
    · obtain ⟨f0, f1, f2, f3, f4, f5⟩ := f b hb
      exact ⟨Nat.ne_of_lt (lt b hb), fun x c e => f4 x c (B.sub x c e)⟩
    · obtain ⟨f0, f1, f2, f3, f4, f5⟩ := f b hb
      rcases f3 with z | z
      · exact I.ok.noex b o e z
      · exact absurd (Nat.lt_of_lt_of_le (Heap.lt_size e) (Nat.le_trans I.ok.bsz z)) (Nat.lt_irrefl _)
  refine ⟨ok, rfl, I.bare, Un.kept k, ⟨_, hns, fun i x v e1 e2 e3 => ?_⟩, fun x c e => ?_, I.hok.fresh (Nat.le_refl _), fun x c e => I.freeC x c (B.sub x c e), fun p hp => absurd (show p ∈ ([] : List (Addr × Obj)) from hp) (by simp), I.hok.kept k, ?_⟩
  · have e2' : ∃ j, mp[i]? = some (some j) ∧ σ[j]? = some (some v) := by
      unfold st0 at e2
      rw [List.getElem?_map] at e2
      cases q : mp[i]? with
      | none => rw [q] at e2; cases e2
      | some o =>
        rw [q] at e2
        cases o with
        | none => cases e2
        | some j =>
          refine ⟨j, rfl, ?_⟩
          have e2'' : (σ[j]?).getD none = some v := Option.some.inj e2
          cases r : σ[j]? with
          | none => rw [r] at e2''; cases e2''
          | some z => rw [r] at e2''; exact congrArg some e2''
    obtain ⟨j, hj, hv⟩ := e2'
    obtain ⟨hN, ho, hi⟩ := B.map i j x hj e1
    obtain ⟨m, hm, hl⟩ := I.loc
    obtain ⟨u, r, l⟩ := hl j x v hN hv (ho.elim (fun z => .inr (.inl z)) fun z => .inr (.inr z))
    refine ⟨u, r, .inr ⟨hi, ?_⟩⟩
    rcases l with ⟨z, _⟩ | ⟨_, c, ec, z⟩
    · have z' : X.env.scope.names.lookup x = some .local := z
      rcases ho with ho | ho
      · rw [z'] at ho; cases ho
      · rw [z'] at ho; cases ho
    · obtain ⟨c', ec'⟩ := B.has x hi
      have q := B.sub x c' ec'
      rw [ec] at q; cases q
      obtain ⟨o, eo, d⟩ := z
      exact ⟨c, ec', o, k c o eo, d⟩
  · obtain ⟨v, o, eo, d⟩ := I.cell x c (B.sub x c e)
    exact ⟨v, o, k c o eo, d⟩
  · show (st0 mp σ).length = N.length
    unfold st0
    rw [List.length_map]; exact B.len
theorem blk_out {N' : List Str} {C : Addr} {H' : Hp} {σ' : St} {s' : Shared} {h' : Heap} (I : Inv X pins σ H s) (f : ∀ b ∈ fp, FpOk X pins H b) (hC : s.heap.objs.size ≤ C)
    (J : Inv (blk X N' scope cl C s H fp) [] σ' H' s') (sb : Heap.SameBut C s'.heap h') : Inv X pins σ H' { s' with heap := h' } := by
  have ub : Un (frs X.stack) fp H H' s.heap s'.heap := J.base
  have ne : ∀ b o, s.heap.get? b = some o → b ≠ C := fun b o e => Nat.ne_of_lt (Nat.lt_of_lt_of_le (Heap.lt_size e) hC)
  have u : Un (frs X.stack) fp H H' s.heap h' := by
    refine ⟨fun b o e n hb hx => (sb.2 b (ne b o e)).trans (ub.keep b o e n hb hx), fun b o e n hb hx => ?_, ub.free, fun b o e hx => ?_, ub.tups, ub.frzs, ub.tbls⟩
    · obtain ⟨sl, q⟩ := ub.slot b o e n hb hx
      exact ⟨sl, (sb.2 b (ne b o e)).trans q⟩
    · obtain ⟨o', q⟩ := ub.there b o e hx
      exact ⟨o', (sb.2 b (ne b o e)).trans q⟩
  have fC : H' C = none := J.free
  have ok' : HOk X.prog X.w H' h' := fun b ob e => by
    have jok : HOk X.prog X.w H' s'.heap := J.hok
    refine (jok b ob e).stay (fun c v hc q => (sb.2 c ?_).trans q) (fun _ q => q) fun _ _ q => q
    rintro rfl
    rcases hc with rfl | hc
    · rw [fC] at e; cases e
    · rw [fC] at hc; cases hc
  refine I.call' (s' := { s' with heap := h' }) (ch := fp) ?_ u ok' J.bare fun b hb => ?_
  · exact J.os
  · obtain ⟨f0, f1, f2, f3, f4, f5⟩ := f b hb
    exact ⟨f3, f1, f4, f5⟩
end
def PTs (X : Cx) (ifs : List Expr) (t : TT) : Prop :=
  ∀ (pins : List (Addr × Obj)) (s : Shared) (σ : St) (H : Hp) (Q : Bool → Hp → Prop), Inv X pins σ H s → t σ H Q → wpAny (model X.prog X.w) X.A (ifsOf ifs X.env) (TP X pins σ Q) X.xe s
def tYes : TT := fun _ H Q => Q true H
theorem pts_nil {X : Cx} : PTs X [] tYes := fun _ _ _ H _ I h => wpAny_pure ⟨H, I, h⟩
@[irreducible] def tComp (mp : List (Option Nat)) (wi : TI) (g : TG) (tc : TT) (te : TE) : TE := fun σ H Q => wi σ H fun J H1 => ∀ D, H1 D = none → ∃ W : Nat → Nat → List V → St → Hp → Prop,
  (∃ m, W 0 m [] (st0 mp σ) (upd H1 D (.lst []))) ∧ ∀ i m ys σ' H', W i m ys σ' H' → H' D = some (.lst ys) ∧
    ((J.stop i H' ∧ Q (.ref D) H') ∨ (J.go i H' ∧ ys.length < sizeLine ∧ ∀ x H2, J.yld i H' x H2 → g x σ' H2 fun σ2 H3 => tc σ2 H3 fun b H4 =>
      if b = true then te σ2 H4 fun v H5 => H5 D = some (.lst ys) ∧ ∃ m', m' < m ∧ W (i + 1) m' (ys ++ [v]) σ2 (upd H5 D (.lst (ys ++ [v])))
      else ∃ m', m' < m ∧ W (i + 1) m' ys σ2 H4))
def CompW (J : It) (D : Addr) (g : TG) (tc : TT) (te : TE) (Qf : Hp → Prop) (W : Nat → Nat → List V → St → Hp → Prop) : Prop := ∀ i m ys σ' H', W i m ys σ' H' → H' D = some (.lst ys) ∧
    ((J.stop i H' ∧ Qf H') ∨ (J.go i H' ∧ ys.length < sizeLine ∧ ∀ x H2, J.yld i H' x H2 → g x σ' H2 fun σ2 H3 => tc σ2 H3 fun b H4 =>
      if b = true then te σ2 H4 fun v H5 => H5 D = some (.lst ys) ∧ ∃ m', m' < m ∧ W (i + 1) m' (ys ++ [v]) σ2 (upd H5 D (.lst (ys ++ [v])))
      else ∃ m', m' < m ∧ W (i + 1) m' ys σ2 H4))
theorem comp_block {X : Cx} {N : List Str} {scope : Scope} {cl : List (Str × Addr)} {mp : List (Option Nat)} {elt tg iter : Expr} {ifs : List Expr} {g : TG} {tc : TT} {te : TE} {pos : Pos} (B : Blk X N scope cl mp) (hc : X.calm = true)
    (hg : ∀ C s H fp, PG (blk X N scope cl C s H fp) tg g) (ht : ∀ C s H fp, PTs (blk X N scope cl C s H fp) ifs tc) (he : ∀ C s H fp, PE (blk X N scope cl C s H fp) elt te)
    {pins : List (Addr × Obj)} {σ : St} {HD : Hp} {s : Shared} {fp : List Addr} {it D : Addr} {tn : Nat → Heap → Prop} {J : It} {Qf : Hp → Prop} {W : Nat → Nat → List V → St → Hp → Prop} {m0 : Nat} {E : Value → Shared → Prop} {RR : Addr → Result → Shared → Prop}
    (I : Inv X pins σ HD s) (f : ∀ b ∈ fp, FpOk X pins HD b) (T : Turn X.prog X.w X.K tg J fp it tn) (st : tn 0 s.heap) (w0 : W 0 m0 [] (st0 mp σ) HD) (turn : CompW J D g tc te Qf W)
    (hRR : ∀ C H' σ' s', s.heap.objs.size ≤ C → Inv (blk X N scope cl C s HD fp) [] σ' H' s' → Qf H' → RR C (.ok .next) s') :
    wpAny (model X.prog X.w) X.A (newFunctionEnv scope X.env.globals cl [] X.env.qual none .none (some X.env)) (fun cenv s4 =>
      codeAny (model X.prog X.w) X.A (.compStart (.ListComp elt [⟨tg, iter, ifs, 0⟩] scope pos) 0 (.ref it) (.ref D) { cenv with scope := relabel scope X.env }) (RR cenv.locals) s4) E s := by
  have lt : ∀ b ∈ fp, b < s.heap.objs.size := fun b hb => let ⟨o, e, _⟩ := T.obj _ _ st b hb; Heap.lt_size e
  refine wpAny_newFunctionEnv B.cell (by intro y hy; simp at hy) (fun h3 hns hsb => ?_) B.kind
  have k3 : ∀ b o, s.heap.get? b = some o → h3.get? b = some o := fun b o e => (hsb.2 b (Nat.ne_of_lt (Heap.lt_size e))).trans (Heap.get?_push_of_some _ e)
  have JB := blk_inv (t' := s.toks + ([] : List (Str × Value)).length) B I f lt hns k3
  have st3 : tn 0 h3 := T.keep _ _ _ st fun b _ o e => k3 b o e
  have fin : ∀ b ∈ fp, b ∉ frs X.stack := fun b hb z => by
    obtain ⟨_, f1, f2, _⟩ := f b hb
    rcases List.mem_cons.mp (I.stkSub b z) with e | e
    · exact f1 e
    · exact f2 e
  have stat : ∀ {H' : Hp}, (∀ b ∈ fp, H' b = none) → ∀ b ∈ fp, FpOk (blk X N scope cl s.heap.objs.size s HD fp) [] H' b := fun {H'} hn b hb => by
    obtain ⟨f0, f1, f2, f3, f4, f5⟩ := f b hb
    exact ⟨hn b hb, Nat.ne_of_lt (lt b hb), fin b hb, .inl hb, fun x c e => f4 x c (B.sub x c e), fun p hp => absurd (show p ∈ ([] : List (Addr × Obj)) from hp) (by simp)⟩
  have loop : codeAny (model X.prog X.w) X.A (.compLoop (.ListComp elt [⟨tg, iter, ifs, 0⟩] scope pos) 0 (.ref it) (.ref D) (compEnvC scope cl s.heap.objs.size X.env)) (RR s.heap.objs.size) { s with heap := h3, toks := s.toks + ([] : List (Str × Value)).length } := by
    refine comp_turns (fun n s' => ∃ i ys σ' H', Inv (blk X N scope cl s.heap.objs.size s HD fp) [] σ' H' s' ∧ tn i s'.heap ∧ (∀ b ∈ fp, H' b = none) ∧ W i n ys σ' H') ?_ m0 ⟨0, [], _, HD, JB, st3, fun b hb => (f b hb).1, w0⟩
    rintro n s5 ⟨i, ys, σ5, H5, I5, st5, fr5, w5⟩
    obtain ⟨hD, tr⟩ := turn i n ys σ5 H5 w5
    rcases tr with ⟨stop, qn⟩ | ⟨go, hz, step⟩
    · refine thn (T.done (blk X N scope cl s.heap.objs.size s HD fp) rfl rfl rfl hc i [] s5 σ5 H5 E00 I5 (stat fr5) st5 stop) fun r s6 ⟨hr, I6⟩ => ?_
      subst hr
      exact hRR _ H5 σ5 s6 (Nat.le_refl _) I6 qn
    · refine thn (T.item (blk X N scope cl s.heap.objs.size s HD fp) rfl rfl rfl hc i [] s5 σ5 H5 E00 I5 (stat fr5) st5 go) fun r s6 ⟨u, hr, h6⟩ => ?_
      subst hr
      refine thn h6 fun _ s7 ⟨x, H7, I7, r7, y7, st7, fr7⟩ => ?_
      have I7' := I7.pinned (stat fr7) (T.obj _ _ st7)
      have again : ∀ {ys' : List V} {σ8 : St} {H8 : Hp} {s8 : Shared} {m' : Nat}, Inv (blk X N scope cl s.heap.objs.size s HD fp) ([] ++ pinsAt fp s7.heap) σ8 H8 s8 → m' < n → W (i + 1) m' ys' σ8 H8 →
          ∃ m, m < n ∧ ∃ i ys σ' H', Inv (blk X N scope cl s.heap.objs.size s HD fp) [] σ' H' s8 ∧ tn i s8.heap ∧ (∀ b ∈ fp, H' b = none) ∧ W i m ys σ' H' := fun {ys' σ8 H8 s8 m'} I8 hm w8 => by
        refine ⟨m', hm, i + 1, ys', σ8, H8, I8.unpinned, T.keep _ _ _ st7 fun b hb o e => (I8.pin (b, o) (List.mem_append_right _ (List.mem_append_right _ (mem_pinsAt hb e)))).1, fun b hb => ?_, w8⟩
        obtain ⟨o, e, d⟩ := T.obj _ _ st7 b hb
        exact (I8.pin (b, o) (List.mem_append_right _ (List.mem_append_right _ (mem_pinsAt hb e)))).2.1
      refine thn (hg _ _ _ _ _ s7 σ5 H7 x u _ I7' r7 (step x H7 y7)) fun _ s8 ⟨σ8, H8, I8, q8⟩ => ?_
      refine thn (ht _ _ _ _ _ s8 σ8 H8 _ I8 q8) fun ok s9 ⟨H9, I9, q9⟩ => ?_
      cases ok with
      | false =>
        rw [if_neg (by decide)] at q9
        obtain ⟨m', hm, w9⟩ := q9
        rw [if_neg (by decide)]
        exact again I9 hm w9
      | true =>
        rw [if_pos rfl] at q9
        rw [if_pos rfl]
        refine thn (he _ _ _ _ _ s9 σ8 H9 _ I9 q9) fun xv s10 ⟨v, H10, I10, r10, hD10, m', hm, w'⟩ => ?_
        refine thn (mt_append _ s10 σ8 H10 (.ref D) [v] (.ref D) [xv] (fun _ H' => H' = upd H10 D (.lst (ys ++ [v]))) I10 rfl (.cons r10 .nil) ⟨D, ys, v, rfl, rfl, hD10, hz, rfl⟩) fun _ s11 ⟨_, H11, I11, _, e11⟩ => ?_
        subst e11
        exact again I11 hm w'
  exact codeAny_compStart_list loop (T.self _ 0 _ _ _ st3 loop)
theorem pe_comp {X : Cx} {N : List Str} {scope : Scope} {cl : List (Str × Addr)} {mp : List (Option Nat)} {elt tg iter : Expr} {ifs : List Expr} {wi : TI} {g : TG} {tc : TT} {te : TE} {pos : Pos} (B : Blk X N scope cl mp) (hc : X.calm = true)
    (hi : PI X tg iter wi) (hg : ∀ C s H fp, PG (blk X N scope cl C s H fp) tg g) (ht : ∀ C s H fp, PTs (blk X N scope cl C s H fp) ifs tc) (he : ∀ C s H fp, PE (blk X N scope cl C s H fp) elt te)
    (hs : ∀ x, foldedSetIterable iter X.env x = pure x := by intro _; rfl) : PE X (.ListComp elt [⟨tg, iter, ifs, 0⟩] scope pos) (tComp mp wi g tc te) := by
  intro pins s σ H Q I h
  unfold tComp at h
  rw [eval_ListComp]
  refine wpAny_comprehension_free (use := none) (cl := cl) rfl hs B.clos B.kind B.nms (thn (hi pins s σ H _ I h) fun v s1 h1 => thn h1 fun itv s2 h2 => ?_)
  obtain ⟨it, fp, tn, J, H2, rfl, I2, T, st2, f2, q⟩ := h2
  have lt2 : ∀ b ∈ fp, b < s2.heap.objs.size := fun b hb => let ⟨o, e, _⟩ := T.obj _ _ st2 b hb; Heap.lt_size e
  obtain ⟨W, ⟨m0, w0⟩, turn⟩ := q _ I2.fresh
  have ID := I2.lnew (ys := []) (its := []) (t' := s2.toks) .nil (Nat.zero_le _)
  have fD' : ∀ b ∈ fp, FpOk X pins (upd H2 s2.heap.objs.size (.lst [])) b := fun b hb => by
    obtain ⟨f0, r⟩ := f2 b hb
    exact ⟨by rw [upd_ne (Nat.ne_of_lt (lt2 b hb))]; exact f0, r⟩
  refine wpAny_newObj_type (comp_block B hc hg ht he ID fD' T (T.keep _ _ _ st2 fun b _ o e => Heap.get?_push_of_some _ e) w0 turn fun C H' σ' s' hC J' qf => ?_)
  obtain ⟨m, hm, _⟩ := J'.loc
  exact ⟨m, hm, fun h' sb => ⟨.ref _, H', blk_out ID fD' hC J' sb, rfl, qf⟩⟩
end L2
namespace L2
open PySem PySem.Spec PyProof.Rows
def SqX (K : PySem.W.Frag) (b : Bool) (H : Hp) (a : Addr) (xs : List V) : Prop := match b with
  | true => SqT K H a xs
  | false => SqL K H a xs
section
variable {X : Cx} {pins : List (Addr × Obj)} {σ : St} {H : Hp} {s : Shared} {b : Bool} {a : Addr} {xs ys : List V}
theorem Inv.sq (I : Inv X pins σ H s) (h : SqX X.K b H a xs) : ∃ its : List Value, Vals xs its ∧ SqAt b s.heap a its.toArray := by
  cases b with
  | true => obtain ⟨its, rv, p, _⟩ := I.tuple h; exact ⟨its, rv, show s.heap.IsTuple a its.toArray from p⟩
  | false => obtain ⟨its, rv, p, _⟩ := I.list h; exact ⟨its, rv, p.isList⟩
theorem Inv.sq_inj (I : Inv X pins σ H s) (h : SqX X.K b H a xs) (h' : SqX X.K b H a ys) : xs = ys := by
  cases b with
  | true => exact I.tuple_inj h h'
  | false => exact I.list_inj h h'
theorem Inv.turnedL {ch : List Addr} {h' : Heap} {t' : Nat} (I : Inv X pins σ H s) (hf : ∀ b ∈ ch, FpOk X pins H b) (k : ∀ b o, b ∉ ch → s.heap.get? b = some o → h'.get? b = some o) : Inv X pins σ H { s with heap := h', toks := t' } := by
  have nch : ∀ b u, H b = some u → b ∉ ch := fun b u e z => by have q := (hf b z).1; rw [q] at e; cases e
  refine I.step (g' := s.gens) (d' := s.drawn) (ch := ch) (fun b hb => ?_) (fun b o _ _ hc e _ => k b o hc e) (fun b o _ _ hc e _ => ⟨o.slots, k b o hc e⟩) (fun _ _ _ _ n => n)
    (fun b o hc e => ⟨o, k b o hc e⟩) (fun _ _ e => e) (fun _ _ _ e => e) (fun b ps e => ⟨#[], by rw [e]; simp⟩) (fun m hm => ?_) (fun b u e => ?_) I.bare
  · obtain ⟨f0, f1, f2, f3, f4, f5⟩ := hf b hb
    exact ⟨f3, f1, f4, f5⟩
  · obtain ⟨o, es, ep, ho, r⟩ := hm
    exact ⟨o, es, ep, k _ o (fun z => (hf _ z).2.1 rfl) ho, r⟩
  · refine (I.hok b u e).stay (fun c v hc q => k c v ?_ q) (fun _ q => q) fun _ _ q => q
    rcases hc with z | z
    · rw [z]; exact nch b u e
    · exact nch c _ z
theorem Inv.drawn {ch : List Addr} {h' : Heap} {t' : Nat} {p : Addr} {o : HO} (I : Inv X pins σ H s) (hf : ∀ b ∈ ch, FpOk X pins H b) (k : ∀ b o, b ∉ ch → s.heap.get? b = some o → h'.get? b = some o) (hp : s.heap.objs.size ≤ p)
    (new : ObjOk X.prog X.w (upd H p o) h' p o) : Inv X pins σ (upd H p o) { s with heap := h', toks := t' } := by
  have nch : ∀ b u, H b = some u → b ∉ ch := fun b u e z => by have q := (hf b z).1; rw [q] at e; cases e
  have hn : H p = none := I.hok.fresh hp
  have np : ∀ b u, s.heap.get? b = some u → b ≠ p := fun b u e => Nat.ne_of_lt (Nat.lt_of_lt_of_le (Heap.lt_size e) hp)
  refine I.step (g' := s.gens) (d' := s.drawn) (ch := ch) (fun b hb => ?_) (fun b o _ _ hc e _ => k b o hc e) (fun b o _ _ hc e _ => ⟨o.slots, k b o hc e⟩) (fun b o _ e n => by rw [upd_ne (np b o e)]; exact n)
    (fun b o hc e => ⟨o, k b o hc e⟩) (fun b xs e => by rw [upd_ne (ne_of_none e hn)]; exact e) (fun b o u e => by rw [upd_ne (ne_of_none e hn)]; exact e) (fun b ps e => ⟨#[], by rw [upd_ne (ne_of_none e hn), e]; simp⟩) (fun m hm => ?_) (fun b u e => ?_) I.bare
  · obtain ⟨f0, f1, f2, f3, f4, f5⟩ := hf b hb
    exact ⟨f3, f1, f4, f5⟩
  · obtain ⟨o, es, ep, ho, r⟩ := hm
    exact ⟨o, es, ep, k _ o (fun z => (hf _ z).2.1 rfl) ho, r⟩
  · by_cases hb : b = p
    · subst hb; rw [upd_same] at e; cases e; exact new
    · rw [upd_ne hb] at e
      refine (I.hok b u e).stay (fun c v hc q => k c v ?_ q) (fun c q => by rw [upd_ne (ne_of_none q hn)]; exact q) fun c xs q => by rw [upd_ne (ne_of_none q hn)]; exact q
      rcases hc with z | z
      · rw [z]; exact nch b u e
      · exact nch c _ z
end
def Itz (K : PySem.W.Frag) (b1 b2 : Bool) (a1 a2 : Addr) : It :=
  ⟨fun i H => ∃ xs ys x y, SqX K b1 H a1 xs ∧ SqX K b2 H a2 ys ∧ xs[i]? = some x ∧ ys[i]? = some y,
   fun i H v H' => ∃ p x y, H p = none ∧ v = .ref p ∧ H' = upd H p (.tup [x, y]) ∧ (∀ xs, SqX K b1 H a1 xs → xs[i]? = some x) ∧ ∀ ys, SqX K b2 H a2 ys → ys[i]? = some y,
   fun i H => ∃ xs ys, SqX K b1 H a1 xs ∧ SqX K b2 H a2 ys ∧ (xs.length ≤ i ∨ ys.length ≤ i)⟩
theorem turn_zip {P : Program} {w : World} {K : PySem.W.Frag} {es : List Expr} {ek : Nat} {pos : Pos} (b1 b2 : Bool) {z TI TO i1 i2 a1 a2 : Addr} (D : ZipApart z TI TO i1 i2 a1 a2) :
    Turn P w K (.Tuple es ek pos) (Itz K b1 b2 a1 a2) [z, TI, TO, i1, i2] z (fun i h => ZSt b1 b2 z TI TO i1 i2 a1 a2 .none i h) where
  mem := by simp
  obj := fun i h st b hb => by
    simp only [List.mem_cons, List.not_mem_nil, or_false] at hb
    rcases hb with rfl | rfl | rfl | rfl | rfl
    · exact ⟨_, st.zip, fun v q => by cases q⟩
    · exact ⟨_, st.ti, fun v q => by cases q⟩
    · obtain ⟨a, b, e⟩ := st.to
      exact ⟨_, e, fun v q => by cases q⟩
    · exact st.it1.obj
    · exact st.it2.obj
  keep := fun i h h' st k => st.at k
  item := by
    intro X hP hw hK hc i pins s σ H E I hf st hg
    subst hP hw hK
    obtain ⟨xs, ys, x, y, h1, h2, hx, hy⟩ := hg
    obtain ⟨us, ru, q1⟩ := I.sq h1
    obtain ⟨ws, rw', q2⟩ := I.sq h2
    obtain ⟨u, eu, rx⟩ := ru.get hx
    obtain ⟨v, ev, ry⟩ := rw'.get hy
    refine pyNext_zip_item D st q1 q2 (x := u) (y := v) (by simpa using eu) (by simpa using ev) fun h' S p8 s8 k => ?_
    refine ⟨_, rfl, wpAny_letOwnedTupleGo_zip S.zip fun h'' z' e' => ?_⟩
    have zlt : z < s.heap.objs.size := Heap.lt_size st.zip
    have zp : s.heap.objs.size ≠ z := Nat.ne_of_gt zlt
    have kk : ∀ b o, b ∉ [z, TO, i1, i2] → s.heap.get? b = some o → h''.get? b = some o := fun b o hb e => by
      simp only [List.mem_cons, List.not_mem_nil, or_false, not_or] at hb
      exact e'.extBut _ _ hb.1 (k b o hb.1 hb.2.1 hb.2.2.1 hb.2.2.2 e)
    have pp : IsPair h'' s.heap.objs.size u v := e'.extBut _ _ zp p8
    refine ⟨.ref s.heap.objs.size, upd H s.heap.objs.size (.tup [x, y]), I.drawn (t' := s.toks) (ch := [z, TO, i1, i2]) (fun b hb => hf b ?_) kk (Nat.le_refl _) ?_, rfl, ⟨_, x, y, I.fresh, rfl, rfl, fun xs' hq => ?_, fun ys' hq => ?_⟩, ?_, fun b hb => ?_⟩
    · simp only [List.mem_cons, List.not_mem_nil, or_false] at hb ⊢
      rcases hb with rfl | rfl | rfl | rfl <;> simp
    · exact ⟨by show 2 ≤ sizeLine; rw [sizeLine_eq]; decide, [u, v], .cons rx (.cons ry .nil), ⟨_, pp, rfl, _, rfl⟩⟩
    · rw [I.sq_inj hq h1]; exact hx
    · rw [I.sq_inj hq h2]; exact hy
    · exact ⟨z', e'.extBut _ _ D.TIz S.ti, (let ⟨a, b, e⟩ := S.to; ⟨a, b, e'.extBut _ _ D.TOz e⟩), S.it1.at fun o q => e'.extBut _ _ D.i1z q, S.it2.at fun o q => e'.extBut _ _ D.i2z q⟩
    · obtain ⟨o, e, _⟩ : ∃ o, s.heap.get? b = some o ∧ ∀ v, o.data ≠ .cell v := by
        simp only [List.mem_cons, List.not_mem_nil, or_false] at hb
        rcases hb with rfl | rfl | rfl | rfl | rfl
        · exact ⟨_, st.zip, fun v q => by cases q⟩
        · exact ⟨_, st.ti, fun v q => by cases q⟩
        · obtain ⟨a, b, e⟩ := st.to
          exact ⟨_, e, fun v q => by cases q⟩
        · exact st.it1.obj
        · exact st.it2.obj
      rw [upd_ne (Nat.ne_of_lt (Heap.lt_size e))]
      exact (hf b hb).1
  done := by
    intro X hP hw hK hc i pins s σ H E I hf st hg
    subst hP hw hK
    obtain ⟨xs, ys, h1, h2, hl⟩ := hg
    obtain ⟨us, ru, q1⟩ := I.sq h1
    obtain ⟨ws, rw', q2⟩ := I.sq h2
    have l1 := ru.length
    have l2 := rw'.length
    refine pyNext_zip_end (I.ok.hd hc) D st q1 q2 ?_ fun h' k => ⟨rfl, I.turnedL (t' := s.toks) (ch := [z, TO, i1, i2]) (fun b hb => hf b ?_) fun b o hb e => ?_⟩
    · rcases hl with hl | hl
      · exact .inl (by simp; omega)
      · exact .inr (by simp; omega)
    · simp only [List.mem_cons, List.not_mem_nil, or_false] at hb ⊢
      rcases hb with rfl | rfl | rfl | rfl <;> simp
    · simp only [List.mem_cons, List.not_mem_nil, or_false, not_or] at hb
      exact k b o hb.1 hb.2.1 hb.2.2.1 hb.2.2.2 e
  self := fun _ _ _ _ _ st h => wpAny_pyIter_zip st.zip h
def iZip (K : PySem.W.Frag) (b1 b2 : Bool) (ta : TA) : TI := fun σ H R => ta σ H fun vs H1 => ∃ a1 a2, vs = [.ref a1, .ref a2] ∧ (∃ xs, SqX K b1 H1 a1 xs) ∧ (∃ ys, SqX K b2 H1 a2 ys) ∧ R (Itz K b1 b2 a1 a2) H1
theorem pi_zip {X : Cx} {es : List Expr} {ek : Nat} {tpos p pos : Pos} (b1 b2 : Bool) {e1 e2 : Expr} {ta : TA} (hg : Gl X "zip") (hm : X.mg "zip" = none) (ha : PA X [e1, e2] ta)
    (he : starEach [e1, e2] X.env = (false, eval e1 X.env) :: starEach [e2] X.env := by rfl) (hpl : (backTo pos (starEach [e2] X.env)).any (·.1) = false := by rfl) :
    PI X (.Tuple es ek tpos) (.Call (.Name "zip" p) [e1, e2] [] pos) (iZip X.K b1 b2 ta) := by
  intro pins s σ H R I h
  refine wpAny_Call_Name_kw (ld_blt I hg hm boot_zip ?_ (by decide) (by decide))
  refine PyProof.Rows.callWith_type1 (thn (ha pos pins s σ H _ I h) fun us s1 ⟨vs, H1, I1, r1, a1, a2, ev, ⟨xs, h1⟩, ⟨ys, h2⟩, q⟩ => ?_) he hpl
  subst ev
  obtain ⟨u1, u2, rfl, e1', e2'⟩ := r1.two
  cases e1'; cases e2'
  obtain ⟨us, ru, q1⟩ := I1.sq h1
  obtain ⟨ws, rw', q2⟩ := I1.sq h2
  have lt1 : a1 < s1.heap.objs.size := by cases b1 <;> (obtain ⟨o, e, _⟩ := q1; exact Heap.lt_size e)
  have lt2 : a2 < s1.heap.objs.size := by cases b2 <;> (obtain ⟨o, e, _⟩ := q2; exact Heap.lt_size e)
  refine call_zip q1 q2 fun h' S k z5 => wpAny_pyIter_zip S.zip ?_
  have I2 : Inv X pins σ H1 { s1 with heap := h' } := I1.kept (t' := s1.toks) k
  refine ⟨s1.heap.objs.size + 4, [s1.heap.objs.size + 4, s1.heap.objs.size + 2, s1.heap.objs.size + 3, s1.heap.objs.size, s1.heap.objs.size + 1], _, _, H1, rfl, I2, turn_zip b1 b2 (zipApart_new lt1 lt2), S, fun b hb => ?_, q⟩
  have hb' : s1.heap.objs.size ≤ b := by
    simp only [List.mem_cons, List.not_mem_nil, or_false] at hb
    rcases hb with rfl | rfl | rfl | rfl | rfl
    · exact Nat.le_add_right _ 4
    · exact Nat.le_add_right _ 2
    · exact Nat.le_add_right _ 3
    · exact Nat.le_refl _
    · exact Nat.le_add_right _ 1
  exact I1.fpOk hb' (I1.hok.fresh hb')
end L2
namespace L2
open PySem PySem.Spec PyProof.Rows
theorem Same.upd {H : Hp} {p : Addr} {o : HO} (h : H p = none) : Same H (upd H p o) := fun b u e => by rw [upd_ne (ne_of_none e h)]; exact e
theorem Same.updR {H H' : Hp} {p : Addr} {o : HO} (e : Same H H') (h : H p = none) : Same H (L2.upd H' p o) := fun b u q => by rw [upd_ne (ne_of_none q h)]; exact e b u q
theorem Same.seqT {K : PySem.W.Frag} {H H' : Hp} {a : Addr} {xs : List V} (e : Same H H') (h : SqT K H a xs) : SqT K H' a xs := by
  rcases h with (h | ⟨o, h⟩) | h
  · exact .inl (.inl (e _ _ h))
  · exact .inl (.inr ⟨o, e _ _ h⟩)
  · exact .inr h
theorem Same.sqX {K : PySem.W.Frag} {b : Bool} {H H' : Hp} {a : Addr} {xs : List V} (e : Same H H') (h : SqX K b H a xs) : SqX K b H' a xs := by
  cases b with
  | true => exact e.seqT h
  | false => exact e.seq h
structure Walk (J : It) (H1 : Hp) (n : Nat) (P : Nat → V → Hp → Prop) : Prop where
  go : ∀ i H', Same H1 H' → i < n → J.go i H'
  stop : ∀ H', Same H1 H' → J.stop n H'
  yld : ∀ i H' x H2, Same H1 H' → i < n → J.yld i H' x H2 → Same H' H2 ∧ P i x H2
theorem walk_list {K : PySem.W.Frag} {H1 : Hp} {a : Addr} {xs : List V} (h : SqL K H1 a xs) : Walk (Itl K a) H1 xs.length (fun i x _ => xs[i]? = some x) :=
  ⟨fun i H' e hi => ⟨xs, xs[i], e.seq h, by simp [hi]⟩, fun H' e => ⟨xs, e.seq h, Nat.le_refl _⟩, fun i H' x H2 e hi y => by
    obtain ⟨rfl, q⟩ := y
    exact ⟨Same.refl _, q xs (e.seq h)⟩⟩
theorem walk_range {H1 : Hp} (lo : Int) (n : Nat) : Walk (Itr lo n) H1 n (fun i x _ => x = .int (lo + i)) :=
  ⟨fun i H' e hi => hi, fun H' e => Nat.le_refl _, fun i H' x H2 e hi y => by
    obtain ⟨rfl, q⟩ := y
    exact ⟨Same.refl _, q⟩⟩
theorem walk_zip {K : PySem.W.Frag} {b1 b2 : Bool} {H1 : Hp} {a1 a2 : Addr} {xs ys : List V} (h1 : SqX K b1 H1 a1 xs) (h2 : SqX K b2 H1 a2 ys) :
    Walk (Itz K b1 b2 a1 a2) H1 (min xs.length ys.length) (fun i v H => ∃ p x y, v = .ref p ∧ H p = some (.tup [x, y]) ∧ xs[i]? = some x ∧ ys[i]? = some y) := by
  refine ⟨fun i H' e hi => ?_, fun H' e => ⟨xs, ys, e.sqX h1, e.sqX h2, ?_⟩, fun i H' x H2 e hi q => ?_⟩
  · have i1 : i < xs.length := by omega
    have i2 : i < ys.length := by omega
    exact ⟨xs, ys, xs[i], ys[i], e.sqX h1, e.sqX h2, by simp [i1], by simp [i2]⟩
  · rcases Nat.le_total xs.length ys.length with q | q
    · exact .inl (by omega)
    · exact .inr (by omega)
  · obtain ⟨p, u, v, hp, rfl, rfl, q1, q2⟩ := q
    exact ⟨Same.upd hp, p, u, v, rfl, upd_same, q1 xs (e.sqX h1), q2 ys (e.sqX h2)⟩
theorem comp_of {J : It} {H1 : Hp} {n : Nat} {P : Nat → V → Hp → Prop} {g : TG} {tc : TT} {te : TE} {Q : VK} {σ0 : St} {D : Addr} (S : Walk J H1 n P) (hD : H1 D = none) (hn : n ≤ sizeLine) (Sv : St → Prop) (p : Nat → Bool) (F : Nat → V → Hp → Prop)
    (monoS : ∀ i v H H', Same H H' → F i v H → F i v H') (monoU : ∀ i v H a ys ys', H a = some (.lst ys) → F i v H → F i v (upd H a (.lst ys'))) (h0 : Sv σ0)
    (step : ∀ i x σ' H2, i < n → Sv σ' → Same H1 H2 → P i x H2 → ∀ (Ny : V → St → Hp → Prop) (Nn : St → Hp → Prop), (∀ v σ2 H5, Sv σ2 → Same H2 H5 → F i v H5 → p i = true → Ny v σ2 H5) → (∀ σ2 H4, Sv σ2 → Same H2 H4 → p i = false → Nn σ2 H4) →
      g x σ' H2 fun σ2 H3 => tc σ2 H3 fun b H4 => if b = true then te σ2 H4 fun v H5 => Ny v σ2 H5 else Nn σ2 H4)
    (hQ : ∀ H' ys, Same H1 H' → H' D = some (.lst ys) → Paired (fun i v => F i v H') ((List.range n).filter p) ys → Q (.ref D) H') :
    ∃ W : Nat → Nat → List V → St → Hp → Prop, (∃ m, W 0 m [] σ0 (upd H1 D (.lst []))) ∧ ∀ i m ys σ' H', W i m ys σ' H' → H' D = some (.lst ys) ∧
    ((J.stop i H' ∧ Q (.ref D) H') ∨ (J.go i H' ∧ ys.length < sizeLine ∧ ∀ x H2, J.yld i H' x H2 → g x σ' H2 fun σ2 H3 => tc σ2 H3 fun b H4 =>
      if b = true then te σ2 H4 fun v H5 => H5 D = some (.lst ys) ∧ ∃ m', m' < m ∧ W (i + 1) m' (ys ++ [v]) σ2 (upd H5 D (.lst (ys ++ [v])))
      else ∃ m', m' < m ∧ W (i + 1) m' ys σ2 H4)) := by
  refine ⟨fun i m ys σ' H' => m = n - i ∧ i ≤ n ∧ Sv σ' ∧ Same H1 H' ∧ H' D = some (.lst ys) ∧ Paired (fun j v => F j v H') ((List.range i).filter p) ys, ⟨n, rfl, Nat.zero_le _, h0, Same.upd hD, upd_same, .nil⟩, ?_⟩
  rintro i m ys σ' H' ⟨rfl, hi, hs, hS, hL, hF⟩
  refine ⟨hL, ?_⟩
  have rs : (List.range (i + 1)).filter p = (List.range i).filter p ++ (if p i = true then [i] else []) := by
    rw [List.range_succ, List.filter_append]
    cases q : p i <;> simp [q]
  by_cases hlt : i < n
  · refine .inr ⟨S.go i H' hS hlt, ?_, fun x H2 y => ?_⟩
    · have l1 := hF.length
      have l2 : ((List.range i).filter p).length ≤ (List.range i).length := List.length_filter_le _ _
      rw [List.length_range] at l2
      omega
    · obtain ⟨e2, hP⟩ := S.yld i H' x H2 hS hlt y
      refine step i x σ' H2 hlt hs (hS.trans e2) hP _ _ (fun v σ2 H5 s2 e5 f5 hp => ?_) fun σ2 H4 s2 e4 hp => ?_
      · have l5 : H5 D = some (.lst ys) := e5 _ _ (e2 _ _ hL)
        refine ⟨l5, n - (i + 1), by omega, rfl, hlt, s2, ((hS.trans e2).trans e5).updR hD, upd_same, ?_⟩
        rw [rs, if_pos hp]
        refine Paired.snoc (Paired.imp' (fun j w q => ?_) hF) (monoU i v H5 D ys _ l5 f5)
        exact monoU j w H5 D ys _ l5 (monoS j w H' H5 (e2.trans e5) q)
      · refine ⟨n - (i + 1), by omega, rfl, hlt, s2, (hS.trans e2).trans e4, e4 _ _ (e2 _ _ hL), ?_⟩
        rw [rs, if_neg (by rw [hp]; decide), List.append_nil]
        exact Paired.imp' (fun j w q => monoS j w H' H4 (e2.trans e4) q) hF
  · have e : i = n := by omega
    subst e
    exact .inl ⟨S.stop H' hS, hQ H' ys hS hL hF⟩
theorem Paired.eq_map {β : Type} {f : Nat → β} : ∀ {l : List Nat} {ys : List β}, Paired (fun i v => v = f i) l ys → ys = l.map f
  | _, _, .nil => rfl
  | _, _, .cons r t => by rw [List.map_cons, r, Paired.eq_map t]
theorem comp_vals {J : It} {H1 : Hp} {n : Nat} {P : Nat → V → Hp → Prop} {g : TG} {tc : TT} {te : TE} {Q : VK} {σ0 : St} {D : Addr} (S : Walk J H1 n P) (hD : H1 D = none) (hn : n ≤ sizeLine) (Sv : St → Prop) (p : Nat → Bool) (f : Nat → V) (h0 : Sv σ0)
    (step : ∀ i x σ' H2, i < n → Sv σ' → Same H1 H2 → P i x H2 → ∀ (Ny : V → St → Hp → Prop) (Nn : St → Hp → Prop), (∀ σ2 H5, Sv σ2 → Same H2 H5 → p i = true → Ny (f i) σ2 H5) → (∀ σ2 H4, Sv σ2 → Same H2 H4 → p i = false → Nn σ2 H4) →
      g x σ' H2 fun σ2 H3 => tc σ2 H3 fun b H4 => if b = true then te σ2 H4 fun v H5 => Ny v σ2 H5 else Nn σ2 H4)
    (hQ : ∀ H', Same H1 H' → H' D = some (.lst (((List.range n).filter p).map f)) → Q (.ref D) H') :
    ∃ W : Nat → Nat → List V → St → Hp → Prop, (∃ m, W 0 m [] σ0 (upd H1 D (.lst []))) ∧ ∀ i m ys σ' H', W i m ys σ' H' → H' D = some (.lst ys) ∧
    ((J.stop i H' ∧ Q (.ref D) H') ∨ (J.go i H' ∧ ys.length < sizeLine ∧ ∀ x H2, J.yld i H' x H2 → g x σ' H2 fun σ2 H3 => tc σ2 H3 fun b H4 =>
      if b = true then te σ2 H4 fun v H5 => H5 D = some (.lst ys) ∧ ∃ m', m' < m ∧ W (i + 1) m' (ys ++ [v]) σ2 (upd H5 D (.lst (ys ++ [v])))
      else ∃ m', m' < m ∧ W (i + 1) m' ys σ2 H4)) :=
  comp_of S hD hn Sv p (fun i v _ => v = f i) (fun _ _ _ _ _ q => q) (fun _ _ _ _ _ _ _ q => q) h0
    (fun i x σ' H2 hi hs e hP Ny Nn hy hn' => step i x σ' H2 hi hs e hP Ny Nn (fun σ2 H5 s2 e5 hp => hy _ σ2 H5 s2 e5 rfl hp) hn')
    fun H' ys e hL hF => hQ H' e (by rw [← Paired.eq_map hF]; exact hL)
end L2
namespace L2
open PySem PySem.Spec PyProof.Rows
theorem relabel_free {env : Env} : ∀ {names : List (Str × NameKind)} {x : Str}, names.lookup x = some .free →
    (names.map fun (n, k) => if (k == NameKind.free && env.scope.kind == .function && env.kindOf n == some .cell) then (n, NameKind.cell) else (n, k)).lookup x = some .cell ∨
    (names.map fun (n, k) => if (k == NameKind.free && env.scope.kind == .function && env.kindOf n == some .cell) then (n, NameKind.cell) else (n, k)).lookup x = some .free
  | [], _, h => by simp at h
  | (n, k) :: r, x, h => by
    have ih := @relabel_free env r x
    rw [List.map_cons]
    cases hx : x == n with
    | true =>
      simp only [List.lookup_cons, hx] at h
      cases h
      by_cases hc : (NameKind.free == NameKind.free && env.scope.kind == .function && env.kindOf n == some .cell) = true
      · dsimp only; rw [if_pos hc]; simp only [List.lookup_cons, hx]; exact .inl trivial
      · dsimp only; rw [if_neg hc]; simp only [List.lookup_cons, hx]; exact .inr trivial
    | false =>
      simp only [List.lookup_cons, hx] at h
      by_cases hc : (k == NameKind.free && env.scope.kind == .function && env.kindOf n == some .cell) = true
      · dsimp only; rw [if_pos hc]; simp only [List.lookup_cons, hx]; exact ih h
      · dsimp only; rw [if_neg hc]; simp only [List.lookup_cons, hx]; exact ih h
theorem relabel_kind {env : Env} {names : List (Str × NameKind)} {x : Str} {k : NameKind} (hk : k = .cell ∨ k = .free) (nc : ∀ y ∈ names, y.2 ≠ .cell)
    (h : (names.map fun (n, k) => if (k == NameKind.free && env.scope.kind == .function && env.kindOf n == some .cell) then (n, NameKind.cell) else (n, k)).lookup x = some k) : ∃ y ∈ names, y.1 = x ∧ y.2 = .free := by
  have m := PySem.mem_of_lookup h
  obtain ⟨⟨n, k0⟩, hm, e⟩ := List.mem_map.mp m
  dsimp only at e
  by_cases hc : (k0 == NameKind.free && env.scope.kind == .function && env.kindOf n == some .cell) = true
  · rw [if_pos hc] at e
    simp only [Bool.and_eq_true, beq_iff_eq] at hc
    cases e
    exact ⟨_, hm, rfl, hc.1.1⟩
  · rw [if_neg hc] at e
    cases e
    refine ⟨_, hm, rfl, ?_⟩
    rcases hk with z | z
    · exact absurd z (nc _ hm)
    · exact z
theorem Blk.of {X : Cx} {N : List Str} {scope : Scope} {cl : List (Str × Addr)} {mp : List (Option Nat)} (clos : closureFor scope X.env = pure cl) (cell : ∀ y ∈ scope.names, y.2 ≠ .cell) (kind : scope.kind = .function)
    (nms : ∀ y ∈ scope.names, y.2 = .local → scope.names.lookup y.1 = some .local) (nd : N.Nodup) (sub : ∀ x c, cl.lookup x = some c → X.env.cells.lookup x = some c) (fr : ∀ y ∈ scope.names, y.2 = .free → ∃ c, cl.lookup y.1 = some c) (len : mp.length = N.length)
    (map : ∀ (i j : Nat) (x : Str), mp[i]? = some (some j) → N[i]? = some x → X.N[j]? = some x ∧ (X.env.scope.names.lookup x = some .cell ∨ X.env.scope.names.lookup x = some .free) ∧ scope.names.lookup x = some .free) : Blk X N scope cl mp := by
  refine ⟨clos, cell, kind, nms, nd, sub, fun x hx => ?_, len, fun i j x h1 h2 => ?_⟩
  · have : ∃ y ∈ scope.names, y.1 = x ∧ y.2 = .free := hx.elim (fun z => relabel_kind (.inl rfl) cell z) fun z => relabel_kind (.inr rfl) cell z
    obtain ⟨y, hy, rfl, hf⟩ := this
    exact fr y hy hf
  · obtain ⟨q1, q2, q3⟩ := map i j x h1 h2
    exact ⟨q1, q2, relabel_free q3⟩
theorem Blk.plain {X : Cx} {N : List Str} {scope : Scope} (fr : ∀ y ∈ scope.names, y.2 ≠ .free) (cell : ∀ y ∈ scope.names, y.2 ≠ .cell) (kind : scope.kind = .function) (nms : ∀ y ∈ scope.names, y.2 = .local → scope.names.lookup y.1 = some .local) (nd : N.Nodup) :
    Blk X N scope [] (N.map fun _ => none) :=
  Blk.of (closureFor_none fr) cell kind nms nd (fun _ _ h => nomatch h) (fun y hy h => absurd h (fr y hy)) (List.length_map _) fun i j x h => by
    rw [List.getElem?_map] at h
    cases q : N[i]? with
    | none => rw [q] at h; cases h
    | some z => rw [q] at h; cases h
def zipV (p : Int → Int → Bool) (φ : Int → Int → V) (xs ys : List Int) : List V := ((List.range (min xs.length ys.length)).filter fun i => p (xs.getD i 0) (ys.getD i 0)).map fun i => φ (xs.getD i 0) (ys.getD i 0)
theorem getD_of_map {xs : List Int} {i : Nat} {v : V} (h : (xs.map V.int)[i]? = some v) : v = .int (xs.getD i 0) := by
  rw [List.getElem?_map] at h
  cases q : xs[i]? with
  | none => rw [q] at h; cases h
  | some z =>
    rw [q] at h
    have e : xs.getD i 0 = z := by rw [List.getD_eq_getElem?_getD, q]; rfl
    rw [e]; exact (Option.some.inj h).symm
theorem two_set {σ : St} (h : σ.length = 2) (x y : V) : (σ.set 0 (some x)).set 1 (some y) = [some x, some y] := by
  match σ, h with
  | [_, _], _ => rfl
theorem zip_comp {K : PySem.W.Frag} {b1 b2 : Bool} {a b : Addr} {xs ys : List Int} {mp : List (Option Nat)} {ta : TA} {tc : TT} {te : TE} {σ : St} {H H1 : Hp} {Q : VK} (p : Int → Int → Bool) (φ : Int → Int → V) (hmp : mp.length = 2) (hta : ∀ R, R [.ref a, .ref b] H1 → ta σ H R)
    (h1 : SqX K b1 H1 a (xs.map V.int)) (h2 : SqX K b2 H1 b (ys.map V.int)) (hz : xs.length ≤ 1000)
    (htc : ∀ (i : Nat) H' (R : Bool → Hp → Prop), R (p (xs.getD i 0) (ys.getD i 0)) H' → tc [some (.int (xs.getD i 0)), some (.int (ys.getD i 0))] H' R)
    (hte : ∀ (i : Nat) H' (R : VK), p (xs.getD i 0) (ys.getD i 0) = true → R (φ (xs.getD i 0) (ys.getD i 0)) H' → te [some (.int (xs.getD i 0)), some (.int (ys.getD i 0))] H' R)
    (hQ : ∀ D H', Same H1 H' → H' D = some (.lst (zipV p φ xs ys)) → Q (.ref D) H') :
    tComp mp (iZip K b1 b2 ta) (gTup K 2 (gCons (gName 0) (gCons (gName 1) gNil))) tc te σ H Q := by
  unfold tComp
  refine hta _ ⟨a, b, rfl, ⟨_, h1⟩, ⟨_, h2⟩, fun D hD => ?_⟩
  have W := walk_zip h1 h2
  rw [List.length_map, List.length_map] at W
  refine comp_vals W hD (Nat.le_trans (Nat.min_le_left _ _) (Nat.le_trans hz (by rw [sizeLine_eq]; decide))) (fun σ => σ.length = 2) (fun i => p (xs.getD i 0) (ys.getD i 0)) (fun i => φ (xs.getD i 0) (ys.getD i 0)) (by unfold st0; rw [List.length_map]; exact hmp) ?_ fun H' e hL => hQ D H' e hL
  rintro i v σ' H2 hi hs e ⟨q, u, w, rfl, hq, hu, hw⟩ Ny Nn hy hn
  rw [getD_of_map hu, getD_of_map hw] at hq
  refine ⟨q, _, rfl, SqT.of hq, rfl, _, _, rfl, _, _, rfl, rfl, ?_⟩
  rw [two_set hs]
  refine htc _ _ _ ?_
  cases hp : p (xs.getD i 0) (ys.getD i 0) with
  | true => rw [if_pos rfl]; exact hte _ _ _ hp (hy _ _ rfl (Same.refl _) hp)
  | false => rw [if_neg (by decide)]; exact hn _ _ rfl (Same.refl _) hp
end L2
namespace L2
open PySem PySem.Spec PyProof.Rows
theorem pg_two {X : Cx} {K : PySem.W.Frag} {x y : Str} {px py tp : Pos} {k : Nat} (hK : X.K = K) (hc : X.calm = true) (hN : X.N = [x, y]) (nd : ([x, y] : List Str).Nodup) (hx : X.env.scope.names.lookup x = some .local) (hy : X.env.scope.names.lookup y = some .local) :
    PG X (.Tuple [.Name x px, .Name y py] k tp) (gTup K 2 (gCons (gName 0) (gCons (gName 1) gNil))) := by
  subst hK
  have nd' : X.N.Nodup := by rw [hN]; exact nd
  exact pg_tup hc (pgs_cons (pg_name (i := 0) nd' (by rw [hN]; rfl) (.inl hx) (.inr hx)) (pgs_cons (pg_name (i := 1) nd' (by rw [hN]; rfl) (.inl hy) (.inr hy)) pgs_nil))
theorem pg_one {X : Cx} {x : Str} {px : Pos} {i : Nat} (nd : X.N.Nodup) (hN : X.N[i]? = some x) (hx : X.env.scope.names.lookup x = some .local) : PG X (.Name x px) (gName i) := pg_name nd hN (.inl hx) (.inr hx)
end L2
namespace L2
open PySem PySem.Spec PyProof.Rows
theorem range_comp {mp : List (Option Nat)} {ta : TA} {g : TG} {tc : TT} {te : TE} {σ : St} {H H1 : Hp} {Q : VK} (n : Int) (Sv : St → Prop) (p : Nat → Bool) (f : Nat → V) (hn0 : 0 ≤ n) (hn : n ≤ 1000) (hta : ∀ R, R [.int n] H1 → ta σ H R) (h0 : Sv (st0 mp σ))
    (step : ∀ (i : Nat) σ' H2, (i : Int) < n → Sv σ' → Same H1 H2 → ∀ (Ny : V → St → Hp → Prop) (Nn : St → Hp → Prop), (∀ σ2 H5, Sv σ2 → Same H2 H5 → p i = true → Ny (f i) σ2 H5) → (∀ σ2 H4, Sv σ2 → Same H2 H4 → p i = false → Nn σ2 H4) →
      g (.int (0 + (i : Int))) σ' H2 fun σ2 H3 => tc σ2 H3 fun b H4 => if b = true then te σ2 H4 fun v H5 => Ny v σ2 H5 else Nn σ2 H4)
    (hQ : ∀ D H', Same H1 H' → H' D = some (.lst (((List.range n.toNat).filter p).map f)) → Q (.ref D) H') : tComp mp (iRng1 ta) g tc te σ H Q := by
  unfold tComp
  refine hta _ ⟨n, rfl, by omega, by omega, fun D hD => ?_⟩
  refine comp_vals (walk_range 0 n.toNat) hD (Nat.le_trans (show n.toNat ≤ 1000 by omega) (by rw [sizeLine_eq]; decide)) Sv p f h0 ?_ fun H' e hL => hQ D H' e hL
  rintro i v σ' H2 hi hs e rfl Ny Nn hy hn'
  exact step i σ' H2 (by omega) hs e Ny Nn hy hn'
end L2
namespace L2
open PySem PySem.Spec PyProof.Rows
theorem for_same {J : It} {H1 : Hp} {n : Nat} {P : Nat → V → Hp → Prop} {g : TG} {tb : TS} {D : Ends} {σ : St} (S : Walk J H1 n P) (Sv : Nat → St → Prop) (h0 : Sv 0 σ)
    (hs : ∀ i x σ H', i < n → Sv i σ → Same H1 H' → P i x H' → g x σ H' fun σ2 H2 => tb { D with nx := fun σ3 H3 => Sv (i + 1) σ3 ∧ Same H1 H3, ct := fun σ3 H3 => Sv (i + 1) σ3 ∧ Same H1 H3, bk := D.nx } σ2 H2)
    (hd : ∀ σ H, Sv n σ → Same H1 H → D.nx σ H) :
    ∃ W : Nat → Nat → St → Hp → Prop, (∃ m, W 0 m σ H1) ∧ ∀ i m σ H, W i m σ H →
      (J.stop i H ∧ D.nx σ H) ∨ (J.go i H ∧ ∃ N : St → Hp → Prop, (∀ σ' H', N σ' H' → ∃ m', m' < m ∧ W (i + 1) m' σ' H') ∧ ∀ x H', J.yld i H x H' → g x σ H' fun σ2 H2 => tb { D with nx := N, ct := N, bk := D.nx } σ2 H2) := by
  refine ⟨fun i m σ H => m = n - i ∧ i ≤ n ∧ Sv i σ ∧ Same H1 H, ⟨n, rfl, Nat.zero_le _, h0, Same.refl _⟩, ?_⟩
  rintro i m σ H ⟨rfl, hi, sv, e⟩
  by_cases hlt : i < n
  · refine .inr ⟨S.go i H e hlt, fun σ3 H3 => Sv (i + 1) σ3 ∧ Same H1 H3, fun σ' H' q => ⟨n - (i + 1), by omega, rfl, hlt, q.1, q.2⟩, fun x H' y => ?_⟩
    obtain ⟨e2, hP⟩ := S.yld i H x H' e hlt y
    exact hs i x σ H' hlt sv (e.trans e2) hP
  · have z : i = n := by omega
    subst z
    exact .inl ⟨S.stop H e, hd σ H sv e⟩
end L2
namespace L2
open PySem PySem.Spec PyProof.Rows
theorem ObjOk.obj {P : Program} {w : World} {H : Hp} {h : Heap} {a : Addr} {o : HO} (x : ObjOk P w H h a o) : ∃ ob, h.get? a = some ob := by
  cases o with
  | lst xs => obtain ⟨_, _, _, _, e⟩ := x; exact ⟨_, e⟩
  | tup xs => obtain ⟨_, _, _, ob, e, _⟩ := x; exact ⟨_, e⟩
  | dK kvs => obtain ⟨_, _, _, _, o, _, _, e, _⟩ := x; exact ⟨_, e⟩
  | dT kvs => obtain ⟨_, _, _, _, o, _, _, e, _⟩ := x; exact ⟨_, e⟩
  | set S n => obtain ⟨o, _, _, _, e, _⟩ := x; exact ⟨_, e⟩
  | ins C dx fs => obtain ⟨_, _, _, e, _⟩ := x; exact ⟨_, e⟩
  | own y => obtain ⟨_, e⟩ := x; exact ⟨_, e⟩
  | xd fs => obtain ⟨_, ⟨_, _, _, e, _⟩, _⟩ := x; exact ⟨_, e⟩
  | rng lo hi => obtain ⟨_, _, _, e⟩ := x; exact ⟨_, e⟩
  | frz ob u => obtain ⟨e, _⟩ := x; exact ⟨_, e⟩
  | tbl ps => exact ⟨_, show h.get? a = some _ from x⟩
  | met f y => exact ⟨_, show h.get? a = some _ from x⟩
  | ext φ => obtain ⟨_, ⟨_, e⟩, _⟩ := x; exact ⟨_, e⟩
structure Cov (B : Heap) (fs : List Addr) (H' : Hp) (h : Heap) : Prop where
  old : ∀ b o, h.get? b = some o → b ∉ fs → ∃ o', B.get? b = some o'
  trk : ∀ b u, H' b = some u → ∃ o', B.get? b = some o'
def CXe (P : Program) (w : World) : CXT := fun outer H s E e s' => ∃ (a : Addr) (cls a0 : Value) (B : Heap) (H' : Hp), e = .ref a ∧ s'.os = s.os ∧ AllBare s'.gens ∧ Un (frs outer) [] H H' s.heap s'.heap ∧ HOk P w H' s'.heap ∧
  Heap.FlyingW B outer a cls a0 s'.heap ∧ Cov B (frs outer) H' s.heap ∧ E cls none H'
section
variable {P : Program} {w : World} {fs : List Addr} {H H' : Hp} {h h1 h2 B : Heap}
theorem Heap.two {B h1 h2 : Heap} (s1 : B.StaysIn h1) (s2 : B.StaysIn h2) {b : Addr} {o o' : Obj} (e : h1.get? b = some o) (q : B.get? b = some o') : h2.get? b = some o := by
  have := s1 b o' q
  rw [e] at this; cases this
  exact s2 b _ q
theorem fly_un (u : Un fs [] H H' h h1) (cov : Cov B fs H' h) (s1 : B.StaysIn h1) (s2 : B.StaysIn h2) (sl : ∀ b o, b ∈ fs → h1.get? b = some o → ∃ sl, h2.get? b = some { o with slots := sl }) : Un fs [] H H' h h2 := by
  refine ⟨fun b o e n hb hx => ?_, fun b o e n hb hx => ?_, u.free, fun b o e hx => ?_, u.tups, u.frzs, u.tbls⟩
  · obtain ⟨o', q⟩ := cov.old b o e hb
    exact Heap.two s1 s2 (u.keep b o e n hb hx) q
  · obtain ⟨sl1, e1⟩ := u.slot b o e n hb hx
    obtain ⟨sl2, e2⟩ := sl b _ hb e1
    exact ⟨sl2, e2⟩
  · by_cases hb : b ∈ fs
    · obtain ⟨o', e1⟩ := u.there b o e hx
      obtain ⟨sl2, e2⟩ := sl b _ hb e1
      exact ⟨_, e2⟩
    · obtain ⟨o', q⟩ := cov.old b o e hb
      exact ⟨o', s2 b o' q⟩
theorem fly_ok (ok : HOk P w H' h1) (trk : ∀ b u, H' b = some u → ∃ o', B.get? b = some o') (s1 : B.StaysIn h1) (s2 : B.StaysIn h2) : HOk P w H' h2 := fun b u e => by
  refine (ok b u e).stay (fun c v hc q => ?_) (fun _ q => q) fun _ _ q => q
  have : ∃ o', B.get? c = some o' := by
    rcases hc with rfl | hc
    · exact trk c u e
    · exact trk c _ hc
  obtain ⟨o', q'⟩ := this
  exact Heap.two s1 s2 q q'
theorem up_frs {base : Heap} {l : List Env} (ff : h1.FunFrames base l) (up : h1.UpToSlots h2) : ∀ b o, b ∈ frs l → h1.get? b = some o → ∃ sl, h2.get? b = some { o with slots := sl } := fun b o hb e => by
  obtain ⟨_, o', e', d⟩ := ff.mem hb
  rw [e] at e'; cases e'
  exact up b o e d
end
def RaisesTo (X : Cx) (E : St → XK) : Prop := ∀ (pins : List (Addr × Obj)) (σ : St) (H : Hp) (s : Shared) (h' : Heap) (e : Addr) (cls : Value) (args : List Value), Inv X pins σ H s → Heap.MadeExcOf s.heap h' e cls args → E σ cls none H → X.xe (.ref e) { s with heap := h' }
def PassesS (CX : CXT) (X : Cx) (E : St → XK) : Prop := ∀ (pins : List (Addr × Obj)) (σ : St) (H : Hp) (s : Shared) (e : Value) (s' : Shared), Inv X pins σ H s → CX X.stack H s (E σ) e s' → X.xe e s'
section
variable {P : Program} {w : World} {K : PySem.W.Frag} {mg : Str → Option Value} {base : Heap} {N : List Str} {qual : Str} {scope : Scope} {f : Addr} {cd : Value} {A : Around} {outer : List Env} {s₀ : Shared} {H₀ : Hp} {E : XK}
theorem raisesTo_body : RaisesTo (cxOf (CXe P w) P w K mg base N qual scope f cd A outer s₀ H₀ E) (fun _ => E) := by
  intro pins σ H s h' e cls args I hx hE
  have ff := PySem.W.funFrames_hide (as := frs (cxOf (CXe P w) P w K mg base N qual scope f cd A outer s₀ H₀ E).stack) I.stack fun env he a ha => List.mem_filterMap.mpr ⟨env, he, ha⟩
  have stB : (PySem.W.hideAll s.heap (frs (cxOf (CXe P w) P w K mg base N qual scope f cd A outer s₀ H₀ E).stack)).StaysIn s.heap := fun b o e => PySem.W.of_hideAll _ e
  have inB : ∀ b o, s.heap.get? b = some o → b ∉ frs (cxOf (CXe P w) P w K mg base N qual scope f cd A outer s₀ H₀ E).stack → (PySem.W.hideAll s.heap (frs (cxOf (CXe P w) P w K mg base N qual scope f cd A outer s₀ H₀ E).stack)).get? b = some o :=
    fun b o e hb => PySem.W.hideAll_get _ e hb
  refine wpAny_leaves_madeW (outer := outer) I.ok.frames rfl stB ff hx fun h'' t fl tup nt up => ?_
  have cov : Cov (PySem.W.hideAll s.heap (frs (cxOf (CXe P w) P w K mg base N qual scope f cd A outer s₀ H₀ E).stack)) (frs outer) H s₀.heap := by
    refine ⟨fun b o e hb => ?_, fun b u e => ?_⟩
    · obtain ⟨o1, e1⟩ := I.base.there b o e (by intro z; exact absurd (show b ∈ ([] : List Addr) from z) (by simp))
      refine ⟨o1, inB b o1 e1 fun z => ?_⟩
      rcases List.mem_cons.mp (I.stkSub b z) with q | q
      · exact absurd q (Nat.ne_of_lt (Nat.lt_of_lt_of_le (Heap.lt_size e) I.ok.above))
      · exact hb q
    · obtain ⟨ob, eo⟩ := (I.hok b u e).obj
      exact ⟨ob, inB b ob eo fun z => by rw [I.stkFree b z] at e; cases e⟩
  refine ⟨e, cls, .ref t, _, H, rfl, I.os, I.bare, fly_un I.base cov stB fl.1 fun b o hb eo => ?_, fly_ok I.hok cov.trk stB fl.1, fl, cov, hE⟩
  obtain ⟨_, o', e', d⟩ := I.funs.mem hb
  rw [eo] at e'; cases e'
  exact up b o (hx.keeps b o eo) d
end
def tCallS (sp : Sp) (dvs : List V) (E : St → XK) (t : TA) : TE := fun σ H Q => t σ H fun vs H1 => sp (vs ++ dvs) H1 Q (E σ)
def tMethS (C : Addr) (m : Str) (sp : Sp) (dvs : List V) (E : St → XK) (ta : TE) (t : TA) : TE := fun σ H Q => ta σ H fun x H1 => ∃ a dx fs, x = .ref a ∧ H1 a = some (.ins C dx fs) ∧ fs.lookup m = none ∧
  t σ H1 fun vs H2 => sp (x :: (vs ++ dvs)) H2 Q (E σ)
def tMakeS (C : Addr) (sp : Sp) (dvs : List V) (E : St → XK) (t : TA) : TE := fun σ H Q => t σ H fun vs H1 => ∀ x dx, H1 x = none → H1 dx = none → dx ≠ x →
  sp (.ref x :: (vs ++ dvs)) (upd (upd H1 dx (.own x)) x (.ins C dx [])) (fun v H2 => v = .non ∧ Q (.ref x) H2) (E σ)
section
variable {X : Cx} {CX : CXT} {k : Nat} {f C : Addr} {fd : FuncData} {ps : List Str} {sp : Sp} {dvs : List V} {ds : List Value} {E : St → XK} {x m : Str} {p pos apos : Pos} {e o : Expr} {es : List Expr} {ta : TE} {t : TA}
theorem run_fnS {pins : List (Addr × Obj)} {σ : St} {H : Hp} {s : Shared} {Q : VK} {us : List Value} {vs : List V} (F : FnOk X.prog X.w X.K X.mg X.base CX k f fd ps sp) (hr : Room k X.A) (hb : Binds X.K fd ps ds) (hd : Vals dvs ds) (hx : PassesS CX X E)
    (I : Inv X pins σ H s) (r : Vals vs us) (h : sp (vs ++ dvs) H Q (E σ)) : wpAny (model X.prog X.w) X.A (call (.ref f) us) (EP X pins σ Q) X.xe s := by
  have r2 : Vals (vs ++ dvs) (us ++ ds) := r.append hd
  have hl : (us ++ ds).length = ps.length := by rw [← r2.length]; exact F.len _ _ _ _ h
  refine wpAny_call (codeAny_mono (F.run X.A X.stack s H ⟨us, []⟩ (us ++ ds) (vs ++ dvs) Q (E σ) hr I.env0 (hb s us I.kIn hl) r2 h) fun r s' hq => ?_)
  match r, hq with
  | .error e, hq => exact hx pins σ H s e s' I hq
  | .ok (.ret u), hq => exact I.after hq
  | .ok .next, hq => exact False.elim hq
  | .ok .brk, hq => exact False.elim hq
  | .ok .cont, hq => exact False.elim hq
theorem pe_callS (F : FnOk X.prog X.w X.K X.mg X.base CX k f fd ps sp) (hr : Room k X.A) (hg : Gl X x) (hm : X.mg x = some (.ref f)) (hk : PySem.W.keepIn X.K (.ref f) = true) (hb : Binds X.K fd ps ds) (hd : Vals dvs ds) (hx : PassesS CX X E)
    (ha : PA X (e :: es) t) (hdb : (x == ("__debug__" : Str)) = false := by decide) (he : starEach (e :: es) X.env = (false, eval e X.env) :: starEach es X.env := by rfl) (hpl : (backTo pos (starEach es X.env)).any (·.1) = false := by rfl) :
    PE X (.Call (.Name x p) (e :: es) [] pos) (tCallS sp dvs E t) := by
  intro pins s σ H Q I h
  refine wpAny_Call_Name_kw (ld_glob I hg hm (PySem.W.callWith_K (h₀ := X.base) I.ok.mod.kin hk (thn (ha pos pins s σ H _ I h) fun us s1 ⟨vs, H1, I1, r, q⟩ => ⟨I1.kIn, ?_⟩) he hpl) hdb)
  exact run_fnS F hr hb hd hx I1 r q
theorem pe_methS {pl : Sem Bool} (he : PE X o ta) (c : Cls X.K C) (hm : Meth X.K C m f) (F : FnOk X.prog X.w X.K X.mg X.base CX k f fd ps sp) (hr : Room k X.A) (hb : Binds X.K fd ps ds) (hd : Vals dvs ds) (hx : PassesS CX X E) (ha : PA X (e :: es) t)
    (hst : starEach (e :: es) X.env = (false, eval e X.env) :: starEach es X.env := by rfl) (hpl : (backTo pos (starEach es X.env)).any (·.1) = false := by rfl)
    (ht : eval (.Call (.Attribute o m apos) (e :: es) [] pos) X.env = (do
      let ov ← eval o X.env
      standAt apos.atName
      let (f, first) ← holding [ov] (getMethod ov m pl)
      callWith pos f first (backTo pos (starEach (e :: es) X.env)) (backToKw pos (keywordEach [] X.env))) := by rfl) :
    PE X (.Call (.Attribute o m apos) (e :: es) [] pos) (tMethS C m sp dvs E ta t) := by
  intro pins s σ H Q I h
  refine PySem.W.methodCall_KW (pl := pl) (thn (he pins s σ H _ I h) fun u s1 ⟨x, H1, I1, rx, a, dx, fs, ex, ea, l, q⟩ => ?_) ht
  subst ex
  obtain rfl : u = Value.ref a := rx
  refine getmeth_ok I1 ea c hm l (PySem.W.callWith_K (first := [.ref a]) (h₀ := X.base) I.ok.mod.kin hm.kp (thn (ha pos pins s1 σ H1 _ I1 q) fun us s2 ⟨vs, H2, I2, r, q2⟩ => ⟨I2.kIn, ?_⟩) hst hpl)
  exact run_fnS (us := .ref a :: us) (vs := .ref a :: vs) F hr hb hd hx I2 (.cons rfl r) q2
end
def tRaise (C : Addr) (E : St → XK) (t : TA) : TS := fun _ σ H => t σ H fun vs H1 => vs.length ≤ sizeLine ∧ E σ (.ref C) none H1
theorem ps_raise {X : Cx} {C : Addr} {x : Str} {bm : List Value} {newId initId B : String} {e : Expr} {es : List Expr} {t : TA} {np cpos pos : Pos} {E : St → XK} (O : OwnCls x C bm newId X.mg X.base) (FB : ExcBaseFacts B newId initId bm) (hc : X.calm = true) (hg : Gl X x)
    (hx : RaisesTo X E) (ha : PA X (e :: es) t) (he : starEach (e :: es) X.env = (false, eval e X.env) :: starEach es X.env := by rfl) (hpl : (backTo cpos (starEach es X.env)).any (·.1) = false := by rfl) (hd : (x == ("__debug__" : Str)) = false := by decide) :
    PS X (.Raise (some (.Call (.Name x np) (e :: es) [] cpos)) none pos) (tRaise C E t) := by
  intro pins s σ H D I h
  obtain ⟨tl, N, nm, q, bs, hdct, sn, sub, ab, col, dd, k0, k1, k2, k3, k5, mN, hC, hN, hni, T⟩ := O.obj
  refine wpAny_Raise_call_subT (C := C) (nm := nm) (q := q) (N := N) (bs := bs) (bm := tl) (hdct := hdct) (sn := sn) (sub := sub) (ab := ab) (col := col) (dd := dd) (k0 := k0) (k1 := k1) (k2 := k2) (k3 := k3) (k5 := k5)
    FB (mN := mN) (T.hasType FB.hasBase) (I.ok.hd hc) (by rw [he]; show (false || (backTo cpos (starEach es X.env)).any (·.1)) = false; rw [hpl]; rfl) hni (ld_glob I hg O.bound ⟨rfl, ?_⟩ hd)
  have ha' := ha cpos pins s σ H _ I h
  rw [he] at ha' ⊢
  refine Calls.evalArgs_plain (thn ha' fun us s2 ⟨vs, H2, I2, r, hl, hE⟩ => ⟨rfl, by rw [← r.length]; exact hl, I2.bk _ _ hC, hN.keeps I2.bk, T.keeps I2.bk, fun h' e hm => hx pins σ H2 s2 h' e _ _ I2 hm hE⟩)
end L2
namespace L2
open PySem PySem.Spec PyProof.Rows
theorem own_in {K : PySem.W.Frag} {h : Heap} {mg : Str → Option Value} {x : Str} {C : Addr} {bm : List Value} {nid : String} (X : K.In h) (G : h.Ns mainGlobals mg) (e : PySem.W.nsIn K mainGlobals x = some (some (.ref C))) (q : PySem.W.excIn K C bm nid = true) : OwnCls x C bm nid mg h := by
  have G' := PySem.W.mg_of X G e
  unfold PySem.W.excIn at q; split at q
  case h_2 => cases q
  rename_i dd cd sl ho; split at q
  case h_2 => cases q
  rename_i C' tl k0 k1 k2 k3 n k5 hm hs; simp only [Bool.and_eq_true, beq_iff_eq, Bool.not_eq_true'] at q
  obtain ⟨⟨⟨⟨⟨q1, q2⟩, q3⟩, q4⟩, q5⟩, q6⟩ := q; subst q1; subst q2
  obtain ⟨c1, c2, c3, c4, c5, c6, c7, c8, c9, c10, c11⟩ := cd; dsimp only at hm q3 q5 q6; subst hm; subst q3
  have z : sl = #[k0, k1, k2, k3, some (.builtin n), k5] := by obtain ⟨l⟩ := sl; simp only at hs; rw [hs]
  subst z
  exact ⟨G', tl, c4, c1, c5, c2, c6, c7, c8, c9, c10, dd, k0, k1, k2, k3, k5, _, X _ _ ho, .of_isNs (PySem.W.isNs_of_in X q5), PySem.W.nsMap_none_of_in X q5 q6, PySem.W.tail_of_in X q4⟩
end L2
namespace L2
open PySem PySem.Spec PyProof.Rows
abbrev Cx.wishP (X : Cx) (pl : List (Addr × Obj)) (E : Value → Shared → Prop) : Cx := { X with pn := X.pn ++ pl, xe := E }
abbrev Cx.caught (X : Cx) (a : Addr) : Cx := { X with A := X.A.mark (some (.ref a)), calm := false, xe := fun _ _ => False }
section
variable {X : Cx} {pins pl : List (Addr × Obj)} {σ : St} {H : Hp} {s : Shared} {E : Value → Shared → Prop} {a : Addr}
theorem Inv.wishP (I : Inv X pins σ H s) (E : Value → Shared → Prop) : Inv (X.wishP pins E) [] σ H s :=
  ⟨⟨I.ok.mod, I.ok.kind, I.ok.glob, I.ok.blt, I.ok.above, I.ok.inj, I.ok.has, I.ok.cab, I.ok.hd, I.ok.frames, I.ok.stk, I.ok.exf, I.ok.bs, I.ok.bsz, I.ok.noex, I.ok.exfs, I.ok.funs, I.ok.frf⟩, I.os, I.bare, I.base, I.loc, I.cell, I.free, I.freeC,
    fun p hp => I.pin p (by simpa using hp), I.hok, I.len⟩
theorem Inv.unwishP (I : Inv (X.wishP pl E) pins σ H s) : Inv X pl σ H s :=
  ⟨⟨I.ok.mod, I.ok.kind, I.ok.glob, I.ok.blt, I.ok.above, I.ok.inj, I.ok.has, I.ok.cab, I.ok.hd, I.ok.frames, I.ok.stk, I.ok.exf, I.ok.bs, I.ok.bsz, I.ok.noex, I.ok.exfs, I.ok.funs, I.ok.frf⟩, I.os, I.bare, I.base, I.loc, I.cell, I.free, I.freeC,
    fun p hp => I.pin p (List.mem_append_left _ hp), I.hok, I.len⟩
theorem Inv.caught (I : Inv X pins σ H s) (a : Addr) : Inv (X.caught a) pins σ H s :=
  ⟨⟨I.ok.mod, I.ok.kind, I.ok.glob, I.ok.blt, I.ok.above, I.ok.inj, I.ok.has, I.ok.cab, (fun z => nomatch (show false = true from z)), I.ok.frames, I.ok.stk, I.ok.exf, I.ok.bs, I.ok.bsz, I.ok.noex, I.ok.exfs, I.ok.funs, I.ok.frf⟩, I.os, I.bare, I.base, I.loc, I.cell, I.free, I.freeC,
    I.pin, I.hok, I.len⟩
theorem Inv.uncaught (hd : X.calm = true → X.A.handled = none) (I : Inv (X.caught a) pins σ H s) : Inv X pins σ H s :=
  ⟨⟨I.ok.mod, I.ok.kind, I.ok.glob, I.ok.blt, I.ok.above, I.ok.inj, I.ok.has, I.ok.cab, hd, I.ok.frames, I.ok.stk, I.ok.exf, I.ok.bs, I.ok.bsz, I.ok.noex, I.ok.exfs, I.ok.funs, I.ok.frf⟩, I.os, I.bare, I.base, I.loc, I.cell, I.free, I.freeC,
    I.pin, I.hok, I.len⟩
theorem SP.unwishP {D : Ends} {f : Flow} {s' : Shared} (h : SP (X.wishP pl E) pins D f s') : SP X pl D f s' := by
  cases f with
  | next => obtain ⟨σ', H', I, q⟩ := h; exact ⟨σ', H', I.unwishP, q⟩
  | brk => obtain ⟨σ', H', I, q⟩ := h; exact ⟨σ', H', I.unwishP, q⟩
  | cont => obtain ⟨σ', H', I, q⟩ := h; exact ⟨σ', H', I.unwishP, q⟩
  | ret u => obtain ⟨v, σ', H', I, r, q⟩ := h; exact ⟨v, σ', H', I.unwishP, r, q⟩
theorem SP.uncaught {D : Ends} {f : Flow} {s' : Shared} (hd : X.calm = true → X.A.handled = none) (h : SP (X.caught a) pins D f s') : SP X pins D f s' := by
  cases f with
  | next => obtain ⟨σ', H', I, q⟩ := h; exact ⟨σ', H', I.uncaught hd, q⟩
  | brk => obtain ⟨σ', H', I, q⟩ := h; exact ⟨σ', H', I.uncaught hd, q⟩
  | cont => obtain ⟨σ', H', I, q⟩ := h; exact ⟨σ', H', I.uncaught hd, q⟩
  | ret u => obtain ⟨v, σ', H', I, r, q⟩ := h; exact ⟨v, σ', H', I.uncaught hd, r, q⟩
end
def tTry (K : PySem.W.Frag) (c : Value) (tb : (St → XK) → TS) (th : TS) : TS := fun D σ H => tb (fun σ' cls _ H' => PySem.W.exmOne K cls c = some true ∧ th D σ' H') D σ H
theorem ps_try {X : Cx} {body suite : List Stmt} {b₀ : Stmt} {x : Str} {c : Value} {np hpos pos : Pos} {tb : (St → XK) → TS} {th : TS} (hstk : X.stack = X.env :: X.outer) (hfr : X.env.frame = some X.env.locals) (hg : Gl X x) (hm : X.mg x = some c)
    (hb : ∀ (pl : List (Addr × Obj)) (E' : Value → Shared → Prop) (E : St → XK), PassesS (CXe X.prog X.w) (X.wishP pl E') E → PSs (X.wishP pl E') body (tb E)) (hh : ∀ a, PSs (X.caught a) (b₀ :: suite) th) (hdb : (x == ("__debug__" : Str)) = false := by decide) :
    PS X (.Try body [.ExceptHandler (some (.Name x np)) none (b₀ :: suite) hpos] [] [] pos) (tTry X.K c tb th) := by
  intro pins s σ H D I h
  rw [arm_exec_Try]
  refine wpAny_bind (wpAny_standAt (wpAny_tryStmt_except ?_))
  have P : PassesS (CXe X.prog X.w) (X.wishP pins fun e s1 => wpAny (model X.prog X.w) X.A (noteFrame e X.env) (fun _ s2 => wpAny (model X.prog X.w) X.A (setFlight e none) (fun _ s3 =>
      wpAny (model X.prog X.w) X.A (handleBy e X.env [.ExceptHandler (some (.Name x np)) none (b₀ :: suite) hpos]) (SP X pins D) X.xe s3) X.xe s2) X.xe s1) (fun σ' cls _ H' => PySem.W.exmOne X.K cls c = some true ∧ th D σ' H') := by
    intro pl σ1 H1 s1 e s2 I1 hq
    have J1 := I1.unwishP
    obtain ⟨a, cls, a0, B, H', rfl, os, bare, un, hok, fl, cov, hx, hth⟩ := hq
    have fl : Heap.FlyingW B (X.env :: X.outer) a cls a0 s2.heap := hstk ▸ fl
    have un : Un (frs X.stack) [] H1 H' s1.heap s2.heap := un
    have cov : Cov B (frs X.stack) H' s1.heap := cov
    have hfs : X.A.frames = some (X.env :: X.outer) := hstk ▸ I.ok.frames
    refine wpAny_looks_onW hfs hfr fl fun h3 held up3 => ?_
    refine wpAny_landsW held fun h4 fl4 up4 => ?_
    have back : ∀ {h5 : Heap}, B.StaysIn h5 → s2.heap.UpToSlots h5 → Inv X pins σ1 H' { s2 with heap := h5 } := fun {h5} st up => by
      have ff2 : s2.heap.FunFrames B X.stack := hstk ▸ fl.2.2.1
      exact J1.call' (s' := { s2 with heap := h5 }) (ch := []) os (fly_un un cov fl.1 st (up_frs ff2 up)) (fly_ok hok cov.trk fl.1 st) bare fun b z => absurd z (by simp)
    have J4 := back fl4.1 (up3.trans up4)
    refine wpAny_handleBy_cons (codeAny_handlers_test ?_) (by intro q; cases q)
    refine ld_glob (J4.caught a) hg hm ?_ hdb
    have LT : PySem.W.Looks (model X.prog X.w) h4 (typeOf (.ref a)) cls := by
      obtain ⟨ob, hob, hc⟩ := fl4.there
      subst hc
      exact (PySem.W.Looks.ld hob).andThen .now
    refine PySem.W.exm_one J4.kIn LT hx _ _ _ _ (fun _ _ q => q) ?_
    refine codeAny_handlers_suite (lands_againW fl4 fun h5 fl5 up5 => ?_)
    have J5 := back fl5.1 ((up3.trans up4).trans up5)
    refine wpAny_mono (hh a pins _ σ1 H' D (J5.caught a) hth) (fun f s6 q => q.uncaught J5.ok.hd) fun _ _ z => z.elim
  refine wpAny_mono (hb pins _ _ P [] s σ H D (I.wishP _) h) (fun f s1 q => ?_) fun _ _ x => x
  have q' := q.unwishP
  cases f with
  | next => exact wpAny_execs_nil q'
  | brk => exact q'
  | cont => exact q'
  | ret u => exact q'
end L2
namespace L2
open PySem PySem.Spec PyProof.Rows
theorem boolsAre_of {bs : List Bool} : ∀ {us : List Value}, Vals (bs.map V.bl) us → LSm.BoolsAre us bs := by
  induction bs with
  | nil => intro us r; rw [List.map_nil] at r; cases r; exact .nil
  | cons n ns ih =>
    intro us r
    rw [List.map_cons] at r
    cases r with
    | cons r1 r2 => cases (show _ = Value.bool n from r1); exact .cons n (ih r2)
section
variable {X : Cx}
theorem call_sumX (b : Bool) (hc : X.calm = true) : CallR X (.builtin "sum") (fun xs H Q => ∃ (a : Addr) (ns : List Int), xs = [.ref a] ∧ SqX X.K b H a (ns.map V.int) ∧ Q (.int ns.sum) H) := by
  intro pins s σ H xs us Q I r h
  obtain ⟨a, ns, rfl, hs, q⟩ := h
  obtain ⟨u, rfl, ru⟩ := r.one
  cases ru
  obtain ⟨its, rv, p⟩ := I.sq hs
  have hi := intsAre_of rv
  obtain ⟨ys, hy⟩ := hi.allInts.items
  have e2 : preSum (numAt ys) ys.size = ns.sum := by
    have e1 : ns = ys.toList.map (·.1) := by
      rw [← nums_intItems, ← hy]; exact (show numsOf its.toArray.toList = ns from hi.numsOf).symm
    rw [preSum_eq, List.take_of_length_le (by simp), e1]
  rw [hy] at p
  cases b with
  | true => exact PySem.W.ktm_sumG (I.ok.hd hc) p fun h' tk t' hk => ⟨.int ns.sum, H, I.kept hk, ⟨t', by rw [e2]⟩, q⟩
  | false => exact sum_intListG (I.ok.hd hc) p fun h' tk t' hk => ⟨.int ns.sum, H, I.kept hk, ⟨t', by rw [e2]⟩, q⟩
theorem call_anyB (hc : X.calm = true) : CallR X (.builtin "any") (fun xs H Q => ∃ (a : Addr) (bs : List Bool), xs = [.ref a] ∧ SqL X.K H a (bs.map V.bl) ∧ Q (.bl (bs.any id)) H) := by
  intro pins s σ H xs us Q I r h
  obtain ⟨a, bs, rfl, hs, q⟩ := h
  obtain ⟨u, rfl, ru⟩ := r.one
  cases ru
  obtain ⟨its, rv, p, _⟩ := I.list hs
  have hb := boolsAre_of rv
  have hl := p.isList
  have lt : a < s.heap.objs.size := by obtain ⟨_, e, _⟩ := hl; exact Heap.lt_size e
  refine call_any_walk (wpAny_pyIter_list hl ⟨s.heap.objs.size, _, _, _, _, _, fun i => (bs[i]?).getD false, rfl, Walks.list (A := X.A.in1) (I.ok.hd hc) _ a (Nat.ne_of_lt lt) its.toArray, ⟨⟨_, Heap.get?_push_size _ rfl, rfl, rfl⟩, hl.push _⟩, fun i v s' Q' E' hP hQ => ?_, fun h' tk hk => ?_⟩)
  · obtain ⟨b, e, rfl⟩ := hb.get i v (by simpa using hP)
    simp only [e, Option.getD_some] at hQ; exact wpAny_truthy_bool hQ
  · refine ⟨.bl (bs.any id), H, I.kept (LSm.kept_iter hk), ?_, q⟩
    show Value.bool _ = Value.bool _
    rw [List.size_toArray, hb.length, LSm.range_any bs]
def clV : V → Option Value
  | .ty n => some (.type n)
  | .ref a => some (.ref a)
  | _ => none
theorem call_isinst : CallR X (.builtin "isinstance") (fun xs H Q => ∃ x y t c b, xs = [x, y] ∧ clV y = some c ∧ TyOf X.K H x t ∧ PySem.W.kitOne X.K t c = some b ∧ Q (.bl b) H) := by
  intro pins s σ H xs us Q I r h
  obtain ⟨x, y, t, c, b, rfl, hy, ty, e, q⟩ := h
  obtain ⟨u, v, rfl, ru, rv⟩ := r.two
  have ev : v = c := by
    cases y with
    | ty n => cases hy; exact rv
    | ref a => cases hy; exact rv
    | _ => cases hy
  subst ev
  exact isinst_ok I ru ty e fun tk => ⟨.bl b, H, I.tok _, rfl, q⟩
end
end L2
namespace L2
open PySem PySem.Spec PyProof.Rows
section
variable {P : Program} {w : World} {K : PySem.W.Frag} {mg : Str → Option Value} {base : Heap}
end
def CMulB (i j : Int) : Prop := i.natAbs < 2 ^ 4000 ∧ j.natAbs < 2 ^ 4000
theorem op_mulB {X : Cx} : OpR X (binaryOp .Mult) (rI CMulB fun i j => .int (i * j)) := opI fun _ _ _ _ _ _ _ hc q => mul_int q (PySem.IntMulOk.of_bits (Nat.le_trans (intBits_le hc.1) (by decide)) (Nat.le_trans (intBits_le hc.2) (by decide)))
end L2
namespace L2
open PySem PySem.Spec PyProof.Rows
structure CMeth (K : PySem.W.Frag) (C : Addr) (m : Str) (f : Addr) : Prop where
  ex : ∃ mc, PySem.W.readsIn K C mc = true ∧ PySem.W.findCls K (.ref C) mc m = some (.val (.ref f))
  sp : PySem.W.specialIn K (.ref C) "__getattribute__" = some (some (.builtin "type.__getattribute__"))
  kp : PySem.W.keepIn K (.ref f) = true
section
variable {X : Cx} {CX : CXT} {k : Nat} {f C : Addr} {fd : FuncData} {ps : List Str} {sp : Sp} {dvs : List V} {ds : List Value} {E : St → XK} {x m : Str} {p pos apos : Pos} {e o : Expr} {es : List Expr} {ta : TE} {t : TA}
theorem run_makeS {pins : List (Addr × Obj)} {σ : St} {H : Hp} {s : Shared} {Q : VK} {us : List Value} {vs : List V} (M : Mk X.K C f) (F : FnOk X.prog X.w X.K X.mg X.base CX k f fd ps sp) (hr : Room (k + 1) X.A) (hb : Binds X.K fd ps ds) (hd : Vals dvs ds)
    (hx : PassesS CX X E) (I : Inv X pins σ H s) (r : Vals vs us)
    (h : ∀ x dx, H x = none → H dx = none → dx ≠ x → sp (.ref x :: (vs ++ dvs)) (upd (upd H dx (.own x)) x (.ins C dx [])) (fun v H2 => v = .non ∧ Q (.ref x) H2) (E σ)) :
    wpAny (model X.prog X.w) X.A (call (.ref C) us) (EP X pins σ Q) X.xe s := by
  have hq := h (s.heap.objs.size + 1) s.heap.objs.size (I.hok.fresh (Nat.le_succ _)) (I.hok.fresh (Nat.le_refl _)) (Nat.ne_of_lt (Nat.lt_succ_self _))
  have I2 := Inv.made (C := C) I
  have r2 : Vals (V.ref (s.heap.objs.size + 1) :: (vs ++ dvs)) (Value.ref (s.heap.objs.size + 1) :: (us ++ ds)) := .cons rfl (r.append hd)
  have hl : (Value.ref (s.heap.objs.size + 1) :: us ++ ds).length = ps.length := by
    have e := r2.length
    rw [F.len _ _ _ _ hq] at e
    exact e.symm
  refine wpAny_call (make_map (f := f) I.kIn M.makes M.init (beq_iff_eq.mp M.fn) (codeAny_mono (F.run _ X.stack _ _ ⟨Value.ref (s.heap.objs.size + 1) :: us, []⟩ (Value.ref (s.heap.objs.size + 1) :: (us ++ ds)) _ _ (E σ) (hr.make C us [])
    (I2.env0.make C us []) (hb _ (Value.ref (s.heap.objs.size + 1) :: us) I2.kIn hl) r2 hq) fun r s' hq' => ?_))
  match r, hq' with
  | .error e, hq' => exact hx pins σ _ _ e s' I2 hq'
  | .ok (.ret u), hq' =>
    obtain ⟨v, H', I3, rv, ev, q3⟩ := I2.after hq'
    subst ev
    exact ⟨rv, ⟨V.ref (s.heap.objs.size + 1), H', I3, rfl, q3⟩⟩
  | .ok .next, hq' => exact False.elim hq'
  | .ok .brk, hq' => exact False.elim hq'
  | .ok .cont, hq' => exact False.elim hq'
theorem pe_makeS (M : Mk X.K C f) (F : FnOk X.prog X.w X.K X.mg X.base CX k f fd ps sp) (hr : Room (k + 1) X.A) (hg : Gl X x) (hm : X.mg x = some (.ref C)) (hb : Binds X.K fd ps ds) (hd : Vals dvs ds) (hx : PassesS CX X E)
    (ha : PA X (e :: es) t) (hdb : (x == ("__debug__" : Str)) = false := by decide) (he : starEach (e :: es) X.env = (false, eval e X.env) :: starEach es X.env := by rfl) (hpl : (backTo pos (starEach es X.env)).any (·.1) = false := by rfl) :
    PE X (.Call (.Name x p) (e :: es) [] pos) (tMakeS C sp dvs E t) := by
  intro pins s σ H Q I h
  refine wpAny_Call_Name_kw (ld_glob I hg hm (PySem.W.callWith_K (h₀ := X.base) I.ok.mod.kin M.kp (thn (ha pos pins s σ H _ I h) fun us s1 ⟨vs, H1, I1, r, q⟩ => ⟨I1.kIn, ?_⟩) he hpl) hdb)
  exact run_makeS M F hr hb hd hx I1 r q
end
end L2
set_option Elab.async false
set_option linter.all false
set_option maxRecDepth 100000
namespace L2
open PySem PySem.Spec PyProof.Rows
structure FunD (K : PySem.W.Frag) (x qual : Str) (st : Stmt) (dV : Value) (f : Addr) (fd : FuncData) : Prop where
  ex : ∃ (oc : Value) (od : Option Addr) (kV doc pm : Value) (an : Option Addr) (cdv ct : Value) (osl : Array (Option Value)),
    fd = PySem.W.fnOf x qual (defArgs st) (defBody st) (defScope st) dV kV doc pm an cdv ct ∧ K.lookup f = some ⟨oc, od, .func fd, osl⟩ ∧ PySem.W.codeIn K cdv qual = true
section
variable {P : Program} {w : World} {K : PySem.W.Frag} {mg : Str → Option Value} {base : Heap} {x qual : Str} {st : Stmt} {dV : Value} {f : Addr} {fd : FuncData} {N ps : List Str} {k : Nat} {sp : Sp}
theorem FunD.okN (F : FunD K x qual st dV f fd) (S : FnScope N ps (defScope st)) (len : ∀ vs H Q E, sp vs H Q E → vs.length = ps.length)
    (hbody : ∀ (cdv : Value) (A : Around) (outer : List Env) (s : Shared) (H : Hp) (vs : List V) (Q : VK) (E : XK), Room k (A.deeper (envOfC qual (defScope st) s.heap.objs.size f cdv)) → sp vs H Q E →
      ∃ t, PSs (cxOf CX0 P w K mg base N qual (defScope st) f cdv A outer s H E).nox (defBody st) t ∧ t { nx := fun _ H' => Q .non H', rt := Q } (start N vs) H) : FnOk P w K mg base CX0 (k + 1) f fd ps sp := by
  obtain ⟨oc, od, kV, doc, pm, an, cdv, ct, osl, rfl, lk, hcd⟩ := F.ex
  refine fn_of lk hcd S len fun A outer s H vs Q E hr hsp => ?_
  obtain ⟨t, h, q⟩ := hbody cdv A outer s H vs Q E hr hsp
  exact ⟨t, h.nox, q⟩
theorem FunD.okX (F : FunD K x qual st dV f fd) (S : FnScope N ps (defScope st)) (len : ∀ vs H Q E, sp vs H Q E → vs.length = ps.length)
    (hbody : ∀ (cdv : Value) (A : Around) (outer : List Env) (s : Shared) (H : Hp) (vs : List V) (Q : VK) (E : XK), Room k (A.deeper (envOfC qual (defScope st) s.heap.objs.size f cdv)) → sp vs H Q E →
      ∃ t, PSs (cxOf (CXe P w) P w K mg base N qual (defScope st) f cdv A outer s H E) (defBody st) t ∧ t { nx := fun _ H' => Q .non H', rt := Q } (start N vs) H) : FnOk P w K mg base (CXe P w) (k + 1) f fd ps sp := by
  obtain ⟨oc, od, kV, doc, pm, an, cdv, ct, osl, rfl, lk, hcd⟩ := F.ex
  exact fn_of lk hcd S len fun A outer s H vs Q E hr hsp => hbody cdv A outer s H vs Q E hr hsp
theorem FunD.binds (F : FunD K x qual st .none f fd)
    (h : ∀ (kV doc pm : Value) (an : Option Addr) (cdv ct : Value) (us : List Value), us.length = ps.length → bindArgs (PySem.W.fnOf x qual (defArgs st) (defBody st) (defScope st) .none kV doc pm an cdv ct) ⟨us, []⟩ = pure (ps.zip us)) : Binds K fd ps [] := by
  obtain ⟨oc, od, kV, doc, pm, an, cdv, ct, osl, rfl, lk, hcd⟩ := F.ex
  exact .all (h kV doc pm an cdv ct)
theorem funD_mk {oc : Value} {od an : Option Addr} {osl : Array (Option Value)} {kV doc pm cdv ct : Value} (l : K.lookup f = some ⟨oc, od, .func (PySem.W.fnOf x qual (defArgs st) (defBody st) (defScope st) dV kV doc pm an cdv ct), osl⟩)
    (c : PySem.W.codeIn K cdv qual = true) : FunD K x qual st dV f (PySem.W.fnOf x qual (defArgs st) (defBody st) (defScope st) dV kV doc pm an cdv ct) := ⟨⟨oc, od, kV, doc, pm, an, cdv, ct, osl, rfl, l, c⟩⟩
end
structure Cal (P : Program) (w : World) (K : PySem.W.Frag) (mg : Str → Option Value) (base : Heap) (CX : CXT) (k : Nat) (x : Str) (ps : List Str) (ds : List Value) (sp : Sp) : Prop where
  ex : ∃ f fd, FnOk P w K mg base CX k f fd ps sp ∧ Binds K fd ps ds ∧ PySem.W.keepIn K (.ref f) = true ∧ mg x = some (.ref f)
structure MCal (P : Program) (w : World) (K : PySem.W.Frag) (mg : Str → Option Value) (base : Heap) (CX : CXT) (k : Nat) (C : Addr) (m : Str) (ps : List Str) (ds : List Value) (sp : Sp) : Prop where
  ex : ∃ f fd, FnOk P w K mg base CX k f fd ps sp ∧ Binds K fd ps ds ∧ Meth K C m f
  cl : Cls K C
structure Mak (P : Program) (w : World) (K : PySem.W.Frag) (mg : Str → Option Value) (base : Heap) (CX : CXT) (k : Nat) (x : Str) (C : Addr) (ps : List Str) (ds : List Value) (sp : Sp) : Prop where
  ex : ∃ f fd, FnOk P w K mg base CX k f fd ps sp ∧ Binds K fd ps ds ∧ Mk K C f
  at_ : mg x = some (.ref C)
structure CCal (P : Program) (w : World) (K : PySem.W.Frag) (mg : Str → Option Value) (base : Heap) (CX : CXT) (k : Nat) (x : Str) (m : Str) (ps : List Str) (ds : List Value) (sp : Sp) : Prop where
  ex : ∃ C f fd, FnOk P w K mg base CX k f fd ps sp ∧ Binds K fd ps ds ∧ CMeth K C m f ∧ mg x = some (.ref C)
structure Exc (K : PySem.W.Frag) (mg : Str → Option Value) (base : Heap) (x : Str) (C : Addr) : Prop where
  ex : ∃ bm nid init B, OwnCls x C bm nid mg base ∧ ExcBaseFacts B nid init bm
  at_ : mg x = some (.ref C)
  me : PySem.W.exmOne K (.ref C) (.ref C) = some true
theorem pass00 {X : Cx} : PassesS CX0 X (fun _ => E0) := fun _ _ _ _ _ _ _ h => h.elim
theorem passF {X : Cx} {P : Program} {w : World} : PassesS (CXe P w) X (fun _ => E0) := by
  rintro _ _ _ _ _ _ _ ⟨_, _, _, _, _, _, _, _, _, _, _, _, h⟩
  exact h.elim
section
variable {X : Cx} {CX : CXT} {k j : Nat} {C : Addr} {ps : List Str} {sp : Sp} {dvs : List V} {ds : List Value} {E : St → XK} {x m : Str} {p pos apos : Pos} {e o : Expr} {es : List Expr} {ta : TE} {t : TA}
theorem pe_c (c : Cal X.prog X.w X.K X.mg X.base CX k x ps ds sp) (hr : Room j X.A) (hx : PassesS CX X E) (hd : Vals dvs ds) (ha : PA X (e :: es) t) (hk : k ≤ j := by decide) (hg : Gl X x := by rfl)
    (hdb : (x == ("__debug__" : Str)) = false := by decide) (he : starEach (e :: es) X.env = (false, eval e X.env) :: starEach es X.env := by rfl) (hpl : (backTo pos (starEach es X.env)).any (·.1) = false := by rfl) :
    PE X (.Call (.Name x p) (e :: es) [] pos) (tCallS sp dvs E t) := by
  obtain ⟨f, fd, F, hb, hk', hm⟩ := c.ex
  exact pe_callS F (hr.mono hk) hg hm hk' hb hd hx ha hdb he hpl
theorem pe_m {pl : Sem Bool} (c : MCal X.prog X.w X.K X.mg X.base CX k C m ps ds sp) (he : PE X o ta) (hr : Room j X.A) (hx : PassesS CX X E) (hd : Vals dvs ds) (ha : PA X (e :: es) t) (hk : k ≤ j := by decide)
    (hst : starEach (e :: es) X.env = (false, eval e X.env) :: starEach es X.env := by rfl) (hpl : (backTo pos (starEach es X.env)).any (·.1) = false := by rfl)
    (ht : eval (.Call (.Attribute o m apos) (e :: es) [] pos) X.env = (do
      let ov ← eval o X.env
      standAt apos.atName
      let (f, first) ← holding [ov] (getMethod ov m pl)
      callWith pos f first (backTo pos (starEach (e :: es) X.env)) (backToKw pos (keywordEach [] X.env))) := by rfl) :
    PE X (.Call (.Attribute o m apos) (e :: es) [] pos) (tMethS C m sp dvs E ta t) := by
  obtain ⟨f, fd, F, hb, hm⟩ := c.ex
  exact pe_methS he c.cl hm F (hr.mono hk) hb hd hx ha hst hpl ht
theorem pe_mk (c : Mak X.prog X.w X.K X.mg X.base CX k x C ps ds sp) (hr : Room j X.A) (hx : PassesS CX X E) (hd : Vals dvs ds) (ha : PA X (e :: es) t) (hk : k + 1 ≤ j := by decide) (hg : Gl X x := by rfl)
    (hdb : (x == ("__debug__" : Str)) = false := by decide) (he : starEach (e :: es) X.env = (false, eval e X.env) :: starEach es X.env := by rfl) (hpl : (backTo pos (starEach es X.env)).any (·.1) = false := by rfl) :
    PE X (.Call (.Name x p) (e :: es) [] pos) (tMakeS C sp dvs E t) := by
  obtain ⟨f, fd, F, hb, hm⟩ := c.ex
  exact pe_makeS hm F (hr.mono hk) hg c.at_ hb hd hx ha hdb he hpl
theorem ps_rz {np cpos : Pos} (x' : Exc X.K X.mg X.base x C) (hc : X.calm = true) (hg : Gl X x) (hx : RaisesTo X E) (ha : PA X (e :: es) t) (he : starEach (e :: es) X.env = (false, eval e X.env) :: starEach es X.env := by rfl) (hpl : (backTo cpos (starEach es X.env)).any (·.1) = false := by rfl) (hd : (x == ("__debug__" : Str)) = false := by decide) :
    PS X (.Raise (some (.Call (.Name x np) (e :: es) [] cpos)) none pos) (tRaise C E t) := by
  obtain ⟨bm, nid, init, B, O, FB⟩ := x'.ex
  exact ps_raise O FB hc hg hx ha he hpl hd
end
def CDivB (_ j : Int) : Prop := j ≠ 0 ∧ j.natAbs < 2 ^ 8999
theorem cEq {a b : Int} {A B : Prop} (h1 : a = b → A) (h2 : a ≠ b → B) : if decide (V.int a = V.int b) = true then A else B := by
  by_cases h : a = b
  · rw [decide_eq_true (congrArg V.int h)]; exact iteT (h1 h)
  · rw [decide_eq_false fun z => h (by injection z)]; exact iteF (h2 h)
theorem cNe {a b : Int} {A B : Prop} (h1 : a ≠ b → A) (h2 : a = b → B) : if (!decide (V.int a = V.int b)) = true then A else B := by
  by_cases h : a = b
  · rw [decide_eq_true (congrArg V.int h)]; exact iteF (h2 h)
  · rw [decide_eq_false fun z => h (by injection z)]; exact iteT (h1 h)
theorem cD {c : Prop} [Decidable c] {A B : Prop} (h1 : c → A) (h2 : ¬ c → B) : if decide c = true then A else B := by
  by_cases h : c
  · rw [decide_eq_true h]; exact iteT (h1 h)
  · rw [decide_eq_false h]; exact iteF (h2 h)
theorem cN {c : Prop} [Decidable c] {A B : Prop} (h1 : ¬ c → A) (h2 : c → B) : if (!decide c) = true then A else B := by
  by_cases h : c
  · rw [decide_eq_true h]; exact iteF (h2 h)
  · rw [decide_eq_false h]; exact iteT (h1 h)
theorem dI {a b : Int} : decide (V.int a = V.int b) = decide (a = b) := by
  by_cases h : a = b
  · rw [decide_eq_true (congrArg V.int h), decide_eq_true h]
  · rw [decide_eq_false fun z => h (by injection z), decide_eq_false h]
end L2
namespace L2
open PySem PySem.Spec PyProof.Rows
mutual
inductive Rds (K : PySem.W.Frag) (H : Hp) : V → PyData → Prop
  | non : Rds K H .non .none
  | bl (b : Bool) : Rds K H (.bl b) (.bool b)
  | int (i : Int) : Rds K H (.int i) (.int i)
  | str (x : Str) : Rds K H (.str x) (.str x)
  | tup {a : Addr} {xs : List V} {ds : List PyData} : SqT K H a xs → RdsAll K H xs ds → Rds K H (.ref a) (.tuple ds)
  | lst {a : Addr} {xs : List V} {ds : List PyData} : SqL K H a xs → RdsAll K H xs ds → Rds K H (.ref a) (.list ds)
inductive RdsAll (K : PySem.W.Frag) (H : Hp) : List V → List PyData → Prop
  | nil : RdsAll K H [] []
  | cons {x : V} {xs : List V} {d : PyData} {ds : List PyData} : Rds K H x d → RdsAll K H xs ds → RdsAll K H (x :: xs) (d :: ds)
end
theorem rds_ints {K : PySem.W.Frag} {H : Hp} : ∀ ns : List Int, RdsAll K H (ns.map V.int) (ns.map PyData.int)
  | [] => .nil
  | n :: ns => .cons (.int n) (rds_ints ns)
section
variable {X : Cx} {pins : List (Addr × Obj)} {σ : St} {H : Hp} {s : Shared}
mutual
theorem Inv.rds (I : Inv X pins σ H s) : ∀ {v : V} {d : PyData} {u : Value}, Rds X.K H v d → RelV v u → ∃ as, Reads s.heap u d as
  | _, _, _, .non, r => by cases (show _ = Value.none from r); exact ⟨_, .none⟩
  | _, _, _, .bl b, r => by cases (show _ = Value.bool b from r); exact ⟨_, .bool b⟩
  | _, _, _, .int i, r => by obtain ⟨t, rfl⟩ := r; exact ⟨_, .int i t⟩
  | _, _, _, .str x, r => by obtain ⟨t, rfl⟩ := r; exact ⟨_, .str x t⟩
  | _, _, _, .tup (a := a) h hs, r => by
    cases (show _ = Value.ref a from r)
    obtain ⟨its, rv, ⟨o, ho, hc, n, hd⟩, _⟩ := I.tuple h
    obtain ⟨as, q⟩ := Inv.rdsAll I hs rv
    exact ⟨as, .tuple ho hc hd (by simpa using q)⟩
  | _, _, _, .lst (a := a) h hs, r => by
    cases (show _ = Value.ref a from r)
    obtain ⟨its, rv, p, _⟩ := I.list h
    obtain ⟨o, ho, hc, n, hd⟩ := p.isList
    obtain ⟨as, q⟩ := Inv.rdsAll I hs rv
    exact ⟨_, .list ho hc hd (by simpa using q)⟩
theorem Inv.rdsAll (I : Inv X pins σ H s) : ∀ {vs : List V} {ds : List PyData} {us : List Value}, RdsAll X.K H vs ds → Vals vs us → ∃ as, ReadsAll s.heap us ds as
  | _, _, _, .nil, .nil => ⟨_, .nil⟩
  | _, _, _, .cons h hs, .cons r rs => by
    obtain ⟨as, q⟩ := Inv.rds I h r
    obtain ⟨bs, p⟩ := Inv.rdsAll I hs rs
    exact ⟨_, .cons q p⟩
end
end
section
variable {X : Cx}
theorem op_eqD (hu : X.A.units + 64 < cLine) : OpR X (compareOp .Eq) (fun x y H Q => ∃ d e, Rds X.K H x d ∧ Rds X.K H y e ∧ SeqAt.shaped d = true ∧ SeqAt.shaped e = true ∧ Q (.bl (PyData.eqv d e)) H) := by
  intro pins s σ H x y u v Q I rx ry h
  obtain ⟨d, e, hd, he, s1, s2, q⟩ := h
  obtain ⟨as, ra⟩ := I.rds hd rx
  obtain ⟨bs, rb⟩ := I.rds he ry
  exact eq_dataH ra rb s1 s2 hu ⟨.bl (PyData.eqv d e), H, I, rfl, q⟩
theorem op_neD (hu : X.A.units + 64 < cLine) : OpR X (compareOp .NotEq) (fun x y H Q => ∃ d e, Rds X.K H x d ∧ Rds X.K H y e ∧ SeqAt.shaped d = true ∧ SeqAt.shaped e = true ∧ Q (.bl (!PyData.eqv d e)) H) := by
  intro pins s σ H x y u v Q I rx ry h
  obtain ⟨d, e, hd, he, s1, s2, q⟩ := h
  obtain ⟨as, ra⟩ := I.rds hd rx
  obtain ⟨bs, rb⟩ := I.rds he ry
  exact ne_dataH ra rb s1 s2 hu ⟨.bl (!PyData.eqv d e), H, I, rfl, q⟩
end
theorem eqv_ints : ∀ ns ms : List Int, PyData.eqvAll (ns.map PyData.int) (ms.map PyData.int) = decide (ns = ms)
  | [], [] => by simp [PyData.eqvAll]
  | [], _ :: _ => by simp [PyData.eqvAll]
  | _ :: _, [] => by simp [PyData.eqvAll]
  | a :: r, b :: t => by
    simp only [List.map_cons, PyData.eqvAll, PyData.eqv, eqv_ints r t]
    by_cases h : a = b <;> by_cases h' : r = t <;> simp [h, h']
theorem shaped_ints (ns : List Int) : SeqAt.shaped (.tuple (ns.map PyData.int)) = true := by
  simp [SeqAt.shaped, PyData.canLay0, PyData.depth, PySem.W.ke_canLayAll0, PySem.W.ke_depthAll]
section
variable {X : Cx}
def rEqT (K : PySem.W.Frag) : R2 := fun x y H Q => ∃ (a b : Addr) (xs ys : List Int), x = .ref a ∧ y = .ref b ∧ SqT K H a (xs.map V.int) ∧ SqT K H b (ys.map V.int) ∧ Q (.bl (decide (xs = ys))) H
def rNeT (K : PySem.W.Frag) : R2 := fun x y H Q => ∃ (a b : Addr) (xs ys : List Int), x = .ref a ∧ y = .ref b ∧ SqT K H a (xs.map V.int) ∧ SqT K H b (ys.map V.int) ∧ Q (.bl (!decide (xs = ys))) H
theorem op_eqT (hu : X.A.units + 64 < cLine) : OpR X (compareOp .Eq) (rEqT X.K) := by
  intro pins s σ H x y u v Q I rx ry h
  obtain ⟨a, b, xs, ys, rfl, rfl, h1, h2, q⟩ := h
  refine op_eqD hu pins s σ H _ _ u v Q I rx ry ⟨_, _, .tup h1 (rds_ints xs), .tup h2 (rds_ints ys), shaped_ints _, shaped_ints _, ?_⟩
  rw [PyData.eqv, eqv_ints]
  exact q
theorem op_neT (hu : X.A.units + 64 < cLine) : OpR X (compareOp .NotEq) (rNeT X.K) := by
  intro pins s σ H x y u v Q I rx ry h
  obtain ⟨a, b, xs, ys, rfl, rfl, h1, h2, q⟩ := h
  refine op_neD hu pins s σ H _ _ u v Q I rx ry ⟨_, _, .tup h1 (rds_ints xs), .tup h2 (rds_ints ys), shaped_ints _, shaped_ints _, ?_⟩
  rw [PyData.eqv, eqv_ints]
  exact q
end
end L2
namespace HT
open PySem PyProof.Rows
section
open PySem.SeqAt
open PySem.AutoSeq1 (wpAny_loadPart')
open PySem.MeetsSeq PySem.MeetsSeq2 PySem.MeetsSeq3
theorem rcGt_int (A : Around) (s : Shared) (a : Int) (t : Tok) (c : Int) (u : Tok) (prog : Program) (w : World) (E : Value → Shared → Prop) (Q : Value → Shared → Prop) (h : Q (.bool (decide (c < a))) s) :
    wpAny (model prog w) A (richCompare .Gt (.int a t) (.int c u)) Q E s :=
  (PyProof.Rows.gt_int h : wpAny (model prog w) A (compareOp .Gt (.int a t) (.int c u)) Q E s)
theorem tuple_gt_ints (l b : Addr) (items items2 : Array Value) (n n2 : Nat) (dd dd2 : Option Addr) (sl sl2 : Array (Option Value)) (ns ms : List Int) (hi : IntsAre items.toList ns) (hj : IntsAre items2.toList ms) :
    Meets (Builtin.«tuple.__gt__» ⟨[.ref l, .ref b], []⟩)
      (fun _ R s => s.heap.get? l = some { cls := .type "tuple", dict := dd, data := .seq items n, slots := sl } ∧ s.heap.get? b = some { cls := .type "tuple", dict := dd2, data := .seq items2 n2, slots := sl2 } ∧
        R (.ok (.ret (.bool (lexLt ms ns)))) s) :=
  .of_wp fun prog w A R s h => by
    obtain ⟨hp, g, d, tk, os⟩ := s; obtain ⟨hl, hb, h⟩ := h
    have f2 := AutoSeq1.sub_tuple_tuple
    have z1 : items.size = ns.length := by rw [← hi.length]; simp
    have z2 : items2.size = ms.length := by rw [← hj.length]; simp
    wp_walk using wpAny_loadPart' hl, wpAny_loadPart' hb, wpAny_forIn_list _ (fun rest b s' => b.1 = none ∧ s' = ⟨hp, g, d, tk, os⟩ ∧ ∃ (vs ws : List Value) (ns' ms' : List Int), rest = vs.zip ws ∧
      IntsAre vs ns' ∧ IntsAre ws ms' ∧ ns'.length + items2.size = ms'.length + items.size ∧ R (.ok (.ret (.bool (lexLt ms' ns')))) ⟨hp, g, d, tk, os⟩) _
    case turn =>
      rintro ⟨y, x⟩ rest b s' ⟨hb', rfl, vs, ws, ns', ms', hz, hvi, hwi, hlen, hR⟩
      cases hvi with
      | nil => rw [List.zip_nil_left] at hz; cases hz
      | cons a t hvi' =>
        cases hwi with
        | nil => rw [List.zip_nil_right] at hz; cases hz
        | cons c u hwi' =>
          rw [List.zip_cons_cons] at hz
          injection hz with hyx hrest
          injection hyx with hy hx
          subst hy hx
          rw [lexLt_cons] at hR
          simp only [List.length_cons] at hlen
          obtain ⟨e, he, hiff⟩ := eqAt_int A.in1 ⟨hp, g, d, tk, os⟩ a t c u
          refine wpAny_bind (he prog w _ _ ?_)
          cases e with
          | true =>
            rw [if_pos (hiff.mp rfl).symm] at hR
            wp_walk
            exact ⟨rfl, rfl, _, _, _, _, hrest, hvi', hwi', by omega, hR⟩
          | false =>
            rw [if_neg (fun q => absurd (hiff.mpr q.symm) Bool.false_ne_true)] at hR
            have hri := rcGt_int A.in1 ⟨hp, g, d, tk, os⟩ a t c u prog w
            wp_walk using hri
            exact ⟨_, rfl, by simpa using hR⟩
    case fin =>
      rintro ⟨b1, b2⟩ s' ⟨hb', rfl, vs, ws, ns', ms', hz, hvi, hwi, hlen, hR⟩
      simp only at hb'
      subst hb'
      have hv : lexLt ms' ns' = decide (items2.size < items.size) := by
        cases hvi with
        | nil =>
          cases hwi with
          | nil =>
            simp only [List.length_nil] at hlen
            rw [lexLt_nil_nil]
            exact (decide_eq_false (by omega)).symm
          | cons c u hw =>
            simp only [List.length_nil, List.length_cons] at hlen
            rw [lexLt_cons_nil]
            exact (decide_eq_false (by omega)).symm
        | cons a t hv =>
          cases hwi with
          | nil =>
            simp only [List.length_nil, List.length_cons] at hlen
            rw [lexLt_nil_cons]
            exact (decide_eq_true (by omega)).symm
          | cons c u hw =>
            rw [List.zip_cons_cons] at hz
            cases hz
      rw [hv] at hR
      wp_walk
      exact ⟨_, rfl, by simpa [Builtin.Tuple.tupleCompareSizes] using hR⟩
    case h =>
      exact ⟨rfl, rfl, items.toList, items2.toList, ns, ms, rfl, hi, hj, by omega, h⟩
end
theorem gt_tupInts {prog : Program} {w : World} {A : Around} {E : Value → Shared → Prop} {s : Shared} {l b : Addr} {items items2 : Array Value} {ns ms : List Int} {Q : Value → Shared → Prop} (hl : IsTup s.heap l items) (hb : IsTup s.heap b items2) (hi : IntsAre items.toList ns) (hj : IntsAre items2.toList ms)
    (hu : A.units < cLine) (h : Q (.bool (lexLt ms ns)) s) : wpAny (model prog w) A (compareOp .Gt (.ref l) (.ref b)) Q E s := by
  obtain ⟨⟨cls, dd, data, sl⟩, ho, hc, n, hd⟩ := id hl
  obtain ⟨⟨cls2, dd2, data2, sl2⟩, ho2, hc2, n2, hd2⟩ := id hb
  simp only at hc hd hc2 hd2
  subst hc hd hc2 hd2
  exact richCompare_meets_room (op := .Gt) ⟨_, ho, rfl⟩ ⟨_, ho2, rfl⟩ PySem.F.slot_tuple_gt PySem.F.entry_tuple_gt (PySem.F.args_tuple_gt_2 _ _) (tuple_gt_ints l b items items2 n n2 dd dd2 sl sl2 ns ms hi hj)
    ⟨ho, ho2, show Value.bool (lexLt ms ns) ≠ Value.notImplemented ∧ Q (.bool (lexLt ms ns)) s from ⟨(fun x => nomatch x), h⟩⟩ hu
end HT
namespace L2
open PySem PySem.Spec PyProof.Rows
variable {X : Cx}
def rGtT (K : PySem.W.Frag) : R2 := fun x y H Q => ∃ (a b : Addr) (ns ms : List Int), x = .ref a ∧ y = .ref b ∧ SqT K H a (ns.map V.int) ∧ SqT K H b (ms.map V.int) ∧ Q (.bl (HT.lexLt ms ns)) H
theorem op_gtT (hu : X.A.units < cLine) : OpR X (compareOp .Gt) (rGtT X.K) := by
  intro pins s σ H x y v u Q I rx ry h
  obtain ⟨a, b, ns, ms, rfl, rfl, ha, hb, q⟩ := h
  cases rx
  cases ry
  obtain ⟨its, r1, p1, _⟩ := I.tuple ha
  obtain ⟨its2, r2, p2, _⟩ := I.tuple hb
  have i1 : IntsAre its.toArray.toList ns := intsAre_of r1
  have i2 : IntsAre its2.toArray.toList ms := intsAre_of r2
  exact HT.gt_tupInts p1 p2 i1 i2 hu ⟨.bl (HT.lexLt ms ns), H, I, rfl, q⟩
end L2
namespace PySem
namespace F
theorem owner_rvd : Manifest.owners.lookup (String.ofList ['d', 'e', 's', 'r', 'e', 'v', 'e', 'r'].reverse) = some Manifest.sig_reversed := by kernel_rfl
theorem slot_rvd_next : Slot "reversed" "__next__" "reversed.__next__" :=
  .of (owner := "reversed") (n := "__next__") (by rw [typeLookup_type, builtinLookup_eq_fast]; kernel_rfl) (by decide +kernel) (by decide +kernel) (by decide +kernel)
    (by first | exact .inl (by decide +kernel) | exact .inr (by decide +kernel)) (by rw [isSubtype_type]; kernel_rfl)
theorem entry_rvd_next : entryFor table "reversed.__next__" = some Builtin.«reversed.__next__» := entryFor_of_tree (by kernel_rfl)
theorem args_rvd_next_1 (a : Value) : argsOk "reversed.__next__" ⟨[a], []⟩ := by
  unfold argsOk; rw [signature?_of (id := "reversed.__next__") (n := ['_', '_', 't', 'x', 'e', 'n', '_', '_']) (o := ['d', 'e', 's', 'r', 'e', 'v', 'e', 'r']) (by kernel_rfl) owner_rvd]; kernel_rfl
theorem slot_rvd_iter : Slot "reversed" "__iter__" "reversed.__iter__" :=
  .of (owner := "reversed") (n := "__iter__") (by rw [typeLookup_type, builtinLookup_eq_fast]; kernel_rfl) (by decide +kernel) (by decide +kernel) (by decide +kernel)
    (by first | exact .inl (by decide +kernel) | exact .inr (by decide +kernel)) (by rw [isSubtype_type]; kernel_rfl)
theorem args_rvd_iter_1 (a : Value) : argsOk "reversed.__iter__" ⟨[a], []⟩ := by
  unfold argsOk; rw [signature?_of (id := "reversed.__iter__") (n := ['_', '_', 'r', 'e', 't', 'i', '_', '_']) (o := ['d', 'e', 's', 'r', 'e', 'v', 'e', 'r']) (by kernel_rfl) owner_rvd]; kernel_rfl
theorem entry_rvd_iter : entryFor table "reversed.__iter__" = some Builtin.«dict_keyiterator.__iter__» :=
  entryFor_alias (id' := "dict_keyiterator.__iter__") (by kernel_rfl) (by first | rfl | decide +kernel | (unfold String.splitOn; simp +decide [String.splitOnAux])) (by decide +kernel) (by kernel_rfl)
theorem lookup_tuple_reversed : typeLookup (.type "tuple") "__reversed__" = pure none := by rw [typeLookup_type, builtinLookup_eq_fast]; kernel_rfl
theorem slot_rvd_init : Slot "reversed" "__init__" "object.__init__" :=
  .of (owner := "object") (n := "__init__") (by rw [typeLookup_type, builtinLookup_eq_fast]; kernel_rfl) (by decide +kernel) (by decide +kernel) (by decide +kernel)
    (by first | exact .inl (by decide +kernel) | exact .inr (by decide +kernel)) (by rw [isSubtype_type]; kernel_rfl)
theorem called_reversed : TypeCalled "reversed" "reversed.__new__" "object.__init__" :=
  ⟨by decide +kernel, by decide +kernel, ⟨_, _, mro_reversed⟩, made_reversed, by decide +kernel, by rw [isSubtype_type]; kernel_rfl, slot_rvd_init⟩
end F
end PySem
namespace L2
open PySem PySem.Spec PyProof.Rows PySem.MeetsSeq
theorem rev_made (t : Addr) (items : Array Value) : Meets (Builtin.«reversed.__new__» ⟨[.type "reversed", .ref t], []⟩) (fun _ R s => IsTup s.heap t items ∧ (items.size : Int) < 2 ^ 63 ∧
      R (.ok (.ret (.ref s.heap.objs.size))) { s with heap := s.heap.push { cls := .type "reversed", data := .fields #[.ref t, rawInt ((items.size : Int) - 1)] }, toks := s.toks + 1 + 1 }) :=
  .of_wp fun prog w A R s h => by
    obtain ⟨ht, hz, h⟩ := h
    unfold Builtin.«reversed.__new__»
    refine wpAny_bind (wpAny_of_eq (newClass_reversed _) ?_)
    try dsimp only
    refine wpAny_bind (wpAny_of_eq (a := ()) (by first | rfl | kernel_rfl) ?_)
    refine wpAny_bind (wpAny_of_eq (a := ()) (by first | rfl | kernel_rfl) ?_)
    try dsimp only
    refine wpAny_bind (wpAny_specialOf ht.typeIs F.lookup_tuple_reversed ?_)
    try dsimp only
    refine wpAny_bind ?_
    show wpAny _ _ (isInstance (.ref t) (.type "dict") >>= _) _ _ _
    refine wpAny_bind (wpAny_isInstance ht.typeIs F.sub_tuple_dict ?_)
    rw [if_neg Bool.false_ne_true]
    refine wpAny_bind (wpAny_specialOf ht.typeIs slot_tuple_getitem.lookup ?_)
    dsimp only
    rw [if_pos (by decide)]
    refine wpAny_pure ?_
    simp only [Bool.not_true, Bool.false_eq_true, if_false]
    refine wpAny_bind (len_tuple ht hz ?_)
    refine wpAny_bind (wpAny_of_eq (a := some (items.size : Int)) rfl ?_)
    dsimp only
    refine wpAny_bind ?_
    unfold Builtin.SmallTypes.newRecord
    dsimp only
    refine wpAny_newObj_type ?_
    exact wpAny_pure ⟨_, rfl, h⟩
section
variable {prog : Program} {w : World} {A : Around} {E : Value → Shared → Prop} {s : Shared}
def IsRvd (h : Heap) (a t : Addr) (i : Int) : Prop := ∃ o, h.get? a = some o ∧ o.cls = .type "reversed" ∧ o.data = .fields #[.ref t, rawInt i]
theorem IsRvd.typeIs {a t : Addr} {i : Int} (x : IsRvd s.heap a t i) : s.TypeIs (.ref a) "reversed" := let ⟨o, ho, hc, _⟩ := x; ⟨o, ho, hc⟩
theorem call_reversed_tup {t : Addr} {items : Array Value} {Q : Value → Shared → Prop} (ht : IsTup s.heap t items) (hz : (items.size : Int) < 2 ^ 63)
    (h : Q (.ref s.heap.objs.size) { s with heap := s.heap.push { cls := .type "reversed", data := .fields #[.ref t, rawInt ((items.size : Int) - 1)] }, toks := s.toks + 1 + 1 }) : wpAny (model prog w) A (call (.type "reversed") [.ref t]) Q E s := by
  refine callType_new F.called_reversed (by decide) (F.typeCall_reversed_1 _) (F.newCall_reversed_1 _) (fun obj => F.args_object_init_2 obj _) F.entry_reversed_new (rev_made t items) ⟨ht, hz, ?_⟩
  exact ⟨⟨_, Heap.get?_push_size _ rfl, rfl⟩, h⟩
theorem pyNext_rvd_item {it t : Addr} {i : Nat} {items : Array Value} {x : Value} {Q : Option Value → Shared → Prop} (hit : IsRvd s.heap it t (i : Int)) (ht : IsTup s.heap t items) (hz : (items.size : Int) < 2 ^ 63) (hx : items[i]? = some x)
    (hQ : ∀ h', IsRvd h' it t ((i : Int) - 1) → Heap.SameBut it s.heap h' → Q (some x) { s with heap := h', toks := s.toks + 1 }) : wpAny (model prog w) A (pyNext (.ref it)) Q E s := by
  obtain ⟨o, ho, hc, hd⟩ := id hit
  have hi : i < items.size := by
    rcases Nat.lt_or_ge i items.size with q | q
    · exact q
    · rw [Array.getElem?_eq_none q] at hx; cases hx
  have hs : seqIndex? (i : Int) items.size = some i := by
    unfold seqIndex?
    have n0 : ¬ (i : Int) < 0 := by omega
    simp only [n0, if_false]
    rw [if_pos (by simp; omega)]
    simp
  unfold pyNext
  refine wpAny_bind (wpAny_attempt (wpAny_callSpecial?_slot (name := Str.ofString "__next__") hit.typeIs F.slot_rvd_next
    (wpAny_call_entry F.slot_rvd_next hit.typeIs F.entry_rvd_next ?_ (F.args_rvd_next_1 _))))
  unfold Builtin.«reversed.__next__»
  refine wpAny_bind (wpAny_of_eq (a := (Value.ref it, [])) rfl ?_)
  try dsimp only
  refine wpAny_bind (wpAny_field ho hd (x := .ref t) rfl ?_)
  refine wpAny_bind (wpAny_field ho hd (x := rawInt (i : Int)) rfl ?_)
  show wpAny _ _ (if (i : Int) < 0 then _ else _) _ _ s
  rw [if_neg (by omega)]
  refine wpAny_bind (wpAny_specialOf ht.typeIs slot_tuple_getitem.lookup ?_)
  rw [if_neg (by simp)]
  refine wpAny_bind (wpAny_mkInt ?_)
  refine wpAny_bind (wpAny_attempt (getItem_tuple (j := i) ht (by omega) (by omega) hs (by simpa using hx) ?_))
  dsimp only
  refine wpAny_bind (wpAny_field ho hd (x := rawInt (i : Int)) rfl ?_)
  show wpAny _ _ (setField (.ref it) 1 (rawInt ((i : Int) - 1)) >>= _) _ _ _
  refine wpAny_bind (wpAny_setField ho hd (by simp) ?_)
  refine wpAny_pure ⟨x, rfl, wpAny_pure (hQ _ ?_ (Heap.SameBut.update ..))⟩
  exact ⟨_, Heap.get?_update_self _ ho (Obj.isFreed_of_fields (Obj.data_mapFields hd _)), (Obj.cls_mapFields ..).trans hc, by
    rw [Obj.data_mapFields hd]; simp⟩
theorem pyNext_rvd_end {it t : Addr} {Q : Option Value → Shared → Prop} (hh : A.handled = none) (hit : IsRvd s.heap it t (-1))
    (hQ : ∀ h', Heap.ExtBut it s.heap h' → Q none { s with heap := h' }) : wpAny (model prog w) A (pyNext (.ref it)) Q E s := by
  obtain ⟨o, ho, hc, hd⟩ := id hit
  unfold pyNext
  refine wpAny_bind (wpAny_attempt (wpAny_callSpecial?_slot (name := Str.ofString "__next__") hit.typeIs F.slot_rvd_next
    (wpAny_call_entry F.slot_rvd_next hit.typeIs F.entry_rvd_next ?_ (F.args_rvd_next_1 _))))
  unfold Builtin.«reversed.__next__»
  refine wpAny_bind (wpAny_of_eq (a := (Value.ref it, [])) rfl ?_)
  try dsimp only
  refine wpAny_bind (wpAny_field ho hd (x := .ref t) rfl ?_)
  refine wpAny_bind (wpAny_field ho hd (x := rawInt (-1)) rfl ?_)
  show wpAny _ _ (if (-1 : Int) < 0 then _ else _) _ _ s
  rw [if_pos (by decide)]
  refine wpAny_bind (wpAny_rule ?_)
  refine wpAny_bind ?_
  show wpAny _ _ (setField (.ref it) 1 (rawInt (-1)) >>= _) _ _ _
  refine wpAny_bind (wpAny_setField ho hd (by simp) ?_)
  have ho2 := Heap.get?_update_self (Obj.mapFields fun x => x.setIfInBounds 1 (rawInt (-1))) ho (Obj.isFreed_of_fields (Obj.data_mapFields hd _))
  refine wpAny_setField ho2 (Obj.data_mapFields hd _) (by simp) ?_
  refine wpAny_bind ?_
  show wpAny _ _ (newExc (.type "StopIteration") [] >>= _) _ _ _
  refine wpAny_bind ?_
  simp only [newExc, newTuple]
  refine wpAny_bind (wpAny_newObj_type ?_ (by size_fits))
  refine wpAny_bind (m := firstArgMember _ _) (wpAny_of_eq (a := Value.none) (by first | rfl | (simp only [firstArgMember]; rfl)) ?_)
  refine wpAny_newObj_type ?_ (by size_fits)
  simp only [raiseNew]
  refine wpAny_bind (wpAny_handled ?_)
  first | rw [show A.in1.handled = none from hh] | rw [hh]
  refine wpAny_bind (wpAny_pure (wpAny_throw ?_))
  refine wpAny_bind (wpAny_isInstance (T := "StopIteration") (b := true) ⟨_, Heap.get?_push_size _ rfl, rfl⟩ isSubtype_stop ?_)
  exact wpAny_pure (hQ _ fun b o hb e => Heap.get?_push_of_some _ (Heap.get?_push_of_some _ ((Heap.SameBut.update ..).extBut b o hb ((Heap.SameBut.update ..).extBut b o hb e))))
theorem pyIter_rvd {it t : Addr} {i : Int} {Q : Value → Shared → Prop} (hit : IsRvd s.heap it t i) (h : Q (.ref it) s) : wpAny (model prog w) A (pyIter (.ref it)) Q E s := by
  refine wpAny_pyIter_slot hit.typeIs F.slot_rvd_iter (wpAny_call_entry F.slot_rvd_iter hit.typeIs F.entry_rvd_iter ?_ (F.args_rvd_iter_1 _))
  show wpAny _ _ (ret (.ref it)) _ _ s
  exact wpAny_pure ⟨_, rfl, "reversed", _, hit.typeIs, F.slot_rvd_next.lookup, h⟩
end
def Itv (K : PySem.W.Frag) (a : Addr) (n : Nat) : It :=
  ⟨fun i H => i < n ∧ ∃ xs, SqT K H a xs ∧ xs.length = n, fun i H x H' => H' = H ∧ ∀ xs, SqT K H a xs → xs[n - 1 - i]? = some x, fun i H => i = n⟩
theorem turn_rvd {P : Program} {w : World} {K : PySem.W.Frag} {tg : Expr} (a it : Addr) (n : Nat) : Turn P w K tg (Itv K a n) [it] it (fun i h => IsRvd h it a ((n : Int) - 1 - (i : Int))) where
  mem := by simp
  obj := fun i h st b hb => by
    simp only [List.mem_cons, List.not_mem_nil, or_false] at hb
    subst hb
    obtain ⟨o, ho, hc, hd⟩ := st
    exact ⟨o, ho, fun v q => by rw [hd] at q; cases q⟩
  keep := fun i h h' st k => by obtain ⟨o, ho, r⟩ := st; exact ⟨o, k it (by simp) o ho, r⟩
  item := by
    intro X hP hw hK hc i pins s σ H E I hf st hg
    subst hP hw hK
    obtain ⟨hi, xs, hx, hn⟩ := hg
    obtain ⟨its, rv, p, hz⟩ := I.tuple hx
    have hl := rv.length
    have hlt := line63
    have e1 : (n : Int) - 1 - (i : Int) = ((n - 1 - i : Nat) : Int) := by omega
    rw [e1] at st
    obtain ⟨x, ex⟩ : ∃ x, xs[n - 1 - i]? = some x := ⟨xs[n - 1 - i], by simp⟩
    obtain ⟨u, eu, ru⟩ := rv.get ex
    refine pyNext_rvd_item st p (by rw [List.size_toArray]; omega) (x := u) (by simpa using eu) fun h' st' sb => ⟨u, rfl, ?_⟩
    obtain ⟨o, ho, hcl, hd⟩ := id st'
    refine go_of (s := { s with heap := h', toks := s.toks + 1 }) ho hcl hd (by decide) ?_
    obtain ⟨f0, f1, f2, f3, f4, f5⟩ := hf it (by simp)
    have e2 : ((n - 1 - i : Nat) : Int) - 1 = (n : Int) - 1 - ((i + 1 : Nat) : Int) := by omega
    rw [e2] at st'
    exact ⟨x, H, I.turned (t' := s.toks + 1) (fun b o hb e => sb.extBut b o hb e) f0 f1 f3 f4 f5, ru, ⟨rfl, fun ys hy => by rw [I.tuple_inj hy hx]; exact ex⟩, st', fun b hb => (hf b hb).1⟩
  done := by
    intro X hP hw hK hc i pins s σ H E I hf st hg
    subst hP hw hK
    obtain rfl : i = n := hg
    have e1 : (i : Int) - 1 - (i : Int) = -1 := by omega
    rw [e1] at st
    obtain ⟨f0, f1, f2, f3, f4, f5⟩ := hf it (by simp)
    exact pyNext_rvd_end (I.ok.hd hc) st fun h' eb => ⟨rfl, I.turned (t' := s.toks) (fun b o hb e => eb b o hb e) f0 f1 f3 f4 f5⟩
  self := fun _ _ _ _ _ st h => pyIter_rvd st h
def iRvd (K : PySem.W.Frag) (ta : TA) : TI := fun σ H R => ta σ H fun vs H1 => ∃ a xs, vs = [.ref a] ∧ SqT K H1 a xs ∧ R (Itv K a xs.length) H1
theorem boot_reversed : bootBuiltins "reversed" = some (.type "reversed") := by kernel_rfl
theorem pi_rev {X : Cx} {tg : Expr} {p pos : Pos} {e1 : Expr} {ta : TA} (hg : Gl X "reversed") (hm : X.mg "reversed" = none) (ha : PA X [e1] ta)
    (he : starEach [e1] X.env = (false, eval e1 X.env) :: starEach [] X.env := by rfl) (hpl : (backTo pos (starEach [] X.env)).any (·.1) = false := by rfl) :
    PI X tg (.Call (.Name "reversed" p) [e1] [] pos) (iRvd X.K ta) := by
  intro pins s σ H R I h
  refine wpAny_Call_Name_kw (ld_blt I hg hm boot_reversed ?_ (by decide) (by decide))
  refine PyProof.Rows.callWith_type1 (thn (ha pos pins s σ H _ I h) fun us s1 ⟨vs, H1, I1, r1, a, xs, ev, hx, q⟩ => ?_) he hpl
  subst ev
  obtain ⟨u, rfl, ru⟩ := r1.one
  cases ru
  obtain ⟨its, rv, pt, hz⟩ := I1.tuple hx
  have hl := rv.length
  have hlt := line63
  refine call_reversed_tup pt (by rw [List.size_toArray]; omega) ?_
  have hit : IsRvd (s1.heap.push { cls := .type "reversed", data := .fields #[.ref a, rawInt ((its.toArray.size : Int) - 1)] }) s1.heap.objs.size a ((xs.length : Int) - 1 - ((0 : Nat) : Int)) := by
    refine ⟨_, Heap.get?_push_size _ rfl, rfl, ?_⟩
    have e : ((its.toArray.size : Nat) : Int) - 1 = (xs.length : Int) - 1 - ((0 : Nat) : Int) := by rw [List.size_toArray, hl]; omega
    rw [e]
  refine pyIter_rvd hit ?_
  have I2 : Inv X pins σ H1 { s1 with heap := s1.heap.push { cls := .type "reversed", data := .fields #[.ref a, rawInt ((its.toArray.size : Int) - 1)] }, toks := s1.toks + 1 + 1 } := I1.kept (t' := s1.toks + 1 + 1) fun b o e => Heap.get?_push_of_some _ e
  refine ⟨s1.heap.objs.size, [s1.heap.objs.size], _, _, H1, rfl, I2, turn_rvd a s1.heap.objs.size xs.length, hit, fun b hb => ?_, q⟩
  obtain rfl : b = s1.heap.objs.size := by simpa using hb
  exact I1.fpOk (Nat.le_refl _) (I1.hok.fresh (Nat.le_refl _))
theorem walk_rvd {K : PySem.W.Frag} {H1 : Hp} {a : Addr} {xs : List V} (h : SqT K H1 a xs) : Walk (Itv K a xs.length) H1 xs.length (fun i x _ => xs[xs.length - 1 - i]? = some x) :=
  ⟨fun i H' e hi => ⟨hi, xs, e.seqT h, rfl⟩, fun H' e => rfl, fun i H' x H2 e hi y => by
    obtain ⟨rfl, q⟩ := y
    exact ⟨Same.refl _, q xs (e.seqT h)⟩⟩
theorem walk_comp {J : It} {n : Nat} {P : Nat → V → Hp → Prop} {mp : List (Option Nat)} {wi : TI} {g : TG} {tc : TT} {te : TE} {σ : St} {H H1 : Hp} {Q : VK} (S : Walk J H1 n P) (hn : n ≤ 1000) (hwi : ∀ R, R J H1 → wi σ H R) (Sv : St → Prop) (p : Nat → Bool) (f : Nat → V) (h0 : Sv (st0 mp σ))
    (step : ∀ i x σ' H2, i < n → Sv σ' → Same H1 H2 → P i x H2 → ∀ (Ny : V → St → Hp → Prop) (Nn : St → Hp → Prop), (∀ σ2 H5, Sv σ2 → Same H2 H5 → p i = true → Ny (f i) σ2 H5) → (∀ σ2 H4, Sv σ2 → Same H2 H4 → p i = false → Nn σ2 H4) →
      g x σ' H2 fun σ2 H3 => tc σ2 H3 fun b H4 => if b = true then te σ2 H4 fun v H5 => Ny v σ2 H5 else Nn σ2 H4)
    (hQ : ∀ D H', Same H1 H' → H' D = some (.lst (((List.range n).filter p).map f)) → Q (.ref D) H') : tComp mp wi g tc te σ H Q := by
  unfold tComp
  refine hwi _ fun D hD => ?_
  exact comp_vals S hD (Nat.le_trans hn (by rw [sizeLine_eq]; decide)) Sv p f h0 step fun H' e hL => hQ D H' e hL
end L2
namespace L2
open PySem PySem.Spec PyProof.Rows
def blk1 (X : Cx) (N : List Str) (scope : Scope) (cl : List (Str × Addr)) (own : Str) (C : Addr) (s : Shared) (H : Hp) (fp : List Addr) : Cx :=
  { X with N := N, s₀ := s, H₀ := H, env := compEnvC scope ((own, C + 1) :: cl) C X.env, outer := X.stack, ex := fp, fn := fun x => decide (x = own), pn := [], xe := fun _ _ => False }
structure Blk1 (X : Cx) (N : List Str) (scope : Scope) (cl : List (Str × Addr)) (own : Str) (mp : List (Option Nat)) : Prop where
  clos : closureFor scope X.env = pure cl
  cf : ∀ n, cellsFrom n scope.names cl = (own, n) :: cl
  pc : ∀ h : Heap, pushCells h scope.names = h.push { cls := .type "cell", data := .cell none }
  kind : scope.kind = .function
  nms : ∀ y ∈ scope.names, y.2 = .local → scope.names.lookup y.1 = some .local
  nd : N.Nodup
  sub : ∀ x c, cl.lookup x = some c → X.env.cells.lookup x = some c
  has : ∀ x, ((relabel scope X.env).names.lookup x = some .cell ∨ (relabel scope X.env).names.lookup x = some .free) → x = own ∨ ∃ c, cl.lookup x = some c
  len : mp.length = N.length
  map : ∀ (i j : Nat) (x : Str), mp[i]? = some (some j) → N[i]? = some x → x ≠ own ∧ X.N[j]? = some x ∧ (X.env.scope.names.lookup x = some .cell ∨ X.env.scope.names.lookup x = some .free) ∧
    ((relabel scope X.env).names.lookup x = some .cell ∨ (relabel scope X.env).names.lookup x = some .free)
theorem look_own {own x : Str} {n c : Addr} {cl : List (Str × Addr)} (h : ((own, n) :: cl).lookup x = some c) : (x = own ∧ c = n) ∨ (x ≠ own ∧ cl.lookup x = some c) := by
  rw [List.lookup_cons] at h
  cases q : (x == own) with
  | true => rw [q] at h; exact .inl ⟨eq_of_beq q, (Option.some.inj h).symm⟩
  | false =>
    rw [q] at h
    have nz : x ≠ own := fun z => by
      rw [z, beq_self_eq_true] at q
      cases q
    exact .inr ⟨nz, h⟩
theorem look_at {own : Str} {n : Addr} {cl : List (Str × Addr)} : ((own, n) :: cl).lookup own = some n := by
  rw [List.lookup_cons, beq_self_eq_true]
theorem look_ne {own x : Str} {n : Addr} {cl : List (Str × Addr)} (h : x ≠ own) : ((own, n) :: cl).lookup x = cl.lookup x := by
  rw [List.lookup_cons]
  cases q : (x == own) with
  | true => exact absurd (eq_of_beq q) h
  | false => rfl
theorem newEnv1 {M : Model} {A : Around} {E : Value → Shared → Prop} {s : Shared} {scope : Scope} {globals : Addr} {cl : List (Str × Addr)} {own qual : Str} {outer : Env} {Q : Env → Shared → Prop} (cf : ∀ n, cellsFrom n scope.names cl = (own, n) :: cl)
    (pc : ∀ h : Heap, pushCells h scope.names = h.push { cls := .type "cell", data := .cell none })
    (hQ : ∀ h', h'.Ns s.heap.objs.size (fun _ => none) → h'.IsCell (s.heap.objs.size + 1) none → (∀ b o, s.heap.get? b = some o → h'.get? b = some o) →
      Q (newEnv scope s.heap.objs.size globals ((own, s.heap.objs.size + 1) :: cl) qual none .none (some outer) builtinsNs) { s with heap := h' }) :
    wpAny M A (newFunctionEnv scope globals cl [] qual none .none (some outer)) Q E s := by
  simp only [newFunctionEnv, Option.isSome_some, if_true]
  refine wpAny_bind (wpAny_alloc ?_)
  refine wpAny_bind (wpAny_layCells _ (fun name kind cells => by cases hkc : kind == NameKind.cell <;> simp [hkc]) _ _ _ _ ?_)
  have hz : (s.heap.push { cls := .type "dict", data := .dict #[] }).objs.size = s.heap.objs.size + 1 := Heap.size_push ..
  rw [show ({ s with heap := s.heap.push { cls := .type "dict", data := .dict #[] } } : Shared).heap.objs.size = s.heap.objs.size + 1 from hz, cf]
  dsimp only
  rw [pc]
  have q := hQ ((s.heap.push { cls := .type "dict", data := .dict #[] }).push { cls := .type "cell", data := .cell none }) ((Heap.Ns.new s.heap (.type "dict")).keeps fun b o e => Heap.get?_push_of_some _ e)
    ⟨_, by rw [← hz]; exact Heap.get?_push_size _ rfl, rfl⟩ fun b o e => Heap.get?_push_of_some _ (Heap.get?_push_of_some _ e)
  simp only [List.forIn_nil]
  exact wpAny_bind (wpAny_pure (wpAny_pure q))
section
variable {X : Cx} {pins : List (Addr × Obj)} {σ : St} {H : Hp} {s : Shared} {N : List Str} {scope : Scope} {cl : List (Str × Addr)} {own : Str} {mp : List (Option Nat)} {fp : List Addr}
theorem blk1_inv (B : Blk1 X N scope cl own mp) (I : Inv X pins σ H s) (f : ∀ b ∈ fp, FpOk X pins H b) (lt : ∀ b ∈ fp, b < s.heap.objs.size) {h1 : Heap} {t' : Nat} (hns : h1.Ns s.heap.objs.size (fun _ => none)) (hcell : h1.IsCell (s.heap.objs.size + 1) none)
    (k : ∀ b o, s.heap.get? b = some o → h1.get? b = some o) : Inv (blk1 X N scope cl own s.heap.objs.size s H fp) [] (st0 mp σ) H { s with heap := h1, toks := t' } := by
  have fin : ∀ b ∈ fp, b ∉ frs X.stack := fun b hb z => by
    obtain ⟨_, f1, f2, _⟩ := f b hb
    rcases List.mem_cons.mp (I.stkSub b z) with e | e
    · exact f1 e
    · exact f2 e
  have old : ∀ x c, cl.lookup x = some c → c ≠ s.heap.objs.size + 1 := fun x c e z => by
    obtain ⟨v, q⟩ := I.cell x c (B.sub x c e)
    have q := q.lt
    rw [z] at q
    exact absurd q (Nat.not_lt.mpr (Nat.le_succ _))
  have ok : (blk1 X N scope cl own s.heap.objs.size s H fp).Ok := by
    refine ⟨I.ok.mod, B.kind, I.ok.glob, I.ok.blt, Nat.le_refl _, fun x y c h1 h2 => ?inj, fun x hx => ?has, fun x c hf hc => ?cab, I.ok.hd, I.ok.frames, .inl rfl, fun b hb => ?_, I.bs, Nat.le_trans I.ok.bsz I.sz, fun b o e hb => ?_, fin, I.stack, I.stkFree⟩
    case inj =>
      rcases look_own h1 with ⟨rfl, e1⟩ | ⟨n1, e1⟩ <;> rcases look_own h2 with ⟨rfl, e2⟩ | ⟨n2, e2⟩
      · rfl
      · exact absurd e1 (old y c e2)
      · exact absurd e2 (old x c e1)
      · exact I.ok.inj x y c (B.sub x c e1) (B.sub y c e2)
    case has =>
      by_cases q : x = own
      · exact ⟨_, by rw [q]; exact look_at⟩
      · rcases B.has x hx with z | ⟨c, z⟩
        · exact absurd z q
        · exact ⟨c, (look_ne q).trans z⟩
    case cab =>
      obtain rfl : x = own := of_decide_eq_true hf
      rcases look_own hc with ⟨_, rfl⟩ | ⟨z, _⟩
      · exact Nat.le_succ _
      · exact absurd rfl z
    · obtain ⟨f0, f1, f2, f3, f4, f5⟩ := f b hb
      refine ⟨Nat.ne_of_lt (lt b hb), fun x c e => ?_⟩
      rcases look_own e with ⟨_, rfl⟩ | ⟨_, e⟩
      · exact Nat.ne_of_gt (Nat.lt_succ_of_lt (lt b hb))
      · exact f4 x c (B.sub x c e)
    · obtain ⟨f0, f1, f2, f3, f4, f5⟩ := f b hb
      rcases f3 with z | z
      · exact I.ok.noex b o e z
      · exact absurd (Nat.lt_of_lt_of_le (Heap.lt_size e) (Nat.le_trans I.ok.bsz z)) (Nat.lt_irrefl _)
  refine ⟨ok, rfl, I.bare, Un.kept k, ⟨_, hns, fun i x v e1 e2 e3 => ?_⟩, fun x c e => ?_, I.hok.fresh (Nat.le_refl _), fun x c e => ?fc, fun p hp => absurd (show p ∈ ([] : List (Addr × Obj)) from hp) (by simp), I.hok.kept k, ?_⟩
  · have e2' : ∃ j, mp[i]? = some (some j) ∧ σ[j]? = some (some v) := by
      unfold st0 at e2
      rw [List.getElem?_map] at e2
      cases q : mp[i]? with
      | none => rw [q] at e2; cases e2
      | some o =>
        rw [q] at e2
        cases o with
        | none => cases e2
        | some j =>
          refine ⟨j, rfl, ?_⟩
          have e2'' : (σ[j]?).getD none = some v := Option.some.inj e2
          cases r : σ[j]? with
          | none => rw [r] at e2''; cases e2''
          | some z => rw [r] at e2''; exact congrArg some e2''
    obtain ⟨j, hj, hv⟩ := e2'
    obtain ⟨no, hN, ho, hi⟩ := B.map i j x hj e1
    obtain ⟨m, hm, hl⟩ := I.loc
    obtain ⟨u, r, l⟩ := hl j x v hN hv (ho.elim (fun z => .inr (.inl z)) fun z => .inr (.inr z))
    refine ⟨u, r, .inr ⟨hi, ?_⟩⟩
    rcases l with ⟨z, _⟩ | ⟨_, c, ec, z⟩
    · have z' : X.env.scope.names.lookup x = some .local := z
      rcases ho with ho | ho
      · rw [z'] at ho; cases ho
      · rw [z'] at ho; cases ho
    · obtain ⟨c', ec'⟩ := (B.has x hi).resolve_left no
      have q := B.sub x c' ec'
      rw [ec] at q; cases q
      obtain ⟨o, eo, d⟩ := z
      exact ⟨c, (look_ne no).trans ec', o, k c o eo, d⟩
  · rcases look_own e with ⟨_, rfl⟩ | ⟨_, e⟩
    · exact ⟨_, hcell⟩
    · obtain ⟨v, o, eo, d⟩ := I.cell x c (B.sub x c e)
      exact ⟨v, o, k c o eo, d⟩
  case fc =>
    rcases look_own e with ⟨_, rfl⟩ | ⟨_, e⟩
    · exact I.hok.fresh (Nat.le_succ _)
    · exact I.freeC x c (B.sub x c e)
  · show (st0 mp σ).length = N.length
    unfold st0
    rw [List.length_map]; exact B.len
theorem blk1_out {N' : List Str} {C : Addr} {H' : Hp} {σ' : St} {s' : Shared} {h' : Heap} (I : Inv X pins σ H s) (f : ∀ b ∈ fp, FpOk X pins H b) (hC : s.heap.objs.size ≤ C)
    (J : Inv (blk1 X N' scope cl own C s H fp) [] σ' H' s') (sb : Heap.SameBut C s'.heap h') : Inv X pins σ H' { s' with heap := h' } := by
  have ub : Un (frs X.stack) fp H H' s.heap s'.heap := J.base
  have ne : ∀ b o, s.heap.get? b = some o → b ≠ C := fun b o e => Nat.ne_of_lt (Nat.lt_of_lt_of_le (Heap.lt_size e) hC)
  have u : Un (frs X.stack) fp H H' s.heap h' := by
    refine ⟨fun b o e n hb hx => (sb.2 b (ne b o e)).trans (ub.keep b o e n hb hx), fun b o e n hb hx => ?_, ub.free, fun b o e hx => ?_, ub.tups, ub.frzs, ub.tbls⟩
    · obtain ⟨sl, q⟩ := ub.slot b o e n hb hx
      exact ⟨sl, (sb.2 b (ne b o e)).trans q⟩
    · obtain ⟨o', q⟩ := ub.there b o e hx
      exact ⟨o', (sb.2 b (ne b o e)).trans q⟩
  have fC : H' C = none := J.free
  have ok' : HOk X.prog X.w H' h' := fun b ob e => by
    have jok : HOk X.prog X.w H' s'.heap := J.hok
    refine (jok b ob e).stay (fun c v hc q => (sb.2 c ?_).trans q) (fun _ q => q) fun _ _ q => q
    rintro rfl
    rcases hc with rfl | hc
    · rw [fC] at e; cases e
    · rw [fC] at hc; cases hc
  refine I.call' (s' := { s' with heap := h' }) (ch := fp) ?_ u ok' J.bare fun b hb => ?_
  · exact J.os
  · obtain ⟨f0, f1, f2, f3, f4, f5⟩ := f b hb
    exact ⟨f3, f1, f4, f5⟩
end
theorem comp_block1 {X : Cx} {N : List Str} {scope : Scope} {cl : List (Str × Addr)} {own : Str} {mp : List (Option Nat)} {elt tg iter : Expr} {ifs : List Expr} {g : TG} {tc : TT} {te : TE} {pos : Pos} (B : Blk1 X N scope cl own mp) (hc : X.calm = true)
    (hg : ∀ C s H fp, PG (blk1 X N scope cl own C s H fp) tg g) (ht : ∀ C s H fp, PTs (blk1 X N scope cl own C s H fp) ifs tc) (he : ∀ C s H fp, PE (blk1 X N scope cl own C s H fp) elt te)
    {pins : List (Addr × Obj)} {σ : St} {HD : Hp} {s : Shared} {fp : List Addr} {it D : Addr} {tn : Nat → Heap → Prop} {J : It} {Qf : Hp → Prop} {W : Nat → Nat → List V → St → Hp → Prop} {m0 : Nat} {E : Value → Shared → Prop} {RR : Addr → Result → Shared → Prop}
    (I : Inv X pins σ HD s) (f : ∀ b ∈ fp, FpOk X pins HD b) (T : Turn X.prog X.w X.K tg J fp it tn) (st : tn 0 s.heap) (w0 : W 0 m0 [] (st0 mp σ) HD) (turn : CompW J D g tc te Qf W)
    (hRR : ∀ C H' σ' s', s.heap.objs.size ≤ C → Inv (blk1 X N scope cl own C s HD fp) [] σ' H' s' → Qf H' → RR C (.ok .next) s') :
    wpAny (model X.prog X.w) X.A (newFunctionEnv scope X.env.globals cl [] X.env.qual none .none (some X.env)) (fun cenv s4 =>
      codeAny (model X.prog X.w) X.A (.compStart (.ListComp elt [⟨tg, iter, ifs, 0⟩] scope pos) 0 (.ref it) (.ref D) { cenv with scope := relabel scope X.env }) (RR cenv.locals) s4) E s := by
  have lt : ∀ b ∈ fp, b < s.heap.objs.size := fun b hb => let ⟨o, e, _⟩ := T.obj _ _ st b hb; Heap.lt_size e
  refine newEnv1 B.cf B.pc fun h3 hns hcell k3 => ?_
  have JB := blk1_inv (t' := s.toks) B I f lt hns hcell k3
  have st3 : tn 0 h3 := T.keep _ _ _ st fun b _ o e => k3 b o e
  have fin : ∀ b ∈ fp, b ∉ frs X.stack := fun b hb z => by
    obtain ⟨_, f1, f2, _⟩ := f b hb
    rcases List.mem_cons.mp (I.stkSub b z) with e | e
    · exact f1 e
    · exact f2 e
  have stat : ∀ {H' : Hp}, (∀ b ∈ fp, H' b = none) → ∀ b ∈ fp, FpOk (blk1 X N scope cl own s.heap.objs.size s HD fp) [] H' b := fun {H'} hn b hb => by
    obtain ⟨f0, f1, f2, f3, f4, f5⟩ := f b hb
    exact ⟨hn b hb, Nat.ne_of_lt (lt b hb), fin b hb, .inl hb, fun x c e => (look_own e).elim (fun z => by rw [z.2]; exact Nat.ne_of_gt (Nat.lt_succ_of_lt (lt b hb))) fun z => f4 x c (B.sub x c z.2), fun p hp => absurd (show p ∈ ([] : List (Addr × Obj)) from hp) (by simp)⟩
  have loop : codeAny (model X.prog X.w) X.A (.compLoop (.ListComp elt [⟨tg, iter, ifs, 0⟩] scope pos) 0 (.ref it) (.ref D) (compEnvC scope ((own, s.heap.objs.size + 1) :: cl) s.heap.objs.size X.env)) (RR s.heap.objs.size) { s with heap := h3, toks := s.toks } := by
    refine comp_turns (fun n s' => ∃ i ys σ' H', Inv (blk1 X N scope cl own s.heap.objs.size s HD fp) [] σ' H' s' ∧ tn i s'.heap ∧ (∀ b ∈ fp, H' b = none) ∧ W i n ys σ' H') ?_ m0 ⟨0, [], _, HD, JB, st3, fun b hb => (f b hb).1, w0⟩
    rintro n s5 ⟨i, ys, σ5, H5, I5, st5, fr5, w5⟩
    obtain ⟨hD, tr⟩ := turn i n ys σ5 H5 w5
    rcases tr with ⟨stop, qn⟩ | ⟨go, hz, step⟩
    · refine thn (T.done (blk1 X N scope cl own s.heap.objs.size s HD fp) rfl rfl rfl hc i [] s5 σ5 H5 E00 I5 (stat fr5) st5 stop) fun r s6 ⟨hr, I6⟩ => ?_
      subst hr
      exact hRR _ H5 σ5 s6 (Nat.le_refl _) I6 qn
    · refine thn (T.item (blk1 X N scope cl own s.heap.objs.size s HD fp) rfl rfl rfl hc i [] s5 σ5 H5 E00 I5 (stat fr5) st5 go) fun r s6 ⟨u, hr, h6⟩ => ?_
      subst hr
      refine thn h6 fun _ s7 ⟨x, H7, I7, r7, y7, st7, fr7⟩ => ?_
      have I7' := I7.pinned (stat fr7) (T.obj _ _ st7)
      have again : ∀ {ys' : List V} {σ8 : St} {H8 : Hp} {s8 : Shared} {m' : Nat}, Inv (blk1 X N scope cl own s.heap.objs.size s HD fp) ([] ++ pinsAt fp s7.heap) σ8 H8 s8 → m' < n → W (i + 1) m' ys' σ8 H8 →
          ∃ m, m < n ∧ ∃ i ys σ' H', Inv (blk1 X N scope cl own s.heap.objs.size s HD fp) [] σ' H' s8 ∧ tn i s8.heap ∧ (∀ b ∈ fp, H' b = none) ∧ W i m ys σ' H' := fun {ys' σ8 H8 s8 m'} I8 hm w8 => by
        refine ⟨m', hm, i + 1, ys', σ8, H8, I8.unpinned, T.keep _ _ _ st7 fun b hb o e => (I8.pin (b, o) (List.mem_append_right _ (List.mem_append_right _ (mem_pinsAt hb e)))).1, fun b hb => ?_, w8⟩
        obtain ⟨o, e, d⟩ := T.obj _ _ st7 b hb
        exact (I8.pin (b, o) (List.mem_append_right _ (List.mem_append_right _ (mem_pinsAt hb e)))).2.1
      refine thn (hg _ _ _ _ _ s7 σ5 H7 x u _ I7' r7 (step x H7 y7)) fun _ s8 ⟨σ8, H8, I8, q8⟩ => ?_
      refine thn (ht _ _ _ _ _ s8 σ8 H8 _ I8 q8) fun ok s9 ⟨H9, I9, q9⟩ => ?_
      cases ok with
      | false =>
        rw [if_neg (by decide)] at q9
        obtain ⟨m', hm, w9⟩ := q9
        rw [if_neg (by decide)]
        exact again I9 hm w9
      | true =>
        rw [if_pos rfl] at q9
        rw [if_pos rfl]
        refine thn (he _ _ _ _ _ s9 σ8 H9 _ I9 q9) fun xv s10 ⟨v, H10, I10, r10, hD10, m', hm, w'⟩ => ?_
        refine thn (mt_append _ s10 σ8 H10 (.ref D) [v] (.ref D) [xv] (fun _ H' => H' = upd H10 D (.lst (ys ++ [v]))) I10 rfl (.cons r10 .nil) ⟨D, ys, v, rfl, rfl, hD10, hz, rfl⟩) fun _ s11 ⟨_, H11, I11, _, e11⟩ => ?_
        subst e11
        exact again I11 hm w'
  exact codeAny_compStart_list loop (T.self _ 0 _ _ _ st3 loop)
end L2
namespace L2
open PySem PySem.Spec PyProof.Rows
def SubC (cl cells : List (Str × Addr)) : Prop := ∀ x c, cl.lookup x = some c → cells.lookup x = some c
theorem subc_nil {cells : List (Str × Addr)} : SubC [] cells := fun _ _ h => nomatch h
theorem subc_cons {cl cells : List (Str × Addr)} {a : Str} {n : Addr} (h : cells.lookup a = some n) (t : SubC cl cells) : SubC ((a, n) :: cl) cells := fun x c e => by
  rcases look_own e with ⟨rfl, rfl⟩ | ⟨_, e⟩
  · exact h
  · exact t x c e
theorem look_in : ∀ {cl : List (Str × Addr)} {x : Str}, x ∈ cl.map (·.1) → ∃ c, cl.lookup x = some c
  | (a, n) :: cl, x, h => by
    by_cases q : x = a
    · exact ⟨n, by rw [q]; exact look_at⟩
    · rcases List.mem_cons.mp h with z | z
      · exact absurd z q
      · obtain ⟨c, e⟩ := look_in z
        exact ⟨c, (look_ne q).trans e⟩
theorem fr_of {names : List (Str × NameKind)} {cl : List (Str × Addr)} {fs : List Str} (e : cl.map (·.1) = fs) (h : ∀ y ∈ names, y.2 = .free → y.1 ∈ fs) : ∀ y ∈ names, y.2 = .free → ∃ c, cl.lookup y.1 = some c :=
  fun y hy hf => look_in (by rw [e]; exact h y hy hf)
def MapC (X : Cx) (scope : Scope) (mp : List (Option Nat)) (N : List Str) : Prop := ∀ (i j : Nat) (x : Str), mp[i]? = some (some j) → N[i]? = some x → X.N[j]? = some x ∧ (X.env.scope.names.lookup x = some .cell ∨ X.env.scope.names.lookup x = some .free) ∧ scope.names.lookup x = some .free
theorem mapc_nil {X : Cx} {scope : Scope} {N : List Str} : MapC X scope [] N := fun i j x h => by simp at h
theorem mapc_none {X : Cx} {scope : Scope} {mp : List (Option Nat)} {N : List Str} {y : Str} (t : MapC X scope mp N) : MapC X scope (none :: mp) (y :: N) := fun i j x h1 h2 => by
  cases i with
  | zero => cases h1
  | succ i => exact t i j x (by simpa using h1) (by simpa using h2)
theorem mapc_some {X : Cx} {scope : Scope} {mp : List (Option Nat)} {N : List Str} {y : Str} {k : Nat} (h : X.N[k]? = some y) (hc : X.env.scope.names.lookup y = some .cell ∨ X.env.scope.names.lookup y = some .free) (hf : scope.names.lookup y = some .free)
    (t : MapC X scope mp N) : MapC X scope (some k :: mp) (y :: N) := fun i j x h1 h2 => by
  cases i with
  | zero =>
    simp only [List.getElem?_cons_zero, Option.some.injEq] at h1 h2
    subst h1 h2
    exact ⟨h, hc, hf⟩
  | succ i => exact t i j x (by simpa using h1) (by simpa using h2)
theorem relabel_any {env : Env} {names : List (Str × NameKind)} {x : Str} {k : NameKind} (hk : k = .cell ∨ k = .free)
    (h : (names.map fun (n, k) => if (k == NameKind.free && env.scope.kind == .function && env.kindOf n == some .cell) then (n, NameKind.cell) else (n, k)).lookup x = some k) : ∃ y ∈ names, y.1 = x ∧ (y.2 = .free ∨ y.2 = .cell) := by
  have m := PySem.mem_of_lookup h
  obtain ⟨⟨n, k0⟩, hm, e⟩ := List.mem_map.mp m
  dsimp only at e
  by_cases hc : (k0 == NameKind.free && env.scope.kind == .function && env.kindOf n == some .cell) = true
  · rw [if_pos hc] at e
    simp only [Bool.and_eq_true, beq_iff_eq] at hc
    cases e
    exact ⟨_, hm, rfl, .inl hc.1.1⟩
  · rw [if_neg hc] at e
    cases e
    refine ⟨_, hm, rfl, ?_⟩
    rcases hk with z | z
    · exact .inr z
    · exact .inl z
theorem Blk1.of {X : Cx} {N : List Str} {scope : Scope} {cl : List (Str × Addr)} {own : Str} {mp : List (Option Nat)} (clos : closureFor scope X.env = pure cl) (cf : ∀ n, cellsFrom n scope.names cl = (own, n) :: cl)
    (pc : ∀ h : Heap, pushCells h scope.names = h.push { cls := .type "cell", data := .cell none }) (kind : scope.kind = .function) (nms : ∀ y ∈ scope.names, y.2 = .local → scope.names.lookup y.1 = some .local) (nd : N.Nodup)
    (sub : SubC cl X.env.cells) (fr : ∀ y ∈ scope.names, y.2 = .free → ∃ c, cl.lookup y.1 = some c) (ck : ∀ y ∈ scope.names, y.2 = .cell → y.1 = own) (len : mp.length = N.length) (map : MapC X scope mp N) (no : ∀ y ∈ scope.names, y.2 = .free → y.1 ≠ own) : Blk1 X N scope cl own mp := by
  refine ⟨clos, cf, pc, kind, nms, nd, sub, fun x hx => ?_, len, fun i j x h1 h2 => ?_⟩
  · obtain ⟨y, hy, rfl, hk⟩ := hx.elim (fun z => relabel_any (.inl rfl) z) fun z => relabel_any (.inr rfl) z
    rcases hk with hk | hk
    · exact .inr (fr y hy hk)
    · exact .inl (ck y hy hk)
  · obtain ⟨q1, q2, q3⟩ := map i j x h1 h2
    exact ⟨no (x, .free) (PySem.mem_of_lookup q3) rfl, q1, q2, relabel_free q3⟩
theorem walk_compF {J : It} {n : Nat} {P : Nat → V → Hp → Prop} {mp : List (Option Nat)} {wi : TI} {g : TG} {tc : TT} {te : TE} {σ : St} {H H1 : Hp} {Q : VK} (S : Walk J H1 n P) (hn : n ≤ 1000) (hwi : ∀ R, R J H1 → wi σ H R) (Sv : St → Prop) (p : Nat → Bool) (F : Nat → V → Hp → Prop)
    (monoS : ∀ i v H H', Same H H' → F i v H → F i v H') (monoU : ∀ i v H a ys ys', H a = some (.lst ys) → F i v H → F i v (upd H a (.lst ys'))) (h0 : Sv (st0 mp σ))
    (step : ∀ i x σ' H2, i < n → Sv σ' → Same H1 H2 → P i x H2 → ∀ (Ny : V → St → Hp → Prop) (Nn : St → Hp → Prop), (∀ v σ2 H5, Sv σ2 → Same H2 H5 → F i v H5 → p i = true → Ny v σ2 H5) → (∀ σ2 H4, Sv σ2 → Same H2 H4 → p i = false → Nn σ2 H4) →
      g x σ' H2 fun σ2 H3 => tc σ2 H3 fun b H4 => if b = true then te σ2 H4 fun v H5 => Ny v σ2 H5 else Nn σ2 H4)
    (hQ : ∀ D H' ys, Same H1 H' → H' D = some (.lst ys) → Paired (fun i v => F i v H') ((List.range n).filter p) ys → Q (.ref D) H') : tComp mp wi g tc te σ H Q := by
  unfold tComp
  refine hwi _ fun D hD => ?_
  exact comp_of S hD (Nat.le_trans hn (by rw [sizeLine_eq]; decide)) Sv p F monoS monoU h0 step fun H' ys e hL hF => hQ D H' ys e hL hF
end L2
namespace L2
open PySem PySem.Spec PyProof.Rows
structure Mk0 (K : PySem.W.Frag) (C : Addr) : Prop where
  makes : PySem.W.makesIn K C = true
  init : PySem.W.findIn K (.ref C) "__init__" = some (some (.builtin "object.__init__"))
  kp : PySem.W.keepIn K (.ref C) = true
def tMk0 (C : Addr) : TE := fun _ H Q => ∀ x dx, H x = none → H dx = none → dx ≠ x → Q (.ref x) (upd (upd H dx (.own x)) x (.ins C dx []))
theorem pe_new0 {X : Cx} {C : Addr} {x : Str} {p pos : Pos} (M : Mk0 X.K C) (hm : X.mg x = some (.ref C)) (hg : Gl X x := by rfl) (hdb : (x == ("__debug__" : Str)) = false := by decide) : PE X (.Call (.Name x p) [] [] pos) (tMk0 C) := by
  intro pins s σ H Q I h
  refine wpAny_Call_Name_kw (ld_glob I hg hm (PySem.W.callWith_K0 I.kIn M.kp ?_) hdb)
  have hq := h (s.heap.objs.size + 1) s.heap.objs.size (I.hok.fresh (Nat.le_succ _)) (I.hok.fresh (Nat.le_refl _)) (Nat.ne_of_lt (Nat.lt_succ_self _))
  have I2 := Inv.made (C := C) I
  refine wpAny_call (make_map0 I.kIn M.makes M.init (fun self => PySem.W.Looks.of_pure (PySem.W.oi_bind self)) ?_)
  have Y := PySem.W.makes_of (M := model X.prog X.w) I.kIn M.makes
  have e2 : ((s.heap.push PySem.W.emptyDict).push (PySem.W.instObj C s.heap.objs.size)).get? (s.heap.objs.size + 1) = some (PySem.W.instObj C s.heap.objs.size) := by
    have := Heap.get?_push_size (s.heap.push PySem.W.emptyDict) (o := PySem.W.instObj C s.heap.objs.size) rfl
    rwa [Heap.size_push] at this
  have t1 : PySem.W.Looks (model X.prog X.w) ((s.heap.push PySem.W.emptyDict).push (PySem.W.instObj C s.heap.objs.size)) (typeOf (.ref (s.heap.objs.size + 1))) (.ref C) := (PySem.W.Looks.ld e2).andThen .now
  have t2 : PySem.W.Looks (model X.prog X.w) ((s.heap.push PySem.W.emptyDict).push (PySem.W.instObj C s.heap.objs.size)) (isInstance (.ref (s.heap.objs.size + 1)) (.type "object")) true :=
    t1.andThen (Y.top.keeps fun b o e => Heap.get?_push_of_some _ (Heap.get?_push_of_some _ e))
  refine codeAny_call_builtin PySem.W.oi_plain PySem.W.entry_oi (@PySem.W.check_slot (model X.prog X.w) _ _ _ "object.__init__" "object" "__init__" (.ref (s.heap.objs.size + 1)) [] [] _ PySem.W.oi_kind PySem.W.oi_split t2 (PySem.W.oi_args (.ref (s.heap.objs.size + 1))) ?_)
  rw [PySem.W.oi_run]
  exact wpAny_pure (And.intro rfl ⟨.ref (s.heap.objs.size + 1), _, I2, rfl, hq⟩)
end L2
namespace L2
open PySem PySem.Spec PyProof.Rows
abbrev yes2 : Int → Int → Bool := fun _ _ => true
theorem zipV_W (φ : Int → Int → Int) (xs ys : List Int) : zipV yes2 (fun x y => .int (φ x y)) xs ys = (List.zipWith φ xs ys).map V.int := by
  unfold zipV
  rw [List.filter_eq_self.mpr (fun _ _ => rfl)]
  refine List.ext_getElem? fun i => ?_
  rw [List.getElem?_map, List.getElem?_map, List.getElem?_zipWith]
  by_cases h : i < min xs.length ys.length
  · have h1 : i < xs.length := by omega
    have h2 : i < ys.length := by omega
    rw [List.getElem?_range h, List.getElem?_eq_getElem h1, List.getElem?_eq_getElem h2]
    simp [List.getD, h1, h2]
  · rw [List.getElem?_eq_none (by simpa using h)]
    rcases Nat.lt_or_ge i xs.length with q | q
    · rw [List.getElem?_eq_none (l := ys) (by omega)]
      cases xs[i]? <;> rfl
    · rw [List.getElem?_eq_none (l := xs) q]; rfl
theorem paired_ints {α : Type} {R : Int → Prop} : ∀ {l : List α} {ys : List V}, Paired (fun _ v => ∃ x : Int, v = .int x ∧ R x) l ys → ∃ ws : List Int, ys = ws.map V.int ∧ ws.length = l.length ∧ ∀ x ∈ ws, R x
  | _, _, .nil => ⟨[], rfl, rfl, fun _ h => nomatch h⟩
  | _, _, .cons (a := _) ⟨x, e, r⟩ t => by
    obtain ⟨ws, e2, l2, r2⟩ := paired_ints t
    refine ⟨x :: ws, by rw [e, e2]; rfl, by simp [l2], fun y hy => ?_⟩
    rcases List.mem_cons.mp hy with q | q
    · rw [q]; exact r
    · exact r2 y q
theorem rev_getD (xs : List Int) (f : Int → Int) : (List.range xs.length).map (fun i => f (xs.getD (xs.length - 1 - i) 0)) = xs.reverse.map f := by
  refine List.ext_getElem? fun i => ?_
  rw [List.getElem?_map, List.getElem?_map]
  by_cases h : i < xs.length
  · rw [List.getElem?_range h, List.getElem?_reverse h, List.getElem?_eq_getElem (show xs.length - 1 - i < xs.length by omega)]
    simp [List.getD, show xs.length - 1 - i < xs.length by omega]
  · rw [List.getElem?_eq_none (by simpa using h), List.getElem?_eq_none (by rw [List.length_reverse]; omega)]; rfl
theorem new_compF {K : PySem.W.Frag} {xs : List V} {mp : List (Option Nat)} {wi : TI} {g : TG} {tc : TT} {te : TE} {σ : St} {H : Hp} {Q : VK} (hn : xs.length ≤ 1000) (hwi : ∀ R : It → Hp → Prop, (∀ m, H m = none → R (Itl K m) (upd H m (.lst xs))) → wi σ H R) (Sv : St → Prop) (p : Nat → Bool) (F : Nat → V → Hp → Prop)
    (monoS : ∀ i v H H', Same H H' → F i v H → F i v H') (monoU : ∀ i v H a ys ys', H a = some (.lst ys) → F i v H → F i v (upd H a (.lst ys'))) (h0 : Sv (st0 mp σ))
    (step : ∀ i x σ' H2, i < xs.length → Sv σ' → Same H H2 → xs[i]? = some x → ∀ (Ny : V → St → Hp → Prop) (Nn : St → Hp → Prop), (∀ v σ2 H5, Sv σ2 → Same H2 H5 → F i v H5 → p i = true → Ny v σ2 H5) → (∀ σ2 H4, Sv σ2 → Same H2 H4 → p i = false → Nn σ2 H4) →
      g x σ' H2 fun σ2 H3 => tc σ2 H3 fun b H4 => if b = true then te σ2 H4 fun v H5 => Ny v σ2 H5 else Nn σ2 H4)
    (hQ : ∀ D H' ys, Same H H' → H' D = some (.lst ys) → Paired (fun i v => F i v H') ((List.range xs.length).filter p) ys → Q (.ref D) H') : tComp mp wi g tc te σ H Q := by
  unfold tComp
  refine hwi _ fun m hm D hD => ?_
  exact comp_of (walk_list (K := K) (SqL.of upd_same)) hD (Nat.le_trans hn (by rw [sizeLine_eq]; decide)) Sv p F monoS monoU h0 (fun i x σ' H2 hi hs e hx => step i x σ' H2 hi hs ((Same.upd hm).trans e) hx) fun H' ys e hL hF => hQ D H' ys ((Same.upd hm).trans e) hL hF
theorem if_no {c : TT} {t u : TS} {D : Ends} {σ : St} {H : Hp} (R : Hp → Prop) (hu : ∀ H', R H' → u D σ H') (hc : ∀ N : Bool → Hp → Prop, (∀ H', R H' → N false H') → c σ H N) : tIfS c t u D σ H := by
  unfold tIfS
  exact hc _ fun H' r => by rw [if_neg (by decide)]; exact hu H' r
theorem if_noS {c : TT} {t r : TS} {D : Ends} {σ : St} {H : Hp} (R : Hp → Prop) (hu : ∀ H', R H' → r D σ H') (hc : ∀ N : Bool → Hp → Prop, (∀ H', R H' → N false H') → c σ H N) : tSeq (tIfS c t tNext) r D σ H := by
  unfold tSeq
  exact if_no R hu hc
end L2
namespace L2
open PySem PySem.Spec PyProof.Rows
theorem store_use {X : Cx} {pins : List (Addr × Obj)} {σ0 σ : St} {H0 H' : Hp} {s0 s' : Shared} {C : Addr} {i : Nat} {x : Str} {pos' : Pos} {v : V} {u : Value} {Nx : St → Hp → Prop} (I0 : Inv X pins σ0 H0 s0) (hC : s0.heap.objs.size ≤ C) (I : Inv X pins σ H' s') (hn : H' C = none)
    (hns : ∃ m, s'.heap.Ns C m) (hg : PG X (.Name x pos') (gName i)) (r : RelV v u) (q : Nx (σ.set i (some v)) H') :
    wpAny (model X.prog X.w) X.A (assign (.Name x pos') X.env u) (fun _ s'' => ∃ m, s''.heap.Ns C m ∧ ∀ h', Heap.SameBut C s''.heap h' → ∃ σ2 H2, Inv X pins σ2 H2 { s'' with heap := h' } ∧ Nx σ2 H2) X.xe s' := by
  obtain ⟨m, o, es, ep, ho, hd, rest⟩ := hns
  have fp : FpOk X pins H' C := I0.fpOk hC hn
  have I1 := I.pinned (fp := [C]) (fun b hb => by obtain rfl : b = C := by simpa using hb
                                                  exact fp) (fun b hb => by
    obtain rfl : b = C := by simpa using hb
    exact ⟨o, ho, fun v z => by rw [hd] at z; cases z⟩)
  refine thn (hg _ _ _ _ _ _ Nx I1 r q) fun _ s2 ⟨σ2, H2, I2, q2⟩ => ?_
  have pn := I2.pin (C, o) (List.mem_append_right _ (List.mem_append_right _ (mem_pinsAt (by simp) ho)))
  refine ⟨m, ⟨o, es, ep, pn.1, hd, rest⟩, fun h' sb => ⟨σ2, H2, ?_, q2⟩⟩
  obtain ⟨f0, f1, f2, f3, f4, f5⟩ := fp
  exact I2.unpinned.turned (t' := s2.toks) (fun b ob hb e => sb.extBut b ob hb e) pn.2.1 f1 f3 f4 f5
theorem ps_setC {X : Cx} {N : List Str} {scope : Scope} {cl : List (Str × Addr)} {mp : List (Option Nat)} {elt tg iter : Expr} {ifs : List Expr} {wi : TI} {g : TG} {tc : TT} {te : TE} {pos pos' posA : Pos} {i : Nat} {x : Str} (hn : PG X (.Name x pos') (gName i)) (B : Blk X N scope cl mp) (hc : X.calm = true)
    (hi : PI X tg iter wi) (hg : ∀ C s H fp, PG (blk X N scope cl C s H fp) tg g) (ht : ∀ C s H fp, PTs (blk X N scope cl C s H fp) ifs tc) (he : ∀ C s H fp, PE (blk X N scope cl C s H fp) elt te)
    (hs : ∀ x, foldedSetIterable iter X.env x = pure x := by intro _; rfl) (hsw : swapsWith (.ListComp elt [⟨tg, iter, ifs, 0⟩] scope pos) (some (.Name x pos')) posA.line X.env = pure true := by rfl) :
    PS X (.Assign [.Name x pos'] (.ListComp elt [⟨tg, iter, ifs, 0⟩] scope pos) posA) (tAsg (tComp mp wi g tc te) (gName i)) := by
  intro pins s σ H Dn I h
  unfold tAsg tComp at h
  rw [exec_Assign_Name_used _ _ _ _ hsw]
  refine wpAny_bind (wpAny_standAt (wpAny_bind ?_))
  show wpAny _ _ (comprehension (.ListComp elt [⟨tg, iter, ifs, 0⟩] scope pos) scope X.env _ (newList []) false (eval iter X.env) (some (assign (.Name x pos') X.env)) >>= _) _ _ _
  refine wpAny_bind (wpAny_comprehension_free (use := some (assign (.Name x pos') X.env)) (cl := cl) rfl hs B.clos B.kind B.nms (thn (hi pins s σ H _ I h) fun v s1 h1 => thn h1 fun itv s2 h2 => ?_))
  obtain ⟨it, fp, tn, J, H2, rfl, I2, T, st2, f2, q⟩ := h2
  have lt2 : ∀ b ∈ fp, b < s2.heap.objs.size := fun b hb => let ⟨o, e, _⟩ := T.obj _ _ st2 b hb; Heap.lt_size e
  obtain ⟨W, ⟨m0, w0⟩, turn⟩ := q _ I2.fresh
  have ID := I2.lnew (ys := []) (its := []) (t' := s2.toks) .nil (Nat.zero_le _)
  have fD' : ∀ b ∈ fp, FpOk X pins (upd H2 s2.heap.objs.size (.lst [])) b := fun b hb => by
    obtain ⟨f0, r⟩ := f2 b hb
    exact ⟨by rw [upd_ne (Nat.ne_of_lt (lt2 b hb))]; exact f0, r⟩
  refine wpAny_newObj_type (comp_block B hc hg ht he ID fD' T (T.keep _ _ _ st2 fun b _ o e => Heap.get?_push_of_some _ e) w0 turn fun C H' σ' s' hC J' qf => ?_)
  have hns : ∃ m, s'.heap.Ns C m := let ⟨m, hm, _⟩ := J'.loc; ⟨m, hm⟩
  have I3 : Inv X pins σ H' { s' with heap := s'.heap } := blk_out ID fD' hC J' (Heap.SameBut.refl _ _)
  exact thn (store_use (v := .ref s2.heap.objs.size) ID hC I3 J'.free hns hn rfl qf) fun _ s4 ⟨m, hm, q4⟩ => ⟨m, hm, fun h' sb => wpAny_pure (wpAny_pure (q4 h' sb))⟩
theorem ps_setC1 {X : Cx} {N : List Str} {scope : Scope} {cl : List (Str × Addr)} {own : Str} {mp : List (Option Nat)} {elt tg iter : Expr} {ifs : List Expr} {wi : TI} {g : TG} {tc : TT} {te : TE} {pos pos' posA : Pos} {i : Nat} {x : Str} (hn : PG X (.Name x pos') (gName i)) (B : Blk1 X N scope cl own mp) (hc : X.calm = true)
    (hi : PI X tg iter wi) (hg : ∀ C s H fp, PG (blk1 X N scope cl own C s H fp) tg g) (ht : ∀ C s H fp, PTs (blk1 X N scope cl own C s H fp) ifs tc) (he : ∀ C s H fp, PE (blk1 X N scope cl own C s H fp) elt te)
    (hs : ∀ x, foldedSetIterable iter X.env x = pure x := by intro _; rfl) (hsw : swapsWith (.ListComp elt [⟨tg, iter, ifs, 0⟩] scope pos) (some (.Name x pos')) posA.line X.env = pure true := by rfl) :
    PS X (.Assign [.Name x pos'] (.ListComp elt [⟨tg, iter, ifs, 0⟩] scope pos) posA) (tAsg (tComp mp wi g tc te) (gName i)) := by
  intro pins s σ H Dn I h
  unfold tAsg tComp at h
  rw [exec_Assign_Name_used _ _ _ _ hsw]
  refine wpAny_bind (wpAny_standAt (wpAny_bind ?_))
  show wpAny _ _ (comprehension (.ListComp elt [⟨tg, iter, ifs, 0⟩] scope pos) scope X.env _ (newList []) false (eval iter X.env) (some (assign (.Name x pos') X.env)) >>= _) _ _ _
  refine wpAny_bind (wpAny_comprehension_free (use := some (assign (.Name x pos') X.env)) (cl := cl) rfl hs B.clos B.kind B.nms (thn (hi pins s σ H _ I h) fun v s1 h1 => thn h1 fun itv s2 h2 => ?_))
  obtain ⟨it, fp, tn, J, H2, rfl, I2, T, st2, f2, q⟩ := h2
  have lt2 : ∀ b ∈ fp, b < s2.heap.objs.size := fun b hb => let ⟨o, e, _⟩ := T.obj _ _ st2 b hb; Heap.lt_size e
  obtain ⟨W, ⟨m0, w0⟩, turn⟩ := q _ I2.fresh
  have ID := I2.lnew (ys := []) (its := []) (t' := s2.toks) .nil (Nat.zero_le _)
  have fD' : ∀ b ∈ fp, FpOk X pins (upd H2 s2.heap.objs.size (.lst [])) b := fun b hb => by
    obtain ⟨f0, r⟩ := f2 b hb
    exact ⟨by rw [upd_ne (Nat.ne_of_lt (lt2 b hb))]; exact f0, r⟩
  refine wpAny_newObj_type (comp_block1 B hc hg ht he ID fD' T (T.keep _ _ _ st2 fun b _ o e => Heap.get?_push_of_some _ e) w0 turn fun C H' σ' s' hC J' qf => ?_)
  have hns : ∃ m, s'.heap.Ns C m := let ⟨m, hm, _⟩ := J'.loc; ⟨m, hm⟩
  have I3 : Inv X pins σ H' { s' with heap := s'.heap } := blk1_out ID fD' hC J' (Heap.SameBut.refl _ _)
  exact thn (store_use (v := .ref s2.heap.objs.size) ID hC I3 J'.free hns hn rfl qf) fun _ s4 ⟨m, hm, q4⟩ => ⟨m, hm, fun h' sb => wpAny_pure (wpAny_pure (q4 h' sb))⟩
end L2
namespace L2
open PySem PySem.Spec PyProof.Rows
def rTupleOf (K : PySem.W.Frag) : List V → Hp → VK → Prop := fun xs H Q => ∃ p ys, xs = [.ref p] ∧ ((SqL K H p ys ∧ ∀ l, H l = none → Q (.ref l) (upd H l (.tup ys))) ∨ (SqT K H p ys ∧ Q (.ref p) H))
def rListOf (K : PySem.W.Frag) : List V → Hp → VK → Prop := fun xs H Q => ∃ p ys, xs = [.ref p] ∧ (SqL K H p ys ∨ SqT K H p ys) ∧ ∀ l, H l = none → Q (.ref l) (upd H l (.lst ys))
def rLenSeq (K : PySem.W.Frag) : List V → Hp → VK → Prop := fun xs H Q => ∃ p ys, xs = [.ref p] ∧ (SqL K H p ys ∨ SqT K H p ys) ∧ Q (.int ys.length) H
def rSumX (K : PySem.W.Frag) (b : Bool) : List V → Hp → VK → Prop := fun xs H Q => ∃ (a : Addr) (ns : List Int), xs = [.ref a] ∧ SqX K b H a (ns.map V.int) ∧ Q (.int ns.sum) H
def rAllB (K : PySem.W.Frag) : List V → Hp → VK → Prop := fun xs H Q => ∃ (a : Addr) (bs : List Bool), xs = [.ref a] ∧ SqL K H a (bs.map V.bl) ∧ Q (.bl (bs.all id)) H
def rAnyB (K : PySem.W.Frag) : List V → Hp → VK → Prop := fun xs H Q => ∃ (a : Addr) (bs : List Bool), xs = [.ref a] ∧ SqL K H a (bs.map V.bl) ∧ Q (.bl (bs.any id)) H
def rIsInst (K : PySem.W.Frag) : List V → Hp → VK → Prop := fun xs H Q => ∃ x y t c b, xs = [x, y] ∧ clV y = some c ∧ TyOf K H x t ∧ PySem.W.kitOne K t c = some b ∧ Q (.bl b) H
section
variable {X : Cx} {K : PySem.W.Frag}
theorem call_tupleK (hK : X.K = K) : CallR X (.type "tuple") (rTupleOf K) := by subst hK; exact call_tuple_of
theorem call_listK (hK : X.K = K) : CallR X (.type "list") (rListOf K) := by subst hK; exact call_list_of
theorem call_lenK (hK : X.K = K) : CallR X (.builtin "len") (rLenSeq K) := by subst hK; exact call_len_seq
theorem call_sumK (hK : X.K = K) (b : Bool) (hc : X.calm = true) : CallR X (.builtin "sum") (rSumX K b) := by subst hK; exact call_sumX b hc
theorem call_anyK (hK : X.K = K) (hc : X.calm = true) : CallR X (.builtin "any") (rAnyB K) := by subst hK; exact call_anyB hc
theorem call_isinstK (hK : X.K = K) : CallR X (.builtin "isinstance") (rIsInst K) := by subst hK; exact call_isinst
theorem pe_fldK {e : Expr} {f : Str} {pos : Pos} {ta : TE} (hK : X.K = K) (he : PE X e ta) (hb : attributeBase e f X.env (eval e X.env) = eval e X.env) : PE X (.Attribute e f pos) (tFld K ta f) := by subst hK; exact pe_fld he hb
theorem pi_listK {tg l : Expr} {tl : TE} (hK : X.K = K) (hl : PE X l tl) : PI X tg l (iList K tl) := by subst hK; exact pi_list hl
theorem pi_zipK {es : List Expr} {ek : Nat} {tpos p pos : Pos} (hK : X.K = K) (b1 b2 : Bool) {e1 e2 : Expr} {ta : TA} (hg : Gl X "zip") (hm : X.mg "zip" = none) (ha : PA X [e1, e2] ta)
    (he : starEach [e1, e2] X.env = (false, eval e1 X.env) :: starEach [e2] X.env := by rfl) (hpl : (backTo pos (starEach [e2] X.env)).any (·.1) = false := by rfl) :
    PI X (.Tuple es ek tpos) (.Call (.Name "zip" p) [e1, e2] [] pos) (iZip K b1 b2 ta) := by subst hK; exact pi_zip b1 b2 hg hm ha he hpl
theorem pi_revK {tg : Expr} {p pos : Pos} {e1 : Expr} {ta : TA} (hK : X.K = K) (hg : Gl X "reversed") (hm : X.mg "reversed" = none) (ha : PA X [e1] ta)
    (he : starEach [e1] X.env = (false, eval e1 X.env) :: starEach [] X.env := by rfl) (hpl : (backTo pos (starEach [] X.env)).any (·.1) = false := by rfl) :
    PI X tg (.Call (.Name "reversed" p) [e1] [] pos) (iRvd K ta) := by subst hK; exact pi_rev hg hm ha he hpl
theorem sl_listK (hK : X.K = K) : SlR X (rSlL K) := by subst hK; exact sl_list
end
end L2
set_option Elab.async false
set_option linter.all false
set_option maxRecDepth 100000
namespace L2
open PySem PySem.Spec PyProof.Rows
structure BMeth (K : PySem.W.Frag) (m : Str) (f : Addr) : Prop where
  get : PySem.W.specialIn K (.ref f) "__get__" = some (some (.builtin "function.__get__"))
  tk : PySem.W.takesIn K (.ref f) = some false
  cp : PySem.W.copiedNames.contains m = false
theorem findObj_fnL {K : PySem.W.Frag} {C f : Addr} {name : Str} {od : Obj} {g : Value} (hh : PySem.W.hasDictIn K C = true) (ha : PySem.W.findIn K (.ref C) name = some (some (.ref f))) (hg : PySem.W.specialIn K (.ref f) "__get__" = some (some g))
    (ht : PySem.W.takesIn K (.ref f) = some false) (hc : PySem.W.copiedNames.contains name = false) (hl : PySem.W.lookIn name od = some none) : PySem.W.findObj K C (some od) name = some (.bind g (.ref f)) := by
  obtain ⟨cd, hc', hd⟩ := PySem.W.any_some hh
  unfold PySem.W.findObj
  have ho : PySem.W.ownOf cd (some od) name = some none := by unfold PySem.W.ownOf; rw [if_pos hd]; exact hl
  rw [hc', Option.bind_some, ha, Option.bind_some]
  simp only [hg, ht, Option.bind_some, ho, hc, Bool.false_and, Bool.false_eq_true, if_false]
section
variable {X : Cx} {pins : List (Addr × Obj)} {σ : St} {H : Hp} {s : Shared} {a C dx : Addr} {fs : List (Str × V)} {m : Str} {f : Addr} {A : Around} {E : Value → Shared → Prop}
theorem getbnd_ok {b : Bool} {Q : Value → Shared → Prop} (I : Inv X pins σ H s) (e : H a = some (.ins C dx fs)) (c : Cls X.K C) (k : Meth X.K C m f) (kb : BMeth X.K m f) (l : fs.lookup m = none)
    (h : Q (.ref s.heap.objs.size) { s with heap := s.heap.push (PySem.W.methodObj (.ref f) (.ref a)), toks := s.toks + 1 }) : wpAny (model X.prog X.w) A (getAttr (.ref a) m b) Q E s := by
  obtain ⟨mA, O, r, _, _, _⟩ := ins_get I.hok e
  have hn : mA m = none := RelO.none_of (by rw [← l]; exact r m)
  obtain ⟨od, J, hl⟩ := O.look
  refine PySem.W.get_bind I.kIn J (PySem.W.plainGet_of (c.get m)).1 (findObj_fnL c.hd k.at_ kb.get kb.tk kb.cp (by rw [hl, hn])) (PySem.W.plainGet_of (c.get m)).2 ?_
  exact wpAny_call (PySem.W.fn_get (s := { s with toks := s.toks + 1 }) I.kIn (beq_iff_eq.mp k.fn) (PySem.W.handed_on rfl h))
theorem Inv.repin {pa pb : List (Addr × Obj)} {b : Addr} {o o' : Obj} {t' : Nat} {h' : Heap} {H₁ : Hp} (I : Inv X (pa ++ (b, o) :: pb) σ H s) (f : FpOk X (pa ++ pb) H₁ b) (k : ∀ c u, c ≠ b → s.heap.get? c = some u → h'.get? c = some u)
    (e : h'.get? b = some o') (hc : ∀ v, o'.data ≠ .cell v) : Inv X (pa ++ (b, o') :: pb) σ H { s with heap := h', toks := t' } := by
  have pb' := I.pin (b, o) (List.mem_append_right _ (List.mem_append_right _ (.head _)))
  have I1 : Inv X (pa ++ pb) σ H s := I.pins_of fun p hp => I.pin p (List.mem_append_right _ ((List.mem_append.mp hp).elim (fun z => List.mem_append_left _ z) fun z => List.mem_append_right _ (.tail _ z)))
  have I2 := I1.turned (t' := t') (h' := h') (it := b) k pb'.2.1 f.2.1 f.2.2.2.1 f.2.2.2.2.1 f.2.2.2.2.2
  refine I2.pins_of fun p hp => ?_
  rcases List.mem_append.mp hp with z | z
  · exact I2.pin p (List.mem_append_right _ (List.mem_append_left _ z))
  · rcases List.mem_cons.mp z with rfl | z
    · exact ⟨e, pb'.2.1, f.2.1, f.2.2.1, hc⟩
    · exact I2.pin p (List.mem_append_right _ (List.mem_append_right _ z))
theorem FpOk.more {pa : List (Addr × Obj)} {b : Addr} (f : FpOk X pins H b) (h : ∀ p ∈ pa, p.1 ≠ b) : FpOk X (pa ++ pins) H b := by
  refine ⟨f.1, f.2.1, f.2.2.1, f.2.2.2.1, f.2.2.2.2.1, fun p hp => ?_⟩
  rcases List.mem_append.mp hp with z | z
  · exact f.2.2.2.2.2 p (List.mem_append_left _ z)
  · rcases List.mem_append.mp z with z | z
    · exact h p z
    · exact f.2.2.2.2.2 p (List.mem_append_right _ z)
end
def BRun (X : Cx) (q f a : Addr) (sp : V → Hp → VK → Prop) : Prop := ∀ (pins : List (Addr × Obj)) (s : Shared) (σ : St) (H : Hp) (Q : VK) (x : V) (u : Value), Inv X pins σ H s → (q, PySem.W.methodObj (.ref f) (.ref a)) ∈ pins → RelV x u → sp x H Q →
  wpAny (model X.prog X.w) X.A.in1 (call (.ref q) [u]) (EP X pins σ Q) (fun _ _ => False) s
theorem brun_of {X : Cx} {k : Nat} {f : Addr} {fd : FuncData} {ps : List Str} {sp : Sp} {dvs : List V} {ds : List Value} {q a : Addr} (F : FnOk X.prog X.w X.K X.mg X.base CX0 k f fd ps sp) (hr : Room (k + 1) X.A) (hb : Binds X.K fd ps ds) (hd : Vals dvs ds) :
    BRun X q f a fun x H Q => sp (.ref a :: x :: dvs) H Q E0 := by
  intro pins s σ H Q x u I hq rx h
  have r2 : Vals (.ref a :: x :: dvs) ([.ref a, u] ++ ds) := .cons rfl (.cons rx hd)
  have hl : ([.ref a, u] ++ ds).length = ps.length := by rw [← r2.length]; exact F.len _ _ _ _ h
  have ho := (I.pin _ (List.mem_append_right _ hq)).1
  refine wpAny_call (PySem.W.method_call ho ?_)
  refine codeAny_mono (F.run X.A.in1 X.stack s H ⟨[.ref a, u], []⟩ ([.ref a, u] ++ ds) (.ref a :: x :: dvs) Q E0 hr.in1 I.env0.in1 (hb s [.ref a, u] I.kIn hl) r2 h) fun r s' hq => ?_
  match r, hq with
  | .error e, hq => exact False.elim hq
  | .ok (.ret u), hq => exact I.after hq
  | .ok .next, hq => exact False.elim hq
  | .ok .brk, hq => exact False.elim hq
  | .ok .cont, hq => exact False.elim hq
def mxGo (K : PySem.W.Frag) (l : Addr) (all : List V) (sp : V → Hp → VK → Prop) : List V → V → V → Hp → VK → Prop
  | [], b, _, H, Q => Q b H
  | x :: xs, b, kb, H, Q => sp x H fun k H1 => H1 l = some (.lst all) ∧ ∃ (a c : Addr) (ns ms : List Int), k = .ref a ∧ kb = .ref c ∧ SqT K H1 a (ns.map V.int) ∧ SqT K H1 c (ms.map V.int) ∧
    (HT.lexLt ms ns = true → mxGo K l all sp xs x k H1 Q) ∧ (HT.lexLt ms ns = false → mxGo K l all sp xs b kb H1 Q)
def mxAll (K : PySem.W.Frag) (l : Addr) (all : List V) (sp : V → Hp → VK → Prop) : List V → Hp → VK → Prop
  | [], _, _ => False
  | x :: xs, H, Q => sp x H fun k H1 => H1 l = some (.lst all) ∧ mxGo K l all sp xs x k H1 Q
section
variable {X : Cx} {pins : List (Addr × Obj)} {σ : St} {l q It S f a : Addr} {all : List V} {sp : V → Hp → VK → Prop} {Q : VK} {H₁ : Hp}
theorem rel_at {xs : List V} {us : List Value} (r : Vals xs us) : ∀ {i : Nat} {x : V}, xs[i]? = some x → ∃ u, us[i]? = some u ∧ RelV x u := by
  induction r with
  | nil => intro i x h; simp at h
  | cons r1 _ ih =>
    intro i x h
    cases i with
    | zero => simp at h; subst h; exact ⟨_, rfl, r1⟩
    | succ i => simp at h; obtain ⟨u, e, z⟩ := ih h; exact ⟨u, by simpa using e, z⟩
theorem max_go (hh : X.A.handled = none) (hu : X.A.units + 1 < cLine) (B : BRun X q f a sp) (hlI : l ≠ It) (hSI : S ≠ It) (hqI : q ≠ It) (hqS : q ≠ S) (fI : FpOk X pins H₁ It) (fS : FpOk X pins H₁ S) :
    ∀ (rest : List V) (j : Nat) (b kb : V) (ub ukb : Value) (c : Nat) (oI : Obj) (H : Hp) (s : Shared), all.drop (j + 1) = rest → mxGo X.K l all sp rest b kb H Q → H l = some (.lst all) →
      Inv X ((It, oI) :: (S, seqObj "list" #[ub, ukb] c) :: (q, PySem.W.methodObj (.ref f) (.ref a)) :: pins) σ H s → s.heap.IsListIter It l (j + 1) → RelV b ub → RelV kb ukb →
      codeAny (model X.prog X.w) X.A (.builtin "max.loop" ⟨[.ref It, .ref q, .ref S], []⟩) (fun r s' => match r with | .ok (.ret v) => EP X pins σ Q v s' | .ok _ => False | .error e => X.xe e s') s := by
  have hname : (toString "max" ++ toString ".loop" : String) = "max.loop" := by decide
  intro rest
  induction rest with
  | nil =>
    intro j b kb ub ukb c oI H s hdrop hgo hH I hit rb rkb
    have hlen : all.length ≤ j + 1 := List.drop_eq_nil_iff.mp hdrop
    obtain ⟨its, n, rv, hl, _⟩ := I.lst hH
    have hls : s.heap.IsList l its.toArray := ⟨_, hl, rfl, n, rfl⟩
    have nS := I.pin (S, seqObj "list" #[ub, ukb] c) (List.mem_append_right _ (.tail _ (.head _)))
    refine codeAny_builtin PySem.F.entry_max_loop ?_
    rw [Around.under_plainId PySem.F.plain_max_loop _]
    show wpAny _ X.A.in1 (seqItems? (.ref S) >>= _) _ _ _
    refine wpAny_bind (wpAny_seqItems nS.1 rfl ?_)
    show wpAny _ X.A.in1 (tryCatch (pyNext (.ref It)) _ >>= _) _ _ _
    refine wpAny_bind (wpAny_tryCatch (wpAny_pyNext_list_end (A := X.A.in1) hh hit hls (by rw [List.getElem?_toArray, List.getElem?_eq_none]; rw [← rv.length]; exact hlen) fun h' he' => ?_))
    have pI := I.pin (It, oI) (List.mem_append_right _ (.head _))
    have I1 : Inv X ((S, seqObj "list" #[ub, ukb] c) :: (q, PySem.W.methodObj (.ref f) (.ref a)) :: pins) σ H s := I.pins_of fun p hp => I.pin p (List.mem_append_right _ (.tail _ hp))
    have fI' := fI.more (pa := [(S, seqObj "list" #[ub, ukb] c), (q, PySem.W.methodObj (.ref f) (.ref a))]) (by simp [hSI, hqI])
    have I2 := I1.turned (t' := s.toks) (h' := h') (it := It) (fun b' o hb e => he' b' o hb e) pI.2.1 fI'.2.1 fI'.2.2.2.1 fI'.2.2.2.2.1 fI'.2.2.2.2.2
    have nS2 := I2.pin (S, seqObj "list" #[ub, ukb] c) (List.mem_append_right _ (.head _))
    show wpAny _ X.A.in1 (updateSeq S (fun _ => #[]) >>= _) _ _ _
    refine wpAny_bind ?_
    refine wpAny_updateSeq nS2.1 rfl (wpAny_bind (wpAny_letGo (wpAny_pure ?_)))
    have fS' := fS.more (pa := [(q, PySem.W.methodObj (.ref f) (.ref a))]) (by simp [hqS])
    have I3 : Inv X ((q, PySem.W.methodObj (.ref f) (.ref a)) :: pins) σ H { s with heap := h' } := I2.pins_of fun p hp => I2.pin p (List.mem_append_right _ (.tail _ hp))
    have sb := Heap.SameBut.update h' S (Obj.mapSeq fun _ => (#[] : Array Value))
    have I4 := I3.turned (t' := s.toks) (h' := h'.update S (Obj.mapSeq fun _ => #[])) (it := S) (fun b' o hb e => (sb.2 b' hb).trans e) nS2.2.1 fS'.2.1 fS'.2.2.2.1 fS'.2.2.2.2.1 fS'.2.2.2.2.2
    exact ⟨b, H, I4.pins_of fun p hp => I4.pin p (List.mem_append_right _ (.tail _ hp)), rb, hgo⟩
  | cons x xs ih =>
    intro j b kb ub ukb c oI H s hdrop hgo hH I hit rb rkb
    have hx : all[j + 1]? = some x := by rw [← List.head?_drop, hdrop]; rfl
    have hdrop' : all.drop (j + 1 + 1) = xs := by rw [← List.tail_drop, hdrop]; rfl
    obtain ⟨its, n, rv, hl, _⟩ := I.lst hH
    have hls : s.heap.IsList l its.toArray := ⟨_, hl, rfl, n, rfl⟩
    obtain ⟨u, hu', ru⟩ := rel_at rv hx
    have nS := I.pin (S, seqObj "list" #[ub, ukb] c) (List.mem_append_right _ (.tail _ (.head _)))
    refine codeAny_builtin PySem.F.entry_max_loop ?_
    rw [Around.under_plainId PySem.F.plain_max_loop _]
    show wpAny _ X.A.in1 (seqItems? (.ref S) >>= _) _ _ _
    refine wpAny_bind (wpAny_seqItems nS.1 rfl ?_)
    show wpAny _ X.A.in1 (tryCatch (pyNext (.ref It)) _ >>= _) _ _ _
    refine wpAny_bind (wpAny_tryCatch (wpAny_pyNext_list_item hit hls (x := u) (by rw [List.getElem?_toArray]; exact hu') fun h' hit' hs' => ?_))
    obtain ⟨oI', hoI', hoc, hod⟩ := id hit'
    have fI' := fI.more (pa := [(S, seqObj "list" #[ub, ukb] c), (q, PySem.W.methodObj (.ref f) (.ref a))]) (by simp [hSI, hqI])
    have I1 : Inv X ((It, oI') :: (S, seqObj "list" #[ub, ukb] c) :: (q, PySem.W.methodObj (.ref f) (.ref a)) :: pins) σ H { s with heap := h' } :=
      Inv.repin (pa := []) (t' := s.toks) I fI' (fun b' o hb e => (hs'.2 b' hb).trans e) hoI' (by intro v z; rw [hod] at z; cases z)
    show wpAny _ X.A.in1 (tryCatch (holding [u] (call (.ref q) [u])) _ >>= _) _ _ _
    refine wpAny_bind (wpAny_tryCatch (wpAny_holding (wpAny_mono (B _ _ σ H _ x u I1 (.tail _ (.tail _ (.head _))) ru hgo) (fun uk s2 he => ?_) fun _ _ hF => hF.elim)))
    obtain ⟨k, H1, I2, rk, hH1, a', c', ns, ms, rfl, rfl, ha', hc', h1, h2⟩ := he
    obtain rfl : uk = Value.ref a' := rk
    obtain rfl : ukb = Value.ref c' := rkb
    obtain ⟨it1, r1, p1, _⟩ := I2.tuple ha'
    obtain ⟨it2, r2, p2, _⟩ := I2.tuple hc'
    have i1 : IntsAre it1.toArray.toList ns := intsAre_of r1
    have i2 : IntsAre it2.toArray.toList ms := intsAre_of r2
    have nS2 := I2.pin (S, seqObj "list" #[ub, .ref c'] c) (List.mem_append_right _ (.tail _ (.head _)))
    have nI2 := I2.pin (It, oI') (List.mem_append_right _ (.head _))
    have hit2 : s2.heap.IsListIter It l (j + 1 + 1) := ⟨oI', nI2.1, hoc, hod⟩
    show wpAny _ X.A.in1 (tryCatch (holding [u, .ref a'] (richCompare .Gt (.ref a') (.ref c') >>= _)) _ >>= _) _ _ _
    refine wpAny_bind (wpAny_tryCatch (wpAny_holding (wpAny_bind (HT.gt_tupInts (A := X.A.in1) p1 p2 i1 i2 hu ?_))))
    refine wpAny_bind (wpAny_holding (wpAny_truthy_bool ?_))
    refine wpAny_bind (wpAny_letGo (wpAny_pure ?_))
    cases hb : HT.lexLt ms ns with
    | true =>
      have sb := Heap.SameBut.update s2.heap S (Obj.mapSeq fun _ => #[u, .ref a'])
      obtain ⟨c2, hc2⟩ : ∃ c2, (s2.heap.update S (Obj.mapSeq fun _ => #[u, .ref a'])).get? S = some (seqObj "list" #[u, .ref a'] c2) := ⟨_, get?_update_seq nS2.1 fun _ => #[u, .ref a']⟩
      simp only [if_true]
      refine wpAny_bind ?_
      refine wpAny_updateSeq nS2.1 rfl (wpAny_bind (wpAny_letGo ?_))
      rw [hname]
      have fS' : FpOk X ((It, oI') :: (q, PySem.W.methodObj (.ref f) (.ref a)) :: pins) H₁ S := fS.more (pa := [(It, oI'), (q, PySem.W.methodObj (.ref f) (.ref a))]) (by simp [hSI.symm, hqS])
      have I3 : Inv X ((It, oI') :: (S, seqObj "list" #[u, .ref a'] c2) :: (q, PySem.W.methodObj (.ref f) (.ref a)) :: pins) σ H1 { s2 with heap := s2.heap.update S (Obj.mapSeq fun _ => #[u, .ref a']) } :=
        Inv.repin (pa := [(It, oI')]) (t' := s2.toks) I2 fS' (fun b' o hb' e => (sb.2 b' hb').trans e) hc2 (by intro v z; cases z)
      exact wpAny_pure ⟨plainId_quiet PySem.F.plain_max_loop _, ih (j + 1) x (.ref a') u (.ref a') c2 oI' H1 _ hdrop' (h1 hb) hH1 I3 ⟨oI', (sb.2 It hSI.symm).trans nI2.1, hoc, hod⟩ ru rfl⟩
    | false =>
      simp only [Bool.false_eq_true, if_false]
      refine wpAny_bind (wpAny_letGo ?_)
      rw [hname]
      exact wpAny_pure ⟨plainId_quiet PySem.F.plain_max_loop _, ih (j + 1) b (.ref c') ub (.ref c') c oI' H1 _ hdrop' (h2 hb) hH1 I2 hit2 rb rfl⟩
end
end L2
namespace L2
open PySem PySem.Spec PyProof.Rows
structure BM (K : PySem.W.Frag) (C : Addr) (m : Str) : Prop where
  ex : ∃ f, PySem.W.findIn K (.ref C) m = some (some (.ref f)) ∧ BMeth K m f
def tMaxK (K : PySem.W.Frag) (C : Addr) (m : Str) (sp : Sp) (dvs : List V) (te ta : TE) : TE := fun σ H Q => te σ H fun v H1 => ta σ H1 fun o H2 => ∃ (a dx : Addr) (fs : List (Str × V)) (l : Addr) (all : List V), o = .ref a ∧ H2 a = some (.ins C dx fs) ∧ fs.lookup m = none ∧
  v = .ref l ∧ H2 l = some (.lst all) ∧ mxAll K l all (fun x H Q => sp (.ref a :: x :: dvs) H Q E0) all H2 Q
section
variable {X : Cx} {k j : Nat} {C : Addr} {ps : List Str} {sp : Sp} {dvs : List V} {ds : List Value} {m : Str} {p pos apos kpos : Pos} {e o : Expr} {te ta : TE}
theorem Inv.pinNew {pins : List (Addr × Obj)} {σ : St} {H : Hp} {s : Shared} {ob : Obj} {t' : Nat} (I : Inv X pins σ H s) (hf : ob.isFreed = false) (hc : ∀ v, ob.data ≠ .cell v) : Inv X ((s.heap.objs.size, ob) :: pins) σ H { s with heap := s.heap.push ob, toks := t' } := by
  have I1 : Inv X pins σ H { s with heap := s.heap.push ob, toks := t' } := I.kept fun b u e => Heap.get?_push_of_some _ e
  refine I1.pins_of fun q hq => ?_
  rcases List.mem_cons.mp hq with rfl | hq
  · exact ⟨Heap.get?_push_size _ hf, I.hok.fresh (Nat.le_refl _), Nat.ne_of_gt I.lt, I.nofs (Nat.le_refl _), hc⟩
  · exact I1.pin q (List.mem_append_right _ hq)
theorem max_run {pins : List (Addr × Obj)} {σ : St} {H : Hp} {s : Shared} {q f a l : Addr} {all : List V} {sp : V → Hp → VK → Prop} {Q : VK} (hr : Room j X.A) (B : BRun X q f a sp) (I : Inv X ((q, PySem.W.methodObj (.ref f) (.ref a)) :: pins) σ H s)
    (hH : H l = some (.lst all)) (h : mxAll X.K l all sp all H Q) : wpAny (model X.prog X.w) X.A (call (.builtin "max") [.ref l] [(Str.ofString "key", .ref q)]) (EP X pins σ Q) X.xe s := by
  have hname : (toString "max" ++ toString ".loop" : String) = "max.loop" := by decide
  have hh : X.A.handled = none := hr.hd
  have hu : X.A.units + 1 < cLine := by have := hr.un; omega
  cases all with
  | nil => exact False.elim h
  | cons x xs =>
    obtain ⟨its, n, rv, hl, _⟩ := I.lst hH
    have hls : s.heap.IsList l its.toArray := ⟨_, hl, rfl, n, rfl⟩
    have hll : l < s.heap.objs.size := Heap.lt_size hl
    refine kmk_tree PySem.F.kind_max PySem.F.plain_max PySem.F.entry_max (kmk_max_key _ _) ?_
    show wpAny _ X.A.in1 (Builtin.Builtins.bindParams "max" ["key", "default"] 0 ⟨[], [(Str.ofString "key", .ref q)]⟩ >>= _) _ _ s
    refine wpAny_bind (wpAny_of_eq (show Builtin.Builtins.bindParams "max" ["key", "default"] 0 ⟨[], [(Str.ofString "key", .ref q)]⟩ = pure [some (.ref q), none] from rfl) ?_)
    refine wpAny_bind (wpAny_pure ?_)
    refine wpAny_bind (wpAny_pyIter_list hls ?_)
    refine wpAny_bind (wpAny_newList ?_ (Nat.zero_le _))
    rw [hname]
    have hS : (s.heap.push { cls := .type "list_iterator", data := .fields #[.ref l, .int 0 0] }).objs.size = s.heap.objs.size + 1 := size_push' ..
    have nq := I.pin (q, PySem.W.methodObj (.ref f) (.ref a)) (List.mem_append_right _ (.head _))
    have hqz : q < s.heap.objs.size := Heap.lt_size nq.1
    have I0 : Inv X pins σ H s := I.pins_of fun p hp => I.pin p (List.mem_append_right _ (.tail _ hp))
    have Ia : Inv X ((s.heap.objs.size, { cls := .type "list_iterator", data := .fields #[.ref l, .int 0 0] }) :: (q, PySem.W.methodObj (.ref f) (.ref a)) :: pins) σ H { s with heap := s.heap.push { cls := .type "list_iterator", data := .fields #[.ref l, .int 0 0] } } := I.pinNew (t' := s.toks) rfl (by intro v z; cases z)
    have Ib := Ia.pinNew (t' := s.toks) (ob := seqObj "list" #[] 0) rfl (by intro v z; cases z)
    have fI : FpOk X pins H s.heap.objs.size := I0.fpOk (Nat.le_refl _) (I.hok.fresh (Nat.le_refl _))
    have fS : FpOk X pins H (s.heap.push { cls := .type "list_iterator", data := .fields #[.ref l, .int 0 0] }).objs.size := I0.fpOk (by rw [hS]; exact Nat.le_succ _) (I.hok.fresh (by rw [hS]; exact Nat.le_succ _))
    generalize hS0 : (s.heap.push { cls := .type "list_iterator", data := .fields #[.ref l, .int 0 0] }).objs.size = S at *
    have hlI : l ≠ s.heap.objs.size := Nat.ne_of_lt hll
    have hqI : q ≠ s.heap.objs.size := Nat.ne_of_lt hqz
    have hSI : S ≠ s.heap.objs.size := by rw [hS]; exact Nat.ne_of_gt (Nat.lt_succ_self _)
    have hqS : q ≠ S := by rw [hS]; exact Nat.ne_of_lt (Nat.lt_succ_of_lt hqz)
    refine wpAny_pure ⟨plainId_quiet PySem.F.plain_max_loop _, ?_⟩
    have nS := Ib.pin (S, seqObj "list" #[] 0) (List.mem_append_right _ (by rw [← hS0]; exact .head _))
    have nI := Ib.pin (s.heap.objs.size, _) (List.mem_append_right _ (.tail _ (.head _)))
    obtain ⟨its', n', rv', hl', _⟩ := Ib.lst hH
    have hls' : ((s.heap.push { cls := .type "list_iterator", data := .fields #[.ref l, .int 0 0] }).push (seqObj "list" #[] 0)).IsList l its'.toArray := ⟨_, hl', rfl, n', rfl⟩
    obtain ⟨u, hu', ru⟩ := rel_at (i := 0) rv' rfl
    refine codeAny_builtin PySem.F.entry_max_loop ?_
    rw [Around.under_plainId PySem.F.plain_max_loop _]
    show wpAny _ X.A.in1 (seqItems? (.ref S) >>= _) _ _ _
    refine wpAny_bind (wpAny_seqItems nS.1 rfl ?_)
    show wpAny _ X.A.in1 (tryCatch (pyNext (.ref s.heap.objs.size)) _ >>= _) _ _ _
    refine wpAny_bind (wpAny_tryCatch (wpAny_pyNext_list_item (i := 0) ⟨_, nI.1, rfl, rfl⟩ hls' (x := u) (by rw [List.getElem?_toArray]; exact hu') fun h' hit' hs' => ?_))
    obtain ⟨oI', hoI', hoc, hod⟩ := id hit'
    have Ic : Inv X ((s.heap.objs.size, oI') :: (S, seqObj "list" #[] 0) :: (q, PySem.W.methodObj (.ref f) (.ref a)) :: pins) σ H { s with heap := h' } := by
      have fI' : FpOk X ([(S, seqObj "list" #[] 0)] ++ (q, PySem.W.methodObj (.ref f) (.ref a)) :: pins) H s.heap.objs.size := fI.more (pa := [(S, seqObj "list" #[] 0), (q, PySem.W.methodObj (.ref f) (.ref a))]) (by simp [hSI, hqI])
      have Iz := Inv.repin (pa := [(S, seqObj "list" #[] 0)]) (t' := s.toks) (h' := h') Ib fI' (fun b' o hb e => (hs'.2 b' hb).trans e) hoI' (by intro v z; rw [hod] at z; cases z)
      refine Iz.pins_of fun p hp => Iz.pin p (List.mem_append_right _ ?_)
      rcases List.mem_cons.mp hp with rfl | hp
      · exact .tail _ (.head _)
      · rcases List.mem_cons.mp hp with rfl | hp
        · exact .head _
        · exact .tail _ (.tail _ hp)
    show wpAny _ X.A.in1 (tryCatch (holding [u] (call (.ref q) [u])) _ >>= _) _ _ _
    refine wpAny_bind (wpAny_tryCatch (wpAny_holding (wpAny_mono (B _ _ σ H _ x u Ic (.tail _ (.tail _ (.head _))) ru h) (fun uk s2 he => ?_) fun _ _ hF => hF.elim)))
    obtain ⟨kv, H1, I2, rk, hH1, hgo⟩ := he
    have nS2 := I2.pin (S, seqObj "list" #[] 0) (List.mem_append_right _ (.tail _ (.head _)))
    have nI2 := I2.pin (s.heap.objs.size, oI') (List.mem_append_right _ (.head _))
    have sb := Heap.SameBut.update s2.heap S (Obj.mapSeq fun _ => #[u, uk])
    obtain ⟨c2, hc2⟩ : ∃ c2, (s2.heap.update S (Obj.mapSeq fun _ => #[u, uk])).get? S = some (seqObj "list" #[u, uk] c2) := ⟨_, get?_update_seq nS2.1 fun _ => #[u, uk]⟩
    show wpAny _ X.A.in1 (updateSeq S (fun _ => #[u, uk]) >>= _) _ _ _
    refine wpAny_bind ?_
    refine wpAny_updateSeq nS2.1 rfl ?_
    rw [hname]
    have fS' : FpOk X ((s.heap.objs.size, oI') :: (q, PySem.W.methodObj (.ref f) (.ref a)) :: pins) H S := fS.more (pa := [(s.heap.objs.size, oI'), (q, PySem.W.methodObj (.ref f) (.ref a))]) (by simp [hSI.symm, hqS])
    have I3 : Inv X ((s.heap.objs.size, oI') :: (S, seqObj "list" #[u, uk] c2) :: (q, PySem.W.methodObj (.ref f) (.ref a)) :: pins) σ H1 { s2 with heap := s2.heap.update S (Obj.mapSeq fun _ => #[u, uk]) } :=
      Inv.repin (pa := [(s.heap.objs.size, oI')]) (t' := s2.toks) I2 fS' (fun b' o hb' e => (sb.2 b' hb').trans e) hc2 (by intro v z; cases z)
    exact wpAny_pure ⟨plainId_quiet PySem.F.plain_max_loop _, max_go (H₁ := H) hh hu B hlI hSI hqI hqS fI fS xs 0 x kv u uk c2 oI' H1 _ rfl hgo hH1 I3 ⟨oI', (sb.2 _ hSI.symm).trans nI2.1, hoc, hod⟩ ru rk⟩
theorem pe_maxK (c : MCal X.prog X.w X.K X.mg X.base CX0 k C m ps ds sp) (b : BM X.K C m) (he : PE X e te) (ho : PE X o ta) (hr : Room j X.A) (hd : Vals dvs ds) (hm : X.mg ("max" : Str) = none) (hk : k + 1 ≤ j := by decide) (hg : Gl X "max" := by rfl)
    (hb : attributeBase o m X.env (eval o X.env) = eval o X.env := by rfl) (hs : starEach [e] X.env = (false, eval e X.env) :: starEach [] X.env := by rfl) :
    PE X (.Call (.Name "max" p) [e] [⟨some "key", .Attribute o m apos, kpos⟩] pos) (tMaxK X.K C m sp dvs te ta) := by
  obtain ⟨f, fd, F, hbi, hme⟩ := c.ex
  obtain ⟨f', ef, kb⟩ := b.ex
  have : f' = f := by have z := hme.at_; rw [ef] at z; injection z with z; injection z with z; injection z
  subst this
  intro pins s σ H Q I h
  refine wpAny_Call_Name_kw (ld_blt I hg hm boot_max ?_)
  have h' : tCons te tNil σ H (fun vs H1 => match vs with
      | [v] => ta σ H1 fun o H2 => ∃ (a dx : Addr) (fs : List (Str × V)) (l : Addr) (all : List V), o = .ref a ∧ H2 a = some (.ins C dx fs) ∧ fs.lookup m = none ∧
          v = .ref l ∧ H2 l = some (.lst all) ∧ mxAll X.K l all (fun x H Q => sp (.ref a :: x :: dvs) H Q E0) all H2 Q
      | _ => False) := h
  refine callWith_kw (thn ((pa_cons he pa_nil hs) pos pins s σ H _ I h') fun us s1 ⟨vs, H1, I1, r1, q1⟩ => ?_) (by rw [hs]; rfl) (by rw [hs]; rfl)
  cases r1 with
  | nil => exact False.elim q1
  | cons ru rr =>
    cases rr with
    | cons _ _ => exact False.elim q1
    | nil =>
      refine kwAll_cons (attr_of hb (thn (ho pins s1 σ H1 _ I1 q1) fun uo s2 ⟨ov, H2, I2, ro, a, dx, fs, l, all, eo, ea, el, ev, eh, hmx⟩ => ?_))
      subst eo
      subst ev
      cases ro
      cases ru
      refine getbnd_ok I2 ea c.cl hme kb el (kwAll_nil ?_)
      have I3 := I2.pinNew (t' := s2.toks + 1) (ob := PySem.W.methodObj (.ref f') (.ref a)) rfl (by intro v z; cases z)
      exact max_run hr (brun_of F (hr.mono hk) hbi hd) I3 eh hmx
end
end L2
namespace L2
open PySem PySem.Spec PyProof.Rows
theorem Inv.unpin {X : Cx} {pins : List (Addr × Obj)} {σ : St} {H H₁ : Hp} {s : Shared} {D : Addr} {xs : List V} {vs : List Value} {n : Nat} (I : Inv X ((D, seqObj "list" vs.toArray n) :: pins) σ H s) (f : FpOk X pins H₁ D) (r : Vals xs vs) (hz : xs.length ≤ sizeLine) : Inv X pins σ (upd H D (.lst xs)) s := by
  have pD := I.pin (D, seqObj "list" vs.toArray n) (List.mem_append_right _ (.head _))
  have I1 : Inv X pins σ H s := I.pins_of fun p hp => I.pin p (List.mem_append_right _ (.tail _ hp))
  have ne : ∀ b o, H b = some o → b ≠ D := fun b o e z => by rw [z, pD.2.1] at e; cases e
  have st := I1.step (h' := s.heap) (H' := upd H D (.lst xs)) (g' := s.gens) (d' := s.drawn) (t' := s.toks) (ch := [D])
    (fun b hb => by rw [List.mem_singleton.mp hb]; exact ⟨f.2.2.2.1, f.2.1, f.2.2.2.2.1, f.2.2.2.2.2⟩)
    (fun b o _ _ _ e _ => e) (fun b o _ _ _ e _ => ⟨o.slots, e⟩) (fun b o hb _ e => by rw [upd_ne (fun z => hb (by simp [z]))]; exact e)
    (fun b o _ e => ⟨o, e⟩) (fun b xs e => by rw [upd_ne (ne b _ e)]; exact e) (fun b o u e => by rw [upd_ne (ne b _ e)]; exact e) (fun b ps e => ⟨#[], by rw [upd_ne (ne b _ e)]; simpa using e⟩)
    (fun m hm => hm) (fun b o e => ?_) I1.bare
  · exact st
  · by_cases hb : b = D
    · subst hb
      rw [upd_same] at e; cases e
      exact ⟨hz, vs, n, r, pD.1⟩
    · rw [upd_ne hb] at e
      exact (I.hok b o e).stay (fun c v hc q => q) (fun c q => (by rw [upd_ne (ne _ _ q)]; exact q)) fun c w q => (by rw [upd_ne (ne _ _ q)]; exact q)
end L2
namespace TS
open PySem PyProof.Rows
local macro_rules | `(tactic| walk_at "sort gallop") => do `(tactic| delta $(Lean.mkIdent (Lean.mkPrivateNameCore `PySem.Builtin.List.W1All `PySem.Builtin.gallop)):ident)
structure Cmp (prog : Program) (w : World) (A : Around) (s : Shared) (kd : SortKind) (a₀ : Array Keyed) (O : KeyOrd) (key : Keyed → O.α) : Prop where
  ask : ∀ x ∈ a₀.toList, ∀ y ∈ a₀.toList, ∀ (Q : Bool → Shared → Prop) (E : Value → Shared → Prop), Q (O.blt (key x) (key y)) s → wpAny (model prog w) A (keyLt' kd x.1 y.1) Q E s
structure SB (kd : SortKind) (a₀ : Array Keyed) (st : SortSt) : Prop where
  kind : kindOf st = kd
  perm : (arrOf st).Perm a₀
  failed : failedOf st = none
section
variable {prog : Program} {w : World} {A : Around} {E : Value → Shared → Prop} {s : Shared} {kd : SortKind} {a₀ : Array Keyed} {O : KeyOrd} {key : Keyed → O.α}
theorem SB.size {st : SortSt} (B : SB kd a₀ st) : (arrOf st).size = a₀.size := B.perm.size_eq
theorem SB.mem {st : SortSt} (B : SB kd a₀ st) {x : Keyed} (h : x ∈ (arrOf st).toList) : x ∈ a₀.toList := (Array.perm_iff_toList_perm.mp B.perm).mem_iff.mp h
theorem wp_lt (C : Cmp prog w A s kd a₀ O key) {st : SortSt} (hk : kindOf st = kd) {x y : Keyed} (hx : x ∈ a₀.toList) (hy : y ∈ a₀.toList) {Q : Option Bool → SortSt → Prop} (h : Q (some (O.blt (key x) (key y))) st) :
    wpS (model prog w) A E s ((sortPriv% PySem.Builtin.lt) x y) Q st := by
  show wpS (model prog w) A E s (lt' x y) Q st
  rw [lt'_eq]
  refine wpS_bind (wpS_get ?_)
  rw [hk]
  exact wpS_bind (wpS_lift (wpAny_attempt (C.ask x hx y hy _ _ ⟨rfl, wpS_pure h⟩)))
theorem wp_elem {arr : Array Keyed} {i : Nat} {x : Keyed} {st : SortSt} {Q : Keyed → SortSt → Prop} (hi : arr[i]? = some x) (h : Q x st) : wpS (model prog w) A E s ((sortPriv% PySem.Builtin.elem) arr i) Q st := by
  show wpS (model prog w) A E s (elem' arr i) Q st
  rw [elem'_eq, hi]
  exact wpS_pure h
def bey (O : KeyOrd) (left : Bool) (k x : O.α) : Bool := if left then O.blt x k else !(O.blt k x)
end
end TS
namespace TS
open PySem PyProof.Rows
local macro_rules | `(tactic| walk_at "sort setMinGallop") => do `(tactic| delta $(Lean.mkIdent (Lean.mkPrivateNameCore `PySem.Builtin.List.W1All `PySem.Builtin.setMinGallop)):ident)
local macro_rules | `(tactic| walk_at "sort mergeLo") => do `(tactic| delta $(Lean.mkIdent (Lean.mkPrivateNameCore `PySem.Builtin.List.W1All `PySem.Builtin.mergeLo)):ident)
section
variable {O : KeyOrd} (key : Keyed → O.α)
def Srt (l : List Keyed) : Prop := l.Pairwise fun x y => O.kle (key x) (key y)
structure Mrg (la lb o : List Keyed) (ia ib : Nat) : Prop where
  perm : (o ++ (la.drop ia ++ lb.drop ib)).Perm (la ++ lb)
  srt : Srt key o
  lea : ∀ x ∈ o, ∀ y ∈ la.drop ia, O.kle (key x) (key y)
  leb : ∀ x ∈ o, ∀ y ∈ lb.drop ib, O.kle (key x) (key y)
def Res (la lb r : List Keyed) : Prop := r.Perm (la ++ lb) ∧ Srt key r
variable {key} {la lb o : List Keyed} {ia ib : Nat} {x : Keyed}
end
section
variable {prog : Program} {w : World} {A : Around} {E : Value → Shared → Prop} {s : Shared} {kd : SortKind} {a₀ : Array Keyed} {O : KeyOrd} {key : Keyed → O.α}
structure Same (st₀ st : SortSt) : Prop where
  kind : kindOf st = kindOf st₀
  arr : arrOf st = arrOf st₀
  pend : pendingOf st = pendingOf st₀
  fail : failedOf st = failedOf st₀
end
end TS
namespace TS
open PySem PyProof.Rows
local macro_rules | `(tactic| walk_at "sort mergeHi") => do `(tactic| delta $(Lean.mkIdent (Lean.mkPrivateNameCore `PySem.Builtin.List.W1All `PySem.Builtin.mergeHi)):ident)
section
variable {O : KeyOrd} (key : Keyed → O.α)
structure MrgH (la lb o : List Keyed) (na nb : Nat) : Prop where
  perm : (la.take na ++ lb.take nb ++ o.reverse).Perm (la ++ lb)
  srt : Srt key o.reverse
  lea : ∀ x ∈ la.take na, ∀ y ∈ o, O.kle (key x) (key y)
  leb : ∀ x ∈ lb.take nb, ∀ y ∈ o, O.kle (key x) (key y)
variable {key} {la lb o : List Keyed} {na nb : Nat} {x : Keyed}
end
section
variable {prog : Program} {w : World} {A : Around} {E : Value → Shared → Prop} {s : Shared} {kd : SortKind} {a₀ : Array Keyed} {O : KeyOrd} {key : Keyed → O.α}
end
end TS
namespace TS
open PySem PyProof.Rows
local macro_rules | `(tactic| walk_at "sort mergeAt") => do `(tactic| delta $(Lean.mkIdent (Lean.mkPrivateNameCore `PySem.Builtin.List.W1All `PySem.Builtin.mergeAt)):ident)
section
variable {O : KeyOrd} {key : Keyed → O.α} {la lb m : List Keyed} {k r : Nat}
end
section
variable {prog : Program} {w : World} {A : Around} {E : Value → Shared → Prop} {s : Shared} {kd : SortKind} {a₀ : Array Keyed} {O : KeyOrd} {key : Keyed → O.α}
end
end TS
namespace TS
open PySem PyProof.Rows
local macro_rules | `(tactic| walk_at "sort ltAt") => do `(tactic| delta $(Lean.mkIdent (Lean.mkPrivateNameCore `PySem.Builtin.List.W1All `PySem.Builtin.ltAt)):ident)
local macro_rules | `(tactic| walk_at "sort countRun") => do `(tactic| delta $(Lean.mkIdent (Lean.mkPrivateNameCore `PySem.Builtin.List.W1All `PySem.Builtin.countRun)):ident)
local macro_rules | `(tactic| walk_at "sort binarySort") => do `(tactic| delta $(Lean.mkIdent (Lean.mkPrivateNameCore `PySem.Builtin.List.W1All `PySem.Builtin.binarySort)):ident)
section
variable {O : KeyOrd} (key : Keyed → O.α)
def Kf (xs : Array Keyed) (i : Nat) : O.α := key (xs.getD i (.none, .none))
def SegS (xs : Array Keyed) (lo n : Nat) : Prop := ∀ i j, lo ≤ i → i ≤ j → j < lo + n → O.kle (Kf key xs i) (Kf key xs j)
def SegD (xs : Array Keyed) (lo n : Nat) : Prop := ∀ i j, lo ≤ i → i ≤ j → j < lo + n → O.kle (Kf key xs j) (Kf key xs i)
variable {key}
theorem Kf_congr {xs ys : Array Keyed} {i j : Nat} (h : xs[i]? = ys[j]?) : Kf key xs i = Kf key ys j := by
  unfold Kf; rw [Array.getD_eq_getD_getElem?, Array.getD_eq_getD_getElem?, h]
theorem Kf_mirror {xs : Array Keyed} {i j : Nat} (hj : j ≤ xs.size) (k : Nat) : Kf key (mirror xs i j ((j - i) / 2)) k = if i ≤ k ∧ k < j then Kf key xs (i + j - 1 - k) else Kf key xs k := by
  have e := getElem?_mirror_all (i := i) hj k
  by_cases h1 : i ≤ k ∧ k < j
  · rw [if_pos h1] at e ⊢; exact Kf_congr e
  · rw [if_neg h1] at e ⊢; exact Kf_congr e
theorem Kf_mirror_equal {xs : Array Keyed} {i j : Nat} (hj : j ≤ xs.size) (heq : ∀ k, i ≤ k → k < j → Kf key xs k = Kf key xs (j - 1)) (k : Nat) : Kf key (mirror xs i j ((j - i) / 2)) k = Kf key xs k := by
  rw [Kf_mirror hj]
  split
  · rw [heq _ (by omega) (by omega), heq k (by omega) (by omega)]
  · rfl
theorem Kf_bubble {xs : Array Keyed} {src d : Nat} (hs : src < xs.size) (hd : d ≤ src) (k : Nat) :
    Kf key (bubble xs src d) k = if k = src - d then Kf key xs src else if src - d < k ∧ k ≤ src then Kf key xs (k - 1) else Kf key xs k := by
  have e := getElem?_bubble hs d hd k
  by_cases h1 : k = src - d
  · rw [if_pos h1] at e ⊢; exact Kf_congr e
  · rw [if_neg h1] at e ⊢
    by_cases h2 : src - d < k ∧ k ≤ src
    · rw [if_pos h2] at e ⊢; exact Kf_congr e
    · rw [if_neg h2] at e ⊢; exact Kf_congr e
end
section
variable {O : KeyOrd} {key : Keyed → O.α}
theorem seg_one {xs : Array Keyed} {lo : Nat} : SegS key xs lo 1 := fun i j h1 h2 h3 => by
  have : i = j := by omega
  subst this; exact KeyOrd.kle_refl _
theorem seg_succ {xs : Array Keyed} {lo x : Nat} (hs : SegS key xs lo x) (hx : 1 ≤ x) (hl : O.blt (Kf key xs (lo + x)) (Kf key xs (lo + x - 1)) = false) : SegS key xs lo (x + 1) := fun i j h1 h2 h3 => by
  by_cases hj : j < lo + x
  · exact hs i j h1 h2 hj
  · have : j = lo + x := by omega
    subst this
    by_cases hi : i = lo + x
    · subst hi; exact KeyOrd.kle_refl _
    · exact KeyOrd.kle_trans (hs i (lo + x - 1) h1 (by omega) (by omega)) hl
theorem segD_succ {xs : Array Keyed} {lo x : Nat} (hs : SegD key xs lo x) (hx : 1 ≤ x) (hl : O.kle (Kf key xs (lo + x)) (Kf key xs (lo + x - 1))) : SegD key xs lo (x + 1) := fun i j h1 h2 h3 => by
  by_cases hj : j < lo + x
  · exact hs i j h1 h2 hj
  · have : j = lo + x := by omega
    subst this
    by_cases hi : i = lo + x
    · subst hi; exact KeyOrd.kle_refl _
    · exact KeyOrd.kle_trans hl (hs i (lo + x - 1) h1 (by omega) (by omega))
theorem segD_congr {xs ys : Array Keyed} {lo x : Nat} (hs : SegD key xs lo x) (h : ∀ k, Kf key ys k = Kf key xs k) : SegD key ys lo x := fun i j h1 h2 h3 => by
  rw [h, h]; exact hs i j h1 h2 h3
theorem segD_mirror {xs : Array Keyed} {lo m : Nat} (hs : SegD key xs lo m) (hz : lo + m ≤ xs.size) : SegS key (mirror xs lo (lo + m) ((lo + m - lo) / 2)) lo m := fun i j h1 h2 h3 => by
  rw [Kf_mirror hz, Kf_mirror hz, if_pos (by omega), if_pos (by omega)]
  exact hs _ _ (by omega) (by omega) (by omega)
end
structure Kp (lo : Nat) (st₀ st : SortSt) : Prop where
  kind : kindOf st = kindOf st₀
  perm : (arrOf st).Perm (arrOf st₀)
  low : ∀ k, k < lo → (arrOf st)[k]? = (arrOf st₀)[k]?
  pend : pendingOf st = pendingOf st₀
  fail : failedOf st = failedOf st₀
theorem Kp.refl {lo : Nat} {st : SortSt} : Kp lo st st := ⟨rfl, Array.Perm.refl _, fun _ _ => rfl, rfl, rfl⟩
theorem Kp.mirror {lo i j : Nat} {st₀ st : SortSt} (h : Kp lo st₀ st) (hi : lo ≤ i) (hj : j ≤ (arrOf st).size) : Kp lo st₀ (setArr st (mirror (arrOf st) i j ((j - i) / 2))) :=
  ⟨h.kind, (mirror_perm _ _ _ _).trans h.perm, fun k hk => by
    refine Eq.trans ?_ (h.low k hk)
    show (PyProof.Rows.mirror (arrOf st) i j ((j - i) / 2))[k]? = _
    rw [getElem?_mirror_all hj, if_neg (by omega)], h.pend, h.fail⟩
theorem Kp.bubble {lo src d : Nat} {st₀ st : SortSt} (h : Kp lo st₀ st) (hs : src < (arrOf st).size) (hd : d + lo ≤ src) : Kp lo st₀ (setArr st (bubble (arrOf st) src d)) :=
  ⟨h.kind, (bubble_perm _ _ _).trans h.perm, fun k hk => by
    refine Eq.trans ?_ (h.low k hk)
    show (PyProof.Rows.bubble (arrOf st) src d)[k]? = _
    rw [getElem?_bubble hs d (by omega), if_neg (by omega), if_neg (by omega)], h.pend, h.fail⟩
section
variable {prog : Program} {w : World} {A : Around} {E : Value → Shared → Prop} {s : Shared} {kd : SortKind} {a₀ : Array Keyed} {O : KeyOrd} {key : Keyed → O.α}
theorem SB.of_kp {lo : Nat} {st₀ st : SortSt} (B : SB kd a₀ st₀) (h : Kp lo st₀ st) : SB kd a₀ st := ⟨h.kind.trans B.kind, h.perm.trans B.perm, h.fail.trans B.failed⟩
theorem wp_ltAt (C : Cmp prog w A s kd a₀ O key) {st : SortSt} (B : SB kd a₀ st) {i j : Nat} (hi : i < a₀.size) (hj : j < a₀.size) {Q : Option Bool → SortSt → Prop} (h : Q (some (O.blt (Kf key (arrOf st) i) (Kf key (arrOf st) j))) st) :
    wpS (model prog w) A E s ((sortPriv% PySem.Builtin.ltAt) i j) Q st := by
  have hz := B.size
  have e1 : (arrOf st)[i]? = some (arrOf st)[i] := getElem?_pos ..
  have e2 : (arrOf st)[j]? = some (arrOf st)[j] := getElem?_pos ..
  walk_at "sort ltAt"
  refine wpS_bind (wpS_get (wpS_bind (wp_elem e1 (wpS_bind (wp_elem e2 (wp_lt C B.kind (B.mem (by simp)) (B.mem (by simp)) ?_))))))
  unfold Kf at h
  rw [Array.getD_eq_getD_getElem?, Array.getD_eq_getD_getElem?, e1, e2] at h
  exact h
theorem wp_reverse {st : SortSt} {i j : Nat} {Q : Unit → SortSt → Prop} (h : Q () (setArr st (mirror (arrOf st) i j ((j - i) / 2)))) : wpS (model prog w) A E s ((sortPriv% PySem.Builtin.reverseSlice) i j) Q st := by
  show wpS (model prog w) A E s (reverseSlice' i j) Q st
  rw [reverseSlice'_eq]
  exact wpS_modify h
theorem wp_moveDown {st : SortSt} {i j : Nat} {Q : Unit → SortSt → Prop} (h : Q () (setArr st (bubble (arrOf st) i (i - j)))) : wpS (model prog w) A E s ((sortPriv% PySem.Builtin.moveDown) i j) Q st := by
  show wpS (model prog w) A E s (moveDown' i j) Q st
  rw [moveDown'_eq]
  exact wpS_modify h
theorem wp_countRun (C : Cmp prog w A s kd a₀ O key) {lo nrem : Nat} {st : SortSt} {Q : Option Nat → SortSt → Prop} (B : SB kd a₀ st) (h1 : 1 ≤ nrem) (hn : lo + nrem ≤ a₀.size)
    (h : ∀ m st', 1 ≤ m → m ≤ nrem → SegS key (arrOf st') lo m → Kp lo st st' → Q (some m) st') : wpS (model prog w) A E s ((sortPriv% PySem.Builtin.countRun) lo nrem) Q st := by
  have hz : (arrOf st).size = a₀.size := B.size
  walk_at "sort countRun"
  refine wpS_bind (wpS_mono (wpS_forRange (I := fun x c st' => st' = st ∧ c = (none, x) ∧ SegS key (arrOf st) lo x)
    (Q := fun c st' => st' = st ∧ ∃ n, c = (none, n) ∧ 1 ≤ n ∧ n ≤ nrem ∧ SegS key (arrOf st) lo n ∧ (n = nrem ∨ O.klt (Kf key (arrOf st) (lo + n)) (Kf key (arrOf st) (lo + n - 1)))) ?step1 ?fin1 ⟨rfl, rfl, seg_one⟩) ?post1)
  case fin1 =>
    rintro c st' ⟨rfl, rfl, hs'⟩
    rw [show max (1) nrem = nrem by omega] at hs' ⊢
    exact ⟨rfl, nrem, rfl, by omega, Nat.le_refl _, hs', .inl rfl⟩
  case step1 =>
    rintro x c st' hax hxn ⟨est, rfl, hs'⟩
    have hax' : 1 ≤ x := hax
    rw [est]
    dsimp only
    refine wpS_bind (wp_ltAt C B (by omega) (by omega) ?_)
    cases hless : O.blt (Kf key (arrOf st) (lo + x)) (Kf key (arrOf st) (lo + x - 1)) with
    | true =>
      simp only [if_true]
      exact wpS_pure ⟨rfl, x, rfl, by omega, by omega, hs', .inr hless⟩
    | false =>
      simp only [Bool.false_eq_true, if_false]
      exact wpS_pure ⟨rfl, rfl, seg_succ hs' (by omega) hless⟩
  case post1 =>
    rintro c st' ⟨est, n, rfl, hn1, hnr, hs, hor⟩
    rw [est]
    extract_lets r0 n0 z0 z1 jp
    have hjp : ∀ st1, Kp lo st st1 → n + 1 ≤ nrem → SegD key (arrOf st1) lo (n + 1) → wpS (model prog w) A E s (jp ()) Q st1 := by
      intro st1 K1 hle hD
      refine wpS_bind (wpS_lift (wpAny_rule ⟨rfl, ?_⟩))
      refine wpS_bind (wpS_mono (wpS_forRange (I := fun x c st' => ∃ neq, c = (none, x, neq) ∧ Kp lo st st' ∧ SegD key (arrOf st') lo x ∧ neq + 1 ≤ x ∧ (∀ i, lo + x - (neq + 1) ≤ i → i < lo + x → Kf key (arrOf st') i = Kf key (arrOf st') (lo + x - 1)))
        (Q := fun c st' => ∃ m neq, c = (none, m, neq) ∧ Kp lo st st' ∧ n + 1 ≤ m ∧ m ≤ nrem ∧ SegD key (arrOf st') lo m ∧ neq + 1 ≤ m ∧ (∀ i, lo + m - (neq + 1) ≤ i → i < lo + m → Kf key (arrOf st') i = Kf key (arrOf st') (lo + m - 1))) ?step2 ?fin2
        ⟨0, rfl, K1, hD, by show 0 + 1 ≤ n + 1; omega, fun i h1 h2 => by congr 1; have : lo + (n + 1) - (0 + 1) ≤ i := h1; have : i < lo + (n + 1) := h2; show i = lo + (n + 1) - 1; omega⟩) ?post2)
      case fin2 =>
        rintro c st' ⟨neq, rfl, K, hD', hq, he⟩
        have hm : max (n + 1) nrem = nrem := by omega
        have hD2 : SegD key (arrOf st') lo (max (n + 1) nrem) := hD'
        have hq2 : neq + 1 ≤ max (n + 1) nrem := hq
        have he2 : ∀ i, lo + max (n + 1) nrem - (neq + 1) ≤ i → i < lo + max (n + 1) nrem → Kf key (arrOf st') i = Kf key (arrOf st') (lo + max (n + 1) nrem - 1) := he
        show ∃ m neq', (none, max (n + 1) nrem, neq) = _ ∧ _
        rw [hm] at hD2 hq2 he2 ⊢
        exact ⟨nrem, neq, rfl, K, hle, Nat.le_refl _, hD2, hq2, he2⟩
      case step2 =>
        rintro x c st' hax hxn ⟨neq, rfl, K, hD', hq, he⟩
        have hax' : n + 1 ≤ x := hax
        have B' := B.of_kp K
        have hz' := B'.size
        dsimp only
        refine wpS_bind (wp_ltAt C B' (by omega) (by omega) ?_)
        cases hless : O.blt (Kf key (arrOf st') (lo + x)) (Kf key (arrOf st') (lo + x - 1)) with
        | true =>
          simp only [if_true]
          have D1 := segD_succ hD' (by omega) (KeyOrd.kle_of_klt hless)
          by_cases hneq : neq > 0
          · rw [if_pos hneq]
            refine wpS_bind (wp_reverse (wpS_pure ⟨0, rfl, K.mirror (by omega) (by omega), segD_congr D1 (Kf_mirror_equal (by omega) he), by omega, fun i h1 h2 => by congr 1; omega⟩))
          · rw [if_neg hneq]
            exact wpS_pure ⟨0, rfl, K, D1, by omega, fun i h1 h2 => by congr 1; omega⟩
        | false =>
          simp only [Bool.false_eq_true, if_false]
          refine wpS_bind (wp_ltAt C B' (by omega) (by omega) ?_)
          cases hlarger : O.blt (Kf key (arrOf st') (lo + x - 1)) (Kf key (arrOf st') (lo + x)) with
          | true =>
            simp only [if_true]
            exact wpS_pure ⟨x, neq, rfl, K, hax', by omega, hD', hq, he⟩
          | false =>
            simp only [Bool.false_eq_true, if_false]
            have heqx : Kf key (arrOf st') (lo + x) = Kf key (arrOf st') (lo + x - 1) := KeyOrd.kle_antisymm hlarger hless
            refine wpS_pure ⟨neq + 1, rfl, K, segD_succ hD' (by omega) (by rw [heqx]; exact KeyOrd.kle_refl _), by omega, fun i h1 h2 => ?_⟩
            rw [show lo + (x + 1) - 1 = lo + x by omega]
            by_cases hix : i = lo + x
            · subst hix; rfl
            · rw [heqx]; exact he i (by omega) (by omega)
      case post2 =>
        rintro c st' ⟨m, neq, rfl, K, hm1, hm2, hD', hq, he⟩
        have B' := B.of_kp K
        have hz' := B'.size
        extract_lets r1 s1 m1 neq1 jp2
        have hjp2 : ∀ st2, Kp lo st st2 → SegD key (arrOf st2) lo m → wpS (model prog w) A E s (jp2 ()) Q st2 := by
          intro st2 K2 hD2
          have B2 := B.of_kp K2
          have hz2 := B2.size
          refine wpS_bind (wp_reverse ?_)
          have K3 : Kp lo st (setArr st2 (mirror (arrOf st2) lo (lo + m) ((lo + m - lo) / 2))) := K2.mirror (Nat.le_refl _) (by omega)
          have S3 : SegS key (arrOf (setArr st2 (mirror (arrOf st2) lo (lo + m) ((lo + m - lo) / 2)))) lo m := segD_mirror hD2 (by omega)
          show wpS _ _ _ _ _ _ (setArr st2 (mirror (arrOf st2) lo (lo + m) ((lo + m - lo) / 2)))
          generalize setArr st2 (mirror (arrOf st2) lo (lo + m) ((lo + m - lo) / 2)) = st3 at K3 S3 ⊢
          have B3 := B.of_kp K3
          refine wpS_bind (wpS_mono (wpS_forRange (I := fun x c st' => st' = st3 ∧ c = (none, x) ∧ SegS key (arrOf st3) lo x)
            (Q := fun c st' => st' = st3 ∧ ∃ n, c = (none, n) ∧ m ≤ n ∧ n ≤ nrem ∧ SegS key (arrOf st3) lo n ∧ (n = nrem ∨ O.klt (Kf key (arrOf st3) (lo + n)) (Kf key (arrOf st3) (lo + n - 1)))) ?step3 ?fin3 ⟨rfl, rfl, S3⟩) ?post3)
          case fin3 =>
            rintro c st' ⟨rfl, rfl, hs'⟩
            rw [show max (m) nrem = nrem by omega] at hs' ⊢
            exact ⟨rfl, nrem, rfl, by omega, Nat.le_refl _, hs', .inl rfl⟩
          case step3 =>
            rintro x c st' hax hxn ⟨est, rfl, hs'⟩
            have hax' : m ≤ x := hax
            rw [est]
            dsimp only
            refine wpS_bind (wp_ltAt C B3 (by omega) (by omega) ?_)
            cases hless : O.blt (Kf key (arrOf st3) (lo + x)) (Kf key (arrOf st3) (lo + x - 1)) with
            | true =>
              simp only [if_true]
              exact wpS_pure ⟨rfl, x, rfl, by omega, by omega, hs', .inr hless⟩
            | false =>
              simp only [Bool.false_eq_true, if_false]
              exact wpS_pure ⟨rfl, rfl, seg_succ hs' (by omega) hless⟩
          case post3 =>
            rintro c st' ⟨rfl, m', rfl, h1', h2', hs', _⟩
            exact wpS_pure (h m' _ (by omega) h2' hs' K3)
        clear_value jp2
        show wpS _ _ _ _ (if neq > 0 then _ else _) _ _
        by_cases hneq : neq > 0
        · rw [if_pos hneq]
          exact wpS_bind (wp_reverse (hjp2 _ (K.mirror (by show lo ≤ lo + m - (neq + 1); omega) (by show lo + m ≤ _; omega)) (segD_congr hD' (Kf_mirror_equal (by show lo + m ≤ _; omega) he))))
        · rw [if_neg hneq]
          exact hjp2 _ K hD'
    clear_value jp
    show wpS _ _ _ _ (if (n == nrem) = true then _ else _) _ _
    by_cases hnn : n = nrem
    · rw [if_pos (by simpa using hnn)]
      exact wpS_pure (h n st hn1 hnr hs Kp.refl)
    rw [if_neg (by simpa using hnn)]
    have hlt : O.klt (Kf key (arrOf st) (lo + n)) (Kf key (arrOf st) (lo + n - 1)) := hor.resolve_left hnn
    show wpS _ _ _ _ (if n > 1 then _ else _) _ _
    by_cases hgt : n > 1
    · rw [if_pos hgt]
      refine wpS_bind (wp_ltAt C B (by omega) (by show lo + n - 1 < _; omega) ?_)
      dsimp only
      show wpS _ _ _ _ (if O.blt (Kf key (arrOf st) lo) (Kf key (arrOf st) (lo + n - 1)) = true then _ else _) _ _
      cases hrose : O.blt (Kf key (arrOf st) lo) (Kf key (arrOf st) (lo + n - 1)) with
      | true =>
        simp only [if_true]
        exact wpS_pure (h n st hn1 hnr hs Kp.refl)
      | false =>
        simp only [Bool.false_eq_true, if_false]
        have hall : ∀ k, lo ≤ k → k < lo + n → Kf key (arrOf st) k = Kf key (arrOf st) (lo + n - 1) := by
          intro k h1 h2
          have a1 := hs lo k (Nat.le_refl _) h1 h2
          have a2 := hs k (lo + n - 1) h1 (by omega) (by omega)
          exact KeyOrd.kle_antisymm a2 (KeyOrd.kle_trans hrose a1)
        refine wpS_bind (wp_reverse (hjp _ (Kp.refl.mirror (Nat.le_refl _) (by show lo + n ≤ _; omega)) (by omega) (segD_congr (segD_succ (fun i j h1 h2 h3 => ?_) hn1 (KeyOrd.kle_of_klt hlt)) (Kf_mirror_equal (by show lo + n ≤ _; omega) hall))))
        rw [hall i h1 (by omega), hall j (by omega) h3]; exact KeyOrd.kle_refl _
    · rw [if_neg hgt]
      have hn1' : n = 1 := by omega
      refine hjp _ Kp.refl (by omega) (segD_succ (fun i j h1 h2 h3 => ?_) hn1 (KeyOrd.kle_of_klt hlt))
      have : i = j := by omega
      subst this; exact KeyOrd.kle_refl _
theorem wp_binarySort (C : Cmp prog w A s kd a₀ O key) {lo n ok : Nat} {st : SortSt} {Q : Bool → SortSt → Prop} (B : SB kd a₀ st) (hok : ok ≤ n) (hn : lo + n ≤ a₀.size) (hs : SegS key (arrOf st) lo ok)
    (h : ∀ st', SegS key (arrOf st') lo n → Kp lo st st' → Q true st') : wpS (model prog w) A E s ((sortPriv% PySem.Builtin.binarySort) lo n ok) Q st := by
  walk_at "sort binarySort"
  refine wpS_bind (wpS_mono (wpS_forRange (I := fun k c st' => c = (none, ()) ∧ Kp lo st st' ∧ SegS key (arrOf st') lo (min k n))
    (Q := fun c st' => c = (none, ()) ∧ Kp lo st st' ∧ SegS key (arrOf st') lo n) ?step ?fin ?init) ?post)
  case post =>
    rintro c st' ⟨rfl, K, hs'⟩
    exact wpS_pure (h st' hs' K)
  case init =>
    refine ⟨rfl, Kp.refl, fun i j h1 h2 h3 => ?_⟩
    by_cases ho : ok = 0
    · have : i = j := by omega
      subst this; exact KeyOrd.kle_refl _
    · exact hs i j h1 h2 (by omega)
  case fin =>
    rintro c st' ⟨hc, K, hs'⟩
    refine ⟨hc, K, ?_⟩
    rwa [show min (max (max ok 1) n) n = n by omega] at hs'
  case step =>
    rintro k c st' hak hkn ⟨rfl, K, hs'⟩
    rw [show min k n = k by omega] at hs'
    have B' := B.of_kp K
    have hz' := B'.size
    refine wpS_bind (wpS_mono (wpS_forRange (I := fun x c st'' => st'' = st' ∧ ∃ l r, c = (none, l, r) ∧ l ≤ r ∧ r ≤ k ∧ r - l ≤ k - x ∧
        (∀ i, lo ≤ i → i < lo + l → O.kle (Kf key (arrOf st') i) (Kf key (arrOf st') (lo + k))) ∧ (∀ i, lo + r ≤ i → i < lo + k → O.klt (Kf key (arrOf st') (lo + k)) (Kf key (arrOf st') i)))
      (Q := fun c st'' => st'' = st' ∧ ∃ l r, c = (none, l, r) ∧ l ≤ k ∧
        (∀ i, lo ≤ i → i < lo + l → O.kle (Kf key (arrOf st') i) (Kf key (arrOf st') (lo + k))) ∧ (∀ i, lo + l ≤ i → i < lo + k → O.klt (Kf key (arrOf st') (lo + k)) (Kf key (arrOf st') i))) ?istep ?ifin ?iinit) ?ipost)
    case iinit => exact ⟨rfl, 0, k, rfl, by omega, by omega, by omega, fun i hi => by omega, fun i h1 h2 => by omega⟩
    case ifin =>
      rintro c st'' ⟨rfl, l, r, rfl, hlr, hrk, hm, hlo, hhi⟩
      have : l = r := by omega
      subst this
      exact ⟨rfl, l, l, rfl, hrk, hlo, hhi⟩
    case istep =>
      rintro x c st'' _ hxk ⟨est, l, r, rfl, hlr, hrk, hm, hlo, hhi⟩
      rw [est]
      dsimp only
      by_cases hge : l ≥ r
      · rw [if_pos hge]
        have : l = r := by omega
        subst this
        exact wpS_pure ⟨rfl, l, l, rfl, hrk, hlo, hhi⟩
      · rw [if_neg hge]
        refine wpS_bind (wp_ltAt C B' (by omega) (by omega) ?_)
        cases hless : O.blt (Kf key (arrOf st') (lo + k)) (Kf key (arrOf st') (lo + (l + r) / 2)) with
        | true =>
          simp only [if_true]
          refine wpS_pure ⟨rfl, l, (l + r) / 2, rfl, by omega, by omega, by omega, hlo, fun i h1 h2 => ?_⟩
          exact KeyOrd.klt_of_klt_of_kle hless (hs' _ _ (by omega) h1 h2)
        | false =>
          simp only [Bool.false_eq_true, if_false]
          refine wpS_pure ⟨rfl, (l + r) / 2 + 1, r, rfl, by omega, by omega, by omega, fun i h1 h2 => ?_, hhi⟩
          exact KeyOrd.kle_trans (hs' i (lo + (l + r) / 2) h1 (by omega) (by omega)) (show O.kle _ _ from hless)
    case ipost =>
      rintro c st'' ⟨est, l, r, rfl, hlk, hlo, hhi⟩
      rw [est]
      dsimp only
      refine wpS_bind (wp_moveDown (wpS_pure ⟨rfl, K.bubble (by omega) (by omega), ?_⟩))
      rw [show min (k + 1) n = k + 1 by omega]
      have hks : lo + k < (arrOf st').size := by omega
      intro i j hi hij hj
      show O.kle (Kf key (bubble (arrOf st') (lo + k) (lo + k - (lo + l))) i) (Kf key (bubble (arrOf st') (lo + k) (lo + k - (lo + l))) j)
      rw [Kf_bubble hks (by omega), Kf_bubble hks (by omega), show lo + k - (lo + k - (lo + l)) = lo + l by omega]
      repeat' split
      all_goals first
        | (exfalso; omega)
        | exact KeyOrd.kle_refl _
        | exact hlo _ (by omega) (by omega)
        | exact KeyOrd.kle_of_klt (hhi _ (by omega) (by omega))
        | exact hs' _ _ (by omega) (by omega) (by omega)
end
end TS
namespace TS
open PySem PyProof.Rows
local macro_rules | `(tactic| walk_at "sort sortRuns") => do `(tactic| delta $(Lean.mkIdent (Lean.mkPrivateNameCore `PySem.Builtin.List.W1All `PySem.Builtin.sortRuns)):ident)
def sp2 (x : Nat × Nat × Nat) : Nat × Nat := (x.1, x.2.1)
inductive Runs {O : KeyOrd} (key : Keyed → O.α) : Nat → List (List Keyed) → List (Nat × Nat) → Prop
  | nil {off : Nat} : Runs key off [] []
  | cons {off : Nat} {r : List Keyed} {rs : List (List Keyed)} {ps : List (Nat × Nat)} : r ≠ [] → Srt key r → Runs key (off + r.length) rs ps → Runs key off (r :: rs) ((off, r.length) :: ps)
section
variable {O : KeyOrd} {key : Keyed → O.α}
theorem seg_srt {xs : Array Keyed} {lo n : Nat} (h : SegS key xs lo n) (hz : lo + n ≤ xs.size) : Srt key ((xs.toList.drop lo).take n) := by
  refine List.pairwise_iff_getElem.mpr fun i j hi hj hij => ?_
  rw [List.length_take, List.length_drop] at hi hj
  have z := h (lo + i) (lo + j) (by omega) (by omega) (by omega)
  unfold Kf at z
  rw [Array.getD_eq_getD_getElem?, Array.getD_eq_getD_getElem?, getElem?_pos xs (lo + i) (by omega), getElem?_pos xs (lo + j) (by omega)] at z
  simpa using z
end
section
variable {prog : Program} {w : World} {A : Around} {E : Value → Shared → Prop} {s : Shared} {kd : SortKind} {a₀ : Array Keyed} {O : KeyOrd} {key : Keyed → O.α}
structure GR (kd : SortKind) (a₀ : Array Keyed) {O : KeyOrd} (key : Keyed → O.α) (rest : List Keyed) (lo : Nat) (st : SortSt) : Prop where
  sb : SB kd a₀ st
  ex : ∃ runs : List (List Keyed), (arrOf st).toList = runs.flatten ++ rest ∧ runs.flatten.length = lo ∧ Runs key 0 runs ((pendingOf st).toList.map sp2)
theorem wp_sortRuns (C : Cmp prog w A s kd a₀ O key) {st : SortSt} {Q : Unit → SortSt → Prop} (B : SB kd a₀ st) (hp : pendingOf st = #[]) (h64 : a₀.size < 64)
    (h : ∀ st', SB kd a₀ st' → Srt key (arrOf st').toList → Q () st') : wpS (model prog w) A E s sortRuns' Q st := by
  have hz := B.size
  have mr : minRun' a₀.size a₀.size 0 = a₀.size := by
    cases e : a₀.size with
    | zero => rfl
    | succ k => rw [minRun'_succ, if_pos (by omega)]
  have kp : ∀ {st1 st2 : SortSt}, SB kd a₀ st1 → Kp 0 st1 st2 → SB kd a₀ st2 := fun b k => ⟨k.kind.trans b.kind, k.perm.trans b.perm, k.fail.trans b.failed⟩
  rw [sortRuns'_eq]; refine wpS_bind (wpS_get ?_); dsimp only; simp only [hz, mr]
  refine wpS_bind (wpS_mono (wpS_forRange (I := fun x c st' => (x = 0 ∧ c = (none, 0) ∧ st' = st) ∨ (1 ≤ x ∧ c = (none, a₀.size) ∧ SB kd a₀ st' ∧ (pendingOf st').size = 1 ∧ SegS key (arrOf st') 0 a₀.size))
    (Q := fun c st' => c = (none, a₀.size) ∧ SB kd a₀ st' ∧ (pendingOf st').size ≤ 1 ∧ SegS key (arrOf st') 0 a₀.size) ?turn ?over (.inl ⟨rfl, rfl, rfl⟩)) ?rest)
  case over =>
    rintro c st' (⟨hx, rfl, rfl⟩ | ⟨_, hc, b, p, g⟩)
    · have e : a₀.size = 0 := by omega
      exact ⟨by rw [e], B, by simp [hp], fun i j _ _ hj => by omega⟩
    · exact ⟨hc, b, by omega, g⟩
  case turn =>
    rintro x c st' _ hx (⟨rfl, rfl, rfl⟩ | ⟨hx1, rfl, b, p, g⟩)
    · dsimp only; rw [if_neg (by omega)]; simp only [Nat.sub_zero, Nat.min_self, Nat.zero_add]
      refine wpS_bind (wp_countRun C B (by omega) (by omega) fun m st2 m1 m2 g2 k2 => ?_); dsimp only
      have b2 := kp B k2
      by_cases lt : m < a₀.size
      · rw [if_pos lt]; refine wpS_bind (wpS_lift (wpAny_rule ⟨rfl, ?_⟩))
        refine wpS_bind (wp_binarySort C b2 m2 (by omega) g2 fun st3 g3 k3 => ?_); simp only [Bool.not_true, Bool.false_eq_true, if_false]
        have pe : pendingOf st3 = #[] := k3.pend.trans (k2.pend.trans hp)
        have bk : (pendingOf st3).back? = none := by rw [pe]; rfl
        refine wpS_bind (wpS_get ?_); rw [bk]; dsimp only
        exact wpS_bind (wpS_modify (wpS_pure (.inr ⟨by omega, rfl, ⟨(kp b2 k3).kind, (kp b2 k3).perm, (kp b2 k3).failed⟩, by show ((pendingOf st3).push _).size = 1; rw [pe]; rfl, g3⟩)))
      · rw [if_neg lt]
        have em : m = a₀.size := by omega
        subst em
        have pe : pendingOf st2 = #[] := k2.pend.trans hp
        have bk : (pendingOf st2).back? = none := by rw [pe]; rfl
        refine wpS_bind (wpS_get ?_); rw [bk]; dsimp only
        exact wpS_bind (wpS_modify (wpS_pure (.inr ⟨by omega, rfl, ⟨b2.kind, b2.perm, b2.failed⟩, by show ((pendingOf st2).push _).size = 1; rw [pe]; rfl, g2⟩)))
    · dsimp only; rw [if_pos (Nat.le_refl _)]; exact wpS_pure ⟨rfl, b, by omega, g⟩
  case rest =>
    rintro c st' ⟨rfl, b, p, g⟩
    dsimp only
    refine wpS_bind (wpS_mono (wpS_forRange (I := fun _ c st2 => st2 = st' ∧ c = (none, ())) (Q := fun c st2 => st2 = st' ∧ c = (none, ())) ?_ (fun _ _ z => z) ⟨rfl, rfl⟩) ?_)
    · rintro x c st2 _ _ ⟨rfl, rfl⟩
      refine wpS_bind (wpS_get ?_); rw [if_pos (show (pendingOf st2).size ≤ 1 from p)]; exact wpS_pure ⟨rfl, rfl⟩
    · rintro c st2 ⟨rfl, rfl⟩
      have z := seg_srt g (by rw [b.size]; omega)
      rw [List.drop_zero, List.take_of_length_le (by rw [Array.length_toList, b.size]; exact Nat.le_refl _)] at z
      exact wpS_pure (h _ b z)
end
end TS
namespace TS
open PySem PyProof.Rows
open HT (lexLt)
open PySem.W (KatLex kat_nil kat_cons kat_yes kat_no kat_one kat_lt)
theorem lt_irr : ∀ x : List Int, lexLt x x = false
  | [] => rfl
  | a :: x => by rw [HT.lexLt_cons, if_pos rfl]; exact lt_irr x
theorem lt_tr : ∀ {x y z : List Int}, lexLt x y = true → lexLt y z = true → lexLt x z = true
  | [], [], _, h, _ => by cases h
  | [], _ :: _, [], _, h => by cases h
  | [], _ :: _, _ :: _, _, _ => rfl
  | _ :: _, [], _, h, _ => by cases h
  | _ :: _, _ :: _, [], _, h => by cases h
  | a :: x, b :: y, c :: z, h1, h2 => by
    rw [HT.lexLt_cons] at h1 h2 ⊢
    by_cases e1 : a = b
    · rw [if_pos e1] at h1
      by_cases e2 : b = c
      · rw [if_pos e2] at h2
        rw [if_pos (e1.trans e2)]
        exact lt_tr h1 h2
      · rw [if_neg e2] at h2
        rw [if_neg (by omega), e1]
        exact h2
    · rw [if_neg e1] at h1
      have l1 : a < b := of_decide_eq_true h1
      by_cases e2 : b = c
      · rw [if_pos e2] at h2
        rw [if_neg (by omega)]
        exact decide_eq_true (by omega)
      · rw [if_neg e2] at h2
        have l2 : b < c := of_decide_eq_true h2
        rw [if_neg (by omega)]
        exact decide_eq_true (by omega)
theorem lt_tri : ∀ {x y : List Int}, x ≠ y → lexLt x y = !lexLt y x
  | [], [], h => absurd rfl h
  | [], _ :: _, _ => rfl
  | _ :: _, [], _ => rfl
  | a :: x, b :: y, h => by
    rw [HT.lexLt_cons, HT.lexLt_cons]
    by_cases e : a = b
    · rw [if_pos e, if_pos e.symm]
      exact lt_tri fun z => h (by rw [e, z])
    · rw [if_neg e, if_neg (Ne.symm e)]
      by_cases l : a < b
      · rw [decide_eq_true l, decide_eq_false (by omega)]; rfl
      · rw [decide_eq_false l, decide_eq_true (by omega)]; rfl
def lexO : KeyOrd where
  α := List Int
  blt := lexLt
  irrefl := lt_irr
  trans := fun _ _ _ h1 h2 => lt_tr h1 h2
  negTrans := fun a b c h => by
    cases q : lexLt a b with
    | true => exact .inl rfl
    | false =>
      refine .inr ?_
      by_cases e : a = b
      · rw [← e]; exact h
      · have z := lt_tri e
        rw [q] at z
        have z' : lexLt b a = true := by simpa using z.symm
        exact lt_tr z' h
  total := fun a b h1 h2 => by
    by_cases e : a = b
    · exact e
    · have z := lt_tri e
      rw [h1, h2] at z; cases z
section
variable {prog : Program} {w : World} {A : Around} {s : Shared}
theorem oneLt_ints (b : Bool) {x y : Int} {t u : Tok} {Q : Bool → Shared → Prop} {E : Value → Shared → Prop} (h : Q (decide (x < y)) s) : wpAny (model prog w) A (oneLt' b (.int x t) (.int y u)) Q E s := by
  cases b with
  | true => exact oneLt_int h
  | false => exact kat_one _ _ (PyProof.Rows.lt_int (show PySem.W.BoolBack Q (.bool (decide (x < y))) s from h))
theorem lex_ask {b : Bool} {Q : Bool → Shared → Prop} : ∀ (ns ms : List Int) {vs us : List Value} (i : Nat) (fin : Bool), IntsAre vs ns → IntsAre us ms → fin = decide (ns.length < ms.length) → Q (lexLt ns ms) s →
    KatLex prog w A b fin Q (vs.zip us) i s
  | [], [], vs, us, i, fin, hv, hu, hf, h => by
    cases hv; cases hu
    rw [hf]; exact kat_nil h
  | [], _ :: _, vs, us, i, fin, hv, hu, hf, h => by
    cases hv; cases hu
    rw [HT.lexLt_nil_cons] at h
    rw [hf]; exact kat_nil (by simpa using h)
  | _ :: _, [], vs, us, i, fin, hv, hu, hf, h => by
    cases hv; cases hu
    rw [HT.lexLt_cons_nil] at h
    rw [hf]; exact kat_nil (by simpa using h)
  | n :: ns, m :: ms, _, _, i, fin, .cons _ t hv, .cons _ u hu, hf, h => by
    rw [List.zip_cons_cons]
    rw [HT.lexLt_cons] at h
    obtain ⟨e, he, hiff⟩ := HT.eqAt_int A s n t m u
    refine kat_cons (he prog w _ _ ?_)
    cases e with
    | true =>
      rw [if_pos (hiff.mp rfl)] at h
      exact kat_yes (lex_ask ns ms (i + 1) fin hv hu (by rw [hf]; simp) h)
    | false =>
      rw [if_neg (fun q => absurd (hiff.mpr q) Bool.false_ne_true)] at h
      exact kat_no (oneLt_ints _ h)
def TupAt (h : Heap) (v : Value) (ns : List Int) : Prop := ∃ a its, v = .ref a ∧ IsTup h a its ∧ IntsAre its.toList ns
theorem TupAt.uniq {h : Heap} {v : Value} {ns ms : List Int} (h1 : TupAt h v ns) (h2 : TupAt h v ms) : ns = ms := by
  obtain ⟨a, its, rfl, ⟨o, e, _, n, d⟩, i1⟩ := h1
  obtain ⟨a', its', ea, ⟨o', e', _, n', d'⟩, i2⟩ := h2
  cases ea
  rw [e] at e'; cases e'
  rw [d] at d'; cases d'
  rw [← i1.nums, ← i2.nums]
open Classical in
noncomputable def tupKey (h : Heap) (x : Keyed) : List Int := if e : ∃ ns, TupAt h x.1 ns then e.choose else []
theorem tupKey_eq {h : Heap} {x : Keyed} {ns : List Int} (t : TupAt h x.1 ns) : tupKey h x = ns := by
  unfold tupKey
  have e : ∃ ns, TupAt h x.1 ns := ⟨ns, t⟩
  rw [dif_pos e]
  exact e.choose_spec.uniq t
theorem cmp_tups {a₀ : Array Keyed} (b : Bool) (h : ∀ x ∈ a₀.toList, ∃ ns, TupAt s.heap x.1 ns) : Cmp prog w A s (tuples' b) a₀ lexO (tupKey s.heap) := by
  refine ⟨fun x hx y hy Q E hq => ?_⟩
  obtain ⟨ns, tx⟩ := h x hx
  obtain ⟨ms, ty⟩ := h y hy
  rw [tupKey_eq tx, tupKey_eq ty] at hq
  obtain ⟨a, its, ea, ⟨o, e, _, n, d⟩, i1⟩ := tx
  obtain ⟨a', its', ea', ⟨o', e', _, n', d'⟩, i2⟩ := ty
  rw [ea, ea']
  refine kat_lt e d e' d' (lex_ask ns ms 0 _ i1 i2 ?_ hq)
  have l1 := i1.length
  have l2 := i2.length
  simp only [Array.length_toList] at l1 l2
  rw [l1, l2]
end
end TS
namespace TS
open PySem PyProof.Rows
open L2 (V Vals RelV)
section
variable {α β γ δ : Type} {R : α → β → Prop}
theorem paired_perm {l l' : List β} (p : l.Perm l') : ∀ {k : List α}, Paired R k l → ∃ k', k'.Perm k ∧ Paired R k' l' := by
  induction p with
  | nil => intro k h; exact ⟨k, .refl _, h⟩
  | cons x _ ih =>
    intro k h
    cases h with
    | cons r t =>
      obtain ⟨k', p', h'⟩ := ih t
      exact ⟨_ :: k', p'.cons _, .cons r h'⟩
  | swap x y l =>
    intro k h
    cases h with
    | cons r t =>
      cases t with
      | cons r' t => exact ⟨_ :: _ :: _, .swap _ _ _, .cons r' (.cons r t)⟩
  | trans _ _ ih1 ih2 =>
    intro k h
    obtain ⟨k1, p1, h1⟩ := ih1 h
    obtain ⟨k2, p2, h2⟩ := ih2 h1
    exact ⟨k2, p2.trans p1, h2⟩
theorem paired_mem {k : List α} {l : List β} (h : Paired R k l) : ∀ p ∈ k, ∃ x ∈ l, R p x := by
  induction h with
  | nil => intro p hp; cases hp
  | cons r _ ih =>
    intro p hp
    rcases List.mem_cons.mp hp with rfl | hp
    · exact ⟨_, .head _, r⟩
    · obtain ⟨x, hx, z⟩ := ih p hp; exact ⟨x, .tail _ hx, z⟩
theorem paired_mem' {k : List α} {l : List β} (h : Paired R k l) : ∀ x ∈ l, ∃ p ∈ k, R p x := by
  induction h with
  | nil => intro p hp; cases hp
  | cons r _ ih =>
    intro p hp
    rcases List.mem_cons.mp hp with rfl | hp
    · exact ⟨_, .head _, r⟩
    · obtain ⟨x, hx, z⟩ := ih p hp; exact ⟨x, .tail _ hx, z⟩
theorem paired_pairwise {S : β → β → Prop} {T : α → α → Prop} (hst : ∀ p q x y, R p x → R q y → S x y → T p q) {k : List α} {l : List β} (h : Paired R k l) : l.Pairwise S → k.Pairwise T := by
  induction h with
  | nil => intro _; exact .nil
  | cons r t ih =>
    intro hp
    obtain ⟨h1, h2⟩ := List.pairwise_cons.mp hp
    refine List.pairwise_cons.mpr ⟨fun q hq => ?_, ih h2⟩
    obtain ⟨y, hy, z⟩ := paired_mem t q hq
    exact hst _ _ _ _ r z (h1 y hy)
theorem paired_zip {R' : γ → δ → Prop} {k : List α} {l : List β} (h : Paired R k l) : ∀ {k' : List γ} {l' : List δ}, Paired R' k' l' → Paired (fun p x => R p.1 x.1 ∧ R' p.2 x.2) (k.zip k') (l.zip l') := by
  induction h with
  | nil => intro k' l' _; exact .nil
  | cons r _ ih =>
    intro k' l' h'
    cases h' with
    | nil => exact .nil
    | cons r' t' => exact .cons ⟨r, r'⟩ (ih t')
theorem paired_reverse {k : List α} {l : List β} (h : Paired R k l) : Paired R k.reverse l.reverse := by
  have app : ∀ {a b : List α} {c d : List β}, Paired R a c → Paired R b d → Paired R (a ++ b) (c ++ d) := by
    intro a b c d h1 h2
    induction h1 with
    | nil => exact h2
    | cons r _ ih => exact .cons r ih
  induction h with
  | nil => exact .nil
  | cons r _ ih =>
    rw [List.reverse_cons, List.reverse_cons]
    exact app ih (.cons r .nil)
theorem paired_map {S : γ → δ → Prop} {f : α → γ} {g : β → δ} (hfg : ∀ p x, R p x → S (f p) (g x)) {k : List α} {l : List β} (h : Paired R k l) : Paired S (k.map f) (l.map g) := by
  induction h with
  | nil => exact .nil
  | cons r _ ih => exact .cons (hfg _ _ r) ih
end
section
variable {prog : Program} {w : World} {A : Around} {E : Value → Shared → Prop} {s : Shared}
theorem tail_run {b : Bool} {st : SortSt} {kS D : Addr} {ks : Array Value} {e e1 : Nat} {P : PySem.Fin → Shared → Prop} (hk : s.heap.get? kS = some (seqObj "list" ks e)) (hD : s.heap.get? D = some (seqObj "list" #[] e1)) (hne : D ≠ kS) (hf : failedOf st = none)
    (hz : ks.size ≤ sizeLine) (hz2 : (arrOf st).size ≤ sizeLine)
    (h : P (.done (.ret .none)) { s with heap := (s.heap.update kS (Obj.mapSeq fun _ => #[])).update D (Obj.mapSeq fun _ => if b = true then ((arrOf st).map (·.2)).reverse else (arrOf st).map (·.2)) }) :
    wpAny (model prog w) A (ksk_tail D b e1 (.ref kS) st) P E s := by
  have s1 := Heap.SameBut.update s.heap kS (Obj.mapSeq fun _ => (#[] : Array Value))
  have hD1 : (s.heap.update kS (Obj.mapSeq fun _ => (#[] : Array Value))).get? D = some (seqObj "list" #[] e1) := (s1.2 D hne).trans hD
  unfold ksk_tail
  dsimp only
  refine wpAny_bind (listUpdate_at hk rfl ?_ hz (Nat.zero_le _))
  refine wpAny_bind (wpAny_letGo ?_)
  refine wpAny_bind (seqEpoch_at hD1 rfl ?_)
  refine wpAny_bind (listUpdate_at hD1 rfl ?_ (Nat.zero_le _) (by
    split
    · rw [Array.size_reverse, Array.size_map]; omega
    · rw [Array.size_map]; omega))
  rw [hf]
  simp only [bne_self_eq_false, Bool.false_eq_true, if_false]
  exact wpAny_pure h
theorem end_run {b : Bool} {kS D : Addr} {ks vs : List Value} {kis : List (List Int)} {all : List V} {e e1 : Nat} {P : PySem.Fin → Shared → Prop} (hk : s.heap.get? kS = some (seqObj "list" ks.toArray e)) (hD : s.heap.get? D = some (seqObj "list" #[] e1)) (hne : D ≠ kS)
    (hK : Paired (fun ns k => TupAt s.heap k ns ∧ ns ≠ []) kis ks) (hV : Vals all vs) (hl : ks.length = vs.length) (hz : vs.length ≤ sizeLine) (h64 : vs.length < 64)
    (h : ∀ (ps : List (List Int × V)) (out : Array Value), ps.Perm (kis.zip all) → ps.Pairwise (fun p q => (if b = true then HT.lexLt p.1 q.1 else HT.lexLt q.1 p.1) = false) → Vals (ps.map (·.2)) out.toList →
      P (.done (.ret .none)) { s with heap := (s.heap.update kS (Obj.mapSeq fun _ => #[])).update D (Obj.mapSeq fun _ => out) }) :
    wpAny (model prog w) A (ksk_end D b vs.toArray e1 (.ref kS) ks.toArray) P E s := by
  have hR := paired_zip hK hV
  have fin : ∀ st : SortSt, failedOf st = none → (arrOf st).toList.Perm (ks.zip vs) → (arrOf st).toList.Pairwise (fun x y => HT.lexLt (tupKey s.heap y) (tupKey s.heap x) = false) → wpAny (model prog w) A (ksk_tail D b e1 (.ref kS) st) P E s := by
    intro st hf hp hs
    obtain ⟨ps, pp, pr⟩ := paired_perm hp.symm hR
    have pw : ps.Pairwise (fun p q => HT.lexLt q.1 p.1 = false) := paired_pairwise (fun p q x y r1 r2 z => by rw [tupKey_eq r1.1.1, tupKey_eq r2.1.1] at z; exact z) pr hs
    have hlen : (arrOf st).size ≤ sizeLine := by
      have := hp.length_eq
      rw [Array.length_toList, List.length_zip] at this; omega
    have pm : Vals (ps.map (·.2)) ((arrOf st).toList.map (·.2)) := paired_map (fun p x r => r.2) pr
    refine tail_run hk hD hne hf (by rw [List.size_toArray]; omega) hlen ?_
    cases b with
    | false =>
      simp only [Bool.false_eq_true, if_false]
      exact h ps _ pp (by simpa using pw) (by rw [Array.toList_map]; exact pm)
    | true =>
      simp only [if_true]
      refine h ps.reverse _ ((List.reverse_perm ps).trans pp) ?_ ?_
      · simp only [if_true]
        rw [List.pairwise_reverse]; exact pw
      · rw [List.map_reverse, Array.toList_reverse, Array.toList_map]
        exact paired_reverse pm
  have step : ∀ t : Sem PySem.Fin, wpAny (model prog w) A t P E s → wpAny (model prog w) A (if b = true then (do let _ ← rule "list.sort.reverse"; t) else t) P E s := by
    intro t ht
    split
    · exact wpAny_bind (wpAny_rule ht)
    · exact ht
  have hz0 : (if b = true then (ks.toArray.zip vs.toArray).reverse else ks.toArray.zip vs.toArray).toList.Perm (ks.zip vs) := by
    split
    · rw [Array.toList_reverse, ksk_zip]; exact List.reverse_perm _
    · rw [ksk_zip]
  unfold ksk_end
  dsimp only
  refine step _ ?_
  by_cases h2 : vs.toArray.size < 2
  · rw [if_pos h2, if_pos h2]
    refine wpAny_bind (wpAny_pure ?_)
    refine wpAny_bind (wpAny_pure ?_)
    refine fin _ rfl hz0 ?_
    have hlz := hz0.length_eq
    rw [List.length_zip] at hlz
    rw [List.size_toArray] at h2
    show List.Pairwise _ (if b = true then (ks.toArray.zip vs.toArray).reverse else ks.toArray.zip vs.toArray).toList
    generalize (if b = true then (ks.toArray.zip vs.toArray).reverse else ks.toArray.zip vs.toArray).toList = zs at hlz
    match zs, hlz with
    | [], _ => exact .nil
    | [_], _ => exact List.pairwise_singleton _ _
    | _ :: _ :: _, hlz => simp at hlz; omega
  · rw [if_neg h2, if_neg h2]
    have hT : ∃ fs : List Value, PySem.W.KatTups s.heap ks fs ∧ fs.length = ks.length ∧ ∀ v ∈ fs, ∃ n t, v = .int n t := by
      clear hR fin hz0 hl h hk h2 hz
      induction hK with
      | nil => exact ⟨[], PySem.W.KatTups.nil, rfl, by simp⟩
      | cons r _ ih =>
        obtain ⟨fs, t, l, q⟩ := ih
        obtain ⟨⟨a, its, rfl, ⟨o, e, c, n, d⟩, i⟩, ne⟩ := r
        obtain ⟨ai⟩ := its
        cases i with
        | nil => exact absurd rfl ne
        | cons m tk i =>
          refine ⟨.int m tk :: fs, PySem.W.KatTups.cons e c d rfl t, by rw [List.length_cons, List.length_cons, l], fun v hv => ?_⟩
          rcases List.mem_cons.mp hv with rfl | hv
          · exact ⟨m, tk, rfl⟩
          · exact q v hv
    obtain ⟨fs, tf, lf, qf⟩ := hT
    rw [List.size_toArray] at h2
    refine wpAny_bind (PySem.W.kat_kind (T := .type "int") tf (by omega) (fun v hv => ?_) (by decide) ?_)
    · obtain ⟨n, t, rfl⟩ := qf v hv
      exact .now
    · have C : Cmp prog w A s (tuples' (Value.type "int" != Value.type "tuple")) (if b = true then (ks.toArray.zip vs.toArray).reverse else ks.toArray.zip vs.toArray) lexO (tupKey s.heap) := by
        refine cmp_tups _ fun x hx => ?_
        obtain ⟨p, hp, r⟩ := paired_mem' hR x (hz0.mem_iff.mp hx)
        exact ⟨p.1, r.1.1⟩
      refine wpAny_bind (wpAny_mono (wp_sortRuns (E := E) C (st := SortSt.mk' _ _ #[] 7 none) ⟨rfl, Array.Perm.refl _, rfl⟩ rfl (by have z := hz0.length_eq; rw [List.length_zip, Array.length_toList] at z; omega) (Q := fun _ st' => SB (tuples' (Value.type "int" != Value.type "tuple")) (if b = true then (ks.toArray.zip vs.toArray).reverse else ks.toArray.zip vs.toArray) st' ∧ Srt (O := lexO) (tupKey s.heap) (arrOf st').toList) fun st' B' S' => ⟨B', S'⟩) ?_ fun _ _ x => x)
      rintro ⟨⟨⟩, st'⟩ s' ⟨rfl, B', S'⟩
      exact fin st' B'.failed ((Array.perm_iff_toList_perm.mp B'.perm).trans hz0) S'
end
end TS
namespace L2
open PySem PySem.Spec PyProof.Rows TS
def skGo (sp : V → Hp → VK → Prop) : List V → List V → Hp → (List V → Hp → Prop) → Prop
  | [], ks, H, F => F ks H
  | x :: xs, ks, H, F => sp x H fun k H1 => skGo sp xs (ks ++ [k]) H1 F
def skEnd (K : PySem.W.Frag) (b : Bool) (all : List V) (G : List V → Hp → Prop) (ks : List V) (H : Hp) : Prop :=
  ∃ kis : List (List Int), Paired (fun ns k => ∃ t, k = V.ref t ∧ SqT K H t (ns.map V.int) ∧ ns ≠ []) kis ks ∧ all.length < 64 ∧
    ∀ ps : List (List Int × V), ps.Perm (kis.zip all) → ps.Pairwise (fun p q => (if b = true then HT.lexLt p.1 q.1 else HT.lexLt q.1 p.1) = false) → G (ps.map (·.2)) H
def BRunA (X : Cx) (A : Around) (q f a : Addr) (sp : V → Hp → VK → Prop) : Prop := ∀ (pins : List (Addr × Obj)) (s : Shared) (σ : St) (H : Hp) (Q : VK) (x : V) (u : Value), Inv X pins σ H s → (q, PySem.W.methodObj (.ref f) (.ref a)) ∈ pins → RelV x u → sp x H Q →
  wpAny (model X.prog X.w) A (call (.ref q) [u]) (EP X pins σ Q) (fun _ _ => False) s
theorem brunA_of {X : Cx} {k : Nat} {f : Addr} {fd : FuncData} {ps : List Str} {sp : Sp} {dvs : List V} {ds : List Value} {q a : Addr} (F : FnOk X.prog X.w X.K X.mg X.base CX0 k f fd ps sp) (hr : Room (k + 1 + 1) X.A) (hb : Binds X.K fd ps ds) (hd : Vals dvs ds) :
    BRunA X X.A.in1.in1 q f a fun x H Q => sp (.ref a :: x :: dvs) H Q E0 := by
  intro pins s σ H Q x u I hq rx h
  have r2 : Vals (.ref a :: x :: dvs) ([.ref a, u] ++ ds) := .cons rfl (.cons rx hd)
  have hl : ([.ref a, u] ++ ds).length = ps.length := by rw [← r2.length]; exact F.len _ _ _ _ h
  have ho := (I.pin _ (List.mem_append_right _ hq)).1
  refine wpAny_call (PySem.W.method_call ho ?_)
  refine codeAny_mono (F.run X.A.in1.in1 X.stack s H ⟨[.ref a, u], []⟩ ([.ref a, u] ++ ds) (.ref a :: x :: dvs) Q E0 hr.in1.in1 I.env0.in1.in1 (hb s [.ref a, u] I.kIn hl) r2 h) fun r s' hq => ?_
  match r, hq with
  | .error e, hq => exact False.elim hq
  | .ok (.ret u), hq => exact I.after hq
  | .ok .next, hq => exact False.elim hq
  | .ok .brk, hq => exact False.elim hq
  | .ok .cont, hq => exact False.elim hq
section
variable {X : Cx} {A : Around} {E : Value → Shared → Prop} {pins : List (Addr × Obj)} {σ : St} {q f a kS D : Addr} {oD : Obj} {sp : V → Hp → VK → Prop} {H₁ : Hp} {F : List V → Hp → Prop}
theorem keys_go (B : BRunA X A q f a sp) (hKD : D ≠ kS) (hKq : q ≠ kS) (fK : FpOk X pins H₁ kS) {body : Value → PUnit → Sem (ForInStep PUnit)}
    (hb : ∀ (x : Value) (s : Shared) (R : Value → Shared → Prop), wpAny (model X.prog X.w) A (call (.ref q) [x]) (fun k s' => ∃ (kus : List Value) (e : Nat), s'.heap.get? kS = some (seqObj "list" kus.toArray e) ∧ kus.length ≤ sizeLine ∧ R k { s' with heap := s'.heap.update kS (Obj.mapSeq (·.push k)) }) (fun _ _ => False) s →
      wpAny (model X.prog X.w) A (body x ⟨⟩) (fun r s' => r = .yield ⟨⟩ ∧ ∃ k, R k s') E s) :
    ∀ (r : List V) (us : List Value) (ks : List V) (kus : List Value) (e : Nat) (H : Hp) (s : Shared), Vals r us → Vals ks kus → ks.length + r.length ≤ sizeLine → skGo sp r ks H F →
      Inv X ((kS, seqObj "list" kus.toArray e) :: (D, oD) :: (q, PySem.W.methodObj (.ref f) (.ref a)) :: pins) σ H s →
      wpAny (model X.prog X.w) A (forIn us PUnit.unit body) (fun _ s' => ∃ ks' kus' e' H', Vals ks' kus' ∧ ks'.length = ks.length + r.length ∧ Inv X ((kS, seqObj "list" kus'.toArray e') :: (D, oD) :: (q, PySem.W.methodObj (.ref f) (.ref a)) :: pins) σ H' s' ∧ F ks' H') E s := by
  intro r
  induction r with
  | nil =>
    intro us ks kus e H s hr hk hz h I
    cases hr
    rw [List.forIn_nil]
    exact wpAny_pure ⟨ks, kus, e, H, hk, rfl, I, h⟩
  | cons x r ih =>
    intro us ks kus e H s hr hk hz h I
    cases hr with
    | cons r1 t =>
      rename_i u us
      rw [List.forIn_cons]
      have hz' : ks.length + (r.length + 1) ≤ sizeLine := hz
      refine wpAny_bind (wpAny_mono (hb u s (fun k s'' => ∃ kv H1 e', RelV kv k ∧ Inv X ((kS, seqObj "list" (kus ++ [k]).toArray e') :: (D, oD) :: (q, PySem.W.methodObj (.ref f) (.ref a)) :: pins) σ H1 s'' ∧ skGo sp r (ks ++ [kv]) H1 F) ?_) (fun rr s' hq => ?_) fun _ _ x => x)
      · refine wpAny_mono (B _ s σ H _ x u I (.tail _ (.tail _ (.head _))) r1 h) (fun k s' he => ?_) fun _ _ x => x
        obtain ⟨kv, H1, I2, rk, hgo⟩ := he
        have nk := I2.pin (kS, seqObj "list" kus.toArray e) (List.mem_append_right _ (.head _))
        have sb := Heap.SameBut.update s'.heap kS (Obj.mapSeq (·.push k))
        have ea : kus.toArray.push k = (kus ++ [k]).toArray := by simp
        obtain ⟨c2, hc2⟩ : ∃ c2, (s'.heap.update kS (Obj.mapSeq (·.push k))).get? kS = some (seqObj "list" (kus ++ [k]).toArray c2) := ⟨_, by rw [← ea]; exact get?_update_seq nk.1 (·.push k)⟩
        have fK' : FpOk X ([] ++ ((D, oD) :: (q, PySem.W.methodObj (.ref f) (.ref a)) :: pins)) H₁ kS := fK.more (pa := [(D, oD), (q, PySem.W.methodObj (.ref f) (.ref a))]) (by simp [hKD, hKq])
        exact ⟨kus, e, nk.1, by rw [← hk.length]; omega, kv, H1, c2, rk, Inv.repin (pa := []) (t' := s'.toks) I2 fK' (fun b' o hb' e' => (sb.2 b' hb').trans e') hc2 (by intro v z; cases z), hgo⟩
      · obtain ⟨rfl, k, kv, H1, e', rk, I3, hgo⟩ := hq
        show wpAny (model X.prog X.w) A (forIn us PUnit.unit body) _ E s'
        refine wpAny_mono (ih us (ks ++ [kv]) (kus ++ [k]) e' H1 s' t (hk.append (.cons rk .nil)) (by simp; omega) hgo I3) (fun _ s4 hd => ?_) fun _ _ x => x
        obtain ⟨ks', kus', e4, H', v', l', I', f'⟩ := hd
        exact ⟨ks', kus', e4, H', v', by rw [l']; simp; omega, I', f'⟩
theorem tree_run {b : Bool} {all : List V} {vs : List Value} {n : Nat} {H : Hp} {s : Shared} {G : List V → Hp → Prop} (B : BRunA X A q f a sp) (hqD : q ≠ D) (fD : FpOk X pins H₁ D) (hV : Vals all vs) (hz : vs.length ≤ sizeLine)
    (I : Inv X ((D, seqObj "list" vs.toArray n) :: (q, PySem.W.methodObj (.ref f) (.ref a)) :: pins) σ H s) (h : skGo sp all [] H (skEnd X.K b all G)) :
    wpAny (model X.prog X.w) A (ksk_tree D (.ref q) b) (fun fin s' => fin = .done (.ret .none) ∧ ∃ out outv n' H', Vals out outv ∧ out.length ≤ sizeLine ∧ Inv X ((D, seqObj "list" outv.toArray n') :: (q, PySem.W.methodObj (.ref f) (.ref a)) :: pins) σ H' s' ∧ G out H') E s := by
  have nD := I.pin (D, seqObj "list" vs.toArray n) (List.mem_append_right _ (.head _))
  have nq := I.pin (q, PySem.W.methodObj (.ref f) (.ref a)) (List.mem_append_right _ (.tail _ (.head _)))
  have s1 := Heap.SameBut.update s.heap D (Obj.mapSeq fun _ => (#[] : Array Value))
  obtain ⟨e1, ho1⟩ : ∃ e1, (s.heap.update D (Obj.mapSeq fun _ => (#[] : Array Value))).get? D = some (seqObj "list" #[] e1) := ⟨_, get?_update_seq nD.1 fun _ => #[]⟩
  have fD' : FpOk X ([] ++ ((q, PySem.W.methodObj (.ref f) (.ref a)) :: pins)) H₁ D := fD.more (pa := [(q, PySem.W.methodObj (.ref f) (.ref a))]) (by simp [hqD])
  have I1 : Inv X ((D, seqObj "list" #[] e1) :: (q, PySem.W.methodObj (.ref f) (.ref a)) :: pins) σ H { s with heap := s.heap.update D (Obj.mapSeq fun _ => #[]) } :=
    Inv.repin (pa := []) (t' := s.toks) I fD' (fun b' o hb' e' => (s1.2 b' hb').trans e') ho1 (by intro v z; cases z)
  unfold ksk_tree
  refine wpAny_bind (listItems_at nD.1 rfl ?_)
  refine wpAny_bind (listUpdate_at nD.1 rfl ?_ (by rw [List.size_toArray]; omega) (Nat.zero_le _))
  refine wpAny_bind (seqEpoch_at ho1 rfl ?_)
  refine wpAny_bind (wpAny_newTuple ?_ (by show vs.length ≤ _; omega))
  have I2 : Inv X ((D, seqObj "list" #[] e1) :: (q, PySem.W.methodObj (.ref f) (.ref a)) :: pins) σ H { s with heap := (s.heap.update D (Obj.mapSeq fun _ => #[])).push (seqObj "tuple" vs.toArray 0) } := I1.kept (t' := s.toks) fun b u e => Heap.get?_push_of_some _ e
  refine wpAny_bind (wpAny_newList ?_ (Nat.zero_le _))
  refine wpAny_holding ?_
  have I3 := I2.pinNew (t' := s.toks) (ob := seqObj "list" #[] 0) rfl (by intro v z; cases z)
  have fK : FpOk X pins H ((s.heap.update D (Obj.mapSeq fun _ => #[])).push (seqObj "tuple" vs.toArray 0)).objs.size := by
    have I0 : Inv X pins σ H { s with heap := (s.heap.update D (Obj.mapSeq fun _ => #[])).push (seqObj "tuple" vs.toArray 0) } := I2.pins_of fun p hp => I2.pin p (List.mem_append_right _ (.tail _ (.tail _ hp)))
    exact I0.fpOk (Nat.le_refl _) (I0.hok.fresh (Nat.le_refl _))
  have hDk : D ≠ ((s.heap.update D (Obj.mapSeq fun _ => #[])).push (seqObj "tuple" vs.toArray 0)).objs.size := Nat.ne_of_lt (Heap.lt_size (I2.pin (D, seqObj "list" #[] e1) (List.mem_append_right _ (.head _))).1)
  have hqk : q ≠ ((s.heap.update D (Obj.mapSeq fun _ => #[])).push (seqObj "tuple" vs.toArray 0)).objs.size := Nat.ne_of_lt (Heap.lt_size (I2.pin (q, PySem.W.methodObj (.ref f) (.ref a)) (List.mem_append_right _ (.tail _ (.head _)))).1)
  show wpAny _ _ (ksk_rest D (.ref q) b vs.toArray e1 (.ref ((s.heap.update D (Obj.mapSeq fun _ => #[])).push (seqObj "tuple" vs.toArray 0)).objs.size)) _ _ { s with heap := ((s.heap.update D (Obj.mapSeq fun _ => #[])).push (seqObj "tuple" vs.toArray 0)).push (seqObj "list" #[] 0) }
  have I3' : Inv X ((((s.heap.update D (Obj.mapSeq fun _ => #[])).push (seqObj "tuple" vs.toArray 0)).objs.size, seqObj "list" ([] : List Value).toArray 0) :: (D, seqObj "list" #[] e1) :: (q, PySem.W.methodObj (.ref f) (.ref a)) :: pins) σ H { s with heap := ((s.heap.update D (Obj.mapSeq fun _ => #[])).push (seqObj "tuple" vs.toArray 0)).push (seqObj "list" #[] 0) } := I3
  generalize ((s.heap.update D (Obj.mapSeq fun _ => #[])).push (seqObj "tuple" vs.toArray 0)).objs.size = kS at *
  generalize ({ s with heap := ((s.heap.update D (Obj.mapSeq fun _ => #[])).push (seqObj "tuple" vs.toArray 0)).push (seqObj "list" #[] 0) } : Shared) = s3 at *
  unfold ksk_rest
  refine wpAny_bind (wpAny_rule ?_)
  rw [← Array.forIn_toList]
  refine wpAny_bind (wpAny_mono (keys_go (F := skEnd X.K b all G) (E := E) B hDk hqk fK (fun x s R hx => ?_) all vs [] [] 0 H s3 hV .nil (by rw [hV.length]; simpa using hz) h I3') (fun _ s4 hd => ?_) fun _ _ x => x)
  · refine wpAny_bind (wpAny_attempt (wpAny_mono hx (fun k s'' hk => ?_) fun _ _ hF => hF.elim))
    obtain ⟨kus, e, hk1, hk2, hR⟩ := hk
    dsimp only
    refine wpAny_bind (listUpdate_at hk1 rfl ?_ (by rw [List.size_toArray]; omega) (by rw [Array.size_push, List.size_toArray]; omega))
    exact wpAny_pure ⟨rfl, k, hR⟩
  · obtain ⟨ks, kus, e, H', hv', hl', I4, kis, hP, h64, hG⟩ := hd
    have nk := I4.pin (kS, seqObj "list" kus.toArray e) (List.mem_append_right _ (.head _))
    have nD4 := I4.pin (D, seqObj "list" #[] e1) (List.mem_append_right _ (.tail _ (.head _)))
    refine wpAny_bind (listItems_at nk.1 rfl ?_)
    have hlen : kus.length = vs.length := by rw [← hv'.length, hl', hV.length]; simp
    have hK : Paired (fun ns k => TupAt s4.heap k ns ∧ ns ≠ []) kis kus := by
      clear hG hl' hlen nk
      have key : ∀ {kis : List (List Int)} {ks : List V} {kus : List Value}, Paired (fun ns k => ∃ t, k = V.ref t ∧ SqT X.K H' t (ns.map V.int) ∧ ns ≠ []) kis ks → Vals ks kus → Paired (fun ns k => TupAt s4.heap k ns ∧ ns ≠ []) kis kus := by
        intro kis ks kus hp
        induction hp generalizing kus with
        | nil => intro hv; cases hv; exact .nil
        | cons r _ ih =>
          intro hv
          cases hv with
          | cons r1 t =>
            obtain ⟨tt, rfl, sq, ne⟩ := r
            cases r1
            obtain ⟨it, rr, pt, _⟩ := I4.tuple sq
            exact .cons ⟨⟨tt, _, rfl, pt, intsAre_of rr⟩, ne⟩ (ih t)
      exact key hP hv'
    refine end_run nk.1 nD4.1 hDk hK hV hlen hz (by rw [← hV.length]; exact h64) fun ps out pp pw pv => ⟨rfl, ps.map (·.2), out.toList, ?_⟩
    have sa := Heap.SameBut.update s4.heap kS (Obj.mapSeq fun _ => (#[] : Array Value))
    have hD5 : (s4.heap.update kS (Obj.mapSeq fun _ => (#[] : Array Value))).get? D = some (seqObj "list" #[] e1) := (sa.2 D hDk).trans nD4.1
    have sb := Heap.SameBut.update (s4.heap.update kS (Obj.mapSeq fun _ => (#[] : Array Value))) D (Obj.mapSeq fun _ => out)
    obtain ⟨c2, hc2⟩ : ∃ c2, ((s4.heap.update kS (Obj.mapSeq fun _ => (#[] : Array Value))).update D (Obj.mapSeq fun _ => out)).get? D = some (seqObj "list" out c2) := ⟨_, get?_update_seq hD5 fun _ => out⟩
    have I5 : Inv X ((D, seqObj "list" #[] e1) :: (q, PySem.W.methodObj (.ref f) (.ref a)) :: pins) σ H' s4 := I4.pins_of fun p hp => I4.pin p (List.mem_append_right _ (.tail _ hp))
    have fK' := fK.more (pa := [(D, seqObj "list" #[] e1), (q, PySem.W.methodObj (.ref f) (.ref a))]) (by simp [hDk, hqk])
    have I6 := I5.turned (t' := s4.toks) (h' := s4.heap.update kS (Obj.mapSeq fun _ => #[])) (it := kS) (fun b' o hb' e' => (sa.2 b' hb').trans e') nk.2.1 fK'.2.1 fK'.2.2.2.1 fK'.2.2.2.2.1 fK'.2.2.2.2.2
    have I7 : Inv X ((D, seqObj "list" out.toList.toArray c2) :: (q, PySem.W.methodObj (.ref f) (.ref a)) :: pins) σ H' { s4 with heap := (s4.heap.update kS (Obj.mapSeq fun _ => #[])).update D (Obj.mapSeq fun _ => out) } :=
      Inv.repin (s := { s4 with heap := s4.heap.update kS (Obj.mapSeq fun _ => #[]) }) (pa := []) (t' := s4.toks) I6 fD' (fun b' o hb' e' => (sb.2 b' hb').trans e') (by simpa using hc2) (by intro v z; cases z)
    exact ⟨c2, H', pv, by
      have := pp.length_eq
      rw [List.length_zip] at this
      rw [List.length_map, this, hV.length]; omega, I7, hG ps pp pw⟩
end
end L2
namespace L2
open PySem PySem.Spec PyProof.Rows TS
def tSortK (K : PySem.W.Frag) (C : Addr) (m : Str) (sp : Sp) (dvs : List V) (b : Bool) (te ta : TE) : TE := fun σ H Q => te σ H fun v H1 => ta σ H1 fun o H2 => ∃ (a dx : Addr) (fs : List (Str × V)) (l : Addr) (all : List V), o = .ref a ∧ H2 a = some (.ins C dx fs) ∧ fs.lookup m = none ∧
  v = .ref l ∧ H2 l = some (.lst all) ∧ skGo (fun x H Q => sp (.ref a :: x :: dvs) H Q E0) all [] H2 (skEnd K b all fun out H' => ∀ D, H' D = none → Q (.ref D) (upd H' D (.lst out)))
section
variable {X : Cx} {k j : Nat} {C : Addr} {ps : List Str} {sp : Sp} {dvs : List V} {ds : List Value} {m : Str} {p pos apos kpos rpos cpos : Pos} {e o : Expr} {te ta : TE}
theorem sorted_run {pins : List (Addr × Obj)} {σ : St} {H : Hp} {s : Shared} {q f a l : Addr} {all : List V} {sp : V → Hp → VK → Prop} {Q : VK} {kw : List (Str × Value)} {b : Bool} (ha1 : argsOk "sorted" ⟨[.ref l], kw⟩) (ha2 : ∀ x, argsOk "list.sort" ⟨[.ref x], kw⟩)
    (ht : ∀ x, Builtin.«list.sort» ⟨[.ref x], kw⟩ = ksk_tree x (.ref q) b) (B : BRunA X X.A.in1.in1 q f a sp) (I : Inv X ((q, PySem.W.methodObj (.ref f) (.ref a)) :: pins) σ H s) (hH : H l = some (.lst all))
    (h : skGo sp all [] H (skEnd X.K b all fun out H' => ∀ D, H' D = none → Q (.ref D) (upd H' D (.lst out)))) : wpAny (model X.prog X.w) X.A (call (.builtin "sorted") [.ref l] kw) (EP X pins σ Q) X.xe s := by
  obtain ⟨vs, n, hV, hl, hz⟩ := I.lst hH
  have hz' : vs.length ≤ sizeLine := by rw [← hV.length]; exact hz
  have hls : s.heap.IsList l vs.toArray := ⟨_, hl, rfl, n, rfl⟩
  refine call_function_entry_kw kind_sorted plain_sorted entry_sorted ha1 ?_
  unfold Builtin.«sorted»
  refine wpAny_bind (m := checkCount "sorted" 1 1 _) (wpAny_pure ?_)
  refine wpAny_bind (collect_list hls ?_ hz')
  have keep0 : ∀ b o, s.heap.get? b = some o → ((s.heap.push (seqObj "list" #[] 0)).update s.heap.objs.size (Obj.mapSeq (· ++ vs.toArray))).get? b = some o := fun b o q => by
    have hlt : b < s.heap.objs.size := Heap.lt_size q
    rw [Heap.get?_update_ne _ _ _ _ (Nat.ne_of_lt hlt), Heap.get?_push_ne _ _ _ (Nat.ne_of_lt hlt)]
    exact q
  have I1 : Inv X ((q, PySem.W.methodObj (.ref f) (.ref a)) :: pins) σ H { s with heap := (s.heap.push (seqObj "list" #[] 0)).update s.heap.objs.size (Obj.mapSeq (· ++ vs.toArray)) } := I.kept (t' := s.toks) keep0
  refine wpAny_bind (wpAny_newList ?_ hz')
  have I2 := I1.pinNew (t' := s.toks) (ob := seqObj "list" vs.toArray 0) rfl (by intro v z; cases z)
  have I0 : Inv X pins σ H { s with heap := (s.heap.push (seqObj "list" #[] 0)).update s.heap.objs.size (Obj.mapSeq (· ++ vs.toArray)) } := I1.pins_of fun p hp => I1.pin p (List.mem_append_right _ (.tail _ hp))
  have fD : FpOk X pins H ((s.heap.push (seqObj "list" #[] 0)).update s.heap.objs.size (Obj.mapSeq (· ++ vs.toArray))).objs.size := I0.fpOk (Nat.le_refl _) (I0.hok.fresh (Nat.le_refl _))
  have hqD : q ≠ ((s.heap.push (seqObj "list" #[] 0)).update s.heap.objs.size (Obj.mapSeq (· ++ vs.toArray))).objs.size := Nat.ne_of_lt (Heap.lt_size (I1.pin (q, PySem.W.methodObj (.ref f) (.ref a)) (List.mem_append_right _ (.head _))).1)
  have nD := I2.pin (((s.heap.push (seqObj "list" #[] 0)).update s.heap.objs.size (Obj.mapSeq (· ++ vs.toArray))).objs.size, seqObj "list" vs.toArray 0) (List.mem_append_right _ (.head _))
  refine wpAny_bind (wpAny_holding (wpAny_call_entry_kw PyProof.Rows.slot_list_sort ⟨_, nD.1, rfl⟩ PyProof.Rows.entry_list_sort ?body (ha2 _)))
  case body =>
    rw [ht]
    refine wpAny_mono (tree_run B hqD fD hV hz' I2 h) (fun fin s' hq => ?_) fun _ _ x => x
    obtain ⟨rfl, out, outv, n', H', v', lz, I', hG⟩ := hq
    refine ⟨_, rfl, wpAny_pure ⟨_, rfl, ?_⟩⟩
    have I3 : Inv X ((((s.heap.push (seqObj "list" #[] 0)).update s.heap.objs.size (Obj.mapSeq (· ++ vs.toArray))).objs.size, seqObj "list" outv.toArray n') :: pins) σ H' s' := I'.pins_of fun p hp => I'.pin p (List.mem_append_right _ (by
      rcases List.mem_cons.mp hp with rfl | hp
      · exact .head _
      · exact .tail _ (.tail _ hp)))
    have nD' := I3.pin (((s.heap.push (seqObj "list" #[] 0)).update s.heap.objs.size (Obj.mapSeq (· ++ vs.toArray))).objs.size, seqObj "list" outv.toArray n') (List.mem_append_right _ (.head _))
    exact ⟨.ref _, _, I3.unpin fD v' lz, rfl, hG _ nD'.2.1⟩
theorem pe_sortK {b : Bool} {jj : Nat} (c : MCal X.prog X.w X.K X.mg X.base CX0 k C m ps ds sp) (bm : BM X.K C m) (he : PE X e te) (ho : PE X o ta) (hr : Room j X.A) (hd : Vals dvs ds) (hm : X.mg ("sorted" : Str) = none) (hk : k + 1 + 1 ≤ j := by decide) (hg : Gl X "sorted" := by rfl)
    (hb : attributeBase o m X.env (eval o X.env) = eval o X.env := by rfl) (hs : starEach [e] X.env = (false, eval e X.env) :: starEach [] X.env := by rfl) :
    PE X (.Call (.Name "sorted" p) [e] [⟨some "key", .Attribute o m apos, kpos⟩, ⟨some "reverse", .Constant (.bool b) jj cpos, rpos⟩] pos) (tSortK X.K C m sp dvs b te ta) := by
  obtain ⟨f, fd, F, hbi, hme⟩ := c.ex
  obtain ⟨f', ef, kb⟩ := bm.ex
  have : f' = f := by have z := hme.at_; rw [ef] at z; injection z with z; injection z with z; injection z
  subst this
  intro pins s σ H Q I h
  refine wpAny_Call_Name_kw (ld_blt I hg hm boot_sorted ?_)
  have h' : tCons te tNil σ H (fun vs H1 => match vs with
      | [v] => ta σ H1 fun o H2 => ∃ (a dx : Addr) (fs : List (Str × V)) (l : Addr) (all : List V), o = .ref a ∧ H2 a = some (.ins C dx fs) ∧ fs.lookup m = none ∧
          v = .ref l ∧ H2 l = some (.lst all) ∧ skGo (fun x H Q => sp (.ref a :: x :: dvs) H Q E0) all [] H2 (skEnd X.K b all fun out H' => ∀ D, H' D = none → Q (.ref D) (upd H' D (.lst out)))
      | _ => False) := h
  refine callWith_kw (thn ((pa_cons he pa_nil hs) pos pins s σ H _ I h') fun us s1 ⟨vs, H1, I1, r1, q1⟩ => ?_) (by rw [hs]; rfl) (by rw [hs]; rfl)
  cases r1 with
  | nil => exact False.elim q1
  | cons ru rr =>
    cases rr with
    | cons _ _ => exact False.elim q1
    | nil =>
      refine kwAll_cons (attr_of hb (thn (ho pins s1 σ H1 _ I1 q1) fun uo s2 ⟨ov, H2, I2, ro, a, dx, fs, l, all, eo, ea, el, ev, eh, hmx⟩ => ?_))
      subst eo
      subst ev
      cases ro
      cases ru
      refine getbnd_ok I2 ea c.cl hme kb el ?_
      have I3 := I2.pinNew (t' := s2.toks + 1) (ob := PySem.W.methodObj (.ref f') (.ref a)) rfl (by intro v z; cases z)
      refine kwAll_cons (Constant_bool (kwAll_nil ?_))
      exact sorted_run (ksk_s2 _ _ _) (fun x => ksk_l2 _ _ _) (fun x => ksk_t2 _ x b) (brunA_of F (hr.mono hk) hbi hd) I3 eh hmx
end
end L2
namespace LC
open PySem PyProof.Rows PySem.MeetsSeq3
theorem loopLt {prog : Program} {w : World} {A : Around} {R : Result → Shared → Prop} {s : Shared} {a b : Addr} {oa ob : Obj} {xs ys : List Value} {n m : Nat} (ha : s.heap.get? a = some oa) (da : oa.data = .seq xs.toArray n) (hb : s.heap.get? b = some ob) (db : ob.data = .seq ys.toArray m) :
    ∀ (ns ms : List Int) (i : Nat), IntsAre (xs.drop i) ns → IntsAre (ys.drop i) ms → i ≤ xs.length → i ≤ ys.length → R (.ok (.ret (.bool (HT.lexLt ns ms)))) s → codeAny (model prog w) A (.builtin "list.__eq__.loop" ⟨[.ref a, .ref b, rawInt i, rawInt 0], []⟩) R s := by
  have fin : ∀ i : Nat, (xs.toArray[i]? = none ∨ ys.toArray[i]? = none) → R (.ok (.ret (.bool (decide (xs.length < ys.length))))) s → codeAny (model prog w) A (.builtin "list.__eq__.loop" ⟨[.ref a, .ref b, rawInt i, rawInt 0], []⟩) R s := by
    intro i hn h
    refine codeAny_builtin entry_eq_loop ?_
    rw [Around.under_plainId plain_eq_loop _]
    show wpAny _ A.in1 (Builtin.List.listItems (.ref a) >>= _) _ _ _
    refine wpAny_bind (listItems_at ha da ?_)
    refine wpAny_bind (listItems_at hb db ?_)
    have e1 : ((i : Nat) : Int).toNat = i := Int.toNat_natCast i
    rw [e1]
    have fin2 : wpAny (model prog w) A.in1 (Builtin.List.listItems (.ref a) >>= fun p => Builtin.List.listItems (.ref b) >>= fun q => ret (.bool (decide (p.size < q.size)))) (fun fin s' => match fin with
        | .done f => R (.ok f) s'
        | .again c' => c'.quiet = true ∧ codeAny (model prog w) A c' R s') (fun e s' => R (.error e) s') s := by
      refine wpAny_bind (listItems_at ha da (wpAny_bind (listItems_at hb db (wpAny_pure ?_))))
      simpa using h
    rcases hn with hn | hn
    · rw [hn]; exact fin2
    · rw [hn]
      cases xs.toArray[i]? <;> exact fin2
  intro ns
  induction ns with
  | nil =>
    intro ms i h1 h2 l1 l2 h
    have hx : xs.length ≤ i := by
      cases e : xs.drop i with
      | nil => exact List.drop_eq_nil_iff.mp e
      | cons => rw [e] at h1; cases h1
    refine fin i (.inl (by simpa using hx)) ?_
    have lm := h2.length
    rw [List.length_drop] at lm
    cases ms with
    | nil => rw [decide_eq_false (by simp at lm; omega)]; exact h
    | cons y ms => rw [HT.lexLt_nil_cons] at h; rw [decide_eq_true (by simp at lm; omega)]; exact h
  | cons x ns ih =>
    intro ms i h1 h2 l1 l2 h
    have ln := h1.length
    rw [List.length_drop] at ln
    have lm := h2.length
    rw [List.length_drop] at lm
    simp only [List.length_cons] at ln
    cases ms with
    | nil =>
      simp only [List.length_nil] at lm
      refine fin i (.inr (by simp; omega)) ?_
      rw [HT.lexLt_cons_nil] at h; rw [decide_eq_false (by omega)]; exact h
    | cons y ms =>
      simp only [List.length_cons] at lm
      obtain ⟨hi, ex⟩ : ∃ hi : i < xs.length, xs.drop i = xs[i] :: xs.drop (i + 1) := ⟨by omega, List.drop_eq_getElem_cons (by omega)⟩
      obtain ⟨hj, ey⟩ : ∃ hj : i < ys.length, ys.drop i = ys[i] :: ys.drop (i + 1) := ⟨by omega, List.drop_eq_getElem_cons (by omega)⟩
      rw [ex] at h1
      rw [ey] at h2
      generalize xs[i] = vx at h1 ex
      generalize ys[i] = vy at h2 ey
      cases h1 with
      | cons _ t h1 =>
      cases h2 with
      | cons _ u h2 =>
        have gx : xs.toArray[i]? = some (.int x t) := by
          have := congrArg List.head? ex
          rw [List.head?_drop] at this
          simpa using this
        have gy : ys.toArray[i]? = some (.int y u) := by
          have := congrArg List.head? ey
          rw [List.head?_drop] at this
          simpa using this
        refine codeAny_builtin entry_eq_loop ?_
        rw [Around.under_plainId plain_eq_loop _]
        show wpAny _ A.in1 (Builtin.List.listItems (.ref a) >>= _) _ _ _
        refine wpAny_bind (listItems_at ha da ?_)
        refine wpAny_bind (listItems_at hb db ?_)
        have e1 : ((i : Nat) : Int).toNat = i := Int.toNat_natCast i
        rw [e1, gx, gy]
        dsimp only
        obtain ⟨e, he, hiff⟩ := HT.eqAt_int A.in1 s x t y u
        refine wpAny_bind (he prog w _ _ ?_)
        rw [HT.lexLt_cons] at h
        have hc : ((i : Int) + 1) = ((i + 1 : Nat) : Int) := by push_cast; rfl
        cases e with
        | true =>
          rw [if_pos (hiff.mp rfl)] at h
          simp only [if_true]
          rw [hc]
          exact wpAny_pure ⟨plainId_quiet plain_eq_loop _, ih ms (i + 1) h1 h2 (by omega) (by omega) h⟩
        | false =>
          rw [if_neg (fun q => absurd (hiff.mpr q) Bool.false_ne_true)] at h
          simp only [Bool.false_eq_true, if_false]
          refine wpAny_bind (listItems_at ha da (wpAny_bind (listItems_at hb db ?_)))
          rw [gx, gy]
          dsimp only
          refine wpAny_bind ?_
          show wpAny _ A.in1 (compareOp .Lt (.int x t) (.int y u)) _ _ s
          refine PyProof.Rows.lt_int ?_
          exact wpAny_pure h
theorem loopGt {prog : Program} {w : World} {A : Around} {R : Result → Shared → Prop} {s : Shared} {a b : Addr} {oa ob : Obj} {xs ys : List Value} {n m : Nat} (ha : s.heap.get? a = some oa) (da : oa.data = .seq xs.toArray n) (hb : s.heap.get? b = some ob) (db : ob.data = .seq ys.toArray m) :
    ∀ (ns ms : List Int) (i : Nat), IntsAre (xs.drop i) ns → IntsAre (ys.drop i) ms → i ≤ xs.length → i ≤ ys.length → R (.ok (.ret (.bool (HT.lexLt ms ns)))) s → codeAny (model prog w) A (.builtin "list.__eq__.loop" ⟨[.ref a, .ref b, rawInt i, rawInt 4], []⟩) R s := by
  have fin : ∀ i : Nat, (xs.toArray[i]? = none ∨ ys.toArray[i]? = none) → R (.ok (.ret (.bool (decide (xs.length > ys.length))))) s → codeAny (model prog w) A (.builtin "list.__eq__.loop" ⟨[.ref a, .ref b, rawInt i, rawInt 4], []⟩) R s := by
    intro i hn h
    refine codeAny_builtin entry_eq_loop ?_
    rw [Around.under_plainId plain_eq_loop _]
    show wpAny _ A.in1 (Builtin.List.listItems (.ref a) >>= _) _ _ _
    refine wpAny_bind (listItems_at ha da ?_)
    refine wpAny_bind (listItems_at hb db ?_)
    have e1 : ((i : Nat) : Int).toNat = i := Int.toNat_natCast i
    rw [e1]
    have fin2 : wpAny (model prog w) A.in1 (Builtin.List.listItems (.ref a) >>= fun p => Builtin.List.listItems (.ref b) >>= fun q => ret (.bool (decide (p.size > q.size)))) (fun fin s' => match fin with
        | .done f => R (.ok f) s'
        | .again c' => c'.quiet = true ∧ codeAny (model prog w) A c' R s') (fun e s' => R (.error e) s') s := by
      refine wpAny_bind (listItems_at ha da (wpAny_bind (listItems_at hb db (wpAny_pure ?_))))
      simpa using h
    rcases hn with hn | hn
    · rw [hn]; exact fin2
    · rw [hn]
      cases xs.toArray[i]? <;> exact fin2
  intro ns
  induction ns with
  | nil =>
    intro ms i h1 h2 l1 l2 h
    have hx : xs.length ≤ i := by
      cases e : xs.drop i with
      | nil => exact List.drop_eq_nil_iff.mp e
      | cons => rw [e] at h1; cases h1
    refine fin i (.inl (by simpa using hx)) ?_
    have lm := h2.length
    rw [List.length_drop] at lm
    cases ms with
    | nil => rw [decide_eq_false (by simp at lm; omega)]; exact h
    | cons y ms => rw [HT.lexLt_cons_nil] at h; rw [decide_eq_false (by simp at lm; omega)]; exact h
  | cons x ns ih =>
    intro ms i h1 h2 l1 l2 h
    have ln := h1.length
    rw [List.length_drop] at ln
    have lm := h2.length
    rw [List.length_drop] at lm
    simp only [List.length_cons] at ln
    cases ms with
    | nil =>
      simp only [List.length_nil] at lm
      refine fin i (.inr (by simp; omega)) ?_
      rw [HT.lexLt_nil_cons] at h; rw [decide_eq_true (by omega)]; exact h
    | cons y ms =>
      simp only [List.length_cons] at lm
      obtain ⟨hi, ex⟩ : ∃ hi : i < xs.length, xs.drop i = xs[i] :: xs.drop (i + 1) := ⟨by omega, List.drop_eq_getElem_cons (by omega)⟩
      obtain ⟨hj, ey⟩ : ∃ hj : i < ys.length, ys.drop i = ys[i] :: ys.drop (i + 1) := ⟨by omega, List.drop_eq_getElem_cons (by omega)⟩
      rw [ex] at h1
      rw [ey] at h2
      generalize xs[i] = vx at h1 ex
      generalize ys[i] = vy at h2 ey
      cases h1 with
      | cons _ t h1 =>
      cases h2 with
      | cons _ u h2 =>
        have gx : xs.toArray[i]? = some (.int x t) := by
          have := congrArg List.head? ex
          rw [List.head?_drop] at this
          simpa using this
        have gy : ys.toArray[i]? = some (.int y u) := by
          have := congrArg List.head? ey
          rw [List.head?_drop] at this
          simpa using this
        refine codeAny_builtin entry_eq_loop ?_
        rw [Around.under_plainId plain_eq_loop _]
        show wpAny _ A.in1 (Builtin.List.listItems (.ref a) >>= _) _ _ _
        refine wpAny_bind (listItems_at ha da ?_)
        refine wpAny_bind (listItems_at hb db ?_)
        have e1 : ((i : Nat) : Int).toNat = i := Int.toNat_natCast i
        rw [e1, gx, gy]
        dsimp only
        obtain ⟨e, he, hiff⟩ := HT.eqAt_int A.in1 s x t y u
        refine wpAny_bind (he prog w _ _ ?_)
        rw [HT.lexLt_cons] at h
        have hc : ((i : Int) + 1) = ((i + 1 : Nat) : Int) := by push_cast; rfl
        cases e with
        | true =>
          rw [if_pos ((hiff.mp rfl).symm)] at h
          simp only [if_true]
          rw [hc]
          exact wpAny_pure ⟨plainId_quiet plain_eq_loop _, ih ms (i + 1) h1 h2 (by omega) (by omega) h⟩
        | false =>
          rw [if_neg (fun q => absurd (hiff.mpr q.symm) Bool.false_ne_true)] at h
          simp only [Bool.false_eq_true, if_false]
          refine wpAny_bind (listItems_at ha da (wpAny_bind (listItems_at hb db ?_)))
          rw [gx, gy]
          dsimp only
          refine wpAny_bind ?_
          show wpAny _ A.in1 (compareOp .Gt (.int x t) (.int y u)) _ _ s
          refine PyProof.Rows.gt_int ?_
          exact wpAny_pure h
theorem list_lt_ints (l b : Addr) (items items2 : Array Value) (n n2 : Nat) (ns ms : List Int) (hi : IntsAre items.toList ns) (hj : IntsAre items2.toList ms) :
    Meets (Builtin.«list.__lt__» ⟨[.ref l, .ref b], []⟩)
      (fun _ R s => s.heap.get? l = some { cls := .type "list", dict := none, data := .seq items n, slots := #[] } ∧ s.heap.get? b = some { cls := .type "list", dict := none, data := .seq items2 n2, slots := #[] } ∧
        R (.ok (.ret (.bool (HT.lexLt ns ms)))) s) := by
  intro prog w A R s h
  obtain ⟨hp, g, d, tk, os⟩ := s; obtain ⟨hl, hb, h⟩ := h
  have f2 := AutoSeq1.sub_list_list
  wp_walk using AutoSeq1.wpAny_loadPart' hl, AutoSeq1.wpAny_loadPart' hb
  exact ⟨plainId_quiet plain_eq_loop _, loopLt (xs := items.toList) (ys := items2.toList) (n := n) (m := n2) hl (by simp) hb (by simp) ns ms 0 (by simpa using hi) (by simpa using hj) (Nat.zero_le _) (Nat.zero_le _) h⟩
theorem list_gt_ints (l b : Addr) (items items2 : Array Value) (n n2 : Nat) (ns ms : List Int) (hi : IntsAre items.toList ns) (hj : IntsAre items2.toList ms) :
    Meets (Builtin.«list.__gt__» ⟨[.ref l, .ref b], []⟩)
      (fun _ R s => s.heap.get? l = some { cls := .type "list", dict := none, data := .seq items n, slots := #[] } ∧ s.heap.get? b = some { cls := .type "list", dict := none, data := .seq items2 n2, slots := #[] } ∧
        R (.ok (.ret (.bool (HT.lexLt ms ns)))) s) := by
  intro prog w A R s h
  obtain ⟨hp, g, d, tk, os⟩ := s; obtain ⟨hl, hb, h⟩ := h
  have f2 := AutoSeq1.sub_list_list
  wp_walk using AutoSeq1.wpAny_loadPart' hl, AutoSeq1.wpAny_loadPart' hb
  exact ⟨plainId_quiet plain_eq_loop _, loopGt (xs := items.toList) (ys := items2.toList) (n := n) (m := n2) hl (by simp) hb (by simp) ns ms 0 (by simpa using hi) (by simpa using hj) (Nat.zero_le _) (Nat.zero_le _) h⟩
theorem gt_listInts {prog : Program} {w : World} {A : Around} {E : Value → Shared → Prop} {s : Shared} {l b : Addr} {items items2 : Array Value} {n n2 : Nat} {ns ms : List Int} {Q : Value → Shared → Prop} (hl : s.heap.get? l = some { cls := .type "list", dict := none, data := .seq items n, slots := #[] }) (hb : s.heap.get? b = some { cls := .type "list", dict := none, data := .seq items2 n2, slots := #[] }) (hi : IntsAre items.toList ns) (hj : IntsAre items2.toList ms)
    (hu : A.units < cLine) (h : Q (.bool (HT.lexLt ms ns)) s) : wpAny (model prog w) A (compareOp .Gt (.ref l) (.ref b)) Q E s := by
  exact richCompare_meets_room (op := .Gt) ⟨_, hl, rfl⟩ ⟨_, hb, rfl⟩ PySem.F.slot_list_gt PySem.F.entry_list_gt (PySem.F.args_list_gt_2 _ _) (list_gt_ints l b items items2 n n2 ns ms hi hj)
    ⟨hl, hb, show Value.bool (HT.lexLt ms ns) ≠ Value.notImplemented ∧ Q (.bool (HT.lexLt ms ns)) s from ⟨(fun x => nomatch x), h⟩⟩ hu
end LC
namespace L2
open PySem PySem.Spec PyProof.Rows
variable {X : Cx}
def rGtL (K : PySem.W.Frag) : R2 := fun x y H Q => ∃ (a b : Addr) (ns ms : List Int), x = .ref a ∧ y = .ref b ∧ H a = some (.lst (ns.map V.int)) ∧ H b = some (.lst (ms.map V.int)) ∧ Q (.bl (HT.lexLt ms ns)) H
theorem op_gtL (hu : X.A.units < cLine) : OpR X (compareOp .Gt) (rGtL X.K) := by
  intro pins s σ H x y v u Q I rx ry h
  obtain ⟨a, b, ns, ms, rfl, rfl, ha, hb, q⟩ := h
  cases rx
  cases ry
  obtain ⟨its, n1, r1, p1, _⟩ := I.lst ha
  obtain ⟨its2, n2, r2, p2, _⟩ := I.lst hb
  have i1 : IntsAre its.toArray.toList ns := intsAre_of r1
  have i2 : IntsAre its2.toArray.toList ms := intsAre_of r2
  exact LC.gt_listInts p1 p2 i1 i2 hu ⟨.bl (HT.lexLt ms ns), H, I, rfl, q⟩
end L2
namespace LC
open PySem PyProof.Rows TS
section
variable {prog : Program} {w : World} {A : Around} {s : Shared}
def LstAt (h : Heap) (v : Value) (ns : List Int) : Prop := ∃ a its n, v = .ref a ∧ h.get? a = some { cls := .type "list", dict := none, data := .seq its n, slots := #[] } ∧ IntsAre its.toList ns
theorem LstAt.uniq {h : Heap} {v : Value} {ns ms : List Int} (h1 : LstAt h v ns) (h2 : LstAt h v ms) : ns = ms := by
  obtain ⟨a, its, n, rfl, e, i1⟩ := h1
  obtain ⟨a', its', n', ea, e', i2⟩ := h2
  cases ea
  rw [e] at e'; cases e'
  rw [← i1.nums, ← i2.nums]
open Classical in
noncomputable def lstKey (h : Heap) (x : Keyed) : List Int := if e : ∃ ns, LstAt h x.1 ns then e.choose else []
theorem lstKey_eq {h : Heap} {x : Keyed} {ns : List Int} (t : LstAt h x.1 ns) : lstKey h x = ns := by
  unfold lstKey
  have e : ∃ ns, LstAt h x.1 ns := ⟨ns, t⟩
  rw [dif_pos e]
  exact e.choose_spec.uniq t
theorem cmp_lists {a₀ : Array Keyed} (hu : A.units < cLine) (h : ∀ x ∈ a₀.toList, ∃ ns, LstAt s.heap x.1 ns) : Cmp prog w A s oneType' a₀ lexO (lstKey s.heap) := by
  refine ⟨fun x hx y hy Q E hq => ?_⟩
  obtain ⟨ns, tx⟩ := h x hx
  obtain ⟨ms, ty⟩ := h y hy
  rw [lstKey_eq tx, lstKey_eq ty] at hq
  obtain ⟨a, its, n, ea, e, i1⟩ := tx
  obtain ⟨a', its', n', ea', e', i2⟩ := ty
  rw [ea, ea', keyLt'_oneType, oneLt'_eq]
  simp only [if_true]
  refine wpAny_bind (wpAny_cRoomFor hu ?_)
  refine wpAny_bind (wpAny_callSpecialIfBound?_slot (T := "list") ⟨_, e, rfl⟩ PySem.F.slot_list_lt (call_meets PySem.F.slot_list_lt ⟨_, e, rfl⟩ PySem.F.entry_list_lt (PySem.F.args_list_lt_2 _ _) (list_lt_ints a a' its its' n n' ns ms i1 i2) ⟨e, e', ?_⟩))
  exact wpAny_truthy_bool hq
end
end LC
namespace LC
open PySem PyProof.Rows TS
open L2 (V Vals RelV)
section
variable {prog : Program} {w : World} {A : Around} {E : Value → Shared → Prop} {s : Shared}
theorem sortN_run {b : Bool} {D : Addr} {vs : List Value} {n : Nat} {kis : List (List Int)} {all : List V} {P : PySem.Fin → Shared → Prop} (hu : A.units < cLine) (hD : s.heap.get? D = some (seqObj "list" vs.toArray n)) (hz : vs.length ≤ sizeLine) (h64 : vs.length < 64)
    (hK : Paired (fun ns k => LstAt s.heap k ns ∧ k ≠ .ref D) kis vs) (hV : Vals all vs)
    (h : ∀ (ps : List (List Int × V)) (out : Array Value), ps.Perm (kis.zip all) → ps.Pairwise (fun p q => (if b = true then HT.lexLt p.1 q.1 else HT.lexLt q.1 p.1) = false) → Vals (ps.map (·.2)) out.toList →
      P (.done (.ret .none)) { s with heap := (((s.heap.update D (Obj.mapSeq fun _ => #[])).push (seqObj "tuple" vs.toArray 0)).push (seqObj "list" #[] 0)).update D (Obj.mapSeq fun _ => out) }) :
    wpAny (model prog w) A (Builtin.«list.sort» ⟨[.ref D], [(Str.ofString "reverse", .bool b)]⟩) P E s := by
  have s1 := Heap.SameBut.update s.heap D (Obj.mapSeq fun _ => (#[] : Array Value))
  obtain ⟨e1, ho1⟩ : ∃ e1, (s.heap.update D (Obj.mapSeq fun _ => (#[] : Array Value))).get? D = some (seqObj "list" #[] e1) := ⟨_, get?_update_seq hD fun _ => #[]⟩
  show wpAny _ _ (Builtin.List.listItems (.ref D) >>= _) _ _ _
  refine wpAny_bind (listItems_at hD rfl ?_)
  refine wpAny_bind (listUpdate_at hD rfl ?_ (by rw [List.size_toArray]; omega) (Nat.zero_le _))
  refine wpAny_bind (seqEpoch_at ho1 rfl ?_)
  refine wpAny_bind (wpAny_newTuple ?_ (by show vs.length ≤ _; omega))
  refine wpAny_bind (wpAny_newList ?_ (Nat.zero_le _))
  refine wpAny_holding ?_
  have kn : (((List.lookup (Str.ofString "key") [(Str.ofString "reverse", Value.bool b)]).getD Value.none != Value.none) = true) = False := by
    have : (List.lookup (Str.ofString "key") [(Str.ofString "reverse", Value.bool b)]) = none := by rfl
    rw [this]; simp
  dsimp only
  simp only [kn, if_false, pure_bind]
  have hR := paired_zip hK hV
  have keep : ∀ c o, c ≠ D → s.heap.get? c = some o → (((s.heap.update D (Obj.mapSeq fun _ => #[])).push (seqObj "tuple" vs.toArray 0)).push (seqObj "list" #[] 0)).get? c = some o := fun c o hc e => Heap.get?_push_of_some _ (Heap.get?_push_of_some _ ((s1.2 c hc).trans e))
  have hD3 : (((s.heap.update D (Obj.mapSeq fun _ => #[])).push (seqObj "tuple" vs.toArray 0)).push (seqObj "list" #[] 0)).get? D = some (seqObj "list" #[] e1) := Heap.get?_push_of_some _ (Heap.get?_push_of_some _ ho1)
  have hat : ∀ k ns, LstAt s.heap k ns → k ≠ .ref D → LstAt (((s.heap.update D (Obj.mapSeq fun _ => #[])).push (seqObj "tuple" vs.toArray 0)).push (seqObj "list" #[] 0)) k ns := by
    rintro k ns ⟨a, its, n', rfl, e, i⟩ hne
    exact ⟨a, its, n', rfl, keep a _ (fun z => hne (by rw [z])) e, i⟩
  show wpAny _ _ _ _ _ { s with heap := ((s.heap.update D (Obj.mapSeq fun _ => #[])).push (seqObj "tuple" vs.toArray 0)).push (seqObj "list" #[] 0) }
  generalize ((s.heap.update D (Obj.mapSeq fun _ => #[])).push (seqObj "tuple" vs.toArray 0)).push (seqObj "list" #[] 0) = h3 at *
  have hz0 : (if b = true then (vs.toArray.zip vs.toArray).reverse else vs.toArray.zip vs.toArray).toList.Perm (vs.zip vs) := by
    split
    · rw [Array.toList_reverse, ksk_zip]; exact List.reverse_perm _
    · rw [ksk_zip]
  have fin : ∀ arr : Array Keyed, arr.toList.Perm (vs.zip vs) → arr.toList.Pairwise (fun x y => HT.lexLt (lstKey h3 y) (lstKey h3 x) = false) → P (.done (.ret .none)) { s with heap := h3.update D (Obj.mapSeq fun _ => if b = true then (arr.map (·.2)).reverse else arr.map (·.2)) } := by
    intro arr hp hs
    obtain ⟨ps, pp, pr⟩ := paired_perm hp.symm hR
    have pw : ps.Pairwise (fun p q => HT.lexLt q.1 p.1 = false) := paired_pairwise (fun p q x y r1 r2 z => by rw [lstKey_eq (hat _ _ r1.1.1 r1.1.2), lstKey_eq (hat _ _ r2.1.1 r2.1.2)] at z; exact z) pr hs
    have pm : Vals (ps.map (·.2)) (arr.toList.map (·.2)) := paired_map (fun p x r => r.2) pr
    cases b with
    | false =>
      simp only [Bool.false_eq_true, if_false]
      exact h ps _ pp (by simpa using pw) (by rw [Array.toList_map]; exact pm)
    | true =>
      simp only [if_true]
      refine h ps.reverse _ ((List.reverse_perm ps).trans pp) ?_ ?_
      · simp only [if_true]
        rw [List.pairwise_reverse]; exact pw
      · rw [List.map_reverse, Array.toList_reverse, Array.toList_map]
        exact paired_reverse pm
  have hT : ∀ v ∈ vs, ∃ ns, LstAt h3 v ns := fun v hv => by
    obtain ⟨ns, _, r⟩ := paired_mem' hK v hv
    exact ⟨ns, hat _ _ r.1 r.2⟩
  have small : vs.toArray.size < 2 → (if b = true then (vs.toArray.zip vs.toArray).reverse else vs.toArray.zip vs.toArray).toList.Pairwise (fun x y => HT.lexLt (lstKey h3 y) (lstKey h3 x) = false) := by
    intro h2
    have hlz := hz0.length_eq
    rw [List.length_zip] at hlz
    rw [List.size_toArray] at h2
    generalize (if b = true then (vs.toArray.zip vs.toArray).reverse else vs.toArray.zip vs.toArray).toList = zs at hlz
    match zs, hlz with
    | [], _ => exact .nil
    | [_], _ => exact List.pairwise_singleton _ _
    | _ :: _ :: _, hlz => simp at hlz; omega
  have szs : ∀ arr : Array Keyed, arr.toList.Perm (vs.zip vs) → (if b = true then (arr.map (·.2)).reverse else arr.map (·.2)).size ≤ sizeLine + 1 := by
    intro arr hp
    have := hp.length_eq
    rw [Array.length_toList, List.length_zip] at this
    split
    · rw [Array.size_reverse, Array.size_map]; omega
    · rw [Array.size_map]; omega
  have step : ∀ t : Sem PySem.Fin, wpAny (model prog w) A t P E { s with heap := h3 } → wpAny (model prog w) A (if b = true then (do let _ ← rule "list.sort.reverse"; t) else t) P E { s with heap := h3 } := by
    intro t ht
    split
    · exact wpAny_bind (wpAny_rule ht)
    · exact ht
  refine step _ ?_
  by_cases h2 : vs.toArray.size < 2
  · rw [if_pos h2, if_pos h2]
    refine wpAny_bind (wpAny_pure ?_)
    refine wpAny_bind (seqEpoch_at hD3 rfl ?_)
    refine wpAny_bind (listUpdate_at hD3 rfl ?_ (Nat.zero_le _) (szs _ hz0))
    simp only [bne_self_eq_false, Bool.false_eq_true, if_false]
    exact wpAny_pure (fin _ hz0 (small h2))
  · rw [if_neg h2]
    rw [if_neg h2]
    have C : Cmp prog w A { s with heap := h3 } oneType' (if b = true then (vs.toArray.zip vs.toArray).reverse else vs.toArray.zip vs.toArray) lexO (lstKey h3) := by
      refine cmp_lists (s := { s with heap := h3 }) hu fun x hx => ?_
      obtain ⟨p, hp, r⟩ := paired_mem' hR x (hz0.mem_iff.mp hx)
      exact ⟨p.1, hat _ _ r.1.1 r.1.2⟩
    rw [List.size_toArray] at h2
    refine wpAny_bind (show wpAny (model prog w) A (keyKind' vs.toArray) _ E { s with heap := h3 } from PySem.W.kas_kind (T := .type "list") (by omega) (fun v hv => ?_) (by decide) (by decide) ?_)
    · obtain ⟨ns, a, its, n', rfl, e, i⟩ := hT v hv
      exact (PySem.W.Looks.ld e).andThen .now
    · refine wpAny_bind (wpAny_mono (wp_sortRuns (E := E) C (st := SortSt.mk' _ _ #[] 7 none) ⟨rfl, Array.Perm.refl _, rfl⟩ rfl (by have z := hz0.length_eq; rw [List.length_zip, Array.length_toList] at z; omega) (Q := fun _ st' => SB oneType' (if b = true then (vs.toArray.zip vs.toArray).reverse else vs.toArray.zip vs.toArray) st' ∧ Srt (O := lexO) (lstKey h3) (arrOf st').toList) fun st' B' S' => ⟨B', S'⟩) ?_ fun _ _ x => x)
      rintro ⟨⟨⟩, st'⟩ s' ⟨rfl, B', S'⟩
      have hp' := (Array.perm_iff_toList_perm.mp B'.perm).trans hz0
      have hf : failedOf st' = none := B'.failed
      dsimp only
      refine wpAny_bind (seqEpoch_at hD3 rfl ?_)
      refine wpAny_bind (listUpdate_at hD3 rfl ?_ (Nat.zero_le _) (szs _ hp'))
      simp only [bne_self_eq_false, Bool.false_eq_true, if_false]
      rw [show (sortPriv% PySem.Builtin.SortState.failed) st' = none from hf]
      exact wpAny_pure (fin _ hp' S')
end
end LC
namespace L2
open PySem PySem.Spec PyProof.Rows TS LC
def tSortN (b : Bool) (te : TE) : TE := fun σ H Q => te σ H fun v H1 => ∃ (l : Addr) (all : List V) (kis : List (List Int)), v = .ref l ∧ H1 l = some (.lst all) ∧ Paired (fun ns x => ∃ t, x = V.ref t ∧ H1 t = some (.lst (ns.map V.int))) kis all ∧ all.length < 64 ∧
  ∀ ps : List (List Int × V), ps.Perm (kis.zip all) → ps.Pairwise (fun p q => (if b = true then HT.lexLt p.1 q.1 else HT.lexLt q.1 p.1) = false) → ∀ D, H1 D = none → Q (.ref D) (upd H1 D (.lst (ps.map (·.2))))
theorem argsN1 (a v : Value) : argsOk "sorted" ⟨[a], [(Str.ofString "reverse", v)]⟩ := by unfold argsOk; kernel_rfl
theorem argsN2 (a v : Value) : argsOk "list.sort" ⟨[a], [(Str.ofString "reverse", v)]⟩ := by unfold argsOk; kernel_rfl
section
variable {X : Cx} {j : Nat} {p pos rpos cpos : Pos} {e : Expr} {te : TE}
theorem pe_sortN {b : Bool} {jj : Nat} (he : PE X e te) (hr : Room j X.A) (hm : X.mg ("sorted" : Str) = none) (hg : Gl X "sorted" := by rfl) (hs : starEach [e] X.env = (false, eval e X.env) :: starEach [] X.env := by rfl) :
    PE X (.Call (.Name "sorted" p) [e] [⟨some "reverse", .Constant (.bool b) jj cpos, rpos⟩] pos) (tSortN b te) := by
  intro pins s σ H Q I h
  refine wpAny_Call_Name_kw (ld_blt I hg hm boot_sorted ?_)
  have h' : tCons te tNil σ H (fun vs H1 => match vs with
      | [v] => ∃ (l : Addr) (all : List V) (kis : List (List Int)), v = .ref l ∧ H1 l = some (.lst all) ∧ Paired (fun ns x => ∃ t, x = V.ref t ∧ H1 t = some (.lst (ns.map V.int))) kis all ∧ all.length < 64 ∧
          ∀ ps : List (List Int × V), ps.Perm (kis.zip all) → ps.Pairwise (fun p q => (if b = true then HT.lexLt p.1 q.1 else HT.lexLt q.1 p.1) = false) → ∀ D, H1 D = none → Q (.ref D) (upd H1 D (.lst (ps.map (·.2))))
      | _ => False) := h
  refine callWith_kw (thn ((pa_cons he pa_nil hs) pos pins s σ H _ I h') fun us s1 ⟨vs, H1, I1, r1, q1⟩ => ?_) (by rw [hs]; rfl) (by rw [hs]; rfl)
  cases r1 with
  | nil => exact False.elim q1
  | cons ru rr =>
    cases rr with
    | cons _ _ => exact False.elim q1
    | nil =>
      obtain ⟨l, all, kis, ev, hH, hP, h64, hQ⟩ := q1
      subst ev
      cases ru
      refine kwAll_cons (Constant_bool (kwAll_nil ?_))
      obtain ⟨vs, n, hV, hl, hz⟩ := I1.lst hH
      have hz' : vs.length ≤ sizeLine := by rw [← hV.length]; exact hz
      have hls : s1.heap.IsList l vs.toArray := ⟨_, hl, rfl, n, rfl⟩
      show wpAny _ _ (call (.builtin "sorted") [.ref l] [(Str.ofString "reverse", .bool b)]) _ _ _
      refine call_function_entry_kw kind_sorted plain_sorted entry_sorted (argsN1 _ _) ?_
      unfold Builtin.«sorted»
      refine wpAny_bind (m := checkCount "sorted" 1 1 _) (wpAny_pure ?_)
      refine wpAny_bind (collect_list hls ?_ hz')
      have keep0 : ∀ b o, s1.heap.get? b = some o → ((s1.heap.push (seqObj "list" #[] 0)).update s1.heap.objs.size (Obj.mapSeq (· ++ vs.toArray))).get? b = some o := fun b o q => by
        have hlt : b < s1.heap.objs.size := Heap.lt_size q
        rw [Heap.get?_update_ne _ _ _ _ (Nat.ne_of_lt hlt), Heap.get?_push_ne _ _ _ (Nat.ne_of_lt hlt)]
        exact q
      have I2 : Inv X pins σ H1 { s1 with heap := (s1.heap.push (seqObj "list" #[] 0)).update s1.heap.objs.size (Obj.mapSeq (· ++ vs.toArray)) } := I1.kept (t' := s1.toks) keep0
      refine wpAny_bind (wpAny_newList ?_ hz')
      have I3 := I2.pinNew (t' := s1.toks) (ob := seqObj "list" vs.toArray 0) rfl (by intro v z; cases z)
      have fD : FpOk X pins H1 ((s1.heap.push (seqObj "list" #[] 0)).update s1.heap.objs.size (Obj.mapSeq (· ++ vs.toArray))).objs.size := I2.fpOk (Nat.le_refl _) (I2.hok.fresh (Nat.le_refl _))
      have nD := I3.pin (((s1.heap.push (seqObj "list" #[] 0)).update s1.heap.objs.size (Obj.mapSeq (· ++ vs.toArray))).objs.size, seqObj "list" vs.toArray 0) (List.mem_append_right _ (.head _))
      refine wpAny_bind (wpAny_holding (wpAny_call_entry_kw PyProof.Rows.slot_list_sort ⟨_, nD.1, rfl⟩ PyProof.Rows.entry_list_sort ?body (argsN2 _ _)))
      case body =>
        have key : ∀ {kis : List (List Int)} {ks : List V} {kus : List Value}, Paired (fun ns x => ∃ t, x = V.ref t ∧ H1 t = some (.lst (ns.map V.int))) kis ks → Vals ks kus →
            Paired (fun ns k => LstAt (((s1.heap.push (seqObj "list" #[] 0)).update s1.heap.objs.size (Obj.mapSeq (· ++ vs.toArray))).push (seqObj "list" vs.toArray 0)) k ns ∧ k ≠ .ref ((s1.heap.push (seqObj "list" #[] 0)).update s1.heap.objs.size (Obj.mapSeq (· ++ vs.toArray))).objs.size) kis kus := by
          intro kis ks kus hp
          induction hp generalizing kus with
          | nil => intro hv; cases hv; exact .nil
          | cons r _ ih =>
            intro hv
            cases hv with
            | cons r1 t =>
              obtain ⟨tt, rfl, ht⟩ := r
              cases r1
              obtain ⟨it, n4, rr, pt, _⟩ := I3.lst ht
              refine .cons ⟨⟨tt, _, n4, rfl, pt, intsAre_of rr⟩, fun z => ?_⟩ (ih t)
              injection z with z
              rw [z, nD.2.1] at ht; cases ht
        refine sortN_run (by have := hr.un; show X.A.units + 1 + 1 < cLine; omega) nD.1 hz' (by rw [← hV.length]; exact h64) (key hP hV) hV fun ps out pp pw pv => ?_
        refine ⟨_, rfl, wpAny_pure ⟨_, rfl, ?_⟩⟩
        generalize hDD : ((s1.heap.push (seqObj "list" #[] 0)).update s1.heap.objs.size (Obj.mapSeq (· ++ vs.toArray))).objs.size = D at *
        generalize ((s1.heap.push (seqObj "list" #[] 0)).update s1.heap.objs.size (Obj.mapSeq (· ++ vs.toArray))).push (seqObj "list" vs.toArray 0) = h0 at *
        have sa := Heap.SameBut.update h0 D (Obj.mapSeq fun _ => (#[] : Array Value))
        obtain ⟨e1, ho1⟩ : ∃ e1, (h0.update D (Obj.mapSeq fun _ => (#[] : Array Value))).get? D = some (seqObj "list" #[] e1) := ⟨_, get?_update_seq nD.1 fun _ => #[]⟩
        have ho2 : (((h0.update D (Obj.mapSeq fun _ => #[])).push (seqObj "tuple" vs.toArray 0)).push (seqObj "list" #[] 0)).get? D = some (seqObj "list" #[] e1) := Heap.get?_push_of_some _ (Heap.get?_push_of_some _ ho1)
        have sb := Heap.SameBut.update (((h0.update D (Obj.mapSeq fun _ => (#[] : Array Value))).push (seqObj "tuple" vs.toArray 0)).push (seqObj "list" #[] 0)) D (Obj.mapSeq fun _ => out)
        obtain ⟨c2, hc2⟩ : ∃ c2, ((((h0.update D (Obj.mapSeq fun _ => (#[] : Array Value))).push (seqObj "tuple" vs.toArray 0)).push (seqObj "list" #[] 0)).update D (Obj.mapSeq fun _ => out)).get? D = some (seqObj "list" out c2) := ⟨_, get?_update_seq ho2 fun _ => out⟩
        have I4 : Inv X ((D, seqObj "list" out.toList.toArray c2) :: pins) σ H1 { s1 with heap := (((h0.update D (Obj.mapSeq fun _ => #[])).push (seqObj "tuple" vs.toArray 0)).push (seqObj "list" #[] 0)).update D (Obj.mapSeq fun _ => out) } :=
          Inv.repin (s := { s1 with heap := h0 }) (pa := []) (t' := s1.toks) I3 fD (fun b' o hb' e' => (sb.2 b' hb').trans (Heap.get?_push_of_some _ (Heap.get?_push_of_some _ ((sa.2 b' hb').trans e')))) (by simpa using hc2) (by intro v z; cases z)
        exact ⟨.ref D, _, I4.unpin fD pv (by have := pp.length_eq; rw [List.length_zip] at this; rw [List.length_map, this]; omega), rfl, hQ ps pp pw D nD.2.1⟩
end
end L2
set_option Elab.async false
set_option linter.all false
set_option maxRecDepth 100000
namespace L2
open PySem PySem.Spec PyProof.Rows
section
variable {X : Cx}
def rCount (K : PySem.W.Frag) : V → List V → Hp → VK → Prop := fun x vs H Q => ∃ (l : Addr) (xs : List V) (y : V) (ds : List PyData) (d : PyData), x = .ref l ∧ vs = [y] ∧ SqL K H l xs ∧ RdsAll K H xs ds ∧ Rds K H y d ∧
  PyData.canLayAll0 ds = true ∧ d.canLay0 = true ∧ d.depth ≤ 60 ∧ Q (.int ((ds.countP fun e => PyData.eqv e d : Nat) : Int)) H
theorem mt_count (hu : X.A.units + 64 < cLine) : MtR X "list.count" (rCount X.K) := by
  intro pins s σ H x vs v us Q I rx rv h
  obtain ⟨l, xs, y, ds, d, rfl, rfl, hS, hds, hd, c1, c2, dp, q⟩ := h
  cases rx
  obtain ⟨u, rfl, ru⟩ := rv.one
  obtain ⟨its, r1, p, _⟩ := I.list hS
  obtain ⟨⟨cls, dd, data, sl⟩, ho, hc, n, hdt⟩ := id p.isList
  simp only at hc hdt
  subst hc hdt
  obtain ⟨as, ra⟩ := I.rdsAll hds r1
  obtain ⟨bs, rb⟩ := I.rds hd ru
  have hm : min (PyData.depthAll ds) d.depth ≤ 60 := Nat.le_trans (Nat.min_le_right _ _) dp
  refine call_meets F.slot_list_count ⟨_, ho, rfl⟩ F.entry_list_count (F.args_list_count_2 _ _) (SeqAt.list_countAt l its.toArray n dd sl u (fun z => PyData.eqv (SeqAt.readOf s.heap z) d)) ⟨ho, SeqAt.items_eqAt (A := X.A) (by simpa using ra) rb c1 c2 (by omega), ?_⟩
  have e : its.toArray.toList.countP (fun z => PyData.eqv (SeqAt.readOf s.heap z) d) = ds.countP fun e => PyData.eqv e d := by
    rw [← SeqAt.readsAll_map ds its as c1 ra, List.countP_map]
    rfl
  rw [e]
  exact ⟨.int _, H, I.kept fun _ _ e => e, ⟨_, rfl⟩, q⟩
theorem pe_count {o e : Expr} {to : TE} {te : TA} {apos cpos : Pos} (hu : X.A.units + 64 < cLine) (ho : PE X o to) (he : PA X [e] te)
    (hbase : attributeBase o "count" X.env (eval o X.env) = eval o X.env := by rfl)
    (hfew : ((backTo cpos (starEach [e] X.env)).all (fun x => !x.1) && (backToKw cpos (keywordEach [] X.env)).all (fun x => x.1.isSome)
      && decide ([e].length + ([] : List Keyword).length + (if ([] : List Keyword).isEmpty then 0 else 1) < 30)) = true := by rfl)
    (hline : (apos.endLine == cpos.line) = true := by rfl) (hs : starEach [e] X.env = (false, eval e X.env) :: starEach [] X.env := by rfl) (hplain : (backTo cpos (starEach [] X.env)).any (·.1) = false := by rfl) :
    PE X (.Call (.Attribute o "count" apos) [e] [] cpos) (tBM X.K "list" (rCount X.K) to te) :=
  pe_bm F.plainAttrs_list F.slot_list_count F.type_list_count (mt_count hu) ho he hbase hfew hline hs hplain
end
end L2
namespace L2
open PySem PySem.Spec PyProof.Rows
theorem comp_ofD {J : It} {H1 : Hp} {n : Nat} {P : Nat → V → Hp → Prop} {g : TG} {tc : TT} {te : TE} {Q : VK} {σ0 : St} {D : Addr} (S : Walk J H1 n P) (hD : H1 D = none) (hn : n ≤ sizeLine) (Sv : St → Prop) (p : Nat → Bool) (F : Nat → V → Hp → Prop)
    (monoS : ∀ i v H H', Same H H' → F i v H → F i v H') (monoU : ∀ i v H ys ys', H D = some (.lst ys) → F i v H → F i v (upd H D (.lst ys'))) (h0 : Sv σ0)
    (step : ∀ i x σ' H2, i < n → Sv σ' → Same H1 H2 → P i x H2 → (∃ ys, H2 D = some (.lst ys)) → ∀ (Ny : V → St → Hp → Prop) (Nn : St → Hp → Prop), (∀ v σ2 H5, Sv σ2 → Same H2 H5 → F i v H5 → p i = true → Ny v σ2 H5) → (∀ σ2 H4, Sv σ2 → Same H2 H4 → p i = false → Nn σ2 H4) →
      g x σ' H2 fun σ2 H3 => tc σ2 H3 fun b H4 => if b = true then te σ2 H4 fun v H5 => Ny v σ2 H5 else Nn σ2 H4)
    (hQ : ∀ H' ys, Same H1 H' → H' D = some (.lst ys) → Paired (fun i v => F i v H') ((List.range n).filter p) ys → Q (.ref D) H') :
    ∃ W : Nat → Nat → List V → St → Hp → Prop, (∃ m, W 0 m [] σ0 (upd H1 D (.lst []))) ∧ ∀ i m ys σ' H', W i m ys σ' H' → H' D = some (.lst ys) ∧
    ((J.stop i H' ∧ Q (.ref D) H') ∨ (J.go i H' ∧ ys.length < sizeLine ∧ ∀ x H2, J.yld i H' x H2 → g x σ' H2 fun σ2 H3 => tc σ2 H3 fun b H4 =>
      if b = true then te σ2 H4 fun v H5 => H5 D = some (.lst ys) ∧ ∃ m', m' < m ∧ W (i + 1) m' (ys ++ [v]) σ2 (upd H5 D (.lst (ys ++ [v])))
      else ∃ m', m' < m ∧ W (i + 1) m' ys σ2 H4)) := by
  refine ⟨fun i m ys σ' H' => m = n - i ∧ i ≤ n ∧ Sv σ' ∧ Same H1 H' ∧ H' D = some (.lst ys) ∧ Paired (fun j v => F j v H') ((List.range i).filter p) ys, ⟨n, rfl, Nat.zero_le _, h0, Same.upd hD, upd_same, .nil⟩, ?_⟩
  rintro i m ys σ' H' ⟨rfl, hi, hs, hS, hL, hF⟩
  refine ⟨hL, ?_⟩
  have rs : (List.range (i + 1)).filter p = (List.range i).filter p ++ (if p i = true then [i] else []) := by
    rw [List.range_succ, List.filter_append]
    cases q : p i <;> simp [q]
  by_cases hlt : i < n
  · refine .inr ⟨S.go i H' hS hlt, ?_, fun x H2 y => ?_⟩
    · have l1 := hF.length
      have l2 : ((List.range i).filter p).length ≤ (List.range i).length := List.length_filter_le _ _
      rw [List.length_range] at l2
      omega
    · obtain ⟨e2, hP⟩ := S.yld i H' x H2 hS hlt y
      refine step i x σ' H2 hlt hs (hS.trans e2) hP ⟨ys, e2 _ _ hL⟩ _ _ (fun v σ2 H5 s2 e5 f5 hp => ?_) fun σ2 H4 s2 e4 hp => ?_
      · have l5 : H5 D = some (.lst ys) := e5 _ _ (e2 _ _ hL)
        refine ⟨l5, n - (i + 1), by omega, rfl, hlt, s2, ((hS.trans e2).trans e5).updR hD, upd_same, ?_⟩
        rw [rs, if_pos hp]
        refine Paired.snoc (Paired.imp' (fun j w q => ?_) hF) (monoU i v H5 ys _ l5 f5)
        exact monoU j w H5 ys _ l5 (monoS j w H' H5 (e2.trans e5) q)
      · refine ⟨n - (i + 1), by omega, rfl, hlt, s2, (hS.trans e2).trans e4, e4 _ _ (e2 _ _ hL), ?_⟩
        rw [rs, if_neg (by rw [hp]; decide), List.append_nil]
        exact Paired.imp' (fun j w q => monoS j w H' H4 (e2.trans e4) q) hF
  · have e : i = n := by omega
    subst e
    exact .inl ⟨S.stop H' hS, hQ H' ys hS hL hF⟩
theorem walk_compD {J : It} {n : Nat} {P : Nat → V → Hp → Prop} {mp : List (Option Nat)} {wi : TI} {g : TG} {tc : TT} {te : TE} {σ : St} {H H1 : Hp} {Q : VK} (S : Walk J H1 n P) (hn : n ≤ 1000) (hwi : ∀ R, R J H1 → wi σ H R) (Sv : St → Prop) (p : Nat → Bool) (F : Addr → Nat → V → Hp → Prop)
    (monoS : ∀ D i v H H', Same H H' → F D i v H → F D i v H') (monoU : ∀ D i v H ys ys', H D = some (.lst ys) → F D i v H → F D i v (upd H D (.lst ys'))) (h0 : Sv (st0 mp σ))
    (step : ∀ D i x σ' H2, i < n → Sv σ' → Same H1 H2 → P i x H2 → (∃ ys, H2 D = some (.lst ys)) → ∀ (Ny : V → St → Hp → Prop) (Nn : St → Hp → Prop), (∀ v σ2 H5, Sv σ2 → Same H2 H5 → F D i v H5 → p i = true → Ny v σ2 H5) → (∀ σ2 H4, Sv σ2 → Same H2 H4 → p i = false → Nn σ2 H4) →
      g x σ' H2 fun σ2 H3 => tc σ2 H3 fun b H4 => if b = true then te σ2 H4 fun v H5 => Ny v σ2 H5 else Nn σ2 H4)
    (hQ : ∀ D H' ys, Same H1 H' → H' D = some (.lst ys) → Paired (fun i v => F D i v H') ((List.range n).filter p) ys → Q (.ref D) H') : tComp mp wi g tc te σ H Q := by
  unfold tComp
  refine hwi _ fun D hD => ?_
  exact comp_ofD S hD (Nat.le_trans hn (by rw [sizeLine_eq]; decide)) Sv p (F D) (monoS D) (monoU D) h0 (step D) fun H' ys e hL hF => hQ D H' ys e hL hF
end L2
namespace K6
open HT (lexLt)
/-! ### the order of tuples -/
theorem lt_irr : ∀ x : List Int, lexLt x x = false
  | [] => rfl
  | a :: x => by rw [HT.lexLt_cons, if_pos rfl]; exact lt_irr x
theorem lt_tr : ∀ {x y z : List Int}, lexLt x y = true → lexLt y z = true → lexLt x z = true
  | [], [], _, h, _ => by cases h
  | [], _ :: _, [], _, h => by cases h
  | [], _ :: _, _ :: _, _, _ => rfl
  | _ :: _, [], _, h, _ => by cases h
  | _ :: _, _ :: _, [], _, h => by cases h
  | a :: x, b :: y, c :: z, h1, h2 => by
    rw [HT.lexLt_cons] at h1 h2 ⊢
    by_cases e1 : a = b
    · rw [if_pos e1] at h1
      by_cases e2 : b = c
      · rw [if_pos e2] at h2
        rw [if_pos (e1.trans e2)]
        exact lt_tr h1 h2
      · rw [if_neg e2] at h2
        rw [if_neg (by omega), e1]
        exact h2
    · rw [if_neg e1] at h1
      have l1 : a < b := of_decide_eq_true h1
      by_cases e2 : b = c
      · rw [if_pos e2] at h2
        rw [if_neg (by omega)]
        exact decide_eq_true (by omega)
      · rw [if_neg e2] at h2
        have l2 : b < c := of_decide_eq_true h2
        rw [if_neg (by omega)]
        exact decide_eq_true (by omega)
theorem lt_tri : ∀ {x y : List Int}, x ≠ y → lexLt x y = !lexLt y x
  | [], [], h => absurd rfl h
  | [], _ :: _, _ => rfl
  | _ :: _, [], _ => rfl
  | a :: x, b :: y, h => by
    rw [HT.lexLt_cons, HT.lexLt_cons]
    by_cases e : a = b
    · rw [if_pos e, if_pos e.symm]
      exact lt_tri fun z => h (by rw [e, z])
    · rw [if_neg e, if_neg (Ne.symm e)]
      by_cases l : a < b
      · rw [decide_eq_true l, decide_eq_false (by omega)]; rfl
      · rw [decide_eq_false l, decide_eq_true (by omega)]; rfl
theorem lt_asym {x y : List Int} (h : lexLt x y = true) : lexLt y x = false := by
  by_cases e : x = y
  · rw [e, lt_irr] at h; cases h
  · have := lt_tri e
    rw [h] at this
    cases q : lexLt y x with
    | true => rw [q] at this; cases this
    | false => rfl
abbrev vadd (x y : List Int) : List Int := List.zipWith (fun a b => a + b) x y
theorem lt_add : ∀ {x y z : List Int}, x.length = z.length → y.length = z.length → lexLt (vadd x z) (vadd y z) = lexLt x y
  | [], [], _, _, _ => by simp [vadd]
  | _ :: _, [], [], h, _ => by simp at h
  | [], _ :: _, [], _, h => by simp at h
  | _ :: _, [], _ :: _, _, h => by simp at h
  | [], _ :: _, _ :: _, h, _ => by simp at h
  | _ :: _, _ :: _, [], h, _ => by simp at h
  | a :: x, b :: y, c :: z, h1, h2 => by
    have ih := lt_add (x := x) (y := y) (z := z) (by simpa using h1) (by simpa using h2)
    simp only [vadd, List.zipWith_cons_cons, HT.lexLt_cons] at ih ⊢
    by_cases e : a = b
    · rw [if_pos (by omega), if_pos e]; exact ih
    · rw [if_neg (by omega), if_neg e]
      by_cases l : a < b
      · rw [decide_eq_true l, decide_eq_true (by omega)]
      · rw [decide_eq_false l, decide_eq_false (by omega)]
/-! ### the ranks -/
def rkL (t : List Int) : List Int := t
def rkD (t : List Int) : List Int := t.sum :: t
def rkT (t : List Int) : List Int := t.sum :: t.reverse.map fun x => -x
def wsum (ws t : List Int) : Int := (List.zipWith (fun a b => a * b) t ws).sum
def rkW (ws t : List Int) : List Int := wsum ws t :: t
def zer (n : Nat) : List Int := List.replicate n 0
def Nn (t : List Int) : Prop := ∀ x ∈ t, 0 ≤ x
theorem sum_add : ∀ {a c : List Int}, a.length = c.length → (vadd a c).sum = a.sum + c.sum
  | [], [], _ => rfl
  | _ :: _, [], h => by simp at h
  | [], _ :: _, h => by simp at h
  | x :: a, y :: c, h => by
    have ih := sum_add (a := a) (c := c) (by simpa using h)
    simp only [vadd, List.zipWith_cons_cons, List.sum_cons] at ih ⊢
    omega
theorem wsum_add : ∀ {ws a c : List Int}, a.length = c.length → wsum ws (vadd a c) = wsum ws a + wsum ws c
  | _, [], [], _ => by simp [wsum, vadd]
  | _, _ :: _, [], h => by simp at h
  | _, [], _ :: _, h => by simp at h
  | [], x :: a, y :: c, h => by simp [wsum, vadd]
  | w :: ws, x :: a, y :: c, h => by
    have ih := wsum_add (ws := ws) (a := a) (c := c) (by simpa using h)
    simp only [wsum, vadd, List.zipWith_cons_cons, List.sum_cons] at ih ⊢
    rw [ih, Int.add_mul]; omega
theorem neg_add : ∀ {a c : List Int}, (vadd a c).map (fun x => -x) = vadd (a.map fun x => -x) (c.map fun x => -x)
  | [], _ => by simp [vadd]
  | _ :: _, [] => by simp [vadd]
  | x :: a, y :: c => by
    have ih := neg_add (a := a) (c := c)
    simp only [vadd, List.zipWith_cons_cons, List.map_cons] at ih ⊢
    rw [ih]; congr 1; omega
/-- what the law asks of a rank, for terms of n powers -/
structure OrdM (rk : List Int → List Int) (n : Nat) : Prop where
  add : ∀ a c : List Int, a.length = n → c.length = n → rk (vadd a c) = vadd (rk a) (rk c)
  inj : ∀ a b : List Int, a.length = n → b.length = n → rk a = rk b → a = b
  len : ∀ a b : List Int, a.length = n → b.length = n → (rk a).length = (rk b).length
  pos : ∀ a : List Int, a.length = n → Nn a → a ≠ zer n → lexLt (rk (zer n)) (rk a) = true
theorem zer_len (n : Nat) : (zer n).length = n := List.length_replicate
theorem sum_nn : ∀ {a : List Int}, Nn a → 0 ≤ a.sum
  | [], _ => Int.le_refl 0
  | x :: a, h => by
    have h1 := h x (.head _)
    have h2 := sum_nn (a := a) fun y hy => h y (.tail _ hy)
    rw [List.sum_cons]; omega
theorem sum_zer : ∀ n : Nat, (zer n).sum = 0
  | 0 => rfl
  | n + 1 => by
    show ((0 : Int) :: zer n).sum = 0
    rw [List.sum_cons, sum_zer n]; rfl
theorem sum_pos : ∀ {a : List Int}, Nn a → a ≠ zer a.length → 0 < a.sum
  | [], _, h => absurd rfl h
  | x :: a, h, hne => by
    have h1 := h x (.head _)
    have hn : Nn a := fun y hy => h y (.tail _ hy)
    have h2 := sum_nn hn
    rw [List.sum_cons]
    by_cases e : x = 0
    · have := sum_pos (a := a) hn fun z => hne (by
        show x :: a = 0 :: zer a.length
        rw [e, ← z])
      omega
    · omega
theorem lex_pos : ∀ {a : List Int}, Nn a → a ≠ zer a.length → lexLt (zer a.length) a = true
  | [], _, h => absurd rfl h
  | x :: a, h, hne => by
    have h1 := h x (.head _)
    show lexLt (0 :: zer a.length) (x :: a) = true
    rw [HT.lexLt_cons]
    by_cases e : 0 = x
    · rw [if_pos e]
      exact lex_pos (fun y hy => h y (.tail _ hy)) fun z => hne (by
        show x :: a = 0 :: zer a.length
        rw [← e, ← z])
    · rw [if_neg e]; exact decide_eq_true (by omega)
theorem ordL (n : Nat) : OrdM rkL n := ⟨fun _ _ _ _ => rfl, fun _ _ _ _ h => h, fun _ _ h1 h2 => h1.trans h2.symm, fun a h1 h2 h3 => by subst h1; exact lex_pos h2 h3⟩
theorem ordD (n : Nat) : OrdM rkD n := by
  refine ⟨fun a c h1 h2 => ?_, fun a b _ _ h => ?_, fun a b h1 h2 => ?_, fun a h1 h2 h3 => ?_⟩
  · show (vadd a c).sum :: vadd a c = (a.sum + c.sum) :: vadd a c
    rw [sum_add (h1.trans h2.symm)]
  · injection h
  · show (a.length + 1) = b.length + 1
    rw [h1, h2]
  · subst h1
    show lexLt ((zer a.length).sum :: _) (a.sum :: _) = true
    rw [HT.lexLt_cons, sum_zer]
    have := sum_pos h2 h3
    rw [if_neg (by omega)]
    exact decide_eq_true this
theorem ordT (n : Nat) : OrdM rkT n := by
  refine ⟨fun a c h1 h2 => ?_, fun a b _ _ h => ?_, fun a b h1 h2 => ?_, fun a h1 h2 h3 => ?_⟩
  · show (vadd a c).sum :: ((vadd a c).reverse.map fun x => -x) = (a.sum + c.sum) :: vadd (a.reverse.map fun x => -x) (c.reverse.map fun x => -x)
    rw [sum_add (h1.trans h2.symm), ← neg_add]
    congr 2
    exact List.reverse_zipWith (h1.trans h2.symm)
  · have h' : a.reverse.map (fun x => -x) = b.reverse.map (fun x => -x) := by injection h
    have e : ∀ l : List Int, (l.map fun x => -x).map (fun x => -x) = l := fun l => by
      rw [List.map_map]
      conv => rhs; rw [← List.map_id l]
      refine List.map_congr_left fun x _ => ?_
      show - -x = x
      omega
    have h2 := congrArg (List.map fun x => -x) h'
    rw [e, e] at h2
    exact List.reverse_inj.mp h2
  · simp [rkT, h1, h2]
  · subst h1
    show lexLt ((zer a.length).sum :: _) (a.sum :: _) = true
    rw [HT.lexLt_cons, sum_zer]
    have := sum_pos h2 h3
    rw [if_neg (by omega)]
    exact decide_eq_true this
theorem wsum_nn : ∀ {ws a : List Int}, Nn ws → Nn a → 0 ≤ wsum ws a
  | _, [], _, _ => by simp [wsum]
  | [], _ :: _, _, _ => by simp [wsum]
  | w :: ws, x :: a, h1, h2 => by
    have ih := wsum_nn (ws := ws) (a := a) (fun y hy => h1 y (.tail _ hy)) fun y hy => h2 y (.tail _ hy)
    have := Int.mul_nonneg (h2 x (.head _)) (h1 w (.head _))
    simp only [wsum, List.zipWith_cons_cons, List.sum_cons] at ih ⊢
    omega
theorem wsum_zer : ∀ (ws : List Int) (n : Nat), wsum ws (zer n) = 0
  | _, 0 => by simp [wsum, zer]
  | [], n + 1 => by simp [wsum]
  | w :: ws, n + 1 => by
    have ih := wsum_zer ws n
    show (0 * w :: List.zipWith (fun a b => a * b) (zer n) ws).sum = 0
    rw [List.sum_cons]
    unfold wsum at ih
    rw [ih]; simp
theorem ordW {ws : List Int} (hw : Nn ws) (n : Nat) : OrdM (rkW ws) n := by
  refine ⟨fun a c h1 h2 => ?_, fun a b _ _ h => ?_, fun a b h1 h2 => ?_, fun a h1 h2 h3 => ?_⟩
  · show wsum ws (vadd a c) :: vadd a c = (wsum ws a + wsum ws c) :: vadd a c
    rw [wsum_add (h1.trans h2.symm)]
  · injection h
  · show (a.length + 1) = b.length + 1
    rw [h1, h2]
  · subst h1
    show lexLt (wsum ws (zer a.length) :: zer a.length) (wsum ws a :: a) = true
    rw [HT.lexLt_cons, wsum_zer]
    have := wsum_nn hw h2
    by_cases e : 0 = wsum ws a
    · rw [if_pos e]; exact lex_pos h2 h3
    · rw [if_neg e]; exact decide_eq_true (by omega)
/-! ### unknowns taken out -/
/-- of the first k some is not nought in l, all are nought in r -/
structure Out (k : Nat) (l r : List Int) : Prop where
  len : l.length = r.length
  nl : Nn l
  nz : ∃ i, i < k ∧ i < l.length ∧ l.getD i 0 ≠ 0
  zr : ∀ i, i < k → r.getD i 0 = 0
theorem lex_out : ∀ {k : Nat} {l r : List Int}, Out k l r → lexLt r l = true
  | 0, _, _, h => by obtain ⟨i, hi, _⟩ := h.nz; omega
  | k + 1, [], _, h => by obtain ⟨i, _, hi, _⟩ := h.nz; simp at hi
  | k + 1, x :: l, [], h => by have := h.len; simp at this
  | k + 1, x :: l, y :: r, h => by
    have hx := h.nl x (.head _)
    have hy : y = 0 := by have := h.zr 0 (by omega); simpa using this
    rw [HT.lexLt_cons]
    by_cases e : y = x
    · rw [if_pos e]
      refine lex_out (k := k) ⟨by have := h.len; simpa using this, fun z hz => h.nl z (.tail _ hz), ?_, fun i hi => by have := h.zr (i + 1) (by omega); simpa using this⟩
      obtain ⟨i, h1, h2, h3⟩ := h.nz
      cases i with
      | zero => exfalso; apply h3; simp; omega
      | succ i => exact ⟨i, by omega, by simpa using h2, by simpa using h3⟩
    · rw [if_neg e]; exact decide_eq_true (by omega)
theorem wsum_out : ∀ {k : Nat} {ws l : List Int}, (∀ i, k ≤ i → ws.getD i 0 = 0) → (∀ i, i < k → l.getD i 0 = 0) → wsum ws l = 0
  | _, [], l, _, _ => by simp [wsum]
  | _, _ :: _, [], _, _ => by simp [wsum]
  | k, w :: ws, x :: l, h1, h2 => by
    have ih := wsum_out (k := k - 1) (ws := ws) (l := l) (fun i hi => by have := h1 (i + 1) (by omega); simpa using this) fun i hi => by have := h2 (i + 1) (by omega); simpa using this
    have : x * w = 0 := by
      cases k with
      | zero => have := h1 0 (by omega); simp at this; rw [this]; simp
      | succ k => have := h2 0 (by omega); simp at this; rw [this]; simp
    simp only [wsum, List.zipWith_cons_cons, List.sum_cons] at ih ⊢
    omega
theorem w_out {k : Nat} {ws l r : List Int} (hw : Nn ws) (h0 : ∀ i, k ≤ i → ws.getD i 0 = 0) (h : Out k l r) : lexLt (rkW ws r) (rkW ws l) = true := by
  show lexLt (wsum ws r :: r) (wsum ws l :: l) = true
  rw [HT.lexLt_cons, wsum_out h0 h.zr]
  have := wsum_nn hw h.nl
  by_cases e : 0 = wsum ws l
  · rw [if_pos e]; exact lex_out h
  · rw [if_neg e]; exact decide_eq_true (by omega)
/-- one power alone -/
def only (n at_ : Nat) (p : Int) : List Int := (List.range n).map fun i => if i = at_ then p else 0
theorem only_len (n a : Nat) (p : Int) : (only n a p).length = n := by simp [only]
theorem only_get (n a : Nat) (p : Int) (i : Nat) : (only n a p).getD i 0 = if i < n ∧ i = a then p else 0 := by
  unfold only
  rw [List.getD_eq_getElem?_getD, List.getElem?_map]
  by_cases h : i < n
  · rw [List.getElem?_range h]
    by_cases e : i = a
    · subst e; simp [h]
    · simp [e]
  · rw [List.getElem?_eq_none (by simpa using h)]; simp [h]
theorem only_nn {n a : Nat} {p : Int} (hp : 0 ≤ p) : Nn (only n a p) := fun x hx => by
  obtain ⟨i, _, rfl⟩ := List.mem_map.mp hx
  split <;> omega
theorem sum_only : ∀ {n a : Nat} {p : Int}, a < n → (only n a p).sum = p
  | 0, _, _, h => by omega
  | n + 1, a, p, h => by
    have e : only (n + 1) a p = only n a p ++ [if n = a then p else 0] := by unfold only; rw [List.range_succ, List.map_append]; rfl
    rw [e, List.sum_append]
    by_cases q : n = a
    · have z : only n a p = zer n := by
        unfold only zer
        rw [List.eq_replicate_iff]
        refine ⟨by simp, fun x hx => ?_⟩
        obtain ⟨i, hi, rfl⟩ := List.mem_map.mp hx
        rw [List.mem_range] at hi
        rw [if_neg (by omega)]
      rw [z, sum_zer, if_pos q]; simp
    · rw [sum_only (by omega), if_neg q]; simp
theorem d_not {n a : Nat} (h0 : 0 < n) (h : a < n) : lexLt (rkD (only n 0 1)) (rkD (only n a 2)) = true := by
  show lexLt ((only n 0 1).sum :: _) ((only n a 2).sum :: _) = true
  rw [HT.lexLt_cons, sum_only h0, sum_only h, if_neg (by decide)]; rfl
theorem t_not {n a : Nat} (h0 : 0 < n) (h : a < n) : lexLt (rkT (only n 0 1)) (rkT (only n a 2)) = true := by
  show lexLt ((only n 0 1).sum :: _) ((only n a 2).sum :: _) = true
  rw [HT.lexLt_cons, sum_only h0, sum_only h, if_neg (by decide)]; rfl
theorem wsum_app (ws l m : List Int) (hl : l.length = ws.length) (v w : Int) : wsum (ws ++ [w]) (l ++ [v]) = wsum ws l + v * w := by
  unfold wsum
  rw [List.zipWith_append hl, List.sum_append]; simp
theorem wsum_only : ∀ {n a : Nat} {p : Int} {ws : List Int}, ws.length = n → a < n → wsum ws (only n a p) = p * ws.getD a 0 := by
  intro n
  induction n with
  | zero => intro a p ws _ h; omega
  | succ n ih =>
    intro a p ws hw h
    have hd : ws = ws.take n ++ [ws.getD n 0] := by
      have : ws.take (n + 1) = ws := List.take_of_length_le (by omega)
      conv => lhs; rw [← this]
      rw [List.take_add_one, List.getElem?_eq_getElem (by omega)]
      simp [List.getD, show n < ws.length by omega]
    have e : only (n + 1) a p = only n a p ++ [if n = a then p else 0] := by unfold only; rw [List.range_succ, List.map_append]; rfl
    have ht : (ws.take n).length = n := by rw [List.length_take]; omega
    conv => lhs; rw [hd, e]
    rw [wsum_app _ _ [] (by rw [only_len, ht])]
    by_cases q : n = a
    · have z : only n a p = zer n := by
        unfold only zer
        rw [List.eq_replicate_iff]
        refine ⟨by simp, fun x hx => ?_⟩
        obtain ⟨i, hi, rfl⟩ := List.mem_map.mp hx
        rw [List.mem_range] at hi
        rw [if_neg (by omega)]
      rw [z, wsum_zer, if_pos q, q]; omega
    · rw [if_neg q, ih ht (by omega)]
      have : (ws.take n).getD a 0 = ws.getD a 0 := by
        rw [List.getD_eq_getElem?_getD, List.getD_eq_getElem?_getD, List.getElem?_take_of_lt (by omega)]
      rw [this]; omega
theorem w_not {n a : Nat} {ws : List Int} (hw : Nn ws) (hl : ws.length = n) (h0 : 0 < n) (h : a < n) (hz : ws.getD a 0 ≠ 0) : lexLt (rkW ws (only n 0 1)) (rkW ws (only n a (ws.getD 0 0 + 1))) = true := by
  show lexLt (wsum ws (only n 0 1) :: _) (wsum ws (only n a _) :: _) = true
  rw [HT.lexLt_cons, wsum_only hl h0, wsum_only hl h]
  have g : ∀ i, 0 ≤ ws.getD i 0 := fun i => by
    rw [List.getD_eq_getElem?_getD]
    cases q : ws[i]? with
    | none => exact Int.le_refl 0
    | some v => exact hw v (List.mem_of_getElem? q)
  have g0 := g 0
  have ga := g a
  have m : (ws.getD 0 0 + 1) * 1 ≤ (ws.getD 0 0 + 1) * ws.getD a 0 := Int.mul_le_mul_of_nonneg_left (by omega) (by omega)
  rw [if_neg (by omega)]
  exact decide_eq_true (by omega)
end K6

namespace K6
open L2 PySem

/-- what stands in the order of a mapped list is the map of a like list -/
theorem perm_map_inv {α β : Type} (f : α → β) : ∀ {l m : List β}, l.Perm m → ∀ m' : List α, m = m'.map f → ∃ l' : List α, l'.Perm m' ∧ l = l'.map f := by
  intro l m h
  induction h with
  | nil => intro m' e; exact ⟨[], (by cases m' with | nil => exact .nil | cons => simp at e), rfl⟩
  | cons x _ ih =>
    intro m' e
    cases m' with
    | nil => simp at e
    | cons y m' =>
      rw [List.map_cons] at e
      injection e with e1 e2
      obtain ⟨l', p, q⟩ := ih m' e2
      exact ⟨y :: l', p.cons y, by rw [q, e1]; rfl⟩
  | swap x y l =>
    intro m' e
    cases m' with
    | nil => simp at e
    | cons a m' =>
      cases m' with
      | nil => simp at e
      | cons b m' =>
        simp only [List.map_cons] at e
        injection e with e1 e2
        injection e2 with e2 e3
        exact ⟨b :: a :: m', List.Perm.swap a b m', by rw [e1, e2, e3]; rfl⟩
  | trans _ _ ih1 ih2 =>
    intro m' e
    obtain ⟨l2, p2, q2⟩ := ih2 m' e
    obtain ⟨l1, p1, q1⟩ := ih1 l2 q2
    exact ⟨l1, p1.trans p2, q1⟩
/-- falling lists of the same things are one -/
theorem fall_one {l m : List (List Int)} (p : l.Perm m) (h1 : l.Pairwise fun a b => HT.lexLt a b = false) (h2 : m.Pairwise fun a b => HT.lexLt a b = false) : l = m := by
  refine List.Perm.eq_of_pairwise (le := fun a b => HT.lexLt a b = false) (fun a b _ _ x y => ?_) h1 h2 p
  exact Classical.byContradiction fun ne => by
    have := lt_tri ne
    rw [x, y] at this
    cases this
theorem zip_map_l {α β γ : Type} (f : α → γ) : ∀ (xs : List α) (ys : List β), (xs.map f).zip ys = (xs.zip ys).map fun p => (f p.1, p.2)
  | [], _ => by simp
  | _ :: _, [] => by simp
  | x :: xs, y :: ys => by simp [zip_map_l f xs ys]
/-- a term at v -/
def Trm (H : Hp) (xs : List Int) (v : V) : Prop := ∃ r, v = .ref r ∧ H r = some (.tup (xs.map V.int))
theorem Trm.same {H H' : Hp} {xs : List Int} {v : V} (e : Same H H') (h : Trm H xs v) : Trm H' xs v := let ⟨r, a, b⟩ := h; ⟨r, a, e _ _ b⟩
theorem pimp {α : Type} {R S : α → V → Prop} (h : ∀ a v, R a v → S a v) : ∀ {l : List α} {ys : List V}, Paired R l ys → Paired S l ys
  | _, _, .nil => .nil
  | _, _, .cons r t => .cons (h _ _ r) (pimp h t)
theorem psnoc {α : Type} {R : α → V → Prop} {a : α} {v : V} (r : R a v) : ∀ {l : List α} {ys : List V}, Paired R l ys → Paired R (l ++ [a]) (ys ++ [v])
  | _, _, .nil => .cons r .nil
  | _, _, .cons q t => .cons q (psnoc r t)
/-- of n powers -/
structure Tm (n : Nat) (xs : List Int) : Prop where
  len : xs.length = n
  nn : Nn xs
  b : ∀ x ∈ xs, x < 10 ^ 31
end K6

namespace K6
open PySem L2
def top (i : Nat) : Stmt := PySem.Challenge.pw_idealroom_k05_orders_rank.main.body.getD i (.Pass ⟨0, 0, 0, 0⟩)
abbrev s_degree : Stmt := top 6
abbrev s_Order_rank : Stmt := inClass (top 8) 0
abbrev s_Degrees_rank : Stmt := inClass (top 9) 0
abbrev s_Tails_rank : Stmt := inClass (top 10) 0
abbrev s_Weights___init__ : Stmt := inClass (top 11) 0
abbrev s_Weights_rank : Stmt := inClass (top 11) 1
abbrev s_Order_goes_before : Stmt := inClass (top 8) 1
abbrev s_Order_falling : Stmt := inClass (top 8) 2
abbrev s_Order_first_of : Stmt := inClass (top 8) 3
abbrev s_Order_fits : Stmt := inClass (top 8) 5
abbrev s_Weights_fits : Stmt := inClass (top 11) 3
abbrev s__law_cell : Stmt := top 13
abbrev s__law_truth : Stmt := top 14
abbrev s__law_power : Stmt := top 15
abbrev s__law_weights : Stmt := top 16
abbrev s__law_order : Stmt := top 17
abbrev s__law_rank_is : Stmt := top 19
abbrev s__law_first : Stmt := top 20
abbrev s__law_rank : Stmt := top 18
abbrev s__law_falls : Stmt := top 21
abbrev s__law_weights_told : Stmt := top 22
abbrev s_law : Stmt := top 23
structure Txt (K : PySem.W.Frag) (mg : Str → Option Value) (C_Order C_Degrees C_Tails C_Weights : Addr) : Prop where
  b_any : mg "any" = none
  b_bool : mg "bool" = none
  b_int : mg "int" = none
  b_isinstance : mg "isinstance" = none
  b_len : mg "len" = none
  b_list : mg "list" = none
  b_max : mg "max" = none
  b_range : mg "range" = none
  b_reversed : mg "reversed" = none
  b_sorted : mg "sorted" = none
  b_sum : mg "sum" = none
  b_tuple : mg "tuple" = none
  b_zip : mg "zip" = none
  cl_Order : Cls K C_Order
  mg_Order : mg "Order" = some (.ref C_Order)
  n0_Order : Mk0 K C_Order
  cl_Degrees : Cls K C_Degrees
  mg_Degrees : mg "Degrees" = some (.ref C_Degrees)
  n0_Degrees : Mk0 K C_Degrees
  cl_Tails : Cls K C_Tails
  mg_Tails : mg "Tails" = some (.ref C_Tails)
  n0_Tails : Mk0 K C_Tails
  cl_Weights : Cls K C_Weights
  mg_Weights : mg "Weights" = some (.ref C_Weights)
  na_Weights_weights : NoAttr K C_Weights "weights"
  kbb : PySem.W.kitOne K (.type "bool") (.type "bool") = some true
  kii : PySem.W.kitOne K (.type "int") (.type "int") = some true
  kib : PySem.W.kitOne K (.type "int") (.type "bool") = some false
  ktt : PySem.W.kitOne K (.type "tuple") (.type "tuple") = some true
  kll : PySem.W.kitOne K (.type "list") (.type "list") = some true
  kio_Order : PySem.W.kitOne K (.ref C_Order) (.ref C_Order) = some true
  kio_Degrees : PySem.W.kitOne K (.ref C_Degrees) (.ref C_Order) = some true
  kio_Tails : PySem.W.kitOne K (.ref C_Tails) (.ref C_Order) = some true
  kio_Weights : PySem.W.kitOne K (.ref C_Weights) (.ref C_Order) = some true
  isg : PySem.W.specialIn K (.builtin "object.__class__") "__get__" = some (some (.builtin "getset_descriptor.__get__"))
  ist : PySem.W.takesIn K (.builtin "object.__class__") = some true
  isc_Order : PySem.W.findIn K (.ref C_Order) "__class__" = some (some (.builtin "object.__class__"))
  ism_Order : PySem.W.mroIn K C_Order (.type "object") = some true
  isc_Degrees : PySem.W.findIn K (.ref C_Degrees) "__class__" = some (some (.builtin "object.__class__"))
  ism_Degrees : PySem.W.mroIn K C_Degrees (.type "object") = some true
  isc_Tails : PySem.W.findIn K (.ref C_Tails) "__class__" = some (some (.builtin "object.__class__"))
  ism_Tails : PySem.W.mroIn K C_Tails (.type "object") = some true
  isc_Weights : PySem.W.findIn K (.ref C_Weights) "__class__" = some (some (.builtin "object.__class__"))
  ism_Weights : PySem.W.mroIn K C_Weights (.type "object") = some true
theorem nd_power : (["power"] : List Str).Nodup := by decide +kernel
theorem nd_weight : (["weight"] : List Str).Nodup := by decide +kernel
theorem nd_power_weight : (["power", "weight"] : List Str).Nodup := by decide +kernel
theorem nd__law_at__law_cell_here : (["_law_at", "_law_cell_here"] : List Str).Nodup := by decide +kernel
theorem nd__law_at__law_term__law_weights_here : (["_law_at", "_law_term", "_law_weights_here"] : List Str).Nodup := by decide +kernel
theorem nd__law_at__law_term : (["_law_at", "_law_term"] : List Str).Nodup := by decide +kernel
theorem nd__law_one__law_many : (["_law_one", "_law_many"] : List Str).Nodup := by decide +kernel
theorem nd__law_at__law_one : (["_law_at", "_law_one"] : List Str).Nodup := by decide +kernel
theorem nd__law_term__law_kind__law_weights_here : (["_law_term", "_law_kind", "_law_weights_here"] : List Str).Nodup := by decide +kernel
theorem ixT_of {K : PySem.W.Frag} {H : Hp} {p : Addr} {xs : List V} {i : Int} {v : V} {Q : V → Hp → Prop} (h : SqT K H p xs) (h' : atI xs i = some v) (q : Q v H) : rIxT K (.ref p) (.int i) H Q := ⟨p, xs, i, v, rfl, rfl, h, h', q⟩
end K6
namespace K6
open PySem L2

open HT (lexLt)
/-- a term's powers -/
structure Pws (xs : List Int) : Prop where
  len : xs.length ≤ 100
  ne : xs ≠ []
  nn : Nn xs
  hi : ∀ x ∈ xs, x < 10 ^ 31
theorem mem_or (xs : List Int) (i : Nat) : xs.getD i 0 = 0 ∨ xs.getD i 0 ∈ xs := by
  rw [List.getD_eq_getElem?_getD]
  cases q : xs[i]? with
  | none => exact .inl rfl
  | some v => exact .inr (List.mem_of_getElem? q)
theorem Nn.getD {xs : List Int} (h : Nn xs) (i : Nat) : 0 ≤ xs.getD i 0 := by
  rcases mem_or xs i with q | q
  · omega
  · exact h _ q
theorem bits {xs : List Int} (h1 : Nn xs) (h2 : ∀ x ∈ xs, x < 10 ^ 31) (i : Nat) : (xs.getD i 0).natAbs < 2 ^ 4000 := by
  have h0 := h1.getD i
  have h3 : (xs.getD i 0).natAbs < 2 ^ 110 := by
    have e : ((2 ^ 110 : Nat) : Int) = 2 ^ 110 := by decide
    have l : (10 : Int) ^ 31 < 2 ^ 110 := by decide
    rcases mem_or xs i with q | q
    · omega
    · have := h2 _ q; omega
  exact Nat.lt_of_lt_of_le h3 (Nat.pow_le_pow_right (by decide) (by decide))

structure OrdC (C : Addr) (At : Hp → Addr → Prop) : Prop where
  same : ∀ {H H' : Hp} {p : Addr}, Same H H' → At H p → At H' p
  ins : ∀ {H : Hp} {p : Addr}, At H p → ∃ dx fs, H p = some (.ins C dx fs) ∧ ∀ m : Str, ¬ m = "weights" → fs.lookup m = none
def AtO (C : Addr) (H : Hp) (p : Addr) : Prop := ∃ dx, H p = some (.ins C dx [])
def AtW (C : Addr) (ws : List Int) (H : Hp) (p : Addr) : Prop := ∃ dx wt, H p = some (.ins C dx [("weights", .ref wt)]) ∧ H wt = some (.tup (ws.map V.int))

theorem no_W (v : V) (m : Str) (h : ¬ m = "weights") : ([("weights", v)] : List (Str × V)).lookup m = none := by
  have e : (m == (Str.ofString "weights")) = false := by
    cases q : (m == (Str.ofString "weights")) with
    | true => exact absurd (eq_of_beq q) h
    | false => rfl
  simp only [List.lookup, e]
theorem ordcO (C : Addr) : OrdC C (AtO C) := ⟨fun e ⟨dx, h⟩ => ⟨dx, e _ _ h⟩, fun ⟨dx, h⟩ => ⟨dx, [], h, fun _ _ => rfl⟩⟩
theorem ordcW (C : Addr) (ws : List Int) : OrdC C (AtW C ws) := ⟨fun e ⟨dx, wt, h1, h2⟩ => ⟨dx, wt, e _ _ h1, e _ _ h2⟩, fun ⟨dx, wt, h, _⟩ => ⟨dx, _, h, no_W _⟩⟩
def spDeg (K : PySem.W.Frag) : Sp := fun vs H Q _ => ∃ (a : Addr) (xs : List Int), vs = [.ref a] ∧ SqT K H a (xs.map V.int) ∧ Q (.int xs.sum) H
def spRank (At : Hp → Addr → Prop) (rk : List Int → List Int) : Sp := fun vs H Q _ => ∃ (p t : Addr) (xs : List Int), vs = [.ref p, .ref t] ∧ At H p ∧ H t = some (.tup (xs.map V.int)) ∧ Pws xs ∧ ∀ r H', Same H H' → H' r = some (.tup ((rk xs).map V.int)) → Q (.ref r) H'
def spGB (At : Hp → Addr → Prop) (rk : List Int → List Int) : Sp := fun vs H Q _ => ∃ (p a b : Addr) (xs ys : List Int), vs = [.ref p, .ref a, .ref b] ∧ At H p ∧ H a = some (.tup (xs.map V.int)) ∧ H b = some (.tup (ys.map V.int)) ∧ Pws xs ∧ Pws ys ∧
  ∀ H', Same H H' → Q (.bl (HT.lexLt (rk ys) (rk xs))) H'
def spWInit (K : PySem.W.Frag) (C NO : Addr) : Sp := fun vs H Q E => ∃ (p dx l : Addr) (ws : List Int), vs = [.ref p, .ref l] ∧ H p = some (.ins C dx []) ∧ SqL K H l (ws.map V.int) ∧ ws.length ≤ 100 ∧
  ((Nn ws ∧ ∀ wt H', H' p = some (.ins C dx [("weights", .ref wt)]) → H' wt = some (.tup (ws.map V.int)) → (∀ b o, H b = some o → b ≠ p → H' b = some o) → Q .non H') ∨ (¬ Nn ws ∧ ∀ H', Same H H' → E (.ref NO) none H'))
def cellOf (ns : List Int) (k : Int) : Int := ns.getD k.toNat 0
def spCell (K : PySem.W.Frag) : Sp := fun vs H Q _ => ∃ (a : Addr) (ns : List Int) (k : Int), vs = [.ref a, .int k] ∧ SqL K H a (ns.map V.int) ∧ 0 ≤ k ∧ Q (.int (cellOf ns k)) H
theorem atI_int {ns : List Int} {k : Int} (h0 : 0 ≤ k) (h : k < (ns.length : Int)) : atI (ns.map V.int) k = some (.int (cellOf ns k)) := by
  have hk : k.toNat < ns.length := by omega
  have ek : k = ((k.toNat : Nat) : Int) := by omega
  have q : atI (ns.map V.int) ((k.toNat : Nat) : Int) = some (.int ns[k.toNat]) := atI_nat (by rw [List.getElem?_map, List.getElem?_eq_getElem hk] <;> rfl)
  rw [← ek] at q
  rw [q]
  unfold cellOf
  rw [List.getD_eq_getElem?_getD, List.getElem?_eq_getElem hk]; rfl

def AtK (CO CD CT CW : Addr) (k : Int) (ws : List Int) : Hp → Addr → Prop := if k = 0 then AtO CO else if k = 1 then AtO CD else if k = 2 then AtO CT else AtW CW ws
def spOrder (K : PySem.W.Frag) (CO CD CT CW : Addr) : Sp := fun vs H Q _ => ∃ (k : Int) (l : Addr) (ws : List Int), vs = [.int k, .ref l] ∧ SqL K H l (ws.map V.int) ∧ ws.length ≤ 100 ∧ Nn ws ∧ ∀ p H', Same H H' → AtK CO CD CT CW k ws H' p → Q (.ref p) H'
noncomputable instance instDecNn (ws : List Int) : Decidable (Nn ws) := Classical.propDecidable _
theorem any_neg (ws : List Int) : ((List.range ws.length).map fun i => decide (ws.getD i 0 < 0)).any id = !decide (Nn ws) := by
  by_cases h : Nn ws
  · rw [decide_eq_true h, Bool.not_true, List.any_eq_false]
    intro b hb
    obtain ⟨i, _, rfl⟩ := List.mem_map.mp hb
    have := h.getD i
    show decide (ws.getD i 0 < 0) ≠ true
    rw [decide_eq_false (by omega)]
    decide
  · rw [decide_eq_false h, Bool.not_false, List.any_eq_true]
    have : ∃ x ∈ ws, x < 0 := Classical.byContradiction fun z => h fun x hx => by
      rcases (by omega : x < 0 ∨ 0 ≤ x) with q | q
      · exact absurd ⟨x, hx, q⟩ z
      · exact q
    obtain ⟨x, hx, q⟩ := this
    obtain ⟨i, hi, e⟩ := List.mem_iff_getElem.mp hx
    exact ⟨_, List.mem_map.mpr ⟨i, List.mem_range.mpr hi, rfl⟩, by simp [List.getD, hi, e, q]⟩


def spFall (At : Hp → Addr → Prop) (rk : List Int → List Int) : Sp := fun vs H Q _ => ∃ (p l : Addr) (ys : List V) (xss : List (List Int)), vs = [.ref p, .ref l] ∧ At H p ∧ H l = some (.lst ys) ∧ Paired (Trm H) xss ys ∧ (∀ xs ∈ xss, Pws xs) ∧ ys.length < 64 ∧
  ∀ D H' (ps : List (List Int × V)), Same H H' → ps.Perm (xss.zip ys) → ps.Pairwise (fun p q => HT.lexLt (rk p.1) (rk q.1) = false) → H' D = some (.lst (ps.map (·.2))) → Q (.ref D) H'
def spFirst (At : Hp → Addr → Prop) (rk : List Int → List Int) (NT : Addr) : Sp := fun vs H Q E => ∃ (p l : Addr) (ys : List V) (xss : List (List Int)), vs = [.ref p, .ref l] ∧ At H p ∧ H l = some (.lst ys) ∧ Paired (Trm H) xss ys ∧ (∀ xs ∈ xss, Pws xs) ∧
  ((ys = [] ∧ E (.ref NT) none H) ∨ (ys ≠ [] ∧ ∀ H' xs v, Same H H' → (xs, v) ∈ xss.zip ys → (∀ p ∈ xss.zip ys, HT.lexLt (rk xs) (rk p.1) = false) → Q v H'))
def spFits (At : Hp → Addr → Prop) (b : Int → Bool) : Sp := fun vs H Q _ => ∃ (p : Addr) (k : Int), vs = [.ref p, .int k] ∧ At H p ∧ ∀ H', Same H H' → Q (.bl (b k)) H'
/-- the keys one by one -/
theorem sk_walk {K : PySem.W.Frag} {At : Hp → Addr → Prop} {rk : List Int → List Int} {C p : Addr} (oC : OrdC C At) (ne : ∀ xs, Pws xs → rk xs ≠ []) {F : List V → Hp → Prop} : ∀ (xss : List (List Int)) (ys ks : List V) (kis : List (List Int)) (H H1 : Hp), Same H H1 → At H1 p → Paired (Trm H1) xss ys → (∀ xs ∈ xss, Pws xs) →
    Paired (fun ns k => ∃ t, k = V.ref t ∧ SqT K H1 t (ns.map V.int) ∧ ns ≠ []) kis ks →
    (∀ ks' H', Same H H' → Paired (fun ns k => ∃ t, k = V.ref t ∧ SqT K H' t (ns.map V.int) ∧ ns ≠ []) (kis ++ xss.map rk) ks' → F ks' H') →
    skGo (fun x H Q => spRank At rk [.ref p, x] H Q E0) ys ks H1 F
  | [], _, ks, kis, H, H1, e, _, .nil, _, hk, hF => by
    have := hF ks H1 e (by simpa using hk)
    exact this
  | xs :: xss, _, ks, kis, H, H1, e, hp, .cons ⟨r, er, hr⟩ t, hw, hk, hF => by
    subst er
    refine ⟨p, r, xs, rfl, hp, hr, hw xs (.head _), fun k H2 e2 hk2 => ?_⟩
    refine sk_walk oC ne xss _ _ (kis ++ [rk xs]) H H2 (e.trans e2) (oC.same e2 hp) (pimp (fun _ _ h => h.same e2) t) (fun x hx => hw x (.tail _ hx)) (psnoc ⟨k, rfl, SqT.of hk2, ne xs (hw xs (.head _))⟩ (pimp (fun _ _ ⟨t, q1, q2, q3⟩ => ⟨t, q1, e2.seqT q2, q3⟩) hk)) fun ks' H' e' hk' => hF ks' H' e' ?_
    simpa using hk'
/-- the greatest so far -/
theorem mx_walk {K : PySem.W.Frag} {At : Hp → Addr → Prop} {rk : List Int → List Int} {C p l : Addr} {all : List V} (oC : OrdC C At) {Q : VK} : ∀ (xss : List (List Int)) (ys : List V) (xb : List Int) (b : V) (c : Addr) (H H1 : Hp) (done : List (List Int)), Same H H1 → At H1 p → H1 l = some (.lst all) → Paired (Trm H1) xss ys → (∀ xs ∈ xss, Pws xs) →
    SqT K H1 c ((rk xb).map V.int) → (∀ d ∈ done, HT.lexLt (rk xb) (rk d) = false) →
    (∀ H' x v, Same H H' → ((x, v) = (xb, b) ∨ (x, v) ∈ xss.zip ys) → (∀ d ∈ done, HT.lexLt (rk x) (rk d) = false) → (∀ d ∈ xss, HT.lexLt (rk x) (rk d) = false) → Q v H') →
    mxGo K l all (fun x H Q => spRank At rk [.ref p, x] H Q E0) ys b (.ref c) H1 Q
  | [], _, xb, b, c, H, H1, done, e, _, _, .nil, _, _, hd, hQ => hQ H1 xb b e (.inl rfl) hd (fun _ h => nomatch h)
  | xs :: xss, _ :: ys, xb, b, c, H, H1, done, e, hp, hl, .cons ⟨r, er, hr⟩ t, hw, hc, hd, hQ => by
    subst er
    refine ⟨p, r, xs, rfl, hp, hr, hw xs (.head _), fun k H2 e2 hk2' => have hk2 := SqT.of (K := K) hk2'; ⟨e2 _ _ hl, k, c, rk xs, rk xb, rfl, rfl, hk2, e2.seqT hc, fun hlt => ?_, fun hge => ?_⟩⟩
    · refine mx_walk oC xss ys xs (.ref r) k H H2 (xs :: xb :: done) (e.trans e2) (oC.same e2 hp) (e2 _ _ hl) (pimp (fun _ _ h => h.same e2) t) (fun x hx => hw x (.tail _ hx)) hk2 (fun d h => ?_) fun H' x v e' hm h1 h2 => hQ H' x v e' (.inr ?_) (fun d hd' => h1 d (.tail _ (.tail _ hd'))) (fun d hd' => ?_)
      · rcases List.mem_cons.mp h with rfl | h
        · exact lt_irr _
        rcases List.mem_cons.mp h with rfl | h
        · exact lt_asym hlt
        · cases q : HT.lexLt (rk xs) (rk d) with
          | false => rfl
          | true => have := lt_tr hlt q; rw [hd d h] at this; cases this
      · rcases hm with hm | hm
        · rw [hm]; exact .head _
        · exact .tail _ hm
      · rcases List.mem_cons.mp hd' with rfl | hd'
        · exact h1 d (.head _)
        · exact h2 d hd'
    · refine mx_walk oC xss ys xb b c H H2 (xs :: done) (e.trans e2) (oC.same e2 hp) (e2 _ _ hl) (pimp (fun _ _ h => h.same e2) t) (fun x hx => hw x (.tail _ hx)) (e2.seqT hc) (fun d h => ?_) fun H' x v e' hm h1 h2 => hQ H' x v e' ?_ (fun d hd' => h1 d (.tail _ hd')) (fun d hd' => ?_)
      · rcases List.mem_cons.mp h with rfl | h
        · exact hge
        · exact hd d h
      · rcases hm with hm | hm
        · exact .inl hm
        · exact .inr (.tail _ hm)
      · rcases List.mem_cons.mp hd' with rfl | hd'
        · exact h1 d (.head _)
        · exact h2 d hd'
theorem mx_all {K : PySem.W.Frag} {At : Hp → Addr → Prop} {rk : List Int → List Int} {C p l : Addr} {all : List V} (oC : OrdC C At) {Q : VK} : ∀ (xss : List (List Int)) (ys : List V) (H : Hp), At H p → H l = some (.lst all) → Paired (Trm H) xss ys → (∀ xs ∈ xss, Pws xs) → ys ≠ [] →
    (∀ H' x v, Same H H' → (x, v) ∈ xss.zip ys → (∀ q ∈ xss.zip ys, HT.lexLt (rk x) (rk q.1) = false) → Q v H') →
    mxAll K l all (fun x H Q => spRank At rk [.ref p, x] H Q E0) ys H Q
  | [], _, H, _, _, .nil, _, ne, _ => absurd rfl ne
  | xs :: xss, _ :: ys, H, hp, hl, .cons ⟨r, er, hr⟩ t, hw, _, k => by
    subst er
    refine ⟨p, r, xs, rfl, hp, hr, hw xs (.head _), fun k' H2 e2 hk2' => have hk2 := SqT.of (K := K) hk2'; ⟨e2 _ _ hl, ?_⟩⟩
    refine mx_walk oC xss ys xs (.ref r) k' H H2 [xs] e2 (oC.same e2 hp) (e2 _ _ hl) (pimp (fun _ _ h => h.same e2) t) (fun x hx => hw x (.tail _ hx)) hk2 (fun d hd => ?_) fun H' x v e' hm g1 g2 => k H' x v e' ?_ fun q hq' => ?_
    · rw [List.mem_singleton.mp hd]; exact lt_irr _
    · rcases hm with hm | hm
      · rw [hm]; exact .head _
      · exact .tail _ hm
    · rcases List.mem_cons.mp hq' with rfl | hq'
      · exact g1 _ (.head _)
      · exact g2 _ (List.of_mem_zip hq').1

def spTruth : Sp := fun vs H Q _ => ∃ (b : Bool), vs = [.bl b, .bl b] ∧ Q (.bl true) H
def spPower : Sp := fun vs H Q _ => ∃ (c a : Int), vs = [.int c, .int a] ∧ 0 ≤ a ∧ a ≤ 10 ∧ ∀ x : Int, 0 ≤ x → x < 10 ^ 31 → Q (.int x) H
def wtF (c : Int) (i : Nat) : Int := if c / 4 % 2 = 0 then c * (69621 + 2 * (0 + (i : Int))) % 10009 / 5 % 3 else c * (69621 + 2 * (0 + (i : Int))) % (10 ^ (Int.toNat 20) + 39 + (0 + (i : Int)))
def wsF (c m : Int) : List Int := (List.range m.toNat).map (wtF c)
theorem wsF_tm {c m : Int} (h : m ≤ 10) : Tm m.toNat (wsF c m) := by
  have e20 : (10 : Int) ^ (Int.toNat 20) = 10 ^ 20 := by decide
  refine ⟨by simp [wsF], fun x hx => ?_, fun x hx => ?_⟩ <;> (obtain ⟨i, hi, rfl⟩ := List.mem_map.mp hx; rw [List.mem_range] at hi; unfold wtF; split)
  · omega
  · exact Int.emod_nonneg _ (by rw [e20]; omega)
  · omega
  · exact Int.lt_of_lt_of_le (Int.emod_lt_of_pos _ (by rw [e20]; omega)) (by rw [e20]; omega)
def spWts : Sp := fun vs H Q _ => ∃ (c m : Int), vs = [.int c, .int m] ∧ 1 ≤ m ∧ m ≤ 10 ∧ ∀ (D : Addr) (H' : Hp), Same H H' → H' D = some (.lst ((wsF c m).map V.int)) → Q (.ref D) H'
def rkk (kd : Int) (ws xs : List Int) : List Int := if kd = 0 then rkL xs else if kd = 3 then rkW ws xs else if kd = 1 then rkD xs else rkT xs
def spLRank (K : PySem.W.Frag) : Sp := fun vs H Q _ => ∃ (kd : Int) (l t : Addr) (ws xs : List Int) (n : Nat), vs = [.int kd, .ref l, .ref t] ∧ SqL K H l (ws.map V.int) ∧ SqT K H t (xs.map V.int) ∧ Tm n xs ∧ Tm n ws ∧ 1 ≤ n ∧ n ≤ 10 ∧
  ∀ D H', H D = none → Same H H' → H' D = some (.lst ((rkk kd ws xs).map V.int)) → Q (.ref D) H'
def spIs (K : PySem.W.Frag) : Sp := fun vs H Q _ => ∃ (a b : Addr) (xs : List Int), vs = [.ref a, .ref b] ∧ H a = some (.tup (xs.map V.int)) ∧ SqL K H b (xs.map V.int) ∧ xs.length ≤ 1000 ∧ ∀ H', Same H H' → Q (.bl true) H'
def spLFirst (At : Hp → Addr → Prop) (rk : List Int → List Int) : Sp := fun vs H Q _ => ∃ (p l : Addr) (ys : List V) (xss : List (List Int)), vs = [.ref p, .ref l] ∧ At H p ∧ H l = some (.lst ys) ∧ Paired (Trm H) xss ys ∧ (∀ xs ∈ xss, Pws xs) ∧
  (ys = [] → Q .non H) ∧ (ys ≠ [] → ∀ H' xs v, Same H H' → (xs, v) ∈ xss.zip ys → (∀ p ∈ xss.zip ys, HT.lexLt (rk xs) (rk p.1) = false) → Q v H')
theorem Tm.pws {n : Nat} {xs : List Int} (h : Tm n xs) (h1 : 1 ≤ n) (h2 : n ≤ 100) : Pws xs := by
  refine ⟨by rw [h.len]; exact h2, fun z => ?_, h.nn, h.b⟩
  have := h.len; rw [z] at this; simp at this; omega

theorem wsum_range {n : Nat} {xs ws : List Int} (h1 : xs.length = n) (h2 : ws.length = n) : (List.range n).map (fun i => xs.getD i 0 * ws.getD i 0) = List.zipWith (fun a b => a * b) xs ws := by
  refine List.ext_getElem (by simp [h1, h2]) fun i a b => ?_
  have i1 : i < xs.length := by simp at a; omega
  have i2 : i < ws.length := by simp at a; omega
  simp [List.getD, i1, i2]
theorem cell_nat (xs : List Int) (i : Nat) : cellOf xs (0 + (i : Int)) = xs.getD i 0 := by
  unfold cellOf
  have : (0 + (i : Int)).toNat = i := by omega
  rw [this]

def tds (xss : List (List Int)) : List PyData := xss.map fun xs => PyData.tuple (xs.map PyData.int)
theorem rds_trms {K : PySem.W.Frag} {H : Hp} : ∀ {xss : List (List Int)} {ys : List V}, Paired (Trm H) xss ys → RdsAll K H ys (tds xss)
  | _, _, .nil => .nil
  | _, _, .cons ⟨r, er, hr⟩ t => by subst er; exact .cons (.tup (SqT.of hr) (rds_ints _)) (rds_trms t)
theorem tds_lay : ∀ xss : List (List Int), PyData.canLayAll0 (tds xss) = true
  | [] => rfl
  | xs :: xss => by
    have h := tds_lay xss
    simp only [tds, List.map_cons, PyData.canLayAll0, PyData.canLay0, PySem.W.ke_canLayAll0] at h ⊢
    rw [h]; rfl
theorem tds_depth : ∀ xss : List (List Int), PyData.depthAll (tds xss) ≤ 2
  | [] => by simp [tds, PyData.depthAll]
  | xs :: xss => by
    have h := tds_depth xss
    simp only [tds, List.map_cons, PyData.depthAll, PyData.depth, PySem.W.ke_depthAll] at h ⊢
    omega
theorem tds_shaped (xss : List (List Int)) : SeqAt.shaped (.list (tds xss)) = true := by
  have h1 := tds_lay xss
  have h2 := tds_depth xss
  unfold SeqAt.shaped
  rw [PyData.canLay0, PyData.depth, h1, Bool.true_and, decide_eq_true_eq]
  omega
theorem tds_refl (xss : List (List Int)) : PyData.eqv (.list (tds xss)) (.list (tds xss)) = true := SeqAt.eqv_refl _ (by rw [PyData.canLay0]; exact tds_lay xss)
/-- a rank as a list -/
def Rnk (rk : List Int → List Int) (H : Hp) (xs : List Int) (v : V) : Prop := ∃ t, v = .ref t ∧ H t = some (.lst ((rk xs).map V.int))
theorem Rnk.same {rk : List Int → List Int} {H H' : Hp} {xs : List Int} {v : V} (e : Same H H') (h : Rnk rk H xs v) : Rnk rk H' xs v := let ⟨r, a, b⟩ := h; ⟨r, a, e _ _ b⟩
def spFalls (At : Hp → Addr → Prop) (rk : List Int → List Int) : Sp := fun vs H Q _ => ∃ (p l r : Addr) (ys zs : List V) (xss : List (List Int)) (n : Nat), vs = [.ref p, .ref l, .ref r] ∧ At H p ∧ H l = some (.lst ys) ∧ Paired (Trm H) xss ys ∧ (∀ xs ∈ xss, Tm n xs) ∧ 1 ≤ n ∧ n ≤ 10 ∧ ys.length ≤ 63 ∧ OrdM rk n ∧
  H r = some (.lst zs) ∧ Paired (Rnk rk H) xss zs ∧ ∀ H', Same H H' → Q (.bl true) H'
theorem zip_fst {α : Type} {R : α → V → Prop} : ∀ {l : List α} {ys : List V}, Paired R l ys → (l.zip ys).map Prod.fst = l
  | _, _, .nil => rfl
  | _, _, .cons _ t => by simp [zip_fst t]
theorem zip_snd {α : Type} {R : α → V → Prop} : ∀ {l : List α} {ys : List V}, Paired R l ys → (l.zip ys).map Prod.snd = ys
  | _, _, .nil => rfl
  | _, _, .cons _ t => by simp [zip_snd t]
theorem zip_mem {α : Type} {R : α → V → Prop} : ∀ {l : List α} {ys : List V}, Paired R l ys → ∀ p ∈ l.zip ys, R p.1 p.2
  | _, _, .nil, _, h => by simp at h
  | _, _, .cons r t, p, h => by
    rw [List.zip_cons_cons] at h
    rcases List.mem_cons.mp h with rfl | h
    · exact r
    · exact zip_mem t p h
theorem zip_paired {α : Type} {R : α → V → Prop} : ∀ (ps : List (α × V)), (∀ p ∈ ps, R p.1 p.2) → Paired R (ps.map Prod.fst) (ps.map Prod.snd)
  | [], _ => .nil
  | p :: ps, h => .cons (h p (.head _)) (zip_paired ps fun q hq => h q (.tail _ hq))
theorem pmap {α β : Type} {R : β → V → Prop} (f : α → β) : ∀ {l : List α} {ys : List V}, Paired (fun a v => R (f a) v) l ys → Paired R (l.map f) ys
  | _, _, .nil => .nil
  | _, _, .cons r t => .cons r (pmap f t)

def spWTold (K : PySem.W.Frag) : Sp := fun vs H Q _ => ∃ (l : Addr) (a : Int) (ws : List Int), vs = [.ref l, .int a] ∧ SqL K H l (ws.map V.int) ∧ Nn ws ∧ ws.length ≤ 10 ∧ 0 ≤ a ∧ a < (ws.length : Int) ∧ ∀ H', Same H H' → Q (.bl true) H'

theorem seq_mid {a r : TS} {D : Ends} {σ : St} {H : Hp} (R : St → Hp → Prop) (hu : ∀ σ' H', R σ' H' → r D σ' H') (hc : ∀ N : St → Hp → Prop, (∀ σ' H', R σ' H' → N σ' H') → a { D with nx := N } σ H) : tSeq a r D σ H := by
  unfold tSeq
  exact hc _ hu
theorem ptrm {α : Type} {H : Hp} {T : List Int → Prop} : ∀ {l : List α} {ys : List V}, Paired (fun _ v => ∃ xs, Trm H xs v ∧ T xs) l ys → ∃ xss : List (List Int), Paired (Trm H) xss ys ∧ ∀ xs ∈ xss, T xs
  | _, _, .nil => ⟨[], .nil, fun _ h => nomatch h⟩
  | _, _, .cons ⟨xs, h1, h2⟩ t => by
    obtain ⟨xss, a, b⟩ := ptrm t
    refine ⟨xs :: xss, .cons h1 a, fun x hx => ?_⟩
    rcases List.mem_cons.mp hx with rfl | hx
    · exact h2
    · exact b x hx
theorem pget {α : Type} {R : α → V → Prop} : ∀ {l : List α} {ys : List V}, Paired R l ys → ∀ {i : Nat} {v : V}, ys[i]? = some v → ∃ a, l[i]? = some a ∧ R a v
  | _, _, .nil, i, v, h => by simp at h
  | _, _, .cons r t, 0, v, h => by simp at h; subst h; exact ⟨_, rfl, r⟩
  | _, _, .cons r t, i + 1, v, h => by
    rw [List.getElem?_cons_succ] at h
    obtain ⟨a, h1, h2⟩ := pget t h
    exact ⟨a, by rw [List.getElem?_cons_succ]; exact h1, h2⟩
theorem pget2 {α : Type} {R : α → V → Prop} : ∀ {l : List α} {ys : List V}, Paired R l ys → ∀ {i : Nat} {a : α}, l[i]? = some a → ∃ v, ys[i]? = some v ∧ R a v
  | _, _, .nil, i, v, h => by simp at h
  | _, _, .cons r t, 0, v, h => by simp at h; subst h; exact ⟨_, rfl, r⟩
  | _, _, .cons r t, i + 1, v, h => by
    rw [List.getElem?_cons_succ] at h
    obtain ⟨a, h1, h2⟩ := pget2 t h
    exact ⟨a, by rw [List.getElem?_cons_succ]; exact h1, h2⟩
theorem all_getD (xss : List (List Int)) : (List.range xss.length).map (fun i => xss.getD i []) = xss := by
  refine List.ext_getElem (by simp) fun i a b => ?_
  simp [List.getD, b]
theorem atI_at {ys : List V} {k : Int} (h0 : -(ys.length : Int) ≤ k) (h1 : k < (ys.length : Int)) : atI ys k = ys[(if 0 ≤ k then k.toNat else (k + (ys.length : Int)).toNat)]? := by
  unfold atI ixN
  by_cases q : 0 ≤ k
  · rw [if_pos q, if_pos h1, if_pos q]; rfl
  · rw [if_neg q, if_neg q, if_pos (by omega)]; rfl
structure OrdA (P : Program) (w : World) (K : PySem.W.Frag) (mg : Str → Option Value) (base : Heap) (CO C : Addr) (At : Hp → Addr → Prop) (rk : List Int → List Int) (fb : Int → Bool) (n : Nat) (kd : Int) : Prop where
  oC : OrdC C At
  rank : MCal P w K mg base CX0 3 C "rank" ["self", "term"] [] (spRank At rk)
  gb : MCal P w K mg base CX0 4 C "goes_before" ["self", "one", "other"] [] (spGB At rk)
  fits : MCal P w K mg base CX0 1 C "fits" ["self", "many"] [] (spFits At fb)
  m : OrdM rk n
  lrk : ∀ xs : List Int, (rk xs).length ≤ xs.length + 1
  ft : kd ≠ 3 → ∀ k, fb k = true
  falls : Cal P w K mg base CX0 8 "_law_falls" ["_law_order_here", "_law_terms", "_law_ranks"] [] (spFalls At rk)
  ty : ∀ {H : Hp} {p : Addr}, At H p → TyOf K H (.ref p) (.ref C)
  kio : PySem.W.kitOne K (.ref C) (.ref CO) = some true
def spLaw (K : PySem.W.Frag) : Sp := fun vs H Q _ => ∃ (a : Addr) (ns : List Int), vs = [.ref a] ∧ SqL K H a (ns.map V.int) ∧ ns.length ≤ 63 ∧ ∀ H', Q (.bl true) H'
theorem cut_map (ns : List Int) (lo hi : Option Int) : ∃ ms : List Int, cutV (ns.map V.int) lo hi = ms.map V.int ∧ ms.length ≤ ns.length := by
  refine ⟨(ns.drop (HT.sIx ns.length 0 lo)).take (HT.sIx ns.length ns.length hi - HT.sIx ns.length 0 lo), ?_, ?_⟩
  · unfold cutV
    rw [List.length_map, List.map_take, List.map_drop]
  · rw [List.length_take, List.length_drop]; omega

end K6
namespace K6
open PySem L2

section
variable {P : Program} {w : World} {K : PySem.W.Frag} {mg : Str → Option Value} {base : Heap} {f : Addr} {fd : FuncData} {C_Order C_Degrees C_Tails C_Weights : Addr} {E_NoOrder E_NoTerm : Addr}
local macro_rules | `(tactic| walk_at "sd") => `(tactic| first
  | assumption | (dsimp only; omega) | (dsimp only; decide) | exact ⟨by decide, by decide⟩ | exact ⟨by decide, by decide, by decide⟩ | exact Or.inl ⟨by decide, by decide⟩ | exact ⟨by omega, by omega⟩ | exact Or.inl ⟨by omega, by omega⟩ | exact Or.inr ⟨by decide, by decide⟩ | exact Or.inr ⟨by omega, by omega⟩)
local macro_rules | `(tactic| walk_at "rd") => `(tactic| repeat first
  | refine ⟨_, rfl, ?_⟩ | refine ⟨_, _, rfl, rfl, ?_⟩ | refine And.intro rfl ?_ | refine And.intro (by walk_at "sd") ?_ | with_reducible refine iteT ?_ | with_reducible refine iteF ?_ | (apply ixT_of; assumption; rfl))
local macro_rules | `(tactic| walk_at "clo") => `(tactic| exact h)

theorem scDeg : FnScope ["term"] ["term"] (defScope s_degree) := ⟨rfl, rfl, rfl, by decide +kernel, rfl, by decide +kernel, by decide +kernel⟩
set_option maxHeartbeats 4000000 in
theorem ok_Deg  (F : FunD K "degree" "degree" s_degree .none f fd) (T : Txt K mg C_Order C_Degrees C_Tails C_Weights)   : FnOk P w K mg base CX0 1 f fd ["term"] (spDeg K) := by
  refine F.okN (k := 0) scDeg (fun vs H Q E h => ?_) (fun cdv A outer s H vs Q E hr h => ?_)
  · obtain ⟨a, xs, rfl, _⟩ := h
    rfl
  obtain ⟨a, xs, rfl, h⟩ := h
  refine ⟨_, (pss_one (ps_ret (pe_callB (call_sumK (K := K) rfl true rfl) rfl T.b_sum (by kernel_rfl) ((pa_cons (pv 0) pa_nil))))), ?_⟩
  obtain ⟨h1, k⟩ := h
  exact ⟨_, rfl, a, xs, rfl, h1, k⟩
end
end K6
namespace K6
open PySem L2

section
variable {P : Program} {w : World} {K : PySem.W.Frag} {mg : Str → Option Value} {base : Heap} {f : Addr} {fd : FuncData} {C_Order C_Degrees C_Tails C_Weights : Addr} {E_NoOrder E_NoTerm : Addr}
local macro_rules | `(tactic| walk_at "sd") => `(tactic| first
  | assumption | (dsimp only; omega) | (dsimp only; decide) | exact ⟨by decide, by decide⟩ | exact ⟨by decide, by decide, by decide⟩ | exact Or.inl ⟨by decide, by decide⟩ | exact ⟨by omega, by omega⟩ | exact Or.inl ⟨by omega, by omega⟩ | exact Or.inr ⟨by decide, by decide⟩ | exact Or.inr ⟨by omega, by omega⟩)
local macro_rules | `(tactic| walk_at "rd") => `(tactic| repeat first
  | refine ⟨_, rfl, ?_⟩ | refine ⟨_, _, rfl, rfl, ?_⟩ | refine And.intro rfl ?_ | refine And.intro (by walk_at "sd") ?_ | with_reducible refine iteT ?_ | with_reducible refine iteF ?_ | (apply ixT_of; assumption; rfl))
local macro_rules | `(tactic| walk_at "clo") => `(tactic| exact h)

theorem scRankO : FnScope ["self", "term"] ["self", "term"] (defScope s_Order_rank) := ⟨rfl, rfl, rfl, by decide +kernel, rfl, by decide +kernel, by decide +kernel⟩
set_option maxHeartbeats 4000000 in
theorem ok_RankO  (F : FunD K "rank" "Order.rank" s_Order_rank .none f fd) (T : Txt K mg C_Order C_Degrees C_Tails C_Weights)   : FnOk P w K mg base CX0 1 f fd ["self", "term"] (spRank (AtO C_Order) rkL) := by
  refine F.okN (k := 0) scRankO (fun vs H Q E h => ?_) (fun cdv A outer s H vs Q E hr h => ?_)
  · obtain ⟨p, t, xs, rfl, _⟩ := h
    rfl
  obtain ⟨p, t, xs, rfl, h⟩ := h
  refine ⟨_, (pss_one (ps_ret (pe_callTy (call_tupleK (K := K) rfl) rfl T.b_tuple (by kernel_rfl) ((pa_cons (pv 1) pa_nil))))), ?_⟩
  obtain ⟨hp, ht0, px, k⟩ := h
  have ht := SqT.of (K := K) ht0
  exact ⟨_, rfl, t, _, rfl, .inr ⟨ht, k t H (Same.refl _) ht0⟩⟩
end
end K6
namespace K6
open PySem L2

section
variable {P : Program} {w : World} {K : PySem.W.Frag} {mg : Str → Option Value} {base : Heap} {f : Addr} {fd : FuncData} {C_Order C_Degrees C_Tails C_Weights : Addr} {E_NoOrder E_NoTerm : Addr}
local macro_rules | `(tactic| walk_at "sd") => `(tactic| first
  | assumption | (dsimp only; omega) | (dsimp only; decide) | exact ⟨by decide, by decide⟩ | exact ⟨by decide, by decide, by decide⟩ | exact Or.inl ⟨by decide, by decide⟩ | exact ⟨by omega, by omega⟩ | exact Or.inl ⟨by omega, by omega⟩ | exact Or.inr ⟨by decide, by decide⟩ | exact Or.inr ⟨by omega, by omega⟩)
local macro_rules | `(tactic| walk_at "rd") => `(tactic| repeat first
  | refine ⟨_, rfl, ?_⟩ | refine ⟨_, _, rfl, rfl, ?_⟩ | refine And.intro rfl ?_ | refine And.intro (by walk_at "sd") ?_ | with_reducible refine iteT ?_ | with_reducible refine iteF ?_ | (apply ixT_of; assumption; rfl))
local macro_rules | `(tactic| walk_at "clo") => `(tactic| exact h)

theorem scRankD : FnScope ["self", "term"] ["self", "term"] (defScope s_Degrees_rank) := ⟨rfl, rfl, rfl, by decide +kernel, rfl, by decide +kernel, by decide +kernel⟩
set_option maxHeartbeats 4000000 in
theorem ok_RankD  (F : FunD K "rank" "Degrees.rank" s_Degrees_rank .none f fd) (T : Txt K mg C_Order C_Degrees C_Tails C_Weights) (c_Deg : Cal P w K mg base CX0 1 "degree" ["term"] [] (spDeg K))  : FnOk P w K mg base CX0 2 f fd ["self", "term"] (spRank (AtO C_Degrees) rkD) := by
  refine F.okN (k := 1) scRankD (fun vs H Q E h => ?_) (fun cdv A outer s H vs Q E hr h => ?_)
  · obtain ⟨p, t, xs, rfl, _⟩ := h
    rfl
  obtain ⟨p, t, xs, rfl, h⟩ := h
  refine ⟨_, (pss_one (ps_ret (pe_op op_catT (pe_tup ((pa_cons (pe_c c_Deg hr pass00 .nil ((pa_cons (pv 1) pa_nil))) pa_nil))) (pe_callTy (call_tupleK (K := K) rfl) rfl T.b_tuple (by kernel_rfl) ((pa_cons (pv 1) pa_nil)))))), ?_⟩
  obtain ⟨hp, ht0, px, k⟩ := h
  have ht := SqT.of (K := K) ht0
  refine ⟨_, rfl, t, xs, rfl, ht, (by show 1 ≤ sizeLine; decide), fun l hl => ?_⟩
  have e1 : Same H (upd H l (HO.tup [V.int xs.sum])) := Same.upd hl
  refine ⟨_, rfl, t, _, rfl, .inr ⟨e1.seqT ht, ?_⟩⟩
  refine ⟨_, _, _, _, rfl, rfl, SqT.of (upd_same), e1.seqT ht, by simp, by simp; exact Nat.le_trans (Nat.add_le_add_left px.len 1) (by rw [sizeLine_eq]; decide), fun z => ?_, fun _ r hr' => ?_⟩
  · exact absurd (List.map_eq_nil_iff.mp z) px.ne
  · exact k r _ (e1.updR (e1.free hr')) upd_same
end
end K6
namespace K6
open PySem L2

section
variable {P : Program} {w : World} {K : PySem.W.Frag} {mg : Str → Option Value} {base : Heap} {f : Addr} {fd : FuncData} {C_Order C_Degrees C_Tails C_Weights : Addr} {E_NoOrder E_NoTerm : Addr}
local macro_rules | `(tactic| walk_at "sd") => `(tactic| first
  | assumption | (dsimp only; omega) | (dsimp only; decide) | exact ⟨by decide, by decide⟩ | exact ⟨by decide, by decide, by decide⟩ | exact Or.inl ⟨by decide, by decide⟩ | exact ⟨by omega, by omega⟩ | exact Or.inl ⟨by omega, by omega⟩ | exact Or.inr ⟨by decide, by decide⟩ | exact Or.inr ⟨by omega, by omega⟩)
local macro_rules | `(tactic| walk_at "rd") => `(tactic| repeat first
  | refine ⟨_, rfl, ?_⟩ | refine ⟨_, _, rfl, rfl, ?_⟩ | refine And.intro rfl ?_ | refine And.intro (by walk_at "sd") ?_ | with_reducible refine iteT ?_ | with_reducible refine iteF ?_ | (apply ixT_of; assumption; rfl))
local macro_rules | `(tactic| walk_at "clo") => `(tactic| exact h)

theorem scRankT : FnScope ["self", "term"] ["self", "term"] (defScope s_Tails_rank) := ⟨rfl, rfl, rfl, by decide +kernel, rfl, by decide +kernel, by decide +kernel⟩
set_option maxHeartbeats 4000000 in
theorem ok_RankT  (F : FunD K "rank" "Tails.rank" s_Tails_rank .none f fd) (T : Txt K mg C_Order C_Degrees C_Tails C_Weights) (c_Deg : Cal P w K mg base CX0 1 "degree" ["term"] [] (spDeg K))  : FnOk P w K mg base CX0 2 f fd ["self", "term"] (spRank (AtO C_Tails) rkT) := by
  refine F.okN (k := 1) scRankT (fun vs H Q E h => ?_) (fun cdv A outer s H vs Q E hr h => ?_)
  · obtain ⟨p, t, xs, rfl, _⟩ := h
    rfl
  obtain ⟨p, t, xs, rfl, h⟩ := h
  refine ⟨_, (pss_one (ps_ret (pe_op op_catT (pe_tup ((pa_cons (pe_c c_Deg hr pass00 .nil ((pa_cons (pv 1) pa_nil))) pa_nil))) (pe_callTy (call_tupleK (K := K) rfl) rfl T.b_tuple (by kernel_rfl) ((pa_cons (pe_comp (N := ["power"]) (Blk.plain (by decide +kernel) (by decide +kernel) rfl (by decide +kernel) nd_power) rfl (pi_revK (K := K) rfl rfl T.b_reversed ((pa_cons (pv 1) pa_nil))) (fun C0 s0 H0 fp0 => pg_one (i := 0) nd_power rfl rfl) (fun C0 s0 H0 fp0 => pts_nil) (fun C0 s0 H0 fp0 => pe_un un_neg (pv 0))) pa_nil)))))), ?_⟩
  obtain ⟨hp, ht0, px, k⟩ := h
  have ht := SqT.of (K := K) ht0
  refine ⟨_, rfl, t, xs, rfl, ht, (by show 1 ≤ sizeLine; decide), fun l hl => ?_⟩
  have e1 : Same H (upd H l (HO.tup [V.int xs.sum])) := Same.upd hl
  have ht1 := e1.seqT ht
  have lm : (xs.map V.int).length = xs.length := List.length_map _
  show tComp _ _ _ _ _ _ _ _
  refine walk_comp (J := Itv K t (xs.map V.int).length) (H1 := upd H l (HO.tup [V.int xs.sum])) (walk_rvd ht1) (by rw [lm]; exact Nat.le_trans px.len (by decide)) ?_ (fun σ => σ.length = 1) (fun _ => true) (fun i => .int (-(xs.getD (xs.length - 1 - i) 0))) rfl ?_ fun D H' e hL => ?_
  · exact fun R hR => ⟨_, rfl, t, _, rfl, ht1, hR⟩
  · rintro i x σ' H2 hi hs e hx Ny Nn hy hn
    rw [lm] at hx
    rw [getD_of_map hx]
    match σ', hs with
    | [_], _ => exact ⟨_, rfl, _, rfl, hy _ _ rfl (Same.refl _) rfl⟩
  rw [List.filter_eq_self.mpr (fun _ _ => rfl), lm] at hL
  have eL : (List.range xs.length).map (fun i => V.int (-(xs.getD (xs.length - 1 - i) 0))) = (xs.reverse.map fun x => -x).map V.int := by
    rw [← rev_getD xs fun x => -x, List.map_map]; rfl
  rw [eL] at hL
  refine ⟨D, _, rfl, .inl ⟨SqL.of hL, fun m hm => ?_⟩⟩
  have e2 : Same H' (upd H' m (HO.tup ((xs.reverse.map fun x => -x).map V.int))) := Same.upd hm
  have e3 := (e1.trans e).trans e2
  refine ⟨l, m, _, _, rfl, rfl, SqT.of (e2 _ _ (e _ _ upd_same)), SqT.of upd_same, by simp, by simp; exact Nat.le_trans (Nat.add_le_add_left px.len 1) (by rw [sizeLine_eq]; decide), fun z => ?_, fun _ r hr' => ?_⟩
  · exact absurd (by simpa using z) px.ne
  · exact k r _ (e3.updR (e3.free hr')) upd_same
end
end K6
namespace K6
open PySem L2

section
variable {P : Program} {w : World} {K : PySem.W.Frag} {mg : Str → Option Value} {base : Heap} {f : Addr} {fd : FuncData} {C_Order C_Degrees C_Tails C_Weights : Addr} {E_NoOrder E_NoTerm : Addr}
local macro_rules | `(tactic| walk_at "sd") => `(tactic| first
  | assumption | (dsimp only; omega) | (dsimp only; decide) | exact ⟨by decide, by decide⟩ | exact ⟨by decide, by decide, by decide⟩ | exact Or.inl ⟨by decide, by decide⟩ | exact ⟨by omega, by omega⟩ | exact Or.inl ⟨by omega, by omega⟩ | exact Or.inr ⟨by decide, by decide⟩ | exact Or.inr ⟨by omega, by omega⟩)
local macro_rules | `(tactic| walk_at "rd") => `(tactic| repeat first
  | refine ⟨_, rfl, ?_⟩ | refine ⟨_, _, rfl, rfl, ?_⟩ | refine And.intro rfl ?_ | refine And.intro (by walk_at "sd") ?_ | with_reducible refine iteT ?_ | with_reducible refine iteF ?_ | (apply ixT_of; assumption; rfl))
local macro_rules | `(tactic| walk_at "clo") => `(tactic| exact h)

theorem scWInit : FnScope ["self", "weights"] ["self", "weights"] (defScope s_Weights___init__) := ⟨rfl, rfl, rfl, by decide +kernel, rfl, by decide +kernel, by decide +kernel⟩
set_option maxHeartbeats 4000000 in
theorem ok_WInit  (F : FunD K "__init__" "Weights.__init__" s_Weights___init__ .none f fd) (T : Txt K mg C_Order C_Degrees C_Tails C_Weights) (x_NoOrder : Exc K mg base "NoOrder" E_NoOrder)  : FnOk P w K mg base (CXe P w) 1 f fd ["self", "weights"] (spWInit K C_Weights E_NoOrder) := by
  refine F.okX (k := 0) scWInit (fun vs H Q E h => ?_) (fun cdv A outer s H vs Q E hr h => ?_)
  · obtain ⟨p, dx, l, ws, rfl, _⟩ := h
    rfl
  obtain ⟨p, dx, l, ws, rfl, h⟩ := h
  refine ⟨_, (pss_cons (ps_if (pt_val (pe_callB (call_anyK (K := K) rfl rfl) rfl T.b_any (by kernel_rfl) ((pa_cons (pe_comp (N := ["weight"]) (Blk.plain (by decide +kernel) (by decide +kernel) rfl (by decide +kernel) nd_weight) rfl (pi_listK (K := K) rfl (pv 1)) (fun C0 s0 H0 fp0 => pg_one (i := 0) nd_weight rfl rfl) (fun C0 s0 H0 fp0 => pts_nil) (fun C0 s0 H0 fp0 => pe_cmpR op_lt (pv 0) (pe_int) (nomark _))) pa_nil)))) (pss_one (ps_rz x_NoOrder rfl rfl raisesTo_body ((pa_cons (pe_str) pa_nil)))) pss_nil)
    (pss_one (ps_fld (pv 0) (pe_callTy (call_tupleK (K := K) rfl) rfl T.b_tuple (by kernel_rfl) ((pa_cons (pv 1) pa_nil))) rfl))), ?_⟩
  obtain ⟨hp, hl, hlen, k⟩ := h
  have lm : (ws.map V.int).length = ws.length := List.length_map _
  show tComp _ _ _ _ _ _ _ _
  refine walk_comp (J := Itl K l) (H1 := H) (walk_list hl) (by rw [lm]; exact Nat.le_trans hlen (by decide)) ?_ (fun σ => σ.length = 1) (fun _ => true) (fun i => .bl (decide (ws.getD i 0 < 0))) rfl ?_ fun D H' e hL => ?_
  · exact fun R hR => ⟨_, rfl, l, rfl, ⟨_, hl⟩, hR⟩
  · rintro i x σ' H2 hi hs e hx Ny Nn hy hn
    rw [getD_of_map hx]
    match σ', hs with
    | [_], _ => exact ⟨_, rfl, _, _, rfl, rfl, hy _ _ rfl (Same.refl _) rfl⟩
  rw [List.filter_eq_self.mpr (fun _ _ => rfl), lm] at hL
  have eL : (List.range ws.length).map (fun i => V.bl (decide (ws.getD i 0 < 0))) = ((List.range ws.length).map fun i => decide (ws.getD i 0 < 0)).map V.bl := by rw [List.map_map]; rfl
  rw [eL] at hL
  refine ⟨D, _, rfl, SqL.of hL, _, rfl, ?_⟩
  rw [any_neg]
  refine cN (fun c => ?_) (fun c => ?_)
  · refine ⟨(by show 1 ≤ sizeLine; decide), ?_⟩
    rcases k with ⟨q, _⟩ | ⟨_, q⟩
    · exact absurd q c
    · exact q H' e
  rcases k with ⟨_, k⟩ | ⟨q, _⟩
  case inr => exact absurd c q
  refine ⟨_, rfl, l, _, rfl, .inl ⟨e.seq hl, fun m hm => ?_⟩⟩
  have e2 : Same H' (upd H' m (HO.tup (ws.map V.int))) := Same.upd hm
  have hp2 := e2 _ _ (e _ _ hp)
  have npm : m ≠ p := fun z => by subst z; rw [e _ _ hp] at hm; cases hm
  refine ⟨_, rfl, p, C_Weights, dx, [], rfl, hp2, T.cl_Weights, T.na_Weights_weights, (by show 0 < 1000; decide), ?_⟩
  refine k m _ upd_same (by rw [upd_ne npm]; exact upd_same) fun b o hb nb => ?_
  rw [upd_ne nb]
  exact e2 _ _ (e _ _ hb)
end
end K6
namespace K6
open PySem L2

section
variable {P : Program} {w : World} {K : PySem.W.Frag} {mg : Str → Option Value} {base : Heap} {f : Addr} {fd : FuncData} {C_Order C_Degrees C_Tails C_Weights : Addr} {E_NoOrder E_NoTerm : Addr}
local macro_rules | `(tactic| walk_at "sd") => `(tactic| first
  | assumption | (dsimp only; omega) | (dsimp only; decide) | exact ⟨by decide, by decide⟩ | exact ⟨by decide, by decide, by decide⟩ | exact Or.inl ⟨by decide, by decide⟩ | exact ⟨by omega, by omega⟩ | exact Or.inl ⟨by omega, by omega⟩ | exact Or.inr ⟨by decide, by decide⟩ | exact Or.inr ⟨by omega, by omega⟩)
local macro_rules | `(tactic| walk_at "rd") => `(tactic| repeat first
  | refine ⟨_, rfl, ?_⟩ | refine ⟨_, _, rfl, rfl, ?_⟩ | refine And.intro rfl ?_ | refine And.intro (by walk_at "sd") ?_ | with_reducible refine iteT ?_ | with_reducible refine iteF ?_ | (apply ixT_of; assumption; rfl))
local macro_rules | `(tactic| walk_at "clo") => `(tactic| exact h)

theorem scRankW : FnScope ["self", "term", "weighed"] ["self", "term"] (defScope s_Weights_rank) := ⟨rfl, rfl, rfl, by decide +kernel, rfl, by decide +kernel, by decide +kernel⟩
set_option maxHeartbeats 4000000 in
theorem ok_RankW {ws : List Int} (F : FunD K "rank" "Weights.rank" s_Weights_rank .none f fd) (T : Txt K mg C_Order C_Degrees C_Tails C_Weights)  (hwn : Nn ws) (hwb : ∀ x ∈ ws, x < 10 ^ 31) : FnOk P w K mg base CX0 1 f fd ["self", "term"] (spRank (AtW C_Weights ws) (rkW ws)) := by
  refine F.okN (k := 0) scRankW (fun vs H Q E h => ?_) (fun cdv A outer s H vs Q E hr h => ?_)
  · obtain ⟨p, t, xs, rfl, _⟩ := h
    rfl
  obtain ⟨p, t, xs, rfl, h⟩ := h
  refine ⟨_, (pss_cons (ps_set (i := 2) scRankW.nd rfl (Or.inl rfl) (pe_callB (call_sumK (K := K) rfl false rfl) rfl T.b_sum (by kernel_rfl) ((pa_cons (pe_comp (N := ["power", "weight"]) (Blk.plain (by decide +kernel) (by decide +kernel) rfl (by decide +kernel) nd_power_weight) rfl (pi_zipK (K := K) rfl true true rfl T.b_zip ((pa_cons (pv 1) (pa_cons (pe_fldK (K := K) rfl (pv 0) rfl) pa_nil)))) (fun C0 s0 H0 fp0 => pg_two (K := K) rfl rfl rfl nd_power_weight rfl rfl) (fun C0 s0 H0 fp0 => pts_nil) (fun C0 s0 H0 fp0 => pe_op op_mulB (pv 0) (pv 1))) pa_nil))))
    (pss_one (ps_ret (pe_op op_catT (pe_tup ((pa_cons (pv 2) pa_nil))) (pe_callTy (call_tupleK (K := K) rfl) rfl T.b_tuple (by kernel_rfl) ((pa_cons (pv 1) pa_nil))))))), ?_⟩
  obtain ⟨hp, ht0, px, k⟩ := h
  have ht := SqT.of (K := K) ht0
  obtain ⟨dx, wt, hq, hw⟩ := id hp
  show tComp _ _ _ _ _ _ _ _
  refine zip_comp (K := K) (b1 := true) (b2 := true) (a := t) (b := wt) (xs := xs) (ys := ws) yes2 (fun x y => .int (x * y)) (by rfl) ?_ ht (SqT.of hw) (Nat.le_trans px.len (by decide)) ?_ ?_ fun D H' e hL => ?_
  · exact fun R hR => ⟨_, rfl, _, rfl, p, C_Weights, dx, _, _, rfl, hq, T.cl_Weights, T.na_Weights_weights, rfl, hR⟩
  · exact fun _ _ _ h => h
  · exact fun i H' R _ h => ⟨_, rfl, _, rfl, _, _, rfl, rfl, ⟨bits px.nn px.hi i, bits hwn hwb i⟩, h⟩
  rw [zipV_W] at hL
  refine ⟨D, _, rfl, SqL.of hL, ?_⟩
  refine ⟨_, rfl, (by show 1 ≤ sizeLine; decide), fun l hl => ?_⟩
  have e1 : Same H' (upd H' l (HO.tup [V.int (wsum ws xs)])) := Same.upd hl
  have e2 := e.trans e1
  refine ⟨_, rfl, t, _, rfl, .inr ⟨e2.seqT ht, ?_⟩⟩
  refine ⟨_, _, _, _, rfl, rfl, SqT.of (upd_same), e2.seqT ht, by simp, by simp; exact Nat.le_trans (Nat.add_le_add_left px.len 1) (by rw [sizeLine_eq]; decide), fun z => ?_, fun _ r hr' => ?_⟩
  · exact absurd (List.map_eq_nil_iff.mp z) px.ne
  · exact k r _ (e2.updR (e2.free hr')) upd_same
end
end K6
namespace K6
open PySem L2

section
variable {P : Program} {w : World} {K : PySem.W.Frag} {mg : Str → Option Value} {base : Heap} {f : Addr} {fd : FuncData} {C_Order C_Degrees C_Tails C_Weights : Addr} {E_NoOrder E_NoTerm : Addr}
local macro_rules | `(tactic| walk_at "sd") => `(tactic| first
  | assumption | (dsimp only; omega) | (dsimp only; decide) | exact ⟨by decide, by decide⟩ | exact ⟨by decide, by decide, by decide⟩ | exact Or.inl ⟨by decide, by decide⟩ | exact ⟨by omega, by omega⟩ | exact Or.inl ⟨by omega, by omega⟩ | exact Or.inr ⟨by decide, by decide⟩ | exact Or.inr ⟨by omega, by omega⟩)
local macro_rules | `(tactic| walk_at "rd") => `(tactic| repeat first
  | refine ⟨_, rfl, ?_⟩ | refine ⟨_, _, rfl, rfl, ?_⟩ | refine And.intro rfl ?_ | refine And.intro (by walk_at "sd") ?_ | with_reducible refine iteT ?_ | with_reducible refine iteF ?_ | (apply ixT_of; assumption; rfl))
local macro_rules | `(tactic| walk_at "clo") => `(tactic| exact h)

theorem scGB : FnScope ["self", "one", "other"] ["self", "one", "other"] (defScope s_Order_goes_before) := ⟨rfl, rfl, rfl, by decide +kernel, rfl, by decide +kernel, by decide +kernel⟩
set_option maxHeartbeats 4000000 in
theorem ok_GB {C : Addr} {At : Hp → Addr → Prop} {rk : List Int → List Int} (F : FunD K "goes_before" "Order.goes_before" s_Order_goes_before .none f fd) (T : Txt K mg C_Order C_Degrees C_Tails C_Weights)  (oC : OrdC C At) (mR : MCal P w K mg base CX0 3 C "rank" ["self", "term"] [] (spRank At rk)) : FnOk P w K mg base CX0 4 f fd ["self", "one", "other"] (spGB At rk) := by
  refine F.okN (k := 3) scGB (fun vs H Q E h => ?_) (fun cdv A outer s H vs Q E hr h => ?_)
  · obtain ⟨p, a, b, xs, ys, rfl, _⟩ := h
    rfl
  obtain ⟨p, a, b, xs, ys, rfl, h⟩ := h
  refine ⟨_, (pss_one (ps_ret (pe_cmpR (op_gtT hr.units0) (pe_m mR (pv 0) hr pass00 .nil ((pa_cons (pv 1) pa_nil))) (pe_m mR (pv 0) hr pass00 .nil ((pa_cons (pv 2) pa_nil))) (nomark _)))), ?_⟩
  obtain ⟨hp, ha, hb, px, py, k⟩ := h
  obtain ⟨dx, fs, hq, nl⟩ := oC.ins hp
  have n1 := nl "rank" (by decide +kernel)
  refine ⟨_, rfl, p, dx, fs, rfl, hq, n1, _, rfl, p, a, xs, rfl, hp, ha, px, fun r1 H1 e1 t1 => ?_⟩
  refine ⟨_, rfl, p, dx, fs, rfl, e1 _ _ hq, n1, _, rfl, p, b, ys, rfl, oC.same e1 hp, e1 _ _ hb, py, fun r2 H2 e2 t2 => ?_⟩
  exact ⟨r1, r2, _, _, rfl, rfl, SqT.of (e2 _ _ t1), SqT.of t2, k H2 (e1.trans e2)⟩
end
end K6
namespace K6
open PySem L2

section
variable {P : Program} {w : World} {K : PySem.W.Frag} {mg : Str → Option Value} {base : Heap} {f : Addr} {fd : FuncData} {C_Order C_Degrees C_Tails C_Weights : Addr} {E_NoOrder E_NoTerm : Addr}
local macro_rules | `(tactic| walk_at "sd") => `(tactic| first
  | assumption | (dsimp only; omega) | (dsimp only; decide) | exact ⟨by decide, by decide⟩ | exact ⟨by decide, by decide, by decide⟩ | exact Or.inl ⟨by decide, by decide⟩ | exact ⟨by omega, by omega⟩ | exact Or.inl ⟨by omega, by omega⟩ | exact Or.inr ⟨by decide, by decide⟩ | exact Or.inr ⟨by omega, by omega⟩)
local macro_rules | `(tactic| walk_at "rd") => `(tactic| repeat first
  | refine ⟨_, rfl, ?_⟩ | refine ⟨_, _, rfl, rfl, ?_⟩ | refine And.intro rfl ?_ | refine And.intro (by walk_at "sd") ?_ | with_reducible refine iteT ?_ | with_reducible refine iteF ?_ | (apply ixT_of; assumption; rfl))
local macro_rules | `(tactic| walk_at "clo") => `(tactic| exact h)

theorem scFall : FnScope ["self", "terms"] ["self", "terms"] (defScope s_Order_falling) := ⟨rfl, rfl, rfl, by decide +kernel, rfl, by decide +kernel, by decide +kernel⟩
set_option maxHeartbeats 4000000 in
theorem ok_Fall {C : Addr} {At : Hp → Addr → Prop} {rk : List Int → List Int} (F : FunD K "falling" "Order.falling" s_Order_falling .none f fd) (T : Txt K mg C_Order C_Degrees C_Tails C_Weights)  (oC : OrdC C At) (mR : MCal P w K mg base CX0 3 C "rank" ["self", "term"] [] (spRank At rk)) (bR : BM K C "rank") (ne : ∀ xs, Pws xs → rk xs ≠ []) : FnOk P w K mg base CX0 6 f fd ["self", "terms"] (spFall At rk) := by
  refine F.okN (k := 5) scFall (fun vs H Q E h => ?_) (fun cdv A outer s H vs Q E hr h => ?_)
  · obtain ⟨p, l, ys, xss, rfl, _⟩ := h
    rfl
  obtain ⟨p, l, ys, xss, rfl, h⟩ := h
  refine ⟨_, (pss_one (ps_ret (pe_sortK mR bR (pv 1) (pv 0) hr .nil T.b_sorted))), ?_⟩
  obtain ⟨hp, hl, ht, hw, h64, k⟩ := h
  obtain ⟨dx, fs, hq, nl⟩ := oC.ins hp
  refine ⟨_, rfl, _, rfl, p, dx, fs, l, ys, rfl, hq, nl "rank" (by decide +kernel), rfl, hl, ?_⟩
  refine sk_walk (K := K) oC ne xss ys [] [] H H (Same.refl _) hp ht hw .nil fun ks' H' e hk => ?_
  refine ⟨xss.map rk, hk, h64, fun ps' hp' hs' D hD => ?_⟩
  rw [zip_map_l] at hp'
  obtain ⟨ps, q1, rfl⟩ := perm_map_inv _ hp' _ rfl
  rw [List.pairwise_map] at hs'
  refine k D _ ps (e.updR (e.free hD)) q1 (hs'.imp fun h => by simpa using h) ?_
  rw [upd_same, List.map_map]
  rfl
end
end K6
namespace K6
open PySem L2

section
variable {P : Program} {w : World} {K : PySem.W.Frag} {mg : Str → Option Value} {base : Heap} {f : Addr} {fd : FuncData} {C_Order C_Degrees C_Tails C_Weights : Addr} {E_NoOrder E_NoTerm : Addr}
local macro_rules | `(tactic| walk_at "sd") => `(tactic| first
  | assumption | (dsimp only; omega) | (dsimp only; decide) | exact ⟨by decide, by decide⟩ | exact ⟨by decide, by decide, by decide⟩ | exact Or.inl ⟨by decide, by decide⟩ | exact ⟨by omega, by omega⟩ | exact Or.inl ⟨by omega, by omega⟩ | exact Or.inr ⟨by decide, by decide⟩ | exact Or.inr ⟨by omega, by omega⟩)
local macro_rules | `(tactic| walk_at "rd") => `(tactic| repeat first
  | refine ⟨_, rfl, ?_⟩ | refine ⟨_, _, rfl, rfl, ?_⟩ | refine And.intro rfl ?_ | refine And.intro (by walk_at "sd") ?_ | with_reducible refine iteT ?_ | with_reducible refine iteF ?_ | (apply ixT_of; assumption; rfl))
local macro_rules | `(tactic| walk_at "clo") => `(tactic| exact h)

theorem scFirst : FnScope ["self", "terms"] ["self", "terms"] (defScope s_Order_first_of) := ⟨rfl, rfl, rfl, by decide +kernel, rfl, by decide +kernel, by decide +kernel⟩
set_option maxHeartbeats 4000000 in
theorem ok_First {C : Addr} {At : Hp → Addr → Prop} {rk : List Int → List Int} (F : FunD K "first_of" "Order.first_of" s_Order_first_of .none f fd) (T : Txt K mg C_Order C_Degrees C_Tails C_Weights) (x_NoTerm : Exc K mg base "NoTerm" E_NoTerm) (oC : OrdC C At) (mR : MCal P w K mg base CX0 3 C "rank" ["self", "term"] [] (spRank At rk)) (bR : BM K C "rank") : FnOk P w K mg base (CXe P w) 6 f fd ["self", "terms"] (spFirst At rk E_NoTerm) := by
  refine F.okX (k := 5) scFirst (fun vs H Q E h => ?_) (fun cdv A outer s H vs Q E hr h => ?_)
  · obtain ⟨p, l, ys, xss, rfl, _⟩ := h
    rfl
  obtain ⟨p, l, ys, xss, rfl, h⟩ := h
  refine ⟨_, (pss_cons (ps_if (pt_cmpR op_eq (pe_callB (call_lenK (K := K) rfl) rfl T.b_len PySem.boot_len ((pa_cons (pv 1) pa_nil))) (pe_int) (nomark _)) (pss_one (ps_rz x_NoTerm rfl rfl raisesTo_body ((pa_cons (pe_str) pa_nil)))) pss_nil)
    (pss_one (ps_ret (pe_maxK mR bR (pv 1) (pv 0) hr .nil T.b_max)))), ?_⟩
  obtain ⟨hp, hl, ht, hw, k⟩ := h
  obtain ⟨dx, fs, hq, nl⟩ := oC.ins hp
  refine ⟨_, rfl, l, _, rfl, .inl (SqL.of hl), ?_⟩
  walk_at "rd"
  refine cEq (fun c => ?_) (fun c => ?_)
  · refine ⟨(by show 1 ≤ sizeLine; decide), ?_⟩
    have y0 : ys = [] := List.length_eq_zero_iff.mp (by omega)
    rcases k with ⟨_, k⟩ | ⟨q, _⟩
    · exact k
    · exact absurd y0 q
  rcases k with ⟨q, _⟩ | ⟨_, k⟩
  · rw [q] at c; exact absurd rfl c
  refine ⟨_, rfl, _, rfl, p, dx, fs, l, ys, rfl, hq, nl "rank" (by decide +kernel), rfl, hl, ?_⟩
  exact mx_all oC xss ys H hp hl ht hw (fun z => by rw [z] at c; exact c rfl) k
end
end K6
namespace K6
open PySem L2

section
variable {P : Program} {w : World} {K : PySem.W.Frag} {mg : Str → Option Value} {base : Heap} {f : Addr} {fd : FuncData} {C_Order C_Degrees C_Tails C_Weights : Addr} {E_NoOrder E_NoTerm : Addr}
local macro_rules | `(tactic| walk_at "sd") => `(tactic| first
  | assumption | (dsimp only; omega) | (dsimp only; decide) | exact ⟨by decide, by decide⟩ | exact ⟨by decide, by decide, by decide⟩ | exact Or.inl ⟨by decide, by decide⟩ | exact ⟨by omega, by omega⟩ | exact Or.inl ⟨by omega, by omega⟩ | exact Or.inr ⟨by decide, by decide⟩ | exact Or.inr ⟨by omega, by omega⟩)
local macro_rules | `(tactic| walk_at "rd") => `(tactic| repeat first
  | refine ⟨_, rfl, ?_⟩ | refine ⟨_, _, rfl, rfl, ?_⟩ | refine And.intro rfl ?_ | refine And.intro (by walk_at "sd") ?_ | with_reducible refine iteT ?_ | with_reducible refine iteF ?_ | (apply ixT_of; assumption; rfl))
local macro_rules | `(tactic| walk_at "clo") => `(tactic| exact h)

theorem scFitsO : FnScope ["self", "many"] ["self", "many"] (defScope s_Order_fits) := ⟨rfl, rfl, rfl, by decide +kernel, rfl, by decide +kernel, by decide +kernel⟩
set_option maxHeartbeats 4000000 in
theorem ok_FitsO {At : Hp → Addr → Prop} (F : FunD K "fits" "Order.fits" s_Order_fits .none f fd) (T : Txt K mg C_Order C_Degrees C_Tails C_Weights)   : FnOk P w K mg base CX0 1 f fd ["self", "many"] (spFits At fun _ => true) := by
  refine F.okN (k := 0) scFitsO (fun vs H Q E h => ?_) (fun cdv A outer s H vs Q E hr h => ?_)
  · obtain ⟨p, k, rfl, _⟩ := h
    rfl
  obtain ⟨p, k, rfl, h⟩ := h
  refine ⟨_, (pss_one (ps_ret (pe_bl))), ?_⟩
  exact h.2 H (Same.refl _)
end
end K6
namespace K6
open PySem L2

section
variable {P : Program} {w : World} {K : PySem.W.Frag} {mg : Str → Option Value} {base : Heap} {f : Addr} {fd : FuncData} {C_Order C_Degrees C_Tails C_Weights : Addr} {E_NoOrder E_NoTerm : Addr}
local macro_rules | `(tactic| walk_at "sd") => `(tactic| first
  | assumption | (dsimp only; omega) | (dsimp only; decide) | exact ⟨by decide, by decide⟩ | exact ⟨by decide, by decide, by decide⟩ | exact Or.inl ⟨by decide, by decide⟩ | exact ⟨by omega, by omega⟩ | exact Or.inl ⟨by omega, by omega⟩ | exact Or.inr ⟨by decide, by decide⟩ | exact Or.inr ⟨by omega, by omega⟩)
local macro_rules | `(tactic| walk_at "rd") => `(tactic| repeat first
  | refine ⟨_, rfl, ?_⟩ | refine ⟨_, _, rfl, rfl, ?_⟩ | refine And.intro rfl ?_ | refine And.intro (by walk_at "sd") ?_ | with_reducible refine iteT ?_ | with_reducible refine iteF ?_ | (apply ixT_of; assumption; rfl))
local macro_rules | `(tactic| walk_at "clo") => `(tactic| exact h)

theorem scFitsW : FnScope ["self", "many"] ["self", "many"] (defScope s_Weights_fits) := ⟨rfl, rfl, rfl, by decide +kernel, rfl, by decide +kernel, by decide +kernel⟩
set_option maxHeartbeats 4000000 in
theorem ok_FitsW {ws : List Int} (F : FunD K "fits" "Weights.fits" s_Weights_fits .none f fd) (T : Txt K mg C_Order C_Degrees C_Tails C_Weights)   : FnOk P w K mg base CX0 1 f fd ["self", "many"] (spFits (AtW C_Weights ws) fun k => decide ((ws.length : Int) = k)) := by
  refine F.okN (k := 0) scFitsW (fun vs H Q E h => ?_) (fun cdv A outer s H vs Q E hr h => ?_)
  · obtain ⟨p, k, rfl, _⟩ := h
    rfl
  obtain ⟨p, k, rfl, h⟩ := h
  refine ⟨_, (pss_one (ps_ret (pe_cmpR op_eq (pe_callB (call_lenK (K := K) rfl) rfl T.b_len PySem.boot_len ((pa_cons (pe_fldK (K := K) rfl (pv 0) rfl) pa_nil))) (pv 1) (nomark _)))), ?_⟩
  obtain ⟨hp, q⟩ := h
  obtain ⟨dx, wt, hq, hw⟩ := id hp
  refine ⟨_, rfl, p, C_Weights, dx, _, _, rfl, hq, T.cl_Weights, T.na_Weights_weights, rfl, wt, _, rfl, .inr (SqT.of hw), ?_⟩
  rw [List.length_map]
  walk_at "rd"
  have := q H (Same.refl _)
  rw [dI]
  exact this
end
end K6
namespace K6
open PySem L2

section
variable {P : Program} {w : World} {K : PySem.W.Frag} {mg : Str → Option Value} {base : Heap} {f : Addr} {fd : FuncData} {C_Order C_Degrees C_Tails C_Weights : Addr} {E_NoOrder E_NoTerm : Addr}
local macro_rules | `(tactic| walk_at "sd") => `(tactic| first
  | assumption | (dsimp only; omega) | (dsimp only; decide) | exact ⟨by decide, by decide⟩ | exact ⟨by decide, by decide, by decide⟩ | exact Or.inl ⟨by decide, by decide⟩ | exact ⟨by omega, by omega⟩ | exact Or.inl ⟨by omega, by omega⟩ | exact Or.inr ⟨by decide, by decide⟩ | exact Or.inr ⟨by omega, by omega⟩)
local macro_rules | `(tactic| walk_at "rd") => `(tactic| repeat first
  | refine ⟨_, rfl, ?_⟩ | refine ⟨_, _, rfl, rfl, ?_⟩ | refine And.intro rfl ?_ | refine And.intro (by walk_at "sd") ?_ | with_reducible refine iteT ?_ | with_reducible refine iteF ?_ | (apply ixT_of; assumption; rfl))
local macro_rules | `(tactic| walk_at "clo") => `(tactic| exact h)

theorem scCell : FnScope ["_law_script", "_law_k"] ["_law_script", "_law_k"] (defScope s__law_cell) := ⟨rfl, rfl, rfl, by decide +kernel, rfl, by decide +kernel, by decide +kernel⟩
set_option maxHeartbeats 4000000 in
theorem ok_Cell  (F : FunD K "_law_cell" "_law_cell" s__law_cell .none f fd) (T : Txt K mg C_Order C_Degrees C_Tails C_Weights)   : FnOk P w K mg base CX0 1 f fd ["_law_script", "_law_k"] (spCell K) := by
  refine F.okN (k := 0) scCell (fun vs H Q E h => ?_) (fun cdv A outer s H vs Q E hr h => ?_)
  · obtain ⟨a, ns, k, rfl, _⟩ := h
    rfl
  obtain ⟨a, ns, k, rfl, h⟩ := h
  refine ⟨_, (pss_cons (ps_if (pt_cmpR op_lt (pv 1) (pe_callB (call_lenK (K := K) rfl) rfl T.b_len PySem.boot_len ((pa_cons (pv 0) pa_nil))) (nomark _)) (pss_one (ps_ret (pe_ix (r := rIxL K) ix_list (pv 0) (pv 1) (fun _ _ => rfl)))) pss_nil)
    (pss_one (ps_ret (pe_int)))), ?_⟩
  obtain ⟨hS, h0, q⟩ := h
  have hl : (ns.map V.int).length = ns.length := List.length_map _
  refine ⟨_, rfl, _, rfl, a, _, rfl, .inl hS, ?_⟩
  walk_at "rd"
  refine cD (fun c => ?_) (fun c => ?_)
  · rw [hl] at c
    exact ⟨_, rfl, _, rfl, a, _, _, _, rfl, rfl, hS, atI_int h0 c, q⟩
  · rw [hl] at c
    have e : cellOf ns k = 0 := by unfold cellOf; rw [List.getD_eq_getElem?_getD, List.getElem?_eq_none (by omega)]; rfl
    rw [e] at q
    exact q
end
end K6
namespace K6
open PySem L2

section
variable {P : Program} {w : World} {K : PySem.W.Frag} {mg : Str → Option Value} {base : Heap} {f : Addr} {fd : FuncData} {C_Order C_Degrees C_Tails C_Weights : Addr} {E_NoOrder E_NoTerm : Addr}
local macro_rules | `(tactic| walk_at "sd") => `(tactic| first
  | assumption | (dsimp only; omega) | (dsimp only; decide) | exact ⟨by decide, by decide⟩ | exact ⟨by decide, by decide, by decide⟩ | exact Or.inl ⟨by decide, by decide⟩ | exact ⟨by omega, by omega⟩ | exact Or.inl ⟨by omega, by omega⟩ | exact Or.inr ⟨by decide, by decide⟩ | exact Or.inr ⟨by omega, by omega⟩)
local macro_rules | `(tactic| walk_at "rd") => `(tactic| repeat first
  | refine ⟨_, rfl, ?_⟩ | refine ⟨_, _, rfl, rfl, ?_⟩ | refine And.intro rfl ?_ | refine And.intro (by walk_at "sd") ?_ | with_reducible refine iteT ?_ | with_reducible refine iteF ?_ | (apply ixT_of; assumption; rfl))
local macro_rules | `(tactic| walk_at "clo") => `(tactic| exact h)

theorem scTruth : FnScope ["_law_found", "_law_due"] ["_law_found", "_law_due"] (defScope s__law_truth) := ⟨rfl, rfl, rfl, by decide +kernel, rfl, by decide +kernel, by decide +kernel⟩
set_option maxHeartbeats 4000000 in
theorem ok_Truth  (F : FunD K "_law_truth" "_law_truth" s__law_truth .none f fd) (T : Txt K mg C_Order C_Degrees C_Tails C_Weights)   : FnOk P w K mg base CX0 1 f fd ["_law_found", "_law_due"] spTruth := by
  refine F.okN (k := 0) scTruth (fun vs H Q E h => ?_) (fun cdv A outer s H vs Q E hr h => ?_)
  · obtain ⟨b, rfl, _⟩ := h
    rfl
  obtain ⟨b, rfl, h⟩ := h
  refine ⟨_, (pss_one (ps_ret (pe_and (pe_callB (call_isinstK (K := K) rfl) rfl T.b_isinstance (by kernel_rfl) ((pa_cons (pv 0) (pa_cons (pe_bltn (v := .ty "bool") rfl T.b_bool (by kernel_rfl) rfl) pa_nil)))) (pe_one (pe_cmpR op_eq (pv 0) (pv 1) (nomark _)))))), ?_⟩
  refine ⟨_, rfl, _, _, _, _, _, rfl, rfl, .bl b, T.kbb, _, rfl, iteT ⟨_, rfl, _, rfl, rfl, ?_⟩⟩
  rw [decide_eq_true rfl]
  exact h
end
end K6
namespace K6
open PySem L2

section
variable {P : Program} {w : World} {K : PySem.W.Frag} {mg : Str → Option Value} {base : Heap} {f : Addr} {fd : FuncData} {C_Order C_Degrees C_Tails C_Weights : Addr} {E_NoOrder E_NoTerm : Addr}
local macro_rules | `(tactic| walk_at "sd") => `(tactic| first
  | assumption | (dsimp only; omega) | (dsimp only; decide) | exact ⟨by decide, by decide⟩ | exact ⟨by decide, by decide, by decide⟩ | exact Or.inl ⟨by decide, by decide⟩ | exact ⟨by omega, by omega⟩ | exact Or.inl ⟨by omega, by omega⟩ | exact Or.inr ⟨by decide, by decide⟩ | exact Or.inr ⟨by omega, by omega⟩)
local macro_rules | `(tactic| walk_at "rd") => `(tactic| repeat first
  | refine ⟨_, rfl, ?_⟩ | refine ⟨_, _, rfl, rfl, ?_⟩ | refine And.intro rfl ?_ | refine And.intro (by walk_at "sd") ?_ | with_reducible refine iteT ?_ | with_reducible refine iteF ?_ | (apply ixT_of; assumption; rfl))
local macro_rules | `(tactic| walk_at "clo") => `(tactic| exact h)

theorem scPower : FnScope ["_law_cell_here", "_law_at"] ["_law_cell_here", "_law_at"] (defScope s__law_power) := ⟨rfl, rfl, rfl, by decide +kernel, rfl, by decide +kernel, by decide +kernel⟩
set_option maxHeartbeats 4000000 in
theorem ok_Power  (F : FunD K "_law_power" "_law_power" s__law_power .none f fd) (T : Txt K mg C_Order C_Degrees C_Tails C_Weights)   : FnOk P w K mg base CX0 1 f fd ["_law_cell_here", "_law_at"] spPower := by
  refine F.okN (k := 0) scPower (fun vs H Q E h => ?_) (fun cdv A outer s H vs Q E hr h => ?_)
  · obtain ⟨c, a, rfl, _⟩ := h
    rfl
  obtain ⟨c, a, rfl, h⟩ := h
  refine ⟨_, (pss_cons (ps_if (pt_cmpR op_eq (pe_op op_mod (pv 0) (pe_int)) (pe_int) (nomark _)) (pss_one (ps_ret (pe_op op_mod (pe_op op_mul (pv 0) (pe_op op_add (pe_int) (pe_op op_mul (pe_int) (pv 1)))) (pe_op op_add (pe_op op_add (pe_op op_pow (pe_int) (pe_int)) (pe_int)) (pv 1))))) pss_nil)
    (pss_one (ps_ret (pe_op op_mod (pe_op op_fdiv (pe_op op_mod (pe_op op_mul (pv 0) (pe_op op_add (pe_int) (pe_op op_mul (pe_int) (pv 1)))) (pe_int)) (pe_int)) (pe_int))))), ?_⟩
  obtain ⟨h0, h1, k⟩ := h
  walk_at "rd"
  refine cEq (fun _ => ?_) (fun _ => ?_)
  · walk_at "rd"
    have e : (10 : Int) ^ (Int.toNat 30) = 10 ^ 30 := by decide
    refine ⟨by show (0 : Int) < 10 ^ (Int.toNat 30) + 57 + a; rw [e]; omega, ?_⟩
    refine k _ ?_ ?_
    · exact Int.emod_nonneg _ (by rw [e]; omega)
    · refine Int.lt_of_lt_of_le (Int.emod_lt_of_pos _ (by rw [e]; omega)) (by rw [e]; omega)
  · walk_at "rd"
    exact k _ (by omega) (by omega)
end
end K6
namespace K6
open PySem L2

section
variable {P : Program} {w : World} {K : PySem.W.Frag} {mg : Str → Option Value} {base : Heap} {f : Addr} {fd : FuncData} {C_Order C_Degrees C_Tails C_Weights : Addr} {E_NoOrder E_NoTerm : Addr}
local macro_rules | `(tactic| walk_at "sd") => `(tactic| first
  | assumption | (dsimp only; omega) | (dsimp only; decide) | exact ⟨by decide, by decide⟩ | exact ⟨by decide, by decide, by decide⟩ | exact Or.inl ⟨by decide, by decide⟩ | exact ⟨by omega, by omega⟩ | exact Or.inl ⟨by omega, by omega⟩ | exact Or.inr ⟨by decide, by decide⟩ | exact Or.inr ⟨by omega, by omega⟩)
local macro_rules | `(tactic| walk_at "rd") => `(tactic| repeat first
  | refine ⟨_, rfl, ?_⟩ | refine ⟨_, _, rfl, rfl, ?_⟩ | refine And.intro rfl ?_ | refine And.intro (by walk_at "sd") ?_ | with_reducible refine iteT ?_ | with_reducible refine iteF ?_ | (apply ixT_of; assumption; rfl))
local macro_rules | `(tactic| walk_at "clo") => `(tactic| exact h)

theorem scWts : FnScope ["_law_cell_here", "_law_many"] ["_law_cell_here", "_law_many"] (defScope s__law_weights) := ⟨rfl, rfl, rfl, by decide +kernel, rfl, by decide +kernel, by decide +kernel⟩
set_option maxHeartbeats 4000000 in
theorem ok_Wts  (F : FunD K "_law_weights" "_law_weights" s__law_weights .none f fd) (T : Txt K mg C_Order C_Degrees C_Tails C_Weights)   : FnOk P w K mg base CX0 1 f fd ["_law_cell_here", "_law_many"] spWts := by
  refine F.okN (k := 0) scWts (fun vs H Q E h => ?_) (fun cdv A outer s H vs Q E hr h => ?_)
  · obtain ⟨c, m, rfl, _⟩ := h
    rfl
  obtain ⟨c, m, rfl, h⟩ := h
  refine ⟨_, (pss_cons (ps_if (pt_cmpR op_eq (pe_op op_mod (pe_op op_fdiv (pv 0) (pe_int)) (pe_int)) (pe_int) (nomark _)) (pss_one (ps_ret (pe_comp (N := ["_law_at", "_law_cell_here"]) (cl := [("_law_cell_here", s.heap.objs.size + 1)]) (mp := [none, some 0]) (Blk.of rfl (by decide +kernel) rfl (by decide +kernel) nd__law_at__law_cell_here (subc_cons rfl subc_nil) (fr_of (fs := ["_law_cell_here"]) rfl (by decide +kernel)) rfl (mapc_none (mapc_some rfl (.inl rfl) rfl mapc_nil))) rfl (pi_range1 rfl T.b_range ((pa_cons (pv 1) pa_nil))) (fun C0 s0 H0 fp0 => pg_one (i := 0) nd__law_at__law_cell_here rfl rfl) (fun C0 s0 H0 fp0 => pts_nil) (fun C0 s0 H0 fp0 => pe_op op_mod (pe_op op_fdiv (pe_op op_mod (pe_op op_mul (pv 1) (pe_op op_add (pe_int) (pe_op op_mul (pe_int) (pv 0)))) (pe_int)) (pe_int)) (pe_int))))) pss_nil)
    (pss_one (ps_ret (pe_comp (N := ["_law_at", "_law_cell_here"]) (cl := [("_law_cell_here", s.heap.objs.size + 1)]) (mp := [none, some 0]) (Blk.of rfl (by decide +kernel) rfl (by decide +kernel) nd__law_at__law_cell_here (subc_cons rfl subc_nil) (fr_of (fs := ["_law_cell_here"]) rfl (by decide +kernel)) rfl (mapc_none (mapc_some rfl (.inl rfl) rfl mapc_nil))) rfl (pi_range1 rfl T.b_range ((pa_cons (pv 1) pa_nil))) (fun C0 s0 H0 fp0 => pg_one (i := 0) nd__law_at__law_cell_here rfl rfl) (fun C0 s0 H0 fp0 => pts_nil) (fun C0 s0 H0 fp0 => pe_op op_mod (pe_op op_mul (pv 1) (pe_op op_add (pe_int) (pe_op op_mul (pe_int) (pv 0)))) (pe_op op_add (pe_op op_add (pe_op op_pow (pe_int) (pe_int)) (pe_int)) (pv 0))))))), ?_⟩
  obtain ⟨h0, h1, k⟩ := h
  have e20 : (10 : Int) ^ (Int.toNat 20) = 10 ^ 20 := by decide
  walk_at "rd"
  refine cEq (fun c0 => ?_) (fun c0 => ?_)
  · walk_at "rd"
    show tComp _ _ _ _ _ _ _ _
    refine range_comp (H1 := H) m (fun σ => ∃ v, σ = [v, some (.int c)]) (fun _ => true) (fun i => .int (wtF c i)) (by omega) (by omega) ?_ ⟨none, rfl⟩ ?_ fun D H' e hL => ?_
    · exact fun R hR => ⟨_, rfl, hR⟩
    · rintro i σ' H2 hi ⟨z, rfl⟩ e Ny Nn hy hn
      have q := hy [some (.int (0 + (i : Int))), some (.int c)] H2 ⟨_, rfl⟩ (Same.refl _) rfl
      unfold wtF at q
      rw [if_pos c0] at q
      unfold gName tYes
      dsimp only
      rw [if_pos rfl]
      walk_at "rd"
      exact q
    rw [List.filter_eq_self.mpr (fun _ _ => rfl)] at hL
    refine k D H' e ?_
    rw [hL]
    unfold wsF
    rw [List.map_map]
    rfl
  · walk_at "rd"
    show tComp _ _ _ _ _ _ _ _
    refine range_comp (H1 := H) m (fun σ => ∃ v, σ = [v, some (.int c)]) (fun _ => true) (fun i => .int (wtF c i)) (by omega) (by omega) ?_ ⟨none, rfl⟩ ?_ fun D H' e hL => ?_
    · exact fun R hR => ⟨_, rfl, hR⟩
    · rintro i σ' H2 hi ⟨z, rfl⟩ e Ny Nn hy hn
      have q := hy [some (.int (0 + (i : Int))), some (.int c)] H2 ⟨_, rfl⟩ (Same.refl _) rfl
      unfold wtF at q
      rw [if_neg c0] at q
      unfold gName tYes
      dsimp only
      rw [if_pos rfl]
      walk_at "rd"
      exact q
    rw [List.filter_eq_self.mpr (fun _ _ => rfl)] at hL
    refine k D H' e ?_
    rw [hL]
    unfold wsF
    rw [List.map_map]
    rfl
end
end K6
namespace K6
open PySem L2

section
variable {P : Program} {w : World} {K : PySem.W.Frag} {mg : Str → Option Value} {base : Heap} {f : Addr} {fd : FuncData} {C_Order C_Degrees C_Tails C_Weights : Addr} {E_NoOrder E_NoTerm : Addr}
local macro_rules | `(tactic| walk_at "sd") => `(tactic| first
  | assumption | (dsimp only; omega) | (dsimp only; decide) | exact ⟨by decide, by decide⟩ | exact ⟨by decide, by decide, by decide⟩ | exact Or.inl ⟨by decide, by decide⟩ | exact ⟨by omega, by omega⟩ | exact Or.inl ⟨by omega, by omega⟩ | exact Or.inr ⟨by decide, by decide⟩ | exact Or.inr ⟨by omega, by omega⟩)
local macro_rules | `(tactic| walk_at "rd") => `(tactic| repeat first
  | refine ⟨_, rfl, ?_⟩ | refine ⟨_, _, rfl, rfl, ?_⟩ | refine And.intro rfl ?_ | refine And.intro (by walk_at "sd") ?_ | with_reducible refine iteT ?_ | with_reducible refine iteF ?_ | (apply ixT_of; assumption; rfl))
local macro_rules | `(tactic| walk_at "clo") => `(tactic| exact h)

theorem scMkOrder : FnScope ["_law_kind", "_law_weights_here"] ["_law_kind", "_law_weights_here"] (defScope s__law_order) := ⟨rfl, rfl, rfl, by decide +kernel, rfl, by decide +kernel, by decide +kernel⟩
set_option maxHeartbeats 4000000 in
theorem ok_MkOrder  (F : FunD K "_law_order" "_law_order" s__law_order .none f fd) (T : Txt K mg C_Order C_Degrees C_Tails C_Weights) (k_WInit : Mak P w K mg base (CXe P w) 1 "Weights" C_Weights ["self", "weights"] [] (spWInit K C_Weights E_NoOrder))  : FnOk P w K mg base CX0 3 f fd ["_law_kind", "_law_weights_here"] (spOrder K C_Order C_Degrees C_Tails C_Weights) := by
  refine F.okN (k := 2) scMkOrder (fun vs H Q E h => ?_) (fun cdv A outer s H vs Q E hr h => ?_)
  · obtain ⟨k, l, ws, rfl, _⟩ := h
    rfl
  obtain ⟨k, l, ws, rfl, h⟩ := h
  refine ⟨_, (pss_cons (ps_if (pt_cmpR op_eq (pv 0) (pe_int) (nomark _)) (pss_one (ps_ret (pe_new0 T.n0_Order T.mg_Order))) pss_nil)
    (pss_cons (ps_if (pt_cmpR op_eq (pv 0) (pe_int) (nomark _)) (pss_one (ps_ret (pe_new0 T.n0_Degrees T.mg_Degrees))) pss_nil)
    (pss_cons (ps_if (pt_cmpR op_eq (pv 0) (pe_int) (nomark _)) (pss_one (ps_ret (pe_new0 T.n0_Tails T.mg_Tails))) pss_nil)
    (pss_one (ps_ret (pe_mk k_WInit hr passF .nil ((pa_cons (pe_callTy (call_listK (K := K) rfl) rfl T.b_list (by kernel_rfl) ((pa_cons (pv 1) pa_nil))) pa_nil)))))))), ?_⟩
  obtain ⟨hl, hlen, hn, q⟩ := h
  have mk : ∀ {C : Addr} {H : Hp} {p dx : Addr}, H p = none → H dx = none → Same H (upd (upd H dx (.own p)) p (.ins C dx [])) := fun {C H p dx} np ndx b o e => by
    rw [upd_ne (ne_of_none e np), upd_ne (ne_of_none e ndx)]
    exact e
  walk_at "rd"
  refine cEq (fun c => ?_) (fun c => ?_)
  · intro p dx np ndx ne
    exact q p _ (mk np ndx) (by unfold AtK; rw [if_pos c]; exact ⟨dx, upd_same⟩)
  walk_at "rd"
  refine cEq (fun c1 => ?_) (fun c1 => ?_)
  · intro p dx np ndx ne
    exact q p _ (mk np ndx) (by unfold AtK; rw [if_neg c, if_pos c1]; exact ⟨dx, upd_same⟩)
  walk_at "rd"
  refine cEq (fun c2 => ?_) (fun c2 => ?_)
  · intro p dx np ndx ne
    exact q p _ (mk np ndx) (by unfold AtK; rw [if_neg c, if_neg c1, if_pos c2]; exact ⟨dx, upd_same⟩)
  refine ⟨_, rfl, l, _, rfl, .inl hl, fun m hm => ?_⟩
  have e1 : Same H (upd H m (HO.lst (ws.map V.int))) := Same.upd hm
  intro p dx np ndx ne
  have e2 := mk (C := C_Weights) np ndx
  refine ⟨p, dx, m, ws, rfl, upd_same, SqL.of (e2 _ _ upd_same), hlen, .inl ⟨hn, fun wt H' h1 h2 h3 => ⟨rfl, ?_⟩⟩⟩
  refine q p H' (fun b o e => ?_) (by unfold AtK; rw [if_neg c, if_neg c1, if_neg c2]; exact ⟨dx, wt, h1, h2⟩)
  have e' := e1 _ _ e
  exact h3 b o (e2 _ _ e') (ne_of_none e' np)
end
end K6
namespace K6
open PySem L2

section
variable {P : Program} {w : World} {K : PySem.W.Frag} {mg : Str → Option Value} {base : Heap} {f : Addr} {fd : FuncData} {C_Order C_Degrees C_Tails C_Weights : Addr} {E_NoOrder E_NoTerm : Addr}
local macro_rules | `(tactic| walk_at "sd") => `(tactic| first
  | assumption | (dsimp only; omega) | (dsimp only; decide) | exact ⟨by decide, by decide⟩ | exact ⟨by decide, by decide, by decide⟩ | exact Or.inl ⟨by decide, by decide⟩ | exact ⟨by omega, by omega⟩ | exact Or.inl ⟨by omega, by omega⟩ | exact Or.inr ⟨by decide, by decide⟩ | exact Or.inr ⟨by omega, by omega⟩)
local macro_rules | `(tactic| walk_at "rd") => `(tactic| repeat first
  | refine ⟨_, rfl, ?_⟩ | refine ⟨_, _, rfl, rfl, ?_⟩ | refine And.intro rfl ?_ | refine And.intro (by walk_at "sd") ?_ | with_reducible refine iteT ?_ | with_reducible refine iteF ?_ | (apply ixT_of; assumption; rfl))
local macro_rules | `(tactic| walk_at "clo") => `(tactic| exact h)

theorem scRankIs : FnScope ["_law_found", "_law_due", "_law_a", "_law_b"] ["_law_found", "_law_due"] (defScope s__law_rank_is) := ⟨rfl, rfl, rfl, by decide +kernel, rfl, by decide +kernel, by decide +kernel⟩
set_option maxHeartbeats 4000000 in
theorem ok_RankIs  (F : FunD K "_law_rank_is" "_law_rank_is" s__law_rank_is .none f fd) (T : Txt K mg C_Order C_Degrees C_Tails C_Weights)   : FnOk P w K mg base CX0 1 f fd ["_law_found", "_law_due"] (spIs K) := by
  refine F.okN (k := 0) scRankIs (fun vs H Q E h => ?_) (fun cdv A outer s H vs Q E hr h => ?_)
  · obtain ⟨a, b, xs, rfl, _⟩ := h
    rfl
  obtain ⟨a, b, xs, rfl, h⟩ := h
  refine ⟨_, (pss_cons (ps_if (PW.pt (pw_or (pt_not (pt_val (pe_callB (call_isinstK (K := K) rfl) rfl T.b_isinstance (by kernel_rfl) ((pa_cons (pv 0) (pa_cons (pe_bltn (v := .ty "tuple") rfl T.b_tuple (by kernel_rfl) rfl) pa_nil)))))) (pw_or1 (pt_cmpR op_ne (pe_callB (call_lenK (K := K) rfl) rfl T.b_len PySem.boot_len ((pa_cons (pv 0) pa_nil))) (pe_callB (call_lenK (K := K) rfl) rfl T.b_len PySem.boot_len ((pa_cons (pv 1) pa_nil))) (nomark _))))) (pss_one (ps_ret (pe_bl))) pss_nil)
    (pss_cons (ps_for PassesOwn.never rfl (pi_zipK (K := K) rfl true false rfl T.b_zip ((pa_cons (pv 0) (pa_cons (pv 1) pa_nil)))) (pg_tup rfl (pgs_cons (pg_name (i := 2) scRankIs.nd rfl (Or.inl rfl)) (pgs_cons (pg_name (i := 3) scRankIs.nd rfl (Or.inl rfl)) pgs_nil))) (pss_one (ps_if (PW.pt (pw_or (pt_not (pt_val (pe_callB (call_isinstK (K := K) rfl) rfl T.b_isinstance (by kernel_rfl) ((pa_cons (pv 2) (pa_cons (pe_bltn (v := .ty "int") rfl T.b_int (by kernel_rfl) rfl) pa_nil)))))) (pw_or (pt_val (pe_callB (call_isinstK (K := K) rfl) rfl T.b_isinstance (by kernel_rfl) ((pa_cons (pv 2) (pa_cons (pe_bltn (v := .ty "bool") rfl T.b_bool (by kernel_rfl) rfl) pa_nil))))) (pw_or1 (pt_cmpR op_ne (pv 2) (pv 3) (nomark _)))))) (pss_one (ps_ret (pe_bl))) pss_nil)))
    (pss_one (ps_ret (pe_bl))))), ?_⟩
  obtain ⟨h1, h2, hz, k⟩ := h
  refine ⟨_, rfl, _, _, _, _, _, rfl, rfl, .tup h1, T.ktt, _, rfl, iteF ?_⟩
  refine ⟨_, rfl, a, _, rfl, .inr (SqT.of h1), _, rfl, b, _, rfl, .inl h2, rfl, _, rfl, iteNS rfl ?_⟩
  refine ⟨_, rfl, _, rfl, a, b, rfl, ⟨_, SqT.of h1⟩, ⟨_, h2⟩, ?_⟩
  refine for_same (walk_zip (K := K) (b1 := true) (b2 := false) (SqT.of h1) h2) (fun _ σ => ∃ v2 v3, σ = [some (.ref a), some (.ref b), v2, v3]) ⟨_, _, rfl⟩ ?_ ?_
  · rintro i v σ H' hi ⟨v2, v3, rfl⟩ e ⟨q, x, y, rfl, hq, hx, hy⟩
    rw [getD_of_map hx, getD_of_map hy] at hq
    refine ⟨q, _, rfl, SqT.of hq, rfl, _, _, rfl, _, _, rfl, rfl, ?_⟩
    refine ⟨_, rfl, _, _, _, _, _, rfl, rfl, .int _, T.kii, _, rfl, iteF ?_⟩
    refine ⟨_, rfl, _, _, _, _, _, rfl, rfl, .int _, T.kib, _, rfl, iteF ?_⟩
    exact ⟨_, rfl, _, rfl, rfl, _, rfl, iteNS rfl ⟨⟨_, _, rfl⟩, e⟩⟩
  · rintro σ H' ⟨v2, v3, rfl⟩ e
    exact k H' e
end
end K6
namespace K6
open PySem L2

section
variable {P : Program} {w : World} {K : PySem.W.Frag} {mg : Str → Option Value} {base : Heap} {f : Addr} {fd : FuncData} {C_Order C_Degrees C_Tails C_Weights : Addr} {E_NoOrder E_NoTerm : Addr}
local macro_rules | `(tactic| walk_at "sd") => `(tactic| first
  | assumption | (dsimp only; omega) | (dsimp only; decide) | exact ⟨by decide, by decide⟩ | exact ⟨by decide, by decide, by decide⟩ | exact Or.inl ⟨by decide, by decide⟩ | exact ⟨by omega, by omega⟩ | exact Or.inl ⟨by omega, by omega⟩ | exact Or.inr ⟨by decide, by decide⟩ | exact Or.inr ⟨by omega, by omega⟩)
local macro_rules | `(tactic| walk_at "rd") => `(tactic| repeat first
  | refine ⟨_, rfl, ?_⟩ | refine ⟨_, _, rfl, rfl, ?_⟩ | refine And.intro rfl ?_ | refine And.intro (by walk_at "sd") ?_ | with_reducible refine iteT ?_ | with_reducible refine iteF ?_ | (apply ixT_of; assumption; rfl))
local macro_rules | `(tactic| walk_at "clo") => `(tactic| exact h)

theorem scLFirst : FnScope ["_law_order_here", "_law_terms", "_law_found"] ["_law_order_here", "_law_terms"] (defScope s__law_first) := ⟨rfl, rfl, rfl, by decide +kernel, rfl, by decide +kernel, by decide +kernel⟩
set_option maxHeartbeats 4000000 in
theorem ok_LFirst {C : Addr} {At : Hp → Addr → Prop} {rk : List Int → List Int} (F : FunD K "_law_first" "_law_first" s__law_first .none f fd) (T : Txt K mg C_Order C_Degrees C_Tails C_Weights) (x_NoTerm : Exc K mg base "NoTerm" E_NoTerm) (oC : OrdC C At) (mF : MCal P w K mg base (CXe P w) 6 C "first_of" ["self", "terms"] [] (spFirst At rk E_NoTerm)) : FnOk P w K mg base CX0 7 f fd ["_law_order_here", "_law_terms"] (spLFirst At rk) := by
  refine F.okN (k := 6) scLFirst (fun vs H Q E h => ?_) (fun cdv A outer s H vs Q E hr h => ?_)
  · obtain ⟨p, l, ys, xss, rfl, _⟩ := h
    rfl
  obtain ⟨p, l, ys, xss, rfl, h⟩ := h
  refine ⟨_, (pss_cons (ps_set (i := 2) scLFirst.nd rfl (Or.inl rfl) (pe_non))
    (pss_cons (ps_try rfl rfl rfl x_NoTerm.at_ (fun pl E' E hP => (pss_one (ps_set (i := 2) scLFirst.nd rfl (Or.inl rfl) (pe_m mF (pv 0) hr hP .nil ((pa_cons (pv 1) pa_nil)))))) (fun a => (pss_one (ps_set (i := 2) scLFirst.nd rfl (Or.inl rfl) (pe_non)))))
    (pss_one (ps_ret (pv 2))))), ?_⟩
  obtain ⟨hp, hl, ht, hw, k1, k2⟩ := h
  obtain ⟨dx, fs, hq, nl⟩ := oC.ins hp
  walk_at "rd"
  refine ⟨p, dx, fs, rfl, hq, nl "first_of" (by decide +kernel), _, rfl, p, l, ys, xss, rfl, hp, hl, ht, hw, ?_⟩
  by_cases c : ys = []
  · exact .inl ⟨c, x_NoTerm.me, _, rfl, k1 c⟩
  · exact .inr ⟨c, fun H' xs v e m mx => ⟨_, rfl, k2 c H' xs v e m mx⟩⟩
end
end K6
namespace K6
open PySem L2

section
variable {P : Program} {w : World} {K : PySem.W.Frag} {mg : Str → Option Value} {base : Heap} {f : Addr} {fd : FuncData} {C_Order C_Degrees C_Tails C_Weights : Addr} {E_NoOrder E_NoTerm : Addr}
local macro_rules | `(tactic| walk_at "sd") => `(tactic| first
  | assumption | (dsimp only; omega) | (dsimp only; decide) | exact ⟨by decide, by decide⟩ | exact ⟨by decide, by decide, by decide⟩ | exact Or.inl ⟨by decide, by decide⟩ | exact ⟨by omega, by omega⟩ | exact Or.inl ⟨by omega, by omega⟩ | exact Or.inr ⟨by decide, by decide⟩ | exact Or.inr ⟨by omega, by omega⟩)
local macro_rules | `(tactic| walk_at "rd") => `(tactic| repeat first
  | refine ⟨_, rfl, ?_⟩ | refine ⟨_, _, rfl, rfl, ?_⟩ | refine And.intro rfl ?_ | refine And.intro (by walk_at "sd") ?_ | with_reducible refine iteT ?_ | with_reducible refine iteF ?_ | (apply ixT_of; assumption; rfl))
local macro_rules | `(tactic| walk_at "clo") => `(tactic| exact h)

theorem scLRank : FnScope ["_law_kind", "_law_weights_here", "_law_term"] ["_law_kind", "_law_weights_here", "_law_term"] (defScope s__law_rank) := ⟨rfl, rfl, rfl, by decide +kernel, rfl, by decide +kernel, by decide +kernel⟩
set_option maxHeartbeats 4000000 in
theorem ok_LRank  (F : FunD K "_law_rank" "_law_rank" s__law_rank .none f fd) (T : Txt K mg C_Order C_Degrees C_Tails C_Weights)   : FnOk P w K mg base CX0 1 f fd ["_law_kind", "_law_weights_here", "_law_term"] (spLRank K) := by
  refine F.okN (k := 0) scLRank (fun vs H Q E h => ?_) (fun cdv A outer s H vs Q E hr h => ?_)
  · obtain ⟨kd, l, t, ws, xs, n, rfl, _⟩ := h
    rfl
  obtain ⟨kd, l, t, ws, xs, n, rfl, h⟩ := h
  refine ⟨_, (pss_cons (ps_if (pt_cmpR op_eq (pv 0) (pe_int) (nomark _)) (pss_one (ps_ret (pe_callTy (call_listK (K := K) rfl) rfl T.b_list (by kernel_rfl) ((pa_cons (pv 2) pa_nil))))) pss_nil)
    (pss_cons (ps_if (pt_cmpR op_eq (pv 0) (pe_int) (nomark _)) (pss_one (ps_ret (pe_op op_cat (pe_lst ((pa_cons (pe_callB (call_sumK (K := K) rfl false rfl) rfl T.b_sum (by kernel_rfl) ((pa_cons (pe_comp (N := ["_law_at", "_law_term", "_law_weights_here"]) (cl := [("_law_weights_here", s.heap.objs.size + 1), ("_law_term", s.heap.objs.size + 2)]) (mp := [none, some 2, some 1]) (Blk.of rfl (by decide +kernel) rfl (by decide +kernel) nd__law_at__law_term__law_weights_here (subc_cons rfl (subc_cons rfl subc_nil)) (fr_of (fs := ["_law_weights_here", "_law_term"]) rfl (by decide +kernel)) rfl (mapc_none (mapc_some rfl (.inl rfl) rfl (mapc_some rfl (.inl rfl) rfl mapc_nil)))) rfl (pi_range1 rfl T.b_range ((pa_cons (pe_callB (call_lenK (K := K) rfl) rfl T.b_len PySem.boot_len ((pa_cons (pv 2) pa_nil))) pa_nil))) (fun C0 s0 H0 fp0 => pg_one (i := 0) nd__law_at__law_term__law_weights_here rfl rfl) (fun C0 s0 H0 fp0 => pts_nil) (fun C0 s0 H0 fp0 => pe_op op_mulB (pe_ix (r := rIxT K) ix_tup (pv 1) (pv 0) (fun _ _ => rfl)) (pe_ix (r := rIxL K) ix_list (pv 2) (pv 0) (fun _ _ => rfl)))) pa_nil))) pa_nil))) (pe_callTy (call_listK (K := K) rfl) rfl T.b_list (by kernel_rfl) ((pa_cons (pv 2) pa_nil)))))) pss_nil)
    (pss_cons (ps_if (pt_cmpR op_eq (pv 0) (pe_int) (nomark _)) (pss_one (ps_ret (pe_op op_cat (pe_lst ((pa_cons (pe_callB (call_sumK (K := K) rfl true rfl) rfl T.b_sum (by kernel_rfl) ((pa_cons (pv 2) pa_nil))) pa_nil))) (pe_callTy (call_listK (K := K) rfl) rfl T.b_list (by kernel_rfl) ((pa_cons (pv 2) pa_nil)))))) pss_nil)
    (pss_one (ps_ret (pe_op op_cat (pe_lst ((pa_cons (pe_callB (call_sumK (K := K) rfl true rfl) rfl T.b_sum (by kernel_rfl) ((pa_cons (pv 2) pa_nil))) pa_nil))) (pe_comp (N := ["_law_at", "_law_term"]) (cl := [("_law_term", s.heap.objs.size + 2)]) (mp := [none, some 2]) (Blk.of rfl (by decide +kernel) rfl (by decide +kernel) nd__law_at__law_term (subc_cons rfl subc_nil) (fr_of (fs := ["_law_term"]) rfl (by decide +kernel)) rfl (mapc_none (mapc_some rfl (.inl rfl) rfl mapc_nil))) rfl (pi_range1 rfl T.b_range ((pa_cons (pe_callB (call_lenK (K := K) rfl) rfl T.b_len PySem.boot_len ((pa_cons (pv 2) pa_nil))) pa_nil))) (fun C0 s0 H0 fp0 => pg_one (i := 0) nd__law_at__law_term rfl rfl) (fun C0 s0 H0 fp0 => pts_nil) (fun C0 s0 H0 fp0 => pe_un un_neg (pe_ix (r := rIxT K) ix_tup (pv 1) (pe_op op_sub (pe_op op_sub (pe_callB (call_lenK (K := K) rfl) rfl T.b_len PySem.boot_len ((pa_cons (pv 1) pa_nil))) (pe_int)) (pv 0)) (fun _ _ => rfl)))))))))), ?_⟩
  obtain ⟨hl, ht, tx, tw, n1, n2, k⟩ := h
  have lx : (((xs.map V.int).length : Nat) : Int) = (n : Int) := by rw [List.length_map, tx.len]
  walk_at "rd"
  refine cEq (fun c => ?_) (fun c => ?_)
  · refine ⟨_, rfl, t, _, rfl, .inr ht, fun d hd => k d _ hd (Same.upd hd) ?_⟩
    unfold rkk
    rw [upd_same, if_pos c]
    rfl
  walk_at "rd"
  refine cEq (fun c1 => ?_) (fun c1 => ?_)
  · show tComp _ _ _ _ _ _ _ _
    refine range_comp (H1 := H) (n : Int) (fun σ => ∃ v, σ = [v, some (.ref t), some (.ref l)]) (fun _ => true) (fun i => .int (xs.getD i 0 * ws.getD i 0)) (by omega) (by omega) ?_ ⟨none, rfl⟩ ?_ fun D H' e hL => ?_
    · exact fun R hR => ⟨_, rfl, t, _, rfl, .inr ht, by rw [lx]; exact hR⟩
    · rintro i σ' H2 hi ⟨z, rfl⟩ e Ny Nn hy hn
      have a1 : atI (xs.map V.int) (0 + (i : Int)) = some (.int (cellOf xs (0 + (i : Int)))) := atI_int (by omega) (by rw [tx.len]; omega)
      have a2 : atI (ws.map V.int) (0 + (i : Int)) = some (.int (cellOf ws (0 + (i : Int)))) := atI_int (by omega) (by rw [tw.len]; omega)
      rw [cell_nat] at a1 a2
      have q := hy [some (.int (0 + (i : Int))), some (.ref t), some (.ref l)] H2 ⟨_, rfl⟩ (Same.refl _) rfl
      unfold gName tYes
      dsimp only
      rw [if_pos rfl]
      exact ⟨_, rfl, _, rfl, t, _, _, _, rfl, rfl, e.seqT ht, a1, _, rfl, _, rfl, l, _, _, _, rfl, rfl, e.seq hl, a2, _, _, rfl, rfl, ⟨bits tx.nn tx.b i, bits tw.nn tw.b i⟩, q⟩
    rw [List.filter_eq_self.mpr (fun _ _ => rfl), Int.toNat_natCast] at hL
    have eL : (List.range n).map (fun i => V.int (xs.getD i 0 * ws.getD i 0)) = ((List.zipWith (fun a b => a * b) xs ws)).map V.int := by rw [← wsum_range tx.len tw.len, List.map_map]; rfl
    rw [eL] at hL
    refine ⟨D, _, rfl, SqL.of hL, ?_⟩
    refine ⟨(by show 1 ≤ sizeLine; decide), fun d1 hd1 => ?_⟩
    have g1 := e.updR (o := HO.lst [V.int (wsum ws xs)]) (e.free hd1)
    refine ⟨_, rfl, t, _, rfl, .inr (g1.seqT ht), fun d2 hd2 => ?_⟩
    have g2 := g1.updR (o := HO.lst (xs.map V.int)) (g1.free hd2)
    have n12 : d1 ≠ d2 := fun z => by rw [← z, upd_same] at hd2; cases hd2
    refine ⟨d1, d2, _, _, rfl, rfl, (by rw [upd_ne n12]; exact upd_same), upd_same, ?_, fun d3 hd3 => ?_⟩
    · rw [List.length_map, tx.len, sizeLine_eq]; show 1 + n ≤ _; omega
    refine k d3 _ (g2.free hd3) (g2.updR (g2.free hd3)) ?_
    rw [upd_same]
    unfold rkk
    rw [if_neg c, if_pos c1]
    rfl
  walk_at "rd"
  refine cEq (fun c2 => ?_) (fun c2 => ?_)
  · refine ⟨_, rfl, t, xs, rfl, ht, ?_⟩
    refine ⟨(by show 1 ≤ sizeLine; decide), fun d1 hd1 => ?_⟩
    have g1 := (Same.refl H).updR (o := HO.lst [V.int (xs.sum)]) ((Same.refl H).free hd1)
    refine ⟨_, rfl, t, _, rfl, .inr (g1.seqT ht), fun d2 hd2 => ?_⟩
    have g2 := g1.updR (o := HO.lst (xs.map V.int)) (g1.free hd2)
    have n12 : d1 ≠ d2 := fun z => by rw [← z, upd_same] at hd2; cases hd2
    refine ⟨d1, d2, _, _, rfl, rfl, (by rw [upd_ne n12]; exact upd_same), upd_same, ?_, fun d3 hd3 => ?_⟩
    · rw [List.length_map, tx.len, sizeLine_eq]; show 1 + n ≤ _; omega
    refine k d3 _ (g2.free hd3) (g2.updR (g2.free hd3)) ?_
    rw [upd_same]
    unfold rkk
    rw [if_neg c, if_neg c1, if_pos c2]
    rfl
  · refine ⟨_, rfl, t, xs, rfl, ht, ?_⟩
    refine ⟨(by show 1 ≤ sizeLine; decide), fun d1 hd1 => ?_⟩
    have g1 := (Same.refl H).updR (o := HO.lst [V.int (xs.sum)]) ((Same.refl H).free hd1)
    show tComp _ _ _ _ _ _ _ _
    have hd1' : (upd H d1 (HO.lst [V.int xs.sum])) d1 = some (.lst [V.int xs.sum]) := upd_same
    generalize upd H d1 (HO.lst [V.int xs.sum]) = H1 at g1 hd1'
    refine range_comp (H1 := H1) (n : Int) (fun σ => ∃ v, σ = [v, some (.ref t)]) (fun _ => true) (fun i => .int (-(xs.getD (xs.length - 1 - i) 0))) (by omega) (by omega) ?_ ⟨none, rfl⟩ ?_ fun D H' e hL => ?_
    · exact fun R hR => ⟨_, rfl, t, _, rfl, .inr (g1.seqT ht), by rw [lx]; exact hR⟩
    · rintro i σ' H2 hi ⟨z, rfl⟩ e Ny Nn hy hn
      have t2 := (g1.trans e).seqT ht
      have a1 : atI (xs.map V.int) ((n : Int) - 1 - (0 + (i : Int))) = some (.int (cellOf xs ((n : Int) - 1 - (0 + (i : Int))))) := atI_int (by omega) (by rw [tx.len]; omega)
      have ec : cellOf xs ((n : Int) - 1 - (0 + (i : Int))) = xs.getD (xs.length - 1 - i) 0 := by
        unfold cellOf
        have := tx.len
        congr 1
        omega
      rw [ec] at a1
      have q := hy [some (.int (0 + (i : Int))), some (.ref t)] H2 ⟨_, rfl⟩ (Same.refl _) rfl
      unfold gName tYes
      dsimp only
      rw [if_pos rfl]
      refine ⟨_, rfl, _, rfl, t, _, rfl, .inr t2, ?_⟩
      rw [lx]
      exact ⟨_, _, rfl, rfl, _, rfl, _, _, rfl, rfl, t, _, _, _, rfl, rfl, t2, a1, _, rfl, q⟩
    rw [List.filter_eq_self.mpr (fun _ _ => rfl), Int.toNat_natCast] at hL
    have eL : (List.range n).map (fun i => V.int (-(xs.getD (xs.length - 1 - i) 0))) = (xs.reverse.map fun x => -x).map V.int := by
      rw [← rev_getD xs fun x => -x, List.map_map, tx.len]; rfl
    rw [eL] at hL
    have g3 := g1.trans e
    refine ⟨d1, D, _, _, rfl, rfl, e _ _ hd1', hL, ?_, fun d3 hd3 => ?_⟩
    · simp only [List.length_map, List.length_reverse, tx.len, sizeLine_eq, List.length_singleton]; omega
    refine k d3 _ (g3.free hd3) (g3.updR (g3.free hd3)) ?_
    rw [upd_same]
    unfold rkk
    rw [if_neg c, if_neg c1, if_neg c2]
    rfl
end
end K6
namespace K6
open PySem L2

section
variable {P : Program} {w : World} {K : PySem.W.Frag} {mg : Str → Option Value} {base : Heap} {f : Addr} {fd : FuncData} {C_Order C_Degrees C_Tails C_Weights : Addr} {E_NoOrder E_NoTerm : Addr}
local macro_rules | `(tactic| walk_at "sd") => `(tactic| first
  | assumption | (dsimp only; omega) | (dsimp only; decide) | exact ⟨by decide, by decide⟩ | exact ⟨by decide, by decide, by decide⟩ | exact Or.inl ⟨by decide, by decide⟩ | exact ⟨by omega, by omega⟩ | exact Or.inl ⟨by omega, by omega⟩ | exact Or.inr ⟨by decide, by decide⟩ | exact Or.inr ⟨by omega, by omega⟩)
local macro_rules | `(tactic| walk_at "rd") => `(tactic| repeat first
  | refine ⟨_, rfl, ?_⟩ | refine ⟨_, _, rfl, rfl, ?_⟩ | refine And.intro rfl ?_ | refine And.intro (by walk_at "sd") ?_ | with_reducible refine iteT ?_ | with_reducible refine iteF ?_ | (apply ixT_of; assumption; rfl))
local macro_rules | `(tactic| walk_at "clo") => `(tactic| exact h)

theorem scFalls : FnScope ["_law_order_here", "_law_terms", "_law_ranks", "_law_handed", "_law_found", "_law_due", "_law_k", "_law_first_here"] ["_law_order_here", "_law_terms", "_law_ranks"] (defScope s__law_falls) := ⟨rfl, rfl, rfl, by decide +kernel, rfl, by decide +kernel, by decide +kernel⟩
set_option maxHeartbeats 4000000 in
theorem ok_Falls {C : Addr} {At : Hp → Addr → Prop} {rk : List Int → List Int} (F : FunD K "_law_falls" "_law_falls" s__law_falls .none f fd) (T : Txt K mg C_Order C_Degrees C_Tails C_Weights) (c_RankIs : Cal P w K mg base CX0 1 "_law_rank_is" ["_law_found", "_law_due"] [] (spIs K)) (oC : OrdC C At) (lrk : ∀ xs : List Int, (rk xs).length ≤ xs.length + 1) (mR : MCal P w K mg base CX0 3 C "rank" ["self", "term"] [] (spRank At rk)) (mF : MCal P w K mg base CX0 6 C "falling" ["self", "terms"] [] (spFall At rk)) (cF : Cal P w K mg base CX0 7 "_law_first" ["_law_order_here", "_law_terms"] [] (spLFirst At rk)) : FnOk P w K mg base CX0 8 f fd ["_law_order_here", "_law_terms", "_law_ranks"] (spFalls At rk) := by
  refine F.okN (k := 7) scFalls (fun vs H Q E h => ?_) (fun cdv A outer s H vs Q E hr h => ?_)
  · obtain ⟨p, l, r, ys, zs, xss, n, rfl, _⟩ := h
    rfl
  obtain ⟨p, l, r, ys, zs, xss, n, rfl, h⟩ := h
  refine ⟨_, (pss_cons (ps_set (i := 3) scFalls.nd rfl (Or.inl rfl) (pe_callTy (call_listK (K := K) rfl) rfl T.b_list (by kernel_rfl) ((pa_cons (pv 1) pa_nil))))
    (pss_cons (ps_set (i := 4) scFalls.nd rfl (Or.inl rfl) (pe_m mF (pv 0) hr pass00 .nil ((pa_cons (pv 3) pa_nil))))
    (pss_cons (ps_if (PW.pt (pw_or (pt_cmpR (op_neD hr.units) (pv 3) (pv 1) (nomark _)) (pw_or (pt_not (pt_val (pe_callB (call_isinstK (K := K) rfl) rfl T.b_isinstance (by kernel_rfl) ((pa_cons (pv 4) (pa_cons (pe_bltn (v := .ty "list") rfl T.b_list (by kernel_rfl) rfl) pa_nil)))))) (pw_or1 (pt_cmpR op_ne (pe_callB (call_lenK (K := K) rfl) rfl T.b_len PySem.boot_len ((pa_cons (pv 4) pa_nil))) (pe_callB (call_lenK (K := K) rfl) rfl T.b_len PySem.boot_len ((pa_cons (pv 1) pa_nil))) (nomark _)))))) (pss_one (ps_ret (pe_bl))) pss_nil)
    (pss_cons (ps_set (i := 5) scFalls.nd rfl (Or.inl rfl) (pe_sortN (pv 2) hr T.b_sorted))
    (pss_cons (ps_for PassesOwn.never rfl (pi_range1 rfl T.b_range ((pa_cons (pe_callB (call_lenK (K := K) rfl) rfl T.b_len PySem.boot_len ((pa_cons (pv 4) pa_nil))) pa_nil))) (pg_name (i := 6) scFalls.nd rfl (Or.inl rfl)) (pss_cons (ps_if (PW.pt (pw_or (pt_not (pt_val (pe_callB (call_isinstK (K := K) rfl) rfl T.b_isinstance (by kernel_rfl) ((pa_cons (pe_ix (r := rIxL K) ix_list (pv 4) (pv 6) (fun _ _ => rfl)) (pa_cons (pe_bltn (v := .ty "tuple") rfl T.b_tuple (by kernel_rfl) rfl) pa_nil)))))) (pw_or1 (pt_not (pt_val (pe_c c_RankIs hr pass00 .nil ((pa_cons (pe_m mR (pv 0) hr pass00 .nil ((pa_cons (pe_ix (r := rIxL K) ix_list (pv 4) (pv 6) (fun _ _ => rfl)) pa_nil))) (pa_cons (pe_ix (r := rIxL K) ix_list (pv 5) (pv 6) (fun _ _ => rfl)) pa_nil))))))))) (pss_one (ps_ret (pe_bl))) pss_nil)
    (pss_one (ps_if (pt_cmpR op_ne (pe_count hr.units (pv 4) ((pa_cons (pe_ix (r := rIxL K) ix_list (pv 4) (pv 6) (fun _ _ => rfl)) pa_nil))) (pe_count hr.units (pv 1) ((pa_cons (pe_ix (r := rIxL K) ix_list (pv 4) (pv 6) (fun _ _ => rfl)) pa_nil))) (nomark _)) (pss_one (ps_ret (pe_bl))) pss_nil))))
    (pss_cons (ps_set (i := 7) scFalls.nd rfl (Or.inl rfl) (pe_c cF hr pass00 .nil ((pa_cons (pv 0) (pa_cons (pv 3) pa_nil)))))
    (pss_cons (ps_if (pt_cmpR op_eq (pe_callB (call_lenK (K := K) rfl) rfl T.b_len PySem.boot_len ((pa_cons (pv 1) pa_nil))) (pe_int) (nomark _)) (pss_one (ps_ret (pe_cmpR op_isN (pv 7) (pe_non) (nomark _)))) pss_nil)
    (pss_one (ps_ret (pe_and (pe_cmpR (op_eqD hr.units) (pv 3) (pv 1) (nomark _)) (pe_one (pe_cmpR (op_eqT hr.units) (pv 7) (pe_ix (r := rIxL K) ix_list (pv 4) (pe_int) (fun _ _ => rfl)) (nomark _))))))))))))), ?_⟩
  obtain ⟨hp, hl, ht, hw, n1, n2, ly, M, hr0, hz, k⟩ := h
  have hpw : ∀ xs ∈ xss, Pws xs := fun xs hx => (hw xs hx).pws n1 (by omega)
  obtain ⟨dx, fs, hq, nl⟩ := oC.ins hp
  -- handed
  refine ⟨_, rfl, l, _, rfl, .inl (SqL.of hl), fun d0 hd0 => ?_⟩
  have e0 : Same H (upd H d0 (HO.lst ys)) := Same.upd hd0
  have h0 : (upd H d0 (HO.lst ys)) d0 = some (.lst ys) := upd_same
  generalize upd H d0 (HO.lst ys) = H0 at e0 h0
  -- found
  refine ⟨_, rfl, p, dx, fs, rfl, e0 _ _ hq, nl "falling" (by decide +kernel), _, rfl, p, d0, ys, xss, rfl, oC.same e0 hp, h0, pimp (fun _ _ h => h.same e0) ht, hpw, by omega, fun D H1 ps e1 pp ps' hD => ?_⟩
  have f1 := e0.trans e1
  have ht1 := pimp (fun _ _ h => h.same f1) ht
  have lps : (ps.map (·.2)).length = ys.length := by
    have := pp.map Prod.snd
    rw [zip_snd ht] at this
    exact this.length_eq
  have tps : Paired (Trm H1) (ps.map Prod.fst) (ps.map Prod.snd) := zip_paired ps fun q hq => zip_mem ht1 q (pp.subset hq)
  have pf : (ps.map Prod.fst).Perm xss := by have := pp.map Prod.fst; rwa [zip_fst ht] at this
  have wps : ∀ q ∈ ps, Tm n q.1 := fun q hq => hw _ (pf.subset (List.mem_map.mpr ⟨q, hq, rfl⟩))
  dsimp only [gName]
  refine if_noS (fun H' => H' = H1) ?_ (fun N kN => ?_)
  rotate_left
  · have a1 : Rds K H1 (.ref d0) (.list (tds xss)) := .lst (SqL.of (e1 _ _ h0)) (rds_trms ht1)
    have a2 : Rds K H1 (.ref l) (.list (tds xss)) := .lst (SqL.of (f1 _ _ hl)) (rds_trms ht1)
    refine ⟨_, rfl, _, rfl, _, _, a1, a2, tds_shaped _, tds_shaped _, _, rfl, ?_⟩
    rw [tds_refl]
    refine iteF ?_
    refine ⟨_, rfl, _, _, _, _, _, rfl, rfl, .lst hD, T.kll, _, rfl, iteF ?_⟩
    refine ⟨_, rfl, D, _, rfl, .inl (SqL.of hD), _, rfl, l, _, rfl, .inl (SqL.of (f1 _ _ hl)), rfl, _, rfl, ?_⟩
    rw [lps, decide_eq_true rfl]
    exact kN _ rfl
  rintro H9 rfl
  -- due
  have hz1 : Paired (fun ns v => ∃ t, v = V.ref t ∧ H9 t = some (.lst (ns.map V.int))) (xss.map rk) zs := pmap rk (pimp (fun _ _ h => h.same f1) hz)
  refine ⟨_, rfl, r, zs, xss.map rk, rfl, f1 _ _ hr0, hz1, (by have := Paired.length ht; have := Paired.length hz; omega), fun qs qp qw d2 hd2 => ?_⟩
  have e2 : Same H9 (upd H9 d2 (HO.lst (qs.map (·.2)))) := Same.upd hd2
  have hd2' : (upd H9 d2 (HO.lst (qs.map (·.2)))) d2 = some (.lst (qs.map (·.2))) := upd_same
  generalize upd H9 d2 (HO.lst (qs.map (·.2))) = H2 at e2 hd2'
  have f2 := f1.trans e2
  have eqr : ps.map (fun q => rk q.1) = qs.map Prod.fst := by
    refine fall_one ?_ ?_ ?_
    · have q1 := qp.map Prod.fst
      rw [zip_fst hz1] at q1
      have q2 := (pf.map rk)
      rw [List.map_map] at q2
      exact q2.trans q1.symm
    · rw [List.pairwise_map]; exact ps'
    · rw [List.pairwise_map]; exact qw.imp fun h => by simpa using h
  have lq : qs.length = ps.length := by have := congrArg List.length eqr; simpa using this.symm
  have lp : ps.length = ys.length := by simpa using lps
  -- the loop
  refine ⟨_, rfl, D, _, rfl, .inl (SqL.of (e2 _ _ hD)), _, rfl, (by omega), (by rw [lps]; omega), ?_⟩
  rw [lps]
  refine for_same (walk_range 0 _) (fun _ σ => ∃ v6 v7, σ = [some (.ref p), some (.ref l), some (.ref r), some (.ref d0), some (.ref D), some (.ref d2), v6, v7]) ⟨_, _, rfl⟩ ?_ ?_
  · rintro i v σ H3 hi ⟨v6, v7, rfl⟩ e3 rfl
    have hi' : i < ps.length := by omega
    have hiq : i < qs.length := by omega
    have f3 := f2.trans e3
    have g3 := e2.trans e3
    obtain ⟨t, et, htt⟩ := (zip_mem ht1 ps[i] (pp.subset (List.getElem_mem hi'))).same g3
    obtain ⟨u, eu, huu⟩ := zip_mem hz1 qs[i] (qp.subset (List.getElem_mem hiq))
    have er : rk ps[i].1 = qs[i].1 := by
      have := congrArg (fun l => l[i]?) eqr
      simpa [hi', hiq] using this
    have a1 : atI (ps.map (·.2)) (0 + (i : Int)) = some (.ref t) := by
      rw [show (0 : Int) + (i : Int) = ((i : Nat) : Int) by omega]
      refine atI_nat ?_
      rw [List.getElem?_map, List.getElem?_eq_getElem hi']
      exact congrArg some et
    have a2 : atI (qs.map (·.2)) (0 + (i : Int)) = some (.ref u) := by
      rw [show (0 : Int) + (i : Int) = ((i : Nat) : Int) by omega]
      refine atI_nat ?_
      rw [List.getElem?_map, List.getElem?_eq_getElem hiq]
      exact congrArg some eu
    have tw := wps ps[i] (List.getElem_mem hi')
    have sD : SqL K H3 D (ps.map (·.2)) := SqL.of (g3 _ _ hD)
    have s2 : SqL K H3 d2 (qs.map (·.2)) := SqL.of (e3 _ _ hd2')
    refine ⟨_, rfl, _, rfl, D, _, _, _, rfl, rfl, sD, a1, ?_⟩
    refine ⟨_, _, _, _, _, rfl, rfl, .tup htt, T.ktt, _, rfl, iteF ?_⟩
    refine ⟨_, rfl, p, dx, fs, rfl, f3 _ _ hq, nl "rank" (by decide +kernel), _, rfl, _, rfl, D, _, _, _, rfl, rfl, sD, a1, ?_⟩
    refine ⟨p, t, ps[i].1, rfl, oC.same f3 hp, htt, tw.pws n1 (by omega), fun r4 H4 e4 t4 => ?_⟩
    refine ⟨_, rfl, _, rfl, d2, _, _, _, rfl, rfl, e4.seq s2, a2, ?_⟩
    have hu4 : SqL K H4 u ((rk ps[i].1).map V.int) := by rw [er]; exact SqL.of ((g3.trans e4) _ _ huu)
    refine ⟨r4, u, _, rfl, t4, hu4, (Nat.le_trans (lrk _) (by rw [tw.len]; omega)), fun H5 e5 => ⟨_, rfl, iteF ?_⟩⟩
    have g5 := (g3.trans e4).trans e5
    have f5 := f1.trans g5
    have sD5 : SqL K H5 D (ps.map (·.2)) := SqL.of (g5 _ _ hD)
    have sl5 : SqL K H5 l ys := SqL.of (f5 _ _ hl)
    have rd : Rds K H5 (.ref t) (.tuple (ps[i].1.map PyData.int)) := .tup (SqT.of ((e4.trans e5) _ _ htt)) (rds_ints _)
    have rD : RdsAll K H5 (ps.map (·.2)) (tds (ps.map Prod.fst)) := rds_trms (pimp (fun _ _ h => h.same g5) tps)
    have rl : RdsAll K H5 ys (tds xss) := rds_trms (pimp (fun _ _ h => h.same g5) ht1)
    have lay1 : (PyData.tuple (ps[i].1.map PyData.int)).canLay0 = true := by rw [PyData.canLay0, PySem.W.ke_canLayAll0]
    have dep1 : (PyData.tuple (ps[i].1.map PyData.int)).depth ≤ 60 := by rw [PyData.depth]; have := PySem.W.ke_depthAll ps[i].1; omega
    refine ⟨_, rfl, ?_, _, rfl, _, rfl, D, _, _, _, rfl, rfl, sD5, a1, D, _, _, _, _, rfl, rfl, sD5, rD, rd, tds_lay _, lay1, dep1, ?_⟩
    · exact .inl ⟨rfl, _, sD5⟩
    refine ⟨_, rfl, ?_, _, rfl, _, rfl, D, _, _, _, rfl, rfl, sD5, a1, l, _, _, _, _, rfl, rfl, sl5, rl, rd, tds_lay _, lay1, dep1, ?_⟩
    · exact .inl ⟨rfl, _, sl5⟩
    have ec : (tds (ps.map Prod.fst)).countP (fun e => PyData.eqv e (.tuple (ps[i].1.map PyData.int))) = (tds xss).countP (fun e => PyData.eqv e (.tuple (ps[i].1.map PyData.int))) := (pf.map _).countP_eq _
    refine ⟨rfl, _, rfl, ?_⟩
    rw [ec, decide_eq_true rfl]
    exact iteF ⟨⟨_, _, rfl⟩, (e3.trans e4).trans e5⟩
  · rintro σ H3 ⟨v6, v7, rfl⟩ e3
    have f3 := f2.trans e3
    have g3 := e2.trans e3
    have h03 := (e1.trans g3) _ _ h0
    have ht3 := pimp (fun _ _ h => h.same f3) ht
    refine ⟨_, rfl, _, rfl, p, d0, ys, xss, rfl, oC.same f3 hp, h03, ht3, hpw, fun y0 => ?_, fun yne H4 x v e4 hm hmx => ?_⟩
    · refine ⟨_, rfl, l, _, rfl, .inl (SqL.of (f3 _ _ hl)), rfl, _, rfl, cEq (fun _ => ?_) (fun c => absurd (by rw [y0]; rfl) c)⟩
      refine ⟨_, rfl, rfl, ?_⟩
      rw [decide_eq_true rfl]
      exact k _ f3
    · have f4 := f3.trans e4
      have g4 := g3.trans e4
      have ht4 := pimp (fun _ _ h => h.same f4) ht
      refine ⟨_, rfl, l, _, rfl, .inl (SqL.of (f4 _ _ hl)), rfl, _, rfl, cEq (fun c => ?_) (fun _ => ?_)⟩
      · exact absurd (List.length_eq_zero_iff.mp (by omega)) yne
      have a1 : Rds K H4 (.ref d0) (.list (tds xss)) := .lst (SqL.of (e4 _ _ h03)) (rds_trms ht4)
      have a2 : Rds K H4 (.ref l) (.list (tds xss)) := .lst (SqL.of (f4 _ _ hl)) (rds_trms ht4)
      refine ⟨_, rfl, _, rfl, _, _, a1, a2, tds_shaped _, tds_shaped _, _, rfl, ?_⟩
      rw [tds_refl]
      refine iteT ?_
      have h0p : 0 < ps.length := by rw [lp]; exact List.length_pos_iff.mpr yne
      obtain ⟨t, et, htt⟩ := (zip_mem ht1 ps[0] (pp.subset (List.getElem_mem h0p))).same g4
      obtain ⟨u, eu, huu⟩ := zip_mem ht4 _ hm
      have at0 : atI (ps.map (·.2)) 0 = some (.ref t) := by
        show atI (ps.map (·.2)) ((0 : Nat) : Int) = _
        refine atI_nat ?_
        rw [List.getElem?_map, List.getElem?_eq_getElem h0p]
        exact congrArg some et
      dsimp only at eu huu
      subst eu
      refine ⟨_, rfl, _, rfl, D, _, _, _, rfl, rfl, SqL.of (g4 _ _ hD), at0, u, t, _, _, rfl, rfl, SqT.of huu, SqT.of htt, ?_⟩
      have xt : Tm n x := hw _ (List.of_mem_zip hm).1
      have pt := wps ps[0] (List.getElem_mem h0p)
      have l1 : HT.lexLt (rk x) (rk ps[0].1) = false := hmx _ (pp.subset (List.getElem_mem h0p))
      have l2 : HT.lexLt (rk ps[0].1) (rk x) = false := by
        have hmp : (x, V.ref u) ∈ ps := pp.symm.subset hm
        obtain ⟨j, hj, ej⟩ := List.mem_iff_getElem.mp hmp
        rcases Nat.eq_zero_or_pos j with z | z
        · subst z; rw [ej, lt_irr]
        · have := (List.pairwise_iff_getElem.mp ps') 0 j h0p hj z
          rw [ej] at this
          exact this
      have ex : x = ps[0].1 := M.inj _ _ xt.len pt.len (Classical.byContradiction fun ne => by
        have := lt_tri ne
        rw [l1, l2] at this
        cases this)
      rw [decide_eq_true ex]
      exact k _ f4
end
end K6
namespace K6
open PySem L2

section
variable {P : Program} {w : World} {K : PySem.W.Frag} {mg : Str → Option Value} {base : Heap} {f : Addr} {fd : FuncData} {C_Order C_Degrees C_Tails C_Weights : Addr} {E_NoOrder E_NoTerm : Addr}
local macro_rules | `(tactic| walk_at "sd") => `(tactic| first
  | assumption | (dsimp only; omega) | (dsimp only; decide) | exact ⟨by decide, by decide⟩ | exact ⟨by decide, by decide, by decide⟩ | exact Or.inl ⟨by decide, by decide⟩ | exact ⟨by omega, by omega⟩ | exact Or.inl ⟨by omega, by omega⟩ | exact Or.inr ⟨by decide, by decide⟩ | exact Or.inr ⟨by omega, by omega⟩)
local macro_rules | `(tactic| walk_at "rd") => `(tactic| repeat first
  | refine ⟨_, rfl, ?_⟩ | refine ⟨_, _, rfl, rfl, ?_⟩ | refine And.intro rfl ?_ | refine And.intro (by walk_at "sd") ?_ | with_reducible refine iteT ?_ | with_reducible refine iteF ?_ | (apply ixT_of; assumption; rfl))
local macro_rules | `(tactic| walk_at "clo") => `(tactic| exact h)

theorem scWTold : FnScope ["_law_weights_here", "_law_at", "_law_broken", "_law_refused", "_law_kept", "_law_order_here", "_law_many"] ["_law_weights_here", "_law_at"] (defScope s__law_weights_told) := ⟨rfl, rfl, rfl, by decide +kernel, rfl, by decide +kernel, by decide +kernel⟩
set_option maxHeartbeats 4000000 in
theorem ok_WTold  (F : FunD K "_law_weights_told" "_law_weights_told" s__law_weights_told .none f fd) (T : Txt K mg C_Order C_Degrees C_Tails C_Weights) (k_WInit : Mak P w K mg base (CXe P w) 1 "Weights" C_Weights ["self", "weights"] [] (spWInit K C_Weights E_NoOrder)) (c_Truth : Cal P w K mg base CX0 1 "_law_truth" ["_law_found", "_law_due"] [] spTruth) (x_NoOrder : Exc K mg base "NoOrder" E_NoOrder) (mFW : ∀ ws : List Int, MCal P w K mg base CX0 1 C_Weights "fits" ["self", "many"] [] (spFits (AtW C_Weights ws) fun k => decide ((ws.length : Int) = k))) : FnOk P w K mg base CX0 3 f fd ["_law_weights_here", "_law_at"] (spWTold K) := by
  refine F.okN (k := 2) scWTold (fun vs H Q E h => ?_) (fun cdv A outer s H vs Q E hr h => ?_)
  · obtain ⟨l, a, ws, rfl, _⟩ := h
    rfl
  obtain ⟨l, a, ws, rfl, h⟩ := h
  have mW := mFW ws
  refine ⟨_, (pss_cons (ps_set (i := 2) scWTold.nd rfl (Or.inl rfl) (pe_callTy (call_listK (K := K) rfl) rfl T.b_list (by kernel_rfl) ((pa_cons (pv 0) pa_nil))))
    (pss_cons (ps_asg (pe_op op_sub (pe_un un_neg pe_int) (pe_ix (r := rIxL K) ix_list (pv 0) (pv 1) (fun _ _ => rfl))) (pg_sub (pv 2) (pv 1) set_list))
    (pss_cons (ps_set (i := 3) scWTold.nd rfl (Or.inl rfl) (pe_bl))
    (pss_cons (ps_try rfl rfl rfl x_NoOrder.at_ (fun pl E' E hP => (pss_one (ps_expr (pe_mk k_WInit hr hP .nil ((pa_cons (pv 2) pa_nil)))))) (fun a => (pss_one (ps_set (i := 3) scWTold.nd rfl (Or.inl rfl) (pe_bl)))))
    (pss_cons (ps_set (i := 4) scWTold.nd rfl (Or.inl rfl) (pe_callTy (call_listK (K := K) rfl) rfl T.b_list (by kernel_rfl) ((pa_cons (pv 0) pa_nil))))
    (pss_cons (ps_set (i := 5) scWTold.nd rfl (Or.inl rfl) (pe_mk k_WInit hr passF .nil ((pa_cons (pv 4) pa_nil))))
    (pss_cons (ps_asg (pe_op op_add (pe_ix (r := rIxL K) ix_list (pv 4) (pv 1) (fun _ _ => rfl)) (pe_int)) (pg_sub (pv 4) (pv 1) set_list))
    (pss_cons (ps_if (PW.pt (pw_or (pt_not (pt_val (pv 3))) (pw_or1 (pt_cmpR (op_neT hr.units) (pe_fldK (K := K) rfl (pv 5) rfl) (pe_callTy (call_tupleK (K := K) rfl) rfl T.b_tuple (by kernel_rfl) ((pa_cons (pv 0) pa_nil))) (nomark _))))) (pss_one (ps_ret (pe_bl))) pss_nil)
    (pss_cons (ps_for PassesOwn.never rfl (pi_range1 rfl T.b_range ((pa_cons (pe_int) pa_nil))) (pg_name (i := 6) scWTold.nd rfl (Or.inl rfl)) (pss_one (ps_if (pt_not (pt_val (pe_c c_Truth hr pass00 .nil ((pa_cons (pe_m mW (pv 5) hr pass00 .nil ((pa_cons (pv 6) pa_nil))) (pa_cons (pe_cmpR op_eq (pv 6) (pe_callB (call_lenK (K := K) rfl) rfl T.b_len PySem.boot_len ((pa_cons (pv 0) pa_nil))) (nomark _)) pa_nil)))))) (pss_one (ps_ret (pe_bl))) pss_nil)))
    (pss_one (ps_ret (pe_callB (call_isinstK (K := K) rfl) rfl T.b_isinstance (by kernel_rfl) ((pa_cons (pv 5) (pa_cons (pe_glob (v := .ref C_Order) rfl T.mg_Order rfl) pa_nil))))))))))))))), ?_⟩
  obtain ⟨hl, hn, hlen, a0, a1, k⟩ := h
  have at1 : atI (ws.map V.int) a = some (.int (cellOf ws a)) := atI_int a0 a1
  refine ⟨_, rfl, l, _, rfl, .inl hl, fun d1 hd1 => ?_⟩
  have e1 : Same H (upd H d1 (HO.lst (ws.map V.int))) := Same.upd hd1
  have fresh : ∀ {C : Addr} {H : Hp} {p dx : Addr}, H p = none → H dx = none → Same H (upd (upd H dx (.own p)) p (.ins C dx [])) := fun {C H p dx} np ndx b o e => by
    rw [upd_ne (ne_of_none e np), upd_ne (ne_of_none e ndx)]
    exact e
  have lm : (ws.map V.int).length = ws.length := List.length_map _
  have ixj : ixN (ws.map V.int).length a = some a.toNat := by
    unfold ixN
    rw [lm, if_pos a0, if_pos a1]
  have seta : ∀ z : Int, (ws.map V.int).set a.toNat (.int z) = (ws.set a.toNat z).map V.int := fun z => by rw [List.map_set]
  refine ⟨_, rfl, _, rfl, _, rfl, l, _, _, _, rfl, rfl, e1.seq hl, at1, _, _, rfl, rfl, ?_⟩
  refine ⟨_, rfl, _, rfl, d1, _, _, _, rfl, rfl, upd_same, ixj, ?_⟩
  dsimp only
  rw [seta]
  have e2 := e1.updR (o := HO.lst ((ws.set a.toNat (-1 - cellOf ws a)).map V.int)) hd1
  have hb2 : (upd (upd H d1 (HO.lst (ws.map V.int))) d1 (HO.lst ((ws.set a.toNat (-1 - cellOf ws a)).map V.int))) d1 = some (.lst ((ws.set a.toNat (-1 - cellOf ws a)).map V.int)) := upd_same
  generalize upd (upd H d1 (HO.lst (ws.map V.int))) d1 (HO.lst ((ws.set a.toNat (-1 - cellOf ws a)).map V.int)) = H2 at e2 hb2 ⊢
  have nn : ¬ Nn (ws.set a.toNat (-1 - cellOf ws a)) := fun z => by
    have i1 : a.toNat < ws.length := by omega
    have := z (-1 - cellOf ws a) (List.mem_set i1 _)
    have := hn.getD a.toNat
    unfold cellOf at *
    omega
  -- refused
  walk_at "rd"
  intro p3 dx3 np3 ndx3 ne3
  have e3 := fresh (C := C_Weights) np3 ndx3
  refine ⟨p3, dx3, d1, _, rfl, upd_same, SqL.of (e3 _ _ hb2), by rw [List.length_set]; omega, .inr ⟨nn, fun H4 e4 => ⟨x_NoOrder.me, ?_⟩⟩⟩
  have f4 := (e2.trans e3).trans e4
  -- kept
  refine ⟨_, rfl, l, _, rfl, .inl (f4.seq hl), fun d5 hd5 => ?_⟩
  have e5 := f4.updR (o := HO.lst (ws.map V.int)) (f4.free hd5)
  have h5 : (upd H4 d5 (HO.lst (ws.map V.int))) d5 = some (.lst (ws.map V.int)) := upd_same
  have fr5 := f4.free hd5
  generalize upd H4 d5 (HO.lst (ws.map V.int)) = H5 at e5 h5 ⊢
  walk_at "rd"
  intro p6 dx6 np6 ndx6 ne6
  have e6 := fresh (C := C_Weights) np6 ndx6
  refine ⟨p6, dx6, d5, ws, rfl, upd_same, SqL.of (e6 _ _ h5), by omega, .inl ⟨hn, fun wt H7 h1 h2 h3 => ⟨rfl, ?_⟩⟩⟩
  have e7 : Same H5 H7 := fun b o e => h3 b o (e6 _ _ e) (ne_of_none e np6)
  have f7 := e5.trans e7
  have h7 := e7 _ _ h5
  refine ⟨_, rfl, _, rfl, d5, _, _, _, rfl, rfl, SqL.of h7, at1, _, _, rfl, rfl, ?_⟩
  refine ⟨_, rfl, _, rfl, d5, _, _, _, rfl, rfl, h7, ixj, ?_⟩
  dsimp only
  rw [seta]
  have e8 := f7.updR (o := HO.lst ((ws.set a.toNat (cellOf ws a + 1)).map V.int)) fr5
  have hp8 : (upd H7 d5 (HO.lst ((ws.set a.toNat (cellOf ws a + 1)).map V.int))) p6 = some (.ins C_Weights dx6 [("weights", .ref wt)]) := by
    rw [upd_ne (ne_of h1 h7 (by intro z; cases z))]; exact h1
  have hw8 : (upd H7 d5 (HO.lst ((ws.set a.toNat (cellOf ws a + 1)).map V.int))) wt = some (.tup (ws.map V.int)) := by
    rw [upd_ne (ne_of h2 h7 (by intro z; cases z))]; exact h2
  generalize upd H7 d5 (HO.lst ((ws.set a.toNat (cellOf ws a + 1)).map V.int)) = H8 at e8 hp8 hw8 ⊢
  refine if_noS (fun H' => Same H8 H') (fun H9 e9 => ?_) (fun N kN => ?_)
  rotate_left
  · refine ⟨_, rfl, _, rfl, iteF ?_⟩
    refine ⟨_, rfl, p6, C_Weights, dx6, _, _, rfl, hp8, T.cl_Weights, T.na_Weights_weights, rfl, _, rfl, l, _, rfl, .inl ⟨e8.seq hl, fun m hm => ?_⟩⟩
    have e9 : Same H8 (upd H8 m (HO.tup (ws.map V.int))) := Same.upd hm
    refine ⟨wt, m, ws, ws, rfl, rfl, SqT.of (e9 _ _ hw8), SqT.of upd_same, _, rfl, ?_⟩
    rw [decide_eq_true rfl]
    exact kN _ e9
  have f9 := e8.trans e9
  refine ⟨6, rfl, by decide, by decide, ?_⟩
  refine for_same (walk_range 0 6) (fun _ σ => ∃ v6, σ = [some (.ref l), some (.int a), some (.ref d1), some (.bl true), some (.ref d5), some (.ref p6), v6]) ⟨_, rfl⟩ ?_ ?_
  · rintro i v σ HA hi ⟨v6, rfl⟩ eA rfl
    have fA := e9.trans eA
    have atw : AtW C_Weights ws HA p6 := ⟨dx6, wt, fA _ _ hp8, fA _ _ hw8⟩
    refine ⟨_, rfl, p6, dx6, _, rfl, fA _ _ hp8, no_W _ _ (by decide +kernel), _, rfl, p6, _, rfl, atw, fun HB eB => ?_⟩
    refine ⟨_, rfl, _, rfl, l, _, rfl, .inl ((f9.trans (eA.trans eB)).seq hl), rfl, ?_⟩
    rw [lm, dI, show decide ((0 + (i : Int)) = (ws.length : Int)) = decide ((ws.length : Int) = 0 + (i : Int)) from decide_eq_decide.mpr ⟨Eq.symm, Eq.symm⟩]
    exact ⟨_, rfl, _, rfl, iteF ⟨⟨_, rfl⟩, eA.trans eB⟩⟩
  · rintro σ HA ⟨v6, rfl⟩ eA
    have fA := e9.trans eA
    refine ⟨_, rfl, _, _, _, _, _, rfl, rfl, .ins (fA _ _ hp8) T.cl_Weights T.isc_Weights T.isg T.ist T.ism_Weights, T.kio_Weights, k _ (f9.trans eA)⟩
end
end K6
namespace K6
open PySem L2

section
variable {P : Program} {w : World} {K : PySem.W.Frag} {mg : Str → Option Value} {base : Heap} {f : Addr} {fd : FuncData} {C_Order C_Degrees C_Tails C_Weights : Addr} {E_NoOrder E_NoTerm : Addr}
local macro_rules | `(tactic| walk_at "sd") => `(tactic| first
  | assumption | (dsimp only; omega) | (dsimp only; decide) | exact ⟨by decide, by decide⟩ | exact ⟨by decide, by decide, by decide⟩ | exact Or.inl ⟨by decide, by decide⟩ | exact ⟨by omega, by omega⟩ | exact Or.inl ⟨by omega, by omega⟩ | exact Or.inr ⟨by decide, by decide⟩ | exact Or.inr ⟨by omega, by omega⟩)
local macro_rules | `(tactic| walk_at "rd") => `(tactic| repeat first
  | refine ⟨_, rfl, ?_⟩ | refine ⟨_, _, rfl, rfl, ?_⟩ | refine And.intro rfl ?_ | refine And.intro (by walk_at "sd") ?_ | with_reducible refine iteT ?_ | with_reducible refine iteF ?_ | (apply ixT_of; assumption; rfl))
local macro_rules | `(tactic| walk_at "clo") => `(tactic| exact h)

theorem scLaw : FnScope ["_law_script", "_law_cell_here", "_law_many", "_law_kind", "_law_weights_here", "_law_order_here", "_law_count", "_law_terms", "_law_ranks", "_law_k"] ["_law_script"] (defScope s_law) := ⟨rfl, rfl, rfl, by decide +kernel, rfl, by decide +kernel, by decide +kernel⟩
set_option maxHeartbeats 4000000 in
theorem ok_Law  (F : FunD K "law" "law" s_law .none f fd) (T : Txt K mg C_Order C_Degrees C_Tails C_Weights) (c_Cell : Cal P w K mg base CX0 1 "_law_cell" ["_law_script", "_law_k"] [] (spCell K)) (c_Wts : Cal P w K mg base CX0 1 "_law_weights" ["_law_cell_here", "_law_many"] [] spWts) (c_MkOrder : Cal P w K mg base CX0 3 "_law_order" ["_law_kind", "_law_weights_here"] [] (spOrder K C_Order C_Degrees C_Tails C_Weights)) (c_WTold : Cal P w K mg base CX0 3 "_law_weights_told" ["_law_weights_here", "_law_at"] [] (spWTold K)) (c_Truth : Cal P w K mg base CX0 1 "_law_truth" ["_law_found", "_law_due"] [] spTruth) (c_Power : Cal P w K mg base CX0 1 "_law_power" ["_law_cell_here", "_law_at"] [] spPower) (c_LRank : Cal P w K mg base CX0 1 "_law_rank" ["_law_kind", "_law_weights_here", "_law_term"] [] (spLRank K)) (c_RankIs : Cal P w K mg base CX0 1 "_law_rank_is" ["_law_found", "_law_due"] [] (spIs K)) (hall : ∀ (kd : Int) (ws : List Int) (n : Nat), 0 ≤ kd → kd < 4 → 1 ≤ n → n ≤ 10 → Tm n ws → ∃ C fb, OrdA P w K mg base C_Order C (AtK C_Order C_Degrees C_Tails C_Weights kd ws) (rkk kd ws) fb n kd) : FnOk P w K mg base CX0 9 f fd ["_law_script"] (spLaw K) := by
  refine F.okN (k := 8) scLaw (fun vs H Q E h => ?_) (fun cdv A outer s H vs Q E hr h => ?_)
  · obtain ⟨a, ns, rfl, _⟩ := h
    rfl
  obtain ⟨a, ns, rfl, h⟩ := h
  obtain ⟨hS, h63, k⟩ := h
  generalize hc0 : cellOf ns 0 = c0
  obtain ⟨C, fb, O⟩ := hall (c0 % 4) (wsF (c0 / 4) (1 + c0 / 16 % 4)) (1 + c0 / 16 % 4).toNat (by omega) (by omega) (by omega) (by omega) (wsF_tm (by omega))
  refine ⟨_, (pss_cons (ps_set (i := 1) scLaw.nd rfl (Or.inl rfl) (pe_c c_Cell hr pass00 .nil ((pa_cons (pv 0) (pa_cons (pe_int) pa_nil)))))
    (pss_cons (ps_set (i := 2) scLaw.nd rfl (Or.inr rfl) (pe_op op_add (pe_int) (pe_op op_mod (pe_op op_fdiv (pv 1) (pe_int)) (pe_int))))
    (pss_cons (ps_set (i := 3) scLaw.nd rfl (Or.inr rfl) (pe_op op_mod (pv 1) (pe_int)))
    (pss_cons (ps_set (i := 4) scLaw.nd rfl (Or.inr rfl) (pe_c c_Wts hr pass00 .nil ((pa_cons (pe_op op_fdiv (pv 1) (pe_int)) (pa_cons (pv 2) pa_nil)))))
    (pss_cons (ps_set (i := 5) scLaw.nd rfl (Or.inl rfl) (pe_c c_MkOrder hr pass00 .nil ((pa_cons (pv 3) (pa_cons (pv 4) pa_nil)))))
    (pss_cons (ps_if (PW.pt (pw_or (pt_not (pt_val (pe_callB (call_isinstK (K := K) rfl) rfl T.b_isinstance (by kernel_rfl) ((pa_cons (pv 5) (pa_cons (pe_glob (v := .ref C_Order) rfl T.mg_Order rfl) pa_nil)))))) (pw_or1 (pt_not (pt_val (pe_c c_WTold hr pass00 .nil ((pa_cons (pv 4) (pa_cons (pe_op op_mod (pe_op op_fdiv (pv 1) (pe_int)) (pv 2)) pa_nil))))))))) (pss_one (ps_ret (pe_bl))) pss_nil)
    (pss_cons (ps_if (pt_cmpR op_ne (pv 3) (pe_int) (nomark _)) (pss_one (ps_for PassesOwn.never rfl (pi_range1 rfl T.b_range ((pa_cons (pe_int) pa_nil))) (pg_name (i := 6) scLaw.nd rfl (Or.inl rfl)) (pss_one (ps_if (pt_not (pt_val (pe_c c_Truth hr pass00 .nil ((pa_cons (pe_m O.fits (pv 5) hr pass00 .nil ((pa_cons (pv 6) pa_nil))) (pa_cons (pe_bl) pa_nil)))))) (pss_one (ps_ret (pe_bl))) pss_nil)))) pss_nil)
    (pss_cons (ps_setC1 (N := ["_law_one", "_law_many"]) (cl := [("_law_many", s.heap.objs.size + 1)]) (own := "_law_one") (mp := [none, some 2]) (pg_name (i := 7) scLaw.nd rfl (Or.inl rfl)) (Blk1.of rfl (fun _ => rfl) (fun _ => rfl) rfl (by decide +kernel) nd__law_one__law_many (subc_cons rfl subc_nil) (fr_of (fs := ["_law_many"]) rfl (by decide +kernel)) (by decide +kernel) rfl (mapc_none (mapc_some rfl (.inl rfl) rfl mapc_nil)) (by decide +kernel)) rfl (pi_listK (K := K) rfl (pe_slice (sl_listK (K := K) rfl) (pv 0) (po_some (pe_int)) (po_some (pe_int)))) (fun C0 s0 H0 fp0 => pg_name (i := 0) nd__law_one__law_many rfl (.inr rfl) (.inl rfl)) (fun C0 s0 H0 fp0 => pts_nil) (fun C0 s0 H0 fp0 => pe_callTy (call_tupleK (K := K) rfl) rfl T.b_tuple (by kernel_rfl) ((pa_cons (pe_comp (N := ["_law_at", "_law_one"]) (cl := [("_law_one", C0 + 1)]) (mp := [none, some 0]) (Blk.of rfl (by decide +kernel) rfl (by decide +kernel) nd__law_at__law_one (subc_cons rfl subc_nil) (fr_of (fs := ["_law_one"]) rfl (by decide +kernel)) rfl (mapc_none (mapc_some rfl (.inl rfl) rfl mapc_nil))) rfl (pi_range1 rfl T.b_range ((pa_cons (pv 1) pa_nil))) (fun C1 s1 H1 fp1 => pg_one (i := 0) nd__law_at__law_one rfl rfl) (fun C1 s1 H1 fp1 => pts_nil) (fun C1 s1 H1 fp1 => pe_c c_Power hr pass00 .nil ((pa_cons (pv 1) (pa_cons (pv 0) pa_nil))))) pa_nil))))
    (pss_cons (ps_setC (N := ["_law_term", "_law_kind", "_law_weights_here"]) (cl := [("_law_weights_here", s.heap.objs.size + 3), ("_law_kind", s.heap.objs.size + 2)]) (mp := [none, some 3, some 4]) (pg_name (i := 8) scLaw.nd rfl (Or.inl rfl)) (Blk.of rfl (by decide +kernel) rfl (by decide +kernel) nd__law_term__law_kind__law_weights_here (subc_cons rfl (subc_cons rfl subc_nil)) (fr_of (fs := ["_law_weights_here", "_law_kind"]) rfl (by decide +kernel)) rfl (mapc_none (mapc_some rfl (.inl rfl) rfl (mapc_some rfl (.inl rfl) rfl mapc_nil)))) rfl (pi_listK (K := K) rfl (pv 7)) (fun C0 s0 H0 fp0 => pg_one (i := 0) nd__law_term__law_kind__law_weights_here rfl rfl) (fun C0 s0 H0 fp0 => pts_nil) (fun C0 s0 H0 fp0 => pe_c c_LRank hr pass00 .nil ((pa_cons (pv 1) (pa_cons (pv 2) (pa_cons (pv 0) pa_nil))))))
    (pss_cons (ps_for PassesOwn.never rfl (pi_range1 rfl T.b_range ((pa_cons (pe_callB (call_lenK (K := K) rfl) rfl T.b_len PySem.boot_len ((pa_cons (pv 7) pa_nil))) pa_nil))) (pg_name (i := 9) scLaw.nd rfl (Or.inl rfl)) (pss_cons (ps_if (pt_not (pt_val (pe_c c_RankIs hr pass00 .nil ((pa_cons (pe_m O.rank (pv 5) hr pass00 .nil ((pa_cons (pe_ix (r := rIxL K) ix_list (pv 7) (pv 9) (fun _ _ => rfl)) pa_nil))) (pa_cons (pe_ix (r := rIxL K) ix_list (pv 8) (pv 9) (fun _ _ => rfl)) pa_nil)))))) (pss_one (ps_ret (pe_bl))) pss_nil)
    (pss_one (ps_if (pt_not (pt_val (pe_c c_Truth hr pass00 .nil ((pa_cons (pe_m O.gb (pv 5) hr pass00 .nil ((pa_cons (pe_ix (r := rIxL K) ix_list (pv 7) (pv 9) (fun _ _ => rfl)) (pa_cons (pe_ix (r := rIxL K) ix_list (pv 7) (pe_op op_sub (pv 9) (pe_int)) (fun _ _ => rfl)) pa_nil)))) (pa_cons (pe_cmpR (op_gtL hr.units0) (pe_ix (r := rIxL K) ix_list (pv 8) (pv 9) (fun _ _ => rfl)) (pe_ix (r := rIxL K) ix_list (pv 8) (pe_op op_sub (pv 9) (pe_int)) (fun _ _ => rfl)) (nomark _)) pa_nil)))))) (pss_one (ps_ret (pe_bl))) pss_nil))))
    (pss_one (ps_ret (pe_c O.falls hr pass00 .nil ((pa_cons (pv 5) (pa_cons (pv 7) (pa_cons (pv 8) pa_nil))))))))))))))))), ?_⟩
  refine ⟨_, rfl, a, ns, 0, rfl, hS, Int.le_refl 0, ?_⟩
  rw [hc0]
  refine ⟨_, rfl, _, _, rfl, rfl, ⟨by decide, by decide⟩, _, _, rfl, rfl, (by show (0 : Int) < 4; decide), _, _, rfl, rfl, ?_⟩
  refine ⟨_, rfl, _, _, rfl, rfl, (by show (0 : Int) < 4; decide), ?_⟩
  have hwt := wsF_tm (c := c0 / 4) (m := 1 + c0 / 16 % 4) (by omega)
  refine ⟨_, rfl, _, _, rfl, rfl, ⟨by decide, by decide⟩, _, rfl, _, _, rfl, by omega, by omega, fun D H1 e1 hL => ?_⟩
  dsimp only at hL ⊢
  generalize hws : wsF (c0 / 4) (1 + c0 / 16 % 4) = ws at *
  refine ⟨_, rfl, _, rfl, _, D, ws, rfl, SqL.of hL, by rw [hwt.len]; omega, hwt.nn, fun p H2 e2 hat => ?_⟩
  have f2 := e1.trans e2
  have hD := e2 _ _ hL
  have hm0 : 1 ≤ 1 + c0 / 16 % 4 ∧ 1 + c0 / 16 % 4 ≤ 4 := by omega
  have hk0 : 0 ≤ c0 % 4 ∧ c0 % 4 < 4 := by omega
  dsimp only [gName]
  generalize hm : 1 + c0 / 16 % 4 = m at *
  generalize hkd : c0 % 4 = kd at *
  have lw : ws.length = m.toNat := hwt.len
  refine if_noS (fun H' => Same H2 H') (fun H3 e3 => ?_) (fun N kN => ?_)
  rotate_left
  · refine ⟨_, rfl, _, _, _, _, _, rfl, rfl, O.ty hat, O.kio, _, rfl, iteF ?_⟩
    refine ⟨_, rfl, _, rfl, _, _, rfl, rfl, ⟨by decide, by decide⟩, _, rfl, _, _, rfl, rfl, (by show (0 : Int) < m; omega), D, _, ws, rfl, SqL.of hD, hwt.nn, by omega, Int.emod_nonneg _ (by omega), ?_, fun H3 e3 => ⟨_, rfl, kN _ e3⟩⟩
    have := Int.emod_lt_of_pos (c0 / 64) (show 0 < m by omega)
    omega
  have hat3 := O.oC.same e3 hat
  -- fits
  refine seq_mid (fun σ H' => (∃ v6, σ = [some (.ref a), some (.int c0), some (.int m), some (.int kd), some (.ref D), some (.ref p), v6, none, none, none]) ∧ Same H3 H') ?_ (fun N kN => ?_)
  rotate_left
  · refine ⟨_, rfl, rfl, _, rfl, cNe (fun c => ?_) (fun c => kN _ _ ⟨⟨none, rfl⟩, Same.refl _⟩)⟩
    refine ⟨6, rfl, by decide, by decide, ?_⟩
    refine for_same (walk_range 0 6) (fun _ σ => ∃ v6, σ = [some (.ref a), some (.int c0), some (.int m), some (.int kd), some (.ref D), some (.ref p), v6, none, none, none]) ⟨none, rfl⟩ ?_ ?_
    · rintro i v σ HA hi ⟨v6, rfl⟩ eA rfl
      have hatA := O.oC.same eA hat3
      obtain ⟨dx, fs, hq, nl⟩ := O.oC.ins hatA
      refine ⟨_, rfl, p, dx, fs, rfl, hq, nl "fits" (by decide +kernel), _, rfl, p, _, rfl, hatA, fun HB eB => ?_⟩
      rw [O.ft c]
      exact ⟨_, rfl, _, rfl, iteF ⟨⟨_, rfl⟩, eA.trans eB⟩⟩
    · rintro σ HA ⟨v6, rfl⟩ eA
      exact kN _ _ ⟨⟨_, rfl⟩, eA⟩
  rintro σ H4 ⟨⟨v6, rfl⟩, e4⟩
  have f4 := (f2.trans e3).trans e4
  have hat4 := O.oC.same e4 hat3
  have hD4 := (e3.trans e4) _ _ hD
  have hS4 := f4.seq hS
  -- the terms
  obtain ⟨cs, ecs, lcs⟩ := cut_map ns (some 1) (some 70)
  show tComp _ _ _ _ _ _ _ _
  refine new_compF (K := K) (xs := cs.map V.int) (by rw [List.length_map]; omega) ?_ (fun σ => ∃ v, σ = [v, some (.int m)]) (fun _ => true) (fun i v H => ∃ xs : List Int, Trm H xs v ∧ Tm m.toNat xs) (fun i v H H' e ⟨xs, q1, q3⟩ => ⟨xs, q1.same e, q3⟩)
    (fun i v H a' ys ys' hl ⟨xs, ⟨r, q1, q2⟩, q3⟩ => ⟨xs, ⟨r, q1, by rw [upd_ne (ne_of q2 hl (by intro z; cases z))]; exact q2⟩, q3⟩) ⟨none, rfl⟩ ?_ fun D2 H5 ys e5 hL5 hF5 => ?_
  · refine fun R hR => ⟨_, rfl, 1, rfl, 70, rfl, a, _, rfl, hS4, fun q hq => ?_⟩
    rw [ecs]
    exact ⟨q, rfl, ⟨_, SqL.of upd_same⟩, hR q hq⟩
  · rintro i x σ' H6 hi ⟨z, rfl⟩ e6 hx Ny Nn hy hn
    rw [getD_of_map hx]
    unfold gName tYes
    dsimp only
    rw [if_pos rfl]
    show tComp _ _ _ _ _ _ _ _
    refine walk_compF (J := Itr 0 m.toNat) (H1 := H6) (walk_range 0 m.toNat) (by omega) ?_ (fun σ => ∃ v, σ = [v, some (.int (cs.getD i 0))]) (fun _ => true) (fun _ v _ => ∃ x : Int, v = .int x ∧ 0 ≤ x ∧ x < 10 ^ 31) (fun _ _ _ _ _ q => q) (fun _ _ _ _ _ _ _ q => q) ⟨none, rfl⟩ ?_ fun D3 H7 zs e7 hL7 hF7 => ?_
    · exact fun R hR => ⟨_, rfl, m, rfl, by omega, by omega, hR⟩
    · rintro i2 x2 σ2 H8 hi2 ⟨z2, rfl⟩ e8 rfl Ny2 Nn2 hy2 hn2
      refine iteT ?_
      exact ⟨_, rfl, _, rfl, _, _, rfl, by omega, by omega, fun x h0 h1 => hy2 _ _ _ ⟨_, rfl⟩ (Same.refl _) ⟨x, rfl, h0, h1⟩ rfl⟩
    rw [List.filter_eq_self.mpr (fun _ _ => rfl)] at hF7
    obtain ⟨us, rfl, lus, hus⟩ := paired_ints hF7
    refine ⟨D3, _, rfl, .inl ⟨SqL.of hL7, fun r hr' => ?_⟩⟩
    refine hy _ [some (.int (cs.getD i 0)), some (.int m)] _ ⟨_, rfl⟩ (e7.updR (e7.free hr')) ⟨us, ⟨r, rfl, upd_same⟩, ?_⟩ rfl
    exact ⟨by rw [lus]; simp, fun x hx => (hus x hx).1, fun x hx => (hus x hx).2⟩
  have lys : ys.length ≤ 63 := by
    have := hF5.length
    have l2 : ((List.range (cs.map V.int).length).filter fun _ => true).length ≤ (cs.map V.int).length := Nat.le_trans (List.length_filter_le _ _) (by simp)
    rw [List.length_map] at l2
    rw [List.length_map] at this
    omega
  obtain ⟨xss, ht, hw⟩ := ptrm hF5
  have lx : xss.length = ys.length := ht.length
  have hat5 := O.oC.same e5 hat4
  have hD5 := e5 _ _ hD4
  have f5 := f4.trans e5
  clear hF5
  -- the ranks
  dsimp only [gName]
  show tComp _ _ _ _ _ _ _ _
  refine walk_compD (J := Itl K D2) (H1 := H5) (walk_list (SqL.of hL5)) (by omega) ?_ (fun σ => ∃ v, σ = [v, some (.int kd), some (.ref D)]) (fun _ => true) (fun D i v H => Rnk (rkk kd ws) H (xss.getD i []) v ∧ v ≠ .ref D) (fun D i v H H' e q => ⟨q.1.same e, q.2⟩)
    (fun D i v H ys ys' hl ⟨⟨t, q1, q2⟩, q3⟩ => ⟨⟨t, q1, by rw [upd_ne (fun z => q3 (by rw [q1, z]))]; exact q2⟩, q3⟩) ⟨none, rfl⟩ ?_ fun D3 H6 zs e6 hL6 hF6 => ?_
  · exact fun R hR => ⟨_, rfl, D2, rfl, ⟨_, SqL.of hL5⟩, hR⟩
  · rintro Dn i x σ' H7 hi ⟨z, rfl⟩ e7 hx ⟨yn, hDn⟩ Ny Nn hy hn
    obtain ⟨xs, gx, r, rfl, hr'⟩ := pget ht hx
    unfold gName tYes
    dsimp only
    rw [if_pos rfl]
    have eg : xss.getD i [] = xs := by rw [List.getD_eq_getElem?_getD, gx]; rfl
    refine ⟨_, rfl, _, rfl, _, rfl, kd, D, r, ws, xs, m.toNat, rfl, SqL.of (e7 _ _ hD5), SqT.of (e7 _ _ hr'), hw xs (List.mem_of_getElem? gx), hwt, by omega, by omega, fun D8 H8 n8 e8 h8 => ?_⟩
    refine hy _ _ _ ⟨_, rfl⟩ e8 ⟨by rw [eg]; exact ⟨D8, rfl, h8⟩, fun z => ?_⟩ rfl
    injection z with z
    rw [z, hDn] at n8
    cases n8
  rw [List.filter_eq_self.mpr (fun _ _ => rfl), ← lx] at hF6
  have hz : Paired (Rnk (rkk kd ws) H6) xss zs := by
    have := pmap (R := Rnk (rkk kd ws) H6) (fun i => xss.getD i []) (pimp (fun _ _ h => h.1) hF6)
    rwa [all_getD] at this
  have lz : xss.length = zs.length := hz.length
  clear hF6
  have hat6 := O.oC.same e6 hat5
  have ht6 := pimp (fun _ _ h => h.same e6) ht
  have hD2 := e6 _ _ hL5
  -- for k
  refine ⟨_, rfl, D2, _, rfl, .inl (SqL.of hD2), _, rfl, (by omega), (by omega), ?_⟩
  refine for_same (walk_range 0 _) (fun _ σ => ∃ v9, σ = [some (.ref a), some (.int c0), some (.int m), some (.int kd), some (.ref D), some (.ref p), v6, some (.ref D2), some (.ref D3), v9]) ⟨_, rfl⟩ ?_ ?_
  · rintro i v σ H7 hi ⟨v9, rfl⟩ e7 rfl
    have hat7 := O.oC.same e7 hat6
    have ht7 := pimp (fun _ _ h => h.same e7) ht6
    have hz7 := pimp (fun _ _ h => h.same e7) hz
    have sD2 : SqL K H7 D2 ys := SqL.of (e7 _ _ hD2)
    have sD3 : SqL K H7 D3 zs := SqL.of (e7 _ _ hL6)
    obtain ⟨dx, fs, hq, nl⟩ := O.oC.ins hat7
    have hi' : i < xss.length := by omega
    have A1 := atI_at (ys := ys) (k := 0 + (i : Int)) (by omega) (by omega)
    have B1 := atI_at (ys := zs) (k := 0 + (i : Int)) (by omega) (by omega)
    have A2 := atI_at (ys := ys) (k := 0 + (i : Int) - 1) (by omega) (by omega)
    have B2 := atI_at (ys := zs) (k := 0 + (i : Int) - 1) (by omega) (by omega)
    rw [← lz, lx] at B2
    have e0 : (if 0 ≤ 0 + (i : Int) then (0 + (i : Int)).toNat else ((0 + (i : Int)) + (ys.length : Int)).toNat) = i := by rw [if_pos (by omega)]; omega
    have e0' : (if 0 ≤ 0 + (i : Int) then (0 + (i : Int)).toNat else ((0 + (i : Int)) + (zs.length : Int)).toNat) = i := by rw [if_pos (by omega)]; omega
    rw [e0] at A1
    rw [e0'] at B1
    generalize hj : (if 0 ≤ 0 + (i : Int) - 1 then (0 + (i : Int) - 1).toNat else ((0 + (i : Int) - 1) + (ys.length : Int)).toNat) = j at A2 B2
    have hj' : j < xss.length := by rw [← hj]; split <;> omega
    obtain ⟨y1, gy1, t1, rfl, ht1⟩ := pget2 ht7 (List.getElem?_eq_getElem hi')
    obtain ⟨z1, gz1, u1, rfl, hu1⟩ := pget2 hz7 (List.getElem?_eq_getElem hi')
    obtain ⟨y2, gy2, t2, rfl, ht2⟩ := pget2 ht7 (List.getElem?_eq_getElem hj')
    obtain ⟨z2, gz2, u2, rfl, hu2⟩ := pget2 hz7 (List.getElem?_eq_getElem hj')
    rw [gy1] at A1
    rw [gz1] at B1
    rw [gy2] at A2
    rw [gz2] at B2
    have w1 := hw xss[i] (List.getElem_mem hi')
    have w2 := hw xss[j] (List.getElem_mem hj')
    have p1 := w1.pws (by omega) (by omega)
    have p2 := w2.pws (by omega) (by omega)
    refine if_noS (fun H' => Same H7 H') (fun H8 e8 => ?_) (fun N kN => ?_)
    rotate_left
    · refine ⟨_, rfl, p, dx, fs, rfl, hq, nl "rank" (by decide +kernel), _, rfl, _, rfl, D2, _, _, _, rfl, rfl, sD2, A1, ?_⟩
      refine ⟨p, t1, _, rfl, hat7, ht1, p1, fun r8 H8 e8 h8 => ?_⟩
      refine ⟨_, rfl, _, rfl, D3, _, _, _, rfl, rfl, e8.seq sD3, B1, ?_⟩
      exact ⟨r8, u1, _, rfl, h8, SqL.of (e8 _ _ hu1), Nat.le_trans (O.lrk _) (by rw [w1.len]; omega), fun H9 e9 => ⟨_, rfl, kN _ (e8.trans e9)⟩⟩
    · refine ⟨_, rfl, p, dx, fs, rfl, e8 _ _ hq, nl "goes_before" (by decide +kernel), _, rfl, _, rfl, D2, _, _, _, rfl, rfl, e8.seq sD2, A1, ?_⟩
      refine ⟨_, rfl, _, rfl, _, _, rfl, rfl, D2, _, _, _, rfl, rfl, e8.seq sD2, A2, ?_⟩
      refine ⟨p, t1, t2, _, _, rfl, O.oC.same e8 hat7, e8 _ _ ht1, e8 _ _ ht2, p1, p2, fun H9 e9 => ?_⟩
      have g9 := e8.trans e9
      refine ⟨_, rfl, _, rfl, D3, _, _, _, rfl, rfl, g9.seq sD3, B1, ?_⟩
      refine ⟨_, rfl, _, rfl, _, _, rfl, rfl, D3, _, _, _, rfl, rfl, g9.seq sD3, B2, ?_⟩
      refine ⟨u1, u2, _, _, rfl, rfl, g9 _ _ hu1, g9 _ _ hu2, ?_⟩
      exact ⟨_, rfl, _, rfl, iteF ⟨⟨_, rfl⟩, e7.trans g9⟩⟩
  · rintro σ H7 ⟨v9, rfl⟩ e7
    refine ⟨_, rfl, _, rfl, _, rfl, p, D2, D3, ys, zs, xss, m.toNat, rfl, O.oC.same e7 hat6, e7 _ _ hD2, pimp (fun _ _ h => h.same e7) ht6, hw, by omega, by omega, by omega, O.m, e7 _ _ hL6, pimp (fun _ _ h => h.same e7) hz, fun H8 e8 => k H8⟩
end
end K6
namespace K6
open PySem L2
set_option maxHeartbeats 8000000 in
theorem all_mk {l : PySem.W.OpenLaw} {w : World} {K : PySem.W.Frag} {h : Heap} {mg : Str → Option Value} {fa : Addr} (X : K.In h) (G : h.Ns mainGlobals mg) (hfa : mg "law" = some (.ref fa))
    {C_Order : Addr} {C_Degrees : Addr} {C_Tails : Addr} {C_Weights : Addr} {f_0 : Addr} {od_0 an_0 : Option Addr} {sl_0 : Array (Option Value)} {oc_0 kV_0 dc_0 pm_0 cd_0 ct_0 : Value} {f_1 : Addr} {od_1 an_1 : Option Addr} {sl_1 : Array (Option Value)} {oc_1 kV_1 dc_1 pm_1 cd_1 ct_1 : Value} {f_2 : Addr} {od_2 an_2 : Option Addr} {sl_2 : Array (Option Value)} {oc_2 kV_2 dc_2 pm_2 cd_2 ct_2 : Value} {f_3 : Addr} {od_3 an_3 : Option Addr} {sl_3 : Array (Option Value)} {oc_3 kV_3 dc_3 pm_3 cd_3 ct_3 : Value} {f_4 : Addr} {od_4 an_4 : Option Addr} {sl_4 : Array (Option Value)} {oc_4 kV_4 dc_4 pm_4 cd_4 ct_4 : Value} {f_5 : Addr} {od_5 an_5 : Option Addr} {sl_5 : Array (Option Value)} {oc_5 kV_5 dc_5 pm_5 cd_5 ct_5 : Value} {f_6 : Addr} {od_6 an_6 : Option Addr} {sl_6 : Array (Option Value)} {oc_6 kV_6 dc_6 pm_6 cd_6 ct_6 : Value} {f_7 : Addr} {od_7 an_7 : Option Addr} {sl_7 : Array (Option Value)} {oc_7 kV_7 dc_7 pm_7 cd_7 ct_7 : Value} {f_8 : Addr} {od_8 an_8 : Option Addr} {sl_8 : Array (Option Value)} {oc_8 kV_8 dc_8 pm_8 cd_8 ct_8 : Value} {f_9 : Addr} {od_9 an_9 : Option Addr} {sl_9 : Array (Option Value)} {oc_9 kV_9 dc_9 pm_9 cd_9 ct_9 : Value} {f_10 : Addr} {od_10 an_10 : Option Addr} {sl_10 : Array (Option Value)} {oc_10 kV_10 dc_10 pm_10 cd_10 ct_10 : Value} {f_11 : Addr} {od_11 an_11 : Option Addr} {sl_11 : Array (Option Value)} {oc_11 kV_11 dc_11 pm_11 cd_11 ct_11 : Value} {f_12 : Addr} {od_12 an_12 : Option Addr} {sl_12 : Array (Option Value)} {oc_12 kV_12 dc_12 pm_12 cd_12 ct_12 : Value} {f_13 : Addr} {od_13 an_13 : Option Addr} {sl_13 : Array (Option Value)} {oc_13 kV_13 dc_13 pm_13 cd_13 ct_13 : Value} {f_14 : Addr} {od_14 an_14 : Option Addr} {sl_14 : Array (Option Value)} {oc_14 kV_14 dc_14 pm_14 cd_14 ct_14 : Value} {f_15 : Addr} {od_15 an_15 : Option Addr} {sl_15 : Array (Option Value)} {oc_15 kV_15 dc_15 pm_15 cd_15 ct_15 : Value} {f_16 : Addr} {od_16 an_16 : Option Addr} {sl_16 : Array (Option Value)} {oc_16 kV_16 dc_16 pm_16 cd_16 ct_16 : Value} {f_17 : Addr} {od_17 an_17 : Option Addr} {sl_17 : Array (Option Value)} {oc_17 kV_17 dc_17 pm_17 cd_17 ct_17 : Value} {f_18 : Addr} {od_18 an_18 : Option Addr} {sl_18 : Array (Option Value)} {oc_18 kV_18 dc_18 pm_18 cd_18 ct_18 : Value} {f_19 : Addr} {od_19 an_19 : Option Addr} {sl_19 : Array (Option Value)} {oc_19 kV_19 dc_19 pm_19 cd_19 ct_19 : Value} {f_20 : Addr} {od_20 an_20 : Option Addr} {sl_20 : Array (Option Value)} {oc_20 kV_20 dc_20 pm_20 cd_20 ct_20 : Value} {f_21 : Addr} {od_21 an_21 : Option Addr} {sl_21 : Array (Option Value)} {oc_21 kV_21 dc_21 pm_21 cd_21 ct_21 : Value} {E_NoOrder : Addr} {bm_NoOrder : List Value} {nid_NoOrder : String} {ini_NoOrder B_NoOrder : String} {E_NoTerm : Addr} {bm_NoTerm : List Value} {nid_NoTerm : String} {ini_NoTerm B_NoTerm : String}
    (a_Order : PySem.W.nsIn K mainGlobals "Order" = some (some (.ref C_Order)))
    (pg_Order : PySem.W.plainGet K C_Order Str.empty = true)
    (hd_Order : PySem.W.hasDictIn K C_Order = true)
    (po_Order : PySem.W.plainOver K C_Order = true)
    (sa_Order : PySem.W.findIn K (.ref C_Order) "__setattr__" = some (some (.builtin "object.__setattr__")))
    (mk_Order : PySem.W.makesIn K C_Order = true)
    (in_Order : PySem.W.findIn K (.ref C_Order) "__init__" = some (some (.builtin "object.__init__")))
    (kc_Order : PySem.W.keepIn K (.ref C_Order) = true)
    (a_Degrees : PySem.W.nsIn K mainGlobals "Degrees" = some (some (.ref C_Degrees)))
    (pg_Degrees : PySem.W.plainGet K C_Degrees Str.empty = true)
    (hd_Degrees : PySem.W.hasDictIn K C_Degrees = true)
    (po_Degrees : PySem.W.plainOver K C_Degrees = true)
    (sa_Degrees : PySem.W.findIn K (.ref C_Degrees) "__setattr__" = some (some (.builtin "object.__setattr__")))
    (mk_Degrees : PySem.W.makesIn K C_Degrees = true)
    (in_Degrees : PySem.W.findIn K (.ref C_Degrees) "__init__" = some (some (.builtin "object.__init__")))
    (kc_Degrees : PySem.W.keepIn K (.ref C_Degrees) = true)
    (a_Tails : PySem.W.nsIn K mainGlobals "Tails" = some (some (.ref C_Tails)))
    (pg_Tails : PySem.W.plainGet K C_Tails Str.empty = true)
    (hd_Tails : PySem.W.hasDictIn K C_Tails = true)
    (po_Tails : PySem.W.plainOver K C_Tails = true)
    (sa_Tails : PySem.W.findIn K (.ref C_Tails) "__setattr__" = some (some (.builtin "object.__setattr__")))
    (mk_Tails : PySem.W.makesIn K C_Tails = true)
    (in_Tails : PySem.W.findIn K (.ref C_Tails) "__init__" = some (some (.builtin "object.__init__")))
    (kc_Tails : PySem.W.keepIn K (.ref C_Tails) = true)
    (a_Weights : PySem.W.nsIn K mainGlobals "Weights" = some (some (.ref C_Weights)))
    (pg_Weights : PySem.W.plainGet K C_Weights Str.empty = true)
    (hd_Weights : PySem.W.hasDictIn K C_Weights = true)
    (po_Weights : PySem.W.plainOver K C_Weights = true)
    (sa_Weights : PySem.W.findIn K (.ref C_Weights) "__setattr__" = some (some (.builtin "object.__setattr__")))
    (mk_Weights : PySem.W.makesIn K C_Weights = true)
    (kc_Weights : PySem.W.keepIn K (.ref C_Weights) = true)
    (na_Weights_weights : PySem.W.findIn K (.ref C_Weights) "weights" = some none)
    (a_0 : PySem.W.nsIn K mainGlobals "degree" = some (some (.ref f_0)))
    (l_0 : K.lookup f_0 = some ⟨oc_0, od_0, .func (PySem.W.fnOf "degree" "degree" (defArgs s_degree) (defBody s_degree) (defScope s_degree) .none kV_0 dc_0 pm_0 an_0 cd_0 ct_0), sl_0⟩)
    (c_0 : PySem.W.codeIn K cd_0 "degree" = true)
    (k_0 : PySem.W.keepIn K (.ref f_0) = true)
    (a_1_Order : PySem.W.findIn K (.ref C_Order) "rank" = some (some (.ref f_1)))
    (i_1 : PySem.W.isFn K (.ref f_1) = true)
    (bg_1 : PySem.W.specialIn K (.ref f_1) "__get__" = some (some (.builtin "function.__get__")))
    (bt_1 : PySem.W.takesIn K (.ref f_1) = some false)
    (l_1 : K.lookup f_1 = some ⟨oc_1, od_1, .func (PySem.W.fnOf "rank" "Order.rank" (defArgs s_Order_rank) (defBody s_Order_rank) (defScope s_Order_rank) .none kV_1 dc_1 pm_1 an_1 cd_1 ct_1), sl_1⟩)
    (c_1 : PySem.W.codeIn K cd_1 "Order.rank" = true)
    (k_1 : PySem.W.keepIn K (.ref f_1) = true)
    (a_2_Degrees : PySem.W.findIn K (.ref C_Degrees) "rank" = some (some (.ref f_2)))
    (i_2 : PySem.W.isFn K (.ref f_2) = true)
    (bg_2 : PySem.W.specialIn K (.ref f_2) "__get__" = some (some (.builtin "function.__get__")))
    (bt_2 : PySem.W.takesIn K (.ref f_2) = some false)
    (l_2 : K.lookup f_2 = some ⟨oc_2, od_2, .func (PySem.W.fnOf "rank" "Degrees.rank" (defArgs s_Degrees_rank) (defBody s_Degrees_rank) (defScope s_Degrees_rank) .none kV_2 dc_2 pm_2 an_2 cd_2 ct_2), sl_2⟩)
    (c_2 : PySem.W.codeIn K cd_2 "Degrees.rank" = true)
    (k_2 : PySem.W.keepIn K (.ref f_2) = true)
    (a_3_Tails : PySem.W.findIn K (.ref C_Tails) "rank" = some (some (.ref f_3)))
    (i_3 : PySem.W.isFn K (.ref f_3) = true)
    (bg_3 : PySem.W.specialIn K (.ref f_3) "__get__" = some (some (.builtin "function.__get__")))
    (bt_3 : PySem.W.takesIn K (.ref f_3) = some false)
    (l_3 : K.lookup f_3 = some ⟨oc_3, od_3, .func (PySem.W.fnOf "rank" "Tails.rank" (defArgs s_Tails_rank) (defBody s_Tails_rank) (defScope s_Tails_rank) .none kV_3 dc_3 pm_3 an_3 cd_3 ct_3), sl_3⟩)
    (c_3 : PySem.W.codeIn K cd_3 "Tails.rank" = true)
    (k_3 : PySem.W.keepIn K (.ref f_3) = true)
    (a_4_Weights : PySem.W.findIn K (.ref C_Weights) "__init__" = some (some (.ref f_4)))
    (i_4 : PySem.W.isFn K (.ref f_4) = true)
    (l_4 : K.lookup f_4 = some ⟨oc_4, od_4, .func (PySem.W.fnOf "__init__" "Weights.__init__" (defArgs s_Weights___init__) (defBody s_Weights___init__) (defScope s_Weights___init__) .none kV_4 dc_4 pm_4 an_4 cd_4 ct_4), sl_4⟩)
    (c_4 : PySem.W.codeIn K cd_4 "Weights.__init__" = true)
    (k_4 : PySem.W.keepIn K (.ref f_4) = true)
    (a_5_Weights : PySem.W.findIn K (.ref C_Weights) "rank" = some (some (.ref f_5)))
    (i_5 : PySem.W.isFn K (.ref f_5) = true)
    (bg_5 : PySem.W.specialIn K (.ref f_5) "__get__" = some (some (.builtin "function.__get__")))
    (bt_5 : PySem.W.takesIn K (.ref f_5) = some false)
    (l_5 : K.lookup f_5 = some ⟨oc_5, od_5, .func (PySem.W.fnOf "rank" "Weights.rank" (defArgs s_Weights_rank) (defBody s_Weights_rank) (defScope s_Weights_rank) .none kV_5 dc_5 pm_5 an_5 cd_5 ct_5), sl_5⟩)
    (c_5 : PySem.W.codeIn K cd_5 "Weights.rank" = true)
    (k_5 : PySem.W.keepIn K (.ref f_5) = true)
    (a_6_Degrees : PySem.W.findIn K (.ref C_Degrees) "goes_before" = some (some (.ref f_6)))
    (a_6_Order : PySem.W.findIn K (.ref C_Order) "goes_before" = some (some (.ref f_6)))
    (a_6_Tails : PySem.W.findIn K (.ref C_Tails) "goes_before" = some (some (.ref f_6)))
    (a_6_Weights : PySem.W.findIn K (.ref C_Weights) "goes_before" = some (some (.ref f_6)))
    (i_6 : PySem.W.isFn K (.ref f_6) = true)
    (l_6 : K.lookup f_6 = some ⟨oc_6, od_6, .func (PySem.W.fnOf "goes_before" "Order.goes_before" (defArgs s_Order_goes_before) (defBody s_Order_goes_before) (defScope s_Order_goes_before) .none kV_6 dc_6 pm_6 an_6 cd_6 ct_6), sl_6⟩)
    (c_6 : PySem.W.codeIn K cd_6 "Order.goes_before" = true)
    (k_6 : PySem.W.keepIn K (.ref f_6) = true)
    (a_7_Degrees : PySem.W.findIn K (.ref C_Degrees) "falling" = some (some (.ref f_7)))
    (a_7_Order : PySem.W.findIn K (.ref C_Order) "falling" = some (some (.ref f_7)))
    (a_7_Tails : PySem.W.findIn K (.ref C_Tails) "falling" = some (some (.ref f_7)))
    (a_7_Weights : PySem.W.findIn K (.ref C_Weights) "falling" = some (some (.ref f_7)))
    (i_7 : PySem.W.isFn K (.ref f_7) = true)
    (l_7 : K.lookup f_7 = some ⟨oc_7, od_7, .func (PySem.W.fnOf "falling" "Order.falling" (defArgs s_Order_falling) (defBody s_Order_falling) (defScope s_Order_falling) .none kV_7 dc_7 pm_7 an_7 cd_7 ct_7), sl_7⟩)
    (c_7 : PySem.W.codeIn K cd_7 "Order.falling" = true)
    (k_7 : PySem.W.keepIn K (.ref f_7) = true)
    (a_8_Degrees : PySem.W.findIn K (.ref C_Degrees) "first_of" = some (some (.ref f_8)))
    (a_8_Order : PySem.W.findIn K (.ref C_Order) "first_of" = some (some (.ref f_8)))
    (a_8_Tails : PySem.W.findIn K (.ref C_Tails) "first_of" = some (some (.ref f_8)))
    (a_8_Weights : PySem.W.findIn K (.ref C_Weights) "first_of" = some (some (.ref f_8)))
    (i_8 : PySem.W.isFn K (.ref f_8) = true)
    (l_8 : K.lookup f_8 = some ⟨oc_8, od_8, .func (PySem.W.fnOf "first_of" "Order.first_of" (defArgs s_Order_first_of) (defBody s_Order_first_of) (defScope s_Order_first_of) .none kV_8 dc_8 pm_8 an_8 cd_8 ct_8), sl_8⟩)
    (c_8 : PySem.W.codeIn K cd_8 "Order.first_of" = true)
    (k_8 : PySem.W.keepIn K (.ref f_8) = true)
    (a_9_Degrees : PySem.W.findIn K (.ref C_Degrees) "fits" = some (some (.ref f_9)))
    (a_9_Order : PySem.W.findIn K (.ref C_Order) "fits" = some (some (.ref f_9)))
    (a_9_Tails : PySem.W.findIn K (.ref C_Tails) "fits" = some (some (.ref f_9)))
    (i_9 : PySem.W.isFn K (.ref f_9) = true)
    (l_9 : K.lookup f_9 = some ⟨oc_9, od_9, .func (PySem.W.fnOf "fits" "Order.fits" (defArgs s_Order_fits) (defBody s_Order_fits) (defScope s_Order_fits) .none kV_9 dc_9 pm_9 an_9 cd_9 ct_9), sl_9⟩)
    (c_9 : PySem.W.codeIn K cd_9 "Order.fits" = true)
    (k_9 : PySem.W.keepIn K (.ref f_9) = true)
    (a_10_Weights : PySem.W.findIn K (.ref C_Weights) "fits" = some (some (.ref f_10)))
    (i_10 : PySem.W.isFn K (.ref f_10) = true)
    (l_10 : K.lookup f_10 = some ⟨oc_10, od_10, .func (PySem.W.fnOf "fits" "Weights.fits" (defArgs s_Weights_fits) (defBody s_Weights_fits) (defScope s_Weights_fits) .none kV_10 dc_10 pm_10 an_10 cd_10 ct_10), sl_10⟩)
    (c_10 : PySem.W.codeIn K cd_10 "Weights.fits" = true)
    (k_10 : PySem.W.keepIn K (.ref f_10) = true)
    (a_11 : PySem.W.nsIn K mainGlobals "_law_cell" = some (some (.ref f_11)))
    (l_11 : K.lookup f_11 = some ⟨oc_11, od_11, .func (PySem.W.fnOf "_law_cell" "_law_cell" (defArgs s__law_cell) (defBody s__law_cell) (defScope s__law_cell) .none kV_11 dc_11 pm_11 an_11 cd_11 ct_11), sl_11⟩)
    (c_11 : PySem.W.codeIn K cd_11 "_law_cell" = true)
    (k_11 : PySem.W.keepIn K (.ref f_11) = true)
    (a_12 : PySem.W.nsIn K mainGlobals "_law_truth" = some (some (.ref f_12)))
    (l_12 : K.lookup f_12 = some ⟨oc_12, od_12, .func (PySem.W.fnOf "_law_truth" "_law_truth" (defArgs s__law_truth) (defBody s__law_truth) (defScope s__law_truth) .none kV_12 dc_12 pm_12 an_12 cd_12 ct_12), sl_12⟩)
    (c_12 : PySem.W.codeIn K cd_12 "_law_truth" = true)
    (k_12 : PySem.W.keepIn K (.ref f_12) = true)
    (a_13 : PySem.W.nsIn K mainGlobals "_law_power" = some (some (.ref f_13)))
    (l_13 : K.lookup f_13 = some ⟨oc_13, od_13, .func (PySem.W.fnOf "_law_power" "_law_power" (defArgs s__law_power) (defBody s__law_power) (defScope s__law_power) .none kV_13 dc_13 pm_13 an_13 cd_13 ct_13), sl_13⟩)
    (c_13 : PySem.W.codeIn K cd_13 "_law_power" = true)
    (k_13 : PySem.W.keepIn K (.ref f_13) = true)
    (a_14 : PySem.W.nsIn K mainGlobals "_law_weights" = some (some (.ref f_14)))
    (l_14 : K.lookup f_14 = some ⟨oc_14, od_14, .func (PySem.W.fnOf "_law_weights" "_law_weights" (defArgs s__law_weights) (defBody s__law_weights) (defScope s__law_weights) .none kV_14 dc_14 pm_14 an_14 cd_14 ct_14), sl_14⟩)
    (c_14 : PySem.W.codeIn K cd_14 "_law_weights" = true)
    (k_14 : PySem.W.keepIn K (.ref f_14) = true)
    (a_15 : PySem.W.nsIn K mainGlobals "_law_order" = some (some (.ref f_15)))
    (l_15 : K.lookup f_15 = some ⟨oc_15, od_15, .func (PySem.W.fnOf "_law_order" "_law_order" (defArgs s__law_order) (defBody s__law_order) (defScope s__law_order) .none kV_15 dc_15 pm_15 an_15 cd_15 ct_15), sl_15⟩)
    (c_15 : PySem.W.codeIn K cd_15 "_law_order" = true)
    (k_15 : PySem.W.keepIn K (.ref f_15) = true)
    (a_16 : PySem.W.nsIn K mainGlobals "_law_rank_is" = some (some (.ref f_16)))
    (l_16 : K.lookup f_16 = some ⟨oc_16, od_16, .func (PySem.W.fnOf "_law_rank_is" "_law_rank_is" (defArgs s__law_rank_is) (defBody s__law_rank_is) (defScope s__law_rank_is) .none kV_16 dc_16 pm_16 an_16 cd_16 ct_16), sl_16⟩)
    (c_16 : PySem.W.codeIn K cd_16 "_law_rank_is" = true)
    (k_16 : PySem.W.keepIn K (.ref f_16) = true)
    (a_17 : PySem.W.nsIn K mainGlobals "_law_first" = some (some (.ref f_17)))
    (l_17 : K.lookup f_17 = some ⟨oc_17, od_17, .func (PySem.W.fnOf "_law_first" "_law_first" (defArgs s__law_first) (defBody s__law_first) (defScope s__law_first) .none kV_17 dc_17 pm_17 an_17 cd_17 ct_17), sl_17⟩)
    (c_17 : PySem.W.codeIn K cd_17 "_law_first" = true)
    (k_17 : PySem.W.keepIn K (.ref f_17) = true)
    (a_18 : PySem.W.nsIn K mainGlobals "_law_rank" = some (some (.ref f_18)))
    (l_18 : K.lookup f_18 = some ⟨oc_18, od_18, .func (PySem.W.fnOf "_law_rank" "_law_rank" (defArgs s__law_rank) (defBody s__law_rank) (defScope s__law_rank) .none kV_18 dc_18 pm_18 an_18 cd_18 ct_18), sl_18⟩)
    (c_18 : PySem.W.codeIn K cd_18 "_law_rank" = true)
    (k_18 : PySem.W.keepIn K (.ref f_18) = true)
    (a_19 : PySem.W.nsIn K mainGlobals "_law_falls" = some (some (.ref f_19)))
    (l_19 : K.lookup f_19 = some ⟨oc_19, od_19, .func (PySem.W.fnOf "_law_falls" "_law_falls" (defArgs s__law_falls) (defBody s__law_falls) (defScope s__law_falls) .none kV_19 dc_19 pm_19 an_19 cd_19 ct_19), sl_19⟩)
    (c_19 : PySem.W.codeIn K cd_19 "_law_falls" = true)
    (k_19 : PySem.W.keepIn K (.ref f_19) = true)
    (a_20 : PySem.W.nsIn K mainGlobals "_law_weights_told" = some (some (.ref f_20)))
    (l_20 : K.lookup f_20 = some ⟨oc_20, od_20, .func (PySem.W.fnOf "_law_weights_told" "_law_weights_told" (defArgs s__law_weights_told) (defBody s__law_weights_told) (defScope s__law_weights_told) .none kV_20 dc_20 pm_20 an_20 cd_20 ct_20), sl_20⟩)
    (c_20 : PySem.W.codeIn K cd_20 "_law_weights_told" = true)
    (k_20 : PySem.W.keepIn K (.ref f_20) = true)
    (a_21 : PySem.W.nsIn K mainGlobals "law" = some (some (.ref f_21)))
    (l_21 : K.lookup f_21 = some ⟨oc_21, od_21, .func (PySem.W.fnOf "law" "law" (defArgs s_law) (defBody s_law) (defScope s_law) .none kV_21 dc_21 pm_21 an_21 cd_21 ct_21), sl_21⟩)
    (c_21 : PySem.W.codeIn K cd_21 "law" = true)
    (k_21 : PySem.W.keepIn K (.ref f_21) = true)
    (a_NoOrder : PySem.W.nsIn K mainGlobals "NoOrder" = some (some (.ref E_NoOrder)))
    (FB_NoOrder : ExcBaseFacts B_NoOrder nid_NoOrder ini_NoOrder bm_NoOrder)
    (xE_NoOrder : PySem.W.excIn K E_NoOrder bm_NoOrder nid_NoOrder = true)
    (xm_NoOrder : PySem.W.exmOne K (.ref E_NoOrder) (.ref E_NoOrder) = some true)
    (a_NoTerm : PySem.W.nsIn K mainGlobals "NoTerm" = some (some (.ref E_NoTerm)))
    (FB_NoTerm : ExcBaseFacts B_NoTerm nid_NoTerm ini_NoTerm bm_NoTerm)
    (xE_NoTerm : PySem.W.excIn K E_NoTerm bm_NoTerm nid_NoTerm = true)
    (xm_NoTerm : PySem.W.exmOne K (.ref E_NoTerm) (.ref E_NoTerm) = some true)
    (q_kbb : PySem.W.kitOne K (.type "bool") (.type "bool") = some true)
    (q_kii : PySem.W.kitOne K (.type "int") (.type "int") = some true)
    (q_kib : PySem.W.kitOne K (.type "int") (.type "bool") = some false)
    (q_ktt : PySem.W.kitOne K (.type "tuple") (.type "tuple") = some true)
    (q_kll : PySem.W.kitOne K (.type "list") (.type "list") = some true)
    (q_kio_Order : PySem.W.kitOne K (.ref C_Order) (.ref C_Order) = some true)
    (q_kio_Degrees : PySem.W.kitOne K (.ref C_Degrees) (.ref C_Order) = some true)
    (q_kio_Tails : PySem.W.kitOne K (.ref C_Tails) (.ref C_Order) = some true)
    (q_kio_Weights : PySem.W.kitOne K (.ref C_Weights) (.ref C_Order) = some true)
    (q_isg : PySem.W.specialIn K (.builtin "object.__class__") "__get__" = some (some (.builtin "getset_descriptor.__get__")))
    (q_ist : PySem.W.takesIn K (.builtin "object.__class__") = some true)
    (q_isc_Order : PySem.W.findIn K (.ref C_Order) "__class__" = some (some (.builtin "object.__class__")))
    (q_ism_Order : PySem.W.mroIn K C_Order (.type "object") = some true)
    (q_isc_Degrees : PySem.W.findIn K (.ref C_Degrees) "__class__" = some (some (.builtin "object.__class__")))
    (q_ism_Degrees : PySem.W.mroIn K C_Degrees (.type "object") = some true)
    (q_isc_Tails : PySem.W.findIn K (.ref C_Tails) "__class__" = some (some (.builtin "object.__class__")))
    (q_ism_Tails : PySem.W.mroIn K C_Tails (.type "object") = some true)
    (q_isc_Weights : PySem.W.findIn K (.ref C_Weights) "__class__" = some (some (.builtin "object.__class__")))
    (q_ism_Weights : PySem.W.mroIn K C_Weights (.type "object") = some true)
    (z_any : PySem.W.nsIn K mainGlobals "any" = some none)
    (z_bool : PySem.W.nsIn K mainGlobals "bool" = some none)
    (z_int : PySem.W.nsIn K mainGlobals "int" = some none)
    (z_isinstance : PySem.W.nsIn K mainGlobals "isinstance" = some none)
    (z_len : PySem.W.nsIn K mainGlobals "len" = some none)
    (z_list : PySem.W.nsIn K mainGlobals "list" = some none)
    (z_max : PySem.W.nsIn K mainGlobals "max" = some none)
    (z_range : PySem.W.nsIn K mainGlobals "range" = some none)
    (z_reversed : PySem.W.nsIn K mainGlobals "reversed" = some none)
    (z_sorted : PySem.W.nsIn K mainGlobals "sorted" = some none)
    (z_sum : PySem.W.nsIn K mainGlobals "sum" = some none)
    (z_tuple : PySem.W.nsIn K mainGlobals "tuple" = some none)
    (z_zip : PySem.W.nsIn K mainGlobals "zip" = some none)
    : ∃ fd : FuncData, (∀ (s : Shared) (v : Value), BindsTo s fd ⟨[v], []⟩ [("_law_script", v)]) ∧ ∀ base : Heap, K.In base → base.Ns mainGlobals mg → FnOk l.prog w K mg base CX0 9 fa fd ["_law_script"] (spLaw K) := by
  have e := hfa.symm.trans (PySem.W.mg_of X G a_21)
  cases e
  have T : Txt K mg C_Order C_Degrees C_Tails C_Weights := ⟨PySem.W.mg_none_of X G z_any, PySem.W.mg_none_of X G z_bool, PySem.W.mg_none_of X G z_int, PySem.W.mg_none_of X G z_isinstance, PySem.W.mg_none_of X G z_len, PySem.W.mg_none_of X G z_list, PySem.W.mg_none_of X G z_max, PySem.W.mg_none_of X G z_range, PySem.W.mg_none_of X G z_reversed, PySem.W.mg_none_of X G z_sorted, PySem.W.mg_none_of X G z_sum, PySem.W.mg_none_of X G z_tuple, PySem.W.mg_none_of X G z_zip, ⟨pg_Order, hd_Order, po_Order, sa_Order⟩, PySem.W.mg_of X G a_Order, ⟨mk_Order, in_Order, kc_Order⟩, ⟨pg_Degrees, hd_Degrees, po_Degrees, sa_Degrees⟩, PySem.W.mg_of X G a_Degrees, ⟨mk_Degrees, in_Degrees, kc_Degrees⟩, ⟨pg_Tails, hd_Tails, po_Tails, sa_Tails⟩, PySem.W.mg_of X G a_Tails, ⟨mk_Tails, in_Tails, kc_Tails⟩, ⟨pg_Weights, hd_Weights, po_Weights, sa_Weights⟩, PySem.W.mg_of X G a_Weights, na_Weights_weights, q_kbb, q_kii, q_kib, q_ktt, q_kll, q_kio_Order, q_kio_Degrees, q_kio_Tails, q_kio_Weights, q_isg, q_ist, q_isc_Order, q_ism_Order, q_isc_Degrees, q_ism_Degrees, q_isc_Tails, q_ism_Tails, q_isc_Weights, q_ism_Weights⟩
  have F_0 := funD_mk (st := s_degree) l_0 c_0
  have b_0 := F_0.binds (ps := ["term"]) fun _ _ _ _ _ _ us hl => match us, hl with | [_], _ => rfl
  have F_1 := funD_mk (st := s_Order_rank) l_1 c_1
  have b_1 := F_1.binds (ps := ["self", "term"]) fun _ _ _ _ _ _ us hl => match us, hl with | [_, _], _ => rfl
  have F_2 := funD_mk (st := s_Degrees_rank) l_2 c_2
  have b_2 := F_2.binds (ps := ["self", "term"]) fun _ _ _ _ _ _ us hl => match us, hl with | [_, _], _ => rfl
  have F_3 := funD_mk (st := s_Tails_rank) l_3 c_3
  have b_3 := F_3.binds (ps := ["self", "term"]) fun _ _ _ _ _ _ us hl => match us, hl with | [_, _], _ => rfl
  have F_4 := funD_mk (st := s_Weights___init__) l_4 c_4
  have b_4 := F_4.binds (ps := ["self", "weights"]) fun _ _ _ _ _ _ us hl => match us, hl with | [_, _], _ => rfl
  have F_5 := funD_mk (st := s_Weights_rank) l_5 c_5
  have b_5 := F_5.binds (ps := ["self", "term"]) fun _ _ _ _ _ _ us hl => match us, hl with | [_, _], _ => rfl
  have F_6 := funD_mk (st := s_Order_goes_before) l_6 c_6
  have b_6 := F_6.binds (ps := ["self", "one", "other"]) fun _ _ _ _ _ _ us hl => match us, hl with | [_, _, _], _ => rfl
  have F_7 := funD_mk (st := s_Order_falling) l_7 c_7
  have b_7 := F_7.binds (ps := ["self", "terms"]) fun _ _ _ _ _ _ us hl => match us, hl with | [_, _], _ => rfl
  have F_8 := funD_mk (st := s_Order_first_of) l_8 c_8
  have b_8 := F_8.binds (ps := ["self", "terms"]) fun _ _ _ _ _ _ us hl => match us, hl with | [_, _], _ => rfl
  have F_9 := funD_mk (st := s_Order_fits) l_9 c_9
  have b_9 := F_9.binds (ps := ["self", "many"]) fun _ _ _ _ _ _ us hl => match us, hl with | [_, _], _ => rfl
  have F_10 := funD_mk (st := s_Weights_fits) l_10 c_10
  have b_10 := F_10.binds (ps := ["self", "many"]) fun _ _ _ _ _ _ us hl => match us, hl with | [_, _], _ => rfl
  have F_11 := funD_mk (st := s__law_cell) l_11 c_11
  have b_11 := F_11.binds (ps := ["_law_script", "_law_k"]) fun _ _ _ _ _ _ us hl => match us, hl with | [_, _], _ => rfl
  have F_12 := funD_mk (st := s__law_truth) l_12 c_12
  have b_12 := F_12.binds (ps := ["_law_found", "_law_due"]) fun _ _ _ _ _ _ us hl => match us, hl with | [_, _], _ => rfl
  have F_13 := funD_mk (st := s__law_power) l_13 c_13
  have b_13 := F_13.binds (ps := ["_law_cell_here", "_law_at"]) fun _ _ _ _ _ _ us hl => match us, hl with | [_, _], _ => rfl
  have F_14 := funD_mk (st := s__law_weights) l_14 c_14
  have b_14 := F_14.binds (ps := ["_law_cell_here", "_law_many"]) fun _ _ _ _ _ _ us hl => match us, hl with | [_, _], _ => rfl
  have F_15 := funD_mk (st := s__law_order) l_15 c_15
  have b_15 := F_15.binds (ps := ["_law_kind", "_law_weights_here"]) fun _ _ _ _ _ _ us hl => match us, hl with | [_, _], _ => rfl
  have F_16 := funD_mk (st := s__law_rank_is) l_16 c_16
  have b_16 := F_16.binds (ps := ["_law_found", "_law_due"]) fun _ _ _ _ _ _ us hl => match us, hl with | [_, _], _ => rfl
  have F_17 := funD_mk (st := s__law_first) l_17 c_17
  have b_17 := F_17.binds (ps := ["_law_order_here", "_law_terms"]) fun _ _ _ _ _ _ us hl => match us, hl with | [_, _], _ => rfl
  have F_18 := funD_mk (st := s__law_rank) l_18 c_18
  have b_18 := F_18.binds (ps := ["_law_kind", "_law_weights_here", "_law_term"]) fun _ _ _ _ _ _ us hl => match us, hl with | [_, _, _], _ => rfl
  have F_19 := funD_mk (st := s__law_falls) l_19 c_19
  have b_19 := F_19.binds (ps := ["_law_order_here", "_law_terms", "_law_ranks"]) fun _ _ _ _ _ _ us hl => match us, hl with | [_, _, _], _ => rfl
  have F_20 := funD_mk (st := s__law_weights_told) l_20 c_20
  have b_20 := F_20.binds (ps := ["_law_weights_here", "_law_at"]) fun _ _ _ _ _ _ us hl => match us, hl with | [_, _], _ => rfl
  have F_21 := funD_mk (st := s_law) l_21 c_21
  have b_21 := F_21.binds (ps := ["_law_script"]) fun _ _ _ _ _ _ us hl => match us, hl with | [_], _ => rfl
  refine ⟨PySem.W.fnOf "law" "law" (defArgs s_law) (defBody s_law) (defScope s_law) .none kV_21 dc_21 pm_21 an_21 cd_21 ct_21, fun s v => .of_eq rfl, fun base kb nb => ?_⟩
  have x_NoOrder : Exc K mg base "NoOrder" E_NoOrder := ⟨⟨_, _, _, _, own_in kb nb a_NoOrder xE_NoOrder, FB_NoOrder⟩, PySem.W.mg_of X G a_NoOrder, xm_NoOrder⟩
  have x_NoTerm : Exc K mg base "NoTerm" E_NoTerm := ⟨⟨_, _, _, _, own_in kb nb a_NoTerm xE_NoTerm, FB_NoTerm⟩, PySem.W.mg_of X G a_NoTerm, xm_NoTerm⟩
  have G_Deg := ok_Deg (P := l.prog) (w := w) (base := base) F_0 T  
  have c_Deg : Cal _ _ _ _ _ _ _ _ _ _ _ := ⟨_, _, G_Deg, b_0, k_0, PySem.W.mg_of X G a_0⟩
  have m_Rank_Order : MCal l.prog w K mg base CX0 3 C_Order "rank" ["self", "term"] [] (spRank (AtO C_Order) rkL) := ⟨⟨_, _, (ok_RankO (P := l.prog) (w := w) (base := base) F_1 T ).mono (by decide), b_1, ⟨a_1_Order, i_1, k_1⟩⟩, T.cl_Order⟩
  have bm_Order : BM K C_Order "rank" := ⟨⟨_, a_1_Order, ⟨bg_1, bt_1, by decide⟩⟩⟩
  have m_Rank_Degrees : MCal l.prog w K mg base CX0 3 C_Degrees "rank" ["self", "term"] [] (spRank (AtO C_Degrees) rkD) := ⟨⟨_, _, (ok_RankD (P := l.prog) (w := w) (base := base) F_2 T c_Deg).mono (by decide), b_2, ⟨a_2_Degrees, i_2, k_2⟩⟩, T.cl_Degrees⟩
  have bm_Degrees : BM K C_Degrees "rank" := ⟨⟨_, a_2_Degrees, ⟨bg_2, bt_2, by decide⟩⟩⟩
  have m_Rank_Tails : MCal l.prog w K mg base CX0 3 C_Tails "rank" ["self", "term"] [] (spRank (AtO C_Tails) rkT) := ⟨⟨_, _, (ok_RankT (P := l.prog) (w := w) (base := base) F_3 T c_Deg).mono (by decide), b_3, ⟨a_3_Tails, i_3, k_3⟩⟩, T.cl_Tails⟩
  have bm_Tails : BM K C_Tails "rank" := ⟨⟨_, a_3_Tails, ⟨bg_3, bt_3, by decide⟩⟩⟩
  have G_WInit := ok_WInit (P := l.prog) (w := w) (base := base) F_4 T x_NoOrder 
  have k_WInit : Mak _ _ _ _ _ _ _ _ _ _ _ _ := ⟨⟨_, _, G_WInit, b_4, ⟨mk_Weights, a_4_Weights, i_4, kc_Weights⟩⟩, T.mg_Weights⟩
  have m_Rank_Weights : ∀ ws : List Int, Nn ws → (∀ x ∈ ws, x < 10 ^ 31) → MCal l.prog w K mg base CX0 3 C_Weights "rank" ["self", "term"] [] (spRank (AtW C_Weights ws) (rkW ws)) := fun ws h1 h2 => ⟨⟨_, _, (ok_RankW (P := l.prog) (w := w) (base := base) F_5 T h1 h2).mono (by decide), b_5, ⟨a_5_Weights, i_5, k_5⟩⟩, T.cl_Weights⟩
  have bm_Weights : BM K C_Weights "rank" := ⟨⟨_, a_5_Weights, ⟨bg_5, bt_5, by decide⟩⟩⟩
  have gb_Order : MCal l.prog w K mg base CX0 4 C_Order "goes_before" ["self", "one", "other"] [] (spGB (AtO C_Order) rkL) := ⟨⟨_, _, ok_GB (P := l.prog) (w := w) (base := base) F_6 T  (ordcO _) m_Rank_Order , b_6, ⟨a_6_Order, i_6, k_6⟩⟩, T.cl_Order⟩
  have gb_Degrees : MCal l.prog w K mg base CX0 4 C_Degrees "goes_before" ["self", "one", "other"] [] (spGB (AtO C_Degrees) rkD) := ⟨⟨_, _, ok_GB (P := l.prog) (w := w) (base := base) F_6 T  (ordcO _) m_Rank_Degrees , b_6, ⟨a_6_Degrees, i_6, k_6⟩⟩, T.cl_Degrees⟩
  have gb_Tails : MCal l.prog w K mg base CX0 4 C_Tails "goes_before" ["self", "one", "other"] [] (spGB (AtO C_Tails) rkT) := ⟨⟨_, _, ok_GB (P := l.prog) (w := w) (base := base) F_6 T  (ordcO _) m_Rank_Tails , b_6, ⟨a_6_Tails, i_6, k_6⟩⟩, T.cl_Tails⟩
  have gb_Weights : ∀ ws : List Int, Nn ws → (∀ x ∈ ws, x < 10 ^ 31) → MCal l.prog w K mg base CX0 4 C_Weights "goes_before" ["self", "one", "other"] [] (spGB (AtW C_Weights ws) (rkW ws)) := fun ws h1 h2 => ⟨⟨_, _, ok_GB (P := l.prog) (w := w) (base := base) F_6 T  (ordcW _ _) (m_Rank_Weights ws h1 h2) , b_6, ⟨a_6_Weights, i_6, k_6⟩⟩, T.cl_Weights⟩
  have fall_Order : MCal l.prog w K mg base CX0 6 C_Order "falling" ["self", "terms"] [] (spFall (AtO C_Order) rkL) := ⟨⟨_, _, ok_Fall (P := l.prog) (w := w) (base := base) F_7 T  (ordcO _) m_Rank_Order bm_Order (fun xs h => h.ne), b_7, ⟨a_7_Order, i_7, k_7⟩⟩, T.cl_Order⟩
  have fall_Degrees : MCal l.prog w K mg base CX0 6 C_Degrees "falling" ["self", "terms"] [] (spFall (AtO C_Degrees) rkD) := ⟨⟨_, _, ok_Fall (P := l.prog) (w := w) (base := base) F_7 T  (ordcO _) m_Rank_Degrees bm_Degrees (fun _ _ => List.cons_ne_nil _ _), b_7, ⟨a_7_Degrees, i_7, k_7⟩⟩, T.cl_Degrees⟩
  have fall_Tails : MCal l.prog w K mg base CX0 6 C_Tails "falling" ["self", "terms"] [] (spFall (AtO C_Tails) rkT) := ⟨⟨_, _, ok_Fall (P := l.prog) (w := w) (base := base) F_7 T  (ordcO _) m_Rank_Tails bm_Tails (fun _ _ => List.cons_ne_nil _ _), b_7, ⟨a_7_Tails, i_7, k_7⟩⟩, T.cl_Tails⟩
  have fall_Weights : ∀ ws : List Int, Nn ws → (∀ x ∈ ws, x < 10 ^ 31) → MCal l.prog w K mg base CX0 6 C_Weights "falling" ["self", "terms"] [] (spFall (AtW C_Weights ws) (rkW ws)) := fun ws h1 h2 => ⟨⟨_, _, ok_Fall (P := l.prog) (w := w) (base := base) F_7 T  (ordcW _ _) (m_Rank_Weights ws h1 h2) bm_Weights (fun _ _ => List.cons_ne_nil _ _), b_7, ⟨a_7_Weights, i_7, k_7⟩⟩, T.cl_Weights⟩
  have first_Order : MCal l.prog w K mg base (CXe l.prog w) 6 C_Order "first_of" ["self", "terms"] [] (spFirst (AtO C_Order) rkL E_NoTerm) := ⟨⟨_, _, ok_First (P := l.prog) (w := w) (base := base) F_8 T x_NoTerm (ordcO _) m_Rank_Order bm_Order, b_8, ⟨a_8_Order, i_8, k_8⟩⟩, T.cl_Order⟩
  have first_Degrees : MCal l.prog w K mg base (CXe l.prog w) 6 C_Degrees "first_of" ["self", "terms"] [] (spFirst (AtO C_Degrees) rkD E_NoTerm) := ⟨⟨_, _, ok_First (P := l.prog) (w := w) (base := base) F_8 T x_NoTerm (ordcO _) m_Rank_Degrees bm_Degrees, b_8, ⟨a_8_Degrees, i_8, k_8⟩⟩, T.cl_Degrees⟩
  have first_Tails : MCal l.prog w K mg base (CXe l.prog w) 6 C_Tails "first_of" ["self", "terms"] [] (spFirst (AtO C_Tails) rkT E_NoTerm) := ⟨⟨_, _, ok_First (P := l.prog) (w := w) (base := base) F_8 T x_NoTerm (ordcO _) m_Rank_Tails bm_Tails, b_8, ⟨a_8_Tails, i_8, k_8⟩⟩, T.cl_Tails⟩
  have first_Weights : ∀ ws : List Int, Nn ws → (∀ x ∈ ws, x < 10 ^ 31) → MCal l.prog w K mg base (CXe l.prog w) 6 C_Weights "first_of" ["self", "terms"] [] (spFirst (AtW C_Weights ws) (rkW ws) E_NoTerm) := fun ws h1 h2 => ⟨⟨_, _, ok_First (P := l.prog) (w := w) (base := base) F_8 T x_NoTerm (ordcW _ _) (m_Rank_Weights ws h1 h2) bm_Weights, b_8, ⟨a_8_Weights, i_8, k_8⟩⟩, T.cl_Weights⟩
  have fit_Order : MCal l.prog w K mg base CX0 1 C_Order "fits" ["self", "many"] [] (spFits (AtO C_Order) fun _ => true) := ⟨⟨_, _, ok_FitsO (P := l.prog) (w := w) (base := base) (At := AtO C_Order) F_9 T, b_9, ⟨a_9_Order, i_9, k_9⟩⟩, T.cl_Order⟩
  have fit_Degrees : MCal l.prog w K mg base CX0 1 C_Degrees "fits" ["self", "many"] [] (spFits (AtO C_Degrees) fun _ => true) := ⟨⟨_, _, ok_FitsO (P := l.prog) (w := w) (base := base) (At := AtO C_Degrees) F_9 T, b_9, ⟨a_9_Degrees, i_9, k_9⟩⟩, T.cl_Degrees⟩
  have fit_Tails : MCal l.prog w K mg base CX0 1 C_Tails "fits" ["self", "many"] [] (spFits (AtO C_Tails) fun _ => true) := ⟨⟨_, _, ok_FitsO (P := l.prog) (w := w) (base := base) (At := AtO C_Tails) F_9 T, b_9, ⟨a_9_Tails, i_9, k_9⟩⟩, T.cl_Tails⟩
  have fit_Weights : ∀ ws : List Int, MCal l.prog w K mg base CX0 1 C_Weights "fits" ["self", "many"] [] (spFits (AtW C_Weights ws) fun k => decide ((ws.length : Int) = k)) := fun ws => ⟨⟨_, _, ok_FitsW (P := l.prog) (w := w) (base := base) (ws := ws) F_10 T, b_10, ⟨a_10_Weights, i_10, k_10⟩⟩, T.cl_Weights⟩
  have G_Cell := ok_Cell (P := l.prog) (w := w) (base := base) F_11 T  
  have c_Cell : Cal _ _ _ _ _ _ _ _ _ _ _ := ⟨_, _, G_Cell, b_11, k_11, PySem.W.mg_of X G a_11⟩
  have G_Truth := ok_Truth (P := l.prog) (w := w) (base := base) F_12 T  
  have c_Truth : Cal _ _ _ _ _ _ _ _ _ _ _ := ⟨_, _, G_Truth, b_12, k_12, PySem.W.mg_of X G a_12⟩
  have G_Power := ok_Power (P := l.prog) (w := w) (base := base) F_13 T  
  have c_Power : Cal _ _ _ _ _ _ _ _ _ _ _ := ⟨_, _, G_Power, b_13, k_13, PySem.W.mg_of X G a_13⟩
  have G_Wts := ok_Wts (P := l.prog) (w := w) (base := base) F_14 T  
  have c_Wts : Cal _ _ _ _ _ _ _ _ _ _ _ := ⟨_, _, G_Wts, b_14, k_14, PySem.W.mg_of X G a_14⟩
  have G_MkOrder := ok_MkOrder (P := l.prog) (w := w) (base := base) F_15 T k_WInit 
  have c_MkOrder : Cal _ _ _ _ _ _ _ _ _ _ _ := ⟨_, _, G_MkOrder, b_15, k_15, PySem.W.mg_of X G a_15⟩
  have G_RankIs := ok_RankIs (P := l.prog) (w := w) (base := base) F_16 T  
  have c_RankIs : Cal _ _ _ _ _ _ _ _ _ _ _ := ⟨_, _, G_RankIs, b_16, k_16, PySem.W.mg_of X G a_16⟩
  have lfirst := fun C At rk (oC : OrdC C At) (mF : MCal l.prog w K mg base (CXe l.prog w) 6 C "first_of" ["self", "terms"] [] (spFirst At rk E_NoTerm)) => (⟨_, _, ok_LFirst (P := l.prog) (w := w) (base := base) F_17 T x_NoTerm oC mF, b_17, k_17, PySem.W.mg_of X G a_17⟩ : Cal l.prog w K mg base CX0 7 "_law_first" ["_law_order_here", "_law_terms"] [] (spLFirst At rk))
  have G_LRank := ok_LRank (P := l.prog) (w := w) (base := base) F_18 T  
  have c_LRank : Cal _ _ _ _ _ _ _ _ _ _ _ := ⟨_, _, G_LRank, b_18, k_18, PySem.W.mg_of X G a_18⟩
  have falls_ := fun C At rk (oC : OrdC C At) (lrk : ∀ xs : List Int, (rk xs).length ≤ xs.length + 1) (mR : MCal l.prog w K mg base CX0 3 C "rank" ["self", "term"] [] (spRank At rk)) (mF : MCal l.prog w K mg base CX0 6 C "falling" ["self", "terms"] [] (spFall At rk)) (cF : Cal l.prog w K mg base CX0 7 "_law_first" ["_law_order_here", "_law_terms"] [] (spLFirst At rk)) => (⟨_, _, ok_Falls (P := l.prog) (w := w) (base := base) F_19 T c_RankIs oC lrk mR mF cF, b_19, k_19, PySem.W.mg_of X G a_19⟩ : Cal l.prog w K mg base CX0 8 "_law_falls" ["_law_order_here", "_law_terms", "_law_ranks"] [] (spFalls At rk))
  have hall : ∀ (kd : Int) (ws : List Int) (n : Nat), 0 ≤ kd → kd < 4 → 1 ≤ n → n ≤ 10 → Tm n ws → ∃ C fb, OrdA l.prog w K mg base C_Order C (AtK C_Order C_Degrees C_Tails C_Weights kd ws) (rkk kd ws) fb n kd := by
    intro kd ws n h0 h4 n1 n2 tw
    rcases (by omega : kd = 0 ∨ kd = 1 ∨ kd = 2 ∨ kd = 3) with rfl | rfl | rfl | rfl
    · have e : rkk 0 ws = rkL := funext fun xs => by unfold rkk; simp
      rw [e]
      show ∃ C fb, OrdA l.prog w K mg base C_Order C (AtO C_Order) rkL fb n 0
      exact ⟨C_Order, fun _ => true, ⟨ordcO _, m_Rank_Order, gb_Order, fit_Order, ordL n, (fun xs => Nat.le_succ _), fun _ _ => rfl, falls_ _ _ _ (ordcO _) (fun xs => Nat.le_succ _) m_Rank_Order fall_Order (lfirst _ _ _ (ordcO _) first_Order), (fun ⟨dx, h⟩ => .ins h T.cl_Order T.isc_Order T.isg T.ist T.ism_Order), T.kio_Order⟩⟩
    · have e : rkk 1 ws = rkD := funext fun xs => by unfold rkk; simp
      rw [e]
      show ∃ C fb, OrdA l.prog w K mg base C_Order C (AtO C_Degrees) rkD fb n 1
      exact ⟨C_Degrees, fun _ => true, ⟨ordcO _, m_Rank_Degrees, gb_Degrees, fit_Degrees, ordD n, (fun xs => Nat.le_refl _), fun _ _ => rfl, falls_ _ _ _ (ordcO _) (fun xs => Nat.le_refl _) m_Rank_Degrees fall_Degrees (lfirst _ _ _ (ordcO _) first_Degrees), (fun ⟨dx, h⟩ => .ins h T.cl_Degrees T.isc_Degrees T.isg T.ist T.ism_Degrees), T.kio_Degrees⟩⟩
    · have e : rkk 2 ws = rkT := funext fun xs => by unfold rkk; simp
      rw [e]
      show ∃ C fb, OrdA l.prog w K mg base C_Order C (AtO C_Tails) rkT fb n 2
      exact ⟨C_Tails, fun _ => true, ⟨ordcO _, m_Rank_Tails, gb_Tails, fit_Tails, ordT n, (fun xs => by simp [rkT]), fun _ _ => rfl, falls_ _ _ _ (ordcO _) (fun xs => by simp [rkT]) m_Rank_Tails fall_Tails (lfirst _ _ _ (ordcO _) first_Tails), (fun ⟨dx, h⟩ => .ins h T.cl_Tails T.isc_Tails T.isg T.ist T.ism_Tails), T.kio_Tails⟩⟩
    · have e : rkk 3 ws = rkW ws := funext fun xs => by unfold rkk; simp
      rw [e]
      show ∃ C fb, OrdA l.prog w K mg base C_Order C (AtW C_Weights ws) (rkW ws) fb n 3
      exact ⟨C_Weights, _, ⟨ordcW _ _, m_Rank_Weights ws tw.nn tw.b, gb_Weights ws tw.nn tw.b, fit_Weights ws, ordW tw.nn n, (fun xs => Nat.le_refl _), fun z => absurd rfl z, falls_ _ _ _ (ordcW _ _) (fun xs => Nat.le_refl _) (m_Rank_Weights ws tw.nn tw.b) (fall_Weights ws tw.nn tw.b) (lfirst _ _ _ (ordcW _ _) (first_Weights ws tw.nn tw.b)), (fun ⟨dx, wt, h, _⟩ => .ins h T.cl_Weights T.isc_Weights T.isg T.ist T.ism_Weights), T.kio_Weights⟩⟩
  have G_WTold := ok_WTold (P := l.prog) (w := w) (base := base) F_20 T k_WInit c_Truth x_NoOrder fit_Weights
  have c_WTold : Cal _ _ _ _ _ _ _ _ _ _ _ := ⟨_, _, G_WTold, b_20, k_20, PySem.W.mg_of X G a_20⟩
  exact ok_Law (P := l.prog) (w := w) (base := base) F_21 T c_Cell c_Wts c_MkOrder c_WTold c_Truth c_Power c_LRank c_RankIs hall
theorem walk {l : PySem.W.OpenLaw} {q : Program} {loose : List Str} {XP : (Str → Option Value) → Heap → Prop} {YP : World → Heap → Prop} {d : DefRec} {K : Params → PySem.W.Frag} (hn : l.most = some 63) (hdf : d.params.defaults = [])
    (hY : ∀ (w : World) (h : Heap), YP w h → (K w.params).In h)
    (F : ∀ (w : World) (mg : Str → Option Value) (fa : Addr) (h : Heap), (K w.params).In h → h.Ns mainGlobals mg → mg d.name = some (.ref fa) →
      ∃ fd : FuncData, (∀ (s : Shared) (u : Value), BindsTo s fd ⟨[u], []⟩ [("_law_script", u)]) ∧ ∀ base : Heap, (K w.params).In base → base.Ns mainGlobals mg → FnOk l.prog w (K w.params) mg base CX0 9 fa fd ["_law_script"] (spLaw (K w.params))) :
    PySem.W.WalkO q loose XP YP l.row.toRowW d [] (fun f vs => PySem.call f vs) :=
  L2.walk_of (n := 63) (k := 9) (x := "_law_script") (CX := fun _ => CX0) (sp := fun w => spLaw (K w.params)) hn (by decide) hdf ⟨rfl, by decide, by decide⟩ hY F (fun _ _ a ns hl _ hS => ⟨a, ns, rfl, hS, hl, fun _ => rfl⟩) fun _ _ _ _ _ z => z
end K6
open PySem PySem.W PyProof.Rows
set_option maxRecDepth 100000 in
set_option maxHeartbeats 0 in
theorem PySem.Challenge.cw_idealroom_k05_orders_rank_holds : PySem.Challenge.rw_idealroom_k05_orders_rank.Holds := by
  w_on; o_law; k_head; (case hw => w_witness2)
  k_fill
  refine K6.walk (l := PySem.Challenge.rw_idealroom_k05_orders_rank) rfl rfl (fun w h Y => PySem.W.kIn_of Y) ?F
  case F =>
    intro w mg fa h KX G hmg
    refine' K6.all_mk KX G hmg ?a_Order ?pg_Order ?hd_Order ?po_Order ?sa_Order ?mk_Order ?in_Order ?kc_Order ?a_Degrees ?pg_Degrees ?hd_Degrees ?po_Degrees ?sa_Degrees ?mk_Degrees ?in_Degrees ?kc_Degrees ?a_Tails ?pg_Tails ?hd_Tails ?po_Tails ?sa_Tails ?mk_Tails ?in_Tails ?kc_Tails ?a_Weights ?pg_Weights ?hd_Weights ?po_Weights ?sa_Weights ?mk_Weights ?kc_Weights ?na_Weights_weights ?a_0 ?l_0 ?c_0 ?k_0 ?a_1_Order ?i_1 ?bg_1 ?bt_1 ?l_1 ?c_1 ?k_1 ?a_2_Degrees ?i_2 ?bg_2 ?bt_2 ?l_2 ?c_2 ?k_2 ?a_3_Tails ?i_3 ?bg_3 ?bt_3 ?l_3 ?c_3 ?k_3 ?a_4_Weights ?i_4 ?l_4 ?c_4 ?k_4 ?a_5_Weights ?i_5 ?bg_5 ?bt_5 ?l_5 ?c_5 ?k_5 ?a_6_Degrees ?a_6_Order ?a_6_Tails ?a_6_Weights ?i_6 ?l_6 ?c_6 ?k_6 ?a_7_Degrees ?a_7_Order ?a_7_Tails ?a_7_Weights ?i_7 ?l_7 ?c_7 ?k_7 ?a_8_Degrees ?a_8_Order ?a_8_Tails ?a_8_Weights ?i_8 ?l_8 ?c_8 ?k_8 ?a_9_Degrees ?a_9_Order ?a_9_Tails ?i_9 ?l_9 ?c_9 ?k_9 ?a_10_Weights ?i_10 ?l_10 ?c_10 ?k_10 ?a_11 ?l_11 ?c_11 ?k_11 ?a_12 ?l_12 ?c_12 ?k_12 ?a_13 ?l_13 ?c_13 ?k_13 ?a_14 ?l_14 ?c_14 ?k_14 ?a_15 ?l_15 ?c_15 ?k_15 ?a_16 ?l_16 ?c_16 ?k_16 ?a_17 ?l_17 ?c_17 ?k_17 ?a_18 ?l_18 ?c_18 ?k_18 ?a_19 ?l_19 ?c_19 ?k_19 ?a_20 ?l_20 ?c_20 ?k_20 ?a_21 ?l_21 ?c_21 ?k_21 ?a_NoOrder ?FB_NoOrder ?xE_NoOrder ?xm_NoOrder ?a_NoTerm ?FB_NoTerm ?xE_NoTerm ?xm_NoTerm ?q_kbb ?q_kii ?q_kib ?q_ktt ?q_kll ?q_kio_Order ?q_kio_Degrees ?q_kio_Tails ?q_kio_Weights ?q_isg ?q_ist ?q_isc_Order ?q_ism_Order ?q_isc_Degrees ?q_ism_Degrees ?q_isc_Tails ?q_ism_Tails ?q_isc_Weights ?q_ism_Weights ?z_any ?z_bool ?z_int ?z_isinstance ?z_len ?z_list ?z_max ?z_range ?z_reversed ?z_sorted ?z_sum ?z_tuple ?z_zip
    (case a_Order => k_is)
    (case pg_Order => k_is)
    (case hd_Order => k_is)
    (case po_Order => k_is)
    (case sa_Order => k_is)
    (case mk_Order => k_is)
    (case in_Order => k_is)
    (case kc_Order => k_is)
    (case a_Degrees => k_is)
    (case pg_Degrees => k_is)
    (case hd_Degrees => k_is)
    (case po_Degrees => k_is)
    (case sa_Degrees => k_is)
    (case mk_Degrees => k_is)
    (case in_Degrees => k_is)
    (case kc_Degrees => k_is)
    (case a_Tails => k_is)
    (case pg_Tails => k_is)
    (case hd_Tails => k_is)
    (case po_Tails => k_is)
    (case sa_Tails => k_is)
    (case mk_Tails => k_is)
    (case in_Tails => k_is)
    (case kc_Tails => k_is)
    (case a_Weights => k_is)
    (case pg_Weights => k_is)
    (case hd_Weights => k_is)
    (case po_Weights => k_is)
    (case sa_Weights => k_is)
    (case mk_Weights => k_is)
    (case kc_Weights => k_is)
    (case na_Weights_weights => k_is)
    (case a_0 => k_is)
    (case l_0 => k_is)
    (case c_0 => k_is)
    (case k_0 => k_is)
    (case a_1_Order => k_is)
    (case i_1 => k_is)
    (case bg_1 => k_is)
    (case bt_1 => k_is)
    (case l_1 => k_is)
    (case c_1 => k_is)
    (case k_1 => k_is)
    (case a_2_Degrees => k_is)
    (case i_2 => k_is)
    (case bg_2 => k_is)
    (case bt_2 => k_is)
    (case l_2 => k_is)
    (case c_2 => k_is)
    (case k_2 => k_is)
    (case a_3_Tails => k_is)
    (case i_3 => k_is)
    (case bg_3 => k_is)
    (case bt_3 => k_is)
    (case l_3 => k_is)
    (case c_3 => k_is)
    (case k_3 => k_is)
    (case a_4_Weights => k_is)
    (case i_4 => k_is)
    (case l_4 => k_is)
    (case c_4 => k_is)
    (case k_4 => k_is)
    (case a_5_Weights => k_is)
    (case i_5 => k_is)
    (case bg_5 => k_is)
    (case bt_5 => k_is)
    (case l_5 => k_is)
    (case c_5 => k_is)
    (case k_5 => k_is)
    (case a_6_Degrees => k_is)
    (case a_6_Order => k_is)
    (case a_6_Tails => k_is)
    (case a_6_Weights => k_is)
    (case i_6 => k_is)
    (case l_6 => k_is)
    (case c_6 => k_is)
    (case k_6 => k_is)
    (case a_7_Degrees => k_is)
    (case a_7_Order => k_is)
    (case a_7_Tails => k_is)
    (case a_7_Weights => k_is)
    (case i_7 => k_is)
    (case l_7 => k_is)
    (case c_7 => k_is)
    (case k_7 => k_is)
    (case a_8_Degrees => k_is)
    (case a_8_Order => k_is)
    (case a_8_Tails => k_is)
    (case a_8_Weights => k_is)
    (case i_8 => k_is)
    (case l_8 => k_is)
    (case c_8 => k_is)
    (case k_8 => k_is)
    (case a_9_Degrees => k_is)
    (case a_9_Order => k_is)
    (case a_9_Tails => k_is)
    (case i_9 => k_is)
    (case l_9 => k_is)
    (case c_9 => k_is)
    (case k_9 => k_is)
    (case a_10_Weights => k_is)
    (case i_10 => k_is)
    (case l_10 => k_is)
    (case c_10 => k_is)
    (case k_10 => k_is)
    (case a_11 => k_is)
    (case l_11 => k_is)
    (case c_11 => k_is)
    (case k_11 => k_is)
    (case a_12 => k_is)
    (case l_12 => k_is)
    (case c_12 => k_is)
    (case k_12 => k_is)
    (case a_13 => k_is)
    (case l_13 => k_is)
    (case c_13 => k_is)
    (case k_13 => k_is)
    (case a_14 => k_is)
    (case l_14 => k_is)
    (case c_14 => k_is)
    (case k_14 => k_is)
    (case a_15 => k_is)
    (case l_15 => k_is)
    (case c_15 => k_is)
    (case k_15 => k_is)
    (case a_16 => k_is)
    (case l_16 => k_is)
    (case c_16 => k_is)
    (case k_16 => k_is)
    (case a_17 => k_is)
    (case l_17 => k_is)
    (case c_17 => k_is)
    (case k_17 => k_is)
    (case a_18 => k_is)
    (case l_18 => k_is)
    (case c_18 => k_is)
    (case k_18 => k_is)
    (case a_19 => k_is)
    (case l_19 => k_is)
    (case c_19 => k_is)
    (case k_19 => k_is)
    (case a_20 => k_is)
    (case l_20 => k_is)
    (case c_20 => k_is)
    (case k_20 => k_is)
    (case a_21 => k_is)
    (case l_21 => k_is)
    (case c_21 => k_is)
    (case k_21 => k_is)
    (case a_NoOrder => k_is)
    (case FB_NoOrder => exact PySem.F.excBase_ValueError)
    (case xE_NoOrder => k_exc)
    (case xm_NoOrder => kts_exm)
    (case a_NoTerm => k_is)
    (case FB_NoTerm => exact PySem.F.excBase_ValueError)
    (case xE_NoTerm => k_exc)
    (case xm_NoTerm => kts_exm)
    (case q_kbb => kit_is)
    (case q_kii => kit_is)
    (case q_kib => kit_is)
    (case q_ktt => kit_is)
    (case q_kll => kit_is)
    (case q_kio_Order => kit_is)
    (case q_kio_Degrees => kit_is)
    (case q_kio_Tails => kit_is)
    (case q_kio_Weights => kit_is)
    (case q_isg => k_is)
    (case q_ist => k_is)
    (case q_isc_Order => k_is)
    (case q_ism_Order => k_is)
    (case q_isc_Degrees => k_is)
    (case q_ism_Degrees => k_is)
    (case q_isc_Tails => k_is)
    (case q_ism_Tails => k_is)
    (case q_isc_Weights => k_is)
    (case q_ism_Weights => k_is)
    (case z_any => k_is)
    (case z_bool => k_is)
    (case z_int => k_is)
    (case z_isinstance => k_is)
    (case z_len => k_is)
    (case z_list => k_is)
    (case z_max => k_is)
    (case z_range => k_is)
    (case z_reversed => k_is)
    (case z_sorted => k_is)
    (case z_sum => k_is)
    (case z_tuple => k_is)
    (case z_zip => k_is)
#print axioms PySem.Challenge.cw_idealroom_k05_orders_rank_holds
