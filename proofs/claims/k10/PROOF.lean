import PyProof.Rows.All
import Wide.All
import OpenK.AllK
import Wide.FinOn
import Lean
import PyProof.EqAt
import PyProof.EqKinds
import PyProof.TupleCall
import PySem.Challenge.RW_idealroom_k10_values_go_along
import PySem.Challenge.RW_idealroom_k10_values_go_along
set_option Elab.async false
set_option linter.all false
set_option maxRecDepth 100000
namespace L2
open PySem PySem.Spec PyProof.Rows
abbrev Key := Sum Int Str
def keyIs : Key → Value → Bool
  | .inl k, v => Value.isInt k v
  | .inr x, v => Value.isStrOf x v
def keyH (w : World) : Key → Int
  | .inl k => hashInt k
  | .inr x => hashStr w x
theorem keyIs_shape : ∀ {k : Key} {v : Value}, keyIs k v = true → (∃ i t, k = Sum.inl i ∧ v = Value.int i t) ∨ (∃ x t, k = Sum.inr x ∧ v = Value.str x t)
  | .inl i, v, h => by
    obtain ⟨t, e⟩ := Value.isInt_shape (k := i) (v := v) h
    exact .inl ⟨i, t, rfl, e⟩
  | .inr x, v, h => by
    obtain ⟨t, e⟩ := Value.isStrOf_shape (x := x) (v := v) h
    exact .inr ⟨x, t, rfl, e⟩
theorem keyIs_int (i : Int) (t : Tok) : keyIs (.inl i) (.int i t) = true := by simp [keyIs, Value.isInt]
theorem keyIs_str (x : Str) (t : Tok) : keyIs (.inr x) (.str x t) = true := by simp [keyIs, Value.isStrOf]
theorem key_ll (a b : Int) : decide ((Sum.inl a : Key) = Sum.inl b) = (a == b) := by
  by_cases e : a = b
  · subst e; simp
  · have h : ¬ (Sum.inl a : Key) = Sum.inl b := fun q => e (Sum.inl.inj q)
    rw [decide_eq_false h]
    exact (beq_eq_false_iff_ne.mpr e).symm
theorem key_rr (a b : Str) : decide ((Sum.inr a : Key) = Sum.inr b) = decide (a = b) := by
  by_cases e : a = b
  · subst e; simp
  · have h : ¬ (Sum.inr a : Key) = Sum.inr b := fun q => e (Sum.inr.inj q)
    rw [decide_eq_false h, decide_eq_false e]
theorem key_lr (a : Int) (b : Str) : decide ((Sum.inl a : Key) = Sum.inr b) = false := decide_eq_false (fun q => nomatch q)
theorem key_rl (a : Str) (b : Int) : decide ((Sum.inr a : Key) = Sum.inl b) = false := decide_eq_false (fun q => nomatch q)
def mixKind (prog : Program) (w : World) : PySem.KeyKind prog w Key where
  is := keyIs
  hash := keyH w
  inj := fun v a b ha hb => by
    rcases keyIs_shape ha with ⟨i, t, rfl, rfl⟩ | ⟨x, t, rfl, rfl⟩
    · rcases keyIs_shape hb with ⟨j, u, rfl, e⟩ | ⟨y, u, rfl, e⟩
      · injection e with e1 _; rw [e1]
      · exact nomatch e
    · rcases keyIs_shape hb with ⟨j, u, rfl, e⟩ | ⟨y, u, rfl, e⟩
      · exact nomatch e
      · injection e with e1 _; rw [e1]
  byValue := fun k v h => by
    rcases keyIs_shape h with ⟨i, t, rfl, rfl⟩ | ⟨x, t, rfl, rfl⟩ <;> rfl
  pyHash := fun hv h => by
    rcases keyIs_shape hv with ⟨i, t, rfl, rfl⟩ | ⟨x, t, rfl, rfl⟩
    · exact wpAny_pyHash_int h
    · exact wpAny_pyHash_str h
  eqBool := fun hu hv h => by
    rcases keyIs_shape hu with ⟨i, t, rfl, rfl⟩ | ⟨x, t, rfl, rfl⟩
    · rcases keyIs_shape hv with ⟨j, u, rfl, rfl⟩ | ⟨y, u, rfl, rfl⟩
      · rw [key_ll] at h; exact wpAny_eqBool_int h
      · rw [key_lr] at h; exact SeqAt.EqAt.int_str i t y u _ _ _ _ h
    · rcases keyIs_shape hv with ⟨j, u, rfl, rfl⟩ | ⟨y, u, rfl, rfl⟩
      · rw [key_rl] at h; exact SeqAt.EqAt.str_int x t j u _ _ _ _ h
      · rw [key_rr] at h; exact wpAny_eqBool_str h
  «strs» := fun k x t v h => by
    rcases keyIs_shape h with ⟨i, u, rfl, e⟩ | ⟨y, u, rfl, e⟩
    · exact nomatch e
    · injection e with e1 _
      subst e1
      cases v <;> rfl
theorem mixKind_int (prog : Program) (w : World) (i : Int) (t : Tok) : (mixKind prog w).is (.inl i) (.int i t) = true := keyIs_int i t
theorem mixKind_str (prog : Program) (w : World) (x : Str) (t : Tok) : (mixKind prog w).is (.inr x) (.str x t) = true := keyIs_str x t
end L2
namespace L2
open PySem PySem.Spec PyProof.Rows
inductive V where
  | non | bl (b : Bool) | int (i : Int) | str (x : Str) | byt (b : Array UInt8) | flt (b : UInt64) | ref (a : Addr) | ty (n : String)
  deriving DecidableEq
def RelV : V → Value → Prop
  | .non, u => u = Value.none
  | .bl b, u => u = Value.bool b
  | .int i, u => ∃ t, u = Value.int i t
  | .str x, u => ∃ t, u = Value.str x t
  | .byt b, u => ∃ t, u = Value.bytes b t
  | .flt b, u => ∃ t, u = Value.float b t
  | .ref a, u => u = Value.ref a
  | .ty n, u => u = Value.type n
abbrev Vals : List V → List Value → Prop := Paired RelV
theorem Vals.length {xs : List V} {us : List Value} (r : Vals xs us) : xs.length = us.length := Paired.length r
theorem Vals.get : ∀ {xs : List V} {us : List Value} {i : Nat} {x : V}, Vals xs us → xs[i]? = some x → ∃ u, us[i]? = some u ∧ RelV x u
  | _, _, _, _, .nil, e => by simp at e
  | _, _, 0, _, .cons r _, e => by simp at e; subst e; exact ⟨_, rfl, r⟩
  | _, _, i + 1, x, .cons _ t, e => by
    obtain ⟨u, h1, h2⟩ := Vals.get (i := i) (x := x) t (by simpa using e)
    exact ⟨u, by simpa using h1, h2⟩
theorem Vals.append : ∀ {xs ys : List V} {us ws : List Value}, Vals xs us → Vals ys ws → Vals (xs ++ ys) (us ++ ws)
  | _, _, _, _, .nil, s => s
  | _, _, _, _, .cons r t, s => .cons r (Vals.append t s)
theorem Vals.take : ∀ {xs : List V} {us : List Value} (n : Nat), Vals xs us → Vals (xs.take n) (us.take n)
  | _, _, 0, _ => .nil
  | _, _, _ + 1, .nil => .nil
  | _, _, n + 1, .cons r t => .cons r (Vals.take n t)
theorem Vals.drop : ∀ {xs : List V} {us : List Value} (n : Nat), Vals xs us → Vals (xs.drop n) (us.drop n)
  | _, _, 0, r => r
  | _, _, _ + 1, .nil => .nil
  | _, _, n + 1, .cons _ t => Vals.drop n t
def RelO : Option V → Option Value → Prop
  | some v, some u => RelV v u
  | none, none => True
  | _, _ => False
def KV {κ : Type} : List (κ × V) → List (κ × Value) → Prop := Paired fun (p : κ × V) (q : κ × Value) => p.1 = q.1 ∧ RelV p.2 q.2
def kV : Key → V
  | .inl i => .int i
  | .inr x => .str x
inductive HO where
    | lst (xs : List V)
    | tup (xs : List V)
    | dK (kvs : List (Key × V)) | dT (kvs : List (List Key × V))
    | set (S : Int → Bool) (n : Nat)
    | ins (C dx : Addr) (fs : List (Str × V))
    | own (x : Addr)
    | xd (fs : List (Str × V))
    | met (f x : Addr)
    | rng (lo hi : Int)
    | frz (o : Obj) (u : HO)
    | tbl (ps : Array Value)
    | ext (φ : Heap → Prop)
abbrev Hp := Addr → Option HO
def upd (H : Hp) (a : Addr) (o : HO) : Hp := fun b => if b = a then some o else H b
theorem upd_same {H : Hp} {a : Addr} {o : HO} : upd H a o a = some o := by unfold upd; rw [if_pos rfl]
theorem upd_ne {H : Hp} {a b : Addr} {o : HO} (h : b ≠ a) : upd H a o b = H b := by unfold upd; rw [if_neg h]
theorem ne_of {H : Hp} {a b : Addr} {o u : HO} (h : H a = some o) (h' : H b = some u) (d : o ≠ u) : a ≠ b := by
  intro e; subst e; rw [h] at h'; exact d (Option.some.inj h')
theorem ne_of_none {H : Hp} {a b : Addr} {o : HO} (h : H a = some o) (h' : H b = none) : a ≠ b := by
  intro e; subst e; rw [h] at h'; cases h'
section
variable (P : Program) (w : World)
def ObjOk (H : Hp) (h : Heap) (a : Addr) : HO → Prop
  | .lst xs => xs.length ≤ sizeLine ∧ ∃ (its : List Value) (n : Nat), Vals xs its ∧ h.get? a = some { cls := .type "list", data := .seq its.toArray n }
  | .tup xs => xs.length ≤ sizeLine ∧ ∃ its : List Value, Vals xs its ∧ IsTup h a its.toArray
  | .dK kvs => kvs.length ≤ sizeLine ∧ (a == sysModules) = false ∧ ∃ vs, KV kvs vs ∧ h.DictOf (mixKind P w) a vs
  | .dT kvs => kvs.length ≤ sizeLine ∧ (a == sysModules) = false ∧ ∃ xs : List (List Key × Addr × Value),
      Paired (fun (p : List Key × V) (q : List Key × Addr × Value) => p.1 = q.1 ∧ H q.2.1 = some (.tup (p.1.map kV)) ∧ RelV p.2 q.2.2) kvs xs ∧
      ∃ o es ep, h.get? a = some o ∧ o.ExactDict ∧ o.data = .dict es ep ∧ es.toList = xs.map (entryOfKey (tupleKind (mixKind P w))) ∧ (xs.map (·.1)).Nodup
  | .set S n => h.SetOf (intKind P w) a S n
  | .ins C dx fs => H dx = some (.own a) ∧ fs.length ≤ 1000 ∧ dx ≠ a ∧ h.get? a = some (PySem.W.instObj C dx) ∧
      ∃ mA, h.Ns1 dx mA ∧ (∀ f, RelO (fs.lookup f) (mA f)) ∧ PySem.Within mA (fs.map (·.1))
  | .own _ => ∃ o, h.get? a = some o
  | .xd fs => ∃ mA, h.Ns1 a mA ∧ ∀ f, RelO (fs.lookup f) (mA f)
  | .rng lo hi => ∃ t u v, h.get? a = some { cls := .type "range", data := .fields #[.int lo t, .int hi u, .int 1 v] }
  | .frz o u => h.get? a = some o ∧ ObjOk H h a u
  | .tbl ps => h.get? a = some { cls := .none, data := .fields ps }
  | .met f x => h.get? a = some (PySem.W.methodObj (.ref f) (.ref x))
  | .ext φ => φ h ∧ (∃ o, h.get? a = some o) ∧ ∀ h1 h2 : Heap, φ h1 → (∀ o, h1.get? a = some o → h2.get? a = some o) → φ h2
def HOk (H : Hp) (h : Heap) : Prop := ∀ a o, H a = some o → ObjOk P w H h a o
end
section
variable {P : Program} {w : World} {H H' : Hp} {h h' : Heap} {a : Addr} {o : HO}
theorem ObjOk.lt (x : ObjOk P w H h a o) : a < h.objs.size := by
  cases o with
  | lst xs => obtain ⟨_, _, _, _, e⟩ := x; exact Heap.lt_size e
  | tup xs => obtain ⟨_, _, _, p⟩ := x; exact p.lt
  | dK kvs => obtain ⟨_, _, _, _, o, _, _, e, _⟩ := x; exact Heap.lt_size e
  | dT kvs => obtain ⟨_, _, _, _, o, _, _, e, _⟩ := x; exact Heap.lt_size e
  | set S n => obtain ⟨o, _, _, _, e, _⟩ := x; exact Heap.lt_size e
  | ins C dx fs => obtain ⟨_, _, _, e, _⟩ := x; exact Heap.lt_size e
  | own y => obtain ⟨_, e⟩ := x; exact Heap.lt_size e
  | xd fs => obtain ⟨_, ⟨_, _, _, e, _⟩, _⟩ := x; exact Heap.lt_size e
  | rng lo hi => obtain ⟨_, _, _, e⟩ := x; exact Heap.lt_size e
  | frz ob u => obtain ⟨e, _⟩ := x; exact Heap.lt_size e
  | tbl ps => exact Heap.lt_size (show h.get? a = some _ from x)
  | met f y => exact Heap.lt_size (show h.get? a = some _ from x)
  | ext φ => obtain ⟨_, ⟨_, e⟩, _⟩ := x; exact Heap.lt_size e
theorem Paired.mapP {α β : Type} {F G : α → β → Prop} : ∀ {l₁ : List α} {l₂ : List β}, Paired F l₁ l₂ → (∀ a b, F a b → G a b) → Paired G l₁ l₂
  | _, _, .nil, _ => .nil
  | _, _, .cons r t, f => .cons (f _ _ r) (Paired.mapP t f)
theorem Paired.imp' {α β : Type} {F G : α → β → Prop} (f : ∀ a b, F a b → G a b) {l₁ : List α} {l₂ : List β} (r : Paired F l₁ l₂) : Paired G l₁ l₂ := Paired.mapP r f
theorem ObjOk.stay (x : ObjOk P w H h a o) (k : ∀ b u, (b = a ∨ H b = some (.own a)) → h.get? b = some u → h'.get? b = some u)
    (ho : ∀ b, H b = some (.own a) → H' b = some (.own a)) (ht : ∀ b xs, H b = some (.tup xs) → H' b = some (.tup xs)) : ObjOk P w H' h' a o := by
  induction o with
  | lst xs => obtain ⟨z, its, n, r, e⟩ := x; exact ⟨z, its, n, r, k _ _ (.inl rfl) e⟩
  | tup xs => obtain ⟨z, its, r, ob, e, c⟩ := x; exact ⟨z, its, r, ob, k _ _ (.inl rfl) e, c⟩
  | dK kvs => obtain ⟨z, y, vs, r, ob, es, ep, e, c⟩ := x; exact ⟨z, y, vs, r, ob, es, ep, k _ _ (.inl rfl) e, c⟩
  | dT kvs =>
    obtain ⟨z, y, xs, r, ob, es, ep, e, c⟩ := x
    exact ⟨z, y, xs, Paired.mapP r fun p q z => ⟨z.1, ht _ _ z.2.1, z.2.2⟩, ob, es, ep, k _ _ (.inl rfl) e, c⟩
  | set S n => obtain ⟨ob, es, ep, t, e, c⟩ := x; exact ⟨ob, es, ep, t, k _ _ (.inl rfl) e, c⟩
  | ins C dx fs =>
    obtain ⟨d, z, ne, e, mA, ⟨od, es, ep, e2, c⟩, r⟩ := x
    exact ⟨ho _ d, z, ne, k _ _ (.inl rfl) e, mA, ⟨od, es, ep, k _ _ (.inr d) e2, c⟩, r⟩
  | own y => obtain ⟨ob, e⟩ := x; exact ⟨ob, k _ _ (.inl rfl) e⟩
  | xd fs => obtain ⟨mA, ⟨od, es, ep, e, c⟩, r⟩ := x; exact ⟨mA, ⟨od, es, ep, k _ _ (.inl rfl) e, c⟩, r⟩
  | rng lo hi => obtain ⟨t, u, v, e⟩ := x; exact ⟨t, u, v, k _ _ (.inl rfl) e⟩
  | frz ob u ih => obtain ⟨e, q⟩ := x; exact ⟨k _ _ (.inl rfl) e, ih q⟩
  | tbl ps =>
    have e : h.get? a = some { cls := .none, data := .fields ps } := x
    show h'.get? a = some { cls := .none, data := .fields ps }
    exact k a _ (.inl rfl) e
  | met f y =>
    have e : h.get? a = some (PySem.W.methodObj (.ref f) (.ref y)) := x
    show h'.get? a = some (PySem.W.methodObj (.ref f) (.ref y))
    exact k a _ (.inl rfl) e
  | ext φ => obtain ⟨p, ⟨o, e⟩, st⟩ := x; exact ⟨st _ _ p fun o q => k _ _ (.inl rfl) q, ⟨o, k _ _ (.inl rfl) e⟩, st⟩
theorem HOk.lt (x : HOk P w H h) (e : H a = some o) : a < h.objs.size := (x a o e).lt
theorem HOk.fresh (x : HOk P w H h) (e : h.objs.size ≤ a) : H a = none := by
  cases q : H a with
  | none => rfl
  | some u => exact absurd (Nat.lt_of_lt_of_le (x.lt q) e) (Nat.lt_irrefl _)
theorem HOk.kept (x : HOk P w H h) (k : ∀ b u, h.get? b = some u → h'.get? b = some u) : HOk P w H h' := fun a o e =>
  (x a o e).stay (fun b u _ q => k b u q) (fun _ q => q) fun _ _ q => q
theorem HOk.laid (x : HOk P w H h) (k : ∀ b u, h.get? b = some u → h'.get? b = some u) (hp : h.objs.size ≤ a) (new : ObjOk P w (upd H a o) h' a o) : HOk P w (upd H a o) h' := fun b u e => by
  have hn := x.fresh hp
  by_cases hb : b = a
  · subst hb; rw [upd_same] at e; cases e; exact new
  · rw [upd_ne hb] at e
    exact (x b u e).stay (fun c v _ q => k c v q) (fun c q => by rw [upd_ne (ne_of_none q hn)]; exact q) fun c xs q => by rw [upd_ne (ne_of_none q hn)]; exact q
end
def Rd (H : Hp) (a : Addr) (u : HO) : Prop := H a = some u ∨ ∃ o, H a = some (.frz o u)
theorem Rd.ok {P : Program} {w : World} {H : Hp} {h : Heap} {a : Addr} {u : HO} (r : Rd H a u) (x : HOk P w H h) : ObjOk P w H h a u := by
  rcases r with r | ⟨o, r⟩
  · exact x a u r
  · obtain ⟨_, q⟩ := x a _ r
    exact q
def Mut : Option HO → Prop
  | some (.lst _) => True
  | some (.dK _) => True
  | some (.dT _) => True
  | some (.set _ _) => True
  | some (.ins _ _ _) => True
  | some (.ext _) => True
  | _ => False
section
variable {P : Program} {w : World} {H : Hp} {h h' : Heap} {x e : Addr} {o' : HO}
theorem HOk.write (ok : HOk P w H h) (mu : Mut (H x)) (he : e = x ∨ H e = some (.own x)) (k : ∀ b u, b ≠ e → h.get? b = some u → h'.get? b = some u) (heo : ∃ u, h'.get? e = some u)
    (new : ObjOk P w (upd H x o') h' x o') : HOk P w (upd H x o') h' := fun b u q => by
  have nown : ∀ c y, H c = some (.own y) → c ≠ x := fun c y r z => by subst z; rw [r] at mu; exact mu
  have ntup : ∀ c xs, H c = some (.tup xs) → c ≠ x := fun c xs r z => by subst z; rw [r] at mu; exact mu
  by_cases hb : b = x
  · subst hb; rw [upd_same] at q; cases q; exact new
  · rw [upd_ne hb] at q
    by_cases hbe : b = e
    · have q' : H b = some (.own x) := by
        rcases he with z | z
        · exact absurd (hbe.trans z) hb
        · rw [hbe]; exact z
      rw [q] at q'; cases q'
      obtain ⟨v, hv⟩ := heo
      exact ⟨v, by rw [hbe]; exact hv⟩
    · refine (ok b u q).stay (fun c v hc r => k c v ?_ r) (fun c r => by rw [upd_ne (nown c b r)]; exact r) fun c xs r => by rw [upd_ne (ntup c xs r)]; exact r
      rcases hc with rfl | hc
      · exact hbe
      · rintro rfl
        rcases he with z | z
        · exact nown c b hc z
        · rw [hc] at z; cases z; exact hb rfl
end
structure Un (fs ex : List Addr) (H H' : Hp) (h h' : Heap) : Prop where
  keep : ∀ b o, h.get? b = some o → H b = none → b ∉ fs → b ∉ ex → h'.get? b = some o
  slot : ∀ b o, h.get? b = some o → H b = none → b ∈ fs → b ∉ ex → ∃ sl, h'.get? b = some { o with slots := sl }
  free : ∀ b o, h.get? b = some o → H b = none → b ∉ ex → H' b = none
  there : ∀ b o, h.get? b = some o → b ∉ ex → ∃ o', h'.get? b = some o'
  tups : ∀ b xs, H b = some (.tup xs) → H' b = some (.tup xs)
  frzs : ∀ b o u, H b = some (.frz o u) → H' b = some (.frz o u)
  tbls : ∀ b ps, H b = some (.tbl ps) → ∃ more, H' b = some (.tbl (ps ++ more))
section
variable {fs fs' ex ex' : List Addr} {H H1 H2 : Hp} {h h1 h2 h' : Heap} {a x e : Addr} {o : HO}
theorem Un.any (u : Un fs ex H H1 h h1) {b : Addr} {ob : Obj} (q : h.get? b = some ob) (n : H b = none) (hx : b ∉ ex) : ∃ sl, h1.get? b = some { ob with slots := sl } := by
  by_cases hb : b ∈ fs
  · exact u.slot b ob q n hb hx
  · exact ⟨ob.slots, u.keep b ob q n hb hx⟩
theorem Un.kept (k : ∀ b u, h.get? b = some u → h'.get? b = some u) : Un fs ex H H h h' :=
  ⟨fun b ob q _ _ _ => k b ob q, fun b ob q _ _ _ => ⟨ob.slots, k b ob q⟩, fun _ _ _ n _ => n, fun b ob q _ => ⟨ob, k b ob q⟩, fun _ _ q => q, fun _ _ _ q => q, fun _ ps q => ⟨#[], by rw [q]; simp⟩⟩
theorem Un.refl : Un fs ex H H h h := Un.kept fun _ _ q => q
theorem Un.laid (k : ∀ b u, h.get? b = some u → h'.get? b = some u) (hp : h.objs.size ≤ a) (hn : H a = none) : Un fs ex H (upd H a o) h h' where
  keep := fun b u q _ _ _ => k b u q
  slot := fun b u q _ _ _ => ⟨u.slots, k b u q⟩
  free := fun b u q n _ => by rw [upd_ne (Nat.ne_of_lt (Nat.lt_of_lt_of_le (Heap.lt_size q) hp))]; exact n
  there := fun b u q _ => ⟨u, k b u q⟩
  tups := fun b xs q => by rw [upd_ne (ne_of_none q hn)]; exact q
  frzs := fun b u xs q => by rw [upd_ne (ne_of_none q hn)]; exact q
  tbls := fun b ps q => ⟨#[], by rw [upd_ne (ne_of_none q hn), q]; simp⟩
theorem Un.write (mu : Mut (H x)) (he : e = x ∨ H e = some (.own x)) (k : ∀ b u, b ≠ e → h.get? b = some u → h'.get? b = some u) (heo : ∃ u, h'.get? e = some u) : Un fs ex H (upd H x o) h h' := by
  have hx : ∀ b, H b = none → b ≠ x := fun b n z => by subst z; rw [n] at mu; exact mu
  have hb : ∀ b, H b = none → b ≠ e := fun b n z => by
    subst z
    rcases he with r | r
    · exact hx b n r
    · rw [n] at r; cases r
  have hm : ∀ b u, H b = some u → ¬ Mut (some u) → b ≠ x := fun b u q nm z => by subst z; rw [q] at mu; exact nm mu
  refine ⟨fun b u q n _ _ => k b u (hb b n) q, fun b u q n _ _ => ⟨u.slots, k b u (hb b n) q⟩, fun b u q n _ => by rw [upd_ne (hx b n)]; exact n, fun b u q _ => ?_,
    fun b xs q => by rw [upd_ne (hm b _ q fun z => z)]; exact q, fun b u xs q => by rw [upd_ne (hm b _ q fun z => z)]; exact q, fun b ps q => ⟨#[], by rw [upd_ne (hm b _ q fun z => z), q]; simp⟩⟩
  by_cases hbe : b = e
  · subst hbe; exact heo
  · exact ⟨u, k b u hbe q⟩
end
def trk (h : Heap) (H : Hp) : List Addr := (List.range h.objs.size).filter fun a => (H a).isSome
def hidT (h : Heap) (H : Hp) : Heap := PySem.W.hideAll h (trk h H)
theorem hidT_size (h : Heap) (H : Hp) : (hidT h H).objs.size = h.objs.size := PySem.W.hideAll_size _ _
theorem hidT_get {h : Heap} {H : Hp} {b : Addr} {o : Obj} (e : h.get? b = some o) (n : H b = none) : (hidT h H).get? b = some o :=
  PySem.W.hideAll_get _ e fun hm => by
    have q : (H b).isSome = true := (List.mem_filter.mp hm).2
    rw [n] at q; simp at q
theorem of_hidT {h : Heap} {H : Hp} {b : Addr} {o : Obj} (e : (hidT h H).get? b = some o) : h.get? b = some o ∧ H b = none := by
  have e' : h.get? b = some o := PySem.W.of_hideAll (trk h H) e
  refine ⟨e', ?_⟩
  cases q : H b with
  | none => rfl
  | some x =>
    have hm : b ∈ trk h H := List.mem_filter.mpr ⟨List.mem_range.mpr (Heap.lt_size e'), by simp [q]⟩
    have z : (hidT h H).get? b = none := PySem.W.hideAll_none (trk h H) hm
    rw [z] at e; cases e
def allNews (g h : Heap) (L : Addr) : List (Addr × Obj) := (List.range h.objs.size).filterMap fun a => if a = L ∨ (g.get? a).isSome = true then none else (h.get? a).map fun o => (a, o)
def rest (g h : Heap) (L d : Addr) : List (Addr × Obj) := (allNews g h L).filter fun p => decide (p.1 ≠ d)
end L2
namespace L2
open PySem PySem.Spec PyProof.Rows
structure Mod (K : PySem.W.Frag) (mg : Str → Option Value) (base : Heap) : Prop where
  kin : K.In base
  glob : base.Ns mainGlobals mg
  blt : ∃ mb, base.Ns builtinsNs mb ∧ ∀ x : Str, x ≠ "__name__" → mb x = bootBuiltins x
  nolimit : base.NoLimit
structure Cx where
  prog : Program
  w : World
  K : PySem.W.Frag
  mg : Str → Option Value
  base : Heap
  A : Around
  N : List Str
  s₀ : Shared
  H₀ : Hp
  env : Env
  outer : List Env
  stack : List Env
  ex : List Addr
  fn : Str → Bool
  calm : Bool
  pn : List (Addr × Obj)
  xe : Value → Shared → Prop
def frs (l : List Env) : List Addr := l.filterMap (·.frame)
abbrev Cx.fs (X : Cx) : List Addr := frs X.outer
def Vis (sc : Scope) (x : Str) : Prop := sc.names.lookup x = some .local ∨ sc.names.lookup x = some .cell ∨ sc.names.lookup x = some .free
def Loc (sc : Scope) (x : Str) : Prop := sc.names.lookup x = some .local ∨ sc.names.lookup x = some .cell
def Look (env : Env) (h : Heap) (m : Str → Option Value) (x : Str) (u : Value) : Prop :=
  (env.kindOf x = some .local ∧ m x = some u) ∨ ((env.kindOf x = some .cell ∨ env.kindOf x = some .free) ∧ ∃ c, env.cells.lookup x = some c ∧ h.IsCell c (some u))
structure Cx.Ok (X : Cx) : Prop where
  mod : Mod X.K X.mg X.base
  kind : X.env.scope.kind = .function
  glob : X.env.globals = mainGlobals
  blt : X.env.builtins = builtinsNs
  above : X.s₀.heap.objs.size ≤ X.env.locals
  inj : ∀ x y c, X.env.cells.lookup x = some c → X.env.cells.lookup y = some c → x = y
  has : ∀ x, (X.env.kindOf x = some .cell ∨ X.env.kindOf x = some .free) → ∃ c, X.env.cells.lookup x = some c
  cab : ∀ x c, X.fn x = true → X.env.cells.lookup x = some c → X.s₀.heap.objs.size ≤ c
  hd : X.calm = true → X.A.handled = none
  frames : X.A.frames = some X.stack
  stk : X.stack = X.outer ∨ (X.stack = X.env :: X.outer ∧ X.env.frame = some X.env.locals)
  exf : ∀ b ∈ X.ex, b ≠ X.env.locals ∧ ∀ x c, X.env.cells.lookup x = some c → c ≠ b
  bs : ∀ b o, X.base.get? b = some o → X.s₀.heap.get? b = some o ∧ X.H₀ b = none
  bsz : X.base.objs.size ≤ X.s₀.heap.objs.size
  noex : ∀ b o, X.base.get? b = some o → b ∉ X.ex
  exfs : ∀ b ∈ X.ex, b ∉ X.fs
  funs : X.s₀.heap.FunFrames X.base X.outer
  frf : ∀ b ∈ X.fs, X.H₀ b = none
structure Inv (X : Cx) (pins : List (Addr × Obj)) (σ : List (Option V)) (H : Hp) (s : Shared) : Prop where
  ok : X.Ok
  os : s.os = X.s₀.os
  bare : AllBare s.gens
  base : Un X.fs X.ex X.H₀ H X.s₀.heap s.heap
  loc : ∃ m, s.heap.Ns X.env.locals m ∧ ∀ (i : Nat) (x : Str) (v : V), X.N[i]? = some x → σ[i]? = some (some v) → Vis X.env.scope x → ∃ u, RelV v u ∧ Look X.env s.heap m x u
  cell : ∀ x c, X.env.cells.lookup x = some c → ∃ v, s.heap.IsCell c v
  free : H X.env.locals = none
  freeC : ∀ x c, X.env.cells.lookup x = some c → H c = none
  pin : ∀ p ∈ X.pn ++ pins, s.heap.get? p.1 = some p.2 ∧ H p.1 = none ∧ p.1 ≠ X.env.locals ∧ p.1 ∉ X.fs ∧ ∀ v, p.2.data ≠ .cell v
  hok : HOk X.prog X.w H s.heap
  len : σ.length = X.N.length
section
variable {X : Cx} {pins : List (Addr × Obj)} {σ : List (Option V)} {H H' : Hp} {s : Shared} {h' : Heap}
theorem Cx.Ok.nofr (ok : X.Ok) {b : Addr} {o : Obj} (e : X.base.get? b = some o) : b ∉ X.fs := fun hb => by
  have := (ok.funs.mem hb).1
  rw [e] at this; cases this
theorem Inv.bs (I : Inv X pins σ H s) : ∀ b o, X.base.get? b = some o → s.heap.get? b = some o ∧ H b = none := fun b o e =>
  ⟨I.base.keep b o (I.ok.bs b o e).1 (I.ok.bs b o e).2 (I.ok.nofr e) (I.ok.noex b o e), I.base.free b o (I.ok.bs b o e).1 (I.ok.bs b o e).2 (I.ok.noex b o e)⟩
theorem Inv.bk (I : Inv X pins σ H s) : ∀ b o, X.base.get? b = some o → s.heap.get? b = some o := fun b o e => (I.bs b o e).1
theorem Inv.mod (I : Inv X pins σ H s) : Mod X.K X.mg X.base := I.ok.mod
theorem Inv.kIn (I : Inv X pins σ H s) : X.K.In s.heap := I.ok.mod.kin.keeps I.bk
theorem Inv.lt (I : Inv X pins σ H s) : X.env.locals < s.heap.objs.size := let ⟨_, hn, _⟩ := I.loc; hn.lt
theorem Inv.sz (I : Inv X pins σ H s) : X.s₀.heap.objs.size ≤ s.heap.objs.size := Nat.le_trans I.ok.above (Nat.le_of_lt I.lt)
theorem Inv.nofs (I : Inv X pins σ H s) {a : Addr} (h : s.heap.objs.size ≤ a) : a ∉ X.fs := fun hb => by
  obtain ⟨_, o, ho, _⟩ := I.ok.funs.mem hb
  exact absurd (Nat.lt_of_lt_of_le (Heap.lt_size ho) (Nat.le_trans I.sz h)) (Nat.lt_irrefl _)
theorem Inv.cne (I : Inv X pins σ H s) : ∀ x c, X.env.cells.lookup x = some c → c ≠ X.env.locals := fun x c e z => by
  obtain ⟨v, o, ho, hd⟩ := I.cell x c e
  obtain ⟨m, ⟨o', es, ep, ho', hd', _⟩, _⟩ := I.loc
  rw [z, ho'] at ho; cases ho; rw [hd'] at hd; cases hd
theorem Inv.funs (I : Inv X pins σ H s) : s.heap.FunFrames X.base X.outer := by
  have all : ∀ (l : List Env), (∀ b ∈ frs l, b ∈ X.fs) → X.s₀.heap.FunFrames X.base l → s.heap.FunFrames X.base l := by
    intro l
    induction l with
    | nil => intro _ _; trivial
    | cons env r ih =>
      intro hs hl
      obtain ⟨hk, ⟨L, o, hf, hn, ho, hd⟩, hr⟩ := hl
      have hL : L ∈ X.fs := hs L (by unfold frs; rw [List.filterMap_cons, hf]; exact List.mem_cons_self)
      obtain ⟨sl, e⟩ := I.base.slot L o ho (I.ok.frf L hL) hL fun z => I.ok.exfs L z hL
      exact ⟨hk, ⟨L, _, hf, hn, e, hd⟩, ih (fun b hb => hs b (by unfold frs; rw [List.filterMap_cons, hf]; exact List.mem_cons_of_mem _ hb)) hr⟩
  exact all X.outer (fun _ hb => hb) I.ok.funs
theorem Inv.stack (I : Inv X pins σ H s) : s.heap.FunFrames X.base X.stack := by
  rcases I.ok.stk with e | ⟨e, hf⟩
  · rw [e]; exact I.funs
  · rw [e]
    obtain ⟨m, hn, _⟩ := I.loc
    refine .cons (by rw [I.ok.kind]; decide) hf hn ?_ I.funs
    exact Heap.get?_none_of_le (Nat.le_trans I.ok.bsz I.ok.above)
theorem Inv.stkSub (I : Inv X pins σ H s) : ∀ b ∈ frs X.stack, b ∈ X.env.locals :: X.fs := fun b hb => by
  rcases I.ok.stk with e | ⟨e, hf⟩
  · rw [e] at hb; exact List.mem_cons_of_mem _ hb
  · rw [e] at hb
    unfold frs at hb
    rw [List.filterMap_cons, hf] at hb
    exact hb
theorem Inv.stkFree (I : Inv X pins σ H s) : ∀ b ∈ frs X.stack, H b = none := fun b hb => by
  rcases List.mem_cons.mp (I.stkSub b hb) with e | hb
  · rw [e]; exact I.free
  · obtain ⟨_, o, ho, _⟩ := I.ok.funs.mem hb
    exact I.base.free b o ho (I.ok.frf b hb) fun z => I.ok.exfs b z hb
theorem Inv.step {g' : Array GenState} {t' : Nat} {d' : Drawn} {ch : List Addr} (I : Inv X pins σ H s)
    (hch : ∀ b ∈ ch, (b ∈ X.ex ∨ X.s₀.heap.objs.size ≤ b) ∧ b ≠ X.env.locals ∧ (∀ x c, X.env.cells.lookup x = some c → c ≠ b) ∧ ∀ p ∈ X.pn ++ pins, p.1 ≠ b)
    (keep : ∀ b o, b ≠ X.env.locals → b ∉ X.fs → b ∉ ch → s.heap.get? b = some o → H b = none → h'.get? b = some o)
    (slot : ∀ b o, b ≠ X.env.locals → b ∈ X.fs → b ∉ ch → s.heap.get? b = some o → H b = none → ∃ sl, h'.get? b = some { o with slots := sl }) (free : ∀ b o, b ∉ ch → s.heap.get? b = some o → H b = none → H' b = none)
    (there : ∀ b o, b ∉ ch → s.heap.get? b = some o → ∃ o', h'.get? b = some o')
    (tups : ∀ b xs, H b = some (.tup xs) → H' b = some (.tup xs)) (frzs : ∀ b o u, H b = some (.frz o u) → H' b = some (.frz o u)) (tbls : ∀ b ps, H b = some (.tbl ps) → ∃ more, H' b = some (.tbl (ps ++ more)))
    (ns : ∀ m, s.heap.Ns X.env.locals m → h'.Ns X.env.locals m) (hok : HOk X.prog X.w H' h') (hg : AllBare g') :
    Inv X pins σ H' { s with heap := h', gens := g', drawn := d', toks := t' } := by
  have neL : ∀ b o, X.s₀.heap.get? b = some o → b ≠ X.env.locals := fun b o e => Nat.ne_of_lt (Nat.lt_of_lt_of_le (Heap.lt_size e) I.ok.above)
  have neC : ∀ b o, X.s₀.heap.get? b = some o → b ∉ X.ex → b ∉ ch := fun b o e hx hb => by
    rcases (hch b hb).1 with z | z
    · exact hx z
    · exact absurd (Nat.lt_of_lt_of_le (Heap.lt_size e) z) (Nat.lt_irrefl _)
  have cellK : ∀ x c, X.env.cells.lookup x = some c → ∀ v, s.heap.IsCell c v → h'.IsCell c v := fun x c e v ⟨o, ho, hd⟩ => by
    have nch : c ∉ ch := fun z => (hch c z).2.2.1 x c e rfl
    by_cases hc : c ∈ X.fs
    · obtain ⟨sl, q⟩ := slot c o (I.cne x c e) hc nch ho (I.freeC x c e)
      exact ⟨_, q, hd⟩
    · exact ⟨o, keep c o (I.cne x c e) hc nch ho (I.freeC x c e), hd⟩
  refine ⟨I.ok, I.os, hg, ⟨fun b o e n hb hx => ?_, fun b o e n hb hx => ?_, fun b o e n hx => ?_, fun b o e hx => ?_, fun b xs e => tups b xs (I.base.tups b xs e), fun b o xs e => frzs b o xs (I.base.frzs b o xs e), fun b ps e => ?_⟩, ?_, fun x c e => ?_, ?_, fun x c e => ?_, fun p hp => ?_, hok, I.len⟩
  · exact keep b o (neL b o e) hb (neC b o e hx) (I.base.keep b o e n hb hx) (I.base.free b o e n hx)
  · obtain ⟨sl, e1⟩ := I.base.slot b o e n hb hx
    obtain ⟨sl', e2⟩ := slot b _ (neL b o e) hb (neC b o e hx) e1 (I.base.free b o e n hx)
    exact ⟨sl', e2⟩
  · obtain ⟨o', e1⟩ := I.base.there b o e hx
    exact free b o' (neC b o e hx) e1 (I.base.free b o e n hx)
  · obtain ⟨o', e1⟩ := I.base.there b o e hx
    exact there b o' (neC b o e hx) e1
  · obtain ⟨m1, e1⟩ := I.base.tbls b ps e
    obtain ⟨m2, e2⟩ := tbls b _ e1
    exact ⟨m1 ++ m2, by rw [e2, Array.append_assoc]⟩
  · obtain ⟨m, hn, hl⟩ := I.loc
    refine ⟨m, ns m hn, fun i x v e1 e2 e3 => ?_⟩
    obtain ⟨u, r, l⟩ := hl i x v e1 e2 e3
    refine ⟨u, r, ?_⟩
    rcases l with l | ⟨k, c, e, z⟩
    · exact .inl l
    · exact .inr ⟨k, c, e, cellK x c e _ z⟩
  · obtain ⟨v, z⟩ := I.cell x c e
    exact ⟨v, cellK x c e v z⟩
  · obtain ⟨m, ⟨o, _, _, ho, _⟩, _⟩ := I.loc
    exact free _ o (fun z => (hch _ z).2.1 rfl) ho I.free
  · obtain ⟨v, o, ho, hd⟩ := I.cell x c e
    exact free c o (fun z => (hch c z).2.2.1 x c e rfl) ho (I.freeC x c e)
  · obtain ⟨e, n, ne, nf, d⟩ := I.pin p hp
    have nch : p.1 ∉ ch := fun z => (hch p.1 z).2.2.2 p hp rfl
    exact ⟨keep p.1 p.2 ne nf nch e n, free p.1 p.2 nch e n, ne, nf, d⟩
theorem Inv.un {t' : Nat} (I : Inv X pins σ H s) (u : Un X.fs [] H H' s.heap h') (hok : HOk X.prog X.w H' h') : Inv X pins σ H' { s with heap := h', toks := t' } := by
  obtain ⟨m, ⟨o, es, ep, ho, r⟩, _⟩ := id I.loc
  obtain ⟨sl, hL⟩ := u.any ho I.free (by simp)
  exact I.step (g' := s.gens) (d' := s.drawn) (ch := []) (fun _ z => nomatch z) (fun b o _ hb _ e n => u.keep b o e n hb (by simp)) (fun b o _ hb _ e n => u.slot b o e n hb (by simp)) (fun b o _ e n => u.free b o e n (by simp)) (fun b o _ e => u.there b o e (by simp)) u.tups u.frzs u.tbls (fun m' hm => by
    obtain ⟨o', es', ep', ho', r'⟩ := hm
    rw [ho] at ho'; cases ho'
    exact ⟨_, es', ep', hL, r'⟩) hok I.bare
theorem Inv.call {g' : Array GenState} {t' : Nat} {d' : Drawn} {ch : List Addr} (I : Inv X pins σ H s) (u : Un (frs X.stack) ch H H' s.heap h') (hok : HOk X.prog X.w H' h') (hg : AllBare g')
    (hch : ∀ b ∈ ch, (b ∈ X.ex ∨ X.s₀.heap.objs.size ≤ b) ∧ b ≠ X.env.locals ∧ (∀ x c, X.env.cells.lookup x = some c → c ≠ b) ∧ ∀ p ∈ X.pn ++ pins, p.1 ≠ b) :
    Inv X pins σ H' { s with heap := h', gens := g', drawn := d', toks := t' } := by
  obtain ⟨m, ⟨o, es, ep, ho, r⟩, _⟩ := id I.loc
  obtain ⟨sl, hL⟩ := u.any ho I.free fun z => (hch _ z).2.1 rfl
  exact I.step (ch := ch) hch (fun b o hL hb hc e n => u.keep b o e n (fun z => (List.mem_cons.mp (I.stkSub b z)).elim hL hb) hc) (fun b o _ _ hc e n => u.any e n hc) (fun b o hc e n => u.free b o e n hc) (fun b o hc e => u.there b o e hc) u.tups u.frzs u.tbls (fun m' hm => by
    obtain ⟨o', es', ep', ho', r'⟩ := hm
    rw [ho] at ho'; cases ho'
    exact ⟨_, es', ep', hL, r'⟩) hok hg
theorem Inv.turned {t' : Nat} {it : Addr} (I : Inv X pins σ H s) (k : ∀ b o, b ≠ it → s.heap.get? b = some o → h'.get? b = some o) (hn : H it = none) (hL : it ≠ X.env.locals)
    (h1 : it ∈ X.ex ∨ X.s₀.heap.objs.size ≤ it) (h2 : ∀ x c, X.env.cells.lookup x = some c → c ≠ it) (h3 : ∀ p ∈ X.pn ++ pins, p.1 ≠ it) : Inv X pins σ H { s with heap := h', toks := t' } := by
  have nit : ∀ b u, H b = some u → b ≠ it := fun b u e z => by rw [z, hn] at e; cases e
  refine I.step (g' := s.gens) (d' := s.drawn) (ch := [it]) (fun b hb => ?_) (fun b o _ _ hc e _ => k b o (fun z => hc (by simp [z])) e) (fun b o _ _ hc e _ => ⟨o.slots, k b o (fun z => hc (by simp [z])) e⟩) (fun _ _ _ _ n => n)
    (fun b o hc e => ⟨o, k b o (fun z => hc (by simp [z])) e⟩) (fun _ _ e => e) (fun _ _ _ e => e) (fun b ps e => ⟨#[], by rw [e]; simp⟩) (fun m hm => ?_) (fun b u e => ?_) I.bare
  · have e : b = it := by simpa using hb
    subst e
    exact ⟨h1, hL, h2, h3⟩
  · obtain ⟨o, es, ep, ho, r⟩ := hm
    exact ⟨o, es, ep, k _ o (Ne.symm hL) ho, r⟩
  · refine (I.hok b u e).stay (fun c v hc q => k c v ?_ q) (fun _ q => q) fun _ _ q => q
    rcases hc with z | z
    · rw [z]; exact nit b u e
    · exact nit c _ z
theorem Inv.tok (I : Inv X pins σ H s) (t : Nat) : Inv X pins σ H { s with toks := t } := I.un (h' := s.heap) (t' := t) Un.refl I.hok
theorem Inv.kept {t' : Nat} (I : Inv X pins σ H s) (k : ∀ b u, s.heap.get? b = some u → h'.get? b = some u) : Inv X pins σ H { s with heap := h', toks := t' } := I.un (Un.kept k) (I.hok.kept k)
theorem Inv.laid {a : Addr} {o : HO} {t' : Nat} (I : Inv X pins σ H s) (k : ∀ b u, s.heap.get? b = some u → h'.get? b = some u) (hp : s.heap.objs.size ≤ a) (new : ObjOk X.prog X.w (upd H a o) h' a o) :
    Inv X pins σ (upd H a o) { s with heap := h', toks := t' } := I.un (Un.laid k hp (I.hok.fresh hp)) (I.hok.laid k hp new)
theorem Inv.write {x e : Addr} {o : HO} {t' : Nat} (I : Inv X pins σ H s) (mu : Mut (H x)) (he : e = x ∨ H e = some (.own x)) (k : ∀ b u, b ≠ e → s.heap.get? b = some u → h'.get? b = some u) (heo : ∃ u, h'.get? e = some u)
    (new : ObjOk X.prog X.w (upd H x o) h' x o) : Inv X pins σ (upd H x o) { s with heap := h', toks := t' } := I.un (Un.write mu he k heo) (I.hok.write mu he k heo new)
theorem Inv.pins_of {pins' : List (Addr × Obj)} (I : Inv X pins σ H s) (h : ∀ p ∈ pins', s.heap.get? p.1 = some p.2 ∧ H p.1 = none ∧ p.1 ≠ X.env.locals ∧ p.1 ∉ X.fs ∧ ∀ v, p.2.data ≠ .cell v) : Inv X pins' σ H s :=
  ⟨I.ok, I.os, I.bare, I.base, I.loc, I.cell, I.free, I.freeC, fun p hp => (List.mem_append.mp hp).elim (fun z => I.pin p (List.mem_append_left _ z)) (h p), I.hok, I.len⟩
theorem nodup_ix {N : List Str} (hN : N.Nodup) {i j : Nat} {x : Str} (a : N[i]? = some x) (b : N[j]? = some x) : i = j := by
  obtain ⟨h1, e1⟩ := List.getElem?_eq_some_iff.mp a
  obtain ⟨h2, e2⟩ := List.getElem?_eq_some_iff.mp b
  exact (List.getElem_inj hN).mp (e1.trans e2.symm)
theorem store_ok2 {M : Model} {A : Around} {E : Value → Shared → Prop} {i : Nat} {x : Str} {v : V} {u : Value} {Q : Unit → Shared → Prop} (I : Inv X pins σ H s) (hN : X.N.Nodup) (hi : X.N[i]? = some x) (hx : Loc X.env.scope x) (r : RelV v u)
    (h : ∀ s', Inv X pins (σ.set i (some v)) H s' → (∃ a, Heap.SameBut a s.heap s'.heap ∧ (a = X.env.locals ∨ X.env.cells.lookup x = some a)) → Q () s') (hf : X.fn x = true ∨ X.env.scope.names.lookup x = some .local := by first | exact .inl rfl | exact .inr rfl | assumption) : wpAny M A (storeName X.env x u) Q E s := by
  obtain ⟨m, hn, hl⟩ := id I.loc
  have hcls : (X.env.scope.kind == .class || (X.env.scope.kind == .module && X.env.locals != X.env.globals)) = false := by rw [I.ok.kind]; rfl
  have hiσ : i < σ.length := by rw [I.len]; exact (List.getElem?_eq_some_iff.mp hi).1
  have cne := I.cne
  have tracked : ∀ {a : Addr} {h' : Heap}, (∃ o, s.heap.get? a = some o ∧ H a = none) → Heap.SameBut a s.heap h' → HOk X.prog X.w H h' := fun {a h'} ha hs b ob e => by
    obtain ⟨_, _, hfree⟩ := ha
    refine (I.hok b ob e).stay (fun c w' hc q => (hs.2 c ?_).trans q) (fun _ q => q) fun _ _ q => q
    rintro rfl
    rcases hc with rfl | hc
    · rw [hfree] at e; cases e
    · rw [hfree] at hc; cases hc
  rcases hx with hk | hk
  · refine wpAny_storeName_local hk hn (fun h' hn' hs => ?_) hcls
    obtain ⟨oL, _, _, hoL, _⟩ := id hn
    refine h _ ⟨I.ok, I.os, I.bare, ⟨fun b o e n hb hx => ?_, fun b o e n hb hx => ?_, I.base.free, fun b o e hx => ?_, I.base.tups, I.base.frzs, I.base.tbls⟩, ⟨_, hn', fun j y v' e1 e2 e3 => ?_⟩, fun y c e => ?_, I.free, I.freeC, fun p hp => ?_, tracked ⟨oL, hoL, I.free⟩ hs, by simpa using I.len⟩ ⟨_, hs, .inl rfl⟩
    · exact (hs.2 b (Nat.ne_of_lt (Nat.lt_of_lt_of_le (Heap.lt_size e) I.ok.above))).trans (I.base.keep b o e n hb hx)
    · obtain ⟨sl, e1⟩ := I.base.slot b o e n hb hx
      exact ⟨sl, (hs.2 b (Nat.ne_of_lt (Nat.lt_of_lt_of_le (Heap.lt_size e) I.ok.above))).trans e1⟩
    · obtain ⟨o', e1⟩ := I.base.there b o e hx
      exact ⟨o', (hs.2 b (Nat.ne_of_lt (Nat.lt_of_lt_of_le (Heap.lt_size e) I.ok.above))).trans e1⟩
    · by_cases hj : j = i
      · subst hj
        rw [hi] at e1; cases e1
        rw [List.getElem?_set_self hiσ] at e2
        cases e2
        exact ⟨u, r, .inl ⟨hk, by simp⟩⟩
      · rw [List.getElem?_set_ne (Ne.symm hj)] at e2
        obtain ⟨u', r', q⟩ := hl j y v' e1 e2 e3
        refine ⟨u', r', ?_⟩
        rcases q with ⟨k, e⟩ | ⟨k, c, e, z⟩
        · refine .inl ⟨k, ?_⟩
          have : y ≠ x := fun e => hj (nodup_ix hN e1 (e ▸ hi))
          simp [this, e]
        · exact .inr ⟨k, c, e, z.sameBut hs (cne y c e)⟩
    · obtain ⟨w', z⟩ := I.cell y c e
      exact ⟨w', z.sameBut hs (cne y c e)⟩
    · obtain ⟨e, n, ne, nf, d⟩ := I.pin p hp
      exact ⟨(hs.2 p.1 ne).trans e, n, ne, nf, d⟩
  · have hfn : X.fn x = true := by
      rcases hf with z | z
      · exact z
      · rw [z] at hk; cases hk
    obtain ⟨c, hc⟩ := I.ok.has x (.inl hk)
    obtain ⟨w', z⟩ := I.cell x c hc
    refine wpAny_storeName_cell I.ok.kind hk hc z (fun h' hc' hs => ?_)
    obtain ⟨oc, hoc, hocd⟩ := id z
    refine h { s with heap := h' } ⟨I.ok, I.os, I.bare, ⟨fun b o e n hb hx => ?_, fun b o e n hb hx => ?_, I.base.free, fun b o e hx => ?_, I.base.tups, I.base.frzs, I.base.tbls⟩, ⟨m, hn.sameBut hs (Ne.symm (cne x c hc)), fun j y v' e1 e2 e3 => ?_⟩, fun y c' e => ?_, I.free, I.freeC, fun p hp => ?_, tracked ⟨oc, hoc, I.freeC x c hc⟩ hs, by simpa using I.len⟩ ⟨c, hs, .inr hc⟩
    · exact (hs.2 b (Nat.ne_of_lt (Nat.lt_of_lt_of_le (Heap.lt_size e) (I.ok.cab x c hfn hc)))).trans (I.base.keep b o e n hb hx)
    · obtain ⟨sl, e1⟩ := I.base.slot b o e n hb hx
      exact ⟨sl, (hs.2 b (Nat.ne_of_lt (Nat.lt_of_lt_of_le (Heap.lt_size e) (I.ok.cab x c hfn hc)))).trans e1⟩
    · obtain ⟨o', e1⟩ := I.base.there b o e hx
      exact ⟨o', (hs.2 b (Nat.ne_of_lt (Nat.lt_of_lt_of_le (Heap.lt_size e) (I.ok.cab x c hfn hc)))).trans e1⟩
    · by_cases hj : j = i
      · subst hj
        rw [hi] at e1; cases e1
        rw [List.getElem?_set_self hiσ] at e2
        cases e2
        exact ⟨u, r, .inr ⟨.inl hk, c, hc, hc'⟩⟩
      · rw [List.getElem?_set_ne (Ne.symm hj)] at e2
        obtain ⟨u', r', q⟩ := hl j y v' e1 e2 e3
        refine ⟨u', r', ?_⟩
        rcases q with q | ⟨k, c', e, z'⟩
        · exact .inl q
        · refine .inr ⟨k, c', e, z'.sameBut hs ?_⟩
          rintro rfl
          exact hj (nodup_ix hN e1 (I.ok.inj _ _ _ e hc ▸ hi))
    · by_cases hcc : c' = c
      · subst hcc; exact ⟨_, hc'⟩
      · obtain ⟨w2, z2⟩ := I.cell y c' e
        exact ⟨w2, z2.sameBut hs hcc⟩
    · obtain ⟨e, n, ne, nf, d⟩ := I.pin p hp
      refine ⟨(hs.2 p.1 ?_).trans e, n, ne, nf, d⟩
      intro q
      rw [q, hoc] at e
      have q' : oc = p.2 := Option.some.inj e
      exact d w' (by rw [← q']; exact hocd)
theorem store_ok {M : Model} {A : Around} {E : Value → Shared → Prop} {i : Nat} {x : Str} {v : V} {u : Value} {Q : Unit → Shared → Prop} (I : Inv X pins σ H s) (hN : X.N.Nodup) (hi : X.N[i]? = some x) (hx : Loc X.env.scope x) (r : RelV v u)
    (h : ∀ s', Inv X pins (σ.set i (some v)) H s' → Q () s') (hf : X.fn x = true ∨ X.env.scope.names.lookup x = some .local := by first | exact .inl rfl | exact .inr rfl | assumption) : wpAny M A (storeName X.env x u) Q E s :=
  store_ok2 I hN hi hx r (fun s' I' _ => h s' I') hf
theorem Inv.call' {s' : Shared} {ch : List Addr} (I : Inv X pins σ H s) (ho : s'.os = s.os) (u : Un (frs X.stack) ch H H' s.heap s'.heap) (hok : HOk X.prog X.w H' s'.heap) (hg : AllBare s'.gens)
    (hch : ∀ b ∈ ch, (b ∈ X.ex ∨ X.s₀.heap.objs.size ≤ b) ∧ b ≠ X.env.locals ∧ (∀ x c, X.env.cells.lookup x = some c → c ≠ b) ∧ ∀ p ∈ X.pn ++ pins, p.1 ≠ b) : Inv X pins σ H' s' := by
  obtain ⟨h', g', d', t', o'⟩ := s'
  have e : o' = s.os := ho
  subst e
  exact I.call (g' := g') (t' := t') (d' := d') u hok hg hch
end
abbrev XK := Value → Option Addr → Hp → Prop
abbrev St := List (Option V)
abbrev VK := V → Hp → Prop
abbrev TE := St → Hp → VK → Prop
abbrev TT := St → Hp → (Bool → Hp → Prop) → Prop
abbrev TA := St → Hp → (List V → Hp → Prop) → Prop
structure Ends where
  nx : St → Hp → Prop
  rt : VK
  bk : St → Hp → Prop := fun _ _ => False
  ct : St → Hp → Prop := fun _ _ => False
abbrev TS := Ends → St → Hp → Prop
def EP (X : Cx) (pins : List (Addr × Obj)) (σ : St) (Q : VK) (u : Value) (s' : Shared) : Prop := ∃ v H', Inv X pins σ H' s' ∧ RelV v u ∧ Q v H'
def TP (X : Cx) (pins : List (Addr × Obj)) (σ : St) (Q : Bool → Hp → Prop) (b : Bool) (s' : Shared) : Prop := ∃ H', Inv X pins σ H' s' ∧ Q b H'
def AP (X : Cx) (pins : List (Addr × Obj)) (σ : St) (Q : List V → Hp → Prop) (us : List Value) (s' : Shared) : Prop := ∃ vs H', Inv X pins σ H' s' ∧ Vals vs us ∧ Q vs H'
def SP (X : Cx) (pins : List (Addr × Obj)) (D : Ends) (f : Flow) (s' : Shared) : Prop :=
  match f with
  | .next => ∃ σ' H', Inv X pins σ' H' s' ∧ D.nx σ' H'
  | .brk => ∃ σ' H', Inv X pins σ' H' s' ∧ D.bk σ' H'
  | .cont => ∃ σ' H', Inv X pins σ' H' s' ∧ D.ct σ' H'
  | .ret u => ∃ v σ' H', Inv X pins σ' H' s' ∧ RelV v u ∧ D.rt v H'
def PE (X : Cx) (e : Expr) (t : TE) : Prop :=
  ∀ (pins : List (Addr × Obj)) (s : Shared) (σ : St) (H : Hp) (Q : VK), Inv X pins σ H s → t σ H Q → wpAny (model X.prog X.w) X.A (eval e X.env) (EP X pins σ Q) X.xe s
def PT (X : Cx) (e : Expr) (t : TT) : Prop :=
  ∀ (pins : List (Addr × Obj)) (s : Shared) (σ : St) (H : Hp) (Q : Bool → Hp → Prop), Inv X pins σ H s → t σ H Q → wpAny (model X.prog X.w) X.A (isTrue e X.env (eval e X.env)) (TP X pins σ Q) X.xe s
def PW (X : Cx) (e : Expr) (t : TT) : Prop :=
  ∀ (whole : Sem Value) (pins : List (Addr × Obj)) (s : Shared) (σ : St) (H : Hp) (Q : Bool → Hp → Prop), Inv X pins σ H s → t σ H Q → wpAny (model X.prog X.w) X.A (isTrue e X.env whole) (TP X pins σ Q) X.xe s
theorem PW.pt {X : Cx} {e : Expr} {t : TT} (h : PW X e t) : PT X e t := h _
def PA (X : Cx) (es : List Expr) (t : TA) : Prop :=
  ∀ (pos : Pos) (pins : List (Addr × Obj)) (s : Shared) (σ : St) (H : Hp) (Q : List V → Hp → Prop), Inv X pins σ H s → t σ H Q → wpAny (model X.prog X.w) X.A (spliced (backTo pos (starEach es X.env))) (AP X pins σ Q) X.xe s
def PS (X : Cx) (st : Stmt) (t : TS) : Prop :=
  ∀ (pins : List (Addr × Obj)) (s : Shared) (σ : St) (H : Hp) (D : Ends), Inv X pins σ H s → t D σ H → wpAny (model X.prog X.w) X.A (exec st X.env) (SP X pins D) X.xe s
def PSs (X : Cx) (st : List Stmt) (t : TS) : Prop :=
  ∀ (pins : List (Addr × Obj)) (s : Shared) (σ : St) (H : Hp) (D : Ends), Inv X pins σ H s → t D σ H → wpAny (model X.prog X.w) X.A (execs st X.env) (SP X pins D) X.xe s
theorem thn {α : Type} {t : Sem α} {Q Q' : α → Shared → Prop} {M : Model} {A : Around} {E : Value → Shared → Prop} {s : Shared} (h : wpAny M A t Q E s) (hQ : ∀ a s, Q a s → Q' a s) : wpAny M A t Q' E s := wpAny_mono h hQ fun _ _ x => x
end L2
namespace L2
open PySem PySem.Spec PyProof.Rows
section
variable {X : Cx}
def tVar (i : Nat) : TE := fun σ H Q => ∃ v, σ[i]? = some (some v) ∧ Q v H
def tC (v : V) : TE := fun _ H Q => Q v H
theorem pe_var {i : Nat} {x : Str} {pos : Pos} (hN : X.N[i]? = some x) (hv : Vis X.env.scope x) (hd : (x == ("__debug__" : Str)) = false := by decide) (hcd : (x == ("__classdict__" : Str)) = false := by decide) : PE X (.Name x pos) (tVar i) := by
  intro pins s σ H Q I h
  obtain ⟨v, e, h⟩ := h
  obtain ⟨m, hn, hl⟩ := I.loc
  obtain ⟨u, r, l⟩ := hl i x v hN e hv
  have fin : EP X pins σ Q u s := ⟨v, H, I, r, h⟩
  rcases l with ⟨hk, hm⟩ | ⟨hk, c, hc, hcell⟩
  · exact wpAny_Name (wpAny_loadName_local I.ok.kind hk hn hm fin) hd
  · rcases hk with hk | hk
    · exact wpAny_Name (wpAny_loadName_cell I.ok.kind hk hc hcell fin) hd
    · exact wpAny_Name (wpAny_loadName_free I.ok.kind hk hc hcell fin hcd) hd
theorem pe_int {i j pos} : PE X (.Constant (.int i) j pos) (tC (.int i)) := fun _ _ _ H _ I h => wpAny_Constant_int ⟨.int i, H, I.tok _, ⟨_, rfl⟩, h⟩
theorem pe_bl {b j pos} : PE X (.Constant (.bool b) j pos) (tC (.bl b)) := fun _ _ _ H _ I h => Constant_bool ⟨.bl b, H, I, rfl, h⟩
theorem pe_non {j pos} : PE X (.Constant .none j pos) (tC .non) := fun _ _ _ H _ I h => Constant_none ⟨.non, H, I, rfl, h⟩
theorem pe_str {x j pos} : PE X (.Constant (.str x) j pos) (tC (.str x)) := fun _ _ _ H _ I h => Calls.Constant_str ⟨.str x, H, I.tok _, ⟨_, rfl⟩, h⟩
def Gl (X : Cx) (x : Str) : Prop := X.env.kindOf x = some .globalImplicit
theorem ld_glob {E : Value → Shared → Prop} {pins : List (Addr × Obj)} {s : Shared} {σ : St} {H : Hp} {x : Str} {u : Value} {pos : Pos} {Q : Value → Shared → Prop} (I : Inv X pins σ H s) (hg : Gl X x) (hm : X.mg x = some u) (h : Q u s)
    (hd : (x == ("__debug__" : Str)) = false := by decide) : wpAny (model X.prog X.w) X.A (eval (.Name x pos) X.env) Q E s :=
  Calls.Name_function_global I.ok.kind hg (Calls.loadGlobal_global (by rw [I.ok.glob]; exact I.mod.glob.keeps I.bk) hm h) hd
theorem ld_blt {E : Value → Shared → Prop} {pins : List (Addr × Obj)} {s : Shared} {σ : St} {H : Hp} {x : Str} {u : Value} {pos : Pos} {Q : Value → Shared → Prop} (I : Inv X pins σ H s) (hg : Gl X x) (hm : X.mg x = none) (hv : bootBuiltins x = some u) (h : Q u s)
    (hn : x ≠ "__name__" := by decide) (hd : (x == ("__debug__" : Str)) = false := by decide) : wpAny (model X.prog X.w) X.A (eval (.Name x pos) X.env) Q E s := by
  obtain ⟨mb, h1, h2⟩ := I.mod.blt
  exact Calls.Name_function_global I.ok.kind hg (Calls.loadGlobal_builtin (by rw [I.ok.glob]; exact I.mod.glob.keeps I.bk) hm (by rw [I.ok.blt]; exact h1.keeps I.bk) ((h2 x hn).trans hv) h) hd
theorem pe_glob {x : Str} {v : V} {u : Value} {pos : Pos} (hg : Gl X x) (hm : X.mg x = some u) (r : RelV v u) (hd : (x == ("__debug__" : Str)) = false := by decide) : PE X (.Name x pos) (tC v) :=
  fun _ _ _ H _ I h => ld_glob I hg hm ⟨v, H, I, r, h⟩ hd
theorem pe_bltn {x : Str} {v : V} {u : Value} {pos : Pos} (hg : Gl X x) (hm : X.mg x = none) (hv : bootBuiltins x = some u) (r : RelV v u) (hn : x ≠ "__name__" := by decide) (hd : (x == ("__debug__" : Str)) = false := by decide) : PE X (.Name x pos) (tC v) :=
  fun _ _ _ H _ I h => ld_blt I hg hm hv ⟨v, H, I, r, h⟩ hn hd
def t2I (ta tb : TE) (k : Int → Int → Hp → Prop) : St → Hp → Prop := fun σ H => ta σ H fun x H1 => tb σ H1 fun y H2 => ∃ i j, x = .int i ∧ y = .int j ∧ k i j H2
def tAdd (ta tb : TE) : TE := fun σ H Q => t2I ta tb (fun i j H2 => Q (.int (i + j)) H2) σ H
def tSub (ta tb : TE) : TE := fun σ H Q => t2I ta tb (fun i j H2 => Q (.int (i - j)) H2) σ H
def tMul (ta tb : TE) : TE := fun σ H Q => t2I ta tb (fun i j H2 => (-(2 ^ 64) < i ∧ i < 2 ^ 64) ∧ Q (.int (i * j)) H2) σ H
variable {a b : Expr} {ta tb : TE} {pos : Pos}
def PC (X : Cx) (op : CmpOp) (a b : Expr) (t : TE) : Prop :=
  ∀ (pins : List (Addr × Obj)) (s : Shared) (σ : St) (H : Hp) (Q : VK), Inv X pins σ H s → t σ H Q →
    wpAny (model X.prog X.w) X.A (eval a X.env) (fun v s₁ => wpAny (model X.prog X.w) X.A (eval b X.env) (fun u s₂ => wpAny (model X.prog X.w) X.A (compareOp op v u) (EP X pins σ Q) X.xe s₂) X.xe s₁) X.xe s
def tCmp (p : Int → Int → Bool) (ta tb : TE) : TE := fun σ H Q => t2I ta tb (fun i j H2 => Q (.bl (p i j)) H2) σ H
abbrev tLt : TE → TE → TE := tCmp fun i j => decide (i < j)
abbrev tLe : TE → TE → TE := tCmp fun i j => decide (i ≤ j)
abbrev tGt : TE → TE → TE := tCmp fun i j => decide (j < i)
abbrev tGe : TE → TE → TE := tCmp fun i j => decide (j ≤ i)
abbrev tEqI : TE → TE → TE := tCmp fun i j => decide (i = j)
abbrev tNeI : TE → TE → TE := tCmp fun i j => !decide (i = j)
def tIsN (ta : TE) : TE := fun σ H Q => ta σ H fun x H1 => Q (.bl (decide (x = .non))) H1
def tNotN (ta : TE) : TE := fun σ H Q => ta σ H fun x H1 => Q (.bl (!decide (x = .non))) H1
def tB (t : TE) : TT := fun σ H Q => t σ H fun x H1 => ∃ c, x = .bl c ∧ Q c H1
theorem pt_cmp {op : CmpOp} {t : TE} (h : PC X op a b t) (h1 : behindInMarks op b = false := by first | exact nobehind _ (by decide) (by decide) | rfl) : PT X (.Compare a [op] [b] pos) (tB t) := by
  intro pins s σ H Q I hw
  refine wpAny_isTrue_Compare1 (thn (h pins s σ H _ I hw) fun v s1 h1 => thn h1 fun u s2 h2 => thn h2 fun c s3 ⟨x, H1, I1, r1, q1⟩ => ?_) h1
  obtain ⟨d, rfl, q⟩ := q1
  cases r1
  exact wpAny_truthy_bool ⟨H1, I1, q⟩
theorem pt_val {e : Expr} {t : TE} (h : PE X e t) (he : ∀ whole, isTrue e X.env whole = (do let v ← whole; standAt e.pos; holding [v] (truthy v)) := by intro _; rfl) : PT X e (tB t) := by
  intro pins s σ H Q I hw
  refine isTrue_plain (thn (h pins s σ H _ I hw) fun v s1 ⟨x, H1, I1, r1, q1⟩ => ?_) (he _)
  obtain ⟨d, rfl, q⟩ := q1
  cases r1
  exact wpAny_truthy_bool ⟨H1, I1, q⟩
variable {tA tB' : TT} {rest : List Expr}
def tAnd (t u : TT) : TT := fun σ H Q => t σ H fun c H1 => if c = true then u σ H1 Q else Q false H1
def tOr (t u : TT) : TT := fun σ H Q => t σ H fun c H1 => if c = true then Q true H1 else u σ H1 Q
def tNot (t : TT) : TT := fun σ H Q => t σ H fun c H1 => Q (!c) H1
theorem pw_and1 (ha : PT X a tA) : PW X (.BoolOp .And [a] pos) tA := by
  intro wh pins s σ H Q I h
  refine isTrue_and (thn (ha pins s σ H Q I h) fun c s1 e => ?_)
  cases c with
  | true => exact isTrue_and_nil e
  | false => exact e
theorem pw_or1 (ha : PT X a tA) : PW X (.BoolOp .Or [a] pos) tA := by
  intro wh pins s σ H Q I h
  refine isTrue_or (thn (ha pins s σ H Q I h) fun c s1 e => ?_)
  cases c with
  | false => exact isTrue_or_nil e
  | true => exact e
theorem pw_and (ha : PT X a tA) (hb : PW X (.BoolOp .And (b :: rest) pos) tB') : PW X (.BoolOp .And (a :: b :: rest) pos) (tAnd tA tB') := by
  intro wh pins s σ H Q I h
  refine isTrue_and (thn (ha pins s σ H _ I h) fun c s1 ⟨H1, I1, q1⟩ => ?_)
  cases c with
  | true => exact hb wh pins s1 σ H1 Q I1 q1
  | false => exact ⟨H1, I1, q1⟩
theorem pw_or (ha : PT X a tA) (hb : PW X (.BoolOp .Or (b :: rest) pos) tB') : PW X (.BoolOp .Or (a :: b :: rest) pos) (tOr tA tB') := by
  intro wh pins s σ H Q I h
  refine isTrue_or (thn (ha pins s σ H _ I h) fun c s1 ⟨H1, I1, q1⟩ => ?_)
  cases c with
  | true => exact ⟨H1, I1, q1⟩
  | false => exact hb wh pins s1 σ H1 Q I1 q1
theorem pt_not (ha : PT X a tA) : PT X (.UnaryOp .Not a pos) (tNot tA) := by
  intro pins s σ H Q I h
  exact isTrue_not (ha pins s σ H (fun c H1 => Q (!c) H1) I h)
def tAndV (ta tb : TE) : TE := fun σ H Q => ta σ H fun x H1 => ∃ c, x = .bl c ∧ if c = true then tb σ H1 Q else Q (.bl false) H1
def tOrV (ta tb : TE) : TE := fun σ H Q => ta σ H fun x H1 => ∃ c, x = .bl c ∧ if c = true then Q (.bl true) H1 else tb σ H1 Q
def tNotV (ta : TE) : TE := fun σ H Q => ta σ H fun x H1 => ∃ c, x = .bl c ∧ Q (.bl (!c)) H1
theorem pe_one {op} {t : TE} (h : PE X a t) : PE X (.BoolOp op [a] pos) t := fun pins s σ H Q I hw => BoolOp_one (h pins s σ H Q I hw)
theorem pe_and (ha : PE X a ta) (hb : PE X (.BoolOp .And (b :: rest) pos) tb) : PE X (.BoolOp .And (a :: b :: rest) pos) (tAndV ta tb) := by
  intro pins s σ H Q I h
  refine BoolOp_and (thn (ha pins s σ H _ I h) fun v s1 ⟨x, H1, I1, r1, q1⟩ => ?_)
  obtain ⟨c, rfl, q1⟩ := q1
  cases r1
  refine wpAny_truthy_bool ?_
  cases c with
  | true => exact hb pins s1 σ H1 Q I1 q1
  | false => exact ⟨.bl false, H1, I1, rfl, q1⟩
def tIf (t : TT) (ta tb : TE) : TE := fun σ H Q => t σ H fun c H1 => if c = true then ta σ H1 Q else tb σ H1 Q
end
end L2
namespace L2
open PySem PySem.Spec PyProof.Rows
def SqL (K : PySem.W.Frag) (H : Hp) (a : Addr) (xs : List V) : Prop :=
  Rd H a (.lst xs) ∨
    ∃ (o : Obj) (its : Array Value) (n : Nat), K.lookup a = some o ∧ o.cls = .type "list" ∧ o.dict = none ∧ o.data = .seq its n ∧ its.size ≤ sizeLine ∧ Vals xs its.toList
def SqT (K : PySem.W.Frag) (H : Hp) (a : Addr) (xs : List V) : Prop :=
  Rd H a (.tup xs) ∨
    ∃ (o : Obj) (its : Array Value) (n : Nat), K.lookup a = some o ∧ o.cls = .type "tuple" ∧ o.data = .seq its n ∧ its.size ≤ sizeLine ∧ Vals xs its.toList
def absV : Value → Option V
  | .none => some .non
  | .bool b => some (.bl b)
  | .int i _ => some (.int i)
  | .str x _ => some (.str x)
  | .bytes b _ => some (.byt b)
  | .float b _ => some (.flt b)
  | .ref a => some (.ref a)
  | .type n => some (.ty n)
  | _ => none
theorem RelV.abs {x : V} {u : Value} (r : RelV x u) : absV u = some x := by
  cases x with
  | non => cases r; rfl
  | bl _ => cases r; rfl
  | int _ => obtain ⟨t, rfl⟩ := r; rfl
  | str _ => obtain ⟨t, rfl⟩ := r; rfl
  | byt _ => obtain ⟨t, rfl⟩ := r; rfl
  | flt _ => obtain ⟨t, rfl⟩ := r; rfl
  | ref _ => cases r; rfl
  | ty _ => cases r; rfl
theorem RelV.inj {x y : V} {u : Value} (r : RelV x u) (q : RelV y u) : x = y := Option.some.inj (r.abs.symm.trans q.abs)
theorem Vals.inj : ∀ {xs ys : List V} {us : List Value}, Vals xs us → Vals ys us → xs = ys
  | _, _, _, .nil, .nil => rfl
  | _, _, _, .cons r t, .cons r' t' => by rw [r.inj r', Vals.inj t t']
section
variable {X : Cx} {pins : List (Addr × Obj)} {σ : St} {H : Hp} {s : Shared} {a : Addr} {xs ys : List V}
theorem SqL.of {K : PySem.W.Frag} (h : H a = some (.lst xs)) : SqL K H a xs := .inl (.inl h)
theorem SqT.of {K : PySem.W.Frag} (h : H a = some (.tup xs)) : SqT K H a xs := .inl (.inl h)
theorem Inv.list (I : Inv X pins σ H s) (h : SqL X.K H a xs) : ∃ its : List Value, Vals xs its ∧ PlainL s.heap a its.toArray ∧ xs.length ≤ sizeLine := by
  rcases h with h | ⟨o, its, n, hk, hc, hd, hs, hz, r⟩
  · obtain ⟨z, its, n, r, e⟩ := h.ok I.hok
    exact ⟨its, r, ⟨_, n, e, rfl, rfl, rfl⟩, z⟩
  · refine ⟨its.toList, r, ⟨o, n, I.kIn a o hk, hc, hd, by simpa using hs⟩, ?_⟩
    have e := r.length
    simp only [Array.length_toList] at e
    omega
theorem Inv.tuple (I : Inv X pins σ H s) (h : SqT X.K H a xs) : ∃ its : List Value, Vals xs its ∧ IsTup s.heap a its.toArray ∧ xs.length ≤ sizeLine := by
  rcases h with h | ⟨o, its, n, hk, hc, hs, hz, r⟩
  · obtain ⟨z, its, r, p⟩ := h.ok I.hok
    exact ⟨its, r, p, z⟩
  · refine ⟨its.toList, r, ⟨o, I.kIn a o hk, hc, n, by simpa using hs⟩, ?_⟩
    have e := r.length
    simp only [Array.length_toList] at e
    omega
theorem Inv.list_inj (I : Inv X pins σ H s) (h : SqL X.K H a xs) (h' : SqL X.K H a ys) : xs = ys := by
  obtain ⟨its, r, ⟨o, n, e, _, _, d⟩, _⟩ := I.list h
  obtain ⟨its', r', ⟨o', n', e', _, _, d'⟩, _⟩ := I.list h'
  rw [e] at e'; cases e'
  rw [d] at d'
  injection d' with d1 _
  have : its = its' := by simpa using congrArg Array.toList d1
  subst this
  exact r.inj r'
theorem Inv.tuple_inj (I : Inv X pins σ H s) (h : SqT X.K H a xs) (h' : SqT X.K H a ys) : xs = ys := by
  obtain ⟨its, r, ⟨o, e, _, n, d⟩, _⟩ := I.tuple h
  obtain ⟨its', r', ⟨o', e', _, n', d'⟩, _⟩ := I.tuple h'
  rw [e] at e'; cases e'
  rw [d] at d'
  injection d' with d1 _
  have : its = its' := by simpa using congrArg Array.toList d1
  subst this
  exact r.inj r'
end
abbrev Cx.wish (X : Cx) (E : Value → Shared → Prop) : Cx := { X with xe := E }
abbrev Cx.nox (X : Cx) : Cx := X.wish fun _ _ => False
theorem Cx.Ok.wish {X : Cx} (ok : X.Ok) (E : Value → Shared → Prop) : (X.wish E).Ok :=
  ⟨ok.mod, ok.kind, ok.glob, ok.blt, ok.above, ok.inj, ok.has, ok.cab, ok.hd, ok.frames, ok.stk, ok.exf, ok.bs, ok.bsz, ok.noex, ok.exfs, ok.funs, ok.frf⟩
theorem Cx.Ok.unwish {X : Cx} {E : Value → Shared → Prop} (ok : (X.wish E).Ok) : X.Ok :=
  ⟨ok.mod, ok.kind, ok.glob, ok.blt, ok.above, ok.inj, ok.has, ok.cab, ok.hd, ok.frames, ok.stk, ok.exf, ok.bs, ok.bsz, ok.noex, ok.exfs, ok.funs, ok.frf⟩
section
variable {X : Cx} {pins : List (Addr × Obj)} {σ : St} {H : Hp} {s : Shared} {E : Value → Shared → Prop}
theorem Inv.wish (I : Inv X pins σ H s) (E : Value → Shared → Prop) : Inv (X.wish E) pins σ H s := ⟨I.ok.wish E, I.os, I.bare, I.base, I.loc, I.cell, I.free, I.freeC, I.pin, I.hok, I.len⟩
theorem Inv.unwish (I : Inv (X.wish E) pins σ H s) : Inv X pins σ H s := ⟨I.ok.unwish, I.os, I.bare, I.base, I.loc, I.cell, I.free, I.freeC, I.pin, I.hok, I.len⟩
theorem SP.unwish {D : Ends} {f : Flow} {s' : Shared} (h : SP (X.wish E) pins D f s') : SP X pins D f s' := by
  cases f with
  | next => obtain ⟨σ', H', I, q⟩ := h; exact ⟨σ', H', I.unwish, q⟩
  | brk => obtain ⟨σ', H', I, q⟩ := h; exact ⟨σ', H', I.unwish, q⟩
  | cont => obtain ⟨σ', H', I, q⟩ := h; exact ⟨σ', H', I.unwish, q⟩
  | ret u => obtain ⟨v, σ', H', I, r, q⟩ := h; exact ⟨v, σ', H', I.unwish, r, q⟩
theorem PSs.nox {st : List Stmt} {t : TS} (h : PSs X.nox st t) : PSs X st t := fun pins s σ H D I hw =>
  wpAny_mono (h pins s σ H D (I.wish _) hw) (fun _ _ q => q.unwish) fun _ _ z => False.elim z
end
section
variable {X : Cx} {st : Stmt} {rest : List Stmt} {t u : TS} {e : Expr} {te : TE} {pos : Pos}
def tNext : TS := fun D σ H => D.nx σ H
def tSeq (t u : TS) : TS := fun D σ H => t { D with nx := u D } σ H
theorem pss_nil : PSs X [] tNext := fun _ _ σ H _ I h => wpAny_execs_nil ⟨σ, H, I, h⟩
theorem pss_cons (h1 : PS X st t) (h2 : PSs X rest u) : PSs X (st :: rest) (tSeq t u) := by
  intro pins s σ H D I h
  refine wpAny_execs_cons (thn (h1 pins s σ H { D with nx := u D } I h) fun f s1 q => ?_)
  cases f with
  | next =>
    obtain ⟨σ', H', I', q⟩ := q
    exact h2 pins s1 σ' H' D I' q
  | ret v => exact q
  | brk => exact q
  | cont => exact q
theorem pss_one (h1 : PS X st t) : PSs X [st] t := by
  intro pins s σ H D I h
  refine wpAny_execs_cons (thn (h1 pins s σ H D I h) fun f s1 q => ?_)
  cases f with
  | next => exact wpAny_execs_nil q
  | ret v => exact q
  | brk => exact q
  | cont => exact q
def tBreak : TS := fun D σ H => D.bk σ H
def tCont : TS := fun D σ H => D.ct σ H
theorem Inv.quiet {pins : List (Addr × Obj)} {σ : St} {H : Hp} {s : Shared} (I : Inv X pins σ H s) : interactive X.env = false := by simp [interactive, I.ok.kind]
def tDrop (te : TE) : TS := fun D σ H => te σ H fun _ H1 => D.nx σ H1
theorem ps_expr (he : PE X e te) (hs : swapsWith e none pos.line X.env = pure false := by rfl) : PS X (.Expr e pos) (tDrop te) := by
  intro pins s σ H D I h
  exact wpAny_Expr_any (thn (he pins s σ H _ I h) fun v s1 ⟨x, H1, I1, r1, q1⟩ => ⟨σ, H1, I1, q1⟩) I.quiet hs
def tRet (te : TE) : TS := fun D σ H => te σ H D.rt
theorem ps_ret (he : PE X e te) : PS X (.Return (some e) pos) (tRet te) := by
  intro pins s σ H D I h
  exact wpAny_Return_some (thn (he pins s σ H _ I h) fun v s1 ⟨x, H1, I1, r1, q1⟩ => ⟨x, σ, H1, I1, r1, q1⟩)
def tRetN : TS := fun D _ H => D.rt .non H
def tIfS (c : TT) (t u : TS) : TS := fun D σ H => c σ H fun b H1 => if b = true then t D σ H1 else u D σ H1
theorem ps_if {c : Expr} {a b : List Stmt} {tc : TT} (hc : PT X c tc) (ha : PSs X a t) (hb : PSs X b u) : PS X (.If c a b pos) (tIfS tc t u) := by
  intro pins s σ H D I h
  refine wpAny_If (thn (hc pins s σ H _ I h) fun d s1 ⟨H1, I1, q1⟩ => ?_)
  cases d with
  | true => exact ha pins s1 σ H1 D I1 q1
  | false => exact hb pins s1 σ H1 D I1 q1
def tNever : TS := fun _ _ _ => False
end
abbrev TG := V → St → Hp → (St → Hp → Prop) → Prop
abbrev TGs := List V → St → Hp → (St → Hp → Prop) → Prop
def PG (X : Cx) (target : Expr) (t : TG) : Prop :=
  ∀ (pins : List (Addr × Obj)) (s : Shared) (σ : St) (H : Hp) (v : V) (u : Value) (Q : St → Hp → Prop), Inv X pins σ H s → RelV v u → t v σ H Q →
    wpAny (model X.prog X.w) X.A (assign target X.env u) (fun _ s' => ∃ σ' H', Inv X pins σ' H' s' ∧ Q σ' H') X.xe s
def PGs (X : Cx) (ts : List Expr) (t : TGs) : Prop :=
  ∀ (pins : List (Addr × Obj)) (s : Shared) (σ : St) (H : Hp) (vs : List V) (us : List Value) (Q : St → Hp → Prop), Inv X pins σ H s → Vals vs us → t vs σ H Q →
    wpAny (model X.prog X.w) X.A (assignInOrder ((assignEach ts X.env).map (·.2)) us) (fun _ s' => ∃ σ' H', Inv X pins σ' H' s' ∧ Q σ' H') X.xe s
abbrev TSet := V → V → V → Hp → (Hp → Prop) → Prop
def PSet (X : Cx) (t : TSet) : Prop :=
  ∀ (pins : List (Addr × Obj)) (s : Shared) (σ : St) (H : Hp) (o i v : V) (ov iv u : Value) (Q : Hp → Prop), Inv X pins σ H s → RelV o ov → RelV i iv → RelV v u → t o i v H Q →
    wpAny (model X.prog X.w) X.A (setItem ov iv u) (fun _ s' => ∃ H', Inv X pins σ H' s' ∧ Q H') X.xe s
abbrev TIp := V → V → Hp → VK → Prop
def PIp (X : Cx) (op : Operator) (t : TIp) : Prop :=
  ∀ (pins : List (Addr × Obj)) (s : Shared) (σ : St) (H : Hp) (x y : V) (v u : Value) (Q : VK), Inv X pins σ H s → RelV x v → RelV y u → t x y H Q →
    wpAny (model X.prog X.w) X.A (inplaceOp op v u) (EP X pins σ Q) X.xe s
section
variable {X : Cx} {pos : Pos}
def gName (i : Nat) : TG := fun v σ H Q => Q (σ.set i (some v)) H
theorem pg_name {i : Nat} {x : Str} (hN : X.N.Nodup) (hi : X.N[i]? = some x) (hx : Loc X.env.scope x) (hf : X.fn x = true ∨ X.env.scope.names.lookup x = some .local := by first | exact .inl rfl | exact .inr rfl | assumption) : PG X (.Name x pos) (gName i) := by
  intro pins s σ H v u Q I r h
  exact wpAny_assign_Name (store_ok I hN hi hx r (fun s' I' => ⟨_, H, I', h⟩) hf)
def gNil : TGs := fun vs σ H Q => vs = [] ∧ Q σ H
def gCons (t : TG) (u : TGs) : TGs := fun vs σ H Q => ∃ v r, vs = v :: r ∧ t v σ H fun σ' H' => u r σ' H' Q
theorem pgs_nil : PGs X [] gNil := by
  intro pins s σ H vs us Q I r h
  obtain ⟨e, h⟩ := h
  subst e
  cases r
  exact assignInOrder_nil ⟨σ, H, I, h⟩
theorem pgs_cons {e : Expr} {es : List Expr} {t : TG} {u : TGs} (h1 : PG X e t) (h2 : PGs X es u)
    (hs : (assignEach (e :: es) X.env).map (·.2) = assign e X.env :: (assignEach es X.env).map (·.2) := by rfl) : PGs X (e :: es) (gCons t u) := by
  intro pins s σ H vs us Q I r h
  obtain ⟨v, vr, e1, h⟩ := h
  subst e1
  cases r with
  | cons r rr =>
    rw [hs]
    refine assignInOrder_cons (thn (h1 pins s σ H _ _ _ I r h) fun _ s1 ⟨σ1, H1, I1, q1⟩ => ?_)
    exact h2 pins s1 σ1 H1 _ _ Q I1 rr q1
def gTup (K : PySem.W.Frag) (n : Nat) (t : TGs) : TG := fun v σ H Q => ∃ a xs, v = .ref a ∧ SqT K H a xs ∧ xs.length = n ∧ t xs σ H Q
theorem pg_tup {es : List Expr} {k : Nat} {t : TGs} {n : Nat} (hc : X.calm = true) (h : PGs X es t)
    (hn : (assignEach es X.env).length = n := by rfl) (hst : (assignEach es X.env).findIdx? (·.1) = none := by rfl) : PG X (.Tuple es k pos) (gTup X.K n t) := by
  intro pins s σ H v u Q I r hw
  obtain ⟨a, xs, e1, hq, hl, hw⟩ := hw
  subst e1
  cases r
  obtain ⟨its, rv, ht, hz⟩ := I.tuple hq
  refine assign_Tuple_tuple (I.ok.hd hc) ht (by simp [hn, ← hl, rv.length]) hst fun h' hx => ?_
  have I1 : Inv X pins σ H { s with heap := h' } := I.kept (t' := s.toks) fun b o e => hx b o (Nat.ne_of_lt (Heap.lt_size e)) e
  exact h pins _ σ H xs _ Q I1 (by simpa using rv) hw
def gSub (to ti : TE) (t : TSet) : TG := fun v σ H Q => to σ H fun o H1 => ti σ H1 fun i H2 => t o i v H2 fun H3 => Q σ H3
def tAsg (te : TE) (g : TG) : TS := fun D σ H => te σ H fun x H1 => g x σ H1 D.nx
theorem ps_set {i : Nat} {x : Str} {e : Expr} {te : TE} {pos' : Pos} (hN : X.N.Nodup) (hi : X.N[i]? = some x) (hx : Loc X.env.scope x) (he : PE X e te) (hs : swapsWith e (some (.Name x pos')) pos.line X.env = pure false := by rfl) (hf : X.fn x = true ∨ X.env.scope.names.lookup x = some .local := by first | exact .inl rfl | exact .inr rfl | assumption) :
    PS X (.Assign [.Name x pos'] e pos) (tAsg te (gName i)) := by
  intro pins s σ H D I h
  refine wpAny_Assign_Name (thn (he pins s σ H _ I h) fun v s1 ⟨y, H1, I1, r1, q1⟩ => ?_) hs
  exact store_ok I1 hN hi hx r1 (fun s2 I2 => ⟨_, H1, I2, q1⟩) hf
def tPar (i j : Nat) (ta : TA) : TS := fun D σ H => ta σ H fun vs H1 => ∃ v w, vs = [v, w] ∧ D.nx ((σ.set i (some v)).set j (some w)) H1
def tAug (i : Nat) (te : TE) (ti : TIp) : TS := fun D σ H => ∃ x, σ[i]? = some (some x) ∧ te σ H fun y H1 => ti x y H1 fun z H2 => D.nx (σ.set i (some z)) H2
theorem ps_aug {i : Nat} {x : Str} {e : Expr} {te : TE} {op : Operator} {ti : TIp} {pos' : Pos} (hN : X.N.Nodup) (hi : X.N[i]? = some x) (hx : Loc X.env.scope x) (he : PE X e te) (ho : PIp X op ti) (hf : X.fn x = true ∨ X.env.scope.names.lookup x = some .local := by first | exact .inl rfl | exact .inr rfl | assumption) :
    PS X (.AugAssign (.Name x pos') op e pos) (tAug i te ti) := by
  intro pins s σ H D I h
  obtain ⟨v, e1, h⟩ := h
  obtain ⟨m, hn, hl⟩ := I.loc
  have vis : Vis X.env.scope x := by rcases hx with k | k; exact .inl k; exact .inr (.inl k)
  obtain ⟨u, r, l⟩ := hl i x v hi e1 vis
  refine wpAny_AugAssign_Name ?_
  have go : wpAny (model X.prog X.w) X.A (eval e X.env) (fun w s₂ => wpAny (model X.prog X.w) X.A (inplaceOp op u w) (fun r s₃ => wpAny (model X.prog X.w) X.A (storeName X.env x r) (fun _ => SP X pins D .next) X.xe s₃) X.xe s₂) X.xe s := by
    refine thn (he pins s σ H _ I h) fun w s1 ⟨y, H1, I1, r1, q1⟩ => ?_
    refine thn (ho pins s1 σ H1 v y u w _ I1 r r1 q1) fun z s2 ⟨zv, H2, I2, r2, q2⟩ => ?_
    exact store_ok I2 hN hi hx r2 (fun s3 I3 => ⟨_, H2, I3, q2⟩) hf
  rcases l with ⟨hk, hm⟩ | ⟨hk, c, hc, hcell⟩
  · exact wpAny_loadName_local I.ok.kind hk hn hm go
  · rcases hk with hk | hk
    · exact wpAny_loadName_cell I.ok.kind hk hc hcell go
    · rcases hx with k | k
      · have : X.env.scope.names.lookup x = some .free := hk
        rw [k] at this; cases this
      · have : X.env.scope.names.lookup x = some .free := hk
        rw [k] at this; cases this
def tAugS (to ti te : TE) (tget : V → V → Hp → VK → Prop) (tip : TIp) (tset : TSet) : TS := fun D σ H => to σ H fun o H1 => ti σ H1 fun i H2 => tget o i H2 fun x H3 => te σ H3 fun y H4 => tip x y H4 fun z H5 => tset o i z H5 fun H6 => D.nx σ H6
def PGet (X : Cx) (t : V → V → Hp → VK → Prop) : Prop :=
  ∀ (pins : List (Addr × Obj)) (s : Shared) (σ : St) (H : Hp) (o i : V) (ov iv : Value) (Q : VK), Inv X pins σ H s → RelV o ov → RelV i iv → t o i H Q →
    wpAny (model X.prog X.w) X.A (getItem ov iv) (EP X pins σ Q) X.xe s
def ipI (f : Int → Int → Int) : TIp := fun x y H Q => ∃ i j, x = .int i ∧ y = .int j ∧ Q (.int (f i j)) H
theorem ip_add : PIp X .Add (ipI fun i j => i + j) := by
  intro pins s σ H x y v u Q I r1 r2 h
  obtain ⟨i, j, e1, e2, q⟩ := h
  subst e1; subst e2
  obtain ⟨t, rfl⟩ := r1
  obtain ⟨t', rfl⟩ := r2
  exact iadd_int ⟨.int _, H, I.tok _, ⟨_, rfl⟩, q⟩
end
section
variable {X : Cx} {pos : Pos}
def tWhile (c : TT) (tb : TS) : TS := fun D σ H => ∃ W : Nat → St → Hp → Prop, (∃ m, W m σ H) ∧ ∀ m σ H, W m σ H →
  c σ H fun b H1 => if b = true then ∃ N : St → Hp → Prop, (∀ σ' H', N σ' H' → ∃ m', m' < m ∧ W m' σ' H') ∧ tb { D with nx := N, ct := N, bk := D.nx } σ H1 else D.nx σ H1
theorem ps_while {c : Expr} {body : List Stmt} {tc : TT} {tb : TS} (hp : PassesOwn (model X.prog X.w) X.A X.env X.xe) (hc : PT X c tc) (hb : PSs X body tb) : PS X (.While c body [] pos) (tWhile tc tb) := by
  intro pins s σ H D I h
  obtain ⟨W, ⟨m0, w0⟩, turn⟩ := h
  refine wpAny_While (codeAny_whileLoop (fun n s' => ∃ σ' H', Inv X pins σ' H' s' ∧ W n σ' H') ?_ m0 ⟨σ, H, I, w0⟩)
  rintro n s1 ⟨σ1, H1, I1, w1⟩
  refine wpAny_passesOwn hp (thn (hc pins s1 σ1 H1 _ I1 (turn n σ1 H1 w1)) fun b s2 ⟨H2, I2, q2⟩ => ?_)
  cases b with
  | true =>
    obtain ⟨N, hN, q2⟩ := q2
    rw [if_pos rfl]
    refine wpAny_passesOwn hp (thn (hb pins s2 σ1 H2 _ I2 q2) fun f s3 q3 => ?_)
    cases f with
    | next =>
      obtain ⟨σ3, H3, I3, n3⟩ := q3
      obtain ⟨m', hm, w3⟩ := hN σ3 H3 n3
      exact ⟨m', hm, σ3, H3, I3, w3⟩
    | cont =>
      obtain ⟨σ3, H3, I3, n3⟩ := q3
      obtain ⟨m', hm, w3⟩ := hN σ3 H3 n3
      exact ⟨m', hm, σ3, H3, I3, w3⟩
    | brk => exact q3
    | ret v => exact q3
  | false =>
    rw [if_neg Bool.false_ne_true]
    exact wpAny_execs_nil ⟨σ1, H2, I2, q2⟩
end
structure It where
  go : Nat → Hp → Prop
  yld : Nat → Hp → V → Hp → Prop
  stop : Nat → Hp → Prop
def FpOk (X : Cx) (pins : List (Addr × Obj)) (H : Hp) (b : Addr) : Prop :=
  H b = none ∧ b ≠ X.env.locals ∧ b ∉ X.fs ∧ (b ∈ X.ex ∨ X.s₀.heap.objs.size ≤ b) ∧ (∀ x c, X.env.cells.lookup x = some c → c ≠ b) ∧ ∀ p ∈ X.pn ++ pins, p.1 ≠ b
theorem Inv.fpOk {X : Cx} {pins : List (Addr × Obj)} {σ : St} {H H' : Hp} {s : Shared} {b : Addr} (I : Inv X pins σ H s) (hb : s.heap.objs.size ≤ b) (hn : H' b = none) : FpOk X pins H' b := by
  refine ⟨hn, Nat.ne_of_gt (Nat.lt_of_lt_of_le I.lt hb), I.nofs hb, .inr (Nat.le_trans I.sz hb), fun x c e z => ?_, fun p hp z => ?_⟩
  · obtain ⟨v, q⟩ := I.cell x c e
    exact absurd (Nat.lt_of_lt_of_le q.lt (by rw [z]; exact hb)) (Nat.lt_irrefl _)
  · exact absurd (Nat.lt_of_lt_of_le (Heap.lt_size (I.pin p hp).1) (by rw [z]; exact hb)) (Nat.lt_irrefl _)
structure Turn (P : Program) (w : World) (K : PySem.W.Frag) (tg : Expr) (J : It) (fp : List Addr) (it : Addr) (tn : Nat → Heap → Prop) : Prop where
  mem : it ∈ fp
  obj : ∀ i h, tn i h → ∀ b ∈ fp, ∃ o, h.get? b = some o ∧ ∀ v, o.data ≠ .cell v
  keep : ∀ i h h', tn i h → (∀ b ∈ fp, ∀ o, h.get? b = some o → h'.get? b = some o) → tn i h'
  item : ∀ (X : Cx), X.prog = P → X.w = w → X.K = K → X.calm = true → ∀ (i : Nat) (pins : List (Addr × Obj)) (s : Shared) (σ : St) (H : Hp) (E : Value → Shared → Prop), Inv X pins σ H s → (∀ b ∈ fp, FpOk X pins H b) → tn i s.heap → J.go i H →
    wpAny (model P w) X.A (pyNext (.ref it)) (fun r s1 => ∃ u, r = some u ∧
      wpAny (model P w) X.A (letOwnedTupleGo tg (.ref it) u) (fun _ s2 => ∃ x H', Inv X pins σ H' s2 ∧ RelV x u ∧ J.yld i H x H' ∧ tn (i + 1) s2.heap ∧ ∀ b ∈ fp, H' b = none) E s1) E s
  done : ∀ (X : Cx), X.prog = P → X.w = w → X.K = K → X.calm = true → ∀ (i : Nat) (pins : List (Addr × Obj)) (s : Shared) (σ : St) (H : Hp) (E : Value → Shared → Prop), Inv X pins σ H s → (∀ b ∈ fp, FpOk X pins H b) → tn i s.heap → J.stop i H →
    wpAny (model P w) X.A (pyNext (.ref it)) (fun r s1 => r = none ∧ Inv X pins σ H s1) E s
  self : ∀ (A : Around) (i : Nat) (s : Shared) (Q : Value → Shared → Prop) (E : Value → Shared → Prop), tn i s.heap → Q (.ref it) s → wpAny (model P w) A (pyIter (.ref it)) Q E s
abbrev TI := St → Hp → (It → Hp → Prop) → Prop
def PIE (X : Cx) (pins : List (Addr × Obj)) (σ : St) (tg : Expr) (R : It → Hp → Prop) (itv : Value) (s2 : Shared) : Prop :=
  ∃ (it : Addr) (fp : List Addr) (tn : Nat → Heap → Prop) (J : It) (H' : Hp), itv = .ref it ∧ Inv X pins σ H' s2 ∧ Turn X.prog X.w X.K tg J fp it tn ∧ tn 0 s2.heap ∧ (∀ b ∈ fp, FpOk X pins H' b) ∧ R J H'
def PI (X : Cx) (tg iter : Expr) (wi : TI) : Prop :=
  ∀ (pins : List (Addr × Obj)) (s : Shared) (σ : St) (H : Hp) (R : It → Hp → Prop), Inv X pins σ H s → wi σ H R →
    wpAny (model X.prog X.w) X.A (eval iter X.env) (fun v s1 => wpAny (model X.prog X.w) X.A (pyIter v) (PIE X pins σ tg R) X.xe s1) X.xe s
theorem go_of {M : Model} {A : Around} {E : Value → Shared → Prop} {s : Shared} {tg : Expr} {it : Addr} {u : Value} {o : Obj} {n : String} {vs : Array Value} {Q : Unit → Shared → Prop} (ho : s.heap.get? it = some o) (hc : o.cls = .type n) (hd : o.data = .fields vs)
    (hn : ["enumerate", "zip", "dict_itemiterator", "dict_reverseitemiterator", "odict_iterator", "itertools.zip_longest", "itertools.pairwise"].contains n = false) (hQ : Q () s) : wpAny M A (letOwnedTupleGo tg (.ref it) u) Q E s := by
  unfold letOwnedTupleGo
  cases tg <;> first
    | exact wpAny_pure hQ
    | (cases u <;> first
        | exact wpAny_pure hQ
        | (refine wpAny_bind (wpAny_load ho ?_)
           rw [hc, hd]
           show wpAny M A (if (["enumerate", "zip", "dict_itemiterator", "dict_reverseitemiterator", "odict_iterator", "itertools.zip_longest", "itertools.pairwise"].contains n && vs[0]? == some (rawInt _)) = true then _ else _) Q E s
           rw [if_neg (by intro h; rw [hn, Bool.false_and] at h; cases h)]
           exact wpAny_pure hQ))
def Itl (K : PySem.W.Frag) (a : Addr) : It :=
  ⟨fun i H => ∃ xs x, SqL K H a xs ∧ xs[i]? = some x, fun i H x H' => H' = H ∧ ∀ xs, SqL K H a xs → xs[i]? = some x, fun i H => ∃ xs, SqL K H a xs ∧ xs.length ≤ i⟩
def Itt (K : PySem.W.Frag) (a : Addr) : It :=
  ⟨fun i H => ∃ xs x, SqT K H a xs ∧ xs[i]? = some x, fun i H x H' => H' = H ∧ ∀ xs, SqT K H a xs → xs[i]? = some x, fun i H => ∃ xs, SqT K H a xs ∧ xs.length ≤ i⟩
def Itr (lo : Int) (n : Nat) : It := ⟨fun i _ => i < n, fun i H x H' => H' = H ∧ x = .int (lo + i), fun i _ => n ≤ i⟩
theorem turn_list {P : Program} {w : World} {K : PySem.W.Frag} {tg : Expr} (a it : Addr) : Turn P w K tg (Itl K a) [it] it (fun i h => h.IsListIter it a i) where
  mem := by simp
  obj := fun i h st b hb => by
    have e : b = it := by simpa using hb
    subst e
    obtain ⟨o, e, c, d⟩ := st
    exact ⟨o, e, fun v z => by rw [d] at z; cases z⟩
  keep := fun i h h' st k => st.at fun o e => k it (by simp) o e
  item := by
    intro X hP hw hK hc i pins s σ H E I hf st hg
    subst hP hw hK
    obtain ⟨xs, x, hq, hx⟩ := hg
    obtain ⟨its, rv, p, hz⟩ := I.list hq
    obtain ⟨u, hu, ru⟩ := rv.get hx
    obtain ⟨f0, f1, f2, f3, f4, f5⟩ := hf it (by simp)
    refine wpAny_pyNext_list_item st p.isList (x := u) (by simpa using hu) fun h' st' sb => ?_
    have I1 : Inv X pins σ H { s with heap := h' } := I.turned (t' := s.toks) (fun b o hb e => (sb.2 b hb).trans e) f0 f1 f3 f4 f5
    obtain ⟨o, e, c, d⟩ := id st'
    exact ⟨u, rfl, go_of (s := { s with heap := h' }) e c d (by decide) ⟨x, H, I1, ru, ⟨rfl, fun ys hy => by rw [I.list_inj hy hq]; exact hx⟩, st', fun b hb => (hf b hb).1⟩⟩
  done := by
    intro X hP hw hK hc i pins s σ H E I hf st hg
    subst hP hw hK
    obtain ⟨xs, hq, hx⟩ := hg
    obtain ⟨its, rv, p, hz⟩ := I.list hq
    obtain ⟨f0, f1, f2, f3, f4, f5⟩ := hf it (by simp)
    have hl := rv.length
    exact wpAny_pyNext_list_end (I.ok.hd hc) st p.isList (by simp; omega) fun h' eb => ⟨rfl, I.turned (t' := s.toks) (fun b o hb e => eb b o hb e) f0 f1 f3 f4 f5⟩
  self := fun _ _ _ _ _ st h => wpAny_pyIter_listiter st h
theorem turn_range {P : Program} {w : World} {K : PySem.W.Frag} {tg : Expr} (it : Addr) (lo : Int) (n : Nat) : Turn P w K tg (Itr lo n) [it] it (fun i h => IsRangeIter h it (lo + (i : Nat) * 1) ((n : Int) - (i : Nat)) 1) where
  mem := by simp
  obj := fun i h st b hb => by
    have e : b = it := by simpa using hb
    subst e
    exact ⟨_, st, fun v z => by
      have z' : Data.fields _ = Data.cell v := z
      cases z'⟩
  keep := fun i h h' st k => k it (by simp) _ st
  item := by
    intro X hP hw hK hc i pins s σ H E I hf st hg
    subst hP hw hK
    obtain ⟨f0, f1, f2, f3, f4, f5⟩ := hf it (by simp)
    have W := Walks.range (prog := X.prog) (w := X.w) (I.ok.hd hc) it lo 1 n
    refine W.item i s _ _ hg st fun v h' tk hv st' kk => ?_
    obtain ⟨t, rfl⟩ := hv
    have I1 : Inv X pins σ H { s with heap := h', toks := tk } := I.turned (fun b o hb e => kk b o (by simpa using hb) e) f0 f1 f3 f4 f5
    refine ⟨_, rfl, go_of (s := { s with heap := h', toks := tk }) (n := "range_iterator") st' rfl rfl (by decide) ⟨.int (lo + i), H, I1, ⟨t, ?_⟩, ⟨rfl, rfl⟩, st', fun b hb => (hf b hb).1⟩⟩
    rw [Int.mul_one]
  done := by
    intro X hP hw hK hc i pins s σ H E I hf st hg
    subst hP hw hK
    obtain ⟨f0, f1, f2, f3, f4, f5⟩ := hf it (by simp)
    exact wpAny_pyNext_range_end (I.ok.hd hc) st (by have : n ≤ i := hg; omega) fun h' eb => ⟨rfl, I.turned (t' := s.toks) (fun b o hb e => eb b o hb e) f0 f1 f3 f4 f5⟩
  self := fun _ _ _ _ _ st h => wpAny_pyIter_rangeiter st h
end L2
namespace L2
open PySem PySem.Spec PyProof.Rows
section
variable {X : Cx} {tg : Expr}
def iList (K : PySem.W.Frag) (tl : TE) : TI := fun σ H R => tl σ H fun x H1 => ∃ a, x = .ref a ∧ (∃ xs, SqL K H1 a xs) ∧ R (Itl K a) H1
def iTup (K : PySem.W.Frag) (tl : TE) : TI := fun σ H R => tl σ H fun x H1 => ∃ a, x = .ref a ∧ (∃ xs, SqT K H1 a xs) ∧ R (Itt K a) H1
theorem pi_list {l : Expr} {tl : TE} (hl : PE X l tl) : PI X tg l (iList X.K tl) := by
  intro pins s σ H R I h
  refine thn (hl pins s σ H _ I h) fun v s1 ⟨x, H1, I1, r1, q1⟩ => ?_
  obtain ⟨a, e, ⟨xs, hq⟩, q⟩ := q1
  subst e
  cases r1
  obtain ⟨its, rv, p, hz⟩ := I1.list hq
  refine wpAny_pyIter_list p.isList ?_
  refine ⟨s1.heap.objs.size, [s1.heap.objs.size], _, _, H1, rfl, I1.kept (t' := s1.toks) fun b o e => Heap.get?_push_of_some _ e, turn_list a _, ⟨_, Heap.get?_push_size _ rfl, rfl, rfl⟩, fun b hb => ?_, q⟩
  have e : b = s1.heap.objs.size := by simpa using hb
  subst e
  exact I1.fpOk (Nat.le_refl _) (I1.hok.fresh (Nat.le_refl _))
theorem range_it {pins : List (Addr × Obj)} {σ : St} {H : Hp} {s : Shared} {R : It → Hp → Prop} {E : Value → Shared → Prop} {lo hi : Int} {t u v : Tok} {tk : Nat} (I : Inv X pins σ H s) (h1 : -(2 ^ 62) ≤ lo) (h2 : lo < 2 ^ 62) (h3 : -(2 ^ 62) ≤ hi) (h4 : hi < 2 ^ 62)
    (q : R (Itr lo (hi - lo).toNat) H) : wpAny (model X.prog X.w) X.A (pyIter (.ref s.heap.objs.size)) (PIE X pins σ tg R) E { s with heap := s.heap.push { cls := .type "range", data := .fields #[.int lo t, .int hi u, .int 1 v] }, toks := tk } := by
  refine wpAny_pyIter_range (IsRange.new ..) (small_one h1 h2 h3 h4) ?_
  have I1 : Inv X pins σ H { s with heap := s.heap.push { cls := .type "range", data := .fields #[.int lo t, .int hi u, .int 1 v] }, toks := tk } := I.kept fun b o e => Heap.get?_push_of_some _ e
  refine ⟨(s.heap.push { cls := .type "range", data := .fields #[.int lo t, .int hi u, .int 1 v] }).objs.size, [(s.heap.push { cls := .type "range", data := .fields #[.int lo t, .int hi u, .int 1 v] }).objs.size], _, _, H, rfl,
    I1.kept (t' := tk) fun b o e => Heap.get?_push_of_some _ e, turn_range _ lo (hi - lo).toNat, ?_, fun b hb => ?_, q⟩
  · have e1 : lo + ((0 : Nat) : Int) * 1 = lo := by simp
    have e2 : (((hi - lo).toNat : Nat) : Int) - ((0 : Nat) : Int) = Builtin.Range.rangeSize lo hi 1 := by rw [rangeSize_one]; split <;> omega
    show IsRangeIter _ _ (lo + ((0 : Nat) : Int) * 1) ((((hi - lo).toNat : Nat) : Int) - ((0 : Nat) : Int)) 1
    rw [e1, e2]
    exact Heap.get?_push_size _ rfl
  · have e : b = (s.heap.push { cls := .type "range", data := .fields #[.int lo t, .int hi u, .int 1 v] }).objs.size := by simpa using hb
    subst e
    exact I1.fpOk (Nat.le_refl _) (I1.hok.fresh (Nat.le_refl _))
def iRng1 (ta : TA) : TI := fun σ H R => ta σ H fun vs H1 => ∃ j : Int, vs = [.int j] ∧ -(2 ^ 62) ≤ j ∧ j < 2 ^ 62 ∧ R (Itr 0 j.toNat) H1
def iRng2 (ta : TA) : TI := fun σ H R => ta σ H fun vs H1 => ∃ i j : Int, vs = [.int i, .int j] ∧ (-(2 ^ 62) ≤ i ∧ i < 2 ^ 62 ∧ -(2 ^ 62) ≤ j ∧ j < 2 ^ 62) ∧ R (Itr i (j - i).toNat) H1
theorem pi_range1 {a : Expr} {ta : TA} {p pos : Pos} (hg : Gl X "range") (hm : X.mg "range" = none) (ha : PA X [a] ta) (hs : starEach [a] X.env = [(false, eval a X.env)] := by rfl) : PI X tg (.Call (.Name "range" p) [a] [] pos) (iRng1 ta) := by
  intro pins s σ H R I h
  refine Call_ (ld_blt I hg hm boot_range (PyProof.Rows.callWith_type1 (thn (ha pos pins s σ H _ I h) fun us s1 ⟨vs, H1, I1, r1, q1⟩ => ?_) hs rfl))
  obtain ⟨j, e, q1, q2, q⟩ := q1
  subst e
  cases r1 with
  | cons r rr =>
    cases rr
    obtain ⟨t, rfl⟩ := r
    exact call_range_1 (range_it I1 (by omega) (by omega) q1 q2 (by simpa using q))
def tFor (wi : TI) (g : TG) (tb : TS) : TS := fun D σ H => wi σ H fun J H1 => ∃ W : Nat → Nat → St → Hp → Prop, (∃ m, W 0 m σ H1) ∧ ∀ i m σ H, W i m σ H →
  (J.stop i H ∧ D.nx σ H) ∨ (J.go i H ∧ ∃ N : St → Hp → Prop, (∀ σ' H', N σ' H' → ∃ m', m' < m ∧ W (i + 1) m' σ' H') ∧ ∀ x H', J.yld i H x H' → g x σ H' fun σ2 H2 => tb { D with nx := N, ct := N, bk := D.nx } σ2 H2)
def pinsAt (fp : List Addr) (h : Heap) : List (Addr × Obj) := fp.filterMap fun b => (h.get? b).map fun o => (b, o)
theorem mem_pinsAt {fp : List Addr} {h : Heap} {b : Addr} {o : Obj} (hb : b ∈ fp) (e : h.get? b = some o) : (b, o) ∈ pinsAt fp h := List.mem_filterMap.mpr ⟨b, hb, by rw [e]; rfl⟩
theorem of_pinsAt {fp : List Addr} {h : Heap} {p : Addr × Obj} (hp : p ∈ pinsAt fp h) : p.1 ∈ fp ∧ h.get? p.1 = some p.2 := by
  obtain ⟨b, hb, e⟩ := List.mem_filterMap.mp hp
  cases q : h.get? b with
  | none => rw [q] at e; cases e
  | some o =>
    rw [q] at e
    have e' : (b, o) = p := Option.some.inj e
    subst e'
    exact ⟨hb, q⟩
theorem Inv.pinned {pins : List (Addr × Obj)} {σ : St} {H : Hp} {s : Shared} {fp : List Addr} (I : Inv X pins σ H s) (hf : ∀ b ∈ fp, FpOk X pins H b) (ho : ∀ b ∈ fp, ∃ o, s.heap.get? b = some o ∧ ∀ v, o.data ≠ .cell v) : Inv X (pins ++ pinsAt fp s.heap) σ H s :=
  I.pins_of fun p hp => (List.mem_append.mp hp).elim (fun z => I.pin p (List.mem_append_right _ z)) fun z => by
    obtain ⟨hb, e⟩ := of_pinsAt z
    obtain ⟨f0, f1, f2, _⟩ := hf p.1 hb
    obtain ⟨o, e', d⟩ := ho p.1 hb
    rw [e] at e'; cases e'
    exact ⟨e, f0, f1, f2, d⟩
theorem Inv.unpinned {pins pl : List (Addr × Obj)} {σ : St} {H : Hp} {s : Shared} (I : Inv X (pins ++ pl) σ H s) : Inv X pins σ H s := I.pins_of fun p hp => I.pin p (List.mem_append_right _ (List.mem_append_left _ hp))
theorem ps_for {iter : Expr} {body : List Stmt} {wi : TI} {g : TG} {tb : TS} {pos : Pos} (hp : PassesOwn (model X.prog X.w) X.A X.env X.xe) (hc : X.calm = true) (hi : PI X tg iter wi) (hg : PG X tg g) (hb : PSs X body tb)
    (hs : ∀ x, foldedSetIterable iter X.env x = pure x := by intro _; rfl) : PS X (.For tg iter body [] pos) (tFor wi g tb) := by
  intro pins s σ H D I h
  refine wpAny_For (thn (hi pins s σ H _ I h) fun v s1 h1 => thn h1 fun itv s2 h2 => ?_) hs
  obtain ⟨it, fp, tn, J, H2, e, I2, T, st2, f2, W, ⟨m0, w0⟩, turn⟩ := h2
  subst e
  -- what stays true of the iterator's objects through the loop
  have stat : ∀ {H' : Hp}, (∀ b ∈ fp, H' b = none) → ∀ b ∈ fp, FpOk X pins H' b := fun hn b hb => ⟨hn b hb, (f2 b hb).2⟩
  refine codeAny_forLoop_any (fun n s' => ∃ i σ' H', Inv X pins σ' H' s' ∧ tn i s'.heap ∧ (∀ b ∈ fp, H' b = none) ∧ W i n σ' H') ?_ m0 ⟨0, σ, H2, I2, st2, fun b hb => (f2 b hb).1, w0⟩
  rintro n s3 ⟨i, σ3, H3, I3, st3, fr3, w3⟩
  rcases turn i n σ3 H3 w3 with ⟨stop, qn⟩ | ⟨go, N, hN, step⟩
  · refine wpAny_passesOwn hp (thn (T.done X rfl rfl rfl hc i pins s3 σ3 H3 X.xe I3 (stat fr3) st3 stop) fun r s4 ⟨hr, I4⟩ => ?_)
    subst hr
    exact wpAny_execs_nil ⟨σ3, H3, I4, qn⟩
  · refine wpAny_passesOwn hp (thn (T.item X rfl rfl rfl hc i pins s3 σ3 H3 X.xe I3 (stat fr3) st3 go) fun r s4 ⟨u, hr, h4⟩ => ?_)
    subst hr
    refine wpAny_passesOwn hp (thn h4 fun _ s5 ⟨x, H5, I5, r5, y5, st5, fr5⟩ => ?_)
    have I5' := I5.pinned (stat fr5) (T.obj _ _ st5)
    refine wpAny_passesOwn hp (thn (hg _ s5 σ3 H5 x u _ I5' r5 (step x H5 y5)) fun _ s6 ⟨σ6, H6, I6, q6⟩ => ?_)
    refine wpAny_passesOwn hp (thn (hb _ s6 σ6 H6 _ I6 q6) fun f s7 q7 => ?_)
    have again : ∀ {σ7 : St} {H7 : Hp}, Inv X (pins ++ pinsAt fp s5.heap) σ7 H7 s7 → N σ7 H7 → ∃ m, m < n ∧ ∃ i σ' H', Inv X pins σ' H' s7 ∧ tn i s7.heap ∧ (∀ b ∈ fp, H' b = none) ∧ W i m σ' H' := fun {σ7 H7} I7 n7 => by
      obtain ⟨m', hm, w7⟩ := hN σ7 H7 n7
      refine ⟨m', hm, i + 1, σ7, H7, I7.unpinned, T.keep _ _ _ st5 fun b hb o e => (I7.pin (b, o) (List.mem_append_right _ (List.mem_append_right _ (mem_pinsAt hb e)))).1, fun b hb => ?_, w7⟩
      obtain ⟨o, e, d⟩ := T.obj _ _ st5 b hb
      exact (I7.pin (b, o) (List.mem_append_right _ (List.mem_append_right _ (mem_pinsAt hb e)))).2.1
    cases f with
    | next => obtain ⟨σ7, H7, I7, n7⟩ := q7; exact again I7 n7
    | cont => obtain ⟨σ7, H7, I7, n7⟩ := q7; exact again I7 n7
    | brk => obtain ⟨σ7, H7, I7, q7⟩ := q7; exact ⟨σ7, H7, I7.unpinned, q7⟩
    | ret v => obtain ⟨x7, σ7, H7, I7, r7, q7⟩ := q7; exact ⟨x7, σ7, H7, I7.unpinned, r7, q7⟩
end
theorem for_list {K : PySem.W.Frag} {a : Addr} {xs : List V} {g : TG} {tb : TS} {D : Ends} {σ : St} {H : Hp} (Pv : Nat → St → Hp → Prop) (h0 : Pv 0 σ H) (hl : ∀ i σ H, i ≤ xs.length → Pv i σ H → SqL K H a xs)
    (hs : ∀ i x σ H, xs[i]? = some x → Pv i σ H → g x σ H fun σ2 H2 => tb { D with nx := Pv (i + 1), ct := Pv (i + 1), bk := D.nx } σ2 H2) (hd : ∀ σ H, Pv xs.length σ H → D.nx σ H) :
    ∃ W : Nat → Nat → St → Hp → Prop, (∃ m, W 0 m σ H) ∧ ∀ i m σ H, W i m σ H →
      ((Itl K a).stop i H ∧ D.nx σ H) ∨ ((Itl K a).go i H ∧ ∃ N : St → Hp → Prop, (∀ σ' H', N σ' H' → ∃ m', m' < m ∧ W (i + 1) m' σ' H') ∧ ∀ x H', (Itl K a).yld i H x H' → g x σ H' fun σ2 H2 => tb { D with nx := N, ct := N, bk := D.nx } σ2 H2) := by
  refine ⟨fun i m σ H => m = xs.length - i ∧ i ≤ xs.length ∧ Pv i σ H, ⟨xs.length, by simp, Nat.zero_le _, h0⟩, ?_⟩
  rintro i m σ H ⟨rfl, hi, p⟩
  have q := hl i σ H hi p
  by_cases hlt : i < xs.length
  · refine .inr ⟨⟨xs, xs[i], q, by simp [hlt]⟩, Pv (i + 1), fun σ' H' p' => ⟨xs.length - (i + 1), by omega, rfl, hlt, p'⟩, fun x H' y => ?_⟩
    obtain ⟨e, y⟩ := y
    subst e
    exact hs i x σ _ (y xs q) p
  · have e : i = xs.length := by omega
    subst e
    exact .inl ⟨⟨xs, q, Nat.le_refl _⟩, hd σ H p⟩
theorem for_range {lo : Int} {n : Nat} {g : TG} {tb : TS} {D : Ends} {σ : St} {H : Hp} (Pv : Nat → St → Hp → Prop) (h0 : Pv 0 σ H)
    (hs : ∀ i σ H, i < n → Pv i σ H → g (.int (lo + i)) σ H fun σ2 H2 => tb { D with nx := Pv (i + 1), ct := Pv (i + 1), bk := D.nx } σ2 H2) (hd : ∀ σ H, Pv n σ H → D.nx σ H) :
    ∃ W : Nat → Nat → St → Hp → Prop, (∃ m, W 0 m σ H) ∧ ∀ i m σ H, W i m σ H →
      ((Itr lo n).stop i H ∧ D.nx σ H) ∨ ((Itr lo n).go i H ∧ ∃ N : St → Hp → Prop, (∀ σ' H', N σ' H' → ∃ m', m' < m ∧ W (i + 1) m' σ' H') ∧ ∀ x H', (Itr lo n).yld i H x H' → g x σ H' fun σ2 H2 => tb { D with nx := N, ct := N, bk := D.nx } σ2 H2) := by
  refine ⟨fun i m σ H => m = n - i ∧ i ≤ n ∧ Pv i σ H, ⟨n, by simp, Nat.zero_le _, h0⟩, ?_⟩
  rintro i m σ H ⟨rfl, hi, p⟩
  by_cases hlt : i < n
  · refine .inr ⟨hlt, Pv (i + 1), fun σ' H' p' => ⟨n - (i + 1), by omega, rfl, hlt, p'⟩, fun x H' y => ?_⟩
    obtain ⟨e, y⟩ := y
    subst e y
    exact hs i σ _ hlt p
  · have e : i = n := by omega
    subst e
    exact .inl ⟨Nat.le_refl _, hd σ H p⟩
end L2
namespace L2
open PySem PySem.Spec PyProof.Rows
abbrev R2 := V → V → Hp → VK → Prop
def OpR (X : Cx) (f : Value → Value → Sem Value) (r : R2) : Prop :=
  ∀ (pins : List (Addr × Obj)) (s : Shared) (σ : St) (H : Hp) (x y : V) (v u : Value) (Q : VK), Inv X pins σ H s → RelV x v → RelV y u → r x y H Q →
    wpAny (model X.prog X.w) X.A (f v u) (EP X pins σ Q) X.xe s
def UnR (X : Cx) (f : Value → Sem Value) (r : V → Hp → VK → Prop) : Prop :=
  ∀ (pins : List (Addr × Obj)) (s : Shared) (σ : St) (H : Hp) (x : V) (v : Value) (Q : VK), Inv X pins σ H s → RelV x v → r x H Q →
    wpAny (model X.prog X.w) X.A (f v) (EP X pins σ Q) X.xe s
def CallR (X : Cx) (f : Value) (r : List V → Hp → VK → Prop) : Prop :=
  ∀ (pins : List (Addr × Obj)) (s : Shared) (σ : St) (H : Hp) (xs : List V) (us : List Value) (Q : VK), Inv X pins σ H s → Vals xs us → r xs H Q →
    wpAny (model X.prog X.w) X.A (call f us) (EP X pins σ Q) X.xe s
def TruR (X : Cx) (r : V → Hp → (Bool → Hp → Prop) → Prop) : Prop :=
  ∀ (pins : List (Addr × Obj)) (s : Shared) (σ : St) (H : Hp) (x : V) (v : Value) (Q : Bool → Hp → Prop), Inv X pins σ H s → RelV x v → r x H Q →
    wpAny (model X.prog X.w) X.A (truthy v) (TP X pins σ Q) X.xe s
def tOp (r : R2) (ta tb : TE) : TE := fun σ H Q => ta σ H fun x H1 => tb σ H1 fun y H2 => r x y H2 Q
def tUn (r : V → Hp → VK → Prop) (ta : TE) : TE := fun σ H Q => ta σ H fun x H1 => r x H1 Q
def rI (C : Int → Int → Prop) (g : Int → Int → V) : R2 := fun x y H Q => ∃ i j, x = .int i ∧ y = .int j ∧ C i j ∧ Q (g i j) H
def rI0 (g : Int → Int → V) : R2 := fun x y H Q => ∃ i j, x = .int i ∧ y = .int j ∧ Q (g i j) H
def rU (g : Int → V) : V → Hp → VK → Prop := fun x H Q => ∃ i, x = .int i ∧ Q (g i) H
section
variable {X : Cx} {a b c : Expr} {ta tb tc : TE} {pos : Pos}
theorem binT (ha : PE X a ta) (hb : PE X b tb) {pins : List (Addr × Obj)} {s : Shared} {σ : St} {H : Hp} {R : V → V → Hp → Prop} (I : Inv X pins σ H s)
    (h : ta σ H fun x H1 => tb σ H1 fun y H2 => R x y H2) {Q : Value → Shared → Prop} {f : Value → Value → Sem Value}
    (hf : ∀ v u s2 x y H2, Inv X pins σ H2 s2 → RelV x v → RelV y u → R x y H2 → wpAny (model X.prog X.w) X.A (f v u) Q X.xe s2) :
    wpAny (model X.prog X.w) X.A (eval a X.env) (fun v s₁ => wpAny (model X.prog X.w) X.A (eval b X.env) (fun u s₂ => wpAny (model X.prog X.w) X.A (f v u) Q X.xe s₂) X.xe s₁) X.xe s := by
  refine thn (ha pins s σ H _ I h) fun v s1 ⟨x, H1, I1, r1, q1⟩ => ?_
  refine thn (hb pins s1 σ H1 _ I1 q1) fun u s2 ⟨y, H2, I2, r2, q2⟩ => ?_
  exact hf v u s2 x y H2 I2 r1 r2 q2
theorem pe_op {op : Operator} {r : R2} (ho : OpR X (binaryOp op) r) (ha : PE X a ta) (hb : PE X b tb) : PE X (.BinOp a op b pos) (tOp r ta tb) := by
  intro pins s σ H Q I h
  exact wpAny_BinOp (binT ha hb I h fun v u s2 x y H2 I2 rx ry q => ho pins s2 σ H2 x y v u Q I2 rx ry q)
theorem pe_un {op : UnaryOp} {r : V → Hp → VK → Prop} (ho : UnR X (unaryOp op) r) (ha : PE X a ta) : PE X (.UnaryOp op a pos) (tUn r ta) := by
  intro pins s σ H Q I h
  exact UnaryOp_ (thn (ha pins s σ H _ I h) fun v s1 ⟨x, H1, I1, r1, q1⟩ => ho pins s1 σ H1 x v Q I1 r1 q1)
theorem opI {f : Value → Value → Sem Value} {C : Int → Int → Prop} {g : Int → Int → Int}
    (rule : ∀ (i j : Int) (t u : Tok) (s : Shared) (Q : Value → Shared → Prop) (E : Value → Shared → Prop), C i j → Q (.int (g i j) s.toks) { s with toks := s.toks + 1 } → wpAny (model X.prog X.w) X.A (f (.int i t) (.int j u)) Q E s) :
    OpR X f (rI C fun i j => .int (g i j)) := by
  intro pins s σ H x y v u Q I rx ry h
  obtain ⟨i, j, rfl, rfl, hc, q⟩ := h
  obtain ⟨t, rfl⟩ := rx
  obtain ⟨t', rfl⟩ := ry
  exact rule i j t t' s _ _ hc ⟨.int (g i j), H, I.tok _, ⟨_, rfl⟩, q⟩
theorem opI0 {f : Value → Value → Sem Value} {g : Int → Int → Int}
    (rule : ∀ (i j : Int) (t u : Tok) (s : Shared) (Q : Value → Shared → Prop) (E : Value → Shared → Prop), Q (.int (g i j) s.toks) { s with toks := s.toks + 1 } → wpAny (model X.prog X.w) X.A (f (.int i t) (.int j u)) Q E s) :
    OpR X f (rI0 fun i j => .int (g i j)) := by
  intro pins s σ H x y v u Q I rx ry h
  obtain ⟨i, j, rfl, rfl, q⟩ := h
  obtain ⟨t, rfl⟩ := rx
  obtain ⟨t', rfl⟩ := ry
  exact rule i j t t' s _ _ ⟨.int (g i j), H, I.tok _, ⟨_, rfl⟩, q⟩
theorem opB0 {f : Value → Value → Sem Value} {g : Int → Int → Bool}
    (rule : ∀ (i j : Int) (t u : Tok) (s : Shared) (Q : Value → Shared → Prop) (E : Value → Shared → Prop), Q (.bool (g i j)) s → wpAny (model X.prog X.w) X.A (f (.int i t) (.int j u)) Q E s) :
    OpR X f (rI0 fun i j => .bl (g i j)) := by
  intro pins s σ H x y v u Q I rx ry h
  obtain ⟨i, j, rfl, rfl, q⟩ := h
  obtain ⟨t, rfl⟩ := rx
  obtain ⟨t', rfl⟩ := ry
  exact rule i j t t' s _ _ ⟨.bl (g i j), H, I, rfl, q⟩
def CDiv (i j : Int) : Prop := 0 < j ∧ j < 1073741824
def CDivN (i j : Int) : Prop := j ≠ 0 ∧ j.natAbs < 1073741824
def CPow (i j : Int) : Prop := 0 ≤ j ∧ j ≤ 1000000 ∧ i.natAbs < 2 ^ 64
def CMul (i j : Int) : Prop := (-(2 ^ 64) < i ∧ i < 2 ^ 64) ∨ (-(2 ^ 64) < j ∧ j < 2 ^ 64)
theorem CMul.ok {i j : Int} (h : CMul i j) : IntMulOk i j := by
  rcases h with ⟨h1, h2⟩ | ⟨h1, h2⟩
  · exact .of_left (intBits_le_64 h1 h2)
  · exact .of_right (intBits_le_64 h1 h2)
theorem op_add : OpR X (binaryOp .Add) (rI0 fun i j => .int (i + j)) := opI0 fun _ _ _ _ _ _ _ q => add_int q
theorem op_sub : OpR X (binaryOp .Sub) (rI0 fun i j => .int (i - j)) := opI0 fun _ _ _ _ _ _ _ q => sub_int q
theorem op_mul : OpR X (binaryOp .Mult) (rI CMul fun i j => .int (i * j)) := opI fun _ _ _ _ _ _ _ hc q => mul_int q hc.ok
theorem op_fdiv : OpR X (binaryOp .FloorDiv) (rI CDiv fun i j => .int (i / j)) := opI fun i j _ _ _ _ _ hc q => by
  have h1 : (0 : Int) < j := hc.1
  have h2 : j < 1073741824 := hc.2
  exact floordiv_int (by omega) (by rw [Int.fdiv_eq_ediv_of_nonneg i (by omega)]; exact q) (.inl (PyProof.noPylong_small (by omega)))
theorem op_mod : OpR X (binaryOp .Mod) (rI (fun _ j => 0 < j) fun i j => .int (i % j)) := opI fun i j _ _ _ _ _ hc q => by
  have h1 : (0 : Int) < j := hc
  exact mod_int' (by omega) (by rw [Int.fmod_eq_emod_of_nonneg i (by omega)]; exact q)
theorem op_modN : OpR X (binaryOp .Mod) (rI (fun _ j => j ≠ 0) fun i j => .int (i.fmod j)) := opI fun _ _ _ _ _ _ _ hc q => mod_int' hc q
theorem op_pow : OpR X (binaryOp .Pow) (rI CPow fun i j => .int (i ^ j.toNat)) := opI fun _ _ _ _ _ _ _ hc q => pow_int_small hc.1 hc.2.1 hc.2.2 q
theorem unI {f : Value → Sem Value} {g : Int → Int}
    (rule : ∀ (i : Int) (t : Tok) (s : Shared) (Q : Value → Shared → Prop) (E : Value → Shared → Prop), Q (.int (g i) s.toks) { s with toks := s.toks + 1 } → wpAny (model X.prog X.w) X.A (f (.int i t)) Q E s) :
    UnR X f (rU fun i => .int (g i)) := by
  intro pins s σ H x v Q I rx h
  obtain ⟨i, rfl, q⟩ := h
  obtain ⟨t, rfl⟩ := rx
  exact rule i t s _ _ ⟨.int (g i), H, I.tok _, ⟨_, rfl⟩, q⟩
theorem un_neg : UnR X (unaryOp .USub) (rU fun i => .int (-i)) := unI fun _ _ _ _ _ q => neg_int q
end
def scal : V → V → Bool
  | .non, .non => true | .non, .int _ => true | .int _, .non => true | .non, .bl _ => true | .bl _, .non => true | .non, .str _ => true | .str _, .non => true
  | .int _, .int _ => true | .bl _, .bl _ => true | .str _, .str _ => true | .byt _, .byt _ => true
  | .int _, .str _ => true | .str _, .int _ => true | .bl _, .str _ => true | .str _, .bl _ => true
  | _, _ => false
def rEq : R2 := fun x y H Q => scal x y = true ∧ Q (.bl (decide (x = y))) H
def rNe : R2 := fun x y H Q => scal x y = true ∧ Q (.bl (!decide (x = y))) H
theorem dec_int {i j : Int} : decide (V.int i = V.int j) = (i == j) := by
  rw [Bool.eq_iff_iff]
  simp
theorem dec_bl {i j : Bool} : decide (V.bl i = V.bl j) = (i == j) := by
  rw [Bool.eq_iff_iff]
  simp
theorem dec_str {i j : Str} : decide (V.str i = V.str j) = (i == j) := by
  rw [Bool.eq_iff_iff]
  simp
theorem dec_byt {i j : Array UInt8} : decide (V.byt i = V.byt j) = (i.toList == j.toList) := by
  rw [Bool.eq_iff_iff]
  cases i
  cases j
  simp
section
variable {X : Cx} {a b c : Expr} {ta tb tc : TE} {pos : Pos}
theorem fin_bl {pins : List (Addr × Obj)} {σ : St} {H : Hp} {s : Shared} {Q : VK} {k k' : Bool} (I : Inv X pins σ H s) (q : Q (.bl k) H) (e : k = k') : EP X pins σ Q (.bool k') s := by
  subst e
  exact ⟨.bl k, H, I, rfl, q⟩
theorem op_eq : OpR X (compareOp .Eq) rEq := by
  intro pins s σ H x y v u Q I rx ry h
  obtain ⟨hs, q⟩ := h
  cases x with
  | non =>
    cases rx
    cases y with
    | non => cases ry; exact PySem.EqNone.eq_none_none (fin_bl I q (by simp))
    | bl j => cases ry; exact PySem.EqNone.eq_none_bool (fin_bl I q (by simp))
    | int j => obtain ⟨t', rfl⟩ := ry; exact PySem.EqNone.eq_none_int (fin_bl I q (by simp))
    | str j => obtain ⟨t', rfl⟩ := ry; exact PySem.EqNone.eq_none_str (fin_bl I q (by simp))
    | _ => exact absurd (show false = true from hs) Bool.false_ne_true
  | bl i =>
    cases rx
    cases y with
    | non => cases ry; exact PySem.EqNone.eq_bool_none (fin_bl I q (by simp))
    | bl j => cases ry; exact eq_bool (fin_bl I q dec_bl)
    | str j => obtain ⟨t', rfl⟩ := ry; exact PySem.EqMixed.eq_bool_str (fin_bl I q (by simp))
    | _ => exact absurd (show false = true from hs) Bool.false_ne_true
  | int i =>
    obtain ⟨t, rfl⟩ := rx
    cases y with
    | non => cases ry; exact PySem.EqNone.eq_int_none (fin_bl I q (by simp))
    | int j => obtain ⟨t', rfl⟩ := ry; exact eq_int (fin_bl I q dec_int)
    | str j => obtain ⟨t', rfl⟩ := ry; exact PySem.EqMixed.eq_int_str (fin_bl I q (by simp))
    | _ => exact absurd (show false = true from hs) Bool.false_ne_true
  | str i =>
    obtain ⟨t, rfl⟩ := rx
    cases y with
    | non => cases ry; exact PySem.EqNone.eq_str_none (fin_bl I q (by simp))
    | bl j => cases ry; exact PySem.EqMixed.eq_str_bool (fin_bl I q (by simp))
    | int j => obtain ⟨t', rfl⟩ := ry; exact PySem.EqMixed.eq_str_int (fin_bl I q (by simp))
    | str j => obtain ⟨t', rfl⟩ := ry; exact eq_str (fin_bl I q dec_str)
    | _ => exact absurd (show false = true from hs) Bool.false_ne_true
  | byt i =>
    obtain ⟨t, rfl⟩ := rx
    cases y with
    | byt j => obtain ⟨t', rfl⟩ := ry; exact PySem.W.eq_bytes (fin_bl I q dec_byt)
    | _ => exact absurd (show false = true from hs) Bool.false_ne_true
  | _ => cases y <;> exact absurd (show false = true from hs) Bool.false_ne_true
theorem op_ne : OpR X (compareOp .NotEq) rNe := by
  intro pins s σ H x y v u Q I rx ry h
  obtain ⟨hs, q⟩ := h
  cases x with
  | non =>
    cases rx
    cases y with
    | non => cases ry; exact PySem.EqNone.ne_none_none (fin_bl I q (by simp))
    | bl j => cases ry; exact PySem.EqNone.ne_none_bool (fin_bl I q (by simp))
    | int j => obtain ⟨t', rfl⟩ := ry; exact PySem.EqNone.ne_none_int (fin_bl I q (by simp))
    | str j => obtain ⟨t', rfl⟩ := ry; exact PySem.EqNone.ne_none_str (fin_bl I q (by simp))
    | _ => exact absurd (show false = true from hs) Bool.false_ne_true
  | bl i =>
    cases rx
    cases y with
    | non => cases ry; exact PySem.EqNone.ne_bool_none (fin_bl I q (by simp))
    | bl j => cases ry; exact ne_bool (fin_bl I q (congrArg not dec_bl))
    | str j => obtain ⟨t', rfl⟩ := ry; exact PySem.EqMixed.ne_bool_str (fin_bl I q (by simp))
    | _ => exact absurd (show false = true from hs) Bool.false_ne_true
  | int i =>
    obtain ⟨t, rfl⟩ := rx
    cases y with
    | non => cases ry; exact PySem.EqNone.ne_int_none (fin_bl I q (by simp))
    | int j => obtain ⟨t', rfl⟩ := ry; exact ne_int (fin_bl I q (congrArg not dec_int))
    | str j => obtain ⟨t', rfl⟩ := ry; exact PySem.EqMixed.ne_int_str (fin_bl I q (by simp))
    | _ => exact absurd (show false = true from hs) Bool.false_ne_true
  | str i =>
    obtain ⟨t, rfl⟩ := rx
    cases y with
    | non => cases ry; exact PySem.EqNone.ne_str_none (fin_bl I q (by simp))
    | bl j => cases ry; exact PySem.EqMixed.ne_str_bool (fin_bl I q (by simp))
    | int j => obtain ⟨t', rfl⟩ := ry; exact PySem.EqMixed.ne_str_int (fin_bl I q (by simp))
    | str j => obtain ⟨t', rfl⟩ := ry; exact ne_str (fin_bl I q (congrArg not dec_str))
    | _ => exact absurd (show false = true from hs) Bool.false_ne_true
  | byt i =>
    obtain ⟨t, rfl⟩ := rx
    cases y with
    | byt j => obtain ⟨t', rfl⟩ := ry; exact PySem.W.ne_bytes (fin_bl I q (congrArg not dec_byt))
    | _ => exact absurd (show false = true from hs) Bool.false_ne_true
  | _ => cases y <;> exact absurd (show false = true from hs) Bool.false_ne_true
theorem op_lt : OpR X (compareOp .Lt) (rI0 fun i j => .bl (decide (i < j))) := opB0 fun _ _ _ _ _ _ _ q => lt_int q
theorem op_le : OpR X (compareOp .LtE) (rI0 fun i j => .bl (decide (i ≤ j))) := opB0 fun _ _ _ _ _ _ _ q => le_int q
theorem op_gt : OpR X (compareOp .Gt) (rI0 fun i j => .bl (decide (j < i))) := opB0 fun _ _ _ _ _ _ _ q => gt_int q
theorem op_ge : OpR X (compareOp .GtE) (rI0 fun i j => .bl (decide (j ≤ i))) := opB0 fun _ _ _ _ _ _ _ q => ge_int q
theorem op_isN : OpR X (compareOp .Is) (fun x y H Q => y = .non ∧ Q (.bl (decide (x = .non))) H) := by
  intro pins s σ H x y v u Q I rx ry h
  obtain ⟨rfl, q⟩ := h
  cases ry
  refine is_none_gen (fin_bl I q ?_)
  cases x <;> first
    | (cases rx; rfl)
    | (obtain ⟨t, rfl⟩ := rx; rfl)
def isObj : HO → Bool
  | .lst _ => true
  | .ins _ _ _ => true
  | _ => false
theorem nomark (b : Expr) {op : CmpOp} (h : op ≠ .In := by decide) (h2 : op ≠ .NotIn := by decide) : behindInMarks op b = false := by
  have e1 : (op == CmpOp.In) = false := by cases op <;> first | rfl | exact absurd rfl h
  have e2 : (op == CmpOp.NotIn) = false := by cases op <;> first | rfl | exact absurd rfl h2
  cases b <;> simp [behindInMarks, e1, e2]
theorem pe_cmpR {op : CmpOp} {r : R2} (ho : OpR X (compareOp op) r) (ha : PE X a ta) (hb : PE X b tb) (hm : behindInMarks op b = false) : PE X (.Compare a [op] [b] pos) (tOp r ta tb) := by
  intro pins s σ H Q I h
  exact wpAny_Compare1 (binT ha hb I h fun v u s2 x y H2 I2 rx ry q => ho pins s2 σ H2 x y v u Q I2 rx ry q) hm
def tTest (t : TE) : TT := fun σ H Q => t σ H fun x H' => ∃ k, x = .bl k ∧ Q k H'
theorem pt_cmpR {op : CmpOp} {r : R2} (ho : OpR X (compareOp op) r) (ha : PE X a ta) (hb : PE X b tb) (hm : behindInMarks op b = false) : PT X (.Compare a [op] [b] pos) (tTest (tOp r ta tb)) := by
  intro pins s σ H Q I h
  refine wpAny_isTrue_Compare1 (thn (ha pins s σ H _ I h) fun v s1 ⟨x, H1, I1, r1, q1⟩ => thn (hb pins s1 σ H1 _ I1 q1) fun u s2 ⟨y, H2, I2, r2, q2⟩ =>
    thn (ho pins s2 σ H2 x y v u _ I2 r1 r2 q2) fun c s3 ⟨z, H3, I3, r3, k, e, q3⟩ => ?_) hm
  subst e
  cases r3
  exact wpAny_truthy_bool ⟨H3, I3, q3⟩
def tChain (r r' : R2) (ta tb tc : TE) : TE := fun σ H Q => ta σ H fun x H1 => tb σ H1 fun y H2 => r x y H2 fun z H3 => ∃ k, z = .bl k ∧
  (if k = true then tc σ H3 fun w' H4 => r' y w' H4 Q else Q (.bl false) H3)
def TruV (K : PySem.W.Frag) (x : V) (H : Hp) (k : Bool) : Prop :=
  match x with
  | .non => k = false
  | .bl b => k = b
  | .int i => k = (i != 0)
  | .str y => y.length ≤ sizeLine ∧ k = ((y.length : Int) != 0)
  | .byt y => y.size ≤ sizeLine ∧ k = ((y.size : Int) != 0)
  | .ref p => (∃ xs, SqL K H p xs ∧ k = !xs.isEmpty) ∨ (∃ xs, SqT K H p xs ∧ k = !xs.isEmpty) ∨ ∃ kvs, H p = some (.dK kvs) ∧ k = !kvs.isEmpty
  | _ => False
theorem line63 : (sizeLine : Nat) < 2 ^ 63 := by rw [sizeLine_eq]; decide
def PlainIxT (b : Expr) : Prop := ∀ o i, subscripted b false o i = operate [o, i] (getItem o i)
theorem vals1 {x : V} {us : List Value} (r : Vals [x] us) : ∃ u, us = [u] ∧ RelV x u := by
  cases r with
  | cons r1 r2 => cases r2; exact ⟨_, rfl, r1⟩
theorem call_abs : CallR X (.builtin "abs") (fun xs H Q => ∃ i, xs = [.int i] ∧ Q (.int (if i < 0 then -i else i)) H) := by
  intro pins s σ H xs us Q I r h
  obtain ⟨i, rfl, q⟩ := h
  obtain ⟨u, rfl, t, rfl⟩ := vals1 r
  exact call_abs_int fun u tk => ⟨.int (if i < 0 then -i else i), H, I.tok _, ⟨_, rfl⟩, q⟩
def LenV (K : PySem.W.Frag) (x : V) (H : Hp) (n : Nat) : Prop :=
  match x with
  | .str y => y.length ≤ sizeLine ∧ n = y.length
  | .byt y => y.size ≤ sizeLine ∧ n = y.size
  | .ref p => (∃ xs, SqL K H p xs ∧ n = xs.length) ∨ ∃ xs, SqT K H p xs ∧ n = xs.length
  | _ => False
end
end L2
namespace L2
open PySem PySem.Spec PyProof.Rows
structure ObjM (h : Heap) (x dx C : Addr) (mA : Str → Option Value) : Prop where
  obj : h.get? x = some (PySem.W.instObj C dx)
  ns : h.Ns1 dx mA
  ne : dx ≠ x
theorem lookIn_ns {h : Heap} {dx : Addr} {mA : Str → Option Value} (n : h.Ns1 dx mA) : ∃ od, h.get? dx = some od ∧ ∀ name, PySem.W.lookIn name od = some (mA name) := by
  obtain ⟨o, es, ep, ho, hd, hk, _, hm⟩ := n
  refine ⟨o, ho, fun name => ?_⟩
  have e := hm name
  unfold nsFind findBy at e
  rw [← Array.find?_toList] at e
  unfold PySem.W.lookIn
  rw [hd]
  dsimp only
  split
  · rename_i y q
    rw [q] at e
    exact congrArg some e
  · rename_i q
    rw [q] at e
    have a : es.toList.any (·.refKey) = false := by
      rw [List.any_eq_false]
      intro y hy
      obtain ⟨z, t, hkey⟩ := hk y (Array.mem_toList_iff.mp hy)
      simp [DictEntry.refKey, hkey]
    have a' : ¬ es.toList.any (·.refKey) = true := by rw [a]; exact Bool.false_ne_true
    rw [if_neg a']
    exact congrArg some e
theorem ObjM.look {h : Heap} {x dx C : Addr} {mA : Str → Option Value} (I : ObjM h x dx C mA) : ∃ od, PySem.W.InstAt h x (PySem.W.instObj C dx) C (some od) ∧ ∀ name, PySem.W.lookIn name od = some (mA name) :=
  let ⟨od, ho, hl⟩ := lookIn_ns I.ns
  ⟨od, ⟨I.obj, rfl, rfl, ho⟩, hl⟩
section
variable {prog : Program} {w : World} {A : Around} {E : Value → Shared → Prop} {s : Shared} {K : PySem.W.Frag} {x dx C f : Addr} {mA : Str → Option Value} {name : Str} {v : Value}
theorem get_map {expr : Bool} {Q : Value → Shared → Prop} (X : K.In s.heap) (I : ObjM s.heap x dx C mA) (hg : PySem.W.plainGet K C name = true) (hh : PySem.W.hasDictIn K C = true)
    (ha : PySem.W.findIn K (.ref C) name = some none) (hv : mA name = some v) (hv' : PySem.W.handedIn v = true) (h : Q v { s with toks := s.toks + 1 }) :
    wpAny (model prog w) A (getAttr (.ref x) name expr) Q E s := by
  obtain ⟨od, J, hl⟩ := I.look
  exact PySem.W.get_value X J (PySem.W.plainGet_of hg).1 (PySem.W.findObj_own hh ha rfl (by rw [hl, hv])) hv' h
theorem get_meth {pl : Sem Bool} {Q : Value × List Value → Shared → Prop} (X : K.In s.heap) (I : ObjM s.heap x dx C mA) (hg : PySem.W.plainGet K C name = true)
    (hf : PySem.W.findIn K (.ref C) name = some (some (.ref f))) (ht : PySem.W.isFn K (.ref f) = true) (hv : mA name = none) (h : Q (.ref f, [.ref x]) s) :
    wpAny (model prog w) A (getMethod (.ref x) name pl) Q E s := by
  obtain ⟨od, J, hl⟩ := I.look
  exact PySem.W.method_fn X J (PySem.W.plainGet_of hg).1 (PySem.W.plainGet_of hg).2 hf (beq_iff_eq.mp ht) (by show (PySem.W.lookIn name od).map (·.isSome) = some false; rw [hl, hv]; rfl) h
theorem set_map {ns : List Str} {Q : Unit → Shared → Prop} (X : K.In s.heap) (I : ObjM s.heap x dx C mA)
    (hs : PySem.W.findIn K (.ref C) "__setattr__" = some (some (.builtin "object.__setattr__"))) (hp : PySem.W.plainOver K C = true) (ht : PySem.W.takerIn K C name = some none) (hh : PySem.W.hasDictIn K C = true)
    (hw : PySem.Within mA ns) (hsz : ns.length ≤ sizeLine)
    (h : ∀ h', ObjM h' x dx C (fun y => if y = name then some v else mA y) → Heap.SameBut dx s.heap h' → Q () { s with heap := h', toks := s.toks + 2 }) :
    wpAny (model prog w) A (setAttr (.ref x) name v) Q E s := by
  obtain ⟨od, J, hl⟩ := I.look
  refine PySem.W.set_plain X J hs (PySem.W.osa_open (s := { s with toks := s.toks + 1 }) (r := none) X J hp ht fun b => ?_)
  obtain ⟨cd, hc, hd'⟩ := PySem.W.any_some hh
  have hx : s.heap.get? x = some ⟨.ref C, some dx, .plain, #[]⟩ := I.obj
  refine wpAny_bind (wpAny_pure (wpAny_bind (wpAny_bind (wpAny_loadPart hx (wpAny_bind (PySem.W.Looks.here (s := { s with toks := s.toks + 1 }) (PySem.W.looks_clsIn X hc) ?_))))))
  rw [hd']
  refine wpAny_pure (a := some dx) (wpAny_bind (wpAny_pure (wpAny_bind ?_)))
  refine wpAny_nsSet1 (s := { s with toks := s.toks + 1 }) I.ns fun h' hn2 hs2 => ?_
  obtain ⟨oD, esD, epD, hoD, hdD, hcD⟩ := hn2.count (PySem.Within.cons name v hw)
  refine wpAny_bind (wpAny_lookBehind hoD (by rw [hdD]; exact pastItsLine_dict (Nat.le_trans hcD (by rw [List.length_cons]; omega))) ?_)
  exact wpAny_pure (h _ ⟨(hs2.2 _ (Ne.symm I.ne)).trans I.obj, hn2, I.ne⟩ hs2)
theorem make_map {R : Result → Shared → Prop} {vs : List Value} {kw : List (Str × Value)} (X : K.In s.heap) (hm : PySem.W.makesIn K C = true)
    (hi : PySem.W.findIn K (.ref C) "__init__" = some (some (.ref f))) (hf : PySem.W.typeIn K (.ref f) = some (.type "function"))
    (h : codeAny (model prog w) (A.under (.builtin "type.__call__" ⟨.ref C :: vs, kw⟩)) (.call (.ref f) ⟨.ref (s.heap.objs.size + 1) :: vs, kw⟩) (PySem.W.InitBack (s.heap.objs.size + 1) R)
      { s with heap := (s.heap.push PySem.W.emptyDict).push (PySem.W.instObj C s.heap.objs.size) }) :
    codeAny (model prog w) A (.call (.ref C) ⟨vs, kw⟩) R s := by
  obtain ⟨hh, g, d, t, os⟩ := s
  exact PySem.W.make_core (PySem.W.makes_of X hm) (PySem.W.looks_findIn X hi) (fun self => PySem.W.bind_fn X self hf) (.inl rfl) h
theorem make_map0 {R : Result → Shared → Prop} (X : K.In s.heap) (hm : PySem.W.makesIn K C = true)
    (hi : PySem.W.findIn K (.ref C) "__init__" = some (some (.builtin "object.__init__")))
    (hb : ∀ self, PySem.W.Looks (model prog w) s.heap (bindSpecial (.builtin "object.__init__") self) (.builtin "object.__init__", [self]))
    (h : codeAny (model prog w) (A.under (.builtin "type.__call__" ⟨[.ref C], []⟩)) (.call (.builtin "object.__init__") ⟨[.ref (s.heap.objs.size + 1)], []⟩) (PySem.W.InitBack (s.heap.objs.size + 1) R)
      { s with heap := (s.heap.push PySem.W.emptyDict).push (PySem.W.instObj C s.heap.objs.size) }) :
    codeAny (model prog w) A (.call (.ref C) ⟨[], []⟩) R s := by
  obtain ⟨hh, g, d, t, os⟩ := s
  exact PySem.W.make_core (PySem.W.makes_of X hm) (PySem.W.looks_findIn X hi) hb (.inr ⟨rfl, rfl⟩) h
end
def putF (f : Str) (v : V) : List (Str × V) → List (Str × V)
  | [] => [(f, v)]
  | (g, x) :: r => if g = f then (g, v) :: r else (g, x) :: putF f v r
theorem lookup_putF (f g : Str) (v : V) : ∀ fs : List (Str × V), (putF f v fs).lookup g = if g = f then some v else fs.lookup g
  | [] => by
    show List.lookup g [(f, v)] = _
    by_cases h : g = f
    · have hb : (g == f) = true := beq_iff_eq.mpr h
      simp only [List.lookup, hb, if_pos h]
    · have hb : (g == f) = false := beq_eq_false_iff_ne.mpr h
      simp only [List.lookup, hb, if_neg h]
  | (k, x) :: r => by
    have ih := lookup_putF f g v r
    rw [show putF f v ((k, x) :: r) = (if k = f then (k, v) :: r else (k, x) :: putF f v r) from rfl]
    by_cases hk : k = f
    · rw [if_pos hk]
      by_cases h : g = k
      · have hb : (g == k) = true := beq_iff_eq.mpr h
        simp only [List.lookup, hb, if_pos (h.trans hk)]
      · have hb : (g == k) = false := beq_eq_false_iff_ne.mpr h
        simp only [List.lookup, hb, if_neg (fun e : g = f => h (e.trans hk.symm))]
    · rw [if_neg hk]
      by_cases h : g = k
      · have hb : (g == k) = true := beq_iff_eq.mpr h
        simp only [List.lookup, hb, if_neg (fun e : g = f => hk (h.symm.trans e))]
      · have hb : (g == k) = false := beq_eq_false_iff_ne.mpr h
        simp only [List.lookup, hb]
        exact ih
theorem keys_putF (f : Str) (v : V) : ∀ fs : List (Str × V), f ∈ (putF f v fs).map (·.1) ∧ ∀ g, g ∈ fs.map (·.1) → g ∈ (putF f v fs).map (·.1)
  | [] => ⟨by simp [putF], fun g h => by simp at h⟩
  | (k, x) :: r => by
    obtain ⟨i1, i2⟩ := keys_putF f v r
    rw [show putF f v ((k, x) :: r) = (if k = f then (k, v) :: r else (k, x) :: putF f v r) from rfl]
    by_cases hk : k = f
    · rw [if_pos hk]
      subst hk
      exact ⟨by simp, fun g h => by simpa using h⟩
    · rw [if_neg hk]
      refine ⟨?_, fun g h => ?_⟩
      · rw [List.map_cons]
        exact List.mem_cons_of_mem _ i1
      · rw [List.map_cons] at h ⊢
        rcases List.mem_cons.mp h with e | e
        · exact List.mem_cons.mpr (.inl e)
        · exact List.mem_cons_of_mem _ (i2 g e)
theorem length_putF (f : Str) (v : V) : ∀ fs : List (Str × V), (putF f v fs).length ≤ fs.length + 1
  | [] => by simp [putF]
  | (k, x) :: r => by
    have ih := length_putF f v r
    rw [show putF f v ((k, x) :: r) = (if k = f then (k, v) :: r else (k, x) :: putF f v r) from rfl]
    by_cases hk : k = f
    · rw [if_pos hk, List.length_cons, List.length_cons]; omega
    · rw [if_neg hk, List.length_cons, List.length_cons]; omega
theorem RelO.some_of {v : V} {o : Option Value} (r : RelO (some v) o) : ∃ u, o = some u ∧ RelV v u := by
  cases o with
  | none => exact (show False from r).elim
  | some u => exact ⟨u, rfl, r⟩
theorem RelO.none_of {o : Option Value} (r : RelO none o) : o = none := by
  cases o with
  | none => rfl
  | some u => exact (show False from r).elim
theorem handed_of {v : V} {u : Value} (r : RelV v u) : PySem.W.handedIn u = true := by
  cases v with
  | non => cases (show u = Value.none from r); rfl
  | bl b => cases (show u = Value.bool b from r); rfl
  | int i => obtain ⟨t, e⟩ := (show ∃ t, u = Value.int i t from r); cases e; rfl
  | str x => obtain ⟨t, e⟩ := (show ∃ t, u = Value.str x t from r); cases e; rfl
  | byt b => obtain ⟨t, e⟩ := (show ∃ t, u = Value.bytes b t from r); cases e; rfl
  | flt b => obtain ⟨t, e⟩ := (show ∃ t, u = Value.float b t from r); cases e; rfl
  | ref a => cases (show u = Value.ref a from r); rfl
  | ty n => cases (show u = Value.type n from r); rfl
section
variable {P : Program} {w : World} {H H' : Hp} {h h' : Heap} {a C dx : Addr} {fs fs' : List (Str × V)}
theorem ins_get (hok : HOk P w H h) (e : H a = some (.ins C dx fs)) : ∃ mA, ObjM h a dx C mA ∧ (∀ f, RelO (fs.lookup f) (mA f)) ∧ PySem.Within mA (fs.map (·.1)) ∧ fs.length ≤ 1000 ∧ H dx = some (.own a) := by
  obtain ⟨d, z, ne, ob, mA, n, r, q⟩ := (show ObjOk P w H h a (.ins C dx fs) from hok a _ e)
  exact ⟨mA, ⟨ob, n, ne⟩, r, q, z, d⟩
end
structure Cls (K : PySem.W.Frag) (C : Addr) : Prop where
  pg : PySem.W.plainGet K C Str.empty = true
  hd : PySem.W.hasDictIn K C = true
  po : PySem.W.plainOver K C = true
  sa : PySem.W.findIn K (.ref C) "__setattr__" = some (some (.builtin "object.__setattr__"))
theorem Cls.get {K : PySem.W.Frag} {C : Addr} (c : Cls K C) (f : Str) : PySem.W.plainGet K C f = true := c.pg
def NoAttr (K : PySem.W.Frag) (C : Addr) (f : Str) : Prop := PySem.W.findIn K (.ref C) f = some none
theorem NoAttr.taker {K : PySem.W.Frag} {C : Addr} {f : Str} (n : NoAttr K C f) : PySem.W.takerIn K C f = some none := by
  unfold PySem.W.takerIn
  rw [show PySem.W.findIn K (.ref C) f = some none from n]
  rfl
structure Con (K : PySem.W.Frag) (C : Addr) (f : Str) (v : V) (u : Value) : Prop where
  at_ : PySem.W.findIn K (.ref C) f = some (some u)
  rel : RelV v u
  get : PySem.W.specialIn K u "__get__" = some none
  cp : PySem.W.copiedNames.contains f = false
structure Meth (K : PySem.W.Frag) (C : Addr) (m : Str) (f : Addr) : Prop where
  at_ : PySem.W.findIn K (.ref C) m = some (some (.ref f))
  fn : PySem.W.isFn K (.ref f) = true
  kp : PySem.W.keepIn K (.ref f) = true
section
variable {X : Cx} {pins : List (Addr × Obj)} {σ : St} {H : Hp} {s : Shared} {a C dx : Addr} {fs : List (Str × V)} {f : Str} {v : V} {A : Around} {E : Value → Shared → Prop}
theorem getattr_ok {b : Bool} {Q : Value → Shared → Prop} (I : Inv X pins σ H s) (e : H a = some (.ins C dx fs)) (c : Cls X.K C) (n : NoAttr X.K C f) (l : fs.lookup f = some v)
    (h : ∀ u s', Inv X pins σ H s' → RelV v u → Q u s') : wpAny (model X.prog X.w) A (getAttr (.ref a) f b) Q E s := by
  obtain ⟨mA, O, r, _, _, _⟩ := ins_get I.hok e
  obtain ⟨u, hu, ru⟩ := RelO.some_of (v := v) (o := mA f) (by rw [← l]; exact r f)
  exact get_map I.kIn O (c.get f) c.hd n hu (handed_of ru) (h u _ (I.tok _) ru)
theorem getmeth_ok {m : Str} {g : Addr} {pl : Sem Bool} {Q : Value × List Value → Shared → Prop} (I : Inv X pins σ H s) (e : H a = some (.ins C dx fs)) (c : Cls X.K C) (k : Meth X.K C m g) (l : fs.lookup m = none)
    (h : Q (.ref g, [.ref a]) s) : wpAny (model X.prog X.w) A (getMethod (.ref a) m pl) Q E s := by
  obtain ⟨mA, O, r, _, _, _⟩ := ins_get I.hok e
  have hn : mA m = none := RelO.none_of (by rw [← l]; exact r m)
  exact get_meth I.kIn O (c.get m) k.at_ k.fn hn h
theorem setattr_ok {y : V} {u : Value} {Q : Unit → Shared → Prop} (I : Inv X pins σ H s) (e : H a = some (.ins C dx fs)) (c : Cls X.K C) (n : NoAttr X.K C f) (hl : fs.length < 1000) (ry : RelV y u)
    (h : ∀ s', Inv X pins σ (upd H a (.ins C dx (putF f y fs))) s' → Q () s') : wpAny (model X.prog X.w) A (setAttr (.ref a) f u) Q E s := by
  obtain ⟨mA, O, r, wi, _, ho⟩ := ins_get I.hok e
  have hz : (fs.map (·.1)).length ≤ sizeLine := by rw [List.length_map, sizeLine_eq]; omega
  refine set_map I.kIn O c.sa c.po n.taker c.hd wi hz fun h' O' sb => h _ ?_
  have hd : ∃ o, h'.get? dx = some o := let ⟨o, _, _, e', _⟩ := O'.ns; ⟨o, e'⟩
  refine I.write (x := a) (e := dx) (by rw [e]; exact True.intro) (.inr ho) (fun b q hb z => (sb.2 b hb).trans z) hd ?_
  refine ⟨by rw [upd_ne O.ne]; exact ho, ?_, O.ne, O'.obj, _, O'.ns, fun g => ?_, fun g hg => ?_⟩
  · have := length_putF f y fs; omega
  · show RelO ((putF f y fs).lookup g) (if g = f then some u else mA g)
    rw [lookup_putF]
    by_cases q : g = f
    · rw [if_pos q, if_pos q]; exact ry
    · rw [if_neg q, if_neg q]; exact r g
  · by_cases q : g = f
    · rw [q]; exact (keys_putF f y fs).1
    · refine (keys_putF f y fs).2 g (wi g fun z => hg ?_)
      show (if g = f then some u else mA g) = none
      rw [if_neg q]; exact z
theorem Inv.made (I : Inv X pins σ H s) : Inv X pins σ (upd (upd H s.heap.objs.size (.own (s.heap.objs.size + 1))) (s.heap.objs.size + 1) (.ins C s.heap.objs.size []))
    { s with heap := (s.heap.push PySem.W.emptyDict).push (PySem.W.instObj C s.heap.objs.size) } := by
  have e1 : (s.heap.push PySem.W.emptyDict).get? s.heap.objs.size = some PySem.W.emptyDict := Heap.get?_push_size s.heap rfl
  have e2 : ((s.heap.push PySem.W.emptyDict).push (PySem.W.instObj C s.heap.objs.size)).get? (s.heap.objs.size + 1) = some (PySem.W.instObj C s.heap.objs.size) := by
    have := Heap.get?_push_size (s.heap.push PySem.W.emptyDict) (o := PySem.W.instObj C s.heap.objs.size) rfl
    rwa [Heap.size_push] at this
  have e3 : (s.heap.push PySem.W.emptyDict).Ns s.heap.objs.size (fun _ => none) := ⟨PySem.W.emptyDict, #[], _, e1, rfl, (fun e he => absurd he (by simp)), fun _ => rfl⟩
  have I1 := I.laid (a := s.heap.objs.size) (o := .own (s.heap.objs.size + 1)) (h' := s.heap.push PySem.W.emptyDict) (t' := s.toks) (fun b u q => Heap.get?_push_of_some _ q) (Nat.le_refl _) ⟨_, e1⟩
  refine I1.laid (a := s.heap.objs.size + 1) (o := .ins C s.heap.objs.size []) (t' := s.toks) (fun b u q => Heap.get?_push_of_some _ q) (Nat.le_of_eq (Heap.size_push _ _)) ?_
  have ne : s.heap.objs.size ≠ s.heap.objs.size + 1 := Nat.ne_of_lt (Nat.lt_succ_self _)
  refine ⟨by rw [upd_ne ne, upd_same], Nat.zero_le _, ne, e2, fun _ => none, (Heap.Ns1.of_empty e3).at fun o q => Heap.get?_push_of_some _ q, fun _ => True.intro, fun y hy => absurd rfl hy⟩
theorem attr_of {prog : Program} {w : World} {env : Env} {e : Expr} {f : Str} {pos : Pos} {s : Shared} {Q : Value → Shared → Prop} (hb : attributeBase e f env (eval e env) = eval e env)
    (h : wpAny (model prog w) A (eval e env) (fun o s₁ => wpAny (model prog w) A (getAttr o f true) Q E s₁) E s) : wpAny (model prog w) A (eval (.Attribute e f pos) env) Q E s :=
  Attribute_any_ h (by rw [arm_eval_Attribute, hb])
end
def tFld (K : PySem.W.Frag) (ta : TE) (f : Str) : TE := fun σ H Q => ta σ H fun x H1 => ∃ a C dx fs v, x = .ref a ∧ H1 a = some (.ins C dx fs) ∧ Cls K C ∧ NoAttr K C f ∧ fs.lookup f = some v ∧ Q v H1
def tCon (K : PySem.W.Frag) (ta : TE) (f : Str) : TE := fun σ H Q => ta σ H fun x H1 => ∃ a C dx fs v u, x = .ref a ∧ H1 a = some (.ins C dx fs) ∧ Cls K C ∧ Con K C f v u ∧ fs.lookup f = none ∧ Q v H1
def sFld (K : PySem.W.Frag) (ta tv : TE) (f : Str) : TS := fun D σ H => tv σ H fun y H1 => ta σ H1 fun x H2 => ∃ a C dx fs, x = .ref a ∧ H2 a = some (.ins C dx fs) ∧ Cls K C ∧ NoAttr K C f ∧ fs.length < 1000 ∧
  D.nx σ (upd H2 a (.ins C dx (putF f y fs)))
def InOp (X : Cx) (op : Operator) (rd : V → V → Hp → VK → Prop) : Prop :=
  ∀ (pins : List (Addr × Obj)) (s : Shared) (σ : St) (H : Hp) (x y : V) (u v : Value) (Q : VK), Inv X pins σ H s → RelV x u → RelV y v → rd x y H Q → wpAny (model X.prog X.w) X.A (inplaceOp op u v) (EP X pins σ Q) X.xe s
def sFldAug (K : PySem.W.Frag) (ta tv : TE) (rd : V → V → Hp → VK → Prop) (f : Str) : TS := fun D σ H => ta σ H fun x H1 => ∃ a C dx fs v, x = .ref a ∧ H1 a = some (.ins C dx fs) ∧ Cls K C ∧ NoAttr K C f ∧ fs.lookup f = some v ∧
  tv σ H1 fun y H2 => rd v y H2 fun z H3 => ∃ dx' fs', H3 a = some (.ins C dx' fs') ∧ fs'.length < 1000 ∧ D.nx σ (upd H3 a (.ins C dx' (putF f z fs')))
section
variable {X : Cx} {o e value : Expr} {f : Str} {pos pos' tpos : Pos} {ta tv : TE}
theorem pe_fld (he : PE X e ta) (hb : attributeBase e f X.env (eval e X.env) = eval e X.env) : PE X (.Attribute e f pos) (tFld X.K ta f) := by
  intro pins s σ H Q I h
  refine attr_of hb (thn (he pins s σ H _ I h) fun u s1 ⟨x, H1, I1, rx, a, C, dx, fs, v, ex, ea, c, n, l, q⟩ => ?_)
  subst ex
  obtain rfl : u = Value.ref a := rx
  exact getattr_ok I1 ea c n l fun u' s2 I2 ru => ⟨v, H1, I2, ru, q⟩
theorem ps_fld (ha : PE X o ta) (hv : PE X value tv) (hs : swapsWith value (some (.Attribute o f pos')) pos.line X.env = pure false) : PS X (.Assign [.Attribute o f pos'] value pos) (sFld X.K ta tv f) := by
  intro pins s σ H D I h
  refine plainObj_wpAny_Assign_Attribute (thn (hv pins s σ H _ I h) fun u s1 ⟨y, H1, I1, ry, q⟩ => thn (ha pins s1 σ H1 _ I1 q) fun ov s2 ⟨x, H2, I2, rx, a, C, dx, fs, ex, ea, c, n, l, q2⟩ => ?_) hs
  subst ex
  obtain rfl : ov = Value.ref a := rx
  exact setattr_ok I2 ea c n l ry fun s3 I3 => ⟨σ, _, I3, q2⟩
def rAdd : V → V → Hp → VK → Prop := fun x y H Q => ∃ i j, x = .int i ∧ y = .int j ∧ Q (.int (i + j)) H
def rSub : V → V → Hp → VK → Prop := fun x y H Q => ∃ i j, x = .int i ∧ y = .int j ∧ Q (.int (i - j)) H
end
section
variable {X : Cx} {pins : List (Addr × Obj)} {σ : St} {H : Hp} {s : Shared} {A : Around} {E : Value → Shared → Prop} {Q : Value → Shared → Prop} {c : Value} {b : Bool}
inductive TyOf (K : PySem.W.Frag) (H : Hp) : V → Value → Prop where
  | non : TyOf K H .non (.type "NoneType")
  | bl (x : Bool) : TyOf K H (.bl x) (.type "bool")
  | int (i : Int) : TyOf K H (.int i) (.type "int")
  | str (x : Str) : TyOf K H (.str x) (.type "str")
  | flt (x : UInt64) : TyOf K H (.flt x) (.type "float")
  | lst {a : Addr} {xs : List V} (e : H a = some (.lst xs)) : TyOf K H (.ref a) (.type "list")
  | frz {a : Addr} {o : Obj} {xs : List V} (e : H a = some (.frz o (.lst xs))) : TyOf K H (.ref a) (.type "list")
  | tup {a : Addr} {xs : List V} (e : H a = some (.tup xs)) : TyOf K H (.ref a) (.type "tuple")
  | dK {a : Addr} {kvs : List (Key × V)} (e : H a = some (.dK kvs)) : TyOf K H (.ref a) (.type "dict")
  | dT {a : Addr} {kvs : List (List Key × V)} (e : H a = some (.dT kvs)) : TyOf K H (.ref a) (.type "dict")
  | ins {a C dx : Addr} {fs : List (Str × V)} (e : H a = some (.ins C dx fs)) (cl : Cls K C) (ha : PySem.W.findIn K (.ref C) "__class__" = some (some (.builtin "object.__class__")))
      (hn : PySem.W.specialIn K (.builtin "object.__class__") "__get__" = some (some (.builtin "getset_descriptor.__get__"))) (htk : PySem.W.takesIn K (.builtin "object.__class__") = some true)
      (hm : PySem.W.mroIn K C (.type "object") = some true) : TyOf K H (.ref a) (.ref C)
theorem isinst_ok {x : V} {u t : Value} (I : Inv X pins σ H s) (rx : RelV x u) (ty : TyOf X.K H x t) (e : PySem.W.kitOne X.K t c = some b) (h : ∀ tk, Q (.bool b) { s with toks := tk }) :
    wpAny (model X.prog X.w) A (call (.builtin "isinstance") [u, c]) Q E s := by
  cases ty with
  | non => cases (show u = Value.none from rx); exact PySem.W.kia_one PySem.W.kitx_none I.kIn True.intro e (fun z => nomatch z) h
  | bl y => cases (show u = Value.bool y from rx); exact PySem.W.kia_one PySem.W.kitx_bool I.kIn True.intro e (fun z => nomatch z) h
  | int i => obtain ⟨t, q⟩ := (show ∃ t, u = Value.int i t from rx); cases q; exact PySem.W.kia_one PySem.W.kitx_int I.kIn True.intro e (fun z => nomatch z) h
  | str y => obtain ⟨t, q⟩ := (show ∃ t, u = Value.str y t from rx); cases q; exact PySem.W.kia_one PySem.W.kitx_str I.kIn True.intro e (fun z => nomatch z) h
  | flt y => obtain ⟨t, q⟩ := (show ∃ t, u = Value.float y t from rx); cases q; exact PySem.W.kia_one PySem.W.kitx_float I.kIn True.intro e (fun z => nomatch z) h
  | @lst a xs ea =>
    cases (show u = Value.ref a from rx)
    obtain ⟨_, _, n, _, h1⟩ := (show ObjOk X.prog X.w H s.heap a (.lst xs) from I.hok a _ ea)
    exact PySem.W.kia_one PySem.W.kitx_list I.kIn ⟨_, h1, rfl⟩ e (fun z => nomatch z) h
  | @frz a ob xs ea =>
    cases (show u = Value.ref a from rx)
    obtain ⟨_, _, _, n, _, h1⟩ := (show ObjOk X.prog X.w H s.heap a (.frz ob (.lst xs)) from I.hok a _ ea)
    exact PySem.W.kia_one PySem.W.kitx_list I.kIn ⟨_, h1, rfl⟩ e (fun z => nomatch z) h
  | @tup a xs ea =>
    cases (show u = Value.ref a from rx)
    obtain ⟨_, _, _, p⟩ := (show ObjOk X.prog X.w H s.heap a (.tup xs) from I.hok a _ ea)
    obtain ⟨o, h1, h2, _⟩ := p
    exact PySem.W.kia_one PySem.W.kitx_tuple I.kIn ⟨o, h1, h2⟩ e (fun z => nomatch z) h
  | @dK a kvs ea =>
    cases (show u = Value.ref a from rx)
    obtain ⟨_, _, vs, _, p⟩ := (show ObjOk X.prog X.w H s.heap a (.dK kvs) from I.hok a _ ea)
    obtain ⟨o, es, ep, h1, h2, _⟩ := p
    exact PySem.W.kia_one PySem.W.kitx_dict I.kIn ⟨o, h1, h2.1⟩ e (fun z => nomatch z) h
  | @dT a kvs ea =>
    cases (show u = Value.ref a from rx)
    obtain ⟨_, _, xs, _, o, es, ep, h1, h2, _⟩ := (show ObjOk X.prog X.w H s.heap a (.dT kvs) from I.hok a _ ea)
    exact PySem.W.kia_one PySem.W.kitx_dict I.kIn ⟨o, h1, h2.1⟩ e (fun z => nomatch z) h
  | @ins a C dx fs ea cl ha hn htk hm =>
    cases (show u = Value.ref a from rx)
    obtain ⟨mA, O, _⟩ := ins_get I.hok ea
    obtain ⟨od, J, _⟩ := O.look
    exact PySem.W.kia_one (PySem.W.kitx_own (cl.get _) cl.hd ha hn htk hm) I.kIn J e (fun z => nomatch z) h
end
end L2
namespace L2
open PySem PySem.Spec PyProof.Rows
structure Room (k : Nat) (A : Around) : Prop where
  hd : A.handled = none
  dp : A.depth + 3 * k + 5 < recursionLimit
  un : A.units + 16 * k + 200 < cLine
theorem Room.mono {j k : Nat} {A : Around} (r : Room k A) (h : j ≤ k) : Room j A := ⟨r.hd, by have := r.dp; omega, by have := r.un; omega⟩
theorem Room.deeper {k : Nat} {A : Around} (r : Room (k + 1) A) (env : Env) : Room k (A.deeper env) :=
  ⟨r.hd, by have := r.dp; show A.depth + 1 + 3 * k + 5 < _; omega, by have := r.un; show A.units + 3 + 16 * k + 200 < _; omega⟩
theorem make_depth {A : Around} {C : Addr} {us : List Value} {kw : List (Str × Value)} : (A.under (.builtin "type.__call__" ⟨.ref C :: us, kw⟩)).depth = A.depth + 1 := by
  first | rfl | simp [Around.under, Code.weight, Code.isCreation, Code.isGuard, Code.isCaller, Code.frames, Code.isFrame, guardIds]
theorem make_units {A : Around} {C : Addr} {us : List Value} {kw : List (Str × Value)} : (A.under (.builtin "type.__call__" ⟨.ref C :: us, kw⟩)).units = A.units + 1 := by
  first | rfl | simp [Around.under, Code.cUnits, Code.frames, Code.isFrame]
theorem Room.make {k : Nat} {A : Around} (r : Room (k + 1) A) (C : Addr) (us : List Value) (kw : List (Str × Value)) : Room k (A.under (.builtin "type.__call__" ⟨.ref C :: us, kw⟩)) :=
  ⟨r.hd, by have := r.dp; rw [make_depth]; omega, by have := r.un; rw [make_units]; omega⟩
theorem Room.depth {k : Nat} {A : Around} (r : Room k A) : A.depth < recursionLimit := by have := r.dp; omega
theorem Room.units {k : Nat} {A : Around} (r : Room k A) : A.units + 64 < cLine := by have := r.un; omega
theorem Room.units0 {k : Nat} {A : Around} (r : Room k A) : A.units < cLine := by have := r.un; omega
def tNil : TA := fun _ H Q => Q [] H
def tCons (ta : TE) (tr : TA) : TA := fun σ H Q => ta σ H fun x H1 => tr σ H1 fun xs H2 => Q (x :: xs) H2
section
variable {X : Cx} {e : Expr} {es : List Expr} {te : TE} {t : TA} {pos : Pos}
theorem pa_nil : PA X [] tNil := fun _ _ _ _ H Q I h => Calls.spliced_nil ⟨[], H, I, .nil, h⟩
theorem pa_cons (ha : PE X e te) (hr : PA X es t) (hs : starEach (e :: es) X.env = (false, eval e X.env) :: starEach es X.env := by rfl) : PA X (e :: es) (tCons te t) := by
  intro pos pins s σ H Q I h
  rw [hs]
  show wpAny _ _ (spliced ((false, eval e X.env) :: backTo pos (starEach es X.env))) _ _ s
  refine Calls.spliced_cons (thn (ha pins s σ H _ I h) fun u s1 ⟨x, H1, I1, r1, q1⟩ => ?_)
  exact thn (hr pos pins s1 σ H1 _ I1 q1) fun us s2 ⟨xs, H2, I2, r2, q2⟩ => ⟨x :: xs, H2, I2, .cons r1 r2, q2⟩
def tTup (t : TA) : TE := fun σ H Q => t σ H fun xs H1 => xs.length ≤ sizeLine ∧ ∀ p, H1 p = none → Q (.ref p) (upd H1 p (.tup xs))
def tLst (t : TA) : TE := fun σ H Q => t σ H fun xs H1 => xs.length ≤ sizeLine ∧ ∀ p, H1 p = none → Q (.ref p) (upd H1 p (.lst xs))
theorem pe_tup {x1} (h : PA X es t) : PE X (.Tuple es x1 pos) (tTup t) := by
  intro pins s σ H Q I hq
  refine wpAny_Tuple_spliced (thn (h pos pins s σ H _ I hq) fun us s1 ⟨xs, H1, I1, r, z, q⟩ => ⟨by rw [← r.length]; exact z, ?_⟩)
  have hf : H1 s1.heap.objs.size = none := I1.hok.fresh (Nat.le_refl _)
  refine ⟨.ref s1.heap.objs.size, upd H1 s1.heap.objs.size (.tup xs), I1.laid (t' := s1.toks) (fun b u e => Heap.get?_push_of_some _ e) (Nat.le_refl _) ?_, rfl, q _ hf⟩
  exact ⟨z, us, r, ⟨_, Heap.get?_push_size _ rfl, rfl, _, rfl⟩⟩
theorem pe_lst (h : PA X es t) : PE X (.List es pos) (tLst t) := by
  intro pins s σ H Q I hq
  refine wpAny_List_spliced (thn (h pos pins s σ H _ I hq) fun us s1 ⟨xs, H1, I1, r, z, q⟩ => ⟨by rw [← r.length]; exact z, ?_⟩)
  have hf : H1 s1.heap.objs.size = none := I1.hok.fresh (Nat.le_refl _)
  refine ⟨.ref s1.heap.objs.size, upd H1 s1.heap.objs.size (.lst xs), I1.laid (t' := s1.toks) (fun b u e => Heap.get?_push_of_some _ e) (Nat.le_refl _) ?_, rfl, q _ hf⟩
  exact ⟨z, us, 0, r, Heap.get?_push_size _ rfl⟩
end
abbrev Sp := List V → Hp → VK → XK → Prop
abbrev CXT := List Env → Hp → Shared → XK → Value → Shared → Prop
structure Env0 (P : Program) (w : World) (K : PySem.W.Frag) (mg : Str → Option Value) (base : Heap) (A : Around) (outer : List Env) (s : Shared) (H : Hp) : Prop where
  frames : A.frames = some outer
  mod : Mod K mg base
  bs : ∀ b o, base.get? b = some o → s.heap.get? b = some o ∧ H b = none
  bsz : base.objs.size ≤ s.heap.objs.size
  funs : s.heap.FunFrames base outer
  frf : ∀ b ∈ frs outer, H b = none
  hok : HOk P w H s.heap
  bare : AllBare s.gens
def CE (outer : List Env) (P : Program) (w : World) (H : Hp) (s : Shared) (Q : VK) (u : Value) (s' : Shared) : Prop :=
  ∃ v H', s'.os = s.os ∧ AllBare s'.gens ∧ Un (frs outer) [] H H' s.heap s'.heap ∧ HOk P w H' s'.heap ∧ RelV v u ∧ Q v H'
def CR (CX : CXT) (outer : List Env) (P : Program) (w : World) (H : Hp) (s : Shared) (Q : VK) (E : XK) (r : Result) (s' : Shared) : Prop :=
  match r with
  | .ok (.ret u) => CE outer P w H s Q u s'
  | .ok _ => False
  | .error e => CX outer H s E e s'
structure FnOk (P : Program) (w : World) (K : PySem.W.Frag) (mg : Str → Option Value) (base : Heap) (CX : CXT) (k : Nat) (f : Addr) (fd : FuncData) (ps : List Str) (sp : Sp) : Prop where
  len : ∀ vs H Q E, sp vs H Q E → vs.length = ps.length
  run : ∀ (A : Around) (outer : List Env) (s : Shared) (H : Hp) (args : Args) (us : List Value) (vs : List V) (Q : VK) (E : XK), Room k A → Env0 P w K mg base A outer s H → BindsTo s fd args (ps.zip us) → Vals vs us → sp vs H Q E →
    codeAny (model P w) A (.call (.ref f) args) (CR CX outer P w H s Q E) s
theorem FnOk.mono {P : Program} {w : World} {K : PySem.W.Frag} {mg : Str → Option Value} {base : Heap} {CX : CXT} {j k : Nat} {f : Addr} {fd : FuncData} {ps : List Str} {sp : Sp} (F : FnOk P w K mg base CX j f fd ps sp) (h : j ≤ k) :
    FnOk P w K mg base CX k f fd ps sp := ⟨F.len, fun A outer s H args us vs Q E hr => F.run A outer s H args us vs Q E (hr.mono h)⟩
theorem FnOk.imp {P : Program} {w : World} {K : PySem.W.Frag} {mg : Str → Option Value} {base : Heap} {CX : CXT} {k : Nat} {f : Addr} {fd : FuncData} {ps : List Str} {sp sp' : Sp} (F : FnOk P w K mg base CX k f fd ps sp)
    (h : ∀ vs H Q E, sp' vs H Q E → sp vs H Q E) : FnOk P w K mg base CX k f fd ps sp' :=
  ⟨fun vs H Q E q => F.len vs H Q E (h _ _ _ _ q), fun A outer s H args us vs Q E hr he hb hv hs => F.run A outer s H args us vs Q E hr he hb hv (h _ _ _ _ hs)⟩
theorem Env0.make {P : Program} {w : World} {K : PySem.W.Frag} {mg : Str → Option Value} {base : Heap} {A : Around} {outer : List Env} {s : Shared} {H : Hp} (e : Env0 P w K mg base A outer s H) (C : Addr) (us : List Value) (kw : List (Str × Value)) :
    Env0 P w K mg base (A.under (.builtin "type.__call__" ⟨.ref C :: us, kw⟩)) outer s H := ⟨by first | exact e.frames | (simpa [Around.under, Code.envs, Code.isFrame, pushEnvs] using e.frames), e.mod, e.bs, e.bsz, e.funs, e.frf, e.hok, e.bare⟩
section
variable {X : Cx} {pins : List (Addr × Obj)} {σ : St} {H : Hp} {s s' : Shared}
theorem Inv.env0 (I : Inv X pins σ H s) : Env0 X.prog X.w X.K X.mg X.base X.A X.stack s H :=
  ⟨I.ok.frames, I.ok.mod, I.bs, Nat.le_trans I.ok.bsz I.sz, I.stack, I.stkFree, I.hok, I.bare⟩
theorem Inv.after {Q : VK} {u : Value} (I : Inv X pins σ H s) (h : CE X.stack X.prog X.w H s Q u s') : EP X pins σ Q u s' := by
  obtain ⟨v, H', os, bare, un, hok, r, q⟩ := h
  obtain ⟨hh, g, d, t, os'⟩ := s'
  obtain rfl : os' = s.os := os
  exact ⟨v, H', I.call (h' := hh) (g' := g) (d' := d) (t' := t) (ch := []) un hok bare (fun b z => absurd z (by simp)), r, q⟩
end
def tCall (sp : Sp) (dvs : List V) (E : XK) (t : TA) : TE := fun σ H Q => t σ H fun vs H1 => sp (vs ++ dvs) H1 Q E
def tMeth (C : Addr) (m : Str) (sp : Sp) (dvs : List V) (E : XK) (ta : TE) (t : TA) : TE := fun σ H Q => ta σ H fun x H1 => ∃ a dx fs, x = .ref a ∧ H1 a = some (.ins C dx fs) ∧ fs.lookup m = none ∧
  t σ H1 fun vs H2 => sp (x :: (vs ++ dvs)) H2 Q E
def tMake (C : Addr) (sp : Sp) (dvs : List V) (E : XK) (t : TA) : TE := fun σ H Q => t σ H fun vs H1 => ∀ x dx, H1 x = none → H1 dx = none → dx ≠ x →
  sp (.ref x :: (vs ++ dvs)) (upd (upd H1 dx (.own x)) x (.ins C dx [])) (fun v H2 => v = .non ∧ Q (.ref x) H2) E
def Binds (K : PySem.W.Frag) (fd : FuncData) (ps : List Str) (ds : List Value) : Prop :=
  ∀ (s : Shared) (us : List Value), K.In s.heap → (us ++ ds).length = ps.length → BindsTo s fd ⟨us, []⟩ (ps.zip (us ++ ds))
theorem Binds.all {K : PySem.W.Frag} {fd : FuncData} {ps : List Str} (h : ∀ us : List Value, us.length = ps.length → bindArgs fd ⟨us, []⟩ = pure (ps.zip us)) : Binds K fd ps [] := fun s us _ hl => by
  rw [List.append_nil] at hl ⊢
  exact .of_eq (h us hl)
def Passes (CX : CXT) (X : Cx) (E : XK) : Prop := ∀ (pins : List (Addr × Obj)) (σ : St) (H : Hp) (s : Shared) (e : Value) (s' : Shared), Inv X pins σ H s → CX X.stack H s E e s' → X.xe e s'
section
variable {X : Cx} {CX : CXT} {k : Nat} {f C : Addr} {fd : FuncData} {ps : List Str} {sp : Sp} {dvs : List V} {ds : List Value} {E : XK} {x m : Str} {p pos apos : Pos} {e o : Expr} {es : List Expr} {ta : TE} {t : TA}
structure Mk (K : PySem.W.Frag) (C f : Addr) : Prop where
  makes : PySem.W.makesIn K C = true
  init : PySem.W.findIn K (.ref C) "__init__" = some (some (.ref f))
  fn : PySem.W.isFn K (.ref f) = true
  kp : PySem.W.keepIn K (.ref C) = true
end
def PK (X : Cx) (kws : List Keyword) (t : TA) : Prop :=
  ∀ (pos : Pos) (pins : List (Addr × Obj)) (s : Shared) (σ : St) (H : Hp) (Q : List V → Hp → Prop), Inv X pins σ H s → t σ H Q → wpAny (model X.prog X.w) X.A (evalAll ((backToKw pos (keywordEach kws X.env)).map (·.2))) (AP X pins σ Q) X.xe s
section
variable {X : Cx} {CX : CXT} {k : Nat} {f C : Addr} {fd : FuncData} {ps ks : List Str} {sp : Sp} {E : XK} {x m : Str} {p pos apos kpos : Pos} {e o : Expr} {es : List Expr} {kws : List Keyword} {te ta : TE} {t tk : TA} {nm : Option Str}
structure KBinds (K : PySem.W.Frag) (fd : FuncData) (ps ks : List Str) (g : List Value → List Value → List Value) (gV : List V → List V → List V) : Prop where
  to : ∀ (s : Shared) (us ws : List Value), K.In s.heap → (g us ws).length = ps.length → BindsTo s fd ⟨us, ks.zip ws⟩ (ps.zip (g us ws))
  rel : ∀ {vs : List V} {us : List Value} {zs : List V} {ws : List Value}, Vals vs us → Vals zs ws → Vals (gV vs zs) (g us ws)
def tCallK (sp : Sp) (gV : List V → List V → List V) (E : XK) (t tk : TA) : TE := fun σ H Q => t σ H fun vs H1 => tk σ H1 fun zs H2 => sp (gV vs zs) H2 Q E
variable {g : List Value → List Value → List Value} {gV : List V → List V → List V}
end
structure FnScope (N P : List Str) (sc : Scope) : Prop where
  kind : sc.kind = .function
  co : sc.isCoroutine = false
  gen : sc.isGenerator = false
  nd : N.Nodup
  pre : N.take P.length = P
  par : ∀ x ∈ P, sc.names.lookup x = some .local ∨ sc.names.lookup x = some .cell
  nofree : ∀ y ∈ sc.names, y.2 ≠ .free
theorem bindL_out {kindOf : Str → Option NameKind} {x : Str} : ∀ {binds : List (Str × Value)} {m : Str → Option Value}, (∀ v, (x, v) ∉ binds) → bindL kindOf binds m x = m x
  | [], _, _ => rfl
  | (n, v) :: r, m, h => by
    unfold bindL
    rw [bindL_out fun w hw => h w (List.mem_cons_of_mem _ hw)]
    split
    · have : x ≠ n := by rintro rfl; exact h v List.mem_cons_self
      simp [this]
    · rfl
theorem bindC_out {kindOf : Str → Option NameKind} {x : Str} : ∀ {binds : List (Str × Value)} {m : Str → Option Value}, (∀ v, (x, v) ∉ binds) → bindC kindOf binds m x = m x
  | [], _, _ => rfl
  | (n, v) :: r, m, h => by
    unfold bindC
    rw [bindC_out fun w hw => h w (List.mem_cons_of_mem _ hw)]
    split
    · rfl
    · have : x ≠ n := by rintro rfl; exact h v List.mem_cons_self
      simp [this]
theorem bindL_get {kindOf : Str → Option NameKind} {x : Str} {v : Value} : ∀ {P : List Str} {vs : List Value} {i : Nat} {m : Str → Option Value}, P.Nodup → P[i]? = some x → vs[i]? = some v → kindOf x = some .local →
    bindL kindOf (P.zip vs) m x = some v
  | [], _, _, _, _, h, _, _ => by simp at h
  | _ :: _, [], _, _, _, _, h, _ => by simp at h
  | p :: P, w :: vs, 0, m, nd, h1, h2, hk => by
    simp at h1 h2; subst h1; subst h2
    show bindL kindOf ((p, w) :: P.zip vs) m p = _
    unfold bindL
    rw [bindL_out fun v hv => (List.nodup_cons.mp nd).1 (List.of_mem_zip hv).1, if_pos hk]
    simp
  | p :: P, w :: vs, i + 1, m, nd, h1, h2, hk => by
    show bindL kindOf ((p, w) :: P.zip vs) m x = _
    unfold bindL
    exact bindL_get (i := i) (List.nodup_cons.mp nd).2 (by simpa using h1) (by simpa using h2) hk
theorem bindC_get {kindOf : Str → Option NameKind} {x : Str} {v : Value} : ∀ {P : List Str} {vs : List Value} {i : Nat} {m : Str → Option Value}, P.Nodup → P[i]? = some x → vs[i]? = some v → kindOf x ≠ some .local →
    bindC kindOf (P.zip vs) m x = some v
  | [], _, _, _, _, h, _, _ => by simp at h
  | _ :: _, [], _, _, _, _, h, _ => by simp at h
  | p :: P, w :: vs, 0, m, nd, h1, h2, hk => by
    simp at h1 h2; subst h1; subst h2
    show bindC kindOf ((p, w) :: P.zip vs) m p = _
    unfold bindC
    rw [bindC_out fun v hv => (List.nodup_cons.mp nd).1 (List.of_mem_zip hv).1, if_neg hk]
    simp
  | p :: P, w :: vs, i + 1, m, nd, h1, h2, hk => by
    show bindC kindOf ((p, w) :: P.zip vs) m x = _
    unfold bindC
    exact bindC_get (i := i) (List.nodup_cons.mp nd).2 (by simpa using h1) (by simpa using h2) hk
def start (N : List Str) (vs : List V) : St := vs.map some ++ List.replicate (N.length - vs.length) none
def cxOf (CX : CXT) (P : Program) (w : World) (K : PySem.W.Frag) (mg : Str → Option Value) (base : Heap) (N : List Str) (qual : Str) (scope : Scope) (f : Addr) (cd : Value) (A : Around) (outer : List Env) (s : Shared) (H : Hp) (E : XK) : Cx where
  prog := P
  w := w
  K := K
  mg := mg
  base := base
  A := A.deeper (envOfC qual scope s.heap.objs.size f cd)
  N := N
  s₀ := s
  H₀ := H
  env := envOfC qual scope s.heap.objs.size f cd
  outer := outer
  stack := envOfC qual scope s.heap.objs.size f cd :: outer
  ex := []
  calm := true
  fn := fun _ => true
  pn := []
  xe := fun e s' => wpAny (model P w) (A.deeper (envOfC qual scope s.heap.objs.size f cd)) (leaving (envOfC qual scope s.heap.objs.size f cd) e) (fun _ s'' => CX outer H s E e s'') (fun e' s'' => CX outer H s E e' s'') s'
theorem cell_has {sc : Scope} {n : Nat} {x : Str} (h : sc.names.lookup x = some .cell) : ∃ c, (cellsFrom n sc.names []).lookup x = some c := by
  have q := PySem.W.cellsFrom_some sc.names n [] (.inl h)
  exact Option.isSome_iff_exists.mp q
theorem inv_start {CX : CXT} {P : Program} {w : World} {K : PySem.W.Frag} {mg : Str → Option Value} {base : Heap} {N ps : List Str} {qual : Str} {scope : Scope} {f : Addr} {cd : Value} {A : Around} {outer : List Env} {s s1 : Shared} {H : Hp} {E : XK} {us : List Value} {vs : List V}
    (S : FnScope N ps scope) (hd : A.handled = none) (e0 : Env0 P w K mg base A outer s H) (hl : vs.length = ps.length) (r : Vals vs us)
    (x : InCallC s s.heap.objs.size (bindL (envOfC qual scope s.heap.objs.size f cd).kindOf (ps.zip us) fun _ => none) (cellsFrom (s.heap.objs.size + 1) scope.names []) (bindC (envOfC qual scope s.heap.objs.size f cd).kindOf (ps.zip us) fun _ => none) s1) :
    Inv (cxOf CX P w K mg base N qual scope f cd A outer s H E) [] (start N vs) H s1 := by
  have hpl : ps.length ≤ N.length := by have := congrArg List.length S.pre; rw [List.length_take] at this; omega
  obtain ⟨h1, tk, rfl, hk⟩ := x.done
  have noA : ∀ b : Addr, b ∉ (cxOf CX P w K mg base N qual scope f cd A outer s H E).ex := fun b z => absurd (show b ∈ ([] : List Addr) from z) (by simp)
  refine ⟨⟨e0.mod, S.kind, rfl, rfl, Nat.le_refl _, fun y z c h1 h2 => ?_, fun y hy => ?_, fun y c _ h => ?_, fun _ => hd, Around.frames_deeper e0.frames, .inr ⟨rfl, rfl⟩, fun b z => absurd z (noA b), e0.bs, e0.bsz, fun b _ _ => noA b, fun b z => absurd z (noA b), e0.funs, e0.frf⟩,
    rfl, e0.bare, Un.kept hk, ⟨_, x.toInCall.ns, fun i y v h1 h2 h3 => ?_⟩, fun y c h => ⟨_, x.cell y c h⟩, e0.hok.fresh (Nat.le_refl _), fun y c h => ?_, fun p hp => absurd (show p ∈ ([] : List (Addr × Obj)) from hp) (by simp), e0.hok.kept hk, ?_⟩
  · exact name_of_addr x.apart (PySem.mem_of_lookup h1) (PySem.mem_of_lookup h2)
  · have hy : scope.names.lookup y = some .cell ∨ scope.names.lookup y = some .free := hy
    rcases hy with hy | hy
    · exact cell_has hy
    · exact absurd rfl (S.nofree _ (PySem.mem_of_lookup hy))
  · exact Nat.le_of_lt (x.above y c (PySem.mem_of_lookup h))
  · have hi : i < vs.length := by
      unfold start at h2
      by_cases hi : i < vs.length
      · exact hi
      · rw [List.getElem?_append_right (by simpa using hi)] at h2
        rw [List.getElem?_replicate] at h2
        split at h2 <;> cases h2
    have ha : vs[i]? = some v := by
      unfold start at h2
      rw [List.getElem?_append_left (by simpa using hi), List.getElem?_map] at h2
      cases e : vs[i]? with
      | none => rw [e] at h2; cases h2
      | some a => rw [e] at h2; cases h2; rfl
    obtain ⟨u, hu, rv⟩ := r.get ha
    have hp : ps[i]? = some y := by
      rw [← S.pre, List.getElem?_take_of_lt (by omega)]; exact h1
    have ndP : ps.Nodup := by rw [← S.pre]; exact S.nd.sublist (List.take_sublist _ _)
    refine ⟨u, rv, ?_⟩
    rcases S.par y (List.mem_of_getElem? hp) with k | k
    · exact .inl ⟨k, bindL_get ndP hp hu k⟩
    · obtain ⟨c, e⟩ := cell_has (n := s.heap.objs.size + 1) k
      refine .inr ⟨.inl k, c, e, ?_⟩
      have q := x.cell y c e
      rw [bindC_get ndP hp hu (by show scope.names.lookup y ≠ _; rw [k]; decide)] at q
      exact q
  · exact e0.hok.fresh (Nat.le_of_lt (x.above y c (PySem.mem_of_lookup h)))
  · unfold start
    show _ = N.length
    rw [List.length_append, List.length_map, List.length_replicate]
    omega
theorem fn_of {CX : CXT} {P : Program} {w : World} {K : PySem.W.Frag} {mg : Str → Option Value} {base : Heap} {k : Nat} {f : Addr} {name qual : Str} {params : Arguments} {body : List Stmt} {scope : Scope} {dV kV doc pm cdv ct oc : Value} {an od : Option Addr}
    {osl : Array (Option Value)} {N ps : List Str} {sp : Sp} (lk : K.lookup f = some ⟨oc, od, .func (PySem.W.fnOf name qual params body scope dV kV doc pm an cdv ct), osl⟩) (hcd : PySem.W.codeIn K cdv qual = true) (S : FnScope N ps scope)
    (len : ∀ vs H Q E, sp vs H Q E → vs.length = ps.length)
    (hbody : ∀ (A : Around) (outer : List Env) (s : Shared) (H : Hp) (vs : List V) (Q : VK) (E : XK), Room k (A.deeper (envOfC qual scope s.heap.objs.size f cdv)) → sp vs H Q E →
      ∃ t, PSs (cxOf CX P w K mg base N qual scope f cdv A outer s H E) body t ∧ t { nx := fun _ H' => Q .non H', rt := Q } (start N vs) H) :
    FnOk P w K mg base CX (k + 1) f (PySem.W.fnOf name qual params body scope dV kV doc pm an cdv ct) ps sp := by
  refine ⟨len, fun A outer s H args us vs Q E hr e0 hb r hsp => ?_⟩
  have hl := len _ _ _ _ hsp
  have KX : K.In s.heap := e0.mod.kin.keeps fun b o e => (e0.bs b o e).1
  have lim : s.heap.NoLimit := e0.mod.nolimit.keeps fun b o e => (e0.bs b o e).1
  have hkind : ∀ y ∈ ps.zip us, scope.names.lookup y.1 = some .local ∨ (scope.names.lookup y.1 = some .cell ∧ ((cellsFrom (s.heap.objs.size + 1) scope.names []).lookup y.1).isSome = true) := fun ⟨n, v⟩ hy => by
    rcases S.par n (List.of_mem_zip hy).1 with q | q
    · exact .inl q
    · exact .inr ⟨q, PySem.W.cellsFrom_some _ _ _ (.inl q)⟩
  refine codeAny_call_function hr.depth (KX _ _ lk) rfl S.co S.gen rfl (PySem.W.codeRec_of KX hcd) (hb _ _ _ _ ?_)
  refine wpAny_newFunctionEnv_cells S.kind hkind fun env he s1 x => ?_
  subst he
  refine ⟨lim.keeps x.toInCall.keep, codeAny_func ?_⟩
  obtain ⟨t, ht, hq⟩ := hbody A outer s H vs Q E (hr.deeper _) hsp
  have I : Inv (cxOf CX P w K mg base N qual scope f cdv A outer s H E) [] (start N vs) H s1 := inv_start S hr.hd e0 hl r x
  refine wpAny_mono (ht [] s1 (start N vs) H _ I hq) (fun fl s' hs => ?_) fun e s' hs => hs
  have fin : ∀ {σ' : St} {H' : Hp} {v : V} {u : Value}, Inv (cxOf CX P w K mg base N qual scope f cdv A outer s H E) [] σ' H' s' → RelV v u → Q v H' → CE outer P w H s Q u s' :=
    fun {σ' H' v u} J rv q => ⟨v, H', J.os, J.bare, J.base, J.hok, rv, q⟩
  cases fl with
  | ret u =>
    obtain ⟨v, σ', H', J, rv, q⟩ := hs
    exact fin J rv q
  | next =>
    obtain ⟨σ', H', J, q⟩ := hs
    exact fin (v := V.non) (u := Value.none) J rfl q
  | brk =>
    obtain ⟨_, _, _, q⟩ := hs
    exact False.elim q
  | cont =>
    obtain ⟨_, _, _, q⟩ := hs
    exact False.elim q
end L2
namespace L2
open PySem PySem.Spec PyProof.Rows
section
variable {X : Cx} {x : Str} {p pos : Pos} {e : Expr} {es : List Expr} {t : TA} {id T : String} {r : List V → Hp → VK → Prop}
def tCB (r : List V → Hp → VK → Prop) (t : TA) : TE := fun σ H Q => t σ H fun vs H1 => r vs H1 Q
theorem pe_callB (hc : CallR X (.builtin id) r) (hg : Gl X x) (hm : X.mg x = none) (hv : bootBuiltins x = some (.builtin id)) (ha : PA X (e :: es) t) (hn : x ≠ "__name__" := by decide) (hdb : (x == ("__debug__" : Str)) = false := by decide)
    (he : starEach (e :: es) X.env = (false, eval e X.env) :: starEach es X.env := by rfl) (hpl : (backTo pos (starEach es X.env)).any (·.1) = false := by rfl) : PE X (.Call (.Name x p) (e :: es) [] pos) (tCB r t) := by
  intro pins s σ H Q I h
  refine wpAny_Call_Name_kw (ld_blt I hg hm hv ?_ hn hdb)
  exact PyProof.Rows.callWith_builtin1 (thn (ha pos pins s σ H _ I h) fun us s1 ⟨vs, H1, I1, r1, q1⟩ => hc pins s1 σ H1 vs us Q I1 r1 q1) he hpl
theorem pe_callTy (hc : CallR X (.type T) r) (hg : Gl X x) (hm : X.mg x = none) (hv : bootBuiltins x = some (.type T)) (ha : PA X (e :: es) t) (hn : x ≠ "__name__" := by decide) (hdb : (x == ("__debug__" : Str)) = false := by decide)
    (he : starEach (e :: es) X.env = (false, eval e X.env) :: starEach es X.env := by rfl) (hpl : (backTo pos (starEach es X.env)).any (·.1) = false := by rfl) : PE X (.Call (.Name x p) (e :: es) [] pos) (tCB r t) := by
  intro pins s σ H Q I h
  refine wpAny_Call_Name_kw (ld_blt I hg hm hv ?_ hn hdb)
  exact PyProof.Rows.callWith_type1 (thn (ha pos pins s σ H _ I h) fun us s1 ⟨vs, H1, I1, r1, q1⟩ => hc pins s1 σ H1 vs us Q I1 r1 q1) he hpl
end
end L2
namespace HT
open PySem PyProof.Rows
def lexLt : List Int → List Int → Bool
  | [], [] => false
  | [], _ :: _ => true
  | _ :: _, [] => false
  | x :: xs, y :: ys => if x = y then lexLt xs ys else decide (x < y)
section
open PySem.SeqAt
open PySem.AutoSeq1 (wpAny_loadPart')
open PySem.MeetsSeq PySem.MeetsSeq2 PySem.MeetsSeq3
end
section
variable {prog : Program} {w : World} {A : Around} {E : Value → Shared → Prop} {s : Shared}
def sIx (n d : Nat) : Option Int → Nat
  | none => d
  | some v => if v < 0 then (v + (n : Int)).toNat else min v.toNat n
end
end HT
namespace L2
open PySem PySem.Spec PyProof.Rows
abbrev TO := St → Hp → (Option Int → Hp → Prop) → Prop
def PO (X : Cx) (e : Option Expr) (t : TO) : Prop :=
  ∀ (pins : List (Addr × Obj)) (s : Shared) (σ : St) (H : Hp) (Q : Option Int → Hp → Prop), Inv X pins σ H s → t σ H Q →
    wpAny (model X.prog X.w) X.A (evalPart e X.env) (fun u s' => ∃ o H', Inv X pins σ H' s' ∧ IsPart u o ∧ Q o H') X.xe s
def tNoPart : TO := fun _ H Q => Q none H
def tPart (t : TE) : TO := fun σ H Q => t σ H fun x H1 => ∃ i, x = .int i ∧ Q (some i) H1
theorem intsAre_of {ns : List Int} : ∀ {us : List Value}, Vals (ns.map V.int) us → IntsAre us ns := by
  induction ns with
  | nil => intro us r; rw [List.map_nil] at r; cases r; exact .nil
  | cons n ns ih =>
    intro us r
    rw [List.map_cons] at r
    cases r with
    | cons r1 r2 =>
      obtain ⟨t, e⟩ := r1
      subst e
      exact .cons n t (ih r2)
section
variable {X : Cx} {e : Expr} {te : TE} {lo hi : Option Expr} {tl th : TO} {pos p2 : Pos}
theorem po_some (h : PE X e te) : PO X (some e) (tPart te) := by
  intro pins s σ H Q I hw
  rw [evalPart_some]
  refine thn (h pins s σ H _ I hw) fun u s1 ⟨x, H1, I1, r1, q1⟩ => ?_
  obtain ⟨i, rfl, q⟩ := q1
  obtain ⟨t, rfl⟩ := r1
  exact ⟨some i, H1, I1, .int i t, q⟩
def SlR (X : Cx) (r : V → Option Int → Option Int → Hp → VK → Prop) : Prop :=
  ∀ (pins : List (Addr × Obj)) (s : Shared) (σ : St) (H : Hp) (x : V) (v vl vu : Value) (lo hi : Option Int) (sl : Addr) (Q : VK), Inv X pins σ H s → RelV x v → s.heap.IsSliceOf sl vl vu .none → IsPart vl lo → IsPart vu hi → r x lo hi H Q →
    ∃ T id, typeLookup (.type T) "__getitem__" = pure (some (.builtin id)) ∧ s.TypeIs v T ∧ wpAny (model X.prog X.w) X.A (getItem v (.ref sl)) (EP X pins σ Q) X.xe s
def tSl (r : V → Option Int → Option Int → Hp → VK → Prop) (te : TE) (tl th : TO) : TE := fun σ H Q => te σ H fun x H1 => tl σ H1 fun l H2 => th σ H2 fun u H3 => r x l u H3 Q
theorem pe_slice {r : V → Option Int → Option Int → Hp → VK → Prop} (hr : SlR X r) (he : PE X e te) (hl : PO X lo tl) (hu : PO X hi th) : PE X (.Subscript e (.Slice lo hi none p2) pos) (tSl r te tl th) := by
  intro pins s σ H Q I h
  refine Subscript_ (thn (he pins s σ H _ I h) fun v s1 ⟨x, H1, I1, r1, q1⟩ => ?_)
  refine wpAny_Slice (thn (hl pins s1 σ H1 _ I1 q1) fun vl s2 ⟨l, H2, I2, pl, q2⟩ => thn (hu pins s2 σ H2 _ I2 q2) fun vu s3 ⟨u, H3, I3, pu, q3⟩ => ?_)
  rw [evalPart_none]
  refine wpAny_pure ?_
  have I4 : Inv X pins σ H3 { s3 with heap := s3.heap.push { cls := .type "slice", data := .fields #[vl, vu, .none] } } := I3.kept (t' := s3.toks) fun b ob q => Heap.get?_push_of_some _ q
  obtain ⟨T, id, hT, ht, hg⟩ := hr pins { s3 with heap := s3.heap.push { cls := .type "slice", data := .fields #[vl, vu, .none] } } σ H3 x v vl vu l u s3.heap.objs.size Q I4 r1 (Heap.IsSliceOf.new ..) pl pu q3
  show wpAny (model X.prog X.w) X.A (subscriptTail e (.Slice lo hi none p2) v (.ref s3.heap.objs.size)) (EP X pins σ Q) X.xe { s3 with heap := s3.heap.push { cls := .type "slice", data := .fields #[vl, vu, .none] } }
  exact tail_any (ops := [.ref s3.heap.objs.size, v]) ht hT hg (by with_unfolding_all rfl)
def cutV (xs : List V) (lo hi : Option Int) : List V := (xs.drop (HT.sIx xs.length 0 lo)).take (HT.sIx xs.length xs.length hi - HT.sIx xs.length 0 lo)
theorem cutV_length (xs : List V) (lo hi : Option Int) : (cutV xs lo hi).length ≤ xs.length := by
  unfold cutV
  rw [List.length_take, List.length_drop]
  omega
def rSlT (K : PySem.W.Frag) : V → Option Int → Option Int → Hp → VK → Prop := fun x lo hi H Q => ∃ a xs, x = .ref a ∧ SqT K H a xs ∧
  ¬ (HT.sIx xs.length 0 lo = 0 ∧ HT.sIx xs.length xs.length hi = xs.length) ∧ ∀ p, H p = none → Q (.ref p) (upd H p (.tup (cutV xs lo hi)))
def rLtT (K : PySem.W.Frag) : R2 := fun x y H Q => ∃ a b ns ms, x = .ref a ∧ y = .ref b ∧ SqT K H a (ns.map V.int) ∧ SqT K H b (ms.map V.int) ∧ Q (.bl (HT.lexLt ns ms)) H
def rCatT (K : PySem.W.Frag) : R2 := fun x y H Q => ∃ a b xs ys, x = .ref a ∧ y = .ref b ∧ SqT K H a xs ∧ SqT K H b ys ∧ xs ≠ [] ∧ xs.length + ys.length ≤ sizeLine ∧
  (ys = [] → Q (.ref a) H) ∧ (ys ≠ [] → ∀ p, H p = none → Q (.ref p) (upd H p (.tup (xs ++ ys))))
end
end L2
namespace L2
open PySem PySem.Spec PyProof.Rows
def ixN (n : Nat) (i : Int) : Option Nat := if 0 ≤ i then (if i < n then some i.toNat else none) else if -(n : Int) ≤ i then some (i + n).toNat else none
def atI {α : Type} (xs : List α) (i : Int) : Option α := (ixN xs.length i).bind fun j => xs[j]?
theorem ixN_seq {n : Nat} {i : Int} {j : Nat} (h : ixN n i = some j) : seqIndex? i n = some j ∧ j < n ∧ -(n : Int) ≤ i ∧ i < n := by
  unfold ixN at h
  by_cases h0 : 0 ≤ i
  · rw [if_pos h0] at h
    by_cases h1 : i < n
    · rw [if_pos h1] at h
      have e : i.toNat = j := Option.some.inj h
      exact ⟨by rw [seqIndex_of h0 h1, e], by omega, by omega, h1⟩
    · rw [if_neg h1] at h; cases h
  · rw [if_neg h0] at h
    by_cases h1 : -(n : Int) ≤ i
    · rw [if_pos h1] at h
      have e : (i + n).toNat = j := Option.some.inj h
      exact ⟨by rw [seqIndex_neg (by omega) h1, e], by omega, h1, by omega⟩
    · rw [if_neg h1] at h; cases h
theorem atI_get {α : Type} {xs : List α} {i : Int} {v : α} (h : atI xs i = some v) : ∃ j, seqIndex? i xs.length = some j ∧ xs[j]? = some v ∧ j < xs.length ∧ -(xs.length : Int) ≤ i ∧ i < xs.length := by
  unfold atI at h
  cases e : ixN xs.length i with
  | none => rw [e] at h; cases h
  | some j =>
    rw [e] at h
    obtain ⟨h1, h2, h3, h4⟩ := ixN_seq e
    exact ⟨j, h1, h, h2, h3, h4⟩
theorem atI_nat {α : Type} {xs : List α} {j : Nat} {v : α} (h : xs[j]? = some v) : atI xs (j : Int) = some v := by
  have hj : j < xs.length := (List.getElem?_eq_some_iff.mp h).1
  have e : ixN xs.length (j : Int) = some j := by
    unfold ixN
    rw [if_pos (by omega), if_pos (by omega)]; simp
  unfold atI; rw [e]; exact h
def PlainIx (b : Expr) : Prop := ∀ o i, subscripted b false o i = operate [o, i] (getItem o i)
def IxR (X : Cx) (r : R2) : Prop :=
  ∀ (value slice : Expr) (pins : List (Addr × Obj)) (s : Shared) (σ : St) (H : Hp) (x y : V) (v u : Value) (Q : VK), Inv X pins σ H s → RelV x v → RelV y u → r x y H Q →
    subscripted slice false v u = operate [v, u] (getItem v u) → wpAny (model X.prog X.w) X.A (subscriptTail value slice v u) (EP X pins σ Q) X.xe s
def MtR (X : Cx) (id : String) (r : V → List V → Hp → VK → Prop) : Prop :=
  ∀ (pins : List (Addr × Obj)) (s : Shared) (σ : St) (H : Hp) (x : V) (xs : List V) (v : Value) (us : List Value) (Q : VK), Inv X pins σ H s → RelV x v → Vals xs us → r x xs H Q →
    wpAny (model X.prog X.w) X.A (call (.builtin id) (v :: us)) (EP X pins σ Q) X.xe s
section
variable {X : Cx} {a b : Expr} {ta tb : TE} {pos : Pos}
theorem pe_ix {r : R2} (hr : IxR X r) (ha : PE X a ta) (hb : PE X b tb) (hs : PlainIx b) : PE X (.Subscript a b pos) (tOp r ta tb) := by
  intro pins s σ H Q I h
  exact Subscript_ (binT ha hb I h fun v u s2 x y H2 I2 rx ry q => hr a b pins s2 σ H2 x y v u Q I2 rx ry q (hs _ _))
def rIxL (K : PySem.W.Frag) : R2 := fun x y H Q => ∃ p xs i v, x = .ref p ∧ y = .int i ∧ SqL K H p xs ∧ atI xs i = some v ∧ Q v H
def rIxT (K : PySem.W.Frag) : R2 := fun x y H Q => ∃ p xs i v, x = .ref p ∧ y = .int i ∧ SqT K H p xs ∧ atI xs i = some v ∧ Q v H
def rIxS : R2 := fun x y H Q => ∃ z i c, x = .str z ∧ y = .int i ∧ z.length ≤ sizeLine ∧ atI z.cps.toList i = some c ∧ Q (.str ⟨#[c]⟩) H
theorem ix_list : IxR X (rIxL X.K) := by
  intro value slice pins s σ H x y v u Q I rx ry h hs
  obtain ⟨p, xs, i, z, rfl, rfl, hq, he, q⟩ := h
  cases rx
  obtain ⟨t, rfl⟩ := ry
  obtain ⟨its, r, pl, hz⟩ := I.list hq
  obtain ⟨j, h1, h2, h3, h4, h5⟩ := atI_get he
  obtain ⟨w, ew, rw'⟩ := r.get h2
  have hl := r.length
  have hn := line63
  have fin : EP X pins σ Q w s := ⟨z, H, I, rw', q⟩
  by_cases h0 : 0 ≤ i
  · have hj : i.toNat = j := by
      rw [seqIndex_of h0 h5] at h1
      exact Option.some.inj h1
    exact item_listR pl.isList h0 (by omega) (by rw [hj]; simpa using ew) fin hs
  · have hj : (i + (its.toArray.size : Int)).toNat = j := by
      rw [seqIndex_neg (by omega) h4] at h1
      rw [List.size_toArray, ← hl]
      exact Option.some.inj h1
    exact subscriptTail_builtinR (x := w) pl.isList.typeIs slot_list_getitem.lookup
      (wpAny_getItem_list_neg (Q := fun r s' => r = w ∧ EP X pins σ Q r s') pl.isList (by omega) (by rw [List.size_toArray] <;> omega) (by omega) (by rw [hj]; simpa using ew) ⟨rfl, fin⟩) hs
theorem ix_tup : IxR X (rIxT X.K) := by
  intro value slice pins s σ H x y v u Q I rx ry h hs
  obtain ⟨p, xs, i, z, rfl, rfl, hq, he, q⟩ := h
  cases rx
  obtain ⟨t, rfl⟩ := ry
  obtain ⟨its, r, pl, hz⟩ := I.tuple hq
  obtain ⟨j, h1, h2, h3, h4, h5⟩ := atI_get he
  obtain ⟨w, ew, rw'⟩ := r.get h2
  have hl := r.length
  have hn := line63
  have fin : EP X pins σ Q w s := ⟨z, H, I, rw', q⟩
  exact subscriptTail_builtinR (x := w) pl.typeIs slot_tuple_getitem.lookup
    (getItem_tuple (j := j) (Q := fun r s' => r = w ∧ EP X pins σ Q r s') pl (by omega) (by omega) (by rw [List.size_toArray, ← hl]; exact h1) (by simpa using ew) ⟨rfl, fin⟩) hs
def rIx (K : PySem.W.Frag) : R2 := fun x y H Q => rIxL K x y H Q ∨ rIxT K x y H Q ∨ rIxS x y H Q
theorem Inv.lst {pins : List (Addr × Obj)} {σ : St} {H : Hp} {s : Shared} {p : Addr} {xs : List V} (I : Inv X pins σ H s) (h : H p = some (.lst xs)) :
    ∃ (its : List Value) (n : Nat), Vals xs its ∧ s.heap.get? p = some { cls := .type "list", data := .seq its.toArray n } ∧ xs.length ≤ sizeLine := by
  obtain ⟨z, its, n, r, e⟩ := I.hok p _ h
  exact ⟨its, n, r, e, z⟩
def rSetL : V → V → V → Hp → (Hp → Prop) → Prop := fun o i v H Q => ∃ p xs k j, o = .ref p ∧ i = .int k ∧ H p = some (.lst xs) ∧ ixN xs.length k = some j ∧ Q (upd H p (.lst (xs.set j v)))
theorem slice_bounds (lo hi : Option Int) (n : Nat) : (sliceBounds lo hi none n).1 = ((HT.sIx n 0 lo : Nat) : Int) ∧ (sliceBounds lo hi none n).2.1 = ((HT.sIx n n hi : Nat) : Int) ∧ (sliceBounds lo hi none n).2.2 = 1 := by
  refine ⟨?_, ?_, rfl⟩
  · cases lo with
    | none => simp [sliceBounds, HT.sIx]
    | some i =>
      simp only [sliceBounds, HT.sIx, Option.getD_none, show (1 : Int) > 0 by decide, if_true]
      by_cases h : i < 0
      · simp only [h, if_true] <;> omega
      · simp only [h, if_false] <;> omega
  · cases hi with
    | none => simp [sliceBounds, HT.sIx]
    | some i =>
      simp only [sliceBounds, HT.sIx, Option.getD_none, show (1 : Int) > 0 by decide, if_true]
      by_cases h : i < 0
      · simp only [h, if_true] <;> omega
      · simp only [h, if_false] <;> omega
theorem slicePick_cut (its : List Value) (lo hi : Option Int) : slicePick its.toArray lo hi none = ((its.drop (HT.sIx its.length 0 lo)).take (HT.sIx its.length its.length hi - HT.sIx its.length 0 lo)).toArray := by
  obtain ⟨h1, h2, h3⟩ := slice_bounds lo hi its.toArray.size
  unfold slicePick
  rw [h1, h2, h3]
  simp only [sliceRange_one, pick_run, List.size_toArray] <;> rfl
def rSlL (K : PySem.W.Frag) : V → Option Int → Option Int → Hp → VK → Prop := fun x lo hi H Q => ∃ a xs, x = .ref a ∧ SqL K H a xs ∧ ∀ p, H p = none → Q (.ref p) (upd H p (.lst (cutV xs lo hi)))
theorem sl_list : SlR X (rSlL X.K) := by
  intro pins s σ H x v vl vu lo hi sl Q I rx hs pl pu h
  obtain ⟨a, xs, rfl, hx, q⟩ := h
  cases rx
  obtain ⟨its, r, ht, hz⟩ := I.list hx
  have hlen := r.length
  refine ⟨"list", _, slot_list_getitem.lookup, ht.isList.typeIs, ?_⟩
  refine wpAny_getItem_list_slice ht.isList hs pl pu .none (by simp) ?_ (by rw [List.size_toArray] <;> omega)
  rw [slicePick_cut, ← hlen]
  refine ⟨.ref s.heap.objs.size, _, I.laid (t' := s.toks) (o := .lst (cutV xs lo hi)) (fun b ob q => Heap.get?_push_of_some _ q) (Nat.le_refl _) ?_, rfl, q _ (I.hok.fresh (Nat.le_refl _))⟩
  exact ⟨Nat.le_trans (cutV_length xs lo hi) hz, _, 0, (r.drop (HT.sIx xs.length 0 lo)).take (HT.sIx xs.length xs.length hi - HT.sIx xs.length 0 lo), Heap.get?_push_size _ rfl⟩
def flatV : V → Bool
  | .non => true
  | .bl _ => true
  | .int _ => true
  | .str _ => true
  | _ => false
def eqV : V → V → Bool
  | .non, .non => true
  | .bl a, .bl b => a == b
  | .bl a, .int b => (if a then 1 else 0) == b
  | .int a, .bl b => a == (if b then 1 else 0)
  | .int a, .int b => a == b
  | .str a, .str b => a == b
  | _, _ => false
def eqU (x : V) (u : Value) : Bool := match u with
  | .none => eqV .non x
  | .bool b => eqV (.bl b) x
  | .int i _ => eqV (.int i) x
  | .str z _ => eqV (.str z) x
  | _ => false
def inV (x : V) (xs : List V) : Bool := xs.any fun y => eqV y x
def rIn (K : PySem.W.Frag) (neg : Bool) : R2 := fun x y H Q => ∃ p xs, y = .ref p ∧ (SqL K H p xs ∨ SqT K H p xs) ∧ flatV x = true ∧ xs.all flatV = true ∧ Q (.bl (if neg then !inV x xs else inV x xs)) H
theorem call_len_seq : CallR X (.builtin "len") (fun xs H Q => ∃ p ys, xs = [.ref p] ∧ (SqL X.K H p ys ∨ SqT X.K H p ys) ∧ Q (.int ys.length) H) := by
  intro pins s σ H xs us Q I r h
  obtain ⟨p, ys, rfl, hq, q⟩ := h
  obtain ⟨u, rfl, rx⟩ := vals1 r
  cases rx
  have hn := line63
  rcases hq with hq | hq
  · obtain ⟨its, r', pl, hz⟩ := I.list hq
    have hlen := r'.length
    exact Calls.call_len_list pl.isList (by simp only [List.size_toArray] <;> omega) ⟨.int ys.length, H, I.tok _, ⟨s.toks + 1, by rw [List.size_toArray, hlen]⟩, q⟩
  · obtain ⟨its, r', pl, hz⟩ := I.tuple hq
    have hlen := r'.length
    exact len_tuple pl (by simp only [List.size_toArray] <;> omega) ⟨.int ys.length, H, I.tok _, ⟨s.toks + 1, by rw [List.size_toArray, hlen]⟩, q⟩
theorem call_len_str : CallR X (.builtin "len") (fun xs H Q => ∃ z, xs = [.str z] ∧ z.length ≤ sizeLine ∧ Q (.int z.length) H) := by
  intro pins s σ H xs us Q I r h
  obtain ⟨z, rfl, hz, q⟩ := h
  obtain ⟨u, rfl, t, rfl⟩ := vals1 r
  have hn := line63
  exact len_str (by omega) ⟨.int z.length, H, I.tok _, ⟨_, rfl⟩, q⟩
theorem call_list_of : CallR X (.type "list") (fun xs H Q => ∃ p ys, xs = [.ref p] ∧ (SqL X.K H p ys ∨ SqT X.K H p ys) ∧ ∀ l, H l = none → Q (.ref l) (upd H l (.lst ys))) := by
  intro pins s σ H xs us Q I r h
  obtain ⟨p, ys, rfl, hq, q⟩ := h
  obtain ⟨u, rfl, rx⟩ := vals1 r
  cases rx
  have fin : ∀ (its : List Value), Vals ys its → ys.length ≤ sizeLine → ∀ (h' : Heap) (c' : Nat), (∀ b o', s.heap.get? b = some o' → h'.get? b = some o') →
      h'.get? s.heap.objs.size = some { cls := .type "list", dict := none, data := .seq its.toArray c', slots := #[] } → EP X pins σ Q (.ref s.heap.objs.size) { s with heap := h' } := fun its r' hz h' c' kp e =>
    ⟨.ref s.heap.objs.size, _, I.laid (t' := s.toks) kp (Nat.le_refl _) (show ObjOk X.prog X.w _ h' _ (.lst ys) from ⟨hz, its, c', r', e⟩), rfl, q _ (I.hok.fresh (Nat.le_refl _))⟩
  rcases hq with hq | hq
  · obtain ⟨its, r', pl, hz⟩ := I.list hq
    have hlen := r'.length
    obtain ⟨o, ho, hc, n, hd⟩ := pl.isList
    exact call_list_seq p (.inl rfl) ho hc hd (fun h' c' kp e => fin its r' hz h' c' kp e) (by simp only [List.size_toArray] <;> omega)
  · obtain ⟨its, r', pl, hz⟩ := I.tuple hq
    have hlen := r'.length
    obtain ⟨o, ho, hc, n, hd⟩ := pl
    exact call_list_seq p (.inr rfl) ho hc hd (fun h' c' kp e => fin its r' hz h' c' kp e) (by simp only [List.size_toArray] <;> omega)
theorem call_tuple_of : CallR X (.type "tuple") (fun xs H Q => ∃ p ys, xs = [.ref p] ∧ ((SqL X.K H p ys ∧ ∀ l, H l = none → Q (.ref l) (upd H l (.tup ys))) ∨ (SqT X.K H p ys ∧ Q (.ref p) H))) := by
  intro pins s σ H xs us Q I r h
  obtain ⟨p, ys, rfl, h⟩ := h
  obtain ⟨u, rfl, rx⟩ := vals1 r
  cases rx
  rcases h with ⟨hq, q⟩ | ⟨hq, q⟩
  · obtain ⟨its, r', pl, hz⟩ := I.list hq
    have hlen := r'.length
    refine call_tuple_list pl.isList (fun h' kp => ?_) (by simp only [List.size_toArray] <;> omega)
    have I1 : Inv X pins σ H { s with heap := h' } := I.kept (t' := s.toks) kp
    have I2 : Inv X pins σ (upd H h'.objs.size (.tup ys)) { s with heap := h'.push { cls := .type "tuple", data := .seq its.toArray } } :=
      I1.laid (t' := s.toks) (fun b o e => Heap.get?_push_of_some _ e) (Nat.le_refl _) (show ObjOk X.prog X.w _ _ _ (.tup ys) from ⟨hz, its, r', IsTup.new _ _⟩)
    exact ⟨.ref h'.objs.size, _, I2, rfl, q _ (I1.hok.fresh (Nat.le_refl _))⟩
  · obtain ⟨its, r', pl, hz⟩ := I.tuple hq
    exact call_tuple_same pl ⟨.ref p, H, I, rfl, q⟩
def tyV (K : PySem.W.Frag) (T : String) (x : V) (H : Hp) : Prop := match x with
  | .str _ => T = "str"
  | .int _ => T = "int"
  | .ref p => (T = "list" ∧ ∃ xs, SqL K H p xs) ∨ (T = "tuple" ∧ ∃ o, K.lookup p = some o ∧ o.cls = .type "tuple" ∧ o.dict = none) ∨
      (T = "dict" ∧ ((∃ kvs, H p = some (.dK kvs)) ∨ ∃ kvs, H p = some (.dT kvs))) ∨ (T = "set" ∧ ∃ S n, H p = some (.set S n))
  | _ => False
theorem tyV_is {pins : List (Addr × Obj)} {σ : St} {H : Hp} {s : Shared} {T : String} {x : V} {v : Value} (I : Inv X pins σ H s) (r : RelV x v) (ty : tyV X.K T x H) :
    s.TypeIs v T ∧ ∀ a, v = .ref a → ∃ ob, s.heap.get? a = some ob ∧ ob.dict = none := by
  cases x with
  | str z =>
    obtain ⟨t, rfl⟩ := r
    cases (show T = "str" from ty)
    exact ⟨typeIs_str s z t, fun _ e => nomatch e⟩
  | int i =>
    obtain ⟨t, rfl⟩ := r
    cases (show T = "int" from ty)
    exact ⟨typeIs_int s i t, fun _ e => nomatch e⟩
  | ref p =>
    cases r
    rcases ty with ⟨rfl, xs, hq⟩ | ⟨rfl, o, hk, hc, hd⟩ | ⟨rfl, hk⟩ | ⟨rfl, S, n, hk⟩
    · obtain ⟨its, _, pl, _⟩ := I.list hq
      refine ⟨pl.isList.typeIs, fun a e => ?_⟩
      cases e
      obtain ⟨o, n, e, c, hd, _⟩ := pl
      exact ⟨o, e, hd⟩
    · refine ⟨⟨o, I.kIn p o hk, hc⟩, fun a e => ?_⟩
      cases e
      exact ⟨o, I.kIn _ o hk, hd⟩
    · have z : ∃ o, s.heap.get? p = some o ∧ o.ExactDict := by
        rcases hk with ⟨kvs, hk⟩ | ⟨kvs, hk⟩
        · obtain ⟨_, _, _, _, o, _, _, e, ex, _⟩ := I.hok p _ hk
          exact ⟨o, e, ex⟩
        · obtain ⟨_, _, _, _, o, _, _, e, ex, _⟩ := I.hok p _ hk
          exact ⟨o, e, ex⟩
      obtain ⟨o, e, ex⟩ := z
      refine ⟨⟨o, e, ex.1⟩, fun a e2 => ?_⟩
      cases e2
      exact ⟨o, e, ex.2.1⟩
    · obtain ⟨o, _, _, _, e, ex, _⟩ := I.hok p _ hk
      refine ⟨⟨o, e, ex.1⟩, fun a e2 => ?_⟩
      cases e2
      exact ⟨o, e, ex.2.1⟩
  | _ => exact False.elim ty
def tBM0 (K : PySem.W.Frag) (T : String) (r : V → List V → Hp → VK → Prop) (to : TE) : TE := fun σ H Q => to σ H fun x H1 => tyV K T x H1 ∧ r x [] H1 Q
def tBM (K : PySem.W.Frag) (T : String) (r : V → List V → Hp → VK → Prop) (to : TE) (t : TA) : TE := fun σ H Q => to σ H fun x H1 => tyV K T x H1 ∧ t σ H1 fun xs H2 => r x xs H2 Q
variable {o e : Expr} {es : List Expr} {to : TE} {t : TA} {name : Str} {apos cpos : Pos} {T id : String} {r : V → List V → Hp → VK → Prop}
theorem pe_bm (pa : PlainAttrs T) (slot : Slot T name id) (hty : typeOf (.builtin id) = pure (.type "method_descriptor")) (hm : MtR X id r) (ho : PE X o to) (ha : PA X (e :: es) t)
    (hbase : attributeBase o name X.env (eval o X.env) = eval o X.env := by rfl)
    (hfew : ((backTo cpos (starEach (e :: es) X.env)).all (fun x => !x.1) && (backToKw cpos (keywordEach [] X.env)).all (fun x => x.1.isSome)
      && decide ((e :: es).length + ([] : List Keyword).length + (if ([] : List Keyword).isEmpty then 0 else 1) < 30)) = true := by rfl)
    (hline : (apos.endLine == cpos.line) = true := by rfl) (hs : starEach (e :: es) X.env = (false, eval e X.env) :: starEach es X.env := by rfl) (hplain : (backTo cpos (starEach es X.env)).any (·.1) = false := by rfl) :
    PE X (.Call (.Attribute o name apos) (e :: es) [] cpos) (tBM X.K T r to t) := by
  intro pins s σ H Q I h
  refine wpAny_Call_method_late hbase hfew hline rfl (thn (ho pins s σ H _ I h) fun v s1 ⟨x, H1, I1, r1, ty, q1⟩ => ?_)
  obtain ⟨h1, h2⟩ := tyV_is I1 r1 ty
  refine ⟨T, id, pa, slot, hty, h1, h2, ?_⟩
  have hA := ha cpos pins s1 σ H1 _ I1 q1
  rw [hs] at hA ⊢
  refine Calls.callWith_builtin (by show (false || (backTo cpos (starEach es X.env)).any (·.1)) = false; rw [hplain] <;> rfl) (Calls.evalArgs_plain ?_)
  exact thn hA fun us s2 ⟨vs, H2, I2, r2, q2⟩ => hm pins s2 σ H2 x vs v us Q I2 r1 r2 q2
/- xs.append(e), list.index on a module's tuple .. are MtR facts of 06m -/
end
end L2
namespace L2
open PySem PySem.Spec PyProof.Rows
def MtM (X : Cx) (id : String) (r : V → List V → Hp → VK → Prop) : Prop :=
  ∀ (pins : List (Addr × Obj)) (s : Shared) (σ : St) (H : Hp) (x : V) (xs : List V) (v : Value) (us : List Value) (Q : VK), Inv X pins σ H s → RelV x v → Vals xs us → r x xs H Q →
    wpAny (model X.prog X.w) X.A (call (.builtin id) (v :: us)) (EP X pins σ Q) X.xe s
theorem Vals.one : ∀ {x : V} {us : List Value}, Vals [x] us → ∃ u, us = [u] ∧ RelV x u
  | _, _, .cons r .nil => ⟨_, rfl, r⟩
theorem Vals.two : ∀ {x y : V} {us : List Value}, Vals [x, y] us → ∃ u v, us = [u, v] ∧ RelV x u ∧ RelV y v
  | _, _, _, .cons r (.cons q .nil) => ⟨_, _, rfl, r, q⟩
section
variable {X : Cx} {pins : List (Addr × Obj)} {σ : St} {H : Hp} {s : Shared} {l b : Addr} {xs ys zs : List V}
theorem Inv.lset {its its' : List Value} {n : Nat} {f : Array Value → Array Value} {t' : Nat} (I : Inv X pins σ H s) (hH : H l = some (.lst xs))
    (e : s.heap.get? l = some { cls := .type "list", data := .seq its.toArray n }) (hf : f its.toArray = its'.toArray) (hv : Vals ys its') (hz : ys.length ≤ sizeLine) :
    Inv X pins σ (upd H l (.lst ys)) { s with heap := s.heap.update l (Obj.mapSeq f), toks := t' } := by
  have q := PySem.IsL.update e f
  rw [hf] at q
  refine I.write (x := l) (e := l) (by rw [hH]; exact trivial) (.inl rfl) (fun b' u hb hu => (Heap.get?_update_other s.heap (Obj.mapSeq f) (Ne.symm hb)).trans hu) ⟨_, q⟩ ?_
  exact ⟨hz, its', _, hv, q⟩
theorem Inv.lnew {its : List Value} {t' : Nat} (I : Inv X pins σ H s) (hv : Vals ys its) (hz : ys.length ≤ sizeLine) :
    Inv X pins σ (upd H s.heap.objs.size (.lst ys)) { s with heap := s.heap.push { cls := .type "list", data := .seq its.toArray }, toks := t' } :=
  I.laid (fun _ _ q => Heap.get?_push_of_some _ q) (Nat.le_refl _) ⟨hz, its, 0, hv, Heap.get?_push_size _ rfl⟩
theorem Inv.fresh (I : Inv X pins σ H s) : H s.heap.objs.size = none := I.hok.fresh (Nat.le_refl _)
theorem Inv.lstM (I : Inv X pins σ H s) (hH : H l = some (.lst xs)) : xs.length ≤ sizeLine ∧ ∃ (its : List Value) (n : Nat), Vals xs its ∧ xs.length = its.length ∧ s.heap.get? l = some { cls := .type "list", data := .seq its.toArray n } := by
  obtain ⟨z, its, n, r, e⟩ := I.hok l _ hH
  exact ⟨z, its, n, r, r.length, e⟩
end
section
variable {X : Cx}
def rAppend : V → List V → Hp → VK → Prop := fun x vs H Q => ∃ l xs y, x = .ref l ∧ vs = [y] ∧ H l = some (.lst xs) ∧ xs.length < sizeLine ∧ Q .non (upd H l (.lst (xs ++ [y])))
theorem mt_append : MtM X "list.append" rAppend := by
  intro pins s σ H x vs v us Q I rx rv h
  obtain ⟨l, xs, y, rfl, rfl, hH, hz, q⟩ := h
  cases rx
  obtain ⟨u, rfl, ru⟩ := rv.one
  obtain ⟨z, its, n, r, hl, e⟩ := I.lstM hH
  refine call_meets F.slot_list_append ⟨_, e, rfl⟩ F.entry_list_append (F.args_list_append_2 _ _) (PySem.list_append l its.toArray n u (by rw [List.size_toArray]; omega)) ⟨e, ?_⟩
  refine ⟨.non, _, I.lset (its' := its ++ [u]) hH e (by simp) (r.append (.cons ru .nil)) ?_, rfl, q⟩
  rw [List.length_append, List.length_singleton]
  omega
def rExtend : V → List V → Hp → VK → Prop := fun x vs H Q => ∃ l b xs zs, x = .ref l ∧ vs = [.ref b] ∧ H l = some (.lst xs) ∧ H b = some (.lst zs) ∧ xs.length + zs.length ≤ sizeLine ∧ Q .non (upd H l (.lst (xs ++ zs)))
def rPop : V → List V → Hp → VK → Prop := fun x vs H Q => ∃ l xs y, x = .ref l ∧ vs = [] ∧ H l = some (.lst xs) ∧ xs[xs.length - 1]? = some y ∧ Q y (upd H l (.lst xs.dropLast))
def rPopAt : V → List V → Hp → VK → Prop := fun x vs H Q => ∃ l xs i k y, x = .ref l ∧ vs = [.int i] ∧ H l = some (.lst xs) ∧ -(2 ^ 63) ≤ i ∧ i < 2 ^ 63 ∧ seqIndex? i xs.length = some k ∧ xs[k]? = some y ∧ Q y (upd H l (.lst (xs.eraseIdx k)))
def rReverse : V → List V → Hp → VK → Prop := fun x vs H Q => ∃ l xs, x = .ref l ∧ vs = [] ∧ H l = some (.lst xs) ∧ Q .non (upd H l (.lst xs.reverse))
def rClear : V → List V → Hp → VK → Prop := fun x vs H Q => ∃ l xs, x = .ref l ∧ vs = [] ∧ H l = some (.lst xs) ∧ Q .non (upd H l (.lst []))
def rCat : R2 := fun x y H Q => ∃ l b xs zs, x = .ref l ∧ y = .ref b ∧ H l = some (.lst xs) ∧ H b = some (.lst zs) ∧ xs.length + zs.length ≤ sizeLine ∧ ∀ p, H p = none → Q (.ref p) (upd H p (.lst (xs ++ zs)))
def rRep : R2 := fun x y H Q => ∃ l k xs, x = .ref l ∧ y = .int k ∧ H l = some (.lst xs) ∧ -(2 ^ 63) ≤ k ∧ k < 2 ^ 63 ∧ xs.length * k.toNat ≤ sizeLine ∧
  ∀ p, H p = none → Q (.ref p) (upd H p (.lst (List.replicate k.toNat xs).flatten))
end
section
variable {prog : Program} {w : World} {A : Around} {E : Value → Shared → Prop} {s : Shared}
end
section
variable {X : Cx}
end
end L2
namespace Att
open PySem PySem.W PySem.Calls PyProof.Rows
theorem ints_of_wellAll {P : Params} {h : Heap} : ∀ (ns : List Int) (vs : List Value), WellAll P h vs (ns.map WData.int) → IntsAre vs ns := by
  intro ns
  induction ns with
  | nil =>
    intro vs w
    rw [List.map_nil] at w
    cases w
    exact .nil
  | cons n ns ih =>
    intro vs w
    rw [List.map_cons] at w
    cases w with
    | cons a b =>
      cases a
      exact .cons _ _ (ih _ b)
theorem script_of {l : OpenLaw} {n : Nat} (hn : l.most = some n) {P : Params} {h : Heap} {args : List WData} {vals : List Value}
    (hpre : l.row.toRowW.claim.pre args = true) (hwl : WellAll P h vals args) :
    ∃ a vs ns, vals = [Value.ref a] ∧ args = [WData.list (ns.map WData.int)] ∧ h.get? a = some { cls := .type "list", data := .seq vs.toArray } ∧ IntsAre vs ns ∧ ns.length ≤ n := by
  have hsh : WShape.hasAll [] args [.list .int] = true := (pre_splitW hpre).1
  have hc : l.pre.holds [] { args := args } = true := (pre_splitW hpre).2
  obtain ⟨d, r, rfl, h1, h2⟩ := hasAllW_cons hsh
  obtain rfl := hasAllW_nil h2
  obtain ⟨xs, rfl, h3⟩ := hasW_list h1
  obtain ⟨ns, rfl⟩ := items_int h3
  have hlen : ns.length ≤ n := by
    unfold OpenLaw.pre at hc
    have h4 : (WTm.not (.lt (.lit (.int (n : Int))) (.len (.arg 0)))).holds [] { args := [.list (ns.map .int)] } = true := by
      have h4 := (holds_andW hc).1
      rw [hn] at h4
      exact h4
    have h5 := condW_of h4 (w_not (w_lt w_lit (w_len_list (w_arg rfl))))
    rw [List.length_map] at h5
    refine Nat.le_of_not_lt fun q => ?_
    have q' : (n : Int) < ((ns.length : Nat) : Int) := by omega
    first
      | (rw [decide_eq_true q'] at h5; exact absurd h5 (by decide))
      | (simp at h5; omega)
  cases hwl with
  | cons w1 w2 =>
    cases w2
    cases w1 with
    | list ho hall => exact ⟨_, _, ns, rfl, rfl, ho, ints_of_wellAll ns _ hall, hlen⟩
theorem post_true (l : OpenLaw) (args : List WData) : l.row.toRowW.claim.post args (.bool true) args = true :=
  postW_of (r := l.row.toRowW) (X := (true == true))
    (show WShape.has [] (.bool true) .bool = true by first | rfl | decide | simp [WShape.has, WShape.arms, WShape.armsAll])
    (show (WTm.eq .res (.lit (.bool true))).value [] { args := args, res := some (.bool true), after := args } = some (.bool (true == true)) from w_eq_bool (w_res rfl) w_lit) rfl
theorem attach_call {l : OpenLaw} {n : Nat} {q : Program} {loose : List Str} {XP : (Str → Option Value) → Heap → Prop} {YP : World → Heap → Prop} {d : DefRec}
    (hn : l.most = some n) (hdf : d.params.defaults = [])
    (call : ∀ (w : World) (s₀ s₁ : Shared) (mg mb : Str → Option Value) (fa : Addr) (o : Obj) (pm cd doc : Value) (a : Addr) (vs : List Value) (ns : List Int),
      Ground q loose [] XP w s₀ mg mb s₁.heap → YP w s₁.heap →
      s₁.heap.get? fa = some o → o.data = .func (docDef d.name d.params d.body d.scope pm cd doc) → s₁.heap.CodeRec cd d.name → mg d.name = some (.ref fa) →
      s₁.heap.get? a = some { cls := .type "list", data := .seq vs.toArray } → IntsAre vs ns → ns.length ≤ n → s₁.gens = #[] →
      codeAny (model l.prog w) callerA (.call (.ref fa) ⟨[.ref a], []⟩) (fun r s' => r = .ok (.ret (.bool true)) ∧ OldK s₁.heap s'.heap ∧ s'.os = s₁.os ∧ AllBare s'.gens) s₁) :
    WalkO q loose XP YP l.row.toRowW d [] (fun f vs => PySem.call f vs) := by
  intro w s₀ s₁ mg mb G Y fa o pm cd doc dV kV ho hd hcd hD hmg hg args vals as hpre hlay hrd hwl hlo
  obtain rfl : dV = .none := Dflts.none hD hdf
  obtain rfl : kV = .none := Dflts.noKw hD
  obtain ⟨a, vs, ns, rfl, rfl, hobj, hints, hlen⟩ := script_of hn hpre hwl
  refine enter_call (codeAny_mono (call w s₀ s₁ mg mb fa o pm cd doc a vs ns G Y ho (fd_plain hd) hcd hmg hobj hints hlen hg) fun r s' hq => ?_)
  obtain ⟨rfl, h2, h3, h4⟩ := hq
  exact ⟨.inl ⟨.bool true, .bool true, [], rfl, fun _ => rfl, .bool true, post_true l _, fun _ => ⟨List.Pairwise.nil, fun _ hm => (nomatch hm)⟩⟩, h2, h3, h4⟩
section
variable {prog : Program} {w : World} {A : Around} {E : Value → Shared → Prop} {s : Shared} {K : Frag}
def noObjs (h : Heap) : Heap := { h with objs := #[] }
def ledger (h : Heap) (L d : Addr) : List (Addr × Obj) := (List.range h.objs.size).filterMap fun a => if a = L ∨ a = d then none else (h.get? a).map fun o => (a, o)
end
end Att
namespace L2
open PySem PySem.Spec PyProof.Rows
theorem vals_ints : ∀ {vs : List Value} {ns : List Int}, IntsAre vs ns → Vals (ns.map V.int) vs
  | _, _, .nil => .nil
  | _, _, .cons n t h => .cons ⟨t, rfl⟩ (vals_ints h)
def Only (H : Hp) : Prop := ∀ b, H b = none ∨ ∃ o xs, H b = some (.frz o (.lst xs))
theorem law_call {P : Program} {w : World} {K : PySem.W.Frag} {mg mb : Str → Option Value} {CX : CXT} {k : Nat} {fa a : Addr} {fd : FuncData} {x : Str} {sp : Sp} {s₁ : Shared} {vs : List Value} {ns : List Int}
    (KX : K.In s₁.heap) (hns : s₁.heap.Ns mainGlobals mg) (hb : s₁.heap.Ns builtinsNs mb) (hbb : ∀ x : Str, x ≠ "__name__" → mb x = bootBuiltins x) (hlim : s₁.heap.NoLimit) (hg : s₁.gens = #[])
    (ha : s₁.heap.get? a = some { cls := .type "list", data := .seq vs.toArray }) (hi : IntsAre vs ns) (hl : ns.length ≤ sizeLine) (hr : Room k callerA)
    (F : ∀ base : Heap, K.In base → base.Ns mainGlobals mg → FnOk P w K mg base CX k fa fd [x] sp) (hbind : ∀ (s : Shared) (u : Value), BindsTo s fd ⟨[u], []⟩ [(x, u)])
    (hsp : ∀ H : Hp, Only H → SqL K H a (ns.map V.int) → sp [.ref a] H (fun v _ => v = .bl true) fun _ _ _ => False)
    (hCX : ∀ H e s', CX [] H s₁ (fun _ _ _ => False) e s' → False) :
    codeAny (model P w) callerA (.call (.ref fa) ⟨[.ref a], []⟩) (fun r s' => r = .ok (.ret (.bool true)) ∧ OldK s₁.heap s'.heap ∧ s'.os = s₁.os ∧ AllBare s'.gens) s₁ := by
  have rv := vals_ints hi
  have lenV := hi.length
  -- from an abstract heap in which nothing but the script may be tracked
  have core : ∀ H : Hp, Only H → SqL K H a (ns.map V.int) → HOk P w H s₁.heap → (∀ b, H b ≠ none → b = a) → (H a ≠ none → K.lookup a = none) →
      codeAny (model P w) callerA (.call (.ref fa) ⟨[.ref a], []⟩) (fun r s' => r = .ok (.ret (.bool true)) ∧ OldK s₁.heap s'.heap ∧ s'.os = s₁.os ∧ AllBare s'.gens) s₁ := by
    intro H hO hS hok hA hK
    have base_of : ∀ {b : Addr} {o : Obj}, s₁.heap.get? b = some o → H b = none → (hidT s₁.heap H).get? b = some o := fun e n => hidT_get e n
    have noA : ∀ {b : Addr} {o : Obj} {es : Array DictEntry} {ep : Nat}, s₁.heap.get? b = some o → o.data = .dict es ep → H b = none := fun {b o es ep} e d => by
      cases q : H b with
      | none => rfl
      | some u =>
        have e' : b = a := hA b (by rw [q]; simp)
        subst e'
        rw [ha] at e; cases e
        have d' : Data.seq vs.toArray _ = Data.dict es ep := d
        cases d'
    have nsK : ∀ {b : Addr} {m : Str → Option Value}, s₁.heap.Ns b m → (hidT s₁.heap H).Ns b m := fun {b m} ⟨o, es, ep, e, d, r⟩ => ⟨o, es, ep, base_of e (noA e d), d, r⟩
    have hKb : K.In (hidT s₁.heap H) := fun b o e => base_of (KX b o e) (by
      cases q : H b with
      | none => rfl
      | some u =>
        have e' : b = a := hA b (by rw [q]; simp)
        subst e'
        rw [hK (by rw [q]; simp)] at e; cases e)
    have hM : Mod K mg (hidT s₁.heap H) := ⟨hKb, nsK hns, ⟨mb, nsK hb, hbb⟩, let ⟨mc, h1, h2⟩ := hlim; ⟨mc, nsK h1, h2⟩⟩
    have e0 : Env0 P w K mg (hidT s₁.heap H) callerA [] s₁ H := ⟨rfl, hM, fun b o e => of_hidT e, Nat.le_of_eq (hidT_size _ _), trivial, fun b hb => absurd (show b ∈ ([] : List Addr) from hb) (by simp), hok, .of_eq hg⟩
    refine codeAny_mono ((F _ hKb (nsK hns)).run callerA [] s₁ H ⟨[.ref a], []⟩ [.ref a] [.ref a] _ _ hr e0 (hbind s₁ (.ref a)) (.cons rfl .nil) (hsp H hO hS)) fun r s' h => ?_
    cases r with
    | error e => exact (hCX H e s' h).elim
    | ok fl =>
      cases fl with
      | next => exact False.elim h
      | brk => exact False.elim h
      | cont => exact False.elim h
      | ret u =>
        obtain ⟨v, H', os, bare, un, hok', r', q⟩ := h
        have q' : v = .bl true := q
        subst q'
        obtain rfl : u = Value.bool true := r'
        refine ⟨rfl, OldK.of_keep fun b o e => ?_, os, bare⟩
        cases q : H b with
        | none => exact un.keep b o e q (by intro z; exact absurd (show b ∈ ([] : List Addr) from z) (by simp)) (by simp)
        | some u =>
          rcases hO b with z | ⟨ob, xs, z⟩
          · rw [q] at z; cases z
          · have z2 := un.frzs b ob _ z
            obtain ⟨e1, _⟩ := hok b _ z
            obtain ⟨e2, _⟩ := hok' b _ z2
            rw [e] at e1; cases e1
            exact e2
  cases hk : K.lookup a with
  | some o =>
    -- the script is one of the module's own objects
    have e := KX a o hk
    rw [ha] at e
    cases e
    refine core (fun _ => none) (fun _ => .inl rfl) (.inr ⟨_, vs.toArray, _, hk, rfl, rfl, rfl, by rw [List.size_toArray, lenV]; exact hl, by simpa using rv⟩) (fun b u z => by have z' : (none : Option HO) = some u := z; cases z') (fun b z => absurd rfl z) fun z => absurd rfl z
  | none =>
    refine core (fun b => if b = a then some (.frz { cls := .type "list", data := .seq vs.toArray } (.lst (ns.map V.int))) else none) (fun b => ?_) (.inl (.inr ⟨{ cls := .type "list", data := .seq vs.toArray }, if_pos rfl⟩)) (fun b u z => ?_) (fun b z => ?_) fun _ => hk
    · by_cases hb : b = a
      · exact .inr ⟨_, _, if_pos hb⟩
      · exact .inl (if_neg hb)
    · by_cases hb : b = a
      · have z' := (if_pos hb).symm.trans z
        cases z'
        subst hb
        exact ⟨ha, by rw [List.length_map]; exact hl, vs, _, rv, ha⟩
      · have z' := (if_neg hb).symm.trans z
        cases z'
    · by_cases hb : b = a
      · exact hb
      · exact absurd (if_neg hb) z
end L2
namespace L2
open PySem PySem.Spec PyProof.Rows
abbrev KOf {K : PySem.W.Frag} {h : Heap} (_ : K.In h) : PySem.W.Frag := K
theorem walk_of {l : PySem.W.OpenLaw} {n k : Nat} {q : Program} {loose : List Str} {XP : (Str → Option Value) → Heap → Prop} {YP : World → Heap → Prop} {d : DefRec} {K : Params → PySem.W.Frag} {CX : World → CXT} {sp : World → Sp} {x : Str}
    (hn : l.most = some n) (hn2 : n ≤ sizeLine) (hdf : d.params.defaults = []) (hr : Room k callerA)
    (hY : ∀ (w : World) (h : Heap), YP w h → (K w.params).In h)
    (F : ∀ (w : World) (mg : Str → Option Value) (fa : Addr) (h : Heap), (K w.params).In h → h.Ns mainGlobals mg → mg d.name = some (.ref fa) →
      ∃ fd : FuncData, (∀ (s : Shared) (u : Value), BindsTo s fd ⟨[u], []⟩ [(x, u)]) ∧
        ∀ base : Heap, (K w.params).In base → base.Ns mainGlobals mg → FnOk l.prog w (K w.params) mg base (CX w) k fa fd [x] (sp w))
    (hsp : ∀ (w : World) (H : Hp) (a : Addr) (ns : List Int), ns.length ≤ n → Only H → SqL (K w.params) H a (ns.map V.int) → sp w [.ref a] H (fun v _ => v = .bl true) fun _ _ _ => False)
    (hCX : ∀ (w : World) (H : Hp) (s : Shared) (e : Value) (s' : Shared), CX w [] H s (fun _ _ _ => False) e s' → False) :
    PySem.W.WalkO q loose XP YP l.row.toRowW d [] (fun f vs => PySem.call f vs) := by
  refine Att.attach_call hn hdf fun w s₀ s₁ mg mb fa o pm cd doc a vs ns G Y ho hd hcd hmg hobj hints hlen hg => ?_
  have KX := hY w _ Y
  obtain ⟨fd, hb, hF⟩ := F w mg fa _ KX G.T.g hmg
  exact law_call KX G.T.g G.T.b G.T.builtins G.T.nolimit hg hobj hints (Nat.le_trans hlen hn2) hr hF hb (fun H hO hS => hsp w H a ns hlen hO hS) fun H e s' => hCX w H s₁ e s'
end L2
namespace L2
open PySem PySem.Spec PyProof.Rows
def inClass (s : Stmt) (j : Nat) : Stmt := match s with
  | .ClassDef _ _ _ body _ _ _ _ _ _ _ => body.getD j (.Pass ⟨0, 0, 0, 0⟩)
  | _ => .Pass ⟨0, 0, 0, 0⟩
def defArgs (s : Stmt) : Arguments := match s with
  | .FunctionDef _ a _ _ _ _ _ _ _ _ => a
  | _ => { posonlyargs := [], args := [], vararg := none, kwonlyargs := [], kw_defaults := [], kwarg := none, defaults := [] }
def defBody (s : Stmt) : List Stmt := match s with
  | .FunctionDef _ _ b _ _ _ _ _ _ _ => b
  | _ => []
def defScope (s : Stmt) : Scope := match s with
  | .FunctionDef _ _ _ _ _ _ sc _ _ _ => sc
  | _ => { kind := .function, names := [], isGenerator := false, isCoroutine := false }
abbrev CX0 : CXT := fun _ _ _ _ _ _ => False
abbrev E0 : XK := fun _ _ _ => False
structure Fun (K : PySem.W.Frag) (x qual : Str) (st : Stmt) (f : Addr) (fd : FuncData) : Prop where
  ex : ∃ (oc : Value) (od : Option Addr) (kV doc pm : Value) (an : Option Addr) (cdv ct : Value) (osl : Array (Option Value)),
    fd = PySem.W.fnOf x qual (defArgs st) (defBody st) (defScope st) .none kV doc pm an cdv ct ∧ K.lookup f = some ⟨oc, od, .func fd, osl⟩ ∧ PySem.W.codeIn K cdv qual = true
  kp : PySem.W.keepIn K (.ref f) = true
section
variable {P : Program} {w : World} {K : PySem.W.Frag} {mg : Str → Option Value} {base : Heap}
end
section
variable {X : Cx}
theorem pv (i : Nat) {x : Str} {pos : Pos} (hN : X.N[i]? = some x := by rfl) (hv : Vis X.env.scope x := by first | exact Or.inl rfl | exact Or.inr (Or.inl rfl) | exact Or.inr (Or.inr rfl)) (hd : (x == ("__debug__" : Str)) = false := by decide)
    (hcd : (x == ("__classdict__" : Str)) = false := by decide) : PE X (.Name x pos) (tVar i) := pe_var hN hv hd hcd
end
theorem iteF {A B : Prop} (h : B) : if false = true then A else B := by
  rw [if_neg Bool.false_ne_true]
  exact h
theorem iteT {A B : Prop} (h : A) : if true = true then A else B := by
  rw [if_pos rfl]
  exact h
theorem iteNS {c A B : Prop} [Decidable c] (hc : c) (h : B) : if (!decide c) = true then A else B := by
  rw [decide_eq_true hc]
  exact iteF h
def Same (H H' : Hp) : Prop := ∀ b o, H b = some o → H' b = some o
theorem Same.refl (H : Hp) : Same H H := fun _ _ h => h
theorem Same.trans {H H1 H2 : Hp} (a : Same H H1) (b : Same H1 H2) : Same H H2 := fun c o h => b c o (a c o h)
theorem Same.free {H H' : Hp} (e : Same H H') {l : Addr} (h : H' l = Option.none) : H l = Option.none := by
  cases q : H l with
  | none => rfl
  | some o =>
    rw [e l o q] at h
    cases h
theorem Same.seq {K : PySem.W.Frag} {H H' : Hp} {a : Addr} {xs : List V} (e : Same H H') (h : SqL K H a xs) : SqL K H' a xs := by
  rcases h with (h | ⟨o, h⟩) | h
  · exact .inl (.inl (e _ _ h))
  · exact .inl (.inr ⟨o, e _ _ h⟩)
  · exact .inr h
end L2
set_option Elab.async false
set_option linter.all false
set_option maxRecDepth 100000
namespace L2
open PySem PySem.Spec PyProof.Rows
abbrev kn (b : Bool) : String := if b then "tuple_iterator" else "list_iterator"
def SqAt (b : Bool) (h : Heap) (l : Addr) (items : Array Value) : Prop := match b with
  | true => h.IsTuple l items
  | false => h.IsList l items
def IterAt (b : Bool) (h : Heap) (it l : Addr) (i : Nat) : Prop := match b with
  | true => h.IsTupleIter it l i
  | false => h.IsListIter it l i
theorem SqAt.at {b : Bool} {h h' : Heap} {l : Addr} {items : Array Value} (x : SqAt b h l items) (e : ∀ o, h.get? l = some o → h'.get? l = some o) : SqAt b h' l items := by
  cases b with
  | true => obtain ⟨o, ho, r⟩ := x; exact ⟨o, e o ho, r⟩
  | false => exact Heap.IsList.at x e
theorem IterAt.obj {b : Bool} {h : Heap} {it l : Addr} {i : Nat} (x : IterAt b h it l i) : ∃ o, h.get? it = some o ∧ ∀ v, o.data ≠ .cell v := by
  cases b <;> (obtain ⟨o, ho, c, d⟩ := x; exact ⟨o, ho, fun v z => by rw [d] at z; cases z⟩)
theorem IterAt.at {b : Bool} {h h' : Heap} {it l : Addr} {i : Nat} (x : IterAt b h it l i) (e : ∀ o, h.get? it = some o → h'.get? it = some o) : IterAt b h' it l i := by
  cases b <;> (obtain ⟨o, ho, r⟩ := x; exact ⟨o, e o ho, r⟩)
section
variable {prog : Program} {w : World} {A : Around} {E : Value → Shared → Prop} {s : Shared}
theorem next_tup_item {it t : Addr} {i : Nat} {items : Array Value} {x : Value} {Q : Value → Shared → Prop} (hit : s.heap.IsTupleIter it t i) (ht : s.heap.IsTuple t items) (hx : items[i]? = some x)
    (hQ : ∀ h', h'.IsTupleIter it t (i + 1) → Heap.SameBut it s.heap h' → Q x { s with heap := h' }) : wpAny (model prog w) A (Builtin.SmallTypes.nextOf (.ref it)) Q E s := by
  obtain ⟨o, ho, hc, hd⟩ := id hit; obtain ⟨ol, hol, _, nl, hdl⟩ := ht
  unfold Builtin.SmallTypes.nextOf; refine wpAny_bind (wpAny_callSpecial?_slot (name := Str.ofString "__next__") hit.typeIs F.slot_tuple_iterator_next (wpAny_call_entry F.slot_tuple_iterator_next hit.typeIs F.entry_tuple_iterator_next ?_ (F.args_tuple_iterator_next_1 _)))
  show wpAny _ _ (field (.ref it) 0 >>= _) _ _ s; refine wpAny_bind (wpAny_field ho hd (x := .ref t) rfl ?_)
  show wpAny _ _ (if (Value.ref t == Value.none) = true then _ else _) _ _ s; rw [if_neg (by intro z; cases z)]
  show wpAny _ _ (field (.ref it) 1 >>= _) _ _ s; refine wpAny_bind (wpAny_field ho hd (x := .int i 0) rfl ?_)
  show wpAny _ _ (seqItems? (.ref t) >>= _) _ _ s; refine wpAny_bind (wpAny_seqItems hol hdl ?_); simp only [Int.toNat_natCast, hx]
  refine wpAny_bind (wpAny_setField ho hd (by simp) (wpAny_pure ⟨x, rfl, wpAny_pure (hQ _ ⟨_, Heap.get?_update_self _ ho (Obj.isFreed_of_fields (Obj.data_mapFields hd _)), (Obj.cls_mapFields ..).trans hc, ?_⟩ (Heap.SameBut.update ..))⟩))
  rw [Obj.data_mapFields hd]; simp [rawInt]
theorem next_tup_end {it t : Addr} {i : Nat} {items : Array Value} {Q : Value → Shared → Prop} (hh : A.handled = none) (hit : s.heap.IsTupleIter it t i) (ht : s.heap.IsTuple t items) (hx : items[i]? = none)
    (hE : ∀ h' e, Heap.ExtBut it s.heap h' → (∃ o, h'.get? e = some o ∧ o.cls = .type "StopIteration") → E (.ref e) { s with heap := h' }) : wpAny (model prog w) A (Builtin.SmallTypes.nextOf (.ref it)) Q E s := by
  obtain ⟨o, ho, hc, hd⟩ := id hit; obtain ⟨ol, hol, _, nl, hdl⟩ := ht
  unfold Builtin.SmallTypes.nextOf; refine wpAny_bind (wpAny_callSpecial?_slot (name := Str.ofString "__next__") hit.typeIs F.slot_tuple_iterator_next (wpAny_call_entry F.slot_tuple_iterator_next hit.typeIs F.entry_tuple_iterator_next ?_ (F.args_tuple_iterator_next_1 _)))
  show wpAny _ _ (field (.ref it) 0 >>= _) _ _ s; refine wpAny_bind (wpAny_field ho hd (x := .ref t) rfl ?_)
  show wpAny _ _ (if (Value.ref t == Value.none) = true then _ else _) _ _ s; rw [if_neg (by intro z; cases z)]
  show wpAny _ _ (field (.ref it) 1 >>= _) _ _ s; refine wpAny_bind (wpAny_field ho hd (x := .int i 0) rfl ?_)
  show wpAny _ _ (seqItems? (.ref t) >>= _) _ _ s; refine wpAny_bind (wpAny_seqItems hol hdl ?_); simp only [Int.toNat_natCast, hx]
  refine wpAny_bind (wpAny_rule (wpAny_bind (wpAny_setField ho hd (by simp) ?_))); show wpAny _ _ (newExc (.type "StopIteration") [] >>= _) _ _ _
  refine wpAny_bind ?_; simp only [newExc, newTuple]
  refine wpAny_bind (wpAny_newObj_type ?_ (by size_fits)); refine wpAny_bind (m := firstArgMember _ _) (wpAny_of_eq (a := Value.none) (by first | rfl | (simp only [firstArgMember]; rfl)) ?_)
  refine wpAny_newObj_type ?_ (by size_fits); simp only [raiseNew]; refine wpAny_bind (wpAny_handled ?_)
  first | rw [show A.in1.handled = none from hh] | rw [hh]
  refine wpAny_bind (wpAny_pure (wpAny_throw ?_)); exact hE _ _ (((Heap.SameBut.update ..).extBut.push _).push _) ⟨_, Heap.get?_push_size _ rfl, rfl⟩
theorem next_item {b : Bool} {it l : Addr} {i : Nat} {items : Array Value} {x : Value} {Q : Value → Shared → Prop} (hit : IterAt b s.heap it l i) (hl : SqAt b s.heap l items) (hx : items[i]? = some x)
    (hQ : ∀ h', IterAt b h' it l (i + 1) → Heap.SameBut it s.heap h' → Q x { s with heap := h' }) : wpAny (model prog w) A (Builtin.SmallTypes.nextOf (.ref it)) Q E s := by
  cases b with
  | true => exact next_tup_item hit hl hx hQ
  | false => exact wpAny_nextOf_list_item hit hl hx hQ
theorem next_end {b : Bool} {it l : Addr} {i : Nat} {items : Array Value} {Q : Value → Shared → Prop} (hh : A.handled = none) (hit : IterAt b s.heap it l i) (hl : SqAt b s.heap l items) (hx : items[i]? = none)
    (hE : ∀ h' e, Heap.ExtBut it s.heap h' → (∃ o, h'.get? e = some o ∧ o.cls = .type "StopIteration") → E (.ref e) { s with heap := h' }) : wpAny (model prog w) A (Builtin.SmallTypes.nextOf (.ref it)) Q E s := by
  cases b with
  | true => exact next_tup_end hh hit hl hx hE
  | false => exact wpAny_nextOf_list_end hh hit hl hx hE
theorem iter_sq {b : Bool} {l : Addr} {items : Array Value} {Q : Value → Shared → Prop} (hl : SqAt b s.heap l items)
    (hQ : Q (.ref s.heap.objs.size) { s with heap := s.heap.push { cls := .type (kn b), data := .fields #[.ref l, .int 0 0] } }) : wpAny (model prog w) A (pyIter (.ref l)) Q E s := by
  cases b with
  | true => exact wpAny_pyIter_tuple hl hQ
  | false => exact wpAny_pyIter_list hl hQ
structure ZSt (b1 b2 : Bool) (z TI TO i1 i2 l1 l2 : Addr) (f0 : Value) (k : Nat) (h : Heap) : Prop where
  zip : IsZip h z TI TO f0
  ti : IsPair h TI (.ref i1) (.ref i2)
  to : ∃ a b, IsPair h TO a b
  it1 : IterAt b1 h i1 l1 k
  it2 : IterAt b2 h i2 l2 k
theorem ZSt.at {b1 b2 : Bool} {z TI TO i1 i2 l1 l2 : Addr} {f0 : Value} {k : Nat} {h h' : Heap} (x : ZSt b1 b2 z TI TO i1 i2 l1 l2 f0 k h) (e : ∀ b ∈ [z, TI, TO, i1, i2], ∀ o, h.get? b = some o → h'.get? b = some o) :
    ZSt b1 b2 z TI TO i1 i2 l1 l2 f0 k h' :=
  ⟨e z (by simp) _ x.zip, e TI (by simp) _ x.ti, let ⟨a, b, q⟩ := x.to; ⟨a, b, e TO (by simp) _ q⟩, x.it1.at fun o q => e i1 (by simp) o q, x.it2.at fun o q => e i2 (by simp) o q⟩
theorem zip_item {b1 b2 : Bool} {z TI TO i1 i2 l1 l2 : Addr} {k : Nat} {xs ys : Array Value} {x y : Value} {Q : Value → Shared → Prop} (D : ZipApart z TI TO i1 i2 l1 l2) (S : ZSt b1 b2 z TI TO i1 i2 l1 l2 .none k s.heap)
    (hl1 : SqAt b1 s.heap l1 xs) (hl2 : SqAt b2 s.heap l2 ys) (hx : xs[k]? = some x) (hy : ys[k]? = some y)
    (hQ : ∀ h', ZSt b1 b2 z TI TO i1 i2 l1 l2 (rawInt s.heap.objs.size) (k + 1) h' → IsPair h' s.heap.objs.size x y → h'.objs.size = s.heap.objs.size + 1 →
      (∀ c o, c ≠ z → c ≠ TO → c ≠ i1 → c ≠ i2 → s.heap.get? c = some o → h'.get? c = some o) → Q (.ref s.heap.objs.size) { s with heap := h' }) :
    wpAny (model prog w) A (Builtin.«zip.__next__» ⟨[.ref z], []⟩) (fun fin s' => ∃ v, fin = .done (.ret v) ∧ Q v s') E s := by
  obtain ⟨hz, hTI, ⟨a, b, hTO⟩, h1, h2⟩ := S
  show wpAny _ _ (field (.ref z) 2 >>= _) _ _ _; refine wpAny_bind (wpAny_field hz rfl (x := .bool false) rfl ?_)
  show wpAny _ _ (field (.ref z) 3 >>= _) _ _ _; refine wpAny_bind (wpAny_field hz rfl (x := .ref TI) rfl (wpAny_bind (wpAny_seqItems hTI rfl ?_)))
  show wpAny _ _ (Builtin.SmallTypes.ownedTupleIsFree (.ref z) >>= _) _ _ _; refine wpAny_bind ?_
  unfold Builtin.SmallTypes.ownedTupleIsFree; refine wpAny_bind (wpAny_field hz rfl (x := .none) rfl (wpAny_pure ?_)); simp only [if_true]
  refine wpAny_bind (wpAny_rule (wpAny_bind (wpAny_field hz rfl (x := .ref TO) rfl ?_)))
  refine wpAny_bind (wpAny_setField_rec hz (by simp) fun g1 z1 e1 => ?_)
  replace z1 : IsZip g1 z TI TO .ellipsis := z1; refine wpAny_bind ?_
  simp only [List.zipIdx_cons, List.zipIdx_nil, List.forIn_cons, List.forIn_nil]; refine wpAny_bind (wpAny_bind (wpAny_onRaise ?_))
  show wpAny _ _ (Builtin.SmallTypes.nextOf (.ref i1) >>= _) _ _ _
  have k1 : ∀ c o, c ≠ z → s.heap.get? c = some o → g1.get? c = some o := fun c o hc e => e1.extBut c o hc e
  refine wpAny_bind (next_item (s := { s with heap := g1 }) (h1.at fun o q => k1 i1 o D.i1z q) (hl1.at fun o q => k1 l1 o D.l1z q) hx fun g2 t2 e2 => wpAny_pure ?_)
  have k2 : ∀ c o, c ≠ z → c ≠ i1 → s.heap.get? c = some o → g2.get? c = some o := fun c o hc hd e => e2.extBut c o hd (k1 c o hc e)
  have p2 : IsPair g2 TO a b := k2 TO _ D.TOz D.TOi1 hTO
  refine wpAny_bind (wpAny_seqItems p2 rfl (wpAny_bind (wpAny_updateSeq_pair p2 fun g3 p3 e3 => ?_)))
  replace p3 : IsPair g3 TO x b := p3; refine wpAny_bind (wpAny_letGo (wpAny_pure ?_)); refine wpAny_bind (wpAny_bind (wpAny_onRaise ?_))
  show wpAny _ _ (Builtin.SmallTypes.nextOf (.ref i2) >>= _) _ _ _
  have k3 : ∀ c o, c ≠ z → c ≠ i1 → c ≠ TO → s.heap.get? c = some o → g3.get? c = some o := fun c o hc hd he e => e3.extBut c o he (k2 c o hc hd e)
  refine wpAny_bind (next_item (s := { s with heap := g3 }) (h2.at fun o q => k3 i2 o D.i2z D.i12.symm D.TOi2.symm q) (hl2.at fun o q => k3 l2 o D.l2z D.l2i1 D.l2TO q) hy fun g4 t4 e4 => wpAny_pure ?_)
  have p4 : IsPair g4 TO x b := e4.extBut _ _ D.TOi2 p3
  refine wpAny_bind (wpAny_seqItems p4 rfl (wpAny_bind (wpAny_updateSeq_pair p4 fun g5 p5 e5 => ?_)))
  replace p5 : IsPair g5 TO x y := p5; refine wpAny_bind (wpAny_letGo (wpAny_pure (wpAny_pure ?_))); refine wpAny_bind (wpAny_seqItems p5 rfl (wpAny_bind (wpAny_newTuple ?_)))
  have sz : g5.objs.size = s.heap.objs.size := by rw [e5.1, e4.1, e3.1, e2.1, e1.1]
  have z5 : IsZip g5 z TI TO .ellipsis := e5.extBut _ _ D.TOz.symm (e4.extBut _ _ D.i2z.symm (e3.extBut _ _ D.TOz.symm (e2.extBut _ _ D.i1z.symm z1)))
  have k5 : ∀ c o, c ≠ z → c ≠ TO → c ≠ i1 → c ≠ i2 → s.heap.get? c = some o → g5.get? c = some o := fun c o c1 c2 c3 c4 e => e5.extBut _ _ c2 (e4.extBut _ _ c4 (k3 c o c1 c3 c2 e))
  have t5 : IterAt b1 g5 i1 l1 (k + 1) := t2.at fun o q => e5.extBut _ _ D.TOi1.symm (e4.extBut _ _ D.i12 (e3.extBut _ _ D.TOi1.symm q))
  have u5 : IterAt b2 g5 i2 l2 (k + 1) := t4.at fun o q => e5.extBut _ _ D.TOi2.symm q
  have zlt : z < g5.objs.size := Heap.lt_size z5
  show wpAny _ _ (Builtin.SmallTypes.ownedTupleHandOut (.ref z) (.ref g5.objs.size) >>= _) _ _ _; refine wpAny_bind ?_
  unfold Builtin.SmallTypes.ownedTupleHandOut
  have z6 : IsZip (g5.push { cls := .type "tuple", data := .seq #[x, y] }) z TI TO .ellipsis := Heap.get?_push_of_some _ z5
  refine wpAny_bind (wpAny_setField_rec z6 (by simp) fun g7 z7 e7 => ?_)
  replace z7 : IsZip g7 z TI TO (rawInt g5.objs.size) := z7; refine wpAny_setField_rec z7 (by simp) fun g8 z8 e8 => ?_
  replace z8 : IsZip g8 z TI TO (rawInt g5.objs.size) := z8
  have up : ∀ c o, c ≠ z → g5.get? c = some o → g8.get? c = some o := fun c o c1 e => e8.extBut _ _ c1 (e7.extBut _ _ c1 (Heap.get?_push_of_some _ e))
  have p8 : IsPair g8 g5.objs.size x y := e8.extBut _ _ (Nat.ne_of_gt zlt) (e7.extBut _ _ (Nat.ne_of_gt zlt) (Heap.get?_push_size _ rfl))
  have s8 : g8.objs.size = g5.objs.size + 1 := by rw [e8.1, e7.1, Heap.size_push]
  rw [sz] at z8 p8 s8
  refine wpAny_pure ⟨_, rfl, ?_⟩
  show Q (.ref g5.objs.size) _
  rw [sz]
  exact hQ g8 ⟨z8, up _ _ D.TIz (k5 TI _ D.TIz D.TITO D.TIi1 D.TIi2 hTI), ⟨_, _, up _ _ D.TOz p5⟩, t5.at fun o q => up _ o D.i1z q, u5.at fun o q => up _ o D.i2z q⟩ p8 s8 fun c o c1 c2 c3 c4 e => up c o c1 (k5 c o c1 c2 c3 c4 e)
theorem zip_end {b1 b2 : Bool} {z TI TO i1 i2 l1 l2 : Addr} {k : Nat} {xs ys : Array Value} {Q : Fin → Shared → Prop} (hh : A.handled = none) (D : ZipApart z TI TO i1 i2 l1 l2) (S : ZSt b1 b2 z TI TO i1 i2 l1 l2 .none k s.heap)
    (hl1 : SqAt b1 s.heap l1 xs) (hl2 : SqAt b2 s.heap l2 ys) (hend : xs[k]? = none ∨ ys[k]? = none)
    (hE : ∀ h' e, (∀ c o, c ≠ z → c ≠ TO → c ≠ i1 → c ≠ i2 → s.heap.get? c = some o → h'.get? c = some o) → (∃ o, h'.get? e = some o ∧ o.cls = .type "StopIteration") → E (.ref e) { s with heap := h' }) :
    wpAny (model prog w) A (Builtin.«zip.__next__» ⟨[.ref z], []⟩) Q E s := by
  obtain ⟨hz, hTI, ⟨a, b, hTO⟩, h1, h2⟩ := S
  show wpAny _ _ (field (.ref z) 2 >>= _) _ _ _; refine wpAny_bind (wpAny_field hz rfl (x := .bool false) rfl ?_)
  show wpAny _ _ (field (.ref z) 3 >>= _) _ _ _; refine wpAny_bind (wpAny_field hz rfl (x := .ref TI) rfl (wpAny_bind (wpAny_seqItems hTI rfl ?_)))
  show wpAny _ _ (Builtin.SmallTypes.ownedTupleIsFree (.ref z) >>= _) _ _ _; refine wpAny_bind ?_
  unfold Builtin.SmallTypes.ownedTupleIsFree; refine wpAny_bind (wpAny_field hz rfl (x := .none) rfl (wpAny_pure ?_)); simp only [if_true]
  refine wpAny_bind (wpAny_rule (wpAny_bind (wpAny_field hz rfl (x := .ref TO) rfl ?_)))
  refine wpAny_bind (wpAny_setField_rec hz (by simp) fun g1 z1 e1 => ?_)
  replace z1 : IsZip g1 z TI TO .ellipsis := z1; refine wpAny_bind ?_
  simp only [List.zipIdx_cons, List.zipIdx_nil, List.forIn_cons, List.forIn_nil]; refine wpAny_bind (wpAny_bind (wpAny_onRaise ?_))
  show wpAny _ _ (Builtin.SmallTypes.nextOf (.ref i1) >>= _) _ _ _
  have k1 : ∀ c o, c ≠ z → s.heap.get? c = some o → g1.get? c = some o := fun c o hc e => e1.extBut c o hc e
  cases hx : xs[k]? with
  | none =>
    refine wpAny_bind (next_end (s := { s with heap := g1 }) hh (h1.at fun o q => k1 i1 o D.i1z q) (hl1.at fun o q => k1 l1 o D.l1z q) hx fun g2 e e2 he => ?_)
    obtain ⟨oe, hoe, hce⟩ := he
    have z2 : IsZip g2 z TI TO .ellipsis := e2 _ _ D.i1z.symm z1
    have ez : e ≠ z := fun q => by subst q; rw [z2] at hoe; cases hoe; simp at hce
    exact wpAny_setField_rec z2 (by simp) fun g3 _ e3 => hE g3 e (fun c o c1 _ c3 _ q => e3.extBut _ _ c1 (e2 _ _ c3 (k1 c o c1 q))) ⟨oe, e3.extBut _ _ ez hoe, hce⟩
  | some x =>
    have hy : ys[k]? = none := by
      rcases hend with q | q
      · rw [hx] at q; cases q
      · exact q
    refine wpAny_bind (next_item (s := { s with heap := g1 }) (h1.at fun o q => k1 i1 o D.i1z q) (hl1.at fun o q => k1 l1 o D.l1z q) hx fun g2 t2 e2 => wpAny_pure ?_)
    have k2 : ∀ c o, c ≠ z → c ≠ i1 → s.heap.get? c = some o → g2.get? c = some o := fun c o hc hd e => e2.extBut c o hd (k1 c o hc e)
    have p2 : IsPair g2 TO a b := k2 TO _ D.TOz D.TOi1 hTO
    refine wpAny_bind (wpAny_seqItems p2 rfl (wpAny_bind (wpAny_updateSeq_pair p2 fun g3 p3 e3 => ?_)))
    refine wpAny_bind (wpAny_letGo (wpAny_pure ?_)); refine wpAny_bind (wpAny_bind (wpAny_onRaise ?_))
    show wpAny _ _ (Builtin.SmallTypes.nextOf (.ref i2) >>= _) _ _ _
    have k3 : ∀ c o, c ≠ z → c ≠ i1 → c ≠ TO → s.heap.get? c = some o → g3.get? c = some o := fun c o hc hd he e => e3.extBut c o he (k2 c o hc hd e)
    refine wpAny_bind (next_end (s := { s with heap := g3 }) hh (h2.at fun o q => k3 i2 o D.i2z D.i12.symm D.TOi2.symm q) (hl2.at fun o q => k3 l2 o D.l2z D.l2i1 D.l2TO q) hy fun g4 e e4 he => ?_)
    obtain ⟨oe, hoe, hce⟩ := he
    have z4 : IsZip g4 z TI TO .ellipsis := e4 _ _ D.i2z.symm (e3.extBut _ _ D.TOz.symm (e2.extBut _ _ D.i1z.symm z1))
    have ez : e ≠ z := fun q => by subst q; rw [z4] at hoe; cases hoe; simp at hce
    exact wpAny_setField_rec z4 (by simp) fun g5 _ e5 => hE g5 e (fun c o c1 c2 c3 c4 q => e5.extBut _ _ c1 (e4 _ _ c4 (k3 c o c1 c3 c2 q))) ⟨oe, e5.extBut _ _ ez hoe, hce⟩
end
end L2
namespace L2
open PySem PySem.Spec PyProof.Rows
abbrev zq1 (b1 : Bool) (h : Heap) (l1 : Addr) : Heap := h.push { cls := .type (kn b1), data := .fields #[.ref l1, .int 0 0] }
abbrev zq2 (b1 b2 : Bool) (h : Heap) (l1 l2 : Addr) : Heap := (zq1 b1 h l1).push { cls := .type (kn b2), data := .fields #[.ref l2, .int 0 0] }
abbrev zq3 (b1 b2 : Bool) (h : Heap) (l1 l2 : Addr) : Heap := (zq2 b1 b2 h l1 l2).push { cls := .type "tuple", data := .seq #[.ref h.objs.size, .ref (zq1 b1 h l1).objs.size] }
abbrev zq4 (b1 b2 : Bool) (h : Heap) (l1 l2 : Addr) : Heap := (zq3 b1 b2 h l1 l2).push { cls := .type "tuple", data := .seq #[.none, .none] }
abbrev zq5 (b1 b2 : Bool) (h : Heap) (l1 l2 : Addr) : Heap := (zq4 b1 b2 h l1 l2).push { cls := .type "zip", data := .fields #[.none, .bool false, .bool false, .ref (zq2 b1 b2 h l1 l2).objs.size, .ref (zq3 b1 b2 h l1 l2).objs.size] }
theorem zip_made (b1 b2 : Bool) (l1 l2 : Addr) (xs ys : Array Value) : Meets (Builtin.«zip.__new__» ⟨[.type "zip", .ref l1, .ref l2], []⟩) (fun _ R s => SqAt b1 s.heap l1 xs ∧ SqAt b2 s.heap l2 ys ∧
      R (.ok (.ret (.ref (zq4 b1 b2 s.heap l1 l2).objs.size))) { s with heap := zq5 b1 b2 s.heap l1 l2 }) :=
  .of_wp fun prog w A R s h => by
    obtain ⟨hp, g, d, tk, os⟩ := s; obtain ⟨hl1, hl2, h⟩ := h
    have hsub := sub_zip
    have q1 : SqAt b1 (Shared.heap ⟨hp, g, d, tk, os⟩) l1 xs := hl1
    have q2 : SqAt b2 (Shared.heap ⟨hp.push { cls := .type (kn b1), data := .fields #[.ref l1, .int 0 0] }, g, d, tk, os⟩) l2 ys := SqAt.at hl2 fun o e => Heap.get?_push_of_some _ e
    wp_walk using iter_sq q1, iter_sq q2
    exact ⟨_, rfl, h⟩
theorem call_zip {prog : Program} {w : World} {A : Around} {E : Value → Shared → Prop} {s : Shared} {b1 b2 : Bool} {l1 l2 : Addr} {xs ys : Array Value} {Q : Value → Shared → Prop} (hl1 : SqAt b1 s.heap l1 xs) (hl2 : SqAt b2 s.heap l2 ys)
    (h : ∀ h', ZSt b1 b2 (s.heap.objs.size + 4) (s.heap.objs.size + 2) (s.heap.objs.size + 3) s.heap.objs.size (s.heap.objs.size + 1) l1 l2 .none 0 h' → (∀ c o, s.heap.get? c = some o → h'.get? c = some o) → h'.objs.size = s.heap.objs.size + 5 →
      Q (.ref (s.heap.objs.size + 4)) { s with heap := h' }) : wpAny (model prog w) A (call (.type "zip") [.ref l1, .ref l2]) Q E s := by
  refine callType_new F.called_zip (by decide) (F.typeCall_zip_2 _ _) (F.newCall_zip_2 _ _) (fun obj => F.args_object_init_3 obj _ _) F.entry_zip_new (zip_made b1 b2 l1 l2 xs ys) ⟨hl1, hl2, ?_⟩
  have z1 : (zq1 b1 s.heap l1).objs.size = s.heap.objs.size + 1 := Heap.size_push ..
  have z2 : (zq2 b1 b2 s.heap l1 l2).objs.size = s.heap.objs.size + 2 := by rw [Heap.size_push, z1]
  have z3 : (zq3 b1 b2 s.heap l1 l2).objs.size = s.heap.objs.size + 3 := by rw [Heap.size_push, z2]
  have z4 : (zq4 b1 b2 s.heap l1 l2).objs.size = s.heap.objs.size + 4 := by rw [Heap.size_push, z3]
  have z5 : (zq5 b1 b2 s.heap l1 l2).objs.size = s.heap.objs.size + 5 := by rw [Heap.size_push, z4]
  have up1 : ∀ {h : Heap} {o : Obj} {c : Addr} {u : Obj}, h.get? c = some u → (h.push o).get? c = some u := fun e => Heap.get?_push_of_some _ e
  have g5 : (zq5 b1 b2 s.heap l1 l2).get? (zq4 b1 b2 s.heap l1 l2).objs.size = some _ := Heap.get?_push_size _ rfl
  have g4 : (zq5 b1 b2 s.heap l1 l2).get? (zq3 b1 b2 s.heap l1 l2).objs.size = some _ := up1 (Heap.get?_push_size _ rfl)
  have g3 : (zq5 b1 b2 s.heap l1 l2).get? (zq2 b1 b2 s.heap l1 l2).objs.size = some _ := up1 (up1 (Heap.get?_push_size _ rfl))
  have g2 : (zq5 b1 b2 s.heap l1 l2).get? (zq1 b1 s.heap l1).objs.size = some _ := up1 (up1 (up1 (Heap.get?_push_size _ rfl)))
  have g1 : (zq5 b1 b2 s.heap l1 l2).get? s.heap.objs.size = some _ := up1 (up1 (up1 (up1 (Heap.get?_push_size _ rfl))))
  show _ ∧ _
  rw [z2, z3, z4] at g5
  rw [z1, z2] at g3
  rw [z3] at g4
  rw [z1] at g2
  rw [z4]
  refine ⟨⟨_, g5, rfl⟩, h _ ⟨g5, g3, ⟨_, _, g4⟩, ?_, ?_⟩ (fun c o x => up1 (up1 (up1 (up1 (up1 x))))) z5⟩
  · cases b1 <;> exact ⟨_, g1, rfl, rfl⟩
  · cases b2 <;> exact ⟨_, g2, rfl, rfl⟩
theorem pyNext_zip_item {prog : Program} {w : World} {A : Around} {E : Value → Shared → Prop} {s : Shared} {b1 b2 : Bool} {z TI TO i1 i2 l1 l2 : Addr} {k : Nat} {xs ys : Array Value} {x y : Value} {Q : Option Value → Shared → Prop} (D : ZipApart z TI TO i1 i2 l1 l2)
    (S : ZSt b1 b2 z TI TO i1 i2 l1 l2 .none k s.heap) (hl1 : SqAt b1 s.heap l1 xs) (hl2 : SqAt b2 s.heap l2 ys) (hx : xs[k]? = some x) (hy : ys[k]? = some y)
    (hQ : ∀ h', ZSt b1 b2 z TI TO i1 i2 l1 l2 (rawInt s.heap.objs.size) (k + 1) h' → IsPair h' s.heap.objs.size x y → h'.objs.size = s.heap.objs.size + 1 →
      (∀ c o, c ≠ z → c ≠ TO → c ≠ i1 → c ≠ i2 → s.heap.get? c = some o → h'.get? c = some o) → Q (some (.ref s.heap.objs.size)) { s with heap := h' }) : wpAny (model prog w) A (pyNext (.ref z)) Q E s := by
  have hT : s.TypeIs (.ref z) "zip" := ⟨_, S.zip, rfl⟩; unfold pyNext
  refine wpAny_bind (wpAny_attempt (wpAny_callSpecial?_slot (name := Str.ofString "__next__") hT F.slot_zip_next (wpAny_call_entry F.slot_zip_next hT F.entry_zip_next ?_ (F.args_zip_next_1 _))))
  exact zip_item D S hl1 hl2 hx hy fun h' a1 a2 a3 a4 => wpAny_pure (hQ h' a1 a2 a3 a4)
theorem pyNext_zip_end {prog : Program} {w : World} {A : Around} {E : Value → Shared → Prop} {s : Shared} {b1 b2 : Bool} {z TI TO i1 i2 l1 l2 : Addr} {k : Nat} {xs ys : Array Value} {Q : Option Value → Shared → Prop} (hh : A.handled = none) (D : ZipApart z TI TO i1 i2 l1 l2)
    (S : ZSt b1 b2 z TI TO i1 i2 l1 l2 .none k s.heap) (hl1 : SqAt b1 s.heap l1 xs) (hl2 : SqAt b2 s.heap l2 ys) (hend : xs[k]? = none ∨ ys[k]? = none)
    (hQ : ∀ h', (∀ c o, c ≠ z → c ≠ TO → c ≠ i1 → c ≠ i2 → s.heap.get? c = some o → h'.get? c = some o) → Q none { s with heap := h' }) : wpAny (model prog w) A (pyNext (.ref z)) Q E s := by
  have hT : s.TypeIs (.ref z) "zip" := ⟨_, S.zip, rfl⟩; unfold pyNext
  refine wpAny_bind (wpAny_attempt (wpAny_callSpecial?_slot (name := Str.ofString "__next__") hT F.slot_zip_next (wpAny_call_entry F.slot_zip_next hT F.entry_zip_next ?_ (F.args_zip_next_1 _))))
  refine zip_end hh D S hl1 hl2 hend fun h' e hk ⟨o, ho, hc⟩ => ?_
  exact wpAny_bind (wpAny_isInstance (T := "StopIteration") (b := true) ⟨o, ho, hc⟩ isSubtype_stop (wpAny_pure (hQ _ hk)))
end L2
namespace L2
open PySem PySem.Spec PyProof.Rows
section
variable {prog : Program} {w : World} {A : Around} {R : Result → Shared → Prop} {s : Shared}
abbrev E00 : Value → Shared → Prop := fun _ _ => False
abbrev ifsOf (ifs : List Expr) (env : Env) : Sem Bool :=
  forIn ifs true fun c r => if r = true then do
      let ok ← isTrue c env (eval c env)
      pure (ForInStep.yield ok)
    else pure (ForInStep.yield r)
theorem comp_turns {elt tg iter : Expr} {ifs : List Expr} {scope : Scope} {pos : Pos} {it acc : Value} {env : Env} (J : Nat → Shared → Prop)
    (turn : ∀ n s, J n s → wpAny (model prog w) A (pyNext it) (fun r s1 => match r with
      | none => R (.ok .next) s1
      | some v => wpAny (model prog w) A (letOwnedTupleGo tg it v) (fun _ s2 => wpAny (model prog w) A (assign tg env v) (fun _ s3 =>
          wpAny (model prog w) A (ifsOf ifs env) (fun ok s4 =>
            if ok = true then
              wpAny (model prog w) A (eval elt env) (fun x s5 => wpAny (model prog w) A (call (.builtin "list.append") [acc, x]) (fun _ s6 => ∃ m, m < n ∧ J m s6) E00 s5) E00 s4
            else ∃ m, m < n ∧ J m s4) E00 s3) E00 s2) E00 s1) E00 s)
    (n : Nat) (h : J n s) : codeAny (model prog w) A (.compLoop (.ListComp elt [⟨tg, iter, ifs, 0⟩] scope pos) 0 it acc env) R s := by
  have fl : ∀ {α : Type} {t : Sem α} {Q : α → Shared → Prop} {E : Value → Shared → Prop} {s : Shared}, wpAny (model prog w) A t Q E00 s → wpAny (model prog w) A t Q E s := fun h => wpAny_mono h (fun _ _ q => q) fun _ _ z => z.elim
  refine codeAny_loop rfl J (fun n s hJ => ?_) n h
  show wpAny _ A ((compTurn (.ListComp elt [⟨tg, iter, ifs, 0⟩] scope pos) 0 it acc env).onRaise _) _ _ s
  refine wpAny_noted ?_
  rw [compTurn_list]
  refine wpAny_bind (wpAny_standAt (wpAny_bind (thn (fl (turn n s hJ)) fun r s1 h1 => ?_)))
  cases r with
  | none => exact wpAny_pure h1
  | some v =>
    refine wpAny_bind (thn (fl h1) fun _ s2 h2 => ?_)
    refine wpAny_bind (thn (fl h2) fun _ s3 h3 => ?_)
    refine wpAny_bind (thn (fl h3) fun ok s4 h4 => ?_)
    cases ok with
    | false => exact wpAny_pure ⟨rfl, h4⟩
    | true =>
      refine wpAny_bind (wpAny_bind (thn (fl h4) fun x s5 h5 => ?_))
      exact wpAny_bind (thn (fl h5) fun _ s6 h6 => wpAny_pure (wpAny_pure ⟨rfl, h6⟩))
end
def blk (X : Cx) (N : List Str) (scope : Scope) (cl : List (Str × Addr)) (C : Addr) (s : Shared) (H : Hp) (fp : List Addr) : Cx :=
  { X with N := N, s₀ := s, H₀ := H, env := compEnvC scope cl C X.env, outer := X.stack, ex := fp, fn := fun _ => false, pn := [], xe := fun _ _ => False }
structure Blk (X : Cx) (N : List Str) (scope : Scope) (cl : List (Str × Addr)) (mp : List (Option Nat)) : Prop where
  clos : closureFor scope X.env = pure cl
  cell : ∀ y ∈ scope.names, y.2 ≠ .cell
  kind : scope.kind = .function
  nms : ∀ y ∈ scope.names, y.2 = .local → scope.names.lookup y.1 = some .local
  nd : N.Nodup
  sub : ∀ x c, cl.lookup x = some c → X.env.cells.lookup x = some c
  has : ∀ x, ((relabel scope X.env).names.lookup x = some .cell ∨ (relabel scope X.env).names.lookup x = some .free) → ∃ c, cl.lookup x = some c
  len : mp.length = N.length
  map : ∀ (i j : Nat) (x : Str), mp[i]? = some (some j) → N[i]? = some x → X.N[j]? = some x ∧ (X.env.scope.names.lookup x = some .cell ∨ X.env.scope.names.lookup x = some .free) ∧
    ((relabel scope X.env).names.lookup x = some .cell ∨ (relabel scope X.env).names.lookup x = some .free)
def st0 (mp : List (Option Nat)) (σ : St) : St := mp.map fun o => match o with
  | some j => (σ[j]?).getD none
  | none => none
section
variable {X : Cx} {pins : List (Addr × Obj)} {σ : St} {H : Hp} {s : Shared} {N : List Str} {scope : Scope} {cl : List (Str × Addr)} {mp : List (Option Nat)} {fp : List Addr}
theorem blk_inv (B : Blk X N scope cl mp) (I : Inv X pins σ H s) (f : ∀ b ∈ fp, FpOk X pins H b) (lt : ∀ b ∈ fp, b < s.heap.objs.size) {h1 : Heap} {t' : Nat} (hns : h1.Ns s.heap.objs.size (fun _ => none))
    (k : ∀ b o, s.heap.get? b = some o → h1.get? b = some o) : Inv (blk X N scope cl s.heap.objs.size s H fp) [] (st0 mp σ) H { s with heap := h1, toks := t' } := by
  have fin : ∀ b ∈ fp, b ∉ frs X.stack := fun b hb z => by
    obtain ⟨_, f1, f2, _⟩ := f b hb
    rcases List.mem_cons.mp (I.stkSub b z) with e | e
    · exact f1 e
    · exact f2 e
  have ok : (blk X N scope cl s.heap.objs.size s H fp).Ok := by
    refine ⟨I.ok.mod, B.kind, I.ok.glob, I.ok.blt, Nat.le_refl _, fun x y c h1 h2 => I.ok.inj x y c (B.sub x c h1) (B.sub y c h2), fun x hx => B.has x hx, (fun x c hf => nomatch (show false = true from hf)), I.ok.hd, I.ok.frames, .inl rfl, fun b hb => ?_, I.bs, Nat.le_trans I.ok.bsz I.sz, fun b o e hb => ?_, fin, I.stack, I.stkFree⟩
    · obtain ⟨f0, f1, f2, f3, f4, f5⟩ := f b hb
      exact ⟨Nat.ne_of_lt (lt b hb), fun x c e => f4 x c (B.sub x c e)⟩
    · obtain ⟨f0, f1, f2, f3, f4, f5⟩ := f b hb
      rcases f3 with z | z
      · exact I.ok.noex b o e z
      · exact absurd (Nat.lt_of_lt_of_le (Heap.lt_size e) (Nat.le_trans I.ok.bsz z)) (Nat.lt_irrefl _)
  refine ⟨ok, rfl, I.bare, Un.kept k, ⟨_, hns, fun i x v e1 e2 e3 => ?_⟩, fun x c e => ?_, I.hok.fresh (Nat.le_refl _), fun x c e => I.freeC x c (B.sub x c e), fun p hp => absurd (show p ∈ ([] : List (Addr × Obj)) from hp) (by simp), I.hok.kept k, ?_⟩
  · have e2' : ∃ j, mp[i]? = some (some j) ∧ σ[j]? = some (some v) := by
      unfold st0 at e2
      rw [List.getElem?_map] at e2
      cases q : mp[i]? with
      | none => rw [q] at e2; cases e2
      | some o =>
        rw [q] at e2
        cases o with
        | none => cases e2
        | some j =>
          refine ⟨j, rfl, ?_⟩
          have e2'' : (σ[j]?).getD none = some v := Option.some.inj e2
          cases r : σ[j]? with
          | none => rw [r] at e2''; cases e2''
          | some z => rw [r] at e2''; exact congrArg some e2''
    obtain ⟨j, hj, hv⟩ := e2'
    obtain ⟨hN, ho, hi⟩ := B.map i j x hj e1
    obtain ⟨m, hm, hl⟩ := I.loc
    obtain ⟨u, r, l⟩ := hl j x v hN hv (ho.elim (fun z => .inr (.inl z)) fun z => .inr (.inr z))
    refine ⟨u, r, .inr ⟨hi, ?_⟩⟩
    rcases l with ⟨z, _⟩ | ⟨_, c, ec, z⟩
    · have z' : X.env.scope.names.lookup x = some .local := z
      rcases ho with ho | ho
      · rw [z'] at ho; cases ho
      · rw [z'] at ho; cases ho
    · obtain ⟨c', ec'⟩ := B.has x hi
      have q := B.sub x c' ec'
      rw [ec] at q; cases q
      obtain ⟨o, eo, d⟩ := z
      exact ⟨c, ec', o, k c o eo, d⟩
  · obtain ⟨v, o, eo, d⟩ := I.cell x c (B.sub x c e)
    exact ⟨v, o, k c o eo, d⟩
  · show (st0 mp σ).length = N.length
    unfold st0
    rw [List.length_map]; exact B.len
theorem blk_out {N' : List Str} {C : Addr} {H' : Hp} {σ' : St} {s' : Shared} {h' : Heap} (I : Inv X pins σ H s) (f : ∀ b ∈ fp, FpOk X pins H b) (hC : s.heap.objs.size ≤ C)
    (J : Inv (blk X N' scope cl C s H fp) [] σ' H' s') (sb : Heap.SameBut C s'.heap h') : Inv X pins σ H' { s' with heap := h' } := by
  have ub : Un (frs X.stack) fp H H' s.heap s'.heap := J.base
  have ne : ∀ b o, s.heap.get? b = some o → b ≠ C := fun b o e => Nat.ne_of_lt (Nat.lt_of_lt_of_le (Heap.lt_size e) hC)
  have u : Un (frs X.stack) fp H H' s.heap h' := by
    refine ⟨fun b o e n hb hx => (sb.2 b (ne b o e)).trans (ub.keep b o e n hb hx), fun b o e n hb hx => ?_, ub.free, fun b o e hx => ?_, ub.tups, ub.frzs, ub.tbls⟩
    · obtain ⟨sl, q⟩ := ub.slot b o e n hb hx
      exact ⟨sl, (sb.2 b (ne b o e)).trans q⟩
    · obtain ⟨o', q⟩ := ub.there b o e hx
      exact ⟨o', (sb.2 b (ne b o e)).trans q⟩
  have fC : H' C = none := J.free
  have ok' : HOk X.prog X.w H' h' := fun b ob e => by
    have jok : HOk X.prog X.w H' s'.heap := J.hok
    refine (jok b ob e).stay (fun c v hc q => (sb.2 c ?_).trans q) (fun _ q => q) fun _ _ q => q
    rintro rfl
    rcases hc with rfl | hc
    · rw [fC] at e; cases e
    · rw [fC] at hc; cases hc
  refine I.call' (s' := { s' with heap := h' }) (ch := fp) ?_ u ok' J.bare fun b hb => ?_
  · exact J.os
  · obtain ⟨f0, f1, f2, f3, f4, f5⟩ := f b hb
    exact ⟨f3, f1, f4, f5⟩
end
def PTs (X : Cx) (ifs : List Expr) (t : TT) : Prop :=
  ∀ (pins : List (Addr × Obj)) (s : Shared) (σ : St) (H : Hp) (Q : Bool → Hp → Prop), Inv X pins σ H s → t σ H Q → wpAny (model X.prog X.w) X.A (ifsOf ifs X.env) (TP X pins σ Q) X.xe s
def tYes : TT := fun _ H Q => Q true H
theorem pts_nil {X : Cx} : PTs X [] tYes := fun _ _ _ H _ I h => wpAny_pure ⟨H, I, h⟩
@[irreducible] def tComp (mp : List (Option Nat)) (wi : TI) (g : TG) (tc : TT) (te : TE) : TE := fun σ H Q => wi σ H fun J H1 => ∀ D, H1 D = none → ∃ W : Nat → Nat → List V → St → Hp → Prop,
  (∃ m, W 0 m [] (st0 mp σ) (upd H1 D (.lst []))) ∧ ∀ i m ys σ' H', W i m ys σ' H' → H' D = some (.lst ys) ∧
    ((J.stop i H' ∧ Q (.ref D) H') ∨ (J.go i H' ∧ ys.length < sizeLine ∧ ∀ x H2, J.yld i H' x H2 → g x σ' H2 fun σ2 H3 => tc σ2 H3 fun b H4 =>
      if b = true then te σ2 H4 fun v H5 => H5 D = some (.lst ys) ∧ ∃ m', m' < m ∧ W (i + 1) m' (ys ++ [v]) σ2 (upd H5 D (.lst (ys ++ [v])))
      else ∃ m', m' < m ∧ W (i + 1) m' ys σ2 H4))
def CompW (J : It) (D : Addr) (g : TG) (tc : TT) (te : TE) (Qf : Hp → Prop) (W : Nat → Nat → List V → St → Hp → Prop) : Prop := ∀ i m ys σ' H', W i m ys σ' H' → H' D = some (.lst ys) ∧
    ((J.stop i H' ∧ Qf H') ∨ (J.go i H' ∧ ys.length < sizeLine ∧ ∀ x H2, J.yld i H' x H2 → g x σ' H2 fun σ2 H3 => tc σ2 H3 fun b H4 =>
      if b = true then te σ2 H4 fun v H5 => H5 D = some (.lst ys) ∧ ∃ m', m' < m ∧ W (i + 1) m' (ys ++ [v]) σ2 (upd H5 D (.lst (ys ++ [v])))
      else ∃ m', m' < m ∧ W (i + 1) m' ys σ2 H4))
theorem comp_block {X : Cx} {N : List Str} {scope : Scope} {cl : List (Str × Addr)} {mp : List (Option Nat)} {elt tg iter : Expr} {ifs : List Expr} {g : TG} {tc : TT} {te : TE} {pos : Pos} (B : Blk X N scope cl mp) (hc : X.calm = true)
    (hg : ∀ C s H fp, PG (blk X N scope cl C s H fp) tg g) (ht : ∀ C s H fp, PTs (blk X N scope cl C s H fp) ifs tc) (he : ∀ C s H fp, PE (blk X N scope cl C s H fp) elt te)
    {pins : List (Addr × Obj)} {σ : St} {HD : Hp} {s : Shared} {fp : List Addr} {it D : Addr} {tn : Nat → Heap → Prop} {J : It} {Qf : Hp → Prop} {W : Nat → Nat → List V → St → Hp → Prop} {m0 : Nat} {E : Value → Shared → Prop} {RR : Addr → Result → Shared → Prop}
    (I : Inv X pins σ HD s) (f : ∀ b ∈ fp, FpOk X pins HD b) (T : Turn X.prog X.w X.K tg J fp it tn) (st : tn 0 s.heap) (w0 : W 0 m0 [] (st0 mp σ) HD) (turn : CompW J D g tc te Qf W)
    (hRR : ∀ C H' σ' s', s.heap.objs.size ≤ C → Inv (blk X N scope cl C s HD fp) [] σ' H' s' → Qf H' → RR C (.ok .next) s') :
    wpAny (model X.prog X.w) X.A (newFunctionEnv scope X.env.globals cl [] X.env.qual none .none (some X.env)) (fun cenv s4 =>
      codeAny (model X.prog X.w) X.A (.compStart (.ListComp elt [⟨tg, iter, ifs, 0⟩] scope pos) 0 (.ref it) (.ref D) { cenv with scope := relabel scope X.env }) (RR cenv.locals) s4) E s := by
  have lt : ∀ b ∈ fp, b < s.heap.objs.size := fun b hb => let ⟨o, e, _⟩ := T.obj _ _ st b hb; Heap.lt_size e
  refine wpAny_newFunctionEnv B.cell (by intro y hy; simp at hy) (fun h3 hns hsb => ?_) B.kind
  have k3 : ∀ b o, s.heap.get? b = some o → h3.get? b = some o := fun b o e => (hsb.2 b (Nat.ne_of_lt (Heap.lt_size e))).trans (Heap.get?_push_of_some _ e)
  have JB := blk_inv (t' := s.toks + ([] : List (Str × Value)).length) B I f lt hns k3
  have st3 : tn 0 h3 := T.keep _ _ _ st fun b _ o e => k3 b o e
  have fin : ∀ b ∈ fp, b ∉ frs X.stack := fun b hb z => by
    obtain ⟨_, f1, f2, _⟩ := f b hb
    rcases List.mem_cons.mp (I.stkSub b z) with e | e
    · exact f1 e
    · exact f2 e
  have stat : ∀ {H' : Hp}, (∀ b ∈ fp, H' b = none) → ∀ b ∈ fp, FpOk (blk X N scope cl s.heap.objs.size s HD fp) [] H' b := fun {H'} hn b hb => by
    obtain ⟨f0, f1, f2, f3, f4, f5⟩ := f b hb
    exact ⟨hn b hb, Nat.ne_of_lt (lt b hb), fin b hb, .inl hb, fun x c e => f4 x c (B.sub x c e), fun p hp => absurd (show p ∈ ([] : List (Addr × Obj)) from hp) (by simp)⟩
  have loop : codeAny (model X.prog X.w) X.A (.compLoop (.ListComp elt [⟨tg, iter, ifs, 0⟩] scope pos) 0 (.ref it) (.ref D) (compEnvC scope cl s.heap.objs.size X.env)) (RR s.heap.objs.size) { s with heap := h3, toks := s.toks + ([] : List (Str × Value)).length } := by
    refine comp_turns (fun n s' => ∃ i ys σ' H', Inv (blk X N scope cl s.heap.objs.size s HD fp) [] σ' H' s' ∧ tn i s'.heap ∧ (∀ b ∈ fp, H' b = none) ∧ W i n ys σ' H') ?_ m0 ⟨0, [], _, HD, JB, st3, fun b hb => (f b hb).1, w0⟩
    rintro n s5 ⟨i, ys, σ5, H5, I5, st5, fr5, w5⟩
    obtain ⟨hD, tr⟩ := turn i n ys σ5 H5 w5
    rcases tr with ⟨stop, qn⟩ | ⟨go, hz, step⟩
    · refine thn (T.done (blk X N scope cl s.heap.objs.size s HD fp) rfl rfl rfl hc i [] s5 σ5 H5 E00 I5 (stat fr5) st5 stop) fun r s6 ⟨hr, I6⟩ => ?_
      subst hr
      exact hRR _ H5 σ5 s6 (Nat.le_refl _) I6 qn
    · refine thn (T.item (blk X N scope cl s.heap.objs.size s HD fp) rfl rfl rfl hc i [] s5 σ5 H5 E00 I5 (stat fr5) st5 go) fun r s6 ⟨u, hr, h6⟩ => ?_
      subst hr
      refine thn h6 fun _ s7 ⟨x, H7, I7, r7, y7, st7, fr7⟩ => ?_
      have I7' := I7.pinned (stat fr7) (T.obj _ _ st7)
      have again : ∀ {ys' : List V} {σ8 : St} {H8 : Hp} {s8 : Shared} {m' : Nat}, Inv (blk X N scope cl s.heap.objs.size s HD fp) ([] ++ pinsAt fp s7.heap) σ8 H8 s8 → m' < n → W (i + 1) m' ys' σ8 H8 →
          ∃ m, m < n ∧ ∃ i ys σ' H', Inv (blk X N scope cl s.heap.objs.size s HD fp) [] σ' H' s8 ∧ tn i s8.heap ∧ (∀ b ∈ fp, H' b = none) ∧ W i m ys σ' H' := fun {ys' σ8 H8 s8 m'} I8 hm w8 => by
        refine ⟨m', hm, i + 1, ys', σ8, H8, I8.unpinned, T.keep _ _ _ st7 fun b hb o e => (I8.pin (b, o) (List.mem_append_right _ (List.mem_append_right _ (mem_pinsAt hb e)))).1, fun b hb => ?_, w8⟩
        obtain ⟨o, e, d⟩ := T.obj _ _ st7 b hb
        exact (I8.pin (b, o) (List.mem_append_right _ (List.mem_append_right _ (mem_pinsAt hb e)))).2.1
      refine thn (hg _ _ _ _ _ s7 σ5 H7 x u _ I7' r7 (step x H7 y7)) fun _ s8 ⟨σ8, H8, I8, q8⟩ => ?_
      refine thn (ht _ _ _ _ _ s8 σ8 H8 _ I8 q8) fun ok s9 ⟨H9, I9, q9⟩ => ?_
      cases ok with
      | false =>
        rw [if_neg (by decide)] at q9
        obtain ⟨m', hm, w9⟩ := q9
        rw [if_neg (by decide)]
        exact again I9 hm w9
      | true =>
        rw [if_pos rfl] at q9
        rw [if_pos rfl]
        refine thn (he _ _ _ _ _ s9 σ8 H9 _ I9 q9) fun xv s10 ⟨v, H10, I10, r10, hD10, m', hm, w'⟩ => ?_
        refine thn (mt_append _ s10 σ8 H10 (.ref D) [v] (.ref D) [xv] (fun _ H' => H' = upd H10 D (.lst (ys ++ [v]))) I10 rfl (.cons r10 .nil) ⟨D, ys, v, rfl, rfl, hD10, hz, rfl⟩) fun _ s11 ⟨_, H11, I11, _, e11⟩ => ?_
        subst e11
        exact again I11 hm w'
  exact codeAny_compStart_list loop (T.self _ 0 _ _ _ st3 loop)
theorem pe_comp {X : Cx} {N : List Str} {scope : Scope} {cl : List (Str × Addr)} {mp : List (Option Nat)} {elt tg iter : Expr} {ifs : List Expr} {wi : TI} {g : TG} {tc : TT} {te : TE} {pos : Pos} (B : Blk X N scope cl mp) (hc : X.calm = true)
    (hi : PI X tg iter wi) (hg : ∀ C s H fp, PG (blk X N scope cl C s H fp) tg g) (ht : ∀ C s H fp, PTs (blk X N scope cl C s H fp) ifs tc) (he : ∀ C s H fp, PE (blk X N scope cl C s H fp) elt te)
    (hs : ∀ x, foldedSetIterable iter X.env x = pure x := by intro _; rfl) : PE X (.ListComp elt [⟨tg, iter, ifs, 0⟩] scope pos) (tComp mp wi g tc te) := by
  intro pins s σ H Q I h
  unfold tComp at h
  rw [eval_ListComp]
  refine wpAny_comprehension_free (use := none) (cl := cl) rfl hs B.clos B.kind B.nms (thn (hi pins s σ H _ I h) fun v s1 h1 => thn h1 fun itv s2 h2 => ?_)
  obtain ⟨it, fp, tn, J, H2, rfl, I2, T, st2, f2, q⟩ := h2
  have lt2 : ∀ b ∈ fp, b < s2.heap.objs.size := fun b hb => let ⟨o, e, _⟩ := T.obj _ _ st2 b hb; Heap.lt_size e
  obtain ⟨W, ⟨m0, w0⟩, turn⟩ := q _ I2.fresh
  have ID := I2.lnew (ys := []) (its := []) (t' := s2.toks) .nil (Nat.zero_le _)
  have fD' : ∀ b ∈ fp, FpOk X pins (upd H2 s2.heap.objs.size (.lst [])) b := fun b hb => by
    obtain ⟨f0, r⟩ := f2 b hb
    exact ⟨by rw [upd_ne (Nat.ne_of_lt (lt2 b hb))]; exact f0, r⟩
  refine wpAny_newObj_type (comp_block B hc hg ht he ID fD' T (T.keep _ _ _ st2 fun b _ o e => Heap.get?_push_of_some _ e) w0 turn fun C H' σ' s' hC J' qf => ?_)
  obtain ⟨m, hm, _⟩ := J'.loc
  exact ⟨m, hm, fun h' sb => ⟨.ref _, H', blk_out ID fD' hC J' sb, rfl, qf⟩⟩
end L2
namespace L2
open PySem PySem.Spec PyProof.Rows
def SqX (K : PySem.W.Frag) (b : Bool) (H : Hp) (a : Addr) (xs : List V) : Prop := match b with
  | true => SqT K H a xs
  | false => SqL K H a xs
section
variable {X : Cx} {pins : List (Addr × Obj)} {σ : St} {H : Hp} {s : Shared} {b : Bool} {a : Addr} {xs ys : List V}
theorem Inv.sq (I : Inv X pins σ H s) (h : SqX X.K b H a xs) : ∃ its : List Value, Vals xs its ∧ SqAt b s.heap a its.toArray := by
  cases b with
  | true => obtain ⟨its, rv, p, _⟩ := I.tuple h; exact ⟨its, rv, show s.heap.IsTuple a its.toArray from p⟩
  | false => obtain ⟨its, rv, p, _⟩ := I.list h; exact ⟨its, rv, p.isList⟩
theorem Inv.sq_inj (I : Inv X pins σ H s) (h : SqX X.K b H a xs) (h' : SqX X.K b H a ys) : xs = ys := by
  cases b with
  | true => exact I.tuple_inj h h'
  | false => exact I.list_inj h h'
theorem Inv.turnedL {ch : List Addr} {h' : Heap} {t' : Nat} (I : Inv X pins σ H s) (hf : ∀ b ∈ ch, FpOk X pins H b) (k : ∀ b o, b ∉ ch → s.heap.get? b = some o → h'.get? b = some o) : Inv X pins σ H { s with heap := h', toks := t' } := by
  have nch : ∀ b u, H b = some u → b ∉ ch := fun b u e z => by have q := (hf b z).1; rw [q] at e; cases e
  refine I.step (g' := s.gens) (d' := s.drawn) (ch := ch) (fun b hb => ?_) (fun b o _ _ hc e _ => k b o hc e) (fun b o _ _ hc e _ => ⟨o.slots, k b o hc e⟩) (fun _ _ _ _ n => n)
    (fun b o hc e => ⟨o, k b o hc e⟩) (fun _ _ e => e) (fun _ _ _ e => e) (fun b ps e => ⟨#[], by rw [e]; simp⟩) (fun m hm => ?_) (fun b u e => ?_) I.bare
  · obtain ⟨f0, f1, f2, f3, f4, f5⟩ := hf b hb
    exact ⟨f3, f1, f4, f5⟩
  · obtain ⟨o, es, ep, ho, r⟩ := hm
    exact ⟨o, es, ep, k _ o (fun z => (hf _ z).2.1 rfl) ho, r⟩
  · refine (I.hok b u e).stay (fun c v hc q => k c v ?_ q) (fun _ q => q) fun _ _ q => q
    rcases hc with z | z
    · rw [z]; exact nch b u e
    · exact nch c _ z
theorem Inv.drawn {ch : List Addr} {h' : Heap} {t' : Nat} {p : Addr} {o : HO} (I : Inv X pins σ H s) (hf : ∀ b ∈ ch, FpOk X pins H b) (k : ∀ b o, b ∉ ch → s.heap.get? b = some o → h'.get? b = some o) (hp : s.heap.objs.size ≤ p)
    (new : ObjOk X.prog X.w (upd H p o) h' p o) : Inv X pins σ (upd H p o) { s with heap := h', toks := t' } := by
  have nch : ∀ b u, H b = some u → b ∉ ch := fun b u e z => by have q := (hf b z).1; rw [q] at e; cases e
  have hn : H p = none := I.hok.fresh hp
  have np : ∀ b u, s.heap.get? b = some u → b ≠ p := fun b u e => Nat.ne_of_lt (Nat.lt_of_lt_of_le (Heap.lt_size e) hp)
  refine I.step (g' := s.gens) (d' := s.drawn) (ch := ch) (fun b hb => ?_) (fun b o _ _ hc e _ => k b o hc e) (fun b o _ _ hc e _ => ⟨o.slots, k b o hc e⟩) (fun b o _ e n => by rw [upd_ne (np b o e)]; exact n)
    (fun b o hc e => ⟨o, k b o hc e⟩) (fun b xs e => by rw [upd_ne (ne_of_none e hn)]; exact e) (fun b o u e => by rw [upd_ne (ne_of_none e hn)]; exact e) (fun b ps e => ⟨#[], by rw [upd_ne (ne_of_none e hn), e]; simp⟩) (fun m hm => ?_) (fun b u e => ?_) I.bare
  · obtain ⟨f0, f1, f2, f3, f4, f5⟩ := hf b hb
    exact ⟨f3, f1, f4, f5⟩
  · obtain ⟨o, es, ep, ho, r⟩ := hm
    exact ⟨o, es, ep, k _ o (fun z => (hf _ z).2.1 rfl) ho, r⟩
  · by_cases hb : b = p
    · subst hb; rw [upd_same] at e; cases e; exact new
    · rw [upd_ne hb] at e
      refine (I.hok b u e).stay (fun c v hc q => k c v ?_ q) (fun c q => by rw [upd_ne (ne_of_none q hn)]; exact q) fun c xs q => by rw [upd_ne (ne_of_none q hn)]; exact q
      rcases hc with z | z
      · rw [z]; exact nch b u e
      · exact nch c _ z
end
def Itz (K : PySem.W.Frag) (b1 b2 : Bool) (a1 a2 : Addr) : It :=
  ⟨fun i H => ∃ xs ys x y, SqX K b1 H a1 xs ∧ SqX K b2 H a2 ys ∧ xs[i]? = some x ∧ ys[i]? = some y,
   fun i H v H' => ∃ p x y, H p = none ∧ v = .ref p ∧ H' = upd H p (.tup [x, y]) ∧ (∀ xs, SqX K b1 H a1 xs → xs[i]? = some x) ∧ ∀ ys, SqX K b2 H a2 ys → ys[i]? = some y,
   fun i H => ∃ xs ys, SqX K b1 H a1 xs ∧ SqX K b2 H a2 ys ∧ (xs.length ≤ i ∨ ys.length ≤ i)⟩
theorem turn_zip {P : Program} {w : World} {K : PySem.W.Frag} {es : List Expr} {ek : Nat} {pos : Pos} (b1 b2 : Bool) {z TI TO i1 i2 a1 a2 : Addr} (D : ZipApart z TI TO i1 i2 a1 a2) :
    Turn P w K (.Tuple es ek pos) (Itz K b1 b2 a1 a2) [z, TI, TO, i1, i2] z (fun i h => ZSt b1 b2 z TI TO i1 i2 a1 a2 .none i h) where
  mem := by simp
  obj := fun i h st b hb => by
    simp only [List.mem_cons, List.not_mem_nil, or_false] at hb
    rcases hb with rfl | rfl | rfl | rfl | rfl
    · exact ⟨_, st.zip, fun v q => by cases q⟩
    · exact ⟨_, st.ti, fun v q => by cases q⟩
    · obtain ⟨a, b, e⟩ := st.to
      exact ⟨_, e, fun v q => by cases q⟩
    · exact st.it1.obj
    · exact st.it2.obj
  keep := fun i h h' st k => st.at k
  item := by
    intro X hP hw hK hc i pins s σ H E I hf st hg
    subst hP hw hK
    obtain ⟨xs, ys, x, y, h1, h2, hx, hy⟩ := hg
    obtain ⟨us, ru, q1⟩ := I.sq h1
    obtain ⟨ws, rw', q2⟩ := I.sq h2
    obtain ⟨u, eu, rx⟩ := ru.get hx
    obtain ⟨v, ev, ry⟩ := rw'.get hy
    refine pyNext_zip_item D st q1 q2 (x := u) (y := v) (by simpa using eu) (by simpa using ev) fun h' S p8 s8 k => ?_
    refine ⟨_, rfl, wpAny_letOwnedTupleGo_zip S.zip fun h'' z' e' => ?_⟩
    have zlt : z < s.heap.objs.size := Heap.lt_size st.zip
    have zp : s.heap.objs.size ≠ z := Nat.ne_of_gt zlt
    have kk : ∀ b o, b ∉ [z, TO, i1, i2] → s.heap.get? b = some o → h''.get? b = some o := fun b o hb e => by
      simp only [List.mem_cons, List.not_mem_nil, or_false, not_or] at hb
      exact e'.extBut _ _ hb.1 (k b o hb.1 hb.2.1 hb.2.2.1 hb.2.2.2 e)
    have pp : IsPair h'' s.heap.objs.size u v := e'.extBut _ _ zp p8
    refine ⟨.ref s.heap.objs.size, upd H s.heap.objs.size (.tup [x, y]), I.drawn (t' := s.toks) (ch := [z, TO, i1, i2]) (fun b hb => hf b ?_) kk (Nat.le_refl _) ?_, rfl, ⟨_, x, y, I.fresh, rfl, rfl, fun xs' hq => ?_, fun ys' hq => ?_⟩, ?_, fun b hb => ?_⟩
    · simp only [List.mem_cons, List.not_mem_nil, or_false] at hb ⊢
      rcases hb with rfl | rfl | rfl | rfl <;> simp
    · exact ⟨by show 2 ≤ sizeLine; rw [sizeLine_eq]; decide, [u, v], .cons rx (.cons ry .nil), ⟨_, pp, rfl, _, rfl⟩⟩
    · rw [I.sq_inj hq h1]; exact hx
    · rw [I.sq_inj hq h2]; exact hy
    · exact ⟨z', e'.extBut _ _ D.TIz S.ti, (let ⟨a, b, e⟩ := S.to; ⟨a, b, e'.extBut _ _ D.TOz e⟩), S.it1.at fun o q => e'.extBut _ _ D.i1z q, S.it2.at fun o q => e'.extBut _ _ D.i2z q⟩
    · obtain ⟨o, e, _⟩ : ∃ o, s.heap.get? b = some o ∧ ∀ v, o.data ≠ .cell v := by
        simp only [List.mem_cons, List.not_mem_nil, or_false] at hb
        rcases hb with rfl | rfl | rfl | rfl | rfl
        · exact ⟨_, st.zip, fun v q => by cases q⟩
        · exact ⟨_, st.ti, fun v q => by cases q⟩
        · obtain ⟨a, b, e⟩ := st.to
          exact ⟨_, e, fun v q => by cases q⟩
        · exact st.it1.obj
        · exact st.it2.obj
      rw [upd_ne (Nat.ne_of_lt (Heap.lt_size e))]
      exact (hf b hb).1
  done := by
    intro X hP hw hK hc i pins s σ H E I hf st hg
    subst hP hw hK
    obtain ⟨xs, ys, h1, h2, hl⟩ := hg
    obtain ⟨us, ru, q1⟩ := I.sq h1
    obtain ⟨ws, rw', q2⟩ := I.sq h2
    have l1 := ru.length
    have l2 := rw'.length
    refine pyNext_zip_end (I.ok.hd hc) D st q1 q2 ?_ fun h' k => ⟨rfl, I.turnedL (t' := s.toks) (ch := [z, TO, i1, i2]) (fun b hb => hf b ?_) fun b o hb e => ?_⟩
    · rcases hl with hl | hl
      · exact .inl (by simp; omega)
      · exact .inr (by simp; omega)
    · simp only [List.mem_cons, List.not_mem_nil, or_false] at hb ⊢
      rcases hb with rfl | rfl | rfl | rfl <;> simp
    · simp only [List.mem_cons, List.not_mem_nil, or_false, not_or] at hb
      exact k b o hb.1 hb.2.1 hb.2.2.1 hb.2.2.2 e
  self := fun _ _ _ _ _ st h => wpAny_pyIter_zip st.zip h
def iZip (K : PySem.W.Frag) (b1 b2 : Bool) (ta : TA) : TI := fun σ H R => ta σ H fun vs H1 => ∃ a1 a2, vs = [.ref a1, .ref a2] ∧ (∃ xs, SqX K b1 H1 a1 xs) ∧ (∃ ys, SqX K b2 H1 a2 ys) ∧ R (Itz K b1 b2 a1 a2) H1
theorem pi_zip {X : Cx} {es : List Expr} {ek : Nat} {tpos p pos : Pos} (b1 b2 : Bool) {e1 e2 : Expr} {ta : TA} (hg : Gl X "zip") (hm : X.mg "zip" = none) (ha : PA X [e1, e2] ta)
    (he : starEach [e1, e2] X.env = (false, eval e1 X.env) :: starEach [e2] X.env := by rfl) (hpl : (backTo pos (starEach [e2] X.env)).any (·.1) = false := by rfl) :
    PI X (.Tuple es ek tpos) (.Call (.Name "zip" p) [e1, e2] [] pos) (iZip X.K b1 b2 ta) := by
  intro pins s σ H R I h
  refine wpAny_Call_Name_kw (ld_blt I hg hm boot_zip ?_ (by decide) (by decide))
  refine PyProof.Rows.callWith_type1 (thn (ha pos pins s σ H _ I h) fun us s1 ⟨vs, H1, I1, r1, a1, a2, ev, ⟨xs, h1⟩, ⟨ys, h2⟩, q⟩ => ?_) he hpl
  subst ev
  obtain ⟨u1, u2, rfl, e1', e2'⟩ := r1.two
  cases e1'; cases e2'
  obtain ⟨us, ru, q1⟩ := I1.sq h1
  obtain ⟨ws, rw', q2⟩ := I1.sq h2
  have lt1 : a1 < s1.heap.objs.size := by cases b1 <;> (obtain ⟨o, e, _⟩ := q1; exact Heap.lt_size e)
  have lt2 : a2 < s1.heap.objs.size := by cases b2 <;> (obtain ⟨o, e, _⟩ := q2; exact Heap.lt_size e)
  refine call_zip q1 q2 fun h' S k z5 => wpAny_pyIter_zip S.zip ?_
  have I2 : Inv X pins σ H1 { s1 with heap := h' } := I1.kept (t' := s1.toks) k
  refine ⟨s1.heap.objs.size + 4, [s1.heap.objs.size + 4, s1.heap.objs.size + 2, s1.heap.objs.size + 3, s1.heap.objs.size, s1.heap.objs.size + 1], _, _, H1, rfl, I2, turn_zip b1 b2 (zipApart_new lt1 lt2), S, fun b hb => ?_, q⟩
  have hb' : s1.heap.objs.size ≤ b := by
    simp only [List.mem_cons, List.not_mem_nil, or_false] at hb
    rcases hb with rfl | rfl | rfl | rfl | rfl
    · exact Nat.le_add_right _ 4
    · exact Nat.le_add_right _ 2
    · exact Nat.le_add_right _ 3
    · exact Nat.le_refl _
    · exact Nat.le_add_right _ 1
  exact I1.fpOk hb' (I1.hok.fresh hb')
end L2
namespace L2
open PySem PySem.Spec PyProof.Rows
theorem Same.upd {H : Hp} {p : Addr} {o : HO} (h : H p = none) : Same H (upd H p o) := fun b u e => by rw [upd_ne (ne_of_none e h)]; exact e
theorem Same.updR {H H' : Hp} {p : Addr} {o : HO} (e : Same H H') (h : H p = none) : Same H (L2.upd H' p o) := fun b u q => by rw [upd_ne (ne_of_none q h)]; exact e b u q
theorem Same.seqT {K : PySem.W.Frag} {H H' : Hp} {a : Addr} {xs : List V} (e : Same H H') (h : SqT K H a xs) : SqT K H' a xs := by
  rcases h with (h | ⟨o, h⟩) | h
  · exact .inl (.inl (e _ _ h))
  · exact .inl (.inr ⟨o, e _ _ h⟩)
  · exact .inr h
theorem Same.sqX {K : PySem.W.Frag} {b : Bool} {H H' : Hp} {a : Addr} {xs : List V} (e : Same H H') (h : SqX K b H a xs) : SqX K b H' a xs := by
  cases b with
  | true => exact e.seqT h
  | false => exact e.seq h
structure Walk (J : It) (H1 : Hp) (n : Nat) (P : Nat → V → Hp → Prop) : Prop where
  go : ∀ i H', Same H1 H' → i < n → J.go i H'
  stop : ∀ H', Same H1 H' → J.stop n H'
  yld : ∀ i H' x H2, Same H1 H' → i < n → J.yld i H' x H2 → Same H' H2 ∧ P i x H2
theorem walk_list {K : PySem.W.Frag} {H1 : Hp} {a : Addr} {xs : List V} (h : SqL K H1 a xs) : Walk (Itl K a) H1 xs.length (fun i x _ => xs[i]? = some x) :=
  ⟨fun i H' e hi => ⟨xs, xs[i], e.seq h, by simp [hi]⟩, fun H' e => ⟨xs, e.seq h, Nat.le_refl _⟩, fun i H' x H2 e hi y => by
    obtain ⟨rfl, q⟩ := y
    exact ⟨Same.refl _, q xs (e.seq h)⟩⟩
theorem walk_range {H1 : Hp} (lo : Int) (n : Nat) : Walk (Itr lo n) H1 n (fun i x _ => x = .int (lo + i)) :=
  ⟨fun i H' e hi => hi, fun H' e => Nat.le_refl _, fun i H' x H2 e hi y => by
    obtain ⟨rfl, q⟩ := y
    exact ⟨Same.refl _, q⟩⟩
theorem walk_zip {K : PySem.W.Frag} {b1 b2 : Bool} {H1 : Hp} {a1 a2 : Addr} {xs ys : List V} (h1 : SqX K b1 H1 a1 xs) (h2 : SqX K b2 H1 a2 ys) :
    Walk (Itz K b1 b2 a1 a2) H1 (min xs.length ys.length) (fun i v H => ∃ p x y, v = .ref p ∧ H p = some (.tup [x, y]) ∧ xs[i]? = some x ∧ ys[i]? = some y) := by
  refine ⟨fun i H' e hi => ?_, fun H' e => ⟨xs, ys, e.sqX h1, e.sqX h2, ?_⟩, fun i H' x H2 e hi q => ?_⟩
  · have i1 : i < xs.length := by omega
    have i2 : i < ys.length := by omega
    exact ⟨xs, ys, xs[i], ys[i], e.sqX h1, e.sqX h2, by simp [i1], by simp [i2]⟩
  · rcases Nat.le_total xs.length ys.length with q | q
    · exact .inl (by omega)
    · exact .inr (by omega)
  · obtain ⟨p, u, v, hp, rfl, rfl, q1, q2⟩ := q
    exact ⟨Same.upd hp, p, u, v, rfl, upd_same, q1 xs (e.sqX h1), q2 ys (e.sqX h2)⟩
theorem comp_of {J : It} {H1 : Hp} {n : Nat} {P : Nat → V → Hp → Prop} {g : TG} {tc : TT} {te : TE} {Q : VK} {σ0 : St} {D : Addr} (S : Walk J H1 n P) (hD : H1 D = none) (hn : n ≤ sizeLine) (Sv : St → Prop) (p : Nat → Bool) (F : Nat → V → Hp → Prop)
    (monoS : ∀ i v H H', Same H H' → F i v H → F i v H') (monoU : ∀ i v H a ys ys', H a = some (.lst ys) → F i v H → F i v (upd H a (.lst ys'))) (h0 : Sv σ0)
    (step : ∀ i x σ' H2, i < n → Sv σ' → Same H1 H2 → P i x H2 → ∀ (Ny : V → St → Hp → Prop) (Nn : St → Hp → Prop), (∀ v σ2 H5, Sv σ2 → Same H2 H5 → F i v H5 → p i = true → Ny v σ2 H5) → (∀ σ2 H4, Sv σ2 → Same H2 H4 → p i = false → Nn σ2 H4) →
      g x σ' H2 fun σ2 H3 => tc σ2 H3 fun b H4 => if b = true then te σ2 H4 fun v H5 => Ny v σ2 H5 else Nn σ2 H4)
    (hQ : ∀ H' ys, Same H1 H' → H' D = some (.lst ys) → Paired (fun i v => F i v H') ((List.range n).filter p) ys → Q (.ref D) H') :
    ∃ W : Nat → Nat → List V → St → Hp → Prop, (∃ m, W 0 m [] σ0 (upd H1 D (.lst []))) ∧ ∀ i m ys σ' H', W i m ys σ' H' → H' D = some (.lst ys) ∧
    ((J.stop i H' ∧ Q (.ref D) H') ∨ (J.go i H' ∧ ys.length < sizeLine ∧ ∀ x H2, J.yld i H' x H2 → g x σ' H2 fun σ2 H3 => tc σ2 H3 fun b H4 =>
      if b = true then te σ2 H4 fun v H5 => H5 D = some (.lst ys) ∧ ∃ m', m' < m ∧ W (i + 1) m' (ys ++ [v]) σ2 (upd H5 D (.lst (ys ++ [v])))
      else ∃ m', m' < m ∧ W (i + 1) m' ys σ2 H4)) := by
  refine ⟨fun i m ys σ' H' => m = n - i ∧ i ≤ n ∧ Sv σ' ∧ Same H1 H' ∧ H' D = some (.lst ys) ∧ Paired (fun j v => F j v H') ((List.range i).filter p) ys, ⟨n, rfl, Nat.zero_le _, h0, Same.upd hD, upd_same, .nil⟩, ?_⟩
  rintro i m ys σ' H' ⟨rfl, hi, hs, hS, hL, hF⟩
  refine ⟨hL, ?_⟩
  have rs : (List.range (i + 1)).filter p = (List.range i).filter p ++ (if p i = true then [i] else []) := by
    rw [List.range_succ, List.filter_append]
    cases q : p i <;> simp [q]
  by_cases hlt : i < n
  · refine .inr ⟨S.go i H' hS hlt, ?_, fun x H2 y => ?_⟩
    · have l1 := hF.length
      have l2 : ((List.range i).filter p).length ≤ (List.range i).length := List.length_filter_le _ _
      rw [List.length_range] at l2
      omega
    · obtain ⟨e2, hP⟩ := S.yld i H' x H2 hS hlt y
      refine step i x σ' H2 hlt hs (hS.trans e2) hP _ _ (fun v σ2 H5 s2 e5 f5 hp => ?_) fun σ2 H4 s2 e4 hp => ?_
      · have l5 : H5 D = some (.lst ys) := e5 _ _ (e2 _ _ hL)
        refine ⟨l5, n - (i + 1), by omega, rfl, hlt, s2, ((hS.trans e2).trans e5).updR hD, upd_same, ?_⟩
        rw [rs, if_pos hp]
        refine Paired.snoc (Paired.imp' (fun j w q => ?_) hF) (monoU i v H5 D ys _ l5 f5)
        exact monoU j w H5 D ys _ l5 (monoS j w H' H5 (e2.trans e5) q)
      · refine ⟨n - (i + 1), by omega, rfl, hlt, s2, (hS.trans e2).trans e4, e4 _ _ (e2 _ _ hL), ?_⟩
        rw [rs, if_neg (by rw [hp]; decide), List.append_nil]
        exact Paired.imp' (fun j w q => monoS j w H' H4 (e2.trans e4) q) hF
  · have e : i = n := by omega
    subst e
    exact .inl ⟨S.stop H' hS, hQ H' ys hS hL hF⟩
theorem Paired.eq_map {β : Type} {f : Nat → β} : ∀ {l : List Nat} {ys : List β}, Paired (fun i v => v = f i) l ys → ys = l.map f
  | _, _, .nil => rfl
  | _, _, .cons r t => by rw [List.map_cons, r, Paired.eq_map t]
theorem comp_vals {J : It} {H1 : Hp} {n : Nat} {P : Nat → V → Hp → Prop} {g : TG} {tc : TT} {te : TE} {Q : VK} {σ0 : St} {D : Addr} (S : Walk J H1 n P) (hD : H1 D = none) (hn : n ≤ sizeLine) (Sv : St → Prop) (p : Nat → Bool) (f : Nat → V) (h0 : Sv σ0)
    (step : ∀ i x σ' H2, i < n → Sv σ' → Same H1 H2 → P i x H2 → ∀ (Ny : V → St → Hp → Prop) (Nn : St → Hp → Prop), (∀ σ2 H5, Sv σ2 → Same H2 H5 → p i = true → Ny (f i) σ2 H5) → (∀ σ2 H4, Sv σ2 → Same H2 H4 → p i = false → Nn σ2 H4) →
      g x σ' H2 fun σ2 H3 => tc σ2 H3 fun b H4 => if b = true then te σ2 H4 fun v H5 => Ny v σ2 H5 else Nn σ2 H4)
    (hQ : ∀ H', Same H1 H' → H' D = some (.lst (((List.range n).filter p).map f)) → Q (.ref D) H') :
    ∃ W : Nat → Nat → List V → St → Hp → Prop, (∃ m, W 0 m [] σ0 (upd H1 D (.lst []))) ∧ ∀ i m ys σ' H', W i m ys σ' H' → H' D = some (.lst ys) ∧
    ((J.stop i H' ∧ Q (.ref D) H') ∨ (J.go i H' ∧ ys.length < sizeLine ∧ ∀ x H2, J.yld i H' x H2 → g x σ' H2 fun σ2 H3 => tc σ2 H3 fun b H4 =>
      if b = true then te σ2 H4 fun v H5 => H5 D = some (.lst ys) ∧ ∃ m', m' < m ∧ W (i + 1) m' (ys ++ [v]) σ2 (upd H5 D (.lst (ys ++ [v])))
      else ∃ m', m' < m ∧ W (i + 1) m' ys σ2 H4)) :=
  comp_of S hD hn Sv p (fun i v _ => v = f i) (fun _ _ _ _ _ q => q) (fun _ _ _ _ _ _ _ q => q) h0
    (fun i x σ' H2 hi hs e hP Ny Nn hy hn' => step i x σ' H2 hi hs e hP Ny Nn (fun σ2 H5 s2 e5 hp => hy _ σ2 H5 s2 e5 rfl hp) hn')
    fun H' ys e hL hF => hQ H' e (by rw [← Paired.eq_map hF]; exact hL)
end L2
namespace L2
open PySem PySem.Spec PyProof.Rows
theorem relabel_free {env : Env} : ∀ {names : List (Str × NameKind)} {x : Str}, names.lookup x = some .free →
    (names.map fun (n, k) => if (k == NameKind.free && env.scope.kind == .function && env.kindOf n == some .cell) then (n, NameKind.cell) else (n, k)).lookup x = some .cell ∨
    (names.map fun (n, k) => if (k == NameKind.free && env.scope.kind == .function && env.kindOf n == some .cell) then (n, NameKind.cell) else (n, k)).lookup x = some .free
  | [], _, h => by simp at h
  | (n, k) :: r, x, h => by
    have ih := @relabel_free env r x
    rw [List.map_cons]
    cases hx : x == n with
    | true =>
      simp only [List.lookup_cons, hx] at h
      cases h
      by_cases hc : (NameKind.free == NameKind.free && env.scope.kind == .function && env.kindOf n == some .cell) = true
      · dsimp only; rw [if_pos hc]; simp only [List.lookup_cons, hx]; exact .inl trivial
      · dsimp only; rw [if_neg hc]; simp only [List.lookup_cons, hx]; exact .inr trivial
    | false =>
      simp only [List.lookup_cons, hx] at h
      by_cases hc : (k == NameKind.free && env.scope.kind == .function && env.kindOf n == some .cell) = true
      · dsimp only; rw [if_pos hc]; simp only [List.lookup_cons, hx]; exact ih h
      · dsimp only; rw [if_neg hc]; simp only [List.lookup_cons, hx]; exact ih h
theorem relabel_kind {env : Env} {names : List (Str × NameKind)} {x : Str} {k : NameKind} (hk : k = .cell ∨ k = .free) (nc : ∀ y ∈ names, y.2 ≠ .cell)
    (h : (names.map fun (n, k) => if (k == NameKind.free && env.scope.kind == .function && env.kindOf n == some .cell) then (n, NameKind.cell) else (n, k)).lookup x = some k) : ∃ y ∈ names, y.1 = x ∧ y.2 = .free := by
  have m := PySem.mem_of_lookup h
  obtain ⟨⟨n, k0⟩, hm, e⟩ := List.mem_map.mp m
  dsimp only at e
  by_cases hc : (k0 == NameKind.free && env.scope.kind == .function && env.kindOf n == some .cell) = true
  · rw [if_pos hc] at e
    simp only [Bool.and_eq_true, beq_iff_eq] at hc
    cases e
    exact ⟨_, hm, rfl, hc.1.1⟩
  · rw [if_neg hc] at e
    cases e
    refine ⟨_, hm, rfl, ?_⟩
    rcases hk with z | z
    · exact absurd z (nc _ hm)
    · exact z
theorem Blk.of {X : Cx} {N : List Str} {scope : Scope} {cl : List (Str × Addr)} {mp : List (Option Nat)} (clos : closureFor scope X.env = pure cl) (cell : ∀ y ∈ scope.names, y.2 ≠ .cell) (kind : scope.kind = .function)
    (nms : ∀ y ∈ scope.names, y.2 = .local → scope.names.lookup y.1 = some .local) (nd : N.Nodup) (sub : ∀ x c, cl.lookup x = some c → X.env.cells.lookup x = some c) (fr : ∀ y ∈ scope.names, y.2 = .free → ∃ c, cl.lookup y.1 = some c) (len : mp.length = N.length)
    (map : ∀ (i j : Nat) (x : Str), mp[i]? = some (some j) → N[i]? = some x → X.N[j]? = some x ∧ (X.env.scope.names.lookup x = some .cell ∨ X.env.scope.names.lookup x = some .free) ∧ scope.names.lookup x = some .free) : Blk X N scope cl mp := by
  refine ⟨clos, cell, kind, nms, nd, sub, fun x hx => ?_, len, fun i j x h1 h2 => ?_⟩
  · have : ∃ y ∈ scope.names, y.1 = x ∧ y.2 = .free := hx.elim (fun z => relabel_kind (.inl rfl) cell z) fun z => relabel_kind (.inr rfl) cell z
    obtain ⟨y, hy, rfl, hf⟩ := this
    exact fr y hy hf
  · obtain ⟨q1, q2, q3⟩ := map i j x h1 h2
    exact ⟨q1, q2, relabel_free q3⟩
theorem Blk.plain {X : Cx} {N : List Str} {scope : Scope} (fr : ∀ y ∈ scope.names, y.2 ≠ .free) (cell : ∀ y ∈ scope.names, y.2 ≠ .cell) (kind : scope.kind = .function) (nms : ∀ y ∈ scope.names, y.2 = .local → scope.names.lookup y.1 = some .local) (nd : N.Nodup) :
    Blk X N scope [] (N.map fun _ => none) :=
  Blk.of (closureFor_none fr) cell kind nms nd (fun _ _ h => nomatch h) (fun y hy h => absurd h (fr y hy)) (List.length_map _) fun i j x h => by
    rw [List.getElem?_map] at h
    cases q : N[i]? with
    | none => rw [q] at h; cases h
    | some z => rw [q] at h; cases h
def zipV (p : Int → Int → Bool) (φ : Int → Int → V) (xs ys : List Int) : List V := ((List.range (min xs.length ys.length)).filter fun i => p (xs.getD i 0) (ys.getD i 0)).map fun i => φ (xs.getD i 0) (ys.getD i 0)
theorem getD_of_map {xs : List Int} {i : Nat} {v : V} (h : (xs.map V.int)[i]? = some v) : v = .int (xs.getD i 0) := by
  rw [List.getElem?_map] at h
  cases q : xs[i]? with
  | none => rw [q] at h; cases h
  | some z =>
    rw [q] at h
    have e : xs.getD i 0 = z := by rw [List.getD_eq_getElem?_getD, q]; rfl
    rw [e]; exact (Option.some.inj h).symm
theorem two_set {σ : St} (h : σ.length = 2) (x y : V) : (σ.set 0 (some x)).set 1 (some y) = [some x, some y] := by
  match σ, h with
  | [_, _], _ => rfl
theorem zip_comp {K : PySem.W.Frag} {b1 b2 : Bool} {a b : Addr} {xs ys : List Int} {mp : List (Option Nat)} {ta : TA} {tc : TT} {te : TE} {σ : St} {H H1 : Hp} {Q : VK} (p : Int → Int → Bool) (φ : Int → Int → V) (hmp : mp.length = 2) (hta : ∀ R, R [.ref a, .ref b] H1 → ta σ H R)
    (h1 : SqX K b1 H1 a (xs.map V.int)) (h2 : SqX K b2 H1 b (ys.map V.int)) (hz : xs.length ≤ 1000)
    (htc : ∀ (i : Nat) H' (R : Bool → Hp → Prop), R (p (xs.getD i 0) (ys.getD i 0)) H' → tc [some (.int (xs.getD i 0)), some (.int (ys.getD i 0))] H' R)
    (hte : ∀ (i : Nat) H' (R : VK), p (xs.getD i 0) (ys.getD i 0) = true → R (φ (xs.getD i 0) (ys.getD i 0)) H' → te [some (.int (xs.getD i 0)), some (.int (ys.getD i 0))] H' R)
    (hQ : ∀ D H', Same H1 H' → H' D = some (.lst (zipV p φ xs ys)) → Q (.ref D) H') :
    tComp mp (iZip K b1 b2 ta) (gTup K 2 (gCons (gName 0) (gCons (gName 1) gNil))) tc te σ H Q := by
  unfold tComp
  refine hta _ ⟨a, b, rfl, ⟨_, h1⟩, ⟨_, h2⟩, fun D hD => ?_⟩
  have W := walk_zip h1 h2
  rw [List.length_map, List.length_map] at W
  refine comp_vals W hD (Nat.le_trans (Nat.min_le_left _ _) (Nat.le_trans hz (by rw [sizeLine_eq]; decide))) (fun σ => σ.length = 2) (fun i => p (xs.getD i 0) (ys.getD i 0)) (fun i => φ (xs.getD i 0) (ys.getD i 0)) (by unfold st0; rw [List.length_map]; exact hmp) ?_ fun H' e hL => hQ D H' e hL
  rintro i v σ' H2 hi hs e ⟨q, u, w, rfl, hq, hu, hw⟩ Ny Nn hy hn
  rw [getD_of_map hu, getD_of_map hw] at hq
  refine ⟨q, _, rfl, SqT.of hq, rfl, _, _, rfl, _, _, rfl, rfl, ?_⟩
  rw [two_set hs]
  refine htc _ _ _ ?_
  cases hp : p (xs.getD i 0) (ys.getD i 0) with
  | true => rw [if_pos rfl]; exact hte _ _ _ hp (hy _ _ rfl (Same.refl _) hp)
  | false => rw [if_neg (by decide)]; exact hn _ _ rfl (Same.refl _) hp
end L2
namespace L2
open PySem PySem.Spec PyProof.Rows
theorem pg_two {X : Cx} {K : PySem.W.Frag} {x y : Str} {px py tp : Pos} {k : Nat} (hK : X.K = K) (hc : X.calm = true) (hN : X.N = [x, y]) (nd : ([x, y] : List Str).Nodup) (hx : X.env.scope.names.lookup x = some .local) (hy : X.env.scope.names.lookup y = some .local) :
    PG X (.Tuple [.Name x px, .Name y py] k tp) (gTup K 2 (gCons (gName 0) (gCons (gName 1) gNil))) := by
  subst hK
  have nd' : X.N.Nodup := by rw [hN]; exact nd
  exact pg_tup hc (pgs_cons (pg_name (i := 0) nd' (by rw [hN]; rfl) (.inl hx) (.inr hx)) (pgs_cons (pg_name (i := 1) nd' (by rw [hN]; rfl) (.inl hy) (.inr hy)) pgs_nil))
theorem pg_one {X : Cx} {x : Str} {px : Pos} {i : Nat} (nd : X.N.Nodup) (hN : X.N[i]? = some x) (hx : X.env.scope.names.lookup x = some .local) : PG X (.Name x px) (gName i) := pg_name nd hN (.inl hx) (.inr hx)
end L2
namespace L2
open PySem PySem.Spec PyProof.Rows
end L2
namespace L2
open PySem PySem.Spec PyProof.Rows
end L2
namespace L2
open PySem PySem.Spec PyProof.Rows
theorem ObjOk.obj {P : Program} {w : World} {H : Hp} {h : Heap} {a : Addr} {o : HO} (x : ObjOk P w H h a o) : ∃ ob, h.get? a = some ob := by
  cases o with
  | lst xs => obtain ⟨_, _, _, _, e⟩ := x; exact ⟨_, e⟩
  | tup xs => obtain ⟨_, _, _, ob, e, _⟩ := x; exact ⟨_, e⟩
  | dK kvs => obtain ⟨_, _, _, _, o, _, _, e, _⟩ := x; exact ⟨_, e⟩
  | dT kvs => obtain ⟨_, _, _, _, o, _, _, e, _⟩ := x; exact ⟨_, e⟩
  | set S n => obtain ⟨o, _, _, _, e, _⟩ := x; exact ⟨_, e⟩
  | ins C dx fs => obtain ⟨_, _, _, e, _⟩ := x; exact ⟨_, e⟩
  | own y => obtain ⟨_, e⟩ := x; exact ⟨_, e⟩
  | xd fs => obtain ⟨_, ⟨_, _, _, e, _⟩, _⟩ := x; exact ⟨_, e⟩
  | rng lo hi => obtain ⟨_, _, _, e⟩ := x; exact ⟨_, e⟩
  | frz ob u => obtain ⟨e, _⟩ := x; exact ⟨_, e⟩
  | tbl ps => exact ⟨_, show h.get? a = some _ from x⟩
  | met f y => exact ⟨_, show h.get? a = some _ from x⟩
  | ext φ => obtain ⟨_, ⟨_, e⟩, _⟩ := x; exact ⟨_, e⟩
structure Cov (B : Heap) (fs : List Addr) (H' : Hp) (h : Heap) : Prop where
  old : ∀ b o, h.get? b = some o → b ∉ fs → ∃ o', B.get? b = some o'
  trk : ∀ b u, H' b = some u → ∃ o', B.get? b = some o'
def CXe (P : Program) (w : World) : CXT := fun outer H s E e s' => ∃ (a : Addr) (cls a0 : Value) (B : Heap) (H' : Hp), e = .ref a ∧ s'.os = s.os ∧ AllBare s'.gens ∧ Un (frs outer) [] H H' s.heap s'.heap ∧ HOk P w H' s'.heap ∧
  Heap.FlyingW B outer a cls a0 s'.heap ∧ Cov B (frs outer) H' s.heap ∧ E cls none H'
section
variable {P : Program} {w : World} {fs : List Addr} {H H' : Hp} {h h1 h2 B : Heap}
theorem Heap.two {B h1 h2 : Heap} (s1 : B.StaysIn h1) (s2 : B.StaysIn h2) {b : Addr} {o o' : Obj} (e : h1.get? b = some o) (q : B.get? b = some o') : h2.get? b = some o := by
  have := s1 b o' q
  rw [e] at this; cases this
  exact s2 b _ q
theorem fly_un (u : Un fs [] H H' h h1) (cov : Cov B fs H' h) (s1 : B.StaysIn h1) (s2 : B.StaysIn h2) (sl : ∀ b o, b ∈ fs → h1.get? b = some o → ∃ sl, h2.get? b = some { o with slots := sl }) : Un fs [] H H' h h2 := by
  refine ⟨fun b o e n hb hx => ?_, fun b o e n hb hx => ?_, u.free, fun b o e hx => ?_, u.tups, u.frzs, u.tbls⟩
  · obtain ⟨o', q⟩ := cov.old b o e hb
    exact Heap.two s1 s2 (u.keep b o e n hb hx) q
  · obtain ⟨sl1, e1⟩ := u.slot b o e n hb hx
    obtain ⟨sl2, e2⟩ := sl b _ hb e1
    exact ⟨sl2, e2⟩
  · by_cases hb : b ∈ fs
    · obtain ⟨o', e1⟩ := u.there b o e hx
      obtain ⟨sl2, e2⟩ := sl b _ hb e1
      exact ⟨_, e2⟩
    · obtain ⟨o', q⟩ := cov.old b o e hb
      exact ⟨o', s2 b o' q⟩
theorem fly_ok (ok : HOk P w H' h1) (trk : ∀ b u, H' b = some u → ∃ o', B.get? b = some o') (s1 : B.StaysIn h1) (s2 : B.StaysIn h2) : HOk P w H' h2 := fun b u e => by
  refine (ok b u e).stay (fun c v hc q => ?_) (fun _ q => q) fun _ _ q => q
  have : ∃ o', B.get? c = some o' := by
    rcases hc with rfl | hc
    · exact trk c u e
    · exact trk c _ hc
  obtain ⟨o', q'⟩ := this
  exact Heap.two s1 s2 q q'
end
def RaisesTo (X : Cx) (E : St → XK) : Prop := ∀ (pins : List (Addr × Obj)) (σ : St) (H : Hp) (s : Shared) (h' : Heap) (e : Addr) (cls : Value) (args : List Value), Inv X pins σ H s → Heap.MadeExcOf s.heap h' e cls args → E σ cls none H → X.xe (.ref e) { s with heap := h' }
def PassesS (CX : CXT) (X : Cx) (E : St → XK) : Prop := ∀ (pins : List (Addr × Obj)) (σ : St) (H : Hp) (s : Shared) (e : Value) (s' : Shared), Inv X pins σ H s → CX X.stack H s (E σ) e s' → X.xe e s'
section
variable {P : Program} {w : World} {K : PySem.W.Frag} {mg : Str → Option Value} {base : Heap} {N : List Str} {qual : Str} {scope : Scope} {f : Addr} {cd : Value} {A : Around} {outer : List Env} {s₀ : Shared} {H₀ : Hp} {E : XK}
theorem raisesTo_body : RaisesTo (cxOf (CXe P w) P w K mg base N qual scope f cd A outer s₀ H₀ E) (fun _ => E) := by
  intro pins σ H s h' e cls args I hx hE
  have ff := PySem.W.funFrames_hide (as := frs (cxOf (CXe P w) P w K mg base N qual scope f cd A outer s₀ H₀ E).stack) I.stack fun env he a ha => List.mem_filterMap.mpr ⟨env, he, ha⟩
  have stB : (PySem.W.hideAll s.heap (frs (cxOf (CXe P w) P w K mg base N qual scope f cd A outer s₀ H₀ E).stack)).StaysIn s.heap := fun b o e => PySem.W.of_hideAll _ e
  have inB : ∀ b o, s.heap.get? b = some o → b ∉ frs (cxOf (CXe P w) P w K mg base N qual scope f cd A outer s₀ H₀ E).stack → (PySem.W.hideAll s.heap (frs (cxOf (CXe P w) P w K mg base N qual scope f cd A outer s₀ H₀ E).stack)).get? b = some o :=
    fun b o e hb => PySem.W.hideAll_get _ e hb
  refine wpAny_leaves_madeW (outer := outer) I.ok.frames rfl stB ff hx fun h'' t fl tup nt up => ?_
  have cov : Cov (PySem.W.hideAll s.heap (frs (cxOf (CXe P w) P w K mg base N qual scope f cd A outer s₀ H₀ E).stack)) (frs outer) H s₀.heap := by
    refine ⟨fun b o e hb => ?_, fun b u e => ?_⟩
    · obtain ⟨o1, e1⟩ := I.base.there b o e (by intro z; exact absurd (show b ∈ ([] : List Addr) from z) (by simp))
      refine ⟨o1, inB b o1 e1 fun z => ?_⟩
      rcases List.mem_cons.mp (I.stkSub b z) with q | q
      · exact absurd q (Nat.ne_of_lt (Nat.lt_of_lt_of_le (Heap.lt_size e) I.ok.above))
      · exact hb q
    · obtain ⟨ob, eo⟩ := (I.hok b u e).obj
      exact ⟨ob, inB b ob eo fun z => by rw [I.stkFree b z] at e; cases e⟩
  refine ⟨e, cls, .ref t, _, H, rfl, I.os, I.bare, fly_un I.base cov stB fl.1 fun b o hb eo => ?_, fly_ok I.hok cov.trk stB fl.1, fl, cov, hE⟩
  obtain ⟨_, o', e', d⟩ := I.funs.mem hb
  rw [eo] at e'; cases e'
  exact up b o (hx.keeps b o eo) d
end
def tCallS (sp : Sp) (dvs : List V) (E : St → XK) (t : TA) : TE := fun σ H Q => t σ H fun vs H1 => sp (vs ++ dvs) H1 Q (E σ)
def tMethS (C : Addr) (m : Str) (sp : Sp) (dvs : List V) (E : St → XK) (ta : TE) (t : TA) : TE := fun σ H Q => ta σ H fun x H1 => ∃ a dx fs, x = .ref a ∧ H1 a = some (.ins C dx fs) ∧ fs.lookup m = none ∧
  t σ H1 fun vs H2 => sp (x :: (vs ++ dvs)) H2 Q (E σ)
def tMakeS (C : Addr) (sp : Sp) (dvs : List V) (E : St → XK) (t : TA) : TE := fun σ H Q => t σ H fun vs H1 => ∀ x dx, H1 x = none → H1 dx = none → dx ≠ x →
  sp (.ref x :: (vs ++ dvs)) (upd (upd H1 dx (.own x)) x (.ins C dx [])) (fun v H2 => v = .non ∧ Q (.ref x) H2) (E σ)
section
variable {X : Cx} {CX : CXT} {k : Nat} {f C : Addr} {fd : FuncData} {ps : List Str} {sp : Sp} {dvs : List V} {ds : List Value} {E : St → XK} {x m : Str} {p pos apos : Pos} {e o : Expr} {es : List Expr} {ta : TE} {t : TA}
theorem run_fnS {pins : List (Addr × Obj)} {σ : St} {H : Hp} {s : Shared} {Q : VK} {us : List Value} {vs : List V} (F : FnOk X.prog X.w X.K X.mg X.base CX k f fd ps sp) (hr : Room k X.A) (hb : Binds X.K fd ps ds) (hd : Vals dvs ds) (hx : PassesS CX X E)
    (I : Inv X pins σ H s) (r : Vals vs us) (h : sp (vs ++ dvs) H Q (E σ)) : wpAny (model X.prog X.w) X.A (call (.ref f) us) (EP X pins σ Q) X.xe s := by
  have r2 : Vals (vs ++ dvs) (us ++ ds) := r.append hd
  have hl : (us ++ ds).length = ps.length := by rw [← r2.length]; exact F.len _ _ _ _ h
  refine wpAny_call (codeAny_mono (F.run X.A X.stack s H ⟨us, []⟩ (us ++ ds) (vs ++ dvs) Q (E σ) hr I.env0 (hb s us I.kIn hl) r2 h) fun r s' hq => ?_)
  match r, hq with
  | .error e, hq => exact hx pins σ H s e s' I hq
  | .ok (.ret u), hq => exact I.after hq
  | .ok .next, hq => exact False.elim hq
  | .ok .brk, hq => exact False.elim hq
  | .ok .cont, hq => exact False.elim hq
theorem pe_callS (F : FnOk X.prog X.w X.K X.mg X.base CX k f fd ps sp) (hr : Room k X.A) (hg : Gl X x) (hm : X.mg x = some (.ref f)) (hk : PySem.W.keepIn X.K (.ref f) = true) (hb : Binds X.K fd ps ds) (hd : Vals dvs ds) (hx : PassesS CX X E)
    (ha : PA X (e :: es) t) (hdb : (x == ("__debug__" : Str)) = false := by decide) (he : starEach (e :: es) X.env = (false, eval e X.env) :: starEach es X.env := by rfl) (hpl : (backTo pos (starEach es X.env)).any (·.1) = false := by rfl) :
    PE X (.Call (.Name x p) (e :: es) [] pos) (tCallS sp dvs E t) := by
  intro pins s σ H Q I h
  refine wpAny_Call_Name_kw (ld_glob I hg hm (PySem.W.callWith_K (h₀ := X.base) I.ok.mod.kin hk (thn (ha pos pins s σ H _ I h) fun us s1 ⟨vs, H1, I1, r, q⟩ => ⟨I1.kIn, ?_⟩) he hpl) hdb)
  exact run_fnS F hr hb hd hx I1 r q
theorem pe_methS {pl : Sem Bool} (he : PE X o ta) (c : Cls X.K C) (hm : Meth X.K C m f) (F : FnOk X.prog X.w X.K X.mg X.base CX k f fd ps sp) (hr : Room k X.A) (hb : Binds X.K fd ps ds) (hd : Vals dvs ds) (hx : PassesS CX X E) (ha : PA X (e :: es) t)
    (hst : starEach (e :: es) X.env = (false, eval e X.env) :: starEach es X.env := by rfl) (hpl : (backTo pos (starEach es X.env)).any (·.1) = false := by rfl)
    (ht : eval (.Call (.Attribute o m apos) (e :: es) [] pos) X.env = (do
      let ov ← eval o X.env
      standAt apos.atName
      let (f, first) ← holding [ov] (getMethod ov m pl)
      callWith pos f first (backTo pos (starEach (e :: es) X.env)) (backToKw pos (keywordEach [] X.env))) := by rfl) :
    PE X (.Call (.Attribute o m apos) (e :: es) [] pos) (tMethS C m sp dvs E ta t) := by
  intro pins s σ H Q I h
  refine PySem.W.methodCall_KW (pl := pl) (thn (he pins s σ H _ I h) fun u s1 ⟨x, H1, I1, rx, a, dx, fs, ex, ea, l, q⟩ => ?_) ht
  subst ex
  obtain rfl : u = Value.ref a := rx
  refine getmeth_ok I1 ea c hm l (PySem.W.callWith_K (first := [.ref a]) (h₀ := X.base) I.ok.mod.kin hm.kp (thn (ha pos pins s1 σ H1 _ I1 q) fun us s2 ⟨vs, H2, I2, r, q2⟩ => ⟨I2.kIn, ?_⟩) hst hpl)
  exact run_fnS (us := .ref a :: us) (vs := .ref a :: vs) F hr hb hd hx I2 (.cons rfl r) q2
end
def tRaise (C : Addr) (E : St → XK) (t : TA) : TS := fun _ σ H => t σ H fun vs H1 => vs.length ≤ sizeLine ∧ E σ (.ref C) none H1
theorem ps_raise {X : Cx} {C : Addr} {x : Str} {bm : List Value} {newId initId B : String} {e : Expr} {es : List Expr} {t : TA} {np cpos pos : Pos} {E : St → XK} (O : OwnCls x C bm newId X.mg X.base) (FB : ExcBaseFacts B newId initId bm) (hc : X.calm = true) (hg : Gl X x)
    (hx : RaisesTo X E) (ha : PA X (e :: es) t) (he : starEach (e :: es) X.env = (false, eval e X.env) :: starEach es X.env := by rfl) (hpl : (backTo cpos (starEach es X.env)).any (·.1) = false := by rfl) (hd : (x == ("__debug__" : Str)) = false := by decide) :
    PS X (.Raise (some (.Call (.Name x np) (e :: es) [] cpos)) none pos) (tRaise C E t) := by
  intro pins s σ H D I h
  obtain ⟨tl, N, nm, q, bs, hdct, sn, sub, ab, col, dd, k0, k1, k2, k3, k5, mN, hC, hN, hni, T⟩ := O.obj
  refine wpAny_Raise_call_subT (C := C) (nm := nm) (q := q) (N := N) (bs := bs) (bm := tl) (hdct := hdct) (sn := sn) (sub := sub) (ab := ab) (col := col) (dd := dd) (k0 := k0) (k1 := k1) (k2 := k2) (k3 := k3) (k5 := k5)
    FB (mN := mN) (T.hasType FB.hasBase) (I.ok.hd hc) (by rw [he]; show (false || (backTo cpos (starEach es X.env)).any (·.1)) = false; rw [hpl]; rfl) hni (ld_glob I hg O.bound ⟨rfl, ?_⟩ hd)
  have ha' := ha cpos pins s σ H _ I h
  rw [he] at ha' ⊢
  refine Calls.evalArgs_plain (thn ha' fun us s2 ⟨vs, H2, I2, r, hl, hE⟩ => ⟨rfl, by rw [← r.length]; exact hl, I2.bk _ _ hC, hN.keeps I2.bk, T.keeps I2.bk, fun h' e hm => hx pins σ H2 s2 h' e _ _ I2 hm hE⟩)
end L2
namespace L2
open PySem PySem.Spec PyProof.Rows
theorem own_in {K : PySem.W.Frag} {h : Heap} {mg : Str → Option Value} {x : Str} {C : Addr} {bm : List Value} {nid : String} (X : K.In h) (G : h.Ns mainGlobals mg) (e : PySem.W.nsIn K mainGlobals x = some (some (.ref C))) (q : PySem.W.excIn K C bm nid = true) : OwnCls x C bm nid mg h := by
  have G' := PySem.W.mg_of X G e
  unfold PySem.W.excIn at q; split at q
  case h_2 => cases q
  rename_i dd cd sl ho; split at q
  case h_2 => cases q
  rename_i C' tl k0 k1 k2 k3 n k5 hm hs; simp only [Bool.and_eq_true, beq_iff_eq, Bool.not_eq_true'] at q
  obtain ⟨⟨⟨⟨⟨q1, q2⟩, q3⟩, q4⟩, q5⟩, q6⟩ := q; subst q1; subst q2
  obtain ⟨c1, c2, c3, c4, c5, c6, c7, c8, c9, c10, c11⟩ := cd; dsimp only at hm q3 q5 q6; subst hm; subst q3
  have z : sl = #[k0, k1, k2, k3, some (.builtin n), k5] := by obtain ⟨l⟩ := sl; simp only at hs; rw [hs]
  subst z
  exact ⟨G', tl, c4, c1, c5, c2, c6, c7, c8, c9, c10, dd, k0, k1, k2, k3, k5, _, X _ _ ho, .of_isNs (PySem.W.isNs_of_in X q5), PySem.W.nsMap_none_of_in X q5 q6, PySem.W.tail_of_in X q4⟩
end L2
namespace L2
open PySem PySem.Spec PyProof.Rows
abbrev Cx.wishP (X : Cx) (pl : List (Addr × Obj)) (E : Value → Shared → Prop) : Cx := { X with pn := X.pn ++ pl, xe := E }
abbrev Cx.caught (X : Cx) (a : Addr) : Cx := { X with A := X.A.mark (some (.ref a)), calm := false, xe := fun _ _ => False }
section
variable {X : Cx} {pins pl : List (Addr × Obj)} {σ : St} {H : Hp} {s : Shared} {E : Value → Shared → Prop} {a : Addr}
end
def tTry (K : PySem.W.Frag) (c : Value) (tb : (St → XK) → TS) (th : TS) : TS := fun D σ H => tb (fun σ' cls _ H' => PySem.W.exmOne K cls c = some true ∧ th D σ' H') D σ H
end L2
namespace L2
open PySem PySem.Spec PyProof.Rows
section
variable {X : Cx}
theorem call_sumX (b : Bool) (hc : X.calm = true) : CallR X (.builtin "sum") (fun xs H Q => ∃ (a : Addr) (ns : List Int), xs = [.ref a] ∧ SqX X.K b H a (ns.map V.int) ∧ Q (.int ns.sum) H) := by
  intro pins s σ H xs us Q I r h
  obtain ⟨a, ns, rfl, hs, q⟩ := h
  obtain ⟨u, rfl, ru⟩ := r.one
  cases ru
  obtain ⟨its, rv, p⟩ := I.sq hs
  have hi := intsAre_of rv
  obtain ⟨ys, hy⟩ := hi.allInts.items
  have e2 : preSum (numAt ys) ys.size = ns.sum := by
    have e1 : ns = ys.toList.map (·.1) := by
      rw [← nums_intItems, ← hy]; exact (show numsOf its.toArray.toList = ns from hi.numsOf).symm
    rw [preSum_eq, List.take_of_length_le (by simp), e1]
  rw [hy] at p
  cases b with
  | true => exact PySem.W.ktm_sumG (I.ok.hd hc) p fun h' tk t' hk => ⟨.int ns.sum, H, I.kept hk, ⟨t', by rw [e2]⟩, q⟩
  | false => exact sum_intListG (I.ok.hd hc) p fun h' tk t' hk => ⟨.int ns.sum, H, I.kept hk, ⟨t', by rw [e2]⟩, q⟩
def clV : V → Option Value
  | .ty n => some (.type n)
  | .ref a => some (.ref a)
  | _ => none
theorem call_isinst : CallR X (.builtin "isinstance") (fun xs H Q => ∃ x y t c b, xs = [x, y] ∧ clV y = some c ∧ TyOf X.K H x t ∧ PySem.W.kitOne X.K t c = some b ∧ Q (.bl b) H) := by
  intro pins s σ H xs us Q I r h
  obtain ⟨x, y, t, c, b, rfl, hy, ty, e, q⟩ := h
  obtain ⟨u, v, rfl, ru, rv⟩ := r.two
  have ev : v = c := by
    cases y with
    | ty n => cases hy; exact rv
    | ref a => cases hy; exact rv
    | _ => cases hy
  subst ev
  exact isinst_ok I ru ty e fun tk => ⟨.bl b, H, I.tok _, rfl, q⟩
end
end L2
namespace L2
open PySem PySem.Spec PyProof.Rows
section
variable {P : Program} {w : World} {K : PySem.W.Frag} {mg : Str → Option Value} {base : Heap}
end
def CMulB (i j : Int) : Prop := i.natAbs < 2 ^ 4000 ∧ j.natAbs < 2 ^ 4000
theorem op_mulB {X : Cx} : OpR X (binaryOp .Mult) (rI CMulB fun i j => .int (i * j)) := opI fun _ _ _ _ _ _ _ hc q => mul_int q (PySem.IntMulOk.of_bits (Nat.le_trans (intBits_le hc.1) (by decide)) (Nat.le_trans (intBits_le hc.2) (by decide)))
end L2
namespace L2
open PySem PySem.Spec PyProof.Rows
structure CMeth (K : PySem.W.Frag) (C : Addr) (m : Str) (f : Addr) : Prop where
  ex : ∃ mc, PySem.W.readsIn K C mc = true ∧ PySem.W.findCls K (.ref C) mc m = some (.val (.ref f))
  sp : PySem.W.specialIn K (.ref C) "__getattribute__" = some (some (.builtin "type.__getattribute__"))
  kp : PySem.W.keepIn K (.ref f) = true
section
variable {X : Cx} {CX : CXT} {k : Nat} {f C : Addr} {fd : FuncData} {ps : List Str} {sp : Sp} {dvs : List V} {ds : List Value} {E : St → XK} {x m : Str} {p pos apos : Pos} {e o : Expr} {es : List Expr} {ta : TE} {t : TA}
theorem pe_cmeth {pl : Sem Bool} (CM : CMeth X.K C m f) (hg : Gl X x) (hm : X.mg x = some (.ref C)) (F : FnOk X.prog X.w X.K X.mg X.base CX k f fd ps sp) (hr : Room k X.A) (hb : Binds X.K fd ps ds) (hd : Vals dvs ds) (hx : PassesS CX X E) (ha : PA X (e :: es) t)
    (hdb : (x == ("__debug__" : Str)) = false := by decide) (hst : starEach (e :: es) X.env = (false, eval e X.env) :: starEach es X.env := by rfl) (hpl : (backTo pos (starEach es X.env)).any (·.1) = false := by rfl)
    (ht : eval (.Call (.Attribute (.Name x p) m apos) (e :: es) [] pos) X.env = (do
      let ov ← eval (.Name x p) X.env
      standAt apos.atName
      let (f, first) ← holding [ov] (getMethod ov m pl)
      callWith pos f first (backTo pos (starEach (e :: es) X.env)) (backToKw pos (keywordEach [] X.env))) := by rfl) :
    PE X (.Call (.Attribute (.Name x p) m apos) (e :: es) [] pos) (tCallS sp dvs E t) := by
  intro pins s σ H Q I h
  obtain ⟨mc, q1, q2⟩ := CM.ex
  refine PySem.W.methodCall_KW (pl := pl) (ld_glob I hg hm (PySem.W.method_cls I.kIn CM.sp (PySem.W.cls_value I.kIn q1 q2 rfl ?_)) hdb) ht
  have I1 := I.tok (s.toks + 1)
  refine PySem.W.callWith_K (first := []) (h₀ := X.base) I.ok.mod.kin CM.kp (thn (ha pos pins _ σ H _ I1 h) fun us s2 ⟨vs, H2, I2, r, q⟩ => ⟨I2.kIn, ?_⟩) hst hpl
  exact run_fnS F hr hb hd hx I2 r q
theorem run_makeS {pins : List (Addr × Obj)} {σ : St} {H : Hp} {s : Shared} {Q : VK} {us : List Value} {vs : List V} (M : Mk X.K C f) (F : FnOk X.prog X.w X.K X.mg X.base CX k f fd ps sp) (hr : Room (k + 1) X.A) (hb : Binds X.K fd ps ds) (hd : Vals dvs ds)
    (hx : PassesS CX X E) (I : Inv X pins σ H s) (r : Vals vs us)
    (h : ∀ x dx, H x = none → H dx = none → dx ≠ x → sp (.ref x :: (vs ++ dvs)) (upd (upd H dx (.own x)) x (.ins C dx [])) (fun v H2 => v = .non ∧ Q (.ref x) H2) (E σ)) :
    wpAny (model X.prog X.w) X.A (call (.ref C) us) (EP X pins σ Q) X.xe s := by
  have hq := h (s.heap.objs.size + 1) s.heap.objs.size (I.hok.fresh (Nat.le_succ _)) (I.hok.fresh (Nat.le_refl _)) (Nat.ne_of_lt (Nat.lt_succ_self _))
  have I2 := Inv.made (C := C) I
  have r2 : Vals (V.ref (s.heap.objs.size + 1) :: (vs ++ dvs)) (Value.ref (s.heap.objs.size + 1) :: (us ++ ds)) := .cons rfl (r.append hd)
  have hl : (Value.ref (s.heap.objs.size + 1) :: us ++ ds).length = ps.length := by
    have e := r2.length
    rw [F.len _ _ _ _ hq] at e
    exact e.symm
  refine wpAny_call (make_map (f := f) I.kIn M.makes M.init (beq_iff_eq.mp M.fn) (codeAny_mono (F.run _ X.stack _ _ ⟨Value.ref (s.heap.objs.size + 1) :: us, []⟩ (Value.ref (s.heap.objs.size + 1) :: (us ++ ds)) _ _ (E σ) (hr.make C us [])
    (I2.env0.make C us []) (hb _ (Value.ref (s.heap.objs.size + 1) :: us) I2.kIn hl) r2 hq) fun r s' hq' => ?_))
  match r, hq' with
  | .error e, hq' => exact hx pins σ _ _ e s' I2 hq'
  | .ok (.ret u), hq' =>
    obtain ⟨v, H', I3, rv, ev, q3⟩ := I2.after hq'
    subst ev
    exact ⟨rv, ⟨V.ref (s.heap.objs.size + 1), H', I3, rfl, q3⟩⟩
  | .ok .next, hq' => exact False.elim hq'
  | .ok .brk, hq' => exact False.elim hq'
  | .ok .cont, hq' => exact False.elim hq'
theorem pe_makeS (M : Mk X.K C f) (F : FnOk X.prog X.w X.K X.mg X.base CX k f fd ps sp) (hr : Room (k + 1) X.A) (hg : Gl X x) (hm : X.mg x = some (.ref C)) (hb : Binds X.K fd ps ds) (hd : Vals dvs ds) (hx : PassesS CX X E)
    (ha : PA X (e :: es) t) (hdb : (x == ("__debug__" : Str)) = false := by decide) (he : starEach (e :: es) X.env = (false, eval e X.env) :: starEach es X.env := by rfl) (hpl : (backTo pos (starEach es X.env)).any (·.1) = false := by rfl) :
    PE X (.Call (.Name x p) (e :: es) [] pos) (tMakeS C sp dvs E t) := by
  intro pins s σ H Q I h
  refine wpAny_Call_Name_kw (ld_glob I hg hm (PySem.W.callWith_K (h₀ := X.base) I.ok.mod.kin M.kp (thn (ha pos pins s σ H _ I h) fun us s1 ⟨vs, H1, I1, r, q⟩ => ⟨I1.kIn, ?_⟩) he hpl) hdb)
  exact run_makeS M F hr hb hd hx I1 r q
end
end L2
set_option Elab.async false
set_option linter.all false
set_option maxRecDepth 100000
namespace L2
open PySem PySem.Spec PyProof.Rows
structure FunD (K : PySem.W.Frag) (x qual : Str) (st : Stmt) (dV : Value) (f : Addr) (fd : FuncData) : Prop where
  ex : ∃ (oc : Value) (od : Option Addr) (kV doc pm : Value) (an : Option Addr) (cdv ct : Value) (osl : Array (Option Value)),
    fd = PySem.W.fnOf x qual (defArgs st) (defBody st) (defScope st) dV kV doc pm an cdv ct ∧ K.lookup f = some ⟨oc, od, .func fd, osl⟩ ∧ PySem.W.codeIn K cdv qual = true
section
variable {P : Program} {w : World} {K : PySem.W.Frag} {mg : Str → Option Value} {base : Heap} {x qual : Str} {st : Stmt} {dV : Value} {f : Addr} {fd : FuncData} {N ps : List Str} {k : Nat} {sp : Sp}
theorem FunD.okN (F : FunD K x qual st dV f fd) (S : FnScope N ps (defScope st)) (len : ∀ vs H Q E, sp vs H Q E → vs.length = ps.length)
    (hbody : ∀ (cdv : Value) (A : Around) (outer : List Env) (s : Shared) (H : Hp) (vs : List V) (Q : VK) (E : XK), Room k (A.deeper (envOfC qual (defScope st) s.heap.objs.size f cdv)) → sp vs H Q E →
      ∃ t, PSs (cxOf CX0 P w K mg base N qual (defScope st) f cdv A outer s H E).nox (defBody st) t ∧ t { nx := fun _ H' => Q .non H', rt := Q } (start N vs) H) : FnOk P w K mg base CX0 (k + 1) f fd ps sp := by
  obtain ⟨oc, od, kV, doc, pm, an, cdv, ct, osl, rfl, lk, hcd⟩ := F.ex
  refine fn_of lk hcd S len fun A outer s H vs Q E hr hsp => ?_
  obtain ⟨t, h, q⟩ := hbody cdv A outer s H vs Q E hr hsp
  exact ⟨t, h.nox, q⟩
theorem FunD.okX (F : FunD K x qual st dV f fd) (S : FnScope N ps (defScope st)) (len : ∀ vs H Q E, sp vs H Q E → vs.length = ps.length)
    (hbody : ∀ (cdv : Value) (A : Around) (outer : List Env) (s : Shared) (H : Hp) (vs : List V) (Q : VK) (E : XK), Room k (A.deeper (envOfC qual (defScope st) s.heap.objs.size f cdv)) → sp vs H Q E →
      ∃ t, PSs (cxOf (CXe P w) P w K mg base N qual (defScope st) f cdv A outer s H E) (defBody st) t ∧ t { nx := fun _ H' => Q .non H', rt := Q } (start N vs) H) : FnOk P w K mg base (CXe P w) (k + 1) f fd ps sp := by
  obtain ⟨oc, od, kV, doc, pm, an, cdv, ct, osl, rfl, lk, hcd⟩ := F.ex
  exact fn_of lk hcd S len fun A outer s H vs Q E hr hsp => hbody cdv A outer s H vs Q E hr hsp
theorem FunD.binds (F : FunD K x qual st .none f fd)
    (h : ∀ (kV doc pm : Value) (an : Option Addr) (cdv ct : Value) (us : List Value), us.length = ps.length → bindArgs (PySem.W.fnOf x qual (defArgs st) (defBody st) (defScope st) .none kV doc pm an cdv ct) ⟨us, []⟩ = pure (ps.zip us)) : Binds K fd ps [] := by
  obtain ⟨oc, od, kV, doc, pm, an, cdv, ct, osl, rfl, lk, hcd⟩ := F.ex
  exact .all (h kV doc pm an cdv ct)
theorem funD_mk {oc : Value} {od an : Option Addr} {osl : Array (Option Value)} {kV doc pm cdv ct : Value} (l : K.lookup f = some ⟨oc, od, .func (PySem.W.fnOf x qual (defArgs st) (defBody st) (defScope st) dV kV doc pm an cdv ct), osl⟩)
    (c : PySem.W.codeIn K cdv qual = true) : FunD K x qual st dV f (PySem.W.fnOf x qual (defArgs st) (defBody st) (defScope st) dV kV doc pm an cdv ct) := ⟨⟨oc, od, kV, doc, pm, an, cdv, ct, osl, rfl, l, c⟩⟩
end
structure Cal (P : Program) (w : World) (K : PySem.W.Frag) (mg : Str → Option Value) (base : Heap) (CX : CXT) (k : Nat) (x : Str) (ps : List Str) (ds : List Value) (sp : Sp) : Prop where
  ex : ∃ f fd, FnOk P w K mg base CX k f fd ps sp ∧ Binds K fd ps ds ∧ PySem.W.keepIn K (.ref f) = true ∧ mg x = some (.ref f)
structure MCal (P : Program) (w : World) (K : PySem.W.Frag) (mg : Str → Option Value) (base : Heap) (CX : CXT) (k : Nat) (C : Addr) (m : Str) (ps : List Str) (ds : List Value) (sp : Sp) : Prop where
  ex : ∃ f fd, FnOk P w K mg base CX k f fd ps sp ∧ Binds K fd ps ds ∧ Meth K C m f
  cl : Cls K C
structure Mak (P : Program) (w : World) (K : PySem.W.Frag) (mg : Str → Option Value) (base : Heap) (CX : CXT) (k : Nat) (x : Str) (C : Addr) (ps : List Str) (ds : List Value) (sp : Sp) : Prop where
  ex : ∃ f fd, FnOk P w K mg base CX k f fd ps sp ∧ Binds K fd ps ds ∧ Mk K C f
  at_ : mg x = some (.ref C)
structure CCal (P : Program) (w : World) (K : PySem.W.Frag) (mg : Str → Option Value) (base : Heap) (CX : CXT) (k : Nat) (x : Str) (m : Str) (ps : List Str) (ds : List Value) (sp : Sp) : Prop where
  ex : ∃ C f fd, FnOk P w K mg base CX k f fd ps sp ∧ Binds K fd ps ds ∧ CMeth K C m f ∧ mg x = some (.ref C)
structure Exc (K : PySem.W.Frag) (mg : Str → Option Value) (base : Heap) (x : Str) (C : Addr) : Prop where
  ex : ∃ bm nid init B, OwnCls x C bm nid mg base ∧ ExcBaseFacts B nid init bm
  at_ : mg x = some (.ref C)
  me : PySem.W.exmOne K (.ref C) (.ref C) = some true
theorem pass00 {X : Cx} : PassesS CX0 X (fun _ => E0) := fun _ _ _ _ _ _ _ h => h.elim
theorem passF {X : Cx} {P : Program} {w : World} : PassesS (CXe P w) X (fun _ => E0) := by
  rintro _ _ _ _ _ _ _ ⟨_, _, _, _, _, _, _, _, _, _, _, _, h⟩
  exact h.elim
section
variable {X : Cx} {CX : CXT} {k j : Nat} {C : Addr} {ps : List Str} {sp : Sp} {dvs : List V} {ds : List Value} {E : St → XK} {x m : Str} {p pos apos : Pos} {e o : Expr} {es : List Expr} {ta : TE} {t : TA}
theorem pe_c (c : Cal X.prog X.w X.K X.mg X.base CX k x ps ds sp) (hr : Room j X.A) (hx : PassesS CX X E) (hd : Vals dvs ds) (ha : PA X (e :: es) t) (hk : k ≤ j := by decide) (hg : Gl X x := by rfl)
    (hdb : (x == ("__debug__" : Str)) = false := by decide) (he : starEach (e :: es) X.env = (false, eval e X.env) :: starEach es X.env := by rfl) (hpl : (backTo pos (starEach es X.env)).any (·.1) = false := by rfl) :
    PE X (.Call (.Name x p) (e :: es) [] pos) (tCallS sp dvs E t) := by
  obtain ⟨f, fd, F, hb, hk', hm⟩ := c.ex
  exact pe_callS F (hr.mono hk) hg hm hk' hb hd hx ha hdb he hpl
theorem pe_m {pl : Sem Bool} (c : MCal X.prog X.w X.K X.mg X.base CX k C m ps ds sp) (he : PE X o ta) (hr : Room j X.A) (hx : PassesS CX X E) (hd : Vals dvs ds) (ha : PA X (e :: es) t) (hk : k ≤ j := by decide)
    (hst : starEach (e :: es) X.env = (false, eval e X.env) :: starEach es X.env := by rfl) (hpl : (backTo pos (starEach es X.env)).any (·.1) = false := by rfl)
    (ht : eval (.Call (.Attribute o m apos) (e :: es) [] pos) X.env = (do
      let ov ← eval o X.env
      standAt apos.atName
      let (f, first) ← holding [ov] (getMethod ov m pl)
      callWith pos f first (backTo pos (starEach (e :: es) X.env)) (backToKw pos (keywordEach [] X.env))) := by rfl) :
    PE X (.Call (.Attribute o m apos) (e :: es) [] pos) (tMethS C m sp dvs E ta t) := by
  obtain ⟨f, fd, F, hb, hm⟩ := c.ex
  exact pe_methS he c.cl hm F (hr.mono hk) hb hd hx ha hst hpl ht
theorem pe_m0 {pl : Sem Bool} (c : MCal X.prog X.w X.K X.mg X.base CX k C m ps ds sp) (he : PE X o ta) (hr : Room j X.A) (hx : PassesS CX X E) (hd : Vals dvs ds) (hk : k ≤ j := by decide)
    (ht : eval (.Call (.Attribute o m apos) [] [] pos) X.env = (do
      let ov ← eval o X.env
      standAt apos.atName
      let (f, first) ← holding [ov] (getMethod ov m pl)
      callWith pos f first (backTo pos (starEach [] X.env)) (backToKw pos (keywordEach [] X.env))) := by rfl) :
    PE X (.Call (.Attribute o m apos) [] [] pos) (tMethS C m sp dvs E ta tNil) := by
  obtain ⟨f, fd, F, hb, hm⟩ := c.ex
  intro pins s σ H Q I h
  refine PySem.W.methodCall_KW (pl := pl) (thn (he pins s σ H _ I h) fun u s1 ⟨x, H1, I1, rx, a, dx, fs, ex, ea, l, q⟩ => ?_) ht
  subst ex
  obtain rfl : u = Value.ref a := rx
  refine getmeth_ok I1 ea c.cl hm l ?_
  exact PySem.W.callWith_K0 (first := [.ref a]) I1.kIn hm.kp (run_fnS (us := [.ref a]) (vs := [.ref a]) F (hr.mono hk) hb hd hx I1 (.cons rfl .nil) q)
theorem pe_mk (c : Mak X.prog X.w X.K X.mg X.base CX k x C ps ds sp) (hr : Room j X.A) (hx : PassesS CX X E) (hd : Vals dvs ds) (ha : PA X (e :: es) t) (hk : k + 1 ≤ j := by decide) (hg : Gl X x := by rfl)
    (hdb : (x == ("__debug__" : Str)) = false := by decide) (he : starEach (e :: es) X.env = (false, eval e X.env) :: starEach es X.env := by rfl) (hpl : (backTo pos (starEach es X.env)).any (·.1) = false := by rfl) :
    PE X (.Call (.Name x p) (e :: es) [] pos) (tMakeS C sp dvs E t) := by
  obtain ⟨f, fd, F, hb, hm⟩ := c.ex
  exact pe_makeS hm F (hr.mono hk) hg c.at_ hb hd hx ha hdb he hpl
theorem pe_mk0 (c : Mak X.prog X.w X.K X.mg X.base CX k x C ps ds sp) (hr : Room j X.A) (hx : PassesS CX X E) (hd : Vals dvs ds) (hk : k + 1 ≤ j := by decide) (hg : Gl X x := by rfl) (hdb : (x == ("__debug__" : Str)) = false := by decide) :
    PE X (.Call (.Name x p) [] [] pos) (tMakeS C sp dvs E tNil) := by
  obtain ⟨f, fd, F, hb, hm⟩ := c.ex
  intro pins s σ H Q I h
  refine wpAny_Call_Name_kw (ld_glob I hg c.at_ ?_ hdb)
  exact PySem.W.callWith_K0 I.kIn hm.kp (run_makeS (us := []) hm F (hr.mono hk) hb hd hx I .nil h)
theorem pe_cm {pl : Sem Bool} (c : CCal X.prog X.w X.K X.mg X.base CX k x m ps ds sp) (hr : Room j X.A) (hx : PassesS CX X E) (hd : Vals dvs ds) (ha : PA X (e :: es) t) (hk : k ≤ j := by decide) (hg : Gl X x := by rfl)
    (hdb : (x == ("__debug__" : Str)) = false := by decide) (hst : starEach (e :: es) X.env = (false, eval e X.env) :: starEach es X.env := by rfl) (hpl : (backTo pos (starEach es X.env)).any (·.1) = false := by rfl)
    (ht : eval (.Call (.Attribute (.Name x p) m apos) (e :: es) [] pos) X.env = (do
      let ov ← eval (.Name x p) X.env
      standAt apos.atName
      let (f, first) ← holding [ov] (getMethod ov m pl)
      callWith pos f first (backTo pos (starEach (e :: es) X.env)) (backToKw pos (keywordEach [] X.env))) := by rfl) :
    PE X (.Call (.Attribute (.Name x p) m apos) (e :: es) [] pos) (tCallS sp dvs E t) := by
  obtain ⟨C, f, fd, F, hb, hm, hmg⟩ := c.ex
  exact pe_cmeth hm hg hmg F (hr.mono hk) hb hd hx ha hdb hst hpl ht
theorem ps_rz {np cpos : Pos} (x' : Exc X.K X.mg X.base x C) (hc : X.calm = true) (hg : Gl X x) (hx : RaisesTo X E) (ha : PA X (e :: es) t) (he : starEach (e :: es) X.env = (false, eval e X.env) :: starEach es X.env := by rfl) (hpl : (backTo cpos (starEach es X.env)).any (·.1) = false := by rfl) (hd : (x == ("__debug__" : Str)) = false := by decide) :
    PS X (.Raise (some (.Call (.Name x np) (e :: es) [] cpos)) none pos) (tRaise C E t) := by
  obtain ⟨bm, nid, init, B, O, FB⟩ := x'.ex
  exact ps_raise O FB hc hg hx ha he hpl hd
end
theorem pe_globI {X : Cx} {x : Str} {i : Int} {pos : Pos} (hm : ∃ tk, X.mg x = some (.int i tk)) (hg : Gl X x) (hd : (x == ("__debug__" : Str)) = false := by decide) : PE X (.Name x pos) (tC (.int i)) := by
  obtain ⟨tk, e⟩ := hm
  exact pe_glob hg e ⟨tk, rfl⟩ hd
def CDivB (_ j : Int) : Prop := j ≠ 0 ∧ j.natAbs < 2 ^ 8999
theorem op_fdivB {X : Cx} : OpR X (binaryOp .FloorDiv) (rI CDivB fun i j => .int (i.fdiv j)) := opI fun _ j _ _ _ _ _ hc q => floordiv_int hc.1 q (.inl (PyProof.noPylong_of_log2 (by
  have h0 : j.natAbs ≠ 0 := fun z => hc.1 (Int.natAbs_eq_zero.mp z)
  exact Nat.lt_of_lt_of_le ((Nat.log2_lt h0).mpr hc.2) (by decide))))
theorem cEq {a b : Int} {A B : Prop} (h1 : a = b → A) (h2 : a ≠ b → B) : if decide (V.int a = V.int b) = true then A else B := by
  by_cases h : a = b
  · rw [decide_eq_true (congrArg V.int h)]; exact iteT (h1 h)
  · rw [decide_eq_false fun z => h (by injection z)]; exact iteF (h2 h)
theorem cNe {a b : Int} {A B : Prop} (h1 : a ≠ b → A) (h2 : a = b → B) : if (!decide (V.int a = V.int b)) = true then A else B := by
  by_cases h : a = b
  · rw [decide_eq_true (congrArg V.int h)]; exact iteF (h2 h)
  · rw [decide_eq_false fun z => h (by injection z)]; exact iteT (h1 h)
theorem cD {c : Prop} [Decidable c] {A B : Prop} (h1 : c → A) (h2 : ¬ c → B) : if decide c = true then A else B := by
  by_cases h : c
  · rw [decide_eq_true h]; exact iteT (h1 h)
  · rw [decide_eq_false h]; exact iteF (h2 h)
theorem cN {c : Prop} [Decidable c] {A B : Prop} (h1 : ¬ c → A) (h2 : c → B) : if (!decide c) = true then A else B := by
  by_cases h : c
  · rw [decide_eq_true h]; exact iteF (h2 h)
  · rw [decide_eq_false h]; exact iteT (h1 h)
theorem cNB {b : Bool} {A B : Prop} (h1 : b = false → A) (h2 : b = true → B) : if (!b) = true then A else B := by
  cases b with
  | true => exact iteF (h2 rfl)
  | false => exact iteT (h1 rfl)
end L2
namespace L2
open PySem PySem.Spec PyProof.Rows
mutual
inductive Rds (K : PySem.W.Frag) (H : Hp) : V → PyData → Prop
  | non : Rds K H .non .none
  | bl (b : Bool) : Rds K H (.bl b) (.bool b)
  | int (i : Int) : Rds K H (.int i) (.int i)
  | str (x : Str) : Rds K H (.str x) (.str x)
  | tup {a : Addr} {xs : List V} {ds : List PyData} : SqT K H a xs → RdsAll K H xs ds → Rds K H (.ref a) (.tuple ds)
  | lst {a : Addr} {xs : List V} {ds : List PyData} : SqL K H a xs → RdsAll K H xs ds → Rds K H (.ref a) (.list ds)
inductive RdsAll (K : PySem.W.Frag) (H : Hp) : List V → List PyData → Prop
  | nil : RdsAll K H [] []
  | cons {x : V} {xs : List V} {d : PyData} {ds : List PyData} : Rds K H x d → RdsAll K H xs ds → RdsAll K H (x :: xs) (d :: ds)
end
section
variable {X : Cx} {pins : List (Addr × Obj)} {σ : St} {H : Hp} {s : Shared}
mutual
theorem Inv.rds (I : Inv X pins σ H s) : ∀ {v : V} {d : PyData} {u : Value}, Rds X.K H v d → RelV v u → ∃ as, Reads s.heap u d as
  | _, _, _, .non, r => by cases (show _ = Value.none from r); exact ⟨_, .none⟩
  | _, _, _, .bl b, r => by cases (show _ = Value.bool b from r); exact ⟨_, .bool b⟩
  | _, _, _, .int i, r => by obtain ⟨t, rfl⟩ := r; exact ⟨_, .int i t⟩
  | _, _, _, .str x, r => by obtain ⟨t, rfl⟩ := r; exact ⟨_, .str x t⟩
  | _, _, _, .tup (a := a) h hs, r => by
    cases (show _ = Value.ref a from r)
    obtain ⟨its, rv, ⟨o, ho, hc, n, hd⟩, _⟩ := I.tuple h
    obtain ⟨as, q⟩ := Inv.rdsAll I hs rv
    exact ⟨as, .tuple ho hc hd (by simpa using q)⟩
  | _, _, _, .lst (a := a) h hs, r => by
    cases (show _ = Value.ref a from r)
    obtain ⟨its, rv, p, _⟩ := I.list h
    obtain ⟨o, ho, hc, n, hd⟩ := p.isList
    obtain ⟨as, q⟩ := Inv.rdsAll I hs rv
    exact ⟨_, .list ho hc hd (by simpa using q)⟩
theorem Inv.rdsAll (I : Inv X pins σ H s) : ∀ {vs : List V} {ds : List PyData} {us : List Value}, RdsAll X.K H vs ds → Vals vs us → ∃ as, ReadsAll s.heap us ds as
  | _, _, _, .nil, .nil => ⟨_, .nil⟩
  | _, _, _, .cons h hs, .cons r rs => by
    obtain ⟨as, q⟩ := Inv.rds I h r
    obtain ⟨bs, p⟩ := Inv.rdsAll I hs rs
    exact ⟨_, .cons q p⟩
end
end
section
variable {X : Cx}
theorem op_eqD (hu : X.A.units + 64 < cLine) : OpR X (compareOp .Eq) (fun x y H Q => ∃ d e, Rds X.K H x d ∧ Rds X.K H y e ∧ SeqAt.shaped d = true ∧ SeqAt.shaped e = true ∧ Q (.bl (PyData.eqv d e)) H) := by
  intro pins s σ H x y u v Q I rx ry h
  obtain ⟨d, e, hd, he, s1, s2, q⟩ := h
  obtain ⟨as, ra⟩ := I.rds hd rx
  obtain ⟨bs, rb⟩ := I.rds he ry
  exact eq_dataH ra rb s1 s2 hu ⟨.bl (PyData.eqv d e), H, I, rfl, q⟩
theorem op_neD (hu : X.A.units + 64 < cLine) : OpR X (compareOp .NotEq) (fun x y H Q => ∃ d e, Rds X.K H x d ∧ Rds X.K H y e ∧ SeqAt.shaped d = true ∧ SeqAt.shaped e = true ∧ Q (.bl (!PyData.eqv d e)) H) := by
  intro pins s σ H x y u v Q I rx ry h
  obtain ⟨d, e, hd, he, s1, s2, q⟩ := h
  obtain ⟨as, ra⟩ := I.rds hd rx
  obtain ⟨bs, rb⟩ := I.rds he ry
  exact ne_dataH ra rb s1 s2 hu ⟨.bl (!PyData.eqv d e), H, I, rfl, q⟩
end
theorem eqv_ints : ∀ ns ms : List Int, PyData.eqvAll (ns.map PyData.int) (ms.map PyData.int) = decide (ns = ms)
  | [], [] => by simp [PyData.eqvAll]
  | [], _ :: _ => by simp [PyData.eqvAll]
  | _ :: _, [] => by simp [PyData.eqvAll]
  | a :: r, b :: t => by
    simp only [List.map_cons, PyData.eqvAll, PyData.eqv, eqv_ints r t]
    by_cases h : a = b <;> by_cases h' : r = t <;> simp [h, h']
section
variable {X : Cx}
def rEqT (K : PySem.W.Frag) : R2 := fun x y H Q => ∃ (a b : Addr) (xs ys : List Int), x = .ref a ∧ y = .ref b ∧ SqT K H a (xs.map V.int) ∧ SqT K H b (ys.map V.int) ∧ Q (.bl (decide (xs = ys))) H
def rNeT (K : PySem.W.Frag) : R2 := fun x y H Q => ∃ (a b : Addr) (xs ys : List Int), x = .ref a ∧ y = .ref b ∧ SqT K H a (xs.map V.int) ∧ SqT K H b (ys.map V.int) ∧ Q (.bl (!decide (xs = ys))) H
end
end L2
namespace HT
open PySem PyProof.Rows
section
open PySem.SeqAt
open PySem.AutoSeq1 (wpAny_loadPart')
open PySem.MeetsSeq PySem.MeetsSeq2 PySem.MeetsSeq3
end
end HT
namespace L2
open PySem PySem.Spec PyProof.Rows
variable {X : Cx}
def rGtT (K : PySem.W.Frag) : R2 := fun x y H Q => ∃ (a b : Addr) (ns ms : List Int), x = .ref a ∧ y = .ref b ∧ SqT K H a (ns.map V.int) ∧ SqT K H b (ms.map V.int) ∧ Q (.bl (HT.lexLt ms ns)) H
end L2
namespace PySem
namespace F
end F
end PySem
namespace L2
open PySem PySem.Spec PyProof.Rows PySem.MeetsSeq
section
variable {prog : Program} {w : World} {A : Around} {E : Value → Shared → Prop} {s : Shared}
def IsRvd (h : Heap) (a t : Addr) (i : Int) : Prop := ∃ o, h.get? a = some o ∧ o.cls = .type "reversed" ∧ o.data = .fields #[.ref t, rawInt i]
end
def Itv (K : PySem.W.Frag) (a : Addr) (n : Nat) : It :=
  ⟨fun i H => i < n ∧ ∃ xs, SqT K H a xs ∧ xs.length = n, fun i H x H' => H' = H ∧ ∀ xs, SqT K H a xs → xs[n - 1 - i]? = some x, fun i H => i = n⟩
def iRvd (K : PySem.W.Frag) (ta : TA) : TI := fun σ H R => ta σ H fun vs H1 => ∃ a xs, vs = [.ref a] ∧ SqT K H1 a xs ∧ R (Itv K a xs.length) H1
theorem walk_comp {J : It} {n : Nat} {P : Nat → V → Hp → Prop} {mp : List (Option Nat)} {wi : TI} {g : TG} {tc : TT} {te : TE} {σ : St} {H H1 : Hp} {Q : VK} (S : Walk J H1 n P) (hn : n ≤ 1000) (hwi : ∀ R, R J H1 → wi σ H R) (Sv : St → Prop) (p : Nat → Bool) (f : Nat → V) (h0 : Sv (st0 mp σ))
    (step : ∀ i x σ' H2, i < n → Sv σ' → Same H1 H2 → P i x H2 → ∀ (Ny : V → St → Hp → Prop) (Nn : St → Hp → Prop), (∀ σ2 H5, Sv σ2 → Same H2 H5 → p i = true → Ny (f i) σ2 H5) → (∀ σ2 H4, Sv σ2 → Same H2 H4 → p i = false → Nn σ2 H4) →
      g x σ' H2 fun σ2 H3 => tc σ2 H3 fun b H4 => if b = true then te σ2 H4 fun v H5 => Ny v σ2 H5 else Nn σ2 H4)
    (hQ : ∀ D H', Same H1 H' → H' D = some (.lst (((List.range n).filter p).map f)) → Q (.ref D) H') : tComp mp wi g tc te σ H Q := by
  unfold tComp
  refine hwi _ fun D hD => ?_
  exact comp_vals S hD (Nat.le_trans hn (by rw [sizeLine_eq]; decide)) Sv p f h0 step fun H' e hL => hQ D H' e hL
end L2
namespace L2
open PySem PySem.Spec PyProof.Rows
def blk1 (X : Cx) (N : List Str) (scope : Scope) (cl : List (Str × Addr)) (own : Str) (C : Addr) (s : Shared) (H : Hp) (fp : List Addr) : Cx :=
  { X with N := N, s₀ := s, H₀ := H, env := compEnvC scope ((own, C + 1) :: cl) C X.env, outer := X.stack, ex := fp, fn := fun x => decide (x = own), pn := [], xe := fun _ _ => False }
structure Blk1 (X : Cx) (N : List Str) (scope : Scope) (cl : List (Str × Addr)) (own : Str) (mp : List (Option Nat)) : Prop where
  clos : closureFor scope X.env = pure cl
  cf : ∀ n, cellsFrom n scope.names cl = (own, n) :: cl
  pc : ∀ h : Heap, pushCells h scope.names = h.push { cls := .type "cell", data := .cell none }
  kind : scope.kind = .function
  nms : ∀ y ∈ scope.names, y.2 = .local → scope.names.lookup y.1 = some .local
  nd : N.Nodup
  sub : ∀ x c, cl.lookup x = some c → X.env.cells.lookup x = some c
  has : ∀ x, ((relabel scope X.env).names.lookup x = some .cell ∨ (relabel scope X.env).names.lookup x = some .free) → x = own ∨ ∃ c, cl.lookup x = some c
  len : mp.length = N.length
  map : ∀ (i j : Nat) (x : Str), mp[i]? = some (some j) → N[i]? = some x → x ≠ own ∧ X.N[j]? = some x ∧ (X.env.scope.names.lookup x = some .cell ∨ X.env.scope.names.lookup x = some .free) ∧
    ((relabel scope X.env).names.lookup x = some .cell ∨ (relabel scope X.env).names.lookup x = some .free)
theorem look_own {own x : Str} {n c : Addr} {cl : List (Str × Addr)} (h : ((own, n) :: cl).lookup x = some c) : (x = own ∧ c = n) ∨ (x ≠ own ∧ cl.lookup x = some c) := by
  rw [List.lookup_cons] at h
  cases q : (x == own) with
  | true => rw [q] at h; exact .inl ⟨eq_of_beq q, (Option.some.inj h).symm⟩
  | false =>
    rw [q] at h
    have nz : x ≠ own := fun z => by
      rw [z, beq_self_eq_true] at q
      cases q
    exact .inr ⟨nz, h⟩
theorem look_at {own : Str} {n : Addr} {cl : List (Str × Addr)} : ((own, n) :: cl).lookup own = some n := by
  rw [List.lookup_cons, beq_self_eq_true]
theorem look_ne {own x : Str} {n : Addr} {cl : List (Str × Addr)} (h : x ≠ own) : ((own, n) :: cl).lookup x = cl.lookup x := by
  rw [List.lookup_cons]
  cases q : (x == own) with
  | true => exact absurd (eq_of_beq q) h
  | false => rfl
section
variable {X : Cx} {pins : List (Addr × Obj)} {σ : St} {H : Hp} {s : Shared} {N : List Str} {scope : Scope} {cl : List (Str × Addr)} {own : Str} {mp : List (Option Nat)} {fp : List Addr}
end
end L2
namespace L2
open PySem PySem.Spec PyProof.Rows
def SubC (cl cells : List (Str × Addr)) : Prop := ∀ x c, cl.lookup x = some c → cells.lookup x = some c
theorem subc_nil {cells : List (Str × Addr)} : SubC [] cells := fun _ _ h => nomatch h
theorem subc_cons {cl cells : List (Str × Addr)} {a : Str} {n : Addr} (h : cells.lookup a = some n) (t : SubC cl cells) : SubC ((a, n) :: cl) cells := fun x c e => by
  rcases look_own e with ⟨rfl, rfl⟩ | ⟨_, e⟩
  · exact h
  · exact t x c e
theorem look_in : ∀ {cl : List (Str × Addr)} {x : Str}, x ∈ cl.map (·.1) → ∃ c, cl.lookup x = some c
  | (a, n) :: cl, x, h => by
    by_cases q : x = a
    · exact ⟨n, by rw [q]; exact look_at⟩
    · rcases List.mem_cons.mp h with z | z
      · exact absurd z q
      · obtain ⟨c, e⟩ := look_in z
        exact ⟨c, (look_ne q).trans e⟩
theorem fr_of {names : List (Str × NameKind)} {cl : List (Str × Addr)} {fs : List Str} (e : cl.map (·.1) = fs) (h : ∀ y ∈ names, y.2 = .free → y.1 ∈ fs) : ∀ y ∈ names, y.2 = .free → ∃ c, cl.lookup y.1 = some c :=
  fun y hy hf => look_in (by rw [e]; exact h y hy hf)
def MapC (X : Cx) (scope : Scope) (mp : List (Option Nat)) (N : List Str) : Prop := ∀ (i j : Nat) (x : Str), mp[i]? = some (some j) → N[i]? = some x → X.N[j]? = some x ∧ (X.env.scope.names.lookup x = some .cell ∨ X.env.scope.names.lookup x = some .free) ∧ scope.names.lookup x = some .free
theorem mapc_nil {X : Cx} {scope : Scope} {N : List Str} : MapC X scope [] N := fun i j x h => by simp at h
theorem mapc_none {X : Cx} {scope : Scope} {mp : List (Option Nat)} {N : List Str} {y : Str} (t : MapC X scope mp N) : MapC X scope (none :: mp) (y :: N) := fun i j x h1 h2 => by
  cases i with
  | zero => cases h1
  | succ i => exact t i j x (by simpa using h1) (by simpa using h2)
theorem mapc_some {X : Cx} {scope : Scope} {mp : List (Option Nat)} {N : List Str} {y : Str} {k : Nat} (h : X.N[k]? = some y) (hc : X.env.scope.names.lookup y = some .cell ∨ X.env.scope.names.lookup y = some .free) (hf : scope.names.lookup y = some .free)
    (t : MapC X scope mp N) : MapC X scope (some k :: mp) (y :: N) := fun i j x h1 h2 => by
  cases i with
  | zero =>
    simp only [List.getElem?_cons_zero, Option.some.injEq] at h1 h2
    subst h1 h2
    exact ⟨h, hc, hf⟩
  | succ i => exact t i j x (by simpa using h1) (by simpa using h2)
theorem walk_compF {J : It} {n : Nat} {P : Nat → V → Hp → Prop} {mp : List (Option Nat)} {wi : TI} {g : TG} {tc : TT} {te : TE} {σ : St} {H H1 : Hp} {Q : VK} (S : Walk J H1 n P) (hn : n ≤ 1000) (hwi : ∀ R, R J H1 → wi σ H R) (Sv : St → Prop) (p : Nat → Bool) (F : Nat → V → Hp → Prop)
    (monoS : ∀ i v H H', Same H H' → F i v H → F i v H') (monoU : ∀ i v H a ys ys', H a = some (.lst ys) → F i v H → F i v (upd H a (.lst ys'))) (h0 : Sv (st0 mp σ))
    (step : ∀ i x σ' H2, i < n → Sv σ' → Same H1 H2 → P i x H2 → ∀ (Ny : V → St → Hp → Prop) (Nn : St → Hp → Prop), (∀ v σ2 H5, Sv σ2 → Same H2 H5 → F i v H5 → p i = true → Ny v σ2 H5) → (∀ σ2 H4, Sv σ2 → Same H2 H4 → p i = false → Nn σ2 H4) →
      g x σ' H2 fun σ2 H3 => tc σ2 H3 fun b H4 => if b = true then te σ2 H4 fun v H5 => Ny v σ2 H5 else Nn σ2 H4)
    (hQ : ∀ D H' ys, Same H1 H' → H' D = some (.lst ys) → Paired (fun i v => F i v H') ((List.range n).filter p) ys → Q (.ref D) H') : tComp mp wi g tc te σ H Q := by
  unfold tComp
  refine hwi _ fun D hD => ?_
  exact comp_of S hD (Nat.le_trans hn (by rw [sizeLine_eq]; decide)) Sv p F monoS monoU h0 step fun H' ys e hL hF => hQ D H' ys e hL hF
end L2
namespace L2
open PySem PySem.Spec PyProof.Rows
structure Mk0 (K : PySem.W.Frag) (C : Addr) : Prop where
  makes : PySem.W.makesIn K C = true
  init : PySem.W.findIn K (.ref C) "__init__" = some (some (.builtin "object.__init__"))
  kp : PySem.W.keepIn K (.ref C) = true
def tMk0 (C : Addr) : TE := fun _ H Q => ∀ x dx, H x = none → H dx = none → dx ≠ x → Q (.ref x) (upd (upd H dx (.own x)) x (.ins C dx []))
theorem pe_new0 {X : Cx} {C : Addr} {x : Str} {p pos : Pos} (M : Mk0 X.K C) (hm : X.mg x = some (.ref C)) (hg : Gl X x := by rfl) (hdb : (x == ("__debug__" : Str)) = false := by decide) : PE X (.Call (.Name x p) [] [] pos) (tMk0 C) := by
  intro pins s σ H Q I h
  refine wpAny_Call_Name_kw (ld_glob I hg hm (PySem.W.callWith_K0 I.kIn M.kp ?_) hdb)
  have hq := h (s.heap.objs.size + 1) s.heap.objs.size (I.hok.fresh (Nat.le_succ _)) (I.hok.fresh (Nat.le_refl _)) (Nat.ne_of_lt (Nat.lt_succ_self _))
  have I2 := Inv.made (C := C) I
  refine wpAny_call (make_map0 I.kIn M.makes M.init (fun self => PySem.W.Looks.of_pure (PySem.W.oi_bind self)) ?_)
  have Y := PySem.W.makes_of (M := model X.prog X.w) I.kIn M.makes
  have e2 : ((s.heap.push PySem.W.emptyDict).push (PySem.W.instObj C s.heap.objs.size)).get? (s.heap.objs.size + 1) = some (PySem.W.instObj C s.heap.objs.size) := by
    have := Heap.get?_push_size (s.heap.push PySem.W.emptyDict) (o := PySem.W.instObj C s.heap.objs.size) rfl
    rwa [Heap.size_push] at this
  have t1 : PySem.W.Looks (model X.prog X.w) ((s.heap.push PySem.W.emptyDict).push (PySem.W.instObj C s.heap.objs.size)) (typeOf (.ref (s.heap.objs.size + 1))) (.ref C) := (PySem.W.Looks.ld e2).andThen .now
  have t2 : PySem.W.Looks (model X.prog X.w) ((s.heap.push PySem.W.emptyDict).push (PySem.W.instObj C s.heap.objs.size)) (isInstance (.ref (s.heap.objs.size + 1)) (.type "object")) true :=
    t1.andThen (Y.top.keeps fun b o e => Heap.get?_push_of_some _ (Heap.get?_push_of_some _ e))
  refine codeAny_call_builtin PySem.W.oi_plain PySem.W.entry_oi (@PySem.W.check_slot (model X.prog X.w) _ _ _ "object.__init__" "object" "__init__" (.ref (s.heap.objs.size + 1)) [] [] _ PySem.W.oi_kind PySem.W.oi_split t2 (PySem.W.oi_args (.ref (s.heap.objs.size + 1))) ?_)
  rw [PySem.W.oi_run]
  exact wpAny_pure (And.intro rfl ⟨.ref (s.heap.objs.size + 1), _, I2, rfl, hq⟩)
end L2
namespace L2
open PySem PySem.Spec PyProof.Rows
abbrev yes2 : Int → Int → Bool := fun _ _ => true
theorem zipV_W (φ : Int → Int → Int) (xs ys : List Int) : zipV yes2 (fun x y => .int (φ x y)) xs ys = (List.zipWith φ xs ys).map V.int := by
  unfold zipV
  rw [List.filter_eq_self.mpr (fun _ _ => rfl)]
  refine List.ext_getElem? fun i => ?_
  rw [List.getElem?_map, List.getElem?_map, List.getElem?_zipWith]
  by_cases h : i < min xs.length ys.length
  · have h1 : i < xs.length := by omega
    have h2 : i < ys.length := by omega
    rw [List.getElem?_range h, List.getElem?_eq_getElem h1, List.getElem?_eq_getElem h2]
    simp [List.getD, h1, h2]
  · rw [List.getElem?_eq_none (by simpa using h)]
    rcases Nat.lt_or_ge i xs.length with q | q
    · rw [List.getElem?_eq_none (l := ys) (by omega)]
      cases xs[i]? <;> rfl
    · rw [List.getElem?_eq_none (l := xs) q]; rfl
theorem paired_ints {α : Type} {R : Int → Prop} : ∀ {l : List α} {ys : List V}, Paired (fun _ v => ∃ x : Int, v = .int x ∧ R x) l ys → ∃ ws : List Int, ys = ws.map V.int ∧ ws.length = l.length ∧ ∀ x ∈ ws, R x
  | _, _, .nil => ⟨[], rfl, rfl, fun _ h => nomatch h⟩
  | _, _, .cons (a := _) ⟨x, e, r⟩ t => by
    obtain ⟨ws, e2, l2, r2⟩ := paired_ints t
    refine ⟨x :: ws, by rw [e, e2]; rfl, by simp [l2], fun y hy => ?_⟩
    rcases List.mem_cons.mp hy with q | q
    · rw [q]; exact r
    · exact r2 y q
theorem pg_twoN {X : Cx} {K : PySem.W.Frag} {x y : Str} {px py tp : Pos} {k : Nat} (hK : X.K = K) (hc : X.calm = true) (nd : X.N.Nodup) (h0 : X.N[0]? = some x) (h1 : X.N[1]? = some y) (hx : X.env.scope.names.lookup x = some .local) (hy : X.env.scope.names.lookup y = some .local) :
    PG X (.Tuple [.Name x px, .Name y py] k tp) (gTup K 2 (gCons (gName 0) (gCons (gName 1) gNil))) := by
  subst hK
  exact pg_tup hc (pgs_cons (pg_name (i := 0) nd h0 (.inl hx) (.inr hx)) (pgs_cons (pg_name (i := 1) nd h1 (.inl hy) (.inr hy)) pgs_nil))
end L2
namespace L2
open PySem PySem.Spec PyProof.Rows
theorem store_use {X : Cx} {pins : List (Addr × Obj)} {σ0 σ : St} {H0 H' : Hp} {s0 s' : Shared} {C : Addr} {i : Nat} {x : Str} {pos' : Pos} {v : V} {u : Value} {Nx : St → Hp → Prop} (I0 : Inv X pins σ0 H0 s0) (hC : s0.heap.objs.size ≤ C) (I : Inv X pins σ H' s') (hn : H' C = none)
    (hns : ∃ m, s'.heap.Ns C m) (hg : PG X (.Name x pos') (gName i)) (r : RelV v u) (q : Nx (σ.set i (some v)) H') :
    wpAny (model X.prog X.w) X.A (assign (.Name x pos') X.env u) (fun _ s'' => ∃ m, s''.heap.Ns C m ∧ ∀ h', Heap.SameBut C s''.heap h' → ∃ σ2 H2, Inv X pins σ2 H2 { s'' with heap := h' } ∧ Nx σ2 H2) X.xe s' := by
  obtain ⟨m, o, es, ep, ho, hd, rest⟩ := hns
  have fp : FpOk X pins H' C := I0.fpOk hC hn
  have I1 := I.pinned (fp := [C]) (fun b hb => by obtain rfl : b = C := by simpa using hb
                                                  exact fp) (fun b hb => by
    obtain rfl : b = C := by simpa using hb
    exact ⟨o, ho, fun v z => by rw [hd] at z; cases z⟩)
  refine thn (hg _ _ _ _ _ _ Nx I1 r q) fun _ s2 ⟨σ2, H2, I2, q2⟩ => ?_
  have pn := I2.pin (C, o) (List.mem_append_right _ (List.mem_append_right _ (mem_pinsAt (by simp) ho)))
  refine ⟨m, ⟨o, es, ep, pn.1, hd, rest⟩, fun h' sb => ⟨σ2, H2, ?_, q2⟩⟩
  obtain ⟨f0, f1, f2, f3, f4, f5⟩ := fp
  exact I2.unpinned.turned (t' := s2.toks) (fun b ob hb e => sb.extBut b ob hb e) pn.2.1 f1 f3 f4 f5
theorem ps_setC {X : Cx} {N : List Str} {scope : Scope} {cl : List (Str × Addr)} {mp : List (Option Nat)} {elt tg iter : Expr} {ifs : List Expr} {wi : TI} {g : TG} {tc : TT} {te : TE} {pos pos' posA : Pos} {i : Nat} {x : Str} (hn : PG X (.Name x pos') (gName i)) (B : Blk X N scope cl mp) (hc : X.calm = true)
    (hi : PI X tg iter wi) (hg : ∀ C s H fp, PG (blk X N scope cl C s H fp) tg g) (ht : ∀ C s H fp, PTs (blk X N scope cl C s H fp) ifs tc) (he : ∀ C s H fp, PE (blk X N scope cl C s H fp) elt te)
    (hs : ∀ x, foldedSetIterable iter X.env x = pure x := by intro _; rfl) (hsw : swapsWith (.ListComp elt [⟨tg, iter, ifs, 0⟩] scope pos) (some (.Name x pos')) posA.line X.env = pure true := by rfl) :
    PS X (.Assign [.Name x pos'] (.ListComp elt [⟨tg, iter, ifs, 0⟩] scope pos) posA) (tAsg (tComp mp wi g tc te) (gName i)) := by
  intro pins s σ H Dn I h
  unfold tAsg tComp at h
  rw [exec_Assign_Name_used _ _ _ _ hsw]
  refine wpAny_bind (wpAny_standAt (wpAny_bind ?_))
  show wpAny _ _ (comprehension (.ListComp elt [⟨tg, iter, ifs, 0⟩] scope pos) scope X.env _ (newList []) false (eval iter X.env) (some (assign (.Name x pos') X.env)) >>= _) _ _ _
  refine wpAny_bind (wpAny_comprehension_free (use := some (assign (.Name x pos') X.env)) (cl := cl) rfl hs B.clos B.kind B.nms (thn (hi pins s σ H _ I h) fun v s1 h1 => thn h1 fun itv s2 h2 => ?_))
  obtain ⟨it, fp, tn, J, H2, rfl, I2, T, st2, f2, q⟩ := h2
  have lt2 : ∀ b ∈ fp, b < s2.heap.objs.size := fun b hb => let ⟨o, e, _⟩ := T.obj _ _ st2 b hb; Heap.lt_size e
  obtain ⟨W, ⟨m0, w0⟩, turn⟩ := q _ I2.fresh
  have ID := I2.lnew (ys := []) (its := []) (t' := s2.toks) .nil (Nat.zero_le _)
  have fD' : ∀ b ∈ fp, FpOk X pins (upd H2 s2.heap.objs.size (.lst [])) b := fun b hb => by
    obtain ⟨f0, r⟩ := f2 b hb
    exact ⟨by rw [upd_ne (Nat.ne_of_lt (lt2 b hb))]; exact f0, r⟩
  refine wpAny_newObj_type (comp_block B hc hg ht he ID fD' T (T.keep _ _ _ st2 fun b _ o e => Heap.get?_push_of_some _ e) w0 turn fun C H' σ' s' hC J' qf => ?_)
  have hns : ∃ m, s'.heap.Ns C m := let ⟨m, hm, _⟩ := J'.loc; ⟨m, hm⟩
  have I3 : Inv X pins σ H' { s' with heap := s'.heap } := blk_out ID fD' hC J' (Heap.SameBut.refl _ _)
  exact thn (store_use (v := .ref s2.heap.objs.size) ID hC I3 J'.free hns hn rfl qf) fun _ s4 ⟨m, hm, q4⟩ => ⟨m, hm, fun h' sb => wpAny_pure (wpAny_pure (q4 h' sb))⟩
end L2
namespace L2
open PySem PySem.Spec PyProof.Rows
def rTupleOf (K : PySem.W.Frag) : List V → Hp → VK → Prop := fun xs H Q => ∃ p ys, xs = [.ref p] ∧ ((SqL K H p ys ∧ ∀ l, H l = none → Q (.ref l) (upd H l (.tup ys))) ∨ (SqT K H p ys ∧ Q (.ref p) H))
def rListOf (K : PySem.W.Frag) : List V → Hp → VK → Prop := fun xs H Q => ∃ p ys, xs = [.ref p] ∧ (SqL K H p ys ∨ SqT K H p ys) ∧ ∀ l, H l = none → Q (.ref l) (upd H l (.lst ys))
def rLenSeq (K : PySem.W.Frag) : List V → Hp → VK → Prop := fun xs H Q => ∃ p ys, xs = [.ref p] ∧ (SqL K H p ys ∨ SqT K H p ys) ∧ Q (.int ys.length) H
def rSumX (K : PySem.W.Frag) (b : Bool) : List V → Hp → VK → Prop := fun xs H Q => ∃ (a : Addr) (ns : List Int), xs = [.ref a] ∧ SqX K b H a (ns.map V.int) ∧ Q (.int ns.sum) H
def rAllB (K : PySem.W.Frag) : List V → Hp → VK → Prop := fun xs H Q => ∃ (a : Addr) (bs : List Bool), xs = [.ref a] ∧ SqL K H a (bs.map V.bl) ∧ Q (.bl (bs.all id)) H
def rAnyB (K : PySem.W.Frag) : List V → Hp → VK → Prop := fun xs H Q => ∃ (a : Addr) (bs : List Bool), xs = [.ref a] ∧ SqL K H a (bs.map V.bl) ∧ Q (.bl (bs.any id)) H
def rIsInst (K : PySem.W.Frag) : List V → Hp → VK → Prop := fun xs H Q => ∃ x y t c b, xs = [x, y] ∧ clV y = some c ∧ TyOf K H x t ∧ PySem.W.kitOne K t c = some b ∧ Q (.bl b) H
section
variable {X : Cx} {K : PySem.W.Frag}
theorem call_tupleK (hK : X.K = K) : CallR X (.type "tuple") (rTupleOf K) := by subst hK; exact call_tuple_of
theorem call_listK (hK : X.K = K) : CallR X (.type "list") (rListOf K) := by subst hK; exact call_list_of
theorem call_lenK (hK : X.K = K) : CallR X (.builtin "len") (rLenSeq K) := by subst hK; exact call_len_seq
theorem call_sumK (hK : X.K = K) (b : Bool) (hc : X.calm = true) : CallR X (.builtin "sum") (rSumX K b) := by subst hK; exact call_sumX b hc
theorem call_isinstK (hK : X.K = K) : CallR X (.builtin "isinstance") (rIsInst K) := by subst hK; exact call_isinst
theorem pe_fldK {e : Expr} {f : Str} {pos : Pos} {ta : TE} (hK : X.K = K) (he : PE X e ta) (hb : attributeBase e f X.env (eval e X.env) = eval e X.env) : PE X (.Attribute e f pos) (tFld K ta f) := by subst hK; exact pe_fld he hb
theorem pi_listK {tg l : Expr} {tl : TE} (hK : X.K = K) (hl : PE X l tl) : PI X tg l (iList K tl) := by subst hK; exact pi_list hl
theorem pi_zipK {es : List Expr} {ek : Nat} {tpos p pos : Pos} (hK : X.K = K) (b1 b2 : Bool) {e1 e2 : Expr} {ta : TA} (hg : Gl X "zip") (hm : X.mg "zip" = none) (ha : PA X [e1, e2] ta)
    (he : starEach [e1, e2] X.env = (false, eval e1 X.env) :: starEach [e2] X.env := by rfl) (hpl : (backTo pos (starEach [e2] X.env)).any (·.1) = false := by rfl) :
    PI X (.Tuple es ek tpos) (.Call (.Name "zip" p) [e1, e2] [] pos) (iZip K b1 b2 ta) := by subst hK; exact pi_zip b1 b2 hg hm ha he hpl
theorem sl_listK (hK : X.K = K) : SlR X (rSlL K) := by subst hK; exact sl_list
end
end L2
set_option Elab.async false
set_option linter.all false
set_option maxRecDepth 100000
namespace L2
open PySem PySem.Spec PyProof.Rows
section
variable {κ : Type} [DecidableEq κ]
def valV (kvs : List (κ × V)) (k : κ) : Option V := (kvs.find? fun kv => decide (kv.1 = k)).map (·.2)
def putK (kvs : List (κ × V)) (k : κ) (v : V) : List (κ × V) :=
  if (kvs.any fun kv => decide (kv.1 = k)) = true then kvs.map (fun kv => if kv.1 = k then (kv.1, v) else kv) else kvs ++ [(k, v)]
def dropK (kvs : List (κ × V)) (k : κ) : List (κ × V) := kvs.filter fun kv => decide (kv.1 ≠ k)
theorem valV_nil {k : κ} : valV ([] : List (κ × V)) k = none := rfl
theorem valV_pos {p : κ × V} {r : List (κ × V)} {k : κ} (e : p.1 = k) : valV (p :: r) k = some p.2 := by simp [valV, List.find?_cons, e]
theorem valV_neg {p : κ × V} {r : List (κ × V)} {k : κ} (e : ¬ p.1 = k) : valV (p :: r) k = valV r k := by simp [valV, List.find?_cons, e]
theorem valV_any (k : κ) : ∀ kvs : List (κ × V), (kvs.any fun kv => decide (kv.1 = k)) = (valV kvs k).isSome
  | [] => rfl
  | p :: r => by
    rw [List.any_cons]
    by_cases e : p.1 = k
    · simp only [valV_pos e, decide_eq_true e, Bool.true_or, Option.isSome_some]
    · rw [valV_neg e, decide_eq_false e, Bool.false_or]; exact valV_any k r
theorem valV_map (k j : κ) (y : V) : ∀ kvs : List (κ × V), valV (kvs.map fun kv => if kv.1 = k then (kv.1, y) else kv) j = (valV kvs j).map fun x => if j = k then y else x
  | [] => rfl
  | p :: r => by
    have ih := valV_map k j y r
    rw [List.map_cons]
    by_cases h : p.1 = k
    · rw [if_pos h]
      by_cases e : p.1 = j
      · rw [valV_pos (p := (p.1, y)) e, valV_pos e, Option.map_some, if_pos (e.symm.trans h)]
      · rw [valV_neg (p := (p.1, y)) e, valV_neg e, ih]
    · rw [if_neg h]
      by_cases e : p.1 = j
      · rw [valV_pos (p := p) e, valV_pos e, Option.map_some, if_neg (fun z => h (e.trans z))]
      · rw [valV_neg (p := p) e, valV_neg e, ih]
theorem valV_snoc (k j : κ) (y : V) : ∀ kvs : List (κ × V), valV kvs k = none → valV (kvs ++ [(k, y)]) j = if j = k then some y else valV kvs j
  | [], _ => by
    by_cases e : k = j
    · rw [if_pos e.symm]; exact valV_pos (p := (k, y)) e
    · rw [if_neg (fun z => e z.symm)]; exact valV_neg (p := (k, y)) e
  | p :: r, hn => by
    rw [List.cons_append]
    have hk : ¬ p.1 = k := fun z => by rw [valV_pos z] at hn; cases hn
    rw [valV_neg hk] at hn
    have ih := valV_snoc k j y r hn
    by_cases e : p.1 = j
    · rw [valV_pos e, valV_pos e, if_neg (fun z => hk (e.trans z))]
    · rw [valV_neg e, valV_neg e, ih]
theorem valV_put (kvs : List (κ × V)) (k j : κ) (y : V) : valV (putK kvs k y) j = if j = k then some y else valV kvs j := by
  unfold putK
  by_cases a : (kvs.any fun kv => decide (kv.1 = k)) = true
  · rw [if_pos a, valV_map]
    rw [valV_any] at a
    by_cases e : j = k
    · obtain ⟨x, hx⟩ := Option.isSome_iff_exists.mp a
      rw [if_pos e, e, hx, Option.map_some, if_pos rfl]
    · rw [if_neg e]
      cases valV kvs j with
      | none => rfl
      | some x => rw [Option.map_some, if_neg e]
  · rw [if_neg a]
    refine valV_snoc k j y kvs ?_
    rw [valV_any] at a
    cases q : valV kvs k with
    | none => rfl
    | some x => rw [q] at a; exact (a rfl).elim
theorem length_putK (kvs : List (κ × V)) (k : κ) (v : V) : (putK kvs k v).length ≤ kvs.length + 1 := by
  unfold putK
  split
  · rw [List.length_map]; omega
  · rw [List.length_append, List.length_cons, List.length_nil]; omega
theorem RelO.isSome_eq {o : Option V} {u : Option Value} (r : RelO o u) : o.isSome = u.isSome := by
  cases o with
  | none => cases u with
    | none => rfl
    | some _ => exact (show False from r).elim
  | some _ => cases u with
    | none => exact (show False from r).elim
    | some _ => rfl
theorem KV.val {kvs : List (κ × V)} {vs : List (κ × Value)} (r : KV kvs vs) (k : κ) : RelO (valV kvs k) (valueAt vs k) := by
  unfold KV at r
  induction r with
  | nil => exact True.intro
  | @cons p q ps qs h t ih =>
    obtain ⟨h1, h2⟩ := h
    by_cases e : p.1 = k
    · have e' : q.1 = k := h1.symm.trans e
      have b : valueAt (q :: qs) k = some q.2 := by simp [valueAt, List.find?_cons, e']
      rw [valV_pos e, b]; exact h2
    · have e' : ¬ q.1 = k := fun z => e (h1.trans z)
      have b : valueAt (q :: qs) k = valueAt qs k := by simp [valueAt, List.find?_cons, e']
      rw [valV_neg e, b]; exact ih
theorem KV.any {kvs : List (κ × V)} {vs : List (κ × Value)} (r : KV kvs vs) (k : κ) : (kvs.any fun kv => decide (kv.1 = k)) = vs.any fun kv => decide (kv.1 = k) := by
  unfold KV at r
  induction r with
  | nil => rfl
  | cons h t ih => rw [List.any_cons, List.any_cons, ih, h.1]
theorem KV.repl {kvs : List (κ × V)} {vs : List (κ × Value)} (r : KV kvs vs) (k : κ) {y : V} {u : Value} (ry : RelV y u) :
    KV (kvs.map fun kv => if kv.1 = k then (kv.1, y) else kv) (vs.map fun kv => if kv.1 = k then (kv.1, u) else kv) := by
  unfold KV at r ⊢
  induction r with
  | nil => exact .nil
  | @cons p q ps qs h t ih =>
    rw [List.map_cons, List.map_cons]
    refine .cons ?_ ih
    obtain ⟨h1, h2⟩ := h
    by_cases e : p.1 = k
    · rw [if_pos e, if_pos (h1.symm.trans e)]; exact ⟨h1, ry⟩
    · rw [if_neg e, if_neg (fun z => e (h1.trans z))]; exact ⟨h1, h2⟩
theorem KV.put {kvs : List (κ × V)} {vs : List (κ × Value)} (r : KV kvs vs) (k : κ) {y : V} {u : Value} (ry : RelV y u) : KV (putK kvs k y) (stored vs k u) := by
  unfold putK stored
  rw [r.any k]
  by_cases e : (vs.any fun kv => decide (kv.1 = k)) = true
  · rw [if_pos e, if_pos e]; exact r.repl k ry
  · rw [if_neg e, if_neg e]; exact Paired.snoc r ⟨rfl, ry⟩
theorem KV.length {kvs : List (κ × V)} {vs : List (κ × Value)} (r : KV kvs vs) : kvs.length = vs.length := Paired.length r
theorem dropK_le (kvs : List (κ × V)) (k : κ) : (dropK kvs k).length ≤ kvs.length := List.length_filter_le _ _
end
theorem kV_is {P : Program} {w : World} {k : Key} {u : Value} (r : RelV (kV k) u) : (mixKind P w).is k u = true := by
  cases k with
  | inl i => obtain ⟨t, e⟩ := (show ∃ t, u = Value.int i t from r); subst e; exact mixKind_int P w i t
  | inr x => obtain ⟨t, e⟩ := (show ∃ t, u = Value.str x t from r); subst e; exact mixKind_str P w x t
theorem items_are {P : Program} {w : World} : ∀ {ks : List Key} {us : List Value}, Vals (ks.map kV) us → ItemsAre (mixKind P w) ks us
  | [], _, r => by rw [List.map_nil] at r; cases r; exact .nil
  | k :: ks, _, r => by
    rw [List.map_cons] at r
    cases r with
    | cons h t => exact .cons (kV_is h) (items_are t)
abbrev KT (H : Hp) : List (List Key × V) → List (List Key × Addr × Value) → Prop := Paired fun p q => p.1 = q.1 ∧ H q.2.1 = some (.tup (p.1.map kV)) ∧ RelV p.2 q.2.2
theorem KT.val {H : Hp} {kvs : List (List Key × V)} {xs : List (List Key × Addr × Value)} (r : KT H kvs xs) (k : List Key) : RelO (valV kvs k) ((atKey xs k).map (·.2)) := by
  induction r with
  | nil => exact True.intro
  | @cons p q ps qs h t ih =>
    obtain ⟨h1, _, h2⟩ := h
    by_cases e : p.1 = k
    · have e' : q.1 = k := h1.symm.trans e
      have b : atKey (q :: qs) k = some q.2 := by simp [atKey, List.find?_cons, e']
      rw [valV_pos e, b]; exact h2
    · have e' : ¬ q.1 = k := fun z => e (h1.trans z)
      have b : atKey (q :: qs) k = atKey qs k := by simp [atKey, List.find?_cons, e']
      rw [valV_neg e, b]; exact ih
theorem KT.repl {H : Hp} {kvs : List (List Key × V)} {xs : List (List Key × Addr × Value)} (r : KT H kvs xs) (k : List Key) {y : V} {u : Value} (ry : RelV y u) :
    KT H (kvs.map fun kv => if kv.1 = k then (kv.1, y) else kv) (xs.map (putAt k u)) := by
  induction r with
  | nil => exact .nil
  | @cons p q ps qs h t ih =>
    rw [List.map_cons, List.map_cons]
    refine .cons ?_ ih
    obtain ⟨h1, h2, h3⟩ := h
    unfold putAt
    by_cases e : p.1 = k
    · rw [if_pos e, if_pos (h1.symm.trans e)]; exact ⟨h1, h2, ry⟩
    · rw [if_neg e, if_neg (fun z => e (h1.trans z))]; exact ⟨h1, h2, h3⟩
theorem KT.put {H : Hp} {kvs : List (List Key × V)} {xs : List (List Key × Addr × Value)} (r : KT H kvs xs) (k : List Key) {b : Addr} {y : V} {u : Value} (hb : H b = some (.tup (k.map kV))) (ry : RelV y u) :
    KT H (putK kvs k y) (storedH xs k b u) := by
  have e : (kvs.any fun kv => decide (kv.1 = k)) = (atKey xs k).isSome := by
    rw [valV_any, (r.val k).isSome_eq, Option.isSome_map]
  unfold putK storedH
  rw [e]
  by_cases q : (atKey xs k).isSome = true
  · rw [if_pos q, if_pos q]; exact r.repl k ry
  · rw [if_neg q, if_neg q]; exact Paired.snoc r ⟨rfl, hb, ry⟩
theorem KT.keeps {H H' : Hp} {kvs : List (List Key × V)} {xs : List (List Key × Addr × Value)} (r : KT H kvs xs) (ht : ∀ b ys, H b = some (.tup ys) → H' b = some (.tup ys)) : KT H' kvs xs :=
  Paired.mapP r fun _ _ z => ⟨z.1, ht _ _ z.2.1, z.2.2⟩
section
variable {P : Program} {w : World} {H : Hp} {h : Heap} {a : Addr}
theorem rd_of {u : HO} (ok : HOk P w H h) (e : Rd H a u) : ObjOk P w H h a u := e.ok ok
theorem dk_rd {kvs : List (Key × V)} (ok : HOk P w H h) (e : Rd H a (.dK kvs)) : kvs.length ≤ sizeLine ∧ (a == sysModules) = false ∧ ∃ vs, KV kvs vs ∧ h.DictOf (mixKind P w) a vs :=
  show ObjOk P w H h a (.dK kvs) from rd_of ok e
theorem dk_of {kvs : List (Key × V)} (ok : HOk P w H h) (e : H a = some (.dK kvs)) : kvs.length ≤ sizeLine ∧ (a == sysModules) = false ∧ ∃ vs, KV kvs vs ∧ h.DictOf (mixKind P w) a vs := dk_rd ok (.inl e)
theorem key_of {ks : List Key} (ok : HOk P w H h) (e : H a = some (.tup (ks.map kV))) : (tupleKind (mixKind P w)).is h ks a := by
  obtain ⟨_, its, r, o, h1, h2, n, h3⟩ := (show ObjOk P w H h a (.tup (ks.map kV)) from ok a _ e)
  exact ⟨o, its.toArray, n, h1, h2, h3, by simpa using items_are r⟩
theorem dt_rd {kvs : List (List Key × V)} (ok : HOk P w H h) (e : Rd H a (.dT kvs)) : kvs.length ≤ sizeLine ∧ (a == sysModules) = false ∧
    ∃ xs, KT H kvs xs ∧ h.DictOfH (tupleKind (mixKind P w)) a xs := by
  obtain ⟨z, y, xs, r, o, es, ep, h1, h2, h3, h4, h5⟩ := (show ObjOk P w H h a (.dT kvs) from rd_of ok e)
  refine ⟨z, y, xs, r, o, es, ep, h1, h2, h3, h4, fun x hx => ?_, h5⟩
  have all : ∀ {l : List (List Key × V)} {m : List (List Key × Addr × Value)}, KT H l m → ∀ x ∈ m, (tupleKind (mixKind P w)).is h x.1 x.2.1 := by
    intro l m q
    induction q with
    | nil => intro x hx; exact nomatch hx
    | @cons p q ps qs hq t ih =>
      intro x hx
      rcases List.mem_cons.mp hx with e | hx
      · subst e
        exact key_of ok (by rw [← hq.1]; exact hq.2.1)
      · exact ih x hx
  exact all r x hx
theorem dt_of {kvs : List (List Key × V)} (ok : HOk P w H h) (e : H a = some (.dT kvs)) : kvs.length ≤ sizeLine ∧ (a == sysModules) = false ∧
    ∃ xs, KT H kvs xs ∧ h.DictOfH (tupleKind (mixKind P w)) a xs := dt_rd ok (.inl e)
end
def DGet (H : Hp) (a : Addr) (y : V) (r : Option V) : Prop :=
  (∃ kvs k, Rd H a (.dK kvs) ∧ y = kV k ∧ r = valV kvs k) ∨ ∃ kvs k b, Rd H a (.dT kvs) ∧ y = .ref b ∧ H b = some (.tup (k.map kV)) ∧ r = valV kvs k
def DPut (H : Hp) (a : Addr) (y v : V) (H' : Hp) : Prop :=
  (∃ kvs k, H a = some (.dK kvs) ∧ y = kV k ∧ kvs.length < sizeLine ∧ H' = upd H a (.dK (putK kvs k v))) ∨
  ∃ kvs k b, H a = some (.dT kvs) ∧ y = .ref b ∧ H b = some (.tup (k.map kV)) ∧ kvs.length < sizeLine ∧ H' = upd H a (.dT (putK kvs k v))
theorem DGet.t {H : Hp} {a b : Addr} {kvs : List (List Key × V)} {k : List Key} (e : H a = some (.dT kvs)) (eb : H b = some (.tup (k.map kV))) : DGet H a (.ref b) (valV kvs k) := .inr ⟨kvs, k, b, .inl e, rfl, eb, rfl⟩
theorem DPut.t {H : Hp} {a b : Addr} {kvs : List (List Key × V)} {k : List Key} {v : V} (e : H a = some (.dT kvs)) (eb : H b = some (.tup (k.map kV))) (hl : kvs.length < sizeLine) :
    DPut H a (.ref b) v (upd H a (.dT (putK kvs k v))) := .inr ⟨kvs, k, b, e, rfl, eb, hl, rfl⟩
section
variable {X : Cx} {pins : List (Addr × Obj)} {σ : St} {H : Hp} {s : Shared} {a : Addr} {y v : V} {u r : Value} {o : Option V} {A : Around} {E : Value → Shared → Prop}
theorem Inv.big (I : Inv X pins σ H s) : sysModules < s.heap.objs.size := by
  have h : mainGlobals < s.heap.objs.size := (I.mod.glob.keeps I.bk).lt
  exact Nat.lt_trans (by decide) h
theorem d_getItem {Q : Value → Shared → Prop} (hu : A.units + 1 < cLine) (I : Inv X pins σ H s) (g : DGet H a y (some v)) (ry : RelV y u) (h : ∀ w' s', Inv X pins σ H s' → RelV v w' → Q w' s') :
    wpAny (model X.prog X.w) A (getItem (.ref a) u) Q E s := by
  rcases g with ⟨kvs, k, e, ey, l⟩ | ⟨kvs, k, b, e, ey, eb, l⟩
  · subst ey
    obtain ⟨z, hd, vs, rel, dd⟩ := dk_rd I.hok e
    obtain ⟨w', hw, rw'⟩ := RelO.some_of (v := v) (o := valueAt vs k) (by rw [l]; exact rel.val k)
    exact wpAny_getItem_of (kV_is ry) dd.mapOf hw (h w' _ (I.tok _) rw')
  · subst ey
    cases (show u = Value.ref b from ry)
    obtain ⟨z, hd, xs, rel, dd⟩ := dt_rd I.hok e
    obtain ⟨w', hw, rw'⟩ := RelO.some_of (v := v) (o := (atKey xs k).map (·.2)) (by rw [l]; exact rel.val k)
    obtain ⟨p, hp, hp2⟩ := Option.map_eq_some_iff.mp hw
    refine wpAny_getItem_heap (tupleKind_room_in1 hu) (key_of I.hok eb) dd hp ?_
    rw [hp2]
    exact h w' _ (I.tok _) rw'
theorem d_in {Q : Value → Shared → Prop} (hu : A.units + 1 < cLine) (I : Inv X pins σ H s) (g : DGet H a y o) (ry : RelV y u) (h : ∀ s', Inv X pins σ H s' → Q (.bool o.isSome) s') :
    wpAny (model X.prog X.w) A (compareOp .In u (.ref a)) Q E s := by
  rcases g with ⟨kvs, k, e, ey, l⟩ | ⟨kvs, k, b, e, ey, eb, l⟩
  · subst ey
    obtain ⟨z, hd, vs, rel, dd⟩ := dk_rd I.hok e
    refine wpAny_in_of (kV_is ry) hd dd.mapOf ?_
    rw [← (rel.val k).isSome_eq, ← l]
    exact h _ (I.tok _)
  · subst ey
    cases (show u = Value.ref b from ry)
    obtain ⟨z, hd, xs, rel, dd⟩ := dt_rd I.hok e
    refine wpAny_in_heap (tupleKind_room_in1 hu) (key_of I.hok eb) hd dd ?_
    have q := (rel.val k).isSome_eq
    rw [Option.isSome_map] at q
    rw [← q, ← l]
    exact h _ (I.tok _)
theorem d_write {h' : Heap} {t' : Nat} {ob : HO} (I : Inv X pins σ H s) (mu : Mut (H a)) (hs : Heap.SameBut a s.heap h') (he : ∃ q, h'.get? a = some q) (new : ObjOk X.prog X.w (upd H a ob) h' a ob) :
    Inv X pins σ (upd H a ob) { s with heap := h', toks := t' } :=
  I.write (x := a) (e := a) mu (.inl rfl) (fun b q hb z => (hs.2 b hb).trans z) he new
theorem dk_new {P : Program} {w : World} {H' : Hp} {h' : Heap} {kvs : List (Key × V)} {vs : List (Key × Value)} (z : kvs.length ≤ sizeLine) (hd : (a == sysModules) = false) (rel : KV kvs vs) (dd : h'.DictOf (mixKind P w) a vs) :
    ObjOk P w H' h' a (.dK kvs) := ⟨z, hd, vs, rel, dd⟩
theorem d_setItem {H' : Hp} {Q : Unit → Shared → Prop} (hu : A.units + 1 < cLine) (I : Inv X pins σ H s) (g : DPut H a y v H') (ry : RelV y u) (rv : RelV v r) (h : ∀ s', Inv X pins σ H' s' → Q () s') :
    wpAny (model X.prog X.w) A (setItem (.ref a) u r) Q E s := by
  rcases g with ⟨kvs, k, e, ey, l, eH⟩ | ⟨kvs, k, b, e, ey, eb, l, eH⟩
  · subst ey eH
    obtain ⟨z, hd, vs, rel, dd⟩ := dk_of I.hok e
    have hz : vs.length ≤ sizeLine := by rw [← rel.length]; exact z
    have hl : (putK kvs k v).length ≤ sizeLine := by have := length_putK kvs k v; omega
    refine wpAny_setItem_pairs (hsz := hz) (kV_is ry) dd fun h' dd' hs => h _ ?_
    have he : ∃ q, h'.get? a = some q := let ⟨q, _, _, hq, _⟩ := dd'; ⟨q, hq⟩
    exact d_write I (by rw [e]; exact True.intro) hs he (dk_new hl hd (rel.put k rv) dd')
  · subst ey eH
    cases (show u = Value.ref b from ry)
    obtain ⟨z, hd, xs, rel, dd⟩ := dt_of I.hok e
    have hz : xs.length ≤ sizeLine := by rw [← Paired.length rel]; exact z
    have hl : (putK kvs k v).length ≤ sizeLine := by have := length_putK kvs k v; omega
    refine wpAny_setItem_heap (hsz := hz) (tupleKind_room_in1 hu) (key_of I.hok eb) dd fun h' dd' hs => h _ ?_
    obtain ⟨q, es, ep, hq, h2, h3, h4, _, h5⟩ := dd'
    refine d_write I (by rw [e]; exact True.intro) hs ⟨q, hq⟩ ⟨hl, hd, _, (rel.put k eb rv).keeps fun c ys ec => ?_, q, es, ep, hq, h2, h3, h4, h5⟩
    rw [upd_ne (ne_of ec e (fun z => nomatch z))]
    exact ec
end
section
variable {X : Cx} {pins : List (Addr × Obj)} {σ : St} {H : Hp} {s : Shared} {a : Addr} {kvs : List (Key × V)} {k : Key} {u : Value} {A : Around} {E : Value → Shared → Prop}
end
def NoSl (i : Expr) : Prop := ∀ ov iv, subscripted i false ov iv = operate [ov, iv] (getItem ov iv)
theorem subD_of {prog : Program} {w : World} {A : Around} {E : Value → Shared → Prop} {s : Shared} {env : Env} {value slice : Expr} {pos : Pos} {T id : String} {Q : Value → Shared → Prop}
    (hl : typeLookup (.type T) "__getitem__" = pure (some (.builtin id))) (hs : NoSl slice)
    (h : wpAny (model prog w) A (eval value env) (fun o s₁ => wpAny (model prog w) A (eval slice env) (fun i s₂ => s₂.TypeIs o T ∧ wpAny (model prog w) A (getItem o i) Q E s₂) E s₁) E s) :
    wpAny (model prog w) A (eval (.Subscript value slice pos) env) Q E s := by
  refine Subscript_ (wpAny_mono h (fun o s₁ h₁ => wpAny_mono h₁ (fun i s₂ h₂ => ?_) fun _ _ x => x) fun _ _ x => x)
  obtain ⟨hT, h₂⟩ := h₂
  unfold subscriptTail
  refine wpAny_bind ?_
  rw [getitemInPython_of_ne hT.not_modules]
  refine wpAny_bind (wpAny_specialOf hT hl ?_)
  have fin : wpAny (model prog w) A (subscripted slice false o i) (fun r s₃ => wpAny (model prog w) A (letTemporaryGo value o r >>= fun _ => pure r) Q E s₃) E s₂ := by
    rw [hs o i]
    exact wpAny_operating (wpAny_mono h₂ (fun r s₃ h₃ => wpAny_bind (wpAny_letTemporaryGo (wpAny_pure h₃))) fun _ _ x => x)
  first
    | exact wpAny_pure (wpAny_bind fin)
    | exact wpAny_bind (wpAny_pure (wpAny_bind fin))
    | exact wpAny_bind fin
theorem dict_typeIs {X : Cx} {pins : List (Addr × Obj)} {σ : St} {H : Hp} {s : Shared} {a : Addr} {y : V} {o : Option V} (I : Inv X pins σ H s) (g : DGet H a y o) : s.TypeIs (.ref a) "dict" := by
  rcases g with ⟨kvs, k, e, _, _⟩ | ⟨kvs, k, b, e, _, _, _⟩
  · obtain ⟨_, _, vs, _, dd⟩ := dk_rd I.hok e
    exact dd.typeIs
  · obtain ⟨_, _, xs, _, dd⟩ := dt_rd I.hok e
    exact dd.typeIs
def tDGet (td ty : TE) : TE := fun σ H Q => td σ H fun x H1 => ty σ H1 fun y H2 => ∃ a v, x = .ref a ∧ DGet H2 a y (some v) ∧ Q v H2
def tDIn (ty td : TE) : TE := fun σ H Q => ty σ H fun y H1 => td σ H1 fun x H2 => ∃ a o, x = .ref a ∧ DGet H2 a y o ∧ Q (.bl o.isSome) H2
def tDNotIn (ty td : TE) : TE := fun σ H Q => ty σ H fun y H1 => td σ H1 fun x H2 => ∃ a o, x = .ref a ∧ DGet H2 a y o ∧ Q (.bl (!o.isSome)) H2
def sDPut (td ty tv : TE) : TS := fun D σ H => tv σ H fun v H1 => td σ H1 fun x H2 => ty σ H2 fun y H3 => ∃ a H4, x = .ref a ∧ DPut H3 a y v H4 ∧ D.nx σ H4
def sDAug (td ty tv : TE) (rd : V → V → Hp → VK → Prop) : TS := fun D σ H => td σ H fun x H1 => ty σ H1 fun y H2 => ∃ a v, x = .ref a ∧ DGet H2 a y (some v) ∧
  tv σ H2 fun y2 H3 => rd v y2 H3 fun z H4 => ∃ H5, DPut H4 a y z H5 ∧ D.nx σ H5
def sDDel (td ty : TE) : TS := fun D σ H => td σ H fun x H1 => ty σ H1 fun y H2 => ∃ a kvs k, x = .ref a ∧ H2 a = some (.dK kvs) ∧ y = kV k ∧ (valV kvs k).isSome = true ∧ D.nx σ (upd H2 a (.dK (dropK kvs k)))
section
variable {X : Cx} {o i e value : Expr} {pos pos' tpos : Pos} {td ty tv : TE}
theorem pe_dget (hu : X.A.units + 1 < cLine) (ho : PE X o td) (hi : PE X i ty) (hs : NoSl i) : PE X (.Subscript o i pos) (tDGet td ty) := by
  intro pins s σ H Q I h
  refine subD_of PySem.F.slot_dict_getitem.lookup hs (thn (ho pins s σ H _ I h) fun u s1 ⟨x, H1, I1, rx, q1⟩ => thn (hi pins s1 σ H1 _ I1 q1) fun iv s2 ⟨y, H2, I2, ry, a, v, ex, g, q2⟩ => ?_)
  subst ex
  obtain rfl : u = Value.ref a := rx
  exact ⟨dict_typeIs I2 g, d_getItem hu I2 g ry fun w' s3 I3 rw' => ⟨v, H2, I3, rw', q2⟩⟩
theorem pc_din (hu : X.A.units + 1 < cLine) (hi : PE X i ty) (ho : PE X o td) : PC X .In i o (tDIn ty td) := by
  intro pins s σ H Q I h
  refine thn (hi pins s σ H _ I h) fun iv s1 ⟨y, H1, I1, ry, q1⟩ => thn (ho pins s1 σ H1 _ I1 q1) fun u s2 ⟨x, H2, I2, rx, a, ov, ex, g, q2⟩ => ?_
  subst ex
  obtain rfl : u = Value.ref a := rx
  exact d_in hu I2 g ry fun s3 I3 => ⟨.bl ov.isSome, H2, I3, rfl, q2⟩
theorem ps_dput (hu : X.A.units + 1 < cLine) (ho : PE X o td) (hi : PE X i ty) (hv : PE X value tv) (hs : swapsWith value (some (.Subscript o i pos')) pos.line X.env = pure false) :
    PS X (.Assign [.Subscript o i pos'] value pos) (sDPut td ty tv) := by
  intro pins s σ H D I h
  refine wpAny_Assign_Subscript (thn (hv pins s σ H _ I h) fun r s1 ⟨v, H1, I1, rv, q1⟩ => thn (ho pins s1 σ H1 _ I1 q1) fun u s2 ⟨x, H2, I2, rx, q2⟩ => thn (hi pins s2 σ H2 _ I2 q2) fun iv s3 ⟨y, H3, I3, ry, a, H4, ex, g, q3⟩ => ?_) hs
  subst ex
  obtain rfl : u = Value.ref a := rx
  exact d_setItem hu I3 g ry rv fun s4 I4 => ⟨σ, H4, I4, q3⟩
end
theorem dt_empty {P : Program} {w : World} {H : Hp} (h : Heap) (hb : sysModules < h.objs.size) : ObjOk P w H (h.push { cls := .type "dict", data := .dict #[] }) h.objs.size (.dT []) :=
  ⟨Nat.zero_le _, beq_eq_false_iff_ne.mpr (Ne.symm (Nat.ne_of_lt hb)), [], .nil, _, #[], 0, Heap.get?_push_size _ rfl, ⟨rfl, rfl, rfl⟩, rfl, rfl, List.nodup_nil⟩
def tDNewK : TE := fun _ H Q => ∀ p, H p = none → Q (.ref p) (upd H p (.dK []))
def tDNewT : TE := fun _ H Q => ∀ p, H p = none → Q (.ref p) (upd H p (.dT []))
section
variable {X : Cx} {pos : Pos}
theorem pe_dnewT : PE X (.Dict [] [] pos) tDNewT := fun pins s σ H Q I h =>
  wpAny_Dict_empty ⟨.ref s.heap.objs.size, _, I.laid (a := s.heap.objs.size) (o := .dT []) (t' := s.toks) (fun _ _ q => Heap.get?_push_of_some _ q) (Nat.le_refl _) (dt_empty s.heap I.big), rfl, h _ (I.hok.fresh (Nat.le_refl _))⟩
end
def tPairs : List (TE × TE) → St → Hp → (List (V × V) → Hp → Prop) → Prop
  | [], _, H, Q => Q [] H
  | (tk, tv) :: r, σ, H, Q => tk σ H fun x H1 => tv σ H1 fun y H2 => tPairs r σ H2 fun ps H3 => Q ((x, y) :: ps) H3
abbrev VV : List (V × V) → List (Value × Value) → Prop := Paired fun p q => RelV p.1 q.1 ∧ RelV p.2 q.2
def PPs (X : Cx) (pos : Pos) (keys : List (Option Expr)) (values : List Expr) (trs : List (TE × TE)) : Prop :=
  ∀ (pins : List (Addr × Obj)) (s : Shared) (σ : St) (H : Hp) (Q : List (V × V) → Hp → Prop), Inv X pins σ H s → tPairs trs σ H Q →
    wpAny (model X.prog X.w) X.A (evalPairs (pairTrees keys values X.env pos)) (fun vs s' => ∃ ps H', Inv X pins σ H' s' ∧ VV ps vs ∧ Q ps H') X.xe s
theorem pps_nil {X : Cx} {pos : Pos} : PPs X pos [] [] [] := fun pins s σ H Q I h => pairTrees_nil_walk ⟨[], H, I, .nil, h⟩
theorem pps_cons {X : Cx} {pos : Pos} {k v : Expr} {ks : List (Option Expr)} {vs : List Expr} {tk tv : TE} {trs : List (TE × TE)} (hk : PE X k tk) (hv : PE X v tv) (hr : PPs X pos ks vs trs) :
    PPs X pos (some k :: ks) (v :: vs) ((tk, tv) :: trs) := fun pins s σ H Q I h =>
  pairTrees_cons_walk (thn (hk pins s σ H _ I h) fun u s1 ⟨x, H1, I1, rx, q1⟩ => thn (hv pins s1 σ H1 _ I1 q1) fun w2 s2 ⟨y, H2, I2, ry, q2⟩ =>
    thn (hr pins s2 σ H2 _ I2 q2) fun ws s3 ⟨ps, H3, I3, rel, q3⟩ => ⟨(x, y) :: ps, H3, I3, .cons ⟨rx, ry⟩ rel, q3⟩)
def mergeK (kvs more : List (Key × V)) : List (Key × V) := more.foldl (fun acc kv => putK acc kv.1 kv.2) kvs
def tDisp (trs : List (TE × TE)) : TE := fun σ H Q => ∀ p, H p = none → tPairs trs σ (upd H p (.dK [])) fun ps H2 => H2 p = some (.dK []) ∧ ∃ kvs : List (Key × V), ps = kvs.map (fun kv => (kV kv.1, kv.2)) ∧ kvs.length ≤ 15 ∧ Q (.ref p) (upd H2 p (.dK (mergeK [] kvs)))
structure M1 (X : Cx) (o : Expr) (m : Str) (apos : Pos) (e : Expr) (cpos : Pos) : Prop where
  base : attributeBase o m X.env (eval o X.env) = eval o X.env
  few : ((backTo cpos (starEach [e] X.env)).all (fun x => !x.1) && (backToKw cpos (keywordEach [] X.env)).all (fun x => x.1.isSome)
    && decide (([e] : List Expr).length + ([] : List Keyword).length + (if ([] : List Keyword).isEmpty then 0 else 1) < 30)) = true
  line : (apos.endLine == cpos.line) = true
  trees : backTo cpos (starEach [e] X.env) = [(false, eval e X.env)]
structure M2 (X : Cx) (o : Expr) (m : Str) (apos : Pos) (e f : Expr) (cpos : Pos) : Prop where
  base : attributeBase o m X.env (eval o X.env) = eval o X.env
  few : ((backTo cpos (starEach [e, f] X.env)).all (fun x => !x.1) && (backToKw cpos (keywordEach [] X.env)).all (fun x => x.1.isSome)
    && decide (([e, f] : List Expr).length + ([] : List Keyword).length + (if ([] : List Keyword).isEmpty then 0 else 1) < 30)) = true
  line : (apos.endLine == cpos.line) = true
  trees : backTo cpos (starEach [e, f] X.env) = [(false, eval e X.env), (false, eval f X.env)]
def IsD (H : Hp) (a : Addr) : Prop := (∃ kvs, Rd H a (.dK kvs)) ∨ ∃ kvs, Rd H a (.dT kvs)
section
variable {X : Cx} {pins : List (Addr × Obj)} {σ : St} {H : Hp} {s : Shared} {a : Addr} {y d : V} {u r : Value} {o : Option V} {A : Around} {E : Value → Shared → Prop}
end
def tDGet1 (td ty : TE) : TE := fun σ H Q => td σ H fun x H1 => ∃ a, x = .ref a ∧ IsD H1 a ∧ ty σ H1 fun y H2 => ∃ o, DGet H2 a y o ∧ Q (o.getD .non) H2
def tDGet2 (td ty tx : TE) : TE := fun σ H Q => td σ H fun x H1 => ∃ a, x = .ref a ∧ IsD H1 a ∧ ty σ H1 fun y H2 => tx σ H2 fun z H3 => ∃ o, DGet H3 a y o ∧ Q (o.getD z) H3
def tDPop1 (td ty : TE) : TE := fun σ H Q => td σ H fun x H1 => ∃ a, x = .ref a ∧ IsD H1 a ∧ ty σ H1 fun y H2 => ∃ kvs k v, H2 a = some (.dK kvs) ∧ y = kV k ∧ valV kvs k = some v ∧ Q v (upd H2 a (.dK (dropK kvs k)))
def tDPop2 (td ty tx : TE) : TE := fun σ H Q => td σ H fun x H1 => ∃ a, x = .ref a ∧ IsD H1 a ∧ ty σ H1 fun y H2 => tx σ H2 fun z H3 => ∃ kvs k, H3 a = some (.dK kvs) ∧ y = kV k ∧
  (∀ v, valV kvs k = some v → Q v (upd H3 a (.dK (dropK kvs k)))) ∧ (valV kvs k = none → Q z H3)
section
variable {X : Cx} {o e f : Expr} {apos cpos : Pos} {td ty tx : TE}
end
section
variable {X : Cx} {pins : List (Addr × Obj)} {σ : St} {H : Hp} {s : Shared} {a : Addr} {kvs : List (Key × V)} {A : Around} {E : Value → Shared → Prop}
end
section
variable {X : Cx} {pins : List (Addr × Obj)} {σ : St} {H : Hp} {s : Shared} {a : Addr} {y : V} {u : Value} {A : Around} {E : Value → Shared → Prop}
end
end L2
namespace L2
open PySem PySem.Spec PyProof.Rows
section
variable {X : Cx} {pins : List (Addr × Obj)} {σ : St} {H : Hp} {s : Shared} {d : Addr} {o : Obj} {u v : HO}
theorem Inv.swap (I : Inv X pins σ H s) (e : H d = some u) (nt : ∀ xs, u ≠ .tup xs) (no : ∀ x, u ≠ .own x) (nb : ∀ ps, u ≠ .tbl ps) (nf : ∀ o w, u = .frz o w → ∀ o w, X.H₀ d ≠ some (.frz o w))
    (new : ObjOk X.prog X.w H s.heap d u → ∀ H' : Hp, (∀ b xs, H b = some (.tup xs) → H' b = some (.tup xs)) → (∀ b x, H b = some (.own x) → H' b = some (.own x)) → ObjOk X.prog X.w H' s.heap d v) : Inv X pins σ (upd H d v) s := by
  have nd : ∀ {b : Addr}, H b = none → b ≠ d := fun z => (ne_of_none e z).symm
  have tt : ∀ b xs, H b = some (.tup xs) → upd H d v b = some (.tup xs) := fun b xs q => by rw [upd_ne (ne_of q e (fun z => nt xs z.symm))]; exact q
  have oo : ∀ b x, H b = some (.own x) → upd H d v b = some (.own x) := fun b x q => by rw [upd_ne (ne_of q e (fun z => no x z.symm))]; exact q
  refine ⟨I.ok, I.os, I.bare, ⟨I.base.keep, I.base.slot, fun b q h1 h2 h3 => ?_, I.base.there, fun b xs q => tt b xs (I.base.tups b xs q), fun b o' w q => ?_, fun b ps q => ?_⟩, I.loc, I.cell, ?_, fun x c q => ?_, fun p hp => ?_, fun b w q => ?_, I.len⟩
  · have z := I.base.free b q h1 h2 h3
    rw [upd_ne (nd z)]; exact z
  · have z := I.base.frzs b o' w q
    by_cases hb : b = d
    · subst hb; rw [e] at z; injection z with z
      exact absurd q (nf o' w z o' w)
    · rw [upd_ne hb]; exact z
  · obtain ⟨more, z⟩ := I.base.tbls b ps q
    by_cases hb : b = d
    · subst hb; rw [e] at z; injection z with z
      exact absurd z (nb _)
    · exact ⟨more, by rw [upd_ne hb]; exact z⟩
  · rw [upd_ne (nd I.free)]; exact I.free
  · rw [upd_ne (nd (I.freeC x c q))]; exact I.freeC x c q
  · obtain ⟨z1, z2, z3⟩ := I.pin p hp
    exact ⟨z1, by rw [upd_ne (nd z2)]; exact z2, z3⟩
  · by_cases hb : b = d
    · subst hb
      rw [upd_same] at q; injection q with q; subst q
      exact new (I.hok b _ e) _ tt oo
    · rw [upd_ne hb] at q
      exact (I.hok b w q).stay (fun _ _ _ z => z) (fun c z => oo c b z) tt
theorem Inv.freeze {kvs : List (List Key × V)} (I : Inv X pins σ H s) (e : H d = some (.dT kvs)) (ho : s.heap.get? d = some o) : Inv X pins σ (upd H d (.frz o (.dT kvs))) s :=
  I.swap e (by intro _ z; cases z) (by intro _ z; cases z) (by intro _ z; cases z) (by intro _ _ z; cases z) fun x H' t w => ⟨ho, x.stay (fun _ _ _ z => z) (fun b z => w b d z) t⟩
theorem Inv.thaw (I : Inv X pins σ H s) (e : H d = some (.frz o u)) (n : ∀ o w, X.H₀ d ≠ some (.frz o w)) : Inv X pins σ (upd H d u) s :=
  I.swap e (by intro _ z; cases z) (by intro _ z; cases z) (by intro _ z; cases z) (fun _ _ _ => n) fun x H' t w => x.2.stay (fun _ _ _ z => z) (fun b z => w b d z) t
end
def Thw (H0 : Hp) (H : Hp) (K : Hp → Prop) : Prop := K H ∨ ∃ d o u, H d = some (.frz o u) ∧ (∀ o w, H0 d ≠ some (.frz o w)) ∧ K (upd H d u)
section
variable {X : Cx}
theorem Thw.inv {pins : List (Addr × Obj)} {σ : St} {H : Hp} {s : Shared} {K : Hp → Prop} (h : Thw X.H₀ H K) (I : Inv X pins σ H s) : ∃ H', Inv X pins σ H' s ∧ K H' := by
  rcases h with h | ⟨d, o, u, e, n, h⟩
  · exact ⟨H, I, h⟩
  · exact ⟨_, I.thaw e n, h⟩
def tThw (H0 : Hp) (t : TE) : TE := fun σ H Q => t σ H fun v H' => Thw H0 H' (Q v)
theorem pe_thw {e : Expr} {t : TE} (h : PE X e t) : PE X e (tThw X.H₀ t) := by
  intro pins s σ H Q I q
  refine thn (h pins s σ H _ I q) fun u s' ⟨v, H', I', r, z⟩ => ?_
  obtain ⟨H2, I2, z2⟩ := z.inv I'
  exact ⟨v, H2, I2, r, z2⟩
end
end L2
namespace L2
open PySem PySem.Spec PyProof.Rows
section
variable {prog : Program} {w : World} {A : Around} {E : Value → Shared → Prop} {s : Shared} {it d : Addr} {i n ep : Nat} {es : Array DictEntry} {o : Obj}
theorem key_next {e : DictEntry} {Q : Option Value → Shared → Prop} (hit : s.heap.IsKeyIter it d i n ep) (hod : s.heap.get? d = some o) (hdd : o.data = .dict es ep) (hn : es.size = n) (hx : es[i]? = some e)
    (hQ : ∀ h', h'.IsKeyIter it d (i + 1) n ep → Heap.SameBut it s.heap h' → Q (some e.key) { s with heap := h' }) : wpAny (model prog w) A (pyNext (.ref it)) Q E s := by
  obtain ⟨oi, hoi, hci, hdi⟩ := id hit
  have T := hit.typeIs
  have own : Builtin.Dict_items.ownsTuple "dict_keyiterator" = false := by decide
  have nn : ¬ ((Value.ref d == Value.none) = true) := fun z => Bool.false_ne_true z
  unfold pyNext; refine wpAny_bind (wpAny_attempt (wpAny_callSpecial?_slot (name := Str.ofString "__next__") T F.slot_dict_keyiterator_next (wpAny_call_entry F.slot_dict_keyiterator_next T F.entry_dict_keyiterator_next ?_ (F.args_dict_keyiterator_next_1 _))))
  refine wpAny_bind (wpAny_pure (wpAny_bind (wpAny_bind ?_))); refine wpAny_bind (wpAny_typeNameOfWhole_keyiter T (wpAny_pure (wpAny_bind (wpAny_fieldsOf hoi hdi ?_))))
  simp only [own, Bool.false_eq_true, if_false]; show wpAny _ _ (if (Value.ref d == Value.none) = true then _ else _) _ _ s; rw [if_neg nn]
  refine wpAny_bind (wpAny_pure (wpAny_bind (wpAny_dictEntries hod hdd ?_))); rw [if_neg (by rw [hn]; simp)]
  refine wpAny_bind (wpAny_pure (wpAny_bind (wpAny_dictEpoch hod hdd ?_))); rw [if_neg (by simp)]
  have lt : ¬ ((i : Int) < 0) := by omega
  refine wpAny_pure ?_; simp only [lt, if_false, Int.toNat_natCast, hx]
  refine wpAny_bind (wpAny_bind (wpAny_typeNameOfWhole_keyiter T (wpAny_pure (wpAny_bind (wpAny_isOneOf_keyiter T ?_)))))
  show wpAny _ _ (setField (.ref it) 1 (rawInt ((i : Int) + 1)) >>= _) _ _ s; refine wpAny_bind (wpAny_setField hoi hdi (by simp) ?_)
  have hit' : (s.heap.update it (Obj.mapFields (·.setIfInBounds 1 (rawInt ((i : Int) + 1))))).IsKeyIter it d (i + 1) n ep := ⟨_, Heap.get?_update_self _ hoi (Obj.isFreed_of_fields (Obj.data_mapFields hdi _)), (Obj.cls_mapFields ..).trans hci, by rw [Obj.data_mapFields hdi]; simp [rawInt]⟩
  have T' : Shared.TypeIs { s with heap := s.heap.update it (Obj.mapFields (·.setIfInBounds 1 (rawInt ((i : Int) + 1)))) } (.ref it) "dict_keyiterator" := hit'.typeIs
  refine wpAny_bind (wpAny_holding (wpAny_bind (wpAny_isOneOf_keyiter T' ?_))); show wpAny _ _ (pure e.key) _ _ _
  exact wpAny_pure (wpAny_pure ⟨_, rfl, wpAny_pure (hQ _ hit' (Heap.SameBut.update ..))⟩)
theorem stop_end {A' : Around} {Q : Option Value → Shared → Prop} {E' : Value → Shared → Prop} (hh : A'.handled = none) (hQ : ∀ h', (∀ b o, s.heap.get? b = some o → h'.get? b = some o) → Q none { s with heap := h' }) {P : Fin → Shared → Prop} :
    wpAny (model prog w) A' (newExc (.type "StopIteration") [] >>= fun e => raiseNew e) P (fun e s' => wpAny (model prog w) A (do if (← isInstance e (.type "StopIteration")) = true then pure none else throw e) Q E' s') s := by
  refine wpAny_bind ?_
  simp only [newExc, newTuple]; refine wpAny_bind (wpAny_newObj_type (wpAny_bind (m := firstArgMember _ _) (wpAny_of_eq (a := Value.none) (by first | rfl | (simp only [firstArgMember]; rfl)) (wpAny_newObj_type ?_ (by size_fits)))) (by size_fits))
  simp only [raiseNew]; refine wpAny_bind (wpAny_handled ?_); rw [hh]
  refine wpAny_bind (wpAny_pure (wpAny_throw ?_))
  have sub := isSubtype_stop; refine wpAny_bind (wpAny_isInstance (T := "StopIteration") (b := true) ⟨_, Heap.get?_push_size _ rfl, rfl⟩ sub ?_)
  exact wpAny_pure (hQ _ fun b o e => Heap.get?_push_of_some _ (Heap.get?_push_of_some _ e))
theorem key_end {Q : Option Value → Shared → Prop} (hh : A.handled = none) (hit : s.heap.IsKeyIter it d i n ep) (hod : s.heap.get? d = some o) (hdd : o.data = .dict es ep) (hn : es.size = n) (hx : n ≤ i)
    (hQ : ∀ h', Heap.ExtBut it s.heap h' → Q none { s with heap := h' }) : wpAny (model prog w) A (pyNext (.ref it)) Q E s := by
  obtain ⟨oi, hoi, hci, hdi⟩ := id hit
  have T := hit.typeIs
  have own : Builtin.Dict_items.ownsTuple "dict_keyiterator" = false := by decide
  have nn : ¬ ((Value.ref d == Value.none) = true) := fun z => Bool.false_ne_true z
  unfold pyNext; refine wpAny_bind (wpAny_attempt (wpAny_callSpecial?_slot (name := Str.ofString "__next__") T F.slot_dict_keyiterator_next (wpAny_call_entry F.slot_dict_keyiterator_next T F.entry_dict_keyiterator_next ?_ (F.args_dict_keyiterator_next_1 _))))
  refine wpAny_bind (wpAny_pure (wpAny_bind (wpAny_bind ?_))); refine wpAny_bind (wpAny_typeNameOfWhole_keyiter T (wpAny_pure (wpAny_bind (wpAny_fieldsOf hoi hdi ?_))))
  simp only [own, Bool.false_eq_true, if_false]; show wpAny _ _ (if (Value.ref d == Value.none) = true then _ else _) _ _ s; rw [if_neg nn]
  refine wpAny_bind (wpAny_pure (wpAny_bind (wpAny_dictEntries hod hdd ?_))); rw [if_neg (by rw [hn]; simp)]
  refine wpAny_bind (wpAny_pure (wpAny_bind (wpAny_dictEpoch hod hdd ?_))); rw [if_neg (by simp)]
  have lt : ¬ ((i : Int) < 0) := by omega
  have hx' : es[i]? = none := Array.getElem?_eq_none (by omega)
  refine wpAny_pure ?_; simp only [lt, if_false, Int.toNat_natCast, hx']
  refine wpAny_bind (wpAny_bind (wpAny_typeNameOfWhole_keyiter T (wpAny_pure ?_)))
  show wpAny _ _ (setField (.ref it) 0 .none >>= _) _ _ s; refine wpAny_bind (wpAny_setField hoi hdi (by simp) ?_)
  refine stop_end (A := A) (A' := A.in1) (E' := E) hh fun h' k => ?_
  exact hQ h' fun b o hb e => k b o ((Heap.SameBut.update ..).extBut b o hb e)
theorem item_next {e : DictEntry} {ok ov : Value} {Q : Option Value → Shared → Prop} (hit : IsItemIter s.heap it d i n ep ok ov) (hod : s.heap.get? d = some o) (hdd : o.data = .dict es ep) (hn : es.size = n) (hx : es[i]? = some e)
    (hQ : ∀ h', IsItemIterOut h' it d (i + 1) n ep e.key e.val s.heap.objs.size → h'.get? s.heap.objs.size = some { cls := .type "tuple", data := .seq #[e.key, e.val] } → h'.objs.size = s.heap.objs.size + 1 →
      (∀ b q, b ≠ it → s.heap.get? b = some q → h'.get? b = some q) → Q (some (.ref s.heap.objs.size)) { s with heap := h' }) : wpAny (model prog w) A (pyNext (.ref it)) Q E s := by
  have T : s.TypeIs (.ref it) "dict_itemiterator" := ⟨_, hit, rfl⟩
  have own : Builtin.Dict_items.ownsTuple "dict_itemiterator" = true := by decide
  have nn : ¬ ((Value.ref d == Value.none) = true) := fun z => Bool.false_ne_true z
  unfold pyNext; refine wpAny_bind (wpAny_attempt (wpAny_callSpecial?_slot (name := Str.ofString "__next__") T F.slot_dict_itemiterator_next (wpAny_call_entry F.slot_dict_itemiterator_next T F.entry_dict_itemiterator_next ?_ (F.args_dict_itemiterator_next_1 _))))
  refine wpAny_bind (wpAny_pure (wpAny_bind (wpAny_bind ?_))); refine wpAny_bind (wpAny_typeNameOfWhole_itemiter T (wpAny_pure (wpAny_bind (wpAny_fieldsOf hit rfl ?_))))
  simp only [own, if_true]; show wpAny _ _ (if (Value.ref d == Value.none) = true then _ else _) _ _ s; rw [if_neg nn]
  refine wpAny_bind (wpAny_pure (wpAny_bind (wpAny_dictEntries hod hdd ?_))); rw [if_neg (by rw [hn]; simp)]
  refine wpAny_bind (wpAny_pure (wpAny_bind (wpAny_dictEpoch hod hdd ?_))); rw [if_neg (by simp)]
  have lt : ¬ ((i : Int) < 0) := by omega
  refine wpAny_pure ?_; simp only [lt, if_false, Int.toNat_natCast, hx]
  refine wpAny_bind (wpAny_bind (wpAny_typeNameOfWhole_itemiter T (wpAny_pure (wpAny_bind (wpAny_isOneOf_itemiter T ?_)))))
  show wpAny _ _ (setField (.ref it) 3 (rawInt ((i : Int) + 1)) >>= _) _ _ s; refine wpAny_bind (wpAny_setField_rec hit (by simp) fun h1 e1 s1 => ?_)
  have i1 : IsItemIter h1 it d (i + 1) n ep ok ov := by
    have z : ((i + 1 : Nat) : Int) = (i : Int) + 1 := by omega
    unfold IsItemIter; rw [z]; simpa [rawInt] using e1
  have T1 : Shared.TypeIs { s with heap := h1 } (.ref it) "dict_itemiterator" := ⟨_, i1, rfl⟩
  refine wpAny_bind (wpAny_holding (wpAny_bind (wpAny_isOneOf_itemiter T1 (wpAny_bind (wpAny_isOneOf_itemiter T1 ?_)))))
  show wpAny _ _ (Builtin.Dict_items.pairFromOwner (.ref it) 6 e.key e.val) _ _ _
  unfold Builtin.Dict_items.pairFromOwner; refine wpAny_bind (wpAny_newTuple ?_)
  have z1 : h1.objs.size = s.heap.objs.size := s1.1
  have lit : it < s.heap.objs.size := Heap.lt_size hit
  have i2 : IsItemIter (h1.push { cls := .type "tuple", data := .seq #[e.key, e.val] }) it d (i + 1) n ep ok ov := Heap.get?_push_of_some _ i1
  have t2 : (h1.push { cls := .type "tuple", data := .seq #[e.key, e.val] }).get? s.heap.objs.size = some { cls := .type "tuple", data := .seq #[e.key, e.val] } := by rw [← z1]; exact Heap.get?_push_size _ rfl
  have z2 : (h1.push { cls := .type "tuple", data := .seq #[e.key, e.val] }).objs.size = s.heap.objs.size + 1 := by rw [Heap.size_push, z1]
  have k2 : ∀ b q, b ≠ it → s.heap.get? b = some q → (h1.push { cls := .type "tuple", data := .seq #[e.key, e.val] }).get? b = some q := fun b q hb z => Heap.get?_push_of_some _ (s1.extBut b q hb z)
  dsimp only
  rw [z1]
  show wpAny _ _ (Builtin.Dict_items.ownedTupleIsFree (.ref it) >>= _) _ _ { s with heap := h1.push { cls := .type "tuple", data := .seq #[e.key, e.val] } }
  generalize (h1.push { cls := .type "tuple", data := .seq #[e.key, e.val] } : Heap) = h2 at *
  refine wpAny_bind ?_; unfold Builtin.Dict_items.ownedTupleIsFree; refine wpAny_bind (wpAny_field i2 rfl (x := .none) rfl (wpAny_pure ?_)); simp only [if_true]
  refine wpAny_bind (wpAny_field i2 rfl (x := ok) rfl (wpAny_bind (wpAny_field i2 rfl (x := ov) rfl (wpAny_bind (wpAny_setField_rec i2 (by simp) fun h3 e3 s3 => ?_)))))
  have i3 : IsItemIter h3 it d (i + 1) n ep e.key ov := e3
  refine wpAny_bind (wpAny_setField_rec i3 (by simp) fun h4 e4 s4 => ?_)
  have i4 : IsItemIter h4 it d (i + 1) n ep e.key e.val := e4
  refine wpAny_bind (wpAny_setField_rec i4 (by simp) fun h5 e5 s5 => ?_)
  have i5 : IsItemIterOut h5 it d (i + 1) n ep e.key e.val s.heap.objs.size := e5
  refine wpAny_bind (wpAny_setField_rec i5 (by simp) fun h6 e6 s6 => ?_)
  have i6 : IsItemIterOut h6 it d (i + 1) n ep e.key e.val s.heap.objs.size := e6
  have kp : ∀ b q, b ≠ it → h2.get? b = some q → h6.get? b = some q := fun b q hb z => s6.extBut b q hb (s5.extBut b q hb (s4.extBut b q hb (s3.extBut b q hb z)))
  refine wpAny_bind (wpAny_letGo (wpAny_pure (wpAny_pure ⟨_, rfl, wpAny_pure (hQ h6 i6 (kp _ _ (Nat.ne_of_gt lit) t2) ?_ fun b q hb z => kp b q hb (k2 b q hb z))⟩)))
  exact (s6.1.trans (s5.1.trans (s4.1.trans s3.1))).trans z2
theorem item_end {ok ov : Value} {Q : Option Value → Shared → Prop} (hh : A.handled = none) (hit : IsItemIter s.heap it d i n ep ok ov) (hod : s.heap.get? d = some o) (hdd : o.data = .dict es ep) (hn : es.size = n) (hx : n ≤ i)
    (hQ : ∀ h', Heap.ExtBut it s.heap h' → Q none { s with heap := h' }) : wpAny (model prog w) A (pyNext (.ref it)) Q E s := by
  have T : s.TypeIs (.ref it) "dict_itemiterator" := ⟨_, hit, rfl⟩
  have own : Builtin.Dict_items.ownsTuple "dict_itemiterator" = true := by decide
  have nn : ¬ ((Value.ref d == Value.none) = true) := fun z => Bool.false_ne_true z
  unfold pyNext; refine wpAny_bind (wpAny_attempt (wpAny_callSpecial?_slot (name := Str.ofString "__next__") T F.slot_dict_itemiterator_next (wpAny_call_entry F.slot_dict_itemiterator_next T F.entry_dict_itemiterator_next ?_ (F.args_dict_itemiterator_next_1 _))))
  refine wpAny_bind (wpAny_pure (wpAny_bind (wpAny_bind ?_))); refine wpAny_bind (wpAny_typeNameOfWhole_itemiter T (wpAny_pure (wpAny_bind (wpAny_fieldsOf hit rfl ?_))))
  simp only [own, if_true]; show wpAny _ _ (if (Value.ref d == Value.none) = true then _ else _) _ _ s; rw [if_neg nn]
  refine wpAny_bind (wpAny_pure (wpAny_bind (wpAny_dictEntries hod hdd ?_))); rw [if_neg (by rw [hn]; simp)]
  refine wpAny_bind (wpAny_pure (wpAny_bind (wpAny_dictEpoch hod hdd ?_))); rw [if_neg (by simp)]
  have lt : ¬ ((i : Int) < 0) := by omega
  have hx' : es[i]? = none := Array.getElem?_eq_none (by omega)
  refine wpAny_pure ?_; simp only [lt, if_false, Int.toNat_natCast, hx']
  refine wpAny_bind (wpAny_bind (wpAny_typeNameOfWhole_itemiter T (wpAny_pure ?_)))
  show wpAny _ _ (setField (.ref it) 2 .none >>= _) _ _ s; refine wpAny_bind (wpAny_setField hit rfl (by simp) ?_)
  refine stop_end (A := A) (A' := A.in1) (E' := E) hh fun h' k => ?_
  exact hQ h' fun b o hb e => k b o ((Heap.SameBut.update ..).extBut b o hb e)
end
end L2
namespace L2
open PySem PySem.Spec PyProof.Rows
theorem Paired.at' {α β : Type} {F : α → β → Prop} : ∀ {l : List α} {m : List β}, Paired F l m → ∀ {i : Nat} {a : α}, l[i]? = some a → ∃ b, m[i]? = some b ∧ F a b
  | _, _, .nil, i, a, h => by simp at h
  | _, _, .cons r _, 0, a, h => by simp at h; subst h; exact ⟨_, rfl, r⟩
  | _, _, .cons _ t, i + 1, a, h => by
    rw [List.getElem?_cons_succ] at h
    obtain ⟨b, h1, h2⟩ := Paired.at' t h
    exact ⟨b, by rw [List.getElem?_cons_succ]; exact h1, h2⟩
def FzD (H : Hp) (d : Addr) (o : Obj) (kvs : List (List Key × V)) : Prop := H d = some (.frz o (.dT kvs))
def ItK (d : Addr) (o : Obj) (kvs : List (List Key × V)) : It :=
  ⟨fun i H => FzD H d o kvs ∧ i < kvs.length, fun i H x H' => H' = H ∧ ∃ b k v, kvs[i]? = some (k, v) ∧ H b = some (.tup (k.map kV)) ∧ x = .ref b, fun i H => FzD H d o kvs ∧ kvs.length ≤ i⟩
def ItI (d : Addr) (o : Obj) (kvs : List (List Key × V)) : It :=
  ⟨fun i H => FzD H d o kvs ∧ i < kvs.length, fun i H x H' => ∃ p b k v, H p = none ∧ kvs[i]? = some (k, v) ∧ H b = some (.tup (k.map kV)) ∧ x = .ref p ∧ H' = upd H p (.tup [.ref b, v]), fun i H => FzD H d o kvs ∧ kvs.length ≤ i⟩
section
variable {X : Cx} {pins : List (Addr × Obj)} {σ : St} {H : Hp} {s : Shared} {d : Addr} {o : Obj} {kvs : List (List Key × V)} {es : Array DictEntry} {ep : Nat}
theorem Inv.entries (I : Inv X pins σ H s) (e : FzD H d o kvs) (hdd : o.data = .dict es ep) :
    s.heap.get? d = some o ∧ es.size = kvs.length ∧ ∀ (i : Nat) (k : List Key) (v : V), kvs[i]? = some (k, v) → ∃ (b : Addr) (e : DictEntry), es[i]? = some e ∧ e.key = .ref b ∧ H b = some (.tup (k.map kV)) ∧ RelV v e.val := by
  obtain ⟨hg, z, y, xs, r, o', es', ep', h1, h2, h3, h4, h5⟩ := I.hok d _ e
  have eo : o' = o := Option.some.inj (h1.symm.trans hg)
  subst eo
  rw [hdd] at h3
  injection h3 with h3 _
  subst h3
  refine ⟨hg, (size_of_entries h4).trans (Paired.length r).symm, fun i k v hx => ?_⟩
  obtain ⟨⟨k', b, u⟩, q1, q2, q3, q4⟩ := Paired.at' r hx
  refine ⟨b, entryOfKey (tupleKind (mixKind X.prog X.w)) (k', b, u), by rw [entry_at h4 i, q1]; rfl, rfl, q3, q4⟩
end
theorem turn_dkey {P : Program} {w : World} {K : PySem.W.Frag} {tg : Expr} {d it : Addr} {o : Obj} {kvs : List (List Key × V)} {es : Array DictEntry} {ep : Nat} (hdd : o.data = .dict es ep) :
    Turn P w K tg (ItK d o kvs) [it] it (fun i h => h.IsKeyIter it d i kvs.length ep) where
  mem := by simp
  obj := fun i h st b hb => by
    have e : b = it := by simpa using hb
    subst e
    obtain ⟨q, e, c, z⟩ := st
    exact ⟨q, e, fun v y => by rw [z] at y; cases y⟩
  keep := fun i h h' st k => st.at fun q e => k it (by simp) q e
  item := by
    intro X hP hw hK hc i pins s σ H E I hf st hg
    subst hP hw hK
    obtain ⟨fz, lt⟩ := hg
    obtain ⟨hd, hz, he⟩ := I.entries fz hdd
    obtain ⟨⟨k, v⟩, hx⟩ : ∃ p, kvs[i]? = some p := ⟨kvs[i], by simp [lt]⟩
    obtain ⟨b, e, ee, ek, eb, _⟩ := he i k v hx
    obtain ⟨f0, f1, f2, f3, f4, f5⟩ := hf it (by simp)
    refine key_next st hd hdd hz ee fun h' st' sb => ?_
    have I1 : Inv X pins σ H { s with heap := h' } := I.turned (t' := s.toks) (fun c q hb z => (sb.2 c hb).trans z) f0 f1 f3 f4 f5
    obtain ⟨q, e', c, z⟩ := id st'
    exact ⟨e.key, rfl, go_of (s := { s with heap := h' }) e' c z (by decide) ⟨.ref b, H, I1, by rw [ek]; rfl, ⟨rfl, b, k, v, hx, eb, rfl⟩, st', fun c hc' => (hf c hc').1⟩⟩
  done := by
    intro X hP hw hK hc i pins s σ H E I hf st hg
    subst hP hw hK
    obtain ⟨fz, ge⟩ := hg
    obtain ⟨hd, hz, he⟩ := I.entries fz hdd
    obtain ⟨f0, f1, f2, f3, f4, f5⟩ := hf it (by simp)
    exact key_end (I.ok.hd hc) st hd hdd hz ge fun h' eb => ⟨rfl, I.turned (t' := s.toks) (fun b q hb e => eb b q hb e) f0 f1 f3 f4 f5⟩
  self := fun _ _ _ _ _ st h => wpAny_pyIter_keyiter st h
theorem wpAny_pyIter_self_item {prog : Program} {w : World} {A : Around} {E : Value → Shared → Prop} {s : Shared} {it d : Addr} {i n ep : Nat} {ok ov : Value} {Q : Value → Shared → Prop} (hit : IsItemIter s.heap it d i n ep ok ov) (h : Q (.ref it) s) :
    wpAny (model prog w) A (pyIter (.ref it)) Q E s := by
  have T : s.TypeIs (.ref it) "dict_itemiterator" := ⟨_, hit, rfl⟩
  have en : entryFor table "dict_itemiterator.__iter__" = some Builtin.«dict_keyiterator.__iter__» := entryFor_alias (id' := "dict_keyiterator.__iter__") (by kernel_rfl) rfl (by decide +kernel) (by kernel_rfl)
  refine wpAny_pyIter_slot T F.slot_dict_itemiterator_iter (wpAny_call_entry F.slot_dict_itemiterator_iter T en ?_ (F.args_dict_itemiterator_iter_1 _))
  exact wpAny_pure ⟨_, rfl, "dict_itemiterator", _, T, F.slot_dict_itemiterator_next.lookup, h⟩
theorem turn_ditem {P : Program} {w : World} {K : PySem.W.Frag} {xs : List Expr} {xk : Nat} {pos : Pos} {d it : Addr} {o : Obj} {kvs : List (List Key × V)} {es : Array DictEntry} {ep : Nat} (hdd : o.data = .dict es ep) :
    Turn P w K (.Tuple xs xk pos) (ItI d o kvs) [it] it (fun i h => ∃ ok ov, IsItemIter h it d i kvs.length ep ok ov) where
  mem := by simp
  obj := fun i h ⟨ok, ov, st⟩ b hb => by
    have e : b = it := by simpa using hb
    subst e
    exact ⟨_, st, fun v y => by cases y⟩
  keep := fun i h h' ⟨ok, ov, st⟩ k => ⟨ok, ov, k it (by simp) _ st⟩
  item := by
    intro X hP hw hK hc i pins s σ H E I hf st hg
    subst hP hw hK
    obtain ⟨ok, ov, st⟩ := st
    obtain ⟨fz, lt⟩ := hg
    obtain ⟨hd, hz, he⟩ := I.entries fz hdd
    obtain ⟨⟨k, v⟩, hx⟩ : ∃ p, kvs[i]? = some p := ⟨kvs[i], by simp [lt]⟩
    obtain ⟨b, e, ee, ek, eb, rv⟩ := he i k v hx
    have lit : it < s.heap.objs.size := Heap.lt_size st
    refine item_next st hd hdd hz ee fun h' st' tp sz kp => ?_
    refine ⟨_, rfl, wpAny_letOwnedTupleGo_items st' fun h'' st2 sb => ?_⟩
    have tp2 : h''.get? s.heap.objs.size = some { cls := .type "tuple", data := .seq #[e.key, e.val] } := sb.extBut _ _ (Nat.ne_of_gt lit) tp
    have kp2 : ∀ c q, c ∉ [it] → s.heap.get? c = some q → h''.get? c = some q := fun c q hc z => sb.extBut c q (by simpa using hc) (kp c q (by simpa using hc) z)
    refine ⟨.ref s.heap.objs.size, upd H s.heap.objs.size (.tup [.ref b, v]), I.drawn (t' := s.toks) (ch := [it]) (fun c hc => hf c hc) kp2 (Nat.le_refl _) ?_, rfl, ⟨_, b, k, v, I.fresh, hx, eb, rfl, rfl⟩, ⟨_, _, st2⟩, fun c hc => ?_⟩
    · exact ⟨by show 2 ≤ sizeLine; rw [sizeLine_eq]; decide, [e.key, e.val], .cons (by rw [ek]; rfl) (.cons rv .nil), ⟨_, tp2, rfl, _, rfl⟩⟩
    · have e : c = it := by simpa using hc
      subst e
      rw [upd_ne (Nat.ne_of_lt lit)]
      exact (hf c (by simp)).1
  done := by
    intro X hP hw hK hc i pins s σ H E I hf st hg
    subst hP hw hK
    obtain ⟨ok, ov, st⟩ := st
    obtain ⟨fz, ge⟩ := hg
    obtain ⟨hd, hz, he⟩ := I.entries fz hdd
    obtain ⟨f0, f1, f2, f3, f4, f5⟩ := hf it (by simp)
    exact item_end (I.ok.hd hc) st hd hdd hz ge fun h' eb => ⟨rfl, I.turned (t' := s.toks) (fun b q hb e => eb b q hb e) f0 f1 f3 f4 f5⟩
  self := fun _ _ _ _ _ ⟨_, _, st⟩ h => wpAny_pyIter_self_item st h
end L2
namespace L2
open PySem PySem.Spec PyProof.Rows
section
variable {prog : Program} {w : World} {A : Around} {E : Value → Shared → Prop} {s : Shared} {d : Addr} {ep : Nat} {es : Array DictEntry} {o : Obj}
theorem dict_iter {Q : Value → Shared → Prop} (hs : (d == sysModules) = false) (T : s.TypeIs (.ref d) "dict") (ho : s.heap.get? d = some o) (hdd : o.data = .dict es ep)
    (hQ : Q (.ref s.heap.objs.size) { s with heap := s.heap.push { cls := .type "dict_keyiterator", data := .fields #[.ref d, .int 0 0, .int es.size 0, .int ep 0] } }) : wpAny (model prog w) A (pyIter (.ref d)) Q E s := by
  refine wpAny_pyIter_slot T F.slot_dict_iter (wpAny_call_entry F.slot_dict_iter T F.entry_dict_iter ?_ (F.args_dict_iter_1 _))
  unfold Builtin.«dict.__iter__»; refine wpAny_bind ?_; unfold Builtin.Dict.dictSlotNone; refine wpAny_bind (wpAny_notOrdered_dict T (wpAny_pure ?_))
  have no : ¬ ((d == sysModules) = true) := by rw [hs]; exact Bool.false_ne_true
  show wpAny _ _ (Builtin.Dict.showsAll d >>= _) _ _ s; unfold Builtin.Dict.showsAll; rw [if_neg no]
  refine wpAny_bind (wpAny_pure (wpAny_bind (wpAny_dictEntries ho hdd (wpAny_bind (wpAny_dictEpoch ho hdd ?_)))))
  exact wpAny_bind (wpAny_newObj_type (wpAny_pure ⟨_, rfl, "dict_keyiterator", _, ⟨_, Heap.get?_push_size _ rfl, rfl⟩, F.slot_dict_keyiterator_next.lookup, hQ⟩))
theorem dict_items {Q : Value → Shared → Prop} (hs : (d == sysModules) = false) (T : s.TypeIs (.ref d) "dict") (hQ : Q (.ref s.heap.objs.size) { s with heap := s.heap.push { cls := .type "dict_items", data := .fields #[.ref d] } }) :
    wpAny (model prog w) A (call (.builtin "dict.items") [.ref d]) Q E s := by
  refine wpAny_call_entry F.slot_dict_items T F.entry_dict_items ?_ (F.args_dict_items_1 _)
  have no : ¬ ((d == sysModules) = true) := by rw [hs]; exact Bool.false_ne_true
  unfold Builtin.«dict.items»; refine wpAny_bind ?_; unfold Builtin.Dict.noArgs; refine wpAny_bind (wpAny_notOrdered_dict T (wpAny_pure ?_))
  show wpAny _ _ (Builtin.Dict.showsAll d >>= _) _ _ s; unfold Builtin.Dict.showsAll; rw [if_neg no]
  exact wpAny_bind (wpAny_pure (wpAny_bind (wpAny_newObj_type (wpAny_pure ⟨_, rfl, hQ⟩))))
theorem view_iter {v : Addr} {Q : Value → Shared → Prop} (hv : s.heap.IsItemsView v d) (ho : s.heap.get? d = some o) (hdd : o.data = .dict es ep)
    (hQ : Q (.ref s.heap.objs.size) { s with heap := s.heap.push { cls := .type "dict_itemiterator", data := .fields #[.none, .bool false, .ref d, .int 0 0, .int es.size 0, .int ep 0, .none, .none] } }) : wpAny (model prog w) A (pyIter (.ref v)) Q E s := by
  obtain ⟨q, hq, hc, hdv⟩ := id hv
  have own : Builtin.Dict_items.ownsTuple "dict_itemiterator" = true := by decide
  refine wpAny_pyIter_slot hv.typeIs F.slot_dict_items_iter (wpAny_call_entry F.slot_dict_items_iter hv.typeIs F.entry_dict_items_iter ?_ (F.args_dict_items_iter_1 _))
  unfold Builtin.«dict_items.__iter__»; refine wpAny_bind (wpAny_pure (wpAny_bind ?_)); unfold Builtin.Dict_items.dictOf; refine wpAny_bind (wpAny_field hq hdv (x := .ref d) rfl (wpAny_pure (wpAny_bind ?_)))
  unfold Builtin.Dict_items.newIterator; refine wpAny_bind (wpAny_dictEntries ho hdd (wpAny_bind (wpAny_dictEpoch ho hdd ?_))); simp only [own, if_true]
  refine wpAny_newObj_type (wpAny_pure ⟨_, rfl, "dict_itemiterator", _, ⟨_, Heap.get?_push_size _ rfl, rfl⟩, F.slot_dict_itemiterator_next.lookup, ?_⟩) (by simp only [sizeOk, Builtin.Dict_items.ownedTupleFields, List.size_toArray, List.length_append, List.length_cons, List.length_nil, sizeLine_eq]; omega)
  simpa [rawInt, Builtin.Dict_items.ownedTupleFields] using hQ
end
def iDictK (td : TE) : TI := fun σ H R => td σ H fun x H1 => ∃ d kvs, x = .ref d ∧ Rd H1 d (.dT kvs) ∧ ∀ o, R (ItK d o kvs) (upd H1 d (.frz o (.dT kvs)))
def iDictI (td : TE) : TI := fun σ H R => td σ H fun x H1 => ∃ d kvs, x = .ref d ∧ Rd H1 d (.dT kvs) ∧ ∀ o, R (ItI d o kvs) (upd H1 d (.frz o (.dT kvs)))
section
variable {X : Cx} {tg : Expr} {pins : List (Addr × Obj)} {σ : St} {H : Hp} {s : Shared} {d : Addr} {kvs : List (List Key × V)}
theorem Inv.still (I : Inv X pins σ H s) (e : Rd H d (.dT kvs)) : ∃ (o : Obj) (es : Array DictEntry) (ep : Nat), s.heap.get? d = some o ∧ s.TypeIs (.ref d) "dict" ∧ (∀ b, Value.ref d = .ref b → ∃ ob, s.heap.get? b = some ob ∧ ob.dict = none) ∧ (d == sysModules) = false ∧
    o.data = .dict es ep ∧ es.size = kvs.length ∧ Inv X pins σ (upd H d (.frz o (.dT kvs))) s := by
  obtain ⟨z, hd, xs, rel, o, es, ep, h1, h2, h3, h4, h5, h6⟩ := dt_rd I.hok e
  have T : s.TypeIs (.ref d) "dict" := ⟨o, h1, h2.1⟩
  refine ⟨o, es, ep, h1, T, fun b q => ?_, hd, h3, (size_of_entries h4).trans (Paired.length rel).symm, ?_⟩
  · cases q; exact ⟨o, h1, h2.2.1⟩
  rcases e with e | ⟨o', e⟩
  · exact I.freeze e h1
  · have q : s.heap.get? d = some o' := (I.hok d _ e).1
    have eo : o' = o := Option.some.inj (q.symm.trans h1)
    subst eo
    have : upd H d (.frz o' (.dT kvs)) = H := by
      funext b; unfold upd; split
      · rename_i z; rw [z, e]
      · rfl
    rw [this]; exact I
theorem pi_dict {l : Expr} {tl : TE} (hl : PE X l tl) : PI X tg l (iDictK tl) := by
  intro pins s σ H R I h
  refine thn (hl pins s σ H _ I h) fun v s1 ⟨x, H1, I1, r1, d, kvs, ex, e, q⟩ => ?_
  subst ex
  cases r1
  obtain ⟨o, es, ep, ho, T, _, hs, hdd, hz, I2⟩ := I1.still e
  refine dict_iter hs T ho hdd ⟨s1.heap.objs.size, [s1.heap.objs.size], _, _, _, rfl, I2.kept (t' := s1.toks) fun b q z => Heap.get?_push_of_some _ z, turn_dkey hdd, ⟨_, Heap.get?_push_size _ rfl, rfl, by rw [hz]; rfl⟩, fun b hb => ?_, q o⟩
  have eb : b = s1.heap.objs.size := by simpa using hb
  subst eb
  exact I2.fpOk (Nat.le_refl _) (I2.hok.fresh (Nat.le_refl _))
theorem pi_items {xs : List Expr} {xk : Nat} {tp apos cpos : Pos} {o : Expr} {to : TE} (ho : PE X o to) (hbase : attributeBase o "items" X.env (eval o X.env) = eval o X.env := by rfl) (hline : (apos.endLine == cpos.line) = true := by rfl) :
    PI X (.Tuple xs xk tp) (.Call (.Attribute o "items" apos) [] [] cpos) (iDictI to) := by
  intro pins s σ H R I h
  refine wpAny_Call_method0_late hbase hline (thn (ho pins s σ H _ I h) fun v s1 ⟨x, H1, I1, r1, d, kvs, ex, e, q⟩ => ?_)
  subst ex
  cases r1
  obtain ⟨ob, es, ep, hob, T, nd, hs, hdd, hz, I2⟩ := I1.still e
  refine ⟨"dict", "dict.items", PySem.F.plainAttrs_dict, PySem.F.slot_dict_items, PySem.F.type_dict_items, T, nd, Calls.callWith_builtin rfl (PySem.evalArgs_none (dict_items hs T ?_))⟩
  have I3 := I2.kept (t' := s1.toks) (h' := s1.heap.push { cls := .type "dict_items", data := .fields #[.ref d] }) fun b q z => Heap.get?_push_of_some _ z
  refine view_iter ⟨_, Heap.get?_push_size _ rfl, rfl, rfl⟩ (Heap.get?_push_of_some _ hob) hdd ?_
  refine ⟨_, [_], _, _, _, rfl, I3.kept (t' := s1.toks) fun b q z => Heap.get?_push_of_some _ z, turn_ditem hdd, ⟨_, _, by rw [← hz]; exact Heap.get?_push_size _ rfl⟩, fun b hb => ?_, q ob⟩
  have eb := List.mem_singleton.mp hb
  subst eb
  exact I3.fpOk (Nat.le_refl _) (I3.hok.fresh (Nat.le_refl _))
end
end L2
namespace L2
open PySem PySem.Spec PyProof.Rows
section
variable {prog : Program} {w : World} {κ : Type} [DecidableEq κ] {knd : HeapKind prog w κ} {A : Around} {E : Value → Shared → Prop} {s : Shared}
inductive HHits (A : Around) (s : Shared) (ys : List (κ × Addr × Value)) : List (κ × Addr × Value) → Bool → Prop
  | nil : HHits A s ys [] true
  | miss {x : κ × Addr × Value} {r : List (κ × Addr × Value)} : atKey ys x.1 = none → HHits A s ys (x :: r) false
  | hit {x : κ × Addr × Value} {p : Addr × Value} {r : List (κ × Addr × Value)} {e c : Bool} : atKey ys x.1 = some p → SeqAt.EqAt A s x.2.2 p.2 e → HHits A s ys r c → HHits A s ys (x :: r) (e && c)
theorem HHits.inv {ys : List (κ × Addr × Value)} {x : κ × Addr × Value} {r : List (κ × Addr × Value)} {c : Bool} (h : HHits A s ys (x :: r) c) :
    (atKey ys x.1 = none ∧ c = false) ∨ ∃ p e c', atKey ys x.1 = some p ∧ SeqAt.EqAt A s x.2.2 p.2 e ∧ HHits A s ys r c' ∧ c = (e && c') := by
  cases h with
  | miss a => exact .inl ⟨a, rfl⟩
  | hit a b c => exact .inr ⟨_, _, _, a, b, c, rfl⟩
theorem same_pairs {nm : String} {a b : Addr} {xs ys : List (κ × Addr × Value)} {r : Bool} {Q : Bool → Shared → Prop} (hu : knd.room A) (ha : (a == sysModules) = false) (hb : (b == sysModules) = false) (da : s.heap.DictOfH knd a xs) (db : s.heap.DictOfH knd b ys)
    (hits : xs.length = ys.length → HHits A s ys xs r) (h : Q (xs.length == ys.length && r) s) : wpAny (model prog w) A (Builtin.Dict.samePairs nm a b) Q E s := by
  obtain ⟨oa, ea, pa, ga, _, ta, la, ka, na⟩ := da
  obtain ⟨ob, eb, pb, gb, _, tb, lb, kb, nb⟩ := db
  have za : ea.size = xs.length := size_of_entries la
  have zb : eb.size = ys.length := size_of_entries lb
  have no1 : ¬ ((a == sysModules) = true) := by rw [ha]; exact Bool.false_ne_true
  have no2 : ¬ ((b == sysModules) = true) := by rw [hb]; exact Bool.false_ne_true
  unfold Builtin.Dict.samePairs Builtin.Dict.showsAll; rw [if_neg no1, if_neg no2]
  refine wpAny_bind (wpAny_pure (wpAny_bind (wpAny_pure (wpAny_bind (wpAny_dictEntries ga ta ?_))))); dsimp only; refine wpAny_bind (wpAny_dictEntries gb tb ?_)
  by_cases hz : xs.length = ys.length
  case neg =>
    have q1 : (ea.size != eb.size) = true := by rw [za, zb]; simpa using hz
    have q2 : (xs.length == ys.length) = false := by simpa using hz
    rw [if_pos q1]; rw [q2, Bool.false_and] at h
    exact wpAny_bind (wpAny_rule (wpAny_pure h))
  have q1 : ¬ ((ea.size != eb.size) = true) := by rw [za, zb, hz]; simp
  have h' : Q r s := by simpa [hz] using h
  rw [if_neg q1]; refine wpAny_bind (wpAny_dictEpoch ga ta (wpAny_bind ?_)); rw [Std.Legacy.Range.forIn_eq_forIn_range']; simp only [Std.Legacy.Range.size, Nat.sub_zero, Nat.add_sub_cancel, Nat.div_one]
  refine wpAny_forIn_list _ (fun rest c s' => s' = s ∧ c = (none, ()) ∧ ∃ i, rest = List.range' i (ea.size - i) ∧ i ≤ ea.size ∧ HHits A s ys (xs.drop i) r) _ ?_ ?_ _ _ ⟨rfl, rfl, 0, by simp, Nat.zero_le _, hits hz⟩
  · rintro x rest c s' ⟨rfl, rfl, i, er, hi, hp⟩
    have lt : i < ea.size := Nat.lt_of_not_le fun z => by rw [Nat.sub_eq_zero_of_le z] at er; simp at er
    have es : ea.size - i = (ea.size - (i + 1)) + 1 := by omega
    rw [es, List.range'_succ] at er; injection er with e1 e2; subst e1
    have lx : x < xs.length := by omega
    have ex : ea[x]? = some (entryOfKey knd xs[x]) := by rw [entry_at la x, List.getElem?_eq_getElem lx]; rfl
    have dr : xs.drop x = xs[x] :: xs.drop (x + 1) := List.drop_eq_getElem_cons lx
    refine wpAny_bind (wpAny_dictEntries ga ta ?_); rw [ex]; rw [dr] at hp
    show wpAny _ _ (holding [Value.ref xs[x].2.1, xs[x].2.2] _ >>= _) _ _ _
    refine wpAny_bind (wpAny_holding (wpAny_bind (wpAny_dictFind_heap hu (ka _ (List.getElem_mem lx)) gb tb lb kb nb (fun no => ?_) fun j p hj => ?_)))
    · rcases hp.inv with ⟨_, er⟩ | ⟨p, _, _, hy, _⟩
      · rw [er] at h'; refine wpAny_pure ?_; show wpAny _ _ (if (!false) = true then _ else _) _ _ _; rw [if_pos (by decide)]; exact wpAny_pure (wpAny_pure h')
      · rw [atKey_none_of_get no] at hy; cases hy
    · have lj : eb[j]? = some (entryOfKey knd (xs[x].1, p)) := by rw [entry_at lb j, hj]; rfl
      refine wpAny_bind (wpAny_dictEntries gb tb ?_); rw [lj]
      rcases hp.inv with ⟨hn, _⟩ | ⟨p', e, c', hy, he, hr, er⟩
      · rw [atKey_of_get nb hj] at hn; cases hn
      rw [atKey_of_get nb hj] at hy; injection hy with hy; subst hy
      refine wpAny_holding (he prog w _ _ ?_)
      cases e with
      | false => rw [er, Bool.false_and] at h'; show wpAny _ _ (if (!false) = true then _ else _) _ _ _; rw [if_pos (by decide)]; exact wpAny_pure (wpAny_pure h')
      | true =>
        rw [Bool.true_and] at er; rw [← er] at hr
        show wpAny _ _ (if (!true) = true then _ else _) _ _ _; rw [if_neg (by decide)]; refine wpAny_bind (wpAny_dictEpoch ga ta ?_); rw [if_neg (by simp)]
        exact wpAny_pure ⟨rfl, rfl, x + 1, e2, lt, hr⟩
  · rintro c s' ⟨rfl, rfl, i, er, hi, hp⟩
    have ei : i = ea.size := Nat.le_antisymm hi (Nat.le_of_not_lt fun z => by
      have es : ea.size - i = (ea.size - (i + 1)) + 1 := by omega
      rw [es, List.range'_succ] at er; cases er)
    refine wpAny_pure ?_; rw [ei, za, List.drop_length] at hp; cases hp; exact h'
theorem dict_eqH {a b : Addr} {xs ys : List (κ × Addr × Value)} {r : Bool} {Q : Value → Shared → Prop} (hu : knd.room A.in1) (hc : A.units < cLine) (ha : (a == sysModules) = false) (hb : (b == sysModules) = false) (da : s.heap.DictOfH knd a xs) (db : s.heap.DictOfH knd b ys)
    (hits : xs.length = ys.length → HHits A.in1 s ys xs r) (h : Q (.bool (xs.length == ys.length && r)) s) : wpAny (model prog w) A (compareOp .Eq (.ref a) (.ref b)) Q E s := by
  refine wpAny_richCompare_same_room (op := .Eq) da.typeIs db.typeIs PySem.F.slot_dict_eq (wpAny_call_entry PySem.F.slot_dict_eq da.typeIs PySem.F.entry_dict_eq ?_ (PySem.F.args_dict_eq_2 _ _)) hc
  show wpAny _ _ (Builtin.Dict.dictSlotArgs "__eq__" ⟨[.ref a, .ref b], []⟩ >>= _) _ _ s; refine wpAny_bind ?_; unfold Builtin.Dict.dictSlotArgs; refine wpAny_bind (wpAny_notOrdered_dict da.typeIs (wpAny_pure ?_))
  refine wpAny_bind (wpAny_isInstance (T := "dict") db.typeIs PySem.F.sub_dict_dict ?_); simp only [Bool.not_true, Bool.false_eq_true, if_false]
  refine wpAny_bind (wpAny_pure (wpAny_bind (wpAny_pure (wpAny_bind (same_pairs hu ha hb da db hits (wpAny_pure ⟨_, rfl, (fun x => nomatch x), ?_⟩))))))
  simpa using h
end
end L2
namespace L2
open PySem PySem.Spec PyProof.Rows
def KDs (K : PySem.W.Frag) (H : Hp) : List (List Key × V) → List (List Key × PyData) → Prop := Paired fun p q => p.1 = q.1 ∧ Rds K H p.2 q.2
def findKD (ys : List (List Key × PyData)) (k : List Key) : Option PyData := (ys.find? fun q => decide (q.1 = k)).map (·.2)
def eqKD (xs ys : List (List Key × PyData)) : Bool := xs.length == ys.length && xs.all fun p => match findKD ys p.1 with | some d => PyData.eqv p.2 d | none => false
def Flats (xs : List (List Key × PyData)) : Prop := ∀ p ∈ xs, p.2.canLay0 = true ∧ p.2.depth ≤ 60
section
variable {X : Cx} {pins : List (Addr × Obj)} {σ : St} {H : Hp} {s : Shared}
theorem at_findKD (I : Inv X pins σ H s) : ∀ {kb : List (List Key × V)} {ys : List (List Key × Addr × Value)} {db : List (List Key × PyData)}, KT H kb ys → KDs X.K H kb db → Flats db → ∀ k : List Key,
    (atKey ys k = none ∧ findKD db k = none) ∨ ∃ p d as, atKey ys k = some p ∧ findKD db k = some d ∧ Reads s.heap p.2 d as ∧ d.canLay0 = true ∧ d.depth ≤ 60
  | _, _, _, .nil, .nil, _, _ => .inl ⟨rfl, rfl⟩
  | _, _, _, .cons (a := a) (b := b) r t, .cons (b := c) q u, fl, k => by
    obtain ⟨r1, r2, r3⟩ := r
    obtain ⟨q1, q2⟩ := q
    by_cases e : a.1 = k
    · have e1 : b.1 = k := r1.symm.trans e
      have e2 : c.1 = k := q1.symm.trans e
      obtain ⟨as, rd⟩ := I.rds q2 r3
      obtain ⟨f1, f2⟩ := fl c (.head _)
      exact .inr ⟨b.2, c.2, as, by simp [atKey, List.find?_cons, e1], by simp [findKD, List.find?_cons, e2], rd, f1, f2⟩
    · have e1 : ¬ b.1 = k := fun z => e (r1.trans z)
      have e2 : ¬ c.1 = k := fun z => e (q1.trans z)
      have z1 : ∀ l, atKey (b :: l) k = atKey l k := fun l => by simp [atKey, List.find?_cons, e1]
      have z2 : ∀ l, findKD (c :: l) k = findKD l k := fun l => by simp [findKD, List.find?_cons, e2]
      rw [z1, z2]
      exact at_findKD I t u (fun p hp => fl p (.tail _ hp)) k
theorem hits_of {A : Around} (hu : A.units + 61 < cLine) (I : Inv X pins σ H s) {kb : List (List Key × V)} {ys : List (List Key × Addr × Value)} {db : List (List Key × PyData)} (tb : KT H kb ys) (qb : KDs X.K H kb db) (fb : Flats db) :
    ∀ {ka : List (List Key × V)} {xs : List (List Key × Addr × Value)} {da : List (List Key × PyData)}, KT H ka xs → KDs X.K H ka da → Flats da → HHits A s ys xs (da.all fun p => match findKD db p.1 with | some d => PyData.eqv p.2 d | none => false)
  | _, _, _, .nil, .nil, _ => .nil
  | _, _, _, .cons (a := a) (b := b) r t, .cons (b := c) q u, fl => by
    obtain ⟨r1, r2, r3⟩ := r
    obtain ⟨q1, q2⟩ := q
    have ih := hits_of hu I tb qb fb t u fun p hp => fl p (.tail _ hp)
    obtain ⟨as, rd⟩ := I.rds q2 r3
    obtain ⟨f1, f2⟩ := fl c (.head _)
    rw [List.all_cons]
    rcases at_findKD I tb qb fb b.1 with ⟨h1, h2⟩ | ⟨p, d, bs, h1, h2, h3, h4, h5⟩
    · rw [← r1, q1] at h2; rw [h2]; exact .miss h1
    · rw [← r1, q1] at h2; rw [h2]
      refine .hit h1 (SeqAt.eqAt_reads c.2 d A s _ _ as bs rd h3 f1 h4 ?_) ih
      have := Nat.min_le_left c.2.depth d.depth
      omega
end
def rEqDT (K : PySem.W.Frag) (neg : Bool) : R2 := fun x y H Q => ∃ (a b : Addr) (ka kb : List (List Key × V)) (da db : List (List Key × PyData)), x = .ref a ∧ y = .ref b ∧ Rd H a (.dT ka) ∧ Rd H b (.dT kb) ∧ KDs K H ka da ∧ KDs K H kb db ∧ Flats da ∧ Flats db ∧ Q (.bl (xor neg (eqKD da db))) H
section
variable {X : Cx}
theorem op_eqDT (hu : X.A.units + 64 < cLine) : OpR X (compareOp .Eq) (rEqDT X.K false) := by
  intro pins s σ H x y u v Q I rx ry h
  obtain ⟨a, b, ka, kb, da, db, rfl, rfl, ha, hb, qa, qb, fa, fb, q⟩ := h
  cases rx
  cases ry
  obtain ⟨_, sa, xs, ta, ea⟩ := dt_rd I.hok ha
  obtain ⟨_, sb, ys, tb, eb⟩ := dt_rd I.hok hb
  have lx : xs.length = da.length := (Paired.length ta).symm.trans (Paired.length qa)
  have ly : ys.length = db.length := (Paired.length tb).symm.trans (Paired.length qb)
  refine dict_eqH (knd := tupleKind (mixKind X.prog X.w)) (tupleKind_room_in1 (by omega)) (by omega) sa sb ea eb (fun _ => hits_of (by show X.A.units + 1 + 61 < cLine; omega) I tb qb fb ta qa fa) ⟨.bl _, H, I, rfl, ?_⟩
  rw [lx, ly]
  have : (false ^^ eqKD da db) = eqKD da db := Bool.false_xor _
  rw [this] at q
  exact q
def rDClear : V → List V → Hp → VK → Prop := fun x vs H Q => ∃ d kvs, x = .ref d ∧ vs = [] ∧ H d = some (.dT kvs) ∧ Q .non (upd H d (.dT []))
theorem d_store {pins : List (Addr × Obj)} {σ : St} {H : Hp} {s : Shared} {A : Around} {E : Value → Shared → Prop} {a b : Addr} {kvs : List (List Key × V)} {k : List Key} {v : V} {r : Value} {Q : Unit → Shared → Prop} (hu : A.units < cLine) (I : Inv X pins σ H s) (e : H a = some (.dT kvs)) (eb : H b = some (.tup (k.map kV)))
    (l : kvs.length < sizeLine) (rv : RelV v r) (h : ∀ s', Inv X pins σ (upd H a (.dT (putK kvs k v))) s' → Q () s') : wpAny (model X.prog X.w) A (dictSet a (.ref b) r) Q E s := by
  obtain ⟨z, hd, xs, rel, dd⟩ := dt_of I.hok e
  have hz : xs.length ≤ sizeLine := by rw [← Paired.length rel]; exact z
  have hl : (putK kvs k v).length ≤ sizeLine := by have := length_putK kvs k v; omega
  refine wpAny_dictSet_heap (hsz := hz) (knd := tupleKind (mixKind X.prog X.w)) hu (key_of I.hok eb) dd fun h' dd' hs => h _ ?_
  obtain ⟨q, es, ep, hq, h2, h3, h4, _, h5⟩ := dd'
  refine d_write I (by rw [e]; exact True.intro) hs ⟨q, hq⟩ ⟨hl, hd, _, (rel.put k eb rv).keeps fun c ys ec => ?_, q, es, ep, hq, h2, h3, h4, h5⟩
  rw [upd_ne (ne_of ec e (fun z => nomatch z))]; exact ec
def tDisp1 (tk tv : TE) : TE := fun σ H Q => ∀ p, H p = none → tk σ (upd H p (.dT [])) fun x H1 => tv σ H1 fun y H2 => ∃ b ks, x = .ref b ∧ H2 p = some (.dT []) ∧ H2 b = some (.tup (ks.map kV)) ∧ Q (.ref p) (upd H2 p (.dT [(ks, y)]))
theorem pe_disp1 {pos : Pos} {k v : Expr} {tk tv : TE} (hu : X.A.units < cLine) (hk : PE X k tk) (hv : PE X v tv) : PE X (.Dict [some k] [v] pos) (tDisp1 tk tv) := by
  intro pins s σ H Q I q
  have hn := I.hok.fresh (Nat.le_refl s.heap.objs.size)
  have I1 := I.laid (a := s.heap.objs.size) (o := .dT []) (h' := s.heap.push { cls := .type "dict", data := .dict #[] }) (t' := s.toks) (fun _ _ q => Heap.get?_push_of_some _ q) (Nat.le_refl _) (dt_empty s.heap I.big)
  refine wpAny_Dict_any rfl rfl (by simp) (by simp) ?_
  have P : PPs X pos [some k] [v] [(tk, tv)] := pps_cons hk hv pps_nil
  refine thn (P pins _ σ _ (fun ps H2 => match ps with | [(x, y)] => ∃ b ks, x = .ref b ∧ H2 s.heap.objs.size = some (.dT []) ∧ H2 b = some (.tup (ks.map kV)) ∧ Q (.ref s.heap.objs.size) (upd H2 s.heap.objs.size (.dT [(ks, y)])) | _ => False) I1 (q _ hn)) fun ws s2 ⟨ps, H2, I2, rel, hq⟩ => ?_
  rcases ws with _ | ⟨⟨c1, c2⟩, ws⟩
  · cases rel; exact hq.elim
  cases rel with
  | cons r t =>
    cases t with
    | cons _ _ => exact hq.elim
    | nil =>
      obtain ⟨r1, r2⟩ := r
      obtain ⟨b, ks, ex, e1, e2, q2⟩ := hq
      dsimp only at ex r1 r2
      rw [ex] at r1
      obtain rfl : c1 = Value.ref b := r1
      unfold storeAll
      rw [List.forIn_cons]
      refine wpAny_bind (wpAny_bind (d_store hu I2 e1 e2 (by rw [sizeLine_eq]; decide) r2 fun s3 I3 => wpAny_pure ?_))
      exact wpAny_pure ⟨.ref s.heap.objs.size, _, I3, rfl, q2⟩
end
end L2
namespace L2
open PySem PySem.Spec PyProof.Rows
def pickS (x : Str) (lo hi : Option Int) : List Nat := Builtin.Str.strSliceIndices lo hi 1 x.length
def cutS (x : Str) (lo hi : Option Int) : Str := if ((pickS x lo hi).length == x.length) = true then x else ⟨((pickS x lo hi).filterMap (x.cps[·]?)).toArray⟩
def rSlS : V → Option Int → Option Int → Hp → VK → Prop := fun x lo hi H Q => ∃ z, x = .str z ∧ (cutS z lo hi).length ≤ sizeLine ∧ Q (.str (cutS z lo hi)) H
section
variable {X : Cx}
def rRepT (K : PySem.W.Frag) : R2 := fun x y H Q => ∃ (a : Addr) (xs : List V) (n : Int), x = .ref a ∧ y = .int n ∧ SqT K H a xs ∧ xs ≠ [] ∧ 1 ≤ n ∧ n ≤ 1000 ∧ xs.length * n.toNat ≤ 1000 ∧
  (n = 1 → Q (.ref a) H) ∧ (2 ≤ n → ∀ p, H p = none → Q (.ref p) (upd H p (.tup (List.replicate n.toNat xs).flatten)))
end
def Ends.thw (H0 : Hp) (D : Ends) : Ends := { D with nx := fun σ H => Thw H0 H (D.nx σ), rt := fun v H => Thw H0 H (D.rt v) }
section
variable {X : Cx} {st : Stmt} {ss : List Stmt} {t : TS}
theorem SP.thw {pins : List (Addr × Obj)} {D : Ends} {f : Flow} {s : Shared} (h : SP X pins (D.thw X.H₀) f s) : SP X pins D f s := by
  cases f with
  | next => obtain ⟨σ, H, I, q⟩ := h; obtain ⟨H', I', q'⟩ := Thw.inv (K := D.nx σ) q I; exact ⟨σ, H', I', q'⟩
  | brk => exact h
  | cont => exact h
  | ret u => obtain ⟨v, σ, H, I, r, q⟩ := h; obtain ⟨H', I', q'⟩ := Thw.inv (K := D.rt v) q I; exact ⟨v, σ, H', I', r, q'⟩
theorem ps_thw (h : PS X st t) : PS X st (fun D σ H => t (D.thw X.H₀) σ H) := fun pins s σ H D I q => thn (h pins s σ H _ I q) fun _ _ z => z.thw
end
end L2
namespace L2
open PySem PySem.Spec PyProof.Rows
section
variable {prog : Program} {w : World} {A : Around} {E : Value → Shared → Prop} {s : Shared}
end
section
variable {X : Cx}
def upFrom (lo : Int) (n : Nat) : List Int := (List.range n).map fun i : Nat => lo + (i : Int)
def rRange2 : List V → Hp → VK → Prop := fun xs H Q => ∃ i j : Int, xs = [.int i, .int j] ∧ ∀ p, H p = none → Q (.ref p) (upd H p (.rng i j))
def rTupRng : List V → Hp → VK → Prop := fun xs H Q => ∃ (p : Addr) (lo hi : Int), xs = [.ref p] ∧ H p = some (.rng lo hi) ∧ -1000 ≤ lo ∧ lo ≤ 1000 ∧ -1000 ≤ hi ∧ hi ≤ 1000 ∧ ∀ l, H l = none → Q (.ref l) (upd H l (.tup ((upFrom lo (hi - lo).toNat).map V.int)))
end
end L2
namespace L2
open PySem PySem.Spec PyProof.Rows
theorem comp_ofD {J : It} {H1 : Hp} {n : Nat} {P : Nat → V → Hp → Prop} {g : TG} {tc : TT} {te : TE} {Q : VK} {σ0 : St} {D : Addr} (S : Walk J H1 n P) (hD : H1 D = none) (hn : n ≤ sizeLine) (Sv : St → Prop) (p : Nat → Bool) (F : Nat → V → Hp → Prop)
    (monoS : ∀ i v H H', Same H H' → F i v H → F i v H') (monoU : ∀ i v H ys ys', H D = some (.lst ys) → F i v H → F i v (upd H D (.lst ys'))) (h0 : Sv σ0)
    (step : ∀ i x σ' H2, i < n → Sv σ' → Same H1 H2 → P i x H2 → (∃ ys, H2 D = some (.lst ys)) → ∀ (Ny : V → St → Hp → Prop) (Nn : St → Hp → Prop), (∀ v σ2 H5, Sv σ2 → Same H2 H5 → F i v H5 → p i = true → Ny v σ2 H5) → (∀ σ2 H4, Sv σ2 → Same H2 H4 → p i = false → Nn σ2 H4) →
      g x σ' H2 fun σ2 H3 => tc σ2 H3 fun b H4 => if b = true then te σ2 H4 fun v H5 => Ny v σ2 H5 else Nn σ2 H4)
    (hQ : ∀ H' ys, Same H1 H' → H' D = some (.lst ys) → Paired (fun i v => F i v H') ((List.range n).filter p) ys → Q (.ref D) H') :
    ∃ W : Nat → Nat → List V → St → Hp → Prop, (∃ m, W 0 m [] σ0 (upd H1 D (.lst []))) ∧ ∀ i m ys σ' H', W i m ys σ' H' → H' D = some (.lst ys) ∧
    ((J.stop i H' ∧ Q (.ref D) H') ∨ (J.go i H' ∧ ys.length < sizeLine ∧ ∀ x H2, J.yld i H' x H2 → g x σ' H2 fun σ2 H3 => tc σ2 H3 fun b H4 =>
      if b = true then te σ2 H4 fun v H5 => H5 D = some (.lst ys) ∧ ∃ m', m' < m ∧ W (i + 1) m' (ys ++ [v]) σ2 (upd H5 D (.lst (ys ++ [v])))
      else ∃ m', m' < m ∧ W (i + 1) m' ys σ2 H4)) := by
  refine ⟨fun i m ys σ' H' => m = n - i ∧ i ≤ n ∧ Sv σ' ∧ Same H1 H' ∧ H' D = some (.lst ys) ∧ Paired (fun j v => F j v H') ((List.range i).filter p) ys, ⟨n, rfl, Nat.zero_le _, h0, Same.upd hD, upd_same, .nil⟩, ?_⟩
  rintro i m ys σ' H' ⟨rfl, hi, hs, hS, hL, hF⟩
  refine ⟨hL, ?_⟩
  have rs : (List.range (i + 1)).filter p = (List.range i).filter p ++ (if p i = true then [i] else []) := by
    rw [List.range_succ, List.filter_append]
    cases q : p i <;> simp [q]
  by_cases hlt : i < n
  · refine .inr ⟨S.go i H' hS hlt, ?_, fun x H2 y => ?_⟩
    · have l1 := hF.length
      have l2 : ((List.range i).filter p).length ≤ (List.range i).length := List.length_filter_le _ _
      rw [List.length_range] at l2
      omega
    · obtain ⟨e2, hP⟩ := S.yld i H' x H2 hS hlt y
      refine step i x σ' H2 hlt hs (hS.trans e2) hP ⟨ys, e2 _ _ hL⟩ _ _ (fun v σ2 H5 s2 e5 f5 hp => ?_) fun σ2 H4 s2 e4 hp => ?_
      · have l5 : H5 D = some (.lst ys) := e5 _ _ (e2 _ _ hL)
        refine ⟨l5, n - (i + 1), by omega, rfl, hlt, s2, ((hS.trans e2).trans e5).updR hD, upd_same, ?_⟩
        rw [rs, if_pos hp]
        refine Paired.snoc (Paired.imp' (fun j w q => ?_) hF) (monoU i v H5 ys _ l5 f5)
        exact monoU j w H5 ys _ l5 (monoS j w H' H5 (e2.trans e5) q)
      · refine ⟨n - (i + 1), by omega, rfl, hlt, s2, (hS.trans e2).trans e4, e4 _ _ (e2 _ _ hL), ?_⟩
        rw [rs, if_neg (by rw [hp]; decide), List.append_nil]
        exact Paired.imp' (fun j w q => monoS j w H' H4 (e2.trans e4) q) hF
  · have e : i = n := by omega
    subst e
    exact .inl ⟨S.stop H' hS, hQ H' ys hS hL hF⟩
end L2
set_option Elab.async false
set_option linter.all false
set_option maxRecDepth 100000
namespace L2
open PySem PySem.Spec PyProof.Rows
theorem erase_map {α β : Type} (f : α → β) : ∀ (l : List α) (j : Nat), (l.map f).eraseIdx j = (l.eraseIdx j).map f
  | [], j => by simp
  | x :: l, 0 => by simp
  | x :: l, j + 1 => by simp [erase_map f l j]
theorem erase_filter {κ β : Type} [DecidableEq κ] : ∀ {xs : List (κ × β)} (_ : (xs.map (·.1)).Nodup) {j : Nat} {k : κ} {q : β}, xs[j]? = some (k, q) → xs.eraseIdx j = xs.filter fun x => decide (x.1 ≠ k)
  | [], _, j, k, q, h => by simp at h
  | x :: r, hn, 0, k, q, h => by
    simp at h; subst h
    rw [List.map_cons, List.nodup_cons] at hn
    rw [List.eraseIdx_cons_zero, List.filter_cons, if_neg (by simp)]
    refine (List.filter_eq_self.mpr fun y hy => ?_).symm
    have : y.1 ≠ k := fun e => hn.1 (List.mem_map.mpr ⟨y, hy, e⟩)
    simpa using this
  | x :: r, hn, j + 1, k, q, h => by
    rw [List.getElem?_cons_succ] at h
    rw [List.map_cons, List.nodup_cons] at hn
    have : x.1 ≠ k := fun e => hn.1 (List.mem_map.mpr ⟨(k, q), List.mem_of_getElem? h, e.symm⟩)
    rw [List.eraseIdx_cons_succ, List.filter_cons, if_pos (by simpa using this), erase_filter hn.2 h]
section
variable {prog : Program} {w : World} {κ : Type} [DecidableEq κ] {knd : HeapKind prog w κ} {A : Around} {E : Value → Shared → Prop} {s : Shared}
theorem dict_popH {d a : Addr} {xs : List (κ × Addr × Value)} {k : κ} {p : Addr × Value} {Q : Value → Shared → Prop} (hu : knd.room A.in1) (hkey : knd.is s.heap k a) (hz : xs.length ≤ sizeLine) (dd : s.heap.DictOfH knd d xs) (hp : atKey xs k = some p)
    (h : ∀ h', h'.DictOfH knd d (xs.filter fun x => decide (x.1 ≠ k)) → Heap.SameBut d s.heap h' → Q p.2 { s with heap := h', toks := s.toks + knd.draws k }) :
    wpAny (model prog w) A (call (.builtin "dict.pop") [.ref d, .ref a]) Q E s := by
  have T := dd.typeIs
  obtain ⟨o, es, ep, ho, hc, hd, he, hk, hn⟩ := dd
  have hes : es.size ≤ sizeLine := by rw [size_of_entries he]; exact hz
  refine wpAny_call_entry F.slot_dict_pop T F.entry_dict_pop ?_ (F.args_dict_pop_2 _ _)
  unfold Builtin.«dict.pop»
  refine wpAny_bind ?_
  unfold Builtin.Dict.keyAndDefault
  refine wpAny_bind (wpAny_notOrdered_dict T ?_)
  show wpAny _ _ (pure (d, Value.ref a, none)) _ _ s
  refine wpAny_pure ?_
  have kp : (keyPart (.ref a)).isSome = false := rfl
  simp only [kp, Bool.false_eq_true, if_false]
  refine wpAny_bind (wpAny_dictEntries ho hd (wpAny_bind (wpAny_pure ?_)))
  have ne : es.isEmpty = false := by
    have : xs ≠ [] := fun z => by subst z; simp [atKey] at hp
    have : 0 < xs.length := List.length_pos_iff.mpr this
    have := size_of_entries he
    simp [Array.isEmpty]; intro z; simp [z] at this; omega
  rw [ne]
  simp only [Bool.false_eq_true, if_false]
  refine wpAny_bind ?_
  unfold Builtin.Dict.takeOut
  try with_reducible refine wpAny_holding ?_
  refine wpAny_bind (knd.pyHash hu hkey ?_)
  refine wpAny_bind (wpAny_dictFind_heap (s := { s with toks := s.toks + knd.draws k }) hu hkey ho hd he hk hn (fun no => by rw [atKey_none_of_get no] at hp; cases hp) fun j q hj => ?_)
  have ej : es[j]? = some (entryOfKey knd (k, q)) := by rw [entry_at he j, hj]; rfl
  have eq : q = p := by rw [atKey_of_get hn hj] at hp; exact Option.some.inj hp
  subst eq
  refine wpAny_bind (wpAny_dictEntries (s := { s with toks := s.toks + knd.draws k }) ho hd ?_)
  rw [ej]
  refine wpAny_bind (wpAny_updateDictKeys (hz := hes) (s := { s with toks := s.toks + knd.draws k }) ho hd (wpAny_pure ?_))
  simp only [Option.isNone_some, Bool.false_eq_true, if_false]
  refine wpAny_bind (wpAny_letGo (wpAny_pure ⟨q.2, rfl, h _ ⟨_, _, ep + 1, Heap.get?_update_self _ ho (Obj.isFreed_of_dict (Obj.data_mapDictKeys hd _)), hc.mapDictKeys _, Obj.data_mapDictKeys hd _, ?_, ?_, ?_⟩ (Heap.SameBut.update ..)⟩))
  · rw [← erase_filter hn hj]
    have : (es.toList.eraseIdx j) = (xs.eraseIdx j).map (entryOfKey knd) := by rw [he, erase_map]
    rw [← this]
    obtain ⟨l⟩ := es
    simp
  · intro x hx
    exact knd.keeps (hk x (List.mem_filter.mp hx).1) ho hd (Heap.SameBut.update ..)
  · exact hn.sublist (List.filter_sublist.map _)
end
theorem KT.drop {H : Hp} {kvs : List (List Key × V)} {xs : List (List Key × Addr × Value)} (r : KT H kvs xs) (k : List Key) : KT H (dropK kvs k) (xs.filter fun x => decide (x.1 ≠ k)) := by
  unfold dropK
  induction r with
  | nil => exact .nil
  | @cons p q ps qs h t ih =>
    obtain ⟨h1, h2⟩ := h
    rw [List.filter_cons, List.filter_cons]
    by_cases e : p.1 = k
    · have a : ¬ decide (p.1 ≠ k) = true := by simp [e]
      have b : ¬ decide (q.1 ≠ k) = true := by simp [h1.symm.trans e]
      rw [if_neg a, if_neg b]; exact ih
    · have e' : ¬ q.1 = k := fun z => e (h1.trans z)
      have a : decide (p.1 ≠ k) = true := by simp [e]
      have b : decide (q.1 ≠ k) = true := by simp [e']
      rw [if_pos a, if_pos b]; exact .cons ⟨h1, h2⟩ ih
section
variable {X : Cx}
def rDPop : V → List V → Hp → VK → Prop := fun x vs H Q => ∃ d b kvs k v, x = .ref d ∧ vs = [.ref b] ∧ H d = some (.dT kvs) ∧ H b = some (.tup (k.map kV)) ∧ valV kvs k = some v ∧ Q v (upd H d (.dT (dropK kvs k)))
theorem mt_dpop (hu : X.A.units + 1 < cLine) : MtR X "dict.pop" rDPop := by
  intro pins s σ H x vs v us Q I rx rv h
  obtain ⟨d, b, kvs, k, val, rfl, rfl, hH, hb, hv, q⟩ := h
  cases rx
  obtain ⟨u, rfl, ru⟩ := vals1 rv
  cases ru
  obtain ⟨z, hd, xs, rel, dd⟩ := dt_of I.hok hH
  have hz : xs.length ≤ sizeLine := by rw [← Paired.length rel]; exact z
  obtain ⟨w', hw, rw'⟩ := RelO.some_of (v := val) (o := (atKey xs k).map (·.2)) (by rw [← hv]; exact rel.val k)
  obtain ⟨p, hp, rfl⟩ := Option.map_eq_some_iff.mp hw
  refine dict_popH (knd := tupleKind (mixKind X.prog X.w)) (tupleKind_room_in1 hu) (key_of I.hok hb) hz dd hp fun h' dd' hs => ⟨val, _, ?_, rw', q⟩
  obtain ⟨o, es, ep, h1, h2, h3, h4, _, h5⟩ := dd'
  refine d_write I (by rw [hH]; exact True.intro) hs ⟨o, h1⟩ ⟨Nat.le_trans (dropK_le kvs k) z, hd, _, (rel.drop k).keeps fun c ys ec => ?_, o, es, ep, h1, h2, h3, h4, h5⟩
  rw [upd_ne (ne_of ec hH (fun z => nomatch z))]; exact ec
theorem pe_dpop {o e : Expr} {to : TE} {t : TA} {apos cpos : Pos} (hu : X.A.units + 1 < cLine) (ho : PE X o to) (ha : PA X [e] t) (hbase : attributeBase o "pop" X.env (eval o X.env) = eval o X.env := by rfl)
    (hfew : ((backTo cpos (starEach (e :: []) X.env)).all (fun x => !x.1) && (backToKw cpos (keywordEach [] X.env)).all (fun x => x.1.isSome)
      && decide ((e :: []).length + ([] : List Keyword).length + (if ([] : List Keyword).isEmpty then 0 else 1) < 30)) = true := by rfl)
    (hline : (apos.endLine == cpos.line) = true := by rfl) (hs : starEach (e :: []) X.env = (false, eval e X.env) :: starEach [] X.env := by rfl) (hplain : (backTo cpos (starEach [] X.env)).any (·.1) = false := by rfl) :
    PE X (.Call (.Attribute o "pop" apos) [e] [] cpos) (tBM X.K "dict" rDPop to t) := pe_bm PySem.F.plainAttrs_dict PySem.F.slot_dict_pop PySem.F.type_dict_pop (mt_dpop hu) ho ha hbase hfew hline hs hplain
end
theorem same_thaw {H H1 : Hp} {d : Addr} {o : Obj} {u : HO} (h0 : H d = some u) (e : Same (upd H d (.frz o u)) H1) : Same H (upd H1 d u) := fun b q hb => by
  by_cases z : b = d
  · subst z; rw [upd_same, ← h0]; exact hb
  · rw [upd_ne z]; exact e b q (by rw [upd_ne z]; exact hb)
theorem walk_dkey {H1 : Hp} {d : Addr} {o : Obj} {kvs : List (List Key × V)} (h : FzD H1 d o kvs) : Walk (ItK d o kvs) H1 kvs.length (fun i x H => ∃ b k v, kvs[i]? = some (k, v) ∧ H b = some (.tup (k.map kV)) ∧ x = .ref b) :=
  ⟨fun i H' e hi => ⟨e _ _ h, hi⟩, fun H' e => ⟨e _ _ h, Nat.le_refl _⟩, fun i H' x H2 e hi y => by
    obtain ⟨rfl, q⟩ := y
    exact ⟨Same.refl _, q⟩⟩
theorem for_ditem {d : Addr} {o : Obj} {kvs : List (List Key × V)} {g : TG} {tb : TS} {D : Ends} {σ : St} {H : Hp} (Pv : Nat → St → Hp → Prop) (h0 : Pv 0 σ H) (hl : ∀ i σ H, Pv i σ H → FzD H d o kvs)
    (hs : ∀ i k v σ H p b, kvs[i]? = some (k, v) → Pv i σ H → H p = none → H b = some (.tup (k.map kV)) → g (.ref p) σ (upd H p (.tup [.ref b, v])) fun σ2 H2 => tb { D with nx := Pv (i + 1), ct := Pv (i + 1), bk := D.nx } σ2 H2) (hd : ∀ σ H, Pv kvs.length σ H → D.nx σ H) :
    ∃ W : Nat → Nat → St → Hp → Prop, (∃ m, W 0 m σ H) ∧ ∀ i m σ H, W i m σ H →
      ((ItI d o kvs).stop i H ∧ D.nx σ H) ∨ ((ItI d o kvs).go i H ∧ ∃ N : St → Hp → Prop, (∀ σ' H', N σ' H' → ∃ m', m' < m ∧ W (i + 1) m' σ' H') ∧ ∀ x H', (ItI d o kvs).yld i H x H' → g x σ H' fun σ2 H2 => tb { D with nx := N, ct := N, bk := D.nx } σ2 H2) := by
  refine ⟨fun i m σ H => m = kvs.length - i ∧ i ≤ kvs.length ∧ Pv i σ H, ⟨kvs.length, by simp, Nat.zero_le _, h0⟩, ?_⟩
  rintro i m σ H ⟨rfl, hi, p⟩
  have q := hl i σ H p
  by_cases hlt : i < kvs.length
  · refine .inr ⟨⟨q, hlt⟩, Pv (i + 1), fun σ' H' p' => ⟨kvs.length - (i + 1), by omega, rfl, hlt, p'⟩, fun x H' y => ?_⟩
    obtain ⟨p', b, k, v, hp, hk, hb, rfl, rfl⟩ := y
    exact hs i k v σ H p' b hk p hp hb
  · have z : i = kvs.length := by omega
    subst z
    exact .inl ⟨⟨q, Nat.le_refl _⟩, hd σ H p⟩
section
variable {prog : Program} {w : World} {κ : Type} [DecidableEq κ] {knd : HeapKind prog w κ} {A : Around} {E : Value → Shared → Prop} {s : Shared}
end
end L2
namespace L2
open PySem PySem.Spec PyProof.Rows
def tTry2 (K : PySem.W.Frag) (c1 c2 : Value) (tb : (St → XK) → TS) (th1 th2 : TS) : TS := fun D σ H => tb (fun σ' cls _ H' => (PySem.W.exmOne K cls c1 = some true ∧ th1 D σ' H') ∨ (PySem.W.exmOne K cls c1 = some false ∧ PySem.W.exmOne K cls c2 = some true ∧ th2 D σ' H')) D σ H
end L2
namespace L2
open PySem PySem.Spec PyProof.Rows
def rCatA (K : PySem.W.Frag) : R2 := fun x y H Q => ∃ a b xs ys, x = .ref a ∧ y = .ref b ∧ SqT K H a xs ∧ SqT K H b ys ∧ xs.length + ys.length ≤ sizeLine ∧
  (xs = [] → Q (.ref b) H) ∧ (xs ≠ [] → ys = [] → Q (.ref a) H) ∧ (xs ≠ [] → ys ≠ [] → ∀ p, H p = none → Q (.ref p) (upd H p (.tup (xs ++ ys))))
end L2
set_option Elab.async false
set_option linter.all false
set_option maxRecDepth 100000
namespace L2
open PySem PySem.Spec PyProof.Rows
def hsI (xs : List Int) : Int := reduceHash (Builtin.Tuple.tupleHashOf (xs.map hashInt))
theorem nd_filter_one {α : Type} {f : α → Int} : ∀ {l : List α} {e : α}, (l.map f).Nodup → e ∈ l → (l.filter fun x => f x == f e).length ≤ 1
  | [], e, _, h => by cases h
  | x :: l, e, hn, h => by
    rw [List.map_cons, List.nodup_cons] at hn
    rw [List.filter_cons]
    by_cases q : f x = f e
    · have z : (l.filter fun y => f y == f e) = [] := by
        rw [List.filter_eq_nil_iff]
        intro y hy hb
        exact hn.1 (List.mem_map.mpr ⟨y, hy, (beq_iff_eq.mp hb).trans q.symm⟩)
      rw [if_pos (beq_iff_eq.mpr q), z]; exact Nat.le_refl 1
    · rw [if_neg (fun z => q (beq_iff_eq.mp z))]
      refine nd_filter_one hn.2 ?_
      rcases List.mem_cons.mp h with z | z
      · exact absurd (congrArg f z.symm) q
      · exact z
section
variable {prog : Program} {w : World} {κ : Type} [DecidableEq κ] {kk : KeyKind prog w κ} {A : Around} {E : Value → Shared → Prop} {s : Shared}
theorem quiet_tuple {a : Addr} {Q : Bool → Shared → Prop} (hT : s.TypeIs (.ref a) "tuple") (h : Q false s) : wpAny (model prog w) A (Builtin.Dict.quietEq (.ref a)) Q E s := by
  unfold Builtin.Dict.quietEq
  refine wpAny_bind (wpAny_specialOf hT F.slot_tuple_eq.lookup (wpAny_pure ?_))
  exact h
theorem forEmpty_H {nm : String} {o : Addr} {ob : Obj} {es : Array DictEntry} {ep : Nat} {xs : List (List κ × Addr × Value)} {Q : Array DictEntry → Shared → Prop} (hob : s.heap.get? o = some ob) (hdt : ob.data = .dict es ep)
    (he : es.toList = xs.map (entryOfKey (tupleKind kk))) (hk : ∀ x ∈ xs, (tupleKind kk).is s.heap x.1 x.2.1) (hn : (xs.map fun x => (tupleKind kk).hash x.1).Nodup) (h : Q es s) : wpAny (model prog w) A (Builtin.Dict.entriesForEmpty nm o) Q E s := by
  unfold Builtin.Dict.entriesForEmpty
  refine wpAny_bind (wpAny_dictEntries hob hdt ?_)
  refine wpAny_bind ?_
  rw [← Array.forIn_toList]
  have hn' : (es.toList.map (·.hash)).Nodup := by rw [he, List.map_map]; exact hn
  refine wpAny_forIn_list _ (fun rest (_ : PUnit) s' => s' = s ∧ ∀ e ∈ rest, e ∈ es.toList) _ ?_ ?_ _ _ ⟨rfl, fun e z => z⟩
  · rintro e rest b s' ⟨rfl, hin⟩
    have hm := hin e List.mem_cons_self
    obtain ⟨x, hx, rfl⟩ := List.mem_map.mp (by rw [← he]; exact hm)
    refine wpAny_bind (quiet_tuple (IsTupleKey.typeIs (hk x hx)) ?_)
    simp only [Bool.not_false, if_true]
    have le : ¬ ((es.filter fun z => z.hash == (entryOfKey (tupleKind kk) x).hash).size > 1) := by
      obtain ⟨l⟩ := es
      have q : (l.filter fun z => z.hash == (entryOfKey (tupleKind kk) x).hash).length ≤ 1 := nd_filter_one (f := fun z : DictEntry => z.hash) hn' hm
      have : (Array.filter (fun z => z.hash == (entryOfKey (tupleKind kk) x).hash) { toList := l }).size = (l.filter fun z => z.hash == (entryOfKey (tupleKind kk) x).hash).length := by simp
      omega
    rw [if_neg le]
    exact wpAny_pure ⟨rfl, fun e he => hin e (List.mem_cons_of_mem _ he)⟩
  · rintro b s' ⟨rfl, _⟩
    exact wpAny_pure h
theorem mergeH {nm : String} {d o : Addr} {xs : List (List κ × Addr × Value)} {Q : Unit → Shared → Prop} (hdo : d ≠ o) (hoS : (o == sysModules) = false)
    (hd : s.heap.DictOfH (tupleKind kk) d []) (ho : s.heap.DictOfH (tupleKind kk) o xs) (hn : (xs.map fun x => (tupleKind kk).hash x.1).Nodup)
    (hQ : ∀ h', h'.DictOfH (tupleKind kk) d xs → Heap.SameBut d s.heap h' → Q () { s with heap := h' }) (hsz : xs.length ≤ sizeLine) :
    wpAny (model prog w) A (Builtin.Dict.mergeDict nm d o) Q E s := by
  obtain ⟨od, esd, epd, hod, hcd, hdd, hed, hkd, hnd⟩ := id hd
  obtain ⟨oo, eso, epo, hoo, hco, hdo', heo, hko, hno⟩ := id ho
  unfold Builtin.Dict.mergeDict
  rw [if_neg (by simpa using hdo)]
  unfold Builtin.Dict.showsAll
  rw [if_neg (by rw [hoS]; exact Bool.false_ne_true)]
  refine wpAny_bind (wpAny_pure ?_)
  refine wpAny_bind (wpAny_dictEntries hoo hdo' ?_)
  have hde : esd.isEmpty = true := by
    obtain ⟨l⟩ := esd
    have : l = [] := hed
    subst this; rfl
  cases xs with
  | nil =>
    have hoe : eso = #[] := by
      obtain ⟨l⟩ := eso
      have : l = [] := heo
      subst this; rfl
    subst hoe
    have few : (decide ((#[] : Array DictEntry).size ≤ 8) && (#[] : Array DictEntry).all fun e => (keyPart e.key).isSome) = true := by simp
    simp only [few, Bool.not_true, Bool.false_eq_true, if_false]
    refine wpAny_bind (wpAny_dictEpoch hoo hdo' ?_)
    refine wpAny_bind (wpAny_dictEntries hoo hdo' ?_)
    refine wpAny_bind ?_
    rw [Std.Legacy.Range.forIn_eq_forIn_range']
    refine wpAny_forIn_list _ (fun rest (_ : PUnit) s' => rest = [] ∧ s' = s) _ ?_ ?_ _ _ ⟨rfl, rfl⟩
    · rintro x rest b s' ⟨z, _⟩; cases z
    · rintro b s' ⟨_, rfl⟩
      exact wpAny_pure (hQ _ hd (Heap.SameBut.refl _ _))
  | cons x xs =>
    have hne : ¬ (eso.isEmpty = true) := by
      obtain ⟨l⟩ := eso
      have : l = (x :: xs).map (entryOfKey (tupleKind kk)) := heo
      subst this; simp
    have few : (decide (eso.size ≤ 8) && eso.all fun e => (keyPart e.key).isSome) = false := by
      obtain ⟨l⟩ := eso
      have : l = (x :: xs).map (entryOfKey (tupleKind kk)) := heo
      subst this
      have : (keyPart (entryOfKey (tupleKind kk) x).key).isSome = false := rfl
      simp [this]
    simp only [few, Bool.not_false, if_true]
    refine wpAny_bind (wpAny_dictEntries hod hdd ?_)
    simp only [hde, if_true]
    refine wpAny_bind (forEmpty_H hoo hdo' heo hko hn ?_)
    rw [Bool.eq_false_iff.mpr hne]
    simp only [Bool.not_false, if_true]
    refine wpAny_bind (wpAny_updateDictKeysTo (hz' := by
      have : eso.size = (x :: xs).length := by rw [← Array.length_toList, heo, List.length_map]
      show eso.size ≤ _
      omega) hod hdd (wpAny_pure (hQ _ ⟨_, _, epd + 1, Heap.get?_update_self _ hod (Obj.isFreed_of_dict (Obj.data_mapDictKeys hdd _)),
      hcd.mapDictKeys _, Obj.data_mapDictKeys hdd _, heo, fun x hx => ?_, hno⟩ (Heap.SameBut.update ..))))
    exact (tupleKind kk).keeps (hko x hx) hod hdd (Heap.SameBut.update ..)
theorem call_dictH {o : Addr} {xs : List (List κ × Addr × Value)} {Q : Value → Shared → Prop} (hoS : (o == sysModules) = false) (ho : s.heap.DictOfH (tupleKind kk) o xs) (hn : (xs.map fun x => (tupleKind kk).hash x.1).Nodup) (hsz : xs.length ≤ sizeLine)
    (h : ∀ h', h'.DictOfH (tupleKind kk) s.heap.objs.size xs → Heap.SameBut s.heap.objs.size (s.heap.push { cls := .type "dict", data := .dict #[] }) h' → Q (.ref s.heap.objs.size) { s with heap := h' }) :
    wpAny (model prog w) A (call (.type "dict") [.ref o]) Q E s := by
  refine callType_codes (Q₁ := fun obj s₁ => obj = .ref s.heap.objs.size ∧ s₁ = { s with heap := s.heap.push { cls := .type "dict", data := .dict #[] } }) F.kt_called_dict (F.kt_typeCall_dict_1 _) F.entry_dict_init (kt_code_dict_new _ ⟨rfl, rfl⟩) ?_
  rintro obj s₁ ⟨rfl, rfl⟩
  have hnew : (s.heap.push { cls := .type "dict", data := .dict #[] }).DictOfH (tupleKind kk) s.heap.objs.size [] := ⟨_, _, _, Heap.get?_push_size _ rfl, ⟨rfl, rfl, rfl⟩, rfl, rfl, fun x hx => (by cases hx), List.nodup_nil⟩
  have hdo : s.heap.objs.size ≠ o := by
    obtain ⟨_, _, _, hg, _⟩ := ho
    exact fun e => absurd (Heap.lt_size hg) (by rw [e]; exact Nat.lt_irrefl _)
  have ho' : (s.heap.push { cls := .type "dict", data := .dict #[] }).DictOfH (tupleKind kk) o xs := by
    obtain ⟨ob, es, ep, h1, h2, h3, h4, h5, h6⟩ := ho
    refine ⟨ob, es, ep, Heap.get?_push_of_some _ h1, h2, h3, h4, fun x hx => ?_, h6⟩
    obtain ⟨q1, q2, q3, q4, q5⟩ := h5 x hx
    exact ⟨q1, q2, q3, Heap.get?_push_of_some _ q4, q5⟩
  refine ⟨hnew.typeIs, F.args_dict_init_2 _ _, ?_⟩
  unfold Builtin.«dict.__init__»
  refine wpAny_bind ?_
  unfold Builtin.Dict.selfAndRest
  refine wpAny_bind (wpAny_notOrdered_dict hnew.typeIs ?_)
  show wpAny _ _ (pure (s.heap.objs.size, [Value.ref o])) _ _ _
  refine wpAny_pure ?_
  show wpAny _ _ (Builtin.Dict.updateFrom "dict.__init__" s.heap.objs.size (.ref o) [] .none) _ _ _
  unfold Builtin.Dict.updateFrom
  refine wpAny_bind (wpAny_typeOf ho'.typeIs ?_)
  rw [if_neg (by decide)]
  refine wpAny_bind ?_
  unfold Builtin.Dict.merge
  refine wpAny_bind ?_
  unfold Builtin.Dict.readDirectly
  refine wpAny_bind (wpAny_isInstance ho'.typeIs isSubtype_dict_dict ?_)
  simp only [Bool.not_true, Bool.false_eq_true, if_false]
  refine wpAny_bind (wpAny_specialOf ho'.typeIs F.slot_dict_iter.lookup (wpAny_pure ?_))
  simp only [beq_self_eq_true, if_true]
  refine wpAny_bind (wpAny_pure ?_)
  refine mergeH (hsz := hsz) hdo hoS hnew ho' hn fun h' hd' hs' => ?_
  show wpAny _ _ (Builtin.Dict.addKeywords s.heap.objs.size [] >>= _) _ _ _
  exact wpAny_bind (wpAny_pure (wpAny_pure ⟨rfl, h h' hd' hs'⟩))
end
def HDs (kvs : List (List Key × V)) : Prop := ∃ ts : List (List Int), kvs.map (·.1) = ts.map (fun t => t.map Sum.inl) ∧ (ts.map hsI).Nodup
theorem KT.keysEq {H : Hp} {kvs : List (List Key × V)} {xs : List (List Key × Addr × Value)} (r : KT H kvs xs) : xs.map (·.1) = kvs.map (·.1) := by
  induction r with
  | nil => rfl
  | cons h t ih => rw [List.map_cons, List.map_cons, ih, h.1]
section
variable {X : Cx}
theorem hsT_int (P : Program) (w : World) (t : List Int) : (tupleKind (mixKind P w)).hash (t.map Sum.inl) = hsI t := by
  show reduceHash (Builtin.Tuple.tupleHashOf ((t.map Sum.inl).map (mixKind P w).hash)) = _
  rw [List.map_map]; rfl
theorem call_dictD : CallR X (.type "dict") (fun xs H Q => ∃ d kvs, xs = [.ref d] ∧ H d = some (.dT kvs) ∧ HDs kvs ∧ ∀ p, H p = none → Q (.ref p) (upd H p (.dT kvs))) := by
  intro pins s σ H xs us Q I r h
  obtain ⟨d, kvs, rfl, hH, ⟨ts, hts, htn⟩, q⟩ := h
  obtain ⟨u, rfl, rx⟩ := vals1 r
  cases rx
  obtain ⟨z, hd, ys, rel, dd⟩ := dt_of I.hok hH
  have hz : ys.length ≤ sizeLine := by rw [← Paired.length rel]; exact z
  have kys : ys.map (·.1) = kvs.map (·.1) := KT.keysEq rel
  have hn : (ys.map fun x => (tupleKind (mixKind X.prog X.w)).hash x.1).Nodup := by
    have e : (ys.map fun x => (tupleKind (mixKind X.prog X.w)).hash x.1) = (ys.map (·.1)).map (tupleKind (mixKind X.prog X.w)).hash := by rw [List.map_map]; rfl
    rw [e, kys, hts, List.map_map]
    have e2 : (ts.map ((tupleKind (mixKind X.prog X.w)).hash ∘ fun t => t.map Sum.inl)) = ts.map hsI := List.map_congr_left fun t _ => hsT_int _ _ t
    rw [e2]; exact htn
  refine call_dictH (kk := mixKind X.prog X.w) hd dd hn hz fun h' dd' hs => ?_
  have kp : ∀ b o', s.heap.get? b = some o' → h'.get? b = some o' := fun b o' e => by
    rw [hs.2 b (Nat.ne_of_lt (Heap.lt_size e))]; exact Heap.get?_push_of_some _ e
  obtain ⟨o, es, ep, h1, h2, h3, h4, _, h5⟩ := dd'
  have nf := I.hok.fresh (Nat.le_refl s.heap.objs.size)
  refine ⟨.ref s.heap.objs.size, _, I.laid (t' := s.toks) kp (Nat.le_refl _) (show ObjOk X.prog X.w _ h' _ (.dT kvs) from ⟨z, ?_, ys, rel.keeps fun c yy ec => ?_, o, es, ep, h1, h2, h3, h4, h5⟩), rfl, q _ nf⟩
  · exact beq_eq_false_iff_ne.mpr (Nat.ne_of_gt I.big)
  · rw [upd_ne (fun e => by rw [e, nf] at ec; cases ec)]; exact ec
end
end L2
namespace L2
open PySem PySem.Spec PyProof.Rows
def mxD (d : Int) : List Int → Int
  | [] => d
  | x :: xs => xs.foldl max x
theorem max_dflt (a v : Value) : argsOk "max" ⟨[a], [(Str.ofString "default", v)]⟩ := by unfold argsOk; kernel_rfl
section
variable {prog : Program} {w : World} {A : Around} {E : Value → Shared → Prop} {l It S : Addr}
theorem imax_loop {its : List Value} {xs : List Int} {dv : Value} {h0 : Heap} {R : Result → Shared → Prop} (hh : A.handled = none) (hi : IntsAre its xs) (hl0 : h0.IsList l its.toArray) (fI : h0.get? It = none) (fS : h0.get? S = none) (hSI : S ≠ It) :
    ∀ (rest : List Int) (j : Nat) (b : Int) (t : Tok) (c : Nat) (s : Shared), xs.drop j = rest → (∀ a o, h0.get? a = some o → s.heap.get? a = some o) → s.heap.IsListIter It l j → s.heap.get? S = some (seqObj "list" #[.int b t, .int b t] c) →
      (∀ h' tk t', (∀ a o, h0.get? a = some o → h'.get? a = some o) → R (.ok (.ret (.int (rest.foldl max b) t'))) { s with heap := h', toks := tk }) →
      codeAny (model prog w) A (.builtin "max.loop" ⟨[.ref It, .none, .ref S], [(Str.ofString "default", dv)]⟩) R s := by
  have hname : (toString "max" ++ toString ".loop" : String) = "max.loop" := by decide
  have hlen : its.length = xs.length := hi.length
  have ls : ∀ h : Heap, (∀ a o, h0.get? a = some o → h.get? a = some o) → h.IsList l its.toArray := fun h k => by
    obtain ⟨o, ho, q⟩ := hl0
    exact ⟨o, k _ _ ho, q⟩
  intro rest
  induction rest with
  | nil =>
    intro j b t c s hdrop kp hit hS hR
    have hj : xs.length ≤ j := List.drop_eq_nil_iff.mp hdrop
    refine codeAny_builtin PySem.F.entry_max_loop ?_
    rw [Around.under_plainId PySem.F.plain_max_loop _]
    show wpAny _ A.in1 (seqItems? (.ref S) >>= _) _ _ _
    refine wpAny_bind (wpAny_seqItems hS rfl ?_)
    show wpAny _ A.in1 (tryCatch (pyNext (.ref It)) _ >>= _) _ _ _
    refine wpAny_bind (wpAny_tryCatch (wpAny_pyNext_list_end (A := A.in1) hh hit (ls _ kp) (by rw [List.getElem?_toArray, List.getElem?_eq_none]; omega) fun h' he' => ?_))
    show wpAny _ A.in1 (updateSeq S (fun _ => #[]) >>= _) _ _ _
    have hS' : h'.get? S = some (seqObj "list" #[.int b t, .int b t] c) := he' S _ hSI hS
    refine wpAny_bind ?_
    refine wpAny_updateSeq hS' rfl (wpAny_bind (wpAny_letGo (wpAny_pure ?_)))
    have sb := Heap.SameBut.update h' S (Obj.mapSeq fun _ => (#[] : Array Value))
    refine hR _ s.toks t fun a o e => ?_
    have aS : a ≠ S := fun z => by subst z; rw [fS] at e; cases e
    have aI : a ≠ It := fun z => by subst z; rw [fI] at e; cases e
    exact (sb.2 a aS).trans (he' a o aI (kp a o e))
  | cons x rest ih =>
    intro j b t c s hdrop kp hit hS hR
    have hx : xs[j]? = some x := by rw [← List.head?_drop, hdrop]; rfl
    have hdrop' : xs.drop (j + 1) = rest := by rw [← List.tail_drop, hdrop]; rfl
    obtain ⟨tx, hu⟩ := hi.get _ _ hx
    refine codeAny_builtin PySem.F.entry_max_loop ?_
    rw [Around.under_plainId PySem.F.plain_max_loop _]
    show wpAny _ A.in1 (seqItems? (.ref S) >>= _) _ _ _
    refine wpAny_bind (wpAny_seqItems hS rfl ?_)
    show wpAny _ A.in1 (tryCatch (pyNext (.ref It)) _ >>= _) _ _ _
    refine wpAny_bind (wpAny_tryCatch (wpAny_pyNext_list_item hit (ls _ kp) (x := .int x tx) (by rw [List.getElem?_toArray]; exact hu) fun h' hit' hs' => ?_))
    have kp' : ∀ a o, h0.get? a = some o → h'.get? a = some o := fun a o e => by
      have aI : a ≠ It := fun z => by subst z; rw [fI] at e; cases e
      exact (hs'.2 a aI).trans (kp a o e)
    have hS' : h'.get? S = some (seqObj "list" #[.int b t, .int b t] c) := (hs'.2 S hSI).trans hS
    show wpAny _ A.in1 (pure (Value.int x tx) >>= _) _ _ _
    refine wpAny_bind (wpAny_pure ?_)
    show wpAny _ A.in1 (tryCatch (holding [.int x tx, .int x tx] (richCompare .Gt (.int x tx) (.int b t) >>= _)) _ >>= _) _ _ _
    refine wpAny_bind (wpAny_tryCatch (wpAny_holding (wpAny_bind (SiftDown.gt_int ?_))))
    refine wpAny_bind (wpAny_holding (wpAny_truthy_bool ?_))
    refine wpAny_bind (wpAny_letGo (wpAny_pure ?_))
    by_cases hb : x > b
    · rw [decide_eq_true hb]
      simp only [if_true]
      have sb := Heap.SameBut.update h' S (Obj.mapSeq fun _ => #[Value.int x tx, Value.int x tx])
      obtain ⟨c2, hc2⟩ : ∃ c2, (h'.update S (Obj.mapSeq fun _ => #[Value.int x tx, Value.int x tx])).get? S = some (seqObj "list" #[.int x tx, .int x tx] c2) := ⟨_, get?_update_seq hS' fun _ => #[Value.int x tx, Value.int x tx]⟩
      refine wpAny_bind ?_
      refine wpAny_updateSeq hS' rfl (wpAny_bind (wpAny_letGo ?_))
      rw [hname]
      obtain ⟨oI', hoI', hoc, hod⟩ := id hit'
      refine wpAny_pure ⟨plainId_quiet PySem.F.plain_max_loop _, ih (j + 1) x tx c2 _ hdrop' (fun a o e => ?_) ⟨oI', (sb.2 It hSI.symm).trans hoI', hoc, hod⟩ hc2 fun h2 tk t' k2 => ?_⟩
      · have aS : a ≠ S := fun z => by subst z; rw [fS] at e; cases e
        exact (sb.2 a aS).trans (kp' a o e)
      · have e : max b x = x := by omega
        have := hR h2 tk t' k2
        rw [List.foldl_cons, e] at this
        exact this
    · rw [decide_eq_false hb]
      simp only [Bool.false_eq_true, if_false]
      refine wpAny_bind (wpAny_letGo ?_)
      rw [hname]
      refine wpAny_pure ⟨plainId_quiet PySem.F.plain_max_loop _, ih (j + 1) b t c _ hdrop' kp' hit' hS' fun h2 tk t' k2 => ?_⟩
      have e : max b x = b := by omega
      have := hR h2 tk t' k2
      rw [List.foldl_cons, e] at this
      exact this
theorem imax_run {s : Shared} {its : List Value} {xs : List Int} {d : Int} {td : Tok} {Q : Value → Shared → Prop} (hh : A.handled = none) (hls : s.heap.IsList l its.toArray) (hi : IntsAre its xs)
    (hQ : ∀ h' tk t', (∀ a o, s.heap.get? a = some o → h'.get? a = some o) → Q (.int (mxD d xs) t') { s with heap := h', toks := tk }) :
    wpAny (model prog w) A (call (.builtin "max") [.ref l] [(Str.ofString "default", .int d td)]) Q E s := by
  have hname : (toString "max" ++ toString ".loop" : String) = "max.loop" := by decide
  have hlen : its.length = xs.length := hi.length
  refine kmk_tree PySem.F.kind_max PySem.F.plain_max PySem.F.entry_max (max_dflt _ _) ?_
  show wpAny _ A.in1 (Builtin.Builtins.bindParams "max" ["key", "default"] 0 ⟨[], [(Str.ofString "default", .int d td)]⟩ >>= _) _ _ s
  refine wpAny_bind (wpAny_of_eq (show Builtin.Builtins.bindParams "max" ["key", "default"] 0 ⟨[], [(Str.ofString "default", .int d td)]⟩ = pure [none, some (.int d td)] from rfl) ?_)
  refine wpAny_bind (wpAny_pure ?_)
  refine wpAny_bind (wpAny_pyIter_list hls ?_)
  refine wpAny_bind (wpAny_newList ?_ (Nat.zero_le _))
  rw [hname]
  refine wpAny_pure ⟨plainId_quiet PySem.F.plain_max_loop _, ?_⟩
  have hS : (s.heap.push { cls := .type "list_iterator", data := .fields #[.ref l, .int 0 0] }).objs.size = s.heap.objs.size + 1 := size_push' ..
  have k2 : ∀ a o, s.heap.get? a = some o → ((s.heap.push { cls := .type "list_iterator", data := .fields #[.ref l, .int 0 0] }).push (seqObj "list" #[] 0)).get? a = some o := fun a o e => Heap.get?_push_of_some _ (Heap.get?_push_of_some _ e)
  have gI : ((s.heap.push { cls := .type "list_iterator", data := .fields #[.ref l, .int 0 0] }).push (seqObj "list" #[] 0)).IsListIter s.heap.objs.size l 0 := ⟨_, Heap.get?_push_of_some _ (Heap.get?_push_size _ rfl), rfl, rfl⟩
  have gS : ((s.heap.push { cls := .type "list_iterator", data := .fields #[.ref l, .int 0 0] }).push (seqObj "list" #[] 0)).get? (s.heap.push { cls := .type "list_iterator", data := .fields #[.ref l, .int 0 0] }).objs.size = some (seqObj "list" #[] 0) := Heap.get?_push_size _ rfl
  have fI : s.heap.get? s.heap.objs.size = none := Heap.get?_none_of_le (Nat.le_refl _)
  have fS : s.heap.get? (s.heap.push { cls := .type "list_iterator", data := .fields #[.ref l, .int 0 0] }).objs.size = none := Heap.get?_none_of_le (by rw [hS]; exact Nat.le_succ _)
  have hSI : (s.heap.push { cls := .type "list_iterator", data := .fields #[.ref l, .int 0 0] }).objs.size ≠ s.heap.objs.size := by rw [hS]; exact Nat.ne_of_gt (Nat.lt_succ_self _)
  generalize (s.heap.push { cls := .type "list_iterator", data := .fields #[.ref l, .int 0 0] }).objs.size = S at gS fS hSI ⊢
  generalize ((s.heap.push { cls := .type "list_iterator", data := .fields #[.ref l, .int 0 0] }).push (seqObj "list" #[] 0)) = h1 at k2 gI gS
  have ls1 : h1.IsList l its.toArray := by obtain ⟨o, ho, q⟩ := hls; exact ⟨o, k2 _ _ ho, q⟩
  refine codeAny_builtin PySem.F.entry_max_loop ?_
  rw [Around.under_plainId PySem.F.plain_max_loop _]
  show wpAny _ A.in1 (seqItems? (.ref S) >>= _) _ _ _
  refine wpAny_bind (wpAny_seqItems gS rfl ?_)
  show wpAny _ A.in1 (tryCatch (pyNext (.ref s.heap.objs.size)) _ >>= _) _ _ _
  cases xs with
  | nil =>
    refine wpAny_bind (wpAny_tryCatch (wpAny_pyNext_list_end (A := A.in1) hh gI ls1 (by rw [List.getElem?_toArray, List.getElem?_eq_none]; rw [hlen]; exact Nat.zero_le _) fun h' he' => ?_))
    refine wpAny_bind (wpAny_rule (wpAny_pure ?_))
    refine hQ h' s.toks td fun a o e => he' a o (fun z => by subst z; rw [fI] at e; cases e) (k2 a o e)
  | cons x xs =>
    obtain ⟨tx, hu⟩ := hi.get 0 x rfl
    refine wpAny_bind (wpAny_tryCatch (wpAny_pyNext_list_item gI ls1 (x := .int x tx) (by rw [List.getElem?_toArray]; exact hu) fun h' hit' hs' => ?_))
    have kp' : ∀ a o, s.heap.get? a = some o → h'.get? a = some o := fun a o e => (hs'.2 a (fun z => by subst z; rw [fI] at e; cases e)).trans (k2 a o e)
    have hS' : h'.get? S = some (seqObj "list" #[] 0) := (hs'.2 S hSI).trans gS
    show wpAny _ A.in1 (pure (Value.int x tx) >>= _) _ _ _
    refine wpAny_bind (wpAny_pure ?_)
    show wpAny _ A.in1 (updateSeq S (fun _ => #[.int x tx, .int x tx]) >>= _) _ _ _
    have sb := Heap.SameBut.update h' S (Obj.mapSeq fun _ => #[Value.int x tx, Value.int x tx])
    obtain ⟨c2, hc2⟩ : ∃ c2, (h'.update S (Obj.mapSeq fun _ => #[Value.int x tx, Value.int x tx])).get? S = some (seqObj "list" #[.int x tx, .int x tx] c2) := ⟨_, get?_update_seq hS' fun _ => #[Value.int x tx, Value.int x tx]⟩
    refine wpAny_bind ?_
    refine wpAny_updateSeq hS' rfl ?_
    rw [hname]
    obtain ⟨oI', hoI', hoc, hod⟩ := id hit'
    refine wpAny_pure ⟨plainId_quiet PySem.F.plain_max_loop _, imax_loop hh hi hls fI fS hSI xs 1 x tx c2 _ rfl (fun a o e => ?_) ⟨oI', (sb.2 _ hSI.symm).trans hoI', hoc, hod⟩ hc2 fun h2 tk t' k2 => hQ h2 tk t' k2⟩
    exact (sb.2 a (fun z => by subst z; rw [fS] at e; cases e)).trans (kp' a o e)
end
def tMaxD (te td : TE) : TE := fun σ H Q => te σ H fun v H1 => td σ H1 fun dv H2 => ∃ (l : Addr) (xs : List Int) (d : Int), v = .ref l ∧ dv = .int d ∧ H2 l = some (.lst (xs.map V.int)) ∧ Q (.int (mxD d xs)) H2
section
variable {X : Cx} {j : Nat} {p pos kpos : Pos} {e o : Expr} {te td : TE}
theorem pe_maxD (he : PE X e te) (ho : PE X o td) (hr : Room j X.A) (hm : X.mg ("max" : Str) = none) (hg : Gl X "max" := by rfl)
    (hs : starEach [e] X.env = (false, eval e X.env) :: starEach [] X.env := by rfl) :
    PE X (.Call (.Name "max" p) [e] [⟨some "default", o, kpos⟩] pos) (tMaxD te td) := by
  intro pins s σ H Q I h
  refine wpAny_Call_Name_kw (ld_blt I hg hm boot_max ?_)
  have h' : tCons te tNil σ H (fun vs H1 => match vs with
      | [v] => td σ H1 fun dv H2 => ∃ (l : Addr) (xs : List Int) (d : Int), v = .ref l ∧ dv = .int d ∧ H2 l = some (.lst (xs.map V.int)) ∧ Q (.int (mxD d xs)) H2
      | _ => False) := h
  refine callWith_kw (thn ((pa_cons he pa_nil hs) pos pins s σ H _ I h') fun us s1 ⟨vs, H1, I1, r1, q1⟩ => ?_) (by rw [hs]; rfl) (by rw [hs]; rfl)
  cases r1 with
  | nil => exact False.elim q1
  | cons ru rr =>
    cases rr with
    | cons _ _ => exact False.elim q1
    | nil =>
      refine kwAll_cons (thn (ho pins s1 σ H1 _ I1 q1) fun uo s2 ⟨ov, H2, I2, ro, l, xs, d, ev, eo, eh, q⟩ => ?_)
      subst eo
      subst ev
      cases ru
      obtain ⟨td', rfl⟩ : ∃ t, uo = .int d t := ro
      refine kwAll_nil ?_
      obtain ⟨its, n, rv, hl, _⟩ := I2.lst eh
      have hls : s2.heap.IsList l its.toArray := ⟨_, hl, rfl, n, rfl⟩
      exact imax_run hr.hd hls (intsAre_of rv) fun h' tk t' k => ⟨.int (mxD d xs), H2, I2.kept k, ⟨t', rfl⟩, q⟩
end
theorem for_zip {K : PySem.W.Frag} {b1 b2 : Bool} {a1 a2 : Addr} {xs ys : List V} {g : TG} {tb : TS} {D : Ends} {σ : St} {H : Hp} (Pv : Nat → St → Hp → Prop) (h0 : Pv 0 σ H) (hl : ∀ i σ H, Pv i σ H → SqX K b1 H a1 xs ∧ SqX K b2 H a2 ys)
    (hs : ∀ i x y σ H p, xs[i]? = some x → ys[i]? = some y → Pv i σ H → H p = none → g (.ref p) σ (upd H p (.tup [x, y])) fun σ2 H2 => tb { D with nx := Pv (i + 1), ct := Pv (i + 1), bk := D.nx } σ2 H2) (hd : ∀ σ H, Pv (min xs.length ys.length) σ H → D.nx σ H) :
    ∃ W : Nat → Nat → St → Hp → Prop, (∃ m, W 0 m σ H) ∧ ∀ i m σ H, W i m σ H →
      ((Itz K b1 b2 a1 a2).stop i H ∧ D.nx σ H) ∨ ((Itz K b1 b2 a1 a2).go i H ∧ ∃ N : St → Hp → Prop, (∀ σ' H', N σ' H' → ∃ m', m' < m ∧ W (i + 1) m' σ' H') ∧ ∀ x H', (Itz K b1 b2 a1 a2).yld i H x H' → g x σ H' fun σ2 H2 => tb { D with nx := N, ct := N, bk := D.nx } σ2 H2) := by
  refine ⟨fun i m σ H => m = min xs.length ys.length - i ∧ i ≤ min xs.length ys.length ∧ Pv i σ H, ⟨min xs.length ys.length, by simp, Nat.zero_le _, h0⟩, ?_⟩
  rintro i m σ H ⟨rfl, hi, p⟩
  obtain ⟨q1, q2⟩ := hl i σ H p
  by_cases hlt : i < min xs.length ys.length
  · have i1 : i < xs.length := by omega
    have i2 : i < ys.length := by omega
    refine .inr ⟨⟨xs, ys, xs[i], ys[i], q1, q2, by simp [i1], by simp [i2]⟩, Pv (i + 1), fun σ' H' p' => ⟨min xs.length ys.length - (i + 1), by omega, rfl, hlt, p'⟩, fun x H' y => ?_⟩
    obtain ⟨r, u, v, hp, rfl, rfl, y1, y2⟩ := y
    exact hs i u v σ H r (y1 xs q1) (y2 ys q2) p hp
  · have z : i = min xs.length ys.length := by omega
    refine .inl ⟨⟨xs, ys, q1, q2, ?_⟩, hd σ H (z ▸ p)⟩
    rcases Nat.le_total xs.length ys.length with q | q
    · exact .inl (by omega)
    · exact .inr (by omega)
end L2
namespace K1
def gI (a b : Int) : Int := ((Int.gcd a b : Nat) : Int)
theorem gI_nonneg (a b : Int) : 0 ≤ gI a b := Int.natCast_nonneg _
theorem gI_pos {a b : Int} (h : b ≠ 0) : 0 < gI a b := by
  have : 0 < Int.gcd a b := Int.gcd_pos_of_ne_zero_right a h
  unfold gI; omega
theorem gI_dvd_l (a b : Int) : gI a b ∣ a := Int.gcd_dvd_left a b
theorem gI_dvd_r (a b : Int) : gI a b ∣ b := Int.gcd_dvd_right a b
theorem gI_one (a : Int) : gI a 1 = 1 := by unfold gI; simp
theorem gI_zero (a : Int) (h : 0 ≤ a) : gI a 0 = a := by unfold gI; rw [Int.gcd_zero_right]; omega
/-- one turn of the loop -/
theorem gI_step {a b : Int} (ha : 0 ≤ a) (hb : 0 < b) : gI b (Int.fmod a b) = gI a b := by
  unfold gI
  congr 1
  rw [Int.fmod_eq_emod_of_nonneg a (Int.le_of_lt hb)]
  show Nat.gcd b.natAbs (a % b).natAbs = Nat.gcd a.natAbs b.natAbs
  have e : (a % b).natAbs = a.natAbs % b.natAbs := by
    have h1 : a = (a.natAbs : Int) := by omega
    have h2 : b = (b.natAbs : Int) := by omega
    conv => lhs; rw [h1, h2]
    rw [← Int.natCast_emod]
    exact Int.natAbs_natCast _
  rw [e, Nat.gcd_comm a.natAbs, Nat.gcd_rec b.natAbs a.natAbs, Nat.gcd_comm]
structure Gc (a0 b0 a b : Int) : Prop where
  is : gI a b = gI a0 b0
theorem start {a b : Int} (ha : 0 ≤ a) (hb : 0 ≤ b) : 0 ≤ a ∧ 0 ≤ b ∧ Gc a b a b := ⟨ha, hb, ⟨rfl⟩⟩
theorem turn {a0 b0 a b : Int} (h : Gc a0 b0 a b) (ha : 0 ≤ a) (hb : 0 < b) : 0 ≤ b ∧ 0 ≤ Int.fmod a b ∧ Gc a0 b0 b (Int.fmod a b) :=
  ⟨by omega, Int.fmod_nonneg_of_pos a hb, ⟨(gI_step ha hb).trans h.is⟩⟩
theorem less {a b : Int} (hb : 0 < b) : (Int.fmod a b).toNat < b.toNat := by
  have := Int.fmod_lt_of_pos a hb
  have := Int.fmod_nonneg_of_pos a hb
  omega
theorem out {a0 b0 a b : Int} (h : Gc a0 b0 a b) (ha : 0 ≤ a) (hb : b = 0) : a = gI a0 b0 := by
  rw [← h.is, hb, gI_zero a ha]
/-- abs -/
theorem gI_abs (a b : Int) : gI (if a < 0 then -a else a) (if b < 0 then -b else b) = gI a b := by
  unfold gI
  congr 1
  have h (x : Int) : (if x < 0 then -x else x).natAbs = x.natAbs := by split <;> omega
  show Nat.gcd _ _ = Nat.gcd _ _
  rw [h, h]
theorem coprime {d q1 q2 : Int} (hd : d ≠ 0) (h : gI (d * q1) (d * q2) = d ∨ gI (d * q1) (d * q2) = -d) : gI q1 q2 = 1 := by
  unfold gI at h ⊢
  rw [Int.gcd_mul_left] at h
  have h0 : (d.natAbs * Int.gcd q1 q2 : Nat) = d.natAbs := by
    rcases h with h | h <;> omega
  have : Int.gcd q1 q2 = 1 := by
    have hp : 0 < d.natAbs := by omega
    exact Nat.eq_of_mul_eq_mul_left hp (by omega)
  rw [this]; rfl
end K1

namespace K1
/-- by what top and bottom are divided, with the bottom's sign -/
def dv (t b : Int) : Int := if b < 0 then -(gI t b) else gI t b
def fT (t b : Int) : Int := t.fdiv (dv t b)
def fB (t b : Int) : Int := b.fdiv (dv t b)
theorem dv_abs (t b : Int) : (dv t b).natAbs = Int.gcd t b := by
  unfold dv gI; split <;> omega
theorem dv_ne {t b : Int} (h : b ≠ 0) : dv t b ≠ 0 := by
  have := gI_pos (a := t) h
  unfold dv; split <;> omega
theorem dvd_of_abs {d x : Int} {n : Nat} (h : d.natAbs = n) (hx : (n : Int) ∣ x) : d ∣ x := by
  rw [← Int.natAbs_dvd, h]; exact hx
theorem ex {t b : Int} (h : b ≠ 0) : ∃ q1 q2, t = dv t b * q1 ∧ b = dv t b * q2 ∧ fT t b = q1 ∧ fB t b = q2 := by
  obtain ⟨q1, e1⟩ := dvd_of_abs (dv_abs t b) (Int.gcd_dvd_left t b)
  obtain ⟨q2, e2⟩ := dvd_of_abs (dv_abs t b) (Int.gcd_dvd_right t b)
  refine ⟨q1, q2, e1, e2, ?_, ?_⟩
  · unfold fT
    have := Int.mul_fdiv_cancel_left (a := dv t b) q1 (dv_ne h)
    rw [← e1] at this; exact this
  · unfold fB
    have := Int.mul_fdiv_cancel_left (a := dv t b) q2 (dv_ne h)
    rw [← e2] at this; exact this
theorem fB_pos {t b : Int} (h : b ≠ 0) : 1 ≤ fB t b := by
  obtain ⟨q1, q2, _, e2, _, f2⟩ := ex (t := t) h
  rw [f2]
  have hp := gI_pos (a := t) h
  rcases (by omega : q2 ≤ 0 ∨ 1 ≤ q2) with q | q
  · exfalso
    by_cases hb : b < 0
    · have ed : dv t b = -(gI t b) := by unfold dv; rw [if_pos hb]
      rw [ed] at e2
      have := Int.mul_nonneg_of_nonpos_of_nonpos (show -(gI t b) ≤ 0 by omega) q
      omega
    · have ed : dv t b = gI t b := by unfold dv; rw [if_neg hb]
      rw [ed] at e2
      have := Int.mul_nonpos_of_nonneg_of_nonpos (show 0 ≤ gI t b by omega) q
      omega
  · exact q
theorem f_cross {t b : Int} (h : b ≠ 0) : fT t b * b = t * fB t b := by
  obtain ⟨q1, q2, e1, e2, f1, f2⟩ := ex (t := t) h
  rw [f1, f2]
  conv => lhs; rw [e2]
  conv => rhs; rw [e1]
  rw [Int.mul_assoc, Int.mul_left_comm]
theorem f_cop {t b : Int} (h : b ≠ 0) : gI (fT t b) (fB t b) = 1 := by
  obtain ⟨q1, q2, e1, e2, f1, f2⟩ := ex (t := t) h
  rw [f1, f2]
  refine coprime (d := dv t b) (dv_ne h) ?_
  rw [← e1, ← e2]
  unfold dv; split
  · right; omega
  · left; rfl
theorem f_one (t : Int) : fT t 1 = t ∧ fB t 1 = 1 := by
  have e : dv t 1 = 1 := by unfold dv; rw [if_neg (by decide), gI_one]
  unfold fT fB
  rw [e]
  exact ⟨Int.fdiv_one t, by decide⟩
end K1

namespace K1
theorem co_iff {a b : Int} : gI a b = 1 ↔ Nat.Coprime a.natAbs b.natAbs := by
  unfold gI Nat.Coprime
  show ((Nat.gcd a.natAbs b.natAbs : Nat) : Int) = 1 ↔ _
  omega
theorem co_sym {a b : Int} (h : gI a b = 1) : gI b a = 1 := co_iff.mpr (co_iff.mp h).symm
theorem co_mulr {a b c : Int} (h : gI a b = 1) (h' : gI a c = 1) : gI a (b * c) = 1 := by
  rw [co_iff] at *
  rw [Int.natAbs_mul]
  exact Nat.Coprime.mul_right h h'
theorem co_mull {a b c : Int} (h : gI a c = 1) (h' : gI b c = 1) : gI (a * b) c = 1 := co_sym (co_mulr (co_sym h) (co_sym h'))
theorem co_dl {a a' b : Int} (d : a' ∣ a) (h : gI a b = 1) : gI a' b = 1 := by
  rw [co_iff] at *
  exact Nat.Coprime.coprime_dvd_left (Int.natAbs_dvd_natAbs.mpr d) h
theorem co_dr {a b b' : Int} (d : b' ∣ b) (h : gI a b = 1) : gI a b' = 1 := co_sym (co_dl d (co_sym h))
/-- a number that divides both sides is one -/
theorem co_add {a b k : Int} (h : gI a b = 1) : gI (a + b * k) b = 1 := by
  unfold gI at *
  have : Int.gcd (a + b * k) b = Int.gcd a b := by simp
  rw [this]; exact h
theorem co_parts {a b : Int} (hb : b ≠ 0) : ∃ a' b', a = gI a b * a' ∧ b = gI a b * b' ∧ gI a' b' = 1 := by
  obtain ⟨a', ea⟩ := gI_dvd_l a b
  obtain ⟨b', eb⟩ := gI_dvd_r a b
  have hp := gI_pos (a := a) hb
  refine ⟨a', b', ea, eb, coprime (d := gI a b) (by omega) (.inl ?_)⟩
  rw [← ea, ← eb]
theorem dvd_of_co {a b c : Int} (h : gI a b = 1) (d : a ∣ b * c) : a ∣ c := by
  rw [co_iff] at h
  have := Int.natAbs_dvd_natAbs.mpr d
  rw [Int.natAbs_mul] at this
  exact Int.natAbs_dvd_natAbs.mp (Nat.Coprime.dvd_of_dvd_mul_left h this)
/-- lowest terms are one -/
theorem low_one {p q p' q' : Int} (hq : 1 ≤ q) (hq' : 1 ≤ q') (c : gI p q = 1) (c' : gI p' q' = 1) (e : p * q' = p' * q) : p = p' ∧ q = q' := by
  have d1 : q ∣ q' := dvd_of_co (co_sym c) ⟨p', by rw [e, Int.mul_comm]⟩
  have d2 : q' ∣ q := dvd_of_co (co_sym c') ⟨p, by rw [← e, Int.mul_comm]⟩
  have e1 : q = q' := Int.dvd_antisymm (by omega) (by omega) d1 d2
  subst e1
  exact ⟨Int.eq_of_mul_eq_mul_right (by omega) e, rfl⟩
theorem f_uniq {t b p q : Int} (hb : b ≠ 0) (hq : 1 ≤ q) (c : gI p q = 1) (e : p * b = t * q) : fT t b = p ∧ fB t b = q := by
  refine low_one (fB_pos hb) hq (f_cop hb) c ?_
  have h1 := f_cross (t := t) hb
  refine Int.eq_of_mul_eq_mul_right hb ?_
  calc fT t b * q * b = fT t b * b * q := by rw [Int.mul_right_comm]
    _ = t * fB t b * q := by rw [h1]
    _ = t * q * fB t b := by rw [Int.mul_right_comm]
    _ = p * b * fB t b := by rw [e]
    _ = p * fB t b * b := by rw [Int.mul_right_comm]
theorem fd {d q : Int} (h : d ≠ 0) : Int.fdiv (d * q) d = q := Int.mul_fdiv_cancel_left q h
def ab (a : Int) : Int := if a < 0 then -a else a
theorem gI_ab (a b : Int) : gI (ab a) b = gI a b := by
  unfold gI ab
  congr 1
  show Nat.gcd _ _ = Nat.gcd _ _
  congr 1
  split <;> omega
theorem posR {d q : Int} (hd : 0 < d) (h : 1 ≤ d * q) : 1 ≤ q := by
  rcases (by omega : q ≤ 0 ∨ 1 ≤ q) with g | g
  · have := Int.mul_nonpos_of_nonneg_of_nonpos (show 0 ≤ d by omega) g
    omega
  · exact g
/-- the product of two fractions in lowest terms -/
theorem times_low {x y z w : Int} (hy : 1 ≤ y) (hw : 1 ≤ w) (c : gI x y = 1) (c' : gI z w = 1) :
    (Int.fdiv x (gI x w) * Int.fdiv z (gI z y)) = fT (x * z) (y * w) ∧ Int.fdiv y (gI z y) * Int.fdiv w (gI x w) = fB (x * z) (y * w) := by
  obtain ⟨x1, w1, ex, ew, k1⟩ := co_parts (a := x) (b := w) (by omega)
  obtain ⟨z1, y1, ez, ey, k2⟩ := co_parts (a := z) (b := y) (by omega)
  have g1 := gI_pos (a := x) (b := w) (by omega)
  have g2 := gI_pos (a := z) (b := y) (by omega)
  generalize gI x w = g at *
  generalize gI z y = h at *
  subst ex ew ez ey
  rw [fd (by omega), fd (by omega), fd (by omega), fd (by omega)]
  have y1p := posR g2 hy
  have w1p := posR g1 hw
  have b0 : h * y1 * (g * w1) ≠ 0 := by
    intro q; rcases Int.mul_eq_zero.mp q with q | q <;> omega
  have kx : gI x1 y1 = 1 := co_dl (Int.dvd_mul_left g x1) (co_dr (Int.dvd_mul_left h y1) c)
  have kz : gI z1 w1 = 1 := co_dl (Int.dvd_mul_left h z1) (co_dr (Int.dvd_mul_left g w1) c')
  have := f_uniq (t := g * x1 * (h * z1)) (p := x1 * z1) (q := y1 * w1) b0 (Int.mul_pos y1p w1p)
    (co_mulr (co_mull kx k2) (co_mull k1 kz)) (by grind)
  exact ⟨this.1.symm, this.2.symm⟩
/-- the sum of two fractions in lowest terms -/
theorem plus_low {x y z w : Int} (hy : 1 ≤ y) (hw : 1 ≤ w) (c : gI x y = 1) (c' : gI z w = 1) :
    let g := gI y w; let T := x * Int.fdiv w g + z * Int.fdiv y g; let f := gI T g
    Int.fdiv T f = fT (x * w + z * y) (y * w) ∧ Int.fdiv y g * Int.fdiv w f = fB (x * w + z * y) (y * w) := by
  intro g T f
  obtain ⟨y1, w1, ey, ew, k1⟩ := co_parts (a := y) (b := w) (by omega)
  have g1 := gI_pos (a := y) (b := w) (by omega)
  have f1 : 0 < f := gI_pos (by omega)
  obtain ⟨T1, g2, eT, eg, k2⟩ := co_parts (a := T) (b := g) (by omega)
  have gd : g = gI y w := rfl
  have Td : T = x * Int.fdiv w g + z * Int.fdiv y g := rfl
  have fdd : f = gI T g := rfl
  rw [← fdd] at eT eg
  rw [← gd] at ey ew g1
  clear_value g T f
  subst ey ew
  rw [fd (by omega), fd (by omega)] at Td
  have y1p := posR g1 hy
  have w1p := posR g1 hw
  have cT1 : gI T y1 = 1 := by
    rw [Td, Int.mul_comm z y1]
    exact co_add (co_mull (co_dr (Int.dvd_mul_left g y1) c) (co_sym k1))
  have cT2 : gI T w1 = 1 := by
    rw [Td, Int.add_comm, Int.mul_comm x w1]
    exact co_add (co_mull (co_dr (Int.dvd_mul_left g w1) c') k1)
  have g2p : 1 ≤ g2 := posR f1 (by omega)
  have d1 : T1 ∣ T := ⟨f, by rw [eT, Int.mul_comm]⟩
  have e1 : Int.fdiv T f = T1 := by rw [eT, fd (by omega)]
  have e2 : Int.fdiv (g * w1) f = g2 * w1 := by rw [eg, Int.mul_assoc, fd (by omega)]
  have e3 : Int.fdiv (g * y1) g = y1 := fd (by omega)
  rw [e1, e2, e3]
  have b0 : g * y1 * (g * w1) ≠ 0 := by
    intro q; rcases Int.mul_eq_zero.mp q with q | q <;> omega
  have := f_uniq (t := x * (g * w1) + z * (g * y1)) (p := T1) (q := y1 * (g2 * w1)) b0 (Int.mul_pos y1p (Int.mul_pos g2p w1p))
    (co_mulr (co_dl d1 cT1) (co_mulr k2 (co_dl d1 cT2))) (by
      have : x * w1 + z * y1 = f * T1 := by rw [← Td]; exact eT
      have q : x * (g * w1) + z * (g * y1) = g * (f * T1) := by rw [← this]; grind
      rw [q]
      conv => lhs; rw [eg]
      conv => rhs; rw [eg]
      grind)
  exact ⟨this.1.symm, this.2.symm⟩
theorem fd_le {a d : Int} (h : d ∣ a) (hd : d ≠ 0) : (Int.fdiv a d).natAbs ≤ a.natAbs := by
  obtain ⟨q, rfl⟩ := h
  rw [fd hd, Int.natAbs_mul]
  exact Nat.le_mul_of_pos_left _ (by omega)
end K1

namespace K3
structure NoDiv (n d : Int) : Prop where
  is : ∀ e : Int, 2 ≤ e → e < d → Int.fmod n e ≠ 0
def Pr (n : Int) : Prop := 2 ≤ n ∧ ∀ e : Int, 2 ≤ e → e * e ≤ n → Int.fmod n e ≠ 0
noncomputable def isP (n : Int) : Bool := @decide (Pr n) (Classical.propDecidable _)
theorem isP_t {n : Int} (h : Pr n) : isP n = true := @decide_eq_true _ (Classical.propDecidable _) h
theorem isP_f {n : Int} (h : ¬ Pr n) : isP n = false := @decide_eq_false _ (Classical.propDecidable _) h
theorem small {d n : Int} (_h2 : 2 ≤ d) (h : d * d ≤ n) (hn : n ≤ 9973) : d ≤ 99 := by
  rcases (by omega : d ≤ 99 ∨ 100 ≤ d) with e | e
  · exact e
  · have := Int.mul_le_mul e e (by decide) (by omega)
    omega
theorem start (n : Int) : (2 : Int) ≤ 2 ∧ (2 : Int) ≤ 101 ∧ NoDiv n 2 := ⟨by decide, by decide, ⟨fun e h1 h2 => by omega⟩⟩
theorem turn {n d : Int} (h : NoDiv n d) (hm : ¬ Int.fmod n d = 0) (h2 : 2 ≤ d) (hq : d * d ≤ n) (hn : n ≤ 9973) : 2 ≤ d + 1 ∧ d + 1 ≤ 101 ∧ NoDiv n (d + 1) := by
  have s := small h2 hq hn
  refine ⟨by omega, by omega, ⟨fun e h1 h3 => ?_⟩⟩
  rcases (by omega : e < d ∨ e = d) with q | q
  · exact h.is e h1 q
  · rw [q]; exact hm
theorem less {n d : Int} (h2 : 2 ≤ d) (hq : d * d ≤ n) (hn : n ≤ 9973) : (200 - (d + 1)).toNat < (200 - d).toNat := by
  have s := small h2 hq hn
  omega
theorem low {n : Int} (h : n < 2) : false = isP n := by
  exact (isP_f fun h' => by have := h'.1; omega).symm
theorem out {n d : Int} (h : NoDiv n d) (hn : 2 ≤ n) (h2 : 2 ≤ d) (hq : ¬ d * d ≤ n) : true = isP n := by
  refine (isP_t ?_).symm
  refine ⟨hn, fun e h1 h3 => h.is e h1 ?_⟩
  rcases (by omega : e < d ∨ d ≤ e) with q | q
  · exact q
  · have := Int.mul_le_mul q q (by omega) (by omega)
    omega
theorem found {n d : Int} (h2 : 2 ≤ d) (hq : d * d ≤ n) (hm : Int.fmod n d = 0) : false = isP n := by
  exact (isP_f fun h' => h'.2 d h2 hq hm).symm
theorem outB {n d : Int} (h : NoDiv n d) (h2 : 2 ≤ d) (hq : ¬ d * d ≤ n) : decide (2 ≤ n) = isP n := by
  by_cases hn : 2 ≤ n
  · rw [← out h hn h2 hq]; exact decide_eq_true hn
  · rw [← low (by omega : n < 2)]; exact decide_eq_false hn
end K3

namespace K2
theorem p9973 : K3.isP 9973 = true := by
  apply K3.isP_t
  refine ⟨by decide, fun e h1 h2 h3 => ?_⟩
  have hs : e ≤ 99 := K3.small h1 h2 (by decide)
  have key : ∀ k : Nat, k < 100 → 2 ≤ k → ¬ Int.fmod 9973 (k : Int) = 0 := by decide
  have := key e.toNat (by omega) (by omega)
  have e1 : ((e.toNat : Nat) : Int) = e := by omega
  rw [e1] at this
  exact this h3
/-- the next prime -/
structure Up (n0 n : Int) : Prop where
  le : n ≤ 9973
theorem pr_of {n : Int} (h : K3.isP n = true) : K3.Pr n := by
  by_cases q : K3.Pr n
  · exact q
  · rw [K3.isP_f q] at h; cases h
theorem not9973 {n : Int} (h : K3.isP n = false) : n ≠ 9973 := by
  rintro rfl; rw [p9973] at h; cases h
/-- no divisor at all between 1 and p -/
theorem no_div {p l : Int} (hp : K3.Pr p) (h1 : 1 < l) (h2 : l < p) : Int.fmod p l ≠ 0 := by
  intro h0
  rw [Int.fmod_eq_emod_of_nonneg p (by omega)] at h0
  have hd : p = l * (p / l) := by have := Int.mul_ediv_add_emod p l; omega
  have hq1 : 1 < p / l := by
    rcases (by omega : p / l ≤ 1 ∨ 1 < p / l) with q | q
    · have := Int.mul_le_mul_of_nonneg_left q (by omega : 0 ≤ l)
      omega
    · exact q
  rcases (by omega : l * l ≤ p ∨ p < l * l) with q | q
  · refine hp.2 l (by omega) q ?_
    rw [Int.fmod_eq_emod_of_nonneg p (by omega)]; exact h0
  · have hlt : p / l < l := by
      rcases (by omega : p / l < l ∨ l ≤ p / l) with r | r
      · exact r
      · have := Int.mul_le_mul_of_nonneg_left r (by omega : 0 ≤ l)
        omega
    have hqq : (p / l) * (p / l) ≤ p := by
      have h := Int.mul_le_mul_of_nonneg_right (Int.le_of_lt hlt) (by omega : 0 ≤ p / l)
      omega
    refine hp.2 (p / l) (by omega) hqq ?_
    rw [Int.fmod_eq_emod_of_nonneg p (by omega)]
    apply Int.emod_eq_zero_of_dvd
    exact ⟨l, by rw [Int.mul_comm]; exact hd⟩
/-- the number turned over: the loop's word -/
structure Tn (p a found left : Int) : Prop where
  f0 : 0 ≤ found
  f1 : found < p
  l0 : 1 ≤ left
  l1 : left < p
  eq : (found * a - left) % p = 0
end K2

namespace K2
theorem md (t n : Int) : ∃ q, t % n = t + n * q := ⟨-(t / n), by have := Int.mul_ediv_add_emod t n; rw [Int.mul_neg]; omega⟩
theorem z_of {x n : Int} (k : Int) (h : x = n * k) : x % n = 0 := by rw [h]; exact Int.mul_emod_right n k
theorem of_z {x n : Int} (h : x % n = 0) : ∃ k, x = n * k := by obtain ⟨k, hk⟩ := Int.dvd_of_emod_eq_zero h; exact ⟨k, hk⟩
end K2

namespace K6
open L2 PySem
/-- a term as a key -/
def ky (xs : List Int) : List Key := xs.map Sum.inl
theorem ky_kV (xs : List Int) : (ky xs).map kV = xs.map V.int := by unfold ky; rw [List.map_map]; rfl
/-- a number of a field, as data -/
structure NmD (d : PyData) : Prop where
  lay : d.canLay0 = true
  dep : d.depth ≤ 60
theorem NmD.shaped {d : PyData} (h : NmD d) : SeqAt.shaped d = true := by
  have := h.dep
  unfold SeqAt.shaped
  rw [h.lay, Bool.true_and, decide_eq_true_eq]; omega
theorem nmd_int (i : Int) : NmD (.int i) := ⟨rfl, by simp [PyData.depth]⟩
theorem nmd_pair (i j : Int) : NmD (.tuple [.int i, .int j]) := ⟨rfl, by simp [PyData.depth, PyData.depthAll]⟩
mutual
theorem Rds.same {K : PySem.W.Frag} {H H' : Hp} (e : Same H H') : ∀ {v : V} {d : PyData}, Rds K H v d → Rds K H' v d
  | _, _, .non => .non
  | _, _, .bl b => .bl b
  | _, _, .int i => .int i
  | _, _, .str x => .str x
  | _, _, .tup h hs => .tup (e.seqT h) (RdsAll.same e hs)
  | _, _, .lst h hs => .lst (e.seq h) (RdsAll.same e hs)
theorem RdsAll.same {K : PySem.W.Frag} {H H' : Hp} (e : Same H H') : ∀ {vs : List V} {ds : List PyData}, RdsAll K H vs ds → RdsAll K H' vs ds
  | _, _, .nil => .nil
  | _, _, .cons h hs => .cons (Rds.same e h) (RdsAll.same e hs)
end
theorem sqT_updD {K : PySem.W.Frag} {H : Hp} {d a : Addr} {kvs : List (List Key × V)} {o : HO} {xs : List V} (e : H d = some (.dT kvs)) (h : SqT K H a xs) : SqT K (upd H d o) a xs := by
  rcases h with (h | ⟨q, h⟩) | h
  · exact .inl (.inl (by rw [upd_ne (ne_of h e (by intro z; cases z))]; exact h))
  · exact .inl (.inr ⟨q, by rw [upd_ne (ne_of h e (by intro z; cases z))]; exact h⟩)
  · exact .inr h
theorem sqL_updD {K : PySem.W.Frag} {H : Hp} {d a : Addr} {kvs : List (List Key × V)} {o : HO} {xs : List V} (e : H d = some (.dT kvs)) (h : SqL K H a xs) : SqL K (upd H d o) a xs := by
  rcases h with (h | ⟨q, h⟩) | h
  · exact .inl (.inl (by rw [upd_ne (ne_of h e (by intro z; cases z))]; exact h))
  · exact .inl (.inr ⟨q, by rw [upd_ne (ne_of h e (by intro z; cases z))]; exact h⟩)
  · exact .inr h
mutual
theorem Rds.updD {K : PySem.W.Frag} {H : Hp} {d : Addr} {kvs : List (List Key × V)} {o : HO} (e : H d = some (.dT kvs)) : ∀ {v : V} {z : PyData}, Rds K H v z → Rds K (upd H d o) v z
  | _, _, .non => .non
  | _, _, .bl b => .bl b
  | _, _, .int i => .int i
  | _, _, .str x => .str x
  | _, _, .tup h hs => .tup (sqT_updD e h) (RdsAll.updD e hs)
  | _, _, .lst h hs => .lst (sqL_updD e h) (RdsAll.updD e hs)
theorem RdsAll.updD {K : PySem.W.Frag} {H : Hp} {d : Addr} {kvs : List (List Key × V)} {o : HO} (e : H d = some (.dT kvs)) : ∀ {vs : List V} {ds : List PyData}, RdsAll K H vs ds → RdsAll K (upd H d o) vs ds
  | _, _, .nil => .nil
  | _, _, .cons h hs => .cons (Rds.updD e h) (RdsAll.updD e hs)
end
theorem rds_pair {K : PySem.W.Frag} {H : Hp} {r : Addr} {i j : Int} (h : H r = some (.tup [.int i, .int j])) : Rds K H (.ref r) (.tuple [.int i, .int j]) := .tup (SqT.of h) (.cons (.int i) (.cons (.int j) .nil))
end K6

namespace K8
open L2 PySem K1 K2 K3 K6
/-- nought in the field: n = 0 the fractions, else the rests by n -/
def zr (n T : Int) : Prop := if n = 0 then T = 0 else T % n = 0
instance zrDec (n T : Int) : Decidable (zr n T) := by unfold zr; exact inferInstance
theorem zr_0 {T : Int} : zr 0 T ↔ T = 0 := by simp [zr]
theorem zr_n {n T : Int} (h : n ≠ 0) : zr n T ↔ T % n = 0 := by simp [zr, h]
theorem pr_ne {n : Int} (h : Pr n) : n ≠ 0 := by have := h.1; omega
theorem pr_co {n b : Int} (hp : Pr n) (hb : b % n ≠ 0) : gI n b = 1 := by
  have h2 := hp.1
  have hn : n ≠ 0 := by omega
  have d1 := gI_dvd_l n b
  have d2 := gI_dvd_r n b
  have p : 0 < gI n b := by
    have := gI_nonneg n b
    rcases (by omega : gI n b = 0 ∨ 0 < gI n b) with z | z
    · rw [z] at d1; exact absurd (Int.zero_dvd.mp d1) hn
    · exact z
  have le : gI n b ≤ n := Int.le_of_dvd (by omega) d1
  rcases (by omega : gI n b = 1 ∨ gI n b = n ∨ (1 < gI n b ∧ gI n b < n)) with q | q | ⟨q1, q2⟩
  · exact q
  · rw [q] at d2; exact absurd (Int.emod_eq_zero_of_dvd d2) hb
  · exact absurd (Int.fmod_eq_zero_of_dvd d1) (no_div hp q1 q2)
theorem pr_cancel {n a b : Int} (hp : Pr n) (hb : b % n ≠ 0) (h : (a * b) % n = 0) : a % n = 0 := by
  rw [Int.mul_comm] at h
  exact Int.emod_eq_zero_of_dvd (dvd_of_co (pr_co hp hb) (Int.dvd_of_emod_eq_zero h))
theorem nz_mul {n a b : Int} (hn : n = 0 ∨ Pr n) (ha : ¬ zr n a) (hb : ¬ zr n b) : ¬ zr n (a * b) := by
  rcases hn with rfl | hp
  · rw [zr_0] at *; intro z; rcases Int.mul_eq_zero.mp z with q | q
    · exact ha q
    · exact hb q
  · rw [zr_n (pr_ne hp)] at *; exact fun z => ha (pr_cancel hp hb z)
theorem nz_one {n : Int} (hn : n = 0 ∨ Pr n) : ¬ zr n 1 := by
  rcases hn with rfl | hp
  · rw [zr_0]; decide
  · rw [zr_n (pr_ne hp), Int.emod_eq_of_lt (by decide) (by have := hp.1; omega)]; decide
def z0N (n : Int) : PyData := if n = 0 then .tuple [.int 0, .int 1] else .int 0
def z1N (n : Int) : PyData := if n = 0 then .tuple [.int 1, .int 1] else .int 1
theorem z0N_0 : z0N 0 = .tuple [.int 0, .int 1] := if_pos rfl
theorem z0N_n {n : Int} (h : n ≠ 0) : z0N n = .int 0 := if_neg h
/-- v is the number T over B of the field -/
def Is (n : Int) (H : Hp) (v : V) (T B : Int) : Prop :=
  if n = 0 then ∃ (r : Addr) (x y : Int), v = .ref r ∧ H r = some (.tup [.int x, .int y]) ∧ 1 ≤ y ∧ gI x y = 1 ∧ x * B = T * y
  else ∃ a : Int, v = .int a ∧ 0 ≤ a ∧ a < n ∧ (a * B - T) % n = 0
theorem is_0 {H : Hp} {v : V} {T B : Int} : Is 0 H v T B ↔ ∃ (r : Addr) (x y : Int), v = .ref r ∧ H r = some (.tup [.int x, .int y]) ∧ 1 ≤ y ∧ gI x y = 1 ∧ x * B = T * y := by unfold Is; rw [if_pos rfl]
theorem is_n {n : Int} (h : n ≠ 0) {H : Hp} {v : V} {T B : Int} : Is n H v T B ↔ ∃ a : Int, v = .int a ∧ 0 ≤ a ∧ a < n ∧ (a * B - T) % n = 0 := by unfold Is; rw [if_neg h]
/-- what a number needs of the heap -/
theorem Is.keep {n : Int} {H H' : Hp} {v : V} {T B : Int} (k : ∀ b xs, H b = some (.tup xs) → H' b = some (.tup xs)) (h : Is n H v T B) : Is n H' v T B := by
  by_cases z : n = 0
  · subst z
    obtain ⟨r, x, y, e, hr, q⟩ := is_0.mp h
    exact is_0.mpr ⟨r, x, y, e, k _ _ hr, q⟩
  · exact (is_n z).mpr ((is_n z).mp h)
theorem Is.same {n : Int} {H H' : Hp} {v : V} {T B : Int} (e : Same H H') (h : Is n H v T B) : Is n H' v T B := h.keep fun _ _ => e _ _
theorem Is.updD {n : Int} {H : Hp} {v : V} {T B : Int} {d : Addr} {kvs : List (List Key × V)} {o : HO} (e : H d = some (.dT kvs)) (h : Is n H v T B) : Is n (upd H d o) v T B := h.keep fun b xs hb => by
  rw [upd_ne (ne_of hb e (by intro z; cases z))]; exact hb
theorem cop_le {x y T B : Int} (hy : 1 ≤ y) (c : gI x y = 1) (hB : B ≠ 0) (e : x * B = T * y) : x.natAbs ≤ T.natAbs ∧ y.natAbs ≤ B.natAbs := by
  refine ⟨?_, ?_⟩
  · by_cases t : T = 0
    · subst t; rw [Int.zero_mul] at e
      rcases Int.mul_eq_zero.mp e with q | q
      · rw [q]; simp
      · exact absurd q hB
    · have d : x ∣ y * T := ⟨B, by rw [Int.mul_comm, ← e]⟩
      have := Int.natAbs_dvd_natAbs.mpr (dvd_of_co c d)
      exact Nat.le_of_dvd (by omega) this
  · have d : y ∣ x * B := ⟨T, by rw [e, Int.mul_comm]⟩
    have := Int.natAbs_dvd_natAbs.mpr (dvd_of_co (co_sym c) d)
    exact Nat.le_of_dvd (by omega) this
theorem Is.rds {n : Int} (hn : n = 0 ∨ Pr n) {K : PySem.W.Frag} {H : Hp} {v : V} {T B : Int} (hB : ¬ zr n B) (h : Is n H v T B) : ∃ dn, Rds K H v dn ∧ NmD dn ∧ PyData.eqv dn (z0N n) = decide (zr n T) := by
  rcases hn with rfl | hp
  · obtain ⟨r, x, y, rfl, hr, hy, c, e⟩ := is_0.mp h
    rw [zr_0] at hB
    refine ⟨_, rds_pair hr, nmd_pair x y, ?_⟩
    rw [z0N_0, PyData.eqv]
    have q := eqv_ints [x, y] [0, 1]
    refine q.trans ?_
    have : ([x, y] = [0, 1]) ↔ zr 0 T := by
      rw [zr_0]
      constructor
      · intro z; simp at z
        obtain ⟨rfl, rfl⟩ := z
        rw [Int.zero_mul, Int.mul_one] at e; exact e.symm
      · rintro rfl
        rw [Int.zero_mul] at e
        rcases Int.mul_eq_zero.mp e with z | z
        · subst z
          have : gI 0 y = y := by unfold gI; rw [Int.gcd_zero_left]; omega
          rw [this] at c; subst c; rfl
        · exact absurd z hB
    exact decide_eq_decide.mpr this
  · have n0 := pr_ne hp
    obtain ⟨a, rfl, a0, a1, e⟩ := (is_n n0).mp h
    rw [zr_n n0] at hB
    refine ⟨_, .int a, nmd_int a, ?_⟩
    rw [z0N_n n0]
    have q : PyData.eqv (.int a) (.int 0) = decide (a = 0) := by simp [PyData.eqv, Bool.beq_eq_decide_eq]
    rw [q]
    refine decide_eq_decide.mpr ?_
    rw [zr_n n0]
    constructor
    · rintro rfl
      rw [Int.zero_mul, Int.zero_sub] at e
      exact Int.emod_eq_zero_of_dvd (Int.dvd_neg.mp (Int.dvd_of_emod_eq_zero e))
    · intro z
      have d : n ∣ a * B := by
        have d1 := Int.dvd_of_emod_eq_zero e
        have d2 := Int.dvd_of_emod_eq_zero z
        have := Int.dvd_add d1 d2
        rwa [Int.sub_add_cancel] at this
      have := pr_cancel hp hB (Int.emod_eq_zero_of_dvd d)
      rwa [Int.emod_eq_of_lt a0 a1] at this
theorem Is.zero {n : Int} {K : PySem.W.Frag} {H : Hp} {v : V} (h : Is n H v 0 1) : Rds K H v (z0N n) := by
  by_cases n0 : n = 0
  · subst n0
    obtain ⟨r, x, y, rfl, hr, hy, c, e⟩ := is_0.mp h
    rw [Int.mul_one, Int.zero_mul] at e
    subst e
    have : gI 0 y = y := by unfold gI; rw [Int.gcd_zero_left]; omega
    rw [this] at c; subst c
    rw [z0N_0]; exact rds_pair hr
  · obtain ⟨a, rfl, a0, a1, e⟩ := (is_n n0).mp h
    rw [Int.mul_one, Int.sub_zero, Int.emod_eq_of_lt a0 a1] at e
    subst e
    rw [z0N_n n0]; exact .int 0
theorem nm_z0 (n : Int) : NmD (z0N n) := by
  unfold z0N; split
  · exact nmd_pair 0 1
  · exact nmd_int 0
theorem plus_F {x y z w T1 B1 T2 B2 : Int} (hy : 1 ≤ y) (hw : 1 ≤ w) (e1 : x * B1 = T1 * y) (e2 : z * B2 = T2 * w) : fT (x * w + z * y) (y * w) * (B1 * B2) = (T1 * B2 + T2 * B1) * fB (x * w + z * y) (y * w) := by
  have hb : y * w ≠ 0 := by intro q; rcases Int.mul_eq_zero.mp q with q | q <;> omega
  have c := f_cross (t := x * w + z * y) hb
  generalize fT (x * w + z * y) (y * w) = p at *
  generalize fB (x * w + z * y) (y * w) = q at *
  refine Int.eq_of_mul_eq_mul_right hb ?_
  grind
theorem plus_R {n a b T1 B1 T2 B2 : Int} (e1 : (a * B1 - T1) % n = 0) (e2 : (b * B2 - T2) % n = 0) : ((a + b) % n * (B1 * B2) - (T1 * B2 + T2 * B1)) % n = 0 := by
  obtain ⟨k1, h1⟩ := of_z e1
  obtain ⟨k2, h2⟩ := of_z e2
  obtain ⟨q, hq⟩ := md (a + b) n
  refine z_of (q * (B1 * B2) + k1 * B2 + k2 * B1) ?_
  rw [hq]
  grind
/-- a nought beside it -/
theorem Is.skip {n : Int} {H : Hp} {v : V} {T B t b : Int} (z : zr n t) (h : Is n H v T B) : Is n H v (T * b + t * B) (B * b) := by
  by_cases n0 : n = 0
  · subst n0
    rw [zr_0] at z; subst z
    obtain ⟨r, x, y, e, hr, hy, c, q⟩ := is_0.mp h
    exact is_0.mpr ⟨r, x, y, e, hr, hy, c, by grind⟩
  · rw [zr_n n0] at z
    obtain ⟨a, e, a0, a1, q⟩ := (is_n n0).mp h
    obtain ⟨k1, h1⟩ := of_z q
    obtain ⟨k2, h2⟩ := of_z z
    exact (is_n n0).mpr ⟨a, e, a0, a1, z_of (k1 * b - k2 * B) (by grind)⟩
theorem Is.fresh {n : Int} {H : Hp} {v : V} {T B t b : Int} (z : zr n T) (h : Is n H v t b) : Is n H v (T * b + t * B) (B * b) := by
  have := Is.skip (b := B) z h
  rw [Int.add_comm, Int.mul_comm B b]; exact this
theorem nz_skip {n T B t b : Int} (hn : n = 0 ∨ Pr n) (hb : ¬ zr n b) (z1 : ¬ zr n T) (z2 : zr n t) : ¬ zr n (T * b + t * B) := by
  intro z
  refine nz_mul hn z1 hb ?_
  by_cases n0 : n = 0
  · subst n0; rw [zr_0] at *; subst z2; simpa using z
  · rw [zr_n n0] at *
    obtain ⟨k1, h1⟩ := of_z z
    obtain ⟨k2, h2⟩ := of_z z2
    exact z_of (k1 - k2 * B) (by grind)
end K8

namespace K8
open L2 PySem K1 K2 K3 K6
theorem ky_inj {a b : List Int} (h : ky a = ky b) : a = b := by
  unfold ky at h
  exact (List.map_inj_right (fun x y e => Sum.inl.inj e)).mp h
/-- a dict that holds, term by term, the numbers of F, those that are nought left out -/
structure PR (n : Int) (H : Hp) (kvs : List (List Key × V)) (F : List Int → Int × Int) : Prop where
  ks : ∀ p ∈ kvs, ∃ xs, p.1 = ky xs
  nd : (kvs.map (·.1)).Nodup
  nz : ∀ xs, ¬ zr n (F xs).2
  no : ∀ xs, valV kvs (ky xs) = none → zr n (F xs).1
  at_ : ∀ xs v, valV kvs (ky xs) = some v → Is n H v (F xs).1 (F xs).2 ∧ ¬ zr n (F xs).1
def F0 : List Int → Int × Int := fun _ => (0, 1)
def plusAt (F : List Int → Int × Int) (k : List Int) (t b : Int) : List Int → Int × Int := fun xs => if xs = k then ((F xs).1 * b + t * (F xs).2, (F xs).2 * b) else F xs
theorem plusAt_k {F : List Int → Int × Int} {k : List Int} {t b : Int} : plusAt F k t b k = ((F k).1 * b + t * (F k).2, (F k).2 * b) := if_pos rfl
theorem plusAt_ne {F : List Int → Int × Int} {k xs : List Int} {t b : Int} (h : ¬ xs = k) : plusAt F k t b xs = F xs := if_neg h
theorem PR.keep {n : Int} {H H' : Hp} {kvs : List (List Key × V)} {F : List Int → Int × Int} (k : ∀ b xs, H b = some (.tup xs) → H' b = some (.tup xs)) (h : PR n H kvs F) : PR n H' kvs F :=
  ⟨h.ks, h.nd, h.nz, h.no, fun xs v e => ⟨(h.at_ xs v e).1.keep k, (h.at_ xs v e).2⟩⟩
theorem keys_put {kvs : List (List Key × V)} {k : List Key} {v : V} : ((putK kvs k v).map (·.1)) = if (valV kvs k).isSome then kvs.map (·.1) else kvs.map (·.1) ++ [k] := by
  unfold putK
  rw [valV_any]
  cases h : (valV kvs k).isSome with
  | true =>
    rw [if_pos rfl, if_pos rfl, List.map_map]
    refine List.map_congr_left fun p _ => ?_
    show (if p.1 = k then (p.1, v) else p).1 = p.1
    split <;> rfl
  | false => rw [if_neg (by decide), if_neg (by decide), List.map_append]; rfl
theorem mem_of_valV {kvs : List (List Key × V)} {k : List Key} : (valV kvs k).isSome = true ↔ k ∈ kvs.map (·.1) := by
  rw [← valV_any, List.any_eq_true]
  constructor
  · rintro ⟨p, hp, e⟩; exact List.mem_map.mpr ⟨p, hp, of_decide_eq_true e⟩
  · intro h; obtain ⟨p, hp, e⟩ := List.mem_map.mp h; exact ⟨p, hp, decide_eq_true e⟩
theorem valV_drop (kvs : List (List Key × V)) (k j : List Key) : valV (dropK kvs k) j = if j = k then none else valV kvs j := by
  unfold dropK
  induction kvs with
  | nil => rw [List.filter_nil, valV_nil]; split <;> rfl
  | cons p r ih =>
    rw [List.filter_cons]
    by_cases e : p.1 = k
    · rw [if_neg (by simp [e]), ih]
      by_cases q : j = k
      · rw [if_pos q, if_pos q]
      · rw [if_neg q, if_neg q, valV_neg (fun z => q (z.symm.trans e))]
    · rw [if_pos (by simp [e])]
      by_cases z : p.1 = j
      · rw [valV_pos z, valV_pos z, if_neg (fun q => e (z.trans q))]
      · rw [valV_neg z, valV_neg z, ih]
theorem valV_get : ∀ {kvs : List (List Key × V)} (_ : (kvs.map (·.1)).Nodup) {i : Nat} {k : List Key} {v : V}, kvs[i]? = some (k, v) → valV kvs k = some v
  | [], _, i, k, v, h => by simp at h
  | p :: r, hn, 0, k, v, h => by
    simp at h; subst h; exact valV_pos rfl
  | p :: r, hn, i + 1, k, v, h => by
    rw [List.getElem?_cons_succ] at h
    rw [List.map_cons, List.nodup_cons] at hn
    have : ¬ p.1 = k := fun e => hn.1 (List.mem_map.mpr ⟨(k, v), List.mem_of_getElem? h, e.symm⟩)
    rw [valV_neg this]; exact valV_get hn.2 h
theorem take_snoc {α : Type} {l : List α} {i : Nat} {a : α} (h : l[i]? = some a) : l.take (i + 1) = l.take i ++ [a] := by
  rw [List.take_add_one, h]; rfl
theorem nd_take {α : Type} {l : List α} (hn : l.Nodup) {i : Nat} {a : α} (h : l[i]? = some a) : a ∉ l.take i := by
  intro hm
  have e : l.take (i + 1) = l.take i ++ [a] := take_snoc h
  have n1 : (l.take (i + 1)).Nodup := hn.sublist (List.take_sublist _ _)
  rw [e, List.nodup_append] at n1
  exact n1.2.2 a hm a (by simp) rfl
theorem nd_of_map {α β : Type} {f : α → β} : ∀ {l : List α}, (l.map f).Nodup → l.Nodup
  | [], _ => List.nodup_nil
  | a :: l, h => by
    rw [List.map_cons, List.nodup_cons] at h
    exact List.nodup_cons.mpr ⟨fun z => h.1 (List.mem_map.mpr ⟨a, z, rfl⟩), nd_of_map h.2⟩
theorem nd_put {kvs : List (List Key × V)} {k : List Key} {v : V} (h : (kvs.map (·.1)).Nodup) : ((putK kvs k v).map (·.1)).Nodup := by
  rw [keys_put]
  cases q : (valV kvs k).isSome with
  | true => exact h
  | false =>
    rw [if_neg (by decide), List.nodup_append]
    refine ⟨h, by simp, fun x hx y hy e => ?_⟩
    rw [List.mem_singleton] at hy
    have := mem_of_valV.mpr (show k ∈ kvs.map (·.1) by rw [← hy, ← e]; exact hx)
    rw [q] at this; cases this
theorem ks_put {kvs : List (List Key × V)} {k : List Int} {v : V} (h : ∀ p ∈ kvs, ∃ xs, p.1 = ky xs) : ∀ p ∈ putK kvs (ky k) v, ∃ xs, p.1 = ky xs := by
  intro p hp
  have : p.1 ∈ (putK kvs (ky k) v).map (·.1) := List.mem_map.mpr ⟨p, hp, rfl⟩
  rw [keys_put] at this
  split at this
  · obtain ⟨q, hq, e⟩ := List.mem_map.mp this
    obtain ⟨xs, ex⟩ := h q hq
    exact ⟨xs, e.symm.trans ex⟩
  · rcases List.mem_append.mp this with this | this
    · obtain ⟨q, hq, e⟩ := List.mem_map.mp this
      obtain ⟨xs, ex⟩ := h q hq
      exact ⟨xs, e.symm.trans ex⟩
    · exact ⟨k, List.mem_singleton.mp this⟩
section
variable {n : Int} {H : Hp} {kvs : List (List Key × V)} {F : List Int → Int × Int} {k : List Int} {t b : Int} {v : V}
theorem PR.put (hn : n = 0 ∨ Pr n) (h : PR n H kvs F) (hb : ¬ zr n b) (hv : Is n H v ((F k).1 * b + t * (F k).2) ((F k).2 * b)) (hz : ¬ zr n ((F k).1 * b + t * (F k).2)) : PR n H (putK kvs (ky k) v) (plusAt F k t b) := by
  refine ⟨ks_put h.ks, nd_put h.nd, fun xs => ?_, fun xs e => ?_, fun xs u e => ?_⟩
  · by_cases q : xs = k
    · subst q; rw [plusAt_k]; exact nz_mul hn (h.nz _) hb
    · rw [plusAt_ne q]; exact h.nz _
  · rw [valV_put] at e
    by_cases q : xs = k
    · subst q; rw [if_pos rfl] at e; cases e
    · rw [if_neg (fun z => q (ky_inj z))] at e
      rw [plusAt_ne q]; exact h.no _ e
  · rw [valV_put] at e
    by_cases q : xs = k
    · subst q; rw [if_pos rfl] at e; cases e
      rw [plusAt_k]; exact ⟨hv, hz⟩
    · rw [if_neg (fun z => q (ky_inj z))] at e
      rw [plusAt_ne q]; exact h.at_ _ _ e
theorem PR.drop (hn : n = 0 ∨ Pr n) (h : PR n H kvs F) (hb : ¬ zr n b) (hz : zr n ((F k).1 * b + t * (F k).2)) : PR n H (dropK kvs (ky k)) (plusAt F k t b) := by
  refine ⟨fun p hp => h.ks p (List.mem_filter.mp hp).1, h.nd.sublist (List.filter_sublist.map _), fun xs => ?_, fun xs e => ?_, fun xs u e => ?_⟩
  · by_cases q : xs = k
    · subst q; rw [plusAt_k]; exact nz_mul hn (h.nz _) hb
    · rw [plusAt_ne q]; exact h.nz _
  · rw [valV_drop] at e
    by_cases q : xs = k
    · subst q; rw [plusAt_k]; exact hz
    · rw [if_neg (fun z => q (ky_inj z))] at e
      rw [plusAt_ne q]; exact h.no _ e
  · rw [valV_drop] at e
    by_cases q : xs = k
    · subst q; rw [if_pos rfl] at e; cases e
    · rw [if_neg (fun z => q (ky_inj z))] at e
      rw [plusAt_ne q]; exact h.at_ _ _ e
end
/-- F and G together, at the terms told -/
def addG (F G : List Int → Int × Int) (ts : List (List Int)) : List Int → Int × Int := fun xs => if xs ∈ ts then ((F xs).1 * (G xs).2 + (G xs).1 * (F xs).2, (F xs).2 * (G xs).2) else F xs
theorem addG_nil (F G : List Int → Int × Int) : addG F G [] = F := funext fun xs => by simp [addG]
theorem addG_snoc {F G : List Int → Int × Int} {ts : List (List Int)} {k : List Int} (h : k ∉ ts) : addG F G (ts ++ [k]) = plusAt (addG F G ts) k (G k).1 (G k).2 := funext fun xs => by
  have ek : addG F G ts k = F k := by simp [addG, h]
  by_cases e : xs = k
  · subst e; rw [plusAt_k, ek]; simp [addG]
  · rw [plusAt_ne e]; simp [addG, e]
theorem addG_out {F G : List Int → Int × Int} {ts : List (List Int)} {k : List Int} (h : k ∉ ts) : addG F G ts k = F k := by simp [addG, h]
/-- small enough to reckon with -/
def Sm (p : Int × Int) : Prop := p.1.natAbs < 2 ^ 400 ∧ p.2.natAbs < 2 ^ 400
/-- the parts' sum at each term -/
def sumP (ps : List (Int × Int × List Int)) : List Int → Int × Int := ps.foldl (fun F p => plusAt F p.2.2 p.1 p.2.1) F0
end K8
namespace K8
open L2 PySem K1 K2 K3 K6
/-- how many of the dict's keys the other has not -/
def cnt (kvs s : List (List Key × V)) : Nat := (kvs.filter fun e => !(valV s e.1).isSome).length
end K8

namespace K10
open K8
theorem zr_iff {n T : Int} : zr n T ↔ ∃ k, T = n * k := by
  by_cases h : n = 0
  · subst h; rw [zr_0]; simp
  · rw [zr_n h]
    constructor
    · intro z; exact ⟨T / n, (Int.mul_ediv_cancel' (Int.dvd_of_emod_eq_zero z)).symm⟩
    · rintro ⟨k, rfl⟩; exact Int.mul_emod_right _ _
/-- the same in the field -/
def eqn (n a b : Int) : Prop := zr n (a - b)
theorem eqn_iff {n a b : Int} : eqn n a b ↔ ∃ k, a = b + n * k := by
  unfold eqn; rw [zr_iff]
  constructor
  · rintro ⟨k, h⟩; exact ⟨k, by omega⟩
  · rintro ⟨k, h⟩; exact ⟨k, by omega⟩
theorem eqn.refl (n a : Int) : eqn n a a := eqn_iff.mpr ⟨0, by simp⟩
theorem eqn.of_eq {n a b : Int} (h : a = b) : eqn n a b := h ▸ eqn.refl n a
theorem eqn.symm {n a b : Int} (h : eqn n a b) : eqn n b a := by
  obtain ⟨k, h⟩ := eqn_iff.mp h; exact eqn_iff.mpr ⟨-k, by grind⟩
theorem eqn.trans {n a b c : Int} (h : eqn n a b) (h' : eqn n b c) : eqn n a c := by
  obtain ⟨k, h⟩ := eqn_iff.mp h; obtain ⟨l, h'⟩ := eqn_iff.mp h'; exact eqn_iff.mpr ⟨k + l, by grind⟩
theorem eqn.add {n a b c d : Int} (h : eqn n a b) (h' : eqn n c d) : eqn n (a + c) (b + d) := by
  obtain ⟨k, h⟩ := eqn_iff.mp h; obtain ⟨l, h'⟩ := eqn_iff.mp h'; exact eqn_iff.mpr ⟨k + l, by grind⟩
theorem eqn.mul {n a b c d : Int} (h : eqn n a b) (h' : eqn n c d) : eqn n (a * c) (b * d) := by
  obtain ⟨k, h⟩ := eqn_iff.mp h; obtain ⟨l, h'⟩ := eqn_iff.mp h'; exact eqn_iff.mpr ⟨k * c + b * l, by grind⟩
theorem eqn.neg {n a b : Int} (h : eqn n a b) : eqn n (-a) (-b) := by
  obtain ⟨k, h⟩ := eqn_iff.mp h; exact eqn_iff.mpr ⟨-k, by grind⟩
theorem eqn_zr {n a b : Int} (h : eqn n a b) : zr n a ↔ zr n b := by
  obtain ⟨k, h⟩ := eqn_iff.mp h
  rw [zr_iff, zr_iff]
  constructor
  · rintro ⟨l, e⟩; exact ⟨l - k, by grind⟩
  · rintro ⟨l, e⟩; exact ⟨l + k, by grind⟩
theorem eqn_0 {a b : Int} : eqn 0 a b ↔ a = b := by unfold eqn; rw [zr_0]; omega
abbrev Tm := List Int
def sm (φ : Tm → Int) (ts : List Tm) : Int := (ts.map φ).sum
theorem sm_nil (φ : Tm → Int) : sm φ [] = 0 := rfl
theorem sm_cons (φ : Tm → Int) (t : Tm) (ts : List Tm) : sm φ (t :: ts) = φ t + sm φ ts := by simp [sm]
theorem sm_snoc (φ : Tm → Int) (t : Tm) (ts : List Tm) : sm φ (ts ++ [t]) = sm φ ts + φ t := by simp [sm, List.sum_append]
theorem sm_congr {φ ψ : Tm → Int} {ts : List Tm} (h : ∀ t ∈ ts, φ t = ψ t) : sm φ ts = sm ψ ts := by
  unfold sm; rw [List.map_congr_left h]
theorem sm_eqn {n : Int} {φ ψ : Tm → Int} : ∀ {ts : List Tm}, (∀ t ∈ ts, eqn n (φ t) (ψ t)) → eqn n (sm φ ts) (sm ψ ts)
  | [], _ => eqn.refl _ _
  | t :: ts, h => by rw [sm_cons, sm_cons]; exact (h t (by simp)).add (sm_eqn fun u hu => h u (by simp [hu]))
theorem sm_add (φ ψ : Tm → Int) : ∀ ts : List Tm, sm (fun t => φ t + ψ t) ts = sm φ ts + sm ψ ts
  | [] => rfl
  | t :: ts => by rw [sm_cons, sm_cons, sm_cons, sm_add]; omega
theorem sm_mul (c : Int) (φ : Tm → Int) : ∀ ts : List Tm, sm (fun t => c * φ t) ts = c * sm φ ts
  | [] => by simp [sm_nil]
  | t :: ts => by rw [sm_cons, sm_cons, sm_mul, Int.mul_add]
theorem sm_zero {n : Int} {φ : Tm → Int} {ts : List Tm} (h : ∀ t ∈ ts, zr n (φ t)) : eqn n 0 (sm φ ts) := by
  have : eqn n (sm (fun _ => 0) ts) (sm φ ts) := sm_eqn fun t ht => (by unfold eqn; obtain ⟨k, e⟩ := zr_iff.mp (h t ht); exact zr_iff.mpr ⟨-k, by grind⟩)
  have e : sm (fun _ => 0) ts = 0 := by
    have := sm_mul 0 (fun _ => 0) ts
    simpa using this
  rwa [e] at this
theorem sm_map (φ : Tm → Int) (g : Tm → Tm) (ts : List Tm) : sm φ (ts.map g) = sm (fun t => φ (g t)) ts := by unfold sm; rw [List.map_map]; rfl
theorem sm_erase {φ : Tm → Int} {t : Tm} : ∀ {U : List Tm}, t ∈ U → sm φ U = φ t + sm φ (U.erase t)
  | [], h => by cases h
  | u :: U, h => by
    by_cases e : u = t
    · subst e; rw [List.erase_cons_head, sm_cons]
    · have hu : t ∈ U := by
        rcases List.mem_cons.mp h with z | z
        · exact absurd z.symm e
        · exact z
      rw [List.erase_cons_tail (by simpa using e), sm_cons, sm_cons, sm_erase hu]; omega
/-- over a wider set -/
theorem sm_sup {n : Int} {φ : Tm → Int} : ∀ {ts U : List Tm}, ts.Nodup → U.Nodup → (∀ t ∈ ts, t ∈ U) → (∀ t ∈ U, t ∉ ts → zr n (φ t)) → eqn n (sm φ ts) (sm φ U)
  | [], U, _, _, _, h => sm_zero fun t ht => h t ht (by simp)
  | t :: ts, U, h1, h2, h3, h4 => by
    rw [List.nodup_cons] at h1
    rw [sm_cons, sm_erase (h3 t (by simp))]
    refine (eqn.refl _ _).add (sm_sup h1.2 (h2.erase _) (fun u hu => ?_) fun u hu hn => ?_)
    · exact (List.mem_erase_of_ne (fun (e : u = t) => h1.1 (e ▸ hu))).mpr (h3 u (by simp [hu]))
    · have q := h2.mem_erase_iff.mp hu
      exact h4 u q.2 (by simp [q.1, hn])
def dd : List Tm → List Tm
  | [] => []
  | t :: ts => if t ∈ dd ts then dd ts else t :: dd ts
theorem dd_nd : ∀ ts : List Tm, (dd ts).Nodup
  | [] => List.nodup_nil
  | t :: ts => by
    unfold dd; split
    · exact dd_nd ts
    · next h => exact List.nodup_cons.mpr ⟨h, dd_nd ts⟩
theorem dd_mem {t : Tm} : ∀ {ts : List Tm}, t ∈ dd ts ↔ t ∈ ts
  | [] => Iff.rfl
  | u :: ts => by
    have ih := dd_mem (t := t) (ts := ts)
    unfold dd; split
    · next h =>
      rw [ih, List.mem_cons]
      constructor
      · exact .inr
      · rintro (rfl | z)
        · exact dd_mem.mp h
        · exact z
    · rw [List.mem_cons, List.mem_cons, ih]
theorem one_pw : ∀ k : Nat, (1 : Int) ^ k = 1
  | 0 => rfl
  | k + 1 => by rw [Int.pow_succ, one_pw k]; rfl
/-- terms -/
def addT (l u : Tm) : Tm := List.zipWith (· + ·) l u
def subT (t l : Tm) : Tm := List.zipWith (· - ·) t l
theorem add_sub : ∀ {t l : Tm}, t.length = l.length → addT l (subT t l) = t
  | [], [], _ => rfl
  | t :: ts, l :: ls, h => by
    show (l + (t - l)) :: addT ls (subT ts ls) = t :: ts
    rw [add_sub (by simpa using h)]; congr 1; omega
theorem sub_add : ∀ {u l : Tm}, u.length = l.length → subT (addT l u) l = u
  | [], [], _ => rfl
  | t :: ts, l :: ls, h => by
    show (l + t - l) :: subT (addT ls ts) ls = t :: ts
    rw [sub_add (by simpa using h)]; congr 1; omega
theorem addT_len {u l : Tm} (h : u.length = l.length) : (addT l u).length = l.length := by simp [addT, h]
/-- moved by a term -/
def shT (l : Tm) (T : Tm → Int) : Tm → Int := fun t => if t.length = l.length then T (subT t l) else 0
theorem shT_add {l u : Tm} {T : Tm → Int} (h : u.length = l.length) : shT l T (addT l u) = T u := by unfold shT; rw [if_pos (addT_len h), sub_add h]
/-- part by part -/
def cv (T1 : Tm → Int) (ls : List Tm) (T2 : Tm → Int) : Tm → Int := fun t => sm (fun l => T1 l * shT l T2 t) ls
theorem cv_nil (T1 T2 : Tm → Int) (t : Tm) : cv T1 [] T2 t = 0 := rfl
theorem cv_cons (T1 : Tm → Int) (l : Tm) (ls : List Tm) (T2 : Tm → Int) (t : Tm) : cv T1 (l :: ls) T2 t = T1 l * shT l T2 t + cv T1 ls T2 t := sm_cons _ _ _
theorem cv_snoc (T1 : Tm → Int) (l : Tm) (ls : List Tm) (T2 : Tm → Int) (t : Tm) : cv T1 (ls ++ [l]) T2 t = cv T1 ls T2 t + T1 l * shT l T2 t := sm_snoc _ _ _
/-- the sum of the parts, weighed -/
def ev (ts : List Tm) (T W : Tm → Int) : Int := sm (fun t => T t * W t) ts
theorem zr_mul {n a b : Int} (h : zr n a) : zr n (a * b) := by obtain ⟨k, e⟩ := zr_iff.mp h; exact zr_iff.mpr ⟨k * b, by grind⟩
theorem ev_sup {n : Int} {T W : Tm → Int} {ts U : List Tm} (h1 : ts.Nodup) (h2 : U.Nodup) (h3 : ∀ t ∈ ts, t ∈ U) (h4 : ∀ t, t ∉ ts → zr n (T t)) : eqn n (ev ts T W) (ev U T W) :=
  sm_sup h1 h2 h3 fun t _ hn => zr_mul (h4 t hn)
theorem ev_add {n : Int} {T' T1 T2 W : Tm → Int} {ts' ts1 ts2 : List Tm} (n' : ts'.Nodup) (n1 : ts1.Nodup) (n2 : ts2.Nodup) (e : ∀ t, T' t = T1 t + T2 t)
    (z' : ∀ t, t ∉ ts' → zr n (T' t)) (z1 : ∀ t, t ∉ ts1 → zr n (T1 t)) (z2 : ∀ t, t ∉ ts2 → zr n (T2 t)) : eqn n (ev ts' T' W) (ev ts1 T1 W + ev ts2 T2 W) := by
  have a := ev_sup (W := W) (U := dd (ts' ++ ts1 ++ ts2)) n' (dd_nd _) (fun t h => dd_mem.mpr (by simp [h])) z'
  have b := ev_sup (W := W) (U := dd (ts' ++ ts1 ++ ts2)) n1 (dd_nd _) (fun t h => dd_mem.mpr (by simp [h])) z1
  have c := ev_sup (W := W) (U := dd (ts' ++ ts1 ++ ts2)) n2 (dd_nd _) (fun t h => dd_mem.mpr (by simp [h])) z2
  refine a.trans (eqn.trans (eqn.of_eq ?_) (b.add c).symm)
  unfold ev
  rw [← sm_add]
  exact sm_congr fun t _ => by rw [e t]; grind
theorem nd_map_add {l : Tm} : ∀ {us : List Tm}, us.Nodup → (∀ u ∈ us, u.length = l.length) → (us.map (addT l)).Nodup
  | [], _, _ => List.nodup_nil
  | u :: us, h, hl => by
    rw [List.nodup_cons] at h
    rw [List.map_cons, List.nodup_cons]
    refine ⟨fun z => ?_, nd_map_add h.2 fun v hv => hl v (by simp [hv])⟩
    obtain ⟨v, hv, e⟩ := List.mem_map.mp z
    have e1 := sub_add (hl v (by simp [hv]))
    rw [e, sub_add (hl u (by simp))] at e1
    exact h.1 (e1 ▸ hv)
theorem ev_sh {n : Int} {l : Tm} {T2 W : Tm → Int} {us U : List Tm} (hn : us.Nodup) (hl : ∀ u ∈ us, u.length = l.length) (z2 : ∀ t, t ∉ us → zr n (T2 t)) (hU : U.Nodup) (hi : ∀ u ∈ us, addT l u ∈ U) :
    eqn n (ev U (shT l T2) W) (ev us T2 fun u => W (addT l u)) := by
  have := ev_sup (n := n) (T := shT l T2) (W := W) (ts := us.map (addT l)) (U := U) (nd_map_add hn hl) hU (fun t ht => by obtain ⟨u, hu, rfl⟩ := List.mem_map.mp ht; exact hi u hu) fun t ht => by
    unfold shT
    by_cases e : t.length = l.length
    · rw [if_pos e]
      refine z2 _ fun z => ht (List.mem_map.mpr ⟨_, z, add_sub e⟩)
    · rw [if_neg e]; exact zr_iff.mpr ⟨0, by simp⟩
  refine this.symm.trans (eqn.of_eq ?_)
  unfold ev
  rw [sm_map]
  exact sm_congr fun u hu => by rw [shT_add (hl u hu)]
theorem ev_cv {n : Int} {T1 T2 W : Tm → Int} {us U : List Tm} {m : Nat} (hn : us.Nodup) (hl : ∀ u ∈ us, u.length = m) (z2 : ∀ t, t ∉ us → zr n (T2 t)) (hU : U.Nodup) : ∀ {ls : List Tm}, (∀ l ∈ ls, l.length = m) → (∀ l ∈ ls, ∀ u ∈ us, addT l u ∈ U) →
    eqn n (ev U (cv T1 ls T2) W) (sm (fun l => T1 l * ev us T2 fun u => W (addT l u)) ls)
  | [], _, _ => by
    rw [sm_nil]
    refine (sm_zero fun t _ => ?_).symm
    rw [cv_nil]; exact zr_iff.mpr ⟨0, by simp⟩
  | l :: ls, h1, h2 => by
    rw [sm_cons]
    have a := ev_sh (W := W) hn (fun u hu => (hl u hu).trans (h1 l (by simp)).symm) z2 hU (h2 l (by simp))
    have b := ev_cv (T1 := T1) (W := W) hn hl z2 hU (ls := ls) (fun k hk => h1 k (by simp [hk])) fun k hk => h2 k (by simp [hk])
    refine eqn.trans (eqn.of_eq ?_) (((eqn.refl n (T1 l)).mul a).add b)
    unfold ev
    rw [← sm_mul, ← sm_add]
    exact sm_congr fun t _ => by rw [cv_cons]; grind
/-- of a product -/
theorem ev_times {n : Int} {T1 T2 W : Tm → Int} {ts ls us : List Tm} {m : Nat} (nt : ts.Nodup) (hn : us.Nodup) (hl : ∀ u ∈ us, u.length = m) (hl1 : ∀ l ∈ ls, l.length = m) (zt : ∀ t, t ∉ ts → zr n (cv T1 ls T2 t)) (z2 : ∀ t, t ∉ us → zr n (T2 t)) :
    eqn n (ev ts (cv T1 ls T2) W) (sm (fun l => T1 l * ev us T2 fun u => W (addT l u)) ls) := by
  have a := ev_sup (W := W) (U := dd (ts ++ ls.flatMap fun l => us.map (addT l))) nt (dd_nd _) (fun t h => dd_mem.mpr (by simp [h])) zt
  refine a.trans (ev_cv hn hl z2 (dd_nd _) hl1 fun l h u h' => dd_mem.mpr ?_)
  rw [List.mem_append, List.mem_flatMap]
  exact .inr ⟨l, h, List.mem_map.mpr ⟨u, h', rfl⟩⟩
/-- powers -/
def pwr : List Int → Tm → Int
  | p :: ps, t :: ts => p ^ t.toNat * pwr ps ts
  | _, _ => 1
theorem pwr_add : ∀ {ps l u : List Int}, l.length = ps.length → u.length = ps.length → (∀ x ∈ l, 0 ≤ x) → (∀ x ∈ u, 0 ≤ x) → pwr ps (addT l u) = pwr ps l * pwr ps u
  | [], [], [], _, _, _, _ => rfl
  | p :: ps, a :: l, b :: u, h1, h2, h3, h4 => by
    show p ^ (a + b).toNat * pwr ps (addT l u) = (p ^ a.toNat * pwr ps l) * (p ^ b.toNat * pwr ps u)
    rw [pwr_add (by simpa using h1) (by simpa using h2) (fun x hx => h3 x (by simp [hx])) (fun x hx => h4 x (by simp [hx])), Int.toNat_add (h3 a (by simp)) (h4 b (by simp)), Int.pow_add]
    grind
def deg (t : Tm) : Int := t.sum
theorem deg_add : ∀ {l u : Tm}, l.length = u.length → deg (addT l u) = deg l + deg u
  | [], [], _ => rfl
  | a :: l, b :: u, h => by
    have := deg_add (l := l) (u := u) (by simpa using h)
    unfold deg at *
    show ((a + b) :: addT l u).sum = (a :: l).sum + (b :: u).sum
    rw [List.sum_cons, List.sum_cons, List.sum_cons, this]; omega
theorem deg_nn : ∀ {t : Tm}, (∀ x ∈ t, 0 ≤ x) → 0 ≤ deg t
  | [], _ => Int.le_refl 0
  | a :: t, h => by
    have := deg_nn (t := t) fun x hx => h x (by simp [hx])
    have := h a (by simp)
    unfold deg at *
    rw [List.sum_cons]; omega
/-- the weight of a term at a point -/
def wt (ps : List Int) (bt : Int) (t : Tm) : Int := bt ^ (12 - deg t).toNat * pwr ps t
theorem wt_add {ps l u : List Int} {bt : Int} (h1 : l.length = ps.length) (h2 : u.length = ps.length) (h3 : ∀ x ∈ l, 0 ≤ x) (h4 : ∀ x ∈ u, 0 ≤ x) (hb : bt = 1 ∨ deg l + deg u ≤ 12) : wt ps bt (addT l u) * bt ^ 12 = wt ps bt l * wt ps bt u := by
  unfold wt
  rw [pwr_add h1 h2 h3 h4, deg_add (h1.trans h2.symm)]
  have : bt ^ (12 - (deg l + deg u)).toNat * bt ^ 12 = bt ^ (12 - deg l).toNat * bt ^ (12 - deg u).toNat := by
    rcases hb with rfl | hb
    · simp [one_pw]
    · rw [← Int.pow_add, ← Int.pow_add]
      congr 1
      have := deg_nn h3; have := deg_nn h4
      omega
  grind
end K10

namespace K10
open L2 PySem K1 K2 K3 K6 K8
def uk (k : List Key) : List Int := k.map fun x => match x with | .inl i => i | .inr _ => 0
theorem uk_ky : ∀ xs : List Int, uk (ky xs) = xs
  | [] => rfl
  | x :: xs => by show x :: uk (ky xs) = x :: xs; rw [uk_ky xs]
/-- the terms of a dict -/
def tks (kvs : List (List Key × V)) : List Tm := kvs.map fun p => uk p.1
theorem tks_len (kvs : List (List Key × V)) : (tks kvs).length = kvs.length := List.length_map _
def TmOk (m : Nat) (xs : Tm) : Prop := xs.length = m ∧ ∀ x ∈ xs, 0 ≤ x
theorem TmOk.add {m : Nat} {a b : Tm} (ha : TmOk m a) (hb : TmOk m b) : TmOk m (addT a b) := by
  refine ⟨by rw [addT_len (hb.1.trans ha.1.symm)]; exact ha.1, ?_⟩
  obtain ⟨ha1, ha2⟩ := ha
  obtain ⟨hb1, hb2⟩ := hb
  clear ha1 hb1
  induction a generalizing b with
  | nil => intro x hx; cases hx
  | cons p a ih =>
    cases b with
    | nil => intro x hx; cases hx
    | cons q b =>
      intro x hx
      rcases List.mem_cons.mp (show x ∈ (p + q) :: addT a b from hx) with rfl | hx
      · have := ha2 p (by simp); have := hb2 q (by simp); omega
      · exact ih (fun y hy => ha2 y (by simp [hy])) (fun y hy => hb2 y (by simp [hy])) x hx
def KO (m : Nat) (kvs : List (List Key × V)) : Prop := ∀ p ∈ kvs, ∃ xs, p.1 = ky xs ∧ TmOk m xs
theorem KO.nil {m : Nat} : KO m [] := fun _ h => by cases h
theorem KO.keys {m : Nat} : ∀ {kvs : List (List Key × V)}, KO m kvs → kvs.map (·.1) = (tks kvs).map ky
  | [], _ => rfl
  | p :: r, h => by
    obtain ⟨xs, e, _⟩ := h p (by simp)
    show p.1 :: r.map (·.1) = ky (uk p.1) :: (tks r).map ky
    rw [KO.keys (kvs := r) fun q hq => h q (by simp [hq]), e, uk_ky]
theorem KO.put {m : Nat} {kvs : List (List Key × V)} (h : KO m kvs) {xs : Tm} (hx : TmOk m xs) {v : V} : KO m (putK kvs (ky xs) v) := by
  intro p hp
  have : p.1 ∈ (putK kvs (ky xs) v).map (·.1) := List.mem_map.mpr ⟨p, hp, rfl⟩
  rw [keys_put] at this
  have one : p.1 ∈ kvs.map (·.1) → ∃ xs, p.1 = ky xs ∧ TmOk m xs := fun z => by
    obtain ⟨q, hq, e⟩ := List.mem_map.mp z
    rw [← e]; exact h q hq
  split at this
  · exact one this
  · rcases List.mem_append.mp this with z | z
    · exact one z
    · exact ⟨xs, List.mem_singleton.mp z, hx⟩
theorem KO.drop {m : Nat} {kvs : List (List Key × V)} (h : KO m kvs) (k : List Key) : KO m (dropK kvs k) := fun p hp => h p (List.mem_filter.mp hp).1
theorem KO.mem {m : Nat} {kvs : List (List Key × V)} (h : KO m kvs) {t : Tm} : t ∈ tks kvs ↔ (valV kvs (ky t)).isSome = true := by
  rw [mem_of_valV, h.keys]
  constructor
  · exact fun z => List.mem_map.mpr ⟨t, z, rfl⟩
  · intro z; obtain ⟨u, hu, e⟩ := List.mem_map.mp z; rw [← ky_inj e]; exact hu
theorem KO.ok {m : Nat} {kvs : List (List Key × V)} (h : KO m kvs) {t : Tm} (ht : t ∈ tks kvs) : TmOk m t := by
  obtain ⟨p, hp, rfl⟩ := List.mem_map.mp ht
  obtain ⟨xs, e, z⟩ := h p hp
  rw [e, uk_ky]; exact z
theorem KO.get {m : Nat} {kvs : List (List Key × V)} (h : KO m kvs) {i : Nat} {k : List Key} {v : V} (hk : kvs[i]? = some (k, v)) : ∃ t, (tks kvs)[i]? = some t ∧ k = ky t ∧ TmOk m t := by
  obtain ⟨xs, e, z⟩ := h (k, v) (List.mem_of_getElem? hk)
  refine ⟨xs, ?_, e, z⟩
  unfold tks
  rw [List.getElem?_map, hk]
  show some (uk k) = some xs
  rw [show k = ky xs from e, uk_ky]
/-- the same number otherwise written -/
theorem Is.cross {n : Int} (hn : n = 0 ∨ Pr n) {H : Hp} {v : V} {T B T' B' : Int} (hB : ¬ zr n B) (h : Is n H v T B) (e : eqn n (T * B') (T' * B)) : Is n H v T' B' := by
  rcases hn with rfl | hp
  · obtain ⟨r, x, y, q, hr, hy, c, w⟩ := is_0.mp h
    rw [eqn_0] at e
    rw [zr_0] at hB
    refine is_0.mpr ⟨r, x, y, q, hr, hy, c, ?_⟩
    refine Int.eq_of_mul_eq_mul_right hB ?_
    grind
  · have n0 := pr_ne hp
    obtain ⟨a, q, a0, a1, w⟩ := (is_n n0).mp h
    rw [zr_n n0] at hB
    refine (is_n n0).mpr ⟨a, q, a0, a1, pr_cancel hp hB ?_⟩
    obtain ⟨k, hk⟩ := eqn_iff.mp e
    obtain ⟨l, hl⟩ := zr_iff.mp ((zr_n n0).mpr w)
    exact (zr_n n0).mp (zr_iff.mpr ⟨l * B' + k, by grind⟩)
theorem PR.cross {n : Int} (hn : n = 0 ∨ Pr n) {H : Hp} {kvs : List (List Key × V)} {F F' : Tm → Int × Int} (h : PR n H kvs F) (e : ∀ k, eqn n ((F k).1 * (F' k).2) ((F' k).1 * (F k).2)) (nz : ∀ k, ¬ zr n (F' k).2) : PR n H kvs F' := by
  refine ⟨h.ks, h.nd, nz, fun xs q => ?_, fun xs v q => ?_⟩
  · have z := zr_mul (b := (F' xs).2) (h.no xs q)
    have z2 := (eqn_zr (e xs)).mp z
    exact Classical.byContradiction fun c => nz_mul hn c (h.nz xs) z2
  · obtain ⟨a, b⟩ := h.at_ xs v q
    exact ⟨Is.cross hn (h.nz xs) a (e xs), fun c => nz_mul hn b (nz xs) ((eqn_zr (e xs)).mpr (zr_mul c))⟩
/-- a dict that holds T over D, term by term -/
structure PD (n : Int) (m : Nat) (H : Hp) (kvs : List (List Key × V)) (T : Tm → Int) (D : Int) : Prop where
  pr : PR n H kvs (fun k => (T k, D))
  ko : KO m kvs
section
variable {n : Int} {m : Nat} {H : Hp} {kvs : List (List Key × V)} {T : Tm → Int} {D : Int}
theorem PD.nts (h : PD n m H kvs T D) : (tks kvs).Nodup := nd_of_map (f := ky) (by rw [← h.ko.keys]; exact h.pr.nd)
theorem PD.out (h : PD n m H kvs T D) {t : Tm} (ht : t ∉ tks kvs) : zr n (T t) := by
  refine h.pr.no t ?_
  cases z : valV kvs (ky t) with
  | none => rfl
  | some v => exact absurd (h.ko.mem.mpr (by rw [z]; rfl)) ht
theorem PD.nz (h : PD n m H kvs T D) : ¬ zr n D := h.pr.nz []
theorem PD.get (h : PD n m H kvs T D) {i : Nat} {k : List Key} {v : V} (hk : kvs[i]? = some (k, v)) : ∃ t, (tks kvs)[i]? = some t ∧ k = ky t ∧ TmOk m t ∧ Is n H v (T t) D ∧ ¬ zr n (T t) := by
  obtain ⟨t, h1, rfl, h3⟩ := h.ko.get hk
  obtain ⟨a, b⟩ := h.pr.at_ t v (valV_get h.pr.nd hk)
  exact ⟨t, h1, rfl, h3, a, b⟩
theorem PD.keep {H' : Hp} (k : ∀ b xs, H b = some (.tup xs) → H' b = some (.tup xs)) (h : PD n m H kvs T D) : PD n m H' kvs T D := ⟨h.pr.keep k, h.ko⟩
theorem PD.same {H' : Hp} (e : Same H H') (h : PD n m H kvs T D) : PD n m H' kvs T D := h.keep fun _ _ => e _ _
theorem PD.nil (hn : n = 0 ∨ Pr n) (nz : ¬ zr n D) {T : Tm → Int} (z : ∀ t, zr n (T t)) : PD n m H [] T D :=
  ⟨⟨(fun _ h => by cases h), List.nodup_nil, fun _ => nz, fun t _ => z t, (fun _ _ h => by rw [valV_nil] at h; cases h)⟩, KO.nil⟩
theorem pd_mk {ts : List Tm} (hk : kvs.map (·.1) = ts.map ky) (nd : ts.Nodup) (ok : ∀ t ∈ ts, TmOk m t) (nz : ¬ zr n D) (out : ∀ t, t ∉ ts → zr n (T t))
    (hat : ∀ (i : Nat) (t : Tm) (k : List Key) (v : V), ts[i]? = some t → kvs[i]? = some (k, v) → Is n H v (T t) D ∧ ¬ zr n (T t)) : PD n m H kvs T D := by
  have ko : KO m kvs := fun p hp => by
    have : p.1 ∈ ts.map ky := by rw [← hk]; exact List.mem_map.mpr ⟨p, hp, rfl⟩
    obtain ⟨t, ht, e⟩ := List.mem_map.mp this
    exact ⟨t, e.symm, ok t ht⟩
  have ndk : (kvs.map (·.1)).Nodup := by
    rw [hk]
    exact (List.pairwise_map.mpr (nd.imp fun a b => a (ky_inj b)))
  refine ⟨⟨fun p hp => let ⟨xs, e, _⟩ := ko p hp; ⟨xs, e⟩, ndk, fun _ => nz, fun t z => out t fun ht => ?_, fun t v z => ?_⟩, ko⟩
  · have := mem_of_valV.mpr (show ky t ∈ kvs.map (·.1) by rw [hk]; exact List.mem_map.mpr ⟨t, ht, rfl⟩)
    rw [z] at this; cases this
  · obtain ⟨i, hi, e⟩ := List.getElem_of_mem (mem_of_valV.mp (show (valV kvs (ky t)).isSome = true by rw [z]; rfl))
    have hi' : i < kvs.length := by simpa using hi
    have e1 : kvs[i]? = some (kvs[i].1, kvs[i].2) := List.getElem?_eq_getElem hi'
    have e2 : kvs[i].1 = ky t := by rw [List.getElem_map] at e; exact e
    have e3 : ts[i]? = some t := by
      have q : (ts.map ky)[i]? = some (ky t) := by rw [← hk, List.getElem?_map, e1]; show some kvs[i].1 = _; rw [e2]
      rw [List.getElem?_map] at q
      obtain ⟨u, hu, eu⟩ := Option.map_eq_some_iff.mp q
      rw [hu, ky_inj eu]
    have e4 := valV_get ndk e1
    rw [e2, z] at e4
    obtain ⟨a, b⟩ := hat i t _ _ e3 e1
    injection e4 with e4
    rw [e4]; exact ⟨a, b⟩
theorem PD.addG (hn : n = 0 ∨ Pr n) {ts : List Tm} {T2 : Tm → Int} (hz : ¬ zr n D) (h : PR n H kvs (addG (fun k => (T k, D)) (fun k => (T2 k, D)) ts)) (ko : KO m kvs) (out : ∀ t, t ∉ ts → zr n (T2 t)) : PD n m H kvs (fun k => T k + T2 k) D := by
  refine ⟨PR.cross hn h (fun k => ?_) fun _ => hz, ko⟩
  by_cases e : k ∈ ts
  · have : K8.addG (fun k => (T k, D)) (fun k => (T2 k, D)) ts k = (T k * D + T2 k * D, D * D) := if_pos e
    rw [this]
    exact eqn.of_eq (by grind)
  · rw [addG_out e]
    obtain ⟨q, hq⟩ := zr_iff.mp (out k e)
    exact eqn_iff.mpr ⟨-(q * D), by show T k * D = (T k + T2 k) * D + n * -(q * D); rw [hq]; grind⟩
theorem putK_new {kvs : List (List Key × V)} {k : List Key} {v : V} (h : k ∉ kvs.map (·.1)) : putK kvs k v = kvs ++ [(k, v)] := by
  unfold putK
  have : (kvs.any fun kv => decide (kv.1 = k)) = false := by
    rw [Bool.eq_false_iff]
    intro z
    obtain ⟨p, hp, e⟩ := List.any_eq_true.mp z
    exact h (List.mem_map.mpr ⟨p, hp, of_decide_eq_true e⟩)
  rw [this]; rfl
end
end K10

namespace K10
open PySem L2
def top (i : Nat) : Stmt := PySem.Challenge.pw_idealroom_k10_values_go_along.main.body.getD i (.Pass ⟨0, 0, 0, 0⟩)
abbrev s_shared_divisor : Stmt := top 24
abbrev s_is_prime : Stmt := top 25
abbrev s_Field___init__ : Stmt := inClass (top 26) 0
abbrev s_Fractions___init__ : Stmt := inClass (top 27) 0
abbrev s_Fractions_nought : Stmt := inClass (top 27) 1
abbrev s_Fractions_one : Stmt := inClass (top 27) 2
abbrev s_Fractions_plus : Stmt := inClass (top 27) 4
abbrev s_Fractions_times : Stmt := inClass (top 27) 5
abbrev s_Fractions_against : Stmt := inClass (top 27) 6
abbrev s_Rests___init__ : Stmt := inClass (top 28) 0
abbrev s_Rests_nought : Stmt := inClass (top 28) 1
abbrev s_Rests_one : Stmt := inClass (top 28) 2
abbrev s_Rests_plus : Stmt := inClass (top 28) 4
abbrev s_Rests_times : Stmt := inClass (top 28) 5
abbrev s_Rests_against : Stmt := inClass (top 28) 6
abbrev s_absorb : Stmt := top 11
abbrev s_product : Stmt := top 7
abbrev s_scaled : Stmt := top 12
abbrev s_negated : Stmt := top 13
abbrev s_plus : Stmt := top 14
abbrev s_minus : Stmt := top 15
abbrev s_times : Stmt := top 16
abbrev s_greatest_power : Stmt := top 17
abbrev s_reach : Stmt := top 18
abbrev s_powers_of : Stmt := top 19
abbrev s_summed : Stmt := top 21
abbrev s_value : Stmt := top 20
abbrev s__law_cell : Stmt := top 36
abbrev s__law_shared : Stmt := top 37
abbrev s__law_is_prime : Stmt := top 38
abbrev s__law_prime : Stmt := top 39
abbrev s__law_made : Stmt := top 40
abbrev s__law_poly : Stmt := top 41
abbrev s__law_whole_power : Stmt := top 42
abbrev s__law_at : Stmt := top 43
abbrev s__law_same : Stmt := top 44
abbrev s__law_agrees : Stmt := top 45
abbrev s__law_far_agrees : Stmt := top 46
abbrev s__law_spot : Stmt := top 47
abbrev s_Order_fits : Stmt := inClass (top 30) 5
abbrev s_Ring___init__ : Stmt := inClass (top 34) 0
abbrev s_law : Stmt := top 48
structure Txt (K : PySem.W.Frag) (mg : Str → Option Value) (C_Ring C_Fractions C_Rests C_Tails : Addr) : Prop where
  b_abs : mg "abs" = none
  b_dict : mg "dict" = none
  b_int : mg "int" = none
  b_isinstance : mg "isinstance" = none
  b_len : mg "len" = none
  b_list : mg "list" = none
  b_max : mg "max" = none
  b_range : mg "range" = none
  b_sum : mg "sum" = none
  b_tuple : mg "tuple" = none
  b_zip : mg "zip" = none
  cl_Ring : Cls K C_Ring
  mg_Ring : mg "Ring" = some (.ref C_Ring)
  na_Ring_many : NoAttr K C_Ring "many"
  na_Ring_field : NoAttr K C_Ring "field"
  na_Ring_order : NoAttr K C_Ring "order"
  cl_Fractions : Cls K C_Fractions
  mg_Fractions : mg "Fractions" = some (.ref C_Fractions)
  na_Fractions_prime : NoAttr K C_Fractions "prime"
  cl_Rests : Cls K C_Rests
  mg_Rests : mg "Rests" = some (.ref C_Rests)
  na_Rests_prime : NoAttr K C_Rests "prime"
  cl_Tails : Cls K C_Tails
  mg_Tails : mg "Tails" = some (.ref C_Tails)
  n0_Tails : Mk0 K C_Tails
  g_GREATEST_PRIME : ∃ tk, mg "GREATEST_PRIME" = some (.int 9973 tk)
  g_LETTERS : ∃ tk, mg "LETTERS" = some (.str "xyzt" tk)
  kii : PySem.W.kitOne K (.type "int") (.type "int") = some true
  ktt : PySem.W.kitOne K (.type "tuple") (.type "tuple") = some true
theorem nd_power_further : (["power", "further"] : List Str).Nodup := by decide +kernel
theorem nd_term_at : (["term", "at"] : List Str).Nodup := by decide +kernel
theorem nd_at_f : (["at", "f"] : List Str).Nodup := by decide +kernel
theorem nd_number_greatest_field : (["number", "greatest", "field"] : List Str).Nodup := by decide +kernel
theorem nd__law_at_here__law_cell_here : (["_law_at_here", "_law_cell_here"] : List Str).Nodup := by decide +kernel
theorem nd__law_place__law_bottom__law_prime_here : (["_law_place", "_law_bottom", "_law_prime_here"] : List Str).Nodup := by decide +kernel
theorem nd__law_at_here : (["_law_at_here"] : List Str).Nodup := by decide +kernel
theorem ixT_of {K : PySem.W.Frag} {H : Hp} {p : Addr} {xs : List V} {i : Int} {v : V} {Q : V → Hp → Prop} (h : SqT K H p xs) (h' : atI xs i = some v) (q : Q v H) : rIxT K (.ref p) (.int i) H Q := ⟨p, xs, i, v, rfl, rfl, h, h', q⟩
theorem uOne {k : Nat} {A : Around} (r : Room k A) : A.units + 1 < cLine := by have := r.units; omega
theorem pe_globS {X : Cx} {x : Str} {i : Str} {pos : Pos} (hm : ∃ tk, X.mg x = some (.str i tk)) (hg : Gl X x) (hd : (x == ("__debug__" : Str)) = false := by decide) : PE X (.Name x pos) (tC (.str i)) := by
  obtain ⟨tk, e⟩ := hm
  exact pe_glob hg e ⟨tk, rfl⟩ hd
end K10
namespace K10
open PySem L2

open K1 K2 K3 K6 K8
def Nn (xs : List Int) : Prop := ∀ x ∈ xs, 0 ≤ x
def spShared : Sp := fun vs H Q _ => ∃ (a b : Int), vs = [.int a, .int b] ∧ 0 ≤ a ∧ 0 ≤ b ∧ Q (.int (gI a b)) H
def spField (K : PySem.W.Frag) : Sp := fun vs H Q _ => ∃ (p C dx : Addr) (v : V), vs = [.ref p, v] ∧ H p = some (.ins C dx []) ∧ Cls K C ∧ NoAttr K C "prime" ∧ Q .non (upd H p (.ins C dx [("prime", v)]))
def spFracInit (CF : Addr) : Sp := fun vs H Q _ => ∃ (p dx : Addr), vs = [.ref p] ∧ H p = some (.ins CF dx []) ∧ Q .non (upd H p (.ins CF dx [("prime", .int 0)]))
def cellOf (ns : List Int) (k : Int) : Int := ns.getD k.toNat 0
def spCell (K : PySem.W.Frag) : Sp := fun vs H Q _ => ∃ (a : Addr) (ns : List Int) (k : Int), vs = [.ref a, .int k] ∧ SqL K H a (ns.map V.int) ∧ 0 ≤ k ∧ Q (.int (cellOf ns k)) H
theorem atI_int {ns : List Int} {k : Int} (h0 : 0 ≤ k) (h : k < (ns.length : Int)) : atI (ns.map V.int) k = some (.int (cellOf ns k)) := by
  have hk : k.toNat < ns.length := by omega
  have ek : k = ((k.toNat : Nat) : Int) := by omega
  have q : atI (ns.map V.int) ((k.toNat : Nat) : Int) = some (.int ns[k.toNat]) := atI_nat (by rw [List.getElem?_map, List.getElem?_eq_getElem hk] <;> rfl)
  rw [← ek] at q
  rw [q]
  unfold cellOf
  rw [List.getD_eq_getElem?_getD, List.getElem?_eq_getElem hk]; rfl
def spLShared : Sp := fun vs H Q _ => ∃ (a b : Int), vs = [.int a, .int b] ∧ Q (.int (gI a b)) H
def spPrime : Sp := fun vs H Q _ => ∃ (n : Int), vs = [.int n] ∧ n ≤ 9973 ∧ Q (.bl (isP n)) H
def spRests (CR NP : Addr) : Sp := fun vs H Q E => ∃ (p dx : Addr) (n : Int), vs = [.ref p, .int n] ∧ H p = some (.ins CR dx []) ∧
  ((n ≤ 9973 ∧ isP n = true ∧ Q .non (upd H p (.ins CR dx [("prime", .int n)]))) ∨ ((9973 < n ∨ isP n = false) ∧ E (.ref NP) none H))
theorem sq_small {d n : Int} (h2 : 2 ≤ d) (h : d ≤ 101) : -(2 ^ 64) < d ∧ d < 2 ^ 64 := by omega

/-- a fraction's parts -/
structure Nm (x y : Int) : Prop where
  pos : 1 ≤ y
  bx : x.natAbs < 2 ^ 400
  bz : y.natAbs < 2 ^ 400
  cop : gI x y = 1
theorem up {n a b : Nat} (h : n < 2 ^ a) (hab : a ≤ b) : n < 2 ^ b := Nat.lt_of_lt_of_le h (Nat.pow_le_pow_right (by decide) hab)
theorem mul_up {x y : Int} {a b : Nat} (h : x.natAbs < 2 ^ a) (h' : y.natAbs < 2 ^ b) : (x * y).natAbs < 2 ^ (a + b) := by
  rw [Int.natAbs_mul, Nat.pow_add]
  exact Nat.mul_lt_mul'' h h'
theorem add_up {x y : Int} {a : Nat} (h : x.natAbs < 2 ^ a) (h' : y.natAbs < 2 ^ a) : (x + y).natAbs < 2 ^ (a + 1) := by
  have := Int.natAbs_add_le x y
  rw [Nat.pow_succ]; omega
theorem Nm.mul {x y z t : Int} (h : Nm x y) (h' : Nm z t) : CMulB x z ∧ CMulB x t ∧ CMulB y t ∧ CMulB z y ∧ CMulB y z :=
  ⟨⟨up h.bx (by decide), up h'.bx (by decide)⟩, ⟨up h.bx (by decide), up h'.bz (by decide)⟩, ⟨up h.bz (by decide), up h'.bz (by decide)⟩, ⟨up h'.bx (by decide), up h.bz (by decide)⟩, ⟨up h.bz (by decide), up h'.bx (by decide)⟩⟩
def NumF (CF : Addr) (H : Hp) (p dx : Addr) : Prop := H p = some (.ins CF dx [("prime", .int 0)])
def Pair (H : Hp) (r : Addr) (x y : Int) : Prop := H r = some (.tup [.int x, .int y])
/-- of two fractions a third one, as made of t over b -/
def spBinF (CF : Addr) (t b : Int → Int → Int → Int → Int) : Sp := fun vs H Q _ => ∃ (p dx ra rb : Addr) (x y z w : Int), vs = [.ref p, .ref ra, .ref rb] ∧ NumF CF H p dx ∧ Pair H ra x y ∧ Pair H rb z w ∧ Nm x y ∧ Nm z w ∧
  ∀ r H', Same H H' → Pair H' r (fT (t x y z w) (b x y z w)) (fB (t x y z w) (b x y z w)) → Q (.ref r) H'
def spAgF : Sp := fun vs H Q _ => ∃ (p : V) (ra : Addr) (x y : Int), vs = [p, .ref ra] ∧ Pair H ra x y ∧ ∀ r H', Same H H' → Pair H' r (-x) y → Q (.ref r) H'
theorem gI_abs1 (a b : Int) : gI (if a < 0 then -a else a) b = gI a b := gI_ab a b
theorem gI_neg (a b : Int) : gI (-a) b = gI a b := by unfold gI; rw [Int.neg_gcd]
theorem gI_bd {a b : Int} {n : Nat} (hb : b ≠ 0) (h : b.natAbs < n) : gI a b ≠ 0 ∧ (gI a b).natAbs < n := by
  have := gI_pos (a := a) hb
  refine ⟨by omega, Nat.lt_of_le_of_lt ?_ h⟩
  unfold gI
  rw [Int.natAbs_natCast]
  exact Nat.le_of_dvd (by omega) (Nat.gcd_dvd_right _ _)
theorem fdl {a b : Int} {n : Nat} (hb : b ≠ 0) (h : a.natAbs < n) : (Int.fdiv a (gI a b)).natAbs < n := by
  have := gI_pos (a := a) hb
  exact Nat.lt_of_le_of_lt (fd_le (gI_dvd_l a b) (by omega)) h
theorem fdr {a b : Int} {n : Nat} (hb : b ≠ 0) (h : b.natAbs < n) : (Int.fdiv b (gI a b)).natAbs < n := by
  have := gI_pos (a := a) hb
  exact Nat.lt_of_le_of_lt (fd_le (gI_dvd_r a b) (by omega)) h
def NumR (CR : Addr) (H : Hp) (p dx : Addr) (n : Int) : Prop := H p = some (.ins CR dx [("prime", .int n)]) ∧ Pr n ∧ n ≤ 9973
theorem no_R (m : Str) (n : Int) (h : ¬ m = "prime") : ([("prime", V.int n)] : List (Str × V)).lookup m = none := by
  have e : (m == (Str.ofString "prime")) = false := by
    cases q : (m == (Str.ofString "prime")) with
    | true => exact absurd (eq_of_beq q) h
    | false => rfl
  simp only [List.lookup, e]
def In (n a : Int) : Prop := 0 ≤ a ∧ a < n
def spC (v : V) : Sp := fun vs H Q _ => ∃ (p : V), vs = [p] ∧ Q v H
/-- of two rests a third one -/
def spBinR (CR : Addr) (g : Int → Int → Int → Int) : Sp := fun vs H Q _ => ∃ (p dx : Addr) (n a b : Int), vs = [.ref p, .int a, .int b] ∧ NumR CR H p dx n ∧ In n a ∧ In n b ∧ Q (.int (g n a b)) H
def spAgR (CR : Addr) : Sp := fun vs H Q _ => ∃ (p dx : Addr) (n a : Int), vs = [.ref p, .int a] ∧ NumR CR H p dx n ∧ In n a ∧ Q (.int (-a % n)) H

def spLPr : Sp := fun vs H Q _ => ∃ (c : Int), vs = [.int c] ∧ ∀ n : Int, isP n = true → n ≤ 9973 → Q (.int n) H
def spPair (x y : Int) : Sp := fun vs H Q _ => ∃ (p : V), vs = [p] ∧ ∀ r H', Same H H' → H' r = some (.tup [.int x, .int y]) → Q (.ref r) H'
def AtO (C : Addr) (H : Hp) (p : Addr) : Prop := ∃ dx, H p = some (.ins C dx [])
def spFits (At : Hp → Addr → Prop) (b : Int → Bool) : Sp := fun vs H Q _ => ∃ (p : Addr) (k : Int), vs = [.ref p, .int k] ∧ At H p ∧ ∀ H', Same H H' → Q (.bl (b k)) H'
theorem seq_mid {a r : TS} {D : Ends} {σ : St} {H : Hp} (R : St → Hp → Prop) (hu : ∀ σ' H', R σ' H' → r D σ' H') (hc : ∀ N : St → Hp → Prop, (∀ σ' H', R σ' H' → N σ' H') → a { D with nx := N } σ H) : tSeq a r D σ H := by
  unfold tSeq
  exact hc _ hu
theorem if_mid {tc : TT} {t u : TS} {D : Ends} {σ : St} {H : Hp} (b : Bool) (hc : ∀ Q : Bool → Hp → Prop, Q b H → tc σ H Q) (h : if b = true then t D σ H else u D σ H) : tIfS tc t u D σ H := hc _ h
def AtF (CF : Addr) (H : Hp) (p : Addr) : Prop := ∃ dx, H p = some (.ins CF dx [("prime", .int 0)])
def AtR (CR : Addr) (n : Int) (H : Hp) (p : Addr) : Prop := ∃ dx, NumR CR H p dx n
theorem no_P (m : Str) (n : Int) (h : ¬ m = "prime") : ([("prime", V.int n)] : List (Str × V)).lookup m = none := no_R m n h
/-- n = 0: the fractions -/
def AtN (CF CR : Addr) (n : Int) : Hp → Addr → Prop := if n = 0 then AtF CF else AtR CR n
/-- the ring's object -/
def RgO (CG : Addr) (dx : Addr) (m : Int) (pf po : Addr) : HO := .ins CG dx [("many", .int m), ("field", .ref pf), ("order", .ref po)]
def RgAt (CG : Addr) (H : Hp) (r : Addr) (m : Int) (pf po : Addr) : Prop := ∃ dx, H r = some (RgO CG dx m pf po)

def SmN (n T B : Int) : Prop := n = 0 → T.natAbs < 2 ^ 400 ∧ B.natAbs < 2 ^ 400
def spPl (n : Int) (At : Hp → Addr → Prop) : Sp := fun vs H Q _ => ∃ (p : Addr) (v1 v2 : V) (T1 B1 T2 B2 : Int), vs = [.ref p, v1, v2] ∧ At H p ∧ Is n H v1 T1 B1 ∧ Is n H v2 T2 B2 ∧ ¬ zr n B1 ∧ ¬ zr n B2 ∧ SmN n T1 B1 ∧ SmN n T2 B2 ∧ ∀ v H', Same H H' → Is n H' v (T1 * B2 + T2 * B1) (B1 * B2) → Q v H'
def spTi (n : Int) (At : Hp → Addr → Prop) : Sp := fun vs H Q _ => ∃ (p : Addr) (v1 v2 : V) (T1 B1 T2 B2 : Int), vs = [.ref p, v1, v2] ∧ At H p ∧ Is n H v1 T1 B1 ∧ Is n H v2 T2 B2 ∧ ¬ zr n B1 ∧ ¬ zr n B2 ∧ SmN n T1 B1 ∧ SmN n T2 B2 ∧ ∀ v H', Same H H' → Is n H' v (T1 * T2) (B1 * B2) → Q v H'
def spNo (c n : Int) (At : Hp → Addr → Prop) : Sp := fun vs H Q _ => ∃ (p : Addr), vs = [.ref p] ∧ At H p ∧ ∀ v H', Same H H' → Is n H' v c 1 → Q v H'
def spAg (n : Int) (At : Hp → Addr → Prop) : Sp := fun vs H Q _ => ∃ (p : Addr) (v : V) (T B : Int), vs = [.ref p, v] ∧ At H p ∧ Is n H v T B ∧ ∀ v' H', Same H H' → Is n H' v' (-T) B → Q v' H'
structure FldQ (P : Program) (w : World) (K : PySem.W.Frag) (mg : Str → Option Value) (base : Heap) (C : Addr) (At : Hp → Addr → Prop) (n : Int) : Prop where
  same : ∀ {H H' : Hp} {p : Addr}, (∀ b o, H b = some o → (∃ C' dx fs, o = .ins C' dx fs) → H' b = some o) → At H p → At H' p
  ins : ∀ {H : Hp} {p : Addr}, At H p → ∃ dx, H p = some (.ins C dx [("prime", .int n)])
  nought : MCal P w K mg base CX0 1 C "nought" ["self"] [] (spNo 0 n At)
  one : MCal P w K mg base CX0 1 C "one" ["self"] [] (spNo 1 n At)
  plus : MCal P w K mg base CX0 3 C "plus" ["self", "a", "b"] [] (spPl n At)
  times : MCal P w K mg base CX0 3 C "times" ["self", "a", "b"] [] (spTi n At)
  against : MCal P w K mg base CX0 1 C "against" ["self", "a"] [] (spAg n At)
theorem FldQ.sm {P : Program} {w : World} {K : PySem.W.Frag} {mg : Str → Option Value} {base : Heap} {C : Addr} {At : Hp → Addr → Prop} {n : Int} (B : FldQ P w K mg base C At n) {H H' : Hp} {p : Addr} (e : Same H H') (h : At H p) : At H' p := B.same (fun b o q _ => e b o q) h
/-- a ring as it is handed about -/
structure RgK (CG CF CR : Addr) (H : Hp) (r : Addr) (m : Nat) (pf : Addr) (n : Int) : Prop where
  nb : n ≤ 9973
  np : n = 0 ∨ Pr n
  m1 : 1 ≤ m
  m4 : m ≤ 4
  at_ : ∃ po, RgAt CG H r m pf po
  fd : AtN CF CR n H pf
theorem atN_keep {CF CR : Addr} {n : Int} {H H' : Hp} {p : Addr} (k : ∀ b o, H b = some o → (∃ C' dx fs, o = .ins C' dx fs) → H' b = some o) (h : AtN CF CR n H p) : AtN CF CR n H' p := by
  by_cases z : n = 0
  · subst z
    have e : AtN CF CR 0 = AtF CF := if_pos rfl
    rw [e] at h ⊢
    obtain ⟨dx, q⟩ := h
    exact ⟨dx, k _ _ q ⟨_, _, _, rfl⟩⟩
  · have e : AtN CF CR n = AtR CR n := if_neg z
    rw [e] at h ⊢
    obtain ⟨dx, q⟩ := h
    exact ⟨dx, k _ _ q.1 ⟨_, _, _, rfl⟩, q.2⟩
theorem RgK.keep {CG CF CR : Addr} {H H' : Hp} {r : Addr} {m : Nat} {pf : Addr} {n : Int} (h : RgK CG CF CR H r m pf n) (k : ∀ b o, H b = some o → (∃ C' dx fs, o = .ins C' dx fs) → H' b = some o) : RgK CG CF CR H' r m pf n := by
  obtain ⟨po, dx, q⟩ := h.at_
  exact ⟨h.nb, h.np, h.m1, h.m4, ⟨po, dx, k _ _ q ⟨_, _, _, rfl⟩⟩, atN_keep k h.fd⟩
theorem RgK.same {CG CF CR : Addr} {H H' : Hp} {r : Addr} {m : Nat} {pf : Addr} {n : Int} (h : RgK CG CF CR H r m pf n) (e : Same H H') : RgK CG CF CR H' r m pf n := h.keep fun b o q _ => e b o q
/-- all but one stays -/
def But (d : Addr) (H H' : Hp) : Prop := ∀ b o, H b = some o → b ≠ d → H' b = some o
def Bdd (n : Int) (T : Tm → Int) (M : Nat) : Prop := n = 0 → ∀ t, (T t).natAbs < 2 ^ M
/-- absorb -/
def spAbs (CG CF CR : Addr) : Sp := fun vs H Q _ => ∃ (r d e : Addr) (m : Nat) (pf : Addr) (n : Int) (kvs fvs : List (List Key × V)) (T1 T2 : Tm → Int) (D : Int), vs = [.ref r, .ref d, .ref e] ∧ RgK CG CF CR H r m pf n ∧ d ≠ e ∧ H d = some (.dT kvs) ∧ H e = some (.dT fvs) ∧
  PD n m H kvs T1 D ∧ PD n m H fvs T2 D ∧ kvs.length + fvs.length < sizeLine ∧ Bdd n T1 400 ∧ Bdd n T2 400 ∧ (n = 0 → D.natAbs < 2 ^ 400) ∧
  ∀ H' kvs', But d H H' → H' d = some (.dT kvs') → PD n m H' kvs' (fun k => T1 k + T2 k) D → kvs'.length ≤ kvs.length + fvs.length → Q .non H'

def spProd (K : PySem.W.Frag) : Sp := fun vs H Q _ => ∃ (a b : Addr) (xs ys : Tm), vs = [.ref a, .ref b] ∧ SqT K H a (xs.map V.int) ∧ SqT K H b (ys.map V.int) ∧ xs.length ≤ 1000 ∧ ∀ r H', Same H H' → H' r = some (.tup ((addT xs ys).map V.int)) → Q (.ref r) H'

def spScal (CG CF CR : Addr) : Sp := fun vs H Q _ => ∃ (r : Addr) (v : V) (t e : Addr) (m : Nat) (pf : Addr) (n : Int) (fvs : List (List Key × V)) (a D1 : Int) (l : Tm) (T : Tm → Int) (D : Int), vs = [.ref r, v, .ref t, .ref e] ∧ RgK CG CF CR H r m pf n ∧
  Is n H v a D1 ∧ ¬ zr n D1 ∧ SmN n a D1 ∧ H t = some (.tup (l.map V.int)) ∧ TmOk m l ∧ H e = some (.dT fvs) ∧ PD n m H fvs T D ∧ Bdd n T 400 ∧ (n = 0 → D.natAbs < 2 ^ 400) ∧ fvs.length < sizeLine ∧
  ∀ d H' kvs, H d = none → Same H H' → H' d = some (.dT kvs) → PD n m H' kvs (fun k => a * shT l T k) (D1 * D) → kvs.length ≤ fvs.length → Q (.ref d) H'
theorem add_inj {m : Nat} {l a b : Tm} (hl : TmOk m l) (ha : TmOk m a) (hb : TmOk m b) (e : addT l a = addT l b) : a = b := by
  have h1 := sub_add (ha.1.trans hl.1.symm)
  have h2 := sub_add (hb.1.trans hl.1.symm)
  rw [← h1, ← h2, e]
theorem nd_map_on {α β : Type} {f : α → β} : ∀ {l : List α}, l.Nodup → (∀ a ∈ l, ∀ b ∈ l, f a = f b → a = b) → (l.map f).Nodup
  | [], _, _ => List.nodup_nil
  | a :: l, h, hi => by
    rw [List.nodup_cons] at h
    rw [List.map_cons, List.nodup_cons]
    refine ⟨fun z => ?_, nd_map_on h.2 fun x hx y hy => hi x (by simp [hx]) y (by simp [hy])⟩
    obtain ⟨b, hb, e⟩ := List.mem_map.mp z
    exact h.1 (hi a (by simp) b (by simp [hb]) e.symm ▸ hb)
theorem zr_zero (n : Int) : zr n 0 := zr_iff.mpr ⟨0, by simp⟩
theorem lt_of_get {α : Type} {l : List α} {i : Nat} {a : α} (h : l[i]? = some a) : i < l.length := by
  rcases Nat.lt_or_ge i l.length with q | q
  · exact q
  · rw [List.getElem?_eq_none q] at h; cases h

def spNeg (CG CF CR : Addr) : Sp := fun vs H Q _ => ∃ (r e : Addr) (m : Nat) (pf : Addr) (n : Int) (fvs : List (List Key × V)) (T : Tm → Int) (D : Int), vs = [.ref r, .ref e] ∧ RgK CG CF CR H r m pf n ∧ H e = some (.dT fvs) ∧ PD n m H fvs T D ∧ fvs.length < sizeLine ∧
  ∀ d H' kvs, H d = none → Same H H' → H' d = some (.dT kvs) → PD n m H' kvs (fun k => - T k) D → kvs.length ≤ fvs.length → Q (.ref d) H'
theorem zr_neg {n a : Int} : zr n (-a) ↔ zr n a := by
  rw [zr_iff, zr_iff]
  constructor
  · rintro ⟨k, h⟩; exact ⟨-k, by grind⟩
  · rintro ⟨k, h⟩; exact ⟨-k, by grind⟩

def spPlus (CG CF CR : Addr) : Sp := fun vs H Q _ => ∃ (r e1 e2 : Addr) (m : Nat) (pf : Addr) (n : Int) (fvs gvs : List (List Key × V)) (T1 T2 : Tm → Int) (D : Int), vs = [.ref r, .ref e1, .ref e2] ∧ RgK CG CF CR H r m pf n ∧ H e1 = some (.dT fvs) ∧ H e2 = some (.dT gvs) ∧
  PD n m H fvs T1 D ∧ PD n m H gvs T2 D ∧ HDs fvs ∧ fvs.length + gvs.length < sizeLine ∧ Bdd n T1 400 ∧ Bdd n T2 400 ∧ (n = 0 → D.natAbs < 2 ^ 400) ∧
  ∀ d H' kvs, H d = none → Same H H' → H' d = some (.dT kvs) → PD n m H' kvs (fun k => T1 k + T2 k) D → kvs.length ≤ fvs.length + gvs.length → Q (.ref d) H'
theorem Bdd.neg {n : Int} {T : Tm → Int} {M : Nat} (h : Bdd n T M) : Bdd n (fun k => - T k) M := fun z t => by rw [Int.natAbs_neg]; exact h z t

def spMinus (CG CF CR : Addr) : Sp := fun vs H Q _ => ∃ (r e1 e2 : Addr) (m : Nat) (pf : Addr) (n : Int) (fvs gvs : List (List Key × V)) (T1 T2 : Tm → Int) (D : Int), vs = [.ref r, .ref e1, .ref e2] ∧ RgK CG CF CR H r m pf n ∧ H e1 = some (.dT fvs) ∧ H e2 = some (.dT gvs) ∧
  PD n m H fvs T1 D ∧ PD n m H gvs T2 D ∧ HDs fvs ∧ fvs.length + gvs.length < sizeLine ∧ Bdd n T1 400 ∧ Bdd n T2 400 ∧ (n = 0 → D.natAbs < 2 ^ 400) ∧
  ∀ d H' kvs, H d = none → Same H H' → H' d = some (.dT kvs) → PD n m H' kvs (fun k => T1 k + - T2 k) D → kvs.length ≤ fvs.length + gvs.length → Q (.ref d) H'
def spTimes (CG CF CR : Addr) : Sp := fun vs H Q _ => ∃ (r e1 e2 : Addr) (m : Nat) (pf : Addr) (n : Int) (fvs gvs : List (List Key × V)) (T1 : Tm → Int) (D1 : Int) (T2 : Tm → Int) (D2 : Int), vs = [.ref r, .ref e1, .ref e2] ∧ RgK CG CF CR H r m pf n ∧ e1 ≠ e2 ∧ H e1 = some (.dT fvs) ∧ H e2 = some (.dT gvs) ∧
  PD n m H fvs T1 D1 ∧ PD n m H gvs T2 D2 ∧ fvs.length ≤ 64 ∧ gvs.length ≤ 64 ∧ Bdd n T1 100 ∧ Bdd n T2 100 ∧ (n = 0 → D1.natAbs < 2 ^ 100) ∧ (n = 0 → D2.natAbs < 2 ^ 100) ∧
  ∀ d H' kvs, H d = none → Same H H' → H' d = some (.dT kvs) → PD n m H' kvs (cv T1 (tks fvs) T2) (D1 * D2) → kvs.length ≤ fvs.length * gvs.length → Q (.ref d) H'
theorem shT_bd {n : Int} {T : Tm → Int} {M : Nat} (l : Tm) (h : Bdd n T M) : Bdd n (shT l T) M := fun z t => by
  unfold shT; split
  · exact h z _
  · exact Nat.pow_pos (by decide)
theorem cv_bd {n : Int} {T1 T2 : Tm → Int} (h1 : Bdd n T1 100) (h2 : Bdd n T2 100) (z : n = 0) (t : Tm) : ∀ ls : List Tm, (cv T1 ls T2 t).natAbs ≤ ls.length * 2 ^ 200
  | [] => by rw [cv_nil]; exact Nat.zero_le _
  | l :: ls => by
    rw [cv_cons]
    have i := cv_bd h1 h2 z t ls
    have a : (T1 l * shT l T2 t).natAbs < 2 ^ (100 + 100) := mul_up (h1 z l) (shT_bd l h2 z t)
    have := Int.natAbs_add_le (T1 l * shT l T2 t) (cv T1 ls T2 t)
    rw [List.length_cons, Nat.succ_mul]
    omega
theorem bdd_up {n : Int} {T : Tm → Int} {a b : Nat} (h : Bdd n T a) (hab : a ≤ b) : Bdd n T b := fun z t => up (h z t) hab
theorem cv_bdd {n : Int} {T1 T2 : Tm → Int} (h1 : Bdd n T1 100) (h2 : Bdd n T2 100) {ls : List Tm} (hl : ls.length ≤ 64) : Bdd n (cv T1 ls T2) 208 := fun z t => by
  have := cv_bd h1 h2 z t ls
  have : ls.length * 2 ^ 200 ≤ 64 * 2 ^ 200 := Nat.mul_le_mul_right _ hl
  have : 64 * 2 ^ 200 < 2 ^ 208 := by decide
  omega

def spGp : Sp := fun vs H Q _ => ∃ (e : Addr) (a m : Nat) (fvs : List (List Key × V)), vs = [.ref e, .int a] ∧ H e = some (.dT fvs) ∧ KO m fvs ∧ a < m ∧ fvs.length ≤ 1000 ∧ ∀ H', Same H H' → Q (.int (mxD 0 ((tks fvs).map fun t => t.getD a 0))) H'

theorem dkey_comp {mp : List (Option Nat)} {td : TE} {g : TG} {tc : TT} {te : TE} {σ : St} {H : Hp} {Q : VK} {d : Addr} {fvs : List (List Key × V)} (hd : H d = some (.dT fvs)) (htd : ∀ R : VK, R (.ref d) H → td σ H R) (hn : fvs.length ≤ 1000) (Sv : St → Prop) (p : Nat → Bool) (f : Nat → V) (h0 : Sv (st0 mp σ))
    (step : ∀ o i x σ' H2, i < fvs.length → Sv σ' → Same (upd H d (.frz o (.dT fvs))) H2 → (∃ b k v, fvs[i]? = some (k, v) ∧ H2 b = some (.tup (k.map kV)) ∧ x = .ref b) → ∀ (Ny : V → St → Hp → Prop) (Nn : St → Hp → Prop), (∀ σ2 H5, Sv σ2 → Same H2 H5 → p i = true → Ny (f i) σ2 H5) → (∀ σ2 H4, Sv σ2 → Same H2 H4 → p i = false → Nn σ2 H4) →
      g x σ' H2 fun σ2 H3 => tc σ2 H3 fun b H4 => if b = true then te σ2 H4 fun v H5 => Ny v σ2 H5 else Nn σ2 H4)
    (hQ : ∀ o D H', D ≠ d → Same (upd H d (.frz o (.dT fvs))) H' → H' D = some (.lst (((List.range fvs.length).filter p).map f)) → Q (.ref D) H') : tComp mp (iDictK td) g tc te σ H Q := by
  unfold tComp
  refine htd _ ⟨d, fvs, rfl, .inl hd, fun o D hD => ?_⟩
  have hz : FzD (upd H d (.frz o (.dT fvs))) d o fvs := upd_same
  have Dd : D ≠ d := fun z => by subst z; rw [hz] at hD; cases hD
  exact comp_vals (walk_dkey hz) hD (Nat.le_trans hn (by rw [sizeLine_eq]; decide)) Sv p f h0 (fun i x σ' H2 => step o i x σ' H2) fun H' e hL => hQ o D H' Dd e hL

def rch (m : Nat) (ts : List Tm) : Tm := (List.range m).map fun i => mxD 0 (ts.map fun t => t.getD i 0)
def spReach (CG : Addr) : Sp := fun vs H Q _ => ∃ (r e : Addr) (m : Nat) (pf po : Addr) (fvs : List (List Key × V)), vs = [.ref r, .ref e] ∧ RgAt CG H r m pf po ∧ m ≤ 4 ∧ H e = some (.dT fvs) ∧ KO m fvs ∧ fvs.length ≤ 1000 ∧
  ∀ rr H', Same H H' → H' rr = some (.tup ((rch m (tks fvs)).map V.int)) → Q (.ref rr) H'
theorem at_last {α : Type} {xs : List α} (h : 0 < xs.length) : ∃ u, atI xs (-1) = some u ∧ xs[xs.length - 1]? = some u := by
  have hl : xs.length - 1 < xs.length := by omega
  refine ⟨xs[xs.length - 1], ?_, List.getElem?_eq_getElem hl⟩
  unfold atI ixN
  rw [if_neg (by decide), if_pos (by omega)]
  have : (-1 + (xs.length : Int)).toNat = xs.length - 1 := by omega
  simp [this, hl]

def PwB (n x b g : Int) : Prop := n = 0 → g ≤ 4 ∧ x.natAbs < 2 ^ 24 ∧ b.natAbs < 2 ^ 4
theorem pw_up {x : Int} {a : Nat} (h : x.natAbs < 2 ^ a) : ∀ j : Nat, (x ^ j).natAbs < 2 ^ (a * j + 1)
  | 0 => by rw [Int.pow_zero, Nat.mul_zero]; decide
  | j + 1 => by
    rw [Int.pow_succ]
    have := mul_up (pw_up h j) h
    have e : a * (j + 1) + 1 = a * j + 1 + a := by rw [Nat.mul_succ]; omega
    rw [e]; exact this
theorem nz_pow {n b : Int} (hn : n = 0 ∨ Pr n) (hb : ¬ zr n b) : ∀ j : Nat, ¬ zr n (b ^ j)
  | 0 => by rw [Int.pow_zero]; exact nz_one hn
  | j + 1 => by rw [Int.pow_succ]; exact nz_mul hn (nz_pow hn hb j) hb
def spPw (CF CR : Addr) : Sp := fun vs H Q _ => ∃ (p : Addr) (v : V) (x b g n : Int), vs = [.ref p, v, .int g] ∧ n ≤ 9973 ∧ (n = 0 ∨ Pr n) ∧ AtN CF CR n H p ∧ Is n H v x b ∧ ¬ zr n b ∧ 0 ≤ g ∧ g ≤ 200 ∧ PwB n x b g ∧
  ∀ l H' us, H l = none → Same H H' → H' l = some (.lst us) → us.length = g.toNat + 1 → (∀ (j : Nat) (u : V), us[j]? = some u → Is n H' u (x ^ j) (b ^ j)) → Q (.ref l) H'

structure SI where
  e1 : Addr
  f : List (List Key × V)
  T1 : Tm → Int
  e2 : Addr
  g : List (List Key × V)
  T2 : Tm → Int
structure SI.Ok (n : Int) (m : Nat) (H : Hp) (D1 D2 : Int) (i : SI) : Prop where
  ne : i.e1 ≠ i.e2
  h1 : H i.e1 = some (.dT i.f)
  h2 : H i.e2 = some (.dT i.g)
  p1 : PD n m H i.f i.T1 D1
  p2 : PD n m H i.g i.T2 D2
  l1 : i.f.length ≤ 64
  l2 : i.g.length ≤ 64
  b1 : Bdd n i.T1 100
  b2 : Bdd n i.T2 100
def smi (l : List SI) (t : Tm) : Int := (l.map fun i => cv i.T1 (tks i.f) i.T2 t).sum
theorem smi_snoc (l : List SI) (i : SI) (t : Tm) : smi (l ++ [i]) t = smi l t + cv i.T1 (tks i.f) i.T2 t := by simp [smi, List.sum_append]
def lni (l : List SI) : Nat := (l.map fun i => i.f.length * i.g.length).sum
theorem lni_snoc (l : List SI) (i : SI) : lni (l ++ [i]) = lni l + i.f.length * i.g.length := by simp [lni, List.sum_append]
def spSumd (K : PySem.W.Frag) (CG CF CR : Addr) : Sp := fun vs H Q _ => ∃ (r a b : Addr) (m : Nat) (pf : Addr) (n : Int) (D1 D2 : Int) (its : List SI), vs = [.ref r, .ref a, .ref b] ∧ RgK CG CF CR H r m pf n ∧ SqL K H a (its.map fun i => .ref i.e1) ∧ SqL K H b (its.map fun i => .ref i.e2) ∧ (∀ i ∈ its, SI.Ok n m H D1 D2 i) ∧ its.length ≤ 3 ∧
  ¬ zr n D1 ∧ ¬ zr n D2 ∧ (n = 0 → D1.natAbs < 2 ^ 100) ∧ (n = 0 → D2.natAbs < 2 ^ 100) ∧
  ∀ d H' kvs, H d = none → Same H H' → H' d = some (.dT kvs) → PD n m H' kvs (smi its) (D1 * D2) → kvs.length ≤ lni its → Q (.ref d) H'
theorem smi_bd {n m H D1 D2} {its : List SI} (h : ∀ i ∈ its, SI.Ok n m H D1 D2 i) (z : n = 0) (t : Tm) : (smi its t).natAbs ≤ its.length * 2 ^ 208 := by
  induction its with
  | nil => exact Nat.zero_le _
  | cons i l ih =>
    have e : smi (i :: l) t = cv i.T1 (tks i.f) i.T2 t + smi l t := by simp [smi]
    have q := ih fun j hj => h j (by simp [hj])
    have o := h i (by simp)
    have a := cv_bdd o.b1 o.b2 (ls := tks i.f) (by rw [tks_len]; exact o.l1) z t
    have := Int.natAbs_add_le (cv i.T1 (tks i.f) i.T2 t) (smi l t)
    rw [e, List.length_cons, Nat.succ_mul]
    omega
theorem sqL_but {K : PySem.W.Frag} {H H' : Hp} {d a : Addr} {kv : List (List Key × V)} {xs : List V} (h : But d H H') (hd : H d = some (.dT kv)) (q : SqL K H a xs) : SqL K H' a xs := by
  rcases q with (q | ⟨o, q⟩) | q
  · exact .inl (.inl (h _ _ q (ne_of q hd (by intro z; cases z))))
  · exact .inl (.inr ⟨o, h _ _ q (ne_of q hd (by intro z; cases z))⟩)
  · exact .inr q
theorem lni_le {n m H D1 D2} {its : List SI} (h : ∀ i ∈ its, SI.Ok n m H D1 D2 i) : lni its ≤ its.length * 4096 := by
  induction its with
  | nil => exact Nat.zero_le _
  | cons i l ih =>
    have e : lni (i :: l) = i.f.length * i.g.length + lni l := by simp [lni]
    have o := h i (by simp)
    have q := ih fun j hj => h j (by simp [hj])
    have : i.f.length * i.g.length ≤ 64 * 64 := Nat.mul_le_mul o.l1 o.l2
    rw [e, List.length_cons, Nat.succ_mul]; omega

theorem pwr_take : ∀ {ps t : List Int} {j : Nat} {x y : Int}, ps[j]? = some x → t[j]? = some y → pwr (ps.take (j + 1)) (t.take (j + 1)) = pwr (ps.take j) (t.take j) * x ^ y.toNat
  | [], _, _, _, _, h, _ => by simp at h
  | _ :: _, [], _, _, _, _, h => by simp at h
  | p :: ps, a :: t, 0, x, y, h1, h2 => by
    simp at h1 h2; subst h1 h2
    show p ^ a.toNat * pwr (ps.take 0) (t.take 0) = pwr ((p :: ps).take 0) ((a :: t).take 0) * p ^ a.toNat
    simp [pwr]
  | p :: ps, a :: t, j + 1, x, y, h1, h2 => by
    simp at h1 h2
    show p ^ a.toNat * pwr (ps.take (j + 1)) (t.take (j + 1)) = (p ^ a.toNat * pwr (ps.take j) (t.take j)) * x ^ y.toNat
    rw [pwr_take h1 h2, Int.mul_assoc]
theorem deg_take {t : Tm} {j : Nat} {y : Int} (h : t[j]? = some y) : deg (t.take (j + 1)) = deg (t.take j) + y := by
  unfold deg; rw [take_snoc h, List.sum_append]; simp
theorem pwr_bd {a c : Nat} : ∀ {ps t : List Int}, (∀ x ∈ ps, x.natAbs < 2 ^ a) → (∀ y ∈ t, y ≤ c) → (pwr ps t).natAbs < 2 ^ ((a * c + 1) * ps.length + 1)
  | [], _, _, _ => by simp [pwr]
  | _ :: _, [], _, _ => by simp only [pwr]; exact Nat.one_lt_two_pow (by omega)
  | p :: ps, y :: t, h1, h2 => by
    have i := pwr_bd (a := a) (c := c) (ps := ps) (t := t) (fun x hx => h1 x (by simp [hx])) (fun x hx => h2 x (by simp [hx]))
    have q := pw_up (h1 p (by simp)) y.toNat
    have le : a * y.toNat ≤ a * c := Nat.mul_le_mul_left _ (by have := h2 y (by simp); omega)
    have := mul_up (up q (show a * y.toNat + 1 ≤ a * c + 1 by omega)) i
    have e : (a * c + 1) * (p :: ps).length + 1 = a * c + 1 + ((a * c + 1) * ps.length + 1) := by rw [List.length_cons, Nat.mul_succ]; omega
    rw [e]; exact this
structure VB (n : Int) (m : Nat) (ps : List Int) (bt : Int) (T : Tm → Int) (D : Int) (ts : List Tm) : Prop where
  m3 : m ≤ 3
  hp : ∀ x ∈ ps, x.natAbs < 2 ^ 20
  hb : bt.natAbs < 2 ^ 3
  hD : D.natAbs < 2 ^ 10
  hT : ∀ t, (T t).natAbs < 2 ^ 60
  ht : ∀ t ∈ ts, ∀ x ∈ t, x ≤ 4
  hl : ts.length ≤ 1000
theorem deg_le : ∀ {t : Tm}, t.length ≤ 3 → (∀ x ∈ t, x ≤ 4) → deg t ≤ 12
  | [], _, _ => by decide
  | [a], _, h => by have := h a (by simp); simp [deg]; omega
  | [a, b], _, h => by have := h a (by simp); have := h b (by simp); simp [deg]; omega
  | [a, b, c], _, h => by have := h a (by simp); have := h b (by simp); have := h c (by simp); simp [deg]; omega
theorem deg_le6 : ∀ {t : Tm}, t.length ≤ 3 → (∀ x ∈ t, x ≤ 2) → deg t ≤ 6
  | [], _, _ => by decide
  | [a], _, h => by have := h a (by simp); simp [deg]; omega
  | [a, b], _, h => by have := h a (by simp); have := h b (by simp); simp [deg]; omega
  | [a, b, c], _, h => by have := h a (by simp); have := h b (by simp); have := h c (by simp); simp [deg]; omega
theorem mem_le_deg : ∀ {t : Tm} {x : Int}, (∀ y ∈ t, 0 ≤ y) → x ∈ t → x ≤ deg t
  | a :: t, x, h, hx => by
    have e : deg (a :: t) = a + deg t := by simp [deg]
    have d0 := deg_nn (t := t) fun y hy => h y (by simp [hy])
    have a0 := h a (by simp)
    rcases List.mem_cons.mp hx with rfl | hx
    · omega
    · have := mem_le_deg (t := t) (fun y hy => h y (by simp [hy])) hx
      omega
theorem deg_take_le : ∀ {t : Tm} {j : Nat}, (∀ y ∈ t, 0 ≤ y) → 0 ≤ deg (t.take j) ∧ deg (t.take j) ≤ deg t
  | [], j, _ => by simp [deg]
  | a :: t, 0, h => ⟨by simp [deg], by show 0 ≤ deg (a :: t); exact deg_nn h⟩
  | a :: t, j + 1, h => by
    have i := deg_take_le (t := t) (j := j) fun y hy => h y (by simp [hy])
    have a0 := h a (by simp)
    have e1 : deg ((a :: t).take (j + 1)) = a + deg (t.take j) := by simp [deg]
    have e2 : deg (a :: t) = a + deg t := by simp [deg]
    rw [e1, e2]; omega
theorem Paired.at2 {α β : Type} {F : α → β → Prop} : ∀ {l : List α} {m : List β}, Paired F l m → ∀ {i : Nat} {b : β}, m[i]? = some b → ∃ a, l[i]? = some a ∧ F a b
  | _, _, .nil, _, _, h => by simp at h
  | _, _, .cons r _, 0, _, h => by simp at h; subst h; exact ⟨_, rfl, r⟩
  | _, _, .cons _ t, i + 1, _, h => by simp at h; exact let ⟨a, q, z⟩ := Paired.at2 t h; ⟨a, by simpa using q, z⟩
def spVal (K : PySem.W.Frag) (CG CF CR : Addr) : Sp := fun vs H Q _ => ∃ (r e l : Addr) (m : Nat) (pf : Addr) (n : Int) (fvs : List (List Key × V)) (T : Tm → Int) (D : Int) (ps : List Int) (bt : Int) (us : List V), vs = [.ref r, .ref e, .ref l] ∧ RgK CG CF CR H r m pf n ∧ H e = some (.dT fvs) ∧ PD n m H fvs T D ∧ fvs.length ≤ 1000 ∧
  SqL K H l us ∧ us.length = m ∧ ps.length = m ∧ (∀ (j : Nat) (u : V) (x : Int), us[j]? = some u → ps[j]? = some x → Is n H u x bt) ∧ ¬ zr n bt ∧ (n = 0 → VB n m ps bt T D (tks fvs)) ∧ (∀ t ∈ tks fvs, ∀ x ∈ t, x ≤ 200) ∧ (bt = 1 ∨ ∀ t ∈ tks fvs, deg t ≤ 12) ∧
  ∀ v H', Same H H' → Is n H' v (ev (tks fvs) T (wt ps bt)) (D * bt ^ 12) → Q v H'
theorem mxD_ge : ∀ {xs : List Int} {x : Int}, x ∈ xs → x ≤ mxD 0 xs := by
  have key : ∀ (xs : List Int) (a x : Int), (x = a ∨ x ∈ xs) → x ≤ xs.foldl max a := by
    intro xs
    induction xs with
    | nil => rintro a x (rfl | h)
             · exact Int.le_refl _
             · cases h
    | cons y ys ih =>
      intro a x h
      rw [List.foldl_cons]
      rcases h with rfl | h
      · exact Int.le_trans (Int.le_max_left _ _) (ih _ _ (.inl rfl))
      · rcases List.mem_cons.mp h with rfl | h
        · exact Int.le_trans (Int.le_max_right _ _) (ih _ _ (.inl rfl))
        · exact ih _ _ (.inr h)
  intro xs x h
  cases xs with
  | nil => cases h
  | cons y ys => exact key ys y x (List.mem_cons.mp h)
theorem mxD_le {c : Int} (c0 : 0 ≤ c) : ∀ {xs : List Int}, (∀ x ∈ xs, x ≤ c) → mxD 0 xs ≤ c := by
  have key : ∀ (xs : List Int) (a : Int), a ≤ c → (∀ x ∈ xs, x ≤ c) → xs.foldl max a ≤ c := by
    intro xs
    induction xs with
    | nil => intro a h _; exact h
    | cons y ys ih => intro a h h2; rw [List.foldl_cons]; exact ih _ (Int.max_le.mpr ⟨h, h2 y (by simp)⟩) fun x hx => h2 x (by simp [hx])
  intro xs h
  cases xs with
  | nil => exact c0
  | cons y ys => exact key ys y (h y (by simp)) fun x hx => h x (by simp [hx])
theorem mxD_nn {xs : List Int} (h : ∀ x ∈ xs, 0 ≤ x) : 0 ≤ mxD 0 xs := by
  cases xs with
  | nil => exact Int.le_refl 0
  | cons y ys => exact Int.le_trans (h y (by simp)) (mxD_ge (by simp))
theorem ev_bd {c : Nat} {T W : Tm → Int} : ∀ {ts : List Tm}, (∀ t ∈ ts, (T t * W t).natAbs < 2 ^ c) → (ev ts T W).natAbs ≤ ts.length * 2 ^ c
  | [], _ => Nat.zero_le _
  | t :: ts, h => by
    have i := ev_bd (ts := ts) fun u hu => h u (by simp [hu])
    have a := h t (by simp)
    have e : ev (t :: ts) T W = T t * W t + ev ts T W := sm_cons _ _ _
    have := Int.natAbs_add_le (T t * W t) (ev ts T W)
    rw [e, List.length_cons, Nat.succ_mul]; omega
theorem ev_snoc (ts : List Tm) (t : Tm) (T W : Tm → Int) : ev (ts ++ [t]) T W = ev ts T W + T t * W t := sm_snoc _ _ _
theorem wt_bd {n : Int} {m : Nat} {ps : List Int} {bt : Int} {T : Tm → Int} {D : Int} {ts : List Tm} (vb : VB n m ps bt T D ts) (hl : ps.length = m) {t : Tm} (ht : t ∈ ts) (nn : ∀ x ∈ t, 0 ≤ x) : (T t * wt ps bt t).natAbs < 2 ^ 345 := by
  have a := pwr_bd (a := 20) (c := 4) vb.hp (vb.ht t ht)
  have b := pw_up vb.hb (12 - deg t).toNat
  have d := deg_nn nn
  have q := mul_up (up b (show 3 * (12 - deg t).toNat + 1 ≤ 37 by omega)) (up a (show (20 * 4 + 1) * ps.length + 1 ≤ 244 by have := vb.m3; omega))
  exact up (mul_up (vb.hT t) q) (by decide)
theorem val_cross {X D bt T pw q r : Int} (e : bt ^ 12 = q * r) : (X * (D * r) + (T * pw) * (D * bt ^ 12)) * (D * bt ^ 12) = (X + T * (q * pw)) * ((D * bt ^ 12) * (D * r)) := by
  rw [e]; grind

/-- a comprehension's turns -/
def CGo (J : It) (H1 : Hp) (D : Addr) (g : TG) (tc : TT) (te : TE) (σ0 : St) (Q : VK) : Prop := ∃ W : Nat → Nat → List V → St → Hp → Prop, (∃ m, W 0 m [] σ0 (upd H1 D (.lst []))) ∧ ∀ i m ys σ' H', W i m ys σ' H' → H' D = some (.lst ys) ∧
    ((J.stop i H' ∧ Q (.ref D) H') ∨ (J.go i H' ∧ ys.length < sizeLine ∧ ∀ x H2, J.yld i H' x H2 → g x σ' H2 fun σ2 H3 => tc σ2 H3 fun b H4 =>
      if b = true then te σ2 H4 fun v H5 => H5 D = some (.lst ys) ∧ ∃ m', m' < m ∧ W (i + 1) m' (ys ++ [v]) σ2 (upd H5 D (.lst (ys ++ [v])))
      else ∃ m', m' < m ∧ W (i + 1) m' ys σ2 H4))
theorem tComp_eq {mp : List (Option Nat)} {wi : TI} {g : TG} {tc : TT} {te : TE} {σ : St} {H : Hp} {Q : VK} (h : wi σ H fun J H1 => ∀ D, H1 D = none → CGo J H1 D g tc te (st0 mp σ) Q) : tComp mp wi g tc te σ H Q := by unfold tComp; exact h
theorem cgo_ofD {J : It} {H1 : Hp} {n : Nat} {P : Nat → V → Hp → Prop} {g : TG} {tc : TT} {te : TE} {Q : VK} {σ0 : St} {D : Addr} (S : Walk J H1 n P) (hD : H1 D = none) (hn : n ≤ sizeLine) (Sv : St → Prop) (p : Nat → Bool) (F : Nat → V → Hp → Prop)
    (monoS : ∀ i v H H', Same H H' → F i v H → F i v H') (monoU : ∀ i v H ys ys', H D = some (.lst ys) → F i v H → F i v (upd H D (.lst ys'))) (h0 : Sv σ0)
    (step : ∀ i x σ' H2, i < n → Sv σ' → Same H1 H2 → P i x H2 → (∃ ys, H2 D = some (.lst ys)) → ∀ (Ny : V → St → Hp → Prop) (Nn : St → Hp → Prop), (∀ v σ2 H5, Sv σ2 → Same H2 H5 → F i v H5 → p i = true → Ny v σ2 H5) → (∀ σ2 H4, Sv σ2 → Same H2 H4 → p i = false → Nn σ2 H4) →
      g x σ' H2 fun σ2 H3 => tc σ2 H3 fun b H4 => if b = true then te σ2 H4 fun v H5 => Ny v σ2 H5 else Nn σ2 H4)
    (hQ : ∀ H' ys, Same H1 H' → H' D = some (.lst ys) → Paired (fun i v => F i v H') ((List.range n).filter p) ys → Q (.ref D) H') : CGo J H1 D g tc te σ0 Q := comp_ofD S hD hn Sv p F monoS monoU h0 step hQ

def dB (n b : Int) : Int := if n = 0 then b else 1
theorem dB_0 (b : Int) : dB 0 b = b := if_pos rfl
theorem dB_one (n : Int) : dB n 1 = 1 := by unfold dB; split <;> rfl
theorem dB_n {n b : Int} (h : n ≠ 0) : dB n b = 1 := if_neg h
def spMd : Sp := fun vs H Q _ => ∃ (t b n : Int), vs = [.int t, .int b, .int n] ∧ (n = 0 ∨ Pr n) ∧ 1 ≤ b ∧ t.natAbs < 2 ^ 400 ∧ b.natAbs < 2 ^ 400 ∧ ∀ v H', Same H H' → Is n H' v t (dB n b) → Q v H'

def dN (n : Int) : Int := if n = 0 then 6 else 1
theorem dN_nz {n : Int} (hn : n = 0 ∨ Pr n) : ¬ zr n (dN n) := by
  rcases hn with rfl | hp
  · rw [zr_0]; decide
  · unfold dN; rw [if_neg (pr_ne hp)]; exact nz_one (.inr hp)
theorem PD.set {n : Int} {m : Nat} {H : Hp} {kvs : List (List Key × V)} {T : Tm → Int} {D : Int} (h : PD n m H kvs T D) {x : Tm} (hx : TmOk m x) {v : V} {a : Int} (iv : Is n H v a D) (nz : ¬ zr n a) : PD n m H (putK kvs (ky x) v) (fun t => if t = x then a else T t) D := by
  refine ⟨⟨ks_put h.pr.ks, nd_put h.pr.nd, fun _ => h.nz, fun t z => ?_, fun t u z => ?_⟩, h.ko.put hx⟩
  · rw [valV_put] at z
    by_cases q : t = x
    · subst q; rw [if_pos rfl] at z; cases z
    · rw [if_neg (fun e => q (ky_inj e))] at z
      show zr n (if t = x then a else T t)
      rw [if_neg q]; exact h.pr.no _ z
  · rw [valV_put] at z
    show Is n H u (if t = x then a else T t) D ∧ ¬ zr n (if t = x then a else T t)
    by_cases q : t = x
    · subst q; rw [if_pos rfl] at z; cases z
      rw [if_pos rfl]; exact ⟨iv, nz⟩
    · rw [if_neg (fun e => q (ky_inj e))] at z
      rw [if_neg q]; exact h.pr.at_ _ _ z
/-- powers of at most c -/
def Pl (c : Int) (kvs : List (List Key × V)) : Prop := ∀ t ∈ tks kvs, ∀ x ∈ t, x ≤ c
theorem Pl.put {m : Nat} {c : Int} {kvs : List (List Key × V)} {x : Tm} {v : V} (ko : KO m kvs) (hx : TmOk m x) (h : Pl c kvs) (hc : ∀ y ∈ x, y ≤ c) : Pl c (putK kvs (ky x) v) := by
  intro t ht
  have := (ko.put hx).mem.mp ht
  rw [valV_put] at this
  by_cases q : t = x
  · subst q; exact hc
  · rw [if_neg (fun e => q (ky_inj e))] at this
    exact h t (ko.mem.mpr this)
def spPoly (K : PySem.W.Frag) : Sp := fun vs H Q _ => ∃ (l : Addr) (m : Nat) (n : Int) (cs : List Int), vs = [.ref l, .int m, .int n] ∧ (n = 0 ∨ Pr n) ∧ n ≤ 9973 ∧ m ≤ 3 ∧ SqL K H l (cs.map V.int) ∧ cs.length ≤ 63 ∧
  ∀ d H' kvs T, H d = none → Same H H' → H' d = some (.dT kvs) → PD n m H' kvs T (dN n) → Bdd n T 23 → Pl 2 kvs → kvs.length ≤ cs.length → Q (.ref d) H'
theorem made6 {n t b : Int} {H : Hp} {v : V} (hn : n = 0 ∨ Pr n) (hb : b = 1 ∨ b = 2 ∨ b = 3) (ht : t.natAbs ≤ 1000000) (h : Is n H v t (dB n b)) : ∃ a, Is n H v a (dN n) ∧ (zr n a ↔ zr n t) ∧ (n = 0 → a.natAbs < 2 ^ 23) := by
  by_cases n0 : n = 0
  · subst n0
    rw [dB_0] at h
    refine ⟨t * (6 / b), Is.cross hn (by rw [zr_0]; omega) h (eqn.of_eq ?_), ?_, fun _ => ?_⟩
    · show t * 6 = t * (6 / b) * b
      rcases hb with rfl | rfl | rfl <;> omega
    · rw [zr_0, zr_0]
      rcases hb with rfl | rfl | rfl <;> omega
    · rcases hb with rfl | rfl | rfl <;> omega
  · rw [dB_n n0] at h
    unfold dN
    rw [if_neg n0]
    exact ⟨t, h, Iff.rfl, fun z => absurd z n0⟩

def spWp : Sp := fun vs H Q _ => ∃ (b p : Int), vs = [.int b, .int p] ∧ b.natAbs < 2 ^ 20 ∧ 0 ≤ p ∧ p ≤ 100 ∧ Q (.int (b ^ p.toNat)) H

def c0 (n : Int) : Int := if n = 0 then 36 else 1
/-- the point: places, bottom, the numbers -/
structure Spot (n : Int) (m : Nat) (H : Hp) (s : Addr) (ps : List Int) (bt : Int) (us : List V) : Prop where
  ex : ∃ (pl ql : Addr), H s = some (.tup [.ref pl, .int bt, .ref ql]) ∧ H pl = some (.lst (ps.map V.int)) ∧ H ql = some (.lst us)
  lp : ps.length = m
  lu : us.length = m
  hp : ∀ x ∈ ps, x.natAbs < 2 ^ 20
  b1 : 1 ≤ bt
  b5 : bt ≤ 5
  bn : n ≠ 0 → bt = 1
  is : ∀ (j : Nat) (u : V) (x : Int), us[j]? = some u → ps[j]? = some x → Is n H u x bt
theorem Spot.same {n : Int} {m : Nat} {H H' : Hp} {s : Addr} {ps : List Int} {bt : Int} {us : List V} (e : Same H H') (h : Spot n m H s ps bt us) : Spot n m H' s ps bt us := by
  obtain ⟨pl, ql, h1, h2, h3⟩ := h.ex
  exact ⟨⟨pl, ql, e _ _ h1, e _ _ h2, e _ _ h3⟩, h.lp, h.lu, h.hp, h.b1, h.b5, h.bn, fun j u x a b => (h.is j u x a b).same e⟩
/-- a polynomial as the law looks at it -/
structure PF (n : Int) (m : Nat) (H : Hp) (e : Addr) (fvs : List (List Key × V)) (T : Tm → Int) (D : Int) : Prop where
  he : H e = some (.dT fvs)
  pd : PD n m H fvs T D
  ln : fvs.length ≤ 1000
  dv : n = 0 → ∃ c, D * c = 36 ∧ 1 ≤ c
  d1 : n ≠ 0 → D = 1
  bT : Bdd n T 60
  p4 : n = 0 → Pl 4 fvs
  p99 : ∀ t ∈ tks fvs, deg t ≤ 105
  y99 : Pl 99 fvs
theorem PF.same {n : Int} {m : Nat} {H H' : Hp} {e : Addr} {fvs : List (List Key × V)} {T : Tm → Int} {D : Int} (s : Same H H') (h : PF n m H e fvs T D) : PF n m H' e fvs T D := ⟨s _ _ h.he, h.pd.same s, h.ln, h.dv, h.d1, h.bT, h.p4, h.p99, h.y99⟩
def spAt : Sp := fun vs H Q _ => ∃ (e s : Addr) (m : Nat) (n : Int) (fvs : List (List Key × V)) (T : Tm → Int) (D : Int) (ps : List Int) (bt : Int) (us : List V), vs = [.ref e, .ref s, .int n] ∧ (n = 0 ∨ Pr n) ∧ n ≤ 9973 ∧ m ≤ 3 ∧ PF n m H e fvs T D ∧ Spot n m H s ps bt us ∧
  ∀ S H', Same H H' → eqn n (S * D) (c0 n * ev (tks fvs) T (wt ps bt)) → (Pl 4 fvs → S.natAbs < 2 ^ 400) → Q (.int S) H'
/-- one part's number, whole -/
theorem pwr_bdd {a : Nat} : ∀ {ps t : List Int}, (∀ x ∈ ps, x.natAbs < 2 ^ a) → (∀ y ∈ t, 0 ≤ y) → (pwr ps t).natAbs < 2 ^ (a * (deg t).toNat + ps.length + 1)
  | [], _, _, _ => by simp only [pwr]; exact Nat.one_lt_two_pow (by omega)
  | _ :: _, [], _, _ => by simp only [pwr]; exact Nat.one_lt_two_pow (by omega)
  | p :: ps, y :: t, h1, h2 => by
    have i := pwr_bdd (a := a) (ps := ps) (t := t) (fun x hx => h1 x (by simp [hx])) (fun x hx => h2 x (by simp [hx]))
    have q := pw_up (h1 p (by simp)) y.toNat
    have d0 := deg_nn (t := t) fun x hx => h2 x (by simp [hx])
    have e1 : deg (y :: t) = y + deg t := by simp [deg]
    have e2 : (deg (y :: t)).toNat = y.toNat + (deg t).toNat := by rw [e1, Int.toNat_add (h2 y (by simp)) d0]
    have := mul_up q i
    have e : a * (deg (y :: t)).toNat + (p :: ps).length + 1 = a * y.toNat + 1 + (a * (deg t).toNat + ps.length + 1) := by rw [e2, List.length_cons, Nat.mul_add]; omega
    rw [e]; exact this
theorem num36 {x y T D c : Int} (hy : 1 ≤ y) (cp : gI x y = 1) (e : x * D = T * y) (hc : D * c = 36) : (36 : Int) % y = 0 ∧ x * (Int.fdiv 36 y) * D = 36 * T := by
  have d : y ∣ D := dvd_of_co (co_sym cp) ⟨T, by rw [e, Int.mul_comm]⟩
  have d36 : y ∣ 36 := by rw [← hc]; exact Int.dvd_trans d (Int.dvd_mul_right _ _)
  obtain ⟨q, hq⟩ := d36
  refine ⟨Int.emod_eq_zero_of_dvd ⟨q, hq⟩, ?_⟩
  have : Int.fdiv 36 y = q := by rw [hq, Int.fdiv_eq_ediv_of_nonneg _ (by omega), Int.mul_ediv_cancel_left _ (by omega)]
  rw [this]
  have : x * q * D = x * D * q := by grind
  rw [this, e, hq]; grind

def spSame : Sp := fun vs H Q _ => ∃ (v : V) (S : Int) (s : Addr) (m : Nat) (n : Int) (X D : Int) (ps : List Int) (bt : Int) (us : List V), vs = [v, .int S, .ref s, .int n] ∧ (n = 0 ∨ Pr n) ∧ n ≤ 9973 ∧ Spot n m H s ps bt us ∧ Is n H v X (D * bt ^ 12) ∧ eqn n (S * D) (c0 n * X) ∧ ¬ zr n D ∧ (n ≠ 0 → D = 1) ∧ (n = 0 → S.natAbs < 2 ^ 400 ∧ X.natAbs < 2 ^ 400 ∧ D.natAbs < 2 ^ 10) ∧ Q (.bl true) H
theorem same_0 {x y X S D B : Int} (hD : D ≠ 0) (e : x * (D * B) = X * y) (h : S * D = 36 * X) : x * (36 * B) = S * y := by
  refine Int.eq_of_mul_eq_mul_right hD ?_
  grind

def spAgr (K : PySem.W.Frag) (CG CF CR : Addr) : Sp := fun vs H Q _ => ∃ (r e s : Addr) (wh bY : Int) (m : Nat) (pf : Addr) (n : Int) (fvs : List (List Key × V)) (T : Tm → Int) (D : Int) (ps : List Int) (bt : Int) (us : List V), vs = [.ref r, .ref e, .int wh, .int bY, .ref s, .int n] ∧ RgK CG CF CR H r m pf n ∧ m ≤ 3 ∧ PF n m H e fvs T D ∧ Spot n m H s ps bt us ∧
  (∀ S, eqn n (S * D) (c0 n * ev (tks fvs) T (wt ps bt)) → eqn n (S * bY) wh) ∧ (n = 0 → bY.natAbs < 2 ^ 400) ∧ (n ≠ 0 → bY = 1) ∧ ∀ H', Same H H' → Q (.bl true) H'

theorem nums_of {n : Int} (hn : n = 0 ∨ Pr n) {K : PySem.W.Frag} {H : Hp} {bt : Int} (hb : ¬ zr n bt) : ∀ {us : List V} {ps : List Int}, us.length = ps.length → (∀ (j : Nat) (u : V) (x : Int), us[j]? = some u → ps[j]? = some x → Is n H u x bt) →
    ∃ ds, RdsAll K H us ds ∧ PyData.canLayAll0 ds = true ∧ PyData.depthAll ds ≤ 61
  | [], [], _, _ => ⟨[], .nil, rfl, by simp [PyData.depthAll]⟩
  | u :: us, x :: ps, hl, h => by
    obtain ⟨dn, rd, nd, _⟩ := (h 0 u x rfl rfl).rds (K := K) hn hb
    obtain ⟨ds, r2, l2, d2⟩ := nums_of hn (K := K) hb (us := us) (ps := ps) (by simpa using hl) fun j v y h1 h2 => h (j + 1) v y (by simpa using h1) (by simpa using h2)
    refine ⟨dn :: ds, .cons rd r2, ?_, ?_⟩
    · simp only [PyData.canLayAll0, nd.lay, l2, Bool.and_self]
    · have := nd.dep
      simp only [PyData.depthAll]; omega
theorem list_shaped {ds : List PyData} (h1 : PyData.canLayAll0 ds = true) (h2 : PyData.depthAll ds ≤ 61) : SeqAt.shaped (.list ds) = true := by
  unfold SeqAt.shaped
  rw [PyData.canLay0, PyData.depth, h1, Bool.true_and, decide_eq_true_eq]
  omega
theorem list_refl {ds : List PyData} (h1 : PyData.canLayAll0 ds = true) : PyData.eqv (.list ds) (.list ds) = true := SeqAt.eqv_refl _ (by rw [PyData.canLay0]; exact h1)

def f3 (k : Int) : Int := if k = 0 then 5 else if k = 1 then 99 else 1
theorem at3 {k : Int} (h0 : 0 ≤ k) (h1 : k < 3) : atI [V.int 5, V.int 99, V.int 1] k = some (V.int (f3 k)) := by
  rcases (by omega : k = 0 ∨ k = 1 ∨ k = 2) with rfl | rfl | rfl <;> rfl
def tf (c : Int) (m : Nat) : Tm := (List.range m).map fun i : Nat => f3 ((c / 11 + i) % 3)
theorem f3_b (k : Int) : 0 ≤ f3 k ∧ f3 k ≤ 99 := by unfold f3; split <;> (try split) <;> omega
theorem tf_ok (c : Int) (m : Nat) : TmOk m (tf c m) := by
  refine ⟨by simp [tf], fun x hx => ?_⟩
  obtain ⟨i, _, rfl⟩ := List.mem_map.mp hx
  exact (f3_b _).1
theorem tf_99 (c : Int) (m : Nat) : ∀ x ∈ tf c m, x ≤ 99 := fun x hx => by
  obtain ⟨i, _, rfl⟩ := List.mem_map.mp hx
  exact (f3_b _).2
theorem f3_3 (a : Int) : f3 ((a + 0) % 3) + (f3 ((a + 1) % 3) + f3 ((a + 2) % 3)) = 105 := by
  rcases (by omega : a % 3 = 0 ∨ a % 3 = 1 ∨ a % 3 = 2) with z | z | z
  · have e0 : (a + 0) % 3 = 0 := by omega
    have e1 : (a + 1) % 3 = 1 := by omega
    have e2 : (a + 2) % 3 = 2 := by omega
    rw [e0, e1, e2]; decide
  · have e0 : (a + 0) % 3 = 1 := by omega
    have e1 : (a + 1) % 3 = 2 := by omega
    have e2 : (a + 2) % 3 = 0 := by omega
    rw [e0, e1, e2]; decide
  · have e0 : (a + 0) % 3 = 2 := by omega
    have e1 : (a + 1) % 3 = 0 := by omega
    have e2 : (a + 2) % 3 = 1 := by omega
    rw [e0, e1, e2]; decide
theorem tf_deg (c : Int) {m : Nat} (h : m ≤ 3) : deg (tf c m) ≤ 105 := by
  have q := f3_3 (c / 11)
  have b0 := f3_b ((c / 11 + 0) % 3)
  have b1 := f3_b ((c / 11 + 1) % 3)
  have b2 := f3_b ((c / 11 + 2) % 3)
  match m, h with
  | 0, _ => show (0 : Int) ≤ 105; decide
  | 1, _ => show (f3 ((c / 11 + 0) % 3) + 0 : Int) ≤ 105; omega
  | 2, _ => show (f3 ((c / 11 + 0) % 3) + (f3 ((c / 11 + 1) % 3) + 0) : Int) ≤ 105; omega
  | 3, _ => show (f3 ((c / 11 + 0) % 3) + (f3 ((c / 11 + 1) % 3) + (f3 ((c / 11 + 2) % 3) + 0)) : Int) ≤ 105; omega
def spFar (K : PySem.W.Frag) (CG CF CR : Addr) : Sp := fun vs H Q _ => ∃ (r : Addr) (c : Int) (s : Addr) (m : Nat) (pf : Addr) (n : Int) (ps : List Int) (bt : Int) (us : List V), vs = [.ref r, .int c, .ref s, .int n] ∧ RgK CG CF CR H r m pf n ∧ n ≠ 0 ∧ m ≤ 3 ∧ Spot n m H s ps bt us ∧ ∀ H', Same H H' → Q (.bl true) H'

def spSpot : Sp := fun vs H Q _ => ∃ (c : Int) (m : Nat) (n : Int), vs = [.int c, .int m, .int n] ∧ (n = 0 ∨ Pr n) ∧ n ≤ 9973 ∧ m ≤ 3 ∧ ∀ s H' ps bt us, Same H H' → Spot n m H' s ps bt us → Q (.ref s) H'

theorem eqn_cancel {n x y d : Int} (hn : n = 0 ∨ Pr n) (hd : ¬ zr n d) (h : eqn n (x * d) (y * d)) : eqn n x y := by
  refine Classical.byContradiction fun c => nz_mul hn c hd ?_
  show zr n ((x - y) * d)
  have : (x - y) * d = x * d - y * d := by grind
  rw [this]; exact h
def box : Nat → List Tm
  | 0 => [[]]
  | m + 1 => (box m).flatMap fun t => [0 :: t, 1 :: t, 2 :: t]
theorem mem_box : ∀ {m : Nat} {t : Tm}, TmOk m t → (∀ x ∈ t, x ≤ 2) → t ∈ box m
  | 0, t, h, _ => by have := List.length_eq_zero_iff.mp h.1; subst this; simp [box]
  | m + 1, [], h, _ => by have := h.1; simp at this
  | m + 1, x :: t, h, h2 => by
    have i := mem_box (m := m) (t := t) ⟨by have := h.1; simpa using this, fun y hy => h.2 y (by simp [hy])⟩ fun y hy => h2 y (by simp [hy])
    have x0 := h.2 x (by simp)
    have x2 := h2 x (by simp)
    unfold box
    rw [List.mem_flatMap]
    refine ⟨t, i, ?_⟩
    rcases (by omega : x = 0 ∨ x = 1 ∨ x = 2) with rfl | rfl | rfl <;> simp
theorem box_len : ∀ m, (box m).length = 3 ^ m
  | 0 => rfl
  | m + 1 => by
    unfold box
    rw [List.length_flatMap]
    have : ((box m).map fun t : Tm => [0 :: t, 1 :: t, 2 :: t].length).sum = 3 * (box m).length := by
      induction box m with
      | nil => rfl
      | cons a l ih => rw [List.map_cons, List.sum_cons, ih]; simp only [List.length_cons, List.length_nil]; omega
    rw [this, box_len m, Nat.pow_succ, Nat.mul_comm]
theorem len_le_of_nd : ∀ {ts U : List Tm}, ts.Nodup → (∀ t ∈ ts, t ∈ U) → ts.length ≤ U.length
  | [], _, _, _ => Nat.zero_le _
  | t :: ts, U, h1, h2 => by
    rw [List.nodup_cons] at h1
    have i := len_le_of_nd (U := U.erase t) h1.2 fun u hu => (List.mem_erase_of_ne (fun (e : u = t) => h1.1 (e ▸ hu))).mpr (h2 u (by simp [hu]))
    have := List.length_erase_of_mem (h2 t (by simp))
    have : 0 < U.length := List.length_pos_of_mem (h2 t (by simp))
    rw [List.length_cons]; omega
theorem hs_box : (∀ x ∈ box 1, ∀ y ∈ box 1, hsI x = hsI y → x = y) ∧ (∀ x ∈ box 2, ∀ y ∈ box 2, hsI x = hsI y → x = y) ∧ (∀ x ∈ box 3, ∀ y ∈ box 3, hsI x = hsI y → x = y) := by decide +kernel
section
variable {n : Int} {m : Nat} {H : Hp} {kvs fvs gvs : List (List Key × V)} {T T1 T2 : Tm → Int} {D D1 D2 : Int}
theorem PD.len27 (h : PD n m H kvs T D) (m3 : m ≤ 3) (pl : Pl 2 kvs) : kvs.length ≤ 27 := by
  have := len_le_of_nd h.nts fun t ht => mem_box (h.ko.ok ht) (pl t ht)
  rw [tks_len, box_len] at this
  exact Nat.le_trans this (Nat.pow_le_pow_right (by decide) m3)
theorem PD.hds (h : PD n m H kvs T D) (m1 : 1 ≤ m) (m3 : m ≤ 3) (pl : Pl 2 kvs) : HDs kvs := by
  refine ⟨tks kvs, by rw [h.ko.keys]; rfl, nd_map_on h.nts fun x hx y hy e => ?_⟩
  have bx := mem_box (h.ko.ok hx) (pl x hx)
  have by_ := mem_box (h.ko.ok hy) (pl y hy)
  rcases (by omega : m = 1 ∨ m = 2 ∨ m = 3) with z | z | z
  · subst z; exact hs_box.1 x bx y by_ e
  · subst z; exact hs_box.2.1 x bx y by_ e
  · subst z; exact hs_box.2.2 x bx y by_ e
theorem PD.nzt (h : PD n m H kvs T D) {t : Tm} (ht : t ∈ tks kvs) : ¬ zr n (T t) := by
  have := h.ko.mem.mp ht
  obtain ⟨v, hv⟩ := Option.isSome_iff_exists.mp this
  exact (h.pr.at_ t v hv).2
theorem zr_add {a b : Int} (ha : zr n a) (hb : zr n b) : zr n (a + b) := by
  obtain ⟨k, e⟩ := zr_iff.mp ha; obtain ⟨l, e'⟩ := zr_iff.mp hb; exact zr_iff.mpr ⟨k + l, by grind⟩
theorem cv_supp {us : List Tm} (z2 : ∀ u, u ∉ us → zr n (T2 u)) {t : Tm} : ∀ {ls : List Tm}, ¬ zr n (cv T1 ls T2 t) → ∃ l ∈ ls, ∃ u ∈ us, t = addT l u
  | [], h => absurd (by rw [cv_nil]; exact zr_zero n) h
  | l :: ls, h => by
    rw [cv_cons] at h
    by_cases c : zr n (cv T1 ls T2 t)
    · have q : ¬ zr n (shT l T2 t) := fun z => h (zr_add (by rw [Int.mul_comm]; exact zr_mul z) c)
      unfold shT at q
      by_cases e : t.length = l.length
      · rw [if_pos e] at q
        refine ⟨l, by simp, subT t l, Classical.byContradiction fun z => q (z2 _ z), (add_sub e).symm⟩
      · rw [if_neg e] at q; exact absurd (zr_zero n) q
    · obtain ⟨l', h1, u, h2, h3⟩ := cv_supp z2 c
      exact ⟨l', by simp [h1], u, h2, h3⟩
theorem add_le4 : ∀ {l u : Tm}, (∀ x ∈ l, x ≤ 2) → (∀ x ∈ u, x ≤ 2) → ∀ x ∈ addT l u, x ≤ 4
  | [], _, _, _, x, hx => by cases hx
  | _ :: _, [], _, _, x, hx => by cases hx
  | a :: l, b :: u, h1, h2, x, hx => by
    rcases List.mem_cons.mp (show x ∈ (a + b) :: addT l u from hx) with rfl | hx
    · have := h1 a (by simp); have := h2 b (by simp); omega
    · exact add_le4 (fun y hy => h1 y (by simp [hy])) (fun y hy => h2 y (by simp [hy])) x hx
theorem pl_times (h : PD n m H kvs (cv T1 (tks fvs) T2) D) (z2 : ∀ u, u ∉ tks gvs → zr n (T2 u)) (p1 : Pl 2 fvs) (p2 : Pl 2 gvs) : Pl 4 kvs := fun t ht => by
  obtain ⟨l, hl, u, hu, rfl⟩ := cv_supp z2 (h.nzt ht)
  exact add_le4 (p1 l hl) (p2 u hu)
theorem pl_plus (h : PD n m H kvs (fun k => T1 k + T2 k) D) (z1 : ∀ u, u ∉ tks fvs → zr n (T1 u)) (z2 : ∀ u, u ∉ tks gvs → zr n (T2 u)) (p1 : Pl 2 fvs) (p2 : Pl 2 gvs) : Pl 4 kvs := fun t ht => by
  have q := h.nzt ht
  intro x hx
  by_cases c : t ∈ tks fvs
  · have := p1 t c x hx; omega
  · by_cases c2 : t ∈ tks gvs
    · have := p2 t c2 x hx; omega
    · exact absurd (zr_add (z1 t c) (z2 t c2)) q
theorem smi_supp {its : List SI} {t : Tm} (h : ¬ zr n (smi its t)) : ∃ i ∈ its, ¬ zr n (cv i.T1 (tks i.f) i.T2 t) := by
  induction its with
  | nil => exact absurd (zr_zero n) h
  | cons i l ih =>
    have e : smi (i :: l) t = cv i.T1 (tks i.f) i.T2 t + smi l t := by simp [smi]
    rw [e] at h
    by_cases c : zr n (smi l t)
    · exact ⟨i, by simp, fun z => h (zr_add z c)⟩
    · obtain ⟨j, h1, h2⟩ := ih c
      exact ⟨j, by simp [h1], h2⟩
theorem cv_bd2 {a b : Nat} (h1 : Bdd n T1 a) (h2 : Bdd n T2 b) (z : n = 0) (t : Tm) : ∀ ls : List Tm, (cv T1 ls T2 t).natAbs ≤ ls.length * 2 ^ (a + b)
  | [] => by rw [cv_nil]; exact Nat.zero_le _
  | l :: ls => by
    rw [cv_cons]
    have i := cv_bd2 h1 h2 z t ls
    have q : (T1 l * shT l T2 t).natAbs < 2 ^ (a + b) := mul_up (h1 z l) (shT_bd l h2 z t)
    have := Int.natAbs_add_le (T1 l * shT l T2 t) (cv T1 ls T2 t)
    rw [List.length_cons, Nat.succ_mul]
    omega
theorem cv_b46 (h1 : Bdd n T1 23) (h2 : Bdd n T2 23) {ls : List Tm} (hl : ls.length ≤ 64) : Bdd n (cv T1 ls T2) 53 := fun z t => by
  have := cv_bd2 h1 h2 z t ls
  have : ls.length * 2 ^ (23 + 23) ≤ 64 * 2 ^ (23 + 23) := Nat.mul_le_mul_right _ hl
  have : 64 * 2 ^ (23 + 23) < 2 ^ 53 := by decide
  omega
theorem smi_b {its : List SI} (h1 : ∀ i ∈ its, Bdd n i.T1 23 ∧ Bdd n i.T2 23 ∧ i.f.length ≤ 64) (hl : its.length ≤ 3) : Bdd n (smi its) 60 := fun z t => by
  have key : ∀ l : List SI, (∀ i ∈ l, i ∈ its) → (smi l t).natAbs ≤ l.length * 2 ^ 53 := by
    intro l
    induction l with
    | nil => intro _; exact Nat.zero_le _
    | cons i l ih =>
      intro hi
      have e : smi (i :: l) t = cv i.T1 (tks i.f) i.T2 t + smi l t := by simp [smi]
      have q := ih fun j hj => hi j (by simp [hj])
      obtain ⟨b1, b2, b3⟩ := h1 i (hi i (by simp))
      have a := cv_b46 b1 b2 (ls := tks i.f) (by rw [tks_len]; exact b3) z t
      have := Int.natAbs_add_le (cv i.T1 (tks i.f) i.T2 t) (smi l t)
      rw [e, List.length_cons, Nat.succ_mul]
      omega
  have := key its fun _ h => h
  have : its.length * 2 ^ 53 ≤ 3 * 2 ^ 53 := Nat.mul_le_mul_right _ hl
  have : 3 * 2 ^ 53 < 2 ^ 60 := by decide
  omega
theorem pf_mk {e : Addr} (m3 : m ≤ 3) (he : H e = some (.dT kvs)) (pd : PD n m H kvs T D) (ln : kvs.length ≤ 1000) (hD : D = dN n ∨ D = dN n * dN n) (bT : Bdd n T 60) (p4 : Pl 4 kvs) : PF n m H e kvs T D := by
  refine ⟨he, pd, ln, fun z => ?_, fun z => ?_, bT, fun _ => p4, fun t ht => ?_, fun t ht x hx => ?_⟩
  · subst z
    rcases hD with rfl | rfl
    · exact ⟨6, by decide, by decide⟩
    · exact ⟨1, by decide, by decide⟩
  · have : dN n = 1 := if_neg z
    rw [this] at hD
    rcases hD with h | h <;> omega
  · have := deg_le (by rw [(pd.ko.ok ht).1]; exact m3) (p4 t ht); omega
  · have := p4 t ht x hx; omega
theorem Pl.up {c d : Int} (h : Pl c kvs) (hcd : c ≤ d) : Pl d kvs := fun t ht x hx => Int.le_trans (h t ht x hx) hcd
/-- of two, weighed -/
theorem ev_prod {ps : List Int} {bt : Int} (hp : ps.length = m) {ls us : List Tm} (h1 : ∀ l ∈ ls, TmOk m l) (h2 : ∀ u ∈ us, TmOk m u) (hb : bt = 1 ∨ ∀ l ∈ ls, ∀ u ∈ us, deg l + deg u ≤ 12) :
    sm (fun l => T1 l * ev us T2 fun u => wt ps bt (addT l u)) ls * bt ^ 12 = ev ls T1 (wt ps bt) * ev us T2 (wt ps bt) := by
  have inner : ∀ l ∈ ls, ev us T2 (fun u => wt ps bt (addT l u)) * bt ^ 12 = wt ps bt l * ev us T2 (wt ps bt) := fun l hl => by
    unfold ev
    rw [Int.mul_comm, ← sm_mul, ← sm_mul]
    refine sm_congr fun u hu => ?_
    have q := wt_add (ps := ps) (bt := bt) ((h1 l hl).1.trans hp.symm) ((h2 u hu).1.trans hp.symm) (h1 l hl).2 (h2 u hu).2 (by
      rcases hb with hb | hb
      · exact .inl hb
      · exact .inr (hb l hl u hu))
    have : bt ^ 12 * (T2 u * wt ps bt (addT l u)) = T2 u * (wt ps bt (addT l u) * bt ^ 12) := by grind
    rw [this, q]; grind
  have e1 : sm (fun l => T1 l * ev us T2 fun u => wt ps bt (addT l u)) ls * bt ^ 12 = sm (fun l => (ev us T2 (wt ps bt)) * (T1 l * wt ps bt l)) ls := by
    rw [Int.mul_comm, ← sm_mul]
    refine sm_congr fun l hl => ?_
    have := inner l hl
    have e : bt ^ 12 * (T1 l * ev us T2 fun u => wt ps bt (addT l u)) = T1 l * ((ev us T2 fun u => wt ps bt (addT l u)) * bt ^ 12) := by grind
    rw [e, this]; grind
  rw [e1, sm_mul, Int.mul_comm]; rfl
theorem ev_neg (ts : List Tm) (W : Tm → Int) : ev ts (fun t => - T t) W = - ev ts T W := by
  have : ev ts (fun t => - T t) W = sm (fun t => (-1) * (T t * W t)) ts := sm_congr fun t _ => by grind
  rw [this, sm_mul]; unfold ev; omega
theorem ev_smi {W : Tm → Int} {ts : List Tm} {its : List SI} (ok : ∀ i ∈ its, SI.Ok n m H D1 D2 i) (nt : ts.Nodup) (zt : ∀ t, t ∉ ts → zr n (smi its t)) :
    eqn n (ev ts (smi its) W) ((its.map fun i => sm (fun l => i.T1 l * ev (tks i.g) i.T2 fun u => W (addT l u)) (tks i.f)).sum) := by
  have a := ev_sup (W := W) (U := dd (ts ++ its.flatMap fun i => (tks i.f).flatMap fun l => (tks i.g).map (addT l))) nt (dd_nd _) (fun t h => dd_mem.mpr (by simp [h])) zt
  refine a.trans ?_
  have hU : ∀ i ∈ its, ∀ l ∈ tks i.f, ∀ u ∈ tks i.g, addT l u ∈ dd (ts ++ its.flatMap fun i => (tks i.f).flatMap fun l => (tks i.g).map (addT l)) := fun i hi l hl u hu => dd_mem.mpr (by
    rw [List.mem_append, List.mem_flatMap]
    exact .inr ⟨i, hi, List.mem_flatMap.mpr ⟨l, hl, List.mem_map.mpr ⟨u, hu, rfl⟩⟩⟩)
  have nU := dd_nd (ts ++ its.flatMap fun i => (tks i.f).flatMap fun l => (tks i.g).map (addT l))
  generalize dd (ts ++ its.flatMap fun i => (tks i.f).flatMap fun l => (tks i.g).map (addT l)) = U at hU nU
  clear a
  have key : ∀ l : List SI, (∀ i ∈ l, i ∈ its) → eqn n (ev U (smi l) W) ((l.map fun i => sm (fun l => i.T1 l * ev (tks i.g) i.T2 fun u => W (addT l u)) (tks i.f)).sum) := by
    intro l
    induction l with
    | nil => intro _; exact (sm_zero fun t _ => by show zr n (0 * W t); rw [Int.zero_mul]; exact zr_zero n).symm
    | cons i l ih =>
      intro hi
      have q := ih fun j hj => hi j (by simp [hj])
      have hin := hi i (by simp)
      have o := ok i hin
      have c := ev_cv (n := n) (T1 := i.T1) (T2 := i.T2) (W := W) (us := tks i.g) (U := U) (m := m) o.p2.nts (fun u hu => (o.p2.ko.ok hu).1) (fun t ht => o.p2.out ht) nU (ls := tks i.f) (fun l hl => (o.p1.ko.ok hl).1) (hU i hin)
      rw [List.map_cons, List.sum_cons]
      refine eqn.trans (eqn.of_eq ?_) (c.add q)
      unfold ev
      rw [← sm_add]
      refine sm_congr fun t _ => ?_
      have e : smi (i :: l) t = cv i.T1 (tks i.f) i.T2 t + smi l t := by simp [smi]
      rw [e]; grind
  exact key its fun _ h => h
end

def spLaw (K : PySem.W.Frag) : Sp := fun vs H Q _ => ∃ (a : Addr) (ns : List Int), vs = [.ref a] ∧ SqL K H a (ns.map V.int) ∧ ns.length ≤ 63 ∧ ∀ H', Q (.bl true) H'
def spRgI (CG CD : Addr) : Sp := fun vs H Q _ => ∃ (r dx : Addr) (m : Int) (pf po : Addr), vs = [.ref r, .int m, .ref pf, .ref po] ∧ H r = some (.ins CG dx []) ∧ AtO CD H po ∧ 1 ≤ m ∧ m ≤ 4 ∧ ∀ H', H' r = some (RgO CG dx m pf po) → (∀ b o, H b = some o → b ≠ r → H' b = some o) → Q .non H'
theorem len_xyzt : ((("xyzt" : Str).length : Nat) : Int) = 4 := by decide +kernel
theorem cut_map (ns : List Int) (lo hi : Option Int) : ∃ ms : List Int, cutV (ns.map V.int) lo hi = ms.map V.int ∧ ms.length ≤ ns.length := by
  refine ⟨(ns.drop (HT.sIx ns.length 0 lo)).take (HT.sIx ns.length ns.length hi - HT.sIx ns.length 0 lo), ?_, ?_⟩
  · unfold cutV
    rw [List.length_map, List.map_take, List.map_drop]
  · rw [List.length_take, List.length_drop]; omega

theorem zeros_add : ∀ {m : Nat} {u : Tm}, u.length = m → addT (List.replicate m 0) u = u
  | 0, [], _ => rfl
  | m + 1, x :: u, h => by
    show (0 + x) :: addT (List.replicate m 0) u = x :: u
    rw [zeros_add (by simpa using h), Int.zero_add]
theorem zeros_ok (m : Nat) : TmOk m (List.replicate m 0) := ⟨by simp, fun x hx => by rw [(List.mem_replicate.mp hx).2]; exact Int.le_refl 0⟩
theorem fin_plus {n a b S d c X Y Z : Int} (hn : n = 0 ∨ Pr n) (hd : ¬ zr n d) (ha : eqn n (a * d) (c * X)) (hb : eqn n (b * d) (c * Y)) (hS : eqn n (S * d) (c * Z)) (hZ : eqn n Z (X + Y)) : eqn n (S * 1) (a + b) := by
  refine eqn_cancel hn hd ?_
  rw [Int.mul_one]
  refine hS.trans (((eqn.refl n c).mul hZ).trans ?_)
  refine eqn.trans (eqn.of_eq ?_) (eqn.trans (ha.add hb).symm (eqn.of_eq ?_))
  · grind
  · grind
theorem fin_times {n a b S d c X Y Z B bY : Int} (hn : n = 0 ∨ Pr n) (hd : ¬ zr n d) (ha : eqn n (a * d) (c * X)) (hb : eqn n (b * d) (c * Y)) (hS : eqn n (S * (d * d)) (c * Z)) (hZ : eqn n (Z * B) (X * Y)) (hY : bY = c * B) : eqn n (S * bY) (a * b) := by
  refine eqn_cancel hn (nz_mul hn hd hd) ?_
  have q1 := hS.mul (eqn.refl n bY)
  have q2 := ha.mul hb
  have q3 := (eqn.refl n (c * c)).mul hZ
  refine eqn.trans (eqn.of_eq ?_) (q1.trans (eqn.trans (eqn.of_eq ?_) (q3.trans (eqn.trans (eqn.of_eq ?_) (q2.symm.trans (eqn.of_eq ?_))))))
  · grind
  · subst hY; grind
  · grind
  · grind
theorem fin_sum {n a b e S d c X Y E Z P B bY : Int} (hn : n = 0 ∨ Pr n) (hd : ¬ zr n d) (ha : eqn n (a * d) (c * X)) (hb : eqn n (b * d) (c * Y)) (he : eqn n (e * d) (c * E)) (hS : eqn n (S * (d * d)) (c * Z)) (hZ : eqn n Z (d * X + P)) (hP : eqn n (P * B) (Y * E)) (hY : bY = c * B) : eqn n (S * bY) (a * bY + b * e) := by
  refine eqn_cancel hn (nz_mul hn hd hd) ?_
  have q1 := (hS.trans ((eqn.refl n c).mul hZ)).mul (eqn.refl n bY)
  have q2 := hb.mul he
  have q3 := (eqn.refl n (c * c)).mul hP
  have q4 := ha.mul (eqn.refl n (d * bY))
  refine eqn.trans (eqn.of_eq ?_) (q1.trans (eqn.trans (eqn.of_eq ?_) (((q4.symm).add (q3.trans (eqn.trans (eqn.of_eq ?_) q2.symm))).trans (eqn.of_eq ?_))))
  · grind
  · subst hY; grind
  · grind
  · grind

theorem times_F {x y z w T1 B1 T2 B2 : Int} (hy : 1 ≤ y) (hw : 1 ≤ w) (e1 : x * B1 = T1 * y) (e2 : z * B2 = T2 * w) : fT (x * z) (y * w) * (B1 * B2) = (T1 * T2) * fB (x * z) (y * w) := by
  have hb : y * w ≠ 0 := by intro q; rcases Int.mul_eq_zero.mp q with q | q <;> omega
  have c := f_cross (t := x * z) hb
  generalize fT (x * z) (y * w) = p at *
  generalize fB (x * z) (y * w) = q at *
  refine Int.eq_of_mul_eq_mul_right hb ?_
  have h : p * (B1 * B2) * (y * w) = (p * (y * w)) * (B1 * B2) := by grind
  rw [h, c]
  have h2 : x * z * q * (B1 * B2) = (x * B1) * (z * B2) * q := by grind
  rw [h2, e1, e2]; grind
theorem times_R {n a b T1 B1 T2 B2 : Int} (e1 : (a * B1 - T1) % n = 0) (e2 : (b * B2 - T2) % n = 0) : (a * b % n * (B1 * B2) - T1 * T2) % n = 0 := by
  obtain ⟨k1, h1⟩ := of_z e1
  obtain ⟨k2, h2⟩ := of_z e2
  obtain ⟨q, hq⟩ := md (a * b) n
  refine z_of (q * (B1 * B2) + k1 * (b * B2) + T1 * k2) ?_
  rw [hq]
  grind
theorem against_R {n a T B : Int} (e : (a * B - T) % n = 0) : (-a % n * B - -T) % n = 0 := by
  obtain ⟨k1, h1⟩ := of_z e
  obtain ⟨q, hq⟩ := md (-a) n
  refine z_of (q * B - k1) ?_
  rw [hq]
  grind
theorem imp_no0 {c : Int} {At : Hp → Addr → Prop} : ∀ vs H Q E, spNo c 0 At vs H Q E → spPair c 1 vs H Q E := fun _ _ _ _ ⟨p, e, _, k⟩ => ⟨.ref p, e, fun r _ e' h => k _ _ e' (is_0.mpr ⟨r, c, 1, rfl, h, by decide, gI_one c, rfl⟩)⟩
theorem imp_noR {c n : Int} (hn : Pr n) (c0 : 0 ≤ c) (c1 : c ≤ 1) {At : Hp → Addr → Prop} : ∀ vs H Q E, spNo c n At vs H Q E → spC (.int c) vs H Q E := fun _ _ _ _ ⟨p, e, _, k⟩ =>
  ⟨.ref p, e, k _ _ (Same.refl _) ((is_n (pr_ne hn)).mpr ⟨c, rfl, c0, by have := hn.1; omega, by simp⟩)⟩
theorem imp_pl0 {CF : Addr} : ∀ vs H Q E, spPl 0 (AtF CF) vs H Q E → spBinF CF (fun x y z w => x * w + z * y) (fun x y z w => y * w) vs H Q E := fun _ _ _ _ ⟨p, v1, v2, T1, B1, T2, B2, e, ⟨dx, ha⟩, i1, i2, z1, z2, s1, s2, k⟩ => by
  obtain ⟨r1, x, y, rfl, h1, hy, c1, q1⟩ := is_0.mp i1
  obtain ⟨r2, z, w, rfl, h2, hw, c2, q2⟩ := is_0.mp i2
  rw [zr_0] at z1 z2
  obtain ⟨a1, a2⟩ := cop_le hy c1 z1 q1
  obtain ⟨a3, a4⟩ := cop_le hw c2 z2 q2
  refine ⟨p, dx, r1, r2, x, y, z, w, e, ha, h1, h2, ⟨hy, Nat.lt_of_le_of_lt a1 (s1 rfl).1, Nat.lt_of_le_of_lt a2 (s1 rfl).2, c1⟩, ⟨hw, Nat.lt_of_le_of_lt a3 (s2 rfl).1, Nat.lt_of_le_of_lt a4 (s2 rfl).2, c2⟩, fun r H' e' h => k _ _ e' (is_0.mpr ⟨r, _, _, rfl, h, ?_, ?_, plus_F hy hw q1 q2⟩)⟩
  · exact fB_pos (by intro q; rcases Int.mul_eq_zero.mp q with q | q <;> omega)
  · exact f_cop (by intro q; rcases Int.mul_eq_zero.mp q with q | q <;> omega)
theorem imp_ti0 {CF : Addr} : ∀ vs H Q E, spTi 0 (AtF CF) vs H Q E → spBinF CF (fun x y z w => x * z) (fun x y z w => y * w) vs H Q E := fun _ _ _ _ ⟨p, v1, v2, T1, B1, T2, B2, e, ⟨dx, ha⟩, i1, i2, z1, z2, s1, s2, k⟩ => by
  obtain ⟨r1, x, y, rfl, h1, hy, c1, q1⟩ := is_0.mp i1
  obtain ⟨r2, z, w, rfl, h2, hw, c2, q2⟩ := is_0.mp i2
  rw [zr_0] at z1 z2
  obtain ⟨a1, a2⟩ := cop_le hy c1 z1 q1
  obtain ⟨a3, a4⟩ := cop_le hw c2 z2 q2
  refine ⟨p, dx, r1, r2, x, y, z, w, e, ha, h1, h2, ⟨hy, Nat.lt_of_le_of_lt a1 (s1 rfl).1, Nat.lt_of_le_of_lt a2 (s1 rfl).2, c1⟩, ⟨hw, Nat.lt_of_le_of_lt a3 (s2 rfl).1, Nat.lt_of_le_of_lt a4 (s2 rfl).2, c2⟩, fun r H' e' h => k _ _ e' (is_0.mpr ⟨r, _, _, rfl, h, ?_, ?_, times_F hy hw q1 q2⟩)⟩
  · exact fB_pos (by intro q; rcases Int.mul_eq_zero.mp q with q | q <;> omega)
  · exact f_cop (by intro q; rcases Int.mul_eq_zero.mp q with q | q <;> omega)
theorem imp_plR {CR : Addr} {n : Int} (hn : Pr n) : ∀ vs H Q E, spPl n (AtR CR n) vs H Q E → spBinR CR (fun n a b => (a + b) % n) vs H Q E := fun _ _ _ _ ⟨p, v1, v2, T1, B1, T2, B2, e, ⟨dx, ha⟩, i1, i2, z1, z2, s1, s2, k⟩ => by
  have n0 := pr_ne hn
  have p2 := hn.1
  obtain ⟨x, rfl, x0, x1, q1⟩ := (is_n n0).mp i1
  obtain ⟨y, rfl, y0, y1, q2⟩ := (is_n n0).mp i2
  exact ⟨p, dx, n, x, y, e, ha, ⟨x0, x1⟩, ⟨y0, y1⟩, k _ _ (Same.refl _) ((is_n n0).mpr ⟨_, rfl, Int.emod_nonneg _ n0, Int.emod_lt_of_pos _ (by omega), plus_R q1 q2⟩)⟩
theorem imp_tiR {CR : Addr} {n : Int} (hn : Pr n) : ∀ vs H Q E, spTi n (AtR CR n) vs H Q E → spBinR CR (fun n a b => a * b % n) vs H Q E := fun _ _ _ _ ⟨p, v1, v2, T1, B1, T2, B2, e, ⟨dx, ha⟩, i1, i2, z1, z2, s1, s2, k⟩ => by
  have n0 := pr_ne hn
  have p2 := hn.1
  obtain ⟨x, rfl, x0, x1, q1⟩ := (is_n n0).mp i1
  obtain ⟨y, rfl, y0, y1, q2⟩ := (is_n n0).mp i2
  exact ⟨p, dx, n, x, y, e, ha, ⟨x0, x1⟩, ⟨y0, y1⟩, k _ _ (Same.refl _) ((is_n n0).mpr ⟨_, rfl, Int.emod_nonneg _ n0, Int.emod_lt_of_pos _ (by omega), times_R q1 q2⟩)⟩
theorem imp_ag0 {At : Hp → Addr → Prop} : ∀ vs H Q E, spAg 0 At vs H Q E → spAgF vs H Q E := fun _ _ _ _ ⟨p, v, T, B, e, _, iv, k⟩ => by
  obtain ⟨r1, x, y, rfl, h1, hy, c1, q1⟩ := is_0.mp iv
  refine ⟨.ref p, r1, x, y, e, h1, fun r H' e' h => k _ _ e' (is_0.mpr ⟨r, _, _, rfl, h, hy, by rw [gI_neg]; exact c1, by grind⟩)⟩
theorem imp_agR {CR : Addr} {n : Int} (hn : Pr n) : ∀ vs H Q E, spAg n (AtR CR n) vs H Q E → spAgR CR vs H Q E := fun _ _ _ _ ⟨p, v, T, B, e, ⟨dx, ha⟩, iv, k⟩ => by
  have n0 := pr_ne hn
  have p2 := hn.1
  obtain ⟨x, rfl, x0, x1, q1⟩ := (is_n n0).mp iv
  exact ⟨p, dx, n, x, e, ha, ⟨x0, x1⟩, k _ _ (Same.refl _) ((is_n n0).mpr ⟨_, rfl, Int.emod_nonneg _ n0, Int.emod_lt_of_pos _ (by omega), against_R q1⟩)⟩
theorem fldQ_F {P : Program} {w : World} {K : PySem.W.Frag} {mg : Str → Option Value} {base : Heap} {CF CR : Addr} (h1 : MCal P w K mg base CX0 1 CF "nought" ["self"] [] (spNo 0 0 (AtF CF))) (h2 : MCal P w K mg base CX0 1 CF "one" ["self"] [] (spNo 1 0 (AtF CF)))
    (h3 : MCal P w K mg base CX0 3 CF "plus" ["self", "a", "b"] [] (spPl 0 (AtF CF))) (h4 : MCal P w K mg base CX0 3 CF "times" ["self", "a", "b"] [] (spTi 0 (AtF CF))) (h5 : MCal P w K mg base CX0 1 CF "against" ["self", "a"] [] (spAg 0 (AtF CF))) : FldQ P w K mg base CF (AtN CF CR 0) 0 := by
  have e : AtN CF CR 0 = AtF CF := if_pos rfl
  rw [e]
  exact ⟨fun k ⟨dx, h⟩ => ⟨dx, k _ _ h ⟨_, _, _, rfl⟩⟩, fun ⟨dx, h⟩ => ⟨dx, h⟩, h1, h2, h3, h4, h5⟩
theorem fldQ_R {P : Program} {w : World} {K : PySem.W.Frag} {mg : Str → Option Value} {base : Heap} {CF CR : Addr} {n : Int} (hn : Pr n) (h1 : MCal P w K mg base CX0 1 CR "nought" ["self"] [] (spNo 0 n (AtR CR n))) (h2 : MCal P w K mg base CX0 1 CR "one" ["self"] [] (spNo 1 n (AtR CR n)))
    (h3 : MCal P w K mg base CX0 3 CR "plus" ["self", "a", "b"] [] (spPl n (AtR CR n))) (h4 : MCal P w K mg base CX0 3 CR "times" ["self", "a", "b"] [] (spTi n (AtR CR n))) (h5 : MCal P w K mg base CX0 1 CR "against" ["self", "a"] [] (spAg n (AtR CR n))) : FldQ P w K mg base CR (AtN CF CR n) n := by
  have e : AtN CF CR n = AtR CR n := if_neg (pr_ne hn)
  rw [e]
  exact ⟨fun k ⟨dx, h⟩ => ⟨dx, k _ _ h.1 ⟨_, _, _, rfl⟩, h.2⟩, fun ⟨dx, h⟩ => ⟨dx, h.1⟩, h1, h2, h3, h4, h5⟩

end K10
namespace K10
open PySem L2
open K1 K2 K3 K6 K8
section
variable {P : Program} {w : World} {K : PySem.W.Frag} {mg : Str → Option Value} {base : Heap} {f : Addr} {fd : FuncData} {C_Ring C_Fractions C_Rests C_Tails : Addr} {E_NoPrime E_NoRing : Addr}
local macro_rules | `(tactic| walk_at "sd") => `(tactic| first
  | assumption | (dsimp only; omega) | (dsimp only; decide) | exact ⟨by decide, by decide⟩ | exact ⟨by decide, by decide, by decide⟩ | exact Or.inl ⟨by decide, by decide⟩ | exact ⟨by omega, by omega⟩ | exact Or.inl ⟨by omega, by omega⟩ | exact Or.inr ⟨by decide, by decide⟩ | exact Or.inr ⟨by omega, by omega⟩)
local macro_rules | `(tactic| walk_at "rd") => `(tactic| repeat first
  | refine ⟨_, rfl, ?_⟩ | refine ⟨_, _, rfl, rfl, ?_⟩ | refine And.intro rfl ?_ | refine And.intro (by walk_at "sd") ?_ | with_reducible refine iteT ?_ | with_reducible refine iteF ?_ | (apply ixT_of; assumption; rfl))
local macro_rules | `(tactic| walk_at "clo") => `(tactic| exact h)

theorem scShared : FnScope ["one", "other", "rest"] ["one", "other"] (defScope s_shared_divisor) := ⟨rfl, rfl, rfl, by decide +kernel, rfl, by decide +kernel, by decide +kernel⟩
set_option maxHeartbeats 4000000 in
theorem ok_Shared  (F : FunD K "shared_divisor" "shared_divisor" s_shared_divisor .none f fd) (T : Txt K mg C_Ring C_Fractions C_Rests C_Tails)   : FnOk P w K mg base CX0 1 f fd ["one", "other"] spShared := by
  refine F.okN (k := 0) scShared (fun vs H Q E h => ?_) (fun cdv A outer s H vs Q E hr h => ?_)
  · obtain ⟨a, b, rfl, _⟩ := h
    rfl
  obtain ⟨a, b, rfl, h⟩ := h
  refine ⟨_, (pss_cons (ps_while PassesOwn.never (pt_cmpR op_ne (pv 1) (pe_int) (nomark _)) (pss_cons (ps_set (i := 2) scShared.nd rfl (Or.inl rfl) (pe_op op_modN (pv 0) (pv 1)))
    (pss_cons (ps_set (i := 0) scShared.nd rfl (Or.inl rfl) (pv 1))
    (pss_one (ps_set (i := 1) scShared.nd rfl (Or.inl rfl) (pv 2))))))
    (pss_one (ps_ret (pv 0)))), ?_⟩
  obtain ⟨ha, hb, k⟩ := h
  refine ⟨fun m σ H' => ∃ (a' b' : Int) (v : Option V), m = b'.toNat ∧ σ = [some (.int a'), some (.int b'), v] ∧ H' = H ∧ 0 ≤ a' ∧ 0 ≤ b' ∧ Gc a b a' b', ⟨_, _, _, none, rfl, rfl, rfl, K1.start ha hb⟩, ?_⟩
  rintro m σ H' ⟨a', b', v, rfl, rfl, rfl, h1, h2, hg⟩
  walk_at "rd"
  refine cNe (fun c => ?_) (fun c => ?_)
  · refine ⟨fun σ' H'' => ∃ v', σ' = [some (.int b'), some (.int (a'.fmod b')), v'] ∧ H'' = H', ?_, ?_⟩
    · rintro σ' H'' ⟨v', rfl, rfl⟩
      exact ⟨(a'.fmod b').toNat, K1.less (by omega), _, _, v', rfl, rfl, rfl, K1.turn hg h1 (by omega)⟩
    · refine ⟨_, rfl, _, rfl, _, _, rfl, rfl, c, ?_⟩
      walk_at "rd"
      rfl
  · refine ⟨_, rfl, ?_⟩
    show Q (.int a') H'
    rw [K1.out hg h1 c]
    exact k
end
end K10
namespace K10
open PySem L2
open K1 K2 K3 K6 K8
section
variable {P : Program} {w : World} {K : PySem.W.Frag} {mg : Str → Option Value} {base : Heap} {f : Addr} {fd : FuncData} {C_Ring C_Fractions C_Rests C_Tails : Addr} {E_NoPrime E_NoRing : Addr}
local macro_rules | `(tactic| walk_at "sd") => `(tactic| first
  | assumption | (dsimp only; omega) | (dsimp only; decide) | exact ⟨by decide, by decide⟩ | exact ⟨by decide, by decide, by decide⟩ | exact Or.inl ⟨by decide, by decide⟩ | exact ⟨by omega, by omega⟩ | exact Or.inl ⟨by omega, by omega⟩ | exact Or.inr ⟨by decide, by decide⟩ | exact Or.inr ⟨by omega, by omega⟩)
local macro_rules | `(tactic| walk_at "rd") => `(tactic| repeat first
  | refine ⟨_, rfl, ?_⟩ | refine ⟨_, _, rfl, rfl, ?_⟩ | refine And.intro rfl ?_ | refine And.intro (by walk_at "sd") ?_ | with_reducible refine iteT ?_ | with_reducible refine iteF ?_ | (apply ixT_of; assumption; rfl))
local macro_rules | `(tactic| walk_at "clo") => `(tactic| exact h)

theorem scPrime : FnScope ["number", "divisor"] ["number"] (defScope s_is_prime) := ⟨rfl, rfl, rfl, by decide +kernel, rfl, by decide +kernel, by decide +kernel⟩
set_option maxHeartbeats 4000000 in
theorem ok_Prime  (F : FunD K "is_prime" "is_prime" s_is_prime .none f fd) (T : Txt K mg C_Ring C_Fractions C_Rests C_Tails)   : FnOk P w K mg base CX0 1 f fd ["number"] spPrime := by
  refine F.okN (k := 0) scPrime (fun vs H Q E h => ?_) (fun cdv A outer s H vs Q E hr h => ?_)
  · obtain ⟨n, rfl, _⟩ := h
    rfl
  obtain ⟨n, rfl, h⟩ := h
  refine ⟨_, (pss_cons (ps_if (pt_cmpR op_lt (pv 0) (pe_int) (nomark _)) (pss_one (ps_ret (pe_bl))) pss_nil)
    (pss_cons (ps_set (i := 1) scPrime.nd rfl (Or.inl rfl) (pe_int))
    (pss_cons (ps_while PassesOwn.never (pt_cmpR op_le (pe_op op_mul (pv 1) (pv 1)) (pv 0) (nomark _)) (pss_cons (ps_if (pt_cmpR op_eq (pe_op op_modN (pv 0) (pv 1)) (pe_int) (nomark _)) (pss_one (ps_ret (pe_bl))) pss_nil)
    (pss_one (ps_aug (i := 1) scPrime.nd rfl (Or.inl rfl) (pe_int) ip_add))))
    (pss_one (ps_ret (pe_bl)))))), ?_⟩
  obtain ⟨hn, k⟩ := h
  walk_at "rd"
  refine cD (fun c => ?_) (fun c => ?_)
  · show Q (.bl false) H
    rw [low c]
    exact k
  refine ⟨fun m σ H' => ∃ d : Int, m = (200 - d).toNat ∧ σ = [some (.int n), some (.int d)] ∧ H' = H ∧ 2 ≤ d ∧ d ≤ 101 ∧ NoDiv n d, ⟨_, 2, rfl, rfl, rfl, K3.start n⟩, ?_⟩
  rintro m σ H' ⟨d, rfl, rfl, rfl, h2, h3, hd⟩
  refine ⟨_, rfl, _, rfl, _, _, rfl, rfl, .inl (sq_small (n := n) h2 h3), ?_⟩
  walk_at "rd"
  refine cD (fun q => ?_) (fun q => ?_)
  · refine ⟨fun σ' H'' => σ' = [some (.int n), some (.int (d + 1))] ∧ H'' = H' ∧ ¬ Int.fmod n d = 0, ?_, ?_⟩
    · rintro σ' H'' ⟨rfl, rfl, nz⟩
      exact ⟨(200 - (d + 1)).toNat, K3.less h2 q hn, d + 1, rfl, rfl, rfl, K3.turn hd nz h2 q hn⟩
    · refine ⟨_, rfl, _, rfl, _, _, rfl, rfl, (by show d ≠ 0; omega), ?_⟩
      walk_at "rd"
      refine cEq (fun z => ?_) (fun z => ?_)
      · show Q (.bl false) H'
        rw [found h2 q z]
        exact k
      · walk_at "rd"
        exact z
  · show Q (.bl true) H'
    rw [K3.out hd (by omega) h2 q]
    exact k
end
end K10
namespace K10
open PySem L2
open K1 K2 K3 K6 K8
section
variable {P : Program} {w : World} {K : PySem.W.Frag} {mg : Str → Option Value} {base : Heap} {f : Addr} {fd : FuncData} {C_Ring C_Fractions C_Rests C_Tails : Addr} {E_NoPrime E_NoRing : Addr}
local macro_rules | `(tactic| walk_at "sd") => `(tactic| first
  | assumption | (dsimp only; omega) | (dsimp only; decide) | exact ⟨by decide, by decide⟩ | exact ⟨by decide, by decide, by decide⟩ | exact Or.inl ⟨by decide, by decide⟩ | exact ⟨by omega, by omega⟩ | exact Or.inl ⟨by omega, by omega⟩ | exact Or.inr ⟨by decide, by decide⟩ | exact Or.inr ⟨by omega, by omega⟩)
local macro_rules | `(tactic| walk_at "rd") => `(tactic| repeat first
  | refine ⟨_, rfl, ?_⟩ | refine ⟨_, _, rfl, rfl, ?_⟩ | refine And.intro rfl ?_ | refine And.intro (by walk_at "sd") ?_ | with_reducible refine iteT ?_ | with_reducible refine iteF ?_ | (apply ixT_of; assumption; rfl))
local macro_rules | `(tactic| walk_at "clo") => `(tactic| exact h)

theorem scFieldInit : FnScope ["self", "prime"] ["self", "prime"] (defScope s_Field___init__) := ⟨rfl, rfl, rfl, by decide +kernel, rfl, by decide +kernel, by decide +kernel⟩
set_option maxHeartbeats 4000000 in
theorem ok_FieldInit  (F : FunD K "__init__" "Field.__init__" s_Field___init__ .none f fd) (T : Txt K mg C_Ring C_Fractions C_Rests C_Tails)   : FnOk P w K mg base CX0 1 f fd ["self", "prime"] (spField K) := by
  refine F.okN (k := 0) scFieldInit (fun vs H Q E h => ?_) (fun cdv A outer s H vs Q E hr h => ?_)
  · obtain ⟨p, C, dx, v, rfl, _⟩ := h
    rfl
  obtain ⟨p, C, dx, v, rfl, h⟩ := h
  refine ⟨_, (pss_one (ps_fld (pv 0) (pv 1) rfl)), ?_⟩
  obtain ⟨hp, hc, ha, k⟩ := h
  exact ⟨_, rfl, _, rfl, p, C, dx, [], rfl, hp, hc, ha, (by show 0 < 1000; decide), k⟩
end
end K10
namespace K10
open PySem L2
open K1 K2 K3 K6 K8
section
variable {P : Program} {w : World} {K : PySem.W.Frag} {mg : Str → Option Value} {base : Heap} {f : Addr} {fd : FuncData} {C_Ring C_Fractions C_Rests C_Tails : Addr} {E_NoPrime E_NoRing : Addr}
local macro_rules | `(tactic| walk_at "sd") => `(tactic| first
  | assumption | (dsimp only; omega) | (dsimp only; decide) | exact ⟨by decide, by decide⟩ | exact ⟨by decide, by decide, by decide⟩ | exact Or.inl ⟨by decide, by decide⟩ | exact ⟨by omega, by omega⟩ | exact Or.inl ⟨by omega, by omega⟩ | exact Or.inr ⟨by decide, by decide⟩ | exact Or.inr ⟨by omega, by omega⟩)
local macro_rules | `(tactic| walk_at "rd") => `(tactic| repeat first
  | refine ⟨_, rfl, ?_⟩ | refine ⟨_, _, rfl, rfl, ?_⟩ | refine And.intro rfl ?_ | refine And.intro (by walk_at "sd") ?_ | with_reducible refine iteT ?_ | with_reducible refine iteF ?_ | (apply ixT_of; assumption; rfl))
local macro_rules | `(tactic| walk_at "clo") => `(tactic| exact h)

theorem scFracInit : FnScope ["self"] ["self"] (defScope s_Fractions___init__) := ⟨rfl, rfl, rfl, by decide +kernel, rfl, by decide +kernel, by decide +kernel⟩
set_option maxHeartbeats 4000000 in
theorem ok_FracInit  (F : FunD K "__init__" "Fractions.__init__" s_Fractions___init__ .none f fd) (T : Txt K mg C_Ring C_Fractions C_Rests C_Tails) (q_FieldInit : CCal P w K mg base CX0 1 "Field" "__init__" ["self", "prime"] [] (spField K))  : FnOk P w K mg base CX0 2 f fd ["self"] (spFracInit C_Fractions) := by
  refine F.okN (k := 1) scFracInit (fun vs H Q E h => ?_) (fun cdv A outer s H vs Q E hr h => ?_)
  · obtain ⟨p, dx, rfl, _⟩ := h
    rfl
  obtain ⟨p, dx, rfl, h⟩ := h
  refine ⟨_, (pss_one (ps_expr (pe_cm q_FieldInit hr pass00 .nil ((pa_cons (pv 0) (pa_cons (pe_int) pa_nil)))))), ?_⟩
  obtain ⟨hp, k⟩ := h
  exact ⟨_, rfl, p, _, dx, _, rfl, hp, T.cl_Fractions, T.na_Fractions_prime, k⟩
end
end K10
namespace K10
open PySem L2
open K1 K2 K3 K6 K8
section
variable {P : Program} {w : World} {K : PySem.W.Frag} {mg : Str → Option Value} {base : Heap} {f : Addr} {fd : FuncData} {C_Ring C_Fractions C_Rests C_Tails : Addr} {E_NoPrime E_NoRing : Addr}
local macro_rules | `(tactic| walk_at "sd") => `(tactic| first
  | assumption | (dsimp only; omega) | (dsimp only; decide) | exact ⟨by decide, by decide⟩ | exact ⟨by decide, by decide, by decide⟩ | exact Or.inl ⟨by decide, by decide⟩ | exact ⟨by omega, by omega⟩ | exact Or.inl ⟨by omega, by omega⟩ | exact Or.inr ⟨by decide, by decide⟩ | exact Or.inr ⟨by omega, by omega⟩)
local macro_rules | `(tactic| walk_at "rd") => `(tactic| repeat first
  | refine ⟨_, rfl, ?_⟩ | refine ⟨_, _, rfl, rfl, ?_⟩ | refine And.intro rfl ?_ | refine And.intro (by walk_at "sd") ?_ | with_reducible refine iteT ?_ | with_reducible refine iteF ?_ | (apply ixT_of; assumption; rfl))
local macro_rules | `(tactic| walk_at "clo") => `(tactic| exact h)

theorem scNought : FnScope ["self"] ["self"] (defScope s_Fractions_nought) := ⟨rfl, rfl, rfl, by decide +kernel, rfl, by decide +kernel, by decide +kernel⟩
set_option maxHeartbeats 4000000 in
theorem ok_Nought  (F : FunD K "nought" "Fractions.nought" s_Fractions_nought .none f fd) (T : Txt K mg C_Ring C_Fractions C_Rests C_Tails)   : FnOk P w K mg base CX0 1 f fd ["self"] (spPair 0 1) := by
  refine F.okN (k := 0) scNought (fun vs H Q E h => ?_) (fun cdv A outer s H vs Q E hr h => ?_)
  · obtain ⟨p, rfl, _⟩ := h
    rfl
  obtain ⟨p, rfl, h⟩ := h
  refine ⟨_, (pss_one (ps_ret (pe_tup ((pa_cons (pe_int) (pa_cons (pe_int) pa_nil)))))), ?_⟩
  exact ⟨(by show 2 ≤ sizeLine; decide), fun r hr' => h r _ (Same.upd hr') upd_same⟩
end
end K10
namespace K10
open PySem L2
open K1 K2 K3 K6 K8
section
variable {P : Program} {w : World} {K : PySem.W.Frag} {mg : Str → Option Value} {base : Heap} {f : Addr} {fd : FuncData} {C_Ring C_Fractions C_Rests C_Tails : Addr} {E_NoPrime E_NoRing : Addr}
local macro_rules | `(tactic| walk_at "sd") => `(tactic| first
  | assumption | (dsimp only; omega) | (dsimp only; decide) | exact ⟨by decide, by decide⟩ | exact ⟨by decide, by decide, by decide⟩ | exact Or.inl ⟨by decide, by decide⟩ | exact ⟨by omega, by omega⟩ | exact Or.inl ⟨by omega, by omega⟩ | exact Or.inr ⟨by decide, by decide⟩ | exact Or.inr ⟨by omega, by omega⟩)
local macro_rules | `(tactic| walk_at "rd") => `(tactic| repeat first
  | refine ⟨_, rfl, ?_⟩ | refine ⟨_, _, rfl, rfl, ?_⟩ | refine And.intro rfl ?_ | refine And.intro (by walk_at "sd") ?_ | with_reducible refine iteT ?_ | with_reducible refine iteF ?_ | (apply ixT_of; assumption; rfl))
local macro_rules | `(tactic| walk_at "clo") => `(tactic| exact h)

theorem scOne : FnScope ["self"] ["self"] (defScope s_Fractions_one) := ⟨rfl, rfl, rfl, by decide +kernel, rfl, by decide +kernel, by decide +kernel⟩
set_option maxHeartbeats 4000000 in
theorem ok_One  (F : FunD K "one" "Fractions.one" s_Fractions_one .none f fd) (T : Txt K mg C_Ring C_Fractions C_Rests C_Tails)   : FnOk P w K mg base CX0 1 f fd ["self"] (spPair 1 1) := by
  refine F.okN (k := 0) scOne (fun vs H Q E h => ?_) (fun cdv A outer s H vs Q E hr h => ?_)
  · obtain ⟨p, rfl, _⟩ := h
    rfl
  obtain ⟨p, rfl, h⟩ := h
  refine ⟨_, (pss_one (ps_ret (pe_tup ((pa_cons (pe_int) (pa_cons (pe_int) pa_nil)))))), ?_⟩
  exact ⟨(by show 2 ≤ sizeLine; decide), fun r hr' => h r _ (Same.upd hr') upd_same⟩
end
end K10
namespace K10
open PySem L2
open K1 K2 K3 K6 K8
section
variable {P : Program} {w : World} {K : PySem.W.Frag} {mg : Str → Option Value} {base : Heap} {f : Addr} {fd : FuncData} {C_Ring C_Fractions C_Rests C_Tails : Addr} {E_NoPrime E_NoRing : Addr}
local macro_rules | `(tactic| walk_at "sd") => `(tactic| first
  | assumption | (dsimp only; omega) | (dsimp only; decide) | exact ⟨by decide, by decide⟩ | exact ⟨by decide, by decide, by decide⟩ | exact Or.inl ⟨by decide, by decide⟩ | exact ⟨by omega, by omega⟩ | exact Or.inl ⟨by omega, by omega⟩ | exact Or.inr ⟨by decide, by decide⟩ | exact Or.inr ⟨by omega, by omega⟩)
local macro_rules | `(tactic| walk_at "rd") => `(tactic| repeat first
  | refine ⟨_, rfl, ?_⟩ | refine ⟨_, _, rfl, rfl, ?_⟩ | refine And.intro rfl ?_ | refine And.intro (by walk_at "sd") ?_ | with_reducible refine iteT ?_ | with_reducible refine iteF ?_ | (apply ixT_of; assumption; rfl))
local macro_rules | `(tactic| walk_at "clo") => `(tactic| exact h)

theorem scPlusF : FnScope ["self", "a", "b", "shared", "top", "further"] ["self", "a", "b"] (defScope s_Fractions_plus) := ⟨rfl, rfl, rfl, by decide +kernel, rfl, by decide +kernel, by decide +kernel⟩
set_option maxHeartbeats 4000000 in
theorem ok_PlusF  (F : FunD K "plus" "Fractions.plus" s_Fractions_plus .none f fd) (T : Txt K mg C_Ring C_Fractions C_Rests C_Tails) (c_Shared : Cal P w K mg base CX0 1 "shared_divisor" ["one", "other"] [] spShared)  : FnOk P w K mg base CX0 2 f fd ["self", "a", "b"] (spBinF C_Fractions (fun x y z w => x * w + z * y) (fun x y z w => y * w)) := by
  refine F.okN (k := 1) scPlusF (fun vs H Q E h => ?_) (fun cdv A outer s H vs Q E hr h => ?_)
  · obtain ⟨p, dx, ra, rb, x, y, z, w, rfl, _⟩ := h
    rfl
  obtain ⟨p, dx, ra, rb, x, y, z, w, rfl, h⟩ := h
  refine ⟨_, (pss_cons (ps_if (PW.pt (pw_and (pt_cmpR op_eq (pe_ix (r := rIxT K) ix_tup (pv 1) (pe_int) (fun _ _ => rfl)) (pe_int) (nomark _)) (pw_and1 (pt_cmpR op_eq (pe_ix (r := rIxT K) ix_tup (pv 2) (pe_int) (fun _ _ => rfl)) (pe_int) (nomark _))))) (pss_one (ps_ret (pe_tup ((pa_cons (pe_op op_add (pe_ix (r := rIxT K) ix_tup (pv 1) (pe_int) (fun _ _ => rfl)) (pe_ix (r := rIxT K) ix_tup (pv 2) (pe_int) (fun _ _ => rfl))) (pa_cons (pe_int) pa_nil)))))) pss_nil)
    (pss_cons (ps_set (i := 3) scPlusF.nd rfl (Or.inl rfl) (pe_c c_Shared hr pass00 .nil ((pa_cons (pe_ix (r := rIxT K) ix_tup (pv 1) (pe_int) (fun _ _ => rfl)) (pa_cons (pe_ix (r := rIxT K) ix_tup (pv 2) (pe_int) (fun _ _ => rfl)) pa_nil)))))
    (pss_cons (ps_set (i := 4) scPlusF.nd rfl (Or.inl rfl) (pe_op op_add (pe_op op_mulB (pe_ix (r := rIxT K) ix_tup (pv 1) (pe_int) (fun _ _ => rfl)) (pe_op op_fdivB (pe_ix (r := rIxT K) ix_tup (pv 2) (pe_int) (fun _ _ => rfl)) (pv 3))) (pe_op op_mulB (pe_ix (r := rIxT K) ix_tup (pv 2) (pe_int) (fun _ _ => rfl)) (pe_op op_fdivB (pe_ix (r := rIxT K) ix_tup (pv 1) (pe_int) (fun _ _ => rfl)) (pv 3)))))
    (pss_cons (ps_set (i := 5) scPlusF.nd rfl (Or.inl rfl) (pe_c c_Shared hr pass00 .nil ((pa_cons (pe_callB call_abs rfl T.b_abs (by kernel_rfl) ((pa_cons (pv 4) pa_nil))) (pa_cons (pv 3) pa_nil)))))
    (pss_one (ps_ret (pe_tup ((pa_cons (pe_op op_fdivB (pv 4) (pv 5)) (pa_cons (pe_op op_mulB (pe_op op_fdivB (pe_ix (r := rIxT K) ix_tup (pv 1) (pe_int) (fun _ _ => rfl)) (pv 3)) (pe_op op_fdivB (pe_ix (r := rIxT K) ix_tup (pv 2) (pe_int) (fun _ _ => rfl)) (pv 5))) pa_nil)))))))))), ?_⟩
  obtain ⟨hp, ha, hb, na, nb, k⟩ := h
  have y0 : y ≠ 0 := by have := na.pos; omega
  have w0 : w ≠ 0 := by have := nb.pos; omega
  have yp := na.pos
  have wp := nb.pos
  have A := SqT.of (K := K) ha
  have B := SqT.of (K := K) hb
  obtain ⟨m1, m2, m3, m4, m5⟩ := na.mul nb
  obtain ⟨u1, u2⟩ := plus_low yp wp na.cop nb.cop
  have g0 := gI_bd (a := y) w0 nb.bz
  have gy := gI_nonneg y w
  have d1 : CDivB w (gI y w) := ⟨g0.1, up g0.2 (by decide)⟩
  have d2 : CDivB y (gI y w) := ⟨g0.1, up g0.2 (by decide)⟩
  have e1 := fdr (a := y) w0 nb.bz
  have e2 := fdl (b := w) w0 na.bz
  have n1 : CMulB x (Int.fdiv w (gI y w)) := ⟨up na.bx (by decide), up e1 (by decide)⟩
  have n2 : CMulB z (Int.fdiv y (gI y w)) := ⟨up nb.bx (by decide), up e2 (by decide)⟩
  have f0 := gI_bd (a := x * Int.fdiv w (gI y w) + z * Int.fdiv y (gI y w)) g0.1 g0.2
  have dw : gI (x * Int.fdiv w (gI y w) + z * Int.fdiv y (gI y w)) (gI y w) ∣ w := Int.dvd_trans (gI_dvd_r _ _) (gI_dvd_r _ _)
  have d3 : CDivB (x * Int.fdiv w (gI y w) + z * Int.fdiv y (gI y w)) (gI (x * Int.fdiv w (gI y w) + z * Int.fdiv y (gI y w)) (gI y w)) := ⟨f0.1, up f0.2 (by decide)⟩
  have d4 : CDivB w (gI (x * Int.fdiv w (gI y w) + z * Int.fdiv y (gI y w)) (gI y w)) := ⟨f0.1, up f0.2 (by decide)⟩
  have n3 : CMulB (Int.fdiv y (gI y w)) (Int.fdiv w (gI (x * Int.fdiv w (gI y w) + z * Int.fdiv y (gI y w)) (gI y w))) := ⟨up e2 (by decide), up (Nat.lt_of_le_of_lt (fd_le dw f0.1) nb.bz) (by decide)⟩
  walk_at "rd"
  refine cEq (fun c1 => ?_) (fun c1 => ?_)
  · walk_at "rd"
    refine cEq (fun c2 => ?_) (fun c2 => ?_)
    · walk_at "rd"
      refine ⟨(by show 2 ≤ sizeLine; decide), fun r hr' => ?_⟩
      refine k r _ (Same.upd hr') ?_
      subst c1 c2
      simp only [Int.mul_one, (f_one _).1, (f_one _).2]
      exact upd_same
    · walk_at "rd"
      refine ⟨_, _, rfl, by omega, by omega, ?_⟩
      walk_at "rd"
      refine ⟨_, _, rfl, by split <;> omega, gy, ?_⟩
      rw [gI_abs1]
      walk_at "rd"
      refine ⟨(by show 2 ≤ sizeLine; decide), fun r hr' => ?_⟩
      refine k r _ (Same.upd hr') ?_
      show _ = some (HO.tup [V.int (fT (x * w + z * y) (y * w)), V.int (fB (x * w + z * y) (y * w))])
      rw [← u1, ← u2]
      exact upd_same
  · walk_at "rd"
    refine ⟨_, _, rfl, by omega, by omega, ?_⟩
    walk_at "rd"
    refine ⟨_, _, rfl, by split <;> omega, gy, ?_⟩
    rw [gI_abs1]
    walk_at "rd"
    refine ⟨(by show 2 ≤ sizeLine; decide), fun r hr' => ?_⟩
    refine k r _ (Same.upd hr') ?_
    show _ = some (HO.tup [V.int (fT (x * w + z * y) (y * w)), V.int (fB (x * w + z * y) (y * w))])
    rw [← u1, ← u2]
    exact upd_same
end
end K10
namespace K10
open PySem L2
open K1 K2 K3 K6 K8
section
variable {P : Program} {w : World} {K : PySem.W.Frag} {mg : Str → Option Value} {base : Heap} {f : Addr} {fd : FuncData} {C_Ring C_Fractions C_Rests C_Tails : Addr} {E_NoPrime E_NoRing : Addr}
local macro_rules | `(tactic| walk_at "sd") => `(tactic| first
  | assumption | (dsimp only; omega) | (dsimp only; decide) | exact ⟨by decide, by decide⟩ | exact ⟨by decide, by decide, by decide⟩ | exact Or.inl ⟨by decide, by decide⟩ | exact ⟨by omega, by omega⟩ | exact Or.inl ⟨by omega, by omega⟩ | exact Or.inr ⟨by decide, by decide⟩ | exact Or.inr ⟨by omega, by omega⟩)
local macro_rules | `(tactic| walk_at "rd") => `(tactic| repeat first
  | refine ⟨_, rfl, ?_⟩ | refine ⟨_, _, rfl, rfl, ?_⟩ | refine And.intro rfl ?_ | refine And.intro (by walk_at "sd") ?_ | with_reducible refine iteT ?_ | with_reducible refine iteF ?_ | (apply ixT_of; assumption; rfl))
local macro_rules | `(tactic| walk_at "clo") => `(tactic| exact h)

theorem scTimesF : FnScope ["self", "a", "b", "one", "other"] ["self", "a", "b"] (defScope s_Fractions_times) := ⟨rfl, rfl, rfl, by decide +kernel, rfl, by decide +kernel, by decide +kernel⟩
set_option maxHeartbeats 4000000 in
theorem ok_TimesF  (F : FunD K "times" "Fractions.times" s_Fractions_times .none f fd) (T : Txt K mg C_Ring C_Fractions C_Rests C_Tails) (c_Shared : Cal P w K mg base CX0 1 "shared_divisor" ["one", "other"] [] spShared)  : FnOk P w K mg base CX0 2 f fd ["self", "a", "b"] (spBinF C_Fractions (fun x y z w => x * z) (fun x y z w => y * w)) := by
  refine F.okN (k := 1) scTimesF (fun vs H Q E h => ?_) (fun cdv A outer s H vs Q E hr h => ?_)
  · obtain ⟨p, dx, ra, rb, x, y, z, w, rfl, _⟩ := h
    rfl
  obtain ⟨p, dx, ra, rb, x, y, z, w, rfl, h⟩ := h
  refine ⟨_, (pss_cons (ps_if (PW.pt (pw_and (pt_cmpR op_eq (pe_ix (r := rIxT K) ix_tup (pv 1) (pe_int) (fun _ _ => rfl)) (pe_int) (nomark _)) (pw_and1 (pt_cmpR op_eq (pe_ix (r := rIxT K) ix_tup (pv 2) (pe_int) (fun _ _ => rfl)) (pe_int) (nomark _))))) (pss_one (ps_ret (pe_tup ((pa_cons (pe_op op_mulB (pe_ix (r := rIxT K) ix_tup (pv 1) (pe_int) (fun _ _ => rfl)) (pe_ix (r := rIxT K) ix_tup (pv 2) (pe_int) (fun _ _ => rfl))) (pa_cons (pe_int) pa_nil)))))) pss_nil)
    (pss_cons (ps_set (i := 3) scTimesF.nd rfl (Or.inl rfl) (pe_c c_Shared hr pass00 .nil ((pa_cons (pe_callB call_abs rfl T.b_abs (by kernel_rfl) ((pa_cons (pe_ix (r := rIxT K) ix_tup (pv 1) (pe_int) (fun _ _ => rfl)) pa_nil))) (pa_cons (pe_ix (r := rIxT K) ix_tup (pv 2) (pe_int) (fun _ _ => rfl)) pa_nil)))))
    (pss_cons (ps_set (i := 4) scTimesF.nd rfl (Or.inl rfl) (pe_c c_Shared hr pass00 .nil ((pa_cons (pe_callB call_abs rfl T.b_abs (by kernel_rfl) ((pa_cons (pe_ix (r := rIxT K) ix_tup (pv 2) (pe_int) (fun _ _ => rfl)) pa_nil))) (pa_cons (pe_ix (r := rIxT K) ix_tup (pv 1) (pe_int) (fun _ _ => rfl)) pa_nil)))))
    (pss_one (ps_ret (pe_tup ((pa_cons (pe_op op_mulB (pe_op op_fdivB (pe_ix (r := rIxT K) ix_tup (pv 1) (pe_int) (fun _ _ => rfl)) (pv 3)) (pe_op op_fdivB (pe_ix (r := rIxT K) ix_tup (pv 2) (pe_int) (fun _ _ => rfl)) (pv 4))) (pa_cons (pe_op op_mulB (pe_op op_fdivB (pe_ix (r := rIxT K) ix_tup (pv 1) (pe_int) (fun _ _ => rfl)) (pv 4)) (pe_op op_fdivB (pe_ix (r := rIxT K) ix_tup (pv 2) (pe_int) (fun _ _ => rfl)) (pv 3))) pa_nil))))))))), ?_⟩
  obtain ⟨hp, ha, hb, na, nb, k⟩ := h
  have y0 : y ≠ 0 := by have := na.pos; omega
  have w0 : w ≠ 0 := by have := nb.pos; omega
  have yp := na.pos
  have wp := nb.pos
  have A := SqT.of (K := K) ha
  have B := SqT.of (K := K) hb
  obtain ⟨m1, m2, m3, m4, m5⟩ := na.mul nb
  obtain ⟨u1, u2⟩ := times_low yp wp na.cop nb.cop
  have g1 := gI_bd (a := x) w0 nb.bz
  have g2 := gI_bd (a := z) y0 na.bz
  have d1 : CDivB x (gI x w) := ⟨g1.1, up g1.2 (by decide)⟩
  have d2 : CDivB z (gI z y) := ⟨g2.1, up g2.2 (by decide)⟩
  have d3 : CDivB y (gI z y) := ⟨g2.1, up g2.2 (by decide)⟩
  have d4 : CDivB w (gI x w) := ⟨g1.1, up g1.2 (by decide)⟩
  have n1 : CMulB (Int.fdiv x (gI x w)) (Int.fdiv z (gI z y)) := ⟨up (fdl w0 na.bx) (by decide), up (fdl y0 nb.bx) (by decide)⟩
  have n2 : CMulB (Int.fdiv y (gI z y)) (Int.fdiv w (gI x w)) := ⟨up (fdr y0 na.bz) (by decide), up (fdr w0 nb.bz) (by decide)⟩
  walk_at "rd"
  refine cEq (fun c1 => ?_) (fun c1 => ?_)
  · walk_at "rd"
    refine cEq (fun c2 => ?_) (fun c2 => ?_)
    · walk_at "rd"
      refine ⟨(by show 2 ≤ sizeLine; decide), fun r hr' => ?_⟩
      refine k r _ (Same.upd hr') ?_
      subst c1 c2
      simp only [Int.mul_one, (f_one _).1, (f_one _).2]
      exact upd_same
    · walk_at "rd"
      refine ⟨_, _, rfl, by split <;> omega, by omega, ?_⟩
      rw [gI_abs1]
      walk_at "rd"
      refine ⟨_, _, rfl, by split <;> omega, by omega, ?_⟩
      rw [gI_abs1]
      walk_at "rd"
      refine ⟨(by show 2 ≤ sizeLine; decide), fun r hr' => ?_⟩
      refine k r _ (Same.upd hr') ?_
      show _ = some (HO.tup [V.int (fT (x * z) (y * w)), V.int (fB (x * z) (y * w))])
      rw [← u1, ← u2]
      exact upd_same
  · walk_at "rd"
    refine ⟨_, _, rfl, by split <;> omega, by omega, ?_⟩
    rw [gI_abs1]
    walk_at "rd"
    refine ⟨_, _, rfl, by split <;> omega, by omega, ?_⟩
    rw [gI_abs1]
    walk_at "rd"
    refine ⟨(by show 2 ≤ sizeLine; decide), fun r hr' => ?_⟩
    refine k r _ (Same.upd hr') ?_
    show _ = some (HO.tup [V.int (fT (x * z) (y * w)), V.int (fB (x * z) (y * w))])
    rw [← u1, ← u2]
    exact upd_same
end
end K10
namespace K10
open PySem L2
open K1 K2 K3 K6 K8
section
variable {P : Program} {w : World} {K : PySem.W.Frag} {mg : Str → Option Value} {base : Heap} {f : Addr} {fd : FuncData} {C_Ring C_Fractions C_Rests C_Tails : Addr} {E_NoPrime E_NoRing : Addr}
local macro_rules | `(tactic| walk_at "sd") => `(tactic| first
  | assumption | (dsimp only; omega) | (dsimp only; decide) | exact ⟨by decide, by decide⟩ | exact ⟨by decide, by decide, by decide⟩ | exact Or.inl ⟨by decide, by decide⟩ | exact ⟨by omega, by omega⟩ | exact Or.inl ⟨by omega, by omega⟩ | exact Or.inr ⟨by decide, by decide⟩ | exact Or.inr ⟨by omega, by omega⟩)
local macro_rules | `(tactic| walk_at "rd") => `(tactic| repeat first
  | refine ⟨_, rfl, ?_⟩ | refine ⟨_, _, rfl, rfl, ?_⟩ | refine And.intro rfl ?_ | refine And.intro (by walk_at "sd") ?_ | with_reducible refine iteT ?_ | with_reducible refine iteF ?_ | (apply ixT_of; assumption; rfl))
local macro_rules | `(tactic| walk_at "clo") => `(tactic| exact h)

theorem scAgF : FnScope ["self", "a"] ["self", "a"] (defScope s_Fractions_against) := ⟨rfl, rfl, rfl, by decide +kernel, rfl, by decide +kernel, by decide +kernel⟩
set_option maxHeartbeats 4000000 in
theorem ok_AgF  (F : FunD K "against" "Fractions.against" s_Fractions_against .none f fd) (T : Txt K mg C_Ring C_Fractions C_Rests C_Tails)   : FnOk P w K mg base CX0 1 f fd ["self", "a"] spAgF := by
  refine F.okN (k := 0) scAgF (fun vs H Q E h => ?_) (fun cdv A outer s H vs Q E hr h => ?_)
  · obtain ⟨p, ra, x, y, rfl, _⟩ := h
    rfl
  obtain ⟨p, ra, x, y, rfl, h⟩ := h
  refine ⟨_, (pss_one (ps_ret (pe_tup ((pa_cons (pe_un un_neg (pe_ix (r := rIxT K) ix_tup (pv 1) (pe_int) (fun _ _ => rfl))) (pa_cons (pe_ix (r := rIxT K) ix_tup (pv 1) (pe_int) (fun _ _ => rfl)) pa_nil)))))), ?_⟩
  obtain ⟨ha, k⟩ := h
  refine ⟨_, rfl, ra, _, _, _, rfl, rfl, SqT.of ha, rfl, _, rfl, _, rfl, ra, _, _, _, rfl, rfl, SqT.of ha, rfl, (by show 2 ≤ sizeLine; decide), fun r hr' => ?_⟩
  exact k r _ (Same.upd hr') upd_same
end
end K10
namespace K10
open PySem L2
open K1 K2 K3 K6 K8
section
variable {P : Program} {w : World} {K : PySem.W.Frag} {mg : Str → Option Value} {base : Heap} {f : Addr} {fd : FuncData} {C_Ring C_Fractions C_Rests C_Tails : Addr} {E_NoPrime E_NoRing : Addr}
local macro_rules | `(tactic| walk_at "sd") => `(tactic| first
  | assumption | (dsimp only; omega) | (dsimp only; decide) | exact ⟨by decide, by decide⟩ | exact ⟨by decide, by decide, by decide⟩ | exact Or.inl ⟨by decide, by decide⟩ | exact ⟨by omega, by omega⟩ | exact Or.inl ⟨by omega, by omega⟩ | exact Or.inr ⟨by decide, by decide⟩ | exact Or.inr ⟨by omega, by omega⟩)
local macro_rules | `(tactic| walk_at "rd") => `(tactic| repeat first
  | refine ⟨_, rfl, ?_⟩ | refine ⟨_, _, rfl, rfl, ?_⟩ | refine And.intro rfl ?_ | refine And.intro (by walk_at "sd") ?_ | with_reducible refine iteT ?_ | with_reducible refine iteF ?_ | (apply ixT_of; assumption; rfl))
local macro_rules | `(tactic| walk_at "clo") => `(tactic| exact h)

theorem scRestsInit : FnScope ["self", "prime"] ["self", "prime"] (defScope s_Rests___init__) := ⟨rfl, rfl, rfl, by decide +kernel, rfl, by decide +kernel, by decide +kernel⟩
set_option maxHeartbeats 4000000 in
theorem ok_RestsInit  (F : FunD K "__init__" "Rests.__init__" s_Rests___init__ .none f fd) (T : Txt K mg C_Ring C_Fractions C_Rests C_Tails) (c_Prime : Cal P w K mg base CX0 1 "is_prime" ["number"] [] spPrime) (q_FieldInit : CCal P w K mg base CX0 1 "Field" "__init__" ["self", "prime"] [] (spField K)) (x_NoPrime : Exc K mg base "NoPrime" E_NoPrime)  : FnOk P w K mg base (CXe P w) 2 f fd ["self", "prime"] (spRests C_Rests E_NoPrime) := by
  refine F.okX (k := 1) scRestsInit (fun vs H Q E h => ?_) (fun cdv A outer s H vs Q E hr h => ?_)
  · obtain ⟨p, dx, n, rfl, _⟩ := h
    rfl
  obtain ⟨p, dx, n, rfl, h⟩ := h
  refine ⟨_, (pss_cons (ps_if (PW.pt (pw_or (pt_cmpR op_gt (pv 1) (pe_globI T.g_GREATEST_PRIME rfl) (nomark _)) (pw_or1 (pt_not (pt_val (pe_c c_Prime hr pass00 .nil ((pa_cons (pv 1) pa_nil)))))))) (pss_one (ps_rz x_NoPrime rfl rfl raisesTo_body ((pa_cons (pe_str) pa_nil)))) pss_nil)
    (pss_one (ps_expr (pe_cm q_FieldInit hr pass00 .nil ((pa_cons (pv 0) (pa_cons (pv 1) pa_nil))))))), ?_⟩
  obtain ⟨hp, k⟩ := h
  walk_at "rd"
  refine cD (fun c => ?_) (fun c => ?_)
  · walk_at "rd"
    refine ⟨(by show 1 ≤ sizeLine; decide), ?_⟩
    rcases k with ⟨q, _⟩ | ⟨_, q⟩
    · omega
    · exact q
  · refine ⟨_, rfl, n, rfl, by omega, _, rfl, ?_⟩
    rcases k with ⟨_, q1, q2⟩ | ⟨q1, q2⟩
    · rw [q1]
      refine iteF ?_
      exact ⟨_, rfl, _, rfl, p, C_Rests, dx, _, rfl, hp, T.cl_Rests, T.na_Rests_prime, q2⟩
    · have q : isP n = false := q1.resolve_left c
      rw [q]
      exact iteT ⟨(by show 1 ≤ sizeLine; decide), q2⟩
end
end K10
namespace K10
open PySem L2
open K1 K2 K3 K6 K8
section
variable {P : Program} {w : World} {K : PySem.W.Frag} {mg : Str → Option Value} {base : Heap} {f : Addr} {fd : FuncData} {C_Ring C_Fractions C_Rests C_Tails : Addr} {E_NoPrime E_NoRing : Addr}
local macro_rules | `(tactic| walk_at "sd") => `(tactic| first
  | assumption | (dsimp only; omega) | (dsimp only; decide) | exact ⟨by decide, by decide⟩ | exact ⟨by decide, by decide, by decide⟩ | exact Or.inl ⟨by decide, by decide⟩ | exact ⟨by omega, by omega⟩ | exact Or.inl ⟨by omega, by omega⟩ | exact Or.inr ⟨by decide, by decide⟩ | exact Or.inr ⟨by omega, by omega⟩)
local macro_rules | `(tactic| walk_at "rd") => `(tactic| repeat first
  | refine ⟨_, rfl, ?_⟩ | refine ⟨_, _, rfl, rfl, ?_⟩ | refine And.intro rfl ?_ | refine And.intro (by walk_at "sd") ?_ | with_reducible refine iteT ?_ | with_reducible refine iteF ?_ | (apply ixT_of; assumption; rfl))
local macro_rules | `(tactic| walk_at "clo") => `(tactic| exact h)

theorem scNoughtR : FnScope ["self"] ["self"] (defScope s_Rests_nought) := ⟨rfl, rfl, rfl, by decide +kernel, rfl, by decide +kernel, by decide +kernel⟩
set_option maxHeartbeats 4000000 in
theorem ok_NoughtR  (F : FunD K "nought" "Rests.nought" s_Rests_nought .none f fd) (T : Txt K mg C_Ring C_Fractions C_Rests C_Tails)   : FnOk P w K mg base CX0 1 f fd ["self"] (spC (.int 0)) := by
  refine F.okN (k := 0) scNoughtR (fun vs H Q E h => ?_) (fun cdv A outer s H vs Q E hr h => ?_)
  · obtain ⟨p, rfl, _⟩ := h
    rfl
  obtain ⟨p, rfl, h⟩ := h
  refine ⟨_, (pss_one (ps_ret (pe_int))), ?_⟩
  exact h
end
end K10
namespace K10
open PySem L2
open K1 K2 K3 K6 K8
section
variable {P : Program} {w : World} {K : PySem.W.Frag} {mg : Str → Option Value} {base : Heap} {f : Addr} {fd : FuncData} {C_Ring C_Fractions C_Rests C_Tails : Addr} {E_NoPrime E_NoRing : Addr}
local macro_rules | `(tactic| walk_at "sd") => `(tactic| first
  | assumption | (dsimp only; omega) | (dsimp only; decide) | exact ⟨by decide, by decide⟩ | exact ⟨by decide, by decide, by decide⟩ | exact Or.inl ⟨by decide, by decide⟩ | exact ⟨by omega, by omega⟩ | exact Or.inl ⟨by omega, by omega⟩ | exact Or.inr ⟨by decide, by decide⟩ | exact Or.inr ⟨by omega, by omega⟩)
local macro_rules | `(tactic| walk_at "rd") => `(tactic| repeat first
  | refine ⟨_, rfl, ?_⟩ | refine ⟨_, _, rfl, rfl, ?_⟩ | refine And.intro rfl ?_ | refine And.intro (by walk_at "sd") ?_ | with_reducible refine iteT ?_ | with_reducible refine iteF ?_ | (apply ixT_of; assumption; rfl))
local macro_rules | `(tactic| walk_at "clo") => `(tactic| exact h)

theorem scOneR : FnScope ["self"] ["self"] (defScope s_Rests_one) := ⟨rfl, rfl, rfl, by decide +kernel, rfl, by decide +kernel, by decide +kernel⟩
set_option maxHeartbeats 4000000 in
theorem ok_OneR  (F : FunD K "one" "Rests.one" s_Rests_one .none f fd) (T : Txt K mg C_Ring C_Fractions C_Rests C_Tails)   : FnOk P w K mg base CX0 1 f fd ["self"] (spC (.int 1)) := by
  refine F.okN (k := 0) scOneR (fun vs H Q E h => ?_) (fun cdv A outer s H vs Q E hr h => ?_)
  · obtain ⟨p, rfl, _⟩ := h
    rfl
  obtain ⟨p, rfl, h⟩ := h
  refine ⟨_, (pss_one (ps_ret (pe_int))), ?_⟩
  exact h
end
end K10
namespace K10
open PySem L2
open K1 K2 K3 K6 K8
section
variable {P : Program} {w : World} {K : PySem.W.Frag} {mg : Str → Option Value} {base : Heap} {f : Addr} {fd : FuncData} {C_Ring C_Fractions C_Rests C_Tails : Addr} {E_NoPrime E_NoRing : Addr}
local macro_rules | `(tactic| walk_at "sd") => `(tactic| first
  | assumption | (dsimp only; omega) | (dsimp only; decide) | exact ⟨by decide, by decide⟩ | exact ⟨by decide, by decide, by decide⟩ | exact Or.inl ⟨by decide, by decide⟩ | exact ⟨by omega, by omega⟩ | exact Or.inl ⟨by omega, by omega⟩ | exact Or.inr ⟨by decide, by decide⟩ | exact Or.inr ⟨by omega, by omega⟩)
local macro_rules | `(tactic| walk_at "rd") => `(tactic| repeat first
  | refine ⟨_, rfl, ?_⟩ | refine ⟨_, _, rfl, rfl, ?_⟩ | refine And.intro rfl ?_ | refine And.intro (by walk_at "sd") ?_ | with_reducible refine iteT ?_ | with_reducible refine iteF ?_ | (apply ixT_of; assumption; rfl))
local macro_rules | `(tactic| walk_at "clo") => `(tactic| exact h)

theorem scPlusR : FnScope ["self", "a", "b"] ["self", "a", "b"] (defScope s_Rests_plus) := ⟨rfl, rfl, rfl, by decide +kernel, rfl, by decide +kernel, by decide +kernel⟩
set_option maxHeartbeats 4000000 in
theorem ok_PlusR  (F : FunD K "plus" "Rests.plus" s_Rests_plus .none f fd) (T : Txt K mg C_Ring C_Fractions C_Rests C_Tails)   : FnOk P w K mg base CX0 1 f fd ["self", "a", "b"] (spBinR C_Rests fun n a b => (a + b) % n) := by
  refine F.okN (k := 0) scPlusR (fun vs H Q E h => ?_) (fun cdv A outer s H vs Q E hr h => ?_)
  · obtain ⟨p, dx, n, a, b, rfl, _⟩ := h
    rfl
  obtain ⟨p, dx, n, a, b, rfl, h⟩ := h
  refine ⟨_, (pss_one (ps_ret (pe_op op_mod (pe_op op_add (pv 1) (pv 2)) (pe_fldK (K := K) rfl (pv 0) rfl)))), ?_⟩
  obtain ⟨⟨hp, pr, pl⟩, ia, ib, k⟩ := h
  have p2 := pr.1
  walk_at "rd"
  exact ⟨p, C_Rests, dx, _, _, rfl, hp, T.cl_Rests, T.na_Rests_prime, rfl, _, _, rfl, rfl, (by show 0 < n; omega), k⟩
end
end K10
namespace K10
open PySem L2
open K1 K2 K3 K6 K8
section
variable {P : Program} {w : World} {K : PySem.W.Frag} {mg : Str → Option Value} {base : Heap} {f : Addr} {fd : FuncData} {C_Ring C_Fractions C_Rests C_Tails : Addr} {E_NoPrime E_NoRing : Addr}
local macro_rules | `(tactic| walk_at "sd") => `(tactic| first
  | assumption | (dsimp only; omega) | (dsimp only; decide) | exact ⟨by decide, by decide⟩ | exact ⟨by decide, by decide, by decide⟩ | exact Or.inl ⟨by decide, by decide⟩ | exact ⟨by omega, by omega⟩ | exact Or.inl ⟨by omega, by omega⟩ | exact Or.inr ⟨by decide, by decide⟩ | exact Or.inr ⟨by omega, by omega⟩)
local macro_rules | `(tactic| walk_at "rd") => `(tactic| repeat first
  | refine ⟨_, rfl, ?_⟩ | refine ⟨_, _, rfl, rfl, ?_⟩ | refine And.intro rfl ?_ | refine And.intro (by walk_at "sd") ?_ | with_reducible refine iteT ?_ | with_reducible refine iteF ?_ | (apply ixT_of; assumption; rfl))
local macro_rules | `(tactic| walk_at "clo") => `(tactic| exact h)

theorem scTimesR : FnScope ["self", "a", "b"] ["self", "a", "b"] (defScope s_Rests_times) := ⟨rfl, rfl, rfl, by decide +kernel, rfl, by decide +kernel, by decide +kernel⟩
set_option maxHeartbeats 4000000 in
theorem ok_TimesR  (F : FunD K "times" "Rests.times" s_Rests_times .none f fd) (T : Txt K mg C_Ring C_Fractions C_Rests C_Tails)   : FnOk P w K mg base CX0 1 f fd ["self", "a", "b"] (spBinR C_Rests fun n a b => a * b % n) := by
  refine F.okN (k := 0) scTimesR (fun vs H Q E h => ?_) (fun cdv A outer s H vs Q E hr h => ?_)
  · obtain ⟨p, dx, n, a, b, rfl, _⟩ := h
    rfl
  obtain ⟨p, dx, n, a, b, rfl, h⟩ := h
  refine ⟨_, (pss_one (ps_ret (pe_op op_mod (pe_op op_mul (pv 1) (pv 2)) (pe_fldK (K := K) rfl (pv 0) rfl)))), ?_⟩
  obtain ⟨⟨hp, pr, pl⟩, ia, ib, k⟩ := h
  have p2 := pr.1
  obtain ⟨a0, a1⟩ := ia
  walk_at "rd"
  exact ⟨p, C_Rests, dx, _, _, rfl, hp, T.cl_Rests, T.na_Rests_prime, rfl, _, _, rfl, rfl, (by show 0 < n; omega), k⟩
end
end K10
namespace K10
open PySem L2
open K1 K2 K3 K6 K8
section
variable {P : Program} {w : World} {K : PySem.W.Frag} {mg : Str → Option Value} {base : Heap} {f : Addr} {fd : FuncData} {C_Ring C_Fractions C_Rests C_Tails : Addr} {E_NoPrime E_NoRing : Addr}
local macro_rules | `(tactic| walk_at "sd") => `(tactic| first
  | assumption | (dsimp only; omega) | (dsimp only; decide) | exact ⟨by decide, by decide⟩ | exact ⟨by decide, by decide, by decide⟩ | exact Or.inl ⟨by decide, by decide⟩ | exact ⟨by omega, by omega⟩ | exact Or.inl ⟨by omega, by omega⟩ | exact Or.inr ⟨by decide, by decide⟩ | exact Or.inr ⟨by omega, by omega⟩)
local macro_rules | `(tactic| walk_at "rd") => `(tactic| repeat first
  | refine ⟨_, rfl, ?_⟩ | refine ⟨_, _, rfl, rfl, ?_⟩ | refine And.intro rfl ?_ | refine And.intro (by walk_at "sd") ?_ | with_reducible refine iteT ?_ | with_reducible refine iteF ?_ | (apply ixT_of; assumption; rfl))
local macro_rules | `(tactic| walk_at "clo") => `(tactic| exact h)

theorem scAgR : FnScope ["self", "a"] ["self", "a"] (defScope s_Rests_against) := ⟨rfl, rfl, rfl, by decide +kernel, rfl, by decide +kernel, by decide +kernel⟩
set_option maxHeartbeats 4000000 in
theorem ok_AgR  (F : FunD K "against" "Rests.against" s_Rests_against .none f fd) (T : Txt K mg C_Ring C_Fractions C_Rests C_Tails)   : FnOk P w K mg base CX0 1 f fd ["self", "a"] (spAgR C_Rests) := by
  refine F.okN (k := 0) scAgR (fun vs H Q E h => ?_) (fun cdv A outer s H vs Q E hr h => ?_)
  · obtain ⟨p, dx, n, a, rfl, _⟩ := h
    rfl
  obtain ⟨p, dx, n, a, rfl, h⟩ := h
  refine ⟨_, (pss_one (ps_ret (pe_op op_mod (pe_un un_neg (pv 1)) (pe_fldK (K := K) rfl (pv 0) rfl)))), ?_⟩
  obtain ⟨⟨hp, pr, pl⟩, ia, k⟩ := h
  have p2 := pr.1
  walk_at "rd"
  exact ⟨p, C_Rests, dx, _, _, rfl, hp, T.cl_Rests, T.na_Rests_prime, rfl, _, _, rfl, rfl, (by show 0 < n; omega), k⟩
end
end K10
namespace K10
open PySem L2
open K1 K2 K3 K6 K8
section
variable {P : Program} {w : World} {K : PySem.W.Frag} {mg : Str → Option Value} {base : Heap} {f : Addr} {fd : FuncData} {C_Ring C_Fractions C_Rests C_Tails : Addr} {E_NoPrime E_NoRing : Addr}
local macro_rules | `(tactic| walk_at "sd") => `(tactic| first
  | assumption | (dsimp only; omega) | (dsimp only; decide) | exact ⟨by decide, by decide⟩ | exact ⟨by decide, by decide, by decide⟩ | exact Or.inl ⟨by decide, by decide⟩ | exact ⟨by omega, by omega⟩ | exact Or.inl ⟨by omega, by omega⟩ | exact Or.inr ⟨by decide, by decide⟩ | exact Or.inr ⟨by omega, by omega⟩)
local macro_rules | `(tactic| walk_at "rd") => `(tactic| repeat first
  | refine ⟨_, rfl, ?_⟩ | refine ⟨_, _, rfl, rfl, ?_⟩ | refine And.intro rfl ?_ | refine And.intro (by walk_at "sd") ?_ | with_reducible refine iteT ?_ | with_reducible refine iteF ?_ | (apply ixT_of; assumption; rfl))
local macro_rules | `(tactic| walk_at "clo") => `(tactic| exact h)

theorem scAbsorb : FnScope ["ring", "total", "f", "nought", "term", "number"] ["ring", "total", "f"] (defScope s_absorb) := ⟨rfl, rfl, rfl, by decide +kernel, rfl, by decide +kernel, by decide +kernel⟩
set_option maxHeartbeats 4000000 in
theorem ok_Absorb  (F : FunD K "absorb" "absorb" s_absorb .none f fd) (T : Txt K mg C_Ring C_Fractions C_Rests C_Tails)  (hfld : ∀ n : Int, n ≤ 9973 → (n = 0 ∨ Pr n) → ∃ C, FldQ P w K mg base C (AtN C_Fractions C_Rests n) n) : FnOk P w K mg base CX0 4 f fd ["ring", "total", "f"] (spAbs C_Ring C_Fractions C_Rests) := by
  refine F.okN (k := 3) scAbsorb (fun vs H Q E h => ?_) (fun cdv A outer s H vs Q E hr h => ?_)
  · obtain ⟨r, d, e, m, pf, n, kvs, fvs, T1, T2, D, rfl, _⟩ := h
    rfl
  obtain ⟨r, d, e, m, pf, n, kvs, fvs, T1, T2, D, rfl, h⟩ := h
  obtain ⟨CF, B⟩ := hfld n h.1.nb h.1.np
  refine ⟨_, (pss_cons (ps_set (i := 3) scAbsorb.nd rfl (Or.inl rfl) (pe_m0 B.nought (pe_fldK (K := K) rfl (pv 0) rfl) hr pass00 .nil))
    (pss_one (ps_thw (ps_for PassesOwn.never rfl (pi_items (pv 2)) (pg_tup rfl (pgs_cons (pg_name (i := 4) scAbsorb.nd rfl (Or.inl rfl)) (pgs_cons (pg_name (i := 5) scAbsorb.nd rfl (Or.inl rfl)) pgs_nil))) (pss_cons (ps_if (pt_cmp (pc_din (uOne hr) (pv 4) (pv 1))) (pss_one (ps_set (i := 5) scAbsorb.nd rfl (Or.inl rfl) (pe_m B.plus (pe_fldK (K := K) rfl (pv 0) rfl) hr pass00 .nil ((pa_cons (pe_dget (uOne hr) (pv 1) (pv 4) (fun _ _ => rfl)) (pa_cons (pv 5) pa_nil)))))) pss_nil)
    (pss_one (ps_if (pt_cmpR (op_eqD hr.units) (pv 5) (pv 3) (nomark _)) (pss_one (ps_expr (pe_dpop (uOne hr) (pv 1) ((pa_cons (pv 4) pa_nil))))) (pss_one (ps_dput (uOne hr) (pv 1) (pv 4) (pv 5) rfl))))))))), ?_⟩
  obtain ⟨hR, de, hd, he, ⟨pF, koF⟩, ⟨pG, koG⟩, hl, bT1, bT2, bD, k⟩ := h
  have zG : ∀ t, t ∉ tks fvs → zr n (T2 t) := fun t ht => (PD.mk pG koG).out ht
  have n2 := hR.np
  obtain ⟨po, dx, hr0⟩ := hR.at_
  have hf := hR.fd
  have hts : fvs.map (·.1) = (tks fvs).map ky := koG.keys
  have okG : ∀ t ∈ tks fvs, TmOk m t := fun t ht => koG.ok ht
  have dnz : ¬ zr n D := pF.nz []
  have hsm : ∀ t, SmN n (T1 t) D ∧ SmN n (T2 t) D := fun t => ⟨fun z => ⟨bT1 z t, bD z⟩, fun z => ⟨bT2 z t, bD z⟩⟩
  generalize hF0 : (fun k => (T1 k, D)) = F at pF
  generalize hG0 : (fun k => (T2 k, D)) = G at pG
  have eF : ∀ t, F t = (T1 t, D) := fun t => by rw [← hF0]
  have eG : ∀ t, G t = (T2 t, D) := fun t => by rw [← hG0]
  generalize hTs : tks fvs = ts at hts okG zG
  obtain ⟨dF, hF⟩ := B.ins hf
  refine ⟨_, rfl, r, C_Ring, dx, _, _, rfl, hr0, T.cl_Ring, T.na_Ring_field, rfl, pf, dF, _, rfl, hF, no_P _ _ (by decide +kernel), pf, rfl, hf, fun u H1 e1 hu => ?_⟩
  refine ⟨_, rfl, e, fvs, rfl, .inl (e1 _ _ he), fun o => ?_⟩
  have lt : fvs.length = ts.length := by have := congrArg List.length hts; simpa using this
  have ntd : ts.Nodup := by
    have := pG.nd
    rw [hts] at this
    exact nd_of_map this
  have hnz := pG.nz
  have h1d := e1 _ _ hd
  have hHe : H1 e = some (.dT fvs) := e1 _ _ he
  refine for_ditem (fun i σ H' => i ≤ ts.length ∧ (∃ v4 v5, σ = [some (.ref r), some (.ref d), some (.ref e), some u, v4, v5]) ∧ FzD H' e o fvs ∧ (∀ b ob, H1 b = some ob → b ≠ d → b ≠ e → H' b = some ob) ∧ Is n H' u 0 1 ∧ ∃ kv, H' d = some (.dT kv) ∧ PR n H' kv (addG F G (ts.take i)) ∧ KO m kv ∧ kv.length ≤ kvs.length + i) ?_ (fun i σ H' h => h.2.2.1) ?_ ?_
  · refine ⟨Nat.zero_le _, ⟨none, none, rfl⟩, upd_same, fun b ob hb _ be => ?_, hu.keep (fun b xs hb => by rw [upd_ne (ne_of hb hHe (by intro z; cases z))]; exact hb), kvs, ?_, ?_, koF, Nat.le_refl _⟩
    · rw [upd_ne be]; exact hb
    · rw [upd_ne de]; exact h1d
    · rw [List.take_zero, addG_nil]
      exact (pF.keep fun b xs hb => e1 _ _ hb).keep fun b xs hb => by rw [upd_ne (ne_of hb hHe (by intro z; cases z))]; exact hb
  · rintro i k v σ H2 p b hk ⟨hi, ⟨v4, v5, rfl⟩, hz, hk2, hu2, kv, hd2, pk, kok, lk⟩ hp hb
    obtain ⟨t, ht, rfl⟩ : ∃ t, ts[i]? = some t ∧ k = ky t := by
      have q : (fvs.map (·.1))[i]? = some k := by rw [List.getElem?_map, hk]; rfl
      rw [hts, List.getElem?_map] at q
      obtain ⟨t, h1, h2⟩ := Option.map_eq_some_iff.mp q
      exact ⟨t, h1, h2.symm⟩
    have hlt : i < ts.length := by
      rcases Nat.lt_or_ge i ts.length with q | q
      · exact q
      · rw [List.getElem?_eq_none q] at ht; cases ht
    have htm : t ∈ ts := List.mem_of_getElem? ht
    have hti : t ∉ ts.take i := nd_take ntd ht
    have tk := take_snoc ht
    obtain ⟨iv, nv⟩ := pG.at_ t v (valV_get pG.nd hk)
    have eA : addG F G (ts.take i) t = F t := addG_out hti
    have iv2 : Is n H2 v (G t).1 (G t).2 := iv.keep fun c xs hc => hk2 _ _ (e1 _ _ hc) (ne_of (e1 _ _ hc) h1d (by intro z; cases z)) (ne_of (e1 _ _ hc) hHe (by intro z; cases z))
    have kin : ∀ c C' dy fs, H c = some (.ins C' dy fs) → H2 c = some (.ins C' dy fs) := fun c C' dy fs hc => hk2 _ _ (e1 _ _ hc) (ne_of (e1 _ _ hc) h1d (by intro z; cases z)) (ne_of (e1 _ _ hc) hHe (by intro z; cases z))
    have hr2 := kin _ _ _ _ hr0
    have hF2 := kin _ _ _ _ hF
    have hf2 : AtN C_Fractions C_Rests n H2 pf := B.same (fun c o hc ⟨C', dy, fs, ho⟩ => by subst ho; exact kin _ _ _ _ hc) hf
    refine ⟨p, _, rfl, SqT.of upd_same, rfl, _, _, rfl, _, _, rfl, rfl, ?_⟩
    have e3 : Same H2 (upd H2 p (.tup [.ref b, v])) := Same.upd hp
    generalize upd H2 p (HO.tup [V.ref b, v]) = H3 at e3
    have hb3 := e3 _ _ hb
    have hd3 := e3 _ _ hd2
    unfold gName
    dsimp only
    refine seq_mid (fun σ' H' => Same H3 H' ∧ ∃ v', σ' = [some (.ref r), some (.ref d), some (.ref e), some u, some (.ref b), some v'] ∧ Is n H' v' ((F t).1 * (G t).2 + (G t).1 * (F t).2) ((F t).2 * (G t).2) ∧ (valV kv (ky t) = none → ¬ zr n ((F t).1 * (G t).2 + (G t).1 * (F t).2))) ?_ ?_
    rotate_left
    · intro N hN
      refine ⟨_, rfl, _, rfl, d, _, rfl, DGet.t hd3 hb3, _, rfl, ?_⟩
      cases hval : valV kv (ky t) with
      | none =>
        have z := pk.no t hval
        rw [eA] at z
        refine iteF (hN _ _ ⟨Same.refl _, v, rfl, (iv2.same e3).fresh z, fun _ => ?_⟩)
        rw [Int.add_comm]
        exact nz_skip n2 (pF.nz t) nv z
      | some v0 =>
        obtain ⟨a1, a2⟩ := pk.at_ t v0 hval
        rw [eA] at a1 a2
        refine iteT ⟨_, rfl, r, C_Ring, dx, _, _, rfl, e3 _ _ hr2, T.cl_Ring, T.na_Ring_field, rfl, pf, dF, _, rfl, e3 _ _ hF2, no_P _ _ (by decide +kernel), _, rfl, _, rfl, d, v0, rfl, ?_, _, rfl, pf, v0, v, _, _, _, _, rfl, B.sm e3 hf2, a1.same e3, iv2.same e3, pF.nz t, hnz t, (by rw [eF]; exact (hsm t).1), (by rw [eG]; exact (hsm t).2), fun v' H4 e4 hv' => hN _ _ ⟨e4, v', rfl, hv', fun z => (by rw [hval] at z; cases z)⟩⟩
        have := DGet.t (k := ky t) hd3 hb3
        rw [hval] at this
        exact this
    rintro σ' H4 ⟨e4, v', rfl, iv', hno⟩
    have g4 := e3.trans e4
    have hd4 := e4 _ _ hd3
    have hb4 := e4 _ _ hb3
    have hz4 : FzD H4 e o fvs := g4 _ _ hz
    have hu4 : Is n H4 u 0 1 := hu2.same g4
    have pk4 : PR n H4 kv (addG F G (ts.take i)) := pk.keep fun c xs hc => g4 _ _ hc
    have hk4 : ∀ c ob, H1 c = some ob → c ≠ d → c ≠ e → H4 c = some ob := fun c ob h1 h2 h3 => g4 _ _ (hk2 c ob h1 h2 h3)
    obtain ⟨dn, rd, nd, eq⟩ := iv'.rds (K := K) n2 (nz_mul n2 (pF.nz t) (hnz t))
    refine ⟨_, rfl, _, rfl, dn, z0N n, rd, hu4.zero, nd.shaped, (nm_z0 n).shaped, _, rfl, ?_⟩
    rw [eq]
    refine cD (fun z => ?_) (fun z => ?_)
    · cases hval : valV kv (ky t) with
      | none => exact absurd z (hno hval)
      | some v0 =>
        refine ⟨_, rfl, .inr (.inr (.inl ⟨rfl, .inr ⟨_, hd4⟩⟩)), _, rfl, d, b, kv, ky t, v0, rfl, rfl, hd4, hb4, hval, ?_⟩
        refine ⟨hlt, ⟨_, _, rfl⟩, (upd_ne (Ne.symm de)).trans hz4, fun c ob h1 h2 h3 => (upd_ne h2).trans (hk4 c ob h1 h2 h3), hu4.updD hd4, _, upd_same, ?_, kok.drop _, ?_⟩
        · rw [tk, addG_snoc hti]
          refine PR.keep (fun c xs hc => ?_) (pk4.drop (t := (G t).1) n2 (hnz t) (by rw [eA]; exact z))
          rw [upd_ne (ne_of hc hd4 (by intro z; cases z))]; exact hc
        · have := dropK_le kv (ky t); omega
    · refine ⟨_, rfl, _, rfl, _, rfl, d, _, rfl, DPut.t hd4 hb4 (by omega), ?_⟩
      refine ⟨hlt, ⟨_, _, rfl⟩, (upd_ne (Ne.symm de)).trans hz4, fun c ob h1 h2 h3 => (upd_ne h2).trans (hk4 c ob h1 h2 h3), hu4.updD hd4, _, upd_same, ?_, kok.put (okG t htm), ?_⟩
      · rw [tk, addG_snoc hti]
        refine PR.keep (fun c xs hc => ?_) (pk4.put (v := v') (t := (G t).1) n2 (hnz t) (by rw [eA]; exact iv') (by rw [eA]; exact z))
        rw [upd_ne (ne_of hc hd4 (by intro z; cases z))]; exact hc
      · have := length_putK kv (ky t) v'; omega
  · rintro σ H2 ⟨_, ⟨v4, v5, rfl⟩, hz, hk2, hu2, kv, hd2, pk, kok, lk⟩
    rw [lt, List.take_length] at pk
    refine .inr ⟨e, o, _, hz, fun o' w' z => ?_, k _ kv (fun b ob hb hbd => ?_) ?_ ?_ lk⟩
    · have z' : H e = some (.frz o' w') := z
      rw [he] at z'; cases z'
    · by_cases be : b = e
      · subst be; rw [upd_same, ← he]; exact hb
      · rw [upd_ne be]; exact hk2 _ _ (e1 _ _ hb) hbd be
    · rw [upd_ne de]; exact hd2
    · refine PD.addG n2 dnz ?_ kok zG
      rw [hF0, hG0]
      exact pk.keep fun b xs hb => by rw [upd_ne (ne_of hb hz (by intro z; cases z))]; exact hb
end
end K10
namespace K10
open PySem L2
open K1 K2 K3 K6 K8
section
variable {P : Program} {w : World} {K : PySem.W.Frag} {mg : Str → Option Value} {base : Heap} {f : Addr} {fd : FuncData} {C_Ring C_Fractions C_Rests C_Tails : Addr} {E_NoPrime E_NoRing : Addr}
local macro_rules | `(tactic| walk_at "sd") => `(tactic| first
  | assumption | (dsimp only; omega) | (dsimp only; decide) | exact ⟨by decide, by decide⟩ | exact ⟨by decide, by decide, by decide⟩ | exact Or.inl ⟨by decide, by decide⟩ | exact ⟨by omega, by omega⟩ | exact Or.inl ⟨by omega, by omega⟩ | exact Or.inr ⟨by decide, by decide⟩ | exact Or.inr ⟨by omega, by omega⟩)
local macro_rules | `(tactic| walk_at "rd") => `(tactic| repeat first
  | refine ⟨_, rfl, ?_⟩ | refine ⟨_, _, rfl, rfl, ?_⟩ | refine And.intro rfl ?_ | refine And.intro (by walk_at "sd") ?_ | with_reducible refine iteT ?_ | with_reducible refine iteF ?_ | (apply ixT_of; assumption; rfl))
local macro_rules | `(tactic| walk_at "clo") => `(tactic| exact h)

theorem scProd : FnScope ["one", "other"] ["one", "other"] (defScope s_product) := ⟨rfl, rfl, rfl, by decide +kernel, rfl, by decide +kernel, by decide +kernel⟩
set_option maxHeartbeats 4000000 in
theorem ok_Prod  (F : FunD K "product" "product" s_product .none f fd) (T : Txt K mg C_Ring C_Fractions C_Rests C_Tails)   : FnOk P w K mg base CX0 1 f fd ["one", "other"] (spProd K) := by
  refine F.okN (k := 0) scProd (fun vs H Q E h => ?_) (fun cdv A outer s H vs Q E hr h => ?_)
  · obtain ⟨a, b, xs, ys, rfl, _⟩ := h
    rfl
  obtain ⟨a, b, xs, ys, rfl, h⟩ := h
  refine ⟨_, (pss_one (ps_ret (pe_callTy (call_tupleK (K := K) rfl) rfl T.b_tuple (by kernel_rfl) ((pa_cons (pe_comp (N := ["power", "further"]) (Blk.plain (by decide +kernel) (by decide +kernel) rfl (by decide +kernel) nd_power_further) rfl (pi_zipK (K := K) rfl true true rfl T.b_zip ((pa_cons (pv 0) (pa_cons (pv 1) pa_nil)))) (fun C0 s0 H0 fp0 => pg_two (K := K) rfl rfl rfl nd_power_further rfl rfl) (fun C0 s0 H0 fp0 => pts_nil) (fun C0 s0 H0 fp0 => pe_op op_add (pv 0) (pv 1))) pa_nil))))), ?_⟩
  obtain ⟨ha, hb, hl, k⟩ := h
  show tComp _ _ _ _ _ _ _ _
  refine zip_comp (K := K) (b1 := true) (b2 := true) (a := a) (b := b) (xs := xs) (ys := ys) yes2 (fun x y => .int (x + y)) (by rfl) ?_ ha hb hl ?_ ?_ fun D H' e hL => ?_
  · exact fun R hR => ⟨_, rfl, _, rfl, hR⟩
  · exact fun _ _ _ h => h
  · exact fun i H' R _ h => ⟨_, rfl, _, rfl, _, _, rfl, rfl, h⟩
  rw [zipV_W (fun x y => x + y)] at hL
  refine ⟨D, _, rfl, .inl ⟨SqL.of hL, fun r hr => ?_⟩⟩
  exact k r _ (e.trans (Same.upd hr)) upd_same
end
end K10
namespace K10
open PySem L2
open K1 K2 K3 K6 K8
section
variable {P : Program} {w : World} {K : PySem.W.Frag} {mg : Str → Option Value} {base : Heap} {f : Addr} {fd : FuncData} {C_Ring C_Fractions C_Rests C_Tails : Addr} {E_NoPrime E_NoRing : Addr}
local macro_rules | `(tactic| walk_at "sd") => `(tactic| first
  | assumption | (dsimp only; omega) | (dsimp only; decide) | exact ⟨by decide, by decide⟩ | exact ⟨by decide, by decide, by decide⟩ | exact Or.inl ⟨by decide, by decide⟩ | exact ⟨by omega, by omega⟩ | exact Or.inl ⟨by omega, by omega⟩ | exact Or.inr ⟨by decide, by decide⟩ | exact Or.inr ⟨by omega, by omega⟩)
local macro_rules | `(tactic| walk_at "rd") => `(tactic| repeat first
  | refine ⟨_, rfl, ?_⟩ | refine ⟨_, _, rfl, rfl, ?_⟩ | refine And.intro rfl ?_ | refine And.intro (by walk_at "sd") ?_ | with_reducible refine iteT ?_ | with_reducible refine iteF ?_ | (apply ixT_of; assumption; rfl))
local macro_rules | `(tactic| walk_at "clo") => `(tactic| exact h)

theorem scScal : FnScope ["ring", "number", "term", "f", "found", "part", "factor"] ["ring", "number", "term", "f"] (defScope s_scaled) := ⟨rfl, rfl, rfl, by decide +kernel, rfl, by decide +kernel, by decide +kernel⟩
set_option maxHeartbeats 4000000 in
theorem ok_Scal  (F : FunD K "scaled" "scaled" s_scaled .none f fd) (T : Txt K mg C_Ring C_Fractions C_Rests C_Tails) (c_Prod : Cal P w K mg base CX0 1 "product" ["one", "other"] [] (spProd K)) (hfld : ∀ n : Int, n ≤ 9973 → (n = 0 ∨ Pr n) → ∃ C, FldQ P w K mg base C (AtN C_Fractions C_Rests n) n) : FnOk P w K mg base CX0 4 f fd ["ring", "number", "term", "f"] (spScal C_Ring C_Fractions C_Rests) := by
  refine F.okN (k := 3) scScal (fun vs H Q E h => ?_) (fun cdv A outer s H vs Q E hr h => ?_)
  · obtain ⟨r, v, t, e, m, pf, n, fvs, a, D1, l, T0, D, rfl, _⟩ := h
    rfl
  obtain ⟨r, v, t, e, m, pf, n, fvs, a, D1, l, T0, D, rfl, h⟩ := h
  obtain ⟨CF, B⟩ := hfld n h.1.nb h.1.np
  refine ⟨_, (pss_cons (ps_if (pt_cmpR (op_eqD hr.units) (pv 1) (pe_m0 B.nought (pe_fldK (K := K) rfl (pv 0) rfl) hr pass00 .nil) (nomark _)) (pss_one (ps_ret (pe_dnewT))) pss_nil)
    (pss_cons (ps_set (i := 4) scScal.nd rfl (Or.inl rfl) (pe_dnewT))
    (pss_cons (ps_thw (ps_for PassesOwn.never rfl (pi_items (pv 3)) (pg_tup rfl (pgs_cons (pg_name (i := 5) scScal.nd rfl (Or.inl rfl)) (pgs_cons (pg_name (i := 6) scScal.nd rfl (Or.inl rfl)) pgs_nil))) (pss_one (ps_dput (uOne hr) (pv 4) (pe_c c_Prod hr pass00 .nil ((pa_cons (pv 2) (pa_cons (pv 5) pa_nil)))) (pe_m B.times (pe_fldK (K := K) rfl (pv 0) rfl) hr pass00 .nil ((pa_cons (pv 1) (pa_cons (pv 6) pa_nil)))) rfl))))
    (pss_one (ps_ret (pv 4)))))), ?_⟩
  obtain ⟨hR, iv, nz1, sm1, ht, okl, he, pT, bT, bD, hl, k⟩ := h
  have n2 := hR.np
  obtain ⟨po, dx, hr0⟩ := hR.at_
  have hf := hR.fd
  obtain ⟨dF, hF⟩ := B.ins hf
  refine ⟨_, rfl, _, rfl, r, C_Ring, dx, _, _, rfl, hr0, T.cl_Ring, T.na_Ring_field, rfl, pf, dF, _, rfl, hF, no_P _ _ (by decide +kernel), pf, rfl, hf, fun u H1 e1 hu => ?_⟩
  obtain ⟨dn, rd, nd, eq⟩ := (iv.same e1).rds (K := K) n2 nz1
  refine ⟨dn, z0N n, rd, hu.zero, nd.shaped, (nm_z0 n).shaped, _, rfl, ?_⟩
  rw [eq]
  have nzD := pT.nz
  refine cD (fun z => ?_) (fun z => ?_)
  · intro d nd0
    refine k d _ [] ?_ (e1.updR ?_) upd_same (PD.nil n2 (nz_mul n2 nz1 nzD) fun t => zr_mul z) (Nat.zero_le _)
    · exact e1.free nd0
    · exact e1.free nd0
  · intro d nd0
    have e2 : Same H1 (upd H1 d (.dT [])) := Same.upd nd0
    have hd2 : (upd H1 d (HO.dT [])) d = some (.dT []) := upd_same
    generalize upd H1 d (HO.dT []) = H2 at e2 hd2
    have g2 := e1.trans e2
    have he2 := g2 _ _ he
    have de : d ≠ e := fun z => by subst z; rw [e1 _ _ he] at nd0; cases nd0
    refine ⟨_, rfl, e, fvs, rfl, .inl he2, fun o => ?_⟩
    have ntd := pT.nts
    have ltk : (tks fvs).length = fvs.length := tks_len fvs
    refine for_ditem (fun i σ H' => i ≤ fvs.length ∧ (∃ v5 v6, σ = [some (.ref r), some v, some (.ref t), some (.ref e), some (.ref d), v5, v6]) ∧ FzD H' e o fvs ∧ (∀ b ob, H2 b = some ob → b ≠ d → b ≠ e → H' b = some ob) ∧ ∃ kv, H' d = some (.dT kv) ∧ kv.map (·.1) = ((tks fvs).take i).map (fun t => ky (addT l t)) ∧
      ∀ (j : Nat) (t : Tm) (k : List Key) (v : V), (tks fvs)[j]? = some t → kv[j]? = some (k, v) → Is n H' v (a * T0 t) (D1 * D)) ?_ (fun i σ H' h => h.2.2.1) ?_ ?_
    · refine ⟨Nat.zero_le _, ⟨none, none, rfl⟩, upd_same, fun b ob hb _ be => ?_, [], ?_, rfl, fun j t k v _ z => by simp at z⟩
      · rw [upd_ne be]; exact hb
      · rw [upd_ne de]; exact hd2
    · rintro i kx vx σ H3 p b hk ⟨hi, ⟨v5, v6, rfl⟩, hz, hk3, kv, hd3, hkeys, hvals⟩ hp hb
      obtain ⟨x, hx, rfl, okx, ix, nzx⟩ := pT.get hk
      have hi' := lt_of_get hk
      refine ⟨p, _, rfl, SqT.of upd_same, rfl, _, _, rfl, _, _, rfl, rfl, ?_⟩
      have e4 : Same H3 (upd H3 p (.tup [.ref b, vx])) := Same.upd hp
      generalize upd H3 p (HO.tup [V.ref b, vx]) = H4 at e4
      have up : ∀ c ob, H c = some ob → (∀ kk, ob ≠ .dT kk) → H4 c = some ob := fun c ob hc nt => e4 _ _ (hk3 _ _ (g2 _ _ hc) (ne_of (g2 _ _ hc) hd2 (nt _)) (ne_of (g2 _ _ hc) he2 (nt _)))
      have upt : ∀ c xs, H c = some (.tup xs) → H4 c = some (.tup xs) := fun c xs hc => up _ _ hc (by intro _ z; cases z)
      have hR4 : RgK C_Ring C_Fractions C_Rests H4 r m pf n := hR.keep fun c ob hc ⟨C', dy, fs, z⟩ => up _ _ hc (by intro _ q; rw [z] at q; cases q)
      refine ⟨_, rfl, r, C_Ring, dx, _, _, rfl, up _ _ hr0 (by intro _ z; cases z), T.cl_Ring, T.na_Ring_field, rfl, pf, dF, _, rfl, up _ _ hF (by intro _ z; cases z), no_P _ _ (by decide +kernel), _, rfl, _, rfl, pf, v, vx, _, _, _, _, rfl, hR4.fd, iv.keep upt, ix.keep upt, nz1, nzD, sm1, fun z => ⟨bT z x, bD z⟩, fun v' H5 e5 hv' => ?_⟩
      have hb4 := e4 _ _ hb
      rw [ky_kV] at hb4
      refine ⟨_, rfl, _, rfl, _, rfl, t, b, l, x, rfl, SqT.of (e5 _ _ (upt _ _ ht)), SqT.of (e5 _ _ hb4), by rw [okl.1]; exact Nat.le_trans hR.m4 (by decide), fun rr H6 e6 hrr => ?_⟩
      have g6 := (e4.trans e5).trans e6
      have hd6 := g6 _ _ hd3
      have nk : ky (addT l x) ∉ kv.map (·.1) := by
        rw [hkeys]
        intro z
        obtain ⟨y, hy, ey⟩ := List.mem_map.mp z
        have oky := pT.ko.ok (List.mem_of_mem_take hy)
        have := add_inj okl oky okx (ky_inj ey)
        subst this
        exact nd_take ntd hx hy
      have lkv : kv.length = i := by
        have := congrArg List.length hkeys
        rw [List.length_map, List.length_map, List.length_take] at this
        omega
      refine ⟨d, _, rfl, DPut.t hd6 (by rw [ky_kV]; exact hrr) (by omega), ?_⟩
      rw [putK_new nk]
      have kp7 : ∀ c xs, H6 c = some (.tup xs) → (upd H6 d (.dT (kv ++ [(ky (addT l x), v')]))) c = some (.tup xs) := fun c xs hc => (upd_ne (ne_of hc hd6 (by intro z; cases z))).trans hc
      refine ⟨hi', ⟨_, _, rfl⟩, (upd_ne (Ne.symm de)).trans (g6 _ _ hz), fun c ob h1 h2 h3 => (upd_ne h2).trans (g6 _ _ (hk3 c ob h1 h2 h3)), _, upd_same, ?_, fun j y kk w hy hw => ?_⟩
      · rw [List.map_append, hkeys, take_snoc hx, List.map_append]; rfl
      · rcases Nat.lt_or_ge j kv.length with q | q
        · rw [List.getElem?_append_left q] at hw
          exact (hvals j y kk w hy hw).keep fun c xs hc => kp7 _ _ (g6 _ _ hc)
        · rw [List.getElem?_append_right q] at hw
          have j0 : j - kv.length = 0 := by have := lt_of_get hw; simp at this; omega
          rw [j0] at hw
          simp at hw
          obtain ⟨rfl, rfl⟩ := hw
          have : j = i := by omega
          subst this
          rw [hx] at hy; injection hy with hy; subst hy
          exact (hv'.same e6).keep kp7
    · rintro σ H3 ⟨_, ⟨v5, v6, rfl⟩, hz, hk3, kv, hd3, hkeys, hvals⟩
      refine .inr ⟨e, o, _, hz, fun o' w' z => ?_, ?_⟩
      · have z' : H e = some (.frz o' w') := z
        rw [he] at z'; cases z'
      have tku : (tks fvs).take fvs.length = tks fvs := by rw [← ltk, List.take_length]
      rw [tku] at hkeys
      have kp : ∀ c xs, H3 c = some (.tup xs) → (upd H3 e (.dT fvs)) c = some (.tup xs) := fun c xs hc => (upd_ne (ne_of hc hz (by intro z; cases z))).trans hc
      refine ⟨_, rfl, k d _ kv (e1.free nd0) (fun c ob hc => ?_) ((upd_ne de).trans hd3) ?_ ?_⟩
      · by_cases ce : c = e
        · subst ce; rw [upd_same, ← he]; exact hc
        · rw [upd_ne ce]
          exact hk3 _ _ (g2 _ _ hc) (fun z => by subst z; rw [e1 _ _ hc] at nd0; cases nd0) ce
      · refine pd_mk (ts := (tks fvs).map (addT l)) (by rw [hkeys, List.map_map]; rfl) (nd_map_on ntd fun x hx y hy z => add_inj okl (pT.ko.ok hx) (pT.ko.ok hy) z) (fun y hy => ?_) (nz_mul n2 nz1 nzD) (fun y hy => ?_) fun j y kk w hy hw => ?_
        · obtain ⟨x, hx, rfl⟩ := List.mem_map.mp hy
          exact okl.add (pT.ko.ok hx)
        · unfold shT
          by_cases q : y.length = l.length
          · rw [if_pos q, Int.mul_comm]
            refine zr_mul (pT.out fun z => hy (List.mem_map.mpr ⟨_, z, add_sub q⟩))
          · rw [if_neg q, Int.mul_zero]; exact zr_zero n
        · rw [List.getElem?_map] at hy
          obtain ⟨x, hx, rfl⟩ := Option.map_eq_some_iff.mp hy
          have okx := pT.ko.ok (List.mem_of_getElem? hx)
          rw [shT_add (okx.1.trans okl.1.symm)]
          have hj := lt_of_get hx
          obtain ⟨x', hx', _, _, _, nzx⟩ := pT.get (i := j) (k := fvs[j]'(by omega) |>.1) (v := fvs[j]'(by omega) |>.2) (List.getElem?_eq_getElem (by omega))
          rw [hx] at hx'; injection hx' with hx'; subst hx'
          exact ⟨(hvals j x kk w hx hw).keep kp, nz_mul n2 z nzx⟩
      · have := congrArg List.length hkeys
        rw [List.length_map, List.length_map] at this
        omega
end
end K10
namespace K10
open PySem L2
open K1 K2 K3 K6 K8
section
variable {P : Program} {w : World} {K : PySem.W.Frag} {mg : Str → Option Value} {base : Heap} {f : Addr} {fd : FuncData} {C_Ring C_Fractions C_Rests C_Tails : Addr} {E_NoPrime E_NoRing : Addr}
local macro_rules | `(tactic| walk_at "sd") => `(tactic| first
  | assumption | (dsimp only; omega) | (dsimp only; decide) | exact ⟨by decide, by decide⟩ | exact ⟨by decide, by decide, by decide⟩ | exact Or.inl ⟨by decide, by decide⟩ | exact ⟨by omega, by omega⟩ | exact Or.inl ⟨by omega, by omega⟩ | exact Or.inr ⟨by decide, by decide⟩ | exact Or.inr ⟨by omega, by omega⟩)
local macro_rules | `(tactic| walk_at "rd") => `(tactic| repeat first
  | refine ⟨_, rfl, ?_⟩ | refine ⟨_, _, rfl, rfl, ?_⟩ | refine And.intro rfl ?_ | refine And.intro (by walk_at "sd") ?_ | with_reducible refine iteT ?_ | with_reducible refine iteF ?_ | (apply ixT_of; assumption; rfl))
local macro_rules | `(tactic| walk_at "clo") => `(tactic| exact h)

theorem scNeg : FnScope ["ring", "f", "found", "term", "number"] ["ring", "f"] (defScope s_negated) := ⟨rfl, rfl, rfl, by decide +kernel, rfl, by decide +kernel, by decide +kernel⟩
set_option maxHeartbeats 4000000 in
theorem ok_Neg  (F : FunD K "negated" "negated" s_negated .none f fd) (T : Txt K mg C_Ring C_Fractions C_Rests C_Tails)  (hfld : ∀ n : Int, n ≤ 9973 → (n = 0 ∨ Pr n) → ∃ C, FldQ P w K mg base C (AtN C_Fractions C_Rests n) n) : FnOk P w K mg base CX0 2 f fd ["ring", "f"] (spNeg C_Ring C_Fractions C_Rests) := by
  refine F.okN (k := 1) scNeg (fun vs H Q E h => ?_) (fun cdv A outer s H vs Q E hr h => ?_)
  · obtain ⟨r, e, m, pf, n, fvs, T0, D, rfl, _⟩ := h
    rfl
  obtain ⟨r, e, m, pf, n, fvs, T0, D, rfl, h⟩ := h
  obtain ⟨CF, B⟩ := hfld n h.1.nb h.1.np
  refine ⟨_, (pss_cons (ps_set (i := 2) scNeg.nd rfl (Or.inl rfl) (pe_dnewT))
    (pss_cons (ps_thw (ps_for PassesOwn.never rfl (pi_items (pv 1)) (pg_tup rfl (pgs_cons (pg_name (i := 3) scNeg.nd rfl (Or.inl rfl)) (pgs_cons (pg_name (i := 4) scNeg.nd rfl (Or.inl rfl)) pgs_nil))) (pss_one (ps_dput (uOne hr) (pv 2) (pv 3) (pe_m B.against (pe_fldK (K := K) rfl (pv 0) rfl) hr pass00 .nil ((pa_cons (pv 4) pa_nil))) rfl))))
    (pss_one (ps_ret (pv 2))))), ?_⟩
  obtain ⟨hR, he, pT, hl, k⟩ := h
  have n2 := hR.np
  obtain ⟨po, dx, hr0⟩ := hR.at_
  have hf := hR.fd
  obtain ⟨dF, hF⟩ := B.ins hf
  have nzD := pT.nz
  intro d nd0
  have g2 : Same H (upd H d (.dT [])) := Same.upd nd0
  have hd2 : (upd H d (HO.dT [])) d = some (.dT []) := upd_same
  generalize upd H d (HO.dT []) = H2 at g2 hd2
  have he2 := g2 _ _ he
  have de : d ≠ e := fun z => by subst z; rw [he] at nd0; cases nd0
  refine ⟨_, rfl, e, fvs, rfl, .inl he2, fun o => ?_⟩
  have ntd := pT.nts
  have ltk : (tks fvs).length = fvs.length := tks_len fvs
  refine for_ditem (fun i σ H' => i ≤ fvs.length ∧ (∃ v5 v6, σ = [some (.ref r), some (.ref e), some (.ref d), v5, v6]) ∧ FzD H' e o fvs ∧ (∀ b ob, H2 b = some ob → b ≠ d → b ≠ e → H' b = some ob) ∧ ∃ kv, H' d = some (.dT kv) ∧ kv.map (·.1) = ((tks fvs).take i).map ky ∧
    ∀ (j : Nat) (t : Tm) (k : List Key) (v : V), (tks fvs)[j]? = some t → kv[j]? = some (k, v) → Is n H' v (- T0 t) D) ?_ (fun i σ H' h => h.2.2.1) ?_ ?_
  · refine ⟨Nat.zero_le _, ⟨none, none, rfl⟩, upd_same, fun b ob hb _ be => ?_, [], ?_, rfl, fun j t k v _ z => by simp at z⟩
    · rw [upd_ne be]; exact hb
    · rw [upd_ne de]; exact hd2
  · rintro i kx vx σ H3 p b hk ⟨hi, ⟨v5, v6, rfl⟩, hz, hk3, kv, hd3, hkeys, hvals⟩ hp hb
    obtain ⟨x, hx, rfl, okx, ix, nzx⟩ := pT.get hk
    have hi' := lt_of_get hk
    refine ⟨p, _, rfl, SqT.of upd_same, rfl, _, _, rfl, _, _, rfl, rfl, ?_⟩
    have e4 : Same H3 (upd H3 p (.tup [.ref b, vx])) := Same.upd hp
    generalize upd H3 p (HO.tup [V.ref b, vx]) = H4 at e4
    have up : ∀ c ob, H c = some ob → (∀ kk, ob ≠ .dT kk) → H4 c = some ob := fun c ob hc nt => e4 _ _ (hk3 _ _ (g2 _ _ hc) (ne_of (g2 _ _ hc) hd2 (nt _)) (ne_of (g2 _ _ hc) he2 (nt _)))
    have upt : ∀ c xs, H c = some (.tup xs) → H4 c = some (.tup xs) := fun c xs hc => up _ _ hc (by intro _ z; cases z)
    have hR4 : RgK C_Ring C_Fractions C_Rests H4 r m pf n := hR.keep fun c ob hc ⟨C', dy, fs, z⟩ => up _ _ hc (by intro _ q; rw [z] at q; cases q)
    refine ⟨_, rfl, r, C_Ring, dx, _, _, rfl, up _ _ hr0 (by intro _ z; cases z), T.cl_Ring, T.na_Ring_field, rfl, pf, dF, _, rfl, up _ _ hF (by intro _ z; cases z), no_P _ _ (by decide +kernel), _, rfl, pf, vx, _, _, rfl, hR4.fd, ix.keep upt, fun v' H5 e5 hv' => ?_⟩
    have g6 := e4.trans e5
    have hd6 := g6 _ _ hd3
    have nk : ky x ∉ kv.map (·.1) := by
      rw [hkeys]
      intro z
      obtain ⟨y, hy, ey⟩ := List.mem_map.mp z
      rw [ky_inj ey] at hy
      exact nd_take ntd hx hy
    have lkv : kv.length = i := by
      have := congrArg List.length hkeys
      rw [List.length_map, List.length_map, List.length_take] at this
      omega
    refine ⟨_, rfl, _, rfl, d, _, rfl, DPut.t hd6 (g6 _ _ hb) (by omega), ?_⟩
    rw [putK_new nk]
    have kp7 : ∀ c xs, H5 c = some (.tup xs) → (upd H5 d (.dT (kv ++ [(ky x, v')]))) c = some (.tup xs) := fun c xs hc => (upd_ne (ne_of hc hd6 (by intro z; cases z))).trans hc
    refine ⟨hi', ⟨_, _, rfl⟩, (upd_ne (Ne.symm de)).trans (g6 _ _ hz), fun c ob h1 h2 h3 => (upd_ne h2).trans (g6 _ _ (hk3 c ob h1 h2 h3)), _, upd_same, ?_, fun j y kk w hy hw => ?_⟩
    · rw [List.map_append, hkeys, take_snoc hx, List.map_append]; rfl
    · rcases Nat.lt_or_ge j kv.length with q | q
      · rw [List.getElem?_append_left q] at hw
        exact (hvals j y kk w hy hw).keep fun c xs hc => kp7 _ _ (g6 _ _ hc)
      · rw [List.getElem?_append_right q] at hw
        have j0 : j - kv.length = 0 := by have := lt_of_get hw; simp at this; omega
        rw [j0] at hw
        simp at hw
        obtain ⟨rfl, rfl⟩ := hw
        have : j = i := by omega
        subst this
        rw [hx] at hy; injection hy with hy; subst hy
        exact hv'.keep kp7
  · rintro σ H3 ⟨_, ⟨v5, v6, rfl⟩, hz, hk3, kv, hd3, hkeys, hvals⟩
    refine .inr ⟨e, o, _, hz, fun o' w' z => ?_, ?_⟩
    · have z' : H e = some (.frz o' w') := z
      rw [he] at z'; cases z'
    have tku : (tks fvs).take fvs.length = tks fvs := by rw [← ltk, List.take_length]
    rw [tku] at hkeys
    have kp : ∀ c xs, H3 c = some (.tup xs) → (upd H3 e (.dT fvs)) c = some (.tup xs) := fun c xs hc => (upd_ne (ne_of hc hz (by intro z; cases z))).trans hc
    refine ⟨_, rfl, k d _ kv nd0 (fun c ob hc => ?_) ((upd_ne de).trans hd3) ?_ ?_⟩
    · by_cases ce : c = e
      · subst ce; rw [upd_same, ← he]; exact hc
      · rw [upd_ne ce]
        exact hk3 _ _ (g2 _ _ hc) (fun z => by subst z; rw [hc] at nd0; cases nd0) ce
    · refine pd_mk (ts := tks fvs) hkeys ntd (fun y hy => pT.ko.ok hy) nzD (fun y hy => zr_neg.mpr (pT.out hy)) fun j y kk w hy hw => ?_
      have hj := lt_of_get hy
      obtain ⟨x', hx', _, _, _, nzx⟩ := pT.get (i := j) (k := fvs[j]'(by omega) |>.1) (v := fvs[j]'(by omega) |>.2) (List.getElem?_eq_getElem (by omega))
      rw [hy] at hx'; injection hx' with hx'; subst hx'
      exact ⟨(hvals j y kk w hy hw).keep kp, fun z => nzx (zr_neg.mp z)⟩
    · have := congrArg List.length hkeys
      rw [List.length_map, List.length_map] at this
      omega
end
end K10
namespace K10
open PySem L2
open K1 K2 K3 K6 K8
section
variable {P : Program} {w : World} {K : PySem.W.Frag} {mg : Str → Option Value} {base : Heap} {f : Addr} {fd : FuncData} {C_Ring C_Fractions C_Rests C_Tails : Addr} {E_NoPrime E_NoRing : Addr}
local macro_rules | `(tactic| walk_at "sd") => `(tactic| first
  | assumption | (dsimp only; omega) | (dsimp only; decide) | exact ⟨by decide, by decide⟩ | exact ⟨by decide, by decide, by decide⟩ | exact Or.inl ⟨by decide, by decide⟩ | exact ⟨by omega, by omega⟩ | exact Or.inl ⟨by omega, by omega⟩ | exact Or.inr ⟨by decide, by decide⟩ | exact Or.inr ⟨by omega, by omega⟩)
local macro_rules | `(tactic| walk_at "rd") => `(tactic| repeat first
  | refine ⟨_, rfl, ?_⟩ | refine ⟨_, _, rfl, rfl, ?_⟩ | refine And.intro rfl ?_ | refine And.intro (by walk_at "sd") ?_ | with_reducible refine iteT ?_ | with_reducible refine iteF ?_ | (apply ixT_of; assumption; rfl))
local macro_rules | `(tactic| walk_at "clo") => `(tactic| exact h)

theorem scPlus : FnScope ["ring", "f", "g", "total"] ["ring", "f", "g"] (defScope s_plus) := ⟨rfl, rfl, rfl, by decide +kernel, rfl, by decide +kernel, by decide +kernel⟩
set_option maxHeartbeats 4000000 in
theorem ok_Plus  (F : FunD K "plus" "plus" s_plus .none f fd) (T : Txt K mg C_Ring C_Fractions C_Rests C_Tails) (c_Absorb : Cal P w K mg base CX0 4 "absorb" ["ring", "total", "f"] [] (spAbs C_Ring C_Fractions C_Rests))  : FnOk P w K mg base CX0 5 f fd ["ring", "f", "g"] (spPlus C_Ring C_Fractions C_Rests) := by
  refine F.okN (k := 4) scPlus (fun vs H Q E h => ?_) (fun cdv A outer s H vs Q E hr h => ?_)
  · obtain ⟨r, e1, e2, m, pf, n, fvs, gvs, T1, T2, D, rfl, _⟩ := h
    rfl
  obtain ⟨r, e1, e2, m, pf, n, fvs, gvs, T1, T2, D, rfl, h⟩ := h
  refine ⟨_, (pss_cons (ps_set (i := 3) scPlus.nd rfl (Or.inl rfl) (pe_callTy call_dictD rfl T.b_dict (by kernel_rfl) ((pa_cons (pv 1) pa_nil))))
    (pss_cons (ps_expr (pe_c c_Absorb hr pass00 .nil ((pa_cons (pv 0) (pa_cons (pv 3) (pa_cons (pv 2) pa_nil))))))
    (pss_one (ps_ret (pv 3))))), ?_⟩
  obtain ⟨hR, h1, h2, p1, p2, hds, hl, b1, b2, bD, k⟩ := h
  refine ⟨_, rfl, e1, fvs, rfl, h1, hds, fun d nd => ?_⟩
  have g : Same H (upd H d (.dT fvs)) := Same.upd nd
  have hd : (upd H d (HO.dT fvs)) d = some (.dT fvs) := upd_same
  generalize upd H d (HO.dT fvs) = H1 at g hd
  have de : d ≠ e2 := fun z => by subst z; rw [h2] at nd; cases nd
  refine ⟨_, rfl, _, rfl, _, rfl, r, d, e2, m, pf, n, fvs, gvs, T1, T2, D, rfl, hR.same g, de, hd, g _ _ h2, p1.same g, p2.same g, hl, b1, b2, bD, fun H2 kvs bt hd2 pd lk => ?_⟩
  exact ⟨_, rfl, k d H2 kvs nd (fun c o hc => bt c o (g _ _ hc) (fun z => by subst z; rw [hc] at nd; cases nd)) hd2 pd lk⟩
end
end K10
namespace K10
open PySem L2
open K1 K2 K3 K6 K8
section
variable {P : Program} {w : World} {K : PySem.W.Frag} {mg : Str → Option Value} {base : Heap} {f : Addr} {fd : FuncData} {C_Ring C_Fractions C_Rests C_Tails : Addr} {E_NoPrime E_NoRing : Addr}
local macro_rules | `(tactic| walk_at "sd") => `(tactic| first
  | assumption | (dsimp only; omega) | (dsimp only; decide) | exact ⟨by decide, by decide⟩ | exact ⟨by decide, by decide, by decide⟩ | exact Or.inl ⟨by decide, by decide⟩ | exact ⟨by omega, by omega⟩ | exact Or.inl ⟨by omega, by omega⟩ | exact Or.inr ⟨by decide, by decide⟩ | exact Or.inr ⟨by omega, by omega⟩)
local macro_rules | `(tactic| walk_at "rd") => `(tactic| repeat first
  | refine ⟨_, rfl, ?_⟩ | refine ⟨_, _, rfl, rfl, ?_⟩ | refine And.intro rfl ?_ | refine And.intro (by walk_at "sd") ?_ | with_reducible refine iteT ?_ | with_reducible refine iteF ?_ | (apply ixT_of; assumption; rfl))
local macro_rules | `(tactic| walk_at "clo") => `(tactic| exact h)

theorem scMinus : FnScope ["ring", "f", "g"] ["ring", "f", "g"] (defScope s_minus) := ⟨rfl, rfl, rfl, by decide +kernel, rfl, by decide +kernel, by decide +kernel⟩
set_option maxHeartbeats 4000000 in
theorem ok_Minus  (F : FunD K "minus" "minus" s_minus .none f fd) (T : Txt K mg C_Ring C_Fractions C_Rests C_Tails) (c_Neg : Cal P w K mg base CX0 2 "negated" ["ring", "f"] [] (spNeg C_Ring C_Fractions C_Rests)) (c_Plus : Cal P w K mg base CX0 5 "plus" ["ring", "f", "g"] [] (spPlus C_Ring C_Fractions C_Rests))  : FnOk P w K mg base CX0 6 f fd ["ring", "f", "g"] (spMinus C_Ring C_Fractions C_Rests) := by
  refine F.okN (k := 5) scMinus (fun vs H Q E h => ?_) (fun cdv A outer s H vs Q E hr h => ?_)
  · obtain ⟨r, e1, e2, m, pf, n, fvs, gvs, T1, T2, D, rfl, _⟩ := h
    rfl
  obtain ⟨r, e1, e2, m, pf, n, fvs, gvs, T1, T2, D, rfl, h⟩ := h
  refine ⟨_, (pss_one (ps_ret (pe_c c_Plus hr pass00 .nil ((pa_cons (pv 0) (pa_cons (pv 1) (pa_cons (pe_c c_Neg hr pass00 .nil ((pa_cons (pv 0) (pa_cons (pv 2) pa_nil)))) pa_nil))))))), ?_⟩
  obtain ⟨hR, h1, h2, p1, p2, hds, hl, b1, b2, bD, k⟩ := h
  refine ⟨_, rfl, _, rfl, _, rfl, _, rfl, r, e2, m, pf, n, gvs, T2, D, rfl, hR, h2, p2, by omega, fun d H1 kvs nd g hd pd lk => ?_⟩
  refine ⟨r, e1, d, m, pf, n, fvs, kvs, T1, _, D, rfl, hR.same g, g _ _ h1, hd, p1.same g, pd, hds, by omega, b1, b2.neg, bD, fun d2 H2 kvs2 nd2 g2 hd2 pd2 lk2 => ?_⟩
  exact k d2 H2 kvs2 (g.free nd2) (g.trans g2) hd2 pd2 (by omega)
end
end K10
namespace K10
open PySem L2
open K1 K2 K3 K6 K8
section
variable {P : Program} {w : World} {K : PySem.W.Frag} {mg : Str → Option Value} {base : Heap} {f : Addr} {fd : FuncData} {C_Ring C_Fractions C_Rests C_Tails : Addr} {E_NoPrime E_NoRing : Addr}
local macro_rules | `(tactic| walk_at "sd") => `(tactic| first
  | assumption | (dsimp only; omega) | (dsimp only; decide) | exact ⟨by decide, by decide⟩ | exact ⟨by decide, by decide, by decide⟩ | exact Or.inl ⟨by decide, by decide⟩ | exact ⟨by omega, by omega⟩ | exact Or.inl ⟨by omega, by omega⟩ | exact Or.inr ⟨by decide, by decide⟩ | exact Or.inr ⟨by omega, by omega⟩)
local macro_rules | `(tactic| walk_at "rd") => `(tactic| repeat first
  | refine ⟨_, rfl, ?_⟩ | refine ⟨_, _, rfl, rfl, ?_⟩ | refine And.intro rfl ?_ | refine And.intro (by walk_at "sd") ?_ | with_reducible refine iteT ?_ | with_reducible refine iteF ?_ | (apply ixT_of; assumption; rfl))
local macro_rules | `(tactic| walk_at "clo") => `(tactic| exact h)

theorem scTimes : FnScope ["ring", "f", "g", "total", "term", "number"] ["ring", "f", "g"] (defScope s_times) := ⟨rfl, rfl, rfl, by decide +kernel, rfl, by decide +kernel, by decide +kernel⟩
set_option maxHeartbeats 4000000 in
theorem ok_Times  (F : FunD K "times" "times" s_times .none f fd) (T : Txt K mg C_Ring C_Fractions C_Rests C_Tails) (c_Scal : Cal P w K mg base CX0 4 "scaled" ["ring", "number", "term", "f"] [] (spScal C_Ring C_Fractions C_Rests)) (c_Absorb : Cal P w K mg base CX0 4 "absorb" ["ring", "total", "f"] [] (spAbs C_Ring C_Fractions C_Rests))  : FnOk P w K mg base CX0 6 f fd ["ring", "f", "g"] (spTimes C_Ring C_Fractions C_Rests) := by
  refine F.okN (k := 5) scTimes (fun vs H Q E h => ?_) (fun cdv A outer s H vs Q E hr h => ?_)
  · obtain ⟨r, e1, e2, m, pf, n, fvs, gvs, T1, D1, T2, D2, rfl, _⟩ := h
    rfl
  obtain ⟨r, e1, e2, m, pf, n, fvs, gvs, T1, D1, T2, D2, rfl, h⟩ := h
  refine ⟨_, (pss_cons (ps_set (i := 3) scTimes.nd rfl (Or.inl rfl) (pe_dnewT))
    (pss_cons (ps_thw (ps_for PassesOwn.never rfl (pi_items (pv 1)) (pg_tup rfl (pgs_cons (pg_name (i := 4) scTimes.nd rfl (Or.inl rfl)) (pgs_cons (pg_name (i := 5) scTimes.nd rfl (Or.inl rfl)) pgs_nil))) (pss_one (ps_expr (pe_c c_Absorb hr pass00 .nil ((pa_cons (pv 0) (pa_cons (pv 3) (pa_cons (pe_c c_Scal hr pass00 .nil ((pa_cons (pv 0) (pa_cons (pv 5) (pa_cons (pv 4) (pa_cons (pv 2) pa_nil)))))) pa_nil)))))))))
    (pss_one (ps_ret (pv 3))))), ?_⟩
  obtain ⟨hR, e12, h1, h2, p1, p2, l1, l2, b1, b2, bD1, bD2, k⟩ := h
  have n2 := hR.np
  intro d nd0
  have g2 : Same H (upd H d (.dT [])) := Same.upd nd0
  have hd2 : (upd H d (HO.dT [])) d = some (.dT []) := upd_same
  generalize upd H d (HO.dT []) = H2 at g2 hd2
  have he2 := g2 _ _ h1
  have de : d ≠ e1 := fun z => by subst z; rw [h1] at nd0; cases nd0
  have de2 : d ≠ e2 := fun z => by subst z; rw [h2] at nd0; cases nd0
  refine ⟨_, rfl, e1, fvs, rfl, .inl he2, fun o => ?_⟩
  have ltk : (tks fvs).length = fvs.length := tks_len fvs
  have nzD := nz_mul n2 p1.nz p2.nz
  have sl : 4096 < sizeLine := by rw [sizeLine_eq]; decide
  refine for_ditem (fun i σ H' => i ≤ fvs.length ∧ (∃ v5 v6, σ = [some (.ref r), some (.ref e1), some (.ref e2), some (.ref d), v5, v6]) ∧ FzD H' e1 o fvs ∧ (∀ b ob, H2 b = some ob → b ≠ d → b ≠ e1 → H' b = some ob) ∧ ∃ kv, H' d = some (.dT kv) ∧ PD n m H' kv (cv T1 ((tks fvs).take i) T2) (D1 * D2) ∧ kv.length ≤ i * gvs.length) ?_ (fun i σ H' h => h.2.2.1) ?_ ?_
  · refine ⟨Nat.zero_le _, ⟨none, none, rfl⟩, upd_same, fun b ob hb _ be => ?_, [], ?_, ?_, Nat.zero_le _⟩
    · rw [upd_ne be]; exact hb
    · rw [upd_ne de]; exact hd2
    · exact PD.nil n2 nzD fun t => by rw [List.take_zero, cv_nil]; exact zr_zero n
  · rintro i kx vx σ H3 p b hk ⟨hi, ⟨v5, v6, rfl⟩, hz, hk3, kv, hd3, pk, lk⟩ hp hb
    obtain ⟨x, hx, rfl, okx, ix, nzx⟩ := p1.get hk
    have hi' := lt_of_get hk
    refine ⟨p, _, rfl, SqT.of upd_same, rfl, _, _, rfl, _, _, rfl, rfl, ?_⟩
    have e4 : Same H3 (upd H3 p (.tup [.ref b, vx])) := Same.upd hp
    generalize upd H3 p (HO.tup [V.ref b, vx]) = H4 at e4
    have upp : ∀ c ob, H c = some ob → c ≠ e1 → H4 c = some ob := fun c ob hc ce => e4 _ _ (hk3 _ _ (g2 _ _ hc) (fun z => by subst z; rw [hc] at nd0; cases nd0) ce)
    have upt : ∀ c xs, H c = some (.tup xs) → H4 c = some (.tup xs) := fun c xs hc => upp _ _ hc (ne_of hc h1 (by intro z; cases z))
    have hR4 : RgK C_Ring C_Fractions C_Rests H4 r m pf n := hR.keep fun c ob hc ⟨C', dy, fs, z⟩ => upp _ _ hc (ne_of hc h1 (by intro q; rw [z] at q; cases q))
    have hb4 := e4 _ _ hb
    rw [ky_kV] at hb4
    refine ⟨_, rfl, _, rfl, _, rfl, _, rfl, _, rfl, _, rfl, r, vx, b, e2, m, pf, n, gvs, T1 x, D1, x, T2, D2, rfl, hR4, ix.keep upt, p1.nz, fun z => ⟨up (b1 z x) (by decide), up (bD1 z) (by decide)⟩, hb4, okx, upp _ _ h2 (Ne.symm e12), p2.keep upt, bdd_up b2 (by decide), fun z => up (bD2 z) (by decide), by omega, fun d5 H5 kv5 nd5 g5 hd5 pd5 lk5 => ?_⟩
    have g45 := e4.trans g5
    have hd3' := g45 _ _ hd3
    have ne5 : d ≠ d5 := fun z => by subst z; rw [e4 _ _ hd3] at nd5; cases nd5
    have lkk : i * gvs.length ≤ 4032 := Nat.le_trans (Nat.mul_le_mul (show i ≤ 63 by omega) l2) (by decide)
    have bcv : Bdd n (cv T1 ((tks fvs).take i) T2) 208 := cv_bdd b1 b2 (by rw [List.length_take]; omega)
    refine ⟨r, d, d5, m, pf, n, kv, kv5, _, _, D1 * D2, rfl, hR4.same g5, ne5, hd3', hd5, pk.same g45, pd5, by omega, bdd_up bcv (by decide), fun z t => ?_, fun z => up (mul_up (bD1 z) (bD2 z)) (by decide), fun H6 kv6 bt6 hd6 pd6 lk6 => ?_⟩
    · exact up (mul_up (b1 z x) (shT_bd x b2 z t)) (by decide)
    refine ⟨hi', ⟨_, _, rfl⟩, bt6 _ _ (g45 _ _ hz) (Ne.symm de), fun c ob q1 q2 q3 => bt6 _ _ (g45 _ _ (hk3 c ob q1 q2 q3)) q2, kv6, hd6, ?_, ?_⟩
    · have : cv T1 ((tks fvs).take (i + 1)) T2 = fun t => cv T1 ((tks fvs).take i) T2 t + T1 x * shT x T2 t := funext fun t => by rw [take_snoc hx, cv_snoc]
      rw [this]; exact pd6
    · rw [Nat.succ_mul]; omega
  · rintro σ H3 ⟨_, ⟨v5, v6, rfl⟩, hz, hk3, kv, hd3, pk, lk⟩
    refine .inr ⟨e1, o, _, hz, fun o' w' z => ?_, ?_⟩
    · have z' : H e1 = some (.frz o' w') := z
      rw [h1] at z'; cases z'
    have tku : (tks fvs).take fvs.length = tks fvs := by rw [← ltk, List.take_length]
    rw [tku] at pk
    have kp : ∀ c xs, H3 c = some (.tup xs) → (upd H3 e1 (.dT fvs)) c = some (.tup xs) := fun c xs hc => (upd_ne (ne_of hc hz (by intro z; cases z))).trans hc
    refine ⟨_, rfl, k d _ kv nd0 (fun c ob hc => ?_) ((upd_ne de).trans hd3) (pk.keep kp) lk⟩
    by_cases ce : c = e1
    · subst ce; rw [upd_same, ← h1]; exact hc
    · rw [upd_ne ce]
      exact hk3 _ _ (g2 _ _ hc) (fun z => by subst z; rw [hc] at nd0; cases nd0) ce
end
end K10
namespace K10
open PySem L2
open K1 K2 K3 K6 K8
section
variable {P : Program} {w : World} {K : PySem.W.Frag} {mg : Str → Option Value} {base : Heap} {f : Addr} {fd : FuncData} {C_Ring C_Fractions C_Rests C_Tails : Addr} {E_NoPrime E_NoRing : Addr}
local macro_rules | `(tactic| walk_at "sd") => `(tactic| first
  | assumption | (dsimp only; omega) | (dsimp only; decide) | exact ⟨by decide, by decide⟩ | exact ⟨by decide, by decide, by decide⟩ | exact Or.inl ⟨by decide, by decide⟩ | exact ⟨by omega, by omega⟩ | exact Or.inl ⟨by omega, by omega⟩ | exact Or.inr ⟨by decide, by decide⟩ | exact Or.inr ⟨by omega, by omega⟩)
local macro_rules | `(tactic| walk_at "rd") => `(tactic| repeat first
  | refine ⟨_, rfl, ?_⟩ | refine ⟨_, _, rfl, rfl, ?_⟩ | refine And.intro rfl ?_ | refine And.intro (by walk_at "sd") ?_ | with_reducible refine iteT ?_ | with_reducible refine iteF ?_ | (apply ixT_of; assumption; rfl))
local macro_rules | `(tactic| walk_at "clo") => `(tactic| exact h)

theorem scGp : FnScope ["f", "at"] ["f", "at"] (defScope s_greatest_power) := ⟨rfl, rfl, rfl, by decide +kernel, rfl, by decide +kernel, by decide +kernel⟩
set_option maxHeartbeats 4000000 in
theorem ok_Gp  (F : FunD K "greatest_power" "greatest_power" s_greatest_power .none f fd) (T : Txt K mg C_Ring C_Fractions C_Rests C_Tails)   : FnOk P w K mg base CX0 1 f fd ["f", "at"] spGp := by
  refine F.okN (k := 0) scGp (fun vs H Q E h => ?_) (fun cdv A outer s H vs Q E hr h => ?_)
  · obtain ⟨e, a, m, fvs, rfl, _⟩ := h
    rfl
  obtain ⟨e, a, m, fvs, rfl, h⟩ := h
  refine ⟨_, (pss_one (ps_ret (pe_maxD (pe_thw (pe_comp (N := ["term", "at"]) (cl := [("at", s.heap.objs.size + 1)]) (mp := [none, some 1]) (Blk.of rfl (by decide +kernel) rfl (by decide +kernel) nd_term_at (subc_cons rfl subc_nil) (fr_of (fs := ["at"]) rfl (by decide +kernel)) rfl (mapc_none (mapc_some rfl (.inl rfl) rfl mapc_nil))) rfl (pi_dict (pv 0)) (fun C0 s0 H0 fp0 => pg_one (i := 0) nd_term_at rfl rfl) (fun C0 s0 H0 fp0 => pts_nil) (fun C0 s0 H0 fp0 => pe_ix (r := rIxT K) ix_tup (pv 0) (pv 1) (fun _ _ => rfl)))) (pe_int) hr T.b_max))), ?_⟩
  obtain ⟨he, ko, am, hl, k⟩ := h
  show tComp _ _ _ _ _ _ _ _
  refine dkey_comp (d := e) (fvs := fvs) he ?_ hl (fun σ => ∃ v, σ = [v, some (.int a)]) (fun _ => true) (fun i => .int (((tks fvs).getD i []).getD a 0)) ⟨none, rfl⟩ ?_ fun o D H' De e' hL => ?_
  · exact fun R hR => ⟨_, rfl, hR⟩
  · rintro o i x σ' H2 hi ⟨z, rfl⟩ e2 ⟨b, kk, v, hk, hb, rfl⟩ Ny Nn hy hn
    obtain ⟨t, ht, rfl, okt⟩ := ko.get hk
    rw [ky_kV] at hb
    have e5 : (tks fvs).getD i [] = t := by rw [List.getD_eq_getElem?_getD, ht]; rfl
    have e6 : (t.map V.int)[a]? = some (V.int (t.getD a 0)) := by
      rw [List.getElem?_map, List.getElem?_eq_getElem (by rw [okt.1]; exact am), List.getD_eq_getElem?_getD, List.getElem?_eq_getElem (by rw [okt.1]; exact am)]; rfl
    unfold gName tYes
    dsimp only
    rw [if_pos rfl]
    refine ⟨_, rfl, _, rfl, b, _, _, _, rfl, rfl, SqT.of hb, atI_nat e6, ?_⟩
    rw [e5] at hy
    exact hy _ _ ⟨_, rfl⟩ (Same.refl _) rfl
  rw [List.filter_eq_self.mpr (fun _ _ => rfl)] at hL
  have hz' : H' e = some (.frz o (.dT fvs)) := e' _ _ upd_same
  refine .inr ⟨e, o, _, hz', fun o' w' z => ?_, ?_⟩
  · have z' : H e = some (.frz o' w') := z
    rw [he] at z'; cases z'
  have eL : (List.range fvs.length).map (fun i => V.int (((tks fvs).getD i []).getD a 0)) = ((tks fvs).map fun t => t.getD a 0).map V.int := by
    rw [← tks_len fvs, List.map_map]
    refine List.ext_getElem (by simp) fun i h1 h2 => ?_
    simp at h1
    simp [List.getD_eq_getElem?_getD, h1]
  rw [eL] at hL
  refine ⟨D, _, 0, rfl, rfl, (upd_ne De).trans hL, ?_⟩
  exact k _ (same_thaw he e')
end
end K10
namespace K10
open PySem L2
open K1 K2 K3 K6 K8
section
variable {P : Program} {w : World} {K : PySem.W.Frag} {mg : Str → Option Value} {base : Heap} {f : Addr} {fd : FuncData} {C_Ring C_Fractions C_Rests C_Tails : Addr} {E_NoPrime E_NoRing : Addr}
local macro_rules | `(tactic| walk_at "sd") => `(tactic| first
  | assumption | (dsimp only; omega) | (dsimp only; decide) | exact ⟨by decide, by decide⟩ | exact ⟨by decide, by decide, by decide⟩ | exact Or.inl ⟨by decide, by decide⟩ | exact ⟨by omega, by omega⟩ | exact Or.inl ⟨by omega, by omega⟩ | exact Or.inr ⟨by decide, by decide⟩ | exact Or.inr ⟨by omega, by omega⟩)
local macro_rules | `(tactic| walk_at "rd") => `(tactic| repeat first
  | refine ⟨_, rfl, ?_⟩ | refine ⟨_, _, rfl, rfl, ?_⟩ | refine And.intro rfl ?_ | refine And.intro (by walk_at "sd") ?_ | with_reducible refine iteT ?_ | with_reducible refine iteF ?_ | (apply ixT_of; assumption; rfl))
local macro_rules | `(tactic| walk_at "clo") => `(tactic| exact h)

theorem scReach : FnScope ["ring", "f"] ["ring", "f"] (defScope s_reach) := ⟨rfl, rfl, rfl, by decide +kernel, rfl, by decide +kernel, by decide +kernel⟩
set_option maxHeartbeats 4000000 in
theorem ok_Reach  (F : FunD K "reach" "reach" s_reach .none f fd) (T : Txt K mg C_Ring C_Fractions C_Rests C_Tails) (c_Gp : Cal P w K mg base CX0 1 "greatest_power" ["f", "at"] [] spGp)  : FnOk P w K mg base CX0 2 f fd ["ring", "f"] (spReach C_Ring) := by
  refine F.okN (k := 1) scReach (fun vs H Q E h => ?_) (fun cdv A outer s H vs Q E hr h => ?_)
  · obtain ⟨r, e, m, pf, po, fvs, rfl, _⟩ := h
    rfl
  obtain ⟨r, e, m, pf, po, fvs, rfl, h⟩ := h
  refine ⟨_, (pss_one (ps_ret (pe_callTy (call_tupleK (K := K) rfl) rfl T.b_tuple (by kernel_rfl) ((pa_cons (pe_comp (N := ["at", "f"]) (cl := [("f", s.heap.objs.size + 1)]) (mp := [none, some 1]) (Blk.of rfl (by decide +kernel) rfl (by decide +kernel) nd_at_f (subc_cons rfl subc_nil) (fr_of (fs := ["f"]) rfl (by decide +kernel)) rfl (mapc_none (mapc_some rfl (.inl rfl) rfl mapc_nil))) rfl (pi_range1 rfl T.b_range ((pa_cons (pe_fldK (K := K) rfl (pv 0) rfl) pa_nil))) (fun C0 s0 H0 fp0 => pg_one (i := 0) nd_at_f rfl rfl) (fun C0 s0 H0 fp0 => pts_nil) (fun C0 s0 H0 fp0 => pe_c c_Gp hr pass00 .nil ((pa_cons (pv 1) (pa_cons (pv 0) pa_nil))))) pa_nil))))), ?_⟩
  obtain ⟨⟨dx, hr0⟩, m4, he, ko, hl, k⟩ := h
  show tComp _ _ _ _ _ _ _ _
  refine walk_comp (J := Itr 0 m) (H1 := H) (walk_range 0 m) (by omega) ?_ (fun σ => ∃ v, σ = [v, some (.ref e)]) (fun _ => true) (fun i => .int (mxD 0 ((tks fvs).map fun t => t.getD i 0))) ⟨none, rfl⟩ ?_ fun D H' e' hL => ?_
  · exact fun R hR => ⟨_, rfl, r, C_Ring, dx, _, _, rfl, hr0, T.cl_Ring, T.na_Ring_many, rfl, (m : Int), rfl, by omega, by omega, hR⟩
  · rintro i x σ' H2 hi ⟨z, rfl⟩ e2 rfl Ny Nn hy hn
    unfold gName tYes
    dsimp only
    rw [if_pos rfl]
    refine ⟨_, rfl, _, rfl, e, i, m, fvs, by simp, e2 _ _ he, ko, hi, hl, fun H3 e3 => ?_⟩
    exact hy _ _ ⟨_, rfl⟩ e3 rfl
  rw [List.filter_eq_self.mpr (fun _ _ => rfl)] at hL
  have eL : (List.range m).map (fun i => V.int (mxD 0 ((tks fvs).map fun t => t.getD i 0))) = (rch m (tks fvs)).map V.int := by unfold rch; rw [List.map_map]; rfl
  rw [eL] at hL
  refine ⟨D, _, rfl, .inl ⟨SqL.of hL, fun rr hr => ?_⟩⟩
  exact k rr _ (e'.trans (Same.upd hr)) upd_same
end
end K10
namespace K10
open PySem L2
open K1 K2 K3 K6 K8
section
variable {P : Program} {w : World} {K : PySem.W.Frag} {mg : Str → Option Value} {base : Heap} {f : Addr} {fd : FuncData} {C_Ring C_Fractions C_Rests C_Tails : Addr} {E_NoPrime E_NoRing : Addr}
local macro_rules | `(tactic| walk_at "sd") => `(tactic| first
  | assumption | (dsimp only; omega) | (dsimp only; decide) | exact ⟨by decide, by decide⟩ | exact ⟨by decide, by decide, by decide⟩ | exact Or.inl ⟨by decide, by decide⟩ | exact ⟨by omega, by omega⟩ | exact Or.inl ⟨by omega, by omega⟩ | exact Or.inr ⟨by decide, by decide⟩ | exact Or.inr ⟨by omega, by omega⟩)
local macro_rules | `(tactic| walk_at "rd") => `(tactic| repeat first
  | refine ⟨_, rfl, ?_⟩ | refine ⟨_, _, rfl, rfl, ?_⟩ | refine And.intro rfl ?_ | refine And.intro (by walk_at "sd") ?_ | with_reducible refine iteT ?_ | with_reducible refine iteF ?_ | (apply ixT_of; assumption; rfl))
local macro_rules | `(tactic| walk_at "clo") => `(tactic| exact h)

theorem scPw : FnScope ["field", "number", "greatest", "powers"] ["field", "number", "greatest"] (defScope s_powers_of) := ⟨rfl, rfl, rfl, by decide +kernel, rfl, by decide +kernel, by decide +kernel⟩
set_option maxHeartbeats 4000000 in
theorem ok_Pw  (F : FunD K "powers_of" "powers_of" s_powers_of .none f fd) (T : Txt K mg C_Ring C_Fractions C_Rests C_Tails)  (hfld : ∀ n : Int, n ≤ 9973 → (n = 0 ∨ Pr n) → ∃ C, FldQ P w K mg base C (AtN C_Fractions C_Rests n) n) : FnOk P w K mg base CX0 4 f fd ["field", "number", "greatest"] (spPw C_Fractions C_Rests) := by
  refine F.okN (k := 3) scPw (fun vs H Q E h => ?_) (fun cdv A outer s H vs Q E hr h => ?_)
  · obtain ⟨p, v, x, b, g, n, rfl, _⟩ := h
    rfl
  obtain ⟨p, v, x, b, g, n, rfl, h⟩ := h
  obtain ⟨CF, B⟩ := hfld n h.1 h.2.1
  refine ⟨_, (pss_cons (ps_set (i := 3) scPw.nd rfl (Or.inl rfl) (pe_lst ((pa_cons (pe_m0 B.one (pv 0) hr pass00 .nil) pa_nil))))
    (pss_cons (ps_while PassesOwn.never (pt_cmpR op_le (pe_callB (call_lenK (K := K) rfl) rfl T.b_len PySem.boot_len ((pa_cons (pv 3) pa_nil))) (pv 2) (nomark _)) (pss_one (ps_expr (pe_bm PySem.F.plainAttrs_list PySem.F.slot_list_append PySem.F.type_list_append mt_append (pv 3) ((pa_cons (pe_m B.times (pv 0) hr pass00 .nil ((pa_cons (pe_ix (r := rIxL K) ix_list (pv 3) (pe_un un_neg pe_int) (fun _ _ => rfl)) (pa_cons (pv 1) pa_nil)))) pa_nil))))))
    (pss_one (ps_ret (pv 3))))), ?_⟩
  obtain ⟨n1, n2, hf, iv, nb, g0, g1, pb, k⟩ := h
  obtain ⟨dF, hF⟩ := B.ins hf
  refine ⟨_, rfl, p, dF, _, rfl, hF, no_P _ _ (by decide +kernel), p, rfl, hf, fun u H1 e1 hu => ?_⟩
  refine ⟨(by show 1 ≤ sizeLine; decide), fun D nD => ?_⟩
  have e2 : Same H (upd H1 D (.lst [u])) := e1.updR (e1.free nD)
  have hD2 : (upd H1 D (HO.lst [u])) D = some (.lst [u]) := upd_same
  have hu2 : Is n (upd H1 D (HO.lst [u])) u 1 1 := hu.same (Same.upd nD)
  generalize upd H1 D (HO.lst [u]) = H2 at e2 hD2 hu2
  refine ⟨fun mm σ H' => ∃ us : List V, mm = g.toNat + 1 - us.length ∧ σ = [some (.ref p), some v, some (.int g), some (.ref D)] ∧ Same H H' ∧ H' D = some (.lst us) ∧ 1 ≤ us.length ∧ us.length ≤ g.toNat + 1 ∧ ∀ (j : Nat) (u : V), us[j]? = some u → Is n H' u (x ^ j) (b ^ j),
    ⟨_, [u], rfl, rfl, e2, hD2, Nat.le_refl _, by simp, fun j w hw => ?_⟩, ?_⟩
  · have : j = 0 := by have := lt_of_get hw; simp at this; exact this
    subst this
    simp at hw; subst hw
    rw [Int.pow_zero, Int.pow_zero]; exact hu2
  rintro mm σ H3 ⟨us, rfl, rfl, e3, hD3, l1, l2, hus⟩
  refine ⟨_, rfl, D, us, rfl, .inl (SqL.of hD3), _, rfl, _, _, rfl, rfl, _, rfl, ?_⟩
  have nD0 : H D = none := e1.free nD
  refine cD (fun c => ?_) (fun c => ?_)
  · refine ⟨fun σ' H' => ∃ u', σ' = [some (.ref p), some v, some (.int g), some (.ref D)] ∧ Same H H' ∧ H' D = some (.lst (us ++ [u'])) ∧ (∀ (j : Nat) (u : V), (us ++ [u'])[j]? = some u → Is n H' u (x ^ j) (b ^ j)), ?_, ?_⟩
    · rintro σ' H' ⟨u', rfl, e4, hD4, hus4⟩
      exact ⟨g.toNat + 1 - (us ++ [u']).length, by rw [List.length_append, List.length_singleton]; omega, us ++ [u'], rfl, rfl, e4, hD4, by simp, by rw [List.length_append, List.length_singleton]; omega, hus4⟩
    · obtain ⟨w, hw, hw2⟩ := at_last (show 0 < us.length by omega)
      refine ⟨_, rfl, .inl ⟨rfl, _, SqL.of hD3⟩, ?_⟩
      have iw := hus _ _ hw2
      refine ⟨_, rfl, p, dF, _, rfl, e3 _ _ hF, no_P _ _ (by decide +kernel), _, rfl, _, rfl, D, us, -1, _, rfl, rfl, SqL.of hD3, hw, _, rfl, p, w, v, _, _, x, b, rfl, B.sm e3 hf, iw, iv.same e3, nz_pow n2 nb _, nb, fun z => ?_, fun z => ?_, fun v' H4 e4 hv' => ?_⟩
      · obtain ⟨q1, q2, q3⟩ := pb z
        refine ⟨up (pw_up q2 _) ?_, up (pw_up q3 _) ?_⟩ <;> omega
      · obtain ⟨q1, q2, q3⟩ := pb z
        exact ⟨up q2 (by decide), up q3 (by decide)⟩
      refine ⟨D, us, v', rfl, rfl, e4 _ _ hD3, Nat.lt_of_le_of_lt (show us.length ≤ 201 by omega) (by decide), ?_⟩
      have hD4 := e4 _ _ hD3
      have kp : ∀ c xs, H4 c = some (.tup xs) → (upd H4 D (.lst (us ++ [v']))) c = some (.tup xs) := fun c xs hc => (upd_ne (ne_of hc hD4 (by intro z; cases z))).trans hc
      refine ⟨v', rfl, (e3.trans e4).updR nD0, upd_same, fun j u hj => ?_⟩
      rcases Nat.lt_or_ge j us.length with q | q
      · rw [List.getElem?_append_left q] at hj
        exact ((hus j u hj).same e4).keep kp
      · rw [List.getElem?_append_right q] at hj
        have j0 : j - us.length = 0 := by have := lt_of_get hj; simp at this; omega
        rw [j0] at hj
        simp at hj
        subst hj
        have : j = us.length - 1 + 1 := by omega
        rw [this, Int.pow_succ, Int.pow_succ]
        exact hv'.keep kp
  · refine ⟨_, rfl, k D H3 us nD0 e3 hD3 (by omega) hus⟩
end
end K10
namespace K10
open PySem L2
open K1 K2 K3 K6 K8
section
variable {P : Program} {w : World} {K : PySem.W.Frag} {mg : Str → Option Value} {base : Heap} {f : Addr} {fd : FuncData} {C_Ring C_Fractions C_Rests C_Tails : Addr} {E_NoPrime E_NoRing : Addr}
local macro_rules | `(tactic| walk_at "sd") => `(tactic| first
  | assumption | (dsimp only; omega) | (dsimp only; decide) | exact ⟨by decide, by decide⟩ | exact ⟨by decide, by decide, by decide⟩ | exact Or.inl ⟨by decide, by decide⟩ | exact ⟨by omega, by omega⟩ | exact Or.inl ⟨by omega, by omega⟩ | exact Or.inr ⟨by decide, by decide⟩ | exact Or.inr ⟨by omega, by omega⟩)
local macro_rules | `(tactic| walk_at "rd") => `(tactic| repeat first
  | refine ⟨_, rfl, ?_⟩ | refine ⟨_, _, rfl, rfl, ?_⟩ | refine And.intro rfl ?_ | refine And.intro (by walk_at "sd") ?_ | with_reducible refine iteT ?_ | with_reducible refine iteF ?_ | (apply ixT_of; assumption; rfl))
local macro_rules | `(tactic| walk_at "clo") => `(tactic| exact h)

theorem scSumd : FnScope ["ring", "multiples", "row", "total", "multiple", "f"] ["ring", "multiples", "row"] (defScope s_summed) := ⟨rfl, rfl, rfl, by decide +kernel, rfl, by decide +kernel, by decide +kernel⟩
set_option maxHeartbeats 4000000 in
theorem ok_Sumd  (F : FunD K "summed" "summed" s_summed .none f fd) (T : Txt K mg C_Ring C_Fractions C_Rests C_Tails) (c_Times : Cal P w K mg base CX0 6 "times" ["ring", "f", "g"] [] (spTimes C_Ring C_Fractions C_Rests)) (c_Absorb : Cal P w K mg base CX0 4 "absorb" ["ring", "total", "f"] [] (spAbs C_Ring C_Fractions C_Rests))  : FnOk P w K mg base CX0 7 f fd ["ring", "multiples", "row"] (spSumd K C_Ring C_Fractions C_Rests) := by
  refine F.okN (k := 6) scSumd (fun vs H Q E h => ?_) (fun cdv A outer s H vs Q E hr h => ?_)
  · obtain ⟨r, a, b, m, pf, n, D1, D2, its, rfl, _⟩ := h
    rfl
  obtain ⟨r, a, b, m, pf, n, D1, D2, its, rfl, h⟩ := h
  refine ⟨_, (pss_cons (ps_set (i := 3) scSumd.nd rfl (Or.inl rfl) (pe_dnewT))
    (pss_cons (ps_for PassesOwn.never rfl (pi_zipK (K := K) rfl false false rfl T.b_zip ((pa_cons (pv 1) (pa_cons (pv 2) pa_nil)))) (pg_tup rfl (pgs_cons (pg_name (i := 4) scSumd.nd rfl (Or.inl rfl)) (pgs_cons (pg_name (i := 5) scSumd.nd rfl (Or.inl rfl)) pgs_nil))) (pss_one (ps_expr (pe_c c_Absorb hr pass00 .nil ((pa_cons (pv 0) (pa_cons (pv 3) (pa_cons (pe_c c_Times hr pass00 .nil ((pa_cons (pv 0) (pa_cons (pv 4) (pa_cons (pv 5) pa_nil))))) pa_nil))))))))
    (pss_one (ps_ret (pv 3))))), ?_⟩
  obtain ⟨hR, hA, hB, ok, il, nz1, nz2, bD1, bD2, k⟩ := h
  have n2 := hR.np
  intro d nd0
  have g2 : Same H (upd H d (.dT [])) := Same.upd nd0
  have hd2 : (upd H d (HO.dT [])) d = some (.dT []) := upd_same
  generalize upd H d (HO.dT []) = H2 at g2 hd2
  have nzD := nz_mul n2 nz1 nz2
  have sl : 3 * 4096 + 4096 < sizeLine := by rw [sizeLine_eq]; decide
  have lm1 : (its.map fun i => V.ref i.e1).length = its.length := List.length_map _
  have lm2 : (its.map fun i => V.ref i.e2).length = its.length := List.length_map _
  refine ⟨_, rfl, _, rfl, a, b, rfl, ⟨_, g2.seq hA⟩, ⟨_, g2.seq hB⟩, ?_⟩
  refine for_zip (K := K) (b1 := false) (b2 := false) (xs := its.map fun i => .ref i.e1) (ys := its.map fun i => .ref i.e2) (fun i σ H' => i ≤ its.length ∧ (∃ v5 v6, σ = [some (.ref r), some (.ref a), some (.ref b), some (.ref d), v5, v6]) ∧ But d H2 H' ∧ ∃ kv, H' d = some (.dT kv) ∧ PD n m H' kv (smi (its.take i)) (D1 * D2) ∧ kv.length ≤ lni (its.take i)) ?_ (fun i σ H' h => ⟨sqL_but h.2.2.1 hd2 (g2.seq hA), sqL_but h.2.2.1 hd2 (g2.seq hB)⟩) ?_ ?_
  · exact ⟨Nat.zero_le _, ⟨none, none, rfl⟩, fun _ _ h _ => h, [], hd2, PD.nil n2 nzD fun t => zr_zero n, Nat.zero_le _⟩
  · rintro i x y σ H3 p hx hy ⟨hi, ⟨v5, v6, rfl⟩, bt3, kv, hd3, pk, lk⟩ hp
    rw [List.getElem?_map] at hx hy
    obtain ⟨it, hit, rfl⟩ := Option.map_eq_some_iff.mp hx
    rw [hit] at hy
    simp at hy
    subst hy
    have o := ok it (List.mem_of_getElem? hit)
    have hi' := lt_of_get hit
    refine ⟨p, _, rfl, SqT.of upd_same, rfl, _, _, rfl, _, _, rfl, rfl, ?_⟩
    have e4 : Same H3 (upd H3 p (.tup [.ref it.e1, .ref it.e2])) := Same.upd hp
    generalize upd H3 p (HO.tup [V.ref it.e1, V.ref it.e2]) = H4 at e4
    have up : ∀ c ob, H c = some ob → H4 c = some ob := fun c ob hc => e4 _ _ (bt3 _ _ (g2 _ _ hc) (fun z => by subst z; rw [hc] at nd0; cases nd0))
    refine ⟨_, rfl, _, rfl, _, rfl, _, rfl, _, rfl, r, it.e1, it.e2, m, pf, n, it.f, it.g, it.T1, D1, it.T2, D2, rfl, hR.same up, o.ne, up _ _ o.h1, up _ _ o.h2, o.p1.same up, o.p2.same up, o.l1, o.l2, o.b1, o.b2, bD1, bD2, fun d5 H5 kv5 nd5 g5 hd5 pd5 lk5 => ?_⟩
    have g45 := e4.trans g5
    have hd3' := g45 _ _ hd3
    have ne5 : d ≠ d5 := fun z => by subst z; rw [e4 _ _ hd3] at nd5; cases nd5
    have okt : ∀ j ∈ its.take i, SI.Ok n m H D1 D2 j := fun j hj => ok j (List.mem_of_mem_take hj)
    have ll := lni_le okt
    have lt : (its.take i).length ≤ 3 := by rw [List.length_take]; omega
    have l45 : it.f.length * it.g.length ≤ 64 * 64 := Nat.mul_le_mul o.l1 o.l2
    refine ⟨r, d, d5, m, pf, n, kv, kv5, _, _, D1 * D2, rfl, (hR.same up).same g5, ne5, hd3', hd5, pk.same g45, pd5, ?_, fun z t => ?_, bdd_up (cv_bdd o.b1 o.b2 (by rw [tks_len]; exact o.l1)) (by decide), fun z => K10.up (mul_up (bD1 z) (bD2 z)) (by decide), fun H6 kv6 bt6 hd6 pd6 lk6 => ?_⟩
    · have : (its.take i).length * 4096 ≤ 3 * 4096 := Nat.mul_le_mul_right _ lt
      omega
    · have a1 := smi_bd okt z t
      have : (its.take i).length * 2 ^ 208 ≤ 3 * 2 ^ 208 := Nat.mul_le_mul_right _ lt
      have : 3 * 2 ^ 208 < 2 ^ 400 := by decide
      omega
    refine ⟨hi', ⟨_, _, rfl⟩, fun c ob q1 q2 => bt6 _ _ (g45 _ _ (bt3 c ob q1 q2)) q2, kv6, hd6, ?_, ?_⟩
    · have : smi (its.take (i + 1)) = fun t => smi (its.take i) t + cv it.T1 (tks it.f) it.T2 t := funext fun t => by rw [take_snoc hit, smi_snoc]
      rw [this]; exact pd6
    · rw [take_snoc hit, lni_snoc]; omega
  · rintro σ H3 ⟨_, ⟨v5, v6, rfl⟩, bt3, kv, hd3, pk, lk⟩
    rw [lm1, lm2, Nat.min_self, List.take_length] at pk lk
    exact ⟨_, rfl, k d _ kv nd0 (fun c ob hc => bt3 _ _ (g2 _ _ hc) (fun z => by subst z; rw [hc] at nd0; cases nd0)) hd3 pk lk⟩
end
end K10
namespace K10
open PySem L2
open K1 K2 K3 K6 K8
section
variable {P : Program} {w : World} {K : PySem.W.Frag} {mg : Str → Option Value} {base : Heap} {f : Addr} {fd : FuncData} {C_Ring C_Fractions C_Rests C_Tails : Addr} {E_NoPrime E_NoRing : Addr}
local macro_rules | `(tactic| walk_at "sd") => `(tactic| first
  | assumption | (dsimp only; omega) | (dsimp only; decide) | exact ⟨by decide, by decide⟩ | exact ⟨by decide, by decide, by decide⟩ | exact Or.inl ⟨by decide, by decide⟩ | exact ⟨by omega, by omega⟩ | exact Or.inl ⟨by omega, by omega⟩ | exact Or.inr ⟨by decide, by decide⟩ | exact Or.inr ⟨by omega, by omega⟩)
local macro_rules | `(tactic| walk_at "rd") => `(tactic| repeat first
  | refine ⟨_, rfl, ?_⟩ | refine ⟨_, _, rfl, rfl, ?_⟩ | refine And.intro rfl ?_ | refine And.intro (by walk_at "sd") ?_ | with_reducible refine iteT ?_ | with_reducible refine iteF ?_ | (apply ixT_of; assumption; rfl))
local macro_rules | `(tactic| walk_at "clo") => `(tactic| exact h)

theorem scVal : FnScope ["ring", "f", "point", "field", "tables", "total", "term", "number", "powers", "power"] ["ring", "f", "point"] (defScope s_value) := ⟨rfl, rfl, rfl, by decide +kernel, rfl, by decide +kernel, by decide +kernel⟩
set_option maxHeartbeats 4000000 in
theorem ok_Val  (F : FunD K "value" "value" s_value .none f fd) (T : Txt K mg C_Ring C_Fractions C_Rests C_Tails) (c_Reach : Cal P w K mg base CX0 2 "reach" ["ring", "f"] [] (spReach C_Ring)) (c_Pw : Cal P w K mg base CX0 4 "powers_of" ["field", "number", "greatest"] [] (spPw C_Fractions C_Rests)) (hfld : ∀ n : Int, n ≤ 9973 → (n = 0 ∨ Pr n) → ∃ C, FldQ P w K mg base C (AtN C_Fractions C_Rests n) n) : FnOk P w K mg base CX0 5 f fd ["ring", "f", "point"] (spVal K C_Ring C_Fractions C_Rests) := by
  refine F.okN (k := 4) scVal (fun vs H Q E h => ?_) (fun cdv A outer s H vs Q E hr h => ?_)
  · obtain ⟨r, e, l, m, pf, n, fvs, T0, D0, ps, bt, us, rfl, _⟩ := h
    rfl
  obtain ⟨r, e, l, m, pf, n, fvs, T0, D0, ps, bt, us, rfl, h⟩ := h
  obtain ⟨CF, B⟩ := hfld n h.1.nb h.1.np
  refine ⟨_, (pss_cons (ps_set (i := 3) scVal.nd rfl (Or.inr rfl) (pe_fldK (K := K) rfl (pv 0) rfl))
    (pss_cons (ps_setC (N := ["number", "greatest", "field"]) (cl := [("field", s.heap.objs.size + 1)]) (mp := [none, none, some 3]) (pg_name (i := 4) scVal.nd rfl (Or.inl rfl)) (Blk.of rfl (by decide +kernel) rfl (by decide +kernel) nd_number_greatest_field (subc_cons rfl subc_nil) (fr_of (fs := ["field"]) rfl (by decide +kernel)) rfl (mapc_none (mapc_none (mapc_some rfl (.inl rfl) rfl mapc_nil)))) rfl (pi_zipK (K := K) rfl false true rfl T.b_zip ((pa_cons (pv 2) (pa_cons (pe_c c_Reach hr pass00 .nil ((pa_cons (pv 0) (pa_cons (pv 1) pa_nil)))) pa_nil)))) (fun C0 s0 H0 fp0 => pg_twoN (K := K) rfl rfl nd_number_greatest_field rfl rfl rfl rfl) (fun C0 s0 H0 fp0 => pts_nil) (fun C0 s0 H0 fp0 => pe_c c_Pw hr pass00 .nil ((pa_cons (pv 2) (pa_cons (pv 0) (pa_cons (pv 1) pa_nil))))))
    (pss_cons (ps_set (i := 5) scVal.nd rfl (Or.inl rfl) (pe_m0 B.nought (pv 3) hr pass00 .nil))
    (pss_cons (ps_thw (ps_for PassesOwn.never rfl (pi_items (pv 1)) (pg_tup rfl (pgs_cons (pg_name (i := 6) scVal.nd rfl (Or.inl rfl)) (pgs_cons (pg_name (i := 7) scVal.nd rfl (Or.inl rfl)) pgs_nil))) (pss_cons (ps_for PassesOwn.never rfl (pi_zipK (K := K) rfl false true rfl T.b_zip ((pa_cons (pv 4) (pa_cons (pv 6) pa_nil)))) (pg_tup rfl (pgs_cons (pg_name (i := 8) scVal.nd rfl (Or.inl rfl)) (pgs_cons (pg_name (i := 9) scVal.nd rfl (Or.inl rfl)) pgs_nil))) (pss_one (ps_set (i := 7) scVal.nd rfl (Or.inl rfl) (pe_m B.times (pv 3) hr pass00 .nil ((pa_cons (pv 7) (pa_cons (pe_ix (r := rIxL K) ix_list (pv 8) (pv 9) (fun _ _ => rfl)) pa_nil)))))))
    (pss_one (ps_set (i := 5) scVal.nd rfl (Or.inl rfl) (pe_m B.plus (pv 3) hr pass00 .nil ((pa_cons (pv 5) (pa_cons (pv 7) pa_nil)))))))))
    (pss_one (ps_ret (pv 5))))))), ?_⟩
  obtain ⟨hR, he, pT, hl, hS, lu, lp, hus, nbt, vb, t200, dg, k⟩ := h
  have n2 := hR.np
  obtain ⟨po, dx, hr0⟩ := hR.at_
  have hf := hR.fd
  obtain ⟨dF, hF⟩ := B.ins hf
  refine ⟨_, rfl, r, C_Ring, dx, _, _, rfl, hr0, T.cl_Ring, T.na_Ring_field, rfl, ?_⟩
  show tComp _ _ _ _ _ _ _ _
  refine tComp_eq ?_
  refine ⟨_, rfl, _, rfl, _, rfl, r, e, m, pf, po, fvs, rfl, ⟨dx, hr0⟩, hR.m4, he, pT.ko, hl, fun rr H1 e1 hrr => ?_⟩
  refine ⟨l, rr, rfl, ⟨us, e1.seq hS⟩, ⟨_, SqT.of hrr⟩, fun DD hDD => ?_⟩
  have lr : ((rch m (tks fvs)).map V.int).length = m := by unfold rch; simp
  have W := walk_zip (K := K) (b1 := false) (b2 := true) (H1 := H1) (a1 := l) (a2 := rr) (xs := us) (ys := (rch m (tks fvs)).map V.int) (e1.seq hS) (SqT.of hrr)
  rw [lu, lr, Nat.min_self] at W
  have nn : ∀ t ∈ tks fvs, ∀ x ∈ t, 0 ≤ x := fun t ht => (pT.ko.ok ht).2
  have gx : ∀ t ∈ tks fvs, ∀ (j : Nat), 0 ≤ t.getD j 0 ∧ t.getD j 0 ≤ 200 ∧ (n = 0 → t.getD j 0 ≤ 4) := fun t ht j => by
    rw [List.getD_eq_getElem?_getD]
    cases z : t[j]? with
    | none => exact ⟨Int.le_refl 0, by decide, fun _ => by decide⟩
    | some x => exact ⟨nn t ht x (List.mem_of_getElem? z), t200 t ht x (List.mem_of_getElem? z), fun q => (vb q).ht t ht x (List.mem_of_getElem? z)⟩
  have rj : ∀ (j : Nat), j < m → (rch m (tks fvs))[j]? = some (mxD 0 ((tks fvs).map fun t => t.getD j 0)) := fun j hj => by unfold rch; rw [List.getElem?_map, List.getElem?_range hj]; rfl
  have rb : ∀ (j : Nat), 0 ≤ mxD 0 ((tks fvs).map fun t => t.getD j 0) ∧ mxD 0 ((tks fvs).map fun t => t.getD j 0) ≤ 200 ∧ (n = 0 → mxD 0 ((tks fvs).map fun t => t.getD j 0) ≤ 4) := fun j =>
    ⟨mxD_nn fun x hx => by obtain ⟨t, ht, rfl⟩ := List.mem_map.mp hx; exact (gx t ht j).1, mxD_le (by decide) fun x hx => by obtain ⟨t, ht, rfl⟩ := List.mem_map.mp hx; exact (gx t ht j).2.1,
     fun z => mxD_le (by decide) fun x hx => by obtain ⟨t, ht, rfl⟩ := List.mem_map.mp hx; exact (gx t ht j).2.2 z⟩
  refine cgo_ofD W hDD (Nat.le_trans hR.m4 (by decide)) (fun σ => ∃ v1 v2, σ = [v1, v2, some (.ref pf)]) (fun _ => true) (fun i v H' => ∃ (ll : Addr) (ws : List V), v = .ref ll ∧ ll ≠ DD ∧ H' ll = some (.lst ws) ∧ (ws.length : Int) = mxD 0 ((tks fvs).map fun t => t.getD i 0) + 1 ∧ ∀ (j : Nat) (u : V), ws[j]? = some u → Is n H' u ((ps.getD i 0) ^ j) (bt ^ j)) ?_ ?_ ⟨none, none, rfl⟩ ?_ fun H2 ys e2 hD2 hF2 => ?_
  · rintro i v Ha Hb eab ⟨ll, ws, rfl, q1, q2, q3, q4⟩
    exact ⟨ll, ws, rfl, q1, eab _ _ q2, q3, fun j u hj => (q4 j u hj).same eab⟩
  · rintro i v Ha ya yb hya ⟨ll, ws, rfl, q1, q2, q3, q4⟩
    exact ⟨ll, ws, rfl, q1, (upd_ne q1).trans q2, q3, fun j u hj => (q4 j u hj).keep fun c xs hc => (upd_ne (ne_of hc hya (by intro z; cases z))).trans hc⟩
  · rintro i x σ' H3 hi ⟨w1, w2, rfl⟩ e3 ⟨p, u, g, rfl, hp3, hu, hg⟩ ⟨yD, hyD⟩ Ny Nn hy hn
    rw [List.getElem?_map, rj i hi] at hg
    injection hg with hg
    subst hg
    obtain ⟨x, hx⟩ : ∃ x, ps[i]? = some x := ⟨_, List.getElem?_eq_getElem (by omega)⟩
    have gdx : ps.getD i 0 = x := by rw [List.getD_eq_getElem?_getD, hx]; rfl
    refine ⟨p, _, rfl, SqT.of hp3, rfl, _, _, rfl, _, _, rfl, rfl, ?_⟩
    unfold tYes
    dsimp only
    rw [if_pos rfl]
    have g3 := e1.trans e3
    refine ⟨_, rfl, _, rfl, _, rfl, pf, u, x, bt, _, n, rfl, hR.nb, n2, B.sm g3 hf, (hus i u x hu hx).same g3, nbt, (rb i).1, (rb i).2.1, fun z => ⟨(rb i).2.2 z, up ((vb z).hp x (List.mem_of_getElem? hx)) (by decide), up (vb z).hb (by decide)⟩, fun ll H4 ws nll e4 hll lw hw => ?_⟩
    refine hy _ _ _ ⟨_, _, rfl⟩ e4 ⟨ll, ws, rfl, (fun z => by subst z; rw [hyD] at nll; cases nll), hll, (by have := (rb i).1; omega), (by rw [gdx]; exact hw)⟩ rfl
  rw [List.filter_eq_self.mpr (fun _ _ => rfl)] at hF2
  have g2 := e1.trans e2
  have tab : ∀ (i : Nat), i < m → ∃ (ll : Addr) (ws : List V), ys[i]? = some (.ref ll) ∧ H2 ll = some (.lst ws) ∧ (ws.length : Int) = mxD 0 ((tks fvs).map fun t => t.getD i 0) + 1 ∧ ∀ (j : Nat) (u : V), ws[j]? = some u → Is n H2 u ((ps.getD i 0) ^ j) (bt ^ j) := fun i hi => by
    have ly : ys.length = m := by rw [← hF2.length]; simp
    have hy : ys[i]? = some (ys[i]'(by omega)) := List.getElem?_eq_getElem _
    obtain ⟨i', hi', ll, ws, q0, q1, q2, q3, q4⟩ := Paired.at2 hF2 hy
    rw [List.getElem?_range hi] at hi'
    injection hi' with hi'
    subst hi'
    exact ⟨ll, ws, by rw [hy, q0], q2, q3, q4⟩
  have ly : ys.length = m := by rw [← hF2.length]; simp
  refine ⟨_, rfl, pf, dF, _, rfl, g2 _ _ hF, no_P _ _ (by decide +kernel), pf, rfl, B.sm g2 hf, fun u0 H3 e3 hu0 => ?_⟩
  have g3 := g2.trans e3
  have nzb : ¬ zr n (bt ^ 12) := nz_pow n2 nbt 12
  have nzD := pT.nz
  have ltk : (tks fvs).length = fvs.length := tks_len fvs
  refine ⟨_, rfl, e, fvs, rfl, .inl (g3 _ _ he), fun o => ?_⟩
  have hz3 : FzD (upd H3 e (.frz o (.dT fvs))) e o fvs := upd_same
  have up3 : ∀ c ob, H3 c = some ob → (∀ kk, ob ≠ .dT kk) → (upd H3 e (.frz o (.dT fvs))) c = some ob := fun c ob hc nt => (upd_ne (ne_of hc (g3 _ _ he) (nt _))).trans hc
  have th : ∀ H', Same (upd H3 e (.frz o (.dT fvs))) H' → Same H3 (upd H' e (.dT fvs)) := fun H' q => same_thaw (g3 _ _ he) q
  have u0z : Is n (upd H3 e (HO.frz o (HO.dT fvs))) u0 0 1 := hu0.keep fun c xs hc => up3 _ _ hc (by intro _ z; cases z)
  generalize upd H3 e (HO.frz o (HO.dT fvs)) = H3z at hz3 up3 th u0z
  refine for_ditem (fun i σ H' => i ≤ fvs.length ∧ Same H3z H' ∧ ∃ tv v7 v8 v9 v10, σ = [some (.ref r), some (.ref e), some (.ref l), some (.ref pf), some (.ref DD), some tv, v7, v8, v9, v10] ∧ Is n H' tv (ev ((tks fvs).take i) T0 (wt ps bt)) (D0 * bt ^ 12)) ?_ (fun i σ H' h => h.2.1 _ _ hz3) ?_ ?_
  · refine ⟨Nat.zero_le _, Same.refl _, u0, none, none, none, none, rfl, ?_⟩
    exact Is.cross n2 (nz_one n2) u0z (eqn.of_eq (by rw [List.take_zero]; show 0 * _ = (0 : Int) * 1; simp))
  · rintro i kx vx σ H4 p b hk ⟨hi, e4, tv, v7, v8, v9, v10, rfl, itv⟩ hp hb
    obtain ⟨t, ht, rfl, okt, ix, nzx⟩ := pT.get hk
    have htm : t ∈ tks fvs := List.mem_of_getElem? ht
    have hi' := lt_of_get hk
    refine ⟨p, _, rfl, SqT.of upd_same, rfl, _, _, rfl, _, _, rfl, rfl, ?_⟩
    have e5 : Same H4 (upd H4 p (.tup [.ref b, vx])) := Same.upd hp
    generalize upd H4 p (HO.tup [V.ref b, vx]) = H5 at e5
    have g5 := e4.trans e5
    have lo : ∀ c ob, H3 c = some ob → (∀ kk, ob ≠ .dT kk) → H5 c = some ob := fun c ob hc nt => g5 _ _ (up3 _ _ hc nt)
    have lot : ∀ c xs, H3 c = some (.tup xs) → H5 c = some (.tup xs) := fun c xs hc => lo _ _ hc (by intro _ z; cases z)
    have hf5 : AtN C_Fractions C_Rests n H5 pf := B.same (fun c ob hc ⟨C', dy, fs, z⟩ => lo _ _ (g3 _ _ hc) (by intro _ q; rw [z] at q; cases q)) hf
    have hF5 := lo _ _ (g3 _ _ hF) (by intro _ z; cases z)
    have hb5 := e5 _ _ hb
    rw [ky_kV] at hb5
    have hDD5 := lo _ _ (e3 _ _ hD2) (by intro _ z; cases z)
    dsimp only
    refine seq_mid (fun σ' H' => Same H5 H' ∧ ∃ vt v9 v10, σ' = [some (.ref r), some (.ref e), some (.ref l), some (.ref pf), some (.ref DD), some tv, some (.ref b), some vt, v9, v10] ∧ Is n H' vt (T0 t * pwr ps t) (D0 * bt ^ (deg t).toNat)) ?_ ?_
    rotate_left
    · intro N hN
      refine ⟨_, rfl, _, rfl, DD, b, rfl, ⟨_, SqL.of hDD5⟩, ⟨_, SqT.of hb5⟩, ?_⟩
      refine for_zip (K := K) (b1 := false) (b2 := true) (xs := ys) (ys := t.map V.int) (fun j σ H' => j ≤ m ∧ Same H5 H' ∧ ∃ vt v9 v10, σ = [some (.ref r), some (.ref e), some (.ref l), some (.ref pf), some (.ref DD), some tv, some (.ref b), some vt, v9, v10] ∧ Is n H' vt (T0 t * pwr (ps.take j) (t.take j)) (D0 * bt ^ (deg (t.take j)).toNat)) ?_ (fun j σ H' h => ⟨SqL.of (h.2.1 _ _ hDD5), SqT.of (h.2.1 _ _ hb5)⟩) ?_ ?_
      · refine ⟨Nat.zero_le _, Same.refl _, vx, _, _, rfl, ?_⟩
        have : T0 t * pwr (ps.take 0) (t.take 0) = T0 t := by simp [pwr]
        rw [this]
        have : D0 * bt ^ (deg (t.take 0)).toNat = D0 := by show D0 * bt ^ 0 = D0; simp
        rw [this]
        exact ix.keep fun c xs hc => lot _ _ (g3 _ _ hc)
      · rintro j x y σ H6 q hx hy ⟨hj, e6, vt, w9, w10, rfl, ivt⟩ hq
        have hjm := lt_of_get hx
        rw [ly] at hjm
        obtain ⟨ll, ws, hll, hws, lws, hw⟩ := tab j hjm
        rw [hx] at hll
        injection hll with hll
        subst hll
        rw [List.getElem?_map] at hy
        obtain ⟨yy, hyy, rfl⟩ := Option.map_eq_some_iff.mp hy
        obtain ⟨px, hpx⟩ : ∃ px, ps[j]? = some px := ⟨_, List.getElem?_eq_getElem (by omega)⟩
        have gdx : ps.getD j 0 = px := by rw [List.getD_eq_getElem?_getD, hpx]; rfl
        have gty : t.getD j 0 = yy := by rw [List.getD_eq_getElem?_getD, hyy]; rfl
        have y0 : 0 ≤ yy := okt.2 yy (List.mem_of_getElem? hyy)
        have yle : yy ≤ mxD 0 ((tks fvs).map fun t => t.getD j 0) := mxD_ge (List.mem_map.mpr ⟨t, htm, gty⟩)
        refine ⟨q, _, rfl, SqT.of upd_same, rfl, _, _, rfl, _, _, rfl, rfl, ?_⟩
        have e7 : Same H6 (upd H6 q (.tup [.ref ll, .int yy])) := Same.upd hq
        generalize upd H6 q (HO.tup [V.ref ll, V.int yy]) = H7 at e7
        have g7 := e6.trans e7
        have hws7 := g7 _ _ (lo _ _ (e3 _ _ hws) (by intro _ z; cases z))
        obtain ⟨wv, hwv⟩ : ∃ wv, ws[yy.toNat]? = some wv := ⟨_, List.getElem?_eq_getElem (by omega)⟩
        have iw := hw _ _ hwv
        rw [gdx] at iw
        have hyn : yy = ((yy.toNat : Nat) : Int) := by omega
        have bd1 := fun z => pwr_bd (a := 20) (c := 4) (ps := ps.take j) (t := t.take j) (fun x hx => (vb z).hp x (List.mem_of_mem_take hx)) (fun x hx => (vb z).ht t htm x (List.mem_of_mem_take hx))
        have dtk : 0 ≤ deg (t.take j) := deg_nn fun x hx => okt.2 x (List.mem_of_mem_take hx)
        refine ⟨_, rfl, pf, dF, _, rfl, g7 _ _ hF5, no_P _ _ (by decide +kernel), _, rfl, _, rfl, _, rfl, ll, ws, yy, wv, rfl, rfl, SqL.of hws7, by rw [hyn]; exact atI_nat hwv, pf, vt, wv, _, _, px ^ yy.toNat, bt ^ yy.toNat, rfl, B.sm g7 hf5, ivt.same e7, (iw.keep fun c xs hc => g7 _ _ (lot _ _ (e3 _ _ hc))), nz_mul n2 nzD (nz_pow n2 nbt _), nz_pow n2 nbt _, fun z => ?_, fun z => ?_, fun v' H8 e8 hv' => ?_⟩
        · refine ⟨up (mul_up ((vb z).hT t) (up (bd1 z) (show (20 * 4 + 1) * (ps.take j).length + 1 ≤ 244 by have := (vb z).m3; rw [List.length_take]; omega))) (by decide), ?_⟩
          have q1 := pw_up (vb z).hb (deg (t.take j)).toNat
          have dl : deg (t.take j) ≤ 12 := by
            refine deg_le ?_ fun x hx => (vb z).ht t htm x (List.mem_of_mem_take hx)
            have := (vb z).m3; rw [List.length_take]; omega
          exact up (mul_up (vb z).hD (up q1 (show 3 * (deg (t.take j)).toNat + 1 ≤ 37 by omega))) (by decide)
        · have y4 := (vb z).ht t htm yy (List.mem_of_getElem? hyy)
          exact ⟨up (pw_up ((vb z).hp px (List.mem_of_getElem? hpx)) _) (by omega), up (pw_up (vb z).hb _) (by omega)⟩
        refine ⟨by omega, g7.trans e8, v', _, _, rfl, ?_⟩
        rw [pwr_take hpx hyy, deg_take hyy, Int.toNat_add dtk y0, Int.pow_add]
        have a1 : T0 t * (pwr (ps.take j) (t.take j) * px ^ yy.toNat) = T0 t * pwr (ps.take j) (t.take j) * px ^ yy.toNat := by rw [Int.mul_assoc]
        have a2 : D0 * (bt ^ (deg (t.take j)).toNat * bt ^ yy.toNat) = D0 * bt ^ (deg (t.take j)).toNat * bt ^ yy.toNat := by rw [Int.mul_assoc]
        rw [a1, a2]; exact hv'
      · rintro σ H6 ⟨_, e6, vt, w9, w10, rfl, ivt⟩
        have lt' : (t.map V.int).length = m := by rw [List.length_map]; exact okt.1
        rw [ly, lt', Nat.min_self, ← lp, List.take_length, lp, ← okt.1, List.take_length] at ivt
        exact hN _ _ ⟨e6, vt, _, _, rfl, ivt⟩
    rintro σ' H6 ⟨e6, vt, w9, w10, rfl, ivt⟩
    have g6 := g5.trans e6
    have bX := fun z => ev_bd (T := T0) (W := wt ps bt) (ts := (tks fvs).take i) fun t' ht' => wt_bd (vb z) lp (List.mem_of_mem_take ht') (nn t' (List.mem_of_mem_take ht'))
    have d0 := deg_nn okt.2
    refine ⟨_, rfl, pf, dF, _, rfl, e6 _ _ hF5, no_P _ _ (by decide +kernel), _, rfl, _, rfl, pf, tv, vt, _, _, _, _, rfl, B.sm e6 hf5, itv.same (e5.trans e6), ivt, nz_mul n2 nzD nzb, nz_mul n2 nzD (nz_pow n2 nbt _), fun z => ?_, fun z => ?_, fun v' H7 e7 hv' => ?_⟩
    · have q1 := bX z
      have q2 : ((tks fvs).take i).length ≤ 1000 := by have := (vb z).hl; rw [List.length_take]; omega
      have : ((tks fvs).take i).length * 2 ^ 345 ≤ 1000 * 2 ^ 345 := Nat.mul_le_mul_right _ q2
      have : 1000 * 2 ^ 345 < 2 ^ 400 := by decide
      exact ⟨by omega, up (mul_up (vb z).hD (pw_up (vb z).hb 12)) (by decide)⟩
    · have q1 := pwr_bd (a := 20) (c := 4) (vb z).hp ((vb z).ht t htm)
      have dl : deg t ≤ 12 := deg_le (by rw [okt.1]; exact (vb z).m3) ((vb z).ht t htm)
      exact ⟨up (mul_up ((vb z).hT t) (up q1 (show (20 * 4 + 1) * ps.length + 1 ≤ 244 by have := (vb z).m3; omega))) (by decide), up (mul_up (vb z).hD (up (pw_up (vb z).hb _) (show 3 * (deg t).toNat + 1 ≤ 37 by omega))) (by decide)⟩
    refine ⟨hi', g6.trans e7, v', _, _, _, _, rfl, ?_⟩
    rw [take_snoc ht, ev_snoc]
    refine Is.cross n2 (nz_mul n2 (nz_mul n2 nzD nzb) (nz_mul n2 nzD (nz_pow n2 nbt _))) hv' (eqn.of_eq ?_)
    refine val_cross ?_
    rcases dg with rfl | dg
    · simp [one_pw]
    · rw [← Int.pow_add]
      congr 1
      have := dg t htm
      omega
  · rintro σ H4 ⟨_, e4, tv, v7, v8, v9, v10, rfl, itv⟩
    refine .inr ⟨e, o, _, e4 _ _ hz3, fun o' w' z => ?_, ?_⟩
    · have z' : H e = some (.frz o' w') := z
      rw [he] at z'; cases z'
    rw [← ltk, List.take_length] at itv
    refine ⟨_, rfl, k tv _ (g3.trans (th _ e4)) (itv.keep fun c xs hc => (upd_ne (ne_of hc (e4 _ _ hz3) (by intro z; cases z))).trans hc)⟩
end
end K10
namespace K10
open PySem L2
open K1 K2 K3 K6 K8
section
variable {P : Program} {w : World} {K : PySem.W.Frag} {mg : Str → Option Value} {base : Heap} {f : Addr} {fd : FuncData} {C_Ring C_Fractions C_Rests C_Tails : Addr} {E_NoPrime E_NoRing : Addr}
local macro_rules | `(tactic| walk_at "sd") => `(tactic| first
  | assumption | (dsimp only; omega) | (dsimp only; decide) | exact ⟨by decide, by decide⟩ | exact ⟨by decide, by decide, by decide⟩ | exact Or.inl ⟨by decide, by decide⟩ | exact ⟨by omega, by omega⟩ | exact Or.inl ⟨by omega, by omega⟩ | exact Or.inr ⟨by decide, by decide⟩ | exact Or.inr ⟨by omega, by omega⟩)
local macro_rules | `(tactic| walk_at "rd") => `(tactic| repeat first
  | refine ⟨_, rfl, ?_⟩ | refine ⟨_, _, rfl, rfl, ?_⟩ | refine And.intro rfl ?_ | refine And.intro (by walk_at "sd") ?_ | with_reducible refine iteT ?_ | with_reducible refine iteF ?_ | (apply ixT_of; assumption; rfl))
local macro_rules | `(tactic| walk_at "clo") => `(tactic| exact h)

theorem scCell : FnScope ["_law_script", "_law_k"] ["_law_script", "_law_k"] (defScope s__law_cell) := ⟨rfl, rfl, rfl, by decide +kernel, rfl, by decide +kernel, by decide +kernel⟩
set_option maxHeartbeats 4000000 in
theorem ok_Cell  (F : FunD K "_law_cell" "_law_cell" s__law_cell .none f fd) (T : Txt K mg C_Ring C_Fractions C_Rests C_Tails)   : FnOk P w K mg base CX0 1 f fd ["_law_script", "_law_k"] (spCell K) := by
  refine F.okN (k := 0) scCell (fun vs H Q E h => ?_) (fun cdv A outer s H vs Q E hr h => ?_)
  · obtain ⟨a, ns, k, rfl, _⟩ := h
    rfl
  obtain ⟨a, ns, k, rfl, h⟩ := h
  refine ⟨_, (pss_cons (ps_if (pt_cmpR op_lt (pv 1) (pe_callB (call_lenK (K := K) rfl) rfl T.b_len PySem.boot_len ((pa_cons (pv 0) pa_nil))) (nomark _)) (pss_one (ps_ret (pe_ix (r := rIxL K) ix_list (pv 0) (pv 1) (fun _ _ => rfl)))) pss_nil)
    (pss_one (ps_ret (pe_int)))), ?_⟩
  obtain ⟨hS, h0, q⟩ := h
  have hl : (ns.map V.int).length = ns.length := List.length_map _
  refine ⟨_, rfl, _, rfl, a, _, rfl, .inl hS, ?_⟩
  walk_at "rd"
  refine cD (fun c => ?_) (fun c => ?_)
  · rw [hl] at c
    exact ⟨_, rfl, _, rfl, a, _, _, _, rfl, rfl, hS, atI_int h0 c, q⟩
  · rw [hl] at c
    have e : cellOf ns k = 0 := by unfold cellOf; rw [List.getD_eq_getElem?_getD, List.getElem?_eq_none (by omega)]; rfl
    rw [e] at q
    exact q
end
end K10
namespace K10
open PySem L2
open K1 K2 K3 K6 K8
section
variable {P : Program} {w : World} {K : PySem.W.Frag} {mg : Str → Option Value} {base : Heap} {f : Addr} {fd : FuncData} {C_Ring C_Fractions C_Rests C_Tails : Addr} {E_NoPrime E_NoRing : Addr}
local macro_rules | `(tactic| walk_at "sd") => `(tactic| first
  | assumption | (dsimp only; omega) | (dsimp only; decide) | exact ⟨by decide, by decide⟩ | exact ⟨by decide, by decide, by decide⟩ | exact Or.inl ⟨by decide, by decide⟩ | exact ⟨by omega, by omega⟩ | exact Or.inl ⟨by omega, by omega⟩ | exact Or.inr ⟨by decide, by decide⟩ | exact Or.inr ⟨by omega, by omega⟩)
local macro_rules | `(tactic| walk_at "rd") => `(tactic| repeat first
  | refine ⟨_, rfl, ?_⟩ | refine ⟨_, _, rfl, rfl, ?_⟩ | refine And.intro rfl ?_ | refine And.intro (by walk_at "sd") ?_ | with_reducible refine iteT ?_ | with_reducible refine iteF ?_ | (apply ixT_of; assumption; rfl))
local macro_rules | `(tactic| walk_at "clo") => `(tactic| exact h)

theorem scLShared : FnScope ["_law_a", "_law_b", "_law_rest"] ["_law_a", "_law_b"] (defScope s__law_shared) := ⟨rfl, rfl, rfl, by decide +kernel, rfl, by decide +kernel, by decide +kernel⟩
set_option maxHeartbeats 4000000 in
theorem ok_LShared  (F : FunD K "_law_shared" "_law_shared" s__law_shared .none f fd) (T : Txt K mg C_Ring C_Fractions C_Rests C_Tails)   : FnOk P w K mg base CX0 1 f fd ["_law_a", "_law_b"] spLShared := by
  refine F.okN (k := 0) scLShared (fun vs H Q E h => ?_) (fun cdv A outer s H vs Q E hr h => ?_)
  · obtain ⟨a, b, rfl, _⟩ := h
    rfl
  obtain ⟨a, b, rfl, h⟩ := h
  refine ⟨_, (pss_cons (ps_set (i := 0) scLShared.nd rfl (Or.inl rfl) (pe_callB call_abs rfl T.b_abs (by kernel_rfl) ((pa_cons (pv 0) pa_nil))))
    (pss_cons (ps_set (i := 1) scLShared.nd rfl (Or.inl rfl) (pe_callB call_abs rfl T.b_abs (by kernel_rfl) ((pa_cons (pv 1) pa_nil))))
    (pss_cons (ps_while PassesOwn.never (pt_cmpR op_ne (pv 1) (pe_int) (nomark _)) (pss_cons (ps_set (i := 2) scLShared.nd rfl (Or.inl rfl) (pe_op op_modN (pv 0) (pv 1)))
    (pss_cons (ps_set (i := 0) scLShared.nd rfl (Or.inl rfl) (pv 1))
    (pss_one (ps_set (i := 1) scLShared.nd rfl (Or.inl rfl) (pv 2))))))
    (pss_one (ps_ret (pv 0)))))), ?_⟩
  have k := h
  walk_at "rd"
  refine ⟨fun m σ H' => ∃ (a' b' : Int) (v : Option V), m = b'.toNat ∧ σ = [some (.int a'), some (.int b'), v] ∧ H' = H ∧ 0 ≤ a' ∧ 0 ≤ b' ∧ Gc (if a < 0 then -a else a) (if b < 0 then -b else b) a' b', ⟨_, _, _, none, rfl, rfl, rfl, K1.start (by split <;> omega) (by split <;> omega)⟩, ?_⟩
  rintro m σ H' ⟨a', b', v, rfl, rfl, rfl, h1, h2, hg⟩
  walk_at "rd"
  refine cNe (fun c => ?_) (fun c => ?_)
  · refine ⟨fun σ' H'' => ∃ v', σ' = [some (.int b'), some (.int (a'.fmod b')), v'] ∧ H'' = H', ?_, ?_⟩
    · rintro σ' H'' ⟨v', rfl, rfl⟩
      exact ⟨(a'.fmod b').toNat, K1.less (by omega), _, _, v', rfl, rfl, rfl, K1.turn hg h1 (by omega)⟩
    · refine ⟨_, rfl, _, rfl, _, _, rfl, rfl, c, ?_⟩
      walk_at "rd"
      rfl
  · refine ⟨_, rfl, ?_⟩
    show Q (.int a') H'
    rw [K1.out hg h1 c, gI_abs]
    exact k
end
end K10
namespace K10
open PySem L2
open K1 K2 K3 K6 K8
section
variable {P : Program} {w : World} {K : PySem.W.Frag} {mg : Str → Option Value} {base : Heap} {f : Addr} {fd : FuncData} {C_Ring C_Fractions C_Rests C_Tails : Addr} {E_NoPrime E_NoRing : Addr}
local macro_rules | `(tactic| walk_at "sd") => `(tactic| first
  | assumption | (dsimp only; omega) | (dsimp only; decide) | exact ⟨by decide, by decide⟩ | exact ⟨by decide, by decide, by decide⟩ | exact Or.inl ⟨by decide, by decide⟩ | exact ⟨by omega, by omega⟩ | exact Or.inl ⟨by omega, by omega⟩ | exact Or.inr ⟨by decide, by decide⟩ | exact Or.inr ⟨by omega, by omega⟩)
local macro_rules | `(tactic| walk_at "rd") => `(tactic| repeat first
  | refine ⟨_, rfl, ?_⟩ | refine ⟨_, _, rfl, rfl, ?_⟩ | refine And.intro rfl ?_ | refine And.intro (by walk_at "sd") ?_ | with_reducible refine iteT ?_ | with_reducible refine iteF ?_ | (apply ixT_of; assumption; rfl))
local macro_rules | `(tactic| walk_at "clo") => `(tactic| exact h)

theorem scLPrime : FnScope ["_law_number", "_law_divisor"] ["_law_number"] (defScope s__law_is_prime) := ⟨rfl, rfl, rfl, by decide +kernel, rfl, by decide +kernel, by decide +kernel⟩
set_option maxHeartbeats 4000000 in
theorem ok_LPrime  (F : FunD K "_law_is_prime" "_law_is_prime" s__law_is_prime .none f fd) (T : Txt K mg C_Ring C_Fractions C_Rests C_Tails)   : FnOk P w K mg base CX0 1 f fd ["_law_number"] spPrime := by
  refine F.okN (k := 0) scLPrime (fun vs H Q E h => ?_) (fun cdv A outer s H vs Q E hr h => ?_)
  · obtain ⟨n, rfl, _⟩ := h
    rfl
  obtain ⟨n, rfl, h⟩ := h
  refine ⟨_, (pss_cons (ps_set (i := 1) scLPrime.nd rfl (Or.inl rfl) (pe_int))
    (pss_cons (ps_while PassesOwn.never (pt_cmpR op_le (pe_op op_mul (pv 1) (pv 1)) (pv 0) (nomark _)) (pss_cons (ps_if (pt_cmpR op_eq (pe_op op_modN (pv 0) (pv 1)) (pe_int) (nomark _)) (pss_one (ps_ret (pe_bl))) pss_nil)
    (pss_one (ps_set (i := 1) scLPrime.nd rfl (Or.inl rfl) (pe_op op_add (pv 1) (pe_int))))))
    (pss_one (ps_ret (pe_cmpR op_ge (pv 0) (pe_int) (nomark _)))))), ?_⟩
  obtain ⟨hn, k⟩ := h
  refine ⟨fun m σ H' => ∃ d : Int, m = (200 - d).toNat ∧ σ = [some (.int n), some (.int d)] ∧ H' = H ∧ 2 ≤ d ∧ d ≤ 101 ∧ NoDiv n d, ⟨_, 2, rfl, rfl, rfl, K3.start n⟩, ?_⟩
  rintro m σ H' ⟨d, rfl, rfl, rfl, h2, h3, hd⟩
  refine ⟨_, rfl, _, rfl, _, _, rfl, rfl, .inl (sq_small (n := n) h2 h3), ?_⟩
  walk_at "rd"
  refine cD (fun q => ?_) (fun q => ?_)
  · refine ⟨fun σ' H'' => σ' = [some (.int n), some (.int (d + 1))] ∧ H'' = H' ∧ ¬ Int.fmod n d = 0, ?_, ?_⟩
    · rintro σ' H'' ⟨rfl, rfl, nz⟩
      exact ⟨(200 - (d + 1)).toNat, K3.less h2 q hn, d + 1, rfl, rfl, rfl, K3.turn hd nz h2 q hn⟩
    · refine ⟨_, rfl, _, rfl, _, _, rfl, rfl, (by show d ≠ 0; omega), ?_⟩
      walk_at "rd"
      refine cEq (fun z => ?_) (fun z => ?_)
      · show Q (.bl false) H'
        rw [found h2 q z]
        exact k
      · walk_at "rd"
        exact z
  · walk_at "rd"
    show Q (.bl (decide (2 ≤ n))) H'
    rw [outB hd h2 q]
    exact k
end
end K10
namespace K10
open PySem L2
open K1 K2 K3 K6 K8
section
variable {P : Program} {w : World} {K : PySem.W.Frag} {mg : Str → Option Value} {base : Heap} {f : Addr} {fd : FuncData} {C_Ring C_Fractions C_Rests C_Tails : Addr} {E_NoPrime E_NoRing : Addr}
local macro_rules | `(tactic| walk_at "sd") => `(tactic| first
  | assumption | (dsimp only; omega) | (dsimp only; decide) | exact ⟨by decide, by decide⟩ | exact ⟨by decide, by decide, by decide⟩ | exact Or.inl ⟨by decide, by decide⟩ | exact ⟨by omega, by omega⟩ | exact Or.inl ⟨by omega, by omega⟩ | exact Or.inr ⟨by decide, by decide⟩ | exact Or.inr ⟨by omega, by omega⟩)
local macro_rules | `(tactic| walk_at "rd") => `(tactic| repeat first
  | refine ⟨_, rfl, ?_⟩ | refine ⟨_, _, rfl, rfl, ?_⟩ | refine And.intro rfl ?_ | refine And.intro (by walk_at "sd") ?_ | with_reducible refine iteT ?_ | with_reducible refine iteF ?_ | (apply ixT_of; assumption; rfl))
local macro_rules | `(tactic| walk_at "clo") => `(tactic| exact h)

theorem scLPr : FnScope ["_law_cell_here", "_law_number"] ["_law_cell_here"] (defScope s__law_prime) := ⟨rfl, rfl, rfl, by decide +kernel, rfl, by decide +kernel, by decide +kernel⟩
set_option maxHeartbeats 4000000 in
theorem ok_LPr  (F : FunD K "_law_prime" "_law_prime" s__law_prime .none f fd) (T : Txt K mg C_Ring C_Fractions C_Rests C_Tails) (c_LPrime : Cal P w K mg base CX0 1 "_law_is_prime" ["_law_number"] [] spPrime)  : FnOk P w K mg base CX0 2 f fd ["_law_cell_here"] spLPr := by
  refine F.okN (k := 1) scLPr (fun vs H Q E h => ?_) (fun cdv A outer s H vs Q E hr h => ?_)
  · obtain ⟨c, rfl, _⟩ := h
    rfl
  obtain ⟨c, rfl, h⟩ := h
  refine ⟨_, (pss_cons (ps_set (i := 1) scLPr.nd rfl (Or.inl rfl) (pe_op op_add (pe_int) (pe_op op_mod (pv 0) (pe_int))))
    (pss_cons (ps_while PassesOwn.never (pt_not (pt_val (pe_c c_LPrime hr pass00 .nil ((pa_cons (pv 1) pa_nil))))) (pss_one (ps_set (i := 1) scLPr.nd rfl (Or.inl rfl) (pe_op op_add (pv 1) (pe_int)))))
    (pss_one (ps_ret (pv 1))))), ?_⟩
  have k := h
  walk_at "rd"
  refine ⟨fun m σ H' => ∃ n : Int, m = (9973 - n).toNat ∧ σ = [some (.int c), some (.int n)] ∧ H' = H ∧ n ≤ 9973, ⟨_, _, rfl, rfl, rfl, by omega⟩, ?_⟩
  rintro m σ H' ⟨n, rfl, rfl, rfl, hn⟩
  refine ⟨_, rfl, n, rfl, hn, _, rfl, ?_⟩
  refine cNB (fun c1 => ?_) (fun c1 => ?_)
  · refine ⟨fun σ' H'' => σ' = [some (.int c), some (.int (n + 1))] ∧ H'' = H', ?_, ?_⟩
    · rintro σ' H'' ⟨rfl, rfl⟩
      have := not9973 c1
      exact ⟨_, (by omega : (9973 - (n + 1)).toNat < (9973 - n).toNat), n + 1, rfl, rfl, rfl, by omega⟩
    · walk_at "rd"
      rfl
  · exact ⟨_, rfl, k n c1 hn⟩
end
end K10
namespace K10
open PySem L2
open K1 K2 K3 K6 K8
section
variable {P : Program} {w : World} {K : PySem.W.Frag} {mg : Str → Option Value} {base : Heap} {f : Addr} {fd : FuncData} {C_Ring C_Fractions C_Rests C_Tails : Addr} {E_NoPrime E_NoRing : Addr}
local macro_rules | `(tactic| walk_at "sd") => `(tactic| first
  | assumption | (dsimp only; omega) | (dsimp only; decide) | exact ⟨by decide, by decide⟩ | exact ⟨by decide, by decide, by decide⟩ | exact Or.inl ⟨by decide, by decide⟩ | exact ⟨by omega, by omega⟩ | exact Or.inl ⟨by omega, by omega⟩ | exact Or.inr ⟨by decide, by decide⟩ | exact Or.inr ⟨by omega, by omega⟩)
local macro_rules | `(tactic| walk_at "rd") => `(tactic| repeat first
  | refine ⟨_, rfl, ?_⟩ | refine ⟨_, _, rfl, rfl, ?_⟩ | refine And.intro rfl ?_ | refine And.intro (by walk_at "sd") ?_ | with_reducible refine iteT ?_ | with_reducible refine iteF ?_ | (apply ixT_of; assumption; rfl))
local macro_rules | `(tactic| walk_at "clo") => `(tactic| exact h)

theorem scLMd : FnScope ["_law_top", "_law_bottom", "_law_prime_here", "_law_shared_here"] ["_law_top", "_law_bottom", "_law_prime_here"] (defScope s__law_made) := ⟨rfl, rfl, rfl, by decide +kernel, rfl, by decide +kernel, by decide +kernel⟩
set_option maxHeartbeats 4000000 in
theorem ok_LMd  (F : FunD K "_law_made" "_law_made" s__law_made .none f fd) (T : Txt K mg C_Ring C_Fractions C_Rests C_Tails) (c_LShared : Cal P w K mg base CX0 1 "_law_shared" ["_law_a", "_law_b"] [] spLShared)  : FnOk P w K mg base CX0 2 f fd ["_law_top", "_law_bottom", "_law_prime_here"] spMd := by
  refine F.okN (k := 1) scLMd (fun vs H Q E h => ?_) (fun cdv A outer s H vs Q E hr h => ?_)
  · obtain ⟨t, b, n, rfl, _⟩ := h
    rfl
  obtain ⟨t, b, n, rfl, h⟩ := h
  refine ⟨_, (pss_cons (ps_if (pt_cmpR op_gt (pv 2) (pe_int) (nomark _)) (pss_one (ps_ret (pe_op op_mod (pv 0) (pv 2)))) pss_nil)
    (pss_cons (ps_set (i := 3) scLMd.nd rfl (Or.inl rfl) (pe_c c_LShared hr pass00 .nil ((pa_cons (pv 0) (pa_cons (pv 1) pa_nil)))))
    (pss_one (ps_ret (pe_tup ((pa_cons (pe_op op_fdivB (pv 0) (pv 3)) (pa_cons (pe_op op_fdivB (pv 1) (pv 3)) pa_nil)))))))), ?_⟩
  obtain ⟨n2, b1, bt, bb, k⟩ := h
  walk_at "rd"
  refine cD (fun c => ?_) (fun c => ?_)
  · have n0 : n ≠ 0 := by omega
    refine ⟨_, rfl, _, rfl, _, _, rfl, rfl, (by show 0 < n; omega), ?_⟩
    refine k _ H (Same.refl _) ((is_n n0).mpr ⟨_, rfl, Int.emod_nonneg _ n0, Int.emod_lt_of_pos _ (by omega), ?_⟩)
    rw [dB_n n0, Int.mul_one]
    exact Int.emod_eq_zero_of_dvd (Int.dvd_sub_self_of_emod_eq rfl)
  · have n0 : n = 0 := by
      rcases n2 with z | z
      · exact z
      · have := z.1; omega
    subst n0
    have hb : b ≠ 0 := by omega
    have ed : gI t b = dv t b := by unfold dv; rw [if_neg (by omega)]
    obtain ⟨g0, gb⟩ := gI_bd (a := t) hb bb
    refine ⟨_, rfl, _, rfl, t, b, rfl, ?_⟩
    refine ⟨_, rfl, _, rfl, _, _, rfl, rfl, ⟨g0, up gb (by decide)⟩, _, rfl, _, rfl, _, _, rfl, rfl, ⟨g0, up gb (by decide)⟩, (by show 2 ≤ sizeLine; decide), fun r hr => ?_⟩
    refine k _ _ (Same.upd hr) (is_0.mpr ⟨r, fT t b, fB t b, rfl, ?_, fB_pos hb, f_cop hb, by rw [dB_0]; exact f_cross hb⟩)
    rw [upd_same]
    unfold fT fB
    rw [← ed]
end
end K10
namespace K10
open PySem L2
open K1 K2 K3 K6 K8
section
variable {P : Program} {w : World} {K : PySem.W.Frag} {mg : Str → Option Value} {base : Heap} {f : Addr} {fd : FuncData} {C_Ring C_Fractions C_Rests C_Tails : Addr} {E_NoPrime E_NoRing : Addr}
local macro_rules | `(tactic| walk_at "sd") => `(tactic| first
  | assumption | (dsimp only; omega) | (dsimp only; decide) | exact ⟨by decide, by decide⟩ | exact ⟨by decide, by decide, by decide⟩ | exact Or.inl ⟨by decide, by decide⟩ | exact ⟨by omega, by omega⟩ | exact Or.inl ⟨by omega, by omega⟩ | exact Or.inr ⟨by decide, by decide⟩ | exact Or.inr ⟨by omega, by omega⟩)
local macro_rules | `(tactic| walk_at "rd") => `(tactic| repeat first
  | refine ⟨_, rfl, ?_⟩ | refine ⟨_, _, rfl, rfl, ?_⟩ | refine And.intro rfl ?_ | refine And.intro (by walk_at "sd") ?_ | with_reducible refine iteT ?_ | with_reducible refine iteF ?_ | (apply ixT_of; assumption; rfl))
local macro_rules | `(tactic| walk_at "clo") => `(tactic| exact h)

theorem scLPoly : FnScope ["_law_cells", "_law_many", "_law_prime_here", "_law_f", "_law_cell_here", "_law_number", "_law_term"] ["_law_cells", "_law_many", "_law_prime_here"] (defScope s__law_poly) := ⟨rfl, rfl, rfl, by decide +kernel, rfl, by decide +kernel, by decide +kernel⟩
set_option maxHeartbeats 4000000 in
theorem ok_LPoly  (F : FunD K "_law_poly" "_law_poly" s__law_poly .none f fd) (T : Txt K mg C_Ring C_Fractions C_Rests C_Tails) (c_LMd : Cal P w K mg base CX0 2 "_law_made" ["_law_top", "_law_bottom", "_law_prime_here"] [] spMd)  : FnOk P w K mg base CX0 3 f fd ["_law_cells", "_law_many", "_law_prime_here"] (spPoly K) := by
  refine F.okN (k := 2) scLPoly (fun vs H Q E h => ?_) (fun cdv A outer s H vs Q E hr h => ?_)
  · obtain ⟨l, m, n, cs, rfl, _⟩ := h
    rfl
  obtain ⟨l, m, n, cs, rfl, h⟩ := h
  refine ⟨_, (pss_cons (ps_set (i := 3) scLPoly.nd rfl (Or.inl rfl) (pe_dnewT))
    (pss_cons (ps_for PassesOwn.never rfl (pi_listK (K := K) rfl (pv 0)) (pg_name (i := 4) scLPoly.nd rfl (Or.inr rfl)) (pss_cons (ps_set (i := 5) scLPoly.nd rfl (Or.inl rfl) (pe_c c_LMd hr pass00 .nil ((pa_cons (pe_op op_sub (pe_op op_mod (pv 4) (pe_op op_add (pe_op op_mul (pe_int) (pe_op op_pow (pe_int) (pe_int))) (pe_int))) (pe_op op_pow (pe_int) (pe_int))) (pa_cons (pe_op op_add (pe_int) (pe_op op_mod (pe_op op_fdiv (pv 4) (pe_int)) (pe_int))) (pa_cons (pv 2) pa_nil))))))
    (pss_one (ps_if (pt_cmpR (op_neD hr.units) (pv 5) (pe_c c_LMd hr pass00 .nil ((pa_cons (pe_int) (pa_cons (pe_int) (pa_cons (pv 2) pa_nil))))) (nomark _)) (pss_cons (ps_set (i := 6) scLPoly.nd rfl (Or.inl rfl) (pe_callTy (call_tupleK (K := K) rfl) rfl T.b_tuple (by kernel_rfl) ((pa_cons (pe_comp (N := ["_law_at_here", "_law_cell_here"]) (cl := [("_law_cell_here", s.heap.objs.size + 1)]) (mp := [none, some 4]) (Blk.of rfl (by decide +kernel) rfl (by decide +kernel) nd__law_at_here__law_cell_here (subc_cons rfl subc_nil) (fr_of (fs := ["_law_cell_here"]) rfl (by decide +kernel)) rfl (mapc_none (mapc_some rfl (.inl rfl) rfl mapc_nil))) rfl (pi_range1 rfl T.b_range ((pa_cons (pv 1) pa_nil))) (fun C0 s0 H0 fp0 => pg_one (i := 0) nd__law_at_here__law_cell_here rfl rfl) (fun C0 s0 H0 fp0 => pts_nil) (fun C0 s0 H0 fp0 => pe_op op_mod (pe_op op_fdiv (pe_op op_mod (pe_op op_mul (pv 1) (pe_op op_add (pe_int) (pe_op op_mul (pe_int) (pv 0)))) (pe_int)) (pe_int)) (pe_int))) pa_nil))))
    (pss_one (ps_dput (uOne hr) (pv 3) (pv 6) (pv 5) rfl))) pss_nil))))
    (pss_one (ps_ret (pv 3))))), ?_⟩
  obtain ⟨n2, n1, m3, hS, hl, k⟩ := h
  intro d0 nd0
  have e0 : Same H (upd H d0 (.dT [])) := Same.upd nd0
  have hd1 : (upd H d0 (HO.dT [])) d0 = some (.dT []) := upd_same
  generalize upd H d0 (HO.dT []) = H1 at e0 hd1
  have lc : (cs.map V.int).length = cs.length := List.length_map _
  refine ⟨_, rfl, l, rfl, ⟨_, e0.seq hS⟩, ?_⟩
  refine for_list (xs := cs.map V.int) (fun i σ H' => i ≤ cs.length ∧ Same H H' ∧ (∃ v5 v6 v7, σ = [some (.ref l), some (.int m), some (.int n), some (.ref d0), v5, v6, v7]) ∧ ∃ kv T, H' d0 = some (.dT kv) ∧ PD n m H' kv T (dN n) ∧ Bdd n T 23 ∧ Pl 2 kv ∧ kv.length ≤ i) ?_ (fun i σ H' _ h => h.2.1.seq hS) ?_ ?_
  · exact ⟨Nat.zero_le _, e0, ⟨_, _, _, rfl⟩, [], fun _ => 0, hd1, PD.nil n2 (dN_nz n2) fun _ => zr_zero n, (fun _ _ => by show (0 : Int).natAbs < 2 ^ 23; decide), (fun t ht => by cases ht), Nat.le_refl _⟩
  · rintro i x σ H2 hx ⟨hi, e2, ⟨v5, v6, v7, rfl⟩, kv, T0, hd2, pk, bT, pl, lk⟩
    have hi' : i < cs.length := by have := lt_of_get hx; rw [lc] at this; exact this
    rw [getD_of_map hx]
    generalize cs.getD i 0 = c
    walk_at "rd"
    have e6 : (10 : Int) ^ (Int.toNat 6) = 1000000 := by decide
    have tb : (c % (2 * 10 ^ (Int.toNat 6) + 1) - 10 ^ (Int.toNat 6)).natAbs ≤ 1000000 := by rw [e6]; omega
    refine ⟨_, _, n, rfl, n2, ?_, ?_, ?_, fun v H3 e3 iv => ?_⟩
    · show 1 ≤ 1 + c / 5 % 3; omega
    · exact Nat.lt_of_le_of_lt tb (by decide)
    · show (1 + c / 5 % 3).natAbs < 2 ^ 400
      exact Nat.lt_of_le_of_lt (show _ ≤ 3 by omega) (by decide)
    obtain ⟨a, ia, za, ba⟩ := made6 n2 (by show 1 + c / 5 % 3 = 1 ∨ 1 + c / 5 % 3 = 2 ∨ 1 + c / 5 % 3 = 3; omega) tb iv
    have g3 := e2.trans e3
    refine ⟨_, rfl, _, rfl, 0, 1, n, rfl, n2, by decide, by decide, by decide, fun u H4 e4 iu => ?_⟩
    rw [dB_one] at iu
    have g4 := g3.trans e4
    obtain ⟨dn, rd, nd, eq⟩ := (ia.same e4).rds (K := K) n2 (dN_nz n2)
    refine ⟨dn, z0N n, rd, iu.zero, nd.shaped, (nm_z0 n).shaped, _, rfl, ?_⟩
    rw [eq]
    have hd4 := e4 _ _ (e3 _ _ hd2)
    have pk4 := (pk.same e3).same e4
    refine cN (fun z => ?_) (fun z => ?_)
    · show tComp _ _ _ _ _ _ _ _
      refine walk_compF (J := Itr 0 m) (H1 := H4) (walk_range 0 m) (by omega) ?_ (fun σ => ∃ v, σ = [v, some (.int c)]) (fun _ => true) (fun _ v _ => ∃ x : Int, v = .int x ∧ 0 ≤ x ∧ x ≤ 2) (fun _ _ _ _ _ q => q) (fun _ _ _ _ _ _ _ q => q) ⟨none, rfl⟩ ?_ fun D3 H5 zs e5 hL5 hF5 => ?_
      · exact fun R hR => ⟨_, rfl, (m : Int), rfl, by omega, by omega, hR⟩
      · rintro i2 x2 σ2 H8 hi2 ⟨z2, rfl⟩ e8 rfl Ny2 Nn2 hy2 hn2
        unfold gName tYes
        dsimp only
        rw [if_pos rfl]
        walk_at "rd"
        exact hy2 _ _ _ ⟨_, rfl⟩ (Same.refl _) ⟨_, rfl, by omega, by omega⟩ rfl
      rw [List.filter_eq_self.mpr (fun _ _ => rfl)] at hF5
      obtain ⟨xs, rfl, lxs, hxs⟩ := paired_ints hF5
      rw [List.length_range] at lxs
      refine ⟨D3, _, rfl, .inl ⟨SqL.of hL5, fun tt ht => ?_⟩⟩
      have e6 : Same H4 (upd H5 tt (.tup (xs.map V.int))) := e5.updR (e5.free ht)
      have ht6 : (upd H5 tt (HO.tup (xs.map V.int))) tt = some (.tup (xs.map V.int)) := upd_same
      generalize upd H5 tt (HO.tup (xs.map V.int)) = H6 at e6 ht6
      have hd6 := e6 _ _ hd4
      have okx : TmOk m xs := ⟨by omega, fun x hx => (hxs x hx).1⟩
      have zl : kv.length < sizeLine := Nat.lt_of_le_of_lt (show kv.length ≤ 100 by omega) (by decide)
      refine ⟨_, rfl, _, rfl, _, rfl, d0, _, rfl, DPut.t (k := ky xs) hd6 (by rw [ky_kV]; exact ht6) zl, ?_⟩
      have kp : ∀ b ys, H6 b = some (.tup ys) → (upd H6 d0 (.dT (putK kv (ky xs) v))) b = some (.tup ys) := fun b ys hb => (upd_ne (ne_of hb hd6 (by intro q; cases q))).trans hb
      refine ⟨hi', (g4.trans e6).updR nd0, ⟨_, _, _, rfl⟩, putK kv (ky xs) v, (fun t => if t = xs then a else T0 t), upd_same, ?_, ?_, ?_, ?_⟩
      · exact ((pk4.same e6).set okx ((ia.same e4).same e6) z).keep kp
      · intro q t
        show (if t = xs then a else T0 t).natAbs < 2 ^ 23
        split
        · exact ba q
        · exact bT q t
      · exact pl.put pk.ko okx fun y hy => (hxs y hy).2
      · have := length_putK kv (ky xs) v; omega
    · exact ⟨hi', g4, ⟨_, _, _, rfl⟩, kv, T0, hd4, pk4, bT, pl, by omega⟩
  · rintro σ H2 ⟨_, e2, ⟨v5, v6, v7, rfl⟩, kv, T0, hd2, pk, bT, pl, lk⟩
    rw [lc] at lk
    exact ⟨_, rfl, k d0 H2 kv T0 nd0 e2 hd2 pk bT pl lk⟩
end
end K10
namespace K10
open PySem L2
open K1 K2 K3 K6 K8
section
variable {P : Program} {w : World} {K : PySem.W.Frag} {mg : Str → Option Value} {base : Heap} {f : Addr} {fd : FuncData} {C_Ring C_Fractions C_Rests C_Tails : Addr} {E_NoPrime E_NoRing : Addr}
local macro_rules | `(tactic| walk_at "sd") => `(tactic| first
  | assumption | (dsimp only; omega) | (dsimp only; decide) | exact ⟨by decide, by decide⟩ | exact ⟨by decide, by decide, by decide⟩ | exact Or.inl ⟨by decide, by decide⟩ | exact ⟨by omega, by omega⟩ | exact Or.inl ⟨by omega, by omega⟩ | exact Or.inr ⟨by decide, by decide⟩ | exact Or.inr ⟨by omega, by omega⟩)
local macro_rules | `(tactic| walk_at "rd") => `(tactic| repeat first
  | refine ⟨_, rfl, ?_⟩ | refine ⟨_, _, rfl, rfl, ?_⟩ | refine And.intro rfl ?_ | refine And.intro (by walk_at "sd") ?_ | with_reducible refine iteT ?_ | with_reducible refine iteF ?_ | (apply ixT_of; assumption; rfl))
local macro_rules | `(tactic| walk_at "clo") => `(tactic| exact h)

theorem scWp : FnScope ["_law_base", "_law_power", "_law_found", "_law_step"] ["_law_base", "_law_power"] (defScope s__law_whole_power) := ⟨rfl, rfl, rfl, by decide +kernel, rfl, by decide +kernel, by decide +kernel⟩
set_option maxHeartbeats 4000000 in
theorem ok_Wp  (F : FunD K "_law_whole_power" "_law_whole_power" s__law_whole_power .none f fd) (T : Txt K mg C_Ring C_Fractions C_Rests C_Tails)   : FnOk P w K mg base CX0 1 f fd ["_law_base", "_law_power"] spWp := by
  refine F.okN (k := 0) scWp (fun vs H Q E h => ?_) (fun cdv A outer s H vs Q E hr h => ?_)
  · obtain ⟨b, p, rfl, _⟩ := h
    rfl
  obtain ⟨b, p, rfl, h⟩ := h
  refine ⟨_, (pss_cons (ps_set (i := 2) scWp.nd rfl (Or.inl rfl) (pe_int))
    (pss_cons (ps_for PassesOwn.never rfl (pi_range1 rfl T.b_range ((pa_cons (pv 1) pa_nil))) (pg_name (i := 3) scWp.nd rfl (Or.inl rfl)) (pss_one (ps_set (i := 2) scWp.nd rfl (Or.inl rfl) (pe_op op_mulB (pv 2) (pv 0)))))
    (pss_one (ps_ret (pv 2))))), ?_⟩
  obtain ⟨hb, p0, p1, k⟩ := h
  walk_at "rd"
  refine ⟨by omega, by omega, ?_⟩
  refine for_range (n := p.toNat) (lo := 0) (fun i σ H' => i ≤ p.toNat ∧ H' = H ∧ ∃ v4, σ = [some (.int b), some (.int p), some (.int (b ^ i)), v4]) ?_ ?_ ?_
  · exact ⟨Nat.zero_le _, rfl, none, by rw [Int.pow_zero]; rfl⟩
  · rintro i σ H' hi ⟨_, rfl, v4, rfl⟩
    unfold gName
    dsimp only
    refine ⟨_, rfl, _, rfl, _, _, rfl, rfl, ⟨up (pw_up hb i) (by omega), up hb (by decide)⟩, ?_⟩
    refine ⟨hi, rfl, some (.int (0 + i)), ?_⟩
    rw [Int.pow_succ]; rfl
  · rintro σ H' ⟨_, rfl, v4, rfl⟩
    exact ⟨_, rfl, k⟩
end
end K10
namespace K10
open PySem L2
open K1 K2 K3 K6 K8
section
variable {P : Program} {w : World} {K : PySem.W.Frag} {mg : Str → Option Value} {base : Heap} {f : Addr} {fd : FuncData} {C_Ring C_Fractions C_Rests C_Tails : Addr} {E_NoPrime E_NoRing : Addr}
local macro_rules | `(tactic| walk_at "sd") => `(tactic| first
  | assumption | (dsimp only; omega) | (dsimp only; decide) | exact ⟨by decide, by decide⟩ | exact ⟨by decide, by decide, by decide⟩ | exact Or.inl ⟨by decide, by decide⟩ | exact ⟨by omega, by omega⟩ | exact Or.inl ⟨by omega, by omega⟩ | exact Or.inr ⟨by decide, by decide⟩ | exact Or.inr ⟨by omega, by omega⟩)
local macro_rules | `(tactic| walk_at "rd") => `(tactic| repeat first
  | refine ⟨_, rfl, ?_⟩ | refine ⟨_, _, rfl, rfl, ?_⟩ | refine And.intro rfl ?_ | refine And.intro (by walk_at "sd") ?_ | with_reducible refine iteT ?_ | with_reducible refine iteF ?_ | (apply ixT_of; assumption; rfl))
local macro_rules | `(tactic| walk_at "clo") => `(tactic| exact h)

theorem scAt : FnScope ["_law_f", "_law_spot_here", "_law_prime_here", "_law_total", "_law_term", "_law_number", "_law_part", "_law_at_here"] ["_law_f", "_law_spot_here", "_law_prime_here"] (defScope s__law_at) := ⟨rfl, rfl, rfl, by decide +kernel, rfl, by decide +kernel, by decide +kernel⟩
set_option maxHeartbeats 4000000 in
theorem ok_At  (F : FunD K "_law_at" "_law_at" s__law_at .none f fd) (T : Txt K mg C_Ring C_Fractions C_Rests C_Tails) (c_Wp : Cal P w K mg base CX0 1 "_law_whole_power" ["_law_base", "_law_power"] [] spWp)  : FnOk P w K mg base CX0 2 f fd ["_law_f", "_law_spot_here", "_law_prime_here"] spAt := by
  refine F.okN (k := 1) scAt (fun vs H Q E h => ?_) (fun cdv A outer s H vs Q E hr h => ?_)
  · obtain ⟨e, s, m, n, fvs, T0, D0, ps, bt, us, rfl, _⟩ := h
    rfl
  obtain ⟨e, s, m, n, fvs, T0, D0, ps, bt, us, rfl, h⟩ := h
  refine ⟨_, (pss_cons (ps_set (i := 3) scAt.nd rfl (Or.inl rfl) (pe_int))
    (pss_cons (ps_thw (ps_for PassesOwn.never rfl (pi_items (pv 0)) (pg_tup rfl (pgs_cons (pg_name (i := 4) scAt.nd rfl (Or.inl rfl)) (pgs_cons (pg_name (i := 5) scAt.nd rfl (Or.inl rfl)) pgs_nil))) (pss_cons (ps_set (i := 6) scAt.nd rfl (Or.inl rfl) (pv 5))
    (pss_cons (ps_if (pt_cmpR op_eq (pv 2) (pe_int) (nomark _)) (pss_cons (ps_if (pt_cmpR op_ne (pe_op op_mod (pe_int) (pe_ix (r := rIxT K) ix_tup (pv 5) (pe_int) (fun _ _ => rfl))) (pe_int) (nomark _)) (pss_one (ps_ret (pe_non))) pss_nil)
    (pss_one (ps_set (i := 6) scAt.nd rfl (Or.inl rfl) (pe_op op_mulB (pe_op op_mulB (pe_ix (r := rIxT K) ix_tup (pv 5) (pe_int) (fun _ _ => rfl)) (pe_op op_fdivB (pe_int) (pe_ix (r := rIxT K) ix_tup (pv 5) (pe_int) (fun _ _ => rfl)))) (pe_c c_Wp hr pass00 .nil ((pa_cons (pe_ix (r := rIxT K) ix_tup (pv 1) (pe_int) (fun _ _ => rfl)) (pa_cons (pe_op op_sub (pe_int) (pe_callB (call_sumK (K := K) rfl true rfl) rfl T.b_sum (by kernel_rfl) ((pa_cons (pv 4) pa_nil)))) pa_nil)))))))) pss_nil)
    (pss_cons (ps_for PassesOwn.never rfl (pi_range1 rfl T.b_range ((pa_cons (pe_callB (call_lenK (K := K) rfl) rfl T.b_len PySem.boot_len ((pa_cons (pv 4) pa_nil))) pa_nil))) (pg_name (i := 7) scAt.nd rfl (Or.inl rfl)) (pss_one (ps_set (i := 6) scAt.nd rfl (Or.inl rfl) (pe_op op_mulB (pv 6) (pe_c c_Wp hr pass00 .nil ((pa_cons (pe_ix (r := rIxL K) ix_list (pe_ix (r := rIxT K) ix_tup (pv 1) (pe_int) (fun _ _ => rfl)) (pv 7) (fun _ _ => rfl)) (pa_cons (pe_ix (r := rIxT K) ix_tup (pv 4) (pv 7) (fun _ _ => rfl)) pa_nil))))))))
    (pss_one (ps_set (i := 3) scAt.nd rfl (Or.inl rfl) (pe_op op_add (pv 3) (pv 6)))))))))
    (pss_one (ps_ret (pv 3))))), ?_⟩
  obtain ⟨n2, n1, m3, pf, sp, k⟩ := h
  obtain ⟨pl, ql, hs, hpl, hql⟩ := sp.ex
  have he := pf.he
  have pT := pf.pd
  have ltk : (tks fvs).length = fvs.length := tks_len fvs
  walk_at "rd"
  refine ⟨e, fvs, rfl, .inl he, fun o => ?_⟩
  have hz3 : FzD (upd H e (.frz o (.dT fvs))) e o fvs := upd_same
  have up3 : ∀ c ob, H c = some ob → (∀ kk, ob ≠ .dT kk) → (upd H e (.frz o (.dT fvs))) c = some ob := fun c ob hc nt => (upd_ne (ne_of hc he (nt _))).trans hc
  have th : ∀ H', Same (upd H e (.frz o (.dT fvs))) H' → Same H (upd H' e (.dT fvs)) := fun H' q => same_thaw he q
  generalize upd H e (HO.frz o (HO.dT fvs)) = H3z at hz3 up3 th
  have nzD := pT.nz
  refine for_ditem (fun i σ H' => i ≤ fvs.length ∧ Same H3z H' ∧ ∃ S v5 v6 v7 v8, σ = [some (.ref e), some (.ref s), some (.int n), some (.int S), v5, v6, v7, v8] ∧ eqn n (S * D0) (c0 n * ev ((tks fvs).take i) T0 (wt ps bt)) ∧ (Pl 4 fvs → S.natAbs ≤ i * 2 ^ 380)) ?_ (fun i σ H' h => h.2.1 _ _ hz3) ?_ ?_
  · exact ⟨Nat.zero_le _, Same.refl _, 0, none, none, none, none, rfl, eqn.of_eq (by rw [List.take_zero]; show 0 * D0 = c0 n * 0; simp), fun _ => Nat.zero_le _⟩
  · rintro i kx vx σ H4 p b hk ⟨hi, e4, S, v5, v6, v7, v8, rfl, eS, bS⟩ hp hb
    obtain ⟨t, ht, rfl, okt, ix, nzx⟩ := pT.get hk
    have htm : t ∈ tks fvs := List.mem_of_getElem? ht
    have hi' := lt_of_get hk
    refine ⟨p, _, rfl, SqT.of upd_same, rfl, _, _, rfl, _, _, rfl, rfl, ?_⟩
    have e5 : Same H4 (upd H4 p (.tup [.ref b, vx])) := Same.upd hp
    generalize upd H4 p (HO.tup [V.ref b, vx]) = H5 at e5
    have g5 := e4.trans e5
    have lo : ∀ c ob, H c = some ob → (∀ kk, ob ≠ .dT kk) → H5 c = some ob := fun c ob hc nt => g5 _ _ (up3 _ _ hc nt)
    have hs5 := lo _ _ hs (by intro _ z; cases z)
    have hpl5 := lo _ _ hpl (by intro _ z; cases z)
    have hb5 := e5 _ _ hb
    rw [ky_kV] at hb5
    have ix5 : Is n H5 vx (T0 t) D0 := ix.keep fun c xs hc => lo _ _ hc (by intro _ z; cases z)
    have d0 := deg_nn okt.2
    dsimp only
    refine seq_mid (fun σ' H' => H' = H5 ∧ σ' = [some (.ref e), some (.ref s), some (.int n), some (.int S), some (.ref b), some vx, some vx, v8]) ?_ (fun N hN => ⟨_, rfl, hN _ _ ⟨rfl, rfl⟩⟩)
    rintro σ1 H6 ⟨rfl, rfl⟩
    refine seq_mid (fun σ' H' => H' = H6 ∧ ∃ w, σ' = [some (.ref e), some (.ref s), some (.int n), some (.int S), some (.ref b), some vx, some (.int w), v8] ∧ eqn n (w * D0) (c0 n * (T0 t * bt ^ (12 - deg t).toNat)) ∧ w.natAbs < 2 ^ 110) ?_ ?_
    rotate_left
    · intro N hN
      walk_at "rd"
      refine cEq (fun c => ?_) (fun c => ?_)
      · subst c
        obtain ⟨r, x, y, rfl, hx, hy, cp, ex⟩ := is_0.mp ix5
        obtain ⟨c, hc, c1⟩ := pf.dv rfl
        obtain ⟨m36, e36⟩ := num36 hy cp ex hc
        have nD0 : D0 ≠ 0 := by rw [zr_0] at nzD; exact nzD
        obtain ⟨lx, ly⟩ := cop_le hy cp nD0 ex
        have bx : x.natAbs < 2 ^ 60 := Nat.lt_of_le_of_lt lx (pf.bT rfl t)
        have y36 : y ≤ 36 := by
          obtain ⟨q, hq⟩ := Int.dvd_of_emod_eq_zero m36
          exact Int.le_of_dvd (by decide) ⟨q, hq⟩
        have b36 : (Int.fdiv 36 y).natAbs < 2 ^ 6 := by
          rw [Int.fdiv_eq_ediv_of_nonneg _ (by omega)]
          have h1 : (36 : Int) / y ≤ 36 := Int.ediv_le_self _ (by decide)
          have h2 : 0 ≤ (36 : Int) / y := Int.ediv_nonneg (by decide) (by omega)
          omega
        have hdl : deg t ≤ 12 := deg_le (by rw [okt.1]; exact m3) (pf.p4 rfl t htm)
        have bb := sp.b1
        have b5 := sp.b5
        have hbt : bt.natAbs < 2 ^ 3 := by omega
        refine ⟨_, rfl, r, _, _, _, rfl, rfl, SqT.of hx, rfl, _, _, rfl, rfl, (by show (0 : Int) < y; omega), rfl, _, rfl, ?_⟩
        refine cNe (fun c1 => absurd m36 c1) (fun _ => ?_)
        have wb := mul_up (mul_up bx b36) (up (pw_up hbt (12 - t.sum).toNat) (show 3 * (12 - t.sum).toNat + 1 ≤ 37 by have : deg t = t.sum := rfl; omega))
        refine ⟨_, rfl, r, _, _, _, rfl, rfl, SqT.of hx, rfl, _, rfl, r, _, _, _, rfl, rfl, SqT.of hx, rfl, _, _, rfl, rfl, ⟨by show y ≠ 0; omega, Nat.lt_of_le_of_lt (show y.natAbs ≤ 36 by omega) (by decide)⟩, _, _, rfl, rfl, ⟨up bx (by decide), up b36 (by decide)⟩, _, rfl, s, _, _, _, rfl, rfl, SqT.of hs5, rfl, _, rfl, b, _, rfl, SqT.of hb5, _, _, rfl, rfl, bt, 12 - t.sum, rfl, up hbt (by decide), by have : deg t = t.sum := rfl; omega, by have : deg t = t.sum := rfl; omega, _, _, rfl, rfl, ⟨up (mul_up bx b36) (by decide), up (pw_up hbt _) (by have : deg t = t.sum := rfl; omega)⟩, ?_⟩
        refine hN _ _ ⟨rfl, x * Int.fdiv 36 y * bt ^ (12 - t.sum).toNat, rfl, ?_, up wb (by decide)⟩
        rw [eqn_0]
        show x * Int.fdiv 36 y * bt ^ (12 - t.sum).toNat * D0 = 36 * (T0 t * bt ^ (12 - t.sum).toNat)
        have : x * Int.fdiv 36 y * bt ^ (12 - t.sum).toNat * D0 = (x * Int.fdiv 36 y * D0) * bt ^ (12 - t.sum).toNat := by grind
        rw [this, e36, Int.mul_assoc]
      · have bt1 := sp.bn c
        have D1 := pf.d1 c
        obtain ⟨v, rfl, a0, a1, ev⟩ := (is_n c).mp ix5
        refine hN _ _ ⟨rfl, v, rfl, ?_, ?_⟩
        · unfold c0; rw [if_neg c, bt1, one_pw, D1, Int.mul_one, Int.mul_one, Int.one_mul]
          rw [D1, Int.mul_one] at ev
          exact (zr_n c).mpr ev
        · exact Nat.lt_of_le_of_lt (show v.natAbs ≤ 9973 by omega) (by decide)
    rintro σ2 H7 ⟨rfl, w, rfl, ew, bw⟩
    refine seq_mid (fun σ' H' => H' = H7 ∧ ∃ u8, σ' = [some (.ref e), some (.ref s), some (.int n), some (.int S), some (.ref b), some vx, some (.int (w * pwr ps t)), u8]) ?_ ?_
    rotate_left
    · intro N hN
      have lt' : (t.map V.int).length = m := by rw [List.length_map]; exact okt.1
      refine ⟨_, rfl, b, _, rfl, .inr (SqT.of hb5), ((t.map V.int).length : Int), rfl, by omega, by omega, ?_⟩
      refine for_range (lo := 0) (n := ((t.map V.int).length : Int).toNat) (fun j σ H' => j ≤ m ∧ H' = H7 ∧ ∃ u8, σ = [some (.ref e), some (.ref s), some (.int n), some (.int S), some (.ref b), some vx, some (.int (w * pwr (ps.take j) (t.take j))), u8]) ?_ ?_ ?_
      · refine ⟨Nat.zero_le _, rfl, v8, ?_⟩
        have : w * pwr (ps.take 0) (t.take 0) = w := by simp [pwr]
        rw [this]
      · rintro j σ H8 hj ⟨_, rfl, u8, rfl⟩
        rw [lt'] at hj
        have hjm : j < m := by omega
        obtain ⟨px, hpx⟩ : ∃ px, ps[j]? = some px := ⟨_, List.getElem?_eq_getElem (by rw [sp.lp]; exact hjm)⟩
        obtain ⟨yy, hyy⟩ : ∃ yy, t[j]? = some yy := ⟨_, List.getElem?_eq_getElem (by rw [okt.1]; exact hjm)⟩
        have y0 := okt.2 yy (List.mem_of_getElem? hyy)
        have yd := mem_le_deg okt.2 (List.mem_of_getElem? hyy)
        have d105 := pf.p99 t htm
        have y99 := pf.y99 t htm yy (List.mem_of_getElem? hyy)
        have e1 : (ps.map V.int)[j]? = some (.int px) := by rw [List.getElem?_map, hpx]; rfl
        have e2 : (t.map V.int)[j]? = some (.int yy) := by rw [List.getElem?_map, hyy]; rfl
        have dt := deg_take_le (j := j) okt.2
        have b1 := pwr_bdd (a := 20) (ps := ps.take j) (t := t.take j) (fun x hx => sp.hp x (List.mem_of_mem_take hx)) (fun x hx => okt.2 x (List.mem_of_mem_take hx))
        have b2 := up b1 (show 20 * (deg (t.take j)).toNat + (ps.take j).length + 1 ≤ 2200 by rw [List.length_take]; omega)
        have hpb := sp.hp px (List.mem_of_getElem? hpx)
        unfold gName
        dsimp only
        refine ⟨_, rfl, _, rfl, s, _, _, _, rfl, rfl, SqT.of hs5, rfl, _, rfl, pl, _, _, _, rfl, rfl, SqL.of hpl5, by rw [Int.zero_add]; exact atI_nat e1, _, rfl, _, rfl, b, _, _, _, rfl, rfl, SqT.of hb5, by rw [Int.zero_add]; exact atI_nat e2, px, yy, rfl, hpb, y0, by omega, _, _, rfl, rfl, ⟨up (mul_up bw b2) (by decide), up (pw_up hpb _) (by omega)⟩, ?_⟩
        refine ⟨hjm, rfl, some (.int (0 + j)), ?_⟩
        rw [pwr_take hpx hyy, ← Int.mul_assoc]
        rfl
      · rintro σ H8 ⟨_, rfl, u8, rfl⟩
        refine hN _ _ ⟨rfl, u8, ?_⟩
        have : ((t.map V.int).length : Int).toNat = m := by omega
        rw [this]
        have e1 : ps.take m = ps := by rw [← sp.lp, List.take_length]
        have e2 : t.take m = t := by rw [← okt.1, List.take_length]
        rw [e1, e2]
    rintro σ3 H8 ⟨rfl, u8, rfl⟩
    refine ⟨_, rfl, _, rfl, _, _, rfl, rfl, ?_⟩
    refine ⟨hi', g5, S + w * pwr ps t, _, _, _, _, rfl, ?_, fun p4 => ?_⟩
    · rw [take_snoc ht, ev_snoc]
      have a1 := ew.mul (eqn.refl n (pwr ps t))
      have a2 := eS.add a1
      refine eqn.trans (eqn.of_eq ?_) (a2.trans (eqn.of_eq ?_))
      · grind
      · unfold wt; grind
    · have q := bS p4
      have b1 := pwr_bd (a := 20) (c := 4) sp.hp (p4 t htm)
      have b2 := mul_up bw (up b1 (show (20 * 4 + 1) * ps.length + 1 ≤ 244 by rw [sp.lp]; omega))
      have b3 := up b2 (show 110 + 244 ≤ 380 by decide)
      have := Int.natAbs_add_le S (w * pwr ps t)
      rw [Nat.succ_mul]; omega
  · rintro σ H4 ⟨_, e4, S, v5, v6, v7, v8, rfl, eS, bS⟩
    refine .inr ⟨e, o, _, e4 _ _ hz3, fun o' w' z => ?_, ?_⟩
    · have z' : H e = some (.frz o' w') := z
      rw [he] at z'; cases z'
    rw [← ltk, List.take_length] at eS
    refine ⟨_, rfl, k S _ (th _ e4) eS fun p4 => ?_⟩
    have := bS p4
    have : fvs.length * 2 ^ 380 ≤ 1000 * 2 ^ 380 := Nat.mul_le_mul_right _ pf.ln
    have : 1000 * 2 ^ 380 < 2 ^ 400 := by decide
    omega
end
end K10
namespace K10
open PySem L2
open K1 K2 K3 K6 K8
section
variable {P : Program} {w : World} {K : PySem.W.Frag} {mg : Str → Option Value} {base : Heap} {f : Addr} {fd : FuncData} {C_Ring C_Fractions C_Rests C_Tails : Addr} {E_NoPrime E_NoRing : Addr}
local macro_rules | `(tactic| walk_at "sd") => `(tactic| first
  | assumption | (dsimp only; omega) | (dsimp only; decide) | exact ⟨by decide, by decide⟩ | exact ⟨by decide, by decide, by decide⟩ | exact Or.inl ⟨by decide, by decide⟩ | exact ⟨by omega, by omega⟩ | exact Or.inl ⟨by omega, by omega⟩ | exact Or.inr ⟨by decide, by decide⟩ | exact Or.inr ⟨by omega, by omega⟩)
local macro_rules | `(tactic| walk_at "rd") => `(tactic| repeat first
  | refine ⟨_, rfl, ?_⟩ | refine ⟨_, _, rfl, rfl, ?_⟩ | refine And.intro rfl ?_ | refine And.intro (by walk_at "sd") ?_ | with_reducible refine iteT ?_ | with_reducible refine iteF ?_ | (apply ixT_of; assumption; rfl))
local macro_rules | `(tactic| walk_at "clo") => `(tactic| exact h)

theorem scSam : FnScope ["_law_found", "_law_whole", "_law_spot_here", "_law_prime_here", "_law_bottom"] ["_law_found", "_law_whole", "_law_spot_here", "_law_prime_here"] (defScope s__law_same) := ⟨rfl, rfl, rfl, by decide +kernel, rfl, by decide +kernel, by decide +kernel⟩
set_option maxHeartbeats 4000000 in
theorem ok_Sam  (F : FunD K "_law_same" "_law_same" s__law_same .none f fd) (T : Txt K mg C_Ring C_Fractions C_Rests C_Tails) (c_Wp : Cal P w K mg base CX0 1 "_law_whole_power" ["_law_base", "_law_power"] [] spWp) (c_LShared : Cal P w K mg base CX0 1 "_law_shared" ["_law_a", "_law_b"] [] spLShared)  : FnOk P w K mg base CX0 3 f fd ["_law_found", "_law_whole", "_law_spot_here", "_law_prime_here"] spSame := by
  refine F.okN (k := 2) scSam (fun vs H Q E h => ?_) (fun cdv A outer s H vs Q E hr h => ?_)
  · obtain ⟨v, S, s, m, n, X, D, ps, bt, us, rfl, _⟩ := h
    rfl
  obtain ⟨v, S, s, m, n, X, D, ps, bt, us, rfl, h⟩ := h
  refine ⟨_, (pss_cons (ps_if (pt_cmpR op_gt (pv 3) (pe_int) (nomark _)) (pss_one (ps_ret (pe_and (pe_callB (call_isinstK (K := K) rfl) rfl T.b_isinstance (by kernel_rfl) ((pa_cons (pv 0) (pa_cons (pe_bltn (v := .ty "int") rfl T.b_int (by kernel_rfl) rfl) pa_nil)))) (pe_one (pe_cmpR op_eq (pv 0) (pe_op op_mod (pv 1) (pv 3)) (nomark _)))))) pss_nil)
    (pss_cons (ps_if (PW.pt (pw_or (pt_not (pt_val (pe_callB (call_isinstK (K := K) rfl) rfl T.b_isinstance (by kernel_rfl) ((pa_cons (pv 0) (pa_cons (pe_bltn (v := .ty "tuple") rfl T.b_tuple (by kernel_rfl) rfl) pa_nil)))))) (pw_or (pt_cmpR op_ne (pe_callB (call_lenK (K := K) rfl) rfl T.b_len PySem.boot_len ((pa_cons (pv 0) pa_nil))) (pe_int) (nomark _)) (pw_or1 (pt_cmpR op_lt (pe_ix (r := rIxT K) ix_tup (pv 0) (pe_int) (fun _ _ => rfl)) (pe_int) (nomark _)))))) (pss_one (ps_ret (pe_bl))) pss_nil)
    (pss_cons (ps_set (i := 4) scSam.nd rfl (Or.inl rfl) (pe_op op_mulB (pe_int) (pe_c c_Wp hr pass00 .nil ((pa_cons (pe_ix (r := rIxT K) ix_tup (pv 2) (pe_int) (fun _ _ => rfl)) (pa_cons (pe_int) pa_nil))))))
    (pss_one (ps_ret (pe_and (pe_cmpR op_eq (pe_op op_mulB (pe_ix (r := rIxT K) ix_tup (pv 0) (pe_int) (fun _ _ => rfl)) (pv 4)) (pe_op op_mulB (pv 1) (pe_ix (r := rIxT K) ix_tup (pv 0) (pe_int) (fun _ _ => rfl))) (nomark _)) (pe_one (pe_cmpR op_eq (pe_c c_LShared hr pass00 .nil ((pa_cons (pe_ix (r := rIxT K) ix_tup (pv 0) (pe_int) (fun _ _ => rfl)) (pa_cons (pe_ix (r := rIxT K) ix_tup (pv 0) (pe_int) (fun _ _ => rfl)) pa_nil)))) (pe_int) (nomark _))))))))), ?_⟩
  obtain ⟨n2, n1, sp, iv, eS, nzD, d1, bd, k⟩ := h
  obtain ⟨pl, ql, hs, hpl, hql⟩ := sp.ex
  walk_at "rd"
  refine cD (fun c => ?_) (fun c => ?_)
  · have n0 : n ≠ 0 := by omega
    obtain ⟨a, rfl, a0, a1, ea⟩ := (is_n n0).mp iv
    have D1 := d1 n0
    have b1 := sp.bn n0
    subst D1 b1
    rw [one_pw, Int.mul_one, Int.mul_one] at ea
    unfold c0 at eS
    rw [if_neg n0, Int.mul_one, Int.one_mul] at eS
    have ee : a = S % n := by
      obtain ⟨q, hq⟩ := eqn_iff.mp eS
      have d2 := Int.dvd_of_emod_eq_zero ea
      obtain ⟨q2, hq2⟩ := d2
      have : S = a + n * (q - q2) := by grind
      rw [this, Int.add_mul_emod_self_left, Int.emod_eq_of_lt a0 a1]
    refine ⟨_, rfl, _, _, _, _, _, rfl, rfl, .int a, T.kii, _, rfl, iteT ?_⟩
    refine ⟨_, rfl, _, rfl, _, rfl, _, _, rfl, rfl, (by show 0 < n; omega), rfl, ?_⟩
    dsimp only
    rw [decide_eq_true (congrArg V.int ee)]
    exact k
  · have n0 : n = 0 := by
      rcases n2 with z | z
      · exact z
      · have := z.1; omega
    subst n0
    obtain ⟨r, x, y, rfl, hx, hy, cp, e⟩ := is_0.mp iv
    rw [zr_0] at nzD
    rw [eqn_0] at eS
    have bb := sp.b1
    have b5 := sp.b5
    have hbt : bt.natAbs < 2 ^ 3 := by omega
    obtain ⟨bS, bX, bD⟩ := bd rfl
    have nzB : D * bt ^ 12 ≠ 0 := by
      intro z
      rcases Int.mul_eq_zero.mp z with q | q
      · exact nzD q
      · exact nz_pow (n := 0) (.inl rfl) (b := bt) (by rw [zr_0]; omega) 12 (zr_0.mpr q)
    obtain ⟨lx, ly⟩ := cop_le hy cp nzB e
    have bB := mul_up bD (pw_up hbt 12)
    have bx : x.natAbs < 2 ^ 4000 := up (Nat.lt_of_le_of_lt lx bX) (by decide)
    have by_ : y.natAbs < 2 ^ 4000 := up (Nat.lt_of_le_of_lt ly bB) (by decide)
    refine ⟨_, rfl, _, _, _, _, _, rfl, rfl, .tup hx, T.ktt, _, rfl, iteF ?_⟩
    refine ⟨_, rfl, r, _, rfl, .inr (SqT.of hx), rfl, _, rfl, iteNS rfl ?_⟩
    refine ⟨_, rfl, r, _, _, _, rfl, rfl, SqT.of hx, rfl, _, _, rfl, rfl, _, rfl, ?_⟩
    rw [decide_eq_false (show ¬ y < 1 by omega)]
    refine iteF ?_
    refine ⟨_, rfl, s, _, _, _, rfl, rfl, SqT.of hs, rfl, bt, 12, rfl, up hbt (by decide), by decide, by decide, _, _, rfl, rfl, ⟨by decide, up (pw_up hbt _) (by decide)⟩, ?_⟩
    have e12 : (12 : Int).toNat = 12 := rfl
    have q : x * (36 * bt ^ (Int.toNat 12)) = S * y := same_0 nzD e eS
    have bC : (36 * bt ^ (12 : Int).toNat).natAbs < 2 ^ (6 + 37) := mul_up (by decide) (pw_up hbt 12)
    refine ⟨_, rfl, r, _, _, _, rfl, rfl, SqT.of hx, rfl, _, rfl, _, _, rfl, rfl, ⟨bx, up bC (by decide)⟩, _, rfl, _, rfl, r, _, _, _, rfl, rfl, SqT.of hx, rfl, _, _, rfl, rfl, ⟨up bS (by decide), by_⟩, rfl, _, rfl, ?_⟩
    dsimp only
    rw [decide_eq_true (congrArg V.int q)]
    refine iteT ?_
    refine ⟨_, rfl, r, _, _, _, rfl, rfl, SqT.of hx, rfl, _, rfl, r, _, _, _, rfl, rfl, SqT.of hx, rfl, x, y, rfl, rfl, ?_⟩
    rw [decide_eq_true (congrArg V.int cp)]
    exact k
end
end K10
namespace K10
open PySem L2
open K1 K2 K3 K6 K8
section
variable {P : Program} {w : World} {K : PySem.W.Frag} {mg : Str → Option Value} {base : Heap} {f : Addr} {fd : FuncData} {C_Ring C_Fractions C_Rests C_Tails : Addr} {E_NoPrime E_NoRing : Addr}
local macro_rules | `(tactic| walk_at "sd") => `(tactic| first
  | assumption | (dsimp only; omega) | (dsimp only; decide) | exact ⟨by decide, by decide⟩ | exact ⟨by decide, by decide, by decide⟩ | exact Or.inl ⟨by decide, by decide⟩ | exact ⟨by omega, by omega⟩ | exact Or.inl ⟨by omega, by omega⟩ | exact Or.inr ⟨by decide, by decide⟩ | exact Or.inr ⟨by omega, by omega⟩)
local macro_rules | `(tactic| walk_at "rd") => `(tactic| repeat first
  | refine ⟨_, rfl, ?_⟩ | refine ⟨_, _, rfl, rfl, ?_⟩ | refine And.intro rfl ?_ | refine And.intro (by walk_at "sd") ?_ | with_reducible refine iteT ?_ | with_reducible refine iteF ?_ | (apply ixT_of; assumption; rfl))
local macro_rules | `(tactic| walk_at "clo") => `(tactic| exact h)

theorem scAgr : FnScope ["_law_ring", "_law_f", "_law_whole", "_law_by", "_law_spot_here", "_law_prime_here", "_law_total", "_law_kept"] ["_law_ring", "_law_f", "_law_whole", "_law_by", "_law_spot_here", "_law_prime_here"] (defScope s__law_agrees) := ⟨rfl, rfl, rfl, by decide +kernel, rfl, by decide +kernel, by decide +kernel⟩
set_option maxHeartbeats 4000000 in
theorem ok_Agr  (F : FunD K "_law_agrees" "_law_agrees" s__law_agrees .none f fd) (T : Txt K mg C_Ring C_Fractions C_Rests C_Tails) (c_At : Cal P w K mg base CX0 2 "_law_at" ["_law_f", "_law_spot_here", "_law_prime_here"] [] spAt) (c_Val : Cal P w K mg base CX0 5 "value" ["ring", "f", "point"] [] (spVal K C_Ring C_Fractions C_Rests)) (c_Sam : Cal P w K mg base CX0 3 "_law_same" ["_law_found", "_law_whole", "_law_spot_here", "_law_prime_here"] [] spSame)  : FnOk P w K mg base CX0 6 f fd ["_law_ring", "_law_f", "_law_whole", "_law_by", "_law_spot_here", "_law_prime_here"] (spAgr K C_Ring C_Fractions C_Rests) := by
  refine F.okN (k := 5) scAgr (fun vs H Q E h => ?_) (fun cdv A outer s H vs Q E hr h => ?_)
  · obtain ⟨r, e, s, wh, bY, m, pf, n, fvs, T0, D0, ps, bt, us, rfl, _⟩ := h
    rfl
  obtain ⟨r, e, s, wh, bY, m, pf, n, fvs, T0, D0, ps, bt, us, rfl, h⟩ := h
  refine ⟨_, (pss_cons (ps_set (i := 6) scAgr.nd rfl (Or.inl rfl) (pe_c c_At hr pass00 .nil ((pa_cons (pv 1) (pa_cons (pv 4) (pa_cons (pv 5) pa_nil))))))
    (pss_cons (ps_if (pt_cmpR op_isN (pv 6) (pe_non) (nomark _)) (pss_one (ps_ret (pe_bl))) pss_nil)
    (pss_cons (ps_if (PW.pt (pw_or (PW.pt (pw_and (pt_cmpR op_gt (pv 5) (pe_int) (nomark _)) (pw_and1 (pt_cmpR op_ne (pe_op op_mod (pe_op op_sub (pv 6) (pv 2)) (pv 5)) (pe_int) (nomark _))))) (pw_or1 (PW.pt (pw_and (pt_cmpR op_eq (pv 5) (pe_int) (nomark _)) (pw_and1 (pt_cmpR op_ne (pe_op op_mulB (pv 6) (pv 3)) (pv 2) (nomark _)))))))) (pss_one (ps_ret (pe_bl))) pss_nil)
    (pss_cons (ps_set (i := 7) scAgr.nd rfl (Or.inl rfl) (pe_callTy (call_listK (K := K) rfl) rfl T.b_list (by kernel_rfl) ((pa_cons (pe_ix (r := rIxT K) ix_tup (pv 4) (pe_int) (fun _ _ => rfl)) pa_nil))))
    (pss_one (ps_ret (pe_and (pe_c c_Sam hr pass00 .nil ((pa_cons (pe_c c_Val hr pass00 .nil ((pa_cons (pv 0) (pa_cons (pv 1) (pa_cons (pv 7) pa_nil))))) (pa_cons (pv 6) (pa_cons (pv 4) (pa_cons (pv 5) pa_nil)))))) (pe_one (pe_cmpR (op_eqD hr.units) (pv 7) (pe_ix (r := rIxT K) ix_tup (pv 4) (pe_int) (fun _ _ => rfl)) (nomark _)))))))))), ?_⟩
  obtain ⟨hR, m3, pF, sp, he, bb, hby, k⟩ := h
  have n2 := hR.np
  refine ⟨_, rfl, _, rfl, _, rfl, e, s, m, n, fvs, T0, D0, ps, bt, us, rfl, n2, hR.nb, m3, pF, sp, fun S H1 e1 eS bS => ?_⟩
  have nbt : ¬ zr n bt := by
    rcases n2 with z | z
    · subst z; rw [zr_0]; have := sp.b1; omega
    · rw [sp.bn (pr_ne z)]; exact nz_one (.inr z)
  have hag := he S eS
  refine ⟨_, rfl, rfl, _, rfl, ?_⟩
  rw [decide_eq_false (show ¬ V.int S = V.non by intro z; cases z)]
  refine iteF ?_
  unfold tNext
  dsimp only
  refine if_mid false (fun Q hq => ?_) ?_
  · refine ⟨_, rfl, _, _, rfl, rfl, _, rfl, ?_⟩
    refine cD (fun c => ?_) (fun c => ?_)
    · have n0 : n ≠ 0 := by omega
      have b1 : bY = bY := rfl
      refine ⟨_, rfl, _, rfl, _, _, rfl, rfl, _, rfl, _, _, rfl, rfl, c, rfl, _, rfl, ?_⟩
      have q : (S - wh) % n = 0 := by
        have := hby n0
        subst this
        rw [Int.mul_one] at hag
        exact (zr_n n0).mp hag
      refine cNe (fun c1 => absurd q c1) (fun _ => ?_)
      refine ⟨_, rfl, rfl, _, rfl, ?_⟩
      refine cEq (fun c1 => absurd c1 n0) (fun _ => hq)
    · have n0 : n = 0 := by
        rcases n2 with z | z
        · exact z
        · have := z.1; omega
      subst n0
      rw [eqn_0] at hag
      refine ⟨_, rfl, rfl, _, rfl, ?_⟩
      refine cEq (fun _ => ?_) (fun c1 => absurd rfl c1)
      refine ⟨_, rfl, _, rfl, _, _, rfl, rfl, ⟨up (bS (pF.p4 rfl)) (by decide), up (bb rfl) (by decide)⟩, _, rfl, rfl, _, rfl, ?_⟩
      dsimp only
      rw [decide_eq_true (congrArg V.int hag)]
      exact hq
  refine iteF ?_
  have sp1 := sp.same e1
  obtain ⟨pl, ql, hs, hpl, hql⟩ := sp1.ex
  refine ⟨_, rfl, s, _, _, _, rfl, rfl, SqT.of hs, rfl, ql, us, rfl, .inl (SqL.of hql), fun l2 nl2 => ?_⟩
  have e2 : Same H1 (upd H1 l2 (.lst us)) := Same.upd nl2
  have hl2 : (upd H1 l2 (HO.lst us)) l2 = some (.lst us) := upd_same
  generalize upd H1 l2 (HO.lst us) = H2 at e2 hl2
  have g2 := e1.trans e2
  have sp2 := sp.same g2
  have pF2 := pF.same g2
  refine ⟨_, rfl, _, rfl, _, rfl, r, e, l2, m, pf, n, fvs, T0, D0, ps, bt, us, rfl, hR.same g2, pF2.he, pF2.pd, Nat.le_trans pF.ln (by decide), SqL.of hl2, sp2.lu, sp2.lp, sp2.is, nbt, ?_, ?_, ?_, fun v H3 e3 iv => ?_⟩
  · intro z
    have b1 := sp.b1
    have b5 := sp.b5
    obtain ⟨c, hc, c1⟩ := pF.dv z
    refine ⟨m3, sp.hp, by omega, ?_, pF.bT z, pF.p4 z, by rw [tks_len]; exact pF.ln⟩
    have : D0 ≤ 36 := by
      have : D0 ∣ 36 := ⟨c, hc.symm⟩
      exact Int.le_of_dvd (by decide) this
    have : 0 < D0 := by
      rcases (by omega : D0 ≤ 0 ∨ 0 < D0) with q | q
      · have := Int.mul_nonpos_of_nonpos_of_nonneg q (show 0 ≤ c by omega); omega
      · exact q
    omega
  · intro t ht x hx
    have := pF.p99 t ht
    have := mem_le_deg (pF.pd.ko.ok ht).2 hx
    omega
  · by_cases z : n = 0
    · exact .inr fun t ht => deg_le (by rw [(pF.pd.ko.ok ht).1]; exact m3) (pF.p4 z t ht)
    · exact .inl (sp.bn z)
  have g3 := g2.trans e3
  have eC : c0 0 = 36 := rfl
  refine ⟨_, rfl, _, rfl, _, rfl, v, S, s, m, n, ev (tks fvs) T0 (wt ps bt), D0, ps, bt, us, rfl, n2, hR.nb, sp.same g3, iv, eS, pF.pd.nz, pF.d1, fun z => ?_, true, rfl, iteT ?_⟩
  · have b1 := sp.b1
    have b5 := sp.b5
    obtain ⟨c, hc, c1⟩ := pF.dv z
    have hl : (tks fvs).length ≤ 1000 := by rw [tks_len]; exact pF.ln
    have D36 : D0 ≤ 36 := Int.le_of_dvd (by decide) ⟨c, hc.symm⟩
    have D1 : 0 < D0 := by
      rcases (by omega : D0 ≤ 0 ∨ 0 < D0) with q | q
      · have := Int.mul_nonpos_of_nonpos_of_nonneg q (show 0 ≤ c by omega); omega
      · exact q
    have vb : VB n m ps bt T0 D0 (tks fvs) := ⟨m3, sp.hp, by omega, by omega, pF.bT z, pF.p4 z, hl⟩
    refine ⟨bS (pF.p4 z), ?_, by omega⟩
    have q1 := ev_bd (T := T0) (W := wt ps bt) (ts := tks fvs) fun t' ht' => wt_bd vb sp.lp ht' (pF.pd.ko.ok ht').2
    have : (tks fvs).length * 2 ^ 345 ≤ 1000 * 2 ^ 345 := Nat.mul_le_mul_right _ hl
    have : 1000 * 2 ^ 345 < 2 ^ 400 := by decide
    omega
  have sp3 := sp.same g3
  obtain ⟨ds, rd, ly, dp⟩ := nums_of n2 (K := K) nbt (sp3.lu.trans sp3.lp.symm) sp3.is
  have sh := list_shaped ly dp
  obtain ⟨pl3, ql3, hs3, hpl3, hql3⟩ := sp3.ex
  have hq3 : H3 ql = some (.lst us) := e3 _ _ (e2 _ _ hql)
  have hs3' : H3 s = some (.tup [.ref pl, .int bt, .ref ql]) := e3 _ _ (e2 _ _ hs)
  refine ⟨_, rfl, _, rfl, s, _, _, _, rfl, rfl, SqT.of hs3', rfl, .list ds, .list ds, .lst (SqL.of (e3 _ _ hl2)) rd, .lst (SqL.of hq3) rd, sh, sh, ?_⟩
  rw [list_refl ly]
  exact k _ g3
end
end K10
namespace K10
open PySem L2
open K1 K2 K3 K6 K8
section
variable {P : Program} {w : World} {K : PySem.W.Frag} {mg : Str → Option Value} {base : Heap} {f : Addr} {fd : FuncData} {C_Ring C_Fractions C_Rests C_Tails : Addr} {E_NoPrime E_NoRing : Addr}
local macro_rules | `(tactic| walk_at "sd") => `(tactic| first
  | assumption | (dsimp only; omega) | (dsimp only; decide) | exact ⟨by decide, by decide⟩ | exact ⟨by decide, by decide, by decide⟩ | exact Or.inl ⟨by decide, by decide⟩ | exact ⟨by omega, by omega⟩ | exact Or.inl ⟨by omega, by omega⟩ | exact Or.inr ⟨by decide, by decide⟩ | exact Or.inr ⟨by omega, by omega⟩)
local macro_rules | `(tactic| walk_at "rd") => `(tactic| repeat first
  | refine ⟨_, rfl, ?_⟩ | refine ⟨_, _, rfl, rfl, ?_⟩ | refine And.intro rfl ?_ | refine And.intro (by walk_at "sd") ?_ | with_reducible refine iteT ?_ | with_reducible refine iteF ?_ | (apply ixT_of; assumption; rfl))
local macro_rules | `(tactic| walk_at "clo") => `(tactic| exact h)

theorem scFar : FnScope ["_law_ring", "_law_cell_here", "_law_spot_here", "_law_prime_here", "_law_term", "_law_far"] ["_law_ring", "_law_cell_here", "_law_spot_here", "_law_prime_here"] (defScope s__law_far_agrees) := ⟨rfl, rfl, rfl, by decide +kernel, rfl, by decide +kernel, by decide +kernel⟩
set_option maxHeartbeats 4000000 in
theorem ok_Far  (F : FunD K "_law_far_agrees" "_law_far_agrees" s__law_far_agrees .none f fd) (T : Txt K mg C_Ring C_Fractions C_Rests C_Tails) (c_LMd : Cal P w K mg base CX0 2 "_law_made" ["_law_top", "_law_bottom", "_law_prime_here"] [] spMd) (c_At : Cal P w K mg base CX0 2 "_law_at" ["_law_f", "_law_spot_here", "_law_prime_here"] [] spAt) (c_Agr : Cal P w K mg base CX0 6 "_law_agrees" ["_law_ring", "_law_f", "_law_whole", "_law_by", "_law_spot_here", "_law_prime_here"] [] (spAgr K C_Ring C_Fractions C_Rests))  : FnOk P w K mg base CX0 7 f fd ["_law_ring", "_law_cell_here", "_law_spot_here", "_law_prime_here"] (spFar K C_Ring C_Fractions C_Rests) := by
  refine F.okN (k := 6) scFar (fun vs H Q E h => ?_) (fun cdv A outer s H vs Q E hr h => ?_)
  · obtain ⟨r, c, s0, m, pf, n, ps, bt, us, rfl, _⟩ := h
    rfl
  obtain ⟨r, c, s0, m, pf, n, ps, bt, us, rfl, h⟩ := h
  refine ⟨_, (pss_cons (ps_set (i := 4) scFar.nd rfl (Or.inl rfl) (pe_callTy (call_tupleK (K := K) rfl) rfl T.b_tuple (by kernel_rfl) ((pa_cons (pe_comp (N := ["_law_at_here", "_law_cell_here"]) (cl := [("_law_cell_here", s.heap.objs.size + 1)]) (mp := [none, some 1]) (Blk.of rfl (by decide +kernel) rfl (by decide +kernel) nd__law_at_here__law_cell_here (subc_cons rfl subc_nil) (fr_of (fs := ["_law_cell_here"]) rfl (by decide +kernel)) rfl (mapc_none (mapc_some rfl (.inl rfl) rfl mapc_nil))) rfl (pi_range1 rfl T.b_range ((pa_cons (pe_fldK (K := K) rfl (pv 0) rfl) pa_nil))) (fun C0 s0 H0 fp0 => pg_one (i := 0) nd__law_at_here__law_cell_here rfl rfl) (fun C0 s0 H0 fp0 => pts_nil) (fun C0 s0 H0 fp0 => pe_ix (r := rIxL K) ix_list (pe_lst ((pa_cons (pe_int) (pa_cons (pe_int) (pa_cons (pe_int) pa_nil))))) (pe_op op_mod (pe_op op_add (pe_op op_fdiv (pv 1) (pe_int)) (pv 0)) (pe_int)) (fun _ _ => rfl))) pa_nil))))
    (pss_cons (ps_set (i := 5) scFar.nd rfl (Or.inl rfl) (pe_disp1 hr.units0 (pv 4) (pe_c c_LMd hr pass00 .nil ((pa_cons (pe_op op_add (pe_int) (pe_op op_mod (pe_op op_fdiv (pv 1) (pe_int)) (pe_op op_sub (pv 3) (pe_int)))) (pa_cons (pe_int) (pa_cons (pv 3) pa_nil)))))))
    (pss_one (ps_ret (pe_c c_Agr hr pass00 .nil ((pa_cons (pv 0) (pa_cons (pv 5) (pa_cons (pe_c c_At hr pass00 .nil ((pa_cons (pv 5) (pa_cons (pv 2) (pa_cons (pv 3) pa_nil))))) (pa_cons (pe_int) (pa_cons (pv 2) (pa_cons (pv 3) pa_nil)))))))))))), ?_⟩
  obtain ⟨hR, n0, m3, sp, k⟩ := h
  obtain ⟨po, dx, hr0⟩ := hR.at_
  show tComp _ _ _ _ _ _ _ _
  refine walk_comp (J := Itr 0 m) (H1 := H) (walk_range 0 m) (by omega) ?_ (fun σ => ∃ v, σ = [v, some (.int c)]) (fun _ => true) (fun i => .int (f3 ((c / 11 + i) % 3))) ⟨none, rfl⟩ ?_ fun D H1 e1 hL => ?_
  · exact fun R hR => ⟨_, rfl, r, C_Ring, dx, _, _, rfl, hr0, T.cl_Ring, T.na_Ring_many, rfl, (m : Int), rfl, by omega, by omega, hR⟩
  · rintro i x σ' H2 hi ⟨z, rfl⟩ e2 rfl Ny Nn hy hn
    unfold gName tYes
    dsimp only
    rw [if_pos rfl]
    refine ⟨(by show 3 ≤ sizeLine; decide), fun D3 hD3 => ?_⟩
    walk_at "rd"
    refine ⟨D3, _, _, _, rfl, rfl, SqL.of upd_same, at3 (by omega) (by omega), ?_⟩
    rw [Int.zero_add]
    exact hy _ _ ⟨_, rfl⟩ (Same.upd hD3) rfl
  rw [List.filter_eq_self.mpr (fun _ _ => rfl)] at hL
  have eL : (List.range m).map (fun i : Nat => V.int (f3 ((c / 11 + i) % 3))) = (tf c m).map V.int := by unfold tf; rw [List.map_map]; rfl
  rw [eL] at hL
  have n2 := hR.np
  have np : Pr n := by
    rcases n2 with z | z
    · exact absurd z n0
    · exact z
  have p2 := np.1
  have okt := tf_ok c m
  have ln : (tf c m).length ≤ 3 := by rw [okt.1]; exact m3
  refine ⟨D, _, rfl, .inl ⟨SqL.of hL, fun tt ht => ?_⟩⟩
  have e2 : Same H (upd H1 tt (.tup ((tf c m).map V.int))) := e1.updR (e1.free ht)
  have ht2 : (upd H1 tt (HO.tup ((tf c m).map V.int))) tt = some (.tup ((tf c m).map V.int)) := upd_same
  generalize upd H1 tt (HO.tup ((tf c m).map V.int)) = H2 at e2 ht2
  intro fa nfa
  have e3 : Same H2 (upd H2 fa (.dT [])) := Same.upd nfa
  have hf3 : (upd H2 fa (HO.dT [])) fa = some (.dT []) := upd_same
  generalize upd H2 fa (HO.dT []) = H3 at e3 hf3
  have tb : 1 ≤ 1 + c / 7 % (n - 1) ∧ 1 + c / 7 % (n - 1) < n := by
    have := Int.emod_nonneg (c / 7) (show n - 1 ≠ 0 by omega)
    have := Int.emod_lt_of_pos (c / 7) (show 0 < n - 1 by omega)
    omega
  refine ⟨_, rfl, ?_⟩
  walk_at "rd"
  refine ⟨1 + c / 7 % (n - 1), 1, n, rfl, n2, by decide, Nat.lt_of_le_of_lt (show _ ≤ 9973 by have := hR.nb; omega) (by decide), by decide, fun v H4 e4 iv => ?_⟩
  rw [dB_one] at iv
  generalize hA : 1 + c / 7 % (n - 1) = A at *
  have nzA : ¬ zr n A := by rw [zr_n n0, Int.emod_eq_of_lt (by omega) tb.2]; omega
  refine ⟨tt, ky (tf c m), rfl, e4 _ _ hf3, by rw [ky_kV]; exact e4 _ _ (e3 _ _ ht2), ?_⟩
  have g4 := (e2.trans e3).trans e4
  have nfa0 : H fa = none := e2.free nfa
  have g5 : Same H (upd H4 fa (.dT [(ky (tf c m), v)])) := g4.updR nfa0
  have hf5 : (upd H4 fa (HO.dT [(ky (tf c m), v)])) fa = some (.dT [(ky (tf c m), v)]) := upd_same
  have iv5 : Is n (upd H4 fa (HO.dT [(ky (tf c m), v)])) v A 1 := iv.updD (e4 _ _ hf3)
  generalize upd H4 fa (HO.dT [(ky (tf c m), v)]) = H5 at g5 hf5 iv5
  have pd0 : PD n m H5 [] (fun _ => 0) 1 := PD.nil n2 (nz_one n2) fun _ => zr_zero n
  have pd1 := pd0.set okt iv5 nzA
  have ep : putK [] (ky (tf c m)) v = [(ky (tf c m), v)] := putK_new (by simp)
  rw [ep] at pd1
  have tk1 : tks [(ky (tf c m), v)] = [tf c m] := by show [uk (ky (tf c m))] = _; rw [uk_ky]
  have pf5 : PF n m H5 fa [(ky (tf c m), v)] (fun t => if t = tf c m then A else 0) 1 := ⟨hf5, pd1, by show 1 ≤ 1000; decide, fun z => absurd z n0, fun _ => rfl, fun z => absurd z n0, fun z => absurd z n0, fun t ht => by rw [tk1, List.mem_singleton] at ht; rw [ht]; exact tf_deg c m3, fun t ht => by rw [tk1, List.mem_singleton] at ht; rw [ht]; exact tf_99 c m⟩
  have sp5 := sp.same g5
  refine ⟨_, rfl, _, rfl, _, rfl, _, rfl, _, rfl, fa, s0, m, n, _, _, 1, ps, bt, us, rfl, n2, hR.nb, m3, pf5, sp5, fun S H6 e6 eS _ => ?_⟩
  refine ⟨_, rfl, _, rfl, r, fa, s0, S, 1, m, pf, n, _, _, 1, ps, bt, us, rfl, hR.same (g5.trans e6), m3, pf5.same e6, sp5.same e6, fun S' q => ?_, fun z => absurd z n0, fun _ => rfl, fun H7 e7 => k H7 ((g5.trans e6).trans e7)⟩
  have q2 := q.trans eS.symm
  rw [Int.mul_one S] at q2
  exact q2
end
end K10
namespace K10
open PySem L2
open K1 K2 K3 K6 K8
section
variable {P : Program} {w : World} {K : PySem.W.Frag} {mg : Str → Option Value} {base : Heap} {f : Addr} {fd : FuncData} {C_Ring C_Fractions C_Rests C_Tails : Addr} {E_NoPrime E_NoRing : Addr}
local macro_rules | `(tactic| walk_at "sd") => `(tactic| first
  | assumption | (dsimp only; omega) | (dsimp only; decide) | exact ⟨by decide, by decide⟩ | exact ⟨by decide, by decide, by decide⟩ | exact Or.inl ⟨by decide, by decide⟩ | exact ⟨by omega, by omega⟩ | exact Or.inl ⟨by omega, by omega⟩ | exact Or.inr ⟨by decide, by decide⟩ | exact Or.inr ⟨by omega, by omega⟩)
local macro_rules | `(tactic| walk_at "rd") => `(tactic| repeat first
  | refine ⟨_, rfl, ?_⟩ | refine ⟨_, _, rfl, rfl, ?_⟩ | refine And.intro rfl ?_ | refine And.intro (by walk_at "sd") ?_ | with_reducible refine iteT ?_ | with_reducible refine iteF ?_ | (apply ixT_of; assumption; rfl))
local macro_rules | `(tactic| walk_at "clo") => `(tactic| exact h)

theorem scLSpot : FnScope ["_law_cell_here", "_law_many", "_law_prime_here", "_law_bottom", "_law_places", "_law_at_here", "_law_place"] ["_law_cell_here", "_law_many", "_law_prime_here"] (defScope s__law_spot) := ⟨rfl, rfl, rfl, by decide +kernel, rfl, by decide +kernel, by decide +kernel⟩
set_option maxHeartbeats 4000000 in
theorem ok_LSpot  (F : FunD K "_law_spot" "_law_spot" s__law_spot .none f fd) (T : Txt K mg C_Ring C_Fractions C_Rests C_Tails) (c_LMd : Cal P w K mg base CX0 2 "_law_made" ["_law_top", "_law_bottom", "_law_prime_here"] [] spMd)  : FnOk P w K mg base CX0 3 f fd ["_law_cell_here", "_law_many", "_law_prime_here"] spSpot := by
  refine F.okN (k := 2) scLSpot (fun vs H Q E h => ?_) (fun cdv A outer s H vs Q E hr h => ?_)
  · obtain ⟨c, m, n, rfl, _⟩ := h
    rfl
  obtain ⟨c, m, n, rfl, h⟩ := h
  refine ⟨_, (pss_cons (ps_set (i := 3) scLSpot.nd rfl (Or.inr rfl) (pe_int))
    (pss_cons (ps_if (pt_cmpR op_eq (pv 2) (pe_int) (nomark _)) (pss_one (ps_set (i := 3) scLSpot.nd rfl (Or.inr rfl) (pe_op op_add (pe_int) (pe_op op_mod (pe_op op_fdiv (pv 0) (pe_int)) (pe_int))))) pss_nil)
    (pss_cons (ps_set (i := 4) scLSpot.nd rfl (Or.inl rfl) (pe_lst (pa_nil)))
    (pss_cons (ps_for PassesOwn.never rfl (pi_range1 rfl T.b_range ((pa_cons (pv 1) pa_nil))) (pg_name (i := 5) scLSpot.nd rfl (Or.inl rfl)) (pss_cons (ps_set (i := 6) scLSpot.nd rfl (Or.inl rfl) (pe_op op_sub (pe_op op_mod (pe_op op_mul (pv 0) (pe_op op_add (pe_int) (pe_op op_mul (pe_int) (pv 5)))) (pe_op op_add (pe_op op_mul (pe_int) (pe_op op_pow (pe_int) (pe_int))) (pe_int))) (pe_op op_pow (pe_int) (pe_int))))
    (pss_cons (ps_if (pt_cmpR op_eq (pe_op op_mod (pe_op op_fdiv (pv 0) (pe_op op_add (pe_int) (pv 5))) (pe_int)) (pe_int) (nomark _)) (pss_one (ps_set (i := 6) scLSpot.nd rfl (Or.inl rfl) (pe_int))) pss_nil)
    (pss_one (ps_expr (pe_bm PySem.F.plainAttrs_list PySem.F.slot_list_append PySem.F.type_list_append mt_append (pv 4) ((pa_cons (pv 6) pa_nil))))))))
    (pss_one (ps_ret (pe_tup ((pa_cons (pv 4) (pa_cons (pv 3) (pa_cons (pe_comp (N := ["_law_place", "_law_bottom", "_law_prime_here"]) (cl := [("_law_prime_here", s.heap.objs.size + 1), ("_law_bottom", s.heap.objs.size + 2)]) (mp := [none, some 3, some 2]) (Blk.of rfl (by decide +kernel) rfl (by decide +kernel) nd__law_place__law_bottom__law_prime_here (subc_cons rfl (subc_cons rfl subc_nil)) (fr_of (fs := ["_law_prime_here", "_law_bottom"]) rfl (by decide +kernel)) rfl (mapc_none (mapc_some rfl (.inl rfl) rfl (mapc_some rfl (.inl rfl) rfl mapc_nil)))) rfl (pi_listK (K := K) rfl (pv 4)) (fun C0 s0 H0 fp0 => pg_one (i := 0) nd__law_place__law_bottom__law_prime_here rfl rfl) (fun C0 s0 H0 fp0 => pts_nil) (fun C0 s0 H0 fp0 => pe_c c_LMd hr pass00 .nil ((pa_cons (pv 0) (pa_cons (pv 1) (pa_cons (pv 2) pa_nil)))))) pa_nil))))))))))), ?_⟩
  obtain ⟨n2, n1, m3, k⟩ := h
  refine seq_mid (fun σ' H' => H' = H ∧ σ' = [some (.int c), some (.int m), some (.int n), some (.int 1), none, none, none]) ?_ (fun N hN => hN _ _ ⟨rfl, rfl⟩)
  rintro σ0 H0 ⟨rfl, rfl⟩
  refine seq_mid (fun σ' H' => H' = H0 ∧ ∃ b, σ' = [some (.int c), some (.int m), some (.int n), some (.int b), none, none, none] ∧ 1 ≤ b ∧ b ≤ 5 ∧ (n ≠ 0 → b = 1)) ?_ ?_
  rotate_left
  · intro N hN
    walk_at "rd"
    refine cEq (fun c1 => ?_) (fun c1 => ?_)
    · walk_at "rd"
      exact hN _ _ ⟨rfl, 1 + c / 3 % 5, rfl, by omega, by omega, fun z => absurd c1 z⟩
    · exact hN _ _ ⟨rfl, 1, rfl, by decide, by decide, fun _ => rfl⟩
  rintro σ1 H1 ⟨rfl, b, rfl, b1, b5, bn⟩
  refine ⟨(by show 0 ≤ sizeLine; exact Nat.zero_le _), fun D nD => ?_⟩
  have e0 : Same H1 (upd H1 D (.lst [])) := Same.upd nD
  have hD1 : (upd H1 D (HO.lst [])) D = some (.lst []) := upd_same
  generalize upd H1 D (HO.lst []) = H2 at e0 hD1
  refine ⟨_, rfl, (m : Int), rfl, by omega, by omega, ?_⟩
  have mt : (m : Int).toNat = m := by omega
  refine for_range (lo := 0) (n := (m : Int).toNat) (fun j σ H' => j ≤ m ∧ Same H1 H' ∧ ∃ (ps : List Int) (v6 v7 : Option V), σ = [some (.int c), some (.int m), some (.int n), some (.int b), some (.ref D), v6, v7] ∧ H' D = some (.lst (ps.map V.int)) ∧ ps.length = j ∧ ∀ x ∈ ps, x.natAbs < 2 ^ 20) ?_ ?_ ?_
  · exact ⟨Nat.zero_le _, e0, [], none, none, rfl, hD1, rfl, fun x hx => by cases hx⟩
  · rintro j σ H3 hj ⟨_, e3, ps, v6, v7, rfl, hD3, lp, hp⟩
    rw [mt] at hj
    unfold gName
    dsimp only
    refine seq_mid (fun σ' H' => H' = H3 ∧ ∃ x, σ' = [some (.int c), some (.int m), some (.int n), some (.int b), some (.ref D), some (.int (0 + j)), some (.int x)] ∧ x.natAbs < 2 ^ 20) ?_ ?_
    rotate_left
    · intro N hN
      walk_at "rd"
      refine hN _ _ ⟨rfl, _, rfl, ?_⟩
      have e6 : (10 : Int) ^ (Int.toNat 6) = 1000000 := by decide
      rw [e6]
      have h1 := Int.emod_nonneg (c * (48271 + 2 * (0 + (j : Int)))) (show (2 * 1000000 + 3 : Int) ≠ 0 by decide)
      have h2 := Int.emod_lt_of_pos (c * (48271 + 2 * (0 + (j : Int)))) (show (0 : Int) < 2 * 1000000 + 3 by decide)
      have : (2 : Nat) ^ 20 = 1048576 := by decide
      omega
    rintro σ4 H4 ⟨rfl, x, rfl, hx⟩
    refine seq_mid (fun σ' H' => H' = H4 ∧ ∃ x, σ' = [some (.int c), some (.int m), some (.int n), some (.int b), some (.ref D), some (.int (0 + j)), some (.int x)] ∧ x.natAbs < 2 ^ 20) ?_ ?_
    rotate_left
    · intro N hN
      walk_at "rd"
      exact cEq (fun _ => hN _ _ ⟨rfl, 0, rfl, by decide⟩) (fun _ => hN _ _ ⟨rfl, x, rfl, hx⟩)
    rintro σ5 H5 ⟨rfl, x', rfl, hx'⟩
    have zl : (ps.map V.int).length < sizeLine := Nat.lt_of_le_of_lt (show (ps.map V.int).length ≤ 3 by rw [List.length_map]; omega) (by decide)
    refine ⟨_, rfl, .inl ⟨rfl, _, SqL.of hD3⟩, _, rfl, D, ps.map V.int, .int x', rfl, rfl, hD3, zl, ?_⟩
    refine ⟨hj, e3.updR nD, ps ++ [x'], _, _, rfl, ?_, by rw [List.length_append, lp]; rfl, fun y hy => ?_⟩
    · rw [upd_same, List.map_append]; rfl
    · rcases List.mem_append.mp hy with hy | hy
      · exact hp y hy
      · rw [List.mem_singleton.mp hy]; exact hx'
  · rintro σ H3 ⟨_, e3, ps, v6, v7, rfl, hD3, lp, hp⟩
    rw [mt] at lp
    refine ⟨_, rfl, _, rfl, ?_⟩
    show tComp _ _ _ _ _ _ _ _
    have lm : (ps.map V.int).length = m := by rw [List.length_map]; exact lp
    have W := walk_list (K := K) (SqL.of (K := K) hD3)
    rw [lm] at W
    refine walk_compF (J := Itl K D) (H1 := H3) W (by omega) ?_ (fun σ => ∃ v, σ = [v, some (.int b), some (.int n)]) (fun _ => true) (fun i v H' => Is n H' v (ps.getD i 0) b) (fun i v Ha Hb e q => q.same e) (fun i v Ha a ys ys' ha q => q.keep fun b' xs hb => (upd_ne (ne_of hb ha (by intro z; cases z))).trans hb) ⟨none, rfl⟩ ?_ fun D4 H4 zs e4 hL4 hF4 => ?_
    · exact fun R hR => ⟨_, rfl, D, rfl, ⟨_, SqL.of hD3⟩, hR⟩
    · rintro i x σ' H5 hi ⟨z, rfl⟩ e5 hx Ny Nn hy hn
      rw [getD_of_map hx]
      obtain ⟨px, hpx⟩ : ∃ px, ps[i]? = some px := ⟨_, List.getElem?_eq_getElem (by omega)⟩
      have gdx : ps.getD i 0 = px := by rw [List.getD_eq_getElem?_getD, hpx]; rfl
      have hb20 := hp px (List.mem_of_getElem? hpx)
      unfold gName tYes
      dsimp only
      rw [if_pos rfl]
      refine ⟨_, rfl, _, rfl, _, rfl, ps.getD i 0, b, n, rfl, n2, b1, by rw [gdx]; exact up hb20 (by decide), Nat.lt_of_le_of_lt (show b.natAbs ≤ 5 by omega) (by decide), fun v H6 e6 iv => ?_⟩
      refine hy _ _ _ ⟨_, rfl⟩ e6 ?_ rfl
      by_cases z : n = 0
      · subst z; rw [dB_0] at iv; exact iv
      · rw [dB_n z] at iv; rw [bn z]; exact iv
    rw [List.filter_eq_self.mpr (fun _ _ => rfl)] at hF4
    refine ⟨(by show 3 ≤ sizeLine; decide), fun r hr => ?_⟩
    have e5 : Same H4 (upd H4 r (.tup [.ref D, .int b, .ref D4])) := Same.upd hr
    have lz : zs.length = m := by rw [← hF4.length]; simp
    refine k r _ ps b zs ((e3.trans e4).trans e5) ⟨⟨D, D4, upd_same, e5 _ _ (e4 _ _ hD3), e5 _ _ hL4⟩, lp, lz, hp, b1, b5, bn, fun j u x hu hx => ?_⟩
    obtain ⟨j', hj', q⟩ := Paired.at2 hF4 hu
    have hjm : j < m := by have := lt_of_get hu; omega
    rw [List.getElem?_range hjm] at hj'
    injection hj' with hj'
    subst hj'
    have gdx : ps.getD j 0 = x := by rw [List.getD_eq_getElem?_getD, hx]; rfl
    rw [gdx] at q
    exact q.same e5
end
end K10
namespace K10
open PySem L2
open K1 K2 K3 K6 K8
section
variable {P : Program} {w : World} {K : PySem.W.Frag} {mg : Str → Option Value} {base : Heap} {f : Addr} {fd : FuncData} {C_Ring C_Fractions C_Rests C_Tails : Addr} {E_NoPrime E_NoRing : Addr}
local macro_rules | `(tactic| walk_at "sd") => `(tactic| first
  | assumption | (dsimp only; omega) | (dsimp only; decide) | exact ⟨by decide, by decide⟩ | exact ⟨by decide, by decide, by decide⟩ | exact Or.inl ⟨by decide, by decide⟩ | exact ⟨by omega, by omega⟩ | exact Or.inl ⟨by omega, by omega⟩ | exact Or.inr ⟨by decide, by decide⟩ | exact Or.inr ⟨by omega, by omega⟩)
local macro_rules | `(tactic| walk_at "rd") => `(tactic| repeat first
  | refine ⟨_, rfl, ?_⟩ | refine ⟨_, _, rfl, rfl, ?_⟩ | refine And.intro rfl ?_ | refine And.intro (by walk_at "sd") ?_ | with_reducible refine iteT ?_ | with_reducible refine iteF ?_ | (apply ixT_of; assumption; rfl))
local macro_rules | `(tactic| walk_at "clo") => `(tactic| exact h)

theorem scFitsO : FnScope ["self", "many"] ["self", "many"] (defScope s_Order_fits) := ⟨rfl, rfl, rfl, by decide +kernel, rfl, by decide +kernel, by decide +kernel⟩
set_option maxHeartbeats 4000000 in
theorem ok_FitsO {At : Hp → Addr → Prop} (F : FunD K "fits" "Order.fits" s_Order_fits .none f fd) (T : Txt K mg C_Ring C_Fractions C_Rests C_Tails)   : FnOk P w K mg base CX0 1 f fd ["self", "many"] (spFits At fun _ => true) := by
  refine F.okN (k := 0) scFitsO (fun vs H Q E h => ?_) (fun cdv A outer s H vs Q E hr h => ?_)
  · obtain ⟨p, k, rfl, _⟩ := h
    rfl
  obtain ⟨p, k, rfl, h⟩ := h
  refine ⟨_, (pss_one (ps_ret (pe_bl))), ?_⟩
  exact h.2 H (Same.refl _)
end
end K10
namespace K10
open PySem L2
open K1 K2 K3 K6 K8
section
variable {P : Program} {w : World} {K : PySem.W.Frag} {mg : Str → Option Value} {base : Heap} {f : Addr} {fd : FuncData} {C_Ring C_Fractions C_Rests C_Tails : Addr} {E_NoPrime E_NoRing : Addr}
local macro_rules | `(tactic| walk_at "sd") => `(tactic| first
  | assumption | (dsimp only; omega) | (dsimp only; decide) | exact ⟨by decide, by decide⟩ | exact ⟨by decide, by decide, by decide⟩ | exact Or.inl ⟨by decide, by decide⟩ | exact ⟨by omega, by omega⟩ | exact Or.inl ⟨by omega, by omega⟩ | exact Or.inr ⟨by decide, by decide⟩ | exact Or.inr ⟨by omega, by omega⟩)
local macro_rules | `(tactic| walk_at "rd") => `(tactic| repeat first
  | refine ⟨_, rfl, ?_⟩ | refine ⟨_, _, rfl, rfl, ?_⟩ | refine And.intro rfl ?_ | refine And.intro (by walk_at "sd") ?_ | with_reducible refine iteT ?_ | with_reducible refine iteF ?_ | (apply ixT_of; assumption; rfl))
local macro_rules | `(tactic| walk_at "clo") => `(tactic| exact h)

theorem scRgI : FnScope ["self", "many", "field", "order"] ["self", "many", "field", "order"] (defScope s_Ring___init__) := ⟨rfl, rfl, rfl, by decide +kernel, rfl, by decide +kernel, by decide +kernel⟩
set_option maxHeartbeats 4000000 in
theorem ok_RgI  (F : FunD K "__init__" "Ring.__init__" s_Ring___init__ .none f fd) (T : Txt K mg C_Ring C_Fractions C_Rests C_Tails) (x_NoRing : Exc K mg base "NoRing" E_NoRing) (hfit : MCal P w K mg base CX0 1 C_Tails "fits" ["self", "many"] [] (spFits (AtO C_Tails) fun _ => true)) : FnOk P w K mg base (CXe P w) 2 f fd ["self", "many", "field", "order"] (spRgI C_Ring C_Tails) := by
  refine F.okX (k := 1) scRgI (fun vs H Q E h => ?_) (fun cdv A outer s H vs Q E hr h => ?_)
  · obtain ⟨r, dx, m, pf, po, rfl, _⟩ := h
    rfl
  obtain ⟨r, dx, m, pf, po, rfl, h⟩ := h
  refine ⟨_, (pss_cons (ps_if (PW.pt (pw_or (pt_cmpR op_lt (pv 1) (pe_int) (nomark _)) (pw_or (pt_cmpR op_gt (pv 1) (pe_callB call_len_str rfl T.b_len PySem.boot_len ((pa_cons (pe_globS T.g_LETTERS rfl) pa_nil))) (nomark _)) (pw_or1 (pt_not (pt_val (pe_m hfit (pv 3) hr pass00 .nil ((pa_cons (pv 1) pa_nil))))))))) (pss_one (ps_rz x_NoRing rfl rfl raisesTo_body ((pa_cons (pe_str) pa_nil)))) pss_nil)
    (pss_cons (ps_fld (pv 0) (pv 1) rfl)
    (pss_cons (ps_fld (pv 0) (pv 2) rfl)
    (pss_one (ps_fld (pv 0) (pv 3) rfl))))), ?_⟩
  obtain ⟨hr0, ⟨dO, hO⟩, m1, m2, k⟩ := h
  walk_at "rd"
  refine cD (fun c => absurd c (by omega)) (fun c => ?_)
  refine ⟨_, rfl, _, rfl, (by decide +kernel), ?_⟩
  rw [len_xyzt]
  walk_at "rd"
  refine cD (fun c1 => absurd c1 (by omega)) (fun c1 => ?_)
  refine ⟨_, rfl, po, dO, _, rfl, hO, rfl, _, rfl, po, m, rfl, ⟨dO, hO⟩, fun H1 e1 => ?_⟩
  refine ⟨_, rfl, iteF ?_⟩
  have hr1 := e1 _ _ hr0
  refine ⟨_, rfl, _, rfl, r, C_Ring, dx, _, rfl, hr1, T.cl_Ring, T.na_Ring_many, (by show 0 < 1000; decide), ?_⟩
  refine ⟨_, rfl, _, rfl, r, C_Ring, dx, _, rfl, upd_same, T.cl_Ring, T.na_Ring_field, (by show 1 < 1000; decide), ?_⟩
  refine ⟨_, rfl, _, rfl, r, C_Ring, dx, _, rfl, upd_same, T.cl_Ring, T.na_Ring_order, (by show 2 < 1000; decide), ?_⟩
  refine k _ upd_same fun b o hb ne => ?_
  rw [upd_ne ne, upd_ne ne, upd_ne ne]
  exact e1 _ _ hb
end
end K10
namespace K10
open PySem L2
open K1 K2 K3 K6 K8
section
variable {P : Program} {w : World} {K : PySem.W.Frag} {mg : Str → Option Value} {base : Heap} {f : Addr} {fd : FuncData} {C_Ring C_Fractions C_Rests C_Tails : Addr} {E_NoPrime E_NoRing : Addr}
local macro_rules | `(tactic| walk_at "sd") => `(tactic| first
  | assumption | (dsimp only; omega) | (dsimp only; decide) | exact ⟨by decide, by decide⟩ | exact ⟨by decide, by decide, by decide⟩ | exact Or.inl ⟨by decide, by decide⟩ | exact ⟨by omega, by omega⟩ | exact Or.inl ⟨by omega, by omega⟩ | exact Or.inr ⟨by decide, by decide⟩ | exact Or.inr ⟨by omega, by omega⟩)
local macro_rules | `(tactic| walk_at "rd") => `(tactic| repeat first
  | refine ⟨_, rfl, ?_⟩ | refine ⟨_, _, rfl, rfl, ?_⟩ | refine And.intro rfl ?_ | refine And.intro (by walk_at "sd") ?_ | with_reducible refine iteT ?_ | with_reducible refine iteF ?_ | (apply ixT_of; assumption; rfl))
local macro_rules | `(tactic| walk_at "clo") => `(tactic| exact h)

theorem scLaw : FnScope ["_law_script", "_law_cell_here", "_law_prime_here", "_law_field", "_law_many", "_law_ring", "_law_f", "_law_g", "_law_h", "_law_spot_here", "_law_a", "_law_b", "_law_c", "_law_by", "_law_one", "_law_found"] ["_law_script"] (defScope s_law) := ⟨rfl, rfl, rfl, by decide +kernel, rfl, by decide +kernel, by decide +kernel⟩
set_option maxHeartbeats 4000000 in
theorem ok_Law  (F : FunD K "law" "law" s_law .none f fd) (T : Txt K mg C_Ring C_Fractions C_Rests C_Tails) (c_Cell : Cal P w K mg base CX0 1 "_law_cell" ["_law_script", "_law_k"] [] (spCell K)) (k_FracInit : Mak P w K mg base CX0 2 "Fractions" C_Fractions ["self"] [] (spFracInit C_Fractions)) (c_LPr : Cal P w K mg base CX0 2 "_law_prime" ["_law_cell_here"] [] spLPr) (k_RestsInit : Mak P w K mg base (CXe P w) 2 "Rests" C_Rests ["self", "prime"] [] (spRests C_Rests E_NoPrime)) (k_RgI : Mak P w K mg base (CXe P w) 2 "Ring" C_Ring ["self", "many", "field", "order"] [] (spRgI C_Ring C_Tails)) (c_LPoly : Cal P w K mg base CX0 3 "_law_poly" ["_law_cells", "_law_many", "_law_prime_here"] [] (spPoly K)) (c_LSpot : Cal P w K mg base CX0 3 "_law_spot" ["_law_cell_here", "_law_many", "_law_prime_here"] [] spSpot) (c_At : Cal P w K mg base CX0 2 "_law_at" ["_law_f", "_law_spot_here", "_law_prime_here"] [] spAt) (c_Wp : Cal P w K mg base CX0 1 "_law_whole_power" ["_law_base", "_law_power"] [] spWp) (c_Agr : Cal P w K mg base CX0 6 "_law_agrees" ["_law_ring", "_law_f", "_law_whole", "_law_by", "_law_spot_here", "_law_prime_here"] [] (spAgr K C_Ring C_Fractions C_Rests)) (c_Plus : Cal P w K mg base CX0 5 "plus" ["ring", "f", "g"] [] (spPlus C_Ring C_Fractions C_Rests)) (c_Minus : Cal P w K mg base CX0 6 "minus" ["ring", "f", "g"] [] (spMinus C_Ring C_Fractions C_Rests)) (c_Times : Cal P w K mg base CX0 6 "times" ["ring", "f", "g"] [] (spTimes C_Ring C_Fractions C_Rests)) (c_Far : Cal P w K mg base CX0 7 "_law_far_agrees" ["_law_ring", "_law_cell_here", "_law_spot_here", "_law_prime_here"] [] (spFar K C_Ring C_Fractions C_Rests)) (c_LMd : Cal P w K mg base CX0 2 "_law_made" ["_law_top", "_law_bottom", "_law_prime_here"] [] spMd) (c_Sumd : Cal P w K mg base CX0 7 "summed" ["ring", "multiples", "row"] [] (spSumd K C_Ring C_Fractions C_Rests))  : FnOk P w K mg base CX0 9 f fd ["_law_script"] (spLaw K) := by
  refine F.okN (k := 8) scLaw (fun vs H Q E h => ?_) (fun cdv A outer s H vs Q E hr h => ?_)
  · obtain ⟨a, ns, rfl, _⟩ := h
    rfl
  obtain ⟨a, ns, rfl, h⟩ := h
  refine ⟨_, (pss_cons (ps_set (i := 1) scLaw.nd rfl (Or.inl rfl) (pe_c c_Cell hr pass00 .nil ((pa_cons (pv 0) (pa_cons (pe_int) pa_nil)))))
    (pss_cons (ps_set (i := 2) scLaw.nd rfl (Or.inl rfl) (pe_int))
    (pss_cons (ps_set (i := 3) scLaw.nd rfl (Or.inl rfl) (pe_mk0 k_FracInit hr pass00 .nil))
    (pss_cons (ps_if (pt_cmpR op_eq (pe_op op_mod (pv 1) (pe_int)) (pe_int) (nomark _)) (pss_cons (ps_set (i := 2) scLaw.nd rfl (Or.inl rfl) (pe_c c_LPr hr pass00 .nil ((pa_cons (pe_op op_fdiv (pv 1) (pe_int)) pa_nil))))
    (pss_one (ps_set (i := 3) scLaw.nd rfl (Or.inl rfl) (pe_mk k_RestsInit hr passF .nil ((pa_cons (pv 2) pa_nil)))))) pss_nil)
    (pss_cons (ps_set (i := 4) scLaw.nd rfl (Or.inl rfl) (pe_op op_add (pe_int) (pe_op op_mod (pe_op op_fdiv (pv 1) (pe_int)) (pe_int))))
    (pss_cons (ps_set (i := 5) scLaw.nd rfl (Or.inl rfl) (pe_mk k_RgI hr passF .nil ((pa_cons (pv 4) (pa_cons (pv 3) (pa_cons (pe_new0 T.n0_Tails T.mg_Tails) pa_nil))))))
    (pss_cons (ps_set (i := 6) scLaw.nd rfl (Or.inl rfl) (pe_c c_LPoly hr pass00 .nil ((pa_cons (pe_slice (sl_listK (K := K) rfl) (pv 0) (po_some (pe_int)) (po_some (pe_int))) (pa_cons (pv 4) (pa_cons (pv 2) pa_nil))))))
    (pss_cons (ps_set (i := 7) scLaw.nd rfl (Or.inl rfl) (pe_c c_LPoly hr pass00 .nil ((pa_cons (pe_slice (sl_listK (K := K) rfl) (pv 0) (po_some (pe_int)) (po_some (pe_int))) (pa_cons (pv 4) (pa_cons (pv 2) pa_nil))))))
    (pss_cons (ps_set (i := 8) scLaw.nd rfl (Or.inl rfl) (pe_c c_LPoly hr pass00 .nil ((pa_cons (pe_slice (sl_listK (K := K) rfl) (pv 0) (po_some (pe_int)) (po_some (pe_int))) (pa_cons (pv 4) (pa_cons (pv 2) pa_nil))))))
    (pss_cons (ps_set (i := 9) scLaw.nd rfl (Or.inl rfl) (pe_c c_LSpot hr pass00 .nil ((pa_cons (pv 1) (pa_cons (pv 4) (pa_cons (pv 2) pa_nil))))))
    (pss_cons (ps_set (i := 10) scLaw.nd rfl (Or.inl rfl) (pe_c c_At hr pass00 .nil ((pa_cons (pv 6) (pa_cons (pv 9) (pa_cons (pv 2) pa_nil))))))
    (pss_cons (ps_set (i := 11) scLaw.nd rfl (Or.inl rfl) (pe_c c_At hr pass00 .nil ((pa_cons (pv 7) (pa_cons (pv 9) (pa_cons (pv 2) pa_nil))))))
    (pss_cons (ps_set (i := 12) scLaw.nd rfl (Or.inl rfl) (pe_c c_At hr pass00 .nil ((pa_cons (pv 8) (pa_cons (pv 9) (pa_cons (pv 2) pa_nil))))))
    (pss_cons (ps_set (i := 13) scLaw.nd rfl (Or.inl rfl) (pe_int))
    (pss_cons (ps_if (pt_cmpR op_eq (pv 2) (pe_int) (nomark _)) (pss_one (ps_set (i := 13) scLaw.nd rfl (Or.inl rfl) (pe_op op_mulB (pe_int) (pe_c c_Wp hr pass00 .nil ((pa_cons (pe_ix (r := rIxT K) ix_tup (pv 9) (pe_int) (fun _ _ => rfl)) (pa_cons (pe_int) pa_nil))))))) pss_nil)
    (pss_cons (ps_if (PW.pt (pw_or (pt_not (pt_val (pe_c c_Agr hr pass00 .nil ((pa_cons (pv 5) (pa_cons (pv 6) (pa_cons (pv 10) (pa_cons (pe_int) (pa_cons (pv 9) (pa_cons (pv 2) pa_nil)))))))))) (pw_or1 (pt_not (pt_val (pe_c c_Agr hr pass00 .nil ((pa_cons (pv 5) (pa_cons (pv 7) (pa_cons (pv 11) (pa_cons (pe_int) (pa_cons (pv 9) (pa_cons (pv 2) pa_nil))))))))))))) (pss_one (ps_ret (pe_bl))) pss_nil)
    (pss_cons (ps_if (pt_not (pt_val (pe_c c_Agr hr pass00 .nil ((pa_cons (pv 5) (pa_cons (pe_c c_Plus hr pass00 .nil ((pa_cons (pv 5) (pa_cons (pv 6) (pa_cons (pv 7) pa_nil))))) (pa_cons (pe_op op_add (pv 10) (pv 11)) (pa_cons (pe_int) (pa_cons (pv 9) (pa_cons (pv 2) pa_nil)))))))))) (pss_one (ps_ret (pe_bl))) pss_nil)
    (pss_cons (ps_if (pt_not (pt_val (pe_c c_Agr hr pass00 .nil ((pa_cons (pv 5) (pa_cons (pe_c c_Minus hr pass00 .nil ((pa_cons (pv 5) (pa_cons (pv 6) (pa_cons (pv 7) pa_nil))))) (pa_cons (pe_op op_sub (pv 10) (pv 11)) (pa_cons (pe_int) (pa_cons (pv 9) (pa_cons (pv 2) pa_nil)))))))))) (pss_one (ps_ret (pe_bl))) pss_nil)
    (pss_cons (ps_if (pt_not (pt_val (pe_c c_Agr hr pass00 .nil ((pa_cons (pv 5) (pa_cons (pe_c c_Times hr pass00 .nil ((pa_cons (pv 5) (pa_cons (pv 6) (pa_cons (pv 7) pa_nil))))) (pa_cons (pe_op op_mulB (pv 10) (pv 11)) (pa_cons (pv 13) (pa_cons (pv 9) (pa_cons (pv 2) pa_nil)))))))))) (pss_one (ps_ret (pe_bl))) pss_nil)
    (pss_cons (ps_if (PW.pt (pw_and (pt_cmpR op_gt (pv 2) (pe_int) (nomark _)) (pw_and1 (pt_not (pt_val (pe_c c_Far hr pass00 .nil ((pa_cons (pv 5) (pa_cons (pv 1) (pa_cons (pv 9) (pa_cons (pv 2) pa_nil))))))))))) (pss_one (ps_ret (pe_bl))) pss_nil)
    (pss_cons (ps_set (i := 14) scLaw.nd rfl (Or.inl rfl) (pe_disp1 hr.units0 (pe_callTy (call_tupleK (K := K) rfl) rfl T.b_tuple (by kernel_rfl) ((pa_cons (pe_comp (N := ["_law_at_here"]) (Blk.plain (by decide +kernel) (by decide +kernel) rfl (by decide +kernel) nd__law_at_here) rfl (pi_range1 rfl T.b_range ((pa_cons (pv 4) pa_nil))) (fun C0 s0 H0 fp0 => pg_one (i := 0) nd__law_at_here rfl rfl) (fun C0 s0 H0 fp0 => pts_nil) (fun C0 s0 H0 fp0 => pe_int)) pa_nil))) (pe_c c_LMd hr pass00 .nil ((pa_cons (pe_int) (pa_cons (pe_int) (pa_cons (pv 2) pa_nil)))))))
    (pss_cons (ps_set (i := 15) scLaw.nd rfl (Or.inl rfl) (pe_c c_Sumd hr pass00 .nil ((pa_cons (pv 5) (pa_cons (pe_lst ((pa_cons (pv 14) (pa_cons (pv 7) (pa_cons (pe_dnewT) pa_nil))))) (pa_cons (pe_lst ((pa_cons (pv 6) (pa_cons (pv 8) (pa_cons (pv 7) pa_nil))))) pa_nil))))))
    (pss_cons (ps_if (pt_not (pt_val (pe_c c_Agr hr pass00 .nil ((pa_cons (pv 5) (pa_cons (pv 15) (pa_cons (pe_op op_add (pe_op op_mulB (pv 10) (pv 13)) (pe_op op_mulB (pv 11) (pv 12))) (pa_cons (pv 13) (pa_cons (pv 9) (pa_cons (pv 2) pa_nil)))))))))) (pss_one (ps_ret (pe_bl))) pss_nil)
    (pss_one (ps_ret (pe_cmpR (op_eqDT hr.units) (pe_c c_Sumd hr pass00 .nil ((pa_cons (pv 5) (pa_cons (pe_lst (pa_nil)) (pa_cons (pe_lst (pa_nil)) pa_nil))))) (pe_dnewT) (nomark _))))))))))))))))))))))))))), ?_⟩
  obtain ⟨hS, h63, k⟩ := h
  refine ⟨_, rfl, a, ns, 0, rfl, hS, Int.le_refl 0, ?_⟩
  generalize cellOf ns 0 = c
  intro q dq nq ndq neq
  refine ⟨q, dq, rfl, upd_same, rfl, ?_⟩
  have e5 : Same H (upd (upd (upd H dq (.own q)) q (.ins C_Fractions dq [])) q (.ins C_Fractions dq [("prime", .int 0)])) := fun b o e => by
    rw [upd_ne (ne_of_none e nq), upd_ne (ne_of_none e nq), upd_ne (ne_of_none e ndq)]
    exact e
  have hq5 : (upd (upd (upd H dq (.own q)) q (.ins C_Fractions dq [])) q (.ins C_Fractions dq [("prime", .int 0)])) q = some (.ins C_Fractions dq [("prime", .int 0)]) := upd_same
  generalize (upd (upd (upd H dq (.own q)) q (.ins C_Fractions dq [])) q (.ins C_Fractions dq [("prime", .int 0)])) = H5 at e5 hq5 ⊢
  dsimp only
  refine seq_mid (fun σ' H' => Same H H' ∧ ∃ pf n, σ' = [some (.ref a), some (.int c), some (.int n), some (.ref pf), none, none, none, none, none, none, none, none, none, none, none, none] ∧ AtN C_Fractions C_Rests n H' pf ∧ n ≤ 9973 ∧ (n = 0 ∨ Pr n)) ?_ ?_
  rotate_left
  · intro N hN
    refine ⟨_, rfl, _, _, rfl, rfl, (by show (0 : Int) < 2; decide), rfl, _, rfl, cEq (fun c1 => ?_) (fun c1 => ?_)⟩
    · refine ⟨_, rfl, _, _, rfl, rfl, ⟨by decide, by decide⟩, _, rfl, fun n pn ln => ?_⟩
      have pr := pr_of pn
      refine ⟨_, rfl, fun p dp np ndp nep => ?_⟩
      refine ⟨p, dp, n, rfl, upd_same, .inl ⟨ln, pn, rfl, ?_⟩⟩
      have e7 : Same H5 (upd (upd (upd H5 dp (.own p)) p (.ins C_Rests dp [])) p (.ins C_Rests dp [("prime", .int n)])) := fun b o e => by
        rw [upd_ne (ne_of_none e np), upd_ne (ne_of_none e np), upd_ne (ne_of_none e ndp)]
        exact e
      refine hN _ _ ⟨e5.trans e7, p, n, rfl, ?_, ln, .inr pr⟩
      unfold AtN
      rw [if_neg (pr_ne pr)]
      exact ⟨dp, upd_same, pr, ln⟩
    · refine hN _ _ ⟨e5, q, 0, rfl, ?_, by decide, .inl rfl⟩
      unfold AtN
      rw [if_pos rfl]
      exact ⟨dq, hq5⟩
  clear e5 hq5
  rintro σ' H6 ⟨g6, pf, n, rfl, hfd, n1, n2⟩
  obtain ⟨m, hm, m1, m3⟩ : ∃ m : Nat, 1 + c / 4 % 3 = (m : Int) ∧ 1 ≤ m ∧ m ≤ 3 := ⟨(1 + c / 4 % 3).toNat, by omega, by omega, by omega⟩
  walk_at "rd"
  dsimp only
  rw [hm]
  refine fun po dpo npo ndpo npe => ?_
  have e7 : Same H6 (upd (upd H6 dpo (.own po)) po (.ins C_Tails dpo [])) := fun b o e => by
    rw [upd_ne (ne_of_none e npo), upd_ne (ne_of_none e ndpo)]
    exact e
  have hpo : (upd (upd H6 dpo (HO.own po)) po (HO.ins C_Tails dpo [])) po = some (.ins C_Tails dpo []) := upd_same
  generalize upd (upd H6 dpo (HO.own po)) po (HO.ins C_Tails dpo []) = H7 at e7 hpo
  intro r dr nr ndr nre
  have e8 : Same H7 (upd (upd H7 dr (.own r)) r (.ins C_Ring dr [])) := fun b o e => by
    rw [upd_ne (ne_of_none e nr), upd_ne (ne_of_none e ndr)]
    exact e
  refine ⟨r, dr, (m : Int), pf, po, rfl, upd_same, ⟨dpo, e8 _ _ hpo⟩, by omega, by omega, fun H8 h8 k8 => ⟨rfl, ?_⟩⟩
  have g8 : Same H6 H8 := fun b o e => k8 b o (e8 _ _ (e7 _ _ e)) (ne_of_none (e7 _ _ e) nr)
  have hR8 : RgK C_Ring C_Fractions C_Rests H8 r m pf n := ⟨n1, n2, m1, by omega, ⟨po, dr, h8⟩, atN_keep (fun b o e _ => g8 b o e) hfd⟩
  have hS8 := (g6.trans g8).seq hS
  clear e7 e8 hpo
  obtain ⟨cs1, ec1, lc1⟩ := cut_map ns (some 1) (some 7)
  refine ⟨_, rfl, 1, rfl, 7, rfl, a, _, rfl, hS8, fun l1 hl1 => ?_⟩
  rw [ec1]
  have e9 : Same H8 (upd H8 l1 (.lst (cs1.map V.int))) := Same.upd hl1
  refine ⟨_, rfl, _, rfl, l1, m, n, cs1, rfl, n2, n1, m3, SqL.of upd_same, by omega, fun df HA fvs Tf ndf eA hdf pdf bf plf lf => ?_⟩
  have gA : Same H8 HA := e9.trans eA
  clear e9 eA
  obtain ⟨cs2, ec2, lc2⟩ := cut_map ns (some 7) (some 63)
  refine ⟨_, rfl, 7, rfl, 63, rfl, a, _, rfl, gA.seq hS8, fun l2 hl2 => ?_⟩
  rw [ec2]
  have e9 : Same HA (upd HA l2 (.lst (cs2.map V.int))) := Same.upd hl2
  refine ⟨_, rfl, _, rfl, l2, m, n, cs2, rfl, n2, n1, m3, SqL.of upd_same, by omega, fun dg HB gvs Tg ndg eB hdg pdg bg plg lg => ?_⟩
  have gB : Same HA HB := e9.trans eB
  have fg : df ≠ dg := fun z => by subst z; rw [e9 _ _ hdf] at ndg; cases ndg
  clear e9 eB
  obtain ⟨cs3, ec3, lc3⟩ := cut_map ns (some 7) (some 13)
  refine ⟨_, rfl, 7, rfl, 13, rfl, a, _, rfl, (gA.trans gB).seq hS8, fun l3 hl3 => ?_⟩
  rw [ec3]
  have e9 : Same HB (upd HB l3 (.lst (cs3.map V.int))) := Same.upd hl3
  refine ⟨_, rfl, _, rfl, l3, m, n, cs3, rfl, n2, n1, m3, SqL.of upd_same, by omega, fun dh HC hvs Th ndh eC hdh pdh bh plh lh => ?_⟩
  have gC : Same HB HC := e9.trans eC
  have gh : dg ≠ dh := fun z => by subst z; rw [e9 _ _ hdg] at ndh; cases ndh
  clear e9 eC
  refine ⟨_, rfl, _, rfl, _, rfl, c, m, n, rfl, n2, n1, m3, fun s0 HD ps bt us eD sp => ?_⟩
  have gD := ((gA.trans gB).trans gC).trans eD
  have hRD := hR8.same gD
  have pff : PF n m HD df fvs Tf (dN n) := pf_mk m3 (eD _ _ (gC _ _ (gB _ _ hdf))) (((pdf.same gB).same gC).same eD) (Nat.le_trans (pdf.len27 m3 plf) (by decide)) (.inl rfl) (bdd_up bf (by decide)) (plf.up (by decide))
  have pfg : PF n m HD dg gvs Tg (dN n) := pf_mk m3 (eD _ _ (gC _ _ hdg)) ((pdg.same gC).same eD) (Nat.le_trans (pdg.len27 m3 plg) (by decide)) (.inl rfl) (bdd_up bg (by decide)) (plg.up (by decide))
  have pfh : PF n m HD dh hvs Th (dN n) := pf_mk m3 (eD _ _ hdh) (pdh.same eD) (Nat.le_trans (pdh.len27 m3 plh) (by decide)) (.inl rfl) (bdd_up bh (by decide)) (plh.up (by decide))
  have lf27 := pdf.len27 m3 plf
  have lg27 := pdg.len27 m3 plg
  have lh27 := pdh.len27 m3 plh
  have hds := pdf.hds m1 m3 plf
  clear gA gB gC gD eD hdf hdg hdh pdf pdg pdh hR8 hS8
  refine ⟨_, rfl, _, rfl, _, rfl, df, s0, m, n, fvs, Tf, dN n, ps, bt, us, rfl, n2, n1, m3, pff, sp, fun Sa HE eE hSa bSa => ?_⟩
  refine ⟨_, rfl, _, rfl, _, rfl, dg, s0, m, n, gvs, Tg, dN n, ps, bt, us, rfl, n2, n1, m3, pfg.same eE, sp.same eE, fun Sb HF eF hSb bSb => ?_⟩
  refine ⟨_, rfl, _, rfl, _, rfl, dh, s0, m, n, hvs, Th, dN n, ps, bt, us, rfl, n2, n1, m3, (pfh.same eE).same eF, (sp.same eE).same eF, fun Sc HG eG hSc bSc => ?_⟩
  have gG := (eE.trans eF).trans eG
  have hRG := hRD.same gG
  have pffG := pff.same gG
  have pfgG := pfg.same gG
  have pfhG := pfh.same gG
  have spG := sp.same gG
  have bA := bSa (plf.up (by decide))
  have bB := bSb (plg.up (by decide))
  have bC := bSc (plh.up (by decide))
  clear eE eF eG gG hRD pff pfg pfh sp bSa bSb bSc
  have nbt : ¬ zr n bt := by
    rcases n2 with z | z
    · subst z; rw [zr_0]; have := spG.b1; omega
    · rw [spG.bn (pr_ne z)]; exact nz_one (.inr z)
  have nzd := dN_nz n2
  have b1 := spG.b1
  have b5 := spG.b5
  have hbt : bt.natAbs < 2 ^ 3 := by omega
  unfold gName
  dsimp only
  refine seq_mid (fun σ' H' => H' = HG ∧ σ' = [some (.ref a), some (.int c), some (.int n), some (.ref pf), some (.int m), some (.ref r), some (.ref df), some (.ref dg), some (.ref dh), some (.ref s0), some (.int Sa), some (.int Sb), some (.int Sc), some (.int 1), none, none]) ?_ (fun N hN => hN _ _ ⟨rfl, rfl⟩)
  rintro σ1 H1 ⟨rfl, rfl⟩
  refine seq_mid (fun σ' H' => H' = H1 ∧ σ' = [some (.ref a), some (.int c), some (.int n), some (.ref pf), some (.int m), some (.ref r), some (.ref df), some (.ref dg), some (.ref dh), some (.ref s0), some (.int Sa), some (.int Sb), some (.int Sc), some (.int (c0 n * bt ^ 12)), none, none]) ?_ ?_
  rotate_left
  · intro N hN
    walk_at "rd"
    refine cEq (fun c1 => ?_) (fun c1 => ?_)
    · subst c1
      obtain ⟨pl, ql, hs, hpl, hql⟩ := spG.ex
      refine ⟨_, rfl, s0, _, _, _, rfl, rfl, SqT.of hs, rfl, bt, 12, rfl, up hbt (by decide), by decide, by decide, _, _, rfl, rfl, ⟨by decide, up (pw_up hbt _) (by decide)⟩, ?_⟩
      exact hN _ _ ⟨rfl, rfl⟩
    · refine hN _ _ ⟨rfl, ?_⟩
      have : c0 n * bt ^ 12 = 1 := by unfold c0; rw [if_neg c1, spG.bn c1, one_pw]; rfl
      rw [this]
  rintro σ2 H2 ⟨rfl, rfl⟩
  have bY : (n = 0 → (c0 n * bt ^ 12).natAbs < 2 ^ 400) := fun z => by
    subst z
    exact up (mul_up (show (c0 0).natAbs < 2 ^ 6 by decide) (pw_up hbt 12)) (by decide)
  have bY4 : (c0 n * bt ^ 12).natAbs < 2 ^ 400 := by
    have : (c0 n).natAbs < 2 ^ 6 := by unfold c0; split <;> decide
    exact up (mul_up this (pw_up hbt 12)) (by decide)
  have hY1 : n ≠ 0 → c0 n * bt ^ 12 = 1 := fun z => by unfold c0; rw [if_neg z, spG.bn z, one_pw]; rfl
  have one400 : n = 0 → (1 : Int).natAbs < 2 ^ 400 := fun _ => by decide
  have ag1 : ∀ {S S' X : Int}, eqn n (S' * dN n) (c0 n * X) → eqn n (S * dN n) (c0 n * X) → eqn n (S * 1) S' := fun h1 h2 => by
    rw [Int.mul_one]
    exact eqn_cancel n2 nzd (h2.trans h1.symm)
  refine ⟨_, rfl, _, rfl, _, rfl, _, rfl, _, rfl, r, df, s0, Sa, 1, m, pf, n, fvs, Tf, dN n, ps, bt, us, rfl, hRG, m3, pffG, spG, fun S q => ag1 hSa q, one400, fun _ => rfl, fun H3 e3 => ⟨_, rfl, iteF ?_⟩⟩
  refine ⟨_, rfl, _, rfl, _, rfl, _, rfl, _, rfl, r, dg, s0, Sb, 1, m, pf, n, gvs, Tg, dN n, ps, bt, us, rfl, hRG.same e3, m3, pfgG.same e3, spG.same e3, fun S q => ag1 hSb q, one400, fun _ => rfl, fun H4 e4 => ⟨_, rfl, iteF ?_⟩⟩
  have g4 := e3.trans e4
  clear e3 e4
  unfold tNext
  dsimp only
  -- plus
  have bd6 : n = 0 → (dN n).natAbs < 2 ^ 400 := fun _ => by unfold dN; split <;> decide
  have bd6' : n = 0 → (dN n).natAbs < 2 ^ 100 := fun _ => by unfold dN; split <;> decide
  have zl : fvs.length + gvs.length < sizeLine := Nat.lt_of_le_of_lt (show fvs.length + gvs.length ≤ 54 by omega) (by decide)
  have zf : ∀ t, t ∉ tks fvs → zr n (Tf t) := fun t ht => pffG.pd.out ht
  have zg : ∀ t, t ∉ tks gvs → zr n (Tg t) := fun t ht => pfgG.pd.out ht
  have zh : ∀ t, t ∉ tks hvs → zr n (Th t) := fun t ht => pfhG.pd.out ht
  refine ⟨_, rfl, _, rfl, _, rfl, _, rfl, r, df, dg, m, pf, n, fvs, gvs, Tf, Tg, dN n, rfl, hRG.same g4, (pffG.same g4).he, (pfgG.same g4).he, (pffG.same g4).pd, (pfgG.same g4).pd, hds, zl, bdd_up bf (by decide), bdd_up bg (by decide), bd6, fun dp H5 kp ndp e5 hdp pdp lp => ?_⟩
  have g5 := g4.trans e5
  have plp : Pl 4 kp := pl_plus pdp zf zg plf plg
  have pfp : PF n m H5 dp kp (fun k => Tf k + Tg k) (dN n) := pf_mk m3 hdp pdp (by omega) (.inl rfl) (fun z t => up (add_up (bf z t) (bg z t)) (by decide)) plp
  refine ⟨_, rfl, _, rfl, _, _, rfl, rfl, _, rfl, _, rfl, r, dp, s0, Sa + Sb, 1, m, pf, n, kp, _, dN n, ps, bt, us, rfl, hRG.same g5, m3, pfp, spG.same g5, fun S q => ?_, one400, fun _ => rfl, fun H6 e6 => ⟨_, rfl, iteF ?_⟩⟩
  · exact fin_plus n2 nzd hSa hSb q (ev_add pdp.nts pffG.pd.nts pfgG.pd.nts (fun _ => rfl) (fun t ht => pdp.out ht) zf zg)
  have g6' := g5.trans e6
  clear g5 e5 e6 hdp pdp lp plp pfp
  dsimp only
  -- minus
  refine ⟨_, rfl, _, rfl, _, rfl, _, rfl, r, df, dg, m, pf, n, fvs, gvs, Tf, Tg, dN n, rfl, hRG.same g6', (pffG.same g6').he, (pfgG.same g6').he, (pffG.same g6').pd, (pfgG.same g6').pd, hds, zl, bdd_up bf (by decide), bdd_up bg (by decide), bd6, fun dm H7 km ndm e7 hdm pdm lm => ?_⟩
  have g7 := g6'.trans e7
  have zg' : ∀ t, t ∉ tks gvs → zr n (- Tg t) := fun t ht => zr_neg.mpr (zg t ht)
  have plm : Pl 4 km := pl_plus (T2 := fun k => - Tg k) pdm zf zg' plf plg
  have pfm : PF n m H7 dm km (fun k => Tf k + - Tg k) (dN n) := pf_mk m3 hdm pdm (by omega) (.inl rfl) (fun z t => up (add_up (bf z t) (show (- Tg t).natAbs < 2 ^ 23 by rw [Int.natAbs_neg]; exact bg z t)) (by decide)) plm
  refine ⟨_, rfl, _, rfl, _, _, rfl, rfl, _, rfl, _, rfl, r, dm, s0, Sa - Sb, 1, m, pf, n, km, _, dN n, ps, bt, us, rfl, hRG.same g7, m3, pfm, spG.same g7, fun S q => ?_, one400, fun _ => rfl, fun H8' e8' => ⟨_, rfl, iteF ?_⟩⟩
  · have hb' : eqn n (- Sb * dN n) (c0 n * (- ev (tks gvs) Tg (wt ps bt))) := eqn.trans (eqn.of_eq (by grind)) (hSb.neg.trans (eqn.of_eq (by grind)))
    have := fin_plus (b := - Sb) (Y := - ev (tks gvs) Tg (wt ps bt)) n2 nzd hSa hb' q (by
      rw [← ev_neg]
      exact ev_add pdm.nts pffG.pd.nts pfgG.pd.nts (fun _ => rfl) (fun t ht => pdm.out ht) zf zg')
    rw [Int.sub_eq_add_neg]; exact this
  have g8' := g7.trans e8'
  clear g7 e7 e8' hdm pdm lm plm pfm
  dsimp only
  -- times
  have Wd : bt = 1 ∨ ∀ l ∈ tks fvs, ∀ u ∈ tks gvs, deg l + deg u ≤ 12 := .inr fun l hl u hu => by
    have h1 := deg_le6 (by rw [(pffG.pd.ko.ok hl).1]; exact m3) (plf l hl)
    have h2 := deg_le6 (by rw [(pfgG.pd.ko.ok hu).1]; exact m3) (plg u hu)
    omega
  have Wd2 : bt = 1 ∨ ∀ l ∈ tks gvs, ∀ u ∈ tks hvs, deg l + deg u ≤ 12 := .inr fun l hl u hu => by
    have h1 := deg_le6 (by rw [(pfgG.pd.ko.ok hl).1]; exact m3) (plg l hl)
    have h2 := deg_le6 (by rw [(pfhG.pd.ko.ok hu).1]; exact m3) (plh u hu)
    omega
  refine ⟨_, rfl, _, rfl, _, rfl, _, rfl, r, df, dg, m, pf, n, fvs, gvs, Tf, dN n, Tg, dN n, rfl, hRG.same g8', fg, (pffG.same g8').he, (pfgG.same g8').he, (pffG.same g8').pd, (pfgG.same g8').pd, by omega, by omega, bdd_up bf (by decide), bdd_up bg (by decide), bd6', bd6', fun dt H9 kt ndt e9 hdt pdt lt => ?_⟩
  have g9 := g8'.trans e9
  have lt27 : fvs.length * gvs.length ≤ 27 * 27 := Nat.mul_le_mul lf27 lg27
  have plt : Pl 4 kt := pl_times pdt zg plf plg
  have pft : PF n m H9 dt kt (cv Tf (tks fvs) Tg) (dN n * dN n) := pf_mk m3 hdt pdt (by omega) (.inr rfl) (bdd_up (cv_b46 bf bg (by rw [tks_len]; omega)) (by decide)) plt
  refine ⟨_, rfl, _, rfl, _, _, rfl, rfl, ⟨up bA (by decide), up bB (by decide)⟩, _, rfl, _, rfl, _, rfl, r, dt, s0, Sa * Sb, c0 n * bt ^ 12, m, pf, n, kt, _, dN n * dN n, ps, bt, us, rfl, hRG.same g9, m3, pft, spG.same g9, fun S q => ?_, bY, hY1, fun HA eA => ⟨_, rfl, iteF ?_⟩⟩
  · refine fin_times n2 nzd hSa hSb q ?_ rfl
    have q1 := ev_times (n := n) (T1 := Tf) (T2 := Tg) (W := wt ps bt) (ts := tks kt) (ls := tks fvs) (us := tks gvs) (m := m) pdt.nts pfgG.pd.nts (fun u hu => (pfgG.pd.ko.ok hu).1) (fun l hl => (pffG.pd.ko.ok hl).1) (fun t ht => pdt.out ht) zg
    refine (q1.mul (eqn.refl n (bt ^ 12))).trans (eqn.of_eq ?_)
    exact ev_prod spG.lp (fun l hl => pffG.pd.ko.ok hl) (fun u hu => pfgG.pd.ko.ok hu) Wd
  have gA := g9.trans eA
  clear g9 e9 eA hdt pdt lt plt pft
  dsimp only
  refine seq_mid (fun σ' H' => Same H2 H' ∧ σ' = [some (.ref a), some (.int c), some (.int n), some (.ref pf), some (.int m), some (.ref r), some (.ref df), some (.ref dg), some (.ref dh), some (.ref s0), some (.int Sa), some (.int Sb), some (.int Sc), some (.int (c0 n * bt ^ 12)), none, none]) ?_ ?_
  rotate_left
  · intro N hN
    walk_at "rd"
    refine cD (fun c1 => ?_) (fun c1 => iteF (hN _ _ ⟨gA, rfl⟩))
    exact ⟨_, rfl, _, rfl, _, rfl, _, rfl, r, c, s0, m, pf, n, ps, bt, us, rfl, hRG.same gA, by omega, m3, spG.same gA, fun H' e' => ⟨_, rfl, iteF (hN _ _ ⟨gA.trans e', rfl⟩)⟩⟩
  rintro σ3 HB ⟨gB, rfl⟩
  clear gA
  intro d1 nd1
  have eB1 : Same HB (upd HB d1 (.dT [])) := Same.upd nd1
  have hd1 : (upd HB d1 (HO.dT [])) d1 = some (.dT []) := upd_same
  generalize upd HB d1 (HO.dT []) = HC at eB1 hd1
  show tComp _ _ _ _ _ _ _ _
  refine walk_comp (J := Itr 0 m) (H1 := HC) (walk_range 0 m) (by omega) ?_ (fun σ => σ.length = 1) (fun _ => true) (fun _ => .int 0) rfl ?_ fun DL HD eD hL => ?_
  · exact fun R hR => ⟨_, rfl, (m : Int), rfl, by omega, by omega, hR⟩
  · rintro i x σ' H5 hi hs e5 rfl Ny Nn hy hn
    match σ', hs with
    | [_], _ => exact hy _ _ rfl (Same.refl _) rfl
  rw [List.filter_eq_self.mpr (fun _ _ => rfl)] at hL
  have eL : (List.range m).map (fun _ => V.int 0) = (List.replicate m 0).map V.int := by
    rw [List.map_replicate]; exact List.map_const' .. |>.trans (by rw [List.length_range])
  rw [eL] at hL
  refine ⟨DL, _, rfl, .inl ⟨SqL.of hL, fun tt ht => ?_⟩⟩
  have eE : Same HC (upd HD tt (.tup ((List.replicate m 0).map V.int))) := eD.updR (eD.free ht)
  have htt : (upd HD tt (HO.tup ((List.replicate m 0).map V.int))) tt = some (.tup ((List.replicate m 0).map V.int)) := upd_same
  generalize upd HD tt (HO.tup ((List.replicate m 0).map V.int)) = HE at eE htt
  refine ⟨_, rfl, 1, 1, n, rfl, n2, by decide, by decide, by decide, fun v HF eF iv => ?_⟩
  rw [dB_one] at iv
  refine ⟨tt, ky (List.replicate m 0), rfl, eF _ _ (eE _ _ hd1), by rw [ky_kV]; exact eF _ _ htt, ?_⟩
  have gF := (eB1.trans eE).trans eF
  have gG : Same HB (upd HF d1 (.dT [(ky (List.replicate m 0), v)])) := gF.updR nd1
  have hd1G : (upd HF d1 (HO.dT [(ky (List.replicate m 0), v)])) d1 = some (.dT [(ky (List.replicate m 0), v)]) := upd_same
  have ivG : Is n (upd HF d1 (HO.dT [(ky (List.replicate m 0), v)])) v 1 1 := iv.updD (eF _ _ (eE _ _ hd1))
  generalize upd HF d1 (HO.dT [(ky (List.replicate m 0), v)]) = HG at gG hd1G ivG
  have gH := gB.trans gG
  have pd0 : PD n m HG [] (fun _ => 0) (dN n) := PD.nil n2 nzd fun _ => zr_zero n
  have ivD : Is n HG v (dN n) (dN n) := Is.cross n2 (nz_one n2) ivG (eqn.of_eq (by rw [Int.one_mul, Int.mul_one]))
  have pd1 := pd0.set (zeros_ok m) ivD nzd
  have ep : putK [] (ky (List.replicate m 0)) v = [(ky (List.replicate m 0), v)] := putK_new (by simp)
  rw [ep] at pd1
  have tk1 : tks [(ky (List.replicate m 0), v)] = [List.replicate m 0] := by show [uk (ky (List.replicate m 0))] = _; rw [uk_ky]
  have nd1f : d1 ≠ df := fun z => by subst z; rw [gB _ _ pffG.he] at nd1; cases nd1
  have b1' : Bdd n (fun t => if t = List.replicate m 0 then dN n else 0) 23 := fun z t => by
    show (if t = List.replicate m 0 then dN n else 0).natAbs < 2 ^ 23
    have : (dN n).natAbs < 2 ^ 23 := by unfold dN; split <;> decide
    split
    · exact this
    · decide
  have b0' : Bdd n (fun _ => 0) 23 := fun z t => by show (0 : Int).natAbs < 2 ^ 23; decide
  clear pd0 eD eE eF gF hL htt iv eB1 hd1
  refine ⟨_, rfl, _, rfl, _, rfl, fun d3 nd3 => ⟨(by show 3 ≤ sizeLine; decide), fun l1 nl1 => ?_⟩⟩
  have eI : Same HG (upd HG d3 (.dT [])) := Same.upd nd3
  have hd3 : (upd HG d3 (HO.dT [])) d3 = some (.dT []) := upd_same
  generalize upd HG d3 (HO.dT []) = HI at eI hd3 nl1
  have eJ : Same HI (upd HI l1 (.lst [.ref d1, .ref dg, .ref d3])) := Same.upd nl1
  have hl1 : (upd HI l1 (HO.lst [.ref d1, .ref dg, .ref d3])) l1 = some (.lst [.ref d1, .ref dg, .ref d3]) := upd_same
  generalize upd HI l1 (HO.lst [.ref d1, .ref dg, .ref d3]) = HJ at eJ hl1
  refine ⟨_, rfl, _, rfl, _, rfl, (by show 3 ≤ sizeLine; decide), fun l2 nl2 => ?_⟩
  have eK : Same HJ (upd HJ l2 (.lst [.ref df, .ref dh, .ref dg])) := Same.upd nl2
  have hl2 : (upd HJ l2 (HO.lst [.ref df, .ref dh, .ref dg])) l2 = some (.lst [.ref df, .ref dh, .ref dg]) := upd_same
  generalize upd HJ l2 (HO.lst [.ref df, .ref dh, .ref dg]) = HK at eK hl2
  have g1K : Same HG HK := (eI.trans eJ).trans eK
  have gK : Same H2 HK := gH.trans g1K
  have nd3g : d3 ≠ dg := fun z => by subst z; rw [gH _ _ pfgG.he] at nd3; cases nd3
  have ok1 : SI.Ok n m HK (dN n) (dN n) ⟨d1, [(ky (List.replicate m 0), v)], fun t => if t = List.replicate m 0 then dN n else 0, df, fvs, Tf⟩ := ⟨nd1f, g1K _ _ hd1G, gK _ _ pffG.he, pd1.same g1K, pffG.pd.same gK, by show 1 ≤ 64; decide, by show fvs.length ≤ 64; omega, bdd_up b1' (by decide), bdd_up bf (by decide)⟩
  have ok2 : SI.Ok n m HK (dN n) (dN n) ⟨dg, gvs, Tg, dh, hvs, Th⟩ := ⟨gh, gK _ _ pfgG.he, gK _ _ pfhG.he, pfgG.pd.same gK, pfhG.pd.same gK, by show gvs.length ≤ 64; omega, by show hvs.length ≤ 64; omega, bdd_up bg (by decide), bdd_up bh (by decide)⟩
  have ok3 : SI.Ok n m HK (dN n) (dN n) ⟨d3, [], fun _ => 0, dg, gvs, Tg⟩ := ⟨nd3g, eK _ _ (eJ _ _ hd3), gK _ _ pfgG.he, PD.nil n2 nzd fun _ => zr_zero n, pfgG.pd.same gK, by show 0 ≤ 64; decide, by show gvs.length ≤ 64; omega, bdd_up b0' (by decide), bdd_up bg (by decide)⟩
  obtain ⟨its, hits⟩ : ∃ its : List SI, its = [⟨d1, [(ky (List.replicate m 0), v)], fun t => if t = List.replicate m 0 then dN n else 0, df, fvs, Tf⟩, ⟨dg, gvs, Tg, dh, hvs, Th⟩, ⟨d3, [], fun _ => 0, dg, gvs, Tg⟩] := ⟨_, rfl⟩
  have okA : ∀ i ∈ its, SI.Ok n m HK (dN n) (dN n) i := fun i hi => by
    rw [hits] at hi
    rcases List.mem_cons.mp hi with rfl | hi
    · exact ok1
    · rcases List.mem_cons.mp hi with rfl | hi
      · exact ok2
      · rw [List.mem_singleton.mp hi]; exact ok3
  have lni_e : lni its = 1 * fvs.length + (gvs.length * hvs.length + (0 * gvs.length + 0)) := by rw [hits]; rfl
  have lgh : gvs.length * hvs.length ≤ 27 * 27 := Nat.mul_le_mul lg27 lh27
  have smb : Bdd n (smi its) 60 := smi_b (fun i hi => by
    rw [hits] at hi
    rcases List.mem_cons.mp hi with rfl | hi
    · exact ⟨b1', bf, by show 1 ≤ 64; decide⟩
    · rcases List.mem_cons.mp hi with rfl | hi
      · exact ⟨bg, bh, by show gvs.length ≤ 64; omega⟩
      · rw [List.mem_singleton.mp hi]; exact ⟨b0', bg, by show 0 ≤ 64; decide⟩) (by rw [hits]; show 3 ≤ 3; decide)
  have evI : ((its.map fun i => sm (fun l => i.T1 l * ev (tks i.g) i.T2 fun u => wt ps bt (addT l u)) (tks i.f)).sum) = dN n * ev (tks fvs) Tf (wt ps bt) + sm (fun l => Tg l * ev (tks hvs) Th fun u => wt ps bt (addT l u)) (tks gvs) := by
    rw [hits]
    show sm (fun l => (if l = List.replicate m 0 then dN n else 0) * ev (tks fvs) Tf fun u => wt ps bt (addT l u)) (tks [(ky (List.replicate m 0), v)]) + (sm (fun l => Tg l * ev (tks hvs) Th fun u => wt ps bt (addT l u)) (tks gvs) + (0 + 0)) = _
    rw [tk1, sm_cons, sm_nil, if_pos rfl]
    have : ev (tks fvs) Tf (fun u => wt ps bt (addT (List.replicate m 0) u)) = ev (tks fvs) Tf (wt ps bt) := sm_congr fun u hu => by show Tf u * wt ps bt (addT (List.replicate m 0) u) = _; rw [zeros_add (pffG.pd.ko.ok hu).1]
    rw [this]; omega
  have sup4 : ∀ t, ¬ zr n (smi its t) → ∀ x ∈ t, x ≤ 4 := fun t q => by
    obtain ⟨i, hi, qi⟩ := smi_supp q
    rw [hits] at hi
    rcases List.mem_cons.mp hi with rfl | hi
    · obtain ⟨l, hl, u, hu, rfl⟩ := cv_supp zf qi
      have hl' : l ∈ tks [(ky (List.replicate m 0), v)] := hl
      rw [tk1, List.mem_singleton] at hl'
      subst hl'
      exact add_le4 (fun x hx => by rw [(List.mem_replicate.mp hx).2]; decide) (plf u hu)
    · rcases List.mem_cons.mp hi with rfl | hi
      · obtain ⟨l, hl, u, hu, rfl⟩ := cv_supp zh qi
        exact add_le4 (plg l hl) (plh u hu)
      · rw [List.mem_singleton.mp hi] at qi
        exact absurd (zr_zero n) qi
  have hA1 : SqL K HK l1 (its.map fun i => .ref i.e1) := by rw [hits]; exact SqL.of (eK _ _ hl1)
  have hA2 : SqL K HK l2 (its.map fun i => .ref i.e2) := by rw [hits]; exact SqL.of hl2
  have il : its.length ≤ 3 := by rw [hits]; show 3 ≤ 3; decide
  clear hits ok1 ok2 ok3
  refine ⟨r, l1, l2, m, pf, n, dN n, dN n, its, rfl, hRG.same gK, hA1, hA2, okA, il, nzd, nzd, bd6', bd6', fun dS HL kS ndS eL' hdS pdS lS => ?_⟩
  have gL := gK.trans eL'
  have pfS : PF n m HL dS kS (smi its) (dN n * dN n) := pf_mk m3 hdS pdS (by omega) (.inr rfl) smb fun t ht => sup4 t (pdS.nzt ht)
  refine ⟨_, rfl, _, rfl, _, rfl, _, rfl, _, _, rfl, rfl, ⟨up bA (by decide), up bY4 (by decide)⟩, _, rfl, _, rfl, _, _, rfl, rfl, ⟨up bB (by decide), up bC (by decide)⟩, _, _, rfl, rfl, _, rfl, _, rfl, _, rfl, r, dS, s0, Sa * (c0 n * bt ^ 12) + Sb * Sc, c0 n * bt ^ 12, m, pf, n, kS, _, dN n * dN n, ps, bt, us, rfl, hRG.same gL, m3, pfS, spG.same gL, fun S q => ?_, bY, hY1, fun HM eM => ⟨_, rfl, iteF ?_⟩⟩
  · refine fin_sum n2 nzd hSa hSb hSc q ?_ (eqn.of_eq (ev_prod spG.lp (fun l hl => pfgG.pd.ko.ok hl) (fun u hu => pfhG.pd.ko.ok hu) Wd2)) rfl
    rw [← evI]
    exact ev_smi okA pdS.nts fun t ht => pdS.out ht
  have gM := gL.trans eM
  refine ⟨_, rfl, (by show 0 ≤ sizeLine; exact Nat.zero_le _), fun l3 nl3 => ?_⟩
  have eN : Same HM (upd HM l3 (.lst [])) := Same.upd nl3
  have hl3 : (upd HM l3 (HO.lst [])) l3 = some (.lst []) := upd_same
  generalize upd HM l3 (HO.lst []) = HN at eN hl3
  refine ⟨(by show 0 ≤ sizeLine; exact Nat.zero_le _), fun l4 nl4 => ?_⟩
  have eO : Same HN (upd HN l4 (.lst [])) := Same.upd nl4
  have hl4 : (upd HN l4 (HO.lst [])) l4 = some (.lst []) := upd_same
  generalize upd HN l4 (HO.lst []) = HO' at eO hl4
  refine ⟨r, l3, l4, m, pf, n, dN n, dN n, [], rfl, hRG.same ((gM.trans eN).trans eO), SqL.of (eO _ _ hl3), SqL.of hl4, (fun i hi => by cases hi), by decide, nzd, nzd, bd6', bd6', fun dZ HP kZ ndZ eP hdZ pdZ lZ => ?_⟩
  have kz : kZ = [] := List.length_eq_zero_iff.mp (Nat.le_zero.mp lZ)
  subst kz
  intro dE ndE
  refine ⟨dZ, dE, [], [], [], [], rfl, rfl, .inl ((Same.upd ndE) _ _ hdZ), .inl upd_same, .nil, .nil, (fun p hp => by cases hp), (fun p hp => by cases hp), ?_⟩
  exact k _
end
end K10
def PySem.W.Fast.tw11193654742218507522 : Unit := ()
def PySem.W.Fast.tw17841691550708792337 : Unit := ()
def PySem.W.Fast.tw14783700950085259536 : Unit := ()
def PySem.W.Fast.tw3376278248634706357 : Unit := ()
def PySem.W.Fast.tw2168322959705309447 : Unit := ()
def PySem.W.Fast.tw16950377162794470654 : Unit := ()
def PySem.W.Fast.tw8043732131391534068 : Unit := ()
def PySem.W.Fast.tw2200842354450046673 : Unit := ()
def PySem.W.Fast.tw10344154209674380809 : Unit := ()
def PySem.W.Fast.tw1981075923489880935 : Unit := ()
def PySem.W.Fast.tw2698366467515870305 : Unit := ()
def PySem.W.Fast.tw6367464573399143250 : Unit := ()
def PySem.W.Fast.tw13215620017960255867 : Unit := ()
namespace K10
open PySem L2
set_option maxHeartbeats 8000000 in
theorem all_mk {l : PySem.W.OpenLaw} {w : World} {K : PySem.W.Frag} {h : Heap} {mg : Str → Option Value} {fa : Addr} (X : K.In h) (G : h.Ns mainGlobals mg) (hfa : mg "law" = some (.ref fa))
    {C_Ring : Addr} {C_Fractions : Addr} {C_Rests : Addr} {C_Tails : Addr} {f_0 : Addr} {od_0 an_0 : Option Addr} {sl_0 : Array (Option Value)} {oc_0 kV_0 dc_0 pm_0 cd_0 ct_0 : Value} {f_1 : Addr} {od_1 an_1 : Option Addr} {sl_1 : Array (Option Value)} {oc_1 kV_1 dc_1 pm_1 cd_1 ct_1 : Value} {f_2 : Addr} {od_2 an_2 : Option Addr} {sl_2 : Array (Option Value)} {oc_2 kV_2 dc_2 pm_2 cd_2 ct_2 : Value} {Cq_2 : Addr} {f_3 : Addr} {od_3 an_3 : Option Addr} {sl_3 : Array (Option Value)} {oc_3 kV_3 dc_3 pm_3 cd_3 ct_3 : Value} {f_4 : Addr} {od_4 an_4 : Option Addr} {sl_4 : Array (Option Value)} {oc_4 kV_4 dc_4 pm_4 cd_4 ct_4 : Value} {f_5 : Addr} {od_5 an_5 : Option Addr} {sl_5 : Array (Option Value)} {oc_5 kV_5 dc_5 pm_5 cd_5 ct_5 : Value} {f_6 : Addr} {od_6 an_6 : Option Addr} {sl_6 : Array (Option Value)} {oc_6 kV_6 dc_6 pm_6 cd_6 ct_6 : Value} {f_7 : Addr} {od_7 an_7 : Option Addr} {sl_7 : Array (Option Value)} {oc_7 kV_7 dc_7 pm_7 cd_7 ct_7 : Value} {f_8 : Addr} {od_8 an_8 : Option Addr} {sl_8 : Array (Option Value)} {oc_8 kV_8 dc_8 pm_8 cd_8 ct_8 : Value} {f_9 : Addr} {od_9 an_9 : Option Addr} {sl_9 : Array (Option Value)} {oc_9 kV_9 dc_9 pm_9 cd_9 ct_9 : Value} {f_10 : Addr} {od_10 an_10 : Option Addr} {sl_10 : Array (Option Value)} {oc_10 kV_10 dc_10 pm_10 cd_10 ct_10 : Value} {f_11 : Addr} {od_11 an_11 : Option Addr} {sl_11 : Array (Option Value)} {oc_11 kV_11 dc_11 pm_11 cd_11 ct_11 : Value} {f_12 : Addr} {od_12 an_12 : Option Addr} {sl_12 : Array (Option Value)} {oc_12 kV_12 dc_12 pm_12 cd_12 ct_12 : Value} {f_13 : Addr} {od_13 an_13 : Option Addr} {sl_13 : Array (Option Value)} {oc_13 kV_13 dc_13 pm_13 cd_13 ct_13 : Value} {f_14 : Addr} {od_14 an_14 : Option Addr} {sl_14 : Array (Option Value)} {oc_14 kV_14 dc_14 pm_14 cd_14 ct_14 : Value} {f_15 : Addr} {od_15 an_15 : Option Addr} {sl_15 : Array (Option Value)} {oc_15 kV_15 dc_15 pm_15 cd_15 ct_15 : Value} {f_16 : Addr} {od_16 an_16 : Option Addr} {sl_16 : Array (Option Value)} {oc_16 kV_16 dc_16 pm_16 cd_16 ct_16 : Value} {f_17 : Addr} {od_17 an_17 : Option Addr} {sl_17 : Array (Option Value)} {oc_17 kV_17 dc_17 pm_17 cd_17 ct_17 : Value} {f_18 : Addr} {od_18 an_18 : Option Addr} {sl_18 : Array (Option Value)} {oc_18 kV_18 dc_18 pm_18 cd_18 ct_18 : Value} {f_19 : Addr} {od_19 an_19 : Option Addr} {sl_19 : Array (Option Value)} {oc_19 kV_19 dc_19 pm_19 cd_19 ct_19 : Value} {f_20 : Addr} {od_20 an_20 : Option Addr} {sl_20 : Array (Option Value)} {oc_20 kV_20 dc_20 pm_20 cd_20 ct_20 : Value} {f_21 : Addr} {od_21 an_21 : Option Addr} {sl_21 : Array (Option Value)} {oc_21 kV_21 dc_21 pm_21 cd_21 ct_21 : Value} {f_22 : Addr} {od_22 an_22 : Option Addr} {sl_22 : Array (Option Value)} {oc_22 kV_22 dc_22 pm_22 cd_22 ct_22 : Value} {f_23 : Addr} {od_23 an_23 : Option Addr} {sl_23 : Array (Option Value)} {oc_23 kV_23 dc_23 pm_23 cd_23 ct_23 : Value} {f_24 : Addr} {od_24 an_24 : Option Addr} {sl_24 : Array (Option Value)} {oc_24 kV_24 dc_24 pm_24 cd_24 ct_24 : Value} {f_25 : Addr} {od_25 an_25 : Option Addr} {sl_25 : Array (Option Value)} {oc_25 kV_25 dc_25 pm_25 cd_25 ct_25 : Value} {f_26 : Addr} {od_26 an_26 : Option Addr} {sl_26 : Array (Option Value)} {oc_26 kV_26 dc_26 pm_26 cd_26 ct_26 : Value} {f_27 : Addr} {od_27 an_27 : Option Addr} {sl_27 : Array (Option Value)} {oc_27 kV_27 dc_27 pm_27 cd_27 ct_27 : Value} {f_28 : Addr} {od_28 an_28 : Option Addr} {sl_28 : Array (Option Value)} {oc_28 kV_28 dc_28 pm_28 cd_28 ct_28 : Value} {f_29 : Addr} {od_29 an_29 : Option Addr} {sl_29 : Array (Option Value)} {oc_29 kV_29 dc_29 pm_29 cd_29 ct_29 : Value} {f_30 : Addr} {od_30 an_30 : Option Addr} {sl_30 : Array (Option Value)} {oc_30 kV_30 dc_30 pm_30 cd_30 ct_30 : Value} {f_31 : Addr} {od_31 an_31 : Option Addr} {sl_31 : Array (Option Value)} {oc_31 kV_31 dc_31 pm_31 cd_31 ct_31 : Value} {f_32 : Addr} {od_32 an_32 : Option Addr} {sl_32 : Array (Option Value)} {oc_32 kV_32 dc_32 pm_32 cd_32 ct_32 : Value} {f_33 : Addr} {od_33 an_33 : Option Addr} {sl_33 : Array (Option Value)} {oc_33 kV_33 dc_33 pm_33 cd_33 ct_33 : Value} {f_34 : Addr} {od_34 an_34 : Option Addr} {sl_34 : Array (Option Value)} {oc_34 kV_34 dc_34 pm_34 cd_34 ct_34 : Value} {f_35 : Addr} {od_35 an_35 : Option Addr} {sl_35 : Array (Option Value)} {oc_35 kV_35 dc_35 pm_35 cd_35 ct_35 : Value} {f_36 : Addr} {od_36 an_36 : Option Addr} {sl_36 : Array (Option Value)} {oc_36 kV_36 dc_36 pm_36 cd_36 ct_36 : Value} {f_37 : Addr} {od_37 an_37 : Option Addr} {sl_37 : Array (Option Value)} {oc_37 kV_37 dc_37 pm_37 cd_37 ct_37 : Value} {f_38 : Addr} {od_38 an_38 : Option Addr} {sl_38 : Array (Option Value)} {oc_38 kV_38 dc_38 pm_38 cd_38 ct_38 : Value} {f_39 : Addr} {od_39 an_39 : Option Addr} {sl_39 : Array (Option Value)} {oc_39 kV_39 dc_39 pm_39 cd_39 ct_39 : Value} {f_40 : Addr} {od_40 an_40 : Option Addr} {sl_40 : Array (Option Value)} {oc_40 kV_40 dc_40 pm_40 cd_40 ct_40 : Value} {f_41 : Addr} {od_41 an_41 : Option Addr} {sl_41 : Array (Option Value)} {oc_41 kV_41 dc_41 pm_41 cd_41 ct_41 : Value} {E_NoPrime : Addr} {bm_NoPrime : List Value} {nid_NoPrime : String} {ini_NoPrime B_NoPrime : String} {E_NoRing : Addr} {bm_NoRing : List Value} {nid_NoRing : String} {ini_NoRing B_NoRing : String} {tg_GREATEST_PRIME : Tok} {tg_LETTERS : Tok}
    (a_Ring : PySem.W.nsIn K mainGlobals "Ring" = some (some (.ref C_Ring)))
    (pg_Ring : PySem.W.plainGet K C_Ring Str.empty = true)
    (hd_Ring : PySem.W.hasDictIn K C_Ring = true)
    (po_Ring : PySem.W.plainOver K C_Ring = true)
    (sa_Ring : PySem.W.findIn K (.ref C_Ring) "__setattr__" = some (some (.builtin "object.__setattr__")))
    (mk_Ring : PySem.W.makesIn K C_Ring = true)
    (kc_Ring : PySem.W.keepIn K (.ref C_Ring) = true)
    (na_Ring_many : PySem.W.findIn K (.ref C_Ring) "many" = some none)
    (na_Ring_field : PySem.W.findIn K (.ref C_Ring) "field" = some none)
    (na_Ring_order : PySem.W.findIn K (.ref C_Ring) "order" = some none)
    (a_Fractions : PySem.W.nsIn K mainGlobals "Fractions" = some (some (.ref C_Fractions)))
    (pg_Fractions : PySem.W.plainGet K C_Fractions Str.empty = true)
    (hd_Fractions : PySem.W.hasDictIn K C_Fractions = true)
    (po_Fractions : PySem.W.plainOver K C_Fractions = true)
    (sa_Fractions : PySem.W.findIn K (.ref C_Fractions) "__setattr__" = some (some (.builtin "object.__setattr__")))
    (mk_Fractions : PySem.W.makesIn K C_Fractions = true)
    (kc_Fractions : PySem.W.keepIn K (.ref C_Fractions) = true)
    (na_Fractions_prime : PySem.W.findIn K (.ref C_Fractions) "prime" = some none)
    (a_Rests : PySem.W.nsIn K mainGlobals "Rests" = some (some (.ref C_Rests)))
    (pg_Rests : PySem.W.plainGet K C_Rests Str.empty = true)
    (hd_Rests : PySem.W.hasDictIn K C_Rests = true)
    (po_Rests : PySem.W.plainOver K C_Rests = true)
    (sa_Rests : PySem.W.findIn K (.ref C_Rests) "__setattr__" = some (some (.builtin "object.__setattr__")))
    (mk_Rests : PySem.W.makesIn K C_Rests = true)
    (kc_Rests : PySem.W.keepIn K (.ref C_Rests) = true)
    (na_Rests_prime : PySem.W.findIn K (.ref C_Rests) "prime" = some none)
    (a_Tails : PySem.W.nsIn K mainGlobals "Tails" = some (some (.ref C_Tails)))
    (pg_Tails : PySem.W.plainGet K C_Tails Str.empty = true)
    (hd_Tails : PySem.W.hasDictIn K C_Tails = true)
    (po_Tails : PySem.W.plainOver K C_Tails = true)
    (sa_Tails : PySem.W.findIn K (.ref C_Tails) "__setattr__" = some (some (.builtin "object.__setattr__")))
    (mk_Tails : PySem.W.makesIn K C_Tails = true)
    (in_Tails : PySem.W.findIn K (.ref C_Tails) "__init__" = some (some (.builtin "object.__init__")))
    (kc_Tails : PySem.W.keepIn K (.ref C_Tails) = true)
    (a_0 : PySem.W.nsIn K mainGlobals "shared_divisor" = some (some (.ref f_0)))
    (l_0 : K.lookup f_0 = some ⟨oc_0, od_0, .func (PySem.W.fnOf "shared_divisor" "shared_divisor" (defArgs s_shared_divisor) (defBody s_shared_divisor) (defScope s_shared_divisor) .none kV_0 dc_0 pm_0 an_0 cd_0 ct_0), sl_0⟩)
    (c_0 : PySem.W.codeIn K cd_0 "shared_divisor" = true)
    (k_0 : PySem.W.keepIn K (.ref f_0) = true)
    (a_1 : PySem.W.nsIn K mainGlobals "is_prime" = some (some (.ref f_1)))
    (l_1 : K.lookup f_1 = some ⟨oc_1, od_1, .func (PySem.W.fnOf "is_prime" "is_prime" (defArgs s_is_prime) (defBody s_is_prime) (defScope s_is_prime) .none kV_1 dc_1 pm_1 an_1 cd_1 ct_1), sl_1⟩)
    (c_1 : PySem.W.codeIn K cd_1 "is_prime" = true)
    (k_1 : PySem.W.keepIn K (.ref f_1) = true)
    (aq_2 : PySem.W.nsIn K mainGlobals "Field" = some (some (.ref Cq_2)))
    (rq_2 : PySem.W.readsIn K Cq_2 (.type "type") = true)
    (fq_2 : PySem.W.findCls K (.ref Cq_2) (.type "type") "__init__" = some (.val (.ref f_2)))
    (sq_2 : PySem.W.specialIn K (.ref Cq_2) "__getattribute__" = some (some (.builtin "type.__getattribute__")))
    (i_2 : PySem.W.isFn K (.ref f_2) = true)
    (l_2 : K.lookup f_2 = some ⟨oc_2, od_2, .func (PySem.W.fnOf "__init__" "Field.__init__" (defArgs s_Field___init__) (defBody s_Field___init__) (defScope s_Field___init__) .none kV_2 dc_2 pm_2 an_2 cd_2 ct_2), sl_2⟩)
    (c_2 : PySem.W.codeIn K cd_2 "Field.__init__" = true)
    (k_2 : PySem.W.keepIn K (.ref f_2) = true)
    (a_3_Fractions : PySem.W.findIn K (.ref C_Fractions) "__init__" = some (some (.ref f_3)))
    (i_3 : PySem.W.isFn K (.ref f_3) = true)
    (l_3 : K.lookup f_3 = some ⟨oc_3, od_3, .func (PySem.W.fnOf "__init__" "Fractions.__init__" (defArgs s_Fractions___init__) (defBody s_Fractions___init__) (defScope s_Fractions___init__) .none kV_3 dc_3 pm_3 an_3 cd_3 ct_3), sl_3⟩)
    (c_3 : PySem.W.codeIn K cd_3 "Fractions.__init__" = true)
    (k_3 : PySem.W.keepIn K (.ref f_3) = true)
    (a_4_Fractions : PySem.W.findIn K (.ref C_Fractions) "nought" = some (some (.ref f_4)))
    (i_4 : PySem.W.isFn K (.ref f_4) = true)
    (l_4 : K.lookup f_4 = some ⟨oc_4, od_4, .func (PySem.W.fnOf "nought" "Fractions.nought" (defArgs s_Fractions_nought) (defBody s_Fractions_nought) (defScope s_Fractions_nought) .none kV_4 dc_4 pm_4 an_4 cd_4 ct_4), sl_4⟩)
    (c_4 : PySem.W.codeIn K cd_4 "Fractions.nought" = true)
    (k_4 : PySem.W.keepIn K (.ref f_4) = true)
    (a_5_Fractions : PySem.W.findIn K (.ref C_Fractions) "one" = some (some (.ref f_5)))
    (i_5 : PySem.W.isFn K (.ref f_5) = true)
    (l_5 : K.lookup f_5 = some ⟨oc_5, od_5, .func (PySem.W.fnOf "one" "Fractions.one" (defArgs s_Fractions_one) (defBody s_Fractions_one) (defScope s_Fractions_one) .none kV_5 dc_5 pm_5 an_5 cd_5 ct_5), sl_5⟩)
    (c_5 : PySem.W.codeIn K cd_5 "Fractions.one" = true)
    (k_5 : PySem.W.keepIn K (.ref f_5) = true)
    (a_6_Fractions : PySem.W.findIn K (.ref C_Fractions) "plus" = some (some (.ref f_6)))
    (i_6 : PySem.W.isFn K (.ref f_6) = true)
    (l_6 : K.lookup f_6 = some ⟨oc_6, od_6, .func (PySem.W.fnOf "plus" "Fractions.plus" (defArgs s_Fractions_plus) (defBody s_Fractions_plus) (defScope s_Fractions_plus) .none kV_6 dc_6 pm_6 an_6 cd_6 ct_6), sl_6⟩)
    (c_6 : PySem.W.codeIn K cd_6 "Fractions.plus" = true)
    (k_6 : PySem.W.keepIn K (.ref f_6) = true)
    (a_7_Fractions : PySem.W.findIn K (.ref C_Fractions) "times" = some (some (.ref f_7)))
    (i_7 : PySem.W.isFn K (.ref f_7) = true)
    (l_7 : K.lookup f_7 = some ⟨oc_7, od_7, .func (PySem.W.fnOf "times" "Fractions.times" (defArgs s_Fractions_times) (defBody s_Fractions_times) (defScope s_Fractions_times) .none kV_7 dc_7 pm_7 an_7 cd_7 ct_7), sl_7⟩)
    (c_7 : PySem.W.codeIn K cd_7 "Fractions.times" = true)
    (k_7 : PySem.W.keepIn K (.ref f_7) = true)
    (a_8_Fractions : PySem.W.findIn K (.ref C_Fractions) "against" = some (some (.ref f_8)))
    (i_8 : PySem.W.isFn K (.ref f_8) = true)
    (l_8 : K.lookup f_8 = some ⟨oc_8, od_8, .func (PySem.W.fnOf "against" "Fractions.against" (defArgs s_Fractions_against) (defBody s_Fractions_against) (defScope s_Fractions_against) .none kV_8 dc_8 pm_8 an_8 cd_8 ct_8), sl_8⟩)
    (c_8 : PySem.W.codeIn K cd_8 "Fractions.against" = true)
    (k_8 : PySem.W.keepIn K (.ref f_8) = true)
    (a_9_Rests : PySem.W.findIn K (.ref C_Rests) "__init__" = some (some (.ref f_9)))
    (i_9 : PySem.W.isFn K (.ref f_9) = true)
    (l_9 : K.lookup f_9 = some ⟨oc_9, od_9, .func (PySem.W.fnOf "__init__" "Rests.__init__" (defArgs s_Rests___init__) (defBody s_Rests___init__) (defScope s_Rests___init__) .none kV_9 dc_9 pm_9 an_9 cd_9 ct_9), sl_9⟩)
    (c_9 : PySem.W.codeIn K cd_9 "Rests.__init__" = true)
    (k_9 : PySem.W.keepIn K (.ref f_9) = true)
    (a_10_Rests : PySem.W.findIn K (.ref C_Rests) "nought" = some (some (.ref f_10)))
    (i_10 : PySem.W.isFn K (.ref f_10) = true)
    (l_10 : K.lookup f_10 = some ⟨oc_10, od_10, .func (PySem.W.fnOf "nought" "Rests.nought" (defArgs s_Rests_nought) (defBody s_Rests_nought) (defScope s_Rests_nought) .none kV_10 dc_10 pm_10 an_10 cd_10 ct_10), sl_10⟩)
    (c_10 : PySem.W.codeIn K cd_10 "Rests.nought" = true)
    (k_10 : PySem.W.keepIn K (.ref f_10) = true)
    (a_11_Rests : PySem.W.findIn K (.ref C_Rests) "one" = some (some (.ref f_11)))
    (i_11 : PySem.W.isFn K (.ref f_11) = true)
    (l_11 : K.lookup f_11 = some ⟨oc_11, od_11, .func (PySem.W.fnOf "one" "Rests.one" (defArgs s_Rests_one) (defBody s_Rests_one) (defScope s_Rests_one) .none kV_11 dc_11 pm_11 an_11 cd_11 ct_11), sl_11⟩)
    (c_11 : PySem.W.codeIn K cd_11 "Rests.one" = true)
    (k_11 : PySem.W.keepIn K (.ref f_11) = true)
    (a_12_Rests : PySem.W.findIn K (.ref C_Rests) "plus" = some (some (.ref f_12)))
    (i_12 : PySem.W.isFn K (.ref f_12) = true)
    (l_12 : K.lookup f_12 = some ⟨oc_12, od_12, .func (PySem.W.fnOf "plus" "Rests.plus" (defArgs s_Rests_plus) (defBody s_Rests_plus) (defScope s_Rests_plus) .none kV_12 dc_12 pm_12 an_12 cd_12 ct_12), sl_12⟩)
    (c_12 : PySem.W.codeIn K cd_12 "Rests.plus" = true)
    (k_12 : PySem.W.keepIn K (.ref f_12) = true)
    (a_13_Rests : PySem.W.findIn K (.ref C_Rests) "times" = some (some (.ref f_13)))
    (i_13 : PySem.W.isFn K (.ref f_13) = true)
    (l_13 : K.lookup f_13 = some ⟨oc_13, od_13, .func (PySem.W.fnOf "times" "Rests.times" (defArgs s_Rests_times) (defBody s_Rests_times) (defScope s_Rests_times) .none kV_13 dc_13 pm_13 an_13 cd_13 ct_13), sl_13⟩)
    (c_13 : PySem.W.codeIn K cd_13 "Rests.times" = true)
    (k_13 : PySem.W.keepIn K (.ref f_13) = true)
    (a_14_Rests : PySem.W.findIn K (.ref C_Rests) "against" = some (some (.ref f_14)))
    (i_14 : PySem.W.isFn K (.ref f_14) = true)
    (l_14 : K.lookup f_14 = some ⟨oc_14, od_14, .func (PySem.W.fnOf "against" "Rests.against" (defArgs s_Rests_against) (defBody s_Rests_against) (defScope s_Rests_against) .none kV_14 dc_14 pm_14 an_14 cd_14 ct_14), sl_14⟩)
    (c_14 : PySem.W.codeIn K cd_14 "Rests.against" = true)
    (k_14 : PySem.W.keepIn K (.ref f_14) = true)
    (a_15 : PySem.W.nsIn K mainGlobals "absorb" = some (some (.ref f_15)))
    (l_15 : K.lookup f_15 = some ⟨oc_15, od_15, .func (PySem.W.fnOf "absorb" "absorb" (defArgs s_absorb) (defBody s_absorb) (defScope s_absorb) .none kV_15 dc_15 pm_15 an_15 cd_15 ct_15), sl_15⟩)
    (c_15 : PySem.W.codeIn K cd_15 "absorb" = true)
    (k_15 : PySem.W.keepIn K (.ref f_15) = true)
    (a_16 : PySem.W.nsIn K mainGlobals "product" = some (some (.ref f_16)))
    (l_16 : K.lookup f_16 = some ⟨oc_16, od_16, .func (PySem.W.fnOf "product" "product" (defArgs s_product) (defBody s_product) (defScope s_product) .none kV_16 dc_16 pm_16 an_16 cd_16 ct_16), sl_16⟩)
    (c_16 : PySem.W.codeIn K cd_16 "product" = true)
    (k_16 : PySem.W.keepIn K (.ref f_16) = true)
    (a_17 : PySem.W.nsIn K mainGlobals "scaled" = some (some (.ref f_17)))
    (l_17 : K.lookup f_17 = some ⟨oc_17, od_17, .func (PySem.W.fnOf "scaled" "scaled" (defArgs s_scaled) (defBody s_scaled) (defScope s_scaled) .none kV_17 dc_17 pm_17 an_17 cd_17 ct_17), sl_17⟩)
    (c_17 : PySem.W.codeIn K cd_17 "scaled" = true)
    (k_17 : PySem.W.keepIn K (.ref f_17) = true)
    (a_18 : PySem.W.nsIn K mainGlobals "negated" = some (some (.ref f_18)))
    (l_18 : K.lookup f_18 = some ⟨oc_18, od_18, .func (PySem.W.fnOf "negated" "negated" (defArgs s_negated) (defBody s_negated) (defScope s_negated) .none kV_18 dc_18 pm_18 an_18 cd_18 ct_18), sl_18⟩)
    (c_18 : PySem.W.codeIn K cd_18 "negated" = true)
    (k_18 : PySem.W.keepIn K (.ref f_18) = true)
    (a_19 : PySem.W.nsIn K mainGlobals "plus" = some (some (.ref f_19)))
    (l_19 : K.lookup f_19 = some ⟨oc_19, od_19, .func (PySem.W.fnOf "plus" "plus" (defArgs s_plus) (defBody s_plus) (defScope s_plus) .none kV_19 dc_19 pm_19 an_19 cd_19 ct_19), sl_19⟩)
    (c_19 : PySem.W.codeIn K cd_19 "plus" = true)
    (k_19 : PySem.W.keepIn K (.ref f_19) = true)
    (a_20 : PySem.W.nsIn K mainGlobals "minus" = some (some (.ref f_20)))
    (l_20 : K.lookup f_20 = some ⟨oc_20, od_20, .func (PySem.W.fnOf "minus" "minus" (defArgs s_minus) (defBody s_minus) (defScope s_minus) .none kV_20 dc_20 pm_20 an_20 cd_20 ct_20), sl_20⟩)
    (c_20 : PySem.W.codeIn K cd_20 "minus" = true)
    (k_20 : PySem.W.keepIn K (.ref f_20) = true)
    (a_21 : PySem.W.nsIn K mainGlobals "times" = some (some (.ref f_21)))
    (l_21 : K.lookup f_21 = some ⟨oc_21, od_21, .func (PySem.W.fnOf "times" "times" (defArgs s_times) (defBody s_times) (defScope s_times) .none kV_21 dc_21 pm_21 an_21 cd_21 ct_21), sl_21⟩)
    (c_21 : PySem.W.codeIn K cd_21 "times" = true)
    (k_21 : PySem.W.keepIn K (.ref f_21) = true)
    (a_22 : PySem.W.nsIn K mainGlobals "greatest_power" = some (some (.ref f_22)))
    (l_22 : K.lookup f_22 = some ⟨oc_22, od_22, .func (PySem.W.fnOf "greatest_power" "greatest_power" (defArgs s_greatest_power) (defBody s_greatest_power) (defScope s_greatest_power) .none kV_22 dc_22 pm_22 an_22 cd_22 ct_22), sl_22⟩)
    (c_22 : PySem.W.codeIn K cd_22 "greatest_power" = true)
    (k_22 : PySem.W.keepIn K (.ref f_22) = true)
    (a_23 : PySem.W.nsIn K mainGlobals "reach" = some (some (.ref f_23)))
    (l_23 : K.lookup f_23 = some ⟨oc_23, od_23, .func (PySem.W.fnOf "reach" "reach" (defArgs s_reach) (defBody s_reach) (defScope s_reach) .none kV_23 dc_23 pm_23 an_23 cd_23 ct_23), sl_23⟩)
    (c_23 : PySem.W.codeIn K cd_23 "reach" = true)
    (k_23 : PySem.W.keepIn K (.ref f_23) = true)
    (a_24 : PySem.W.nsIn K mainGlobals "powers_of" = some (some (.ref f_24)))
    (l_24 : K.lookup f_24 = some ⟨oc_24, od_24, .func (PySem.W.fnOf "powers_of" "powers_of" (defArgs s_powers_of) (defBody s_powers_of) (defScope s_powers_of) .none kV_24 dc_24 pm_24 an_24 cd_24 ct_24), sl_24⟩)
    (c_24 : PySem.W.codeIn K cd_24 "powers_of" = true)
    (k_24 : PySem.W.keepIn K (.ref f_24) = true)
    (a_25 : PySem.W.nsIn K mainGlobals "summed" = some (some (.ref f_25)))
    (l_25 : K.lookup f_25 = some ⟨oc_25, od_25, .func (PySem.W.fnOf "summed" "summed" (defArgs s_summed) (defBody s_summed) (defScope s_summed) .none kV_25 dc_25 pm_25 an_25 cd_25 ct_25), sl_25⟩)
    (c_25 : PySem.W.codeIn K cd_25 "summed" = true)
    (k_25 : PySem.W.keepIn K (.ref f_25) = true)
    (a_26 : PySem.W.nsIn K mainGlobals "value" = some (some (.ref f_26)))
    (l_26 : K.lookup f_26 = some ⟨oc_26, od_26, .func (PySem.W.fnOf "value" "value" (defArgs s_value) (defBody s_value) (defScope s_value) .none kV_26 dc_26 pm_26 an_26 cd_26 ct_26), sl_26⟩)
    (c_26 : PySem.W.codeIn K cd_26 "value" = true)
    (k_26 : PySem.W.keepIn K (.ref f_26) = true)
    (a_27 : PySem.W.nsIn K mainGlobals "_law_cell" = some (some (.ref f_27)))
    (l_27 : K.lookup f_27 = some ⟨oc_27, od_27, .func (PySem.W.fnOf "_law_cell" "_law_cell" (defArgs s__law_cell) (defBody s__law_cell) (defScope s__law_cell) .none kV_27 dc_27 pm_27 an_27 cd_27 ct_27), sl_27⟩)
    (c_27 : PySem.W.codeIn K cd_27 "_law_cell" = true)
    (k_27 : PySem.W.keepIn K (.ref f_27) = true)
    (a_28 : PySem.W.nsIn K mainGlobals "_law_shared" = some (some (.ref f_28)))
    (l_28 : K.lookup f_28 = some ⟨oc_28, od_28, .func (PySem.W.fnOf "_law_shared" "_law_shared" (defArgs s__law_shared) (defBody s__law_shared) (defScope s__law_shared) .none kV_28 dc_28 pm_28 an_28 cd_28 ct_28), sl_28⟩)
    (c_28 : PySem.W.codeIn K cd_28 "_law_shared" = true)
    (k_28 : PySem.W.keepIn K (.ref f_28) = true)
    (a_29 : PySem.W.nsIn K mainGlobals "_law_is_prime" = some (some (.ref f_29)))
    (l_29 : K.lookup f_29 = some ⟨oc_29, od_29, .func (PySem.W.fnOf "_law_is_prime" "_law_is_prime" (defArgs s__law_is_prime) (defBody s__law_is_prime) (defScope s__law_is_prime) .none kV_29 dc_29 pm_29 an_29 cd_29 ct_29), sl_29⟩)
    (c_29 : PySem.W.codeIn K cd_29 "_law_is_prime" = true)
    (k_29 : PySem.W.keepIn K (.ref f_29) = true)
    (a_30 : PySem.W.nsIn K mainGlobals "_law_prime" = some (some (.ref f_30)))
    (l_30 : K.lookup f_30 = some ⟨oc_30, od_30, .func (PySem.W.fnOf "_law_prime" "_law_prime" (defArgs s__law_prime) (defBody s__law_prime) (defScope s__law_prime) .none kV_30 dc_30 pm_30 an_30 cd_30 ct_30), sl_30⟩)
    (c_30 : PySem.W.codeIn K cd_30 "_law_prime" = true)
    (k_30 : PySem.W.keepIn K (.ref f_30) = true)
    (a_31 : PySem.W.nsIn K mainGlobals "_law_made" = some (some (.ref f_31)))
    (l_31 : K.lookup f_31 = some ⟨oc_31, od_31, .func (PySem.W.fnOf "_law_made" "_law_made" (defArgs s__law_made) (defBody s__law_made) (defScope s__law_made) .none kV_31 dc_31 pm_31 an_31 cd_31 ct_31), sl_31⟩)
    (c_31 : PySem.W.codeIn K cd_31 "_law_made" = true)
    (k_31 : PySem.W.keepIn K (.ref f_31) = true)
    (a_32 : PySem.W.nsIn K mainGlobals "_law_poly" = some (some (.ref f_32)))
    (l_32 : K.lookup f_32 = some ⟨oc_32, od_32, .func (PySem.W.fnOf "_law_poly" "_law_poly" (defArgs s__law_poly) (defBody s__law_poly) (defScope s__law_poly) .none kV_32 dc_32 pm_32 an_32 cd_32 ct_32), sl_32⟩)
    (c_32 : PySem.W.codeIn K cd_32 "_law_poly" = true)
    (k_32 : PySem.W.keepIn K (.ref f_32) = true)
    (a_33 : PySem.W.nsIn K mainGlobals "_law_whole_power" = some (some (.ref f_33)))
    (l_33 : K.lookup f_33 = some ⟨oc_33, od_33, .func (PySem.W.fnOf "_law_whole_power" "_law_whole_power" (defArgs s__law_whole_power) (defBody s__law_whole_power) (defScope s__law_whole_power) .none kV_33 dc_33 pm_33 an_33 cd_33 ct_33), sl_33⟩)
    (c_33 : PySem.W.codeIn K cd_33 "_law_whole_power" = true)
    (k_33 : PySem.W.keepIn K (.ref f_33) = true)
    (a_34 : PySem.W.nsIn K mainGlobals "_law_at" = some (some (.ref f_34)))
    (l_34 : K.lookup f_34 = some ⟨oc_34, od_34, .func (PySem.W.fnOf "_law_at" "_law_at" (defArgs s__law_at) (defBody s__law_at) (defScope s__law_at) .none kV_34 dc_34 pm_34 an_34 cd_34 ct_34), sl_34⟩)
    (c_34 : PySem.W.codeIn K cd_34 "_law_at" = true)
    (k_34 : PySem.W.keepIn K (.ref f_34) = true)
    (a_35 : PySem.W.nsIn K mainGlobals "_law_same" = some (some (.ref f_35)))
    (l_35 : K.lookup f_35 = some ⟨oc_35, od_35, .func (PySem.W.fnOf "_law_same" "_law_same" (defArgs s__law_same) (defBody s__law_same) (defScope s__law_same) .none kV_35 dc_35 pm_35 an_35 cd_35 ct_35), sl_35⟩)
    (c_35 : PySem.W.codeIn K cd_35 "_law_same" = true)
    (k_35 : PySem.W.keepIn K (.ref f_35) = true)
    (a_36 : PySem.W.nsIn K mainGlobals "_law_agrees" = some (some (.ref f_36)))
    (l_36 : K.lookup f_36 = some ⟨oc_36, od_36, .func (PySem.W.fnOf "_law_agrees" "_law_agrees" (defArgs s__law_agrees) (defBody s__law_agrees) (defScope s__law_agrees) .none kV_36 dc_36 pm_36 an_36 cd_36 ct_36), sl_36⟩)
    (c_36 : PySem.W.codeIn K cd_36 "_law_agrees" = true)
    (k_36 : PySem.W.keepIn K (.ref f_36) = true)
    (a_37 : PySem.W.nsIn K mainGlobals "_law_far_agrees" = some (some (.ref f_37)))
    (l_37 : K.lookup f_37 = some ⟨oc_37, od_37, .func (PySem.W.fnOf "_law_far_agrees" "_law_far_agrees" (defArgs s__law_far_agrees) (defBody s__law_far_agrees) (defScope s__law_far_agrees) .none kV_37 dc_37 pm_37 an_37 cd_37 ct_37), sl_37⟩)
    (c_37 : PySem.W.codeIn K cd_37 "_law_far_agrees" = true)
    (k_37 : PySem.W.keepIn K (.ref f_37) = true)
    (a_38 : PySem.W.nsIn K mainGlobals "_law_spot" = some (some (.ref f_38)))
    (l_38 : K.lookup f_38 = some ⟨oc_38, od_38, .func (PySem.W.fnOf "_law_spot" "_law_spot" (defArgs s__law_spot) (defBody s__law_spot) (defScope s__law_spot) .none kV_38 dc_38 pm_38 an_38 cd_38 ct_38), sl_38⟩)
    (c_38 : PySem.W.codeIn K cd_38 "_law_spot" = true)
    (k_38 : PySem.W.keepIn K (.ref f_38) = true)
    (a_39_Tails : PySem.W.findIn K (.ref C_Tails) "fits" = some (some (.ref f_39)))
    (i_39 : PySem.W.isFn K (.ref f_39) = true)
    (l_39 : K.lookup f_39 = some ⟨oc_39, od_39, .func (PySem.W.fnOf "fits" "Order.fits" (defArgs s_Order_fits) (defBody s_Order_fits) (defScope s_Order_fits) .none kV_39 dc_39 pm_39 an_39 cd_39 ct_39), sl_39⟩)
    (c_39 : PySem.W.codeIn K cd_39 "Order.fits" = true)
    (k_39 : PySem.W.keepIn K (.ref f_39) = true)
    (a_40_Ring : PySem.W.findIn K (.ref C_Ring) "__init__" = some (some (.ref f_40)))
    (i_40 : PySem.W.isFn K (.ref f_40) = true)
    (l_40 : K.lookup f_40 = some ⟨oc_40, od_40, .func (PySem.W.fnOf "__init__" "Ring.__init__" (defArgs s_Ring___init__) (defBody s_Ring___init__) (defScope s_Ring___init__) .none kV_40 dc_40 pm_40 an_40 cd_40 ct_40), sl_40⟩)
    (c_40 : PySem.W.codeIn K cd_40 "Ring.__init__" = true)
    (k_40 : PySem.W.keepIn K (.ref f_40) = true)
    (a_41 : PySem.W.nsIn K mainGlobals "law" = some (some (.ref f_41)))
    (l_41 : K.lookup f_41 = some ⟨oc_41, od_41, .func (PySem.W.fnOf "law" "law" (defArgs s_law) (defBody s_law) (defScope s_law) .none kV_41 dc_41 pm_41 an_41 cd_41 ct_41), sl_41⟩)
    (c_41 : PySem.W.codeIn K cd_41 "law" = true)
    (k_41 : PySem.W.keepIn K (.ref f_41) = true)
    (a_NoPrime : PySem.W.nsIn K mainGlobals "NoPrime" = some (some (.ref E_NoPrime)))
    (FB_NoPrime : ExcBaseFacts B_NoPrime nid_NoPrime ini_NoPrime bm_NoPrime)
    (xE_NoPrime : PySem.W.excIn K E_NoPrime bm_NoPrime nid_NoPrime = true)
    (xm_NoPrime : PySem.W.exmOne K (.ref E_NoPrime) (.ref E_NoPrime) = some true)
    (a_NoRing : PySem.W.nsIn K mainGlobals "NoRing" = some (some (.ref E_NoRing)))
    (FB_NoRing : ExcBaseFacts B_NoRing nid_NoRing ini_NoRing bm_NoRing)
    (xE_NoRing : PySem.W.excIn K E_NoRing bm_NoRing nid_NoRing = true)
    (xm_NoRing : PySem.W.exmOne K (.ref E_NoRing) (.ref E_NoRing) = some true)
    (q_kii : PySem.W.kitOne K (.type "int") (.type "int") = some true)
    (q_ktt : PySem.W.kitOne K (.type "tuple") (.type "tuple") = some true)
    (z_abs : PySem.W.nsIn K mainGlobals "abs" = some none)
    (z_dict : PySem.W.nsIn K mainGlobals "dict" = some none)
    (z_int : PySem.W.nsIn K mainGlobals "int" = some none)
    (z_isinstance : PySem.W.nsIn K mainGlobals "isinstance" = some none)
    (z_len : PySem.W.nsIn K mainGlobals "len" = some none)
    (z_list : PySem.W.nsIn K mainGlobals "list" = some none)
    (z_max : PySem.W.nsIn K mainGlobals "max" = some none)
    (z_range : PySem.W.nsIn K mainGlobals "range" = some none)
    (z_sum : PySem.W.nsIn K mainGlobals "sum" = some none)
    (z_tuple : PySem.W.nsIn K mainGlobals "tuple" = some none)
    (z_zip : PySem.W.nsIn K mainGlobals "zip" = some none)
    (g_GREATEST_PRIME : PySem.W.nsIn K mainGlobals "GREATEST_PRIME" = some (some (.int 9973 tg_GREATEST_PRIME)))
    (g_LETTERS : PySem.W.nsIn K mainGlobals "LETTERS" = some (some (.str "xyzt" tg_LETTERS)))
    : ∃ fd : FuncData, (∀ (s : Shared) (v : Value), BindsTo s fd ⟨[v], []⟩ [("_law_script", v)]) ∧ ∀ base : Heap, K.In base → base.Ns mainGlobals mg → FnOk l.prog w K mg base CX0 9 fa fd ["_law_script"] (spLaw K) := by
  have e := hfa.symm.trans (PySem.W.mg_of X G a_41)
  cases e
  have T : Txt K mg C_Ring C_Fractions C_Rests C_Tails := ⟨PySem.W.mg_none_of X G z_abs, PySem.W.mg_none_of X G z_dict, PySem.W.mg_none_of X G z_int, PySem.W.mg_none_of X G z_isinstance, PySem.W.mg_none_of X G z_len, PySem.W.mg_none_of X G z_list, PySem.W.mg_none_of X G z_max, PySem.W.mg_none_of X G z_range, PySem.W.mg_none_of X G z_sum, PySem.W.mg_none_of X G z_tuple, PySem.W.mg_none_of X G z_zip, ⟨pg_Ring, hd_Ring, po_Ring, sa_Ring⟩, PySem.W.mg_of X G a_Ring, na_Ring_many, na_Ring_field, na_Ring_order, ⟨pg_Fractions, hd_Fractions, po_Fractions, sa_Fractions⟩, PySem.W.mg_of X G a_Fractions, na_Fractions_prime, ⟨pg_Rests, hd_Rests, po_Rests, sa_Rests⟩, PySem.W.mg_of X G a_Rests, na_Rests_prime, ⟨pg_Tails, hd_Tails, po_Tails, sa_Tails⟩, PySem.W.mg_of X G a_Tails, ⟨mk_Tails, in_Tails, kc_Tails⟩, ⟨_, PySem.W.mg_of X G g_GREATEST_PRIME⟩, ⟨_, PySem.W.mg_of X G g_LETTERS⟩, q_kii, q_ktt⟩
  have F_0 := funD_mk (st := s_shared_divisor) l_0 c_0
  have b_0 := F_0.binds (ps := ["one", "other"]) fun _ _ _ _ _ _ us hl => match us, hl with | [_, _], _ => rfl
  have F_1 := funD_mk (st := s_is_prime) l_1 c_1
  have b_1 := F_1.binds (ps := ["number"]) fun _ _ _ _ _ _ us hl => match us, hl with | [_], _ => rfl
  have F_2 := funD_mk (st := s_Field___init__) l_2 c_2
  have b_2 := F_2.binds (ps := ["self", "prime"]) fun _ _ _ _ _ _ us hl => match us, hl with | [_, _], _ => rfl
  have F_3 := funD_mk (st := s_Fractions___init__) l_3 c_3
  have b_3 := F_3.binds (ps := ["self"]) fun _ _ _ _ _ _ us hl => match us, hl with | [_], _ => rfl
  have F_4 := funD_mk (st := s_Fractions_nought) l_4 c_4
  have b_4 := F_4.binds (ps := ["self"]) fun _ _ _ _ _ _ us hl => match us, hl with | [_], _ => rfl
  have F_5 := funD_mk (st := s_Fractions_one) l_5 c_5
  have b_5 := F_5.binds (ps := ["self"]) fun _ _ _ _ _ _ us hl => match us, hl with | [_], _ => rfl
  have F_6 := funD_mk (st := s_Fractions_plus) l_6 c_6
  have b_6 := F_6.binds (ps := ["self", "a", "b"]) fun _ _ _ _ _ _ us hl => match us, hl with | [_, _, _], _ => rfl
  have F_7 := funD_mk (st := s_Fractions_times) l_7 c_7
  have b_7 := F_7.binds (ps := ["self", "a", "b"]) fun _ _ _ _ _ _ us hl => match us, hl with | [_, _, _], _ => rfl
  have F_8 := funD_mk (st := s_Fractions_against) l_8 c_8
  have b_8 := F_8.binds (ps := ["self", "a"]) fun _ _ _ _ _ _ us hl => match us, hl with | [_, _], _ => rfl
  have F_9 := funD_mk (st := s_Rests___init__) l_9 c_9
  have b_9 := F_9.binds (ps := ["self", "prime"]) fun _ _ _ _ _ _ us hl => match us, hl with | [_, _], _ => rfl
  have F_10 := funD_mk (st := s_Rests_nought) l_10 c_10
  have b_10 := F_10.binds (ps := ["self"]) fun _ _ _ _ _ _ us hl => match us, hl with | [_], _ => rfl
  have F_11 := funD_mk (st := s_Rests_one) l_11 c_11
  have b_11 := F_11.binds (ps := ["self"]) fun _ _ _ _ _ _ us hl => match us, hl with | [_], _ => rfl
  have F_12 := funD_mk (st := s_Rests_plus) l_12 c_12
  have b_12 := F_12.binds (ps := ["self", "a", "b"]) fun _ _ _ _ _ _ us hl => match us, hl with | [_, _, _], _ => rfl
  have F_13 := funD_mk (st := s_Rests_times) l_13 c_13
  have b_13 := F_13.binds (ps := ["self", "a", "b"]) fun _ _ _ _ _ _ us hl => match us, hl with | [_, _, _], _ => rfl
  have F_14 := funD_mk (st := s_Rests_against) l_14 c_14
  have b_14 := F_14.binds (ps := ["self", "a"]) fun _ _ _ _ _ _ us hl => match us, hl with | [_, _], _ => rfl
  have F_15 := funD_mk (st := s_absorb) l_15 c_15
  have b_15 := F_15.binds (ps := ["ring", "total", "f"]) fun _ _ _ _ _ _ us hl => match us, hl with | [_, _, _], _ => rfl
  have F_16 := funD_mk (st := s_product) l_16 c_16
  have b_16 := F_16.binds (ps := ["one", "other"]) fun _ _ _ _ _ _ us hl => match us, hl with | [_, _], _ => rfl
  have F_17 := funD_mk (st := s_scaled) l_17 c_17
  have b_17 := F_17.binds (ps := ["ring", "number", "term", "f"]) fun _ _ _ _ _ _ us hl => match us, hl with | [_, _, _, _], _ => rfl
  have F_18 := funD_mk (st := s_negated) l_18 c_18
  have b_18 := F_18.binds (ps := ["ring", "f"]) fun _ _ _ _ _ _ us hl => match us, hl with | [_, _], _ => rfl
  have F_19 := funD_mk (st := s_plus) l_19 c_19
  have b_19 := F_19.binds (ps := ["ring", "f", "g"]) fun _ _ _ _ _ _ us hl => match us, hl with | [_, _, _], _ => rfl
  have F_20 := funD_mk (st := s_minus) l_20 c_20
  have b_20 := F_20.binds (ps := ["ring", "f", "g"]) fun _ _ _ _ _ _ us hl => match us, hl with | [_, _, _], _ => rfl
  have F_21 := funD_mk (st := s_times) l_21 c_21
  have b_21 := F_21.binds (ps := ["ring", "f", "g"]) fun _ _ _ _ _ _ us hl => match us, hl with | [_, _, _], _ => rfl
  have F_22 := funD_mk (st := s_greatest_power) l_22 c_22
  have b_22 := F_22.binds (ps := ["f", "at"]) fun _ _ _ _ _ _ us hl => match us, hl with | [_, _], _ => rfl
  have F_23 := funD_mk (st := s_reach) l_23 c_23
  have b_23 := F_23.binds (ps := ["ring", "f"]) fun _ _ _ _ _ _ us hl => match us, hl with | [_, _], _ => rfl
  have F_24 := funD_mk (st := s_powers_of) l_24 c_24
  have b_24 := F_24.binds (ps := ["field", "number", "greatest"]) fun _ _ _ _ _ _ us hl => match us, hl with | [_, _, _], _ => rfl
  have F_25 := funD_mk (st := s_summed) l_25 c_25
  have b_25 := F_25.binds (ps := ["ring", "multiples", "row"]) fun _ _ _ _ _ _ us hl => match us, hl with | [_, _, _], _ => rfl
  have F_26 := funD_mk (st := s_value) l_26 c_26
  have b_26 := F_26.binds (ps := ["ring", "f", "point"]) fun _ _ _ _ _ _ us hl => match us, hl with | [_, _, _], _ => rfl
  have F_27 := funD_mk (st := s__law_cell) l_27 c_27
  have b_27 := F_27.binds (ps := ["_law_script", "_law_k"]) fun _ _ _ _ _ _ us hl => match us, hl with | [_, _], _ => rfl
  have F_28 := funD_mk (st := s__law_shared) l_28 c_28
  have b_28 := F_28.binds (ps := ["_law_a", "_law_b"]) fun _ _ _ _ _ _ us hl => match us, hl with | [_, _], _ => rfl
  have F_29 := funD_mk (st := s__law_is_prime) l_29 c_29
  have b_29 := F_29.binds (ps := ["_law_number"]) fun _ _ _ _ _ _ us hl => match us, hl with | [_], _ => rfl
  have F_30 := funD_mk (st := s__law_prime) l_30 c_30
  have b_30 := F_30.binds (ps := ["_law_cell_here"]) fun _ _ _ _ _ _ us hl => match us, hl with | [_], _ => rfl
  have F_31 := funD_mk (st := s__law_made) l_31 c_31
  have b_31 := F_31.binds (ps := ["_law_top", "_law_bottom", "_law_prime_here"]) fun _ _ _ _ _ _ us hl => match us, hl with | [_, _, _], _ => rfl
  have F_32 := funD_mk (st := s__law_poly) l_32 c_32
  have b_32 := F_32.binds (ps := ["_law_cells", "_law_many", "_law_prime_here"]) fun _ _ _ _ _ _ us hl => match us, hl with | [_, _, _], _ => rfl
  have F_33 := funD_mk (st := s__law_whole_power) l_33 c_33
  have b_33 := F_33.binds (ps := ["_law_base", "_law_power"]) fun _ _ _ _ _ _ us hl => match us, hl with | [_, _], _ => rfl
  have F_34 := funD_mk (st := s__law_at) l_34 c_34
  have b_34 := F_34.binds (ps := ["_law_f", "_law_spot_here", "_law_prime_here"]) fun _ _ _ _ _ _ us hl => match us, hl with | [_, _, _], _ => rfl
  have F_35 := funD_mk (st := s__law_same) l_35 c_35
  have b_35 := F_35.binds (ps := ["_law_found", "_law_whole", "_law_spot_here", "_law_prime_here"]) fun _ _ _ _ _ _ us hl => match us, hl with | [_, _, _, _], _ => rfl
  have F_36 := funD_mk (st := s__law_agrees) l_36 c_36
  have b_36 := F_36.binds (ps := ["_law_ring", "_law_f", "_law_whole", "_law_by", "_law_spot_here", "_law_prime_here"]) fun _ _ _ _ _ _ us hl => match us, hl with | [_, _, _, _, _, _], _ => rfl
  have F_37 := funD_mk (st := s__law_far_agrees) l_37 c_37
  have b_37 := F_37.binds (ps := ["_law_ring", "_law_cell_here", "_law_spot_here", "_law_prime_here"]) fun _ _ _ _ _ _ us hl => match us, hl with | [_, _, _, _], _ => rfl
  have F_38 := funD_mk (st := s__law_spot) l_38 c_38
  have b_38 := F_38.binds (ps := ["_law_cell_here", "_law_many", "_law_prime_here"]) fun _ _ _ _ _ _ us hl => match us, hl with | [_, _, _], _ => rfl
  have F_39 := funD_mk (st := s_Order_fits) l_39 c_39
  have b_39 := F_39.binds (ps := ["self", "many"]) fun _ _ _ _ _ _ us hl => match us, hl with | [_, _], _ => rfl
  have F_40 := funD_mk (st := s_Ring___init__) l_40 c_40
  have b_40 := F_40.binds (ps := ["self", "many", "field", "order"]) fun _ _ _ _ _ _ us hl => match us, hl with | [_, _, _, _], _ => rfl
  have F_41 := funD_mk (st := s_law) l_41 c_41
  have b_41 := F_41.binds (ps := ["_law_script"]) fun _ _ _ _ _ _ us hl => match us, hl with | [_], _ => rfl
  refine ⟨PySem.W.fnOf "law" "law" (defArgs s_law) (defBody s_law) (defScope s_law) .none kV_41 dc_41 pm_41 an_41 cd_41 ct_41, fun s v => .of_eq rfl, fun base kb nb => ?_⟩
  have x_NoPrime : Exc K mg base "NoPrime" E_NoPrime := ⟨⟨_, _, _, _, own_in kb nb a_NoPrime xE_NoPrime, FB_NoPrime⟩, PySem.W.mg_of X G a_NoPrime, xm_NoPrime⟩
  have x_NoRing : Exc K mg base "NoRing" E_NoRing := ⟨⟨_, _, _, _, own_in kb nb a_NoRing xE_NoRing, FB_NoRing⟩, PySem.W.mg_of X G a_NoRing, xm_NoRing⟩
  have G_Shared := ok_Shared (P := l.prog) (w := w) (base := base) F_0 T  
  have c_Shared : Cal _ _ _ _ _ _ _ _ _ _ _ := ⟨_, _, G_Shared, b_0, k_0, PySem.W.mg_of X G a_0⟩
  have G_Prime := ok_Prime (P := l.prog) (w := w) (base := base) F_1 T  
  have c_Prime : Cal _ _ _ _ _ _ _ _ _ _ _ := ⟨_, _, G_Prime, b_1, k_1, PySem.W.mg_of X G a_1⟩
  have G_FieldInit := ok_FieldInit (P := l.prog) (w := w) (base := base) F_2 T  
  have q_FieldInit : CCal _ _ _ _ _ _ _ _ _ _ _ _ := ⟨_, _, _, G_FieldInit, b_2, ⟨⟨_, rq_2, fq_2⟩, sq_2, k_2⟩, PySem.W.mg_of X G aq_2⟩
  have G_FracInit := ok_FracInit (P := l.prog) (w := w) (base := base) F_3 T q_FieldInit 
  have k_FracInit : Mak _ _ _ _ _ _ _ _ _ _ _ _ := ⟨⟨_, _, G_FracInit, b_3, ⟨mk_Fractions, a_3_Fractions, i_3, kc_Fractions⟩⟩, T.mg_Fractions⟩
  have G_Nought := ok_Nought (P := l.prog) (w := w) (base := base) F_4 T  
  have mf_Nought : MCal l.prog w K mg base CX0 1 C_Fractions "nought" ["self"] [] (spNo 0 0 (AtF C_Fractions)) := ⟨⟨_, _, ((G_Nought).imp imp_no0).mono (by decide), b_4, ⟨a_4_Fractions, i_4, k_4⟩⟩, T.cl_Fractions⟩
  have G_One := ok_One (P := l.prog) (w := w) (base := base) F_5 T  
  have mf_One : MCal l.prog w K mg base CX0 1 C_Fractions "one" ["self"] [] (spNo 1 0 (AtF C_Fractions)) := ⟨⟨_, _, ((G_One).imp imp_no0).mono (by decide), b_5, ⟨a_5_Fractions, i_5, k_5⟩⟩, T.cl_Fractions⟩
  have G_PlusF := ok_PlusF (P := l.prog) (w := w) (base := base) F_6 T c_Shared 
  have mf_PlusF : MCal l.prog w K mg base CX0 3 C_Fractions "plus" ["self", "a", "b"] [] (spPl 0 (AtF C_Fractions)) := ⟨⟨_, _, ((G_PlusF).imp imp_pl0).mono (by decide), b_6, ⟨a_6_Fractions, i_6, k_6⟩⟩, T.cl_Fractions⟩
  have G_TimesF := ok_TimesF (P := l.prog) (w := w) (base := base) F_7 T c_Shared 
  have mf_TimesF : MCal l.prog w K mg base CX0 3 C_Fractions "times" ["self", "a", "b"] [] (spTi 0 (AtF C_Fractions)) := ⟨⟨_, _, ((G_TimesF).imp imp_ti0).mono (by decide), b_7, ⟨a_7_Fractions, i_7, k_7⟩⟩, T.cl_Fractions⟩
  have G_AgF := ok_AgF (P := l.prog) (w := w) (base := base) F_8 T  
  have mf_AgF : MCal l.prog w K mg base CX0 1 C_Fractions "against" ["self", "a"] [] (spAg 0 (AtF C_Fractions)) := ⟨⟨_, _, ((G_AgF).imp imp_ag0).mono (by decide), b_8, ⟨a_8_Fractions, i_8, k_8⟩⟩, T.cl_Fractions⟩
  have G_RestsInit := ok_RestsInit (P := l.prog) (w := w) (base := base) F_9 T c_Prime q_FieldInit x_NoPrime 
  have k_RestsInit : Mak _ _ _ _ _ _ _ _ _ _ _ _ := ⟨⟨_, _, G_RestsInit, b_9, ⟨mk_Rests, a_9_Rests, i_9, kc_Rests⟩⟩, T.mg_Rests⟩
  have G_NoughtR := ok_NoughtR (P := l.prog) (w := w) (base := base) F_10 T  
  have mf_NoughtR : ∀ n : Int, K3.Pr n → MCal l.prog w K mg base CX0 1 C_Rests "nought" ["self"] [] (spNo 0 n (AtR C_Rests n)) := fun n hn => ⟨⟨_, _, ((G_NoughtR).imp (imp_noR hn (by decide) (by decide))).mono (by decide), b_10, ⟨a_10_Rests, i_10, k_10⟩⟩, T.cl_Rests⟩
  have G_OneR := ok_OneR (P := l.prog) (w := w) (base := base) F_11 T  
  have mf_OneR : ∀ n : Int, K3.Pr n → MCal l.prog w K mg base CX0 1 C_Rests "one" ["self"] [] (spNo 1 n (AtR C_Rests n)) := fun n hn => ⟨⟨_, _, ((G_OneR).imp (imp_noR hn (by decide) (by decide))).mono (by decide), b_11, ⟨a_11_Rests, i_11, k_11⟩⟩, T.cl_Rests⟩
  have G_PlusR := ok_PlusR (P := l.prog) (w := w) (base := base) F_12 T  
  have mf_PlusR : ∀ n : Int, K3.Pr n → MCal l.prog w K mg base CX0 3 C_Rests "plus" ["self", "a", "b"] [] (spPl n (AtR C_Rests n)) := fun n hn => ⟨⟨_, _, ((G_PlusR).imp (imp_plR hn)).mono (by decide), b_12, ⟨a_12_Rests, i_12, k_12⟩⟩, T.cl_Rests⟩
  have G_TimesR := ok_TimesR (P := l.prog) (w := w) (base := base) F_13 T  
  have mf_TimesR : ∀ n : Int, K3.Pr n → MCal l.prog w K mg base CX0 3 C_Rests "times" ["self", "a", "b"] [] (spTi n (AtR C_Rests n)) := fun n hn => ⟨⟨_, _, ((G_TimesR).imp (imp_tiR hn)).mono (by decide), b_13, ⟨a_13_Rests, i_13, k_13⟩⟩, T.cl_Rests⟩
  have G_AgR := ok_AgR (P := l.prog) (w := w) (base := base) F_14 T  
  have mf_AgR : ∀ n : Int, K3.Pr n → MCal l.prog w K mg base CX0 1 C_Rests "against" ["self", "a"] [] (spAg n (AtR C_Rests n)) := fun n hn => ⟨⟨_, _, ((G_AgR).imp (imp_agR hn)).mono (by decide), b_14, ⟨a_14_Rests, i_14, k_14⟩⟩, T.cl_Rests⟩
  have hfld : ∀ n : Int, n ≤ 9973 → (n = 0 ∨ K3.Pr n) → ∃ C, FldQ l.prog w K mg base C (AtN C_Fractions C_Rests n) n := by
    rintro n n1 (rfl | n2)
    · exact ⟨C_Fractions, fldQ_F mf_Nought mf_One mf_PlusF mf_TimesF mf_AgF⟩
    · exact ⟨C_Rests, fldQ_R n2 (mf_NoughtR n n2) (mf_OneR n n2) (mf_PlusR n n2) (mf_TimesR n n2) (mf_AgR n n2)⟩
  have G_Absorb := ok_Absorb (P := l.prog) (w := w) (base := base) F_15 T  hfld
  have c_Absorb : Cal _ _ _ _ _ _ _ _ _ _ _ := ⟨_, _, G_Absorb, b_15, k_15, PySem.W.mg_of X G a_15⟩
  have G_Prod := ok_Prod (P := l.prog) (w := w) (base := base) F_16 T  
  have c_Prod : Cal _ _ _ _ _ _ _ _ _ _ _ := ⟨_, _, G_Prod, b_16, k_16, PySem.W.mg_of X G a_16⟩
  have G_Scal := ok_Scal (P := l.prog) (w := w) (base := base) F_17 T c_Prod hfld
  have c_Scal : Cal _ _ _ _ _ _ _ _ _ _ _ := ⟨_, _, G_Scal, b_17, k_17, PySem.W.mg_of X G a_17⟩
  have G_Neg := ok_Neg (P := l.prog) (w := w) (base := base) F_18 T  hfld
  have c_Neg : Cal _ _ _ _ _ _ _ _ _ _ _ := ⟨_, _, G_Neg, b_18, k_18, PySem.W.mg_of X G a_18⟩
  have G_Plus := ok_Plus (P := l.prog) (w := w) (base := base) F_19 T c_Absorb 
  have c_Plus : Cal _ _ _ _ _ _ _ _ _ _ _ := ⟨_, _, G_Plus, b_19, k_19, PySem.W.mg_of X G a_19⟩
  have G_Minus := ok_Minus (P := l.prog) (w := w) (base := base) F_20 T c_Neg c_Plus 
  have c_Minus : Cal _ _ _ _ _ _ _ _ _ _ _ := ⟨_, _, G_Minus, b_20, k_20, PySem.W.mg_of X G a_20⟩
  have G_Times := ok_Times (P := l.prog) (w := w) (base := base) F_21 T c_Scal c_Absorb 
  have c_Times : Cal _ _ _ _ _ _ _ _ _ _ _ := ⟨_, _, G_Times, b_21, k_21, PySem.W.mg_of X G a_21⟩
  have G_Gp := ok_Gp (P := l.prog) (w := w) (base := base) F_22 T  
  have c_Gp : Cal _ _ _ _ _ _ _ _ _ _ _ := ⟨_, _, G_Gp, b_22, k_22, PySem.W.mg_of X G a_22⟩
  have G_Reach := ok_Reach (P := l.prog) (w := w) (base := base) F_23 T c_Gp 
  have c_Reach : Cal _ _ _ _ _ _ _ _ _ _ _ := ⟨_, _, G_Reach, b_23, k_23, PySem.W.mg_of X G a_23⟩
  have G_Pw := ok_Pw (P := l.prog) (w := w) (base := base) F_24 T  hfld
  have c_Pw : Cal _ _ _ _ _ _ _ _ _ _ _ := ⟨_, _, G_Pw, b_24, k_24, PySem.W.mg_of X G a_24⟩
  have G_Sumd := ok_Sumd (P := l.prog) (w := w) (base := base) F_25 T c_Times c_Absorb 
  have c_Sumd : Cal _ _ _ _ _ _ _ _ _ _ _ := ⟨_, _, G_Sumd, b_25, k_25, PySem.W.mg_of X G a_25⟩
  have G_Val := ok_Val (P := l.prog) (w := w) (base := base) F_26 T c_Reach c_Pw hfld
  have c_Val : Cal _ _ _ _ _ _ _ _ _ _ _ := ⟨_, _, G_Val, b_26, k_26, PySem.W.mg_of X G a_26⟩
  have G_Cell := ok_Cell (P := l.prog) (w := w) (base := base) F_27 T  
  have c_Cell : Cal _ _ _ _ _ _ _ _ _ _ _ := ⟨_, _, G_Cell, b_27, k_27, PySem.W.mg_of X G a_27⟩
  have G_LShared := ok_LShared (P := l.prog) (w := w) (base := base) F_28 T  
  have c_LShared : Cal _ _ _ _ _ _ _ _ _ _ _ := ⟨_, _, G_LShared, b_28, k_28, PySem.W.mg_of X G a_28⟩
  have G_LPrime := ok_LPrime (P := l.prog) (w := w) (base := base) F_29 T  
  have c_LPrime : Cal _ _ _ _ _ _ _ _ _ _ _ := ⟨_, _, G_LPrime, b_29, k_29, PySem.W.mg_of X G a_29⟩
  have G_LPr := ok_LPr (P := l.prog) (w := w) (base := base) F_30 T c_LPrime 
  have c_LPr : Cal _ _ _ _ _ _ _ _ _ _ _ := ⟨_, _, G_LPr, b_30, k_30, PySem.W.mg_of X G a_30⟩
  have G_LMd := ok_LMd (P := l.prog) (w := w) (base := base) F_31 T c_LShared 
  have c_LMd : Cal _ _ _ _ _ _ _ _ _ _ _ := ⟨_, _, G_LMd, b_31, k_31, PySem.W.mg_of X G a_31⟩
  have G_LPoly := ok_LPoly (P := l.prog) (w := w) (base := base) F_32 T c_LMd 
  have c_LPoly : Cal _ _ _ _ _ _ _ _ _ _ _ := ⟨_, _, G_LPoly, b_32, k_32, PySem.W.mg_of X G a_32⟩
  have G_Wp := ok_Wp (P := l.prog) (w := w) (base := base) F_33 T  
  have c_Wp : Cal _ _ _ _ _ _ _ _ _ _ _ := ⟨_, _, G_Wp, b_33, k_33, PySem.W.mg_of X G a_33⟩
  have G_At := ok_At (P := l.prog) (w := w) (base := base) F_34 T c_Wp 
  have c_At : Cal _ _ _ _ _ _ _ _ _ _ _ := ⟨_, _, G_At, b_34, k_34, PySem.W.mg_of X G a_34⟩
  have G_Sam := ok_Sam (P := l.prog) (w := w) (base := base) F_35 T c_Wp c_LShared 
  have c_Sam : Cal _ _ _ _ _ _ _ _ _ _ _ := ⟨_, _, G_Sam, b_35, k_35, PySem.W.mg_of X G a_35⟩
  have G_Agr := ok_Agr (P := l.prog) (w := w) (base := base) F_36 T c_At c_Val c_Sam 
  have c_Agr : Cal _ _ _ _ _ _ _ _ _ _ _ := ⟨_, _, G_Agr, b_36, k_36, PySem.W.mg_of X G a_36⟩
  have G_Far := ok_Far (P := l.prog) (w := w) (base := base) F_37 T c_LMd c_At c_Agr 
  have c_Far : Cal _ _ _ _ _ _ _ _ _ _ _ := ⟨_, _, G_Far, b_37, k_37, PySem.W.mg_of X G a_37⟩
  have G_LSpot := ok_LSpot (P := l.prog) (w := w) (base := base) F_38 T c_LMd 
  have c_LSpot : Cal _ _ _ _ _ _ _ _ _ _ _ := ⟨_, _, G_LSpot, b_38, k_38, PySem.W.mg_of X G a_38⟩
  have fit_Tails : MCal l.prog w K mg base CX0 1 C_Tails "fits" ["self", "many"] [] (spFits (AtO C_Tails) fun _ => true) := ⟨⟨_, _, ok_FitsO (P := l.prog) (w := w) (base := base) (At := AtO C_Tails) F_39 T, b_39, ⟨a_39_Tails, i_39, k_39⟩⟩, T.cl_Tails⟩
  have G_RgI := ok_RgI (P := l.prog) (w := w) (base := base) F_40 T x_NoRing fit_Tails
  have k_RgI : Mak _ _ _ _ _ _ _ _ _ _ _ _ := ⟨⟨_, _, G_RgI, b_40, ⟨mk_Ring, a_40_Ring, i_40, kc_Ring⟩⟩, T.mg_Ring⟩
  exact ok_Law (P := l.prog) (w := w) (base := base) F_41 T c_Cell k_FracInit c_LPr k_RestsInit k_RgI c_LPoly c_LSpot c_At c_Wp c_Agr c_Plus c_Minus c_Times c_Far c_LMd c_Sumd 
theorem walk {l : PySem.W.OpenLaw} {q : Program} {loose : List Str} {XP : (Str → Option Value) → Heap → Prop} {YP : World → Heap → Prop} {d : DefRec} {K : Params → PySem.W.Frag} (hn : l.most = some 63) (hdf : d.params.defaults = [])
    (hY : ∀ (w : World) (h : Heap), YP w h → (K w.params).In h)
    (F : ∀ (w : World) (mg : Str → Option Value) (fa : Addr) (h : Heap), (K w.params).In h → h.Ns mainGlobals mg → mg d.name = some (.ref fa) →
      ∃ fd : FuncData, (∀ (s : Shared) (u : Value), BindsTo s fd ⟨[u], []⟩ [("_law_script", u)]) ∧ ∀ base : Heap, (K w.params).In base → base.Ns mainGlobals mg → FnOk l.prog w (K w.params) mg base CX0 9 fa fd ["_law_script"] (spLaw (K w.params))) :
    PySem.W.WalkO q loose XP YP l.row.toRowW d [] (fun f vs => PySem.call f vs) :=
  L2.walk_of (n := 63) (k := 9) (x := "_law_script") (CX := fun _ => CX0) (sp := fun w => spLaw (K w.params)) hn (by decide) hdf ⟨rfl, by decide, by decide⟩ hY F (fun _ _ a ns hl _ hS => ⟨a, ns, rfl, hS, hl, fun _ => rfl⟩) fun _ _ _ _ _ z => z
end K10
open PySem PySem.W PyProof.Rows
set_option maxRecDepth 100000 in
set_option maxHeartbeats 0 in
theorem PySem.Challenge.cw_idealroom_k10_values_go_along_holds : PySem.Challenge.rw_idealroom_k10_values_go_along.Holds := by
  w_on; o_law; k_head; (case hw => w_witness2)
  k_fill
  refine K10.walk (l := PySem.Challenge.rw_idealroom_k10_values_go_along) rfl rfl (fun w h Y => PySem.W.kIn_of Y) ?F
  case F =>
    intro w mg fa h KX G hmg
    refine' K10.all_mk KX G hmg ?a_Ring ?pg_Ring ?hd_Ring ?po_Ring ?sa_Ring ?mk_Ring ?kc_Ring ?na_Ring_many ?na_Ring_field ?na_Ring_order ?a_Fractions ?pg_Fractions ?hd_Fractions ?po_Fractions ?sa_Fractions ?mk_Fractions ?kc_Fractions ?na_Fractions_prime ?a_Rests ?pg_Rests ?hd_Rests ?po_Rests ?sa_Rests ?mk_Rests ?kc_Rests ?na_Rests_prime ?a_Tails ?pg_Tails ?hd_Tails ?po_Tails ?sa_Tails ?mk_Tails ?in_Tails ?kc_Tails ?a_0 ?l_0 ?c_0 ?k_0 ?a_1 ?l_1 ?c_1 ?k_1 ?aq_2 ?rq_2 ?fq_2 ?sq_2 ?i_2 ?l_2 ?c_2 ?k_2 ?a_3_Fractions ?i_3 ?l_3 ?c_3 ?k_3 ?a_4_Fractions ?i_4 ?l_4 ?c_4 ?k_4 ?a_5_Fractions ?i_5 ?l_5 ?c_5 ?k_5 ?a_6_Fractions ?i_6 ?l_6 ?c_6 ?k_6 ?a_7_Fractions ?i_7 ?l_7 ?c_7 ?k_7 ?a_8_Fractions ?i_8 ?l_8 ?c_8 ?k_8 ?a_9_Rests ?i_9 ?l_9 ?c_9 ?k_9 ?a_10_Rests ?i_10 ?l_10 ?c_10 ?k_10 ?a_11_Rests ?i_11 ?l_11 ?c_11 ?k_11 ?a_12_Rests ?i_12 ?l_12 ?c_12 ?k_12 ?a_13_Rests ?i_13 ?l_13 ?c_13 ?k_13 ?a_14_Rests ?i_14 ?l_14 ?c_14 ?k_14 ?a_15 ?l_15 ?c_15 ?k_15 ?a_16 ?l_16 ?c_16 ?k_16 ?a_17 ?l_17 ?c_17 ?k_17 ?a_18 ?l_18 ?c_18 ?k_18 ?a_19 ?l_19 ?c_19 ?k_19 ?a_20 ?l_20 ?c_20 ?k_20 ?a_21 ?l_21 ?c_21 ?k_21 ?a_22 ?l_22 ?c_22 ?k_22 ?a_23 ?l_23 ?c_23 ?k_23 ?a_24 ?l_24 ?c_24 ?k_24 ?a_25 ?l_25 ?c_25 ?k_25 ?a_26 ?l_26 ?c_26 ?k_26 ?a_27 ?l_27 ?c_27 ?k_27 ?a_28 ?l_28 ?c_28 ?k_28 ?a_29 ?l_29 ?c_29 ?k_29 ?a_30 ?l_30 ?c_30 ?k_30 ?a_31 ?l_31 ?c_31 ?k_31 ?a_32 ?l_32 ?c_32 ?k_32 ?a_33 ?l_33 ?c_33 ?k_33 ?a_34 ?l_34 ?c_34 ?k_34 ?a_35 ?l_35 ?c_35 ?k_35 ?a_36 ?l_36 ?c_36 ?k_36 ?a_37 ?l_37 ?c_37 ?k_37 ?a_38 ?l_38 ?c_38 ?k_38 ?a_39_Tails ?i_39 ?l_39 ?c_39 ?k_39 ?a_40_Ring ?i_40 ?l_40 ?c_40 ?k_40 ?a_41 ?l_41 ?c_41 ?k_41 ?a_NoPrime ?FB_NoPrime ?xE_NoPrime ?xm_NoPrime ?a_NoRing ?FB_NoRing ?xE_NoRing ?xm_NoRing ?q_kii ?q_ktt ?z_abs ?z_dict ?z_int ?z_isinstance ?z_len ?z_list ?z_max ?z_range ?z_sum ?z_tuple ?z_zip ?g_GREATEST_PRIME ?g_LETTERS
    (case a_Ring => k_is)
    (case pg_Ring => k_is)
    (case hd_Ring => k_is)
    (case po_Ring => k_is)
    (case sa_Ring => k_is)
    (case mk_Ring => k_is)
    (case kc_Ring => k_is)
    (case na_Ring_many => k_is)
    (case na_Ring_field => k_is)
    (case na_Ring_order => k_is)
    (case a_Fractions => k_is)
    (case pg_Fractions => k_is)
    (case hd_Fractions => k_is)
    (case po_Fractions => k_is)
    (case sa_Fractions => k_is)
    (case mk_Fractions => k_is)
    (case kc_Fractions => k_is)
    (case na_Fractions_prime => k_is)
    (case a_Rests => k_is)
    (case pg_Rests => k_is)
    (case hd_Rests => k_is)
    (case po_Rests => k_is)
    (case sa_Rests => k_is)
    (case mk_Rests => k_is)
    (case kc_Rests => k_is)
    (case na_Rests_prime => k_is)
    (case a_Tails => k_is)
    (case pg_Tails => k_is)
    (case hd_Tails => k_is)
    (case po_Tails => k_is)
    (case sa_Tails => k_is)
    (case mk_Tails => k_is)
    (case in_Tails => k_is)
    (case kc_Tails => k_is)
    (case a_0 => k_is)
    (case l_0 => k_is)
    (case c_0 => k_is)
    (case k_0 => k_is)
    (case a_1 => k_is)
    (case l_1 => k_is)
    (case c_1 => k_is)
    (case k_1 => k_is)
    (case aq_2 => k_is)
    (case rq_2 => k_is)
    (case fq_2 => k_is)
    (case sq_2 => k_is)
    (case i_2 => k_is)
    (case l_2 => k_is)
    (case c_2 => k_is)
    (case k_2 => k_is)
    (case a_3_Fractions => k_is)
    (case i_3 => k_is)
    (case l_3 => k_is)
    (case c_3 => k_is)
    (case k_3 => k_is)
    (case a_4_Fractions => k_is)
    (case i_4 => k_is)
    (case l_4 => k_is)
    (case c_4 => k_is)
    (case k_4 => k_is)
    (case a_5_Fractions => k_is)
    (case i_5 => k_is)
    (case l_5 => k_is)
    (case c_5 => k_is)
    (case k_5 => k_is)
    (case a_6_Fractions => k_is)
    (case i_6 => k_is)
    (case l_6 => k_is)
    (case c_6 => k_is)
    (case k_6 => k_is)
    (case a_7_Fractions => k_is)
    (case i_7 => k_is)
    (case l_7 => k_is)
    (case c_7 => k_is)
    (case k_7 => k_is)
    (case a_8_Fractions => k_is)
    (case i_8 => k_is)
    (case l_8 => k_is)
    (case c_8 => k_is)
    (case k_8 => k_is)
    (case a_9_Rests => k_is)
    (case i_9 => k_is)
    (case l_9 => k_is)
    (case c_9 => k_is)
    (case k_9 => k_is)
    (case a_10_Rests => k_is)
    (case i_10 => k_is)
    (case l_10 => k_is)
    (case c_10 => k_is)
    (case k_10 => k_is)
    (case a_11_Rests => k_is)
    (case i_11 => k_is)
    (case l_11 => k_is)
    (case c_11 => k_is)
    (case k_11 => k_is)
    (case a_12_Rests => k_is)
    (case i_12 => k_is)
    (case l_12 => k_is)
    (case c_12 => k_is)
    (case k_12 => k_is)
    (case a_13_Rests => k_is)
    (case i_13 => k_is)
    (case l_13 => k_is)
    (case c_13 => k_is)
    (case k_13 => k_is)
    (case a_14_Rests => k_is)
    (case i_14 => k_is)
    (case l_14 => k_is)
    (case c_14 => k_is)
    (case k_14 => k_is)
    (case a_15 => k_is)
    (case l_15 => k_is)
    (case c_15 => k_is)
    (case k_15 => k_is)
    (case a_16 => k_is)
    (case l_16 => k_is)
    (case c_16 => k_is)
    (case k_16 => k_is)
    (case a_17 => k_is)
    (case l_17 => k_is)
    (case c_17 => k_is)
    (case k_17 => k_is)
    (case a_18 => k_is)
    (case l_18 => k_is)
    (case c_18 => k_is)
    (case k_18 => k_is)
    (case a_19 => k_is)
    (case l_19 => k_is)
    (case c_19 => k_is)
    (case k_19 => k_is)
    (case a_20 => k_is)
    (case l_20 => k_is)
    (case c_20 => k_is)
    (case k_20 => k_is)
    (case a_21 => k_is)
    (case l_21 => k_is)
    (case c_21 => k_is)
    (case k_21 => k_is)
    (case a_22 => k_is)
    (case l_22 => k_is)
    (case c_22 => k_is)
    (case k_22 => k_is)
    (case a_23 => k_is)
    (case l_23 => k_is)
    (case c_23 => k_is)
    (case k_23 => k_is)
    (case a_24 => k_is)
    (case l_24 => k_is)
    (case c_24 => k_is)
    (case k_24 => k_is)
    (case a_25 => k_is)
    (case l_25 => k_is)
    (case c_25 => k_is)
    (case k_25 => k_is)
    (case a_26 => k_is)
    (case l_26 => k_is)
    (case c_26 => k_is)
    (case k_26 => k_is)
    (case a_27 => k_is)
    (case l_27 => k_is)
    (case c_27 => k_is)
    (case k_27 => k_is)
    (case a_28 => k_is)
    (case l_28 => k_is)
    (case c_28 => k_is)
    (case k_28 => k_is)
    (case a_29 => k_is)
    (case l_29 => k_is)
    (case c_29 => k_is)
    (case k_29 => k_is)
    (case a_30 => k_is)
    (case l_30 => k_is)
    (case c_30 => k_is)
    (case k_30 => k_is)
    (case a_31 => k_is)
    (case l_31 => k_is)
    (case c_31 => k_is)
    (case k_31 => k_is)
    (case a_32 => k_is)
    (case l_32 => k_is)
    (case c_32 => k_is)
    (case k_32 => k_is)
    (case a_33 => k_is)
    (case l_33 => k_is)
    (case c_33 => k_is)
    (case k_33 => k_is)
    (case a_34 => k_is)
    (case l_34 => k_is)
    (case c_34 => k_is)
    (case k_34 => k_is)
    (case a_35 => k_is)
    (case l_35 => k_is)
    (case c_35 => k_is)
    (case k_35 => k_is)
    (case a_36 => k_is)
    (case l_36 => k_is)
    (case c_36 => k_is)
    (case k_36 => k_is)
    (case a_37 => k_is)
    (case l_37 => k_is)
    (case c_37 => k_is)
    (case k_37 => k_is)
    (case a_38 => k_is)
    (case l_38 => k_is)
    (case c_38 => k_is)
    (case k_38 => k_is)
    (case a_39_Tails => k_is)
    (case i_39 => k_is)
    (case l_39 => k_is)
    (case c_39 => k_is)
    (case k_39 => k_is)
    (case a_40_Ring => k_is)
    (case i_40 => k_is)
    (case l_40 => k_is)
    (case c_40 => k_is)
    (case k_40 => k_is)
    (case a_41 => k_is)
    (case l_41 => k_is)
    (case c_41 => k_is)
    (case k_41 => k_is)
    (case a_NoPrime => k_is)
    (case FB_NoPrime => exact PySem.F.excBase_ValueError)
    (case xE_NoPrime => k_exc)
    (case xm_NoPrime => kts_exm)
    (case a_NoRing => k_is)
    (case FB_NoRing => exact PySem.F.excBase_ValueError)
    (case xE_NoRing => k_exc)
    (case xm_NoRing => kts_exm)
    (case q_kii => kit_is)
    (case q_ktt => kit_is)
    (case z_abs => k_is)
    (case z_dict => k_is)
    (case z_int => k_is)
    (case z_isinstance => k_is)
    (case z_len => k_is)
    (case z_list => k_is)
    (case z_max => k_is)
    (case z_range => k_is)
    (case z_sum => k_is)
    (case z_tuple => k_is)
    (case z_zip => k_is)
    (case g_GREATEST_PRIME => k_is)
    (case g_LETTERS => k_is)
#print axioms PySem.Challenge.cw_idealroom_k10_values_go_along_holds
