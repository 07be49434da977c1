import PyProof.Rows.All
import Wide.All
import OpenK.AllK
import Wide.FinOn
import Lean
import PyProof.EqAt
import PyProof.EqKinds
import PyProof.TupleCall
import PySem.Challenge.RW_idealroom_k09_products_part_by_part
import PySem.Challenge.RW_idealroom_k09_products_part_by_part
set_option Elab.async false
set_option linter.all false
set_option maxRecDepth 100000
namespace L2
open PySem PySem.Spec PyProof.Rows
abbrev Key := Sum Int Str
def keyIs : Key → Value → Bool
  | .inl k, v => Value.isInt k v
  | .inr x, v => Value.isStrOf x v
def keyH (w : World) : Key → Int
  | .inl k => hashInt k
  | .inr x => hashStr w x
theorem keyIs_shape : ∀ {k : Key} {v : Value}, keyIs k v = true → (∃ i t, k = Sum.inl i ∧ v = Value.int i t) ∨ (∃ x t, k = Sum.inr x ∧ v = Value.str x t)
  | .inl i, v, h => by
    obtain ⟨t, e⟩ := Value.isInt_shape (k := i) (v := v) h
    exact .inl ⟨i, t, rfl, e⟩
  | .inr x, v, h => by
    obtain ⟨t, e⟩ := Value.isStrOf_shape (x := x) (v := v) h
    exact .inr ⟨x, t, rfl, e⟩
theorem keyIs_int (i : Int) (t : Tok) : keyIs (.inl i) (.int i t) = true := by simp [keyIs, Value.isInt]
theorem keyIs_str (x : Str) (t : Tok) : keyIs (.inr x) (.str x t) = true := by simp [keyIs, Value.isStrOf]
theorem key_ll (a b : Int) : decide ((Sum.inl a : Key) = Sum.inl b) = (a == b) := by
  by_cases e : a = b
  · subst e; simp
  · have h : ¬ (Sum.inl a : Key) = Sum.inl b := fun q => e (Sum.inl.inj q)
    rw [decide_eq_false h]
    exact (beq_eq_false_iff_ne.mpr e).symm
theorem key_rr (a b : Str) : decide ((Sum.inr a : Key) = Sum.inr b) = decide (a = b) := by
  by_cases e : a = b
  · subst e; simp
  · have h : ¬ (Sum.inr a : Key) = Sum.inr b := fun q => e (Sum.inr.inj q)
    rw [decide_eq_false h, decide_eq_false e]
theorem key_lr (a : Int) (b : Str) : decide ((Sum.inl a : Key) = Sum.inr b) = false := decide_eq_false (fun q => nomatch q)
theorem key_rl (a : Str) (b : Int) : decide ((Sum.inr a : Key) = Sum.inl b) = false := decide_eq_false (fun q => nomatch q)
def mixKind (prog : Program) (w : World) : PySem.KeyKind prog w Key where
  is := keyIs
  hash := keyH w
  inj := fun v a b ha hb => by
    rcases keyIs_shape ha with ⟨i, t, rfl, rfl⟩ | ⟨x, t, rfl, rfl⟩
    · rcases keyIs_shape hb with ⟨j, u, rfl, e⟩ | ⟨y, u, rfl, e⟩
      · injection e with e1 _; rw [e1]
      · exact nomatch e
    · rcases keyIs_shape hb with ⟨j, u, rfl, e⟩ | ⟨y, u, rfl, e⟩
      · exact nomatch e
      · injection e with e1 _; rw [e1]
  byValue := fun k v h => by
    rcases keyIs_shape h with ⟨i, t, rfl, rfl⟩ | ⟨x, t, rfl, rfl⟩ <;> rfl
  pyHash := fun hv h => by
    rcases keyIs_shape hv with ⟨i, t, rfl, rfl⟩ | ⟨x, t, rfl, rfl⟩
    · exact wpAny_pyHash_int h
    · exact wpAny_pyHash_str h
  eqBool := fun hu hv h => by
    rcases keyIs_shape hu with ⟨i, t, rfl, rfl⟩ | ⟨x, t, rfl, rfl⟩
    · rcases keyIs_shape hv with ⟨j, u, rfl, rfl⟩ | ⟨y, u, rfl, rfl⟩
      · rw [key_ll] at h; exact wpAny_eqBool_int h
      · rw [key_lr] at h; exact SeqAt.EqAt.int_str i t y u _ _ _ _ h
    · rcases keyIs_shape hv with ⟨j, u, rfl, rfl⟩ | ⟨y, u, rfl, rfl⟩
      · rw [key_rl] at h; exact SeqAt.EqAt.str_int x t j u _ _ _ _ h
      · rw [key_rr] at h; exact wpAny_eqBool_str h
  «strs» := fun k x t v h => by
    rcases keyIs_shape h with ⟨i, u, rfl, e⟩ | ⟨y, u, rfl, e⟩
    · exact nomatch e
    · injection e with e1 _
      subst e1
      cases v <;> rfl
theorem mixKind_int (prog : Program) (w : World) (i : Int) (t : Tok) : (mixKind prog w).is (.inl i) (.int i t) = true := keyIs_int i t
theorem mixKind_str (prog : Program) (w : World) (x : Str) (t : Tok) : (mixKind prog w).is (.inr x) (.str x t) = true := keyIs_str x t
end L2
namespace L2
open PySem PySem.Spec PyProof.Rows
inductive V where
  | non | bl (b : Bool) | int (i : Int) | str (x : Str) | byt (b : Array UInt8) | flt (b : UInt64) | ref (a : Addr) | ty (n : String)
  deriving DecidableEq
def RelV : V → Value → Prop
  | .non, u => u = Value.none
  | .bl b, u => u = Value.bool b
  | .int i, u => ∃ t, u = Value.int i t
  | .str x, u => ∃ t, u = Value.str x t
  | .byt b, u => ∃ t, u = Value.bytes b t
  | .flt b, u => ∃ t, u = Value.float b t
  | .ref a, u => u = Value.ref a
  | .ty n, u => u = Value.type n
abbrev Vals : List V → List Value → Prop := Paired RelV
theorem Vals.length {xs : List V} {us : List Value} (r : Vals xs us) : xs.length = us.length := Paired.length r
theorem Vals.get : ∀ {xs : List V} {us : List Value} {i : Nat} {x : V}, Vals xs us → xs[i]? = some x → ∃ u, us[i]? = some u ∧ RelV x u
  | _, _, _, _, .nil, e => by simp at e
  | _, _, 0, _, .cons r _, e => by simp at e; subst e; exact ⟨_, rfl, r⟩
  | _, _, i + 1, x, .cons _ t, e => by
    obtain ⟨u, h1, h2⟩ := Vals.get (i := i) (x := x) t (by simpa using e)
    exact ⟨u, by simpa using h1, h2⟩
theorem Vals.append : ∀ {xs ys : List V} {us ws : List Value}, Vals xs us → Vals ys ws → Vals (xs ++ ys) (us ++ ws)
  | _, _, _, _, .nil, s => s
  | _, _, _, _, .cons r t, s => .cons r (Vals.append t s)
theorem Vals.take : ∀ {xs : List V} {us : List Value} (n : Nat), Vals xs us → Vals (xs.take n) (us.take n)
  | _, _, 0, _ => .nil
  | _, _, _ + 1, .nil => .nil
  | _, _, n + 1, .cons r t => .cons r (Vals.take n t)
theorem Vals.drop : ∀ {xs : List V} {us : List Value} (n : Nat), Vals xs us → Vals (xs.drop n) (us.drop n)
  | _, _, 0, r => r
  | _, _, _ + 1, .nil => .nil
  | _, _, n + 1, .cons _ t => Vals.drop n t
def RelO : Option V → Option Value → Prop
  | some v, some u => RelV v u
  | none, none => True
  | _, _ => False
def KV {κ : Type} : List (κ × V) → List (κ × Value) → Prop := Paired fun (p : κ × V) (q : κ × Value) => p.1 = q.1 ∧ RelV p.2 q.2
def kV : Key → V
  | .inl i => .int i
  | .inr x => .str x
inductive HO where
    | lst (xs : List V)
    | tup (xs : List V)
    | dK (kvs : List (Key × V)) | dT (kvs : List (List Key × V))
    | set (S : Int → Bool) (n : Nat)
    | ins (C dx : Addr) (fs : List (Str × V))
    | own (x : Addr)
    | xd (fs : List (Str × V))
    | met (f x : Addr)
    | rng (lo hi : Int)
    | frz (o : Obj) (u : HO)
    | tbl (ps : Array Value)
    | ext (φ : Heap → Prop)
abbrev Hp := Addr → Option HO
def upd (H : Hp) (a : Addr) (o : HO) : Hp := fun b => if b = a then some o else H b
theorem upd_same {H : Hp} {a : Addr} {o : HO} : upd H a o a = some o := by unfold upd; rw [if_pos rfl]
theorem upd_ne {H : Hp} {a b : Addr} {o : HO} (h : b ≠ a) : upd H a o b = H b := by unfold upd; rw [if_neg h]
theorem ne_of {H : Hp} {a b : Addr} {o u : HO} (h : H a = some o) (h' : H b = some u) (d : o ≠ u) : a ≠ b := by
  intro e; subst e; rw [h] at h'; exact d (Option.some.inj h')
theorem ne_of_none {H : Hp} {a b : Addr} {o : HO} (h : H a = some o) (h' : H b = none) : a ≠ b := by
  intro e; subst e; rw [h] at h'; cases h'
section
variable (P : Program) (w : World)
def ObjOk (H : Hp) (h : Heap) (a : Addr) : HO → Prop
  | .lst xs => xs.length ≤ sizeLine ∧ ∃ (its : List Value) (n : Nat), Vals xs its ∧ h.get? a = some { cls := .type "list", data := .seq its.toArray n }
  | .tup xs => xs.length ≤ sizeLine ∧ ∃ its : List Value, Vals xs its ∧ IsTup h a its.toArray
  | .dK kvs => kvs.length ≤ sizeLine ∧ (a == sysModules) = false ∧ ∃ vs, KV kvs vs ∧ h.DictOf (mixKind P w) a vs
  | .dT kvs => kvs.length ≤ sizeLine ∧ (a == sysModules) = false ∧ ∃ xs : List (List Key × Addr × Value),
      Paired (fun (p : List Key × V) (q : List Key × Addr × Value) => p.1 = q.1 ∧ H q.2.1 = some (.tup (p.1.map kV)) ∧ RelV p.2 q.2.2) kvs xs ∧
      ∃ o es ep, h.get? a = some o ∧ o.ExactDict ∧ o.data = .dict es ep ∧ es.toList = xs.map (entryOfKey (tupleKind (mixKind P w))) ∧ (xs.map (·.1)).Nodup
  | .set S n => h.SetOf (intKind P w) a S n
  | .ins C dx fs => H dx = some (.own a) ∧ fs.length ≤ 1000 ∧ dx ≠ a ∧ h.get? a = some (PySem.W.instObj C dx) ∧
      ∃ mA, h.Ns1 dx mA ∧ (∀ f, RelO (fs.lookup f) (mA f)) ∧ PySem.Within mA (fs.map (·.1))
  | .own _ => ∃ o, h.get? a = some o
  | .xd fs => ∃ mA, h.Ns1 a mA ∧ ∀ f, RelO (fs.lookup f) (mA f)
  | .rng lo hi => ∃ t u v, h.get? a = some { cls := .type "range", data := .fields #[.int lo t, .int hi u, .int 1 v] }
  | .frz o u => h.get? a = some o ∧ ObjOk H h a u
  | .tbl ps => h.get? a = some { cls := .none, data := .fields ps }
  | .met f x => h.get? a = some (PySem.W.methodObj (.ref f) (.ref x))
  | .ext φ => φ h ∧ (∃ o, h.get? a = some o) ∧ ∀ h1 h2 : Heap, φ h1 → (∀ o, h1.get? a = some o → h2.get? a = some o) → φ h2
def HOk (H : Hp) (h : Heap) : Prop := ∀ a o, H a = some o → ObjOk P w H h a o
end
section
variable {P : Program} {w : World} {H H' : Hp} {h h' : Heap} {a : Addr} {o : HO}
theorem ObjOk.lt (x : ObjOk P w H h a o) : a < h.objs.size := by
  cases o with
  | lst xs => obtain ⟨_, _, _, _, e⟩ := x; exact Heap.lt_size e
  | tup xs => obtain ⟨_, _, _, p⟩ := x; exact p.lt
  | dK kvs => obtain ⟨_, _, _, _, o, _, _, e, _⟩ := x; exact Heap.lt_size e
  | dT kvs => obtain ⟨_, _, _, _, o, _, _, e, _⟩ := x; exact Heap.lt_size e
  | set S n => obtain ⟨o, _, _, _, e, _⟩ := x; exact Heap.lt_size e
  | ins C dx fs => obtain ⟨_, _, _, e, _⟩ := x; exact Heap.lt_size e
  | own y => obtain ⟨_, e⟩ := x; exact Heap.lt_size e
  | xd fs => obtain ⟨_, ⟨_, _, _, e, _⟩, _⟩ := x; exact Heap.lt_size e
  | rng lo hi => obtain ⟨_, _, _, e⟩ := x; exact Heap.lt_size e
  | frz ob u => obtain ⟨e, _⟩ := x; exact Heap.lt_size e
  | tbl ps => exact Heap.lt_size (show h.get? a = some _ from x)
  | met f y => exact Heap.lt_size (show h.get? a = some _ from x)
  | ext φ => obtain ⟨_, ⟨_, e⟩, _⟩ := x; exact Heap.lt_size e
theorem Paired.mapP {α β : Type} {F G : α → β → Prop} : ∀ {l₁ : List α} {l₂ : List β}, Paired F l₁ l₂ → (∀ a b, F a b → G a b) → Paired G l₁ l₂
  | _, _, .nil, _ => .nil
  | _, _, .cons r t, f => .cons (f _ _ r) (Paired.mapP t f)
theorem Paired.imp' {α β : Type} {F G : α → β → Prop} (f : ∀ a b, F a b → G a b) {l₁ : List α} {l₂ : List β} (r : Paired F l₁ l₂) : Paired G l₁ l₂ := Paired.mapP r f
theorem ObjOk.stay (x : ObjOk P w H h a o) (k : ∀ b u, (b = a ∨ H b = some (.own a)) → h.get? b = some u → h'.get? b = some u)
    (ho : ∀ b, H b = some (.own a) → H' b = some (.own a)) (ht : ∀ b xs, H b = some (.tup xs) → H' b = some (.tup xs)) : ObjOk P w H' h' a o := by
  induction o with
  | lst xs => obtain ⟨z, its, n, r, e⟩ := x; exact ⟨z, its, n, r, k _ _ (.inl rfl) e⟩
  | tup xs => obtain ⟨z, its, r, ob, e, c⟩ := x; exact ⟨z, its, r, ob, k _ _ (.inl rfl) e, c⟩
  | dK kvs => obtain ⟨z, y, vs, r, ob, es, ep, e, c⟩ := x; exact ⟨z, y, vs, r, ob, es, ep, k _ _ (.inl rfl) e, c⟩
  | dT kvs =>
    obtain ⟨z, y, xs, r, ob, es, ep, e, c⟩ := x
    exact ⟨z, y, xs, Paired.mapP r fun p q z => ⟨z.1, ht _ _ z.2.1, z.2.2⟩, ob, es, ep, k _ _ (.inl rfl) e, c⟩
  | set S n => obtain ⟨ob, es, ep, t, e, c⟩ := x; exact ⟨ob, es, ep, t, k _ _ (.inl rfl) e, c⟩
  | ins C dx fs =>
    obtain ⟨d, z, ne, e, mA, ⟨od, es, ep, e2, c⟩, r⟩ := x
    exact ⟨ho _ d, z, ne, k _ _ (.inl rfl) e, mA, ⟨od, es, ep, k _ _ (.inr d) e2, c⟩, r⟩
  | own y => obtain ⟨ob, e⟩ := x; exact ⟨ob, k _ _ (.inl rfl) e⟩
  | xd fs => obtain ⟨mA, ⟨od, es, ep, e, c⟩, r⟩ := x; exact ⟨mA, ⟨od, es, ep, k _ _ (.inl rfl) e, c⟩, r⟩
  | rng lo hi => obtain ⟨t, u, v, e⟩ := x; exact ⟨t, u, v, k _ _ (.inl rfl) e⟩
  | frz ob u ih => obtain ⟨e, q⟩ := x; exact ⟨k _ _ (.inl rfl) e, ih q⟩
  | tbl ps =>
    have e : h.get? a = some { cls := .none, data := .fields ps } := x
    show h'.get? a = some { cls := .none, data := .fields ps }
    exact k a _ (.inl rfl) e
  | met f y =>
    have e : h.get? a = some (PySem.W.methodObj (.ref f) (.ref y)) := x
    show h'.get? a = some (PySem.W.methodObj (.ref f) (.ref y))
    exact k a _ (.inl rfl) e
  | ext φ => obtain ⟨p, ⟨o, e⟩, st⟩ := x; exact ⟨st _ _ p fun o q => k _ _ (.inl rfl) q, ⟨o, k _ _ (.inl rfl) e⟩, st⟩
theorem HOk.lt (x : HOk P w H h) (e : H a = some o) : a < h.objs.size := (x a o e).lt
theorem HOk.fresh (x : HOk P w H h) (e : h.objs.size ≤ a) : H a = none := by
  cases q : H a with
  | none => rfl
  | some u => exact absurd (Nat.lt_of_lt_of_le (x.lt q) e) (Nat.lt_irrefl _)
theorem HOk.kept (x : HOk P w H h) (k : ∀ b u, h.get? b = some u → h'.get? b = some u) : HOk P w H h' := fun a o e =>
  (x a o e).stay (fun b u _ q => k b u q) (fun _ q => q) fun _ _ q => q
theorem HOk.laid (x : HOk P w H h) (k : ∀ b u, h.get? b = some u → h'.get? b = some u) (hp : h.objs.size ≤ a) (new : ObjOk P w (upd H a o) h' a o) : HOk P w (upd H a o) h' := fun b u e => by
  have hn := x.fresh hp
  by_cases hb : b = a
  · subst hb; rw [upd_same] at e; cases e; exact new
  · rw [upd_ne hb] at e
    exact (x b u e).stay (fun c v _ q => k c v q) (fun c q => by rw [upd_ne (ne_of_none q hn)]; exact q) fun c xs q => by rw [upd_ne (ne_of_none q hn)]; exact q
end
def Rd (H : Hp) (a : Addr) (u : HO) : Prop := H a = some u ∨ ∃ o, H a = some (.frz o u)
theorem Rd.ok {P : Program} {w : World} {H : Hp} {h : Heap} {a : Addr} {u : HO} (r : Rd H a u) (x : HOk P w H h) : ObjOk P w H h a u := by
  rcases r with r | ⟨o, r⟩
  · exact x a u r
  · obtain ⟨_, q⟩ := x a _ r
    exact q
def Mut : Option HO → Prop
  | some (.lst _) => True
  | some (.dK _) => True
  | some (.dT _) => True
  | some (.set _ _) => True
  | some (.ins _ _ _) => True
  | some (.ext _) => True
  | _ => False
section
variable {P : Program} {w : World} {H : Hp} {h h' : Heap} {x e : Addr} {o' : HO}
theorem HOk.write (ok : HOk P w H h) (mu : Mut (H x)) (he : e = x ∨ H e = some (.own x)) (k : ∀ b u, b ≠ e → h.get? b = some u → h'.get? b = some u) (heo : ∃ u, h'.get? e = some u)
    (new : ObjOk P w (upd H x o') h' x o') : HOk P w (upd H x o') h' := fun b u q => by
  have nown : ∀ c y, H c = some (.own y) → c ≠ x := fun c y r z => by subst z; rw [r] at mu; exact mu
  have ntup : ∀ c xs, H c = some (.tup xs) → c ≠ x := fun c xs r z => by subst z; rw [r] at mu; exact mu
  by_cases hb : b = x
  · subst hb; rw [upd_same] at q; cases q; exact new
  · rw [upd_ne hb] at q
    by_cases hbe : b = e
    · have q' : H b = some (.own x) := by
        rcases he with z | z
        · exact absurd (hbe.trans z) hb
        · rw [hbe]; exact z
      rw [q] at q'; cases q'
      obtain ⟨v, hv⟩ := heo
      exact ⟨v, by rw [hbe]; exact hv⟩
    · refine (ok b u q).stay (fun c v hc r => k c v ?_ r) (fun c r => by rw [upd_ne (nown c b r)]; exact r) fun c xs r => by rw [upd_ne (ntup c xs r)]; exact r
      rcases hc with rfl | hc
      · exact hbe
      · rintro rfl
        rcases he with z | z
        · exact nown c b hc z
        · rw [hc] at z; cases z; exact hb rfl
end
structure Un (fs ex : List Addr) (H H' : Hp) (h h' : Heap) : Prop where
  keep : ∀ b o, h.get? b = some o → H b = none → b ∉ fs → b ∉ ex → h'.get? b = some o
  slot : ∀ b o, h.get? b = some o → H b = none → b ∈ fs → b ∉ ex → ∃ sl, h'.get? b = some { o with slots := sl }
  free : ∀ b o, h.get? b = some o → H b = none → b ∉ ex → H' b = none
  there : ∀ b o, h.get? b = some o → b ∉ ex → ∃ o', h'.get? b = some o'
  tups : ∀ b xs, H b = some (.tup xs) → H' b = some (.tup xs)
  frzs : ∀ b o u, H b = some (.frz o u) → H' b = some (.frz o u)
  tbls : ∀ b ps, H b = some (.tbl ps) → ∃ more, H' b = some (.tbl (ps ++ more))
section
variable {fs fs' ex ex' : List Addr} {H H1 H2 : Hp} {h h1 h2 h' : Heap} {a x e : Addr} {o : HO}
theorem Un.any (u : Un fs ex H H1 h h1) {b : Addr} {ob : Obj} (q : h.get? b = some ob) (n : H b = none) (hx : b ∉ ex) : ∃ sl, h1.get? b = some { ob with slots := sl } := by
  by_cases hb : b ∈ fs
  · exact u.slot b ob q n hb hx
  · exact ⟨ob.slots, u.keep b ob q n hb hx⟩
theorem Un.kept (k : ∀ b u, h.get? b = some u → h'.get? b = some u) : Un fs ex H H h h' :=
  ⟨fun b ob q _ _ _ => k b ob q, fun b ob q _ _ _ => ⟨ob.slots, k b ob q⟩, fun _ _ _ n _ => n, fun b ob q _ => ⟨ob, k b ob q⟩, fun _ _ q => q, fun _ _ _ q => q, fun _ ps q => ⟨#[], by rw [q]; simp⟩⟩
theorem Un.refl : Un fs ex H H h h := Un.kept fun _ _ q => q
theorem Un.laid (k : ∀ b u, h.get? b = some u → h'.get? b = some u) (hp : h.objs.size ≤ a) (hn : H a = none) : Un fs ex H (upd H a o) h h' where
  keep := fun b u q _ _ _ => k b u q
  slot := fun b u q _ _ _ => ⟨u.slots, k b u q⟩
  free := fun b u q n _ => by rw [upd_ne (Nat.ne_of_lt (Nat.lt_of_lt_of_le (Heap.lt_size q) hp))]; exact n
  there := fun b u q _ => ⟨u, k b u q⟩
  tups := fun b xs q => by rw [upd_ne (ne_of_none q hn)]; exact q
  frzs := fun b u xs q => by rw [upd_ne (ne_of_none q hn)]; exact q
  tbls := fun b ps q => ⟨#[], by rw [upd_ne (ne_of_none q hn), q]; simp⟩
theorem Un.write (mu : Mut (H x)) (he : e = x ∨ H e = some (.own x)) (k : ∀ b u, b ≠ e → h.get? b = some u → h'.get? b = some u) (heo : ∃ u, h'.get? e = some u) : Un fs ex H (upd H x o) h h' := by
  have hx : ∀ b, H b = none → b ≠ x := fun b n z => by subst z; rw [n] at mu; exact mu
  have hb : ∀ b, H b = none → b ≠ e := fun b n z => by
    subst z
    rcases he with r | r
    · exact hx b n r
    · rw [n] at r; cases r
  have hm : ∀ b u, H b = some u → ¬ Mut (some u) → b ≠ x := fun b u q nm z => by subst z; rw [q] at mu; exact nm mu
  refine ⟨fun b u q n _ _ => k b u (hb b n) q, fun b u q n _ _ => ⟨u.slots, k b u (hb b n) q⟩, fun b u q n _ => by rw [upd_ne (hx b n)]; exact n, fun b u q _ => ?_,
    fun b xs q => by rw [upd_ne (hm b _ q fun z => z)]; exact q, fun b u xs q => by rw [upd_ne (hm b _ q fun z => z)]; exact q, fun b ps q => ⟨#[], by rw [upd_ne (hm b _ q fun z => z), q]; simp⟩⟩
  by_cases hbe : b = e
  · subst hbe; exact heo
  · exact ⟨u, k b u hbe q⟩
end
def trk (h : Heap) (H : Hp) : List Addr := (List.range h.objs.size).filter fun a => (H a).isSome
def hidT (h : Heap) (H : Hp) : Heap := PySem.W.hideAll h (trk h H)
theorem hidT_size (h : Heap) (H : Hp) : (hidT h H).objs.size = h.objs.size := PySem.W.hideAll_size _ _
theorem hidT_get {h : Heap} {H : Hp} {b : Addr} {o : Obj} (e : h.get? b = some o) (n : H b = none) : (hidT h H).get? b = some o :=
  PySem.W.hideAll_get _ e fun hm => by
    have q : (H b).isSome = true := (List.mem_filter.mp hm).2
    rw [n] at q; simp at q
theorem of_hidT {h : Heap} {H : Hp} {b : Addr} {o : Obj} (e : (hidT h H).get? b = some o) : h.get? b = some o ∧ H b = none := by
  have e' : h.get? b = some o := PySem.W.of_hideAll (trk h H) e
  refine ⟨e', ?_⟩
  cases q : H b with
  | none => rfl
  | some x =>
    have hm : b ∈ trk h H := List.mem_filter.mpr ⟨List.mem_range.mpr (Heap.lt_size e'), by simp [q]⟩
    have z : (hidT h H).get? b = none := PySem.W.hideAll_none (trk h H) hm
    rw [z] at e; cases e
def allNews (g h : Heap) (L : Addr) : List (Addr × Obj) := (List.range h.objs.size).filterMap fun a => if a = L ∨ (g.get? a).isSome = true then none else (h.get? a).map fun o => (a, o)
def rest (g h : Heap) (L d : Addr) : List (Addr × Obj) := (allNews g h L).filter fun p => decide (p.1 ≠ d)
end L2
namespace L2
open PySem PySem.Spec PyProof.Rows
structure Mod (K : PySem.W.Frag) (mg : Str → Option Value) (base : Heap) : Prop where
  kin : K.In base
  glob : base.Ns mainGlobals mg
  blt : ∃ mb, base.Ns builtinsNs mb ∧ ∀ x : Str, x ≠ "__name__" → mb x = bootBuiltins x
  nolimit : base.NoLimit
structure Cx where
  prog : Program
  w : World
  K : PySem.W.Frag
  mg : Str → Option Value
  base : Heap
  A : Around
  N : List Str
  s₀ : Shared
  H₀ : Hp
  env : Env
  outer : List Env
  stack : List Env
  ex : List Addr
  fn : Str → Bool
  calm : Bool
  pn : List (Addr × Obj)
  xe : Value → Shared → Prop
def frs (l : List Env) : List Addr := l.filterMap (·.frame)
abbrev Cx.fs (X : Cx) : List Addr := frs X.outer
def Vis (sc : Scope) (x : Str) : Prop := sc.names.lookup x = some .local ∨ sc.names.lookup x = some .cell ∨ sc.names.lookup x = some .free
def Loc (sc : Scope) (x : Str) : Prop := sc.names.lookup x = some .local ∨ sc.names.lookup x = some .cell
def Look (env : Env) (h : Heap) (m : Str → Option Value) (x : Str) (u : Value) : Prop :=
  (env.kindOf x = some .local ∧ m x = some u) ∨ ((env.kindOf x = some .cell ∨ env.kindOf x = some .free) ∧ ∃ c, env.cells.lookup x = some c ∧ h.IsCell c (some u))
structure Cx.Ok (X : Cx) : Prop where
  mod : Mod X.K X.mg X.base
  kind : X.env.scope.kind = .function
  glob : X.env.globals = mainGlobals
  blt : X.env.builtins = builtinsNs
  above : X.s₀.heap.objs.size ≤ X.env.locals
  inj : ∀ x y c, X.env.cells.lookup x = some c → X.env.cells.lookup y = some c → x = y
  has : ∀ x, (X.env.kindOf x = some .cell ∨ X.env.kindOf x = some .free) → ∃ c, X.env.cells.lookup x = some c
  cab : ∀ x c, X.fn x = true → X.env.cells.lookup x = some c → X.s₀.heap.objs.size ≤ c
  hd : X.calm = true → X.A.handled = none
  frames : X.A.frames = some X.stack
  stk : X.stack = X.outer ∨ (X.stack = X.env :: X.outer ∧ X.env.frame = some X.env.locals)
  exf : ∀ b ∈ X.ex, b ≠ X.env.locals ∧ ∀ x c, X.env.cells.lookup x = some c → c ≠ b
  bs : ∀ b o, X.base.get? b = some o → X.s₀.heap.get? b = some o ∧ X.H₀ b = none
  bsz : X.base.objs.size ≤ X.s₀.heap.objs.size
  noex : ∀ b o, X.base.get? b = some o → b ∉ X.ex
  exfs : ∀ b ∈ X.ex, b ∉ X.fs
  funs : X.s₀.heap.FunFrames X.base X.outer
  frf : ∀ b ∈ X.fs, X.H₀ b = none
structure Inv (X : Cx) (pins : List (Addr × Obj)) (σ : List (Option V)) (H : Hp) (s : Shared) : Prop where
  ok : X.Ok
  os : s.os = X.s₀.os
  bare : AllBare s.gens
  base : Un X.fs X.ex X.H₀ H X.s₀.heap s.heap
  loc : ∃ m, s.heap.Ns X.env.locals m ∧ ∀ (i : Nat) (x : Str) (v : V), X.N[i]? = some x → σ[i]? = some (some v) → Vis X.env.scope x → ∃ u, RelV v u ∧ Look X.env s.heap m x u
  cell : ∀ x c, X.env.cells.lookup x = some c → ∃ v, s.heap.IsCell c v
  free : H X.env.locals = none
  freeC : ∀ x c, X.env.cells.lookup x = some c → H c = none
  pin : ∀ p ∈ X.pn ++ pins, s.heap.get? p.1 = some p.2 ∧ H p.1 = none ∧ p.1 ≠ X.env.locals ∧ p.1 ∉ X.fs ∧ ∀ v, p.2.data ≠ .cell v
  hok : HOk X.prog X.w H s.heap
  len : σ.length = X.N.length
section
variable {X : Cx} {pins : List (Addr × Obj)} {σ : List (Option V)} {H H' : Hp} {s : Shared} {h' : Heap}
theorem Cx.Ok.nofr (ok : X.Ok) {b : Addr} {o : Obj} (e : X.base.get? b = some o) : b ∉ X.fs := fun hb => by
  have := (ok.funs.mem hb).1
  rw [e] at this; cases this
theorem Inv.bs (I : Inv X pins σ H s) : ∀ b o, X.base.get? b = some o → s.heap.get? b = some o ∧ H b = none := fun b o e =>
  ⟨I.base.keep b o (I.ok.bs b o e).1 (I.ok.bs b o e).2 (I.ok.nofr e) (I.ok.noex b o e), I.base.free b o (I.ok.bs b o e).1 (I.ok.bs b o e).2 (I.ok.noex b o e)⟩
theorem Inv.bk (I : Inv X pins σ H s) : ∀ b o, X.base.get? b = some o → s.heap.get? b = some o := fun b o e => (I.bs b o e).1
theorem Inv.mod (I : Inv X pins σ H s) : Mod X.K X.mg X.base := I.ok.mod
theorem Inv.kIn (I : Inv X pins σ H s) : X.K.In s.heap := I.ok.mod.kin.keeps I.bk
theorem Inv.lt (I : Inv X pins σ H s) : X.env.locals < s.heap.objs.size := let ⟨_, hn, _⟩ := I.loc; hn.lt
theorem Inv.sz (I : Inv X pins σ H s) : X.s₀.heap.objs.size ≤ s.heap.objs.size := Nat.le_trans I.ok.above (Nat.le_of_lt I.lt)
theorem Inv.nofs (I : Inv X pins σ H s) {a : Addr} (h : s.heap.objs.size ≤ a) : a ∉ X.fs := fun hb => by
  obtain ⟨_, o, ho, _⟩ := I.ok.funs.mem hb
  exact absurd (Nat.lt_of_lt_of_le (Heap.lt_size ho) (Nat.le_trans I.sz h)) (Nat.lt_irrefl _)
theorem Inv.cne (I : Inv X pins σ H s) : ∀ x c, X.env.cells.lookup x = some c → c ≠ X.env.locals := fun x c e z => by
  obtain ⟨v, o, ho, hd⟩ := I.cell x c e
  obtain ⟨m, ⟨o', es, ep, ho', hd', _⟩, _⟩ := I.loc
  rw [z, ho'] at ho; cases ho; rw [hd'] at hd; cases hd
theorem Inv.funs (I : Inv X pins σ H s) : s.heap.FunFrames X.base X.outer := by
  have all : ∀ (l : List Env), (∀ b ∈ frs l, b ∈ X.fs) → X.s₀.heap.FunFrames X.base l → s.heap.FunFrames X.base l := by
    intro l
    induction l with
    | nil => intro _ _; trivial
    | cons env r ih =>
      intro hs hl
      obtain ⟨hk, ⟨L, o, hf, hn, ho, hd⟩, hr⟩ := hl
      have hL : L ∈ X.fs := hs L (by unfold frs; rw [List.filterMap_cons, hf]; exact List.mem_cons_self)
      obtain ⟨sl, e⟩ := I.base.slot L o ho (I.ok.frf L hL) hL fun z => I.ok.exfs L z hL
      exact ⟨hk, ⟨L, _, hf, hn, e, hd⟩, ih (fun b hb => hs b (by unfold frs; rw [List.filterMap_cons, hf]; exact List.mem_cons_of_mem _ hb)) hr⟩
  exact all X.outer (fun _ hb => hb) I.ok.funs
theorem Inv.stack (I : Inv X pins σ H s) : s.heap.FunFrames X.base X.stack := by
  rcases I.ok.stk with e | ⟨e, hf⟩
  · rw [e]; exact I.funs
  · rw [e]
    obtain ⟨m, hn, _⟩ := I.loc
    refine .cons (by rw [I.ok.kind]; decide) hf hn ?_ I.funs
    exact Heap.get?_none_of_le (Nat.le_trans I.ok.bsz I.ok.above)
theorem Inv.stkSub (I : Inv X pins σ H s) : ∀ b ∈ frs X.stack, b ∈ X.env.locals :: X.fs := fun b hb => by
  rcases I.ok.stk with e | ⟨e, hf⟩
  · rw [e] at hb; exact List.mem_cons_of_mem _ hb
  · rw [e] at hb
    unfold frs at hb
    rw [List.filterMap_cons, hf] at hb
    exact hb
theorem Inv.stkFree (I : Inv X pins σ H s) : ∀ b ∈ frs X.stack, H b = none := fun b hb => by
  rcases List.mem_cons.mp (I.stkSub b hb) with e | hb
  · rw [e]; exact I.free
  · obtain ⟨_, o, ho, _⟩ := I.ok.funs.mem hb
    exact I.base.free b o ho (I.ok.frf b hb) fun z => I.ok.exfs b z hb
theorem Inv.step {g' : Array GenState} {t' : Nat} {d' : Drawn} {ch : List Addr} (I : Inv X pins σ H s)
    (hch : ∀ b ∈ ch, (b ∈ X.ex ∨ X.s₀.heap.objs.size ≤ b) ∧ b ≠ X.env.locals ∧ (∀ x c, X.env.cells.lookup x = some c → c ≠ b) ∧ ∀ p ∈ X.pn ++ pins, p.1 ≠ b)
    (keep : ∀ b o, b ≠ X.env.locals → b ∉ X.fs → b ∉ ch → s.heap.get? b = some o → H b = none → h'.get? b = some o)
    (slot : ∀ b o, b ≠ X.env.locals → b ∈ X.fs → b ∉ ch → s.heap.get? b = some o → H b = none → ∃ sl, h'.get? b = some { o with slots := sl }) (free : ∀ b o, b ∉ ch → s.heap.get? b = some o → H b = none → H' b = none)
    (there : ∀ b o, b ∉ ch → s.heap.get? b = some o → ∃ o', h'.get? b = some o')
    (tups : ∀ b xs, H b = some (.tup xs) → H' b = some (.tup xs)) (frzs : ∀ b o u, H b = some (.frz o u) → H' b = some (.frz o u)) (tbls : ∀ b ps, H b = some (.tbl ps) → ∃ more, H' b = some (.tbl (ps ++ more)))
    (ns : ∀ m, s.heap.Ns X.env.locals m → h'.Ns X.env.locals m) (hok : HOk X.prog X.w H' h') (hg : AllBare g') :
    Inv X pins σ H' { s with heap := h', gens := g', drawn := d', toks := t' } := by
  have neL : ∀ b o, X.s₀.heap.get? b = some o → b ≠ X.env.locals := fun b o e => Nat.ne_of_lt (Nat.lt_of_lt_of_le (Heap.lt_size e) I.ok.above)
  have neC : ∀ b o, X.s₀.heap.get? b = some o → b ∉ X.ex → b ∉ ch := fun b o e hx hb => by
    rcases (hch b hb).1 with z | z
    · exact hx z
    · exact absurd (Nat.lt_of_lt_of_le (Heap.lt_size e) z) (Nat.lt_irrefl _)
  have cellK : ∀ x c, X.env.cells.lookup x = some c → ∀ v, s.heap.IsCell c v → h'.IsCell c v := fun x c e v ⟨o, ho, hd⟩ => by
    have nch : c ∉ ch := fun z => (hch c z).2.2.1 x c e rfl
    by_cases hc : c ∈ X.fs
    · obtain ⟨sl, q⟩ := slot c o (I.cne x c e) hc nch ho (I.freeC x c e)
      exact ⟨_, q, hd⟩
    · exact ⟨o, keep c o (I.cne x c e) hc nch ho (I.freeC x c e), hd⟩
  refine ⟨I.ok, I.os, hg, ⟨fun b o e n hb hx => ?_, fun b o e n hb hx => ?_, fun b o e n hx => ?_, fun b o e hx => ?_, fun b xs e => tups b xs (I.base.tups b xs e), fun b o xs e => frzs b o xs (I.base.frzs b o xs e), fun b ps e => ?_⟩, ?_, fun x c e => ?_, ?_, fun x c e => ?_, fun p hp => ?_, hok, I.len⟩
  · exact keep b o (neL b o e) hb (neC b o e hx) (I.base.keep b o e n hb hx) (I.base.free b o e n hx)
  · obtain ⟨sl, e1⟩ := I.base.slot b o e n hb hx
    obtain ⟨sl', e2⟩ := slot b _ (neL b o e) hb (neC b o e hx) e1 (I.base.free b o e n hx)
    exact ⟨sl', e2⟩
  · obtain ⟨o', e1⟩ := I.base.there b o e hx
    exact free b o' (neC b o e hx) e1 (I.base.free b o e n hx)
  · obtain ⟨o', e1⟩ := I.base.there b o e hx
    exact there b o' (neC b o e hx) e1
  · obtain ⟨m1, e1⟩ := I.base.tbls b ps e
    obtain ⟨m2, e2⟩ := tbls b _ e1
    exact ⟨m1 ++ m2, by rw [e2, Array.append_assoc]⟩
  · obtain ⟨m, hn, hl⟩ := I.loc
    refine ⟨m, ns m hn, fun i x v e1 e2 e3 => ?_⟩
    obtain ⟨u, r, l⟩ := hl i x v e1 e2 e3
    refine ⟨u, r, ?_⟩
    rcases l with l | ⟨k, c, e, z⟩
    · exact .inl l
    · exact .inr ⟨k, c, e, cellK x c e _ z⟩
  · obtain ⟨v, z⟩ := I.cell x c e
    exact ⟨v, cellK x c e v z⟩
  · obtain ⟨m, ⟨o, _, _, ho, _⟩, _⟩ := I.loc
    exact free _ o (fun z => (hch _ z).2.1 rfl) ho I.free
  · obtain ⟨v, o, ho, hd⟩ := I.cell x c e
    exact free c o (fun z => (hch c z).2.2.1 x c e rfl) ho (I.freeC x c e)
  · obtain ⟨e, n, ne, nf, d⟩ := I.pin p hp
    have nch : p.1 ∉ ch := fun z => (hch p.1 z).2.2.2 p hp rfl
    exact ⟨keep p.1 p.2 ne nf nch e n, free p.1 p.2 nch e n, ne, nf, d⟩
theorem Inv.un {t' : Nat} (I : Inv X pins σ H s) (u : Un X.fs [] H H' s.heap h') (hok : HOk X.prog X.w H' h') : Inv X pins σ H' { s with heap := h', toks := t' } := by
  obtain ⟨m, ⟨o, es, ep, ho, r⟩, _⟩ := id I.loc
  obtain ⟨sl, hL⟩ := u.any ho I.free (by simp)
  exact I.step (g' := s.gens) (d' := s.drawn) (ch := []) (fun _ z => nomatch z) (fun b o _ hb _ e n => u.keep b o e n hb (by simp)) (fun b o _ hb _ e n => u.slot b o e n hb (by simp)) (fun b o _ e n => u.free b o e n (by simp)) (fun b o _ e => u.there b o e (by simp)) u.tups u.frzs u.tbls (fun m' hm => by
    obtain ⟨o', es', ep', ho', r'⟩ := hm
    rw [ho] at ho'; cases ho'
    exact ⟨_, es', ep', hL, r'⟩) hok I.bare
theorem Inv.call {g' : Array GenState} {t' : Nat} {d' : Drawn} {ch : List Addr} (I : Inv X pins σ H s) (u : Un (frs X.stack) ch H H' s.heap h') (hok : HOk X.prog X.w H' h') (hg : AllBare g')
    (hch : ∀ b ∈ ch, (b ∈ X.ex ∨ X.s₀.heap.objs.size ≤ b) ∧ b ≠ X.env.locals ∧ (∀ x c, X.env.cells.lookup x = some c → c ≠ b) ∧ ∀ p ∈ X.pn ++ pins, p.1 ≠ b) :
    Inv X pins σ H' { s with heap := h', gens := g', drawn := d', toks := t' } := by
  obtain ⟨m, ⟨o, es, ep, ho, r⟩, _⟩ := id I.loc
  obtain ⟨sl, hL⟩ := u.any ho I.free fun z => (hch _ z).2.1 rfl
  exact I.step (ch := ch) hch (fun b o hL hb hc e n => u.keep b o e n (fun z => (List.mem_cons.mp (I.stkSub b z)).elim hL hb) hc) (fun b o _ _ hc e n => u.any e n hc) (fun b o hc e n => u.free b o e n hc) (fun b o hc e => u.there b o e hc) u.tups u.frzs u.tbls (fun m' hm => by
    obtain ⟨o', es', ep', ho', r'⟩ := hm
    rw [ho] at ho'; cases ho'
    exact ⟨_, es', ep', hL, r'⟩) hok hg
theorem Inv.turned {t' : Nat} {it : Addr} (I : Inv X pins σ H s) (k : ∀ b o, b ≠ it → s.heap.get? b = some o → h'.get? b = some o) (hn : H it = none) (hL : it ≠ X.env.locals)
    (h1 : it ∈ X.ex ∨ X.s₀.heap.objs.size ≤ it) (h2 : ∀ x c, X.env.cells.lookup x = some c → c ≠ it) (h3 : ∀ p ∈ X.pn ++ pins, p.1 ≠ it) : Inv X pins σ H { s with heap := h', toks := t' } := by
  have nit : ∀ b u, H b = some u → b ≠ it := fun b u e z => by rw [z, hn] at e; cases e
  refine I.step (g' := s.gens) (d' := s.drawn) (ch := [it]) (fun b hb => ?_) (fun b o _ _ hc e _ => k b o (fun z => hc (by simp [z])) e) (fun b o _ _ hc e _ => ⟨o.slots, k b o (fun z => hc (by simp [z])) e⟩) (fun _ _ _ _ n => n)
    (fun b o hc e => ⟨o, k b o (fun z => hc (by simp [z])) e⟩) (fun _ _ e => e) (fun _ _ _ e => e) (fun b ps e => ⟨#[], by rw [e]; simp⟩) (fun m hm => ?_) (fun b u e => ?_) I.bare
  · have e : b = it := by simpa using hb
    subst e
    exact ⟨h1, hL, h2, h3⟩
  · obtain ⟨o, es, ep, ho, r⟩ := hm
    exact ⟨o, es, ep, k _ o (Ne.symm hL) ho, r⟩
  · refine (I.hok b u e).stay (fun c v hc q => k c v ?_ q) (fun _ q => q) fun _ _ q => q
    rcases hc with z | z
    · rw [z]; exact nit b u e
    · exact nit c _ z
theorem Inv.tok (I : Inv X pins σ H s) (t : Nat) : Inv X pins σ H { s with toks := t } := I.un (h' := s.heap) (t' := t) Un.refl I.hok
theorem Inv.kept {t' : Nat} (I : Inv X pins σ H s) (k : ∀ b u, s.heap.get? b = some u → h'.get? b = some u) : Inv X pins σ H { s with heap := h', toks := t' } := I.un (Un.kept k) (I.hok.kept k)
theorem Inv.laid {a : Addr} {o : HO} {t' : Nat} (I : Inv X pins σ H s) (k : ∀ b u, s.heap.get? b = some u → h'.get? b = some u) (hp : s.heap.objs.size ≤ a) (new : ObjOk X.prog X.w (upd H a o) h' a o) :
    Inv X pins σ (upd H a o) { s with heap := h', toks := t' } := I.un (Un.laid k hp (I.hok.fresh hp)) (I.hok.laid k hp new)
theorem Inv.write {x e : Addr} {o : HO} {t' : Nat} (I : Inv X pins σ H s) (mu : Mut (H x)) (he : e = x ∨ H e = some (.own x)) (k : ∀ b u, b ≠ e → s.heap.get? b = some u → h'.get? b = some u) (heo : ∃ u, h'.get? e = some u)
    (new : ObjOk X.prog X.w (upd H x o) h' x o) : Inv X pins σ (upd H x o) { s with heap := h', toks := t' } := I.un (Un.write mu he k heo) (I.hok.write mu he k heo new)
theorem Inv.pins_of {pins' : List (Addr × Obj)} (I : Inv X pins σ H s) (h : ∀ p ∈ pins', s.heap.get? p.1 = some p.2 ∧ H p.1 = none ∧ p.1 ≠ X.env.locals ∧ p.1 ∉ X.fs ∧ ∀ v, p.2.data ≠ .cell v) : Inv X pins' σ H s :=
  ⟨I.ok, I.os, I.bare, I.base, I.loc, I.cell, I.free, I.freeC, fun p hp => (List.mem_append.mp hp).elim (fun z => I.pin p (List.mem_append_left _ z)) (h p), I.hok, I.len⟩
theorem nodup_ix {N : List Str} (hN : N.Nodup) {i j : Nat} {x : Str} (a : N[i]? = some x) (b : N[j]? = some x) : i = j := by
  obtain ⟨h1, e1⟩ := List.getElem?_eq_some_iff.mp a
  obtain ⟨h2, e2⟩ := List.getElem?_eq_some_iff.mp b
  exact (List.getElem_inj hN).mp (e1.trans e2.symm)
theorem store_ok2 {M : Model} {A : Around} {E : Value → Shared → Prop} {i : Nat} {x : Str} {v : V} {u : Value} {Q : Unit → Shared → Prop} (I : Inv X pins σ H s) (hN : X.N.Nodup) (hi : X.N[i]? = some x) (hx : Loc X.env.scope x) (r : RelV v u)
    (h : ∀ s', Inv X pins (σ.set i (some v)) H s' → (∃ a, Heap.SameBut a s.heap s'.heap ∧ (a = X.env.locals ∨ X.env.cells.lookup x = some a)) → Q () s') (hf : X.fn x = true ∨ X.env.scope.names.lookup x = some .local := by first | exact .inl rfl | exact .inr rfl | assumption) : wpAny M A (storeName X.env x u) Q E s := by
  obtain ⟨m, hn, hl⟩ := id I.loc
  have hcls : (X.env.scope.kind == .class || (X.env.scope.kind == .module && X.env.locals != X.env.globals)) = false := by rw [I.ok.kind]; rfl
  have hiσ : i < σ.length := by rw [I.len]; exact (List.getElem?_eq_some_iff.mp hi).1
  have cne := I.cne
  have tracked : ∀ {a : Addr} {h' : Heap}, (∃ o, s.heap.get? a = some o ∧ H a = none) → Heap.SameBut a s.heap h' → HOk X.prog X.w H h' := fun {a h'} ha hs b ob e => by
    obtain ⟨_, _, hfree⟩ := ha
    refine (I.hok b ob e).stay (fun c w' hc q => (hs.2 c ?_).trans q) (fun _ q => q) fun _ _ q => q
    rintro rfl
    rcases hc with rfl | hc
    · rw [hfree] at e; cases e
    · rw [hfree] at hc; cases hc
  rcases hx with hk | hk
  · refine wpAny_storeName_local hk hn (fun h' hn' hs => ?_) hcls
    obtain ⟨oL, _, _, hoL, _⟩ := id hn
    refine h _ ⟨I.ok, I.os, I.bare, ⟨fun b o e n hb hx => ?_, fun b o e n hb hx => ?_, I.base.free, fun b o e hx => ?_, I.base.tups, I.base.frzs, I.base.tbls⟩, ⟨_, hn', fun j y v' e1 e2 e3 => ?_⟩, fun y c e => ?_, I.free, I.freeC, fun p hp => ?_, tracked ⟨oL, hoL, I.free⟩ hs, by simpa using I.len⟩ ⟨_, hs, .inl rfl⟩
    · exact (hs.2 b (Nat.ne_of_lt (Nat.lt_of_lt_of_le (Heap.lt_size e) I.ok.above))).trans (I.base.keep b o e n hb hx)
    · obtain ⟨sl, e1⟩ := I.base.slot b o e n hb hx
      exact ⟨sl, (hs.2 b (Nat.ne_of_lt (Nat.lt_of_lt_of_le (Heap.lt_size e) I.ok.above))).trans e1⟩
    · obtain ⟨o', e1⟩ := I.base.there b o e hx
      exact ⟨o', (hs.2 b (Nat.ne_of_lt (Nat.lt_of_lt_of_le (Heap.lt_size e) I.ok.above))).trans e1⟩
    · by_cases hj : j = i
      · subst hj
        rw [hi] at e1; cases e1
        rw [List.getElem?_set_self hiσ] at e2
        cases e2
        exact ⟨u, r, .inl ⟨hk, by simp⟩⟩
      · rw [List.getElem?_set_ne (Ne.symm hj)] at e2
        obtain ⟨u', r', q⟩ := hl j y v' e1 e2 e3
        refine ⟨u', r', ?_⟩
        rcases q with ⟨k, e⟩ | ⟨k, c, e, z⟩
        · refine .inl ⟨k, ?_⟩
          have : y ≠ x := fun e => hj (nodup_ix hN e1 (e ▸ hi))
          simp [this, e]
        · exact .inr ⟨k, c, e, z.sameBut hs (cne y c e)⟩
    · obtain ⟨w', z⟩ := I.cell y c e
      exact ⟨w', z.sameBut hs (cne y c e)⟩
    · obtain ⟨e, n, ne, nf, d⟩ := I.pin p hp
      exact ⟨(hs.2 p.1 ne).trans e, n, ne, nf, d⟩
  · have hfn : X.fn x = true := by
      rcases hf with z | z
      · exact z
      · rw [z] at hk; cases hk
    obtain ⟨c, hc⟩ := I.ok.has x (.inl hk)
    obtain ⟨w', z⟩ := I.cell x c hc
    refine wpAny_storeName_cell I.ok.kind hk hc z (fun h' hc' hs => ?_)
    obtain ⟨oc, hoc, hocd⟩ := id z
    refine h { s with heap := h' } ⟨I.ok, I.os, I.bare, ⟨fun b o e n hb hx => ?_, fun b o e n hb hx => ?_, I.base.free, fun b o e hx => ?_, I.base.tups, I.base.frzs, I.base.tbls⟩, ⟨m, hn.sameBut hs (Ne.symm (cne x c hc)), fun j y v' e1 e2 e3 => ?_⟩, fun y c' e => ?_, I.free, I.freeC, fun p hp => ?_, tracked ⟨oc, hoc, I.freeC x c hc⟩ hs, by simpa using I.len⟩ ⟨c, hs, .inr hc⟩
    · exact (hs.2 b (Nat.ne_of_lt (Nat.lt_of_lt_of_le (Heap.lt_size e) (I.ok.cab x c hfn hc)))).trans (I.base.keep b o e n hb hx)
    · obtain ⟨sl, e1⟩ := I.base.slot b o e n hb hx
      exact ⟨sl, (hs.2 b (Nat.ne_of_lt (Nat.lt_of_lt_of_le (Heap.lt_size e) (I.ok.cab x c hfn hc)))).trans e1⟩
    · obtain ⟨o', e1⟩ := I.base.there b o e hx
      exact ⟨o', (hs.2 b (Nat.ne_of_lt (Nat.lt_of_lt_of_le (Heap.lt_size e) (I.ok.cab x c hfn hc)))).trans e1⟩
    · by_cases hj : j = i
      · subst hj
        rw [hi] at e1; cases e1
        rw [List.getElem?_set_self hiσ] at e2
        cases e2
        exact ⟨u, r, .inr ⟨.inl hk, c, hc, hc'⟩⟩
      · rw [List.getElem?_set_ne (Ne.symm hj)] at e2
        obtain ⟨u', r', q⟩ := hl j y v' e1 e2 e3
        refine ⟨u', r', ?_⟩
        rcases q with q | ⟨k, c', e, z'⟩
        · exact .inl q
        · refine .inr ⟨k, c', e, z'.sameBut hs ?_⟩
          rintro rfl
          exact hj (nodup_ix hN e1 (I.ok.inj _ _ _ e hc ▸ hi))
    · by_cases hcc : c' = c
      · subst hcc; exact ⟨_, hc'⟩
      · obtain ⟨w2, z2⟩ := I.cell y c' e
        exact ⟨w2, z2.sameBut hs hcc⟩
    · obtain ⟨e, n, ne, nf, d⟩ := I.pin p hp
      refine ⟨(hs.2 p.1 ?_).trans e, n, ne, nf, d⟩
      intro q
      rw [q, hoc] at e
      have q' : oc = p.2 := Option.some.inj e
      exact d w' (by rw [← q']; exact hocd)
theorem store_ok {M : Model} {A : Around} {E : Value → Shared → Prop} {i : Nat} {x : Str} {v : V} {u : Value} {Q : Unit → Shared → Prop} (I : Inv X pins σ H s) (hN : X.N.Nodup) (hi : X.N[i]? = some x) (hx : Loc X.env.scope x) (r : RelV v u)
    (h : ∀ s', Inv X pins (σ.set i (some v)) H s' → Q () s') (hf : X.fn x = true ∨ X.env.scope.names.lookup x = some .local := by first | exact .inl rfl | exact .inr rfl | assumption) : wpAny M A (storeName X.env x u) Q E s :=
  store_ok2 I hN hi hx r (fun s' I' _ => h s' I') hf
theorem Inv.call' {s' : Shared} {ch : List Addr} (I : Inv X pins σ H s) (ho : s'.os = s.os) (u : Un (frs X.stack) ch H H' s.heap s'.heap) (hok : HOk X.prog X.w H' s'.heap) (hg : AllBare s'.gens)
    (hch : ∀ b ∈ ch, (b ∈ X.ex ∨ X.s₀.heap.objs.size ≤ b) ∧ b ≠ X.env.locals ∧ (∀ x c, X.env.cells.lookup x = some c → c ≠ b) ∧ ∀ p ∈ X.pn ++ pins, p.1 ≠ b) : Inv X pins σ H' s' := by
  obtain ⟨h', g', d', t', o'⟩ := s'
  have e : o' = s.os := ho
  subst e
  exact I.call (g' := g') (t' := t') (d' := d') u hok hg hch
end
abbrev XK := Value → Option Addr → Hp → Prop
abbrev St := List (Option V)
abbrev VK := V → Hp → Prop
abbrev TE := St → Hp → VK → Prop
abbrev TT := St → Hp → (Bool → Hp → Prop) → Prop
abbrev TA := St → Hp → (List V → Hp → Prop) → Prop
structure Ends where
  nx : St → Hp → Prop
  rt : VK
  bk : St → Hp → Prop := fun _ _ => False
  ct : St → Hp → Prop := fun _ _ => False
abbrev TS := Ends → St → Hp → Prop
def EP (X : Cx) (pins : List (Addr × Obj)) (σ : St) (Q : VK) (u : Value) (s' : Shared) : Prop := ∃ v H', Inv X pins σ H' s' ∧ RelV v u ∧ Q v H'
def TP (X : Cx) (pins : List (Addr × Obj)) (σ : St) (Q : Bool → Hp → Prop) (b : Bool) (s' : Shared) : Prop := ∃ H', Inv X pins σ H' s' ∧ Q b H'
def AP (X : Cx) (pins : List (Addr × Obj)) (σ : St) (Q : List V → Hp → Prop) (us : List Value) (s' : Shared) : Prop := ∃ vs H', Inv X pins σ H' s' ∧ Vals vs us ∧ Q vs H'
def SP (X : Cx) (pins : List (Addr × Obj)) (D : Ends) (f : Flow) (s' : Shared) : Prop :=
  match f with
  | .next => ∃ σ' H', Inv X pins σ' H' s' ∧ D.nx σ' H'
  | .brk => ∃ σ' H', Inv X pins σ' H' s' ∧ D.bk σ' H'
  | .cont => ∃ σ' H', Inv X pins σ' H' s' ∧ D.ct σ' H'
  | .ret u => ∃ v σ' H', Inv X pins σ' H' s' ∧ RelV v u ∧ D.rt v H'
def PE (X : Cx) (e : Expr) (t : TE) : Prop :=
  ∀ (pins : List (Addr × Obj)) (s : Shared) (σ : St) (H : Hp) (Q : VK), Inv X pins σ H s → t σ H Q → wpAny (model X.prog X.w) X.A (eval e X.env) (EP X pins σ Q) X.xe s
def PT (X : Cx) (e : Expr) (t : TT) : Prop :=
  ∀ (pins : List (Addr × Obj)) (s : Shared) (σ : St) (H : Hp) (Q : Bool → Hp → Prop), Inv X pins σ H s → t σ H Q → wpAny (model X.prog X.w) X.A (isTrue e X.env (eval e X.env)) (TP X pins σ Q) X.xe s
def PW (X : Cx) (e : Expr) (t : TT) : Prop :=
  ∀ (whole : Sem Value) (pins : List (Addr × Obj)) (s : Shared) (σ : St) (H : Hp) (Q : Bool → Hp → Prop), Inv X pins σ H s → t σ H Q → wpAny (model X.prog X.w) X.A (isTrue e X.env whole) (TP X pins σ Q) X.xe s
theorem PW.pt {X : Cx} {e : Expr} {t : TT} (h : PW X e t) : PT X e t := h _
def PA (X : Cx) (es : List Expr) (t : TA) : Prop :=
  ∀ (pos : Pos) (pins : List (Addr × Obj)) (s : Shared) (σ : St) (H : Hp) (Q : List V → Hp → Prop), Inv X pins σ H s → t σ H Q → wpAny (model X.prog X.w) X.A (spliced (backTo pos (starEach es X.env))) (AP X pins σ Q) X.xe s
def PS (X : Cx) (st : Stmt) (t : TS) : Prop :=
  ∀ (pins : List (Addr × Obj)) (s : Shared) (σ : St) (H : Hp) (D : Ends), Inv X pins σ H s → t D σ H → wpAny (model X.prog X.w) X.A (exec st X.env) (SP X pins D) X.xe s
def PSs (X : Cx) (st : List Stmt) (t : TS) : Prop :=
  ∀ (pins : List (Addr × Obj)) (s : Shared) (σ : St) (H : Hp) (D : Ends), Inv X pins σ H s → t D σ H → wpAny (model X.prog X.w) X.A (execs st X.env) (SP X pins D) X.xe s
theorem thn {α : Type} {t : Sem α} {Q Q' : α → Shared → Prop} {M : Model} {A : Around} {E : Value → Shared → Prop} {s : Shared} (h : wpAny M A t Q E s) (hQ : ∀ a s, Q a s → Q' a s) : wpAny M A t Q' E s := wpAny_mono h hQ fun _ _ x => x
end L2
namespace L2
open PySem PySem.Spec PyProof.Rows
section
variable {X : Cx}
def tVar (i : Nat) : TE := fun σ H Q => ∃ v, σ[i]? = some (some v) ∧ Q v H
def tC (v : V) : TE := fun _ H Q => Q v H
theorem pe_var {i : Nat} {x : Str} {pos : Pos} (hN : X.N[i]? = some x) (hv : Vis X.env.scope x) (hd : (x == ("__debug__" : Str)) = false := by decide) (hcd : (x == ("__classdict__" : Str)) = false := by decide) : PE X (.Name x pos) (tVar i) := by
  intro pins s σ H Q I h
  obtain ⟨v, e, h⟩ := h
  obtain ⟨m, hn, hl⟩ := I.loc
  obtain ⟨u, r, l⟩ := hl i x v hN e hv
  have fin : EP X pins σ Q u s := ⟨v, H, I, r, h⟩
  rcases l with ⟨hk, hm⟩ | ⟨hk, c, hc, hcell⟩
  · exact wpAny_Name (wpAny_loadName_local I.ok.kind hk hn hm fin) hd
  · rcases hk with hk | hk
    · exact wpAny_Name (wpAny_loadName_cell I.ok.kind hk hc hcell fin) hd
    · exact wpAny_Name (wpAny_loadName_free I.ok.kind hk hc hcell fin hcd) hd
theorem pe_int {i j pos} : PE X (.Constant (.int i) j pos) (tC (.int i)) := fun _ _ _ H _ I h => wpAny_Constant_int ⟨.int i, H, I.tok _, ⟨_, rfl⟩, h⟩
theorem pe_bl {b j pos} : PE X (.Constant (.bool b) j pos) (tC (.bl b)) := fun _ _ _ H _ I h => Constant_bool ⟨.bl b, H, I, rfl, h⟩
theorem pe_str {x j pos} : PE X (.Constant (.str x) j pos) (tC (.str x)) := fun _ _ _ H _ I h => Calls.Constant_str ⟨.str x, H, I.tok _, ⟨_, rfl⟩, h⟩
def Gl (X : Cx) (x : Str) : Prop := X.env.kindOf x = some .globalImplicit
theorem ld_glob {E : Value → Shared → Prop} {pins : List (Addr × Obj)} {s : Shared} {σ : St} {H : Hp} {x : Str} {u : Value} {pos : Pos} {Q : Value → Shared → Prop} (I : Inv X pins σ H s) (hg : Gl X x) (hm : X.mg x = some u) (h : Q u s)
    (hd : (x == ("__debug__" : Str)) = false := by decide) : wpAny (model X.prog X.w) X.A (eval (.Name x pos) X.env) Q E s :=
  Calls.Name_function_global I.ok.kind hg (Calls.loadGlobal_global (by rw [I.ok.glob]; exact I.mod.glob.keeps I.bk) hm h) hd
theorem ld_blt {E : Value → Shared → Prop} {pins : List (Addr × Obj)} {s : Shared} {σ : St} {H : Hp} {x : Str} {u : Value} {pos : Pos} {Q : Value → Shared → Prop} (I : Inv X pins σ H s) (hg : Gl X x) (hm : X.mg x = none) (hv : bootBuiltins x = some u) (h : Q u s)
    (hn : x ≠ "__name__" := by decide) (hd : (x == ("__debug__" : Str)) = false := by decide) : wpAny (model X.prog X.w) X.A (eval (.Name x pos) X.env) Q E s := by
  obtain ⟨mb, h1, h2⟩ := I.mod.blt
  exact Calls.Name_function_global I.ok.kind hg (Calls.loadGlobal_builtin (by rw [I.ok.glob]; exact I.mod.glob.keeps I.bk) hm (by rw [I.ok.blt]; exact h1.keeps I.bk) ((h2 x hn).trans hv) h) hd
theorem pe_glob {x : Str} {v : V} {u : Value} {pos : Pos} (hg : Gl X x) (hm : X.mg x = some u) (r : RelV v u) (hd : (x == ("__debug__" : Str)) = false := by decide) : PE X (.Name x pos) (tC v) :=
  fun _ _ _ H _ I h => ld_glob I hg hm ⟨v, H, I, r, h⟩ hd
theorem pe_bltn {x : Str} {v : V} {u : Value} {pos : Pos} (hg : Gl X x) (hm : X.mg x = none) (hv : bootBuiltins x = some u) (r : RelV v u) (hn : x ≠ "__name__" := by decide) (hd : (x == ("__debug__" : Str)) = false := by decide) : PE X (.Name x pos) (tC v) :=
  fun _ _ _ H _ I h => ld_blt I hg hm hv ⟨v, H, I, r, h⟩ hn hd
def t2I (ta tb : TE) (k : Int → Int → Hp → Prop) : St → Hp → Prop := fun σ H => ta σ H fun x H1 => tb σ H1 fun y H2 => ∃ i j, x = .int i ∧ y = .int j ∧ k i j H2
def tAdd (ta tb : TE) : TE := fun σ H Q => t2I ta tb (fun i j H2 => Q (.int (i + j)) H2) σ H
def tSub (ta tb : TE) : TE := fun σ H Q => t2I ta tb (fun i j H2 => Q (.int (i - j)) H2) σ H
def tMul (ta tb : TE) : TE := fun σ H Q => t2I ta tb (fun i j H2 => (-(2 ^ 64) < i ∧ i < 2 ^ 64) ∧ Q (.int (i * j)) H2) σ H
variable {a b : Expr} {ta tb : TE} {pos : Pos}
def PC (X : Cx) (op : CmpOp) (a b : Expr) (t : TE) : Prop :=
  ∀ (pins : List (Addr × Obj)) (s : Shared) (σ : St) (H : Hp) (Q : VK), Inv X pins σ H s → t σ H Q →
    wpAny (model X.prog X.w) X.A (eval a X.env) (fun v s₁ => wpAny (model X.prog X.w) X.A (eval b X.env) (fun u s₂ => wpAny (model X.prog X.w) X.A (compareOp op v u) (EP X pins σ Q) X.xe s₂) X.xe s₁) X.xe s
def tCmp (p : Int → Int → Bool) (ta tb : TE) : TE := fun σ H Q => t2I ta tb (fun i j H2 => Q (.bl (p i j)) H2) σ H
abbrev tLt : TE → TE → TE := tCmp fun i j => decide (i < j)
abbrev tLe : TE → TE → TE := tCmp fun i j => decide (i ≤ j)
abbrev tGt : TE → TE → TE := tCmp fun i j => decide (j < i)
abbrev tGe : TE → TE → TE := tCmp fun i j => decide (j ≤ i)
abbrev tEqI : TE → TE → TE := tCmp fun i j => decide (i = j)
abbrev tNeI : TE → TE → TE := tCmp fun i j => !decide (i = j)
def tIsN (ta : TE) : TE := fun σ H Q => ta σ H fun x H1 => Q (.bl (decide (x = .non))) H1
def tNotN (ta : TE) : TE := fun σ H Q => ta σ H fun x H1 => Q (.bl (!decide (x = .non))) H1
def tB (t : TE) : TT := fun σ H Q => t σ H fun x H1 => ∃ c, x = .bl c ∧ Q c H1
theorem pt_cmp {op : CmpOp} {t : TE} (h : PC X op a b t) (h1 : behindInMarks op b = false := by first | exact nobehind _ (by decide) (by decide) | rfl) : PT X (.Compare a [op] [b] pos) (tB t) := by
  intro pins s σ H Q I hw
  refine wpAny_isTrue_Compare1 (thn (h pins s σ H _ I hw) fun v s1 h1 => thn h1 fun u s2 h2 => thn h2 fun c s3 ⟨x, H1, I1, r1, q1⟩ => ?_) h1
  obtain ⟨d, rfl, q⟩ := q1
  cases r1
  exact wpAny_truthy_bool ⟨H1, I1, q⟩
theorem pt_val {e : Expr} {t : TE} (h : PE X e t) (he : ∀ whole, isTrue e X.env whole = (do let v ← whole; standAt e.pos; holding [v] (truthy v)) := by intro _; rfl) : PT X e (tB t) := by
  intro pins s σ H Q I hw
  refine isTrue_plain (thn (h pins s σ H _ I hw) fun v s1 ⟨x, H1, I1, r1, q1⟩ => ?_) (he _)
  obtain ⟨d, rfl, q⟩ := q1
  cases r1
  exact wpAny_truthy_bool ⟨H1, I1, q⟩
variable {tA tB' : TT} {rest : List Expr}
def tAnd (t u : TT) : TT := fun σ H Q => t σ H fun c H1 => if c = true then u σ H1 Q else Q false H1
def tOr (t u : TT) : TT := fun σ H Q => t σ H fun c H1 => if c = true then Q true H1 else u σ H1 Q
def tNot (t : TT) : TT := fun σ H Q => t σ H fun c H1 => Q (!c) H1
theorem pw_and1 (ha : PT X a tA) : PW X (.BoolOp .And [a] pos) tA := by
  intro wh pins s σ H Q I h
  refine isTrue_and (thn (ha pins s σ H Q I h) fun c s1 e => ?_)
  cases c with
  | true => exact isTrue_and_nil e
  | false => exact e
theorem pw_or1 (ha : PT X a tA) : PW X (.BoolOp .Or [a] pos) tA := by
  intro wh pins s σ H Q I h
  refine isTrue_or (thn (ha pins s σ H Q I h) fun c s1 e => ?_)
  cases c with
  | false => exact isTrue_or_nil e
  | true => exact e
theorem pw_and (ha : PT X a tA) (hb : PW X (.BoolOp .And (b :: rest) pos) tB') : PW X (.BoolOp .And (a :: b :: rest) pos) (tAnd tA tB') := by
  intro wh pins s σ H Q I h
  refine isTrue_and (thn (ha pins s σ H _ I h) fun c s1 ⟨H1, I1, q1⟩ => ?_)
  cases c with
  | true => exact hb wh pins s1 σ H1 Q I1 q1
  | false => exact ⟨H1, I1, q1⟩
theorem pw_or (ha : PT X a tA) (hb : PW X (.BoolOp .Or (b :: rest) pos) tB') : PW X (.BoolOp .Or (a :: b :: rest) pos) (tOr tA tB') := by
  intro wh pins s σ H Q I h
  refine isTrue_or (thn (ha pins s σ H _ I h) fun c s1 ⟨H1, I1, q1⟩ => ?_)
  cases c with
  | true => exact ⟨H1, I1, q1⟩
  | false => exact hb wh pins s1 σ H1 Q I1 q1
theorem pt_not (ha : PT X a tA) : PT X (.UnaryOp .Not a pos) (tNot tA) := by
  intro pins s σ H Q I h
  exact isTrue_not (ha pins s σ H (fun c H1 => Q (!c) H1) I h)
def tAndV (ta tb : TE) : TE := fun σ H Q => ta σ H fun x H1 => ∃ c, x = .bl c ∧ if c = true then tb σ H1 Q else Q (.bl false) H1
def tOrV (ta tb : TE) : TE := fun σ H Q => ta σ H fun x H1 => ∃ c, x = .bl c ∧ if c = true then Q (.bl true) H1 else tb σ H1 Q
def tNotV (ta : TE) : TE := fun σ H Q => ta σ H fun x H1 => ∃ c, x = .bl c ∧ Q (.bl (!c)) H1
theorem pe_one {op} {t : TE} (h : PE X a t) : PE X (.BoolOp op [a] pos) t := fun pins s σ H Q I hw => BoolOp_one (h pins s σ H Q I hw)
theorem pe_and (ha : PE X a ta) (hb : PE X (.BoolOp .And (b :: rest) pos) tb) : PE X (.BoolOp .And (a :: b :: rest) pos) (tAndV ta tb) := by
  intro pins s σ H Q I h
  refine BoolOp_and (thn (ha pins s σ H _ I h) fun v s1 ⟨x, H1, I1, r1, q1⟩ => ?_)
  obtain ⟨c, rfl, q1⟩ := q1
  cases r1
  refine wpAny_truthy_bool ?_
  cases c with
  | true => exact hb pins s1 σ H1 Q I1 q1
  | false => exact ⟨.bl false, H1, I1, rfl, q1⟩
def tIf (t : TT) (ta tb : TE) : TE := fun σ H Q => t σ H fun c H1 => if c = true then ta σ H1 Q else tb σ H1 Q
end
end L2
namespace L2
open PySem PySem.Spec PyProof.Rows
def SqL (K : PySem.W.Frag) (H : Hp) (a : Addr) (xs : List V) : Prop :=
  Rd H a (.lst xs) ∨
    ∃ (o : Obj) (its : Array Value) (n : Nat), K.lookup a = some o ∧ o.cls = .type "list" ∧ o.dict = none ∧ o.data = .seq its n ∧ its.size ≤ sizeLine ∧ Vals xs its.toList
def SqT (K : PySem.W.Frag) (H : Hp) (a : Addr) (xs : List V) : Prop :=
  Rd H a (.tup xs) ∨
    ∃ (o : Obj) (its : Array Value) (n : Nat), K.lookup a = some o ∧ o.cls = .type "tuple" ∧ o.data = .seq its n ∧ its.size ≤ sizeLine ∧ Vals xs its.toList
def absV : Value → Option V
  | .none => some .non
  | .bool b => some (.bl b)
  | .int i _ => some (.int i)
  | .str x _ => some (.str x)
  | .bytes b _ => some (.byt b)
  | .float b _ => some (.flt b)
  | .ref a => some (.ref a)
  | .type n => some (.ty n)
  | _ => none
theorem RelV.abs {x : V} {u : Value} (r : RelV x u) : absV u = some x := by
  cases x with
  | non => cases r; rfl
  | bl _ => cases r; rfl
  | int _ => obtain ⟨t, rfl⟩ := r; rfl
  | str _ => obtain ⟨t, rfl⟩ := r; rfl
  | byt _ => obtain ⟨t, rfl⟩ := r; rfl
  | flt _ => obtain ⟨t, rfl⟩ := r; rfl
  | ref _ => cases r; rfl
  | ty _ => cases r; rfl
theorem RelV.inj {x y : V} {u : Value} (r : RelV x u) (q : RelV y u) : x = y := Option.some.inj (r.abs.symm.trans q.abs)
theorem Vals.inj : ∀ {xs ys : List V} {us : List Value}, Vals xs us → Vals ys us → xs = ys
  | _, _, _, .nil, .nil => rfl
  | _, _, _, .cons r t, .cons r' t' => by rw [r.inj r', Vals.inj t t']
section
variable {X : Cx} {pins : List (Addr × Obj)} {σ : St} {H : Hp} {s : Shared} {a : Addr} {xs ys : List V}
theorem SqL.of {K : PySem.W.Frag} (h : H a = some (.lst xs)) : SqL K H a xs := .inl (.inl h)
theorem SqT.of {K : PySem.W.Frag} (h : H a = some (.tup xs)) : SqT K H a xs := .inl (.inl h)
theorem Inv.list (I : Inv X pins σ H s) (h : SqL X.K H a xs) : ∃ its : List Value, Vals xs its ∧ PlainL s.heap a its.toArray ∧ xs.length ≤ sizeLine := by
  rcases h with h | ⟨o, its, n, hk, hc, hd, hs, hz, r⟩
  · obtain ⟨z, its, n, r, e⟩ := h.ok I.hok
    exact ⟨its, r, ⟨_, n, e, rfl, rfl, rfl⟩, z⟩
  · refine ⟨its.toList, r, ⟨o, n, I.kIn a o hk, hc, hd, by simpa using hs⟩, ?_⟩
    have e := r.length
    simp only [Array.length_toList] at e
    omega
theorem Inv.tuple (I : Inv X pins σ H s) (h : SqT X.K H a xs) : ∃ its : List Value, Vals xs its ∧ IsTup s.heap a its.toArray ∧ xs.length ≤ sizeLine := by
  rcases h with h | ⟨o, its, n, hk, hc, hs, hz, r⟩
  · obtain ⟨z, its, r, p⟩ := h.ok I.hok
    exact ⟨its, r, p, z⟩
  · refine ⟨its.toList, r, ⟨o, I.kIn a o hk, hc, n, by simpa using hs⟩, ?_⟩
    have e := r.length
    simp only [Array.length_toList] at e
    omega
theorem Inv.list_inj (I : Inv X pins σ H s) (h : SqL X.K H a xs) (h' : SqL X.K H a ys) : xs = ys := by
  obtain ⟨its, r, ⟨o, n, e, _, _, d⟩, _⟩ := I.list h
  obtain ⟨its', r', ⟨o', n', e', _, _, d'⟩, _⟩ := I.list h'
  rw [e] at e'; cases e'
  rw [d] at d'
  injection d' with d1 _
  have : its = its' := by simpa using congrArg Array.toList d1
  subst this
  exact r.inj r'
theorem Inv.tuple_inj (I : Inv X pins σ H s) (h : SqT X.K H a xs) (h' : SqT X.K H a ys) : xs = ys := by
  obtain ⟨its, r, ⟨o, e, _, n, d⟩, _⟩ := I.tuple h
  obtain ⟨its', r', ⟨o', e', _, n', d'⟩, _⟩ := I.tuple h'
  rw [e] at e'; cases e'
  rw [d] at d'
  injection d' with d1 _
  have : its = its' := by simpa using congrArg Array.toList d1
  subst this
  exact r.inj r'
end
abbrev Cx.wish (X : Cx) (E : Value → Shared → Prop) : Cx := { X with xe := E }
abbrev Cx.nox (X : Cx) : Cx := X.wish fun _ _ => False
theorem Cx.Ok.wish {X : Cx} (ok : X.Ok) (E : Value → Shared → Prop) : (X.wish E).Ok :=
  ⟨ok.mod, ok.kind, ok.glob, ok.blt, ok.above, ok.inj, ok.has, ok.cab, ok.hd, ok.frames, ok.stk, ok.exf, ok.bs, ok.bsz, ok.noex, ok.exfs, ok.funs, ok.frf⟩
theorem Cx.Ok.unwish {X : Cx} {E : Value → Shared → Prop} (ok : (X.wish E).Ok) : X.Ok :=
  ⟨ok.mod, ok.kind, ok.glob, ok.blt, ok.above, ok.inj, ok.has, ok.cab, ok.hd, ok.frames, ok.stk, ok.exf, ok.bs, ok.bsz, ok.noex, ok.exfs, ok.funs, ok.frf⟩
section
variable {X : Cx} {pins : List (Addr × Obj)} {σ : St} {H : Hp} {s : Shared} {E : Value → Shared → Prop}
theorem Inv.wish (I : Inv X pins σ H s) (E : Value → Shared → Prop) : Inv (X.wish E) pins σ H s := ⟨I.ok.wish E, I.os, I.bare, I.base, I.loc, I.cell, I.free, I.freeC, I.pin, I.hok, I.len⟩
theorem Inv.unwish (I : Inv (X.wish E) pins σ H s) : Inv X pins σ H s := ⟨I.ok.unwish, I.os, I.bare, I.base, I.loc, I.cell, I.free, I.freeC, I.pin, I.hok, I.len⟩
theorem SP.unwish {D : Ends} {f : Flow} {s' : Shared} (h : SP (X.wish E) pins D f s') : SP X pins D f s' := by
  cases f with
  | next => obtain ⟨σ', H', I, q⟩ := h; exact ⟨σ', H', I.unwish, q⟩
  | brk => obtain ⟨σ', H', I, q⟩ := h; exact ⟨σ', H', I.unwish, q⟩
  | cont => obtain ⟨σ', H', I, q⟩ := h; exact ⟨σ', H', I.unwish, q⟩
  | ret u => obtain ⟨v, σ', H', I, r, q⟩ := h; exact ⟨v, σ', H', I.unwish, r, q⟩
theorem PSs.nox {st : List Stmt} {t : TS} (h : PSs X.nox st t) : PSs X st t := fun pins s σ H D I hw =>
  wpAny_mono (h pins s σ H D (I.wish _) hw) (fun _ _ q => q.unwish) fun _ _ z => False.elim z
end
section
variable {X : Cx} {st : Stmt} {rest : List Stmt} {t u : TS} {e : Expr} {te : TE} {pos : Pos}
def tNext : TS := fun D σ H => D.nx σ H
def tSeq (t u : TS) : TS := fun D σ H => t { D with nx := u D } σ H
theorem pss_nil : PSs X [] tNext := fun _ _ σ H _ I h => wpAny_execs_nil ⟨σ, H, I, h⟩
theorem pss_cons (h1 : PS X st t) (h2 : PSs X rest u) : PSs X (st :: rest) (tSeq t u) := by
  intro pins s σ H D I h
  refine wpAny_execs_cons (thn (h1 pins s σ H { D with nx := u D } I h) fun f s1 q => ?_)
  cases f with
  | next =>
    obtain ⟨σ', H', I', q⟩ := q
    exact h2 pins s1 σ' H' D I' q
  | ret v => exact q
  | brk => exact q
  | cont => exact q
theorem pss_one (h1 : PS X st t) : PSs X [st] t := by
  intro pins s σ H D I h
  refine wpAny_execs_cons (thn (h1 pins s σ H D I h) fun f s1 q => ?_)
  cases f with
  | next => exact wpAny_execs_nil q
  | ret v => exact q
  | brk => exact q
  | cont => exact q
def tBreak : TS := fun D σ H => D.bk σ H
def tCont : TS := fun D σ H => D.ct σ H
theorem Inv.quiet {pins : List (Addr × Obj)} {σ : St} {H : Hp} {s : Shared} (I : Inv X pins σ H s) : interactive X.env = false := by simp [interactive, I.ok.kind]
def tDrop (te : TE) : TS := fun D σ H => te σ H fun _ H1 => D.nx σ H1
theorem ps_expr (he : PE X e te) (hs : swapsWith e none pos.line X.env = pure false := by rfl) : PS X (.Expr e pos) (tDrop te) := by
  intro pins s σ H D I h
  exact wpAny_Expr_any (thn (he pins s σ H _ I h) fun v s1 ⟨x, H1, I1, r1, q1⟩ => ⟨σ, H1, I1, q1⟩) I.quiet hs
def tRet (te : TE) : TS := fun D σ H => te σ H D.rt
theorem ps_ret (he : PE X e te) : PS X (.Return (some e) pos) (tRet te) := by
  intro pins s σ H D I h
  exact wpAny_Return_some (thn (he pins s σ H _ I h) fun v s1 ⟨x, H1, I1, r1, q1⟩ => ⟨x, σ, H1, I1, r1, q1⟩)
def tRetN : TS := fun D _ H => D.rt .non H
def tIfS (c : TT) (t u : TS) : TS := fun D σ H => c σ H fun b H1 => if b = true then t D σ H1 else u D σ H1
theorem ps_if {c : Expr} {a b : List Stmt} {tc : TT} (hc : PT X c tc) (ha : PSs X a t) (hb : PSs X b u) : PS X (.If c a b pos) (tIfS tc t u) := by
  intro pins s σ H D I h
  refine wpAny_If (thn (hc pins s σ H _ I h) fun d s1 ⟨H1, I1, q1⟩ => ?_)
  cases d with
  | true => exact ha pins s1 σ H1 D I1 q1
  | false => exact hb pins s1 σ H1 D I1 q1
def tNever : TS := fun _ _ _ => False
end
abbrev TG := V → St → Hp → (St → Hp → Prop) → Prop
abbrev TGs := List V → St → Hp → (St → Hp → Prop) → Prop
def PG (X : Cx) (target : Expr) (t : TG) : Prop :=
  ∀ (pins : List (Addr × Obj)) (s : Shared) (σ : St) (H : Hp) (v : V) (u : Value) (Q : St → Hp → Prop), Inv X pins σ H s → RelV v u → t v σ H Q →
    wpAny (model X.prog X.w) X.A (assign target X.env u) (fun _ s' => ∃ σ' H', Inv X pins σ' H' s' ∧ Q σ' H') X.xe s
def PGs (X : Cx) (ts : List Expr) (t : TGs) : Prop :=
  ∀ (pins : List (Addr × Obj)) (s : Shared) (σ : St) (H : Hp) (vs : List V) (us : List Value) (Q : St → Hp → Prop), Inv X pins σ H s → Vals vs us → t vs σ H Q →
    wpAny (model X.prog X.w) X.A (assignInOrder ((assignEach ts X.env).map (·.2)) us) (fun _ s' => ∃ σ' H', Inv X pins σ' H' s' ∧ Q σ' H') X.xe s
abbrev TSet := V → V → V → Hp → (Hp → Prop) → Prop
def PSet (X : Cx) (t : TSet) : Prop :=
  ∀ (pins : List (Addr × Obj)) (s : Shared) (σ : St) (H : Hp) (o i v : V) (ov iv u : Value) (Q : Hp → Prop), Inv X pins σ H s → RelV o ov → RelV i iv → RelV v u → t o i v H Q →
    wpAny (model X.prog X.w) X.A (setItem ov iv u) (fun _ s' => ∃ H', Inv X pins σ H' s' ∧ Q H') X.xe s
abbrev TIp := V → V → Hp → VK → Prop
def PIp (X : Cx) (op : Operator) (t : TIp) : Prop :=
  ∀ (pins : List (Addr × Obj)) (s : Shared) (σ : St) (H : Hp) (x y : V) (v u : Value) (Q : VK), Inv X pins σ H s → RelV x v → RelV y u → t x y H Q →
    wpAny (model X.prog X.w) X.A (inplaceOp op v u) (EP X pins σ Q) X.xe s
section
variable {X : Cx} {pos : Pos}
def gName (i : Nat) : TG := fun v σ H Q => Q (σ.set i (some v)) H
theorem pg_name {i : Nat} {x : Str} (hN : X.N.Nodup) (hi : X.N[i]? = some x) (hx : Loc X.env.scope x) (hf : X.fn x = true ∨ X.env.scope.names.lookup x = some .local := by first | exact .inl rfl | exact .inr rfl | assumption) : PG X (.Name x pos) (gName i) := by
  intro pins s σ H v u Q I r h
  exact wpAny_assign_Name (store_ok I hN hi hx r (fun s' I' => ⟨_, H, I', h⟩) hf)
def gNil : TGs := fun vs σ H Q => vs = [] ∧ Q σ H
def gCons (t : TG) (u : TGs) : TGs := fun vs σ H Q => ∃ v r, vs = v :: r ∧ t v σ H fun σ' H' => u r σ' H' Q
theorem pgs_nil : PGs X [] gNil := by
  intro pins s σ H vs us Q I r h
  obtain ⟨e, h⟩ := h
  subst e
  cases r
  exact assignInOrder_nil ⟨σ, H, I, h⟩
theorem pgs_cons {e : Expr} {es : List Expr} {t : TG} {u : TGs} (h1 : PG X e t) (h2 : PGs X es u)
    (hs : (assignEach (e :: es) X.env).map (·.2) = assign e X.env :: (assignEach es X.env).map (·.2) := by rfl) : PGs X (e :: es) (gCons t u) := by
  intro pins s σ H vs us Q I r h
  obtain ⟨v, vr, e1, h⟩ := h
  subst e1
  cases r with
  | cons r rr =>
    rw [hs]
    refine assignInOrder_cons (thn (h1 pins s σ H _ _ _ I r h) fun _ s1 ⟨σ1, H1, I1, q1⟩ => ?_)
    exact h2 pins s1 σ1 H1 _ _ Q I1 rr q1
def gTup (K : PySem.W.Frag) (n : Nat) (t : TGs) : TG := fun v σ H Q => ∃ a xs, v = .ref a ∧ SqT K H a xs ∧ xs.length = n ∧ t xs σ H Q
theorem pg_tup {es : List Expr} {k : Nat} {t : TGs} {n : Nat} (hc : X.calm = true) (h : PGs X es t)
    (hn : (assignEach es X.env).length = n := by rfl) (hst : (assignEach es X.env).findIdx? (·.1) = none := by rfl) : PG X (.Tuple es k pos) (gTup X.K n t) := by
  intro pins s σ H v u Q I r hw
  obtain ⟨a, xs, e1, hq, hl, hw⟩ := hw
  subst e1
  cases r
  obtain ⟨its, rv, ht, hz⟩ := I.tuple hq
  refine assign_Tuple_tuple (I.ok.hd hc) ht (by simp [hn, ← hl, rv.length]) hst fun h' hx => ?_
  have I1 : Inv X pins σ H { s with heap := h' } := I.kept (t' := s.toks) fun b o e => hx b o (Nat.ne_of_lt (Heap.lt_size e)) e
  exact h pins _ σ H xs _ Q I1 (by simpa using rv) hw
def gSub (to ti : TE) (t : TSet) : TG := fun v σ H Q => to σ H fun o H1 => ti σ H1 fun i H2 => t o i v H2 fun H3 => Q σ H3
def tAsg (te : TE) (g : TG) : TS := fun D σ H => te σ H fun x H1 => g x σ H1 D.nx
theorem ps_set {i : Nat} {x : Str} {e : Expr} {te : TE} {pos' : Pos} (hN : X.N.Nodup) (hi : X.N[i]? = some x) (hx : Loc X.env.scope x) (he : PE X e te) (hs : swapsWith e (some (.Name x pos')) pos.line X.env = pure false := by rfl) (hf : X.fn x = true ∨ X.env.scope.names.lookup x = some .local := by first | exact .inl rfl | exact .inr rfl | assumption) :
    PS X (.Assign [.Name x pos'] e pos) (tAsg te (gName i)) := by
  intro pins s σ H D I h
  refine wpAny_Assign_Name (thn (he pins s σ H _ I h) fun v s1 ⟨y, H1, I1, r1, q1⟩ => ?_) hs
  exact store_ok I1 hN hi hx r1 (fun s2 I2 => ⟨_, H1, I2, q1⟩) hf
def tPar (i j : Nat) (ta : TA) : TS := fun D σ H => ta σ H fun vs H1 => ∃ v w, vs = [v, w] ∧ D.nx ((σ.set i (some v)).set j (some w)) H1
def tAug (i : Nat) (te : TE) (ti : TIp) : TS := fun D σ H => ∃ x, σ[i]? = some (some x) ∧ te σ H fun y H1 => ti x y H1 fun z H2 => D.nx (σ.set i (some z)) H2
theorem ps_aug {i : Nat} {x : Str} {e : Expr} {te : TE} {op : Operator} {ti : TIp} {pos' : Pos} (hN : X.N.Nodup) (hi : X.N[i]? = some x) (hx : Loc X.env.scope x) (he : PE X e te) (ho : PIp X op ti) (hf : X.fn x = true ∨ X.env.scope.names.lookup x = some .local := by first | exact .inl rfl | exact .inr rfl | assumption) :
    PS X (.AugAssign (.Name x pos') op e pos) (tAug i te ti) := by
  intro pins s σ H D I h
  obtain ⟨v, e1, h⟩ := h
  obtain ⟨m, hn, hl⟩ := I.loc
  have vis : Vis X.env.scope x := by rcases hx with k | k; exact .inl k; exact .inr (.inl k)
  obtain ⟨u, r, l⟩ := hl i x v hi e1 vis
  refine wpAny_AugAssign_Name ?_
  have go : wpAny (model X.prog X.w) X.A (eval e X.env) (fun w s₂ => wpAny (model X.prog X.w) X.A (inplaceOp op u w) (fun r s₃ => wpAny (model X.prog X.w) X.A (storeName X.env x r) (fun _ => SP X pins D .next) X.xe s₃) X.xe s₂) X.xe s := by
    refine thn (he pins s σ H _ I h) fun w s1 ⟨y, H1, I1, r1, q1⟩ => ?_
    refine thn (ho pins s1 σ H1 v y u w _ I1 r r1 q1) fun z s2 ⟨zv, H2, I2, r2, q2⟩ => ?_
    exact store_ok I2 hN hi hx r2 (fun s3 I3 => ⟨_, H2, I3, q2⟩) hf
  rcases l with ⟨hk, hm⟩ | ⟨hk, c, hc, hcell⟩
  · exact wpAny_loadName_local I.ok.kind hk hn hm go
  · rcases hk with hk | hk
    · exact wpAny_loadName_cell I.ok.kind hk hc hcell go
    · rcases hx with k | k
      · have : X.env.scope.names.lookup x = some .free := hk
        rw [k] at this; cases this
      · have : X.env.scope.names.lookup x = some .free := hk
        rw [k] at this; cases this
def tAugS (to ti te : TE) (tget : V → V → Hp → VK → Prop) (tip : TIp) (tset : TSet) : TS := fun D σ H => to σ H fun o H1 => ti σ H1 fun i H2 => tget o i H2 fun x H3 => te σ H3 fun y H4 => tip x y H4 fun z H5 => tset o i z H5 fun H6 => D.nx σ H6
def PGet (X : Cx) (t : V → V → Hp → VK → Prop) : Prop :=
  ∀ (pins : List (Addr × Obj)) (s : Shared) (σ : St) (H : Hp) (o i : V) (ov iv : Value) (Q : VK), Inv X pins σ H s → RelV o ov → RelV i iv → t o i H Q →
    wpAny (model X.prog X.w) X.A (getItem ov iv) (EP X pins σ Q) X.xe s
def ipI (f : Int → Int → Int) : TIp := fun x y H Q => ∃ i j, x = .int i ∧ y = .int j ∧ Q (.int (f i j)) H
theorem ip_add : PIp X .Add (ipI fun i j => i + j) := by
  intro pins s σ H x y v u Q I r1 r2 h
  obtain ⟨i, j, e1, e2, q⟩ := h
  subst e1; subst e2
  obtain ⟨t, rfl⟩ := r1
  obtain ⟨t', rfl⟩ := r2
  exact iadd_int ⟨.int _, H, I.tok _, ⟨_, rfl⟩, q⟩
end
section
variable {X : Cx} {pos : Pos}
def tWhile (c : TT) (tb : TS) : TS := fun D σ H => ∃ W : Nat → St → Hp → Prop, (∃ m, W m σ H) ∧ ∀ m σ H, W m σ H →
  c σ H fun b H1 => if b = true then ∃ N : St → Hp → Prop, (∀ σ' H', N σ' H' → ∃ m', m' < m ∧ W m' σ' H') ∧ tb { D with nx := N, ct := N, bk := D.nx } σ H1 else D.nx σ H1
theorem ps_while {c : Expr} {body : List Stmt} {tc : TT} {tb : TS} (hp : PassesOwn (model X.prog X.w) X.A X.env X.xe) (hc : PT X c tc) (hb : PSs X body tb) : PS X (.While c body [] pos) (tWhile tc tb) := by
  intro pins s σ H D I h
  obtain ⟨W, ⟨m0, w0⟩, turn⟩ := h
  refine wpAny_While (codeAny_whileLoop (fun n s' => ∃ σ' H', Inv X pins σ' H' s' ∧ W n σ' H') ?_ m0 ⟨σ, H, I, w0⟩)
  rintro n s1 ⟨σ1, H1, I1, w1⟩
  refine wpAny_passesOwn hp (thn (hc pins s1 σ1 H1 _ I1 (turn n σ1 H1 w1)) fun b s2 ⟨H2, I2, q2⟩ => ?_)
  cases b with
  | true =>
    obtain ⟨N, hN, q2⟩ := q2
    rw [if_pos rfl]
    refine wpAny_passesOwn hp (thn (hb pins s2 σ1 H2 _ I2 q2) fun f s3 q3 => ?_)
    cases f with
    | next =>
      obtain ⟨σ3, H3, I3, n3⟩ := q3
      obtain ⟨m', hm, w3⟩ := hN σ3 H3 n3
      exact ⟨m', hm, σ3, H3, I3, w3⟩
    | cont =>
      obtain ⟨σ3, H3, I3, n3⟩ := q3
      obtain ⟨m', hm, w3⟩ := hN σ3 H3 n3
      exact ⟨m', hm, σ3, H3, I3, w3⟩
    | brk => exact q3
    | ret v => exact q3
  | false =>
    rw [if_neg Bool.false_ne_true]
    exact wpAny_execs_nil ⟨σ1, H2, I2, q2⟩
end
structure It where
  go : Nat → Hp → Prop
  yld : Nat → Hp → V → Hp → Prop
  stop : Nat → Hp → Prop
def FpOk (X : Cx) (pins : List (Addr × Obj)) (H : Hp) (b : Addr) : Prop :=
  H b = none ∧ b ≠ X.env.locals ∧ b ∉ X.fs ∧ (b ∈ X.ex ∨ X.s₀.heap.objs.size ≤ b) ∧ (∀ x c, X.env.cells.lookup x = some c → c ≠ b) ∧ ∀ p ∈ X.pn ++ pins, p.1 ≠ b
theorem Inv.fpOk {X : Cx} {pins : List (Addr × Obj)} {σ : St} {H H' : Hp} {s : Shared} {b : Addr} (I : Inv X pins σ H s) (hb : s.heap.objs.size ≤ b) (hn : H' b = none) : FpOk X pins H' b := by
  refine ⟨hn, Nat.ne_of_gt (Nat.lt_of_lt_of_le I.lt hb), I.nofs hb, .inr (Nat.le_trans I.sz hb), fun x c e z => ?_, fun p hp z => ?_⟩
  · obtain ⟨v, q⟩ := I.cell x c e
    exact absurd (Nat.lt_of_lt_of_le q.lt (by rw [z]; exact hb)) (Nat.lt_irrefl _)
  · exact absurd (Nat.lt_of_lt_of_le (Heap.lt_size (I.pin p hp).1) (by rw [z]; exact hb)) (Nat.lt_irrefl _)
structure Turn (P : Program) (w : World) (K : PySem.W.Frag) (tg : Expr) (J : It) (fp : List Addr) (it : Addr) (tn : Nat → Heap → Prop) : Prop where
  mem : it ∈ fp
  obj : ∀ i h, tn i h → ∀ b ∈ fp, ∃ o, h.get? b = some o ∧ ∀ v, o.data ≠ .cell v
  keep : ∀ i h h', tn i h → (∀ b ∈ fp, ∀ o, h.get? b = some o → h'.get? b = some o) → tn i h'
  item : ∀ (X : Cx), X.prog = P → X.w = w → X.K = K → X.calm = true → ∀ (i : Nat) (pins : List (Addr × Obj)) (s : Shared) (σ : St) (H : Hp) (E : Value → Shared → Prop), Inv X pins σ H s → (∀ b ∈ fp, FpOk X pins H b) → tn i s.heap → J.go i H →
    wpAny (model P w) X.A (pyNext (.ref it)) (fun r s1 => ∃ u, r = some u ∧
      wpAny (model P w) X.A (letOwnedTupleGo tg (.ref it) u) (fun _ s2 => ∃ x H', Inv X pins σ H' s2 ∧ RelV x u ∧ J.yld i H x H' ∧ tn (i + 1) s2.heap ∧ ∀ b ∈ fp, H' b = none) E s1) E s
  done : ∀ (X : Cx), X.prog = P → X.w = w → X.K = K → X.calm = true → ∀ (i : Nat) (pins : List (Addr × Obj)) (s : Shared) (σ : St) (H : Hp) (E : Value → Shared → Prop), Inv X pins σ H s → (∀ b ∈ fp, FpOk X pins H b) → tn i s.heap → J.stop i H →
    wpAny (model P w) X.A (pyNext (.ref it)) (fun r s1 => r = none ∧ Inv X pins σ H s1) E s
  self : ∀ (A : Around) (i : Nat) (s : Shared) (Q : Value → Shared → Prop) (E : Value → Shared → Prop), tn i s.heap → Q (.ref it) s → wpAny (model P w) A (pyIter (.ref it)) Q E s
abbrev TI := St → Hp → (It → Hp → Prop) → Prop
def PIE (X : Cx) (pins : List (Addr × Obj)) (σ : St) (tg : Expr) (R : It → Hp → Prop) (itv : Value) (s2 : Shared) : Prop :=
  ∃ (it : Addr) (fp : List Addr) (tn : Nat → Heap → Prop) (J : It) (H' : Hp), itv = .ref it ∧ Inv X pins σ H' s2 ∧ Turn X.prog X.w X.K tg J fp it tn ∧ tn 0 s2.heap ∧ (∀ b ∈ fp, FpOk X pins H' b) ∧ R J H'
def PI (X : Cx) (tg iter : Expr) (wi : TI) : Prop :=
  ∀ (pins : List (Addr × Obj)) (s : Shared) (σ : St) (H : Hp) (R : It → Hp → Prop), Inv X pins σ H s → wi σ H R →
    wpAny (model X.prog X.w) X.A (eval iter X.env) (fun v s1 => wpAny (model X.prog X.w) X.A (pyIter v) (PIE X pins σ tg R) X.xe s1) X.xe s
theorem go_of {M : Model} {A : Around} {E : Value → Shared → Prop} {s : Shared} {tg : Expr} {it : Addr} {u : Value} {o : Obj} {n : String} {vs : Array Value} {Q : Unit → Shared → Prop} (ho : s.heap.get? it = some o) (hc : o.cls = .type n) (hd : o.data = .fields vs)
    (hn : ["enumerate", "zip", "dict_itemiterator", "dict_reverseitemiterator", "odict_iterator", "itertools.zip_longest", "itertools.pairwise"].contains n = false) (hQ : Q () s) : wpAny M A (letOwnedTupleGo tg (.ref it) u) Q E s := by
  unfold letOwnedTupleGo
  cases tg <;> first
    | exact wpAny_pure hQ
    | (cases u <;> first
        | exact wpAny_pure hQ
        | (refine wpAny_bind (wpAny_load ho ?_)
           rw [hc, hd]
           show wpAny M A (if (["enumerate", "zip", "dict_itemiterator", "dict_reverseitemiterator", "odict_iterator", "itertools.zip_longest", "itertools.pairwise"].contains n && vs[0]? == some (rawInt _)) = true then _ else _) Q E s
           rw [if_neg (by intro h; rw [hn, Bool.false_and] at h; cases h)]
           exact wpAny_pure hQ))
def Itl (K : PySem.W.Frag) (a : Addr) : It :=
  ⟨fun i H => ∃ xs x, SqL K H a xs ∧ xs[i]? = some x, fun i H x H' => H' = H ∧ ∀ xs, SqL K H a xs → xs[i]? = some x, fun i H => ∃ xs, SqL K H a xs ∧ xs.length ≤ i⟩
def Itt (K : PySem.W.Frag) (a : Addr) : It :=
  ⟨fun i H => ∃ xs x, SqT K H a xs ∧ xs[i]? = some x, fun i H x H' => H' = H ∧ ∀ xs, SqT K H a xs → xs[i]? = some x, fun i H => ∃ xs, SqT K H a xs ∧ xs.length ≤ i⟩
def Itr (lo : Int) (n : Nat) : It := ⟨fun i _ => i < n, fun i H x H' => H' = H ∧ x = .int (lo + i), fun i _ => n ≤ i⟩
theorem turn_list {P : Program} {w : World} {K : PySem.W.Frag} {tg : Expr} (a it : Addr) : Turn P w K tg (Itl K a) [it] it (fun i h => h.IsListIter it a i) where
  mem := by simp
  obj := fun i h st b hb => by
    have e : b = it := by simpa using hb
    subst e
    obtain ⟨o, e, c, d⟩ := st
    exact ⟨o, e, fun v z => by rw [d] at z; cases z⟩
  keep := fun i h h' st k => st.at fun o e => k it (by simp) o e
  item := by
    intro X hP hw hK hc i pins s σ H E I hf st hg
    subst hP hw hK
    obtain ⟨xs, x, hq, hx⟩ := hg
    obtain ⟨its, rv, p, hz⟩ := I.list hq
    obtain ⟨u, hu, ru⟩ := rv.get hx
    obtain ⟨f0, f1, f2, f3, f4, f5⟩ := hf it (by simp)
    refine wpAny_pyNext_list_item st p.isList (x := u) (by simpa using hu) fun h' st' sb => ?_
    have I1 : Inv X pins σ H { s with heap := h' } := I.turned (t' := s.toks) (fun b o hb e => (sb.2 b hb).trans e) f0 f1 f3 f4 f5
    obtain ⟨o, e, c, d⟩ := id st'
    exact ⟨u, rfl, go_of (s := { s with heap := h' }) e c d (by decide) ⟨x, H, I1, ru, ⟨rfl, fun ys hy => by rw [I.list_inj hy hq]; exact hx⟩, st', fun b hb => (hf b hb).1⟩⟩
  done := by
    intro X hP hw hK hc i pins s σ H E I hf st hg
    subst hP hw hK
    obtain ⟨xs, hq, hx⟩ := hg
    obtain ⟨its, rv, p, hz⟩ := I.list hq
    obtain ⟨f0, f1, f2, f3, f4, f5⟩ := hf it (by simp)
    have hl := rv.length
    exact wpAny_pyNext_list_end (I.ok.hd hc) st p.isList (by simp; omega) fun h' eb => ⟨rfl, I.turned (t' := s.toks) (fun b o hb e => eb b o hb e) f0 f1 f3 f4 f5⟩
  self := fun _ _ _ _ _ st h => wpAny_pyIter_listiter st h
theorem turn_tuple {P : Program} {w : World} {K : PySem.W.Frag} {tg : Expr} (a it : Addr) : Turn P w K tg (Itt K a) [it] it (fun i h => h.IsTupleIter it a i) where
  mem := by simp
  obj := fun i h st b hb => by
    have e : b = it := by simpa using hb
    subst e
    obtain ⟨o, e, c, d⟩ := st
    exact ⟨o, e, fun v z => by rw [d] at z; cases z⟩
  keep := fun i h h' st k => st.at fun o e => k it (by simp) o e
  item := by
    intro X hP hw hK hc i pins s σ H E I hf st hg
    subst hP hw hK
    obtain ⟨xs, x, hq, hx⟩ := hg
    obtain ⟨its, rv, p, hz⟩ := I.tuple hq
    obtain ⟨u, hu, ru⟩ := rv.get hx
    obtain ⟨f0, f1, f2, f3, f4, f5⟩ := hf it (by simp)
    refine wpAny_pyNext_tuple_item st (show s.heap.IsTuple a its.toArray from p) (x := u) (by simpa using hu) fun h' st' sb => ?_
    have I1 : Inv X pins σ H { s with heap := h' } := I.turned (t' := s.toks) (fun b o hb e => (sb.2 b hb).trans e) f0 f1 f3 f4 f5
    obtain ⟨o, e, c, d⟩ := id st'
    exact ⟨u, rfl, go_of (s := { s with heap := h' }) e c d (by decide) ⟨x, H, I1, ru, ⟨rfl, fun ys hy => by rw [I.tuple_inj hy hq]; exact hx⟩, st', fun b hb => (hf b hb).1⟩⟩
  done := by
    intro X hP hw hK hc i pins s σ H E I hf st hg
    subst hP hw hK
    obtain ⟨xs, hq, hx⟩ := hg
    obtain ⟨its, rv, p, hz⟩ := I.tuple hq
    obtain ⟨f0, f1, f2, f3, f4, f5⟩ := hf it (by simp)
    have hl := rv.length
    exact wpAny_pyNext_tuple_end (I.ok.hd hc) st (show s.heap.IsTuple a its.toArray from p) (by simp; omega) fun h' eb => ⟨rfl, I.turned (t' := s.toks) (fun b o hb e => eb b o hb e) f0 f1 f3 f4 f5⟩
  self := fun _ _ _ _ _ st h => wpAny_pyIter_tupleiter st h
theorem turn_range {P : Program} {w : World} {K : PySem.W.Frag} {tg : Expr} (it : Addr) (lo : Int) (n : Nat) : Turn P w K tg (Itr lo n) [it] it (fun i h => IsRangeIter h it (lo + (i : Nat) * 1) ((n : Int) - (i : Nat)) 1) where
  mem := by simp
  obj := fun i h st b hb => by
    have e : b = it := by simpa using hb
    subst e
    exact ⟨_, st, fun v z => by
      have z' : Data.fields _ = Data.cell v := z
      cases z'⟩
  keep := fun i h h' st k => k it (by simp) _ st
  item := by
    intro X hP hw hK hc i pins s σ H E I hf st hg
    subst hP hw hK
    obtain ⟨f0, f1, f2, f3, f4, f5⟩ := hf it (by simp)
    have W := Walks.range (prog := X.prog) (w := X.w) (I.ok.hd hc) it lo 1 n
    refine W.item i s _ _ hg st fun v h' tk hv st' kk => ?_
    obtain ⟨t, rfl⟩ := hv
    have I1 : Inv X pins σ H { s with heap := h', toks := tk } := I.turned (fun b o hb e => kk b o (by simpa using hb) e) f0 f1 f3 f4 f5
    refine ⟨_, rfl, go_of (s := { s with heap := h', toks := tk }) (n := "range_iterator") st' rfl rfl (by decide) ⟨.int (lo + i), H, I1, ⟨t, ?_⟩, ⟨rfl, rfl⟩, st', fun b hb => (hf b hb).1⟩⟩
    rw [Int.mul_one]
  done := by
    intro X hP hw hK hc i pins s σ H E I hf st hg
    subst hP hw hK
    obtain ⟨f0, f1, f2, f3, f4, f5⟩ := hf it (by simp)
    exact wpAny_pyNext_range_end (I.ok.hd hc) st (by have : n ≤ i := hg; omega) fun h' eb => ⟨rfl, I.turned (t' := s.toks) (fun b o hb e => eb b o hb e) f0 f1 f3 f4 f5⟩
  self := fun _ _ _ _ _ st h => wpAny_pyIter_rangeiter st h
end L2
namespace L2
open PySem PySem.Spec PyProof.Rows
section
variable {X : Cx} {tg : Expr}
def iList (K : PySem.W.Frag) (tl : TE) : TI := fun σ H R => tl σ H fun x H1 => ∃ a, x = .ref a ∧ (∃ xs, SqL K H1 a xs) ∧ R (Itl K a) H1
def iTup (K : PySem.W.Frag) (tl : TE) : TI := fun σ H R => tl σ H fun x H1 => ∃ a, x = .ref a ∧ (∃ xs, SqT K H1 a xs) ∧ R (Itt K a) H1
theorem pi_list {l : Expr} {tl : TE} (hl : PE X l tl) : PI X tg l (iList X.K tl) := by
  intro pins s σ H R I h
  refine thn (hl pins s σ H _ I h) fun v s1 ⟨x, H1, I1, r1, q1⟩ => ?_
  obtain ⟨a, e, ⟨xs, hq⟩, q⟩ := q1
  subst e
  cases r1
  obtain ⟨its, rv, p, hz⟩ := I1.list hq
  refine wpAny_pyIter_list p.isList ?_
  refine ⟨s1.heap.objs.size, [s1.heap.objs.size], _, _, H1, rfl, I1.kept (t' := s1.toks) fun b o e => Heap.get?_push_of_some _ e, turn_list a _, ⟨_, Heap.get?_push_size _ rfl, rfl, rfl⟩, fun b hb => ?_, q⟩
  have e : b = s1.heap.objs.size := by simpa using hb
  subst e
  exact I1.fpOk (Nat.le_refl _) (I1.hok.fresh (Nat.le_refl _))
theorem pi_tup {l : Expr} {tl : TE} (hl : PE X l tl) : PI X tg l (iTup X.K tl) := by
  intro pins s σ H R I h
  refine thn (hl pins s σ H _ I h) fun v s1 ⟨x, H1, I1, r1, q1⟩ => ?_
  obtain ⟨a, e, ⟨xs, hq⟩, q⟩ := q1
  subst e
  cases r1
  obtain ⟨its, rv, p, hz⟩ := I1.tuple hq
  refine wpAny_pyIter_tuple (show s1.heap.IsTuple a its.toArray from p) ?_
  refine ⟨s1.heap.objs.size, [s1.heap.objs.size], _, _, H1, rfl, I1.kept (t' := s1.toks) fun b o e => Heap.get?_push_of_some _ e, turn_tuple a _, ⟨_, Heap.get?_push_size _ rfl, rfl, rfl⟩, fun b hb => ?_, q⟩
  have e : b = s1.heap.objs.size := by simpa using hb
  subst e
  exact I1.fpOk (Nat.le_refl _) (I1.hok.fresh (Nat.le_refl _))
theorem range_it {pins : List (Addr × Obj)} {σ : St} {H : Hp} {s : Shared} {R : It → Hp → Prop} {E : Value → Shared → Prop} {lo hi : Int} {t u v : Tok} {tk : Nat} (I : Inv X pins σ H s) (h1 : -(2 ^ 62) ≤ lo) (h2 : lo < 2 ^ 62) (h3 : -(2 ^ 62) ≤ hi) (h4 : hi < 2 ^ 62)
    (q : R (Itr lo (hi - lo).toNat) H) : wpAny (model X.prog X.w) X.A (pyIter (.ref s.heap.objs.size)) (PIE X pins σ tg R) E { s with heap := s.heap.push { cls := .type "range", data := .fields #[.int lo t, .int hi u, .int 1 v] }, toks := tk } := by
  refine wpAny_pyIter_range (IsRange.new ..) (small_one h1 h2 h3 h4) ?_
  have I1 : Inv X pins σ H { s with heap := s.heap.push { cls := .type "range", data := .fields #[.int lo t, .int hi u, .int 1 v] }, toks := tk } := I.kept fun b o e => Heap.get?_push_of_some _ e
  refine ⟨(s.heap.push { cls := .type "range", data := .fields #[.int lo t, .int hi u, .int 1 v] }).objs.size, [(s.heap.push { cls := .type "range", data := .fields #[.int lo t, .int hi u, .int 1 v] }).objs.size], _, _, H, rfl,
    I1.kept (t' := tk) fun b o e => Heap.get?_push_of_some _ e, turn_range _ lo (hi - lo).toNat, ?_, fun b hb => ?_, q⟩
  · have e1 : lo + ((0 : Nat) : Int) * 1 = lo := by simp
    have e2 : (((hi - lo).toNat : Nat) : Int) - ((0 : Nat) : Int) = Builtin.Range.rangeSize lo hi 1 := by rw [rangeSize_one]; split <;> omega
    show IsRangeIter _ _ (lo + ((0 : Nat) : Int) * 1) ((((hi - lo).toNat : Nat) : Int) - ((0 : Nat) : Int)) 1
    rw [e1, e2]
    exact Heap.get?_push_size _ rfl
  · have e : b = (s.heap.push { cls := .type "range", data := .fields #[.int lo t, .int hi u, .int 1 v] }).objs.size := by simpa using hb
    subst e
    exact I1.fpOk (Nat.le_refl _) (I1.hok.fresh (Nat.le_refl _))
def iRng1 (ta : TA) : TI := fun σ H R => ta σ H fun vs H1 => ∃ j : Int, vs = [.int j] ∧ -(2 ^ 62) ≤ j ∧ j < 2 ^ 62 ∧ R (Itr 0 j.toNat) H1
def iRng2 (ta : TA) : TI := fun σ H R => ta σ H fun vs H1 => ∃ i j : Int, vs = [.int i, .int j] ∧ (-(2 ^ 62) ≤ i ∧ i < 2 ^ 62 ∧ -(2 ^ 62) ≤ j ∧ j < 2 ^ 62) ∧ R (Itr i (j - i).toNat) H1
theorem pi_range1 {a : Expr} {ta : TA} {p pos : Pos} (hg : Gl X "range") (hm : X.mg "range" = none) (ha : PA X [a] ta) (hs : starEach [a] X.env = [(false, eval a X.env)] := by rfl) : PI X tg (.Call (.Name "range" p) [a] [] pos) (iRng1 ta) := by
  intro pins s σ H R I h
  refine Call_ (ld_blt I hg hm boot_range (PyProof.Rows.callWith_type1 (thn (ha pos pins s σ H _ I h) fun us s1 ⟨vs, H1, I1, r1, q1⟩ => ?_) hs rfl))
  obtain ⟨j, e, q1, q2, q⟩ := q1
  subst e
  cases r1 with
  | cons r rr =>
    cases rr
    obtain ⟨t, rfl⟩ := r
    exact call_range_1 (range_it I1 (by omega) (by omega) q1 q2 (by simpa using q))
def tFor (wi : TI) (g : TG) (tb : TS) : TS := fun D σ H => wi σ H fun J H1 => ∃ W : Nat → Nat → St → Hp → Prop, (∃ m, W 0 m σ H1) ∧ ∀ i m σ H, W i m σ H →
  (J.stop i H ∧ D.nx σ H) ∨ (J.go i H ∧ ∃ N : St → Hp → Prop, (∀ σ' H', N σ' H' → ∃ m', m' < m ∧ W (i + 1) m' σ' H') ∧ ∀ x H', J.yld i H x H' → g x σ H' fun σ2 H2 => tb { D with nx := N, ct := N, bk := D.nx } σ2 H2)
def pinsAt (fp : List Addr) (h : Heap) : List (Addr × Obj) := fp.filterMap fun b => (h.get? b).map fun o => (b, o)
theorem mem_pinsAt {fp : List Addr} {h : Heap} {b : Addr} {o : Obj} (hb : b ∈ fp) (e : h.get? b = some o) : (b, o) ∈ pinsAt fp h := List.mem_filterMap.mpr ⟨b, hb, by rw [e]; rfl⟩
theorem of_pinsAt {fp : List Addr} {h : Heap} {p : Addr × Obj} (hp : p ∈ pinsAt fp h) : p.1 ∈ fp ∧ h.get? p.1 = some p.2 := by
  obtain ⟨b, hb, e⟩ := List.mem_filterMap.mp hp
  cases q : h.get? b with
  | none => rw [q] at e; cases e
  | some o =>
    rw [q] at e
    have e' : (b, o) = p := Option.some.inj e
    subst e'
    exact ⟨hb, q⟩
theorem Inv.pinned {pins : List (Addr × Obj)} {σ : St} {H : Hp} {s : Shared} {fp : List Addr} (I : Inv X pins σ H s) (hf : ∀ b ∈ fp, FpOk X pins H b) (ho : ∀ b ∈ fp, ∃ o, s.heap.get? b = some o ∧ ∀ v, o.data ≠ .cell v) : Inv X (pins ++ pinsAt fp s.heap) σ H s :=
  I.pins_of fun p hp => (List.mem_append.mp hp).elim (fun z => I.pin p (List.mem_append_right _ z)) fun z => by
    obtain ⟨hb, e⟩ := of_pinsAt z
    obtain ⟨f0, f1, f2, _⟩ := hf p.1 hb
    obtain ⟨o, e', d⟩ := ho p.1 hb
    rw [e] at e'; cases e'
    exact ⟨e, f0, f1, f2, d⟩
theorem Inv.unpinned {pins pl : List (Addr × Obj)} {σ : St} {H : Hp} {s : Shared} (I : Inv X (pins ++ pl) σ H s) : Inv X pins σ H s := I.pins_of fun p hp => I.pin p (List.mem_append_right _ (List.mem_append_left _ hp))
theorem ps_for {iter : Expr} {body : List Stmt} {wi : TI} {g : TG} {tb : TS} {pos : Pos} (hp : PassesOwn (model X.prog X.w) X.A X.env X.xe) (hc : X.calm = true) (hi : PI X tg iter wi) (hg : PG X tg g) (hb : PSs X body tb)
    (hs : ∀ x, foldedSetIterable iter X.env x = pure x := by intro _; rfl) : PS X (.For tg iter body [] pos) (tFor wi g tb) := by
  intro pins s σ H D I h
  refine wpAny_For (thn (hi pins s σ H _ I h) fun v s1 h1 => thn h1 fun itv s2 h2 => ?_) hs
  obtain ⟨it, fp, tn, J, H2, e, I2, T, st2, f2, W, ⟨m0, w0⟩, turn⟩ := h2
  subst e
  -- what stays true of the iterator's objects through the loop
  have stat : ∀ {H' : Hp}, (∀ b ∈ fp, H' b = none) → ∀ b ∈ fp, FpOk X pins H' b := fun hn b hb => ⟨hn b hb, (f2 b hb).2⟩
  refine codeAny_forLoop_any (fun n s' => ∃ i σ' H', Inv X pins σ' H' s' ∧ tn i s'.heap ∧ (∀ b ∈ fp, H' b = none) ∧ W i n σ' H') ?_ m0 ⟨0, σ, H2, I2, st2, fun b hb => (f2 b hb).1, w0⟩
  rintro n s3 ⟨i, σ3, H3, I3, st3, fr3, w3⟩
  rcases turn i n σ3 H3 w3 with ⟨stop, qn⟩ | ⟨go, N, hN, step⟩
  · refine wpAny_passesOwn hp (thn (T.done X rfl rfl rfl hc i pins s3 σ3 H3 X.xe I3 (stat fr3) st3 stop) fun r s4 ⟨hr, I4⟩ => ?_)
    subst hr
    exact wpAny_execs_nil ⟨σ3, H3, I4, qn⟩
  · refine wpAny_passesOwn hp (thn (T.item X rfl rfl rfl hc i pins s3 σ3 H3 X.xe I3 (stat fr3) st3 go) fun r s4 ⟨u, hr, h4⟩ => ?_)
    subst hr
    refine wpAny_passesOwn hp (thn h4 fun _ s5 ⟨x, H5, I5, r5, y5, st5, fr5⟩ => ?_)
    have I5' := I5.pinned (stat fr5) (T.obj _ _ st5)
    refine wpAny_passesOwn hp (thn (hg _ s5 σ3 H5 x u _ I5' r5 (step x H5 y5)) fun _ s6 ⟨σ6, H6, I6, q6⟩ => ?_)
    refine wpAny_passesOwn hp (thn (hb _ s6 σ6 H6 _ I6 q6) fun f s7 q7 => ?_)
    have again : ∀ {σ7 : St} {H7 : Hp}, Inv X (pins ++ pinsAt fp s5.heap) σ7 H7 s7 → N σ7 H7 → ∃ m, m < n ∧ ∃ i σ' H', Inv X pins σ' H' s7 ∧ tn i s7.heap ∧ (∀ b ∈ fp, H' b = none) ∧ W i m σ' H' := fun {σ7 H7} I7 n7 => by
      obtain ⟨m', hm, w7⟩ := hN σ7 H7 n7
      refine ⟨m', hm, i + 1, σ7, H7, I7.unpinned, T.keep _ _ _ st5 fun b hb o e => (I7.pin (b, o) (List.mem_append_right _ (List.mem_append_right _ (mem_pinsAt hb e)))).1, fun b hb => ?_, w7⟩
      obtain ⟨o, e, d⟩ := T.obj _ _ st5 b hb
      exact (I7.pin (b, o) (List.mem_append_right _ (List.mem_append_right _ (mem_pinsAt hb e)))).2.1
    cases f with
    | next => obtain ⟨σ7, H7, I7, n7⟩ := q7; exact again I7 n7
    | cont => obtain ⟨σ7, H7, I7, n7⟩ := q7; exact again I7 n7
    | brk => obtain ⟨σ7, H7, I7, q7⟩ := q7; exact ⟨σ7, H7, I7.unpinned, q7⟩
    | ret v => obtain ⟨x7, σ7, H7, I7, r7, q7⟩ := q7; exact ⟨x7, σ7, H7, I7.unpinned, r7, q7⟩
end
theorem for_list {K : PySem.W.Frag} {a : Addr} {xs : List V} {g : TG} {tb : TS} {D : Ends} {σ : St} {H : Hp} (Pv : Nat → St → Hp → Prop) (h0 : Pv 0 σ H) (hl : ∀ i σ H, i ≤ xs.length → Pv i σ H → SqL K H a xs)
    (hs : ∀ i x σ H, xs[i]? = some x → Pv i σ H → g x σ H fun σ2 H2 => tb { D with nx := Pv (i + 1), ct := Pv (i + 1), bk := D.nx } σ2 H2) (hd : ∀ σ H, Pv xs.length σ H → D.nx σ H) :
    ∃ W : Nat → Nat → St → Hp → Prop, (∃ m, W 0 m σ H) ∧ ∀ i m σ H, W i m σ H →
      ((Itl K a).stop i H ∧ D.nx σ H) ∨ ((Itl K a).go i H ∧ ∃ N : St → Hp → Prop, (∀ σ' H', N σ' H' → ∃ m', m' < m ∧ W (i + 1) m' σ' H') ∧ ∀ x H', (Itl K a).yld i H x H' → g x σ H' fun σ2 H2 => tb { D with nx := N, ct := N, bk := D.nx } σ2 H2) := by
  refine ⟨fun i m σ H => m = xs.length - i ∧ i ≤ xs.length ∧ Pv i σ H, ⟨xs.length, by simp, Nat.zero_le _, h0⟩, ?_⟩
  rintro i m σ H ⟨rfl, hi, p⟩
  have q := hl i σ H hi p
  by_cases hlt : i < xs.length
  · refine .inr ⟨⟨xs, xs[i], q, by simp [hlt]⟩, Pv (i + 1), fun σ' H' p' => ⟨xs.length - (i + 1), by omega, rfl, hlt, p'⟩, fun x H' y => ?_⟩
    obtain ⟨e, y⟩ := y
    subst e
    exact hs i x σ _ (y xs q) p
  · have e : i = xs.length := by omega
    subst e
    exact .inl ⟨⟨xs, q, Nat.le_refl _⟩, hd σ H p⟩
end L2
namespace L2
open PySem PySem.Spec PyProof.Rows
abbrev R2 := V → V → Hp → VK → Prop
def OpR (X : Cx) (f : Value → Value → Sem Value) (r : R2) : Prop :=
  ∀ (pins : List (Addr × Obj)) (s : Shared) (σ : St) (H : Hp) (x y : V) (v u : Value) (Q : VK), Inv X pins σ H s → RelV x v → RelV y u → r x y H Q →
    wpAny (model X.prog X.w) X.A (f v u) (EP X pins σ Q) X.xe s
def UnR (X : Cx) (f : Value → Sem Value) (r : V → Hp → VK → Prop) : Prop :=
  ∀ (pins : List (Addr × Obj)) (s : Shared) (σ : St) (H : Hp) (x : V) (v : Value) (Q : VK), Inv X pins σ H s → RelV x v → r x H Q →
    wpAny (model X.prog X.w) X.A (f v) (EP X pins σ Q) X.xe s
def CallR (X : Cx) (f : Value) (r : List V → Hp → VK → Prop) : Prop :=
  ∀ (pins : List (Addr × Obj)) (s : Shared) (σ : St) (H : Hp) (xs : List V) (us : List Value) (Q : VK), Inv X pins σ H s → Vals xs us → r xs H Q →
    wpAny (model X.prog X.w) X.A (call f us) (EP X pins σ Q) X.xe s
def TruR (X : Cx) (r : V → Hp → (Bool → Hp → Prop) → Prop) : Prop :=
  ∀ (pins : List (Addr × Obj)) (s : Shared) (σ : St) (H : Hp) (x : V) (v : Value) (Q : Bool → Hp → Prop), Inv X pins σ H s → RelV x v → r x H Q →
    wpAny (model X.prog X.w) X.A (truthy v) (TP X pins σ Q) X.xe s
def tOp (r : R2) (ta tb : TE) : TE := fun σ H Q => ta σ H fun x H1 => tb σ H1 fun y H2 => r x y H2 Q
def tUn (r : V → Hp → VK → Prop) (ta : TE) : TE := fun σ H Q => ta σ H fun x H1 => r x H1 Q
def rI (C : Int → Int → Prop) (g : Int → Int → V) : R2 := fun x y H Q => ∃ i j, x = .int i ∧ y = .int j ∧ C i j ∧ Q (g i j) H
def rI0 (g : Int → Int → V) : R2 := fun x y H Q => ∃ i j, x = .int i ∧ y = .int j ∧ Q (g i j) H
def rU (g : Int → V) : V → Hp → VK → Prop := fun x H Q => ∃ i, x = .int i ∧ Q (g i) H
section
variable {X : Cx} {a b c : Expr} {ta tb tc : TE} {pos : Pos}
theorem binT (ha : PE X a ta) (hb : PE X b tb) {pins : List (Addr × Obj)} {s : Shared} {σ : St} {H : Hp} {R : V → V → Hp → Prop} (I : Inv X pins σ H s)
    (h : ta σ H fun x H1 => tb σ H1 fun y H2 => R x y H2) {Q : Value → Shared → Prop} {f : Value → Value → Sem Value}
    (hf : ∀ v u s2 x y H2, Inv X pins σ H2 s2 → RelV x v → RelV y u → R x y H2 → wpAny (model X.prog X.w) X.A (f v u) Q X.xe s2) :
    wpAny (model X.prog X.w) X.A (eval a X.env) (fun v s₁ => wpAny (model X.prog X.w) X.A (eval b X.env) (fun u s₂ => wpAny (model X.prog X.w) X.A (f v u) Q X.xe s₂) X.xe s₁) X.xe s := by
  refine thn (ha pins s σ H _ I h) fun v s1 ⟨x, H1, I1, r1, q1⟩ => ?_
  refine thn (hb pins s1 σ H1 _ I1 q1) fun u s2 ⟨y, H2, I2, r2, q2⟩ => ?_
  exact hf v u s2 x y H2 I2 r1 r2 q2
theorem pe_op {op : Operator} {r : R2} (ho : OpR X (binaryOp op) r) (ha : PE X a ta) (hb : PE X b tb) : PE X (.BinOp a op b pos) (tOp r ta tb) := by
  intro pins s σ H Q I h
  exact wpAny_BinOp (binT ha hb I h fun v u s2 x y H2 I2 rx ry q => ho pins s2 σ H2 x y v u Q I2 rx ry q)
theorem pe_un {op : UnaryOp} {r : V → Hp → VK → Prop} (ho : UnR X (unaryOp op) r) (ha : PE X a ta) : PE X (.UnaryOp op a pos) (tUn r ta) := by
  intro pins s σ H Q I h
  exact UnaryOp_ (thn (ha pins s σ H _ I h) fun v s1 ⟨x, H1, I1, r1, q1⟩ => ho pins s1 σ H1 x v Q I1 r1 q1)
theorem opI {f : Value → Value → Sem Value} {C : Int → Int → Prop} {g : Int → Int → Int}
    (rule : ∀ (i j : Int) (t u : Tok) (s : Shared) (Q : Value → Shared → Prop) (E : Value → Shared → Prop), C i j → Q (.int (g i j) s.toks) { s with toks := s.toks + 1 } → wpAny (model X.prog X.w) X.A (f (.int i t) (.int j u)) Q E s) :
    OpR X f (rI C fun i j => .int (g i j)) := by
  intro pins s σ H x y v u Q I rx ry h
  obtain ⟨i, j, rfl, rfl, hc, q⟩ := h
  obtain ⟨t, rfl⟩ := rx
  obtain ⟨t', rfl⟩ := ry
  exact rule i j t t' s _ _ hc ⟨.int (g i j), H, I.tok _, ⟨_, rfl⟩, q⟩
theorem opI0 {f : Value → Value → Sem Value} {g : Int → Int → Int}
    (rule : ∀ (i j : Int) (t u : Tok) (s : Shared) (Q : Value → Shared → Prop) (E : Value → Shared → Prop), Q (.int (g i j) s.toks) { s with toks := s.toks + 1 } → wpAny (model X.prog X.w) X.A (f (.int i t) (.int j u)) Q E s) :
    OpR X f (rI0 fun i j => .int (g i j)) := by
  intro pins s σ H x y v u Q I rx ry h
  obtain ⟨i, j, rfl, rfl, q⟩ := h
  obtain ⟨t, rfl⟩ := rx
  obtain ⟨t', rfl⟩ := ry
  exact rule i j t t' s _ _ ⟨.int (g i j), H, I.tok _, ⟨_, rfl⟩, q⟩
theorem opB0 {f : Value → Value → Sem Value} {g : Int → Int → Bool}
    (rule : ∀ (i j : Int) (t u : Tok) (s : Shared) (Q : Value → Shared → Prop) (E : Value → Shared → Prop), Q (.bool (g i j)) s → wpAny (model X.prog X.w) X.A (f (.int i t) (.int j u)) Q E s) :
    OpR X f (rI0 fun i j => .bl (g i j)) := by
  intro pins s σ H x y v u Q I rx ry h
  obtain ⟨i, j, rfl, rfl, q⟩ := h
  obtain ⟨t, rfl⟩ := rx
  obtain ⟨t', rfl⟩ := ry
  exact rule i j t t' s _ _ ⟨.bl (g i j), H, I, rfl, q⟩
def CDiv (i j : Int) : Prop := 0 < j ∧ j < 1073741824
def CDivN (i j : Int) : Prop := j ≠ 0 ∧ j.natAbs < 1073741824
def CPow (i j : Int) : Prop := 0 ≤ j ∧ j ≤ 1000000 ∧ i.natAbs < 2 ^ 64
def CMul (i j : Int) : Prop := (-(2 ^ 64) < i ∧ i < 2 ^ 64) ∨ (-(2 ^ 64) < j ∧ j < 2 ^ 64)
theorem CMul.ok {i j : Int} (h : CMul i j) : IntMulOk i j := by
  rcases h with ⟨h1, h2⟩ | ⟨h1, h2⟩
  · exact .of_left (intBits_le_64 h1 h2)
  · exact .of_right (intBits_le_64 h1 h2)
theorem op_add : OpR X (binaryOp .Add) (rI0 fun i j => .int (i + j)) := opI0 fun _ _ _ _ _ _ _ q => add_int q
theorem op_sub : OpR X (binaryOp .Sub) (rI0 fun i j => .int (i - j)) := opI0 fun _ _ _ _ _ _ _ q => sub_int q
theorem op_mul : OpR X (binaryOp .Mult) (rI CMul fun i j => .int (i * j)) := opI fun _ _ _ _ _ _ _ hc q => mul_int q hc.ok
theorem op_fdiv : OpR X (binaryOp .FloorDiv) (rI CDiv fun i j => .int (i / j)) := opI fun i j _ _ _ _ _ hc q => by
  have h1 : (0 : Int) < j := hc.1
  have h2 : j < 1073741824 := hc.2
  exact floordiv_int (by omega) (by rw [Int.fdiv_eq_ediv_of_nonneg i (by omega)]; exact q) (.inl (PyProof.noPylong_small (by omega)))
theorem op_mod : OpR X (binaryOp .Mod) (rI (fun _ j => 0 < j) fun i j => .int (i % j)) := opI fun i j _ _ _ _ _ hc q => by
  have h1 : (0 : Int) < j := hc
  exact mod_int' (by omega) (by rw [Int.fmod_eq_emod_of_nonneg i (by omega)]; exact q)
theorem op_modN : OpR X (binaryOp .Mod) (rI (fun _ j => j ≠ 0) fun i j => .int (i.fmod j)) := opI fun _ _ _ _ _ _ _ hc q => mod_int' hc q
theorem op_pow : OpR X (binaryOp .Pow) (rI CPow fun i j => .int (i ^ j.toNat)) := opI fun _ _ _ _ _ _ _ hc q => pow_int_small hc.1 hc.2.1 hc.2.2 q
theorem unI {f : Value → Sem Value} {g : Int → Int}
    (rule : ∀ (i : Int) (t : Tok) (s : Shared) (Q : Value → Shared → Prop) (E : Value → Shared → Prop), Q (.int (g i) s.toks) { s with toks := s.toks + 1 } → wpAny (model X.prog X.w) X.A (f (.int i t)) Q E s) :
    UnR X f (rU fun i => .int (g i)) := by
  intro pins s σ H x v Q I rx h
  obtain ⟨i, rfl, q⟩ := h
  obtain ⟨t, rfl⟩ := rx
  exact rule i t s _ _ ⟨.int (g i), H, I.tok _, ⟨_, rfl⟩, q⟩
theorem un_neg : UnR X (unaryOp .USub) (rU fun i => .int (-i)) := unI fun _ _ _ _ _ q => neg_int q
end
def scal : V → V → Bool
  | .non, .non => true | .non, .int _ => true | .int _, .non => true | .non, .bl _ => true | .bl _, .non => true | .non, .str _ => true | .str _, .non => true
  | .int _, .int _ => true | .bl _, .bl _ => true | .str _, .str _ => true | .byt _, .byt _ => true
  | .int _, .str _ => true | .str _, .int _ => true | .bl _, .str _ => true | .str _, .bl _ => true
  | _, _ => false
def rEq : R2 := fun x y H Q => scal x y = true ∧ Q (.bl (decide (x = y))) H
def rNe : R2 := fun x y H Q => scal x y = true ∧ Q (.bl (!decide (x = y))) H
theorem dec_int {i j : Int} : decide (V.int i = V.int j) = (i == j) := by
  rw [Bool.eq_iff_iff]
  simp
theorem dec_bl {i j : Bool} : decide (V.bl i = V.bl j) = (i == j) := by
  rw [Bool.eq_iff_iff]
  simp
theorem dec_str {i j : Str} : decide (V.str i = V.str j) = (i == j) := by
  rw [Bool.eq_iff_iff]
  simp
theorem dec_byt {i j : Array UInt8} : decide (V.byt i = V.byt j) = (i.toList == j.toList) := by
  rw [Bool.eq_iff_iff]
  cases i
  cases j
  simp
section
variable {X : Cx} {a b c : Expr} {ta tb tc : TE} {pos : Pos}
theorem fin_bl {pins : List (Addr × Obj)} {σ : St} {H : Hp} {s : Shared} {Q : VK} {k k' : Bool} (I : Inv X pins σ H s) (q : Q (.bl k) H) (e : k = k') : EP X pins σ Q (.bool k') s := by
  subst e
  exact ⟨.bl k, H, I, rfl, q⟩
theorem op_eq : OpR X (compareOp .Eq) rEq := by
  intro pins s σ H x y v u Q I rx ry h
  obtain ⟨hs, q⟩ := h
  cases x with
  | non =>
    cases rx
    cases y with
    | non => cases ry; exact PySem.EqNone.eq_none_none (fin_bl I q (by simp))
    | bl j => cases ry; exact PySem.EqNone.eq_none_bool (fin_bl I q (by simp))
    | int j => obtain ⟨t', rfl⟩ := ry; exact PySem.EqNone.eq_none_int (fin_bl I q (by simp))
    | str j => obtain ⟨t', rfl⟩ := ry; exact PySem.EqNone.eq_none_str (fin_bl I q (by simp))
    | _ => exact absurd (show false = true from hs) Bool.false_ne_true
  | bl i =>
    cases rx
    cases y with
    | non => cases ry; exact PySem.EqNone.eq_bool_none (fin_bl I q (by simp))
    | bl j => cases ry; exact eq_bool (fin_bl I q dec_bl)
    | str j => obtain ⟨t', rfl⟩ := ry; exact PySem.EqMixed.eq_bool_str (fin_bl I q (by simp))
    | _ => exact absurd (show false = true from hs) Bool.false_ne_true
  | int i =>
    obtain ⟨t, rfl⟩ := rx
    cases y with
    | non => cases ry; exact PySem.EqNone.eq_int_none (fin_bl I q (by simp))
    | int j => obtain ⟨t', rfl⟩ := ry; exact eq_int (fin_bl I q dec_int)
    | str j => obtain ⟨t', rfl⟩ := ry; exact PySem.EqMixed.eq_int_str (fin_bl I q (by simp))
    | _ => exact absurd (show false = true from hs) Bool.false_ne_true
  | str i =>
    obtain ⟨t, rfl⟩ := rx
    cases y with
    | non => cases ry; exact PySem.EqNone.eq_str_none (fin_bl I q (by simp))
    | bl j => cases ry; exact PySem.EqMixed.eq_str_bool (fin_bl I q (by simp))
    | int j => obtain ⟨t', rfl⟩ := ry; exact PySem.EqMixed.eq_str_int (fin_bl I q (by simp))
    | str j => obtain ⟨t', rfl⟩ := ry; exact eq_str (fin_bl I q dec_str)
    | _ => exact absurd (show false = true from hs) Bool.false_ne_true
  | byt i =>
    obtain ⟨t, rfl⟩ := rx
    cases y with
    | byt j => obtain ⟨t', rfl⟩ := ry; exact PySem.W.eq_bytes (fin_bl I q dec_byt)
    | _ => exact absurd (show false = true from hs) Bool.false_ne_true
  | _ => cases y <;> exact absurd (show false = true from hs) Bool.false_ne_true
theorem op_ne : OpR X (compareOp .NotEq) rNe := by
  intro pins s σ H x y v u Q I rx ry h
  obtain ⟨hs, q⟩ := h
  cases x with
  | non =>
    cases rx
    cases y with
    | non => cases ry; exact PySem.EqNone.ne_none_none (fin_bl I q (by simp))
    | bl j => cases ry; exact PySem.EqNone.ne_none_bool (fin_bl I q (by simp))
    | int j => obtain ⟨t', rfl⟩ := ry; exact PySem.EqNone.ne_none_int (fin_bl I q (by simp))
    | str j => obtain ⟨t', rfl⟩ := ry; exact PySem.EqNone.ne_none_str (fin_bl I q (by simp))
    | _ => exact absurd (show false = true from hs) Bool.false_ne_true
  | bl i =>
    cases rx
    cases y with
    | non => cases ry; exact PySem.EqNone.ne_bool_none (fin_bl I q (by simp))
    | bl j => cases ry; exact ne_bool (fin_bl I q (congrArg not dec_bl))
    | str j => obtain ⟨t', rfl⟩ := ry; exact PySem.EqMixed.ne_bool_str (fin_bl I q (by simp))
    | _ => exact absurd (show false = true from hs) Bool.false_ne_true
  | int i =>
    obtain ⟨t, rfl⟩ := rx
    cases y with
    | non => cases ry; exact PySem.EqNone.ne_int_none (fin_bl I q (by simp))
    | int j => obtain ⟨t', rfl⟩ := ry; exact ne_int (fin_bl I q (congrArg not dec_int))
    | str j => obtain ⟨t', rfl⟩ := ry; exact PySem.EqMixed.ne_int_str (fin_bl I q (by simp))
    | _ => exact absurd (show false = true from hs) Bool.false_ne_true
  | str i =>
    obtain ⟨t, rfl⟩ := rx
    cases y with
    | non => cases ry; exact PySem.EqNone.ne_str_none (fin_bl I q (by simp))
    | bl j => cases ry; exact PySem.EqMixed.ne_str_bool (fin_bl I q (by simp))
    | int j => obtain ⟨t', rfl⟩ := ry; exact PySem.EqMixed.ne_str_int (fin_bl I q (by simp))
    | str j => obtain ⟨t', rfl⟩ := ry; exact ne_str (fin_bl I q (congrArg not dec_str))
    | _ => exact absurd (show false = true from hs) Bool.false_ne_true
  | byt i =>
    obtain ⟨t, rfl⟩ := rx
    cases y with
    | byt j => obtain ⟨t', rfl⟩ := ry; exact PySem.W.ne_bytes (fin_bl I q (congrArg not dec_byt))
    | _ => exact absurd (show false = true from hs) Bool.false_ne_true
  | _ => cases y <;> exact absurd (show false = true from hs) Bool.false_ne_true
theorem op_lt : OpR X (compareOp .Lt) (rI0 fun i j => .bl (decide (i < j))) := opB0 fun _ _ _ _ _ _ _ q => lt_int q
theorem op_le : OpR X (compareOp .LtE) (rI0 fun i j => .bl (decide (i ≤ j))) := opB0 fun _ _ _ _ _ _ _ q => le_int q
theorem op_gt : OpR X (compareOp .Gt) (rI0 fun i j => .bl (decide (j < i))) := opB0 fun _ _ _ _ _ _ _ q => gt_int q
theorem op_ge : OpR X (compareOp .GtE) (rI0 fun i j => .bl (decide (j ≤ i))) := opB0 fun _ _ _ _ _ _ _ q => ge_int q
def isObj : HO → Bool
  | .lst _ => true
  | .ins _ _ _ => true
  | _ => false
theorem nomark (b : Expr) {op : CmpOp} (h : op ≠ .In := by decide) (h2 : op ≠ .NotIn := by decide) : behindInMarks op b = false := by
  have e1 : (op == CmpOp.In) = false := by cases op <;> first | rfl | exact absurd rfl h
  have e2 : (op == CmpOp.NotIn) = false := by cases op <;> first | rfl | exact absurd rfl h2
  cases b <;> simp [behindInMarks, e1, e2]
theorem pe_cmpR {op : CmpOp} {r : R2} (ho : OpR X (compareOp op) r) (ha : PE X a ta) (hb : PE X b tb) (hm : behindInMarks op b = false) : PE X (.Compare a [op] [b] pos) (tOp r ta tb) := by
  intro pins s σ H Q I h
  exact wpAny_Compare1 (binT ha hb I h fun v u s2 x y H2 I2 rx ry q => ho pins s2 σ H2 x y v u Q I2 rx ry q) hm
def tTest (t : TE) : TT := fun σ H Q => t σ H fun x H' => ∃ k, x = .bl k ∧ Q k H'
theorem pt_cmpR {op : CmpOp} {r : R2} (ho : OpR X (compareOp op) r) (ha : PE X a ta) (hb : PE X b tb) (hm : behindInMarks op b = false) : PT X (.Compare a [op] [b] pos) (tTest (tOp r ta tb)) := by
  intro pins s σ H Q I h
  refine wpAny_isTrue_Compare1 (thn (ha pins s σ H _ I h) fun v s1 ⟨x, H1, I1, r1, q1⟩ => thn (hb pins s1 σ H1 _ I1 q1) fun u s2 ⟨y, H2, I2, r2, q2⟩ =>
    thn (ho pins s2 σ H2 x y v u _ I2 r1 r2 q2) fun c s3 ⟨z, H3, I3, r3, k, e, q3⟩ => ?_) hm
  subst e
  cases r3
  exact wpAny_truthy_bool ⟨H3, I3, q3⟩
def tChain (r r' : R2) (ta tb tc : TE) : TE := fun σ H Q => ta σ H fun x H1 => tb σ H1 fun y H2 => r x y H2 fun z H3 => ∃ k, z = .bl k ∧
  (if k = true then tc σ H3 fun w' H4 => r' y w' H4 Q else Q (.bl false) H3)
def TruV (K : PySem.W.Frag) (x : V) (H : Hp) (k : Bool) : Prop :=
  match x with
  | .non => k = false
  | .bl b => k = b
  | .int i => k = (i != 0)
  | .str y => y.length ≤ sizeLine ∧ k = ((y.length : Int) != 0)
  | .byt y => y.size ≤ sizeLine ∧ k = ((y.size : Int) != 0)
  | .ref p => (∃ xs, SqL K H p xs ∧ k = !xs.isEmpty) ∨ (∃ xs, SqT K H p xs ∧ k = !xs.isEmpty) ∨ ∃ kvs, H p = some (.dK kvs) ∧ k = !kvs.isEmpty
  | _ => False
theorem line63 : (sizeLine : Nat) < 2 ^ 63 := by rw [sizeLine_eq]; decide
def PlainIxT (b : Expr) : Prop := ∀ o i, subscripted b false o i = operate [o, i] (getItem o i)
theorem vals1 {x : V} {us : List Value} (r : Vals [x] us) : ∃ u, us = [u] ∧ RelV x u := by
  cases r with
  | cons r1 r2 => cases r2; exact ⟨_, rfl, r1⟩
theorem vals2 {x y : V} {us : List Value} (r : Vals [x, y] us) : ∃ u w', us = [u, w'] ∧ RelV x u ∧ RelV y w' := by
  cases r with
  | cons r1 r2 =>
    cases r2 with
    | cons r3 r4 => cases r4; exact ⟨_, _, rfl, r1, r3⟩
theorem call_abs : CallR X (.builtin "abs") (fun xs H Q => ∃ i, xs = [.int i] ∧ Q (.int (if i < 0 then -i else i)) H) := by
  intro pins s σ H xs us Q I r h
  obtain ⟨i, rfl, q⟩ := h
  obtain ⟨u, rfl, t, rfl⟩ := vals1 r
  exact call_abs_int fun u tk => ⟨.int (if i < 0 then -i else i), H, I.tok _, ⟨_, rfl⟩, q⟩
theorem call_int1 : CallR X (.type "int") (fun xs H Q => (∃ i, xs = [.int i] ∧ Q (.int i) H) ∨ ∃ k, xs = [.bl k] ∧ Q (.int (if k then 1 else 0)) H) := by
  intro pins s σ H xs us Q I r h
  rcases h with ⟨i, rfl, q⟩ | ⟨k, rfl, q⟩
  · obtain ⟨u, rfl, t, rfl⟩ := vals1 r
    exact call_int_int ⟨.int i, H, I, ⟨_, rfl⟩, q⟩
  · obtain ⟨u, rfl, r1⟩ := vals1 r
    cases r1
    exact call_int_bool ⟨.int (if k then 1 else 0), H, I.tok _, ⟨_, rfl⟩, q⟩
def LenV (K : PySem.W.Frag) (x : V) (H : Hp) (n : Nat) : Prop :=
  match x with
  | .str y => y.length ≤ sizeLine ∧ n = y.length
  | .byt y => y.size ≤ sizeLine ∧ n = y.size
  | .ref p => (∃ xs, SqL K H p xs ∧ n = xs.length) ∨ ∃ xs, SqT K H p xs ∧ n = xs.length
  | _ => False
end
end L2
namespace L2
open PySem PySem.Spec PyProof.Rows
structure ObjM (h : Heap) (x dx C : Addr) (mA : Str → Option Value) : Prop where
  obj : h.get? x = some (PySem.W.instObj C dx)
  ns : h.Ns1 dx mA
  ne : dx ≠ x
theorem lookIn_ns {h : Heap} {dx : Addr} {mA : Str → Option Value} (n : h.Ns1 dx mA) : ∃ od, h.get? dx = some od ∧ ∀ name, PySem.W.lookIn name od = some (mA name) := by
  obtain ⟨o, es, ep, ho, hd, hk, _, hm⟩ := n
  refine ⟨o, ho, fun name => ?_⟩
  have e := hm name
  unfold nsFind findBy at e
  rw [← Array.find?_toList] at e
  unfold PySem.W.lookIn
  rw [hd]
  dsimp only
  split
  · rename_i y q
    rw [q] at e
    exact congrArg some e
  · rename_i q
    rw [q] at e
    have a : es.toList.any (·.refKey) = false := by
      rw [List.any_eq_false]
      intro y hy
      obtain ⟨z, t, hkey⟩ := hk y (Array.mem_toList_iff.mp hy)
      simp [DictEntry.refKey, hkey]
    have a' : ¬ es.toList.any (·.refKey) = true := by rw [a]; exact Bool.false_ne_true
    rw [if_neg a']
    exact congrArg some e
theorem ObjM.look {h : Heap} {x dx C : Addr} {mA : Str → Option Value} (I : ObjM h x dx C mA) : ∃ od, PySem.W.InstAt h x (PySem.W.instObj C dx) C (some od) ∧ ∀ name, PySem.W.lookIn name od = some (mA name) :=
  let ⟨od, ho, hl⟩ := lookIn_ns I.ns
  ⟨od, ⟨I.obj, rfl, rfl, ho⟩, hl⟩
section
variable {prog : Program} {w : World} {A : Around} {E : Value → Shared → Prop} {s : Shared} {K : PySem.W.Frag} {x dx C f : Addr} {mA : Str → Option Value} {name : Str} {v : Value}
theorem get_map {expr : Bool} {Q : Value → Shared → Prop} (X : K.In s.heap) (I : ObjM s.heap x dx C mA) (hg : PySem.W.plainGet K C name = true) (hh : PySem.W.hasDictIn K C = true)
    (ha : PySem.W.findIn K (.ref C) name = some none) (hv : mA name = some v) (hv' : PySem.W.handedIn v = true) (h : Q v { s with toks := s.toks + 1 }) :
    wpAny (model prog w) A (getAttr (.ref x) name expr) Q E s := by
  obtain ⟨od, J, hl⟩ := I.look
  exact PySem.W.get_value X J (PySem.W.plainGet_of hg).1 (PySem.W.findObj_own hh ha rfl (by rw [hl, hv])) hv' h
theorem get_meth {pl : Sem Bool} {Q : Value × List Value → Shared → Prop} (X : K.In s.heap) (I : ObjM s.heap x dx C mA) (hg : PySem.W.plainGet K C name = true)
    (hf : PySem.W.findIn K (.ref C) name = some (some (.ref f))) (ht : PySem.W.isFn K (.ref f) = true) (hv : mA name = none) (h : Q (.ref f, [.ref x]) s) :
    wpAny (model prog w) A (getMethod (.ref x) name pl) Q E s := by
  obtain ⟨od, J, hl⟩ := I.look
  exact PySem.W.method_fn X J (PySem.W.plainGet_of hg).1 (PySem.W.plainGet_of hg).2 hf (beq_iff_eq.mp ht) (by show (PySem.W.lookIn name od).map (·.isSome) = some false; rw [hl, hv]; rfl) h
theorem set_map {ns : List Str} {Q : Unit → Shared → Prop} (X : K.In s.heap) (I : ObjM s.heap x dx C mA)
    (hs : PySem.W.findIn K (.ref C) "__setattr__" = some (some (.builtin "object.__setattr__"))) (hp : PySem.W.plainOver K C = true) (ht : PySem.W.takerIn K C name = some none) (hh : PySem.W.hasDictIn K C = true)
    (hw : PySem.Within mA ns) (hsz : ns.length ≤ sizeLine)
    (h : ∀ h', ObjM h' x dx C (fun y => if y = name then some v else mA y) → Heap.SameBut dx s.heap h' → Q () { s with heap := h', toks := s.toks + 2 }) :
    wpAny (model prog w) A (setAttr (.ref x) name v) Q E s := by
  obtain ⟨od, J, hl⟩ := I.look
  refine PySem.W.set_plain X J hs (PySem.W.osa_open (s := { s with toks := s.toks + 1 }) (r := none) X J hp ht fun b => ?_)
  obtain ⟨cd, hc, hd'⟩ := PySem.W.any_some hh
  have hx : s.heap.get? x = some ⟨.ref C, some dx, .plain, #[]⟩ := I.obj
  refine wpAny_bind (wpAny_pure (wpAny_bind (wpAny_bind (wpAny_loadPart hx (wpAny_bind (PySem.W.Looks.here (s := { s with toks := s.toks + 1 }) (PySem.W.looks_clsIn X hc) ?_))))))
  rw [hd']
  refine wpAny_pure (a := some dx) (wpAny_bind (wpAny_pure (wpAny_bind ?_)))
  refine wpAny_nsSet1 (s := { s with toks := s.toks + 1 }) I.ns fun h' hn2 hs2 => ?_
  obtain ⟨oD, esD, epD, hoD, hdD, hcD⟩ := hn2.count (PySem.Within.cons name v hw)
  refine wpAny_bind (wpAny_lookBehind hoD (by rw [hdD]; exact pastItsLine_dict (Nat.le_trans hcD (by rw [List.length_cons]; omega))) ?_)
  exact wpAny_pure (h _ ⟨(hs2.2 _ (Ne.symm I.ne)).trans I.obj, hn2, I.ne⟩ hs2)
theorem make_map {R : Result → Shared → Prop} {vs : List Value} {kw : List (Str × Value)} (X : K.In s.heap) (hm : PySem.W.makesIn K C = true)
    (hi : PySem.W.findIn K (.ref C) "__init__" = some (some (.ref f))) (hf : PySem.W.typeIn K (.ref f) = some (.type "function"))
    (h : codeAny (model prog w) (A.under (.builtin "type.__call__" ⟨.ref C :: vs, kw⟩)) (.call (.ref f) ⟨.ref (s.heap.objs.size + 1) :: vs, kw⟩) (PySem.W.InitBack (s.heap.objs.size + 1) R)
      { s with heap := (s.heap.push PySem.W.emptyDict).push (PySem.W.instObj C s.heap.objs.size) }) :
    codeAny (model prog w) A (.call (.ref C) ⟨vs, kw⟩) R s := by
  obtain ⟨hh, g, d, t, os⟩ := s
  exact PySem.W.make_core (PySem.W.makes_of X hm) (PySem.W.looks_findIn X hi) (fun self => PySem.W.bind_fn X self hf) (.inl rfl) h
theorem make_map0 {R : Result → Shared → Prop} (X : K.In s.heap) (hm : PySem.W.makesIn K C = true)
    (hi : PySem.W.findIn K (.ref C) "__init__" = some (some (.builtin "object.__init__")))
    (hb : ∀ self, PySem.W.Looks (model prog w) s.heap (bindSpecial (.builtin "object.__init__") self) (.builtin "object.__init__", [self]))
    (h : codeAny (model prog w) (A.under (.builtin "type.__call__" ⟨[.ref C], []⟩)) (.call (.builtin "object.__init__") ⟨[.ref (s.heap.objs.size + 1)], []⟩) (PySem.W.InitBack (s.heap.objs.size + 1) R)
      { s with heap := (s.heap.push PySem.W.emptyDict).push (PySem.W.instObj C s.heap.objs.size) }) :
    codeAny (model prog w) A (.call (.ref C) ⟨[], []⟩) R s := by
  obtain ⟨hh, g, d, t, os⟩ := s
  exact PySem.W.make_core (PySem.W.makes_of X hm) (PySem.W.looks_findIn X hi) hb (.inr ⟨rfl, rfl⟩) h
end
def putF (f : Str) (v : V) : List (Str × V) → List (Str × V)
  | [] => [(f, v)]
  | (g, x) :: r => if g = f then (g, v) :: r else (g, x) :: putF f v r
theorem lookup_putF (f g : Str) (v : V) : ∀ fs : List (Str × V), (putF f v fs).lookup g = if g = f then some v else fs.lookup g
  | [] => by
    show List.lookup g [(f, v)] = _
    by_cases h : g = f
    · have hb : (g == f) = true := beq_iff_eq.mpr h
      simp only [List.lookup, hb, if_pos h]
    · have hb : (g == f) = false := beq_eq_false_iff_ne.mpr h
      simp only [List.lookup, hb, if_neg h]
  | (k, x) :: r => by
    have ih := lookup_putF f g v r
    rw [show putF f v ((k, x) :: r) = (if k = f then (k, v) :: r else (k, x) :: putF f v r) from rfl]
    by_cases hk : k = f
    · rw [if_pos hk]
      by_cases h : g = k
      · have hb : (g == k) = true := beq_iff_eq.mpr h
        simp only [List.lookup, hb, if_pos (h.trans hk)]
      · have hb : (g == k) = false := beq_eq_false_iff_ne.mpr h
        simp only [List.lookup, hb, if_neg (fun e : g = f => h (e.trans hk.symm))]
    · rw [if_neg hk]
      by_cases h : g = k
      · have hb : (g == k) = true := beq_iff_eq.mpr h
        simp only [List.lookup, hb, if_neg (fun e : g = f => hk (h.symm.trans e))]
      · have hb : (g == k) = false := beq_eq_false_iff_ne.mpr h
        simp only [List.lookup, hb]
        exact ih
theorem keys_putF (f : Str) (v : V) : ∀ fs : List (Str × V), f ∈ (putF f v fs).map (·.1) ∧ ∀ g, g ∈ fs.map (·.1) → g ∈ (putF f v fs).map (·.1)
  | [] => ⟨by simp [putF], fun g h => by simp at h⟩
  | (k, x) :: r => by
    obtain ⟨i1, i2⟩ := keys_putF f v r
    rw [show putF f v ((k, x) :: r) = (if k = f then (k, v) :: r else (k, x) :: putF f v r) from rfl]
    by_cases hk : k = f
    · rw [if_pos hk]
      subst hk
      exact ⟨by simp, fun g h => by simpa using h⟩
    · rw [if_neg hk]
      refine ⟨?_, fun g h => ?_⟩
      · rw [List.map_cons]
        exact List.mem_cons_of_mem _ i1
      · rw [List.map_cons] at h ⊢
        rcases List.mem_cons.mp h with e | e
        · exact List.mem_cons.mpr (.inl e)
        · exact List.mem_cons_of_mem _ (i2 g e)
theorem length_putF (f : Str) (v : V) : ∀ fs : List (Str × V), (putF f v fs).length ≤ fs.length + 1
  | [] => by simp [putF]
  | (k, x) :: r => by
    have ih := length_putF f v r
    rw [show putF f v ((k, x) :: r) = (if k = f then (k, v) :: r else (k, x) :: putF f v r) from rfl]
    by_cases hk : k = f
    · rw [if_pos hk, List.length_cons, List.length_cons]; omega
    · rw [if_neg hk, List.length_cons, List.length_cons]; omega
theorem RelO.some_of {v : V} {o : Option Value} (r : RelO (some v) o) : ∃ u, o = some u ∧ RelV v u := by
  cases o with
  | none => exact (show False from r).elim
  | some u => exact ⟨u, rfl, r⟩
theorem RelO.none_of {o : Option Value} (r : RelO none o) : o = none := by
  cases o with
  | none => rfl
  | some u => exact (show False from r).elim
theorem handed_of {v : V} {u : Value} (r : RelV v u) : PySem.W.handedIn u = true := by
  cases v with
  | non => cases (show u = Value.none from r); rfl
  | bl b => cases (show u = Value.bool b from r); rfl
  | int i => obtain ⟨t, e⟩ := (show ∃ t, u = Value.int i t from r); cases e; rfl
  | str x => obtain ⟨t, e⟩ := (show ∃ t, u = Value.str x t from r); cases e; rfl
  | byt b => obtain ⟨t, e⟩ := (show ∃ t, u = Value.bytes b t from r); cases e; rfl
  | flt b => obtain ⟨t, e⟩ := (show ∃ t, u = Value.float b t from r); cases e; rfl
  | ref a => cases (show u = Value.ref a from r); rfl
  | ty n => cases (show u = Value.type n from r); rfl
section
variable {P : Program} {w : World} {H H' : Hp} {h h' : Heap} {a C dx : Addr} {fs fs' : List (Str × V)}
theorem ins_get (hok : HOk P w H h) (e : H a = some (.ins C dx fs)) : ∃ mA, ObjM h a dx C mA ∧ (∀ f, RelO (fs.lookup f) (mA f)) ∧ PySem.Within mA (fs.map (·.1)) ∧ fs.length ≤ 1000 ∧ H dx = some (.own a) := by
  obtain ⟨d, z, ne, ob, mA, n, r, q⟩ := (show ObjOk P w H h a (.ins C dx fs) from hok a _ e)
  exact ⟨mA, ⟨ob, n, ne⟩, r, q, z, d⟩
end
structure Cls (K : PySem.W.Frag) (C : Addr) : Prop where
  pg : PySem.W.plainGet K C Str.empty = true
  hd : PySem.W.hasDictIn K C = true
  po : PySem.W.plainOver K C = true
  sa : PySem.W.findIn K (.ref C) "__setattr__" = some (some (.builtin "object.__setattr__"))
theorem Cls.get {K : PySem.W.Frag} {C : Addr} (c : Cls K C) (f : Str) : PySem.W.plainGet K C f = true := c.pg
def NoAttr (K : PySem.W.Frag) (C : Addr) (f : Str) : Prop := PySem.W.findIn K (.ref C) f = some none
theorem NoAttr.taker {K : PySem.W.Frag} {C : Addr} {f : Str} (n : NoAttr K C f) : PySem.W.takerIn K C f = some none := by
  unfold PySem.W.takerIn
  rw [show PySem.W.findIn K (.ref C) f = some none from n]
  rfl
structure Con (K : PySem.W.Frag) (C : Addr) (f : Str) (v : V) (u : Value) : Prop where
  at_ : PySem.W.findIn K (.ref C) f = some (some u)
  rel : RelV v u
  get : PySem.W.specialIn K u "__get__" = some none
  cp : PySem.W.copiedNames.contains f = false
structure Meth (K : PySem.W.Frag) (C : Addr) (m : Str) (f : Addr) : Prop where
  at_ : PySem.W.findIn K (.ref C) m = some (some (.ref f))
  fn : PySem.W.isFn K (.ref f) = true
  kp : PySem.W.keepIn K (.ref f) = true
section
variable {X : Cx} {pins : List (Addr × Obj)} {σ : St} {H : Hp} {s : Shared} {a C dx : Addr} {fs : List (Str × V)} {f : Str} {v : V} {A : Around} {E : Value → Shared → Prop}
theorem getattr_ok {b : Bool} {Q : Value → Shared → Prop} (I : Inv X pins σ H s) (e : H a = some (.ins C dx fs)) (c : Cls X.K C) (n : NoAttr X.K C f) (l : fs.lookup f = some v)
    (h : ∀ u s', Inv X pins σ H s' → RelV v u → Q u s') : wpAny (model X.prog X.w) A (getAttr (.ref a) f b) Q E s := by
  obtain ⟨mA, O, r, _, _, _⟩ := ins_get I.hok e
  obtain ⟨u, hu, ru⟩ := RelO.some_of (v := v) (o := mA f) (by rw [← l]; exact r f)
  exact get_map I.kIn O (c.get f) c.hd n hu (handed_of ru) (h u _ (I.tok _) ru)
theorem getmeth_ok {m : Str} {g : Addr} {pl : Sem Bool} {Q : Value × List Value → Shared → Prop} (I : Inv X pins σ H s) (e : H a = some (.ins C dx fs)) (c : Cls X.K C) (k : Meth X.K C m g) (l : fs.lookup m = none)
    (h : Q (.ref g, [.ref a]) s) : wpAny (model X.prog X.w) A (getMethod (.ref a) m pl) Q E s := by
  obtain ⟨mA, O, r, _, _, _⟩ := ins_get I.hok e
  have hn : mA m = none := RelO.none_of (by rw [← l]; exact r m)
  exact get_meth I.kIn O (c.get m) k.at_ k.fn hn h
theorem setattr_ok {y : V} {u : Value} {Q : Unit → Shared → Prop} (I : Inv X pins σ H s) (e : H a = some (.ins C dx fs)) (c : Cls X.K C) (n : NoAttr X.K C f) (hl : fs.length < 1000) (ry : RelV y u)
    (h : ∀ s', Inv X pins σ (upd H a (.ins C dx (putF f y fs))) s' → Q () s') : wpAny (model X.prog X.w) A (setAttr (.ref a) f u) Q E s := by
  obtain ⟨mA, O, r, wi, _, ho⟩ := ins_get I.hok e
  have hz : (fs.map (·.1)).length ≤ sizeLine := by rw [List.length_map, sizeLine_eq]; omega
  refine set_map I.kIn O c.sa c.po n.taker c.hd wi hz fun h' O' sb => h _ ?_
  have hd : ∃ o, h'.get? dx = some o := let ⟨o, _, _, e', _⟩ := O'.ns; ⟨o, e'⟩
  refine I.write (x := a) (e := dx) (by rw [e]; exact True.intro) (.inr ho) (fun b q hb z => (sb.2 b hb).trans z) hd ?_
  refine ⟨by rw [upd_ne O.ne]; exact ho, ?_, O.ne, O'.obj, _, O'.ns, fun g => ?_, fun g hg => ?_⟩
  · have := length_putF f y fs; omega
  · show RelO ((putF f y fs).lookup g) (if g = f then some u else mA g)
    rw [lookup_putF]
    by_cases q : g = f
    · rw [if_pos q, if_pos q]; exact ry
    · rw [if_neg q, if_neg q]; exact r g
  · by_cases q : g = f
    · rw [q]; exact (keys_putF f y fs).1
    · refine (keys_putF f y fs).2 g (wi g fun z => hg ?_)
      show (if g = f then some u else mA g) = none
      rw [if_neg q]; exact z
theorem Inv.made (I : Inv X pins σ H s) : Inv X pins σ (upd (upd H s.heap.objs.size (.own (s.heap.objs.size + 1))) (s.heap.objs.size + 1) (.ins C s.heap.objs.size []))
    { s with heap := (s.heap.push PySem.W.emptyDict).push (PySem.W.instObj C s.heap.objs.size) } := by
  have e1 : (s.heap.push PySem.W.emptyDict).get? s.heap.objs.size = some PySem.W.emptyDict := Heap.get?_push_size s.heap rfl
  have e2 : ((s.heap.push PySem.W.emptyDict).push (PySem.W.instObj C s.heap.objs.size)).get? (s.heap.objs.size + 1) = some (PySem.W.instObj C s.heap.objs.size) := by
    have := Heap.get?_push_size (s.heap.push PySem.W.emptyDict) (o := PySem.W.instObj C s.heap.objs.size) rfl
    rwa [Heap.size_push] at this
  have e3 : (s.heap.push PySem.W.emptyDict).Ns s.heap.objs.size (fun _ => none) := ⟨PySem.W.emptyDict, #[], _, e1, rfl, (fun e he => absurd he (by simp)), fun _ => rfl⟩
  have I1 := I.laid (a := s.heap.objs.size) (o := .own (s.heap.objs.size + 1)) (h' := s.heap.push PySem.W.emptyDict) (t' := s.toks) (fun b u q => Heap.get?_push_of_some _ q) (Nat.le_refl _) ⟨_, e1⟩
  refine I1.laid (a := s.heap.objs.size + 1) (o := .ins C s.heap.objs.size []) (t' := s.toks) (fun b u q => Heap.get?_push_of_some _ q) (Nat.le_of_eq (Heap.size_push _ _)) ?_
  have ne : s.heap.objs.size ≠ s.heap.objs.size + 1 := Nat.ne_of_lt (Nat.lt_succ_self _)
  refine ⟨by rw [upd_ne ne, upd_same], Nat.zero_le _, ne, e2, fun _ => none, (Heap.Ns1.of_empty e3).at fun o q => Heap.get?_push_of_some _ q, fun _ => True.intro, fun y hy => absurd rfl hy⟩
theorem attr_of {prog : Program} {w : World} {env : Env} {e : Expr} {f : Str} {pos : Pos} {s : Shared} {Q : Value → Shared → Prop} (hb : attributeBase e f env (eval e env) = eval e env)
    (h : wpAny (model prog w) A (eval e env) (fun o s₁ => wpAny (model prog w) A (getAttr o f true) Q E s₁) E s) : wpAny (model prog w) A (eval (.Attribute e f pos) env) Q E s :=
  Attribute_any_ h (by rw [arm_eval_Attribute, hb])
end
def tFld (K : PySem.W.Frag) (ta : TE) (f : Str) : TE := fun σ H Q => ta σ H fun x H1 => ∃ a C dx fs v, x = .ref a ∧ H1 a = some (.ins C dx fs) ∧ Cls K C ∧ NoAttr K C f ∧ fs.lookup f = some v ∧ Q v H1
def tCon (K : PySem.W.Frag) (ta : TE) (f : Str) : TE := fun σ H Q => ta σ H fun x H1 => ∃ a C dx fs v u, x = .ref a ∧ H1 a = some (.ins C dx fs) ∧ Cls K C ∧ Con K C f v u ∧ fs.lookup f = none ∧ Q v H1
def sFld (K : PySem.W.Frag) (ta tv : TE) (f : Str) : TS := fun D σ H => tv σ H fun y H1 => ta σ H1 fun x H2 => ∃ a C dx fs, x = .ref a ∧ H2 a = some (.ins C dx fs) ∧ Cls K C ∧ NoAttr K C f ∧ fs.length < 1000 ∧
  D.nx σ (upd H2 a (.ins C dx (putF f y fs)))
def InOp (X : Cx) (op : Operator) (rd : V → V → Hp → VK → Prop) : Prop :=
  ∀ (pins : List (Addr × Obj)) (s : Shared) (σ : St) (H : Hp) (x y : V) (u v : Value) (Q : VK), Inv X pins σ H s → RelV x u → RelV y v → rd x y H Q → wpAny (model X.prog X.w) X.A (inplaceOp op u v) (EP X pins σ Q) X.xe s
def sFldAug (K : PySem.W.Frag) (ta tv : TE) (rd : V → V → Hp → VK → Prop) (f : Str) : TS := fun D σ H => ta σ H fun x H1 => ∃ a C dx fs v, x = .ref a ∧ H1 a = some (.ins C dx fs) ∧ Cls K C ∧ NoAttr K C f ∧ fs.lookup f = some v ∧
  tv σ H1 fun y H2 => rd v y H2 fun z H3 => ∃ dx' fs', H3 a = some (.ins C dx' fs') ∧ fs'.length < 1000 ∧ D.nx σ (upd H3 a (.ins C dx' (putF f z fs')))
section
variable {X : Cx} {o e value : Expr} {f : Str} {pos pos' tpos : Pos} {ta tv : TE}
theorem pe_fld (he : PE X e ta) (hb : attributeBase e f X.env (eval e X.env) = eval e X.env) : PE X (.Attribute e f pos) (tFld X.K ta f) := by
  intro pins s σ H Q I h
  refine attr_of hb (thn (he pins s σ H _ I h) fun u s1 ⟨x, H1, I1, rx, a, C, dx, fs, v, ex, ea, c, n, l, q⟩ => ?_)
  subst ex
  obtain rfl : u = Value.ref a := rx
  exact getattr_ok I1 ea c n l fun u' s2 I2 ru => ⟨v, H1, I2, ru, q⟩
theorem ps_fld (ha : PE X o ta) (hv : PE X value tv) (hs : swapsWith value (some (.Attribute o f pos')) pos.line X.env = pure false) : PS X (.Assign [.Attribute o f pos'] value pos) (sFld X.K ta tv f) := by
  intro pins s σ H D I h
  refine plainObj_wpAny_Assign_Attribute (thn (hv pins s σ H _ I h) fun u s1 ⟨y, H1, I1, ry, q⟩ => thn (ha pins s1 σ H1 _ I1 q) fun ov s2 ⟨x, H2, I2, rx, a, C, dx, fs, ex, ea, c, n, l, q2⟩ => ?_) hs
  subst ex
  obtain rfl : ov = Value.ref a := rx
  exact setattr_ok I2 ea c n l ry fun s3 I3 => ⟨σ, _, I3, q2⟩
def rAdd : V → V → Hp → VK → Prop := fun x y H Q => ∃ i j, x = .int i ∧ y = .int j ∧ Q (.int (i + j)) H
def rSub : V → V → Hp → VK → Prop := fun x y H Q => ∃ i j, x = .int i ∧ y = .int j ∧ Q (.int (i - j)) H
end
section
variable {X : Cx} {pins : List (Addr × Obj)} {σ : St} {H : Hp} {s : Shared} {A : Around} {E : Value → Shared → Prop} {Q : Value → Shared → Prop} {c : Value} {b : Bool}
inductive TyOf (K : PySem.W.Frag) (H : Hp) : V → Value → Prop where
  | non : TyOf K H .non (.type "NoneType")
  | bl (x : Bool) : TyOf K H (.bl x) (.type "bool")
  | int (i : Int) : TyOf K H (.int i) (.type "int")
  | str (x : Str) : TyOf K H (.str x) (.type "str")
  | flt (x : UInt64) : TyOf K H (.flt x) (.type "float")
  | lst {a : Addr} {xs : List V} (e : H a = some (.lst xs)) : TyOf K H (.ref a) (.type "list")
  | frz {a : Addr} {o : Obj} {xs : List V} (e : H a = some (.frz o (.lst xs))) : TyOf K H (.ref a) (.type "list")
  | tup {a : Addr} {xs : List V} (e : H a = some (.tup xs)) : TyOf K H (.ref a) (.type "tuple")
  | dK {a : Addr} {kvs : List (Key × V)} (e : H a = some (.dK kvs)) : TyOf K H (.ref a) (.type "dict")
  | dT {a : Addr} {kvs : List (List Key × V)} (e : H a = some (.dT kvs)) : TyOf K H (.ref a) (.type "dict")
  | ins {a C dx : Addr} {fs : List (Str × V)} (e : H a = some (.ins C dx fs)) (cl : Cls K C) (ha : PySem.W.findIn K (.ref C) "__class__" = some (some (.builtin "object.__class__")))
      (hn : PySem.W.specialIn K (.builtin "object.__class__") "__get__" = some (some (.builtin "getset_descriptor.__get__"))) (htk : PySem.W.takesIn K (.builtin "object.__class__") = some true)
      (hm : PySem.W.mroIn K C (.type "object") = some true) : TyOf K H (.ref a) (.ref C)
theorem isinst_ok {x : V} {u t : Value} (I : Inv X pins σ H s) (rx : RelV x u) (ty : TyOf X.K H x t) (e : PySem.W.kitOne X.K t c = some b) (h : ∀ tk, Q (.bool b) { s with toks := tk }) :
    wpAny (model X.prog X.w) A (call (.builtin "isinstance") [u, c]) Q E s := by
  cases ty with
  | non => cases (show u = Value.none from rx); exact PySem.W.kia_one PySem.W.kitx_none I.kIn True.intro e (fun z => nomatch z) h
  | bl y => cases (show u = Value.bool y from rx); exact PySem.W.kia_one PySem.W.kitx_bool I.kIn True.intro e (fun z => nomatch z) h
  | int i => obtain ⟨t, q⟩ := (show ∃ t, u = Value.int i t from rx); cases q; exact PySem.W.kia_one PySem.W.kitx_int I.kIn True.intro e (fun z => nomatch z) h
  | str y => obtain ⟨t, q⟩ := (show ∃ t, u = Value.str y t from rx); cases q; exact PySem.W.kia_one PySem.W.kitx_str I.kIn True.intro e (fun z => nomatch z) h
  | flt y => obtain ⟨t, q⟩ := (show ∃ t, u = Value.float y t from rx); cases q; exact PySem.W.kia_one PySem.W.kitx_float I.kIn True.intro e (fun z => nomatch z) h
  | @lst a xs ea =>
    cases (show u = Value.ref a from rx)
    obtain ⟨_, _, n, _, h1⟩ := (show ObjOk X.prog X.w H s.heap a (.lst xs) from I.hok a _ ea)
    exact PySem.W.kia_one PySem.W.kitx_list I.kIn ⟨_, h1, rfl⟩ e (fun z => nomatch z) h
  | @frz a ob xs ea =>
    cases (show u = Value.ref a from rx)
    obtain ⟨_, _, _, n, _, h1⟩ := (show ObjOk X.prog X.w H s.heap a (.frz ob (.lst xs)) from I.hok a _ ea)
    exact PySem.W.kia_one PySem.W.kitx_list I.kIn ⟨_, h1, rfl⟩ e (fun z => nomatch z) h
  | @tup a xs ea =>
    cases (show u = Value.ref a from rx)
    obtain ⟨_, _, _, p⟩ := (show ObjOk X.prog X.w H s.heap a (.tup xs) from I.hok a _ ea)
    obtain ⟨o, h1, h2, _⟩ := p
    exact PySem.W.kia_one PySem.W.kitx_tuple I.kIn ⟨o, h1, h2⟩ e (fun z => nomatch z) h
  | @dK a kvs ea =>
    cases (show u = Value.ref a from rx)
    obtain ⟨_, _, vs, _, p⟩ := (show ObjOk X.prog X.w H s.heap a (.dK kvs) from I.hok a _ ea)
    obtain ⟨o, es, ep, h1, h2, _⟩ := p
    exact PySem.W.kia_one PySem.W.kitx_dict I.kIn ⟨o, h1, h2.1⟩ e (fun z => nomatch z) h
  | @dT a kvs ea =>
    cases (show u = Value.ref a from rx)
    obtain ⟨_, _, xs, _, o, es, ep, h1, h2, _⟩ := (show ObjOk X.prog X.w H s.heap a (.dT kvs) from I.hok a _ ea)
    exact PySem.W.kia_one PySem.W.kitx_dict I.kIn ⟨o, h1, h2.1⟩ e (fun z => nomatch z) h
  | @ins a C dx fs ea cl ha hn htk hm =>
    cases (show u = Value.ref a from rx)
    obtain ⟨mA, O, _⟩ := ins_get I.hok ea
    obtain ⟨od, J, _⟩ := O.look
    exact PySem.W.kia_one (PySem.W.kitx_own (cl.get _) cl.hd ha hn htk hm) I.kIn J e (fun z => nomatch z) h
end
end L2
namespace L2
open PySem PySem.Spec PyProof.Rows
structure Room (k : Nat) (A : Around) : Prop where
  hd : A.handled = none
  dp : A.depth + 3 * k + 5 < recursionLimit
  un : A.units + 16 * k + 200 < cLine
theorem Room.mono {j k : Nat} {A : Around} (r : Room k A) (h : j ≤ k) : Room j A := ⟨r.hd, by have := r.dp; omega, by have := r.un; omega⟩
theorem Room.deeper {k : Nat} {A : Around} (r : Room (k + 1) A) (env : Env) : Room k (A.deeper env) :=
  ⟨r.hd, by have := r.dp; show A.depth + 1 + 3 * k + 5 < _; omega, by have := r.un; show A.units + 3 + 16 * k + 200 < _; omega⟩
theorem make_depth {A : Around} {C : Addr} {us : List Value} {kw : List (Str × Value)} : (A.under (.builtin "type.__call__" ⟨.ref C :: us, kw⟩)).depth = A.depth + 1 := by
  first | rfl | simp [Around.under, Code.weight, Code.isCreation, Code.isGuard, Code.isCaller, Code.frames, Code.isFrame, guardIds]
theorem make_units {A : Around} {C : Addr} {us : List Value} {kw : List (Str × Value)} : (A.under (.builtin "type.__call__" ⟨.ref C :: us, kw⟩)).units = A.units + 1 := by
  first | rfl | simp [Around.under, Code.cUnits, Code.frames, Code.isFrame]
theorem Room.make {k : Nat} {A : Around} (r : Room (k + 1) A) (C : Addr) (us : List Value) (kw : List (Str × Value)) : Room k (A.under (.builtin "type.__call__" ⟨.ref C :: us, kw⟩)) :=
  ⟨r.hd, by have := r.dp; rw [make_depth]; omega, by have := r.un; rw [make_units]; omega⟩
theorem Room.depth {k : Nat} {A : Around} (r : Room k A) : A.depth < recursionLimit := by have := r.dp; omega
theorem Room.units {k : Nat} {A : Around} (r : Room k A) : A.units + 64 < cLine := by have := r.un; omega
theorem Room.units0 {k : Nat} {A : Around} (r : Room k A) : A.units < cLine := by have := r.un; omega
def tNil : TA := fun _ H Q => Q [] H
def tCons (ta : TE) (tr : TA) : TA := fun σ H Q => ta σ H fun x H1 => tr σ H1 fun xs H2 => Q (x :: xs) H2
section
variable {X : Cx} {e : Expr} {es : List Expr} {te : TE} {t : TA} {pos : Pos}
theorem pa_nil : PA X [] tNil := fun _ _ _ _ H Q I h => Calls.spliced_nil ⟨[], H, I, .nil, h⟩
theorem pa_cons (ha : PE X e te) (hr : PA X es t) (hs : starEach (e :: es) X.env = (false, eval e X.env) :: starEach es X.env := by rfl) : PA X (e :: es) (tCons te t) := by
  intro pos pins s σ H Q I h
  rw [hs]
  show wpAny _ _ (spliced ((false, eval e X.env) :: backTo pos (starEach es X.env))) _ _ s
  refine Calls.spliced_cons (thn (ha pins s σ H _ I h) fun u s1 ⟨x, H1, I1, r1, q1⟩ => ?_)
  exact thn (hr pos pins s1 σ H1 _ I1 q1) fun us s2 ⟨xs, H2, I2, r2, q2⟩ => ⟨x :: xs, H2, I2, .cons r1 r2, q2⟩
def tTup (t : TA) : TE := fun σ H Q => t σ H fun xs H1 => xs.length ≤ sizeLine ∧ ∀ p, H1 p = none → Q (.ref p) (upd H1 p (.tup xs))
def tLst (t : TA) : TE := fun σ H Q => t σ H fun xs H1 => xs.length ≤ sizeLine ∧ ∀ p, H1 p = none → Q (.ref p) (upd H1 p (.lst xs))
theorem pe_tup {x1} (h : PA X es t) : PE X (.Tuple es x1 pos) (tTup t) := by
  intro pins s σ H Q I hq
  refine wpAny_Tuple_spliced (thn (h pos pins s σ H _ I hq) fun us s1 ⟨xs, H1, I1, r, z, q⟩ => ⟨by rw [← r.length]; exact z, ?_⟩)
  have hf : H1 s1.heap.objs.size = none := I1.hok.fresh (Nat.le_refl _)
  refine ⟨.ref s1.heap.objs.size, upd H1 s1.heap.objs.size (.tup xs), I1.laid (t' := s1.toks) (fun b u e => Heap.get?_push_of_some _ e) (Nat.le_refl _) ?_, rfl, q _ hf⟩
  exact ⟨z, us, r, ⟨_, Heap.get?_push_size _ rfl, rfl, _, rfl⟩⟩
theorem pe_lst (h : PA X es t) : PE X (.List es pos) (tLst t) := by
  intro pins s σ H Q I hq
  refine wpAny_List_spliced (thn (h pos pins s σ H _ I hq) fun us s1 ⟨xs, H1, I1, r, z, q⟩ => ⟨by rw [← r.length]; exact z, ?_⟩)
  have hf : H1 s1.heap.objs.size = none := I1.hok.fresh (Nat.le_refl _)
  refine ⟨.ref s1.heap.objs.size, upd H1 s1.heap.objs.size (.lst xs), I1.laid (t' := s1.toks) (fun b u e => Heap.get?_push_of_some _ e) (Nat.le_refl _) ?_, rfl, q _ hf⟩
  exact ⟨z, us, 0, r, Heap.get?_push_size _ rfl⟩
end
abbrev Sp := List V → Hp → VK → XK → Prop
abbrev CXT := List Env → Hp → Shared → XK → Value → Shared → Prop
structure Env0 (P : Program) (w : World) (K : PySem.W.Frag) (mg : Str → Option Value) (base : Heap) (A : Around) (outer : List Env) (s : Shared) (H : Hp) : Prop where
  frames : A.frames = some outer
  mod : Mod K mg base
  bs : ∀ b o, base.get? b = some o → s.heap.get? b = some o ∧ H b = none
  bsz : base.objs.size ≤ s.heap.objs.size
  funs : s.heap.FunFrames base outer
  frf : ∀ b ∈ frs outer, H b = none
  hok : HOk P w H s.heap
  bare : AllBare s.gens
def CE (outer : List Env) (P : Program) (w : World) (H : Hp) (s : Shared) (Q : VK) (u : Value) (s' : Shared) : Prop :=
  ∃ v H', s'.os = s.os ∧ AllBare s'.gens ∧ Un (frs outer) [] H H' s.heap s'.heap ∧ HOk P w H' s'.heap ∧ RelV v u ∧ Q v H'
def CR (CX : CXT) (outer : List Env) (P : Program) (w : World) (H : Hp) (s : Shared) (Q : VK) (E : XK) (r : Result) (s' : Shared) : Prop :=
  match r with
  | .ok (.ret u) => CE outer P w H s Q u s'
  | .ok _ => False
  | .error e => CX outer H s E e s'
structure FnOk (P : Program) (w : World) (K : PySem.W.Frag) (mg : Str → Option Value) (base : Heap) (CX : CXT) (k : Nat) (f : Addr) (fd : FuncData) (ps : List Str) (sp : Sp) : Prop where
  len : ∀ vs H Q E, sp vs H Q E → vs.length = ps.length
  run : ∀ (A : Around) (outer : List Env) (s : Shared) (H : Hp) (args : Args) (us : List Value) (vs : List V) (Q : VK) (E : XK), Room k A → Env0 P w K mg base A outer s H → BindsTo s fd args (ps.zip us) → Vals vs us → sp vs H Q E →
    codeAny (model P w) A (.call (.ref f) args) (CR CX outer P w H s Q E) s
theorem FnOk.mono {P : Program} {w : World} {K : PySem.W.Frag} {mg : Str → Option Value} {base : Heap} {CX : CXT} {j k : Nat} {f : Addr} {fd : FuncData} {ps : List Str} {sp : Sp} (F : FnOk P w K mg base CX j f fd ps sp) (h : j ≤ k) :
    FnOk P w K mg base CX k f fd ps sp := ⟨F.len, fun A outer s H args us vs Q E hr => F.run A outer s H args us vs Q E (hr.mono h)⟩
theorem FnOk.imp {P : Program} {w : World} {K : PySem.W.Frag} {mg : Str → Option Value} {base : Heap} {CX : CXT} {k : Nat} {f : Addr} {fd : FuncData} {ps : List Str} {sp sp' : Sp} (F : FnOk P w K mg base CX k f fd ps sp)
    (h : ∀ vs H Q E, sp' vs H Q E → sp vs H Q E) : FnOk P w K mg base CX k f fd ps sp' :=
  ⟨fun vs H Q E q => F.len vs H Q E (h _ _ _ _ q), fun A outer s H args us vs Q E hr he hb hv hs => F.run A outer s H args us vs Q E hr he hb hv (h _ _ _ _ hs)⟩
theorem Env0.make {P : Program} {w : World} {K : PySem.W.Frag} {mg : Str → Option Value} {base : Heap} {A : Around} {outer : List Env} {s : Shared} {H : Hp} (e : Env0 P w K mg base A outer s H) (C : Addr) (us : List Value) (kw : List (Str × Value)) :
    Env0 P w K mg base (A.under (.builtin "type.__call__" ⟨.ref C :: us, kw⟩)) outer s H := ⟨by first | exact e.frames | (simpa [Around.under, Code.envs, Code.isFrame, pushEnvs] using e.frames), e.mod, e.bs, e.bsz, e.funs, e.frf, e.hok, e.bare⟩
section
variable {X : Cx} {pins : List (Addr × Obj)} {σ : St} {H : Hp} {s s' : Shared}
theorem Inv.env0 (I : Inv X pins σ H s) : Env0 X.prog X.w X.K X.mg X.base X.A X.stack s H :=
  ⟨I.ok.frames, I.ok.mod, I.bs, Nat.le_trans I.ok.bsz I.sz, I.stack, I.stkFree, I.hok, I.bare⟩
theorem Inv.after {Q : VK} {u : Value} (I : Inv X pins σ H s) (h : CE X.stack X.prog X.w H s Q u s') : EP X pins σ Q u s' := by
  obtain ⟨v, H', os, bare, un, hok, r, q⟩ := h
  obtain ⟨hh, g, d, t, os'⟩ := s'
  obtain rfl : os' = s.os := os
  exact ⟨v, H', I.call (h' := hh) (g' := g) (d' := d) (t' := t) (ch := []) un hok bare (fun b z => absurd z (by simp)), r, q⟩
end
def tCall (sp : Sp) (dvs : List V) (E : XK) (t : TA) : TE := fun σ H Q => t σ H fun vs H1 => sp (vs ++ dvs) H1 Q E
def tMeth (C : Addr) (m : Str) (sp : Sp) (dvs : List V) (E : XK) (ta : TE) (t : TA) : TE := fun σ H Q => ta σ H fun x H1 => ∃ a dx fs, x = .ref a ∧ H1 a = some (.ins C dx fs) ∧ fs.lookup m = none ∧
  t σ H1 fun vs H2 => sp (x :: (vs ++ dvs)) H2 Q E
def tMake (C : Addr) (sp : Sp) (dvs : List V) (E : XK) (t : TA) : TE := fun σ H Q => t σ H fun vs H1 => ∀ x dx, H1 x = none → H1 dx = none → dx ≠ x →
  sp (.ref x :: (vs ++ dvs)) (upd (upd H1 dx (.own x)) x (.ins C dx [])) (fun v H2 => v = .non ∧ Q (.ref x) H2) E
def Binds (K : PySem.W.Frag) (fd : FuncData) (ps : List Str) (ds : List Value) : Prop :=
  ∀ (s : Shared) (us : List Value), K.In s.heap → (us ++ ds).length = ps.length → BindsTo s fd ⟨us, []⟩ (ps.zip (us ++ ds))
theorem Binds.all {K : PySem.W.Frag} {fd : FuncData} {ps : List Str} (h : ∀ us : List Value, us.length = ps.length → bindArgs fd ⟨us, []⟩ = pure (ps.zip us)) : Binds K fd ps [] := fun s us _ hl => by
  rw [List.append_nil] at hl ⊢
  exact .of_eq (h us hl)
def Passes (CX : CXT) (X : Cx) (E : XK) : Prop := ∀ (pins : List (Addr × Obj)) (σ : St) (H : Hp) (s : Shared) (e : Value) (s' : Shared), Inv X pins σ H s → CX X.stack H s E e s' → X.xe e s'
section
variable {X : Cx} {CX : CXT} {k : Nat} {f C : Addr} {fd : FuncData} {ps : List Str} {sp : Sp} {dvs : List V} {ds : List Value} {E : XK} {x m : Str} {p pos apos : Pos} {e o : Expr} {es : List Expr} {ta : TE} {t : TA}
structure Mk (K : PySem.W.Frag) (C f : Addr) : Prop where
  makes : PySem.W.makesIn K C = true
  init : PySem.W.findIn K (.ref C) "__init__" = some (some (.ref f))
  fn : PySem.W.isFn K (.ref f) = true
  kp : PySem.W.keepIn K (.ref C) = true
end
def PK (X : Cx) (kws : List Keyword) (t : TA) : Prop :=
  ∀ (pos : Pos) (pins : List (Addr × Obj)) (s : Shared) (σ : St) (H : Hp) (Q : List V → Hp → Prop), Inv X pins σ H s → t σ H Q → wpAny (model X.prog X.w) X.A (evalAll ((backToKw pos (keywordEach kws X.env)).map (·.2))) (AP X pins σ Q) X.xe s
section
variable {X : Cx} {CX : CXT} {k : Nat} {f C : Addr} {fd : FuncData} {ps ks : List Str} {sp : Sp} {E : XK} {x m : Str} {p pos apos kpos : Pos} {e o : Expr} {es : List Expr} {kws : List Keyword} {te ta : TE} {t tk : TA} {nm : Option Str}
structure KBinds (K : PySem.W.Frag) (fd : FuncData) (ps ks : List Str) (g : List Value → List Value → List Value) (gV : List V → List V → List V) : Prop where
  to : ∀ (s : Shared) (us ws : List Value), K.In s.heap → (g us ws).length = ps.length → BindsTo s fd ⟨us, ks.zip ws⟩ (ps.zip (g us ws))
  rel : ∀ {vs : List V} {us : List Value} {zs : List V} {ws : List Value}, Vals vs us → Vals zs ws → Vals (gV vs zs) (g us ws)
def tCallK (sp : Sp) (gV : List V → List V → List V) (E : XK) (t tk : TA) : TE := fun σ H Q => t σ H fun vs H1 => tk σ H1 fun zs H2 => sp (gV vs zs) H2 Q E
variable {g : List Value → List Value → List Value} {gV : List V → List V → List V}
end
structure FnScope (N P : List Str) (sc : Scope) : Prop where
  kind : sc.kind = .function
  co : sc.isCoroutine = false
  gen : sc.isGenerator = false
  nd : N.Nodup
  pre : N.take P.length = P
  par : ∀ x ∈ P, sc.names.lookup x = some .local ∨ sc.names.lookup x = some .cell
  nofree : ∀ y ∈ sc.names, y.2 ≠ .free
theorem bindL_out {kindOf : Str → Option NameKind} {x : Str} : ∀ {binds : List (Str × Value)} {m : Str → Option Value}, (∀ v, (x, v) ∉ binds) → bindL kindOf binds m x = m x
  | [], _, _ => rfl
  | (n, v) :: r, m, h => by
    unfold bindL
    rw [bindL_out fun w hw => h w (List.mem_cons_of_mem _ hw)]
    split
    · have : x ≠ n := by rintro rfl; exact h v List.mem_cons_self
      simp [this]
    · rfl
theorem bindC_out {kindOf : Str → Option NameKind} {x : Str} : ∀ {binds : List (Str × Value)} {m : Str → Option Value}, (∀ v, (x, v) ∉ binds) → bindC kindOf binds m x = m x
  | [], _, _ => rfl
  | (n, v) :: r, m, h => by
    unfold bindC
    rw [bindC_out fun w hw => h w (List.mem_cons_of_mem _ hw)]
    split
    · rfl
    · have : x ≠ n := by rintro rfl; exact h v List.mem_cons_self
      simp [this]
theorem bindL_get {kindOf : Str → Option NameKind} {x : Str} {v : Value} : ∀ {P : List Str} {vs : List Value} {i : Nat} {m : Str → Option Value}, P.Nodup → P[i]? = some x → vs[i]? = some v → kindOf x = some .local →
    bindL kindOf (P.zip vs) m x = some v
  | [], _, _, _, _, h, _, _ => by simp at h
  | _ :: _, [], _, _, _, _, h, _ => by simp at h
  | p :: P, w :: vs, 0, m, nd, h1, h2, hk => by
    simp at h1 h2; subst h1; subst h2
    show bindL kindOf ((p, w) :: P.zip vs) m p = _
    unfold bindL
    rw [bindL_out fun v hv => (List.nodup_cons.mp nd).1 (List.of_mem_zip hv).1, if_pos hk]
    simp
  | p :: P, w :: vs, i + 1, m, nd, h1, h2, hk => by
    show bindL kindOf ((p, w) :: P.zip vs) m x = _
    unfold bindL
    exact bindL_get (i := i) (List.nodup_cons.mp nd).2 (by simpa using h1) (by simpa using h2) hk
theorem bindC_get {kindOf : Str → Option NameKind} {x : Str} {v : Value} : ∀ {P : List Str} {vs : List Value} {i : Nat} {m : Str → Option Value}, P.Nodup → P[i]? = some x → vs[i]? = some v → kindOf x ≠ some .local →
    bindC kindOf (P.zip vs) m x = some v
  | [], _, _, _, _, h, _, _ => by simp at h
  | _ :: _, [], _, _, _, _, h, _ => by simp at h
  | p :: P, w :: vs, 0, m, nd, h1, h2, hk => by
    simp at h1 h2; subst h1; subst h2
    show bindC kindOf ((p, w) :: P.zip vs) m p = _
    unfold bindC
    rw [bindC_out fun v hv => (List.nodup_cons.mp nd).1 (List.of_mem_zip hv).1, if_neg hk]
    simp
  | p :: P, w :: vs, i + 1, m, nd, h1, h2, hk => by
    show bindC kindOf ((p, w) :: P.zip vs) m x = _
    unfold bindC
    exact bindC_get (i := i) (List.nodup_cons.mp nd).2 (by simpa using h1) (by simpa using h2) hk
def start (N : List Str) (vs : List V) : St := vs.map some ++ List.replicate (N.length - vs.length) none
def cxOf (CX : CXT) (P : Program) (w : World) (K : PySem.W.Frag) (mg : Str → Option Value) (base : Heap) (N : List Str) (qual : Str) (scope : Scope) (f : Addr) (cd : Value) (A : Around) (outer : List Env) (s : Shared) (H : Hp) (E : XK) : Cx where
  prog := P
  w := w
  K := K
  mg := mg
  base := base
  A := A.deeper (envOfC qual scope s.heap.objs.size f cd)
  N := N
  s₀ := s
  H₀ := H
  env := envOfC qual scope s.heap.objs.size f cd
  outer := outer
  stack := envOfC qual scope s.heap.objs.size f cd :: outer
  ex := []
  calm := true
  fn := fun _ => true
  pn := []
  xe := fun e s' => wpAny (model P w) (A.deeper (envOfC qual scope s.heap.objs.size f cd)) (leaving (envOfC qual scope s.heap.objs.size f cd) e) (fun _ s'' => CX outer H s E e s'') (fun e' s'' => CX outer H s E e' s'') s'
theorem cell_has {sc : Scope} {n : Nat} {x : Str} (h : sc.names.lookup x = some .cell) : ∃ c, (cellsFrom n sc.names []).lookup x = some c := by
  have q := PySem.W.cellsFrom_some sc.names n [] (.inl h)
  exact Option.isSome_iff_exists.mp q
theorem inv_start {CX : CXT} {P : Program} {w : World} {K : PySem.W.Frag} {mg : Str → Option Value} {base : Heap} {N ps : List Str} {qual : Str} {scope : Scope} {f : Addr} {cd : Value} {A : Around} {outer : List Env} {s s1 : Shared} {H : Hp} {E : XK} {us : List Value} {vs : List V}
    (S : FnScope N ps scope) (hd : A.handled = none) (e0 : Env0 P w K mg base A outer s H) (hl : vs.length = ps.length) (r : Vals vs us)
    (x : InCallC s s.heap.objs.size (bindL (envOfC qual scope s.heap.objs.size f cd).kindOf (ps.zip us) fun _ => none) (cellsFrom (s.heap.objs.size + 1) scope.names []) (bindC (envOfC qual scope s.heap.objs.size f cd).kindOf (ps.zip us) fun _ => none) s1) :
    Inv (cxOf CX P w K mg base N qual scope f cd A outer s H E) [] (start N vs) H s1 := by
  have hpl : ps.length ≤ N.length := by have := congrArg List.length S.pre; rw [List.length_take] at this; omega
  obtain ⟨h1, tk, rfl, hk⟩ := x.done
  have noA : ∀ b : Addr, b ∉ (cxOf CX P w K mg base N qual scope f cd A outer s H E).ex := fun b z => absurd (show b ∈ ([] : List Addr) from z) (by simp)
  refine ⟨⟨e0.mod, S.kind, rfl, rfl, Nat.le_refl _, fun y z c h1 h2 => ?_, fun y hy => ?_, fun y c _ h => ?_, fun _ => hd, Around.frames_deeper e0.frames, .inr ⟨rfl, rfl⟩, fun b z => absurd z (noA b), e0.bs, e0.bsz, fun b _ _ => noA b, fun b z => absurd z (noA b), e0.funs, e0.frf⟩,
    rfl, e0.bare, Un.kept hk, ⟨_, x.toInCall.ns, fun i y v h1 h2 h3 => ?_⟩, fun y c h => ⟨_, x.cell y c h⟩, e0.hok.fresh (Nat.le_refl _), fun y c h => ?_, fun p hp => absurd (show p ∈ ([] : List (Addr × Obj)) from hp) (by simp), e0.hok.kept hk, ?_⟩
  · exact name_of_addr x.apart (PySem.mem_of_lookup h1) (PySem.mem_of_lookup h2)
  · have hy : scope.names.lookup y = some .cell ∨ scope.names.lookup y = some .free := hy
    rcases hy with hy | hy
    · exact cell_has hy
    · exact absurd rfl (S.nofree _ (PySem.mem_of_lookup hy))
  · exact Nat.le_of_lt (x.above y c (PySem.mem_of_lookup h))
  · have hi : i < vs.length := by
      unfold start at h2
      by_cases hi : i < vs.length
      · exact hi
      · rw [List.getElem?_append_right (by simpa using hi)] at h2
        rw [List.getElem?_replicate] at h2
        split at h2 <;> cases h2
    have ha : vs[i]? = some v := by
      unfold start at h2
      rw [List.getElem?_append_left (by simpa using hi), List.getElem?_map] at h2
      cases e : vs[i]? with
      | none => rw [e] at h2; cases h2
      | some a => rw [e] at h2; cases h2; rfl
    obtain ⟨u, hu, rv⟩ := r.get ha
    have hp : ps[i]? = some y := by
      rw [← S.pre, List.getElem?_take_of_lt (by omega)]; exact h1
    have ndP : ps.Nodup := by rw [← S.pre]; exact S.nd.sublist (List.take_sublist _ _)
    refine ⟨u, rv, ?_⟩
    rcases S.par y (List.mem_of_getElem? hp) with k | k
    · exact .inl ⟨k, bindL_get ndP hp hu k⟩
    · obtain ⟨c, e⟩ := cell_has (n := s.heap.objs.size + 1) k
      refine .inr ⟨.inl k, c, e, ?_⟩
      have q := x.cell y c e
      rw [bindC_get ndP hp hu (by show scope.names.lookup y ≠ _; rw [k]; decide)] at q
      exact q
  · exact e0.hok.fresh (Nat.le_of_lt (x.above y c (PySem.mem_of_lookup h)))
  · unfold start
    show _ = N.length
    rw [List.length_append, List.length_map, List.length_replicate]
    omega
theorem fn_of {CX : CXT} {P : Program} {w : World} {K : PySem.W.Frag} {mg : Str → Option Value} {base : Heap} {k : Nat} {f : Addr} {name qual : Str} {params : Arguments} {body : List Stmt} {scope : Scope} {dV kV doc pm cdv ct oc : Value} {an od : Option Addr}
    {osl : Array (Option Value)} {N ps : List Str} {sp : Sp} (lk : K.lookup f = some ⟨oc, od, .func (PySem.W.fnOf name qual params body scope dV kV doc pm an cdv ct), osl⟩) (hcd : PySem.W.codeIn K cdv qual = true) (S : FnScope N ps scope)
    (len : ∀ vs H Q E, sp vs H Q E → vs.length = ps.length)
    (hbody : ∀ (A : Around) (outer : List Env) (s : Shared) (H : Hp) (vs : List V) (Q : VK) (E : XK), Room k (A.deeper (envOfC qual scope s.heap.objs.size f cdv)) → sp vs H Q E →
      ∃ t, PSs (cxOf CX P w K mg base N qual scope f cdv A outer s H E) body t ∧ t { nx := fun _ H' => Q .non H', rt := Q } (start N vs) H) :
    FnOk P w K mg base CX (k + 1) f (PySem.W.fnOf name qual params body scope dV kV doc pm an cdv ct) ps sp := by
  refine ⟨len, fun A outer s H args us vs Q E hr e0 hb r hsp => ?_⟩
  have hl := len _ _ _ _ hsp
  have KX : K.In s.heap := e0.mod.kin.keeps fun b o e => (e0.bs b o e).1
  have lim : s.heap.NoLimit := e0.mod.nolimit.keeps fun b o e => (e0.bs b o e).1
  have hkind : ∀ y ∈ ps.zip us, scope.names.lookup y.1 = some .local ∨ (scope.names.lookup y.1 = some .cell ∧ ((cellsFrom (s.heap.objs.size + 1) scope.names []).lookup y.1).isSome = true) := fun ⟨n, v⟩ hy => by
    rcases S.par n (List.of_mem_zip hy).1 with q | q
    · exact .inl q
    · exact .inr ⟨q, PySem.W.cellsFrom_some _ _ _ (.inl q)⟩
  refine codeAny_call_function hr.depth (KX _ _ lk) rfl S.co S.gen rfl (PySem.W.codeRec_of KX hcd) (hb _ _ _ _ ?_)
  refine wpAny_newFunctionEnv_cells S.kind hkind fun env he s1 x => ?_
  subst he
  refine ⟨lim.keeps x.toInCall.keep, codeAny_func ?_⟩
  obtain ⟨t, ht, hq⟩ := hbody A outer s H vs Q E (hr.deeper _) hsp
  have I : Inv (cxOf CX P w K mg base N qual scope f cdv A outer s H E) [] (start N vs) H s1 := inv_start S hr.hd e0 hl r x
  refine wpAny_mono (ht [] s1 (start N vs) H _ I hq) (fun fl s' hs => ?_) fun e s' hs => hs
  have fin : ∀ {σ' : St} {H' : Hp} {v : V} {u : Value}, Inv (cxOf CX P w K mg base N qual scope f cdv A outer s H E) [] σ' H' s' → RelV v u → Q v H' → CE outer P w H s Q u s' :=
    fun {σ' H' v u} J rv q => ⟨v, H', J.os, J.bare, J.base, J.hok, rv, q⟩
  cases fl with
  | ret u =>
    obtain ⟨v, σ', H', J, rv, q⟩ := hs
    exact fin J rv q
  | next =>
    obtain ⟨σ', H', J, q⟩ := hs
    exact fin (v := V.non) (u := Value.none) J rfl q
  | brk =>
    obtain ⟨_, _, _, q⟩ := hs
    exact False.elim q
  | cont =>
    obtain ⟨_, _, _, q⟩ := hs
    exact False.elim q
end L2
namespace L2
open PySem PySem.Spec PyProof.Rows
section
variable {X : Cx} {x : Str} {p pos : Pos} {e : Expr} {es : List Expr} {t : TA} {id T : String} {r : List V → Hp → VK → Prop}
def tCB (r : List V → Hp → VK → Prop) (t : TA) : TE := fun σ H Q => t σ H fun vs H1 => r vs H1 Q
theorem pe_callB (hc : CallR X (.builtin id) r) (hg : Gl X x) (hm : X.mg x = none) (hv : bootBuiltins x = some (.builtin id)) (ha : PA X (e :: es) t) (hn : x ≠ "__name__" := by decide) (hdb : (x == ("__debug__" : Str)) = false := by decide)
    (he : starEach (e :: es) X.env = (false, eval e X.env) :: starEach es X.env := by rfl) (hpl : (backTo pos (starEach es X.env)).any (·.1) = false := by rfl) : PE X (.Call (.Name x p) (e :: es) [] pos) (tCB r t) := by
  intro pins s σ H Q I h
  refine wpAny_Call_Name_kw (ld_blt I hg hm hv ?_ hn hdb)
  exact PyProof.Rows.callWith_builtin1 (thn (ha pos pins s σ H _ I h) fun us s1 ⟨vs, H1, I1, r1, q1⟩ => hc pins s1 σ H1 vs us Q I1 r1 q1) he hpl
theorem pe_callTy (hc : CallR X (.type T) r) (hg : Gl X x) (hm : X.mg x = none) (hv : bootBuiltins x = some (.type T)) (ha : PA X (e :: es) t) (hn : x ≠ "__name__" := by decide) (hdb : (x == ("__debug__" : Str)) = false := by decide)
    (he : starEach (e :: es) X.env = (false, eval e X.env) :: starEach es X.env := by rfl) (hpl : (backTo pos (starEach es X.env)).any (·.1) = false := by rfl) : PE X (.Call (.Name x p) (e :: es) [] pos) (tCB r t) := by
  intro pins s σ H Q I h
  refine wpAny_Call_Name_kw (ld_blt I hg hm hv ?_ hn hdb)
  exact PyProof.Rows.callWith_type1 (thn (ha pos pins s σ H _ I h) fun us s1 ⟨vs, H1, I1, r1, q1⟩ => hc pins s1 σ H1 vs us Q I1 r1 q1) he hpl
end
end L2
namespace HT
open PySem PyProof.Rows
def lexLt : List Int → List Int → Bool
  | [], [] => false
  | [], _ :: _ => true
  | _ :: _, [] => false
  | x :: xs, y :: ys => if x = y then lexLt xs ys else decide (x < y)
section
open PySem.SeqAt
open PySem.AutoSeq1 (wpAny_loadPart')
open PySem.MeetsSeq PySem.MeetsSeq2 PySem.MeetsSeq3
end
section
variable {prog : Program} {w : World} {A : Around} {E : Value → Shared → Prop} {s : Shared}
def sIx (n d : Nat) : Option Int → Nat
  | none => d
  | some v => if v < 0 then (v + (n : Int)).toNat else min v.toNat n
end
end HT
namespace L2
open PySem PySem.Spec PyProof.Rows
abbrev TO := St → Hp → (Option Int → Hp → Prop) → Prop
def PO (X : Cx) (e : Option Expr) (t : TO) : Prop :=
  ∀ (pins : List (Addr × Obj)) (s : Shared) (σ : St) (H : Hp) (Q : Option Int → Hp → Prop), Inv X pins σ H s → t σ H Q →
    wpAny (model X.prog X.w) X.A (evalPart e X.env) (fun u s' => ∃ o H', Inv X pins σ H' s' ∧ IsPart u o ∧ Q o H') X.xe s
def tNoPart : TO := fun _ H Q => Q none H
def tPart (t : TE) : TO := fun σ H Q => t σ H fun x H1 => ∃ i, x = .int i ∧ Q (some i) H1
section
variable {X : Cx} {e : Expr} {te : TE} {lo hi : Option Expr} {tl th : TO} {pos p2 : Pos}
theorem po_none : PO X none tNoPart := by
  intro pins s σ H Q I h
  rw [evalPart_none]
  exact wpAny_pure ⟨none, H, I, .none, h⟩
theorem po_some (h : PE X e te) : PO X (some e) (tPart te) := by
  intro pins s σ H Q I hw
  rw [evalPart_some]
  refine thn (h pins s σ H _ I hw) fun u s1 ⟨x, H1, I1, r1, q1⟩ => ?_
  obtain ⟨i, rfl, q⟩ := q1
  obtain ⟨t, rfl⟩ := r1
  exact ⟨some i, H1, I1, .int i t, q⟩
def SlR (X : Cx) (r : V → Option Int → Option Int → Hp → VK → Prop) : Prop :=
  ∀ (pins : List (Addr × Obj)) (s : Shared) (σ : St) (H : Hp) (x : V) (v vl vu : Value) (lo hi : Option Int) (sl : Addr) (Q : VK), Inv X pins σ H s → RelV x v → s.heap.IsSliceOf sl vl vu .none → IsPart vl lo → IsPart vu hi → r x lo hi H Q →
    ∃ T id, typeLookup (.type T) "__getitem__" = pure (some (.builtin id)) ∧ s.TypeIs v T ∧ wpAny (model X.prog X.w) X.A (getItem v (.ref sl)) (EP X pins σ Q) X.xe s
def tSl (r : V → Option Int → Option Int → Hp → VK → Prop) (te : TE) (tl th : TO) : TE := fun σ H Q => te σ H fun x H1 => tl σ H1 fun l H2 => th σ H2 fun u H3 => r x l u H3 Q
theorem pe_slice {r : V → Option Int → Option Int → Hp → VK → Prop} (hr : SlR X r) (he : PE X e te) (hl : PO X lo tl) (hu : PO X hi th) : PE X (.Subscript e (.Slice lo hi none p2) pos) (tSl r te tl th) := by
  intro pins s σ H Q I h
  refine Subscript_ (thn (he pins s σ H _ I h) fun v s1 ⟨x, H1, I1, r1, q1⟩ => ?_)
  refine wpAny_Slice (thn (hl pins s1 σ H1 _ I1 q1) fun vl s2 ⟨l, H2, I2, pl, q2⟩ => thn (hu pins s2 σ H2 _ I2 q2) fun vu s3 ⟨u, H3, I3, pu, q3⟩ => ?_)
  rw [evalPart_none]
  refine wpAny_pure ?_
  have I4 : Inv X pins σ H3 { s3 with heap := s3.heap.push { cls := .type "slice", data := .fields #[vl, vu, .none] } } := I3.kept (t' := s3.toks) fun b ob q => Heap.get?_push_of_some _ q
  obtain ⟨T, id, hT, ht, hg⟩ := hr pins { s3 with heap := s3.heap.push { cls := .type "slice", data := .fields #[vl, vu, .none] } } σ H3 x v vl vu l u s3.heap.objs.size Q I4 r1 (Heap.IsSliceOf.new ..) pl pu q3
  show wpAny (model X.prog X.w) X.A (subscriptTail e (.Slice lo hi none p2) v (.ref s3.heap.objs.size)) (EP X pins σ Q) X.xe { s3 with heap := s3.heap.push { cls := .type "slice", data := .fields #[vl, vu, .none] } }
  exact tail_any (ops := [.ref s3.heap.objs.size, v]) ht hT hg (by with_unfolding_all rfl)
def cutV (xs : List V) (lo hi : Option Int) : List V := (xs.drop (HT.sIx xs.length 0 lo)).take (HT.sIx xs.length xs.length hi - HT.sIx xs.length 0 lo)
theorem cutV_length (xs : List V) (lo hi : Option Int) : (cutV xs lo hi).length ≤ xs.length := by
  unfold cutV
  rw [List.length_take, List.length_drop]
  omega
def rSlT (K : PySem.W.Frag) : V → Option Int → Option Int → Hp → VK → Prop := fun x lo hi H Q => ∃ a xs, x = .ref a ∧ SqT K H a xs ∧
  ¬ (HT.sIx xs.length 0 lo = 0 ∧ HT.sIx xs.length xs.length hi = xs.length) ∧ ∀ p, H p = none → Q (.ref p) (upd H p (.tup (cutV xs lo hi)))
def rLtT (K : PySem.W.Frag) : R2 := fun x y H Q => ∃ a b ns ms, x = .ref a ∧ y = .ref b ∧ SqT K H a (ns.map V.int) ∧ SqT K H b (ms.map V.int) ∧ Q (.bl (HT.lexLt ns ms)) H
def rCatT (K : PySem.W.Frag) : R2 := fun x y H Q => ∃ a b xs ys, x = .ref a ∧ y = .ref b ∧ SqT K H a xs ∧ SqT K H b ys ∧ xs ≠ [] ∧ xs.length + ys.length ≤ sizeLine ∧
  (ys = [] → Q (.ref a) H) ∧ (ys ≠ [] → ∀ p, H p = none → Q (.ref p) (upd H p (.tup (xs ++ ys))))
end
end L2
namespace L2
open PySem PySem.Spec PyProof.Rows
def ixN (n : Nat) (i : Int) : Option Nat := if 0 ≤ i then (if i < n then some i.toNat else none) else if -(n : Int) ≤ i then some (i + n).toNat else none
def atI {α : Type} (xs : List α) (i : Int) : Option α := (ixN xs.length i).bind fun j => xs[j]?
theorem ixN_seq {n : Nat} {i : Int} {j : Nat} (h : ixN n i = some j) : seqIndex? i n = some j ∧ j < n ∧ -(n : Int) ≤ i ∧ i < n := by
  unfold ixN at h
  by_cases h0 : 0 ≤ i
  · rw [if_pos h0] at h
    by_cases h1 : i < n
    · rw [if_pos h1] at h
      have e : i.toNat = j := Option.some.inj h
      exact ⟨by rw [seqIndex_of h0 h1, e], by omega, by omega, h1⟩
    · rw [if_neg h1] at h; cases h
  · rw [if_neg h0] at h
    by_cases h1 : -(n : Int) ≤ i
    · rw [if_pos h1] at h
      have e : (i + n).toNat = j := Option.some.inj h
      exact ⟨by rw [seqIndex_neg (by omega) h1, e], by omega, h1, by omega⟩
    · rw [if_neg h1] at h; cases h
theorem atI_get {α : Type} {xs : List α} {i : Int} {v : α} (h : atI xs i = some v) : ∃ j, seqIndex? i xs.length = some j ∧ xs[j]? = some v ∧ j < xs.length ∧ -(xs.length : Int) ≤ i ∧ i < xs.length := by
  unfold atI at h
  cases e : ixN xs.length i with
  | none => rw [e] at h; cases h
  | some j =>
    rw [e] at h
    obtain ⟨h1, h2, h3, h4⟩ := ixN_seq e
    exact ⟨j, h1, h, h2, h3, h4⟩
theorem atI_nat {α : Type} {xs : List α} {j : Nat} {v : α} (h : xs[j]? = some v) : atI xs (j : Int) = some v := by
  have hj : j < xs.length := (List.getElem?_eq_some_iff.mp h).1
  have e : ixN xs.length (j : Int) = some j := by
    unfold ixN
    rw [if_pos (by omega), if_pos (by omega)]; simp
  unfold atI; rw [e]; exact h
def PlainIx (b : Expr) : Prop := ∀ o i, subscripted b false o i = operate [o, i] (getItem o i)
def IxR (X : Cx) (r : R2) : Prop :=
  ∀ (value slice : Expr) (pins : List (Addr × Obj)) (s : Shared) (σ : St) (H : Hp) (x y : V) (v u : Value) (Q : VK), Inv X pins σ H s → RelV x v → RelV y u → r x y H Q →
    subscripted slice false v u = operate [v, u] (getItem v u) → wpAny (model X.prog X.w) X.A (subscriptTail value slice v u) (EP X pins σ Q) X.xe s
def MtR (X : Cx) (id : String) (r : V → List V → Hp → VK → Prop) : Prop :=
  ∀ (pins : List (Addr × Obj)) (s : Shared) (σ : St) (H : Hp) (x : V) (xs : List V) (v : Value) (us : List Value) (Q : VK), Inv X pins σ H s → RelV x v → Vals xs us → r x xs H Q →
    wpAny (model X.prog X.w) X.A (call (.builtin id) (v :: us)) (EP X pins σ Q) X.xe s
section
variable {X : Cx} {a b : Expr} {ta tb : TE} {pos : Pos}
theorem pe_ix {r : R2} (hr : IxR X r) (ha : PE X a ta) (hb : PE X b tb) (hs : PlainIx b) : PE X (.Subscript a b pos) (tOp r ta tb) := by
  intro pins s σ H Q I h
  exact Subscript_ (binT ha hb I h fun v u s2 x y H2 I2 rx ry q => hr a b pins s2 σ H2 x y v u Q I2 rx ry q (hs _ _))
def rIxL (K : PySem.W.Frag) : R2 := fun x y H Q => ∃ p xs i v, x = .ref p ∧ y = .int i ∧ SqL K H p xs ∧ atI xs i = some v ∧ Q v H
def rIxT (K : PySem.W.Frag) : R2 := fun x y H Q => ∃ p xs i v, x = .ref p ∧ y = .int i ∧ SqT K H p xs ∧ atI xs i = some v ∧ Q v H
def rIxS : R2 := fun x y H Q => ∃ z i c, x = .str z ∧ y = .int i ∧ z.length ≤ sizeLine ∧ atI z.cps.toList i = some c ∧ Q (.str ⟨#[c]⟩) H
theorem ix_list : IxR X (rIxL X.K) := by
  intro value slice pins s σ H x y v u Q I rx ry h hs
  obtain ⟨p, xs, i, z, rfl, rfl, hq, he, q⟩ := h
  cases rx
  obtain ⟨t, rfl⟩ := ry
  obtain ⟨its, r, pl, hz⟩ := I.list hq
  obtain ⟨j, h1, h2, h3, h4, h5⟩ := atI_get he
  obtain ⟨w, ew, rw'⟩ := r.get h2
  have hl := r.length
  have hn := line63
  have fin : EP X pins σ Q w s := ⟨z, H, I, rw', q⟩
  by_cases h0 : 0 ≤ i
  · have hj : i.toNat = j := by
      rw [seqIndex_of h0 h5] at h1
      exact Option.some.inj h1
    exact item_listR pl.isList h0 (by omega) (by rw [hj]; simpa using ew) fin hs
  · have hj : (i + (its.toArray.size : Int)).toNat = j := by
      rw [seqIndex_neg (by omega) h4] at h1
      rw [List.size_toArray, ← hl]
      exact Option.some.inj h1
    exact subscriptTail_builtinR (x := w) pl.isList.typeIs slot_list_getitem.lookup
      (wpAny_getItem_list_neg (Q := fun r s' => r = w ∧ EP X pins σ Q r s') pl.isList (by omega) (by rw [List.size_toArray] <;> omega) (by omega) (by rw [hj]; simpa using ew) ⟨rfl, fin⟩) hs
theorem ix_tup : IxR X (rIxT X.K) := by
  intro value slice pins s σ H x y v u Q I rx ry h hs
  obtain ⟨p, xs, i, z, rfl, rfl, hq, he, q⟩ := h
  cases rx
  obtain ⟨t, rfl⟩ := ry
  obtain ⟨its, r, pl, hz⟩ := I.tuple hq
  obtain ⟨j, h1, h2, h3, h4, h5⟩ := atI_get he
  obtain ⟨w, ew, rw'⟩ := r.get h2
  have hl := r.length
  have hn := line63
  have fin : EP X pins σ Q w s := ⟨z, H, I, rw', q⟩
  exact subscriptTail_builtinR (x := w) pl.typeIs slot_tuple_getitem.lookup
    (getItem_tuple (j := j) (Q := fun r s' => r = w ∧ EP X pins σ Q r s') pl (by omega) (by omega) (by rw [List.size_toArray, ← hl]; exact h1) (by simpa using ew) ⟨rfl, fin⟩) hs
def rIx (K : PySem.W.Frag) : R2 := fun x y H Q => rIxL K x y H Q ∨ rIxT K x y H Q ∨ rIxS x y H Q
theorem Inv.lst {pins : List (Addr × Obj)} {σ : St} {H : Hp} {s : Shared} {p : Addr} {xs : List V} (I : Inv X pins σ H s) (h : H p = some (.lst xs)) :
    ∃ (its : List Value) (n : Nat), Vals xs its ∧ s.heap.get? p = some { cls := .type "list", data := .seq its.toArray n } ∧ xs.length ≤ sizeLine := by
  obtain ⟨z, its, n, r, e⟩ := I.hok p _ h
  exact ⟨its, n, r, e, z⟩
def rSetL : V → V → V → Hp → (Hp → Prop) → Prop := fun o i v H Q => ∃ p xs k j, o = .ref p ∧ i = .int k ∧ H p = some (.lst xs) ∧ ixN xs.length k = some j ∧ Q (upd H p (.lst (xs.set j v)))
theorem slice_bounds (lo hi : Option Int) (n : Nat) : (sliceBounds lo hi none n).1 = ((HT.sIx n 0 lo : Nat) : Int) ∧ (sliceBounds lo hi none n).2.1 = ((HT.sIx n n hi : Nat) : Int) ∧ (sliceBounds lo hi none n).2.2 = 1 := by
  refine ⟨?_, ?_, rfl⟩
  · cases lo with
    | none => simp [sliceBounds, HT.sIx]
    | some i =>
      simp only [sliceBounds, HT.sIx, Option.getD_none, show (1 : Int) > 0 by decide, if_true]
      by_cases h : i < 0
      · simp only [h, if_true] <;> omega
      · simp only [h, if_false] <;> omega
  · cases hi with
    | none => simp [sliceBounds, HT.sIx]
    | some i =>
      simp only [sliceBounds, HT.sIx, Option.getD_none, show (1 : Int) > 0 by decide, if_true]
      by_cases h : i < 0
      · simp only [h, if_true] <;> omega
      · simp only [h, if_false] <;> omega
theorem slicePick_cut (its : List Value) (lo hi : Option Int) : slicePick its.toArray lo hi none = ((its.drop (HT.sIx its.length 0 lo)).take (HT.sIx its.length its.length hi - HT.sIx its.length 0 lo)).toArray := by
  obtain ⟨h1, h2, h3⟩ := slice_bounds lo hi its.toArray.size
  unfold slicePick
  rw [h1, h2, h3]
  simp only [sliceRange_one, pick_run, List.size_toArray] <;> rfl
def rSlL (K : PySem.W.Frag) : V → Option Int → Option Int → Hp → VK → Prop := fun x lo hi H Q => ∃ a xs, x = .ref a ∧ SqL K H a xs ∧ ∀ p, H p = none → Q (.ref p) (upd H p (.lst (cutV xs lo hi)))
theorem sl_list : SlR X (rSlL X.K) := by
  intro pins s σ H x v vl vu lo hi sl Q I rx hs pl pu h
  obtain ⟨a, xs, rfl, hx, q⟩ := h
  cases rx
  obtain ⟨its, r, ht, hz⟩ := I.list hx
  have hlen := r.length
  refine ⟨"list", _, slot_list_getitem.lookup, ht.isList.typeIs, ?_⟩
  refine wpAny_getItem_list_slice ht.isList hs pl pu .none (by simp) ?_ (by rw [List.size_toArray] <;> omega)
  rw [slicePick_cut, ← hlen]
  refine ⟨.ref s.heap.objs.size, _, I.laid (t' := s.toks) (o := .lst (cutV xs lo hi)) (fun b ob q => Heap.get?_push_of_some _ q) (Nat.le_refl _) ?_, rfl, q _ (I.hok.fresh (Nat.le_refl _))⟩
  exact ⟨Nat.le_trans (cutV_length xs lo hi) hz, _, 0, (r.drop (HT.sIx xs.length 0 lo)).take (HT.sIx xs.length xs.length hi - HT.sIx xs.length 0 lo), Heap.get?_push_size _ rfl⟩
def flatV : V → Bool
  | .non => true
  | .bl _ => true
  | .int _ => true
  | .str _ => true
  | _ => false
def eqV : V → V → Bool
  | .non, .non => true
  | .bl a, .bl b => a == b
  | .bl a, .int b => (if a then 1 else 0) == b
  | .int a, .bl b => a == (if b then 1 else 0)
  | .int a, .int b => a == b
  | .str a, .str b => a == b
  | _, _ => false
def eqU (x : V) (u : Value) : Bool := match u with
  | .none => eqV .non x
  | .bool b => eqV (.bl b) x
  | .int i _ => eqV (.int i) x
  | .str z _ => eqV (.str z) x
  | _ => false
def inV (x : V) (xs : List V) : Bool := xs.any fun y => eqV y x
def rIn (K : PySem.W.Frag) (neg : Bool) : R2 := fun x y H Q => ∃ p xs, y = .ref p ∧ (SqL K H p xs ∨ SqT K H p xs) ∧ flatV x = true ∧ xs.all flatV = true ∧ Q (.bl (if neg then !inV x xs else inV x xs)) H
theorem call_len_seq : CallR X (.builtin "len") (fun xs H Q => ∃ p ys, xs = [.ref p] ∧ (SqL X.K H p ys ∨ SqT X.K H p ys) ∧ Q (.int ys.length) H) := by
  intro pins s σ H xs us Q I r h
  obtain ⟨p, ys, rfl, hq, q⟩ := h
  obtain ⟨u, rfl, rx⟩ := vals1 r
  cases rx
  have hn := line63
  rcases hq with hq | hq
  · obtain ⟨its, r', pl, hz⟩ := I.list hq
    have hlen := r'.length
    exact Calls.call_len_list pl.isList (by simp only [List.size_toArray] <;> omega) ⟨.int ys.length, H, I.tok _, ⟨s.toks + 1, by rw [List.size_toArray, hlen]⟩, q⟩
  · obtain ⟨its, r', pl, hz⟩ := I.tuple hq
    have hlen := r'.length
    exact len_tuple pl (by simp only [List.size_toArray] <;> omega) ⟨.int ys.length, H, I.tok _, ⟨s.toks + 1, by rw [List.size_toArray, hlen]⟩, q⟩
theorem call_len_str : CallR X (.builtin "len") (fun xs H Q => ∃ z, xs = [.str z] ∧ z.length ≤ sizeLine ∧ Q (.int z.length) H) := by
  intro pins s σ H xs us Q I r h
  obtain ⟨z, rfl, hz, q⟩ := h
  obtain ⟨u, rfl, t, rfl⟩ := vals1 r
  have hn := line63
  exact len_str (by omega) ⟨.int z.length, H, I.tok _, ⟨_, rfl⟩, q⟩
theorem call_tuple_of : CallR X (.type "tuple") (fun xs H Q => ∃ p ys, xs = [.ref p] ∧ ((SqL X.K H p ys ∧ ∀ l, H l = none → Q (.ref l) (upd H l (.tup ys))) ∨ (SqT X.K H p ys ∧ Q (.ref p) H))) := by
  intro pins s σ H xs us Q I r h
  obtain ⟨p, ys, rfl, h⟩ := h
  obtain ⟨u, rfl, rx⟩ := vals1 r
  cases rx
  rcases h with ⟨hq, q⟩ | ⟨hq, q⟩
  · obtain ⟨its, r', pl, hz⟩ := I.list hq
    have hlen := r'.length
    refine call_tuple_list pl.isList (fun h' kp => ?_) (by simp only [List.size_toArray] <;> omega)
    have I1 : Inv X pins σ H { s with heap := h' } := I.kept (t' := s.toks) kp
    have I2 : Inv X pins σ (upd H h'.objs.size (.tup ys)) { s with heap := h'.push { cls := .type "tuple", data := .seq its.toArray } } :=
      I1.laid (t' := s.toks) (fun b o e => Heap.get?_push_of_some _ e) (Nat.le_refl _) (show ObjOk X.prog X.w _ _ _ (.tup ys) from ⟨hz, its, r', IsTup.new _ _⟩)
    exact ⟨.ref h'.objs.size, _, I2, rfl, q _ (I1.hok.fresh (Nat.le_refl _))⟩
  · obtain ⟨its, r', pl, hz⟩ := I.tuple hq
    exact call_tuple_same pl ⟨.ref p, H, I, rfl, q⟩
def tyV (K : PySem.W.Frag) (T : String) (x : V) (H : Hp) : Prop := match x with
  | .str _ => T = "str"
  | .int _ => T = "int"
  | .ref p => (T = "list" ∧ ∃ xs, SqL K H p xs) ∨ (T = "tuple" ∧ ∃ o, K.lookup p = some o ∧ o.cls = .type "tuple" ∧ o.dict = none) ∨
      (T = "dict" ∧ ((∃ kvs, H p = some (.dK kvs)) ∨ ∃ kvs, H p = some (.dT kvs))) ∨ (T = "set" ∧ ∃ S n, H p = some (.set S n))
  | _ => False
theorem tyV_is {pins : List (Addr × Obj)} {σ : St} {H : Hp} {s : Shared} {T : String} {x : V} {v : Value} (I : Inv X pins σ H s) (r : RelV x v) (ty : tyV X.K T x H) :
    s.TypeIs v T ∧ ∀ a, v = .ref a → ∃ ob, s.heap.get? a = some ob ∧ ob.dict = none := by
  cases x with
  | str z =>
    obtain ⟨t, rfl⟩ := r
    cases (show T = "str" from ty)
    exact ⟨typeIs_str s z t, fun _ e => nomatch e⟩
  | int i =>
    obtain ⟨t, rfl⟩ := r
    cases (show T = "int" from ty)
    exact ⟨typeIs_int s i t, fun _ e => nomatch e⟩
  | ref p =>
    cases r
    rcases ty with ⟨rfl, xs, hq⟩ | ⟨rfl, o, hk, hc, hd⟩ | ⟨rfl, hk⟩ | ⟨rfl, S, n, hk⟩
    · obtain ⟨its, _, pl, _⟩ := I.list hq
      refine ⟨pl.isList.typeIs, fun a e => ?_⟩
      cases e
      obtain ⟨o, n, e, c, hd, _⟩ := pl
      exact ⟨o, e, hd⟩
    · refine ⟨⟨o, I.kIn p o hk, hc⟩, fun a e => ?_⟩
      cases e
      exact ⟨o, I.kIn _ o hk, hd⟩
    · have z : ∃ o, s.heap.get? p = some o ∧ o.ExactDict := by
        rcases hk with ⟨kvs, hk⟩ | ⟨kvs, hk⟩
        · obtain ⟨_, _, _, _, o, _, _, e, ex, _⟩ := I.hok p _ hk
          exact ⟨o, e, ex⟩
        · obtain ⟨_, _, _, _, o, _, _, e, ex, _⟩ := I.hok p _ hk
          exact ⟨o, e, ex⟩
      obtain ⟨o, e, ex⟩ := z
      refine ⟨⟨o, e, ex.1⟩, fun a e2 => ?_⟩
      cases e2
      exact ⟨o, e, ex.2.1⟩
    · obtain ⟨o, _, _, _, e, ex, _⟩ := I.hok p _ hk
      refine ⟨⟨o, e, ex.1⟩, fun a e2 => ?_⟩
      cases e2
      exact ⟨o, e, ex.2.1⟩
  | _ => exact False.elim ty
def tBM0 (K : PySem.W.Frag) (T : String) (r : V → List V → Hp → VK → Prop) (to : TE) : TE := fun σ H Q => to σ H fun x H1 => tyV K T x H1 ∧ r x [] H1 Q
def tBM (K : PySem.W.Frag) (T : String) (r : V → List V → Hp → VK → Prop) (to : TE) (t : TA) : TE := fun σ H Q => to σ H fun x H1 => tyV K T x H1 ∧ t σ H1 fun xs H2 => r x xs H2 Q
variable {o e : Expr} {es : List Expr} {to : TE} {t : TA} {name : Str} {apos cpos : Pos} {T id : String} {r : V → List V → Hp → VK → Prop}
theorem pe_bm0 (pa : PlainAttrs T) (slot : Slot T name id) (hty : typeOf (.builtin id) = pure (.type "method_descriptor")) (hm : MtR X id r) (ho : PE X o to)
    (hbase : attributeBase o name X.env (eval o X.env) = eval o X.env := by rfl) (hline : (apos.endLine == cpos.line) = true := by rfl) : PE X (.Call (.Attribute o name apos) [] [] cpos) (tBM0 X.K T r to) := by
  intro pins s σ H Q I h
  refine wpAny_Call_method0_late hbase hline (thn (ho pins s σ H _ I h) fun v s1 ⟨x, H1, I1, r1, ty, q1⟩ => ?_)
  obtain ⟨h1, h2⟩ := tyV_is I1 r1 ty
  exact ⟨T, id, pa, slot, hty, h1, h2, Calls.callWith_builtin rfl (PySem.evalArgs_none (hm pins s1 σ H1 x [] v [] Q I1 r1 .nil q1))⟩
theorem pe_bm (pa : PlainAttrs T) (slot : Slot T name id) (hty : typeOf (.builtin id) = pure (.type "method_descriptor")) (hm : MtR X id r) (ho : PE X o to) (ha : PA X (e :: es) t)
    (hbase : attributeBase o name X.env (eval o X.env) = eval o X.env := by rfl)
    (hfew : ((backTo cpos (starEach (e :: es) X.env)).all (fun x => !x.1) && (backToKw cpos (keywordEach [] X.env)).all (fun x => x.1.isSome)
      && decide ((e :: es).length + ([] : List Keyword).length + (if ([] : List Keyword).isEmpty then 0 else 1) < 30)) = true := by rfl)
    (hline : (apos.endLine == cpos.line) = true := by rfl) (hs : starEach (e :: es) X.env = (false, eval e X.env) :: starEach es X.env := by rfl) (hplain : (backTo cpos (starEach es X.env)).any (·.1) = false := by rfl) :
    PE X (.Call (.Attribute o name apos) (e :: es) [] cpos) (tBM X.K T r to t) := by
  intro pins s σ H Q I h
  refine wpAny_Call_method_late hbase hfew hline rfl (thn (ho pins s σ H _ I h) fun v s1 ⟨x, H1, I1, r1, ty, q1⟩ => ?_)
  obtain ⟨h1, h2⟩ := tyV_is I1 r1 ty
  refine ⟨T, id, pa, slot, hty, h1, h2, ?_⟩
  have hA := ha cpos pins s1 σ H1 _ I1 q1
  rw [hs] at hA ⊢
  refine Calls.callWith_builtin (by show (false || (backTo cpos (starEach es X.env)).any (·.1)) = false; rw [hplain] <;> rfl) (Calls.evalArgs_plain ?_)
  exact thn hA fun us s2 ⟨vs, H2, I2, r2, q2⟩ => hm pins s2 σ H2 x vs v us Q I2 r1 r2 q2
/- xs.append(e), list.index on a module's tuple .. are MtR facts of 06m -/
end
end L2
namespace L2
open PySem PySem.Spec PyProof.Rows
def MtM (X : Cx) (id : String) (r : V → List V → Hp → VK → Prop) : Prop :=
  ∀ (pins : List (Addr × Obj)) (s : Shared) (σ : St) (H : Hp) (x : V) (xs : List V) (v : Value) (us : List Value) (Q : VK), Inv X pins σ H s → RelV x v → Vals xs us → r x xs H Q →
    wpAny (model X.prog X.w) X.A (call (.builtin id) (v :: us)) (EP X pins σ Q) X.xe s
theorem Vals.one : ∀ {x : V} {us : List Value}, Vals [x] us → ∃ u, us = [u] ∧ RelV x u
  | _, _, .cons r .nil => ⟨_, rfl, r⟩
theorem Vals.two : ∀ {x y : V} {us : List Value}, Vals [x, y] us → ∃ u v, us = [u, v] ∧ RelV x u ∧ RelV y v
  | _, _, _, .cons r (.cons q .nil) => ⟨_, _, rfl, r, q⟩
theorem Vals.zero : ∀ {us : List Value}, Vals [] us → us = []
  | _, .nil => rfl
section
variable {X : Cx} {pins : List (Addr × Obj)} {σ : St} {H : Hp} {s : Shared} {l b : Addr} {xs ys zs : List V}
theorem Inv.lset {its its' : List Value} {n : Nat} {f : Array Value → Array Value} {t' : Nat} (I : Inv X pins σ H s) (hH : H l = some (.lst xs))
    (e : s.heap.get? l = some { cls := .type "list", data := .seq its.toArray n }) (hf : f its.toArray = its'.toArray) (hv : Vals ys its') (hz : ys.length ≤ sizeLine) :
    Inv X pins σ (upd H l (.lst ys)) { s with heap := s.heap.update l (Obj.mapSeq f), toks := t' } := by
  have q := PySem.IsL.update e f
  rw [hf] at q
  refine I.write (x := l) (e := l) (by rw [hH]; exact trivial) (.inl rfl) (fun b' u hb hu => (Heap.get?_update_other s.heap (Obj.mapSeq f) (Ne.symm hb)).trans hu) ⟨_, q⟩ ?_
  exact ⟨hz, its', _, hv, q⟩
theorem Inv.lnew {its : List Value} {t' : Nat} (I : Inv X pins σ H s) (hv : Vals ys its) (hz : ys.length ≤ sizeLine) :
    Inv X pins σ (upd H s.heap.objs.size (.lst ys)) { s with heap := s.heap.push { cls := .type "list", data := .seq its.toArray }, toks := t' } :=
  I.laid (fun _ _ q => Heap.get?_push_of_some _ q) (Nat.le_refl _) ⟨hz, its, 0, hv, Heap.get?_push_size _ rfl⟩
theorem Inv.fresh (I : Inv X pins σ H s) : H s.heap.objs.size = none := I.hok.fresh (Nat.le_refl _)
theorem Inv.lstM (I : Inv X pins σ H s) (hH : H l = some (.lst xs)) : xs.length ≤ sizeLine ∧ ∃ (its : List Value) (n : Nat), Vals xs its ∧ xs.length = its.length ∧ s.heap.get? l = some { cls := .type "list", data := .seq its.toArray n } := by
  obtain ⟨z, its, n, r, e⟩ := I.hok l _ hH
  exact ⟨z, its, n, r, r.length, e⟩
end
section
variable {X : Cx}
def rAppend : V → List V → Hp → VK → Prop := fun x vs H Q => ∃ l xs y, x = .ref l ∧ vs = [y] ∧ H l = some (.lst xs) ∧ xs.length < sizeLine ∧ Q .non (upd H l (.lst (xs ++ [y])))
theorem mt_append : MtM X "list.append" rAppend := by
  intro pins s σ H x vs v us Q I rx rv h
  obtain ⟨l, xs, y, rfl, rfl, hH, hz, q⟩ := h
  cases rx
  obtain ⟨u, rfl, ru⟩ := rv.one
  obtain ⟨z, its, n, r, hl, e⟩ := I.lstM hH
  refine call_meets F.slot_list_append ⟨_, e, rfl⟩ F.entry_list_append (F.args_list_append_2 _ _) (PySem.list_append l its.toArray n u (by rw [List.size_toArray]; omega)) ⟨e, ?_⟩
  refine ⟨.non, _, I.lset (its' := its ++ [u]) hH e (by simp) (r.append (.cons ru .nil)) ?_, rfl, q⟩
  rw [List.length_append, List.length_singleton]
  omega
def rExtend : V → List V → Hp → VK → Prop := fun x vs H Q => ∃ l b xs zs, x = .ref l ∧ vs = [.ref b] ∧ H l = some (.lst xs) ∧ H b = some (.lst zs) ∧ xs.length + zs.length ≤ sizeLine ∧ Q .non (upd H l (.lst (xs ++ zs)))
def rPop : V → List V → Hp → VK → Prop := fun x vs H Q => ∃ l xs y, x = .ref l ∧ vs = [] ∧ H l = some (.lst xs) ∧ xs[xs.length - 1]? = some y ∧ Q y (upd H l (.lst xs.dropLast))
def rPopAt : V → List V → Hp → VK → Prop := fun x vs H Q => ∃ l xs i k y, x = .ref l ∧ vs = [.int i] ∧ H l = some (.lst xs) ∧ -(2 ^ 63) ≤ i ∧ i < 2 ^ 63 ∧ seqIndex? i xs.length = some k ∧ xs[k]? = some y ∧ Q y (upd H l (.lst (xs.eraseIdx k)))
def rReverse : V → List V → Hp → VK → Prop := fun x vs H Q => ∃ l xs, x = .ref l ∧ vs = [] ∧ H l = some (.lst xs) ∧ Q .non (upd H l (.lst xs.reverse))
def rClear : V → List V → Hp → VK → Prop := fun x vs H Q => ∃ l xs, x = .ref l ∧ vs = [] ∧ H l = some (.lst xs) ∧ Q .non (upd H l (.lst []))
def rCat : R2 := fun x y H Q => ∃ l b xs zs, x = .ref l ∧ y = .ref b ∧ H l = some (.lst xs) ∧ H b = some (.lst zs) ∧ xs.length + zs.length ≤ sizeLine ∧ ∀ p, H p = none → Q (.ref p) (upd H p (.lst (xs ++ zs)))
theorem op_cat : OpR X (binaryOp .Add) rCat := by
  intro pins s σ H x y v u Q I rx ry h
  obtain ⟨l, b, xs, zs, rfl, rfl, hH, hB, hz, q⟩ := h
  cases rx
  cases ry
  obtain ⟨z, its, n, r, hl, e⟩ := I.lstM hH
  obtain ⟨z2, its2, n2, r2, hl2, e2⟩ := I.lstM hB
  refine PySem.P.add_list e e2 ?_ (by rw [List.size_toArray, List.size_toArray]; omega)
  have ea : its.toArray ++ its2.toArray = (its ++ its2).toArray := by simp
  rw [ea]
  exact ⟨.ref _, _, I.lnew (t' := s.toks) (r.append r2) (by rw [List.length_append]; omega), rfl, q _ I.fresh⟩
def rRep : R2 := fun x y H Q => ∃ l k xs, x = .ref l ∧ y = .int k ∧ H l = some (.lst xs) ∧ -(2 ^ 63) ≤ k ∧ k < 2 ^ 63 ∧ xs.length * k.toNat ≤ sizeLine ∧
  ∀ p, H p = none → Q (.ref p) (upd H p (.lst (List.replicate k.toNat xs).flatten))
end
section
variable {prog : Program} {w : World} {A : Around} {E : Value → Shared → Prop} {s : Shared}
end
section
variable {X : Cx}
end
end L2
namespace Att
open PySem PySem.W PySem.Calls PyProof.Rows
theorem ints_of_wellAll {P : Params} {h : Heap} : ∀ (ns : List Int) (vs : List Value), WellAll P h vs (ns.map WData.int) → IntsAre vs ns := by
  intro ns
  induction ns with
  | nil =>
    intro vs w
    rw [List.map_nil] at w
    cases w
    exact .nil
  | cons n ns ih =>
    intro vs w
    rw [List.map_cons] at w
    cases w with
    | cons a b =>
      cases a
      exact .cons _ _ (ih _ b)
theorem script_of {l : OpenLaw} {n : Nat} (hn : l.most = some n) {P : Params} {h : Heap} {args : List WData} {vals : List Value}
    (hpre : l.row.toRowW.claim.pre args = true) (hwl : WellAll P h vals args) :
    ∃ a vs ns, vals = [Value.ref a] ∧ args = [WData.list (ns.map WData.int)] ∧ h.get? a = some { cls := .type "list", data := .seq vs.toArray } ∧ IntsAre vs ns ∧ ns.length ≤ n := by
  have hsh : WShape.hasAll [] args [.list .int] = true := (pre_splitW hpre).1
  have hc : l.pre.holds [] { args := args } = true := (pre_splitW hpre).2
  obtain ⟨d, r, rfl, h1, h2⟩ := hasAllW_cons hsh
  obtain rfl := hasAllW_nil h2
  obtain ⟨xs, rfl, h3⟩ := hasW_list h1
  obtain ⟨ns, rfl⟩ := items_int h3
  have hlen : ns.length ≤ n := by
    unfold OpenLaw.pre at hc
    have h4 : (WTm.not (.lt (.lit (.int (n : Int))) (.len (.arg 0)))).holds [] { args := [.list (ns.map .int)] } = true := by
      have h4 := (holds_andW hc).1
      rw [hn] at h4
      exact h4
    have h5 := condW_of h4 (w_not (w_lt w_lit (w_len_list (w_arg rfl))))
    rw [List.length_map] at h5
    refine Nat.le_of_not_lt fun q => ?_
    have q' : (n : Int) < ((ns.length : Nat) : Int) := by omega
    first
      | (rw [decide_eq_true q'] at h5; exact absurd h5 (by decide))
      | (simp at h5; omega)
  cases hwl with
  | cons w1 w2 =>
    cases w2
    cases w1 with
    | list ho hall => exact ⟨_, _, ns, rfl, rfl, ho, ints_of_wellAll ns _ hall, hlen⟩
theorem post_true (l : OpenLaw) (args : List WData) : l.row.toRowW.claim.post args (.bool true) args = true :=
  postW_of (r := l.row.toRowW) (X := (true == true))
    (show WShape.has [] (.bool true) .bool = true by first | rfl | decide | simp [WShape.has, WShape.arms, WShape.armsAll])
    (show (WTm.eq .res (.lit (.bool true))).value [] { args := args, res := some (.bool true), after := args } = some (.bool (true == true)) from w_eq_bool (w_res rfl) w_lit) rfl
theorem attach_call {l : OpenLaw} {n : Nat} {q : Program} {loose : List Str} {XP : (Str → Option Value) → Heap → Prop} {YP : World → Heap → Prop} {d : DefRec}
    (hn : l.most = some n) (hdf : d.params.defaults = [])
    (call : ∀ (w : World) (s₀ s₁ : Shared) (mg mb : Str → Option Value) (fa : Addr) (o : Obj) (pm cd doc : Value) (a : Addr) (vs : List Value) (ns : List Int),
      Ground q loose [] XP w s₀ mg mb s₁.heap → YP w s₁.heap →
      s₁.heap.get? fa = some o → o.data = .func (docDef d.name d.params d.body d.scope pm cd doc) → s₁.heap.CodeRec cd d.name → mg d.name = some (.ref fa) →
      s₁.heap.get? a = some { cls := .type "list", data := .seq vs.toArray } → IntsAre vs ns → ns.length ≤ n → s₁.gens = #[] →
      codeAny (model l.prog w) callerA (.call (.ref fa) ⟨[.ref a], []⟩) (fun r s' => r = .ok (.ret (.bool true)) ∧ OldK s₁.heap s'.heap ∧ s'.os = s₁.os ∧ AllBare s'.gens) s₁) :
    WalkO q loose XP YP l.row.toRowW d [] (fun f vs => PySem.call f vs) := by
  intro w s₀ s₁ mg mb G Y fa o pm cd doc dV kV ho hd hcd hD hmg hg args vals as hpre hlay hrd hwl hlo
  obtain rfl : dV = .none := Dflts.none hD hdf
  obtain rfl : kV = .none := Dflts.noKw hD
  obtain ⟨a, vs, ns, rfl, rfl, hobj, hints, hlen⟩ := script_of hn hpre hwl
  refine enter_call (codeAny_mono (call w s₀ s₁ mg mb fa o pm cd doc a vs ns G Y ho (fd_plain hd) hcd hmg hobj hints hlen hg) fun r s' hq => ?_)
  obtain ⟨rfl, h2, h3, h4⟩ := hq
  exact ⟨.inl ⟨.bool true, .bool true, [], rfl, fun _ => rfl, .bool true, post_true l _, fun _ => ⟨List.Pairwise.nil, fun _ hm => (nomatch hm)⟩⟩, h2, h3, h4⟩
section
variable {prog : Program} {w : World} {A : Around} {E : Value → Shared → Prop} {s : Shared} {K : Frag}
def noObjs (h : Heap) : Heap := { h with objs := #[] }
def ledger (h : Heap) (L d : Addr) : List (Addr × Obj) := (List.range h.objs.size).filterMap fun a => if a = L ∨ a = d then none else (h.get? a).map fun o => (a, o)
end
end Att
namespace L2
open PySem PySem.Spec PyProof.Rows
theorem vals_ints : ∀ {vs : List Value} {ns : List Int}, IntsAre vs ns → Vals (ns.map V.int) vs
  | _, _, .nil => .nil
  | _, _, .cons n t h => .cons ⟨t, rfl⟩ (vals_ints h)
def Only (H : Hp) : Prop := ∀ b, H b = none ∨ ∃ o xs, H b = some (.frz o (.lst xs))
theorem law_call {P : Program} {w : World} {K : PySem.W.Frag} {mg mb : Str → Option Value} {CX : CXT} {k : Nat} {fa a : Addr} {fd : FuncData} {x : Str} {sp : Sp} {s₁ : Shared} {vs : List Value} {ns : List Int}
    (KX : K.In s₁.heap) (hns : s₁.heap.Ns mainGlobals mg) (hb : s₁.heap.Ns builtinsNs mb) (hbb : ∀ x : Str, x ≠ "__name__" → mb x = bootBuiltins x) (hlim : s₁.heap.NoLimit) (hg : s₁.gens = #[])
    (ha : s₁.heap.get? a = some { cls := .type "list", data := .seq vs.toArray }) (hi : IntsAre vs ns) (hl : ns.length ≤ sizeLine) (hr : Room k callerA)
    (F : ∀ base : Heap, K.In base → base.Ns mainGlobals mg → FnOk P w K mg base CX k fa fd [x] sp) (hbind : ∀ (s : Shared) (u : Value), BindsTo s fd ⟨[u], []⟩ [(x, u)])
    (hsp : ∀ H : Hp, Only H → SqL K H a (ns.map V.int) → sp [.ref a] H (fun v _ => v = .bl true) fun _ _ _ => False)
    (hCX : ∀ H e s', CX [] H s₁ (fun _ _ _ => False) e s' → False) :
    codeAny (model P w) callerA (.call (.ref fa) ⟨[.ref a], []⟩) (fun r s' => r = .ok (.ret (.bool true)) ∧ OldK s₁.heap s'.heap ∧ s'.os = s₁.os ∧ AllBare s'.gens) s₁ := by
  have rv := vals_ints hi
  have lenV := hi.length
  -- from an abstract heap in which nothing but the script may be tracked
  have core : ∀ H : Hp, Only H → SqL K H a (ns.map V.int) → HOk P w H s₁.heap → (∀ b, H b ≠ none → b = a) → (H a ≠ none → K.lookup a = none) →
      codeAny (model P w) callerA (.call (.ref fa) ⟨[.ref a], []⟩) (fun r s' => r = .ok (.ret (.bool true)) ∧ OldK s₁.heap s'.heap ∧ s'.os = s₁.os ∧ AllBare s'.gens) s₁ := by
    intro H hO hS hok hA hK
    have base_of : ∀ {b : Addr} {o : Obj}, s₁.heap.get? b = some o → H b = none → (hidT s₁.heap H).get? b = some o := fun e n => hidT_get e n
    have noA : ∀ {b : Addr} {o : Obj} {es : Array DictEntry} {ep : Nat}, s₁.heap.get? b = some o → o.data = .dict es ep → H b = none := fun {b o es ep} e d => by
      cases q : H b with
      | none => rfl
      | some u =>
        have e' : b = a := hA b (by rw [q]; simp)
        subst e'
        rw [ha] at e; cases e
        have d' : Data.seq vs.toArray _ = Data.dict es ep := d
        cases d'
    have nsK : ∀ {b : Addr} {m : Str → Option Value}, s₁.heap.Ns b m → (hidT s₁.heap H).Ns b m := fun {b m} ⟨o, es, ep, e, d, r⟩ => ⟨o, es, ep, base_of e (noA e d), d, r⟩
    have hKb : K.In (hidT s₁.heap H) := fun b o e => base_of (KX b o e) (by
      cases q : H b with
      | none => rfl
      | some u =>
        have e' : b = a := hA b (by rw [q]; simp)
        subst e'
        rw [hK (by rw [q]; simp)] at e; cases e)
    have hM : Mod K mg (hidT s₁.heap H) := ⟨hKb, nsK hns, ⟨mb, nsK hb, hbb⟩, let ⟨mc, h1, h2⟩ := hlim; ⟨mc, nsK h1, h2⟩⟩
    have e0 : Env0 P w K mg (hidT s₁.heap H) callerA [] s₁ H := ⟨rfl, hM, fun b o e => of_hidT e, Nat.le_of_eq (hidT_size _ _), trivial, fun b hb => absurd (show b ∈ ([] : List Addr) from hb) (by simp), hok, .of_eq hg⟩
    refine codeAny_mono ((F _ hKb (nsK hns)).run callerA [] s₁ H ⟨[.ref a], []⟩ [.ref a] [.ref a] _ _ hr e0 (hbind s₁ (.ref a)) (.cons rfl .nil) (hsp H hO hS)) fun r s' h => ?_
    cases r with
    | error e => exact (hCX H e s' h).elim
    | ok fl =>
      cases fl with
      | next => exact False.elim h
      | brk => exact False.elim h
      | cont => exact False.elim h
      | ret u =>
        obtain ⟨v, H', os, bare, un, hok', r', q⟩ := h
        have q' : v = .bl true := q
        subst q'
        obtain rfl : u = Value.bool true := r'
        refine ⟨rfl, OldK.of_keep fun b o e => ?_, os, bare⟩
        cases q : H b with
        | none => exact un.keep b o e q (by intro z; exact absurd (show b ∈ ([] : List Addr) from z) (by simp)) (by simp)
        | some u =>
          rcases hO b with z | ⟨ob, xs, z⟩
          · rw [q] at z; cases z
          · have z2 := un.frzs b ob _ z
            obtain ⟨e1, _⟩ := hok b _ z
            obtain ⟨e2, _⟩ := hok' b _ z2
            rw [e] at e1; cases e1
            exact e2
  cases hk : K.lookup a with
  | some o =>
    -- the script is one of the module's own objects
    have e := KX a o hk
    rw [ha] at e
    cases e
    refine core (fun _ => none) (fun _ => .inl rfl) (.inr ⟨_, vs.toArray, _, hk, rfl, rfl, rfl, by rw [List.size_toArray, lenV]; exact hl, by simpa using rv⟩) (fun b u z => by have z' : (none : Option HO) = some u := z; cases z') (fun b z => absurd rfl z) fun z => absurd rfl z
  | none =>
    refine core (fun b => if b = a then some (.frz { cls := .type "list", data := .seq vs.toArray } (.lst (ns.map V.int))) else none) (fun b => ?_) (.inl (.inr ⟨{ cls := .type "list", data := .seq vs.toArray }, if_pos rfl⟩)) (fun b u z => ?_) (fun b z => ?_) fun _ => hk
    · by_cases hb : b = a
      · exact .inr ⟨_, _, if_pos hb⟩
      · exact .inl (if_neg hb)
    · by_cases hb : b = a
      · have z' := (if_pos hb).symm.trans z
        cases z'
        subst hb
        exact ⟨ha, by rw [List.length_map]; exact hl, vs, _, rv, ha⟩
      · have z' := (if_neg hb).symm.trans z
        cases z'
    · by_cases hb : b = a
      · exact hb
      · exact absurd (if_neg hb) z
end L2
namespace L2
open PySem PySem.Spec PyProof.Rows
abbrev KOf {K : PySem.W.Frag} {h : Heap} (_ : K.In h) : PySem.W.Frag := K
theorem walk_of {l : PySem.W.OpenLaw} {n k : Nat} {q : Program} {loose : List Str} {XP : (Str → Option Value) → Heap → Prop} {YP : World → Heap → Prop} {d : DefRec} {K : Params → PySem.W.Frag} {CX : World → CXT} {sp : World → Sp} {x : Str}
    (hn : l.most = some n) (hn2 : n ≤ sizeLine) (hdf : d.params.defaults = []) (hr : Room k callerA)
    (hY : ∀ (w : World) (h : Heap), YP w h → (K w.params).In h)
    (F : ∀ (w : World) (mg : Str → Option Value) (fa : Addr) (h : Heap), (K w.params).In h → h.Ns mainGlobals mg → mg d.name = some (.ref fa) →
      ∃ fd : FuncData, (∀ (s : Shared) (u : Value), BindsTo s fd ⟨[u], []⟩ [(x, u)]) ∧
        ∀ base : Heap, (K w.params).In base → base.Ns mainGlobals mg → FnOk l.prog w (K w.params) mg base (CX w) k fa fd [x] (sp w))
    (hsp : ∀ (w : World) (H : Hp) (a : Addr) (ns : List Int), ns.length ≤ n → Only H → SqL (K w.params) H a (ns.map V.int) → sp w [.ref a] H (fun v _ => v = .bl true) fun _ _ _ => False)
    (hCX : ∀ (w : World) (H : Hp) (s : Shared) (e : Value) (s' : Shared), CX w [] H s (fun _ _ _ => False) e s' → False) :
    PySem.W.WalkO q loose XP YP l.row.toRowW d [] (fun f vs => PySem.call f vs) := by
  refine Att.attach_call hn hdf fun w s₀ s₁ mg mb fa o pm cd doc a vs ns G Y ho hd hcd hmg hobj hints hlen hg => ?_
  have KX := hY w _ Y
  obtain ⟨fd, hb, hF⟩ := F w mg fa _ KX G.T.g hmg
  exact law_call KX G.T.g G.T.b G.T.builtins G.T.nolimit hg hobj hints (Nat.le_trans hlen hn2) hr hF hb (fun H hO hS => hsp w H a ns hlen hO hS) fun H e s' => hCX w H s₁ e s'
end L2
namespace L2
open PySem PySem.Spec PyProof.Rows
def inClass (s : Stmt) (j : Nat) : Stmt := match s with
  | .ClassDef _ _ _ body _ _ _ _ _ _ _ => body.getD j (.Pass ⟨0, 0, 0, 0⟩)
  | _ => .Pass ⟨0, 0, 0, 0⟩
def defArgs (s : Stmt) : Arguments := match s with
  | .FunctionDef _ a _ _ _ _ _ _ _ _ => a
  | _ => { posonlyargs := [], args := [], vararg := none, kwonlyargs := [], kw_defaults := [], kwarg := none, defaults := [] }
def defBody (s : Stmt) : List Stmt := match s with
  | .FunctionDef _ _ b _ _ _ _ _ _ _ => b
  | _ => []
def defScope (s : Stmt) : Scope := match s with
  | .FunctionDef _ _ _ _ _ _ sc _ _ _ => sc
  | _ => { kind := .function, names := [], isGenerator := false, isCoroutine := false }
abbrev CX0 : CXT := fun _ _ _ _ _ _ => False
abbrev E0 : XK := fun _ _ _ => False
structure Fun (K : PySem.W.Frag) (x qual : Str) (st : Stmt) (f : Addr) (fd : FuncData) : Prop where
  ex : ∃ (oc : Value) (od : Option Addr) (kV doc pm : Value) (an : Option Addr) (cdv ct : Value) (osl : Array (Option Value)),
    fd = PySem.W.fnOf x qual (defArgs st) (defBody st) (defScope st) .none kV doc pm an cdv ct ∧ K.lookup f = some ⟨oc, od, .func fd, osl⟩ ∧ PySem.W.codeIn K cdv qual = true
  kp : PySem.W.keepIn K (.ref f) = true
section
variable {P : Program} {w : World} {K : PySem.W.Frag} {mg : Str → Option Value} {base : Heap}
end
section
variable {X : Cx}
theorem pv (i : Nat) {x : Str} {pos : Pos} (hN : X.N[i]? = some x := by rfl) (hv : Vis X.env.scope x := by first | exact Or.inl rfl | exact Or.inr (Or.inl rfl) | exact Or.inr (Or.inr rfl)) (hd : (x == ("__debug__" : Str)) = false := by decide)
    (hcd : (x == ("__classdict__" : Str)) = false := by decide) : PE X (.Name x pos) (tVar i) := pe_var hN hv hd hcd
end
theorem iteF {A B : Prop} (h : B) : if false = true then A else B := by
  rw [if_neg Bool.false_ne_true]
  exact h
theorem iteT {A B : Prop} (h : A) : if true = true then A else B := by
  rw [if_pos rfl]
  exact h
def Same (H H' : Hp) : Prop := ∀ b o, H b = some o → H' b = some o
theorem Same.refl (H : Hp) : Same H H := fun _ _ h => h
theorem Same.trans {H H1 H2 : Hp} (a : Same H H1) (b : Same H1 H2) : Same H H2 := fun c o h => b c o (a c o h)
theorem Same.free {H H' : Hp} (e : Same H H') {l : Addr} (h : H' l = Option.none) : H l = Option.none := by
  cases q : H l with
  | none => rfl
  | some o =>
    rw [e l o q] at h
    cases h
theorem Same.seq {K : PySem.W.Frag} {H H' : Hp} {a : Addr} {xs : List V} (e : Same H H') (h : SqL K H a xs) : SqL K H' a xs := by
  rcases h with (h | ⟨o, h⟩) | h
  · exact .inl (.inl (e _ _ h))
  · exact .inl (.inr ⟨o, e _ _ h⟩)
  · exact .inr h
end L2
set_option Elab.async false
set_option linter.all false
set_option maxRecDepth 100000
namespace L2
open PySem PySem.Spec PyProof.Rows
abbrev kn (b : Bool) : String := if b then "tuple_iterator" else "list_iterator"
def SqAt (b : Bool) (h : Heap) (l : Addr) (items : Array Value) : Prop := match b with
  | true => h.IsTuple l items
  | false => h.IsList l items
def IterAt (b : Bool) (h : Heap) (it l : Addr) (i : Nat) : Prop := match b with
  | true => h.IsTupleIter it l i
  | false => h.IsListIter it l i
theorem SqAt.at {b : Bool} {h h' : Heap} {l : Addr} {items : Array Value} (x : SqAt b h l items) (e : ∀ o, h.get? l = some o → h'.get? l = some o) : SqAt b h' l items := by
  cases b with
  | true => obtain ⟨o, ho, r⟩ := x; exact ⟨o, e o ho, r⟩
  | false => exact Heap.IsList.at x e
theorem IterAt.obj {b : Bool} {h : Heap} {it l : Addr} {i : Nat} (x : IterAt b h it l i) : ∃ o, h.get? it = some o ∧ ∀ v, o.data ≠ .cell v := by
  cases b <;> (obtain ⟨o, ho, c, d⟩ := x; exact ⟨o, ho, fun v z => by rw [d] at z; cases z⟩)
theorem IterAt.at {b : Bool} {h h' : Heap} {it l : Addr} {i : Nat} (x : IterAt b h it l i) (e : ∀ o, h.get? it = some o → h'.get? it = some o) : IterAt b h' it l i := by
  cases b <;> (obtain ⟨o, ho, r⟩ := x; exact ⟨o, e o ho, r⟩)
section
variable {prog : Program} {w : World} {A : Around} {E : Value → Shared → Prop} {s : Shared}
theorem next_tup_item {it t : Addr} {i : Nat} {items : Array Value} {x : Value} {Q : Value → Shared → Prop} (hit : s.heap.IsTupleIter it t i) (ht : s.heap.IsTuple t items) (hx : items[i]? = some x)
    (hQ : ∀ h', h'.IsTupleIter it t (i + 1) → Heap.SameBut it s.heap h' → Q x { s with heap := h' }) : wpAny (model prog w) A (Builtin.SmallTypes.nextOf (.ref it)) Q E s := by
  obtain ⟨o, ho, hc, hd⟩ := id hit; obtain ⟨ol, hol, _, nl, hdl⟩ := ht
  unfold Builtin.SmallTypes.nextOf; refine wpAny_bind (wpAny_callSpecial?_slot (name := Str.ofString "__next__") hit.typeIs F.slot_tuple_iterator_next (wpAny_call_entry F.slot_tuple_iterator_next hit.typeIs F.entry_tuple_iterator_next ?_ (F.args_tuple_iterator_next_1 _)))
  show wpAny _ _ (field (.ref it) 0 >>= _) _ _ s; refine wpAny_bind (wpAny_field ho hd (x := .ref t) rfl ?_)
  show wpAny _ _ (if (Value.ref t == Value.none) = true then _ else _) _ _ s; rw [if_neg (by intro z; cases z)]
  show wpAny _ _ (field (.ref it) 1 >>= _) _ _ s; refine wpAny_bind (wpAny_field ho hd (x := .int i 0) rfl ?_)
  show wpAny _ _ (seqItems? (.ref t) >>= _) _ _ s; refine wpAny_bind (wpAny_seqItems hol hdl ?_); simp only [Int.toNat_natCast, hx]
  refine wpAny_bind (wpAny_setField ho hd (by simp) (wpAny_pure ⟨x, rfl, wpAny_pure (hQ _ ⟨_, Heap.get?_update_self _ ho (Obj.isFreed_of_fields (Obj.data_mapFields hd _)), (Obj.cls_mapFields ..).trans hc, ?_⟩ (Heap.SameBut.update ..))⟩))
  rw [Obj.data_mapFields hd]; simp [rawInt]
theorem next_tup_end {it t : Addr} {i : Nat} {items : Array Value} {Q : Value → Shared → Prop} (hh : A.handled = none) (hit : s.heap.IsTupleIter it t i) (ht : s.heap.IsTuple t items) (hx : items[i]? = none)
    (hE : ∀ h' e, Heap.ExtBut it s.heap h' → (∃ o, h'.get? e = some o ∧ o.cls = .type "StopIteration") → E (.ref e) { s with heap := h' }) : wpAny (model prog w) A (Builtin.SmallTypes.nextOf (.ref it)) Q E s := by
  obtain ⟨o, ho, hc, hd⟩ := id hit; obtain ⟨ol, hol, _, nl, hdl⟩ := ht
  unfold Builtin.SmallTypes.nextOf; refine wpAny_bind (wpAny_callSpecial?_slot (name := Str.ofString "__next__") hit.typeIs F.slot_tuple_iterator_next (wpAny_call_entry F.slot_tuple_iterator_next hit.typeIs F.entry_tuple_iterator_next ?_ (F.args_tuple_iterator_next_1 _)))
  show wpAny _ _ (field (.ref it) 0 >>= _) _ _ s; refine wpAny_bind (wpAny_field ho hd (x := .ref t) rfl ?_)
  show wpAny _ _ (if (Value.ref t == Value.none) = true then _ else _) _ _ s; rw [if_neg (by intro z; cases z)]
  show wpAny _ _ (field (.ref it) 1 >>= _) _ _ s; refine wpAny_bind (wpAny_field ho hd (x := .int i 0) rfl ?_)
  show wpAny _ _ (seqItems? (.ref t) >>= _) _ _ s; refine wpAny_bind (wpAny_seqItems hol hdl ?_); simp only [Int.toNat_natCast, hx]
  refine wpAny_bind (wpAny_rule (wpAny_bind (wpAny_setField ho hd (by simp) ?_))); show wpAny _ _ (newExc (.type "StopIteration") [] >>= _) _ _ _
  refine wpAny_bind ?_; simp only [newExc, newTuple]
  refine wpAny_bind (wpAny_newObj_type ?_ (by size_fits)); refine wpAny_bind (m := firstArgMember _ _) (wpAny_of_eq (a := Value.none) (by first | rfl | (simp only [firstArgMember]; rfl)) ?_)
  refine wpAny_newObj_type ?_ (by size_fits); simp only [raiseNew]; refine wpAny_bind (wpAny_handled ?_)
  first | rw [show A.in1.handled = none from hh] | rw [hh]
  refine wpAny_bind (wpAny_pure (wpAny_throw ?_)); exact hE _ _ (((Heap.SameBut.update ..).extBut.push _).push _) ⟨_, Heap.get?_push_size _ rfl, rfl⟩
theorem next_item {b : Bool} {it l : Addr} {i : Nat} {items : Array Value} {x : Value} {Q : Value → Shared → Prop} (hit : IterAt b s.heap it l i) (hl : SqAt b s.heap l items) (hx : items[i]? = some x)
    (hQ : ∀ h', IterAt b h' it l (i + 1) → Heap.SameBut it s.heap h' → Q x { s with heap := h' }) : wpAny (model prog w) A (Builtin.SmallTypes.nextOf (.ref it)) Q E s := by
  cases b with
  | true => exact next_tup_item hit hl hx hQ
  | false => exact wpAny_nextOf_list_item hit hl hx hQ
theorem next_end {b : Bool} {it l : Addr} {i : Nat} {items : Array Value} {Q : Value → Shared → Prop} (hh : A.handled = none) (hit : IterAt b s.heap it l i) (hl : SqAt b s.heap l items) (hx : items[i]? = none)
    (hE : ∀ h' e, Heap.ExtBut it s.heap h' → (∃ o, h'.get? e = some o ∧ o.cls = .type "StopIteration") → E (.ref e) { s with heap := h' }) : wpAny (model prog w) A (Builtin.SmallTypes.nextOf (.ref it)) Q E s := by
  cases b with
  | true => exact next_tup_end hh hit hl hx hE
  | false => exact wpAny_nextOf_list_end hh hit hl hx hE
theorem iter_sq {b : Bool} {l : Addr} {items : Array Value} {Q : Value → Shared → Prop} (hl : SqAt b s.heap l items)
    (hQ : Q (.ref s.heap.objs.size) { s with heap := s.heap.push { cls := .type (kn b), data := .fields #[.ref l, .int 0 0] } }) : wpAny (model prog w) A (pyIter (.ref l)) Q E s := by
  cases b with
  | true => exact wpAny_pyIter_tuple hl hQ
  | false => exact wpAny_pyIter_list hl hQ
structure ZSt (b1 b2 : Bool) (z TI TO i1 i2 l1 l2 : Addr) (f0 : Value) (k : Nat) (h : Heap) : Prop where
  zip : IsZip h z TI TO f0
  ti : IsPair h TI (.ref i1) (.ref i2)
  to : ∃ a b, IsPair h TO a b
  it1 : IterAt b1 h i1 l1 k
  it2 : IterAt b2 h i2 l2 k
theorem ZSt.at {b1 b2 : Bool} {z TI TO i1 i2 l1 l2 : Addr} {f0 : Value} {k : Nat} {h h' : Heap} (x : ZSt b1 b2 z TI TO i1 i2 l1 l2 f0 k h) (e : ∀ b ∈ [z, TI, TO, i1, i2], ∀ o, h.get? b = some o → h'.get? b = some o) :
    ZSt b1 b2 z TI TO i1 i2 l1 l2 f0 k h' :=
  ⟨e z (by simp) _ x.zip, e TI (by simp) _ x.ti, let ⟨a, b, q⟩ := x.to; ⟨a, b, e TO (by simp) _ q⟩, x.it1.at fun o q => e i1 (by simp) o q, x.it2.at fun o q => e i2 (by simp) o q⟩
theorem zip_item {b1 b2 : Bool} {z TI TO i1 i2 l1 l2 : Addr} {k : Nat} {xs ys : Array Value} {x y : Value} {Q : Value → Shared → Prop} (D : ZipApart z TI TO i1 i2 l1 l2) (S : ZSt b1 b2 z TI TO i1 i2 l1 l2 .none k s.heap)
    (hl1 : SqAt b1 s.heap l1 xs) (hl2 : SqAt b2 s.heap l2 ys) (hx : xs[k]? = some x) (hy : ys[k]? = some y)
    (hQ : ∀ h', ZSt b1 b2 z TI TO i1 i2 l1 l2 (rawInt s.heap.objs.size) (k + 1) h' → IsPair h' s.heap.objs.size x y → h'.objs.size = s.heap.objs.size + 1 →
      (∀ c o, c ≠ z → c ≠ TO → c ≠ i1 → c ≠ i2 → s.heap.get? c = some o → h'.get? c = some o) → Q (.ref s.heap.objs.size) { s with heap := h' }) :
    wpAny (model prog w) A (Builtin.«zip.__next__» ⟨[.ref z], []⟩) (fun fin s' => ∃ v, fin = .done (.ret v) ∧ Q v s') E s := by
  obtain ⟨hz, hTI, ⟨a, b, hTO⟩, h1, h2⟩ := S
  show wpAny _ _ (field (.ref z) 2 >>= _) _ _ _; refine wpAny_bind (wpAny_field hz rfl (x := .bool false) rfl ?_)
  show wpAny _ _ (field (.ref z) 3 >>= _) _ _ _; refine wpAny_bind (wpAny_field hz rfl (x := .ref TI) rfl (wpAny_bind (wpAny_seqItems hTI rfl ?_)))
  show wpAny _ _ (Builtin.SmallTypes.ownedTupleIsFree (.ref z) >>= _) _ _ _; refine wpAny_bind ?_
  unfold Builtin.SmallTypes.ownedTupleIsFree; refine wpAny_bind (wpAny_field hz rfl (x := .none) rfl (wpAny_pure ?_)); simp only [if_true]
  refine wpAny_bind (wpAny_rule (wpAny_bind (wpAny_field hz rfl (x := .ref TO) rfl ?_)))
  refine wpAny_bind (wpAny_setField_rec hz (by simp) fun g1 z1 e1 => ?_)
  replace z1 : IsZip g1 z TI TO .ellipsis := z1; refine wpAny_bind ?_
  simp only [List.zipIdx_cons, List.zipIdx_nil, List.forIn_cons, List.forIn_nil]; refine wpAny_bind (wpAny_bind (wpAny_onRaise ?_))
  show wpAny _ _ (Builtin.SmallTypes.nextOf (.ref i1) >>= _) _ _ _
  have k1 : ∀ c o, c ≠ z → s.heap.get? c = some o → g1.get? c = some o := fun c o hc e => e1.extBut c o hc e
  refine wpAny_bind (next_item (s := { s with heap := g1 }) (h1.at fun o q => k1 i1 o D.i1z q) (hl1.at fun o q => k1 l1 o D.l1z q) hx fun g2 t2 e2 => wpAny_pure ?_)
  have k2 : ∀ c o, c ≠ z → c ≠ i1 → s.heap.get? c = some o → g2.get? c = some o := fun c o hc hd e => e2.extBut c o hd (k1 c o hc e)
  have p2 : IsPair g2 TO a b := k2 TO _ D.TOz D.TOi1 hTO
  refine wpAny_bind (wpAny_seqItems p2 rfl (wpAny_bind (wpAny_updateSeq_pair p2 fun g3 p3 e3 => ?_)))
  replace p3 : IsPair g3 TO x b := p3; refine wpAny_bind (wpAny_letGo (wpAny_pure ?_)); refine wpAny_bind (wpAny_bind (wpAny_onRaise ?_))
  show wpAny _ _ (Builtin.SmallTypes.nextOf (.ref i2) >>= _) _ _ _
  have k3 : ∀ c o, c ≠ z → c ≠ i1 → c ≠ TO → s.heap.get? c = some o → g3.get? c = some o := fun c o hc hd he e => e3.extBut c o he (k2 c o hc hd e)
  refine wpAny_bind (next_item (s := { s with heap := g3 }) (h2.at fun o q => k3 i2 o D.i2z D.i12.symm D.TOi2.symm q) (hl2.at fun o q => k3 l2 o D.l2z D.l2i1 D.l2TO q) hy fun g4 t4 e4 => wpAny_pure ?_)
  have p4 : IsPair g4 TO x b := e4.extBut _ _ D.TOi2 p3
  refine wpAny_bind (wpAny_seqItems p4 rfl (wpAny_bind (wpAny_updateSeq_pair p4 fun g5 p5 e5 => ?_)))
  replace p5 : IsPair g5 TO x y := p5; refine wpAny_bind (wpAny_letGo (wpAny_pure (wpAny_pure ?_))); refine wpAny_bind (wpAny_seqItems p5 rfl (wpAny_bind (wpAny_newTuple ?_)))
  have sz : g5.objs.size = s.heap.objs.size := by rw [e5.1, e4.1, e3.1, e2.1, e1.1]
  have z5 : IsZip g5 z TI TO .ellipsis := e5.extBut _ _ D.TOz.symm (e4.extBut _ _ D.i2z.symm (e3.extBut _ _ D.TOz.symm (e2.extBut _ _ D.i1z.symm z1)))
  have k5 : ∀ c o, c ≠ z → c ≠ TO → c ≠ i1 → c ≠ i2 → s.heap.get? c = some o → g5.get? c = some o := fun c o c1 c2 c3 c4 e => e5.extBut _ _ c2 (e4.extBut _ _ c4 (k3 c o c1 c3 c2 e))
  have t5 : IterAt b1 g5 i1 l1 (k + 1) := t2.at fun o q => e5.extBut _ _ D.TOi1.symm (e4.extBut _ _ D.i12 (e3.extBut _ _ D.TOi1.symm q))
  have u5 : IterAt b2 g5 i2 l2 (k + 1) := t4.at fun o q => e5.extBut _ _ D.TOi2.symm q
  have zlt : z < g5.objs.size := Heap.lt_size z5
  show wpAny _ _ (Builtin.SmallTypes.ownedTupleHandOut (.ref z) (.ref g5.objs.size) >>= _) _ _ _; refine wpAny_bind ?_
  unfold Builtin.SmallTypes.ownedTupleHandOut
  have z6 : IsZip (g5.push { cls := .type "tuple", data := .seq #[x, y] }) z TI TO .ellipsis := Heap.get?_push_of_some _ z5
  refine wpAny_bind (wpAny_setField_rec z6 (by simp) fun g7 z7 e7 => ?_)
  replace z7 : IsZip g7 z TI TO (rawInt g5.objs.size) := z7; refine wpAny_setField_rec z7 (by simp) fun g8 z8 e8 => ?_
  replace z8 : IsZip g8 z TI TO (rawInt g5.objs.size) := z8
  have up : ∀ c o, c ≠ z → g5.get? c = some o → g8.get? c = some o := fun c o c1 e => e8.extBut _ _ c1 (e7.extBut _ _ c1 (Heap.get?_push_of_some _ e))
  have p8 : IsPair g8 g5.objs.size x y := e8.extBut _ _ (Nat.ne_of_gt zlt) (e7.extBut _ _ (Nat.ne_of_gt zlt) (Heap.get?_push_size _ rfl))
  have s8 : g8.objs.size = g5.objs.size + 1 := by rw [e8.1, e7.1, Heap.size_push]
  rw [sz] at z8 p8 s8
  refine wpAny_pure ⟨_, rfl, ?_⟩
  show Q (.ref g5.objs.size) _
  rw [sz]
  exact hQ g8 ⟨z8, up _ _ D.TIz (k5 TI _ D.TIz D.TITO D.TIi1 D.TIi2 hTI), ⟨_, _, up _ _ D.TOz p5⟩, t5.at fun o q => up _ o D.i1z q, u5.at fun o q => up _ o D.i2z q⟩ p8 s8 fun c o c1 c2 c3 c4 e => up c o c1 (k5 c o c1 c2 c3 c4 e)
theorem zip_end {b1 b2 : Bool} {z TI TO i1 i2 l1 l2 : Addr} {k : Nat} {xs ys : Array Value} {Q : Fin → Shared → Prop} (hh : A.handled = none) (D : ZipApart z TI TO i1 i2 l1 l2) (S : ZSt b1 b2 z TI TO i1 i2 l1 l2 .none k s.heap)
    (hl1 : SqAt b1 s.heap l1 xs) (hl2 : SqAt b2 s.heap l2 ys) (hend : xs[k]? = none ∨ ys[k]? = none)
    (hE : ∀ h' e, (∀ c o, c ≠ z → c ≠ TO → c ≠ i1 → c ≠ i2 → s.heap.get? c = some o → h'.get? c = some o) → (∃ o, h'.get? e = some o ∧ o.cls = .type "StopIteration") → E (.ref e) { s with heap := h' }) :
    wpAny (model prog w) A (Builtin.«zip.__next__» ⟨[.ref z], []⟩) Q E s := by
  obtain ⟨hz, hTI, ⟨a, b, hTO⟩, h1, h2⟩ := S
  show wpAny _ _ (field (.ref z) 2 >>= _) _ _ _; refine wpAny_bind (wpAny_field hz rfl (x := .bool false) rfl ?_)
  show wpAny _ _ (field (.ref z) 3 >>= _) _ _ _; refine wpAny_bind (wpAny_field hz rfl (x := .ref TI) rfl (wpAny_bind (wpAny_seqItems hTI rfl ?_)))
  show wpAny _ _ (Builtin.SmallTypes.ownedTupleIsFree (.ref z) >>= _) _ _ _; refine wpAny_bind ?_
  unfold Builtin.SmallTypes.ownedTupleIsFree; refine wpAny_bind (wpAny_field hz rfl (x := .none) rfl (wpAny_pure ?_)); simp only [if_true]
  refine wpAny_bind (wpAny_rule (wpAny_bind (wpAny_field hz rfl (x := .ref TO) rfl ?_)))
  refine wpAny_bind (wpAny_setField_rec hz (by simp) fun g1 z1 e1 => ?_)
  replace z1 : IsZip g1 z TI TO .ellipsis := z1; refine wpAny_bind ?_
  simp only [List.zipIdx_cons, List.zipIdx_nil, List.forIn_cons, List.forIn_nil]; refine wpAny_bind (wpAny_bind (wpAny_onRaise ?_))
  show wpAny _ _ (Builtin.SmallTypes.nextOf (.ref i1) >>= _) _ _ _
  have k1 : ∀ c o, c ≠ z → s.heap.get? c = some o → g1.get? c = some o := fun c o hc e => e1.extBut c o hc e
  cases hx : xs[k]? with
  | none =>
    refine wpAny_bind (next_end (s := { s with heap := g1 }) hh (h1.at fun o q => k1 i1 o D.i1z q) (hl1.at fun o q => k1 l1 o D.l1z q) hx fun g2 e e2 he => ?_)
    obtain ⟨oe, hoe, hce⟩ := he
    have z2 : IsZip g2 z TI TO .ellipsis := e2 _ _ D.i1z.symm z1
    have ez : e ≠ z := fun q => by subst q; rw [z2] at hoe; cases hoe; simp at hce
    exact wpAny_setField_rec z2 (by simp) fun g3 _ e3 => hE g3 e (fun c o c1 _ c3 _ q => e3.extBut _ _ c1 (e2 _ _ c3 (k1 c o c1 q))) ⟨oe, e3.extBut _ _ ez hoe, hce⟩
  | some x =>
    have hy : ys[k]? = none := by
      rcases hend with q | q
      · rw [hx] at q; cases q
      · exact q
    refine wpAny_bind (next_item (s := { s with heap := g1 }) (h1.at fun o q => k1 i1 o D.i1z q) (hl1.at fun o q => k1 l1 o D.l1z q) hx fun g2 t2 e2 => wpAny_pure ?_)
    have k2 : ∀ c o, c ≠ z → c ≠ i1 → s.heap.get? c = some o → g2.get? c = some o := fun c o hc hd e => e2.extBut c o hd (k1 c o hc e)
    have p2 : IsPair g2 TO a b := k2 TO _ D.TOz D.TOi1 hTO
    refine wpAny_bind (wpAny_seqItems p2 rfl (wpAny_bind (wpAny_updateSeq_pair p2 fun g3 p3 e3 => ?_)))
    refine wpAny_bind (wpAny_letGo (wpAny_pure ?_)); refine wpAny_bind (wpAny_bind (wpAny_onRaise ?_))
    show wpAny _ _ (Builtin.SmallTypes.nextOf (.ref i2) >>= _) _ _ _
    have k3 : ∀ c o, c ≠ z → c ≠ i1 → c ≠ TO → s.heap.get? c = some o → g3.get? c = some o := fun c o hc hd he e => e3.extBut c o he (k2 c o hc hd e)
    refine wpAny_bind (next_end (s := { s with heap := g3 }) hh (h2.at fun o q => k3 i2 o D.i2z D.i12.symm D.TOi2.symm q) (hl2.at fun o q => k3 l2 o D.l2z D.l2i1 D.l2TO q) hy fun g4 e e4 he => ?_)
    obtain ⟨oe, hoe, hce⟩ := he
    have z4 : IsZip g4 z TI TO .ellipsis := e4 _ _ D.i2z.symm (e3.extBut _ _ D.TOz.symm (e2.extBut _ _ D.i1z.symm z1))
    have ez : e ≠ z := fun q => by subst q; rw [z4] at hoe; cases hoe; simp at hce
    exact wpAny_setField_rec z4 (by simp) fun g5 _ e5 => hE g5 e (fun c o c1 c2 c3 c4 q => e5.extBut _ _ c1 (e4 _ _ c4 (k3 c o c1 c3 c2 q))) ⟨oe, e5.extBut _ _ ez hoe, hce⟩
end
end L2
namespace L2
open PySem PySem.Spec PyProof.Rows
abbrev zq1 (b1 : Bool) (h : Heap) (l1 : Addr) : Heap := h.push { cls := .type (kn b1), data := .fields #[.ref l1, .int 0 0] }
abbrev zq2 (b1 b2 : Bool) (h : Heap) (l1 l2 : Addr) : Heap := (zq1 b1 h l1).push { cls := .type (kn b2), data := .fields #[.ref l2, .int 0 0] }
abbrev zq3 (b1 b2 : Bool) (h : Heap) (l1 l2 : Addr) : Heap := (zq2 b1 b2 h l1 l2).push { cls := .type "tuple", data := .seq #[.ref h.objs.size, .ref (zq1 b1 h l1).objs.size] }
abbrev zq4 (b1 b2 : Bool) (h : Heap) (l1 l2 : Addr) : Heap := (zq3 b1 b2 h l1 l2).push { cls := .type "tuple", data := .seq #[.none, .none] }
abbrev zq5 (b1 b2 : Bool) (h : Heap) (l1 l2 : Addr) : Heap := (zq4 b1 b2 h l1 l2).push { cls := .type "zip", data := .fields #[.none, .bool false, .bool false, .ref (zq2 b1 b2 h l1 l2).objs.size, .ref (zq3 b1 b2 h l1 l2).objs.size] }
theorem zip_made (b1 b2 : Bool) (l1 l2 : Addr) (xs ys : Array Value) : Meets (Builtin.«zip.__new__» ⟨[.type "zip", .ref l1, .ref l2], []⟩) (fun _ R s => SqAt b1 s.heap l1 xs ∧ SqAt b2 s.heap l2 ys ∧
      R (.ok (.ret (.ref (zq4 b1 b2 s.heap l1 l2).objs.size))) { s with heap := zq5 b1 b2 s.heap l1 l2 }) :=
  .of_wp fun prog w A R s h => by
    obtain ⟨hp, g, d, tk, os⟩ := s; obtain ⟨hl1, hl2, h⟩ := h
    have hsub := sub_zip
    have q1 : SqAt b1 (Shared.heap ⟨hp, g, d, tk, os⟩) l1 xs := hl1
    have q2 : SqAt b2 (Shared.heap ⟨hp.push { cls := .type (kn b1), data := .fields #[.ref l1, .int 0 0] }, g, d, tk, os⟩) l2 ys := SqAt.at hl2 fun o e => Heap.get?_push_of_some _ e
    wp_walk using iter_sq q1, iter_sq q2
    exact ⟨_, rfl, h⟩
theorem call_zip {prog : Program} {w : World} {A : Around} {E : Value → Shared → Prop} {s : Shared} {b1 b2 : Bool} {l1 l2 : Addr} {xs ys : Array Value} {Q : Value → Shared → Prop} (hl1 : SqAt b1 s.heap l1 xs) (hl2 : SqAt b2 s.heap l2 ys)
    (h : ∀ h', ZSt b1 b2 (s.heap.objs.size + 4) (s.heap.objs.size + 2) (s.heap.objs.size + 3) s.heap.objs.size (s.heap.objs.size + 1) l1 l2 .none 0 h' → (∀ c o, s.heap.get? c = some o → h'.get? c = some o) → h'.objs.size = s.heap.objs.size + 5 →
      Q (.ref (s.heap.objs.size + 4)) { s with heap := h' }) : wpAny (model prog w) A (call (.type "zip") [.ref l1, .ref l2]) Q E s := by
  refine callType_new F.called_zip (by decide) (F.typeCall_zip_2 _ _) (F.newCall_zip_2 _ _) (fun obj => F.args_object_init_3 obj _ _) F.entry_zip_new (zip_made b1 b2 l1 l2 xs ys) ⟨hl1, hl2, ?_⟩
  have z1 : (zq1 b1 s.heap l1).objs.size = s.heap.objs.size + 1 := Heap.size_push ..
  have z2 : (zq2 b1 b2 s.heap l1 l2).objs.size = s.heap.objs.size + 2 := by rw [Heap.size_push, z1]
  have z3 : (zq3 b1 b2 s.heap l1 l2).objs.size = s.heap.objs.size + 3 := by rw [Heap.size_push, z2]
  have z4 : (zq4 b1 b2 s.heap l1 l2).objs.size = s.heap.objs.size + 4 := by rw [Heap.size_push, z3]
  have z5 : (zq5 b1 b2 s.heap l1 l2).objs.size = s.heap.objs.size + 5 := by rw [Heap.size_push, z4]
  have up1 : ∀ {h : Heap} {o : Obj} {c : Addr} {u : Obj}, h.get? c = some u → (h.push o).get? c = some u := fun e => Heap.get?_push_of_some _ e
  have g5 : (zq5 b1 b2 s.heap l1 l2).get? (zq4 b1 b2 s.heap l1 l2).objs.size = some _ := Heap.get?_push_size _ rfl
  have g4 : (zq5 b1 b2 s.heap l1 l2).get? (zq3 b1 b2 s.heap l1 l2).objs.size = some _ := up1 (Heap.get?_push_size _ rfl)
  have g3 : (zq5 b1 b2 s.heap l1 l2).get? (zq2 b1 b2 s.heap l1 l2).objs.size = some _ := up1 (up1 (Heap.get?_push_size _ rfl))
  have g2 : (zq5 b1 b2 s.heap l1 l2).get? (zq1 b1 s.heap l1).objs.size = some _ := up1 (up1 (up1 (Heap.get?_push_size _ rfl)))
  have g1 : (zq5 b1 b2 s.heap l1 l2).get? s.heap.objs.size = some _ := up1 (up1 (up1 (up1 (Heap.get?_push_size _ rfl))))
  show _ ∧ _
  rw [z2, z3, z4] at g5
  rw [z1, z2] at g3
  rw [z3] at g4
  rw [z1] at g2
  rw [z4]
  refine ⟨⟨_, g5, rfl⟩, h _ ⟨g5, g3, ⟨_, _, g4⟩, ?_, ?_⟩ (fun c o x => up1 (up1 (up1 (up1 (up1 x))))) z5⟩
  · cases b1 <;> exact ⟨_, g1, rfl, rfl⟩
  · cases b2 <;> exact ⟨_, g2, rfl, rfl⟩
theorem pyNext_zip_item {prog : Program} {w : World} {A : Around} {E : Value → Shared → Prop} {s : Shared} {b1 b2 : Bool} {z TI TO i1 i2 l1 l2 : Addr} {k : Nat} {xs ys : Array Value} {x y : Value} {Q : Option Value → Shared → Prop} (D : ZipApart z TI TO i1 i2 l1 l2)
    (S : ZSt b1 b2 z TI TO i1 i2 l1 l2 .none k s.heap) (hl1 : SqAt b1 s.heap l1 xs) (hl2 : SqAt b2 s.heap l2 ys) (hx : xs[k]? = some x) (hy : ys[k]? = some y)
    (hQ : ∀ h', ZSt b1 b2 z TI TO i1 i2 l1 l2 (rawInt s.heap.objs.size) (k + 1) h' → IsPair h' s.heap.objs.size x y → h'.objs.size = s.heap.objs.size + 1 →
      (∀ c o, c ≠ z → c ≠ TO → c ≠ i1 → c ≠ i2 → s.heap.get? c = some o → h'.get? c = some o) → Q (some (.ref s.heap.objs.size)) { s with heap := h' }) : wpAny (model prog w) A (pyNext (.ref z)) Q E s := by
  have hT : s.TypeIs (.ref z) "zip" := ⟨_, S.zip, rfl⟩; unfold pyNext
  refine wpAny_bind (wpAny_attempt (wpAny_callSpecial?_slot (name := Str.ofString "__next__") hT F.slot_zip_next (wpAny_call_entry F.slot_zip_next hT F.entry_zip_next ?_ (F.args_zip_next_1 _))))
  exact zip_item D S hl1 hl2 hx hy fun h' a1 a2 a3 a4 => wpAny_pure (hQ h' a1 a2 a3 a4)
theorem pyNext_zip_end {prog : Program} {w : World} {A : Around} {E : Value → Shared → Prop} {s : Shared} {b1 b2 : Bool} {z TI TO i1 i2 l1 l2 : Addr} {k : Nat} {xs ys : Array Value} {Q : Option Value → Shared → Prop} (hh : A.handled = none) (D : ZipApart z TI TO i1 i2 l1 l2)
    (S : ZSt b1 b2 z TI TO i1 i2 l1 l2 .none k s.heap) (hl1 : SqAt b1 s.heap l1 xs) (hl2 : SqAt b2 s.heap l2 ys) (hend : xs[k]? = none ∨ ys[k]? = none)
    (hQ : ∀ h', (∀ c o, c ≠ z → c ≠ TO → c ≠ i1 → c ≠ i2 → s.heap.get? c = some o → h'.get? c = some o) → Q none { s with heap := h' }) : wpAny (model prog w) A (pyNext (.ref z)) Q E s := by
  have hT : s.TypeIs (.ref z) "zip" := ⟨_, S.zip, rfl⟩; unfold pyNext
  refine wpAny_bind (wpAny_attempt (wpAny_callSpecial?_slot (name := Str.ofString "__next__") hT F.slot_zip_next (wpAny_call_entry F.slot_zip_next hT F.entry_zip_next ?_ (F.args_zip_next_1 _))))
  refine zip_end hh D S hl1 hl2 hend fun h' e hk ⟨o, ho, hc⟩ => ?_
  exact wpAny_bind (wpAny_isInstance (T := "StopIteration") (b := true) ⟨o, ho, hc⟩ isSubtype_stop (wpAny_pure (hQ _ hk)))
end L2
namespace L2
open PySem PySem.Spec PyProof.Rows
section
variable {prog : Program} {w : World} {A : Around} {R : Result → Shared → Prop} {s : Shared}
abbrev E00 : Value → Shared → Prop := fun _ _ => False
abbrev ifsOf (ifs : List Expr) (env : Env) : Sem Bool :=
  forIn ifs true fun c r => if r = true then do
      let ok ← isTrue c env (eval c env)
      pure (ForInStep.yield ok)
    else pure (ForInStep.yield r)
theorem comp_turns {elt tg iter : Expr} {ifs : List Expr} {scope : Scope} {pos : Pos} {it acc : Value} {env : Env} (J : Nat → Shared → Prop)
    (turn : ∀ n s, J n s → wpAny (model prog w) A (pyNext it) (fun r s1 => match r with
      | none => R (.ok .next) s1
      | some v => wpAny (model prog w) A (letOwnedTupleGo tg it v) (fun _ s2 => wpAny (model prog w) A (assign tg env v) (fun _ s3 =>
          wpAny (model prog w) A (ifsOf ifs env) (fun ok s4 =>
            if ok = true then
              wpAny (model prog w) A (eval elt env) (fun x s5 => wpAny (model prog w) A (call (.builtin "list.append") [acc, x]) (fun _ s6 => ∃ m, m < n ∧ J m s6) E00 s5) E00 s4
            else ∃ m, m < n ∧ J m s4) E00 s3) E00 s2) E00 s1) E00 s)
    (n : Nat) (h : J n s) : codeAny (model prog w) A (.compLoop (.ListComp elt [⟨tg, iter, ifs, 0⟩] scope pos) 0 it acc env) R s := by
  have fl : ∀ {α : Type} {t : Sem α} {Q : α → Shared → Prop} {E : Value → Shared → Prop} {s : Shared}, wpAny (model prog w) A t Q E00 s → wpAny (model prog w) A t Q E s := fun h => wpAny_mono h (fun _ _ q => q) fun _ _ z => z.elim
  refine codeAny_loop rfl J (fun n s hJ => ?_) n h
  show wpAny _ A ((compTurn (.ListComp elt [⟨tg, iter, ifs, 0⟩] scope pos) 0 it acc env).onRaise _) _ _ s
  refine wpAny_noted ?_
  rw [compTurn_list]
  refine wpAny_bind (wpAny_standAt (wpAny_bind (thn (fl (turn n s hJ)) fun r s1 h1 => ?_)))
  cases r with
  | none => exact wpAny_pure h1
  | some v =>
    refine wpAny_bind (thn (fl h1) fun _ s2 h2 => ?_)
    refine wpAny_bind (thn (fl h2) fun _ s3 h3 => ?_)
    refine wpAny_bind (thn (fl h3) fun ok s4 h4 => ?_)
    cases ok with
    | false => exact wpAny_pure ⟨rfl, h4⟩
    | true =>
      refine wpAny_bind (wpAny_bind (thn (fl h4) fun x s5 h5 => ?_))
      exact wpAny_bind (thn (fl h5) fun _ s6 h6 => wpAny_pure (wpAny_pure ⟨rfl, h6⟩))
end
def blk (X : Cx) (N : List Str) (scope : Scope) (cl : List (Str × Addr)) (C : Addr) (s : Shared) (H : Hp) (fp : List Addr) : Cx :=
  { X with N := N, s₀ := s, H₀ := H, env := compEnvC scope cl C X.env, outer := X.stack, ex := fp, fn := fun _ => false, pn := [], xe := fun _ _ => False }
structure Blk (X : Cx) (N : List Str) (scope : Scope) (cl : List (Str × Addr)) (mp : List (Option Nat)) : Prop where
  clos : closureFor scope X.env = pure cl
  cell : ∀ y ∈ scope.names, y.2 ≠ .cell
  kind : scope.kind = .function
  nms : ∀ y ∈ scope.names, y.2 = .local → scope.names.lookup y.1 = some .local
  nd : N.Nodup
  sub : ∀ x c, cl.lookup x = some c → X.env.cells.lookup x = some c
  has : ∀ x, ((relabel scope X.env).names.lookup x = some .cell ∨ (relabel scope X.env).names.lookup x = some .free) → ∃ c, cl.lookup x = some c
  len : mp.length = N.length
  map : ∀ (i j : Nat) (x : Str), mp[i]? = some (some j) → N[i]? = some x → X.N[j]? = some x ∧ (X.env.scope.names.lookup x = some .cell ∨ X.env.scope.names.lookup x = some .free) ∧
    ((relabel scope X.env).names.lookup x = some .cell ∨ (relabel scope X.env).names.lookup x = some .free)
def st0 (mp : List (Option Nat)) (σ : St) : St := mp.map fun o => match o with
  | some j => (σ[j]?).getD none
  | none => none
section
variable {X : Cx} {pins : List (Addr × Obj)} {σ : St} {H : Hp} {s : Shared} {N : List Str} {scope : Scope} {cl : List (Str × Addr)} {mp : List (Option Nat)} {fp : List Addr}
theorem blk_inv (B : Blk X N scope cl mp) (I : Inv X pins σ H s) (f : ∀ b ∈ fp, FpOk X pins H b) (lt : ∀ b ∈ fp, b < s.heap.objs.size) {h1 : Heap} {t' : Nat} (hns : h1.Ns s.heap.objs.size (fun _ => none))
    (k : ∀ b o, s.heap.get? b = some o → h1.get? b = some o) : Inv (blk X N scope cl s.heap.objs.size s H fp) [] (st0 mp σ) H { s with heap := h1, toks := t' } := by
  have fin : ∀ b ∈ fp, b ∉ frs X.stack := fun b hb z => by
    obtain ⟨_, f1, f2, _⟩ := f b hb
    rcases List.mem_cons.mp (I.stkSub b z) with e | e
    · exact f1 e
    · exact f2 e
  have ok : (blk X N scope cl s.heap.objs.size s H fp).Ok := by
    refine ⟨I.ok.mod, B.kind, I.ok.glob, I.ok.blt, Nat.le_refl _, fun x y c h1 h2 => I.ok.inj x y c (B.sub x c h1) (B.sub y c h2), fun x hx => B.has x hx, (fun x c hf => nomatch (show false = true from hf)), I.ok.hd, I.ok.frames, .inl rfl, fun b hb => ?_, I.bs, Nat.le_trans I.ok.bsz I.sz, fun b o e hb => ?_, fin, I.stack, I.stkFree⟩
    · obtain ⟨f0, f1, f2, f3, f4, f5⟩ := f b hb
      exact ⟨Nat.ne_of_lt (lt b hb), fun x c e => f4 x c (B.sub x c e)⟩
    · obtain ⟨f0, f1, f2, f3, f4, f5⟩ := f b hb
      rcases f3 with z | z
      · exact I.ok.noex b o e z
      · exact absurd (Nat.lt_of_lt_of_le (Heap.lt_size e) (Nat.le_trans I.ok.bsz z)) (Nat.lt_irrefl _)
  refine ⟨ok, rfl, I.bare, Un.kept k, ⟨_, hns, fun i x v e1 e2 e3 => ?_⟩, fun x c e => ?_, I.hok.fresh (Nat.le_refl _), fun x c e => I.freeC x c (B.sub x c e), fun p hp => absurd (show p ∈ ([] : List (Addr × Obj)) from hp) (by simp), I.hok.kept k, ?_⟩
  · have e2' : ∃ j, mp[i]? = some (some j) ∧ σ[j]? = some (some v) := by
      unfold st0 at e2
      rw [List.getElem?_map] at e2
      cases q : mp[i]? with
      | none => rw [q] at e2; cases e2
      | some o =>
        rw [q] at e2
        cases o with
        | none => cases e2
        | some j =>
          refine ⟨j, rfl, ?_⟩
          have e2'' : (σ[j]?).getD none = some v := Option.some.inj e2
          cases r : σ[j]? with
          | none => rw [r] at e2''; cases e2''
          | some z => rw [r] at e2''; exact congrArg some e2''
    obtain ⟨j, hj, hv⟩ := e2'
    obtain ⟨hN, ho, hi⟩ := B.map i j x hj e1
    obtain ⟨m, hm, hl⟩ := I.loc
    obtain ⟨u, r, l⟩ := hl j x v hN hv (ho.elim (fun z => .inr (.inl z)) fun z => .inr (.inr z))
    refine ⟨u, r, .inr ⟨hi, ?_⟩⟩
    rcases l with ⟨z, _⟩ | ⟨_, c, ec, z⟩
    · have z' : X.env.scope.names.lookup x = some .local := z
      rcases ho with ho | ho
      · rw [z'] at ho; cases ho
      · rw [z'] at ho; cases ho
    · obtain ⟨c', ec'⟩ := B.has x hi
      have q := B.sub x c' ec'
      rw [ec] at q; cases q
      obtain ⟨o, eo, d⟩ := z
      exact ⟨c, ec', o, k c o eo, d⟩
  · obtain ⟨v, o, eo, d⟩ := I.cell x c (B.sub x c e)
    exact ⟨v, o, k c o eo, d⟩
  · show (st0 mp σ).length = N.length
    unfold st0
    rw [List.length_map]; exact B.len
theorem blk_out {N' : List Str} {C : Addr} {H' : Hp} {σ' : St} {s' : Shared} {h' : Heap} (I : Inv X pins σ H s) (f : ∀ b ∈ fp, FpOk X pins H b) (hC : s.heap.objs.size ≤ C)
    (J : Inv (blk X N' scope cl C s H fp) [] σ' H' s') (sb : Heap.SameBut C s'.heap h') : Inv X pins σ H' { s' with heap := h' } := by
  have ub : Un (frs X.stack) fp H H' s.heap s'.heap := J.base
  have ne : ∀ b o, s.heap.get? b = some o → b ≠ C := fun b o e => Nat.ne_of_lt (Nat.lt_of_lt_of_le (Heap.lt_size e) hC)
  have u : Un (frs X.stack) fp H H' s.heap h' := by
    refine ⟨fun b o e n hb hx => (sb.2 b (ne b o e)).trans (ub.keep b o e n hb hx), fun b o e n hb hx => ?_, ub.free, fun b o e hx => ?_, ub.tups, ub.frzs, ub.tbls⟩
    · obtain ⟨sl, q⟩ := ub.slot b o e n hb hx
      exact ⟨sl, (sb.2 b (ne b o e)).trans q⟩
    · obtain ⟨o', q⟩ := ub.there b o e hx
      exact ⟨o', (sb.2 b (ne b o e)).trans q⟩
  have fC : H' C = none := J.free
  have ok' : HOk X.prog X.w H' h' := fun b ob e => by
    have jok : HOk X.prog X.w H' s'.heap := J.hok
    refine (jok b ob e).stay (fun c v hc q => (sb.2 c ?_).trans q) (fun _ q => q) fun _ _ q => q
    rintro rfl
    rcases hc with rfl | hc
    · rw [fC] at e; cases e
    · rw [fC] at hc; cases hc
  refine I.call' (s' := { s' with heap := h' }) (ch := fp) ?_ u ok' J.bare fun b hb => ?_
  · exact J.os
  · obtain ⟨f0, f1, f2, f3, f4, f5⟩ := f b hb
    exact ⟨f3, f1, f4, f5⟩
end
def PTs (X : Cx) (ifs : List Expr) (t : TT) : Prop :=
  ∀ (pins : List (Addr × Obj)) (s : Shared) (σ : St) (H : Hp) (Q : Bool → Hp → Prop), Inv X pins σ H s → t σ H Q → wpAny (model X.prog X.w) X.A (ifsOf ifs X.env) (TP X pins σ Q) X.xe s
def tYes : TT := fun _ H Q => Q true H
theorem pts_nil {X : Cx} : PTs X [] tYes := fun _ _ _ H _ I h => wpAny_pure ⟨H, I, h⟩
theorem pts_one {X : Cx} {c : Expr} {t : TT} (h : PT X c t) : PTs X [c] t := fun pins s σ H Q I hw => wpAny_tests_one (h pins s σ H Q I hw)
@[irreducible] def tComp (mp : List (Option Nat)) (wi : TI) (g : TG) (tc : TT) (te : TE) : TE := fun σ H Q => wi σ H fun J H1 => ∀ D, H1 D = none → ∃ W : Nat → Nat → List V → St → Hp → Prop,
  (∃ m, W 0 m [] (st0 mp σ) (upd H1 D (.lst []))) ∧ ∀ i m ys σ' H', W i m ys σ' H' → H' D = some (.lst ys) ∧
    ((J.stop i H' ∧ Q (.ref D) H') ∨ (J.go i H' ∧ ys.length < sizeLine ∧ ∀ x H2, J.yld i H' x H2 → g x σ' H2 fun σ2 H3 => tc σ2 H3 fun b H4 =>
      if b = true then te σ2 H4 fun v H5 => H5 D = some (.lst ys) ∧ ∃ m', m' < m ∧ W (i + 1) m' (ys ++ [v]) σ2 (upd H5 D (.lst (ys ++ [v])))
      else ∃ m', m' < m ∧ W (i + 1) m' ys σ2 H4))
def CompW (J : It) (D : Addr) (g : TG) (tc : TT) (te : TE) (Qf : Hp → Prop) (W : Nat → Nat → List V → St → Hp → Prop) : Prop := ∀ i m ys σ' H', W i m ys σ' H' → H' D = some (.lst ys) ∧
    ((J.stop i H' ∧ Qf H') ∨ (J.go i H' ∧ ys.length < sizeLine ∧ ∀ x H2, J.yld i H' x H2 → g x σ' H2 fun σ2 H3 => tc σ2 H3 fun b H4 =>
      if b = true then te σ2 H4 fun v H5 => H5 D = some (.lst ys) ∧ ∃ m', m' < m ∧ W (i + 1) m' (ys ++ [v]) σ2 (upd H5 D (.lst (ys ++ [v])))
      else ∃ m', m' < m ∧ W (i + 1) m' ys σ2 H4))
theorem comp_block {X : Cx} {N : List Str} {scope : Scope} {cl : List (Str × Addr)} {mp : List (Option Nat)} {elt tg iter : Expr} {ifs : List Expr} {g : TG} {tc : TT} {te : TE} {pos : Pos} (B : Blk X N scope cl mp) (hc : X.calm = true)
    (hg : ∀ C s H fp, PG (blk X N scope cl C s H fp) tg g) (ht : ∀ C s H fp, PTs (blk X N scope cl C s H fp) ifs tc) (he : ∀ C s H fp, PE (blk X N scope cl C s H fp) elt te)
    {pins : List (Addr × Obj)} {σ : St} {HD : Hp} {s : Shared} {fp : List Addr} {it D : Addr} {tn : Nat → Heap → Prop} {J : It} {Qf : Hp → Prop} {W : Nat → Nat → List V → St → Hp → Prop} {m0 : Nat} {E : Value → Shared → Prop} {RR : Addr → Result → Shared → Prop}
    (I : Inv X pins σ HD s) (f : ∀ b ∈ fp, FpOk X pins HD b) (T : Turn X.prog X.w X.K tg J fp it tn) (st : tn 0 s.heap) (w0 : W 0 m0 [] (st0 mp σ) HD) (turn : CompW J D g tc te Qf W)
    (hRR : ∀ C H' σ' s', s.heap.objs.size ≤ C → Inv (blk X N scope cl C s HD fp) [] σ' H' s' → Qf H' → RR C (.ok .next) s') :
    wpAny (model X.prog X.w) X.A (newFunctionEnv scope X.env.globals cl [] X.env.qual none .none (some X.env)) (fun cenv s4 =>
      codeAny (model X.prog X.w) X.A (.compStart (.ListComp elt [⟨tg, iter, ifs, 0⟩] scope pos) 0 (.ref it) (.ref D) { cenv with scope := relabel scope X.env }) (RR cenv.locals) s4) E s := by
  have lt : ∀ b ∈ fp, b < s.heap.objs.size := fun b hb => let ⟨o, e, _⟩ := T.obj _ _ st b hb; Heap.lt_size e
  refine wpAny_newFunctionEnv B.cell (by intro y hy; simp at hy) (fun h3 hns hsb => ?_) B.kind
  have k3 : ∀ b o, s.heap.get? b = some o → h3.get? b = some o := fun b o e => (hsb.2 b (Nat.ne_of_lt (Heap.lt_size e))).trans (Heap.get?_push_of_some _ e)
  have JB := blk_inv (t' := s.toks + ([] : List (Str × Value)).length) B I f lt hns k3
  have st3 : tn 0 h3 := T.keep _ _ _ st fun b _ o e => k3 b o e
  have fin : ∀ b ∈ fp, b ∉ frs X.stack := fun b hb z => by
    obtain ⟨_, f1, f2, _⟩ := f b hb
    rcases List.mem_cons.mp (I.stkSub b z) with e | e
    · exact f1 e
    · exact f2 e
  have stat : ∀ {H' : Hp}, (∀ b ∈ fp, H' b = none) → ∀ b ∈ fp, FpOk (blk X N scope cl s.heap.objs.size s HD fp) [] H' b := fun {H'} hn b hb => by
    obtain ⟨f0, f1, f2, f3, f4, f5⟩ := f b hb
    exact ⟨hn b hb, Nat.ne_of_lt (lt b hb), fin b hb, .inl hb, fun x c e => f4 x c (B.sub x c e), fun p hp => absurd (show p ∈ ([] : List (Addr × Obj)) from hp) (by simp)⟩
  have loop : codeAny (model X.prog X.w) X.A (.compLoop (.ListComp elt [⟨tg, iter, ifs, 0⟩] scope pos) 0 (.ref it) (.ref D) (compEnvC scope cl s.heap.objs.size X.env)) (RR s.heap.objs.size) { s with heap := h3, toks := s.toks + ([] : List (Str × Value)).length } := by
    refine comp_turns (fun n s' => ∃ i ys σ' H', Inv (blk X N scope cl s.heap.objs.size s HD fp) [] σ' H' s' ∧ tn i s'.heap ∧ (∀ b ∈ fp, H' b = none) ∧ W i n ys σ' H') ?_ m0 ⟨0, [], _, HD, JB, st3, fun b hb => (f b hb).1, w0⟩
    rintro n s5 ⟨i, ys, σ5, H5, I5, st5, fr5, w5⟩
    obtain ⟨hD, tr⟩ := turn i n ys σ5 H5 w5
    rcases tr with ⟨stop, qn⟩ | ⟨go, hz, step⟩
    · refine thn (T.done (blk X N scope cl s.heap.objs.size s HD fp) rfl rfl rfl hc i [] s5 σ5 H5 E00 I5 (stat fr5) st5 stop) fun r s6 ⟨hr, I6⟩ => ?_
      subst hr
      exact hRR _ H5 σ5 s6 (Nat.le_refl _) I6 qn
    · refine thn (T.item (blk X N scope cl s.heap.objs.size s HD fp) rfl rfl rfl hc i [] s5 σ5 H5 E00 I5 (stat fr5) st5 go) fun r s6 ⟨u, hr, h6⟩ => ?_
      subst hr
      refine thn h6 fun _ s7 ⟨x, H7, I7, r7, y7, st7, fr7⟩ => ?_
      have I7' := I7.pinned (stat fr7) (T.obj _ _ st7)
      have again : ∀ {ys' : List V} {σ8 : St} {H8 : Hp} {s8 : Shared} {m' : Nat}, Inv (blk X N scope cl s.heap.objs.size s HD fp) ([] ++ pinsAt fp s7.heap) σ8 H8 s8 → m' < n → W (i + 1) m' ys' σ8 H8 →
          ∃ m, m < n ∧ ∃ i ys σ' H', Inv (blk X N scope cl s.heap.objs.size s HD fp) [] σ' H' s8 ∧ tn i s8.heap ∧ (∀ b ∈ fp, H' b = none) ∧ W i m ys σ' H' := fun {ys' σ8 H8 s8 m'} I8 hm w8 => by
        refine ⟨m', hm, i + 1, ys', σ8, H8, I8.unpinned, T.keep _ _ _ st7 fun b hb o e => (I8.pin (b, o) (List.mem_append_right _ (List.mem_append_right _ (mem_pinsAt hb e)))).1, fun b hb => ?_, w8⟩
        obtain ⟨o, e, d⟩ := T.obj _ _ st7 b hb
        exact (I8.pin (b, o) (List.mem_append_right _ (List.mem_append_right _ (mem_pinsAt hb e)))).2.1
      refine thn (hg _ _ _ _ _ s7 σ5 H7 x u _ I7' r7 (step x H7 y7)) fun _ s8 ⟨σ8, H8, I8, q8⟩ => ?_
      refine thn (ht _ _ _ _ _ s8 σ8 H8 _ I8 q8) fun ok s9 ⟨H9, I9, q9⟩ => ?_
      cases ok with
      | false =>
        rw [if_neg (by decide)] at q9
        obtain ⟨m', hm, w9⟩ := q9
        rw [if_neg (by decide)]
        exact again I9 hm w9
      | true =>
        rw [if_pos rfl] at q9
        rw [if_pos rfl]
        refine thn (he _ _ _ _ _ s9 σ8 H9 _ I9 q9) fun xv s10 ⟨v, H10, I10, r10, hD10, m', hm, w'⟩ => ?_
        refine thn (mt_append _ s10 σ8 H10 (.ref D) [v] (.ref D) [xv] (fun _ H' => H' = upd H10 D (.lst (ys ++ [v]))) I10 rfl (.cons r10 .nil) ⟨D, ys, v, rfl, rfl, hD10, hz, rfl⟩) fun _ s11 ⟨_, H11, I11, _, e11⟩ => ?_
        subst e11
        exact again I11 hm w'
  exact codeAny_compStart_list loop (T.self _ 0 _ _ _ st3 loop)
theorem pe_comp {X : Cx} {N : List Str} {scope : Scope} {cl : List (Str × Addr)} {mp : List (Option Nat)} {elt tg iter : Expr} {ifs : List Expr} {wi : TI} {g : TG} {tc : TT} {te : TE} {pos : Pos} (B : Blk X N scope cl mp) (hc : X.calm = true)
    (hi : PI X tg iter wi) (hg : ∀ C s H fp, PG (blk X N scope cl C s H fp) tg g) (ht : ∀ C s H fp, PTs (blk X N scope cl C s H fp) ifs tc) (he : ∀ C s H fp, PE (blk X N scope cl C s H fp) elt te)
    (hs : ∀ x, foldedSetIterable iter X.env x = pure x := by intro _; rfl) : PE X (.ListComp elt [⟨tg, iter, ifs, 0⟩] scope pos) (tComp mp wi g tc te) := by
  intro pins s σ H Q I h
  unfold tComp at h
  rw [eval_ListComp]
  refine wpAny_comprehension_free (use := none) (cl := cl) rfl hs B.clos B.kind B.nms (thn (hi pins s σ H _ I h) fun v s1 h1 => thn h1 fun itv s2 h2 => ?_)
  obtain ⟨it, fp, tn, J, H2, rfl, I2, T, st2, f2, q⟩ := h2
  have lt2 : ∀ b ∈ fp, b < s2.heap.objs.size := fun b hb => let ⟨o, e, _⟩ := T.obj _ _ st2 b hb; Heap.lt_size e
  obtain ⟨W, ⟨m0, w0⟩, turn⟩ := q _ I2.fresh
  have ID := I2.lnew (ys := []) (its := []) (t' := s2.toks) .nil (Nat.zero_le _)
  have fD' : ∀ b ∈ fp, FpOk X pins (upd H2 s2.heap.objs.size (.lst [])) b := fun b hb => by
    obtain ⟨f0, r⟩ := f2 b hb
    exact ⟨by rw [upd_ne (Nat.ne_of_lt (lt2 b hb))]; exact f0, r⟩
  refine wpAny_newObj_type (comp_block B hc hg ht he ID fD' T (T.keep _ _ _ st2 fun b _ o e => Heap.get?_push_of_some _ e) w0 turn fun C H' σ' s' hC J' qf => ?_)
  obtain ⟨m, hm, _⟩ := J'.loc
  exact ⟨m, hm, fun h' sb => ⟨.ref _, H', blk_out ID fD' hC J' sb, rfl, qf⟩⟩
end L2
namespace L2
open PySem PySem.Spec PyProof.Rows
def SqX (K : PySem.W.Frag) (b : Bool) (H : Hp) (a : Addr) (xs : List V) : Prop := match b with
  | true => SqT K H a xs
  | false => SqL K H a xs
section
variable {X : Cx} {pins : List (Addr × Obj)} {σ : St} {H : Hp} {s : Shared} {b : Bool} {a : Addr} {xs ys : List V}
theorem Inv.sq (I : Inv X pins σ H s) (h : SqX X.K b H a xs) : ∃ its : List Value, Vals xs its ∧ SqAt b s.heap a its.toArray := by
  cases b with
  | true => obtain ⟨its, rv, p, _⟩ := I.tuple h; exact ⟨its, rv, show s.heap.IsTuple a its.toArray from p⟩
  | false => obtain ⟨its, rv, p, _⟩ := I.list h; exact ⟨its, rv, p.isList⟩
theorem Inv.sq_inj (I : Inv X pins σ H s) (h : SqX X.K b H a xs) (h' : SqX X.K b H a ys) : xs = ys := by
  cases b with
  | true => exact I.tuple_inj h h'
  | false => exact I.list_inj h h'
theorem Inv.turnedL {ch : List Addr} {h' : Heap} {t' : Nat} (I : Inv X pins σ H s) (hf : ∀ b ∈ ch, FpOk X pins H b) (k : ∀ b o, b ∉ ch → s.heap.get? b = some o → h'.get? b = some o) : Inv X pins σ H { s with heap := h', toks := t' } := by
  have nch : ∀ b u, H b = some u → b ∉ ch := fun b u e z => by have q := (hf b z).1; rw [q] at e; cases e
  refine I.step (g' := s.gens) (d' := s.drawn) (ch := ch) (fun b hb => ?_) (fun b o _ _ hc e _ => k b o hc e) (fun b o _ _ hc e _ => ⟨o.slots, k b o hc e⟩) (fun _ _ _ _ n => n)
    (fun b o hc e => ⟨o, k b o hc e⟩) (fun _ _ e => e) (fun _ _ _ e => e) (fun b ps e => ⟨#[], by rw [e]; simp⟩) (fun m hm => ?_) (fun b u e => ?_) I.bare
  · obtain ⟨f0, f1, f2, f3, f4, f5⟩ := hf b hb
    exact ⟨f3, f1, f4, f5⟩
  · obtain ⟨o, es, ep, ho, r⟩ := hm
    exact ⟨o, es, ep, k _ o (fun z => (hf _ z).2.1 rfl) ho, r⟩
  · refine (I.hok b u e).stay (fun c v hc q => k c v ?_ q) (fun _ q => q) fun _ _ q => q
    rcases hc with z | z
    · rw [z]; exact nch b u e
    · exact nch c _ z
theorem Inv.drawn {ch : List Addr} {h' : Heap} {t' : Nat} {p : Addr} {o : HO} (I : Inv X pins σ H s) (hf : ∀ b ∈ ch, FpOk X pins H b) (k : ∀ b o, b ∉ ch → s.heap.get? b = some o → h'.get? b = some o) (hp : s.heap.objs.size ≤ p)
    (new : ObjOk X.prog X.w (upd H p o) h' p o) : Inv X pins σ (upd H p o) { s with heap := h', toks := t' } := by
  have nch : ∀ b u, H b = some u → b ∉ ch := fun b u e z => by have q := (hf b z).1; rw [q] at e; cases e
  have hn : H p = none := I.hok.fresh hp
  have np : ∀ b u, s.heap.get? b = some u → b ≠ p := fun b u e => Nat.ne_of_lt (Nat.lt_of_lt_of_le (Heap.lt_size e) hp)
  refine I.step (g' := s.gens) (d' := s.drawn) (ch := ch) (fun b hb => ?_) (fun b o _ _ hc e _ => k b o hc e) (fun b o _ _ hc e _ => ⟨o.slots, k b o hc e⟩) (fun b o _ e n => by rw [upd_ne (np b o e)]; exact n)
    (fun b o hc e => ⟨o, k b o hc e⟩) (fun b xs e => by rw [upd_ne (ne_of_none e hn)]; exact e) (fun b o u e => by rw [upd_ne (ne_of_none e hn)]; exact e) (fun b ps e => ⟨#[], by rw [upd_ne (ne_of_none e hn), e]; simp⟩) (fun m hm => ?_) (fun b u e => ?_) I.bare
  · obtain ⟨f0, f1, f2, f3, f4, f5⟩ := hf b hb
    exact ⟨f3, f1, f4, f5⟩
  · obtain ⟨o, es, ep, ho, r⟩ := hm
    exact ⟨o, es, ep, k _ o (fun z => (hf _ z).2.1 rfl) ho, r⟩
  · by_cases hb : b = p
    · subst hb; rw [upd_same] at e; cases e; exact new
    · rw [upd_ne hb] at e
      refine (I.hok b u e).stay (fun c v hc q => k c v ?_ q) (fun c q => by rw [upd_ne (ne_of_none q hn)]; exact q) fun c xs q => by rw [upd_ne (ne_of_none q hn)]; exact q
      rcases hc with z | z
      · rw [z]; exact nch b u e
      · exact nch c _ z
end
def Itz (K : PySem.W.Frag) (b1 b2 : Bool) (a1 a2 : Addr) : It :=
  ⟨fun i H => ∃ xs ys x y, SqX K b1 H a1 xs ∧ SqX K b2 H a2 ys ∧ xs[i]? = some x ∧ ys[i]? = some y,
   fun i H v H' => ∃ p x y, H p = none ∧ v = .ref p ∧ H' = upd H p (.tup [x, y]) ∧ (∀ xs, SqX K b1 H a1 xs → xs[i]? = some x) ∧ ∀ ys, SqX K b2 H a2 ys → ys[i]? = some y,
   fun i H => ∃ xs ys, SqX K b1 H a1 xs ∧ SqX K b2 H a2 ys ∧ (xs.length ≤ i ∨ ys.length ≤ i)⟩
theorem turn_zip {P : Program} {w : World} {K : PySem.W.Frag} {es : List Expr} {ek : Nat} {pos : Pos} (b1 b2 : Bool) {z TI TO i1 i2 a1 a2 : Addr} (D : ZipApart z TI TO i1 i2 a1 a2) :
    Turn P w K (.Tuple es ek pos) (Itz K b1 b2 a1 a2) [z, TI, TO, i1, i2] z (fun i h => ZSt b1 b2 z TI TO i1 i2 a1 a2 .none i h) where
  mem := by simp
  obj := fun i h st b hb => by
    simp only [List.mem_cons, List.not_mem_nil, or_false] at hb
    rcases hb with rfl | rfl | rfl | rfl | rfl
    · exact ⟨_, st.zip, fun v q => by cases q⟩
    · exact ⟨_, st.ti, fun v q => by cases q⟩
    · obtain ⟨a, b, e⟩ := st.to
      exact ⟨_, e, fun v q => by cases q⟩
    · exact st.it1.obj
    · exact st.it2.obj
  keep := fun i h h' st k => st.at k
  item := by
    intro X hP hw hK hc i pins s σ H E I hf st hg
    subst hP hw hK
    obtain ⟨xs, ys, x, y, h1, h2, hx, hy⟩ := hg
    obtain ⟨us, ru, q1⟩ := I.sq h1
    obtain ⟨ws, rw', q2⟩ := I.sq h2
    obtain ⟨u, eu, rx⟩ := ru.get hx
    obtain ⟨v, ev, ry⟩ := rw'.get hy
    refine pyNext_zip_item D st q1 q2 (x := u) (y := v) (by simpa using eu) (by simpa using ev) fun h' S p8 s8 k => ?_
    refine ⟨_, rfl, wpAny_letOwnedTupleGo_zip S.zip fun h'' z' e' => ?_⟩
    have zlt : z < s.heap.objs.size := Heap.lt_size st.zip
    have zp : s.heap.objs.size ≠ z := Nat.ne_of_gt zlt
    have kk : ∀ b o, b ∉ [z, TO, i1, i2] → s.heap.get? b = some o → h''.get? b = some o := fun b o hb e => by
      simp only [List.mem_cons, List.not_mem_nil, or_false, not_or] at hb
      exact e'.extBut _ _ hb.1 (k b o hb.1 hb.2.1 hb.2.2.1 hb.2.2.2 e)
    have pp : IsPair h'' s.heap.objs.size u v := e'.extBut _ _ zp p8
    refine ⟨.ref s.heap.objs.size, upd H s.heap.objs.size (.tup [x, y]), I.drawn (t' := s.toks) (ch := [z, TO, i1, i2]) (fun b hb => hf b ?_) kk (Nat.le_refl _) ?_, rfl, ⟨_, x, y, I.fresh, rfl, rfl, fun xs' hq => ?_, fun ys' hq => ?_⟩, ?_, fun b hb => ?_⟩
    · simp only [List.mem_cons, List.not_mem_nil, or_false] at hb ⊢
      rcases hb with rfl | rfl | rfl | rfl <;> simp
    · exact ⟨by show 2 ≤ sizeLine; rw [sizeLine_eq]; decide, [u, v], .cons rx (.cons ry .nil), ⟨_, pp, rfl, _, rfl⟩⟩
    · rw [I.sq_inj hq h1]; exact hx
    · rw [I.sq_inj hq h2]; exact hy
    · exact ⟨z', e'.extBut _ _ D.TIz S.ti, (let ⟨a, b, e⟩ := S.to; ⟨a, b, e'.extBut _ _ D.TOz e⟩), S.it1.at fun o q => e'.extBut _ _ D.i1z q, S.it2.at fun o q => e'.extBut _ _ D.i2z q⟩
    · obtain ⟨o, e, _⟩ : ∃ o, s.heap.get? b = some o ∧ ∀ v, o.data ≠ .cell v := by
        simp only [List.mem_cons, List.not_mem_nil, or_false] at hb
        rcases hb with rfl | rfl | rfl | rfl | rfl
        · exact ⟨_, st.zip, fun v q => by cases q⟩
        · exact ⟨_, st.ti, fun v q => by cases q⟩
        · obtain ⟨a, b, e⟩ := st.to
          exact ⟨_, e, fun v q => by cases q⟩
        · exact st.it1.obj
        · exact st.it2.obj
      rw [upd_ne (Nat.ne_of_lt (Heap.lt_size e))]
      exact (hf b hb).1
  done := by
    intro X hP hw hK hc i pins s σ H E I hf st hg
    subst hP hw hK
    obtain ⟨xs, ys, h1, h2, hl⟩ := hg
    obtain ⟨us, ru, q1⟩ := I.sq h1
    obtain ⟨ws, rw', q2⟩ := I.sq h2
    have l1 := ru.length
    have l2 := rw'.length
    refine pyNext_zip_end (I.ok.hd hc) D st q1 q2 ?_ fun h' k => ⟨rfl, I.turnedL (t' := s.toks) (ch := [z, TO, i1, i2]) (fun b hb => hf b ?_) fun b o hb e => ?_⟩
    · rcases hl with hl | hl
      · exact .inl (by simp; omega)
      · exact .inr (by simp; omega)
    · simp only [List.mem_cons, List.not_mem_nil, or_false] at hb ⊢
      rcases hb with rfl | rfl | rfl | rfl <;> simp
    · simp only [List.mem_cons, List.not_mem_nil, or_false, not_or] at hb
      exact k b o hb.1 hb.2.1 hb.2.2.1 hb.2.2.2 e
  self := fun _ _ _ _ _ st h => wpAny_pyIter_zip st.zip h
def iZip (K : PySem.W.Frag) (b1 b2 : Bool) (ta : TA) : TI := fun σ H R => ta σ H fun vs H1 => ∃ a1 a2, vs = [.ref a1, .ref a2] ∧ (∃ xs, SqX K b1 H1 a1 xs) ∧ (∃ ys, SqX K b2 H1 a2 ys) ∧ R (Itz K b1 b2 a1 a2) H1
theorem pi_zip {X : Cx} {es : List Expr} {ek : Nat} {tpos p pos : Pos} (b1 b2 : Bool) {e1 e2 : Expr} {ta : TA} (hg : Gl X "zip") (hm : X.mg "zip" = none) (ha : PA X [e1, e2] ta)
    (he : starEach [e1, e2] X.env = (false, eval e1 X.env) :: starEach [e2] X.env := by rfl) (hpl : (backTo pos (starEach [e2] X.env)).any (·.1) = false := by rfl) :
    PI X (.Tuple es ek tpos) (.Call (.Name "zip" p) [e1, e2] [] pos) (iZip X.K b1 b2 ta) := by
  intro pins s σ H R I h
  refine wpAny_Call_Name_kw (ld_blt I hg hm boot_zip ?_ (by decide) (by decide))
  refine PyProof.Rows.callWith_type1 (thn (ha pos pins s σ H _ I h) fun us s1 ⟨vs, H1, I1, r1, a1, a2, ev, ⟨xs, h1⟩, ⟨ys, h2⟩, q⟩ => ?_) he hpl
  subst ev
  obtain ⟨u1, u2, rfl, e1', e2'⟩ := r1.two
  cases e1'; cases e2'
  obtain ⟨us, ru, q1⟩ := I1.sq h1
  obtain ⟨ws, rw', q2⟩ := I1.sq h2
  have lt1 : a1 < s1.heap.objs.size := by cases b1 <;> (obtain ⟨o, e, _⟩ := q1; exact Heap.lt_size e)
  have lt2 : a2 < s1.heap.objs.size := by cases b2 <;> (obtain ⟨o, e, _⟩ := q2; exact Heap.lt_size e)
  refine call_zip q1 q2 fun h' S k z5 => wpAny_pyIter_zip S.zip ?_
  have I2 : Inv X pins σ H1 { s1 with heap := h' } := I1.kept (t' := s1.toks) k
  refine ⟨s1.heap.objs.size + 4, [s1.heap.objs.size + 4, s1.heap.objs.size + 2, s1.heap.objs.size + 3, s1.heap.objs.size, s1.heap.objs.size + 1], _, _, H1, rfl, I2, turn_zip b1 b2 (zipApart_new lt1 lt2), S, fun b hb => ?_, q⟩
  have hb' : s1.heap.objs.size ≤ b := by
    simp only [List.mem_cons, List.not_mem_nil, or_false] at hb
    rcases hb with rfl | rfl | rfl | rfl | rfl
    · exact Nat.le_add_right _ 4
    · exact Nat.le_add_right _ 2
    · exact Nat.le_add_right _ 3
    · exact Nat.le_refl _
    · exact Nat.le_add_right _ 1
  exact I1.fpOk hb' (I1.hok.fresh hb')
end L2
namespace L2
open PySem PySem.Spec PyProof.Rows
theorem Same.upd {H : Hp} {p : Addr} {o : HO} (h : H p = none) : Same H (upd H p o) := fun b u e => by rw [upd_ne (ne_of_none e h)]; exact e
theorem Same.updR {H H' : Hp} {p : Addr} {o : HO} (e : Same H H') (h : H p = none) : Same H (L2.upd H' p o) := fun b u q => by rw [upd_ne (ne_of_none q h)]; exact e b u q
theorem Same.seqT {K : PySem.W.Frag} {H H' : Hp} {a : Addr} {xs : List V} (e : Same H H') (h : SqT K H a xs) : SqT K H' a xs := by
  rcases h with (h | ⟨o, h⟩) | h
  · exact .inl (.inl (e _ _ h))
  · exact .inl (.inr ⟨o, e _ _ h⟩)
  · exact .inr h
theorem Same.sqX {K : PySem.W.Frag} {b : Bool} {H H' : Hp} {a : Addr} {xs : List V} (e : Same H H') (h : SqX K b H a xs) : SqX K b H' a xs := by
  cases b with
  | true => exact e.seqT h
  | false => exact e.seq h
structure Walk (J : It) (H1 : Hp) (n : Nat) (P : Nat → V → Hp → Prop) : Prop where
  go : ∀ i H', Same H1 H' → i < n → J.go i H'
  stop : ∀ H', Same H1 H' → J.stop n H'
  yld : ∀ i H' x H2, Same H1 H' → i < n → J.yld i H' x H2 → Same H' H2 ∧ P i x H2
theorem walk_list {K : PySem.W.Frag} {H1 : Hp} {a : Addr} {xs : List V} (h : SqL K H1 a xs) : Walk (Itl K a) H1 xs.length (fun i x _ => xs[i]? = some x) :=
  ⟨fun i H' e hi => ⟨xs, xs[i], e.seq h, by simp [hi]⟩, fun H' e => ⟨xs, e.seq h, Nat.le_refl _⟩, fun i H' x H2 e hi y => by
    obtain ⟨rfl, q⟩ := y
    exact ⟨Same.refl _, q xs (e.seq h)⟩⟩
theorem walk_tup {K : PySem.W.Frag} {H1 : Hp} {a : Addr} {xs : List V} (h : SqT K H1 a xs) : Walk (Itt K a) H1 xs.length (fun i x _ => xs[i]? = some x) :=
  ⟨fun i H' e hi => ⟨xs, xs[i], e.seqT h, by simp [hi]⟩, fun H' e => ⟨xs, e.seqT h, Nat.le_refl _⟩, fun i H' x H2 e hi y => by
    obtain ⟨rfl, q⟩ := y
    exact ⟨Same.refl _, q xs (e.seqT h)⟩⟩
theorem walk_range {H1 : Hp} (lo : Int) (n : Nat) : Walk (Itr lo n) H1 n (fun i x _ => x = .int (lo + i)) :=
  ⟨fun i H' e hi => hi, fun H' e => Nat.le_refl _, fun i H' x H2 e hi y => by
    obtain ⟨rfl, q⟩ := y
    exact ⟨Same.refl _, q⟩⟩
theorem walk_zip {K : PySem.W.Frag} {b1 b2 : Bool} {H1 : Hp} {a1 a2 : Addr} {xs ys : List V} (h1 : SqX K b1 H1 a1 xs) (h2 : SqX K b2 H1 a2 ys) :
    Walk (Itz K b1 b2 a1 a2) H1 (min xs.length ys.length) (fun i v H => ∃ p x y, v = .ref p ∧ H p = some (.tup [x, y]) ∧ xs[i]? = some x ∧ ys[i]? = some y) := by
  refine ⟨fun i H' e hi => ?_, fun H' e => ⟨xs, ys, e.sqX h1, e.sqX h2, ?_⟩, fun i H' x H2 e hi q => ?_⟩
  · have i1 : i < xs.length := by omega
    have i2 : i < ys.length := by omega
    exact ⟨xs, ys, xs[i], ys[i], e.sqX h1, e.sqX h2, by simp [i1], by simp [i2]⟩
  · rcases Nat.le_total xs.length ys.length with q | q
    · exact .inl (by omega)
    · exact .inr (by omega)
  · obtain ⟨p, u, v, hp, rfl, rfl, q1, q2⟩ := q
    exact ⟨Same.upd hp, p, u, v, rfl, upd_same, q1 xs (e.sqX h1), q2 ys (e.sqX h2)⟩
theorem comp_of {J : It} {H1 : Hp} {n : Nat} {P : Nat → V → Hp → Prop} {g : TG} {tc : TT} {te : TE} {Q : VK} {σ0 : St} {D : Addr} (S : Walk J H1 n P) (hD : H1 D = none) (hn : n ≤ sizeLine) (Sv : St → Prop) (p : Nat → Bool) (F : Nat → V → Hp → Prop)
    (monoS : ∀ i v H H', Same H H' → F i v H → F i v H') (monoU : ∀ i v H a ys ys', H a = some (.lst ys) → F i v H → F i v (upd H a (.lst ys'))) (h0 : Sv σ0)
    (step : ∀ i x σ' H2, i < n → Sv σ' → Same H1 H2 → P i x H2 → ∀ (Ny : V → St → Hp → Prop) (Nn : St → Hp → Prop), (∀ v σ2 H5, Sv σ2 → Same H2 H5 → F i v H5 → p i = true → Ny v σ2 H5) → (∀ σ2 H4, Sv σ2 → Same H2 H4 → p i = false → Nn σ2 H4) →
      g x σ' H2 fun σ2 H3 => tc σ2 H3 fun b H4 => if b = true then te σ2 H4 fun v H5 => Ny v σ2 H5 else Nn σ2 H4)
    (hQ : ∀ H' ys, Same H1 H' → H' D = some (.lst ys) → Paired (fun i v => F i v H') ((List.range n).filter p) ys → Q (.ref D) H') :
    ∃ W : Nat → Nat → List V → St → Hp → Prop, (∃ m, W 0 m [] σ0 (upd H1 D (.lst []))) ∧ ∀ i m ys σ' H', W i m ys σ' H' → H' D = some (.lst ys) ∧
    ((J.stop i H' ∧ Q (.ref D) H') ∨ (J.go i H' ∧ ys.length < sizeLine ∧ ∀ x H2, J.yld i H' x H2 → g x σ' H2 fun σ2 H3 => tc σ2 H3 fun b H4 =>
      if b = true then te σ2 H4 fun v H5 => H5 D = some (.lst ys) ∧ ∃ m', m' < m ∧ W (i + 1) m' (ys ++ [v]) σ2 (upd H5 D (.lst (ys ++ [v])))
      else ∃ m', m' < m ∧ W (i + 1) m' ys σ2 H4)) := by
  refine ⟨fun i m ys σ' H' => m = n - i ∧ i ≤ n ∧ Sv σ' ∧ Same H1 H' ∧ H' D = some (.lst ys) ∧ Paired (fun j v => F j v H') ((List.range i).filter p) ys, ⟨n, rfl, Nat.zero_le _, h0, Same.upd hD, upd_same, .nil⟩, ?_⟩
  rintro i m ys σ' H' ⟨rfl, hi, hs, hS, hL, hF⟩
  refine ⟨hL, ?_⟩
  have rs : (List.range (i + 1)).filter p = (List.range i).filter p ++ (if p i = true then [i] else []) := by
    rw [List.range_succ, List.filter_append]
    cases q : p i <;> simp [q]
  by_cases hlt : i < n
  · refine .inr ⟨S.go i H' hS hlt, ?_, fun x H2 y => ?_⟩
    · have l1 := hF.length
      have l2 : ((List.range i).filter p).length ≤ (List.range i).length := List.length_filter_le _ _
      rw [List.length_range] at l2
      omega
    · obtain ⟨e2, hP⟩ := S.yld i H' x H2 hS hlt y
      refine step i x σ' H2 hlt hs (hS.trans e2) hP _ _ (fun v σ2 H5 s2 e5 f5 hp => ?_) fun σ2 H4 s2 e4 hp => ?_
      · have l5 : H5 D = some (.lst ys) := e5 _ _ (e2 _ _ hL)
        refine ⟨l5, n - (i + 1), by omega, rfl, hlt, s2, ((hS.trans e2).trans e5).updR hD, upd_same, ?_⟩
        rw [rs, if_pos hp]
        refine Paired.snoc (Paired.imp' (fun j w q => ?_) hF) (monoU i v H5 D ys _ l5 f5)
        exact monoU j w H5 D ys _ l5 (monoS j w H' H5 (e2.trans e5) q)
      · refine ⟨n - (i + 1), by omega, rfl, hlt, s2, (hS.trans e2).trans e4, e4 _ _ (e2 _ _ hL), ?_⟩
        rw [rs, if_neg (by rw [hp]; decide), List.append_nil]
        exact Paired.imp' (fun j w q => monoS j w H' H4 (e2.trans e4) q) hF
  · have e : i = n := by omega
    subst e
    exact .inl ⟨S.stop H' hS, hQ H' ys hS hL hF⟩
theorem Paired.eq_map {β : Type} {f : Nat → β} : ∀ {l : List Nat} {ys : List β}, Paired (fun i v => v = f i) l ys → ys = l.map f
  | _, _, .nil => rfl
  | _, _, .cons r t => by rw [List.map_cons, r, Paired.eq_map t]
theorem comp_vals {J : It} {H1 : Hp} {n : Nat} {P : Nat → V → Hp → Prop} {g : TG} {tc : TT} {te : TE} {Q : VK} {σ0 : St} {D : Addr} (S : Walk J H1 n P) (hD : H1 D = none) (hn : n ≤ sizeLine) (Sv : St → Prop) (p : Nat → Bool) (f : Nat → V) (h0 : Sv σ0)
    (step : ∀ i x σ' H2, i < n → Sv σ' → Same H1 H2 → P i x H2 → ∀ (Ny : V → St → Hp → Prop) (Nn : St → Hp → Prop), (∀ σ2 H5, Sv σ2 → Same H2 H5 → p i = true → Ny (f i) σ2 H5) → (∀ σ2 H4, Sv σ2 → Same H2 H4 → p i = false → Nn σ2 H4) →
      g x σ' H2 fun σ2 H3 => tc σ2 H3 fun b H4 => if b = true then te σ2 H4 fun v H5 => Ny v σ2 H5 else Nn σ2 H4)
    (hQ : ∀ H', Same H1 H' → H' D = some (.lst (((List.range n).filter p).map f)) → Q (.ref D) H') :
    ∃ W : Nat → Nat → List V → St → Hp → Prop, (∃ m, W 0 m [] σ0 (upd H1 D (.lst []))) ∧ ∀ i m ys σ' H', W i m ys σ' H' → H' D = some (.lst ys) ∧
    ((J.stop i H' ∧ Q (.ref D) H') ∨ (J.go i H' ∧ ys.length < sizeLine ∧ ∀ x H2, J.yld i H' x H2 → g x σ' H2 fun σ2 H3 => tc σ2 H3 fun b H4 =>
      if b = true then te σ2 H4 fun v H5 => H5 D = some (.lst ys) ∧ ∃ m', m' < m ∧ W (i + 1) m' (ys ++ [v]) σ2 (upd H5 D (.lst (ys ++ [v])))
      else ∃ m', m' < m ∧ W (i + 1) m' ys σ2 H4)) :=
  comp_of S hD hn Sv p (fun i v _ => v = f i) (fun _ _ _ _ _ q => q) (fun _ _ _ _ _ _ _ q => q) h0
    (fun i x σ' H2 hi hs e hP Ny Nn hy hn' => step i x σ' H2 hi hs e hP Ny Nn (fun σ2 H5 s2 e5 hp => hy _ σ2 H5 s2 e5 rfl hp) hn')
    fun H' ys e hL hF => hQ H' e (by rw [← Paired.eq_map hF]; exact hL)
end L2
namespace L2
open PySem PySem.Spec PyProof.Rows
theorem relabel_free {env : Env} : ∀ {names : List (Str × NameKind)} {x : Str}, names.lookup x = some .free →
    (names.map fun (n, k) => if (k == NameKind.free && env.scope.kind == .function && env.kindOf n == some .cell) then (n, NameKind.cell) else (n, k)).lookup x = some .cell ∨
    (names.map fun (n, k) => if (k == NameKind.free && env.scope.kind == .function && env.kindOf n == some .cell) then (n, NameKind.cell) else (n, k)).lookup x = some .free
  | [], _, h => by simp at h
  | (n, k) :: r, x, h => by
    have ih := @relabel_free env r x
    rw [List.map_cons]
    cases hx : x == n with
    | true =>
      simp only [List.lookup_cons, hx] at h
      cases h
      by_cases hc : (NameKind.free == NameKind.free && env.scope.kind == .function && env.kindOf n == some .cell) = true
      · dsimp only; rw [if_pos hc]; simp only [List.lookup_cons, hx]; exact .inl trivial
      · dsimp only; rw [if_neg hc]; simp only [List.lookup_cons, hx]; exact .inr trivial
    | false =>
      simp only [List.lookup_cons, hx] at h
      by_cases hc : (k == NameKind.free && env.scope.kind == .function && env.kindOf n == some .cell) = true
      · dsimp only; rw [if_pos hc]; simp only [List.lookup_cons, hx]; exact ih h
      · dsimp only; rw [if_neg hc]; simp only [List.lookup_cons, hx]; exact ih h
theorem relabel_kind {env : Env} {names : List (Str × NameKind)} {x : Str} {k : NameKind} (hk : k = .cell ∨ k = .free) (nc : ∀ y ∈ names, y.2 ≠ .cell)
    (h : (names.map fun (n, k) => if (k == NameKind.free && env.scope.kind == .function && env.kindOf n == some .cell) then (n, NameKind.cell) else (n, k)).lookup x = some k) : ∃ y ∈ names, y.1 = x ∧ y.2 = .free := by
  have m := PySem.mem_of_lookup h
  obtain ⟨⟨n, k0⟩, hm, e⟩ := List.mem_map.mp m
  dsimp only at e
  by_cases hc : (k0 == NameKind.free && env.scope.kind == .function && env.kindOf n == some .cell) = true
  · rw [if_pos hc] at e
    simp only [Bool.and_eq_true, beq_iff_eq] at hc
    cases e
    exact ⟨_, hm, rfl, hc.1.1⟩
  · rw [if_neg hc] at e
    cases e
    refine ⟨_, hm, rfl, ?_⟩
    rcases hk with z | z
    · exact absurd z (nc _ hm)
    · exact z
theorem Blk.of {X : Cx} {N : List Str} {scope : Scope} {cl : List (Str × Addr)} {mp : List (Option Nat)} (clos : closureFor scope X.env = pure cl) (cell : ∀ y ∈ scope.names, y.2 ≠ .cell) (kind : scope.kind = .function)
    (nms : ∀ y ∈ scope.names, y.2 = .local → scope.names.lookup y.1 = some .local) (nd : N.Nodup) (sub : ∀ x c, cl.lookup x = some c → X.env.cells.lookup x = some c) (fr : ∀ y ∈ scope.names, y.2 = .free → ∃ c, cl.lookup y.1 = some c) (len : mp.length = N.length)
    (map : ∀ (i j : Nat) (x : Str), mp[i]? = some (some j) → N[i]? = some x → X.N[j]? = some x ∧ (X.env.scope.names.lookup x = some .cell ∨ X.env.scope.names.lookup x = some .free) ∧ scope.names.lookup x = some .free) : Blk X N scope cl mp := by
  refine ⟨clos, cell, kind, nms, nd, sub, fun x hx => ?_, len, fun i j x h1 h2 => ?_⟩
  · have : ∃ y ∈ scope.names, y.1 = x ∧ y.2 = .free := hx.elim (fun z => relabel_kind (.inl rfl) cell z) fun z => relabel_kind (.inr rfl) cell z
    obtain ⟨y, hy, rfl, hf⟩ := this
    exact fr y hy hf
  · obtain ⟨q1, q2, q3⟩ := map i j x h1 h2
    exact ⟨q1, q2, relabel_free q3⟩
theorem Blk.plain {X : Cx} {N : List Str} {scope : Scope} (fr : ∀ y ∈ scope.names, y.2 ≠ .free) (cell : ∀ y ∈ scope.names, y.2 ≠ .cell) (kind : scope.kind = .function) (nms : ∀ y ∈ scope.names, y.2 = .local → scope.names.lookup y.1 = some .local) (nd : N.Nodup) :
    Blk X N scope [] (N.map fun _ => none) :=
  Blk.of (closureFor_none fr) cell kind nms nd (fun _ _ h => nomatch h) (fun y hy h => absurd h (fr y hy)) (List.length_map _) fun i j x h => by
    rw [List.getElem?_map] at h
    cases q : N[i]? with
    | none => rw [q] at h; cases h
    | some z => rw [q] at h; cases h
def zipV (p : Int → Int → Bool) (φ : Int → Int → V) (xs ys : List Int) : List V := ((List.range (min xs.length ys.length)).filter fun i => p (xs.getD i 0) (ys.getD i 0)).map fun i => φ (xs.getD i 0) (ys.getD i 0)
theorem getD_of_map {xs : List Int} {i : Nat} {v : V} (h : (xs.map V.int)[i]? = some v) : v = .int (xs.getD i 0) := by
  rw [List.getElem?_map] at h
  cases q : xs[i]? with
  | none => rw [q] at h; cases h
  | some z =>
    rw [q] at h
    have e : xs.getD i 0 = z := by rw [List.getD_eq_getElem?_getD, q]; rfl
    rw [e]; exact (Option.some.inj h).symm
theorem two_set {σ : St} (h : σ.length = 2) (x y : V) : (σ.set 0 (some x)).set 1 (some y) = [some x, some y] := by
  match σ, h with
  | [_, _], _ => rfl
theorem zip_comp {K : PySem.W.Frag} {b1 b2 : Bool} {a b : Addr} {xs ys : List Int} {mp : List (Option Nat)} {ta : TA} {tc : TT} {te : TE} {σ : St} {H H1 : Hp} {Q : VK} (p : Int → Int → Bool) (φ : Int → Int → V) (hmp : mp.length = 2) (hta : ∀ R, R [.ref a, .ref b] H1 → ta σ H R)
    (h1 : SqX K b1 H1 a (xs.map V.int)) (h2 : SqX K b2 H1 b (ys.map V.int)) (hz : xs.length ≤ 1000)
    (htc : ∀ (i : Nat) H' (R : Bool → Hp → Prop), R (p (xs.getD i 0) (ys.getD i 0)) H' → tc [some (.int (xs.getD i 0)), some (.int (ys.getD i 0))] H' R)
    (hte : ∀ (i : Nat) H' (R : VK), p (xs.getD i 0) (ys.getD i 0) = true → R (φ (xs.getD i 0) (ys.getD i 0)) H' → te [some (.int (xs.getD i 0)), some (.int (ys.getD i 0))] H' R)
    (hQ : ∀ D H', Same H1 H' → H' D = some (.lst (zipV p φ xs ys)) → Q (.ref D) H') :
    tComp mp (iZip K b1 b2 ta) (gTup K 2 (gCons (gName 0) (gCons (gName 1) gNil))) tc te σ H Q := by
  unfold tComp
  refine hta _ ⟨a, b, rfl, ⟨_, h1⟩, ⟨_, h2⟩, fun D hD => ?_⟩
  have W := walk_zip h1 h2
  rw [List.length_map, List.length_map] at W
  refine comp_vals W hD (Nat.le_trans (Nat.min_le_left _ _) (Nat.le_trans hz (by rw [sizeLine_eq]; decide))) (fun σ => σ.length = 2) (fun i => p (xs.getD i 0) (ys.getD i 0)) (fun i => φ (xs.getD i 0) (ys.getD i 0)) (by unfold st0; rw [List.length_map]; exact hmp) ?_ fun H' e hL => hQ D H' e hL
  rintro i v σ' H2 hi hs e ⟨q, u, w, rfl, hq, hu, hw⟩ Ny Nn hy hn
  rw [getD_of_map hu, getD_of_map hw] at hq
  refine ⟨q, _, rfl, SqT.of hq, rfl, _, _, rfl, _, _, rfl, rfl, ?_⟩
  rw [two_set hs]
  refine htc _ _ _ ?_
  cases hp : p (xs.getD i 0) (ys.getD i 0) with
  | true => rw [if_pos rfl]; exact hte _ _ _ hp (hy _ _ rfl (Same.refl _) hp)
  | false => rw [if_neg (by decide)]; exact hn _ _ rfl (Same.refl _) hp
end L2
namespace L2
open PySem PySem.Spec PyProof.Rows
theorem pg_two {X : Cx} {K : PySem.W.Frag} {x y : Str} {px py tp : Pos} {k : Nat} (hK : X.K = K) (hc : X.calm = true) (hN : X.N = [x, y]) (nd : ([x, y] : List Str).Nodup) (hx : X.env.scope.names.lookup x = some .local) (hy : X.env.scope.names.lookup y = some .local) :
    PG X (.Tuple [.Name x px, .Name y py] k tp) (gTup K 2 (gCons (gName 0) (gCons (gName 1) gNil))) := by
  subst hK
  have nd' : X.N.Nodup := by rw [hN]; exact nd
  exact pg_tup hc (pgs_cons (pg_name (i := 0) nd' (by rw [hN]; rfl) (.inl hx) (.inr hx)) (pgs_cons (pg_name (i := 1) nd' (by rw [hN]; rfl) (.inl hy) (.inr hy)) pgs_nil))
theorem pg_one {X : Cx} {x : Str} {px : Pos} {i : Nat} (nd : X.N.Nodup) (hN : X.N[i]? = some x) (hx : X.env.scope.names.lookup x = some .local) : PG X (.Name x px) (gName i) := pg_name nd hN (.inl hx) (.inr hx)
end L2
namespace L2
open PySem PySem.Spec PyProof.Rows
end L2
namespace L2
open PySem PySem.Spec PyProof.Rows
theorem for_same {J : It} {H1 : Hp} {n : Nat} {P : Nat → V → Hp → Prop} {g : TG} {tb : TS} {D : Ends} {σ : St} (S : Walk J H1 n P) (Sv : Nat → St → Prop) (h0 : Sv 0 σ)
    (hs : ∀ i x σ H', i < n → Sv i σ → Same H1 H' → P i x H' → g x σ H' fun σ2 H2 => tb { D with nx := fun σ3 H3 => Sv (i + 1) σ3 ∧ Same H1 H3, ct := fun σ3 H3 => Sv (i + 1) σ3 ∧ Same H1 H3, bk := D.nx } σ2 H2)
    (hd : ∀ σ H, Sv n σ → Same H1 H → D.nx σ H) :
    ∃ W : Nat → Nat → St → Hp → Prop, (∃ m, W 0 m σ H1) ∧ ∀ i m σ H, W i m σ H →
      (J.stop i H ∧ D.nx σ H) ∨ (J.go i H ∧ ∃ N : St → Hp → Prop, (∀ σ' H', N σ' H' → ∃ m', m' < m ∧ W (i + 1) m' σ' H') ∧ ∀ x H', J.yld i H x H' → g x σ H' fun σ2 H2 => tb { D with nx := N, ct := N, bk := D.nx } σ2 H2) := by
  refine ⟨fun i m σ H => m = n - i ∧ i ≤ n ∧ Sv i σ ∧ Same H1 H, ⟨n, rfl, Nat.zero_le _, h0, Same.refl _⟩, ?_⟩
  rintro i m σ H ⟨rfl, hi, sv, e⟩
  by_cases hlt : i < n
  · refine .inr ⟨S.go i H e hlt, fun σ3 H3 => Sv (i + 1) σ3 ∧ Same H1 H3, fun σ' H' q => ⟨n - (i + 1), by omega, rfl, hlt, q.1, q.2⟩, fun x H' y => ?_⟩
    obtain ⟨e2, hP⟩ := S.yld i H x H' e hlt y
    exact hs i x σ H' hlt sv (e.trans e2) hP
  · have z : i = n := by omega
    subst z
    exact .inl ⟨S.stop H e, hd σ H sv e⟩
end L2
namespace L2
open PySem PySem.Spec PyProof.Rows
theorem ObjOk.obj {P : Program} {w : World} {H : Hp} {h : Heap} {a : Addr} {o : HO} (x : ObjOk P w H h a o) : ∃ ob, h.get? a = some ob := by
  cases o with
  | lst xs => obtain ⟨_, _, _, _, e⟩ := x; exact ⟨_, e⟩
  | tup xs => obtain ⟨_, _, _, ob, e, _⟩ := x; exact ⟨_, e⟩
  | dK kvs => obtain ⟨_, _, _, _, o, _, _, e, _⟩ := x; exact ⟨_, e⟩
  | dT kvs => obtain ⟨_, _, _, _, o, _, _, e, _⟩ := x; exact ⟨_, e⟩
  | set S n => obtain ⟨o, _, _, _, e, _⟩ := x; exact ⟨_, e⟩
  | ins C dx fs => obtain ⟨_, _, _, e, _⟩ := x; exact ⟨_, e⟩
  | own y => obtain ⟨_, e⟩ := x; exact ⟨_, e⟩
  | xd fs => obtain ⟨_, ⟨_, _, _, e, _⟩, _⟩ := x; exact ⟨_, e⟩
  | rng lo hi => obtain ⟨_, _, _, e⟩ := x; exact ⟨_, e⟩
  | frz ob u => obtain ⟨e, _⟩ := x; exact ⟨_, e⟩
  | tbl ps => exact ⟨_, show h.get? a = some _ from x⟩
  | met f y => exact ⟨_, show h.get? a = some _ from x⟩
  | ext φ => obtain ⟨_, ⟨_, e⟩, _⟩ := x; exact ⟨_, e⟩
structure Cov (B : Heap) (fs : List Addr) (H' : Hp) (h : Heap) : Prop where
  old : ∀ b o, h.get? b = some o → b ∉ fs → ∃ o', B.get? b = some o'
  trk : ∀ b u, H' b = some u → ∃ o', B.get? b = some o'
def CXe (P : Program) (w : World) : CXT := fun outer H s E e s' => ∃ (a : Addr) (cls a0 : Value) (B : Heap) (H' : Hp), e = .ref a ∧ s'.os = s.os ∧ AllBare s'.gens ∧ Un (frs outer) [] H H' s.heap s'.heap ∧ HOk P w H' s'.heap ∧
  Heap.FlyingW B outer a cls a0 s'.heap ∧ Cov B (frs outer) H' s.heap ∧ E cls none H'
section
variable {P : Program} {w : World} {fs : List Addr} {H H' : Hp} {h h1 h2 B : Heap}
theorem Heap.two {B h1 h2 : Heap} (s1 : B.StaysIn h1) (s2 : B.StaysIn h2) {b : Addr} {o o' : Obj} (e : h1.get? b = some o) (q : B.get? b = some o') : h2.get? b = some o := by
  have := s1 b o' q
  rw [e] at this; cases this
  exact s2 b _ q
theorem fly_un (u : Un fs [] H H' h h1) (cov : Cov B fs H' h) (s1 : B.StaysIn h1) (s2 : B.StaysIn h2) (sl : ∀ b o, b ∈ fs → h1.get? b = some o → ∃ sl, h2.get? b = some { o with slots := sl }) : Un fs [] H H' h h2 := by
  refine ⟨fun b o e n hb hx => ?_, fun b o e n hb hx => ?_, u.free, fun b o e hx => ?_, u.tups, u.frzs, u.tbls⟩
  · obtain ⟨o', q⟩ := cov.old b o e hb
    exact Heap.two s1 s2 (u.keep b o e n hb hx) q
  · obtain ⟨sl1, e1⟩ := u.slot b o e n hb hx
    obtain ⟨sl2, e2⟩ := sl b _ hb e1
    exact ⟨sl2, e2⟩
  · by_cases hb : b ∈ fs
    · obtain ⟨o', e1⟩ := u.there b o e hx
      obtain ⟨sl2, e2⟩ := sl b _ hb e1
      exact ⟨_, e2⟩
    · obtain ⟨o', q⟩ := cov.old b o e hb
      exact ⟨o', s2 b o' q⟩
theorem fly_ok (ok : HOk P w H' h1) (trk : ∀ b u, H' b = some u → ∃ o', B.get? b = some o') (s1 : B.StaysIn h1) (s2 : B.StaysIn h2) : HOk P w H' h2 := fun b u e => by
  refine (ok b u e).stay (fun c v hc q => ?_) (fun _ q => q) fun _ _ q => q
  have : ∃ o', B.get? c = some o' := by
    rcases hc with rfl | hc
    · exact trk c u e
    · exact trk c _ hc
  obtain ⟨o', q'⟩ := this
  exact Heap.two s1 s2 q q'
end
def RaisesTo (X : Cx) (E : St → XK) : Prop := ∀ (pins : List (Addr × Obj)) (σ : St) (H : Hp) (s : Shared) (h' : Heap) (e : Addr) (cls : Value) (args : List Value), Inv X pins σ H s → Heap.MadeExcOf s.heap h' e cls args → E σ cls none H → X.xe (.ref e) { s with heap := h' }
def PassesS (CX : CXT) (X : Cx) (E : St → XK) : Prop := ∀ (pins : List (Addr × Obj)) (σ : St) (H : Hp) (s : Shared) (e : Value) (s' : Shared), Inv X pins σ H s → CX X.stack H s (E σ) e s' → X.xe e s'
section
variable {P : Program} {w : World} {K : PySem.W.Frag} {mg : Str → Option Value} {base : Heap} {N : List Str} {qual : Str} {scope : Scope} {f : Addr} {cd : Value} {A : Around} {outer : List Env} {s₀ : Shared} {H₀ : Hp} {E : XK}
theorem raisesTo_body : RaisesTo (cxOf (CXe P w) P w K mg base N qual scope f cd A outer s₀ H₀ E) (fun _ => E) := by
  intro pins σ H s h' e cls args I hx hE
  have ff := PySem.W.funFrames_hide (as := frs (cxOf (CXe P w) P w K mg base N qual scope f cd A outer s₀ H₀ E).stack) I.stack fun env he a ha => List.mem_filterMap.mpr ⟨env, he, ha⟩
  have stB : (PySem.W.hideAll s.heap (frs (cxOf (CXe P w) P w K mg base N qual scope f cd A outer s₀ H₀ E).stack)).StaysIn s.heap := fun b o e => PySem.W.of_hideAll _ e
  have inB : ∀ b o, s.heap.get? b = some o → b ∉ frs (cxOf (CXe P w) P w K mg base N qual scope f cd A outer s₀ H₀ E).stack → (PySem.W.hideAll s.heap (frs (cxOf (CXe P w) P w K mg base N qual scope f cd A outer s₀ H₀ E).stack)).get? b = some o :=
    fun b o e hb => PySem.W.hideAll_get _ e hb
  refine wpAny_leaves_madeW (outer := outer) I.ok.frames rfl stB ff hx fun h'' t fl tup nt up => ?_
  have cov : Cov (PySem.W.hideAll s.heap (frs (cxOf (CXe P w) P w K mg base N qual scope f cd A outer s₀ H₀ E).stack)) (frs outer) H s₀.heap := by
    refine ⟨fun b o e hb => ?_, fun b u e => ?_⟩
    · obtain ⟨o1, e1⟩ := I.base.there b o e (by intro z; exact absurd (show b ∈ ([] : List Addr) from z) (by simp))
      refine ⟨o1, inB b o1 e1 fun z => ?_⟩
      rcases List.mem_cons.mp (I.stkSub b z) with q | q
      · exact absurd q (Nat.ne_of_lt (Nat.lt_of_lt_of_le (Heap.lt_size e) I.ok.above))
      · exact hb q
    · obtain ⟨ob, eo⟩ := (I.hok b u e).obj
      exact ⟨ob, inB b ob eo fun z => by rw [I.stkFree b z] at e; cases e⟩
  refine ⟨e, cls, .ref t, _, H, rfl, I.os, I.bare, fly_un I.base cov stB fl.1 fun b o hb eo => ?_, fly_ok I.hok cov.trk stB fl.1, fl, cov, hE⟩
  obtain ⟨_, o', e', d⟩ := I.funs.mem hb
  rw [eo] at e'; cases e'
  exact up b o (hx.keeps b o eo) d
end
def tCallS (sp : Sp) (dvs : List V) (E : St → XK) (t : TA) : TE := fun σ H Q => t σ H fun vs H1 => sp (vs ++ dvs) H1 Q (E σ)
def tMethS (C : Addr) (m : Str) (sp : Sp) (dvs : List V) (E : St → XK) (ta : TE) (t : TA) : TE := fun σ H Q => ta σ H fun x H1 => ∃ a dx fs, x = .ref a ∧ H1 a = some (.ins C dx fs) ∧ fs.lookup m = none ∧
  t σ H1 fun vs H2 => sp (x :: (vs ++ dvs)) H2 Q (E σ)
def tMakeS (C : Addr) (sp : Sp) (dvs : List V) (E : St → XK) (t : TA) : TE := fun σ H Q => t σ H fun vs H1 => ∀ x dx, H1 x = none → H1 dx = none → dx ≠ x →
  sp (.ref x :: (vs ++ dvs)) (upd (upd H1 dx (.own x)) x (.ins C dx [])) (fun v H2 => v = .non ∧ Q (.ref x) H2) (E σ)
section
variable {X : Cx} {CX : CXT} {k : Nat} {f C : Addr} {fd : FuncData} {ps : List Str} {sp : Sp} {dvs : List V} {ds : List Value} {E : St → XK} {x m : Str} {p pos apos : Pos} {e o : Expr} {es : List Expr} {ta : TE} {t : TA}
theorem run_fnS {pins : List (Addr × Obj)} {σ : St} {H : Hp} {s : Shared} {Q : VK} {us : List Value} {vs : List V} (F : FnOk X.prog X.w X.K X.mg X.base CX k f fd ps sp) (hr : Room k X.A) (hb : Binds X.K fd ps ds) (hd : Vals dvs ds) (hx : PassesS CX X E)
    (I : Inv X pins σ H s) (r : Vals vs us) (h : sp (vs ++ dvs) H Q (E σ)) : wpAny (model X.prog X.w) X.A (call (.ref f) us) (EP X pins σ Q) X.xe s := by
  have r2 : Vals (vs ++ dvs) (us ++ ds) := r.append hd
  have hl : (us ++ ds).length = ps.length := by rw [← r2.length]; exact F.len _ _ _ _ h
  refine wpAny_call (codeAny_mono (F.run X.A X.stack s H ⟨us, []⟩ (us ++ ds) (vs ++ dvs) Q (E σ) hr I.env0 (hb s us I.kIn hl) r2 h) fun r s' hq => ?_)
  match r, hq with
  | .error e, hq => exact hx pins σ H s e s' I hq
  | .ok (.ret u), hq => exact I.after hq
  | .ok .next, hq => exact False.elim hq
  | .ok .brk, hq => exact False.elim hq
  | .ok .cont, hq => exact False.elim hq
theorem pe_callS (F : FnOk X.prog X.w X.K X.mg X.base CX k f fd ps sp) (hr : Room k X.A) (hg : Gl X x) (hm : X.mg x = some (.ref f)) (hk : PySem.W.keepIn X.K (.ref f) = true) (hb : Binds X.K fd ps ds) (hd : Vals dvs ds) (hx : PassesS CX X E)
    (ha : PA X (e :: es) t) (hdb : (x == ("__debug__" : Str)) = false := by decide) (he : starEach (e :: es) X.env = (false, eval e X.env) :: starEach es X.env := by rfl) (hpl : (backTo pos (starEach es X.env)).any (·.1) = false := by rfl) :
    PE X (.Call (.Name x p) (e :: es) [] pos) (tCallS sp dvs E t) := by
  intro pins s σ H Q I h
  refine wpAny_Call_Name_kw (ld_glob I hg hm (PySem.W.callWith_K (h₀ := X.base) I.ok.mod.kin hk (thn (ha pos pins s σ H _ I h) fun us s1 ⟨vs, H1, I1, r, q⟩ => ⟨I1.kIn, ?_⟩) he hpl) hdb)
  exact run_fnS F hr hb hd hx I1 r q
theorem pe_methS {pl : Sem Bool} (he : PE X o ta) (c : Cls X.K C) (hm : Meth X.K C m f) (F : FnOk X.prog X.w X.K X.mg X.base CX k f fd ps sp) (hr : Room k X.A) (hb : Binds X.K fd ps ds) (hd : Vals dvs ds) (hx : PassesS CX X E) (ha : PA X (e :: es) t)
    (hst : starEach (e :: es) X.env = (false, eval e X.env) :: starEach es X.env := by rfl) (hpl : (backTo pos (starEach es X.env)).any (·.1) = false := by rfl)
    (ht : eval (.Call (.Attribute o m apos) (e :: es) [] pos) X.env = (do
      let ov ← eval o X.env
      standAt apos.atName
      let (f, first) ← holding [ov] (getMethod ov m pl)
      callWith pos f first (backTo pos (starEach (e :: es) X.env)) (backToKw pos (keywordEach [] X.env))) := by rfl) :
    PE X (.Call (.Attribute o m apos) (e :: es) [] pos) (tMethS C m sp dvs E ta t) := by
  intro pins s σ H Q I h
  refine PySem.W.methodCall_KW (pl := pl) (thn (he pins s σ H _ I h) fun u s1 ⟨x, H1, I1, rx, a, dx, fs, ex, ea, l, q⟩ => ?_) ht
  subst ex
  obtain rfl : u = Value.ref a := rx
  refine getmeth_ok I1 ea c hm l (PySem.W.callWith_K (first := [.ref a]) (h₀ := X.base) I.ok.mod.kin hm.kp (thn (ha pos pins s1 σ H1 _ I1 q) fun us s2 ⟨vs, H2, I2, r, q2⟩ => ⟨I2.kIn, ?_⟩) hst hpl)
  exact run_fnS (us := .ref a :: us) (vs := .ref a :: vs) F hr hb hd hx I2 (.cons rfl r) q2
end
def tRaise (C : Addr) (E : St → XK) (t : TA) : TS := fun _ σ H => t σ H fun vs H1 => vs.length ≤ sizeLine ∧ E σ (.ref C) none H1
theorem ps_raise {X : Cx} {C : Addr} {x : Str} {bm : List Value} {newId initId B : String} {e : Expr} {es : List Expr} {t : TA} {np cpos pos : Pos} {E : St → XK} (O : OwnCls x C bm newId X.mg X.base) (FB : ExcBaseFacts B newId initId bm) (hc : X.calm = true) (hg : Gl X x)
    (hx : RaisesTo X E) (ha : PA X (e :: es) t) (he : starEach (e :: es) X.env = (false, eval e X.env) :: starEach es X.env := by rfl) (hpl : (backTo cpos (starEach es X.env)).any (·.1) = false := by rfl) (hd : (x == ("__debug__" : Str)) = false := by decide) :
    PS X (.Raise (some (.Call (.Name x np) (e :: es) [] cpos)) none pos) (tRaise C E t) := by
  intro pins s σ H D I h
  obtain ⟨tl, N, nm, q, bs, hdct, sn, sub, ab, col, dd, k0, k1, k2, k3, k5, mN, hC, hN, hni, T⟩ := O.obj
  refine wpAny_Raise_call_subT (C := C) (nm := nm) (q := q) (N := N) (bs := bs) (bm := tl) (hdct := hdct) (sn := sn) (sub := sub) (ab := ab) (col := col) (dd := dd) (k0 := k0) (k1 := k1) (k2 := k2) (k3 := k3) (k5 := k5)
    FB (mN := mN) (T.hasType FB.hasBase) (I.ok.hd hc) (by rw [he]; show (false || (backTo cpos (starEach es X.env)).any (·.1)) = false; rw [hpl]; rfl) hni (ld_glob I hg O.bound ⟨rfl, ?_⟩ hd)
  have ha' := ha cpos pins s σ H _ I h
  rw [he] at ha' ⊢
  refine Calls.evalArgs_plain (thn ha' fun us s2 ⟨vs, H2, I2, r, hl, hE⟩ => ⟨rfl, by rw [← r.length]; exact hl, I2.bk _ _ hC, hN.keeps I2.bk, T.keeps I2.bk, fun h' e hm => hx pins σ H2 s2 h' e _ _ I2 hm hE⟩)
end L2
namespace L2
open PySem PySem.Spec PyProof.Rows
theorem own_in {K : PySem.W.Frag} {h : Heap} {mg : Str → Option Value} {x : Str} {C : Addr} {bm : List Value} {nid : String} (X : K.In h) (G : h.Ns mainGlobals mg) (e : PySem.W.nsIn K mainGlobals x = some (some (.ref C))) (q : PySem.W.excIn K C bm nid = true) : OwnCls x C bm nid mg h := by
  have G' := PySem.W.mg_of X G e
  unfold PySem.W.excIn at q; split at q
  case h_2 => cases q
  rename_i dd cd sl ho; split at q
  case h_2 => cases q
  rename_i C' tl k0 k1 k2 k3 n k5 hm hs; simp only [Bool.and_eq_true, beq_iff_eq, Bool.not_eq_true'] at q
  obtain ⟨⟨⟨⟨⟨q1, q2⟩, q3⟩, q4⟩, q5⟩, q6⟩ := q; subst q1; subst q2
  obtain ⟨c1, c2, c3, c4, c5, c6, c7, c8, c9, c10, c11⟩ := cd; dsimp only at hm q3 q5 q6; subst hm; subst q3
  have z : sl = #[k0, k1, k2, k3, some (.builtin n), k5] := by obtain ⟨l⟩ := sl; simp only at hs; rw [hs]
  subst z
  exact ⟨G', tl, c4, c1, c5, c2, c6, c7, c8, c9, c10, dd, k0, k1, k2, k3, k5, _, X _ _ ho, .of_isNs (PySem.W.isNs_of_in X q5), PySem.W.nsMap_none_of_in X q5 q6, PySem.W.tail_of_in X q4⟩
end L2
namespace L2
open PySem PySem.Spec PyProof.Rows
abbrev Cx.wishP (X : Cx) (pl : List (Addr × Obj)) (E : Value → Shared → Prop) : Cx := { X with pn := X.pn ++ pl, xe := E }
abbrev Cx.caught (X : Cx) (a : Addr) : Cx := { X with A := X.A.mark (some (.ref a)), calm := false, xe := fun _ _ => False }
section
variable {X : Cx} {pins pl : List (Addr × Obj)} {σ : St} {H : Hp} {s : Shared} {E : Value → Shared → Prop} {a : Addr}
end
def tTry (K : PySem.W.Frag) (c : Value) (tb : (St → XK) → TS) (th : TS) : TS := fun D σ H => tb (fun σ' cls _ H' => PySem.W.exmOne K cls c = some true ∧ th D σ' H') D σ H
end L2
namespace L2
open PySem PySem.Spec PyProof.Rows
theorem boolsAre_of {bs : List Bool} : ∀ {us : List Value}, Vals (bs.map V.bl) us → LSm.BoolsAre us bs := by
  induction bs with
  | nil => intro us r; rw [List.map_nil] at r; cases r; exact .nil
  | cons n ns ih =>
    intro us r
    rw [List.map_cons] at r
    cases r with
    | cons r1 r2 => cases (show _ = Value.bool n from r1); exact .cons n (ih r2)
section
variable {X : Cx}
theorem call_allB (hc : X.calm = true) : CallR X (.builtin "all") (fun xs H Q => ∃ (a : Addr) (bs : List Bool), xs = [.ref a] ∧ SqL X.K H a (bs.map V.bl) ∧ Q (.bl (bs.all id)) H) := by
  intro pins s σ H xs us Q I r h
  obtain ⟨a, bs, rfl, hs, q⟩ := h
  obtain ⟨u, rfl, ru⟩ := r.one
  cases ru
  obtain ⟨its, rv, p, _⟩ := I.list hs
  have hb := boolsAre_of rv
  have hl := p.isList
  have lt : a < s.heap.objs.size := by obtain ⟨_, e, _⟩ := hl; exact Heap.lt_size e
  refine call_all_walk (wpAny_pyIter_list hl ⟨s.heap.objs.size, _, _, _, _, _, fun i => (bs[i]?).getD true, rfl, Walks.list (A := X.A.in1) (I.ok.hd hc) _ a (Nat.ne_of_lt lt) its.toArray, ⟨⟨_, Heap.get?_push_size _ rfl, rfl, rfl⟩, hl.push _⟩, fun i v s' Q' E' hP hQ => ?_, fun h' tk hk => ?_⟩)
  · obtain ⟨b, e, rfl⟩ := hb.get i v (by simpa using hP)
    simp only [e, Option.getD_some] at hQ; exact wpAny_truthy_bool hQ
  · refine ⟨.bl (bs.all id), H, I.kept (LSm.kept_iter hk), ?_, q⟩
    show Value.bool _ = Value.bool _
    rw [List.size_toArray, hb.length, LSm.range_all bs]
def clV : V → Option Value
  | .ty n => some (.type n)
  | .ref a => some (.ref a)
  | _ => none
theorem call_isinst : CallR X (.builtin "isinstance") (fun xs H Q => ∃ x y t c b, xs = [x, y] ∧ clV y = some c ∧ TyOf X.K H x t ∧ PySem.W.kitOne X.K t c = some b ∧ Q (.bl b) H) := by
  intro pins s σ H xs us Q I r h
  obtain ⟨x, y, t, c, b, rfl, hy, ty, e, q⟩ := h
  obtain ⟨u, v, rfl, ru, rv⟩ := r.two
  have ev : v = c := by
    cases y with
    | ty n => cases hy; exact rv
    | ref a => cases hy; exact rv
    | _ => cases hy
  subst ev
  exact isinst_ok I ru ty e fun tk => ⟨.bl b, H, I.tok _, rfl, q⟩
end
end L2
namespace L2
open PySem PySem.Spec PyProof.Rows
section
variable {P : Program} {w : World} {K : PySem.W.Frag} {mg : Str → Option Value} {base : Heap}
end
def CMulB (i j : Int) : Prop := i.natAbs < 2 ^ 4000 ∧ j.natAbs < 2 ^ 4000
theorem op_mulB {X : Cx} : OpR X (binaryOp .Mult) (rI CMulB fun i j => .int (i * j)) := opI fun _ _ _ _ _ _ _ hc q => mul_int q (PySem.IntMulOk.of_bits (Nat.le_trans (intBits_le hc.1) (by decide)) (Nat.le_trans (intBits_le hc.2) (by decide)))
end L2
namespace L2
open PySem PySem.Spec PyProof.Rows
structure CMeth (K : PySem.W.Frag) (C : Addr) (m : Str) (f : Addr) : Prop where
  ex : ∃ mc, PySem.W.readsIn K C mc = true ∧ PySem.W.findCls K (.ref C) mc m = some (.val (.ref f))
  sp : PySem.W.specialIn K (.ref C) "__getattribute__" = some (some (.builtin "type.__getattribute__"))
  kp : PySem.W.keepIn K (.ref f) = true
section
variable {X : Cx} {CX : CXT} {k : Nat} {f C : Addr} {fd : FuncData} {ps : List Str} {sp : Sp} {dvs : List V} {ds : List Value} {E : St → XK} {x m : Str} {p pos apos : Pos} {e o : Expr} {es : List Expr} {ta : TE} {t : TA}
theorem pe_cmeth {pl : Sem Bool} (CM : CMeth X.K C m f) (hg : Gl X x) (hm : X.mg x = some (.ref C)) (F : FnOk X.prog X.w X.K X.mg X.base CX k f fd ps sp) (hr : Room k X.A) (hb : Binds X.K fd ps ds) (hd : Vals dvs ds) (hx : PassesS CX X E) (ha : PA X (e :: es) t)
    (hdb : (x == ("__debug__" : Str)) = false := by decide) (hst : starEach (e :: es) X.env = (false, eval e X.env) :: starEach es X.env := by rfl) (hpl : (backTo pos (starEach es X.env)).any (·.1) = false := by rfl)
    (ht : eval (.Call (.Attribute (.Name x p) m apos) (e :: es) [] pos) X.env = (do
      let ov ← eval (.Name x p) X.env
      standAt apos.atName
      let (f, first) ← holding [ov] (getMethod ov m pl)
      callWith pos f first (backTo pos (starEach (e :: es) X.env)) (backToKw pos (keywordEach [] X.env))) := by rfl) :
    PE X (.Call (.Attribute (.Name x p) m apos) (e :: es) [] pos) (tCallS sp dvs E t) := by
  intro pins s σ H Q I h
  obtain ⟨mc, q1, q2⟩ := CM.ex
  refine PySem.W.methodCall_KW (pl := pl) (ld_glob I hg hm (PySem.W.method_cls I.kIn CM.sp (PySem.W.cls_value I.kIn q1 q2 rfl ?_)) hdb) ht
  have I1 := I.tok (s.toks + 1)
  refine PySem.W.callWith_K (first := []) (h₀ := X.base) I.ok.mod.kin CM.kp (thn (ha pos pins _ σ H _ I1 h) fun us s2 ⟨vs, H2, I2, r, q⟩ => ⟨I2.kIn, ?_⟩) hst hpl
  exact run_fnS F hr hb hd hx I2 r q
theorem run_makeS {pins : List (Addr × Obj)} {σ : St} {H : Hp} {s : Shared} {Q : VK} {us : List Value} {vs : List V} (M : Mk X.K C f) (F : FnOk X.prog X.w X.K X.mg X.base CX k f fd ps sp) (hr : Room (k + 1) X.A) (hb : Binds X.K fd ps ds) (hd : Vals dvs ds)
    (hx : PassesS CX X E) (I : Inv X pins σ H s) (r : Vals vs us)
    (h : ∀ x dx, H x = none → H dx = none → dx ≠ x → sp (.ref x :: (vs ++ dvs)) (upd (upd H dx (.own x)) x (.ins C dx [])) (fun v H2 => v = .non ∧ Q (.ref x) H2) (E σ)) :
    wpAny (model X.prog X.w) X.A (call (.ref C) us) (EP X pins σ Q) X.xe s := by
  have hq := h (s.heap.objs.size + 1) s.heap.objs.size (I.hok.fresh (Nat.le_succ _)) (I.hok.fresh (Nat.le_refl _)) (Nat.ne_of_lt (Nat.lt_succ_self _))
  have I2 := Inv.made (C := C) I
  have r2 : Vals (V.ref (s.heap.objs.size + 1) :: (vs ++ dvs)) (Value.ref (s.heap.objs.size + 1) :: (us ++ ds)) := .cons rfl (r.append hd)
  have hl : (Value.ref (s.heap.objs.size + 1) :: us ++ ds).length = ps.length := by
    have e := r2.length
    rw [F.len _ _ _ _ hq] at e
    exact e.symm
  refine wpAny_call (make_map (f := f) I.kIn M.makes M.init (beq_iff_eq.mp M.fn) (codeAny_mono (F.run _ X.stack _ _ ⟨Value.ref (s.heap.objs.size + 1) :: us, []⟩ (Value.ref (s.heap.objs.size + 1) :: (us ++ ds)) _ _ (E σ) (hr.make C us [])
    (I2.env0.make C us []) (hb _ (Value.ref (s.heap.objs.size + 1) :: us) I2.kIn hl) r2 hq) fun r s' hq' => ?_))
  match r, hq' with
  | .error e, hq' => exact hx pins σ _ _ e s' I2 hq'
  | .ok (.ret u), hq' =>
    obtain ⟨v, H', I3, rv, ev, q3⟩ := I2.after hq'
    subst ev
    exact ⟨rv, ⟨V.ref (s.heap.objs.size + 1), H', I3, rfl, q3⟩⟩
  | .ok .next, hq' => exact False.elim hq'
  | .ok .brk, hq' => exact False.elim hq'
  | .ok .cont, hq' => exact False.elim hq'
theorem pe_makeS (M : Mk X.K C f) (F : FnOk X.prog X.w X.K X.mg X.base CX k f fd ps sp) (hr : Room (k + 1) X.A) (hg : Gl X x) (hm : X.mg x = some (.ref C)) (hb : Binds X.K fd ps ds) (hd : Vals dvs ds) (hx : PassesS CX X E)
    (ha : PA X (e :: es) t) (hdb : (x == ("__debug__" : Str)) = false := by decide) (he : starEach (e :: es) X.env = (false, eval e X.env) :: starEach es X.env := by rfl) (hpl : (backTo pos (starEach es X.env)).any (·.1) = false := by rfl) :
    PE X (.Call (.Name x p) (e :: es) [] pos) (tMakeS C sp dvs E t) := by
  intro pins s σ H Q I h
  refine wpAny_Call_Name_kw (ld_glob I hg hm (PySem.W.callWith_K (h₀ := X.base) I.ok.mod.kin M.kp (thn (ha pos pins s σ H _ I h) fun us s1 ⟨vs, H1, I1, r, q⟩ => ⟨I1.kIn, ?_⟩) he hpl) hdb)
  exact run_makeS M F hr hb hd hx I1 r q
end
end L2
set_option Elab.async false
set_option linter.all false
set_option maxRecDepth 100000
namespace L2
open PySem PySem.Spec PyProof.Rows
structure FunD (K : PySem.W.Frag) (x qual : Str) (st : Stmt) (dV : Value) (f : Addr) (fd : FuncData) : Prop where
  ex : ∃ (oc : Value) (od : Option Addr) (kV doc pm : Value) (an : Option Addr) (cdv ct : Value) (osl : Array (Option Value)),
    fd = PySem.W.fnOf x qual (defArgs st) (defBody st) (defScope st) dV kV doc pm an cdv ct ∧ K.lookup f = some ⟨oc, od, .func fd, osl⟩ ∧ PySem.W.codeIn K cdv qual = true
section
variable {P : Program} {w : World} {K : PySem.W.Frag} {mg : Str → Option Value} {base : Heap} {x qual : Str} {st : Stmt} {dV : Value} {f : Addr} {fd : FuncData} {N ps : List Str} {k : Nat} {sp : Sp}
theorem FunD.okN (F : FunD K x qual st dV f fd) (S : FnScope N ps (defScope st)) (len : ∀ vs H Q E, sp vs H Q E → vs.length = ps.length)
    (hbody : ∀ (cdv : Value) (A : Around) (outer : List Env) (s : Shared) (H : Hp) (vs : List V) (Q : VK) (E : XK), Room k (A.deeper (envOfC qual (defScope st) s.heap.objs.size f cdv)) → sp vs H Q E →
      ∃ t, PSs (cxOf CX0 P w K mg base N qual (defScope st) f cdv A outer s H E).nox (defBody st) t ∧ t { nx := fun _ H' => Q .non H', rt := Q } (start N vs) H) : FnOk P w K mg base CX0 (k + 1) f fd ps sp := by
  obtain ⟨oc, od, kV, doc, pm, an, cdv, ct, osl, rfl, lk, hcd⟩ := F.ex
  refine fn_of lk hcd S len fun A outer s H vs Q E hr hsp => ?_
  obtain ⟨t, h, q⟩ := hbody cdv A outer s H vs Q E hr hsp
  exact ⟨t, h.nox, q⟩
theorem FunD.okX (F : FunD K x qual st dV f fd) (S : FnScope N ps (defScope st)) (len : ∀ vs H Q E, sp vs H Q E → vs.length = ps.length)
    (hbody : ∀ (cdv : Value) (A : Around) (outer : List Env) (s : Shared) (H : Hp) (vs : List V) (Q : VK) (E : XK), Room k (A.deeper (envOfC qual (defScope st) s.heap.objs.size f cdv)) → sp vs H Q E →
      ∃ t, PSs (cxOf (CXe P w) P w K mg base N qual (defScope st) f cdv A outer s H E) (defBody st) t ∧ t { nx := fun _ H' => Q .non H', rt := Q } (start N vs) H) : FnOk P w K mg base (CXe P w) (k + 1) f fd ps sp := by
  obtain ⟨oc, od, kV, doc, pm, an, cdv, ct, osl, rfl, lk, hcd⟩ := F.ex
  exact fn_of lk hcd S len fun A outer s H vs Q E hr hsp => hbody cdv A outer s H vs Q E hr hsp
theorem FunD.binds (F : FunD K x qual st .none f fd)
    (h : ∀ (kV doc pm : Value) (an : Option Addr) (cdv ct : Value) (us : List Value), us.length = ps.length → bindArgs (PySem.W.fnOf x qual (defArgs st) (defBody st) (defScope st) .none kV doc pm an cdv ct) ⟨us, []⟩ = pure (ps.zip us)) : Binds K fd ps [] := by
  obtain ⟨oc, od, kV, doc, pm, an, cdv, ct, osl, rfl, lk, hcd⟩ := F.ex
  exact .all (h kV doc pm an cdv ct)
theorem funD_mk {oc : Value} {od an : Option Addr} {osl : Array (Option Value)} {kV doc pm cdv ct : Value} (l : K.lookup f = some ⟨oc, od, .func (PySem.W.fnOf x qual (defArgs st) (defBody st) (defScope st) dV kV doc pm an cdv ct), osl⟩)
    (c : PySem.W.codeIn K cdv qual = true) : FunD K x qual st dV f (PySem.W.fnOf x qual (defArgs st) (defBody st) (defScope st) dV kV doc pm an cdv ct) := ⟨⟨oc, od, kV, doc, pm, an, cdv, ct, osl, rfl, l, c⟩⟩
end
structure Cal (P : Program) (w : World) (K : PySem.W.Frag) (mg : Str → Option Value) (base : Heap) (CX : CXT) (k : Nat) (x : Str) (ps : List Str) (ds : List Value) (sp : Sp) : Prop where
  ex : ∃ f fd, FnOk P w K mg base CX k f fd ps sp ∧ Binds K fd ps ds ∧ PySem.W.keepIn K (.ref f) = true ∧ mg x = some (.ref f)
structure MCal (P : Program) (w : World) (K : PySem.W.Frag) (mg : Str → Option Value) (base : Heap) (CX : CXT) (k : Nat) (C : Addr) (m : Str) (ps : List Str) (ds : List Value) (sp : Sp) : Prop where
  ex : ∃ f fd, FnOk P w K mg base CX k f fd ps sp ∧ Binds K fd ps ds ∧ Meth K C m f
  cl : Cls K C
structure Mak (P : Program) (w : World) (K : PySem.W.Frag) (mg : Str → Option Value) (base : Heap) (CX : CXT) (k : Nat) (x : Str) (C : Addr) (ps : List Str) (ds : List Value) (sp : Sp) : Prop where
  ex : ∃ f fd, FnOk P w K mg base CX k f fd ps sp ∧ Binds K fd ps ds ∧ Mk K C f
  at_ : mg x = some (.ref C)
structure CCal (P : Program) (w : World) (K : PySem.W.Frag) (mg : Str → Option Value) (base : Heap) (CX : CXT) (k : Nat) (x : Str) (m : Str) (ps : List Str) (ds : List Value) (sp : Sp) : Prop where
  ex : ∃ C f fd, FnOk P w K mg base CX k f fd ps sp ∧ Binds K fd ps ds ∧ CMeth K C m f ∧ mg x = some (.ref C)
structure Exc (K : PySem.W.Frag) (mg : Str → Option Value) (base : Heap) (x : Str) (C : Addr) : Prop where
  ex : ∃ bm nid init B, OwnCls x C bm nid mg base ∧ ExcBaseFacts B nid init bm
  at_ : mg x = some (.ref C)
  me : PySem.W.exmOne K (.ref C) (.ref C) = some true
theorem pass00 {X : Cx} : PassesS CX0 X (fun _ => E0) := fun _ _ _ _ _ _ _ h => h.elim
theorem passF {X : Cx} {P : Program} {w : World} : PassesS (CXe P w) X (fun _ => E0) := by
  rintro _ _ _ _ _ _ _ ⟨_, _, _, _, _, _, _, _, _, _, _, _, h⟩
  exact h.elim
section
variable {X : Cx} {CX : CXT} {k j : Nat} {C : Addr} {ps : List Str} {sp : Sp} {dvs : List V} {ds : List Value} {E : St → XK} {x m : Str} {p pos apos : Pos} {e o : Expr} {es : List Expr} {ta : TE} {t : TA}
theorem pe_c (c : Cal X.prog X.w X.K X.mg X.base CX k x ps ds sp) (hr : Room j X.A) (hx : PassesS CX X E) (hd : Vals dvs ds) (ha : PA X (e :: es) t) (hk : k ≤ j := by decide) (hg : Gl X x := by rfl)
    (hdb : (x == ("__debug__" : Str)) = false := by decide) (he : starEach (e :: es) X.env = (false, eval e X.env) :: starEach es X.env := by rfl) (hpl : (backTo pos (starEach es X.env)).any (·.1) = false := by rfl) :
    PE X (.Call (.Name x p) (e :: es) [] pos) (tCallS sp dvs E t) := by
  obtain ⟨f, fd, F, hb, hk', hm⟩ := c.ex
  exact pe_callS F (hr.mono hk) hg hm hk' hb hd hx ha hdb he hpl
theorem pe_m {pl : Sem Bool} (c : MCal X.prog X.w X.K X.mg X.base CX k C m ps ds sp) (he : PE X o ta) (hr : Room j X.A) (hx : PassesS CX X E) (hd : Vals dvs ds) (ha : PA X (e :: es) t) (hk : k ≤ j := by decide)
    (hst : starEach (e :: es) X.env = (false, eval e X.env) :: starEach es X.env := by rfl) (hpl : (backTo pos (starEach es X.env)).any (·.1) = false := by rfl)
    (ht : eval (.Call (.Attribute o m apos) (e :: es) [] pos) X.env = (do
      let ov ← eval o X.env
      standAt apos.atName
      let (f, first) ← holding [ov] (getMethod ov m pl)
      callWith pos f first (backTo pos (starEach (e :: es) X.env)) (backToKw pos (keywordEach [] X.env))) := by rfl) :
    PE X (.Call (.Attribute o m apos) (e :: es) [] pos) (tMethS C m sp dvs E ta t) := by
  obtain ⟨f, fd, F, hb, hm⟩ := c.ex
  exact pe_methS he c.cl hm F (hr.mono hk) hb hd hx ha hst hpl ht
theorem pe_m0 {pl : Sem Bool} (c : MCal X.prog X.w X.K X.mg X.base CX k C m ps ds sp) (he : PE X o ta) (hr : Room j X.A) (hx : PassesS CX X E) (hd : Vals dvs ds) (hk : k ≤ j := by decide)
    (ht : eval (.Call (.Attribute o m apos) [] [] pos) X.env = (do
      let ov ← eval o X.env
      standAt apos.atName
      let (f, first) ← holding [ov] (getMethod ov m pl)
      callWith pos f first (backTo pos (starEach [] X.env)) (backToKw pos (keywordEach [] X.env))) := by rfl) :
    PE X (.Call (.Attribute o m apos) [] [] pos) (tMethS C m sp dvs E ta tNil) := by
  obtain ⟨f, fd, F, hb, hm⟩ := c.ex
  intro pins s σ H Q I h
  refine PySem.W.methodCall_KW (pl := pl) (thn (he pins s σ H _ I h) fun u s1 ⟨x, H1, I1, rx, a, dx, fs, ex, ea, l, q⟩ => ?_) ht
  subst ex
  obtain rfl : u = Value.ref a := rx
  refine getmeth_ok I1 ea c.cl hm l ?_
  exact PySem.W.callWith_K0 (first := [.ref a]) I1.kIn hm.kp (run_fnS (us := [.ref a]) (vs := [.ref a]) F (hr.mono hk) hb hd hx I1 (.cons rfl .nil) q)
theorem pe_mk (c : Mak X.prog X.w X.K X.mg X.base CX k x C ps ds sp) (hr : Room j X.A) (hx : PassesS CX X E) (hd : Vals dvs ds) (ha : PA X (e :: es) t) (hk : k + 1 ≤ j := by decide) (hg : Gl X x := by rfl)
    (hdb : (x == ("__debug__" : Str)) = false := by decide) (he : starEach (e :: es) X.env = (false, eval e X.env) :: starEach es X.env := by rfl) (hpl : (backTo pos (starEach es X.env)).any (·.1) = false := by rfl) :
    PE X (.Call (.Name x p) (e :: es) [] pos) (tMakeS C sp dvs E t) := by
  obtain ⟨f, fd, F, hb, hm⟩ := c.ex
  exact pe_makeS hm F (hr.mono hk) hg c.at_ hb hd hx ha hdb he hpl
theorem pe_mk0 (c : Mak X.prog X.w X.K X.mg X.base CX k x C ps ds sp) (hr : Room j X.A) (hx : PassesS CX X E) (hd : Vals dvs ds) (hk : k + 1 ≤ j := by decide) (hg : Gl X x := by rfl) (hdb : (x == ("__debug__" : Str)) = false := by decide) :
    PE X (.Call (.Name x p) [] [] pos) (tMakeS C sp dvs E tNil) := by
  obtain ⟨f, fd, F, hb, hm⟩ := c.ex
  intro pins s σ H Q I h
  refine wpAny_Call_Name_kw (ld_glob I hg c.at_ ?_ hdb)
  exact PySem.W.callWith_K0 I.kIn hm.kp (run_makeS (us := []) hm F (hr.mono hk) hb hd hx I .nil h)
theorem pe_cm {pl : Sem Bool} (c : CCal X.prog X.w X.K X.mg X.base CX k x m ps ds sp) (hr : Room j X.A) (hx : PassesS CX X E) (hd : Vals dvs ds) (ha : PA X (e :: es) t) (hk : k ≤ j := by decide) (hg : Gl X x := by rfl)
    (hdb : (x == ("__debug__" : Str)) = false := by decide) (hst : starEach (e :: es) X.env = (false, eval e X.env) :: starEach es X.env := by rfl) (hpl : (backTo pos (starEach es X.env)).any (·.1) = false := by rfl)
    (ht : eval (.Call (.Attribute (.Name x p) m apos) (e :: es) [] pos) X.env = (do
      let ov ← eval (.Name x p) X.env
      standAt apos.atName
      let (f, first) ← holding [ov] (getMethod ov m pl)
      callWith pos f first (backTo pos (starEach (e :: es) X.env)) (backToKw pos (keywordEach [] X.env))) := by rfl) :
    PE X (.Call (.Attribute (.Name x p) m apos) (e :: es) [] pos) (tCallS sp dvs E t) := by
  obtain ⟨C, f, fd, F, hb, hm, hmg⟩ := c.ex
  exact pe_cmeth hm hg hmg F (hr.mono hk) hb hd hx ha hdb hst hpl ht
theorem ps_rz {np cpos : Pos} (x' : Exc X.K X.mg X.base x C) (hc : X.calm = true) (hg : Gl X x) (hx : RaisesTo X E) (ha : PA X (e :: es) t) (he : starEach (e :: es) X.env = (false, eval e X.env) :: starEach es X.env := by rfl) (hpl : (backTo cpos (starEach es X.env)).any (·.1) = false := by rfl) (hd : (x == ("__debug__" : Str)) = false := by decide) :
    PS X (.Raise (some (.Call (.Name x np) (e :: es) [] cpos)) none pos) (tRaise C E t) := by
  obtain ⟨bm, nid, init, B, O, FB⟩ := x'.ex
  exact ps_raise O FB hc hg hx ha he hpl hd
end
theorem pe_globI {X : Cx} {x : Str} {i : Int} {pos : Pos} (hm : ∃ tk, X.mg x = some (.int i tk)) (hg : Gl X x) (hd : (x == ("__debug__" : Str)) = false := by decide) : PE X (.Name x pos) (tC (.int i)) := by
  obtain ⟨tk, e⟩ := hm
  exact pe_glob hg e ⟨tk, rfl⟩ hd
def CDivB (_ j : Int) : Prop := j ≠ 0 ∧ j.natAbs < 2 ^ 8999
theorem op_fdivB {X : Cx} : OpR X (binaryOp .FloorDiv) (rI CDivB fun i j => .int (i.fdiv j)) := opI fun _ j _ _ _ _ _ hc q => floordiv_int hc.1 q (.inl (PyProof.noPylong_of_log2 (by
  have h0 : j.natAbs ≠ 0 := fun z => hc.1 (Int.natAbs_eq_zero.mp z)
  exact Nat.lt_of_lt_of_le ((Nat.log2_lt h0).mpr hc.2) (by decide))))
theorem cEq {a b : Int} {A B : Prop} (h1 : a = b → A) (h2 : a ≠ b → B) : if decide (V.int a = V.int b) = true then A else B := by
  by_cases h : a = b
  · rw [decide_eq_true (congrArg V.int h)]; exact iteT (h1 h)
  · rw [decide_eq_false fun z => h (by injection z)]; exact iteF (h2 h)
theorem cNe {a b : Int} {A B : Prop} (h1 : a ≠ b → A) (h2 : a = b → B) : if (!decide (V.int a = V.int b)) = true then A else B := by
  by_cases h : a = b
  · rw [decide_eq_true (congrArg V.int h)]; exact iteF (h2 h)
  · rw [decide_eq_false fun z => h (by injection z)]; exact iteT (h1 h)
theorem cD {c : Prop} [Decidable c] {A B : Prop} (h1 : c → A) (h2 : ¬ c → B) : if decide c = true then A else B := by
  by_cases h : c
  · rw [decide_eq_true h]; exact iteT (h1 h)
  · rw [decide_eq_false h]; exact iteF (h2 h)
theorem cN {c : Prop} [Decidable c] {A B : Prop} (h1 : ¬ c → A) (h2 : c → B) : if (!decide c) = true then A else B := by
  by_cases h : c
  · rw [decide_eq_true h]; exact iteF (h2 h)
  · rw [decide_eq_false h]; exact iteT (h1 h)
theorem cNB {b : Bool} {A B : Prop} (h1 : b = false → A) (h2 : b = true → B) : if (!b) = true then A else B := by
  cases b with
  | true => exact iteF (h2 rfl)
  | false => exact iteT (h1 rfl)
end L2
namespace L2
open PySem PySem.Spec PyProof.Rows
mutual
inductive Rds (K : PySem.W.Frag) (H : Hp) : V → PyData → Prop
  | non : Rds K H .non .none
  | bl (b : Bool) : Rds K H (.bl b) (.bool b)
  | int (i : Int) : Rds K H (.int i) (.int i)
  | str (x : Str) : Rds K H (.str x) (.str x)
  | tup {a : Addr} {xs : List V} {ds : List PyData} : SqT K H a xs → RdsAll K H xs ds → Rds K H (.ref a) (.tuple ds)
  | lst {a : Addr} {xs : List V} {ds : List PyData} : SqL K H a xs → RdsAll K H xs ds → Rds K H (.ref a) (.list ds)
inductive RdsAll (K : PySem.W.Frag) (H : Hp) : List V → List PyData → Prop
  | nil : RdsAll K H [] []
  | cons {x : V} {xs : List V} {d : PyData} {ds : List PyData} : Rds K H x d → RdsAll K H xs ds → RdsAll K H (x :: xs) (d :: ds)
end
section
variable {X : Cx} {pins : List (Addr × Obj)} {σ : St} {H : Hp} {s : Shared}
mutual
theorem Inv.rds (I : Inv X pins σ H s) : ∀ {v : V} {d : PyData} {u : Value}, Rds X.K H v d → RelV v u → ∃ as, Reads s.heap u d as
  | _, _, _, .non, r => by cases (show _ = Value.none from r); exact ⟨_, .none⟩
  | _, _, _, .bl b, r => by cases (show _ = Value.bool b from r); exact ⟨_, .bool b⟩
  | _, _, _, .int i, r => by obtain ⟨t, rfl⟩ := r; exact ⟨_, .int i t⟩
  | _, _, _, .str x, r => by obtain ⟨t, rfl⟩ := r; exact ⟨_, .str x t⟩
  | _, _, _, .tup (a := a) h hs, r => by
    cases (show _ = Value.ref a from r)
    obtain ⟨its, rv, ⟨o, ho, hc, n, hd⟩, _⟩ := I.tuple h
    obtain ⟨as, q⟩ := Inv.rdsAll I hs rv
    exact ⟨as, .tuple ho hc hd (by simpa using q)⟩
  | _, _, _, .lst (a := a) h hs, r => by
    cases (show _ = Value.ref a from r)
    obtain ⟨its, rv, p, _⟩ := I.list h
    obtain ⟨o, ho, hc, n, hd⟩ := p.isList
    obtain ⟨as, q⟩ := Inv.rdsAll I hs rv
    exact ⟨_, .list ho hc hd (by simpa using q)⟩
theorem Inv.rdsAll (I : Inv X pins σ H s) : ∀ {vs : List V} {ds : List PyData} {us : List Value}, RdsAll X.K H vs ds → Vals vs us → ∃ as, ReadsAll s.heap us ds as
  | _, _, _, .nil, .nil => ⟨_, .nil⟩
  | _, _, _, .cons h hs, .cons r rs => by
    obtain ⟨as, q⟩ := Inv.rds I h r
    obtain ⟨bs, p⟩ := Inv.rdsAll I hs rs
    exact ⟨_, .cons q p⟩
end
end
section
variable {X : Cx}
theorem op_eqD (hu : X.A.units + 64 < cLine) : OpR X (compareOp .Eq) (fun x y H Q => ∃ d e, Rds X.K H x d ∧ Rds X.K H y e ∧ SeqAt.shaped d = true ∧ SeqAt.shaped e = true ∧ Q (.bl (PyData.eqv d e)) H) := by
  intro pins s σ H x y u v Q I rx ry h
  obtain ⟨d, e, hd, he, s1, s2, q⟩ := h
  obtain ⟨as, ra⟩ := I.rds hd rx
  obtain ⟨bs, rb⟩ := I.rds he ry
  exact eq_dataH ra rb s1 s2 hu ⟨.bl (PyData.eqv d e), H, I, rfl, q⟩
theorem op_neD (hu : X.A.units + 64 < cLine) : OpR X (compareOp .NotEq) (fun x y H Q => ∃ d e, Rds X.K H x d ∧ Rds X.K H y e ∧ SeqAt.shaped d = true ∧ SeqAt.shaped e = true ∧ Q (.bl (!PyData.eqv d e)) H) := by
  intro pins s σ H x y u v Q I rx ry h
  obtain ⟨d, e, hd, he, s1, s2, q⟩ := h
  obtain ⟨as, ra⟩ := I.rds hd rx
  obtain ⟨bs, rb⟩ := I.rds he ry
  exact ne_dataH ra rb s1 s2 hu ⟨.bl (!PyData.eqv d e), H, I, rfl, q⟩
end
theorem eqv_ints : ∀ ns ms : List Int, PyData.eqvAll (ns.map PyData.int) (ms.map PyData.int) = decide (ns = ms)
  | [], [] => by simp [PyData.eqvAll]
  | [], _ :: _ => by simp [PyData.eqvAll]
  | _ :: _, [] => by simp [PyData.eqvAll]
  | a :: r, b :: t => by
    simp only [List.map_cons, PyData.eqvAll, PyData.eqv, eqv_ints r t]
    by_cases h : a = b <;> by_cases h' : r = t <;> simp [h, h']
section
variable {X : Cx}
def rEqT (K : PySem.W.Frag) : R2 := fun x y H Q => ∃ (a b : Addr) (xs ys : List Int), x = .ref a ∧ y = .ref b ∧ SqT K H a (xs.map V.int) ∧ SqT K H b (ys.map V.int) ∧ Q (.bl (decide (xs = ys))) H
def rNeT (K : PySem.W.Frag) : R2 := fun x y H Q => ∃ (a b : Addr) (xs ys : List Int), x = .ref a ∧ y = .ref b ∧ SqT K H a (xs.map V.int) ∧ SqT K H b (ys.map V.int) ∧ Q (.bl (!decide (xs = ys))) H
end
end L2
namespace HT
open PySem PyProof.Rows
section
open PySem.SeqAt
open PySem.AutoSeq1 (wpAny_loadPart')
open PySem.MeetsSeq PySem.MeetsSeq2 PySem.MeetsSeq3
end
end HT
namespace L2
open PySem PySem.Spec PyProof.Rows
variable {X : Cx}
def rGtT (K : PySem.W.Frag) : R2 := fun x y H Q => ∃ (a b : Addr) (ns ms : List Int), x = .ref a ∧ y = .ref b ∧ SqT K H a (ns.map V.int) ∧ SqT K H b (ms.map V.int) ∧ Q (.bl (HT.lexLt ms ns)) H
end L2
namespace PySem
namespace F
end F
end PySem
namespace L2
open PySem PySem.Spec PyProof.Rows PySem.MeetsSeq
section
variable {prog : Program} {w : World} {A : Around} {E : Value → Shared → Prop} {s : Shared}
def IsRvd (h : Heap) (a t : Addr) (i : Int) : Prop := ∃ o, h.get? a = some o ∧ o.cls = .type "reversed" ∧ o.data = .fields #[.ref t, rawInt i]
end
def Itv (K : PySem.W.Frag) (a : Addr) (n : Nat) : It :=
  ⟨fun i H => i < n ∧ ∃ xs, SqT K H a xs ∧ xs.length = n, fun i H x H' => H' = H ∧ ∀ xs, SqT K H a xs → xs[n - 1 - i]? = some x, fun i H => i = n⟩
def iRvd (K : PySem.W.Frag) (ta : TA) : TI := fun σ H R => ta σ H fun vs H1 => ∃ a xs, vs = [.ref a] ∧ SqT K H1 a xs ∧ R (Itv K a xs.length) H1
theorem walk_comp {J : It} {n : Nat} {P : Nat → V → Hp → Prop} {mp : List (Option Nat)} {wi : TI} {g : TG} {tc : TT} {te : TE} {σ : St} {H H1 : Hp} {Q : VK} (S : Walk J H1 n P) (hn : n ≤ 1000) (hwi : ∀ R, R J H1 → wi σ H R) (Sv : St → Prop) (p : Nat → Bool) (f : Nat → V) (h0 : Sv (st0 mp σ))
    (step : ∀ i x σ' H2, i < n → Sv σ' → Same H1 H2 → P i x H2 → ∀ (Ny : V → St → Hp → Prop) (Nn : St → Hp → Prop), (∀ σ2 H5, Sv σ2 → Same H2 H5 → p i = true → Ny (f i) σ2 H5) → (∀ σ2 H4, Sv σ2 → Same H2 H4 → p i = false → Nn σ2 H4) →
      g x σ' H2 fun σ2 H3 => tc σ2 H3 fun b H4 => if b = true then te σ2 H4 fun v H5 => Ny v σ2 H5 else Nn σ2 H4)
    (hQ : ∀ D H', Same H1 H' → H' D = some (.lst (((List.range n).filter p).map f)) → Q (.ref D) H') : tComp mp wi g tc te σ H Q := by
  unfold tComp
  refine hwi _ fun D hD => ?_
  exact comp_vals S hD (Nat.le_trans hn (by rw [sizeLine_eq]; decide)) Sv p f h0 step fun H' e hL => hQ D H' e hL
end L2
namespace L2
open PySem PySem.Spec PyProof.Rows
def blk1 (X : Cx) (N : List Str) (scope : Scope) (cl : List (Str × Addr)) (own : Str) (C : Addr) (s : Shared) (H : Hp) (fp : List Addr) : Cx :=
  { X with N := N, s₀ := s, H₀ := H, env := compEnvC scope ((own, C + 1) :: cl) C X.env, outer := X.stack, ex := fp, fn := fun x => decide (x = own), pn := [], xe := fun _ _ => False }
structure Blk1 (X : Cx) (N : List Str) (scope : Scope) (cl : List (Str × Addr)) (own : Str) (mp : List (Option Nat)) : Prop where
  clos : closureFor scope X.env = pure cl
  cf : ∀ n, cellsFrom n scope.names cl = (own, n) :: cl
  pc : ∀ h : Heap, pushCells h scope.names = h.push { cls := .type "cell", data := .cell none }
  kind : scope.kind = .function
  nms : ∀ y ∈ scope.names, y.2 = .local → scope.names.lookup y.1 = some .local
  nd : N.Nodup
  sub : ∀ x c, cl.lookup x = some c → X.env.cells.lookup x = some c
  has : ∀ x, ((relabel scope X.env).names.lookup x = some .cell ∨ (relabel scope X.env).names.lookup x = some .free) → x = own ∨ ∃ c, cl.lookup x = some c
  len : mp.length = N.length
  map : ∀ (i j : Nat) (x : Str), mp[i]? = some (some j) → N[i]? = some x → x ≠ own ∧ X.N[j]? = some x ∧ (X.env.scope.names.lookup x = some .cell ∨ X.env.scope.names.lookup x = some .free) ∧
    ((relabel scope X.env).names.lookup x = some .cell ∨ (relabel scope X.env).names.lookup x = some .free)
theorem look_own {own x : Str} {n c : Addr} {cl : List (Str × Addr)} (h : ((own, n) :: cl).lookup x = some c) : (x = own ∧ c = n) ∨ (x ≠ own ∧ cl.lookup x = some c) := by
  rw [List.lookup_cons] at h
  cases q : (x == own) with
  | true => rw [q] at h; exact .inl ⟨eq_of_beq q, (Option.some.inj h).symm⟩
  | false =>
    rw [q] at h
    have nz : x ≠ own := fun z => by
      rw [z, beq_self_eq_true] at q
      cases q
    exact .inr ⟨nz, h⟩
theorem look_at {own : Str} {n : Addr} {cl : List (Str × Addr)} : ((own, n) :: cl).lookup own = some n := by
  rw [List.lookup_cons, beq_self_eq_true]
theorem look_ne {own x : Str} {n : Addr} {cl : List (Str × Addr)} (h : x ≠ own) : ((own, n) :: cl).lookup x = cl.lookup x := by
  rw [List.lookup_cons]
  cases q : (x == own) with
  | true => exact absurd (eq_of_beq q) h
  | false => rfl
section
variable {X : Cx} {pins : List (Addr × Obj)} {σ : St} {H : Hp} {s : Shared} {N : List Str} {scope : Scope} {cl : List (Str × Addr)} {own : Str} {mp : List (Option Nat)} {fp : List Addr}
end
end L2
namespace L2
open PySem PySem.Spec PyProof.Rows
def SubC (cl cells : List (Str × Addr)) : Prop := ∀ x c, cl.lookup x = some c → cells.lookup x = some c
theorem subc_nil {cells : List (Str × Addr)} : SubC [] cells := fun _ _ h => nomatch h
theorem subc_cons {cl cells : List (Str × Addr)} {a : Str} {n : Addr} (h : cells.lookup a = some n) (t : SubC cl cells) : SubC ((a, n) :: cl) cells := fun x c e => by
  rcases look_own e with ⟨rfl, rfl⟩ | ⟨_, e⟩
  · exact h
  · exact t x c e
theorem look_in : ∀ {cl : List (Str × Addr)} {x : Str}, x ∈ cl.map (·.1) → ∃ c, cl.lookup x = some c
  | (a, n) :: cl, x, h => by
    by_cases q : x = a
    · exact ⟨n, by rw [q]; exact look_at⟩
    · rcases List.mem_cons.mp h with z | z
      · exact absurd z q
      · obtain ⟨c, e⟩ := look_in z
        exact ⟨c, (look_ne q).trans e⟩
theorem fr_of {names : List (Str × NameKind)} {cl : List (Str × Addr)} {fs : List Str} (e : cl.map (·.1) = fs) (h : ∀ y ∈ names, y.2 = .free → y.1 ∈ fs) : ∀ y ∈ names, y.2 = .free → ∃ c, cl.lookup y.1 = some c :=
  fun y hy hf => look_in (by rw [e]; exact h y hy hf)
def MapC (X : Cx) (scope : Scope) (mp : List (Option Nat)) (N : List Str) : Prop := ∀ (i j : Nat) (x : Str), mp[i]? = some (some j) → N[i]? = some x → X.N[j]? = some x ∧ (X.env.scope.names.lookup x = some .cell ∨ X.env.scope.names.lookup x = some .free) ∧ scope.names.lookup x = some .free
theorem mapc_nil {X : Cx} {scope : Scope} {N : List Str} : MapC X scope [] N := fun i j x h => by simp at h
theorem mapc_none {X : Cx} {scope : Scope} {mp : List (Option Nat)} {N : List Str} {y : Str} (t : MapC X scope mp N) : MapC X scope (none :: mp) (y :: N) := fun i j x h1 h2 => by
  cases i with
  | zero => cases h1
  | succ i => exact t i j x (by simpa using h1) (by simpa using h2)
theorem mapc_some {X : Cx} {scope : Scope} {mp : List (Option Nat)} {N : List Str} {y : Str} {k : Nat} (h : X.N[k]? = some y) (hc : X.env.scope.names.lookup y = some .cell ∨ X.env.scope.names.lookup y = some .free) (hf : scope.names.lookup y = some .free)
    (t : MapC X scope mp N) : MapC X scope (some k :: mp) (y :: N) := fun i j x h1 h2 => by
  cases i with
  | zero =>
    simp only [List.getElem?_cons_zero, Option.some.injEq] at h1 h2
    subst h1 h2
    exact ⟨h, hc, hf⟩
  | succ i => exact t i j x (by simpa using h1) (by simpa using h2)
end L2
namespace L2
open PySem PySem.Spec PyProof.Rows
structure Mk0 (K : PySem.W.Frag) (C : Addr) : Prop where
  makes : PySem.W.makesIn K C = true
  init : PySem.W.findIn K (.ref C) "__init__" = some (some (.builtin "object.__init__"))
  kp : PySem.W.keepIn K (.ref C) = true
def tMk0 (C : Addr) : TE := fun _ H Q => ∀ x dx, H x = none → H dx = none → dx ≠ x → Q (.ref x) (upd (upd H dx (.own x)) x (.ins C dx []))
theorem pe_new0 {X : Cx} {C : Addr} {x : Str} {p pos : Pos} (M : Mk0 X.K C) (hm : X.mg x = some (.ref C)) (hg : Gl X x := by rfl) (hdb : (x == ("__debug__" : Str)) = false := by decide) : PE X (.Call (.Name x p) [] [] pos) (tMk0 C) := by
  intro pins s σ H Q I h
  refine wpAny_Call_Name_kw (ld_glob I hg hm (PySem.W.callWith_K0 I.kIn M.kp ?_) hdb)
  have hq := h (s.heap.objs.size + 1) s.heap.objs.size (I.hok.fresh (Nat.le_succ _)) (I.hok.fresh (Nat.le_refl _)) (Nat.ne_of_lt (Nat.lt_succ_self _))
  have I2 := Inv.made (C := C) I
  refine wpAny_call (make_map0 I.kIn M.makes M.init (fun self => PySem.W.Looks.of_pure (PySem.W.oi_bind self)) ?_)
  have Y := PySem.W.makes_of (M := model X.prog X.w) I.kIn M.makes
  have e2 : ((s.heap.push PySem.W.emptyDict).push (PySem.W.instObj C s.heap.objs.size)).get? (s.heap.objs.size + 1) = some (PySem.W.instObj C s.heap.objs.size) := by
    have := Heap.get?_push_size (s.heap.push PySem.W.emptyDict) (o := PySem.W.instObj C s.heap.objs.size) rfl
    rwa [Heap.size_push] at this
  have t1 : PySem.W.Looks (model X.prog X.w) ((s.heap.push PySem.W.emptyDict).push (PySem.W.instObj C s.heap.objs.size)) (typeOf (.ref (s.heap.objs.size + 1))) (.ref C) := (PySem.W.Looks.ld e2).andThen .now
  have t2 : PySem.W.Looks (model X.prog X.w) ((s.heap.push PySem.W.emptyDict).push (PySem.W.instObj C s.heap.objs.size)) (isInstance (.ref (s.heap.objs.size + 1)) (.type "object")) true :=
    t1.andThen (Y.top.keeps fun b o e => Heap.get?_push_of_some _ (Heap.get?_push_of_some _ e))
  refine codeAny_call_builtin PySem.W.oi_plain PySem.W.entry_oi (@PySem.W.check_slot (model X.prog X.w) _ _ _ "object.__init__" "object" "__init__" (.ref (s.heap.objs.size + 1)) [] [] _ PySem.W.oi_kind PySem.W.oi_split t2 (PySem.W.oi_args (.ref (s.heap.objs.size + 1))) ?_)
  rw [PySem.W.oi_run]
  exact wpAny_pure (And.intro rfl ⟨.ref (s.heap.objs.size + 1), _, I2, rfl, hq⟩)
end L2
namespace L2
open PySem PySem.Spec PyProof.Rows
abbrev yes2 : Int → Int → Bool := fun _ _ => true
theorem zipV_W (φ : Int → Int → Int) (xs ys : List Int) : zipV yes2 (fun x y => .int (φ x y)) xs ys = (List.zipWith φ xs ys).map V.int := by
  unfold zipV
  rw [List.filter_eq_self.mpr (fun _ _ => rfl)]
  refine List.ext_getElem? fun i => ?_
  rw [List.getElem?_map, List.getElem?_map, List.getElem?_zipWith]
  by_cases h : i < min xs.length ys.length
  · have h1 : i < xs.length := by omega
    have h2 : i < ys.length := by omega
    rw [List.getElem?_range h, List.getElem?_eq_getElem h1, List.getElem?_eq_getElem h2]
    simp [List.getD, h1, h2]
  · rw [List.getElem?_eq_none (by simpa using h)]
    rcases Nat.lt_or_ge i xs.length with q | q
    · rw [List.getElem?_eq_none (l := ys) (by omega)]
      cases xs[i]? <;> rfl
    · rw [List.getElem?_eq_none (l := xs) q]; rfl
end L2
namespace L2
open PySem PySem.Spec PyProof.Rows
end L2
namespace L2
open PySem PySem.Spec PyProof.Rows
def rTupleOf (K : PySem.W.Frag) : List V → Hp → VK → Prop := fun xs H Q => ∃ p ys, xs = [.ref p] ∧ ((SqL K H p ys ∧ ∀ l, H l = none → Q (.ref l) (upd H l (.tup ys))) ∨ (SqT K H p ys ∧ Q (.ref p) H))
def rListOf (K : PySem.W.Frag) : List V → Hp → VK → Prop := fun xs H Q => ∃ p ys, xs = [.ref p] ∧ (SqL K H p ys ∨ SqT K H p ys) ∧ ∀ l, H l = none → Q (.ref l) (upd H l (.lst ys))
def rLenSeq (K : PySem.W.Frag) : List V → Hp → VK → Prop := fun xs H Q => ∃ p ys, xs = [.ref p] ∧ (SqL K H p ys ∨ SqT K H p ys) ∧ Q (.int ys.length) H
def rSumX (K : PySem.W.Frag) (b : Bool) : List V → Hp → VK → Prop := fun xs H Q => ∃ (a : Addr) (ns : List Int), xs = [.ref a] ∧ SqX K b H a (ns.map V.int) ∧ Q (.int ns.sum) H
def rAllB (K : PySem.W.Frag) : List V → Hp → VK → Prop := fun xs H Q => ∃ (a : Addr) (bs : List Bool), xs = [.ref a] ∧ SqL K H a (bs.map V.bl) ∧ Q (.bl (bs.all id)) H
def rAnyB (K : PySem.W.Frag) : List V → Hp → VK → Prop := fun xs H Q => ∃ (a : Addr) (bs : List Bool), xs = [.ref a] ∧ SqL K H a (bs.map V.bl) ∧ Q (.bl (bs.any id)) H
def rIsInst (K : PySem.W.Frag) : List V → Hp → VK → Prop := fun xs H Q => ∃ x y t c b, xs = [x, y] ∧ clV y = some c ∧ TyOf K H x t ∧ PySem.W.kitOne K t c = some b ∧ Q (.bl b) H
section
variable {X : Cx} {K : PySem.W.Frag}
theorem call_tupleK (hK : X.K = K) : CallR X (.type "tuple") (rTupleOf K) := by subst hK; exact call_tuple_of
theorem call_lenK (hK : X.K = K) : CallR X (.builtin "len") (rLenSeq K) := by subst hK; exact call_len_seq
theorem call_allK (hK : X.K = K) (hc : X.calm = true) : CallR X (.builtin "all") (rAllB K) := by subst hK; exact call_allB hc
theorem call_isinstK (hK : X.K = K) : CallR X (.builtin "isinstance") (rIsInst K) := by subst hK; exact call_isinst
theorem pe_fldK {e : Expr} {f : Str} {pos : Pos} {ta : TE} (hK : X.K = K) (he : PE X e ta) (hb : attributeBase e f X.env (eval e X.env) = eval e X.env) : PE X (.Attribute e f pos) (tFld K ta f) := by subst hK; exact pe_fld he hb
theorem pi_listK {tg l : Expr} {tl : TE} (hK : X.K = K) (hl : PE X l tl) : PI X tg l (iList K tl) := by subst hK; exact pi_list hl
theorem pi_tupK {tg l : Expr} {tl : TE} (hK : X.K = K) (hl : PE X l tl) : PI X tg l (iTup K tl) := by subst hK; exact pi_tup hl
theorem pi_zipK {es : List Expr} {ek : Nat} {tpos p pos : Pos} (hK : X.K = K) (b1 b2 : Bool) {e1 e2 : Expr} {ta : TA} (hg : Gl X "zip") (hm : X.mg "zip" = none) (ha : PA X [e1, e2] ta)
    (he : starEach [e1, e2] X.env = (false, eval e1 X.env) :: starEach [e2] X.env := by rfl) (hpl : (backTo pos (starEach [e2] X.env)).any (·.1) = false := by rfl) :
    PI X (.Tuple es ek tpos) (.Call (.Name "zip" p) [e1, e2] [] pos) (iZip K b1 b2 ta) := by subst hK; exact pi_zip b1 b2 hg hm ha he hpl
theorem sl_listK (hK : X.K = K) : SlR X (rSlL K) := by subst hK; exact sl_list
end
end L2
set_option Elab.async false
set_option linter.all false
set_option maxRecDepth 100000
namespace L2
open PySem PySem.Spec PyProof.Rows
section
variable {κ : Type} [DecidableEq κ]
def valV (kvs : List (κ × V)) (k : κ) : Option V := (kvs.find? fun kv => decide (kv.1 = k)).map (·.2)
def putK (kvs : List (κ × V)) (k : κ) (v : V) : List (κ × V) :=
  if (kvs.any fun kv => decide (kv.1 = k)) = true then kvs.map (fun kv => if kv.1 = k then (kv.1, v) else kv) else kvs ++ [(k, v)]
def dropK (kvs : List (κ × V)) (k : κ) : List (κ × V) := kvs.filter fun kv => decide (kv.1 ≠ k)
theorem valV_nil {k : κ} : valV ([] : List (κ × V)) k = none := rfl
theorem valV_pos {p : κ × V} {r : List (κ × V)} {k : κ} (e : p.1 = k) : valV (p :: r) k = some p.2 := by simp [valV, List.find?_cons, e]
theorem valV_neg {p : κ × V} {r : List (κ × V)} {k : κ} (e : ¬ p.1 = k) : valV (p :: r) k = valV r k := by simp [valV, List.find?_cons, e]
theorem valV_any (k : κ) : ∀ kvs : List (κ × V), (kvs.any fun kv => decide (kv.1 = k)) = (valV kvs k).isSome
  | [] => rfl
  | p :: r => by
    rw [List.any_cons]
    by_cases e : p.1 = k
    · simp only [valV_pos e, decide_eq_true e, Bool.true_or, Option.isSome_some]
    · rw [valV_neg e, decide_eq_false e, Bool.false_or]; exact valV_any k r
theorem valV_map (k j : κ) (y : V) : ∀ kvs : List (κ × V), valV (kvs.map fun kv => if kv.1 = k then (kv.1, y) else kv) j = (valV kvs j).map fun x => if j = k then y else x
  | [] => rfl
  | p :: r => by
    have ih := valV_map k j y r
    rw [List.map_cons]
    by_cases h : p.1 = k
    · rw [if_pos h]
      by_cases e : p.1 = j
      · rw [valV_pos (p := (p.1, y)) e, valV_pos e, Option.map_some, if_pos (e.symm.trans h)]
      · rw [valV_neg (p := (p.1, y)) e, valV_neg e, ih]
    · rw [if_neg h]
      by_cases e : p.1 = j
      · rw [valV_pos (p := p) e, valV_pos e, Option.map_some, if_neg (fun z => h (e.trans z))]
      · rw [valV_neg (p := p) e, valV_neg e, ih]
theorem valV_snoc (k j : κ) (y : V) : ∀ kvs : List (κ × V), valV kvs k = none → valV (kvs ++ [(k, y)]) j = if j = k then some y else valV kvs j
  | [], _ => by
    by_cases e : k = j
    · rw [if_pos e.symm]; exact valV_pos (p := (k, y)) e
    · rw [if_neg (fun z => e z.symm)]; exact valV_neg (p := (k, y)) e
  | p :: r, hn => by
    rw [List.cons_append]
    have hk : ¬ p.1 = k := fun z => by rw [valV_pos z] at hn; cases hn
    rw [valV_neg hk] at hn
    have ih := valV_snoc k j y r hn
    by_cases e : p.1 = j
    · rw [valV_pos e, valV_pos e, if_neg (fun z => hk (e.trans z))]
    · rw [valV_neg e, valV_neg e, ih]
theorem valV_put (kvs : List (κ × V)) (k j : κ) (y : V) : valV (putK kvs k y) j = if j = k then some y else valV kvs j := by
  unfold putK
  by_cases a : (kvs.any fun kv => decide (kv.1 = k)) = true
  · rw [if_pos a, valV_map]
    rw [valV_any] at a
    by_cases e : j = k
    · obtain ⟨x, hx⟩ := Option.isSome_iff_exists.mp a
      rw [if_pos e, e, hx, Option.map_some, if_pos rfl]
    · rw [if_neg e]
      cases valV kvs j with
      | none => rfl
      | some x => rw [Option.map_some, if_neg e]
  · rw [if_neg a]
    refine valV_snoc k j y kvs ?_
    rw [valV_any] at a
    cases q : valV kvs k with
    | none => rfl
    | some x => rw [q] at a; exact (a rfl).elim
theorem length_putK (kvs : List (κ × V)) (k : κ) (v : V) : (putK kvs k v).length ≤ kvs.length + 1 := by
  unfold putK
  split
  · rw [List.length_map]; omega
  · rw [List.length_append, List.length_cons, List.length_nil]; omega
theorem RelO.isSome_eq {o : Option V} {u : Option Value} (r : RelO o u) : o.isSome = u.isSome := by
  cases o with
  | none => cases u with
    | none => rfl
    | some _ => exact (show False from r).elim
  | some _ => cases u with
    | none => exact (show False from r).elim
    | some _ => rfl
theorem RelO.getD {o : Option V} {u : Option Value} {d : V} {d' : Value} (r : RelO o u) (rd : RelV d d') : RelV (o.getD d) (u.getD d') := by
  cases o with
  | none => cases u with
    | none => exact rd
    | some _ => exact (show False from r).elim
  | some _ => cases u with
    | none => exact (show False from r).elim
    | some _ => exact r
theorem KV.val {kvs : List (κ × V)} {vs : List (κ × Value)} (r : KV kvs vs) (k : κ) : RelO (valV kvs k) (valueAt vs k) := by
  unfold KV at r
  induction r with
  | nil => exact True.intro
  | @cons p q ps qs h t ih =>
    obtain ⟨h1, h2⟩ := h
    by_cases e : p.1 = k
    · have e' : q.1 = k := h1.symm.trans e
      have b : valueAt (q :: qs) k = some q.2 := by simp [valueAt, List.find?_cons, e']
      rw [valV_pos e, b]; exact h2
    · have e' : ¬ q.1 = k := fun z => e (h1.trans z)
      have b : valueAt (q :: qs) k = valueAt qs k := by simp [valueAt, List.find?_cons, e']
      rw [valV_neg e, b]; exact ih
theorem KV.any {kvs : List (κ × V)} {vs : List (κ × Value)} (r : KV kvs vs) (k : κ) : (kvs.any fun kv => decide (kv.1 = k)) = vs.any fun kv => decide (kv.1 = k) := by
  unfold KV at r
  induction r with
  | nil => rfl
  | cons h t ih => rw [List.any_cons, List.any_cons, ih, h.1]
theorem KV.repl {kvs : List (κ × V)} {vs : List (κ × Value)} (r : KV kvs vs) (k : κ) {y : V} {u : Value} (ry : RelV y u) :
    KV (kvs.map fun kv => if kv.1 = k then (kv.1, y) else kv) (vs.map fun kv => if kv.1 = k then (kv.1, u) else kv) := by
  unfold KV at r ⊢
  induction r with
  | nil => exact .nil
  | @cons p q ps qs h t ih =>
    rw [List.map_cons, List.map_cons]
    refine .cons ?_ ih
    obtain ⟨h1, h2⟩ := h
    by_cases e : p.1 = k
    · rw [if_pos e, if_pos (h1.symm.trans e)]; exact ⟨h1, ry⟩
    · rw [if_neg e, if_neg (fun z => e (h1.trans z))]; exact ⟨h1, h2⟩
theorem KV.put {kvs : List (κ × V)} {vs : List (κ × Value)} (r : KV kvs vs) (k : κ) {y : V} {u : Value} (ry : RelV y u) : KV (putK kvs k y) (stored vs k u) := by
  unfold putK stored
  rw [r.any k]
  by_cases e : (vs.any fun kv => decide (kv.1 = k)) = true
  · rw [if_pos e, if_pos e]; exact r.repl k ry
  · rw [if_neg e, if_neg e]; exact Paired.snoc r ⟨rfl, ry⟩
theorem KV.length {kvs : List (κ × V)} {vs : List (κ × Value)} (r : KV kvs vs) : kvs.length = vs.length := Paired.length r
theorem dropK_le (kvs : List (κ × V)) (k : κ) : (dropK kvs k).length ≤ kvs.length := List.length_filter_le _ _
end
theorem kV_is {P : Program} {w : World} {k : Key} {u : Value} (r : RelV (kV k) u) : (mixKind P w).is k u = true := by
  cases k with
  | inl i => obtain ⟨t, e⟩ := (show ∃ t, u = Value.int i t from r); subst e; exact mixKind_int P w i t
  | inr x => obtain ⟨t, e⟩ := (show ∃ t, u = Value.str x t from r); subst e; exact mixKind_str P w x t
theorem items_are {P : Program} {w : World} : ∀ {ks : List Key} {us : List Value}, Vals (ks.map kV) us → ItemsAre (mixKind P w) ks us
  | [], _, r => by rw [List.map_nil] at r; cases r; exact .nil
  | k :: ks, _, r => by
    rw [List.map_cons] at r
    cases r with
    | cons h t => exact .cons (kV_is h) (items_are t)
abbrev KT (H : Hp) : List (List Key × V) → List (List Key × Addr × Value) → Prop := Paired fun p q => p.1 = q.1 ∧ H q.2.1 = some (.tup (p.1.map kV)) ∧ RelV p.2 q.2.2
theorem KT.val {H : Hp} {kvs : List (List Key × V)} {xs : List (List Key × Addr × Value)} (r : KT H kvs xs) (k : List Key) : RelO (valV kvs k) ((atKey xs k).map (·.2)) := by
  induction r with
  | nil => exact True.intro
  | @cons p q ps qs h t ih =>
    obtain ⟨h1, _, h2⟩ := h
    by_cases e : p.1 = k
    · have e' : q.1 = k := h1.symm.trans e
      have b : atKey (q :: qs) k = some q.2 := by simp [atKey, List.find?_cons, e']
      rw [valV_pos e, b]; exact h2
    · have e' : ¬ q.1 = k := fun z => e (h1.trans z)
      have b : atKey (q :: qs) k = atKey qs k := by simp [atKey, List.find?_cons, e']
      rw [valV_neg e, b]; exact ih
theorem KT.repl {H : Hp} {kvs : List (List Key × V)} {xs : List (List Key × Addr × Value)} (r : KT H kvs xs) (k : List Key) {y : V} {u : Value} (ry : RelV y u) :
    KT H (kvs.map fun kv => if kv.1 = k then (kv.1, y) else kv) (xs.map (putAt k u)) := by
  induction r with
  | nil => exact .nil
  | @cons p q ps qs h t ih =>
    rw [List.map_cons, List.map_cons]
    refine .cons ?_ ih
    obtain ⟨h1, h2, h3⟩ := h
    unfold putAt
    by_cases e : p.1 = k
    · rw [if_pos e, if_pos (h1.symm.trans e)]; exact ⟨h1, h2, ry⟩
    · rw [if_neg e, if_neg (fun z => e (h1.trans z))]; exact ⟨h1, h2, h3⟩
theorem KT.put {H : Hp} {kvs : List (List Key × V)} {xs : List (List Key × Addr × Value)} (r : KT H kvs xs) (k : List Key) {b : Addr} {y : V} {u : Value} (hb : H b = some (.tup (k.map kV))) (ry : RelV y u) :
    KT H (putK kvs k y) (storedH xs k b u) := by
  have e : (kvs.any fun kv => decide (kv.1 = k)) = (atKey xs k).isSome := by
    rw [valV_any, (r.val k).isSome_eq, Option.isSome_map]
  unfold putK storedH
  rw [e]
  by_cases q : (atKey xs k).isSome = true
  · rw [if_pos q, if_pos q]; exact r.repl k ry
  · rw [if_neg q, if_neg q]; exact Paired.snoc r ⟨rfl, hb, ry⟩
theorem KT.keeps {H H' : Hp} {kvs : List (List Key × V)} {xs : List (List Key × Addr × Value)} (r : KT H kvs xs) (ht : ∀ b ys, H b = some (.tup ys) → H' b = some (.tup ys)) : KT H' kvs xs :=
  Paired.mapP r fun _ _ z => ⟨z.1, ht _ _ z.2.1, z.2.2⟩
section
variable {P : Program} {w : World} {H : Hp} {h : Heap} {a : Addr}
theorem rd_of {u : HO} (ok : HOk P w H h) (e : Rd H a u) : ObjOk P w H h a u := e.ok ok
theorem dk_rd {kvs : List (Key × V)} (ok : HOk P w H h) (e : Rd H a (.dK kvs)) : kvs.length ≤ sizeLine ∧ (a == sysModules) = false ∧ ∃ vs, KV kvs vs ∧ h.DictOf (mixKind P w) a vs :=
  show ObjOk P w H h a (.dK kvs) from rd_of ok e
theorem dk_of {kvs : List (Key × V)} (ok : HOk P w H h) (e : H a = some (.dK kvs)) : kvs.length ≤ sizeLine ∧ (a == sysModules) = false ∧ ∃ vs, KV kvs vs ∧ h.DictOf (mixKind P w) a vs := dk_rd ok (.inl e)
theorem key_of {ks : List Key} (ok : HOk P w H h) (e : H a = some (.tup (ks.map kV))) : (tupleKind (mixKind P w)).is h ks a := by
  obtain ⟨_, its, r, o, h1, h2, n, h3⟩ := (show ObjOk P w H h a (.tup (ks.map kV)) from ok a _ e)
  exact ⟨o, its.toArray, n, h1, h2, h3, by simpa using items_are r⟩
theorem dt_rd {kvs : List (List Key × V)} (ok : HOk P w H h) (e : Rd H a (.dT kvs)) : kvs.length ≤ sizeLine ∧ (a == sysModules) = false ∧
    ∃ xs, KT H kvs xs ∧ h.DictOfH (tupleKind (mixKind P w)) a xs := by
  obtain ⟨z, y, xs, r, o, es, ep, h1, h2, h3, h4, h5⟩ := (show ObjOk P w H h a (.dT kvs) from rd_of ok e)
  refine ⟨z, y, xs, r, o, es, ep, h1, h2, h3, h4, fun x hx => ?_, h5⟩
  have all : ∀ {l : List (List Key × V)} {m : List (List Key × Addr × Value)}, KT H l m → ∀ x ∈ m, (tupleKind (mixKind P w)).is h x.1 x.2.1 := by
    intro l m q
    induction q with
    | nil => intro x hx; exact nomatch hx
    | @cons p q ps qs hq t ih =>
      intro x hx
      rcases List.mem_cons.mp hx with e | hx
      · subst e
        exact key_of ok (by rw [← hq.1]; exact hq.2.1)
      · exact ih x hx
  exact all r x hx
theorem dt_of {kvs : List (List Key × V)} (ok : HOk P w H h) (e : H a = some (.dT kvs)) : kvs.length ≤ sizeLine ∧ (a == sysModules) = false ∧
    ∃ xs, KT H kvs xs ∧ h.DictOfH (tupleKind (mixKind P w)) a xs := dt_rd ok (.inl e)
end
def DGet (H : Hp) (a : Addr) (y : V) (r : Option V) : Prop :=
  (∃ kvs k, Rd H a (.dK kvs) ∧ y = kV k ∧ r = valV kvs k) ∨ ∃ kvs k b, Rd H a (.dT kvs) ∧ y = .ref b ∧ H b = some (.tup (k.map kV)) ∧ r = valV kvs k
def DPut (H : Hp) (a : Addr) (y v : V) (H' : Hp) : Prop :=
  (∃ kvs k, H a = some (.dK kvs) ∧ y = kV k ∧ kvs.length < sizeLine ∧ H' = upd H a (.dK (putK kvs k v))) ∨
  ∃ kvs k b, H a = some (.dT kvs) ∧ y = .ref b ∧ H b = some (.tup (k.map kV)) ∧ kvs.length < sizeLine ∧ H' = upd H a (.dT (putK kvs k v))
theorem DGet.t {H : Hp} {a b : Addr} {kvs : List (List Key × V)} {k : List Key} (e : H a = some (.dT kvs)) (eb : H b = some (.tup (k.map kV))) : DGet H a (.ref b) (valV kvs k) := .inr ⟨kvs, k, b, .inl e, rfl, eb, rfl⟩
theorem DPut.t {H : Hp} {a b : Addr} {kvs : List (List Key × V)} {k : List Key} {v : V} (e : H a = some (.dT kvs)) (eb : H b = some (.tup (k.map kV))) (hl : kvs.length < sizeLine) :
    DPut H a (.ref b) v (upd H a (.dT (putK kvs k v))) := .inr ⟨kvs, k, b, e, rfl, eb, hl, rfl⟩
section
variable {X : Cx} {pins : List (Addr × Obj)} {σ : St} {H : Hp} {s : Shared} {a : Addr} {y v : V} {u r : Value} {o : Option V} {A : Around} {E : Value → Shared → Prop}
theorem Inv.big (I : Inv X pins σ H s) : sysModules < s.heap.objs.size := by
  have h : mainGlobals < s.heap.objs.size := (I.mod.glob.keeps I.bk).lt
  exact Nat.lt_trans (by decide) h
theorem d_getItem {Q : Value → Shared → Prop} (hu : A.units + 1 < cLine) (I : Inv X pins σ H s) (g : DGet H a y (some v)) (ry : RelV y u) (h : ∀ w' s', Inv X pins σ H s' → RelV v w' → Q w' s') :
    wpAny (model X.prog X.w) A (getItem (.ref a) u) Q E s := by
  rcases g with ⟨kvs, k, e, ey, l⟩ | ⟨kvs, k, b, e, ey, eb, l⟩
  · subst ey
    obtain ⟨z, hd, vs, rel, dd⟩ := dk_rd I.hok e
    obtain ⟨w', hw, rw'⟩ := RelO.some_of (v := v) (o := valueAt vs k) (by rw [l]; exact rel.val k)
    exact wpAny_getItem_of (kV_is ry) dd.mapOf hw (h w' _ (I.tok _) rw')
  · subst ey
    cases (show u = Value.ref b from ry)
    obtain ⟨z, hd, xs, rel, dd⟩ := dt_rd I.hok e
    obtain ⟨w', hw, rw'⟩ := RelO.some_of (v := v) (o := (atKey xs k).map (·.2)) (by rw [l]; exact rel.val k)
    obtain ⟨p, hp, hp2⟩ := Option.map_eq_some_iff.mp hw
    refine wpAny_getItem_heap (tupleKind_room_in1 hu) (key_of I.hok eb) dd hp ?_
    rw [hp2]
    exact h w' _ (I.tok _) rw'
theorem d_in {Q : Value → Shared → Prop} (hu : A.units + 1 < cLine) (I : Inv X pins σ H s) (g : DGet H a y o) (ry : RelV y u) (h : ∀ s', Inv X pins σ H s' → Q (.bool o.isSome) s') :
    wpAny (model X.prog X.w) A (compareOp .In u (.ref a)) Q E s := by
  rcases g with ⟨kvs, k, e, ey, l⟩ | ⟨kvs, k, b, e, ey, eb, l⟩
  · subst ey
    obtain ⟨z, hd, vs, rel, dd⟩ := dk_rd I.hok e
    refine wpAny_in_of (kV_is ry) hd dd.mapOf ?_
    rw [← (rel.val k).isSome_eq, ← l]
    exact h _ (I.tok _)
  · subst ey
    cases (show u = Value.ref b from ry)
    obtain ⟨z, hd, xs, rel, dd⟩ := dt_rd I.hok e
    refine wpAny_in_heap (tupleKind_room_in1 hu) (key_of I.hok eb) hd dd ?_
    have q := (rel.val k).isSome_eq
    rw [Option.isSome_map] at q
    rw [← q, ← l]
    exact h _ (I.tok _)
theorem d_notIn {Q : Value → Shared → Prop} (hu : A.units + 1 < cLine) (I : Inv X pins σ H s) (g : DGet H a y o) (ry : RelV y u) (h : ∀ s', Inv X pins σ H s' → Q (.bool (!o.isSome)) s') :
    wpAny (model X.prog X.w) A (compareOp .NotIn u (.ref a)) Q E s := by
  rcases g with ⟨kvs, k, e, ey, l⟩ | ⟨kvs, k, b, e, ey, eb, l⟩
  · subst ey
    obtain ⟨z, hd, vs, rel, dd⟩ := dk_rd I.hok e
    refine wpAny_notIn_of (kV_is ry) hd dd.mapOf ?_
    rw [← (rel.val k).isSome_eq, ← l]
    exact h _ (I.tok _)
  · subst ey
    cases (show u = Value.ref b from ry)
    obtain ⟨z, hd, xs, rel, dd⟩ := dt_rd I.hok e
    refine wpAny_notIn_heap (tupleKind_room_in1 hu) (key_of I.hok eb) hd dd ?_
    have q := (rel.val k).isSome_eq
    rw [Option.isSome_map] at q
    rw [← q, ← l]
    exact h _ (I.tok _)
theorem d_write {h' : Heap} {t' : Nat} {ob : HO} (I : Inv X pins σ H s) (mu : Mut (H a)) (hs : Heap.SameBut a s.heap h') (he : ∃ q, h'.get? a = some q) (new : ObjOk X.prog X.w (upd H a ob) h' a ob) :
    Inv X pins σ (upd H a ob) { s with heap := h', toks := t' } :=
  I.write (x := a) (e := a) mu (.inl rfl) (fun b q hb z => (hs.2 b hb).trans z) he new
theorem dk_new {P : Program} {w : World} {H' : Hp} {h' : Heap} {kvs : List (Key × V)} {vs : List (Key × Value)} (z : kvs.length ≤ sizeLine) (hd : (a == sysModules) = false) (rel : KV kvs vs) (dd : h'.DictOf (mixKind P w) a vs) :
    ObjOk P w H' h' a (.dK kvs) := ⟨z, hd, vs, rel, dd⟩
theorem d_setItem {H' : Hp} {Q : Unit → Shared → Prop} (hu : A.units + 1 < cLine) (I : Inv X pins σ H s) (g : DPut H a y v H') (ry : RelV y u) (rv : RelV v r) (h : ∀ s', Inv X pins σ H' s' → Q () s') :
    wpAny (model X.prog X.w) A (setItem (.ref a) u r) Q E s := by
  rcases g with ⟨kvs, k, e, ey, l, eH⟩ | ⟨kvs, k, b, e, ey, eb, l, eH⟩
  · subst ey eH
    obtain ⟨z, hd, vs, rel, dd⟩ := dk_of I.hok e
    have hz : vs.length ≤ sizeLine := by rw [← rel.length]; exact z
    have hl : (putK kvs k v).length ≤ sizeLine := by have := length_putK kvs k v; omega
    refine wpAny_setItem_pairs (hsz := hz) (kV_is ry) dd fun h' dd' hs => h _ ?_
    have he : ∃ q, h'.get? a = some q := let ⟨q, _, _, hq, _⟩ := dd'; ⟨q, hq⟩
    exact d_write I (by rw [e]; exact True.intro) hs he (dk_new hl hd (rel.put k rv) dd')
  · subst ey eH
    cases (show u = Value.ref b from ry)
    obtain ⟨z, hd, xs, rel, dd⟩ := dt_of I.hok e
    have hz : xs.length ≤ sizeLine := by rw [← Paired.length rel]; exact z
    have hl : (putK kvs k v).length ≤ sizeLine := by have := length_putK kvs k v; omega
    refine wpAny_setItem_heap (hsz := hz) (tupleKind_room_in1 hu) (key_of I.hok eb) dd fun h' dd' hs => h _ ?_
    obtain ⟨q, es, ep, hq, h2, h3, h4, _, h5⟩ := dd'
    refine d_write I (by rw [e]; exact True.intro) hs ⟨q, hq⟩ ⟨hl, hd, _, (rel.put k eb rv).keeps fun c ys ec => ?_, q, es, ep, hq, h2, h3, h4, h5⟩
    rw [upd_ne (ne_of ec e (fun z => nomatch z))]
    exact ec
end
section
variable {X : Cx} {pins : List (Addr × Obj)} {σ : St} {H : Hp} {s : Shared} {a : Addr} {kvs : List (Key × V)} {k : Key} {u : Value} {A : Around} {E : Value → Shared → Prop}
end
def NoSl (i : Expr) : Prop := ∀ ov iv, subscripted i false ov iv = operate [ov, iv] (getItem ov iv)
theorem subD_of {prog : Program} {w : World} {A : Around} {E : Value → Shared → Prop} {s : Shared} {env : Env} {value slice : Expr} {pos : Pos} {T id : String} {Q : Value → Shared → Prop}
    (hl : typeLookup (.type T) "__getitem__" = pure (some (.builtin id))) (hs : NoSl slice)
    (h : wpAny (model prog w) A (eval value env) (fun o s₁ => wpAny (model prog w) A (eval slice env) (fun i s₂ => s₂.TypeIs o T ∧ wpAny (model prog w) A (getItem o i) Q E s₂) E s₁) E s) :
    wpAny (model prog w) A (eval (.Subscript value slice pos) env) Q E s := by
  refine Subscript_ (wpAny_mono h (fun o s₁ h₁ => wpAny_mono h₁ (fun i s₂ h₂ => ?_) fun _ _ x => x) fun _ _ x => x)
  obtain ⟨hT, h₂⟩ := h₂
  unfold subscriptTail
  refine wpAny_bind ?_
  rw [getitemInPython_of_ne hT.not_modules]
  refine wpAny_bind (wpAny_specialOf hT hl ?_)
  have fin : wpAny (model prog w) A (subscripted slice false o i) (fun r s₃ => wpAny (model prog w) A (letTemporaryGo value o r >>= fun _ => pure r) Q E s₃) E s₂ := by
    rw [hs o i]
    exact wpAny_operating (wpAny_mono h₂ (fun r s₃ h₃ => wpAny_bind (wpAny_letTemporaryGo (wpAny_pure h₃))) fun _ _ x => x)
  first
    | exact wpAny_pure (wpAny_bind fin)
    | exact wpAny_bind (wpAny_pure (wpAny_bind fin))
    | exact wpAny_bind fin
theorem dict_typeIs {X : Cx} {pins : List (Addr × Obj)} {σ : St} {H : Hp} {s : Shared} {a : Addr} {y : V} {o : Option V} (I : Inv X pins σ H s) (g : DGet H a y o) : s.TypeIs (.ref a) "dict" := by
  rcases g with ⟨kvs, k, e, _, _⟩ | ⟨kvs, k, b, e, _, _, _⟩
  · obtain ⟨_, _, vs, _, dd⟩ := dk_rd I.hok e
    exact dd.typeIs
  · obtain ⟨_, _, xs, _, dd⟩ := dt_rd I.hok e
    exact dd.typeIs
def tDGet (td ty : TE) : TE := fun σ H Q => td σ H fun x H1 => ty σ H1 fun y H2 => ∃ a v, x = .ref a ∧ DGet H2 a y (some v) ∧ Q v H2
def tDIn (ty td : TE) : TE := fun σ H Q => ty σ H fun y H1 => td σ H1 fun x H2 => ∃ a o, x = .ref a ∧ DGet H2 a y o ∧ Q (.bl o.isSome) H2
def tDNotIn (ty td : TE) : TE := fun σ H Q => ty σ H fun y H1 => td σ H1 fun x H2 => ∃ a o, x = .ref a ∧ DGet H2 a y o ∧ Q (.bl (!o.isSome)) H2
def sDPut (td ty tv : TE) : TS := fun D σ H => tv σ H fun v H1 => td σ H1 fun x H2 => ty σ H2 fun y H3 => ∃ a H4, x = .ref a ∧ DPut H3 a y v H4 ∧ D.nx σ H4
def sDAug (td ty tv : TE) (rd : V → V → Hp → VK → Prop) : TS := fun D σ H => td σ H fun x H1 => ty σ H1 fun y H2 => ∃ a v, x = .ref a ∧ DGet H2 a y (some v) ∧
  tv σ H2 fun y2 H3 => rd v y2 H3 fun z H4 => ∃ H5, DPut H4 a y z H5 ∧ D.nx σ H5
def sDDel (td ty : TE) : TS := fun D σ H => td σ H fun x H1 => ty σ H1 fun y H2 => ∃ a kvs k, x = .ref a ∧ H2 a = some (.dK kvs) ∧ y = kV k ∧ (valV kvs k).isSome = true ∧ D.nx σ (upd H2 a (.dK (dropK kvs k)))
section
variable {X : Cx} {o i e value : Expr} {pos pos' tpos : Pos} {td ty tv : TE}
theorem pe_dget (hu : X.A.units + 1 < cLine) (ho : PE X o td) (hi : PE X i ty) (hs : NoSl i) : PE X (.Subscript o i pos) (tDGet td ty) := by
  intro pins s σ H Q I h
  refine subD_of PySem.F.slot_dict_getitem.lookup hs (thn (ho pins s σ H _ I h) fun u s1 ⟨x, H1, I1, rx, q1⟩ => thn (hi pins s1 σ H1 _ I1 q1) fun iv s2 ⟨y, H2, I2, ry, a, v, ex, g, q2⟩ => ?_)
  subst ex
  obtain rfl : u = Value.ref a := rx
  exact ⟨dict_typeIs I2 g, d_getItem hu I2 g ry fun w' s3 I3 rw' => ⟨v, H2, I3, rw', q2⟩⟩
theorem pc_din (hu : X.A.units + 1 < cLine) (hi : PE X i ty) (ho : PE X o td) : PC X .In i o (tDIn ty td) := by
  intro pins s σ H Q I h
  refine thn (hi pins s σ H _ I h) fun iv s1 ⟨y, H1, I1, ry, q1⟩ => thn (ho pins s1 σ H1 _ I1 q1) fun u s2 ⟨x, H2, I2, rx, a, ov, ex, g, q2⟩ => ?_
  subst ex
  obtain rfl : u = Value.ref a := rx
  exact d_in hu I2 g ry fun s3 I3 => ⟨.bl ov.isSome, H2, I3, rfl, q2⟩
theorem pc_dnotin (hu : X.A.units + 1 < cLine) (hi : PE X i ty) (ho : PE X o td) : PC X .NotIn i o (tDNotIn ty td) := by
  intro pins s σ H Q I h
  refine thn (hi pins s σ H _ I h) fun iv s1 ⟨y, H1, I1, ry, q1⟩ => thn (ho pins s1 σ H1 _ I1 q1) fun u s2 ⟨x, H2, I2, rx, a, ov, ex, g, q2⟩ => ?_
  subst ex
  obtain rfl : u = Value.ref a := rx
  exact d_notIn hu I2 g ry fun s3 I3 => ⟨.bl (!ov.isSome), H2, I3, rfl, q2⟩
theorem ps_dput (hu : X.A.units + 1 < cLine) (ho : PE X o td) (hi : PE X i ty) (hv : PE X value tv) (hs : swapsWith value (some (.Subscript o i pos')) pos.line X.env = pure false) :
    PS X (.Assign [.Subscript o i pos'] value pos) (sDPut td ty tv) := by
  intro pins s σ H D I h
  refine wpAny_Assign_Subscript (thn (hv pins s σ H _ I h) fun r s1 ⟨v, H1, I1, rv, q1⟩ => thn (ho pins s1 σ H1 _ I1 q1) fun u s2 ⟨x, H2, I2, rx, q2⟩ => thn (hi pins s2 σ H2 _ I2 q2) fun iv s3 ⟨y, H3, I3, ry, a, H4, ex, g, q3⟩ => ?_) hs
  subst ex
  obtain rfl : u = Value.ref a := rx
  exact d_setItem hu I3 g ry rv fun s4 I4 => ⟨σ, H4, I4, q3⟩
end
theorem dt_empty {P : Program} {w : World} {H : Hp} (h : Heap) (hb : sysModules < h.objs.size) : ObjOk P w H (h.push { cls := .type "dict", data := .dict #[] }) h.objs.size (.dT []) :=
  ⟨Nat.zero_le _, beq_eq_false_iff_ne.mpr (Ne.symm (Nat.ne_of_lt hb)), [], .nil, _, #[], 0, Heap.get?_push_size _ rfl, ⟨rfl, rfl, rfl⟩, rfl, rfl, List.nodup_nil⟩
def tDNewK : TE := fun _ H Q => ∀ p, H p = none → Q (.ref p) (upd H p (.dK []))
def tDNewT : TE := fun _ H Q => ∀ p, H p = none → Q (.ref p) (upd H p (.dT []))
section
variable {X : Cx} {pos : Pos}
theorem pe_dnewT : PE X (.Dict [] [] pos) tDNewT := fun pins s σ H Q I h =>
  wpAny_Dict_empty ⟨.ref s.heap.objs.size, _, I.laid (a := s.heap.objs.size) (o := .dT []) (t' := s.toks) (fun _ _ q => Heap.get?_push_of_some _ q) (Nat.le_refl _) (dt_empty s.heap I.big), rfl, h _ (I.hok.fresh (Nat.le_refl _))⟩
end
def tPairs : List (TE × TE) → St → Hp → (List (V × V) → Hp → Prop) → Prop
  | [], _, H, Q => Q [] H
  | (tk, tv) :: r, σ, H, Q => tk σ H fun x H1 => tv σ H1 fun y H2 => tPairs r σ H2 fun ps H3 => Q ((x, y) :: ps) H3
abbrev VV : List (V × V) → List (Value × Value) → Prop := Paired fun p q => RelV p.1 q.1 ∧ RelV p.2 q.2
def PPs (X : Cx) (pos : Pos) (keys : List (Option Expr)) (values : List Expr) (trs : List (TE × TE)) : Prop :=
  ∀ (pins : List (Addr × Obj)) (s : Shared) (σ : St) (H : Hp) (Q : List (V × V) → Hp → Prop), Inv X pins σ H s → tPairs trs σ H Q →
    wpAny (model X.prog X.w) X.A (evalPairs (pairTrees keys values X.env pos)) (fun vs s' => ∃ ps H', Inv X pins σ H' s' ∧ VV ps vs ∧ Q ps H') X.xe s
theorem pps_nil {X : Cx} {pos : Pos} : PPs X pos [] [] [] := fun pins s σ H Q I h => pairTrees_nil_walk ⟨[], H, I, .nil, h⟩
theorem pps_cons {X : Cx} {pos : Pos} {k v : Expr} {ks : List (Option Expr)} {vs : List Expr} {tk tv : TE} {trs : List (TE × TE)} (hk : PE X k tk) (hv : PE X v tv) (hr : PPs X pos ks vs trs) :
    PPs X pos (some k :: ks) (v :: vs) ((tk, tv) :: trs) := fun pins s σ H Q I h =>
  pairTrees_cons_walk (thn (hk pins s σ H _ I h) fun u s1 ⟨x, H1, I1, rx, q1⟩ => thn (hv pins s1 σ H1 _ I1 q1) fun w2 s2 ⟨y, H2, I2, ry, q2⟩ =>
    thn (hr pins s2 σ H2 _ I2 q2) fun ws s3 ⟨ps, H3, I3, rel, q3⟩ => ⟨(x, y) :: ps, H3, I3, .cons ⟨rx, ry⟩ rel, q3⟩)
def mergeK (kvs more : List (Key × V)) : List (Key × V) := more.foldl (fun acc kv => putK acc kv.1 kv.2) kvs
def tDisp (trs : List (TE × TE)) : TE := fun σ H Q => ∀ p, H p = none → tPairs trs σ (upd H p (.dK [])) fun ps H2 => H2 p = some (.dK []) ∧ ∃ kvs : List (Key × V), ps = kvs.map (fun kv => (kV kv.1, kv.2)) ∧ kvs.length ≤ 15 ∧ Q (.ref p) (upd H2 p (.dK (mergeK [] kvs)))
structure M1 (X : Cx) (o : Expr) (m : Str) (apos : Pos) (e : Expr) (cpos : Pos) : Prop where
  base : attributeBase o m X.env (eval o X.env) = eval o X.env
  few : ((backTo cpos (starEach [e] X.env)).all (fun x => !x.1) && (backToKw cpos (keywordEach [] X.env)).all (fun x => x.1.isSome)
    && decide (([e] : List Expr).length + ([] : List Keyword).length + (if ([] : List Keyword).isEmpty then 0 else 1) < 30)) = true
  line : (apos.endLine == cpos.line) = true
  trees : backTo cpos (starEach [e] X.env) = [(false, eval e X.env)]
structure M2 (X : Cx) (o : Expr) (m : Str) (apos : Pos) (e f : Expr) (cpos : Pos) : Prop where
  base : attributeBase o m X.env (eval o X.env) = eval o X.env
  few : ((backTo cpos (starEach [e, f] X.env)).all (fun x => !x.1) && (backToKw cpos (keywordEach [] X.env)).all (fun x => x.1.isSome)
    && decide (([e, f] : List Expr).length + ([] : List Keyword).length + (if ([] : List Keyword).isEmpty then 0 else 1) < 30)) = true
  line : (apos.endLine == cpos.line) = true
  trees : backTo cpos (starEach [e, f] X.env) = [(false, eval e X.env), (false, eval f X.env)]
def IsD (H : Hp) (a : Addr) : Prop := (∃ kvs, Rd H a (.dK kvs)) ∨ ∃ kvs, Rd H a (.dT kvs)
theorem isD_at {X : Cx} {pins : List (Addr × Obj)} {σ : St} {H : Hp} {s : Shared} {a : Addr} (I : Inv X pins σ H s) (d : IsD H a) :
    s.TypeIs (.ref a) "dict" ∧ (∀ b, Value.ref a = .ref b → ∃ ob, s.heap.get? b = some ob ∧ ob.dict = none) ∧ (a == sysModules) = false := by
  rcases d with ⟨kvs, e⟩ | ⟨kvs, e⟩
  · obtain ⟨_, hd, vs, _, dd⟩ := dk_rd I.hok e
    refine ⟨dd.typeIs, fun b q => ?_, hd⟩
    cases q
    obtain ⟨ob, _, _, h1, h2, _⟩ := dd
    exact ⟨ob, h1, h2.2.1⟩
  · obtain ⟨_, hd, xs, _, dd⟩ := dt_rd I.hok e
    refine ⟨dd.typeIs, fun b q => ?_, hd⟩
    cases q
    obtain ⟨ob, _, _, h1, h2, _⟩ := dd
    exact ⟨ob, h1, h2.2.1⟩
section
variable {X : Cx} {pins : List (Addr × Obj)} {σ : St} {H : Hp} {s : Shared} {a : Addr} {y d : V} {u r : Value} {o : Option V} {A : Around} {E : Value → Shared → Prop}
theorem d_get2 {Q : Value → Shared → Prop} (hu : A.units + 1 < cLine) (I : Inv X pins σ H s) (g : DGet H a y o) (ry : RelV y u) (rd : RelV d r) (h : ∀ w' s', Inv X pins σ H s' → RelV (o.getD d) w' → Q w' s') :
    wpAny (model X.prog X.w) A (call (.builtin "dict.get") [.ref a, u, r]) Q E s := by
  rcases g with ⟨kvs, k, e, ey, l⟩ | ⟨kvs, k, b, e, ey, eb, l⟩
  · subst ey
    obtain ⟨z, hd, vs, rel, dd⟩ := dk_rd I.hok e
    refine call_meetsIn PySem.F.slot_dict_get dd.typeIs PySem.F.entry_dict_get (PySem.F.args_dict_get_3 _ _ _) (meets_dict_get_default (mixKind X.prog X.w) a (kV_is ry) hd r) ⟨_, dd.mapOf, h _ _ (I.tok _) ?_⟩
    rw [l]
    exact (rel.val k).getD rd
  · subst ey
    cases (show u = Value.ref b from ry)
    obtain ⟨z, hd, xs, rel, dd⟩ := dt_rd I.hok e
    refine call_meetsIn PySem.F.slot_dict_get dd.typeIs PySem.F.entry_dict_get (PySem.F.args_dict_get_3 _ _ _) (meetsH_dict_get_default (tupleKind (mixKind X.prog X.w)) a b hd r) ⟨tupleKind_room_in1 hu, k, xs, key_of I.hok eb, dd, h _ _ (I.tok _) ?_⟩
    rw [l]
    exact (rel.val k).getD rd
end
def tDGet1 (td ty : TE) : TE := fun σ H Q => td σ H fun x H1 => ∃ a, x = .ref a ∧ IsD H1 a ∧ ty σ H1 fun y H2 => ∃ o, DGet H2 a y o ∧ Q (o.getD .non) H2
def tDGet2 (td ty tx : TE) : TE := fun σ H Q => td σ H fun x H1 => ∃ a, x = .ref a ∧ IsD H1 a ∧ ty σ H1 fun y H2 => tx σ H2 fun z H3 => ∃ o, DGet H3 a y o ∧ Q (o.getD z) H3
def tDPop1 (td ty : TE) : TE := fun σ H Q => td σ H fun x H1 => ∃ a, x = .ref a ∧ IsD H1 a ∧ ty σ H1 fun y H2 => ∃ kvs k v, H2 a = some (.dK kvs) ∧ y = kV k ∧ valV kvs k = some v ∧ Q v (upd H2 a (.dK (dropK kvs k)))
def tDPop2 (td ty tx : TE) : TE := fun σ H Q => td σ H fun x H1 => ∃ a, x = .ref a ∧ IsD H1 a ∧ ty σ H1 fun y H2 => tx σ H2 fun z H3 => ∃ kvs k, H3 a = some (.dK kvs) ∧ y = kV k ∧
  (∀ v, valV kvs k = some v → Q v (upd H3 a (.dK (dropK kvs k)))) ∧ (valV kvs k = none → Q z H3)
section
variable {X : Cx} {o e f : Expr} {apos cpos : Pos} {td ty tx : TE}
theorem pe_dget2 (hu : X.A.units + 1 < cLine) (ho : PE X o td) (he : PE X e ty) (hf : PE X f tx) (m : M2 X o "get" apos e f cpos) : PE X (.Call (.Attribute o "get" apos) [e, f] [] cpos) (tDGet2 td ty tx) := by
  intro pins s σ H Q I h
  refine wpAny_Call_method m.base m.few m.line PySem.F.plainAttrs_dict PySem.F.slot_dict_get PySem.F.type_dict_get (thn (ho pins s σ H _ I h) fun u s1 ⟨x, H1, I1, rx, a, ex, d, q1⟩ => ?_)
  subst ex
  obtain rfl : u = Value.ref a := rx
  obtain ⟨t1, t2, _⟩ := isD_at I1 d
  refine ⟨t1, t2, ?_⟩
  rw [m.trees]
  refine Calls.callWith_builtin rfl (Calls.evalArgs_plain (Calls.spliced_cons (thn (he pins s1 σ H1 _ I1 q1) fun iv s2 ⟨y, H2, I2, ry, q2⟩ =>
    Calls.spliced_cons (thn (hf pins s2 σ H2 _ I2 q2) fun fv s3 ⟨z, H3, I3, rz, ov, g, q3⟩ => Calls.spliced_nil ?_))))
  exact d_get2 hu I3 g ry rz fun w' s4 I4 rw' => ⟨_, H3, I4, rw', q3⟩
end
section
variable {X : Cx} {pins : List (Addr × Obj)} {σ : St} {H : Hp} {s : Shared} {a : Addr} {kvs : List (Key × V)} {A : Around} {E : Value → Shared → Prop}
end
section
variable {X : Cx} {pins : List (Addr × Obj)} {σ : St} {H : Hp} {s : Shared} {a : Addr} {y : V} {u : Value} {A : Around} {E : Value → Shared → Prop}
end
end L2
namespace L2
open PySem PySem.Spec PyProof.Rows
section
variable {X : Cx} {pins : List (Addr × Obj)} {σ : St} {H : Hp} {s : Shared} {d : Addr} {o : Obj} {u v : HO}
theorem Inv.swap (I : Inv X pins σ H s) (e : H d = some u) (nt : ∀ xs, u ≠ .tup xs) (no : ∀ x, u ≠ .own x) (nb : ∀ ps, u ≠ .tbl ps) (nf : ∀ o w, u = .frz o w → ∀ o w, X.H₀ d ≠ some (.frz o w))
    (new : ObjOk X.prog X.w H s.heap d u → ∀ H' : Hp, (∀ b xs, H b = some (.tup xs) → H' b = some (.tup xs)) → (∀ b x, H b = some (.own x) → H' b = some (.own x)) → ObjOk X.prog X.w H' s.heap d v) : Inv X pins σ (upd H d v) s := by
  have nd : ∀ {b : Addr}, H b = none → b ≠ d := fun z => (ne_of_none e z).symm
  have tt : ∀ b xs, H b = some (.tup xs) → upd H d v b = some (.tup xs) := fun b xs q => by rw [upd_ne (ne_of q e (fun z => nt xs z.symm))]; exact q
  have oo : ∀ b x, H b = some (.own x) → upd H d v b = some (.own x) := fun b x q => by rw [upd_ne (ne_of q e (fun z => no x z.symm))]; exact q
  refine ⟨I.ok, I.os, I.bare, ⟨I.base.keep, I.base.slot, fun b q h1 h2 h3 => ?_, I.base.there, fun b xs q => tt b xs (I.base.tups b xs q), fun b o' w q => ?_, fun b ps q => ?_⟩, I.loc, I.cell, ?_, fun x c q => ?_, fun p hp => ?_, fun b w q => ?_, I.len⟩
  · have z := I.base.free b q h1 h2 h3
    rw [upd_ne (nd z)]; exact z
  · have z := I.base.frzs b o' w q
    by_cases hb : b = d
    · subst hb; rw [e] at z; injection z with z
      exact absurd q (nf o' w z o' w)
    · rw [upd_ne hb]; exact z
  · obtain ⟨more, z⟩ := I.base.tbls b ps q
    by_cases hb : b = d
    · subst hb; rw [e] at z; injection z with z
      exact absurd z (nb _)
    · exact ⟨more, by rw [upd_ne hb]; exact z⟩
  · rw [upd_ne (nd I.free)]; exact I.free
  · rw [upd_ne (nd (I.freeC x c q))]; exact I.freeC x c q
  · obtain ⟨z1, z2, z3⟩ := I.pin p hp
    exact ⟨z1, by rw [upd_ne (nd z2)]; exact z2, z3⟩
  · by_cases hb : b = d
    · subst hb
      rw [upd_same] at q; injection q with q; subst q
      exact new (I.hok b _ e) _ tt oo
    · rw [upd_ne hb] at q
      exact (I.hok b w q).stay (fun _ _ _ z => z) (fun c z => oo c b z) tt
theorem Inv.freeze {kvs : List (List Key × V)} (I : Inv X pins σ H s) (e : H d = some (.dT kvs)) (ho : s.heap.get? d = some o) : Inv X pins σ (upd H d (.frz o (.dT kvs))) s :=
  I.swap e (by intro _ z; cases z) (by intro _ z; cases z) (by intro _ z; cases z) (by intro _ _ z; cases z) fun x H' t w => ⟨ho, x.stay (fun _ _ _ z => z) (fun b z => w b d z) t⟩
theorem Inv.thaw (I : Inv X pins σ H s) (e : H d = some (.frz o u)) (n : ∀ o w, X.H₀ d ≠ some (.frz o w)) : Inv X pins σ (upd H d u) s :=
  I.swap e (by intro _ z; cases z) (by intro _ z; cases z) (by intro _ z; cases z) (fun _ _ _ => n) fun x H' t w => x.2.stay (fun _ _ _ z => z) (fun b z => w b d z) t
end
def Thw (H0 : Hp) (H : Hp) (K : Hp → Prop) : Prop := K H ∨ ∃ d o u, H d = some (.frz o u) ∧ (∀ o w, H0 d ≠ some (.frz o w)) ∧ K (upd H d u)
section
variable {X : Cx}
theorem Thw.inv {pins : List (Addr × Obj)} {σ : St} {H : Hp} {s : Shared} {K : Hp → Prop} (h : Thw X.H₀ H K) (I : Inv X pins σ H s) : ∃ H', Inv X pins σ H' s ∧ K H' := by
  rcases h with h | ⟨d, o, u, e, n, h⟩
  · exact ⟨H, I, h⟩
  · exact ⟨_, I.thaw e n, h⟩
def tThw (H0 : Hp) (t : TE) : TE := fun σ H Q => t σ H fun v H' => Thw H0 H' (Q v)
theorem pe_thw {e : Expr} {t : TE} (h : PE X e t) : PE X e (tThw X.H₀ t) := by
  intro pins s σ H Q I q
  refine thn (h pins s σ H _ I q) fun u s' ⟨v, H', I', r, z⟩ => ?_
  obtain ⟨H2, I2, z2⟩ := z.inv I'
  exact ⟨v, H2, I2, r, z2⟩
end
end L2
namespace L2
open PySem PySem.Spec PyProof.Rows
section
variable {prog : Program} {w : World} {A : Around} {E : Value → Shared → Prop} {s : Shared} {it d : Addr} {i n ep : Nat} {es : Array DictEntry} {o : Obj}
theorem key_next {e : DictEntry} {Q : Option Value → Shared → Prop} (hit : s.heap.IsKeyIter it d i n ep) (hod : s.heap.get? d = some o) (hdd : o.data = .dict es ep) (hn : es.size = n) (hx : es[i]? = some e)
    (hQ : ∀ h', h'.IsKeyIter it d (i + 1) n ep → Heap.SameBut it s.heap h' → Q (some e.key) { s with heap := h' }) : wpAny (model prog w) A (pyNext (.ref it)) Q E s := by
  obtain ⟨oi, hoi, hci, hdi⟩ := id hit
  have T := hit.typeIs
  have own : Builtin.Dict_items.ownsTuple "dict_keyiterator" = false := by decide
  have nn : ¬ ((Value.ref d == Value.none) = true) := fun z => Bool.false_ne_true z
  unfold pyNext; refine wpAny_bind (wpAny_attempt (wpAny_callSpecial?_slot (name := Str.ofString "__next__") T F.slot_dict_keyiterator_next (wpAny_call_entry F.slot_dict_keyiterator_next T F.entry_dict_keyiterator_next ?_ (F.args_dict_keyiterator_next_1 _))))
  refine wpAny_bind (wpAny_pure (wpAny_bind (wpAny_bind ?_))); refine wpAny_bind (wpAny_typeNameOfWhole_keyiter T (wpAny_pure (wpAny_bind (wpAny_fieldsOf hoi hdi ?_))))
  simp only [own, Bool.false_eq_true, if_false]; show wpAny _ _ (if (Value.ref d == Value.none) = true then _ else _) _ _ s; rw [if_neg nn]
  refine wpAny_bind (wpAny_pure (wpAny_bind (wpAny_dictEntries hod hdd ?_))); rw [if_neg (by rw [hn]; simp)]
  refine wpAny_bind (wpAny_pure (wpAny_bind (wpAny_dictEpoch hod hdd ?_))); rw [if_neg (by simp)]
  have lt : ¬ ((i : Int) < 0) := by omega
  refine wpAny_pure ?_; simp only [lt, if_false, Int.toNat_natCast, hx]
  refine wpAny_bind (wpAny_bind (wpAny_typeNameOfWhole_keyiter T (wpAny_pure (wpAny_bind (wpAny_isOneOf_keyiter T ?_)))))
  show wpAny _ _ (setField (.ref it) 1 (rawInt ((i : Int) + 1)) >>= _) _ _ s; refine wpAny_bind (wpAny_setField hoi hdi (by simp) ?_)
  have hit' : (s.heap.update it (Obj.mapFields (·.setIfInBounds 1 (rawInt ((i : Int) + 1))))).IsKeyIter it d (i + 1) n ep := ⟨_, Heap.get?_update_self _ hoi (Obj.isFreed_of_fields (Obj.data_mapFields hdi _)), (Obj.cls_mapFields ..).trans hci, by rw [Obj.data_mapFields hdi]; simp [rawInt]⟩
  have T' : Shared.TypeIs { s with heap := s.heap.update it (Obj.mapFields (·.setIfInBounds 1 (rawInt ((i : Int) + 1)))) } (.ref it) "dict_keyiterator" := hit'.typeIs
  refine wpAny_bind (wpAny_holding (wpAny_bind (wpAny_isOneOf_keyiter T' ?_))); show wpAny _ _ (pure e.key) _ _ _
  exact wpAny_pure (wpAny_pure ⟨_, rfl, wpAny_pure (hQ _ hit' (Heap.SameBut.update ..))⟩)
theorem stop_end {A' : Around} {Q : Option Value → Shared → Prop} {E' : Value → Shared → Prop} (hh : A'.handled = none) (hQ : ∀ h', (∀ b o, s.heap.get? b = some o → h'.get? b = some o) → Q none { s with heap := h' }) {P : Fin → Shared → Prop} :
    wpAny (model prog w) A' (newExc (.type "StopIteration") [] >>= fun e => raiseNew e) P (fun e s' => wpAny (model prog w) A (do if (← isInstance e (.type "StopIteration")) = true then pure none else throw e) Q E' s') s := by
  refine wpAny_bind ?_
  simp only [newExc, newTuple]; refine wpAny_bind (wpAny_newObj_type (wpAny_bind (m := firstArgMember _ _) (wpAny_of_eq (a := Value.none) (by first | rfl | (simp only [firstArgMember]; rfl)) (wpAny_newObj_type ?_ (by size_fits)))) (by size_fits))
  simp only [raiseNew]; refine wpAny_bind (wpAny_handled ?_); rw [hh]
  refine wpAny_bind (wpAny_pure (wpAny_throw ?_))
  have sub := isSubtype_stop; refine wpAny_bind (wpAny_isInstance (T := "StopIteration") (b := true) ⟨_, Heap.get?_push_size _ rfl, rfl⟩ sub ?_)
  exact wpAny_pure (hQ _ fun b o e => Heap.get?_push_of_some _ (Heap.get?_push_of_some _ e))
theorem key_end {Q : Option Value → Shared → Prop} (hh : A.handled = none) (hit : s.heap.IsKeyIter it d i n ep) (hod : s.heap.get? d = some o) (hdd : o.data = .dict es ep) (hn : es.size = n) (hx : n ≤ i)
    (hQ : ∀ h', Heap.ExtBut it s.heap h' → Q none { s with heap := h' }) : wpAny (model prog w) A (pyNext (.ref it)) Q E s := by
  obtain ⟨oi, hoi, hci, hdi⟩ := id hit
  have T := hit.typeIs
  have own : Builtin.Dict_items.ownsTuple "dict_keyiterator" = false := by decide
  have nn : ¬ ((Value.ref d == Value.none) = true) := fun z => Bool.false_ne_true z
  unfold pyNext; refine wpAny_bind (wpAny_attempt (wpAny_callSpecial?_slot (name := Str.ofString "__next__") T F.slot_dict_keyiterator_next (wpAny_call_entry F.slot_dict_keyiterator_next T F.entry_dict_keyiterator_next ?_ (F.args_dict_keyiterator_next_1 _))))
  refine wpAny_bind (wpAny_pure (wpAny_bind (wpAny_bind ?_))); refine wpAny_bind (wpAny_typeNameOfWhole_keyiter T (wpAny_pure (wpAny_bind (wpAny_fieldsOf hoi hdi ?_))))
  simp only [own, Bool.false_eq_true, if_false]; show wpAny _ _ (if (Value.ref d == Value.none) = true then _ else _) _ _ s; rw [if_neg nn]
  refine wpAny_bind (wpAny_pure (wpAny_bind (wpAny_dictEntries hod hdd ?_))); rw [if_neg (by rw [hn]; simp)]
  refine wpAny_bind (wpAny_pure (wpAny_bind (wpAny_dictEpoch hod hdd ?_))); rw [if_neg (by simp)]
  have lt : ¬ ((i : Int) < 0) := by omega
  have hx' : es[i]? = none := Array.getElem?_eq_none (by omega)
  refine wpAny_pure ?_; simp only [lt, if_false, Int.toNat_natCast, hx']
  refine wpAny_bind (wpAny_bind (wpAny_typeNameOfWhole_keyiter T (wpAny_pure ?_)))
  show wpAny _ _ (setField (.ref it) 0 .none >>= _) _ _ s; refine wpAny_bind (wpAny_setField hoi hdi (by simp) ?_)
  refine stop_end (A := A) (A' := A.in1) (E' := E) hh fun h' k => ?_
  exact hQ h' fun b o hb e => k b o ((Heap.SameBut.update ..).extBut b o hb e)
theorem item_next {e : DictEntry} {ok ov : Value} {Q : Option Value → Shared → Prop} (hit : IsItemIter s.heap it d i n ep ok ov) (hod : s.heap.get? d = some o) (hdd : o.data = .dict es ep) (hn : es.size = n) (hx : es[i]? = some e)
    (hQ : ∀ h', IsItemIterOut h' it d (i + 1) n ep e.key e.val s.heap.objs.size → h'.get? s.heap.objs.size = some { cls := .type "tuple", data := .seq #[e.key, e.val] } → h'.objs.size = s.heap.objs.size + 1 →
      (∀ b q, b ≠ it → s.heap.get? b = some q → h'.get? b = some q) → Q (some (.ref s.heap.objs.size)) { s with heap := h' }) : wpAny (model prog w) A (pyNext (.ref it)) Q E s := by
  have T : s.TypeIs (.ref it) "dict_itemiterator" := ⟨_, hit, rfl⟩
  have own : Builtin.Dict_items.ownsTuple "dict_itemiterator" = true := by decide
  have nn : ¬ ((Value.ref d == Value.none) = true) := fun z => Bool.false_ne_true z
  unfold pyNext; refine wpAny_bind (wpAny_attempt (wpAny_callSpecial?_slot (name := Str.ofString "__next__") T F.slot_dict_itemiterator_next (wpAny_call_entry F.slot_dict_itemiterator_next T F.entry_dict_itemiterator_next ?_ (F.args_dict_itemiterator_next_1 _))))
  refine wpAny_bind (wpAny_pure (wpAny_bind (wpAny_bind ?_))); refine wpAny_bind (wpAny_typeNameOfWhole_itemiter T (wpAny_pure (wpAny_bind (wpAny_fieldsOf hit rfl ?_))))
  simp only [own, if_true]; show wpAny _ _ (if (Value.ref d == Value.none) = true then _ else _) _ _ s; rw [if_neg nn]
  refine wpAny_bind (wpAny_pure (wpAny_bind (wpAny_dictEntries hod hdd ?_))); rw [if_neg (by rw [hn]; simp)]
  refine wpAny_bind (wpAny_pure (wpAny_bind (wpAny_dictEpoch hod hdd ?_))); rw [if_neg (by simp)]
  have lt : ¬ ((i : Int) < 0) := by omega
  refine wpAny_pure ?_; simp only [lt, if_false, Int.toNat_natCast, hx]
  refine wpAny_bind (wpAny_bind (wpAny_typeNameOfWhole_itemiter T (wpAny_pure (wpAny_bind (wpAny_isOneOf_itemiter T ?_)))))
  show wpAny _ _ (setField (.ref it) 3 (rawInt ((i : Int) + 1)) >>= _) _ _ s; refine wpAny_bind (wpAny_setField_rec hit (by simp) fun h1 e1 s1 => ?_)
  have i1 : IsItemIter h1 it d (i + 1) n ep ok ov := by
    have z : ((i + 1 : Nat) : Int) = (i : Int) + 1 := by omega
    unfold IsItemIter; rw [z]; simpa [rawInt] using e1
  have T1 : Shared.TypeIs { s with heap := h1 } (.ref it) "dict_itemiterator" := ⟨_, i1, rfl⟩
  refine wpAny_bind (wpAny_holding (wpAny_bind (wpAny_isOneOf_itemiter T1 (wpAny_bind (wpAny_isOneOf_itemiter T1 ?_)))))
  show wpAny _ _ (Builtin.Dict_items.pairFromOwner (.ref it) 6 e.key e.val) _ _ _
  unfold Builtin.Dict_items.pairFromOwner; refine wpAny_bind (wpAny_newTuple ?_)
  have z1 : h1.objs.size = s.heap.objs.size := s1.1
  have lit : it < s.heap.objs.size := Heap.lt_size hit
  have i2 : IsItemIter (h1.push { cls := .type "tuple", data := .seq #[e.key, e.val] }) it d (i + 1) n ep ok ov := Heap.get?_push_of_some _ i1
  have t2 : (h1.push { cls := .type "tuple", data := .seq #[e.key, e.val] }).get? s.heap.objs.size = some { cls := .type "tuple", data := .seq #[e.key, e.val] } := by rw [← z1]; exact Heap.get?_push_size _ rfl
  have z2 : (h1.push { cls := .type "tuple", data := .seq #[e.key, e.val] }).objs.size = s.heap.objs.size + 1 := by rw [Heap.size_push, z1]
  have k2 : ∀ b q, b ≠ it → s.heap.get? b = some q → (h1.push { cls := .type "tuple", data := .seq #[e.key, e.val] }).get? b = some q := fun b q hb z => Heap.get?_push_of_some _ (s1.extBut b q hb z)
  dsimp only
  rw [z1]
  show wpAny _ _ (Builtin.Dict_items.ownedTupleIsFree (.ref it) >>= _) _ _ { s with heap := h1.push { cls := .type "tuple", data := .seq #[e.key, e.val] } }
  generalize (h1.push { cls := .type "tuple", data := .seq #[e.key, e.val] } : Heap) = h2 at *
  refine wpAny_bind ?_; unfold Builtin.Dict_items.ownedTupleIsFree; refine wpAny_bind (wpAny_field i2 rfl (x := .none) rfl (wpAny_pure ?_)); simp only [if_true]
  refine wpAny_bind (wpAny_field i2 rfl (x := ok) rfl (wpAny_bind (wpAny_field i2 rfl (x := ov) rfl (wpAny_bind (wpAny_setField_rec i2 (by simp) fun h3 e3 s3 => ?_)))))
  have i3 : IsItemIter h3 it d (i + 1) n ep e.key ov := e3
  refine wpAny_bind (wpAny_setField_rec i3 (by simp) fun h4 e4 s4 => ?_)
  have i4 : IsItemIter h4 it d (i + 1) n ep e.key e.val := e4
  refine wpAny_bind (wpAny_setField_rec i4 (by simp) fun h5 e5 s5 => ?_)
  have i5 : IsItemIterOut h5 it d (i + 1) n ep e.key e.val s.heap.objs.size := e5
  refine wpAny_bind (wpAny_setField_rec i5 (by simp) fun h6 e6 s6 => ?_)
  have i6 : IsItemIterOut h6 it d (i + 1) n ep e.key e.val s.heap.objs.size := e6
  have kp : ∀ b q, b ≠ it → h2.get? b = some q → h6.get? b = some q := fun b q hb z => s6.extBut b q hb (s5.extBut b q hb (s4.extBut b q hb (s3.extBut b q hb z)))
  refine wpAny_bind (wpAny_letGo (wpAny_pure (wpAny_pure ⟨_, rfl, wpAny_pure (hQ h6 i6 (kp _ _ (Nat.ne_of_gt lit) t2) ?_ fun b q hb z => kp b q hb (k2 b q hb z))⟩)))
  exact (s6.1.trans (s5.1.trans (s4.1.trans s3.1))).trans z2
theorem item_end {ok ov : Value} {Q : Option Value → Shared → Prop} (hh : A.handled = none) (hit : IsItemIter s.heap it d i n ep ok ov) (hod : s.heap.get? d = some o) (hdd : o.data = .dict es ep) (hn : es.size = n) (hx : n ≤ i)
    (hQ : ∀ h', Heap.ExtBut it s.heap h' → Q none { s with heap := h' }) : wpAny (model prog w) A (pyNext (.ref it)) Q E s := by
  have T : s.TypeIs (.ref it) "dict_itemiterator" := ⟨_, hit, rfl⟩
  have own : Builtin.Dict_items.ownsTuple "dict_itemiterator" = true := by decide
  have nn : ¬ ((Value.ref d == Value.none) = true) := fun z => Bool.false_ne_true z
  unfold pyNext; refine wpAny_bind (wpAny_attempt (wpAny_callSpecial?_slot (name := Str.ofString "__next__") T F.slot_dict_itemiterator_next (wpAny_call_entry F.slot_dict_itemiterator_next T F.entry_dict_itemiterator_next ?_ (F.args_dict_itemiterator_next_1 _))))
  refine wpAny_bind (wpAny_pure (wpAny_bind (wpAny_bind ?_))); refine wpAny_bind (wpAny_typeNameOfWhole_itemiter T (wpAny_pure (wpAny_bind (wpAny_fieldsOf hit rfl ?_))))
  simp only [own, if_true]; show wpAny _ _ (if (Value.ref d == Value.none) = true then _ else _) _ _ s; rw [if_neg nn]
  refine wpAny_bind (wpAny_pure (wpAny_bind (wpAny_dictEntries hod hdd ?_))); rw [if_neg (by rw [hn]; simp)]
  refine wpAny_bind (wpAny_pure (wpAny_bind (wpAny_dictEpoch hod hdd ?_))); rw [if_neg (by simp)]
  have lt : ¬ ((i : Int) < 0) := by omega
  have hx' : es[i]? = none := Array.getElem?_eq_none (by omega)
  refine wpAny_pure ?_; simp only [lt, if_false, Int.toNat_natCast, hx']
  refine wpAny_bind (wpAny_bind (wpAny_typeNameOfWhole_itemiter T (wpAny_pure ?_)))
  show wpAny _ _ (setField (.ref it) 2 .none >>= _) _ _ s; refine wpAny_bind (wpAny_setField hit rfl (by simp) ?_)
  refine stop_end (A := A) (A' := A.in1) (E' := E) hh fun h' k => ?_
  exact hQ h' fun b o hb e => k b o ((Heap.SameBut.update ..).extBut b o hb e)
end
end L2
namespace L2
open PySem PySem.Spec PyProof.Rows
theorem Paired.at' {α β : Type} {F : α → β → Prop} : ∀ {l : List α} {m : List β}, Paired F l m → ∀ {i : Nat} {a : α}, l[i]? = some a → ∃ b, m[i]? = some b ∧ F a b
  | _, _, .nil, i, a, h => by simp at h
  | _, _, .cons r _, 0, a, h => by simp at h; subst h; exact ⟨_, rfl, r⟩
  | _, _, .cons _ t, i + 1, a, h => by
    rw [List.getElem?_cons_succ] at h
    obtain ⟨b, h1, h2⟩ := Paired.at' t h
    exact ⟨b, by rw [List.getElem?_cons_succ]; exact h1, h2⟩
def FzD (H : Hp) (d : Addr) (o : Obj) (kvs : List (List Key × V)) : Prop := H d = some (.frz o (.dT kvs))
def ItK (d : Addr) (o : Obj) (kvs : List (List Key × V)) : It :=
  ⟨fun i H => FzD H d o kvs ∧ i < kvs.length, fun i H x H' => H' = H ∧ ∃ b k v, kvs[i]? = some (k, v) ∧ H b = some (.tup (k.map kV)) ∧ x = .ref b, fun i H => FzD H d o kvs ∧ kvs.length ≤ i⟩
def ItI (d : Addr) (o : Obj) (kvs : List (List Key × V)) : It :=
  ⟨fun i H => FzD H d o kvs ∧ i < kvs.length, fun i H x H' => ∃ p b k v, H p = none ∧ kvs[i]? = some (k, v) ∧ H b = some (.tup (k.map kV)) ∧ x = .ref p ∧ H' = upd H p (.tup [.ref b, v]), fun i H => FzD H d o kvs ∧ kvs.length ≤ i⟩
section
variable {X : Cx} {pins : List (Addr × Obj)} {σ : St} {H : Hp} {s : Shared} {d : Addr} {o : Obj} {kvs : List (List Key × V)} {es : Array DictEntry} {ep : Nat}
theorem Inv.entries (I : Inv X pins σ H s) (e : FzD H d o kvs) (hdd : o.data = .dict es ep) :
    s.heap.get? d = some o ∧ es.size = kvs.length ∧ ∀ (i : Nat) (k : List Key) (v : V), kvs[i]? = some (k, v) → ∃ (b : Addr) (e : DictEntry), es[i]? = some e ∧ e.key = .ref b ∧ H b = some (.tup (k.map kV)) ∧ RelV v e.val := by
  obtain ⟨hg, z, y, xs, r, o', es', ep', h1, h2, h3, h4, h5⟩ := I.hok d _ e
  have eo : o' = o := Option.some.inj (h1.symm.trans hg)
  subst eo
  rw [hdd] at h3
  injection h3 with h3 _
  subst h3
  refine ⟨hg, (size_of_entries h4).trans (Paired.length r).symm, fun i k v hx => ?_⟩
  obtain ⟨⟨k', b, u⟩, q1, q2, q3, q4⟩ := Paired.at' r hx
  refine ⟨b, entryOfKey (tupleKind (mixKind X.prog X.w)) (k', b, u), by rw [entry_at h4 i, q1]; rfl, rfl, q3, q4⟩
end
theorem turn_dkey {P : Program} {w : World} {K : PySem.W.Frag} {tg : Expr} {d it : Addr} {o : Obj} {kvs : List (List Key × V)} {es : Array DictEntry} {ep : Nat} (hdd : o.data = .dict es ep) :
    Turn P w K tg (ItK d o kvs) [it] it (fun i h => h.IsKeyIter it d i kvs.length ep) where
  mem := by simp
  obj := fun i h st b hb => by
    have e : b = it := by simpa using hb
    subst e
    obtain ⟨q, e, c, z⟩ := st
    exact ⟨q, e, fun v y => by rw [z] at y; cases y⟩
  keep := fun i h h' st k => st.at fun q e => k it (by simp) q e
  item := by
    intro X hP hw hK hc i pins s σ H E I hf st hg
    subst hP hw hK
    obtain ⟨fz, lt⟩ := hg
    obtain ⟨hd, hz, he⟩ := I.entries fz hdd
    obtain ⟨⟨k, v⟩, hx⟩ : ∃ p, kvs[i]? = some p := ⟨kvs[i], by simp [lt]⟩
    obtain ⟨b, e, ee, ek, eb, _⟩ := he i k v hx
    obtain ⟨f0, f1, f2, f3, f4, f5⟩ := hf it (by simp)
    refine key_next st hd hdd hz ee fun h' st' sb => ?_
    have I1 : Inv X pins σ H { s with heap := h' } := I.turned (t' := s.toks) (fun c q hb z => (sb.2 c hb).trans z) f0 f1 f3 f4 f5
    obtain ⟨q, e', c, z⟩ := id st'
    exact ⟨e.key, rfl, go_of (s := { s with heap := h' }) e' c z (by decide) ⟨.ref b, H, I1, by rw [ek]; rfl, ⟨rfl, b, k, v, hx, eb, rfl⟩, st', fun c hc' => (hf c hc').1⟩⟩
  done := by
    intro X hP hw hK hc i pins s σ H E I hf st hg
    subst hP hw hK
    obtain ⟨fz, ge⟩ := hg
    obtain ⟨hd, hz, he⟩ := I.entries fz hdd
    obtain ⟨f0, f1, f2, f3, f4, f5⟩ := hf it (by simp)
    exact key_end (I.ok.hd hc) st hd hdd hz ge fun h' eb => ⟨rfl, I.turned (t' := s.toks) (fun b q hb e => eb b q hb e) f0 f1 f3 f4 f5⟩
  self := fun _ _ _ _ _ st h => wpAny_pyIter_keyiter st h
theorem wpAny_pyIter_self_item {prog : Program} {w : World} {A : Around} {E : Value → Shared → Prop} {s : Shared} {it d : Addr} {i n ep : Nat} {ok ov : Value} {Q : Value → Shared → Prop} (hit : IsItemIter s.heap it d i n ep ok ov) (h : Q (.ref it) s) :
    wpAny (model prog w) A (pyIter (.ref it)) Q E s := by
  have T : s.TypeIs (.ref it) "dict_itemiterator" := ⟨_, hit, rfl⟩
  have en : entryFor table "dict_itemiterator.__iter__" = some Builtin.«dict_keyiterator.__iter__» := entryFor_alias (id' := "dict_keyiterator.__iter__") (by kernel_rfl) rfl (by decide +kernel) (by kernel_rfl)
  refine wpAny_pyIter_slot T F.slot_dict_itemiterator_iter (wpAny_call_entry F.slot_dict_itemiterator_iter T en ?_ (F.args_dict_itemiterator_iter_1 _))
  exact wpAny_pure ⟨_, rfl, "dict_itemiterator", _, T, F.slot_dict_itemiterator_next.lookup, h⟩
theorem turn_ditem {P : Program} {w : World} {K : PySem.W.Frag} {xs : List Expr} {xk : Nat} {pos : Pos} {d it : Addr} {o : Obj} {kvs : List (List Key × V)} {es : Array DictEntry} {ep : Nat} (hdd : o.data = .dict es ep) :
    Turn P w K (.Tuple xs xk pos) (ItI d o kvs) [it] it (fun i h => ∃ ok ov, IsItemIter h it d i kvs.length ep ok ov) where
  mem := by simp
  obj := fun i h ⟨ok, ov, st⟩ b hb => by
    have e : b = it := by simpa using hb
    subst e
    exact ⟨_, st, fun v y => by cases y⟩
  keep := fun i h h' ⟨ok, ov, st⟩ k => ⟨ok, ov, k it (by simp) _ st⟩
  item := by
    intro X hP hw hK hc i pins s σ H E I hf st hg
    subst hP hw hK
    obtain ⟨ok, ov, st⟩ := st
    obtain ⟨fz, lt⟩ := hg
    obtain ⟨hd, hz, he⟩ := I.entries fz hdd
    obtain ⟨⟨k, v⟩, hx⟩ : ∃ p, kvs[i]? = some p := ⟨kvs[i], by simp [lt]⟩
    obtain ⟨b, e, ee, ek, eb, rv⟩ := he i k v hx
    have lit : it < s.heap.objs.size := Heap.lt_size st
    refine item_next st hd hdd hz ee fun h' st' tp sz kp => ?_
    refine ⟨_, rfl, wpAny_letOwnedTupleGo_items st' fun h'' st2 sb => ?_⟩
    have tp2 : h''.get? s.heap.objs.size = some { cls := .type "tuple", data := .seq #[e.key, e.val] } := sb.extBut _ _ (Nat.ne_of_gt lit) tp
    have kp2 : ∀ c q, c ∉ [it] → s.heap.get? c = some q → h''.get? c = some q := fun c q hc z => sb.extBut c q (by simpa using hc) (kp c q (by simpa using hc) z)
    refine ⟨.ref s.heap.objs.size, upd H s.heap.objs.size (.tup [.ref b, v]), I.drawn (t' := s.toks) (ch := [it]) (fun c hc => hf c hc) kp2 (Nat.le_refl _) ?_, rfl, ⟨_, b, k, v, I.fresh, hx, eb, rfl, rfl⟩, ⟨_, _, st2⟩, fun c hc => ?_⟩
    · exact ⟨by show 2 ≤ sizeLine; rw [sizeLine_eq]; decide, [e.key, e.val], .cons (by rw [ek]; rfl) (.cons rv .nil), ⟨_, tp2, rfl, _, rfl⟩⟩
    · have e : c = it := by simpa using hc
      subst e
      rw [upd_ne (Nat.ne_of_lt lit)]
      exact (hf c (by simp)).1
  done := by
    intro X hP hw hK hc i pins s σ H E I hf st hg
    subst hP hw hK
    obtain ⟨ok, ov, st⟩ := st
    obtain ⟨fz, ge⟩ := hg
    obtain ⟨hd, hz, he⟩ := I.entries fz hdd
    obtain ⟨f0, f1, f2, f3, f4, f5⟩ := hf it (by simp)
    exact item_end (I.ok.hd hc) st hd hdd hz ge fun h' eb => ⟨rfl, I.turned (t' := s.toks) (fun b q hb e => eb b q hb e) f0 f1 f3 f4 f5⟩
  self := fun _ _ _ _ _ ⟨_, _, st⟩ h => wpAny_pyIter_self_item st h
end L2
namespace L2
open PySem PySem.Spec PyProof.Rows
section
variable {prog : Program} {w : World} {A : Around} {E : Value → Shared → Prop} {s : Shared} {d : Addr} {ep : Nat} {es : Array DictEntry} {o : Obj}
theorem dict_iter {Q : Value → Shared → Prop} (hs : (d == sysModules) = false) (T : s.TypeIs (.ref d) "dict") (ho : s.heap.get? d = some o) (hdd : o.data = .dict es ep)
    (hQ : Q (.ref s.heap.objs.size) { s with heap := s.heap.push { cls := .type "dict_keyiterator", data := .fields #[.ref d, .int 0 0, .int es.size 0, .int ep 0] } }) : wpAny (model prog w) A (pyIter (.ref d)) Q E s := by
  refine wpAny_pyIter_slot T F.slot_dict_iter (wpAny_call_entry F.slot_dict_iter T F.entry_dict_iter ?_ (F.args_dict_iter_1 _))
  unfold Builtin.«dict.__iter__»; refine wpAny_bind ?_; unfold Builtin.Dict.dictSlotNone; refine wpAny_bind (wpAny_notOrdered_dict T (wpAny_pure ?_))
  have no : ¬ ((d == sysModules) = true) := by rw [hs]; exact Bool.false_ne_true
  show wpAny _ _ (Builtin.Dict.showsAll d >>= _) _ _ s; unfold Builtin.Dict.showsAll; rw [if_neg no]
  refine wpAny_bind (wpAny_pure (wpAny_bind (wpAny_dictEntries ho hdd (wpAny_bind (wpAny_dictEpoch ho hdd ?_)))))
  exact wpAny_bind (wpAny_newObj_type (wpAny_pure ⟨_, rfl, "dict_keyiterator", _, ⟨_, Heap.get?_push_size _ rfl, rfl⟩, F.slot_dict_keyiterator_next.lookup, hQ⟩))
theorem dict_items {Q : Value → Shared → Prop} (hs : (d == sysModules) = false) (T : s.TypeIs (.ref d) "dict") (hQ : Q (.ref s.heap.objs.size) { s with heap := s.heap.push { cls := .type "dict_items", data := .fields #[.ref d] } }) :
    wpAny (model prog w) A (call (.builtin "dict.items") [.ref d]) Q E s := by
  refine wpAny_call_entry F.slot_dict_items T F.entry_dict_items ?_ (F.args_dict_items_1 _)
  have no : ¬ ((d == sysModules) = true) := by rw [hs]; exact Bool.false_ne_true
  unfold Builtin.«dict.items»; refine wpAny_bind ?_; unfold Builtin.Dict.noArgs; refine wpAny_bind (wpAny_notOrdered_dict T (wpAny_pure ?_))
  show wpAny _ _ (Builtin.Dict.showsAll d >>= _) _ _ s; unfold Builtin.Dict.showsAll; rw [if_neg no]
  exact wpAny_bind (wpAny_pure (wpAny_bind (wpAny_newObj_type (wpAny_pure ⟨_, rfl, hQ⟩))))
theorem view_iter {v : Addr} {Q : Value → Shared → Prop} (hv : s.heap.IsItemsView v d) (ho : s.heap.get? d = some o) (hdd : o.data = .dict es ep)
    (hQ : Q (.ref s.heap.objs.size) { s with heap := s.heap.push { cls := .type "dict_itemiterator", data := .fields #[.none, .bool false, .ref d, .int 0 0, .int es.size 0, .int ep 0, .none, .none] } }) : wpAny (model prog w) A (pyIter (.ref v)) Q E s := by
  obtain ⟨q, hq, hc, hdv⟩ := id hv
  have own : Builtin.Dict_items.ownsTuple "dict_itemiterator" = true := by decide
  refine wpAny_pyIter_slot hv.typeIs F.slot_dict_items_iter (wpAny_call_entry F.slot_dict_items_iter hv.typeIs F.entry_dict_items_iter ?_ (F.args_dict_items_iter_1 _))
  unfold Builtin.«dict_items.__iter__»; refine wpAny_bind (wpAny_pure (wpAny_bind ?_)); unfold Builtin.Dict_items.dictOf; refine wpAny_bind (wpAny_field hq hdv (x := .ref d) rfl (wpAny_pure (wpAny_bind ?_)))
  unfold Builtin.Dict_items.newIterator; refine wpAny_bind (wpAny_dictEntries ho hdd (wpAny_bind (wpAny_dictEpoch ho hdd ?_))); simp only [own, if_true]
  refine wpAny_newObj_type (wpAny_pure ⟨_, rfl, "dict_itemiterator", _, ⟨_, Heap.get?_push_size _ rfl, rfl⟩, F.slot_dict_itemiterator_next.lookup, ?_⟩) (by simp only [sizeOk, Builtin.Dict_items.ownedTupleFields, List.size_toArray, List.length_append, List.length_cons, List.length_nil, sizeLine_eq]; omega)
  simpa [rawInt, Builtin.Dict_items.ownedTupleFields] using hQ
end
def iDictK (td : TE) : TI := fun σ H R => td σ H fun x H1 => ∃ d kvs, x = .ref d ∧ Rd H1 d (.dT kvs) ∧ ∀ o, R (ItK d o kvs) (upd H1 d (.frz o (.dT kvs)))
def iDictI (td : TE) : TI := fun σ H R => td σ H fun x H1 => ∃ d kvs, x = .ref d ∧ Rd H1 d (.dT kvs) ∧ ∀ o, R (ItI d o kvs) (upd H1 d (.frz o (.dT kvs)))
section
variable {X : Cx} {tg : Expr} {pins : List (Addr × Obj)} {σ : St} {H : Hp} {s : Shared} {d : Addr} {kvs : List (List Key × V)}
theorem Inv.still (I : Inv X pins σ H s) (e : Rd H d (.dT kvs)) : ∃ (o : Obj) (es : Array DictEntry) (ep : Nat), s.heap.get? d = some o ∧ s.TypeIs (.ref d) "dict" ∧ (∀ b, Value.ref d = .ref b → ∃ ob, s.heap.get? b = some ob ∧ ob.dict = none) ∧ (d == sysModules) = false ∧
    o.data = .dict es ep ∧ es.size = kvs.length ∧ Inv X pins σ (upd H d (.frz o (.dT kvs))) s := by
  obtain ⟨z, hd, xs, rel, o, es, ep, h1, h2, h3, h4, h5, h6⟩ := dt_rd I.hok e
  have T : s.TypeIs (.ref d) "dict" := ⟨o, h1, h2.1⟩
  refine ⟨o, es, ep, h1, T, fun b q => ?_, hd, h3, (size_of_entries h4).trans (Paired.length rel).symm, ?_⟩
  · cases q; exact ⟨o, h1, h2.2.1⟩
  rcases e with e | ⟨o', e⟩
  · exact I.freeze e h1
  · have q : s.heap.get? d = some o' := (I.hok d _ e).1
    have eo : o' = o := Option.some.inj (q.symm.trans h1)
    subst eo
    have : upd H d (.frz o' (.dT kvs)) = H := by
      funext b; unfold upd; split
      · rename_i z; rw [z, e]
      · rfl
    rw [this]; exact I
theorem pi_dict {l : Expr} {tl : TE} (hl : PE X l tl) : PI X tg l (iDictK tl) := by
  intro pins s σ H R I h
  refine thn (hl pins s σ H _ I h) fun v s1 ⟨x, H1, I1, r1, d, kvs, ex, e, q⟩ => ?_
  subst ex
  cases r1
  obtain ⟨o, es, ep, ho, T, _, hs, hdd, hz, I2⟩ := I1.still e
  refine dict_iter hs T ho hdd ⟨s1.heap.objs.size, [s1.heap.objs.size], _, _, _, rfl, I2.kept (t' := s1.toks) fun b q z => Heap.get?_push_of_some _ z, turn_dkey hdd, ⟨_, Heap.get?_push_size _ rfl, rfl, by rw [hz]; rfl⟩, fun b hb => ?_, q o⟩
  have eb : b = s1.heap.objs.size := by simpa using hb
  subst eb
  exact I2.fpOk (Nat.le_refl _) (I2.hok.fresh (Nat.le_refl _))
theorem pi_items {xs : List Expr} {xk : Nat} {tp apos cpos : Pos} {o : Expr} {to : TE} (ho : PE X o to) (hbase : attributeBase o "items" X.env (eval o X.env) = eval o X.env := by rfl) (hline : (apos.endLine == cpos.line) = true := by rfl) :
    PI X (.Tuple xs xk tp) (.Call (.Attribute o "items" apos) [] [] cpos) (iDictI to) := by
  intro pins s σ H R I h
  refine wpAny_Call_method0_late hbase hline (thn (ho pins s σ H _ I h) fun v s1 ⟨x, H1, I1, r1, d, kvs, ex, e, q⟩ => ?_)
  subst ex
  cases r1
  obtain ⟨ob, es, ep, hob, T, nd, hs, hdd, hz, I2⟩ := I1.still e
  refine ⟨"dict", "dict.items", PySem.F.plainAttrs_dict, PySem.F.slot_dict_items, PySem.F.type_dict_items, T, nd, Calls.callWith_builtin rfl (PySem.evalArgs_none (dict_items hs T ?_))⟩
  have I3 := I2.kept (t' := s1.toks) (h' := s1.heap.push { cls := .type "dict_items", data := .fields #[.ref d] }) fun b q z => Heap.get?_push_of_some _ z
  refine view_iter ⟨_, Heap.get?_push_size _ rfl, rfl, rfl⟩ (Heap.get?_push_of_some _ hob) hdd ?_
  refine ⟨_, [_], _, _, _, rfl, I3.kept (t' := s1.toks) fun b q z => Heap.get?_push_of_some _ z, turn_ditem hdd, ⟨_, _, by rw [← hz]; exact Heap.get?_push_size _ rfl⟩, fun b hb => ?_, q ob⟩
  have eb := List.mem_singleton.mp hb
  subst eb
  exact I3.fpOk (Nat.le_refl _) (I3.hok.fresh (Nat.le_refl _))
end
end L2
namespace L2
open PySem PySem.Spec PyProof.Rows
section
variable {prog : Program} {w : World} {κ : Type} [DecidableEq κ] {knd : HeapKind prog w κ} {A : Around} {E : Value → Shared → Prop} {s : Shared}
inductive HHits (A : Around) (s : Shared) (ys : List (κ × Addr × Value)) : List (κ × Addr × Value) → Bool → Prop
  | nil : HHits A s ys [] true
  | miss {x : κ × Addr × Value} {r : List (κ × Addr × Value)} : atKey ys x.1 = none → HHits A s ys (x :: r) false
  | hit {x : κ × Addr × Value} {p : Addr × Value} {r : List (κ × Addr × Value)} {e c : Bool} : atKey ys x.1 = some p → SeqAt.EqAt A s x.2.2 p.2 e → HHits A s ys r c → HHits A s ys (x :: r) (e && c)
theorem HHits.inv {ys : List (κ × Addr × Value)} {x : κ × Addr × Value} {r : List (κ × Addr × Value)} {c : Bool} (h : HHits A s ys (x :: r) c) :
    (atKey ys x.1 = none ∧ c = false) ∨ ∃ p e c', atKey ys x.1 = some p ∧ SeqAt.EqAt A s x.2.2 p.2 e ∧ HHits A s ys r c' ∧ c = (e && c') := by
  cases h with
  | miss a => exact .inl ⟨a, rfl⟩
  | hit a b c => exact .inr ⟨_, _, _, a, b, c, rfl⟩
theorem same_pairs {nm : String} {a b : Addr} {xs ys : List (κ × Addr × Value)} {r : Bool} {Q : Bool → Shared → Prop} (hu : knd.room A) (ha : (a == sysModules) = false) (hb : (b == sysModules) = false) (da : s.heap.DictOfH knd a xs) (db : s.heap.DictOfH knd b ys)
    (hits : xs.length = ys.length → HHits A s ys xs r) (h : Q (xs.length == ys.length && r) s) : wpAny (model prog w) A (Builtin.Dict.samePairs nm a b) Q E s := by
  obtain ⟨oa, ea, pa, ga, _, ta, la, ka, na⟩ := da
  obtain ⟨ob, eb, pb, gb, _, tb, lb, kb, nb⟩ := db
  have za : ea.size = xs.length := size_of_entries la
  have zb : eb.size = ys.length := size_of_entries lb
  have no1 : ¬ ((a == sysModules) = true) := by rw [ha]; exact Bool.false_ne_true
  have no2 : ¬ ((b == sysModules) = true) := by rw [hb]; exact Bool.false_ne_true
  unfold Builtin.Dict.samePairs Builtin.Dict.showsAll; rw [if_neg no1, if_neg no2]
  refine wpAny_bind (wpAny_pure (wpAny_bind (wpAny_pure (wpAny_bind (wpAny_dictEntries ga ta ?_))))); dsimp only; refine wpAny_bind (wpAny_dictEntries gb tb ?_)
  by_cases hz : xs.length = ys.length
  case neg =>
    have q1 : (ea.size != eb.size) = true := by rw [za, zb]; simpa using hz
    have q2 : (xs.length == ys.length) = false := by simpa using hz
    rw [if_pos q1]; rw [q2, Bool.false_and] at h
    exact wpAny_bind (wpAny_rule (wpAny_pure h))
  have q1 : ¬ ((ea.size != eb.size) = true) := by rw [za, zb, hz]; simp
  have h' : Q r s := by simpa [hz] using h
  rw [if_neg q1]; refine wpAny_bind (wpAny_dictEpoch ga ta (wpAny_bind ?_)); rw [Std.Legacy.Range.forIn_eq_forIn_range']; simp only [Std.Legacy.Range.size, Nat.sub_zero, Nat.add_sub_cancel, Nat.div_one]
  refine wpAny_forIn_list _ (fun rest c s' => s' = s ∧ c = (none, ()) ∧ ∃ i, rest = List.range' i (ea.size - i) ∧ i ≤ ea.size ∧ HHits A s ys (xs.drop i) r) _ ?_ ?_ _ _ ⟨rfl, rfl, 0, by simp, Nat.zero_le _, hits hz⟩
  · rintro x rest c s' ⟨rfl, rfl, i, er, hi, hp⟩
    have lt : i < ea.size := Nat.lt_of_not_le fun z => by rw [Nat.sub_eq_zero_of_le z] at er; simp at er
    have es : ea.size - i = (ea.size - (i + 1)) + 1 := by omega
    rw [es, List.range'_succ] at er; injection er with e1 e2; subst e1
    have lx : x < xs.length := by omega
    have ex : ea[x]? = some (entryOfKey knd xs[x]) := by rw [entry_at la x, List.getElem?_eq_getElem lx]; rfl
    have dr : xs.drop x = xs[x] :: xs.drop (x + 1) := List.drop_eq_getElem_cons lx
    refine wpAny_bind (wpAny_dictEntries ga ta ?_); rw [ex]; rw [dr] at hp
    show wpAny _ _ (holding [Value.ref xs[x].2.1, xs[x].2.2] _ >>= _) _ _ _
    refine wpAny_bind (wpAny_holding (wpAny_bind (wpAny_dictFind_heap hu (ka _ (List.getElem_mem lx)) gb tb lb kb nb (fun no => ?_) fun j p hj => ?_)))
    · rcases hp.inv with ⟨_, er⟩ | ⟨p, _, _, hy, _⟩
      · rw [er] at h'; refine wpAny_pure ?_; show wpAny _ _ (if (!false) = true then _ else _) _ _ _; rw [if_pos (by decide)]; exact wpAny_pure (wpAny_pure h')
      · rw [atKey_none_of_get no] at hy; cases hy
    · have lj : eb[j]? = some (entryOfKey knd (xs[x].1, p)) := by rw [entry_at lb j, hj]; rfl
      refine wpAny_bind (wpAny_dictEntries gb tb ?_); rw [lj]
      rcases hp.inv with ⟨hn, _⟩ | ⟨p', e, c', hy, he, hr, er⟩
      · rw [atKey_of_get nb hj] at hn; cases hn
      rw [atKey_of_get nb hj] at hy; injection hy with hy; subst hy
      refine wpAny_holding (he prog w _ _ ?_)
      cases e with
      | false => rw [er, Bool.false_and] at h'; show wpAny _ _ (if (!false) = true then _ else _) _ _ _; rw [if_pos (by decide)]; exact wpAny_pure (wpAny_pure h')
      | true =>
        rw [Bool.true_and] at er; rw [← er] at hr
        show wpAny _ _ (if (!true) = true then _ else _) _ _ _; rw [if_neg (by decide)]; refine wpAny_bind (wpAny_dictEpoch ga ta ?_); rw [if_neg (by simp)]
        exact wpAny_pure ⟨rfl, rfl, x + 1, e2, lt, hr⟩
  · rintro c s' ⟨rfl, rfl, i, er, hi, hp⟩
    have ei : i = ea.size := Nat.le_antisymm hi (Nat.le_of_not_lt fun z => by
      have es : ea.size - i = (ea.size - (i + 1)) + 1 := by omega
      rw [es, List.range'_succ] at er; cases er)
    refine wpAny_pure ?_; rw [ei, za, List.drop_length] at hp; cases hp; exact h'
theorem dict_eqH {a b : Addr} {xs ys : List (κ × Addr × Value)} {r : Bool} {Q : Value → Shared → Prop} (hu : knd.room A.in1) (hc : A.units < cLine) (ha : (a == sysModules) = false) (hb : (b == sysModules) = false) (da : s.heap.DictOfH knd a xs) (db : s.heap.DictOfH knd b ys)
    (hits : xs.length = ys.length → HHits A.in1 s ys xs r) (h : Q (.bool (xs.length == ys.length && r)) s) : wpAny (model prog w) A (compareOp .Eq (.ref a) (.ref b)) Q E s := by
  refine wpAny_richCompare_same_room (op := .Eq) da.typeIs db.typeIs PySem.F.slot_dict_eq (wpAny_call_entry PySem.F.slot_dict_eq da.typeIs PySem.F.entry_dict_eq ?_ (PySem.F.args_dict_eq_2 _ _)) hc
  show wpAny _ _ (Builtin.Dict.dictSlotArgs "__eq__" ⟨[.ref a, .ref b], []⟩ >>= _) _ _ s; refine wpAny_bind ?_; unfold Builtin.Dict.dictSlotArgs; refine wpAny_bind (wpAny_notOrdered_dict da.typeIs (wpAny_pure ?_))
  refine wpAny_bind (wpAny_isInstance (T := "dict") db.typeIs PySem.F.sub_dict_dict ?_); simp only [Bool.not_true, Bool.false_eq_true, if_false]
  refine wpAny_bind (wpAny_pure (wpAny_bind (wpAny_pure (wpAny_bind (same_pairs hu ha hb da db hits (wpAny_pure ⟨_, rfl, (fun x => nomatch x), ?_⟩))))))
  simpa using h
theorem dict_neH {a b : Addr} {xs ys : List (κ × Addr × Value)} {r : Bool} {Q : Value → Shared → Prop} (hu : knd.room A.in1) (hc : A.units < cLine) (ha : (a == sysModules) = false) (hb : (b == sysModules) = false) (da : s.heap.DictOfH knd a xs) (db : s.heap.DictOfH knd b ys)
    (hits : xs.length = ys.length → HHits A.in1 s ys xs r) (h : Q (.bool (!(xs.length == ys.length && r))) s) : wpAny (model prog w) A (compareOp .NotEq (.ref a) (.ref b)) Q E s := by
  refine wpAny_richCompare_same_room (op := .NotEq) da.typeIs db.typeIs PySem.F.slot_dict_ne (wpAny_call_entry PySem.F.slot_dict_ne da.typeIs PySem.F.entry_dict_ne ?_ (PySem.F.args_dict_ne_2 _ _)) hc
  show wpAny _ _ (Builtin.Dict.dictSlotArgs "__ne__" ⟨[.ref a, .ref b], []⟩ >>= _) _ _ s; refine wpAny_bind ?_; unfold Builtin.Dict.dictSlotArgs; refine wpAny_bind (wpAny_notOrdered_dict da.typeIs (wpAny_pure ?_))
  refine wpAny_bind (wpAny_isInstance (T := "dict") db.typeIs PySem.F.sub_dict_dict ?_); simp only [Bool.not_true, Bool.false_eq_true, if_false]
  refine wpAny_bind (wpAny_pure (wpAny_bind (wpAny_pure (wpAny_bind (same_pairs hu ha hb da db hits (wpAny_pure ⟨_, rfl, (fun x => nomatch x), ?_⟩))))))
  simpa using h
theorem dict_clearH {d : Addr} {xs : List (κ × Addr × Value)} {Q : Value → Shared → Prop} (hz : xs.length ≤ sizeLine) (dd : s.heap.DictOfH knd d xs) (h : ∀ h', h'.DictOfH knd d [] → Heap.SameBut d s.heap h' → Q .none { s with heap := h' }) :
    wpAny (model prog w) A (call (.builtin "dict.clear") [.ref d]) Q E s := by
  have T := dd.typeIs
  obtain ⟨o, es, ep, ho, hc, hd, he, hk, hn⟩ := dd
  have hes : es.size ≤ sizeLine := by rw [size_of_entries he]; exact hz
  refine wpAny_call_entry F.slot_dict_clear T F.entry_dict_clear ?_ (F.args_dict_clear_1 _)
  unfold Builtin.«dict.clear»; refine wpAny_bind ?_; unfold Builtin.Dict.noArgs; refine wpAny_bind (wpAny_notOrdered_dict T (wpAny_pure (wpAny_bind (wpAny_dictEntries ho hd (wpAny_bind ?_)))))
  unfold bearsInstanceDictMark; refine wpAny_bind (wpAny_load ho (wpAny_pure (wpAny_bind (wpAny_updateDictKeys (hz := hes) ho hd ?_))))
  have new : (s.heap.update d (Obj.mapDictKeys fun _ => #[])).DictOfH knd d [] := ⟨_, _, ep + 1, Heap.get?_update_self _ ho (Obj.isFreed_of_dict (Obj.data_mapDictKeys hd _)), hc.mapDictKeys _, Obj.data_mapDictKeys hd _, rfl, fun _ z => (by cases z), List.nodup_nil⟩
  split
  · exact wpAny_bind (wpAny_letGo (wpAny_pure ⟨.none, rfl, h _ new (Heap.SameBut.update ..)⟩))
  · exact wpAny_bind (wpAny_pure (wpAny_pure ⟨.none, rfl, h _ new (Heap.SameBut.update ..)⟩))
end
end L2
namespace L2
open PySem PySem.Spec PyProof.Rows
def KDs (K : PySem.W.Frag) (H : Hp) : List (List Key × V) → List (List Key × PyData) → Prop := Paired fun p q => p.1 = q.1 ∧ Rds K H p.2 q.2
def findKD (ys : List (List Key × PyData)) (k : List Key) : Option PyData := (ys.find? fun q => decide (q.1 = k)).map (·.2)
def eqKD (xs ys : List (List Key × PyData)) : Bool := xs.length == ys.length && xs.all fun p => match findKD ys p.1 with | some d => PyData.eqv p.2 d | none => false
def Flats (xs : List (List Key × PyData)) : Prop := ∀ p ∈ xs, p.2.canLay0 = true ∧ p.2.depth ≤ 60
section
variable {X : Cx} {pins : List (Addr × Obj)} {σ : St} {H : Hp} {s : Shared}
theorem at_findKD (I : Inv X pins σ H s) : ∀ {kb : List (List Key × V)} {ys : List (List Key × Addr × Value)} {db : List (List Key × PyData)}, KT H kb ys → KDs X.K H kb db → Flats db → ∀ k : List Key,
    (atKey ys k = none ∧ findKD db k = none) ∨ ∃ p d as, atKey ys k = some p ∧ findKD db k = some d ∧ Reads s.heap p.2 d as ∧ d.canLay0 = true ∧ d.depth ≤ 60
  | _, _, _, .nil, .nil, _, _ => .inl ⟨rfl, rfl⟩
  | _, _, _, .cons (a := a) (b := b) r t, .cons (b := c) q u, fl, k => by
    obtain ⟨r1, r2, r3⟩ := r
    obtain ⟨q1, q2⟩ := q
    by_cases e : a.1 = k
    · have e1 : b.1 = k := r1.symm.trans e
      have e2 : c.1 = k := q1.symm.trans e
      obtain ⟨as, rd⟩ := I.rds q2 r3
      obtain ⟨f1, f2⟩ := fl c (.head _)
      exact .inr ⟨b.2, c.2, as, by simp [atKey, List.find?_cons, e1], by simp [findKD, List.find?_cons, e2], rd, f1, f2⟩
    · have e1 : ¬ b.1 = k := fun z => e (r1.trans z)
      have e2 : ¬ c.1 = k := fun z => e (q1.trans z)
      have z1 : ∀ l, atKey (b :: l) k = atKey l k := fun l => by simp [atKey, List.find?_cons, e1]
      have z2 : ∀ l, findKD (c :: l) k = findKD l k := fun l => by simp [findKD, List.find?_cons, e2]
      rw [z1, z2]
      exact at_findKD I t u (fun p hp => fl p (.tail _ hp)) k
theorem hits_of {A : Around} (hu : A.units + 61 < cLine) (I : Inv X pins σ H s) {kb : List (List Key × V)} {ys : List (List Key × Addr × Value)} {db : List (List Key × PyData)} (tb : KT H kb ys) (qb : KDs X.K H kb db) (fb : Flats db) :
    ∀ {ka : List (List Key × V)} {xs : List (List Key × Addr × Value)} {da : List (List Key × PyData)}, KT H ka xs → KDs X.K H ka da → Flats da → HHits A s ys xs (da.all fun p => match findKD db p.1 with | some d => PyData.eqv p.2 d | none => false)
  | _, _, _, .nil, .nil, _ => .nil
  | _, _, _, .cons (a := a) (b := b) r t, .cons (b := c) q u, fl => by
    obtain ⟨r1, r2, r3⟩ := r
    obtain ⟨q1, q2⟩ := q
    have ih := hits_of hu I tb qb fb t u fun p hp => fl p (.tail _ hp)
    obtain ⟨as, rd⟩ := I.rds q2 r3
    obtain ⟨f1, f2⟩ := fl c (.head _)
    rw [List.all_cons]
    rcases at_findKD I tb qb fb b.1 with ⟨h1, h2⟩ | ⟨p, d, bs, h1, h2, h3, h4, h5⟩
    · rw [← r1, q1] at h2; rw [h2]; exact .miss h1
    · rw [← r1, q1] at h2; rw [h2]
      refine .hit h1 (SeqAt.eqAt_reads c.2 d A s _ _ as bs rd h3 f1 h4 ?_) ih
      have := Nat.min_le_left c.2.depth d.depth
      omega
end
def rEqDT (K : PySem.W.Frag) (neg : Bool) : R2 := fun x y H Q => ∃ (a b : Addr) (ka kb : List (List Key × V)) (da db : List (List Key × PyData)), x = .ref a ∧ y = .ref b ∧ Rd H a (.dT ka) ∧ Rd H b (.dT kb) ∧ KDs K H ka da ∧ KDs K H kb db ∧ Flats da ∧ Flats db ∧ Q (.bl (xor neg (eqKD da db))) H
section
variable {X : Cx}
theorem op_eqDT (hu : X.A.units + 64 < cLine) : OpR X (compareOp .Eq) (rEqDT X.K false) := by
  intro pins s σ H x y u v Q I rx ry h
  obtain ⟨a, b, ka, kb, da, db, rfl, rfl, ha, hb, qa, qb, fa, fb, q⟩ := h
  cases rx
  cases ry
  obtain ⟨_, sa, xs, ta, ea⟩ := dt_rd I.hok ha
  obtain ⟨_, sb, ys, tb, eb⟩ := dt_rd I.hok hb
  have lx : xs.length = da.length := (Paired.length ta).symm.trans (Paired.length qa)
  have ly : ys.length = db.length := (Paired.length tb).symm.trans (Paired.length qb)
  refine dict_eqH (knd := tupleKind (mixKind X.prog X.w)) (tupleKind_room_in1 (by omega)) (by omega) sa sb ea eb (fun _ => hits_of (by show X.A.units + 1 + 61 < cLine; omega) I tb qb fb ta qa fa) ⟨.bl _, H, I, rfl, ?_⟩
  rw [lx, ly]
  have : (false ^^ eqKD da db) = eqKD da db := Bool.false_xor _
  rw [this] at q
  exact q
theorem op_neDT (hu : X.A.units + 64 < cLine) : OpR X (compareOp .NotEq) (rEqDT X.K true) := by
  intro pins s σ H x y u v Q I rx ry h
  obtain ⟨a, b, ka, kb, da, db, rfl, rfl, ha, hb, qa, qb, fa, fb, q⟩ := h
  cases rx
  cases ry
  obtain ⟨_, sa, xs, ta, ea⟩ := dt_rd I.hok ha
  obtain ⟨_, sb, ys, tb, eb⟩ := dt_rd I.hok hb
  have lx : xs.length = da.length := (Paired.length ta).symm.trans (Paired.length qa)
  have ly : ys.length = db.length := (Paired.length tb).symm.trans (Paired.length qb)
  refine dict_neH (knd := tupleKind (mixKind X.prog X.w)) (tupleKind_room_in1 (by omega)) (by omega) sa sb ea eb (fun _ => hits_of (by show X.A.units + 1 + 61 < cLine; omega) I tb qb fb ta qa fa) ⟨.bl _, H, I, rfl, ?_⟩
  rw [lx, ly]
  have : (true ^^ eqKD da db) = !eqKD da db := Bool.true_xor _
  rw [this] at q
  exact q
def rDClear : V → List V → Hp → VK → Prop := fun x vs H Q => ∃ d kvs, x = .ref d ∧ vs = [] ∧ H d = some (.dT kvs) ∧ Q .non (upd H d (.dT []))
theorem mt_dclear : MtR X "dict.clear" rDClear := by
  intro pins s σ H x vs v us Q I rx rv h
  obtain ⟨d, kvs, rfl, rfl, hH, q⟩ := h
  cases rx
  have hus := rv.zero
  subst hus
  obtain ⟨z, hd, xs, rel, dd⟩ := dt_of I.hok hH
  refine dict_clearH (by rw [← Paired.length rel]; exact z) dd fun h' dd' hs => ⟨.non, _, ?_, rfl, q⟩
  obtain ⟨o, es, ep, h1, h2, h3, h4, _, h5⟩ := dd'
  exact d_write I (by rw [hH]; exact True.intro) hs ⟨o, h1⟩ ⟨Nat.zero_le _, hd, [], .nil, o, es, ep, h1, h2, h3, h4, h5⟩
theorem pe_dclear {o : Expr} {to : TE} {apos cpos : Pos} (ho : PE X o to) (hbase : attributeBase o "clear" X.env (eval o X.env) = eval o X.env := by rfl) (hline : (apos.endLine == cpos.line) = true := by rfl) :
    PE X (.Call (.Attribute o "clear" apos) [] [] cpos) (tBM0 X.K "dict" rDClear to) := pe_bm0 PySem.F.plainAttrs_dict PySem.F.slot_dict_clear PySem.F.type_dict_clear mt_dclear ho hbase hline
theorem d_store {pins : List (Addr × Obj)} {σ : St} {H : Hp} {s : Shared} {A : Around} {E : Value → Shared → Prop} {a b : Addr} {kvs : List (List Key × V)} {k : List Key} {v : V} {r : Value} {Q : Unit → Shared → Prop} (hu : A.units < cLine) (I : Inv X pins σ H s) (e : H a = some (.dT kvs)) (eb : H b = some (.tup (k.map kV)))
    (l : kvs.length < sizeLine) (rv : RelV v r) (h : ∀ s', Inv X pins σ (upd H a (.dT (putK kvs k v))) s' → Q () s') : wpAny (model X.prog X.w) A (dictSet a (.ref b) r) Q E s := by
  obtain ⟨z, hd, xs, rel, dd⟩ := dt_of I.hok e
  have hz : xs.length ≤ sizeLine := by rw [← Paired.length rel]; exact z
  have hl : (putK kvs k v).length ≤ sizeLine := by have := length_putK kvs k v; omega
  refine wpAny_dictSet_heap (hsz := hz) (knd := tupleKind (mixKind X.prog X.w)) hu (key_of I.hok eb) dd fun h' dd' hs => h _ ?_
  obtain ⟨q, es, ep, hq, h2, h3, h4, _, h5⟩ := dd'
  refine d_write I (by rw [e]; exact True.intro) hs ⟨q, hq⟩ ⟨hl, hd, _, (rel.put k eb rv).keeps fun c ys ec => ?_, q, es, ep, hq, h2, h3, h4, h5⟩
  rw [upd_ne (ne_of ec e (fun z => nomatch z))]; exact ec
def tDisp1 (tk tv : TE) : TE := fun σ H Q => ∀ p, H p = none → tk σ (upd H p (.dT [])) fun x H1 => tv σ H1 fun y H2 => ∃ b ks, x = .ref b ∧ H2 p = some (.dT []) ∧ H2 b = some (.tup (ks.map kV)) ∧ Q (.ref p) (upd H2 p (.dT [(ks, y)]))
theorem pe_disp1 {pos : Pos} {k v : Expr} {tk tv : TE} (hu : X.A.units < cLine) (hk : PE X k tk) (hv : PE X v tv) : PE X (.Dict [some k] [v] pos) (tDisp1 tk tv) := by
  intro pins s σ H Q I q
  have hn := I.hok.fresh (Nat.le_refl s.heap.objs.size)
  have I1 := I.laid (a := s.heap.objs.size) (o := .dT []) (h' := s.heap.push { cls := .type "dict", data := .dict #[] }) (t' := s.toks) (fun _ _ q => Heap.get?_push_of_some _ q) (Nat.le_refl _) (dt_empty s.heap I.big)
  refine wpAny_Dict_any rfl rfl (by simp) (by simp) ?_
  have P : PPs X pos [some k] [v] [(tk, tv)] := pps_cons hk hv pps_nil
  refine thn (P pins _ σ _ (fun ps H2 => match ps with | [(x, y)] => ∃ b ks, x = .ref b ∧ H2 s.heap.objs.size = some (.dT []) ∧ H2 b = some (.tup (ks.map kV)) ∧ Q (.ref s.heap.objs.size) (upd H2 s.heap.objs.size (.dT [(ks, y)])) | _ => False) I1 (q _ hn)) fun ws s2 ⟨ps, H2, I2, rel, hq⟩ => ?_
  rcases ws with _ | ⟨⟨c1, c2⟩, ws⟩
  · cases rel; exact hq.elim
  cases rel with
  | cons r t =>
    cases t with
    | cons _ _ => exact hq.elim
    | nil =>
      obtain ⟨r1, r2⟩ := r
      obtain ⟨b, ks, ex, e1, e2, q2⟩ := hq
      dsimp only at ex r1 r2
      rw [ex] at r1
      obtain rfl : c1 = Value.ref b := r1
      unfold storeAll
      rw [List.forIn_cons]
      refine wpAny_bind (wpAny_bind (d_store hu I2 e1 e2 (by rw [sizeLine_eq]; decide) r2 fun s3 I3 => wpAny_pure ?_))
      exact wpAny_pure ⟨.ref s.heap.objs.size, _, I3, rfl, q2⟩
end
end L2
namespace L2
open PySem PySem.Spec PyProof.Rows
def pickS (x : Str) (lo hi : Option Int) : List Nat := Builtin.Str.strSliceIndices lo hi 1 x.length
def cutS (x : Str) (lo hi : Option Int) : Str := if ((pickS x lo hi).length == x.length) = true then x else ⟨((pickS x lo hi).filterMap (x.cps[·]?)).toArray⟩
def rSlS : V → Option Int → Option Int → Hp → VK → Prop := fun x lo hi H Q => ∃ z, x = .str z ∧ (cutS z lo hi).length ≤ sizeLine ∧ Q (.str (cutS z lo hi)) H
section
variable {X : Cx}
def rRepT (K : PySem.W.Frag) : R2 := fun x y H Q => ∃ (a : Addr) (xs : List V) (n : Int), x = .ref a ∧ y = .int n ∧ SqT K H a xs ∧ xs ≠ [] ∧ 1 ≤ n ∧ n ≤ 1000 ∧ xs.length * n.toNat ≤ 1000 ∧
  (n = 1 → Q (.ref a) H) ∧ (2 ≤ n → ∀ p, H p = none → Q (.ref p) (upd H p (.tup (List.replicate n.toNat xs).flatten)))
end
def Ends.thw (H0 : Hp) (D : Ends) : Ends := { D with nx := fun σ H => Thw H0 H (D.nx σ), rt := fun v H => Thw H0 H (D.rt v) }
section
variable {X : Cx} {st : Stmt} {ss : List Stmt} {t : TS}
theorem SP.thw {pins : List (Addr × Obj)} {D : Ends} {f : Flow} {s : Shared} (h : SP X pins (D.thw X.H₀) f s) : SP X pins D f s := by
  cases f with
  | next => obtain ⟨σ, H, I, q⟩ := h; obtain ⟨H', I', q'⟩ := Thw.inv (K := D.nx σ) q I; exact ⟨σ, H', I', q'⟩
  | brk => exact h
  | cont => exact h
  | ret u => obtain ⟨v, σ, H, I, r, q⟩ := h; obtain ⟨H', I', q'⟩ := Thw.inv (K := D.rt v) q I; exact ⟨v, σ, H', I', r, q'⟩
theorem ps_thw (h : PS X st t) : PS X st (fun D σ H => t (D.thw X.H₀) σ H) := fun pins s σ H D I q => thn (h pins s σ H _ I q) fun _ _ z => z.thw
end
end L2
namespace L2
open PySem PySem.Spec PyProof.Rows
section
variable {prog : Program} {w : World} {A : Around} {E : Value → Shared → Prop} {s : Shared}
end
section
variable {X : Cx}
def upFrom (lo : Int) (n : Nat) : List Int := (List.range n).map fun i : Nat => lo + (i : Int)
def rRange2 : List V → Hp → VK → Prop := fun xs H Q => ∃ i j : Int, xs = [.int i, .int j] ∧ ∀ p, H p = none → Q (.ref p) (upd H p (.rng i j))
def rTupRng : List V → Hp → VK → Prop := fun xs H Q => ∃ (p : Addr) (lo hi : Int), xs = [.ref p] ∧ H p = some (.rng lo hi) ∧ -1000 ≤ lo ∧ lo ≤ 1000 ∧ -1000 ≤ hi ∧ hi ≤ 1000 ∧ ∀ l, H l = none → Q (.ref l) (upd H l (.tup ((upFrom lo (hi - lo).toNat).map V.int)))
end
end L2
namespace L2
open PySem PySem.Spec PyProof.Rows
end L2
set_option Elab.async false
set_option linter.all false
set_option maxRecDepth 100000
namespace L2
open PySem PySem.Spec PyProof.Rows
theorem erase_map {α β : Type} (f : α → β) : ∀ (l : List α) (j : Nat), (l.map f).eraseIdx j = (l.eraseIdx j).map f
  | [], j => by simp
  | x :: l, 0 => by simp
  | x :: l, j + 1 => by simp [erase_map f l j]
theorem erase_filter {κ β : Type} [DecidableEq κ] : ∀ {xs : List (κ × β)} (_ : (xs.map (·.1)).Nodup) {j : Nat} {k : κ} {q : β}, xs[j]? = some (k, q) → xs.eraseIdx j = xs.filter fun x => decide (x.1 ≠ k)
  | [], _, j, k, q, h => by simp at h
  | x :: r, hn, 0, k, q, h => by
    simp at h; subst h
    rw [List.map_cons, List.nodup_cons] at hn
    rw [List.eraseIdx_cons_zero, List.filter_cons, if_neg (by simp)]
    refine (List.filter_eq_self.mpr fun y hy => ?_).symm
    have : y.1 ≠ k := fun e => hn.1 (List.mem_map.mpr ⟨y, hy, e⟩)
    simpa using this
  | x :: r, hn, j + 1, k, q, h => by
    rw [List.getElem?_cons_succ] at h
    rw [List.map_cons, List.nodup_cons] at hn
    have : x.1 ≠ k := fun e => hn.1 (List.mem_map.mpr ⟨(k, q), List.mem_of_getElem? h, e.symm⟩)
    rw [List.eraseIdx_cons_succ, List.filter_cons, if_pos (by simpa using this), erase_filter hn.2 h]
section
variable {prog : Program} {w : World} {κ : Type} [DecidableEq κ] {knd : HeapKind prog w κ} {A : Around} {E : Value → Shared → Prop} {s : Shared}
theorem dict_popH {d a : Addr} {xs : List (κ × Addr × Value)} {k : κ} {p : Addr × Value} {Q : Value → Shared → Prop} (hu : knd.room A.in1) (hkey : knd.is s.heap k a) (hz : xs.length ≤ sizeLine) (dd : s.heap.DictOfH knd d xs) (hp : atKey xs k = some p)
    (h : ∀ h', h'.DictOfH knd d (xs.filter fun x => decide (x.1 ≠ k)) → Heap.SameBut d s.heap h' → Q p.2 { s with heap := h', toks := s.toks + knd.draws k }) :
    wpAny (model prog w) A (call (.builtin "dict.pop") [.ref d, .ref a]) Q E s := by
  have T := dd.typeIs
  obtain ⟨o, es, ep, ho, hc, hd, he, hk, hn⟩ := dd
  have hes : es.size ≤ sizeLine := by rw [size_of_entries he]; exact hz
  refine wpAny_call_entry F.slot_dict_pop T F.entry_dict_pop ?_ (F.args_dict_pop_2 _ _)
  unfold Builtin.«dict.pop»
  refine wpAny_bind ?_
  unfold Builtin.Dict.keyAndDefault
  refine wpAny_bind (wpAny_notOrdered_dict T ?_)
  show wpAny _ _ (pure (d, Value.ref a, none)) _ _ s
  refine wpAny_pure ?_
  have kp : (keyPart (.ref a)).isSome = false := rfl
  simp only [kp, Bool.false_eq_true, if_false]
  refine wpAny_bind (wpAny_dictEntries ho hd (wpAny_bind (wpAny_pure ?_)))
  have ne : es.isEmpty = false := by
    have : xs ≠ [] := fun z => by subst z; simp [atKey] at hp
    have : 0 < xs.length := List.length_pos_iff.mpr this
    have := size_of_entries he
    simp [Array.isEmpty]; intro z; simp [z] at this; omega
  rw [ne]
  simp only [Bool.false_eq_true, if_false]
  refine wpAny_bind ?_
  unfold Builtin.Dict.takeOut
  try with_reducible refine wpAny_holding ?_
  refine wpAny_bind (knd.pyHash hu hkey ?_)
  refine wpAny_bind (wpAny_dictFind_heap (s := { s with toks := s.toks + knd.draws k }) hu hkey ho hd he hk hn (fun no => by rw [atKey_none_of_get no] at hp; cases hp) fun j q hj => ?_)
  have ej : es[j]? = some (entryOfKey knd (k, q)) := by rw [entry_at he j, hj]; rfl
  have eq : q = p := by rw [atKey_of_get hn hj] at hp; exact Option.some.inj hp
  subst eq
  refine wpAny_bind (wpAny_dictEntries (s := { s with toks := s.toks + knd.draws k }) ho hd ?_)
  rw [ej]
  refine wpAny_bind (wpAny_updateDictKeys (hz := hes) (s := { s with toks := s.toks + knd.draws k }) ho hd (wpAny_pure ?_))
  simp only [Option.isNone_some, Bool.false_eq_true, if_false]
  refine wpAny_bind (wpAny_letGo (wpAny_pure ⟨q.2, rfl, h _ ⟨_, _, ep + 1, Heap.get?_update_self _ ho (Obj.isFreed_of_dict (Obj.data_mapDictKeys hd _)), hc.mapDictKeys _, Obj.data_mapDictKeys hd _, ?_, ?_, ?_⟩ (Heap.SameBut.update ..)⟩))
  · rw [← erase_filter hn hj]
    have : (es.toList.eraseIdx j) = (xs.eraseIdx j).map (entryOfKey knd) := by rw [he, erase_map]
    rw [← this]
    obtain ⟨l⟩ := es
    simp
  · intro x hx
    exact knd.keeps (hk x (List.mem_filter.mp hx).1) ho hd (Heap.SameBut.update ..)
  · exact hn.sublist (List.filter_sublist.map _)
end
theorem KT.drop {H : Hp} {kvs : List (List Key × V)} {xs : List (List Key × Addr × Value)} (r : KT H kvs xs) (k : List Key) : KT H (dropK kvs k) (xs.filter fun x => decide (x.1 ≠ k)) := by
  unfold dropK
  induction r with
  | nil => exact .nil
  | @cons p q ps qs h t ih =>
    obtain ⟨h1, h2⟩ := h
    rw [List.filter_cons, List.filter_cons]
    by_cases e : p.1 = k
    · have a : ¬ decide (p.1 ≠ k) = true := by simp [e]
      have b : ¬ decide (q.1 ≠ k) = true := by simp [h1.symm.trans e]
      rw [if_neg a, if_neg b]; exact ih
    · have e' : ¬ q.1 = k := fun z => e (h1.trans z)
      have a : decide (p.1 ≠ k) = true := by simp [e]
      have b : decide (q.1 ≠ k) = true := by simp [e']
      rw [if_pos a, if_pos b]; exact .cons ⟨h1, h2⟩ ih
section
variable {X : Cx}
def rDPop : V → List V → Hp → VK → Prop := fun x vs H Q => ∃ d b kvs k v, x = .ref d ∧ vs = [.ref b] ∧ H d = some (.dT kvs) ∧ H b = some (.tup (k.map kV)) ∧ valV kvs k = some v ∧ Q v (upd H d (.dT (dropK kvs k)))
theorem mt_dpop (hu : X.A.units + 1 < cLine) : MtR X "dict.pop" rDPop := by
  intro pins s σ H x vs v us Q I rx rv h
  obtain ⟨d, b, kvs, k, val, rfl, rfl, hH, hb, hv, q⟩ := h
  cases rx
  obtain ⟨u, rfl, ru⟩ := vals1 rv
  cases ru
  obtain ⟨z, hd, xs, rel, dd⟩ := dt_of I.hok hH
  have hz : xs.length ≤ sizeLine := by rw [← Paired.length rel]; exact z
  obtain ⟨w', hw, rw'⟩ := RelO.some_of (v := val) (o := (atKey xs k).map (·.2)) (by rw [← hv]; exact rel.val k)
  obtain ⟨p, hp, rfl⟩ := Option.map_eq_some_iff.mp hw
  refine dict_popH (knd := tupleKind (mixKind X.prog X.w)) (tupleKind_room_in1 hu) (key_of I.hok hb) hz dd hp fun h' dd' hs => ⟨val, _, ?_, rw', q⟩
  obtain ⟨o, es, ep, h1, h2, h3, h4, _, h5⟩ := dd'
  refine d_write I (by rw [hH]; exact True.intro) hs ⟨o, h1⟩ ⟨Nat.le_trans (dropK_le kvs k) z, hd, _, (rel.drop k).keeps fun c ys ec => ?_, o, es, ep, h1, h2, h3, h4, h5⟩
  rw [upd_ne (ne_of ec hH (fun z => nomatch z))]; exact ec
theorem pe_dpop {o e : Expr} {to : TE} {t : TA} {apos cpos : Pos} (hu : X.A.units + 1 < cLine) (ho : PE X o to) (ha : PA X [e] t) (hbase : attributeBase o "pop" X.env (eval o X.env) = eval o X.env := by rfl)
    (hfew : ((backTo cpos (starEach (e :: []) X.env)).all (fun x => !x.1) && (backToKw cpos (keywordEach [] X.env)).all (fun x => x.1.isSome)
      && decide ((e :: []).length + ([] : List Keyword).length + (if ([] : List Keyword).isEmpty then 0 else 1) < 30)) = true := by rfl)
    (hline : (apos.endLine == cpos.line) = true := by rfl) (hs : starEach (e :: []) X.env = (false, eval e X.env) :: starEach [] X.env := by rfl) (hplain : (backTo cpos (starEach [] X.env)).any (·.1) = false := by rfl) :
    PE X (.Call (.Attribute o "pop" apos) [e] [] cpos) (tBM X.K "dict" rDPop to t) := pe_bm PySem.F.plainAttrs_dict PySem.F.slot_dict_pop PySem.F.type_dict_pop (mt_dpop hu) ho ha hbase hfew hline hs hplain
end
theorem same_thaw {H H1 : Hp} {d : Addr} {o : Obj} {u : HO} (h0 : H d = some u) (e : Same (upd H d (.frz o u)) H1) : Same H (upd H1 d u) := fun b q hb => by
  by_cases z : b = d
  · subst z; rw [upd_same, ← h0]; exact hb
  · rw [upd_ne z]; exact e b q (by rw [upd_ne z]; exact hb)
theorem walk_dkey {H1 : Hp} {d : Addr} {o : Obj} {kvs : List (List Key × V)} (h : FzD H1 d o kvs) : Walk (ItK d o kvs) H1 kvs.length (fun i x H => ∃ b k v, kvs[i]? = some (k, v) ∧ H b = some (.tup (k.map kV)) ∧ x = .ref b) :=
  ⟨fun i H' e hi => ⟨e _ _ h, hi⟩, fun H' e => ⟨e _ _ h, Nat.le_refl _⟩, fun i H' x H2 e hi y => by
    obtain ⟨rfl, q⟩ := y
    exact ⟨Same.refl _, q⟩⟩
theorem for_ditem {d : Addr} {o : Obj} {kvs : List (List Key × V)} {g : TG} {tb : TS} {D : Ends} {σ : St} {H : Hp} (Pv : Nat → St → Hp → Prop) (h0 : Pv 0 σ H) (hl : ∀ i σ H, Pv i σ H → FzD H d o kvs)
    (hs : ∀ i k v σ H p b, kvs[i]? = some (k, v) → Pv i σ H → H p = none → H b = some (.tup (k.map kV)) → g (.ref p) σ (upd H p (.tup [.ref b, v])) fun σ2 H2 => tb { D with nx := Pv (i + 1), ct := Pv (i + 1), bk := D.nx } σ2 H2) (hd : ∀ σ H, Pv kvs.length σ H → D.nx σ H) :
    ∃ W : Nat → Nat → St → Hp → Prop, (∃ m, W 0 m σ H) ∧ ∀ i m σ H, W i m σ H →
      ((ItI d o kvs).stop i H ∧ D.nx σ H) ∨ ((ItI d o kvs).go i H ∧ ∃ N : St → Hp → Prop, (∀ σ' H', N σ' H' → ∃ m', m' < m ∧ W (i + 1) m' σ' H') ∧ ∀ x H', (ItI d o kvs).yld i H x H' → g x σ H' fun σ2 H2 => tb { D with nx := N, ct := N, bk := D.nx } σ2 H2) := by
  refine ⟨fun i m σ H => m = kvs.length - i ∧ i ≤ kvs.length ∧ Pv i σ H, ⟨kvs.length, by simp, Nat.zero_le _, h0⟩, ?_⟩
  rintro i m σ H ⟨rfl, hi, p⟩
  have q := hl i σ H p
  by_cases hlt : i < kvs.length
  · refine .inr ⟨⟨q, hlt⟩, Pv (i + 1), fun σ' H' p' => ⟨kvs.length - (i + 1), by omega, rfl, hlt, p'⟩, fun x H' y => ?_⟩
    obtain ⟨p', b, k, v, hp, hk, hb, rfl, rfl⟩ := y
    exact hs i k v σ H p' b hk p hp hb
  · have z : i = kvs.length := by omega
    subst z
    exact .inl ⟨⟨q, Nat.le_refl _⟩, hd σ H p⟩
section
variable {prog : Program} {w : World} {κ : Type} [DecidableEq κ] {knd : HeapKind prog w κ} {A : Around} {E : Value → Shared → Prop} {s : Shared}
theorem meets_lenH (d : Addr) (hd : (d == sysModules) = false) : MeetsIn prog w (Builtin.«dict.__len__» ⟨[.ref d], []⟩) (fun _ R s => ∃ xs, s.heap.DictOfH knd d xs ∧ R (.ok (.ret (.int xs.length s.toks))) { s with toks := s.toks + 1 }) :=
  .of_wp fun A R s ⟨xs, hm, h⟩ => by
    have T := hm.typeIs
    obtain ⟨o, es, ep, ho, hc, hdat, he, hk, hn⟩ := hm
    show wpAny _ _ (dictSize d >>= _) _ _ s
    unfold dictSize
    refine wpAny_bind (wpAny_bind (wpAny_dictEntries ho hdat (wpAny_pure ?_)))
    show wpAny _ _ (Builtin.Dict.pendingCount d >>= _) _ _ s
    refine wpAny_bind (wpAny_pendingCount_other hd ?_)
    refine wpAny_ret_mkInt ?_
    have : es.size = xs.length := size_of_entries he
    rw [Nat.add_zero, this]; exact h
theorem dict_lenH {d : Addr} {xs : List (κ × Addr × Value)} {Q : Value → Shared → Prop} (hd : (d == sysModules) = false) (hm : s.heap.DictOfH knd d xs) (hfit : (xs.length : Int) < 2 ^ 63)
    (h : Q (.int xs.length (s.toks + 1)) { s with toks := s.toks + 1 + 1 }) : wpAny (model prog w) A (call (.builtin "len") [.ref d]) Q E s := by
  refine Calls.call_function_entry kind_len plain_len entry_len (args_len1 _) ?_
  unfold Builtin.«len»
  refine wpAny_bind (m := oneArg "len" _) (wpAny_pure ?_)
  refine wpAny_bind (m := callSpecial? (.ref d) (Str.ofString "__len__")) (wpAny_callSpecial?_slot (name := Str.ofString "__len__") hm.typeIs F.slot_dict_len
    (call_meetsIn F.slot_dict_len hm.typeIs F.entry_dict_len (F.args_dict_len_1 _) (meets_lenH (knd := knd) d hd) ⟨xs, hm, ?_⟩))
  show wpAny _ _ _ _ _ { s with toks := s.toks + 1 }
  refine wpAny_bind (wpAny_holding (wpAny_pure ?_))
  refine wpAny_bind (wpAny_letGo ?_)
  show wpAny _ _ (if ((xs.length : Nat) : Int) < 0 then _ else _) _ _ _
  rw [if_neg (by omega)]
  show wpAny _ _ (if ((xs.length : Nat) : Int) ≥ 2 ^ 63 then _ else _) _ _ _
  rw [if_neg (by omega)]
  exact wpAny_bind (wpAny_mkInt (wpAny_pure ⟨_, rfl, h⟩))
end
theorem call_lenD {X : Cx} : CallR X (.builtin "len") (fun xs H Q => ∃ p kvs, xs = [.ref p] ∧ Rd H p (.dT kvs) ∧ Q (.int kvs.length) H) := by
  intro pins s σ H xs us Q I r h
  obtain ⟨p, kvs, rfl, e, q⟩ := h
  obtain ⟨u, rfl, rx⟩ := vals1 r
  cases rx
  obtain ⟨z, hd, ys, rel, dd⟩ := dt_rd I.hok e
  have ly : ys.length = kvs.length := (Paired.length rel).symm
  have hs : sizeLine = 16777216 := sizeLine_eq
  refine dict_lenH (knd := tupleKind (mixKind X.prog X.w)) hd dd (by omega) ⟨.int kvs.length, H, I.tok _, ⟨_, by rw [ly]⟩, q⟩
end L2
namespace L2
open PySem PySem.Spec PyProof.Rows
def tTry2 (K : PySem.W.Frag) (c1 c2 : Value) (tb : (St → XK) → TS) (th1 th2 : TS) : TS := fun D σ H => tb (fun σ' cls _ H' => (PySem.W.exmOne K cls c1 = some true ∧ th1 D σ' H') ∨ (PySem.W.exmOne K cls c1 = some false ∧ PySem.W.exmOne K cls c2 = some true ∧ th2 D σ' H')) D σ H
end L2
namespace L2
open PySem PySem.Spec PyProof.Rows
def rCatA (K : PySem.W.Frag) : R2 := fun x y H Q => ∃ a b xs ys, x = .ref a ∧ y = .ref b ∧ SqT K H a xs ∧ SqT K H b ys ∧ xs.length + ys.length ≤ sizeLine ∧
  (xs = [] → Q (.ref b) H) ∧ (xs ≠ [] → ys = [] → Q (.ref a) H) ∧ (xs ≠ [] → ys ≠ [] → ∀ p, H p = none → Q (.ref p) (upd H p (.tup (xs ++ ys))))
end L2
set_option Elab.async false
set_option linter.all false
set_option maxRecDepth 100000
namespace L2
open PySem PySem.Spec PyProof.Rows
def hsI (xs : List Int) : Int := reduceHash (Builtin.Tuple.tupleHashOf (xs.map hashInt))
theorem nd_filter_one {α : Type} {f : α → Int} : ∀ {l : List α} {e : α}, (l.map f).Nodup → e ∈ l → (l.filter fun x => f x == f e).length ≤ 1
  | [], e, _, h => by cases h
  | x :: l, e, hn, h => by
    rw [List.map_cons, List.nodup_cons] at hn
    rw [List.filter_cons]
    by_cases q : f x = f e
    · have z : (l.filter fun y => f y == f e) = [] := by
        rw [List.filter_eq_nil_iff]
        intro y hy hb
        exact hn.1 (List.mem_map.mpr ⟨y, hy, (beq_iff_eq.mp hb).trans q.symm⟩)
      rw [if_pos (beq_iff_eq.mpr q), z]; exact Nat.le_refl 1
    · rw [if_neg (fun z => q (beq_iff_eq.mp z))]
      refine nd_filter_one hn.2 ?_
      rcases List.mem_cons.mp h with z | z
      · exact absurd (congrArg f z.symm) q
      · exact z
section
variable {prog : Program} {w : World} {κ : Type} [DecidableEq κ] {kk : KeyKind prog w κ} {A : Around} {E : Value → Shared → Prop} {s : Shared}
theorem quiet_tuple {a : Addr} {Q : Bool → Shared → Prop} (hT : s.TypeIs (.ref a) "tuple") (h : Q false s) : wpAny (model prog w) A (Builtin.Dict.quietEq (.ref a)) Q E s := by
  unfold Builtin.Dict.quietEq
  refine wpAny_bind (wpAny_specialOf hT F.slot_tuple_eq.lookup (wpAny_pure ?_))
  exact h
theorem forEmpty_H {nm : String} {o : Addr} {ob : Obj} {es : Array DictEntry} {ep : Nat} {xs : List (List κ × Addr × Value)} {Q : Array DictEntry → Shared → Prop} (hob : s.heap.get? o = some ob) (hdt : ob.data = .dict es ep)
    (he : es.toList = xs.map (entryOfKey (tupleKind kk))) (hk : ∀ x ∈ xs, (tupleKind kk).is s.heap x.1 x.2.1) (hn : (xs.map fun x => (tupleKind kk).hash x.1).Nodup) (h : Q es s) : wpAny (model prog w) A (Builtin.Dict.entriesForEmpty nm o) Q E s := by
  unfold Builtin.Dict.entriesForEmpty
  refine wpAny_bind (wpAny_dictEntries hob hdt ?_)
  refine wpAny_bind ?_
  rw [← Array.forIn_toList]
  have hn' : (es.toList.map (·.hash)).Nodup := by rw [he, List.map_map]; exact hn
  refine wpAny_forIn_list _ (fun rest (_ : PUnit) s' => s' = s ∧ ∀ e ∈ rest, e ∈ es.toList) _ ?_ ?_ _ _ ⟨rfl, fun e z => z⟩
  · rintro e rest b s' ⟨rfl, hin⟩
    have hm := hin e List.mem_cons_self
    obtain ⟨x, hx, rfl⟩ := List.mem_map.mp (by rw [← he]; exact hm)
    refine wpAny_bind (quiet_tuple (IsTupleKey.typeIs (hk x hx)) ?_)
    simp only [Bool.not_false, if_true]
    have le : ¬ ((es.filter fun z => z.hash == (entryOfKey (tupleKind kk) x).hash).size > 1) := by
      obtain ⟨l⟩ := es
      have q : (l.filter fun z => z.hash == (entryOfKey (tupleKind kk) x).hash).length ≤ 1 := nd_filter_one (f := fun z : DictEntry => z.hash) hn' hm
      have : (Array.filter (fun z => z.hash == (entryOfKey (tupleKind kk) x).hash) { toList := l }).size = (l.filter fun z => z.hash == (entryOfKey (tupleKind kk) x).hash).length := by simp
      omega
    rw [if_neg le]
    exact wpAny_pure ⟨rfl, fun e he => hin e (List.mem_cons_of_mem _ he)⟩
  · rintro b s' ⟨rfl, _⟩
    exact wpAny_pure h
theorem mergeH {nm : String} {d o : Addr} {xs : List (List κ × Addr × Value)} {Q : Unit → Shared → Prop} (hdo : d ≠ o) (hoS : (o == sysModules) = false)
    (hd : s.heap.DictOfH (tupleKind kk) d []) (ho : s.heap.DictOfH (tupleKind kk) o xs) (hn : (xs.map fun x => (tupleKind kk).hash x.1).Nodup)
    (hQ : ∀ h', h'.DictOfH (tupleKind kk) d xs → Heap.SameBut d s.heap h' → Q () { s with heap := h' }) (hsz : xs.length ≤ sizeLine) :
    wpAny (model prog w) A (Builtin.Dict.mergeDict nm d o) Q E s := by
  obtain ⟨od, esd, epd, hod, hcd, hdd, hed, hkd, hnd⟩ := id hd
  obtain ⟨oo, eso, epo, hoo, hco, hdo', heo, hko, hno⟩ := id ho
  unfold Builtin.Dict.mergeDict
  rw [if_neg (by simpa using hdo)]
  unfold Builtin.Dict.showsAll
  rw [if_neg (by rw [hoS]; exact Bool.false_ne_true)]
  refine wpAny_bind (wpAny_pure ?_)
  refine wpAny_bind (wpAny_dictEntries hoo hdo' ?_)
  have hde : esd.isEmpty = true := by
    obtain ⟨l⟩ := esd
    have : l = [] := hed
    subst this; rfl
  cases xs with
  | nil =>
    have hoe : eso = #[] := by
      obtain ⟨l⟩ := eso
      have : l = [] := heo
      subst this; rfl
    subst hoe
    have few : (decide ((#[] : Array DictEntry).size ≤ 8) && (#[] : Array DictEntry).all fun e => (keyPart e.key).isSome) = true := by simp
    simp only [few, Bool.not_true, Bool.false_eq_true, if_false]
    refine wpAny_bind (wpAny_dictEpoch hoo hdo' ?_)
    refine wpAny_bind (wpAny_dictEntries hoo hdo' ?_)
    refine wpAny_bind ?_
    rw [Std.Legacy.Range.forIn_eq_forIn_range']
    refine wpAny_forIn_list _ (fun rest (_ : PUnit) s' => rest = [] ∧ s' = s) _ ?_ ?_ _ _ ⟨rfl, rfl⟩
    · rintro x rest b s' ⟨z, _⟩; cases z
    · rintro b s' ⟨_, rfl⟩
      exact wpAny_pure (hQ _ hd (Heap.SameBut.refl _ _))
  | cons x xs =>
    have hne : ¬ (eso.isEmpty = true) := by
      obtain ⟨l⟩ := eso
      have : l = (x :: xs).map (entryOfKey (tupleKind kk)) := heo
      subst this; simp
    have few : (decide (eso.size ≤ 8) && eso.all fun e => (keyPart e.key).isSome) = false := by
      obtain ⟨l⟩ := eso
      have : l = (x :: xs).map (entryOfKey (tupleKind kk)) := heo
      subst this
      have : (keyPart (entryOfKey (tupleKind kk) x).key).isSome = false := rfl
      simp [this]
    simp only [few, Bool.not_false, if_true]
    refine wpAny_bind (wpAny_dictEntries hod hdd ?_)
    simp only [hde, if_true]
    refine wpAny_bind (forEmpty_H hoo hdo' heo hko hn ?_)
    rw [Bool.eq_false_iff.mpr hne]
    simp only [Bool.not_false, if_true]
    refine wpAny_bind (wpAny_updateDictKeysTo (hz' := by
      have : eso.size = (x :: xs).length := by rw [← Array.length_toList, heo, List.length_map]
      show eso.size ≤ _
      omega) hod hdd (wpAny_pure (hQ _ ⟨_, _, epd + 1, Heap.get?_update_self _ hod (Obj.isFreed_of_dict (Obj.data_mapDictKeys hdd _)),
      hcd.mapDictKeys _, Obj.data_mapDictKeys hdd _, heo, fun x hx => ?_, hno⟩ (Heap.SameBut.update ..))))
    exact (tupleKind kk).keeps (hko x hx) hod hdd (Heap.SameBut.update ..)
theorem call_dictH {o : Addr} {xs : List (List κ × Addr × Value)} {Q : Value → Shared → Prop} (hoS : (o == sysModules) = false) (ho : s.heap.DictOfH (tupleKind kk) o xs) (hn : (xs.map fun x => (tupleKind kk).hash x.1).Nodup) (hsz : xs.length ≤ sizeLine)
    (h : ∀ h', h'.DictOfH (tupleKind kk) s.heap.objs.size xs → Heap.SameBut s.heap.objs.size (s.heap.push { cls := .type "dict", data := .dict #[] }) h' → Q (.ref s.heap.objs.size) { s with heap := h' }) :
    wpAny (model prog w) A (call (.type "dict") [.ref o]) Q E s := by
  refine callType_codes (Q₁ := fun obj s₁ => obj = .ref s.heap.objs.size ∧ s₁ = { s with heap := s.heap.push { cls := .type "dict", data := .dict #[] } }) F.kt_called_dict (F.kt_typeCall_dict_1 _) F.entry_dict_init (kt_code_dict_new _ ⟨rfl, rfl⟩) ?_
  rintro obj s₁ ⟨rfl, rfl⟩
  have hnew : (s.heap.push { cls := .type "dict", data := .dict #[] }).DictOfH (tupleKind kk) s.heap.objs.size [] := ⟨_, _, _, Heap.get?_push_size _ rfl, ⟨rfl, rfl, rfl⟩, rfl, rfl, fun x hx => (by cases hx), List.nodup_nil⟩
  have hdo : s.heap.objs.size ≠ o := by
    obtain ⟨_, _, _, hg, _⟩ := ho
    exact fun e => absurd (Heap.lt_size hg) (by rw [e]; exact Nat.lt_irrefl _)
  have ho' : (s.heap.push { cls := .type "dict", data := .dict #[] }).DictOfH (tupleKind kk) o xs := by
    obtain ⟨ob, es, ep, h1, h2, h3, h4, h5, h6⟩ := ho
    refine ⟨ob, es, ep, Heap.get?_push_of_some _ h1, h2, h3, h4, fun x hx => ?_, h6⟩
    obtain ⟨q1, q2, q3, q4, q5⟩ := h5 x hx
    exact ⟨q1, q2, q3, Heap.get?_push_of_some _ q4, q5⟩
  refine ⟨hnew.typeIs, F.args_dict_init_2 _ _, ?_⟩
  unfold Builtin.«dict.__init__»
  refine wpAny_bind ?_
  unfold Builtin.Dict.selfAndRest
  refine wpAny_bind (wpAny_notOrdered_dict hnew.typeIs ?_)
  show wpAny _ _ (pure (s.heap.objs.size, [Value.ref o])) _ _ _
  refine wpAny_pure ?_
  show wpAny _ _ (Builtin.Dict.updateFrom "dict.__init__" s.heap.objs.size (.ref o) [] .none) _ _ _
  unfold Builtin.Dict.updateFrom
  refine wpAny_bind (wpAny_typeOf ho'.typeIs ?_)
  rw [if_neg (by decide)]
  refine wpAny_bind ?_
  unfold Builtin.Dict.merge
  refine wpAny_bind ?_
  unfold Builtin.Dict.readDirectly
  refine wpAny_bind (wpAny_isInstance ho'.typeIs isSubtype_dict_dict ?_)
  simp only [Bool.not_true, Bool.false_eq_true, if_false]
  refine wpAny_bind (wpAny_specialOf ho'.typeIs F.slot_dict_iter.lookup (wpAny_pure ?_))
  simp only [beq_self_eq_true, if_true]
  refine wpAny_bind (wpAny_pure ?_)
  refine mergeH (hsz := hsz) hdo hoS hnew ho' hn fun h' hd' hs' => ?_
  show wpAny _ _ (Builtin.Dict.addKeywords s.heap.objs.size [] >>= _) _ _ _
  exact wpAny_bind (wpAny_pure (wpAny_pure ⟨rfl, h h' hd' hs'⟩))
end
def HDs (kvs : List (List Key × V)) : Prop := ∃ ts : List (List Int), kvs.map (·.1) = ts.map (fun t => t.map Sum.inl) ∧ (ts.map hsI).Nodup
theorem KT.keysEq {H : Hp} {kvs : List (List Key × V)} {xs : List (List Key × Addr × Value)} (r : KT H kvs xs) : xs.map (·.1) = kvs.map (·.1) := by
  induction r with
  | nil => rfl
  | cons h t ih => rw [List.map_cons, List.map_cons, ih, h.1]
section
variable {X : Cx}
theorem hsT_int (P : Program) (w : World) (t : List Int) : (tupleKind (mixKind P w)).hash (t.map Sum.inl) = hsI t := by
  show reduceHash (Builtin.Tuple.tupleHashOf ((t.map Sum.inl).map (mixKind P w).hash)) = _
  rw [List.map_map]; rfl
theorem call_dictD : CallR X (.type "dict") (fun xs H Q => ∃ d kvs, xs = [.ref d] ∧ H d = some (.dT kvs) ∧ HDs kvs ∧ ∀ p, H p = none → Q (.ref p) (upd H p (.dT kvs))) := by
  intro pins s σ H xs us Q I r h
  obtain ⟨d, kvs, rfl, hH, ⟨ts, hts, htn⟩, q⟩ := h
  obtain ⟨u, rfl, rx⟩ := vals1 r
  cases rx
  obtain ⟨z, hd, ys, rel, dd⟩ := dt_of I.hok hH
  have hz : ys.length ≤ sizeLine := by rw [← Paired.length rel]; exact z
  have kys : ys.map (·.1) = kvs.map (·.1) := KT.keysEq rel
  have hn : (ys.map fun x => (tupleKind (mixKind X.prog X.w)).hash x.1).Nodup := by
    have e : (ys.map fun x => (tupleKind (mixKind X.prog X.w)).hash x.1) = (ys.map (·.1)).map (tupleKind (mixKind X.prog X.w)).hash := by rw [List.map_map]; rfl
    rw [e, kys, hts, List.map_map]
    have e2 : (ts.map ((tupleKind (mixKind X.prog X.w)).hash ∘ fun t => t.map Sum.inl)) = ts.map hsI := List.map_congr_left fun t _ => hsT_int _ _ t
    rw [e2]; exact htn
  refine call_dictH (kk := mixKind X.prog X.w) hd dd hn hz fun h' dd' hs => ?_
  have kp : ∀ b o', s.heap.get? b = some o' → h'.get? b = some o' := fun b o' e => by
    rw [hs.2 b (Nat.ne_of_lt (Heap.lt_size e))]; exact Heap.get?_push_of_some _ e
  obtain ⟨o, es, ep, h1, h2, h3, h4, _, h5⟩ := dd'
  have nf := I.hok.fresh (Nat.le_refl s.heap.objs.size)
  refine ⟨.ref s.heap.objs.size, _, I.laid (t' := s.toks) kp (Nat.le_refl _) (show ObjOk X.prog X.w _ h' _ (.dT kvs) from ⟨z, ?_, ys, rel.keeps fun c yy ec => ?_, o, es, ep, h1, h2, h3, h4, h5⟩), rfl, q _ nf⟩
  · exact beq_eq_false_iff_ne.mpr (Nat.ne_of_gt I.big)
  · rw [upd_ne (fun e => by rw [e, nf] at ec; cases ec)]; exact ec
end
end L2
namespace L2
open PySem PySem.Spec PyProof.Rows
def mxD (d : Int) : List Int → Int
  | [] => d
  | x :: xs => xs.foldl max x
section
variable {prog : Program} {w : World} {A : Around} {E : Value → Shared → Prop} {l It S : Addr}
end
def tMaxD (te td : TE) : TE := fun σ H Q => te σ H fun v H1 => td σ H1 fun dv H2 => ∃ (l : Addr) (xs : List Int) (d : Int), v = .ref l ∧ dv = .int d ∧ H2 l = some (.lst (xs.map V.int)) ∧ Q (.int (mxD d xs)) H2
section
variable {X : Cx} {j : Nat} {p pos kpos : Pos} {e o : Expr} {te td : TE}
end
end L2
set_option Elab.async false
set_option linter.all false
set_option maxRecDepth 100000
namespace L2
open PySem PySem.Spec PyProof.Rows
def ItrS (lo d : Int) (n : Nat) : It := ⟨fun i _ => i < n, fun i H x H' => H' = H ∧ x = .int (lo + i * d), fun i _ => n ≤ i⟩
theorem turn_rangeS {P : Program} {w : World} {K : PySem.W.Frag} {tg : Expr} (it : Addr) (lo d : Int) (n : Nat) : Turn P w K tg (ItrS lo d n) [it] it (fun i h => IsRangeIter h it (lo + (i : Nat) * d) ((n : Int) - (i : Nat)) d) where
  mem := by simp
  obj := fun i h st b hb => by
    have e : b = it := by simpa using hb
    subst e
    exact ⟨_, st, fun v z => by
      have z' : Data.fields _ = Data.cell v := z
      cases z'⟩
  keep := fun i h h' st k => k it (by simp) _ st
  item := by
    intro X hP hw hK hc i pins s σ H E I hf st hg
    subst hP hw hK
    obtain ⟨f0, f1, f2, f3, f4, f5⟩ := hf it (by simp)
    have W := Walks.range (prog := X.prog) (w := X.w) (I.ok.hd hc) it lo d n
    refine W.item i s _ _ hg st fun v h' tk hv st' kk => ?_
    obtain ⟨t, rfl⟩ := hv
    have I1 : Inv X pins σ H { s with heap := h', toks := tk } := I.turned (fun b o hb e => kk b o (by simpa using hb) e) f0 f1 f3 f4 f5
    exact ⟨_, rfl, go_of (s := { s with heap := h', toks := tk }) (n := "range_iterator") st' rfl rfl (by decide) ⟨.int (lo + i * d), H, I1, ⟨t, rfl⟩, ⟨rfl, rfl⟩, st', fun b hb => (hf b hb).1⟩⟩
  done := by
    intro X hP hw hK hc i pins s σ H E I hf st hg
    subst hP hw hK
    obtain ⟨f0, f1, f2, f3, f4, f5⟩ := hf it (by simp)
    exact wpAny_pyNext_range_end (I.ok.hd hc) st (by have : n ≤ i := hg; omega) fun h' eb => ⟨rfl, I.turned (t' := s.toks) (fun b o hb e => eb b o hb e) f0 f1 f3 f4 f5⟩
  self := fun _ _ _ _ _ st h => wpAny_pyIter_rangeiter st h
section
variable {X : Cx} {tg : Expr}
theorem range_itS {pins : List (Addr × Obj)} {σ : St} {H : Hp} {s : Shared} {R : It → Hp → Prop} {E : Value → Shared → Prop} {lo hi d : Int} {t u v : Tok} {tk : Nat} (I : Inv X pins σ H s) (hs : Builtin.Range.small lo hi d = true) (h0 : 0 ≤ Builtin.Range.rangeSize lo hi d)
    (q : R (ItrS lo d (Builtin.Range.rangeSize lo hi d).toNat) H) : wpAny (model X.prog X.w) X.A (pyIter (.ref s.heap.objs.size)) (PIE X pins σ tg R) E { s with heap := s.heap.push { cls := .type "range", data := .fields #[.int lo t, .int hi u, .int d v] }, toks := tk } := by
  refine wpAny_pyIter_range (IsRange.new ..) hs ?_
  have I1 : Inv X pins σ H { s with heap := s.heap.push { cls := .type "range", data := .fields #[.int lo t, .int hi u, .int d v] }, toks := tk } := I.kept fun b o e => Heap.get?_push_of_some _ e
  refine ⟨(s.heap.push { cls := .type "range", data := .fields #[.int lo t, .int hi u, .int d v] }).objs.size, [(s.heap.push { cls := .type "range", data := .fields #[.int lo t, .int hi u, .int d v] }).objs.size], _, _, H, rfl,
    I1.kept (t' := tk) fun b o e => Heap.get?_push_of_some _ e, turn_rangeS _ lo d (Builtin.Range.rangeSize lo hi d).toNat, ?_, fun b hb => ?_, q⟩
  · have e1 : lo + ((0 : Nat) : Int) * d = lo := by simp
    have e2 : (((Builtin.Range.rangeSize lo hi d).toNat : Nat) : Int) - ((0 : Nat) : Int) = Builtin.Range.rangeSize lo hi d := by omega
    show IsRangeIter _ _ (lo + ((0 : Nat) : Int) * d) ((((Builtin.Range.rangeSize lo hi d).toNat : Nat) : Int) - ((0 : Nat) : Int)) d
    rw [e1, e2]
    exact Heap.get?_push_size _ rfl
  · have e : b = (s.heap.push { cls := .type "range", data := .fields #[.int lo t, .int hi u, .int d v] }).objs.size := by simpa using hb
    subst e
    exact I1.fpOk (Nat.le_refl _) (I1.hok.fresh (Nat.le_refl _))
def iRng3 (ta : TA) : TI := fun σ H R => ta σ H fun vs H1 => ∃ i j d : Int, vs = [.int i, .int j, .int d] ∧ Builtin.Range.small i j d = true ∧ 0 ≤ Builtin.Range.rangeSize i j d ∧ d ≠ 0 ∧ d.natAbs < 1073741824 ∧ R (ItrS i d (Builtin.Range.rangeSize i j d).toNat) H1
theorem pi_range3 {a b c : Expr} {ta : TA} {p pos : Pos} (hg : Gl X "range") (hm : X.mg "range" = none) (ha : PA X [a, b, c] ta) (hs : starEach [a, b, c] X.env = [(false, eval a X.env), (false, eval b X.env), (false, eval c X.env)] := by rfl) (hs2 : starEach [b, c] X.env = [(false, eval b X.env), (false, eval c X.env)] := by rfl) :
    PI X tg (.Call (.Name "range" p) [a, b, c] [] pos) (iRng3 ta) := by
  intro pins s σ H R I h
  refine Call_ (ld_blt I hg hm boot_range (PyProof.Rows.callWith_type1 (thn (ha pos pins s σ H _ I h) fun us s1 ⟨vs, H1, I1, r1, q1⟩ => ?_) (by rw [hs, hs2]) (by rw [hs2]; rfl)))
  obtain ⟨i, j, d, e, q1, q2, q3, q4, q⟩ := q1
  subst e
  cases r1 with
  | cons r rr =>
    cases rr with
    | cons r' rr =>
      cases rr with
      | cons r'' rr =>
        cases rr
        obtain ⟨t, rfl⟩ := r
        obtain ⟨t', rfl⟩ := r'
        obtain ⟨t'', rfl⟩ := r''
        exact call_range_3 q3 (range_itS I1 q1 q2 q) (.inl (PyProof.noPylong_small q4))
end
theorem for_rangeS {lo d : Int} {n : Nat} {g : TG} {tb : TS} {D : Ends} {σ : St} {H : Hp} (Pv : Nat → St → Hp → Prop) (h0 : Pv 0 σ H)
    (hs : ∀ i σ H, i < n → Pv i σ H → g (.int (lo + i * d)) σ H fun σ2 H2 => tb { D with nx := Pv (i + 1), ct := Pv (i + 1), bk := D.nx } σ2 H2) (hd : ∀ σ H, Pv n σ H → D.nx σ H) :
    ∃ W : Nat → Nat → St → Hp → Prop, (∃ m, W 0 m σ H) ∧ ∀ i m σ H, W i m σ H →
      ((ItrS lo d n).stop i H ∧ D.nx σ H) ∨ ((ItrS lo d n).go i H ∧ ∃ N : St → Hp → Prop, (∀ σ' H', N σ' H' → ∃ m', m' < m ∧ W (i + 1) m' σ' H') ∧ ∀ x H', (ItrS lo d n).yld i H x H' → g x σ H' fun σ2 H2 => tb { D with nx := N, ct := N, bk := D.nx } σ2 H2) := by
  refine ⟨fun i m σ H => m = n - i ∧ i ≤ n ∧ Pv i σ H, ⟨n, by simp, Nat.zero_le _, h0⟩, ?_⟩
  rintro i m σ H ⟨rfl, hi, p⟩
  by_cases hlt : i < n
  · refine .inr ⟨hlt, Pv (i + 1), fun σ' H' p' => ⟨n - (i + 1), by omega, rfl, hlt, p'⟩, fun x H' y => ?_⟩
    obtain ⟨rfl, rfl⟩ := y
    exact hs i σ H' hlt p
  · have z : i = n := by omega
    subst z
    exact .inl ⟨Nat.le_refl _, hd σ H p⟩
theorem small8 {b : Int} (h0 : 0 ≤ b) (h1 : b ≤ 1000) : Builtin.Range.small 1 b 8 = true := by
  unfold Builtin.Range.small Builtin.Range.rangeSize
  simp only [Builtin.Range.rangeFitsLong, Bool.and_eq_true, Bool.or_eq_true, decide_eq_true_eq, beq_iff_eq, show (8 : Int) > 0 by decide, if_true]
  split <;> omega
def iDictKF (td : TE) : TI := fun σ H R => td σ H fun x H1 => ∃ d kvs, x = .ref d ∧ Rd H1 d (.dT kvs) ∧ ∀ o, (∀ o', H1 d = some (.frz o' (.dT kvs)) → o' = o) → R (ItK d o kvs) (upd H1 d (.frz o (.dT kvs)))
def iDictIF (td : TE) : TI := fun σ H R => td σ H fun x H1 => ∃ d kvs, x = .ref d ∧ Rd H1 d (.dT kvs) ∧ ∀ o, (∀ o', H1 d = some (.frz o' (.dT kvs)) → o' = o) → R (ItI d o kvs) (upd H1 d (.frz o (.dT kvs)))
section
variable {X : Cx} {tg : Expr} {pins : List (Addr × Obj)} {σ : St} {H : Hp} {s : Shared} {d : Addr} {kvs : List (List Key × V)}
theorem Inv.stillF (I : Inv X pins σ H s) (ho : ∃ o, s.heap.get? d = some o ∧ True) : ∀ o, s.heap.get? d = some o → ∀ o', H d = some (.frz o' (.dT kvs)) → o' = o := fun o h o' e => Option.some.inj (((I.hok d _ e).1).symm.trans h)
theorem pi_dictF {l : Expr} {tl : TE} (hl : PE X l tl) : PI X tg l (iDictKF tl) := by
  intro pins s σ H R I h
  refine thn (hl pins s σ H _ I h) fun v s1 ⟨x, H1, I1, r1, d, kvs, ex, e, q⟩ => ?_
  subst ex
  cases r1
  obtain ⟨o, es, ep, ho, T, _, hs, hdd, hz, I2⟩ := I1.still e
  refine dict_iter hs T ho hdd ⟨s1.heap.objs.size, [s1.heap.objs.size], _, _, _, rfl, I2.kept (t' := s1.toks) fun b q z => Heap.get?_push_of_some _ z, turn_dkey hdd, ⟨_, Heap.get?_push_size _ rfl, rfl, by rw [hz]; rfl⟩, fun b hb => ?_, q o (I1.stillF ⟨o, ho, True.intro⟩ o ho)⟩
  have eb : b = s1.heap.objs.size := by simpa using hb
  subst eb
  exact I2.fpOk (Nat.le_refl _) (I2.hok.fresh (Nat.le_refl _))
theorem pi_itemsF {xs : List Expr} {xk : Nat} {tp apos cpos : Pos} {o : Expr} {to : TE} (ho : PE X o to) (hbase : attributeBase o "items" X.env (eval o X.env) = eval o X.env := by rfl) (hline : (apos.endLine == cpos.line) = true := by rfl) :
    PI X (.Tuple xs xk tp) (.Call (.Attribute o "items" apos) [] [] cpos) (iDictIF to) := by
  intro pins s σ H R I h
  refine wpAny_Call_method0_late hbase hline (thn (ho pins s σ H _ I h) fun v s1 ⟨x, H1, I1, r1, d, kvs, ex, e, q⟩ => ?_)
  subst ex
  cases r1
  obtain ⟨ob, es, ep, hob, T, nd, hs, hdd, hz, I2⟩ := I1.still e
  refine ⟨"dict", "dict.items", PySem.F.plainAttrs_dict, PySem.F.slot_dict_items, PySem.F.type_dict_items, T, nd, Calls.callWith_builtin rfl (PySem.evalArgs_none (dict_items hs T ?_))⟩
  have I3 := I2.kept (t' := s1.toks) (h' := s1.heap.push { cls := .type "dict_items", data := .fields #[.ref d] }) fun b q z => Heap.get?_push_of_some _ z
  refine view_iter ⟨_, Heap.get?_push_size _ rfl, rfl, rfl⟩ (Heap.get?_push_of_some _ hob) hdd ?_
  refine ⟨_, [_], _, _, _, rfl, I3.kept (t' := s1.toks) fun b q z => Heap.get?_push_of_some _ z, turn_ditem hdd, ⟨_, _, by rw [← hz]; exact Heap.get?_push_size _ rfl⟩, fun b hb => ?_, q ob (I1.stillF ⟨ob, hob, True.intro⟩ ob hob)⟩
  have eb := List.mem_singleton.mp hb
  subst eb
  exact I3.fpOk (Nat.le_refl _) (I3.hok.fresh (Nat.le_refl _))
end
theorem upd_frz {H : Hp} {d : Addr} {u : HO} (h : H d = some u) : upd H d u = H := by
  funext b; unfold upd; split
  · rename_i z; rw [z, h]
  · rfl
end L2
namespace L2
open PySem PySem.Spec PyProof.Rows
abbrev ItO (h : Heap) (it d : Addr) (i n ep : Nat) (a : Addr) (f : Bool) (ok ov : Value) : Prop :=
  h.get? it = some { cls := .type "dict_itemiterator", dict := none, data := .fields #[rawInt a, .bool f, .ref d, .int i 0, .int n 0, .int ep 0, ok, ov], slots := #[] }
section
variable {prog : Program} {w : World} {A : Around} {E : Value → Shared → Prop} {s : Shared} {it d a : Addr} {f : Bool} {i n ep : Nat} {es : Array DictEntry} {o : Obj}
theorem item_next_o {e : DictEntry} {oa : Obj} {ok ov : Value} {Q : Option Value → Shared → Prop} (hit : ItO s.heap it d i n ep a f ok ov) (ha : s.heap.get? a = some oa) (hai : a ≠ it) (hod : s.heap.get? d = some o) (hdd : o.data = .dict es ep) (hn : es.size = n) (hx : es[i]? = some e)
    (hQ : ∀ h', ItO h' it d (i + 1) n ep a true ok ov → h'.get? s.heap.objs.size = some { cls := .type "tuple", data := .seq #[e.key, e.val] } → h'.objs.size = s.heap.objs.size + 1 →
      (∀ b q, b ≠ it → s.heap.get? b = some q → h'.get? b = some q) → Q (some (.ref s.heap.objs.size)) { s with heap := h' }) : wpAny (model prog w) A (pyNext (.ref it)) Q E s := by
  have T : s.TypeIs (.ref it) "dict_itemiterator" := ⟨_, hit, rfl⟩
  have own : Builtin.Dict_items.ownsTuple "dict_itemiterator" = true := by decide
  have nn : ¬ ((Value.ref d == Value.none) = true) := fun z => Bool.false_ne_true z
  unfold pyNext; refine wpAny_bind (wpAny_attempt (wpAny_callSpecial?_slot (name := Str.ofString "__next__") T F.slot_dict_itemiterator_next (wpAny_call_entry F.slot_dict_itemiterator_next T F.entry_dict_itemiterator_next ?_ (F.args_dict_itemiterator_next_1 _))))
  refine wpAny_bind (wpAny_pure (wpAny_bind (wpAny_bind ?_))); refine wpAny_bind (wpAny_typeNameOfWhole_itemiter T (wpAny_pure (wpAny_bind (wpAny_fieldsOf hit rfl ?_))))
  simp only [own, if_true]; show wpAny _ _ (if (Value.ref d == Value.none) = true then _ else _) _ _ s; rw [if_neg nn]
  refine wpAny_bind (wpAny_pure (wpAny_bind (wpAny_dictEntries hod hdd ?_))); rw [if_neg (by rw [hn]; simp)]
  refine wpAny_bind (wpAny_pure (wpAny_bind (wpAny_dictEpoch hod hdd ?_))); rw [if_neg (by simp)]
  have lt : ¬ ((i : Int) < 0) := by omega
  refine wpAny_pure ?_; simp only [lt, if_false, Int.toNat_natCast, hx]
  refine wpAny_bind (wpAny_bind (wpAny_typeNameOfWhole_itemiter T (wpAny_pure (wpAny_bind (wpAny_isOneOf_itemiter T ?_)))))
  show wpAny _ _ (setField (.ref it) 3 (rawInt ((i : Int) + 1)) >>= _) _ _ s; refine wpAny_bind (wpAny_setField_rec hit (by simp) fun h1 e1 s1 => ?_)
  have i1 : ItO h1 it d (i + 1) n ep a f ok ov := by
    have z : ((i + 1 : Nat) : Int) = (i : Int) + 1 := by omega
    unfold ItO; rw [z]; simpa [rawInt] using e1
  have T1 : Shared.TypeIs { s with heap := h1 } (.ref it) "dict_itemiterator" := ⟨_, i1, rfl⟩
  refine wpAny_bind (wpAny_holding (wpAny_bind (wpAny_isOneOf_itemiter T1 (wpAny_bind (wpAny_isOneOf_itemiter T1 ?_)))))
  show wpAny _ _ (Builtin.Dict_items.pairFromOwner (.ref it) 6 e.key e.val) _ _ _
  unfold Builtin.Dict_items.pairFromOwner; refine wpAny_bind (wpAny_newTuple ?_)
  have z1 : h1.objs.size = s.heap.objs.size := s1.1
  have lit : it < s.heap.objs.size := Heap.lt_size hit
  have i2 : ItO (h1.push { cls := .type "tuple", data := .seq #[e.key, e.val] }) it d (i + 1) n ep a f ok ov := Heap.get?_push_of_some _ i1
  have a2 : (h1.push { cls := .type "tuple", data := .seq #[e.key, e.val] }).get? a = some oa := Heap.get?_push_of_some _ (s1.extBut a oa hai ha)
  have t2 : (h1.push { cls := .type "tuple", data := .seq #[e.key, e.val] }).get? s.heap.objs.size = some { cls := .type "tuple", data := .seq #[e.key, e.val] } := by rw [← z1]; exact Heap.get?_push_size _ rfl
  have z2 : (h1.push { cls := .type "tuple", data := .seq #[e.key, e.val] }).objs.size = s.heap.objs.size + 1 := by rw [Heap.size_push, z1]
  have k2 : ∀ b q, b ≠ it → s.heap.get? b = some q → (h1.push { cls := .type "tuple", data := .seq #[e.key, e.val] }).get? b = some q := fun b q hb z => Heap.get?_push_of_some _ (s1.extBut b q hb z)
  dsimp only
  rw [z1]
  show wpAny _ _ (Builtin.Dict_items.ownedTupleIsFree (.ref it) >>= _) _ _ { s with heap := h1.push { cls := .type "tuple", data := .seq #[e.key, e.val] } }
  generalize (h1.push { cls := .type "tuple", data := .seq #[e.key, e.val] } : Heap) = h2 at *
  refine wpAny_bind ?_; unfold Builtin.Dict_items.ownedTupleIsFree; refine wpAny_bind (wpAny_field i2 rfl (x := rawInt a) rfl ?_)
  show wpAny _ _ (loadIfAlive ((a : Int).toNat) >>= _) _ _ _
  rw [Int.toNat_natCast]
  refine wpAny_bind (PySem.W.kdx_alive a2 ?_)
  simp only [Option.isNone_some, Bool.false_eq_true, if_false]
  refine wpAny_bind (wpAny_field i2 rfl (x := .bool f) rfl ?_)
  cases f with
  | true =>
    rw [if_neg (by decide)]
    exact wpAny_pure (wpAny_pure (wpAny_pure ⟨_, rfl, wpAny_pure (hQ h2 i2 t2 z2 k2)⟩))
  | false =>
    rw [if_pos (by decide)]
    refine wpAny_bind (wpAny_setField_rec i2 (by simp) fun h3 e3 s3 => ?_)
    have i3 : ItO h3 it d (i + 1) n ep a true ok ov := e3
    exact wpAny_pure (wpAny_pure (wpAny_pure ⟨_, rfl, wpAny_pure (hQ h3 i3 (s3.extBut _ _ (Nat.ne_of_gt lit) t2) (s3.1.trans z2) fun b q hb z => s3.extBut b q hb (k2 b q hb z))⟩))
theorem item_end_o {ok ov : Value} {Q : Option Value → Shared → Prop} (hh : A.handled = none) (hit : ItO s.heap it d i n ep a f ok ov) (hod : s.heap.get? d = some o) (hdd : o.data = .dict es ep) (hn : es.size = n) (hx : n ≤ i)
    (hQ : ∀ h', Heap.ExtBut it s.heap h' → Q none { s with heap := h' }) : wpAny (model prog w) A (pyNext (.ref it)) Q E s := by
  have T : s.TypeIs (.ref it) "dict_itemiterator" := ⟨_, hit, rfl⟩
  have own : Builtin.Dict_items.ownsTuple "dict_itemiterator" = true := by decide
  have nn : ¬ ((Value.ref d == Value.none) = true) := fun z => Bool.false_ne_true z
  unfold pyNext; refine wpAny_bind (wpAny_attempt (wpAny_callSpecial?_slot (name := Str.ofString "__next__") T F.slot_dict_itemiterator_next (wpAny_call_entry F.slot_dict_itemiterator_next T F.entry_dict_itemiterator_next ?_ (F.args_dict_itemiterator_next_1 _))))
  refine wpAny_bind (wpAny_pure (wpAny_bind (wpAny_bind ?_))); refine wpAny_bind (wpAny_typeNameOfWhole_itemiter T (wpAny_pure (wpAny_bind (wpAny_fieldsOf hit rfl ?_))))
  simp only [own, if_true]; show wpAny _ _ (if (Value.ref d == Value.none) = true then _ else _) _ _ s; rw [if_neg nn]
  refine wpAny_bind (wpAny_pure (wpAny_bind (wpAny_dictEntries hod hdd ?_))); rw [if_neg (by rw [hn]; simp)]
  refine wpAny_bind (wpAny_pure (wpAny_bind (wpAny_dictEpoch hod hdd ?_))); rw [if_neg (by simp)]
  have lt : ¬ ((i : Int) < 0) := by omega
  have hx' : es[i]? = none := Array.getElem?_eq_none (by omega)
  refine wpAny_pure ?_; simp only [lt, if_false, Int.toNat_natCast, hx']
  refine wpAny_bind (wpAny_bind (wpAny_typeNameOfWhole_itemiter T (wpAny_pure ?_)))
  show wpAny _ _ (setField (.ref it) 2 .none >>= _) _ _ s; refine wpAny_bind (wpAny_setField hit rfl (by simp) ?_)
  refine stop_end (A := A) (A' := A.in1) (E' := E) hh fun h' k => ?_
  exact hQ h' fun b o hb e => k b o ((Heap.SameBut.update ..).extBut b o hb e)
end
def ItX (h : Heap) (it d S : Addr) (i n ep : Nat) : Prop := ∃ ok ov, (i = 0 ∧ IsItemIter h it d i n ep ok ov) ∨ ∃ a f oa, ItO h it d i n ep a f ok ov ∧ h.get? a = some oa ∧ a ≠ it ∧ a ≠ S
section
variable {prog : Program} {w : World} {A : Around} {E : Value → Shared → Prop} {s : Shared} {it d S : Addr} {i n ep : Nat} {es : Array DictEntry} {o : Obj}
theorem itx_next {e : DictEntry} {Q : Option Value → Shared → Prop} (hit : ItX s.heap it d S i n ep) (hS : S < s.heap.objs.size) (hod : s.heap.get? d = some o) (hdd : o.data = .dict es ep) (hn : es.size = n) (hx : es[i]? = some e)
    (hQ : ∀ h', ItX h' it d S (i + 1) n ep → h'.get? s.heap.objs.size = some { cls := .type "tuple", data := .seq #[e.key, e.val] } → h'.objs.size = s.heap.objs.size + 1 →
      (∀ b q, b ≠ it → s.heap.get? b = some q → h'.get? b = some q) → Q (some (.ref s.heap.objs.size)) { s with heap := h' }) : wpAny (model prog w) A (pyNext (.ref it)) Q E s := by
  obtain ⟨ok, ov, ⟨_, h⟩ | ⟨a, f, oa, h, ha, hai, haS⟩⟩ := hit
  · refine item_next h hod hdd hn hx fun h' q1 q2 q3 q4 => hQ h' ⟨_, _, .inr ⟨_, false, _, q1, q2, Nat.ne_of_gt (Heap.lt_size h), Nat.ne_of_gt hS⟩⟩ q2 q3 q4
  · refine item_next_o h ha hai hod hdd hn hx fun h' q1 q2 q3 q4 => hQ h' ⟨_, _, .inr ⟨a, true, oa, q1, q4 _ _ hai ha, hai, haS⟩⟩ q2 q3 q4
theorem itx_end {Q : Option Value → Shared → Prop} (hh : A.handled = none) (hit : ItX s.heap it d S i n ep) (hod : s.heap.get? d = some o) (hdd : o.data = .dict es ep) (hn : es.size = n) (hx : n ≤ i)
    (hQ : ∀ h', Heap.ExtBut it s.heap h' → Q none { s with heap := h' }) : wpAny (model prog w) A (pyNext (.ref it)) Q E s := by
  obtain ⟨ok, ov, ⟨_, h⟩ | ⟨a, f, oa, h, ha, hai, haS⟩⟩ := hit
  · exact item_end hh h hod hdd hn hx hQ
  · exact item_end_o hh h hod hdd hn hx hQ
theorem ItX.keep {h h' : Heap} (x : ItX h it d S i n ep) (hk : ∀ b o, b ≠ S → h.get? b = some o → h'.get? b = some o) (hI : it ≠ S) : ItX h' it d S i n ep := by
  obtain ⟨ok, ov, ⟨z, q⟩ | ⟨a, f, oa, q, ha, hai, haS⟩⟩ := x
  · exact ⟨ok, ov, .inl ⟨z, hk _ _ hI q⟩⟩
  · exact ⟨ok, ov, .inr ⟨a, f, oa, hk _ _ hI q, hk _ _ haS ha, hai, haS⟩⟩
end
structure Prs (es : Array DictEntry) (lo : Addr) (h : Heap) (as : List Addr) : Prop where
  nd : as.Nodup
  hi : ∀ a ∈ as, lo < a ∧ a < h.objs.size
  at_ : ∀ (j : Nat) (a : Addr), as[j]? = some a → ∃ e, es[j]? = some e ∧ h.get? a = some { cls := .type "tuple", data := .seq #[e.key, e.val] }
theorem Prs.keep {es : Array DictEntry} {lo : Addr} {h h' : Heap} {as : List Addr} (x : Prs es lo h as) (k : ∀ a ∈ as, ∀ o, h.get? a = some o → h'.get? a = some o) : Prs es lo h' as := by
  refine ⟨x.nd, fun a ha => ⟨(x.hi a ha).1, ?_⟩, fun j a hj => ?_⟩
  · obtain ⟨j, hj⟩ := List.getElem?_of_mem ha
    obtain ⟨e, _, q⟩ := x.at_ j a hj
    exact Heap.lt_size (k a ha _ q)
  · obtain ⟨e, h1, q⟩ := x.at_ j a hj
    exact ⟨e, h1, k a (List.mem_of_getElem? hj) _ q⟩
section
variable {prog : Program} {w : World} {A : Around} {E : Value → Shared → Prop} {s : Shared} {d S it : Addr} {n ep : Nat} {es : Array DictEntry} {o : Obj} {R : Result → Shared → Prop} {res : Value} {h0 : Heap}
theorem items_loop (hh : A.handled = none) (hSI : S < it) (hdS : d ≠ S) (hdI : d ≠ it) (hz : n ≤ 1000) (hdd : o.data = .dict es ep) (hn : es.size = n)
    (hR : ∀ h' tk acc c as, (∀ b q, b ≠ S → b ≠ it → h0.get? b = some q → h'.get? b = some q) → h'.get? S = some { cls := .type "list", dict := none, data := .seq acc c, slots := #[] } → as.length = n → Prs es it h' as → acc.toList = as.map Value.ref → R (.ok (.ret res)) { s with heap := h', toks := tk }) :
    ∀ (k i : Nat) (h : Heap) (tk c : Nat) (acc : Array Value) (as : List Addr), n - i = k → i ≤ n → ItX h it d S i n ep → h.get? d = some o → (∀ b q, b ≠ S → b ≠ it → h0.get? b = some q → h.get? b = some q) →
      h.get? S = some { cls := .type "list", dict := none, data := .seq acc c, slots := #[] } → acc.toList = as.map Value.ref → as.length = i → Prs es it h as → it < h.objs.size →
      codeAny (model prog w) A (.builtin "list.extend.loop" ⟨[.ref S, .ref it, res], []⟩) R { s with heap := h, toks := tk } := by
  have ne : S ≠ it := Nat.ne_of_lt hSI
  intro k
  induction k with
  | zero =>
    intro i h tk c acc as hk hi hx hod hkp hS hacc hal hP hI
    refine codeAny_builtin PySem.F.entry_extend_loop ?_
    rw [Around.under_plainId PySem.F.plain_extend_loop _]
    show wpAny _ A.in1 (pyNext (.ref it) >>= _) _ _ _
    refine wpAny_bind (itx_end (A := A.in1) (s := { s with heap := h, toks := tk }) hh hx hod hdd hn (by omega) fun h' he => wpAny_pure ?_)
    exact hR h' tk acc c as (fun b q b1 b2 z => he b q b2 (hkp b q b1 b2 z)) (he S _ ne hS) (by omega) (hP.keep fun a ha q z => he a q (Nat.ne_of_gt (hP.hi a ha).1) z) hacc
  | succ k ih =>
    intro i h tk c acc as hk hi hx hod hkp hS hacc hal hP hI
    obtain ⟨e, he⟩ : ∃ e, es[i]? = some e := ⟨es[i]'(by omega), Array.getElem?_eq_getElem (by omega)⟩
    have az : acc.size = i := by rw [← Array.length_toList, hacc, List.length_map, hal]
    have Sl : S < h.objs.size := Heap.lt_size hS
    refine codeAny_builtin PySem.F.entry_extend_loop ?_
    rw [Around.under_plainId PySem.F.plain_extend_loop _]
    show wpAny _ A.in1 (pyNext (.ref it) >>= _) _ _ _
    refine wpAny_bind (itx_next (s := { s with heap := h, toks := tk }) hx Sl hod hdd hn he fun h' x' t' z' k' => ?_)
    dsimp only at t' z' k' ⊢
    have S' := k' S _ ne hS
    have up : ∀ b q, b ≠ S → h'.get? b = some q → (h'.update S (Obj.mapSeq fun l => l.push (Value.ref h.objs.size))).get? b = some q := fun b q hb z => (Heap.get?_update_other _ _ (Ne.symm hb)).trans z
    have S2 := Heap.get?_update_self (Obj.mapSeq fun l => l.push (Value.ref h.objs.size)) S' rfl
    have tS : h.objs.size ≠ S := Nat.ne_of_gt Sl
    have t2 := up _ _ tS t'
    show wpAny _ A.in1 (updateSeq S (fun l => l.push (Value.ref h.objs.size)) >>= _) _ _ _
    refine wpAny_bind (wpAny_updateSeq S' rfl (wpAny_pure ⟨plainId_quiet PySem.F.plain_extend_loop _, ?_⟩) (by rw [az, sizeLine_eq]; omega) (by show (acc.push _).size ≤ _; rw [Array.size_push, az, sizeLine_eq]; omega))
    refine ih (i + 1) _ tk _ (acc.push (Value.ref h.objs.size)) (as ++ [h.objs.size]) (by omega) (by omega) (x'.keep up (Ne.symm ne)) (up d o hdS (k' d o hdI hod)) (fun b q b1 b2 z => up b q b1 (k' b q b2 (hkp b q b1 b2 z))) S2 (by rw [Array.toList_push, hacc, List.map_append]; rfl) (by rw [List.length_append, hal]; rfl) ?_ (Nat.lt_trans hI (Heap.lt_size t2))
    have lift : ∀ a ∈ as, ∀ q, h.get? a = some q → (h'.update S (Obj.mapSeq fun l => l.push (Value.ref h.objs.size))).get? a = some q := fun a ha q z => up a q (Nat.ne_of_gt (Nat.lt_trans hSI (hP.hi a ha).1)) (k' a q (Nat.ne_of_gt (hP.hi a ha).1) z)
    have P2 := hP.keep lift
    refine ⟨?_, fun a ha => ?_, fun j a hj => ?_⟩
    · rw [List.nodup_append]
      refine ⟨hP.nd, by simp, fun x hx y hy => ?_⟩
      rw [List.mem_singleton.mp hy]
      exact Nat.ne_of_lt (hP.hi x hx).2
    · rcases List.mem_append.mp ha with ha | ha
      · exact P2.hi a ha
      · rw [List.mem_singleton.mp ha]; exact ⟨hI, Heap.lt_size t2⟩
    · rcases Nat.lt_or_ge j as.length with q | q
      · rw [List.getElem?_append_left q] at hj; exact P2.at_ j a hj
      · rw [List.getElem?_append_right q] at hj
        have j0 : j - as.length = 0 := by
          rcases Nat.eq_zero_or_pos (j - as.length) with z | z
          · exact z
          · rw [List.getElem?_eq_none (by simp; omega)] at hj; cases hj
        rw [j0] at hj
        simp at hj; subst hj
        exact ⟨e, by have : j = i := by omega
                     rw [this]; exact he, t2⟩
end
section
variable {prog : Program} {w : World} {A : Around} {E : Value → Shared → Prop} {s : Shared} {v d : Addr} {ep : Nat} {es : Array DictEntry} {o : Obj}
theorem items_extend {R : Result → Shared → Prop} {S : Addr} {c0 : Nat} {res : Value} (hh : A.handled = none) (hv : s.heap.IsItemsView v d) (hod : s.heap.get? d = some o) (hdd : o.data = .dict es ep) (hz : es.size ≤ 1000) (vS : S ≠ v) (dS : d ≠ S)
    (hS : s.heap.get? S = some { cls := .type "list", data := .seq #[] c0 })
    (hR : ∀ h' tk acc c as, (∀ b q, b ≠ S → s.heap.get? b = some q → h'.get? b = some q) → h'.get? S = some { cls := .type "list", dict := none, data := .seq acc c, slots := #[] } → as.length = es.size → Prs es s.heap.objs.size h' as → acc.toList = as.map Value.ref → R (.ok (.ret res)) { s with heap := h', toks := tk }) :
    wpAny (model prog w) A.in1 (Builtin.List.listExtendWith (.ref S) (.ref v) res) (fun fin s' => match fin with | .done f => R (.ok f) s' | .again c' => c'.quiet = true ∧ codeAny (model prog w) A c' R s') (fun e s' => R (.error e) s') s := by
  have Sl := Heap.lt_size hS
  have dl := Heap.lt_size hod
  have run : ∀ (h : Heap) (c1 tk : Nat), (∀ b q, b ≠ S → (s.heap.push { cls := .type "dict_itemiterator", data := .fields #[.none, .bool false, .ref d, .int 0 0, .int es.size 0, .int ep 0, .none, .none] }).get? b = some q → h.get? b = some q) →
      h.get? S = some { cls := .type "list", data := .seq #[] c1 } → codeAny (model prog w) A (.builtin "list.extend.loop" ⟨[.ref S, .ref s.heap.objs.size, res], []⟩) R { s with heap := h, toks := tk } := fun h c1 tk kp S1 => by
    have I1 := kp s.heap.objs.size _ (Nat.ne_of_gt Sl) (Heap.get?_push_size _ rfl)
    refine items_loop (s := s) (h0 := s.heap) hh Sl dS (Nat.ne_of_lt dl) hz hdd rfl (fun h' tk' acc c as k' S' l' P' a' => hR h' tk' acc c as (fun b q hb z => k' b q hb (Nat.ne_of_lt (Heap.lt_size z)) z) S' l' P' a') es.size 0 h tk c1 #[] [] (Nat.sub_zero _) (Nat.zero_le _) ⟨.none, .none, .inl ⟨rfl, I1⟩⟩ (kp d o dS (Heap.get?_push_of_some _ hod))
      (fun b q b1 _ z => kp b q b1 (Heap.get?_push_of_some _ z)) S1 rfl rfl ⟨List.nodup_nil, (fun _ z => by cases z), (fun j a z => by simp at z)⟩ (Heap.lt_size I1)
  have n1 : Builtin.List.listSameRef (.ref S) (.ref v) = false := by simp [Builtin.List.listSameRef, vS]
  have n2 : (Value.type "dict_items" == Value.type "list") = false := by decide
  have n3 : (Value.type "dict_items" == Value.type "tuple") = false := by decide
  have T := hv.typeIs
  unfold Builtin.List.listExtendWith
  refine wpAny_bind (wpAny_typeOf (T := "dict_items") T ?_)
  simp only [n1, n2, n3, Bool.or_false, Bool.false_eq_true, if_false]
  refine wpAny_bind (view_iter hv hod hdd ?_)
  have S1 := Heap.get?_push_of_some { cls := .type "dict_itemiterator", data := .fields #[.none, .bool false, .ref d, .int 0 0, .int es.size 0, .int ep 0, .none, .none] } hS
  refine wpAny_bind (wpAny_holding (PySem.W.kdx_hint (let ⟨q, hq, hc, _⟩ := hv; ⟨q, Heap.get?_push_of_some _ hq, hc⟩) ?_))
  refine wpAny_ite_split (fun _ => wpAny_bind (wpAny_rule (wpAny_bind ?_))) fun _ => wpAny_pure ⟨plainId_quiet PySem.F.plain_extend_loop _, run _ c0 _ (fun b q _ z => z) S1⟩
  show wpAny _ _ (updateSeq S (fun l => l.push .none) >>= fun _ => updateSeq S (fun l => l.pop)) _ _ _
  refine wpAny_bind (wpAny_updateSeq S1 rfl ?_)
  have S2 := Heap.get?_update_self (Obj.mapSeq fun l => l.push Value.none) S1 rfl
  refine wpAny_updateSeq (hz := by seq_fits) S2 rfl ?_
  have S3 := Heap.get?_update_self (Obj.mapSeq fun l => l.pop) S2 rfl
  exact wpAny_pure ⟨plainId_quiet PySem.F.plain_extend_loop _, run _ _ _ (fun b q hb z => (Heap.get?_update_other _ _ (Ne.symm hb)).trans ((Heap.get?_update_other _ _ (Ne.symm hb)).trans z)) S3⟩
theorem items_list {Q : Value → Shared → Prop} (hh : A.handled = none) (hv : s.heap.IsItemsView v d) (hod : s.heap.get? d = some o) (hdd : o.data = .dict es ep) (hz : es.size ≤ 1000)
    (hQ : ∀ h' tk acc c as, (∀ b q, s.heap.get? b = some q → h'.get? b = some q) → h'.get? s.heap.objs.size = some { cls := .type "list", dict := none, data := .seq acc c, slots := #[] } → as.length = es.size → Prs es s.heap.objs.size h' as → acc.toList = as.map Value.ref → Q (.ref s.heap.objs.size) { s with heap := h', toks := tk }) :
    wpAny (model prog w) A (call (.type "list") [.ref v]) Q E s := by
  refine callType_codes (Q₁ := fun ob s1 => ob = .ref s.heap.objs.size ∧ s1 = { s with heap := s.heap.push { cls := .type "list", data := .seq #[] } }) PySem.F.called_list (PySem.F.typeCall_list_1 _) PySem.F.entry_list_init (code_list_new _ ⟨rfl, rfl⟩) fun ob s1 hs => ?_
  obtain ⟨rfl, rfl⟩ := hs
  have hS : (s.heap.push { cls := .type "list", data := .seq #[] }).get? s.heap.objs.size = some { cls := .type "list", data := .seq #[] } := Heap.get?_push_size _ rfl
  have vl : v < s.heap.objs.size := let ⟨_, hq, _⟩ := hv; Heap.lt_size hq
  have dl := Heap.lt_size hod
  refine ⟨⟨_, hS, rfl⟩, PySem.F.args_list_init_2 _ _, ?_⟩
  show wpAny _ _ (do let old ← Builtin.List.listItems (.ref s.heap.objs.size); Builtin.List.listUpdate (.ref s.heap.objs.size) (fun _ => #[]); letGo old.toList.reverse; Builtin.List.listExtendWith (.ref s.heap.objs.size) (.ref v) .none) _ _ _
  refine wpAny_bind ?_
  unfold Builtin.List.listItems
  refine wpAny_bind (wpAny_seqItems hS rfl (wpAny_pure ?_))
  show wpAny _ _ (updateSeq s.heap.objs.size (fun _ => #[]) >>= fun _ => letGo (#[] : Array Value).toList.reverse >>= fun _ => Builtin.List.listExtendWith (.ref s.heap.objs.size) (.ref v) .none) _ _ _
  refine wpAny_bind (wpAny_updateSeq hS rfl (wpAny_bind (wpAny_letGo ?_)))
  have S2 := Heap.get?_update_self (Obj.mapSeq fun _ => (#[] : Array Value)) hS rfl
  have oth : ∀ b q, s.heap.get? b = some q → ((s.heap.push { cls := .type "list", data := .seq #[] }).update s.heap.objs.size (Obj.mapSeq fun _ => (#[] : Array Value))).get? b = some q := fun b q z => (Heap.get?_update_other _ _ (Nat.ne_of_gt (Heap.lt_size z))).trans (Heap.get?_push_of_some _ z)
  refine items_extend (A := A.in1) hh (let ⟨q, hq, x⟩ := hv; ⟨q, oth _ _ hq, x⟩) (oth _ _ hod) hdd hz (Nat.ne_of_gt vl) (Nat.ne_of_lt dl) S2 fun h' tk acc c as kp S' l' P' a' => ?_
  have zz : s.heap.objs.size ≤ ((s.heap.push { cls := .type "list", data := .seq #[] }).update s.heap.objs.size (Obj.mapSeq fun _ => (#[] : Array Value))).objs.size := Nat.le_of_lt (Heap.lt_size S2)
  exact ⟨rfl, hQ h' tk acc c as (fun b q z => kp b q (Nat.ne_of_lt (Heap.lt_size z)) (oth b q z)) S' l' ⟨P'.nd, fun a ha => ⟨Nat.lt_of_le_of_lt zz (P'.hi a ha).1, (P'.hi a ha).2⟩, P'.at_⟩ a'⟩
end
section
variable {X : Cx} {pins : List (Addr × Obj)} {σ : St} {H : Hp} {s : Shared}
theorem Inv.adopt {a : Addr} {u : HO} (I : Inv X pins σ H s) (f : FpOk X pins H a) (new : ObjOk X.prog X.w (upd H a u) s.heap a u) : Inv X pins σ (upd H a u) s := by
  obtain ⟨f0, f1, f2, f3, f4, f5⟩ := f
  refine ⟨I.ok, I.os, I.bare, ⟨I.base.keep, I.base.slot, fun b q z n hx => ?_, I.base.there, fun b xs z => ?_, fun b ob w z => ?_, fun b ps z => ?_⟩, I.loc, I.cell, ?_, fun x c z => ?_, fun p hp => ?_, fun b w z => ?_, I.len⟩
  · have : b ≠ a := fun e => by
      subst e
      rcases f3 with q3 | q3
      · exact hx q3
      · exact absurd (Heap.lt_size z) (Nat.not_lt.mpr q3)
    rw [upd_ne this]; exact I.base.free b q z n hx
  · have q := I.base.tups b xs z
    rw [upd_ne (fun e => by rw [e, f0] at q; cases q)]; exact q
  · have q := I.base.frzs b ob w z
    rw [upd_ne (fun e => by rw [e, f0] at q; cases q)]; exact q
  · obtain ⟨m, q⟩ := I.base.tbls b ps z
    exact ⟨m, by rw [upd_ne (fun e => by rw [e, f0] at q; cases q)]; exact q⟩
  · rw [upd_ne (Ne.symm f1)]; exact I.free
  · rw [upd_ne (f4 x c z)]; exact I.freeC x c z
  · obtain ⟨z1, z2, z3⟩ := I.pin p hp
    exact ⟨z1, by rw [upd_ne (f5 p hp)]; exact z2, z3⟩
  · by_cases hb : b = a
    · subst hb
      rw [upd_same] at z; injection z with z; subst z
      exact new
    · rw [upd_ne hb] at z
      exact (I.hok b w z).stay (fun _ _ _ q => q) (fun c q => by rw [upd_ne (fun e => by rw [e, f0] at q; cases q)]; exact q) fun c xs q => by rw [upd_ne (fun e => by rw [e, f0] at q; cases q)]; exact q
end
section
variable {X : Cx} {pins : List (Addr × Obj)} {σ : St} {s : Shared}
theorem Inv.adoptT : ∀ {H : Hp} (l : List (Addr × List V)), (l.map (·.1)).Nodup → (∀ p ∈ l, FpOk X pins H p.1) → (∀ p ∈ l, p.2.length ≤ sizeLine ∧ ∃ its : List Value, Vals p.2 its ∧ IsTup s.heap p.1 its.toArray) → Inv X pins σ H s →
    ∃ H', Inv X pins σ H' s ∧ Same H H' ∧ (∀ p ∈ l, H' p.1 = some (.tup p.2)) ∧ ∀ b, (∀ p ∈ l, p.1 ≠ b) → H' b = H b
  | H, [], _, _, _, I => ⟨H, I, Same.refl _, (fun p z => by cases z), fun _ _ => rfl⟩
  | H, p :: l, hn, hf, ho, I => by
    rw [List.map_cons, List.nodup_cons] at hn
    have f := hf p (by simp)
    have I1 := I.adopt f (show ObjOk X.prog X.w (upd H p.1 (.tup p.2)) s.heap p.1 (.tup p.2) from ho p (by simp))
    have nep : ∀ q ∈ l, q.1 ≠ p.1 := fun q hq e => hn.1 (List.mem_map.mpr ⟨q, hq, e⟩)
    obtain ⟨H', I2, e2, t2, o2⟩ := Inv.adoptT (H := upd H p.1 (.tup p.2)) l hn.2 (fun q hq => by
      obtain ⟨f0, f1⟩ := hf q (by simp [hq])
      exact ⟨by rw [upd_ne (nep q hq)]; exact f0, f1⟩) (fun q hq => ho q (by simp [hq])) I1
    refine ⟨H', I2, (Same.upd f.1).trans e2, fun q hq => ?_, fun b hb => ?_⟩
    · rcases List.mem_cons.mp hq with z | z
      · rw [z]; exact e2 _ _ upd_same
      · exact t2 q z
    · rw [o2 b fun q hq => hb q (by simp [hq]), upd_ne (Ne.symm (hb p (by simp)))]
end
def vwI (v d : Addr) : HO := .ext fun h => h.IsItemsView v d
section
variable {X : Cx}
def rItems : V → List V → Hp → VK → Prop := fun x vs H Q => ∃ d kvs, x = .ref d ∧ vs = [] ∧ Rd H d (.dT kvs) ∧ ∀ v, H v = none → Q (.ref v) (upd H v (vwI v d))
theorem mt_items : MtR X "dict.items" rItems := by
  intro pins s σ H x vs u us Q I rx rv h
  obtain ⟨d, kvs, rfl, rfl, hd, q⟩ := h
  cases rx
  cases rv
  obtain ⟨o, es, ep, ho, T, nd, hs, hdd, hz, I2⟩ := I.still hd
  refine dict_items hs T ⟨.ref s.heap.objs.size, _, I.laid (t' := s.toks) (fun b q z => Heap.get?_push_of_some _ z) (Nat.le_refl _) ?_, rfl, q _ (I.hok.fresh (Nat.le_refl _))⟩
  have e : (s.heap.push { cls := .type "dict_items", data := .fields #[.ref d] }).get? s.heap.objs.size = some { cls := .type "dict_items", data := .fields #[.ref d] } := Heap.get?_push_size _ rfl
  exact ⟨⟨_, e, rfl, rfl⟩, ⟨_, e⟩, fun h1 h2 ⟨ob, z1, z2⟩ k => ⟨ob, k _ z1, z2⟩⟩
theorem pe_items {o : Expr} {to : TE} {apos cpos : Pos} (ho : PE X o to) (hbase : attributeBase o "items" X.env (eval o X.env) = eval o X.env := by rfl) (hline : (apos.endLine == cpos.line) = true := by rfl) :
    PE X (.Call (.Attribute o "items" apos) [] [] cpos) (tBM0 X.K "dict" rItems to) := pe_bm0 PySem.F.plainAttrs_dict PySem.F.slot_dict_items PySem.F.type_dict_items mt_items ho hbase hline
theorem call_list_items (hc : X.calm = true) : CallR X (.type "list") (fun xs H Q => ∃ v d kvs, xs = [.ref v] ∧ H v = some (vwI v d) ∧ Rd H d (.dT kvs) ∧ kvs.length ≤ 1000 ∧ ∀ (l : Addr) (as : List Addr) (H' : Hp), Same H H' → H l = none → H' l = some (.lst (as.map V.ref)) → as.length = kvs.length →
    (∀ (i : Nat) k x, kvs[i]? = some (k, x) → ∃ a b, as[i]? = some a ∧ H' a = some (.tup [.ref b, x]) ∧ H' b = some (.tup (k.map kV))) → Q (.ref l) H') := by
  intro pins s σ H xs us Q I r h
  obtain ⟨v, d, kvs, rfl, hv, hd, hz, q⟩ := h
  obtain ⟨u, rfl, rx⟩ := vals1 r
  cases rx
  obtain ⟨hvw, _, _⟩ := (show ObjOk X.prog X.w H s.heap v (vwI v d) from I.hok v _ hv)
  obtain ⟨zl, hds, ys, rel, ob, es, ep, g1, g2, g3, g4, g5, g6⟩ := dt_rd I.hok hd
  have le : es.size = kvs.length := (size_of_entries g4).trans (Paired.length rel).symm
  refine items_list (I.ok.hd hc) hvw g1 g3 (by omega) fun h' tk acc c as kp hS la P ea => ?_
  have I1 : Inv X pins σ H { s with heap := h', toks := tk } := I.kept kp
  have row : ∀ (i : Nat) k x, kvs[i]? = some (k, x) → ∃ a b w', as[i]? = some a ∧ H b = some (.tup (k.map kV)) ∧ RelV x w' ∧ h'.get? a = some { cls := .type "tuple", data := .seq #[.ref b, w'] } := fun i k x hk => by
    obtain ⟨y, hy, e1, e2, e3⟩ := Paired.at' rel hk
    have hi : i < as.length := by
      rcases Nat.lt_or_ge i kvs.length with z | z
      · omega
      · rw [List.getElem?_eq_none z] at hk; cases hk
    obtain ⟨e, he, ha⟩ := P.at_ i as[i] (List.getElem?_eq_getElem hi)
    have : es[i]? = some (entryOfKey (tupleKind (mixKind X.prog X.w)) y) := by
      have z : es.toList[i]? = some (entryOfKey (tupleKind (mixKind X.prog X.w)) y) := by rw [g4, List.getElem?_map, hy]; rfl
      simpa using z
    rw [this] at he; injection he with he; subst he
    exact ⟨as[i], y.2.1, y.2.2, List.getElem?_eq_getElem hi, e2, e3, ha⟩
  have fp : ∀ a, s.heap.objs.size ≤ a → FpOk X pins H a := fun a ha => I.fpOk ha (I.hok.fresh ha)
  -- the pairs, as they are to be watched
  have mk : ∀ (n : Nat), n ≤ kvs.length → ∃ l : List (Addr × List V), l.map (·.1) = as.take n ∧ (∀ p ∈ l, p.2.length ≤ sizeLine ∧ ∃ its : List Value, Vals p.2 its ∧ IsTup h' p.1 its.toArray) ∧
      ∀ (i : Nat) k x, i < n → kvs[i]? = some (k, x) → ∃ a b, as[i]? = some a ∧ (a, [V.ref b, x]) ∈ l ∧ H b = some (.tup (k.map kV)) := by
    intro n
    induction n with
    | zero => intro _; exact ⟨[], rfl, (fun _ z => by cases z), fun i k x hi => absurd hi (Nat.not_lt_zero _)⟩
    | succ n ih =>
      intro hn
      obtain ⟨l, l1, l2, l3⟩ := ih (by omega)
      obtain ⟨⟨k, x⟩, hk⟩ : ∃ p, kvs[n]? = some p := ⟨kvs[n], List.getElem?_eq_getElem (by omega)⟩
      obtain ⟨a, b, w', ha, hb, rx, ht⟩ := row n k x hk
      refine ⟨l ++ [(a, [.ref b, x])], ?_, fun p hp => ?_, fun i k' x' hi hk' => ?_⟩
      · rw [List.map_append, l1, List.take_add_one, ha]; rfl
      · rcases List.mem_append.mp hp with hp | hp
        · exact l2 p hp
        · rw [List.mem_singleton.mp hp]
          exact ⟨by show 2 ≤ sizeLine; decide, [.ref b, w'], .cons rfl (.cons rx .nil), ⟨_, ht, rfl, 0, rfl⟩⟩
      · by_cases z : i = n
        · subst z
          rw [hk] at hk'; injection hk' with hk'; cases hk'
          exact ⟨a, b, ha, by simp, hb⟩
        · obtain ⟨a', b', q1, q2, q3⟩ := l3 i k' x' (by omega) hk'
          exact ⟨a', b', q1, by simp [q2], q3⟩
  obtain ⟨l, l1, l2, l3⟩ := mk kvs.length (Nat.le_refl _)
  rw [← le, ← la, List.take_length] at l1
  have hi : ∀ p ∈ l, s.heap.objs.size < p.1 := fun p hp => (P.hi p.1 (by rw [← l1]; exact List.mem_map.mpr ⟨p, hp, rfl⟩)).1
  obtain ⟨H2, I2, e2, t2, o2⟩ := Inv.adoptT (X := X) (pins := pins) (σ := σ) (s := { s with heap := h', toks := tk }) (H := H) l (by rw [l1]; exact P.nd) (fun p hp => fp p.1 (Nat.le_of_lt (hi p hp))) l2 I1
  have nS : H2 s.heap.objs.size = none := by rw [o2 _ fun p hp => Nat.ne_of_gt (hi p hp)]; exact I.hok.fresh (Nat.le_refl _)
  have fS : FpOk X pins H2 s.heap.objs.size := ⟨nS, (fp _ (Nat.le_refl _)).2⟩
  have vs : ∀ (as : List Addr), Vals (as.map V.ref) (as.map Value.ref) := fun as => by
    induction as with
    | nil => exact .nil
    | cons a as ih => exact .cons rfl ih
  have eA : acc = (as.map Value.ref).toArray := by rw [← ea]
  have I3 := I2.adopt (u := .lst (as.map V.ref)) fS ⟨by rw [List.length_map, la, le, sizeLine_eq]; omega, as.map Value.ref, c, vs as, by rw [← eA]; exact hS⟩
  refine ⟨.ref s.heap.objs.size, _, I3, rfl, q _ as _ (e2.trans (Same.upd nS)) (I.hok.fresh (Nat.le_refl _)) upd_same (la.trans le) fun i k x hk => ?_⟩
  obtain ⟨a, b, q1, q2, q3⟩ := l3 i k x (by
    rcases Nat.lt_or_ge i kvs.length with z | z
    · exact z
    · rw [List.getElem?_eq_none z] at hk; cases hk) hk
  exact ⟨a, b, q1, (Same.upd nS) _ _ (t2 _ q2), (Same.upd nS) _ _ (e2 _ _ q3)⟩
end
end L2
namespace L2
open PySem PySem.Spec PyProof.Rows
theorem lk_list_keys : typeLookup (.type "list") "keys" = pure none := by rw [typeLookup_type, builtinLookup_eq_fast]; kernel_rfl
theorem lk_list_getattr : typeLookup (.type "list") "__getattr__" = pure none := by rw [typeLookup_type, builtinLookup_eq_fast]; kernel_rfl
section
variable {prog : Program} {w : World} {A : Around} {E : Value → Shared → Prop} {h : Heap} {g : Array GenState} {d : Drawn} {t : Nat} {os : OsState} {a : Addr} {its : Array Value} {c : Nat}
theorem keys_entry_list {tk : Tok} {Q : Fin → Shared → Prop} (hx : h.get? a = some { cls := .type "list", data := .seq its c }) (hh : A.handled = none) (hE : ∀ h' t' e, Heap.NewAttrErr h h' e (.ref a) "keys" → E (.ref e) ⟨h', g, d, t', os⟩) :
    wpAny (model prog w) A (Builtin.«object.__getattribute__» ⟨[.ref a, .str "keys" tk], []⟩) Q E ⟨h, g, d, t, os⟩ := by
  have hT : (⟨h, g, d, t, os⟩ : Shared).TypeIs (.ref a) "list" := ⟨_, hx, rfl⟩
  have f4 := lk_list_keys
  have f5 := lk_list_getattr
  repeat (any_goals (first | assumption | wp_step))
  exact wpAny_raiseAttrError hh hE (attrMsg_fits (by decide +kernel) (by rw [sizeLine_eq]; decide))
theorem keys_call_list {tk : Tok} {Q : Value → Shared → Prop} (hx : h.get? a = some { cls := .type "list", data := .seq its c }) (hh : A.handled = none) (hE : ∀ h' t' e, Heap.NewAttrErr h h' e (.ref a) "keys" → E (.ref e) ⟨h', g, d, t', os⟩) :
    wpAny (model prog w) A (call (.builtin "list.__getattribute__") [.ref a, .str "keys" tk]) Q E ⟨h, g, d, t, os⟩ := by
  have hT : (⟨h, g, d, t, os⟩ : Shared).TypeIs (.ref a) "list" := ⟨_, hx, rfl⟩
  exact wpAny_call_entry PySem.F.slot_list_getattribute hT PySem.F.entry_list_ga (keys_entry_list (A := A.in1) hx hh hE) (PySem.F.args_list_getattribute_2 _ _)
theorem keys_list_none {Q : Option Value → Shared → Prop} (hx : h.get? a = some { cls := .type "list", data := .seq its c }) (hh : A.handled = none) (hQ : ∀ h' t', (∀ b q, h.get? b = some q → h'.get? b = some q) → Q none ⟨h', g, d, t', os⟩) :
    wpAny (model prog w) A (getAttr? (.ref a) "keys") Q E ⟨h, g, d, t, os⟩ := by
  have hT : (⟨h, g, d, t, os⟩ : Shared).TypeIs (.ref a) "list" := ⟨_, hx, rfl⟩
  have f1 := sub_AttributeError
  have f2 := PySem.F.slot_list_getattribute.lookup
  have f3 := PySem.F.slot_list_getattribute.bind (.ref a)
  have f5 := lk_list_getattr
  unfold getAttr? getAttrBy? getAttrBy
  repeat (any_goals (first | assumption | ((with_reducible show wpAny _ _ (call (Value.builtin "list.__getattribute__") _ _) _ _ _); refine keys_call_list hx hh fun h' t' e x => ?_) | wp_step))
  obtain ⟨t1, u1, he⟩ := x.there
  repeat (any_goals (first | assumption | wp_step))
  exact hQ _ _ x.keeps
end
section
variable {prog : Program} {w : World} {κ : Type} [DecidableEq κ] {kk : KeyKind prog w κ} {A : Around} {E : Value → Shared → Prop} {s : Shared} {l it D : Addr} {R : Result → Shared → Prop} {its : List Value}
def putAll (xs : List (List κ × Addr × Value)) (ps : List (List κ × Addr × Value)) : List (List κ × Addr × Value) := ps.foldl (fun acc p => storedH acc p.1 p.2.1 p.2.2) xs
theorem putAll_snoc (xs : List (List κ × Addr × Value)) (ps : List (List κ × Addr × Value)) (p : List κ × Addr × Value) : putAll xs (ps ++ [p]) = storedH (putAll xs ps) p.1 p.2.1 p.2.2 := by simp [putAll]
theorem storedH_len (xs : List (List κ × Addr × Value)) (k : List κ) (a : Addr) (v : Value) : (storedH xs k a v).length ≤ xs.length + 1 := by
  unfold storedH; split <;> simp
theorem entry_upd_loop : entryFor table "dict.update.loop" = some Builtin.«dict.update.loop» := entryFor_of_tree (by kernel_rfl)
theorem plain_upd_loop : plainId "dict.update.loop" = true := by decide +kernel
theorem pairs_loop {h0 : Heap} {ps : List (List κ × Addr × Value)} (hh : A.handled = none) (hu : (tupleKind kk).room A.in1) (hID : it ≠ D) (hz : ps.length ≤ 1000)
    (hps : ∀ (h : Heap), (∀ b q, b ≠ it → b ≠ D → h0.get? b = some q → h.get? b = some q) → h.IsList l its.toArray ∧ its.length = ps.length ∧ ∀ (i : Nat) p, ps[i]? = some p → ∃ a oa n, its[i]? = some (.ref a) ∧ h.get? a = some oa ∧ oa.cls = .type "tuple" ∧ oa.data = .seq #[.ref p.2.1, p.2.2] n ∧ (tupleKind kk).is h p.1 p.2.1)
    (hR : ∀ h' tk, (∀ b q, b ≠ it → b ≠ D → h0.get? b = some q → h'.get? b = some q) → h'.DictOfH (tupleKind kk) D (putAll [] ps) → R (.ok (.ret .none)) { s with heap := h', toks := tk }) :
    ∀ (k i : Nat) (h : Heap) (tk : Nat) (tok : Tok), ps.length - i = k → i ≤ ps.length → (∀ b q, b ≠ it → b ≠ D → h0.get? b = some q → h.get? b = some q) → h.IsListIter it l i → h.DictOfH (tupleKind kk) D (putAll [] (ps.take i)) → (putAll [] (ps.take i)).length ≤ i →
      codeAny (model prog w) A (.builtin "dict.update.loop" ⟨[.ref D, .ref it, .int i tok, .none], []⟩) R { s with heap := h, toks := tk } := by
  intro k
  induction k with
  | zero =>
    intro i h tk tok hk hi hkp hit hD hl
    obtain ⟨hls, li, hrow⟩ := hps h hkp
    refine codeAny_builtin entry_upd_loop ?_
    rw [Around.under_plainId plain_upd_loop _]
    show wpAny _ A.in1 (pyNext (.ref it) >>= _) _ _ _
    refine wpAny_bind (wpAny_pyNext_list_end (A := A.in1) (s := { s with heap := h, toks := tk }) hh hit hls (by rw [List.getElem?_toArray, List.getElem?_eq_none]; omega) fun h' he => ?_)
    show wpAny _ _ (Builtin.Dict.addKeywords D [] >>= fun _ => ret Value.none) _ _ _
    have ei : ps.take i = ps := List.take_of_length_le (by omega)
    rw [ei] at hD
    refine wpAny_bind (wpAny_pure (wpAny_pure (hR h' tk (fun b q b1 b2 z => he b q b1 (hkp b q b1 b2 z)) ?_)))
    obtain ⟨o, es, ep, g1, g2, g3, g4, g5, g6⟩ := hD
    refine ⟨o, es, ep, he _ _ (Ne.symm hID) g1, g2, g3, g4, fun x hx => ?_, g6⟩
    obtain ⟨q1, q2, q3, q4, q5, q6⟩ := g5 x hx
    refine ⟨q1, q2, q3, he _ _ (fun z => ?_) q4, q5, q6⟩
    obtain ⟨oi, y1, y2, y3⟩ := hit
    rw [z, y1] at q4
    injection q4 with q4
    rw [← q4, y2] at q5
    exact absurd q5 (by decide)
  | succ k ih =>
    intro i h tk tok hk hi hkp hit hD hl
    obtain ⟨hls, li, hrow⟩ := hps h hkp
    obtain ⟨p, hp⟩ : ∃ p, ps[i]? = some p := ⟨_, List.getElem?_eq_getElem (by omega)⟩
    obtain ⟨a, oa0, n0, ha, hta, _, _, hka⟩ := hrow i p hp
    refine codeAny_builtin entry_upd_loop ?_
    rw [Around.under_plainId plain_upd_loop _]
    show wpAny _ A.in1 (pyNext (.ref it) >>= _) _ _ _
    refine wpAny_bind (wpAny_pyNext_list_item (s := { s with heap := h, toks := tk }) hit hls (x := .ref a) (by rw [List.getElem?_toArray]; exact ha) fun h' hit' hs' => ?_)
    have kp' : ∀ b q, b ≠ it → b ≠ D → h0.get? b = some q → h'.get? b = some q := fun b q b1 b2 z => (hs'.2 b b1).trans (hkp b q b1 b2 z)
    obtain ⟨_, _, hrow'⟩ := hps h' kp'
    obtain ⟨a', oa, n1, ha', hta', hcl, hda, hka'⟩ := hrow' i p hp
    rw [ha] at ha'; injection ha' with ha'; injection ha' with ha'; subst ha'
    have nD : ∀ (x : Addr) (ks : List κ), (tupleKind kk).is h ks x → x ≠ it := fun x ks ⟨q1, q2, q3, q4, q5, q6⟩ z => by
      obtain ⟨oi, y1, y2, y3⟩ := hit
      rw [z, y1] at q4
      injection q4 with q4
      rw [← q4, y2] at q5
      exact absurd q5 (by decide)
    have hD' : h'.DictOfH (tupleKind kk) D (putAll [] (ps.take i)) := by
      obtain ⟨o, es, ep, g1, g2, g3, g4, g5, g6⟩ := hD
      refine ⟨o, es, ep, (hs'.2 _ (Ne.symm hID)).trans g1, g2, g3, g4, fun x hx => ?_, g6⟩
      have q := g5 x hx
      have ne := nD _ _ q
      obtain ⟨q1, q2, q3, q4, q5, q6⟩ := q
      exact ⟨q1, q2, q3, (hs'.2 _ ne).trans q4, q5, q6⟩
    have T : Shared.TypeIs { s with heap := h', toks := tk } (.ref a) "tuple" := ⟨_, hta', hcl⟩
    show wpAny _ A.in1 (holding [.ref a] (tryCatch (Builtin.Dict.pairItems (.ref a)) _ >>= _) >>= _) _ _ _
    refine wpAny_bind (wpAny_holding (wpAny_bind (wpAny_tryCatch ?_)))
    unfold Builtin.Dict.pairItems
    refine wpAny_bind (wpAny_typeOf T ?_)
    rw [if_pos (by decide)]
    refine wpAny_bind (wpAny_seqItems hta' hda (wpAny_pure ?_))
    show wpAny _ A.in1 (holding [.ref p.2.1, p.2.2] (dictSet D (.ref p.2.1) p.2.2)) _ _ _
    refine wpAny_holding (wpAny_dictSet_heap hu hka' hD' (fun h2 d2 s2 => ?_) (by rw [sizeLine_eq]; omega))
    have ec : ((i : Int) + 1) = ((i + 1 : Nat) : Int) := by omega
    have es' : putAll [] (ps.take (i + 1)) = storedH (putAll [] (ps.take i)) p.1 p.2.1 p.2.2 := by rw [List.take_add_one, hp]; exact putAll_snoc _ _ _
    have sl := storedH_len (putAll [] (ps.take i)) p.1 p.2.1 p.2.2
    obtain ⟨oi, y1, y2, y3⟩ := hit'
    refine wpAny_pure ⟨plainId_quiet plain_upd_loop _, ?_⟩
    have := ih (i + 1) h2 (tk + (tupleKind kk).draws p.1) 0 (by omega) (by omega) (fun b q b1 b2 z => (s2.2 b b2).trans (kp' b q b1 b2 z)) ⟨oi, (s2.2 _ hID).trans y1, y2, y3⟩ (by rw [es']; exact d2) (by rw [es']; omega)
    rw [← ec] at this
    exact this
end
end L2
namespace L2
open PySem PySem.Spec PyProof.Rows
theorem rel_at9 {xs : List V} {us : List Value} (r : Vals xs us) : ∀ {i : Nat} {x : V}, xs[i]? = some x → ∃ u, us[i]? = some u ∧ RelV x u := by
  induction r with
  | nil => intro i x h; simp at h
  | cons r1 _ ih =>
    intro i x h
    cases i with
    | zero => simp at h; subst h; exact ⟨_, rfl, r1⟩
    | succ i => simp at h; obtain ⟨u, e, z⟩ := ih h; exact ⟨u, by simpa using e, z⟩
section
variable {X : Cx}
def putsK (acc kvs : List (List Key × V)) : List (List Key × V) := kvs.foldl (fun acc p => putK acc p.1 p.2) acc
theorem KT.puts {H : Hp} : ∀ {kvs acc : List (List Key × V)} {ps xs : List (List Key × Addr × Value)}, KT H acc xs → KT H kvs ps → KT H (putsK acc kvs) (putAll xs ps)
  | _, _, _, _, r, .nil => r
  | _, _, _, _, r, .cons (a := p) (b := q) ⟨h1, h2, h3⟩ t => by
    have := KT.puts (r.put p.1 h2 h3) t
    rw [h1] at this
    show KT H (putsK (putK _ p.1 p.2) _) (putAll (storedH _ q.1 q.2.1 q.2.2) _)
    rw [h1]; exact this
theorem call_dict_pairs (hc : X.calm = true) (hu : X.A.units + 64 < cLine) : CallR X (.type "dict") (fun xs H Q => ∃ (l : Addr) (rs : List Addr) (kvs : List (List Key × V)), xs = [.ref l] ∧ H l = some (.lst (rs.map V.ref)) ∧ rs.length = kvs.length ∧ kvs.length ≤ 1000 ∧
    (∀ (i : Nat) k x, kvs[i]? = some (k, x) → ∃ a b, rs[i]? = some a ∧ H a = some (.tup [.ref b, x]) ∧ H b = some (.tup (k.map kV))) ∧ ∀ p, H p = none → Q (.ref p) (upd H p (.dT (putsK [] kvs)))) := by
  intro pins s σ H xs us Q I r h
  obtain ⟨l, rs, kvs, rfl, hl, lr, hz, hrow, q⟩ := h
  obtain ⟨u, rfl, rx⟩ := vals1 r
  cases rx
  obtain ⟨its, n, rv, hlo, _⟩ := I.lst hl
  have hh := I.ok.hd hc
  have li : its.length = kvs.length := by rw [← rv.length, List.length_map, lr]
  have mk : ∀ (n : Nat), n ≤ kvs.length → ∃ ps : List (List Key × Addr × Value), KT H (kvs.take n) ps ∧ ps.length = n ∧ ∀ (i : Nat) p, ps[i]? = some p → ∃ a oa n, its[i]? = some (.ref a) ∧ s.heap.get? a = some oa ∧ oa.cls = .type "tuple" ∧ oa.data = .seq #[.ref p.2.1, p.2.2] n ∧ (tupleKind (mixKind X.prog X.w)).is s.heap p.1 p.2.1 := by
    intro n
    induction n with
    | zero => intro _; exact ⟨[], .nil, rfl, fun i p z => by simp at z⟩
    | succ n ih =>
      intro hn
      obtain ⟨ps, k1, k2, k3⟩ := ih (by omega)
      obtain ⟨⟨k, x⟩, hk⟩ : ∃ p, kvs[n]? = some p := ⟨kvs[n], List.getElem?_eq_getElem (by omega)⟩
      obtain ⟨a, b, ha, hta, hkb⟩ := hrow n k x hk
      obtain ⟨ua, hua, ra⟩ := rel_at9 rv (show (rs.map V.ref)[n]? = some (.ref a) by rw [List.getElem?_map, ha]; rfl)
      cases ra
      obtain ⟨_, it2, r2, o2, g1, g2, m2, g3⟩ := (show ObjOk X.prog X.w H s.heap a (.tup [.ref b, x]) from I.hok a _ hta)
      obtain ⟨u1, w', rfl, e1, e2⟩ := vals2 r2
      cases e1
      refine ⟨ps ++ [(k, b, w')], ?_, by rw [List.length_append, k2]; rfl, fun i p hp => ?_⟩
      · rw [List.take_add_one, hk]
        exact Paired.snoc k1 ⟨rfl, hkb, e2⟩
      · rcases Nat.lt_or_ge i ps.length with z | z
        · rw [List.getElem?_append_left z] at hp; exact k3 i p hp
        · rw [List.getElem?_append_right z] at hp
          have j0 : i - ps.length = 0 := by
            rcases Nat.eq_zero_or_pos (i - ps.length) with y | y
            · exact y
            · rw [List.getElem?_eq_none (by simp; omega)] at hp; cases hp
          rw [j0] at hp
          simp at hp; subst hp
          have : i = n := by omega
          subst this
          exact ⟨a, o2, m2, hua, g1, g2, g3, key_of I.hok hkb⟩
  obtain ⟨ps, k1, k2, k3⟩ := mk kvs.length (Nat.le_refl _)
  rw [List.take_length] at k1
  refine callType_codes (Q₁ := fun ob s1 => ob = .ref s.heap.objs.size ∧ s1 = { s with heap := s.heap.push { cls := .type "dict", data := .dict #[] } }) F.kt_called_dict (F.kt_typeCall_dict_1 _) F.entry_dict_init (kt_code_dict_new _ ⟨rfl, rfl⟩) ?_
  rintro ob s1 ⟨rfl, rfl⟩
  have hnew : (s.heap.push { cls := .type "dict", data := .dict #[] }).DictOfH (tupleKind (mixKind X.prog X.w)) s.heap.objs.size [] := ⟨_, _, _, Heap.get?_push_size _ rfl, ⟨rfl, rfl, rfl⟩, rfl, rfl, fun x hx => (by cases hx), List.nodup_nil⟩
  have hl1 : (s.heap.push { cls := .type "dict", data := .dict #[] }).get? l = some { cls := .type "list", data := .seq its.toArray n } := Heap.get?_push_of_some _ hlo
  refine ⟨hnew.typeIs, F.args_dict_init_2 _ _, ?_⟩
  unfold Builtin.«dict.__init__»
  refine wpAny_bind ?_
  unfold Builtin.Dict.selfAndRest
  refine wpAny_bind (wpAny_notOrdered_dict hnew.typeIs ?_)
  show wpAny _ _ (pure (s.heap.objs.size, [Value.ref l])) _ _ _
  refine wpAny_pure ?_
  show wpAny _ _ (Builtin.Dict.updateFrom "dict.__init__" s.heap.objs.size (.ref l) [] .none) _ _ _
  unfold Builtin.Dict.updateFrom
  refine wpAny_bind (wpAny_typeOf (T := "list") ⟨_, hl1, rfl⟩ ?_)
  rw [if_pos (by decide)]
  refine wpAny_bind (keys_list_none (A := X.A.in1.in1) hl1 hh fun h2 t2 kp2 => ?_)
  simp only [Option.isNone_none, if_true]
  have all2 : ∀ b o, s.heap.get? b = some o → h2.get? b = some o := fun b o z => kp2 b o (Heap.get?_push_of_some _ z)
  have hl2 := kp2 _ _ hl1
  have hls2 : h2.IsList l its.toArray := ⟨_, hl2, rfl, n, rfl⟩
  refine wpAny_bind (wpAny_rule (wpAny_bind (wpAny_pyIter_list hls2 (wpAny_pure ⟨plainId_quiet plain_upd_loop _, ?_⟩))))
  have hD2 : h2.get? s.heap.objs.size = some { cls := .type "dict", data := .dict #[] } := kp2 _ _ (Heap.get?_push_size _ rfl)
  have ne : h2.objs.size ≠ s.heap.objs.size := Nat.ne_of_gt (Heap.lt_size hD2)
  have lD : ∀ b o, s.heap.get? b = some o → b ≠ s.heap.objs.size ∧ b ≠ h2.objs.size := fun b o z => ⟨Nat.ne_of_lt (Heap.lt_size z), Nat.ne_of_lt (Heap.lt_size (all2 b o z))⟩
  refine pairs_loop (A := X.A.in1) (s := s) (h0 := h2) (kk := mixKind X.prog X.w) (l := l) (its := its) (ps := ps) hh (tupleKind_room_in1 (by show X.A.units + 1 + 1 < cLine; omega)) ne (by omega) (fun h kp => ?_) (fun h' tk' kp hD' => ?_) ps.length 0 (h2.push { cls := .type "list_iterator", data := .fields #[.ref l, .int 0 0] }) _ 0 (Nat.sub_zero _) (Nat.zero_le _) (fun b q _ _ z => Heap.get?_push_of_some _ z) ⟨{ cls := .type "list_iterator", data := .fields #[.ref l, .int 0 0] }, Heap.get?_push_size _ rfl, rfl, rfl⟩ ?_ (Nat.zero_le _)
  · have up : ∀ b o, s.heap.get? b = some o → h.get? b = some o := fun b o z => kp b o (lD b o z).2 (lD b o z).1 (all2 b o z)
    refine ⟨⟨_, up _ _ hlo, rfl, n, rfl⟩, by rw [li, k2], fun i p hp => ?_⟩
    obtain ⟨a, oa, m, q1, q2, q3, q4, q5⟩ := k3 i p hp
    obtain ⟨y1, y2, y3, y4, y5⟩ := q5
    exact ⟨a, oa, m, q1, up _ _ q2, q3, q4, y1, y2, y3, up _ _ y4, y5⟩
  · have up : ∀ b o, s.heap.get? b = some o → h'.get? b = some o := fun b o z => kp b o (lD b o z).2 (lD b o z).1 (all2 b o z)
    obtain ⟨ob, es, ep, g1, g2, g3, g4, _, g6⟩ := hD'
    have nf := I.hok.fresh (Nat.le_refl s.heap.objs.size)
    have kt := KT.puts (acc := []) (xs := []) .nil k1
    have zl : (putsK [] kvs).length ≤ sizeLine := by
      rw [Paired.length kt]
      have : ∀ (qs acc : List (List Key × Addr × Value)), (putAll acc qs).length ≤ acc.length + qs.length := by
        intro qs
        induction qs with
        | nil => intro acc; exact Nat.le_refl _
        | cons y ys ih =>
          intro acc
          have a1 := ih (storedH acc y.1 y.2.1 y.2.2)
          have a2 := storedH_len acc y.1 y.2.1 y.2.2
          show (putAll (storedH acc y.1 y.2.1 y.2.2) ys).length ≤ _
          rw [List.length_cons]; omega
      have := this ps []
      rw [sizeLine_eq]; simp at this; omega
    refine ⟨rfl, .ref s.heap.objs.size, _, I.laid (t' := tk') up (Nat.le_refl _) (show ObjOk X.prog X.w _ h' _ (.dT (putsK [] kvs)) from ⟨zl, beq_eq_false_iff_ne.mpr (Nat.ne_of_gt I.big), _, kt.keeps fun c yy ec => ?_, ob, es, ep, g1, g2, g3, g4, g6⟩), rfl, q _ nf⟩
    rw [upd_ne (fun e => by rw [e, nf] at ec; cases ec)]; exact ec
  · exact ⟨_, _, _, Heap.get?_push_of_some _ hD2, ⟨rfl, rfl, rfl⟩, rfl, rfl, fun x hx => (by cases hx), List.nodup_nil⟩
end
end L2
namespace L2
open PySem PySem.Spec PyProof.Rows
section
variable {prog : Program} {w : World} {A : Around} {E : Value → Shared → Prop} {s : Shared} {it d : Addr} {i n ep : Nat} {es : Array DictEntry} {o : Obj}
theorem val_next {e : DictEntry} {Q : Option Value → Shared → Prop} (hit : s.heap.IsValIter it d i n ep) (hod : s.heap.get? d = some o) (hdd : o.data = .dict es ep) (hn : es.size = n) (hx : es[i]? = some e)
    (hQ : ∀ h', h'.IsValIter it d (i + 1) n ep → Heap.SameBut it s.heap h' → Q (some e.val) { s with heap := h' }) : wpAny (model prog w) A (pyNext (.ref it)) Q E s := by
  obtain ⟨oi, hoi, hci, hdi⟩ := id hit
  have T := hit.typeIs
  have own : Builtin.Dict_items.ownsTuple "dict_valueiterator" = false := by decide
  have nn : ¬ ((Value.ref d == Value.none) = true) := fun z => Bool.false_ne_true z
  unfold pyNext; refine wpAny_bind (wpAny_attempt (wpAny_callSpecial?_slot (name := Str.ofString "__next__") T F.slot_dict_valueiterator_next (wpAny_call_entry F.slot_dict_valueiterator_next T F.entry_dict_valueiterator_next ?_ (F.args_dict_valueiterator_next_1 _))))
  refine wpAny_bind (wpAny_pure (wpAny_bind (wpAny_bind ?_))); refine wpAny_bind (wpAny_typeNameOfWhole_valiter T (wpAny_pure (wpAny_bind (wpAny_fieldsOf hoi hdi ?_))))
  simp only [own, Bool.false_eq_true, if_false]; show wpAny _ _ (if (Value.ref d == Value.none) = true then _ else _) _ _ s; rw [if_neg nn]
  refine wpAny_bind (wpAny_pure (wpAny_bind (wpAny_dictEntries hod hdd ?_))); rw [if_neg (by rw [hn]; simp)]
  refine wpAny_bind (wpAny_pure (wpAny_bind (wpAny_dictEpoch hod hdd ?_))); rw [if_neg (by simp)]
  have lt : ¬ ((i : Int) < 0) := by omega
  refine wpAny_pure ?_; simp only [lt, if_false, Int.toNat_natCast, hx]
  refine wpAny_bind (wpAny_bind (wpAny_typeNameOfWhole_valiter T (wpAny_pure (wpAny_bind (wpAny_isOneOf_valiter T ?_)))))
  show wpAny _ _ (setField (.ref it) 1 (rawInt ((i : Int) + 1)) >>= _) _ _ s; refine wpAny_bind (wpAny_setField hoi hdi (by simp) ?_)
  have hit' : (s.heap.update it (Obj.mapFields (·.setIfInBounds 1 (rawInt ((i : Int) + 1))))).IsValIter it d (i + 1) n ep := ⟨_, Heap.get?_update_self _ hoi (Obj.isFreed_of_fields (Obj.data_mapFields hdi _)), (Obj.cls_mapFields ..).trans hci, by rw [Obj.data_mapFields hdi]; simp [rawInt]⟩
  have T' : Shared.TypeIs { s with heap := s.heap.update it (Obj.mapFields (·.setIfInBounds 1 (rawInt ((i : Int) + 1)))) } (.ref it) "dict_valueiterator" := hit'.typeIs
  refine wpAny_bind (wpAny_holding (wpAny_bind (wpAny_isOneOf_valiter T' (wpAny_bind (wpAny_isOneOf_valiter T' ?_))))); show wpAny _ _ (pure e.val) _ _ _
  exact wpAny_pure (wpAny_pure ⟨_, rfl, wpAny_pure (hQ _ hit' (Heap.SameBut.update ..))⟩)
theorem val_end {Q : Option Value → Shared → Prop} (hh : A.handled = none) (hit : s.heap.IsValIter it d i n ep) (hod : s.heap.get? d = some o) (hdd : o.data = .dict es ep) (hn : es.size = n) (hx : n ≤ i)
    (hQ : ∀ h', Heap.ExtBut it s.heap h' → Q none { s with heap := h' }) : wpAny (model prog w) A (pyNext (.ref it)) Q E s := by
  obtain ⟨oi, hoi, hci, hdi⟩ := id hit
  have T := hit.typeIs
  have own : Builtin.Dict_items.ownsTuple "dict_valueiterator" = false := by decide
  have nn : ¬ ((Value.ref d == Value.none) = true) := fun z => Bool.false_ne_true z
  unfold pyNext; refine wpAny_bind (wpAny_attempt (wpAny_callSpecial?_slot (name := Str.ofString "__next__") T F.slot_dict_valueiterator_next (wpAny_call_entry F.slot_dict_valueiterator_next T F.entry_dict_valueiterator_next ?_ (F.args_dict_valueiterator_next_1 _))))
  refine wpAny_bind (wpAny_pure (wpAny_bind (wpAny_bind ?_))); refine wpAny_bind (wpAny_typeNameOfWhole_valiter T (wpAny_pure (wpAny_bind (wpAny_fieldsOf hoi hdi ?_))))
  simp only [own, Bool.false_eq_true, if_false]; show wpAny _ _ (if (Value.ref d == Value.none) = true then _ else _) _ _ s; rw [if_neg nn]
  refine wpAny_bind (wpAny_pure (wpAny_bind (wpAny_dictEntries hod hdd ?_))); rw [if_neg (by rw [hn]; simp)]
  refine wpAny_bind (wpAny_pure (wpAny_bind (wpAny_dictEpoch hod hdd ?_))); rw [if_neg (by simp)]
  have lt : ¬ ((i : Int) < 0) := by omega
  have hx' : es[i]? = none := Array.getElem?_eq_none (by omega)
  refine wpAny_pure ?_; simp only [lt, if_false, Int.toNat_natCast, hx']
  refine wpAny_bind (wpAny_bind (wpAny_typeNameOfWhole_valiter T (wpAny_pure ?_)))
  show wpAny _ _ (setField (.ref it) 0 .none >>= _) _ _ s; refine wpAny_bind (wpAny_setField hoi hdi (by simp) ?_)
  refine stop_end (A := A) (A' := A.in1) (E' := E) hh fun h' k => ?_
  exact hQ h' fun b o hb e => k b o ((Heap.SameBut.update ..).extBut b o hb e)
theorem dict_vals {Q : Value → Shared → Prop} (hs : (d == sysModules) = false) (T : s.TypeIs (.ref d) "dict") (hQ : Q (.ref s.heap.objs.size) { s with heap := s.heap.push { cls := .type "dict_values", data := .fields #[.ref d] } }) :
    wpAny (model prog w) A (call (.builtin "dict.values") [.ref d]) Q E s := by
  refine wpAny_call_entry F.slot_dict_values T F.entry_dict_values ?_ (F.args_dict_values_1 _)
  have no : ¬ ((d == sysModules) = true) := by rw [hs]; exact Bool.false_ne_true
  unfold Builtin.«dict.values»; refine wpAny_bind ?_; unfold Builtin.Dict.noArgs; refine wpAny_bind (wpAny_notOrdered_dict T (wpAny_pure ?_))
  show wpAny _ _ (Builtin.Dict.showsAll d >>= _) _ _ s; unfold Builtin.Dict.showsAll; rw [if_neg no]
  exact wpAny_bind (wpAny_pure (wpAny_bind (wpAny_newObj_type (wpAny_pure ⟨_, rfl, hQ⟩))))
theorem vals_iter {v : Addr} {Q : Value → Shared → Prop} (hv : s.heap.IsValuesView v d) (ho : s.heap.get? d = some o) (hdd : o.data = .dict es ep)
    (hQ : Q (.ref s.heap.objs.size) { s with heap := s.heap.push { cls := .type "dict_valueiterator", data := .fields #[.ref d, .int 0 0, .int es.size 0, .int ep 0] } }) : wpAny (model prog w) A (pyIter (.ref v)) Q E s := by
  obtain ⟨q, hq, hc, hdv⟩ := id hv
  have own : Builtin.Dict_items.ownsTuple "dict_valueiterator" = false := by decide
  refine wpAny_pyIter_slot hv.typeIs F.slot_dict_values_iter (wpAny_call_entry F.slot_dict_values_iter hv.typeIs F.entry_dict_values_iter ?_ (F.args_dict_values_iter_1 _))
  unfold Builtin.«dict_values.__iter__»; refine wpAny_bind (wpAny_pure (wpAny_bind ?_)); unfold Builtin.Dict_items.dictOf; refine wpAny_bind (wpAny_field hq hdv (x := .ref d) rfl (wpAny_pure (wpAny_bind ?_)))
  unfold Builtin.Dict_items.newIterator; refine wpAny_bind (wpAny_dictEntries ho hdd (wpAny_bind (wpAny_dictEpoch ho hdd ?_))); simp only [own, Bool.false_eq_true, if_false]
  refine wpAny_newObj_type (wpAny_pure ⟨_, rfl, "dict_valueiterator", _, ⟨_, Heap.get?_push_size _ rfl, rfl⟩, F.slot_dict_valueiterator_next.lookup, ?_⟩)
  simpa [rawInt] using hQ
end
def ItV (d : Addr) (o : Obj) (kvs : List (List Key × V)) : It :=
  ⟨fun i H => FzD H d o kvs ∧ i < kvs.length, fun i H x H' => H' = H ∧ ∃ k v, kvs[i]? = some (k, v) ∧ x = v, fun i H => FzD H d o kvs ∧ kvs.length ≤ i⟩
theorem turn_dval {P : Program} {w : World} {K : PySem.W.Frag} {tg : Expr} {d it : Addr} {o : Obj} {kvs : List (List Key × V)} {es : Array DictEntry} {ep : Nat} (hdd : o.data = .dict es ep) :
    Turn P w K tg (ItV d o kvs) [it] it (fun i h => h.IsValIter it d i kvs.length ep) where
  mem := by simp
  obj := fun i h st b hb => by
    have e : b = it := by simpa using hb
    subst e
    obtain ⟨q, e, c, z⟩ := st
    exact ⟨q, e, fun v y => by rw [z] at y; cases y⟩
  keep := fun i h h' st k => by
    obtain ⟨q, e, c, z⟩ := st
    exact ⟨q, k it (by simp) q e, c, z⟩
  item := by
    intro X hP hw hK hc i pins s σ H E I hf st hg
    subst hP hw hK
    obtain ⟨fz, lt⟩ := hg
    obtain ⟨hd, hz, he⟩ := I.entries fz hdd
    obtain ⟨⟨k, v⟩, hx⟩ : ∃ p, kvs[i]? = some p := ⟨kvs[i], by simp [lt]⟩
    obtain ⟨b, e, ee, ek, eb, rv⟩ := he i k v hx
    obtain ⟨f0, f1, f2, f3, f4, f5⟩ := hf it (by simp)
    refine val_next st hd hdd hz ee fun h' st' sb => ?_
    have I1 : Inv X pins σ H { s with heap := h' } := I.turned (t' := s.toks) (fun c q hb z => (sb.2 c hb).trans z) f0 f1 f3 f4 f5
    obtain ⟨q, e', c, z⟩ := id st'
    exact ⟨e.val, rfl, go_of (s := { s with heap := h' }) e' c z (by decide) ⟨v, H, I1, rv, ⟨rfl, k, v, hx, rfl⟩, st', fun c hc' => (hf c hc').1⟩⟩
  done := by
    intro X hP hw hK hc i pins s σ H E I hf st hg
    subst hP hw hK
    obtain ⟨fz, ge⟩ := hg
    obtain ⟨hd, hz, he⟩ := I.entries fz hdd
    obtain ⟨f0, f1, f2, f3, f4, f5⟩ := hf it (by simp)
    exact val_end (I.ok.hd hc) st hd hdd hz ge fun h' eb => ⟨rfl, I.turned (t' := s.toks) (fun b q hb e => eb b q hb e) f0 f1 f3 f4 f5⟩
  self := fun _ _ _ _ _ st h => wpAny_pyIter_valiter st h
def iDictV (td : TE) : TI := fun σ H R => td σ H fun x H1 => ∃ d kvs, x = .ref d ∧ Rd H1 d (.dT kvs) ∧ ∀ o, R (ItV d o kvs) (upd H1 d (.frz o (.dT kvs)))
theorem pi_values {X : Cx} {tg : Expr} {apos cpos : Pos} {o : Expr} {to : TE} (ho : PE X o to) (hbase : attributeBase o "values" X.env (eval o X.env) = eval o X.env := by rfl) (hline : (apos.endLine == cpos.line) = true := by rfl) :
    PI X tg (.Call (.Attribute o "values" apos) [] [] cpos) (iDictV to) := by
  intro pins s σ H R I h
  refine wpAny_Call_method0_late hbase hline (thn (ho pins s σ H _ I h) fun v s1 ⟨x, H1, I1, r1, d, kvs, ex, e, q⟩ => ?_)
  subst ex
  cases r1
  obtain ⟨ob, es, ep, hob, T, nd, hs, hdd, hz, I2⟩ := I1.still e
  refine ⟨"dict", "dict.values", PySem.F.plainAttrs_dict, PySem.F.slot_dict_values, PySem.F.type_dict_values, T, nd, Calls.callWith_builtin rfl (PySem.evalArgs_none (dict_vals hs T ?_))⟩
  have I3 := I2.kept (t' := s1.toks) (h' := s1.heap.push { cls := .type "dict_values", data := .fields #[.ref d] }) fun b q z => Heap.get?_push_of_some _ z
  refine vals_iter ⟨_, Heap.get?_push_size _ rfl, rfl, rfl⟩ (Heap.get?_push_of_some _ hob) hdd ?_
  refine ⟨_, [_], _, _, _, rfl, I3.kept (t' := s1.toks) fun b q z => Heap.get?_push_of_some _ z, turn_dval hdd, ⟨_, Heap.get?_push_size _ rfl, rfl, by rw [hz]; rfl⟩, fun b hb => ?_, q ob⟩
  have eb := List.mem_singleton.mp hb
  subst eb
  exact I3.fpOk (Nat.le_refl _) (I3.hok.fresh (Nat.le_refl _))
theorem walk_dval {H1 : Hp} {d : Addr} {o : Obj} {kvs : List (List Key × V)} (h : FzD H1 d o kvs) : Walk (ItV d o kvs) H1 kvs.length (fun i x H => ∃ k, kvs[i]? = some (k, x)) :=
  ⟨fun i H' e hi => ⟨e _ _ h, hi⟩, fun H' e => ⟨e _ _ h, Nat.le_refl _⟩, fun i H' x H2 e hi y => by
    obtain ⟨rfl, k, v, q, rfl⟩ := y
    exact ⟨Same.refl _, k, q⟩⟩
end L2
namespace L2
open PySem PySem.Spec PyProof.Rows
section
variable {X : Cx} {pins : List (Addr × Obj)} {σ : St} {H : Hp} {s : Shared}
def SameD (K : PySem.W.Frag) (H : Hp) (a b : Addr) : Prop := ∃ (ka kb : List (List Key × V)) (da db : List (List Key × PyData)), Rd H a (.dT ka) ∧ Rd H b (.dT kb) ∧ KDs K H ka da ∧ KDs K H kb db ∧ Flats da ∧ Flats db ∧ eqKD da db = true
theorem eqb_same {a b : Addr} {A : Around} {E : Value → Shared → Prop} {Q : Bool → Shared → Prop} (hu : A.units + 64 < cLine) (I : Inv X pins σ H s) (h : SameD X.K H a b) (q : Q true s) : wpAny (model X.prog X.w) A (eqBool (.ref a) (.ref b)) Q E s := by
  obtain ⟨ka, kb, da, db, ha, hb, qa, qb, fa, fb, e⟩ := h
  obtain ⟨_, sa, xs, ta, ea⟩ := dt_rd I.hok ha
  obtain ⟨_, sb, ys, tb, eb⟩ := dt_rd I.hok hb
  have lx : xs.length = da.length := (Paired.length ta).symm.trans (Paired.length qa)
  have ly : ys.length = db.length := (Paired.length tb).symm.trans (Paired.length qb)
  unfold eqBool
  try with_reducible refine wpAny_holding ?_
  show wpAny _ _ (if (Value.ref a == Value.ref b) = true then _ else _) Q E s
  by_cases hab : (Value.ref a == Value.ref b) = true
  · rw [if_pos hab]
    exact wpAny_bind (wpAny_rule (wpAny_pure q))
  · rw [if_neg hab]
    refine wpAny_bind (dict_eqH (knd := tupleKind (mixKind X.prog X.w)) (tupleKind_room_in1 (by omega)) (by omega) sa sb ea eb (fun _ => hits_of (by show A.units + 1 + 61 < cLine; omega) I tb qb fb ta qa fa) ?_)
    refine wpAny_truthy_bool ?_
    rw [lx, ly]
    show Q (eqKD da db) s
    rw [e]; exact q
theorem op_neTD (hu : X.A.units + 70 < cLine) : OpR X (compareOp .NotEq) (fun x y H Q => ∃ t u a1 a2 b1 b2 : Addr, x = .ref t ∧ y = .ref u ∧ H t = some (.tup [.ref a1, .ref a2]) ∧ H u = some (.tup [.ref b1, .ref b2]) ∧ SameD X.K H a1 b1 ∧ SameD X.K H a2 b2 ∧ Q (.bl false) H) := by
  intro pins s σ H x y ux uy Q I rx ry h
  obtain ⟨t, u, a1, a2, b1, b2, rfl, rfl, ht, hu2, s1, s2, q⟩ := h
  cases rx
  cases ry
  obtain ⟨_, it1, r1, o1, g1, c1, m1, d1⟩ := (show ObjOk X.prog X.w H s.heap t (.tup [.ref a1, .ref a2]) from I.hok t _ ht)
  obtain ⟨_, it2, r2, o2, g2, c2, m2, d2⟩ := (show ObjOk X.prog X.w H s.heap u (.tup [.ref b1, .ref b2]) from I.hok u _ hu2)
  obtain ⟨v1, v2, rfl, e1, e2⟩ := vals2 r1
  obtain ⟨w1, w2, rfl, e3, e4⟩ := vals2 r2
  cases e1; cases e2; cases e3; cases e4
  have T1 : s.TypeIs (.ref t) "tuple" := ⟨o1, g1, c1⟩
  have T2 : s.TypeIs (.ref u) "tuple" := ⟨o2, g2, c2⟩
  refine wpAny_richCompare_same_room (op := .NotEq) T1 T2 PySem.F.slot_tuple_ne (wpAny_call_entry PySem.F.slot_tuple_ne T1 PySem.F.entry_tuple_ne ?_ (PySem.F.args_tuple_ne_2 _ _)) (by omega)
  show wpAny _ _ (isInstance (.ref u) (.type "tuple") >>= _) _ _ s
  refine wpAny_bind (wpAny_isInstance T2 isSubtype_tuple_tuple ?_)
  simp only [Bool.not_true, Bool.false_eq_true, if_false]
  refine wpAny_bind (wpAny_tupleItemsOf g1 d1 ?_)
  refine wpAny_bind (wpAny_tupleItemsOf g2 d2 ?_)
  refine wpAny_bind ?_
  have hu1 : X.A.in1.units + 64 < cLine := by show X.A.units + 1 + 64 < cLine; omega
  refine wpAny_forIn_list _ (fun rest r s' => r.1 = none ∧ s' = s ∧ ∀ p ∈ rest, p = (Value.ref a1, Value.ref b1) ∨ p = (Value.ref a2, Value.ref b2)) _ ?_ ?_ _ _ ⟨rfl, rfl, ?_⟩
  · rintro ⟨p1, p2⟩ rest r s' ⟨hr, rfl, hall⟩
    rcases hall (p1, p2) (by simp) with z | z
    · cases z
      refine wpAny_bind (eqb_same hu1 I s1 ?_)
      simp only [Bool.not_true, Bool.false_eq_true, if_false]
      exact wpAny_pure ⟨rfl, rfl, fun p hp => hall p (by simp [hp])⟩
    · cases z
      refine wpAny_bind (eqb_same hu1 I s2 ?_)
      simp only [Bool.not_true, Bool.false_eq_true, if_false]
      exact wpAny_pure ⟨rfl, rfl, fun p hp => hall p (by simp [hp])⟩
  · rintro ⟨r1', r2'⟩ s' ⟨hr, rfl, _⟩
    simp only at hr
    subst hr
    refine wpAny_pure ?_
    exact ⟨_, rfl, (fun z => nomatch z), .bl false, H, I, rfl, q⟩
  · intro p hp
    simpa using hp
end
end L2
namespace K1
def gI (a b : Int) : Int := ((Int.gcd a b : Nat) : Int)
theorem gI_nonneg (a b : Int) : 0 ≤ gI a b := Int.natCast_nonneg _
theorem gI_pos {a b : Int} (h : b ≠ 0) : 0 < gI a b := by
  have : 0 < Int.gcd a b := Int.gcd_pos_of_ne_zero_right a h
  unfold gI; omega
theorem gI_dvd_l (a b : Int) : gI a b ∣ a := Int.gcd_dvd_left a b
theorem gI_dvd_r (a b : Int) : gI a b ∣ b := Int.gcd_dvd_right a b
theorem gI_one (a : Int) : gI a 1 = 1 := by unfold gI; simp
theorem gI_zero (a : Int) (h : 0 ≤ a) : gI a 0 = a := by unfold gI; rw [Int.gcd_zero_right]; omega
/-- one turn of the loop -/
theorem gI_step {a b : Int} (ha : 0 ≤ a) (hb : 0 < b) : gI b (Int.fmod a b) = gI a b := by
  unfold gI
  congr 1
  rw [Int.fmod_eq_emod_of_nonneg a (Int.le_of_lt hb)]
  show Nat.gcd b.natAbs (a % b).natAbs = Nat.gcd a.natAbs b.natAbs
  have e : (a % b).natAbs = a.natAbs % b.natAbs := by
    have h1 : a = (a.natAbs : Int) := by omega
    have h2 : b = (b.natAbs : Int) := by omega
    conv => lhs; rw [h1, h2]
    rw [← Int.natCast_emod]
    exact Int.natAbs_natCast _
  rw [e, Nat.gcd_comm a.natAbs, Nat.gcd_rec b.natAbs a.natAbs, Nat.gcd_comm]
structure Gc (a0 b0 a b : Int) : Prop where
  is : gI a b = gI a0 b0
theorem start {a b : Int} (ha : 0 ≤ a) (hb : 0 ≤ b) : 0 ≤ a ∧ 0 ≤ b ∧ Gc a b a b := ⟨ha, hb, ⟨rfl⟩⟩
theorem turn {a0 b0 a b : Int} (h : Gc a0 b0 a b) (ha : 0 ≤ a) (hb : 0 < b) : 0 ≤ b ∧ 0 ≤ Int.fmod a b ∧ Gc a0 b0 b (Int.fmod a b) :=
  ⟨by omega, Int.fmod_nonneg_of_pos a hb, ⟨(gI_step ha hb).trans h.is⟩⟩
theorem less {a b : Int} (hb : 0 < b) : (Int.fmod a b).toNat < b.toNat := by
  have := Int.fmod_lt_of_pos a hb
  have := Int.fmod_nonneg_of_pos a hb
  omega
theorem out {a0 b0 a b : Int} (h : Gc a0 b0 a b) (ha : 0 ≤ a) (hb : b = 0) : a = gI a0 b0 := by
  rw [← h.is, hb, gI_zero a ha]
/-- abs -/
theorem gI_abs (a b : Int) : gI (if a < 0 then -a else a) (if b < 0 then -b else b) = gI a b := by
  unfold gI
  congr 1
  have h (x : Int) : (if x < 0 then -x else x).natAbs = x.natAbs := by split <;> omega
  show Nat.gcd _ _ = Nat.gcd _ _
  rw [h, h]
theorem coprime {d q1 q2 : Int} (hd : d ≠ 0) (h : gI (d * q1) (d * q2) = d ∨ gI (d * q1) (d * q2) = -d) : gI q1 q2 = 1 := by
  unfold gI at h ⊢
  rw [Int.gcd_mul_left] at h
  have h0 : (d.natAbs * Int.gcd q1 q2 : Nat) = d.natAbs := by
    rcases h with h | h <;> omega
  have : Int.gcd q1 q2 = 1 := by
    have hp : 0 < d.natAbs := by omega
    exact Nat.eq_of_mul_eq_mul_left hp (by omega)
  rw [this]; rfl
end K1

namespace K1
/-- by what top and bottom are divided, with the bottom's sign -/
def dv (t b : Int) : Int := if b < 0 then -(gI t b) else gI t b
def fT (t b : Int) : Int := t.fdiv (dv t b)
def fB (t b : Int) : Int := b.fdiv (dv t b)
theorem dv_abs (t b : Int) : (dv t b).natAbs = Int.gcd t b := by
  unfold dv gI; split <;> omega
theorem dv_ne {t b : Int} (h : b ≠ 0) : dv t b ≠ 0 := by
  have := gI_pos (a := t) h
  unfold dv; split <;> omega
theorem dvd_of_abs {d x : Int} {n : Nat} (h : d.natAbs = n) (hx : (n : Int) ∣ x) : d ∣ x := by
  rw [← Int.natAbs_dvd, h]; exact hx
theorem ex {t b : Int} (h : b ≠ 0) : ∃ q1 q2, t = dv t b * q1 ∧ b = dv t b * q2 ∧ fT t b = q1 ∧ fB t b = q2 := by
  obtain ⟨q1, e1⟩ := dvd_of_abs (dv_abs t b) (Int.gcd_dvd_left t b)
  obtain ⟨q2, e2⟩ := dvd_of_abs (dv_abs t b) (Int.gcd_dvd_right t b)
  refine ⟨q1, q2, e1, e2, ?_, ?_⟩
  · unfold fT
    have := Int.mul_fdiv_cancel_left (a := dv t b) q1 (dv_ne h)
    rw [← e1] at this; exact this
  · unfold fB
    have := Int.mul_fdiv_cancel_left (a := dv t b) q2 (dv_ne h)
    rw [← e2] at this; exact this
theorem fB_pos {t b : Int} (h : b ≠ 0) : 1 ≤ fB t b := by
  obtain ⟨q1, q2, _, e2, _, f2⟩ := ex (t := t) h
  rw [f2]
  have hp := gI_pos (a := t) h
  rcases (by omega : q2 ≤ 0 ∨ 1 ≤ q2) with q | q
  · exfalso
    by_cases hb : b < 0
    · have ed : dv t b = -(gI t b) := by unfold dv; rw [if_pos hb]
      rw [ed] at e2
      have := Int.mul_nonneg_of_nonpos_of_nonpos (show -(gI t b) ≤ 0 by omega) q
      omega
    · have ed : dv t b = gI t b := by unfold dv; rw [if_neg hb]
      rw [ed] at e2
      have := Int.mul_nonpos_of_nonneg_of_nonpos (show 0 ≤ gI t b by omega) q
      omega
  · exact q
theorem f_cross {t b : Int} (h : b ≠ 0) : fT t b * b = t * fB t b := by
  obtain ⟨q1, q2, e1, e2, f1, f2⟩ := ex (t := t) h
  rw [f1, f2]
  conv => lhs; rw [e2]
  conv => rhs; rw [e1]
  rw [Int.mul_assoc, Int.mul_left_comm]
theorem f_cop {t b : Int} (h : b ≠ 0) : gI (fT t b) (fB t b) = 1 := by
  obtain ⟨q1, q2, e1, e2, f1, f2⟩ := ex (t := t) h
  rw [f1, f2]
  refine coprime (d := dv t b) (dv_ne h) ?_
  rw [← e1, ← e2]
  unfold dv; split
  · right; omega
  · left; rfl
theorem f_one (t : Int) : fT t 1 = t ∧ fB t 1 = 1 := by
  have e : dv t 1 = 1 := by unfold dv; rw [if_neg (by decide), gI_one]
  unfold fT fB
  rw [e]
  exact ⟨Int.fdiv_one t, by decide⟩
end K1

namespace K1
theorem co_iff {a b : Int} : gI a b = 1 ↔ Nat.Coprime a.natAbs b.natAbs := by
  unfold gI Nat.Coprime
  show ((Nat.gcd a.natAbs b.natAbs : Nat) : Int) = 1 ↔ _
  omega
theorem co_sym {a b : Int} (h : gI a b = 1) : gI b a = 1 := co_iff.mpr (co_iff.mp h).symm
theorem co_mulr {a b c : Int} (h : gI a b = 1) (h' : gI a c = 1) : gI a (b * c) = 1 := by
  rw [co_iff] at *
  rw [Int.natAbs_mul]
  exact Nat.Coprime.mul_right h h'
theorem co_mull {a b c : Int} (h : gI a c = 1) (h' : gI b c = 1) : gI (a * b) c = 1 := co_sym (co_mulr (co_sym h) (co_sym h'))
theorem co_dl {a a' b : Int} (d : a' ∣ a) (h : gI a b = 1) : gI a' b = 1 := by
  rw [co_iff] at *
  exact Nat.Coprime.coprime_dvd_left (Int.natAbs_dvd_natAbs.mpr d) h
theorem co_dr {a b b' : Int} (d : b' ∣ b) (h : gI a b = 1) : gI a b' = 1 := co_sym (co_dl d (co_sym h))
/-- a number that divides both sides is one -/
theorem co_add {a b k : Int} (h : gI a b = 1) : gI (a + b * k) b = 1 := by
  unfold gI at *
  have : Int.gcd (a + b * k) b = Int.gcd a b := by simp
  rw [this]; exact h
theorem co_parts {a b : Int} (hb : b ≠ 0) : ∃ a' b', a = gI a b * a' ∧ b = gI a b * b' ∧ gI a' b' = 1 := by
  obtain ⟨a', ea⟩ := gI_dvd_l a b
  obtain ⟨b', eb⟩ := gI_dvd_r a b
  have hp := gI_pos (a := a) hb
  refine ⟨a', b', ea, eb, coprime (d := gI a b) (by omega) (.inl ?_)⟩
  rw [← ea, ← eb]
theorem dvd_of_co {a b c : Int} (h : gI a b = 1) (d : a ∣ b * c) : a ∣ c := by
  rw [co_iff] at h
  have := Int.natAbs_dvd_natAbs.mpr d
  rw [Int.natAbs_mul] at this
  exact Int.natAbs_dvd_natAbs.mp (Nat.Coprime.dvd_of_dvd_mul_left h this)
/-- lowest terms are one -/
theorem low_one {p q p' q' : Int} (hq : 1 ≤ q) (hq' : 1 ≤ q') (c : gI p q = 1) (c' : gI p' q' = 1) (e : p * q' = p' * q) : p = p' ∧ q = q' := by
  have d1 : q ∣ q' := dvd_of_co (co_sym c) ⟨p', by rw [e, Int.mul_comm]⟩
  have d2 : q' ∣ q := dvd_of_co (co_sym c') ⟨p, by rw [← e, Int.mul_comm]⟩
  have e1 : q = q' := Int.dvd_antisymm (by omega) (by omega) d1 d2
  subst e1
  exact ⟨Int.eq_of_mul_eq_mul_right (by omega) e, rfl⟩
theorem f_uniq {t b p q : Int} (hb : b ≠ 0) (hq : 1 ≤ q) (c : gI p q = 1) (e : p * b = t * q) : fT t b = p ∧ fB t b = q := by
  refine low_one (fB_pos hb) hq (f_cop hb) c ?_
  have h1 := f_cross (t := t) hb
  refine Int.eq_of_mul_eq_mul_right hb ?_
  calc fT t b * q * b = fT t b * b * q := by rw [Int.mul_right_comm]
    _ = t * fB t b * q := by rw [h1]
    _ = t * q * fB t b := by rw [Int.mul_right_comm]
    _ = p * b * fB t b := by rw [e]
    _ = p * fB t b * b := by rw [Int.mul_right_comm]
theorem fd {d q : Int} (h : d ≠ 0) : Int.fdiv (d * q) d = q := Int.mul_fdiv_cancel_left q h
def ab (a : Int) : Int := if a < 0 then -a else a
theorem gI_ab (a b : Int) : gI (ab a) b = gI a b := by
  unfold gI ab
  congr 1
  show Nat.gcd _ _ = Nat.gcd _ _
  congr 1
  split <;> omega
theorem posR {d q : Int} (hd : 0 < d) (h : 1 ≤ d * q) : 1 ≤ q := by
  rcases (by omega : q ≤ 0 ∨ 1 ≤ q) with g | g
  · have := Int.mul_nonpos_of_nonneg_of_nonpos (show 0 ≤ d by omega) g
    omega
  · exact g
/-- the product of two fractions in lowest terms -/
theorem times_low {x y z w : Int} (hy : 1 ≤ y) (hw : 1 ≤ w) (c : gI x y = 1) (c' : gI z w = 1) :
    (Int.fdiv x (gI x w) * Int.fdiv z (gI z y)) = fT (x * z) (y * w) ∧ Int.fdiv y (gI z y) * Int.fdiv w (gI x w) = fB (x * z) (y * w) := by
  obtain ⟨x1, w1, ex, ew, k1⟩ := co_parts (a := x) (b := w) (by omega)
  obtain ⟨z1, y1, ez, ey, k2⟩ := co_parts (a := z) (b := y) (by omega)
  have g1 := gI_pos (a := x) (b := w) (by omega)
  have g2 := gI_pos (a := z) (b := y) (by omega)
  generalize gI x w = g at *
  generalize gI z y = h at *
  subst ex ew ez ey
  rw [fd (by omega), fd (by omega), fd (by omega), fd (by omega)]
  have y1p := posR g2 hy
  have w1p := posR g1 hw
  have b0 : h * y1 * (g * w1) ≠ 0 := by
    intro q; rcases Int.mul_eq_zero.mp q with q | q <;> omega
  have kx : gI x1 y1 = 1 := co_dl (Int.dvd_mul_left g x1) (co_dr (Int.dvd_mul_left h y1) c)
  have kz : gI z1 w1 = 1 := co_dl (Int.dvd_mul_left h z1) (co_dr (Int.dvd_mul_left g w1) c')
  have := f_uniq (t := g * x1 * (h * z1)) (p := x1 * z1) (q := y1 * w1) b0 (Int.mul_pos y1p w1p)
    (co_mulr (co_mull kx k2) (co_mull k1 kz)) (by grind)
  exact ⟨this.1.symm, this.2.symm⟩
/-- the sum of two fractions in lowest terms -/
theorem plus_low {x y z w : Int} (hy : 1 ≤ y) (hw : 1 ≤ w) (c : gI x y = 1) (c' : gI z w = 1) :
    let g := gI y w; let T := x * Int.fdiv w g + z * Int.fdiv y g; let f := gI T g
    Int.fdiv T f = fT (x * w + z * y) (y * w) ∧ Int.fdiv y g * Int.fdiv w f = fB (x * w + z * y) (y * w) := by
  intro g T f
  obtain ⟨y1, w1, ey, ew, k1⟩ := co_parts (a := y) (b := w) (by omega)
  have g1 := gI_pos (a := y) (b := w) (by omega)
  have f1 : 0 < f := gI_pos (by omega)
  obtain ⟨T1, g2, eT, eg, k2⟩ := co_parts (a := T) (b := g) (by omega)
  have gd : g = gI y w := rfl
  have Td : T = x * Int.fdiv w g + z * Int.fdiv y g := rfl
  have fdd : f = gI T g := rfl
  rw [← fdd] at eT eg
  rw [← gd] at ey ew g1
  clear_value g T f
  subst ey ew
  rw [fd (by omega), fd (by omega)] at Td
  have y1p := posR g1 hy
  have w1p := posR g1 hw
  have cT1 : gI T y1 = 1 := by
    rw [Td, Int.mul_comm z y1]
    exact co_add (co_mull (co_dr (Int.dvd_mul_left g y1) c) (co_sym k1))
  have cT2 : gI T w1 = 1 := by
    rw [Td, Int.add_comm, Int.mul_comm x w1]
    exact co_add (co_mull (co_dr (Int.dvd_mul_left g w1) c') k1)
  have g2p : 1 ≤ g2 := posR f1 (by omega)
  have d1 : T1 ∣ T := ⟨f, by rw [eT, Int.mul_comm]⟩
  have e1 : Int.fdiv T f = T1 := by rw [eT, fd (by omega)]
  have e2 : Int.fdiv (g * w1) f = g2 * w1 := by rw [eg, Int.mul_assoc, fd (by omega)]
  have e3 : Int.fdiv (g * y1) g = y1 := fd (by omega)
  rw [e1, e2, e3]
  have b0 : g * y1 * (g * w1) ≠ 0 := by
    intro q; rcases Int.mul_eq_zero.mp q with q | q <;> omega
  have := f_uniq (t := x * (g * w1) + z * (g * y1)) (p := T1) (q := y1 * (g2 * w1)) b0 (Int.mul_pos y1p (Int.mul_pos g2p w1p))
    (co_mulr (co_dl d1 cT1) (co_mulr k2 (co_dl d1 cT2))) (by
      have : x * w1 + z * y1 = f * T1 := by rw [← Td]; exact eT
      have q : x * (g * w1) + z * (g * y1) = g * (f * T1) := by rw [← this]; grind
      rw [q]
      conv => lhs; rw [eg]
      conv => rhs; rw [eg]
      grind)
  exact ⟨this.1.symm, this.2.symm⟩
theorem fd_le {a d : Int} (h : d ∣ a) (hd : d ≠ 0) : (Int.fdiv a d).natAbs ≤ a.natAbs := by
  obtain ⟨q, rfl⟩ := h
  rw [fd hd, Int.natAbs_mul]
  exact Nat.le_mul_of_pos_left _ (by omega)
end K1

namespace K3
structure NoDiv (n d : Int) : Prop where
  is : ∀ e : Int, 2 ≤ e → e < d → Int.fmod n e ≠ 0
def Pr (n : Int) : Prop := 2 ≤ n ∧ ∀ e : Int, 2 ≤ e → e * e ≤ n → Int.fmod n e ≠ 0
noncomputable def isP (n : Int) : Bool := @decide (Pr n) (Classical.propDecidable _)
theorem isP_t {n : Int} (h : Pr n) : isP n = true := @decide_eq_true _ (Classical.propDecidable _) h
theorem isP_f {n : Int} (h : ¬ Pr n) : isP n = false := @decide_eq_false _ (Classical.propDecidable _) h
theorem small {d n : Int} (_h2 : 2 ≤ d) (h : d * d ≤ n) (hn : n ≤ 9973) : d ≤ 99 := by
  rcases (by omega : d ≤ 99 ∨ 100 ≤ d) with e | e
  · exact e
  · have := Int.mul_le_mul e e (by decide) (by omega)
    omega
theorem start (n : Int) : (2 : Int) ≤ 2 ∧ (2 : Int) ≤ 101 ∧ NoDiv n 2 := ⟨by decide, by decide, ⟨fun e h1 h2 => by omega⟩⟩
theorem turn {n d : Int} (h : NoDiv n d) (hm : ¬ Int.fmod n d = 0) (h2 : 2 ≤ d) (hq : d * d ≤ n) (hn : n ≤ 9973) : 2 ≤ d + 1 ∧ d + 1 ≤ 101 ∧ NoDiv n (d + 1) := by
  have s := small h2 hq hn
  refine ⟨by omega, by omega, ⟨fun e h1 h3 => ?_⟩⟩
  rcases (by omega : e < d ∨ e = d) with q | q
  · exact h.is e h1 q
  · rw [q]; exact hm
theorem less {n d : Int} (h2 : 2 ≤ d) (hq : d * d ≤ n) (hn : n ≤ 9973) : (200 - (d + 1)).toNat < (200 - d).toNat := by
  have s := small h2 hq hn
  omega
theorem low {n : Int} (h : n < 2) : false = isP n := by
  exact (isP_f fun h' => by have := h'.1; omega).symm
theorem out {n d : Int} (h : NoDiv n d) (hn : 2 ≤ n) (h2 : 2 ≤ d) (hq : ¬ d * d ≤ n) : true = isP n := by
  refine (isP_t ?_).symm
  refine ⟨hn, fun e h1 h3 => h.is e h1 ?_⟩
  rcases (by omega : e < d ∨ d ≤ e) with q | q
  · exact q
  · have := Int.mul_le_mul q q (by omega) (by omega)
    omega
theorem found {n d : Int} (h2 : 2 ≤ d) (hq : d * d ≤ n) (hm : Int.fmod n d = 0) : false = isP n := by
  exact (isP_f fun h' => h'.2 d h2 hq hm).symm
theorem outB {n d : Int} (h : NoDiv n d) (h2 : 2 ≤ d) (hq : ¬ d * d ≤ n) : decide (2 ≤ n) = isP n := by
  by_cases hn : 2 ≤ n
  · rw [← out h hn h2 hq]; exact decide_eq_true hn
  · rw [← low (by omega : n < 2)]; exact decide_eq_false hn
end K3

namespace K2
theorem p9973 : K3.isP 9973 = true := by
  apply K3.isP_t
  refine ⟨by decide, fun e h1 h2 h3 => ?_⟩
  have hs : e ≤ 99 := K3.small h1 h2 (by decide)
  have key : ∀ k : Nat, k < 100 → 2 ≤ k → ¬ Int.fmod 9973 (k : Int) = 0 := by decide
  have := key e.toNat (by omega) (by omega)
  have e1 : ((e.toNat : Nat) : Int) = e := by omega
  rw [e1] at this
  exact this h3
/-- the next prime -/
structure Up (n0 n : Int) : Prop where
  le : n ≤ 9973
theorem pr_of {n : Int} (h : K3.isP n = true) : K3.Pr n := by
  by_cases q : K3.Pr n
  · exact q
  · rw [K3.isP_f q] at h; cases h
theorem not9973 {n : Int} (h : K3.isP n = false) : n ≠ 9973 := by
  rintro rfl; rw [p9973] at h; cases h
/-- no divisor at all between 1 and p -/
theorem no_div {p l : Int} (hp : K3.Pr p) (h1 : 1 < l) (h2 : l < p) : Int.fmod p l ≠ 0 := by
  intro h0
  rw [Int.fmod_eq_emod_of_nonneg p (by omega)] at h0
  have hd : p = l * (p / l) := by have := Int.mul_ediv_add_emod p l; omega
  have hq1 : 1 < p / l := by
    rcases (by omega : p / l ≤ 1 ∨ 1 < p / l) with q | q
    · have := Int.mul_le_mul_of_nonneg_left q (by omega : 0 ≤ l)
      omega
    · exact q
  rcases (by omega : l * l ≤ p ∨ p < l * l) with q | q
  · refine hp.2 l (by omega) q ?_
    rw [Int.fmod_eq_emod_of_nonneg p (by omega)]; exact h0
  · have hlt : p / l < l := by
      rcases (by omega : p / l < l ∨ l ≤ p / l) with r | r
      · exact r
      · have := Int.mul_le_mul_of_nonneg_left r (by omega : 0 ≤ l)
        omega
    have hqq : (p / l) * (p / l) ≤ p := by
      have h := Int.mul_le_mul_of_nonneg_right (Int.le_of_lt hlt) (by omega : 0 ≤ p / l)
      omega
    refine hp.2 (p / l) (by omega) hqq ?_
    rw [Int.fmod_eq_emod_of_nonneg p (by omega)]
    apply Int.emod_eq_zero_of_dvd
    exact ⟨l, by rw [Int.mul_comm]; exact hd⟩
/-- the number turned over: the loop's word -/
structure Tn (p a found left : Int) : Prop where
  f0 : 0 ≤ found
  f1 : found < p
  l0 : 1 ≤ left
  l1 : left < p
  eq : (found * a - left) % p = 0
end K2

namespace K2
theorem md (t n : Int) : ∃ q, t % n = t + n * q := ⟨-(t / n), by have := Int.mul_ediv_add_emod t n; rw [Int.mul_neg]; omega⟩
theorem z_of {x n : Int} (k : Int) (h : x = n * k) : x % n = 0 := by rw [h]; exact Int.mul_emod_right n k
theorem of_z {x n : Int} (h : x % n = 0) : ∃ k, x = n * k := by obtain ⟨k, hk⟩ := Int.dvd_of_emod_eq_zero h; exact ⟨k, hk⟩
end K2

namespace K6
open L2 PySem
/-- a term as a key -/
def ky (xs : List Int) : List Key := xs.map Sum.inl
theorem ky_kV (xs : List Int) : (ky xs).map kV = xs.map V.int := by unfold ky; rw [List.map_map]; rfl
/-- a number of a field, as data -/
structure NmD (d : PyData) : Prop where
  lay : d.canLay0 = true
  dep : d.depth ≤ 60
theorem NmD.shaped {d : PyData} (h : NmD d) : SeqAt.shaped d = true := by
  have := h.dep
  unfold SeqAt.shaped
  rw [h.lay, Bool.true_and, decide_eq_true_eq]; omega
theorem NmD.refl {d : PyData} (h : NmD d) : PyData.eqv d d = true := SeqAt.eqv_refl _ h.lay
theorem nmd_int (i : Int) : NmD (.int i) := ⟨rfl, by simp [PyData.depth]⟩
theorem nmd_pair (i j : Int) : NmD (.tuple [.int i, .int j]) := ⟨rfl, by simp [PyData.depth, PyData.depthAll]⟩
mutual
theorem Rds.same {K : PySem.W.Frag} {H H' : Hp} (e : Same H H') : ∀ {v : V} {d : PyData}, Rds K H v d → Rds K H' v d
  | _, _, .non => .non
  | _, _, .bl b => .bl b
  | _, _, .int i => .int i
  | _, _, .str x => .str x
  | _, _, .tup h hs => .tup (e.seqT h) (RdsAll.same e hs)
  | _, _, .lst h hs => .lst (e.seq h) (RdsAll.same e hs)
theorem RdsAll.same {K : PySem.W.Frag} {H H' : Hp} (e : Same H H') : ∀ {vs : List V} {ds : List PyData}, RdsAll K H vs ds → RdsAll K H' vs ds
  | _, _, .nil => .nil
  | _, _, .cons h hs => .cons (Rds.same e h) (RdsAll.same e hs)
end
theorem sqT_updD {K : PySem.W.Frag} {H : Hp} {d a : Addr} {kvs : List (List Key × V)} {o : HO} {xs : List V} (e : H d = some (.dT kvs)) (h : SqT K H a xs) : SqT K (upd H d o) a xs := by
  rcases h with (h | ⟨q, h⟩) | h
  · exact .inl (.inl (by rw [upd_ne (ne_of h e (by intro z; cases z))]; exact h))
  · exact .inl (.inr ⟨q, by rw [upd_ne (ne_of h e (by intro z; cases z))]; exact h⟩)
  · exact .inr h
theorem sqL_updD {K : PySem.W.Frag} {H : Hp} {d a : Addr} {kvs : List (List Key × V)} {o : HO} {xs : List V} (e : H d = some (.dT kvs)) (h : SqL K H a xs) : SqL K (upd H d o) a xs := by
  rcases h with (h | ⟨q, h⟩) | h
  · exact .inl (.inl (by rw [upd_ne (ne_of h e (by intro z; cases z))]; exact h))
  · exact .inl (.inr ⟨q, by rw [upd_ne (ne_of h e (by intro z; cases z))]; exact h⟩)
  · exact .inr h
mutual
theorem Rds.updD {K : PySem.W.Frag} {H : Hp} {d : Addr} {kvs : List (List Key × V)} {o : HO} (e : H d = some (.dT kvs)) : ∀ {v : V} {z : PyData}, Rds K H v z → Rds K (upd H d o) v z
  | _, _, .non => .non
  | _, _, .bl b => .bl b
  | _, _, .int i => .int i
  | _, _, .str x => .str x
  | _, _, .tup h hs => .tup (sqT_updD e h) (RdsAll.updD e hs)
  | _, _, .lst h hs => .lst (sqL_updD e h) (RdsAll.updD e hs)
theorem RdsAll.updD {K : PySem.W.Frag} {H : Hp} {d : Addr} {kvs : List (List Key × V)} {o : HO} (e : H d = some (.dT kvs)) : ∀ {vs : List V} {ds : List PyData}, RdsAll K H vs ds → RdsAll K (upd H d o) vs ds
  | _, _, .nil => .nil
  | _, _, .cons h hs => .cons (Rds.updD e h) (RdsAll.updD e hs)
end
theorem rds_pair {K : PySem.W.Frag} {H : Hp} {r : Addr} {i j : Int} (h : H r = some (.tup [.int i, .int j])) : Rds K H (.ref r) (.tuple [.int i, .int j]) := .tup (SqT.of h) (.cons (.int i) (.cons (.int j) .nil))
end K6

namespace K8
open L2 PySem K1 K2 K3 K6
/-- nought in the field: n = 0 the fractions, else the rests by n -/
def zr (n T : Int) : Prop := if n = 0 then T = 0 else T % n = 0
instance zrDec (n T : Int) : Decidable (zr n T) := by unfold zr; exact inferInstance
theorem zr_0 {T : Int} : zr 0 T ↔ T = 0 := by simp [zr]
theorem zr_n {n T : Int} (h : n ≠ 0) : zr n T ↔ T % n = 0 := by simp [zr, h]
theorem pr_ne {n : Int} (h : Pr n) : n ≠ 0 := by have := h.1; omega
theorem pr_co {n b : Int} (hp : Pr n) (hb : b % n ≠ 0) : gI n b = 1 := by
  have h2 := hp.1
  have hn : n ≠ 0 := by omega
  have d1 := gI_dvd_l n b
  have d2 := gI_dvd_r n b
  have p : 0 < gI n b := by
    have := gI_nonneg n b
    rcases (by omega : gI n b = 0 ∨ 0 < gI n b) with z | z
    · rw [z] at d1; exact absurd (Int.zero_dvd.mp d1) hn
    · exact z
  have le : gI n b ≤ n := Int.le_of_dvd (by omega) d1
  rcases (by omega : gI n b = 1 ∨ gI n b = n ∨ (1 < gI n b ∧ gI n b < n)) with q | q | ⟨q1, q2⟩
  · exact q
  · rw [q] at d2; exact absurd (Int.emod_eq_zero_of_dvd d2) hb
  · exact absurd (Int.fmod_eq_zero_of_dvd d1) (no_div hp q1 q2)
theorem pr_cancel {n a b : Int} (hp : Pr n) (hb : b % n ≠ 0) (h : (a * b) % n = 0) : a % n = 0 := by
  rw [Int.mul_comm] at h
  exact Int.emod_eq_zero_of_dvd (dvd_of_co (pr_co hp hb) (Int.dvd_of_emod_eq_zero h))
theorem nz_mul {n a b : Int} (hn : n = 0 ∨ Pr n) (ha : ¬ zr n a) (hb : ¬ zr n b) : ¬ zr n (a * b) := by
  rcases hn with rfl | hp
  · rw [zr_0] at *; intro z; rcases Int.mul_eq_zero.mp z with q | q
    · exact ha q
    · exact hb q
  · rw [zr_n (pr_ne hp)] at *; exact fun z => ha (pr_cancel hp hb z)
theorem nz_one {n : Int} (hn : n = 0 ∨ Pr n) : ¬ zr n 1 := by
  rcases hn with rfl | hp
  · rw [zr_0]; decide
  · rw [zr_n (pr_ne hp), Int.emod_eq_of_lt (by decide) (by have := hp.1; omega)]; decide
def z0N (n : Int) : PyData := if n = 0 then .tuple [.int 0, .int 1] else .int 0
def z1N (n : Int) : PyData := if n = 0 then .tuple [.int 1, .int 1] else .int 1
theorem z0N_0 : z0N 0 = .tuple [.int 0, .int 1] := if_pos rfl
theorem z0N_n {n : Int} (h : n ≠ 0) : z0N n = .int 0 := if_neg h
/-- v is the number T over B of the field -/
def Is (n : Int) (H : Hp) (v : V) (T B : Int) : Prop :=
  if n = 0 then ∃ (r : Addr) (x y : Int), v = .ref r ∧ H r = some (.tup [.int x, .int y]) ∧ 1 ≤ y ∧ gI x y = 1 ∧ x * B = T * y
  else ∃ a : Int, v = .int a ∧ 0 ≤ a ∧ a < n ∧ (a * B - T) % n = 0
theorem is_0 {H : Hp} {v : V} {T B : Int} : Is 0 H v T B ↔ ∃ (r : Addr) (x y : Int), v = .ref r ∧ H r = some (.tup [.int x, .int y]) ∧ 1 ≤ y ∧ gI x y = 1 ∧ x * B = T * y := by unfold Is; rw [if_pos rfl]
theorem is_n {n : Int} (h : n ≠ 0) {H : Hp} {v : V} {T B : Int} : Is n H v T B ↔ ∃ a : Int, v = .int a ∧ 0 ≤ a ∧ a < n ∧ (a * B - T) % n = 0 := by unfold Is; rw [if_neg h]
/-- what a number needs of the heap -/
theorem Is.keep {n : Int} {H H' : Hp} {v : V} {T B : Int} (k : ∀ b xs, H b = some (.tup xs) → H' b = some (.tup xs)) (h : Is n H v T B) : Is n H' v T B := by
  by_cases z : n = 0
  · subst z
    obtain ⟨r, x, y, e, hr, q⟩ := is_0.mp h
    exact is_0.mpr ⟨r, x, y, e, k _ _ hr, q⟩
  · exact (is_n z).mpr ((is_n z).mp h)
theorem Is.same {n : Int} {H H' : Hp} {v : V} {T B : Int} (e : Same H H') (h : Is n H v T B) : Is n H' v T B := h.keep fun _ _ => e _ _
theorem Is.updD {n : Int} {H : Hp} {v : V} {T B : Int} {d : Addr} {kvs : List (List Key × V)} {o : HO} (e : H d = some (.dT kvs)) (h : Is n H v T B) : Is n (upd H d o) v T B := h.keep fun b xs hb => by
  rw [upd_ne (ne_of hb e (by intro z; cases z))]; exact hb
theorem cop_le {x y T B : Int} (hy : 1 ≤ y) (c : gI x y = 1) (hB : B ≠ 0) (e : x * B = T * y) : x.natAbs ≤ T.natAbs ∧ y.natAbs ≤ B.natAbs := by
  refine ⟨?_, ?_⟩
  · by_cases t : T = 0
    · subst t; rw [Int.zero_mul] at e
      rcases Int.mul_eq_zero.mp e with q | q
      · rw [q]; simp
      · exact absurd q hB
    · have d : x ∣ y * T := ⟨B, by rw [Int.mul_comm, ← e]⟩
      have := Int.natAbs_dvd_natAbs.mpr (dvd_of_co c d)
      exact Nat.le_of_dvd (by omega) this
  · have d : y ∣ x * B := ⟨T, by rw [e, Int.mul_comm]⟩
    have := Int.natAbs_dvd_natAbs.mpr (dvd_of_co (co_sym c) d)
    exact Nat.le_of_dvd (by omega) this
theorem Is.rds {n : Int} (hn : n = 0 ∨ Pr n) {K : PySem.W.Frag} {H : Hp} {v : V} {T B : Int} (hB : ¬ zr n B) (h : Is n H v T B) : ∃ dn, Rds K H v dn ∧ NmD dn ∧ PyData.eqv dn (z0N n) = decide (zr n T) := by
  rcases hn with rfl | hp
  · obtain ⟨r, x, y, rfl, hr, hy, c, e⟩ := is_0.mp h
    rw [zr_0] at hB
    refine ⟨_, rds_pair hr, nmd_pair x y, ?_⟩
    rw [z0N_0, PyData.eqv]
    have q := eqv_ints [x, y] [0, 1]
    refine q.trans ?_
    have : ([x, y] = [0, 1]) ↔ zr 0 T := by
      rw [zr_0]
      constructor
      · intro z; simp at z
        obtain ⟨rfl, rfl⟩ := z
        rw [Int.zero_mul, Int.mul_one] at e; exact e.symm
      · rintro rfl
        rw [Int.zero_mul] at e
        rcases Int.mul_eq_zero.mp e with z | z
        · subst z
          have : gI 0 y = y := by unfold gI; rw [Int.gcd_zero_left]; omega
          rw [this] at c; subst c; rfl
        · exact absurd z hB
    exact decide_eq_decide.mpr this
  · have n0 := pr_ne hp
    obtain ⟨a, rfl, a0, a1, e⟩ := (is_n n0).mp h
    rw [zr_n n0] at hB
    refine ⟨_, .int a, nmd_int a, ?_⟩
    rw [z0N_n n0]
    have q : PyData.eqv (.int a) (.int 0) = decide (a = 0) := by simp [PyData.eqv, Bool.beq_eq_decide_eq]
    rw [q]
    refine decide_eq_decide.mpr ?_
    rw [zr_n n0]
    constructor
    · rintro rfl
      rw [Int.zero_mul, Int.zero_sub] at e
      exact Int.emod_eq_zero_of_dvd (Int.dvd_neg.mp (Int.dvd_of_emod_eq_zero e))
    · intro z
      have d : n ∣ a * B := by
        have d1 := Int.dvd_of_emod_eq_zero e
        have d2 := Int.dvd_of_emod_eq_zero z
        have := Int.dvd_add d1 d2
        rwa [Int.sub_add_cancel] at this
      have := pr_cancel hp hB (Int.emod_eq_zero_of_dvd d)
      rwa [Int.emod_eq_of_lt a0 a1] at this
theorem Is.zero {n : Int} {K : PySem.W.Frag} {H : Hp} {v : V} (h : Is n H v 0 1) : Rds K H v (z0N n) := by
  by_cases n0 : n = 0
  · subst n0
    obtain ⟨r, x, y, rfl, hr, hy, c, e⟩ := is_0.mp h
    rw [Int.mul_one, Int.zero_mul] at e
    subst e
    have : gI 0 y = y := by unfold gI; rw [Int.gcd_zero_left]; omega
    rw [this] at c; subst c
    rw [z0N_0]; exact rds_pair hr
  · obtain ⟨a, rfl, a0, a1, e⟩ := (is_n n0).mp h
    rw [Int.mul_one, Int.sub_zero, Int.emod_eq_of_lt a0 a1] at e
    subst e
    rw [z0N_n n0]; exact .int 0
theorem nm_z0 (n : Int) : NmD (z0N n) := by
  unfold z0N; split
  · exact nmd_pair 0 1
  · exact nmd_int 0
theorem plus_F {x y z w T1 B1 T2 B2 : Int} (hy : 1 ≤ y) (hw : 1 ≤ w) (e1 : x * B1 = T1 * y) (e2 : z * B2 = T2 * w) : fT (x * w + z * y) (y * w) * (B1 * B2) = (T1 * B2 + T2 * B1) * fB (x * w + z * y) (y * w) := by
  have hb : y * w ≠ 0 := by intro q; rcases Int.mul_eq_zero.mp q with q | q <;> omega
  have c := f_cross (t := x * w + z * y) hb
  generalize fT (x * w + z * y) (y * w) = p at *
  generalize fB (x * w + z * y) (y * w) = q at *
  refine Int.eq_of_mul_eq_mul_right hb ?_
  grind
theorem plus_R {n a b T1 B1 T2 B2 : Int} (e1 : (a * B1 - T1) % n = 0) (e2 : (b * B2 - T2) % n = 0) : ((a + b) % n * (B1 * B2) - (T1 * B2 + T2 * B1)) % n = 0 := by
  obtain ⟨k1, h1⟩ := of_z e1
  obtain ⟨k2, h2⟩ := of_z e2
  obtain ⟨q, hq⟩ := md (a + b) n
  refine z_of (q * (B1 * B2) + k1 * B2 + k2 * B1) ?_
  rw [hq]
  grind
/-- a nought beside it -/
theorem Is.skip {n : Int} {H : Hp} {v : V} {T B t b : Int} (z : zr n t) (h : Is n H v T B) : Is n H v (T * b + t * B) (B * b) := by
  by_cases n0 : n = 0
  · subst n0
    rw [zr_0] at z; subst z
    obtain ⟨r, x, y, e, hr, hy, c, q⟩ := is_0.mp h
    exact is_0.mpr ⟨r, x, y, e, hr, hy, c, by grind⟩
  · rw [zr_n n0] at z
    obtain ⟨a, e, a0, a1, q⟩ := (is_n n0).mp h
    obtain ⟨k1, h1⟩ := of_z q
    obtain ⟨k2, h2⟩ := of_z z
    exact (is_n n0).mpr ⟨a, e, a0, a1, z_of (k1 * b - k2 * B) (by grind)⟩
theorem Is.fresh {n : Int} {H : Hp} {v : V} {T B t b : Int} (z : zr n T) (h : Is n H v t b) : Is n H v (T * b + t * B) (B * b) := by
  have := Is.skip (b := B) z h
  rw [Int.add_comm, Int.mul_comm B b]; exact this
theorem nz_skip {n T B t b : Int} (hn : n = 0 ∨ Pr n) (hb : ¬ zr n b) (z1 : ¬ zr n T) (z2 : zr n t) : ¬ zr n (T * b + t * B) := by
  intro z
  refine nz_mul hn z1 hb ?_
  by_cases n0 : n = 0
  · subst n0; rw [zr_0] at *; subst z2; simpa using z
  · rw [zr_n n0] at *
    obtain ⟨k1, h1⟩ := of_z z
    obtain ⟨k2, h2⟩ := of_z z2
    exact z_of (k1 - k2 * B) (by grind)
end K8

namespace K8
open L2 PySem K1 K2 K3 K6
theorem ky_inj {a b : List Int} (h : ky a = ky b) : a = b := by
  unfold ky at h
  exact (List.map_inj_right (fun x y e => Sum.inl.inj e)).mp h
/-- a dict that holds, term by term, the numbers of F, those that are nought left out -/
structure PR (n : Int) (H : Hp) (kvs : List (List Key × V)) (F : List Int → Int × Int) : Prop where
  ks : ∀ p ∈ kvs, ∃ xs, p.1 = ky xs
  nd : (kvs.map (·.1)).Nodup
  nz : ∀ xs, ¬ zr n (F xs).2
  no : ∀ xs, valV kvs (ky xs) = none → zr n (F xs).1
  at_ : ∀ xs v, valV kvs (ky xs) = some v → Is n H v (F xs).1 (F xs).2 ∧ ¬ zr n (F xs).1
def F0 : List Int → Int × Int := fun _ => (0, 1)
def plusAt (F : List Int → Int × Int) (k : List Int) (t b : Int) : List Int → Int × Int := fun xs => if xs = k then ((F xs).1 * b + t * (F xs).2, (F xs).2 * b) else F xs
theorem plusAt_k {F : List Int → Int × Int} {k : List Int} {t b : Int} : plusAt F k t b k = ((F k).1 * b + t * (F k).2, (F k).2 * b) := if_pos rfl
theorem plusAt_ne {F : List Int → Int × Int} {k xs : List Int} {t b : Int} (h : ¬ xs = k) : plusAt F k t b xs = F xs := if_neg h
theorem PR.keep {n : Int} {H H' : Hp} {kvs : List (List Key × V)} {F : List Int → Int × Int} (k : ∀ b xs, H b = some (.tup xs) → H' b = some (.tup xs)) (h : PR n H kvs F) : PR n H' kvs F :=
  ⟨h.ks, h.nd, h.nz, h.no, fun xs v e => ⟨(h.at_ xs v e).1.keep k, (h.at_ xs v e).2⟩⟩
theorem keys_put {kvs : List (List Key × V)} {k : List Key} {v : V} : ((putK kvs k v).map (·.1)) = if (valV kvs k).isSome then kvs.map (·.1) else kvs.map (·.1) ++ [k] := by
  unfold putK
  rw [valV_any]
  cases h : (valV kvs k).isSome with
  | true =>
    rw [if_pos rfl, if_pos rfl, List.map_map]
    refine List.map_congr_left fun p _ => ?_
    show (if p.1 = k then (p.1, v) else p).1 = p.1
    split <;> rfl
  | false => rw [if_neg (by decide), if_neg (by decide), List.map_append]; rfl
theorem mem_of_valV {kvs : List (List Key × V)} {k : List Key} : (valV kvs k).isSome = true ↔ k ∈ kvs.map (·.1) := by
  rw [← valV_any, List.any_eq_true]
  constructor
  · rintro ⟨p, hp, e⟩; exact List.mem_map.mpr ⟨p, hp, of_decide_eq_true e⟩
  · intro h; obtain ⟨p, hp, e⟩ := List.mem_map.mp h; exact ⟨p, hp, decide_eq_true e⟩
theorem valV_drop (kvs : List (List Key × V)) (k j : List Key) : valV (dropK kvs k) j = if j = k then none else valV kvs j := by
  unfold dropK
  induction kvs with
  | nil => rw [List.filter_nil, valV_nil]; split <;> rfl
  | cons p r ih =>
    rw [List.filter_cons]
    by_cases e : p.1 = k
    · rw [if_neg (by simp [e]), ih]
      by_cases q : j = k
      · rw [if_pos q, if_pos q]
      · rw [if_neg q, if_neg q, valV_neg (fun z => q (z.symm.trans e))]
    · rw [if_pos (by simp [e])]
      by_cases z : p.1 = j
      · rw [valV_pos z, valV_pos z, if_neg (fun q => e (z.trans q))]
      · rw [valV_neg z, valV_neg z, ih]
theorem valV_get : ∀ {kvs : List (List Key × V)} (_ : (kvs.map (·.1)).Nodup) {i : Nat} {k : List Key} {v : V}, kvs[i]? = some (k, v) → valV kvs k = some v
  | [], _, i, k, v, h => by simp at h
  | p :: r, hn, 0, k, v, h => by
    simp at h; subst h; exact valV_pos rfl
  | p :: r, hn, i + 1, k, v, h => by
    rw [List.getElem?_cons_succ] at h
    rw [List.map_cons, List.nodup_cons] at hn
    have : ¬ p.1 = k := fun e => hn.1 (List.mem_map.mpr ⟨(k, v), List.mem_of_getElem? h, e.symm⟩)
    rw [valV_neg this]; exact valV_get hn.2 h
theorem take_snoc {α : Type} {l : List α} {i : Nat} {a : α} (h : l[i]? = some a) : l.take (i + 1) = l.take i ++ [a] := by
  rw [List.take_add_one, h]; rfl
theorem nd_take {α : Type} {l : List α} (hn : l.Nodup) {i : Nat} {a : α} (h : l[i]? = some a) : a ∉ l.take i := by
  intro hm
  have e : l.take (i + 1) = l.take i ++ [a] := take_snoc h
  have n1 : (l.take (i + 1)).Nodup := hn.sublist (List.take_sublist _ _)
  rw [e, List.nodup_append] at n1
  exact n1.2.2 a hm a (by simp) rfl
theorem nd_of_map {α β : Type} {f : α → β} : ∀ {l : List α}, (l.map f).Nodup → l.Nodup
  | [], _ => List.nodup_nil
  | a :: l, h => by
    rw [List.map_cons, List.nodup_cons] at h
    exact List.nodup_cons.mpr ⟨fun z => h.1 (List.mem_map.mpr ⟨a, z, rfl⟩), nd_of_map h.2⟩
theorem nd_put {kvs : List (List Key × V)} {k : List Key} {v : V} (h : (kvs.map (·.1)).Nodup) : ((putK kvs k v).map (·.1)).Nodup := by
  rw [keys_put]
  cases q : (valV kvs k).isSome with
  | true => exact h
  | false =>
    rw [if_neg (by decide), List.nodup_append]
    refine ⟨h, by simp, fun x hx y hy e => ?_⟩
    rw [List.mem_singleton] at hy
    have := mem_of_valV.mpr (show k ∈ kvs.map (·.1) by rw [← hy, ← e]; exact hx)
    rw [q] at this; cases this
theorem ks_put {kvs : List (List Key × V)} {k : List Int} {v : V} (h : ∀ p ∈ kvs, ∃ xs, p.1 = ky xs) : ∀ p ∈ putK kvs (ky k) v, ∃ xs, p.1 = ky xs := by
  intro p hp
  have : p.1 ∈ (putK kvs (ky k) v).map (·.1) := List.mem_map.mpr ⟨p, hp, rfl⟩
  rw [keys_put] at this
  split at this
  · obtain ⟨q, hq, e⟩ := List.mem_map.mp this
    obtain ⟨xs, ex⟩ := h q hq
    exact ⟨xs, e.symm.trans ex⟩
  · rcases List.mem_append.mp this with this | this
    · obtain ⟨q, hq, e⟩ := List.mem_map.mp this
      obtain ⟨xs, ex⟩ := h q hq
      exact ⟨xs, e.symm.trans ex⟩
    · exact ⟨k, List.mem_singleton.mp this⟩
section
variable {n : Int} {H : Hp} {kvs : List (List Key × V)} {F : List Int → Int × Int} {k : List Int} {t b : Int} {v : V}
theorem PR.put (hn : n = 0 ∨ Pr n) (h : PR n H kvs F) (hb : ¬ zr n b) (hv : Is n H v ((F k).1 * b + t * (F k).2) ((F k).2 * b)) (hz : ¬ zr n ((F k).1 * b + t * (F k).2)) : PR n H (putK kvs (ky k) v) (plusAt F k t b) := by
  refine ⟨ks_put h.ks, nd_put h.nd, fun xs => ?_, fun xs e => ?_, fun xs u e => ?_⟩
  · by_cases q : xs = k
    · subst q; rw [plusAt_k]; exact nz_mul hn (h.nz _) hb
    · rw [plusAt_ne q]; exact h.nz _
  · rw [valV_put] at e
    by_cases q : xs = k
    · subst q; rw [if_pos rfl] at e; cases e
    · rw [if_neg (fun z => q (ky_inj z))] at e
      rw [plusAt_ne q]; exact h.no _ e
  · rw [valV_put] at e
    by_cases q : xs = k
    · subst q; rw [if_pos rfl] at e; cases e
      rw [plusAt_k]; exact ⟨hv, hz⟩
    · rw [if_neg (fun z => q (ky_inj z))] at e
      rw [plusAt_ne q]; exact h.at_ _ _ e
theorem PR.drop (hn : n = 0 ∨ Pr n) (h : PR n H kvs F) (hb : ¬ zr n b) (hz : zr n ((F k).1 * b + t * (F k).2)) : PR n H (dropK kvs (ky k)) (plusAt F k t b) := by
  refine ⟨fun p hp => h.ks p (List.mem_filter.mp hp).1, h.nd.sublist (List.filter_sublist.map _), fun xs => ?_, fun xs e => ?_, fun xs u e => ?_⟩
  · by_cases q : xs = k
    · subst q; rw [plusAt_k]; exact nz_mul hn (h.nz _) hb
    · rw [plusAt_ne q]; exact h.nz _
  · rw [valV_drop] at e
    by_cases q : xs = k
    · subst q; rw [plusAt_k]; exact hz
    · rw [if_neg (fun z => q (ky_inj z))] at e
      rw [plusAt_ne q]; exact h.no _ e
  · rw [valV_drop] at e
    by_cases q : xs = k
    · subst q; rw [if_pos rfl] at e; cases e
    · rw [if_neg (fun z => q (ky_inj z))] at e
      rw [plusAt_ne q]; exact h.at_ _ _ e
end
/-- F and G together, at the terms told -/
def addG (F G : List Int → Int × Int) (ts : List (List Int)) : List Int → Int × Int := fun xs => if xs ∈ ts then ((F xs).1 * (G xs).2 + (G xs).1 * (F xs).2, (F xs).2 * (G xs).2) else F xs
theorem addG_nil (F G : List Int → Int × Int) : addG F G [] = F := funext fun xs => by simp [addG]
theorem addG_snoc {F G : List Int → Int × Int} {ts : List (List Int)} {k : List Int} (h : k ∉ ts) : addG F G (ts ++ [k]) = plusAt (addG F G ts) k (G k).1 (G k).2 := funext fun xs => by
  have ek : addG F G ts k = F k := by simp [addG, h]
  by_cases e : xs = k
  · subst e; rw [plusAt_k, ek]; simp [addG]
  · rw [plusAt_ne e]; simp [addG, e]
theorem addG_out {F G : List Int → Int × Int} {ts : List (List Int)} {k : List Int} (h : k ∉ ts) : addG F G ts k = F k := by simp [addG, h]
/-- small enough to reckon with -/
def Sm (p : Int × Int) : Prop := p.1.natAbs < 2 ^ 400 ∧ p.2.natAbs < 2 ^ 400
/-- the parts' sum at each term -/
def sumP (ps : List (Int × Int × List Int)) : List Int → Int × Int := ps.foldl (fun F p => plusAt F p.2.2 p.1 p.2.1) F0
end K8
namespace K8
open L2 PySem K1 K2 K3 K6
/-- how many of the dict's keys the other has not -/
def cnt (kvs s : List (List Key × V)) : Nat := (kvs.filter fun e => !(valV s e.1).isSome).length
end K8

namespace K10
open K8
theorem zr_iff {n T : Int} : zr n T ↔ ∃ k, T = n * k := by
  by_cases h : n = 0
  · subst h; rw [zr_0]; simp
  · rw [zr_n h]
    constructor
    · intro z; exact ⟨T / n, (Int.mul_ediv_cancel' (Int.dvd_of_emod_eq_zero z)).symm⟩
    · rintro ⟨k, rfl⟩; exact Int.mul_emod_right _ _
/-- the same in the field -/
def eqn (n a b : Int) : Prop := zr n (a - b)
theorem eqn_iff {n a b : Int} : eqn n a b ↔ ∃ k, a = b + n * k := by
  unfold eqn; rw [zr_iff]
  constructor
  · rintro ⟨k, h⟩; exact ⟨k, by omega⟩
  · rintro ⟨k, h⟩; exact ⟨k, by omega⟩
theorem eqn.refl (n a : Int) : eqn n a a := eqn_iff.mpr ⟨0, by simp⟩
theorem eqn.of_eq {n a b : Int} (h : a = b) : eqn n a b := h ▸ eqn.refl n a
theorem eqn.mul {n a b c d : Int} (h : eqn n a b) (h' : eqn n c d) : eqn n (a * c) (b * d) := by
  obtain ⟨k, h⟩ := eqn_iff.mp h; obtain ⟨l, h'⟩ := eqn_iff.mp h'; exact eqn_iff.mpr ⟨k * c + b * l, by grind⟩
theorem eqn_zr {n a b : Int} (h : eqn n a b) : zr n a ↔ zr n b := by
  obtain ⟨k, h⟩ := eqn_iff.mp h
  rw [zr_iff, zr_iff]
  constructor
  · rintro ⟨l, e⟩; exact ⟨l - k, by grind⟩
  · rintro ⟨l, e⟩; exact ⟨l + k, by grind⟩
theorem eqn_0 {a b : Int} : eqn 0 a b ↔ a = b := by unfold eqn; rw [zr_0]; omega
abbrev Tm := List Int
def sm (φ : Tm → Int) (ts : List Tm) : Int := (ts.map φ).sum
theorem sm_cons (φ : Tm → Int) (t : Tm) (ts : List Tm) : sm φ (t :: ts) = φ t + sm φ ts := by simp [sm]
theorem sm_snoc (φ : Tm → Int) (t : Tm) (ts : List Tm) : sm φ (ts ++ [t]) = sm φ ts + φ t := by simp [sm, List.sum_append]
def dd : List Tm → List Tm
  | [] => []
  | t :: ts => if t ∈ dd ts then dd ts else t :: dd ts
/-- terms -/
def addT (l u : Tm) : Tm := List.zipWith (· + ·) l u
def subT (t l : Tm) : Tm := List.zipWith (· - ·) t l
theorem add_sub : ∀ {t l : Tm}, t.length = l.length → addT l (subT t l) = t
  | [], [], _ => rfl
  | t :: ts, l :: ls, h => by
    show (l + (t - l)) :: addT ls (subT ts ls) = t :: ts
    rw [add_sub (by simpa using h)]; congr 1; omega
theorem sub_add : ∀ {u l : Tm}, u.length = l.length → subT (addT l u) l = u
  | [], [], _ => rfl
  | t :: ts, l :: ls, h => by
    show (l + t - l) :: subT (addT ls ts) ls = t :: ts
    rw [sub_add (by simpa using h)]; congr 1; omega
theorem addT_len {u l : Tm} (h : u.length = l.length) : (addT l u).length = l.length := by simp [addT, h]
/-- moved by a term -/
def shT (l : Tm) (T : Tm → Int) : Tm → Int := fun t => if t.length = l.length then T (subT t l) else 0
theorem shT_add {l u : Tm} {T : Tm → Int} (h : u.length = l.length) : shT l T (addT l u) = T u := by unfold shT; rw [if_pos (addT_len h), sub_add h]
/-- part by part -/
def cv (T1 : Tm → Int) (ls : List Tm) (T2 : Tm → Int) : Tm → Int := fun t => sm (fun l => T1 l * shT l T2 t) ls
theorem cv_nil (T1 T2 : Tm → Int) (t : Tm) : cv T1 [] T2 t = 0 := rfl
theorem cv_cons (T1 : Tm → Int) (l : Tm) (ls : List Tm) (T2 : Tm → Int) (t : Tm) : cv T1 (l :: ls) T2 t = T1 l * shT l T2 t + cv T1 ls T2 t := sm_cons _ _ _
theorem cv_snoc (T1 : Tm → Int) (l : Tm) (ls : List Tm) (T2 : Tm → Int) (t : Tm) : cv T1 (ls ++ [l]) T2 t = cv T1 ls T2 t + T1 l * shT l T2 t := sm_snoc _ _ _
/-- the sum of the parts, weighed -/
def ev (ts : List Tm) (T W : Tm → Int) : Int := sm (fun t => T t * W t) ts
theorem zr_mul {n a b : Int} (h : zr n a) : zr n (a * b) := by obtain ⟨k, e⟩ := zr_iff.mp h; exact zr_iff.mpr ⟨k * b, by grind⟩
/-- powers -/
def pwr : List Int → Tm → Int
  | p :: ps, t :: ts => p ^ t.toNat * pwr ps ts
  | _, _ => 1
def deg (t : Tm) : Int := t.sum
/-- the weight of a term at a point -/
def wt (ps : List Int) (bt : Int) (t : Tm) : Int := bt ^ (12 - deg t).toNat * pwr ps t
end K10

namespace K10
open L2 PySem K1 K2 K3 K6 K8
def uk (k : List Key) : List Int := k.map fun x => match x with | .inl i => i | .inr _ => 0
theorem uk_ky : ∀ xs : List Int, uk (ky xs) = xs
  | [] => rfl
  | x :: xs => by show x :: uk (ky xs) = x :: xs; rw [uk_ky xs]
/-- the terms of a dict -/
def tks (kvs : List (List Key × V)) : List Tm := kvs.map fun p => uk p.1
theorem tks_len (kvs : List (List Key × V)) : (tks kvs).length = kvs.length := List.length_map _
def TmOk (m : Nat) (xs : Tm) : Prop := xs.length = m ∧ ∀ x ∈ xs, 0 ≤ x
theorem TmOk.add {m : Nat} {a b : Tm} (ha : TmOk m a) (hb : TmOk m b) : TmOk m (addT a b) := by
  refine ⟨by rw [addT_len (hb.1.trans ha.1.symm)]; exact ha.1, ?_⟩
  obtain ⟨ha1, ha2⟩ := ha
  obtain ⟨hb1, hb2⟩ := hb
  clear ha1 hb1
  induction a generalizing b with
  | nil => intro x hx; cases hx
  | cons p a ih =>
    cases b with
    | nil => intro x hx; cases hx
    | cons q b =>
      intro x hx
      rcases List.mem_cons.mp (show x ∈ (p + q) :: addT a b from hx) with rfl | hx
      · have := ha2 p (by simp); have := hb2 q (by simp); omega
      · exact ih (fun y hy => ha2 y (by simp [hy])) (fun y hy => hb2 y (by simp [hy])) x hx
def KO (m : Nat) (kvs : List (List Key × V)) : Prop := ∀ p ∈ kvs, ∃ xs, p.1 = ky xs ∧ TmOk m xs
theorem KO.nil {m : Nat} : KO m [] := fun _ h => by cases h
theorem KO.keys {m : Nat} : ∀ {kvs : List (List Key × V)}, KO m kvs → kvs.map (·.1) = (tks kvs).map ky
  | [], _ => rfl
  | p :: r, h => by
    obtain ⟨xs, e, _⟩ := h p (by simp)
    show p.1 :: r.map (·.1) = ky (uk p.1) :: (tks r).map ky
    rw [KO.keys (kvs := r) fun q hq => h q (by simp [hq]), e, uk_ky]
theorem KO.put {m : Nat} {kvs : List (List Key × V)} (h : KO m kvs) {xs : Tm} (hx : TmOk m xs) {v : V} : KO m (putK kvs (ky xs) v) := by
  intro p hp
  have : p.1 ∈ (putK kvs (ky xs) v).map (·.1) := List.mem_map.mpr ⟨p, hp, rfl⟩
  rw [keys_put] at this
  have one : p.1 ∈ kvs.map (·.1) → ∃ xs, p.1 = ky xs ∧ TmOk m xs := fun z => by
    obtain ⟨q, hq, e⟩ := List.mem_map.mp z
    rw [← e]; exact h q hq
  split at this
  · exact one this
  · rcases List.mem_append.mp this with z | z
    · exact one z
    · exact ⟨xs, List.mem_singleton.mp z, hx⟩
theorem KO.drop {m : Nat} {kvs : List (List Key × V)} (h : KO m kvs) (k : List Key) : KO m (dropK kvs k) := fun p hp => h p (List.mem_filter.mp hp).1
theorem KO.mem {m : Nat} {kvs : List (List Key × V)} (h : KO m kvs) {t : Tm} : t ∈ tks kvs ↔ (valV kvs (ky t)).isSome = true := by
  rw [mem_of_valV, h.keys]
  constructor
  · exact fun z => List.mem_map.mpr ⟨t, z, rfl⟩
  · intro z; obtain ⟨u, hu, e⟩ := List.mem_map.mp z; rw [← ky_inj e]; exact hu
theorem KO.ok {m : Nat} {kvs : List (List Key × V)} (h : KO m kvs) {t : Tm} (ht : t ∈ tks kvs) : TmOk m t := by
  obtain ⟨p, hp, rfl⟩ := List.mem_map.mp ht
  obtain ⟨xs, e, z⟩ := h p hp
  rw [e, uk_ky]; exact z
theorem KO.get {m : Nat} {kvs : List (List Key × V)} (h : KO m kvs) {i : Nat} {k : List Key} {v : V} (hk : kvs[i]? = some (k, v)) : ∃ t, (tks kvs)[i]? = some t ∧ k = ky t ∧ TmOk m t := by
  obtain ⟨xs, e, z⟩ := h (k, v) (List.mem_of_getElem? hk)
  refine ⟨xs, ?_, e, z⟩
  unfold tks
  rw [List.getElem?_map, hk]
  show some (uk k) = some xs
  rw [show k = ky xs from e, uk_ky]
/-- the same number otherwise written -/
theorem Is.cross {n : Int} (hn : n = 0 ∨ Pr n) {H : Hp} {v : V} {T B T' B' : Int} (hB : ¬ zr n B) (h : Is n H v T B) (e : eqn n (T * B') (T' * B)) : Is n H v T' B' := by
  rcases hn with rfl | hp
  · obtain ⟨r, x, y, q, hr, hy, c, w⟩ := is_0.mp h
    rw [eqn_0] at e
    rw [zr_0] at hB
    refine is_0.mpr ⟨r, x, y, q, hr, hy, c, ?_⟩
    refine Int.eq_of_mul_eq_mul_right hB ?_
    grind
  · have n0 := pr_ne hp
    obtain ⟨a, q, a0, a1, w⟩ := (is_n n0).mp h
    rw [zr_n n0] at hB
    refine (is_n n0).mpr ⟨a, q, a0, a1, pr_cancel hp hB ?_⟩
    obtain ⟨k, hk⟩ := eqn_iff.mp e
    obtain ⟨l, hl⟩ := zr_iff.mp ((zr_n n0).mpr w)
    exact (zr_n n0).mp (zr_iff.mpr ⟨l * B' + k, by grind⟩)
theorem PR.cross {n : Int} (hn : n = 0 ∨ Pr n) {H : Hp} {kvs : List (List Key × V)} {F F' : Tm → Int × Int} (h : PR n H kvs F) (e : ∀ k, eqn n ((F k).1 * (F' k).2) ((F' k).1 * (F k).2)) (nz : ∀ k, ¬ zr n (F' k).2) : PR n H kvs F' := by
  refine ⟨h.ks, h.nd, nz, fun xs q => ?_, fun xs v q => ?_⟩
  · have z := zr_mul (b := (F' xs).2) (h.no xs q)
    have z2 := (eqn_zr (e xs)).mp z
    exact Classical.byContradiction fun c => nz_mul hn c (h.nz xs) z2
  · obtain ⟨a, b⟩ := h.at_ xs v q
    exact ⟨Is.cross hn (h.nz xs) a (e xs), fun c => nz_mul hn b (nz xs) ((eqn_zr (e xs)).mpr (zr_mul c))⟩
/-- a dict that holds T over D, term by term -/
structure PD (n : Int) (m : Nat) (H : Hp) (kvs : List (List Key × V)) (T : Tm → Int) (D : Int) : Prop where
  pr : PR n H kvs (fun k => (T k, D))
  ko : KO m kvs
section
variable {n : Int} {m : Nat} {H : Hp} {kvs : List (List Key × V)} {T : Tm → Int} {D : Int}
theorem PD.nts (h : PD n m H kvs T D) : (tks kvs).Nodup := nd_of_map (f := ky) (by rw [← h.ko.keys]; exact h.pr.nd)
theorem PD.out (h : PD n m H kvs T D) {t : Tm} (ht : t ∉ tks kvs) : zr n (T t) := by
  refine h.pr.no t ?_
  cases z : valV kvs (ky t) with
  | none => rfl
  | some v => exact absurd (h.ko.mem.mpr (by rw [z]; rfl)) ht
theorem PD.nz (h : PD n m H kvs T D) : ¬ zr n D := h.pr.nz []
theorem PD.get (h : PD n m H kvs T D) {i : Nat} {k : List Key} {v : V} (hk : kvs[i]? = some (k, v)) : ∃ t, (tks kvs)[i]? = some t ∧ k = ky t ∧ TmOk m t ∧ Is n H v (T t) D ∧ ¬ zr n (T t) := by
  obtain ⟨t, h1, rfl, h3⟩ := h.ko.get hk
  obtain ⟨a, b⟩ := h.pr.at_ t v (valV_get h.pr.nd hk)
  exact ⟨t, h1, rfl, h3, a, b⟩
theorem PD.keep {H' : Hp} (k : ∀ b xs, H b = some (.tup xs) → H' b = some (.tup xs)) (h : PD n m H kvs T D) : PD n m H' kvs T D := ⟨h.pr.keep k, h.ko⟩
theorem PD.same {H' : Hp} (e : Same H H') (h : PD n m H kvs T D) : PD n m H' kvs T D := h.keep fun _ _ => e _ _
theorem PD.cross (hn : n = 0 ∨ Pr n) {T' : Tm → Int} {D' : Int} (h : PD n m H kvs T D) (e : ∀ k, eqn n (T k * D') (T' k * D)) (nz : ¬ zr n D') : PD n m H kvs T' D' := ⟨PR.cross hn h.pr e fun _ => nz, h.ko⟩
theorem PD.nil (hn : n = 0 ∨ Pr n) (nz : ¬ zr n D) {T : Tm → Int} (z : ∀ t, zr n (T t)) : PD n m H [] T D :=
  ⟨⟨(fun _ h => by cases h), List.nodup_nil, fun _ => nz, fun t _ => z t, (fun _ _ h => by rw [valV_nil] at h; cases h)⟩, KO.nil⟩
theorem pd_mk {ts : List Tm} (hk : kvs.map (·.1) = ts.map ky) (nd : ts.Nodup) (ok : ∀ t ∈ ts, TmOk m t) (nz : ¬ zr n D) (out : ∀ t, t ∉ ts → zr n (T t))
    (hat : ∀ (i : Nat) (t : Tm) (k : List Key) (v : V), ts[i]? = some t → kvs[i]? = some (k, v) → Is n H v (T t) D ∧ ¬ zr n (T t)) : PD n m H kvs T D := by
  have ko : KO m kvs := fun p hp => by
    have : p.1 ∈ ts.map ky := by rw [← hk]; exact List.mem_map.mpr ⟨p, hp, rfl⟩
    obtain ⟨t, ht, e⟩ := List.mem_map.mp this
    exact ⟨t, e.symm, ok t ht⟩
  have ndk : (kvs.map (·.1)).Nodup := by
    rw [hk]
    exact (List.pairwise_map.mpr (nd.imp fun a b => a (ky_inj b)))
  refine ⟨⟨fun p hp => let ⟨xs, e, _⟩ := ko p hp; ⟨xs, e⟩, ndk, fun _ => nz, fun t z => out t fun ht => ?_, fun t v z => ?_⟩, ko⟩
  · have := mem_of_valV.mpr (show ky t ∈ kvs.map (·.1) by rw [hk]; exact List.mem_map.mpr ⟨t, ht, rfl⟩)
    rw [z] at this; cases this
  · obtain ⟨i, hi, e⟩ := List.getElem_of_mem (mem_of_valV.mp (show (valV kvs (ky t)).isSome = true by rw [z]; rfl))
    have hi' : i < kvs.length := by simpa using hi
    have e1 : kvs[i]? = some (kvs[i].1, kvs[i].2) := List.getElem?_eq_getElem hi'
    have e2 : kvs[i].1 = ky t := by rw [List.getElem_map] at e; exact e
    have e3 : ts[i]? = some t := by
      have q : (ts.map ky)[i]? = some (ky t) := by rw [← hk, List.getElem?_map, e1]; show some kvs[i].1 = _; rw [e2]
      rw [List.getElem?_map] at q
      obtain ⟨u, hu, eu⟩ := Option.map_eq_some_iff.mp q
      rw [hu, ky_inj eu]
    have e4 := valV_get ndk e1
    rw [e2, z] at e4
    obtain ⟨a, b⟩ := hat i t _ _ e3 e1
    injection e4 with e4
    rw [e4]; exact ⟨a, b⟩
theorem PD.addG (hn : n = 0 ∨ Pr n) {ts : List Tm} {T2 : Tm → Int} (hz : ¬ zr n D) (h : PR n H kvs (addG (fun k => (T k, D)) (fun k => (T2 k, D)) ts)) (ko : KO m kvs) (out : ∀ t, t ∉ ts → zr n (T2 t)) : PD n m H kvs (fun k => T k + T2 k) D := by
  refine ⟨PR.cross hn h (fun k => ?_) fun _ => hz, ko⟩
  by_cases e : k ∈ ts
  · have : K8.addG (fun k => (T k, D)) (fun k => (T2 k, D)) ts k = (T k * D + T2 k * D, D * D) := if_pos e
    rw [this]
    exact eqn.of_eq (by grind)
  · rw [addG_out e]
    obtain ⟨q, hq⟩ := zr_iff.mp (out k e)
    exact eqn_iff.mpr ⟨-(q * D), by show T k * D = (T k + T2 k) * D + n * -(q * D); rw [hq]; grind⟩
theorem putK_new {kvs : List (List Key × V)} {k : List Key} {v : V} (h : k ∉ kvs.map (·.1)) : putK kvs k v = kvs ++ [(k, v)] := by
  unfold putK
  have : (kvs.any fun kv => decide (kv.1 = k)) = false := by
    rw [Bool.eq_false_iff]
    intro z
    obtain ⟨p, hp, e⟩ := List.any_eq_true.mp z
    exact h (List.mem_map.mpr ⟨p, hp, of_decide_eq_true e⟩)
  rw [this]; rfl
end
end K10

namespace K10
open L2 PySem
/-- strict in the number -/
@[inline] def strN {α : Type} (n : Nat) (f : Nat → α) : α := Nat.rec (f 0) (fun k _ => f (Nat.succ k)) n
theorem strN_eq {α : Type} (n : Nat) (f : Nat → α) : strN n f = f n := by cases n <;> rfl
/-- a tuple's hash, step by step -/
def stp (acc h : Nat) : Nat := ((((acc + h * 14029467366897019727) % 18446744073709551616) * 2147483648 % 18446744073709551616 + ((acc + h * 14029467366897019727) % 18446744073709551616) / 8589934592) * 11400714785074694791) % 18446744073709551616
def lst (a l : Nat) : Nat := (a + (l ^^^ (2870177450012600261 ^^^ 3527539))) % 18446744073709551616
def hN (t : List Nat) : Nat := strN (lst (t.foldl stp 2870177450012600261) t.length) fun a => bif Nat.beq a 18446744073709551615 then 1546275796 else a
theorem hash_small {x : Nat} (h : x < 1000) : (hashInt (Int.ofNat x) % ((2 ^ 64 : Nat) : Int)).toNat = x := by
  have e : rawHash (Int.ofNat x) = Int.ofNat x := by
    unfold rawHash
    have a : (((Int.ofNat x).natAbs : Nat) : Int) % ((2 ^ 61 - 1 : Nat) : Int) = (x : Int) := Int.emod_eq_of_lt (by omega) (by show (x : Int) < ((2 ^ 61 - 1 : Nat) : Int); omega)
    have b : ¬ Int.ofNat x < 0 := by simp
    simp only [b, if_false]
    rw [a]
    have c : ((x : Int) == -1) = false := by rw [beq_eq_false_iff_ne]; omega
    rw [c]; rfl
  unfold hashInt
  rw [e]
  have c : (Int.ofNat x == -1) = false := by rw [beq_eq_false_iff_ne]; show (x : Int) ≠ -1; omega
  rw [c]
  show ((x : Int) % ((2 ^ 64 : Nat) : Int)).toNat = x
  rw [Int.emod_eq_of_lt (by omega) (by omega)]
  rfl
theorem fold_stp : ∀ (t : List Nat) (a : Nat), (∀ x ∈ t, x < 1000) → (((t.map Int.ofNat).map hashInt).foldl (init := a) fun acc h =>
    let acc := (acc + (h % ((2 ^ 64 : Nat) : Int)).toNat * 14029467366897019727) % 2 ^ 64
    let acc := (acc * 2 ^ 31) % 2 ^ 64 + acc / 2 ^ 33
    (acc * 11400714785074694791) % 2 ^ 64) = t.foldl stp a
  | [], _, _ => rfl
  | x :: t, a, h => by
    rw [List.map_cons, List.map_cons, List.foldl_cons, List.foldl_cons, hash_small (h x (by simp))]
    exact fold_stp t _ fun y hy => h y (by simp [hy])
theorem hsI_N {t : List Nat} (h : ∀ x ∈ t, x < 1000) : (hsI (t.map Int.ofNat) % 18446744073709551616).toNat = hN t := by
  unfold hsI Builtin.Tuple.tupleHashOf hN
  rw [strN_eq]
  have e := fold_stp t 2870177450012600261 h
  simp only [] at e ⊢
  rw [e, List.length_map, List.length_map]
  have lt : lst (t.foldl stp 2870177450012600261) t.length < 18446744073709551616 := Nat.mod_lt _ (by decide)
  show ((reduceHash (if (lst (t.foldl stp 2870177450012600261) t.length == 18446744073709551615) = true then 1546275796 else if lst (t.foldl stp 2870177450012600261) t.length < 9223372036854775808 then (lst (t.foldl stp 2870177450012600261) t.length : Int) else (lst (t.foldl stp 2870177450012600261) t.length : Int) - 18446744073709551616)) % 18446744073709551616).toNat = _
  generalize lst (t.foldl stp 2870177450012600261) t.length = a at lt
  by_cases c : a = 18446744073709551615
  · subst c; rfl
  · have c1 : (a == 18446744073709551615) = false := by rw [beq_eq_false_iff_ne]; exact c
    have c2 : Nat.beq a 18446744073709551615 = false := by
      cases q : Nat.beq a 18446744073709551615
      · rfl
      · exact absurd (Nat.eq_of_beq_eq_true q) c
    rw [c1, c2]
    simp only [Bool.false_eq_true, if_false, cond_false]
    have rh : ∀ i : Int, -9223372036854775808 ≤ i → i < 9223372036854775808 → i ≠ -1 → reduceHash i = i := fun i h1 h2 h3 => by
      unfold reduceHash
      have q : (decide (-(2 ^ 63 : Int) ≤ i) && decide (i < 2 ^ 63)) = true := by
        rw [Bool.and_eq_true, decide_eq_true_eq, decide_eq_true_eq]
        exact ⟨by omega, by omega⟩
      rw [q, if_pos rfl]
      have q2 : (i == -1) = false := by rw [beq_eq_false_iff_ne]; exact h3
      rw [q2]; rfl
    split
    · rw [rh _ (by omega) (by omega) (by omega)]; omega
    · rw [rh _ (by omega) (by omega) (by omega)]; omega
def mrg : Nat → List (Nat × Nat) → List (Nat × Nat) → List (Nat × Nat)
  | 0, xs, ys => xs ++ ys
  | _ + 1, [], ys => ys
  | _ + 1, xs, [] => xs
  | k + 1, x :: xs, y :: ys => if Nat.ble x.1 y.1 then x :: mrg k xs (y :: ys) else y :: mrg k (x :: xs) ys
theorem mem_mrg : ∀ {k : Nat} {xs ys : List (Nat × Nat)} {p : Nat × Nat}, p ∈ xs ∨ p ∈ ys → p ∈ mrg k xs ys
  | 0, xs, ys, p, h => by unfold mrg; exact List.mem_append.mpr h
  | k + 1, [], ys, p, h => by
    unfold mrg
    rcases h with h | h
    · cases h
    · exact h
  | k + 1, x :: xs, [], p, h => by
    unfold mrg
    rcases h with h | h
    · exact h
    · cases h
  | k + 1, x :: xs, y :: ys, p, h => by
    unfold mrg
    split
    · rcases h with h | h
      · rcases List.mem_cons.mp h with h | h
        · exact List.mem_cons.mpr (.inl h)
        · exact List.mem_cons.mpr (.inr (mem_mrg (.inl h)))
      · exact List.mem_cons.mpr (.inr (mem_mrg (.inr h)))
    · rcases h with h | h
      · exact List.mem_cons.mpr (.inr (mem_mrg (.inl h)))
      · rcases List.mem_cons.mp h with h | h
        · exact List.mem_cons.mpr (.inl h)
        · exact List.mem_cons.mpr (.inr (mem_mrg (.inr h)))
def srtH (tm : Nat → List Nat) : Nat → Nat → Nat → List (Nat × Nat)
  | 0, lo, w => bif Nat.beq w 0 then [] else strN (hN (tm lo)) fun h => [(h, lo)]
  | k + 1, lo, w => mrg 100000 (srtH tm k lo (w / 2)) (srtH tm k (lo + w / 2) (w - w / 2))
theorem mem_srtH {tm : Nat → List Nat} : ∀ {k lo w c : Nat}, w ≤ 2 ^ k → lo ≤ c → c < lo + w → (hN (tm c), c) ∈ srtH tm k lo w
  | 0, lo, w, c, h1, h2, h3 => by
    have w1 : w = 1 := by simp at h1; omega
    have : c = lo := by omega
    subst w1 this
    show _ ∈ strN (hN (tm c)) fun h => [(h, c)]
    rw [strN_eq]; simp
  | k + 1, lo, w, c, h1, h2, h3 => by
    unfold srtH
    rw [Nat.pow_succ] at h1
    refine mem_mrg ?_
    rcases Nat.lt_or_ge c (lo + w / 2) with q | q
    · exact .inl (mem_srtH (by omega) h2 q)
    · exact .inr (mem_srtH (by omega) q (by omega))
def adjH (tm : Nat → List Nat) : List (Nat × Nat) → Bool
  | [] => true
  | [_] => true
  | x :: y :: r => (Nat.blt x.1 y.1 || (Nat.beq x.1 y.1 && decide (tm x.2 = tm y.2))) && adjH tm (y :: r)
theorem adj_lt {tm : Nat → List Nat} : ∀ {l : List (Nat × Nat)} {x : Nat × Nat}, adjH tm (x :: l) = true → ∀ q ∈ l, x.1 < q.1 ∨ (x.1 = q.1 ∧ tm x.2 = tm q.2)
  | [], _, _, q, hq => by cases hq
  | y :: l, x, h, q, hq => by
    unfold adjH at h
    rw [Bool.and_eq_true, Bool.or_eq_true, Bool.and_eq_true, Nat.blt_eq, Nat.beq_eq, decide_eq_true_eq] at h
    obtain ⟨h1, h2⟩ := h
    rcases List.mem_cons.mp hq with rfl | hq
    · exact h1
    · have := adj_lt h2 q hq
      rcases h1 with a | ⟨a, b⟩ <;> rcases this with c | ⟨c, d⟩
      · exact .inl (by omega)
      · exact .inl (by omega)
      · exact .inl (by omega)
      · exact .inr ⟨by omega, b.trans d⟩
theorem adj_tl {tm : Nat → List Nat} {l : List (Nat × Nat)} {x : Nat × Nat} (h : adjH tm (x :: l) = true) : adjH tm l = true := by
  cases l with
  | nil => rfl
  | cons y l => unfold adjH at h; rw [Bool.and_eq_true] at h; exact h.2
theorem adj_inj {tm : Nat → List Nat} : ∀ {l : List (Nat × Nat)}, adjH tm l = true → ∀ p ∈ l, ∀ q ∈ l, p.1 = q.1 → tm p.2 = tm q.2
  | [], _, p, hp, _, _, _ => by cases hp
  | x :: l, h, p, hp, q, hq, e => by
    rcases List.mem_cons.mp hp with hp | hp <;> rcases List.mem_cons.mp hq with hq | hq
    · rw [hp, hq]
    · rw [hp] at e ⊢
      rcases adj_lt h q hq with a | a
      · omega
      · exact a.2
    · rw [hq] at e ⊢
      rcases adj_lt h p hp with a | a
      · omega
      · exact a.2.symm
    · exact adj_inj (adj_tl h) p hp q hq e
theorem hs_inj {tm : Nat → List Nat} {k w : Nat} (h : adjH tm (srtH tm k 0 w) = true) (hw : w ≤ 2 ^ k) (sm : ∀ c, ∀ x ∈ tm c, x < 1000) {c d : Nat} (hc : c < w) (hd : d < w) (e : hsI ((tm c).map Int.ofNat) = hsI ((tm d).map Int.ofNat)) : (tm c).map Int.ofNat = (tm d).map Int.ofNat := by
  have q := adj_inj h _ (mem_srtH hw (Nat.zero_le c) (by omega)) _ (mem_srtH hw (Nat.zero_le d) (by omega)) (by
    show hN (tm c) = hN (tm d)
    rw [← hsI_N (sm c), ← hsI_N (sm d), e])
  have q' : tm c = tm d := q
  rw [q']
def famA (m c : Nat) : List Nat := (List.range m).map fun a => c * (48271 + 2 * a) % 10007 % 201
def famB (m j : Nat) : List Nat := (List.range m).map fun a => j / 3 ^ a % 3
def tmH (m c : Nat) : List Nat := bif Nat.blt c 10007 then famA m c else famB m (c - 10007)
theorem tmH_sm (m c : Nat) : ∀ x ∈ tmH m c, x < 1000 := by
  unfold tmH
  cases Nat.blt c 10007
  · intro x hx
    obtain ⟨a, _, rfl⟩ := List.mem_map.mp (show x ∈ famB m (c - 10007) from hx)
    omega
  · intro x hx
    obtain ⟨a, _, rfl⟩ := List.mem_map.mp (show x ∈ famA m c from hx)
    omega
def tm1 (c : Nat) : List Nat := [c % 201]
theorem hs_1 : adjH tm1 (srtH tm1 8 0 201) = true := by decide +kernel
theorem hs_2 : adjH (tmH 2) (srtH (tmH 2) 14 0 10016) = true := by decide +kernel
theorem hs_3 : adjH (tmH 3) (srtH (tmH 3) 14 0 10034) = true := by decide +kernel
theorem hs_4 : adjH (tmH 4) (srtH (tmH 4) 14 0 10088) = true := by decide +kernel
end K10

namespace K10
open PySem L2
def top (i : Nat) : Stmt := PySem.Challenge.pw_idealroom_k09_products_part_by_part.main.body.getD i (.Pass ⟨0, 0, 0, 0⟩)
abbrev s_shared_divisor : Stmt := top 19
abbrev s_is_prime : Stmt := top 20
abbrev s_Field___init__ : Stmt := inClass (top 21) 0
abbrev s_Fractions___init__ : Stmt := inClass (top 22) 0
abbrev s_Fractions_nought : Stmt := inClass (top 22) 1
abbrev s_Fractions_one : Stmt := inClass (top 22) 2
abbrev s_Fractions_plus : Stmt := inClass (top 22) 4
abbrev s_Fractions_times : Stmt := inClass (top 22) 5
abbrev s_Fractions_against : Stmt := inClass (top 22) 6
abbrev s_Rests___init__ : Stmt := inClass (top 23) 0
abbrev s_Rests_nought : Stmt := inClass (top 23) 1
abbrev s_Rests_one : Stmt := inClass (top 23) 2
abbrev s_Rests_plus : Stmt := inClass (top 23) 4
abbrev s_Rests_times : Stmt := inClass (top 23) 5
abbrev s_Rests_against : Stmt := inClass (top 23) 6
abbrev s_absorb : Stmt := top 11
abbrev s_product : Stmt := top 7
abbrev s_scaled : Stmt := top 12
abbrev s_negated : Stmt := top 13
abbrev s_plus : Stmt := top 14
abbrev s_minus : Stmt := top 15
abbrev s_times : Stmt := top 16
abbrev s__law_cell : Stmt := top 32
abbrev s__law_shared : Stmt := top 33
abbrev s__law_is_prime : Stmt := top 34
abbrev s__law_prime : Stmt := top 35
abbrev s__law_made : Stmt := top 36
abbrev s_Order_fits : Stmt := inClass (top 25) 5
abbrev s_Ring___init__ : Stmt := inClass (top 30) 0
abbrev s__law_add : Stmt := top 37
abbrev s__law_mul : Stmt := top 38
abbrev s__law_power : Stmt := top 39
abbrev s__law_term : Stmt := top 40
abbrev s__law_poly : Stmt := top 41
abbrev s__law_kinds : Stmt := top 42
abbrev s__law_is_sum : Stmt := top 43
abbrev s__law_is_product : Stmt := top 44
abbrev s__law_whole_again : Stmt := top 45
abbrev s__law_own : Stmt := top 46
abbrev s__law_eight : Stmt := top 47
abbrev s_law : Stmt := top 48
structure Txt (K : PySem.W.Frag) (mg : Str → Option Value) (C_Ring C_Fractions C_Rests C_Order C_Degrees C_Tails : Addr) : Prop where
  b_abs : mg "abs" = none
  b_all : mg "all" = none
  b_bool : mg "bool" = none
  b_dict : mg "dict" = none
  b_int : mg "int" = none
  b_isinstance : mg "isinstance" = none
  b_len : mg "len" = none
  b_list : mg "list" = none
  b_range : mg "range" = none
  b_tuple : mg "tuple" = none
  b_zip : mg "zip" = none
  cl_Ring : Cls K C_Ring
  mg_Ring : mg "Ring" = some (.ref C_Ring)
  na_Ring_many : NoAttr K C_Ring "many"
  na_Ring_field : NoAttr K C_Ring "field"
  na_Ring_order : NoAttr K C_Ring "order"
  cl_Fractions : Cls K C_Fractions
  mg_Fractions : mg "Fractions" = some (.ref C_Fractions)
  na_Fractions_prime : NoAttr K C_Fractions "prime"
  cl_Rests : Cls K C_Rests
  mg_Rests : mg "Rests" = some (.ref C_Rests)
  na_Rests_prime : NoAttr K C_Rests "prime"
  cl_Order : Cls K C_Order
  mg_Order : mg "Order" = some (.ref C_Order)
  n0_Order : Mk0 K C_Order
  cl_Degrees : Cls K C_Degrees
  mg_Degrees : mg "Degrees" = some (.ref C_Degrees)
  n0_Degrees : Mk0 K C_Degrees
  cl_Tails : Cls K C_Tails
  mg_Tails : mg "Tails" = some (.ref C_Tails)
  n0_Tails : Mk0 K C_Tails
  g_GREATEST_PRIME : ∃ tk, mg "GREATEST_PRIME" = some (.int 9973 tk)
  g_LETTERS : ∃ tk, mg "LETTERS" = some (.str "xyzt" tk)
  kdd : PySem.W.kitOne K (.type "dict") (.type "dict") = some true
  kib : PySem.W.kitOne K (.type "int") (.type "bool") = some false
  kii : PySem.W.kitOne K (.type "int") (.type "int") = some true
  ktt : PySem.W.kitOne K (.type "tuple") (.type "tuple") = some true
theorem nd_power_further : (["power", "further"] : List Str).Nodup := by decide +kernel
theorem nd__law_at__law_cell_here : (["_law_at", "_law_cell_here"] : List Str).Nodup := by decide +kernel
theorem nd__law_a__law_b : (["_law_a", "_law_b"] : List Str).Nodup := by decide +kernel
theorem nd__law_number__law_nought : (["_law_number", "_law_nought"] : List Str).Nodup := by decide +kernel
theorem nd__law_at : (["_law_at"] : List Str).Nodup := by decide +kernel
theorem nd__law_found__law_kept : (["_law_found", "_law_kept"] : List Str).Nodup := by decide +kernel
theorem ixT_of {K : PySem.W.Frag} {H : Hp} {p : Addr} {xs : List V} {i : Int} {v : V} {Q : V → Hp → Prop} (h : SqT K H p xs) (h' : atI xs i = some v) (q : Q v H) : rIxT K (.ref p) (.int i) H Q := ⟨p, xs, i, v, rfl, rfl, h, h', q⟩
theorem uOne {k : Nat} {A : Around} (r : Room k A) : A.units + 1 < cLine := by have := r.units; omega
theorem pe_globS {X : Cx} {x : Str} {i : Str} {pos : Pos} (hm : ∃ tk, X.mg x = some (.str i tk)) (hg : Gl X x) (hd : (x == ("__debug__" : Str)) = false := by decide) : PE X (.Name x pos) (tC (.str i)) := by
  obtain ⟨tk, e⟩ := hm
  exact pe_glob hg e ⟨tk, rfl⟩ hd
end K10
namespace K10
open PySem L2

open K1 K2 K3 K6 K8
def Nn (xs : List Int) : Prop := ∀ x ∈ xs, 0 ≤ x
def spShared : Sp := fun vs H Q _ => ∃ (a b : Int), vs = [.int a, .int b] ∧ 0 ≤ a ∧ 0 ≤ b ∧ Q (.int (gI a b)) H
def spField (K : PySem.W.Frag) : Sp := fun vs H Q _ => ∃ (p C dx : Addr) (v : V), vs = [.ref p, v] ∧ H p = some (.ins C dx []) ∧ Cls K C ∧ NoAttr K C "prime" ∧ Q .non (upd H p (.ins C dx [("prime", v)]))
def spFracInit (CF : Addr) : Sp := fun vs H Q _ => ∃ (p dx : Addr), vs = [.ref p] ∧ H p = some (.ins CF dx []) ∧ Q .non (upd H p (.ins CF dx [("prime", .int 0)]))
def cellOf (ns : List Int) (k : Int) : Int := ns.getD k.toNat 0
def spCell (K : PySem.W.Frag) : Sp := fun vs H Q _ => ∃ (a : Addr) (ns : List Int) (k : Int), vs = [.ref a, .int k] ∧ SqL K H a (ns.map V.int) ∧ 0 ≤ k ∧ Q (.int (cellOf ns k)) H
theorem atI_int {ns : List Int} {k : Int} (h0 : 0 ≤ k) (h : k < (ns.length : Int)) : atI (ns.map V.int) k = some (.int (cellOf ns k)) := by
  have hk : k.toNat < ns.length := by omega
  have ek : k = ((k.toNat : Nat) : Int) := by omega
  have q : atI (ns.map V.int) ((k.toNat : Nat) : Int) = some (.int ns[k.toNat]) := atI_nat (by rw [List.getElem?_map, List.getElem?_eq_getElem hk] <;> rfl)
  rw [← ek] at q
  rw [q]
  unfold cellOf
  rw [List.getD_eq_getElem?_getD, List.getElem?_eq_getElem hk]; rfl
def spLShared : Sp := fun vs H Q _ => ∃ (a b : Int), vs = [.int a, .int b] ∧ Q (.int (gI a b)) H
def spPrime : Sp := fun vs H Q _ => ∃ (n : Int), vs = [.int n] ∧ n ≤ 9973 ∧ Q (.bl (isP n)) H
def spRests (CR NP : Addr) : Sp := fun vs H Q E => ∃ (p dx : Addr) (n : Int), vs = [.ref p, .int n] ∧ H p = some (.ins CR dx []) ∧
  ((n ≤ 9973 ∧ isP n = true ∧ Q .non (upd H p (.ins CR dx [("prime", .int n)]))) ∨ ((9973 < n ∨ isP n = false) ∧ E (.ref NP) none H))
theorem sq_small {d n : Int} (h2 : 2 ≤ d) (h : d ≤ 101) : -(2 ^ 64) < d ∧ d < 2 ^ 64 := by omega

/-- a fraction's parts -/
structure Nm (x y : Int) : Prop where
  pos : 1 ≤ y
  bx : x.natAbs < 2 ^ 400
  bz : y.natAbs < 2 ^ 400
  cop : gI x y = 1
theorem up {n a b : Nat} (h : n < 2 ^ a) (hab : a ≤ b) : n < 2 ^ b := Nat.lt_of_lt_of_le h (Nat.pow_le_pow_right (by decide) hab)
theorem mul_up {x y : Int} {a b : Nat} (h : x.natAbs < 2 ^ a) (h' : y.natAbs < 2 ^ b) : (x * y).natAbs < 2 ^ (a + b) := by
  rw [Int.natAbs_mul, Nat.pow_add]
  exact Nat.mul_lt_mul'' h h'
theorem add_up {x y : Int} {a : Nat} (h : x.natAbs < 2 ^ a) (h' : y.natAbs < 2 ^ a) : (x + y).natAbs < 2 ^ (a + 1) := by
  have := Int.natAbs_add_le x y
  rw [Nat.pow_succ]; omega
theorem Nm.mul {x y z t : Int} (h : Nm x y) (h' : Nm z t) : CMulB x z ∧ CMulB x t ∧ CMulB y t ∧ CMulB z y ∧ CMulB y z :=
  ⟨⟨up h.bx (by decide), up h'.bx (by decide)⟩, ⟨up h.bx (by decide), up h'.bz (by decide)⟩, ⟨up h.bz (by decide), up h'.bz (by decide)⟩, ⟨up h'.bx (by decide), up h.bz (by decide)⟩, ⟨up h.bz (by decide), up h'.bx (by decide)⟩⟩
def NumF (CF : Addr) (H : Hp) (p dx : Addr) : Prop := H p = some (.ins CF dx [("prime", .int 0)])
def Pair (H : Hp) (r : Addr) (x y : Int) : Prop := H r = some (.tup [.int x, .int y])
/-- of two fractions a third one, as made of t over b -/
def spBinF (CF : Addr) (t b : Int → Int → Int → Int → Int) : Sp := fun vs H Q _ => ∃ (p dx ra rb : Addr) (x y z w : Int), vs = [.ref p, .ref ra, .ref rb] ∧ NumF CF H p dx ∧ Pair H ra x y ∧ Pair H rb z w ∧ Nm x y ∧ Nm z w ∧
  ∀ r H', Same H H' → Pair H' r (fT (t x y z w) (b x y z w)) (fB (t x y z w) (b x y z w)) → Q (.ref r) H'
def spAgF : Sp := fun vs H Q _ => ∃ (p : V) (ra : Addr) (x y : Int), vs = [p, .ref ra] ∧ Pair H ra x y ∧ ∀ r H', Same H H' → Pair H' r (-x) y → Q (.ref r) H'
theorem gI_abs1 (a b : Int) : gI (if a < 0 then -a else a) b = gI a b := gI_ab a b
theorem gI_neg (a b : Int) : gI (-a) b = gI a b := by unfold gI; rw [Int.neg_gcd]
theorem gI_bd {a b : Int} {n : Nat} (hb : b ≠ 0) (h : b.natAbs < n) : gI a b ≠ 0 ∧ (gI a b).natAbs < n := by
  have := gI_pos (a := a) hb
  refine ⟨by omega, Nat.lt_of_le_of_lt ?_ h⟩
  unfold gI
  rw [Int.natAbs_natCast]
  exact Nat.le_of_dvd (by omega) (Nat.gcd_dvd_right _ _)
theorem fdl {a b : Int} {n : Nat} (hb : b ≠ 0) (h : a.natAbs < n) : (Int.fdiv a (gI a b)).natAbs < n := by
  have := gI_pos (a := a) hb
  exact Nat.lt_of_le_of_lt (fd_le (gI_dvd_l a b) (by omega)) h
theorem fdr {a b : Int} {n : Nat} (hb : b ≠ 0) (h : b.natAbs < n) : (Int.fdiv b (gI a b)).natAbs < n := by
  have := gI_pos (a := a) hb
  exact Nat.lt_of_le_of_lt (fd_le (gI_dvd_r a b) (by omega)) h
def NumR (CR : Addr) (H : Hp) (p dx : Addr) (n : Int) : Prop := H p = some (.ins CR dx [("prime", .int n)]) ∧ Pr n ∧ n ≤ 9973
theorem no_R (m : Str) (n : Int) (h : ¬ m = "prime") : ([("prime", V.int n)] : List (Str × V)).lookup m = none := by
  have e : (m == (Str.ofString "prime")) = false := by
    cases q : (m == (Str.ofString "prime")) with
    | true => exact absurd (eq_of_beq q) h
    | false => rfl
  simp only [List.lookup, e]
def In (n a : Int) : Prop := 0 ≤ a ∧ a < n
def spC (v : V) : Sp := fun vs H Q _ => ∃ (p : V), vs = [p] ∧ Q v H
/-- of two rests a third one -/
def spBinR (CR : Addr) (g : Int → Int → Int → Int) : Sp := fun vs H Q _ => ∃ (p dx : Addr) (n a b : Int), vs = [.ref p, .int a, .int b] ∧ NumR CR H p dx n ∧ In n a ∧ In n b ∧ Q (.int (g n a b)) H
def spAgR (CR : Addr) : Sp := fun vs H Q _ => ∃ (p dx : Addr) (n a : Int), vs = [.ref p, .int a] ∧ NumR CR H p dx n ∧ In n a ∧ Q (.int (-a % n)) H

def spLPr : Sp := fun vs H Q _ => ∃ (c : Int), vs = [.int c] ∧ ∀ n : Int, isP n = true → n ≤ 9973 → Q (.int n) H
def spPair (x y : Int) : Sp := fun vs H Q _ => ∃ (p : V), vs = [p] ∧ ∀ r H', Same H H' → H' r = some (.tup [.int x, .int y]) → Q (.ref r) H'
def AtO (C : Addr) (H : Hp) (p : Addr) : Prop := ∃ dx, H p = some (.ins C dx [])
def spFits (At : Hp → Addr → Prop) (b : Int → Bool) : Sp := fun vs H Q _ => ∃ (p : Addr) (k : Int), vs = [.ref p, .int k] ∧ At H p ∧ ∀ H', Same H H' → Q (.bl (b k)) H'
theorem seq_mid {a r : TS} {D : Ends} {σ : St} {H : Hp} (R : St → Hp → Prop) (hu : ∀ σ' H', R σ' H' → r D σ' H') (hc : ∀ N : St → Hp → Prop, (∀ σ' H', R σ' H' → N σ' H') → a { D with nx := N } σ H) : tSeq a r D σ H := by
  unfold tSeq
  exact hc _ hu
def AtF (CF : Addr) (H : Hp) (p : Addr) : Prop := ∃ dx, H p = some (.ins CF dx [("prime", .int 0)])
def AtR (CR : Addr) (n : Int) (H : Hp) (p : Addr) : Prop := ∃ dx, NumR CR H p dx n
theorem no_P (m : Str) (n : Int) (h : ¬ m = "prime") : ([("prime", V.int n)] : List (Str × V)).lookup m = none := no_R m n h
/-- n = 0: the fractions -/
def AtN (CF CR : Addr) (n : Int) : Hp → Addr → Prop := if n = 0 then AtF CF else AtR CR n
/-- the ring's object -/
def RgO (CG : Addr) (dx : Addr) (m : Int) (pf po : Addr) : HO := .ins CG dx [("many", .int m), ("field", .ref pf), ("order", .ref po)]
def RgAt (CG : Addr) (H : Hp) (r : Addr) (m : Int) (pf po : Addr) : Prop := ∃ dx, H r = some (RgO CG dx m pf po)

def SmN (n T B : Int) : Prop := n = 0 → T.natAbs < 2 ^ 400 ∧ B.natAbs < 2 ^ 400
def spPl (n : Int) (At : Hp → Addr → Prop) : Sp := fun vs H Q _ => ∃ (p : Addr) (v1 v2 : V) (T1 B1 T2 B2 : Int), vs = [.ref p, v1, v2] ∧ At H p ∧ Is n H v1 T1 B1 ∧ Is n H v2 T2 B2 ∧ ¬ zr n B1 ∧ ¬ zr n B2 ∧ SmN n T1 B1 ∧ SmN n T2 B2 ∧ ∀ v H', Same H H' → Is n H' v (T1 * B2 + T2 * B1) (B1 * B2) → Q v H'
def spTi (n : Int) (At : Hp → Addr → Prop) : Sp := fun vs H Q _ => ∃ (p : Addr) (v1 v2 : V) (T1 B1 T2 B2 : Int), vs = [.ref p, v1, v2] ∧ At H p ∧ Is n H v1 T1 B1 ∧ Is n H v2 T2 B2 ∧ ¬ zr n B1 ∧ ¬ zr n B2 ∧ SmN n T1 B1 ∧ SmN n T2 B2 ∧ ∀ v H', Same H H' → Is n H' v (T1 * T2) (B1 * B2) → Q v H'
def spNo (c n : Int) (At : Hp → Addr → Prop) : Sp := fun vs H Q _ => ∃ (p : Addr), vs = [.ref p] ∧ At H p ∧ ∀ v H', Same H H' → Is n H' v c 1 → Q v H'
def spAg (n : Int) (At : Hp → Addr → Prop) : Sp := fun vs H Q _ => ∃ (p : Addr) (v : V) (T B : Int), vs = [.ref p, v] ∧ At H p ∧ Is n H v T B ∧ ∀ v' H', Same H H' → Is n H' v' (-T) B → Q v' H'
structure FldQ (P : Program) (w : World) (K : PySem.W.Frag) (mg : Str → Option Value) (base : Heap) (C : Addr) (At : Hp → Addr → Prop) (n : Int) : Prop where
  same : ∀ {H H' : Hp} {p : Addr}, (∀ b o, H b = some o → (∃ C' dx fs, o = .ins C' dx fs) → H' b = some o) → At H p → At H' p
  ins : ∀ {H : Hp} {p : Addr}, At H p → ∃ dx, H p = some (.ins C dx [("prime", .int n)])
  nought : MCal P w K mg base CX0 1 C "nought" ["self"] [] (spNo 0 n At)
  one : MCal P w K mg base CX0 1 C "one" ["self"] [] (spNo 1 n At)
  plus : MCal P w K mg base CX0 3 C "plus" ["self", "a", "b"] [] (spPl n At)
  times : MCal P w K mg base CX0 3 C "times" ["self", "a", "b"] [] (spTi n At)
  against : MCal P w K mg base CX0 1 C "against" ["self", "a"] [] (spAg n At)
theorem FldQ.sm {P : Program} {w : World} {K : PySem.W.Frag} {mg : Str → Option Value} {base : Heap} {C : Addr} {At : Hp → Addr → Prop} {n : Int} (B : FldQ P w K mg base C At n) {H H' : Hp} {p : Addr} (e : Same H H') (h : At H p) : At H' p := B.same (fun b o q _ => e b o q) h
/-- a ring as it is handed about -/
structure RgK (CG CF CR : Addr) (H : Hp) (r : Addr) (m : Nat) (pf : Addr) (n : Int) : Prop where
  nb : n ≤ 9973
  np : n = 0 ∨ Pr n
  m1 : 1 ≤ m
  m4 : m ≤ 4
  at_ : ∃ po, RgAt CG H r m pf po
  fd : AtN CF CR n H pf
theorem atN_keep {CF CR : Addr} {n : Int} {H H' : Hp} {p : Addr} (k : ∀ b o, H b = some o → (∃ C' dx fs, o = .ins C' dx fs) → H' b = some o) (h : AtN CF CR n H p) : AtN CF CR n H' p := by
  by_cases z : n = 0
  · subst z
    have e : AtN CF CR 0 = AtF CF := if_pos rfl
    rw [e] at h ⊢
    obtain ⟨dx, q⟩ := h
    exact ⟨dx, k _ _ q ⟨_, _, _, rfl⟩⟩
  · have e : AtN CF CR n = AtR CR n := if_neg z
    rw [e] at h ⊢
    obtain ⟨dx, q⟩ := h
    exact ⟨dx, k _ _ q.1 ⟨_, _, _, rfl⟩, q.2⟩
theorem RgK.keep {CG CF CR : Addr} {H H' : Hp} {r : Addr} {m : Nat} {pf : Addr} {n : Int} (h : RgK CG CF CR H r m pf n) (k : ∀ b o, H b = some o → (∃ C' dx fs, o = .ins C' dx fs) → H' b = some o) : RgK CG CF CR H' r m pf n := by
  obtain ⟨po, dx, q⟩ := h.at_
  exact ⟨h.nb, h.np, h.m1, h.m4, ⟨po, dx, k _ _ q ⟨_, _, _, rfl⟩⟩, atN_keep k h.fd⟩
theorem RgK.same {CG CF CR : Addr} {H H' : Hp} {r : Addr} {m : Nat} {pf : Addr} {n : Int} (h : RgK CG CF CR H r m pf n) (e : Same H H') : RgK CG CF CR H' r m pf n := h.keep fun b o q _ => e b o q
/-- all but one stays -/
def But (d : Addr) (H H' : Hp) : Prop := ∀ b o, H b = some o → b ≠ d → H' b = some o
def Bdd (n : Int) (T : Tm → Int) (M : Nat) : Prop := n = 0 → ∀ t, (T t).natAbs < 2 ^ M
/-- absorb -/
def spAbs (CG CF CR : Addr) : Sp := fun vs H Q _ => ∃ (r d e : Addr) (m : Nat) (pf : Addr) (n : Int) (kvs fvs : List (List Key × V)) (T1 T2 : Tm → Int) (D : Int), vs = [.ref r, .ref d, .ref e] ∧ RgK CG CF CR H r m pf n ∧ d ≠ e ∧ H d = some (.dT kvs) ∧ H e = some (.dT fvs) ∧
  PD n m H kvs T1 D ∧ PD n m H fvs T2 D ∧ kvs.length + fvs.length < sizeLine ∧ Bdd n T1 400 ∧ Bdd n T2 400 ∧ (n = 0 → D.natAbs < 2 ^ 400) ∧
  ∀ H' kvs', But d H H' → H' d = some (.dT kvs') → PD n m H' kvs' (fun k => T1 k + T2 k) D → kvs'.length ≤ kvs.length + fvs.length → Q .non H'

def spProd (K : PySem.W.Frag) : Sp := fun vs H Q _ => ∃ (a b : Addr) (xs ys : Tm), vs = [.ref a, .ref b] ∧ SqT K H a (xs.map V.int) ∧ SqT K H b (ys.map V.int) ∧ xs.length ≤ 1000 ∧ ∀ r H', Same H H' → H' r = some (.tup ((addT xs ys).map V.int)) → Q (.ref r) H'

def spScal (CG CF CR : Addr) : Sp := fun vs H Q _ => ∃ (r : Addr) (v : V) (t e : Addr) (m : Nat) (pf : Addr) (n : Int) (fvs : List (List Key × V)) (a D1 : Int) (l : Tm) (T : Tm → Int) (D : Int), vs = [.ref r, v, .ref t, .ref e] ∧ RgK CG CF CR H r m pf n ∧
  Is n H v a D1 ∧ ¬ zr n D1 ∧ SmN n a D1 ∧ H t = some (.tup (l.map V.int)) ∧ TmOk m l ∧ H e = some (.dT fvs) ∧ PD n m H fvs T D ∧ Bdd n T 400 ∧ (n = 0 → D.natAbs < 2 ^ 400) ∧ fvs.length < sizeLine ∧
  ∀ d H' kvs, H d = none → Same H H' → H' d = some (.dT kvs) → PD n m H' kvs (fun k => a * shT l T k) (D1 * D) → kvs.length ≤ fvs.length → Q (.ref d) H'
theorem add_inj {m : Nat} {l a b : Tm} (hl : TmOk m l) (ha : TmOk m a) (hb : TmOk m b) (e : addT l a = addT l b) : a = b := by
  have h1 := sub_add (ha.1.trans hl.1.symm)
  have h2 := sub_add (hb.1.trans hl.1.symm)
  rw [← h1, ← h2, e]
theorem nd_map_on {α β : Type} {f : α → β} : ∀ {l : List α}, l.Nodup → (∀ a ∈ l, ∀ b ∈ l, f a = f b → a = b) → (l.map f).Nodup
  | [], _, _ => List.nodup_nil
  | a :: l, h, hi => by
    rw [List.nodup_cons] at h
    rw [List.map_cons, List.nodup_cons]
    refine ⟨fun z => ?_, nd_map_on h.2 fun x hx y hy => hi x (by simp [hx]) y (by simp [hy])⟩
    obtain ⟨b, hb, e⟩ := List.mem_map.mp z
    exact h.1 (hi a (by simp) b (by simp [hb]) e.symm ▸ hb)
theorem zr_zero (n : Int) : zr n 0 := zr_iff.mpr ⟨0, by simp⟩
theorem lt_of_get {α : Type} {l : List α} {i : Nat} {a : α} (h : l[i]? = some a) : i < l.length := by
  rcases Nat.lt_or_ge i l.length with q | q
  · exact q
  · rw [List.getElem?_eq_none q] at h; cases h

def spNeg (CG CF CR : Addr) : Sp := fun vs H Q _ => ∃ (r e : Addr) (m : Nat) (pf : Addr) (n : Int) (fvs : List (List Key × V)) (T : Tm → Int) (D : Int), vs = [.ref r, .ref e] ∧ RgK CG CF CR H r m pf n ∧ H e = some (.dT fvs) ∧ PD n m H fvs T D ∧ fvs.length < sizeLine ∧
  ∀ d H' kvs, H d = none → Same H H' → H' d = some (.dT kvs) → PD n m H' kvs (fun k => - T k) D → kvs.length ≤ fvs.length → Q (.ref d) H'
theorem zr_neg {n a : Int} : zr n (-a) ↔ zr n a := by
  rw [zr_iff, zr_iff]
  constructor
  · rintro ⟨k, h⟩; exact ⟨-k, by grind⟩
  · rintro ⟨k, h⟩; exact ⟨-k, by grind⟩

def spPlus (CG CF CR : Addr) : Sp := fun vs H Q _ => ∃ (r e1 e2 : Addr) (m : Nat) (pf : Addr) (n : Int) (fvs gvs : List (List Key × V)) (T1 T2 : Tm → Int) (D : Int), vs = [.ref r, .ref e1, .ref e2] ∧ RgK CG CF CR H r m pf n ∧ H e1 = some (.dT fvs) ∧ H e2 = some (.dT gvs) ∧
  PD n m H fvs T1 D ∧ PD n m H gvs T2 D ∧ HDs fvs ∧ fvs.length + gvs.length < sizeLine ∧ Bdd n T1 400 ∧ Bdd n T2 400 ∧ (n = 0 → D.natAbs < 2 ^ 400) ∧
  ∀ d H' kvs, H d = none → Same H H' → H' d = some (.dT kvs) → PD n m H' kvs (fun k => T1 k + T2 k) D → kvs.length ≤ fvs.length + gvs.length → Q (.ref d) H'
theorem Bdd.neg {n : Int} {T : Tm → Int} {M : Nat} (h : Bdd n T M) : Bdd n (fun k => - T k) M := fun z t => by rw [Int.natAbs_neg]; exact h z t

def spMinus (CG CF CR : Addr) : Sp := fun vs H Q _ => ∃ (r e1 e2 : Addr) (m : Nat) (pf : Addr) (n : Int) (fvs gvs : List (List Key × V)) (T1 T2 : Tm → Int) (D : Int), vs = [.ref r, .ref e1, .ref e2] ∧ RgK CG CF CR H r m pf n ∧ H e1 = some (.dT fvs) ∧ H e2 = some (.dT gvs) ∧
  PD n m H fvs T1 D ∧ PD n m H gvs T2 D ∧ HDs fvs ∧ fvs.length + gvs.length < sizeLine ∧ Bdd n T1 400 ∧ Bdd n T2 400 ∧ (n = 0 → D.natAbs < 2 ^ 400) ∧
  ∀ d H' kvs, H d = none → Same H H' → H' d = some (.dT kvs) → PD n m H' kvs (fun k => T1 k + - T2 k) D → kvs.length ≤ fvs.length + gvs.length → Q (.ref d) H'
def spTimes (CG CF CR : Addr) : Sp := fun vs H Q _ => ∃ (r e1 e2 : Addr) (m : Nat) (pf : Addr) (n : Int) (fvs gvs : List (List Key × V)) (T1 : Tm → Int) (D1 : Int) (T2 : Tm → Int) (D2 : Int), vs = [.ref r, .ref e1, .ref e2] ∧ RgK CG CF CR H r m pf n ∧ e1 ≠ e2 ∧ H e1 = some (.dT fvs) ∧ H e2 = some (.dT gvs) ∧
  PD n m H fvs T1 D1 ∧ PD n m H gvs T2 D2 ∧ fvs.length ≤ 64 ∧ gvs.length ≤ 64 ∧ Bdd n T1 100 ∧ Bdd n T2 100 ∧ (n = 0 → D1.natAbs < 2 ^ 100) ∧ (n = 0 → D2.natAbs < 2 ^ 100) ∧
  ∀ d H' kvs, H d = none → Same H H' → H' d = some (.dT kvs) → PD n m H' kvs (cv T1 (tks fvs) T2) (D1 * D2) → kvs.length ≤ fvs.length * gvs.length → Q (.ref d) H'
theorem shT_bd {n : Int} {T : Tm → Int} {M : Nat} (l : Tm) (h : Bdd n T M) : Bdd n (shT l T) M := fun z t => by
  unfold shT; split
  · exact h z _
  · exact Nat.pow_pos (by decide)
theorem cv_bd {n : Int} {T1 T2 : Tm → Int} (h1 : Bdd n T1 100) (h2 : Bdd n T2 100) (z : n = 0) (t : Tm) : ∀ ls : List Tm, (cv T1 ls T2 t).natAbs ≤ ls.length * 2 ^ 200
  | [] => by rw [cv_nil]; exact Nat.zero_le _
  | l :: ls => by
    rw [cv_cons]
    have i := cv_bd h1 h2 z t ls
    have a : (T1 l * shT l T2 t).natAbs < 2 ^ (100 + 100) := mul_up (h1 z l) (shT_bd l h2 z t)
    have := Int.natAbs_add_le (T1 l * shT l T2 t) (cv T1 ls T2 t)
    rw [List.length_cons, Nat.succ_mul]
    omega
theorem bdd_up {n : Int} {T : Tm → Int} {a b : Nat} (h : Bdd n T a) (hab : a ≤ b) : Bdd n T b := fun z t => up (h z t) hab
theorem cv_bdd {n : Int} {T1 T2 : Tm → Int} (h1 : Bdd n T1 100) (h2 : Bdd n T2 100) {ls : List Tm} (hl : ls.length ≤ 64) : Bdd n (cv T1 ls T2) 208 := fun z t => by
  have := cv_bd h1 h2 z t ls
  have : ls.length * 2 ^ 200 ≤ 64 * 2 ^ 200 := Nat.mul_le_mul_right _ hl
  have : 64 * 2 ^ 200 < 2 ^ 208 := by decide
  omega


theorem at_last {α : Type} {xs : List α} (h : 0 < xs.length) : ∃ u, atI xs (-1) = some u ∧ xs[xs.length - 1]? = some u := by
  have hl : xs.length - 1 < xs.length := by omega
  refine ⟨xs[xs.length - 1], ?_, List.getElem?_eq_getElem hl⟩
  unfold atI ixN
  rw [if_neg (by decide), if_pos (by omega)]
  have : (-1 + (xs.length : Int)).toNat = xs.length - 1 := by omega
  simp [this, hl]

/-- a comprehension's turns -/
def CGo (J : It) (H1 : Hp) (D : Addr) (g : TG) (tc : TT) (te : TE) (σ0 : St) (Q : VK) : Prop := ∃ W : Nat → Nat → List V → St → Hp → Prop, (∃ m, W 0 m [] σ0 (upd H1 D (.lst []))) ∧ ∀ i m ys σ' H', W i m ys σ' H' → H' D = some (.lst ys) ∧
    ((J.stop i H' ∧ Q (.ref D) H') ∨ (J.go i H' ∧ ys.length < sizeLine ∧ ∀ x H2, J.yld i H' x H2 → g x σ' H2 fun σ2 H3 => tc σ2 H3 fun b H4 =>
      if b = true then te σ2 H4 fun v H5 => H5 D = some (.lst ys) ∧ ∃ m', m' < m ∧ W (i + 1) m' (ys ++ [v]) σ2 (upd H5 D (.lst (ys ++ [v])))
      else ∃ m', m' < m ∧ W (i + 1) m' ys σ2 H4))
theorem tComp_eq {mp : List (Option Nat)} {wi : TI} {g : TG} {tc : TT} {te : TE} {σ : St} {H : Hp} {Q : VK} (h : wi σ H fun J H1 => ∀ D, H1 D = none → CGo J H1 D g tc te (st0 mp σ) Q) : tComp mp wi g tc te σ H Q := by unfold tComp; exact h

def dB (n b : Int) : Int := if n = 0 then b else 1
theorem dB_0 (b : Int) : dB 0 b = b := if_pos rfl
theorem dB_one (n : Int) : dB n 1 = 1 := by unfold dB; split <;> rfl
theorem dB_n {n b : Int} (h : n ≠ 0) : dB n b = 1 := if_neg h
def spMd : Sp := fun vs H Q _ => ∃ (t b n : Int), vs = [.int t, .int b, .int n] ∧ (n = 0 ∨ Pr n) ∧ 1 ≤ b ∧ t.natAbs < 2 ^ 400 ∧ b.natAbs < 2 ^ 400 ∧ ∀ v H', Same H H' → Is n H' v t (dB n b) → Q v H'

theorem PD.set {n : Int} {m : Nat} {H : Hp} {kvs : List (List Key × V)} {T : Tm → Int} {D : Int} (h : PD n m H kvs T D) {x : Tm} (hx : TmOk m x) {v : V} {a : Int} (iv : Is n H v a D) (nz : ¬ zr n a) : PD n m H (putK kvs (ky x) v) (fun t => if t = x then a else T t) D := by
  refine ⟨⟨ks_put h.pr.ks, nd_put h.pr.nd, fun _ => h.nz, fun t z => ?_, fun t u z => ?_⟩, h.ko.put hx⟩
  · rw [valV_put] at z
    by_cases q : t = x
    · subst q; rw [if_pos rfl] at z; cases z
    · rw [if_neg (fun e => q (ky_inj e))] at z
      show zr n (if t = x then a else T t)
      rw [if_neg q]; exact h.pr.no _ z
  · rw [valV_put] at z
    show Is n H u (if t = x then a else T t) D ∧ ¬ zr n (if t = x then a else T t)
    by_cases q : t = x
    · subst q; rw [if_pos rfl] at z; cases z
      rw [if_pos rfl]; exact ⟨iv, nz⟩
    · rw [if_neg (fun e => q (ky_inj e))] at z
      rw [if_neg q]; exact h.pr.at_ _ _ z
def box : Nat → List Tm
  | 0 => [[]]
  | m + 1 => (box m).flatMap fun t => [0 :: t, 1 :: t, 2 :: t]
theorem mem_box : ∀ {m : Nat} {t : Tm}, TmOk m t → (∀ x ∈ t, x ≤ 2) → t ∈ box m
  | 0, t, h, _ => by have := List.length_eq_zero_iff.mp h.1; subst this; simp [box]
  | m + 1, [], h, _ => by have := h.1; simp at this
  | m + 1, x :: t, h, h2 => by
    have i := mem_box (m := m) (t := t) ⟨by have := h.1; simpa using this, fun y hy => h.2 y (by simp [hy])⟩ fun y hy => h2 y (by simp [hy])
    have x0 := h.2 x (by simp)
    have x2 := h2 x (by simp)
    unfold box
    rw [List.mem_flatMap]
    refine ⟨t, i, ?_⟩
    rcases (by omega : x = 0 ∨ x = 1 ∨ x = 2) with rfl | rfl | rfl <;> simp
theorem len_le_of_nd : ∀ {ts U : List Tm}, ts.Nodup → (∀ t ∈ ts, t ∈ U) → ts.length ≤ U.length
  | [], _, _, _ => Nat.zero_le _
  | t :: ts, U, h1, h2 => by
    rw [List.nodup_cons] at h1
    have i := len_le_of_nd (U := U.erase t) h1.2 fun u hu => (List.mem_erase_of_ne (fun (e : u = t) => h1.1 (e ▸ hu))).mpr (h2 u (by simp [hu]))
    have := List.length_erase_of_mem (h2 t (by simp))
    have : 0 < U.length := List.length_pos_of_mem (h2 t (by simp))
    rw [List.length_cons]; omega

section
variable {n : Int} {m : Nat} {H : Hp} {kvs fvs gvs : List (List Key × V)} {T T1 T2 : Tm → Int} {D D1 D2 : Int}
theorem PD.nzt (h : PD n m H kvs T D) {t : Tm} (ht : t ∈ tks kvs) : ¬ zr n (T t) := by
  have := h.ko.mem.mp ht
  obtain ⟨v, hv⟩ := Option.isSome_iff_exists.mp this
  exact (h.pr.at_ t v hv).2
theorem zr_add {a b : Int} (ha : zr n a) (hb : zr n b) : zr n (a + b) := by
  obtain ⟨k, e⟩ := zr_iff.mp ha; obtain ⟨l, e'⟩ := zr_iff.mp hb; exact zr_iff.mpr ⟨k + l, by grind⟩
theorem cv_supp {us : List Tm} (z2 : ∀ u, u ∉ us → zr n (T2 u)) {t : Tm} : ∀ {ls : List Tm}, ¬ zr n (cv T1 ls T2 t) → ∃ l ∈ ls, ∃ u ∈ us, t = addT l u
  | [], h => absurd (by rw [cv_nil]; exact zr_zero n) h
  | l :: ls, h => by
    rw [cv_cons] at h
    by_cases c : zr n (cv T1 ls T2 t)
    · have q : ¬ zr n (shT l T2 t) := fun z => h (zr_add (by rw [Int.mul_comm]; exact zr_mul z) c)
      unfold shT at q
      by_cases e : t.length = l.length
      · rw [if_pos e] at q
        refine ⟨l, by simp, subT t l, Classical.byContradiction fun z => q (z2 _ z), (add_sub e).symm⟩
      · rw [if_neg e] at q; exact absurd (zr_zero n) q
    · obtain ⟨l', h1, u, h2, h3⟩ := cv_supp z2 c
      exact ⟨l', by simp [h1], u, h2, h3⟩
theorem cv_bd2 {a b : Nat} (h1 : Bdd n T1 a) (h2 : Bdd n T2 b) (z : n = 0) (t : Tm) : ∀ ls : List Tm, (cv T1 ls T2 t).natAbs ≤ ls.length * 2 ^ (a + b)
  | [] => by rw [cv_nil]; exact Nat.zero_le _
  | l :: ls => by
    rw [cv_cons]
    have i := cv_bd2 h1 h2 z t ls
    have q : (T1 l * shT l T2 t).natAbs < 2 ^ (a + b) := mul_up (h1 z l) (shT_bd l h2 z t)
    have := Int.natAbs_add_le (T1 l * shT l T2 t) (cv T1 ls T2 t)
    rw [List.length_cons, Nat.succ_mul]
    omega
end
def spLaw (K : PySem.W.Frag) : Sp := fun vs H Q _ => ∃ (a : Addr) (ns : List Int), vs = [.ref a] ∧ SqL K H a (ns.map V.int) ∧ ns.length ≤ 63 ∧ ∀ H', Q (.bl true) H'
theorem len_xyzt : ((("xyzt" : Str).length : Nat) : Int) = 4 := by decide +kernel
theorem cut_map (ns : List Int) (lo hi : Option Int) : ∃ ms : List Int, cutV (ns.map V.int) lo hi = ms.map V.int ∧ ms.length ≤ ns.length := by
  refine ⟨(ns.drop (HT.sIx ns.length 0 lo)).take (HT.sIx ns.length ns.length hi - HT.sIx ns.length 0 lo), ?_, ?_⟩
  · unfold cutV
    rw [List.length_map, List.map_take, List.map_drop]
  · rw [List.length_take, List.length_drop]; omega

theorem zeros_ok (m : Nat) : TmOk m (List.replicate m 0) := ⟨by simp, fun x hx => by rw [(List.mem_replicate.mp hx).2]; exact Int.le_refl 0⟩
theorem times_F {x y z w T1 B1 T2 B2 : Int} (hy : 1 ≤ y) (hw : 1 ≤ w) (e1 : x * B1 = T1 * y) (e2 : z * B2 = T2 * w) : fT (x * z) (y * w) * (B1 * B2) = (T1 * T2) * fB (x * z) (y * w) := by
  have hb : y * w ≠ 0 := by intro q; rcases Int.mul_eq_zero.mp q with q | q <;> omega
  have c := f_cross (t := x * z) hb
  generalize fT (x * z) (y * w) = p at *
  generalize fB (x * z) (y * w) = q at *
  refine Int.eq_of_mul_eq_mul_right hb ?_
  have h : p * (B1 * B2) * (y * w) = (p * (y * w)) * (B1 * B2) := by grind
  rw [h, c]
  have h2 : x * z * q * (B1 * B2) = (x * B1) * (z * B2) * q := by grind
  rw [h2, e1, e2]; grind
theorem times_R {n a b T1 B1 T2 B2 : Int} (e1 : (a * B1 - T1) % n = 0) (e2 : (b * B2 - T2) % n = 0) : (a * b % n * (B1 * B2) - T1 * T2) % n = 0 := by
  obtain ⟨k1, h1⟩ := of_z e1
  obtain ⟨k2, h2⟩ := of_z e2
  obtain ⟨q, hq⟩ := md (a * b) n
  refine z_of (q * (B1 * B2) + k1 * (b * B2) + T1 * k2) ?_
  rw [hq]
  grind
theorem against_R {n a T B : Int} (e : (a * B - T) % n = 0) : (-a % n * B - -T) % n = 0 := by
  obtain ⟨k1, h1⟩ := of_z e
  obtain ⟨q, hq⟩ := md (-a) n
  refine z_of (q * B - k1) ?_
  rw [hq]
  grind
theorem imp_no0 {c : Int} {At : Hp → Addr → Prop} : ∀ vs H Q E, spNo c 0 At vs H Q E → spPair c 1 vs H Q E := fun _ _ _ _ ⟨p, e, _, k⟩ => ⟨.ref p, e, fun r _ e' h => k _ _ e' (is_0.mpr ⟨r, c, 1, rfl, h, by decide, gI_one c, rfl⟩)⟩
theorem imp_noR {c n : Int} (hn : Pr n) (c0 : 0 ≤ c) (c1 : c ≤ 1) {At : Hp → Addr → Prop} : ∀ vs H Q E, spNo c n At vs H Q E → spC (.int c) vs H Q E := fun _ _ _ _ ⟨p, e, _, k⟩ =>
  ⟨.ref p, e, k _ _ (Same.refl _) ((is_n (pr_ne hn)).mpr ⟨c, rfl, c0, by have := hn.1; omega, by simp⟩)⟩
theorem imp_pl0 {CF : Addr} : ∀ vs H Q E, spPl 0 (AtF CF) vs H Q E → spBinF CF (fun x y z w => x * w + z * y) (fun x y z w => y * w) vs H Q E := fun _ _ _ _ ⟨p, v1, v2, T1, B1, T2, B2, e, ⟨dx, ha⟩, i1, i2, z1, z2, s1, s2, k⟩ => by
  obtain ⟨r1, x, y, rfl, h1, hy, c1, q1⟩ := is_0.mp i1
  obtain ⟨r2, z, w, rfl, h2, hw, c2, q2⟩ := is_0.mp i2
  rw [zr_0] at z1 z2
  obtain ⟨a1, a2⟩ := cop_le hy c1 z1 q1
  obtain ⟨a3, a4⟩ := cop_le hw c2 z2 q2
  refine ⟨p, dx, r1, r2, x, y, z, w, e, ha, h1, h2, ⟨hy, Nat.lt_of_le_of_lt a1 (s1 rfl).1, Nat.lt_of_le_of_lt a2 (s1 rfl).2, c1⟩, ⟨hw, Nat.lt_of_le_of_lt a3 (s2 rfl).1, Nat.lt_of_le_of_lt a4 (s2 rfl).2, c2⟩, fun r H' e' h => k _ _ e' (is_0.mpr ⟨r, _, _, rfl, h, ?_, ?_, plus_F hy hw q1 q2⟩)⟩
  · exact fB_pos (by intro q; rcases Int.mul_eq_zero.mp q with q | q <;> omega)
  · exact f_cop (by intro q; rcases Int.mul_eq_zero.mp q with q | q <;> omega)
theorem imp_ti0 {CF : Addr} : ∀ vs H Q E, spTi 0 (AtF CF) vs H Q E → spBinF CF (fun x y z w => x * z) (fun x y z w => y * w) vs H Q E := fun _ _ _ _ ⟨p, v1, v2, T1, B1, T2, B2, e, ⟨dx, ha⟩, i1, i2, z1, z2, s1, s2, k⟩ => by
  obtain ⟨r1, x, y, rfl, h1, hy, c1, q1⟩ := is_0.mp i1
  obtain ⟨r2, z, w, rfl, h2, hw, c2, q2⟩ := is_0.mp i2
  rw [zr_0] at z1 z2
  obtain ⟨a1, a2⟩ := cop_le hy c1 z1 q1
  obtain ⟨a3, a4⟩ := cop_le hw c2 z2 q2
  refine ⟨p, dx, r1, r2, x, y, z, w, e, ha, h1, h2, ⟨hy, Nat.lt_of_le_of_lt a1 (s1 rfl).1, Nat.lt_of_le_of_lt a2 (s1 rfl).2, c1⟩, ⟨hw, Nat.lt_of_le_of_lt a3 (s2 rfl).1, Nat.lt_of_le_of_lt a4 (s2 rfl).2, c2⟩, fun r H' e' h => k _ _ e' (is_0.mpr ⟨r, _, _, rfl, h, ?_, ?_, times_F hy hw q1 q2⟩)⟩
  · exact fB_pos (by intro q; rcases Int.mul_eq_zero.mp q with q | q <;> omega)
  · exact f_cop (by intro q; rcases Int.mul_eq_zero.mp q with q | q <;> omega)
theorem imp_plR {CR : Addr} {n : Int} (hn : Pr n) : ∀ vs H Q E, spPl n (AtR CR n) vs H Q E → spBinR CR (fun n a b => (a + b) % n) vs H Q E := fun _ _ _ _ ⟨p, v1, v2, T1, B1, T2, B2, e, ⟨dx, ha⟩, i1, i2, z1, z2, s1, s2, k⟩ => by
  have n0 := pr_ne hn
  have p2 := hn.1
  obtain ⟨x, rfl, x0, x1, q1⟩ := (is_n n0).mp i1
  obtain ⟨y, rfl, y0, y1, q2⟩ := (is_n n0).mp i2
  exact ⟨p, dx, n, x, y, e, ha, ⟨x0, x1⟩, ⟨y0, y1⟩, k _ _ (Same.refl _) ((is_n n0).mpr ⟨_, rfl, Int.emod_nonneg _ n0, Int.emod_lt_of_pos _ (by omega), plus_R q1 q2⟩)⟩
theorem imp_tiR {CR : Addr} {n : Int} (hn : Pr n) : ∀ vs H Q E, spTi n (AtR CR n) vs H Q E → spBinR CR (fun n a b => a * b % n) vs H Q E := fun _ _ _ _ ⟨p, v1, v2, T1, B1, T2, B2, e, ⟨dx, ha⟩, i1, i2, z1, z2, s1, s2, k⟩ => by
  have n0 := pr_ne hn
  have p2 := hn.1
  obtain ⟨x, rfl, x0, x1, q1⟩ := (is_n n0).mp i1
  obtain ⟨y, rfl, y0, y1, q2⟩ := (is_n n0).mp i2
  exact ⟨p, dx, n, x, y, e, ha, ⟨x0, x1⟩, ⟨y0, y1⟩, k _ _ (Same.refl _) ((is_n n0).mpr ⟨_, rfl, Int.emod_nonneg _ n0, Int.emod_lt_of_pos _ (by omega), times_R q1 q2⟩)⟩
theorem imp_ag0 {At : Hp → Addr → Prop} : ∀ vs H Q E, spAg 0 At vs H Q E → spAgF vs H Q E := fun _ _ _ _ ⟨p, v, T, B, e, _, iv, k⟩ => by
  obtain ⟨r1, x, y, rfl, h1, hy, c1, q1⟩ := is_0.mp iv
  refine ⟨.ref p, r1, x, y, e, h1, fun r H' e' h => k _ _ e' (is_0.mpr ⟨r, _, _, rfl, h, hy, by rw [gI_neg]; exact c1, by grind⟩)⟩
theorem imp_agR {CR : Addr} {n : Int} (hn : Pr n) : ∀ vs H Q E, spAg n (AtR CR n) vs H Q E → spAgR CR vs H Q E := fun _ _ _ _ ⟨p, v, T, B, e, ⟨dx, ha⟩, iv, k⟩ => by
  have n0 := pr_ne hn
  have p2 := hn.1
  obtain ⟨x, rfl, x0, x1, q1⟩ := (is_n n0).mp iv
  exact ⟨p, dx, n, x, e, ha, ⟨x0, x1⟩, k _ _ (Same.refl _) ((is_n n0).mpr ⟨_, rfl, Int.emod_nonneg _ n0, Int.emod_lt_of_pos _ (by omega), against_R q1⟩)⟩
theorem fldQ_F {P : Program} {w : World} {K : PySem.W.Frag} {mg : Str → Option Value} {base : Heap} {CF CR : Addr} (h1 : MCal P w K mg base CX0 1 CF "nought" ["self"] [] (spNo 0 0 (AtF CF))) (h2 : MCal P w K mg base CX0 1 CF "one" ["self"] [] (spNo 1 0 (AtF CF)))
    (h3 : MCal P w K mg base CX0 3 CF "plus" ["self", "a", "b"] [] (spPl 0 (AtF CF))) (h4 : MCal P w K mg base CX0 3 CF "times" ["self", "a", "b"] [] (spTi 0 (AtF CF))) (h5 : MCal P w K mg base CX0 1 CF "against" ["self", "a"] [] (spAg 0 (AtF CF))) : FldQ P w K mg base CF (AtN CF CR 0) 0 := by
  have e : AtN CF CR 0 = AtF CF := if_pos rfl
  rw [e]
  exact ⟨fun k ⟨dx, h⟩ => ⟨dx, k _ _ h ⟨_, _, _, rfl⟩⟩, fun ⟨dx, h⟩ => ⟨dx, h⟩, h1, h2, h3, h4, h5⟩
theorem fldQ_R {P : Program} {w : World} {K : PySem.W.Frag} {mg : Str → Option Value} {base : Heap} {CF CR : Addr} {n : Int} (hn : Pr n) (h1 : MCal P w K mg base CX0 1 CR "nought" ["self"] [] (spNo 0 n (AtR CR n))) (h2 : MCal P w K mg base CX0 1 CR "one" ["self"] [] (spNo 1 n (AtR CR n)))
    (h3 : MCal P w K mg base CX0 3 CR "plus" ["self", "a", "b"] [] (spPl n (AtR CR n))) (h4 : MCal P w K mg base CX0 3 CR "times" ["self", "a", "b"] [] (spTi n (AtR CR n))) (h5 : MCal P w K mg base CX0 1 CR "against" ["self", "a"] [] (spAg n (AtR CR n))) : FldQ P w K mg base CR (AtN CF CR n) n := by
  have e : AtN CF CR n = AtR CR n := if_neg (pr_ne hn)
  rw [e]
  exact ⟨fun k ⟨dx, h⟩ => ⟨dx, k _ _ h.1 ⟨_, _, _, rfl⟩, h.2⟩, fun ⟨dx, h⟩ => ⟨dx, h.1⟩, h1, h2, h3, h4, h5⟩


def IsO (C1 C2 C3 C : Addr) : Prop := C = C1 ∨ C = C2 ∨ C = C3
def spRgI3 (CG C1 C2 C3 : Addr) : Sp := fun vs H Q _ => ∃ (r dx : Addr) (m : Int) (pf po : Addr) (CD : Addr), vs = [.ref r, .int m, .ref pf, .ref po] ∧ IsO C1 C2 C3 CD ∧ H r = some (.ins CG dx []) ∧ AtO CD H po ∧ 1 ≤ m ∧ m ≤ 4 ∧ ∀ H', H' r = some (RgO CG dx m pf po) → (∀ b o, H b = some o → b ≠ r → H' b = some o) → Q .non H'

/-- two that are the same number are the same data -/
theorem Is.rds2 {n : Int} (hn : n = 0 ∨ Pr n) {K : PySem.W.Frag} {H H' : Hp} {v u : V} {T B : Int} (hB : ¬ zr n B) (h : Is n H v T B) (h' : Is n H' u T B) : ∃ dn, Rds K H v dn ∧ Rds K H' u dn ∧ NmD dn ∧ PyData.eqv dn (z0N n) = decide (zr n T) := by
  rcases hn with rfl | hp
  · obtain ⟨r, x, y, rfl, hr, hy, c, e⟩ := is_0.mp h
    obtain ⟨r', x', y', rfl, hr', hy', c', e'⟩ := is_0.mp h'
    rw [zr_0] at hB
    have q : x * y' = x' * y := by
      refine Int.eq_of_mul_eq_mul_right hB ?_
      have a1 : x * y' * B = (x * B) * y' := by grind
      have a2 : x' * y * B = (x' * B) * y := by grind
      rw [a1, a2, e, e']; grind
    obtain ⟨rfl, rfl⟩ := low_one hy hy' c c' q
    refine ⟨_, rds_pair hr, rds_pair hr', nmd_pair x y, ?_⟩
    rw [z0N_0, PyData.eqv]
    have q := eqv_ints [x, y] [0, 1]
    refine q.trans ?_
    have : ([x, y] = [0, 1]) ↔ zr 0 T := by
      rw [zr_0]
      constructor
      · intro z; simp at z
        obtain ⟨rfl, rfl⟩ := z
        rw [Int.zero_mul, Int.mul_one] at e; exact e.symm
      · rintro rfl
        rw [Int.zero_mul] at e
        rcases Int.mul_eq_zero.mp e with z | z
        · subst z
          have : gI 0 y = y := by unfold gI; rw [Int.gcd_zero_left]; omega
          rw [this] at c; subst c; rfl
        · exact absurd z hB
    exact decide_eq_decide.mpr this
  · have n0 := pr_ne hp
    obtain ⟨a, rfl, a0, a1, e⟩ := (is_n n0).mp h
    obtain ⟨b, rfl, b0, b1, e'⟩ := (is_n n0).mp h'
    rw [zr_n n0] at hB
    have ab : a = b := by
      have d1 := Int.dvd_sub (Int.dvd_of_emod_eq_zero e) (Int.dvd_of_emod_eq_zero e')
      have d2 : (a * B - T) - (b * B - T) = (a - b) * B := by grind
      rw [d2] at d1
      have z := pr_cancel hp hB (Int.emod_eq_zero_of_dvd d1)
      have := Int.emod_eq_emod_iff_emod_sub_eq_zero.mpr z
      rwa [Int.emod_eq_of_lt a0 a1, Int.emod_eq_of_lt b0 b1] at this
    subst ab
    refine ⟨_, .int a, .int a, nmd_int a, ?_⟩
    rw [z0N_n n0]
    have q : PyData.eqv (.int a) (.int 0) = decide (a = 0) := by simp [PyData.eqv, Bool.beq_eq_decide_eq]
    rw [q]
    refine decide_eq_decide.mpr ?_
    rw [zr_n n0]
    constructor
    · rintro rfl
      rw [Int.zero_mul, Int.zero_sub] at e
      exact Int.emod_eq_zero_of_dvd (Int.dvd_neg.mp (Int.dvd_of_emod_eq_zero e))
    · intro z
      have d : n ∣ a * B := by
        have d1 := Int.dvd_of_emod_eq_zero e
        have d2 := Int.dvd_of_emod_eq_zero z
        have := Int.dvd_add d1 d2
        rwa [Int.sub_add_cancel] at this
      have := pr_cancel hp hB (Int.emod_eq_zero_of_dvd d)
      rwa [Int.emod_eq_of_lt a0 a1] at this
def SmM (n T B : Int) : Prop := n = 0 → T.natAbs < 2 ^ 150 ∧ B.natAbs < 2 ^ 150
def spLAdd : Sp := fun vs H Q _ => ∃ (v1 v2 : V) (n T1 B1 T2 B2 : Int), vs = [v1, v2, .int n] ∧ (n = 0 ∨ Pr n) ∧ n ≤ 9973 ∧ Is n H v1 T1 B1 ∧ Is n H v2 T2 B2 ∧ ¬ zr n B1 ∧ ¬ zr n B2 ∧ SmM n T1 B1 ∧ SmM n T2 B2 ∧ ∀ v H', Same H H' → Is n H' v (T1 * B2 + T2 * B1) (B1 * B2) → Q v H'
def spLMul : Sp := fun vs H Q _ => ∃ (v1 v2 : V) (n T1 B1 T2 B2 : Int), vs = [v1, v2, .int n] ∧ (n = 0 ∨ Pr n) ∧ n ≤ 9973 ∧ Is n H v1 T1 B1 ∧ Is n H v2 T2 B2 ∧ ¬ zr n B1 ∧ ¬ zr n B2 ∧ SmM n T1 B1 ∧ SmM n T2 B2 ∧ ∀ v H', Same H H' → Is n H' v (T1 * T2) (B1 * B2) → Q v H'

def pw (c a : Int) : Int := if c % 9 = 4 then c * (48271 + 2 * a) % 10007 % 201 else c * (48271 + 2 * a) % 10007 / 7 % 3
def spPwr : Sp := fun vs H Q _ => ∃ (c a : Int), vs = [.int c, .int a] ∧ 0 ≤ a ∧ a ≤ 4 ∧ Q (.int (pw c a)) H
def trm (c : Int) (m : Nat) : Tm := (List.range m).map fun a : Nat => pw c a
/-- a term as the law draws it -/
def Drn (m : Nat) (t : Tm) : Prop := ∃ c, t = trm c m
def spTerm : Sp := fun vs H Q _ => ∃ (c : Int) (m : Nat), vs = [.int c, .int m] ∧ m ≤ 4 ∧ ∀ r H', H r = none → Same H H' → H' r = some (.tup ((trm c m).map V.int)) → Q (.ref r) H'
theorem pw_b (c a : Int) : 0 ≤ pw c a ∧ pw c a ≤ 200 := by unfold pw; split <;> omega
theorem trm_ok (c : Int) (m : Nat) : TmOk m (trm c m) := by
  refine ⟨by simp [trm], fun x hx => ?_⟩
  obtain ⟨i, _, rfl⟩ := List.mem_map.mp hx
  exact (pw_b _ _).1
theorem mod_lane (c a : Int) : c * (48271 + 2 * a) % 10007 = (c % 10007) * (48271 + 2 * a) % 10007 := by
  have h : c * (48271 + 2 * a) = (c % 10007) * (48271 + 2 * a) + 10007 * (c / 10007 * (48271 + 2 * a)) := by
    have := Int.emod_add_mul_ediv c 10007
    generalize c % 10007 = r at *
    generalize c / 10007 = q at *
    subst this; grind
  rw [h, Int.add_mul_emod_self_left]
theorem trm_A {c : Int} {m : Nat} (h : c % 9 = 4) : ∃ d, d < 10007 ∧ trm c m = (famA m d).map Int.ofNat := by
  refine ⟨(c % 10007).toNat, by omega, ?_⟩
  unfold trm famA
  rw [List.map_map]
  refine List.map_congr_left fun a _ => ?_
  unfold pw
  rw [if_pos h, mod_lane]
  have : (c % 10007) = (((c % 10007).toNat : Nat) : Int) := by omega
  generalize (c % 10007).toNat = d at this
  rw [this]
  show ((d : Int) * (48271 + 2 * (a : Int)) % 10007 % 201) = ((d * (48271 + 2 * a) % 10007 % 201 : Nat) : Int)
  have hx : ((d * (48271 + 2 * a) : Nat) : Int) = (d : Int) * (48271 + 2 * (a : Int)) := by rw [Int.natCast_mul, Int.natCast_add, Int.natCast_mul]; rfl
  rw [← hx]
  generalize d * (48271 + 2 * a) = z
  omega
theorem trm_B {c : Int} {m : Nat} (h : ¬ c % 9 = 4) : trm c m ∈ box m := by
  refine mem_box (trm_ok c m) fun x hx => ?_
  obtain ⟨i, _, rfl⟩ := List.mem_map.mp hx
  unfold pw
  rw [if_neg h]; omega
theorem box_B : (∀ t ∈ box 2, ∃ j ∈ List.range 9, t = (famB 2 j).map Int.ofNat) ∧ (∀ t ∈ box 3, ∃ j ∈ List.range 27, t = (famB 3 j).map Int.ofNat) ∧ (∀ t ∈ box 4, ∃ j ∈ List.range 81, t = (famB 4 j).map Int.ofNat) := by decide +kernel
theorem drn_H {m w : Nat} (hb : ∀ t ∈ box m, ∃ j ∈ List.range w, t = (famB m j).map Int.ofNat) {t : Tm} (h : Drn m t) : ∃ d, d < 10007 + w ∧ t = (tmH m d).map Int.ofNat := by
  obtain ⟨c, rfl⟩ := h
  by_cases c4 : c % 9 = 4
  · obtain ⟨d, hd, e⟩ := trm_A (m := m) c4
    refine ⟨d, by omega, ?_⟩
    have : Nat.blt d 10007 = true := by rw [Nat.blt_eq]; exact hd
    unfold tmH; rw [this]; exact e
  · obtain ⟨j, hj, e⟩ := hb _ (trm_B c4)
    rw [List.mem_range] at hj
    refine ⟨10007 + j, by omega, ?_⟩
    have : Nat.blt (10007 + j) 10007 = false := by
      cases q : Nat.blt (10007 + j) 10007
      · rfl
      · rw [Nat.blt_eq] at q; omega
    unfold tmH; rw [this, Nat.add_sub_cancel_left]; exact e
theorem drn_1 {t : Tm} (h : Drn 1 t) : ∃ d, d < 201 ∧ t = (tm1 d).map Int.ofNat := by
  obtain ⟨c, rfl⟩ := h
  have b := pw_b c 0
  refine ⟨(pw c 0).toNat, by omega, ?_⟩
  show [pw c 0] = [Int.ofNat ((pw c 0).toNat % 201)]
  rw [Nat.mod_eq_of_lt (by omega)]
  congr 1
  show _ = (((pw c 0).toNat : Nat) : Int)
  omega
theorem drn_inj {m : Nat} (m1 : 1 ≤ m) (m4 : m ≤ 4) {x y : Tm} (hx : Drn m x) (hy : Drn m y) (e : hsI x = hsI y) : x = y := by
  rcases (by omega : m = 1 ∨ m = 2 ∨ m = 3 ∨ m = 4) with z | z | z | z
  · subst z
    obtain ⟨c, hc, rfl⟩ := drn_1 hx
    obtain ⟨d, hd, rfl⟩ := drn_1 hy
    exact hs_inj hs_1 (by decide) (fun c x hx => by rw [List.mem_singleton.mp hx]; omega) hc hd e
  · subst z
    obtain ⟨c, hc, rfl⟩ := drn_H box_B.1 hx
    obtain ⟨d, hd, rfl⟩ := drn_H box_B.1 hy
    exact hs_inj hs_2 (by decide) (tmH_sm 2) hc hd e
  · subst z
    obtain ⟨c, hc, rfl⟩ := drn_H box_B.2.1 hx
    obtain ⟨d, hd, rfl⟩ := drn_H box_B.2.1 hy
    exact hs_inj hs_3 (by decide) (tmH_sm 3) hc hd e
  · subst z
    obtain ⟨c, hc, rfl⟩ := drn_H box_B.2.2 hx
    obtain ⟨d, hd, rfl⟩ := drn_H box_B.2.2 hy
    exact hs_inj hs_4 (by decide) (tmH_sm 4) hc hd e
def DrA (m : Nat) (kvs : List (List Key × V)) : Prop := ∀ t ∈ tks kvs, Drn m t
theorem DrA.put {m : Nat} {kvs : List (List Key × V)} {x : Tm} {v : V} (ko : KO m kvs) (hx : TmOk m x) (h : DrA m kvs) (hc : Drn m x) : DrA m (putK kvs (ky x) v) := by
  intro t ht
  have := (ko.put hx).mem.mp ht
  rw [valV_put] at this
  by_cases q : t = x
  · subst q; exact hc
  · rw [if_neg (fun e => q (ky_inj e))] at this
    exact h t (ko.mem.mpr this)
theorem PD.hds {n : Int} {m : Nat} {H : Hp} {kvs : List (List Key × V)} {T : Tm → Int} {D : Int} (h : PD n m H kvs T D) (m1 : 1 ≤ m) (m4 : m ≤ 4) (dr : DrA m kvs) : HDs kvs :=
  ⟨tks kvs, by rw [h.ko.keys]; rfl, nd_map_on h.nts fun x hx y hy e => drn_inj m1 m4 (dr x hx) (dr y hy) e⟩
def dM (n : Int) : Int := if n = 0 then 2520 else 1
theorem dM_nz {n : Int} (hn : n = 0 ∨ Pr n) : ¬ zr n (dM n) := by
  rcases hn with rfl | hp
  · rw [zr_0]; decide
  · unfold dM; rw [if_neg (pr_ne hp)]; exact nz_one (.inr hp)
theorem dM_b (n : Int) : (dM n).natAbs < 2 ^ 12 := by unfold dM; split <;> decide
theorem madeM {n t b : Int} {H : Hp} {v : V} (hn : n = 0 ∨ Pr n) (b1 : 1 ≤ b) (b9 : b ≤ 9) (ht : t.natAbs ≤ 10000000000) (h : Is n H v t (dB n b)) : ∃ a, Is n H v a (dM n) ∧ (zr n a ↔ zr n t) ∧ (n = 0 → a.natAbs < 2 ^ 46) := by
  by_cases n0 : n = 0
  · subst n0
    rw [dB_0] at h
    have q : (2520 / b) * b = 2520 := by rcases (by omega : b = 1 ∨ b = 2 ∨ b = 3 ∨ b = 4 ∨ b = 5 ∨ b = 6 ∨ b = 7 ∨ b = 8 ∨ b = 9) with rfl | rfl | rfl | rfl | rfl | rfl | rfl | rfl | rfl <;> decide
    have q0 : 2520 / b ≠ 0 := by intro z; rw [z] at q; omega
    have q1 : (2520 / b).natAbs ≤ 2520 := by rcases (by omega : b = 1 ∨ b = 2 ∨ b = 3 ∨ b = 4 ∨ b = 5 ∨ b = 6 ∨ b = 7 ∨ b = 8 ∨ b = 9) with rfl | rfl | rfl | rfl | rfl | rfl | rfl | rfl | rfl <;> decide
    refine ⟨t * (2520 / b), Is.cross hn (by rw [zr_0]; omega) h (eqn.of_eq ?_), ?_, fun _ => ?_⟩
    · show t * 2520 = t * (2520 / b) * b
      rw [Int.mul_assoc, q]
    · rw [zr_0, zr_0, Int.mul_eq_zero]
      exact ⟨fun z => z.resolve_right q0, .inl⟩
    · rw [Int.natAbs_mul]
      have := Nat.mul_le_mul ht q1
      have : 10000000000 * 2520 < 2 ^ 46 := by decide
      omega
  · rw [dB_n n0] at h
    unfold dM
    rw [if_neg n0]
    exact ⟨t, h, Iff.rfl, fun z => absurd z n0⟩
def spPoly (K : PySem.W.Frag) : Sp := fun vs H Q _ => ∃ (l : Addr) (m : Nat) (n : Int) (cs : List Int), vs = [.ref l, .int m, .int n] ∧ (n = 0 ∨ Pr n) ∧ n ≤ 9973 ∧ m ≤ 4 ∧ SqL K H l (cs.map V.int) ∧ cs.length ≤ 63 ∧
  ∀ d H' kvs T, H d = none → Same H H' → H' d = some (.dT kvs) → PD n m H' kvs T (dM n) → Bdd n T 46 → DrA m kvs → kvs.length ≤ cs.length → Q (.ref d) H'

def spKinds : Sp := fun vs H Q _ => ∃ (e : Addr) (m : Nat) (n : Int) (fvs : List (List Key × V)) (T : Tm → Int) (D : Int), vs = [.ref e, .int m, .int n] ∧ (n = 0 ∨ Pr n) ∧ H e = some (.dT fvs) ∧ PD n m H fvs T D ∧ ∀ H', Same H H' → Q (.bl true) H'

theorem for_dkey {d : Addr} {o : Obj} {kvs : List (List Key × V)} {g : TG} {tb : TS} {D : Ends} {σ : St} {H : Hp} (Pv : Nat → St → Hp → Prop) (h0 : Pv 0 σ H) (hl : ∀ i σ H, Pv i σ H → FzD H d o kvs)
    (hs : ∀ i k v σ H b, kvs[i]? = some (k, v) → Pv i σ H → H b = some (.tup (k.map kV)) → g (.ref b) σ H fun σ2 H2 => tb { D with nx := Pv (i + 1), ct := Pv (i + 1), bk := D.nx } σ2 H2) (hd : ∀ σ H, Pv kvs.length σ H → D.nx σ H) :
    ∃ W : Nat → Nat → St → Hp → Prop, (∃ m, W 0 m σ H) ∧ ∀ i m σ H, W i m σ H →
      ((ItK d o kvs).stop i H ∧ D.nx σ H) ∨ ((ItK d o kvs).go i H ∧ ∃ N : St → Hp → Prop, (∀ σ' H', N σ' H' → ∃ m', m' < m ∧ W (i + 1) m' σ' H') ∧ ∀ x H', (ItK d o kvs).yld i H x H' → g x σ H' fun σ2 H2 => tb { D with nx := N, ct := N, bk := D.nx } σ2 H2) := by
  refine ⟨fun i m σ H => m = kvs.length - i ∧ i ≤ kvs.length ∧ Pv i σ H, ⟨kvs.length, by simp, Nat.zero_le _, h0⟩, ?_⟩
  rintro i m σ H ⟨rfl, hi, p⟩
  have q := hl i σ H p
  by_cases hlt : i < kvs.length
  · refine .inr ⟨⟨q, hlt⟩, Pv (i + 1), fun σ' H' p' => ⟨kvs.length - (i + 1), by omega, rfl, hlt, p'⟩, fun x H' y => ?_⟩
    obtain ⟨rfl, b, k, v, hk, hb, rfl⟩ := y
    exact hs i k v σ H' b hk p hb
  · have z : i = kvs.length := by omega
    subst z
    exact .inl ⟨⟨q, Nat.le_refl _⟩, hd σ H p⟩
theorem is_get {n : Int} (hn : n = 0 ∨ Pr n) {m : Nat} {H : Hp} {kvs : List (List Key × V)} {T : Tm → Int} {D : Int} (h : PD n m H kvs T D) {u : V} (iu : Is n H u 0 1) (t : Tm) : Is n H ((valV kvs (ky t)).getD u) (T t) D := by
  cases z : valV kvs (ky t) with
  | none =>
    have q := h.pr.no t z
    refine Is.cross hn (nz_one hn) iu ?_
    rw [Int.zero_mul, Int.mul_one]
    show zr n (0 - T t)
    rw [Int.zero_sub]; exact zr_neg.mpr q
  | some v => exact (h.pr.at_ t v z).1
theorem puts_ko {m : Nat} : ∀ {l acc : List (List Key × V)}, KO m acc → KO m l → KO m (putsK acc l)
  | [], _, h, _ => h
  | p :: l, acc, h, h2 => by
    obtain ⟨xs, e, ok⟩ := h2 p (by simp)
    show KO m (putsK (putK acc p.1 p.2) l)
    rw [e]
    exact puts_ko (h.put ok) fun q hq => h2 q (by simp [hq])
theorem puts_nd : ∀ {l acc : List (List Key × V)}, (acc.map (·.1)).Nodup → ((putsK acc l).map (·.1)).Nodup
  | [], _, h => h
  | p :: l, acc, h => puts_nd (l := l) (nd_put h)
theorem ko_put_mem {m : Nat} {kvs : List (List Key × V)} (h : KO m kvs) {x t : Tm} (hx : TmOk m x) {v : V} : t ∈ tks (putK kvs (ky x) v) ↔ t = x ∨ t ∈ tks kvs := by
  rw [(h.put hx).mem, h.mem, valV_put]
  by_cases q : t = x
  · subst q; simp
  · rw [if_neg (fun e => q (ky_inj e))]; simp [q]
theorem puts_mem {m : Nat} {t : Tm} : ∀ {l acc : List (List Key × V)}, KO m acc → KO m l → (t ∈ tks (putsK acc l) ↔ t ∈ tks acc ∨ t ∈ tks l)
  | [], acc, h, _ => by show t ∈ tks acc ↔ t ∈ tks acc ∨ t ∈ ([] : List Tm); simp
  | p :: l, acc, h, h2 => by
    obtain ⟨xs, e, ok⟩ := h2 p (by simp)
    have i := puts_mem (t := t) (l := l) (h.put ok (v := p.2)) fun q hq => h2 q (by simp [hq])
    have e1 : putsK acc (p :: l) = putsK (putK acc (ky xs) p.2) l := by show putsK (putK acc p.1 p.2) l = _; rw [e]
    have e2 : tks (p :: l) = xs :: tks l := by show uk p.1 :: tks l = _; rw [e, uk_ky]
    rw [e1, i, ko_put_mem h ok, e2, List.mem_cons, or_assoc, or_left_comm]
theorem nd_keys {m : Nat} {kvs : List (List Key × V)} (h : KO m kvs) (nd : (kvs.map (·.1)).Nodup) : (tks kvs).Nodup := nd_of_map (f := ky) (by rw [← h.keys]; exact nd)
def cn (n : Int) (X : Tm → Int) (ts : List Tm) : Nat := (ts.filter fun t => !decide (zr n (X t))).length
theorem cn_snoc (n : Int) (X : Tm → Int) (ts : List Tm) (t : Tm) : cn n X (ts ++ [t]) = cn n X ts + (if (!decide (zr n (X t))) = true then 1 else 0) := by
  unfold cn
  rw [List.filter_append, List.length_append, List.filter_cons]
  split <;> simp_all
/-- as many as are not nought -/
theorem cn_len {n : Int} {m : Nat} {H : Hp} {kvs : List (List Key × V)} {X : Tm → Int} {D : Int} (h : PD n m H kvs X D) {U : List Tm} (nd : U.Nodup) (hU : ∀ t, ¬ zr n (X t) → t ∈ U) : kvs.length = cn n X U := by
  rw [← tks_len kvs]
  refine Nat.le_antisymm (len_le_of_nd h.nts fun t ht => ?_) (len_le_of_nd (nd.filter _) fun t ht => ?_)
  · have := h.nzt ht
    refine List.mem_filter.mpr ⟨hU t this, by simp [this]⟩
  · have := (List.mem_filter.mp ht).2
    refine Classical.byContradiction fun c => ?_
    have z := h.out c
    simp [z] at this
def spSum : Sp := fun vs H Q _ => ∃ (a e1 e2 : Addr) (s n : Int) (m : Nat) (kvs fvs gvs : List (List Key × V)) (T1 T2 : Tm → Int) (D : Int), vs = [.ref a, .ref e1, .ref e2, .int s, .int n] ∧ (n = 0 ∨ Pr n) ∧ n ≤ 9973 ∧ (s = 1 ∨ s = -1) ∧ H a = some (.dT kvs) ∧ H e1 = some (.dT fvs) ∧ H e2 = some (.dT gvs) ∧
  PD n m H kvs (fun t => T1 t + s * T2 t) D ∧ PD n m H fvs T1 D ∧ PD n m H gvs T2 D ∧ Bdd n T1 50 ∧ Bdd n T2 50 ∧ (n = 0 → D.natAbs < 2 ^ 12) ∧ fvs.length ≤ 100 ∧ gvs.length ≤ 100 ∧ ∀ H', Same H H' → Q (.bl true) H'

theorem op_neDK {X : Cx} {K : PySem.W.Frag} (hK : X.K = K) (hu : X.A.units + 64 < cLine) : OpR X (compareOp .NotEq) (fun x y H Q => ∃ d e, Rds K H x d ∧ Rds K H y e ∧ SeqAt.shaped d = true ∧ SeqAt.shaped e = true ∧ Q (.bl (!PyData.eqv d e)) H) := by
  subst hK; exact op_neD hu
theorem op_eqDTK {X : Cx} {K : PySem.W.Frag} (hK : X.K = K) (hu : X.A.units + 64 < cLine) : OpR X (compareOp .Eq) (rEqDT K false) := by
  subst hK; exact op_eqDT hu
/-- what the law has seen: each term with its number -/
structure Sn (n : Int) (m : Nat) (H : Hp) (sv : List (List Key × V)) (X : Tm → Int) (D : Int) : Prop where
  ko : KO m sv
  nd : (sv.map (·.1)).Nodup
  at_ : ∀ t v, valV sv (ky t) = some v → Is n H v (X t) D
theorem rng_filter (ts : List Tm) (q : Tm → Bool) : ((List.range ts.length).filter fun i => q (ts.getD i [])).length = (ts.filter q).length := by
  have e : ts = (List.range ts.length).map fun i => ts.getD i [] := by
    refine List.ext_getElem (by simp) fun i h1 h2 => ?_
    simp [List.getD_eq_getElem?_getD, h1]
  have h : (ts.filter q).length = (((List.range ts.length).map fun i => ts.getD i []).filter q).length := congrArg (fun l => (l.filter q).length) e
  rw [h, List.filter_map, List.length_map]; rfl
theorem dval_comp {mp : List (Option Nat)} {td : TE} {g : TG} {tc : TT} {te : TE} {σ : St} {H : Hp} {Q : VK} {d : Addr} {fvs : List (List Key × V)} (hd : H d = some (.dT fvs)) (htd : ∀ R : VK, R (.ref d) H → td σ H R) (hn : fvs.length ≤ 1000) (Sv : St → Prop) (p : Nat → Bool) (f : Nat → V) (h0 : Sv (st0 mp σ))
    (step : ∀ o i x σ' H2, i < fvs.length → Sv σ' → Same (upd H d (.frz o (.dT fvs))) H2 → (∃ k, fvs[i]? = some (k, x)) → ∀ (Ny : V → St → Hp → Prop) (Nn : St → Hp → Prop), (∀ σ2 H5, Sv σ2 → Same H2 H5 → p i = true → Ny (f i) σ2 H5) → (∀ σ2 H4, Sv σ2 → Same H2 H4 → p i = false → Nn σ2 H4) →
      g x σ' H2 fun σ2 H3 => tc σ2 H3 fun b H4 => if b = true then te σ2 H4 fun v H5 => Ny v σ2 H5 else Nn σ2 H4)
    (hQ : ∀ o D H', D ≠ d → Same (upd H d (.frz o (.dT fvs))) H' → H' D = some (.lst (((List.range fvs.length).filter p).map f)) → Q (.ref D) H') : tComp mp (iDictV td) g tc te σ H Q := by
  unfold tComp
  refine htd _ ⟨d, fvs, rfl, .inl hd, fun o D hD => ?_⟩
  have hz : FzD (upd H d (.frz o (.dT fvs))) d o fvs := upd_same
  have Dd : D ≠ d := fun z => by subst z; rw [hz] at hD; cases hD
  exact comp_vals (walk_dval hz) hD (Nat.le_trans hn (by rw [sizeLine_eq]; decide)) Sv p f h0 (fun i x σ' H2 => step o i x σ' H2) fun H' e hL => hQ o D H' Dd e hL
theorem Sn.keep {n : Int} {m : Nat} {H H' : Hp} {sv : List (List Key × V)} {X : Tm → Int} {D : Int} (k : ∀ b xs, H b = some (.tup xs) → H' b = some (.tup xs)) (h : Sn n m H sv X D) : Sn n m H' sv X D := ⟨h.ko, h.nd, fun t v q => (h.at_ t v q).keep k⟩
theorem Sn.put {n : Int} {m : Nat} {H : Hp} {sv : List (List Key × V)} {X : Tm → Int} {D : Int} (h : Sn n m H sv X D) {x : Tm} (hx : TmOk m x) {v : V} (iv : Is n H v (X x) D) : Sn n m H (putK sv (ky x) v) X D := by
  refine ⟨h.ko.put hx, nd_put h.nd, fun t u z => ?_⟩
  rw [valV_put] at z
  by_cases q : t = x
  · subst q; rw [if_pos rfl] at z; cases z; exact iv
  · rw [if_neg (fun e => q (ky_inj e))] at z; exact h.at_ _ _ z
def spIPr : Sp := fun vs H Q _ => ∃ (a e1 e2 : Addr) (n : Int) (m : Nat) (kvs fvs gvs : List (List Key × V)) (T1 T2 : Tm → Int) (D1 D2 : Int), vs = [.ref a, .ref e1, .ref e2, .int n] ∧ (n = 0 ∨ Pr n) ∧ n ≤ 9973 ∧ m ≤ 4 ∧ e1 ≠ e2 ∧ a ≠ e1 ∧ a ≠ e2 ∧ H a = some (.dT kvs) ∧ H e1 = some (.dT fvs) ∧ H e2 = some (.dT gvs) ∧
  PD n m H kvs (cv T1 (tks fvs) T2) (D1 * D2) ∧ PD n m H fvs T1 D1 ∧ PD n m H gvs T2 D2 ∧ Bdd n T1 50 ∧ Bdd n T2 50 ∧ (n = 0 → D1.natAbs < 2 ^ 12) ∧ (n = 0 → D2.natAbs < 2 ^ 12) ∧ fvs.length ≤ 20 ∧ gvs.length ≤ 20 ∧ ∀ H', Same H H' → Q (.bl true) H'

/-- the data of a number -/
theorem is_data {n : Int} (hn : n = 0 ∨ Pr n) (K : PySem.W.Frag) {B : Int} (hB : ¬ zr n B) (T : Int) : ∃ dn, NmD dn ∧ ∀ H v, Is n H v T B → Rds K H v dn := by
  by_cases w : ∃ H v, Is n H v T B
  · obtain ⟨H, v, h⟩ := w
    rcases hn with rfl | hp
    · obtain ⟨r, x, y, rfl, hr, hy, c, e⟩ := is_0.mp h
      rw [zr_0] at hB
      refine ⟨_, nmd_pair x y, fun H' u h' => ?_⟩
      obtain ⟨r', x', y', rfl, hr', hy', c', e'⟩ := is_0.mp h'
      have q : x * y' = x' * y := by
        refine Int.eq_of_mul_eq_mul_right hB ?_
        have a1 : x * y' * B = (x * B) * y' := by grind
        have a2 : x' * y * B = (x' * B) * y := by grind
        rw [a1, a2, e, e']; grind
      obtain ⟨rfl, rfl⟩ := low_one hy hy' c c' q
      exact rds_pair hr'
    · have n0 := pr_ne hp
      obtain ⟨a, rfl, a0, a1, e⟩ := (is_n n0).mp h
      rw [zr_n n0] at hB
      refine ⟨_, nmd_int a, fun H' u h' => ?_⟩
      obtain ⟨b, rfl, b0, b1, e'⟩ := (is_n n0).mp h'
      have ab : a = b := by
        have d1 := Int.dvd_sub (Int.dvd_of_emod_eq_zero e) (Int.dvd_of_emod_eq_zero e')
        have d2 : (a * B - T) - (b * B - T) = (a - b) * B := by grind
        rw [d2] at d1
        have z := pr_cancel hp hB (Int.emod_eq_zero_of_dvd d1)
        have := Int.emod_eq_emod_iff_emod_sub_eq_zero.mpr z
        rwa [Int.emod_eq_of_lt a0 a1, Int.emod_eq_of_lt b0 b1] at this
      subst ab
      exact .int a
  · exact ⟨_, nmd_int 0, fun H v h => absurd ⟨H, v, h⟩ w⟩
theorem paired_map {α β : Type} {R : α → β → Prop} {f : α → β} : ∀ {l : List α}, (∀ a ∈ l, R a (f a)) → Paired R l (l.map f)
  | [], _ => .nil
  | a :: l, h => .cons (h a (by simp)) (paired_map fun b hb => h b (by simp [hb]))
theorem findKD_map {N : Tm → PyData} {k : List Key} : ∀ {l : List (List Key × V)}, k ∈ l.map (·.1) → findKD (l.map fun p => (p.1, N (uk p.1))) k = some (N (uk k))
  | p :: l, h => by
    unfold findKD
    rw [List.map_cons, List.find?_cons]
    by_cases c : p.1 = k
    · rw [decide_eq_true c]; show some (N (uk p.1)) = _; rw [c]
    · rw [decide_eq_false c]
      refine findKD_map (l := l) ?_
      rw [List.map_cons] at h
      rcases List.mem_cons.mp h with q | q
      · exact absurd q.symm c
      · exact q
theorem pd_same {n : Int} (hn : n = 0 ∨ Pr n) {K : PySem.W.Frag} {m : Nat} {H : Hp} {kvs fvs : List (List Key × V)} {T : Tm → Int} {D : Int} (h : PD n m H kvs T D) (h' : PD n m H fvs T D) : ∃ da db, KDs K H kvs da ∧ KDs K H fvs db ∧ Flats da ∧ Flats db ∧ eqKD da db = true := by
  have ex := fun t => is_data hn K h.nz (T t)
  obtain ⟨N, hN⟩ : ∃ N : Tm → PyData, ∀ t, NmD (N t) ∧ ∀ H v, Is n H v (T t) D → Rds K H v (N t) := ⟨fun t => Classical.choose (ex t), fun t => Classical.choose_spec (ex t)⟩
  have row : ∀ {l : List (List Key × V)}, PD n m H l T D → ∀ p ∈ l, p.1 = p.1 ∧ Rds K H p.2 (N (uk p.1)) := fun {l} pl p hp => by
    obtain ⟨i, hi⟩ := List.getElem?_of_mem hp
    obtain ⟨t, _, e, _, ix, _⟩ := pl.get (k := p.1) (v := p.2) hi
    exact ⟨rfl, by rw [e, uk_ky]; exact (hN t).2 _ _ ix⟩
  have fl : ∀ l : List (List Key × V), Flats (l.map fun p => (p.1, N (uk p.1))) := fun l p hp => by
    obtain ⟨q, _, rfl⟩ := List.mem_map.mp hp
    exact ⟨(hN _).1.lay, (hN _).1.dep⟩
  have len : kvs.length = fvs.length := by
    rw [← tks_len kvs, ← tks_len fvs]
    refine Nat.le_antisymm (len_le_of_nd h.nts fun t ht => ?_) (len_le_of_nd h'.nts fun t ht => ?_)
    · exact Classical.byContradiction fun c => h.nzt ht (h'.out c)
    · exact Classical.byContradiction fun c => h'.nzt ht (h.out c)
  refine ⟨kvs.map fun p => (p.1, N (uk p.1)), fvs.map fun p => (p.1, N (uk p.1)), paired_map (row h), paired_map (row h'), fl _, fl _, ?_⟩
  unfold eqKD
  rw [List.length_map, List.length_map, len, beq_self_eq_true, Bool.true_and, List.all_eq_true]
  intro p hp
  obtain ⟨q, hq, rfl⟩ := List.mem_map.mp hp
  have kq : q.1 ∈ fvs.map (·.1) := by
    obtain ⟨i, hi⟩ := List.getElem?_of_mem hq
    obtain ⟨t, ht, e, _, _, _⟩ := h.get (k := q.1) (v := q.2) hi
    rw [e, ← mem_of_valV, ← h'.ko.mem]
    exact Classical.byContradiction fun c => h.nzt (List.mem_of_getElem? ht) (h'.out c)
  dsimp only
  rw [findKD_map kq]
  exact (hN _).1.refl
theorem pd_sameD {n : Int} (hn : n = 0 ∨ Pr n) {K : PySem.W.Frag} {m : Nat} {H : Hp} {a b : Addr} {kvs fvs : List (List Key × V)} {T : Tm → Int} {D : Int} (ha : H a = some (.dT kvs)) (hb : H b = some (.dT fvs)) (h : PD n m H kvs T D) (h' : PD n m H fvs T D) : SameD K H a b := by
  obtain ⟨da, db, q⟩ := pd_same hn (K := K) h h'
  exact ⟨kvs, fvs, da, db, .inl ha, .inl hb, q⟩
theorem zeros_sub : ∀ {m : Nat} {u : Tm}, u.length = m → subT u (List.replicate m 0) = u
  | 0, [], _ => rfl
  | m + 1, x :: u, h => by
    show (x - 0) :: subT u (List.replicate m 0) = x :: u
    rw [zeros_sub (by simpa using h), Int.sub_zero]
theorem PD.sh0 {n : Int} {m : Nat} {H : Hp} {fvs : List (List Key × V)} {T : Tm → Int} {D : Int} (h : PD n m H fvs T D) (t : Tm) : eqn n (shT (List.replicate m 0) T t) (T t) := by
  unfold shT
  by_cases c : t.length = (List.replicate m (0 : Int)).length
  · rw [if_pos c, zeros_sub (by simpa using c)]; exact eqn.refl _ _
  · rw [if_neg c]
    have : t ∉ tks fvs := fun z => c (by rw [(h.ko.ok z).1]; simp)
    show zr n (0 - T t)
    rw [Int.zero_sub]; exact zr_neg.mpr (h.out this)
theorem sub_zero_iff : ∀ {m : Nat} {t l : Tm}, t.length = m → l.length = m → (subT t l = List.replicate m 0 ↔ t = l)
  | 0, [], [], _, _ => by simp [subT]
  | m + 1, x :: t, y :: l, h1, h2 => by
    have i := sub_zero_iff (m := m) (t := t) (l := l) (by simpa using h1) (by simpa using h2)
    show ((x - y) :: subT t l = 0 :: List.replicate m 0) ↔ _
    rw [List.cons.injEq, List.cons.injEq, i]
    constructor <;> rintro ⟨a, b⟩ <;> exact ⟨by omega, b⟩
/-- times one -/
theorem PD.cv1 {n : Int} {m : Nat} {H : Hp} {fvs : List (List Key × V)} {T : Tm → Int} {D : Int} (h : PD n m H fvs T D) (t : Tm) : eqn n (cv T (tks fvs) (fun k => if k = List.replicate m 0 then 1 else 0) t) (T t) := by
  have key : ∀ ls : List Tm, ls.Nodup → (∀ l ∈ ls, l.length = m) → cv T ls (fun k => if k = List.replicate m 0 then 1 else 0) t = if t ∈ ls then T t else 0 := by
    intro ls
    induction ls with
    | nil => intro _ _; rw [cv_nil]; simp
    | cons l ls ih =>
      intro nd hl
      rw [List.nodup_cons] at nd
      rw [cv_cons, ih nd.2 fun x hx => hl x (by simp [hx])]
      have ll := hl l (by simp)
      unfold shT
      by_cases c : t.length = l.length
      · rw [if_pos c]
        dsimp only
        by_cases e : t = l
        · subst e
          rw [if_pos ((sub_zero_iff ll ll).mpr rfl), if_neg nd.1]; simp
        · rw [if_neg (fun z => e ((sub_zero_iff (c.trans ll) ll).mp z))]; simp [e]
      · have e : t ≠ l := fun z => c (by rw [z])
        rw [if_neg c]; simp [e]
  rw [key _ h.nts fun l hl => (h.ko.ok hl).1]
  by_cases c : t ∈ tks fvs
  · rw [if_pos c]; exact eqn.refl _ _
  · rw [if_neg c]
    show zr n (0 - T t)
    rw [Int.zero_sub]; exact zr_neg.mpr (h.out c)
theorem PD.eqT {n : Int} (hn : n = 0 ∨ Pr n) {m : Nat} {H : Hp} {fvs : List (List Key × V)} {T T' : Tm → Int} {D : Int} (h : PD n m H fvs T D) (e : ∀ t, eqn n (T t) (T' t)) : PD n m H fvs T' D := PD.cross hn h (fun k => (e k).mul (eqn.refl n D)) h.nz
theorem pd_one {n : Int} (hn : n = 0 ∨ Pr n) {m : Nat} {H : Hp} {v : V} (iv : Is n H v 1 1) : PD n m H [(ky (List.replicate m 0), v)] (fun t => if t = List.replicate m 0 then 1 else 0) 1 := by
  have pd0 : PD n m H [] (fun _ => 0) 1 := PD.nil hn (nz_one hn) fun _ => zr_zero n
  have pd1 := pd0.set (zeros_ok m) iv (nz_one hn)
  have ep : putK [] (ky (List.replicate m 0)) v = [(ky (List.replicate m 0), v)] := putK_new (by simp)
  rw [ep] at pd1
  exact pd1
theorem ne_sn {H : Hp} {a b : Addr} {o : HO} (h : H a = some o) (h' : H b = none) : a ≠ b := fun z => by subst z; rw [h] at h'; cases h'
def spWa (K : PySem.W.Frag) (CG CF CR : Addr) : Sp := fun vs H Q _ => ∃ (r e : Addr) (m : Nat) (pf : Addr) (n : Int) (fvs : List (List Key × V)) (T : Tm → Int), vs = [.ref r, .ref e, .int n] ∧ RgK CG CF CR H r m pf n ∧ H e = some (.dT fvs) ∧ PD n m H fvs T (dM n) ∧ Bdd n T 46 ∧ DrA m fvs ∧ fvs.length ≤ 8 ∧
  ∀ (l : Addr) (H' : Hp) (ds : List Addr), H l = none → Same H H' → H' l = some (.lst (ds.map V.ref)) → ds.length ≤ 6 → ds.Nodup → (∀ d ∈ ds, H d = none ∧ d ≠ l ∧ ∃ kv, H' d = some (.dT kv) ∧ PD n m H' kv T (dM n)) → Q (.ref l) H'

theorem cgo_vals {J : It} {H1 : Hp} {n : Nat} {P : Nat → V → Hp → Prop} {g : TG} {tc : TT} {te : TE} {Q : VK} {σ0 : St} {D : Addr} (S : Walk J H1 n P) (hD : H1 D = none) (hn : n ≤ sizeLine) (Sv : St → Prop) (p : Nat → Bool) (f : Nat → V) (h0 : Sv σ0)
    (step : ∀ i x σ' H2, i < n → Sv σ' → Same H1 H2 → P i x H2 → ∀ (Ny : V → St → Hp → Prop) (Nn : St → Hp → Prop), (∀ σ2 H5, Sv σ2 → Same H2 H5 → p i = true → Ny (f i) σ2 H5) → (∀ σ2 H4, Sv σ2 → Same H2 H4 → p i = false → Nn σ2 H4) →
      g x σ' H2 fun σ2 H3 => tc σ2 H3 fun b H4 => if b = true then te σ2 H4 fun v H5 => Ny v σ2 H5 else Nn σ2 H4)
    (hQ : ∀ H', Same H1 H' → H' D = some (.lst (((List.range n).filter p).map f)) → Q (.ref D) H') : CGo J H1 D g tc te σ0 Q := comp_vals S hD hn Sv p f h0 step hQ
def spOwn (K : PySem.W.Frag) (CG CF CR : Addr) : Sp := fun vs H Q _ => ∃ (r e : Addr) (m : Nat) (pf : Addr) (n : Int) (fvs : List (List Key × V)) (T : Tm → Int), vs = [.ref r, .ref e, .int n] ∧ RgK CG CF CR H r m pf n ∧ H e = some (.dT fvs) ∧ PD n m H fvs T (dM n) ∧ Bdd n T 46 ∧ DrA m fvs ∧ fvs.length ≤ 8 ∧ ∀ H', Same H H' → Q (.bl true) H'
theorem map_ref_at {ds : List Addr} {i : Nat} {x : V} (h : (ds.map V.ref)[i]? = some x) : ∃ d, ds[i]? = some d ∧ x = .ref d := by
  rw [List.getElem?_map] at h
  obtain ⟨d, h1, h2⟩ := Option.map_eq_some_iff.mp h
  exact ⟨d, h1, h2.symm⟩

theorem at_int {cs : List Int} (h : 0 < cs.length) : ∃ x, atI (cs.map V.int) 0 = some (.int x) := by
  cases cs with
  | nil => simp at h
  | cons c cs => exact ⟨c, atI_nat (j := 0) (show ((c :: cs).map V.int)[0]? = some (.int c) from rfl)⟩
theorem at_intL {cs : List Int} (h : 0 < cs.length) : ∃ x, atI (cs.map V.int) (-1) = some (.int x) := by
  obtain ⟨w, h1, h2⟩ := at_last (show 0 < (cs.map V.int).length by rw [List.length_map]; exact h)
  rw [List.getElem?_map] at h2
  obtain ⟨x, _, rfl⟩ := Option.map_eq_some_iff.mp h2
  exact ⟨x, h1⟩
theorem uTD {k : Nat} {A : Around} (r : Room k A) : A.units + 70 < cLine := by have := r.un; omega
def spEight (K : PySem.W.Frag) (CG CF CR : Addr) : Sp := fun vs H Q _ => ∃ (r l : Addr) (m : Nat) (pf : Addr) (n : Int) (cs : List Int), vs = [.ref r, .ref l, .int n] ∧ RgK CG CF CR H r m pf n ∧ SqL K H l (cs.map V.int) ∧ 0 < cs.length ∧ cs.length ≤ 8 ∧ ∀ H', Same H H' → Q (.bl true) H'

theorem cut8 {ns : List Int} {s : Int} (h0 : 0 ≤ s) (h1 : s < ns.length) : ∃ ms : List Int, cutV (ns.map V.int) (some s) (some (s + 8)) = ms.map V.int ∧ 0 < ms.length ∧ ms.length ≤ 8 := by
  refine ⟨(ns.drop (HT.sIx ns.length 0 (some s))).take (HT.sIx ns.length ns.length (some (s + 8)) - HT.sIx ns.length 0 (some s)), ?_, ?_⟩
  · unfold cutV
    rw [List.length_map, List.map_take, List.map_drop]
  · rw [List.length_take, List.length_drop]
    have e1 : HT.sIx ns.length 0 (some s) = min s.toNat ns.length := if_neg (by omega)
    have e2 : HT.sIx ns.length ns.length (some (s + 8)) = min (s + 8).toNat ns.length := if_neg (by omega)
    rw [e1, e2]; omega
theorem rs8 {L : Int} {i : Nat} (h : i < (Builtin.Range.rangeSize 1 L 8).toNat) : 1 + (i : Int) * 8 < L := by
  unfold Builtin.Range.rangeSize at h
  simp only [show (8 : Int) > 0 by decide, if_true] at h
  split at h <;> omega
theorem rs0 (L : Int) : 0 ≤ Builtin.Range.rangeSize 1 L 8 := by
  unfold Builtin.Range.rangeSize
  simp only [show (8 : Int) > 0 by decide, if_true]
  split <;> omega

end K10
namespace K10
open PySem L2
open K1 K2 K3 K6 K8
section
variable {P : Program} {w : World} {K : PySem.W.Frag} {mg : Str → Option Value} {base : Heap} {f : Addr} {fd : FuncData} {C_Ring C_Fractions C_Rests C_Order C_Degrees C_Tails : Addr} {E_NoPrime E_NoRing : Addr}
local macro_rules | `(tactic| walk_at "sd") => `(tactic| first
  | assumption | (dsimp only; omega) | (dsimp only; decide) | exact ⟨by decide, by decide⟩ | exact ⟨by decide, by decide, by decide⟩ | exact Or.inl ⟨by decide, by decide⟩ | exact ⟨by omega, by omega⟩ | exact Or.inl ⟨by omega, by omega⟩ | exact Or.inr ⟨by decide, by decide⟩ | exact Or.inr ⟨by omega, by omega⟩)
local macro_rules | `(tactic| walk_at "rd") => `(tactic| repeat first
  | refine ⟨_, rfl, ?_⟩ | refine ⟨_, _, rfl, rfl, ?_⟩ | refine And.intro rfl ?_ | refine And.intro (by walk_at "sd") ?_ | with_reducible refine iteT ?_ | with_reducible refine iteF ?_ | (apply ixT_of; assumption; rfl))
local macro_rules | `(tactic| walk_at "clo") => `(tactic| exact h)

theorem scShared : FnScope ["one", "other", "rest"] ["one", "other"] (defScope s_shared_divisor) := ⟨rfl, rfl, rfl, by decide +kernel, rfl, by decide +kernel, by decide +kernel⟩
set_option maxHeartbeats 4000000 in
theorem ok_Shared  (F : FunD K "shared_divisor" "shared_divisor" s_shared_divisor .none f fd) (T : Txt K mg C_Ring C_Fractions C_Rests C_Order C_Degrees C_Tails)   : FnOk P w K mg base CX0 1 f fd ["one", "other"] spShared := by
  refine F.okN (k := 0) scShared (fun vs H Q E h => ?_) (fun cdv A outer s H vs Q E hr h => ?_)
  · obtain ⟨a, b, rfl, _⟩ := h
    rfl
  obtain ⟨a, b, rfl, h⟩ := h
  refine ⟨_, (pss_cons (ps_while PassesOwn.never (pt_cmpR op_ne (pv 1) (pe_int) (nomark _)) (pss_cons (ps_set (i := 2) scShared.nd rfl (Or.inl rfl) (pe_op op_modN (pv 0) (pv 1)))
    (pss_cons (ps_set (i := 0) scShared.nd rfl (Or.inl rfl) (pv 1))
    (pss_one (ps_set (i := 1) scShared.nd rfl (Or.inl rfl) (pv 2))))))
    (pss_one (ps_ret (pv 0)))), ?_⟩
  obtain ⟨ha, hb, k⟩ := h
  refine ⟨fun m σ H' => ∃ (a' b' : Int) (v : Option V), m = b'.toNat ∧ σ = [some (.int a'), some (.int b'), v] ∧ H' = H ∧ 0 ≤ a' ∧ 0 ≤ b' ∧ Gc a b a' b', ⟨_, _, _, none, rfl, rfl, rfl, K1.start ha hb⟩, ?_⟩
  rintro m σ H' ⟨a', b', v, rfl, rfl, rfl, h1, h2, hg⟩
  walk_at "rd"
  refine cNe (fun c => ?_) (fun c => ?_)
  · refine ⟨fun σ' H'' => ∃ v', σ' = [some (.int b'), some (.int (a'.fmod b')), v'] ∧ H'' = H', ?_, ?_⟩
    · rintro σ' H'' ⟨v', rfl, rfl⟩
      exact ⟨(a'.fmod b').toNat, K1.less (by omega), _, _, v', rfl, rfl, rfl, K1.turn hg h1 (by omega)⟩
    · refine ⟨_, rfl, _, rfl, _, _, rfl, rfl, c, ?_⟩
      walk_at "rd"
      rfl
  · refine ⟨_, rfl, ?_⟩
    show Q (.int a') H'
    rw [K1.out hg h1 c]
    exact k
end
end K10
namespace K10
open PySem L2
open K1 K2 K3 K6 K8
section
variable {P : Program} {w : World} {K : PySem.W.Frag} {mg : Str → Option Value} {base : Heap} {f : Addr} {fd : FuncData} {C_Ring C_Fractions C_Rests C_Order C_Degrees C_Tails : Addr} {E_NoPrime E_NoRing : Addr}
local macro_rules | `(tactic| walk_at "sd") => `(tactic| first
  | assumption | (dsimp only; omega) | (dsimp only; decide) | exact ⟨by decide, by decide⟩ | exact ⟨by decide, by decide, by decide⟩ | exact Or.inl ⟨by decide, by decide⟩ | exact ⟨by omega, by omega⟩ | exact Or.inl ⟨by omega, by omega⟩ | exact Or.inr ⟨by decide, by decide⟩ | exact Or.inr ⟨by omega, by omega⟩)
local macro_rules | `(tactic| walk_at "rd") => `(tactic| repeat first
  | refine ⟨_, rfl, ?_⟩ | refine ⟨_, _, rfl, rfl, ?_⟩ | refine And.intro rfl ?_ | refine And.intro (by walk_at "sd") ?_ | with_reducible refine iteT ?_ | with_reducible refine iteF ?_ | (apply ixT_of; assumption; rfl))
local macro_rules | `(tactic| walk_at "clo") => `(tactic| exact h)

theorem scPrime : FnScope ["number", "divisor"] ["number"] (defScope s_is_prime) := ⟨rfl, rfl, rfl, by decide +kernel, rfl, by decide +kernel, by decide +kernel⟩
set_option maxHeartbeats 4000000 in
theorem ok_Prime  (F : FunD K "is_prime" "is_prime" s_is_prime .none f fd) (T : Txt K mg C_Ring C_Fractions C_Rests C_Order C_Degrees C_Tails)   : FnOk P w K mg base CX0 1 f fd ["number"] spPrime := by
  refine F.okN (k := 0) scPrime (fun vs H Q E h => ?_) (fun cdv A outer s H vs Q E hr h => ?_)
  · obtain ⟨n, rfl, _⟩ := h
    rfl
  obtain ⟨n, rfl, h⟩ := h
  refine ⟨_, (pss_cons (ps_if (pt_cmpR op_lt (pv 0) (pe_int) (nomark _)) (pss_one (ps_ret (pe_bl))) pss_nil)
    (pss_cons (ps_set (i := 1) scPrime.nd rfl (Or.inl rfl) (pe_int))
    (pss_cons (ps_while PassesOwn.never (pt_cmpR op_le (pe_op op_mul (pv 1) (pv 1)) (pv 0) (nomark _)) (pss_cons (ps_if (pt_cmpR op_eq (pe_op op_modN (pv 0) (pv 1)) (pe_int) (nomark _)) (pss_one (ps_ret (pe_bl))) pss_nil)
    (pss_one (ps_aug (i := 1) scPrime.nd rfl (Or.inl rfl) (pe_int) ip_add))))
    (pss_one (ps_ret (pe_bl)))))), ?_⟩
  obtain ⟨hn, k⟩ := h
  walk_at "rd"
  refine cD (fun c => ?_) (fun c => ?_)
  · show Q (.bl false) H
    rw [low c]
    exact k
  refine ⟨fun m σ H' => ∃ d : Int, m = (200 - d).toNat ∧ σ = [some (.int n), some (.int d)] ∧ H' = H ∧ 2 ≤ d ∧ d ≤ 101 ∧ NoDiv n d, ⟨_, 2, rfl, rfl, rfl, K3.start n⟩, ?_⟩
  rintro m σ H' ⟨d, rfl, rfl, rfl, h2, h3, hd⟩
  refine ⟨_, rfl, _, rfl, _, _, rfl, rfl, .inl (sq_small (n := n) h2 h3), ?_⟩
  walk_at "rd"
  refine cD (fun q => ?_) (fun q => ?_)
  · refine ⟨fun σ' H'' => σ' = [some (.int n), some (.int (d + 1))] ∧ H'' = H' ∧ ¬ Int.fmod n d = 0, ?_, ?_⟩
    · rintro σ' H'' ⟨rfl, rfl, nz⟩
      exact ⟨(200 - (d + 1)).toNat, K3.less h2 q hn, d + 1, rfl, rfl, rfl, K3.turn hd nz h2 q hn⟩
    · refine ⟨_, rfl, _, rfl, _, _, rfl, rfl, (by show d ≠ 0; omega), ?_⟩
      walk_at "rd"
      refine cEq (fun z => ?_) (fun z => ?_)
      · show Q (.bl false) H'
        rw [found h2 q z]
        exact k
      · walk_at "rd"
        exact z
  · show Q (.bl true) H'
    rw [K3.out hd (by omega) h2 q]
    exact k
end
end K10
namespace K10
open PySem L2
open K1 K2 K3 K6 K8
section
variable {P : Program} {w : World} {K : PySem.W.Frag} {mg : Str → Option Value} {base : Heap} {f : Addr} {fd : FuncData} {C_Ring C_Fractions C_Rests C_Order C_Degrees C_Tails : Addr} {E_NoPrime E_NoRing : Addr}
local macro_rules | `(tactic| walk_at "sd") => `(tactic| first
  | assumption | (dsimp only; omega) | (dsimp only; decide) | exact ⟨by decide, by decide⟩ | exact ⟨by decide, by decide, by decide⟩ | exact Or.inl ⟨by decide, by decide⟩ | exact ⟨by omega, by omega⟩ | exact Or.inl ⟨by omega, by omega⟩ | exact Or.inr ⟨by decide, by decide⟩ | exact Or.inr ⟨by omega, by omega⟩)
local macro_rules | `(tactic| walk_at "rd") => `(tactic| repeat first
  | refine ⟨_, rfl, ?_⟩ | refine ⟨_, _, rfl, rfl, ?_⟩ | refine And.intro rfl ?_ | refine And.intro (by walk_at "sd") ?_ | with_reducible refine iteT ?_ | with_reducible refine iteF ?_ | (apply ixT_of; assumption; rfl))
local macro_rules | `(tactic| walk_at "clo") => `(tactic| exact h)

theorem scFieldInit : FnScope ["self", "prime"] ["self", "prime"] (defScope s_Field___init__) := ⟨rfl, rfl, rfl, by decide +kernel, rfl, by decide +kernel, by decide +kernel⟩
set_option maxHeartbeats 4000000 in
theorem ok_FieldInit  (F : FunD K "__init__" "Field.__init__" s_Field___init__ .none f fd) (T : Txt K mg C_Ring C_Fractions C_Rests C_Order C_Degrees C_Tails)   : FnOk P w K mg base CX0 1 f fd ["self", "prime"] (spField K) := by
  refine F.okN (k := 0) scFieldInit (fun vs H Q E h => ?_) (fun cdv A outer s H vs Q E hr h => ?_)
  · obtain ⟨p, C, dx, v, rfl, _⟩ := h
    rfl
  obtain ⟨p, C, dx, v, rfl, h⟩ := h
  refine ⟨_, (pss_one (ps_fld (pv 0) (pv 1) rfl)), ?_⟩
  obtain ⟨hp, hc, ha, k⟩ := h
  exact ⟨_, rfl, _, rfl, p, C, dx, [], rfl, hp, hc, ha, (by show 0 < 1000; decide), k⟩
end
end K10
namespace K10
open PySem L2
open K1 K2 K3 K6 K8
section
variable {P : Program} {w : World} {K : PySem.W.Frag} {mg : Str → Option Value} {base : Heap} {f : Addr} {fd : FuncData} {C_Ring C_Fractions C_Rests C_Order C_Degrees C_Tails : Addr} {E_NoPrime E_NoRing : Addr}
local macro_rules | `(tactic| walk_at "sd") => `(tactic| first
  | assumption | (dsimp only; omega) | (dsimp only; decide) | exact ⟨by decide, by decide⟩ | exact ⟨by decide, by decide, by decide⟩ | exact Or.inl ⟨by decide, by decide⟩ | exact ⟨by omega, by omega⟩ | exact Or.inl ⟨by omega, by omega⟩ | exact Or.inr ⟨by decide, by decide⟩ | exact Or.inr ⟨by omega, by omega⟩)
local macro_rules | `(tactic| walk_at "rd") => `(tactic| repeat first
  | refine ⟨_, rfl, ?_⟩ | refine ⟨_, _, rfl, rfl, ?_⟩ | refine And.intro rfl ?_ | refine And.intro (by walk_at "sd") ?_ | with_reducible refine iteT ?_ | with_reducible refine iteF ?_ | (apply ixT_of; assumption; rfl))
local macro_rules | `(tactic| walk_at "clo") => `(tactic| exact h)

theorem scFracInit : FnScope ["self"] ["self"] (defScope s_Fractions___init__) := ⟨rfl, rfl, rfl, by decide +kernel, rfl, by decide +kernel, by decide +kernel⟩
set_option maxHeartbeats 4000000 in
theorem ok_FracInit  (F : FunD K "__init__" "Fractions.__init__" s_Fractions___init__ .none f fd) (T : Txt K mg C_Ring C_Fractions C_Rests C_Order C_Degrees C_Tails) (q_FieldInit : CCal P w K mg base CX0 1 "Field" "__init__" ["self", "prime"] [] (spField K))  : FnOk P w K mg base CX0 2 f fd ["self"] (spFracInit C_Fractions) := by
  refine F.okN (k := 1) scFracInit (fun vs H Q E h => ?_) (fun cdv A outer s H vs Q E hr h => ?_)
  · obtain ⟨p, dx, rfl, _⟩ := h
    rfl
  obtain ⟨p, dx, rfl, h⟩ := h
  refine ⟨_, (pss_one (ps_expr (pe_cm q_FieldInit hr pass00 .nil ((pa_cons (pv 0) (pa_cons (pe_int) pa_nil)))))), ?_⟩
  obtain ⟨hp, k⟩ := h
  exact ⟨_, rfl, p, _, dx, _, rfl, hp, T.cl_Fractions, T.na_Fractions_prime, k⟩
end
end K10
namespace K10
open PySem L2
open K1 K2 K3 K6 K8
section
variable {P : Program} {w : World} {K : PySem.W.Frag} {mg : Str → Option Value} {base : Heap} {f : Addr} {fd : FuncData} {C_Ring C_Fractions C_Rests C_Order C_Degrees C_Tails : Addr} {E_NoPrime E_NoRing : Addr}
local macro_rules | `(tactic| walk_at "sd") => `(tactic| first
  | assumption | (dsimp only; omega) | (dsimp only; decide) | exact ⟨by decide, by decide⟩ | exact ⟨by decide, by decide, by decide⟩ | exact Or.inl ⟨by decide, by decide⟩ | exact ⟨by omega, by omega⟩ | exact Or.inl ⟨by omega, by omega⟩ | exact Or.inr ⟨by decide, by decide⟩ | exact Or.inr ⟨by omega, by omega⟩)
local macro_rules | `(tactic| walk_at "rd") => `(tactic| repeat first
  | refine ⟨_, rfl, ?_⟩ | refine ⟨_, _, rfl, rfl, ?_⟩ | refine And.intro rfl ?_ | refine And.intro (by walk_at "sd") ?_ | with_reducible refine iteT ?_ | with_reducible refine iteF ?_ | (apply ixT_of; assumption; rfl))
local macro_rules | `(tactic| walk_at "clo") => `(tactic| exact h)

theorem scNought : FnScope ["self"] ["self"] (defScope s_Fractions_nought) := ⟨rfl, rfl, rfl, by decide +kernel, rfl, by decide +kernel, by decide +kernel⟩
set_option maxHeartbeats 4000000 in
theorem ok_Nought  (F : FunD K "nought" "Fractions.nought" s_Fractions_nought .none f fd) (T : Txt K mg C_Ring C_Fractions C_Rests C_Order C_Degrees C_Tails)   : FnOk P w K mg base CX0 1 f fd ["self"] (spPair 0 1) := by
  refine F.okN (k := 0) scNought (fun vs H Q E h => ?_) (fun cdv A outer s H vs Q E hr h => ?_)
  · obtain ⟨p, rfl, _⟩ := h
    rfl
  obtain ⟨p, rfl, h⟩ := h
  refine ⟨_, (pss_one (ps_ret (pe_tup ((pa_cons (pe_int) (pa_cons (pe_int) pa_nil)))))), ?_⟩
  exact ⟨(by show 2 ≤ sizeLine; decide), fun r hr' => h r _ (Same.upd hr') upd_same⟩
end
end K10
namespace K10
open PySem L2
open K1 K2 K3 K6 K8
section
variable {P : Program} {w : World} {K : PySem.W.Frag} {mg : Str → Option Value} {base : Heap} {f : Addr} {fd : FuncData} {C_Ring C_Fractions C_Rests C_Order C_Degrees C_Tails : Addr} {E_NoPrime E_NoRing : Addr}
local macro_rules | `(tactic| walk_at "sd") => `(tactic| first
  | assumption | (dsimp only; omega) | (dsimp only; decide) | exact ⟨by decide, by decide⟩ | exact ⟨by decide, by decide, by decide⟩ | exact Or.inl ⟨by decide, by decide⟩ | exact ⟨by omega, by omega⟩ | exact Or.inl ⟨by omega, by omega⟩ | exact Or.inr ⟨by decide, by decide⟩ | exact Or.inr ⟨by omega, by omega⟩)
local macro_rules | `(tactic| walk_at "rd") => `(tactic| repeat first
  | refine ⟨_, rfl, ?_⟩ | refine ⟨_, _, rfl, rfl, ?_⟩ | refine And.intro rfl ?_ | refine And.intro (by walk_at "sd") ?_ | with_reducible refine iteT ?_ | with_reducible refine iteF ?_ | (apply ixT_of; assumption; rfl))
local macro_rules | `(tactic| walk_at "clo") => `(tactic| exact h)

theorem scOne : FnScope ["self"] ["self"] (defScope s_Fractions_one) := ⟨rfl, rfl, rfl, by decide +kernel, rfl, by decide +kernel, by decide +kernel⟩
set_option maxHeartbeats 4000000 in
theorem ok_One  (F : FunD K "one" "Fractions.one" s_Fractions_one .none f fd) (T : Txt K mg C_Ring C_Fractions C_Rests C_Order C_Degrees C_Tails)   : FnOk P w K mg base CX0 1 f fd ["self"] (spPair 1 1) := by
  refine F.okN (k := 0) scOne (fun vs H Q E h => ?_) (fun cdv A outer s H vs Q E hr h => ?_)
  · obtain ⟨p, rfl, _⟩ := h
    rfl
  obtain ⟨p, rfl, h⟩ := h
  refine ⟨_, (pss_one (ps_ret (pe_tup ((pa_cons (pe_int) (pa_cons (pe_int) pa_nil)))))), ?_⟩
  exact ⟨(by show 2 ≤ sizeLine; decide), fun r hr' => h r _ (Same.upd hr') upd_same⟩
end
end K10
namespace K10
open PySem L2
open K1 K2 K3 K6 K8
section
variable {P : Program} {w : World} {K : PySem.W.Frag} {mg : Str → Option Value} {base : Heap} {f : Addr} {fd : FuncData} {C_Ring C_Fractions C_Rests C_Order C_Degrees C_Tails : Addr} {E_NoPrime E_NoRing : Addr}
local macro_rules | `(tactic| walk_at "sd") => `(tactic| first
  | assumption | (dsimp only; omega) | (dsimp only; decide) | exact ⟨by decide, by decide⟩ | exact ⟨by decide, by decide, by decide⟩ | exact Or.inl ⟨by decide, by decide⟩ | exact ⟨by omega, by omega⟩ | exact Or.inl ⟨by omega, by omega⟩ | exact Or.inr ⟨by decide, by decide⟩ | exact Or.inr ⟨by omega, by omega⟩)
local macro_rules | `(tactic| walk_at "rd") => `(tactic| repeat first
  | refine ⟨_, rfl, ?_⟩ | refine ⟨_, _, rfl, rfl, ?_⟩ | refine And.intro rfl ?_ | refine And.intro (by walk_at "sd") ?_ | with_reducible refine iteT ?_ | with_reducible refine iteF ?_ | (apply ixT_of; assumption; rfl))
local macro_rules | `(tactic| walk_at "clo") => `(tactic| exact h)

theorem scPlusF : FnScope ["self", "a", "b", "shared", "top", "further"] ["self", "a", "b"] (defScope s_Fractions_plus) := ⟨rfl, rfl, rfl, by decide +kernel, rfl, by decide +kernel, by decide +kernel⟩
set_option maxHeartbeats 4000000 in
theorem ok_PlusF  (F : FunD K "plus" "Fractions.plus" s_Fractions_plus .none f fd) (T : Txt K mg C_Ring C_Fractions C_Rests C_Order C_Degrees C_Tails) (c_Shared : Cal P w K mg base CX0 1 "shared_divisor" ["one", "other"] [] spShared)  : FnOk P w K mg base CX0 2 f fd ["self", "a", "b"] (spBinF C_Fractions (fun x y z w => x * w + z * y) (fun x y z w => y * w)) := by
  refine F.okN (k := 1) scPlusF (fun vs H Q E h => ?_) (fun cdv A outer s H vs Q E hr h => ?_)
  · obtain ⟨p, dx, ra, rb, x, y, z, w, rfl, _⟩ := h
    rfl
  obtain ⟨p, dx, ra, rb, x, y, z, w, rfl, h⟩ := h
  refine ⟨_, (pss_cons (ps_if (PW.pt (pw_and (pt_cmpR op_eq (pe_ix (r := rIxT K) ix_tup (pv 1) (pe_int) (fun _ _ => rfl)) (pe_int) (nomark _)) (pw_and1 (pt_cmpR op_eq (pe_ix (r := rIxT K) ix_tup (pv 2) (pe_int) (fun _ _ => rfl)) (pe_int) (nomark _))))) (pss_one (ps_ret (pe_tup ((pa_cons (pe_op op_add (pe_ix (r := rIxT K) ix_tup (pv 1) (pe_int) (fun _ _ => rfl)) (pe_ix (r := rIxT K) ix_tup (pv 2) (pe_int) (fun _ _ => rfl))) (pa_cons (pe_int) pa_nil)))))) pss_nil)
    (pss_cons (ps_set (i := 3) scPlusF.nd rfl (Or.inl rfl) (pe_c c_Shared hr pass00 .nil ((pa_cons (pe_ix (r := rIxT K) ix_tup (pv 1) (pe_int) (fun _ _ => rfl)) (pa_cons (pe_ix (r := rIxT K) ix_tup (pv 2) (pe_int) (fun _ _ => rfl)) pa_nil)))))
    (pss_cons (ps_set (i := 4) scPlusF.nd rfl (Or.inl rfl) (pe_op op_add (pe_op op_mulB (pe_ix (r := rIxT K) ix_tup (pv 1) (pe_int) (fun _ _ => rfl)) (pe_op op_fdivB (pe_ix (r := rIxT K) ix_tup (pv 2) (pe_int) (fun _ _ => rfl)) (pv 3))) (pe_op op_mulB (pe_ix (r := rIxT K) ix_tup (pv 2) (pe_int) (fun _ _ => rfl)) (pe_op op_fdivB (pe_ix (r := rIxT K) ix_tup (pv 1) (pe_int) (fun _ _ => rfl)) (pv 3)))))
    (pss_cons (ps_set (i := 5) scPlusF.nd rfl (Or.inl rfl) (pe_c c_Shared hr pass00 .nil ((pa_cons (pe_callB call_abs rfl T.b_abs (by kernel_rfl) ((pa_cons (pv 4) pa_nil))) (pa_cons (pv 3) pa_nil)))))
    (pss_one (ps_ret (pe_tup ((pa_cons (pe_op op_fdivB (pv 4) (pv 5)) (pa_cons (pe_op op_mulB (pe_op op_fdivB (pe_ix (r := rIxT K) ix_tup (pv 1) (pe_int) (fun _ _ => rfl)) (pv 3)) (pe_op op_fdivB (pe_ix (r := rIxT K) ix_tup (pv 2) (pe_int) (fun _ _ => rfl)) (pv 5))) pa_nil)))))))))), ?_⟩
  obtain ⟨hp, ha, hb, na, nb, k⟩ := h
  have y0 : y ≠ 0 := by have := na.pos; omega
  have w0 : w ≠ 0 := by have := nb.pos; omega
  have yp := na.pos
  have wp := nb.pos
  have A := SqT.of (K := K) ha
  have B := SqT.of (K := K) hb
  obtain ⟨m1, m2, m3, m4, m5⟩ := na.mul nb
  obtain ⟨u1, u2⟩ := plus_low yp wp na.cop nb.cop
  have g0 := gI_bd (a := y) w0 nb.bz
  have gy := gI_nonneg y w
  have d1 : CDivB w (gI y w) := ⟨g0.1, up g0.2 (by decide)⟩
  have d2 : CDivB y (gI y w) := ⟨g0.1, up g0.2 (by decide)⟩
  have e1 := fdr (a := y) w0 nb.bz
  have e2 := fdl (b := w) w0 na.bz
  have n1 : CMulB x (Int.fdiv w (gI y w)) := ⟨up na.bx (by decide), up e1 (by decide)⟩
  have n2 : CMulB z (Int.fdiv y (gI y w)) := ⟨up nb.bx (by decide), up e2 (by decide)⟩
  have f0 := gI_bd (a := x * Int.fdiv w (gI y w) + z * Int.fdiv y (gI y w)) g0.1 g0.2
  have dw : gI (x * Int.fdiv w (gI y w) + z * Int.fdiv y (gI y w)) (gI y w) ∣ w := Int.dvd_trans (gI_dvd_r _ _) (gI_dvd_r _ _)
  have d3 : CDivB (x * Int.fdiv w (gI y w) + z * Int.fdiv y (gI y w)) (gI (x * Int.fdiv w (gI y w) + z * Int.fdiv y (gI y w)) (gI y w)) := ⟨f0.1, up f0.2 (by decide)⟩
  have d4 : CDivB w (gI (x * Int.fdiv w (gI y w) + z * Int.fdiv y (gI y w)) (gI y w)) := ⟨f0.1, up f0.2 (by decide)⟩
  have n3 : CMulB (Int.fdiv y (gI y w)) (Int.fdiv w (gI (x * Int.fdiv w (gI y w) + z * Int.fdiv y (gI y w)) (gI y w))) := ⟨up e2 (by decide), up (Nat.lt_of_le_of_lt (fd_le dw f0.1) nb.bz) (by decide)⟩
  walk_at "rd"
  refine cEq (fun c1 => ?_) (fun c1 => ?_)
  · walk_at "rd"
    refine cEq (fun c2 => ?_) (fun c2 => ?_)
    · walk_at "rd"
      refine ⟨(by show 2 ≤ sizeLine; decide), fun r hr' => ?_⟩
      refine k r _ (Same.upd hr') ?_
      subst c1 c2
      simp only [Int.mul_one, (f_one _).1, (f_one _).2]
      exact upd_same
    · walk_at "rd"
      refine ⟨_, _, rfl, by omega, by omega, ?_⟩
      walk_at "rd"
      refine ⟨_, _, rfl, by split <;> omega, gy, ?_⟩
      rw [gI_abs1]
      walk_at "rd"
      refine ⟨(by show 2 ≤ sizeLine; decide), fun r hr' => ?_⟩
      refine k r _ (Same.upd hr') ?_
      show _ = some (HO.tup [V.int (fT (x * w + z * y) (y * w)), V.int (fB (x * w + z * y) (y * w))])
      rw [← u1, ← u2]
      exact upd_same
  · walk_at "rd"
    refine ⟨_, _, rfl, by omega, by omega, ?_⟩
    walk_at "rd"
    refine ⟨_, _, rfl, by split <;> omega, gy, ?_⟩
    rw [gI_abs1]
    walk_at "rd"
    refine ⟨(by show 2 ≤ sizeLine; decide), fun r hr' => ?_⟩
    refine k r _ (Same.upd hr') ?_
    show _ = some (HO.tup [V.int (fT (x * w + z * y) (y * w)), V.int (fB (x * w + z * y) (y * w))])
    rw [← u1, ← u2]
    exact upd_same
end
end K10
namespace K10
open PySem L2
open K1 K2 K3 K6 K8
section
variable {P : Program} {w : World} {K : PySem.W.Frag} {mg : Str → Option Value} {base : Heap} {f : Addr} {fd : FuncData} {C_Ring C_Fractions C_Rests C_Order C_Degrees C_Tails : Addr} {E_NoPrime E_NoRing : Addr}
local macro_rules | `(tactic| walk_at "sd") => `(tactic| first
  | assumption | (dsimp only; omega) | (dsimp only; decide) | exact ⟨by decide, by decide⟩ | exact ⟨by decide, by decide, by decide⟩ | exact Or.inl ⟨by decide, by decide⟩ | exact ⟨by omega, by omega⟩ | exact Or.inl ⟨by omega, by omega⟩ | exact Or.inr ⟨by decide, by decide⟩ | exact Or.inr ⟨by omega, by omega⟩)
local macro_rules | `(tactic| walk_at "rd") => `(tactic| repeat first
  | refine ⟨_, rfl, ?_⟩ | refine ⟨_, _, rfl, rfl, ?_⟩ | refine And.intro rfl ?_ | refine And.intro (by walk_at "sd") ?_ | with_reducible refine iteT ?_ | with_reducible refine iteF ?_ | (apply ixT_of; assumption; rfl))
local macro_rules | `(tactic| walk_at "clo") => `(tactic| exact h)

theorem scTimesF : FnScope ["self", "a", "b", "one", "other"] ["self", "a", "b"] (defScope s_Fractions_times) := ⟨rfl, rfl, rfl, by decide +kernel, rfl, by decide +kernel, by decide +kernel⟩
set_option maxHeartbeats 4000000 in
theorem ok_TimesF  (F : FunD K "times" "Fractions.times" s_Fractions_times .none f fd) (T : Txt K mg C_Ring C_Fractions C_Rests C_Order C_Degrees C_Tails) (c_Shared : Cal P w K mg base CX0 1 "shared_divisor" ["one", "other"] [] spShared)  : FnOk P w K mg base CX0 2 f fd ["self", "a", "b"] (spBinF C_Fractions (fun x y z w => x * z) (fun x y z w => y * w)) := by
  refine F.okN (k := 1) scTimesF (fun vs H Q E h => ?_) (fun cdv A outer s H vs Q E hr h => ?_)
  · obtain ⟨p, dx, ra, rb, x, y, z, w, rfl, _⟩ := h
    rfl
  obtain ⟨p, dx, ra, rb, x, y, z, w, rfl, h⟩ := h
  refine ⟨_, (pss_cons (ps_if (PW.pt (pw_and (pt_cmpR op_eq (pe_ix (r := rIxT K) ix_tup (pv 1) (pe_int) (fun _ _ => rfl)) (pe_int) (nomark _)) (pw_and1 (pt_cmpR op_eq (pe_ix (r := rIxT K) ix_tup (pv 2) (pe_int) (fun _ _ => rfl)) (pe_int) (nomark _))))) (pss_one (ps_ret (pe_tup ((pa_cons (pe_op op_mulB (pe_ix (r := rIxT K) ix_tup (pv 1) (pe_int) (fun _ _ => rfl)) (pe_ix (r := rIxT K) ix_tup (pv 2) (pe_int) (fun _ _ => rfl))) (pa_cons (pe_int) pa_nil)))))) pss_nil)
    (pss_cons (ps_set (i := 3) scTimesF.nd rfl (Or.inl rfl) (pe_c c_Shared hr pass00 .nil ((pa_cons (pe_callB call_abs rfl T.b_abs (by kernel_rfl) ((pa_cons (pe_ix (r := rIxT K) ix_tup (pv 1) (pe_int) (fun _ _ => rfl)) pa_nil))) (pa_cons (pe_ix (r := rIxT K) ix_tup (pv 2) (pe_int) (fun _ _ => rfl)) pa_nil)))))
    (pss_cons (ps_set (i := 4) scTimesF.nd rfl (Or.inl rfl) (pe_c c_Shared hr pass00 .nil ((pa_cons (pe_callB call_abs rfl T.b_abs (by kernel_rfl) ((pa_cons (pe_ix (r := rIxT K) ix_tup (pv 2) (pe_int) (fun _ _ => rfl)) pa_nil))) (pa_cons (pe_ix (r := rIxT K) ix_tup (pv 1) (pe_int) (fun _ _ => rfl)) pa_nil)))))
    (pss_one (ps_ret (pe_tup ((pa_cons (pe_op op_mulB (pe_op op_fdivB (pe_ix (r := rIxT K) ix_tup (pv 1) (pe_int) (fun _ _ => rfl)) (pv 3)) (pe_op op_fdivB (pe_ix (r := rIxT K) ix_tup (pv 2) (pe_int) (fun _ _ => rfl)) (pv 4))) (pa_cons (pe_op op_mulB (pe_op op_fdivB (pe_ix (r := rIxT K) ix_tup (pv 1) (pe_int) (fun _ _ => rfl)) (pv 4)) (pe_op op_fdivB (pe_ix (r := rIxT K) ix_tup (pv 2) (pe_int) (fun _ _ => rfl)) (pv 3))) pa_nil))))))))), ?_⟩
  obtain ⟨hp, ha, hb, na, nb, k⟩ := h
  have y0 : y ≠ 0 := by have := na.pos; omega
  have w0 : w ≠ 0 := by have := nb.pos; omega
  have yp := na.pos
  have wp := nb.pos
  have A := SqT.of (K := K) ha
  have B := SqT.of (K := K) hb
  obtain ⟨m1, m2, m3, m4, m5⟩ := na.mul nb
  obtain ⟨u1, u2⟩ := times_low yp wp na.cop nb.cop
  have g1 := gI_bd (a := x) w0 nb.bz
  have g2 := gI_bd (a := z) y0 na.bz
  have d1 : CDivB x (gI x w) := ⟨g1.1, up g1.2 (by decide)⟩
  have d2 : CDivB z (gI z y) := ⟨g2.1, up g2.2 (by decide)⟩
  have d3 : CDivB y (gI z y) := ⟨g2.1, up g2.2 (by decide)⟩
  have d4 : CDivB w (gI x w) := ⟨g1.1, up g1.2 (by decide)⟩
  have n1 : CMulB (Int.fdiv x (gI x w)) (Int.fdiv z (gI z y)) := ⟨up (fdl w0 na.bx) (by decide), up (fdl y0 nb.bx) (by decide)⟩
  have n2 : CMulB (Int.fdiv y (gI z y)) (Int.fdiv w (gI x w)) := ⟨up (fdr y0 na.bz) (by decide), up (fdr w0 nb.bz) (by decide)⟩
  walk_at "rd"
  refine cEq (fun c1 => ?_) (fun c1 => ?_)
  · walk_at "rd"
    refine cEq (fun c2 => ?_) (fun c2 => ?_)
    · walk_at "rd"
      refine ⟨(by show 2 ≤ sizeLine; decide), fun r hr' => ?_⟩
      refine k r _ (Same.upd hr') ?_
      subst c1 c2
      simp only [Int.mul_one, (f_one _).1, (f_one _).2]
      exact upd_same
    · walk_at "rd"
      refine ⟨_, _, rfl, by split <;> omega, by omega, ?_⟩
      rw [gI_abs1]
      walk_at "rd"
      refine ⟨_, _, rfl, by split <;> omega, by omega, ?_⟩
      rw [gI_abs1]
      walk_at "rd"
      refine ⟨(by show 2 ≤ sizeLine; decide), fun r hr' => ?_⟩
      refine k r _ (Same.upd hr') ?_
      show _ = some (HO.tup [V.int (fT (x * z) (y * w)), V.int (fB (x * z) (y * w))])
      rw [← u1, ← u2]
      exact upd_same
  · walk_at "rd"
    refine ⟨_, _, rfl, by split <;> omega, by omega, ?_⟩
    rw [gI_abs1]
    walk_at "rd"
    refine ⟨_, _, rfl, by split <;> omega, by omega, ?_⟩
    rw [gI_abs1]
    walk_at "rd"
    refine ⟨(by show 2 ≤ sizeLine; decide), fun r hr' => ?_⟩
    refine k r _ (Same.upd hr') ?_
    show _ = some (HO.tup [V.int (fT (x * z) (y * w)), V.int (fB (x * z) (y * w))])
    rw [← u1, ← u2]
    exact upd_same
end
end K10
namespace K10
open PySem L2
open K1 K2 K3 K6 K8
section
variable {P : Program} {w : World} {K : PySem.W.Frag} {mg : Str → Option Value} {base : Heap} {f : Addr} {fd : FuncData} {C_Ring C_Fractions C_Rests C_Order C_Degrees C_Tails : Addr} {E_NoPrime E_NoRing : Addr}
local macro_rules | `(tactic| walk_at "sd") => `(tactic| first
  | assumption | (dsimp only; omega) | (dsimp only; decide) | exact ⟨by decide, by decide⟩ | exact ⟨by decide, by decide, by decide⟩ | exact Or.inl ⟨by decide, by decide⟩ | exact ⟨by omega, by omega⟩ | exact Or.inl ⟨by omega, by omega⟩ | exact Or.inr ⟨by decide, by decide⟩ | exact Or.inr ⟨by omega, by omega⟩)
local macro_rules | `(tactic| walk_at "rd") => `(tactic| repeat first
  | refine ⟨_, rfl, ?_⟩ | refine ⟨_, _, rfl, rfl, ?_⟩ | refine And.intro rfl ?_ | refine And.intro (by walk_at "sd") ?_ | with_reducible refine iteT ?_ | with_reducible refine iteF ?_ | (apply ixT_of; assumption; rfl))
local macro_rules | `(tactic| walk_at "clo") => `(tactic| exact h)

theorem scAgF : FnScope ["self", "a"] ["self", "a"] (defScope s_Fractions_against) := ⟨rfl, rfl, rfl, by decide +kernel, rfl, by decide +kernel, by decide +kernel⟩
set_option maxHeartbeats 4000000 in
theorem ok_AgF  (F : FunD K "against" "Fractions.against" s_Fractions_against .none f fd) (T : Txt K mg C_Ring C_Fractions C_Rests C_Order C_Degrees C_Tails)   : FnOk P w K mg base CX0 1 f fd ["self", "a"] spAgF := by
  refine F.okN (k := 0) scAgF (fun vs H Q E h => ?_) (fun cdv A outer s H vs Q E hr h => ?_)
  · obtain ⟨p, ra, x, y, rfl, _⟩ := h
    rfl
  obtain ⟨p, ra, x, y, rfl, h⟩ := h
  refine ⟨_, (pss_one (ps_ret (pe_tup ((pa_cons (pe_un un_neg (pe_ix (r := rIxT K) ix_tup (pv 1) (pe_int) (fun _ _ => rfl))) (pa_cons (pe_ix (r := rIxT K) ix_tup (pv 1) (pe_int) (fun _ _ => rfl)) pa_nil)))))), ?_⟩
  obtain ⟨ha, k⟩ := h
  refine ⟨_, rfl, ra, _, _, _, rfl, rfl, SqT.of ha, rfl, _, rfl, _, rfl, ra, _, _, _, rfl, rfl, SqT.of ha, rfl, (by show 2 ≤ sizeLine; decide), fun r hr' => ?_⟩
  exact k r _ (Same.upd hr') upd_same
end
end K10
namespace K10
open PySem L2
open K1 K2 K3 K6 K8
section
variable {P : Program} {w : World} {K : PySem.W.Frag} {mg : Str → Option Value} {base : Heap} {f : Addr} {fd : FuncData} {C_Ring C_Fractions C_Rests C_Order C_Degrees C_Tails : Addr} {E_NoPrime E_NoRing : Addr}
local macro_rules | `(tactic| walk_at "sd") => `(tactic| first
  | assumption | (dsimp only; omega) | (dsimp only; decide) | exact ⟨by decide, by decide⟩ | exact ⟨by decide, by decide, by decide⟩ | exact Or.inl ⟨by decide, by decide⟩ | exact ⟨by omega, by omega⟩ | exact Or.inl ⟨by omega, by omega⟩ | exact Or.inr ⟨by decide, by decide⟩ | exact Or.inr ⟨by omega, by omega⟩)
local macro_rules | `(tactic| walk_at "rd") => `(tactic| repeat first
  | refine ⟨_, rfl, ?_⟩ | refine ⟨_, _, rfl, rfl, ?_⟩ | refine And.intro rfl ?_ | refine And.intro (by walk_at "sd") ?_ | with_reducible refine iteT ?_ | with_reducible refine iteF ?_ | (apply ixT_of; assumption; rfl))
local macro_rules | `(tactic| walk_at "clo") => `(tactic| exact h)

theorem scRestsInit : FnScope ["self", "prime"] ["self", "prime"] (defScope s_Rests___init__) := ⟨rfl, rfl, rfl, by decide +kernel, rfl, by decide +kernel, by decide +kernel⟩
set_option maxHeartbeats 4000000 in
theorem ok_RestsInit  (F : FunD K "__init__" "Rests.__init__" s_Rests___init__ .none f fd) (T : Txt K mg C_Ring C_Fractions C_Rests C_Order C_Degrees C_Tails) (c_Prime : Cal P w K mg base CX0 1 "is_prime" ["number"] [] spPrime) (q_FieldInit : CCal P w K mg base CX0 1 "Field" "__init__" ["self", "prime"] [] (spField K)) (x_NoPrime : Exc K mg base "NoPrime" E_NoPrime)  : FnOk P w K mg base (CXe P w) 2 f fd ["self", "prime"] (spRests C_Rests E_NoPrime) := by
  refine F.okX (k := 1) scRestsInit (fun vs H Q E h => ?_) (fun cdv A outer s H vs Q E hr h => ?_)
  · obtain ⟨p, dx, n, rfl, _⟩ := h
    rfl
  obtain ⟨p, dx, n, rfl, h⟩ := h
  refine ⟨_, (pss_cons (ps_if (PW.pt (pw_or (pt_cmpR op_gt (pv 1) (pe_globI T.g_GREATEST_PRIME rfl) (nomark _)) (pw_or1 (pt_not (pt_val (pe_c c_Prime hr pass00 .nil ((pa_cons (pv 1) pa_nil)))))))) (pss_one (ps_rz x_NoPrime rfl rfl raisesTo_body ((pa_cons (pe_str) pa_nil)))) pss_nil)
    (pss_one (ps_expr (pe_cm q_FieldInit hr pass00 .nil ((pa_cons (pv 0) (pa_cons (pv 1) pa_nil))))))), ?_⟩
  obtain ⟨hp, k⟩ := h
  walk_at "rd"
  refine cD (fun c => ?_) (fun c => ?_)
  · walk_at "rd"
    refine ⟨(by show 1 ≤ sizeLine; decide), ?_⟩
    rcases k with ⟨q, _⟩ | ⟨_, q⟩
    · omega
    · exact q
  · refine ⟨_, rfl, n, rfl, by omega, _, rfl, ?_⟩
    rcases k with ⟨_, q1, q2⟩ | ⟨q1, q2⟩
    · rw [q1]
      refine iteF ?_
      exact ⟨_, rfl, _, rfl, p, C_Rests, dx, _, rfl, hp, T.cl_Rests, T.na_Rests_prime, q2⟩
    · have q : isP n = false := q1.resolve_left c
      rw [q]
      exact iteT ⟨(by show 1 ≤ sizeLine; decide), q2⟩
end
end K10
namespace K10
open PySem L2
open K1 K2 K3 K6 K8
section
variable {P : Program} {w : World} {K : PySem.W.Frag} {mg : Str → Option Value} {base : Heap} {f : Addr} {fd : FuncData} {C_Ring C_Fractions C_Rests C_Order C_Degrees C_Tails : Addr} {E_NoPrime E_NoRing : Addr}
local macro_rules | `(tactic| walk_at "sd") => `(tactic| first
  | assumption | (dsimp only; omega) | (dsimp only; decide) | exact ⟨by decide, by decide⟩ | exact ⟨by decide, by decide, by decide⟩ | exact Or.inl ⟨by decide, by decide⟩ | exact ⟨by omega, by omega⟩ | exact Or.inl ⟨by omega, by omega⟩ | exact Or.inr ⟨by decide, by decide⟩ | exact Or.inr ⟨by omega, by omega⟩)
local macro_rules | `(tactic| walk_at "rd") => `(tactic| repeat first
  | refine ⟨_, rfl, ?_⟩ | refine ⟨_, _, rfl, rfl, ?_⟩ | refine And.intro rfl ?_ | refine And.intro (by walk_at "sd") ?_ | with_reducible refine iteT ?_ | with_reducible refine iteF ?_ | (apply ixT_of; assumption; rfl))
local macro_rules | `(tactic| walk_at "clo") => `(tactic| exact h)

theorem scNoughtR : FnScope ["self"] ["self"] (defScope s_Rests_nought) := ⟨rfl, rfl, rfl, by decide +kernel, rfl, by decide +kernel, by decide +kernel⟩
set_option maxHeartbeats 4000000 in
theorem ok_NoughtR  (F : FunD K "nought" "Rests.nought" s_Rests_nought .none f fd) (T : Txt K mg C_Ring C_Fractions C_Rests C_Order C_Degrees C_Tails)   : FnOk P w K mg base CX0 1 f fd ["self"] (spC (.int 0)) := by
  refine F.okN (k := 0) scNoughtR (fun vs H Q E h => ?_) (fun cdv A outer s H vs Q E hr h => ?_)
  · obtain ⟨p, rfl, _⟩ := h
    rfl
  obtain ⟨p, rfl, h⟩ := h
  refine ⟨_, (pss_one (ps_ret (pe_int))), ?_⟩
  exact h
end
end K10
namespace K10
open PySem L2
open K1 K2 K3 K6 K8
section
variable {P : Program} {w : World} {K : PySem.W.Frag} {mg : Str → Option Value} {base : Heap} {f : Addr} {fd : FuncData} {C_Ring C_Fractions C_Rests C_Order C_Degrees C_Tails : Addr} {E_NoPrime E_NoRing : Addr}
local macro_rules | `(tactic| walk_at "sd") => `(tactic| first
  | assumption | (dsimp only; omega) | (dsimp only; decide) | exact ⟨by decide, by decide⟩ | exact ⟨by decide, by decide, by decide⟩ | exact Or.inl ⟨by decide, by decide⟩ | exact ⟨by omega, by omega⟩ | exact Or.inl ⟨by omega, by omega⟩ | exact Or.inr ⟨by decide, by decide⟩ | exact Or.inr ⟨by omega, by omega⟩)
local macro_rules | `(tactic| walk_at "rd") => `(tactic| repeat first
  | refine ⟨_, rfl, ?_⟩ | refine ⟨_, _, rfl, rfl, ?_⟩ | refine And.intro rfl ?_ | refine And.intro (by walk_at "sd") ?_ | with_reducible refine iteT ?_ | with_reducible refine iteF ?_ | (apply ixT_of; assumption; rfl))
local macro_rules | `(tactic| walk_at "clo") => `(tactic| exact h)

theorem scOneR : FnScope ["self"] ["self"] (defScope s_Rests_one) := ⟨rfl, rfl, rfl, by decide +kernel, rfl, by decide +kernel, by decide +kernel⟩
set_option maxHeartbeats 4000000 in
theorem ok_OneR  (F : FunD K "one" "Rests.one" s_Rests_one .none f fd) (T : Txt K mg C_Ring C_Fractions C_Rests C_Order C_Degrees C_Tails)   : FnOk P w K mg base CX0 1 f fd ["self"] (spC (.int 1)) := by
  refine F.okN (k := 0) scOneR (fun vs H Q E h => ?_) (fun cdv A outer s H vs Q E hr h => ?_)
  · obtain ⟨p, rfl, _⟩ := h
    rfl
  obtain ⟨p, rfl, h⟩ := h
  refine ⟨_, (pss_one (ps_ret (pe_int))), ?_⟩
  exact h
end
end K10
namespace K10
open PySem L2
open K1 K2 K3 K6 K8
section
variable {P : Program} {w : World} {K : PySem.W.Frag} {mg : Str → Option Value} {base : Heap} {f : Addr} {fd : FuncData} {C_Ring C_Fractions C_Rests C_Order C_Degrees C_Tails : Addr} {E_NoPrime E_NoRing : Addr}
local macro_rules | `(tactic| walk_at "sd") => `(tactic| first
  | assumption | (dsimp only; omega) | (dsimp only; decide) | exact ⟨by decide, by decide⟩ | exact ⟨by decide, by decide, by decide⟩ | exact Or.inl ⟨by decide, by decide⟩ | exact ⟨by omega, by omega⟩ | exact Or.inl ⟨by omega, by omega⟩ | exact Or.inr ⟨by decide, by decide⟩ | exact Or.inr ⟨by omega, by omega⟩)
local macro_rules | `(tactic| walk_at "rd") => `(tactic| repeat first
  | refine ⟨_, rfl, ?_⟩ | refine ⟨_, _, rfl, rfl, ?_⟩ | refine And.intro rfl ?_ | refine And.intro (by walk_at "sd") ?_ | with_reducible refine iteT ?_ | with_reducible refine iteF ?_ | (apply ixT_of; assumption; rfl))
local macro_rules | `(tactic| walk_at "clo") => `(tactic| exact h)

theorem scPlusR : FnScope ["self", "a", "b"] ["self", "a", "b"] (defScope s_Rests_plus) := ⟨rfl, rfl, rfl, by decide +kernel, rfl, by decide +kernel, by decide +kernel⟩
set_option maxHeartbeats 4000000 in
theorem ok_PlusR  (F : FunD K "plus" "Rests.plus" s_Rests_plus .none f fd) (T : Txt K mg C_Ring C_Fractions C_Rests C_Order C_Degrees C_Tails)   : FnOk P w K mg base CX0 1 f fd ["self", "a", "b"] (spBinR C_Rests fun n a b => (a + b) % n) := by
  refine F.okN (k := 0) scPlusR (fun vs H Q E h => ?_) (fun cdv A outer s H vs Q E hr h => ?_)
  · obtain ⟨p, dx, n, a, b, rfl, _⟩ := h
    rfl
  obtain ⟨p, dx, n, a, b, rfl, h⟩ := h
  refine ⟨_, (pss_one (ps_ret (pe_op op_mod (pe_op op_add (pv 1) (pv 2)) (pe_fldK (K := K) rfl (pv 0) rfl)))), ?_⟩
  obtain ⟨⟨hp, pr, pl⟩, ia, ib, k⟩ := h
  have p2 := pr.1
  walk_at "rd"
  exact ⟨p, C_Rests, dx, _, _, rfl, hp, T.cl_Rests, T.na_Rests_prime, rfl, _, _, rfl, rfl, (by show 0 < n; omega), k⟩
end
end K10
namespace K10
open PySem L2
open K1 K2 K3 K6 K8
section
variable {P : Program} {w : World} {K : PySem.W.Frag} {mg : Str → Option Value} {base : Heap} {f : Addr} {fd : FuncData} {C_Ring C_Fractions C_Rests C_Order C_Degrees C_Tails : Addr} {E_NoPrime E_NoRing : Addr}
local macro_rules | `(tactic| walk_at "sd") => `(tactic| first
  | assumption | (dsimp only; omega) | (dsimp only; decide) | exact ⟨by decide, by decide⟩ | exact ⟨by decide, by decide, by decide⟩ | exact Or.inl ⟨by decide, by decide⟩ | exact ⟨by omega, by omega⟩ | exact Or.inl ⟨by omega, by omega⟩ | exact Or.inr ⟨by decide, by decide⟩ | exact Or.inr ⟨by omega, by omega⟩)
local macro_rules | `(tactic| walk_at "rd") => `(tactic| repeat first
  | refine ⟨_, rfl, ?_⟩ | refine ⟨_, _, rfl, rfl, ?_⟩ | refine And.intro rfl ?_ | refine And.intro (by walk_at "sd") ?_ | with_reducible refine iteT ?_ | with_reducible refine iteF ?_ | (apply ixT_of; assumption; rfl))
local macro_rules | `(tactic| walk_at "clo") => `(tactic| exact h)

theorem scTimesR : FnScope ["self", "a", "b"] ["self", "a", "b"] (defScope s_Rests_times) := ⟨rfl, rfl, rfl, by decide +kernel, rfl, by decide +kernel, by decide +kernel⟩
set_option maxHeartbeats 4000000 in
theorem ok_TimesR  (F : FunD K "times" "Rests.times" s_Rests_times .none f fd) (T : Txt K mg C_Ring C_Fractions C_Rests C_Order C_Degrees C_Tails)   : FnOk P w K mg base CX0 1 f fd ["self", "a", "b"] (spBinR C_Rests fun n a b => a * b % n) := by
  refine F.okN (k := 0) scTimesR (fun vs H Q E h => ?_) (fun cdv A outer s H vs Q E hr h => ?_)
  · obtain ⟨p, dx, n, a, b, rfl, _⟩ := h
    rfl
  obtain ⟨p, dx, n, a, b, rfl, h⟩ := h
  refine ⟨_, (pss_one (ps_ret (pe_op op_mod (pe_op op_mul (pv 1) (pv 2)) (pe_fldK (K := K) rfl (pv 0) rfl)))), ?_⟩
  obtain ⟨⟨hp, pr, pl⟩, ia, ib, k⟩ := h
  have p2 := pr.1
  obtain ⟨a0, a1⟩ := ia
  walk_at "rd"
  exact ⟨p, C_Rests, dx, _, _, rfl, hp, T.cl_Rests, T.na_Rests_prime, rfl, _, _, rfl, rfl, (by show 0 < n; omega), k⟩
end
end K10
namespace K10
open PySem L2
open K1 K2 K3 K6 K8
section
variable {P : Program} {w : World} {K : PySem.W.Frag} {mg : Str → Option Value} {base : Heap} {f : Addr} {fd : FuncData} {C_Ring C_Fractions C_Rests C_Order C_Degrees C_Tails : Addr} {E_NoPrime E_NoRing : Addr}
local macro_rules | `(tactic| walk_at "sd") => `(tactic| first
  | assumption | (dsimp only; omega) | (dsimp only; decide) | exact ⟨by decide, by decide⟩ | exact ⟨by decide, by decide, by decide⟩ | exact Or.inl ⟨by decide, by decide⟩ | exact ⟨by omega, by omega⟩ | exact Or.inl ⟨by omega, by omega⟩ | exact Or.inr ⟨by decide, by decide⟩ | exact Or.inr ⟨by omega, by omega⟩)
local macro_rules | `(tactic| walk_at "rd") => `(tactic| repeat first
  | refine ⟨_, rfl, ?_⟩ | refine ⟨_, _, rfl, rfl, ?_⟩ | refine And.intro rfl ?_ | refine And.intro (by walk_at "sd") ?_ | with_reducible refine iteT ?_ | with_reducible refine iteF ?_ | (apply ixT_of; assumption; rfl))
local macro_rules | `(tactic| walk_at "clo") => `(tactic| exact h)

theorem scAgR : FnScope ["self", "a"] ["self", "a"] (defScope s_Rests_against) := ⟨rfl, rfl, rfl, by decide +kernel, rfl, by decide +kernel, by decide +kernel⟩
set_option maxHeartbeats 4000000 in
theorem ok_AgR  (F : FunD K "against" "Rests.against" s_Rests_against .none f fd) (T : Txt K mg C_Ring C_Fractions C_Rests C_Order C_Degrees C_Tails)   : FnOk P w K mg base CX0 1 f fd ["self", "a"] (spAgR C_Rests) := by
  refine F.okN (k := 0) scAgR (fun vs H Q E h => ?_) (fun cdv A outer s H vs Q E hr h => ?_)
  · obtain ⟨p, dx, n, a, rfl, _⟩ := h
    rfl
  obtain ⟨p, dx, n, a, rfl, h⟩ := h
  refine ⟨_, (pss_one (ps_ret (pe_op op_mod (pe_un un_neg (pv 1)) (pe_fldK (K := K) rfl (pv 0) rfl)))), ?_⟩
  obtain ⟨⟨hp, pr, pl⟩, ia, k⟩ := h
  have p2 := pr.1
  walk_at "rd"
  exact ⟨p, C_Rests, dx, _, _, rfl, hp, T.cl_Rests, T.na_Rests_prime, rfl, _, _, rfl, rfl, (by show 0 < n; omega), k⟩
end
end K10
namespace K10
open PySem L2
open K1 K2 K3 K6 K8
section
variable {P : Program} {w : World} {K : PySem.W.Frag} {mg : Str → Option Value} {base : Heap} {f : Addr} {fd : FuncData} {C_Ring C_Fractions C_Rests C_Order C_Degrees C_Tails : Addr} {E_NoPrime E_NoRing : Addr}
local macro_rules | `(tactic| walk_at "sd") => `(tactic| first
  | assumption | (dsimp only; omega) | (dsimp only; decide) | exact ⟨by decide, by decide⟩ | exact ⟨by decide, by decide, by decide⟩ | exact Or.inl ⟨by decide, by decide⟩ | exact ⟨by omega, by omega⟩ | exact Or.inl ⟨by omega, by omega⟩ | exact Or.inr ⟨by decide, by decide⟩ | exact Or.inr ⟨by omega, by omega⟩)
local macro_rules | `(tactic| walk_at "rd") => `(tactic| repeat first
  | refine ⟨_, rfl, ?_⟩ | refine ⟨_, _, rfl, rfl, ?_⟩ | refine And.intro rfl ?_ | refine And.intro (by walk_at "sd") ?_ | with_reducible refine iteT ?_ | with_reducible refine iteF ?_ | (apply ixT_of; assumption; rfl))
local macro_rules | `(tactic| walk_at "clo") => `(tactic| exact h)

theorem scAbsorb : FnScope ["ring", "total", "f", "nought", "term", "number"] ["ring", "total", "f"] (defScope s_absorb) := ⟨rfl, rfl, rfl, by decide +kernel, rfl, by decide +kernel, by decide +kernel⟩
set_option maxHeartbeats 4000000 in
theorem ok_Absorb  (F : FunD K "absorb" "absorb" s_absorb .none f fd) (T : Txt K mg C_Ring C_Fractions C_Rests C_Order C_Degrees C_Tails)  (hfld : ∀ n : Int, n ≤ 9973 → (n = 0 ∨ Pr n) → ∃ C, FldQ P w K mg base C (AtN C_Fractions C_Rests n) n) : FnOk P w K mg base CX0 4 f fd ["ring", "total", "f"] (spAbs C_Ring C_Fractions C_Rests) := by
  refine F.okN (k := 3) scAbsorb (fun vs H Q E h => ?_) (fun cdv A outer s H vs Q E hr h => ?_)
  · obtain ⟨r, d, e, m, pf, n, kvs, fvs, T1, T2, D, rfl, _⟩ := h
    rfl
  obtain ⟨r, d, e, m, pf, n, kvs, fvs, T1, T2, D, rfl, h⟩ := h
  obtain ⟨CF, B⟩ := hfld n h.1.nb h.1.np
  refine ⟨_, (pss_cons (ps_set (i := 3) scAbsorb.nd rfl (Or.inl rfl) (pe_m0 B.nought (pe_fldK (K := K) rfl (pv 0) rfl) hr pass00 .nil))
    (pss_one (ps_thw (ps_for PassesOwn.never rfl (pi_items (pv 2)) (pg_tup rfl (pgs_cons (pg_name (i := 4) scAbsorb.nd rfl (Or.inl rfl)) (pgs_cons (pg_name (i := 5) scAbsorb.nd rfl (Or.inl rfl)) pgs_nil))) (pss_cons (ps_if (pt_cmp (pc_din (uOne hr) (pv 4) (pv 1))) (pss_one (ps_set (i := 5) scAbsorb.nd rfl (Or.inl rfl) (pe_m B.plus (pe_fldK (K := K) rfl (pv 0) rfl) hr pass00 .nil ((pa_cons (pe_dget (uOne hr) (pv 1) (pv 4) (fun _ _ => rfl)) (pa_cons (pv 5) pa_nil)))))) pss_nil)
    (pss_one (ps_if (pt_cmpR (op_eqD hr.units) (pv 5) (pv 3) (nomark _)) (pss_one (ps_expr (pe_dpop (uOne hr) (pv 1) ((pa_cons (pv 4) pa_nil))))) (pss_one (ps_dput (uOne hr) (pv 1) (pv 4) (pv 5) rfl))))))))), ?_⟩
  obtain ⟨hR, de, hd, he, ⟨pF, koF⟩, ⟨pG, koG⟩, hl, bT1, bT2, bD, k⟩ := h
  have zG : ∀ t, t ∉ tks fvs → zr n (T2 t) := fun t ht => (PD.mk pG koG).out ht
  have n2 := hR.np
  obtain ⟨po, dx, hr0⟩ := hR.at_
  have hf := hR.fd
  have hts : fvs.map (·.1) = (tks fvs).map ky := koG.keys
  have okG : ∀ t ∈ tks fvs, TmOk m t := fun t ht => koG.ok ht
  have dnz : ¬ zr n D := pF.nz []
  have hsm : ∀ t, SmN n (T1 t) D ∧ SmN n (T2 t) D := fun t => ⟨fun z => ⟨bT1 z t, bD z⟩, fun z => ⟨bT2 z t, bD z⟩⟩
  generalize hF0 : (fun k => (T1 k, D)) = F at pF
  generalize hG0 : (fun k => (T2 k, D)) = G at pG
  have eF : ∀ t, F t = (T1 t, D) := fun t => by rw [← hF0]
  have eG : ∀ t, G t = (T2 t, D) := fun t => by rw [← hG0]
  generalize hTs : tks fvs = ts at hts okG zG
  obtain ⟨dF, hF⟩ := B.ins hf
  refine ⟨_, rfl, r, C_Ring, dx, _, _, rfl, hr0, T.cl_Ring, T.na_Ring_field, rfl, pf, dF, _, rfl, hF, no_P _ _ (by decide +kernel), pf, rfl, hf, fun u H1 e1 hu => ?_⟩
  refine ⟨_, rfl, e, fvs, rfl, .inl (e1 _ _ he), fun o => ?_⟩
  have lt : fvs.length = ts.length := by have := congrArg List.length hts; simpa using this
  have ntd : ts.Nodup := by
    have := pG.nd
    rw [hts] at this
    exact nd_of_map this
  have hnz := pG.nz
  have h1d := e1 _ _ hd
  have hHe : H1 e = some (.dT fvs) := e1 _ _ he
  refine for_ditem (fun i σ H' => i ≤ ts.length ∧ (∃ v4 v5, σ = [some (.ref r), some (.ref d), some (.ref e), some u, v4, v5]) ∧ FzD H' e o fvs ∧ (∀ b ob, H1 b = some ob → b ≠ d → b ≠ e → H' b = some ob) ∧ Is n H' u 0 1 ∧ ∃ kv, H' d = some (.dT kv) ∧ PR n H' kv (addG F G (ts.take i)) ∧ KO m kv ∧ kv.length ≤ kvs.length + i) ?_ (fun i σ H' h => h.2.2.1) ?_ ?_
  · refine ⟨Nat.zero_le _, ⟨none, none, rfl⟩, upd_same, fun b ob hb _ be => ?_, hu.keep (fun b xs hb => by rw [upd_ne (ne_of hb hHe (by intro z; cases z))]; exact hb), kvs, ?_, ?_, koF, Nat.le_refl _⟩
    · rw [upd_ne be]; exact hb
    · rw [upd_ne de]; exact h1d
    · rw [List.take_zero, addG_nil]
      exact (pF.keep fun b xs hb => e1 _ _ hb).keep fun b xs hb => by rw [upd_ne (ne_of hb hHe (by intro z; cases z))]; exact hb
  · rintro i k v σ H2 p b hk ⟨hi, ⟨v4, v5, rfl⟩, hz, hk2, hu2, kv, hd2, pk, kok, lk⟩ hp hb
    obtain ⟨t, ht, rfl⟩ : ∃ t, ts[i]? = some t ∧ k = ky t := by
      have q : (fvs.map (·.1))[i]? = some k := by rw [List.getElem?_map, hk]; rfl
      rw [hts, List.getElem?_map] at q
      obtain ⟨t, h1, h2⟩ := Option.map_eq_some_iff.mp q
      exact ⟨t, h1, h2.symm⟩
    have hlt : i < ts.length := by
      rcases Nat.lt_or_ge i ts.length with q | q
      · exact q
      · rw [List.getElem?_eq_none q] at ht; cases ht
    have htm : t ∈ ts := List.mem_of_getElem? ht
    have hti : t ∉ ts.take i := nd_take ntd ht
    have tk := take_snoc ht
    obtain ⟨iv, nv⟩ := pG.at_ t v (valV_get pG.nd hk)
    have eA : addG F G (ts.take i) t = F t := addG_out hti
    have iv2 : Is n H2 v (G t).1 (G t).2 := iv.keep fun c xs hc => hk2 _ _ (e1 _ _ hc) (ne_of (e1 _ _ hc) h1d (by intro z; cases z)) (ne_of (e1 _ _ hc) hHe (by intro z; cases z))
    have kin : ∀ c C' dy fs, H c = some (.ins C' dy fs) → H2 c = some (.ins C' dy fs) := fun c C' dy fs hc => hk2 _ _ (e1 _ _ hc) (ne_of (e1 _ _ hc) h1d (by intro z; cases z)) (ne_of (e1 _ _ hc) hHe (by intro z; cases z))
    have hr2 := kin _ _ _ _ hr0
    have hF2 := kin _ _ _ _ hF
    have hf2 : AtN C_Fractions C_Rests n H2 pf := B.same (fun c o hc ⟨C', dy, fs, ho⟩ => by subst ho; exact kin _ _ _ _ hc) hf
    refine ⟨p, _, rfl, SqT.of upd_same, rfl, _, _, rfl, _, _, rfl, rfl, ?_⟩
    have e3 : Same H2 (upd H2 p (.tup [.ref b, v])) := Same.upd hp
    generalize upd H2 p (HO.tup [V.ref b, v]) = H3 at e3
    have hb3 := e3 _ _ hb
    have hd3 := e3 _ _ hd2
    unfold gName
    dsimp only
    refine seq_mid (fun σ' H' => Same H3 H' ∧ ∃ v', σ' = [some (.ref r), some (.ref d), some (.ref e), some u, some (.ref b), some v'] ∧ Is n H' v' ((F t).1 * (G t).2 + (G t).1 * (F t).2) ((F t).2 * (G t).2) ∧ (valV kv (ky t) = none → ¬ zr n ((F t).1 * (G t).2 + (G t).1 * (F t).2))) ?_ ?_
    rotate_left
    · intro N hN
      refine ⟨_, rfl, _, rfl, d, _, rfl, DGet.t hd3 hb3, _, rfl, ?_⟩
      cases hval : valV kv (ky t) with
      | none =>
        have z := pk.no t hval
        rw [eA] at z
        refine iteF (hN _ _ ⟨Same.refl _, v, rfl, (iv2.same e3).fresh z, fun _ => ?_⟩)
        rw [Int.add_comm]
        exact nz_skip n2 (pF.nz t) nv z
      | some v0 =>
        obtain ⟨a1, a2⟩ := pk.at_ t v0 hval
        rw [eA] at a1 a2
        refine iteT ⟨_, rfl, r, C_Ring, dx, _, _, rfl, e3 _ _ hr2, T.cl_Ring, T.na_Ring_field, rfl, pf, dF, _, rfl, e3 _ _ hF2, no_P _ _ (by decide +kernel), _, rfl, _, rfl, d, v0, rfl, ?_, _, rfl, pf, v0, v, _, _, _, _, rfl, B.sm e3 hf2, a1.same e3, iv2.same e3, pF.nz t, hnz t, (by rw [eF]; exact (hsm t).1), (by rw [eG]; exact (hsm t).2), fun v' H4 e4 hv' => hN _ _ ⟨e4, v', rfl, hv', fun z => (by rw [hval] at z; cases z)⟩⟩
        have := DGet.t (k := ky t) hd3 hb3
        rw [hval] at this
        exact this
    rintro σ' H4 ⟨e4, v', rfl, iv', hno⟩
    have g4 := e3.trans e4
    have hd4 := e4 _ _ hd3
    have hb4 := e4 _ _ hb3
    have hz4 : FzD H4 e o fvs := g4 _ _ hz
    have hu4 : Is n H4 u 0 1 := hu2.same g4
    have pk4 : PR n H4 kv (addG F G (ts.take i)) := pk.keep fun c xs hc => g4 _ _ hc
    have hk4 : ∀ c ob, H1 c = some ob → c ≠ d → c ≠ e → H4 c = some ob := fun c ob h1 h2 h3 => g4 _ _ (hk2 c ob h1 h2 h3)
    obtain ⟨dn, rd, nd, eq⟩ := iv'.rds (K := K) n2 (nz_mul n2 (pF.nz t) (hnz t))
    refine ⟨_, rfl, _, rfl, dn, z0N n, rd, hu4.zero, nd.shaped, (nm_z0 n).shaped, _, rfl, ?_⟩
    rw [eq]
    refine cD (fun z => ?_) (fun z => ?_)
    · cases hval : valV kv (ky t) with
      | none => exact absurd z (hno hval)
      | some v0 =>
        refine ⟨_, rfl, .inr (.inr (.inl ⟨rfl, .inr ⟨_, hd4⟩⟩)), _, rfl, d, b, kv, ky t, v0, rfl, rfl, hd4, hb4, hval, ?_⟩
        refine ⟨hlt, ⟨_, _, rfl⟩, (upd_ne (Ne.symm de)).trans hz4, fun c ob h1 h2 h3 => (upd_ne h2).trans (hk4 c ob h1 h2 h3), hu4.updD hd4, _, upd_same, ?_, kok.drop _, ?_⟩
        · rw [tk, addG_snoc hti]
          refine PR.keep (fun c xs hc => ?_) (pk4.drop (t := (G t).1) n2 (hnz t) (by rw [eA]; exact z))
          rw [upd_ne (ne_of hc hd4 (by intro z; cases z))]; exact hc
        · have := dropK_le kv (ky t); omega
    · refine ⟨_, rfl, _, rfl, _, rfl, d, _, rfl, DPut.t hd4 hb4 (by omega), ?_⟩
      refine ⟨hlt, ⟨_, _, rfl⟩, (upd_ne (Ne.symm de)).trans hz4, fun c ob h1 h2 h3 => (upd_ne h2).trans (hk4 c ob h1 h2 h3), hu4.updD hd4, _, upd_same, ?_, kok.put (okG t htm), ?_⟩
      · rw [tk, addG_snoc hti]
        refine PR.keep (fun c xs hc => ?_) (pk4.put (v := v') (t := (G t).1) n2 (hnz t) (by rw [eA]; exact iv') (by rw [eA]; exact z))
        rw [upd_ne (ne_of hc hd4 (by intro z; cases z))]; exact hc
      · have := length_putK kv (ky t) v'; omega
  · rintro σ H2 ⟨_, ⟨v4, v5, rfl⟩, hz, hk2, hu2, kv, hd2, pk, kok, lk⟩
    rw [lt, List.take_length] at pk
    refine .inr ⟨e, o, _, hz, fun o' w' z => ?_, k _ kv (fun b ob hb hbd => ?_) ?_ ?_ lk⟩
    · have z' : H e = some (.frz o' w') := z
      rw [he] at z'; cases z'
    · by_cases be : b = e
      · subst be; rw [upd_same, ← he]; exact hb
      · rw [upd_ne be]; exact hk2 _ _ (e1 _ _ hb) hbd be
    · rw [upd_ne de]; exact hd2
    · refine PD.addG n2 dnz ?_ kok zG
      rw [hF0, hG0]
      exact pk.keep fun b xs hb => by rw [upd_ne (ne_of hb hz (by intro z; cases z))]; exact hb
end
end K10
namespace K10
open PySem L2
open K1 K2 K3 K6 K8
section
variable {P : Program} {w : World} {K : PySem.W.Frag} {mg : Str → Option Value} {base : Heap} {f : Addr} {fd : FuncData} {C_Ring C_Fractions C_Rests C_Order C_Degrees C_Tails : Addr} {E_NoPrime E_NoRing : Addr}
local macro_rules | `(tactic| walk_at "sd") => `(tactic| first
  | assumption | (dsimp only; omega) | (dsimp only; decide) | exact ⟨by decide, by decide⟩ | exact ⟨by decide, by decide, by decide⟩ | exact Or.inl ⟨by decide, by decide⟩ | exact ⟨by omega, by omega⟩ | exact Or.inl ⟨by omega, by omega⟩ | exact Or.inr ⟨by decide, by decide⟩ | exact Or.inr ⟨by omega, by omega⟩)
local macro_rules | `(tactic| walk_at "rd") => `(tactic| repeat first
  | refine ⟨_, rfl, ?_⟩ | refine ⟨_, _, rfl, rfl, ?_⟩ | refine And.intro rfl ?_ | refine And.intro (by walk_at "sd") ?_ | with_reducible refine iteT ?_ | with_reducible refine iteF ?_ | (apply ixT_of; assumption; rfl))
local macro_rules | `(tactic| walk_at "clo") => `(tactic| exact h)

theorem scProd : FnScope ["one", "other"] ["one", "other"] (defScope s_product) := ⟨rfl, rfl, rfl, by decide +kernel, rfl, by decide +kernel, by decide +kernel⟩
set_option maxHeartbeats 4000000 in
theorem ok_Prod  (F : FunD K "product" "product" s_product .none f fd) (T : Txt K mg C_Ring C_Fractions C_Rests C_Order C_Degrees C_Tails)   : FnOk P w K mg base CX0 1 f fd ["one", "other"] (spProd K) := by
  refine F.okN (k := 0) scProd (fun vs H Q E h => ?_) (fun cdv A outer s H vs Q E hr h => ?_)
  · obtain ⟨a, b, xs, ys, rfl, _⟩ := h
    rfl
  obtain ⟨a, b, xs, ys, rfl, h⟩ := h
  refine ⟨_, (pss_one (ps_ret (pe_callTy (call_tupleK (K := K) rfl) rfl T.b_tuple (by kernel_rfl) ((pa_cons (pe_comp (N := ["power", "further"]) (Blk.plain (by decide +kernel) (by decide +kernel) rfl (by decide +kernel) nd_power_further) rfl (pi_zipK (K := K) rfl true true rfl T.b_zip ((pa_cons (pv 0) (pa_cons (pv 1) pa_nil)))) (fun C0 s0 H0 fp0 => pg_two (K := K) rfl rfl rfl nd_power_further rfl rfl) (fun C0 s0 H0 fp0 => pts_nil) (fun C0 s0 H0 fp0 => pe_op op_add (pv 0) (pv 1))) pa_nil))))), ?_⟩
  obtain ⟨ha, hb, hl, k⟩ := h
  show tComp _ _ _ _ _ _ _ _
  refine zip_comp (K := K) (b1 := true) (b2 := true) (a := a) (b := b) (xs := xs) (ys := ys) yes2 (fun x y => .int (x + y)) (by rfl) ?_ ha hb hl ?_ ?_ fun D H' e hL => ?_
  · exact fun R hR => ⟨_, rfl, _, rfl, hR⟩
  · exact fun _ _ _ h => h
  · exact fun i H' R _ h => ⟨_, rfl, _, rfl, _, _, rfl, rfl, h⟩
  rw [zipV_W (fun x y => x + y)] at hL
  refine ⟨D, _, rfl, .inl ⟨SqL.of hL, fun r hr => ?_⟩⟩
  exact k r _ (e.trans (Same.upd hr)) upd_same
end
end K10
namespace K10
open PySem L2
open K1 K2 K3 K6 K8
section
variable {P : Program} {w : World} {K : PySem.W.Frag} {mg : Str → Option Value} {base : Heap} {f : Addr} {fd : FuncData} {C_Ring C_Fractions C_Rests C_Order C_Degrees C_Tails : Addr} {E_NoPrime E_NoRing : Addr}
local macro_rules | `(tactic| walk_at "sd") => `(tactic| first
  | assumption | (dsimp only; omega) | (dsimp only; decide) | exact ⟨by decide, by decide⟩ | exact ⟨by decide, by decide, by decide⟩ | exact Or.inl ⟨by decide, by decide⟩ | exact ⟨by omega, by omega⟩ | exact Or.inl ⟨by omega, by omega⟩ | exact Or.inr ⟨by decide, by decide⟩ | exact Or.inr ⟨by omega, by omega⟩)
local macro_rules | `(tactic| walk_at "rd") => `(tactic| repeat first
  | refine ⟨_, rfl, ?_⟩ | refine ⟨_, _, rfl, rfl, ?_⟩ | refine And.intro rfl ?_ | refine And.intro (by walk_at "sd") ?_ | with_reducible refine iteT ?_ | with_reducible refine iteF ?_ | (apply ixT_of; assumption; rfl))
local macro_rules | `(tactic| walk_at "clo") => `(tactic| exact h)

theorem scScal : FnScope ["ring", "number", "term", "f", "found", "part", "factor"] ["ring", "number", "term", "f"] (defScope s_scaled) := ⟨rfl, rfl, rfl, by decide +kernel, rfl, by decide +kernel, by decide +kernel⟩
set_option maxHeartbeats 4000000 in
theorem ok_Scal  (F : FunD K "scaled" "scaled" s_scaled .none f fd) (T : Txt K mg C_Ring C_Fractions C_Rests C_Order C_Degrees C_Tails) (c_Prod : Cal P w K mg base CX0 1 "product" ["one", "other"] [] (spProd K)) (hfld : ∀ n : Int, n ≤ 9973 → (n = 0 ∨ Pr n) → ∃ C, FldQ P w K mg base C (AtN C_Fractions C_Rests n) n) : FnOk P w K mg base CX0 4 f fd ["ring", "number", "term", "f"] (spScal C_Ring C_Fractions C_Rests) := by
  refine F.okN (k := 3) scScal (fun vs H Q E h => ?_) (fun cdv A outer s H vs Q E hr h => ?_)
  · obtain ⟨r, v, t, e, m, pf, n, fvs, a, D1, l, T0, D, rfl, _⟩ := h
    rfl
  obtain ⟨r, v, t, e, m, pf, n, fvs, a, D1, l, T0, D, rfl, h⟩ := h
  obtain ⟨CF, B⟩ := hfld n h.1.nb h.1.np
  refine ⟨_, (pss_cons (ps_if (pt_cmpR (op_eqD hr.units) (pv 1) (pe_m0 B.nought (pe_fldK (K := K) rfl (pv 0) rfl) hr pass00 .nil) (nomark _)) (pss_one (ps_ret (pe_dnewT))) pss_nil)
    (pss_cons (ps_set (i := 4) scScal.nd rfl (Or.inl rfl) (pe_dnewT))
    (pss_cons (ps_thw (ps_for PassesOwn.never rfl (pi_items (pv 3)) (pg_tup rfl (pgs_cons (pg_name (i := 5) scScal.nd rfl (Or.inl rfl)) (pgs_cons (pg_name (i := 6) scScal.nd rfl (Or.inl rfl)) pgs_nil))) (pss_one (ps_dput (uOne hr) (pv 4) (pe_c c_Prod hr pass00 .nil ((pa_cons (pv 2) (pa_cons (pv 5) pa_nil)))) (pe_m B.times (pe_fldK (K := K) rfl (pv 0) rfl) hr pass00 .nil ((pa_cons (pv 1) (pa_cons (pv 6) pa_nil)))) rfl))))
    (pss_one (ps_ret (pv 4)))))), ?_⟩
  obtain ⟨hR, iv, nz1, sm1, ht, okl, he, pT, bT, bD, hl, k⟩ := h
  have n2 := hR.np
  obtain ⟨po, dx, hr0⟩ := hR.at_
  have hf := hR.fd
  obtain ⟨dF, hF⟩ := B.ins hf
  refine ⟨_, rfl, _, rfl, r, C_Ring, dx, _, _, rfl, hr0, T.cl_Ring, T.na_Ring_field, rfl, pf, dF, _, rfl, hF, no_P _ _ (by decide +kernel), pf, rfl, hf, fun u H1 e1 hu => ?_⟩
  obtain ⟨dn, rd, nd, eq⟩ := (iv.same e1).rds (K := K) n2 nz1
  refine ⟨dn, z0N n, rd, hu.zero, nd.shaped, (nm_z0 n).shaped, _, rfl, ?_⟩
  rw [eq]
  have nzD := pT.nz
  refine cD (fun z => ?_) (fun z => ?_)
  · intro d nd0
    refine k d _ [] ?_ (e1.updR ?_) upd_same (PD.nil n2 (nz_mul n2 nz1 nzD) fun t => zr_mul z) (Nat.zero_le _)
    · exact e1.free nd0
    · exact e1.free nd0
  · intro d nd0
    have e2 : Same H1 (upd H1 d (.dT [])) := Same.upd nd0
    have hd2 : (upd H1 d (HO.dT [])) d = some (.dT []) := upd_same
    generalize upd H1 d (HO.dT []) = H2 at e2 hd2
    have g2 := e1.trans e2
    have he2 := g2 _ _ he
    have de : d ≠ e := fun z => by subst z; rw [e1 _ _ he] at nd0; cases nd0
    refine ⟨_, rfl, e, fvs, rfl, .inl he2, fun o => ?_⟩
    have ntd := pT.nts
    have ltk : (tks fvs).length = fvs.length := tks_len fvs
    refine for_ditem (fun i σ H' => i ≤ fvs.length ∧ (∃ v5 v6, σ = [some (.ref r), some v, some (.ref t), some (.ref e), some (.ref d), v5, v6]) ∧ FzD H' e o fvs ∧ (∀ b ob, H2 b = some ob → b ≠ d → b ≠ e → H' b = some ob) ∧ ∃ kv, H' d = some (.dT kv) ∧ kv.map (·.1) = ((tks fvs).take i).map (fun t => ky (addT l t)) ∧
      ∀ (j : Nat) (t : Tm) (k : List Key) (v : V), (tks fvs)[j]? = some t → kv[j]? = some (k, v) → Is n H' v (a * T0 t) (D1 * D)) ?_ (fun i σ H' h => h.2.2.1) ?_ ?_
    · refine ⟨Nat.zero_le _, ⟨none, none, rfl⟩, upd_same, fun b ob hb _ be => ?_, [], ?_, rfl, fun j t k v _ z => by simp at z⟩
      · rw [upd_ne be]; exact hb
      · rw [upd_ne de]; exact hd2
    · rintro i kx vx σ H3 p b hk ⟨hi, ⟨v5, v6, rfl⟩, hz, hk3, kv, hd3, hkeys, hvals⟩ hp hb
      obtain ⟨x, hx, rfl, okx, ix, nzx⟩ := pT.get hk
      have hi' := lt_of_get hk
      refine ⟨p, _, rfl, SqT.of upd_same, rfl, _, _, rfl, _, _, rfl, rfl, ?_⟩
      have e4 : Same H3 (upd H3 p (.tup [.ref b, vx])) := Same.upd hp
      generalize upd H3 p (HO.tup [V.ref b, vx]) = H4 at e4
      have up : ∀ c ob, H c = some ob → (∀ kk, ob ≠ .dT kk) → H4 c = some ob := fun c ob hc nt => e4 _ _ (hk3 _ _ (g2 _ _ hc) (ne_of (g2 _ _ hc) hd2 (nt _)) (ne_of (g2 _ _ hc) he2 (nt _)))
      have upt : ∀ c xs, H c = some (.tup xs) → H4 c = some (.tup xs) := fun c xs hc => up _ _ hc (by intro _ z; cases z)
      have hR4 : RgK C_Ring C_Fractions C_Rests H4 r m pf n := hR.keep fun c ob hc ⟨C', dy, fs, z⟩ => up _ _ hc (by intro _ q; rw [z] at q; cases q)
      refine ⟨_, rfl, r, C_Ring, dx, _, _, rfl, up _ _ hr0 (by intro _ z; cases z), T.cl_Ring, T.na_Ring_field, rfl, pf, dF, _, rfl, up _ _ hF (by intro _ z; cases z), no_P _ _ (by decide +kernel), _, rfl, _, rfl, pf, v, vx, _, _, _, _, rfl, hR4.fd, iv.keep upt, ix.keep upt, nz1, nzD, sm1, fun z => ⟨bT z x, bD z⟩, fun v' H5 e5 hv' => ?_⟩
      have hb4 := e4 _ _ hb
      rw [ky_kV] at hb4
      refine ⟨_, rfl, _, rfl, _, rfl, t, b, l, x, rfl, SqT.of (e5 _ _ (upt _ _ ht)), SqT.of (e5 _ _ hb4), by rw [okl.1]; exact Nat.le_trans hR.m4 (by decide), fun rr H6 e6 hrr => ?_⟩
      have g6 := (e4.trans e5).trans e6
      have hd6 := g6 _ _ hd3
      have nk : ky (addT l x) ∉ kv.map (·.1) := by
        rw [hkeys]
        intro z
        obtain ⟨y, hy, ey⟩ := List.mem_map.mp z
        have oky := pT.ko.ok (List.mem_of_mem_take hy)
        have := add_inj okl oky okx (ky_inj ey)
        subst this
        exact nd_take ntd hx hy
      have lkv : kv.length = i := by
        have := congrArg List.length hkeys
        rw [List.length_map, List.length_map, List.length_take] at this
        omega
      refine ⟨d, _, rfl, DPut.t hd6 (by rw [ky_kV]; exact hrr) (by omega), ?_⟩
      rw [putK_new nk]
      have kp7 : ∀ c xs, H6 c = some (.tup xs) → (upd H6 d (.dT (kv ++ [(ky (addT l x), v')]))) c = some (.tup xs) := fun c xs hc => (upd_ne (ne_of hc hd6 (by intro z; cases z))).trans hc
      refine ⟨hi', ⟨_, _, rfl⟩, (upd_ne (Ne.symm de)).trans (g6 _ _ hz), fun c ob h1 h2 h3 => (upd_ne h2).trans (g6 _ _ (hk3 c ob h1 h2 h3)), _, upd_same, ?_, fun j y kk w hy hw => ?_⟩
      · rw [List.map_append, hkeys, take_snoc hx, List.map_append]; rfl
      · rcases Nat.lt_or_ge j kv.length with q | q
        · rw [List.getElem?_append_left q] at hw
          exact (hvals j y kk w hy hw).keep fun c xs hc => kp7 _ _ (g6 _ _ hc)
        · rw [List.getElem?_append_right q] at hw
          have j0 : j - kv.length = 0 := by have := lt_of_get hw; simp at this; omega
          rw [j0] at hw
          simp at hw
          obtain ⟨rfl, rfl⟩ := hw
          have : j = i := by omega
          subst this
          rw [hx] at hy; injection hy with hy; subst hy
          exact (hv'.same e6).keep kp7
    · rintro σ H3 ⟨_, ⟨v5, v6, rfl⟩, hz, hk3, kv, hd3, hkeys, hvals⟩
      refine .inr ⟨e, o, _, hz, fun o' w' z => ?_, ?_⟩
      · have z' : H e = some (.frz o' w') := z
        rw [he] at z'; cases z'
      have tku : (tks fvs).take fvs.length = tks fvs := by rw [← ltk, List.take_length]
      rw [tku] at hkeys
      have kp : ∀ c xs, H3 c = some (.tup xs) → (upd H3 e (.dT fvs)) c = some (.tup xs) := fun c xs hc => (upd_ne (ne_of hc hz (by intro z; cases z))).trans hc
      refine ⟨_, rfl, k d _ kv (e1.free nd0) (fun c ob hc => ?_) ((upd_ne de).trans hd3) ?_ ?_⟩
      · by_cases ce : c = e
        · subst ce; rw [upd_same, ← he]; exact hc
        · rw [upd_ne ce]
          exact hk3 _ _ (g2 _ _ hc) (fun z => by subst z; rw [e1 _ _ hc] at nd0; cases nd0) ce
      · refine pd_mk (ts := (tks fvs).map (addT l)) (by rw [hkeys, List.map_map]; rfl) (nd_map_on ntd fun x hx y hy z => add_inj okl (pT.ko.ok hx) (pT.ko.ok hy) z) (fun y hy => ?_) (nz_mul n2 nz1 nzD) (fun y hy => ?_) fun j y kk w hy hw => ?_
        · obtain ⟨x, hx, rfl⟩ := List.mem_map.mp hy
          exact okl.add (pT.ko.ok hx)
        · unfold shT
          by_cases q : y.length = l.length
          · rw [if_pos q, Int.mul_comm]
            refine zr_mul (pT.out fun z => hy (List.mem_map.mpr ⟨_, z, add_sub q⟩))
          · rw [if_neg q, Int.mul_zero]; exact zr_zero n
        · rw [List.getElem?_map] at hy
          obtain ⟨x, hx, rfl⟩ := Option.map_eq_some_iff.mp hy
          have okx := pT.ko.ok (List.mem_of_getElem? hx)
          rw [shT_add (okx.1.trans okl.1.symm)]
          have hj := lt_of_get hx
          obtain ⟨x', hx', _, _, _, nzx⟩ := pT.get (i := j) (k := fvs[j]'(by omega) |>.1) (v := fvs[j]'(by omega) |>.2) (List.getElem?_eq_getElem (by omega))
          rw [hx] at hx'; injection hx' with hx'; subst hx'
          exact ⟨(hvals j x kk w hx hw).keep kp, nz_mul n2 z nzx⟩
      · have := congrArg List.length hkeys
        rw [List.length_map, List.length_map] at this
        omega
end
end K10
namespace K10
open PySem L2
open K1 K2 K3 K6 K8
section
variable {P : Program} {w : World} {K : PySem.W.Frag} {mg : Str → Option Value} {base : Heap} {f : Addr} {fd : FuncData} {C_Ring C_Fractions C_Rests C_Order C_Degrees C_Tails : Addr} {E_NoPrime E_NoRing : Addr}
local macro_rules | `(tactic| walk_at "sd") => `(tactic| first
  | assumption | (dsimp only; omega) | (dsimp only; decide) | exact ⟨by decide, by decide⟩ | exact ⟨by decide, by decide, by decide⟩ | exact Or.inl ⟨by decide, by decide⟩ | exact ⟨by omega, by omega⟩ | exact Or.inl ⟨by omega, by omega⟩ | exact Or.inr ⟨by decide, by decide⟩ | exact Or.inr ⟨by omega, by omega⟩)
local macro_rules | `(tactic| walk_at "rd") => `(tactic| repeat first
  | refine ⟨_, rfl, ?_⟩ | refine ⟨_, _, rfl, rfl, ?_⟩ | refine And.intro rfl ?_ | refine And.intro (by walk_at "sd") ?_ | with_reducible refine iteT ?_ | with_reducible refine iteF ?_ | (apply ixT_of; assumption; rfl))
local macro_rules | `(tactic| walk_at "clo") => `(tactic| exact h)

theorem scNeg : FnScope ["ring", "f", "found", "term", "number"] ["ring", "f"] (defScope s_negated) := ⟨rfl, rfl, rfl, by decide +kernel, rfl, by decide +kernel, by decide +kernel⟩
set_option maxHeartbeats 4000000 in
theorem ok_Neg  (F : FunD K "negated" "negated" s_negated .none f fd) (T : Txt K mg C_Ring C_Fractions C_Rests C_Order C_Degrees C_Tails)  (hfld : ∀ n : Int, n ≤ 9973 → (n = 0 ∨ Pr n) → ∃ C, FldQ P w K mg base C (AtN C_Fractions C_Rests n) n) : FnOk P w K mg base CX0 2 f fd ["ring", "f"] (spNeg C_Ring C_Fractions C_Rests) := by
  refine F.okN (k := 1) scNeg (fun vs H Q E h => ?_) (fun cdv A outer s H vs Q E hr h => ?_)
  · obtain ⟨r, e, m, pf, n, fvs, T0, D, rfl, _⟩ := h
    rfl
  obtain ⟨r, e, m, pf, n, fvs, T0, D, rfl, h⟩ := h
  obtain ⟨CF, B⟩ := hfld n h.1.nb h.1.np
  refine ⟨_, (pss_cons (ps_set (i := 2) scNeg.nd rfl (Or.inl rfl) (pe_dnewT))
    (pss_cons (ps_thw (ps_for PassesOwn.never rfl (pi_items (pv 1)) (pg_tup rfl (pgs_cons (pg_name (i := 3) scNeg.nd rfl (Or.inl rfl)) (pgs_cons (pg_name (i := 4) scNeg.nd rfl (Or.inl rfl)) pgs_nil))) (pss_one (ps_dput (uOne hr) (pv 2) (pv 3) (pe_m B.against (pe_fldK (K := K) rfl (pv 0) rfl) hr pass00 .nil ((pa_cons (pv 4) pa_nil))) rfl))))
    (pss_one (ps_ret (pv 2))))), ?_⟩
  obtain ⟨hR, he, pT, hl, k⟩ := h
  have n2 := hR.np
  obtain ⟨po, dx, hr0⟩ := hR.at_
  have hf := hR.fd
  obtain ⟨dF, hF⟩ := B.ins hf
  have nzD := pT.nz
  intro d nd0
  have g2 : Same H (upd H d (.dT [])) := Same.upd nd0
  have hd2 : (upd H d (HO.dT [])) d = some (.dT []) := upd_same
  generalize upd H d (HO.dT []) = H2 at g2 hd2
  have he2 := g2 _ _ he
  have de : d ≠ e := fun z => by subst z; rw [he] at nd0; cases nd0
  refine ⟨_, rfl, e, fvs, rfl, .inl he2, fun o => ?_⟩
  have ntd := pT.nts
  have ltk : (tks fvs).length = fvs.length := tks_len fvs
  refine for_ditem (fun i σ H' => i ≤ fvs.length ∧ (∃ v5 v6, σ = [some (.ref r), some (.ref e), some (.ref d), v5, v6]) ∧ FzD H' e o fvs ∧ (∀ b ob, H2 b = some ob → b ≠ d → b ≠ e → H' b = some ob) ∧ ∃ kv, H' d = some (.dT kv) ∧ kv.map (·.1) = ((tks fvs).take i).map ky ∧
    ∀ (j : Nat) (t : Tm) (k : List Key) (v : V), (tks fvs)[j]? = some t → kv[j]? = some (k, v) → Is n H' v (- T0 t) D) ?_ (fun i σ H' h => h.2.2.1) ?_ ?_
  · refine ⟨Nat.zero_le _, ⟨none, none, rfl⟩, upd_same, fun b ob hb _ be => ?_, [], ?_, rfl, fun j t k v _ z => by simp at z⟩
    · rw [upd_ne be]; exact hb
    · rw [upd_ne de]; exact hd2
  · rintro i kx vx σ H3 p b hk ⟨hi, ⟨v5, v6, rfl⟩, hz, hk3, kv, hd3, hkeys, hvals⟩ hp hb
    obtain ⟨x, hx, rfl, okx, ix, nzx⟩ := pT.get hk
    have hi' := lt_of_get hk
    refine ⟨p, _, rfl, SqT.of upd_same, rfl, _, _, rfl, _, _, rfl, rfl, ?_⟩
    have e4 : Same H3 (upd H3 p (.tup [.ref b, vx])) := Same.upd hp
    generalize upd H3 p (HO.tup [V.ref b, vx]) = H4 at e4
    have up : ∀ c ob, H c = some ob → (∀ kk, ob ≠ .dT kk) → H4 c = some ob := fun c ob hc nt => e4 _ _ (hk3 _ _ (g2 _ _ hc) (ne_of (g2 _ _ hc) hd2 (nt _)) (ne_of (g2 _ _ hc) he2 (nt _)))
    have upt : ∀ c xs, H c = some (.tup xs) → H4 c = some (.tup xs) := fun c xs hc => up _ _ hc (by intro _ z; cases z)
    have hR4 : RgK C_Ring C_Fractions C_Rests H4 r m pf n := hR.keep fun c ob hc ⟨C', dy, fs, z⟩ => up _ _ hc (by intro _ q; rw [z] at q; cases q)
    refine ⟨_, rfl, r, C_Ring, dx, _, _, rfl, up _ _ hr0 (by intro _ z; cases z), T.cl_Ring, T.na_Ring_field, rfl, pf, dF, _, rfl, up _ _ hF (by intro _ z; cases z), no_P _ _ (by decide +kernel), _, rfl, pf, vx, _, _, rfl, hR4.fd, ix.keep upt, fun v' H5 e5 hv' => ?_⟩
    have g6 := e4.trans e5
    have hd6 := g6 _ _ hd3
    have nk : ky x ∉ kv.map (·.1) := by
      rw [hkeys]
      intro z
      obtain ⟨y, hy, ey⟩ := List.mem_map.mp z
      rw [ky_inj ey] at hy
      exact nd_take ntd hx hy
    have lkv : kv.length = i := by
      have := congrArg List.length hkeys
      rw [List.length_map, List.length_map, List.length_take] at this
      omega
    refine ⟨_, rfl, _, rfl, d, _, rfl, DPut.t hd6 (g6 _ _ hb) (by omega), ?_⟩
    rw [putK_new nk]
    have kp7 : ∀ c xs, H5 c = some (.tup xs) → (upd H5 d (.dT (kv ++ [(ky x, v')]))) c = some (.tup xs) := fun c xs hc => (upd_ne (ne_of hc hd6 (by intro z; cases z))).trans hc
    refine ⟨hi', ⟨_, _, rfl⟩, (upd_ne (Ne.symm de)).trans (g6 _ _ hz), fun c ob h1 h2 h3 => (upd_ne h2).trans (g6 _ _ (hk3 c ob h1 h2 h3)), _, upd_same, ?_, fun j y kk w hy hw => ?_⟩
    · rw [List.map_append, hkeys, take_snoc hx, List.map_append]; rfl
    · rcases Nat.lt_or_ge j kv.length with q | q
      · rw [List.getElem?_append_left q] at hw
        exact (hvals j y kk w hy hw).keep fun c xs hc => kp7 _ _ (g6 _ _ hc)
      · rw [List.getElem?_append_right q] at hw
        have j0 : j - kv.length = 0 := by have := lt_of_get hw; simp at this; omega
        rw [j0] at hw
        simp at hw
        obtain ⟨rfl, rfl⟩ := hw
        have : j = i := by omega
        subst this
        rw [hx] at hy; injection hy with hy; subst hy
        exact hv'.keep kp7
  · rintro σ H3 ⟨_, ⟨v5, v6, rfl⟩, hz, hk3, kv, hd3, hkeys, hvals⟩
    refine .inr ⟨e, o, _, hz, fun o' w' z => ?_, ?_⟩
    · have z' : H e = some (.frz o' w') := z
      rw [he] at z'; cases z'
    have tku : (tks fvs).take fvs.length = tks fvs := by rw [← ltk, List.take_length]
    rw [tku] at hkeys
    have kp : ∀ c xs, H3 c = some (.tup xs) → (upd H3 e (.dT fvs)) c = some (.tup xs) := fun c xs hc => (upd_ne (ne_of hc hz (by intro z; cases z))).trans hc
    refine ⟨_, rfl, k d _ kv nd0 (fun c ob hc => ?_) ((upd_ne de).trans hd3) ?_ ?_⟩
    · by_cases ce : c = e
      · subst ce; rw [upd_same, ← he]; exact hc
      · rw [upd_ne ce]
        exact hk3 _ _ (g2 _ _ hc) (fun z => by subst z; rw [hc] at nd0; cases nd0) ce
    · refine pd_mk (ts := tks fvs) hkeys ntd (fun y hy => pT.ko.ok hy) nzD (fun y hy => zr_neg.mpr (pT.out hy)) fun j y kk w hy hw => ?_
      have hj := lt_of_get hy
      obtain ⟨x', hx', _, _, _, nzx⟩ := pT.get (i := j) (k := fvs[j]'(by omega) |>.1) (v := fvs[j]'(by omega) |>.2) (List.getElem?_eq_getElem (by omega))
      rw [hy] at hx'; injection hx' with hx'; subst hx'
      exact ⟨(hvals j y kk w hy hw).keep kp, fun z => nzx (zr_neg.mp z)⟩
    · have := congrArg List.length hkeys
      rw [List.length_map, List.length_map] at this
      omega
end
end K10
namespace K10
open PySem L2
open K1 K2 K3 K6 K8
section
variable {P : Program} {w : World} {K : PySem.W.Frag} {mg : Str → Option Value} {base : Heap} {f : Addr} {fd : FuncData} {C_Ring C_Fractions C_Rests C_Order C_Degrees C_Tails : Addr} {E_NoPrime E_NoRing : Addr}
local macro_rules | `(tactic| walk_at "sd") => `(tactic| first
  | assumption | (dsimp only; omega) | (dsimp only; decide) | exact ⟨by decide, by decide⟩ | exact ⟨by decide, by decide, by decide⟩ | exact Or.inl ⟨by decide, by decide⟩ | exact ⟨by omega, by omega⟩ | exact Or.inl ⟨by omega, by omega⟩ | exact Or.inr ⟨by decide, by decide⟩ | exact Or.inr ⟨by omega, by omega⟩)
local macro_rules | `(tactic| walk_at "rd") => `(tactic| repeat first
  | refine ⟨_, rfl, ?_⟩ | refine ⟨_, _, rfl, rfl, ?_⟩ | refine And.intro rfl ?_ | refine And.intro (by walk_at "sd") ?_ | with_reducible refine iteT ?_ | with_reducible refine iteF ?_ | (apply ixT_of; assumption; rfl))
local macro_rules | `(tactic| walk_at "clo") => `(tactic| exact h)

theorem scPlus : FnScope ["ring", "f", "g", "total"] ["ring", "f", "g"] (defScope s_plus) := ⟨rfl, rfl, rfl, by decide +kernel, rfl, by decide +kernel, by decide +kernel⟩
set_option maxHeartbeats 4000000 in
theorem ok_Plus  (F : FunD K "plus" "plus" s_plus .none f fd) (T : Txt K mg C_Ring C_Fractions C_Rests C_Order C_Degrees C_Tails) (c_Absorb : Cal P w K mg base CX0 4 "absorb" ["ring", "total", "f"] [] (spAbs C_Ring C_Fractions C_Rests))  : FnOk P w K mg base CX0 5 f fd ["ring", "f", "g"] (spPlus C_Ring C_Fractions C_Rests) := by
  refine F.okN (k := 4) scPlus (fun vs H Q E h => ?_) (fun cdv A outer s H vs Q E hr h => ?_)
  · obtain ⟨r, e1, e2, m, pf, n, fvs, gvs, T1, T2, D, rfl, _⟩ := h
    rfl
  obtain ⟨r, e1, e2, m, pf, n, fvs, gvs, T1, T2, D, rfl, h⟩ := h
  refine ⟨_, (pss_cons (ps_set (i := 3) scPlus.nd rfl (Or.inl rfl) (pe_callTy call_dictD rfl T.b_dict (by kernel_rfl) ((pa_cons (pv 1) pa_nil))))
    (pss_cons (ps_expr (pe_c c_Absorb hr pass00 .nil ((pa_cons (pv 0) (pa_cons (pv 3) (pa_cons (pv 2) pa_nil))))))
    (pss_one (ps_ret (pv 3))))), ?_⟩
  obtain ⟨hR, h1, h2, p1, p2, hds, hl, b1, b2, bD, k⟩ := h
  refine ⟨_, rfl, e1, fvs, rfl, h1, hds, fun d nd => ?_⟩
  have g : Same H (upd H d (.dT fvs)) := Same.upd nd
  have hd : (upd H d (HO.dT fvs)) d = some (.dT fvs) := upd_same
  generalize upd H d (HO.dT fvs) = H1 at g hd
  have de : d ≠ e2 := fun z => by subst z; rw [h2] at nd; cases nd
  refine ⟨_, rfl, _, rfl, _, rfl, r, d, e2, m, pf, n, fvs, gvs, T1, T2, D, rfl, hR.same g, de, hd, g _ _ h2, p1.same g, p2.same g, hl, b1, b2, bD, fun H2 kvs bt hd2 pd lk => ?_⟩
  exact ⟨_, rfl, k d H2 kvs nd (fun c o hc => bt c o (g _ _ hc) (fun z => by subst z; rw [hc] at nd; cases nd)) hd2 pd lk⟩
end
end K10
namespace K10
open PySem L2
open K1 K2 K3 K6 K8
section
variable {P : Program} {w : World} {K : PySem.W.Frag} {mg : Str → Option Value} {base : Heap} {f : Addr} {fd : FuncData} {C_Ring C_Fractions C_Rests C_Order C_Degrees C_Tails : Addr} {E_NoPrime E_NoRing : Addr}
local macro_rules | `(tactic| walk_at "sd") => `(tactic| first
  | assumption | (dsimp only; omega) | (dsimp only; decide) | exact ⟨by decide, by decide⟩ | exact ⟨by decide, by decide, by decide⟩ | exact Or.inl ⟨by decide, by decide⟩ | exact ⟨by omega, by omega⟩ | exact Or.inl ⟨by omega, by omega⟩ | exact Or.inr ⟨by decide, by decide⟩ | exact Or.inr ⟨by omega, by omega⟩)
local macro_rules | `(tactic| walk_at "rd") => `(tactic| repeat first
  | refine ⟨_, rfl, ?_⟩ | refine ⟨_, _, rfl, rfl, ?_⟩ | refine And.intro rfl ?_ | refine And.intro (by walk_at "sd") ?_ | with_reducible refine iteT ?_ | with_reducible refine iteF ?_ | (apply ixT_of; assumption; rfl))
local macro_rules | `(tactic| walk_at "clo") => `(tactic| exact h)

theorem scMinus : FnScope ["ring", "f", "g"] ["ring", "f", "g"] (defScope s_minus) := ⟨rfl, rfl, rfl, by decide +kernel, rfl, by decide +kernel, by decide +kernel⟩
set_option maxHeartbeats 4000000 in
theorem ok_Minus  (F : FunD K "minus" "minus" s_minus .none f fd) (T : Txt K mg C_Ring C_Fractions C_Rests C_Order C_Degrees C_Tails) (c_Neg : Cal P w K mg base CX0 2 "negated" ["ring", "f"] [] (spNeg C_Ring C_Fractions C_Rests)) (c_Plus : Cal P w K mg base CX0 5 "plus" ["ring", "f", "g"] [] (spPlus C_Ring C_Fractions C_Rests))  : FnOk P w K mg base CX0 6 f fd ["ring", "f", "g"] (spMinus C_Ring C_Fractions C_Rests) := by
  refine F.okN (k := 5) scMinus (fun vs H Q E h => ?_) (fun cdv A outer s H vs Q E hr h => ?_)
  · obtain ⟨r, e1, e2, m, pf, n, fvs, gvs, T1, T2, D, rfl, _⟩ := h
    rfl
  obtain ⟨r, e1, e2, m, pf, n, fvs, gvs, T1, T2, D, rfl, h⟩ := h
  refine ⟨_, (pss_one (ps_ret (pe_c c_Plus hr pass00 .nil ((pa_cons (pv 0) (pa_cons (pv 1) (pa_cons (pe_c c_Neg hr pass00 .nil ((pa_cons (pv 0) (pa_cons (pv 2) pa_nil)))) pa_nil))))))), ?_⟩
  obtain ⟨hR, h1, h2, p1, p2, hds, hl, b1, b2, bD, k⟩ := h
  refine ⟨_, rfl, _, rfl, _, rfl, _, rfl, r, e2, m, pf, n, gvs, T2, D, rfl, hR, h2, p2, by omega, fun d H1 kvs nd g hd pd lk => ?_⟩
  refine ⟨r, e1, d, m, pf, n, fvs, kvs, T1, _, D, rfl, hR.same g, g _ _ h1, hd, p1.same g, pd, hds, by omega, b1, b2.neg, bD, fun d2 H2 kvs2 nd2 g2 hd2 pd2 lk2 => ?_⟩
  exact k d2 H2 kvs2 (g.free nd2) (g.trans g2) hd2 pd2 (by omega)
end
end K10
namespace K10
open PySem L2
open K1 K2 K3 K6 K8
section
variable {P : Program} {w : World} {K : PySem.W.Frag} {mg : Str → Option Value} {base : Heap} {f : Addr} {fd : FuncData} {C_Ring C_Fractions C_Rests C_Order C_Degrees C_Tails : Addr} {E_NoPrime E_NoRing : Addr}
local macro_rules | `(tactic| walk_at "sd") => `(tactic| first
  | assumption | (dsimp only; omega) | (dsimp only; decide) | exact ⟨by decide, by decide⟩ | exact ⟨by decide, by decide, by decide⟩ | exact Or.inl ⟨by decide, by decide⟩ | exact ⟨by omega, by omega⟩ | exact Or.inl ⟨by omega, by omega⟩ | exact Or.inr ⟨by decide, by decide⟩ | exact Or.inr ⟨by omega, by omega⟩)
local macro_rules | `(tactic| walk_at "rd") => `(tactic| repeat first
  | refine ⟨_, rfl, ?_⟩ | refine ⟨_, _, rfl, rfl, ?_⟩ | refine And.intro rfl ?_ | refine And.intro (by walk_at "sd") ?_ | with_reducible refine iteT ?_ | with_reducible refine iteF ?_ | (apply ixT_of; assumption; rfl))
local macro_rules | `(tactic| walk_at "clo") => `(tactic| exact h)

theorem scTimes : FnScope ["ring", "f", "g", "total", "term", "number"] ["ring", "f", "g"] (defScope s_times) := ⟨rfl, rfl, rfl, by decide +kernel, rfl, by decide +kernel, by decide +kernel⟩
set_option maxHeartbeats 4000000 in
theorem ok_Times  (F : FunD K "times" "times" s_times .none f fd) (T : Txt K mg C_Ring C_Fractions C_Rests C_Order C_Degrees C_Tails) (c_Scal : Cal P w K mg base CX0 4 "scaled" ["ring", "number", "term", "f"] [] (spScal C_Ring C_Fractions C_Rests)) (c_Absorb : Cal P w K mg base CX0 4 "absorb" ["ring", "total", "f"] [] (spAbs C_Ring C_Fractions C_Rests))  : FnOk P w K mg base CX0 6 f fd ["ring", "f", "g"] (spTimes C_Ring C_Fractions C_Rests) := by
  refine F.okN (k := 5) scTimes (fun vs H Q E h => ?_) (fun cdv A outer s H vs Q E hr h => ?_)
  · obtain ⟨r, e1, e2, m, pf, n, fvs, gvs, T1, D1, T2, D2, rfl, _⟩ := h
    rfl
  obtain ⟨r, e1, e2, m, pf, n, fvs, gvs, T1, D1, T2, D2, rfl, h⟩ := h
  refine ⟨_, (pss_cons (ps_set (i := 3) scTimes.nd rfl (Or.inl rfl) (pe_dnewT))
    (pss_cons (ps_thw (ps_for PassesOwn.never rfl (pi_items (pv 1)) (pg_tup rfl (pgs_cons (pg_name (i := 4) scTimes.nd rfl (Or.inl rfl)) (pgs_cons (pg_name (i := 5) scTimes.nd rfl (Or.inl rfl)) pgs_nil))) (pss_one (ps_expr (pe_c c_Absorb hr pass00 .nil ((pa_cons (pv 0) (pa_cons (pv 3) (pa_cons (pe_c c_Scal hr pass00 .nil ((pa_cons (pv 0) (pa_cons (pv 5) (pa_cons (pv 4) (pa_cons (pv 2) pa_nil)))))) pa_nil)))))))))
    (pss_one (ps_ret (pv 3))))), ?_⟩
  obtain ⟨hR, e12, h1, h2, p1, p2, l1, l2, b1, b2, bD1, bD2, k⟩ := h
  have n2 := hR.np
  intro d nd0
  have g2 : Same H (upd H d (.dT [])) := Same.upd nd0
  have hd2 : (upd H d (HO.dT [])) d = some (.dT []) := upd_same
  generalize upd H d (HO.dT []) = H2 at g2 hd2
  have he2 := g2 _ _ h1
  have de : d ≠ e1 := fun z => by subst z; rw [h1] at nd0; cases nd0
  have de2 : d ≠ e2 := fun z => by subst z; rw [h2] at nd0; cases nd0
  refine ⟨_, rfl, e1, fvs, rfl, .inl he2, fun o => ?_⟩
  have ltk : (tks fvs).length = fvs.length := tks_len fvs
  have nzD := nz_mul n2 p1.nz p2.nz
  have sl : 4096 < sizeLine := by rw [sizeLine_eq]; decide
  refine for_ditem (fun i σ H' => i ≤ fvs.length ∧ (∃ v5 v6, σ = [some (.ref r), some (.ref e1), some (.ref e2), some (.ref d), v5, v6]) ∧ FzD H' e1 o fvs ∧ (∀ b ob, H2 b = some ob → b ≠ d → b ≠ e1 → H' b = some ob) ∧ ∃ kv, H' d = some (.dT kv) ∧ PD n m H' kv (cv T1 ((tks fvs).take i) T2) (D1 * D2) ∧ kv.length ≤ i * gvs.length) ?_ (fun i σ H' h => h.2.2.1) ?_ ?_
  · refine ⟨Nat.zero_le _, ⟨none, none, rfl⟩, upd_same, fun b ob hb _ be => ?_, [], ?_, ?_, Nat.zero_le _⟩
    · rw [upd_ne be]; exact hb
    · rw [upd_ne de]; exact hd2
    · exact PD.nil n2 nzD fun t => by rw [List.take_zero, cv_nil]; exact zr_zero n
  · rintro i kx vx σ H3 p b hk ⟨hi, ⟨v5, v6, rfl⟩, hz, hk3, kv, hd3, pk, lk⟩ hp hb
    obtain ⟨x, hx, rfl, okx, ix, nzx⟩ := p1.get hk
    have hi' := lt_of_get hk
    refine ⟨p, _, rfl, SqT.of upd_same, rfl, _, _, rfl, _, _, rfl, rfl, ?_⟩
    have e4 : Same H3 (upd H3 p (.tup [.ref b, vx])) := Same.upd hp
    generalize upd H3 p (HO.tup [V.ref b, vx]) = H4 at e4
    have upp : ∀ c ob, H c = some ob → c ≠ e1 → H4 c = some ob := fun c ob hc ce => e4 _ _ (hk3 _ _ (g2 _ _ hc) (fun z => by subst z; rw [hc] at nd0; cases nd0) ce)
    have upt : ∀ c xs, H c = some (.tup xs) → H4 c = some (.tup xs) := fun c xs hc => upp _ _ hc (ne_of hc h1 (by intro z; cases z))
    have hR4 : RgK C_Ring C_Fractions C_Rests H4 r m pf n := hR.keep fun c ob hc ⟨C', dy, fs, z⟩ => upp _ _ hc (ne_of hc h1 (by intro q; rw [z] at q; cases q))
    have hb4 := e4 _ _ hb
    rw [ky_kV] at hb4
    refine ⟨_, rfl, _, rfl, _, rfl, _, rfl, _, rfl, _, rfl, r, vx, b, e2, m, pf, n, gvs, T1 x, D1, x, T2, D2, rfl, hR4, ix.keep upt, p1.nz, fun z => ⟨up (b1 z x) (by decide), up (bD1 z) (by decide)⟩, hb4, okx, upp _ _ h2 (Ne.symm e12), p2.keep upt, bdd_up b2 (by decide), fun z => up (bD2 z) (by decide), by omega, fun d5 H5 kv5 nd5 g5 hd5 pd5 lk5 => ?_⟩
    have g45 := e4.trans g5
    have hd3' := g45 _ _ hd3
    have ne5 : d ≠ d5 := fun z => by subst z; rw [e4 _ _ hd3] at nd5; cases nd5
    have lkk : i * gvs.length ≤ 4032 := Nat.le_trans (Nat.mul_le_mul (show i ≤ 63 by omega) l2) (by decide)
    have bcv : Bdd n (cv T1 ((tks fvs).take i) T2) 208 := cv_bdd b1 b2 (by rw [List.length_take]; omega)
    refine ⟨r, d, d5, m, pf, n, kv, kv5, _, _, D1 * D2, rfl, hR4.same g5, ne5, hd3', hd5, pk.same g45, pd5, by omega, bdd_up bcv (by decide), fun z t => ?_, fun z => up (mul_up (bD1 z) (bD2 z)) (by decide), fun H6 kv6 bt6 hd6 pd6 lk6 => ?_⟩
    · exact up (mul_up (b1 z x) (shT_bd x b2 z t)) (by decide)
    refine ⟨hi', ⟨_, _, rfl⟩, bt6 _ _ (g45 _ _ hz) (Ne.symm de), fun c ob q1 q2 q3 => bt6 _ _ (g45 _ _ (hk3 c ob q1 q2 q3)) q2, kv6, hd6, ?_, ?_⟩
    · have : cv T1 ((tks fvs).take (i + 1)) T2 = fun t => cv T1 ((tks fvs).take i) T2 t + T1 x * shT x T2 t := funext fun t => by rw [take_snoc hx, cv_snoc]
      rw [this]; exact pd6
    · rw [Nat.succ_mul]; omega
  · rintro σ H3 ⟨_, ⟨v5, v6, rfl⟩, hz, hk3, kv, hd3, pk, lk⟩
    refine .inr ⟨e1, o, _, hz, fun o' w' z => ?_, ?_⟩
    · have z' : H e1 = some (.frz o' w') := z
      rw [h1] at z'; cases z'
    have tku : (tks fvs).take fvs.length = tks fvs := by rw [← ltk, List.take_length]
    rw [tku] at pk
    have kp : ∀ c xs, H3 c = some (.tup xs) → (upd H3 e1 (.dT fvs)) c = some (.tup xs) := fun c xs hc => (upd_ne (ne_of hc hz (by intro z; cases z))).trans hc
    refine ⟨_, rfl, k d _ kv nd0 (fun c ob hc => ?_) ((upd_ne de).trans hd3) (pk.keep kp) lk⟩
    by_cases ce : c = e1
    · subst ce; rw [upd_same, ← h1]; exact hc
    · rw [upd_ne ce]
      exact hk3 _ _ (g2 _ _ hc) (fun z => by subst z; rw [hc] at nd0; cases nd0) ce
end
end K10
namespace K10
open PySem L2
open K1 K2 K3 K6 K8
section
variable {P : Program} {w : World} {K : PySem.W.Frag} {mg : Str → Option Value} {base : Heap} {f : Addr} {fd : FuncData} {C_Ring C_Fractions C_Rests C_Order C_Degrees C_Tails : Addr} {E_NoPrime E_NoRing : Addr}
local macro_rules | `(tactic| walk_at "sd") => `(tactic| first
  | assumption | (dsimp only; omega) | (dsimp only; decide) | exact ⟨by decide, by decide⟩ | exact ⟨by decide, by decide, by decide⟩ | exact Or.inl ⟨by decide, by decide⟩ | exact ⟨by omega, by omega⟩ | exact Or.inl ⟨by omega, by omega⟩ | exact Or.inr ⟨by decide, by decide⟩ | exact Or.inr ⟨by omega, by omega⟩)
local macro_rules | `(tactic| walk_at "rd") => `(tactic| repeat first
  | refine ⟨_, rfl, ?_⟩ | refine ⟨_, _, rfl, rfl, ?_⟩ | refine And.intro rfl ?_ | refine And.intro (by walk_at "sd") ?_ | with_reducible refine iteT ?_ | with_reducible refine iteF ?_ | (apply ixT_of; assumption; rfl))
local macro_rules | `(tactic| walk_at "clo") => `(tactic| exact h)

theorem scCell : FnScope ["_law_script", "_law_k"] ["_law_script", "_law_k"] (defScope s__law_cell) := ⟨rfl, rfl, rfl, by decide +kernel, rfl, by decide +kernel, by decide +kernel⟩
set_option maxHeartbeats 4000000 in
theorem ok_Cell  (F : FunD K "_law_cell" "_law_cell" s__law_cell .none f fd) (T : Txt K mg C_Ring C_Fractions C_Rests C_Order C_Degrees C_Tails)   : FnOk P w K mg base CX0 1 f fd ["_law_script", "_law_k"] (spCell K) := by
  refine F.okN (k := 0) scCell (fun vs H Q E h => ?_) (fun cdv A outer s H vs Q E hr h => ?_)
  · obtain ⟨a, ns, k, rfl, _⟩ := h
    rfl
  obtain ⟨a, ns, k, rfl, h⟩ := h
  refine ⟨_, (pss_cons (ps_if (pt_cmpR op_lt (pv 1) (pe_callB (call_lenK (K := K) rfl) rfl T.b_len PySem.boot_len ((pa_cons (pv 0) pa_nil))) (nomark _)) (pss_one (ps_ret (pe_ix (r := rIxL K) ix_list (pv 0) (pv 1) (fun _ _ => rfl)))) pss_nil)
    (pss_one (ps_ret (pe_int)))), ?_⟩
  obtain ⟨hS, h0, q⟩ := h
  have hl : (ns.map V.int).length = ns.length := List.length_map _
  refine ⟨_, rfl, _, rfl, a, _, rfl, .inl hS, ?_⟩
  walk_at "rd"
  refine cD (fun c => ?_) (fun c => ?_)
  · rw [hl] at c
    exact ⟨_, rfl, _, rfl, a, _, _, _, rfl, rfl, hS, atI_int h0 c, q⟩
  · rw [hl] at c
    have e : cellOf ns k = 0 := by unfold cellOf; rw [List.getD_eq_getElem?_getD, List.getElem?_eq_none (by omega)]; rfl
    rw [e] at q
    exact q
end
end K10
namespace K10
open PySem L2
open K1 K2 K3 K6 K8
section
variable {P : Program} {w : World} {K : PySem.W.Frag} {mg : Str → Option Value} {base : Heap} {f : Addr} {fd : FuncData} {C_Ring C_Fractions C_Rests C_Order C_Degrees C_Tails : Addr} {E_NoPrime E_NoRing : Addr}
local macro_rules | `(tactic| walk_at "sd") => `(tactic| first
  | assumption | (dsimp only; omega) | (dsimp only; decide) | exact ⟨by decide, by decide⟩ | exact ⟨by decide, by decide, by decide⟩ | exact Or.inl ⟨by decide, by decide⟩ | exact ⟨by omega, by omega⟩ | exact Or.inl ⟨by omega, by omega⟩ | exact Or.inr ⟨by decide, by decide⟩ | exact Or.inr ⟨by omega, by omega⟩)
local macro_rules | `(tactic| walk_at "rd") => `(tactic| repeat first
  | refine ⟨_, rfl, ?_⟩ | refine ⟨_, _, rfl, rfl, ?_⟩ | refine And.intro rfl ?_ | refine And.intro (by walk_at "sd") ?_ | with_reducible refine iteT ?_ | with_reducible refine iteF ?_ | (apply ixT_of; assumption; rfl))
local macro_rules | `(tactic| walk_at "clo") => `(tactic| exact h)

theorem scLShared : FnScope ["_law_a", "_law_b", "_law_rest"] ["_law_a", "_law_b"] (defScope s__law_shared) := ⟨rfl, rfl, rfl, by decide +kernel, rfl, by decide +kernel, by decide +kernel⟩
set_option maxHeartbeats 4000000 in
theorem ok_LShared  (F : FunD K "_law_shared" "_law_shared" s__law_shared .none f fd) (T : Txt K mg C_Ring C_Fractions C_Rests C_Order C_Degrees C_Tails)   : FnOk P w K mg base CX0 1 f fd ["_law_a", "_law_b"] spLShared := by
  refine F.okN (k := 0) scLShared (fun vs H Q E h => ?_) (fun cdv A outer s H vs Q E hr h => ?_)
  · obtain ⟨a, b, rfl, _⟩ := h
    rfl
  obtain ⟨a, b, rfl, h⟩ := h
  refine ⟨_, (pss_cons (ps_set (i := 0) scLShared.nd rfl (Or.inl rfl) (pe_callB call_abs rfl T.b_abs (by kernel_rfl) ((pa_cons (pv 0) pa_nil))))
    (pss_cons (ps_set (i := 1) scLShared.nd rfl (Or.inl rfl) (pe_callB call_abs rfl T.b_abs (by kernel_rfl) ((pa_cons (pv 1) pa_nil))))
    (pss_cons (ps_while PassesOwn.never (pt_cmpR op_ne (pv 1) (pe_int) (nomark _)) (pss_cons (ps_set (i := 2) scLShared.nd rfl (Or.inl rfl) (pe_op op_modN (pv 0) (pv 1)))
    (pss_cons (ps_set (i := 0) scLShared.nd rfl (Or.inl rfl) (pv 1))
    (pss_one (ps_set (i := 1) scLShared.nd rfl (Or.inl rfl) (pv 2))))))
    (pss_one (ps_ret (pv 0)))))), ?_⟩
  have k := h
  walk_at "rd"
  refine ⟨fun m σ H' => ∃ (a' b' : Int) (v : Option V), m = b'.toNat ∧ σ = [some (.int a'), some (.int b'), v] ∧ H' = H ∧ 0 ≤ a' ∧ 0 ≤ b' ∧ Gc (if a < 0 then -a else a) (if b < 0 then -b else b) a' b', ⟨_, _, _, none, rfl, rfl, rfl, K1.start (by split <;> omega) (by split <;> omega)⟩, ?_⟩
  rintro m σ H' ⟨a', b', v, rfl, rfl, rfl, h1, h2, hg⟩
  walk_at "rd"
  refine cNe (fun c => ?_) (fun c => ?_)
  · refine ⟨fun σ' H'' => ∃ v', σ' = [some (.int b'), some (.int (a'.fmod b')), v'] ∧ H'' = H', ?_, ?_⟩
    · rintro σ' H'' ⟨v', rfl, rfl⟩
      exact ⟨(a'.fmod b').toNat, K1.less (by omega), _, _, v', rfl, rfl, rfl, K1.turn hg h1 (by omega)⟩
    · refine ⟨_, rfl, _, rfl, _, _, rfl, rfl, c, ?_⟩
      walk_at "rd"
      rfl
  · refine ⟨_, rfl, ?_⟩
    show Q (.int a') H'
    rw [K1.out hg h1 c, gI_abs]
    exact k
end
end K10
namespace K10
open PySem L2
open K1 K2 K3 K6 K8
section
variable {P : Program} {w : World} {K : PySem.W.Frag} {mg : Str → Option Value} {base : Heap} {f : Addr} {fd : FuncData} {C_Ring C_Fractions C_Rests C_Order C_Degrees C_Tails : Addr} {E_NoPrime E_NoRing : Addr}
local macro_rules | `(tactic| walk_at "sd") => `(tactic| first
  | assumption | (dsimp only; omega) | (dsimp only; decide) | exact ⟨by decide, by decide⟩ | exact ⟨by decide, by decide, by decide⟩ | exact Or.inl ⟨by decide, by decide⟩ | exact ⟨by omega, by omega⟩ | exact Or.inl ⟨by omega, by omega⟩ | exact Or.inr ⟨by decide, by decide⟩ | exact Or.inr ⟨by omega, by omega⟩)
local macro_rules | `(tactic| walk_at "rd") => `(tactic| repeat first
  | refine ⟨_, rfl, ?_⟩ | refine ⟨_, _, rfl, rfl, ?_⟩ | refine And.intro rfl ?_ | refine And.intro (by walk_at "sd") ?_ | with_reducible refine iteT ?_ | with_reducible refine iteF ?_ | (apply ixT_of; assumption; rfl))
local macro_rules | `(tactic| walk_at "clo") => `(tactic| exact h)

theorem scLPrime : FnScope ["_law_number", "_law_divisor"] ["_law_number"] (defScope s__law_is_prime) := ⟨rfl, rfl, rfl, by decide +kernel, rfl, by decide +kernel, by decide +kernel⟩
set_option maxHeartbeats 4000000 in
theorem ok_LPrime  (F : FunD K "_law_is_prime" "_law_is_prime" s__law_is_prime .none f fd) (T : Txt K mg C_Ring C_Fractions C_Rests C_Order C_Degrees C_Tails)   : FnOk P w K mg base CX0 1 f fd ["_law_number"] spPrime := by
  refine F.okN (k := 0) scLPrime (fun vs H Q E h => ?_) (fun cdv A outer s H vs Q E hr h => ?_)
  · obtain ⟨n, rfl, _⟩ := h
    rfl
  obtain ⟨n, rfl, h⟩ := h
  refine ⟨_, (pss_cons (ps_set (i := 1) scLPrime.nd rfl (Or.inl rfl) (pe_int))
    (pss_cons (ps_while PassesOwn.never (pt_cmpR op_le (pe_op op_mul (pv 1) (pv 1)) (pv 0) (nomark _)) (pss_cons (ps_if (pt_cmpR op_eq (pe_op op_modN (pv 0) (pv 1)) (pe_int) (nomark _)) (pss_one (ps_ret (pe_bl))) pss_nil)
    (pss_one (ps_set (i := 1) scLPrime.nd rfl (Or.inl rfl) (pe_op op_add (pv 1) (pe_int))))))
    (pss_one (ps_ret (pe_cmpR op_ge (pv 0) (pe_int) (nomark _)))))), ?_⟩
  obtain ⟨hn, k⟩ := h
  refine ⟨fun m σ H' => ∃ d : Int, m = (200 - d).toNat ∧ σ = [some (.int n), some (.int d)] ∧ H' = H ∧ 2 ≤ d ∧ d ≤ 101 ∧ NoDiv n d, ⟨_, 2, rfl, rfl, rfl, K3.start n⟩, ?_⟩
  rintro m σ H' ⟨d, rfl, rfl, rfl, h2, h3, hd⟩
  refine ⟨_, rfl, _, rfl, _, _, rfl, rfl, .inl (sq_small (n := n) h2 h3), ?_⟩
  walk_at "rd"
  refine cD (fun q => ?_) (fun q => ?_)
  · refine ⟨fun σ' H'' => σ' = [some (.int n), some (.int (d + 1))] ∧ H'' = H' ∧ ¬ Int.fmod n d = 0, ?_, ?_⟩
    · rintro σ' H'' ⟨rfl, rfl, nz⟩
      exact ⟨(200 - (d + 1)).toNat, K3.less h2 q hn, d + 1, rfl, rfl, rfl, K3.turn hd nz h2 q hn⟩
    · refine ⟨_, rfl, _, rfl, _, _, rfl, rfl, (by show d ≠ 0; omega), ?_⟩
      walk_at "rd"
      refine cEq (fun z => ?_) (fun z => ?_)
      · show Q (.bl false) H'
        rw [found h2 q z]
        exact k
      · walk_at "rd"
        exact z
  · walk_at "rd"
    show Q (.bl (decide (2 ≤ n))) H'
    rw [outB hd h2 q]
    exact k
end
end K10
namespace K10
open PySem L2
open K1 K2 K3 K6 K8
section
variable {P : Program} {w : World} {K : PySem.W.Frag} {mg : Str → Option Value} {base : Heap} {f : Addr} {fd : FuncData} {C_Ring C_Fractions C_Rests C_Order C_Degrees C_Tails : Addr} {E_NoPrime E_NoRing : Addr}
local macro_rules | `(tactic| walk_at "sd") => `(tactic| first
  | assumption | (dsimp only; omega) | (dsimp only; decide) | exact ⟨by decide, by decide⟩ | exact ⟨by decide, by decide, by decide⟩ | exact Or.inl ⟨by decide, by decide⟩ | exact ⟨by omega, by omega⟩ | exact Or.inl ⟨by omega, by omega⟩ | exact Or.inr ⟨by decide, by decide⟩ | exact Or.inr ⟨by omega, by omega⟩)
local macro_rules | `(tactic| walk_at "rd") => `(tactic| repeat first
  | refine ⟨_, rfl, ?_⟩ | refine ⟨_, _, rfl, rfl, ?_⟩ | refine And.intro rfl ?_ | refine And.intro (by walk_at "sd") ?_ | with_reducible refine iteT ?_ | with_reducible refine iteF ?_ | (apply ixT_of; assumption; rfl))
local macro_rules | `(tactic| walk_at "clo") => `(tactic| exact h)

theorem scLPr : FnScope ["_law_cell_here", "_law_number"] ["_law_cell_here"] (defScope s__law_prime) := ⟨rfl, rfl, rfl, by decide +kernel, rfl, by decide +kernel, by decide +kernel⟩
set_option maxHeartbeats 4000000 in
theorem ok_LPr  (F : FunD K "_law_prime" "_law_prime" s__law_prime .none f fd) (T : Txt K mg C_Ring C_Fractions C_Rests C_Order C_Degrees C_Tails) (c_LPrime : Cal P w K mg base CX0 1 "_law_is_prime" ["_law_number"] [] spPrime)  : FnOk P w K mg base CX0 2 f fd ["_law_cell_here"] spLPr := by
  refine F.okN (k := 1) scLPr (fun vs H Q E h => ?_) (fun cdv A outer s H vs Q E hr h => ?_)
  · obtain ⟨c, rfl, _⟩ := h
    rfl
  obtain ⟨c, rfl, h⟩ := h
  refine ⟨_, (pss_cons (ps_set (i := 1) scLPr.nd rfl (Or.inl rfl) (pe_op op_add (pe_int) (pe_op op_mod (pv 0) (pe_int))))
    (pss_cons (ps_while PassesOwn.never (pt_not (pt_val (pe_c c_LPrime hr pass00 .nil ((pa_cons (pv 1) pa_nil))))) (pss_one (ps_set (i := 1) scLPr.nd rfl (Or.inl rfl) (pe_op op_add (pv 1) (pe_int)))))
    (pss_one (ps_ret (pv 1))))), ?_⟩
  have k := h
  walk_at "rd"
  refine ⟨fun m σ H' => ∃ n : Int, m = (9973 - n).toNat ∧ σ = [some (.int c), some (.int n)] ∧ H' = H ∧ n ≤ 9973, ⟨_, _, rfl, rfl, rfl, by omega⟩, ?_⟩
  rintro m σ H' ⟨n, rfl, rfl, rfl, hn⟩
  refine ⟨_, rfl, n, rfl, hn, _, rfl, ?_⟩
  refine cNB (fun c1 => ?_) (fun c1 => ?_)
  · refine ⟨fun σ' H'' => σ' = [some (.int c), some (.int (n + 1))] ∧ H'' = H', ?_, ?_⟩
    · rintro σ' H'' ⟨rfl, rfl⟩
      have := not9973 c1
      exact ⟨_, (by omega : (9973 - (n + 1)).toNat < (9973 - n).toNat), n + 1, rfl, rfl, rfl, by omega⟩
    · walk_at "rd"
      rfl
  · exact ⟨_, rfl, k n c1 hn⟩
end
end K10
namespace K10
open PySem L2
open K1 K2 K3 K6 K8
section
variable {P : Program} {w : World} {K : PySem.W.Frag} {mg : Str → Option Value} {base : Heap} {f : Addr} {fd : FuncData} {C_Ring C_Fractions C_Rests C_Order C_Degrees C_Tails : Addr} {E_NoPrime E_NoRing : Addr}
local macro_rules | `(tactic| walk_at "sd") => `(tactic| first
  | assumption | (dsimp only; omega) | (dsimp only; decide) | exact ⟨by decide, by decide⟩ | exact ⟨by decide, by decide, by decide⟩ | exact Or.inl ⟨by decide, by decide⟩ | exact ⟨by omega, by omega⟩ | exact Or.inl ⟨by omega, by omega⟩ | exact Or.inr ⟨by decide, by decide⟩ | exact Or.inr ⟨by omega, by omega⟩)
local macro_rules | `(tactic| walk_at "rd") => `(tactic| repeat first
  | refine ⟨_, rfl, ?_⟩ | refine ⟨_, _, rfl, rfl, ?_⟩ | refine And.intro rfl ?_ | refine And.intro (by walk_at "sd") ?_ | with_reducible refine iteT ?_ | with_reducible refine iteF ?_ | (apply ixT_of; assumption; rfl))
local macro_rules | `(tactic| walk_at "clo") => `(tactic| exact h)

theorem scLMd : FnScope ["_law_top", "_law_bottom", "_law_prime_here", "_law_shared_here"] ["_law_top", "_law_bottom", "_law_prime_here"] (defScope s__law_made) := ⟨rfl, rfl, rfl, by decide +kernel, rfl, by decide +kernel, by decide +kernel⟩
set_option maxHeartbeats 4000000 in
theorem ok_LMd  (F : FunD K "_law_made" "_law_made" s__law_made .none f fd) (T : Txt K mg C_Ring C_Fractions C_Rests C_Order C_Degrees C_Tails) (c_LShared : Cal P w K mg base CX0 1 "_law_shared" ["_law_a", "_law_b"] [] spLShared)  : FnOk P w K mg base CX0 2 f fd ["_law_top", "_law_bottom", "_law_prime_here"] spMd := by
  refine F.okN (k := 1) scLMd (fun vs H Q E h => ?_) (fun cdv A outer s H vs Q E hr h => ?_)
  · obtain ⟨t, b, n, rfl, _⟩ := h
    rfl
  obtain ⟨t, b, n, rfl, h⟩ := h
  refine ⟨_, (pss_cons (ps_if (pt_cmpR op_gt (pv 2) (pe_int) (nomark _)) (pss_one (ps_ret (pe_op op_mod (pv 0) (pv 2)))) pss_nil)
    (pss_cons (ps_set (i := 3) scLMd.nd rfl (Or.inl rfl) (pe_c c_LShared hr pass00 .nil ((pa_cons (pv 0) (pa_cons (pv 1) pa_nil)))))
    (pss_one (ps_ret (pe_tup ((pa_cons (pe_op op_fdivB (pv 0) (pv 3)) (pa_cons (pe_op op_fdivB (pv 1) (pv 3)) pa_nil)))))))), ?_⟩
  obtain ⟨n2, b1, bt, bb, k⟩ := h
  walk_at "rd"
  refine cD (fun c => ?_) (fun c => ?_)
  · have n0 : n ≠ 0 := by omega
    refine ⟨_, rfl, _, rfl, _, _, rfl, rfl, (by show 0 < n; omega), ?_⟩
    refine k _ H (Same.refl _) ((is_n n0).mpr ⟨_, rfl, Int.emod_nonneg _ n0, Int.emod_lt_of_pos _ (by omega), ?_⟩)
    rw [dB_n n0, Int.mul_one]
    exact Int.emod_eq_zero_of_dvd (Int.dvd_sub_self_of_emod_eq rfl)
  · have n0 : n = 0 := by
      rcases n2 with z | z
      · exact z
      · have := z.1; omega
    subst n0
    have hb : b ≠ 0 := by omega
    have ed : gI t b = dv t b := by unfold dv; rw [if_neg (by omega)]
    obtain ⟨g0, gb⟩ := gI_bd (a := t) hb bb
    refine ⟨_, rfl, _, rfl, t, b, rfl, ?_⟩
    refine ⟨_, rfl, _, rfl, _, _, rfl, rfl, ⟨g0, up gb (by decide)⟩, _, rfl, _, rfl, _, _, rfl, rfl, ⟨g0, up gb (by decide)⟩, (by show 2 ≤ sizeLine; decide), fun r hr => ?_⟩
    refine k _ _ (Same.upd hr) (is_0.mpr ⟨r, fT t b, fB t b, rfl, ?_, fB_pos hb, f_cop hb, by rw [dB_0]; exact f_cross hb⟩)
    rw [upd_same]
    unfold fT fB
    rw [← ed]
end
end K10
namespace K10
open PySem L2
open K1 K2 K3 K6 K8
section
variable {P : Program} {w : World} {K : PySem.W.Frag} {mg : Str → Option Value} {base : Heap} {f : Addr} {fd : FuncData} {C_Ring C_Fractions C_Rests C_Order C_Degrees C_Tails : Addr} {E_NoPrime E_NoRing : Addr}
local macro_rules | `(tactic| walk_at "sd") => `(tactic| first
  | assumption | (dsimp only; omega) | (dsimp only; decide) | exact ⟨by decide, by decide⟩ | exact ⟨by decide, by decide, by decide⟩ | exact Or.inl ⟨by decide, by decide⟩ | exact ⟨by omega, by omega⟩ | exact Or.inl ⟨by omega, by omega⟩ | exact Or.inr ⟨by decide, by decide⟩ | exact Or.inr ⟨by omega, by omega⟩)
local macro_rules | `(tactic| walk_at "rd") => `(tactic| repeat first
  | refine ⟨_, rfl, ?_⟩ | refine ⟨_, _, rfl, rfl, ?_⟩ | refine And.intro rfl ?_ | refine And.intro (by walk_at "sd") ?_ | with_reducible refine iteT ?_ | with_reducible refine iteF ?_ | (apply ixT_of; assumption; rfl))
local macro_rules | `(tactic| walk_at "clo") => `(tactic| exact h)

theorem scFitsO : FnScope ["self", "many"] ["self", "many"] (defScope s_Order_fits) := ⟨rfl, rfl, rfl, by decide +kernel, rfl, by decide +kernel, by decide +kernel⟩
set_option maxHeartbeats 4000000 in
theorem ok_FitsO {At : Hp → Addr → Prop} (F : FunD K "fits" "Order.fits" s_Order_fits .none f fd) (T : Txt K mg C_Ring C_Fractions C_Rests C_Order C_Degrees C_Tails)   : FnOk P w K mg base CX0 1 f fd ["self", "many"] (spFits At fun _ => true) := by
  refine F.okN (k := 0) scFitsO (fun vs H Q E h => ?_) (fun cdv A outer s H vs Q E hr h => ?_)
  · obtain ⟨p, k, rfl, _⟩ := h
    rfl
  obtain ⟨p, k, rfl, h⟩ := h
  refine ⟨_, (pss_one (ps_ret (pe_bl))), ?_⟩
  exact h.2 H (Same.refl _)
end
end K10
namespace K10
open PySem L2
open K1 K2 K3 K6 K8
section
variable {P : Program} {w : World} {K : PySem.W.Frag} {mg : Str → Option Value} {base : Heap} {f : Addr} {fd : FuncData} {C_Ring C_Fractions C_Rests C_Order C_Degrees C_Tails : Addr} {E_NoPrime E_NoRing : Addr}
local macro_rules | `(tactic| walk_at "sd") => `(tactic| first
  | assumption | (dsimp only; omega) | (dsimp only; decide) | exact ⟨by decide, by decide⟩ | exact ⟨by decide, by decide, by decide⟩ | exact Or.inl ⟨by decide, by decide⟩ | exact ⟨by omega, by omega⟩ | exact Or.inl ⟨by omega, by omega⟩ | exact Or.inr ⟨by decide, by decide⟩ | exact Or.inr ⟨by omega, by omega⟩)
local macro_rules | `(tactic| walk_at "rd") => `(tactic| repeat first
  | refine ⟨_, rfl, ?_⟩ | refine ⟨_, _, rfl, rfl, ?_⟩ | refine And.intro rfl ?_ | refine And.intro (by walk_at "sd") ?_ | with_reducible refine iteT ?_ | with_reducible refine iteF ?_ | (apply ixT_of; assumption; rfl))
local macro_rules | `(tactic| walk_at "clo") => `(tactic| exact h)

theorem scRgI : FnScope ["self", "many", "field", "order"] ["self", "many", "field", "order"] (defScope s_Ring___init__) := ⟨rfl, rfl, rfl, by decide +kernel, rfl, by decide +kernel, by decide +kernel⟩
set_option maxHeartbeats 4000000 in
theorem ok_RgI  (F : FunD K "__init__" "Ring.__init__" s_Ring___init__ .none f fd) (T : Txt K mg C_Ring C_Fractions C_Rests C_Order C_Degrees C_Tails) (x_NoRing : Exc K mg base "NoRing" E_NoRing) (hord : ∀ CD, IsO C_Order C_Degrees C_Tails CD → MCal P w K mg base CX0 1 CD "fits" ["self", "many"] [] (spFits (AtO CD) fun _ => true)) : FnOk P w K mg base (CXe P w) 2 f fd ["self", "many", "field", "order"] (spRgI3 C_Ring C_Order C_Degrees C_Tails) := by
  refine F.okX (k := 1) scRgI (fun vs H Q E h => ?_) (fun cdv A outer s H vs Q E hr h => ?_)
  · obtain ⟨r, dx, m, pf, po, CD, rfl, _⟩ := h
    rfl
  obtain ⟨r, dx, m, pf, po, CD, rfl, h⟩ := h
  have hfit := hord CD h.1
  refine ⟨_, (pss_cons (ps_if (PW.pt (pw_or (pt_cmpR op_lt (pv 1) (pe_int) (nomark _)) (pw_or (pt_cmpR op_gt (pv 1) (pe_callB call_len_str rfl T.b_len PySem.boot_len ((pa_cons (pe_globS T.g_LETTERS rfl) pa_nil))) (nomark _)) (pw_or1 (pt_not (pt_val (pe_m hfit (pv 3) hr pass00 .nil ((pa_cons (pv 1) pa_nil))))))))) (pss_one (ps_rz x_NoRing rfl rfl raisesTo_body ((pa_cons (pe_str) pa_nil)))) pss_nil)
    (pss_cons (ps_fld (pv 0) (pv 1) rfl)
    (pss_cons (ps_fld (pv 0) (pv 2) rfl)
    (pss_one (ps_fld (pv 0) (pv 3) rfl))))), ?_⟩
  obtain ⟨hr0, ⟨dO, hO⟩, m1, m2, k⟩ := h.2
  walk_at "rd"
  refine cD (fun c => absurd c (by omega)) (fun c => ?_)
  refine ⟨_, rfl, _, rfl, (by decide +kernel), ?_⟩
  rw [len_xyzt]
  walk_at "rd"
  refine cD (fun c1 => absurd c1 (by omega)) (fun c1 => ?_)
  refine ⟨_, rfl, po, dO, _, rfl, hO, rfl, _, rfl, po, m, rfl, ⟨dO, hO⟩, fun H1 e1 => ?_⟩
  refine ⟨_, rfl, iteF ?_⟩
  have hr1 := e1 _ _ hr0
  refine ⟨_, rfl, _, rfl, r, C_Ring, dx, _, rfl, hr1, T.cl_Ring, T.na_Ring_many, (by show 0 < 1000; decide), ?_⟩
  refine ⟨_, rfl, _, rfl, r, C_Ring, dx, _, rfl, upd_same, T.cl_Ring, T.na_Ring_field, (by show 1 < 1000; decide), ?_⟩
  refine ⟨_, rfl, _, rfl, r, C_Ring, dx, _, rfl, upd_same, T.cl_Ring, T.na_Ring_order, (by show 2 < 1000; decide), ?_⟩
  refine k _ upd_same fun b o hb ne => ?_
  rw [upd_ne ne, upd_ne ne, upd_ne ne]
  exact e1 _ _ hb
end
end K10
namespace K10
open PySem L2
open K1 K2 K3 K6 K8
section
variable {P : Program} {w : World} {K : PySem.W.Frag} {mg : Str → Option Value} {base : Heap} {f : Addr} {fd : FuncData} {C_Ring C_Fractions C_Rests C_Order C_Degrees C_Tails : Addr} {E_NoPrime E_NoRing : Addr}
local macro_rules | `(tactic| walk_at "sd") => `(tactic| first
  | assumption | (dsimp only; omega) | (dsimp only; decide) | exact ⟨by decide, by decide⟩ | exact ⟨by decide, by decide, by decide⟩ | exact Or.inl ⟨by decide, by decide⟩ | exact ⟨by omega, by omega⟩ | exact Or.inl ⟨by omega, by omega⟩ | exact Or.inr ⟨by decide, by decide⟩ | exact Or.inr ⟨by omega, by omega⟩)
local macro_rules | `(tactic| walk_at "rd") => `(tactic| repeat first
  | refine ⟨_, rfl, ?_⟩ | refine ⟨_, _, rfl, rfl, ?_⟩ | refine And.intro rfl ?_ | refine And.intro (by walk_at "sd") ?_ | with_reducible refine iteT ?_ | with_reducible refine iteF ?_ | (apply ixT_of; assumption; rfl))
local macro_rules | `(tactic| walk_at "clo") => `(tactic| exact h)

theorem scLAdd : FnScope ["_law_a", "_law_b", "_law_prime_here"] ["_law_a", "_law_b", "_law_prime_here"] (defScope s__law_add) := ⟨rfl, rfl, rfl, by decide +kernel, rfl, by decide +kernel, by decide +kernel⟩
set_option maxHeartbeats 4000000 in
theorem ok_LAdd  (F : FunD K "_law_add" "_law_add" s__law_add .none f fd) (T : Txt K mg C_Ring C_Fractions C_Rests C_Order C_Degrees C_Tails) (c_LMd : Cal P w K mg base CX0 2 "_law_made" ["_law_top", "_law_bottom", "_law_prime_here"] [] spMd)  : FnOk P w K mg base CX0 3 f fd ["_law_a", "_law_b", "_law_prime_here"] spLAdd := by
  refine F.okN (k := 2) scLAdd (fun vs H Q E h => ?_) (fun cdv A outer s H vs Q E hr h => ?_)
  · obtain ⟨v1, v2, n, T1, B1, T2, B2, rfl, _⟩ := h
    rfl
  obtain ⟨v1, v2, n, T1, B1, T2, B2, rfl, h⟩ := h
  refine ⟨_, (pss_cons (ps_if (pt_cmpR op_gt (pv 2) (pe_int) (nomark _)) (pss_one (ps_ret (pe_op op_mod (pe_op op_add (pv 0) (pv 1)) (pv 2)))) pss_nil)
    (pss_one (ps_ret (pe_c c_LMd hr pass00 .nil ((pa_cons (pe_op op_add (pe_op op_mulB (pe_ix (r := rIxT K) ix_tup (pv 0) (pe_int) (fun _ _ => rfl)) (pe_ix (r := rIxT K) ix_tup (pv 1) (pe_int) (fun _ _ => rfl))) (pe_op op_mulB (pe_ix (r := rIxT K) ix_tup (pv 1) (pe_int) (fun _ _ => rfl)) (pe_ix (r := rIxT K) ix_tup (pv 0) (pe_int) (fun _ _ => rfl)))) (pa_cons (pe_op op_mulB (pe_ix (r := rIxT K) ix_tup (pv 0) (pe_int) (fun _ _ => rfl)) (pe_ix (r := rIxT K) ix_tup (pv 1) (pe_int) (fun _ _ => rfl))) (pa_cons (pe_int) pa_nil)))))))), ?_⟩
  obtain ⟨n2, n1, i1, i2, z1, z2, s1, s2, k⟩ := h
  walk_at "rd"
  refine cD (fun c => ?_) (fun c => ?_)
  · have n0 : n ≠ 0 := by omega
    obtain ⟨a, rfl, a0, a1, e1⟩ := (is_n n0).mp i1
    obtain ⟨b, rfl, b0, b1, e2⟩ := (is_n n0).mp i2
    refine ⟨_, rfl, _, rfl, _, _, rfl, rfl, _, rfl, _, _, rfl, rfl, (by show 0 < n; omega), ?_⟩
    exact k _ H (Same.refl _) ((is_n n0).mpr ⟨_, rfl, Int.emod_nonneg _ n0, Int.emod_lt_of_pos _ (by omega), plus_R e1 e2⟩)
  · have n0 : n = 0 := by
      rcases n2 with z | z
      · exact z
      · have := z.1; omega
    subst n0
    obtain ⟨r1, x, y, rfl, hx, hy, c1, e1⟩ := is_0.mp i1
    obtain ⟨r2, z, w, rfl, hz, hw, c2, e2⟩ := is_0.mp i2
    rw [zr_0] at z1 z2
    obtain ⟨lx, ly⟩ := cop_le hy c1 z1 e1
    obtain ⟨lz, lw⟩ := cop_le hw c2 z2 e2
    have bx := Nat.lt_of_le_of_lt lx (s1 rfl).1
    have by_ := Nat.lt_of_le_of_lt ly (s1 rfl).2
    have bz := Nat.lt_of_le_of_lt lz (s2 rfl).1
    have bw := Nat.lt_of_le_of_lt lw (s2 rfl).2
    have h1 : SqT K H r1 [.int x, .int y] := SqT.of hx
    have h2 : SqT K H r2 [.int z, .int w] := SqT.of hz
    have q1 : x.natAbs < 2 ^ 4000 ∧ w.natAbs < 2 ^ 4000 := ⟨up bx (by decide), up bw (by decide)⟩
    have q3 : y.natAbs < 2 ^ 4000 ∧ w.natAbs < 2 ^ 4000 := ⟨up by_ (by decide), up bw (by decide)⟩
    have yw : y * w ≠ 0 := by intro q; rcases Int.mul_eq_zero.mp q with q | q <;> omega
    have yw1 : 1 ≤ y * w := by have := Int.mul_nonneg (show 0 ≤ y by omega) (show 0 ≤ w by omega); omega
    have q2 : z.natAbs < 2 ^ 4000 ∧ y.natAbs < 2 ^ 4000 := ⟨up bz (by decide), up by_ (by decide)⟩
    walk_at "rd"
    have bt := add_up (up (mul_up bx bw) (show 150 + 150 ≤ 300 by decide)) (up (mul_up bz by_) (show 150 + 150 ≤ 300 by decide))
    refine ⟨x * w + z * y, y * w, 0, rfl, .inl rfl, yw1, up bt (by decide), up (mul_up by_ bw) (by decide), fun v H1 g iv => ?_⟩
    rw [dB_0] at iv
    refine k v H1 g (Is.cross (.inl rfl) (by rw [zr_0]; exact yw) iv (eqn.of_eq ?_))
    have a1 : (x * w + z * y) * (B1 * B2) = (x * B1) * (w * B2) + (z * B2) * (y * B1) := by grind
    rw [a1, e1, e2]; grind
end
end K10
namespace K10
open PySem L2
open K1 K2 K3 K6 K8
section
variable {P : Program} {w : World} {K : PySem.W.Frag} {mg : Str → Option Value} {base : Heap} {f : Addr} {fd : FuncData} {C_Ring C_Fractions C_Rests C_Order C_Degrees C_Tails : Addr} {E_NoPrime E_NoRing : Addr}
local macro_rules | `(tactic| walk_at "sd") => `(tactic| first
  | assumption | (dsimp only; omega) | (dsimp only; decide) | exact ⟨by decide, by decide⟩ | exact ⟨by decide, by decide, by decide⟩ | exact Or.inl ⟨by decide, by decide⟩ | exact ⟨by omega, by omega⟩ | exact Or.inl ⟨by omega, by omega⟩ | exact Or.inr ⟨by decide, by decide⟩ | exact Or.inr ⟨by omega, by omega⟩)
local macro_rules | `(tactic| walk_at "rd") => `(tactic| repeat first
  | refine ⟨_, rfl, ?_⟩ | refine ⟨_, _, rfl, rfl, ?_⟩ | refine And.intro rfl ?_ | refine And.intro (by walk_at "sd") ?_ | with_reducible refine iteT ?_ | with_reducible refine iteF ?_ | (apply ixT_of; assumption; rfl))
local macro_rules | `(tactic| walk_at "clo") => `(tactic| exact h)

theorem scLMul : FnScope ["_law_a", "_law_b", "_law_prime_here"] ["_law_a", "_law_b", "_law_prime_here"] (defScope s__law_mul) := ⟨rfl, rfl, rfl, by decide +kernel, rfl, by decide +kernel, by decide +kernel⟩
set_option maxHeartbeats 4000000 in
theorem ok_LMul  (F : FunD K "_law_mul" "_law_mul" s__law_mul .none f fd) (T : Txt K mg C_Ring C_Fractions C_Rests C_Order C_Degrees C_Tails) (c_LMd : Cal P w K mg base CX0 2 "_law_made" ["_law_top", "_law_bottom", "_law_prime_here"] [] spMd)  : FnOk P w K mg base CX0 3 f fd ["_law_a", "_law_b", "_law_prime_here"] spLMul := by
  refine F.okN (k := 2) scLMul (fun vs H Q E h => ?_) (fun cdv A outer s H vs Q E hr h => ?_)
  · obtain ⟨v1, v2, n, T1, B1, T2, B2, rfl, _⟩ := h
    rfl
  obtain ⟨v1, v2, n, T1, B1, T2, B2, rfl, h⟩ := h
  refine ⟨_, (pss_cons (ps_if (pt_cmpR op_gt (pv 2) (pe_int) (nomark _)) (pss_one (ps_ret (pe_op op_mod (pe_op op_mulB (pv 0) (pv 1)) (pv 2)))) pss_nil)
    (pss_one (ps_ret (pe_c c_LMd hr pass00 .nil ((pa_cons (pe_op op_mulB (pe_ix (r := rIxT K) ix_tup (pv 0) (pe_int) (fun _ _ => rfl)) (pe_ix (r := rIxT K) ix_tup (pv 1) (pe_int) (fun _ _ => rfl))) (pa_cons (pe_op op_mulB (pe_ix (r := rIxT K) ix_tup (pv 0) (pe_int) (fun _ _ => rfl)) (pe_ix (r := rIxT K) ix_tup (pv 1) (pe_int) (fun _ _ => rfl))) (pa_cons (pe_int) pa_nil)))))))), ?_⟩
  obtain ⟨n2, n1, i1, i2, z1, z2, s1, s2, k⟩ := h
  walk_at "rd"
  refine cD (fun c => ?_) (fun c => ?_)
  · have n0 : n ≠ 0 := by omega
    obtain ⟨a, rfl, a0, a1, e1⟩ := (is_n n0).mp i1
    obtain ⟨b, rfl, b0, b1, e2⟩ := (is_n n0).mp i2
    refine ⟨_, rfl, _, rfl, _, _, rfl, rfl, ⟨Nat.lt_of_le_of_lt (show a.natAbs ≤ 9973 by omega) (by decide), Nat.lt_of_le_of_lt (show b.natAbs ≤ 9973 by omega) (by decide)⟩, _, rfl, _, _, rfl, rfl, (by show 0 < n; omega), ?_⟩
    exact k _ H (Same.refl _) ((is_n n0).mpr ⟨_, rfl, Int.emod_nonneg _ n0, Int.emod_lt_of_pos _ (by omega), times_R e1 e2⟩)
  · have n0 : n = 0 := by
      rcases n2 with z | z
      · exact z
      · have := z.1; omega
    subst n0
    obtain ⟨r1, x, y, rfl, hx, hy, c1, e1⟩ := is_0.mp i1
    obtain ⟨r2, z, w, rfl, hz, hw, c2, e2⟩ := is_0.mp i2
    rw [zr_0] at z1 z2
    obtain ⟨lx, ly⟩ := cop_le hy c1 z1 e1
    obtain ⟨lz, lw⟩ := cop_le hw c2 z2 e2
    have bx := Nat.lt_of_le_of_lt lx (s1 rfl).1
    have by_ := Nat.lt_of_le_of_lt ly (s1 rfl).2
    have bz := Nat.lt_of_le_of_lt lz (s2 rfl).1
    have bw := Nat.lt_of_le_of_lt lw (s2 rfl).2
    have h1 : SqT K H r1 [.int x, .int y] := SqT.of hx
    have h2 : SqT K H r2 [.int z, .int w] := SqT.of hz
    have q1 : x.natAbs < 2 ^ 4000 ∧ z.natAbs < 2 ^ 4000 := ⟨up bx (by decide), up bz (by decide)⟩
    have q3 : y.natAbs < 2 ^ 4000 ∧ w.natAbs < 2 ^ 4000 := ⟨up by_ (by decide), up bw (by decide)⟩
    have yw : y * w ≠ 0 := by intro q; rcases Int.mul_eq_zero.mp q with q | q <;> omega
    have yw1 : 1 ≤ y * w := by have := Int.mul_nonneg (show 0 ≤ y by omega) (show 0 ≤ w by omega); omega
    walk_at "rd"
    refine ⟨x * z, y * w, 0, rfl, .inl rfl, yw1, up (mul_up bx bz) (by decide), up (mul_up by_ bw) (by decide), fun v H1 g iv => ?_⟩
    rw [dB_0] at iv
    refine k v H1 g (Is.cross (.inl rfl) (by rw [zr_0]; exact yw) iv (eqn.of_eq ?_))
    have a1 : (x * z) * (B1 * B2) = (x * B1) * (z * B2) := by grind
    rw [a1, e1, e2]; grind
end
end K10
namespace K10
open PySem L2
open K1 K2 K3 K6 K8
section
variable {P : Program} {w : World} {K : PySem.W.Frag} {mg : Str → Option Value} {base : Heap} {f : Addr} {fd : FuncData} {C_Ring C_Fractions C_Rests C_Order C_Degrees C_Tails : Addr} {E_NoPrime E_NoRing : Addr}
local macro_rules | `(tactic| walk_at "sd") => `(tactic| first
  | assumption | (dsimp only; omega) | (dsimp only; decide) | exact ⟨by decide, by decide⟩ | exact ⟨by decide, by decide, by decide⟩ | exact Or.inl ⟨by decide, by decide⟩ | exact ⟨by omega, by omega⟩ | exact Or.inl ⟨by omega, by omega⟩ | exact Or.inr ⟨by decide, by decide⟩ | exact Or.inr ⟨by omega, by omega⟩)
local macro_rules | `(tactic| walk_at "rd") => `(tactic| repeat first
  | refine ⟨_, rfl, ?_⟩ | refine ⟨_, _, rfl, rfl, ?_⟩ | refine And.intro rfl ?_ | refine And.intro (by walk_at "sd") ?_ | with_reducible refine iteT ?_ | with_reducible refine iteF ?_ | (apply ixT_of; assumption; rfl))
local macro_rules | `(tactic| walk_at "clo") => `(tactic| exact h)

theorem scPwr : FnScope ["_law_cell_here", "_law_at"] ["_law_cell_here", "_law_at"] (defScope s__law_power) := ⟨rfl, rfl, rfl, by decide +kernel, rfl, by decide +kernel, by decide +kernel⟩
set_option maxHeartbeats 4000000 in
theorem ok_Pwr  (F : FunD K "_law_power" "_law_power" s__law_power .none f fd) (T : Txt K mg C_Ring C_Fractions C_Rests C_Order C_Degrees C_Tails)   : FnOk P w K mg base CX0 1 f fd ["_law_cell_here", "_law_at"] spPwr := by
  refine F.okN (k := 0) scPwr (fun vs H Q E h => ?_) (fun cdv A outer s H vs Q E hr h => ?_)
  · obtain ⟨c, a, rfl, _⟩ := h
    rfl
  obtain ⟨c, a, rfl, h⟩ := h
  refine ⟨_, (pss_cons (ps_if (pt_cmpR op_eq (pe_op op_mod (pv 0) (pe_int)) (pe_int) (nomark _)) (pss_one (ps_ret (pe_op op_mod (pe_op op_mod (pe_op op_mul (pv 0) (pe_op op_add (pe_int) (pe_op op_mul (pe_int) (pv 1)))) (pe_int)) (pe_int)))) pss_nil)
    (pss_one (ps_ret (pe_op op_mod (pe_op op_fdiv (pe_op op_mod (pe_op op_mul (pv 0) (pe_op op_add (pe_int) (pe_op op_mul (pe_int) (pv 1)))) (pe_int)) (pe_int)) (pe_int))))), ?_⟩
  obtain ⟨a0, a4, h⟩ := h
  walk_at "rd"
  refine cEq (fun c1 => ?_) (fun c1 => ?_)
  · walk_at "rd"
    have e : pw c a = c * (48271 + 2 * a) % 10007 % 201 := if_pos c1
    rw [e] at h; exact h
  · walk_at "rd"
    have e : pw c a = c * (48271 + 2 * a) % 10007 / 7 % 3 := if_neg c1
    rw [e] at h; exact h
end
end K10
namespace K10
open PySem L2
open K1 K2 K3 K6 K8
section
variable {P : Program} {w : World} {K : PySem.W.Frag} {mg : Str → Option Value} {base : Heap} {f : Addr} {fd : FuncData} {C_Ring C_Fractions C_Rests C_Order C_Degrees C_Tails : Addr} {E_NoPrime E_NoRing : Addr}
local macro_rules | `(tactic| walk_at "sd") => `(tactic| first
  | assumption | (dsimp only; omega) | (dsimp only; decide) | exact ⟨by decide, by decide⟩ | exact ⟨by decide, by decide, by decide⟩ | exact Or.inl ⟨by decide, by decide⟩ | exact ⟨by omega, by omega⟩ | exact Or.inl ⟨by omega, by omega⟩ | exact Or.inr ⟨by decide, by decide⟩ | exact Or.inr ⟨by omega, by omega⟩)
local macro_rules | `(tactic| walk_at "rd") => `(tactic| repeat first
  | refine ⟨_, rfl, ?_⟩ | refine ⟨_, _, rfl, rfl, ?_⟩ | refine And.intro rfl ?_ | refine And.intro (by walk_at "sd") ?_ | with_reducible refine iteT ?_ | with_reducible refine iteF ?_ | (apply ixT_of; assumption; rfl))
local macro_rules | `(tactic| walk_at "clo") => `(tactic| exact h)

theorem scTrm : FnScope ["_law_cell_here", "_law_many"] ["_law_cell_here", "_law_many"] (defScope s__law_term) := ⟨rfl, rfl, rfl, by decide +kernel, rfl, by decide +kernel, by decide +kernel⟩
set_option maxHeartbeats 4000000 in
theorem ok_Trm  (F : FunD K "_law_term" "_law_term" s__law_term .none f fd) (T : Txt K mg C_Ring C_Fractions C_Rests C_Order C_Degrees C_Tails) (c_Pwr : Cal P w K mg base CX0 1 "_law_power" ["_law_cell_here", "_law_at"] [] spPwr)  : FnOk P w K mg base CX0 2 f fd ["_law_cell_here", "_law_many"] spTerm := by
  refine F.okN (k := 1) scTrm (fun vs H Q E h => ?_) (fun cdv A outer s H vs Q E hr h => ?_)
  · obtain ⟨c, m, rfl, _⟩ := h
    rfl
  obtain ⟨c, m, rfl, h⟩ := h
  refine ⟨_, (pss_one (ps_ret (pe_callTy (call_tupleK (K := K) rfl) rfl T.b_tuple (by kernel_rfl) ((pa_cons (pe_comp (N := ["_law_at", "_law_cell_here"]) (cl := [("_law_cell_here", s.heap.objs.size + 1)]) (mp := [none, some 0]) (Blk.of rfl (by decide +kernel) rfl (by decide +kernel) nd__law_at__law_cell_here (subc_cons rfl subc_nil) (fr_of (fs := ["_law_cell_here"]) rfl (by decide +kernel)) rfl (mapc_none (mapc_some rfl (.inl rfl) rfl mapc_nil))) rfl (pi_range1 rfl T.b_range ((pa_cons (pv 1) pa_nil))) (fun C0 s0 H0 fp0 => pg_one (i := 0) nd__law_at__law_cell_here rfl rfl) (fun C0 s0 H0 fp0 => pts_nil) (fun C0 s0 H0 fp0 => pe_c c_Pwr hr pass00 .nil ((pa_cons (pv 1) (pa_cons (pv 0) pa_nil))))) pa_nil))))), ?_⟩
  obtain ⟨m4, k⟩ := h
  show tComp _ _ _ _ _ _ _ _
  refine walk_comp (J := Itr 0 m) (H1 := H) (walk_range 0 m) (by omega) ?_ (fun σ => ∃ v, σ = [v, some (.int c)]) (fun _ => true) (fun i => .int (pw c i)) ⟨none, rfl⟩ ?_ fun D H1 e1 hL => ?_
  · exact fun R hR => ⟨_, rfl, (m : Int), rfl, by omega, by omega, hR⟩
  · rintro i x σ' H2 hi ⟨z, rfl⟩ e2 rfl Ny Nn hy hn
    unfold gName tYes
    dsimp only
    rw [if_pos rfl]
    refine ⟨_, rfl, _, rfl, c, _, rfl, by omega, by omega, ?_⟩
    rw [Int.zero_add]
    exact hy _ _ ⟨_, rfl⟩ (Same.refl _) rfl
  rw [List.filter_eq_self.mpr (fun _ _ => rfl)] at hL
  have eL : (List.range m).map (fun i : Nat => V.int (pw c i)) = (trm c m).map V.int := by unfold trm; rw [List.map_map]; rfl
  rw [eL] at hL
  refine ⟨D, _, rfl, .inl ⟨SqL.of hL, fun rr hr => ?_⟩⟩
  exact k rr _ (e1.free hr) (e1.trans (Same.upd hr)) upd_same
end
end K10
namespace K10
open PySem L2
open K1 K2 K3 K6 K8
section
variable {P : Program} {w : World} {K : PySem.W.Frag} {mg : Str → Option Value} {base : Heap} {f : Addr} {fd : FuncData} {C_Ring C_Fractions C_Rests C_Order C_Degrees C_Tails : Addr} {E_NoPrime E_NoRing : Addr}
local macro_rules | `(tactic| walk_at "sd") => `(tactic| first
  | assumption | (dsimp only; omega) | (dsimp only; decide) | exact ⟨by decide, by decide⟩ | exact ⟨by decide, by decide, by decide⟩ | exact Or.inl ⟨by decide, by decide⟩ | exact ⟨by omega, by omega⟩ | exact Or.inl ⟨by omega, by omega⟩ | exact Or.inr ⟨by decide, by decide⟩ | exact Or.inr ⟨by omega, by omega⟩)
local macro_rules | `(tactic| walk_at "rd") => `(tactic| repeat first
  | refine ⟨_, rfl, ?_⟩ | refine ⟨_, _, rfl, rfl, ?_⟩ | refine And.intro rfl ?_ | refine And.intro (by walk_at "sd") ?_ | with_reducible refine iteT ?_ | with_reducible refine iteF ?_ | (apply ixT_of; assumption; rfl))
local macro_rules | `(tactic| walk_at "clo") => `(tactic| exact h)

theorem scLPoly : FnScope ["_law_cells", "_law_many", "_law_prime_here", "_law_f", "_law_cell_here", "_law_number"] ["_law_cells", "_law_many", "_law_prime_here"] (defScope s__law_poly) := ⟨rfl, rfl, rfl, by decide +kernel, rfl, by decide +kernel, by decide +kernel⟩
set_option maxHeartbeats 4000000 in
theorem ok_LPoly  (F : FunD K "_law_poly" "_law_poly" s__law_poly .none f fd) (T : Txt K mg C_Ring C_Fractions C_Rests C_Order C_Degrees C_Tails) (c_LMd : Cal P w K mg base CX0 2 "_law_made" ["_law_top", "_law_bottom", "_law_prime_here"] [] spMd) (c_Trm : Cal P w K mg base CX0 2 "_law_term" ["_law_cell_here", "_law_many"] [] spTerm)  : FnOk P w K mg base CX0 3 f fd ["_law_cells", "_law_many", "_law_prime_here"] (spPoly K) := by
  refine F.okN (k := 2) scLPoly (fun vs H Q E h => ?_) (fun cdv A outer s H vs Q E hr h => ?_)
  · obtain ⟨l, m, n, cs, rfl, _⟩ := h
    rfl
  obtain ⟨l, m, n, cs, rfl, h⟩ := h
  refine ⟨_, (pss_cons (ps_set (i := 3) scLPoly.nd rfl (Or.inl rfl) (pe_dnewT))
    (pss_cons (ps_for PassesOwn.never rfl (pi_listK (K := K) rfl (pv 0)) (pg_name (i := 4) scLPoly.nd rfl (Or.inl rfl)) (pss_cons (ps_set (i := 5) scLPoly.nd rfl (Or.inl rfl) (pe_c c_LMd hr pass00 .nil ((pa_cons (pe_op op_sub (pe_op op_mod (pv 4) (pe_op op_add (pe_op op_mul (pe_int) (pe_op op_pow (pe_int) (pe_int))) (pe_int))) (pe_op op_pow (pe_int) (pe_int))) (pa_cons (pe_op op_add (pe_int) (pe_op op_mod (pe_op op_fdiv (pv 4) (pe_int)) (pe_int))) (pa_cons (pv 2) pa_nil))))))
    (pss_one (ps_if (PW.pt (pw_and (pt_cmpR op_ne (pe_op op_mod (pv 4) (pe_int)) (pe_int) (nomark _)) (pw_and1 (pt_cmpR (op_neD hr.units) (pv 5) (pe_c c_LMd hr pass00 .nil ((pa_cons (pe_int) (pa_cons (pe_int) (pa_cons (pv 2) pa_nil))))) (nomark _))))) (pss_one (ps_dput (uOne hr) (pv 3) (pe_c c_Trm hr pass00 .nil ((pa_cons (pv 4) (pa_cons (pv 1) pa_nil)))) (pv 5) rfl)) pss_nil))))
    (pss_one (ps_ret (pv 3))))), ?_⟩
  obtain ⟨n2, n1, m4, hS, hl, k⟩ := h
  intro d0 nd0
  have e0 : Same H (upd H d0 (.dT [])) := Same.upd nd0
  have hd1 : (upd H d0 (HO.dT [])) d0 = some (.dT []) := upd_same
  generalize upd H d0 (HO.dT []) = H1 at e0 hd1
  have lc : (cs.map V.int).length = cs.length := List.length_map _
  refine ⟨_, rfl, l, rfl, ⟨_, e0.seq hS⟩, ?_⟩
  refine for_list (xs := cs.map V.int) (fun i σ H' => i ≤ cs.length ∧ Same H H' ∧ (∃ v5 v6, σ = [some (.ref l), some (.int m), some (.int n), some (.ref d0), v5, v6]) ∧ ∃ kv T, H' d0 = some (.dT kv) ∧ PD n m H' kv T (dM n) ∧ Bdd n T 46 ∧ DrA m kv ∧ kv.length ≤ i) ?_ (fun i σ H' _ h => h.2.1.seq hS) ?_ ?_
  · exact ⟨Nat.zero_le _, e0, ⟨_, _, rfl⟩, [], fun _ => 0, hd1, PD.nil n2 (dM_nz n2) fun _ => zr_zero n, (fun _ _ => by show (0 : Int).natAbs < 2 ^ 46; decide), (fun t ht => by cases ht), Nat.le_refl _⟩
  · rintro i x σ H2 hx ⟨hi, e2, ⟨v5, v6, rfl⟩, kv, T0, hd2, pk, bT, pl, lk⟩
    have hi' : i < cs.length := by have := lt_of_get hx; rw [lc] at this; exact this
    rw [getD_of_map hx]
    generalize cs.getD i 0 = c
    walk_at "rd"
    have e6 : (10 : Int) ^ (Int.toNat 10) = 10000000000 := by decide
    have tb : (c % (2 * 10 ^ (Int.toNat 10) + 1) - 10 ^ (Int.toNat 10)).natAbs ≤ 10000000000 := by rw [e6]; omega
    refine ⟨_, _, n, rfl, n2, ?_, ?_, ?_, fun v H3 e3 iv => ?_⟩
    · show 1 ≤ 1 + c / 7 % 9; omega
    · exact Nat.lt_of_le_of_lt tb (by decide)
    · show (1 + c / 7 % 9).natAbs < 2 ^ 400
      exact Nat.lt_of_le_of_lt (show _ ≤ 9 by omega) (by decide)
    obtain ⟨a, ia, za, ba⟩ := madeM n2 (by show 1 ≤ 1 + c / 7 % 9; omega) (by show 1 + c / 7 % 9 ≤ 9; omega) tb iv
    have g3 := e2.trans e3
    walk_at "rd"
    refine cNe (fun c5 => ?_) (fun c5 => ?_)
    rotate_left
    · exact ⟨hi', g3, ⟨_, _, rfl⟩, kv, T0, e3 _ _ hd2, pk.same e3, bT, pl, by omega⟩
    refine ⟨_, rfl, _, rfl, 0, 1, n, rfl, n2, by decide, by decide, by decide, fun u H4 e4 iu => ?_⟩
    rw [dB_one] at iu
    have g4 := g3.trans e4
    obtain ⟨dn, rd, nd, eq⟩ := (ia.same e4).rds (K := K) n2 (dM_nz n2)
    refine ⟨dn, z0N n, rd, iu.zero, nd.shaped, (nm_z0 n).shaped, _, rfl, ?_⟩
    rw [eq]
    have hd4 := e4 _ _ (e3 _ _ hd2)
    have pk4 := (pk.same e3).same e4
    refine cN (fun z => ?_) (fun z => ?_)
    · refine ⟨_, rfl, _, rfl, _, rfl, _, rfl, c, m, rfl, m4, fun tt H6 ntt e6 ht6 => ?_⟩
      have hd6 := e6 _ _ hd4
      have okx := trm_ok c m
      have zl : kv.length < sizeLine := Nat.lt_of_le_of_lt (show kv.length ≤ 100 by omega) (by decide)
      refine ⟨d0, _, rfl, DPut.t (k := ky (trm c m)) hd6 (by rw [ky_kV]; exact ht6) zl, ?_⟩
      have kp : ∀ b ys, H6 b = some (.tup ys) → (upd H6 d0 (.dT (putK kv (ky (trm c m)) v))) b = some (.tup ys) := fun b ys hb => (upd_ne (ne_of hb hd6 (by intro q; cases q))).trans hb
      refine ⟨hi', (g4.trans e6).updR nd0, ⟨_, _, rfl⟩, putK kv (ky (trm c m)) v, (fun t => if t = trm c m then a else T0 t), upd_same, ?_, ?_, ?_, ?_⟩
      · exact ((pk4.same e6).set okx ((ia.same e4).same e6) z).keep kp
      · intro q t
        show (if t = trm c m then a else T0 t).natAbs < 2 ^ 46
        split
        · exact ba q
        · exact bT q t
      · exact pl.put pk.ko okx ⟨c, rfl⟩
      · have := length_putK kv (ky (trm c m)) v; omega
    · exact ⟨hi', g4, ⟨_, _, rfl⟩, kv, T0, hd4, pk4, bT, pl, by omega⟩
  · rintro σ H2 ⟨_, e2, ⟨v5, v6, rfl⟩, kv, T0, hd2, pk, bT, pl, lk⟩
    rw [lc] at lk
    exact ⟨_, rfl, k d0 H2 kv T0 nd0 e2 hd2 pk bT pl lk⟩
end
end K10
namespace K10
open PySem L2
open K1 K2 K3 K6 K8
section
variable {P : Program} {w : World} {K : PySem.W.Frag} {mg : Str → Option Value} {base : Heap} {f : Addr} {fd : FuncData} {C_Ring C_Fractions C_Rests C_Order C_Degrees C_Tails : Addr} {E_NoPrime E_NoRing : Addr}
local macro_rules | `(tactic| walk_at "sd") => `(tactic| first
  | assumption | (dsimp only; omega) | (dsimp only; decide) | exact ⟨by decide, by decide⟩ | exact ⟨by decide, by decide, by decide⟩ | exact Or.inl ⟨by decide, by decide⟩ | exact ⟨by omega, by omega⟩ | exact Or.inl ⟨by omega, by omega⟩ | exact Or.inr ⟨by decide, by decide⟩ | exact Or.inr ⟨by omega, by omega⟩)
local macro_rules | `(tactic| walk_at "rd") => `(tactic| repeat first
  | refine ⟨_, rfl, ?_⟩ | refine ⟨_, _, rfl, rfl, ?_⟩ | refine And.intro rfl ?_ | refine And.intro (by walk_at "sd") ?_ | with_reducible refine iteT ?_ | with_reducible refine iteF ?_ | (apply ixT_of; assumption; rfl))
local macro_rules | `(tactic| walk_at "clo") => `(tactic| exact h)

theorem scKinds : FnScope ["_law_found", "_law_many", "_law_prime_here", "_law_term_here", "_law_number"] ["_law_found", "_law_many", "_law_prime_here"] (defScope s__law_kinds) := ⟨rfl, rfl, rfl, by decide +kernel, rfl, by decide +kernel, by decide +kernel⟩
set_option maxHeartbeats 4000000 in
theorem ok_Kinds  (F : FunD K "_law_kinds" "_law_kinds" s__law_kinds .none f fd) (T : Txt K mg C_Ring C_Fractions C_Rests C_Order C_Degrees C_Tails) (c_LMd : Cal P w K mg base CX0 2 "_law_made" ["_law_top", "_law_bottom", "_law_prime_here"] [] spMd)  : FnOk P w K mg base CX0 3 f fd ["_law_found", "_law_many", "_law_prime_here"] spKinds := by
  refine F.okN (k := 2) scKinds (fun vs H Q E h => ?_) (fun cdv A outer s H vs Q E hr h => ?_)
  · obtain ⟨e, m, n, fvs, T0, D0, rfl, _⟩ := h
    rfl
  obtain ⟨e, m, n, fvs, T0, D0, rfl, h⟩ := h
  refine ⟨_, (pss_cons (ps_if (pt_not (pt_val (pe_callB (call_isinstK (K := K) rfl) rfl T.b_isinstance (by kernel_rfl) ((pa_cons (pv 0) (pa_cons (pe_bltn (v := .ty "dict") rfl T.b_dict (by kernel_rfl) rfl) pa_nil)))))) (pss_one (ps_ret (pe_bl))) pss_nil)
    (pss_cons (ps_thw (ps_for PassesOwn.never rfl (pi_items (pv 0)) (pg_tup rfl (pgs_cons (pg_name (i := 3) scKinds.nd rfl (Or.inl rfl)) (pgs_cons (pg_name (i := 4) scKinds.nd rfl (Or.inl rfl)) pgs_nil))) (pss_cons (ps_if (PW.pt (pw_or (pt_not (pt_val (pe_callB (call_isinstK (K := K) rfl) rfl T.b_isinstance (by kernel_rfl) ((pa_cons (pv 3) (pa_cons (pe_bltn (v := .ty "tuple") rfl T.b_tuple (by kernel_rfl) rfl) pa_nil)))))) (pw_or (pt_cmpR op_ne (pe_callB (call_lenK (K := K) rfl) rfl T.b_len PySem.boot_len ((pa_cons (pv 3) pa_nil))) (pv 1) (nomark _)) (pw_or1 (pt_cmpR (op_eqD hr.units) (pv 4) (pe_c c_LMd hr pass00 .nil ((pa_cons (pe_int) (pa_cons (pe_int) (pa_cons (pv 2) pa_nil))))) (nomark _)))))) (pss_one (ps_ret (pe_bl))) pss_nil)
    (pss_cons (ps_if (PW.pt (pw_and (pt_cmpR op_eq (pv 2) (pe_int) (nomark _)) (pw_and1 (PW.pt (pw_or (pt_not (pt_val (pe_callB (call_isinstK (K := K) rfl) rfl T.b_isinstance (by kernel_rfl) ((pa_cons (pv 4) (pa_cons (pe_bltn (v := .ty "tuple") rfl T.b_tuple (by kernel_rfl) rfl) pa_nil)))))) (pw_or1 (pt_cmpR op_ne (pe_callB (call_lenK (K := K) rfl) rfl T.b_len PySem.boot_len ((pa_cons (pv 4) pa_nil))) (pe_int) (nomark _)))))))) (pss_one (ps_ret (pe_bl))) pss_nil)
    (pss_one (ps_if (PW.pt (pw_and (pt_cmpR op_gt (pv 2) (pe_int) (nomark _)) (pw_and1 (PW.pt (pw_or (pt_not (pt_val (pe_callB (call_isinstK (K := K) rfl) rfl T.b_isinstance (by kernel_rfl) ((pa_cons (pv 4) (pa_cons (pe_bltn (v := .ty "int") rfl T.b_int (by kernel_rfl) rfl) pa_nil)))))) (pw_or1 (pt_val (pe_callB (call_isinstK (K := K) rfl) rfl T.b_isinstance (by kernel_rfl) ((pa_cons (pv 4) (pa_cons (pe_bltn (v := .ty "bool") rfl T.b_bool (by kernel_rfl) rfl) pa_nil))))))))))) (pss_one (ps_ret (pe_bl))) pss_nil))))))
    (pss_one (ps_ret (pe_bl))))), ?_⟩
  obtain ⟨n2, he, pT, k⟩ := h
  refine ⟨_, rfl, _, _, _, _, _, rfl, rfl, .dT he, T.kdd, _, rfl, iteF ?_⟩
  refine ⟨_, rfl, e, fvs, rfl, .inl he, fun o => ?_⟩
  have hz3 : FzD (upd H e (.frz o (.dT fvs))) e o fvs := upd_same
  have th : ∀ H', Same (upd H e (.frz o (.dT fvs))) H' → Same H (upd H' e (.dT fvs)) := fun H' q => same_thaw he q
  have up3 : ∀ c xs, H c = some (.tup xs) → (upd H e (.frz o (.dT fvs))) c = some (.tup xs) := fun c xs hc => (upd_ne (ne_of hc he (by intro z; cases z))).trans hc
  generalize upd H e (HO.frz o (HO.dT fvs)) = H3 at hz3 th up3
  refine for_ditem (fun i σ H' => i ≤ fvs.length ∧ Same H3 H' ∧ ∃ v4 v5, σ = [some (.ref e), some (.int m), some (.int n), v4, v5]) ?_ (fun i σ H' h => h.2.1 _ _ hz3) ?_ ?_
  · exact ⟨Nat.zero_le _, Same.refl _, none, none, rfl⟩
  · rintro i kx vx σ H4 p b hk ⟨hi, e4, v4, v5, rfl⟩ hp hb
    obtain ⟨t, ht, rfl, okt, ix, nzx⟩ := pT.get hk
    have hi' := lt_of_get hk
    refine ⟨p, _, rfl, SqT.of upd_same, rfl, _, _, rfl, _, _, rfl, rfl, ?_⟩
    have e5 : Same H4 (upd H4 p (.tup [.ref b, vx])) := Same.upd hp
    generalize upd H4 p (HO.tup [V.ref b, vx]) = H5 at e5
    have g5 := e4.trans e5
    have hb5 := e5 _ _ hb
    rw [ky_kV] at hb5
    have lt' : ((t.map V.int).length : Int) = m := by rw [List.length_map, okt.1]
    have ix5 : Is n H5 vx (T0 t) D0 := ix.keep fun c xs hc => g5 _ _ (up3 _ _ hc)
    refine ⟨_, rfl, _, _, _, _, _, rfl, rfl, .tup hb5, T.ktt, _, rfl, iteF ?_⟩
    refine ⟨_, rfl, b, _, rfl, .inr (SqT.of hb5), _, rfl, rfl, _, rfl, ?_⟩
    dsimp only
    rw [lt']
    refine cNe (fun c1 => absurd rfl c1) (fun _ => ?_)
    refine ⟨_, rfl, _, rfl, 0, 1, n, rfl, n2, by decide, by decide, by decide, fun u H6 e6 iu => ?_⟩
    rw [dB_one] at iu
    have ix6 := ix5.same e6
    have g6 := g5.trans e6
    obtain ⟨dn, rd, nd, eq⟩ := ix6.rds (K := K) n2 pT.nz
    refine ⟨dn, z0N n, rd, iu.zero, nd.shaped, (nm_z0 n).shaped, _, rfl, ?_⟩
    rw [eq]
    refine cD (fun z => absurd z nzx) (fun _ => ?_)
    unfold tNext
    dsimp only
    by_cases n0 : n = 0
    · subst n0
      obtain ⟨r, x, y, rfl, hx, hy, cp, ee⟩ := is_0.mp ix6
      refine ⟨_, rfl, rfl, _, rfl, cEq (fun _ => ?_) (fun c1 => absurd rfl c1)⟩
      refine ⟨_, rfl, _, _, _, _, _, rfl, rfl, .tup hx, T.ktt, _, rfl, iteF ?_⟩
      refine ⟨_, rfl, r, _, rfl, .inr (SqT.of hx), rfl, _, rfl, ?_⟩
      refine cNe (fun c1 => absurd rfl c1) (fun _ => ?_)
      refine ⟨_, rfl, _, _, rfl, rfl, _, rfl, cD (fun c1 => absurd c1 (by decide)) (fun _ => ?_)⟩
      exact ⟨hi', g6, _, _, rfl⟩
    · obtain ⟨a, rfl, a0, a1, ee⟩ := (is_n n0).mp ix6
      have np : 0 < n := by omega
      refine ⟨_, rfl, rfl, _, rfl, cEq (fun c1 => absurd c1 n0) (fun _ => ?_)⟩
      refine ⟨_, rfl, _, _, rfl, rfl, _, rfl, cD (fun _ => ?_) (fun c1 => absurd np c1)⟩
      refine ⟨_, rfl, _, _, _, _, _, rfl, rfl, .int a, T.kii, _, rfl, iteF ?_⟩
      refine ⟨_, rfl, _, _, _, _, _, rfl, rfl, .int a, T.kib, _, rfl, iteF ?_⟩
      exact ⟨hi', g6, _, _, rfl⟩
  · rintro σ H4 ⟨_, e4, v4, v5, rfl⟩
    refine .inr ⟨e, o, _, e4 _ _ hz3, fun o' w' z => ?_, ?_⟩
    · have z' : H e = some (.frz o' w') := z
      rw [he] at z'; cases z'
    exact k _ (th _ e4)
end
end K10
namespace K10
open PySem L2
open K1 K2 K3 K6 K8
section
variable {P : Program} {w : World} {K : PySem.W.Frag} {mg : Str → Option Value} {base : Heap} {f : Addr} {fd : FuncData} {C_Ring C_Fractions C_Rests C_Order C_Degrees C_Tails : Addr} {E_NoPrime E_NoRing : Addr}
local macro_rules | `(tactic| walk_at "sd") => `(tactic| first
  | assumption | (dsimp only; omega) | (dsimp only; decide) | exact ⟨by decide, by decide⟩ | exact ⟨by decide, by decide, by decide⟩ | exact Or.inl ⟨by decide, by decide⟩ | exact ⟨by omega, by omega⟩ | exact Or.inl ⟨by omega, by omega⟩ | exact Or.inr ⟨by decide, by decide⟩ | exact Or.inr ⟨by omega, by omega⟩)
local macro_rules | `(tactic| walk_at "rd") => `(tactic| repeat first
  | refine ⟨_, rfl, ?_⟩ | refine ⟨_, _, rfl, rfl, ?_⟩ | refine And.intro rfl ?_ | refine And.intro (by walk_at "sd") ?_ | with_reducible refine iteT ?_ | with_reducible refine iteF ?_ | (apply ixT_of; assumption; rfl))
local macro_rules | `(tactic| walk_at "clo") => `(tactic| exact h)

theorem scISum : FnScope ["_law_found", "_law_f", "_law_g", "_law_sign", "_law_prime_here", "_law_nought", "_law_count", "_law_term_here", "_law_due"] ["_law_found", "_law_f", "_law_g", "_law_sign", "_law_prime_here"] (defScope s__law_is_sum) := ⟨rfl, rfl, rfl, by decide +kernel, rfl, by decide +kernel, by decide +kernel⟩
set_option maxHeartbeats 4000000 in
theorem ok_ISum  (F : FunD K "_law_is_sum" "_law_is_sum" s__law_is_sum .none f fd) (T : Txt K mg C_Ring C_Fractions C_Rests C_Order C_Degrees C_Tails) (c_LMd : Cal P w K mg base CX0 2 "_law_made" ["_law_top", "_law_bottom", "_law_prime_here"] [] spMd) (c_LMul : Cal P w K mg base CX0 3 "_law_mul" ["_law_a", "_law_b", "_law_prime_here"] [] spLMul) (c_LAdd : Cal P w K mg base CX0 3 "_law_add" ["_law_a", "_law_b", "_law_prime_here"] [] spLAdd)  : FnOk P w K mg base CX0 4 f fd ["_law_found", "_law_f", "_law_g", "_law_sign", "_law_prime_here"] spSum := by
  refine F.okN (k := 3) scISum (fun vs H Q E h => ?_) (fun cdv A outer s H vs Q E hr h => ?_)
  · obtain ⟨a, e1, e2, s0, n, m, kvs, fvs, gvs, T1, T2, D0, rfl, _⟩ := h
    rfl
  obtain ⟨a, e1, e2, s0, n, m, kvs, fvs, gvs, T1, T2, D0, rfl, h⟩ := h
  refine ⟨_, (pss_cons (ps_set (i := 5) scISum.nd rfl (Or.inl rfl) (pe_c c_LMd hr pass00 .nil ((pa_cons (pe_int) (pa_cons (pe_int) (pa_cons (pv 4) pa_nil))))))
    (pss_cons (ps_set (i := 6) scISum.nd rfl (Or.inl rfl) (pe_int))
    (pss_cons (ps_thw (ps_for PassesOwn.never rfl (pi_dict (pe_callTy (call_dict_pairs rfl hr.units) rfl T.b_dict (by kernel_rfl) ((pa_cons (pe_op op_cat (pe_callTy (call_list_items rfl) rfl T.b_list (by kernel_rfl) (pa_cons (pe_items (pv 1)) pa_nil)) (pe_callTy (call_list_items rfl) rfl T.b_list (by kernel_rfl) (pa_cons (pe_items (pv 2)) pa_nil))) pa_nil)))) (pg_name (i := 7) scISum.nd rfl (Or.inl rfl)) (pss_cons (ps_set (i := 8) scISum.nd rfl (Or.inl rfl) (pe_c c_LAdd hr pass00 .nil ((pa_cons (pe_dget2 (uOne hr) (pv 1) (pv 7) (pv 5) ⟨rfl, rfl, rfl, rfl⟩) (pa_cons (pe_c c_LMul hr pass00 .nil ((pa_cons (pe_c c_LMd hr pass00 .nil ((pa_cons (pv 3) (pa_cons (pe_int) (pa_cons (pv 4) pa_nil))))) (pa_cons (pe_dget2 (uOne hr) (pv 2) (pv 7) (pv 5) ⟨rfl, rfl, rfl, rfl⟩) (pa_cons (pv 4) pa_nil))))) (pa_cons (pv 4) pa_nil))))))
    (pss_cons (ps_if (pt_cmpR (op_neD hr.units) (pe_dget2 (uOne hr) (pv 0) (pv 7) (pv 5) ⟨rfl, rfl, rfl, rfl⟩) (pv 8) (nomark _)) (pss_one (ps_ret (pe_bl))) pss_nil)
    (pss_one (ps_set (i := 6) scISum.nd rfl (Or.inl rfl) (pe_op op_add (pv 6) (pe_callTy call_int1 rfl T.b_int (by kernel_rfl) ((pa_cons (pe_cmpR (op_neD hr.units) (pv 8) (pv 5) (nomark _)) pa_nil))))))))))
    (pss_one (ps_ret (pe_cmpR op_eq (pe_callB call_lenD rfl T.b_len PySem.boot_len ((pa_cons (pv 0) pa_nil))) (pv 6) (nomark _))))))), ?_⟩
  obtain ⟨n2, n1, hs, ha, h1, h2, pk, p1, p2, b1, b2, bD, l1, l2, k⟩ := h
  refine ⟨_, rfl, 0, 1, n, rfl, n2, by decide, by decide, by decide, fun u H1 g1 iu => ?_⟩
  rw [dB_one] at iu
  walk_at "rd"
  have h11 := g1 _ _ h1
  refine ⟨.inr (.inr (.inl ⟨rfl, .inr ⟨_, h11⟩⟩)), e1, fvs, rfl, rfl, .inl h11, fun v1 nv1 => ?_⟩
  have g2 : Same H1 (upd H1 v1 (vwI v1 e1)) := Same.upd nv1
  refine ⟨v1, e1, fvs, rfl, upd_same, .inl (g2 _ _ h11), by omega, fun la as1 H3 g3 nla hla las1 rows1 => ?_⟩
  have g13 := g2.trans g3
  have h23 := g13 _ _ (g1 _ _ h2)
  refine ⟨_, rfl, .inr (.inr (.inl ⟨rfl, .inr ⟨_, h23⟩⟩)), e2, gvs, rfl, rfl, .inl h23, fun v2 nv2 => ?_⟩
  have g4 : Same H3 (upd H3 v2 (vwI v2 e2)) := Same.upd nv2
  refine ⟨v2, e2, gvs, rfl, upd_same, .inl (g4 _ _ h23), by omega, fun lb as2 H5 g5 nlb hlb las2 rows2 => ?_⟩
  have g35 := g4.trans g5
  have g15 := g13.trans g35
  have sl : 1000 ≤ sizeLine := by rw [sizeLine_eq]; decide
  refine ⟨la, lb, _, _, rfl, rfl, g35 _ _ hla, hlb, by rw [List.length_map, List.length_map]; omega, fun p np => ?_⟩
  have g6 : Same H5 (upd H5 p (.lst (as1.map V.ref ++ as2.map V.ref))) := Same.upd np
  have hp6 : (upd H5 p (HO.lst (as1.map V.ref ++ as2.map V.ref))) p = some (.lst ((as1 ++ as2).map V.ref)) := by rw [upd_same, List.map_append]
  generalize upd H5 p (HO.lst (as1.map V.ref ++ as2.map V.ref)) = H6 at g6 hp6
  have g16 := g15.trans g6
  refine ⟨p, as1 ++ as2, fvs ++ gvs, rfl, hp6, by rw [List.length_append, List.length_append]; omega, by rw [List.length_append]; omega, fun i kk x hx => ?_, fun d nd => ?_⟩
  · rcases Nat.lt_or_ge i fvs.length with q | q
    · rw [List.getElem?_append_left q] at hx
      obtain ⟨aa, bb, r1, r2, r3⟩ := rows1 i kk x hx
      exact ⟨aa, bb, by rw [List.getElem?_append_left (by omega)]; exact r1, g6 _ _ (g35 _ _ r2), g6 _ _ (g35 _ _ r3)⟩
    · rw [List.getElem?_append_right q] at hx
      obtain ⟨aa, bb, r1, r2, r3⟩ := rows2 _ kk x hx
      exact ⟨aa, bb, by rw [List.getElem?_append_right (by omega), las1]; exact r1, g6 _ _ r2, g6 _ _ r3⟩
  have koU : KO m (putsK [] (fvs ++ gvs)) := puts_ko KO.nil fun q hq => (List.mem_append.mp hq).elim (p1.ko q) (p2.ko q)
  have ndU : (tks (putsK [] (fvs ++ gvs))).Nodup := nd_keys koU (puts_nd List.nodup_nil)
  have meU : ∀ t, t ∈ tks fvs ∨ t ∈ tks gvs → t ∈ tks (putsK [] (fvs ++ gvs)) := fun t ht => (puts_mem KO.nil fun q hq => (List.mem_append.mp hq).elim (p1.ko q) (p2.ko q)).mpr (.inr (by unfold tks; rw [List.map_append, List.mem_append]; exact ht))
  generalize putsK [] (fvs ++ gvs) = U at koU ndU meU
  have g7 : Same H6 (upd H6 d (.dT U)) := Same.upd nd
  refine ⟨d, U, rfl, .inl upd_same, fun o => ?_⟩
  have ndH : H d = none := (g1.trans g16).free nd
  have g8 : Same H (upd (upd H6 d (.dT U)) d (.frz o (.dT U))) := ((g1.trans g16).updR ndH).updR ndH
  have hz8 : FzD (upd (upd H6 d (HO.dT U)) d (HO.frz o (HO.dT U))) d o U := upd_same
  have iu8 : Is n (upd (upd H6 d (HO.dT U)) d (HO.frz o (HO.dT U))) u 0 1 := ((iu.same g16).keep fun c xs hc => (upd_ne (fun z => by subst z; rw [hc] at nd; cases nd)).trans hc).keep fun c xs hc => (upd_ne (ne_of hc (show (upd H6 d (HO.dT U)) d = some (.dT U) from upd_same) (by intro z; cases z))).trans hc
  generalize upd (upd H6 d (HO.dT U)) d (HO.frz o (HO.dT U)) = H8 at g8 hz8 iu8
  refine for_same (walk_dkey hz8) (fun i σ => ∃ v8 v9, σ = [some (.ref a), some (.ref e1), some (.ref e2), some (.int s0), some (.int n), some u, some (.int (cn n (fun t => T1 t + s0 * T2 t) ((tks U).take i))), v8, v9]) ⟨none, none, rfl⟩ ?_ ?_
  · rintro i x σ H9 hi ⟨v8, v9, rfl⟩ g9 ⟨b, kk, v, hk, hb, rfl⟩
    obtain ⟨t, ht, rfl, okt⟩ := koU.get hk
    have gg := g8.trans g9
    have iu9 := iu8.same g9
    have nzD := p1.nz
    have sm1 : SmM n (T1 t) D0 := fun z => ⟨up (b1 z t) (by decide), up (bD z) (by decide)⟩
    have sm2 : SmM n (T2 t) D0 := fun z => ⟨up (b2 z t) (by decide), up (bD z) (by decide)⟩
    have i1 := is_get n2 (p1.same gg) iu9 t
    have i2 := is_get n2 (p2.same gg) iu9 t
    have sb : s0.natAbs ≤ 1 := by rcases hs with rfl | rfl <;> decide
    unfold gName
    dsimp only
    refine ⟨_, rfl, e1, rfl, .inr ⟨_, .inl (gg _ _ h1)⟩, _, rfl, _, rfl, _, DGet.t (gg _ _ h1) hb, ?_⟩
    refine ⟨_, rfl, _, rfl, s0, 1, n, rfl, n2, by decide, Nat.lt_of_le_of_lt sb (by decide), by decide, fun vs H10 g10 is => ?_⟩
    rw [dB_one] at is
    have gg10 := gg.trans g10
    refine ⟨_, rfl, e2, rfl, .inr ⟨_, .inl (gg10 _ _ h2)⟩, _, rfl, _, rfl, _, DGet.t (gg10 _ _ h2) (g10 _ _ hb), ?_⟩
    refine ⟨_, rfl, vs, _, n, s0, 1, T2 t, D0, rfl, n2, n1, is, i2.same g10, nz_one n2, nzD, fun _ => ⟨Nat.lt_of_le_of_lt sb (by decide), by decide⟩, sm2, fun v3 H11 g11 im => ?_⟩
    have gg11 := gg10.trans g11
    refine ⟨_, rfl, _, v3, n, T1 t, D0, s0 * T2 t, 1 * D0, rfl, n2, n1, (i1.same g10).same g11, im, nzD, nz_mul n2 (nz_one n2) nzD, sm1, fun z => ⟨up (mul_up (show s0.natAbs < 2 ^ 1 by omega) (b2 z t)) (by decide), by rw [Int.one_mul]; exact up (bD z) (by decide)⟩, fun du H12 g12 idu => ?_⟩
    have gg12 := gg11.trans g12
    have id2 : Is n H12 du (T1 t + s0 * T2 t) D0 := Is.cross n2 (nz_mul n2 nzD (nz_mul n2 (nz_one n2) nzD)) idu (eqn.of_eq (by grind))
    have g912 := (g10.trans g11).trans g12
    have iu12 := iu9.same g912
    have i3 := is_get n2 (pk.same gg12) iu12 t
    dsimp only
    refine ⟨_, rfl, a, rfl, .inr ⟨_, .inl (gg12 _ _ ha)⟩, _, rfl, _, rfl, _, DGet.t (gg12 _ _ ha) (g912 _ _ hb), ?_⟩
    obtain ⟨dn, rd1, rd2, nd', eq⟩ := Is.rds2 (K := K) n2 nzD i3 id2
    refine ⟨_, rfl, dn, dn, rd1, rd2, nd'.shaped, nd'.shaped, _, rfl, ?_⟩
    rw [nd'.refl]
    refine iteF ?_
    unfold tNext
    dsimp only
    refine ⟨_, rfl, _, rfl, _, rfl, dn, z0N n, rd2, iu12.zero, nd'.shaped, (nm_z0 n).shaped, .inr ⟨_, rfl, _, _, rfl, rfl, ?_⟩⟩
    rw [eq]
    have ec : ((cn n (fun t => T1 t + s0 * T2 t) ((tks U).take (i + 1)) : Nat) : Int) = (cn n (fun t => T1 t + s0 * T2 t) ((tks U).take i) : Nat) + (if (!decide (zr n (T1 t + s0 * T2 t))) = true then 1 else 0 : Int) := by
      rw [take_snoc ht, cn_snoc]
      split <;> simp
    refine ⟨⟨some (.ref b), some du, ?_⟩, g9.trans g912⟩
    rw [ec]
    rfl
  · rintro σ H9 ⟨v8, v9, rfl⟩ g9
    refine .inr ⟨d, o, _, g9 _ _ hz8, fun o' w' z => ?_, ?_⟩
    · have z' : H d = some (.frz o' w') := z
      rw [ndH] at z'; cases z'
    have ltU : (tks U).take U.length = tks U := by rw [← tks_len U, List.take_length]
    have cl := cn_len pk ndU fun t ht => ?_
    · rw [ltU, ← cl]
      have gf : Same H (upd H9 d (.dT U)) := (g8.trans g9).updR ndH
      refine ⟨_, rfl, a, kvs, rfl, .inl (gf _ _ ha), _, rfl, rfl, ?_⟩
      rw [decide_eq_true rfl]
      exact k _ gf
    · refine meU t (Classical.byContradiction fun c => ht ?_)
      rw [not_or] at c
      exact zr_add (p1.out c.1) (by rw [Int.mul_comm]; exact zr_mul (p2.out c.2))
end
end K10
namespace K10
open PySem L2
open K1 K2 K3 K6 K8
section
variable {P : Program} {w : World} {K : PySem.W.Frag} {mg : Str → Option Value} {base : Heap} {f : Addr} {fd : FuncData} {C_Ring C_Fractions C_Rests C_Order C_Degrees C_Tails : Addr} {E_NoPrime E_NoRing : Addr}
local macro_rules | `(tactic| walk_at "sd") => `(tactic| first
  | assumption | (dsimp only; omega) | (dsimp only; decide) | exact ⟨by decide, by decide⟩ | exact ⟨by decide, by decide, by decide⟩ | exact Or.inl ⟨by decide, by decide⟩ | exact ⟨by omega, by omega⟩ | exact Or.inl ⟨by omega, by omega⟩ | exact Or.inr ⟨by decide, by decide⟩ | exact Or.inr ⟨by omega, by omega⟩)
local macro_rules | `(tactic| walk_at "rd") => `(tactic| repeat first
  | refine ⟨_, rfl, ?_⟩ | refine ⟨_, _, rfl, rfl, ?_⟩ | refine And.intro rfl ?_ | refine And.intro (by walk_at "sd") ?_ | with_reducible refine iteT ?_ | with_reducible refine iteF ?_ | (apply ixT_of; assumption; rfl))
local macro_rules | `(tactic| walk_at "clo") => `(tactic| exact h)

theorem scIPr : FnScope ["_law_found", "_law_f", "_law_g", "_law_prime_here", "_law_nought", "_law_seen", "_law_one", "_law_other", "_law_term_here", "_law_due", "_law_left", "_law_number", "_law_right"] ["_law_found", "_law_f", "_law_g", "_law_prime_here"] (defScope s__law_is_product) := ⟨rfl, rfl, rfl, by decide +kernel, rfl, by decide +kernel, by decide +kernel⟩
set_option maxHeartbeats 4000000 in
theorem ok_IPr  (F : FunD K "_law_is_product" "_law_is_product" s__law_is_product .none f fd) (T : Txt K mg C_Ring C_Fractions C_Rests C_Order C_Degrees C_Tails) (c_LMd : Cal P w K mg base CX0 2 "_law_made" ["_law_top", "_law_bottom", "_law_prime_here"] [] spMd) (c_LMul : Cal P w K mg base CX0 3 "_law_mul" ["_law_a", "_law_b", "_law_prime_here"] [] spLMul) (c_LAdd : Cal P w K mg base CX0 3 "_law_add" ["_law_a", "_law_b", "_law_prime_here"] [] spLAdd)  : FnOk P w K mg base CX0 4 f fd ["_law_found", "_law_f", "_law_g", "_law_prime_here"] spIPr := by
  refine F.okN (k := 3) scIPr (fun vs H Q E h => ?_) (fun cdv A outer s H vs Q E hr h => ?_)
  · obtain ⟨a, e1, e2, n, m, kvs, fvs, gvs, T1, T2, D1, D2, rfl, _⟩ := h
    rfl
  obtain ⟨a, e1, e2, n, m, kvs, fvs, gvs, T1, T2, D1, D2, rfl, h⟩ := h
  refine ⟨_, (pss_cons (ps_set (i := 4) scIPr.nd rfl (Or.inr rfl) (pe_c c_LMd hr pass00 .nil ((pa_cons (pe_int) (pa_cons (pe_int) (pa_cons (pv 3) pa_nil))))))
    (pss_cons (ps_set (i := 5) scIPr.nd rfl (Or.inl rfl) (pe_dnewT))
    (pss_cons (ps_thw (ps_for PassesOwn.never rfl (pi_dictF (pv 1)) (pg_name (i := 6) scIPr.nd rfl (Or.inl rfl)) (pss_one (ps_thw (ps_for PassesOwn.never rfl (pi_dictF (pv 2)) (pg_name (i := 7) scIPr.nd rfl (Or.inl rfl)) (pss_cons (ps_set (i := 8) scIPr.nd rfl (Or.inl rfl) (pe_callTy (call_tupleK (K := K) rfl) rfl T.b_tuple (by kernel_rfl) ((pa_cons (pe_comp (N := ["_law_a", "_law_b"]) (Blk.plain (by decide +kernel) (by decide +kernel) rfl (by decide +kernel) nd__law_a__law_b) rfl (pi_zipK (K := K) rfl true true rfl T.b_zip ((pa_cons (pv 6) (pa_cons (pv 7) pa_nil)))) (fun C0 s0 H0 fp0 => pg_two (K := K) rfl rfl rfl nd__law_a__law_b rfl rfl) (fun C0 s0 H0 fp0 => pts_nil) (fun C0 s0 H0 fp0 => pe_op op_add (pv 0) (pv 1))) pa_nil))))
    (pss_cons (ps_set (i := 9) scIPr.nd rfl (Or.inl rfl) (pv 4))
    (pss_one (ps_if (pt_cmp (pc_dnotin (uOne hr) (pv 8) (pv 5))) (pss_cons (ps_thw (ps_for PassesOwn.never rfl (pi_itemsF (pv 1)) (pg_tup rfl (pgs_cons (pg_name (i := 10) scIPr.nd rfl (Or.inl rfl)) (pgs_cons (pg_name (i := 11) scIPr.nd rfl (Or.inl rfl)) pgs_nil))) (pss_cons (ps_set (i := 12) scIPr.nd rfl (Or.inl rfl) (pe_callTy (call_tupleK (K := K) rfl) rfl T.b_tuple (by kernel_rfl) ((pa_cons (pe_comp (N := ["_law_a", "_law_b"]) (Blk.plain (by decide +kernel) (by decide +kernel) rfl (by decide +kernel) nd__law_a__law_b) rfl (pi_zipK (K := K) rfl true true rfl T.b_zip ((pa_cons (pv 8) (pa_cons (pv 10) pa_nil)))) (fun C0 s0 H0 fp0 => pg_two (K := K) rfl rfl rfl nd__law_a__law_b rfl rfl) (fun C0 s0 H0 fp0 => pts_nil) (fun C0 s0 H0 fp0 => pe_op op_sub (pv 0) (pv 1))) pa_nil))))
    (pss_one (ps_set (i := 9) scIPr.nd rfl (Or.inl rfl) (pe_c c_LAdd hr pass00 .nil ((pa_cons (pv 9) (pa_cons (pe_c c_LMul hr pass00 .nil ((pa_cons (pv 11) (pa_cons (pe_dget2 (uOne hr) (pv 2) (pv 12) (pv 4) ⟨rfl, rfl, rfl, rfl⟩) (pa_cons (pv 3) pa_nil))))) (pa_cons (pv 3) pa_nil))))))))))
    (pss_cons (ps_dput (uOne hr) (pv 5) (pv 8) (pv 9) rfl)
    (pss_one (ps_if (pt_cmpR (op_neD hr.units) (pe_dget2 (uOne hr) (pv 0) (pv 8) (pv 4) ⟨rfl, rfl, rfl, rfl⟩) (pv 9) (nomark _)) (pss_one (ps_ret (pe_bl))) pss_nil)))) pss_nil)))))))))
    (pss_one (ps_ret (pe_cmpR op_eq (pe_callB call_lenD rfl T.b_len PySem.boot_len ((pa_cons (pv 0) pa_nil))) (pe_callB (call_lenK (K := K) rfl) rfl T.b_len PySem.boot_len ((pa_cons (pe_thw (pe_comp (N := ["_law_number", "_law_nought"]) (cl := [("_law_nought", s.heap.objs.size + 1)]) (mp := [none, some 4]) (Blk.of rfl (by decide +kernel) rfl (by decide +kernel) nd__law_number__law_nought (subc_cons rfl subc_nil) (fr_of (fs := ["_law_nought"]) rfl (by decide +kernel)) rfl (mapc_none (mapc_some rfl (.inl rfl) rfl mapc_nil))) rfl (pi_values (pv 5)) (fun C0 s0 H0 fp0 => pg_one (i := 0) nd__law_number__law_nought rfl rfl) (fun C0 s0 H0 fp0 => pts_one (pt_cmpR (op_neDK (K := K) rfl hr.units) (pv 0) (pv 1) (nomark _))) (fun C0 s0 H0 fp0 => pe_int))) pa_nil))) (nomark _))))))), ?_⟩
  obtain ⟨n2, n1, m4, e12, ae1, ae2, ha, h1, h2, pk, p1, p2, b1, b2, bD1, bD2, l1, l2, k⟩ := h
  refine ⟨_, rfl, 0, 1, n, rfl, n2, by decide, by decide, by decide, fun u H1 g1 iu => ?_⟩
  rw [dB_one] at iu
  intro sd nsd
  have nsdH : H sd = none := g1.free nsd
  have g2 : Same H1 (upd H1 sd (.dT [])) := Same.upd nsd
  have hs2 : (upd H1 sd (HO.dT [])) sd = some (.dT []) := upd_same
  have iu2 := iu.same g2
  generalize upd H1 sd (HO.dT []) = H2 at g2 hs2 iu2
  have gg2 := g1.trans g2
  have sd1 : sd ≠ e1 := fun z => by subst z; rw [h1] at nsdH; cases nsdH
  have sd2 : sd ≠ e2 := fun z => by subst z; rw [h2] at nsdH; cases nsdH
  have sda : sd ≠ a := fun z => by subst z; rw [ha] at nsdH; cases nsdH
  have h12 := gg2 _ _ h1
  have h22 := gg2 _ _ h2
  have ha2 := gg2 _ _ ha
  have sl : 1000 < sizeLine := by rw [sizeLine_eq]; decide
  refine ⟨_, rfl, e1, fvs, rfl, .inl h12, fun o1 _ => ?_⟩
  have hz1 : (upd H2 e1 (HO.frz o1 (HO.dT fvs))) e1 = some (.frz o1 (.dT fvs)) := upd_same
  have k3 : ∀ b ob, H2 b = some ob → b ≠ e1 → (upd H2 e1 (HO.frz o1 (HO.dT fvs))) b = some ob := fun b ob hb be => (upd_ne be).trans hb
  have th : ∀ H', (∀ b ob, (upd H2 e1 (HO.frz o1 (HO.dT fvs))) b = some ob → b ≠ sd → H' b = some ob) → ∀ b ob, H2 b = some ob → b ≠ sd → (upd H' e1 (.dT fvs)) b = some ob := fun H' q b ob hb bs => by
    by_cases z : b = e1
    · subst z; rw [upd_same, ← h12]; exact hb
    · rw [upd_ne z]; exact q b ob ((upd_ne z).trans hb) bs
  generalize upd H2 e1 (HO.frz o1 (HO.dT fvs)) = H3 at hz1 k3 th
  have hs3 := k3 _ _ hs2 sd1
  have h23 := k3 _ _ h22 (Ne.symm e12)
  have ha3 := k3 _ _ ha2 ae1
  have kt3 : ∀ b xs, H2 b = some (.tup xs) → H3 b = some (.tup xs) := fun b xs hb => k3 _ _ hb (ne_of hb h12 (by intro z; cases z))
  have iu3 := iu2.keep kt3
  have tk1 : (tks fvs).length = fvs.length := tks_len fvs
  have tk2 : (tks gvs).length = gvs.length := tks_len gvs
  have ki3 : ∀ b xs, H b = some (.tup xs) → H3 b = some (.tup xs) := fun b xs hb => kt3 _ _ (gg2 _ _ hb)
  have pk3 := pk.keep ki3
  have p13 := p1.keep ki3
  have p23 := p2.keep ki3
  have hX : ∀ t, ¬ zr n (cv T1 (tks fvs) T2 t) → ∃ l ∈ tks fvs, ∃ v ∈ tks gvs, t = addT l v := fun t ht => cv_supp (fun w hw => p2.out hw) ht
  have nzD : ¬ zr n (D1 * D2) := nz_mul n2 p1.nz p2.nz
  have bcv : ∀ z : n = 0, ∀ t, ∀ i, (cv T1 ((tks fvs).take i) T2 t).natAbs < 2 ^ 149 := fun z t i => by
    have q := cv_bd2 b1 b2 z t ((tks fvs).take i)
    have : ((tks fvs).take i).length ≤ 20 := by rw [List.length_take]; omega
    have : ((tks fvs).take i).length * 2 ^ (50 + 50) ≤ 20 * 2 ^ (50 + 50) := Nat.mul_le_mul_right _ this
    have : 20 * 2 ^ (50 + 50) < 2 ^ 149 := by decide
    omega
  dsimp only
  refine for_dkey (tb := fun D σ H => tFor (iDictKF (tVar 2)) (gName 7) _ (Ends.thw _ D) σ H) (fun i σ H' => i ≤ fvs.length ∧ (∃ w6 w7 w8 w9 w10 w11 w12, σ = [some (.ref a), some (.ref e1), some (.ref e2), some (.int n), some u, some (.ref sd), w6, w7, w8, w9, w10, w11, w12]) ∧ (∀ b ob, H3 b = some ob → b ≠ sd → H' b = some ob) ∧ ∃ sv, H' sd = some (.dT sv) ∧ Sn n m H' sv (cv T1 (tks fvs) T2) (D1 * D2) ∧ sv.length ≤ i * gvs.length ∧ ∀ l ∈ (tks fvs).take i, ∀ v ∈ tks gvs, addT l v ∈ tks sv) ?_ (fun i σ H' h => h.2.2.1 _ _ hz1 (Ne.symm sd1)) ?_ ?_
  · exact ⟨Nat.zero_le _, ⟨none, none, none, none, none, none, none, rfl⟩, fun b ob hb _ => hb, [], hs3, ⟨KO.nil, List.nodup_nil, fun t v q => by cases q⟩, Nat.zero_le _, fun l hl => by simp at hl⟩
  · rintro i kx vx σ H4 b1' hk ⟨hi, ⟨w6, w7, w8, w9, w10, w11, w12, rfl⟩, k4, sv, hs4, sn, ls, me⟩ hb1
    obtain ⟨l, hl, rfl, okl, _, _⟩ := p1.get hk
    have hi' := lt_of_get hk
    have h24 := k4 _ _ h23 (Ne.symm sd2)
    refine ⟨_, rfl, e2, gvs, rfl, .inl h24, fun o2 _ => ?_⟩
    have hz2 : (upd H4 e2 (HO.frz o2 (HO.dT gvs))) e2 = some (.frz o2 (.dT gvs)) := upd_same
    have k5 : ∀ b ob, H4 b = some ob → b ≠ e2 → (upd H4 e2 (HO.frz o2 (HO.dT gvs))) b = some ob := fun b ob hb be => (upd_ne be).trans hb
    have th2 : ∀ H', (∀ b ob, (upd H4 e2 (HO.frz o2 (HO.dT gvs))) b = some ob → b ≠ sd → H' b = some ob) → ∀ b ob, H4 b = some ob → b ≠ sd → (upd H' e2 (.dT gvs)) b = some ob := fun H' q b ob hb bs => by
      by_cases z : b = e2
      · subst z; rw [upd_same, ← h24]; exact hb
      · rw [upd_ne z]; exact q b ob ((upd_ne z).trans hb) bs
    generalize upd H4 e2 (HO.frz o2 (HO.dT gvs)) = H5 at hz2 k5 th2
    have kt5 : ∀ b xs, H4 b = some (.tup xs) → H5 b = some (.tup xs) := fun b xs hb => k5 _ _ hb (ne_of hb h24 (by intro z; cases z))
    have k35 : ∀ b ob, H3 b = some ob → b ≠ sd → b ≠ e2 → H5 b = some ob := fun b ob hb q1 q2 => k5 _ _ (k4 _ _ hb q1) q2
    have hs5 := k5 _ _ hs4 sd2
    have sn5 := sn.keep kt5
    have hb15 := kt5 _ _ hb1
    rw [ky_kV] at hb15
    refine for_dkey (tb := tSeq _ _) (fun j σ H' => j ≤ gvs.length ∧ (∃ w7 w8 w9 w10 w11 w12, σ = [some (.ref a), some (.ref e1), some (.ref e2), some (.int n), some u, some (.ref sd), some (.ref b1'), w7, w8, w9, w10, w11, w12]) ∧ (∀ b ob, H5 b = some ob → b ≠ sd → H' b = some ob) ∧ ∃ sv, H' sd = some (.dT sv) ∧ Sn n m H' sv (cv T1 (tks fvs) T2) (D1 * D2) ∧ sv.length ≤ i * gvs.length + j ∧ (∀ l ∈ (tks fvs).take i, ∀ v ∈ tks gvs, addT l v ∈ tks sv) ∧ ∀ v ∈ (tks gvs).take j, addT l v ∈ tks sv) ?_ (fun i σ H' h => h.2.2.1 _ _ hz2 (Ne.symm sd2)) ?_ ?_
    · exact ⟨Nat.zero_le _, ⟨_, _, _, _, _, _, rfl⟩, fun b ob hb _ => hb, sv, hs5, sn5, by omega, me, fun v hv => by simp at hv⟩
    · rintro j ky' vy σ H6 b2' hk2 ⟨hj, ⟨w7, w8, w9, w10, w11, w12, rfl⟩, k6, sv, hs6, sn, ls, me, me2⟩ hb2
      obtain ⟨v, hv, rfl, okv, _, _⟩ := p2.get hk2
      have hj' := lt_of_get hk2
      rw [ky_kV] at hb2
      have hb16 := k6 _ _ hb15 (ne_of hb15 hs5 (by intro z; cases z))
      have ntup : ∀ b xs, H5 b = some (.tup xs) → H6 b = some (.tup xs) := fun b xs hb => k6 _ _ hb (ne_of hb hs5 (by intro z; cases z))
      show tComp _ _ _ _ _ _ _ _
      refine zip_comp (K := K) (b1 := true) (b2 := true) (a := b1') (b := b2') (xs := l) (ys := v) yes2 (fun x y => .int (x + y)) (by rfl) ?_ (SqT.of hb16) (SqT.of hb2) (by rw [okl.1]; omega) ?_ ?_ fun DT H7 g7 hL7 => ?_
      · exact fun R hR => ⟨_, rfl, _, rfl, hR⟩
      · exact fun _ _ _ h => h
      · exact fun i H' R _ h => ⟨_, rfl, _, rfl, _, _, rfl, rfl, h⟩
      rw [zipV_W (fun x y => x + y)] at hL7
      refine ⟨DT, _, rfl, .inl ⟨SqL.of hL7, fun tt ntt => ?_⟩⟩
      have g8 : Same H7 (upd H7 tt (.tup ((addT l v).map V.int))) := Same.upd ntt
      have ht8 : (upd H7 tt (HO.tup ((addT l v).map V.int))) tt = some (.tup ((addT l v).map V.int)) := upd_same
      have g68 : Same H6 (upd H7 tt (HO.tup ((addT l v).map V.int))) := g7.trans g8
      have okt : TmOk m (addT l v) := okl.add okv
      change tSeq _ _ _ _ (upd H7 tt (HO.tup ((addT l v).map V.int)))
      generalize upd H7 tt (HO.tup ((addT l v).map V.int)) = H8 at g68 ht8
      have hs8 := g68 _ _ hs6
      have mset : ∀ sv', (∀ x, x ∈ tks sv → x ∈ tks sv') → addT l v ∈ tks sv' → ∀ w ∈ (tks gvs).take (j + 1), addT l w ∈ tks sv' := fun sv' h1 h2 w hw => by
        rw [take_snoc hv, List.mem_append, List.mem_singleton] at hw
        rcases hw with hw | rfl
        · exact h1 _ (me2 w hw)
        · exact h2
      have k8 : ∀ b ob, H5 b = some ob → b ≠ sd → H8 b = some ob := fun b ob hb bs => g68 _ _ (k6 b ob hb bs)
      have hz18 : H8 e1 = some (.frz o1 (.dT fvs)) := k8 _ _ (k35 _ _ hz1 (Ne.symm sd1) e12) (Ne.symm sd1)
      have hz28 : H8 e2 = some (.frz o2 (.dT gvs)) := k8 _ _ hz2 (Ne.symm sd2)
      have ha8 : H8 a = some (.dT kvs) := k8 _ _ (k35 _ _ ha3 (Ne.symm sda) ae2) (Ne.symm sda)
      have kt8 : ∀ b xs, H3 b = some (.tup xs) → H8 b = some (.tup xs) := fun b xs hb => g68 _ _ (ntup _ _ (kt5 _ _ (k4 _ _ hb (ne_of hb hs3 (by intro z; cases z)))))
      have iu8 := iu3.keep kt8
      have pk8 := pk3.keep kt8
      have p18 := p13.keep kt8
      have p28 := p23.keep kt8
      have sn8 := sn.keep fun b xs hb => g68 _ _ hb
      clear hb1 hb2 hb15 hb16 hL7 g7 g8 ntt hs6
      refine ⟨_, rfl, _, rfl, _, rfl, sd, _, rfl, DGet.t hs8 (by rw [ky_kV]; exact ht8), _, rfl, ?_⟩
      cases hval : valV sv (ky (addT l v)) with
      | some old =>
        refine iteF ?_
        refine ⟨hj', ⟨_, _, _, _, _, _, rfl⟩, k8, sv, hs8, sn8, by omega, me, mset sv (fun _ h => h) (sn.ko.mem.mpr (by rw [hval]; rfl))⟩
      | none =>
        refine iteT ?_
        refine ⟨_, rfl, e1, fvs, rfl, .inr ⟨o1, hz18⟩, fun o ho => ?_⟩
        have oe := ho o1 hz18
        subst oe
        rw [upd_frz hz18]
        refine for_ditem (tb := tSeq _ _) (fun q σ H' => q ≤ fvs.length ∧ Same H8 H' ∧ ∃ du w10 w11 w12, σ = [some (.ref a), some (.ref e1), some (.ref e2), some (.int n), some u, some (.ref sd), some (.ref b1'), some (.ref b2'), some (.ref tt), some du, w10, w11, w12] ∧ Is n H' du (cv T1 ((tks fvs).take q) T2 (addT l v)) (D1 * D2)) ?_ (fun q σ H' h => h.2.1 _ _ hz18) ?_ ?_
        · refine ⟨Nat.zero_le _, Same.refl _, u, _, _, _, rfl, ?_⟩
          rw [List.take_zero, cv_nil]
          exact Is.cross n2 (nz_one n2) iu8 (eqn.of_eq (by rw [Int.zero_mul, Int.zero_mul]))
        · rintro q kx vx σ H9 p b hk' ⟨hq, e9, du, w10', w11', w12', rfl, idu⟩ hp hb
          obtain ⟨l', hl', rfl, okl', ix, nzx⟩ := p18.get hk'
          have hq' := lt_of_get hk'
          refine ⟨p, _, rfl, SqT.of upd_same, rfl, _, _, rfl, _, _, rfl, rfl, ?_⟩
          have e10 : Same H9 (upd H9 p (.tup [.ref b, vx])) := Same.upd hp
          generalize upd H9 p (HO.tup [V.ref b, vx]) = H10 at e10
          have g10 := e9.trans e10
          have hb10 := e10 _ _ hb
          rw [ky_kV] at hb10
          show tComp _ _ _ _ _ _ _ _
          refine zip_comp (K := K) (b1 := true) (b2 := true) (a := tt) (b := b) (xs := addT l v) (ys := l') yes2 (fun x y => .int (x - y)) (by rfl) ?_ (SqT.of (g10 _ _ ht8)) (SqT.of hb10) (by rw [okt.1]; omega) ?_ ?_ fun DT H11 g11 hL11 => ?_
          · exact fun R hR => ⟨_, rfl, _, rfl, hR⟩
          · exact fun _ _ _ h => h
          · exact fun i H' R _ h => ⟨_, rfl, _, rfl, _, _, rfl, rfl, h⟩
          rw [zipV_W (fun x y => x - y)] at hL11
          change H11 DT = some (HO.lst ((subT (addT l v) l').map V.int)) at hL11
          refine ⟨DT, _, rfl, .inl ⟨SqL.of hL11, fun rt nrt => ?_⟩⟩
          have g12 : Same H11 (upd H11 rt (.tup ((subT (addT l v) l').map V.int))) := Same.upd nrt
          have ht12 : (upd H11 rt (HO.tup ((subT (addT l v) l').map V.int))) rt = some (.tup ((subT (addT l v) l').map V.int)) := upd_same
          generalize upd H11 rt (HO.tup ((subT (addT l v) l').map V.int)) = H12 at g12 ht12
          have g9 := (e10.trans g11).trans g12
          have g812 := e9.trans g9
          have iy := is_get n2 (p28.same g812) (iu8.same g812) (subT (addT l v) l')
          have smD : ∀ z : n = 0, (D1 * D2).natAbs < 2 ^ 24 := fun z => mul_up (bD1 z) (bD2 z)
          refine ⟨_, rfl, _, rfl, _, rfl, e2, rfl, .inr ⟨_, .inr ⟨o2, g812 _ _ hz28⟩⟩, _, rfl, _, rfl, _, .inr ⟨gvs, ky (subT (addT l v) l'), rt, .inr ⟨o2, g812 _ _ hz28⟩, rfl, by rw [ky_kV]; exact ht12, rfl⟩, ?_⟩
          refine ⟨_, rfl, vx, _, n, T1 l', D1, T2 (subT (addT l v) l'), D2, rfl, n2, n1, ix.same g812, iy, p1.nz, p2.nz, fun z => ⟨up (b1 z l') (by decide), up (bD1 z) (by decide)⟩, fun z => ⟨up (b2 z _) (by decide), up (bD2 z) (by decide)⟩, fun v3 H13 g13 im => ?_⟩
          refine ⟨_, rfl, du, v3, n, _, D1 * D2, T1 l' * T2 (subT (addT l v) l'), D1 * D2, rfl, n2, n1, (idu.same g9).same g13, im, nzD, nzD, fun z => ⟨up (bcv z _ q) (by decide), up (smD z) (by decide)⟩, fun z => ⟨up (mul_up (b1 z l') (b2 z _)) (by decide), up (smD z) (by decide)⟩, fun dv H14 g14 idv => ?_⟩
          refine ⟨hq', (g812.trans g13).trans g14, dv, _, _, _, rfl, ?_⟩
          rw [take_snoc hl', cv_snoc]
          have es : shT l' T2 (addT l v) = T2 (subT (addT l v) l') := if_pos (okt.1.trans okl'.1.symm)
          rw [es]
          exact Is.cross n2 (nz_mul n2 nzD nzD) idv (eqn.of_eq (by grind))
        · rintro σ H9 ⟨_, e9, du, w10', w11', w12', rfl, idu⟩
          rw [← tk1, List.take_length] at idu
          refine .inl ?_
          have hs9 := e9 _ _ hs8
          have zl : sv.length < sizeLine := by
            have : i * gvs.length ≤ 20 * 20 := Nat.mul_le_mul (by omega) l2
            omega
          refine ⟨_, rfl, _, rfl, _, rfl, sd, _, rfl, DPut.t (k := ky (addT l v)) hs9 (by rw [ky_kV]; exact e9 _ _ ht8) zl, ?_⟩
          have kp : ∀ b ys, H9 b = some (.tup ys) → (upd H9 sd (.dT (putK sv (ky (addT l v)) du))) b = some (.tup ys) := fun b ys hb => (upd_ne (ne_of hb hs9 (by intro q; cases q))).trans hb
          have sn10 := ((sn8.keep fun b xs hb => e9 _ _ hb).put okt idu).keep kp
          have pk10 := (pk8.same e9).keep kp
          have iu10 := (iu8.same e9).keep kp
          have id10 := idu.keep kp
          have i3 := is_get n2 pk10 iu10 (addT l v)
          have ha10 : (upd H9 sd (HO.dT (putK sv (ky (addT l v)) du))) a = some (.dT kvs) := (upd_ne (Ne.symm sda)).trans (e9 _ _ ha8)
          have ht10 := kp _ _ (e9 _ _ ht8)
          refine ⟨_, rfl, a, rfl, .inr ⟨_, .inl ha10⟩, _, rfl, _, rfl, _, DGet.t ha10 (by rw [ky_kV]; exact ht10), ?_⟩
          obtain ⟨dn, rd1, rd2, nd', eq⟩ := Is.rds2 (K := K) n2 nzD i3 id10
          refine ⟨_, rfl, dn, dn, rd1, rd2, nd'.shaped, nd'.shaped, _, rfl, ?_⟩
          rw [nd'.refl]
          refine iteF ?_
          have lp := length_putK sv (ky (addT l v)) du
          refine ⟨hj', ⟨_, _, _, _, _, _, rfl⟩, fun b ob hb bs => (upd_ne bs).trans (e9 _ _ (k8 b ob hb bs)), _, upd_same, sn10, by omega, fun l2' h1 w h2 => (ko_put_mem sn.ko okt).mpr (.inr (me l2' h1 w h2)), mset _ (fun x hx => (ko_put_mem sn.ko okt).mpr (.inr hx)) ((ko_put_mem sn.ko okt).mpr (.inl rfl))⟩
    · rintro σ H6 ⟨_, ⟨w7, w8, w9, w10, w11, w12, rfl⟩, k6, sv, hs6, sn, ls, me, me2⟩
      have hz6 := k6 _ _ hz2 (Ne.symm sd2)
      refine .inr ⟨e2, o2, _, hz6, fun o' w' z => ?_, ?_⟩
      · have z' : H e2 = some (.frz o' w') := z
        rw [h2] at z'; cases z'
      refine ⟨hi', ⟨_, _, _, _, _, _, _, rfl⟩, fun b ob hb bs => th2 _ k6 _ _ (k4 _ _ hb bs) bs, sv, (upd_ne sd2).trans hs6, sn.keep fun c xs hc => (upd_ne (ne_of hc hz6 (by intro z; cases z))).trans hc, by rw [Nat.succ_mul]; exact ls, fun l' hl' v hv => ?_⟩
      rw [take_snoc hl, List.mem_append, List.mem_singleton] at hl'
      rcases hl' with hl' | rfl
      · exact me l' hl' v hv
      · exact me2 v (by rw [← tk2, List.take_length]; exact hv)
  · rintro σ H4 ⟨_, ⟨w6, w7, w8, w9, w10, w11, w12, rfl⟩, k4, sv, hs4, sn, ls, me⟩
    have hz4 := k4 _ _ hz1 (Ne.symm sd1)
    refine .inr ⟨e1, o1, _, hz4, fun o' w' z => ?_, ?_⟩
    · have z' : H e1 = some (.frz o' w') := z
      rw [h1] at z'; cases z'
    have kf := th _ k4
    have hsf : (upd H4 e1 (HO.dT fvs)) sd = some (.dT sv) := (upd_ne sd1).trans hs4
    have gf : Same H (upd H4 e1 (HO.dT fvs)) := fun b ob hb => kf b ob (gg2 _ _ hb) (fun z => by subst z; rw [hb] at nsdH; cases nsdH)
    have snf : Sn n m (upd H4 e1 (HO.dT fvs)) sv (cv T1 (tks fvs) T2) (D1 * D2) := sn.keep fun c xs hc => (upd_ne (ne_of hc hz4 (by intro z; cases z))).trans hc
    have iuf : Is n (upd H4 e1 (HO.dT fvs)) u 0 1 := iu2.keep fun c xs hc => kf _ _ hc (ne_of hc hs2 (by intro z; cases z))
    rw [← tk1, List.take_length] at me
    generalize upd H4 e1 (HO.dT fvs) = H5 at kf hsf gf snf iuf
    have ndU := nd_keys snf.ko snf.nd
    have cl := cn_len (pk.same gf) ndU fun t ht => by
      obtain ⟨l, hl, v, hv, rfl⟩ := hX t ht
      exact me l hl v hv
    refine ⟨_, rfl, a, kvs, rfl, .inl (gf _ _ ha), ?_⟩
    have svl : sv.length ≤ 1000 := by
      have : fvs.length * gvs.length ≤ 20 * 20 := Nat.mul_le_mul l1 l2
      omega
    show tComp _ _ _ _ _ _ _ _
    refine dval_comp (d := sd) (fvs := sv) hsf ?_ svl (fun σ => ∃ v, σ = [v, some u]) (fun i => !decide (zr n (cv T1 (tks fvs) T2 ((tks sv).getD i [])))) (fun _ => .int 1) ⟨none, rfl⟩ ?_ fun o D H' De e' hL => ?_
    · exact fun R hR => ⟨_, rfl, hR⟩
    · rintro o i x σ' H6 hi ⟨z, rfl⟩ e6 ⟨kk, hk⟩ Ny Nn hy hn
      obtain ⟨t, ht, rfl, okt⟩ := snf.ko.get hk
      have kt : ∀ c xs, H5 c = some (.tup xs) → H6 c = some (.tup xs) := fun c xs hc => e6 _ _ ((upd_ne (ne_of hc hsf (by intro z; cases z))).trans hc)
      have e5 : (tks sv).getD i [] = t := by rw [List.getD_eq_getElem?_getD, ht]; rfl
      rw [e5] at hy hn
      have ix := (snf.at_ t x (valV_get snf.nd hk)).keep kt
      have iu6 := iuf.keep kt
      obtain ⟨dn, rd, nd, eq⟩ := ix.rds (K := K) n2 nzD
      refine ⟨_, rfl, _, rfl, dn, z0N n, rd, iu6.zero, nd.shaped, (nm_z0 n).shaped, _, rfl, ?_⟩
      rw [eq]
      cases hz : decide (zr n (cv T1 (tks fvs) T2 t))
      · rw [hz] at hy
        exact hy _ _ ⟨_, rfl⟩ (Same.refl _) rfl
      · rw [hz] at hn
        exact hn _ _ ⟨_, rfl⟩ (Same.refl _) rfl
    have hz' : H' sd = some (.frz o (.dT sv)) := e' _ _ upd_same
    refine .inr ⟨sd, o, _, hz', fun o' w' z => ?_, ?_⟩
    · have z' : H sd = some (.frz o' w') := z
      rw [nsdH] at z'; cases z'
    have gz : Same H (upd H' sd (.dT sv)) := gf.trans (same_thaw hsf e')
    refine ⟨D, _, rfl, .inl (SqL.of ((upd_ne De).trans hL)), ?_⟩
    have el : ((((List.range sv.length).filter fun i => !decide (zr n (cv T1 (tks fvs) T2 ((tks sv).getD i [])))).map fun _ => V.int 1).length : Int) = kvs.length := by
      rw [List.length_map, ← tks_len sv, rng_filter (tks sv) fun t => !decide (zr n (cv T1 (tks fvs) T2 t)), cl]; rfl
    rw [el]
    refine ⟨rfl, ?_⟩
    rw [decide_eq_true rfl]
    exact k _ gz
end
end K10
namespace K10
open PySem L2
open K1 K2 K3 K6 K8
section
variable {P : Program} {w : World} {K : PySem.W.Frag} {mg : Str → Option Value} {base : Heap} {f : Addr} {fd : FuncData} {C_Ring C_Fractions C_Rests C_Order C_Degrees C_Tails : Addr} {E_NoPrime E_NoRing : Addr}
local macro_rules | `(tactic| walk_at "sd") => `(tactic| first
  | assumption | (dsimp only; omega) | (dsimp only; decide) | exact ⟨by decide, by decide⟩ | exact ⟨by decide, by decide, by decide⟩ | exact Or.inl ⟨by decide, by decide⟩ | exact ⟨by omega, by omega⟩ | exact Or.inl ⟨by omega, by omega⟩ | exact Or.inr ⟨by decide, by decide⟩ | exact Or.inr ⟨by omega, by omega⟩)
local macro_rules | `(tactic| walk_at "rd") => `(tactic| repeat first
  | refine ⟨_, rfl, ?_⟩ | refine ⟨_, _, rfl, rfl, ?_⟩ | refine And.intro rfl ?_ | refine And.intro (by walk_at "sd") ?_ | with_reducible refine iteT ?_ | with_reducible refine iteF ?_ | (apply ixT_of; assumption; rfl))
local macro_rules | `(tactic| walk_at "clo") => `(tactic| exact h)

theorem scWa : FnScope ["_law_ring", "_law_f", "_law_prime_here", "_law_still", "_law_one", "_law_found"] ["_law_ring", "_law_f", "_law_prime_here"] (defScope s__law_whole_again) := ⟨rfl, rfl, rfl, by decide +kernel, rfl, by decide +kernel, by decide +kernel⟩
set_option maxHeartbeats 4000000 in
theorem ok_Wa  (F : FunD K "_law_whole_again" "_law_whole_again" s__law_whole_again .none f fd) (T : Txt K mg C_Ring C_Fractions C_Rests C_Order C_Degrees C_Tails) (c_LMd : Cal P w K mg base CX0 2 "_law_made" ["_law_top", "_law_bottom", "_law_prime_here"] [] spMd) (c_Plus : Cal P w K mg base CX0 5 "plus" ["ring", "f", "g"] [] (spPlus C_Ring C_Fractions C_Rests)) (c_Minus : Cal P w K mg base CX0 6 "minus" ["ring", "f", "g"] [] (spMinus C_Ring C_Fractions C_Rests)) (c_Scal : Cal P w K mg base CX0 4 "scaled" ["ring", "number", "term", "f"] [] (spScal C_Ring C_Fractions C_Rests)) (c_Times : Cal P w K mg base CX0 6 "times" ["ring", "f", "g"] [] (spTimes C_Ring C_Fractions C_Rests))  : FnOk P w K mg base CX0 7 f fd ["_law_ring", "_law_f", "_law_prime_here"] (spWa K C_Ring C_Fractions C_Rests) := by
  refine F.okN (k := 6) scWa (fun vs H Q E h => ?_) (fun cdv A outer s H vs Q E hr h => ?_)
  · obtain ⟨r, e, m, pf, n, fvs, T0, rfl, _⟩ := h
    rfl
  obtain ⟨r, e, m, pf, n, fvs, T0, rfl, h⟩ := h
  refine ⟨_, (pss_cons (ps_set (i := 3) scWa.nd rfl (Or.inl rfl) (pe_callTy (call_tupleK (K := K) rfl) rfl T.b_tuple (by kernel_rfl) ((pa_cons (pe_comp (N := ["_law_at"]) (Blk.plain (by decide +kernel) (by decide +kernel) rfl (by decide +kernel) nd__law_at) rfl (pi_range1 rfl T.b_range ((pa_cons (pe_fldK (K := K) rfl (pv 0) rfl) pa_nil))) (fun C0 s0 H0 fp0 => pg_one (i := 0) nd__law_at rfl rfl) (fun C0 s0 H0 fp0 => pts_nil) (fun C0 s0 H0 fp0 => pe_int)) pa_nil))))
    (pss_cons (ps_set (i := 4) scWa.nd rfl (Or.inl rfl) (pe_c c_LMd hr pass00 .nil ((pa_cons (pe_int) (pa_cons (pe_int) (pa_cons (pv 2) pa_nil))))))
    (pss_cons (ps_set (i := 5) scWa.nd rfl (Or.inl rfl) (pe_lst ((pa_cons (pe_c c_Plus hr pass00 .nil ((pa_cons (pv 0) (pa_cons (pv 1) (pa_cons (pe_dnewT) pa_nil))))) (pa_cons (pe_c c_Plus hr pass00 .nil ((pa_cons (pv 0) (pa_cons (pe_dnewT) (pa_cons (pv 1) pa_nil))))) (pa_cons (pe_c c_Minus hr pass00 .nil ((pa_cons (pv 0) (pa_cons (pv 1) (pa_cons (pe_dnewT) pa_nil))))) (pa_cons (pe_c c_Scal hr pass00 .nil ((pa_cons (pv 0) (pa_cons (pv 4) (pa_cons (pv 3) (pa_cons (pv 1) pa_nil)))))) pa_nil)))))))
    (pss_one (ps_ret (pe_op op_cat (pv 5) (pe_lst ((pa_cons (pe_c c_Times hr pass00 .nil ((pa_cons (pv 0) (pa_cons (pv 1) (pa_cons (pe_disp1 hr.units0 (pv 3) (pv 4)) pa_nil))))) (pa_cons (pe_c c_Times hr pass00 .nil ((pa_cons (pv 0) (pa_cons (pe_disp1 hr.units0 (pv 3) (pv 4)) (pa_cons (pv 1) pa_nil))))) pa_nil)))))))))), ?_⟩
  obtain ⟨hR, he, pT, bT, dr, l8, k⟩ := h
  have n2 := hR.np
  have m1 := hR.m1
  have m4 := hR.m4
  obtain ⟨po, dx, hr0⟩ := hR.at_
  have hds := PD.hds pT m1 m4 dr
  have nzd := dM_nz n2
  have sl : 1000 < sizeLine := by rw [sizeLine_eq]; decide
  have b4 : Bdd n T0 400 := bdd_up bT (by decide)
  have b1 : Bdd n T0 100 := bdd_up bT (by decide)
  have b0 : Bdd n (fun _ => 0) 400 := fun _ _ => by show (0 : Int).natAbs < 2 ^ 400; decide
  have bd4 : n = 0 → (dM n).natAbs < 2 ^ 400 := fun _ => up (dM_b n) (by decide)
  have bd1 : n = 0 → (dM n).natAbs < 2 ^ 100 := fun _ => up (dM_b n) (by decide)
  show tComp _ _ _ _ _ _ _ _
  refine walk_comp (J := Itr 0 m) (H1 := H) (walk_range 0 m) (by omega) ?_ (fun σ => ∃ v, σ = [v]) (fun _ => true) (fun _ => .int 0) ⟨none, rfl⟩ ?_ fun D0 H1 g1 hL => ?_
  · exact fun R hR => ⟨_, rfl, r, C_Ring, dx, _, _, rfl, hr0, T.cl_Ring, T.na_Ring_many, rfl, (m : Int), rfl, by omega, by omega, hR⟩
  · rintro i x σ' H2 hi ⟨z, rfl⟩ e2 rfl Ny Nn hy hn
    unfold gName tYes
    dsimp only
    rw [if_pos rfl]
    exact hy _ _ ⟨_, rfl⟩ (Same.refl _) rfl
  rw [List.filter_eq_self.mpr (fun _ _ => rfl)] at hL
  have eL : (List.range m).map (fun _ => V.int 0) = (List.replicate m 0).map V.int := by
    refine List.ext_getElem (by simp) fun i h1 h2 => by simp
  rw [eL] at hL
  refine ⟨D0, _, rfl, .inl ⟨SqL.of hL, fun st nst => ?_⟩⟩
  have g2 : Same H (upd H1 st (.tup ((List.replicate m 0).map V.int))) := g1.updR (g1.free nst)
  have hst : (upd H1 st (HO.tup ((List.replicate m 0).map V.int))) st = some (.tup ((List.replicate m 0).map V.int)) := upd_same
  generalize upd H1 st (HO.tup ((List.replicate m 0).map V.int)) = H2 at g2 hst
  refine ⟨_, rfl, 1, 1, n, rfl, n2, by decide, by decide, by decide, fun vo H3 e3 io => ?_⟩
  rw [dB_one] at io
  have g3 := g2.trans e3
  have hst3 := e3 _ _ hst
  -- plus(ring, f, {})
  refine ⟨_, rfl, _, rfl, fun x1 nx1 => ?_⟩
  have e4 : Same H3 (upd H3 x1 (.dT [])) := Same.upd nx1
  have hx1 : (upd H3 x1 (HO.dT [])) x1 = some (.dT []) := upd_same
  generalize upd H3 x1 (HO.dT []) = H4 at e4 hx1
  have g4 := g3.trans e4
  refine ⟨r, e, x1, m, pf, n, fvs, [], T0, fun _ => 0, dM n, rfl, hR.same g4, g4 _ _ he, hx1, pT.same g4, PD.nil n2 nzd fun _ => zr_zero n, hds, by show fvs.length + 0 < sizeLine; omega, b4, b0, bd4, fun d1 H5 kv1 nd1 e5 hd1 pd1 lk1 => ?_⟩
  have g5 := g4.trans e5
  have q1 : PD n m H5 kv1 T0 (dM n) := by
    have : (fun k => T0 k + 0) = T0 := funext fun k => Int.add_zero _
    rw [this] at pd1; exact pd1
  -- plus(ring, {}, f)
  refine ⟨_, rfl, fun x2 nx2 => ?_⟩
  have e6 : Same H5 (upd H5 x2 (.dT [])) := Same.upd nx2
  have hx2 : (upd H5 x2 (HO.dT [])) x2 = some (.dT []) := upd_same
  generalize upd H5 x2 (HO.dT []) = H6 at e6 hx2
  have g6 := g5.trans e6
  refine ⟨_, rfl, r, x2, e, m, pf, n, [], fvs, fun _ => 0, T0, dM n, rfl, hR.same g6, hx2, g6 _ _ he, PD.nil n2 nzd fun _ => zr_zero n, pT.same g6, ⟨[], rfl, List.nodup_nil⟩, by show 0 + fvs.length < sizeLine; omega, b0, b4, bd4, fun d2 H7 kv2 nd2 e7 hd2 pd2 lk2 => ?_⟩
  have g7 := g6.trans e7
  have q2 : PD n m H7 kv2 T0 (dM n) := by
    have : (fun k => 0 + T0 k) = T0 := funext fun k => Int.zero_add _
    rw [this] at pd2; exact pd2
  -- minus(ring, f, {})
  refine ⟨_, rfl, _, rfl, fun x3 nx3 => ?_⟩
  have e8 : Same H7 (upd H7 x3 (.dT [])) := Same.upd nx3
  have hx3 : (upd H7 x3 (HO.dT [])) x3 = some (.dT []) := upd_same
  generalize upd H7 x3 (HO.dT []) = H8 at e8 hx3
  have g8 := g7.trans e8
  refine ⟨r, e, x3, m, pf, n, fvs, [], T0, fun _ => 0, dM n, rfl, hR.same g8, g8 _ _ he, hx3, pT.same g8, PD.nil n2 nzd fun _ => zr_zero n, hds, by show fvs.length + 0 < sizeLine; omega, b4, b0, bd4, fun d3 H9 kv3 nd3 e9 hd3 pd3 lk3 => ?_⟩
  have g9 := g8.trans e9
  have q3 : PD n m H9 kv3 T0 (dM n) := by
    have : (fun k => T0 k + - 0) = T0 := funext fun k => by show T0 k + 0 = T0 k; omega
    rw [this] at pd3; exact pd3
  -- scaled(ring, one, still, f)
  have g39 : Same H3 H9 := ((((e4.trans e5).trans e6).trans e7).trans e8).trans e9
  refine ⟨_, rfl, _, rfl, _, rfl, _, rfl, r, vo, st, e, m, pf, n, fvs, 1, 1, List.replicate m 0, T0, dM n, rfl, hR.same g9, io.same g39, nz_one n2, fun _ => ⟨by decide, by decide⟩, g39 _ _ hst3, zeros_ok m, g9 _ _ he, pT.same g9, b4, bd4, by omega, fun d4 HA kv4 nd4 eA hd4 pd4 lk4 => ?_⟩
  have gA := g9.trans eA
  have q4 : PD n m HA kv4 T0 (dM n) := by
    rw [Int.one_mul] at pd4
    exact PD.eqT n2 pd4 fun t => by rw [Int.one_mul]; exact pT.sh0 t
  refine ⟨(by show 4 ≤ sizeLine; omega), fun la nla => ?_⟩
  have eB : Same HA (upd HA la (.lst [.ref d1, .ref d2, .ref d3, .ref d4])) := Same.upd nla
  have hla : (upd HA la (HO.lst [.ref d1, .ref d2, .ref d3, .ref d4])) la = some (.lst [.ref d1, .ref d2, .ref d3, .ref d4]) := upd_same
  generalize upd HA la (HO.lst [.ref d1, .ref d2, .ref d3, .ref d4]) = HB at eB hla
  have gB := gA.trans eB
  have g3B := (g39.trans eA).trans eB
  have bS : Bdd n (fun t => if t = List.replicate m 0 then 1 else 0) 100 := fun _ t => by
    show (if t = List.replicate m 0 then (1 : Int) else 0).natAbs < 2 ^ 100
    split <;> decide
  have tk1 : ∀ v : V, tks [(ky (List.replicate m 0), v)] = [List.replicate m 0] := fun v => by show [uk (ky (List.replicate m 0))] = _; rw [uk_ky]
  -- times(ring, f, {still: one})
  refine ⟨_, rfl, _, rfl, _, rfl, fun x5 nx5 => ?_⟩
  have eC0 : Same HB (upd HB x5 (.dT [])) := Same.upd nx5
  refine ⟨_, rfl, _, rfl, st, ky (List.replicate m 0), rfl, upd_same, by rw [ky_kV]; exact eC0 _ _ (g3B _ _ hst3), ?_⟩
  have eC : Same HB (upd (upd HB x5 (.dT [])) x5 (.dT [(ky (List.replicate m 0), vo)])) := eC0.updR nx5
  have hx5 : (upd (upd HB x5 (HO.dT [])) x5 (HO.dT [(ky (List.replicate m 0), vo)])) x5 = some (.dT [(ky (List.replicate m 0), vo)]) := upd_same
  generalize upd (upd HB x5 (HO.dT [])) x5 (HO.dT [(ky (List.replicate m 0), vo)]) = HC at eC hx5
  have gC := gB.trans eC
  have ioC := io.same (g3B.trans eC)
  have ne5 : e ≠ x5 := ne_sn (gB _ _ he) nx5
  refine ⟨r, e, x5, m, pf, n, fvs, _, T0, dM n, _, 1, rfl, hR.same gC, ne5, gC _ _ he, hx5, pT.same gC, pd_one n2 ioC, by omega, by show 1 ≤ 64; decide, b1, bS, bd1, fun _ => by decide, fun d5 HD kv5 nd5 eD hd5 pd5 lk5 => ?_⟩
  have gD := gC.trans eD
  have q5 : PD n m HD kv5 T0 (dM n) := by
    rw [Int.mul_one] at pd5
    exact PD.eqT n2 pd5 fun t => pT.cv1 t
  -- times(ring, {still: one}, f)
  refine ⟨_, rfl, fun x6 nx6 => ?_⟩
  have eE0 : Same HD (upd HD x6 (.dT [])) := Same.upd nx6
  have g3D := (g3B.trans eC).trans eD
  refine ⟨_, rfl, _, rfl, st, ky (List.replicate m 0), rfl, upd_same, by rw [ky_kV]; exact eE0 _ _ (g3D _ _ hst3), ?_⟩
  have eE : Same HD (upd (upd HD x6 (.dT [])) x6 (.dT [(ky (List.replicate m 0), vo)])) := eE0.updR nx6
  have hx6 : (upd (upd HD x6 (HO.dT [])) x6 (HO.dT [(ky (List.replicate m 0), vo)])) x6 = some (.dT [(ky (List.replicate m 0), vo)]) := upd_same
  generalize upd (upd HD x6 (HO.dT [])) x6 (HO.dT [(ky (List.replicate m 0), vo)]) = HE at eE hx6
  have gE := gD.trans eE
  have ioE := io.same (g3D.trans eE)
  have ne6 : x6 ≠ e := Ne.symm (ne_sn (gD _ _ he) nx6)
  refine ⟨_, rfl, r, x6, e, m, pf, n, _, fvs, _, 1, T0, dM n, rfl, hR.same gE, ne6, hx6, gE _ _ he, pd_one n2 ioE, pT.same gE, by show 1 ≤ 64; decide, by omega, bS, b1, fun _ => by decide, bd1, fun d6 HF kv6 nd6 eF hd6 pd6 lk6 => ?_⟩
  have gF := gE.trans eF
  have q6 : PD n m HF kv6 T0 (dM n) := by
    rw [Int.one_mul] at pd6
    refine PD.eqT n2 pd6 fun t => ?_
    rw [tk1, cv_cons, cv_nil]
    rw [if_pos rfl, Int.one_mul, Int.add_zero]
    exact pT.sh0 t
  refine ⟨(by show 2 ≤ sizeLine; omega), fun lb nlb => ?_⟩
  have eG : Same HF (upd HF lb (.lst [.ref d5, .ref d6])) := Same.upd nlb
  have hlb : (upd HF lb (HO.lst [.ref d5, .ref d6])) lb = some (.lst [.ref d5, .ref d6]) := upd_same
  generalize upd HF lb (HO.lst [.ref d5, .ref d6]) = HG at eG hlb
  have gBF : Same HB HF := ((eC.trans eD).trans eE).trans eF
  refine ⟨la, lb, _, _, rfl, rfl, eG _ _ (gBF _ _ hla), hlb, (by show 6 ≤ sizeLine; omega), fun lc nlc => ?_⟩
  have eH : Same HG (upd HG lc (.lst [.ref d1, .ref d2, .ref d3, .ref d4, .ref d5, .ref d6])) := Same.upd nlc
  have z5 := ((((((((e6.trans e7).trans e8).trans e9).trans eA).trans eB).trans gBF).trans eG).trans eH)
  have z7 := ((((((e8.trans e9).trans eA).trans eB).trans gBF).trans eG).trans eH)
  have z9 := ((((eA.trans eB).trans gBF).trans eG).trans eH)
  have zA := (((eB.trans gBF).trans eG).trans eH)
  have zD := (((eE.trans eF).trans eG).trans eH)
  have zF := eG.trans eH
  have a1 := g4.free nd1
  have a2 := g6.free nd2
  have a3 := g8.free nd3
  have a4 := g9.free nd4
  have a5 := gC.free nd5
  have a6 := gE.free nd6
  have c12 : d1 ≠ d2 := ne_sn (e6 _ _ hd1) nd2
  have c13 : d1 ≠ d3 := ne_sn (e8 _ _ (e7 _ _ (e6 _ _ hd1))) nd3
  have c23 : d2 ≠ d3 := ne_sn (e8 _ _ hd2) nd3
  have g59 := ((e6.trans e7).trans e8).trans e9
  have c14 : d1 ≠ d4 := ne_sn (g59 _ _ hd1) nd4
  have c24 : d2 ≠ d4 := ne_sn ((e8.trans e9) _ _ hd2) nd4
  have c34 : d3 ≠ d4 := ne_sn hd3 nd4
  have gAC := eB.trans eC
  have c45 : d4 ≠ d5 := ne_sn (gAC _ _ hd4) nd5
  have c35 : d3 ≠ d5 := ne_sn ((eA.trans gAC) _ _ hd3) nd5
  have c25 : d2 ≠ d5 := ne_sn (((e8.trans e9).trans (eA.trans gAC)) _ _ hd2) nd5
  have c15 : d1 ≠ d5 := ne_sn ((g59.trans (eA.trans gAC)) _ _ hd1) nd5
  have gCE := eD.trans eE
  have c56 : d5 ≠ d6 := ne_sn (eE _ _ hd5) nd6
  have c46 : d4 ≠ d6 := ne_sn ((gAC.trans gCE) _ _ hd4) nd6
  have c36 : d3 ≠ d6 := ne_sn ((eA.trans (gAC.trans gCE)) _ _ hd3) nd6
  have c26 : d2 ≠ d6 := ne_sn (((e8.trans e9).trans (eA.trans (gAC.trans gCE))) _ _ hd2) nd6
  have c16 : d1 ≠ d6 := ne_sn ((g59.trans (eA.trans (gAC.trans gCE))) _ _ hd1) nd6
  refine k lc _ [d1, d2, d3, d4, d5, d6] ((gF.trans eG).free nlc) ((gF.trans eG).trans eH) upd_same (by show 6 ≤ 6; decide) (by simp [c12, c13, c14, c15, c16, c23, c24, c25, c26, c34, c35, c36, c45, c46, c56]) fun d hd => ?_
  have lcn : ∀ (H' : Hp) (b : Addr) (o : HO), Same H' HG → H' b = some o → b ≠ lc := fun H' b o g h => ne_sn (g _ _ h) nlc
  simp only [List.mem_cons, List.mem_nil_iff, or_false] at hd
  rcases hd with rfl | rfl | rfl | rfl | rfl | rfl
  · exact ⟨a1, ne_sn ((((((((e6.trans e7).trans e8).trans e9).trans eA).trans eB).trans gBF).trans eG) _ _ hd1) nlc, kv1, z5 _ _ hd1, q1.same z5⟩
  · exact ⟨a2, ne_sn ((((((e8.trans e9).trans eA).trans eB).trans gBF).trans eG) _ _ hd2) nlc, kv2, z7 _ _ hd2, q2.same z7⟩
  · exact ⟨a3, ne_sn ((((eA.trans eB).trans gBF).trans eG) _ _ hd3) nlc, kv3, z9 _ _ hd3, q3.same z9⟩
  · exact ⟨a4, ne_sn (((eB.trans gBF).trans eG) _ _ hd4) nlc, kv4, zA _ _ hd4, q4.same zA⟩
  · exact ⟨a5, ne_sn (((eE.trans eF).trans eG) _ _ hd5) nlc, kv5, zD _ _ hd5, q5.same zD⟩
  · exact ⟨a6, ne_sn (eG _ _ hd6) nlc, kv6, zF _ _ hd6, q6.same zF⟩
end
end K10
namespace K10
open PySem L2
open K1 K2 K3 K6 K8
section
variable {P : Program} {w : World} {K : PySem.W.Frag} {mg : Str → Option Value} {base : Heap} {f : Addr} {fd : FuncData} {C_Ring C_Fractions C_Rests C_Order C_Degrees C_Tails : Addr} {E_NoPrime E_NoRing : Addr}
local macro_rules | `(tactic| walk_at "sd") => `(tactic| first
  | assumption | (dsimp only; omega) | (dsimp only; decide) | exact ⟨by decide, by decide⟩ | exact ⟨by decide, by decide, by decide⟩ | exact Or.inl ⟨by decide, by decide⟩ | exact ⟨by omega, by omega⟩ | exact Or.inl ⟨by omega, by omega⟩ | exact Or.inr ⟨by decide, by decide⟩ | exact Or.inr ⟨by omega, by omega⟩)
local macro_rules | `(tactic| walk_at "rd") => `(tactic| repeat first
  | refine ⟨_, rfl, ?_⟩ | refine ⟨_, _, rfl, rfl, ?_⟩ | refine And.intro rfl ?_ | refine And.intro (by walk_at "sd") ?_ | with_reducible refine iteT ?_ | with_reducible refine iteF ?_ | (apply ixT_of; assumption; rfl))
local macro_rules | `(tactic| walk_at "clo") => `(tactic| exact h)

theorem scOwn : FnScope ["_law_ring", "_law_f", "_law_prime_here", "_law_kept", "_law_far", "_law_found"] ["_law_ring", "_law_f", "_law_prime_here"] (defScope s__law_own) := ⟨rfl, rfl, rfl, by decide +kernel, rfl, by decide +kernel, by decide +kernel⟩
set_option maxHeartbeats 4000000 in
theorem ok_Own  (F : FunD K "_law_own" "_law_own" s__law_own .none f fd) (T : Txt K mg C_Ring C_Fractions C_Rests C_Order C_Degrees C_Tails) (c_Wa : Cal P w K mg base CX0 7 "_law_whole_again" ["_law_ring", "_law_f", "_law_prime_here"] [] (spWa K C_Ring C_Fractions C_Rests)) (c_LMd : Cal P w K mg base CX0 2 "_law_made" ["_law_top", "_law_bottom", "_law_prime_here"] [] spMd)  : FnOk P w K mg base CX0 8 f fd ["_law_ring", "_law_f", "_law_prime_here"] (spOwn K C_Ring C_Fractions C_Rests) := by
  refine F.okN (k := 7) scOwn (fun vs H Q E h => ?_) (fun cdv A outer s H vs Q E hr h => ?_)
  · obtain ⟨r, e, m, pf, n, fvs, T0, rfl, _⟩ := h
    rfl
  obtain ⟨r, e, m, pf, n, fvs, T0, rfl, h⟩ := h
  refine ⟨_, (pss_cons (ps_set (i := 3) scOwn.nd rfl (Or.inr rfl) (pe_callTy call_dictD rfl T.b_dict (by kernel_rfl) ((pa_cons (pv 1) pa_nil))))
    (pss_cons (ps_set (i := 4) scOwn.nd rfl (Or.inl rfl) (pe_callTy (call_tupleK (K := K) rfl) rfl T.b_tuple (by kernel_rfl) ((pa_cons (pe_comp (N := ["_law_at"]) (Blk.plain (by decide +kernel) (by decide +kernel) rfl (by decide +kernel) nd__law_at) rfl (pi_range1 rfl T.b_range ((pa_cons (pe_fldK (K := K) rfl (pv 0) rfl) pa_nil))) (fun C0 s0 H0 fp0 => pg_one (i := 0) nd__law_at rfl rfl) (fun C0 s0 H0 fp0 => pts_nil) (fun C0 s0 H0 fp0 => pe_int)) pa_nil))))
    (pss_cons (ps_for PassesOwn.never rfl (pi_listK (K := K) rfl (pe_c c_Wa hr pass00 .nil ((pa_cons (pv 0) (pa_cons (pv 1) (pa_cons (pv 2) pa_nil)))))) (pg_name (i := 5) scOwn.nd rfl (Or.inl rfl)) (pss_cons (ps_if (pt_cmpR (op_neDT hr.units) (pv 5) (pv 3) (nomark _)) (pss_one (ps_ret (pe_bl))) pss_nil)
    (pss_cons (ps_expr (pe_dclear (pv 5)))
    (pss_cons (ps_dput (uOne hr) (pv 5) (pv 4) (pe_c c_LMd hr pass00 .nil ((pa_cons (pe_int) (pa_cons (pe_int) (pa_cons (pv 2) pa_nil))))) rfl)
    (pss_one (ps_if (pt_cmpR (op_neDT hr.units) (pv 1) (pv 3) (nomark _)) (pss_one (ps_ret (pe_bl))) pss_nil))))))
    (pss_one (ps_ret (pe_callB (call_allK (K := K) rfl rfl) rfl T.b_all (by kernel_rfl) ((pa_cons (pe_comp (N := ["_law_found", "_law_kept"]) (cl := [("_law_kept", s.heap.objs.size + 1)]) (mp := [none, some 3]) (Blk.of rfl (by decide +kernel) rfl (by decide +kernel) nd__law_found__law_kept (subc_cons rfl subc_nil) (fr_of (fs := ["_law_kept"]) rfl (by decide +kernel)) rfl (mapc_none (mapc_some rfl (.inl rfl) rfl mapc_nil))) rfl (pi_listK (K := K) rfl (pe_c c_Wa hr pass00 .nil ((pa_cons (pv 0) (pa_cons (pv 1) (pa_cons (pv 2) pa_nil)))))) (fun C0 s0 H0 fp0 => pg_one (i := 0) nd__law_found__law_kept rfl rfl) (fun C0 s0 H0 fp0 => pts_nil) (fun C0 s0 H0 fp0 => pe_cmpR (op_eqDTK (K := K) rfl hr.units) (pv 0) (pv 1) (nomark _))) pa_nil)))))))), ?_⟩
  obtain ⟨hR, he, pT, bT, dr, l8, k⟩ := h
  have n2 := hR.np
  have m1 := hR.m1
  have m4 := hR.m4
  obtain ⟨po, dx, hr0⟩ := hR.at_
  have hds := PD.hds pT m1 m4 dr
  have sl : 1000 < sizeLine := by rw [sizeLine_eq]; decide
  refine ⟨_, rfl, e, fvs, rfl, he, hds, fun kp nkp => ?_⟩
  have g1 : Same H (upd H kp (.dT fvs)) := Same.upd nkp
  have hk1 : (upd H kp (HO.dT fvs)) kp = some (.dT fvs) := upd_same
  generalize upd H kp (HO.dT fvs) = H1 at g1 hk1
  show tComp _ _ _ _ _ _ _ _
  refine walk_comp (J := Itr 0 m) (H1 := H1) (walk_range 0 m) (by omega) ?_ (fun σ => ∃ v, σ = [v]) (fun _ => true) (fun _ => .int 7) ⟨none, rfl⟩ ?_ fun D0 H2 g2 hL => ?_
  · exact fun R hR => ⟨_, rfl, r, C_Ring, dx, _, _, rfl, g1 _ _ hr0, T.cl_Ring, T.na_Ring_many, rfl, (m : Int), rfl, by omega, by omega, hR⟩
  · rintro i x σ' H2 hi ⟨z, rfl⟩ e2 rfl Ny Nn hy hn
    unfold gName tYes
    dsimp only
    rw [if_pos rfl]
    exact hy _ _ ⟨_, rfl⟩ (Same.refl _) rfl
  rw [List.filter_eq_self.mpr (fun _ _ => rfl)] at hL
  have eL : (List.range m).map (fun _ => V.int 7) = (List.replicate m 7).map V.int := by
    refine List.ext_getElem (by simp) fun i h1 h2 => by simp
  rw [eL] at hL
  refine ⟨D0, _, rfl, .inl ⟨SqL.of hL, fun ft nft => ?_⟩⟩
  have g3 : Same H1 (upd H2 ft (.tup ((List.replicate m 7).map V.int))) := g2.updR (g2.free nft)
  have hft : (upd H2 ft (HO.tup ((List.replicate m 7).map V.int))) ft = some (.tup ((List.replicate m 7).map V.int)) := upd_same
  generalize upd H2 ft (HO.tup ((List.replicate m 7).map V.int)) = H3 at g3 hft
  have gg3 := g1.trans g3
  refine ⟨_, rfl, _, rfl, _, rfl, r, e, m, pf, n, fvs, T0, rfl, hR.same gg3, gg3 _ _ he, pT.same gg3, bT, dr, l8, fun l H4 ds nl g4 hl ll ndd hd => ⟨l, rfl, ⟨_, SqL.of hl⟩, ?_⟩⟩
  have gg4 := gg3.trans g4
  have he4 := gg4 _ _ he
  have hk4 := g4 _ _ (g3 _ _ hk1)
  have hft4 := g4 _ _ hft
  have lm : (ds.map V.ref).length = ds.length := List.length_map _
  have nin : ∀ b o, H3 b = some o → b ∉ ds := fun b o hb z => by rw [(hd b z).1] at hb; cases hb
  have ntin : ∀ b o, H4 b = some o → (∀ kv, o ≠ .dT kv) → b ∉ ds := fun b o hb nt z => by
    obtain ⟨_, _, kv, h, _⟩ := hd b z
    rw [hb] at h; injection h with h; exact nt kv h
  refine for_list (xs := ds.map V.ref) (fun i σ H' => i ≤ ds.length ∧ (∃ v5, σ = [some (.ref r), some (.ref e), some (.int n), some (.ref kp), some (.ref ft), v5]) ∧ ∀ b ob, H4 b = some ob → b ∉ ds.take i → H' b = some ob) ?_ (fun i σ H' _ h => SqL.of (h.2.2 _ _ hl fun z => (hd _ (List.mem_of_mem_take z)).2.1 rfl)) ?_ ?_
  · exact ⟨Nat.zero_le _, ⟨none, rfl⟩, fun b ob hb _ => hb⟩
  · rintro i x σ H5 hx ⟨hi, ⟨v5, rfl⟩, k5⟩
    obtain ⟨d, hdi, rfl⟩ := map_ref_at hx
    have hi' := lt_of_get hdi
    obtain ⟨ndH, _, kv, hdk, pdk⟩ := hd d (List.mem_of_getElem? hdi)
    have kt5 : ∀ b xs, H4 b = some (.tup xs) → H5 b = some (.tup xs) := fun b xs hb => k5 _ _ hb fun z => ntin _ _ hb (by intro _ q; cases q) (List.mem_of_mem_take z)
    have hd5 : H5 d = some (.dT kv) := k5 _ _ hdk (nd_take ndd hdi)
    have hk5 : H5 kp = some (.dT fvs) := k5 _ _ hk4 fun z => nin _ _ (g3 _ _ hk1) (List.mem_of_mem_take z)
    have he5 : H5 e = some (.dT fvs) := k5 _ _ he4 fun z => nin _ _ (gg3 _ _ he) (List.mem_of_mem_take z)
    have kpd : kp ≠ d := fun z => nin _ _ (g3 _ _ hk1) (z ▸ List.mem_of_getElem? hdi)
    have ed : e ≠ d := fun z => nin _ _ (gg3 _ _ he) (z ▸ List.mem_of_getElem? hdi)
    have pf5 : PD n m H5 fvs T0 (dM n) := (pT.same gg4).keep kt5
    obtain ⟨da, db, q1, q2, q3, q4, q5⟩ := pd_same n2 (K := K) (pdk.keep kt5) pf5
    unfold gName
    dsimp only
    refine ⟨_, rfl, _, rfl, d, kp, kv, fvs, da, db, rfl, rfl, .inl hd5, .inl hk5, q1, q2, q3, q4, _, rfl, ?_⟩
    rw [q5]
    refine iteF ?_
    unfold tNext
    dsimp only
    refine ⟨_, rfl, .inr (.inr (.inl ⟨rfl, .inr ⟨_, hd5⟩⟩)), d, kv, rfl, rfl, hd5, ?_⟩
    have kt6 : ∀ b xs, H5 b = some (.tup xs) → (upd H5 d (.dT [])) b = some (.tup xs) := fun b xs hb => (upd_ne (ne_of hb hd5 (by intro z; cases z))).trans hb
    have hd6 : (upd H5 d (HO.dT [])) d = some (.dT []) := upd_same
    have k6 : ∀ b ob, H5 b = some ob → b ≠ d → (upd H5 d (HO.dT [])) b = some ob := fun b ob hb bd => (upd_ne bd).trans hb
    generalize upd H5 d (HO.dT []) = H6 at kt6 hd6 k6
    refine ⟨_, rfl, 1, 1, n, rfl, n2, by decide, by decide, by decide, fun v H7 g7 iv => ?_⟩
    have hd7 := g7 _ _ hd6
    refine ⟨_, rfl, _, rfl, d, _, rfl, DPut.t (k := ky (List.replicate m 7)) hd7 (by rw [ky_kV]; exact g7 _ _ (kt6 _ _ (kt5 _ _ hft4))) (by show 0 < sizeLine; omega), ?_⟩
    have kt8 : ∀ b xs, H7 b = some (.tup xs) → (upd H7 d (.dT (putK [] (ky (List.replicate m 7)) v))) b = some (.tup xs) := fun b xs hb => (upd_ne (ne_of hb hd7 (by intro z; cases z))).trans hb
    have k8 : ∀ b ob, H5 b = some ob → b ≠ d → (upd H7 d (HO.dT (putK [] (ky (List.replicate m 7)) v))) b = some ob := fun b ob hb bd => (upd_ne bd).trans (g7 _ _ (k6 _ _ hb bd))
    generalize upd H7 d (HO.dT (putK [] (ky (List.replicate m 7)) v)) = H8 at kt8 k8
    have pf8 : PD n m H8 fvs T0 (dM n) := ((pf5.keep kt6).same g7).keep kt8
    obtain ⟨da', db', r1, r2, r3, r4, r5⟩ := pd_same n2 (K := K) pf8 pf8
    refine ⟨_, rfl, _, rfl, e, kp, fvs, fvs, da', db', rfl, rfl, .inl (k8 _ _ he5 ed), .inl (k8 _ _ hk5 kpd), r1, r2, r3, r4, _, rfl, ?_⟩
    rw [r5]
    refine iteF ?_
    refine ⟨hi', ⟨_, rfl⟩, fun b ob hb bd => k8 _ _ (k5 _ _ hb fun z => bd ?_) fun z => bd ?_⟩
    · rw [take_snoc hdi, List.mem_append]; exact .inl z
    · rw [take_snoc hdi, List.mem_append, z]; exact .inr (by simp)
  · rintro σ H5 ⟨_, ⟨v5, rfl⟩, k5⟩
    rw [lm, List.take_length] at k5
    have gg5 : Same H H5 := fun b o hb => k5 _ _ (gg4 _ _ hb) (nin _ _ (gg3 _ _ hb))
    have hk5 : H5 kp = some (.dT fvs) := k5 _ _ hk4 (nin _ _ (g3 _ _ hk1))
    show tComp _ _ _ _ _ _ _ _
    refine tComp_eq ?_
    refine ⟨_, rfl, _, rfl, _, rfl, r, e, m, pf, n, fvs, T0, rfl, hR.same gg5, gg5 _ _ he, pT.same gg5, bT, dr, l8, fun l' H6 ds' nl' g6 hl' ll' ndd' hd' => ⟨l', rfl, ⟨_, SqL.of hl'⟩, fun DD nDD => ?_⟩⟩
    have W := walk_list (K := K) (SqL.of (K := K) hl')
    rw [List.length_map] at W
    refine cgo_vals W nDD (by omega) (fun σ => ∃ v, σ = [v, some (.ref kp)]) (fun _ => true) (fun _ => .bl true) ⟨none, rfl⟩ ?_ fun H7 e7 hL => ?_
    · rintro i x σ' H7 hi ⟨z, rfl⟩ e7 hx Ny Nn hy hn
      obtain ⟨d, hdi, rfl⟩ := map_ref_at hx
      obtain ⟨_, _, kv, hdk, pdk⟩ := hd' d (List.mem_of_getElem? hdi)
      obtain ⟨da, db, q1, q2, q3, q4, q5⟩ := pd_same n2 (K := K) (pdk.same e7) ((pT.same (gg5.trans g6)).same e7)
      unfold gName tYes
      dsimp only
      rw [if_pos rfl]
      refine ⟨_, rfl, _, rfl, d, kp, kv, fvs, da, db, rfl, rfl, .inl (e7 _ _ hdk), .inl (e7 _ _ (g6 _ _ hk5)), q1, q2, q3, q4, ?_⟩
      rw [q5]
      exact hy _ _ ⟨_, rfl⟩ (Same.refl _) rfl
    rw [List.filter_eq_self.mpr (fun _ _ => rfl)] at hL
    have eb : (List.range ds'.length).map (fun _ => V.bl true) = (List.replicate ds'.length true).map V.bl := by
      refine List.ext_getElem (by simp) fun i h1 h2 => by simp
    rw [eb] at hL
    refine ⟨DD, _, rfl, SqL.of hL, ?_⟩
    have al : (List.replicate ds'.length true).all id = true := by simp
    rw [al]
    exact k _ ((gg5.trans g6).trans e7)
end
end K10
namespace K10
open PySem L2
open K1 K2 K3 K6 K8
section
variable {P : Program} {w : World} {K : PySem.W.Frag} {mg : Str → Option Value} {base : Heap} {f : Addr} {fd : FuncData} {C_Ring C_Fractions C_Rests C_Order C_Degrees C_Tails : Addr} {E_NoPrime E_NoRing : Addr}
local macro_rules | `(tactic| walk_at "sd") => `(tactic| first
  | assumption | (dsimp only; omega) | (dsimp only; decide) | exact ⟨by decide, by decide⟩ | exact ⟨by decide, by decide, by decide⟩ | exact Or.inl ⟨by decide, by decide⟩ | exact ⟨by omega, by omega⟩ | exact Or.inl ⟨by omega, by omega⟩ | exact Or.inr ⟨by decide, by decide⟩ | exact Or.inr ⟨by omega, by omega⟩)
local macro_rules | `(tactic| walk_at "rd") => `(tactic| repeat first
  | refine ⟨_, rfl, ?_⟩ | refine ⟨_, _, rfl, rfl, ?_⟩ | refine And.intro rfl ?_ | refine And.intro (by walk_at "sd") ?_ | with_reducible refine iteT ?_ | with_reducible refine iteF ?_ | (apply ixT_of; assumption; rfl))
local macro_rules | `(tactic| walk_at "clo") => `(tactic| exact h)

theorem scEight : FnScope ["_law_ring", "_law_cells", "_law_prime_here", "_law_many", "_law_f", "_law_g", "_law_held", "_law_number", "_law_term_here", "_law_added", "_law_less", "_law_multiplied", "_law_long", "_law_found", "_law_alone"] ["_law_ring", "_law_cells", "_law_prime_here"] (defScope s__law_eight) := ⟨rfl, rfl, rfl, by decide +kernel, rfl, by decide +kernel, by decide +kernel⟩
set_option maxHeartbeats 4000000 in
theorem ok_Eight  (F : FunD K "_law_eight" "_law_eight" s__law_eight .none f fd) (T : Txt K mg C_Ring C_Fractions C_Rests C_Order C_Degrees C_Tails) (c_LPoly : Cal P w K mg base CX0 3 "_law_poly" ["_law_cells", "_law_many", "_law_prime_here"] [] (spPoly K)) (c_LMd : Cal P w K mg base CX0 2 "_law_made" ["_law_top", "_law_bottom", "_law_prime_here"] [] spMd) (c_Trm : Cal P w K mg base CX0 2 "_law_term" ["_law_cell_here", "_law_many"] [] spTerm) (c_Plus : Cal P w K mg base CX0 5 "plus" ["ring", "f", "g"] [] (spPlus C_Ring C_Fractions C_Rests)) (c_Minus : Cal P w K mg base CX0 6 "minus" ["ring", "f", "g"] [] (spMinus C_Ring C_Fractions C_Rests)) (c_Times : Cal P w K mg base CX0 6 "times" ["ring", "f", "g"] [] (spTimes C_Ring C_Fractions C_Rests)) (c_Scal : Cal P w K mg base CX0 4 "scaled" ["ring", "number", "term", "f"] [] (spScal C_Ring C_Fractions C_Rests)) (c_Kinds : Cal P w K mg base CX0 3 "_law_kinds" ["_law_found", "_law_many", "_law_prime_here"] [] spKinds) (c_ISum : Cal P w K mg base CX0 4 "_law_is_sum" ["_law_found", "_law_f", "_law_g", "_law_sign", "_law_prime_here"] [] spSum) (c_IPr : Cal P w K mg base CX0 4 "_law_is_product" ["_law_found", "_law_f", "_law_g", "_law_prime_here"] [] spIPr) (c_Own : Cal P w K mg base CX0 8 "_law_own" ["_law_ring", "_law_f", "_law_prime_here"] [] (spOwn K C_Ring C_Fractions C_Rests))  : FnOk P w K mg base CX0 9 f fd ["_law_ring", "_law_cells", "_law_prime_here"] (spEight K C_Ring C_Fractions C_Rests) := by
  refine F.okN (k := 8) scEight (fun vs H Q E h => ?_) (fun cdv A outer s H vs Q E hr h => ?_)
  · obtain ⟨r, l, m, pf, n, cs, rfl, _⟩ := h
    rfl
  obtain ⟨r, l, m, pf, n, cs, rfl, h⟩ := h
  refine ⟨_, (pss_cons (ps_set (i := 3) scEight.nd rfl (Or.inl rfl) (pe_fldK (K := K) rfl (pv 0) rfl))
    (pss_cons (ps_set (i := 4) scEight.nd rfl (Or.inl rfl) (pe_c c_LPoly hr pass00 .nil ((pa_cons (pe_slice (sl_listK (K := K) rfl) (pv 1) po_none (po_some (pe_int))) (pa_cons (pv 3) (pa_cons (pv 2) pa_nil))))))
    (pss_cons (ps_set (i := 5) scEight.nd rfl (Or.inl rfl) (pe_c c_LPoly hr pass00 .nil ((pa_cons (pe_slice (sl_listK (K := K) rfl) (pv 1) (po_some (pe_int)) po_none) (pa_cons (pv 3) (pa_cons (pv 2) pa_nil))))))
    (pss_cons (ps_set (i := 6) scEight.nd rfl (Or.inl rfl) (pe_tup ((pa_cons (pe_callTy call_dictD rfl T.b_dict (by kernel_rfl) ((pa_cons (pv 4) pa_nil))) (pa_cons (pe_callTy call_dictD rfl T.b_dict (by kernel_rfl) ((pa_cons (pv 5) pa_nil))) pa_nil)))))
    (pss_cons (ps_set (i := 7) scEight.nd rfl (Or.inl rfl) (pe_c c_LMd hr pass00 .nil ((pa_cons (pe_op op_sub (pe_op op_mod (pe_ix (r := rIxL K) ix_list (pv 1) (pe_un un_neg pe_int) (fun _ _ => rfl)) (pe_op op_add (pe_op op_mul (pe_int) (pe_op op_pow (pe_int) (pe_int))) (pe_int))) (pe_op op_pow (pe_int) (pe_int))) (pa_cons (pe_op op_add (pe_int) (pe_op op_mod (pe_op op_fdiv (pe_ix (r := rIxL K) ix_list (pv 1) (pe_int) (fun _ _ => rfl)) (pe_int)) (pe_int))) (pa_cons (pv 2) pa_nil))))))
    (pss_cons (ps_if (pt_cmpR op_eq (pe_op op_mod (pe_op op_fdiv (pe_ix (r := rIxL K) ix_list (pv 1) (pe_int) (fun _ _ => rfl)) (pe_int)) (pe_int)) (pe_int) (nomark _)) (pss_one (ps_set (i := 7) scEight.nd rfl (Or.inl rfl) (pe_c c_LMd hr pass00 .nil ((pa_cons (pe_int) (pa_cons (pe_int) (pa_cons (pv 2) pa_nil))))))) pss_nil)
    (pss_cons (ps_set (i := 8) scEight.nd rfl (Or.inl rfl) (pe_c c_Trm hr pass00 .nil ((pa_cons (pe_op op_fdiv (pe_ix (r := rIxL K) ix_list (pv 1) (pe_int) (fun _ _ => rfl)) (pe_int)) (pa_cons (pv 3) pa_nil)))))
    (pss_cons (ps_set (i := 9) scEight.nd rfl (Or.inl rfl) (pe_c c_Plus hr pass00 .nil ((pa_cons (pv 0) (pa_cons (pv 4) (pa_cons (pv 5) pa_nil))))))
    (pss_cons (ps_set (i := 10) scEight.nd rfl (Or.inl rfl) (pe_c c_Minus hr pass00 .nil ((pa_cons (pv 0) (pa_cons (pv 4) (pa_cons (pv 5) pa_nil))))))
    (pss_cons (ps_set (i := 11) scEight.nd rfl (Or.inl rfl) (pe_c c_Times hr pass00 .nil ((pa_cons (pv 0) (pa_cons (pv 4) (pa_cons (pv 5) pa_nil))))))
    (pss_cons (ps_set (i := 12) scEight.nd rfl (Or.inl rfl) (pe_c c_Scal hr pass00 .nil ((pa_cons (pv 0) (pa_cons (pv 7) (pa_cons (pv 8) (pa_cons (pv 4) pa_nil)))))))
    (pss_cons (ps_for PassesOwn.never rfl (pi_tupK (K := K) rfl (pe_tup ((pa_cons (pv 9) (pa_cons (pv 10) (pa_cons (pv 11) (pa_cons (pv 12) pa_nil))))))) (pg_name (i := 13) scEight.nd rfl (Or.inl rfl)) (pss_one (ps_if (pt_not (pt_val (pe_c c_Kinds hr pass00 .nil ((pa_cons (pv 13) (pa_cons (pv 3) (pa_cons (pv 2) pa_nil))))))) (pss_one (ps_ret (pe_bl))) pss_nil)))
    (pss_cons (ps_if (PW.pt (pw_or (pt_not (pt_val (pe_c c_ISum hr pass00 .nil ((pa_cons (pv 9) (pa_cons (pv 4) (pa_cons (pv 5) (pa_cons (pe_int) (pa_cons (pv 2) pa_nil))))))))) (pw_or1 (pt_not (pt_val (pe_c c_ISum hr pass00 .nil ((pa_cons (pv 10) (pa_cons (pv 4) (pa_cons (pv 5) (pa_cons (pe_un un_neg pe_int) (pa_cons (pv 2) pa_nil)))))))))))) (pss_one (ps_ret (pe_bl))) pss_nil)
    (pss_cons (ps_if (pt_not (pt_val (pe_c c_IPr hr pass00 .nil ((pa_cons (pv 11) (pa_cons (pv 4) (pa_cons (pv 5) (pa_cons (pv 2) pa_nil)))))))) (pss_one (ps_ret (pe_bl))) pss_nil)
    (pss_cons (ps_set (i := 14) scEight.nd rfl (Or.inl rfl) (pe_dnewT))
    (pss_cons (ps_if (pt_cmpR (op_neD hr.units) (pv 7) (pe_c c_LMd hr pass00 .nil ((pa_cons (pe_int) (pa_cons (pe_int) (pa_cons (pv 2) pa_nil))))) (nomark _)) (pss_one (ps_dput (uOne hr) (pv 14) (pv 8) (pv 7) rfl)) pss_nil)
    (pss_cons (ps_if (PW.pt (pw_or (pt_not (pt_val (pe_c c_IPr hr pass00 .nil ((pa_cons (pv 12) (pa_cons (pv 14) (pa_cons (pv 4) (pa_cons (pv 2) pa_nil)))))))) (pw_or1 (pt_cmpR (op_neTD (uTD hr)) (pe_tup ((pa_cons (pv 4) (pa_cons (pv 5) pa_nil)))) (pv 6) (nomark _))))) (pss_one (ps_ret (pe_bl))) pss_nil)
    (pss_one (ps_ret (pe_c c_Own hr pass00 .nil ((pa_cons (pv 0) (pa_cons (pv 4) (pa_cons (pv 2) pa_nil)))))))))))))))))))))))), ?_⟩
  obtain ⟨hR, hS, l0, l8, k⟩ := h
  have n2 := hR.np
  have n1 := hR.nb
  have m1 := hR.m1
  have m4 := hR.m4
  have nzd := dM_nz n2
  obtain ⟨po, dx, hr0⟩ := hR.at_
  have sl : 1000 < sizeLine := by rw [sizeLine_eq]; decide
  obtain ⟨x0, hx0⟩ := at_int l0
  obtain ⟨xl, hxl⟩ := at_intL l0
  refine ⟨_, rfl, r, C_Ring, dx, _, _, rfl, hr0, T.cl_Ring, T.na_Ring_many, rfl, ?_⟩
  obtain ⟨cs1, ec1, lc1⟩ := cut_map cs none (some 4)
  refine ⟨_, rfl, 4, rfl, l, _, rfl, hS, fun l1 hl1 => ?_⟩
  rw [ec1]
  have e9 : Same H (upd H l1 (.lst (cs1.map V.int))) := Same.upd hl1
  refine ⟨_, rfl, _, rfl, l1, m, n, cs1, rfl, n2, n1, m4, SqL.of upd_same, by omega, fun df HA fvs Tf ndf eA hdf pdf bf drf lf => ?_⟩
  have gA : Same H HA := e9.trans eA
  have nfH : H df = none := e9.free ndf
  clear e9 eA
  obtain ⟨cs2, ec2, lc2⟩ := cut_map cs (some 4) none
  refine ⟨_, rfl, 4, rfl, l, _, rfl, gA.seq hS, fun l2 hl2 => ?_⟩
  rw [ec2]
  have e9 : Same HA (upd HA l2 (.lst (cs2.map V.int))) := Same.upd hl2
  refine ⟨_, rfl, _, rfl, l2, m, n, cs2, rfl, n2, n1, m4, SqL.of upd_same, by omega, fun dg HB gvs Tg ndg eB hdg pdg bg drg lg => ?_⟩
  have gB : Same HA HB := e9.trans eB
  have fg : df ≠ dg := ne_sn (e9 _ _ hdf) ndg
  clear e9 eB
  have hdfB := gB _ _ hdf
  have pdfB := pdf.same gB
  have hf8 : fvs.length ≤ 8 := by omega
  have hg8 : gvs.length ≤ 8 := by omega
  have hdsf := PD.hds pdf m1 m4 drf
  have hdsg := PD.hds pdg m1 m4 drg
  refine ⟨_, rfl, df, fvs, rfl, hdfB, hdsf, fun hf nhf => ?_⟩
  have eC : Same HB (upd HB hf (.dT fvs)) := Same.upd nhf
  have hhf : (upd HB hf (HO.dT fvs)) hf = some (.dT fvs) := upd_same
  generalize upd HB hf (HO.dT fvs) = HC at eC hhf
  refine ⟨_, rfl, dg, gvs, rfl, eC _ _ hdg, hdsg, fun hg nhg => ?_⟩
  have eD : Same HC (upd HC hg (.dT gvs)) := Same.upd nhg
  have hhg : (upd HC hg (HO.dT gvs)) hg = some (.dT gvs) := upd_same
  generalize upd HC hg (HO.dT gvs) = HD at eD hhg
  refine ⟨(by show 2 ≤ sizeLine; omega), fun ht nht => ?_⟩
  have eE : Same HD (upd HD ht (.tup [.ref hf, .ref hg])) := Same.upd nht
  have hht : (upd HD ht (HO.tup [.ref hf, .ref hg])) ht = some (.tup [.ref hf, .ref hg]) := upd_same
  generalize upd HD ht (HO.tup [.ref hf, .ref hg]) = HE at eE hht
  have gBE := (eC.trans eD).trans eE
  have gE := (gA.trans gB).trans gBE
  have hSE := gE.seq hS
  walk_at "rd"
  refine ⟨l, _, -1, _, rfl, rfl, hSE, hxl, ?_⟩
  walk_at "rd"
  refine ⟨l, _, 0, _, rfl, rfl, hSE, hx0, ?_⟩
  walk_at "rd"
  have e6 : (10 : Int) ^ (Int.toNat 10) = 10000000000 := by decide
  have tb : (xl % (2 * 10 ^ (Int.toNat 10) + 1) - 10 ^ (Int.toNat 10)).natAbs ≤ 10000000000 := by rw [e6]; omega
  refine ⟨_, _, n, rfl, n2, ?_, ?_, ?_, fun v0 HF eF iv => ?_⟩
  · show 1 ≤ 1 + x0 / 3 % 7; omega
  · exact Nat.lt_of_le_of_lt tb (by decide)
  · show (1 + x0 / 3 % 7).natAbs < 2 ^ 400
    exact Nat.lt_of_le_of_lt (show _ ≤ 9 by omega) (by decide)
  obtain ⟨a0, ia0, _, ba0⟩ := madeM n2 (by show 1 ≤ 1 + x0 / 3 % 7; omega) (by show 1 + x0 / 3 % 7 ≤ 9; omega) tb iv
  dsimp only
  refine seq_mid (fun σ' H' => Same HF H' ∧ ∃ v a, σ' = [some (.ref r), some (.ref l), some (.int n), some (.int m), some (.ref df), some (.ref dg), some (.ref ht), some v, none, none, none, none, none, none, none] ∧ Is n H' v a (dM n) ∧ (n = 0 → a.natAbs < 2 ^ 46)) ?_ ?_
  rotate_left
  · intro N hN
    refine ⟨_, rfl, l, _, 0, _, rfl, rfl, eF.seq hSE, hx0, ?_⟩
    walk_at "rd"
    refine cEq (fun _ => ?_) (fun _ => ?_)
    · refine ⟨_, rfl, 0, 1, n, rfl, n2, by decide, by decide, by decide, fun v1 HG eG i1 => ?_⟩
      rw [dB_one] at i1
      exact hN _ _ ⟨eG, v1, 0, rfl, Is.cross n2 (nz_one n2) i1 (eqn.of_eq (by rw [Int.zero_mul, Int.zero_mul])), fun _ => by decide⟩
    · exact hN _ _ ⟨Same.refl _, v0, a0, rfl, ia0, ba0⟩
  rintro σ0 HG ⟨eG, vn, an, rfl, ian, ban⟩
  have gG := (gE.trans eF).trans eG
  have gBG := (gBE.trans eF).trans eG
  refine ⟨_, rfl, l, _, 0, _, rfl, rfl, gG.seq hS, hx0, ?_⟩
  walk_at "rd"
  refine ⟨x0 / 5, m, rfl, m4, fun tt HH ntt eH htt => ?_⟩
  have okt := trm_ok (x0 / 5) m
  generalize trm (x0 / 5) m = tl at htt okt
  have gH := gG.trans eH
  have gBH := gBG.trans eH
  have hdfH := gBH _ _ hdfB
  have hdgH := gBH _ _ hdg
  have pfH := pdfB.same gBH
  have pgH := pdg.same gBH
  have bf4 : Bdd n Tf 400 := bdd_up bf (by decide)
  have bg4 : Bdd n Tg 400 := bdd_up bg (by decide)
  have bd4 : n = 0 → (dM n).natAbs < 2 ^ 400 := fun _ => up (dM_b n) (by decide)
  have bd1 : n = 0 → (dM n).natAbs < 2 ^ 100 := fun _ => up (dM_b n) (by decide)
  refine ⟨_, rfl, _, rfl, _, rfl, r, df, dg, m, pf, n, fvs, gvs, Tf, Tg, dM n, rfl, hR.same gH, hdfH, hdgH, pfH, pgH, hdsf, by omega, bf4, bg4, bd4, fun d1 HI k1 nd1 eI hd1 pd1 lk1 => ?_⟩
  have gI := gH.trans eI
  refine ⟨_, rfl, _, rfl, _, rfl, r, df, dg, m, pf, n, fvs, gvs, Tf, Tg, dM n, rfl, hR.same gI, eI _ _ hdfH, eI _ _ hdgH, pfH.same eI, pgH.same eI, hdsf, by omega, bf4, bg4, bd4, fun d2 HJ k2 nd2 eJ hd2 pd2 lk2 => ?_⟩
  have gJ := gI.trans eJ
  have eHJ := eI.trans eJ
  refine ⟨_, rfl, _, rfl, _, rfl, r, df, dg, m, pf, n, fvs, gvs, Tf, dM n, Tg, dM n, rfl, hR.same gJ, fg, eHJ _ _ hdfH, eHJ _ _ hdgH, pfH.same eHJ, pgH.same eHJ, by omega, by omega, bdd_up bf (by decide), bdd_up bg (by decide), bd1, bd1, fun d3 HK k3 nd3 eK hd3 pd3 lk3 => ?_⟩
  have gK := gJ.trans eK
  have eHK := eHJ.trans eK
  have ianK := ian.same (eH.trans eHK)
  refine ⟨_, rfl, _, rfl, _, rfl, _, rfl, r, vn, tt, df, m, pf, n, fvs, an, dM n, tl, Tf, dM n, rfl, hR.same gK, ianK, nzd, fun z => ⟨up (ban z) (by decide), bd4 z⟩, eHK _ _ htt, okt, eHK _ _ hdfH, pfH.same eHK, bf4, bd4, by omega, fun d4 HL k4 nd4 eL hd4 pd4 lk4 => ?_⟩
  have gL := gK.trans eL
  have eHL := eHK.trans eL
  have hd1L := ((eJ.trans eK).trans eL) _ _ hd1
  have pd1L := pd1.same ((eJ.trans eK).trans eL)
  have hd2L := (eK.trans eL) _ _ hd2
  have pd2L := pd2.same (eK.trans eL)
  have hd3L := eL _ _ hd3
  have pd3L := pd3.same eL
  have ir : ∀ (b : Addr) (o : HO), HH b = some o → d1 ≠ b ∧ d2 ≠ b ∧ d3 ≠ b ∧ d4 ≠ b := fun b o hb => ⟨Ne.symm (ne_sn hb nd1), Ne.symm (ne_sn (eI _ _ hb) nd2), Ne.symm (ne_sn (eHJ _ _ hb) nd3), Ne.symm (ne_sn (eHK _ _ hb) nd4)⟩
  have b5f : Bdd n Tf 50 := bdd_up bf (by decide)
  have b5g : Bdd n Tg 50 := bdd_up bg (by decide)
  have bd2 : n = 0 → (dM n).natAbs < 2 ^ 12 := fun _ => dM_b n
  have any4 : ∀ (i : Nat) (x : V), [V.ref d1, V.ref d2, V.ref d3, V.ref d4][i]? = some x → ∃ d kv T D, x = .ref d ∧ HL d = some (.dT kv) ∧ PD n m HL kv T D := fun i x hx => by
    rcases (by have := lt_of_get hx; simp at this; omega : i = 0 ∨ i = 1 ∨ i = 2 ∨ i = 3) with z | z | z | z <;> subst z <;> simp at hx <;> subst hx
    · exact ⟨d1, k1, _, _, rfl, hd1L, pd1L⟩
    · exact ⟨d2, k2, _, _, rfl, hd2L, pd2L⟩
    · exact ⟨d3, k3, _, _, rfl, hd3L, pd3L⟩
    · exact ⟨d4, k4, _, _, rfl, hd4, pd4⟩
  dsimp only
  refine seq_mid (fun σ' H' => Same HL H' ∧ ∃ v13, σ' = [some (.ref r), some (.ref l), some (.int n), some (.int m), some (.ref df), some (.ref dg), some (.ref ht), some vn, some (.ref tt), some (.ref d1), some (.ref d2), some (.ref d3), some (.ref d4), v13, none]) ?_ ?_
  rotate_left
  · intro N hN
    refine ⟨_, rfl, _, rfl, _, rfl, _, rfl, (by show 4 ≤ sizeLine; omega), fun tq ntq => ⟨tq, rfl, ⟨_, SqT.of upd_same⟩, ?_⟩⟩
    have eQ : Same HL (upd HL tq (.tup [.ref d1, .ref d2, .ref d3, .ref d4])) := Same.upd ntq
    have hq : (upd HL tq (HO.tup [.ref d1, .ref d2, .ref d3, .ref d4])) tq = some (.tup [.ref d1, .ref d2, .ref d3, .ref d4]) := upd_same
    generalize upd HL tq (HO.tup [.ref d1, .ref d2, .ref d3, .ref d4]) = HQ at eQ hq
    refine for_same (walk_tup (K := K) (SqT.of (K := K) hq)) (fun i σ => ∃ v13, σ = [some (.ref r), some (.ref l), some (.int n), some (.int m), some (.ref df), some (.ref dg), some (.ref ht), some vn, some (.ref tt), some (.ref d1), some (.ref d2), some (.ref d3), some (.ref d4), v13, none]) ⟨_, rfl⟩ ?_ ?_
    · rintro i x σ H' hi ⟨v13, rfl⟩ g' hx
      obtain ⟨d, kv, T1, D1, rfl, hd', pd'⟩ := any4 i x hx
      have gg := eQ.trans g'
      refine ⟨_, rfl, _, rfl, _, rfl, d, m, n, kv, T1, D1, rfl, n2, gg _ _ hd', pd'.same gg, fun H2 g2 => ⟨_, rfl, iteF ?_⟩⟩
      exact ⟨⟨_, rfl⟩, g'.trans g2⟩
    · rintro σ H' ⟨v13, rfl⟩ g'
      exact hN _ _ ⟨eQ.trans g', v13, rfl⟩
  rintro σ1 HM ⟨eM, v13, rfl⟩
  have gM := gL.trans eM
  have eHM := eHL.trans eM
  have hdfM := eHM _ _ hdfH
  have hdgM := eHM _ _ hdgH
  have pfM := pfH.same eHM
  have pgM := pgH.same eHM
  have c1 : PD n m HM k1 (fun t => Tf t + 1 * Tg t) (dM n) := by
    have : (fun t => Tf t + 1 * Tg t) = fun k => Tf k + Tg k := funext fun t => by rw [Int.one_mul]
    rw [this]; exact pd1L.same eM
  have c2 : PD n m HM k2 (fun t => Tf t + -1 * Tg t) (dM n) := by
    have : (fun t => Tf t + -1 * Tg t) = fun k => Tf k + - Tg k := funext fun t => by omega
    rw [this]; exact pd2L.same eM
  refine ⟨_, rfl, _, rfl, _, rfl, _, rfl, d1, df, dg, 1, n, m, k1, fvs, gvs, Tf, Tg, dM n, rfl, n2, n1, .inl rfl, eM _ _ hd1L, hdfM, hdgM, c1, pfM, pgM, b5f, b5g, bd2, by omega, by omega, fun HN eN => ⟨_, rfl, iteF ?_⟩⟩
  refine ⟨_, rfl, _, rfl, _, rfl, _, rfl, _, rfl, d2, df, dg, -1, n, m, k2, fvs, gvs, Tf, Tg, dM n, rfl, n2, n1, .inr rfl, eN _ _ (eM _ _ hd2L), eN _ _ hdfM, eN _ _ hdgM, c2.same eN, pfM.same eN, pgM.same eN, b5f, b5g, bd2, by omega, by omega, fun HO' eO => ⟨_, rfl, iteF ?_⟩⟩
  have eMO := eN.trans eO
  have eLO := eM.trans eMO
  have rf := ir _ _ hdfH
  have rg := ir _ _ hdgH
  unfold tNext
  dsimp only
  refine ⟨_, rfl, _, rfl, _, rfl, _, rfl, d3, df, dg, n, m, k3, fvs, gvs, Tf, Tg, dM n, dM n, rfl, n2, n1, m4, fg, rf.2.2.1, rg.2.2.1, eLO _ _ hd3L, eMO _ _ hdfM, eMO _ _ hdgM, pd3L.same eLO, pfM.same eMO, pgM.same eMO, b5f, b5g, bd2, bd2, by omega, by omega, fun HP eP => ⟨_, rfl, iteF ?_⟩⟩
  have eMP := eMO.trans eP
  have eLP := eLO.trans eP
  have eHP := eHM.trans eMP
  have gP := gM.trans eMP
  dsimp only
  intro al nal
  have eQ : Same HP (upd HP al (.dT [])) := Same.upd nal
  have hal : (upd HP al (HO.dT [])) al = some (.dT []) := upd_same
  generalize upd HP al (HO.dT []) = HQ at eQ hal
  have bA : Bdd n (fun t => if t = tl then an else 0) 50 := fun z t => by
    show (if t = tl then an else 0).natAbs < 2 ^ 50
    split
    · exact up (ban z) (by decide)
    · decide
  have ianQ := ((ian.same eH).same eHP).same eQ
  have httQ := eQ _ _ (eHP _ _ htt)
  dsimp only
  refine seq_mid (fun σ' H' => Same HP H' ∧ σ' = [some (.ref r), some (.ref l), some (.int n), some (.int m), some (.ref df), some (.ref dg), some (.ref ht), some vn, some (.ref tt), some (.ref d1), some (.ref d2), some (.ref d3), some (.ref d4), v13, some (.ref al)] ∧ ∃ av, H' al = some (.dT av) ∧ av.length ≤ 20 ∧ PD n m H' av (fun t => if t = tl then an else 0) (dM n) ∧ ∀ t, eqn n (an * shT tl Tf t) (cv (fun t => if t = tl then an else 0) (tks av) Tf t)) ?_ ?_
  rotate_left
  · intro N hN
    refine ⟨_, rfl, _, rfl, 0, 1, n, rfl, n2, by decide, by decide, by decide, fun u HR eR iu => ?_⟩
    rw [dB_one] at iu
    obtain ⟨dn, rd, nd, eq⟩ := (ianQ.same eR).rds (K := K) n2 nzd
    refine ⟨dn, z0N n, rd, iu.zero, nd.shaped, (nm_z0 n).shaped, _, rfl, ?_⟩
    rw [eq]
    have halR := eR _ _ hal
    refine cN (fun z => ?_) (fun z => ?_)
    · refine ⟨_, rfl, _, rfl, _, rfl, al, _, rfl, DPut.t (k := ky tl) halR (by rw [ky_kV]; exact eR _ _ httQ) (by show 0 < sizeLine; omega), ?_⟩
      have ep : putK [] (ky tl) vn = [(ky tl, vn)] := putK_new (by simp)
      rw [ep]
      have kp : ∀ b xs, HR b = some (.tup xs) → (upd HR al (.dT [(ky tl, vn)])) b = some (.tup xs) := fun b xs hb => (upd_ne (ne_of hb halR (by intro z; cases z))).trans hb
      have pd0 : PD n m HR [] (fun _ => 0) (dM n) := PD.nil n2 nzd fun _ => zr_zero n
      have pdA := pd0.set okt (ianQ.same eR) z
      rw [ep] at pdA
      refine hN _ _ ⟨(eQ.trans eR).updR nal, rfl, _, upd_same, by show 1 ≤ 20; decide, pdA.keep kp, fun t => eqn.of_eq ?_⟩
      have tk1 : tks [(ky tl, vn)] = [tl] := by show [uk (ky tl)] = _; rw [uk_ky]
      rw [tk1, cv_cons, cv_nil, if_pos rfl, Int.add_zero]
    · have za : zr n an := z
      refine hN _ _ ⟨eQ.trans eR, rfl, [], halR, Nat.zero_le _, PD.nil n2 nzd fun t => ?_, fun t => ?_⟩
      · show zr n (if t = tl then an else 0)
        split
        · exact za
        · exact zr_zero n
      · show zr n (an * shT tl Tf t - 0)
        rw [Int.sub_zero]; exact zr_mul za
  rintro σ2 HR ⟨eR, rfl, av, hav, lav, pdA, eqA⟩
  have nalf : df ≠ al := ne_sn (eHP _ _ hdfH) nal
  have nal4 : d4 ≠ al := ne_sn (eLP _ _ hd4) nal
  have eLR := eLP.trans eR
  have eHR := eHP.trans eR
  have c4 : PD n m HR k4 (cv (fun t => if t = tl then an else 0) (tks av) Tf) (dM n * dM n) := PD.eqT n2 (pd4.same eLR) eqA
  refine ⟨_, rfl, _, rfl, _, rfl, _, rfl, d4, al, df, n, m, k4, av, fvs, _, Tf, dM n, dM n, rfl, n2, n1, m4, Ne.symm nalf, nal4, rf.2.2.2, eLR _ _ hd4, hav, eHR _ _ hdfH, c4, pdA, pfH.same eHR, bA, b5f, bd2, bd2, lav, by omega, fun HS eS => ⟨_, rfl, iteF ?_⟩⟩
  have eHS := eHR.trans eS
  have gS := gH.trans eHS
  have gBS := gBH.trans eHS
  refine ⟨_, rfl, _, rfl, (by show 2 ≤ sizeLine; omega), fun tp ntp => ?_⟩
  have eT : Same HS (upd HS tp (.tup [.ref df, .ref dg])) := Same.upd ntp
  have htp : (upd HS tp (HO.tup [.ref df, .ref dg])) tp = some (.tup [.ref df, .ref dg]) := upd_same
  generalize upd HS tp (HO.tup [.ref df, .ref dg]) = HT' at eT htp
  have eHT := eHS.trans eT
  have gT := gS.trans eT
  have eET : Same HE HT' := (((eF.trans eG).trans eH).trans eHS).trans eT
  have s1 : SameD K HT' df hf := pd_sameD n2 (eHT _ _ hdfH) (eET _ _ (eE _ _ (eD _ _ hhf))) (pfH.same eHT) (pfH.same eHT)
  have s2 : SameD K HT' dg hg := pd_sameD n2 (eHT _ _ hdgH) (eET _ _ (eE _ _ hhg)) (pgH.same eHT) (pgH.same eHT)
  refine ⟨_, rfl, tp, ht, df, dg, hf, hg, rfl, rfl, htp, eET _ _ hht, s1, s2, _, rfl, iteF ?_⟩
  dsimp only
  exact ⟨_, rfl, _, rfl, _, rfl, r, df, m, pf, n, fvs, Tf, rfl, hR.same gT, eHT _ _ hdfH, pfH.same eHT, bf, drf, hf8, fun HZ eZ => k HZ (gT.trans eZ)⟩
end
end K10
namespace K10
open PySem L2
open K1 K2 K3 K6 K8
section
variable {P : Program} {w : World} {K : PySem.W.Frag} {mg : Str → Option Value} {base : Heap} {f : Addr} {fd : FuncData} {C_Ring C_Fractions C_Rests C_Order C_Degrees C_Tails : Addr} {E_NoPrime E_NoRing : Addr}
local macro_rules | `(tactic| walk_at "sd") => `(tactic| first
  | assumption | (dsimp only; omega) | (dsimp only; decide) | exact ⟨by decide, by decide⟩ | exact ⟨by decide, by decide, by decide⟩ | exact Or.inl ⟨by decide, by decide⟩ | exact ⟨by omega, by omega⟩ | exact Or.inl ⟨by omega, by omega⟩ | exact Or.inr ⟨by decide, by decide⟩ | exact Or.inr ⟨by omega, by omega⟩)
local macro_rules | `(tactic| walk_at "rd") => `(tactic| repeat first
  | refine ⟨_, rfl, ?_⟩ | refine ⟨_, _, rfl, rfl, ?_⟩ | refine And.intro rfl ?_ | refine And.intro (by walk_at "sd") ?_ | with_reducible refine iteT ?_ | with_reducible refine iteF ?_ | (apply ixT_of; assumption; rfl))
local macro_rules | `(tactic| walk_at "clo") => `(tactic| exact h)

theorem scLaw : FnScope ["_law_script", "_law_cell_here", "_law_prime_here", "_law_field", "_law_order", "_law_ring", "_law_start"] ["_law_script"] (defScope s_law) := ⟨rfl, rfl, rfl, by decide +kernel, rfl, by decide +kernel, by decide +kernel⟩
set_option maxHeartbeats 4000000 in
theorem ok_Law  (F : FunD K "law" "law" s_law .none f fd) (T : Txt K mg C_Ring C_Fractions C_Rests C_Order C_Degrees C_Tails) (c_Cell : Cal P w K mg base CX0 1 "_law_cell" ["_law_script", "_law_k"] [] (spCell K)) (k_FracInit : Mak P w K mg base CX0 2 "Fractions" C_Fractions ["self"] [] (spFracInit C_Fractions)) (c_LPr : Cal P w K mg base CX0 2 "_law_prime" ["_law_cell_here"] [] spLPr) (k_RestsInit : Mak P w K mg base (CXe P w) 2 "Rests" C_Rests ["self", "prime"] [] (spRests C_Rests E_NoPrime)) (k_RgI : Mak P w K mg base (CXe P w) 2 "Ring" C_Ring ["self", "many", "field", "order"] [] (spRgI3 C_Ring C_Order C_Degrees C_Tails)) (c_Eight : Cal P w K mg base CX0 9 "_law_eight" ["_law_ring", "_law_cells", "_law_prime_here"] [] (spEight K C_Ring C_Fractions C_Rests)) (c_Plus : Cal P w K mg base CX0 5 "plus" ["ring", "f", "g"] [] (spPlus C_Ring C_Fractions C_Rests)) (c_Times : Cal P w K mg base CX0 6 "times" ["ring", "f", "g"] [] (spTimes C_Ring C_Fractions C_Rests))  : FnOk P w K mg base CX0 10 f fd ["_law_script"] (spLaw K) := by
  refine F.okN (k := 9) scLaw (fun vs H Q E h => ?_) (fun cdv A outer s H vs Q E hr h => ?_)
  · obtain ⟨a, ns, rfl, _⟩ := h
    rfl
  obtain ⟨a, ns, rfl, h⟩ := h
  refine ⟨_, (pss_cons (ps_set (i := 1) scLaw.nd rfl (Or.inl rfl) (pe_c c_Cell hr pass00 .nil ((pa_cons (pv 0) (pa_cons (pe_int) pa_nil)))))
    (pss_cons (ps_set (i := 2) scLaw.nd rfl (Or.inl rfl) (pe_int))
    (pss_cons (ps_set (i := 3) scLaw.nd rfl (Or.inl rfl) (pe_mk0 k_FracInit hr pass00 .nil))
    (pss_cons (ps_if (pt_cmpR op_eq (pe_op op_mod (pe_op op_fdiv (pv 1) (pe_int)) (pe_int)) (pe_int) (nomark _)) (pss_cons (ps_set (i := 2) scLaw.nd rfl (Or.inl rfl) (pe_c c_LPr hr pass00 .nil ((pa_cons (pe_op op_fdiv (pv 1) (pe_int)) pa_nil))))
    (pss_one (ps_set (i := 3) scLaw.nd rfl (Or.inl rfl) (pe_mk k_RestsInit hr passF .nil ((pa_cons (pv 2) pa_nil)))))) pss_nil)
    (pss_cons (ps_set (i := 4) scLaw.nd rfl (Or.inl rfl) (pe_new0 T.n0_Order T.mg_Order))
    (pss_cons (ps_if (pt_cmpR op_eq (pe_op op_mod (pv 1) (pe_int)) (pe_int) (nomark _)) (pss_one (ps_set (i := 4) scLaw.nd rfl (Or.inl rfl) (pe_new0 T.n0_Degrees T.mg_Degrees))) pss_nil)
    (pss_cons (ps_if (pt_cmpR op_eq (pe_op op_mod (pv 1) (pe_int)) (pe_int) (nomark _)) (pss_one (ps_set (i := 4) scLaw.nd rfl (Or.inl rfl) (pe_new0 T.n0_Tails T.mg_Tails))) pss_nil)
    (pss_cons (ps_set (i := 5) scLaw.nd rfl (Or.inl rfl) (pe_mk k_RgI hr passF .nil ((pa_cons (pe_op op_add (pe_int) (pe_op op_mod (pe_op op_fdiv (pv 1) (pe_int)) (pe_int))) (pa_cons (pv 3) (pa_cons (pv 4) pa_nil))))))
    (pss_cons (ps_for PassesOwn.never rfl (pi_range3 rfl T.b_range ((pa_cons (pe_int) (pa_cons (pe_callB (call_lenK (K := K) rfl) rfl T.b_len PySem.boot_len ((pa_cons (pv 0) pa_nil))) (pa_cons (pe_int) pa_nil))))) (pg_name (i := 6) scLaw.nd rfl (Or.inl rfl)) (pss_one (ps_if (pt_not (pt_val (pe_c c_Eight hr pass00 .nil ((pa_cons (pv 5) (pa_cons (pe_slice (sl_listK (K := K) rfl) (pv 0) (po_some (pv 6)) (po_some (pe_op op_add (pv 6) (pe_int)))) (pa_cons (pv 2) pa_nil))))))) (pss_one (ps_ret (pe_bl))) pss_nil)))
    (pss_one (ps_ret (pe_and (pe_cmpR (op_eqDT hr.units) (pe_c c_Times hr pass00 .nil ((pa_cons (pv 5) (pa_cons (pe_dnewT) (pa_cons (pe_dnewT) pa_nil))))) (pe_dnewT) (nomark _)) (pe_one (pe_cmpR (op_eqDT hr.units) (pe_c c_Plus hr pass00 .nil ((pa_cons (pv 5) (pa_cons (pe_dnewT) (pa_cons (pe_dnewT) pa_nil))))) (pe_dnewT) (nomark _))))))))))))))), ?_⟩
  obtain ⟨hS, h63, k⟩ := h
  refine ⟨_, rfl, a, ns, 0, rfl, hS, Int.le_refl 0, ?_⟩
  generalize cellOf ns 0 = c
  intro q dq nq ndq neq
  refine ⟨q, dq, rfl, upd_same, rfl, ?_⟩
  have e5 : Same H (upd (upd (upd H dq (.own q)) q (.ins C_Fractions dq [])) q (.ins C_Fractions dq [("prime", .int 0)])) := fun b o e => by
    rw [upd_ne (ne_of_none e nq), upd_ne (ne_of_none e nq), upd_ne (ne_of_none e ndq)]
    exact e
  have hq5 : (upd (upd (upd H dq (.own q)) q (.ins C_Fractions dq [])) q (.ins C_Fractions dq [("prime", .int 0)])) q = some (.ins C_Fractions dq [("prime", .int 0)]) := upd_same
  generalize (upd (upd (upd H dq (.own q)) q (.ins C_Fractions dq [])) q (.ins C_Fractions dq [("prime", .int 0)])) = H5 at e5 hq5 ⊢
  try dsimp only
  refine seq_mid (fun σ' H' => Same H H' ∧ ∃ pf n, σ' = [some (.ref a), some (.int c), some (.int n), some (.ref pf), none, none, none] ∧ AtN C_Fractions C_Rests n H' pf ∧ n ≤ 9973 ∧ (n = 0 ∨ Pr n)) ?_ ?_
  rotate_left
  · intro N hN
    refine ⟨_, rfl, _, _, rfl, rfl, ⟨by decide, by decide⟩, _, _, rfl, rfl, (by show (0 : Int) < 2; decide), rfl, _, rfl, cEq (fun c1 => ?_) (fun c1 => ?_)⟩
    · refine ⟨_, rfl, _, _, rfl, rfl, ⟨by decide, by decide⟩, _, rfl, fun n pn ln => ?_⟩
      have pr := pr_of pn
      refine ⟨_, rfl, fun p dp np ndp nep => ?_⟩
      refine ⟨p, dp, n, rfl, upd_same, .inl ⟨ln, pn, rfl, ?_⟩⟩
      have e7 : Same H5 (upd (upd (upd H5 dp (.own p)) p (.ins C_Rests dp [])) p (.ins C_Rests dp [("prime", .int n)])) := fun b o e => by
        rw [upd_ne (ne_of_none e np), upd_ne (ne_of_none e np), upd_ne (ne_of_none e ndp)]
        exact e
      refine hN _ _ ⟨e5.trans e7, p, n, rfl, ?_, ln, .inr pr⟩
      unfold AtN
      rw [if_neg (pr_ne pr)]
      exact ⟨dp, upd_same, pr, ln⟩
    · refine hN _ _ ⟨e5, q, 0, rfl, ?_, by decide, .inl rfl⟩
      unfold AtN
      rw [if_pos rfl]
      exact ⟨dq, hq5⟩
  clear e5 hq5
  rintro σ' H6 ⟨g6, pf, n, rfl, hfd, n1, n2⟩
  intro p1 dp1 np1 ndp1 ne1
  have e7 : Same H6 (upd (upd H6 dp1 (.own p1)) p1 (.ins C_Order dp1 [])) := fun b o e => by
    rw [upd_ne (ne_of_none e np1), upd_ne (ne_of_none e ndp1)]
    exact e
  have hp1 : (upd (upd H6 dp1 (HO.own p1)) p1 (HO.ins C_Order dp1 [])) p1 = some (.ins C_Order dp1 []) := upd_same
  generalize upd (upd H6 dp1 (HO.own p1)) p1 (HO.ins C_Order dp1 []) = H7 at e7 hp1
  try dsimp only
  refine seq_mid (fun σ' H' => Same H7 H' ∧ ∃ po CD, σ' = [some (.ref a), some (.int c), some (.int n), some (.ref pf), some (.ref po), none, none] ∧ IsO C_Order C_Degrees C_Tails CD ∧ AtO CD H' po) ?_ ?_
  rotate_left
  · intro N hN
    walk_at "rd"
    refine cEq (fun _ => ?_) (fun _ => ?_)
    · intro p2 dp2 np2 ndp2 ne2
      refine hN _ _ ⟨fun b o e => ?_, p2, C_Degrees, rfl, .inr (.inl rfl), dp2, upd_same⟩
      rw [upd_ne (ne_of_none e np2), upd_ne (ne_of_none e ndp2)]
      exact e
    · exact hN _ _ ⟨Same.refl _, p1, C_Order, rfl, .inl rfl, dp1, hp1⟩
  rintro σ2 H8 ⟨g8, po1, CD1, rfl, io1, ho1⟩
  refine seq_mid (fun σ' H' => Same H8 H' ∧ ∃ po CD, σ' = [some (.ref a), some (.int c), some (.int n), some (.ref pf), some (.ref po), none, none] ∧ IsO C_Order C_Degrees C_Tails CD ∧ AtO CD H' po) ?_ ?_
  rotate_left
  · intro N hN
    walk_at "rd"
    refine cEq (fun _ => ?_) (fun _ => ?_)
    · intro p2 dp2 np2 ndp2 ne2
      refine hN _ _ ⟨fun b o e => ?_, p2, C_Tails, rfl, .inr (.inr rfl), dp2, upd_same⟩
      rw [upd_ne (ne_of_none e np2), upd_ne (ne_of_none e ndp2)]
      exact e
    · exact hN _ _ ⟨Same.refl _, po1, CD1, rfl, io1, ho1⟩
  rintro σ3 H9 ⟨g9, po, CD, rfl, io, dO, hpo⟩
  obtain ⟨m, hm, m1, m4⟩ : ∃ m : Nat, 1 + c / 12 % 4 = (m : Int) ∧ 1 ≤ m ∧ m ≤ 4 := ⟨(1 + c / 12 % 4).toNat, by omega, by omega, by omega⟩
  walk_at "rd"
  try dsimp only
  rw [hm]
  intro r dr nr ndr nre
  have eA : Same H9 (upd (upd H9 dr (.own r)) r (.ins C_Ring dr [])) := fun b o e => by
    rw [upd_ne (ne_of_none e nr), upd_ne (ne_of_none e ndr)]
    exact e
  refine ⟨r, dr, (m : Int), pf, po, CD, rfl, io, upd_same, ⟨dO, eA _ _ hpo⟩, by omega, by omega, fun HA hA kA => ⟨rfl, ?_⟩⟩
  have g9A : Same H9 HA := fun b o e => kA b o (eA _ _ e) (ne_of_none e nr)
  have g6A : Same H6 HA := ((e7.trans g8).trans g9).trans g9A
  have hR : RgK C_Ring C_Fractions C_Rests HA r m pf n := ⟨n1, n2, m1, m4, ⟨po, dr, hA⟩, atN_keep (fun b o e _ => g6A b o e) hfd⟩
  have hSA := (g6.trans g6A).seq hS
  have sl : 1000 < sizeLine := by rw [sizeLine_eq]; decide
  have lm : ((ns.map V.int).length : Int) = ns.length := by rw [List.length_map]
  try dsimp only
  refine seq_mid (fun σ' H' => Same HA H' ∧ ∃ v6, σ' = [some (.ref a), some (.int c), some (.int n), some (.ref pf), some (.ref po), some (.ref r), v6]) ?_ ?_
  rotate_left
  · intro N hN
    refine ⟨_, rfl, a, _, rfl, .inl hSA, 1, _, 8, rfl, by rw [lm]; exact small8 (by omega) (by omega), rs0 _, by decide, by decide, ?_⟩
    refine for_rangeS (fun i σ H' => Same HA H' ∧ ∃ v6, σ = [some (.ref a), some (.int c), some (.int n), some (.ref pf), some (.ref po), some (.ref r), v6]) ⟨Same.refl _, none, rfl⟩ ?_ ?_
    · rintro i σ H' hi ⟨g', v6, rfl⟩
      have hi' := rs8 hi
      rw [lm] at hi'
      obtain ⟨ms, em, m0, m8⟩ := cut8 (s := 1 + (i : Int) * 8) (by omega) hi'
      unfold gName
      dsimp only
      refine ⟨_, rfl, _, rfl, _, rfl, _, rfl, _, rfl, _, _, rfl, rfl, _, rfl, a, _, rfl, g'.seq hSA, fun l1 nl1 => ?_⟩
      rw [em]
      have e1 : Same H' (upd H' l1 (.lst (ms.map V.int))) := Same.upd nl1
      refine ⟨_, rfl, r, l1, m, pf, n, ms, rfl, hR.same (g'.trans e1), SqL.of upd_same, m0, m8, fun H2 g2 => ⟨_, rfl, iteF ?_⟩⟩
      exact ⟨(g'.trans e1).trans g2, _, rfl⟩
    · rintro σ H' ⟨g', v6, rfl⟩
      exact hN _ _ ⟨g', v6, rfl⟩
  rintro σ4 HB ⟨gB, v6, rfl⟩
  have nzd := dM_nz n2
  have b0 : ∀ M, 1 ≤ M → Bdd n (fun _ => 0) M := fun M hM _ _ => by show (0 : Int).natAbs < 2 ^ M; exact Nat.pow_pos (by decide)
  have bd : ∀ M, 12 ≤ M → n = 0 → (dM n).natAbs < 2 ^ M := fun M hM _ => up (dM_b n) hM
  refine ⟨_, rfl, fun y1 ny1 y2 ny2 => ?_⟩
  have e1 : Same HB (upd HB y1 (.dT [])) := Same.upd ny1
  have hy1 : (upd HB y1 (HO.dT [])) y1 = some (.dT []) := upd_same
  generalize upd HB y1 (HO.dT []) = HC at e1 hy1 ny2
  have e2 : Same HC (upd HC y2 (.dT [])) := Same.upd ny2
  have hy2 : (upd HC y2 (HO.dT [])) y2 = some (.dT []) := upd_same
  generalize upd HC y2 (HO.dT []) = HD at e2 hy2
  have y12 : y1 ≠ y2 := ne_sn hy1 ny2
  have gD := (gB.trans e1).trans e2
  refine ⟨r, y1, y2, m, pf, n, [], [], fun _ => 0, dM n, fun _ => 0, dM n, rfl, hR.same gD, y12, e2 _ _ hy1, hy2, PD.nil n2 nzd fun _ => zr_zero n, PD.nil n2 nzd fun _ => zr_zero n, by show 0 ≤ 64; decide, by show 0 ≤ 64; decide, b0 100 (by decide), b0 100 (by decide), bd 100 (by decide), bd 100 (by decide), fun d1 HE k1 nd1 e3 hd1 pd1 lk1 => ?_⟩
  have z1 : k1 = [] := List.length_eq_zero_iff.mp (Nat.le_zero.mp lk1)
  subst z1
  intro y3 ny3
  have e4 : Same HE (upd HE y3 (.dT [])) := Same.upd ny3
  refine ⟨d1, y3, [], [], [], [], rfl, rfl, .inl (e4 _ _ hd1), .inl upd_same, .nil, .nil, (fun p hp => by cases hp), (fun p hp => by cases hp), _, rfl, ?_⟩
  have gF := (gD.trans e3).trans e4
  generalize upd HE y3 (HO.dT []) = HF at e4 gF
  refine iteT ?_
  refine ⟨_, rfl, fun y4 ny4 y5 ny5 => ?_⟩
  have e5 : Same HF (upd HF y4 (.dT [])) := Same.upd ny4
  have hy4 : (upd HF y4 (HO.dT [])) y4 = some (.dT []) := upd_same
  generalize upd HF y4 (HO.dT []) = HG at e5 hy4 ny5
  have e6 : Same HG (upd HG y5 (.dT [])) := Same.upd ny5
  have hy5 : (upd HG y5 (HO.dT [])) y5 = some (.dT []) := upd_same
  generalize upd HG y5 (HO.dT []) = HI at e6 hy5
  have gI := (gF.trans e5).trans e6
  refine ⟨r, y4, y5, m, pf, n, [], [], fun _ => 0, fun _ => 0, dM n, rfl, hR.same gI, e6 _ _ hy4, hy5, PD.nil n2 nzd fun _ => zr_zero n, PD.nil n2 nzd fun _ => zr_zero n, ⟨[], rfl, List.nodup_nil⟩, by show 0 < sizeLine; omega, b0 400 (by decide), b0 400 (by decide), bd 400 (by decide), fun d2 HJ k2 nd2 e7 hd2 pd2 lk2 => ?_⟩
  have z2 : k2 = [] := List.length_eq_zero_iff.mp (Nat.le_zero.mp lk2)
  subst z2
  intro y6 ny6
  refine ⟨d2, y6, [], [], [], [], rfl, rfl, .inl ((Same.upd ny6) _ _ hd2), .inl upd_same, .nil, .nil, (fun p hp => by cases hp), (fun p hp => by cases hp), ?_⟩
  exact k _
end
end K10
def PySem.W.Fast.tw7393596181307004458 : Unit := ()
def PySem.W.Fast.tw12359608260239282991 : Unit := ()
def PySem.W.Fast.tw6164301333346629184 : Unit := ()
def PySem.W.Fast.tw7679528375891140839 : Unit := ()
def PySem.W.Fast.tw18162334981377661314 : Unit := ()
def PySem.W.Fast.tw4678407366203371824 : Unit := ()
def PySem.W.Fast.tw17997851656965609375 : Unit := ()
def PySem.W.Fast.tw14685127598363552076 : Unit := ()
def PySem.W.Fast.tw14618832878075989374 : Unit := ()
def PySem.W.Fast.tw3903158243156578252 : Unit := ()
def PySem.W.Fast.tw11063210696643711784 : Unit := ()
def PySem.W.Fast.tw6863265786660107664 : Unit := ()
def PySem.W.Fast.tw16892872420052302398 : Unit := ()
def PySem.W.Fast.tw12925122169980850468 : Unit := ()
def PySem.W.Fast.tw4611101380500993701 : Unit := ()
namespace K10
open PySem L2
set_option maxHeartbeats 8000000 in
theorem all_mk {l : PySem.W.OpenLaw} {w : World} {K : PySem.W.Frag} {h : Heap} {mg : Str → Option Value} {fa : Addr} (X : K.In h) (G : h.Ns mainGlobals mg) (hfa : mg "law" = some (.ref fa))
    {C_Ring : Addr} {C_Fractions : Addr} {C_Rests : Addr} {C_Order : Addr} {C_Degrees : Addr} {C_Tails : Addr} {f_0 : Addr} {od_0 an_0 : Option Addr} {sl_0 : Array (Option Value)} {oc_0 kV_0 dc_0 pm_0 cd_0 ct_0 : Value} {f_1 : Addr} {od_1 an_1 : Option Addr} {sl_1 : Array (Option Value)} {oc_1 kV_1 dc_1 pm_1 cd_1 ct_1 : Value} {f_2 : Addr} {od_2 an_2 : Option Addr} {sl_2 : Array (Option Value)} {oc_2 kV_2 dc_2 pm_2 cd_2 ct_2 : Value} {Cq_2 : Addr} {f_3 : Addr} {od_3 an_3 : Option Addr} {sl_3 : Array (Option Value)} {oc_3 kV_3 dc_3 pm_3 cd_3 ct_3 : Value} {f_4 : Addr} {od_4 an_4 : Option Addr} {sl_4 : Array (Option Value)} {oc_4 kV_4 dc_4 pm_4 cd_4 ct_4 : Value} {f_5 : Addr} {od_5 an_5 : Option Addr} {sl_5 : Array (Option Value)} {oc_5 kV_5 dc_5 pm_5 cd_5 ct_5 : Value} {f_6 : Addr} {od_6 an_6 : Option Addr} {sl_6 : Array (Option Value)} {oc_6 kV_6 dc_6 pm_6 cd_6 ct_6 : Value} {f_7 : Addr} {od_7 an_7 : Option Addr} {sl_7 : Array (Option Value)} {oc_7 kV_7 dc_7 pm_7 cd_7 ct_7 : Value} {f_8 : Addr} {od_8 an_8 : Option Addr} {sl_8 : Array (Option Value)} {oc_8 kV_8 dc_8 pm_8 cd_8 ct_8 : Value} {f_9 : Addr} {od_9 an_9 : Option Addr} {sl_9 : Array (Option Value)} {oc_9 kV_9 dc_9 pm_9 cd_9 ct_9 : Value} {f_10 : Addr} {od_10 an_10 : Option Addr} {sl_10 : Array (Option Value)} {oc_10 kV_10 dc_10 pm_10 cd_10 ct_10 : Value} {f_11 : Addr} {od_11 an_11 : Option Addr} {sl_11 : Array (Option Value)} {oc_11 kV_11 dc_11 pm_11 cd_11 ct_11 : Value} {f_12 : Addr} {od_12 an_12 : Option Addr} {sl_12 : Array (Option Value)} {oc_12 kV_12 dc_12 pm_12 cd_12 ct_12 : Value} {f_13 : Addr} {od_13 an_13 : Option Addr} {sl_13 : Array (Option Value)} {oc_13 kV_13 dc_13 pm_13 cd_13 ct_13 : Value} {f_14 : Addr} {od_14 an_14 : Option Addr} {sl_14 : Array (Option Value)} {oc_14 kV_14 dc_14 pm_14 cd_14 ct_14 : Value} {f_15 : Addr} {od_15 an_15 : Option Addr} {sl_15 : Array (Option Value)} {oc_15 kV_15 dc_15 pm_15 cd_15 ct_15 : Value} {f_16 : Addr} {od_16 an_16 : Option Addr} {sl_16 : Array (Option Value)} {oc_16 kV_16 dc_16 pm_16 cd_16 ct_16 : Value} {f_17 : Addr} {od_17 an_17 : Option Addr} {sl_17 : Array (Option Value)} {oc_17 kV_17 dc_17 pm_17 cd_17 ct_17 : Value} {f_18 : Addr} {od_18 an_18 : Option Addr} {sl_18 : Array (Option Value)} {oc_18 kV_18 dc_18 pm_18 cd_18 ct_18 : Value} {f_19 : Addr} {od_19 an_19 : Option Addr} {sl_19 : Array (Option Value)} {oc_19 kV_19 dc_19 pm_19 cd_19 ct_19 : Value} {f_20 : Addr} {od_20 an_20 : Option Addr} {sl_20 : Array (Option Value)} {oc_20 kV_20 dc_20 pm_20 cd_20 ct_20 : Value} {f_21 : Addr} {od_21 an_21 : Option Addr} {sl_21 : Array (Option Value)} {oc_21 kV_21 dc_21 pm_21 cd_21 ct_21 : Value} {f_22 : Addr} {od_22 an_22 : Option Addr} {sl_22 : Array (Option Value)} {oc_22 kV_22 dc_22 pm_22 cd_22 ct_22 : Value} {f_23 : Addr} {od_23 an_23 : Option Addr} {sl_23 : Array (Option Value)} {oc_23 kV_23 dc_23 pm_23 cd_23 ct_23 : Value} {f_24 : Addr} {od_24 an_24 : Option Addr} {sl_24 : Array (Option Value)} {oc_24 kV_24 dc_24 pm_24 cd_24 ct_24 : Value} {f_25 : Addr} {od_25 an_25 : Option Addr} {sl_25 : Array (Option Value)} {oc_25 kV_25 dc_25 pm_25 cd_25 ct_25 : Value} {f_26 : Addr} {od_26 an_26 : Option Addr} {sl_26 : Array (Option Value)} {oc_26 kV_26 dc_26 pm_26 cd_26 ct_26 : Value} {f_27 : Addr} {od_27 an_27 : Option Addr} {sl_27 : Array (Option Value)} {oc_27 kV_27 dc_27 pm_27 cd_27 ct_27 : Value} {f_28 : Addr} {od_28 an_28 : Option Addr} {sl_28 : Array (Option Value)} {oc_28 kV_28 dc_28 pm_28 cd_28 ct_28 : Value} {f_29 : Addr} {od_29 an_29 : Option Addr} {sl_29 : Array (Option Value)} {oc_29 kV_29 dc_29 pm_29 cd_29 ct_29 : Value} {f_30 : Addr} {od_30 an_30 : Option Addr} {sl_30 : Array (Option Value)} {oc_30 kV_30 dc_30 pm_30 cd_30 ct_30 : Value} {f_31 : Addr} {od_31 an_31 : Option Addr} {sl_31 : Array (Option Value)} {oc_31 kV_31 dc_31 pm_31 cd_31 ct_31 : Value} {f_32 : Addr} {od_32 an_32 : Option Addr} {sl_32 : Array (Option Value)} {oc_32 kV_32 dc_32 pm_32 cd_32 ct_32 : Value} {f_33 : Addr} {od_33 an_33 : Option Addr} {sl_33 : Array (Option Value)} {oc_33 kV_33 dc_33 pm_33 cd_33 ct_33 : Value} {f_34 : Addr} {od_34 an_34 : Option Addr} {sl_34 : Array (Option Value)} {oc_34 kV_34 dc_34 pm_34 cd_34 ct_34 : Value} {f_35 : Addr} {od_35 an_35 : Option Addr} {sl_35 : Array (Option Value)} {oc_35 kV_35 dc_35 pm_35 cd_35 ct_35 : Value} {f_36 : Addr} {od_36 an_36 : Option Addr} {sl_36 : Array (Option Value)} {oc_36 kV_36 dc_36 pm_36 cd_36 ct_36 : Value} {f_37 : Addr} {od_37 an_37 : Option Addr} {sl_37 : Array (Option Value)} {oc_37 kV_37 dc_37 pm_37 cd_37 ct_37 : Value} {f_38 : Addr} {od_38 an_38 : Option Addr} {sl_38 : Array (Option Value)} {oc_38 kV_38 dc_38 pm_38 cd_38 ct_38 : Value} {f_39 : Addr} {od_39 an_39 : Option Addr} {sl_39 : Array (Option Value)} {oc_39 kV_39 dc_39 pm_39 cd_39 ct_39 : Value} {f_40 : Addr} {od_40 an_40 : Option Addr} {sl_40 : Array (Option Value)} {oc_40 kV_40 dc_40 pm_40 cd_40 ct_40 : Value} {E_NoPrime : Addr} {bm_NoPrime : List Value} {nid_NoPrime : String} {ini_NoPrime B_NoPrime : String} {E_NoRing : Addr} {bm_NoRing : List Value} {nid_NoRing : String} {ini_NoRing B_NoRing : String} {tg_GREATEST_PRIME : Tok} {tg_LETTERS : Tok}
    (a_Ring : PySem.W.nsIn K mainGlobals "Ring" = some (some (.ref C_Ring)))
    (pg_Ring : PySem.W.plainGet K C_Ring Str.empty = true)
    (hd_Ring : PySem.W.hasDictIn K C_Ring = true)
    (po_Ring : PySem.W.plainOver K C_Ring = true)
    (sa_Ring : PySem.W.findIn K (.ref C_Ring) "__setattr__" = some (some (.builtin "object.__setattr__")))
    (mk_Ring : PySem.W.makesIn K C_Ring = true)
    (kc_Ring : PySem.W.keepIn K (.ref C_Ring) = true)
    (na_Ring_many : PySem.W.findIn K (.ref C_Ring) "many" = some none)
    (na_Ring_field : PySem.W.findIn K (.ref C_Ring) "field" = some none)
    (na_Ring_order : PySem.W.findIn K (.ref C_Ring) "order" = some none)
    (a_Fractions : PySem.W.nsIn K mainGlobals "Fractions" = some (some (.ref C_Fractions)))
    (pg_Fractions : PySem.W.plainGet K C_Fractions Str.empty = true)
    (hd_Fractions : PySem.W.hasDictIn K C_Fractions = true)
    (po_Fractions : PySem.W.plainOver K C_Fractions = true)
    (sa_Fractions : PySem.W.findIn K (.ref C_Fractions) "__setattr__" = some (some (.builtin "object.__setattr__")))
    (mk_Fractions : PySem.W.makesIn K C_Fractions = true)
    (kc_Fractions : PySem.W.keepIn K (.ref C_Fractions) = true)
    (na_Fractions_prime : PySem.W.findIn K (.ref C_Fractions) "prime" = some none)
    (a_Rests : PySem.W.nsIn K mainGlobals "Rests" = some (some (.ref C_Rests)))
    (pg_Rests : PySem.W.plainGet K C_Rests Str.empty = true)
    (hd_Rests : PySem.W.hasDictIn K C_Rests = true)
    (po_Rests : PySem.W.plainOver K C_Rests = true)
    (sa_Rests : PySem.W.findIn K (.ref C_Rests) "__setattr__" = some (some (.builtin "object.__setattr__")))
    (mk_Rests : PySem.W.makesIn K C_Rests = true)
    (kc_Rests : PySem.W.keepIn K (.ref C_Rests) = true)
    (na_Rests_prime : PySem.W.findIn K (.ref C_Rests) "prime" = some none)
    (a_Order : PySem.W.nsIn K mainGlobals "Order" = some (some (.ref C_Order)))
    (pg_Order : PySem.W.plainGet K C_Order Str.empty = true)
    (hd_Order : PySem.W.hasDictIn K C_Order = true)
    (po_Order : PySem.W.plainOver K C_Order = true)
    (sa_Order : PySem.W.findIn K (.ref C_Order) "__setattr__" = some (some (.builtin "object.__setattr__")))
    (mk_Order : PySem.W.makesIn K C_Order = true)
    (in_Order : PySem.W.findIn K (.ref C_Order) "__init__" = some (some (.builtin "object.__init__")))
    (kc_Order : PySem.W.keepIn K (.ref C_Order) = true)
    (a_Degrees : PySem.W.nsIn K mainGlobals "Degrees" = some (some (.ref C_Degrees)))
    (pg_Degrees : PySem.W.plainGet K C_Degrees Str.empty = true)
    (hd_Degrees : PySem.W.hasDictIn K C_Degrees = true)
    (po_Degrees : PySem.W.plainOver K C_Degrees = true)
    (sa_Degrees : PySem.W.findIn K (.ref C_Degrees) "__setattr__" = some (some (.builtin "object.__setattr__")))
    (mk_Degrees : PySem.W.makesIn K C_Degrees = true)
    (in_Degrees : PySem.W.findIn K (.ref C_Degrees) "__init__" = some (some (.builtin "object.__init__")))
    (kc_Degrees : PySem.W.keepIn K (.ref C_Degrees) = true)
    (a_Tails : PySem.W.nsIn K mainGlobals "Tails" = some (some (.ref C_Tails)))
    (pg_Tails : PySem.W.plainGet K C_Tails Str.empty = true)
    (hd_Tails : PySem.W.hasDictIn K C_Tails = true)
    (po_Tails : PySem.W.plainOver K C_Tails = true)
    (sa_Tails : PySem.W.findIn K (.ref C_Tails) "__setattr__" = some (some (.builtin "object.__setattr__")))
    (mk_Tails : PySem.W.makesIn K C_Tails = true)
    (in_Tails : PySem.W.findIn K (.ref C_Tails) "__init__" = some (some (.builtin "object.__init__")))
    (kc_Tails : PySem.W.keepIn K (.ref C_Tails) = true)
    (a_0 : PySem.W.nsIn K mainGlobals "shared_divisor" = some (some (.ref f_0)))
    (l_0 : K.lookup f_0 = some ⟨oc_0, od_0, .func (PySem.W.fnOf "shared_divisor" "shared_divisor" (defArgs s_shared_divisor) (defBody s_shared_divisor) (defScope s_shared_divisor) .none kV_0 dc_0 pm_0 an_0 cd_0 ct_0), sl_0⟩)
    (c_0 : PySem.W.codeIn K cd_0 "shared_divisor" = true)
    (k_0 : PySem.W.keepIn K (.ref f_0) = true)
    (a_1 : PySem.W.nsIn K mainGlobals "is_prime" = some (some (.ref f_1)))
    (l_1 : K.lookup f_1 = some ⟨oc_1, od_1, .func (PySem.W.fnOf "is_prime" "is_prime" (defArgs s_is_prime) (defBody s_is_prime) (defScope s_is_prime) .none kV_1 dc_1 pm_1 an_1 cd_1 ct_1), sl_1⟩)
    (c_1 : PySem.W.codeIn K cd_1 "is_prime" = true)
    (k_1 : PySem.W.keepIn K (.ref f_1) = true)
    (aq_2 : PySem.W.nsIn K mainGlobals "Field" = some (some (.ref Cq_2)))
    (rq_2 : PySem.W.readsIn K Cq_2 (.type "type") = true)
    (fq_2 : PySem.W.findCls K (.ref Cq_2) (.type "type") "__init__" = some (.val (.ref f_2)))
    (sq_2 : PySem.W.specialIn K (.ref Cq_2) "__getattribute__" = some (some (.builtin "type.__getattribute__")))
    (i_2 : PySem.W.isFn K (.ref f_2) = true)
    (l_2 : K.lookup f_2 = some ⟨oc_2, od_2, .func (PySem.W.fnOf "__init__" "Field.__init__" (defArgs s_Field___init__) (defBody s_Field___init__) (defScope s_Field___init__) .none kV_2 dc_2 pm_2 an_2 cd_2 ct_2), sl_2⟩)
    (c_2 : PySem.W.codeIn K cd_2 "Field.__init__" = true)
    (k_2 : PySem.W.keepIn K (.ref f_2) = true)
    (a_3_Fractions : PySem.W.findIn K (.ref C_Fractions) "__init__" = some (some (.ref f_3)))
    (i_3 : PySem.W.isFn K (.ref f_3) = true)
    (l_3 : K.lookup f_3 = some ⟨oc_3, od_3, .func (PySem.W.fnOf "__init__" "Fractions.__init__" (defArgs s_Fractions___init__) (defBody s_Fractions___init__) (defScope s_Fractions___init__) .none kV_3 dc_3 pm_3 an_3 cd_3 ct_3), sl_3⟩)
    (c_3 : PySem.W.codeIn K cd_3 "Fractions.__init__" = true)
    (k_3 : PySem.W.keepIn K (.ref f_3) = true)
    (a_4_Fractions : PySem.W.findIn K (.ref C_Fractions) "nought" = some (some (.ref f_4)))
    (i_4 : PySem.W.isFn K (.ref f_4) = true)
    (l_4 : K.lookup f_4 = some ⟨oc_4, od_4, .func (PySem.W.fnOf "nought" "Fractions.nought" (defArgs s_Fractions_nought) (defBody s_Fractions_nought) (defScope s_Fractions_nought) .none kV_4 dc_4 pm_4 an_4 cd_4 ct_4), sl_4⟩)
    (c_4 : PySem.W.codeIn K cd_4 "Fractions.nought" = true)
    (k_4 : PySem.W.keepIn K (.ref f_4) = true)
    (a_5_Fractions : PySem.W.findIn K (.ref C_Fractions) "one" = some (some (.ref f_5)))
    (i_5 : PySem.W.isFn K (.ref f_5) = true)
    (l_5 : K.lookup f_5 = some ⟨oc_5, od_5, .func (PySem.W.fnOf "one" "Fractions.one" (defArgs s_Fractions_one) (defBody s_Fractions_one) (defScope s_Fractions_one) .none kV_5 dc_5 pm_5 an_5 cd_5 ct_5), sl_5⟩)
    (c_5 : PySem.W.codeIn K cd_5 "Fractions.one" = true)
    (k_5 : PySem.W.keepIn K (.ref f_5) = true)
    (a_6_Fractions : PySem.W.findIn K (.ref C_Fractions) "plus" = some (some (.ref f_6)))
    (i_6 : PySem.W.isFn K (.ref f_6) = true)
    (l_6 : K.lookup f_6 = some ⟨oc_6, od_6, .func (PySem.W.fnOf "plus" "Fractions.plus" (defArgs s_Fractions_plus) (defBody s_Fractions_plus) (defScope s_Fractions_plus) .none kV_6 dc_6 pm_6 an_6 cd_6 ct_6), sl_6⟩)
    (c_6 : PySem.W.codeIn K cd_6 "Fractions.plus" = true)
    (k_6 : PySem.W.keepIn K (.ref f_6) = true)
    (a_7_Fractions : PySem.W.findIn K (.ref C_Fractions) "times" = some (some (.ref f_7)))
    (i_7 : PySem.W.isFn K (.ref f_7) = true)
    (l_7 : K.lookup f_7 = some ⟨oc_7, od_7, .func (PySem.W.fnOf "times" "Fractions.times" (defArgs s_Fractions_times) (defBody s_Fractions_times) (defScope s_Fractions_times) .none kV_7 dc_7 pm_7 an_7 cd_7 ct_7), sl_7⟩)
    (c_7 : PySem.W.codeIn K cd_7 "Fractions.times" = true)
    (k_7 : PySem.W.keepIn K (.ref f_7) = true)
    (a_8_Fractions : PySem.W.findIn K (.ref C_Fractions) "against" = some (some (.ref f_8)))
    (i_8 : PySem.W.isFn K (.ref f_8) = true)
    (l_8 : K.lookup f_8 = some ⟨oc_8, od_8, .func (PySem.W.fnOf "against" "Fractions.against" (defArgs s_Fractions_against) (defBody s_Fractions_against) (defScope s_Fractions_against) .none kV_8 dc_8 pm_8 an_8 cd_8 ct_8), sl_8⟩)
    (c_8 : PySem.W.codeIn K cd_8 "Fractions.against" = true)
    (k_8 : PySem.W.keepIn K (.ref f_8) = true)
    (a_9_Rests : PySem.W.findIn K (.ref C_Rests) "__init__" = some (some (.ref f_9)))
    (i_9 : PySem.W.isFn K (.ref f_9) = true)
    (l_9 : K.lookup f_9 = some ⟨oc_9, od_9, .func (PySem.W.fnOf "__init__" "Rests.__init__" (defArgs s_Rests___init__) (defBody s_Rests___init__) (defScope s_Rests___init__) .none kV_9 dc_9 pm_9 an_9 cd_9 ct_9), sl_9⟩)
    (c_9 : PySem.W.codeIn K cd_9 "Rests.__init__" = true)
    (k_9 : PySem.W.keepIn K (.ref f_9) = true)
    (a_10_Rests : PySem.W.findIn K (.ref C_Rests) "nought" = some (some (.ref f_10)))
    (i_10 : PySem.W.isFn K (.ref f_10) = true)
    (l_10 : K.lookup f_10 = some ⟨oc_10, od_10, .func (PySem.W.fnOf "nought" "Rests.nought" (defArgs s_Rests_nought) (defBody s_Rests_nought) (defScope s_Rests_nought) .none kV_10 dc_10 pm_10 an_10 cd_10 ct_10), sl_10⟩)
    (c_10 : PySem.W.codeIn K cd_10 "Rests.nought" = true)
    (k_10 : PySem.W.keepIn K (.ref f_10) = true)
    (a_11_Rests : PySem.W.findIn K (.ref C_Rests) "one" = some (some (.ref f_11)))
    (i_11 : PySem.W.isFn K (.ref f_11) = true)
    (l_11 : K.lookup f_11 = some ⟨oc_11, od_11, .func (PySem.W.fnOf "one" "Rests.one" (defArgs s_Rests_one) (defBody s_Rests_one) (defScope s_Rests_one) .none kV_11 dc_11 pm_11 an_11 cd_11 ct_11), sl_11⟩)
    (c_11 : PySem.W.codeIn K cd_11 "Rests.one" = true)
    (k_11 : PySem.W.keepIn K (.ref f_11) = true)
    (a_12_Rests : PySem.W.findIn K (.ref C_Rests) "plus" = some (some (.ref f_12)))
    (i_12 : PySem.W.isFn K (.ref f_12) = true)
    (l_12 : K.lookup f_12 = some ⟨oc_12, od_12, .func (PySem.W.fnOf "plus" "Rests.plus" (defArgs s_Rests_plus) (defBody s_Rests_plus) (defScope s_Rests_plus) .none kV_12 dc_12 pm_12 an_12 cd_12 ct_12), sl_12⟩)
    (c_12 : PySem.W.codeIn K cd_12 "Rests.plus" = true)
    (k_12 : PySem.W.keepIn K (.ref f_12) = true)
    (a_13_Rests : PySem.W.findIn K (.ref C_Rests) "times" = some (some (.ref f_13)))
    (i_13 : PySem.W.isFn K (.ref f_13) = true)
    (l_13 : K.lookup f_13 = some ⟨oc_13, od_13, .func (PySem.W.fnOf "times" "Rests.times" (defArgs s_Rests_times) (defBody s_Rests_times) (defScope s_Rests_times) .none kV_13 dc_13 pm_13 an_13 cd_13 ct_13), sl_13⟩)
    (c_13 : PySem.W.codeIn K cd_13 "Rests.times" = true)
    (k_13 : PySem.W.keepIn K (.ref f_13) = true)
    (a_14_Rests : PySem.W.findIn K (.ref C_Rests) "against" = some (some (.ref f_14)))
    (i_14 : PySem.W.isFn K (.ref f_14) = true)
    (l_14 : K.lookup f_14 = some ⟨oc_14, od_14, .func (PySem.W.fnOf "against" "Rests.against" (defArgs s_Rests_against) (defBody s_Rests_against) (defScope s_Rests_against) .none kV_14 dc_14 pm_14 an_14 cd_14 ct_14), sl_14⟩)
    (c_14 : PySem.W.codeIn K cd_14 "Rests.against" = true)
    (k_14 : PySem.W.keepIn K (.ref f_14) = true)
    (a_15 : PySem.W.nsIn K mainGlobals "absorb" = some (some (.ref f_15)))
    (l_15 : K.lookup f_15 = some ⟨oc_15, od_15, .func (PySem.W.fnOf "absorb" "absorb" (defArgs s_absorb) (defBody s_absorb) (defScope s_absorb) .none kV_15 dc_15 pm_15 an_15 cd_15 ct_15), sl_15⟩)
    (c_15 : PySem.W.codeIn K cd_15 "absorb" = true)
    (k_15 : PySem.W.keepIn K (.ref f_15) = true)
    (a_16 : PySem.W.nsIn K mainGlobals "product" = some (some (.ref f_16)))
    (l_16 : K.lookup f_16 = some ⟨oc_16, od_16, .func (PySem.W.fnOf "product" "product" (defArgs s_product) (defBody s_product) (defScope s_product) .none kV_16 dc_16 pm_16 an_16 cd_16 ct_16), sl_16⟩)
    (c_16 : PySem.W.codeIn K cd_16 "product" = true)
    (k_16 : PySem.W.keepIn K (.ref f_16) = true)
    (a_17 : PySem.W.nsIn K mainGlobals "scaled" = some (some (.ref f_17)))
    (l_17 : K.lookup f_17 = some ⟨oc_17, od_17, .func (PySem.W.fnOf "scaled" "scaled" (defArgs s_scaled) (defBody s_scaled) (defScope s_scaled) .none kV_17 dc_17 pm_17 an_17 cd_17 ct_17), sl_17⟩)
    (c_17 : PySem.W.codeIn K cd_17 "scaled" = true)
    (k_17 : PySem.W.keepIn K (.ref f_17) = true)
    (a_18 : PySem.W.nsIn K mainGlobals "negated" = some (some (.ref f_18)))
    (l_18 : K.lookup f_18 = some ⟨oc_18, od_18, .func (PySem.W.fnOf "negated" "negated" (defArgs s_negated) (defBody s_negated) (defScope s_negated) .none kV_18 dc_18 pm_18 an_18 cd_18 ct_18), sl_18⟩)
    (c_18 : PySem.W.codeIn K cd_18 "negated" = true)
    (k_18 : PySem.W.keepIn K (.ref f_18) = true)
    (a_19 : PySem.W.nsIn K mainGlobals "plus" = some (some (.ref f_19)))
    (l_19 : K.lookup f_19 = some ⟨oc_19, od_19, .func (PySem.W.fnOf "plus" "plus" (defArgs s_plus) (defBody s_plus) (defScope s_plus) .none kV_19 dc_19 pm_19 an_19 cd_19 ct_19), sl_19⟩)
    (c_19 : PySem.W.codeIn K cd_19 "plus" = true)
    (k_19 : PySem.W.keepIn K (.ref f_19) = true)
    (a_20 : PySem.W.nsIn K mainGlobals "minus" = some (some (.ref f_20)))
    (l_20 : K.lookup f_20 = some ⟨oc_20, od_20, .func (PySem.W.fnOf "minus" "minus" (defArgs s_minus) (defBody s_minus) (defScope s_minus) .none kV_20 dc_20 pm_20 an_20 cd_20 ct_20), sl_20⟩)
    (c_20 : PySem.W.codeIn K cd_20 "minus" = true)
    (k_20 : PySem.W.keepIn K (.ref f_20) = true)
    (a_21 : PySem.W.nsIn K mainGlobals "times" = some (some (.ref f_21)))
    (l_21 : K.lookup f_21 = some ⟨oc_21, od_21, .func (PySem.W.fnOf "times" "times" (defArgs s_times) (defBody s_times) (defScope s_times) .none kV_21 dc_21 pm_21 an_21 cd_21 ct_21), sl_21⟩)
    (c_21 : PySem.W.codeIn K cd_21 "times" = true)
    (k_21 : PySem.W.keepIn K (.ref f_21) = true)
    (a_22 : PySem.W.nsIn K mainGlobals "_law_cell" = some (some (.ref f_22)))
    (l_22 : K.lookup f_22 = some ⟨oc_22, od_22, .func (PySem.W.fnOf "_law_cell" "_law_cell" (defArgs s__law_cell) (defBody s__law_cell) (defScope s__law_cell) .none kV_22 dc_22 pm_22 an_22 cd_22 ct_22), sl_22⟩)
    (c_22 : PySem.W.codeIn K cd_22 "_law_cell" = true)
    (k_22 : PySem.W.keepIn K (.ref f_22) = true)
    (a_23 : PySem.W.nsIn K mainGlobals "_law_shared" = some (some (.ref f_23)))
    (l_23 : K.lookup f_23 = some ⟨oc_23, od_23, .func (PySem.W.fnOf "_law_shared" "_law_shared" (defArgs s__law_shared) (defBody s__law_shared) (defScope s__law_shared) .none kV_23 dc_23 pm_23 an_23 cd_23 ct_23), sl_23⟩)
    (c_23 : PySem.W.codeIn K cd_23 "_law_shared" = true)
    (k_23 : PySem.W.keepIn K (.ref f_23) = true)
    (a_24 : PySem.W.nsIn K mainGlobals "_law_is_prime" = some (some (.ref f_24)))
    (l_24 : K.lookup f_24 = some ⟨oc_24, od_24, .func (PySem.W.fnOf "_law_is_prime" "_law_is_prime" (defArgs s__law_is_prime) (defBody s__law_is_prime) (defScope s__law_is_prime) .none kV_24 dc_24 pm_24 an_24 cd_24 ct_24), sl_24⟩)
    (c_24 : PySem.W.codeIn K cd_24 "_law_is_prime" = true)
    (k_24 : PySem.W.keepIn K (.ref f_24) = true)
    (a_25 : PySem.W.nsIn K mainGlobals "_law_prime" = some (some (.ref f_25)))
    (l_25 : K.lookup f_25 = some ⟨oc_25, od_25, .func (PySem.W.fnOf "_law_prime" "_law_prime" (defArgs s__law_prime) (defBody s__law_prime) (defScope s__law_prime) .none kV_25 dc_25 pm_25 an_25 cd_25 ct_25), sl_25⟩)
    (c_25 : PySem.W.codeIn K cd_25 "_law_prime" = true)
    (k_25 : PySem.W.keepIn K (.ref f_25) = true)
    (a_26 : PySem.W.nsIn K mainGlobals "_law_made" = some (some (.ref f_26)))
    (l_26 : K.lookup f_26 = some ⟨oc_26, od_26, .func (PySem.W.fnOf "_law_made" "_law_made" (defArgs s__law_made) (defBody s__law_made) (defScope s__law_made) .none kV_26 dc_26 pm_26 an_26 cd_26 ct_26), sl_26⟩)
    (c_26 : PySem.W.codeIn K cd_26 "_law_made" = true)
    (k_26 : PySem.W.keepIn K (.ref f_26) = true)
    (a_27_Degrees : PySem.W.findIn K (.ref C_Degrees) "fits" = some (some (.ref f_27)))
    (a_27_Order : PySem.W.findIn K (.ref C_Order) "fits" = some (some (.ref f_27)))
    (a_27_Tails : PySem.W.findIn K (.ref C_Tails) "fits" = some (some (.ref f_27)))
    (i_27 : PySem.W.isFn K (.ref f_27) = true)
    (l_27 : K.lookup f_27 = some ⟨oc_27, od_27, .func (PySem.W.fnOf "fits" "Order.fits" (defArgs s_Order_fits) (defBody s_Order_fits) (defScope s_Order_fits) .none kV_27 dc_27 pm_27 an_27 cd_27 ct_27), sl_27⟩)
    (c_27 : PySem.W.codeIn K cd_27 "Order.fits" = true)
    (k_27 : PySem.W.keepIn K (.ref f_27) = true)
    (a_28_Ring : PySem.W.findIn K (.ref C_Ring) "__init__" = some (some (.ref f_28)))
    (i_28 : PySem.W.isFn K (.ref f_28) = true)
    (l_28 : K.lookup f_28 = some ⟨oc_28, od_28, .func (PySem.W.fnOf "__init__" "Ring.__init__" (defArgs s_Ring___init__) (defBody s_Ring___init__) (defScope s_Ring___init__) .none kV_28 dc_28 pm_28 an_28 cd_28 ct_28), sl_28⟩)
    (c_28 : PySem.W.codeIn K cd_28 "Ring.__init__" = true)
    (k_28 : PySem.W.keepIn K (.ref f_28) = true)
    (a_29 : PySem.W.nsIn K mainGlobals "_law_add" = some (some (.ref f_29)))
    (l_29 : K.lookup f_29 = some ⟨oc_29, od_29, .func (PySem.W.fnOf "_law_add" "_law_add" (defArgs s__law_add) (defBody s__law_add) (defScope s__law_add) .none kV_29 dc_29 pm_29 an_29 cd_29 ct_29), sl_29⟩)
    (c_29 : PySem.W.codeIn K cd_29 "_law_add" = true)
    (k_29 : PySem.W.keepIn K (.ref f_29) = true)
    (a_30 : PySem.W.nsIn K mainGlobals "_law_mul" = some (some (.ref f_30)))
    (l_30 : K.lookup f_30 = some ⟨oc_30, od_30, .func (PySem.W.fnOf "_law_mul" "_law_mul" (defArgs s__law_mul) (defBody s__law_mul) (defScope s__law_mul) .none kV_30 dc_30 pm_30 an_30 cd_30 ct_30), sl_30⟩)
    (c_30 : PySem.W.codeIn K cd_30 "_law_mul" = true)
    (k_30 : PySem.W.keepIn K (.ref f_30) = true)
    (a_31 : PySem.W.nsIn K mainGlobals "_law_power" = some (some (.ref f_31)))
    (l_31 : K.lookup f_31 = some ⟨oc_31, od_31, .func (PySem.W.fnOf "_law_power" "_law_power" (defArgs s__law_power) (defBody s__law_power) (defScope s__law_power) .none kV_31 dc_31 pm_31 an_31 cd_31 ct_31), sl_31⟩)
    (c_31 : PySem.W.codeIn K cd_31 "_law_power" = true)
    (k_31 : PySem.W.keepIn K (.ref f_31) = true)
    (a_32 : PySem.W.nsIn K mainGlobals "_law_term" = some (some (.ref f_32)))
    (l_32 : K.lookup f_32 = some ⟨oc_32, od_32, .func (PySem.W.fnOf "_law_term" "_law_term" (defArgs s__law_term) (defBody s__law_term) (defScope s__law_term) .none kV_32 dc_32 pm_32 an_32 cd_32 ct_32), sl_32⟩)
    (c_32 : PySem.W.codeIn K cd_32 "_law_term" = true)
    (k_32 : PySem.W.keepIn K (.ref f_32) = true)
    (a_33 : PySem.W.nsIn K mainGlobals "_law_poly" = some (some (.ref f_33)))
    (l_33 : K.lookup f_33 = some ⟨oc_33, od_33, .func (PySem.W.fnOf "_law_poly" "_law_poly" (defArgs s__law_poly) (defBody s__law_poly) (defScope s__law_poly) .none kV_33 dc_33 pm_33 an_33 cd_33 ct_33), sl_33⟩)
    (c_33 : PySem.W.codeIn K cd_33 "_law_poly" = true)
    (k_33 : PySem.W.keepIn K (.ref f_33) = true)
    (a_34 : PySem.W.nsIn K mainGlobals "_law_kinds" = some (some (.ref f_34)))
    (l_34 : K.lookup f_34 = some ⟨oc_34, od_34, .func (PySem.W.fnOf "_law_kinds" "_law_kinds" (defArgs s__law_kinds) (defBody s__law_kinds) (defScope s__law_kinds) .none kV_34 dc_34 pm_34 an_34 cd_34 ct_34), sl_34⟩)
    (c_34 : PySem.W.codeIn K cd_34 "_law_kinds" = true)
    (k_34 : PySem.W.keepIn K (.ref f_34) = true)
    (a_35 : PySem.W.nsIn K mainGlobals "_law_is_sum" = some (some (.ref f_35)))
    (l_35 : K.lookup f_35 = some ⟨oc_35, od_35, .func (PySem.W.fnOf "_law_is_sum" "_law_is_sum" (defArgs s__law_is_sum) (defBody s__law_is_sum) (defScope s__law_is_sum) .none kV_35 dc_35 pm_35 an_35 cd_35 ct_35), sl_35⟩)
    (c_35 : PySem.W.codeIn K cd_35 "_law_is_sum" = true)
    (k_35 : PySem.W.keepIn K (.ref f_35) = true)
    (a_36 : PySem.W.nsIn K mainGlobals "_law_is_product" = some (some (.ref f_36)))
    (l_36 : K.lookup f_36 = some ⟨oc_36, od_36, .func (PySem.W.fnOf "_law_is_product" "_law_is_product" (defArgs s__law_is_product) (defBody s__law_is_product) (defScope s__law_is_product) .none kV_36 dc_36 pm_36 an_36 cd_36 ct_36), sl_36⟩)
    (c_36 : PySem.W.codeIn K cd_36 "_law_is_product" = true)
    (k_36 : PySem.W.keepIn K (.ref f_36) = true)
    (a_37 : PySem.W.nsIn K mainGlobals "_law_whole_again" = some (some (.ref f_37)))
    (l_37 : K.lookup f_37 = some ⟨oc_37, od_37, .func (PySem.W.fnOf "_law_whole_again" "_law_whole_again" (defArgs s__law_whole_again) (defBody s__law_whole_again) (defScope s__law_whole_again) .none kV_37 dc_37 pm_37 an_37 cd_37 ct_37), sl_37⟩)
    (c_37 : PySem.W.codeIn K cd_37 "_law_whole_again" = true)
    (k_37 : PySem.W.keepIn K (.ref f_37) = true)
    (a_38 : PySem.W.nsIn K mainGlobals "_law_own" = some (some (.ref f_38)))
    (l_38 : K.lookup f_38 = some ⟨oc_38, od_38, .func (PySem.W.fnOf "_law_own" "_law_own" (defArgs s__law_own) (defBody s__law_own) (defScope s__law_own) .none kV_38 dc_38 pm_38 an_38 cd_38 ct_38), sl_38⟩)
    (c_38 : PySem.W.codeIn K cd_38 "_law_own" = true)
    (k_38 : PySem.W.keepIn K (.ref f_38) = true)
    (a_39 : PySem.W.nsIn K mainGlobals "_law_eight" = some (some (.ref f_39)))
    (l_39 : K.lookup f_39 = some ⟨oc_39, od_39, .func (PySem.W.fnOf "_law_eight" "_law_eight" (defArgs s__law_eight) (defBody s__law_eight) (defScope s__law_eight) .none kV_39 dc_39 pm_39 an_39 cd_39 ct_39), sl_39⟩)
    (c_39 : PySem.W.codeIn K cd_39 "_law_eight" = true)
    (k_39 : PySem.W.keepIn K (.ref f_39) = true)
    (a_40 : PySem.W.nsIn K mainGlobals "law" = some (some (.ref f_40)))
    (l_40 : K.lookup f_40 = some ⟨oc_40, od_40, .func (PySem.W.fnOf "law" "law" (defArgs s_law) (defBody s_law) (defScope s_law) .none kV_40 dc_40 pm_40 an_40 cd_40 ct_40), sl_40⟩)
    (c_40 : PySem.W.codeIn K cd_40 "law" = true)
    (k_40 : PySem.W.keepIn K (.ref f_40) = true)
    (a_NoPrime : PySem.W.nsIn K mainGlobals "NoPrime" = some (some (.ref E_NoPrime)))
    (FB_NoPrime : ExcBaseFacts B_NoPrime nid_NoPrime ini_NoPrime bm_NoPrime)
    (xE_NoPrime : PySem.W.excIn K E_NoPrime bm_NoPrime nid_NoPrime = true)
    (xm_NoPrime : PySem.W.exmOne K (.ref E_NoPrime) (.ref E_NoPrime) = some true)
    (a_NoRing : PySem.W.nsIn K mainGlobals "NoRing" = some (some (.ref E_NoRing)))
    (FB_NoRing : ExcBaseFacts B_NoRing nid_NoRing ini_NoRing bm_NoRing)
    (xE_NoRing : PySem.W.excIn K E_NoRing bm_NoRing nid_NoRing = true)
    (xm_NoRing : PySem.W.exmOne K (.ref E_NoRing) (.ref E_NoRing) = some true)
    (q_kdd : PySem.W.kitOne K (.type "dict") (.type "dict") = some true)
    (q_kib : PySem.W.kitOne K (.type "int") (.type "bool") = some false)
    (q_kii : PySem.W.kitOne K (.type "int") (.type "int") = some true)
    (q_ktt : PySem.W.kitOne K (.type "tuple") (.type "tuple") = some true)
    (z_abs : PySem.W.nsIn K mainGlobals "abs" = some none)
    (z_all : PySem.W.nsIn K mainGlobals "all" = some none)
    (z_bool : PySem.W.nsIn K mainGlobals "bool" = some none)
    (z_dict : PySem.W.nsIn K mainGlobals "dict" = some none)
    (z_int : PySem.W.nsIn K mainGlobals "int" = some none)
    (z_isinstance : PySem.W.nsIn K mainGlobals "isinstance" = some none)
    (z_len : PySem.W.nsIn K mainGlobals "len" = some none)
    (z_list : PySem.W.nsIn K mainGlobals "list" = some none)
    (z_range : PySem.W.nsIn K mainGlobals "range" = some none)
    (z_tuple : PySem.W.nsIn K mainGlobals "tuple" = some none)
    (z_zip : PySem.W.nsIn K mainGlobals "zip" = some none)
    (g_GREATEST_PRIME : PySem.W.nsIn K mainGlobals "GREATEST_PRIME" = some (some (.int 9973 tg_GREATEST_PRIME)))
    (g_LETTERS : PySem.W.nsIn K mainGlobals "LETTERS" = some (some (.str "xyzt" tg_LETTERS)))
    : ∃ fd : FuncData, (∀ (s : Shared) (v : Value), BindsTo s fd ⟨[v], []⟩ [("_law_script", v)]) ∧ ∀ base : Heap, K.In base → base.Ns mainGlobals mg → FnOk l.prog w K mg base CX0 10 fa fd ["_law_script"] (spLaw K) := by
  have e := hfa.symm.trans (PySem.W.mg_of X G a_40)
  cases e
  have T : Txt K mg C_Ring C_Fractions C_Rests C_Order C_Degrees C_Tails := ⟨PySem.W.mg_none_of X G z_abs, PySem.W.mg_none_of X G z_all, PySem.W.mg_none_of X G z_bool, PySem.W.mg_none_of X G z_dict, PySem.W.mg_none_of X G z_int, PySem.W.mg_none_of X G z_isinstance, PySem.W.mg_none_of X G z_len, PySem.W.mg_none_of X G z_list, PySem.W.mg_none_of X G z_range, PySem.W.mg_none_of X G z_tuple, PySem.W.mg_none_of X G z_zip, ⟨pg_Ring, hd_Ring, po_Ring, sa_Ring⟩, PySem.W.mg_of X G a_Ring, na_Ring_many, na_Ring_field, na_Ring_order, ⟨pg_Fractions, hd_Fractions, po_Fractions, sa_Fractions⟩, PySem.W.mg_of X G a_Fractions, na_Fractions_prime, ⟨pg_Rests, hd_Rests, po_Rests, sa_Rests⟩, PySem.W.mg_of X G a_Rests, na_Rests_prime, ⟨pg_Order, hd_Order, po_Order, sa_Order⟩, PySem.W.mg_of X G a_Order, ⟨mk_Order, in_Order, kc_Order⟩, ⟨pg_Degrees, hd_Degrees, po_Degrees, sa_Degrees⟩, PySem.W.mg_of X G a_Degrees, ⟨mk_Degrees, in_Degrees, kc_Degrees⟩, ⟨pg_Tails, hd_Tails, po_Tails, sa_Tails⟩, PySem.W.mg_of X G a_Tails, ⟨mk_Tails, in_Tails, kc_Tails⟩, ⟨_, PySem.W.mg_of X G g_GREATEST_PRIME⟩, ⟨_, PySem.W.mg_of X G g_LETTERS⟩, q_kdd, q_kib, q_kii, q_ktt⟩
  have F_0 := funD_mk (st := s_shared_divisor) l_0 c_0
  have b_0 := F_0.binds (ps := ["one", "other"]) fun _ _ _ _ _ _ us hl => match us, hl with | [_, _], _ => rfl
  have F_1 := funD_mk (st := s_is_prime) l_1 c_1
  have b_1 := F_1.binds (ps := ["number"]) fun _ _ _ _ _ _ us hl => match us, hl with | [_], _ => rfl
  have F_2 := funD_mk (st := s_Field___init__) l_2 c_2
  have b_2 := F_2.binds (ps := ["self", "prime"]) fun _ _ _ _ _ _ us hl => match us, hl with | [_, _], _ => rfl
  have F_3 := funD_mk (st := s_Fractions___init__) l_3 c_3
  have b_3 := F_3.binds (ps := ["self"]) fun _ _ _ _ _ _ us hl => match us, hl with | [_], _ => rfl
  have F_4 := funD_mk (st := s_Fractions_nought) l_4 c_4
  have b_4 := F_4.binds (ps := ["self"]) fun _ _ _ _ _ _ us hl => match us, hl with | [_], _ => rfl
  have F_5 := funD_mk (st := s_Fractions_one) l_5 c_5
  have b_5 := F_5.binds (ps := ["self"]) fun _ _ _ _ _ _ us hl => match us, hl with | [_], _ => rfl
  have F_6 := funD_mk (st := s_Fractions_plus) l_6 c_6
  have b_6 := F_6.binds (ps := ["self", "a", "b"]) fun _ _ _ _ _ _ us hl => match us, hl with | [_, _, _], _ => rfl
  have F_7 := funD_mk (st := s_Fractions_times) l_7 c_7
  have b_7 := F_7.binds (ps := ["self", "a", "b"]) fun _ _ _ _ _ _ us hl => match us, hl with | [_, _, _], _ => rfl
  have F_8 := funD_mk (st := s_Fractions_against) l_8 c_8
  have b_8 := F_8.binds (ps := ["self", "a"]) fun _ _ _ _ _ _ us hl => match us, hl with | [_, _], _ => rfl
  have F_9 := funD_mk (st := s_Rests___init__) l_9 c_9
  have b_9 := F_9.binds (ps := ["self", "prime"]) fun _ _ _ _ _ _ us hl => match us, hl with | [_, _], _ => rfl
  have F_10 := funD_mk (st := s_Rests_nought) l_10 c_10
  have b_10 := F_10.binds (ps := ["self"]) fun _ _ _ _ _ _ us hl => match us, hl with | [_], _ => rfl
  have F_11 := funD_mk (st := s_Rests_one) l_11 c_11
  have b_11 := F_11.binds (ps := ["self"]) fun _ _ _ _ _ _ us hl => match us, hl with | [_], _ => rfl
  have F_12 := funD_mk (st := s_Rests_plus) l_12 c_12
  have b_12 := F_12.binds (ps := ["self", "a", "b"]) fun _ _ _ _ _ _ us hl => match us, hl with | [_, _, _], _ => rfl
  have F_13 := funD_mk (st := s_Rests_times) l_13 c_13
  have b_13 := F_13.binds (ps := ["self", "a", "b"]) fun _ _ _ _ _ _ us hl => match us, hl with | [_, _, _], _ => rfl
  have F_14 := funD_mk (st := s_Rests_against) l_14 c_14
  have b_14 := F_14.binds (ps := ["self", "a"]) fun _ _ _ _ _ _ us hl => match us, hl with | [_, _], _ => rfl
  have F_15 := funD_mk (st := s_absorb) l_15 c_15
  have b_15 := F_15.binds (ps := ["ring", "total", "f"]) fun _ _ _ _ _ _ us hl => match us, hl with | [_, _, _], _ => rfl
  have F_16 := funD_mk (st := s_product) l_16 c_16
  have b_16 := F_16.binds (ps := ["one", "other"]) fun _ _ _ _ _ _ us hl => match us, hl with | [_, _], _ => rfl
  have F_17 := funD_mk (st := s_scaled) l_17 c_17
  have b_17 := F_17.binds (ps := ["ring", "number", "term", "f"]) fun _ _ _ _ _ _ us hl => match us, hl with | [_, _, _, _], _ => rfl
  have F_18 := funD_mk (st := s_negated) l_18 c_18
  have b_18 := F_18.binds (ps := ["ring", "f"]) fun _ _ _ _ _ _ us hl => match us, hl with | [_, _], _ => rfl
  have F_19 := funD_mk (st := s_plus) l_19 c_19
  have b_19 := F_19.binds (ps := ["ring", "f", "g"]) fun _ _ _ _ _ _ us hl => match us, hl with | [_, _, _], _ => rfl
  have F_20 := funD_mk (st := s_minus) l_20 c_20
  have b_20 := F_20.binds (ps := ["ring", "f", "g"]) fun _ _ _ _ _ _ us hl => match us, hl with | [_, _, _], _ => rfl
  have F_21 := funD_mk (st := s_times) l_21 c_21
  have b_21 := F_21.binds (ps := ["ring", "f", "g"]) fun _ _ _ _ _ _ us hl => match us, hl with | [_, _, _], _ => rfl
  have F_22 := funD_mk (st := s__law_cell) l_22 c_22
  have b_22 := F_22.binds (ps := ["_law_script", "_law_k"]) fun _ _ _ _ _ _ us hl => match us, hl with | [_, _], _ => rfl
  have F_23 := funD_mk (st := s__law_shared) l_23 c_23
  have b_23 := F_23.binds (ps := ["_law_a", "_law_b"]) fun _ _ _ _ _ _ us hl => match us, hl with | [_, _], _ => rfl
  have F_24 := funD_mk (st := s__law_is_prime) l_24 c_24
  have b_24 := F_24.binds (ps := ["_law_number"]) fun _ _ _ _ _ _ us hl => match us, hl with | [_], _ => rfl
  have F_25 := funD_mk (st := s__law_prime) l_25 c_25
  have b_25 := F_25.binds (ps := ["_law_cell_here"]) fun _ _ _ _ _ _ us hl => match us, hl with | [_], _ => rfl
  have F_26 := funD_mk (st := s__law_made) l_26 c_26
  have b_26 := F_26.binds (ps := ["_law_top", "_law_bottom", "_law_prime_here"]) fun _ _ _ _ _ _ us hl => match us, hl with | [_, _, _], _ => rfl
  have F_27 := funD_mk (st := s_Order_fits) l_27 c_27
  have b_27 := F_27.binds (ps := ["self", "many"]) fun _ _ _ _ _ _ us hl => match us, hl with | [_, _], _ => rfl
  have F_28 := funD_mk (st := s_Ring___init__) l_28 c_28
  have b_28 := F_28.binds (ps := ["self", "many", "field", "order"]) fun _ _ _ _ _ _ us hl => match us, hl with | [_, _, _, _], _ => rfl
  have F_29 := funD_mk (st := s__law_add) l_29 c_29
  have b_29 := F_29.binds (ps := ["_law_a", "_law_b", "_law_prime_here"]) fun _ _ _ _ _ _ us hl => match us, hl with | [_, _, _], _ => rfl
  have F_30 := funD_mk (st := s__law_mul) l_30 c_30
  have b_30 := F_30.binds (ps := ["_law_a", "_law_b", "_law_prime_here"]) fun _ _ _ _ _ _ us hl => match us, hl with | [_, _, _], _ => rfl
  have F_31 := funD_mk (st := s__law_power) l_31 c_31
  have b_31 := F_31.binds (ps := ["_law_cell_here", "_law_at"]) fun _ _ _ _ _ _ us hl => match us, hl with | [_, _], _ => rfl
  have F_32 := funD_mk (st := s__law_term) l_32 c_32
  have b_32 := F_32.binds (ps := ["_law_cell_here", "_law_many"]) fun _ _ _ _ _ _ us hl => match us, hl with | [_, _], _ => rfl
  have F_33 := funD_mk (st := s__law_poly) l_33 c_33
  have b_33 := F_33.binds (ps := ["_law_cells", "_law_many", "_law_prime_here"]) fun _ _ _ _ _ _ us hl => match us, hl with | [_, _, _], _ => rfl
  have F_34 := funD_mk (st := s__law_kinds) l_34 c_34
  have b_34 := F_34.binds (ps := ["_law_found", "_law_many", "_law_prime_here"]) fun _ _ _ _ _ _ us hl => match us, hl with | [_, _, _], _ => rfl
  have F_35 := funD_mk (st := s__law_is_sum) l_35 c_35
  have b_35 := F_35.binds (ps := ["_law_found", "_law_f", "_law_g", "_law_sign", "_law_prime_here"]) fun _ _ _ _ _ _ us hl => match us, hl with | [_, _, _, _, _], _ => rfl
  have F_36 := funD_mk (st := s__law_is_product) l_36 c_36
  have b_36 := F_36.binds (ps := ["_law_found", "_law_f", "_law_g", "_law_prime_here"]) fun _ _ _ _ _ _ us hl => match us, hl with | [_, _, _, _], _ => rfl
  have F_37 := funD_mk (st := s__law_whole_again) l_37 c_37
  have b_37 := F_37.binds (ps := ["_law_ring", "_law_f", "_law_prime_here"]) fun _ _ _ _ _ _ us hl => match us, hl with | [_, _, _], _ => rfl
  have F_38 := funD_mk (st := s__law_own) l_38 c_38
  have b_38 := F_38.binds (ps := ["_law_ring", "_law_f", "_law_prime_here"]) fun _ _ _ _ _ _ us hl => match us, hl with | [_, _, _], _ => rfl
  have F_39 := funD_mk (st := s__law_eight) l_39 c_39
  have b_39 := F_39.binds (ps := ["_law_ring", "_law_cells", "_law_prime_here"]) fun _ _ _ _ _ _ us hl => match us, hl with | [_, _, _], _ => rfl
  have F_40 := funD_mk (st := s_law) l_40 c_40
  have b_40 := F_40.binds (ps := ["_law_script"]) fun _ _ _ _ _ _ us hl => match us, hl with | [_], _ => rfl
  refine ⟨PySem.W.fnOf "law" "law" (defArgs s_law) (defBody s_law) (defScope s_law) .none kV_40 dc_40 pm_40 an_40 cd_40 ct_40, fun s v => .of_eq rfl, fun base kb nb => ?_⟩
  have x_NoPrime : Exc K mg base "NoPrime" E_NoPrime := ⟨⟨_, _, _, _, own_in kb nb a_NoPrime xE_NoPrime, FB_NoPrime⟩, PySem.W.mg_of X G a_NoPrime, xm_NoPrime⟩
  have x_NoRing : Exc K mg base "NoRing" E_NoRing := ⟨⟨_, _, _, _, own_in kb nb a_NoRing xE_NoRing, FB_NoRing⟩, PySem.W.mg_of X G a_NoRing, xm_NoRing⟩
  have G_Shared := ok_Shared (P := l.prog) (w := w) (base := base) F_0 T  
  have c_Shared : Cal _ _ _ _ _ _ _ _ _ _ _ := ⟨_, _, G_Shared, b_0, k_0, PySem.W.mg_of X G a_0⟩
  have G_Prime := ok_Prime (P := l.prog) (w := w) (base := base) F_1 T  
  have c_Prime : Cal _ _ _ _ _ _ _ _ _ _ _ := ⟨_, _, G_Prime, b_1, k_1, PySem.W.mg_of X G a_1⟩
  have G_FieldInit := ok_FieldInit (P := l.prog) (w := w) (base := base) F_2 T  
  have q_FieldInit : CCal _ _ _ _ _ _ _ _ _ _ _ _ := ⟨_, _, _, G_FieldInit, b_2, ⟨⟨_, rq_2, fq_2⟩, sq_2, k_2⟩, PySem.W.mg_of X G aq_2⟩
  have G_FracInit := ok_FracInit (P := l.prog) (w := w) (base := base) F_3 T q_FieldInit 
  have k_FracInit : Mak _ _ _ _ _ _ _ _ _ _ _ _ := ⟨⟨_, _, G_FracInit, b_3, ⟨mk_Fractions, a_3_Fractions, i_3, kc_Fractions⟩⟩, T.mg_Fractions⟩
  have G_Nought := ok_Nought (P := l.prog) (w := w) (base := base) F_4 T  
  have mf_Nought : MCal l.prog w K mg base CX0 1 C_Fractions "nought" ["self"] [] (spNo 0 0 (AtF C_Fractions)) := ⟨⟨_, _, ((G_Nought).imp imp_no0).mono (by decide), b_4, ⟨a_4_Fractions, i_4, k_4⟩⟩, T.cl_Fractions⟩
  have G_One := ok_One (P := l.prog) (w := w) (base := base) F_5 T  
  have mf_One : MCal l.prog w K mg base CX0 1 C_Fractions "one" ["self"] [] (spNo 1 0 (AtF C_Fractions)) := ⟨⟨_, _, ((G_One).imp imp_no0).mono (by decide), b_5, ⟨a_5_Fractions, i_5, k_5⟩⟩, T.cl_Fractions⟩
  have G_PlusF := ok_PlusF (P := l.prog) (w := w) (base := base) F_6 T c_Shared 
  have mf_PlusF : MCal l.prog w K mg base CX0 3 C_Fractions "plus" ["self", "a", "b"] [] (spPl 0 (AtF C_Fractions)) := ⟨⟨_, _, ((G_PlusF).imp imp_pl0).mono (by decide), b_6, ⟨a_6_Fractions, i_6, k_6⟩⟩, T.cl_Fractions⟩
  have G_TimesF := ok_TimesF (P := l.prog) (w := w) (base := base) F_7 T c_Shared 
  have mf_TimesF : MCal l.prog w K mg base CX0 3 C_Fractions "times" ["self", "a", "b"] [] (spTi 0 (AtF C_Fractions)) := ⟨⟨_, _, ((G_TimesF).imp imp_ti0).mono (by decide), b_7, ⟨a_7_Fractions, i_7, k_7⟩⟩, T.cl_Fractions⟩
  have G_AgF := ok_AgF (P := l.prog) (w := w) (base := base) F_8 T  
  have mf_AgF : MCal l.prog w K mg base CX0 1 C_Fractions "against" ["self", "a"] [] (spAg 0 (AtF C_Fractions)) := ⟨⟨_, _, ((G_AgF).imp imp_ag0).mono (by decide), b_8, ⟨a_8_Fractions, i_8, k_8⟩⟩, T.cl_Fractions⟩
  have G_RestsInit := ok_RestsInit (P := l.prog) (w := w) (base := base) F_9 T c_Prime q_FieldInit x_NoPrime 
  have k_RestsInit : Mak _ _ _ _ _ _ _ _ _ _ _ _ := ⟨⟨_, _, G_RestsInit, b_9, ⟨mk_Rests, a_9_Rests, i_9, kc_Rests⟩⟩, T.mg_Rests⟩
  have G_NoughtR := ok_NoughtR (P := l.prog) (w := w) (base := base) F_10 T  
  have mf_NoughtR : ∀ n : Int, K3.Pr n → MCal l.prog w K mg base CX0 1 C_Rests "nought" ["self"] [] (spNo 0 n (AtR C_Rests n)) := fun n hn => ⟨⟨_, _, ((G_NoughtR).imp (imp_noR hn (by decide) (by decide))).mono (by decide), b_10, ⟨a_10_Rests, i_10, k_10⟩⟩, T.cl_Rests⟩
  have G_OneR := ok_OneR (P := l.prog) (w := w) (base := base) F_11 T  
  have mf_OneR : ∀ n : Int, K3.Pr n → MCal l.prog w K mg base CX0 1 C_Rests "one" ["self"] [] (spNo 1 n (AtR C_Rests n)) := fun n hn => ⟨⟨_, _, ((G_OneR).imp (imp_noR hn (by decide) (by decide))).mono (by decide), b_11, ⟨a_11_Rests, i_11, k_11⟩⟩, T.cl_Rests⟩
  have G_PlusR := ok_PlusR (P := l.prog) (w := w) (base := base) F_12 T  
  have mf_PlusR : ∀ n : Int, K3.Pr n → MCal l.prog w K mg base CX0 3 C_Rests "plus" ["self", "a", "b"] [] (spPl n (AtR C_Rests n)) := fun n hn => ⟨⟨_, _, ((G_PlusR).imp (imp_plR hn)).mono (by decide), b_12, ⟨a_12_Rests, i_12, k_12⟩⟩, T.cl_Rests⟩
  have G_TimesR := ok_TimesR (P := l.prog) (w := w) (base := base) F_13 T  
  have mf_TimesR : ∀ n : Int, K3.Pr n → MCal l.prog w K mg base CX0 3 C_Rests "times" ["self", "a", "b"] [] (spTi n (AtR C_Rests n)) := fun n hn => ⟨⟨_, _, ((G_TimesR).imp (imp_tiR hn)).mono (by decide), b_13, ⟨a_13_Rests, i_13, k_13⟩⟩, T.cl_Rests⟩
  have G_AgR := ok_AgR (P := l.prog) (w := w) (base := base) F_14 T  
  have mf_AgR : ∀ n : Int, K3.Pr n → MCal l.prog w K mg base CX0 1 C_Rests "against" ["self", "a"] [] (spAg n (AtR C_Rests n)) := fun n hn => ⟨⟨_, _, ((G_AgR).imp (imp_agR hn)).mono (by decide), b_14, ⟨a_14_Rests, i_14, k_14⟩⟩, T.cl_Rests⟩
  have hfld : ∀ n : Int, n ≤ 9973 → (n = 0 ∨ K3.Pr n) → ∃ C, FldQ l.prog w K mg base C (AtN C_Fractions C_Rests n) n := by
    rintro n n1 (rfl | n2)
    · exact ⟨C_Fractions, fldQ_F mf_Nought mf_One mf_PlusF mf_TimesF mf_AgF⟩
    · exact ⟨C_Rests, fldQ_R n2 (mf_NoughtR n n2) (mf_OneR n n2) (mf_PlusR n n2) (mf_TimesR n n2) (mf_AgR n n2)⟩
  have G_Absorb := ok_Absorb (P := l.prog) (w := w) (base := base) F_15 T  hfld
  have c_Absorb : Cal _ _ _ _ _ _ _ _ _ _ _ := ⟨_, _, G_Absorb, b_15, k_15, PySem.W.mg_of X G a_15⟩
  have G_Prod := ok_Prod (P := l.prog) (w := w) (base := base) F_16 T  
  have c_Prod : Cal _ _ _ _ _ _ _ _ _ _ _ := ⟨_, _, G_Prod, b_16, k_16, PySem.W.mg_of X G a_16⟩
  have G_Scal := ok_Scal (P := l.prog) (w := w) (base := base) F_17 T c_Prod hfld
  have c_Scal : Cal _ _ _ _ _ _ _ _ _ _ _ := ⟨_, _, G_Scal, b_17, k_17, PySem.W.mg_of X G a_17⟩
  have G_Neg := ok_Neg (P := l.prog) (w := w) (base := base) F_18 T  hfld
  have c_Neg : Cal _ _ _ _ _ _ _ _ _ _ _ := ⟨_, _, G_Neg, b_18, k_18, PySem.W.mg_of X G a_18⟩
  have G_Plus := ok_Plus (P := l.prog) (w := w) (base := base) F_19 T c_Absorb 
  have c_Plus : Cal _ _ _ _ _ _ _ _ _ _ _ := ⟨_, _, G_Plus, b_19, k_19, PySem.W.mg_of X G a_19⟩
  have G_Minus := ok_Minus (P := l.prog) (w := w) (base := base) F_20 T c_Neg c_Plus 
  have c_Minus : Cal _ _ _ _ _ _ _ _ _ _ _ := ⟨_, _, G_Minus, b_20, k_20, PySem.W.mg_of X G a_20⟩
  have G_Times := ok_Times (P := l.prog) (w := w) (base := base) F_21 T c_Scal c_Absorb 
  have c_Times : Cal _ _ _ _ _ _ _ _ _ _ _ := ⟨_, _, G_Times, b_21, k_21, PySem.W.mg_of X G a_21⟩
  have G_Cell := ok_Cell (P := l.prog) (w := w) (base := base) F_22 T  
  have c_Cell : Cal _ _ _ _ _ _ _ _ _ _ _ := ⟨_, _, G_Cell, b_22, k_22, PySem.W.mg_of X G a_22⟩
  have G_LShared := ok_LShared (P := l.prog) (w := w) (base := base) F_23 T  
  have c_LShared : Cal _ _ _ _ _ _ _ _ _ _ _ := ⟨_, _, G_LShared, b_23, k_23, PySem.W.mg_of X G a_23⟩
  have G_LPrime := ok_LPrime (P := l.prog) (w := w) (base := base) F_24 T  
  have c_LPrime : Cal _ _ _ _ _ _ _ _ _ _ _ := ⟨_, _, G_LPrime, b_24, k_24, PySem.W.mg_of X G a_24⟩
  have G_LPr := ok_LPr (P := l.prog) (w := w) (base := base) F_25 T c_LPrime 
  have c_LPr : Cal _ _ _ _ _ _ _ _ _ _ _ := ⟨_, _, G_LPr, b_25, k_25, PySem.W.mg_of X G a_25⟩
  have G_LMd := ok_LMd (P := l.prog) (w := w) (base := base) F_26 T c_LShared 
  have c_LMd : Cal _ _ _ _ _ _ _ _ _ _ _ := ⟨_, _, G_LMd, b_26, k_26, PySem.W.mg_of X G a_26⟩
  have fit_Order : MCal l.prog w K mg base CX0 1 C_Order "fits" ["self", "many"] [] (spFits (AtO C_Order) fun _ => true) := ⟨⟨_, _, ok_FitsO (P := l.prog) (w := w) (base := base) (At := AtO C_Order) F_27 T, b_27, ⟨a_27_Order, i_27, k_27⟩⟩, T.cl_Order⟩
  have fit_Degrees : MCal l.prog w K mg base CX0 1 C_Degrees "fits" ["self", "many"] [] (spFits (AtO C_Degrees) fun _ => true) := ⟨⟨_, _, ok_FitsO (P := l.prog) (w := w) (base := base) (At := AtO C_Degrees) F_27 T, b_27, ⟨a_27_Degrees, i_27, k_27⟩⟩, T.cl_Degrees⟩
  have fit_Tails : MCal l.prog w K mg base CX0 1 C_Tails "fits" ["self", "many"] [] (spFits (AtO C_Tails) fun _ => true) := ⟨⟨_, _, ok_FitsO (P := l.prog) (w := w) (base := base) (At := AtO C_Tails) F_27 T, b_27, ⟨a_27_Tails, i_27, k_27⟩⟩, T.cl_Tails⟩
  have hord : ∀ CD, IsO C_Order C_Degrees C_Tails CD → MCal l.prog w K mg base CX0 1 CD "fits" ["self", "many"] [] (spFits (AtO CD) fun _ => true) := by
    rintro CD (rfl | rfl | rfl)
    · exact fit_Order
    · exact fit_Degrees
    · exact fit_Tails
  have G_RgI := ok_RgI (P := l.prog) (w := w) (base := base) F_28 T x_NoRing hord
  have k_RgI : Mak _ _ _ _ _ _ _ _ _ _ _ _ := ⟨⟨_, _, G_RgI, b_28, ⟨mk_Ring, a_28_Ring, i_28, kc_Ring⟩⟩, T.mg_Ring⟩
  have G_LAdd := ok_LAdd (P := l.prog) (w := w) (base := base) F_29 T c_LMd 
  have c_LAdd : Cal _ _ _ _ _ _ _ _ _ _ _ := ⟨_, _, G_LAdd, b_29, k_29, PySem.W.mg_of X G a_29⟩
  have G_LMul := ok_LMul (P := l.prog) (w := w) (base := base) F_30 T c_LMd 
  have c_LMul : Cal _ _ _ _ _ _ _ _ _ _ _ := ⟨_, _, G_LMul, b_30, k_30, PySem.W.mg_of X G a_30⟩
  have G_Pwr := ok_Pwr (P := l.prog) (w := w) (base := base) F_31 T  
  have c_Pwr : Cal _ _ _ _ _ _ _ _ _ _ _ := ⟨_, _, G_Pwr, b_31, k_31, PySem.W.mg_of X G a_31⟩
  have G_Trm := ok_Trm (P := l.prog) (w := w) (base := base) F_32 T c_Pwr 
  have c_Trm : Cal _ _ _ _ _ _ _ _ _ _ _ := ⟨_, _, G_Trm, b_32, k_32, PySem.W.mg_of X G a_32⟩
  have G_LPoly := ok_LPoly (P := l.prog) (w := w) (base := base) F_33 T c_LMd c_Trm 
  have c_LPoly : Cal _ _ _ _ _ _ _ _ _ _ _ := ⟨_, _, G_LPoly, b_33, k_33, PySem.W.mg_of X G a_33⟩
  have G_Kinds := ok_Kinds (P := l.prog) (w := w) (base := base) F_34 T c_LMd 
  have c_Kinds : Cal _ _ _ _ _ _ _ _ _ _ _ := ⟨_, _, G_Kinds, b_34, k_34, PySem.W.mg_of X G a_34⟩
  have G_ISum := ok_ISum (P := l.prog) (w := w) (base := base) F_35 T c_LMd c_LMul c_LAdd 
  have c_ISum : Cal _ _ _ _ _ _ _ _ _ _ _ := ⟨_, _, G_ISum, b_35, k_35, PySem.W.mg_of X G a_35⟩
  have G_IPr := ok_IPr (P := l.prog) (w := w) (base := base) F_36 T c_LMd c_LMul c_LAdd 
  have c_IPr : Cal _ _ _ _ _ _ _ _ _ _ _ := ⟨_, _, G_IPr, b_36, k_36, PySem.W.mg_of X G a_36⟩
  have G_Wa := ok_Wa (P := l.prog) (w := w) (base := base) F_37 T c_LMd c_Plus c_Minus c_Scal c_Times 
  have c_Wa : Cal _ _ _ _ _ _ _ _ _ _ _ := ⟨_, _, G_Wa, b_37, k_37, PySem.W.mg_of X G a_37⟩
  have G_Own := ok_Own (P := l.prog) (w := w) (base := base) F_38 T c_Wa c_LMd 
  have c_Own : Cal _ _ _ _ _ _ _ _ _ _ _ := ⟨_, _, G_Own, b_38, k_38, PySem.W.mg_of X G a_38⟩
  have G_Eight := ok_Eight (P := l.prog) (w := w) (base := base) F_39 T c_LPoly c_LMd c_Trm c_Plus c_Minus c_Times c_Scal c_Kinds c_ISum c_IPr c_Own 
  have c_Eight : Cal _ _ _ _ _ _ _ _ _ _ _ := ⟨_, _, G_Eight, b_39, k_39, PySem.W.mg_of X G a_39⟩
  exact ok_Law (P := l.prog) (w := w) (base := base) F_40 T c_Cell k_FracInit c_LPr k_RestsInit k_RgI c_Eight c_Plus c_Times 
theorem walk {l : PySem.W.OpenLaw} {q : Program} {loose : List Str} {XP : (Str → Option Value) → Heap → Prop} {YP : World → Heap → Prop} {d : DefRec} {K : Params → PySem.W.Frag} (hn : l.most = some 63) (hdf : d.params.defaults = [])
    (hY : ∀ (w : World) (h : Heap), YP w h → (K w.params).In h)
    (F : ∀ (w : World) (mg : Str → Option Value) (fa : Addr) (h : Heap), (K w.params).In h → h.Ns mainGlobals mg → mg d.name = some (.ref fa) →
      ∃ fd : FuncData, (∀ (s : Shared) (u : Value), BindsTo s fd ⟨[u], []⟩ [("_law_script", u)]) ∧ ∀ base : Heap, (K w.params).In base → base.Ns mainGlobals mg → FnOk l.prog w (K w.params) mg base CX0 10 fa fd ["_law_script"] (spLaw (K w.params))) :
    PySem.W.WalkO q loose XP YP l.row.toRowW d [] (fun f vs => PySem.call f vs) :=
  L2.walk_of (n := 63) (k := 10) (x := "_law_script") (CX := fun _ => CX0) (sp := fun w => spLaw (K w.params)) hn (by decide) hdf ⟨rfl, by decide, by decide⟩ hY F (fun _ _ a ns hl _ hS => ⟨a, ns, rfl, hS, hl, fun _ => rfl⟩) fun _ _ _ _ _ z => z
end K10
open PySem PySem.W PyProof.Rows
set_option maxRecDepth 100000 in
set_option maxHeartbeats 0 in
theorem PySem.Challenge.cw_idealroom_k09_products_part_by_part_holds : PySem.Challenge.rw_idealroom_k09_products_part_by_part.Holds := by
  w_on; o_law; k_head; (case hw => w_witness2)
  k_fill
  refine K10.walk (l := PySem.Challenge.rw_idealroom_k09_products_part_by_part) rfl rfl (fun w h Y => PySem.W.kIn_of Y) ?F
  case F =>
    intro w mg fa h KX G hmg
    refine' K10.all_mk KX G hmg ?a_Ring ?pg_Ring ?hd_Ring ?po_Ring ?sa_Ring ?mk_Ring ?kc_Ring ?na_Ring_many ?na_Ring_field ?na_Ring_order ?a_Fractions ?pg_Fractions ?hd_Fractions ?po_Fractions ?sa_Fractions ?mk_Fractions ?kc_Fractions ?na_Fractions_prime ?a_Rests ?pg_Rests ?hd_Rests ?po_Rests ?sa_Rests ?mk_Rests ?kc_Rests ?na_Rests_prime ?a_Order ?pg_Order ?hd_Order ?po_Order ?sa_Order ?mk_Order ?in_Order ?kc_Order ?a_Degrees ?pg_Degrees ?hd_Degrees ?po_Degrees ?sa_Degrees ?mk_Degrees ?in_Degrees ?kc_Degrees ?a_Tails ?pg_Tails ?hd_Tails ?po_Tails ?sa_Tails ?mk_Tails ?in_Tails ?kc_Tails ?a_0 ?l_0 ?c_0 ?k_0 ?a_1 ?l_1 ?c_1 ?k_1 ?aq_2 ?rq_2 ?fq_2 ?sq_2 ?i_2 ?l_2 ?c_2 ?k_2 ?a_3_Fractions ?i_3 ?l_3 ?c_3 ?k_3 ?a_4_Fractions ?i_4 ?l_4 ?c_4 ?k_4 ?a_5_Fractions ?i_5 ?l_5 ?c_5 ?k_5 ?a_6_Fractions ?i_6 ?l_6 ?c_6 ?k_6 ?a_7_Fractions ?i_7 ?l_7 ?c_7 ?k_7 ?a_8_Fractions ?i_8 ?l_8 ?c_8 ?k_8 ?a_9_Rests ?i_9 ?l_9 ?c_9 ?k_9 ?a_10_Rests ?i_10 ?l_10 ?c_10 ?k_10 ?a_11_Rests ?i_11 ?l_11 ?c_11 ?k_11 ?a_12_Rests ?i_12 ?l_12 ?c_12 ?k_12 ?a_13_Rests ?i_13 ?l_13 ?c_13 ?k_13 ?a_14_Rests ?i_14 ?l_14 ?c_14 ?k_14 ?a_15 ?l_15 ?c_15 ?k_15 ?a_16 ?l_16 ?c_16 ?k_16 ?a_17 ?l_17 ?c_17 ?k_17 ?a_18 ?l_18 ?c_18 ?k_18 ?a_19 ?l_19 ?c_19 ?k_19 ?a_20 ?l_20 ?c_20 ?k_20 ?a_21 ?l_21 ?c_21 ?k_21 ?a_22 ?l_22 ?c_22 ?k_22 ?a_23 ?l_23 ?c_23 ?k_23 ?a_24 ?l_24 ?c_24 ?k_24 ?a_25 ?l_25 ?c_25 ?k_25 ?a_26 ?l_26 ?c_26 ?k_26 ?a_27_Degrees ?a_27_Order ?a_27_Tails ?i_27 ?l_27 ?c_27 ?k_27 ?a_28_Ring ?i_28 ?l_28 ?c_28 ?k_28 ?a_29 ?l_29 ?c_29 ?k_29 ?a_30 ?l_30 ?c_30 ?k_30 ?a_31 ?l_31 ?c_31 ?k_31 ?a_32 ?l_32 ?c_32 ?k_32 ?a_33 ?l_33 ?c_33 ?k_33 ?a_34 ?l_34 ?c_34 ?k_34 ?a_35 ?l_35 ?c_35 ?k_35 ?a_36 ?l_36 ?c_36 ?k_36 ?a_37 ?l_37 ?c_37 ?k_37 ?a_38 ?l_38 ?c_38 ?k_38 ?a_39 ?l_39 ?c_39 ?k_39 ?a_40 ?l_40 ?c_40 ?k_40 ?a_NoPrime ?FB_NoPrime ?xE_NoPrime ?xm_NoPrime ?a_NoRing ?FB_NoRing ?xE_NoRing ?xm_NoRing ?q_kdd ?q_kib ?q_kii ?q_ktt ?z_abs ?z_all ?z_bool ?z_dict ?z_int ?z_isinstance ?z_len ?z_list ?z_range ?z_tuple ?z_zip ?g_GREATEST_PRIME ?g_LETTERS
    (case a_Ring => k_is)
    (case pg_Ring => k_is)
    (case hd_Ring => k_is)
    (case po_Ring => k_is)
    (case sa_Ring => k_is)
    (case mk_Ring => k_is)
    (case kc_Ring => k_is)
    (case na_Ring_many => k_is)
    (case na_Ring_field => k_is)
    (case na_Ring_order => k_is)
    (case a_Fractions => k_is)
    (case pg_Fractions => k_is)
    (case hd_Fractions => k_is)
    (case po_Fractions => k_is)
    (case sa_Fractions => k_is)
    (case mk_Fractions => k_is)
    (case kc_Fractions => k_is)
    (case na_Fractions_prime => k_is)
    (case a_Rests => k_is)
    (case pg_Rests => k_is)
    (case hd_Rests => k_is)
    (case po_Rests => k_is)
    (case sa_Rests => k_is)
    (case mk_Rests => k_is)
    (case kc_Rests => k_is)
    (case na_Rests_prime => k_is)
    (case a_Order => k_is)
    (case pg_Order => k_is)
    (case hd_Order => k_is)
    (case po_Order => k_is)
    (case sa_Order => k_is)
    (case mk_Order => k_is)
    (case in_Order => k_is)
    (case kc_Order => k_is)
    (case a_Degrees => k_is)
    (case pg_Degrees => k_is)
    (case hd_Degrees => k_is)
    (case po_Degrees => k_is)
    (case sa_Degrees => k_is)
    (case mk_Degrees => k_is)
    (case in_Degrees => k_is)
    (case kc_Degrees => k_is)
    (case a_Tails => k_is)
    (case pg_Tails => k_is)
    (case hd_Tails => k_is)
    (case po_Tails => k_is)
    (case sa_Tails => k_is)
    (case mk_Tails => k_is)
    (case in_Tails => k_is)
    (case kc_Tails => k_is)
    (case a_0 => k_is)
    (case l_0 => k_is)
    (case c_0 => k_is)
    (case k_0 => k_is)
    (case a_1 => k_is)
    (case l_1 => k_is)
    (case c_1 => k_is)
    (case k_1 => k_is)
    (case aq_2 => k_is)
    (case rq_2 => k_is)
    (case fq_2 => k_is)
    (case sq_2 => k_is)
    (case i_2 => k_is)
    (case l_2 => k_is)
    (case c_2 => k_is)
    (case k_2 => k_is)
    (case a_3_Fractions => k_is)
    (case i_3 => k_is)
    (case l_3 => k_is)
    (case c_3 => k_is)
    (case k_3 => k_is)
    (case a_4_Fractions => k_is)
    (case i_4 => k_is)
    (case l_4 => k_is)
    (case c_4 => k_is)
    (case k_4 => k_is)
    (case a_5_Fractions => k_is)
    (case i_5 => k_is)
    (case l_5 => k_is)
    (case c_5 => k_is)
    (case k_5 => k_is)
    (case a_6_Fractions => k_is)
    (case i_6 => k_is)
    (case l_6 => k_is)
    (case c_6 => k_is)
    (case k_6 => k_is)
    (case a_7_Fractions => k_is)
    (case i_7 => k_is)
    (case l_7 => k_is)
    (case c_7 => k_is)
    (case k_7 => k_is)
    (case a_8_Fractions => k_is)
    (case i_8 => k_is)
    (case l_8 => k_is)
    (case c_8 => k_is)
    (case k_8 => k_is)
    (case a_9_Rests => k_is)
    (case i_9 => k_is)
    (case l_9 => k_is)
    (case c_9 => k_is)
    (case k_9 => k_is)
    (case a_10_Rests => k_is)
    (case i_10 => k_is)
    (case l_10 => k_is)
    (case c_10 => k_is)
    (case k_10 => k_is)
    (case a_11_Rests => k_is)
    (case i_11 => k_is)
    (case l_11 => k_is)
    (case c_11 => k_is)
    (case k_11 => k_is)
    (case a_12_Rests => k_is)
    (case i_12 => k_is)
    (case l_12 => k_is)
    (case c_12 => k_is)
    (case k_12 => k_is)
    (case a_13_Rests => k_is)
    (case i_13 => k_is)
    (case l_13 => k_is)
    (case c_13 => k_is)
    (case k_13 => k_is)
    (case a_14_Rests => k_is)
    (case i_14 => k_is)
    (case l_14 => k_is)
    (case c_14 => k_is)
    (case k_14 => k_is)
    (case a_15 => k_is)
    (case l_15 => k_is)
    (case c_15 => k_is)
    (case k_15 => k_is)
    (case a_16 => k_is)
    (case l_16 => k_is)
    (case c_16 => k_is)
    (case k_16 => k_is)
    (case a_17 => k_is)
    (case l_17 => k_is)
    (case c_17 => k_is)
    (case k_17 => k_is)
    (case a_18 => k_is)
    (case l_18 => k_is)
    (case c_18 => k_is)
    (case k_18 => k_is)
    (case a_19 => k_is)
    (case l_19 => k_is)
    (case c_19 => k_is)
    (case k_19 => k_is)
    (case a_20 => k_is)
    (case l_20 => k_is)
    (case c_20 => k_is)
    (case k_20 => k_is)
    (case a_21 => k_is)
    (case l_21 => k_is)
    (case c_21 => k_is)
    (case k_21 => k_is)
    (case a_22 => k_is)
    (case l_22 => k_is)
    (case c_22 => k_is)
    (case k_22 => k_is)
    (case a_23 => k_is)
    (case l_23 => k_is)
    (case c_23 => k_is)
    (case k_23 => k_is)
    (case a_24 => k_is)
    (case l_24 => k_is)
    (case c_24 => k_is)
    (case k_24 => k_is)
    (case a_25 => k_is)
    (case l_25 => k_is)
    (case c_25 => k_is)
    (case k_25 => k_is)
    (case a_26 => k_is)
    (case l_26 => k_is)
    (case c_26 => k_is)
    (case k_26 => k_is)
    (case a_27_Degrees => k_is)
    (case a_27_Order => k_is)
    (case a_27_Tails => k_is)
    (case i_27 => k_is)
    (case l_27 => k_is)
    (case c_27 => k_is)
    (case k_27 => k_is)
    (case a_28_Ring => k_is)
    (case i_28 => k_is)
    (case l_28 => k_is)
    (case c_28 => k_is)
    (case k_28 => k_is)
    (case a_29 => k_is)
    (case l_29 => k_is)
    (case c_29 => k_is)
    (case k_29 => k_is)
    (case a_30 => k_is)
    (case l_30 => k_is)
    (case c_30 => k_is)
    (case k_30 => k_is)
    (case a_31 => k_is)
    (case l_31 => k_is)
    (case c_31 => k_is)
    (case k_31 => k_is)
    (case a_32 => k_is)
    (case l_32 => k_is)
    (case c_32 => k_is)
    (case k_32 => k_is)
    (case a_33 => k_is)
    (case l_33 => k_is)
    (case c_33 => k_is)
    (case k_33 => k_is)
    (case a_34 => k_is)
    (case l_34 => k_is)
    (case c_34 => k_is)
    (case k_34 => k_is)
    (case a_35 => k_is)
    (case l_35 => k_is)
    (case c_35 => k_is)
    (case k_35 => k_is)
    (case a_36 => k_is)
    (case l_36 => k_is)
    (case c_36 => k_is)
    (case k_36 => k_is)
    (case a_37 => k_is)
    (case l_37 => k_is)
    (case c_37 => k_is)
    (case k_37 => k_is)
    (case a_38 => k_is)
    (case l_38 => k_is)
    (case c_38 => k_is)
    (case k_38 => k_is)
    (case a_39 => k_is)
    (case l_39 => k_is)
    (case c_39 => k_is)
    (case k_39 => k_is)
    (case a_40 => k_is)
    (case l_40 => k_is)
    (case c_40 => k_is)
    (case k_40 => k_is)
    (case a_NoPrime => k_is)
    (case FB_NoPrime => exact PySem.F.excBase_ValueError)
    (case xE_NoPrime => k_exc)
    (case xm_NoPrime => kts_exm)
    (case a_NoRing => k_is)
    (case FB_NoRing => exact PySem.F.excBase_ValueError)
    (case xE_NoRing => k_exc)
    (case xm_NoRing => kts_exm)
    (case q_kdd => kit_is)
    (case q_kib => kit_is)
    (case q_kii => kit_is)
    (case q_ktt => kit_is)
    (case z_abs => k_is)
    (case z_all => k_is)
    (case z_bool => k_is)
    (case z_dict => k_is)
    (case z_int => k_is)
    (case z_isinstance => k_is)
    (case z_len => k_is)
    (case z_list => k_is)
    (case z_range => k_is)
    (case z_tuple => k_is)
    (case z_zip => k_is)
    (case g_GREATEST_PRIME => k_is)
    (case g_LETTERS => k_is)
#print axioms PySem.Challenge.cw_idealroom_k09_products_part_by_part_holds
