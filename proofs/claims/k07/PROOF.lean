import PyProof.Rows.All
import Wide.All
import OpenK.AllK
import Wide.FinOn
import Lean
import PyProof.EqAt
import PyProof.EqKinds
import PyProof.TupleCall
import PySem.Challenge.RW_idealroom_k07_rings
import PySem.Challenge.RW_idealroom_k07_rings
set_option Elab.async false
set_option linter.all false
set_option maxRecDepth 100000
namespace L2
open PySem PySem.Spec PyProof.Rows
abbrev Key := Sum Int Str
def keyIs : Key → Value → Bool
  | .inl k, v => Value.isInt k v
  | .inr x, v => Value.isStrOf x v
def keyH (w : World) : Key → Int
  | .inl k => hashInt k
  | .inr x => hashStr w x
theorem keyIs_shape : ∀ {k : Key} {v : Value}, keyIs k v = true → (∃ i t, k = Sum.inl i ∧ v = Value.int i t) ∨ (∃ x t, k = Sum.inr x ∧ v = Value.str x t)
  | .inl i, v, h => by
    obtain ⟨t, e⟩ := Value.isInt_shape (k := i) (v := v) h
    exact .inl ⟨i, t, rfl, e⟩
  | .inr x, v, h => by
    obtain ⟨t, e⟩ := Value.isStrOf_shape (x := x) (v := v) h
    exact .inr ⟨x, t, rfl, e⟩
theorem keyIs_int (i : Int) (t : Tok) : keyIs (.inl i) (.int i t) = true := by simp [keyIs, Value.isInt]
theorem keyIs_str (x : Str) (t : Tok) : keyIs (.inr x) (.str x t) = true := by simp [keyIs, Value.isStrOf]
theorem key_ll (a b : Int) : decide ((Sum.inl a : Key) = Sum.inl b) = (a == b) := by
  by_cases e : a = b
  · subst e; simp
  · have h : ¬ (Sum.inl a : Key) = Sum.inl b := fun q => e (Sum.inl.inj q)
    rw [decide_eq_false h]
    exact (beq_eq_false_iff_ne.mpr e).symm
theorem key_rr (a b : Str) : decide ((Sum.inr a : Key) = Sum.inr b) = decide (a = b) := by
  by_cases e : a = b
  · subst e; simp
  · have h : ¬ (Sum.inr a : Key) = Sum.inr b := fun q => e (Sum.inr.inj q)
    rw [decide_eq_false h, decide_eq_false e]
theorem key_lr (a : Int) (b : Str) : decide ((Sum.inl a : Key) = Sum.inr b) = false := decide_eq_false (fun q => nomatch q)
theorem key_rl (a : Str) (b : Int) : decide ((Sum.inr a : Key) = Sum.inl b) = false := decide_eq_false (fun q => nomatch q)
def mixKind (prog : Program) (w : World) : PySem.KeyKind prog w Key where
  is := keyIs
  hash := keyH w
  inj := fun v a b ha hb => by
    rcases keyIs_shape ha with ⟨i, t, rfl, rfl⟩ | ⟨x, t, rfl, rfl⟩
    · rcases keyIs_shape hb with ⟨j, u, rfl, e⟩ | ⟨y, u, rfl, e⟩
      · injection e with e1 _; rw [e1]
      · exact nomatch e
    · rcases keyIs_shape hb with ⟨j, u, rfl, e⟩ | ⟨y, u, rfl, e⟩
      · exact nomatch e
      · injection e with e1 _; rw [e1]
  byValue := fun k v h => by
    rcases keyIs_shape h with ⟨i, t, rfl, rfl⟩ | ⟨x, t, rfl, rfl⟩ <;> rfl
  pyHash := fun hv h => by
    rcases keyIs_shape hv with ⟨i, t, rfl, rfl⟩ | ⟨x, t, rfl, rfl⟩
    · exact wpAny_pyHash_int h
    · exact wpAny_pyHash_str h
  eqBool := fun hu hv h => by
    rcases keyIs_shape hu with ⟨i, t, rfl, rfl⟩ | ⟨x, t, rfl, rfl⟩
    · rcases keyIs_shape hv with ⟨j, u, rfl, rfl⟩ | ⟨y, u, rfl, rfl⟩
      · rw [key_ll] at h; exact wpAny_eqBool_int h
      · rw [key_lr] at h; exact SeqAt.EqAt.int_str i t y u _ _ _ _ h
    · rcases keyIs_shape hv with ⟨j, u, rfl, rfl⟩ | ⟨y, u, rfl, rfl⟩
      · rw [key_rl] at h; exact SeqAt.EqAt.str_int x t j u _ _ _ _ h
      · rw [key_rr] at h; exact wpAny_eqBool_str h
  «strs» := fun k x t v h => by
    rcases keyIs_shape h with ⟨i, u, rfl, e⟩ | ⟨y, u, rfl, e⟩
    · exact nomatch e
    · injection e with e1 _
      subst e1
      cases v <;> rfl
theorem mixKind_int (prog : Program) (w : World) (i : Int) (t : Tok) : (mixKind prog w).is (.inl i) (.int i t) = true := keyIs_int i t
theorem mixKind_str (prog : Program) (w : World) (x : Str) (t : Tok) : (mixKind prog w).is (.inr x) (.str x t) = true := keyIs_str x t
end L2
namespace L2
open PySem PySem.Spec PyProof.Rows
inductive V where
  | non | bl (b : Bool) | int (i : Int) | str (x : Str) | byt (b : Array UInt8) | flt (b : UInt64) | ref (a : Addr) | ty (n : String)
  deriving DecidableEq
def RelV : V → Value → Prop
  | .non, u => u = Value.none
  | .bl b, u => u = Value.bool b
  | .int i, u => ∃ t, u = Value.int i t
  | .str x, u => ∃ t, u = Value.str x t
  | .byt b, u => ∃ t, u = Value.bytes b t
  | .flt b, u => ∃ t, u = Value.float b t
  | .ref a, u => u = Value.ref a
  | .ty n, u => u = Value.type n
abbrev Vals : List V → List Value → Prop := Paired RelV
theorem Vals.length {xs : List V} {us : List Value} (r : Vals xs us) : xs.length = us.length := Paired.length r
theorem Vals.get : ∀ {xs : List V} {us : List Value} {i : Nat} {x : V}, Vals xs us → xs[i]? = some x → ∃ u, us[i]? = some u ∧ RelV x u
  | _, _, _, _, .nil, e => by simp at e
  | _, _, 0, _, .cons r _, e => by simp at e; subst e; exact ⟨_, rfl, r⟩
  | _, _, i + 1, x, .cons _ t, e => by
    obtain ⟨u, h1, h2⟩ := Vals.get (i := i) (x := x) t (by simpa using e)
    exact ⟨u, by simpa using h1, h2⟩
theorem Vals.set {x : V} {u : Value} (r : RelV x u) : ∀ {xs : List V} {us : List Value} (i : Nat), Vals xs us → Vals (xs.set i x) (us.set i u)
  | _, _, _, .nil => .nil
  | _, _, 0, .cons _ t => .cons r t
  | _, _, i + 1, .cons q t => .cons q (Vals.set r i t)
theorem Vals.append : ∀ {xs ys : List V} {us ws : List Value}, Vals xs us → Vals ys ws → Vals (xs ++ ys) (us ++ ws)
  | _, _, _, _, .nil, s => s
  | _, _, _, _, .cons r t, s => .cons r (Vals.append t s)
def RelO : Option V → Option Value → Prop
  | some v, some u => RelV v u
  | none, none => True
  | _, _ => False
def KV {κ : Type} : List (κ × V) → List (κ × Value) → Prop := Paired fun (p : κ × V) (q : κ × Value) => p.1 = q.1 ∧ RelV p.2 q.2
def kV : Key → V
  | .inl i => .int i
  | .inr x => .str x
inductive HO where
    | lst (xs : List V)
    | tup (xs : List V)
    | dK (kvs : List (Key × V)) | dT (kvs : List (List Key × V))
    | set (S : Int → Bool) (n : Nat)
    | ins (C dx : Addr) (fs : List (Str × V))
    | own (x : Addr)
    | xd (fs : List (Str × V))
    | met (f x : Addr)
    | rng (lo hi : Int)
    | frz (o : Obj) (u : HO)
    | tbl (ps : Array Value)
    | ext (φ : Heap → Prop)
abbrev Hp := Addr → Option HO
def upd (H : Hp) (a : Addr) (o : HO) : Hp := fun b => if b = a then some o else H b
theorem upd_same {H : Hp} {a : Addr} {o : HO} : upd H a o a = some o := by unfold upd; rw [if_pos rfl]
theorem upd_ne {H : Hp} {a b : Addr} {o : HO} (h : b ≠ a) : upd H a o b = H b := by unfold upd; rw [if_neg h]
theorem ne_of {H : Hp} {a b : Addr} {o u : HO} (h : H a = some o) (h' : H b = some u) (d : o ≠ u) : a ≠ b := by
  intro e; subst e; rw [h] at h'; exact d (Option.some.inj h')
theorem ne_of_none {H : Hp} {a b : Addr} {o : HO} (h : H a = some o) (h' : H b = none) : a ≠ b := by
  intro e; subst e; rw [h] at h'; cases h'
section
variable (P : Program) (w : World)
def ObjOk (H : Hp) (h : Heap) (a : Addr) : HO → Prop
  | .lst xs => xs.length ≤ sizeLine ∧ ∃ (its : List Value) (n : Nat), Vals xs its ∧ h.get? a = some { cls := .type "list", data := .seq its.toArray n }
  | .tup xs => xs.length ≤ sizeLine ∧ ∃ its : List Value, Vals xs its ∧ IsTup h a its.toArray
  | .dK kvs => kvs.length ≤ sizeLine ∧ (a == sysModules) = false ∧ ∃ vs, KV kvs vs ∧ h.DictOf (mixKind P w) a vs
  | .dT kvs => kvs.length ≤ sizeLine ∧ (a == sysModules) = false ∧ ∃ xs : List (List Key × Addr × Value),
      Paired (fun (p : List Key × V) (q : List Key × Addr × Value) => p.1 = q.1 ∧ H q.2.1 = some (.tup (p.1.map kV)) ∧ RelV p.2 q.2.2) kvs xs ∧
      ∃ o es ep, h.get? a = some o ∧ o.ExactDict ∧ o.data = .dict es ep ∧ es.toList = xs.map (entryOfKey (tupleKind (mixKind P w))) ∧ (xs.map (·.1)).Nodup
  | .set S n => h.SetOf (intKind P w) a S n
  | .ins C dx fs => H dx = some (.own a) ∧ fs.length ≤ 1000 ∧ dx ≠ a ∧ h.get? a = some (PySem.W.instObj C dx) ∧
      ∃ mA, h.Ns1 dx mA ∧ (∀ f, RelO (fs.lookup f) (mA f)) ∧ PySem.Within mA (fs.map (·.1))
  | .own _ => ∃ o, h.get? a = some o
  | .xd fs => ∃ mA, h.Ns1 a mA ∧ ∀ f, RelO (fs.lookup f) (mA f)
  | .rng lo hi => ∃ t u v, h.get? a = some { cls := .type "range", data := .fields #[.int lo t, .int hi u, .int 1 v] }
  | .frz o u => h.get? a = some o ∧ ObjOk H h a u
  | .tbl ps => h.get? a = some { cls := .none, data := .fields ps }
  | .met f x => h.get? a = some (PySem.W.methodObj (.ref f) (.ref x))
  | .ext φ => φ h ∧ (∃ o, h.get? a = some o) ∧ ∀ h1 h2 : Heap, φ h1 → (∀ o, h1.get? a = some o → h2.get? a = some o) → φ h2
def HOk (H : Hp) (h : Heap) : Prop := ∀ a o, H a = some o → ObjOk P w H h a o
end
section
variable {P : Program} {w : World} {H H' : Hp} {h h' : Heap} {a : Addr} {o : HO}
theorem ObjOk.lt (x : ObjOk P w H h a o) : a < h.objs.size := by
  cases o with
  | lst xs => obtain ⟨_, _, _, _, e⟩ := x; exact Heap.lt_size e
  | tup xs => obtain ⟨_, _, _, p⟩ := x; exact p.lt
  | dK kvs => obtain ⟨_, _, _, _, o, _, _, e, _⟩ := x; exact Heap.lt_size e
  | dT kvs => obtain ⟨_, _, _, _, o, _, _, e, _⟩ := x; exact Heap.lt_size e
  | set S n => obtain ⟨o, _, _, _, e, _⟩ := x; exact Heap.lt_size e
  | ins C dx fs => obtain ⟨_, _, _, e, _⟩ := x; exact Heap.lt_size e
  | own y => obtain ⟨_, e⟩ := x; exact Heap.lt_size e
  | xd fs => obtain ⟨_, ⟨_, _, _, e, _⟩, _⟩ := x; exact Heap.lt_size e
  | rng lo hi => obtain ⟨_, _, _, e⟩ := x; exact Heap.lt_size e
  | frz ob u => obtain ⟨e, _⟩ := x; exact Heap.lt_size e
  | tbl ps => exact Heap.lt_size (show h.get? a = some _ from x)
  | met f y => exact Heap.lt_size (show h.get? a = some _ from x)
  | ext φ => obtain ⟨_, ⟨_, e⟩, _⟩ := x; exact Heap.lt_size e
theorem Paired.mapP {α β : Type} {F G : α → β → Prop} : ∀ {l₁ : List α} {l₂ : List β}, Paired F l₁ l₂ → (∀ a b, F a b → G a b) → Paired G l₁ l₂
  | _, _, .nil, _ => .nil
  | _, _, .cons r t, f => .cons (f _ _ r) (Paired.mapP t f)
theorem Paired.imp' {α β : Type} {F G : α → β → Prop} (f : ∀ a b, F a b → G a b) {l₁ : List α} {l₂ : List β} (r : Paired F l₁ l₂) : Paired G l₁ l₂ := Paired.mapP r f
theorem ObjOk.stay (x : ObjOk P w H h a o) (k : ∀ b u, (b = a ∨ H b = some (.own a)) → h.get? b = some u → h'.get? b = some u)
    (ho : ∀ b, H b = some (.own a) → H' b = some (.own a)) (ht : ∀ b xs, H b = some (.tup xs) → H' b = some (.tup xs)) : ObjOk P w H' h' a o := by
  induction o with
  | lst xs => obtain ⟨z, its, n, r, e⟩ := x; exact ⟨z, its, n, r, k _ _ (.inl rfl) e⟩
  | tup xs => obtain ⟨z, its, r, ob, e, c⟩ := x; exact ⟨z, its, r, ob, k _ _ (.inl rfl) e, c⟩
  | dK kvs => obtain ⟨z, y, vs, r, ob, es, ep, e, c⟩ := x; exact ⟨z, y, vs, r, ob, es, ep, k _ _ (.inl rfl) e, c⟩
  | dT kvs =>
    obtain ⟨z, y, xs, r, ob, es, ep, e, c⟩ := x
    exact ⟨z, y, xs, Paired.mapP r fun p q z => ⟨z.1, ht _ _ z.2.1, z.2.2⟩, ob, es, ep, k _ _ (.inl rfl) e, c⟩
  | set S n => obtain ⟨ob, es, ep, t, e, c⟩ := x; exact ⟨ob, es, ep, t, k _ _ (.inl rfl) e, c⟩
  | ins C dx fs =>
    obtain ⟨d, z, ne, e, mA, ⟨od, es, ep, e2, c⟩, r⟩ := x
    exact ⟨ho _ d, z, ne, k _ _ (.inl rfl) e, mA, ⟨od, es, ep, k _ _ (.inr d) e2, c⟩, r⟩
  | own y => obtain ⟨ob, e⟩ := x; exact ⟨ob, k _ _ (.inl rfl) e⟩
  | xd fs => obtain ⟨mA, ⟨od, es, ep, e, c⟩, r⟩ := x; exact ⟨mA, ⟨od, es, ep, k _ _ (.inl rfl) e, c⟩, r⟩
  | rng lo hi => obtain ⟨t, u, v, e⟩ := x; exact ⟨t, u, v, k _ _ (.inl rfl) e⟩
  | frz ob u ih => obtain ⟨e, q⟩ := x; exact ⟨k _ _ (.inl rfl) e, ih q⟩
  | tbl ps =>
    have e : h.get? a = some { cls := .none, data := .fields ps } := x
    show h'.get? a = some { cls := .none, data := .fields ps }
    exact k a _ (.inl rfl) e
  | met f y =>
    have e : h.get? a = some (PySem.W.methodObj (.ref f) (.ref y)) := x
    show h'.get? a = some (PySem.W.methodObj (.ref f) (.ref y))
    exact k a _ (.inl rfl) e
  | ext φ => obtain ⟨p, ⟨o, e⟩, st⟩ := x; exact ⟨st _ _ p fun o q => k _ _ (.inl rfl) q, ⟨o, k _ _ (.inl rfl) e⟩, st⟩
theorem HOk.lt (x : HOk P w H h) (e : H a = some o) : a < h.objs.size := (x a o e).lt
theorem HOk.fresh (x : HOk P w H h) (e : h.objs.size ≤ a) : H a = none := by
  cases q : H a with
  | none => rfl
  | some u => exact absurd (Nat.lt_of_lt_of_le (x.lt q) e) (Nat.lt_irrefl _)
theorem HOk.kept (x : HOk P w H h) (k : ∀ b u, h.get? b = some u → h'.get? b = some u) : HOk P w H h' := fun a o e =>
  (x a o e).stay (fun b u _ q => k b u q) (fun _ q => q) fun _ _ q => q
theorem HOk.laid (x : HOk P w H h) (k : ∀ b u, h.get? b = some u → h'.get? b = some u) (hp : h.objs.size ≤ a) (new : ObjOk P w (upd H a o) h' a o) : HOk P w (upd H a o) h' := fun b u e => by
  have hn := x.fresh hp
  by_cases hb : b = a
  · subst hb; rw [upd_same] at e; cases e; exact new
  · rw [upd_ne hb] at e
    exact (x b u e).stay (fun c v _ q => k c v q) (fun c q => by rw [upd_ne (ne_of_none q hn)]; exact q) fun c xs q => by rw [upd_ne (ne_of_none q hn)]; exact q
end
def Rd (H : Hp) (a : Addr) (u : HO) : Prop := H a = some u ∨ ∃ o, H a = some (.frz o u)
theorem Rd.ok {P : Program} {w : World} {H : Hp} {h : Heap} {a : Addr} {u : HO} (r : Rd H a u) (x : HOk P w H h) : ObjOk P w H h a u := by
  rcases r with r | ⟨o, r⟩
  · exact x a u r
  · obtain ⟨_, q⟩ := x a _ r
    exact q
def Mut : Option HO → Prop
  | some (.lst _) => True
  | some (.dK _) => True
  | some (.dT _) => True
  | some (.set _ _) => True
  | some (.ins _ _ _) => True
  | some (.ext _) => True
  | _ => False
section
variable {P : Program} {w : World} {H : Hp} {h h' : Heap} {x e : Addr} {o' : HO}
theorem HOk.write (ok : HOk P w H h) (mu : Mut (H x)) (he : e = x ∨ H e = some (.own x)) (k : ∀ b u, b ≠ e → h.get? b = some u → h'.get? b = some u) (heo : ∃ u, h'.get? e = some u)
    (new : ObjOk P w (upd H x o') h' x o') : HOk P w (upd H x o') h' := fun b u q => by
  have nown : ∀ c y, H c = some (.own y) → c ≠ x := fun c y r z => by subst z; rw [r] at mu; exact mu
  have ntup : ∀ c xs, H c = some (.tup xs) → c ≠ x := fun c xs r z => by subst z; rw [r] at mu; exact mu
  by_cases hb : b = x
  · subst hb; rw [upd_same] at q; cases q; exact new
  · rw [upd_ne hb] at q
    by_cases hbe : b = e
    · have q' : H b = some (.own x) := by
        rcases he with z | z
        · exact absurd (hbe.trans z) hb
        · rw [hbe]; exact z
      rw [q] at q'; cases q'
      obtain ⟨v, hv⟩ := heo
      exact ⟨v, by rw [hbe]; exact hv⟩
    · refine (ok b u q).stay (fun c v hc r => k c v ?_ r) (fun c r => by rw [upd_ne (nown c b r)]; exact r) fun c xs r => by rw [upd_ne (ntup c xs r)]; exact r
      rcases hc with rfl | hc
      · exact hbe
      · rintro rfl
        rcases he with z | z
        · exact nown c b hc z
        · rw [hc] at z; cases z; exact hb rfl
end
structure Un (fs ex : List Addr) (H H' : Hp) (h h' : Heap) : Prop where
  keep : ∀ b o, h.get? b = some o → H b = none → b ∉ fs → b ∉ ex → h'.get? b = some o
  slot : ∀ b o, h.get? b = some o → H b = none → b ∈ fs → b ∉ ex → ∃ sl, h'.get? b = some { o with slots := sl }
  free : ∀ b o, h.get? b = some o → H b = none → b ∉ ex → H' b = none
  there : ∀ b o, h.get? b = some o → b ∉ ex → ∃ o', h'.get? b = some o'
  tups : ∀ b xs, H b = some (.tup xs) → H' b = some (.tup xs)
  frzs : ∀ b o u, H b = some (.frz o u) → H' b = some (.frz o u)
  tbls : ∀ b ps, H b = some (.tbl ps) → ∃ more, H' b = some (.tbl (ps ++ more))
section
variable {fs fs' ex ex' : List Addr} {H H1 H2 : Hp} {h h1 h2 h' : Heap} {a x e : Addr} {o : HO}
theorem Un.any (u : Un fs ex H H1 h h1) {b : Addr} {ob : Obj} (q : h.get? b = some ob) (n : H b = none) (hx : b ∉ ex) : ∃ sl, h1.get? b = some { ob with slots := sl } := by
  by_cases hb : b ∈ fs
  · exact u.slot b ob q n hb hx
  · exact ⟨ob.slots, u.keep b ob q n hb hx⟩
theorem Un.kept (k : ∀ b u, h.get? b = some u → h'.get? b = some u) : Un fs ex H H h h' :=
  ⟨fun b ob q _ _ _ => k b ob q, fun b ob q _ _ _ => ⟨ob.slots, k b ob q⟩, fun _ _ _ n _ => n, fun b ob q _ => ⟨ob, k b ob q⟩, fun _ _ q => q, fun _ _ _ q => q, fun _ ps q => ⟨#[], by rw [q]; simp⟩⟩
theorem Un.refl : Un fs ex H H h h := Un.kept fun _ _ q => q
theorem Un.laid (k : ∀ b u, h.get? b = some u → h'.get? b = some u) (hp : h.objs.size ≤ a) (hn : H a = none) : Un fs ex H (upd H a o) h h' where
  keep := fun b u q _ _ _ => k b u q
  slot := fun b u q _ _ _ => ⟨u.slots, k b u q⟩
  free := fun b u q n _ => by rw [upd_ne (Nat.ne_of_lt (Nat.lt_of_lt_of_le (Heap.lt_size q) hp))]; exact n
  there := fun b u q _ => ⟨u, k b u q⟩
  tups := fun b xs q => by rw [upd_ne (ne_of_none q hn)]; exact q
  frzs := fun b u xs q => by rw [upd_ne (ne_of_none q hn)]; exact q
  tbls := fun b ps q => ⟨#[], by rw [upd_ne (ne_of_none q hn), q]; simp⟩
theorem Un.write (mu : Mut (H x)) (he : e = x ∨ H e = some (.own x)) (k : ∀ b u, b ≠ e → h.get? b = some u → h'.get? b = some u) (heo : ∃ u, h'.get? e = some u) : Un fs ex H (upd H x o) h h' := by
  have hx : ∀ b, H b = none → b ≠ x := fun b n z => by subst z; rw [n] at mu; exact mu
  have hb : ∀ b, H b = none → b ≠ e := fun b n z => by
    subst z
    rcases he with r | r
    · exact hx b n r
    · rw [n] at r; cases r
  have hm : ∀ b u, H b = some u → ¬ Mut (some u) → b ≠ x := fun b u q nm z => by subst z; rw [q] at mu; exact nm mu
  refine ⟨fun b u q n _ _ => k b u (hb b n) q, fun b u q n _ _ => ⟨u.slots, k b u (hb b n) q⟩, fun b u q n _ => by rw [upd_ne (hx b n)]; exact n, fun b u q _ => ?_,
    fun b xs q => by rw [upd_ne (hm b _ q fun z => z)]; exact q, fun b u xs q => by rw [upd_ne (hm b _ q fun z => z)]; exact q, fun b ps q => ⟨#[], by rw [upd_ne (hm b _ q fun z => z), q]; simp⟩⟩
  by_cases hbe : b = e
  · subst hbe; exact heo
  · exact ⟨u, k b u hbe q⟩
end
def trk (h : Heap) (H : Hp) : List Addr := (List.range h.objs.size).filter fun a => (H a).isSome
def hidT (h : Heap) (H : Hp) : Heap := PySem.W.hideAll h (trk h H)
theorem hidT_size (h : Heap) (H : Hp) : (hidT h H).objs.size = h.objs.size := PySem.W.hideAll_size _ _
theorem hidT_get {h : Heap} {H : Hp} {b : Addr} {o : Obj} (e : h.get? b = some o) (n : H b = none) : (hidT h H).get? b = some o :=
  PySem.W.hideAll_get _ e fun hm => by
    have q : (H b).isSome = true := (List.mem_filter.mp hm).2
    rw [n] at q; simp at q
theorem of_hidT {h : Heap} {H : Hp} {b : Addr} {o : Obj} (e : (hidT h H).get? b = some o) : h.get? b = some o ∧ H b = none := by
  have e' : h.get? b = some o := PySem.W.of_hideAll (trk h H) e
  refine ⟨e', ?_⟩
  cases q : H b with
  | none => rfl
  | some x =>
    have hm : b ∈ trk h H := List.mem_filter.mpr ⟨List.mem_range.mpr (Heap.lt_size e'), by simp [q]⟩
    have z : (hidT h H).get? b = none := PySem.W.hideAll_none (trk h H) hm
    rw [z] at e; cases e
def allNews (g h : Heap) (L : Addr) : List (Addr × Obj) := (List.range h.objs.size).filterMap fun a => if a = L ∨ (g.get? a).isSome = true then none else (h.get? a).map fun o => (a, o)
def rest (g h : Heap) (L d : Addr) : List (Addr × Obj) := (allNews g h L).filter fun p => decide (p.1 ≠ d)
end L2
namespace L2
open PySem PySem.Spec PyProof.Rows
structure Mod (K : PySem.W.Frag) (mg : Str → Option Value) (base : Heap) : Prop where
  kin : K.In base
  glob : base.Ns mainGlobals mg
  blt : ∃ mb, base.Ns builtinsNs mb ∧ ∀ x : Str, x ≠ "__name__" → mb x = bootBuiltins x
  nolimit : base.NoLimit
structure Cx where
  prog : Program
  w : World
  K : PySem.W.Frag
  mg : Str → Option Value
  base : Heap
  A : Around
  N : List Str
  s₀ : Shared
  H₀ : Hp
  env : Env
  outer : List Env
  stack : List Env
  ex : List Addr
  fn : Str → Bool
  calm : Bool
  pn : List (Addr × Obj)
  xe : Value → Shared → Prop
def frs (l : List Env) : List Addr := l.filterMap (·.frame)
abbrev Cx.fs (X : Cx) : List Addr := frs X.outer
def Vis (sc : Scope) (x : Str) : Prop := sc.names.lookup x = some .local ∨ sc.names.lookup x = some .cell ∨ sc.names.lookup x = some .free
def Loc (sc : Scope) (x : Str) : Prop := sc.names.lookup x = some .local ∨ sc.names.lookup x = some .cell
def Look (env : Env) (h : Heap) (m : Str → Option Value) (x : Str) (u : Value) : Prop :=
  (env.kindOf x = some .local ∧ m x = some u) ∨ ((env.kindOf x = some .cell ∨ env.kindOf x = some .free) ∧ ∃ c, env.cells.lookup x = some c ∧ h.IsCell c (some u))
structure Cx.Ok (X : Cx) : Prop where
  mod : Mod X.K X.mg X.base
  kind : X.env.scope.kind = .function
  glob : X.env.globals = mainGlobals
  blt : X.env.builtins = builtinsNs
  above : X.s₀.heap.objs.size ≤ X.env.locals
  inj : ∀ x y c, X.env.cells.lookup x = some c → X.env.cells.lookup y = some c → x = y
  has : ∀ x, (X.env.kindOf x = some .cell ∨ X.env.kindOf x = some .free) → ∃ c, X.env.cells.lookup x = some c
  cab : ∀ x c, X.fn x = true → X.env.cells.lookup x = some c → X.s₀.heap.objs.size ≤ c
  hd : X.calm = true → X.A.handled = none
  frames : X.A.frames = some X.stack
  stk : X.stack = X.outer ∨ (X.stack = X.env :: X.outer ∧ X.env.frame = some X.env.locals)
  exf : ∀ b ∈ X.ex, b ≠ X.env.locals ∧ ∀ x c, X.env.cells.lookup x = some c → c ≠ b
  bs : ∀ b o, X.base.get? b = some o → X.s₀.heap.get? b = some o ∧ X.H₀ b = none
  bsz : X.base.objs.size ≤ X.s₀.heap.objs.size
  noex : ∀ b o, X.base.get? b = some o → b ∉ X.ex
  exfs : ∀ b ∈ X.ex, b ∉ X.fs
  funs : X.s₀.heap.FunFrames X.base X.outer
  frf : ∀ b ∈ X.fs, X.H₀ b = none
structure Inv (X : Cx) (pins : List (Addr × Obj)) (σ : List (Option V)) (H : Hp) (s : Shared) : Prop where
  ok : X.Ok
  os : s.os = X.s₀.os
  bare : AllBare s.gens
  base : Un X.fs X.ex X.H₀ H X.s₀.heap s.heap
  loc : ∃ m, s.heap.Ns X.env.locals m ∧ ∀ (i : Nat) (x : Str) (v : V), X.N[i]? = some x → σ[i]? = some (some v) → Vis X.env.scope x → ∃ u, RelV v u ∧ Look X.env s.heap m x u
  cell : ∀ x c, X.env.cells.lookup x = some c → ∃ v, s.heap.IsCell c v
  free : H X.env.locals = none
  freeC : ∀ x c, X.env.cells.lookup x = some c → H c = none
  pin : ∀ p ∈ X.pn ++ pins, s.heap.get? p.1 = some p.2 ∧ H p.1 = none ∧ p.1 ≠ X.env.locals ∧ p.1 ∉ X.fs ∧ ∀ v, p.2.data ≠ .cell v
  hok : HOk X.prog X.w H s.heap
  len : σ.length = X.N.length
section
variable {X : Cx} {pins : List (Addr × Obj)} {σ : List (Option V)} {H H' : Hp} {s : Shared} {h' : Heap}
theorem Cx.Ok.nofr (ok : X.Ok) {b : Addr} {o : Obj} (e : X.base.get? b = some o) : b ∉ X.fs := fun hb => by
  have := (ok.funs.mem hb).1
  rw [e] at this; cases this
theorem Inv.bs (I : Inv X pins σ H s) : ∀ b o, X.base.get? b = some o → s.heap.get? b = some o ∧ H b = none := fun b o e =>
  ⟨I.base.keep b o (I.ok.bs b o e).1 (I.ok.bs b o e).2 (I.ok.nofr e) (I.ok.noex b o e), I.base.free b o (I.ok.bs b o e).1 (I.ok.bs b o e).2 (I.ok.noex b o e)⟩
theorem Inv.bk (I : Inv X pins σ H s) : ∀ b o, X.base.get? b = some o → s.heap.get? b = some o := fun b o e => (I.bs b o e).1
theorem Inv.mod (I : Inv X pins σ H s) : Mod X.K X.mg X.base := I.ok.mod
theorem Inv.kIn (I : Inv X pins σ H s) : X.K.In s.heap := I.ok.mod.kin.keeps I.bk
theorem Inv.lt (I : Inv X pins σ H s) : X.env.locals < s.heap.objs.size := let ⟨_, hn, _⟩ := I.loc; hn.lt
theorem Inv.sz (I : Inv X pins σ H s) : X.s₀.heap.objs.size ≤ s.heap.objs.size := Nat.le_trans I.ok.above (Nat.le_of_lt I.lt)
theorem Inv.nofs (I : Inv X pins σ H s) {a : Addr} (h : s.heap.objs.size ≤ a) : a ∉ X.fs := fun hb => by
  obtain ⟨_, o, ho, _⟩ := I.ok.funs.mem hb
  exact absurd (Nat.lt_of_lt_of_le (Heap.lt_size ho) (Nat.le_trans I.sz h)) (Nat.lt_irrefl _)
theorem Inv.cne (I : Inv X pins σ H s) : ∀ x c, X.env.cells.lookup x = some c → c ≠ X.env.locals := fun x c e z => by
  obtain ⟨v, o, ho, hd⟩ := I.cell x c e
  obtain ⟨m, ⟨o', es, ep, ho', hd', _⟩, _⟩ := I.loc
  rw [z, ho'] at ho; cases ho; rw [hd'] at hd; cases hd
theorem Inv.funs (I : Inv X pins σ H s) : s.heap.FunFrames X.base X.outer := by
  have all : ∀ (l : List Env), (∀ b ∈ frs l, b ∈ X.fs) → X.s₀.heap.FunFrames X.base l → s.heap.FunFrames X.base l := by
    intro l
    induction l with
    | nil => intro _ _; trivial
    | cons env r ih =>
      intro hs hl
      obtain ⟨hk, ⟨L, o, hf, hn, ho, hd⟩, hr⟩ := hl
      have hL : L ∈ X.fs := hs L (by unfold frs; rw [List.filterMap_cons, hf]; exact List.mem_cons_self)
      obtain ⟨sl, e⟩ := I.base.slot L o ho (I.ok.frf L hL) hL fun z => I.ok.exfs L z hL
      exact ⟨hk, ⟨L, _, hf, hn, e, hd⟩, ih (fun b hb => hs b (by unfold frs; rw [List.filterMap_cons, hf]; exact List.mem_cons_of_mem _ hb)) hr⟩
  exact all X.outer (fun _ hb => hb) I.ok.funs
theorem Inv.stack (I : Inv X pins σ H s) : s.heap.FunFrames X.base X.stack := by
  rcases I.ok.stk with e | ⟨e, hf⟩
  · rw [e]; exact I.funs
  · rw [e]
    obtain ⟨m, hn, _⟩ := I.loc
    refine .cons (by rw [I.ok.kind]; decide) hf hn ?_ I.funs
    exact Heap.get?_none_of_le (Nat.le_trans I.ok.bsz I.ok.above)
theorem Inv.stkSub (I : Inv X pins σ H s) : ∀ b ∈ frs X.stack, b ∈ X.env.locals :: X.fs := fun b hb => by
  rcases I.ok.stk with e | ⟨e, hf⟩
  · rw [e] at hb; exact List.mem_cons_of_mem _ hb
  · rw [e] at hb
    unfold frs at hb
    rw [List.filterMap_cons, hf] at hb
    exact hb
theorem Inv.stkFree (I : Inv X pins σ H s) : ∀ b ∈ frs X.stack, H b = none := fun b hb => by
  rcases List.mem_cons.mp (I.stkSub b hb) with e | hb
  · rw [e]; exact I.free
  · obtain ⟨_, o, ho, _⟩ := I.ok.funs.mem hb
    exact I.base.free b o ho (I.ok.frf b hb) fun z => I.ok.exfs b z hb
theorem Inv.step {g' : Array GenState} {t' : Nat} {d' : Drawn} {ch : List Addr} (I : Inv X pins σ H s)
    (hch : ∀ b ∈ ch, (b ∈ X.ex ∨ X.s₀.heap.objs.size ≤ b) ∧ b ≠ X.env.locals ∧ (∀ x c, X.env.cells.lookup x = some c → c ≠ b) ∧ ∀ p ∈ X.pn ++ pins, p.1 ≠ b)
    (keep : ∀ b o, b ≠ X.env.locals → b ∉ X.fs → b ∉ ch → s.heap.get? b = some o → H b = none → h'.get? b = some o)
    (slot : ∀ b o, b ≠ X.env.locals → b ∈ X.fs → b ∉ ch → s.heap.get? b = some o → H b = none → ∃ sl, h'.get? b = some { o with slots := sl }) (free : ∀ b o, b ∉ ch → s.heap.get? b = some o → H b = none → H' b = none)
    (there : ∀ b o, b ∉ ch → s.heap.get? b = some o → ∃ o', h'.get? b = some o')
    (tups : ∀ b xs, H b = some (.tup xs) → H' b = some (.tup xs)) (frzs : ∀ b o u, H b = some (.frz o u) → H' b = some (.frz o u)) (tbls : ∀ b ps, H b = some (.tbl ps) → ∃ more, H' b = some (.tbl (ps ++ more)))
    (ns : ∀ m, s.heap.Ns X.env.locals m → h'.Ns X.env.locals m) (hok : HOk X.prog X.w H' h') (hg : AllBare g') :
    Inv X pins σ H' { s with heap := h', gens := g', drawn := d', toks := t' } := by
  have neL : ∀ b o, X.s₀.heap.get? b = some o → b ≠ X.env.locals := fun b o e => Nat.ne_of_lt (Nat.lt_of_lt_of_le (Heap.lt_size e) I.ok.above)
  have neC : ∀ b o, X.s₀.heap.get? b = some o → b ∉ X.ex → b ∉ ch := fun b o e hx hb => by
    rcases (hch b hb).1 with z | z
    · exact hx z
    · exact absurd (Nat.lt_of_lt_of_le (Heap.lt_size e) z) (Nat.lt_irrefl _)
  have cellK : ∀ x c, X.env.cells.lookup x = some c → ∀ v, s.heap.IsCell c v → h'.IsCell c v := fun x c e v ⟨o, ho, hd⟩ => by
    have nch : c ∉ ch := fun z => (hch c z).2.2.1 x c e rfl
    by_cases hc : c ∈ X.fs
    · obtain ⟨sl, q⟩ := slot c o (I.cne x c e) hc nch ho (I.freeC x c e)
      exact ⟨_, q, hd⟩
    · exact ⟨o, keep c o (I.cne x c e) hc nch ho (I.freeC x c e), hd⟩
  refine ⟨I.ok, I.os, hg, ⟨fun b o e n hb hx => ?_, fun b o e n hb hx => ?_, fun b o e n hx => ?_, fun b o e hx => ?_, fun b xs e => tups b xs (I.base.tups b xs e), fun b o xs e => frzs b o xs (I.base.frzs b o xs e), fun b ps e => ?_⟩, ?_, fun x c e => ?_, ?_, fun x c e => ?_, fun p hp => ?_, hok, I.len⟩
  · exact keep b o (neL b o e) hb (neC b o e hx) (I.base.keep b o e n hb hx) (I.base.free b o e n hx)
  · obtain ⟨sl, e1⟩ := I.base.slot b o e n hb hx
    obtain ⟨sl', e2⟩ := slot b _ (neL b o e) hb (neC b o e hx) e1 (I.base.free b o e n hx)
    exact ⟨sl', e2⟩
  · obtain ⟨o', e1⟩ := I.base.there b o e hx
    exact free b o' (neC b o e hx) e1 (I.base.free b o e n hx)
  · obtain ⟨o', e1⟩ := I.base.there b o e hx
    exact there b o' (neC b o e hx) e1
  · obtain ⟨m1, e1⟩ := I.base.tbls b ps e
    obtain ⟨m2, e2⟩ := tbls b _ e1
    exact ⟨m1 ++ m2, by rw [e2, Array.append_assoc]⟩
  · obtain ⟨m, hn, hl⟩ := I.loc
    refine ⟨m, ns m hn, fun i x v e1 e2 e3 => ?_⟩
    obtain ⟨u, r, l⟩ := hl i x v e1 e2 e3
    refine ⟨u, r, ?_⟩
    rcases l with l | ⟨k, c, e, z⟩
    · exact .inl l
    · exact .inr ⟨k, c, e, cellK x c e _ z⟩
  · obtain ⟨v, z⟩ := I.cell x c e
    exact ⟨v, cellK x c e v z⟩
  · obtain ⟨m, ⟨o, _, _, ho, _⟩, _⟩ := I.loc
    exact free _ o (fun z => (hch _ z).2.1 rfl) ho I.free
  · obtain ⟨v, o, ho, hd⟩ := I.cell x c e
    exact free c o (fun z => (hch c z).2.2.1 x c e rfl) ho (I.freeC x c e)
  · obtain ⟨e, n, ne, nf, d⟩ := I.pin p hp
    have nch : p.1 ∉ ch := fun z => (hch p.1 z).2.2.2 p hp rfl
    exact ⟨keep p.1 p.2 ne nf nch e n, free p.1 p.2 nch e n, ne, nf, d⟩
theorem Inv.un {t' : Nat} (I : Inv X pins σ H s) (u : Un X.fs [] H H' s.heap h') (hok : HOk X.prog X.w H' h') : Inv X pins σ H' { s with heap := h', toks := t' } := by
  obtain ⟨m, ⟨o, es, ep, ho, r⟩, _⟩ := id I.loc
  obtain ⟨sl, hL⟩ := u.any ho I.free (by simp)
  exact I.step (g' := s.gens) (d' := s.drawn) (ch := []) (fun _ z => nomatch z) (fun b o _ hb _ e n => u.keep b o e n hb (by simp)) (fun b o _ hb _ e n => u.slot b o e n hb (by simp)) (fun b o _ e n => u.free b o e n (by simp)) (fun b o _ e => u.there b o e (by simp)) u.tups u.frzs u.tbls (fun m' hm => by
    obtain ⟨o', es', ep', ho', r'⟩ := hm
    rw [ho] at ho'; cases ho'
    exact ⟨_, es', ep', hL, r'⟩) hok I.bare
theorem Inv.call {g' : Array GenState} {t' : Nat} {d' : Drawn} {ch : List Addr} (I : Inv X pins σ H s) (u : Un (frs X.stack) ch H H' s.heap h') (hok : HOk X.prog X.w H' h') (hg : AllBare g')
    (hch : ∀ b ∈ ch, (b ∈ X.ex ∨ X.s₀.heap.objs.size ≤ b) ∧ b ≠ X.env.locals ∧ (∀ x c, X.env.cells.lookup x = some c → c ≠ b) ∧ ∀ p ∈ X.pn ++ pins, p.1 ≠ b) :
    Inv X pins σ H' { s with heap := h', gens := g', drawn := d', toks := t' } := by
  obtain ⟨m, ⟨o, es, ep, ho, r⟩, _⟩ := id I.loc
  obtain ⟨sl, hL⟩ := u.any ho I.free fun z => (hch _ z).2.1 rfl
  exact I.step (ch := ch) hch (fun b o hL hb hc e n => u.keep b o e n (fun z => (List.mem_cons.mp (I.stkSub b z)).elim hL hb) hc) (fun b o _ _ hc e n => u.any e n hc) (fun b o hc e n => u.free b o e n hc) (fun b o hc e => u.there b o e hc) u.tups u.frzs u.tbls (fun m' hm => by
    obtain ⟨o', es', ep', ho', r'⟩ := hm
    rw [ho] at ho'; cases ho'
    exact ⟨_, es', ep', hL, r'⟩) hok hg
theorem Inv.turned {t' : Nat} {it : Addr} (I : Inv X pins σ H s) (k : ∀ b o, b ≠ it → s.heap.get? b = some o → h'.get? b = some o) (hn : H it = none) (hL : it ≠ X.env.locals)
    (h1 : it ∈ X.ex ∨ X.s₀.heap.objs.size ≤ it) (h2 : ∀ x c, X.env.cells.lookup x = some c → c ≠ it) (h3 : ∀ p ∈ X.pn ++ pins, p.1 ≠ it) : Inv X pins σ H { s with heap := h', toks := t' } := by
  have nit : ∀ b u, H b = some u → b ≠ it := fun b u e z => by rw [z, hn] at e; cases e
  refine I.step (g' := s.gens) (d' := s.drawn) (ch := [it]) (fun b hb => ?_) (fun b o _ _ hc e _ => k b o (fun z => hc (by simp [z])) e) (fun b o _ _ hc e _ => ⟨o.slots, k b o (fun z => hc (by simp [z])) e⟩) (fun _ _ _ _ n => n)
    (fun b o hc e => ⟨o, k b o (fun z => hc (by simp [z])) e⟩) (fun _ _ e => e) (fun _ _ _ e => e) (fun b ps e => ⟨#[], by rw [e]; simp⟩) (fun m hm => ?_) (fun b u e => ?_) I.bare
  · have e : b = it := by simpa using hb
    subst e
    exact ⟨h1, hL, h2, h3⟩
  · obtain ⟨o, es, ep, ho, r⟩ := hm
    exact ⟨o, es, ep, k _ o (Ne.symm hL) ho, r⟩
  · refine (I.hok b u e).stay (fun c v hc q => k c v ?_ q) (fun _ q => q) fun _ _ q => q
    rcases hc with z | z
    · rw [z]; exact nit b u e
    · exact nit c _ z
theorem Inv.tok (I : Inv X pins σ H s) (t : Nat) : Inv X pins σ H { s with toks := t } := I.un (h' := s.heap) (t' := t) Un.refl I.hok
theorem Inv.kept {t' : Nat} (I : Inv X pins σ H s) (k : ∀ b u, s.heap.get? b = some u → h'.get? b = some u) : Inv X pins σ H { s with heap := h', toks := t' } := I.un (Un.kept k) (I.hok.kept k)
theorem Inv.laid {a : Addr} {o : HO} {t' : Nat} (I : Inv X pins σ H s) (k : ∀ b u, s.heap.get? b = some u → h'.get? b = some u) (hp : s.heap.objs.size ≤ a) (new : ObjOk X.prog X.w (upd H a o) h' a o) :
    Inv X pins σ (upd H a o) { s with heap := h', toks := t' } := I.un (Un.laid k hp (I.hok.fresh hp)) (I.hok.laid k hp new)
theorem Inv.write {x e : Addr} {o : HO} {t' : Nat} (I : Inv X pins σ H s) (mu : Mut (H x)) (he : e = x ∨ H e = some (.own x)) (k : ∀ b u, b ≠ e → s.heap.get? b = some u → h'.get? b = some u) (heo : ∃ u, h'.get? e = some u)
    (new : ObjOk X.prog X.w (upd H x o) h' x o) : Inv X pins σ (upd H x o) { s with heap := h', toks := t' } := I.un (Un.write mu he k heo) (I.hok.write mu he k heo new)
theorem Inv.pins_of {pins' : List (Addr × Obj)} (I : Inv X pins σ H s) (h : ∀ p ∈ pins', s.heap.get? p.1 = some p.2 ∧ H p.1 = none ∧ p.1 ≠ X.env.locals ∧ p.1 ∉ X.fs ∧ ∀ v, p.2.data ≠ .cell v) : Inv X pins' σ H s :=
  ⟨I.ok, I.os, I.bare, I.base, I.loc, I.cell, I.free, I.freeC, fun p hp => (List.mem_append.mp hp).elim (fun z => I.pin p (List.mem_append_left _ z)) (h p), I.hok, I.len⟩
theorem nodup_ix {N : List Str} (hN : N.Nodup) {i j : Nat} {x : Str} (a : N[i]? = some x) (b : N[j]? = some x) : i = j := by
  obtain ⟨h1, e1⟩ := List.getElem?_eq_some_iff.mp a
  obtain ⟨h2, e2⟩ := List.getElem?_eq_some_iff.mp b
  exact (List.getElem_inj hN).mp (e1.trans e2.symm)
theorem store_ok2 {M : Model} {A : Around} {E : Value → Shared → Prop} {i : Nat} {x : Str} {v : V} {u : Value} {Q : Unit → Shared → Prop} (I : Inv X pins σ H s) (hN : X.N.Nodup) (hi : X.N[i]? = some x) (hx : Loc X.env.scope x) (r : RelV v u)
    (h : ∀ s', Inv X pins (σ.set i (some v)) H s' → (∃ a, Heap.SameBut a s.heap s'.heap ∧ (a = X.env.locals ∨ X.env.cells.lookup x = some a)) → Q () s') (hf : X.fn x = true ∨ X.env.scope.names.lookup x = some .local := by first | exact .inl rfl | exact .inr rfl | assumption) : wpAny M A (storeName X.env x u) Q E s := by
  obtain ⟨m, hn, hl⟩ := id I.loc
  have hcls : (X.env.scope.kind == .class || (X.env.scope.kind == .module && X.env.locals != X.env.globals)) = false := by rw [I.ok.kind]; rfl
  have hiσ : i < σ.length := by rw [I.len]; exact (List.getElem?_eq_some_iff.mp hi).1
  have cne := I.cne
  have tracked : ∀ {a : Addr} {h' : Heap}, (∃ o, s.heap.get? a = some o ∧ H a = none) → Heap.SameBut a s.heap h' → HOk X.prog X.w H h' := fun {a h'} ha hs b ob e => by
    obtain ⟨_, _, hfree⟩ := ha
    refine (I.hok b ob e).stay (fun c w' hc q => (hs.2 c ?_).trans q) (fun _ q => q) fun _ _ q => q
    rintro rfl
    rcases hc with rfl | hc
    · rw [hfree] at e; cases e
    · rw [hfree] at hc; cases hc
  rcases hx with hk | hk
  · refine wpAny_storeName_local hk hn (fun h' hn' hs => ?_) hcls
    obtain ⟨oL, _, _, hoL, _⟩ := id hn
    refine h _ ⟨I.ok, I.os, I.bare, ⟨fun b o e n hb hx => ?_, fun b o e n hb hx => ?_, I.base.free, fun b o e hx => ?_, I.base.tups, I.base.frzs, I.base.tbls⟩, ⟨_, hn', fun j y v' e1 e2 e3 => ?_⟩, fun y c e => ?_, I.free, I.freeC, fun p hp => ?_, tracked ⟨oL, hoL, I.free⟩ hs, by simpa using I.len⟩ ⟨_, hs, .inl rfl⟩
    · exact (hs.2 b (Nat.ne_of_lt (Nat.lt_of_lt_of_le (Heap.lt_size e) I.ok.above))).trans (I.base.keep b o e n hb hx)
    · obtain ⟨sl, e1⟩ := I.base.slot b o e n hb hx
      exact ⟨sl, (hs.2 b (Nat.ne_of_lt (Nat.lt_of_lt_of_le (Heap.lt_size e) I.ok.above))).trans e1⟩
    · obtain ⟨o', e1⟩ := I.base.there b o e hx
      exact ⟨o', (hs.2 b (Nat.ne_of_lt (Nat.lt_of_lt_of_le (Heap.lt_size e) I.ok.above))).trans e1⟩
    · by_cases hj : j = i
      · subst hj
        rw [hi] at e1; cases e1
        rw [List.getElem?_set_self hiσ] at e2
        cases e2
        exact ⟨u, r, .inl ⟨hk, by simp⟩⟩
      · rw [List.getElem?_set_ne (Ne.symm hj)] at e2
        obtain ⟨u', r', q⟩ := hl j y v' e1 e2 e3
        refine ⟨u', r', ?_⟩
        rcases q with ⟨k, e⟩ | ⟨k, c, e, z⟩
        · refine .inl ⟨k, ?_⟩
          have : y ≠ x := fun e => hj (nodup_ix hN e1 (e ▸ hi))
          simp [this, e]
        · exact .inr ⟨k, c, e, z.sameBut hs (cne y c e)⟩
    · obtain ⟨w', z⟩ := I.cell y c e
      exact ⟨w', z.sameBut hs (cne y c e)⟩
    · obtain ⟨e, n, ne, nf, d⟩ := I.pin p hp
      exact ⟨(hs.2 p.1 ne).trans e, n, ne, nf, d⟩
  · have hfn : X.fn x = true := by
      rcases hf with z | z
      · exact z
      · rw [z] at hk; cases hk
    obtain ⟨c, hc⟩ := I.ok.has x (.inl hk)
    obtain ⟨w', z⟩ := I.cell x c hc
    refine wpAny_storeName_cell I.ok.kind hk hc z (fun h' hc' hs => ?_)
    obtain ⟨oc, hoc, hocd⟩ := id z
    refine h { s with heap := h' } ⟨I.ok, I.os, I.bare, ⟨fun b o e n hb hx => ?_, fun b o e n hb hx => ?_, I.base.free, fun b o e hx => ?_, I.base.tups, I.base.frzs, I.base.tbls⟩, ⟨m, hn.sameBut hs (Ne.symm (cne x c hc)), fun j y v' e1 e2 e3 => ?_⟩, fun y c' e => ?_, I.free, I.freeC, fun p hp => ?_, tracked ⟨oc, hoc, I.freeC x c hc⟩ hs, by simpa using I.len⟩ ⟨c, hs, .inr hc⟩
    · exact (hs.2 b (Nat.ne_of_lt (Nat.lt_of_lt_of_le (Heap.lt_size e) (I.ok.cab x c hfn hc)))).trans (I.base.keep b o e n hb hx)
    · obtain ⟨sl, e1⟩ := I.base.slot b o e n hb hx
      exact ⟨sl, (hs.2 b (Nat.ne_of_lt (Nat.lt_of_lt_of_le (Heap.lt_size e) (I.ok.cab x c hfn hc)))).trans e1⟩
    · obtain ⟨o', e1⟩ := I.base.there b o e hx
      exact ⟨o', (hs.2 b (Nat.ne_of_lt (Nat.lt_of_lt_of_le (Heap.lt_size e) (I.ok.cab x c hfn hc)))).trans e1⟩
    · by_cases hj : j = i
      · subst hj
        rw [hi] at e1; cases e1
        rw [List.getElem?_set_self hiσ] at e2
        cases e2
        exact ⟨u, r, .inr ⟨.inl hk, c, hc, hc'⟩⟩
      · rw [List.getElem?_set_ne (Ne.symm hj)] at e2
        obtain ⟨u', r', q⟩ := hl j y v' e1 e2 e3
        refine ⟨u', r', ?_⟩
        rcases q with q | ⟨k, c', e, z'⟩
        · exact .inl q
        · refine .inr ⟨k, c', e, z'.sameBut hs ?_⟩
          rintro rfl
          exact hj (nodup_ix hN e1 (I.ok.inj _ _ _ e hc ▸ hi))
    · by_cases hcc : c' = c
      · subst hcc; exact ⟨_, hc'⟩
      · obtain ⟨w2, z2⟩ := I.cell y c' e
        exact ⟨w2, z2.sameBut hs hcc⟩
    · obtain ⟨e, n, ne, nf, d⟩ := I.pin p hp
      refine ⟨(hs.2 p.1 ?_).trans e, n, ne, nf, d⟩
      intro q
      rw [q, hoc] at e
      have q' : oc = p.2 := Option.some.inj e
      exact d w' (by rw [← q']; exact hocd)
theorem store_ok {M : Model} {A : Around} {E : Value → Shared → Prop} {i : Nat} {x : Str} {v : V} {u : Value} {Q : Unit → Shared → Prop} (I : Inv X pins σ H s) (hN : X.N.Nodup) (hi : X.N[i]? = some x) (hx : Loc X.env.scope x) (r : RelV v u)
    (h : ∀ s', Inv X pins (σ.set i (some v)) H s' → Q () s') (hf : X.fn x = true ∨ X.env.scope.names.lookup x = some .local := by first | exact .inl rfl | exact .inr rfl | assumption) : wpAny M A (storeName X.env x u) Q E s :=
  store_ok2 I hN hi hx r (fun s' I' _ => h s' I') hf
theorem Inv.call' {s' : Shared} {ch : List Addr} (I : Inv X pins σ H s) (ho : s'.os = s.os) (u : Un (frs X.stack) ch H H' s.heap s'.heap) (hok : HOk X.prog X.w H' s'.heap) (hg : AllBare s'.gens)
    (hch : ∀ b ∈ ch, (b ∈ X.ex ∨ X.s₀.heap.objs.size ≤ b) ∧ b ≠ X.env.locals ∧ (∀ x c, X.env.cells.lookup x = some c → c ≠ b) ∧ ∀ p ∈ X.pn ++ pins, p.1 ≠ b) : Inv X pins σ H' s' := by
  obtain ⟨h', g', d', t', o'⟩ := s'
  have e : o' = s.os := ho
  subst e
  exact I.call (g' := g') (t' := t') (d' := d') u hok hg hch
end
abbrev XK := Value → Option Addr → Hp → Prop
abbrev St := List (Option V)
abbrev VK := V → Hp → Prop
abbrev TE := St → Hp → VK → Prop
abbrev TT := St → Hp → (Bool → Hp → Prop) → Prop
abbrev TA := St → Hp → (List V → Hp → Prop) → Prop
structure Ends where
  nx : St → Hp → Prop
  rt : VK
  bk : St → Hp → Prop := fun _ _ => False
  ct : St → Hp → Prop := fun _ _ => False
abbrev TS := Ends → St → Hp → Prop
def EP (X : Cx) (pins : List (Addr × Obj)) (σ : St) (Q : VK) (u : Value) (s' : Shared) : Prop := ∃ v H', Inv X pins σ H' s' ∧ RelV v u ∧ Q v H'
def TP (X : Cx) (pins : List (Addr × Obj)) (σ : St) (Q : Bool → Hp → Prop) (b : Bool) (s' : Shared) : Prop := ∃ H', Inv X pins σ H' s' ∧ Q b H'
def AP (X : Cx) (pins : List (Addr × Obj)) (σ : St) (Q : List V → Hp → Prop) (us : List Value) (s' : Shared) : Prop := ∃ vs H', Inv X pins σ H' s' ∧ Vals vs us ∧ Q vs H'
def SP (X : Cx) (pins : List (Addr × Obj)) (D : Ends) (f : Flow) (s' : Shared) : Prop :=
  match f with
  | .next => ∃ σ' H', Inv X pins σ' H' s' ∧ D.nx σ' H'
  | .brk => ∃ σ' H', Inv X pins σ' H' s' ∧ D.bk σ' H'
  | .cont => ∃ σ' H', Inv X pins σ' H' s' ∧ D.ct σ' H'
  | .ret u => ∃ v σ' H', Inv X pins σ' H' s' ∧ RelV v u ∧ D.rt v H'
def PE (X : Cx) (e : Expr) (t : TE) : Prop :=
  ∀ (pins : List (Addr × Obj)) (s : Shared) (σ : St) (H : Hp) (Q : VK), Inv X pins σ H s → t σ H Q → wpAny (model X.prog X.w) X.A (eval e X.env) (EP X pins σ Q) X.xe s
def PT (X : Cx) (e : Expr) (t : TT) : Prop :=
  ∀ (pins : List (Addr × Obj)) (s : Shared) (σ : St) (H : Hp) (Q : Bool → Hp → Prop), Inv X pins σ H s → t σ H Q → wpAny (model X.prog X.w) X.A (isTrue e X.env (eval e X.env)) (TP X pins σ Q) X.xe s
def PW (X : Cx) (e : Expr) (t : TT) : Prop :=
  ∀ (whole : Sem Value) (pins : List (Addr × Obj)) (s : Shared) (σ : St) (H : Hp) (Q : Bool → Hp → Prop), Inv X pins σ H s → t σ H Q → wpAny (model X.prog X.w) X.A (isTrue e X.env whole) (TP X pins σ Q) X.xe s
theorem PW.pt {X : Cx} {e : Expr} {t : TT} (h : PW X e t) : PT X e t := h _
def PA (X : Cx) (es : List Expr) (t : TA) : Prop :=
  ∀ (pos : Pos) (pins : List (Addr × Obj)) (s : Shared) (σ : St) (H : Hp) (Q : List V → Hp → Prop), Inv X pins σ H s → t σ H Q → wpAny (model X.prog X.w) X.A (spliced (backTo pos (starEach es X.env))) (AP X pins σ Q) X.xe s
def PS (X : Cx) (st : Stmt) (t : TS) : Prop :=
  ∀ (pins : List (Addr × Obj)) (s : Shared) (σ : St) (H : Hp) (D : Ends), Inv X pins σ H s → t D σ H → wpAny (model X.prog X.w) X.A (exec st X.env) (SP X pins D) X.xe s
def PSs (X : Cx) (st : List Stmt) (t : TS) : Prop :=
  ∀ (pins : List (Addr × Obj)) (s : Shared) (σ : St) (H : Hp) (D : Ends), Inv X pins σ H s → t D σ H → wpAny (model X.prog X.w) X.A (execs st X.env) (SP X pins D) X.xe s
theorem thn {α : Type} {t : Sem α} {Q Q' : α → Shared → Prop} {M : Model} {A : Around} {E : Value → Shared → Prop} {s : Shared} (h : wpAny M A t Q E s) (hQ : ∀ a s, Q a s → Q' a s) : wpAny M A t Q' E s := wpAny_mono h hQ fun _ _ x => x
end L2
namespace L2
open PySem PySem.Spec PyProof.Rows
section
variable {X : Cx}
def tVar (i : Nat) : TE := fun σ H Q => ∃ v, σ[i]? = some (some v) ∧ Q v H
def tC (v : V) : TE := fun _ H Q => Q v H
theorem pe_var {i : Nat} {x : Str} {pos : Pos} (hN : X.N[i]? = some x) (hv : Vis X.env.scope x) (hd : (x == ("__debug__" : Str)) = false := by decide) (hcd : (x == ("__classdict__" : Str)) = false := by decide) : PE X (.Name x pos) (tVar i) := by
  intro pins s σ H Q I h
  obtain ⟨v, e, h⟩ := h
  obtain ⟨m, hn, hl⟩ := I.loc
  obtain ⟨u, r, l⟩ := hl i x v hN e hv
  have fin : EP X pins σ Q u s := ⟨v, H, I, r, h⟩
  rcases l with ⟨hk, hm⟩ | ⟨hk, c, hc, hcell⟩
  · exact wpAny_Name (wpAny_loadName_local I.ok.kind hk hn hm fin) hd
  · rcases hk with hk | hk
    · exact wpAny_Name (wpAny_loadName_cell I.ok.kind hk hc hcell fin) hd
    · exact wpAny_Name (wpAny_loadName_free I.ok.kind hk hc hcell fin hcd) hd
theorem pe_int {i j pos} : PE X (.Constant (.int i) j pos) (tC (.int i)) := fun _ _ _ H _ I h => wpAny_Constant_int ⟨.int i, H, I.tok _, ⟨_, rfl⟩, h⟩
theorem pe_bl {b j pos} : PE X (.Constant (.bool b) j pos) (tC (.bl b)) := fun _ _ _ H _ I h => Constant_bool ⟨.bl b, H, I, rfl, h⟩
theorem pe_non {j pos} : PE X (.Constant .none j pos) (tC .non) := fun _ _ _ H _ I h => Constant_none ⟨.non, H, I, rfl, h⟩
theorem pe_str {x j pos} : PE X (.Constant (.str x) j pos) (tC (.str x)) := fun _ _ _ H _ I h => Calls.Constant_str ⟨.str x, H, I.tok _, ⟨_, rfl⟩, h⟩
def Gl (X : Cx) (x : Str) : Prop := X.env.kindOf x = some .globalImplicit
theorem ld_glob {E : Value → Shared → Prop} {pins : List (Addr × Obj)} {s : Shared} {σ : St} {H : Hp} {x : Str} {u : Value} {pos : Pos} {Q : Value → Shared → Prop} (I : Inv X pins σ H s) (hg : Gl X x) (hm : X.mg x = some u) (h : Q u s)
    (hd : (x == ("__debug__" : Str)) = false := by decide) : wpAny (model X.prog X.w) X.A (eval (.Name x pos) X.env) Q E s :=
  Calls.Name_function_global I.ok.kind hg (Calls.loadGlobal_global (by rw [I.ok.glob]; exact I.mod.glob.keeps I.bk) hm h) hd
theorem ld_blt {E : Value → Shared → Prop} {pins : List (Addr × Obj)} {s : Shared} {σ : St} {H : Hp} {x : Str} {u : Value} {pos : Pos} {Q : Value → Shared → Prop} (I : Inv X pins σ H s) (hg : Gl X x) (hm : X.mg x = none) (hv : bootBuiltins x = some u) (h : Q u s)
    (hn : x ≠ "__name__" := by decide) (hd : (x == ("__debug__" : Str)) = false := by decide) : wpAny (model X.prog X.w) X.A (eval (.Name x pos) X.env) Q E s := by
  obtain ⟨mb, h1, h2⟩ := I.mod.blt
  exact Calls.Name_function_global I.ok.kind hg (Calls.loadGlobal_builtin (by rw [I.ok.glob]; exact I.mod.glob.keeps I.bk) hm (by rw [I.ok.blt]; exact h1.keeps I.bk) ((h2 x hn).trans hv) h) hd
theorem pe_glob {x : Str} {v : V} {u : Value} {pos : Pos} (hg : Gl X x) (hm : X.mg x = some u) (r : RelV v u) (hd : (x == ("__debug__" : Str)) = false := by decide) : PE X (.Name x pos) (tC v) :=
  fun _ _ _ H _ I h => ld_glob I hg hm ⟨v, H, I, r, h⟩ hd
theorem pe_bltn {x : Str} {v : V} {u : Value} {pos : Pos} (hg : Gl X x) (hm : X.mg x = none) (hv : bootBuiltins x = some u) (r : RelV v u) (hn : x ≠ "__name__" := by decide) (hd : (x == ("__debug__" : Str)) = false := by decide) : PE X (.Name x pos) (tC v) :=
  fun _ _ _ H _ I h => ld_blt I hg hm hv ⟨v, H, I, r, h⟩ hn hd
def t2I (ta tb : TE) (k : Int → Int → Hp → Prop) : St → Hp → Prop := fun σ H => ta σ H fun x H1 => tb σ H1 fun y H2 => ∃ i j, x = .int i ∧ y = .int j ∧ k i j H2
def tAdd (ta tb : TE) : TE := fun σ H Q => t2I ta tb (fun i j H2 => Q (.int (i + j)) H2) σ H
def tSub (ta tb : TE) : TE := fun σ H Q => t2I ta tb (fun i j H2 => Q (.int (i - j)) H2) σ H
def tMul (ta tb : TE) : TE := fun σ H Q => t2I ta tb (fun i j H2 => (-(2 ^ 64) < i ∧ i < 2 ^ 64) ∧ Q (.int (i * j)) H2) σ H
variable {a b : Expr} {ta tb : TE} {pos : Pos}
def PC (X : Cx) (op : CmpOp) (a b : Expr) (t : TE) : Prop :=
  ∀ (pins : List (Addr × Obj)) (s : Shared) (σ : St) (H : Hp) (Q : VK), Inv X pins σ H s → t σ H Q →
    wpAny (model X.prog X.w) X.A (eval a X.env) (fun v s₁ => wpAny (model X.prog X.w) X.A (eval b X.env) (fun u s₂ => wpAny (model X.prog X.w) X.A (compareOp op v u) (EP X pins σ Q) X.xe s₂) X.xe s₁) X.xe s
def tCmp (p : Int → Int → Bool) (ta tb : TE) : TE := fun σ H Q => t2I ta tb (fun i j H2 => Q (.bl (p i j)) H2) σ H
abbrev tLt : TE → TE → TE := tCmp fun i j => decide (i < j)
abbrev tLe : TE → TE → TE := tCmp fun i j => decide (i ≤ j)
abbrev tGt : TE → TE → TE := tCmp fun i j => decide (j < i)
abbrev tGe : TE → TE → TE := tCmp fun i j => decide (j ≤ i)
abbrev tEqI : TE → TE → TE := tCmp fun i j => decide (i = j)
abbrev tNeI : TE → TE → TE := tCmp fun i j => !decide (i = j)
def tIsN (ta : TE) : TE := fun σ H Q => ta σ H fun x H1 => Q (.bl (decide (x = .non))) H1
def tNotN (ta : TE) : TE := fun σ H Q => ta σ H fun x H1 => Q (.bl (!decide (x = .non))) H1
def tB (t : TE) : TT := fun σ H Q => t σ H fun x H1 => ∃ c, x = .bl c ∧ Q c H1
theorem pt_val {e : Expr} {t : TE} (h : PE X e t) (he : ∀ whole, isTrue e X.env whole = (do let v ← whole; standAt e.pos; holding [v] (truthy v)) := by intro _; rfl) : PT X e (tB t) := by
  intro pins s σ H Q I hw
  refine isTrue_plain (thn (h pins s σ H _ I hw) fun v s1 ⟨x, H1, I1, r1, q1⟩ => ?_) (he _)
  obtain ⟨d, rfl, q⟩ := q1
  cases r1
  exact wpAny_truthy_bool ⟨H1, I1, q⟩
variable {tA tB' : TT} {rest : List Expr}
def tAnd (t u : TT) : TT := fun σ H Q => t σ H fun c H1 => if c = true then u σ H1 Q else Q false H1
def tOr (t u : TT) : TT := fun σ H Q => t σ H fun c H1 => if c = true then Q true H1 else u σ H1 Q
def tNot (t : TT) : TT := fun σ H Q => t σ H fun c H1 => Q (!c) H1
theorem pw_and1 (ha : PT X a tA) : PW X (.BoolOp .And [a] pos) tA := by
  intro wh pins s σ H Q I h
  refine isTrue_and (thn (ha pins s σ H Q I h) fun c s1 e => ?_)
  cases c with
  | true => exact isTrue_and_nil e
  | false => exact e
theorem pw_or1 (ha : PT X a tA) : PW X (.BoolOp .Or [a] pos) tA := by
  intro wh pins s σ H Q I h
  refine isTrue_or (thn (ha pins s σ H Q I h) fun c s1 e => ?_)
  cases c with
  | false => exact isTrue_or_nil e
  | true => exact e
theorem pw_and (ha : PT X a tA) (hb : PW X (.BoolOp .And (b :: rest) pos) tB') : PW X (.BoolOp .And (a :: b :: rest) pos) (tAnd tA tB') := by
  intro wh pins s σ H Q I h
  refine isTrue_and (thn (ha pins s σ H _ I h) fun c s1 ⟨H1, I1, q1⟩ => ?_)
  cases c with
  | true => exact hb wh pins s1 σ H1 Q I1 q1
  | false => exact ⟨H1, I1, q1⟩
theorem pw_or (ha : PT X a tA) (hb : PW X (.BoolOp .Or (b :: rest) pos) tB') : PW X (.BoolOp .Or (a :: b :: rest) pos) (tOr tA tB') := by
  intro wh pins s σ H Q I h
  refine isTrue_or (thn (ha pins s σ H _ I h) fun c s1 ⟨H1, I1, q1⟩ => ?_)
  cases c with
  | true => exact ⟨H1, I1, q1⟩
  | false => exact hb wh pins s1 σ H1 Q I1 q1
theorem pt_not (ha : PT X a tA) : PT X (.UnaryOp .Not a pos) (tNot tA) := by
  intro pins s σ H Q I h
  exact isTrue_not (ha pins s σ H (fun c H1 => Q (!c) H1) I h)
def tAndV (ta tb : TE) : TE := fun σ H Q => ta σ H fun x H1 => ∃ c, x = .bl c ∧ if c = true then tb σ H1 Q else Q (.bl false) H1
def tOrV (ta tb : TE) : TE := fun σ H Q => ta σ H fun x H1 => ∃ c, x = .bl c ∧ if c = true then Q (.bl true) H1 else tb σ H1 Q
def tNotV (ta : TE) : TE := fun σ H Q => ta σ H fun x H1 => ∃ c, x = .bl c ∧ Q (.bl (!c)) H1
theorem pe_one {op} {t : TE} (h : PE X a t) : PE X (.BoolOp op [a] pos) t := fun pins s σ H Q I hw => BoolOp_one (h pins s σ H Q I hw)
theorem pe_and (ha : PE X a ta) (hb : PE X (.BoolOp .And (b :: rest) pos) tb) : PE X (.BoolOp .And (a :: b :: rest) pos) (tAndV ta tb) := by
  intro pins s σ H Q I h
  refine BoolOp_and (thn (ha pins s σ H _ I h) fun v s1 ⟨x, H1, I1, r1, q1⟩ => ?_)
  obtain ⟨c, rfl, q1⟩ := q1
  cases r1
  refine wpAny_truthy_bool ?_
  cases c with
  | true => exact hb pins s1 σ H1 Q I1 q1
  | false => exact ⟨.bl false, H1, I1, rfl, q1⟩
theorem pe_or (ha : PE X a ta) (hb : PE X (.BoolOp .Or (b :: rest) pos) tb) : PE X (.BoolOp .Or (a :: b :: rest) pos) (tOrV ta tb) := by
  intro pins s σ H Q I h
  refine BoolOp_or (thn (ha pins s σ H _ I h) fun v s1 ⟨x, H1, I1, r1, q1⟩ => ?_)
  obtain ⟨c, rfl, q1⟩ := q1
  cases r1
  refine wpAny_truthy_bool ?_
  cases c with
  | false => exact hb pins s1 σ H1 Q I1 q1
  | true => exact ⟨.bl true, H1, I1, rfl, q1⟩
def tIf (t : TT) (ta tb : TE) : TE := fun σ H Q => t σ H fun c H1 => if c = true then ta σ H1 Q else tb σ H1 Q
theorem pe_ifExp {c : Expr} (hc : PT X c tA) (ha : PE X a ta) (hb : PE X b tb) : PE X (.IfExp c a b pos) (tIf tA ta tb) := by
  intro pins s σ H Q I h
  refine wpAny_IfExp (thn (hc pins s σ H _ I h) fun d s1 ⟨H1, I1, q1⟩ => ?_)
  cases d with
  | true => exact ha pins s1 σ H1 Q I1 q1
  | false => exact hb pins s1 σ H1 Q I1 q1
end
end L2
namespace L2
open PySem PySem.Spec PyProof.Rows
def SqL (K : PySem.W.Frag) (H : Hp) (a : Addr) (xs : List V) : Prop :=
  Rd H a (.lst xs) ∨
    ∃ (o : Obj) (its : Array Value) (n : Nat), K.lookup a = some o ∧ o.cls = .type "list" ∧ o.dict = none ∧ o.data = .seq its n ∧ its.size ≤ sizeLine ∧ Vals xs its.toList
def SqT (K : PySem.W.Frag) (H : Hp) (a : Addr) (xs : List V) : Prop :=
  Rd H a (.tup xs) ∨
    ∃ (o : Obj) (its : Array Value) (n : Nat), K.lookup a = some o ∧ o.cls = .type "tuple" ∧ o.data = .seq its n ∧ its.size ≤ sizeLine ∧ Vals xs its.toList
def absV : Value → Option V
  | .none => some .non
  | .bool b => some (.bl b)
  | .int i _ => some (.int i)
  | .str x _ => some (.str x)
  | .bytes b _ => some (.byt b)
  | .float b _ => some (.flt b)
  | .ref a => some (.ref a)
  | .type n => some (.ty n)
  | _ => none
theorem RelV.abs {x : V} {u : Value} (r : RelV x u) : absV u = some x := by
  cases x with
  | non => cases r; rfl
  | bl _ => cases r; rfl
  | int _ => obtain ⟨t, rfl⟩ := r; rfl
  | str _ => obtain ⟨t, rfl⟩ := r; rfl
  | byt _ => obtain ⟨t, rfl⟩ := r; rfl
  | flt _ => obtain ⟨t, rfl⟩ := r; rfl
  | ref _ => cases r; rfl
  | ty _ => cases r; rfl
theorem RelV.inj {x y : V} {u : Value} (r : RelV x u) (q : RelV y u) : x = y := Option.some.inj (r.abs.symm.trans q.abs)
theorem Vals.inj : ∀ {xs ys : List V} {us : List Value}, Vals xs us → Vals ys us → xs = ys
  | _, _, _, .nil, .nil => rfl
  | _, _, _, .cons r t, .cons r' t' => by rw [r.inj r', Vals.inj t t']
section
variable {X : Cx} {pins : List (Addr × Obj)} {σ : St} {H : Hp} {s : Shared} {a : Addr} {xs ys : List V}
theorem SqL.of {K : PySem.W.Frag} (h : H a = some (.lst xs)) : SqL K H a xs := .inl (.inl h)
theorem SqT.of {K : PySem.W.Frag} (h : H a = some (.tup xs)) : SqT K H a xs := .inl (.inl h)
theorem Inv.list (I : Inv X pins σ H s) (h : SqL X.K H a xs) : ∃ its : List Value, Vals xs its ∧ PlainL s.heap a its.toArray ∧ xs.length ≤ sizeLine := by
  rcases h with h | ⟨o, its, n, hk, hc, hd, hs, hz, r⟩
  · obtain ⟨z, its, n, r, e⟩ := h.ok I.hok
    exact ⟨its, r, ⟨_, n, e, rfl, rfl, rfl⟩, z⟩
  · refine ⟨its.toList, r, ⟨o, n, I.kIn a o hk, hc, hd, by simpa using hs⟩, ?_⟩
    have e := r.length
    simp only [Array.length_toList] at e
    omega
theorem Inv.tuple (I : Inv X pins σ H s) (h : SqT X.K H a xs) : ∃ its : List Value, Vals xs its ∧ IsTup s.heap a its.toArray ∧ xs.length ≤ sizeLine := by
  rcases h with h | ⟨o, its, n, hk, hc, hs, hz, r⟩
  · obtain ⟨z, its, r, p⟩ := h.ok I.hok
    exact ⟨its, r, p, z⟩
  · refine ⟨its.toList, r, ⟨o, I.kIn a o hk, hc, n, by simpa using hs⟩, ?_⟩
    have e := r.length
    simp only [Array.length_toList] at e
    omega
theorem Inv.list_inj (I : Inv X pins σ H s) (h : SqL X.K H a xs) (h' : SqL X.K H a ys) : xs = ys := by
  obtain ⟨its, r, ⟨o, n, e, _, _, d⟩, _⟩ := I.list h
  obtain ⟨its', r', ⟨o', n', e', _, _, d'⟩, _⟩ := I.list h'
  rw [e] at e'; cases e'
  rw [d] at d'
  injection d' with d1 _
  have : its = its' := by simpa using congrArg Array.toList d1
  subst this
  exact r.inj r'
theorem Inv.tuple_inj (I : Inv X pins σ H s) (h : SqT X.K H a xs) (h' : SqT X.K H a ys) : xs = ys := by
  obtain ⟨its, r, ⟨o, e, _, n, d⟩, _⟩ := I.tuple h
  obtain ⟨its', r', ⟨o', e', _, n', d'⟩, _⟩ := I.tuple h'
  rw [e] at e'; cases e'
  rw [d] at d'
  injection d' with d1 _
  have : its = its' := by simpa using congrArg Array.toList d1
  subst this
  exact r.inj r'
end
abbrev Cx.wish (X : Cx) (E : Value → Shared → Prop) : Cx := { X with xe := E }
abbrev Cx.nox (X : Cx) : Cx := X.wish fun _ _ => False
theorem Cx.Ok.wish {X : Cx} (ok : X.Ok) (E : Value → Shared → Prop) : (X.wish E).Ok :=
  ⟨ok.mod, ok.kind, ok.glob, ok.blt, ok.above, ok.inj, ok.has, ok.cab, ok.hd, ok.frames, ok.stk, ok.exf, ok.bs, ok.bsz, ok.noex, ok.exfs, ok.funs, ok.frf⟩
theorem Cx.Ok.unwish {X : Cx} {E : Value → Shared → Prop} (ok : (X.wish E).Ok) : X.Ok :=
  ⟨ok.mod, ok.kind, ok.glob, ok.blt, ok.above, ok.inj, ok.has, ok.cab, ok.hd, ok.frames, ok.stk, ok.exf, ok.bs, ok.bsz, ok.noex, ok.exfs, ok.funs, ok.frf⟩
section
variable {X : Cx} {pins : List (Addr × Obj)} {σ : St} {H : Hp} {s : Shared} {E : Value → Shared → Prop}
theorem Inv.wish (I : Inv X pins σ H s) (E : Value → Shared → Prop) : Inv (X.wish E) pins σ H s := ⟨I.ok.wish E, I.os, I.bare, I.base, I.loc, I.cell, I.free, I.freeC, I.pin, I.hok, I.len⟩
theorem Inv.unwish (I : Inv (X.wish E) pins σ H s) : Inv X pins σ H s := ⟨I.ok.unwish, I.os, I.bare, I.base, I.loc, I.cell, I.free, I.freeC, I.pin, I.hok, I.len⟩
theorem SP.unwish {D : Ends} {f : Flow} {s' : Shared} (h : SP (X.wish E) pins D f s') : SP X pins D f s' := by
  cases f with
  | next => obtain ⟨σ', H', I, q⟩ := h; exact ⟨σ', H', I.unwish, q⟩
  | brk => obtain ⟨σ', H', I, q⟩ := h; exact ⟨σ', H', I.unwish, q⟩
  | cont => obtain ⟨σ', H', I, q⟩ := h; exact ⟨σ', H', I.unwish, q⟩
  | ret u => obtain ⟨v, σ', H', I, r, q⟩ := h; exact ⟨v, σ', H', I.unwish, r, q⟩
theorem PSs.nox {st : List Stmt} {t : TS} (h : PSs X.nox st t) : PSs X st t := fun pins s σ H D I hw =>
  wpAny_mono (h pins s σ H D (I.wish _) hw) (fun _ _ q => q.unwish) fun _ _ z => False.elim z
end
section
variable {X : Cx} {st : Stmt} {rest : List Stmt} {t u : TS} {e : Expr} {te : TE} {pos : Pos}
def tNext : TS := fun D σ H => D.nx σ H
def tSeq (t u : TS) : TS := fun D σ H => t { D with nx := u D } σ H
theorem pss_nil : PSs X [] tNext := fun _ _ σ H _ I h => wpAny_execs_nil ⟨σ, H, I, h⟩
theorem pss_cons (h1 : PS X st t) (h2 : PSs X rest u) : PSs X (st :: rest) (tSeq t u) := by
  intro pins s σ H D I h
  refine wpAny_execs_cons (thn (h1 pins s σ H { D with nx := u D } I h) fun f s1 q => ?_)
  cases f with
  | next =>
    obtain ⟨σ', H', I', q⟩ := q
    exact h2 pins s1 σ' H' D I' q
  | ret v => exact q
  | brk => exact q
  | cont => exact q
theorem pss_one (h1 : PS X st t) : PSs X [st] t := by
  intro pins s σ H D I h
  refine wpAny_execs_cons (thn (h1 pins s σ H D I h) fun f s1 q => ?_)
  cases f with
  | next => exact wpAny_execs_nil q
  | ret v => exact q
  | brk => exact q
  | cont => exact q
def tBreak : TS := fun D σ H => D.bk σ H
def tCont : TS := fun D σ H => D.ct σ H
theorem Inv.quiet {pins : List (Addr × Obj)} {σ : St} {H : Hp} {s : Shared} (I : Inv X pins σ H s) : interactive X.env = false := by simp [interactive, I.ok.kind]
def tDrop (te : TE) : TS := fun D σ H => te σ H fun _ H1 => D.nx σ H1
theorem ps_expr (he : PE X e te) (hs : swapsWith e none pos.line X.env = pure false := by rfl) : PS X (.Expr e pos) (tDrop te) := by
  intro pins s σ H D I h
  exact wpAny_Expr_any (thn (he pins s σ H _ I h) fun v s1 ⟨x, H1, I1, r1, q1⟩ => ⟨σ, H1, I1, q1⟩) I.quiet hs
def tRet (te : TE) : TS := fun D σ H => te σ H D.rt
theorem ps_ret (he : PE X e te) : PS X (.Return (some e) pos) (tRet te) := by
  intro pins s σ H D I h
  exact wpAny_Return_some (thn (he pins s σ H _ I h) fun v s1 ⟨x, H1, I1, r1, q1⟩ => ⟨x, σ, H1, I1, r1, q1⟩)
def tRetN : TS := fun D _ H => D.rt .non H
def tIfS (c : TT) (t u : TS) : TS := fun D σ H => c σ H fun b H1 => if b = true then t D σ H1 else u D σ H1
theorem ps_if {c : Expr} {a b : List Stmt} {tc : TT} (hc : PT X c tc) (ha : PSs X a t) (hb : PSs X b u) : PS X (.If c a b pos) (tIfS tc t u) := by
  intro pins s σ H D I h
  refine wpAny_If (thn (hc pins s σ H _ I h) fun d s1 ⟨H1, I1, q1⟩ => ?_)
  cases d with
  | true => exact ha pins s1 σ H1 D I1 q1
  | false => exact hb pins s1 σ H1 D I1 q1
def tNever : TS := fun _ _ _ => False
end
abbrev TG := V → St → Hp → (St → Hp → Prop) → Prop
abbrev TGs := List V → St → Hp → (St → Hp → Prop) → Prop
def PG (X : Cx) (target : Expr) (t : TG) : Prop :=
  ∀ (pins : List (Addr × Obj)) (s : Shared) (σ : St) (H : Hp) (v : V) (u : Value) (Q : St → Hp → Prop), Inv X pins σ H s → RelV v u → t v σ H Q →
    wpAny (model X.prog X.w) X.A (assign target X.env u) (fun _ s' => ∃ σ' H', Inv X pins σ' H' s' ∧ Q σ' H') X.xe s
def PGs (X : Cx) (ts : List Expr) (t : TGs) : Prop :=
  ∀ (pins : List (Addr × Obj)) (s : Shared) (σ : St) (H : Hp) (vs : List V) (us : List Value) (Q : St → Hp → Prop), Inv X pins σ H s → Vals vs us → t vs σ H Q →
    wpAny (model X.prog X.w) X.A (assignInOrder ((assignEach ts X.env).map (·.2)) us) (fun _ s' => ∃ σ' H', Inv X pins σ' H' s' ∧ Q σ' H') X.xe s
abbrev TSet := V → V → V → Hp → (Hp → Prop) → Prop
def PSet (X : Cx) (t : TSet) : Prop :=
  ∀ (pins : List (Addr × Obj)) (s : Shared) (σ : St) (H : Hp) (o i v : V) (ov iv u : Value) (Q : Hp → Prop), Inv X pins σ H s → RelV o ov → RelV i iv → RelV v u → t o i v H Q →
    wpAny (model X.prog X.w) X.A (setItem ov iv u) (fun _ s' => ∃ H', Inv X pins σ H' s' ∧ Q H') X.xe s
abbrev TIp := V → V → Hp → VK → Prop
def PIp (X : Cx) (op : Operator) (t : TIp) : Prop :=
  ∀ (pins : List (Addr × Obj)) (s : Shared) (σ : St) (H : Hp) (x y : V) (v u : Value) (Q : VK), Inv X pins σ H s → RelV x v → RelV y u → t x y H Q →
    wpAny (model X.prog X.w) X.A (inplaceOp op v u) (EP X pins σ Q) X.xe s
section
variable {X : Cx} {pos : Pos}
def gName (i : Nat) : TG := fun v σ H Q => Q (σ.set i (some v)) H
theorem pg_name {i : Nat} {x : Str} (hN : X.N.Nodup) (hi : X.N[i]? = some x) (hx : Loc X.env.scope x) (hf : X.fn x = true ∨ X.env.scope.names.lookup x = some .local := by first | exact .inl rfl | exact .inr rfl | assumption) : PG X (.Name x pos) (gName i) := by
  intro pins s σ H v u Q I r h
  exact wpAny_assign_Name (store_ok I hN hi hx r (fun s' I' => ⟨_, H, I', h⟩) hf)
def gNil : TGs := fun vs σ H Q => vs = [] ∧ Q σ H
def gCons (t : TG) (u : TGs) : TGs := fun vs σ H Q => ∃ v r, vs = v :: r ∧ t v σ H fun σ' H' => u r σ' H' Q
theorem pgs_nil : PGs X [] gNil := by
  intro pins s σ H vs us Q I r h
  obtain ⟨e, h⟩ := h
  subst e
  cases r
  exact assignInOrder_nil ⟨σ, H, I, h⟩
theorem pgs_cons {e : Expr} {es : List Expr} {t : TG} {u : TGs} (h1 : PG X e t) (h2 : PGs X es u)
    (hs : (assignEach (e :: es) X.env).map (·.2) = assign e X.env :: (assignEach es X.env).map (·.2) := by rfl) : PGs X (e :: es) (gCons t u) := by
  intro pins s σ H vs us Q I r h
  obtain ⟨v, vr, e1, h⟩ := h
  subst e1
  cases r with
  | cons r rr =>
    rw [hs]
    refine assignInOrder_cons (thn (h1 pins s σ H _ _ _ I r h) fun _ s1 ⟨σ1, H1, I1, q1⟩ => ?_)
    exact h2 pins s1 σ1 H1 _ _ Q I1 rr q1
def gTup (K : PySem.W.Frag) (n : Nat) (t : TGs) : TG := fun v σ H Q => ∃ a xs, v = .ref a ∧ SqT K H a xs ∧ xs.length = n ∧ t xs σ H Q
theorem pg_tup {es : List Expr} {k : Nat} {t : TGs} {n : Nat} (hc : X.calm = true) (h : PGs X es t)
    (hn : (assignEach es X.env).length = n := by rfl) (hst : (assignEach es X.env).findIdx? (·.1) = none := by rfl) : PG X (.Tuple es k pos) (gTup X.K n t) := by
  intro pins s σ H v u Q I r hw
  obtain ⟨a, xs, e1, hq, hl, hw⟩ := hw
  subst e1
  cases r
  obtain ⟨its, rv, ht, hz⟩ := I.tuple hq
  refine assign_Tuple_tuple (I.ok.hd hc) ht (by simp [hn, ← hl, rv.length]) hst fun h' hx => ?_
  have I1 : Inv X pins σ H { s with heap := h' } := I.kept (t' := s.toks) fun b o e => hx b o (Nat.ne_of_lt (Heap.lt_size e)) e
  exact h pins _ σ H xs _ Q I1 (by simpa using rv) hw
def gSub (to ti : TE) (t : TSet) : TG := fun v σ H Q => to σ H fun o H1 => ti σ H1 fun i H2 => t o i v H2 fun H3 => Q σ H3
theorem pg_sub {o i : Expr} {to ti : TE} {t : TSet} (ho : PE X o to) (hi : PE X i ti) (hs : PSet X t)
    (ha : ∀ v, assign (.Subscript o i pos) X.env v = (do
      let ov ← holding [v] (eval o X.env)
      let iv ← holding [v, ov] (eval i X.env)
      standAt pos
      holding [v, ov, iv] (setItem ov iv v)
      release [v, ov, iv] []) := by intro _; rfl) : PG X (.Subscript o i pos) (gSub to ti t) := by
  intro pins s σ H v u Q I r h
  rw [ha]
  refine wpAny_bind (wpAny_holding (thn (ho pins s σ H _ I h) fun ov s1 ⟨x, H1, I1, r1, q1⟩ => ?_))
  refine wpAny_bind (wpAny_holding (thn (hi pins s1 σ H1 _ I1 q1) fun iv s2 ⟨y, H2, I2, r2, q2⟩ => ?_))
  refine wpAny_bind (wpAny_standAt (wpAny_bind (wpAny_holding (thn (hs pins s2 σ H2 x y v ov iv u _ I2 r1 r2 r q2) fun _ s3 ⟨H3, I3, q3⟩ => ?_))))
  exact wpAny_release ⟨σ, H3, I3, q3⟩
def tAsg (te : TE) (g : TG) : TS := fun D σ H => te σ H fun x H1 => g x σ H1 D.nx
theorem ps_asg {tg e : Expr} {te : TE} {g : TG} (he : PE X e te) (hg : PG X tg g) (hs : swapsWithSole [tg] e pos.line X.env = pure false := by rfl) (hw : swappedStores [tg] e X.env = pure none := by rfl)
    (h1 : (assignEach [tg] X.env).map (·.2) = [assign tg X.env] := by rfl) : PS X (.Assign [tg] e pos) (tAsg te g) := by
  intro pins s σ H D I h
  refine wpAny_Assign_stores (thn (he pins s σ H _ I h) fun v s1 ⟨x, H1, I1, r1, q1⟩ => ?_) hs hw
  rw [h1]
  exact thn (hg pins s1 σ H1 x v _ I1 r1 q1) fun _ s2 q => q
theorem ps_set {i : Nat} {x : Str} {e : Expr} {te : TE} {pos' : Pos} (hN : X.N.Nodup) (hi : X.N[i]? = some x) (hx : Loc X.env.scope x) (he : PE X e te) (hs : swapsWith e (some (.Name x pos')) pos.line X.env = pure false := by rfl) (hf : X.fn x = true ∨ X.env.scope.names.lookup x = some .local := by first | exact .inl rfl | exact .inr rfl | assumption) :
    PS X (.Assign [.Name x pos'] e pos) (tAsg te (gName i)) := by
  intro pins s σ H D I h
  refine wpAny_Assign_Name (thn (he pins s σ H _ I h) fun v s1 ⟨y, H1, I1, r1, q1⟩ => ?_) hs
  exact store_ok I1 hN hi hx r1 (fun s2 I2 => ⟨_, H1, I2, q1⟩) hf
def tPar (i j : Nat) (ta : TA) : TS := fun D σ H => ta σ H fun vs H1 => ∃ v w, vs = [v, w] ∧ D.nx ((σ.set i (some v)).set j (some w)) H1
def tAug (i : Nat) (te : TE) (ti : TIp) : TS := fun D σ H => ∃ x, σ[i]? = some (some x) ∧ te σ H fun y H1 => ti x y H1 fun z H2 => D.nx (σ.set i (some z)) H2
theorem ps_aug {i : Nat} {x : Str} {e : Expr} {te : TE} {op : Operator} {ti : TIp} {pos' : Pos} (hN : X.N.Nodup) (hi : X.N[i]? = some x) (hx : Loc X.env.scope x) (he : PE X e te) (ho : PIp X op ti) (hf : X.fn x = true ∨ X.env.scope.names.lookup x = some .local := by first | exact .inl rfl | exact .inr rfl | assumption) :
    PS X (.AugAssign (.Name x pos') op e pos) (tAug i te ti) := by
  intro pins s σ H D I h
  obtain ⟨v, e1, h⟩ := h
  obtain ⟨m, hn, hl⟩ := I.loc
  have vis : Vis X.env.scope x := by rcases hx with k | k; exact .inl k; exact .inr (.inl k)
  obtain ⟨u, r, l⟩ := hl i x v hi e1 vis
  refine wpAny_AugAssign_Name ?_
  have go : wpAny (model X.prog X.w) X.A (eval e X.env) (fun w s₂ => wpAny (model X.prog X.w) X.A (inplaceOp op u w) (fun r s₃ => wpAny (model X.prog X.w) X.A (storeName X.env x r) (fun _ => SP X pins D .next) X.xe s₃) X.xe s₂) X.xe s := by
    refine thn (he pins s σ H _ I h) fun w s1 ⟨y, H1, I1, r1, q1⟩ => ?_
    refine thn (ho pins s1 σ H1 v y u w _ I1 r r1 q1) fun z s2 ⟨zv, H2, I2, r2, q2⟩ => ?_
    exact store_ok I2 hN hi hx r2 (fun s3 I3 => ⟨_, H2, I3, q2⟩) hf
  rcases l with ⟨hk, hm⟩ | ⟨hk, c, hc, hcell⟩
  · exact wpAny_loadName_local I.ok.kind hk hn hm go
  · rcases hk with hk | hk
    · exact wpAny_loadName_cell I.ok.kind hk hc hcell go
    · rcases hx with k | k
      · have : X.env.scope.names.lookup x = some .free := hk
        rw [k] at this; cases this
      · have : X.env.scope.names.lookup x = some .free := hk
        rw [k] at this; cases this
def tAugS (to ti te : TE) (tget : V → V → Hp → VK → Prop) (tip : TIp) (tset : TSet) : TS := fun D σ H => to σ H fun o H1 => ti σ H1 fun i H2 => tget o i H2 fun x H3 => te σ H3 fun y H4 => tip x y H4 fun z H5 => tset o i z H5 fun H6 => D.nx σ H6
def PGet (X : Cx) (t : V → V → Hp → VK → Prop) : Prop :=
  ∀ (pins : List (Addr × Obj)) (s : Shared) (σ : St) (H : Hp) (o i : V) (ov iv : Value) (Q : VK), Inv X pins σ H s → RelV o ov → RelV i iv → t o i H Q →
    wpAny (model X.prog X.w) X.A (getItem ov iv) (EP X pins σ Q) X.xe s
def ipI (f : Int → Int → Int) : TIp := fun x y H Q => ∃ i j, x = .int i ∧ y = .int j ∧ Q (.int (f i j)) H
theorem ip_add : PIp X .Add (ipI fun i j => i + j) := by
  intro pins s σ H x y v u Q I r1 r2 h
  obtain ⟨i, j, e1, e2, q⟩ := h
  subst e1; subst e2
  obtain ⟨t, rfl⟩ := r1
  obtain ⟨t', rfl⟩ := r2
  exact iadd_int ⟨.int _, H, I.tok _, ⟨_, rfl⟩, q⟩
end
section
variable {X : Cx} {pos : Pos}
def tWhile (c : TT) (tb : TS) : TS := fun D σ H => ∃ W : Nat → St → Hp → Prop, (∃ m, W m σ H) ∧ ∀ m σ H, W m σ H →
  c σ H fun b H1 => if b = true then ∃ N : St → Hp → Prop, (∀ σ' H', N σ' H' → ∃ m', m' < m ∧ W m' σ' H') ∧ tb { D with nx := N, ct := N, bk := D.nx } σ H1 else D.nx σ H1
theorem ps_while {c : Expr} {body : List Stmt} {tc : TT} {tb : TS} (hp : PassesOwn (model X.prog X.w) X.A X.env X.xe) (hc : PT X c tc) (hb : PSs X body tb) : PS X (.While c body [] pos) (tWhile tc tb) := by
  intro pins s σ H D I h
  obtain ⟨W, ⟨m0, w0⟩, turn⟩ := h
  refine wpAny_While (codeAny_whileLoop (fun n s' => ∃ σ' H', Inv X pins σ' H' s' ∧ W n σ' H') ?_ m0 ⟨σ, H, I, w0⟩)
  rintro n s1 ⟨σ1, H1, I1, w1⟩
  refine wpAny_passesOwn hp (thn (hc pins s1 σ1 H1 _ I1 (turn n σ1 H1 w1)) fun b s2 ⟨H2, I2, q2⟩ => ?_)
  cases b with
  | true =>
    obtain ⟨N, hN, q2⟩ := q2
    rw [if_pos rfl]
    refine wpAny_passesOwn hp (thn (hb pins s2 σ1 H2 _ I2 q2) fun f s3 q3 => ?_)
    cases f with
    | next =>
      obtain ⟨σ3, H3, I3, n3⟩ := q3
      obtain ⟨m', hm, w3⟩ := hN σ3 H3 n3
      exact ⟨m', hm, σ3, H3, I3, w3⟩
    | cont =>
      obtain ⟨σ3, H3, I3, n3⟩ := q3
      obtain ⟨m', hm, w3⟩ := hN σ3 H3 n3
      exact ⟨m', hm, σ3, H3, I3, w3⟩
    | brk => exact q3
    | ret v => exact q3
  | false =>
    rw [if_neg Bool.false_ne_true]
    exact wpAny_execs_nil ⟨σ1, H2, I2, q2⟩
end
structure It where
  go : Nat → Hp → Prop
  yld : Nat → Hp → V → Hp → Prop
  stop : Nat → Hp → Prop
def FpOk (X : Cx) (pins : List (Addr × Obj)) (H : Hp) (b : Addr) : Prop :=
  H b = none ∧ b ≠ X.env.locals ∧ b ∉ X.fs ∧ (b ∈ X.ex ∨ X.s₀.heap.objs.size ≤ b) ∧ (∀ x c, X.env.cells.lookup x = some c → c ≠ b) ∧ ∀ p ∈ X.pn ++ pins, p.1 ≠ b
theorem Inv.fpOk {X : Cx} {pins : List (Addr × Obj)} {σ : St} {H H' : Hp} {s : Shared} {b : Addr} (I : Inv X pins σ H s) (hb : s.heap.objs.size ≤ b) (hn : H' b = none) : FpOk X pins H' b := by
  refine ⟨hn, Nat.ne_of_gt (Nat.lt_of_lt_of_le I.lt hb), I.nofs hb, .inr (Nat.le_trans I.sz hb), fun x c e z => ?_, fun p hp z => ?_⟩
  · obtain ⟨v, q⟩ := I.cell x c e
    exact absurd (Nat.lt_of_lt_of_le q.lt (by rw [z]; exact hb)) (Nat.lt_irrefl _)
  · exact absurd (Nat.lt_of_lt_of_le (Heap.lt_size (I.pin p hp).1) (by rw [z]; exact hb)) (Nat.lt_irrefl _)
structure Turn (P : Program) (w : World) (K : PySem.W.Frag) (tg : Expr) (J : It) (fp : List Addr) (it : Addr) (tn : Nat → Heap → Prop) : Prop where
  mem : it ∈ fp
  obj : ∀ i h, tn i h → ∀ b ∈ fp, ∃ o, h.get? b = some o ∧ ∀ v, o.data ≠ .cell v
  keep : ∀ i h h', tn i h → (∀ b ∈ fp, ∀ o, h.get? b = some o → h'.get? b = some o) → tn i h'
  item : ∀ (X : Cx), X.prog = P → X.w = w → X.K = K → X.calm = true → ∀ (i : Nat) (pins : List (Addr × Obj)) (s : Shared) (σ : St) (H : Hp) (E : Value → Shared → Prop), Inv X pins σ H s → (∀ b ∈ fp, FpOk X pins H b) → tn i s.heap → J.go i H →
    wpAny (model P w) X.A (pyNext (.ref it)) (fun r s1 => ∃ u, r = some u ∧
      wpAny (model P w) X.A (letOwnedTupleGo tg (.ref it) u) (fun _ s2 => ∃ x H', Inv X pins σ H' s2 ∧ RelV x u ∧ J.yld i H x H' ∧ tn (i + 1) s2.heap ∧ ∀ b ∈ fp, H' b = none) E s1) E s
  done : ∀ (X : Cx), X.prog = P → X.w = w → X.K = K → X.calm = true → ∀ (i : Nat) (pins : List (Addr × Obj)) (s : Shared) (σ : St) (H : Hp) (E : Value → Shared → Prop), Inv X pins σ H s → (∀ b ∈ fp, FpOk X pins H b) → tn i s.heap → J.stop i H →
    wpAny (model P w) X.A (pyNext (.ref it)) (fun r s1 => r = none ∧ Inv X pins σ H s1) E s
  self : ∀ (A : Around) (i : Nat) (s : Shared) (Q : Value → Shared → Prop) (E : Value → Shared → Prop), tn i s.heap → Q (.ref it) s → wpAny (model P w) A (pyIter (.ref it)) Q E s
abbrev TI := St → Hp → (It → Hp → Prop) → Prop
def PIE (X : Cx) (pins : List (Addr × Obj)) (σ : St) (tg : Expr) (R : It → Hp → Prop) (itv : Value) (s2 : Shared) : Prop :=
  ∃ (it : Addr) (fp : List Addr) (tn : Nat → Heap → Prop) (J : It) (H' : Hp), itv = .ref it ∧ Inv X pins σ H' s2 ∧ Turn X.prog X.w X.K tg J fp it tn ∧ tn 0 s2.heap ∧ (∀ b ∈ fp, FpOk X pins H' b) ∧ R J H'
def PI (X : Cx) (tg iter : Expr) (wi : TI) : Prop :=
  ∀ (pins : List (Addr × Obj)) (s : Shared) (σ : St) (H : Hp) (R : It → Hp → Prop), Inv X pins σ H s → wi σ H R →
    wpAny (model X.prog X.w) X.A (eval iter X.env) (fun v s1 => wpAny (model X.prog X.w) X.A (pyIter v) (PIE X pins σ tg R) X.xe s1) X.xe s
theorem go_of {M : Model} {A : Around} {E : Value → Shared → Prop} {s : Shared} {tg : Expr} {it : Addr} {u : Value} {o : Obj} {n : String} {vs : Array Value} {Q : Unit → Shared → Prop} (ho : s.heap.get? it = some o) (hc : o.cls = .type n) (hd : o.data = .fields vs)
    (hn : ["enumerate", "zip", "dict_itemiterator", "dict_reverseitemiterator", "odict_iterator", "itertools.zip_longest", "itertools.pairwise"].contains n = false) (hQ : Q () s) : wpAny M A (letOwnedTupleGo tg (.ref it) u) Q E s := by
  unfold letOwnedTupleGo
  cases tg <;> first
    | exact wpAny_pure hQ
    | (cases u <;> first
        | exact wpAny_pure hQ
        | (refine wpAny_bind (wpAny_load ho ?_)
           rw [hc, hd]
           show wpAny M A (if (["enumerate", "zip", "dict_itemiterator", "dict_reverseitemiterator", "odict_iterator", "itertools.zip_longest", "itertools.pairwise"].contains n && vs[0]? == some (rawInt _)) = true then _ else _) Q E s
           rw [if_neg (by intro h; rw [hn, Bool.false_and] at h; cases h)]
           exact wpAny_pure hQ))
def Itl (K : PySem.W.Frag) (a : Addr) : It :=
  ⟨fun i H => ∃ xs x, SqL K H a xs ∧ xs[i]? = some x, fun i H x H' => H' = H ∧ ∀ xs, SqL K H a xs → xs[i]? = some x, fun i H => ∃ xs, SqL K H a xs ∧ xs.length ≤ i⟩
def Itt (K : PySem.W.Frag) (a : Addr) : It :=
  ⟨fun i H => ∃ xs x, SqT K H a xs ∧ xs[i]? = some x, fun i H x H' => H' = H ∧ ∀ xs, SqT K H a xs → xs[i]? = some x, fun i H => ∃ xs, SqT K H a xs ∧ xs.length ≤ i⟩
def Itr (lo : Int) (n : Nat) : It := ⟨fun i _ => i < n, fun i H x H' => H' = H ∧ x = .int (lo + i), fun i _ => n ≤ i⟩
theorem turn_list {P : Program} {w : World} {K : PySem.W.Frag} {tg : Expr} (a it : Addr) : Turn P w K tg (Itl K a) [it] it (fun i h => h.IsListIter it a i) where
  mem := by simp
  obj := fun i h st b hb => by
    have e : b = it := by simpa using hb
    subst e
    obtain ⟨o, e, c, d⟩ := st
    exact ⟨o, e, fun v z => by rw [d] at z; cases z⟩
  keep := fun i h h' st k => st.at fun o e => k it (by simp) o e
  item := by
    intro X hP hw hK hc i pins s σ H E I hf st hg
    subst hP hw hK
    obtain ⟨xs, x, hq, hx⟩ := hg
    obtain ⟨its, rv, p, hz⟩ := I.list hq
    obtain ⟨u, hu, ru⟩ := rv.get hx
    obtain ⟨f0, f1, f2, f3, f4, f5⟩ := hf it (by simp)
    refine wpAny_pyNext_list_item st p.isList (x := u) (by simpa using hu) fun h' st' sb => ?_
    have I1 : Inv X pins σ H { s with heap := h' } := I.turned (t' := s.toks) (fun b o hb e => (sb.2 b hb).trans e) f0 f1 f3 f4 f5
    obtain ⟨o, e, c, d⟩ := id st'
    exact ⟨u, rfl, go_of (s := { s with heap := h' }) e c d (by decide) ⟨x, H, I1, ru, ⟨rfl, fun ys hy => by rw [I.list_inj hy hq]; exact hx⟩, st', fun b hb => (hf b hb).1⟩⟩
  done := by
    intro X hP hw hK hc i pins s σ H E I hf st hg
    subst hP hw hK
    obtain ⟨xs, hq, hx⟩ := hg
    obtain ⟨its, rv, p, hz⟩ := I.list hq
    obtain ⟨f0, f1, f2, f3, f4, f5⟩ := hf it (by simp)
    have hl := rv.length
    exact wpAny_pyNext_list_end (I.ok.hd hc) st p.isList (by simp; omega) fun h' eb => ⟨rfl, I.turned (t' := s.toks) (fun b o hb e => eb b o hb e) f0 f1 f3 f4 f5⟩
  self := fun _ _ _ _ _ st h => wpAny_pyIter_listiter st h
theorem turn_range {P : Program} {w : World} {K : PySem.W.Frag} {tg : Expr} (it : Addr) (lo : Int) (n : Nat) : Turn P w K tg (Itr lo n) [it] it (fun i h => IsRangeIter h it (lo + (i : Nat) * 1) ((n : Int) - (i : Nat)) 1) where
  mem := by simp
  obj := fun i h st b hb => by
    have e : b = it := by simpa using hb
    subst e
    exact ⟨_, st, fun v z => by
      have z' : Data.fields _ = Data.cell v := z
      cases z'⟩
  keep := fun i h h' st k => k it (by simp) _ st
  item := by
    intro X hP hw hK hc i pins s σ H E I hf st hg
    subst hP hw hK
    obtain ⟨f0, f1, f2, f3, f4, f5⟩ := hf it (by simp)
    have W := Walks.range (prog := X.prog) (w := X.w) (I.ok.hd hc) it lo 1 n
    refine W.item i s _ _ hg st fun v h' tk hv st' kk => ?_
    obtain ⟨t, rfl⟩ := hv
    have I1 : Inv X pins σ H { s with heap := h', toks := tk } := I.turned (fun b o hb e => kk b o (by simpa using hb) e) f0 f1 f3 f4 f5
    refine ⟨_, rfl, go_of (s := { s with heap := h', toks := tk }) (n := "range_iterator") st' rfl rfl (by decide) ⟨.int (lo + i), H, I1, ⟨t, ?_⟩, ⟨rfl, rfl⟩, st', fun b hb => (hf b hb).1⟩⟩
    rw [Int.mul_one]
  done := by
    intro X hP hw hK hc i pins s σ H E I hf st hg
    subst hP hw hK
    obtain ⟨f0, f1, f2, f3, f4, f5⟩ := hf it (by simp)
    exact wpAny_pyNext_range_end (I.ok.hd hc) st (by have : n ≤ i := hg; omega) fun h' eb => ⟨rfl, I.turned (t' := s.toks) (fun b o hb e => eb b o hb e) f0 f1 f3 f4 f5⟩
  self := fun _ _ _ _ _ st h => wpAny_pyIter_rangeiter st h
end L2
namespace L2
open PySem PySem.Spec PyProof.Rows
section
variable {X : Cx} {tg : Expr}
def iList (K : PySem.W.Frag) (tl : TE) : TI := fun σ H R => tl σ H fun x H1 => ∃ a, x = .ref a ∧ (∃ xs, SqL K H1 a xs) ∧ R (Itl K a) H1
def iTup (K : PySem.W.Frag) (tl : TE) : TI := fun σ H R => tl σ H fun x H1 => ∃ a, x = .ref a ∧ (∃ xs, SqT K H1 a xs) ∧ R (Itt K a) H1
theorem pi_list {l : Expr} {tl : TE} (hl : PE X l tl) : PI X tg l (iList X.K tl) := by
  intro pins s σ H R I h
  refine thn (hl pins s σ H _ I h) fun v s1 ⟨x, H1, I1, r1, q1⟩ => ?_
  obtain ⟨a, e, ⟨xs, hq⟩, q⟩ := q1
  subst e
  cases r1
  obtain ⟨its, rv, p, hz⟩ := I1.list hq
  refine wpAny_pyIter_list p.isList ?_
  refine ⟨s1.heap.objs.size, [s1.heap.objs.size], _, _, H1, rfl, I1.kept (t' := s1.toks) fun b o e => Heap.get?_push_of_some _ e, turn_list a _, ⟨_, Heap.get?_push_size _ rfl, rfl, rfl⟩, fun b hb => ?_, q⟩
  have e : b = s1.heap.objs.size := by simpa using hb
  subst e
  exact I1.fpOk (Nat.le_refl _) (I1.hok.fresh (Nat.le_refl _))
theorem range_it {pins : List (Addr × Obj)} {σ : St} {H : Hp} {s : Shared} {R : It → Hp → Prop} {E : Value → Shared → Prop} {lo hi : Int} {t u v : Tok} {tk : Nat} (I : Inv X pins σ H s) (h1 : -(2 ^ 62) ≤ lo) (h2 : lo < 2 ^ 62) (h3 : -(2 ^ 62) ≤ hi) (h4 : hi < 2 ^ 62)
    (q : R (Itr lo (hi - lo).toNat) H) : wpAny (model X.prog X.w) X.A (pyIter (.ref s.heap.objs.size)) (PIE X pins σ tg R) E { s with heap := s.heap.push { cls := .type "range", data := .fields #[.int lo t, .int hi u, .int 1 v] }, toks := tk } := by
  refine wpAny_pyIter_range (IsRange.new ..) (small_one h1 h2 h3 h4) ?_
  have I1 : Inv X pins σ H { s with heap := s.heap.push { cls := .type "range", data := .fields #[.int lo t, .int hi u, .int 1 v] }, toks := tk } := I.kept fun b o e => Heap.get?_push_of_some _ e
  refine ⟨(s.heap.push { cls := .type "range", data := .fields #[.int lo t, .int hi u, .int 1 v] }).objs.size, [(s.heap.push { cls := .type "range", data := .fields #[.int lo t, .int hi u, .int 1 v] }).objs.size], _, _, H, rfl,
    I1.kept (t' := tk) fun b o e => Heap.get?_push_of_some _ e, turn_range _ lo (hi - lo).toNat, ?_, fun b hb => ?_, q⟩
  · have e1 : lo + ((0 : Nat) : Int) * 1 = lo := by simp
    have e2 : (((hi - lo).toNat : Nat) : Int) - ((0 : Nat) : Int) = Builtin.Range.rangeSize lo hi 1 := by rw [rangeSize_one]; split <;> omega
    show IsRangeIter _ _ (lo + ((0 : Nat) : Int) * 1) ((((hi - lo).toNat : Nat) : Int) - ((0 : Nat) : Int)) 1
    rw [e1, e2]
    exact Heap.get?_push_size _ rfl
  · have e : b = (s.heap.push { cls := .type "range", data := .fields #[.int lo t, .int hi u, .int 1 v] }).objs.size := by simpa using hb
    subst e
    exact I1.fpOk (Nat.le_refl _) (I1.hok.fresh (Nat.le_refl _))
def iRng1 (ta : TA) : TI := fun σ H R => ta σ H fun vs H1 => ∃ j : Int, vs = [.int j] ∧ -(2 ^ 62) ≤ j ∧ j < 2 ^ 62 ∧ R (Itr 0 j.toNat) H1
def iRng2 (ta : TA) : TI := fun σ H R => ta σ H fun vs H1 => ∃ i j : Int, vs = [.int i, .int j] ∧ (-(2 ^ 62) ≤ i ∧ i < 2 ^ 62 ∧ -(2 ^ 62) ≤ j ∧ j < 2 ^ 62) ∧ R (Itr i (j - i).toNat) H1
theorem pi_range1 {a : Expr} {ta : TA} {p pos : Pos} (hg : Gl X "range") (hm : X.mg "range" = none) (ha : PA X [a] ta) (hs : starEach [a] X.env = [(false, eval a X.env)] := by rfl) : PI X tg (.Call (.Name "range" p) [a] [] pos) (iRng1 ta) := by
  intro pins s σ H R I h
  refine Call_ (ld_blt I hg hm boot_range (PyProof.Rows.callWith_type1 (thn (ha pos pins s σ H _ I h) fun us s1 ⟨vs, H1, I1, r1, q1⟩ => ?_) hs rfl))
  obtain ⟨j, e, q1, q2, q⟩ := q1
  subst e
  cases r1 with
  | cons r rr =>
    cases rr
    obtain ⟨t, rfl⟩ := r
    exact call_range_1 (range_it I1 (by omega) (by omega) q1 q2 (by simpa using q))
def tFor (wi : TI) (g : TG) (tb : TS) : TS := fun D σ H => wi σ H fun J H1 => ∃ W : Nat → Nat → St → Hp → Prop, (∃ m, W 0 m σ H1) ∧ ∀ i m σ H, W i m σ H →
  (J.stop i H ∧ D.nx σ H) ∨ (J.go i H ∧ ∃ N : St → Hp → Prop, (∀ σ' H', N σ' H' → ∃ m', m' < m ∧ W (i + 1) m' σ' H') ∧ ∀ x H', J.yld i H x H' → g x σ H' fun σ2 H2 => tb { D with nx := N, ct := N, bk := D.nx } σ2 H2)
def pinsAt (fp : List Addr) (h : Heap) : List (Addr × Obj) := fp.filterMap fun b => (h.get? b).map fun o => (b, o)
theorem mem_pinsAt {fp : List Addr} {h : Heap} {b : Addr} {o : Obj} (hb : b ∈ fp) (e : h.get? b = some o) : (b, o) ∈ pinsAt fp h := List.mem_filterMap.mpr ⟨b, hb, by rw [e]; rfl⟩
theorem of_pinsAt {fp : List Addr} {h : Heap} {p : Addr × Obj} (hp : p ∈ pinsAt fp h) : p.1 ∈ fp ∧ h.get? p.1 = some p.2 := by
  obtain ⟨b, hb, e⟩ := List.mem_filterMap.mp hp
  cases q : h.get? b with
  | none => rw [q] at e; cases e
  | some o =>
    rw [q] at e
    have e' : (b, o) = p := Option.some.inj e
    subst e'
    exact ⟨hb, q⟩
theorem Inv.pinned {pins : List (Addr × Obj)} {σ : St} {H : Hp} {s : Shared} {fp : List Addr} (I : Inv X pins σ H s) (hf : ∀ b ∈ fp, FpOk X pins H b) (ho : ∀ b ∈ fp, ∃ o, s.heap.get? b = some o ∧ ∀ v, o.data ≠ .cell v) : Inv X (pins ++ pinsAt fp s.heap) σ H s :=
  I.pins_of fun p hp => (List.mem_append.mp hp).elim (fun z => I.pin p (List.mem_append_right _ z)) fun z => by
    obtain ⟨hb, e⟩ := of_pinsAt z
    obtain ⟨f0, f1, f2, _⟩ := hf p.1 hb
    obtain ⟨o, e', d⟩ := ho p.1 hb
    rw [e] at e'; cases e'
    exact ⟨e, f0, f1, f2, d⟩
theorem Inv.unpinned {pins pl : List (Addr × Obj)} {σ : St} {H : Hp} {s : Shared} (I : Inv X (pins ++ pl) σ H s) : Inv X pins σ H s := I.pins_of fun p hp => I.pin p (List.mem_append_right _ (List.mem_append_left _ hp))
theorem ps_for {iter : Expr} {body : List Stmt} {wi : TI} {g : TG} {tb : TS} {pos : Pos} (hp : PassesOwn (model X.prog X.w) X.A X.env X.xe) (hc : X.calm = true) (hi : PI X tg iter wi) (hg : PG X tg g) (hb : PSs X body tb)
    (hs : ∀ x, foldedSetIterable iter X.env x = pure x := by intro _; rfl) : PS X (.For tg iter body [] pos) (tFor wi g tb) := by
  intro pins s σ H D I h
  refine wpAny_For (thn (hi pins s σ H _ I h) fun v s1 h1 => thn h1 fun itv s2 h2 => ?_) hs
  obtain ⟨it, fp, tn, J, H2, e, I2, T, st2, f2, W, ⟨m0, w0⟩, turn⟩ := h2
  subst e
  -- what stays true of the iterator's objects through the loop
  have stat : ∀ {H' : Hp}, (∀ b ∈ fp, H' b = none) → ∀ b ∈ fp, FpOk X pins H' b := fun hn b hb => ⟨hn b hb, (f2 b hb).2⟩
  refine codeAny_forLoop_any (fun n s' => ∃ i σ' H', Inv X pins σ' H' s' ∧ tn i s'.heap ∧ (∀ b ∈ fp, H' b = none) ∧ W i n σ' H') ?_ m0 ⟨0, σ, H2, I2, st2, fun b hb => (f2 b hb).1, w0⟩
  rintro n s3 ⟨i, σ3, H3, I3, st3, fr3, w3⟩
  rcases turn i n σ3 H3 w3 with ⟨stop, qn⟩ | ⟨go, N, hN, step⟩
  · refine wpAny_passesOwn hp (thn (T.done X rfl rfl rfl hc i pins s3 σ3 H3 X.xe I3 (stat fr3) st3 stop) fun r s4 ⟨hr, I4⟩ => ?_)
    subst hr
    exact wpAny_execs_nil ⟨σ3, H3, I4, qn⟩
  · refine wpAny_passesOwn hp (thn (T.item X rfl rfl rfl hc i pins s3 σ3 H3 X.xe I3 (stat fr3) st3 go) fun r s4 ⟨u, hr, h4⟩ => ?_)
    subst hr
    refine wpAny_passesOwn hp (thn h4 fun _ s5 ⟨x, H5, I5, r5, y5, st5, fr5⟩ => ?_)
    have I5' := I5.pinned (stat fr5) (T.obj _ _ st5)
    refine wpAny_passesOwn hp (thn (hg _ s5 σ3 H5 x u _ I5' r5 (step x H5 y5)) fun _ s6 ⟨σ6, H6, I6, q6⟩ => ?_)
    refine wpAny_passesOwn hp (thn (hb _ s6 σ6 H6 _ I6 q6) fun f s7 q7 => ?_)
    have again : ∀ {σ7 : St} {H7 : Hp}, Inv X (pins ++ pinsAt fp s5.heap) σ7 H7 s7 → N σ7 H7 → ∃ m, m < n ∧ ∃ i σ' H', Inv X pins σ' H' s7 ∧ tn i s7.heap ∧ (∀ b ∈ fp, H' b = none) ∧ W i m σ' H' := fun {σ7 H7} I7 n7 => by
      obtain ⟨m', hm, w7⟩ := hN σ7 H7 n7
      refine ⟨m', hm, i + 1, σ7, H7, I7.unpinned, T.keep _ _ _ st5 fun b hb o e => (I7.pin (b, o) (List.mem_append_right _ (List.mem_append_right _ (mem_pinsAt hb e)))).1, fun b hb => ?_, w7⟩
      obtain ⟨o, e, d⟩ := T.obj _ _ st5 b hb
      exact (I7.pin (b, o) (List.mem_append_right _ (List.mem_append_right _ (mem_pinsAt hb e)))).2.1
    cases f with
    | next => obtain ⟨σ7, H7, I7, n7⟩ := q7; exact again I7 n7
    | cont => obtain ⟨σ7, H7, I7, n7⟩ := q7; exact again I7 n7
    | brk => obtain ⟨σ7, H7, I7, q7⟩ := q7; exact ⟨σ7, H7, I7.unpinned, q7⟩
    | ret v => obtain ⟨x7, σ7, H7, I7, r7, q7⟩ := q7; exact ⟨x7, σ7, H7, I7.unpinned, r7, q7⟩
end
end L2
namespace L2
open PySem PySem.Spec PyProof.Rows
abbrev R2 := V → V → Hp → VK → Prop
def OpR (X : Cx) (f : Value → Value → Sem Value) (r : R2) : Prop :=
  ∀ (pins : List (Addr × Obj)) (s : Shared) (σ : St) (H : Hp) (x y : V) (v u : Value) (Q : VK), Inv X pins σ H s → RelV x v → RelV y u → r x y H Q →
    wpAny (model X.prog X.w) X.A (f v u) (EP X pins σ Q) X.xe s
def UnR (X : Cx) (f : Value → Sem Value) (r : V → Hp → VK → Prop) : Prop :=
  ∀ (pins : List (Addr × Obj)) (s : Shared) (σ : St) (H : Hp) (x : V) (v : Value) (Q : VK), Inv X pins σ H s → RelV x v → r x H Q →
    wpAny (model X.prog X.w) X.A (f v) (EP X pins σ Q) X.xe s
def CallR (X : Cx) (f : Value) (r : List V → Hp → VK → Prop) : Prop :=
  ∀ (pins : List (Addr × Obj)) (s : Shared) (σ : St) (H : Hp) (xs : List V) (us : List Value) (Q : VK), Inv X pins σ H s → Vals xs us → r xs H Q →
    wpAny (model X.prog X.w) X.A (call f us) (EP X pins σ Q) X.xe s
def TruR (X : Cx) (r : V → Hp → (Bool → Hp → Prop) → Prop) : Prop :=
  ∀ (pins : List (Addr × Obj)) (s : Shared) (σ : St) (H : Hp) (x : V) (v : Value) (Q : Bool → Hp → Prop), Inv X pins σ H s → RelV x v → r x H Q →
    wpAny (model X.prog X.w) X.A (truthy v) (TP X pins σ Q) X.xe s
def tOp (r : R2) (ta tb : TE) : TE := fun σ H Q => ta σ H fun x H1 => tb σ H1 fun y H2 => r x y H2 Q
def tUn (r : V → Hp → VK → Prop) (ta : TE) : TE := fun σ H Q => ta σ H fun x H1 => r x H1 Q
def rI (C : Int → Int → Prop) (g : Int → Int → V) : R2 := fun x y H Q => ∃ i j, x = .int i ∧ y = .int j ∧ C i j ∧ Q (g i j) H
def rI0 (g : Int → Int → V) : R2 := fun x y H Q => ∃ i j, x = .int i ∧ y = .int j ∧ Q (g i j) H
def rU (g : Int → V) : V → Hp → VK → Prop := fun x H Q => ∃ i, x = .int i ∧ Q (g i) H
section
variable {X : Cx} {a b c : Expr} {ta tb tc : TE} {pos : Pos}
theorem binT (ha : PE X a ta) (hb : PE X b tb) {pins : List (Addr × Obj)} {s : Shared} {σ : St} {H : Hp} {R : V → V → Hp → Prop} (I : Inv X pins σ H s)
    (h : ta σ H fun x H1 => tb σ H1 fun y H2 => R x y H2) {Q : Value → Shared → Prop} {f : Value → Value → Sem Value}
    (hf : ∀ v u s2 x y H2, Inv X pins σ H2 s2 → RelV x v → RelV y u → R x y H2 → wpAny (model X.prog X.w) X.A (f v u) Q X.xe s2) :
    wpAny (model X.prog X.w) X.A (eval a X.env) (fun v s₁ => wpAny (model X.prog X.w) X.A (eval b X.env) (fun u s₂ => wpAny (model X.prog X.w) X.A (f v u) Q X.xe s₂) X.xe s₁) X.xe s := by
  refine thn (ha pins s σ H _ I h) fun v s1 ⟨x, H1, I1, r1, q1⟩ => ?_
  refine thn (hb pins s1 σ H1 _ I1 q1) fun u s2 ⟨y, H2, I2, r2, q2⟩ => ?_
  exact hf v u s2 x y H2 I2 r1 r2 q2
theorem pe_op {op : Operator} {r : R2} (ho : OpR X (binaryOp op) r) (ha : PE X a ta) (hb : PE X b tb) : PE X (.BinOp a op b pos) (tOp r ta tb) := by
  intro pins s σ H Q I h
  exact wpAny_BinOp (binT ha hb I h fun v u s2 x y H2 I2 rx ry q => ho pins s2 σ H2 x y v u Q I2 rx ry q)
theorem pe_un {op : UnaryOp} {r : V → Hp → VK → Prop} (ho : UnR X (unaryOp op) r) (ha : PE X a ta) : PE X (.UnaryOp op a pos) (tUn r ta) := by
  intro pins s σ H Q I h
  exact UnaryOp_ (thn (ha pins s σ H _ I h) fun v s1 ⟨x, H1, I1, r1, q1⟩ => ho pins s1 σ H1 x v Q I1 r1 q1)
theorem opI {f : Value → Value → Sem Value} {C : Int → Int → Prop} {g : Int → Int → Int}
    (rule : ∀ (i j : Int) (t u : Tok) (s : Shared) (Q : Value → Shared → Prop) (E : Value → Shared → Prop), C i j → Q (.int (g i j) s.toks) { s with toks := s.toks + 1 } → wpAny (model X.prog X.w) X.A (f (.int i t) (.int j u)) Q E s) :
    OpR X f (rI C fun i j => .int (g i j)) := by
  intro pins s σ H x y v u Q I rx ry h
  obtain ⟨i, j, rfl, rfl, hc, q⟩ := h
  obtain ⟨t, rfl⟩ := rx
  obtain ⟨t', rfl⟩ := ry
  exact rule i j t t' s _ _ hc ⟨.int (g i j), H, I.tok _, ⟨_, rfl⟩, q⟩
theorem opI0 {f : Value → Value → Sem Value} {g : Int → Int → Int}
    (rule : ∀ (i j : Int) (t u : Tok) (s : Shared) (Q : Value → Shared → Prop) (E : Value → Shared → Prop), Q (.int (g i j) s.toks) { s with toks := s.toks + 1 } → wpAny (model X.prog X.w) X.A (f (.int i t) (.int j u)) Q E s) :
    OpR X f (rI0 fun i j => .int (g i j)) := by
  intro pins s σ H x y v u Q I rx ry h
  obtain ⟨i, j, rfl, rfl, q⟩ := h
  obtain ⟨t, rfl⟩ := rx
  obtain ⟨t', rfl⟩ := ry
  exact rule i j t t' s _ _ ⟨.int (g i j), H, I.tok _, ⟨_, rfl⟩, q⟩
theorem opB0 {f : Value → Value → Sem Value} {g : Int → Int → Bool}
    (rule : ∀ (i j : Int) (t u : Tok) (s : Shared) (Q : Value → Shared → Prop) (E : Value → Shared → Prop), Q (.bool (g i j)) s → wpAny (model X.prog X.w) X.A (f (.int i t) (.int j u)) Q E s) :
    OpR X f (rI0 fun i j => .bl (g i j)) := by
  intro pins s σ H x y v u Q I rx ry h
  obtain ⟨i, j, rfl, rfl, q⟩ := h
  obtain ⟨t, rfl⟩ := rx
  obtain ⟨t', rfl⟩ := ry
  exact rule i j t t' s _ _ ⟨.bl (g i j), H, I, rfl, q⟩
def CDiv (i j : Int) : Prop := 0 < j ∧ j < 1073741824
def CDivN (i j : Int) : Prop := j ≠ 0 ∧ j.natAbs < 1073741824
def CPow (i j : Int) : Prop := 0 ≤ j ∧ j ≤ 1000000 ∧ i.natAbs < 2 ^ 64
def CMul (i j : Int) : Prop := (-(2 ^ 64) < i ∧ i < 2 ^ 64) ∨ (-(2 ^ 64) < j ∧ j < 2 ^ 64)
theorem CMul.ok {i j : Int} (h : CMul i j) : IntMulOk i j := by
  rcases h with ⟨h1, h2⟩ | ⟨h1, h2⟩
  · exact .of_left (intBits_le_64 h1 h2)
  · exact .of_right (intBits_le_64 h1 h2)
theorem op_add : OpR X (binaryOp .Add) (rI0 fun i j => .int (i + j)) := opI0 fun _ _ _ _ _ _ _ q => add_int q
theorem op_sub : OpR X (binaryOp .Sub) (rI0 fun i j => .int (i - j)) := opI0 fun _ _ _ _ _ _ _ q => sub_int q
theorem op_mul : OpR X (binaryOp .Mult) (rI CMul fun i j => .int (i * j)) := opI fun _ _ _ _ _ _ _ hc q => mul_int q hc.ok
theorem op_fdiv : OpR X (binaryOp .FloorDiv) (rI CDiv fun i j => .int (i / j)) := opI fun i j _ _ _ _ _ hc q => by
  have h1 : (0 : Int) < j := hc.1
  have h2 : j < 1073741824 := hc.2
  exact floordiv_int (by omega) (by rw [Int.fdiv_eq_ediv_of_nonneg i (by omega)]; exact q) (.inl (PyProof.noPylong_small (by omega)))
theorem op_fdivN : OpR X (binaryOp .FloorDiv) (rI CDivN fun i j => .int (i.fdiv j)) := opI fun _ _ _ _ _ _ _ hc q => floordiv_int hc.1 q (.inl (PyProof.noPylong_small hc.2))
theorem op_mod : OpR X (binaryOp .Mod) (rI (fun _ j => 0 < j) fun i j => .int (i % j)) := opI fun i j _ _ _ _ _ hc q => by
  have h1 : (0 : Int) < j := hc
  exact mod_int' (by omega) (by rw [Int.fmod_eq_emod_of_nonneg i (by omega)]; exact q)
theorem op_modN : OpR X (binaryOp .Mod) (rI (fun _ j => j ≠ 0) fun i j => .int (i.fmod j)) := opI fun _ _ _ _ _ _ _ hc q => mod_int' hc q
theorem op_pow : OpR X (binaryOp .Pow) (rI CPow fun i j => .int (i ^ j.toNat)) := opI fun _ _ _ _ _ _ _ hc q => pow_int_small hc.1 hc.2.1 hc.2.2 q
theorem unI {f : Value → Sem Value} {g : Int → Int}
    (rule : ∀ (i : Int) (t : Tok) (s : Shared) (Q : Value → Shared → Prop) (E : Value → Shared → Prop), Q (.int (g i) s.toks) { s with toks := s.toks + 1 } → wpAny (model X.prog X.w) X.A (f (.int i t)) Q E s) :
    UnR X f (rU fun i => .int (g i)) := by
  intro pins s σ H x v Q I rx h
  obtain ⟨i, rfl, q⟩ := h
  obtain ⟨t, rfl⟩ := rx
  exact rule i t s _ _ ⟨.int (g i), H, I.tok _, ⟨_, rfl⟩, q⟩
theorem un_neg : UnR X (unaryOp .USub) (rU fun i => .int (-i)) := unI fun _ _ _ _ _ q => neg_int q
end
def scal : V → V → Bool
  | .non, .non => true | .non, .int _ => true | .int _, .non => true | .non, .bl _ => true | .bl _, .non => true | .non, .str _ => true | .str _, .non => true
  | .int _, .int _ => true | .bl _, .bl _ => true | .str _, .str _ => true | .byt _, .byt _ => true
  | .int _, .str _ => true | .str _, .int _ => true | .bl _, .str _ => true | .str _, .bl _ => true
  | _, _ => false
def rEq : R2 := fun x y H Q => scal x y = true ∧ Q (.bl (decide (x = y))) H
def rNe : R2 := fun x y H Q => scal x y = true ∧ Q (.bl (!decide (x = y))) H
theorem dec_int {i j : Int} : decide (V.int i = V.int j) = (i == j) := by
  rw [Bool.eq_iff_iff]
  simp
theorem dec_bl {i j : Bool} : decide (V.bl i = V.bl j) = (i == j) := by
  rw [Bool.eq_iff_iff]
  simp
theorem dec_str {i j : Str} : decide (V.str i = V.str j) = (i == j) := by
  rw [Bool.eq_iff_iff]
  simp
theorem dec_byt {i j : Array UInt8} : decide (V.byt i = V.byt j) = (i.toList == j.toList) := by
  rw [Bool.eq_iff_iff]
  cases i
  cases j
  simp
section
variable {X : Cx} {a b c : Expr} {ta tb tc : TE} {pos : Pos}
theorem fin_bl {pins : List (Addr × Obj)} {σ : St} {H : Hp} {s : Shared} {Q : VK} {k k' : Bool} (I : Inv X pins σ H s) (q : Q (.bl k) H) (e : k = k') : EP X pins σ Q (.bool k') s := by
  subst e
  exact ⟨.bl k, H, I, rfl, q⟩
theorem op_eq : OpR X (compareOp .Eq) rEq := by
  intro pins s σ H x y v u Q I rx ry h
  obtain ⟨hs, q⟩ := h
  cases x with
  | non =>
    cases rx
    cases y with
    | non => cases ry; exact PySem.EqNone.eq_none_none (fin_bl I q (by simp))
    | bl j => cases ry; exact PySem.EqNone.eq_none_bool (fin_bl I q (by simp))
    | int j => obtain ⟨t', rfl⟩ := ry; exact PySem.EqNone.eq_none_int (fin_bl I q (by simp))
    | str j => obtain ⟨t', rfl⟩ := ry; exact PySem.EqNone.eq_none_str (fin_bl I q (by simp))
    | _ => exact absurd (show false = true from hs) Bool.false_ne_true
  | bl i =>
    cases rx
    cases y with
    | non => cases ry; exact PySem.EqNone.eq_bool_none (fin_bl I q (by simp))
    | bl j => cases ry; exact eq_bool (fin_bl I q dec_bl)
    | str j => obtain ⟨t', rfl⟩ := ry; exact PySem.EqMixed.eq_bool_str (fin_bl I q (by simp))
    | _ => exact absurd (show false = true from hs) Bool.false_ne_true
  | int i =>
    obtain ⟨t, rfl⟩ := rx
    cases y with
    | non => cases ry; exact PySem.EqNone.eq_int_none (fin_bl I q (by simp))
    | int j => obtain ⟨t', rfl⟩ := ry; exact eq_int (fin_bl I q dec_int)
    | str j => obtain ⟨t', rfl⟩ := ry; exact PySem.EqMixed.eq_int_str (fin_bl I q (by simp))
    | _ => exact absurd (show false = true from hs) Bool.false_ne_true
  | str i =>
    obtain ⟨t, rfl⟩ := rx
    cases y with
    | non => cases ry; exact PySem.EqNone.eq_str_none (fin_bl I q (by simp))
    | bl j => cases ry; exact PySem.EqMixed.eq_str_bool (fin_bl I q (by simp))
    | int j => obtain ⟨t', rfl⟩ := ry; exact PySem.EqMixed.eq_str_int (fin_bl I q (by simp))
    | str j => obtain ⟨t', rfl⟩ := ry; exact eq_str (fin_bl I q dec_str)
    | _ => exact absurd (show false = true from hs) Bool.false_ne_true
  | byt i =>
    obtain ⟨t, rfl⟩ := rx
    cases y with
    | byt j => obtain ⟨t', rfl⟩ := ry; exact PySem.W.eq_bytes (fin_bl I q dec_byt)
    | _ => exact absurd (show false = true from hs) Bool.false_ne_true
  | _ => cases y <;> exact absurd (show false = true from hs) Bool.false_ne_true
theorem op_ne : OpR X (compareOp .NotEq) rNe := by
  intro pins s σ H x y v u Q I rx ry h
  obtain ⟨hs, q⟩ := h
  cases x with
  | non =>
    cases rx
    cases y with
    | non => cases ry; exact PySem.EqNone.ne_none_none (fin_bl I q (by simp))
    | bl j => cases ry; exact PySem.EqNone.ne_none_bool (fin_bl I q (by simp))
    | int j => obtain ⟨t', rfl⟩ := ry; exact PySem.EqNone.ne_none_int (fin_bl I q (by simp))
    | str j => obtain ⟨t', rfl⟩ := ry; exact PySem.EqNone.ne_none_str (fin_bl I q (by simp))
    | _ => exact absurd (show false = true from hs) Bool.false_ne_true
  | bl i =>
    cases rx
    cases y with
    | non => cases ry; exact PySem.EqNone.ne_bool_none (fin_bl I q (by simp))
    | bl j => cases ry; exact ne_bool (fin_bl I q (congrArg not dec_bl))
    | str j => obtain ⟨t', rfl⟩ := ry; exact PySem.EqMixed.ne_bool_str (fin_bl I q (by simp))
    | _ => exact absurd (show false = true from hs) Bool.false_ne_true
  | int i =>
    obtain ⟨t, rfl⟩ := rx
    cases y with
    | non => cases ry; exact PySem.EqNone.ne_int_none (fin_bl I q (by simp))
    | int j => obtain ⟨t', rfl⟩ := ry; exact ne_int (fin_bl I q (congrArg not dec_int))
    | str j => obtain ⟨t', rfl⟩ := ry; exact PySem.EqMixed.ne_int_str (fin_bl I q (by simp))
    | _ => exact absurd (show false = true from hs) Bool.false_ne_true
  | str i =>
    obtain ⟨t, rfl⟩ := rx
    cases y with
    | non => cases ry; exact PySem.EqNone.ne_str_none (fin_bl I q (by simp))
    | bl j => cases ry; exact PySem.EqMixed.ne_str_bool (fin_bl I q (by simp))
    | int j => obtain ⟨t', rfl⟩ := ry; exact PySem.EqMixed.ne_str_int (fin_bl I q (by simp))
    | str j => obtain ⟨t', rfl⟩ := ry; exact ne_str (fin_bl I q (congrArg not dec_str))
    | _ => exact absurd (show false = true from hs) Bool.false_ne_true
  | byt i =>
    obtain ⟨t, rfl⟩ := rx
    cases y with
    | byt j => obtain ⟨t', rfl⟩ := ry; exact PySem.W.ne_bytes (fin_bl I q (congrArg not dec_byt))
    | _ => exact absurd (show false = true from hs) Bool.false_ne_true
  | _ => cases y <;> exact absurd (show false = true from hs) Bool.false_ne_true
theorem op_lt : OpR X (compareOp .Lt) (rI0 fun i j => .bl (decide (i < j))) := opB0 fun _ _ _ _ _ _ _ q => lt_int q
theorem op_le : OpR X (compareOp .LtE) (rI0 fun i j => .bl (decide (i ≤ j))) := opB0 fun _ _ _ _ _ _ _ q => le_int q
theorem op_gt : OpR X (compareOp .Gt) (rI0 fun i j => .bl (decide (j < i))) := opB0 fun _ _ _ _ _ _ _ q => gt_int q
theorem op_notN : OpR X (compareOp .IsNot) (fun x y H Q => y = .non ∧ Q (.bl (!decide (x = .non))) H) := by
  intro pins s σ H x y v u Q I rx ry h
  obtain ⟨rfl, q⟩ := h
  cases ry
  refine isnot_none_gen (fin_bl I q ?_)
  cases x <;> first
    | (cases rx; rfl)
    | (obtain ⟨t, rfl⟩ := rx; rfl)
def isObj : HO → Bool
  | .lst _ => true
  | .ins _ _ _ => true
  | _ => false
theorem nomark (b : Expr) {op : CmpOp} (h : op ≠ .In := by decide) (h2 : op ≠ .NotIn := by decide) : behindInMarks op b = false := by
  have e1 : (op == CmpOp.In) = false := by cases op <;> first | rfl | exact absurd rfl h
  have e2 : (op == CmpOp.NotIn) = false := by cases op <;> first | rfl | exact absurd rfl h2
  cases b <;> simp [behindInMarks, e1, e2]
theorem pe_cmpR {op : CmpOp} {r : R2} (ho : OpR X (compareOp op) r) (ha : PE X a ta) (hb : PE X b tb) (hm : behindInMarks op b = false) : PE X (.Compare a [op] [b] pos) (tOp r ta tb) := by
  intro pins s σ H Q I h
  exact wpAny_Compare1 (binT ha hb I h fun v u s2 x y H2 I2 rx ry q => ho pins s2 σ H2 x y v u Q I2 rx ry q) hm
def tTest (t : TE) : TT := fun σ H Q => t σ H fun x H' => ∃ k, x = .bl k ∧ Q k H'
theorem pt_cmpR {op : CmpOp} {r : R2} (ho : OpR X (compareOp op) r) (ha : PE X a ta) (hb : PE X b tb) (hm : behindInMarks op b = false) : PT X (.Compare a [op] [b] pos) (tTest (tOp r ta tb)) := by
  intro pins s σ H Q I h
  refine wpAny_isTrue_Compare1 (thn (ha pins s σ H _ I h) fun v s1 ⟨x, H1, I1, r1, q1⟩ => thn (hb pins s1 σ H1 _ I1 q1) fun u s2 ⟨y, H2, I2, r2, q2⟩ =>
    thn (ho pins s2 σ H2 x y v u _ I2 r1 r2 q2) fun c s3 ⟨z, H3, I3, r3, k, e, q3⟩ => ?_) hm
  subst e
  cases r3
  exact wpAny_truthy_bool ⟨H3, I3, q3⟩
def tChain (r r' : R2) (ta tb tc : TE) : TE := fun σ H Q => ta σ H fun x H1 => tb σ H1 fun y H2 => r x y H2 fun z H3 => ∃ k, z = .bl k ∧
  (if k = true then tc σ H3 fun w' H4 => r' y w' H4 Q else Q (.bl false) H3)
theorem pe_chain {op op' : CmpOp} {r r' : R2} (ho : OpR X (compareOp op) r) (ho' : OpR X (compareOp op') r') (ha : PE X a ta) (hb : PE X b tb) (hc : PE X c tc)
    (hm : lastMarks [op, op'] [b, c] = false := by with_unfolding_all rfl) : PE X (.Compare a [op, op'] [b, c] pos) (tChain r r' ta tb tc) := by
  intro pins s σ H Q I h
  refine Compare_chain (thn (ha pins s σ H _ I h) fun v s1 ⟨x, H1, I1, r1, q1⟩ => chain_link (thn (hb pins s1 σ H1 _ I1 q1) fun u s2 ⟨y, H2, I2, r2, q2⟩ =>
    thn (ho pins s2 σ H2 x y v u _ I2 r1 r2 q2) fun d s3 ⟨z, H3, I3, r3, k, e, q3⟩ => ?_)) hm
  subst e
  cases r3
  refine wpAny_truthy_bool ?_
  cases k with
  | false => exact ite_ff ⟨.bl false, H3, I3, rfl, q3⟩
  | true => exact ite_tt (chain_last (thn (hc pins s3 σ H3 _ I3 q3) fun w' s4 ⟨z', H4, I4, r4, q4⟩ => ho' pins s4 σ H4 y z' u w' Q I4 r2 r4 q4))
def TruV (K : PySem.W.Frag) (x : V) (H : Hp) (k : Bool) : Prop :=
  match x with
  | .non => k = false
  | .bl b => k = b
  | .int i => k = (i != 0)
  | .str y => y.length ≤ sizeLine ∧ k = ((y.length : Int) != 0)
  | .byt y => y.size ≤ sizeLine ∧ k = ((y.size : Int) != 0)
  | .ref p => (∃ xs, SqL K H p xs ∧ k = !xs.isEmpty) ∨ (∃ xs, SqT K H p xs ∧ k = !xs.isEmpty) ∨ ∃ kvs, H p = some (.dK kvs) ∧ k = !kvs.isEmpty
  | _ => False
theorem line63 : (sizeLine : Nat) < 2 ^ 63 := by rw [sizeLine_eq]; decide
def PlainIxT (b : Expr) : Prop := ∀ o i, subscripted b false o i = operate [o, i] (getItem o i)
theorem vals1 {x : V} {us : List Value} (r : Vals [x] us) : ∃ u, us = [u] ∧ RelV x u := by
  cases r with
  | cons r1 r2 => cases r2; exact ⟨_, rfl, r1⟩
theorem vals2 {x y : V} {us : List Value} (r : Vals [x, y] us) : ∃ u w', us = [u, w'] ∧ RelV x u ∧ RelV y w' := by
  cases r with
  | cons r1 r2 =>
    cases r2 with
    | cons r3 r4 => cases r4; exact ⟨_, _, rfl, r1, r3⟩
theorem call_abs : CallR X (.builtin "abs") (fun xs H Q => ∃ i, xs = [.int i] ∧ Q (.int (if i < 0 then -i else i)) H) := by
  intro pins s σ H xs us Q I r h
  obtain ⟨i, rfl, q⟩ := h
  obtain ⟨u, rfl, t, rfl⟩ := vals1 r
  exact call_abs_int fun u tk => ⟨.int (if i < 0 then -i else i), H, I.tok _, ⟨_, rfl⟩, q⟩
theorem call_max2 (hc : X.calm = true) : CallR X (.builtin "max") (fun xs H Q => ∃ i j, xs = [.int i, .int j] ∧ Q (.int (if j > i then j else i)) H) := by
  intro pins s σ H xs us Q I r h
  obtain ⟨i, j, rfl, q⟩ := h
  obtain ⟨u, w', rfl, ⟨t, rfl⟩, ⟨t', rfl⟩⟩ := vals2 r
  refine max_two_ints (I.ok.hd hc) fun h' tk k => ⟨_, H, I.kept k, ?_, q⟩
  by_cases hj : j > i
  · rw [if_pos hj, if_pos hj]; exact ⟨_, rfl⟩
  · rw [if_neg hj, if_neg hj]; exact ⟨_, rfl⟩
theorem call_min2 (hc : X.calm = true) : CallR X (.builtin "min") (fun xs H Q => ∃ i j, xs = [.int i, .int j] ∧ Q (.int (if j < i then j else i)) H) := by
  intro pins s σ H xs us Q I r h
  obtain ⟨i, j, rfl, q⟩ := h
  obtain ⟨u, w', rfl, ⟨t, rfl⟩, ⟨t', rfl⟩⟩ := vals2 r
  refine min_two_ints (I.ok.hd hc) fun h' tk k => ⟨_, H, I.kept k, ?_, q⟩
  by_cases hj : j < i
  · rw [if_pos hj, if_pos hj]; exact ⟨_, rfl⟩
  · rw [if_neg hj, if_neg hj]; exact ⟨_, rfl⟩
theorem call_int1 : CallR X (.type "int") (fun xs H Q => (∃ i, xs = [.int i] ∧ Q (.int i) H) ∨ ∃ k, xs = [.bl k] ∧ Q (.int (if k then 1 else 0)) H) := by
  intro pins s σ H xs us Q I r h
  rcases h with ⟨i, rfl, q⟩ | ⟨k, rfl, q⟩
  · obtain ⟨u, rfl, t, rfl⟩ := vals1 r
    exact call_int_int ⟨.int i, H, I, ⟨_, rfl⟩, q⟩
  · obtain ⟨u, rfl, r1⟩ := vals1 r
    cases r1
    exact call_int_bool ⟨.int (if k then 1 else 0), H, I.tok _, ⟨_, rfl⟩, q⟩
def LenV (K : PySem.W.Frag) (x : V) (H : Hp) (n : Nat) : Prop :=
  match x with
  | .str y => y.length ≤ sizeLine ∧ n = y.length
  | .byt y => y.size ≤ sizeLine ∧ n = y.size
  | .ref p => (∃ xs, SqL K H p xs ∧ n = xs.length) ∨ ∃ xs, SqT K H p xs ∧ n = xs.length
  | _ => False
end
end L2
namespace L2
open PySem PySem.Spec PyProof.Rows
structure ObjM (h : Heap) (x dx C : Addr) (mA : Str → Option Value) : Prop where
  obj : h.get? x = some (PySem.W.instObj C dx)
  ns : h.Ns1 dx mA
  ne : dx ≠ x
theorem lookIn_ns {h : Heap} {dx : Addr} {mA : Str → Option Value} (n : h.Ns1 dx mA) : ∃ od, h.get? dx = some od ∧ ∀ name, PySem.W.lookIn name od = some (mA name) := by
  obtain ⟨o, es, ep, ho, hd, hk, _, hm⟩ := n
  refine ⟨o, ho, fun name => ?_⟩
  have e := hm name
  unfold nsFind findBy at e
  rw [← Array.find?_toList] at e
  unfold PySem.W.lookIn
  rw [hd]
  dsimp only
  split
  · rename_i y q
    rw [q] at e
    exact congrArg some e
  · rename_i q
    rw [q] at e
    have a : es.toList.any (·.refKey) = false := by
      rw [List.any_eq_false]
      intro y hy
      obtain ⟨z, t, hkey⟩ := hk y (Array.mem_toList_iff.mp hy)
      simp [DictEntry.refKey, hkey]
    have a' : ¬ es.toList.any (·.refKey) = true := by rw [a]; exact Bool.false_ne_true
    rw [if_neg a']
    exact congrArg some e
theorem ObjM.look {h : Heap} {x dx C : Addr} {mA : Str → Option Value} (I : ObjM h x dx C mA) : ∃ od, PySem.W.InstAt h x (PySem.W.instObj C dx) C (some od) ∧ ∀ name, PySem.W.lookIn name od = some (mA name) :=
  let ⟨od, ho, hl⟩ := lookIn_ns I.ns
  ⟨od, ⟨I.obj, rfl, rfl, ho⟩, hl⟩
section
variable {prog : Program} {w : World} {A : Around} {E : Value → Shared → Prop} {s : Shared} {K : PySem.W.Frag} {x dx C f : Addr} {mA : Str → Option Value} {name : Str} {v : Value}
theorem get_map {expr : Bool} {Q : Value → Shared → Prop} (X : K.In s.heap) (I : ObjM s.heap x dx C mA) (hg : PySem.W.plainGet K C name = true) (hh : PySem.W.hasDictIn K C = true)
    (ha : PySem.W.findIn K (.ref C) name = some none) (hv : mA name = some v) (hv' : PySem.W.handedIn v = true) (h : Q v { s with toks := s.toks + 1 }) :
    wpAny (model prog w) A (getAttr (.ref x) name expr) Q E s := by
  obtain ⟨od, J, hl⟩ := I.look
  exact PySem.W.get_value X J (PySem.W.plainGet_of hg).1 (PySem.W.findObj_own hh ha rfl (by rw [hl, hv])) hv' h
theorem get_meth {pl : Sem Bool} {Q : Value × List Value → Shared → Prop} (X : K.In s.heap) (I : ObjM s.heap x dx C mA) (hg : PySem.W.plainGet K C name = true)
    (hf : PySem.W.findIn K (.ref C) name = some (some (.ref f))) (ht : PySem.W.isFn K (.ref f) = true) (hv : mA name = none) (h : Q (.ref f, [.ref x]) s) :
    wpAny (model prog w) A (getMethod (.ref x) name pl) Q E s := by
  obtain ⟨od, J, hl⟩ := I.look
  exact PySem.W.method_fn X J (PySem.W.plainGet_of hg).1 (PySem.W.plainGet_of hg).2 hf (beq_iff_eq.mp ht) (by show (PySem.W.lookIn name od).map (·.isSome) = some false; rw [hl, hv]; rfl) h
theorem set_map {ns : List Str} {Q : Unit → Shared → Prop} (X : K.In s.heap) (I : ObjM s.heap x dx C mA)
    (hs : PySem.W.findIn K (.ref C) "__setattr__" = some (some (.builtin "object.__setattr__"))) (hp : PySem.W.plainOver K C = true) (ht : PySem.W.takerIn K C name = some none) (hh : PySem.W.hasDictIn K C = true)
    (hw : PySem.Within mA ns) (hsz : ns.length ≤ sizeLine)
    (h : ∀ h', ObjM h' x dx C (fun y => if y = name then some v else mA y) → Heap.SameBut dx s.heap h' → Q () { s with heap := h', toks := s.toks + 2 }) :
    wpAny (model prog w) A (setAttr (.ref x) name v) Q E s := by
  obtain ⟨od, J, hl⟩ := I.look
  refine PySem.W.set_plain X J hs (PySem.W.osa_open (s := { s with toks := s.toks + 1 }) (r := none) X J hp ht fun b => ?_)
  obtain ⟨cd, hc, hd'⟩ := PySem.W.any_some hh
  have hx : s.heap.get? x = some ⟨.ref C, some dx, .plain, #[]⟩ := I.obj
  refine wpAny_bind (wpAny_pure (wpAny_bind (wpAny_bind (wpAny_loadPart hx (wpAny_bind (PySem.W.Looks.here (s := { s with toks := s.toks + 1 }) (PySem.W.looks_clsIn X hc) ?_))))))
  rw [hd']
  refine wpAny_pure (a := some dx) (wpAny_bind (wpAny_pure (wpAny_bind ?_)))
  refine wpAny_nsSet1 (s := { s with toks := s.toks + 1 }) I.ns fun h' hn2 hs2 => ?_
  obtain ⟨oD, esD, epD, hoD, hdD, hcD⟩ := hn2.count (PySem.Within.cons name v hw)
  refine wpAny_bind (wpAny_lookBehind hoD (by rw [hdD]; exact pastItsLine_dict (Nat.le_trans hcD (by rw [List.length_cons]; omega))) ?_)
  exact wpAny_pure (h _ ⟨(hs2.2 _ (Ne.symm I.ne)).trans I.obj, hn2, I.ne⟩ hs2)
theorem make_map {R : Result → Shared → Prop} {vs : List Value} {kw : List (Str × Value)} (X : K.In s.heap) (hm : PySem.W.makesIn K C = true)
    (hi : PySem.W.findIn K (.ref C) "__init__" = some (some (.ref f))) (hf : PySem.W.typeIn K (.ref f) = some (.type "function"))
    (h : codeAny (model prog w) (A.under (.builtin "type.__call__" ⟨.ref C :: vs, kw⟩)) (.call (.ref f) ⟨.ref (s.heap.objs.size + 1) :: vs, kw⟩) (PySem.W.InitBack (s.heap.objs.size + 1) R)
      { s with heap := (s.heap.push PySem.W.emptyDict).push (PySem.W.instObj C s.heap.objs.size) }) :
    codeAny (model prog w) A (.call (.ref C) ⟨vs, kw⟩) R s := by
  obtain ⟨hh, g, d, t, os⟩ := s
  exact PySem.W.make_core (PySem.W.makes_of X hm) (PySem.W.looks_findIn X hi) (fun self => PySem.W.bind_fn X self hf) (.inl rfl) h
theorem make_map0 {R : Result → Shared → Prop} (X : K.In s.heap) (hm : PySem.W.makesIn K C = true)
    (hi : PySem.W.findIn K (.ref C) "__init__" = some (some (.builtin "object.__init__")))
    (hb : ∀ self, PySem.W.Looks (model prog w) s.heap (bindSpecial (.builtin "object.__init__") self) (.builtin "object.__init__", [self]))
    (h : codeAny (model prog w) (A.under (.builtin "type.__call__" ⟨[.ref C], []⟩)) (.call (.builtin "object.__init__") ⟨[.ref (s.heap.objs.size + 1)], []⟩) (PySem.W.InitBack (s.heap.objs.size + 1) R)
      { s with heap := (s.heap.push PySem.W.emptyDict).push (PySem.W.instObj C s.heap.objs.size) }) :
    codeAny (model prog w) A (.call (.ref C) ⟨[], []⟩) R s := by
  obtain ⟨hh, g, d, t, os⟩ := s
  exact PySem.W.make_core (PySem.W.makes_of X hm) (PySem.W.looks_findIn X hi) hb (.inr ⟨rfl, rfl⟩) h
end
def putF (f : Str) (v : V) : List (Str × V) → List (Str × V)
  | [] => [(f, v)]
  | (g, x) :: r => if g = f then (g, v) :: r else (g, x) :: putF f v r
theorem lookup_putF (f g : Str) (v : V) : ∀ fs : List (Str × V), (putF f v fs).lookup g = if g = f then some v else fs.lookup g
  | [] => by
    show List.lookup g [(f, v)] = _
    by_cases h : g = f
    · have hb : (g == f) = true := beq_iff_eq.mpr h
      simp only [List.lookup, hb, if_pos h]
    · have hb : (g == f) = false := beq_eq_false_iff_ne.mpr h
      simp only [List.lookup, hb, if_neg h]
  | (k, x) :: r => by
    have ih := lookup_putF f g v r
    rw [show putF f v ((k, x) :: r) = (if k = f then (k, v) :: r else (k, x) :: putF f v r) from rfl]
    by_cases hk : k = f
    · rw [if_pos hk]
      by_cases h : g = k
      · have hb : (g == k) = true := beq_iff_eq.mpr h
        simp only [List.lookup, hb, if_pos (h.trans hk)]
      · have hb : (g == k) = false := beq_eq_false_iff_ne.mpr h
        simp only [List.lookup, hb, if_neg (fun e : g = f => h (e.trans hk.symm))]
    · rw [if_neg hk]
      by_cases h : g = k
      · have hb : (g == k) = true := beq_iff_eq.mpr h
        simp only [List.lookup, hb, if_neg (fun e : g = f => hk (h.symm.trans e))]
      · have hb : (g == k) = false := beq_eq_false_iff_ne.mpr h
        simp only [List.lookup, hb]
        exact ih
theorem keys_putF (f : Str) (v : V) : ∀ fs : List (Str × V), f ∈ (putF f v fs).map (·.1) ∧ ∀ g, g ∈ fs.map (·.1) → g ∈ (putF f v fs).map (·.1)
  | [] => ⟨by simp [putF], fun g h => by simp at h⟩
  | (k, x) :: r => by
    obtain ⟨i1, i2⟩ := keys_putF f v r
    rw [show putF f v ((k, x) :: r) = (if k = f then (k, v) :: r else (k, x) :: putF f v r) from rfl]
    by_cases hk : k = f
    · rw [if_pos hk]
      subst hk
      exact ⟨by simp, fun g h => by simpa using h⟩
    · rw [if_neg hk]
      refine ⟨?_, fun g h => ?_⟩
      · rw [List.map_cons]
        exact List.mem_cons_of_mem _ i1
      · rw [List.map_cons] at h ⊢
        rcases List.mem_cons.mp h with e | e
        · exact List.mem_cons.mpr (.inl e)
        · exact List.mem_cons_of_mem _ (i2 g e)
theorem length_putF (f : Str) (v : V) : ∀ fs : List (Str × V), (putF f v fs).length ≤ fs.length + 1
  | [] => by simp [putF]
  | (k, x) :: r => by
    have ih := length_putF f v r
    rw [show putF f v ((k, x) :: r) = (if k = f then (k, v) :: r else (k, x) :: putF f v r) from rfl]
    by_cases hk : k = f
    · rw [if_pos hk, List.length_cons, List.length_cons]; omega
    · rw [if_neg hk, List.length_cons, List.length_cons]; omega
theorem RelO.some_of {v : V} {o : Option Value} (r : RelO (some v) o) : ∃ u, o = some u ∧ RelV v u := by
  cases o with
  | none => exact (show False from r).elim
  | some u => exact ⟨u, rfl, r⟩
theorem RelO.none_of {o : Option Value} (r : RelO none o) : o = none := by
  cases o with
  | none => rfl
  | some u => exact (show False from r).elim
theorem handed_of {v : V} {u : Value} (r : RelV v u) : PySem.W.handedIn u = true := by
  cases v with
  | non => cases (show u = Value.none from r); rfl
  | bl b => cases (show u = Value.bool b from r); rfl
  | int i => obtain ⟨t, e⟩ := (show ∃ t, u = Value.int i t from r); cases e; rfl
  | str x => obtain ⟨t, e⟩ := (show ∃ t, u = Value.str x t from r); cases e; rfl
  | byt b => obtain ⟨t, e⟩ := (show ∃ t, u = Value.bytes b t from r); cases e; rfl
  | flt b => obtain ⟨t, e⟩ := (show ∃ t, u = Value.float b t from r); cases e; rfl
  | ref a => cases (show u = Value.ref a from r); rfl
  | ty n => cases (show u = Value.type n from r); rfl
section
variable {P : Program} {w : World} {H H' : Hp} {h h' : Heap} {a C dx : Addr} {fs fs' : List (Str × V)}
theorem ins_get (hok : HOk P w H h) (e : H a = some (.ins C dx fs)) : ∃ mA, ObjM h a dx C mA ∧ (∀ f, RelO (fs.lookup f) (mA f)) ∧ PySem.Within mA (fs.map (·.1)) ∧ fs.length ≤ 1000 ∧ H dx = some (.own a) := by
  obtain ⟨d, z, ne, ob, mA, n, r, q⟩ := (show ObjOk P w H h a (.ins C dx fs) from hok a _ e)
  exact ⟨mA, ⟨ob, n, ne⟩, r, q, z, d⟩
end
structure Cls (K : PySem.W.Frag) (C : Addr) : Prop where
  pg : PySem.W.plainGet K C Str.empty = true
  hd : PySem.W.hasDictIn K C = true
  po : PySem.W.plainOver K C = true
  sa : PySem.W.findIn K (.ref C) "__setattr__" = some (some (.builtin "object.__setattr__"))
theorem Cls.get {K : PySem.W.Frag} {C : Addr} (c : Cls K C) (f : Str) : PySem.W.plainGet K C f = true := c.pg
def NoAttr (K : PySem.W.Frag) (C : Addr) (f : Str) : Prop := PySem.W.findIn K (.ref C) f = some none
theorem NoAttr.taker {K : PySem.W.Frag} {C : Addr} {f : Str} (n : NoAttr K C f) : PySem.W.takerIn K C f = some none := by
  unfold PySem.W.takerIn
  rw [show PySem.W.findIn K (.ref C) f = some none from n]
  rfl
structure Con (K : PySem.W.Frag) (C : Addr) (f : Str) (v : V) (u : Value) : Prop where
  at_ : PySem.W.findIn K (.ref C) f = some (some u)
  rel : RelV v u
  get : PySem.W.specialIn K u "__get__" = some none
  cp : PySem.W.copiedNames.contains f = false
structure Meth (K : PySem.W.Frag) (C : Addr) (m : Str) (f : Addr) : Prop where
  at_ : PySem.W.findIn K (.ref C) m = some (some (.ref f))
  fn : PySem.W.isFn K (.ref f) = true
  kp : PySem.W.keepIn K (.ref f) = true
section
variable {X : Cx} {pins : List (Addr × Obj)} {σ : St} {H : Hp} {s : Shared} {a C dx : Addr} {fs : List (Str × V)} {f : Str} {v : V} {A : Around} {E : Value → Shared → Prop}
theorem getattr_ok {b : Bool} {Q : Value → Shared → Prop} (I : Inv X pins σ H s) (e : H a = some (.ins C dx fs)) (c : Cls X.K C) (n : NoAttr X.K C f) (l : fs.lookup f = some v)
    (h : ∀ u s', Inv X pins σ H s' → RelV v u → Q u s') : wpAny (model X.prog X.w) A (getAttr (.ref a) f b) Q E s := by
  obtain ⟨mA, O, r, _, _, _⟩ := ins_get I.hok e
  obtain ⟨u, hu, ru⟩ := RelO.some_of (v := v) (o := mA f) (by rw [← l]; exact r f)
  exact get_map I.kIn O (c.get f) c.hd n hu (handed_of ru) (h u _ (I.tok _) ru)
theorem getmeth_ok {m : Str} {g : Addr} {pl : Sem Bool} {Q : Value × List Value → Shared → Prop} (I : Inv X pins σ H s) (e : H a = some (.ins C dx fs)) (c : Cls X.K C) (k : Meth X.K C m g) (l : fs.lookup m = none)
    (h : Q (.ref g, [.ref a]) s) : wpAny (model X.prog X.w) A (getMethod (.ref a) m pl) Q E s := by
  obtain ⟨mA, O, r, _, _, _⟩ := ins_get I.hok e
  have hn : mA m = none := RelO.none_of (by rw [← l]; exact r m)
  exact get_meth I.kIn O (c.get m) k.at_ k.fn hn h
theorem setattr_ok {y : V} {u : Value} {Q : Unit → Shared → Prop} (I : Inv X pins σ H s) (e : H a = some (.ins C dx fs)) (c : Cls X.K C) (n : NoAttr X.K C f) (hl : fs.length < 1000) (ry : RelV y u)
    (h : ∀ s', Inv X pins σ (upd H a (.ins C dx (putF f y fs))) s' → Q () s') : wpAny (model X.prog X.w) A (setAttr (.ref a) f u) Q E s := by
  obtain ⟨mA, O, r, wi, _, ho⟩ := ins_get I.hok e
  have hz : (fs.map (·.1)).length ≤ sizeLine := by rw [List.length_map, sizeLine_eq]; omega
  refine set_map I.kIn O c.sa c.po n.taker c.hd wi hz fun h' O' sb => h _ ?_
  have hd : ∃ o, h'.get? dx = some o := let ⟨o, _, _, e', _⟩ := O'.ns; ⟨o, e'⟩
  refine I.write (x := a) (e := dx) (by rw [e]; exact True.intro) (.inr ho) (fun b q hb z => (sb.2 b hb).trans z) hd ?_
  refine ⟨by rw [upd_ne O.ne]; exact ho, ?_, O.ne, O'.obj, _, O'.ns, fun g => ?_, fun g hg => ?_⟩
  · have := length_putF f y fs; omega
  · show RelO ((putF f y fs).lookup g) (if g = f then some u else mA g)
    rw [lookup_putF]
    by_cases q : g = f
    · rw [if_pos q, if_pos q]; exact ry
    · rw [if_neg q, if_neg q]; exact r g
  · by_cases q : g = f
    · rw [q]; exact (keys_putF f y fs).1
    · refine (keys_putF f y fs).2 g (wi g fun z => hg ?_)
      show (if g = f then some u else mA g) = none
      rw [if_neg q]; exact z
theorem Inv.made (I : Inv X pins σ H s) : Inv X pins σ (upd (upd H s.heap.objs.size (.own (s.heap.objs.size + 1))) (s.heap.objs.size + 1) (.ins C s.heap.objs.size []))
    { s with heap := (s.heap.push PySem.W.emptyDict).push (PySem.W.instObj C s.heap.objs.size) } := by
  have e1 : (s.heap.push PySem.W.emptyDict).get? s.heap.objs.size = some PySem.W.emptyDict := Heap.get?_push_size s.heap rfl
  have e2 : ((s.heap.push PySem.W.emptyDict).push (PySem.W.instObj C s.heap.objs.size)).get? (s.heap.objs.size + 1) = some (PySem.W.instObj C s.heap.objs.size) := by
    have := Heap.get?_push_size (s.heap.push PySem.W.emptyDict) (o := PySem.W.instObj C s.heap.objs.size) rfl
    rwa [Heap.size_push] at this
  have e3 : (s.heap.push PySem.W.emptyDict).Ns s.heap.objs.size (fun _ => none) := ⟨PySem.W.emptyDict, #[], _, e1, rfl, (fun e he => absurd he (by simp)), fun _ => rfl⟩
  have I1 := I.laid (a := s.heap.objs.size) (o := .own (s.heap.objs.size + 1)) (h' := s.heap.push PySem.W.emptyDict) (t' := s.toks) (fun b u q => Heap.get?_push_of_some _ q) (Nat.le_refl _) ⟨_, e1⟩
  refine I1.laid (a := s.heap.objs.size + 1) (o := .ins C s.heap.objs.size []) (t' := s.toks) (fun b u q => Heap.get?_push_of_some _ q) (Nat.le_of_eq (Heap.size_push _ _)) ?_
  have ne : s.heap.objs.size ≠ s.heap.objs.size + 1 := Nat.ne_of_lt (Nat.lt_succ_self _)
  refine ⟨by rw [upd_ne ne, upd_same], Nat.zero_le _, ne, e2, fun _ => none, (Heap.Ns1.of_empty e3).at fun o q => Heap.get?_push_of_some _ q, fun _ => True.intro, fun y hy => absurd rfl hy⟩
theorem attr_of {prog : Program} {w : World} {env : Env} {e : Expr} {f : Str} {pos : Pos} {s : Shared} {Q : Value → Shared → Prop} (hb : attributeBase e f env (eval e env) = eval e env)
    (h : wpAny (model prog w) A (eval e env) (fun o s₁ => wpAny (model prog w) A (getAttr o f true) Q E s₁) E s) : wpAny (model prog w) A (eval (.Attribute e f pos) env) Q E s :=
  Attribute_any_ h (by rw [arm_eval_Attribute, hb])
end
def tFld (K : PySem.W.Frag) (ta : TE) (f : Str) : TE := fun σ H Q => ta σ H fun x H1 => ∃ a C dx fs v, x = .ref a ∧ H1 a = some (.ins C dx fs) ∧ Cls K C ∧ NoAttr K C f ∧ fs.lookup f = some v ∧ Q v H1
def tCon (K : PySem.W.Frag) (ta : TE) (f : Str) : TE := fun σ H Q => ta σ H fun x H1 => ∃ a C dx fs v u, x = .ref a ∧ H1 a = some (.ins C dx fs) ∧ Cls K C ∧ Con K C f v u ∧ fs.lookup f = none ∧ Q v H1
def sFld (K : PySem.W.Frag) (ta tv : TE) (f : Str) : TS := fun D σ H => tv σ H fun y H1 => ta σ H1 fun x H2 => ∃ a C dx fs, x = .ref a ∧ H2 a = some (.ins C dx fs) ∧ Cls K C ∧ NoAttr K C f ∧ fs.length < 1000 ∧
  D.nx σ (upd H2 a (.ins C dx (putF f y fs)))
def InOp (X : Cx) (op : Operator) (rd : V → V → Hp → VK → Prop) : Prop :=
  ∀ (pins : List (Addr × Obj)) (s : Shared) (σ : St) (H : Hp) (x y : V) (u v : Value) (Q : VK), Inv X pins σ H s → RelV x u → RelV y v → rd x y H Q → wpAny (model X.prog X.w) X.A (inplaceOp op u v) (EP X pins σ Q) X.xe s
def sFldAug (K : PySem.W.Frag) (ta tv : TE) (rd : V → V → Hp → VK → Prop) (f : Str) : TS := fun D σ H => ta σ H fun x H1 => ∃ a C dx fs v, x = .ref a ∧ H1 a = some (.ins C dx fs) ∧ Cls K C ∧ NoAttr K C f ∧ fs.lookup f = some v ∧
  tv σ H1 fun y H2 => rd v y H2 fun z H3 => ∃ dx' fs', H3 a = some (.ins C dx' fs') ∧ fs'.length < 1000 ∧ D.nx σ (upd H3 a (.ins C dx' (putF f z fs')))
section
variable {X : Cx} {o e value : Expr} {f : Str} {pos pos' tpos : Pos} {ta tv : TE}
theorem pe_fld (he : PE X e ta) (hb : attributeBase e f X.env (eval e X.env) = eval e X.env) : PE X (.Attribute e f pos) (tFld X.K ta f) := by
  intro pins s σ H Q I h
  refine attr_of hb (thn (he pins s σ H _ I h) fun u s1 ⟨x, H1, I1, rx, a, C, dx, fs, v, ex, ea, c, n, l, q⟩ => ?_)
  subst ex
  obtain rfl : u = Value.ref a := rx
  exact getattr_ok I1 ea c n l fun u' s2 I2 ru => ⟨v, H1, I2, ru, q⟩
theorem ps_fld (ha : PE X o ta) (hv : PE X value tv) (hs : swapsWith value (some (.Attribute o f pos')) pos.line X.env = pure false) : PS X (.Assign [.Attribute o f pos'] value pos) (sFld X.K ta tv f) := by
  intro pins s σ H D I h
  refine plainObj_wpAny_Assign_Attribute (thn (hv pins s σ H _ I h) fun u s1 ⟨y, H1, I1, ry, q⟩ => thn (ha pins s1 σ H1 _ I1 q) fun ov s2 ⟨x, H2, I2, rx, a, C, dx, fs, ex, ea, c, n, l, q2⟩ => ?_) hs
  subst ex
  obtain rfl : ov = Value.ref a := rx
  exact setattr_ok I2 ea c n l ry fun s3 I3 => ⟨σ, _, I3, q2⟩
def rAdd : V → V → Hp → VK → Prop := fun x y H Q => ∃ i j, x = .int i ∧ y = .int j ∧ Q (.int (i + j)) H
def rSub : V → V → Hp → VK → Prop := fun x y H Q => ∃ i j, x = .int i ∧ y = .int j ∧ Q (.int (i - j)) H
end
section
variable {X : Cx} {pins : List (Addr × Obj)} {σ : St} {H : Hp} {s : Shared} {A : Around} {E : Value → Shared → Prop} {Q : Value → Shared → Prop} {c : Value} {b : Bool}
inductive TyOf (K : PySem.W.Frag) (H : Hp) : V → Value → Prop where
  | non : TyOf K H .non (.type "NoneType")
  | bl (x : Bool) : TyOf K H (.bl x) (.type "bool")
  | int (i : Int) : TyOf K H (.int i) (.type "int")
  | str (x : Str) : TyOf K H (.str x) (.type "str")
  | flt (x : UInt64) : TyOf K H (.flt x) (.type "float")
  | lst {a : Addr} {xs : List V} (e : H a = some (.lst xs)) : TyOf K H (.ref a) (.type "list")
  | frz {a : Addr} {o : Obj} {xs : List V} (e : H a = some (.frz o (.lst xs))) : TyOf K H (.ref a) (.type "list")
  | tup {a : Addr} {xs : List V} (e : H a = some (.tup xs)) : TyOf K H (.ref a) (.type "tuple")
  | dK {a : Addr} {kvs : List (Key × V)} (e : H a = some (.dK kvs)) : TyOf K H (.ref a) (.type "dict")
  | dT {a : Addr} {kvs : List (List Key × V)} (e : H a = some (.dT kvs)) : TyOf K H (.ref a) (.type "dict")
  | ins {a C dx : Addr} {fs : List (Str × V)} (e : H a = some (.ins C dx fs)) (cl : Cls K C) (ha : PySem.W.findIn K (.ref C) "__class__" = some (some (.builtin "object.__class__")))
      (hn : PySem.W.specialIn K (.builtin "object.__class__") "__get__" = some (some (.builtin "getset_descriptor.__get__"))) (htk : PySem.W.takesIn K (.builtin "object.__class__") = some true)
      (hm : PySem.W.mroIn K C (.type "object") = some true) : TyOf K H (.ref a) (.ref C)
theorem isinst_ok {x : V} {u t : Value} (I : Inv X pins σ H s) (rx : RelV x u) (ty : TyOf X.K H x t) (e : PySem.W.kitOne X.K t c = some b) (h : ∀ tk, Q (.bool b) { s with toks := tk }) :
    wpAny (model X.prog X.w) A (call (.builtin "isinstance") [u, c]) Q E s := by
  cases ty with
  | non => cases (show u = Value.none from rx); exact PySem.W.kia_one PySem.W.kitx_none I.kIn True.intro e (fun z => nomatch z) h
  | bl y => cases (show u = Value.bool y from rx); exact PySem.W.kia_one PySem.W.kitx_bool I.kIn True.intro e (fun z => nomatch z) h
  | int i => obtain ⟨t, q⟩ := (show ∃ t, u = Value.int i t from rx); cases q; exact PySem.W.kia_one PySem.W.kitx_int I.kIn True.intro e (fun z => nomatch z) h
  | str y => obtain ⟨t, q⟩ := (show ∃ t, u = Value.str y t from rx); cases q; exact PySem.W.kia_one PySem.W.kitx_str I.kIn True.intro e (fun z => nomatch z) h
  | flt y => obtain ⟨t, q⟩ := (show ∃ t, u = Value.float y t from rx); cases q; exact PySem.W.kia_one PySem.W.kitx_float I.kIn True.intro e (fun z => nomatch z) h
  | @lst a xs ea =>
    cases (show u = Value.ref a from rx)
    obtain ⟨_, _, n, _, h1⟩ := (show ObjOk X.prog X.w H s.heap a (.lst xs) from I.hok a _ ea)
    exact PySem.W.kia_one PySem.W.kitx_list I.kIn ⟨_, h1, rfl⟩ e (fun z => nomatch z) h
  | @frz a ob xs ea =>
    cases (show u = Value.ref a from rx)
    obtain ⟨_, _, _, n, _, h1⟩ := (show ObjOk X.prog X.w H s.heap a (.frz ob (.lst xs)) from I.hok a _ ea)
    exact PySem.W.kia_one PySem.W.kitx_list I.kIn ⟨_, h1, rfl⟩ e (fun z => nomatch z) h
  | @tup a xs ea =>
    cases (show u = Value.ref a from rx)
    obtain ⟨_, _, _, p⟩ := (show ObjOk X.prog X.w H s.heap a (.tup xs) from I.hok a _ ea)
    obtain ⟨o, h1, h2, _⟩ := p
    exact PySem.W.kia_one PySem.W.kitx_tuple I.kIn ⟨o, h1, h2⟩ e (fun z => nomatch z) h
  | @dK a kvs ea =>
    cases (show u = Value.ref a from rx)
    obtain ⟨_, _, vs, _, p⟩ := (show ObjOk X.prog X.w H s.heap a (.dK kvs) from I.hok a _ ea)
    obtain ⟨o, es, ep, h1, h2, _⟩ := p
    exact PySem.W.kia_one PySem.W.kitx_dict I.kIn ⟨o, h1, h2.1⟩ e (fun z => nomatch z) h
  | @dT a kvs ea =>
    cases (show u = Value.ref a from rx)
    obtain ⟨_, _, xs, _, o, es, ep, h1, h2, _⟩ := (show ObjOk X.prog X.w H s.heap a (.dT kvs) from I.hok a _ ea)
    exact PySem.W.kia_one PySem.W.kitx_dict I.kIn ⟨o, h1, h2.1⟩ e (fun z => nomatch z) h
  | @ins a C dx fs ea cl ha hn htk hm =>
    cases (show u = Value.ref a from rx)
    obtain ⟨mA, O, _⟩ := ins_get I.hok ea
    obtain ⟨od, J, _⟩ := O.look
    exact PySem.W.kia_one (PySem.W.kitx_own (cl.get _) cl.hd ha hn htk hm) I.kIn J e (fun z => nomatch z) h
end
end L2
namespace L2
open PySem PySem.Spec PyProof.Rows
structure Room (k : Nat) (A : Around) : Prop where
  hd : A.handled = none
  dp : A.depth + 3 * k + 5 < recursionLimit
  un : A.units + 16 * k + 200 < cLine
theorem Room.mono {j k : Nat} {A : Around} (r : Room k A) (h : j ≤ k) : Room j A := ⟨r.hd, by have := r.dp; omega, by have := r.un; omega⟩
theorem Room.deeper {k : Nat} {A : Around} (r : Room (k + 1) A) (env : Env) : Room k (A.deeper env) :=
  ⟨r.hd, by have := r.dp; show A.depth + 1 + 3 * k + 5 < _; omega, by have := r.un; show A.units + 3 + 16 * k + 200 < _; omega⟩
theorem make_depth {A : Around} {C : Addr} {us : List Value} {kw : List (Str × Value)} : (A.under (.builtin "type.__call__" ⟨.ref C :: us, kw⟩)).depth = A.depth + 1 := by
  first | rfl | simp [Around.under, Code.weight, Code.isCreation, Code.isGuard, Code.isCaller, Code.frames, Code.isFrame, guardIds]
theorem make_units {A : Around} {C : Addr} {us : List Value} {kw : List (Str × Value)} : (A.under (.builtin "type.__call__" ⟨.ref C :: us, kw⟩)).units = A.units + 1 := by
  first | rfl | simp [Around.under, Code.cUnits, Code.frames, Code.isFrame]
theorem Room.make {k : Nat} {A : Around} (r : Room (k + 1) A) (C : Addr) (us : List Value) (kw : List (Str × Value)) : Room k (A.under (.builtin "type.__call__" ⟨.ref C :: us, kw⟩)) :=
  ⟨r.hd, by have := r.dp; rw [make_depth]; omega, by have := r.un; rw [make_units]; omega⟩
theorem Room.depth {k : Nat} {A : Around} (r : Room k A) : A.depth < recursionLimit := by have := r.dp; omega
theorem Room.units {k : Nat} {A : Around} (r : Room k A) : A.units + 64 < cLine := by have := r.un; omega
theorem Room.units0 {k : Nat} {A : Around} (r : Room k A) : A.units < cLine := by have := r.un; omega
def tNil : TA := fun _ H Q => Q [] H
def tCons (ta : TE) (tr : TA) : TA := fun σ H Q => ta σ H fun x H1 => tr σ H1 fun xs H2 => Q (x :: xs) H2
section
variable {X : Cx} {e : Expr} {es : List Expr} {te : TE} {t : TA} {pos : Pos}
theorem pa_nil : PA X [] tNil := fun _ _ _ _ H Q I h => Calls.spliced_nil ⟨[], H, I, .nil, h⟩
theorem pa_cons (ha : PE X e te) (hr : PA X es t) (hs : starEach (e :: es) X.env = (false, eval e X.env) :: starEach es X.env := by rfl) : PA X (e :: es) (tCons te t) := by
  intro pos pins s σ H Q I h
  rw [hs]
  show wpAny _ _ (spliced ((false, eval e X.env) :: backTo pos (starEach es X.env))) _ _ s
  refine Calls.spliced_cons (thn (ha pins s σ H _ I h) fun u s1 ⟨x, H1, I1, r1, q1⟩ => ?_)
  exact thn (hr pos pins s1 σ H1 _ I1 q1) fun us s2 ⟨xs, H2, I2, r2, q2⟩ => ⟨x :: xs, H2, I2, .cons r1 r2, q2⟩
def tTup (t : TA) : TE := fun σ H Q => t σ H fun xs H1 => xs.length ≤ sizeLine ∧ ∀ p, H1 p = none → Q (.ref p) (upd H1 p (.tup xs))
def tLst (t : TA) : TE := fun σ H Q => t σ H fun xs H1 => xs.length ≤ sizeLine ∧ ∀ p, H1 p = none → Q (.ref p) (upd H1 p (.lst xs))
theorem pe_tup {x1} (h : PA X es t) : PE X (.Tuple es x1 pos) (tTup t) := by
  intro pins s σ H Q I hq
  refine wpAny_Tuple_spliced (thn (h pos pins s σ H _ I hq) fun us s1 ⟨xs, H1, I1, r, z, q⟩ => ⟨by rw [← r.length]; exact z, ?_⟩)
  have hf : H1 s1.heap.objs.size = none := I1.hok.fresh (Nat.le_refl _)
  refine ⟨.ref s1.heap.objs.size, upd H1 s1.heap.objs.size (.tup xs), I1.laid (t' := s1.toks) (fun b u e => Heap.get?_push_of_some _ e) (Nat.le_refl _) ?_, rfl, q _ hf⟩
  exact ⟨z, us, r, ⟨_, Heap.get?_push_size _ rfl, rfl, _, rfl⟩⟩
theorem pe_lst (h : PA X es t) : PE X (.List es pos) (tLst t) := by
  intro pins s σ H Q I hq
  refine wpAny_List_spliced (thn (h pos pins s σ H _ I hq) fun us s1 ⟨xs, H1, I1, r, z, q⟩ => ⟨by rw [← r.length]; exact z, ?_⟩)
  have hf : H1 s1.heap.objs.size = none := I1.hok.fresh (Nat.le_refl _)
  refine ⟨.ref s1.heap.objs.size, upd H1 s1.heap.objs.size (.lst xs), I1.laid (t' := s1.toks) (fun b u e => Heap.get?_push_of_some _ e) (Nat.le_refl _) ?_, rfl, q _ hf⟩
  exact ⟨z, us, 0, r, Heap.get?_push_size _ rfl⟩
end
abbrev Sp := List V → Hp → VK → XK → Prop
abbrev CXT := List Env → Hp → Shared → XK → Value → Shared → Prop
structure Env0 (P : Program) (w : World) (K : PySem.W.Frag) (mg : Str → Option Value) (base : Heap) (A : Around) (outer : List Env) (s : Shared) (H : Hp) : Prop where
  frames : A.frames = some outer
  mod : Mod K mg base
  bs : ∀ b o, base.get? b = some o → s.heap.get? b = some o ∧ H b = none
  bsz : base.objs.size ≤ s.heap.objs.size
  funs : s.heap.FunFrames base outer
  frf : ∀ b ∈ frs outer, H b = none
  hok : HOk P w H s.heap
  bare : AllBare s.gens
def CE (outer : List Env) (P : Program) (w : World) (H : Hp) (s : Shared) (Q : VK) (u : Value) (s' : Shared) : Prop :=
  ∃ v H', s'.os = s.os ∧ AllBare s'.gens ∧ Un (frs outer) [] H H' s.heap s'.heap ∧ HOk P w H' s'.heap ∧ RelV v u ∧ Q v H'
def CR (CX : CXT) (outer : List Env) (P : Program) (w : World) (H : Hp) (s : Shared) (Q : VK) (E : XK) (r : Result) (s' : Shared) : Prop :=
  match r with
  | .ok (.ret u) => CE outer P w H s Q u s'
  | .ok _ => False
  | .error e => CX outer H s E e s'
structure FnOk (P : Program) (w : World) (K : PySem.W.Frag) (mg : Str → Option Value) (base : Heap) (CX : CXT) (k : Nat) (f : Addr) (fd : FuncData) (ps : List Str) (sp : Sp) : Prop where
  len : ∀ vs H Q E, sp vs H Q E → vs.length = ps.length
  run : ∀ (A : Around) (outer : List Env) (s : Shared) (H : Hp) (args : Args) (us : List Value) (vs : List V) (Q : VK) (E : XK), Room k A → Env0 P w K mg base A outer s H → BindsTo s fd args (ps.zip us) → Vals vs us → sp vs H Q E →
    codeAny (model P w) A (.call (.ref f) args) (CR CX outer P w H s Q E) s
theorem FnOk.mono {P : Program} {w : World} {K : PySem.W.Frag} {mg : Str → Option Value} {base : Heap} {CX : CXT} {j k : Nat} {f : Addr} {fd : FuncData} {ps : List Str} {sp : Sp} (F : FnOk P w K mg base CX j f fd ps sp) (h : j ≤ k) :
    FnOk P w K mg base CX k f fd ps sp := ⟨F.len, fun A outer s H args us vs Q E hr => F.run A outer s H args us vs Q E (hr.mono h)⟩
theorem FnOk.imp {P : Program} {w : World} {K : PySem.W.Frag} {mg : Str → Option Value} {base : Heap} {CX : CXT} {k : Nat} {f : Addr} {fd : FuncData} {ps : List Str} {sp sp' : Sp} (F : FnOk P w K mg base CX k f fd ps sp)
    (h : ∀ vs H Q E, sp' vs H Q E → sp vs H Q E) : FnOk P w K mg base CX k f fd ps sp' :=
  ⟨fun vs H Q E q => F.len vs H Q E (h _ _ _ _ q), fun A outer s H args us vs Q E hr he hb hv hs => F.run A outer s H args us vs Q E hr he hb hv (h _ _ _ _ hs)⟩
theorem Env0.make {P : Program} {w : World} {K : PySem.W.Frag} {mg : Str → Option Value} {base : Heap} {A : Around} {outer : List Env} {s : Shared} {H : Hp} (e : Env0 P w K mg base A outer s H) (C : Addr) (us : List Value) (kw : List (Str × Value)) :
    Env0 P w K mg base (A.under (.builtin "type.__call__" ⟨.ref C :: us, kw⟩)) outer s H := ⟨by first | exact e.frames | (simpa [Around.under, Code.envs, Code.isFrame, pushEnvs] using e.frames), e.mod, e.bs, e.bsz, e.funs, e.frf, e.hok, e.bare⟩
section
variable {X : Cx} {pins : List (Addr × Obj)} {σ : St} {H : Hp} {s s' : Shared}
theorem Inv.env0 (I : Inv X pins σ H s) : Env0 X.prog X.w X.K X.mg X.base X.A X.stack s H :=
  ⟨I.ok.frames, I.ok.mod, I.bs, Nat.le_trans I.ok.bsz I.sz, I.stack, I.stkFree, I.hok, I.bare⟩
theorem Inv.after {Q : VK} {u : Value} (I : Inv X pins σ H s) (h : CE X.stack X.prog X.w H s Q u s') : EP X pins σ Q u s' := by
  obtain ⟨v, H', os, bare, un, hok, r, q⟩ := h
  obtain ⟨hh, g, d, t, os'⟩ := s'
  obtain rfl : os' = s.os := os
  exact ⟨v, H', I.call (h' := hh) (g' := g) (d' := d) (t' := t) (ch := []) un hok bare (fun b z => absurd z (by simp)), r, q⟩
end
def tCall (sp : Sp) (dvs : List V) (E : XK) (t : TA) : TE := fun σ H Q => t σ H fun vs H1 => sp (vs ++ dvs) H1 Q E
def tMeth (C : Addr) (m : Str) (sp : Sp) (dvs : List V) (E : XK) (ta : TE) (t : TA) : TE := fun σ H Q => ta σ H fun x H1 => ∃ a dx fs, x = .ref a ∧ H1 a = some (.ins C dx fs) ∧ fs.lookup m = none ∧
  t σ H1 fun vs H2 => sp (x :: (vs ++ dvs)) H2 Q E
def tMake (C : Addr) (sp : Sp) (dvs : List V) (E : XK) (t : TA) : TE := fun σ H Q => t σ H fun vs H1 => ∀ x dx, H1 x = none → H1 dx = none → dx ≠ x →
  sp (.ref x :: (vs ++ dvs)) (upd (upd H1 dx (.own x)) x (.ins C dx [])) (fun v H2 => v = .non ∧ Q (.ref x) H2) E
def Binds (K : PySem.W.Frag) (fd : FuncData) (ps : List Str) (ds : List Value) : Prop :=
  ∀ (s : Shared) (us : List Value), K.In s.heap → (us ++ ds).length = ps.length → BindsTo s fd ⟨us, []⟩ (ps.zip (us ++ ds))
theorem Binds.all {K : PySem.W.Frag} {fd : FuncData} {ps : List Str} (h : ∀ us : List Value, us.length = ps.length → bindArgs fd ⟨us, []⟩ = pure (ps.zip us)) : Binds K fd ps [] := fun s us _ hl => by
  rw [List.append_nil] at hl ⊢
  exact .of_eq (h us hl)
def Passes (CX : CXT) (X : Cx) (E : XK) : Prop := ∀ (pins : List (Addr × Obj)) (σ : St) (H : Hp) (s : Shared) (e : Value) (s' : Shared), Inv X pins σ H s → CX X.stack H s E e s' → X.xe e s'
section
variable {X : Cx} {CX : CXT} {k : Nat} {f C : Addr} {fd : FuncData} {ps : List Str} {sp : Sp} {dvs : List V} {ds : List Value} {E : XK} {x m : Str} {p pos apos : Pos} {e o : Expr} {es : List Expr} {ta : TE} {t : TA}
structure Mk (K : PySem.W.Frag) (C f : Addr) : Prop where
  makes : PySem.W.makesIn K C = true
  init : PySem.W.findIn K (.ref C) "__init__" = some (some (.ref f))
  fn : PySem.W.isFn K (.ref f) = true
  kp : PySem.W.keepIn K (.ref C) = true
end
def PK (X : Cx) (kws : List Keyword) (t : TA) : Prop :=
  ∀ (pos : Pos) (pins : List (Addr × Obj)) (s : Shared) (σ : St) (H : Hp) (Q : List V → Hp → Prop), Inv X pins σ H s → t σ H Q → wpAny (model X.prog X.w) X.A (evalAll ((backToKw pos (keywordEach kws X.env)).map (·.2))) (AP X pins σ Q) X.xe s
section
variable {X : Cx} {CX : CXT} {k : Nat} {f C : Addr} {fd : FuncData} {ps ks : List Str} {sp : Sp} {E : XK} {x m : Str} {p pos apos kpos : Pos} {e o : Expr} {es : List Expr} {kws : List Keyword} {te ta : TE} {t tk : TA} {nm : Option Str}
structure KBinds (K : PySem.W.Frag) (fd : FuncData) (ps ks : List Str) (g : List Value → List Value → List Value) (gV : List V → List V → List V) : Prop where
  to : ∀ (s : Shared) (us ws : List Value), K.In s.heap → (g us ws).length = ps.length → BindsTo s fd ⟨us, ks.zip ws⟩ (ps.zip (g us ws))
  rel : ∀ {vs : List V} {us : List Value} {zs : List V} {ws : List Value}, Vals vs us → Vals zs ws → Vals (gV vs zs) (g us ws)
def tCallK (sp : Sp) (gV : List V → List V → List V) (E : XK) (t tk : TA) : TE := fun σ H Q => t σ H fun vs H1 => tk σ H1 fun zs H2 => sp (gV vs zs) H2 Q E
variable {g : List Value → List Value → List Value} {gV : List V → List V → List V}
end
structure FnScope (N P : List Str) (sc : Scope) : Prop where
  kind : sc.kind = .function
  co : sc.isCoroutine = false
  gen : sc.isGenerator = false
  nd : N.Nodup
  pre : N.take P.length = P
  par : ∀ x ∈ P, sc.names.lookup x = some .local ∨ sc.names.lookup x = some .cell
  nofree : ∀ y ∈ sc.names, y.2 ≠ .free
theorem bindL_out {kindOf : Str → Option NameKind} {x : Str} : ∀ {binds : List (Str × Value)} {m : Str → Option Value}, (∀ v, (x, v) ∉ binds) → bindL kindOf binds m x = m x
  | [], _, _ => rfl
  | (n, v) :: r, m, h => by
    unfold bindL
    rw [bindL_out fun w hw => h w (List.mem_cons_of_mem _ hw)]
    split
    · have : x ≠ n := by rintro rfl; exact h v List.mem_cons_self
      simp [this]
    · rfl
theorem bindC_out {kindOf : Str → Option NameKind} {x : Str} : ∀ {binds : List (Str × Value)} {m : Str → Option Value}, (∀ v, (x, v) ∉ binds) → bindC kindOf binds m x = m x
  | [], _, _ => rfl
  | (n, v) :: r, m, h => by
    unfold bindC
    rw [bindC_out fun w hw => h w (List.mem_cons_of_mem _ hw)]
    split
    · rfl
    · have : x ≠ n := by rintro rfl; exact h v List.mem_cons_self
      simp [this]
theorem bindL_get {kindOf : Str → Option NameKind} {x : Str} {v : Value} : ∀ {P : List Str} {vs : List Value} {i : Nat} {m : Str → Option Value}, P.Nodup → P[i]? = some x → vs[i]? = some v → kindOf x = some .local →
    bindL kindOf (P.zip vs) m x = some v
  | [], _, _, _, _, h, _, _ => by simp at h
  | _ :: _, [], _, _, _, _, h, _ => by simp at h
  | p :: P, w :: vs, 0, m, nd, h1, h2, hk => by
    simp at h1 h2; subst h1; subst h2
    show bindL kindOf ((p, w) :: P.zip vs) m p = _
    unfold bindL
    rw [bindL_out fun v hv => (List.nodup_cons.mp nd).1 (List.of_mem_zip hv).1, if_pos hk]
    simp
  | p :: P, w :: vs, i + 1, m, nd, h1, h2, hk => by
    show bindL kindOf ((p, w) :: P.zip vs) m x = _
    unfold bindL
    exact bindL_get (i := i) (List.nodup_cons.mp nd).2 (by simpa using h1) (by simpa using h2) hk
theorem bindC_get {kindOf : Str → Option NameKind} {x : Str} {v : Value} : ∀ {P : List Str} {vs : List Value} {i : Nat} {m : Str → Option Value}, P.Nodup → P[i]? = some x → vs[i]? = some v → kindOf x ≠ some .local →
    bindC kindOf (P.zip vs) m x = some v
  | [], _, _, _, _, h, _, _ => by simp at h
  | _ :: _, [], _, _, _, _, h, _ => by simp at h
  | p :: P, w :: vs, 0, m, nd, h1, h2, hk => by
    simp at h1 h2; subst h1; subst h2
    show bindC kindOf ((p, w) :: P.zip vs) m p = _
    unfold bindC
    rw [bindC_out fun v hv => (List.nodup_cons.mp nd).1 (List.of_mem_zip hv).1, if_neg hk]
    simp
  | p :: P, w :: vs, i + 1, m, nd, h1, h2, hk => by
    show bindC kindOf ((p, w) :: P.zip vs) m x = _
    unfold bindC
    exact bindC_get (i := i) (List.nodup_cons.mp nd).2 (by simpa using h1) (by simpa using h2) hk
def start (N : List Str) (vs : List V) : St := vs.map some ++ List.replicate (N.length - vs.length) none
def cxOf (CX : CXT) (P : Program) (w : World) (K : PySem.W.Frag) (mg : Str → Option Value) (base : Heap) (N : List Str) (qual : Str) (scope : Scope) (f : Addr) (cd : Value) (A : Around) (outer : List Env) (s : Shared) (H : Hp) (E : XK) : Cx where
  prog := P
  w := w
  K := K
  mg := mg
  base := base
  A := A.deeper (envOfC qual scope s.heap.objs.size f cd)
  N := N
  s₀ := s
  H₀ := H
  env := envOfC qual scope s.heap.objs.size f cd
  outer := outer
  stack := envOfC qual scope s.heap.objs.size f cd :: outer
  ex := []
  calm := true
  fn := fun _ => true
  pn := []
  xe := fun e s' => wpAny (model P w) (A.deeper (envOfC qual scope s.heap.objs.size f cd)) (leaving (envOfC qual scope s.heap.objs.size f cd) e) (fun _ s'' => CX outer H s E e s'') (fun e' s'' => CX outer H s E e' s'') s'
theorem cell_has {sc : Scope} {n : Nat} {x : Str} (h : sc.names.lookup x = some .cell) : ∃ c, (cellsFrom n sc.names []).lookup x = some c := by
  have q := PySem.W.cellsFrom_some sc.names n [] (.inl h)
  exact Option.isSome_iff_exists.mp q
theorem inv_start {CX : CXT} {P : Program} {w : World} {K : PySem.W.Frag} {mg : Str → Option Value} {base : Heap} {N ps : List Str} {qual : Str} {scope : Scope} {f : Addr} {cd : Value} {A : Around} {outer : List Env} {s s1 : Shared} {H : Hp} {E : XK} {us : List Value} {vs : List V}
    (S : FnScope N ps scope) (hd : A.handled = none) (e0 : Env0 P w K mg base A outer s H) (hl : vs.length = ps.length) (r : Vals vs us)
    (x : InCallC s s.heap.objs.size (bindL (envOfC qual scope s.heap.objs.size f cd).kindOf (ps.zip us) fun _ => none) (cellsFrom (s.heap.objs.size + 1) scope.names []) (bindC (envOfC qual scope s.heap.objs.size f cd).kindOf (ps.zip us) fun _ => none) s1) :
    Inv (cxOf CX P w K mg base N qual scope f cd A outer s H E) [] (start N vs) H s1 := by
  have hpl : ps.length ≤ N.length := by have := congrArg List.length S.pre; rw [List.length_take] at this; omega
  obtain ⟨h1, tk, rfl, hk⟩ := x.done
  have noA : ∀ b : Addr, b ∉ (cxOf CX P w K mg base N qual scope f cd A outer s H E).ex := fun b z => absurd (show b ∈ ([] : List Addr) from z) (by simp)
  refine ⟨⟨e0.mod, S.kind, rfl, rfl, Nat.le_refl _, fun y z c h1 h2 => ?_, fun y hy => ?_, fun y c _ h => ?_, fun _ => hd, Around.frames_deeper e0.frames, .inr ⟨rfl, rfl⟩, fun b z => absurd z (noA b), e0.bs, e0.bsz, fun b _ _ => noA b, fun b z => absurd z (noA b), e0.funs, e0.frf⟩,
    rfl, e0.bare, Un.kept hk, ⟨_, x.toInCall.ns, fun i y v h1 h2 h3 => ?_⟩, fun y c h => ⟨_, x.cell y c h⟩, e0.hok.fresh (Nat.le_refl _), fun y c h => ?_, fun p hp => absurd (show p ∈ ([] : List (Addr × Obj)) from hp) (by simp), e0.hok.kept hk, ?_⟩
  · exact name_of_addr x.apart (PySem.mem_of_lookup h1) (PySem.mem_of_lookup h2)
  · have hy : scope.names.lookup y = some .cell ∨ scope.names.lookup y = some .free := hy
    rcases hy with hy | hy
    · exact cell_has hy
    · exact absurd rfl (S.nofree _ (PySem.mem_of_lookup hy))
  · exact Nat.le_of_lt (x.above y c (PySem.mem_of_lookup h))
  · have hi : i < vs.length := by
      unfold start at h2
      by_cases hi : i < vs.length
      · exact hi
      · rw [List.getElem?_append_right (by simpa using hi)] at h2
        rw [List.getElem?_replicate] at h2
        split at h2 <;> cases h2
    have ha : vs[i]? = some v := by
      unfold start at h2
      rw [List.getElem?_append_left (by simpa using hi), List.getElem?_map] at h2
      cases e : vs[i]? with
      | none => rw [e] at h2; cases h2
      | some a => rw [e] at h2; cases h2; rfl
    obtain ⟨u, hu, rv⟩ := r.get ha
    have hp : ps[i]? = some y := by
      rw [← S.pre, List.getElem?_take_of_lt (by omega)]; exact h1
    have ndP : ps.Nodup := by rw [← S.pre]; exact S.nd.sublist (List.take_sublist _ _)
    refine ⟨u, rv, ?_⟩
    rcases S.par y (List.mem_of_getElem? hp) with k | k
    · exact .inl ⟨k, bindL_get ndP hp hu k⟩
    · obtain ⟨c, e⟩ := cell_has (n := s.heap.objs.size + 1) k
      refine .inr ⟨.inl k, c, e, ?_⟩
      have q := x.cell y c e
      rw [bindC_get ndP hp hu (by show scope.names.lookup y ≠ _; rw [k]; decide)] at q
      exact q
  · exact e0.hok.fresh (Nat.le_of_lt (x.above y c (PySem.mem_of_lookup h)))
  · unfold start
    show _ = N.length
    rw [List.length_append, List.length_map, List.length_replicate]
    omega
theorem fn_of {CX : CXT} {P : Program} {w : World} {K : PySem.W.Frag} {mg : Str → Option Value} {base : Heap} {k : Nat} {f : Addr} {name qual : Str} {params : Arguments} {body : List Stmt} {scope : Scope} {dV kV doc pm cdv ct oc : Value} {an od : Option Addr}
    {osl : Array (Option Value)} {N ps : List Str} {sp : Sp} (lk : K.lookup f = some ⟨oc, od, .func (PySem.W.fnOf name qual params body scope dV kV doc pm an cdv ct), osl⟩) (hcd : PySem.W.codeIn K cdv qual = true) (S : FnScope N ps scope)
    (len : ∀ vs H Q E, sp vs H Q E → vs.length = ps.length)
    (hbody : ∀ (A : Around) (outer : List Env) (s : Shared) (H : Hp) (vs : List V) (Q : VK) (E : XK), Room k (A.deeper (envOfC qual scope s.heap.objs.size f cdv)) → sp vs H Q E →
      ∃ t, PSs (cxOf CX P w K mg base N qual scope f cdv A outer s H E) body t ∧ t { nx := fun _ H' => Q .non H', rt := Q } (start N vs) H) :
    FnOk P w K mg base CX (k + 1) f (PySem.W.fnOf name qual params body scope dV kV doc pm an cdv ct) ps sp := by
  refine ⟨len, fun A outer s H args us vs Q E hr e0 hb r hsp => ?_⟩
  have hl := len _ _ _ _ hsp
  have KX : K.In s.heap := e0.mod.kin.keeps fun b o e => (e0.bs b o e).1
  have lim : s.heap.NoLimit := e0.mod.nolimit.keeps fun b o e => (e0.bs b o e).1
  have hkind : ∀ y ∈ ps.zip us, scope.names.lookup y.1 = some .local ∨ (scope.names.lookup y.1 = some .cell ∧ ((cellsFrom (s.heap.objs.size + 1) scope.names []).lookup y.1).isSome = true) := fun ⟨n, v⟩ hy => by
    rcases S.par n (List.of_mem_zip hy).1 with q | q
    · exact .inl q
    · exact .inr ⟨q, PySem.W.cellsFrom_some _ _ _ (.inl q)⟩
  refine codeAny_call_function hr.depth (KX _ _ lk) rfl S.co S.gen rfl (PySem.W.codeRec_of KX hcd) (hb _ _ _ _ ?_)
  refine wpAny_newFunctionEnv_cells S.kind hkind fun env he s1 x => ?_
  subst he
  refine ⟨lim.keeps x.toInCall.keep, codeAny_func ?_⟩
  obtain ⟨t, ht, hq⟩ := hbody A outer s H vs Q E (hr.deeper _) hsp
  have I : Inv (cxOf CX P w K mg base N qual scope f cdv A outer s H E) [] (start N vs) H s1 := inv_start S hr.hd e0 hl r x
  refine wpAny_mono (ht [] s1 (start N vs) H _ I hq) (fun fl s' hs => ?_) fun e s' hs => hs
  have fin : ∀ {σ' : St} {H' : Hp} {v : V} {u : Value}, Inv (cxOf CX P w K mg base N qual scope f cdv A outer s H E) [] σ' H' s' → RelV v u → Q v H' → CE outer P w H s Q u s' :=
    fun {σ' H' v u} J rv q => ⟨v, H', J.os, J.bare, J.base, J.hok, rv, q⟩
  cases fl with
  | ret u =>
    obtain ⟨v, σ', H', J, rv, q⟩ := hs
    exact fin J rv q
  | next =>
    obtain ⟨σ', H', J, q⟩ := hs
    exact fin (v := V.non) (u := Value.none) J rfl q
  | brk =>
    obtain ⟨_, _, _, q⟩ := hs
    exact False.elim q
  | cont =>
    obtain ⟨_, _, _, q⟩ := hs
    exact False.elim q
end L2
namespace L2
open PySem PySem.Spec PyProof.Rows
section
variable {X : Cx} {x : Str} {p pos : Pos} {e : Expr} {es : List Expr} {t : TA} {id T : String} {r : List V → Hp → VK → Prop}
def tCB (r : List V → Hp → VK → Prop) (t : TA) : TE := fun σ H Q => t σ H fun vs H1 => r vs H1 Q
theorem pe_callB (hc : CallR X (.builtin id) r) (hg : Gl X x) (hm : X.mg x = none) (hv : bootBuiltins x = some (.builtin id)) (ha : PA X (e :: es) t) (hn : x ≠ "__name__" := by decide) (hdb : (x == ("__debug__" : Str)) = false := by decide)
    (he : starEach (e :: es) X.env = (false, eval e X.env) :: starEach es X.env := by rfl) (hpl : (backTo pos (starEach es X.env)).any (·.1) = false := by rfl) : PE X (.Call (.Name x p) (e :: es) [] pos) (tCB r t) := by
  intro pins s σ H Q I h
  refine wpAny_Call_Name_kw (ld_blt I hg hm hv ?_ hn hdb)
  exact PyProof.Rows.callWith_builtin1 (thn (ha pos pins s σ H _ I h) fun us s1 ⟨vs, H1, I1, r1, q1⟩ => hc pins s1 σ H1 vs us Q I1 r1 q1) he hpl
theorem pe_callTy (hc : CallR X (.type T) r) (hg : Gl X x) (hm : X.mg x = none) (hv : bootBuiltins x = some (.type T)) (ha : PA X (e :: es) t) (hn : x ≠ "__name__" := by decide) (hdb : (x == ("__debug__" : Str)) = false := by decide)
    (he : starEach (e :: es) X.env = (false, eval e X.env) :: starEach es X.env := by rfl) (hpl : (backTo pos (starEach es X.env)).any (·.1) = false := by rfl) : PE X (.Call (.Name x p) (e :: es) [] pos) (tCB r t) := by
  intro pins s σ H Q I h
  refine wpAny_Call_Name_kw (ld_blt I hg hm hv ?_ hn hdb)
  exact PyProof.Rows.callWith_type1 (thn (ha pos pins s σ H _ I h) fun us s1 ⟨vs, H1, I1, r1, q1⟩ => hc pins s1 σ H1 vs us Q I1 r1 q1) he hpl
end
end L2
namespace HT
open PySem PyProof.Rows
def lexLt : List Int → List Int → Bool
  | [], [] => false
  | [], _ :: _ => true
  | _ :: _, [] => false
  | x :: xs, y :: ys => if x = y then lexLt xs ys else decide (x < y)
section
open PySem.SeqAt
open PySem.AutoSeq1 (wpAny_loadPart')
open PySem.MeetsSeq PySem.MeetsSeq2 PySem.MeetsSeq3
end
section
variable {prog : Program} {w : World} {A : Around} {E : Value → Shared → Prop} {s : Shared}
theorem cat_tup {t b : Addr} {vs ws : List Value} {Q : Value → Shared → Prop} (ht : IsTup s.heap t vs.toArray) (hb : IsTup s.heap b ws.toArray) (hv : vs ≠ [])
    (h1 : ws = [] → Q (.ref t) s) (h2 : ws ≠ [] → Q (.ref s.heap.objs.size) { s with heap := s.heap.push { cls := .type "tuple", data := .seq (vs ++ ws).toArray } })
    (hsz : vs.length + ws.length ≤ sizeLine) : wpAny (model prog w) A (binaryOp .Add (.ref t) (.ref b)) Q E s := by
  obtain ⟨⟨cls, dd, data, sl⟩, ho, hc, n, hd⟩ := id ht
  obtain ⟨⟨cls2, dd2, data2, sl2⟩, ho2, hc2, n2, hd2⟩ := id hb
  simp only at hc hd hc2 hd2
  subst hc hd hc2 hd2
  have e : vs.toArray ++ ws.toArray = (vs ++ ws).toArray := by simp
  by_cases hw : ws = []
  · exact concat_meets ⟨_, ho, rfl⟩ ⟨_, ho2, rfl⟩ noFill_tuple_add seq_tuple_add PySem.F.slot_tuple_add PySem.F.entry_tuple_add (PySem.F.args_tuple_add_2 _ _)
      (tuple_addW1 t b vs.toArray ws.toArray n n2 dd dd2 sl sl2 (by simpa using hv) (by simp [hw])) ⟨ho, ho2, h1 hw⟩
  · refine concat_meets ⟨_, ho, rfl⟩ ⟨_, ho2, rfl⟩ noFill_tuple_add seq_tuple_add PySem.F.slot_tuple_add PySem.F.entry_tuple_add (PySem.F.args_tuple_add_2 _ _)
      (tuple_addW2 t b vs.toArray ws.toArray n n2 dd dd2 sl sl2 (by simpa using hv) (by simpa using hw) (by rw [List.size_toArray, List.size_toArray]; exact hsz)) ⟨ho, ho2, ?_⟩
    rw [e]
    exact h2 hw
def sIx (n d : Nat) : Option Int → Nat
  | none => d
  | some v => if v < 0 then (v + (n : Int)).toNat else min v.toNat n
end
end HT
namespace L2
open PySem PySem.Spec PyProof.Rows
abbrev TO := St → Hp → (Option Int → Hp → Prop) → Prop
def PO (X : Cx) (e : Option Expr) (t : TO) : Prop :=
  ∀ (pins : List (Addr × Obj)) (s : Shared) (σ : St) (H : Hp) (Q : Option Int → Hp → Prop), Inv X pins σ H s → t σ H Q →
    wpAny (model X.prog X.w) X.A (evalPart e X.env) (fun u s' => ∃ o H', Inv X pins σ H' s' ∧ IsPart u o ∧ Q o H') X.xe s
def tNoPart : TO := fun _ H Q => Q none H
def tPart (t : TE) : TO := fun σ H Q => t σ H fun x H1 => ∃ i, x = .int i ∧ Q (some i) H1
theorem intsAre_of {ns : List Int} : ∀ {us : List Value}, Vals (ns.map V.int) us → IntsAre us ns := by
  induction ns with
  | nil => intro us r; rw [List.map_nil] at r; cases r; exact .nil
  | cons n ns ih =>
    intro us r
    rw [List.map_cons] at r
    cases r with
    | cons r1 r2 =>
      obtain ⟨t, e⟩ := r1
      subst e
      exact .cons n t (ih r2)
section
variable {X : Cx} {e : Expr} {te : TE} {lo hi : Option Expr} {tl th : TO} {pos p2 : Pos}
theorem po_none : PO X none tNoPart := by
  intro pins s σ H Q I h
  rw [evalPart_none]
  exact wpAny_pure ⟨none, H, I, .none, h⟩
theorem po_some (h : PE X e te) : PO X (some e) (tPart te) := by
  intro pins s σ H Q I hw
  rw [evalPart_some]
  refine thn (h pins s σ H _ I hw) fun u s1 ⟨x, H1, I1, r1, q1⟩ => ?_
  obtain ⟨i, rfl, q⟩ := q1
  obtain ⟨t, rfl⟩ := r1
  exact ⟨some i, H1, I1, .int i t, q⟩
def SlR (X : Cx) (r : V → Option Int → Option Int → Hp → VK → Prop) : Prop :=
  ∀ (pins : List (Addr × Obj)) (s : Shared) (σ : St) (H : Hp) (x : V) (v vl vu : Value) (lo hi : Option Int) (sl : Addr) (Q : VK), Inv X pins σ H s → RelV x v → s.heap.IsSliceOf sl vl vu .none → IsPart vl lo → IsPart vu hi → r x lo hi H Q →
    ∃ T id, typeLookup (.type T) "__getitem__" = pure (some (.builtin id)) ∧ s.TypeIs v T ∧ wpAny (model X.prog X.w) X.A (getItem v (.ref sl)) (EP X pins σ Q) X.xe s
def tSl (r : V → Option Int → Option Int → Hp → VK → Prop) (te : TE) (tl th : TO) : TE := fun σ H Q => te σ H fun x H1 => tl σ H1 fun l H2 => th σ H2 fun u H3 => r x l u H3 Q
theorem pe_slice {r : V → Option Int → Option Int → Hp → VK → Prop} (hr : SlR X r) (he : PE X e te) (hl : PO X lo tl) (hu : PO X hi th) : PE X (.Subscript e (.Slice lo hi none p2) pos) (tSl r te tl th) := by
  intro pins s σ H Q I h
  refine Subscript_ (thn (he pins s σ H _ I h) fun v s1 ⟨x, H1, I1, r1, q1⟩ => ?_)
  refine wpAny_Slice (thn (hl pins s1 σ H1 _ I1 q1) fun vl s2 ⟨l, H2, I2, pl, q2⟩ => thn (hu pins s2 σ H2 _ I2 q2) fun vu s3 ⟨u, H3, I3, pu, q3⟩ => ?_)
  rw [evalPart_none]
  refine wpAny_pure ?_
  have I4 : Inv X pins σ H3 { s3 with heap := s3.heap.push { cls := .type "slice", data := .fields #[vl, vu, .none] } } := I3.kept (t' := s3.toks) fun b ob q => Heap.get?_push_of_some _ q
  obtain ⟨T, id, hT, ht, hg⟩ := hr pins { s3 with heap := s3.heap.push { cls := .type "slice", data := .fields #[vl, vu, .none] } } σ H3 x v vl vu l u s3.heap.objs.size Q I4 r1 (Heap.IsSliceOf.new ..) pl pu q3
  show wpAny (model X.prog X.w) X.A (subscriptTail e (.Slice lo hi none p2) v (.ref s3.heap.objs.size)) (EP X pins σ Q) X.xe { s3 with heap := s3.heap.push { cls := .type "slice", data := .fields #[vl, vu, .none] } }
  exact tail_any (ops := [.ref s3.heap.objs.size, v]) ht hT hg (by with_unfolding_all rfl)
def cutV (xs : List V) (lo hi : Option Int) : List V := (xs.drop (HT.sIx xs.length 0 lo)).take (HT.sIx xs.length xs.length hi - HT.sIx xs.length 0 lo)
def rSlT (K : PySem.W.Frag) : V → Option Int → Option Int → Hp → VK → Prop := fun x lo hi H Q => ∃ a xs, x = .ref a ∧ SqT K H a xs ∧
  ¬ (HT.sIx xs.length 0 lo = 0 ∧ HT.sIx xs.length xs.length hi = xs.length) ∧ ∀ p, H p = none → Q (.ref p) (upd H p (.tup (cutV xs lo hi)))
def rLtT (K : PySem.W.Frag) : R2 := fun x y H Q => ∃ a b ns ms, x = .ref a ∧ y = .ref b ∧ SqT K H a (ns.map V.int) ∧ SqT K H b (ms.map V.int) ∧ Q (.bl (HT.lexLt ns ms)) H
def rCatT (K : PySem.W.Frag) : R2 := fun x y H Q => ∃ a b xs ys, x = .ref a ∧ y = .ref b ∧ SqT K H a xs ∧ SqT K H b ys ∧ xs ≠ [] ∧ xs.length + ys.length ≤ sizeLine ∧
  (ys = [] → Q (.ref a) H) ∧ (ys ≠ [] → ∀ p, H p = none → Q (.ref p) (upd H p (.tup (xs ++ ys))))
theorem Vals.nil_iff {xs : List V} {us : List Value} (r : Vals xs us) : us = [] ↔ xs = [] := by
  cases r with
  | nil => simp
  | cons _ _ => simp
theorem op_catT : OpR X (binaryOp .Add) (rCatT X.K) := by
  intro pins s σ H x y v u Q I rx ry h
  obtain ⟨a, b, xs, ys, rfl, rfl, ha, hb, hx, hz, q1, q2⟩ := h
  cases rx
  cases ry
  obtain ⟨its, r1, p1, _⟩ := I.tuple ha
  obtain ⟨its2, r2, p2, _⟩ := I.tuple hb
  refine HT.cat_tup p1 p2 (fun z => hx (r1.nil_iff.mp z)) (fun z => ⟨.ref a, H, I, rfl, q1 (r2.nil_iff.mp z)⟩) (fun z => ?_) (by rw [← r1.length, ← r2.length]; exact hz)
  refine ⟨.ref s.heap.objs.size, _, I.laid (t' := s.toks) (o := .tup (xs ++ ys)) (fun b ob q => Heap.get?_push_of_some _ q) (Nat.le_refl _) ?_, rfl, q2 (fun w => z (r2.nil_iff.mpr w)) _ (I.hok.fresh (Nat.le_refl _))⟩
  exact ⟨by rw [List.length_append]; exact hz, _, r1.append r2, IsTup.new _ _⟩
end
end L2
namespace L2
open PySem PySem.Spec PyProof.Rows
def ixN (n : Nat) (i : Int) : Option Nat := if 0 ≤ i then (if i < n then some i.toNat else none) else if -(n : Int) ≤ i then some (i + n).toNat else none
def atI {α : Type} (xs : List α) (i : Int) : Option α := (ixN xs.length i).bind fun j => xs[j]?
theorem ixN_seq {n : Nat} {i : Int} {j : Nat} (h : ixN n i = some j) : seqIndex? i n = some j ∧ j < n ∧ -(n : Int) ≤ i ∧ i < n := by
  unfold ixN at h
  by_cases h0 : 0 ≤ i
  · rw [if_pos h0] at h
    by_cases h1 : i < n
    · rw [if_pos h1] at h
      have e : i.toNat = j := Option.some.inj h
      exact ⟨by rw [seqIndex_of h0 h1, e], by omega, by omega, h1⟩
    · rw [if_neg h1] at h; cases h
  · rw [if_neg h0] at h
    by_cases h1 : -(n : Int) ≤ i
    · rw [if_pos h1] at h
      have e : (i + n).toNat = j := Option.some.inj h
      exact ⟨by rw [seqIndex_neg (by omega) h1, e], by omega, h1, by omega⟩
    · rw [if_neg h1] at h; cases h
theorem atI_get {α : Type} {xs : List α} {i : Int} {v : α} (h : atI xs i = some v) : ∃ j, seqIndex? i xs.length = some j ∧ xs[j]? = some v ∧ j < xs.length ∧ -(xs.length : Int) ≤ i ∧ i < xs.length := by
  unfold atI at h
  cases e : ixN xs.length i with
  | none => rw [e] at h; cases h
  | some j =>
    rw [e] at h
    obtain ⟨h1, h2, h3, h4⟩ := ixN_seq e
    exact ⟨j, h1, h, h2, h3, h4⟩
theorem atI_nat {α : Type} {xs : List α} {j : Nat} {v : α} (h : xs[j]? = some v) : atI xs (j : Int) = some v := by
  have hj : j < xs.length := (List.getElem?_eq_some_iff.mp h).1
  have e : ixN xs.length (j : Int) = some j := by
    unfold ixN
    rw [if_pos (by omega), if_pos (by omega)]; simp
  unfold atI; rw [e]; exact h
def PlainIx (b : Expr) : Prop := ∀ o i, subscripted b false o i = operate [o, i] (getItem o i)
def IxR (X : Cx) (r : R2) : Prop :=
  ∀ (value slice : Expr) (pins : List (Addr × Obj)) (s : Shared) (σ : St) (H : Hp) (x y : V) (v u : Value) (Q : VK), Inv X pins σ H s → RelV x v → RelV y u → r x y H Q →
    subscripted slice false v u = operate [v, u] (getItem v u) → wpAny (model X.prog X.w) X.A (subscriptTail value slice v u) (EP X pins σ Q) X.xe s
def MtR (X : Cx) (id : String) (r : V → List V → Hp → VK → Prop) : Prop :=
  ∀ (pins : List (Addr × Obj)) (s : Shared) (σ : St) (H : Hp) (x : V) (xs : List V) (v : Value) (us : List Value) (Q : VK), Inv X pins σ H s → RelV x v → Vals xs us → r x xs H Q →
    wpAny (model X.prog X.w) X.A (call (.builtin id) (v :: us)) (EP X pins σ Q) X.xe s
section
variable {X : Cx} {a b : Expr} {ta tb : TE} {pos : Pos}
theorem pe_ix {r : R2} (hr : IxR X r) (ha : PE X a ta) (hb : PE X b tb) (hs : PlainIx b) : PE X (.Subscript a b pos) (tOp r ta tb) := by
  intro pins s σ H Q I h
  exact Subscript_ (binT ha hb I h fun v u s2 x y H2 I2 rx ry q => hr a b pins s2 σ H2 x y v u Q I2 rx ry q (hs _ _))
def rIxL (K : PySem.W.Frag) : R2 := fun x y H Q => ∃ p xs i v, x = .ref p ∧ y = .int i ∧ SqL K H p xs ∧ atI xs i = some v ∧ Q v H
def rIxT (K : PySem.W.Frag) : R2 := fun x y H Q => ∃ p xs i v, x = .ref p ∧ y = .int i ∧ SqT K H p xs ∧ atI xs i = some v ∧ Q v H
def rIxS : R2 := fun x y H Q => ∃ z i c, x = .str z ∧ y = .int i ∧ z.length ≤ sizeLine ∧ atI z.cps.toList i = some c ∧ Q (.str ⟨#[c]⟩) H
theorem ix_list : IxR X (rIxL X.K) := by
  intro value slice pins s σ H x y v u Q I rx ry h hs
  obtain ⟨p, xs, i, z, rfl, rfl, hq, he, q⟩ := h
  cases rx
  obtain ⟨t, rfl⟩ := ry
  obtain ⟨its, r, pl, hz⟩ := I.list hq
  obtain ⟨j, h1, h2, h3, h4, h5⟩ := atI_get he
  obtain ⟨w, ew, rw'⟩ := r.get h2
  have hl := r.length
  have hn := line63
  have fin : EP X pins σ Q w s := ⟨z, H, I, rw', q⟩
  by_cases h0 : 0 ≤ i
  · have hj : i.toNat = j := by
      rw [seqIndex_of h0 h5] at h1
      exact Option.some.inj h1
    exact item_listR pl.isList h0 (by omega) (by rw [hj]; simpa using ew) fin hs
  · have hj : (i + (its.toArray.size : Int)).toNat = j := by
      rw [seqIndex_neg (by omega) h4] at h1
      rw [List.size_toArray, ← hl]
      exact Option.some.inj h1
    exact subscriptTail_builtinR (x := w) pl.isList.typeIs slot_list_getitem.lookup
      (wpAny_getItem_list_neg (Q := fun r s' => r = w ∧ EP X pins σ Q r s') pl.isList (by omega) (by rw [List.size_toArray] <;> omega) (by omega) (by rw [hj]; simpa using ew) ⟨rfl, fin⟩) hs
def rIx (K : PySem.W.Frag) : R2 := fun x y H Q => rIxL K x y H Q ∨ rIxT K x y H Q ∨ rIxS x y H Q
theorem mapSeq_set (its : List Value) (n j : Nat) (u : Value) : Obj.mapSeq (·.setIfInBounds j u) { cls := .type "list", data := .seq its.toArray n } = { cls := .type "list", data := .seq (its.set j u).toArray n } := by
  simp [Obj.mapSeq]
theorem Inv.lst {pins : List (Addr × Obj)} {σ : St} {H : Hp} {s : Shared} {p : Addr} {xs : List V} (I : Inv X pins σ H s) (h : H p = some (.lst xs)) :
    ∃ (its : List Value) (n : Nat), Vals xs its ∧ s.heap.get? p = some { cls := .type "list", data := .seq its.toArray n } ∧ xs.length ≤ sizeLine := by
  obtain ⟨z, its, n, r, e⟩ := I.hok p _ h
  exact ⟨its, n, r, e, z⟩
theorem Inv.lstUpd {pins : List (Addr × Obj)} {σ : St} {H : Hp} {s : Shared} {p : Addr} {xs ys : List V} {its its' : List Value} {n n' : Nat} {f : Obj → Obj} (I : Inv X pins σ H s) (h : H p = some (.lst xs))
    (ho : s.heap.get? p = some { cls := .type "list", data := .seq its.toArray n }) (hf : f { cls := .type "list", data := .seq its.toArray n } = { cls := .type "list", data := .seq its'.toArray n' }) (r : Vals ys its') (hz : ys.length ≤ sizeLine) (t : Nat) :
    Inv X pins σ (upd H p (.lst ys)) { s with heap := s.heap.update p f, toks := t } := by
  have e : (s.heap.update p f).get? p = some { cls := .type "list", data := .seq its'.toArray n' } := by
    rw [Heap.get?_update_self f ho (by rw [hf] <;> rfl), hf]
  refine I.write (x := p) (e := p) (by rw [h]; trivial) (.inl rfl) (fun b u hb q => (Heap.get?_update_other _ _ (Ne.symm hb)).trans q) ⟨_, e⟩ ?_
  exact ⟨hz, its', n', r, e⟩
def rSetL : V → V → V → Hp → (Hp → Prop) → Prop := fun o i v H Q => ∃ p xs k j, o = .ref p ∧ i = .int k ∧ H p = some (.lst xs) ∧ ixN xs.length k = some j ∧ Q (upd H p (.lst (xs.set j v)))
theorem set_list : PSet X rSetL := by
  intro pins s σ H o i v ov iv u Q I ro ri rv h
  obtain ⟨p, xs, k, j, rfl, rfl, hp, hj, q⟩ := h
  cases ro
  obtain ⟨t, rfl⟩ := ri
  obtain ⟨its, n, r, ho, hz⟩ := I.lst hp
  obtain ⟨h1, h2, h3, h4⟩ := ixN_seq hj
  have hl := r.length
  have hn := line63
  have I' : Inv X pins σ (upd H p (.lst (xs.set j v))) { s with heap := s.heap.update p (Obj.mapSeq (·.setIfInBounds j u)) } :=
    I.lstUpd hp ho (mapSeq_set its n j u) (r.set rv j) (by rw [List.length_set]; exact hz) s.toks
  by_cases h0 : 0 ≤ k
  · have hk : k.toNat = j := by
      rw [seqIndex_of h0 h4] at h1
      exact Option.some.inj h1
    exact PySem.W.ki_setAt ho h0 (by omega) (by rw [List.size_toArray, ← hl]; exact h4) (by rw [hk]; exact ⟨_, I', q⟩)
  · have hk : (k + (its.toArray.size : Int)).toNat = j := by
      rw [seqIndex_neg (by omega) h3] at h1
      rw [List.size_toArray, ← hl]
      exact Option.some.inj h1
    exact PySem.W.ki_setBack ho (by omega) (by rw [List.size_toArray, ← hl]; exact h3) (by omega) (by rw [hk]; exact ⟨_, I', q⟩)
def rSlL (K : PySem.W.Frag) : V → Option Int → Option Int → Hp → VK → Prop := fun x lo hi H Q => ∃ a xs, x = .ref a ∧ SqL K H a xs ∧ ∀ p, H p = none → Q (.ref p) (upd H p (.lst (cutV xs lo hi)))
def flatV : V → Bool
  | .non => true
  | .bl _ => true
  | .int _ => true
  | .str _ => true
  | _ => false
def eqV : V → V → Bool
  | .non, .non => true
  | .bl a, .bl b => a == b
  | .bl a, .int b => (if a then 1 else 0) == b
  | .int a, .bl b => a == (if b then 1 else 0)
  | .int a, .int b => a == b
  | .str a, .str b => a == b
  | _, _ => false
def eqU (x : V) (u : Value) : Bool := match u with
  | .none => eqV .non x
  | .bool b => eqV (.bl b) x
  | .int i _ => eqV (.int i) x
  | .str z _ => eqV (.str z) x
  | _ => false
def inV (x : V) (xs : List V) : Bool := xs.any fun y => eqV y x
def rIn (K : PySem.W.Frag) (neg : Bool) : R2 := fun x y H Q => ∃ p xs, y = .ref p ∧ (SqL K H p xs ∨ SqT K H p xs) ∧ flatV x = true ∧ xs.all flatV = true ∧ Q (.bl (if neg then !inV x xs else inV x xs)) H
theorem call_len_seq : CallR X (.builtin "len") (fun xs H Q => ∃ p ys, xs = [.ref p] ∧ (SqL X.K H p ys ∨ SqT X.K H p ys) ∧ Q (.int ys.length) H) := by
  intro pins s σ H xs us Q I r h
  obtain ⟨p, ys, rfl, hq, q⟩ := h
  obtain ⟨u, rfl, rx⟩ := vals1 r
  cases rx
  have hn := line63
  rcases hq with hq | hq
  · obtain ⟨its, r', pl, hz⟩ := I.list hq
    have hlen := r'.length
    exact Calls.call_len_list pl.isList (by simp only [List.size_toArray] <;> omega) ⟨.int ys.length, H, I.tok _, ⟨s.toks + 1, by rw [List.size_toArray, hlen]⟩, q⟩
  · obtain ⟨its, r', pl, hz⟩ := I.tuple hq
    have hlen := r'.length
    exact len_tuple pl (by simp only [List.size_toArray] <;> omega) ⟨.int ys.length, H, I.tok _, ⟨s.toks + 1, by rw [List.size_toArray, hlen]⟩, q⟩
theorem call_len_str : CallR X (.builtin "len") (fun xs H Q => ∃ z, xs = [.str z] ∧ z.length ≤ sizeLine ∧ Q (.int z.length) H) := by
  intro pins s σ H xs us Q I r h
  obtain ⟨z, rfl, hz, q⟩ := h
  obtain ⟨u, rfl, t, rfl⟩ := vals1 r
  have hn := line63
  exact len_str (by omega) ⟨.int z.length, H, I.tok _, ⟨_, rfl⟩, q⟩
theorem call_tuple_of : CallR X (.type "tuple") (fun xs H Q => ∃ p ys, xs = [.ref p] ∧ ((SqL X.K H p ys ∧ ∀ l, H l = none → Q (.ref l) (upd H l (.tup ys))) ∨ (SqT X.K H p ys ∧ Q (.ref p) H))) := by
  intro pins s σ H xs us Q I r h
  obtain ⟨p, ys, rfl, h⟩ := h
  obtain ⟨u, rfl, rx⟩ := vals1 r
  cases rx
  rcases h with ⟨hq, q⟩ | ⟨hq, q⟩
  · obtain ⟨its, r', pl, hz⟩ := I.list hq
    have hlen := r'.length
    refine call_tuple_list pl.isList (fun h' kp => ?_) (by simp only [List.size_toArray] <;> omega)
    have I1 : Inv X pins σ H { s with heap := h' } := I.kept (t' := s.toks) kp
    have I2 : Inv X pins σ (upd H h'.objs.size (.tup ys)) { s with heap := h'.push { cls := .type "tuple", data := .seq its.toArray } } :=
      I1.laid (t' := s.toks) (fun b o e => Heap.get?_push_of_some _ e) (Nat.le_refl _) (show ObjOk X.prog X.w _ _ _ (.tup ys) from ⟨hz, its, r', IsTup.new _ _⟩)
    exact ⟨.ref h'.objs.size, _, I2, rfl, q _ (I1.hok.fresh (Nat.le_refl _))⟩
  · obtain ⟨its, r', pl, hz⟩ := I.tuple hq
    exact call_tuple_same pl ⟨.ref p, H, I, rfl, q⟩
def tyV (K : PySem.W.Frag) (T : String) (x : V) (H : Hp) : Prop := match x with
  | .str _ => T = "str"
  | .int _ => T = "int"
  | .ref p => (T = "list" ∧ ∃ xs, SqL K H p xs) ∨ (T = "tuple" ∧ ∃ o, K.lookup p = some o ∧ o.cls = .type "tuple" ∧ o.dict = none) ∨
      (T = "dict" ∧ ((∃ kvs, H p = some (.dK kvs)) ∨ ∃ kvs, H p = some (.dT kvs))) ∨ (T = "set" ∧ ∃ S n, H p = some (.set S n))
  | _ => False
theorem tyV_is {pins : List (Addr × Obj)} {σ : St} {H : Hp} {s : Shared} {T : String} {x : V} {v : Value} (I : Inv X pins σ H s) (r : RelV x v) (ty : tyV X.K T x H) :
    s.TypeIs v T ∧ ∀ a, v = .ref a → ∃ ob, s.heap.get? a = some ob ∧ ob.dict = none := by
  cases x with
  | str z =>
    obtain ⟨t, rfl⟩ := r
    cases (show T = "str" from ty)
    exact ⟨typeIs_str s z t, fun _ e => nomatch e⟩
  | int i =>
    obtain ⟨t, rfl⟩ := r
    cases (show T = "int" from ty)
    exact ⟨typeIs_int s i t, fun _ e => nomatch e⟩
  | ref p =>
    cases r
    rcases ty with ⟨rfl, xs, hq⟩ | ⟨rfl, o, hk, hc, hd⟩ | ⟨rfl, hk⟩ | ⟨rfl, S, n, hk⟩
    · obtain ⟨its, _, pl, _⟩ := I.list hq
      refine ⟨pl.isList.typeIs, fun a e => ?_⟩
      cases e
      obtain ⟨o, n, e, c, hd, _⟩ := pl
      exact ⟨o, e, hd⟩
    · refine ⟨⟨o, I.kIn p o hk, hc⟩, fun a e => ?_⟩
      cases e
      exact ⟨o, I.kIn _ o hk, hd⟩
    · have z : ∃ o, s.heap.get? p = some o ∧ o.ExactDict := by
        rcases hk with ⟨kvs, hk⟩ | ⟨kvs, hk⟩
        · obtain ⟨_, _, _, _, o, _, _, e, ex, _⟩ := I.hok p _ hk
          exact ⟨o, e, ex⟩
        · obtain ⟨_, _, _, _, o, _, _, e, ex, _⟩ := I.hok p _ hk
          exact ⟨o, e, ex⟩
      obtain ⟨o, e, ex⟩ := z
      refine ⟨⟨o, e, ex.1⟩, fun a e2 => ?_⟩
      cases e2
      exact ⟨o, e, ex.2.1⟩
    · obtain ⟨o, _, _, _, e, ex, _⟩ := I.hok p _ hk
      refine ⟨⟨o, e, ex.1⟩, fun a e2 => ?_⟩
      cases e2
      exact ⟨o, e, ex.2.1⟩
  | _ => exact False.elim ty
def tBM0 (K : PySem.W.Frag) (T : String) (r : V → List V → Hp → VK → Prop) (to : TE) : TE := fun σ H Q => to σ H fun x H1 => tyV K T x H1 ∧ r x [] H1 Q
def tBM (K : PySem.W.Frag) (T : String) (r : V → List V → Hp → VK → Prop) (to : TE) (t : TA) : TE := fun σ H Q => to σ H fun x H1 => tyV K T x H1 ∧ t σ H1 fun xs H2 => r x xs H2 Q
variable {o e : Expr} {es : List Expr} {to : TE} {t : TA} {name : Str} {apos cpos : Pos} {T id : String} {r : V → List V → Hp → VK → Prop}
theorem pe_bm0 (pa : PlainAttrs T) (slot : Slot T name id) (hty : typeOf (.builtin id) = pure (.type "method_descriptor")) (hm : MtR X id r) (ho : PE X o to)
    (hbase : attributeBase o name X.env (eval o X.env) = eval o X.env := by rfl) (hline : (apos.endLine == cpos.line) = true := by rfl) : PE X (.Call (.Attribute o name apos) [] [] cpos) (tBM0 X.K T r to) := by
  intro pins s σ H Q I h
  refine wpAny_Call_method0_late hbase hline (thn (ho pins s σ H _ I h) fun v s1 ⟨x, H1, I1, r1, ty, q1⟩ => ?_)
  obtain ⟨h1, h2⟩ := tyV_is I1 r1 ty
  exact ⟨T, id, pa, slot, hty, h1, h2, Calls.callWith_builtin rfl (PySem.evalArgs_none (hm pins s1 σ H1 x [] v [] Q I1 r1 .nil q1))⟩
/- xs.append(e), list.index on a module's tuple .. are MtR facts of 06m -/
end
end L2
namespace L2
open PySem PySem.Spec PyProof.Rows
def MtM (X : Cx) (id : String) (r : V → List V → Hp → VK → Prop) : Prop :=
  ∀ (pins : List (Addr × Obj)) (s : Shared) (σ : St) (H : Hp) (x : V) (xs : List V) (v : Value) (us : List Value) (Q : VK), Inv X pins σ H s → RelV x v → Vals xs us → r x xs H Q →
    wpAny (model X.prog X.w) X.A (call (.builtin id) (v :: us)) (EP X pins σ Q) X.xe s
theorem Vals.one : ∀ {x : V} {us : List Value}, Vals [x] us → ∃ u, us = [u] ∧ RelV x u
  | _, _, .cons r .nil => ⟨_, rfl, r⟩
theorem Vals.two : ∀ {x y : V} {us : List Value}, Vals [x, y] us → ∃ u v, us = [u, v] ∧ RelV x u ∧ RelV y v
  | _, _, _, .cons r (.cons q .nil) => ⟨_, _, rfl, r, q⟩
theorem Vals.zero : ∀ {us : List Value}, Vals [] us → us = []
  | _, .nil => rfl
theorem Vals.rep {xs : List V} {us : List Value} (h : Vals xs us) : ∀ k : Nat, Vals (List.replicate k xs).flatten (List.replicate k us).flatten
  | 0 => .nil
  | k + 1 => by
    rw [List.replicate_succ, List.replicate_succ, List.flatten_cons, List.flatten_cons]
    exact Vals.append h (Vals.rep h k)
theorem foldl_rep (its : List Value) : ∀ (k : Nat) (acc : List Value),
    List.foldl (fun x1 x2 => x1 ++ x2) acc.toArray (List.replicate k its.toArray) = (acc ++ (List.replicate k its).flatten).toArray
  | 0, acc => by simp
  | k + 1, acc => by
    have e : acc.toArray ++ its.toArray = (acc ++ its).toArray := by simp
    have e2 : (acc ++ its) ++ (List.replicate k its).flatten = acc ++ (List.replicate (k + 1) its).flatten := by
      rw [List.replicate_succ, List.flatten_cons, List.append_assoc]
    rw [← e2, ← foldl_rep its k (acc ++ its), ← e, List.replicate_succ, List.foldl_cons]
section
variable {X : Cx} {pins : List (Addr × Obj)} {σ : St} {H : Hp} {s : Shared} {l b : Addr} {xs ys zs : List V}
theorem Inv.lset {its its' : List Value} {n : Nat} {f : Array Value → Array Value} {t' : Nat} (I : Inv X pins σ H s) (hH : H l = some (.lst xs))
    (e : s.heap.get? l = some { cls := .type "list", data := .seq its.toArray n }) (hf : f its.toArray = its'.toArray) (hv : Vals ys its') (hz : ys.length ≤ sizeLine) :
    Inv X pins σ (upd H l (.lst ys)) { s with heap := s.heap.update l (Obj.mapSeq f), toks := t' } := by
  have q := PySem.IsL.update e f
  rw [hf] at q
  refine I.write (x := l) (e := l) (by rw [hH]; exact trivial) (.inl rfl) (fun b' u hb hu => (Heap.get?_update_other s.heap (Obj.mapSeq f) (Ne.symm hb)).trans hu) ⟨_, q⟩ ?_
  exact ⟨hz, its', _, hv, q⟩
theorem Inv.lnew {its : List Value} {t' : Nat} (I : Inv X pins σ H s) (hv : Vals ys its) (hz : ys.length ≤ sizeLine) :
    Inv X pins σ (upd H s.heap.objs.size (.lst ys)) { s with heap := s.heap.push { cls := .type "list", data := .seq its.toArray }, toks := t' } :=
  I.laid (fun _ _ q => Heap.get?_push_of_some _ q) (Nat.le_refl _) ⟨hz, its, 0, hv, Heap.get?_push_size _ rfl⟩
theorem Inv.fresh (I : Inv X pins σ H s) : H s.heap.objs.size = none := I.hok.fresh (Nat.le_refl _)
theorem Inv.lstM (I : Inv X pins σ H s) (hH : H l = some (.lst xs)) : xs.length ≤ sizeLine ∧ ∃ (its : List Value) (n : Nat), Vals xs its ∧ xs.length = its.length ∧ s.heap.get? l = some { cls := .type "list", data := .seq its.toArray n } := by
  obtain ⟨z, its, n, r, e⟩ := I.hok l _ hH
  exact ⟨z, its, n, r, r.length, e⟩
end
section
variable {X : Cx}
def rAppend : V → List V → Hp → VK → Prop := fun x vs H Q => ∃ l xs y, x = .ref l ∧ vs = [y] ∧ H l = some (.lst xs) ∧ xs.length < sizeLine ∧ Q .non (upd H l (.lst (xs ++ [y])))
theorem mt_append : MtM X "list.append" rAppend := by
  intro pins s σ H x vs v us Q I rx rv h
  obtain ⟨l, xs, y, rfl, rfl, hH, hz, q⟩ := h
  cases rx
  obtain ⟨u, rfl, ru⟩ := rv.one
  obtain ⟨z, its, n, r, hl, e⟩ := I.lstM hH
  refine call_meets F.slot_list_append ⟨_, e, rfl⟩ F.entry_list_append (F.args_list_append_2 _ _) (PySem.list_append l its.toArray n u (by rw [List.size_toArray]; omega)) ⟨e, ?_⟩
  refine ⟨.non, _, I.lset (its' := its ++ [u]) hH e (by simp) (r.append (.cons ru .nil)) ?_, rfl, q⟩
  rw [List.length_append, List.length_singleton]
  omega
def rExtend : V → List V → Hp → VK → Prop := fun x vs H Q => ∃ l b xs zs, x = .ref l ∧ vs = [.ref b] ∧ H l = some (.lst xs) ∧ H b = some (.lst zs) ∧ xs.length + zs.length ≤ sizeLine ∧ Q .non (upd H l (.lst (xs ++ zs)))
def rPop : V → List V → Hp → VK → Prop := fun x vs H Q => ∃ l xs y, x = .ref l ∧ vs = [] ∧ H l = some (.lst xs) ∧ xs[xs.length - 1]? = some y ∧ Q y (upd H l (.lst xs.dropLast))
def rPopAt : V → List V → Hp → VK → Prop := fun x vs H Q => ∃ l xs i k y, x = .ref l ∧ vs = [.int i] ∧ H l = some (.lst xs) ∧ -(2 ^ 63) ≤ i ∧ i < 2 ^ 63 ∧ seqIndex? i xs.length = some k ∧ xs[k]? = some y ∧ Q y (upd H l (.lst (xs.eraseIdx k)))
def rReverse : V → List V → Hp → VK → Prop := fun x vs H Q => ∃ l xs, x = .ref l ∧ vs = [] ∧ H l = some (.lst xs) ∧ Q .non (upd H l (.lst xs.reverse))
def rClear : V → List V → Hp → VK → Prop := fun x vs H Q => ∃ l xs, x = .ref l ∧ vs = [] ∧ H l = some (.lst xs) ∧ Q .non (upd H l (.lst []))
def rCat : R2 := fun x y H Q => ∃ l b xs zs, x = .ref l ∧ y = .ref b ∧ H l = some (.lst xs) ∧ H b = some (.lst zs) ∧ xs.length + zs.length ≤ sizeLine ∧ ∀ p, H p = none → Q (.ref p) (upd H p (.lst (xs ++ zs)))
def rRep : R2 := fun x y H Q => ∃ l k xs, x = .ref l ∧ y = .int k ∧ H l = some (.lst xs) ∧ -(2 ^ 63) ≤ k ∧ k < 2 ^ 63 ∧ xs.length * k.toNat ≤ sizeLine ∧
  ∀ p, H p = none → Q (.ref p) (upd H p (.lst (List.replicate k.toNat xs).flatten))
theorem len_rep {α : Type} (xs : List α) (k : Nat) : (List.replicate k xs).flatten.length = k * xs.length := by
  induction k with
  | zero => simp
  | succ k ih => rw [List.replicate_succ, List.flatten_cons, List.length_append, ih, Nat.succ_mul, Nat.add_comm]
end
section
variable {prog : Program} {w : World} {A : Around} {E : Value → Shared → Prop} {s : Shared}
end
section
variable {X : Cx}
end
end L2
namespace Att
open PySem PySem.W PySem.Calls PyProof.Rows
theorem ints_of_wellAll {P : Params} {h : Heap} : ∀ (ns : List Int) (vs : List Value), WellAll P h vs (ns.map WData.int) → IntsAre vs ns := by
  intro ns
  induction ns with
  | nil =>
    intro vs w
    rw [List.map_nil] at w
    cases w
    exact .nil
  | cons n ns ih =>
    intro vs w
    rw [List.map_cons] at w
    cases w with
    | cons a b =>
      cases a
      exact .cons _ _ (ih _ b)
theorem script_of {l : OpenLaw} {n : Nat} (hn : l.most = some n) {P : Params} {h : Heap} {args : List WData} {vals : List Value}
    (hpre : l.row.toRowW.claim.pre args = true) (hwl : WellAll P h vals args) :
    ∃ a vs ns, vals = [Value.ref a] ∧ args = [WData.list (ns.map WData.int)] ∧ h.get? a = some { cls := .type "list", data := .seq vs.toArray } ∧ IntsAre vs ns ∧ ns.length ≤ n := by
  have hsh : WShape.hasAll [] args [.list .int] = true := (pre_splitW hpre).1
  have hc : l.pre.holds [] { args := args } = true := (pre_splitW hpre).2
  obtain ⟨d, r, rfl, h1, h2⟩ := hasAllW_cons hsh
  obtain rfl := hasAllW_nil h2
  obtain ⟨xs, rfl, h3⟩ := hasW_list h1
  obtain ⟨ns, rfl⟩ := items_int h3
  have hlen : ns.length ≤ n := by
    unfold OpenLaw.pre at hc
    have h4 : (WTm.not (.lt (.lit (.int (n : Int))) (.len (.arg 0)))).holds [] { args := [.list (ns.map .int)] } = true := by
      have h4 := (holds_andW hc).1
      rw [hn] at h4
      exact h4
    have h5 := condW_of h4 (w_not (w_lt w_lit (w_len_list (w_arg rfl))))
    rw [List.length_map] at h5
    refine Nat.le_of_not_lt fun q => ?_
    have q' : (n : Int) < ((ns.length : Nat) : Int) := by omega
    first
      | (rw [decide_eq_true q'] at h5; exact absurd h5 (by decide))
      | (simp at h5; omega)
  cases hwl with
  | cons w1 w2 =>
    cases w2
    cases w1 with
    | list ho hall => exact ⟨_, _, ns, rfl, rfl, ho, ints_of_wellAll ns _ hall, hlen⟩
theorem post_true (l : OpenLaw) (args : List WData) : l.row.toRowW.claim.post args (.bool true) args = true :=
  postW_of (r := l.row.toRowW) (X := (true == true))
    (show WShape.has [] (.bool true) .bool = true by first | rfl | decide | simp [WShape.has, WShape.arms, WShape.armsAll])
    (show (WTm.eq .res (.lit (.bool true))).value [] { args := args, res := some (.bool true), after := args } = some (.bool (true == true)) from w_eq_bool (w_res rfl) w_lit) rfl
theorem attach_call {l : OpenLaw} {n : Nat} {q : Program} {loose : List Str} {XP : (Str → Option Value) → Heap → Prop} {YP : World → Heap → Prop} {d : DefRec}
    (hn : l.most = some n) (hdf : d.params.defaults = [])
    (call : ∀ (w : World) (s₀ s₁ : Shared) (mg mb : Str → Option Value) (fa : Addr) (o : Obj) (pm cd doc : Value) (a : Addr) (vs : List Value) (ns : List Int),
      Ground q loose [] XP w s₀ mg mb s₁.heap → YP w s₁.heap →
      s₁.heap.get? fa = some o → o.data = .func (docDef d.name d.params d.body d.scope pm cd doc) → s₁.heap.CodeRec cd d.name → mg d.name = some (.ref fa) →
      s₁.heap.get? a = some { cls := .type "list", data := .seq vs.toArray } → IntsAre vs ns → ns.length ≤ n → s₁.gens = #[] →
      codeAny (model l.prog w) callerA (.call (.ref fa) ⟨[.ref a], []⟩) (fun r s' => r = .ok (.ret (.bool true)) ∧ OldK s₁.heap s'.heap ∧ s'.os = s₁.os ∧ AllBare s'.gens) s₁) :
    WalkO q loose XP YP l.row.toRowW d [] (fun f vs => PySem.call f vs) := by
  intro w s₀ s₁ mg mb G Y fa o pm cd doc dV kV ho hd hcd hD hmg hg args vals as hpre hlay hrd hwl hlo
  obtain rfl : dV = .none := Dflts.none hD hdf
  obtain rfl : kV = .none := Dflts.noKw hD
  obtain ⟨a, vs, ns, rfl, rfl, hobj, hints, hlen⟩ := script_of hn hpre hwl
  refine enter_call (codeAny_mono (call w s₀ s₁ mg mb fa o pm cd doc a vs ns G Y ho (fd_plain hd) hcd hmg hobj hints hlen hg) fun r s' hq => ?_)
  obtain ⟨rfl, h2, h3, h4⟩ := hq
  exact ⟨.inl ⟨.bool true, .bool true, [], rfl, fun _ => rfl, .bool true, post_true l _, fun _ => ⟨List.Pairwise.nil, fun _ hm => (nomatch hm)⟩⟩, h2, h3, h4⟩
section
variable {prog : Program} {w : World} {A : Around} {E : Value → Shared → Prop} {s : Shared} {K : Frag}
def noObjs (h : Heap) : Heap := { h with objs := #[] }
def ledger (h : Heap) (L d : Addr) : List (Addr × Obj) := (List.range h.objs.size).filterMap fun a => if a = L ∨ a = d then none else (h.get? a).map fun o => (a, o)
end
end Att
namespace L2
open PySem PySem.Spec PyProof.Rows
theorem vals_ints : ∀ {vs : List Value} {ns : List Int}, IntsAre vs ns → Vals (ns.map V.int) vs
  | _, _, .nil => .nil
  | _, _, .cons n t h => .cons ⟨t, rfl⟩ (vals_ints h)
def Only (H : Hp) : Prop := ∀ b, H b = none ∨ ∃ o xs, H b = some (.frz o (.lst xs))
theorem law_call {P : Program} {w : World} {K : PySem.W.Frag} {mg mb : Str → Option Value} {CX : CXT} {k : Nat} {fa a : Addr} {fd : FuncData} {x : Str} {sp : Sp} {s₁ : Shared} {vs : List Value} {ns : List Int}
    (KX : K.In s₁.heap) (hns : s₁.heap.Ns mainGlobals mg) (hb : s₁.heap.Ns builtinsNs mb) (hbb : ∀ x : Str, x ≠ "__name__" → mb x = bootBuiltins x) (hlim : s₁.heap.NoLimit) (hg : s₁.gens = #[])
    (ha : s₁.heap.get? a = some { cls := .type "list", data := .seq vs.toArray }) (hi : IntsAre vs ns) (hl : ns.length ≤ sizeLine) (hr : Room k callerA)
    (F : ∀ base : Heap, K.In base → base.Ns mainGlobals mg → FnOk P w K mg base CX k fa fd [x] sp) (hbind : ∀ (s : Shared) (u : Value), BindsTo s fd ⟨[u], []⟩ [(x, u)])
    (hsp : ∀ H : Hp, Only H → SqL K H a (ns.map V.int) → sp [.ref a] H (fun v _ => v = .bl true) fun _ _ _ => False)
    (hCX : ∀ H e s', CX [] H s₁ (fun _ _ _ => False) e s' → False) :
    codeAny (model P w) callerA (.call (.ref fa) ⟨[.ref a], []⟩) (fun r s' => r = .ok (.ret (.bool true)) ∧ OldK s₁.heap s'.heap ∧ s'.os = s₁.os ∧ AllBare s'.gens) s₁ := by
  have rv := vals_ints hi
  have lenV := hi.length
  -- from an abstract heap in which nothing but the script may be tracked
  have core : ∀ H : Hp, Only H → SqL K H a (ns.map V.int) → HOk P w H s₁.heap → (∀ b, H b ≠ none → b = a) → (H a ≠ none → K.lookup a = none) →
      codeAny (model P w) callerA (.call (.ref fa) ⟨[.ref a], []⟩) (fun r s' => r = .ok (.ret (.bool true)) ∧ OldK s₁.heap s'.heap ∧ s'.os = s₁.os ∧ AllBare s'.gens) s₁ := by
    intro H hO hS hok hA hK
    have base_of : ∀ {b : Addr} {o : Obj}, s₁.heap.get? b = some o → H b = none → (hidT s₁.heap H).get? b = some o := fun e n => hidT_get e n
    have noA : ∀ {b : Addr} {o : Obj} {es : Array DictEntry} {ep : Nat}, s₁.heap.get? b = some o → o.data = .dict es ep → H b = none := fun {b o es ep} e d => by
      cases q : H b with
      | none => rfl
      | some u =>
        have e' : b = a := hA b (by rw [q]; simp)
        subst e'
        rw [ha] at e; cases e
        have d' : Data.seq vs.toArray _ = Data.dict es ep := d
        cases d'
    have nsK : ∀ {b : Addr} {m : Str → Option Value}, s₁.heap.Ns b m → (hidT s₁.heap H).Ns b m := fun {b m} ⟨o, es, ep, e, d, r⟩ => ⟨o, es, ep, base_of e (noA e d), d, r⟩
    have hKb : K.In (hidT s₁.heap H) := fun b o e => base_of (KX b o e) (by
      cases q : H b with
      | none => rfl
      | some u =>
        have e' : b = a := hA b (by rw [q]; simp)
        subst e'
        rw [hK (by rw [q]; simp)] at e; cases e)
    have hM : Mod K mg (hidT s₁.heap H) := ⟨hKb, nsK hns, ⟨mb, nsK hb, hbb⟩, let ⟨mc, h1, h2⟩ := hlim; ⟨mc, nsK h1, h2⟩⟩
    have e0 : Env0 P w K mg (hidT s₁.heap H) callerA [] s₁ H := ⟨rfl, hM, fun b o e => of_hidT e, Nat.le_of_eq (hidT_size _ _), trivial, fun b hb => absurd (show b ∈ ([] : List Addr) from hb) (by simp), hok, .of_eq hg⟩
    refine codeAny_mono ((F _ hKb (nsK hns)).run callerA [] s₁ H ⟨[.ref a], []⟩ [.ref a] [.ref a] _ _ hr e0 (hbind s₁ (.ref a)) (.cons rfl .nil) (hsp H hO hS)) fun r s' h => ?_
    cases r with
    | error e => exact (hCX H e s' h).elim
    | ok fl =>
      cases fl with
      | next => exact False.elim h
      | brk => exact False.elim h
      | cont => exact False.elim h
      | ret u =>
        obtain ⟨v, H', os, bare, un, hok', r', q⟩ := h
        have q' : v = .bl true := q
        subst q'
        obtain rfl : u = Value.bool true := r'
        refine ⟨rfl, OldK.of_keep fun b o e => ?_, os, bare⟩
        cases q : H b with
        | none => exact un.keep b o e q (by intro z; exact absurd (show b ∈ ([] : List Addr) from z) (by simp)) (by simp)
        | some u =>
          rcases hO b with z | ⟨ob, xs, z⟩
          · rw [q] at z; cases z
          · have z2 := un.frzs b ob _ z
            obtain ⟨e1, _⟩ := hok b _ z
            obtain ⟨e2, _⟩ := hok' b _ z2
            rw [e] at e1; cases e1
            exact e2
  cases hk : K.lookup a with
  | some o =>
    -- the script is one of the module's own objects
    have e := KX a o hk
    rw [ha] at e
    cases e
    refine core (fun _ => none) (fun _ => .inl rfl) (.inr ⟨_, vs.toArray, _, hk, rfl, rfl, rfl, by rw [List.size_toArray, lenV]; exact hl, by simpa using rv⟩) (fun b u z => by have z' : (none : Option HO) = some u := z; cases z') (fun b z => absurd rfl z) fun z => absurd rfl z
  | none =>
    refine core (fun b => if b = a then some (.frz { cls := .type "list", data := .seq vs.toArray } (.lst (ns.map V.int))) else none) (fun b => ?_) (.inl (.inr ⟨{ cls := .type "list", data := .seq vs.toArray }, if_pos rfl⟩)) (fun b u z => ?_) (fun b z => ?_) fun _ => hk
    · by_cases hb : b = a
      · exact .inr ⟨_, _, if_pos hb⟩
      · exact .inl (if_neg hb)
    · by_cases hb : b = a
      · have z' := (if_pos hb).symm.trans z
        cases z'
        subst hb
        exact ⟨ha, by rw [List.length_map]; exact hl, vs, _, rv, ha⟩
      · have z' := (if_neg hb).symm.trans z
        cases z'
    · by_cases hb : b = a
      · exact hb
      · exact absurd (if_neg hb) z
end L2
namespace L2
open PySem PySem.Spec PyProof.Rows
abbrev KOf {K : PySem.W.Frag} {h : Heap} (_ : K.In h) : PySem.W.Frag := K
theorem walk_of {l : PySem.W.OpenLaw} {n k : Nat} {q : Program} {loose : List Str} {XP : (Str → Option Value) → Heap → Prop} {YP : World → Heap → Prop} {d : DefRec} {K : Params → PySem.W.Frag} {CX : World → CXT} {sp : World → Sp} {x : Str}
    (hn : l.most = some n) (hn2 : n ≤ sizeLine) (hdf : d.params.defaults = []) (hr : Room k callerA)
    (hY : ∀ (w : World) (h : Heap), YP w h → (K w.params).In h)
    (F : ∀ (w : World) (mg : Str → Option Value) (fa : Addr) (h : Heap), (K w.params).In h → h.Ns mainGlobals mg → mg d.name = some (.ref fa) →
      ∃ fd : FuncData, (∀ (s : Shared) (u : Value), BindsTo s fd ⟨[u], []⟩ [(x, u)]) ∧
        ∀ base : Heap, (K w.params).In base → base.Ns mainGlobals mg → FnOk l.prog w (K w.params) mg base (CX w) k fa fd [x] (sp w))
    (hsp : ∀ (w : World) (H : Hp) (a : Addr) (ns : List Int), ns.length ≤ n → Only H → SqL (K w.params) H a (ns.map V.int) → sp w [.ref a] H (fun v _ => v = .bl true) fun _ _ _ => False)
    (hCX : ∀ (w : World) (H : Hp) (s : Shared) (e : Value) (s' : Shared), CX w [] H s (fun _ _ _ => False) e s' → False) :
    PySem.W.WalkO q loose XP YP l.row.toRowW d [] (fun f vs => PySem.call f vs) := by
  refine Att.attach_call hn hdf fun w s₀ s₁ mg mb fa o pm cd doc a vs ns G Y ho hd hcd hmg hobj hints hlen hg => ?_
  have KX := hY w _ Y
  obtain ⟨fd, hb, hF⟩ := F w mg fa _ KX G.T.g hmg
  exact law_call KX G.T.g G.T.b G.T.builtins G.T.nolimit hg hobj hints (Nat.le_trans hlen hn2) hr hF hb (fun H hO hS => hsp w H a ns hlen hO hS) fun H e s' => hCX w H s₁ e s'
end L2
namespace L2
open PySem PySem.Spec PyProof.Rows
def inClass (s : Stmt) (j : Nat) : Stmt := match s with
  | .ClassDef _ _ _ body _ _ _ _ _ _ _ => body.getD j (.Pass ⟨0, 0, 0, 0⟩)
  | _ => .Pass ⟨0, 0, 0, 0⟩
def defArgs (s : Stmt) : Arguments := match s with
  | .FunctionDef _ a _ _ _ _ _ _ _ _ => a
  | _ => { posonlyargs := [], args := [], vararg := none, kwonlyargs := [], kw_defaults := [], kwarg := none, defaults := [] }
def defBody (s : Stmt) : List Stmt := match s with
  | .FunctionDef _ _ b _ _ _ _ _ _ _ => b
  | _ => []
def defScope (s : Stmt) : Scope := match s with
  | .FunctionDef _ _ _ _ _ _ sc _ _ _ => sc
  | _ => { kind := .function, names := [], isGenerator := false, isCoroutine := false }
abbrev CX0 : CXT := fun _ _ _ _ _ _ => False
abbrev E0 : XK := fun _ _ _ => False
structure Fun (K : PySem.W.Frag) (x qual : Str) (st : Stmt) (f : Addr) (fd : FuncData) : Prop where
  ex : ∃ (oc : Value) (od : Option Addr) (kV doc pm : Value) (an : Option Addr) (cdv ct : Value) (osl : Array (Option Value)),
    fd = PySem.W.fnOf x qual (defArgs st) (defBody st) (defScope st) .none kV doc pm an cdv ct ∧ K.lookup f = some ⟨oc, od, .func fd, osl⟩ ∧ PySem.W.codeIn K cdv qual = true
  kp : PySem.W.keepIn K (.ref f) = true
section
variable {P : Program} {w : World} {K : PySem.W.Frag} {mg : Str → Option Value} {base : Heap}
end
section
variable {X : Cx}
theorem pv (i : Nat) {x : Str} {pos : Pos} (hN : X.N[i]? = some x := by rfl) (hv : Vis X.env.scope x := by first | exact Or.inl rfl | exact Or.inr (Or.inl rfl) | exact Or.inr (Or.inr rfl)) (hd : (x == ("__debug__" : Str)) = false := by decide)
    (hcd : (x == ("__classdict__" : Str)) = false := by decide) : PE X (.Name x pos) (tVar i) := pe_var hN hv hd hcd
end
theorem iteF {A B : Prop} (h : B) : if false = true then A else B := by
  rw [if_neg Bool.false_ne_true]
  exact h
theorem iteT {A B : Prop} (h : A) : if true = true then A else B := by
  rw [if_pos rfl]
  exact h
def Same (H H' : Hp) : Prop := ∀ b o, H b = some o → H' b = some o
theorem Same.refl (H : Hp) : Same H H := fun _ _ h => h
theorem Same.trans {H H1 H2 : Hp} (a : Same H H1) (b : Same H1 H2) : Same H H2 := fun c o h => b c o (a c o h)
theorem Same.free {H H' : Hp} (e : Same H H') {l : Addr} (h : H' l = Option.none) : H l = Option.none := by
  cases q : H l with
  | none => rfl
  | some o =>
    rw [e l o q] at h
    cases h
theorem Same.seq {K : PySem.W.Frag} {H H' : Hp} {a : Addr} {xs : List V} (e : Same H H') (h : SqL K H a xs) : SqL K H' a xs := by
  rcases h with (h | ⟨o, h⟩) | h
  · exact .inl (.inl (e _ _ h))
  · exact .inl (.inr ⟨o, e _ _ h⟩)
  · exact .inr h
end L2
set_option Elab.async false
set_option linter.all false
set_option maxRecDepth 100000
namespace L2
open PySem PySem.Spec PyProof.Rows
abbrev kn (b : Bool) : String := if b then "tuple_iterator" else "list_iterator"
def SqAt (b : Bool) (h : Heap) (l : Addr) (items : Array Value) : Prop := match b with
  | true => h.IsTuple l items
  | false => h.IsList l items
def IterAt (b : Bool) (h : Heap) (it l : Addr) (i : Nat) : Prop := match b with
  | true => h.IsTupleIter it l i
  | false => h.IsListIter it l i
theorem SqAt.at {b : Bool} {h h' : Heap} {l : Addr} {items : Array Value} (x : SqAt b h l items) (e : ∀ o, h.get? l = some o → h'.get? l = some o) : SqAt b h' l items := by
  cases b with
  | true => obtain ⟨o, ho, r⟩ := x; exact ⟨o, e o ho, r⟩
  | false => exact Heap.IsList.at x e
theorem IterAt.obj {b : Bool} {h : Heap} {it l : Addr} {i : Nat} (x : IterAt b h it l i) : ∃ o, h.get? it = some o ∧ ∀ v, o.data ≠ .cell v := by
  cases b <;> (obtain ⟨o, ho, c, d⟩ := x; exact ⟨o, ho, fun v z => by rw [d] at z; cases z⟩)
theorem IterAt.at {b : Bool} {h h' : Heap} {it l : Addr} {i : Nat} (x : IterAt b h it l i) (e : ∀ o, h.get? it = some o → h'.get? it = some o) : IterAt b h' it l i := by
  cases b <;> (obtain ⟨o, ho, r⟩ := x; exact ⟨o, e o ho, r⟩)
section
variable {prog : Program} {w : World} {A : Around} {E : Value → Shared → Prop} {s : Shared}
theorem next_tup_item {it t : Addr} {i : Nat} {items : Array Value} {x : Value} {Q : Value → Shared → Prop} (hit : s.heap.IsTupleIter it t i) (ht : s.heap.IsTuple t items) (hx : items[i]? = some x)
    (hQ : ∀ h', h'.IsTupleIter it t (i + 1) → Heap.SameBut it s.heap h' → Q x { s with heap := h' }) : wpAny (model prog w) A (Builtin.SmallTypes.nextOf (.ref it)) Q E s := by
  obtain ⟨o, ho, hc, hd⟩ := id hit; obtain ⟨ol, hol, _, nl, hdl⟩ := ht
  unfold Builtin.SmallTypes.nextOf; refine wpAny_bind (wpAny_callSpecial?_slot (name := Str.ofString "__next__") hit.typeIs F.slot_tuple_iterator_next (wpAny_call_entry F.slot_tuple_iterator_next hit.typeIs F.entry_tuple_iterator_next ?_ (F.args_tuple_iterator_next_1 _)))
  show wpAny _ _ (field (.ref it) 0 >>= _) _ _ s; refine wpAny_bind (wpAny_field ho hd (x := .ref t) rfl ?_)
  show wpAny _ _ (if (Value.ref t == Value.none) = true then _ else _) _ _ s; rw [if_neg (by intro z; cases z)]
  show wpAny _ _ (field (.ref it) 1 >>= _) _ _ s; refine wpAny_bind (wpAny_field ho hd (x := .int i 0) rfl ?_)
  show wpAny _ _ (seqItems? (.ref t) >>= _) _ _ s; refine wpAny_bind (wpAny_seqItems hol hdl ?_); simp only [Int.toNat_natCast, hx]
  refine wpAny_bind (wpAny_setField ho hd (by simp) (wpAny_pure ⟨x, rfl, wpAny_pure (hQ _ ⟨_, Heap.get?_update_self _ ho (Obj.isFreed_of_fields (Obj.data_mapFields hd _)), (Obj.cls_mapFields ..).trans hc, ?_⟩ (Heap.SameBut.update ..))⟩))
  rw [Obj.data_mapFields hd]; simp [rawInt]
theorem next_tup_end {it t : Addr} {i : Nat} {items : Array Value} {Q : Value → Shared → Prop} (hh : A.handled = none) (hit : s.heap.IsTupleIter it t i) (ht : s.heap.IsTuple t items) (hx : items[i]? = none)
    (hE : ∀ h' e, Heap.ExtBut it s.heap h' → (∃ o, h'.get? e = some o ∧ o.cls = .type "StopIteration") → E (.ref e) { s with heap := h' }) : wpAny (model prog w) A (Builtin.SmallTypes.nextOf (.ref it)) Q E s := by
  obtain ⟨o, ho, hc, hd⟩ := id hit; obtain ⟨ol, hol, _, nl, hdl⟩ := ht
  unfold Builtin.SmallTypes.nextOf; refine wpAny_bind (wpAny_callSpecial?_slot (name := Str.ofString "__next__") hit.typeIs F.slot_tuple_iterator_next (wpAny_call_entry F.slot_tuple_iterator_next hit.typeIs F.entry_tuple_iterator_next ?_ (F.args_tuple_iterator_next_1 _)))
  show wpAny _ _ (field (.ref it) 0 >>= _) _ _ s; refine wpAny_bind (wpAny_field ho hd (x := .ref t) rfl ?_)
  show wpAny _ _ (if (Value.ref t == Value.none) = true then _ else _) _ _ s; rw [if_neg (by intro z; cases z)]
  show wpAny _ _ (field (.ref it) 1 >>= _) _ _ s; refine wpAny_bind (wpAny_field ho hd (x := .int i 0) rfl ?_)
  show wpAny _ _ (seqItems? (.ref t) >>= _) _ _ s; refine wpAny_bind (wpAny_seqItems hol hdl ?_); simp only [Int.toNat_natCast, hx]
  refine wpAny_bind (wpAny_rule (wpAny_bind (wpAny_setField ho hd (by simp) ?_))); show wpAny _ _ (newExc (.type "StopIteration") [] >>= _) _ _ _
  refine wpAny_bind ?_; simp only [newExc, newTuple]
  refine wpAny_bind (wpAny_newObj_type ?_ (by size_fits)); refine wpAny_bind (m := firstArgMember _ _) (wpAny_of_eq (a := Value.none) (by first | rfl | (simp only [firstArgMember]; rfl)) ?_)
  refine wpAny_newObj_type ?_ (by size_fits); simp only [raiseNew]; refine wpAny_bind (wpAny_handled ?_)
  first | rw [show A.in1.handled = none from hh] | rw [hh]
  refine wpAny_bind (wpAny_pure (wpAny_throw ?_)); exact hE _ _ (((Heap.SameBut.update ..).extBut.push _).push _) ⟨_, Heap.get?_push_size _ rfl, rfl⟩
theorem next_item {b : Bool} {it l : Addr} {i : Nat} {items : Array Value} {x : Value} {Q : Value → Shared → Prop} (hit : IterAt b s.heap it l i) (hl : SqAt b s.heap l items) (hx : items[i]? = some x)
    (hQ : ∀ h', IterAt b h' it l (i + 1) → Heap.SameBut it s.heap h' → Q x { s with heap := h' }) : wpAny (model prog w) A (Builtin.SmallTypes.nextOf (.ref it)) Q E s := by
  cases b with
  | true => exact next_tup_item hit hl hx hQ
  | false => exact wpAny_nextOf_list_item hit hl hx hQ
theorem next_end {b : Bool} {it l : Addr} {i : Nat} {items : Array Value} {Q : Value → Shared → Prop} (hh : A.handled = none) (hit : IterAt b s.heap it l i) (hl : SqAt b s.heap l items) (hx : items[i]? = none)
    (hE : ∀ h' e, Heap.ExtBut it s.heap h' → (∃ o, h'.get? e = some o ∧ o.cls = .type "StopIteration") → E (.ref e) { s with heap := h' }) : wpAny (model prog w) A (Builtin.SmallTypes.nextOf (.ref it)) Q E s := by
  cases b with
  | true => exact next_tup_end hh hit hl hx hE
  | false => exact wpAny_nextOf_list_end hh hit hl hx hE
theorem iter_sq {b : Bool} {l : Addr} {items : Array Value} {Q : Value → Shared → Prop} (hl : SqAt b s.heap l items)
    (hQ : Q (.ref s.heap.objs.size) { s with heap := s.heap.push { cls := .type (kn b), data := .fields #[.ref l, .int 0 0] } }) : wpAny (model prog w) A (pyIter (.ref l)) Q E s := by
  cases b with
  | true => exact wpAny_pyIter_tuple hl hQ
  | false => exact wpAny_pyIter_list hl hQ
structure ZSt (b1 b2 : Bool) (z TI TO i1 i2 l1 l2 : Addr) (f0 : Value) (k : Nat) (h : Heap) : Prop where
  zip : IsZip h z TI TO f0
  ti : IsPair h TI (.ref i1) (.ref i2)
  to : ∃ a b, IsPair h TO a b
  it1 : IterAt b1 h i1 l1 k
  it2 : IterAt b2 h i2 l2 k
theorem ZSt.at {b1 b2 : Bool} {z TI TO i1 i2 l1 l2 : Addr} {f0 : Value} {k : Nat} {h h' : Heap} (x : ZSt b1 b2 z TI TO i1 i2 l1 l2 f0 k h) (e : ∀ b ∈ [z, TI, TO, i1, i2], ∀ o, h.get? b = some o → h'.get? b = some o) :
    ZSt b1 b2 z TI TO i1 i2 l1 l2 f0 k h' :=
  ⟨e z (by simp) _ x.zip, e TI (by simp) _ x.ti, let ⟨a, b, q⟩ := x.to; ⟨a, b, e TO (by simp) _ q⟩, x.it1.at fun o q => e i1 (by simp) o q, x.it2.at fun o q => e i2 (by simp) o q⟩
theorem zip_item {b1 b2 : Bool} {z TI TO i1 i2 l1 l2 : Addr} {k : Nat} {xs ys : Array Value} {x y : Value} {Q : Value → Shared → Prop} (D : ZipApart z TI TO i1 i2 l1 l2) (S : ZSt b1 b2 z TI TO i1 i2 l1 l2 .none k s.heap)
    (hl1 : SqAt b1 s.heap l1 xs) (hl2 : SqAt b2 s.heap l2 ys) (hx : xs[k]? = some x) (hy : ys[k]? = some y)
    (hQ : ∀ h', ZSt b1 b2 z TI TO i1 i2 l1 l2 (rawInt s.heap.objs.size) (k + 1) h' → IsPair h' s.heap.objs.size x y → h'.objs.size = s.heap.objs.size + 1 →
      (∀ c o, c ≠ z → c ≠ TO → c ≠ i1 → c ≠ i2 → s.heap.get? c = some o → h'.get? c = some o) → Q (.ref s.heap.objs.size) { s with heap := h' }) :
    wpAny (model prog w) A (Builtin.«zip.__next__» ⟨[.ref z], []⟩) (fun fin s' => ∃ v, fin = .done (.ret v) ∧ Q v s') E s := by
  obtain ⟨hz, hTI, ⟨a, b, hTO⟩, h1, h2⟩ := S
  show wpAny _ _ (field (.ref z) 2 >>= _) _ _ _; refine wpAny_bind (wpAny_field hz rfl (x := .bool false) rfl ?_)
  show wpAny _ _ (field (.ref z) 3 >>= _) _ _ _; refine wpAny_bind (wpAny_field hz rfl (x := .ref TI) rfl (wpAny_bind (wpAny_seqItems hTI rfl ?_)))
  show wpAny _ _ (Builtin.SmallTypes.ownedTupleIsFree (.ref z) >>= _) _ _ _; refine wpAny_bind ?_
  unfold Builtin.SmallTypes.ownedTupleIsFree; refine wpAny_bind (wpAny_field hz rfl (x := .none) rfl (wpAny_pure ?_)); simp only [if_true]
  refine wpAny_bind (wpAny_rule (wpAny_bind (wpAny_field hz rfl (x := .ref TO) rfl ?_)))
  refine wpAny_bind (wpAny_setField_rec hz (by simp) fun g1 z1 e1 => ?_)
  replace z1 : IsZip g1 z TI TO .ellipsis := z1; refine wpAny_bind ?_
  simp only [List.zipIdx_cons, List.zipIdx_nil, List.forIn_cons, List.forIn_nil]; refine wpAny_bind (wpAny_bind (wpAny_onRaise ?_))
  show wpAny _ _ (Builtin.SmallTypes.nextOf (.ref i1) >>= _) _ _ _
  have k1 : ∀ c o, c ≠ z → s.heap.get? c = some o → g1.get? c = some o := fun c o hc e => e1.extBut c o hc e
  refine wpAny_bind (next_item (s := { s with heap := g1 }) (h1.at fun o q => k1 i1 o D.i1z q) (hl1.at fun o q => k1 l1 o D.l1z q) hx fun g2 t2 e2 => wpAny_pure ?_)
  have k2 : ∀ c o, c ≠ z → c ≠ i1 → s.heap.get? c = some o → g2.get? c = some o := fun c o hc hd e => e2.extBut c o hd (k1 c o hc e)
  have p2 : IsPair g2 TO a b := k2 TO _ D.TOz D.TOi1 hTO
  refine wpAny_bind (wpAny_seqItems p2 rfl (wpAny_bind (wpAny_updateSeq_pair p2 fun g3 p3 e3 => ?_)))
  replace p3 : IsPair g3 TO x b := p3; refine wpAny_bind (wpAny_letGo (wpAny_pure ?_)); refine wpAny_bind (wpAny_bind (wpAny_onRaise ?_))
  show wpAny _ _ (Builtin.SmallTypes.nextOf (.ref i2) >>= _) _ _ _
  have k3 : ∀ c o, c ≠ z → c ≠ i1 → c ≠ TO → s.heap.get? c = some o → g3.get? c = some o := fun c o hc hd he e => e3.extBut c o he (k2 c o hc hd e)
  refine wpAny_bind (next_item (s := { s with heap := g3 }) (h2.at fun o q => k3 i2 o D.i2z D.i12.symm D.TOi2.symm q) (hl2.at fun o q => k3 l2 o D.l2z D.l2i1 D.l2TO q) hy fun g4 t4 e4 => wpAny_pure ?_)
  have p4 : IsPair g4 TO x b := e4.extBut _ _ D.TOi2 p3
  refine wpAny_bind (wpAny_seqItems p4 rfl (wpAny_bind (wpAny_updateSeq_pair p4 fun g5 p5 e5 => ?_)))
  replace p5 : IsPair g5 TO x y := p5; refine wpAny_bind (wpAny_letGo (wpAny_pure (wpAny_pure ?_))); refine wpAny_bind (wpAny_seqItems p5 rfl (wpAny_bind (wpAny_newTuple ?_)))
  have sz : g5.objs.size = s.heap.objs.size := by rw [e5.1, e4.1, e3.1, e2.1, e1.1]
  have z5 : IsZip g5 z TI TO .ellipsis := e5.extBut _ _ D.TOz.symm (e4.extBut _ _ D.i2z.symm (e3.extBut _ _ D.TOz.symm (e2.extBut _ _ D.i1z.symm z1)))
  have k5 : ∀ c o, c ≠ z → c ≠ TO → c ≠ i1 → c ≠ i2 → s.heap.get? c = some o → g5.get? c = some o := fun c o c1 c2 c3 c4 e => e5.extBut _ _ c2 (e4.extBut _ _ c4 (k3 c o c1 c3 c2 e))
  have t5 : IterAt b1 g5 i1 l1 (k + 1) := t2.at fun o q => e5.extBut _ _ D.TOi1.symm (e4.extBut _ _ D.i12 (e3.extBut _ _ D.TOi1.symm q))
  have u5 : IterAt b2 g5 i2 l2 (k + 1) := t4.at fun o q => e5.extBut _ _ D.TOi2.symm q
  have zlt : z < g5.objs.size := Heap.lt_size z5
  show wpAny _ _ (Builtin.SmallTypes.ownedTupleHandOut (.ref z) (.ref g5.objs.size) >>= _) _ _ _; refine wpAny_bind ?_
  unfold Builtin.SmallTypes.ownedTupleHandOut
  have z6 : IsZip (g5.push { cls := .type "tuple", data := .seq #[x, y] }) z TI TO .ellipsis := Heap.get?_push_of_some _ z5
  refine wpAny_bind (wpAny_setField_rec z6 (by simp) fun g7 z7 e7 => ?_)
  replace z7 : IsZip g7 z TI TO (rawInt g5.objs.size) := z7; refine wpAny_setField_rec z7 (by simp) fun g8 z8 e8 => ?_
  replace z8 : IsZip g8 z TI TO (rawInt g5.objs.size) := z8
  have up : ∀ c o, c ≠ z → g5.get? c = some o → g8.get? c = some o := fun c o c1 e => e8.extBut _ _ c1 (e7.extBut _ _ c1 (Heap.get?_push_of_some _ e))
  have p8 : IsPair g8 g5.objs.size x y := e8.extBut _ _ (Nat.ne_of_gt zlt) (e7.extBut _ _ (Nat.ne_of_gt zlt) (Heap.get?_push_size _ rfl))
  have s8 : g8.objs.size = g5.objs.size + 1 := by rw [e8.1, e7.1, Heap.size_push]
  rw [sz] at z8 p8 s8
  refine wpAny_pure ⟨_, rfl, ?_⟩
  show Q (.ref g5.objs.size) _
  rw [sz]
  exact hQ g8 ⟨z8, up _ _ D.TIz (k5 TI _ D.TIz D.TITO D.TIi1 D.TIi2 hTI), ⟨_, _, up _ _ D.TOz p5⟩, t5.at fun o q => up _ o D.i1z q, u5.at fun o q => up _ o D.i2z q⟩ p8 s8 fun c o c1 c2 c3 c4 e => up c o c1 (k5 c o c1 c2 c3 c4 e)
theorem zip_end {b1 b2 : Bool} {z TI TO i1 i2 l1 l2 : Addr} {k : Nat} {xs ys : Array Value} {Q : Fin → Shared → Prop} (hh : A.handled = none) (D : ZipApart z TI TO i1 i2 l1 l2) (S : ZSt b1 b2 z TI TO i1 i2 l1 l2 .none k s.heap)
    (hl1 : SqAt b1 s.heap l1 xs) (hl2 : SqAt b2 s.heap l2 ys) (hend : xs[k]? = none ∨ ys[k]? = none)
    (hE : ∀ h' e, (∀ c o, c ≠ z → c ≠ TO → c ≠ i1 → c ≠ i2 → s.heap.get? c = some o → h'.get? c = some o) → (∃ o, h'.get? e = some o ∧ o.cls = .type "StopIteration") → E (.ref e) { s with heap := h' }) :
    wpAny (model prog w) A (Builtin.«zip.__next__» ⟨[.ref z], []⟩) Q E s := by
  obtain ⟨hz, hTI, ⟨a, b, hTO⟩, h1, h2⟩ := S
  show wpAny _ _ (field (.ref z) 2 >>= _) _ _ _; refine wpAny_bind (wpAny_field hz rfl (x := .bool false) rfl ?_)
  show wpAny _ _ (field (.ref z) 3 >>= _) _ _ _; refine wpAny_bind (wpAny_field hz rfl (x := .ref TI) rfl (wpAny_bind (wpAny_seqItems hTI rfl ?_)))
  show wpAny _ _ (Builtin.SmallTypes.ownedTupleIsFree (.ref z) >>= _) _ _ _; refine wpAny_bind ?_
  unfold Builtin.SmallTypes.ownedTupleIsFree; refine wpAny_bind (wpAny_field hz rfl (x := .none) rfl (wpAny_pure ?_)); simp only [if_true]
  refine wpAny_bind (wpAny_rule (wpAny_bind (wpAny_field hz rfl (x := .ref TO) rfl ?_)))
  refine wpAny_bind (wpAny_setField_rec hz (by simp) fun g1 z1 e1 => ?_)
  replace z1 : IsZip g1 z TI TO .ellipsis := z1; refine wpAny_bind ?_
  simp only [List.zipIdx_cons, List.zipIdx_nil, List.forIn_cons, List.forIn_nil]; refine wpAny_bind (wpAny_bind (wpAny_onRaise ?_))
  show wpAny _ _ (Builtin.SmallTypes.nextOf (.ref i1) >>= _) _ _ _
  have k1 : ∀ c o, c ≠ z → s.heap.get? c = some o → g1.get? c = some o := fun c o hc e => e1.extBut c o hc e
  cases hx : xs[k]? with
  | none =>
    refine wpAny_bind (next_end (s := { s with heap := g1 }) hh (h1.at fun o q => k1 i1 o D.i1z q) (hl1.at fun o q => k1 l1 o D.l1z q) hx fun g2 e e2 he => ?_)
    obtain ⟨oe, hoe, hce⟩ := he
    have z2 : IsZip g2 z TI TO .ellipsis := e2 _ _ D.i1z.symm z1
    have ez : e ≠ z := fun q => by subst q; rw [z2] at hoe; cases hoe; simp at hce
    exact wpAny_setField_rec z2 (by simp) fun g3 _ e3 => hE g3 e (fun c o c1 _ c3 _ q => e3.extBut _ _ c1 (e2 _ _ c3 (k1 c o c1 q))) ⟨oe, e3.extBut _ _ ez hoe, hce⟩
  | some x =>
    have hy : ys[k]? = none := by
      rcases hend with q | q
      · rw [hx] at q; cases q
      · exact q
    refine wpAny_bind (next_item (s := { s with heap := g1 }) (h1.at fun o q => k1 i1 o D.i1z q) (hl1.at fun o q => k1 l1 o D.l1z q) hx fun g2 t2 e2 => wpAny_pure ?_)
    have k2 : ∀ c o, c ≠ z → c ≠ i1 → s.heap.get? c = some o → g2.get? c = some o := fun c o hc hd e => e2.extBut c o hd (k1 c o hc e)
    have p2 : IsPair g2 TO a b := k2 TO _ D.TOz D.TOi1 hTO
    refine wpAny_bind (wpAny_seqItems p2 rfl (wpAny_bind (wpAny_updateSeq_pair p2 fun g3 p3 e3 => ?_)))
    refine wpAny_bind (wpAny_letGo (wpAny_pure ?_)); refine wpAny_bind (wpAny_bind (wpAny_onRaise ?_))
    show wpAny _ _ (Builtin.SmallTypes.nextOf (.ref i2) >>= _) _ _ _
    have k3 : ∀ c o, c ≠ z → c ≠ i1 → c ≠ TO → s.heap.get? c = some o → g3.get? c = some o := fun c o hc hd he e => e3.extBut c o he (k2 c o hc hd e)
    refine wpAny_bind (next_end (s := { s with heap := g3 }) hh (h2.at fun o q => k3 i2 o D.i2z D.i12.symm D.TOi2.symm q) (hl2.at fun o q => k3 l2 o D.l2z D.l2i1 D.l2TO q) hy fun g4 e e4 he => ?_)
    obtain ⟨oe, hoe, hce⟩ := he
    have z4 : IsZip g4 z TI TO .ellipsis := e4 _ _ D.i2z.symm (e3.extBut _ _ D.TOz.symm (e2.extBut _ _ D.i1z.symm z1))
    have ez : e ≠ z := fun q => by subst q; rw [z4] at hoe; cases hoe; simp at hce
    exact wpAny_setField_rec z4 (by simp) fun g5 _ e5 => hE g5 e (fun c o c1 c2 c3 c4 q => e5.extBut _ _ c1 (e4 _ _ c4 (k3 c o c1 c3 c2 q))) ⟨oe, e5.extBut _ _ ez hoe, hce⟩
end
end L2
namespace L2
open PySem PySem.Spec PyProof.Rows
abbrev zq1 (b1 : Bool) (h : Heap) (l1 : Addr) : Heap := h.push { cls := .type (kn b1), data := .fields #[.ref l1, .int 0 0] }
abbrev zq2 (b1 b2 : Bool) (h : Heap) (l1 l2 : Addr) : Heap := (zq1 b1 h l1).push { cls := .type (kn b2), data := .fields #[.ref l2, .int 0 0] }
abbrev zq3 (b1 b2 : Bool) (h : Heap) (l1 l2 : Addr) : Heap := (zq2 b1 b2 h l1 l2).push { cls := .type "tuple", data := .seq #[.ref h.objs.size, .ref (zq1 b1 h l1).objs.size] }
abbrev zq4 (b1 b2 : Bool) (h : Heap) (l1 l2 : Addr) : Heap := (zq3 b1 b2 h l1 l2).push { cls := .type "tuple", data := .seq #[.none, .none] }
abbrev zq5 (b1 b2 : Bool) (h : Heap) (l1 l2 : Addr) : Heap := (zq4 b1 b2 h l1 l2).push { cls := .type "zip", data := .fields #[.none, .bool false, .bool false, .ref (zq2 b1 b2 h l1 l2).objs.size, .ref (zq3 b1 b2 h l1 l2).objs.size] }
theorem zip_made (b1 b2 : Bool) (l1 l2 : Addr) (xs ys : Array Value) : Meets (Builtin.«zip.__new__» ⟨[.type "zip", .ref l1, .ref l2], []⟩) (fun _ R s => SqAt b1 s.heap l1 xs ∧ SqAt b2 s.heap l2 ys ∧
      R (.ok (.ret (.ref (zq4 b1 b2 s.heap l1 l2).objs.size))) { s with heap := zq5 b1 b2 s.heap l1 l2 }) :=
  .of_wp fun prog w A R s h => by
    obtain ⟨hp, g, d, tk, os⟩ := s; obtain ⟨hl1, hl2, h⟩ := h
    have hsub := sub_zip
    have q1 : SqAt b1 (Shared.heap ⟨hp, g, d, tk, os⟩) l1 xs := hl1
    have q2 : SqAt b2 (Shared.heap ⟨hp.push { cls := .type (kn b1), data := .fields #[.ref l1, .int 0 0] }, g, d, tk, os⟩) l2 ys := SqAt.at hl2 fun o e => Heap.get?_push_of_some _ e
    wp_walk using iter_sq q1, iter_sq q2
    exact ⟨_, rfl, h⟩
theorem call_zip {prog : Program} {w : World} {A : Around} {E : Value → Shared → Prop} {s : Shared} {b1 b2 : Bool} {l1 l2 : Addr} {xs ys : Array Value} {Q : Value → Shared → Prop} (hl1 : SqAt b1 s.heap l1 xs) (hl2 : SqAt b2 s.heap l2 ys)
    (h : ∀ h', ZSt b1 b2 (s.heap.objs.size + 4) (s.heap.objs.size + 2) (s.heap.objs.size + 3) s.heap.objs.size (s.heap.objs.size + 1) l1 l2 .none 0 h' → (∀ c o, s.heap.get? c = some o → h'.get? c = some o) → h'.objs.size = s.heap.objs.size + 5 →
      Q (.ref (s.heap.objs.size + 4)) { s with heap := h' }) : wpAny (model prog w) A (call (.type "zip") [.ref l1, .ref l2]) Q E s := by
  refine callType_new F.called_zip (by decide) (F.typeCall_zip_2 _ _) (F.newCall_zip_2 _ _) (fun obj => F.args_object_init_3 obj _ _) F.entry_zip_new (zip_made b1 b2 l1 l2 xs ys) ⟨hl1, hl2, ?_⟩
  have z1 : (zq1 b1 s.heap l1).objs.size = s.heap.objs.size + 1 := Heap.size_push ..
  have z2 : (zq2 b1 b2 s.heap l1 l2).objs.size = s.heap.objs.size + 2 := by rw [Heap.size_push, z1]
  have z3 : (zq3 b1 b2 s.heap l1 l2).objs.size = s.heap.objs.size + 3 := by rw [Heap.size_push, z2]
  have z4 : (zq4 b1 b2 s.heap l1 l2).objs.size = s.heap.objs.size + 4 := by rw [Heap.size_push, z3]
  have z5 : (zq5 b1 b2 s.heap l1 l2).objs.size = s.heap.objs.size + 5 := by rw [Heap.size_push, z4]
  have up1 : ∀ {h : Heap} {o : Obj} {c : Addr} {u : Obj}, h.get? c = some u → (h.push o).get? c = some u := fun e => Heap.get?_push_of_some _ e
  have g5 : (zq5 b1 b2 s.heap l1 l2).get? (zq4 b1 b2 s.heap l1 l2).objs.size = some _ := Heap.get?_push_size _ rfl
  have g4 : (zq5 b1 b2 s.heap l1 l2).get? (zq3 b1 b2 s.heap l1 l2).objs.size = some _ := up1 (Heap.get?_push_size _ rfl)
  have g3 : (zq5 b1 b2 s.heap l1 l2).get? (zq2 b1 b2 s.heap l1 l2).objs.size = some _ := up1 (up1 (Heap.get?_push_size _ rfl))
  have g2 : (zq5 b1 b2 s.heap l1 l2).get? (zq1 b1 s.heap l1).objs.size = some _ := up1 (up1 (up1 (Heap.get?_push_size _ rfl)))
  have g1 : (zq5 b1 b2 s.heap l1 l2).get? s.heap.objs.size = some _ := up1 (up1 (up1 (up1 (Heap.get?_push_size _ rfl))))
  show _ ∧ _
  rw [z2, z3, z4] at g5
  rw [z1, z2] at g3
  rw [z3] at g4
  rw [z1] at g2
  rw [z4]
  refine ⟨⟨_, g5, rfl⟩, h _ ⟨g5, g3, ⟨_, _, g4⟩, ?_, ?_⟩ (fun c o x => up1 (up1 (up1 (up1 (up1 x))))) z5⟩
  · cases b1 <;> exact ⟨_, g1, rfl, rfl⟩
  · cases b2 <;> exact ⟨_, g2, rfl, rfl⟩
theorem pyNext_zip_item {prog : Program} {w : World} {A : Around} {E : Value → Shared → Prop} {s : Shared} {b1 b2 : Bool} {z TI TO i1 i2 l1 l2 : Addr} {k : Nat} {xs ys : Array Value} {x y : Value} {Q : Option Value → Shared → Prop} (D : ZipApart z TI TO i1 i2 l1 l2)
    (S : ZSt b1 b2 z TI TO i1 i2 l1 l2 .none k s.heap) (hl1 : SqAt b1 s.heap l1 xs) (hl2 : SqAt b2 s.heap l2 ys) (hx : xs[k]? = some x) (hy : ys[k]? = some y)
    (hQ : ∀ h', ZSt b1 b2 z TI TO i1 i2 l1 l2 (rawInt s.heap.objs.size) (k + 1) h' → IsPair h' s.heap.objs.size x y → h'.objs.size = s.heap.objs.size + 1 →
      (∀ c o, c ≠ z → c ≠ TO → c ≠ i1 → c ≠ i2 → s.heap.get? c = some o → h'.get? c = some o) → Q (some (.ref s.heap.objs.size)) { s with heap := h' }) : wpAny (model prog w) A (pyNext (.ref z)) Q E s := by
  have hT : s.TypeIs (.ref z) "zip" := ⟨_, S.zip, rfl⟩; unfold pyNext
  refine wpAny_bind (wpAny_attempt (wpAny_callSpecial?_slot (name := Str.ofString "__next__") hT F.slot_zip_next (wpAny_call_entry F.slot_zip_next hT F.entry_zip_next ?_ (F.args_zip_next_1 _))))
  exact zip_item D S hl1 hl2 hx hy fun h' a1 a2 a3 a4 => wpAny_pure (hQ h' a1 a2 a3 a4)
theorem pyNext_zip_end {prog : Program} {w : World} {A : Around} {E : Value → Shared → Prop} {s : Shared} {b1 b2 : Bool} {z TI TO i1 i2 l1 l2 : Addr} {k : Nat} {xs ys : Array Value} {Q : Option Value → Shared → Prop} (hh : A.handled = none) (D : ZipApart z TI TO i1 i2 l1 l2)
    (S : ZSt b1 b2 z TI TO i1 i2 l1 l2 .none k s.heap) (hl1 : SqAt b1 s.heap l1 xs) (hl2 : SqAt b2 s.heap l2 ys) (hend : xs[k]? = none ∨ ys[k]? = none)
    (hQ : ∀ h', (∀ c o, c ≠ z → c ≠ TO → c ≠ i1 → c ≠ i2 → s.heap.get? c = some o → h'.get? c = some o) → Q none { s with heap := h' }) : wpAny (model prog w) A (pyNext (.ref z)) Q E s := by
  have hT : s.TypeIs (.ref z) "zip" := ⟨_, S.zip, rfl⟩; unfold pyNext
  refine wpAny_bind (wpAny_attempt (wpAny_callSpecial?_slot (name := Str.ofString "__next__") hT F.slot_zip_next (wpAny_call_entry F.slot_zip_next hT F.entry_zip_next ?_ (F.args_zip_next_1 _))))
  refine zip_end hh D S hl1 hl2 hend fun h' e hk ⟨o, ho, hc⟩ => ?_
  exact wpAny_bind (wpAny_isInstance (T := "StopIteration") (b := true) ⟨o, ho, hc⟩ isSubtype_stop (wpAny_pure (hQ _ hk)))
end L2
namespace L2
open PySem PySem.Spec PyProof.Rows
section
variable {prog : Program} {w : World} {A : Around} {R : Result → Shared → Prop} {s : Shared}
abbrev E00 : Value → Shared → Prop := fun _ _ => False
abbrev ifsOf (ifs : List Expr) (env : Env) : Sem Bool :=
  forIn ifs true fun c r => if r = true then do
      let ok ← isTrue c env (eval c env)
      pure (ForInStep.yield ok)
    else pure (ForInStep.yield r)
theorem comp_turns {elt tg iter : Expr} {ifs : List Expr} {scope : Scope} {pos : Pos} {it acc : Value} {env : Env} (J : Nat → Shared → Prop)
    (turn : ∀ n s, J n s → wpAny (model prog w) A (pyNext it) (fun r s1 => match r with
      | none => R (.ok .next) s1
      | some v => wpAny (model prog w) A (letOwnedTupleGo tg it v) (fun _ s2 => wpAny (model prog w) A (assign tg env v) (fun _ s3 =>
          wpAny (model prog w) A (ifsOf ifs env) (fun ok s4 =>
            if ok = true then
              wpAny (model prog w) A (eval elt env) (fun x s5 => wpAny (model prog w) A (call (.builtin "list.append") [acc, x]) (fun _ s6 => ∃ m, m < n ∧ J m s6) E00 s5) E00 s4
            else ∃ m, m < n ∧ J m s4) E00 s3) E00 s2) E00 s1) E00 s)
    (n : Nat) (h : J n s) : codeAny (model prog w) A (.compLoop (.ListComp elt [⟨tg, iter, ifs, 0⟩] scope pos) 0 it acc env) R s := by
  have fl : ∀ {α : Type} {t : Sem α} {Q : α → Shared → Prop} {E : Value → Shared → Prop} {s : Shared}, wpAny (model prog w) A t Q E00 s → wpAny (model prog w) A t Q E s := fun h => wpAny_mono h (fun _ _ q => q) fun _ _ z => z.elim
  refine codeAny_loop rfl J (fun n s hJ => ?_) n h
  show wpAny _ A ((compTurn (.ListComp elt [⟨tg, iter, ifs, 0⟩] scope pos) 0 it acc env).onRaise _) _ _ s
  refine wpAny_noted ?_
  rw [compTurn_list]
  refine wpAny_bind (wpAny_standAt (wpAny_bind (thn (fl (turn n s hJ)) fun r s1 h1 => ?_)))
  cases r with
  | none => exact wpAny_pure h1
  | some v =>
    refine wpAny_bind (thn (fl h1) fun _ s2 h2 => ?_)
    refine wpAny_bind (thn (fl h2) fun _ s3 h3 => ?_)
    refine wpAny_bind (thn (fl h3) fun ok s4 h4 => ?_)
    cases ok with
    | false => exact wpAny_pure ⟨rfl, h4⟩
    | true =>
      refine wpAny_bind (wpAny_bind (thn (fl h4) fun x s5 h5 => ?_))
      exact wpAny_bind (thn (fl h5) fun _ s6 h6 => wpAny_pure (wpAny_pure ⟨rfl, h6⟩))
end
def blk (X : Cx) (N : List Str) (scope : Scope) (cl : List (Str × Addr)) (C : Addr) (s : Shared) (H : Hp) (fp : List Addr) : Cx :=
  { X with N := N, s₀ := s, H₀ := H, env := compEnvC scope cl C X.env, outer := X.stack, ex := fp, fn := fun _ => false, pn := [], xe := fun _ _ => False }
structure Blk (X : Cx) (N : List Str) (scope : Scope) (cl : List (Str × Addr)) (mp : List (Option Nat)) : Prop where
  clos : closureFor scope X.env = pure cl
  cell : ∀ y ∈ scope.names, y.2 ≠ .cell
  kind : scope.kind = .function
  nms : ∀ y ∈ scope.names, y.2 = .local → scope.names.lookup y.1 = some .local
  nd : N.Nodup
  sub : ∀ x c, cl.lookup x = some c → X.env.cells.lookup x = some c
  has : ∀ x, ((relabel scope X.env).names.lookup x = some .cell ∨ (relabel scope X.env).names.lookup x = some .free) → ∃ c, cl.lookup x = some c
  len : mp.length = N.length
  map : ∀ (i j : Nat) (x : Str), mp[i]? = some (some j) → N[i]? = some x → X.N[j]? = some x ∧ (X.env.scope.names.lookup x = some .cell ∨ X.env.scope.names.lookup x = some .free) ∧
    ((relabel scope X.env).names.lookup x = some .cell ∨ (relabel scope X.env).names.lookup x = some .free)
def st0 (mp : List (Option Nat)) (σ : St) : St := mp.map fun o => match o with
  | some j => (σ[j]?).getD none
  | none => none
section
variable {X : Cx} {pins : List (Addr × Obj)} {σ : St} {H : Hp} {s : Shared} {N : List Str} {scope : Scope} {cl : List (Str × Addr)} {mp : List (Option Nat)} {fp : List Addr}
theorem blk_inv (B : Blk X N scope cl mp) (I : Inv X pins σ H s) (f : ∀ b ∈ fp, FpOk X pins H b) (lt : ∀ b ∈ fp, b < s.heap.objs.size) {h1 : Heap} {t' : Nat} (hns : h1.Ns s.heap.objs.size (fun _ => none))
    (k : ∀ b o, s.heap.get? b = some o → h1.get? b = some o) : Inv (blk X N scope cl s.heap.objs.size s H fp) [] (st0 mp σ) H { s with heap := h1, toks := t' } := by
  have fin : ∀ b ∈ fp, b ∉ frs X.stack := fun b hb z => by
    obtain ⟨_, f1, f2, _⟩ := f b hb
    rcases List.mem_cons.mp (I.stkSub b z) with e | e
    · exact f1 e
    · exact f2 e
  have ok : (blk X N scope cl s.heap.objs.size s H fp).Ok := by
    refine ⟨I.ok.mod, B.kind, I.ok.glob, I.ok.blt, Nat.le_refl _, fun x y c h1 h2 => I.ok.inj x y c (B.sub x c h1) (B.sub y c h2), fun x hx => B.has x hx, (fun x c hf => nomatch (show false = true from hf)), I.ok.hd, I.ok.frames, .inl rfl, fun b hb => ?_, I.bs, Nat.le_trans I.ok.bsz I.sz, fun b o e hb => ?_, fin, I.stack, I.stkFree⟩
    · obtain ⟨f0, f1, f2, f3, f4, f5⟩ := f b hb
      exact ⟨Nat.ne_of_lt (lt b hb), fun x c e => f4 x c (B.sub x c e)⟩
    · obtain ⟨f0, f1, f2, f3, f4, f5⟩ := f b hb
      rcases f3 with z | z
      · exact I.ok.noex b o e z
      · exact absurd (Nat.lt_of_lt_of_le (Heap.lt_size e) (Nat.le_trans I.ok.bsz z)) (Nat.lt_irrefl _)
  refine ⟨ok, rfl, I.bare, Un.kept k, ⟨_, hns, fun i x v e1 e2 e3 => ?_⟩, fun x c e => ?_, I.hok.fresh (Nat.le_refl _), fun x c e => I.freeC x c (B.sub x c e), fun p hp => absurd (show p ∈ ([] : List (Addr × Obj)) from hp) (by simp), I.hok.kept k, ?_⟩
  · have e2' : ∃ j, mp[i]? = some (some j) ∧ σ[j]? = some (some v) := by
      unfold st0 at e2
      rw [List.getElem?_map] at e2
      cases q : mp[i]? with
      | none => rw [q] at e2; cases e2
      | some o =>
        rw [q] at e2
        cases o with
        | none => cases e2
        | some j =>
          refine ⟨j, rfl, ?_⟩
          have e2'' : (σ[j]?).getD none = some v := Option.some.inj e2
          cases r : σ[j]? with
          | none => rw [r] at e2''; cases e2''
          | some z => rw [r] at e2''; exact congrArg some e2''
    obtain ⟨j, hj, hv⟩ := e2'
    obtain ⟨hN, ho, hi⟩ := B.map i j x hj e1
    obtain ⟨m, hm, hl⟩ := I.loc
    obtain ⟨u, r, l⟩ := hl j x v hN hv (ho.elim (fun z => .inr (.inl z)) fun z => .inr (.inr z))
    refine ⟨u, r, .inr ⟨hi, ?_⟩⟩
    rcases l with ⟨z, _⟩ | ⟨_, c, ec, z⟩
    · have z' : X.env.scope.names.lookup x = some .local := z
      rcases ho with ho | ho
      · rw [z'] at ho; cases ho
      · rw [z'] at ho; cases ho
    · obtain ⟨c', ec'⟩ := B.has x hi
      have q := B.sub x c' ec'
      rw [ec] at q; cases q
      obtain ⟨o, eo, d⟩ := z
      exact ⟨c, ec', o, k c o eo, d⟩
  · obtain ⟨v, o, eo, d⟩ := I.cell x c (B.sub x c e)
    exact ⟨v, o, k c o eo, d⟩
  · show (st0 mp σ).length = N.length
    unfold st0
    rw [List.length_map]; exact B.len
theorem blk_out {N' : List Str} {C : Addr} {H' : Hp} {σ' : St} {s' : Shared} {h' : Heap} (I : Inv X pins σ H s) (f : ∀ b ∈ fp, FpOk X pins H b) (hC : s.heap.objs.size ≤ C)
    (J : Inv (blk X N' scope cl C s H fp) [] σ' H' s') (sb : Heap.SameBut C s'.heap h') : Inv X pins σ H' { s' with heap := h' } := by
  have ub : Un (frs X.stack) fp H H' s.heap s'.heap := J.base
  have ne : ∀ b o, s.heap.get? b = some o → b ≠ C := fun b o e => Nat.ne_of_lt (Nat.lt_of_lt_of_le (Heap.lt_size e) hC)
  have u : Un (frs X.stack) fp H H' s.heap h' := by
    refine ⟨fun b o e n hb hx => (sb.2 b (ne b o e)).trans (ub.keep b o e n hb hx), fun b o e n hb hx => ?_, ub.free, fun b o e hx => ?_, ub.tups, ub.frzs, ub.tbls⟩
    · obtain ⟨sl, q⟩ := ub.slot b o e n hb hx
      exact ⟨sl, (sb.2 b (ne b o e)).trans q⟩
    · obtain ⟨o', q⟩ := ub.there b o e hx
      exact ⟨o', (sb.2 b (ne b o e)).trans q⟩
  have fC : H' C = none := J.free
  have ok' : HOk X.prog X.w H' h' := fun b ob e => by
    have jok : HOk X.prog X.w H' s'.heap := J.hok
    refine (jok b ob e).stay (fun c v hc q => (sb.2 c ?_).trans q) (fun _ q => q) fun _ _ q => q
    rintro rfl
    rcases hc with rfl | hc
    · rw [fC] at e; cases e
    · rw [fC] at hc; cases hc
  refine I.call' (s' := { s' with heap := h' }) (ch := fp) ?_ u ok' J.bare fun b hb => ?_
  · exact J.os
  · obtain ⟨f0, f1, f2, f3, f4, f5⟩ := f b hb
    exact ⟨f3, f1, f4, f5⟩
end
def PTs (X : Cx) (ifs : List Expr) (t : TT) : Prop :=
  ∀ (pins : List (Addr × Obj)) (s : Shared) (σ : St) (H : Hp) (Q : Bool → Hp → Prop), Inv X pins σ H s → t σ H Q → wpAny (model X.prog X.w) X.A (ifsOf ifs X.env) (TP X pins σ Q) X.xe s
def tYes : TT := fun _ H Q => Q true H
theorem pts_nil {X : Cx} : PTs X [] tYes := fun _ _ _ H _ I h => wpAny_pure ⟨H, I, h⟩
@[irreducible] def tComp (mp : List (Option Nat)) (wi : TI) (g : TG) (tc : TT) (te : TE) : TE := fun σ H Q => wi σ H fun J H1 => ∀ D, H1 D = none → ∃ W : Nat → Nat → List V → St → Hp → Prop,
  (∃ m, W 0 m [] (st0 mp σ) (upd H1 D (.lst []))) ∧ ∀ i m ys σ' H', W i m ys σ' H' → H' D = some (.lst ys) ∧
    ((J.stop i H' ∧ Q (.ref D) H') ∨ (J.go i H' ∧ ys.length < sizeLine ∧ ∀ x H2, J.yld i H' x H2 → g x σ' H2 fun σ2 H3 => tc σ2 H3 fun b H4 =>
      if b = true then te σ2 H4 fun v H5 => H5 D = some (.lst ys) ∧ ∃ m', m' < m ∧ W (i + 1) m' (ys ++ [v]) σ2 (upd H5 D (.lst (ys ++ [v])))
      else ∃ m', m' < m ∧ W (i + 1) m' ys σ2 H4))
def CompW (J : It) (D : Addr) (g : TG) (tc : TT) (te : TE) (Qf : Hp → Prop) (W : Nat → Nat → List V → St → Hp → Prop) : Prop := ∀ i m ys σ' H', W i m ys σ' H' → H' D = some (.lst ys) ∧
    ((J.stop i H' ∧ Qf H') ∨ (J.go i H' ∧ ys.length < sizeLine ∧ ∀ x H2, J.yld i H' x H2 → g x σ' H2 fun σ2 H3 => tc σ2 H3 fun b H4 =>
      if b = true then te σ2 H4 fun v H5 => H5 D = some (.lst ys) ∧ ∃ m', m' < m ∧ W (i + 1) m' (ys ++ [v]) σ2 (upd H5 D (.lst (ys ++ [v])))
      else ∃ m', m' < m ∧ W (i + 1) m' ys σ2 H4))
theorem comp_block {X : Cx} {N : List Str} {scope : Scope} {cl : List (Str × Addr)} {mp : List (Option Nat)} {elt tg iter : Expr} {ifs : List Expr} {g : TG} {tc : TT} {te : TE} {pos : Pos} (B : Blk X N scope cl mp) (hc : X.calm = true)
    (hg : ∀ C s H fp, PG (blk X N scope cl C s H fp) tg g) (ht : ∀ C s H fp, PTs (blk X N scope cl C s H fp) ifs tc) (he : ∀ C s H fp, PE (blk X N scope cl C s H fp) elt te)
    {pins : List (Addr × Obj)} {σ : St} {HD : Hp} {s : Shared} {fp : List Addr} {it D : Addr} {tn : Nat → Heap → Prop} {J : It} {Qf : Hp → Prop} {W : Nat → Nat → List V → St → Hp → Prop} {m0 : Nat} {E : Value → Shared → Prop} {RR : Addr → Result → Shared → Prop}
    (I : Inv X pins σ HD s) (f : ∀ b ∈ fp, FpOk X pins HD b) (T : Turn X.prog X.w X.K tg J fp it tn) (st : tn 0 s.heap) (w0 : W 0 m0 [] (st0 mp σ) HD) (turn : CompW J D g tc te Qf W)
    (hRR : ∀ C H' σ' s', s.heap.objs.size ≤ C → Inv (blk X N scope cl C s HD fp) [] σ' H' s' → Qf H' → RR C (.ok .next) s') :
    wpAny (model X.prog X.w) X.A (newFunctionEnv scope X.env.globals cl [] X.env.qual none .none (some X.env)) (fun cenv s4 =>
      codeAny (model X.prog X.w) X.A (.compStart (.ListComp elt [⟨tg, iter, ifs, 0⟩] scope pos) 0 (.ref it) (.ref D) { cenv with scope := relabel scope X.env }) (RR cenv.locals) s4) E s := by
  have lt : ∀ b ∈ fp, b < s.heap.objs.size := fun b hb => let ⟨o, e, _⟩ := T.obj _ _ st b hb; Heap.lt_size e
  refine wpAny_newFunctionEnv B.cell (by intro y hy; simp at hy) (fun h3 hns hsb => ?_) B.kind
  have k3 : ∀ b o, s.heap.get? b = some o → h3.get? b = some o := fun b o e => (hsb.2 b (Nat.ne_of_lt (Heap.lt_size e))).trans (Heap.get?_push_of_some _ e)
  have JB := blk_inv (t' := s.toks + ([] : List (Str × Value)).length) B I f lt hns k3
  have st3 : tn 0 h3 := T.keep _ _ _ st fun b _ o e => k3 b o e
  have fin : ∀ b ∈ fp, b ∉ frs X.stack := fun b hb z => by
    obtain ⟨_, f1, f2, _⟩ := f b hb
    rcases List.mem_cons.mp (I.stkSub b z) with e | e
    · exact f1 e
    · exact f2 e
  have stat : ∀ {H' : Hp}, (∀ b ∈ fp, H' b = none) → ∀ b ∈ fp, FpOk (blk X N scope cl s.heap.objs.size s HD fp) [] H' b := fun {H'} hn b hb => by
    obtain ⟨f0, f1, f2, f3, f4, f5⟩ := f b hb
    exact ⟨hn b hb, Nat.ne_of_lt (lt b hb), fin b hb, .inl hb, fun x c e => f4 x c (B.sub x c e), fun p hp => absurd (show p ∈ ([] : List (Addr × Obj)) from hp) (by simp)⟩
  have loop : codeAny (model X.prog X.w) X.A (.compLoop (.ListComp elt [⟨tg, iter, ifs, 0⟩] scope pos) 0 (.ref it) (.ref D) (compEnvC scope cl s.heap.objs.size X.env)) (RR s.heap.objs.size) { s with heap := h3, toks := s.toks + ([] : List (Str × Value)).length } := by
    refine comp_turns (fun n s' => ∃ i ys σ' H', Inv (blk X N scope cl s.heap.objs.size s HD fp) [] σ' H' s' ∧ tn i s'.heap ∧ (∀ b ∈ fp, H' b = none) ∧ W i n ys σ' H') ?_ m0 ⟨0, [], _, HD, JB, st3, fun b hb => (f b hb).1, w0⟩
    rintro n s5 ⟨i, ys, σ5, H5, I5, st5, fr5, w5⟩
    obtain ⟨hD, tr⟩ := turn i n ys σ5 H5 w5
    rcases tr with ⟨stop, qn⟩ | ⟨go, hz, step⟩
    · refine thn (T.done (blk X N scope cl s.heap.objs.size s HD fp) rfl rfl rfl hc i [] s5 σ5 H5 E00 I5 (stat fr5) st5 stop) fun r s6 ⟨hr, I6⟩ => ?_
      subst hr
      exact hRR _ H5 σ5 s6 (Nat.le_refl _) I6 qn
    · refine thn (T.item (blk X N scope cl s.heap.objs.size s HD fp) rfl rfl rfl hc i [] s5 σ5 H5 E00 I5 (stat fr5) st5 go) fun r s6 ⟨u, hr, h6⟩ => ?_
      subst hr
      refine thn h6 fun _ s7 ⟨x, H7, I7, r7, y7, st7, fr7⟩ => ?_
      have I7' := I7.pinned (stat fr7) (T.obj _ _ st7)
      have again : ∀ {ys' : List V} {σ8 : St} {H8 : Hp} {s8 : Shared} {m' : Nat}, Inv (blk X N scope cl s.heap.objs.size s HD fp) ([] ++ pinsAt fp s7.heap) σ8 H8 s8 → m' < n → W (i + 1) m' ys' σ8 H8 →
          ∃ m, m < n ∧ ∃ i ys σ' H', Inv (blk X N scope cl s.heap.objs.size s HD fp) [] σ' H' s8 ∧ tn i s8.heap ∧ (∀ b ∈ fp, H' b = none) ∧ W i m ys σ' H' := fun {ys' σ8 H8 s8 m'} I8 hm w8 => by
        refine ⟨m', hm, i + 1, ys', σ8, H8, I8.unpinned, T.keep _ _ _ st7 fun b hb o e => (I8.pin (b, o) (List.mem_append_right _ (List.mem_append_right _ (mem_pinsAt hb e)))).1, fun b hb => ?_, w8⟩
        obtain ⟨o, e, d⟩ := T.obj _ _ st7 b hb
        exact (I8.pin (b, o) (List.mem_append_right _ (List.mem_append_right _ (mem_pinsAt hb e)))).2.1
      refine thn (hg _ _ _ _ _ s7 σ5 H7 x u _ I7' r7 (step x H7 y7)) fun _ s8 ⟨σ8, H8, I8, q8⟩ => ?_
      refine thn (ht _ _ _ _ _ s8 σ8 H8 _ I8 q8) fun ok s9 ⟨H9, I9, q9⟩ => ?_
      cases ok with
      | false =>
        rw [if_neg (by decide)] at q9
        obtain ⟨m', hm, w9⟩ := q9
        rw [if_neg (by decide)]
        exact again I9 hm w9
      | true =>
        rw [if_pos rfl] at q9
        rw [if_pos rfl]
        refine thn (he _ _ _ _ _ s9 σ8 H9 _ I9 q9) fun xv s10 ⟨v, H10, I10, r10, hD10, m', hm, w'⟩ => ?_
        refine thn (mt_append _ s10 σ8 H10 (.ref D) [v] (.ref D) [xv] (fun _ H' => H' = upd H10 D (.lst (ys ++ [v]))) I10 rfl (.cons r10 .nil) ⟨D, ys, v, rfl, rfl, hD10, hz, rfl⟩) fun _ s11 ⟨_, H11, I11, _, e11⟩ => ?_
        subst e11
        exact again I11 hm w'
  exact codeAny_compStart_list loop (T.self _ 0 _ _ _ st3 loop)
theorem pe_comp {X : Cx} {N : List Str} {scope : Scope} {cl : List (Str × Addr)} {mp : List (Option Nat)} {elt tg iter : Expr} {ifs : List Expr} {wi : TI} {g : TG} {tc : TT} {te : TE} {pos : Pos} (B : Blk X N scope cl mp) (hc : X.calm = true)
    (hi : PI X tg iter wi) (hg : ∀ C s H fp, PG (blk X N scope cl C s H fp) tg g) (ht : ∀ C s H fp, PTs (blk X N scope cl C s H fp) ifs tc) (he : ∀ C s H fp, PE (blk X N scope cl C s H fp) elt te)
    (hs : ∀ x, foldedSetIterable iter X.env x = pure x := by intro _; rfl) : PE X (.ListComp elt [⟨tg, iter, ifs, 0⟩] scope pos) (tComp mp wi g tc te) := by
  intro pins s σ H Q I h
  unfold tComp at h
  rw [eval_ListComp]
  refine wpAny_comprehension_free (use := none) (cl := cl) rfl hs B.clos B.kind B.nms (thn (hi pins s σ H _ I h) fun v s1 h1 => thn h1 fun itv s2 h2 => ?_)
  obtain ⟨it, fp, tn, J, H2, rfl, I2, T, st2, f2, q⟩ := h2
  have lt2 : ∀ b ∈ fp, b < s2.heap.objs.size := fun b hb => let ⟨o, e, _⟩ := T.obj _ _ st2 b hb; Heap.lt_size e
  obtain ⟨W, ⟨m0, w0⟩, turn⟩ := q _ I2.fresh
  have ID := I2.lnew (ys := []) (its := []) (t' := s2.toks) .nil (Nat.zero_le _)
  have fD' : ∀ b ∈ fp, FpOk X pins (upd H2 s2.heap.objs.size (.lst [])) b := fun b hb => by
    obtain ⟨f0, r⟩ := f2 b hb
    exact ⟨by rw [upd_ne (Nat.ne_of_lt (lt2 b hb))]; exact f0, r⟩
  refine wpAny_newObj_type (comp_block B hc hg ht he ID fD' T (T.keep _ _ _ st2 fun b _ o e => Heap.get?_push_of_some _ e) w0 turn fun C H' σ' s' hC J' qf => ?_)
  obtain ⟨m, hm, _⟩ := J'.loc
  exact ⟨m, hm, fun h' sb => ⟨.ref _, H', blk_out ID fD' hC J' sb, rfl, qf⟩⟩
end L2
namespace L2
open PySem PySem.Spec PyProof.Rows
def SqX (K : PySem.W.Frag) (b : Bool) (H : Hp) (a : Addr) (xs : List V) : Prop := match b with
  | true => SqT K H a xs
  | false => SqL K H a xs
section
variable {X : Cx} {pins : List (Addr × Obj)} {σ : St} {H : Hp} {s : Shared} {b : Bool} {a : Addr} {xs ys : List V}
theorem Inv.sq (I : Inv X pins σ H s) (h : SqX X.K b H a xs) : ∃ its : List Value, Vals xs its ∧ SqAt b s.heap a its.toArray := by
  cases b with
  | true => obtain ⟨its, rv, p, _⟩ := I.tuple h; exact ⟨its, rv, show s.heap.IsTuple a its.toArray from p⟩
  | false => obtain ⟨its, rv, p, _⟩ := I.list h; exact ⟨its, rv, p.isList⟩
theorem Inv.sq_inj (I : Inv X pins σ H s) (h : SqX X.K b H a xs) (h' : SqX X.K b H a ys) : xs = ys := by
  cases b with
  | true => exact I.tuple_inj h h'
  | false => exact I.list_inj h h'
theorem Inv.turnedL {ch : List Addr} {h' : Heap} {t' : Nat} (I : Inv X pins σ H s) (hf : ∀ b ∈ ch, FpOk X pins H b) (k : ∀ b o, b ∉ ch → s.heap.get? b = some o → h'.get? b = some o) : Inv X pins σ H { s with heap := h', toks := t' } := by
  have nch : ∀ b u, H b = some u → b ∉ ch := fun b u e z => by have q := (hf b z).1; rw [q] at e; cases e
  refine I.step (g' := s.gens) (d' := s.drawn) (ch := ch) (fun b hb => ?_) (fun b o _ _ hc e _ => k b o hc e) (fun b o _ _ hc e _ => ⟨o.slots, k b o hc e⟩) (fun _ _ _ _ n => n)
    (fun b o hc e => ⟨o, k b o hc e⟩) (fun _ _ e => e) (fun _ _ _ e => e) (fun b ps e => ⟨#[], by rw [e]; simp⟩) (fun m hm => ?_) (fun b u e => ?_) I.bare
  · obtain ⟨f0, f1, f2, f3, f4, f5⟩ := hf b hb
    exact ⟨f3, f1, f4, f5⟩
  · obtain ⟨o, es, ep, ho, r⟩ := hm
    exact ⟨o, es, ep, k _ o (fun z => (hf _ z).2.1 rfl) ho, r⟩
  · refine (I.hok b u e).stay (fun c v hc q => k c v ?_ q) (fun _ q => q) fun _ _ q => q
    rcases hc with z | z
    · rw [z]; exact nch b u e
    · exact nch c _ z
theorem Inv.drawn {ch : List Addr} {h' : Heap} {t' : Nat} {p : Addr} {o : HO} (I : Inv X pins σ H s) (hf : ∀ b ∈ ch, FpOk X pins H b) (k : ∀ b o, b ∉ ch → s.heap.get? b = some o → h'.get? b = some o) (hp : s.heap.objs.size ≤ p)
    (new : ObjOk X.prog X.w (upd H p o) h' p o) : Inv X pins σ (upd H p o) { s with heap := h', toks := t' } := by
  have nch : ∀ b u, H b = some u → b ∉ ch := fun b u e z => by have q := (hf b z).1; rw [q] at e; cases e
  have hn : H p = none := I.hok.fresh hp
  have np : ∀ b u, s.heap.get? b = some u → b ≠ p := fun b u e => Nat.ne_of_lt (Nat.lt_of_lt_of_le (Heap.lt_size e) hp)
  refine I.step (g' := s.gens) (d' := s.drawn) (ch := ch) (fun b hb => ?_) (fun b o _ _ hc e _ => k b o hc e) (fun b o _ _ hc e _ => ⟨o.slots, k b o hc e⟩) (fun b o _ e n => by rw [upd_ne (np b o e)]; exact n)
    (fun b o hc e => ⟨o, k b o hc e⟩) (fun b xs e => by rw [upd_ne (ne_of_none e hn)]; exact e) (fun b o u e => by rw [upd_ne (ne_of_none e hn)]; exact e) (fun b ps e => ⟨#[], by rw [upd_ne (ne_of_none e hn), e]; simp⟩) (fun m hm => ?_) (fun b u e => ?_) I.bare
  · obtain ⟨f0, f1, f2, f3, f4, f5⟩ := hf b hb
    exact ⟨f3, f1, f4, f5⟩
  · obtain ⟨o, es, ep, ho, r⟩ := hm
    exact ⟨o, es, ep, k _ o (fun z => (hf _ z).2.1 rfl) ho, r⟩
  · by_cases hb : b = p
    · subst hb; rw [upd_same] at e; cases e; exact new
    · rw [upd_ne hb] at e
      refine (I.hok b u e).stay (fun c v hc q => k c v ?_ q) (fun c q => by rw [upd_ne (ne_of_none q hn)]; exact q) fun c xs q => by rw [upd_ne (ne_of_none q hn)]; exact q
      rcases hc with z | z
      · rw [z]; exact nch b u e
      · exact nch c _ z
end
def Itz (K : PySem.W.Frag) (b1 b2 : Bool) (a1 a2 : Addr) : It :=
  ⟨fun i H => ∃ xs ys x y, SqX K b1 H a1 xs ∧ SqX K b2 H a2 ys ∧ xs[i]? = some x ∧ ys[i]? = some y,
   fun i H v H' => ∃ p x y, H p = none ∧ v = .ref p ∧ H' = upd H p (.tup [x, y]) ∧ (∀ xs, SqX K b1 H a1 xs → xs[i]? = some x) ∧ ∀ ys, SqX K b2 H a2 ys → ys[i]? = some y,
   fun i H => ∃ xs ys, SqX K b1 H a1 xs ∧ SqX K b2 H a2 ys ∧ (xs.length ≤ i ∨ ys.length ≤ i)⟩
theorem turn_zip {P : Program} {w : World} {K : PySem.W.Frag} {es : List Expr} {ek : Nat} {pos : Pos} (b1 b2 : Bool) {z TI TO i1 i2 a1 a2 : Addr} (D : ZipApart z TI TO i1 i2 a1 a2) :
    Turn P w K (.Tuple es ek pos) (Itz K b1 b2 a1 a2) [z, TI, TO, i1, i2] z (fun i h => ZSt b1 b2 z TI TO i1 i2 a1 a2 .none i h) where
  mem := by simp
  obj := fun i h st b hb => by
    simp only [List.mem_cons, List.not_mem_nil, or_false] at hb
    rcases hb with rfl | rfl | rfl | rfl | rfl
    · exact ⟨_, st.zip, fun v q => by cases q⟩
    · exact ⟨_, st.ti, fun v q => by cases q⟩
    · obtain ⟨a, b, e⟩ := st.to
      exact ⟨_, e, fun v q => by cases q⟩
    · exact st.it1.obj
    · exact st.it2.obj
  keep := fun i h h' st k => st.at k
  item := by
    intro X hP hw hK hc i pins s σ H E I hf st hg
    subst hP hw hK
    obtain ⟨xs, ys, x, y, h1, h2, hx, hy⟩ := hg
    obtain ⟨us, ru, q1⟩ := I.sq h1
    obtain ⟨ws, rw', q2⟩ := I.sq h2
    obtain ⟨u, eu, rx⟩ := ru.get hx
    obtain ⟨v, ev, ry⟩ := rw'.get hy
    refine pyNext_zip_item D st q1 q2 (x := u) (y := v) (by simpa using eu) (by simpa using ev) fun h' S p8 s8 k => ?_
    refine ⟨_, rfl, wpAny_letOwnedTupleGo_zip S.zip fun h'' z' e' => ?_⟩
    have zlt : z < s.heap.objs.size := Heap.lt_size st.zip
    have zp : s.heap.objs.size ≠ z := Nat.ne_of_gt zlt
    have kk : ∀ b o, b ∉ [z, TO, i1, i2] → s.heap.get? b = some o → h''.get? b = some o := fun b o hb e => by
      simp only [List.mem_cons, List.not_mem_nil, or_false, not_or] at hb
      exact e'.extBut _ _ hb.1 (k b o hb.1 hb.2.1 hb.2.2.1 hb.2.2.2 e)
    have pp : IsPair h'' s.heap.objs.size u v := e'.extBut _ _ zp p8
    refine ⟨.ref s.heap.objs.size, upd H s.heap.objs.size (.tup [x, y]), I.drawn (t' := s.toks) (ch := [z, TO, i1, i2]) (fun b hb => hf b ?_) kk (Nat.le_refl _) ?_, rfl, ⟨_, x, y, I.fresh, rfl, rfl, fun xs' hq => ?_, fun ys' hq => ?_⟩, ?_, fun b hb => ?_⟩
    · simp only [List.mem_cons, List.not_mem_nil, or_false] at hb ⊢
      rcases hb with rfl | rfl | rfl | rfl <;> simp
    · exact ⟨by show 2 ≤ sizeLine; rw [sizeLine_eq]; decide, [u, v], .cons rx (.cons ry .nil), ⟨_, pp, rfl, _, rfl⟩⟩
    · rw [I.sq_inj hq h1]; exact hx
    · rw [I.sq_inj hq h2]; exact hy
    · exact ⟨z', e'.extBut _ _ D.TIz S.ti, (let ⟨a, b, e⟩ := S.to; ⟨a, b, e'.extBut _ _ D.TOz e⟩), S.it1.at fun o q => e'.extBut _ _ D.i1z q, S.it2.at fun o q => e'.extBut _ _ D.i2z q⟩
    · obtain ⟨o, e, _⟩ : ∃ o, s.heap.get? b = some o ∧ ∀ v, o.data ≠ .cell v := by
        simp only [List.mem_cons, List.not_mem_nil, or_false] at hb
        rcases hb with rfl | rfl | rfl | rfl | rfl
        · exact ⟨_, st.zip, fun v q => by cases q⟩
        · exact ⟨_, st.ti, fun v q => by cases q⟩
        · obtain ⟨a, b, e⟩ := st.to
          exact ⟨_, e, fun v q => by cases q⟩
        · exact st.it1.obj
        · exact st.it2.obj
      rw [upd_ne (Nat.ne_of_lt (Heap.lt_size e))]
      exact (hf b hb).1
  done := by
    intro X hP hw hK hc i pins s σ H E I hf st hg
    subst hP hw hK
    obtain ⟨xs, ys, h1, h2, hl⟩ := hg
    obtain ⟨us, ru, q1⟩ := I.sq h1
    obtain ⟨ws, rw', q2⟩ := I.sq h2
    have l1 := ru.length
    have l2 := rw'.length
    refine pyNext_zip_end (I.ok.hd hc) D st q1 q2 ?_ fun h' k => ⟨rfl, I.turnedL (t' := s.toks) (ch := [z, TO, i1, i2]) (fun b hb => hf b ?_) fun b o hb e => ?_⟩
    · rcases hl with hl | hl
      · exact .inl (by simp; omega)
      · exact .inr (by simp; omega)
    · simp only [List.mem_cons, List.not_mem_nil, or_false] at hb ⊢
      rcases hb with rfl | rfl | rfl | rfl <;> simp
    · simp only [List.mem_cons, List.not_mem_nil, or_false, not_or] at hb
      exact k b o hb.1 hb.2.1 hb.2.2.1 hb.2.2.2 e
  self := fun _ _ _ _ _ st h => wpAny_pyIter_zip st.zip h
def iZip (K : PySem.W.Frag) (b1 b2 : Bool) (ta : TA) : TI := fun σ H R => ta σ H fun vs H1 => ∃ a1 a2, vs = [.ref a1, .ref a2] ∧ (∃ xs, SqX K b1 H1 a1 xs) ∧ (∃ ys, SqX K b2 H1 a2 ys) ∧ R (Itz K b1 b2 a1 a2) H1
theorem pi_zip {X : Cx} {es : List Expr} {ek : Nat} {tpos p pos : Pos} (b1 b2 : Bool) {e1 e2 : Expr} {ta : TA} (hg : Gl X "zip") (hm : X.mg "zip" = none) (ha : PA X [e1, e2] ta)
    (he : starEach [e1, e2] X.env = (false, eval e1 X.env) :: starEach [e2] X.env := by rfl) (hpl : (backTo pos (starEach [e2] X.env)).any (·.1) = false := by rfl) :
    PI X (.Tuple es ek tpos) (.Call (.Name "zip" p) [e1, e2] [] pos) (iZip X.K b1 b2 ta) := by
  intro pins s σ H R I h
  refine wpAny_Call_Name_kw (ld_blt I hg hm boot_zip ?_ (by decide) (by decide))
  refine PyProof.Rows.callWith_type1 (thn (ha pos pins s σ H _ I h) fun us s1 ⟨vs, H1, I1, r1, a1, a2, ev, ⟨xs, h1⟩, ⟨ys, h2⟩, q⟩ => ?_) he hpl
  subst ev
  obtain ⟨u1, u2, rfl, e1', e2'⟩ := r1.two
  cases e1'; cases e2'
  obtain ⟨us, ru, q1⟩ := I1.sq h1
  obtain ⟨ws, rw', q2⟩ := I1.sq h2
  have lt1 : a1 < s1.heap.objs.size := by cases b1 <;> (obtain ⟨o, e, _⟩ := q1; exact Heap.lt_size e)
  have lt2 : a2 < s1.heap.objs.size := by cases b2 <;> (obtain ⟨o, e, _⟩ := q2; exact Heap.lt_size e)
  refine call_zip q1 q2 fun h' S k z5 => wpAny_pyIter_zip S.zip ?_
  have I2 : Inv X pins σ H1 { s1 with heap := h' } := I1.kept (t' := s1.toks) k
  refine ⟨s1.heap.objs.size + 4, [s1.heap.objs.size + 4, s1.heap.objs.size + 2, s1.heap.objs.size + 3, s1.heap.objs.size, s1.heap.objs.size + 1], _, _, H1, rfl, I2, turn_zip b1 b2 (zipApart_new lt1 lt2), S, fun b hb => ?_, q⟩
  have hb' : s1.heap.objs.size ≤ b := by
    simp only [List.mem_cons, List.not_mem_nil, or_false] at hb
    rcases hb with rfl | rfl | rfl | rfl | rfl
    · exact Nat.le_add_right _ 4
    · exact Nat.le_add_right _ 2
    · exact Nat.le_add_right _ 3
    · exact Nat.le_refl _
    · exact Nat.le_add_right _ 1
  exact I1.fpOk hb' (I1.hok.fresh hb')
end L2
namespace L2
open PySem PySem.Spec PyProof.Rows
theorem Same.upd {H : Hp} {p : Addr} {o : HO} (h : H p = none) : Same H (upd H p o) := fun b u e => by rw [upd_ne (ne_of_none e h)]; exact e
theorem Same.updR {H H' : Hp} {p : Addr} {o : HO} (e : Same H H') (h : H p = none) : Same H (L2.upd H' p o) := fun b u q => by rw [upd_ne (ne_of_none q h)]; exact e b u q
theorem Same.seqT {K : PySem.W.Frag} {H H' : Hp} {a : Addr} {xs : List V} (e : Same H H') (h : SqT K H a xs) : SqT K H' a xs := by
  rcases h with (h | ⟨o, h⟩) | h
  · exact .inl (.inl (e _ _ h))
  · exact .inl (.inr ⟨o, e _ _ h⟩)
  · exact .inr h
theorem Same.sqX {K : PySem.W.Frag} {b : Bool} {H H' : Hp} {a : Addr} {xs : List V} (e : Same H H') (h : SqX K b H a xs) : SqX K b H' a xs := by
  cases b with
  | true => exact e.seqT h
  | false => exact e.seq h
structure Walk (J : It) (H1 : Hp) (n : Nat) (P : Nat → V → Hp → Prop) : Prop where
  go : ∀ i H', Same H1 H' → i < n → J.go i H'
  stop : ∀ H', Same H1 H' → J.stop n H'
  yld : ∀ i H' x H2, Same H1 H' → i < n → J.yld i H' x H2 → Same H' H2 ∧ P i x H2
theorem walk_list {K : PySem.W.Frag} {H1 : Hp} {a : Addr} {xs : List V} (h : SqL K H1 a xs) : Walk (Itl K a) H1 xs.length (fun i x _ => xs[i]? = some x) :=
  ⟨fun i H' e hi => ⟨xs, xs[i], e.seq h, by simp [hi]⟩, fun H' e => ⟨xs, e.seq h, Nat.le_refl _⟩, fun i H' x H2 e hi y => by
    obtain ⟨rfl, q⟩ := y
    exact ⟨Same.refl _, q xs (e.seq h)⟩⟩
theorem walk_range {H1 : Hp} (lo : Int) (n : Nat) : Walk (Itr lo n) H1 n (fun i x _ => x = .int (lo + i)) :=
  ⟨fun i H' e hi => hi, fun H' e => Nat.le_refl _, fun i H' x H2 e hi y => by
    obtain ⟨rfl, q⟩ := y
    exact ⟨Same.refl _, q⟩⟩
theorem walk_zip {K : PySem.W.Frag} {b1 b2 : Bool} {H1 : Hp} {a1 a2 : Addr} {xs ys : List V} (h1 : SqX K b1 H1 a1 xs) (h2 : SqX K b2 H1 a2 ys) :
    Walk (Itz K b1 b2 a1 a2) H1 (min xs.length ys.length) (fun i v H => ∃ p x y, v = .ref p ∧ H p = some (.tup [x, y]) ∧ xs[i]? = some x ∧ ys[i]? = some y) := by
  refine ⟨fun i H' e hi => ?_, fun H' e => ⟨xs, ys, e.sqX h1, e.sqX h2, ?_⟩, fun i H' x H2 e hi q => ?_⟩
  · have i1 : i < xs.length := by omega
    have i2 : i < ys.length := by omega
    exact ⟨xs, ys, xs[i], ys[i], e.sqX h1, e.sqX h2, by simp [i1], by simp [i2]⟩
  · rcases Nat.le_total xs.length ys.length with q | q
    · exact .inl (by omega)
    · exact .inr (by omega)
  · obtain ⟨p, u, v, hp, rfl, rfl, q1, q2⟩ := q
    exact ⟨Same.upd hp, p, u, v, rfl, upd_same, q1 xs (e.sqX h1), q2 ys (e.sqX h2)⟩
theorem comp_of {J : It} {H1 : Hp} {n : Nat} {P : Nat → V → Hp → Prop} {g : TG} {tc : TT} {te : TE} {Q : VK} {σ0 : St} {D : Addr} (S : Walk J H1 n P) (hD : H1 D = none) (hn : n ≤ sizeLine) (Sv : St → Prop) (p : Nat → Bool) (F : Nat → V → Hp → Prop)
    (monoS : ∀ i v H H', Same H H' → F i v H → F i v H') (monoU : ∀ i v H a ys ys', H a = some (.lst ys) → F i v H → F i v (upd H a (.lst ys'))) (h0 : Sv σ0)
    (step : ∀ i x σ' H2, i < n → Sv σ' → Same H1 H2 → P i x H2 → ∀ (Ny : V → St → Hp → Prop) (Nn : St → Hp → Prop), (∀ v σ2 H5, Sv σ2 → Same H2 H5 → F i v H5 → p i = true → Ny v σ2 H5) → (∀ σ2 H4, Sv σ2 → Same H2 H4 → p i = false → Nn σ2 H4) →
      g x σ' H2 fun σ2 H3 => tc σ2 H3 fun b H4 => if b = true then te σ2 H4 fun v H5 => Ny v σ2 H5 else Nn σ2 H4)
    (hQ : ∀ H' ys, Same H1 H' → H' D = some (.lst ys) → Paired (fun i v => F i v H') ((List.range n).filter p) ys → Q (.ref D) H') :
    ∃ W : Nat → Nat → List V → St → Hp → Prop, (∃ m, W 0 m [] σ0 (upd H1 D (.lst []))) ∧ ∀ i m ys σ' H', W i m ys σ' H' → H' D = some (.lst ys) ∧
    ((J.stop i H' ∧ Q (.ref D) H') ∨ (J.go i H' ∧ ys.length < sizeLine ∧ ∀ x H2, J.yld i H' x H2 → g x σ' H2 fun σ2 H3 => tc σ2 H3 fun b H4 =>
      if b = true then te σ2 H4 fun v H5 => H5 D = some (.lst ys) ∧ ∃ m', m' < m ∧ W (i + 1) m' (ys ++ [v]) σ2 (upd H5 D (.lst (ys ++ [v])))
      else ∃ m', m' < m ∧ W (i + 1) m' ys σ2 H4)) := by
  refine ⟨fun i m ys σ' H' => m = n - i ∧ i ≤ n ∧ Sv σ' ∧ Same H1 H' ∧ H' D = some (.lst ys) ∧ Paired (fun j v => F j v H') ((List.range i).filter p) ys, ⟨n, rfl, Nat.zero_le _, h0, Same.upd hD, upd_same, .nil⟩, ?_⟩
  rintro i m ys σ' H' ⟨rfl, hi, hs, hS, hL, hF⟩
  refine ⟨hL, ?_⟩
  have rs : (List.range (i + 1)).filter p = (List.range i).filter p ++ (if p i = true then [i] else []) := by
    rw [List.range_succ, List.filter_append]
    cases q : p i <;> simp [q]
  by_cases hlt : i < n
  · refine .inr ⟨S.go i H' hS hlt, ?_, fun x H2 y => ?_⟩
    · have l1 := hF.length
      have l2 : ((List.range i).filter p).length ≤ (List.range i).length := List.length_filter_le _ _
      rw [List.length_range] at l2
      omega
    · obtain ⟨e2, hP⟩ := S.yld i H' x H2 hS hlt y
      refine step i x σ' H2 hlt hs (hS.trans e2) hP _ _ (fun v σ2 H5 s2 e5 f5 hp => ?_) fun σ2 H4 s2 e4 hp => ?_
      · have l5 : H5 D = some (.lst ys) := e5 _ _ (e2 _ _ hL)
        refine ⟨l5, n - (i + 1), by omega, rfl, hlt, s2, ((hS.trans e2).trans e5).updR hD, upd_same, ?_⟩
        rw [rs, if_pos hp]
        refine Paired.snoc (Paired.imp' (fun j w q => ?_) hF) (monoU i v H5 D ys _ l5 f5)
        exact monoU j w H5 D ys _ l5 (monoS j w H' H5 (e2.trans e5) q)
      · refine ⟨n - (i + 1), by omega, rfl, hlt, s2, (hS.trans e2).trans e4, e4 _ _ (e2 _ _ hL), ?_⟩
        rw [rs, if_neg (by rw [hp]; decide), List.append_nil]
        exact Paired.imp' (fun j w q => monoS j w H' H4 (e2.trans e4) q) hF
  · have e : i = n := by omega
    subst e
    exact .inl ⟨S.stop H' hS, hQ H' ys hS hL hF⟩
theorem Paired.eq_map {β : Type} {f : Nat → β} : ∀ {l : List Nat} {ys : List β}, Paired (fun i v => v = f i) l ys → ys = l.map f
  | _, _, .nil => rfl
  | _, _, .cons r t => by rw [List.map_cons, r, Paired.eq_map t]
theorem comp_vals {J : It} {H1 : Hp} {n : Nat} {P : Nat → V → Hp → Prop} {g : TG} {tc : TT} {te : TE} {Q : VK} {σ0 : St} {D : Addr} (S : Walk J H1 n P) (hD : H1 D = none) (hn : n ≤ sizeLine) (Sv : St → Prop) (p : Nat → Bool) (f : Nat → V) (h0 : Sv σ0)
    (step : ∀ i x σ' H2, i < n → Sv σ' → Same H1 H2 → P i x H2 → ∀ (Ny : V → St → Hp → Prop) (Nn : St → Hp → Prop), (∀ σ2 H5, Sv σ2 → Same H2 H5 → p i = true → Ny (f i) σ2 H5) → (∀ σ2 H4, Sv σ2 → Same H2 H4 → p i = false → Nn σ2 H4) →
      g x σ' H2 fun σ2 H3 => tc σ2 H3 fun b H4 => if b = true then te σ2 H4 fun v H5 => Ny v σ2 H5 else Nn σ2 H4)
    (hQ : ∀ H', Same H1 H' → H' D = some (.lst (((List.range n).filter p).map f)) → Q (.ref D) H') :
    ∃ W : Nat → Nat → List V → St → Hp → Prop, (∃ m, W 0 m [] σ0 (upd H1 D (.lst []))) ∧ ∀ i m ys σ' H', W i m ys σ' H' → H' D = some (.lst ys) ∧
    ((J.stop i H' ∧ Q (.ref D) H') ∨ (J.go i H' ∧ ys.length < sizeLine ∧ ∀ x H2, J.yld i H' x H2 → g x σ' H2 fun σ2 H3 => tc σ2 H3 fun b H4 =>
      if b = true then te σ2 H4 fun v H5 => H5 D = some (.lst ys) ∧ ∃ m', m' < m ∧ W (i + 1) m' (ys ++ [v]) σ2 (upd H5 D (.lst (ys ++ [v])))
      else ∃ m', m' < m ∧ W (i + 1) m' ys σ2 H4)) :=
  comp_of S hD hn Sv p (fun i v _ => v = f i) (fun _ _ _ _ _ q => q) (fun _ _ _ _ _ _ _ q => q) h0
    (fun i x σ' H2 hi hs e hP Ny Nn hy hn' => step i x σ' H2 hi hs e hP Ny Nn (fun σ2 H5 s2 e5 hp => hy _ σ2 H5 s2 e5 rfl hp) hn')
    fun H' ys e hL hF => hQ H' e (by rw [← Paired.eq_map hF]; exact hL)
end L2
namespace L2
open PySem PySem.Spec PyProof.Rows
theorem relabel_free {env : Env} : ∀ {names : List (Str × NameKind)} {x : Str}, names.lookup x = some .free →
    (names.map fun (n, k) => if (k == NameKind.free && env.scope.kind == .function && env.kindOf n == some .cell) then (n, NameKind.cell) else (n, k)).lookup x = some .cell ∨
    (names.map fun (n, k) => if (k == NameKind.free && env.scope.kind == .function && env.kindOf n == some .cell) then (n, NameKind.cell) else (n, k)).lookup x = some .free
  | [], _, h => by simp at h
  | (n, k) :: r, x, h => by
    have ih := @relabel_free env r x
    rw [List.map_cons]
    cases hx : x == n with
    | true =>
      simp only [List.lookup_cons, hx] at h
      cases h
      by_cases hc : (NameKind.free == NameKind.free && env.scope.kind == .function && env.kindOf n == some .cell) = true
      · dsimp only; rw [if_pos hc]; simp only [List.lookup_cons, hx]; exact .inl trivial
      · dsimp only; rw [if_neg hc]; simp only [List.lookup_cons, hx]; exact .inr trivial
    | false =>
      simp only [List.lookup_cons, hx] at h
      by_cases hc : (k == NameKind.free && env.scope.kind == .function && env.kindOf n == some .cell) = true
      · dsimp only; rw [if_pos hc]; simp only [List.lookup_cons, hx]; exact ih h
      · dsimp only; rw [if_neg hc]; simp only [List.lookup_cons, hx]; exact ih h
theorem relabel_kind {env : Env} {names : List (Str × NameKind)} {x : Str} {k : NameKind} (hk : k = .cell ∨ k = .free) (nc : ∀ y ∈ names, y.2 ≠ .cell)
    (h : (names.map fun (n, k) => if (k == NameKind.free && env.scope.kind == .function && env.kindOf n == some .cell) then (n, NameKind.cell) else (n, k)).lookup x = some k) : ∃ y ∈ names, y.1 = x ∧ y.2 = .free := by
  have m := PySem.mem_of_lookup h
  obtain ⟨⟨n, k0⟩, hm, e⟩ := List.mem_map.mp m
  dsimp only at e
  by_cases hc : (k0 == NameKind.free && env.scope.kind == .function && env.kindOf n == some .cell) = true
  · rw [if_pos hc] at e
    simp only [Bool.and_eq_true, beq_iff_eq] at hc
    cases e
    exact ⟨_, hm, rfl, hc.1.1⟩
  · rw [if_neg hc] at e
    cases e
    refine ⟨_, hm, rfl, ?_⟩
    rcases hk with z | z
    · exact absurd z (nc _ hm)
    · exact z
theorem Blk.of {X : Cx} {N : List Str} {scope : Scope} {cl : List (Str × Addr)} {mp : List (Option Nat)} (clos : closureFor scope X.env = pure cl) (cell : ∀ y ∈ scope.names, y.2 ≠ .cell) (kind : scope.kind = .function)
    (nms : ∀ y ∈ scope.names, y.2 = .local → scope.names.lookup y.1 = some .local) (nd : N.Nodup) (sub : ∀ x c, cl.lookup x = some c → X.env.cells.lookup x = some c) (fr : ∀ y ∈ scope.names, y.2 = .free → ∃ c, cl.lookup y.1 = some c) (len : mp.length = N.length)
    (map : ∀ (i j : Nat) (x : Str), mp[i]? = some (some j) → N[i]? = some x → X.N[j]? = some x ∧ (X.env.scope.names.lookup x = some .cell ∨ X.env.scope.names.lookup x = some .free) ∧ scope.names.lookup x = some .free) : Blk X N scope cl mp := by
  refine ⟨clos, cell, kind, nms, nd, sub, fun x hx => ?_, len, fun i j x h1 h2 => ?_⟩
  · have : ∃ y ∈ scope.names, y.1 = x ∧ y.2 = .free := hx.elim (fun z => relabel_kind (.inl rfl) cell z) fun z => relabel_kind (.inr rfl) cell z
    obtain ⟨y, hy, rfl, hf⟩ := this
    exact fr y hy hf
  · obtain ⟨q1, q2, q3⟩ := map i j x h1 h2
    exact ⟨q1, q2, relabel_free q3⟩
theorem Blk.plain {X : Cx} {N : List Str} {scope : Scope} (fr : ∀ y ∈ scope.names, y.2 ≠ .free) (cell : ∀ y ∈ scope.names, y.2 ≠ .cell) (kind : scope.kind = .function) (nms : ∀ y ∈ scope.names, y.2 = .local → scope.names.lookup y.1 = some .local) (nd : N.Nodup) :
    Blk X N scope [] (N.map fun _ => none) :=
  Blk.of (closureFor_none fr) cell kind nms nd (fun _ _ h => nomatch h) (fun y hy h => absurd h (fr y hy)) (List.length_map _) fun i j x h => by
    rw [List.getElem?_map] at h
    cases q : N[i]? with
    | none => rw [q] at h; cases h
    | some z => rw [q] at h; cases h
def zipV (p : Int → Int → Bool) (φ : Int → Int → V) (xs ys : List Int) : List V := ((List.range (min xs.length ys.length)).filter fun i => p (xs.getD i 0) (ys.getD i 0)).map fun i => φ (xs.getD i 0) (ys.getD i 0)
theorem getD_of_map {xs : List Int} {i : Nat} {v : V} (h : (xs.map V.int)[i]? = some v) : v = .int (xs.getD i 0) := by
  rw [List.getElem?_map] at h
  cases q : xs[i]? with
  | none => rw [q] at h; cases h
  | some z =>
    rw [q] at h
    have e : xs.getD i 0 = z := by rw [List.getD_eq_getElem?_getD, q]; rfl
    rw [e]; exact (Option.some.inj h).symm
theorem two_set {σ : St} (h : σ.length = 2) (x y : V) : (σ.set 0 (some x)).set 1 (some y) = [some x, some y] := by
  match σ, h with
  | [_, _], _ => rfl
theorem zip_comp {K : PySem.W.Frag} {b1 b2 : Bool} {a b : Addr} {xs ys : List Int} {mp : List (Option Nat)} {ta : TA} {tc : TT} {te : TE} {σ : St} {H H1 : Hp} {Q : VK} (p : Int → Int → Bool) (φ : Int → Int → V) (hmp : mp.length = 2) (hta : ∀ R, R [.ref a, .ref b] H1 → ta σ H R)
    (h1 : SqX K b1 H1 a (xs.map V.int)) (h2 : SqX K b2 H1 b (ys.map V.int)) (hz : xs.length ≤ 1000)
    (htc : ∀ (i : Nat) H' (R : Bool → Hp → Prop), R (p (xs.getD i 0) (ys.getD i 0)) H' → tc [some (.int (xs.getD i 0)), some (.int (ys.getD i 0))] H' R)
    (hte : ∀ (i : Nat) H' (R : VK), p (xs.getD i 0) (ys.getD i 0) = true → R (φ (xs.getD i 0) (ys.getD i 0)) H' → te [some (.int (xs.getD i 0)), some (.int (ys.getD i 0))] H' R)
    (hQ : ∀ D H', Same H1 H' → H' D = some (.lst (zipV p φ xs ys)) → Q (.ref D) H') :
    tComp mp (iZip K b1 b2 ta) (gTup K 2 (gCons (gName 0) (gCons (gName 1) gNil))) tc te σ H Q := by
  unfold tComp
  refine hta _ ⟨a, b, rfl, ⟨_, h1⟩, ⟨_, h2⟩, fun D hD => ?_⟩
  have W := walk_zip h1 h2
  rw [List.length_map, List.length_map] at W
  refine comp_vals W hD (Nat.le_trans (Nat.min_le_left _ _) (Nat.le_trans hz (by rw [sizeLine_eq]; decide))) (fun σ => σ.length = 2) (fun i => p (xs.getD i 0) (ys.getD i 0)) (fun i => φ (xs.getD i 0) (ys.getD i 0)) (by unfold st0; rw [List.length_map]; exact hmp) ?_ fun H' e hL => hQ D H' e hL
  rintro i v σ' H2 hi hs e ⟨q, u, w, rfl, hq, hu, hw⟩ Ny Nn hy hn
  rw [getD_of_map hu, getD_of_map hw] at hq
  refine ⟨q, _, rfl, SqT.of hq, rfl, _, _, rfl, _, _, rfl, rfl, ?_⟩
  rw [two_set hs]
  refine htc _ _ _ ?_
  cases hp : p (xs.getD i 0) (ys.getD i 0) with
  | true => rw [if_pos rfl]; exact hte _ _ _ hp (hy _ _ rfl (Same.refl _) hp)
  | false => rw [if_neg (by decide)]; exact hn _ _ rfl (Same.refl _) hp
end L2
namespace L2
open PySem PySem.Spec PyProof.Rows
theorem pg_two {X : Cx} {K : PySem.W.Frag} {x y : Str} {px py tp : Pos} {k : Nat} (hK : X.K = K) (hc : X.calm = true) (hN : X.N = [x, y]) (nd : ([x, y] : List Str).Nodup) (hx : X.env.scope.names.lookup x = some .local) (hy : X.env.scope.names.lookup y = some .local) :
    PG X (.Tuple [.Name x px, .Name y py] k tp) (gTup K 2 (gCons (gName 0) (gCons (gName 1) gNil))) := by
  subst hK
  have nd' : X.N.Nodup := by rw [hN]; exact nd
  exact pg_tup hc (pgs_cons (pg_name (i := 0) nd' (by rw [hN]; rfl) (.inl hx) (.inr hx)) (pgs_cons (pg_name (i := 1) nd' (by rw [hN]; rfl) (.inl hy) (.inr hy)) pgs_nil))
theorem pg_one {X : Cx} {x : Str} {px : Pos} {i : Nat} (nd : X.N.Nodup) (hN : X.N[i]? = some x) (hx : X.env.scope.names.lookup x = some .local) : PG X (.Name x px) (gName i) := pg_name nd hN (.inl hx) (.inr hx)
end L2
namespace L2
open PySem PySem.Spec PyProof.Rows
theorem range_comp {mp : List (Option Nat)} {ta : TA} {g : TG} {tc : TT} {te : TE} {σ : St} {H H1 : Hp} {Q : VK} (n : Int) (Sv : St → Prop) (p : Nat → Bool) (f : Nat → V) (hn0 : 0 ≤ n) (hn : n ≤ 1000) (hta : ∀ R, R [.int n] H1 → ta σ H R) (h0 : Sv (st0 mp σ))
    (step : ∀ (i : Nat) σ' H2, (i : Int) < n → Sv σ' → Same H1 H2 → ∀ (Ny : V → St → Hp → Prop) (Nn : St → Hp → Prop), (∀ σ2 H5, Sv σ2 → Same H2 H5 → p i = true → Ny (f i) σ2 H5) → (∀ σ2 H4, Sv σ2 → Same H2 H4 → p i = false → Nn σ2 H4) →
      g (.int (0 + (i : Int))) σ' H2 fun σ2 H3 => tc σ2 H3 fun b H4 => if b = true then te σ2 H4 fun v H5 => Ny v σ2 H5 else Nn σ2 H4)
    (hQ : ∀ D H', Same H1 H' → H' D = some (.lst (((List.range n.toNat).filter p).map f)) → Q (.ref D) H') : tComp mp (iRng1 ta) g tc te σ H Q := by
  unfold tComp
  refine hta _ ⟨n, rfl, by omega, by omega, fun D hD => ?_⟩
  refine comp_vals (walk_range 0 n.toNat) hD (Nat.le_trans (show n.toNat ≤ 1000 by omega) (by rw [sizeLine_eq]; decide)) Sv p f h0 ?_ fun H' e hL => hQ D H' e hL
  rintro i v σ' H2 hi hs e rfl Ny Nn hy hn'
  exact step i σ' H2 (by omega) hs e Ny Nn hy hn'
end L2
namespace L2
open PySem PySem.Spec PyProof.Rows
theorem for_same {J : It} {H1 : Hp} {n : Nat} {P : Nat → V → Hp → Prop} {g : TG} {tb : TS} {D : Ends} {σ : St} (S : Walk J H1 n P) (Sv : Nat → St → Prop) (h0 : Sv 0 σ)
    (hs : ∀ i x σ H', i < n → Sv i σ → Same H1 H' → P i x H' → g x σ H' fun σ2 H2 => tb { D with nx := fun σ3 H3 => Sv (i + 1) σ3 ∧ Same H1 H3, ct := fun σ3 H3 => Sv (i + 1) σ3 ∧ Same H1 H3, bk := D.nx } σ2 H2)
    (hd : ∀ σ H, Sv n σ → Same H1 H → D.nx σ H) :
    ∃ W : Nat → Nat → St → Hp → Prop, (∃ m, W 0 m σ H1) ∧ ∀ i m σ H, W i m σ H →
      (J.stop i H ∧ D.nx σ H) ∨ (J.go i H ∧ ∃ N : St → Hp → Prop, (∀ σ' H', N σ' H' → ∃ m', m' < m ∧ W (i + 1) m' σ' H') ∧ ∀ x H', J.yld i H x H' → g x σ H' fun σ2 H2 => tb { D with nx := N, ct := N, bk := D.nx } σ2 H2) := by
  refine ⟨fun i m σ H => m = n - i ∧ i ≤ n ∧ Sv i σ ∧ Same H1 H, ⟨n, rfl, Nat.zero_le _, h0, Same.refl _⟩, ?_⟩
  rintro i m σ H ⟨rfl, hi, sv, e⟩
  by_cases hlt : i < n
  · refine .inr ⟨S.go i H e hlt, fun σ3 H3 => Sv (i + 1) σ3 ∧ Same H1 H3, fun σ' H' q => ⟨n - (i + 1), by omega, rfl, hlt, q.1, q.2⟩, fun x H' y => ?_⟩
    obtain ⟨e2, hP⟩ := S.yld i H x H' e hlt y
    exact hs i x σ H' hlt sv (e.trans e2) hP
  · have z : i = n := by omega
    subst z
    exact .inl ⟨S.stop H e, hd σ H sv e⟩
end L2
namespace L2
open PySem PySem.Spec PyProof.Rows
theorem ObjOk.obj {P : Program} {w : World} {H : Hp} {h : Heap} {a : Addr} {o : HO} (x : ObjOk P w H h a o) : ∃ ob, h.get? a = some ob := by
  cases o with
  | lst xs => obtain ⟨_, _, _, _, e⟩ := x; exact ⟨_, e⟩
  | tup xs => obtain ⟨_, _, _, ob, e, _⟩ := x; exact ⟨_, e⟩
  | dK kvs => obtain ⟨_, _, _, _, o, _, _, e, _⟩ := x; exact ⟨_, e⟩
  | dT kvs => obtain ⟨_, _, _, _, o, _, _, e, _⟩ := x; exact ⟨_, e⟩
  | set S n => obtain ⟨o, _, _, _, e, _⟩ := x; exact ⟨_, e⟩
  | ins C dx fs => obtain ⟨_, _, _, e, _⟩ := x; exact ⟨_, e⟩
  | own y => obtain ⟨_, e⟩ := x; exact ⟨_, e⟩
  | xd fs => obtain ⟨_, ⟨_, _, _, e, _⟩, _⟩ := x; exact ⟨_, e⟩
  | rng lo hi => obtain ⟨_, _, _, e⟩ := x; exact ⟨_, e⟩
  | frz ob u => obtain ⟨e, _⟩ := x; exact ⟨_, e⟩
  | tbl ps => exact ⟨_, show h.get? a = some _ from x⟩
  | met f y => exact ⟨_, show h.get? a = some _ from x⟩
  | ext φ => obtain ⟨_, ⟨_, e⟩, _⟩ := x; exact ⟨_, e⟩
structure Cov (B : Heap) (fs : List Addr) (H' : Hp) (h : Heap) : Prop where
  old : ∀ b o, h.get? b = some o → b ∉ fs → ∃ o', B.get? b = some o'
  trk : ∀ b u, H' b = some u → ∃ o', B.get? b = some o'
def CXe (P : Program) (w : World) : CXT := fun outer H s E e s' => ∃ (a : Addr) (cls a0 : Value) (B : Heap) (H' : Hp), e = .ref a ∧ s'.os = s.os ∧ AllBare s'.gens ∧ Un (frs outer) [] H H' s.heap s'.heap ∧ HOk P w H' s'.heap ∧
  Heap.FlyingW B outer a cls a0 s'.heap ∧ Cov B (frs outer) H' s.heap ∧ E cls none H'
section
variable {P : Program} {w : World} {fs : List Addr} {H H' : Hp} {h h1 h2 B : Heap}
theorem Heap.two {B h1 h2 : Heap} (s1 : B.StaysIn h1) (s2 : B.StaysIn h2) {b : Addr} {o o' : Obj} (e : h1.get? b = some o) (q : B.get? b = some o') : h2.get? b = some o := by
  have := s1 b o' q
  rw [e] at this; cases this
  exact s2 b _ q
theorem fly_un (u : Un fs [] H H' h h1) (cov : Cov B fs H' h) (s1 : B.StaysIn h1) (s2 : B.StaysIn h2) (sl : ∀ b o, b ∈ fs → h1.get? b = some o → ∃ sl, h2.get? b = some { o with slots := sl }) : Un fs [] H H' h h2 := by
  refine ⟨fun b o e n hb hx => ?_, fun b o e n hb hx => ?_, u.free, fun b o e hx => ?_, u.tups, u.frzs, u.tbls⟩
  · obtain ⟨o', q⟩ := cov.old b o e hb
    exact Heap.two s1 s2 (u.keep b o e n hb hx) q
  · obtain ⟨sl1, e1⟩ := u.slot b o e n hb hx
    obtain ⟨sl2, e2⟩ := sl b _ hb e1
    exact ⟨sl2, e2⟩
  · by_cases hb : b ∈ fs
    · obtain ⟨o', e1⟩ := u.there b o e hx
      obtain ⟨sl2, e2⟩ := sl b _ hb e1
      exact ⟨_, e2⟩
    · obtain ⟨o', q⟩ := cov.old b o e hb
      exact ⟨o', s2 b o' q⟩
theorem fly_ok (ok : HOk P w H' h1) (trk : ∀ b u, H' b = some u → ∃ o', B.get? b = some o') (s1 : B.StaysIn h1) (s2 : B.StaysIn h2) : HOk P w H' h2 := fun b u e => by
  refine (ok b u e).stay (fun c v hc q => ?_) (fun _ q => q) fun _ _ q => q
  have : ∃ o', B.get? c = some o' := by
    rcases hc with rfl | hc
    · exact trk c u e
    · exact trk c _ hc
  obtain ⟨o', q'⟩ := this
  exact Heap.two s1 s2 q q'
theorem up_frs {base : Heap} {l : List Env} (ff : h1.FunFrames base l) (up : h1.UpToSlots h2) : ∀ b o, b ∈ frs l → h1.get? b = some o → ∃ sl, h2.get? b = some { o with slots := sl } := fun b o hb e => by
  obtain ⟨_, o', e', d⟩ := ff.mem hb
  rw [e] at e'; cases e'
  exact up b o e d
end
def RaisesTo (X : Cx) (E : St → XK) : Prop := ∀ (pins : List (Addr × Obj)) (σ : St) (H : Hp) (s : Shared) (h' : Heap) (e : Addr) (cls : Value) (args : List Value), Inv X pins σ H s → Heap.MadeExcOf s.heap h' e cls args → E σ cls none H → X.xe (.ref e) { s with heap := h' }
def PassesS (CX : CXT) (X : Cx) (E : St → XK) : Prop := ∀ (pins : List (Addr × Obj)) (σ : St) (H : Hp) (s : Shared) (e : Value) (s' : Shared), Inv X pins σ H s → CX X.stack H s (E σ) e s' → X.xe e s'
section
variable {P : Program} {w : World} {K : PySem.W.Frag} {mg : Str → Option Value} {base : Heap} {N : List Str} {qual : Str} {scope : Scope} {f : Addr} {cd : Value} {A : Around} {outer : List Env} {s₀ : Shared} {H₀ : Hp} {E : XK}
theorem raisesTo_body : RaisesTo (cxOf (CXe P w) P w K mg base N qual scope f cd A outer s₀ H₀ E) (fun _ => E) := by
  intro pins σ H s h' e cls args I hx hE
  have ff := PySem.W.funFrames_hide (as := frs (cxOf (CXe P w) P w K mg base N qual scope f cd A outer s₀ H₀ E).stack) I.stack fun env he a ha => List.mem_filterMap.mpr ⟨env, he, ha⟩
  have stB : (PySem.W.hideAll s.heap (frs (cxOf (CXe P w) P w K mg base N qual scope f cd A outer s₀ H₀ E).stack)).StaysIn s.heap := fun b o e => PySem.W.of_hideAll _ e
  have inB : ∀ b o, s.heap.get? b = some o → b ∉ frs (cxOf (CXe P w) P w K mg base N qual scope f cd A outer s₀ H₀ E).stack → (PySem.W.hideAll s.heap (frs (cxOf (CXe P w) P w K mg base N qual scope f cd A outer s₀ H₀ E).stack)).get? b = some o :=
    fun b o e hb => PySem.W.hideAll_get _ e hb
  refine wpAny_leaves_madeW (outer := outer) I.ok.frames rfl stB ff hx fun h'' t fl tup nt up => ?_
  have cov : Cov (PySem.W.hideAll s.heap (frs (cxOf (CXe P w) P w K mg base N qual scope f cd A outer s₀ H₀ E).stack)) (frs outer) H s₀.heap := by
    refine ⟨fun b o e hb => ?_, fun b u e => ?_⟩
    · obtain ⟨o1, e1⟩ := I.base.there b o e (by intro z; exact absurd (show b ∈ ([] : List Addr) from z) (by simp))
      refine ⟨o1, inB b o1 e1 fun z => ?_⟩
      rcases List.mem_cons.mp (I.stkSub b z) with q | q
      · exact absurd q (Nat.ne_of_lt (Nat.lt_of_lt_of_le (Heap.lt_size e) I.ok.above))
      · exact hb q
    · obtain ⟨ob, eo⟩ := (I.hok b u e).obj
      exact ⟨ob, inB b ob eo fun z => by rw [I.stkFree b z] at e; cases e⟩
  refine ⟨e, cls, .ref t, _, H, rfl, I.os, I.bare, fly_un I.base cov stB fl.1 fun b o hb eo => ?_, fly_ok I.hok cov.trk stB fl.1, fl, cov, hE⟩
  obtain ⟨_, o', e', d⟩ := I.funs.mem hb
  rw [eo] at e'; cases e'
  exact up b o (hx.keeps b o eo) d
theorem passesS_body : PassesS (CXe P w) (cxOf (CXe P w) P w K mg base N qual scope f cd A outer s₀ H₀ E) (fun _ => E) := by
  intro pins σ H s e s' I hq
  obtain ⟨a, cls, a0, B, H', rfl, os, bare, un, hok, fl, cov, hE⟩ := hq
  have I' := I.call' (ch := []) os un hok bare fun b z => absurd z (by simp)
  refine wpAny_leaves_onW (outer := outer) I'.ok.frames rfl fl fun h'' fl' up => ?_
  have cov0 : Cov B (frs outer) H' s₀.heap := by
    refine ⟨fun b o e hb => ?_, cov.trk⟩
    obtain ⟨o1, e1⟩ := I.base.there b o e (by intro z; exact absurd (show b ∈ ([] : List Addr) from z) (by simp))
    refine cov.old b o1 e1 fun z => ?_
    rcases List.mem_cons.mp (I.stkSub b z) with q | q
    · exact absurd q (Nat.ne_of_lt (Nat.lt_of_lt_of_le (Heap.lt_size e) I.ok.above))
    · exact hb q
  exact ⟨a, cls, a0, B, H', rfl, I'.os, I'.bare, fly_un I'.base cov0 fl.1 fl'.1 (up_frs I'.funs up), fly_ok I'.hok cov.trk fl.1 fl'.1, fl', cov0, hE⟩
end
def tCallS (sp : Sp) (dvs : List V) (E : St → XK) (t : TA) : TE := fun σ H Q => t σ H fun vs H1 => sp (vs ++ dvs) H1 Q (E σ)
def tMethS (C : Addr) (m : Str) (sp : Sp) (dvs : List V) (E : St → XK) (ta : TE) (t : TA) : TE := fun σ H Q => ta σ H fun x H1 => ∃ a dx fs, x = .ref a ∧ H1 a = some (.ins C dx fs) ∧ fs.lookup m = none ∧
  t σ H1 fun vs H2 => sp (x :: (vs ++ dvs)) H2 Q (E σ)
def tMakeS (C : Addr) (sp : Sp) (dvs : List V) (E : St → XK) (t : TA) : TE := fun σ H Q => t σ H fun vs H1 => ∀ x dx, H1 x = none → H1 dx = none → dx ≠ x →
  sp (.ref x :: (vs ++ dvs)) (upd (upd H1 dx (.own x)) x (.ins C dx [])) (fun v H2 => v = .non ∧ Q (.ref x) H2) (E σ)
section
variable {X : Cx} {CX : CXT} {k : Nat} {f C : Addr} {fd : FuncData} {ps : List Str} {sp : Sp} {dvs : List V} {ds : List Value} {E : St → XK} {x m : Str} {p pos apos : Pos} {e o : Expr} {es : List Expr} {ta : TE} {t : TA}
theorem run_fnS {pins : List (Addr × Obj)} {σ : St} {H : Hp} {s : Shared} {Q : VK} {us : List Value} {vs : List V} (F : FnOk X.prog X.w X.K X.mg X.base CX k f fd ps sp) (hr : Room k X.A) (hb : Binds X.K fd ps ds) (hd : Vals dvs ds) (hx : PassesS CX X E)
    (I : Inv X pins σ H s) (r : Vals vs us) (h : sp (vs ++ dvs) H Q (E σ)) : wpAny (model X.prog X.w) X.A (call (.ref f) us) (EP X pins σ Q) X.xe s := by
  have r2 : Vals (vs ++ dvs) (us ++ ds) := r.append hd
  have hl : (us ++ ds).length = ps.length := by rw [← r2.length]; exact F.len _ _ _ _ h
  refine wpAny_call (codeAny_mono (F.run X.A X.stack s H ⟨us, []⟩ (us ++ ds) (vs ++ dvs) Q (E σ) hr I.env0 (hb s us I.kIn hl) r2 h) fun r s' hq => ?_)
  match r, hq with
  | .error e, hq => exact hx pins σ H s e s' I hq
  | .ok (.ret u), hq => exact I.after hq
  | .ok .next, hq => exact False.elim hq
  | .ok .brk, hq => exact False.elim hq
  | .ok .cont, hq => exact False.elim hq
theorem pe_callS (F : FnOk X.prog X.w X.K X.mg X.base CX k f fd ps sp) (hr : Room k X.A) (hg : Gl X x) (hm : X.mg x = some (.ref f)) (hk : PySem.W.keepIn X.K (.ref f) = true) (hb : Binds X.K fd ps ds) (hd : Vals dvs ds) (hx : PassesS CX X E)
    (ha : PA X (e :: es) t) (hdb : (x == ("__debug__" : Str)) = false := by decide) (he : starEach (e :: es) X.env = (false, eval e X.env) :: starEach es X.env := by rfl) (hpl : (backTo pos (starEach es X.env)).any (·.1) = false := by rfl) :
    PE X (.Call (.Name x p) (e :: es) [] pos) (tCallS sp dvs E t) := by
  intro pins s σ H Q I h
  refine wpAny_Call_Name_kw (ld_glob I hg hm (PySem.W.callWith_K (h₀ := X.base) I.ok.mod.kin hk (thn (ha pos pins s σ H _ I h) fun us s1 ⟨vs, H1, I1, r, q⟩ => ⟨I1.kIn, ?_⟩) he hpl) hdb)
  exact run_fnS F hr hb hd hx I1 r q
theorem pe_methS {pl : Sem Bool} (he : PE X o ta) (c : Cls X.K C) (hm : Meth X.K C m f) (F : FnOk X.prog X.w X.K X.mg X.base CX k f fd ps sp) (hr : Room k X.A) (hb : Binds X.K fd ps ds) (hd : Vals dvs ds) (hx : PassesS CX X E) (ha : PA X (e :: es) t)
    (hst : starEach (e :: es) X.env = (false, eval e X.env) :: starEach es X.env := by rfl) (hpl : (backTo pos (starEach es X.env)).any (·.1) = false := by rfl)
    (ht : eval (.Call (.Attribute o m apos) (e :: es) [] pos) X.env = (do
      let ov ← eval o X.env
      standAt apos.atName
      let (f, first) ← holding [ov] (getMethod ov m pl)
      callWith pos f first (backTo pos (starEach (e :: es) X.env)) (backToKw pos (keywordEach [] X.env))) := by rfl) :
    PE X (.Call (.Attribute o m apos) (e :: es) [] pos) (tMethS C m sp dvs E ta t) := by
  intro pins s σ H Q I h
  refine PySem.W.methodCall_KW (pl := pl) (thn (he pins s σ H _ I h) fun u s1 ⟨x, H1, I1, rx, a, dx, fs, ex, ea, l, q⟩ => ?_) ht
  subst ex
  obtain rfl : u = Value.ref a := rx
  refine getmeth_ok I1 ea c hm l (PySem.W.callWith_K (first := [.ref a]) (h₀ := X.base) I.ok.mod.kin hm.kp (thn (ha pos pins s1 σ H1 _ I1 q) fun us s2 ⟨vs, H2, I2, r, q2⟩ => ⟨I2.kIn, ?_⟩) hst hpl)
  exact run_fnS (us := .ref a :: us) (vs := .ref a :: vs) F hr hb hd hx I2 (.cons rfl r) q2
end
def tRaise (C : Addr) (E : St → XK) (t : TA) : TS := fun _ σ H => t σ H fun vs H1 => vs.length ≤ sizeLine ∧ E σ (.ref C) none H1
theorem ps_raise {X : Cx} {C : Addr} {x : Str} {bm : List Value} {newId initId B : String} {e : Expr} {es : List Expr} {t : TA} {np cpos pos : Pos} {E : St → XK} (O : OwnCls x C bm newId X.mg X.base) (FB : ExcBaseFacts B newId initId bm) (hc : X.calm = true) (hg : Gl X x)
    (hx : RaisesTo X E) (ha : PA X (e :: es) t) (he : starEach (e :: es) X.env = (false, eval e X.env) :: starEach es X.env := by rfl) (hpl : (backTo cpos (starEach es X.env)).any (·.1) = false := by rfl) (hd : (x == ("__debug__" : Str)) = false := by decide) :
    PS X (.Raise (some (.Call (.Name x np) (e :: es) [] cpos)) none pos) (tRaise C E t) := by
  intro pins s σ H D I h
  obtain ⟨tl, N, nm, q, bs, hdct, sn, sub, ab, col, dd, k0, k1, k2, k3, k5, mN, hC, hN, hni, T⟩ := O.obj
  refine wpAny_Raise_call_subT (C := C) (nm := nm) (q := q) (N := N) (bs := bs) (bm := tl) (hdct := hdct) (sn := sn) (sub := sub) (ab := ab) (col := col) (dd := dd) (k0 := k0) (k1 := k1) (k2 := k2) (k3 := k3) (k5 := k5)
    FB (mN := mN) (T.hasType FB.hasBase) (I.ok.hd hc) (by rw [he]; show (false || (backTo cpos (starEach es X.env)).any (·.1)) = false; rw [hpl]; rfl) hni (ld_glob I hg O.bound ⟨rfl, ?_⟩ hd)
  have ha' := ha cpos pins s σ H _ I h
  rw [he] at ha' ⊢
  refine Calls.evalArgs_plain (thn ha' fun us s2 ⟨vs, H2, I2, r, hl, hE⟩ => ⟨rfl, by rw [← r.length]; exact hl, I2.bk _ _ hC, hN.keeps I2.bk, T.keeps I2.bk, fun h' e hm => hx pins σ H2 s2 h' e _ _ I2 hm hE⟩)
end L2
namespace L2
open PySem PySem.Spec PyProof.Rows
theorem own_in {K : PySem.W.Frag} {h : Heap} {mg : Str → Option Value} {x : Str} {C : Addr} {bm : List Value} {nid : String} (X : K.In h) (G : h.Ns mainGlobals mg) (e : PySem.W.nsIn K mainGlobals x = some (some (.ref C))) (q : PySem.W.excIn K C bm nid = true) : OwnCls x C bm nid mg h := by
  have G' := PySem.W.mg_of X G e
  unfold PySem.W.excIn at q; split at q
  case h_2 => cases q
  rename_i dd cd sl ho; split at q
  case h_2 => cases q
  rename_i C' tl k0 k1 k2 k3 n k5 hm hs; simp only [Bool.and_eq_true, beq_iff_eq, Bool.not_eq_true'] at q
  obtain ⟨⟨⟨⟨⟨q1, q2⟩, q3⟩, q4⟩, q5⟩, q6⟩ := q; subst q1; subst q2
  obtain ⟨c1, c2, c3, c4, c5, c6, c7, c8, c9, c10, c11⟩ := cd; dsimp only at hm q3 q5 q6; subst hm; subst q3
  have z : sl = #[k0, k1, k2, k3, some (.builtin n), k5] := by obtain ⟨l⟩ := sl; simp only at hs; rw [hs]
  subst z
  exact ⟨G', tl, c4, c1, c5, c2, c6, c7, c8, c9, c10, dd, k0, k1, k2, k3, k5, _, X _ _ ho, .of_isNs (PySem.W.isNs_of_in X q5), PySem.W.nsMap_none_of_in X q5 q6, PySem.W.tail_of_in X q4⟩
end L2
namespace L2
open PySem PySem.Spec PyProof.Rows
abbrev Cx.wishP (X : Cx) (pl : List (Addr × Obj)) (E : Value → Shared → Prop) : Cx := { X with pn := X.pn ++ pl, xe := E }
abbrev Cx.caught (X : Cx) (a : Addr) : Cx := { X with A := X.A.mark (some (.ref a)), calm := false, xe := fun _ _ => False }
section
variable {X : Cx} {pins pl : List (Addr × Obj)} {σ : St} {H : Hp} {s : Shared} {E : Value → Shared → Prop} {a : Addr}
theorem Inv.wishP (I : Inv X pins σ H s) (E : Value → Shared → Prop) : Inv (X.wishP pins E) [] σ H s :=
  ⟨⟨I.ok.mod, I.ok.kind, I.ok.glob, I.ok.blt, I.ok.above, I.ok.inj, I.ok.has, I.ok.cab, I.ok.hd, I.ok.frames, I.ok.stk, I.ok.exf, I.ok.bs, I.ok.bsz, I.ok.noex, I.ok.exfs, I.ok.funs, I.ok.frf⟩, I.os, I.bare, I.base, I.loc, I.cell, I.free, I.freeC,
    fun p hp => I.pin p (by simpa using hp), I.hok, I.len⟩
theorem Inv.unwishP (I : Inv (X.wishP pl E) pins σ H s) : Inv X pl σ H s :=
  ⟨⟨I.ok.mod, I.ok.kind, I.ok.glob, I.ok.blt, I.ok.above, I.ok.inj, I.ok.has, I.ok.cab, I.ok.hd, I.ok.frames, I.ok.stk, I.ok.exf, I.ok.bs, I.ok.bsz, I.ok.noex, I.ok.exfs, I.ok.funs, I.ok.frf⟩, I.os, I.bare, I.base, I.loc, I.cell, I.free, I.freeC,
    fun p hp => I.pin p (List.mem_append_left _ hp), I.hok, I.len⟩
theorem Inv.caught (I : Inv X pins σ H s) (a : Addr) : Inv (X.caught a) pins σ H s :=
  ⟨⟨I.ok.mod, I.ok.kind, I.ok.glob, I.ok.blt, I.ok.above, I.ok.inj, I.ok.has, I.ok.cab, (fun z => nomatch (show false = true from z)), I.ok.frames, I.ok.stk, I.ok.exf, I.ok.bs, I.ok.bsz, I.ok.noex, I.ok.exfs, I.ok.funs, I.ok.frf⟩, I.os, I.bare, I.base, I.loc, I.cell, I.free, I.freeC,
    I.pin, I.hok, I.len⟩
theorem Inv.uncaught (hd : X.calm = true → X.A.handled = none) (I : Inv (X.caught a) pins σ H s) : Inv X pins σ H s :=
  ⟨⟨I.ok.mod, I.ok.kind, I.ok.glob, I.ok.blt, I.ok.above, I.ok.inj, I.ok.has, I.ok.cab, hd, I.ok.frames, I.ok.stk, I.ok.exf, I.ok.bs, I.ok.bsz, I.ok.noex, I.ok.exfs, I.ok.funs, I.ok.frf⟩, I.os, I.bare, I.base, I.loc, I.cell, I.free, I.freeC,
    I.pin, I.hok, I.len⟩
theorem SP.unwishP {D : Ends} {f : Flow} {s' : Shared} (h : SP (X.wishP pl E) pins D f s') : SP X pl D f s' := by
  cases f with
  | next => obtain ⟨σ', H', I, q⟩ := h; exact ⟨σ', H', I.unwishP, q⟩
  | brk => obtain ⟨σ', H', I, q⟩ := h; exact ⟨σ', H', I.unwishP, q⟩
  | cont => obtain ⟨σ', H', I, q⟩ := h; exact ⟨σ', H', I.unwishP, q⟩
  | ret u => obtain ⟨v, σ', H', I, r, q⟩ := h; exact ⟨v, σ', H', I.unwishP, r, q⟩
theorem SP.uncaught {D : Ends} {f : Flow} {s' : Shared} (hd : X.calm = true → X.A.handled = none) (h : SP (X.caught a) pins D f s') : SP X pins D f s' := by
  cases f with
  | next => obtain ⟨σ', H', I, q⟩ := h; exact ⟨σ', H', I.uncaught hd, q⟩
  | brk => obtain ⟨σ', H', I, q⟩ := h; exact ⟨σ', H', I.uncaught hd, q⟩
  | cont => obtain ⟨σ', H', I, q⟩ := h; exact ⟨σ', H', I.uncaught hd, q⟩
  | ret u => obtain ⟨v, σ', H', I, r, q⟩ := h; exact ⟨v, σ', H', I.uncaught hd, r, q⟩
end
def tTry (K : PySem.W.Frag) (c : Value) (tb : (St → XK) → TS) (th : TS) : TS := fun D σ H => tb (fun σ' cls _ H' => PySem.W.exmOne K cls c = some true ∧ th D σ' H') D σ H
theorem ps_try {X : Cx} {body suite : List Stmt} {b₀ : Stmt} {x : Str} {c : Value} {np hpos pos : Pos} {tb : (St → XK) → TS} {th : TS} (hstk : X.stack = X.env :: X.outer) (hfr : X.env.frame = some X.env.locals) (hg : Gl X x) (hm : X.mg x = some c)
    (hb : ∀ (pl : List (Addr × Obj)) (E' : Value → Shared → Prop) (E : St → XK), PassesS (CXe X.prog X.w) (X.wishP pl E') E → PSs (X.wishP pl E') body (tb E)) (hh : ∀ a, PSs (X.caught a) (b₀ :: suite) th) (hdb : (x == ("__debug__" : Str)) = false := by decide) :
    PS X (.Try body [.ExceptHandler (some (.Name x np)) none (b₀ :: suite) hpos] [] [] pos) (tTry X.K c tb th) := by
  intro pins s σ H D I h
  rw [arm_exec_Try]
  refine wpAny_bind (wpAny_standAt (wpAny_tryStmt_except ?_))
  have P : PassesS (CXe X.prog X.w) (X.wishP pins fun e s1 => wpAny (model X.prog X.w) X.A (noteFrame e X.env) (fun _ s2 => wpAny (model X.prog X.w) X.A (setFlight e none) (fun _ s3 =>
      wpAny (model X.prog X.w) X.A (handleBy e X.env [.ExceptHandler (some (.Name x np)) none (b₀ :: suite) hpos]) (SP X pins D) X.xe s3) X.xe s2) X.xe s1) (fun σ' cls _ H' => PySem.W.exmOne X.K cls c = some true ∧ th D σ' H') := by
    intro pl σ1 H1 s1 e s2 I1 hq
    have J1 := I1.unwishP
    obtain ⟨a, cls, a0, B, H', rfl, os, bare, un, hok, fl, cov, hx, hth⟩ := hq
    have fl : Heap.FlyingW B (X.env :: X.outer) a cls a0 s2.heap := hstk ▸ fl
    have un : Un (frs X.stack) [] H1 H' s1.heap s2.heap := un
    have cov : Cov B (frs X.stack) H' s1.heap := cov
    have hfs : X.A.frames = some (X.env :: X.outer) := hstk ▸ I.ok.frames
    refine wpAny_looks_onW hfs hfr fl fun h3 held up3 => ?_
    refine wpAny_landsW held fun h4 fl4 up4 => ?_
    have back : ∀ {h5 : Heap}, B.StaysIn h5 → s2.heap.UpToSlots h5 → Inv X pins σ1 H' { s2 with heap := h5 } := fun {h5} st up => by
      have ff2 : s2.heap.FunFrames B X.stack := hstk ▸ fl.2.2.1
      exact J1.call' (s' := { s2 with heap := h5 }) (ch := []) os (fly_un un cov fl.1 st (up_frs ff2 up)) (fly_ok hok cov.trk fl.1 st) bare fun b z => absurd z (by simp)
    have J4 := back fl4.1 (up3.trans up4)
    refine wpAny_handleBy_cons (codeAny_handlers_test ?_) (by intro q; cases q)
    refine ld_glob (J4.caught a) hg hm ?_ hdb
    have LT : PySem.W.Looks (model X.prog X.w) h4 (typeOf (.ref a)) cls := by
      obtain ⟨ob, hob, hc⟩ := fl4.there
      subst hc
      exact (PySem.W.Looks.ld hob).andThen .now
    refine PySem.W.exm_one J4.kIn LT hx _ _ _ _ (fun _ _ q => q) ?_
    refine codeAny_handlers_suite (lands_againW fl4 fun h5 fl5 up5 => ?_)
    have J5 := back fl5.1 ((up3.trans up4).trans up5)
    refine wpAny_mono (hh a pins _ σ1 H' D (J5.caught a) hth) (fun f s6 q => q.uncaught J5.ok.hd) fun _ _ z => z.elim
  refine wpAny_mono (hb pins _ _ P [] s σ H D (I.wishP _) h) (fun f s1 q => ?_) fun _ _ x => x
  have q' := q.unwishP
  cases f with
  | next => exact wpAny_execs_nil q'
  | brk => exact q'
  | cont => exact q'
  | ret u => exact q'
end L2
namespace L2
open PySem PySem.Spec PyProof.Rows
theorem boolsAre_of {bs : List Bool} : ∀ {us : List Value}, Vals (bs.map V.bl) us → LSm.BoolsAre us bs := by
  induction bs with
  | nil => intro us r; rw [List.map_nil] at r; cases r; exact .nil
  | cons n ns ih =>
    intro us r
    rw [List.map_cons] at r
    cases r with
    | cons r1 r2 => cases (show _ = Value.bool n from r1); exact .cons n (ih r2)
section
variable {X : Cx}
theorem call_sumX (b : Bool) (hc : X.calm = true) : CallR X (.builtin "sum") (fun xs H Q => ∃ (a : Addr) (ns : List Int), xs = [.ref a] ∧ SqX X.K b H a (ns.map V.int) ∧ Q (.int ns.sum) H) := by
  intro pins s σ H xs us Q I r h
  obtain ⟨a, ns, rfl, hs, q⟩ := h
  obtain ⟨u, rfl, ru⟩ := r.one
  cases ru
  obtain ⟨its, rv, p⟩ := I.sq hs
  have hi := intsAre_of rv
  obtain ⟨ys, hy⟩ := hi.allInts.items
  have e2 : preSum (numAt ys) ys.size = ns.sum := by
    have e1 : ns = ys.toList.map (·.1) := by
      rw [← nums_intItems, ← hy]; exact (show numsOf its.toArray.toList = ns from hi.numsOf).symm
    rw [preSum_eq, List.take_of_length_le (by simp), e1]
  rw [hy] at p
  cases b with
  | true => exact PySem.W.ktm_sumG (I.ok.hd hc) p fun h' tk t' hk => ⟨.int ns.sum, H, I.kept hk, ⟨t', by rw [e2]⟩, q⟩
  | false => exact sum_intListG (I.ok.hd hc) p fun h' tk t' hk => ⟨.int ns.sum, H, I.kept hk, ⟨t', by rw [e2]⟩, q⟩
theorem call_anyB (hc : X.calm = true) : CallR X (.builtin "any") (fun xs H Q => ∃ (a : Addr) (bs : List Bool), xs = [.ref a] ∧ SqL X.K H a (bs.map V.bl) ∧ Q (.bl (bs.any id)) H) := by
  intro pins s σ H xs us Q I r h
  obtain ⟨a, bs, rfl, hs, q⟩ := h
  obtain ⟨u, rfl, ru⟩ := r.one
  cases ru
  obtain ⟨its, rv, p, _⟩ := I.list hs
  have hb := boolsAre_of rv
  have hl := p.isList
  have lt : a < s.heap.objs.size := by obtain ⟨_, e, _⟩ := hl; exact Heap.lt_size e
  refine call_any_walk (wpAny_pyIter_list hl ⟨s.heap.objs.size, _, _, _, _, _, fun i => (bs[i]?).getD false, rfl, Walks.list (A := X.A.in1) (I.ok.hd hc) _ a (Nat.ne_of_lt lt) its.toArray, ⟨⟨_, Heap.get?_push_size _ rfl, rfl, rfl⟩, hl.push _⟩, fun i v s' Q' E' hP hQ => ?_, fun h' tk hk => ?_⟩)
  · obtain ⟨b, e, rfl⟩ := hb.get i v (by simpa using hP)
    simp only [e, Option.getD_some] at hQ; exact wpAny_truthy_bool hQ
  · refine ⟨.bl (bs.any id), H, I.kept (LSm.kept_iter hk), ?_, q⟩
    show Value.bool _ = Value.bool _
    rw [List.size_toArray, hb.length, LSm.range_any bs]
def clV : V → Option Value
  | .ty n => some (.type n)
  | .ref a => some (.ref a)
  | _ => none
theorem call_isinst : CallR X (.builtin "isinstance") (fun xs H Q => ∃ x y t c b, xs = [x, y] ∧ clV y = some c ∧ TyOf X.K H x t ∧ PySem.W.kitOne X.K t c = some b ∧ Q (.bl b) H) := by
  intro pins s σ H xs us Q I r h
  obtain ⟨x, y, t, c, b, rfl, hy, ty, e, q⟩ := h
  obtain ⟨u, v, rfl, ru, rv⟩ := r.two
  have ev : v = c := by
    cases y with
    | ty n => cases hy; exact rv
    | ref a => cases hy; exact rv
    | _ => cases hy
  subst ev
  exact isinst_ok I ru ty e fun tk => ⟨.bl b, H, I.tok _, rfl, q⟩
end
end L2
namespace L2
open PySem PySem.Spec PyProof.Rows
section
variable {P : Program} {w : World} {K : PySem.W.Frag} {mg : Str → Option Value} {base : Heap}
end
def CMulB (i j : Int) : Prop := i.natAbs < 2 ^ 4000 ∧ j.natAbs < 2 ^ 4000
theorem op_mulB {X : Cx} : OpR X (binaryOp .Mult) (rI CMulB fun i j => .int (i * j)) := opI fun _ _ _ _ _ _ _ hc q => mul_int q (PySem.IntMulOk.of_bits (Nat.le_trans (intBits_le hc.1) (by decide)) (Nat.le_trans (intBits_le hc.2) (by decide)))
end L2
namespace L2
open PySem PySem.Spec PyProof.Rows
theorem PS.nox {X : Cx} {st : Stmt} {t : TS} (h : PS X.nox st t) : PS X st t := fun pins s σ H D I hw => wpAny_mono (h pins s σ H D (I.wish _) hw) (fun _ _ q => SP.unwish q) fun _ _ z => z.elim
structure CMeth (K : PySem.W.Frag) (C : Addr) (m : Str) (f : Addr) : Prop where
  ex : ∃ mc, PySem.W.readsIn K C mc = true ∧ PySem.W.findCls K (.ref C) mc m = some (.val (.ref f))
  sp : PySem.W.specialIn K (.ref C) "__getattribute__" = some (some (.builtin "type.__getattribute__"))
  kp : PySem.W.keepIn K (.ref f) = true
section
variable {X : Cx} {CX : CXT} {k : Nat} {f C : Addr} {fd : FuncData} {ps : List Str} {sp : Sp} {dvs : List V} {ds : List Value} {E : St → XK} {x m : Str} {p pos apos : Pos} {e o : Expr} {es : List Expr} {ta : TE} {t : TA}
theorem pe_cmeth {pl : Sem Bool} (CM : CMeth X.K C m f) (hg : Gl X x) (hm : X.mg x = some (.ref C)) (F : FnOk X.prog X.w X.K X.mg X.base CX k f fd ps sp) (hr : Room k X.A) (hb : Binds X.K fd ps ds) (hd : Vals dvs ds) (hx : PassesS CX X E) (ha : PA X (e :: es) t)
    (hdb : (x == ("__debug__" : Str)) = false := by decide) (hst : starEach (e :: es) X.env = (false, eval e X.env) :: starEach es X.env := by rfl) (hpl : (backTo pos (starEach es X.env)).any (·.1) = false := by rfl)
    (ht : eval (.Call (.Attribute (.Name x p) m apos) (e :: es) [] pos) X.env = (do
      let ov ← eval (.Name x p) X.env
      standAt apos.atName
      let (f, first) ← holding [ov] (getMethod ov m pl)
      callWith pos f first (backTo pos (starEach (e :: es) X.env)) (backToKw pos (keywordEach [] X.env))) := by rfl) :
    PE X (.Call (.Attribute (.Name x p) m apos) (e :: es) [] pos) (tCallS sp dvs E t) := by
  intro pins s σ H Q I h
  obtain ⟨mc, q1, q2⟩ := CM.ex
  refine PySem.W.methodCall_KW (pl := pl) (ld_glob I hg hm (PySem.W.method_cls I.kIn CM.sp (PySem.W.cls_value I.kIn q1 q2 rfl ?_)) hdb) ht
  have I1 := I.tok (s.toks + 1)
  refine PySem.W.callWith_K (first := []) (h₀ := X.base) I.ok.mod.kin CM.kp (thn (ha pos pins _ σ H _ I1 h) fun us s2 ⟨vs, H2, I2, r, q⟩ => ⟨I2.kIn, ?_⟩) hst hpl
  exact run_fnS F hr hb hd hx I2 r q
theorem run_makeS {pins : List (Addr × Obj)} {σ : St} {H : Hp} {s : Shared} {Q : VK} {us : List Value} {vs : List V} (M : Mk X.K C f) (F : FnOk X.prog X.w X.K X.mg X.base CX k f fd ps sp) (hr : Room (k + 1) X.A) (hb : Binds X.K fd ps ds) (hd : Vals dvs ds)
    (hx : PassesS CX X E) (I : Inv X pins σ H s) (r : Vals vs us)
    (h : ∀ x dx, H x = none → H dx = none → dx ≠ x → sp (.ref x :: (vs ++ dvs)) (upd (upd H dx (.own x)) x (.ins C dx [])) (fun v H2 => v = .non ∧ Q (.ref x) H2) (E σ)) :
    wpAny (model X.prog X.w) X.A (call (.ref C) us) (EP X pins σ Q) X.xe s := by
  have hq := h (s.heap.objs.size + 1) s.heap.objs.size (I.hok.fresh (Nat.le_succ _)) (I.hok.fresh (Nat.le_refl _)) (Nat.ne_of_lt (Nat.lt_succ_self _))
  have I2 := Inv.made (C := C) I
  have r2 : Vals (V.ref (s.heap.objs.size + 1) :: (vs ++ dvs)) (Value.ref (s.heap.objs.size + 1) :: (us ++ ds)) := .cons rfl (r.append hd)
  have hl : (Value.ref (s.heap.objs.size + 1) :: us ++ ds).length = ps.length := by
    have e := r2.length
    rw [F.len _ _ _ _ hq] at e
    exact e.symm
  refine wpAny_call (make_map (f := f) I.kIn M.makes M.init (beq_iff_eq.mp M.fn) (codeAny_mono (F.run _ X.stack _ _ ⟨Value.ref (s.heap.objs.size + 1) :: us, []⟩ (Value.ref (s.heap.objs.size + 1) :: (us ++ ds)) _ _ (E σ) (hr.make C us [])
    (I2.env0.make C us []) (hb _ (Value.ref (s.heap.objs.size + 1) :: us) I2.kIn hl) r2 hq) fun r s' hq' => ?_))
  match r, hq' with
  | .error e, hq' => exact hx pins σ _ _ e s' I2 hq'
  | .ok (.ret u), hq' =>
    obtain ⟨v, H', I3, rv, ev, q3⟩ := I2.after hq'
    subst ev
    exact ⟨rv, ⟨V.ref (s.heap.objs.size + 1), H', I3, rfl, q3⟩⟩
  | .ok .next, hq' => exact False.elim hq'
  | .ok .brk, hq' => exact False.elim hq'
  | .ok .cont, hq' => exact False.elim hq'
theorem pe_makeS (M : Mk X.K C f) (F : FnOk X.prog X.w X.K X.mg X.base CX k f fd ps sp) (hr : Room (k + 1) X.A) (hg : Gl X x) (hm : X.mg x = some (.ref C)) (hb : Binds X.K fd ps ds) (hd : Vals dvs ds) (hx : PassesS CX X E)
    (ha : PA X (e :: es) t) (hdb : (x == ("__debug__" : Str)) = false := by decide) (he : starEach (e :: es) X.env = (false, eval e X.env) :: starEach es X.env := by rfl) (hpl : (backTo pos (starEach es X.env)).any (·.1) = false := by rfl) :
    PE X (.Call (.Name x p) (e :: es) [] pos) (tMakeS C sp dvs E t) := by
  intro pins s σ H Q I h
  refine wpAny_Call_Name_kw (ld_glob I hg hm (PySem.W.callWith_K (h₀ := X.base) I.ok.mod.kin M.kp (thn (ha pos pins s σ H _ I h) fun us s1 ⟨vs, H1, I1, r, q⟩ => ⟨I1.kIn, ?_⟩) he hpl) hdb)
  exact run_makeS M F hr hb hd hx I1 r q
end
end L2
set_option Elab.async false
set_option linter.all false
set_option maxRecDepth 100000
namespace L2
open PySem PySem.Spec PyProof.Rows
structure FunD (K : PySem.W.Frag) (x qual : Str) (st : Stmt) (dV : Value) (f : Addr) (fd : FuncData) : Prop where
  ex : ∃ (oc : Value) (od : Option Addr) (kV doc pm : Value) (an : Option Addr) (cdv ct : Value) (osl : Array (Option Value)),
    fd = PySem.W.fnOf x qual (defArgs st) (defBody st) (defScope st) dV kV doc pm an cdv ct ∧ K.lookup f = some ⟨oc, od, .func fd, osl⟩ ∧ PySem.W.codeIn K cdv qual = true
section
variable {P : Program} {w : World} {K : PySem.W.Frag} {mg : Str → Option Value} {base : Heap} {x qual : Str} {st : Stmt} {dV : Value} {f : Addr} {fd : FuncData} {N ps : List Str} {k : Nat} {sp : Sp}
theorem FunD.okN (F : FunD K x qual st dV f fd) (S : FnScope N ps (defScope st)) (len : ∀ vs H Q E, sp vs H Q E → vs.length = ps.length)
    (hbody : ∀ (cdv : Value) (A : Around) (outer : List Env) (s : Shared) (H : Hp) (vs : List V) (Q : VK) (E : XK), Room k (A.deeper (envOfC qual (defScope st) s.heap.objs.size f cdv)) → sp vs H Q E →
      ∃ t, PSs (cxOf CX0 P w K mg base N qual (defScope st) f cdv A outer s H E).nox (defBody st) t ∧ t { nx := fun _ H' => Q .non H', rt := Q } (start N vs) H) : FnOk P w K mg base CX0 (k + 1) f fd ps sp := by
  obtain ⟨oc, od, kV, doc, pm, an, cdv, ct, osl, rfl, lk, hcd⟩ := F.ex
  refine fn_of lk hcd S len fun A outer s H vs Q E hr hsp => ?_
  obtain ⟨t, h, q⟩ := hbody cdv A outer s H vs Q E hr hsp
  exact ⟨t, h.nox, q⟩
theorem FunD.okX (F : FunD K x qual st dV f fd) (S : FnScope N ps (defScope st)) (len : ∀ vs H Q E, sp vs H Q E → vs.length = ps.length)
    (hbody : ∀ (cdv : Value) (A : Around) (outer : List Env) (s : Shared) (H : Hp) (vs : List V) (Q : VK) (E : XK), Room k (A.deeper (envOfC qual (defScope st) s.heap.objs.size f cdv)) → sp vs H Q E →
      ∃ t, PSs (cxOf (CXe P w) P w K mg base N qual (defScope st) f cdv A outer s H E) (defBody st) t ∧ t { nx := fun _ H' => Q .non H', rt := Q } (start N vs) H) : FnOk P w K mg base (CXe P w) (k + 1) f fd ps sp := by
  obtain ⟨oc, od, kV, doc, pm, an, cdv, ct, osl, rfl, lk, hcd⟩ := F.ex
  exact fn_of lk hcd S len fun A outer s H vs Q E hr hsp => hbody cdv A outer s H vs Q E hr hsp
theorem FunD.binds (F : FunD K x qual st .none f fd)
    (h : ∀ (kV doc pm : Value) (an : Option Addr) (cdv ct : Value) (us : List Value), us.length = ps.length → bindArgs (PySem.W.fnOf x qual (defArgs st) (defBody st) (defScope st) .none kV doc pm an cdv ct) ⟨us, []⟩ = pure (ps.zip us)) : Binds K fd ps [] := by
  obtain ⟨oc, od, kV, doc, pm, an, cdv, ct, osl, rfl, lk, hcd⟩ := F.ex
  exact .all (h kV doc pm an cdv ct)
theorem FunD.bindsD {T : Addr} {o : Obj} {items : Array Value} {n : Nat} {ds : List Value} (F : FunD K x qual st (.ref T) f fd) (hT : K.lookup T = some o) (hs : o.data = .seq items n)
    (h : ∀ (kV doc pm : Value) (an : Option Addr) (cdv ct : Value) (us : List Value), (us ++ ds).length = ps.length → ∃ k : Option (Array Value) → Sem (List (Str × Value)), bindArgs (PySem.W.fnOf x qual (defArgs st) (defBody st) (defScope st) (.ref T) kV doc pm an cdv ct) ⟨us, []⟩ = seqItems? (.ref T) >>= k ∧ k (some items) = pure (ps.zip (us ++ ds))) : Binds K fd ps ds := by
  obtain ⟨oc, od, kV, doc, pm, an, cdv, ct, osl, rfl, lk, hcd⟩ := F.ex
  intro s us KX hl
  obtain ⟨k, h1, h2⟩ := h kV doc pm an cdv ct us hl
  exact BindsTo.of_defaults (T := T) rfl (KX _ _ hT) hs h1 h2
theorem funD_mk {oc : Value} {od an : Option Addr} {osl : Array (Option Value)} {kV doc pm cdv ct : Value} (l : K.lookup f = some ⟨oc, od, .func (PySem.W.fnOf x qual (defArgs st) (defBody st) (defScope st) dV kV doc pm an cdv ct), osl⟩)
    (c : PySem.W.codeIn K cdv qual = true) : FunD K x qual st dV f (PySem.W.fnOf x qual (defArgs st) (defBody st) (defScope st) dV kV doc pm an cdv ct) := ⟨⟨oc, od, kV, doc, pm, an, cdv, ct, osl, rfl, l, c⟩⟩
end
structure Cal (P : Program) (w : World) (K : PySem.W.Frag) (mg : Str → Option Value) (base : Heap) (CX : CXT) (k : Nat) (x : Str) (ps : List Str) (ds : List Value) (sp : Sp) : Prop where
  ex : ∃ f fd, FnOk P w K mg base CX k f fd ps sp ∧ Binds K fd ps ds ∧ PySem.W.keepIn K (.ref f) = true ∧ mg x = some (.ref f)
structure MCal (P : Program) (w : World) (K : PySem.W.Frag) (mg : Str → Option Value) (base : Heap) (CX : CXT) (k : Nat) (C : Addr) (m : Str) (ps : List Str) (ds : List Value) (sp : Sp) : Prop where
  ex : ∃ f fd, FnOk P w K mg base CX k f fd ps sp ∧ Binds K fd ps ds ∧ Meth K C m f
  cl : Cls K C
structure Mak (P : Program) (w : World) (K : PySem.W.Frag) (mg : Str → Option Value) (base : Heap) (CX : CXT) (k : Nat) (x : Str) (C : Addr) (ps : List Str) (ds : List Value) (sp : Sp) : Prop where
  ex : ∃ f fd, FnOk P w K mg base CX k f fd ps sp ∧ Binds K fd ps ds ∧ Mk K C f
  at_ : mg x = some (.ref C)
structure CCal (P : Program) (w : World) (K : PySem.W.Frag) (mg : Str → Option Value) (base : Heap) (CX : CXT) (k : Nat) (x : Str) (m : Str) (ps : List Str) (ds : List Value) (sp : Sp) : Prop where
  ex : ∃ C f fd, FnOk P w K mg base CX k f fd ps sp ∧ Binds K fd ps ds ∧ CMeth K C m f ∧ mg x = some (.ref C)
structure Exc (K : PySem.W.Frag) (mg : Str → Option Value) (base : Heap) (x : Str) (C : Addr) : Prop where
  ex : ∃ bm nid init B, OwnCls x C bm nid mg base ∧ ExcBaseFacts B nid init bm
  at_ : mg x = some (.ref C)
  me : PySem.W.exmOne K (.ref C) (.ref C) = some true
theorem pass00 {X : Cx} : PassesS CX0 X (fun _ => E0) := fun _ _ _ _ _ _ _ h => h.elim
theorem passF {X : Cx} {P : Program} {w : World} : PassesS (CXe P w) X (fun _ => E0) := by
  rintro _ _ _ _ _ _ _ ⟨_, _, _, _, _, _, _, _, _, _, _, _, h⟩
  exact h.elim
section
variable {X : Cx} {CX : CXT} {k j : Nat} {C : Addr} {ps : List Str} {sp : Sp} {dvs : List V} {ds : List Value} {E : St → XK} {x m : Str} {p pos apos : Pos} {e o : Expr} {es : List Expr} {ta : TE} {t : TA}
theorem pe_c (c : Cal X.prog X.w X.K X.mg X.base CX k x ps ds sp) (hr : Room j X.A) (hx : PassesS CX X E) (hd : Vals dvs ds) (ha : PA X (e :: es) t) (hk : k ≤ j := by decide) (hg : Gl X x := by rfl)
    (hdb : (x == ("__debug__" : Str)) = false := by decide) (he : starEach (e :: es) X.env = (false, eval e X.env) :: starEach es X.env := by rfl) (hpl : (backTo pos (starEach es X.env)).any (·.1) = false := by rfl) :
    PE X (.Call (.Name x p) (e :: es) [] pos) (tCallS sp dvs E t) := by
  obtain ⟨f, fd, F, hb, hk', hm⟩ := c.ex
  exact pe_callS F (hr.mono hk) hg hm hk' hb hd hx ha hdb he hpl
theorem pe_m {pl : Sem Bool} (c : MCal X.prog X.w X.K X.mg X.base CX k C m ps ds sp) (he : PE X o ta) (hr : Room j X.A) (hx : PassesS CX X E) (hd : Vals dvs ds) (ha : PA X (e :: es) t) (hk : k ≤ j := by decide)
    (hst : starEach (e :: es) X.env = (false, eval e X.env) :: starEach es X.env := by rfl) (hpl : (backTo pos (starEach es X.env)).any (·.1) = false := by rfl)
    (ht : eval (.Call (.Attribute o m apos) (e :: es) [] pos) X.env = (do
      let ov ← eval o X.env
      standAt apos.atName
      let (f, first) ← holding [ov] (getMethod ov m pl)
      callWith pos f first (backTo pos (starEach (e :: es) X.env)) (backToKw pos (keywordEach [] X.env))) := by rfl) :
    PE X (.Call (.Attribute o m apos) (e :: es) [] pos) (tMethS C m sp dvs E ta t) := by
  obtain ⟨f, fd, F, hb, hm⟩ := c.ex
  exact pe_methS he c.cl hm F (hr.mono hk) hb hd hx ha hst hpl ht
theorem pe_m0 {pl : Sem Bool} (c : MCal X.prog X.w X.K X.mg X.base CX k C m ps ds sp) (he : PE X o ta) (hr : Room j X.A) (hx : PassesS CX X E) (hd : Vals dvs ds) (hk : k ≤ j := by decide)
    (ht : eval (.Call (.Attribute o m apos) [] [] pos) X.env = (do
      let ov ← eval o X.env
      standAt apos.atName
      let (f, first) ← holding [ov] (getMethod ov m pl)
      callWith pos f first (backTo pos (starEach [] X.env)) (backToKw pos (keywordEach [] X.env))) := by rfl) :
    PE X (.Call (.Attribute o m apos) [] [] pos) (tMethS C m sp dvs E ta tNil) := by
  obtain ⟨f, fd, F, hb, hm⟩ := c.ex
  intro pins s σ H Q I h
  refine PySem.W.methodCall_KW (pl := pl) (thn (he pins s σ H _ I h) fun u s1 ⟨x, H1, I1, rx, a, dx, fs, ex, ea, l, q⟩ => ?_) ht
  subst ex
  obtain rfl : u = Value.ref a := rx
  refine getmeth_ok I1 ea c.cl hm l ?_
  exact PySem.W.callWith_K0 (first := [.ref a]) I1.kIn hm.kp (run_fnS (us := [.ref a]) (vs := [.ref a]) F (hr.mono hk) hb hd hx I1 (.cons rfl .nil) q)
theorem pe_mk (c : Mak X.prog X.w X.K X.mg X.base CX k x C ps ds sp) (hr : Room j X.A) (hx : PassesS CX X E) (hd : Vals dvs ds) (ha : PA X (e :: es) t) (hk : k + 1 ≤ j := by decide) (hg : Gl X x := by rfl)
    (hdb : (x == ("__debug__" : Str)) = false := by decide) (he : starEach (e :: es) X.env = (false, eval e X.env) :: starEach es X.env := by rfl) (hpl : (backTo pos (starEach es X.env)).any (·.1) = false := by rfl) :
    PE X (.Call (.Name x p) (e :: es) [] pos) (tMakeS C sp dvs E t) := by
  obtain ⟨f, fd, F, hb, hm⟩ := c.ex
  exact pe_makeS hm F (hr.mono hk) hg c.at_ hb hd hx ha hdb he hpl
theorem pe_mk0 (c : Mak X.prog X.w X.K X.mg X.base CX k x C ps ds sp) (hr : Room j X.A) (hx : PassesS CX X E) (hd : Vals dvs ds) (hk : k + 1 ≤ j := by decide) (hg : Gl X x := by rfl) (hdb : (x == ("__debug__" : Str)) = false := by decide) :
    PE X (.Call (.Name x p) [] [] pos) (tMakeS C sp dvs E tNil) := by
  obtain ⟨f, fd, F, hb, hm⟩ := c.ex
  intro pins s σ H Q I h
  refine wpAny_Call_Name_kw (ld_glob I hg c.at_ ?_ hdb)
  exact PySem.W.callWith_K0 I.kIn hm.kp (run_makeS (us := []) hm F (hr.mono hk) hb hd hx I .nil h)
theorem pe_cm {pl : Sem Bool} (c : CCal X.prog X.w X.K X.mg X.base CX k x m ps ds sp) (hr : Room j X.A) (hx : PassesS CX X E) (hd : Vals dvs ds) (ha : PA X (e :: es) t) (hk : k ≤ j := by decide) (hg : Gl X x := by rfl)
    (hdb : (x == ("__debug__" : Str)) = false := by decide) (hst : starEach (e :: es) X.env = (false, eval e X.env) :: starEach es X.env := by rfl) (hpl : (backTo pos (starEach es X.env)).any (·.1) = false := by rfl)
    (ht : eval (.Call (.Attribute (.Name x p) m apos) (e :: es) [] pos) X.env = (do
      let ov ← eval (.Name x p) X.env
      standAt apos.atName
      let (f, first) ← holding [ov] (getMethod ov m pl)
      callWith pos f first (backTo pos (starEach (e :: es) X.env)) (backToKw pos (keywordEach [] X.env))) := by rfl) :
    PE X (.Call (.Attribute (.Name x p) m apos) (e :: es) [] pos) (tCallS sp dvs E t) := by
  obtain ⟨C, f, fd, F, hb, hm, hmg⟩ := c.ex
  exact pe_cmeth hm hg hmg F (hr.mono hk) hb hd hx ha hdb hst hpl ht
theorem ps_rz {np cpos : Pos} (x' : Exc X.K X.mg X.base x C) (hc : X.calm = true) (hg : Gl X x) (hx : RaisesTo X E) (ha : PA X (e :: es) t) (he : starEach (e :: es) X.env = (false, eval e X.env) :: starEach es X.env := by rfl) (hpl : (backTo cpos (starEach es X.env)).any (·.1) = false := by rfl) (hd : (x == ("__debug__" : Str)) = false := by decide) :
    PS X (.Raise (some (.Call (.Name x np) (e :: es) [] cpos)) none pos) (tRaise C E t) := by
  obtain ⟨bm, nid, init, B, O, FB⟩ := x'.ex
  exact ps_raise O FB hc hg hx ha he hpl hd
end
theorem pe_globI {X : Cx} {x : Str} {i : Int} {pos : Pos} (hm : ∃ tk, X.mg x = some (.int i tk)) (hg : Gl X x) (hd : (x == ("__debug__" : Str)) = false := by decide) : PE X (.Name x pos) (tC (.int i)) := by
  obtain ⟨tk, e⟩ := hm
  exact pe_glob hg e ⟨tk, rfl⟩ hd
def CDivB (_ j : Int) : Prop := j ≠ 0 ∧ j.natAbs < 2 ^ 8999
theorem op_fdivB {X : Cx} : OpR X (binaryOp .FloorDiv) (rI CDivB fun i j => .int (i.fdiv j)) := opI fun _ j _ _ _ _ _ hc q => floordiv_int hc.1 q (.inl (PyProof.noPylong_of_log2 (by
  have h0 : j.natAbs ≠ 0 := fun z => hc.1 (Int.natAbs_eq_zero.mp z)
  exact Nat.lt_of_lt_of_le ((Nat.log2_lt h0).mpr hc.2) (by decide))))
theorem cEq {a b : Int} {A B : Prop} (h1 : a = b → A) (h2 : a ≠ b → B) : if decide (V.int a = V.int b) = true then A else B := by
  by_cases h : a = b
  · rw [decide_eq_true (congrArg V.int h)]; exact iteT (h1 h)
  · rw [decide_eq_false fun z => h (by injection z)]; exact iteF (h2 h)
theorem cNe {a b : Int} {A B : Prop} (h1 : a ≠ b → A) (h2 : a = b → B) : if (!decide (V.int a = V.int b)) = true then A else B := by
  by_cases h : a = b
  · rw [decide_eq_true (congrArg V.int h)]; exact iteF (h2 h)
  · rw [decide_eq_false fun z => h (by injection z)]; exact iteT (h1 h)
theorem cD {c : Prop} [Decidable c] {A B : Prop} (h1 : c → A) (h2 : ¬ c → B) : if decide c = true then A else B := by
  by_cases h : c
  · rw [decide_eq_true h]; exact iteT (h1 h)
  · rw [decide_eq_false h]; exact iteF (h2 h)
theorem cN {c : Prop} [Decidable c] {A B : Prop} (h1 : ¬ c → A) (h2 : c → B) : if (!decide c) = true then A else B := by
  by_cases h : c
  · rw [decide_eq_true h]; exact iteF (h2 h)
  · rw [decide_eq_false h]; exact iteT (h1 h)
theorem cNB {b : Bool} {A B : Prop} (h1 : b = false → A) (h2 : b = true → B) : if (!b) = true then A else B := by
  cases b with
  | true => exact iteF (h2 rfl)
  | false => exact iteT (h1 rfl)
theorem dI {a b : Int} : decide (V.int a = V.int b) = decide (a = b) := by
  by_cases h : a = b
  · rw [decide_eq_true (congrArg V.int h), decide_eq_true h]
  · rw [decide_eq_false fun z => h (by injection z), decide_eq_false h]
end L2
namespace L2
open PySem PySem.Spec PyProof.Rows
mutual
inductive Rds (K : PySem.W.Frag) (H : Hp) : V → PyData → Prop
  | non : Rds K H .non .none
  | bl (b : Bool) : Rds K H (.bl b) (.bool b)
  | int (i : Int) : Rds K H (.int i) (.int i)
  | str (x : Str) : Rds K H (.str x) (.str x)
  | tup {a : Addr} {xs : List V} {ds : List PyData} : SqT K H a xs → RdsAll K H xs ds → Rds K H (.ref a) (.tuple ds)
  | lst {a : Addr} {xs : List V} {ds : List PyData} : SqL K H a xs → RdsAll K H xs ds → Rds K H (.ref a) (.list ds)
inductive RdsAll (K : PySem.W.Frag) (H : Hp) : List V → List PyData → Prop
  | nil : RdsAll K H [] []
  | cons {x : V} {xs : List V} {d : PyData} {ds : List PyData} : Rds K H x d → RdsAll K H xs ds → RdsAll K H (x :: xs) (d :: ds)
end
theorem rds_ints {K : PySem.W.Frag} {H : Hp} : ∀ ns : List Int, RdsAll K H (ns.map V.int) (ns.map PyData.int)
  | [] => .nil
  | n :: ns => .cons (.int n) (rds_ints ns)
section
variable {X : Cx} {pins : List (Addr × Obj)} {σ : St} {H : Hp} {s : Shared}
mutual
theorem Inv.rds (I : Inv X pins σ H s) : ∀ {v : V} {d : PyData} {u : Value}, Rds X.K H v d → RelV v u → ∃ as, Reads s.heap u d as
  | _, _, _, .non, r => by cases (show _ = Value.none from r); exact ⟨_, .none⟩
  | _, _, _, .bl b, r => by cases (show _ = Value.bool b from r); exact ⟨_, .bool b⟩
  | _, _, _, .int i, r => by obtain ⟨t, rfl⟩ := r; exact ⟨_, .int i t⟩
  | _, _, _, .str x, r => by obtain ⟨t, rfl⟩ := r; exact ⟨_, .str x t⟩
  | _, _, _, .tup (a := a) h hs, r => by
    cases (show _ = Value.ref a from r)
    obtain ⟨its, rv, ⟨o, ho, hc, n, hd⟩, _⟩ := I.tuple h
    obtain ⟨as, q⟩ := Inv.rdsAll I hs rv
    exact ⟨as, .tuple ho hc hd (by simpa using q)⟩
  | _, _, _, .lst (a := a) h hs, r => by
    cases (show _ = Value.ref a from r)
    obtain ⟨its, rv, p, _⟩ := I.list h
    obtain ⟨o, ho, hc, n, hd⟩ := p.isList
    obtain ⟨as, q⟩ := Inv.rdsAll I hs rv
    exact ⟨_, .list ho hc hd (by simpa using q)⟩
theorem Inv.rdsAll (I : Inv X pins σ H s) : ∀ {vs : List V} {ds : List PyData} {us : List Value}, RdsAll X.K H vs ds → Vals vs us → ∃ as, ReadsAll s.heap us ds as
  | _, _, _, .nil, .nil => ⟨_, .nil⟩
  | _, _, _, .cons h hs, .cons r rs => by
    obtain ⟨as, q⟩ := Inv.rds I h r
    obtain ⟨bs, p⟩ := Inv.rdsAll I hs rs
    exact ⟨_, .cons q p⟩
end
end
section
variable {X : Cx}
theorem op_eqD (hu : X.A.units + 64 < cLine) : OpR X (compareOp .Eq) (fun x y H Q => ∃ d e, Rds X.K H x d ∧ Rds X.K H y e ∧ SeqAt.shaped d = true ∧ SeqAt.shaped e = true ∧ Q (.bl (PyData.eqv d e)) H) := by
  intro pins s σ H x y u v Q I rx ry h
  obtain ⟨d, e, hd, he, s1, s2, q⟩ := h
  obtain ⟨as, ra⟩ := I.rds hd rx
  obtain ⟨bs, rb⟩ := I.rds he ry
  exact eq_dataH ra rb s1 s2 hu ⟨.bl (PyData.eqv d e), H, I, rfl, q⟩
theorem op_neD (hu : X.A.units + 64 < cLine) : OpR X (compareOp .NotEq) (fun x y H Q => ∃ d e, Rds X.K H x d ∧ Rds X.K H y e ∧ SeqAt.shaped d = true ∧ SeqAt.shaped e = true ∧ Q (.bl (!PyData.eqv d e)) H) := by
  intro pins s σ H x y u v Q I rx ry h
  obtain ⟨d, e, hd, he, s1, s2, q⟩ := h
  obtain ⟨as, ra⟩ := I.rds hd rx
  obtain ⟨bs, rb⟩ := I.rds he ry
  exact ne_dataH ra rb s1 s2 hu ⟨.bl (!PyData.eqv d e), H, I, rfl, q⟩
end
theorem eqv_ints : ∀ ns ms : List Int, PyData.eqvAll (ns.map PyData.int) (ms.map PyData.int) = decide (ns = ms)
  | [], [] => by simp [PyData.eqvAll]
  | [], _ :: _ => by simp [PyData.eqvAll]
  | _ :: _, [] => by simp [PyData.eqvAll]
  | a :: r, b :: t => by
    simp only [List.map_cons, PyData.eqvAll, PyData.eqv, eqv_ints r t]
    by_cases h : a = b <;> by_cases h' : r = t <;> simp [h, h']
theorem shaped_ints (ns : List Int) : SeqAt.shaped (.tuple (ns.map PyData.int)) = true := by
  simp [SeqAt.shaped, PyData.canLay0, PyData.depth, PySem.W.ke_canLayAll0, PySem.W.ke_depthAll]
section
variable {X : Cx}
def rEqT (K : PySem.W.Frag) : R2 := fun x y H Q => ∃ (a b : Addr) (xs ys : List Int), x = .ref a ∧ y = .ref b ∧ SqT K H a (xs.map V.int) ∧ SqT K H b (ys.map V.int) ∧ Q (.bl (decide (xs = ys))) H
def rNeT (K : PySem.W.Frag) : R2 := fun x y H Q => ∃ (a b : Addr) (xs ys : List Int), x = .ref a ∧ y = .ref b ∧ SqT K H a (xs.map V.int) ∧ SqT K H b (ys.map V.int) ∧ Q (.bl (!decide (xs = ys))) H
theorem op_neT (hu : X.A.units + 64 < cLine) : OpR X (compareOp .NotEq) (rNeT X.K) := by
  intro pins s σ H x y u v Q I rx ry h
  obtain ⟨a, b, xs, ys, rfl, rfl, h1, h2, q⟩ := h
  refine op_neD hu pins s σ H _ _ u v Q I rx ry ⟨_, _, .tup h1 (rds_ints xs), .tup h2 (rds_ints ys), shaped_ints _, shaped_ints _, ?_⟩
  rw [PyData.eqv, eqv_ints]
  exact q
end
end L2
namespace HT
open PySem PyProof.Rows
section
open PySem.SeqAt
open PySem.AutoSeq1 (wpAny_loadPart')
open PySem.MeetsSeq PySem.MeetsSeq2 PySem.MeetsSeq3
end
end HT
namespace L2
open PySem PySem.Spec PyProof.Rows
variable {X : Cx}
def rGtT (K : PySem.W.Frag) : R2 := fun x y H Q => ∃ (a b : Addr) (ns ms : List Int), x = .ref a ∧ y = .ref b ∧ SqT K H a (ns.map V.int) ∧ SqT K H b (ms.map V.int) ∧ Q (.bl (HT.lexLt ms ns)) H
end L2
namespace PySem
namespace F
theorem owner_rvd : Manifest.owners.lookup (String.ofList ['d', 'e', 's', 'r', 'e', 'v', 'e', 'r'].reverse) = some Manifest.sig_reversed := by kernel_rfl
theorem slot_rvd_next : Slot "reversed" "__next__" "reversed.__next__" :=
  .of (owner := "reversed") (n := "__next__") (by rw [typeLookup_type, builtinLookup_eq_fast]; kernel_rfl) (by decide +kernel) (by decide +kernel) (by decide +kernel)
    (by first | exact .inl (by decide +kernel) | exact .inr (by decide +kernel)) (by rw [isSubtype_type]; kernel_rfl)
theorem entry_rvd_next : entryFor table "reversed.__next__" = some Builtin.«reversed.__next__» := entryFor_of_tree (by kernel_rfl)
theorem args_rvd_next_1 (a : Value) : argsOk "reversed.__next__" ⟨[a], []⟩ := by
  unfold argsOk; rw [signature?_of (id := "reversed.__next__") (n := ['_', '_', 't', 'x', 'e', 'n', '_', '_']) (o := ['d', 'e', 's', 'r', 'e', 'v', 'e', 'r']) (by kernel_rfl) owner_rvd]; kernel_rfl
theorem slot_rvd_iter : Slot "reversed" "__iter__" "reversed.__iter__" :=
  .of (owner := "reversed") (n := "__iter__") (by rw [typeLookup_type, builtinLookup_eq_fast]; kernel_rfl) (by decide +kernel) (by decide +kernel) (by decide +kernel)
    (by first | exact .inl (by decide +kernel) | exact .inr (by decide +kernel)) (by rw [isSubtype_type]; kernel_rfl)
theorem args_rvd_iter_1 (a : Value) : argsOk "reversed.__iter__" ⟨[a], []⟩ := by
  unfold argsOk; rw [signature?_of (id := "reversed.__iter__") (n := ['_', '_', 'r', 'e', 't', 'i', '_', '_']) (o := ['d', 'e', 's', 'r', 'e', 'v', 'e', 'r']) (by kernel_rfl) owner_rvd]; kernel_rfl
theorem entry_rvd_iter : entryFor table "reversed.__iter__" = some Builtin.«dict_keyiterator.__iter__» :=
  entryFor_alias (id' := "dict_keyiterator.__iter__") (by kernel_rfl) (by first | rfl | decide +kernel | (unfold String.splitOn; simp +decide [String.splitOnAux])) (by decide +kernel) (by kernel_rfl)
theorem lookup_tuple_reversed : typeLookup (.type "tuple") "__reversed__" = pure none := by rw [typeLookup_type, builtinLookup_eq_fast]; kernel_rfl
theorem slot_rvd_init : Slot "reversed" "__init__" "object.__init__" :=
  .of (owner := "object") (n := "__init__") (by rw [typeLookup_type, builtinLookup_eq_fast]; kernel_rfl) (by decide +kernel) (by decide +kernel) (by decide +kernel)
    (by first | exact .inl (by decide +kernel) | exact .inr (by decide +kernel)) (by rw [isSubtype_type]; kernel_rfl)
theorem called_reversed : TypeCalled "reversed" "reversed.__new__" "object.__init__" :=
  ⟨by decide +kernel, by decide +kernel, ⟨_, _, mro_reversed⟩, made_reversed, by decide +kernel, by rw [isSubtype_type]; kernel_rfl, slot_rvd_init⟩
end F
end PySem
namespace L2
open PySem PySem.Spec PyProof.Rows PySem.MeetsSeq
theorem rev_made (t : Addr) (items : Array Value) : Meets (Builtin.«reversed.__new__» ⟨[.type "reversed", .ref t], []⟩) (fun _ R s => IsTup s.heap t items ∧ (items.size : Int) < 2 ^ 63 ∧
      R (.ok (.ret (.ref s.heap.objs.size))) { s with heap := s.heap.push { cls := .type "reversed", data := .fields #[.ref t, rawInt ((items.size : Int) - 1)] }, toks := s.toks + 1 + 1 }) :=
  .of_wp fun prog w A R s h => by
    obtain ⟨ht, hz, h⟩ := h
    unfold Builtin.«reversed.__new__»
    refine wpAny_bind (wpAny_of_eq (newClass_reversed _) ?_)
    try dsimp only
    refine wpAny_bind (wpAny_of_eq (a := ()) (by first | rfl | kernel_rfl) ?_)
    refine wpAny_bind (wpAny_of_eq (a := ()) (by first | rfl | kernel_rfl) ?_)
    try dsimp only
    refine wpAny_bind (wpAny_specialOf ht.typeIs F.lookup_tuple_reversed ?_)
    try dsimp only
    refine wpAny_bind ?_
    show wpAny _ _ (isInstance (.ref t) (.type "dict") >>= _) _ _ _
    refine wpAny_bind (wpAny_isInstance ht.typeIs F.sub_tuple_dict ?_)
    rw [if_neg Bool.false_ne_true]
    refine wpAny_bind (wpAny_specialOf ht.typeIs slot_tuple_getitem.lookup ?_)
    dsimp only
    rw [if_pos (by decide)]
    refine wpAny_pure ?_
    simp only [Bool.not_true, Bool.false_eq_true, if_false]
    refine wpAny_bind (len_tuple ht hz ?_)
    refine wpAny_bind (wpAny_of_eq (a := some (items.size : Int)) rfl ?_)
    dsimp only
    refine wpAny_bind ?_
    unfold Builtin.SmallTypes.newRecord
    dsimp only
    refine wpAny_newObj_type ?_
    exact wpAny_pure ⟨_, rfl, h⟩
section
variable {prog : Program} {w : World} {A : Around} {E : Value → Shared → Prop} {s : Shared}
def IsRvd (h : Heap) (a t : Addr) (i : Int) : Prop := ∃ o, h.get? a = some o ∧ o.cls = .type "reversed" ∧ o.data = .fields #[.ref t, rawInt i]
theorem IsRvd.typeIs {a t : Addr} {i : Int} (x : IsRvd s.heap a t i) : s.TypeIs (.ref a) "reversed" := let ⟨o, ho, hc, _⟩ := x; ⟨o, ho, hc⟩
theorem call_reversed_tup {t : Addr} {items : Array Value} {Q : Value → Shared → Prop} (ht : IsTup s.heap t items) (hz : (items.size : Int) < 2 ^ 63)
    (h : Q (.ref s.heap.objs.size) { s with heap := s.heap.push { cls := .type "reversed", data := .fields #[.ref t, rawInt ((items.size : Int) - 1)] }, toks := s.toks + 1 + 1 }) : wpAny (model prog w) A (call (.type "reversed") [.ref t]) Q E s := by
  refine callType_new F.called_reversed (by decide) (F.typeCall_reversed_1 _) (F.newCall_reversed_1 _) (fun obj => F.args_object_init_2 obj _) F.entry_reversed_new (rev_made t items) ⟨ht, hz, ?_⟩
  exact ⟨⟨_, Heap.get?_push_size _ rfl, rfl⟩, h⟩
theorem pyNext_rvd_item {it t : Addr} {i : Nat} {items : Array Value} {x : Value} {Q : Option Value → Shared → Prop} (hit : IsRvd s.heap it t (i : Int)) (ht : IsTup s.heap t items) (hz : (items.size : Int) < 2 ^ 63) (hx : items[i]? = some x)
    (hQ : ∀ h', IsRvd h' it t ((i : Int) - 1) → Heap.SameBut it s.heap h' → Q (some x) { s with heap := h', toks := s.toks + 1 }) : wpAny (model prog w) A (pyNext (.ref it)) Q E s := by
  obtain ⟨o, ho, hc, hd⟩ := id hit
  have hi : i < items.size := by
    rcases Nat.lt_or_ge i items.size with q | q
    · exact q
    · rw [Array.getElem?_eq_none q] at hx; cases hx
  have hs : seqIndex? (i : Int) items.size = some i := by
    unfold seqIndex?
    have n0 : ¬ (i : Int) < 0 := by omega
    simp only [n0, if_false]
    rw [if_pos (by simp; omega)]
    simp
  unfold pyNext
  refine wpAny_bind (wpAny_attempt (wpAny_callSpecial?_slot (name := Str.ofString "__next__") hit.typeIs F.slot_rvd_next
    (wpAny_call_entry F.slot_rvd_next hit.typeIs F.entry_rvd_next ?_ (F.args_rvd_next_1 _))))
  unfold Builtin.«reversed.__next__»
  refine wpAny_bind (wpAny_of_eq (a := (Value.ref it, [])) rfl ?_)
  try dsimp only
  refine wpAny_bind (wpAny_field ho hd (x := .ref t) rfl ?_)
  refine wpAny_bind (wpAny_field ho hd (x := rawInt (i : Int)) rfl ?_)
  show wpAny _ _ (if (i : Int) < 0 then _ else _) _ _ s
  rw [if_neg (by omega)]
  refine wpAny_bind (wpAny_specialOf ht.typeIs slot_tuple_getitem.lookup ?_)
  rw [if_neg (by simp)]
  refine wpAny_bind (wpAny_mkInt ?_)
  refine wpAny_bind (wpAny_attempt (getItem_tuple (j := i) ht (by omega) (by omega) hs (by simpa using hx) ?_))
  dsimp only
  refine wpAny_bind (wpAny_field ho hd (x := rawInt (i : Int)) rfl ?_)
  show wpAny _ _ (setField (.ref it) 1 (rawInt ((i : Int) - 1)) >>= _) _ _ _
  refine wpAny_bind (wpAny_setField ho hd (by simp) ?_)
  refine wpAny_pure ⟨x, rfl, wpAny_pure (hQ _ ?_ (Heap.SameBut.update ..))⟩
  exact ⟨_, Heap.get?_update_self _ ho (Obj.isFreed_of_fields (Obj.data_mapFields hd _)), (Obj.cls_mapFields ..).trans hc, by
    rw [Obj.data_mapFields hd]; simp⟩
theorem pyNext_rvd_end {it t : Addr} {Q : Option Value → Shared → Prop} (hh : A.handled = none) (hit : IsRvd s.heap it t (-1))
    (hQ : ∀ h', Heap.ExtBut it s.heap h' → Q none { s with heap := h' }) : wpAny (model prog w) A (pyNext (.ref it)) Q E s := by
  obtain ⟨o, ho, hc, hd⟩ := id hit
  unfold pyNext
  refine wpAny_bind (wpAny_attempt (wpAny_callSpecial?_slot (name := Str.ofString "__next__") hit.typeIs F.slot_rvd_next
    (wpAny_call_entry F.slot_rvd_next hit.typeIs F.entry_rvd_next ?_ (F.args_rvd_next_1 _))))
  unfold Builtin.«reversed.__next__»
  refine wpAny_bind (wpAny_of_eq (a := (Value.ref it, [])) rfl ?_)
  try dsimp only
  refine wpAny_bind (wpAny_field ho hd (x := .ref t) rfl ?_)
  refine wpAny_bind (wpAny_field ho hd (x := rawInt (-1)) rfl ?_)
  show wpAny _ _ (if (-1 : Int) < 0 then _ else _) _ _ s
  rw [if_pos (by decide)]
  refine wpAny_bind (wpAny_rule ?_)
  refine wpAny_bind ?_
  show wpAny _ _ (setField (.ref it) 1 (rawInt (-1)) >>= _) _ _ _
  refine wpAny_bind (wpAny_setField ho hd (by simp) ?_)
  have ho2 := Heap.get?_update_self (Obj.mapFields fun x => x.setIfInBounds 1 (rawInt (-1))) ho (Obj.isFreed_of_fields (Obj.data_mapFields hd _))
  refine wpAny_setField ho2 (Obj.data_mapFields hd _) (by simp) ?_
  refine wpAny_bind ?_
  show wpAny _ _ (newExc (.type "StopIteration") [] >>= _) _ _ _
  refine wpAny_bind ?_
  simp only [newExc, newTuple]
  refine wpAny_bind (wpAny_newObj_type ?_ (by size_fits))
  refine wpAny_bind (m := firstArgMember _ _) (wpAny_of_eq (a := Value.none) (by first | rfl | (simp only [firstArgMember]; rfl)) ?_)
  refine wpAny_newObj_type ?_ (by size_fits)
  simp only [raiseNew]
  refine wpAny_bind (wpAny_handled ?_)
  first | rw [show A.in1.handled = none from hh] | rw [hh]
  refine wpAny_bind (wpAny_pure (wpAny_throw ?_))
  refine wpAny_bind (wpAny_isInstance (T := "StopIteration") (b := true) ⟨_, Heap.get?_push_size _ rfl, rfl⟩ isSubtype_stop ?_)
  exact wpAny_pure (hQ _ fun b o hb e => Heap.get?_push_of_some _ (Heap.get?_push_of_some _ ((Heap.SameBut.update ..).extBut b o hb ((Heap.SameBut.update ..).extBut b o hb e))))
theorem pyIter_rvd {it t : Addr} {i : Int} {Q : Value → Shared → Prop} (hit : IsRvd s.heap it t i) (h : Q (.ref it) s) : wpAny (model prog w) A (pyIter (.ref it)) Q E s := by
  refine wpAny_pyIter_slot hit.typeIs F.slot_rvd_iter (wpAny_call_entry F.slot_rvd_iter hit.typeIs F.entry_rvd_iter ?_ (F.args_rvd_iter_1 _))
  show wpAny _ _ (ret (.ref it)) _ _ s
  exact wpAny_pure ⟨_, rfl, "reversed", _, hit.typeIs, F.slot_rvd_next.lookup, h⟩
end
def Itv (K : PySem.W.Frag) (a : Addr) (n : Nat) : It :=
  ⟨fun i H => i < n ∧ ∃ xs, SqT K H a xs ∧ xs.length = n, fun i H x H' => H' = H ∧ ∀ xs, SqT K H a xs → xs[n - 1 - i]? = some x, fun i H => i = n⟩
theorem turn_rvd {P : Program} {w : World} {K : PySem.W.Frag} {tg : Expr} (a it : Addr) (n : Nat) : Turn P w K tg (Itv K a n) [it] it (fun i h => IsRvd h it a ((n : Int) - 1 - (i : Int))) where
  mem := by simp
  obj := fun i h st b hb => by
    simp only [List.mem_cons, List.not_mem_nil, or_false] at hb
    subst hb
    obtain ⟨o, ho, hc, hd⟩ := st
    exact ⟨o, ho, fun v q => by rw [hd] at q; cases q⟩
  keep := fun i h h' st k => by obtain ⟨o, ho, r⟩ := st; exact ⟨o, k it (by simp) o ho, r⟩
  item := by
    intro X hP hw hK hc i pins s σ H E I hf st hg
    subst hP hw hK
    obtain ⟨hi, xs, hx, hn⟩ := hg
    obtain ⟨its, rv, p, hz⟩ := I.tuple hx
    have hl := rv.length
    have hlt := line63
    have e1 : (n : Int) - 1 - (i : Int) = ((n - 1 - i : Nat) : Int) := by omega
    rw [e1] at st
    obtain ⟨x, ex⟩ : ∃ x, xs[n - 1 - i]? = some x := ⟨xs[n - 1 - i], by simp⟩
    obtain ⟨u, eu, ru⟩ := rv.get ex
    refine pyNext_rvd_item st p (by rw [List.size_toArray]; omega) (x := u) (by simpa using eu) fun h' st' sb => ⟨u, rfl, ?_⟩
    obtain ⟨o, ho, hcl, hd⟩ := id st'
    refine go_of (s := { s with heap := h', toks := s.toks + 1 }) ho hcl hd (by decide) ?_
    obtain ⟨f0, f1, f2, f3, f4, f5⟩ := hf it (by simp)
    have e2 : ((n - 1 - i : Nat) : Int) - 1 = (n : Int) - 1 - ((i + 1 : Nat) : Int) := by omega
    rw [e2] at st'
    exact ⟨x, H, I.turned (t' := s.toks + 1) (fun b o hb e => sb.extBut b o hb e) f0 f1 f3 f4 f5, ru, ⟨rfl, fun ys hy => by rw [I.tuple_inj hy hx]; exact ex⟩, st', fun b hb => (hf b hb).1⟩
  done := by
    intro X hP hw hK hc i pins s σ H E I hf st hg
    subst hP hw hK
    obtain rfl : i = n := hg
    have e1 : (i : Int) - 1 - (i : Int) = -1 := by omega
    rw [e1] at st
    obtain ⟨f0, f1, f2, f3, f4, f5⟩ := hf it (by simp)
    exact pyNext_rvd_end (I.ok.hd hc) st fun h' eb => ⟨rfl, I.turned (t' := s.toks) (fun b o hb e => eb b o hb e) f0 f1 f3 f4 f5⟩
  self := fun _ _ _ _ _ st h => pyIter_rvd st h
def iRvd (K : PySem.W.Frag) (ta : TA) : TI := fun σ H R => ta σ H fun vs H1 => ∃ a xs, vs = [.ref a] ∧ SqT K H1 a xs ∧ R (Itv K a xs.length) H1
theorem boot_reversed : bootBuiltins "reversed" = some (.type "reversed") := by kernel_rfl
theorem pi_rev {X : Cx} {tg : Expr} {p pos : Pos} {e1 : Expr} {ta : TA} (hg : Gl X "reversed") (hm : X.mg "reversed" = none) (ha : PA X [e1] ta)
    (he : starEach [e1] X.env = (false, eval e1 X.env) :: starEach [] X.env := by rfl) (hpl : (backTo pos (starEach [] X.env)).any (·.1) = false := by rfl) :
    PI X tg (.Call (.Name "reversed" p) [e1] [] pos) (iRvd X.K ta) := by
  intro pins s σ H R I h
  refine wpAny_Call_Name_kw (ld_blt I hg hm boot_reversed ?_ (by decide) (by decide))
  refine PyProof.Rows.callWith_type1 (thn (ha pos pins s σ H _ I h) fun us s1 ⟨vs, H1, I1, r1, a, xs, ev, hx, q⟩ => ?_) he hpl
  subst ev
  obtain ⟨u, rfl, ru⟩ := r1.one
  cases ru
  obtain ⟨its, rv, pt, hz⟩ := I1.tuple hx
  have hl := rv.length
  have hlt := line63
  refine call_reversed_tup pt (by rw [List.size_toArray]; omega) ?_
  have hit : IsRvd (s1.heap.push { cls := .type "reversed", data := .fields #[.ref a, rawInt ((its.toArray.size : Int) - 1)] }) s1.heap.objs.size a ((xs.length : Int) - 1 - ((0 : Nat) : Int)) := by
    refine ⟨_, Heap.get?_push_size _ rfl, rfl, ?_⟩
    have e : ((its.toArray.size : Nat) : Int) - 1 = (xs.length : Int) - 1 - ((0 : Nat) : Int) := by rw [List.size_toArray, hl]; omega
    rw [e]
  refine pyIter_rvd hit ?_
  have I2 : Inv X pins σ H1 { s1 with heap := s1.heap.push { cls := .type "reversed", data := .fields #[.ref a, rawInt ((its.toArray.size : Int) - 1)] }, toks := s1.toks + 1 + 1 } := I1.kept (t' := s1.toks + 1 + 1) fun b o e => Heap.get?_push_of_some _ e
  refine ⟨s1.heap.objs.size, [s1.heap.objs.size], _, _, H1, rfl, I2, turn_rvd a s1.heap.objs.size xs.length, hit, fun b hb => ?_, q⟩
  obtain rfl : b = s1.heap.objs.size := by simpa using hb
  exact I1.fpOk (Nat.le_refl _) (I1.hok.fresh (Nat.le_refl _))
theorem walk_rvd {K : PySem.W.Frag} {H1 : Hp} {a : Addr} {xs : List V} (h : SqT K H1 a xs) : Walk (Itv K a xs.length) H1 xs.length (fun i x _ => xs[xs.length - 1 - i]? = some x) :=
  ⟨fun i H' e hi => ⟨hi, xs, e.seqT h, rfl⟩, fun H' e => rfl, fun i H' x H2 e hi y => by
    obtain ⟨rfl, q⟩ := y
    exact ⟨Same.refl _, q xs (e.seqT h)⟩⟩
theorem walk_comp {J : It} {n : Nat} {P : Nat → V → Hp → Prop} {mp : List (Option Nat)} {wi : TI} {g : TG} {tc : TT} {te : TE} {σ : St} {H H1 : Hp} {Q : VK} (S : Walk J H1 n P) (hn : n ≤ 1000) (hwi : ∀ R, R J H1 → wi σ H R) (Sv : St → Prop) (p : Nat → Bool) (f : Nat → V) (h0 : Sv (st0 mp σ))
    (step : ∀ i x σ' H2, i < n → Sv σ' → Same H1 H2 → P i x H2 → ∀ (Ny : V → St → Hp → Prop) (Nn : St → Hp → Prop), (∀ σ2 H5, Sv σ2 → Same H2 H5 → p i = true → Ny (f i) σ2 H5) → (∀ σ2 H4, Sv σ2 → Same H2 H4 → p i = false → Nn σ2 H4) →
      g x σ' H2 fun σ2 H3 => tc σ2 H3 fun b H4 => if b = true then te σ2 H4 fun v H5 => Ny v σ2 H5 else Nn σ2 H4)
    (hQ : ∀ D H', Same H1 H' → H' D = some (.lst (((List.range n).filter p).map f)) → Q (.ref D) H') : tComp mp wi g tc te σ H Q := by
  unfold tComp
  refine hwi _ fun D hD => ?_
  exact comp_vals S hD (Nat.le_trans hn (by rw [sizeLine_eq]; decide)) Sv p f h0 step fun H' e hL => hQ D H' e hL
end L2
namespace L2
open PySem PySem.Spec PyProof.Rows
def blk1 (X : Cx) (N : List Str) (scope : Scope) (cl : List (Str × Addr)) (own : Str) (C : Addr) (s : Shared) (H : Hp) (fp : List Addr) : Cx :=
  { X with N := N, s₀ := s, H₀ := H, env := compEnvC scope ((own, C + 1) :: cl) C X.env, outer := X.stack, ex := fp, fn := fun x => decide (x = own), pn := [], xe := fun _ _ => False }
structure Blk1 (X : Cx) (N : List Str) (scope : Scope) (cl : List (Str × Addr)) (own : Str) (mp : List (Option Nat)) : Prop where
  clos : closureFor scope X.env = pure cl
  cf : ∀ n, cellsFrom n scope.names cl = (own, n) :: cl
  pc : ∀ h : Heap, pushCells h scope.names = h.push { cls := .type "cell", data := .cell none }
  kind : scope.kind = .function
  nms : ∀ y ∈ scope.names, y.2 = .local → scope.names.lookup y.1 = some .local
  nd : N.Nodup
  sub : ∀ x c, cl.lookup x = some c → X.env.cells.lookup x = some c
  has : ∀ x, ((relabel scope X.env).names.lookup x = some .cell ∨ (relabel scope X.env).names.lookup x = some .free) → x = own ∨ ∃ c, cl.lookup x = some c
  len : mp.length = N.length
  map : ∀ (i j : Nat) (x : Str), mp[i]? = some (some j) → N[i]? = some x → x ≠ own ∧ X.N[j]? = some x ∧ (X.env.scope.names.lookup x = some .cell ∨ X.env.scope.names.lookup x = some .free) ∧
    ((relabel scope X.env).names.lookup x = some .cell ∨ (relabel scope X.env).names.lookup x = some .free)
theorem look_own {own x : Str} {n c : Addr} {cl : List (Str × Addr)} (h : ((own, n) :: cl).lookup x = some c) : (x = own ∧ c = n) ∨ (x ≠ own ∧ cl.lookup x = some c) := by
  rw [List.lookup_cons] at h
  cases q : (x == own) with
  | true => rw [q] at h; exact .inl ⟨eq_of_beq q, (Option.some.inj h).symm⟩
  | false =>
    rw [q] at h
    have nz : x ≠ own := fun z => by
      rw [z, beq_self_eq_true] at q
      cases q
    exact .inr ⟨nz, h⟩
theorem look_at {own : Str} {n : Addr} {cl : List (Str × Addr)} : ((own, n) :: cl).lookup own = some n := by
  rw [List.lookup_cons, beq_self_eq_true]
theorem look_ne {own x : Str} {n : Addr} {cl : List (Str × Addr)} (h : x ≠ own) : ((own, n) :: cl).lookup x = cl.lookup x := by
  rw [List.lookup_cons]
  cases q : (x == own) with
  | true => exact absurd (eq_of_beq q) h
  | false => rfl
section
variable {X : Cx} {pins : List (Addr × Obj)} {σ : St} {H : Hp} {s : Shared} {N : List Str} {scope : Scope} {cl : List (Str × Addr)} {own : Str} {mp : List (Option Nat)} {fp : List Addr}
end
end L2
namespace L2
open PySem PySem.Spec PyProof.Rows
def SubC (cl cells : List (Str × Addr)) : Prop := ∀ x c, cl.lookup x = some c → cells.lookup x = some c
theorem subc_nil {cells : List (Str × Addr)} : SubC [] cells := fun _ _ h => nomatch h
theorem subc_cons {cl cells : List (Str × Addr)} {a : Str} {n : Addr} (h : cells.lookup a = some n) (t : SubC cl cells) : SubC ((a, n) :: cl) cells := fun x c e => by
  rcases look_own e with ⟨rfl, rfl⟩ | ⟨_, e⟩
  · exact h
  · exact t x c e
theorem look_in : ∀ {cl : List (Str × Addr)} {x : Str}, x ∈ cl.map (·.1) → ∃ c, cl.lookup x = some c
  | (a, n) :: cl, x, h => by
    by_cases q : x = a
    · exact ⟨n, by rw [q]; exact look_at⟩
    · rcases List.mem_cons.mp h with z | z
      · exact absurd z q
      · obtain ⟨c, e⟩ := look_in z
        exact ⟨c, (look_ne q).trans e⟩
theorem fr_of {names : List (Str × NameKind)} {cl : List (Str × Addr)} {fs : List Str} (e : cl.map (·.1) = fs) (h : ∀ y ∈ names, y.2 = .free → y.1 ∈ fs) : ∀ y ∈ names, y.2 = .free → ∃ c, cl.lookup y.1 = some c :=
  fun y hy hf => look_in (by rw [e]; exact h y hy hf)
def MapC (X : Cx) (scope : Scope) (mp : List (Option Nat)) (N : List Str) : Prop := ∀ (i j : Nat) (x : Str), mp[i]? = some (some j) → N[i]? = some x → X.N[j]? = some x ∧ (X.env.scope.names.lookup x = some .cell ∨ X.env.scope.names.lookup x = some .free) ∧ scope.names.lookup x = some .free
theorem mapc_nil {X : Cx} {scope : Scope} {N : List Str} : MapC X scope [] N := fun i j x h => by simp at h
theorem mapc_none {X : Cx} {scope : Scope} {mp : List (Option Nat)} {N : List Str} {y : Str} (t : MapC X scope mp N) : MapC X scope (none :: mp) (y :: N) := fun i j x h1 h2 => by
  cases i with
  | zero => cases h1
  | succ i => exact t i j x (by simpa using h1) (by simpa using h2)
theorem mapc_some {X : Cx} {scope : Scope} {mp : List (Option Nat)} {N : List Str} {y : Str} {k : Nat} (h : X.N[k]? = some y) (hc : X.env.scope.names.lookup y = some .cell ∨ X.env.scope.names.lookup y = some .free) (hf : scope.names.lookup y = some .free)
    (t : MapC X scope mp N) : MapC X scope (some k :: mp) (y :: N) := fun i j x h1 h2 => by
  cases i with
  | zero =>
    simp only [List.getElem?_cons_zero, Option.some.injEq] at h1 h2
    subst h1 h2
    exact ⟨h, hc, hf⟩
  | succ i => exact t i j x (by simpa using h1) (by simpa using h2)
end L2
namespace L2
open PySem PySem.Spec PyProof.Rows
structure Mk0 (K : PySem.W.Frag) (C : Addr) : Prop where
  makes : PySem.W.makesIn K C = true
  init : PySem.W.findIn K (.ref C) "__init__" = some (some (.builtin "object.__init__"))
  kp : PySem.W.keepIn K (.ref C) = true
def tMk0 (C : Addr) : TE := fun _ H Q => ∀ x dx, H x = none → H dx = none → dx ≠ x → Q (.ref x) (upd (upd H dx (.own x)) x (.ins C dx []))
theorem pe_new0 {X : Cx} {C : Addr} {x : Str} {p pos : Pos} (M : Mk0 X.K C) (hm : X.mg x = some (.ref C)) (hg : Gl X x := by rfl) (hdb : (x == ("__debug__" : Str)) = false := by decide) : PE X (.Call (.Name x p) [] [] pos) (tMk0 C) := by
  intro pins s σ H Q I h
  refine wpAny_Call_Name_kw (ld_glob I hg hm (PySem.W.callWith_K0 I.kIn M.kp ?_) hdb)
  have hq := h (s.heap.objs.size + 1) s.heap.objs.size (I.hok.fresh (Nat.le_succ _)) (I.hok.fresh (Nat.le_refl _)) (Nat.ne_of_lt (Nat.lt_succ_self _))
  have I2 := Inv.made (C := C) I
  refine wpAny_call (make_map0 I.kIn M.makes M.init (fun self => PySem.W.Looks.of_pure (PySem.W.oi_bind self)) ?_)
  have Y := PySem.W.makes_of (M := model X.prog X.w) I.kIn M.makes
  have e2 : ((s.heap.push PySem.W.emptyDict).push (PySem.W.instObj C s.heap.objs.size)).get? (s.heap.objs.size + 1) = some (PySem.W.instObj C s.heap.objs.size) := by
    have := Heap.get?_push_size (s.heap.push PySem.W.emptyDict) (o := PySem.W.instObj C s.heap.objs.size) rfl
    rwa [Heap.size_push] at this
  have t1 : PySem.W.Looks (model X.prog X.w) ((s.heap.push PySem.W.emptyDict).push (PySem.W.instObj C s.heap.objs.size)) (typeOf (.ref (s.heap.objs.size + 1))) (.ref C) := (PySem.W.Looks.ld e2).andThen .now
  have t2 : PySem.W.Looks (model X.prog X.w) ((s.heap.push PySem.W.emptyDict).push (PySem.W.instObj C s.heap.objs.size)) (isInstance (.ref (s.heap.objs.size + 1)) (.type "object")) true :=
    t1.andThen (Y.top.keeps fun b o e => Heap.get?_push_of_some _ (Heap.get?_push_of_some _ e))
  refine codeAny_call_builtin PySem.W.oi_plain PySem.W.entry_oi (@PySem.W.check_slot (model X.prog X.w) _ _ _ "object.__init__" "object" "__init__" (.ref (s.heap.objs.size + 1)) [] [] _ PySem.W.oi_kind PySem.W.oi_split t2 (PySem.W.oi_args (.ref (s.heap.objs.size + 1))) ?_)
  rw [PySem.W.oi_run]
  exact wpAny_pure (And.intro rfl ⟨.ref (s.heap.objs.size + 1), _, I2, rfl, hq⟩)
end L2
namespace L2
open PySem PySem.Spec PyProof.Rows
abbrev yes2 : Int → Int → Bool := fun _ _ => true
theorem zipV_W (φ : Int → Int → Int) (xs ys : List Int) : zipV yes2 (fun x y => .int (φ x y)) xs ys = (List.zipWith φ xs ys).map V.int := by
  unfold zipV
  rw [List.filter_eq_self.mpr (fun _ _ => rfl)]
  refine List.ext_getElem? fun i => ?_
  rw [List.getElem?_map, List.getElem?_map, List.getElem?_zipWith]
  by_cases h : i < min xs.length ys.length
  · have h1 : i < xs.length := by omega
    have h2 : i < ys.length := by omega
    rw [List.getElem?_range h, List.getElem?_eq_getElem h1, List.getElem?_eq_getElem h2]
    simp [List.getD, h1, h2]
  · rw [List.getElem?_eq_none (by simpa using h)]
    rcases Nat.lt_or_ge i xs.length with q | q
    · rw [List.getElem?_eq_none (l := ys) (by omega)]
      cases xs[i]? <;> rfl
    · rw [List.getElem?_eq_none (l := xs) q]; rfl
theorem rev_getD (xs : List Int) (f : Int → Int) : (List.range xs.length).map (fun i => f (xs.getD (xs.length - 1 - i) 0)) = xs.reverse.map f := by
  refine List.ext_getElem? fun i => ?_
  rw [List.getElem?_map, List.getElem?_map]
  by_cases h : i < xs.length
  · rw [List.getElem?_range h, List.getElem?_reverse h, List.getElem?_eq_getElem (show xs.length - 1 - i < xs.length by omega)]
    simp [List.getD, show xs.length - 1 - i < xs.length by omega]
  · rw [List.getElem?_eq_none (by simpa using h), List.getElem?_eq_none (by rw [List.length_reverse]; omega)]; rfl
theorem if_no {c : TT} {t u : TS} {D : Ends} {σ : St} {H : Hp} (R : Hp → Prop) (hu : ∀ H', R H' → u D σ H') (hc : ∀ N : Bool → Hp → Prop, (∀ H', R H' → N false H') → c σ H N) : tIfS c t u D σ H := by
  unfold tIfS
  exact hc _ fun H' r => by rw [if_neg (by decide)]; exact hu H' r
theorem if_noS {c : TT} {t r : TS} {D : Ends} {σ : St} {H : Hp} (R : Hp → Prop) (hu : ∀ H', R H' → r D σ H') (hc : ∀ N : Bool → Hp → Prop, (∀ H', R H' → N false H') → c σ H N) : tSeq (tIfS c t tNext) r D σ H := by
  unfold tSeq
  exact if_no R hu hc
end L2
namespace L2
open PySem PySem.Spec PyProof.Rows
end L2
namespace L2
open PySem PySem.Spec PyProof.Rows
def rTupleOf (K : PySem.W.Frag) : List V → Hp → VK → Prop := fun xs H Q => ∃ p ys, xs = [.ref p] ∧ ((SqL K H p ys ∧ ∀ l, H l = none → Q (.ref l) (upd H l (.tup ys))) ∨ (SqT K H p ys ∧ Q (.ref p) H))
def rListOf (K : PySem.W.Frag) : List V → Hp → VK → Prop := fun xs H Q => ∃ p ys, xs = [.ref p] ∧ (SqL K H p ys ∨ SqT K H p ys) ∧ ∀ l, H l = none → Q (.ref l) (upd H l (.lst ys))
def rLenSeq (K : PySem.W.Frag) : List V → Hp → VK → Prop := fun xs H Q => ∃ p ys, xs = [.ref p] ∧ (SqL K H p ys ∨ SqT K H p ys) ∧ Q (.int ys.length) H
def rSumX (K : PySem.W.Frag) (b : Bool) : List V → Hp → VK → Prop := fun xs H Q => ∃ (a : Addr) (ns : List Int), xs = [.ref a] ∧ SqX K b H a (ns.map V.int) ∧ Q (.int ns.sum) H
def rAllB (K : PySem.W.Frag) : List V → Hp → VK → Prop := fun xs H Q => ∃ (a : Addr) (bs : List Bool), xs = [.ref a] ∧ SqL K H a (bs.map V.bl) ∧ Q (.bl (bs.all id)) H
def rAnyB (K : PySem.W.Frag) : List V → Hp → VK → Prop := fun xs H Q => ∃ (a : Addr) (bs : List Bool), xs = [.ref a] ∧ SqL K H a (bs.map V.bl) ∧ Q (.bl (bs.any id)) H
def rIsInst (K : PySem.W.Frag) : List V → Hp → VK → Prop := fun xs H Q => ∃ x y t c b, xs = [x, y] ∧ clV y = some c ∧ TyOf K H x t ∧ PySem.W.kitOne K t c = some b ∧ Q (.bl b) H
section
variable {X : Cx} {K : PySem.W.Frag}
theorem call_tupleK (hK : X.K = K) : CallR X (.type "tuple") (rTupleOf K) := by subst hK; exact call_tuple_of
theorem call_lenK (hK : X.K = K) : CallR X (.builtin "len") (rLenSeq K) := by subst hK; exact call_len_seq
theorem call_sumK (hK : X.K = K) (b : Bool) (hc : X.calm = true) : CallR X (.builtin "sum") (rSumX K b) := by subst hK; exact call_sumX b hc
theorem call_anyK (hK : X.K = K) (hc : X.calm = true) : CallR X (.builtin "any") (rAnyB K) := by subst hK; exact call_anyB hc
theorem call_isinstK (hK : X.K = K) : CallR X (.builtin "isinstance") (rIsInst K) := by subst hK; exact call_isinst
theorem pe_fldK {e : Expr} {f : Str} {pos : Pos} {ta : TE} (hK : X.K = K) (he : PE X e ta) (hb : attributeBase e f X.env (eval e X.env) = eval e X.env) : PE X (.Attribute e f pos) (tFld K ta f) := by subst hK; exact pe_fld he hb
theorem pi_listK {tg l : Expr} {tl : TE} (hK : X.K = K) (hl : PE X l tl) : PI X tg l (iList K tl) := by subst hK; exact pi_list hl
theorem pi_zipK {es : List Expr} {ek : Nat} {tpos p pos : Pos} (hK : X.K = K) (b1 b2 : Bool) {e1 e2 : Expr} {ta : TA} (hg : Gl X "zip") (hm : X.mg "zip" = none) (ha : PA X [e1, e2] ta)
    (he : starEach [e1, e2] X.env = (false, eval e1 X.env) :: starEach [e2] X.env := by rfl) (hpl : (backTo pos (starEach [e2] X.env)).any (·.1) = false := by rfl) :
    PI X (.Tuple es ek tpos) (.Call (.Name "zip" p) [e1, e2] [] pos) (iZip K b1 b2 ta) := by subst hK; exact pi_zip b1 b2 hg hm ha he hpl
theorem pi_revK {tg : Expr} {p pos : Pos} {e1 : Expr} {ta : TA} (hK : X.K = K) (hg : Gl X "reversed") (hm : X.mg "reversed" = none) (ha : PA X [e1] ta)
    (he : starEach [e1] X.env = (false, eval e1 X.env) :: starEach [] X.env := by rfl) (hpl : (backTo pos (starEach [] X.env)).any (·.1) = false := by rfl) :
    PI X tg (.Call (.Name "reversed" p) [e1] [] pos) (iRvd K ta) := by subst hK; exact pi_rev hg hm ha he hpl
end
end L2
set_option Elab.async false
set_option linter.all false
set_option maxRecDepth 100000
namespace L2
open PySem PySem.Spec PyProof.Rows
section
variable {κ : Type} [DecidableEq κ]
def valV (kvs : List (κ × V)) (k : κ) : Option V := (kvs.find? fun kv => decide (kv.1 = k)).map (·.2)
def putK (kvs : List (κ × V)) (k : κ) (v : V) : List (κ × V) :=
  if (kvs.any fun kv => decide (kv.1 = k)) = true then kvs.map (fun kv => if kv.1 = k then (kv.1, v) else kv) else kvs ++ [(k, v)]
def dropK (kvs : List (κ × V)) (k : κ) : List (κ × V) := kvs.filter fun kv => decide (kv.1 ≠ k)
theorem valV_pos {p : κ × V} {r : List (κ × V)} {k : κ} (e : p.1 = k) : valV (p :: r) k = some p.2 := by simp [valV, List.find?_cons, e]
theorem valV_neg {p : κ × V} {r : List (κ × V)} {k : κ} (e : ¬ p.1 = k) : valV (p :: r) k = valV r k := by simp [valV, List.find?_cons, e]
theorem valV_any (k : κ) : ∀ kvs : List (κ × V), (kvs.any fun kv => decide (kv.1 = k)) = (valV kvs k).isSome
  | [] => rfl
  | p :: r => by
    rw [List.any_cons]
    by_cases e : p.1 = k
    · simp only [valV_pos e, decide_eq_true e, Bool.true_or, Option.isSome_some]
    · rw [valV_neg e, decide_eq_false e, Bool.false_or]; exact valV_any k r
theorem length_putK (kvs : List (κ × V)) (k : κ) (v : V) : (putK kvs k v).length ≤ kvs.length + 1 := by
  unfold putK
  split
  · rw [List.length_map]; omega
  · rw [List.length_append, List.length_cons, List.length_nil]; omega
theorem RelO.isSome_eq {o : Option V} {u : Option Value} (r : RelO o u) : o.isSome = u.isSome := by
  cases o with
  | none => cases u with
    | none => rfl
    | some _ => exact (show False from r).elim
  | some _ => cases u with
    | none => exact (show False from r).elim
    | some _ => rfl
theorem KV.any {kvs : List (κ × V)} {vs : List (κ × Value)} (r : KV kvs vs) (k : κ) : (kvs.any fun kv => decide (kv.1 = k)) = vs.any fun kv => decide (kv.1 = k) := by
  unfold KV at r
  induction r with
  | nil => rfl
  | cons h t ih => rw [List.any_cons, List.any_cons, ih, h.1]
theorem KV.repl {kvs : List (κ × V)} {vs : List (κ × Value)} (r : KV kvs vs) (k : κ) {y : V} {u : Value} (ry : RelV y u) :
    KV (kvs.map fun kv => if kv.1 = k then (kv.1, y) else kv) (vs.map fun kv => if kv.1 = k then (kv.1, u) else kv) := by
  unfold KV at r ⊢
  induction r with
  | nil => exact .nil
  | @cons p q ps qs h t ih =>
    rw [List.map_cons, List.map_cons]
    refine .cons ?_ ih
    obtain ⟨h1, h2⟩ := h
    by_cases e : p.1 = k
    · rw [if_pos e, if_pos (h1.symm.trans e)]; exact ⟨h1, ry⟩
    · rw [if_neg e, if_neg (fun z => e (h1.trans z))]; exact ⟨h1, h2⟩
theorem KV.put {kvs : List (κ × V)} {vs : List (κ × Value)} (r : KV kvs vs) (k : κ) {y : V} {u : Value} (ry : RelV y u) : KV (putK kvs k y) (stored vs k u) := by
  unfold putK stored
  rw [r.any k]
  by_cases e : (vs.any fun kv => decide (kv.1 = k)) = true
  · rw [if_pos e, if_pos e]; exact r.repl k ry
  · rw [if_neg e, if_neg e]; exact Paired.snoc r ⟨rfl, ry⟩
theorem KV.length {kvs : List (κ × V)} {vs : List (κ × Value)} (r : KV kvs vs) : kvs.length = vs.length := Paired.length r
end
theorem kV_is {P : Program} {w : World} {k : Key} {u : Value} (r : RelV (kV k) u) : (mixKind P w).is k u = true := by
  cases k with
  | inl i => obtain ⟨t, e⟩ := (show ∃ t, u = Value.int i t from r); subst e; exact mixKind_int P w i t
  | inr x => obtain ⟨t, e⟩ := (show ∃ t, u = Value.str x t from r); subst e; exact mixKind_str P w x t
theorem items_are {P : Program} {w : World} : ∀ {ks : List Key} {us : List Value}, Vals (ks.map kV) us → ItemsAre (mixKind P w) ks us
  | [], _, r => by rw [List.map_nil] at r; cases r; exact .nil
  | k :: ks, _, r => by
    rw [List.map_cons] at r
    cases r with
    | cons h t => exact .cons (kV_is h) (items_are t)
abbrev KT (H : Hp) : List (List Key × V) → List (List Key × Addr × Value) → Prop := Paired fun p q => p.1 = q.1 ∧ H q.2.1 = some (.tup (p.1.map kV)) ∧ RelV p.2 q.2.2
theorem KT.val {H : Hp} {kvs : List (List Key × V)} {xs : List (List Key × Addr × Value)} (r : KT H kvs xs) (k : List Key) : RelO (valV kvs k) ((atKey xs k).map (·.2)) := by
  induction r with
  | nil => exact True.intro
  | @cons p q ps qs h t ih =>
    obtain ⟨h1, _, h2⟩ := h
    by_cases e : p.1 = k
    · have e' : q.1 = k := h1.symm.trans e
      have b : atKey (q :: qs) k = some q.2 := by simp [atKey, List.find?_cons, e']
      rw [valV_pos e, b]; exact h2
    · have e' : ¬ q.1 = k := fun z => e (h1.trans z)
      have b : atKey (q :: qs) k = atKey qs k := by simp [atKey, List.find?_cons, e']
      rw [valV_neg e, b]; exact ih
theorem KT.repl {H : Hp} {kvs : List (List Key × V)} {xs : List (List Key × Addr × Value)} (r : KT H kvs xs) (k : List Key) {y : V} {u : Value} (ry : RelV y u) :
    KT H (kvs.map fun kv => if kv.1 = k then (kv.1, y) else kv) (xs.map (putAt k u)) := by
  induction r with
  | nil => exact .nil
  | @cons p q ps qs h t ih =>
    rw [List.map_cons, List.map_cons]
    refine .cons ?_ ih
    obtain ⟨h1, h2, h3⟩ := h
    unfold putAt
    by_cases e : p.1 = k
    · rw [if_pos e, if_pos (h1.symm.trans e)]; exact ⟨h1, h2, ry⟩
    · rw [if_neg e, if_neg (fun z => e (h1.trans z))]; exact ⟨h1, h2, h3⟩
theorem KT.put {H : Hp} {kvs : List (List Key × V)} {xs : List (List Key × Addr × Value)} (r : KT H kvs xs) (k : List Key) {b : Addr} {y : V} {u : Value} (hb : H b = some (.tup (k.map kV))) (ry : RelV y u) :
    KT H (putK kvs k y) (storedH xs k b u) := by
  have e : (kvs.any fun kv => decide (kv.1 = k)) = (atKey xs k).isSome := by
    rw [valV_any, (r.val k).isSome_eq, Option.isSome_map]
  unfold putK storedH
  rw [e]
  by_cases q : (atKey xs k).isSome = true
  · rw [if_pos q, if_pos q]; exact r.repl k ry
  · rw [if_neg q, if_neg q]; exact Paired.snoc r ⟨rfl, hb, ry⟩
theorem KT.keeps {H H' : Hp} {kvs : List (List Key × V)} {xs : List (List Key × Addr × Value)} (r : KT H kvs xs) (ht : ∀ b ys, H b = some (.tup ys) → H' b = some (.tup ys)) : KT H' kvs xs :=
  Paired.mapP r fun _ _ z => ⟨z.1, ht _ _ z.2.1, z.2.2⟩
section
variable {P : Program} {w : World} {H : Hp} {h : Heap} {a : Addr}
theorem rd_of {u : HO} (ok : HOk P w H h) (e : Rd H a u) : ObjOk P w H h a u := e.ok ok
theorem dk_rd {kvs : List (Key × V)} (ok : HOk P w H h) (e : Rd H a (.dK kvs)) : kvs.length ≤ sizeLine ∧ (a == sysModules) = false ∧ ∃ vs, KV kvs vs ∧ h.DictOf (mixKind P w) a vs :=
  show ObjOk P w H h a (.dK kvs) from rd_of ok e
theorem dk_of {kvs : List (Key × V)} (ok : HOk P w H h) (e : H a = some (.dK kvs)) : kvs.length ≤ sizeLine ∧ (a == sysModules) = false ∧ ∃ vs, KV kvs vs ∧ h.DictOf (mixKind P w) a vs := dk_rd ok (.inl e)
theorem key_of {ks : List Key} (ok : HOk P w H h) (e : H a = some (.tup (ks.map kV))) : (tupleKind (mixKind P w)).is h ks a := by
  obtain ⟨_, its, r, o, h1, h2, n, h3⟩ := (show ObjOk P w H h a (.tup (ks.map kV)) from ok a _ e)
  exact ⟨o, its.toArray, n, h1, h2, h3, by simpa using items_are r⟩
theorem dt_rd {kvs : List (List Key × V)} (ok : HOk P w H h) (e : Rd H a (.dT kvs)) : kvs.length ≤ sizeLine ∧ (a == sysModules) = false ∧
    ∃ xs, KT H kvs xs ∧ h.DictOfH (tupleKind (mixKind P w)) a xs := by
  obtain ⟨z, y, xs, r, o, es, ep, h1, h2, h3, h4, h5⟩ := (show ObjOk P w H h a (.dT kvs) from rd_of ok e)
  refine ⟨z, y, xs, r, o, es, ep, h1, h2, h3, h4, fun x hx => ?_, h5⟩
  have all : ∀ {l : List (List Key × V)} {m : List (List Key × Addr × Value)}, KT H l m → ∀ x ∈ m, (tupleKind (mixKind P w)).is h x.1 x.2.1 := by
    intro l m q
    induction q with
    | nil => intro x hx; exact nomatch hx
    | @cons p q ps qs hq t ih =>
      intro x hx
      rcases List.mem_cons.mp hx with e | hx
      · subst e
        exact key_of ok (by rw [← hq.1]; exact hq.2.1)
      · exact ih x hx
  exact all r x hx
theorem dt_of {kvs : List (List Key × V)} (ok : HOk P w H h) (e : H a = some (.dT kvs)) : kvs.length ≤ sizeLine ∧ (a == sysModules) = false ∧
    ∃ xs, KT H kvs xs ∧ h.DictOfH (tupleKind (mixKind P w)) a xs := dt_rd ok (.inl e)
end
def DGet (H : Hp) (a : Addr) (y : V) (r : Option V) : Prop :=
  (∃ kvs k, Rd H a (.dK kvs) ∧ y = kV k ∧ r = valV kvs k) ∨ ∃ kvs k b, Rd H a (.dT kvs) ∧ y = .ref b ∧ H b = some (.tup (k.map kV)) ∧ r = valV kvs k
def DPut (H : Hp) (a : Addr) (y v : V) (H' : Hp) : Prop :=
  (∃ kvs k, H a = some (.dK kvs) ∧ y = kV k ∧ kvs.length < sizeLine ∧ H' = upd H a (.dK (putK kvs k v))) ∨
  ∃ kvs k b, H a = some (.dT kvs) ∧ y = .ref b ∧ H b = some (.tup (k.map kV)) ∧ kvs.length < sizeLine ∧ H' = upd H a (.dT (putK kvs k v))
theorem DPut.t {H : Hp} {a b : Addr} {kvs : List (List Key × V)} {k : List Key} {v : V} (e : H a = some (.dT kvs)) (eb : H b = some (.tup (k.map kV))) (hl : kvs.length < sizeLine) :
    DPut H a (.ref b) v (upd H a (.dT (putK kvs k v))) := .inr ⟨kvs, k, b, e, rfl, eb, hl, rfl⟩
section
variable {X : Cx} {pins : List (Addr × Obj)} {σ : St} {H : Hp} {s : Shared} {a : Addr} {y v : V} {u r : Value} {o : Option V} {A : Around} {E : Value → Shared → Prop}
theorem Inv.big (I : Inv X pins σ H s) : sysModules < s.heap.objs.size := by
  have h : mainGlobals < s.heap.objs.size := (I.mod.glob.keeps I.bk).lt
  exact Nat.lt_trans (by decide) h
theorem d_write {h' : Heap} {t' : Nat} {ob : HO} (I : Inv X pins σ H s) (mu : Mut (H a)) (hs : Heap.SameBut a s.heap h') (he : ∃ q, h'.get? a = some q) (new : ObjOk X.prog X.w (upd H a ob) h' a ob) :
    Inv X pins σ (upd H a ob) { s with heap := h', toks := t' } :=
  I.write (x := a) (e := a) mu (.inl rfl) (fun b q hb z => (hs.2 b hb).trans z) he new
theorem dk_new {P : Program} {w : World} {H' : Hp} {h' : Heap} {kvs : List (Key × V)} {vs : List (Key × Value)} (z : kvs.length ≤ sizeLine) (hd : (a == sysModules) = false) (rel : KV kvs vs) (dd : h'.DictOf (mixKind P w) a vs) :
    ObjOk P w H' h' a (.dK kvs) := ⟨z, hd, vs, rel, dd⟩
theorem d_setItem {H' : Hp} {Q : Unit → Shared → Prop} (hu : A.units + 1 < cLine) (I : Inv X pins σ H s) (g : DPut H a y v H') (ry : RelV y u) (rv : RelV v r) (h : ∀ s', Inv X pins σ H' s' → Q () s') :
    wpAny (model X.prog X.w) A (setItem (.ref a) u r) Q E s := by
  rcases g with ⟨kvs, k, e, ey, l, eH⟩ | ⟨kvs, k, b, e, ey, eb, l, eH⟩
  · subst ey eH
    obtain ⟨z, hd, vs, rel, dd⟩ := dk_of I.hok e
    have hz : vs.length ≤ sizeLine := by rw [← rel.length]; exact z
    have hl : (putK kvs k v).length ≤ sizeLine := by have := length_putK kvs k v; omega
    refine wpAny_setItem_pairs (hsz := hz) (kV_is ry) dd fun h' dd' hs => h _ ?_
    have he : ∃ q, h'.get? a = some q := let ⟨q, _, _, hq, _⟩ := dd'; ⟨q, hq⟩
    exact d_write I (by rw [e]; exact True.intro) hs he (dk_new hl hd (rel.put k rv) dd')
  · subst ey eH
    cases (show u = Value.ref b from ry)
    obtain ⟨z, hd, xs, rel, dd⟩ := dt_of I.hok e
    have hz : xs.length ≤ sizeLine := by rw [← Paired.length rel]; exact z
    have hl : (putK kvs k v).length ≤ sizeLine := by have := length_putK kvs k v; omega
    refine wpAny_setItem_heap (hsz := hz) (tupleKind_room_in1 hu) (key_of I.hok eb) dd fun h' dd' hs => h _ ?_
    obtain ⟨q, es, ep, hq, h2, h3, h4, _, h5⟩ := dd'
    refine d_write I (by rw [e]; exact True.intro) hs ⟨q, hq⟩ ⟨hl, hd, _, (rel.put k eb rv).keeps fun c ys ec => ?_, q, es, ep, hq, h2, h3, h4, h5⟩
    rw [upd_ne (ne_of ec e (fun z => nomatch z))]
    exact ec
end
section
variable {X : Cx} {pins : List (Addr × Obj)} {σ : St} {H : Hp} {s : Shared} {a : Addr} {kvs : List (Key × V)} {k : Key} {u : Value} {A : Around} {E : Value → Shared → Prop}
end
def NoSl (i : Expr) : Prop := ∀ ov iv, subscripted i false ov iv = operate [ov, iv] (getItem ov iv)
def tDGet (td ty : TE) : TE := fun σ H Q => td σ H fun x H1 => ty σ H1 fun y H2 => ∃ a v, x = .ref a ∧ DGet H2 a y (some v) ∧ Q v H2
def tDIn (ty td : TE) : TE := fun σ H Q => ty σ H fun y H1 => td σ H1 fun x H2 => ∃ a o, x = .ref a ∧ DGet H2 a y o ∧ Q (.bl o.isSome) H2
def tDNotIn (ty td : TE) : TE := fun σ H Q => ty σ H fun y H1 => td σ H1 fun x H2 => ∃ a o, x = .ref a ∧ DGet H2 a y o ∧ Q (.bl (!o.isSome)) H2
def sDPut (td ty tv : TE) : TS := fun D σ H => tv σ H fun v H1 => td σ H1 fun x H2 => ty σ H2 fun y H3 => ∃ a H4, x = .ref a ∧ DPut H3 a y v H4 ∧ D.nx σ H4
def sDAug (td ty tv : TE) (rd : V → V → Hp → VK → Prop) : TS := fun D σ H => td σ H fun x H1 => ty σ H1 fun y H2 => ∃ a v, x = .ref a ∧ DGet H2 a y (some v) ∧
  tv σ H2 fun y2 H3 => rd v y2 H3 fun z H4 => ∃ H5, DPut H4 a y z H5 ∧ D.nx σ H5
def sDDel (td ty : TE) : TS := fun D σ H => td σ H fun x H1 => ty σ H1 fun y H2 => ∃ a kvs k, x = .ref a ∧ H2 a = some (.dK kvs) ∧ y = kV k ∧ (valV kvs k).isSome = true ∧ D.nx σ (upd H2 a (.dK (dropK kvs k)))
section
variable {X : Cx} {o i e value : Expr} {pos pos' tpos : Pos} {td ty tv : TE}
theorem ps_dput (hu : X.A.units + 1 < cLine) (ho : PE X o td) (hi : PE X i ty) (hv : PE X value tv) (hs : swapsWith value (some (.Subscript o i pos')) pos.line X.env = pure false) :
    PS X (.Assign [.Subscript o i pos'] value pos) (sDPut td ty tv) := by
  intro pins s σ H D I h
  refine wpAny_Assign_Subscript (thn (hv pins s σ H _ I h) fun r s1 ⟨v, H1, I1, rv, q1⟩ => thn (ho pins s1 σ H1 _ I1 q1) fun u s2 ⟨x, H2, I2, rx, q2⟩ => thn (hi pins s2 σ H2 _ I2 q2) fun iv s3 ⟨y, H3, I3, ry, a, H4, ex, g, q3⟩ => ?_) hs
  subst ex
  obtain rfl : u = Value.ref a := rx
  exact d_setItem hu I3 g ry rv fun s4 I4 => ⟨σ, H4, I4, q3⟩
end
theorem dt_empty {P : Program} {w : World} {H : Hp} (h : Heap) (hb : sysModules < h.objs.size) : ObjOk P w H (h.push { cls := .type "dict", data := .dict #[] }) h.objs.size (.dT []) :=
  ⟨Nat.zero_le _, beq_eq_false_iff_ne.mpr (Ne.symm (Nat.ne_of_lt hb)), [], .nil, _, #[], 0, Heap.get?_push_size _ rfl, ⟨rfl, rfl, rfl⟩, rfl, rfl, List.nodup_nil⟩
def tDNewK : TE := fun _ H Q => ∀ p, H p = none → Q (.ref p) (upd H p (.dK []))
def tDNewT : TE := fun _ H Q => ∀ p, H p = none → Q (.ref p) (upd H p (.dT []))
section
variable {X : Cx} {pos : Pos}
theorem pe_dnewT : PE X (.Dict [] [] pos) tDNewT := fun pins s σ H Q I h =>
  wpAny_Dict_empty ⟨.ref s.heap.objs.size, _, I.laid (a := s.heap.objs.size) (o := .dT []) (t' := s.toks) (fun _ _ q => Heap.get?_push_of_some _ q) (Nat.le_refl _) (dt_empty s.heap I.big), rfl, h _ (I.hok.fresh (Nat.le_refl _))⟩
end
def tPairs : List (TE × TE) → St → Hp → (List (V × V) → Hp → Prop) → Prop
  | [], _, H, Q => Q [] H
  | (tk, tv) :: r, σ, H, Q => tk σ H fun x H1 => tv σ H1 fun y H2 => tPairs r σ H2 fun ps H3 => Q ((x, y) :: ps) H3
abbrev VV : List (V × V) → List (Value × Value) → Prop := Paired fun p q => RelV p.1 q.1 ∧ RelV p.2 q.2
def PPs (X : Cx) (pos : Pos) (keys : List (Option Expr)) (values : List Expr) (trs : List (TE × TE)) : Prop :=
  ∀ (pins : List (Addr × Obj)) (s : Shared) (σ : St) (H : Hp) (Q : List (V × V) → Hp → Prop), Inv X pins σ H s → tPairs trs σ H Q →
    wpAny (model X.prog X.w) X.A (evalPairs (pairTrees keys values X.env pos)) (fun vs s' => ∃ ps H', Inv X pins σ H' s' ∧ VV ps vs ∧ Q ps H') X.xe s
theorem pps_nil {X : Cx} {pos : Pos} : PPs X pos [] [] [] := fun pins s σ H Q I h => pairTrees_nil_walk ⟨[], H, I, .nil, h⟩
theorem pps_cons {X : Cx} {pos : Pos} {k v : Expr} {ks : List (Option Expr)} {vs : List Expr} {tk tv : TE} {trs : List (TE × TE)} (hk : PE X k tk) (hv : PE X v tv) (hr : PPs X pos ks vs trs) :
    PPs X pos (some k :: ks) (v :: vs) ((tk, tv) :: trs) := fun pins s σ H Q I h =>
  pairTrees_cons_walk (thn (hk pins s σ H _ I h) fun u s1 ⟨x, H1, I1, rx, q1⟩ => thn (hv pins s1 σ H1 _ I1 q1) fun w2 s2 ⟨y, H2, I2, ry, q2⟩ =>
    thn (hr pins s2 σ H2 _ I2 q2) fun ws s3 ⟨ps, H3, I3, rel, q3⟩ => ⟨(x, y) :: ps, H3, I3, .cons ⟨rx, ry⟩ rel, q3⟩)
def mergeK (kvs more : List (Key × V)) : List (Key × V) := more.foldl (fun acc kv => putK acc kv.1 kv.2) kvs
def tDisp (trs : List (TE × TE)) : TE := fun σ H Q => ∀ p, H p = none → tPairs trs σ (upd H p (.dK [])) fun ps H2 => H2 p = some (.dK []) ∧ ∃ kvs : List (Key × V), ps = kvs.map (fun kv => (kV kv.1, kv.2)) ∧ kvs.length ≤ 15 ∧ Q (.ref p) (upd H2 p (.dK (mergeK [] kvs)))
structure M1 (X : Cx) (o : Expr) (m : Str) (apos : Pos) (e : Expr) (cpos : Pos) : Prop where
  base : attributeBase o m X.env (eval o X.env) = eval o X.env
  few : ((backTo cpos (starEach [e] X.env)).all (fun x => !x.1) && (backToKw cpos (keywordEach [] X.env)).all (fun x => x.1.isSome)
    && decide (([e] : List Expr).length + ([] : List Keyword).length + (if ([] : List Keyword).isEmpty then 0 else 1) < 30)) = true
  line : (apos.endLine == cpos.line) = true
  trees : backTo cpos (starEach [e] X.env) = [(false, eval e X.env)]
structure M2 (X : Cx) (o : Expr) (m : Str) (apos : Pos) (e f : Expr) (cpos : Pos) : Prop where
  base : attributeBase o m X.env (eval o X.env) = eval o X.env
  few : ((backTo cpos (starEach [e, f] X.env)).all (fun x => !x.1) && (backToKw cpos (keywordEach [] X.env)).all (fun x => x.1.isSome)
    && decide (([e, f] : List Expr).length + ([] : List Keyword).length + (if ([] : List Keyword).isEmpty then 0 else 1) < 30)) = true
  line : (apos.endLine == cpos.line) = true
  trees : backTo cpos (starEach [e, f] X.env) = [(false, eval e X.env), (false, eval f X.env)]
def IsD (H : Hp) (a : Addr) : Prop := (∃ kvs, Rd H a (.dK kvs)) ∨ ∃ kvs, Rd H a (.dT kvs)
section
variable {X : Cx} {pins : List (Addr × Obj)} {σ : St} {H : Hp} {s : Shared} {a : Addr} {y d : V} {u r : Value} {o : Option V} {A : Around} {E : Value → Shared → Prop}
end
def tDGet1 (td ty : TE) : TE := fun σ H Q => td σ H fun x H1 => ∃ a, x = .ref a ∧ IsD H1 a ∧ ty σ H1 fun y H2 => ∃ o, DGet H2 a y o ∧ Q (o.getD .non) H2
def tDGet2 (td ty tx : TE) : TE := fun σ H Q => td σ H fun x H1 => ∃ a, x = .ref a ∧ IsD H1 a ∧ ty σ H1 fun y H2 => tx σ H2 fun z H3 => ∃ o, DGet H3 a y o ∧ Q (o.getD z) H3
def tDPop1 (td ty : TE) : TE := fun σ H Q => td σ H fun x H1 => ∃ a, x = .ref a ∧ IsD H1 a ∧ ty σ H1 fun y H2 => ∃ kvs k v, H2 a = some (.dK kvs) ∧ y = kV k ∧ valV kvs k = some v ∧ Q v (upd H2 a (.dK (dropK kvs k)))
def tDPop2 (td ty tx : TE) : TE := fun σ H Q => td σ H fun x H1 => ∃ a, x = .ref a ∧ IsD H1 a ∧ ty σ H1 fun y H2 => tx σ H2 fun z H3 => ∃ kvs k, H3 a = some (.dK kvs) ∧ y = kV k ∧
  (∀ v, valV kvs k = some v → Q v (upd H3 a (.dK (dropK kvs k)))) ∧ (valV kvs k = none → Q z H3)
section
variable {X : Cx} {o e f : Expr} {apos cpos : Pos} {td ty tx : TE}
end
section
variable {X : Cx} {pins : List (Addr × Obj)} {σ : St} {H : Hp} {s : Shared} {a : Addr} {kvs : List (Key × V)} {A : Around} {E : Value → Shared → Prop}
end
section
variable {X : Cx} {pins : List (Addr × Obj)} {σ : St} {H : Hp} {s : Shared} {a : Addr} {y : V} {u : Value} {A : Around} {E : Value → Shared → Prop}
end
end L2
namespace L2
open PySem PySem.Spec PyProof.Rows
section
variable {X : Cx} {pins : List (Addr × Obj)} {σ : St} {H : Hp} {s : Shared} {d : Addr} {o : Obj} {u v : HO}
theorem Inv.swap (I : Inv X pins σ H s) (e : H d = some u) (nt : ∀ xs, u ≠ .tup xs) (no : ∀ x, u ≠ .own x) (nb : ∀ ps, u ≠ .tbl ps) (nf : ∀ o w, u = .frz o w → ∀ o w, X.H₀ d ≠ some (.frz o w))
    (new : ObjOk X.prog X.w H s.heap d u → ∀ H' : Hp, (∀ b xs, H b = some (.tup xs) → H' b = some (.tup xs)) → (∀ b x, H b = some (.own x) → H' b = some (.own x)) → ObjOk X.prog X.w H' s.heap d v) : Inv X pins σ (upd H d v) s := by
  have nd : ∀ {b : Addr}, H b = none → b ≠ d := fun z => (ne_of_none e z).symm
  have tt : ∀ b xs, H b = some (.tup xs) → upd H d v b = some (.tup xs) := fun b xs q => by rw [upd_ne (ne_of q e (fun z => nt xs z.symm))]; exact q
  have oo : ∀ b x, H b = some (.own x) → upd H d v b = some (.own x) := fun b x q => by rw [upd_ne (ne_of q e (fun z => no x z.symm))]; exact q
  refine ⟨I.ok, I.os, I.bare, ⟨I.base.keep, I.base.slot, fun b q h1 h2 h3 => ?_, I.base.there, fun b xs q => tt b xs (I.base.tups b xs q), fun b o' w q => ?_, fun b ps q => ?_⟩, I.loc, I.cell, ?_, fun x c q => ?_, fun p hp => ?_, fun b w q => ?_, I.len⟩
  · have z := I.base.free b q h1 h2 h3
    rw [upd_ne (nd z)]; exact z
  · have z := I.base.frzs b o' w q
    by_cases hb : b = d
    · subst hb; rw [e] at z; injection z with z
      exact absurd q (nf o' w z o' w)
    · rw [upd_ne hb]; exact z
  · obtain ⟨more, z⟩ := I.base.tbls b ps q
    by_cases hb : b = d
    · subst hb; rw [e] at z; injection z with z
      exact absurd z (nb _)
    · exact ⟨more, by rw [upd_ne hb]; exact z⟩
  · rw [upd_ne (nd I.free)]; exact I.free
  · rw [upd_ne (nd (I.freeC x c q))]; exact I.freeC x c q
  · obtain ⟨z1, z2, z3⟩ := I.pin p hp
    exact ⟨z1, by rw [upd_ne (nd z2)]; exact z2, z3⟩
  · by_cases hb : b = d
    · subst hb
      rw [upd_same] at q; injection q with q; subst q
      exact new (I.hok b _ e) _ tt oo
    · rw [upd_ne hb] at q
      exact (I.hok b w q).stay (fun _ _ _ z => z) (fun c z => oo c b z) tt
theorem Inv.freeze {kvs : List (List Key × V)} (I : Inv X pins σ H s) (e : H d = some (.dT kvs)) (ho : s.heap.get? d = some o) : Inv X pins σ (upd H d (.frz o (.dT kvs))) s :=
  I.swap e (by intro _ z; cases z) (by intro _ z; cases z) (by intro _ z; cases z) (by intro _ _ z; cases z) fun x H' t w => ⟨ho, x.stay (fun _ _ _ z => z) (fun b z => w b d z) t⟩
theorem Inv.thaw (I : Inv X pins σ H s) (e : H d = some (.frz o u)) (n : ∀ o w, X.H₀ d ≠ some (.frz o w)) : Inv X pins σ (upd H d u) s :=
  I.swap e (by intro _ z; cases z) (by intro _ z; cases z) (by intro _ z; cases z) (fun _ _ _ => n) fun x H' t w => x.2.stay (fun _ _ _ z => z) (fun b z => w b d z) t
end
def Thw (H0 : Hp) (H : Hp) (K : Hp → Prop) : Prop := K H ∨ ∃ d o u, H d = some (.frz o u) ∧ (∀ o w, H0 d ≠ some (.frz o w)) ∧ K (upd H d u)
section
variable {X : Cx}
theorem Thw.inv {pins : List (Addr × Obj)} {σ : St} {H : Hp} {s : Shared} {K : Hp → Prop} (h : Thw X.H₀ H K) (I : Inv X pins σ H s) : ∃ H', Inv X pins σ H' s ∧ K H' := by
  rcases h with h | ⟨d, o, u, e, n, h⟩
  · exact ⟨H, I, h⟩
  · exact ⟨_, I.thaw e n, h⟩
def tThw (H0 : Hp) (t : TE) : TE := fun σ H Q => t σ H fun v H' => Thw H0 H' (Q v)
end
end L2
namespace L2
open PySem PySem.Spec PyProof.Rows
section
variable {prog : Program} {w : World} {A : Around} {E : Value → Shared → Prop} {s : Shared} {it d : Addr} {i n ep : Nat} {es : Array DictEntry} {o : Obj}
theorem key_next {e : DictEntry} {Q : Option Value → Shared → Prop} (hit : s.heap.IsKeyIter it d i n ep) (hod : s.heap.get? d = some o) (hdd : o.data = .dict es ep) (hn : es.size = n) (hx : es[i]? = some e)
    (hQ : ∀ h', h'.IsKeyIter it d (i + 1) n ep → Heap.SameBut it s.heap h' → Q (some e.key) { s with heap := h' }) : wpAny (model prog w) A (pyNext (.ref it)) Q E s := by
  obtain ⟨oi, hoi, hci, hdi⟩ := id hit
  have T := hit.typeIs
  have own : Builtin.Dict_items.ownsTuple "dict_keyiterator" = false := by decide
  have nn : ¬ ((Value.ref d == Value.none) = true) := fun z => Bool.false_ne_true z
  unfold pyNext; refine wpAny_bind (wpAny_attempt (wpAny_callSpecial?_slot (name := Str.ofString "__next__") T F.slot_dict_keyiterator_next (wpAny_call_entry F.slot_dict_keyiterator_next T F.entry_dict_keyiterator_next ?_ (F.args_dict_keyiterator_next_1 _))))
  refine wpAny_bind (wpAny_pure (wpAny_bind (wpAny_bind ?_))); refine wpAny_bind (wpAny_typeNameOfWhole_keyiter T (wpAny_pure (wpAny_bind (wpAny_fieldsOf hoi hdi ?_))))
  simp only [own, Bool.false_eq_true, if_false]; show wpAny _ _ (if (Value.ref d == Value.none) = true then _ else _) _ _ s; rw [if_neg nn]
  refine wpAny_bind (wpAny_pure (wpAny_bind (wpAny_dictEntries hod hdd ?_))); rw [if_neg (by rw [hn]; simp)]
  refine wpAny_bind (wpAny_pure (wpAny_bind (wpAny_dictEpoch hod hdd ?_))); rw [if_neg (by simp)]
  have lt : ¬ ((i : Int) < 0) := by omega
  refine wpAny_pure ?_; simp only [lt, if_false, Int.toNat_natCast, hx]
  refine wpAny_bind (wpAny_bind (wpAny_typeNameOfWhole_keyiter T (wpAny_pure (wpAny_bind (wpAny_isOneOf_keyiter T ?_)))))
  show wpAny _ _ (setField (.ref it) 1 (rawInt ((i : Int) + 1)) >>= _) _ _ s; refine wpAny_bind (wpAny_setField hoi hdi (by simp) ?_)
  have hit' : (s.heap.update it (Obj.mapFields (·.setIfInBounds 1 (rawInt ((i : Int) + 1))))).IsKeyIter it d (i + 1) n ep := ⟨_, Heap.get?_update_self _ hoi (Obj.isFreed_of_fields (Obj.data_mapFields hdi _)), (Obj.cls_mapFields ..).trans hci, by rw [Obj.data_mapFields hdi]; simp [rawInt]⟩
  have T' : Shared.TypeIs { s with heap := s.heap.update it (Obj.mapFields (·.setIfInBounds 1 (rawInt ((i : Int) + 1)))) } (.ref it) "dict_keyiterator" := hit'.typeIs
  refine wpAny_bind (wpAny_holding (wpAny_bind (wpAny_isOneOf_keyiter T' ?_))); show wpAny _ _ (pure e.key) _ _ _
  exact wpAny_pure (wpAny_pure ⟨_, rfl, wpAny_pure (hQ _ hit' (Heap.SameBut.update ..))⟩)
theorem stop_end {A' : Around} {Q : Option Value → Shared → Prop} {E' : Value → Shared → Prop} (hh : A'.handled = none) (hQ : ∀ h', (∀ b o, s.heap.get? b = some o → h'.get? b = some o) → Q none { s with heap := h' }) {P : Fin → Shared → Prop} :
    wpAny (model prog w) A' (newExc (.type "StopIteration") [] >>= fun e => raiseNew e) P (fun e s' => wpAny (model prog w) A (do if (← isInstance e (.type "StopIteration")) = true then pure none else throw e) Q E' s') s := by
  refine wpAny_bind ?_
  simp only [newExc, newTuple]; refine wpAny_bind (wpAny_newObj_type (wpAny_bind (m := firstArgMember _ _) (wpAny_of_eq (a := Value.none) (by first | rfl | (simp only [firstArgMember]; rfl)) (wpAny_newObj_type ?_ (by size_fits)))) (by size_fits))
  simp only [raiseNew]; refine wpAny_bind (wpAny_handled ?_); rw [hh]
  refine wpAny_bind (wpAny_pure (wpAny_throw ?_))
  have sub := isSubtype_stop; refine wpAny_bind (wpAny_isInstance (T := "StopIteration") (b := true) ⟨_, Heap.get?_push_size _ rfl, rfl⟩ sub ?_)
  exact wpAny_pure (hQ _ fun b o e => Heap.get?_push_of_some _ (Heap.get?_push_of_some _ e))
theorem key_end {Q : Option Value → Shared → Prop} (hh : A.handled = none) (hit : s.heap.IsKeyIter it d i n ep) (hod : s.heap.get? d = some o) (hdd : o.data = .dict es ep) (hn : es.size = n) (hx : n ≤ i)
    (hQ : ∀ h', Heap.ExtBut it s.heap h' → Q none { s with heap := h' }) : wpAny (model prog w) A (pyNext (.ref it)) Q E s := by
  obtain ⟨oi, hoi, hci, hdi⟩ := id hit
  have T := hit.typeIs
  have own : Builtin.Dict_items.ownsTuple "dict_keyiterator" = false := by decide
  have nn : ¬ ((Value.ref d == Value.none) = true) := fun z => Bool.false_ne_true z
  unfold pyNext; refine wpAny_bind (wpAny_attempt (wpAny_callSpecial?_slot (name := Str.ofString "__next__") T F.slot_dict_keyiterator_next (wpAny_call_entry F.slot_dict_keyiterator_next T F.entry_dict_keyiterator_next ?_ (F.args_dict_keyiterator_next_1 _))))
  refine wpAny_bind (wpAny_pure (wpAny_bind (wpAny_bind ?_))); refine wpAny_bind (wpAny_typeNameOfWhole_keyiter T (wpAny_pure (wpAny_bind (wpAny_fieldsOf hoi hdi ?_))))
  simp only [own, Bool.false_eq_true, if_false]; show wpAny _ _ (if (Value.ref d == Value.none) = true then _ else _) _ _ s; rw [if_neg nn]
  refine wpAny_bind (wpAny_pure (wpAny_bind (wpAny_dictEntries hod hdd ?_))); rw [if_neg (by rw [hn]; simp)]
  refine wpAny_bind (wpAny_pure (wpAny_bind (wpAny_dictEpoch hod hdd ?_))); rw [if_neg (by simp)]
  have lt : ¬ ((i : Int) < 0) := by omega
  have hx' : es[i]? = none := Array.getElem?_eq_none (by omega)
  refine wpAny_pure ?_; simp only [lt, if_false, Int.toNat_natCast, hx']
  refine wpAny_bind (wpAny_bind (wpAny_typeNameOfWhole_keyiter T (wpAny_pure ?_)))
  show wpAny _ _ (setField (.ref it) 0 .none >>= _) _ _ s; refine wpAny_bind (wpAny_setField hoi hdi (by simp) ?_)
  refine stop_end (A := A) (A' := A.in1) (E' := E) hh fun h' k => ?_
  exact hQ h' fun b o hb e => k b o ((Heap.SameBut.update ..).extBut b o hb e)
end
end L2
namespace L2
open PySem PySem.Spec PyProof.Rows
theorem Paired.at' {α β : Type} {F : α → β → Prop} : ∀ {l : List α} {m : List β}, Paired F l m → ∀ {i : Nat} {a : α}, l[i]? = some a → ∃ b, m[i]? = some b ∧ F a b
  | _, _, .nil, i, a, h => by simp at h
  | _, _, .cons r _, 0, a, h => by simp at h; subst h; exact ⟨_, rfl, r⟩
  | _, _, .cons _ t, i + 1, a, h => by
    rw [List.getElem?_cons_succ] at h
    obtain ⟨b, h1, h2⟩ := Paired.at' t h
    exact ⟨b, by rw [List.getElem?_cons_succ]; exact h1, h2⟩
def FzD (H : Hp) (d : Addr) (o : Obj) (kvs : List (List Key × V)) : Prop := H d = some (.frz o (.dT kvs))
def ItK (d : Addr) (o : Obj) (kvs : List (List Key × V)) : It :=
  ⟨fun i H => FzD H d o kvs ∧ i < kvs.length, fun i H x H' => H' = H ∧ ∃ b k v, kvs[i]? = some (k, v) ∧ H b = some (.tup (k.map kV)) ∧ x = .ref b, fun i H => FzD H d o kvs ∧ kvs.length ≤ i⟩
def ItI (d : Addr) (o : Obj) (kvs : List (List Key × V)) : It :=
  ⟨fun i H => FzD H d o kvs ∧ i < kvs.length, fun i H x H' => ∃ p b k v, H p = none ∧ kvs[i]? = some (k, v) ∧ H b = some (.tup (k.map kV)) ∧ x = .ref p ∧ H' = upd H p (.tup [.ref b, v]), fun i H => FzD H d o kvs ∧ kvs.length ≤ i⟩
section
variable {X : Cx} {pins : List (Addr × Obj)} {σ : St} {H : Hp} {s : Shared} {d : Addr} {o : Obj} {kvs : List (List Key × V)} {es : Array DictEntry} {ep : Nat}
theorem Inv.entries (I : Inv X pins σ H s) (e : FzD H d o kvs) (hdd : o.data = .dict es ep) :
    s.heap.get? d = some o ∧ es.size = kvs.length ∧ ∀ (i : Nat) (k : List Key) (v : V), kvs[i]? = some (k, v) → ∃ (b : Addr) (e : DictEntry), es[i]? = some e ∧ e.key = .ref b ∧ H b = some (.tup (k.map kV)) ∧ RelV v e.val := by
  obtain ⟨hg, z, y, xs, r, o', es', ep', h1, h2, h3, h4, h5⟩ := I.hok d _ e
  have eo : o' = o := Option.some.inj (h1.symm.trans hg)
  subst eo
  rw [hdd] at h3
  injection h3 with h3 _
  subst h3
  refine ⟨hg, (size_of_entries h4).trans (Paired.length r).symm, fun i k v hx => ?_⟩
  obtain ⟨⟨k', b, u⟩, q1, q2, q3, q4⟩ := Paired.at' r hx
  refine ⟨b, entryOfKey (tupleKind (mixKind X.prog X.w)) (k', b, u), by rw [entry_at h4 i, q1]; rfl, rfl, q3, q4⟩
end
theorem turn_dkey {P : Program} {w : World} {K : PySem.W.Frag} {tg : Expr} {d it : Addr} {o : Obj} {kvs : List (List Key × V)} {es : Array DictEntry} {ep : Nat} (hdd : o.data = .dict es ep) :
    Turn P w K tg (ItK d o kvs) [it] it (fun i h => h.IsKeyIter it d i kvs.length ep) where
  mem := by simp
  obj := fun i h st b hb => by
    have e : b = it := by simpa using hb
    subst e
    obtain ⟨q, e, c, z⟩ := st
    exact ⟨q, e, fun v y => by rw [z] at y; cases y⟩
  keep := fun i h h' st k => st.at fun q e => k it (by simp) q e
  item := by
    intro X hP hw hK hc i pins s σ H E I hf st hg
    subst hP hw hK
    obtain ⟨fz, lt⟩ := hg
    obtain ⟨hd, hz, he⟩ := I.entries fz hdd
    obtain ⟨⟨k, v⟩, hx⟩ : ∃ p, kvs[i]? = some p := ⟨kvs[i], by simp [lt]⟩
    obtain ⟨b, e, ee, ek, eb, _⟩ := he i k v hx
    obtain ⟨f0, f1, f2, f3, f4, f5⟩ := hf it (by simp)
    refine key_next st hd hdd hz ee fun h' st' sb => ?_
    have I1 : Inv X pins σ H { s with heap := h' } := I.turned (t' := s.toks) (fun c q hb z => (sb.2 c hb).trans z) f0 f1 f3 f4 f5
    obtain ⟨q, e', c, z⟩ := id st'
    exact ⟨e.key, rfl, go_of (s := { s with heap := h' }) e' c z (by decide) ⟨.ref b, H, I1, by rw [ek]; rfl, ⟨rfl, b, k, v, hx, eb, rfl⟩, st', fun c hc' => (hf c hc').1⟩⟩
  done := by
    intro X hP hw hK hc i pins s σ H E I hf st hg
    subst hP hw hK
    obtain ⟨fz, ge⟩ := hg
    obtain ⟨hd, hz, he⟩ := I.entries fz hdd
    obtain ⟨f0, f1, f2, f3, f4, f5⟩ := hf it (by simp)
    exact key_end (I.ok.hd hc) st hd hdd hz ge fun h' eb => ⟨rfl, I.turned (t' := s.toks) (fun b q hb e => eb b q hb e) f0 f1 f3 f4 f5⟩
  self := fun _ _ _ _ _ st h => wpAny_pyIter_keyiter st h
end L2
namespace L2
open PySem PySem.Spec PyProof.Rows
section
variable {prog : Program} {w : World} {A : Around} {E : Value → Shared → Prop} {s : Shared} {d : Addr} {ep : Nat} {es : Array DictEntry} {o : Obj}
theorem dict_iter {Q : Value → Shared → Prop} (hs : (d == sysModules) = false) (T : s.TypeIs (.ref d) "dict") (ho : s.heap.get? d = some o) (hdd : o.data = .dict es ep)
    (hQ : Q (.ref s.heap.objs.size) { s with heap := s.heap.push { cls := .type "dict_keyiterator", data := .fields #[.ref d, .int 0 0, .int es.size 0, .int ep 0] } }) : wpAny (model prog w) A (pyIter (.ref d)) Q E s := by
  refine wpAny_pyIter_slot T F.slot_dict_iter (wpAny_call_entry F.slot_dict_iter T F.entry_dict_iter ?_ (F.args_dict_iter_1 _))
  unfold Builtin.«dict.__iter__»; refine wpAny_bind ?_; unfold Builtin.Dict.dictSlotNone; refine wpAny_bind (wpAny_notOrdered_dict T (wpAny_pure ?_))
  have no : ¬ ((d == sysModules) = true) := by rw [hs]; exact Bool.false_ne_true
  show wpAny _ _ (Builtin.Dict.showsAll d >>= _) _ _ s; unfold Builtin.Dict.showsAll; rw [if_neg no]
  refine wpAny_bind (wpAny_pure (wpAny_bind (wpAny_dictEntries ho hdd (wpAny_bind (wpAny_dictEpoch ho hdd ?_)))))
  exact wpAny_bind (wpAny_newObj_type (wpAny_pure ⟨_, rfl, "dict_keyiterator", _, ⟨_, Heap.get?_push_size _ rfl, rfl⟩, F.slot_dict_keyiterator_next.lookup, hQ⟩))
end
def iDictK (td : TE) : TI := fun σ H R => td σ H fun x H1 => ∃ d kvs, x = .ref d ∧ Rd H1 d (.dT kvs) ∧ ∀ o, R (ItK d o kvs) (upd H1 d (.frz o (.dT kvs)))
def iDictI (td : TE) : TI := fun σ H R => td σ H fun x H1 => ∃ d kvs, x = .ref d ∧ Rd H1 d (.dT kvs) ∧ ∀ o, R (ItI d o kvs) (upd H1 d (.frz o (.dT kvs)))
section
variable {X : Cx} {tg : Expr} {pins : List (Addr × Obj)} {σ : St} {H : Hp} {s : Shared} {d : Addr} {kvs : List (List Key × V)}
theorem Inv.still (I : Inv X pins σ H s) (e : Rd H d (.dT kvs)) : ∃ (o : Obj) (es : Array DictEntry) (ep : Nat), s.heap.get? d = some o ∧ s.TypeIs (.ref d) "dict" ∧ (∀ b, Value.ref d = .ref b → ∃ ob, s.heap.get? b = some ob ∧ ob.dict = none) ∧ (d == sysModules) = false ∧
    o.data = .dict es ep ∧ es.size = kvs.length ∧ Inv X pins σ (upd H d (.frz o (.dT kvs))) s := by
  obtain ⟨z, hd, xs, rel, o, es, ep, h1, h2, h3, h4, h5, h6⟩ := dt_rd I.hok e
  have T : s.TypeIs (.ref d) "dict" := ⟨o, h1, h2.1⟩
  refine ⟨o, es, ep, h1, T, fun b q => ?_, hd, h3, (size_of_entries h4).trans (Paired.length rel).symm, ?_⟩
  · cases q; exact ⟨o, h1, h2.2.1⟩
  rcases e with e | ⟨o', e⟩
  · exact I.freeze e h1
  · have q : s.heap.get? d = some o' := (I.hok d _ e).1
    have eo : o' = o := Option.some.inj (q.symm.trans h1)
    subst eo
    have : upd H d (.frz o' (.dT kvs)) = H := by
      funext b; unfold upd; split
      · rename_i z; rw [z, e]
      · rfl
    rw [this]; exact I
theorem pi_dict {l : Expr} {tl : TE} (hl : PE X l tl) : PI X tg l (iDictK tl) := by
  intro pins s σ H R I h
  refine thn (hl pins s σ H _ I h) fun v s1 ⟨x, H1, I1, r1, d, kvs, ex, e, q⟩ => ?_
  subst ex
  cases r1
  obtain ⟨o, es, ep, ho, T, _, hs, hdd, hz, I2⟩ := I1.still e
  refine dict_iter hs T ho hdd ⟨s1.heap.objs.size, [s1.heap.objs.size], _, _, _, rfl, I2.kept (t' := s1.toks) fun b q z => Heap.get?_push_of_some _ z, turn_dkey hdd, ⟨_, Heap.get?_push_size _ rfl, rfl, by rw [hz]; rfl⟩, fun b hb => ?_, q o⟩
  have eb : b = s1.heap.objs.size := by simpa using hb
  subst eb
  exact I2.fpOk (Nat.le_refl _) (I2.hok.fresh (Nat.le_refl _))
end
end L2
namespace L2
open PySem PySem.Spec PyProof.Rows
section
variable {prog : Program} {w : World} {κ : Type} [DecidableEq κ] {knd : HeapKind prog w κ} {A : Around} {E : Value → Shared → Prop} {s : Shared}
inductive HHits (A : Around) (s : Shared) (ys : List (κ × Addr × Value)) : List (κ × Addr × Value) → Bool → Prop
  | nil : HHits A s ys [] true
  | miss {x : κ × Addr × Value} {r : List (κ × Addr × Value)} : atKey ys x.1 = none → HHits A s ys (x :: r) false
  | hit {x : κ × Addr × Value} {p : Addr × Value} {r : List (κ × Addr × Value)} {e c : Bool} : atKey ys x.1 = some p → SeqAt.EqAt A s x.2.2 p.2 e → HHits A s ys r c → HHits A s ys (x :: r) (e && c)
theorem HHits.inv {ys : List (κ × Addr × Value)} {x : κ × Addr × Value} {r : List (κ × Addr × Value)} {c : Bool} (h : HHits A s ys (x :: r) c) :
    (atKey ys x.1 = none ∧ c = false) ∨ ∃ p e c', atKey ys x.1 = some p ∧ SeqAt.EqAt A s x.2.2 p.2 e ∧ HHits A s ys r c' ∧ c = (e && c') := by
  cases h with
  | miss a => exact .inl ⟨a, rfl⟩
  | hit a b c => exact .inr ⟨_, _, _, a, b, c, rfl⟩
theorem same_pairs {nm : String} {a b : Addr} {xs ys : List (κ × Addr × Value)} {r : Bool} {Q : Bool → Shared → Prop} (hu : knd.room A) (ha : (a == sysModules) = false) (hb : (b == sysModules) = false) (da : s.heap.DictOfH knd a xs) (db : s.heap.DictOfH knd b ys)
    (hits : xs.length = ys.length → HHits A s ys xs r) (h : Q (xs.length == ys.length && r) s) : wpAny (model prog w) A (Builtin.Dict.samePairs nm a b) Q E s := by
  obtain ⟨oa, ea, pa, ga, _, ta, la, ka, na⟩ := da
  obtain ⟨ob, eb, pb, gb, _, tb, lb, kb, nb⟩ := db
  have za : ea.size = xs.length := size_of_entries la
  have zb : eb.size = ys.length := size_of_entries lb
  have no1 : ¬ ((a == sysModules) = true) := by rw [ha]; exact Bool.false_ne_true
  have no2 : ¬ ((b == sysModules) = true) := by rw [hb]; exact Bool.false_ne_true
  unfold Builtin.Dict.samePairs Builtin.Dict.showsAll; rw [if_neg no1, if_neg no2]
  refine wpAny_bind (wpAny_pure (wpAny_bind (wpAny_pure (wpAny_bind (wpAny_dictEntries ga ta ?_))))); dsimp only; refine wpAny_bind (wpAny_dictEntries gb tb ?_)
  by_cases hz : xs.length = ys.length
  case neg =>
    have q1 : (ea.size != eb.size) = true := by rw [za, zb]; simpa using hz
    have q2 : (xs.length == ys.length) = false := by simpa using hz
    rw [if_pos q1]; rw [q2, Bool.false_and] at h
    exact wpAny_bind (wpAny_rule (wpAny_pure h))
  have q1 : ¬ ((ea.size != eb.size) = true) := by rw [za, zb, hz]; simp
  have h' : Q r s := by simpa [hz] using h
  rw [if_neg q1]; refine wpAny_bind (wpAny_dictEpoch ga ta (wpAny_bind ?_)); rw [Std.Legacy.Range.forIn_eq_forIn_range']; simp only [Std.Legacy.Range.size, Nat.sub_zero, Nat.add_sub_cancel, Nat.div_one]
  refine wpAny_forIn_list _ (fun rest c s' => s' = s ∧ c = (none, ()) ∧ ∃ i, rest = List.range' i (ea.size - i) ∧ i ≤ ea.size ∧ HHits A s ys (xs.drop i) r) _ ?_ ?_ _ _ ⟨rfl, rfl, 0, by simp, Nat.zero_le _, hits hz⟩
  · rintro x rest c s' ⟨rfl, rfl, i, er, hi, hp⟩
    have lt : i < ea.size := Nat.lt_of_not_le fun z => by rw [Nat.sub_eq_zero_of_le z] at er; simp at er
    have es : ea.size - i = (ea.size - (i + 1)) + 1 := by omega
    rw [es, List.range'_succ] at er; injection er with e1 e2; subst e1
    have lx : x < xs.length := by omega
    have ex : ea[x]? = some (entryOfKey knd xs[x]) := by rw [entry_at la x, List.getElem?_eq_getElem lx]; rfl
    have dr : xs.drop x = xs[x] :: xs.drop (x + 1) := List.drop_eq_getElem_cons lx
    refine wpAny_bind (wpAny_dictEntries ga ta ?_); rw [ex]; rw [dr] at hp
    show wpAny _ _ (holding [Value.ref xs[x].2.1, xs[x].2.2] _ >>= _) _ _ _
    refine wpAny_bind (wpAny_holding (wpAny_bind (wpAny_dictFind_heap hu (ka _ (List.getElem_mem lx)) gb tb lb kb nb (fun no => ?_) fun j p hj => ?_)))
    · rcases hp.inv with ⟨_, er⟩ | ⟨p, _, _, hy, _⟩
      · rw [er] at h'; refine wpAny_pure ?_; show wpAny _ _ (if (!false) = true then _ else _) _ _ _; rw [if_pos (by decide)]; exact wpAny_pure (wpAny_pure h')
      · rw [atKey_none_of_get no] at hy; cases hy
    · have lj : eb[j]? = some (entryOfKey knd (xs[x].1, p)) := by rw [entry_at lb j, hj]; rfl
      refine wpAny_bind (wpAny_dictEntries gb tb ?_); rw [lj]
      rcases hp.inv with ⟨hn, _⟩ | ⟨p', e, c', hy, he, hr, er⟩
      · rw [atKey_of_get nb hj] at hn; cases hn
      rw [atKey_of_get nb hj] at hy; injection hy with hy; subst hy
      refine wpAny_holding (he prog w _ _ ?_)
      cases e with
      | false => rw [er, Bool.false_and] at h'; show wpAny _ _ (if (!false) = true then _ else _) _ _ _; rw [if_pos (by decide)]; exact wpAny_pure (wpAny_pure h')
      | true =>
        rw [Bool.true_and] at er; rw [← er] at hr
        show wpAny _ _ (if (!true) = true then _ else _) _ _ _; rw [if_neg (by decide)]; refine wpAny_bind (wpAny_dictEpoch ga ta ?_); rw [if_neg (by simp)]
        exact wpAny_pure ⟨rfl, rfl, x + 1, e2, lt, hr⟩
  · rintro c s' ⟨rfl, rfl, i, er, hi, hp⟩
    have ei : i = ea.size := Nat.le_antisymm hi (Nat.le_of_not_lt fun z => by
      have es : ea.size - i = (ea.size - (i + 1)) + 1 := by omega
      rw [es, List.range'_succ] at er; cases er)
    refine wpAny_pure ?_; rw [ei, za, List.drop_length] at hp; cases hp; exact h'
theorem dict_neH {a b : Addr} {xs ys : List (κ × Addr × Value)} {r : Bool} {Q : Value → Shared → Prop} (hu : knd.room A.in1) (hc : A.units < cLine) (ha : (a == sysModules) = false) (hb : (b == sysModules) = false) (da : s.heap.DictOfH knd a xs) (db : s.heap.DictOfH knd b ys)
    (hits : xs.length = ys.length → HHits A.in1 s ys xs r) (h : Q (.bool (!(xs.length == ys.length && r))) s) : wpAny (model prog w) A (compareOp .NotEq (.ref a) (.ref b)) Q E s := by
  refine wpAny_richCompare_same_room (op := .NotEq) da.typeIs db.typeIs PySem.F.slot_dict_ne (wpAny_call_entry PySem.F.slot_dict_ne da.typeIs PySem.F.entry_dict_ne ?_ (PySem.F.args_dict_ne_2 _ _)) hc
  show wpAny _ _ (Builtin.Dict.dictSlotArgs "__ne__" ⟨[.ref a, .ref b], []⟩ >>= _) _ _ s; refine wpAny_bind ?_; unfold Builtin.Dict.dictSlotArgs; refine wpAny_bind (wpAny_notOrdered_dict da.typeIs (wpAny_pure ?_))
  refine wpAny_bind (wpAny_isInstance (T := "dict") db.typeIs PySem.F.sub_dict_dict ?_); simp only [Bool.not_true, Bool.false_eq_true, if_false]
  refine wpAny_bind (wpAny_pure (wpAny_bind (wpAny_pure (wpAny_bind (same_pairs hu ha hb da db hits (wpAny_pure ⟨_, rfl, (fun x => nomatch x), ?_⟩))))))
  simpa using h
theorem dict_clearH {d : Addr} {xs : List (κ × Addr × Value)} {Q : Value → Shared → Prop} (hz : xs.length ≤ sizeLine) (dd : s.heap.DictOfH knd d xs) (h : ∀ h', h'.DictOfH knd d [] → Heap.SameBut d s.heap h' → Q .none { s with heap := h' }) :
    wpAny (model prog w) A (call (.builtin "dict.clear") [.ref d]) Q E s := by
  have T := dd.typeIs
  obtain ⟨o, es, ep, ho, hc, hd, he, hk, hn⟩ := dd
  have hes : es.size ≤ sizeLine := by rw [size_of_entries he]; exact hz
  refine wpAny_call_entry F.slot_dict_clear T F.entry_dict_clear ?_ (F.args_dict_clear_1 _)
  unfold Builtin.«dict.clear»; refine wpAny_bind ?_; unfold Builtin.Dict.noArgs; refine wpAny_bind (wpAny_notOrdered_dict T (wpAny_pure (wpAny_bind (wpAny_dictEntries ho hd (wpAny_bind ?_)))))
  unfold bearsInstanceDictMark; refine wpAny_bind (wpAny_load ho (wpAny_pure (wpAny_bind (wpAny_updateDictKeys (hz := hes) ho hd ?_))))
  have new : (s.heap.update d (Obj.mapDictKeys fun _ => #[])).DictOfH knd d [] := ⟨_, _, ep + 1, Heap.get?_update_self _ ho (Obj.isFreed_of_dict (Obj.data_mapDictKeys hd _)), hc.mapDictKeys _, Obj.data_mapDictKeys hd _, rfl, fun _ z => (by cases z), List.nodup_nil⟩
  split
  · exact wpAny_bind (wpAny_letGo (wpAny_pure ⟨.none, rfl, h _ new (Heap.SameBut.update ..)⟩))
  · exact wpAny_bind (wpAny_pure (wpAny_pure ⟨.none, rfl, h _ new (Heap.SameBut.update ..)⟩))
end
end L2
namespace L2
open PySem PySem.Spec PyProof.Rows
def KDs (K : PySem.W.Frag) (H : Hp) : List (List Key × V) → List (List Key × PyData) → Prop := Paired fun p q => p.1 = q.1 ∧ Rds K H p.2 q.2
def findKD (ys : List (List Key × PyData)) (k : List Key) : Option PyData := (ys.find? fun q => decide (q.1 = k)).map (·.2)
def eqKD (xs ys : List (List Key × PyData)) : Bool := xs.length == ys.length && xs.all fun p => match findKD ys p.1 with | some d => PyData.eqv p.2 d | none => false
def Flats (xs : List (List Key × PyData)) : Prop := ∀ p ∈ xs, p.2.canLay0 = true ∧ p.2.depth ≤ 60
section
variable {X : Cx} {pins : List (Addr × Obj)} {σ : St} {H : Hp} {s : Shared}
theorem at_findKD (I : Inv X pins σ H s) : ∀ {kb : List (List Key × V)} {ys : List (List Key × Addr × Value)} {db : List (List Key × PyData)}, KT H kb ys → KDs X.K H kb db → Flats db → ∀ k : List Key,
    (atKey ys k = none ∧ findKD db k = none) ∨ ∃ p d as, atKey ys k = some p ∧ findKD db k = some d ∧ Reads s.heap p.2 d as ∧ d.canLay0 = true ∧ d.depth ≤ 60
  | _, _, _, .nil, .nil, _, _ => .inl ⟨rfl, rfl⟩
  | _, _, _, .cons (a := a) (b := b) r t, .cons (b := c) q u, fl, k => by
    obtain ⟨r1, r2, r3⟩ := r
    obtain ⟨q1, q2⟩ := q
    by_cases e : a.1 = k
    · have e1 : b.1 = k := r1.symm.trans e
      have e2 : c.1 = k := q1.symm.trans e
      obtain ⟨as, rd⟩ := I.rds q2 r3
      obtain ⟨f1, f2⟩ := fl c (.head _)
      exact .inr ⟨b.2, c.2, as, by simp [atKey, List.find?_cons, e1], by simp [findKD, List.find?_cons, e2], rd, f1, f2⟩
    · have e1 : ¬ b.1 = k := fun z => e (r1.trans z)
      have e2 : ¬ c.1 = k := fun z => e (q1.trans z)
      have z1 : ∀ l, atKey (b :: l) k = atKey l k := fun l => by simp [atKey, List.find?_cons, e1]
      have z2 : ∀ l, findKD (c :: l) k = findKD l k := fun l => by simp [findKD, List.find?_cons, e2]
      rw [z1, z2]
      exact at_findKD I t u (fun p hp => fl p (.tail _ hp)) k
theorem hits_of {A : Around} (hu : A.units + 61 < cLine) (I : Inv X pins σ H s) {kb : List (List Key × V)} {ys : List (List Key × Addr × Value)} {db : List (List Key × PyData)} (tb : KT H kb ys) (qb : KDs X.K H kb db) (fb : Flats db) :
    ∀ {ka : List (List Key × V)} {xs : List (List Key × Addr × Value)} {da : List (List Key × PyData)}, KT H ka xs → KDs X.K H ka da → Flats da → HHits A s ys xs (da.all fun p => match findKD db p.1 with | some d => PyData.eqv p.2 d | none => false)
  | _, _, _, .nil, .nil, _ => .nil
  | _, _, _, .cons (a := a) (b := b) r t, .cons (b := c) q u, fl => by
    obtain ⟨r1, r2, r3⟩ := r
    obtain ⟨q1, q2⟩ := q
    have ih := hits_of hu I tb qb fb t u fun p hp => fl p (.tail _ hp)
    obtain ⟨as, rd⟩ := I.rds q2 r3
    obtain ⟨f1, f2⟩ := fl c (.head _)
    rw [List.all_cons]
    rcases at_findKD I tb qb fb b.1 with ⟨h1, h2⟩ | ⟨p, d, bs, h1, h2, h3, h4, h5⟩
    · rw [← r1, q1] at h2; rw [h2]; exact .miss h1
    · rw [← r1, q1] at h2; rw [h2]
      refine .hit h1 (SeqAt.eqAt_reads c.2 d A s _ _ as bs rd h3 f1 h4 ?_) ih
      have := Nat.min_le_left c.2.depth d.depth
      omega
end
def rEqDT (K : PySem.W.Frag) (neg : Bool) : R2 := fun x y H Q => ∃ (a b : Addr) (ka kb : List (List Key × V)) (da db : List (List Key × PyData)), x = .ref a ∧ y = .ref b ∧ Rd H a (.dT ka) ∧ Rd H b (.dT kb) ∧ KDs K H ka da ∧ KDs K H kb db ∧ Flats da ∧ Flats db ∧ Q (.bl (xor neg (eqKD da db))) H
section
variable {X : Cx}
theorem op_neDT (hu : X.A.units + 64 < cLine) : OpR X (compareOp .NotEq) (rEqDT X.K true) := by
  intro pins s σ H x y u v Q I rx ry h
  obtain ⟨a, b, ka, kb, da, db, rfl, rfl, ha, hb, qa, qb, fa, fb, q⟩ := h
  cases rx
  cases ry
  obtain ⟨_, sa, xs, ta, ea⟩ := dt_rd I.hok ha
  obtain ⟨_, sb, ys, tb, eb⟩ := dt_rd I.hok hb
  have lx : xs.length = da.length := (Paired.length ta).symm.trans (Paired.length qa)
  have ly : ys.length = db.length := (Paired.length tb).symm.trans (Paired.length qb)
  refine dict_neH (knd := tupleKind (mixKind X.prog X.w)) (tupleKind_room_in1 (by omega)) (by omega) sa sb ea eb (fun _ => hits_of (by show X.A.units + 1 + 61 < cLine; omega) I tb qb fb ta qa fa) ⟨.bl _, H, I, rfl, ?_⟩
  rw [lx, ly]
  have : (true ^^ eqKD da db) = !eqKD da db := Bool.true_xor _
  rw [this] at q
  exact q
def rDClear : V → List V → Hp → VK → Prop := fun x vs H Q => ∃ d kvs, x = .ref d ∧ vs = [] ∧ H d = some (.dT kvs) ∧ Q .non (upd H d (.dT []))
theorem mt_dclear : MtR X "dict.clear" rDClear := by
  intro pins s σ H x vs v us Q I rx rv h
  obtain ⟨d, kvs, rfl, rfl, hH, q⟩ := h
  cases rx
  have hus := rv.zero
  subst hus
  obtain ⟨z, hd, xs, rel, dd⟩ := dt_of I.hok hH
  refine dict_clearH (by rw [← Paired.length rel]; exact z) dd fun h' dd' hs => ⟨.non, _, ?_, rfl, q⟩
  obtain ⟨o, es, ep, h1, h2, h3, h4, _, h5⟩ := dd'
  exact d_write I (by rw [hH]; exact True.intro) hs ⟨o, h1⟩ ⟨Nat.zero_le _, hd, [], .nil, o, es, ep, h1, h2, h3, h4, h5⟩
theorem pe_dclear {o : Expr} {to : TE} {apos cpos : Pos} (ho : PE X o to) (hbase : attributeBase o "clear" X.env (eval o X.env) = eval o X.env := by rfl) (hline : (apos.endLine == cpos.line) = true := by rfl) :
    PE X (.Call (.Attribute o "clear" apos) [] [] cpos) (tBM0 X.K "dict" rDClear to) := pe_bm0 PySem.F.plainAttrs_dict PySem.F.slot_dict_clear PySem.F.type_dict_clear mt_dclear ho hbase hline
theorem d_store {pins : List (Addr × Obj)} {σ : St} {H : Hp} {s : Shared} {A : Around} {E : Value → Shared → Prop} {a b : Addr} {kvs : List (List Key × V)} {k : List Key} {v : V} {r : Value} {Q : Unit → Shared → Prop} (hu : A.units < cLine) (I : Inv X pins σ H s) (e : H a = some (.dT kvs)) (eb : H b = some (.tup (k.map kV)))
    (l : kvs.length < sizeLine) (rv : RelV v r) (h : ∀ s', Inv X pins σ (upd H a (.dT (putK kvs k v))) s' → Q () s') : wpAny (model X.prog X.w) A (dictSet a (.ref b) r) Q E s := by
  obtain ⟨z, hd, xs, rel, dd⟩ := dt_of I.hok e
  have hz : xs.length ≤ sizeLine := by rw [← Paired.length rel]; exact z
  have hl : (putK kvs k v).length ≤ sizeLine := by have := length_putK kvs k v; omega
  refine wpAny_dictSet_heap (hsz := hz) (knd := tupleKind (mixKind X.prog X.w)) hu (key_of I.hok eb) dd fun h' dd' hs => h _ ?_
  obtain ⟨q, es, ep, hq, h2, h3, h4, _, h5⟩ := dd'
  refine d_write I (by rw [e]; exact True.intro) hs ⟨q, hq⟩ ⟨hl, hd, _, (rel.put k eb rv).keeps fun c ys ec => ?_, q, es, ep, hq, h2, h3, h4, h5⟩
  rw [upd_ne (ne_of ec e (fun z => nomatch z))]; exact ec
def tDisp1 (tk tv : TE) : TE := fun σ H Q => ∀ p, H p = none → tk σ (upd H p (.dT [])) fun x H1 => tv σ H1 fun y H2 => ∃ b ks, x = .ref b ∧ H2 p = some (.dT []) ∧ H2 b = some (.tup (ks.map kV)) ∧ Q (.ref p) (upd H2 p (.dT [(ks, y)]))
theorem pe_disp1 {pos : Pos} {k v : Expr} {tk tv : TE} (hu : X.A.units < cLine) (hk : PE X k tk) (hv : PE X v tv) : PE X (.Dict [some k] [v] pos) (tDisp1 tk tv) := by
  intro pins s σ H Q I q
  have hn := I.hok.fresh (Nat.le_refl s.heap.objs.size)
  have I1 := I.laid (a := s.heap.objs.size) (o := .dT []) (h' := s.heap.push { cls := .type "dict", data := .dict #[] }) (t' := s.toks) (fun _ _ q => Heap.get?_push_of_some _ q) (Nat.le_refl _) (dt_empty s.heap I.big)
  refine wpAny_Dict_any rfl rfl (by simp) (by simp) ?_
  have P : PPs X pos [some k] [v] [(tk, tv)] := pps_cons hk hv pps_nil
  refine thn (P pins _ σ _ (fun ps H2 => match ps with | [(x, y)] => ∃ b ks, x = .ref b ∧ H2 s.heap.objs.size = some (.dT []) ∧ H2 b = some (.tup (ks.map kV)) ∧ Q (.ref s.heap.objs.size) (upd H2 s.heap.objs.size (.dT [(ks, y)])) | _ => False) I1 (q _ hn)) fun ws s2 ⟨ps, H2, I2, rel, hq⟩ => ?_
  rcases ws with _ | ⟨⟨c1, c2⟩, ws⟩
  · cases rel; exact hq.elim
  cases rel with
  | cons r t =>
    cases t with
    | cons _ _ => exact hq.elim
    | nil =>
      obtain ⟨r1, r2⟩ := r
      obtain ⟨b, ks, ex, e1, e2, q2⟩ := hq
      dsimp only at ex r1 r2
      rw [ex] at r1
      obtain rfl : c1 = Value.ref b := r1
      unfold storeAll
      rw [List.forIn_cons]
      refine wpAny_bind (wpAny_bind (d_store hu I2 e1 e2 (by rw [sizeLine_eq]; decide) r2 fun s3 I3 => wpAny_pure ?_))
      exact wpAny_pure ⟨.ref s.heap.objs.size, _, I3, rfl, q2⟩
end
end L2
namespace L2
open PySem PySem.Spec PyProof.Rows
def pickS (x : Str) (lo hi : Option Int) : List Nat := Builtin.Str.strSliceIndices lo hi 1 x.length
def cutS (x : Str) (lo hi : Option Int) : Str := if ((pickS x lo hi).length == x.length) = true then x else ⟨((pickS x lo hi).filterMap (x.cps[·]?)).toArray⟩
def rSlS : V → Option Int → Option Int → Hp → VK → Prop := fun x lo hi H Q => ∃ z, x = .str z ∧ (cutS z lo hi).length ≤ sizeLine ∧ Q (.str (cutS z lo hi)) H
section
variable {X : Cx}
theorem sl_str : SlR X rSlS := by
  intro pins s σ H x v vl vu lo hi sl Q I rx hs pl pu h
  obtain ⟨z, rfl, hz, q⟩ := h
  obtain ⟨t, rfl⟩ := rx
  refine ⟨"str", _, F.slot_str_getitem.lookup, typeIs_str _ z t, ?_⟩
  obtain ⟨l, el, e1⟩ : ∃ l : Option (Int × Tok), vl = partValue l ∧ l.map (·.1) = lo := by
    cases pl with
    | none => exact ⟨none, rfl, rfl⟩
    | int i t => exact ⟨some (i, t), rfl, rfl⟩
  obtain ⟨u, eu, e2⟩ : ∃ u : Option (Int × Tok), vu = partValue u ∧ u.map (·.1) = hi := by
    cases pu with
    | none => exact ⟨none, rfl, rfl⟩
    | int i t => exact ⟨some (i, t), rfl, rfl⟩
  subst el eu e1 e2
  refine wpAny_getItem_str_slice (l := l) (u := u) (st := none) hs rfl ?_
  have ep : slicePicked z l u none = pickS z (l.map (·.1)) (u.map (·.1)) := rfl
  unfold sliceMade
  rw [ep]
  unfold cutS at q hz
  by_cases c : ((pickS z (l.map (·.1)) (u.map (·.1))).length == z.length) = true
  · rw [if_pos c] at q
    rw [if_pos (by simpa using c)]
    exact ⟨.str z, H, I, ⟨t, rfl⟩, q⟩
  · rw [if_neg c] at q hz
    rw [if_neg (by simpa using c)]
    exact ⟨hz, .str _, H, I.tok _, ⟨_, rfl⟩, q⟩
theorem noFill_tup : fillsNumberSlot (.type "tuple") "mul" = pure false := PySem.fillsNumberSlot_seq (id := "tuple.__mul__") (r := some (.builtin "tuple.__rmul__")) F.slot_tuple_mul.lookup (by decide +kernel) F.slot_tuple_rmul.lookup (by decide +kernel)
theorem repeat_tup : seqRepeat? (.type "tuple") = pure (some (.builtin "tuple.__mul__")) := by
  unfold seqRepeat?; rw [PySem.seqSlot_of (T := "tuple") (name := "__mul__") (id := "tuple.__mul__") F.slot_tuple_mul.lookup (by decide +kernel), PySem.seqSlot_of (T := "tuple") (name := "__rmul__") (id := "tuple.__rmul__") F.slot_tuple_rmul.lookup (by decide +kernel)]; rfl
theorem rmul_tup (a : Int) (t : Tok) (l : Addr) (o : Obj) (its : Array Value) (n : Nat) (hd : o.data = .seq its n) : Meets (Builtin.«int.__rmul__» ⟨[.int a t, .ref l], []⟩) (fun _ R s => s.heap.get? l = some o ∧ R (.ok (.ret Value.notImplemented)) s) :=
  .of_wp fun prog w A R s h => by
    obtain ⟨hp, g, d, tk, os⟩ := s
    obtain ⟨hl, h⟩ := h
    wp_walk
    rw [hd]
    wp_walk
    exact ⟨_, rfl, h⟩
def rRepT (K : PySem.W.Frag) : R2 := fun x y H Q => ∃ (a : Addr) (xs : List V) (n : Int), x = .ref a ∧ y = .int n ∧ SqT K H a xs ∧ xs ≠ [] ∧ 1 ≤ n ∧ n ≤ 1000 ∧ xs.length * n.toNat ≤ 1000 ∧
  (n = 1 → Q (.ref a) H) ∧ (2 ≤ n → ∀ p, H p = none → Q (.ref p) (upd H p (.tup (List.replicate n.toNat xs).flatten)))
theorem op_repT : OpR X (binaryOp .Mult) (rRepT X.K) := by
  intro pins s σ H x y v u Q I rx ry h
  obtain ⟨a, xs, n, rfl, rfl, hx, ne, n1, n2, hz, q1, q2⟩ := h
  cases rx
  obtain ⟨t, rfl⟩ := ry
  obtain ⟨its, r, ht, hl⟩ := I.tuple hx
  have T : s.TypeIs (.ref a) "tuple" := ht.typeIs
  have le := r.length
  obtain ⟨o, ho, hc, m, hd⟩ := id ht
  refine wpAny_binaryOp_repeat_ref (T := "tuple") (U := "int") (by decide) T (fun s' => typeIs_int s' n t) noFill_tup F.fills_int_mul F.slot_int_rmul repeat_tup F.slot_int_index.lookup
    (call_meets F.slot_int_rmul (typeIs_int s n t) F.entry_int_rmul (F.args_int_rmul_2 _ _) (rmul_tup n t a o its.toArray m hd) ⟨ho, rfl, T, wpAny_call_entry F.slot_tuple_mul T F.entry_tuple_mul ?_ (F.args_tuple_mul_2 _ _)⟩)
  show wpAny _ _ (asIndex (.int n t) >>= _) _ _ s
  refine wpAny_bind (wpAny_pure ?_); dsimp only
  have b1 : (decide (n < -2 ^ 63) || decide (n ≥ 2 ^ 63)) = false := by rw [decide_eq_false (by omega), decide_eq_false (by omega)]; rfl
  rw [if_neg (by rw [b1]; exact Bool.false_ne_true)]
  refine wpAny_bind (wpAny_tupleItemsOf ho hd ?_)
  have em : its.toArray.isEmpty = false := by
    cases its with
    | nil => cases xs with
      | nil => exact absurd rfl ne
      | cons _ _ => simp at le
    | cons _ _ => rfl
  by_cases c : n = 1
  · have b2 : (its.toArray.isEmpty || n == 1) = true := by rw [c]; simp
    rw [if_pos b2]
    unfold Builtin.Tuple.tupleIsExact
    refine wpAny_bind (wpAny_bind (wpAny_typeOf T (wpAny_pure ?_))); rw [if_pos (by decide)]
    exact wpAny_bind (wpAny_rule (wpAny_pure ⟨_, rfl, .ref a, H, I, rfl, q1 c⟩))
  · have b2 : (its.toArray.isEmpty || n == 1) = false := by rw [em]; simpa using c
    have b3 : (decide (n ≤ 0) || its.toArray.isEmpty) = false := by rw [em, decide_eq_false (by omega)]; rfl
    have sz : its.toArray.size * n.toNat ≤ 1000 := by rw [List.size_toArray, ← le]; exact hz
    have sz' : ((its.toArray.size : Nat) : Int) * n ≤ 1000 := by
      have : n = ((n.toNat : Nat) : Int) := by omega
      rw [this]; exact_mod_cast sz
    rw [if_neg (by rw [b2]; exact Bool.false_ne_true), if_neg (by rw [b3]; exact Bool.false_ne_true), if_neg (by omega)]
    have f0 : List.foldl (fun x1 x2 => x1 ++ x2) #[] (List.replicate n.toNat its.toArray) = (List.replicate n.toNat its).flatten.toArray := by
      have := foldl_rep its n.toNat []
      rw [List.nil_append] at this
      exact this
    have b4 : Builtin.Tuple.tupleTooMany (((its.toArray.size : Nat) : Int) * n) = false := by
      unfold Builtin.Tuple.tupleTooMany
      simp only [decide_eq_false_iff_not]
      have z := sizeLine_eq
      omega
    rw [if_neg (by rw [b4]; exact Bool.false_ne_true), f0]
    unfold Builtin.Tuple.tupleExact
    have ln : ((List.replicate n.toNat its).flatten).length ≤ sizeLine := by
      rw [len_rep, Nat.mul_comm, ← le, sizeLine_eq]; omega
    refine wpAny_bind (wpAny_newObj_type (wpAny_pure ⟨_, rfl, .ref s.heap.objs.size, _, I.laid (t' := s.toks) (o := .tup (List.replicate n.toNat xs).flatten) (fun b q z => Heap.get?_push_of_some _ z) (Nat.le_refl _) ?_, rfl, q2 (by omega) _ I.fresh⟩) (by show Array.size _ ≤ sizeLine; rw [List.size_toArray]; exact ln))
    exact ⟨by rw [len_rep, Nat.mul_comm, sizeLine_eq]; omega, _, r.rep n.toNat, IsTup.new _ _⟩
end
def Ends.thw (H0 : Hp) (D : Ends) : Ends := { D with nx := fun σ H => Thw H0 H (D.nx σ), rt := fun v H => Thw H0 H (D.rt v) }
section
variable {X : Cx} {st : Stmt} {ss : List Stmt} {t : TS}
theorem SP.thw {pins : List (Addr × Obj)} {D : Ends} {f : Flow} {s : Shared} (h : SP X pins (D.thw X.H₀) f s) : SP X pins D f s := by
  cases f with
  | next => obtain ⟨σ, H, I, q⟩ := h; obtain ⟨H', I', q'⟩ := Thw.inv (K := D.nx σ) q I; exact ⟨σ, H', I', q'⟩
  | brk => exact h
  | cont => exact h
  | ret u => obtain ⟨v, σ, H, I, r, q⟩ := h; obtain ⟨H', I', q'⟩ := Thw.inv (K := D.rt v) q I; exact ⟨v, σ, H', I', r, q'⟩
theorem ps_thw (h : PS X st t) : PS X st (fun D σ H => t (D.thw X.H₀) σ H) := fun pins s σ H D I q => thn (h pins s σ H _ I q) fun _ _ z => z.thw
end
end L2
namespace L2
open PySem PySem.Spec PyProof.Rows
section
variable {prog : Program} {w : World} {A : Around} {E : Value → Shared → Prop} {s : Shared}
theorem iadd_range {R : Result → Shared → Prop} {r S : Addr} {a b : Int} {t u v : Tok} {n : Nat} (hh : A.handled = none) (hr : IsRange s.heap r a b 1 t u v) (hsmall : Builtin.Range.small a b 1 = true) (hn : Builtin.Range.rangeSize a b 1 = n) (hlen : n ≤ 2 ^ 24)
    (hS : s.heap.get? S = some { cls := .type "list", data := .seq #[] 0 })
    (hR : ∀ h' tk acc c', (∀ b o, b ≠ S → s.heap.get? b = some o → h'.get? b = some o) → h'.get? S = some { cls := .type "list", dict := none, data := .seq acc c', slots := #[] } → ItemsOf (fun i v => ∃ t, v = .int (a + i * 1) t) acc n → R (.ok (.ret (.ref S))) { s with heap := h', toks := tk }) :
    codeAny (model prog w) A (.builtin "list.__iadd__" ⟨[.ref S, .ref r], []⟩) R s := by
  refine codeAny_builtin F.entry_list_iadd ?_; rw [Around.under_plainId F.plain_list_iadd _]
  show wpAny _ A.in1 (Builtin.List.listExtendWith (.ref S) (.ref r) (.ref S)) _ _ _; exact wpAny_extend_range (A := A) (R := R) hh hr hsmall hn hlen S _ 0 hS hR
theorem collect_range {Q : List Value → Shared → Prop} {r : Addr} {a b : Int} {t u v : Tok} {n : Nat} (hh : A.handled = none) (hr : IsRange s.heap r a b 1 t u v) (hsmall : Builtin.Range.small a b 1 = true) (hn : Builtin.Range.rangeSize a b 1 = n) (hlen : n ≤ 2 ^ 24)
    (hQ : ∀ h' tk acc, (∀ b o, s.heap.get? b = some o → h'.get? b = some o) → ItemsOf (fun i v => ∃ t, v = .int (a + i * 1) t) acc n → Q acc.toList { s with heap := h', toks := tk }) : wpAny (model prog w) A (collect (.ref r)) Q E s := by
  unfold collect; refine wpAny_bind (wpAny_runValue (codeAny_builtin F.entry_proto_collect ?_)); rw [Around.under_plainId F.plain_proto_collect _]
  have hS : (s.heap.push { cls := .type "list", data := .seq ([] : List Value).toArray }).get? s.heap.objs.size = some { cls := .type "list", data := .seq ([] : List Value).toArray } := Heap.get?_push_size _ rfl
  show wpAny _ A.in1 (newList [] >>= fun l => again (.builtin "list.__iadd__" ⟨[l, .ref r], []⟩)) _ _ s; refine wpAny_bind (wpAny_newObj_type (wpAny_pure ⟨plainId_quiet F.plain_list_iadd _, ?_⟩))
  refine iadd_range (s := { s with heap := s.heap.push { cls := .type "list", data := .seq ([] : List Value).toArray } }) hh (Heap.get?_push_of_some _ hr) hsmall hn hlen hS fun h' tk acc c' hk hS' hacc => ?_
  show wpAny _ A (load s.heap.objs.size >>= _) _ _ _; refine wpAny_bind (wpAny_load hS' ?_)
  exact wpAny_pure (hQ h' tk acc (fun b o e => hk b o (Nat.ne_of_lt (Heap.lt_size e)) (Heap.get?_push_of_some _ e)) hacc)
theorem tuple_new_range (r : Addr) (a b : Int) (t u v : Tok) (n : Nat) (hsmall : Builtin.Range.small a b 1 = true) (hn : Builtin.Range.rangeSize a b 1 = n) (hlen : n ≤ 2 ^ 24) :
    Meets (Builtin.«tuple.__new__» ⟨[.type "tuple", .ref r], []⟩) (fun A R s => A.handled = none ∧ IsRange s.heap r a b 1 t u v ∧ ∀ (h' : Heap) (tk : Nat) (acc : Array Value), (∀ b o, s.heap.get? b = some o → h'.get? b = some o) → ItemsOf (fun i v => ∃ t, v = .int (a + i * 1) t) acc n →
      R (.ok (.ret (.ref h'.objs.size))) { s with heap := h'.push { cls := .type "tuple", data := .seq acc }, toks := tk }) :=
  .of_wp fun prog w A R s h => by
    obtain ⟨hh, hr, h⟩ := h
    have s1 := sub_tuple_self
    have s2 := init_tuple_lookup
    have s3 := madeHere_tuple
    have T : s.TypeIs (.ref r) "range" := ⟨_, hr, rfl⟩
    have h1 : A.in1.handled = none := hh
    wp_walk using wpAny_typeOf T, collect_range h1 hr hsmall hn hlen
    intro h' tk acc hk hacc
    have e : acc.toList.toArray = acc := by simp
    have z : acc.size ≤ sizeLine := by rw [hacc.1, sizeLine_eq]; omega
    show wpAny _ _ (Builtin.Tuple.tupleExact acc.toList.toArray >>= fun v => ret v) _ _ _; rw [e]
    unfold Builtin.Tuple.tupleExact; refine wpAny_bind (wpAny_newObj_type (wpAny_pure ⟨_, rfl, h h' tk acc hk hacc⟩) z)
end
section
variable {X : Cx}
def upFrom (lo : Int) (n : Nat) : List Int := (List.range n).map fun i : Nat => lo + (i : Int)
def rRange2 : List V → Hp → VK → Prop := fun xs H Q => ∃ i j : Int, xs = [.int i, .int j] ∧ ∀ p, H p = none → Q (.ref p) (upd H p (.rng i j))
def rTupRng : List V → Hp → VK → Prop := fun xs H Q => ∃ (p : Addr) (lo hi : Int), xs = [.ref p] ∧ H p = some (.rng lo hi) ∧ -1000 ≤ lo ∧ lo ≤ 1000 ∧ -1000 ≤ hi ∧ hi ≤ 1000 ∧ ∀ l, H l = none → Q (.ref l) (upd H l (.tup ((upFrom lo (hi - lo).toNat).map V.int)))
theorem call_range2 : CallR X (.type "range") rRange2 := by
  intro pins s σ H xs us Q I r h
  obtain ⟨i, j, rfl, q⟩ := h
  cases r with
  | cons r1 rr => cases rr with
    | cons r2 rr =>
      cases rr
      obtain ⟨t, rfl⟩ := r1
      obtain ⟨u, rfl⟩ := r2
      refine call_range_2 ⟨.ref s.heap.objs.size, _, I.laid (t' := s.toks + 1) (o := .rng i j) (fun b q z => Heap.get?_push_of_some _ z) (Nat.le_refl _) ⟨t, u, s.toks, Heap.get?_push_size _ rfl⟩, rfl, q _ I.fresh⟩
theorem vals_items {lo : Int} : ∀ {n : Nat} {acc : List Value}, acc.length = n → (∀ (i : Nat) (v : Value), acc[i]? = some v → ∃ t, v = Value.int (lo + (i : Int) * 1) t) → Vals ((upFrom lo n).map V.int) acc := by
  intro n acc hl hi
  have : ∀ (k : Nat) (rest : List Value) (lo' : Int), (∀ (i : Nat) (v : Value), rest[i]? = some v → ∃ t, v = Value.int (lo' + (i : Int)) t) → Vals ((upFrom lo' rest.length).map V.int) rest := by
    intro _ rest
    induction rest with
    | nil => intro lo' _; exact .nil
    | cons x rest ih =>
      intro lo' h
      have e : upFrom lo' (x :: rest).length = lo' :: upFrom (lo' + 1) rest.length := by
        unfold upFrom
        rw [List.length_cons, List.range_succ_eq_map, List.map_cons, List.map_map]
        congr 1
        · simp
        · refine List.map_congr_left fun i _ => ?_
          show lo' + ((i + 1 : Nat) : Int) = lo' + 1 + (i : Int)
          omega
      rw [e, List.map_cons]
      obtain ⟨t, rfl⟩ := h 0 x rfl
      refine .cons ⟨t, by simp⟩ (ih (lo' + 1) fun i v hv => ?_)
      obtain ⟨t, q⟩ := h (i + 1) v (by rw [List.getElem?_cons_succ]; exact hv)
      exact ⟨t, by rw [q]; congr 1; omega⟩
  rw [← hl]
  exact this 0 acc lo fun i v hv => by obtain ⟨t, q⟩ := hi i v hv; exact ⟨t, by rw [q, Int.mul_one]⟩
theorem call_tuple_rng (hc : X.calm = true) : CallR X (.type "tuple") rTupRng := by
  intro pins s σ H xs us Q I r h
  obtain ⟨p, lo, hi, rfl, hp, b1, b2, b3, b4, q⟩ := h
  cases r with
  | cons r1 rr =>
    cases rr
    cases r1
    obtain ⟨t, u, v, e⟩ := I.hok p _ hp
    have sm : Builtin.Range.small lo hi 1 = true := small_one (by omega) (by omega) (by omega) (by omega)
    have sz : Builtin.Range.rangeSize lo hi 1 = ((hi - lo).toNat : Nat) := by rw [rangeSize_one]; split <;> omega
    refine callType_new F.called_tuple (by decide) (F.typeCall_tuple_1 _) (F.newCall_tuple_1 _) (fun obj => F.args_object_init_2 obj _) F.entry_tuple_new (tuple_new_range p lo hi t u v (hi - lo).toNat sm sz (by omega))
      ⟨I.ok.hd hc, e, fun h' tk acc hk hacc => ⟨⟨_, Heap.get?_push_size _ rfl, rfl⟩, ?_⟩⟩
    have I1 : Inv X pins σ H { s with heap := h', toks := tk } := I.kept hk
    have vs : Vals ((upFrom lo (hi - lo).toNat).map V.int) acc.toList := vals_items (by rw [Array.length_toList]; exact hacc.1) fun i v hv => hacc.2 i v (by rw [Array.getElem?_toList] at hv; exact hv)
    refine ⟨.ref h'.objs.size, _, I1.laid (t' := tk) (o := .tup ((upFrom lo (hi - lo).toNat).map V.int)) (fun b q z => Heap.get?_push_of_some _ z) (Nat.le_refl _) ?_, rfl, q _ (I1.hok.fresh (Nat.le_refl _))⟩
    exact ⟨by rw [List.length_map]; unfold upFrom; rw [List.length_map, List.length_range, sizeLine_eq]; omega, _, vs, by simpa using IsTup.new h' acc⟩
end
end L2
namespace L2
open PySem PySem.Spec PyProof.Rows
end L2
namespace K1
def gI (a b : Int) : Int := ((Int.gcd a b : Nat) : Int)
theorem gI_pos {a b : Int} (h : b ≠ 0) : 0 < gI a b := by
  have : 0 < Int.gcd a b := Int.gcd_pos_of_ne_zero_right a h
  unfold gI; omega
theorem gI_zero (a : Int) (h : 0 ≤ a) : gI a 0 = a := by unfold gI; rw [Int.gcd_zero_right]; omega
/-- one turn of the loop -/
theorem gI_step {a b : Int} (ha : 0 ≤ a) (hb : 0 < b) : gI b (Int.fmod a b) = gI a b := by
  unfold gI
  congr 1
  rw [Int.fmod_eq_emod_of_nonneg a (Int.le_of_lt hb)]
  show Nat.gcd b.natAbs (a % b).natAbs = Nat.gcd a.natAbs b.natAbs
  have e : (a % b).natAbs = a.natAbs % b.natAbs := by
    have h1 : a = (a.natAbs : Int) := by omega
    have h2 : b = (b.natAbs : Int) := by omega
    conv => lhs; rw [h1, h2]
    rw [← Int.natCast_emod]
    exact Int.natAbs_natCast _
  rw [e, Nat.gcd_comm a.natAbs, Nat.gcd_rec b.natAbs a.natAbs, Nat.gcd_comm]
structure Gc (a0 b0 a b : Int) : Prop where
  is : gI a b = gI a0 b0
theorem start {a b : Int} (ha : 0 ≤ a) (hb : 0 ≤ b) : 0 ≤ a ∧ 0 ≤ b ∧ Gc a b a b := ⟨ha, hb, ⟨rfl⟩⟩
theorem turn {a0 b0 a b : Int} (h : Gc a0 b0 a b) (ha : 0 ≤ a) (hb : 0 < b) : 0 ≤ b ∧ 0 ≤ Int.fmod a b ∧ Gc a0 b0 b (Int.fmod a b) :=
  ⟨by omega, Int.fmod_nonneg_of_pos a hb, ⟨(gI_step ha hb).trans h.is⟩⟩
theorem less {a b : Int} (hb : 0 < b) : (Int.fmod a b).toNat < b.toNat := by
  have := Int.fmod_lt_of_pos a hb
  have := Int.fmod_nonneg_of_pos a hb
  omega
theorem out {a0 b0 a b : Int} (h : Gc a0 b0 a b) (ha : 0 ≤ a) (hb : b = 0) : a = gI a0 b0 := by
  rw [← h.is, hb, gI_zero a ha]
/-- abs -/
theorem gI_abs (a b : Int) : gI (if a < 0 then -a else a) (if b < 0 then -b else b) = gI a b := by
  unfold gI
  congr 1
  have h (x : Int) : (if x < 0 then -x else x).natAbs = x.natAbs := by split <;> omega
  show Nat.gcd _ _ = Nat.gcd _ _
  rw [h, h]
end K1

namespace K1
/-- by what top and bottom are divided, with the bottom's sign -/
def dv (t b : Int) : Int := if b < 0 then -(gI t b) else gI t b
def fT (t b : Int) : Int := t.fdiv (dv t b)
def fB (t b : Int) : Int := b.fdiv (dv t b)
theorem dv_abs (t b : Int) : (dv t b).natAbs = Int.gcd t b := by
  unfold dv gI; split <;> omega
theorem dv_ne {t b : Int} (h : b ≠ 0) : dv t b ≠ 0 := by
  have := gI_pos (a := t) h
  unfold dv; split <;> omega
theorem dv_le {t b : Int} (h : b ≠ 0) : (dv t b).natAbs ≤ b.natAbs := by
  rw [dv_abs]
  exact Nat.le_of_dvd (by omega) (Nat.gcd_dvd_right _ _)
theorem bigN {n : Nat} (h : n < 2 ^ 4000) : n < 2 ^ 8999 := Nat.lt_of_lt_of_le h (Nat.pow_le_pow_right (by decide) (by decide))
/-- the step of both loops -/
theorem fr_nd {t b : Int} (h : b ≠ 0) (hb : b.natAbs < 2 ^ 4000) : dv t b ≠ 0 ∧ (dv t b).natAbs < 2 ^ 8999 := ⟨dv_ne h, bigN (Nat.lt_of_le_of_lt (dv_le h) hb)⟩
end K1

namespace K1
def ab (a : Int) : Int := if a < 0 then -a else a
end K1

namespace K3
structure NoDiv (n d : Int) : Prop where
  is : ∀ e : Int, 2 ≤ e → e < d → Int.fmod n e ≠ 0
def Pr (n : Int) : Prop := 2 ≤ n ∧ ∀ e : Int, 2 ≤ e → e * e ≤ n → Int.fmod n e ≠ 0
noncomputable def isP (n : Int) : Bool := @decide (Pr n) (Classical.propDecidable _)
theorem isP_t {n : Int} (h : Pr n) : isP n = true := @decide_eq_true _ (Classical.propDecidable _) h
theorem isP_f {n : Int} (h : ¬ Pr n) : isP n = false := @decide_eq_false _ (Classical.propDecidable _) h
theorem small {d n : Int} (_h2 : 2 ≤ d) (h : d * d ≤ n) (hn : n ≤ 9973) : d ≤ 99 := by
  rcases (by omega : d ≤ 99 ∨ 100 ≤ d) with e | e
  · exact e
  · have := Int.mul_le_mul e e (by decide) (by omega)
    omega
theorem start (n : Int) : (2 : Int) ≤ 2 ∧ (2 : Int) ≤ 101 ∧ NoDiv n 2 := ⟨by decide, by decide, ⟨fun e h1 h2 => by omega⟩⟩
theorem turn {n d : Int} (h : NoDiv n d) (hm : ¬ Int.fmod n d = 0) (h2 : 2 ≤ d) (hq : d * d ≤ n) (hn : n ≤ 9973) : 2 ≤ d + 1 ∧ d + 1 ≤ 101 ∧ NoDiv n (d + 1) := by
  have s := small h2 hq hn
  refine ⟨by omega, by omega, ⟨fun e h1 h3 => ?_⟩⟩
  rcases (by omega : e < d ∨ e = d) with q | q
  · exact h.is e h1 q
  · rw [q]; exact hm
theorem less {n d : Int} (h2 : 2 ≤ d) (hq : d * d ≤ n) (hn : n ≤ 9973) : (200 - (d + 1)).toNat < (200 - d).toNat := by
  have s := small h2 hq hn
  omega
theorem low {n : Int} (h : n < 2) : false = isP n := by
  exact (isP_f fun h' => by have := h'.1; omega).symm
theorem out {n d : Int} (h : NoDiv n d) (hn : 2 ≤ n) (h2 : 2 ≤ d) (hq : ¬ d * d ≤ n) : true = isP n := by
  refine (isP_t ?_).symm
  refine ⟨hn, fun e h1 h3 => h.is e h1 ?_⟩
  rcases (by omega : e < d ∨ d ≤ e) with q | q
  · exact q
  · have := Int.mul_le_mul q q (by omega) (by omega)
    omega
theorem found {n d : Int} (h2 : 2 ≤ d) (hq : d * d ≤ n) (hm : Int.fmod n d = 0) : false = isP n := by
  exact (isP_f fun h' => h'.2 d h2 hq hm).symm
end K3

namespace K2
/-- the next prime -/
structure Up (n0 n : Int) : Prop where
  le : n ≤ 9973
/-- no divisor at all between 1 and p -/
theorem no_div {p l : Int} (hp : K3.Pr p) (h1 : 1 < l) (h2 : l < p) : Int.fmod p l ≠ 0 := by
  intro h0
  rw [Int.fmod_eq_emod_of_nonneg p (by omega)] at h0
  have hd : p = l * (p / l) := by have := Int.mul_ediv_add_emod p l; omega
  have hq1 : 1 < p / l := by
    rcases (by omega : p / l ≤ 1 ∨ 1 < p / l) with q | q
    · have := Int.mul_le_mul_of_nonneg_left q (by omega : 0 ≤ l)
      omega
    · exact q
  rcases (by omega : l * l ≤ p ∨ p < l * l) with q | q
  · refine hp.2 l (by omega) q ?_
    rw [Int.fmod_eq_emod_of_nonneg p (by omega)]; exact h0
  · have hlt : p / l < l := by
      rcases (by omega : p / l < l ∨ l ≤ p / l) with r | r
      · exact r
      · have := Int.mul_le_mul_of_nonneg_left r (by omega : 0 ≤ l)
        omega
    have hqq : (p / l) * (p / l) ≤ p := by
      have h := Int.mul_le_mul_of_nonneg_right (Int.le_of_lt hlt) (by omega : 0 ≤ p / l)
      omega
    refine hp.2 (p / l) (by omega) hqq ?_
    rw [Int.fmod_eq_emod_of_nonneg p (by omega)]
    apply Int.emod_eq_zero_of_dvd
    exact ⟨l, by rw [Int.mul_comm]; exact hd⟩
/-- the number turned over: the loop's word -/
structure Tn (p a found left : Int) : Prop where
  f0 : 0 ≤ found
  f1 : found < p
  l0 : 1 ≤ left
  l1 : left < p
  eq : (found * a - left) % p = 0
theorem tn_start {p a : Int} (hp : K3.Pr p) (h0 : 0 < a) (h1 : a < p) : Tn p a 1 a :=
  ⟨by decide, by have := hp.1; omega, by omega, h1, by rw [Int.one_mul, Int.sub_self]; exact Int.zero_emod p⟩
theorem tn_turn {p a f l : Int} (hp : K3.Pr p) (h : Tn p a f l) (hl : l ≠ 1) :
    Tn p a (Int.fmod (-f * Int.fdiv p l) p) (Int.fmod p l) := by
  have p2 := hp.1
  have l0 := h.l0
  have hne := no_div hp (by omega : 1 < l) h.l1
  have e0 := h.eq
  have hpos := Int.fmod_nonneg_of_pos p (show 0 < l by omega)
  have hlt := Int.fmod_lt_of_pos p (show 0 < l by omega)
  refine ⟨Int.fmod_nonneg_of_pos _ (by omega), Int.fmod_lt_of_pos _ (by omega), by omega, by have := h.l1; omega, ?_⟩
  have q := Int.mul_fdiv_add_fmod p l
  generalize Int.fdiv p l = d at *
  generalize Int.fmod p l = r at *
  rw [Int.fmod_eq_emod_of_nonneg _ (by omega)]
  -- (-f d mod p) * a - r ≡ -d (f a) - r ≡ -d l - r = -p ≡ 0
  apply Int.emod_eq_zero_of_dvd
  obtain ⟨k, hk⟩ := Int.dvd_of_emod_eq_zero e0
  have m := Int.mul_ediv_add_emod (-f * d) p
  generalize (-f * d) / p = g at *
  generalize (-f * d) % p = v at *
  have hv : v = -f * d - p * g := by omega
  refine ⟨-(g * a) - d * k - 1, ?_⟩
  rw [hv]
  have h1 : f * a = l + p * k := by omega
  have e1 : (-f * d - p * g) * a = -(d * (f * a)) - p * (g * a) := by
    rw [Int.sub_mul]
    have : -f * d * a = -(d * (f * a)) := by
      rw [Int.neg_mul, Int.neg_mul, Int.mul_comm f d, Int.mul_assoc]
    rw [this, Int.mul_assoc]
  rw [e1, h1, Int.mul_add d l (p * k), Int.mul_comm d l]
  have e2 : d * (p * k) = p * (d * k) := by rw [← Int.mul_assoc, Int.mul_comm d p, Int.mul_assoc]
  rw [e2, Int.mul_sub, Int.mul_sub, Int.mul_one, Int.mul_neg]
  omega
theorem tn_less {p a f l : Int} (h : Tn p a f l) : (Int.fmod p l).toNat < l.toNat := by
  have l0 := h.l0
  have hpos := Int.fmod_nonneg_of_pos p (show 0 < l by omega)
  have hlt := Int.fmod_lt_of_pos p (show 0 < l by omega)
  omega
theorem tn_out {p a f l : Int} (h : Tn p a f l) (hl : l = 1) : 0 ≤ f ∧ f < p ∧ (f * a - 1) % p = 0 := by
  refine ⟨h.f0, h.f1, ?_⟩
  have := h.eq
  rw [hl] at this; exact this
end K2

namespace K2
end K2

namespace K6
open HT (lexLt)
/-! ### the order of tuples -/
abbrev vadd (x y : List Int) : List Int := List.zipWith (fun a b => a + b) x y
/-! ### the ranks -/
def rkL (t : List Int) : List Int := t
def rkD (t : List Int) : List Int := t.sum :: t
def rkT (t : List Int) : List Int := t.sum :: t.reverse.map fun x => -x
def wsum (ws t : List Int) : Int := (List.zipWith (fun a b => a * b) t ws).sum
def rkW (ws t : List Int) : List Int := wsum ws t :: t
def zer (n : Nat) : List Int := List.replicate n 0
def Nn (t : List Int) : Prop := ∀ x ∈ t, 0 ≤ x
/-- what the law asks of a rank, for terms of n powers -/
structure OrdM (rk : List Int → List Int) (n : Nat) : Prop where
  add : ∀ a c : List Int, a.length = n → c.length = n → rk (vadd a c) = vadd (rk a) (rk c)
  inj : ∀ a b : List Int, a.length = n → b.length = n → rk a = rk b → a = b
  len : ∀ a b : List Int, a.length = n → b.length = n → (rk a).length = (rk b).length
  pos : ∀ a : List Int, a.length = n → Nn a → a ≠ zer n → lexLt (rk (zer n)) (rk a) = true
/-! ### unknowns taken out -/
/-- of the first k some is not nought in l, all are nought in r -/
structure Out (k : Nat) (l r : List Int) : Prop where
  len : l.length = r.length
  nl : Nn l
  nz : ∃ i, i < k ∧ i < l.length ∧ l.getD i 0 ≠ 0
  zr : ∀ i, i < k → r.getD i 0 = 0
/-- one power alone -/
def only (n at_ : Nat) (p : Int) : List Int := (List.range n).map fun i => if i = at_ then p else 0
end K6

namespace K6
open L2 PySem

/-- a term at v -/
def Trm (H : Hp) (xs : List Int) (v : V) : Prop := ∃ r, v = .ref r ∧ H r = some (.tup (xs.map V.int))
/-- of n powers -/
structure Tm (n : Nat) (xs : List Int) : Prop where
  len : xs.length = n
  nn : Nn xs
  b : ∀ x ∈ xs, x < 10 ^ 31
end K6

namespace K6
open L2 PySem
/-- a term as a key -/
def ky (xs : List Int) : List Key := xs.map Sum.inl
theorem ky_kV (xs : List Int) : (ky xs).map kV = xs.map V.int := by unfold ky; rw [List.map_map]; rfl
/-- a number of a field, as data -/
structure NmD (d : PyData) : Prop where
  lay : d.canLay0 = true
  dep : d.depth ≤ 60
theorem NmD.shaped {d : PyData} (h : NmD d) : SeqAt.shaped d = true := by
  have := h.dep
  unfold SeqAt.shaped
  rw [h.lay, Bool.true_and, decide_eq_true_eq]; omega
theorem NmD.refl {d : PyData} (h : NmD d) : PyData.eqv d d = true := SeqAt.eqv_refl _ h.lay
theorem nmd_int (i : Int) : NmD (.int i) := ⟨rfl, by simp [PyData.depth]⟩
theorem nmd_pair (i j : Int) : NmD (.tuple [.int i, .int j]) := ⟨rfl, by simp [PyData.depth, PyData.depthAll]⟩
mutual
theorem Rds.same {K : PySem.W.Frag} {H H' : Hp} (e : Same H H') : ∀ {v : V} {d : PyData}, Rds K H v d → Rds K H' v d
  | _, _, .non => .non
  | _, _, .bl b => .bl b
  | _, _, .int i => .int i
  | _, _, .str x => .str x
  | _, _, .tup h hs => .tup (e.seqT h) (RdsAll.same e hs)
  | _, _, .lst h hs => .lst (e.seq h) (RdsAll.same e hs)
theorem RdsAll.same {K : PySem.W.Frag} {H H' : Hp} (e : Same H H') : ∀ {vs : List V} {ds : List PyData}, RdsAll K H vs ds → RdsAll K H' vs ds
  | _, _, .nil => .nil
  | _, _, .cons h hs => .cons (Rds.same e h) (RdsAll.same e hs)
end
theorem sqT_updD {K : PySem.W.Frag} {H : Hp} {d a : Addr} {kvs : List (List Key × V)} {o : HO} {xs : List V} (e : H d = some (.dT kvs)) (h : SqT K H a xs) : SqT K (upd H d o) a xs := by
  rcases h with (h | ⟨q, h⟩) | h
  · exact .inl (.inl (by rw [upd_ne (ne_of h e (by intro z; cases z))]; exact h))
  · exact .inl (.inr ⟨q, by rw [upd_ne (ne_of h e (by intro z; cases z))]; exact h⟩)
  · exact .inr h
theorem sqL_updD {K : PySem.W.Frag} {H : Hp} {d a : Addr} {kvs : List (List Key × V)} {o : HO} {xs : List V} (e : H d = some (.dT kvs)) (h : SqL K H a xs) : SqL K (upd H d o) a xs := by
  rcases h with (h | ⟨q, h⟩) | h
  · exact .inl (.inl (by rw [upd_ne (ne_of h e (by intro z; cases z))]; exact h))
  · exact .inl (.inr ⟨q, by rw [upd_ne (ne_of h e (by intro z; cases z))]; exact h⟩)
  · exact .inr h
mutual
theorem Rds.updD {K : PySem.W.Frag} {H : Hp} {d : Addr} {kvs : List (List Key × V)} {o : HO} (e : H d = some (.dT kvs)) : ∀ {v : V} {z : PyData}, Rds K H v z → Rds K (upd H d o) v z
  | _, _, .non => .non
  | _, _, .bl b => .bl b
  | _, _, .int i => .int i
  | _, _, .str x => .str x
  | _, _, .tup h hs => .tup (sqT_updD e h) (RdsAll.updD e hs)
  | _, _, .lst h hs => .lst (sqL_updD e h) (RdsAll.updD e hs)
theorem RdsAll.updD {K : PySem.W.Frag} {H : Hp} {d : Addr} {kvs : List (List Key × V)} {o : HO} (e : H d = some (.dT kvs)) : ∀ {vs : List V} {ds : List PyData}, RdsAll K H vs ds → RdsAll K (upd H d o) vs ds
  | _, _, .nil => .nil
  | _, _, .cons h hs => .cons (Rds.updD e h) (RdsAll.updD e hs)
end
theorem rds_pair {K : PySem.W.Frag} {H : Hp} {r : Addr} {i j : Int} (h : H r = some (.tup [.int i, .int j])) : Rds K H (.ref r) (.tuple [.int i, .int j]) := .tup (SqT.of h) (.cons (.int i) (.cons (.int j) .nil))
end K6

namespace K6
open PySem L2
def top (i : Nat) : Stmt := PySem.Challenge.pw_idealroom_k07_rings.main.body.getD i (.Pass ⟨0, 0, 0, 0⟩)
abbrev s_degree : Stmt := top 8
abbrev s_alone : Stmt := top 9
abbrev s_shared_divisor : Stmt := top 15
abbrev s_is_prime : Stmt := top 16
abbrev s_Field___init__ : Stmt := inClass (top 17) 0
abbrev s_Fractions___init__ : Stmt := inClass (top 18) 0
abbrev s_Fractions_nought : Stmt := inClass (top 18) 1
abbrev s_Fractions_one : Stmt := inClass (top 18) 2
abbrev s_Fractions_made : Stmt := inClass (top 18) 3
abbrev s_Rests___init__ : Stmt := inClass (top 19) 0
abbrev s_Rests_nought : Stmt := inClass (top 19) 1
abbrev s_Rests_one : Stmt := inClass (top 19) 2
abbrev s_Rests_times : Stmt := inClass (top 19) 5
abbrev s_Rests_turned : Stmt := inClass (top 19) 7
abbrev s_Field_over : Stmt := inClass (top 17) 2
abbrev s_Rests_made : Stmt := inClass (top 19) 3
abbrev s_Order_rank : Stmt := inClass (top 21) 0
abbrev s_Degrees_rank : Stmt := inClass (top 22) 0
abbrev s_Tails_rank : Stmt := inClass (top 23) 0
abbrev s_Weights___init__ : Stmt := inClass (top 24) 0
abbrev s_Weights_rank : Stmt := inClass (top 24) 1
abbrev s_Order_fits : Stmt := inClass (top 21) 5
abbrev s_Weights_fits : Stmt := inClass (top 24) 3
abbrev s_Ring___init__ : Stmt := inClass (top 12) 0
abbrev s_Ring_letters : Stmt := inClass (top 12) 1
abbrev s_Ring_unit : Stmt := inClass (top 12) 2
abbrev s_Ring_unknown : Stmt := inClass (top 12) 3
abbrev s_Ring_constant : Stmt := inClass (top 12) 4
abbrev s__law_cell : Stmt := top 26
abbrev s__law_many : Stmt := top 27
abbrev s__law_order : Stmt := top 28
abbrev s__law_weights : Stmt := top 29
abbrev s__law_ring : Stmt := top 30
abbrev s__law_parts : Stmt := top 31
abbrev s__law_good : Stmt := top 32
abbrev s_law : Stmt := top 33
structure Txt (K : PySem.W.Frag) (mg : Str → Option Value) (C_Ring C_Fractions C_Rests C_Order C_Degrees C_Tails C_Weights : Addr) : Prop where
  b_abs : mg "abs" = none
  b_any : mg "any" = none
  b_dict : mg "dict" = none
  b_int : mg "int" = none
  b_isinstance : mg "isinstance" = none
  b_len : mg "len" = none
  b_max : mg "max" = none
  b_min : mg "min" = none
  b_range : mg "range" = none
  b_reversed : mg "reversed" = none
  b_sum : mg "sum" = none
  b_tuple : mg "tuple" = none
  b_zip : mg "zip" = none
  cl_Ring : Cls K C_Ring
  mg_Ring : mg "Ring" = some (.ref C_Ring)
  na_Ring_many : NoAttr K C_Ring "many"
  na_Ring_field : NoAttr K C_Ring "field"
  na_Ring_order : NoAttr K C_Ring "order"
  cl_Fractions : Cls K C_Fractions
  mg_Fractions : mg "Fractions" = some (.ref C_Fractions)
  na_Fractions_prime : NoAttr K C_Fractions "prime"
  cl_Rests : Cls K C_Rests
  mg_Rests : mg "Rests" = some (.ref C_Rests)
  na_Rests_prime : NoAttr K C_Rests "prime"
  cl_Order : Cls K C_Order
  mg_Order : mg "Order" = some (.ref C_Order)
  n0_Order : Mk0 K C_Order
  cl_Degrees : Cls K C_Degrees
  mg_Degrees : mg "Degrees" = some (.ref C_Degrees)
  n0_Degrees : Mk0 K C_Degrees
  cl_Tails : Cls K C_Tails
  mg_Tails : mg "Tails" = some (.ref C_Tails)
  n0_Tails : Mk0 K C_Tails
  cl_Weights : Cls K C_Weights
  mg_Weights : mg "Weights" = some (.ref C_Weights)
  na_Weights_weights : NoAttr K C_Weights "weights"
  g_GREATEST_PRIME : ∃ tk, mg "GREATEST_PRIME" = some (.int 9973 tk)
  g_LETTERS : ∃ tk, mg "LETTERS" = some (.str "xyzt" tk)
  ktt : PySem.W.kitOne K (.type "tuple") (.type "tuple") = some true
  kdd : PySem.W.kitOne K (.type "dict") (.type "dict") = some true
theorem nd_place_at_power : (["place", "at", "power"] : List Str).Nodup := by decide +kernel
theorem nd_power : (["power"] : List Str).Nodup := by decide +kernel
theorem nd_weight : (["weight"] : List Str).Nodup := by decide +kernel
theorem nd_power_weight : (["power", "weight"] : List Str).Nodup := by decide +kernel
theorem nd__law_at__law_cell_here : (["_law_at", "_law_cell_here"] : List Str).Nodup := by decide +kernel
theorem nd__law_at : (["_law_at"] : List Str).Nodup := by decide +kernel
theorem nd__law_k__law_at : (["_law_k", "_law_at"] : List Str).Nodup := by decide +kernel
theorem uOne {k : Nat} {A : Around} (r : Room k A) : A.units + 1 < cLine := by have := r.units; omega
theorem pe_globS {X : Cx} {x : Str} {i : Str} {pos : Pos} (hm : ∃ tk, X.mg x = some (.str i tk)) (hg : Gl X x) (hd : (x == ("__debug__" : Str)) = false := by decide) : PE X (.Name x pos) (tC (.str i)) := by
  obtain ⟨tk, e⟩ := hm
  exact pe_glob hg e ⟨tk, rfl⟩ hd
end K6
namespace K6
open PySem L2

open K1 K2 K3
def spShared : Sp := fun vs H Q _ => ∃ (a b : Int), vs = [.int a, .int b] ∧ 0 ≤ a ∧ 0 ≤ b ∧ Q (.int (gI a b)) H
def spField (K : PySem.W.Frag) : Sp := fun vs H Q _ => ∃ (p C dx : Addr) (v : V), vs = [.ref p, v] ∧ H p = some (.ins C dx []) ∧ Cls K C ∧ NoAttr K C "prime" ∧ Q .non (upd H p (.ins C dx [("prime", v)]))
def spFracInit (CF : Addr) : Sp := fun vs H Q _ => ∃ (p dx : Addr), vs = [.ref p] ∧ H p = some (.ins CF dx []) ∧ Q .non (upd H p (.ins CF dx [("prime", .int 0)]))
def spMade (NO : Addr) : Sp := fun vs H Q E => ∃ (p : V) (t b : Int), vs = [p, .int t, .int b] ∧ b.natAbs < 2 ^ 4000 ∧
  ((b ≠ 0 ∧ ∀ r H', Same H H' → H' r = some (.tup [.int (fT t b), .int (fB t b)]) → Q (.ref r) H') ∨ (b = 0 ∧ E (.ref NO) none H))
def cellOf (ns : List Int) (k : Int) : Int := ns.getD k.toNat 0
def spCell (K : PySem.W.Frag) : Sp := fun vs H Q _ => ∃ (a : Addr) (ns : List Int) (k : Int), vs = [.ref a, .int k] ∧ SqL K H a (ns.map V.int) ∧ 0 ≤ k ∧ Q (.int (cellOf ns k)) H
theorem atI_int {ns : List Int} {k : Int} (h0 : 0 ≤ k) (h : k < (ns.length : Int)) : atI (ns.map V.int) k = some (.int (cellOf ns k)) := by
  have hk : k.toNat < ns.length := by omega
  have ek : k = ((k.toNat : Nat) : Int) := by omega
  have q : atI (ns.map V.int) ((k.toNat : Nat) : Int) = some (.int ns[k.toNat]) := atI_nat (by rw [List.getElem?_map, List.getElem?_eq_getElem hk] <;> rfl)
  rw [← ek] at q
  rw [q]
  unfold cellOf
  rw [List.getD_eq_getElem?_getD, List.getElem?_eq_getElem hk]; rfl
def spPrime : Sp := fun vs H Q _ => ∃ (n : Int), vs = [.int n] ∧ n ≤ 9973 ∧ Q (.bl (isP n)) H
def spRests (CR NP : Addr) : Sp := fun vs H Q E => ∃ (p dx : Addr) (n : Int), vs = [.ref p, .int n] ∧ H p = some (.ins CR dx []) ∧
  ((n ≤ 9973 ∧ isP n = true ∧ Q .non (upd H p (.ins CR dx [("prime", .int n)]))) ∨ ((9973 < n ∨ isP n = false) ∧ E (.ref NP) none H))
theorem sq_small {d n : Int} (h2 : 2 ≤ d) (h : d ≤ 101) : -(2 ^ 64) < d ∧ d < 2 ^ 64 := by omega

def NumF (CF : Addr) (H : Hp) (p dx : Addr) : Prop := H p = some (.ins CF dx [("prime", .int 0)])
def Pair (H : Hp) (r : Addr) (x y : Int) : Prop := H r = some (.tup [.int x, .int y])
def NumR (CR : Addr) (H : Hp) (p dx : Addr) (n : Int) : Prop := H p = some (.ins CR dx [("prime", .int n)]) ∧ Pr n ∧ n ≤ 9973
theorem no_R (m : Str) (n : Int) (h : ¬ m = "prime") : ([("prime", V.int n)] : List (Str × V)).lookup m = none := by
  have e : (m == (Str.ofString "prime")) = false := by
    cases q : (m == (Str.ofString "prime")) with
    | true => exact absurd (eq_of_beq q) h
    | false => rfl
  simp only [List.lookup, e]
def In (n a : Int) : Prop := 0 ≤ a ∧ a < n
def spC (v : V) : Sp := fun vs H Q _ => ∃ (p : V), vs = [p] ∧ Q v H
/-- of two rests a third one -/
def spBinR (CR : Addr) (g : Int → Int → Int → Int) : Sp := fun vs H Q _ => ∃ (p dx : Addr) (n a b : Int), vs = [.ref p, .int a, .int b] ∧ NumR CR H p dx n ∧ In n a ∧ In n b ∧ Q (.int (g n a b)) H
def Inv1 (n a f : Int) : Prop := 0 ≤ f ∧ f < n ∧ (f * a - 1) % n = 0
def spTuR (CR NO : Addr) : Sp := fun vs H Q E => ∃ (p dx : Addr) (n a : Int), vs = [.ref p, .int a] ∧ NumR CR H p dx n ∧ In n a ∧ ((a ≠ 0 ∧ ∀ f, Inv1 n a f → Q (.int f) H) ∨ (a = 0 ∧ E (.ref NO) none H))
def spOvR (CR NO : Addr) : Sp := fun vs H Q E => ∃ (p dx : Addr) (n a b : Int), vs = [.ref p, .int a, .int b] ∧ NumR CR H p dx n ∧ In n a ∧ In n b ∧ ((b ≠ 0 ∧ ∀ f, Inv1 n b f → Q (.int (a * f % n)) H) ∨ (b = 0 ∧ E (.ref NO) none H))
def spMdR (CR NO : Addr) : Sp := fun vs H Q E => ∃ (p dx : Addr) (n t b : Int), vs = [.ref p, .int t, .int b] ∧ NumR CR H p dx n ∧ ((b % n ≠ 0 ∧ ∀ f, Inv1 n (b % n) f → Q (.int (t % n * f % n)) H) ∨ (b % n = 0 ∧ E (.ref NO) none H))
theorem In.mod (t : Int) {n : Int} (h : Pr n) : In n (t % n) := by
  have := h.1
  exact ⟨Int.emod_nonneg _ (by omega), Int.emod_lt_of_pos _ (by omega)⟩

def spPair (x y : Int) : Sp := fun vs H Q _ => ∃ (p : V), vs = [p] ∧ ∀ r H', Same H H' → H' r = some (.tup [.int x, .int y]) → Q (.ref r) H'
/-- a term's powers -/
structure Pws (xs : List Int) : Prop where
  len : xs.length ≤ 100
  ne : xs ≠ []
  nn : Nn xs
  hi : ∀ x ∈ xs, x < 10 ^ 31
theorem mem_or (xs : List Int) (i : Nat) : xs.getD i 0 = 0 ∨ xs.getD i 0 ∈ xs := by
  rw [List.getD_eq_getElem?_getD]
  cases q : xs[i]? with
  | none => exact .inl rfl
  | some v => exact .inr (List.mem_of_getElem? q)
theorem Nn.getD {xs : List Int} (h : Nn xs) (i : Nat) : 0 ≤ xs.getD i 0 := by
  rcases mem_or xs i with q | q
  · omega
  · exact h _ q
theorem bits {xs : List Int} (h1 : Nn xs) (h2 : ∀ x ∈ xs, x < 10 ^ 31) (i : Nat) : (xs.getD i 0).natAbs < 2 ^ 4000 := by
  have h0 := h1.getD i
  have h3 : (xs.getD i 0).natAbs < 2 ^ 110 := by
    have e : ((2 ^ 110 : Nat) : Int) = 2 ^ 110 := by decide
    have l : (10 : Int) ^ 31 < 2 ^ 110 := by decide
    rcases mem_or xs i with q | q
    · omega
    · have := h2 _ q; omega
  exact Nat.lt_of_lt_of_le h3 (Nat.pow_le_pow_right (by decide) (by decide))

structure OrdC (C : Addr) (At : Hp → Addr → Prop) : Prop where
  same : ∀ {H H' : Hp} {p : Addr}, Same H H' → At H p → At H' p
  ins : ∀ {H : Hp} {p : Addr}, At H p → ∃ dx fs, H p = some (.ins C dx fs) ∧ ∀ m : Str, ¬ m = "weights" → fs.lookup m = none
def AtO (C : Addr) (H : Hp) (p : Addr) : Prop := ∃ dx, H p = some (.ins C dx [])
def AtW (C : Addr) (ws : List Int) (H : Hp) (p : Addr) : Prop := ∃ dx wt, H p = some (.ins C dx [("weights", .ref wt)]) ∧ H wt = some (.tup (ws.map V.int))

theorem no_W (v : V) (m : Str) (h : ¬ m = "weights") : ([("weights", v)] : List (Str × V)).lookup m = none := by
  have e : (m == (Str.ofString "weights")) = false := by
    cases q : (m == (Str.ofString "weights")) with
    | true => exact absurd (eq_of_beq q) h
    | false => rfl
  simp only [List.lookup, e]
theorem ordcO (C : Addr) : OrdC C (AtO C) := ⟨fun e ⟨dx, h⟩ => ⟨dx, e _ _ h⟩, fun ⟨dx, h⟩ => ⟨dx, [], h, fun _ _ => rfl⟩⟩
theorem ordcW (C : Addr) (ws : List Int) : OrdC C (AtW C ws) := ⟨fun e ⟨dx, wt, h1, h2⟩ => ⟨dx, wt, e _ _ h1, e _ _ h2⟩, fun ⟨dx, wt, h, _⟩ => ⟨dx, _, h, no_W _⟩⟩
def spDeg (K : PySem.W.Frag) : Sp := fun vs H Q _ => ∃ (a : Addr) (xs : List Int), vs = [.ref a] ∧ SqT K H a (xs.map V.int) ∧ Q (.int xs.sum) H
def spRank (At : Hp → Addr → Prop) (rk : List Int → List Int) : Sp := fun vs H Q _ => ∃ (p t : Addr) (xs : List Int), vs = [.ref p, .ref t] ∧ At H p ∧ H t = some (.tup (xs.map V.int)) ∧ Pws xs ∧ ∀ r H', Same H H' → H' r = some (.tup ((rk xs).map V.int)) → Q (.ref r) H'
def spWInit (K : PySem.W.Frag) (C NO : Addr) : Sp := fun vs H Q E => ∃ (p dx l : Addr) (ws : List Int), vs = [.ref p, .ref l] ∧ H p = some (.ins C dx []) ∧ SqL K H l (ws.map V.int) ∧ ws.length ≤ 100 ∧
  ((Nn ws ∧ ∀ wt H', H' p = some (.ins C dx [("weights", .ref wt)]) → H' wt = some (.tup (ws.map V.int)) → (∀ b o, H b = some o → b ≠ p → H' b = some o) → Q .non H') ∨ (¬ Nn ws ∧ ∀ H', Same H H' → E (.ref NO) none H'))
def AtK (CO CD CT CW : Addr) (k : Int) (ws : List Int) : Hp → Addr → Prop := if k = 0 then AtO CO else if k = 1 then AtO CD else if k = 2 then AtO CT else AtW CW ws
def spOrder (K : PySem.W.Frag) (CO CD CT CW : Addr) : Sp := fun vs H Q _ => ∃ (k : Int) (l : Addr) (ws : List Int), vs = [.int k, .ref l] ∧ SqL K H l (ws.map V.int) ∧ ws.length ≤ 100 ∧ Nn ws ∧ ∀ p H', Same H H' → AtK CO CD CT CW k ws H' p → Q (.ref p) H'
noncomputable instance instDecNn (ws : List Int) : Decidable (Nn ws) := Classical.propDecidable _
theorem any_neg (ws : List Int) : ((List.range ws.length).map fun i => decide (ws.getD i 0 < 0)).any id = !decide (Nn ws) := by
  by_cases h : Nn ws
  · rw [decide_eq_true h, Bool.not_true, List.any_eq_false]
    intro b hb
    obtain ⟨i, _, rfl⟩ := List.mem_map.mp hb
    have := h.getD i
    show decide (ws.getD i 0 < 0) ≠ true
    rw [decide_eq_false (by omega)]
    decide
  · rw [decide_eq_false h, Bool.not_false, List.any_eq_true]
    have : ∃ x ∈ ws, x < 0 := Classical.byContradiction fun z => h fun x hx => by
      rcases (by omega : x < 0 ∨ 0 ≤ x) with q | q
      · exact absurd ⟨x, hx, q⟩ z
      · exact q
    obtain ⟨x, hx, q⟩ := this
    obtain ⟨i, hi, e⟩ := List.mem_iff_getElem.mp hx
    exact ⟨_, List.mem_map.mpr ⟨i, List.mem_range.mpr hi, rfl⟩, by simp [List.getD, hi, e, q]⟩


def spFits (At : Hp → Addr → Prop) (b : Int → Bool) : Sp := fun vs H Q _ => ∃ (p : Addr) (k : Int), vs = [.ref p, .int k] ∧ At H p ∧ ∀ H', Same H H' → Q (.bl (b k)) H'
def rkk (kd : Int) (ws xs : List Int) : List Int := if kd = 0 then rkL xs else if kd = 3 then rkW ws xs else if kd = 1 then rkD xs else rkT xs

theorem seq_mid {a r : TS} {D : Ends} {σ : St} {H : Hp} (R : St → Hp → Prop) (hu : ∀ σ' H', R σ' H' → r D σ' H') (hc : ∀ N : St → Hp → Prop, (∀ σ' H', R σ' H' → N σ' H') → a { D with nx := N } σ H) : tSeq a r D σ H := by
  unfold tSeq
  exact hc _ hu

/-- a method that tells a number -/
def spNum (K : PySem.W.Frag) (At : Hp → Addr → Prop) (z : PyData) : Sp := fun vs H Q _ => ∃ (p : Addr), vs = [.ref p] ∧ At H p ∧ ∀ v H', Same H H' → Rds K H' v z → Q v H'
def spMd (K : PySem.W.Frag) (At : Hp → Addr → Prop) : Sp := fun vs H Q _ => ∃ (p : Addr) (t : Int), vs = [.ref p, .int t, .int 1] ∧ At H p ∧ ∀ v H' d, Same H H' → Rds K H' v d → NmD d → Q v H'
def AtF (CF : Addr) (H : Hp) (p : Addr) : Prop := ∃ dx, H p = some (.ins CF dx [("prime", .int 0)])
def AtR (CR : Addr) (n : Int) (H : Hp) (p : Addr) : Prop := ∃ dx, NumR CR H p dx n
structure FldB (P : Program) (w : World) (K : PySem.W.Frag) (mg : Str → Option Value) (base : Heap) (C : Addr) (At : Hp → Addr → Prop) (n : Int) (z0 z1 : PyData) : Prop where
  same : ∀ {H H' : Hp} {p : Addr}, Same H H' → At H p → At H' p
  ins : ∀ {H : Hp} {p : Addr}, At H p → ∃ dx, H p = some (.ins C dx [("prime", .int n)])
  nought : MCal P w K mg base CX0 1 C "nought" ["self"] [] (spNum K At z0)
  one : MCal P w K mg base CX0 1 C "one" ["self"] [] (spNum K At z1)
  made : ∃ tk, MCal P w K mg base (CXe P w) 4 C "made" ["self", "top", "bottom"] [.int 1 tk] (spMd K At)
  cl : Cls K C
  na : NoAttr K C "prime"
  n0 : NmD z0
  n1 : NmD z1
  ne : PyData.eqv z1 z0 = false
theorem no_P (m : Str) (n : Int) (h : ¬ m = "prime") : ([("prime", V.int n)] : List (Str × V)).lookup m = none := no_R m n h
/-- n = 0: the fractions -/
def AtN (CF CR : Addr) (n : Int) : Hp → Addr → Prop := if n = 0 then AtF CF else AtR CR n
structure OrdB (P : Program) (w : World) (K : PySem.W.Frag) (mg : Str → Option Value) (base : Heap) (C : Addr) (At : Hp → Addr → Prop) (rk : List Int → List Int) (fb : Int → Bool) : Prop where
  oC : OrdC C At
  rank : MCal P w K mg base CX0 3 C "rank" ["self", "term"] [] (spRank At rk)
  fits : MCal P w K mg base CX0 1 C "fits" ["self", "many"] [] (spFits At fb)
/-- the ring's object -/
def RgO (CG : Addr) (dx : Addr) (m : Int) (pf po : Addr) : HO := .ins CG dx [("many", .int m), ("field", .ref pf), ("order", .ref po)]
def RgAt (CG : Addr) (H : Hp) (r : Addr) (m : Int) (pf po : Addr) : Prop := ∃ dx, H r = some (RgO CG dx m pf po)
theorem no_G {m : Int} {pf po : Addr} (x : Str) (h1 : ¬ x = "many") (h2 : ¬ x = "field") (h3 : ¬ x = "order") : ([("many", V.int m), ("field", .ref pf), ("order", .ref po)] : List (Str × V)).lookup x = none := by
  have e : ∀ y : Str, ¬ x = y → (x == y) = false := fun y h => by
    cases q : (x == y) with
    | true => exact absurd (eq_of_beq q) h
    | false => rfl
  simp only [List.lookup, e _ h1, e _ h2, e _ h3]
def fbK (kd : Int) (ws : List Int) (m : Int) : Bool := if kd = 3 then decide ((ws.length : Int) = m) else true
def okR (kd : Int) (ws : List Int) (m : Int) : Prop := 1 ≤ m ∧ m ≤ 4 ∧ fbK kd ws m = true
def spRgInit (CG NR CO CD CT CW : Addr) : Sp := fun vs H Q E => ∃ (r dx : Addr) (m : Int) (pf po : Addr) (kd : Int) (ws : List Int), vs = [.ref r, .int m, .ref pf, .ref po] ∧ H r = some (.ins CG dx []) ∧ 0 ≤ kd ∧ kd < 4 ∧ Nn ws ∧ (∀ x ∈ ws, x < 10 ^ 31) ∧ AtK CO CD CT CW kd ws H po ∧
  ((okR kd ws m ∧ ∀ H', H' r = some (RgO CG dx m pf po) → (∀ b o, H b = some o → b ≠ r → H' b = some o) → Q .non H') ∨ (¬ okR kd ws m ∧ ∀ H', Same H H' → E (.ref NR) none H'))
def spAlone : Sp := fun vs H Q _ => ∃ (m a p : Int), vs = [.int m, .int a, .int p] ∧ 1 ≤ m ∧ m ≤ 10 ∧ 0 ≤ a ∧ ∀ r H', Same H H' → H' r = some (.tup ((only m.toNat a.toNat p).map V.int)) → Q (.ref r) H'
def spLetters (CG : Addr) : Sp := fun vs H Q _ => ∃ (r : Addr) (m : Int) (pf po : Addr), vs = [.ref r] ∧ RgAt CG H r m pf po ∧ 1 ≤ m ∧ m ≤ 4 ∧ Q (.str (cutS "xyzt" none (some m))) H
theorem cut_len {m : Int} (h1 : 1 ≤ m) (h2 : m ≤ 4) : (cutS "xyzt" none (some m)).length ≤ sizeLine := by
  rcases (by omega : m = 1 ∨ m = 2 ∨ m = 3 ∨ m = 4) with rfl | rfl | rfl | rfl <;> decide +kernel
theorem len_xyzt : ((("xyzt" : Str).length : Nat) : Int) = 4 := by decide +kernel
theorem zer_rep (n : Nat) : (List.replicate n [V.int 0]).flatten = (zer n).map V.int := by unfold zer; rw [List.map_replicate]; simp
def spUnit (CG : Addr) : Sp := fun vs H Q _ => ∃ (r : Addr) (m : Int) (pf po : Addr), vs = [.ref r] ∧ RgAt CG H r m pf po ∧ 1 ≤ m ∧ m ≤ 4 ∧ ∀ t H', Same H H' → H' t = some (.tup ((zer m.toNat).map V.int)) → Q (.ref t) H'
def spUnk (K : PySem.W.Frag) (CG CF CR : Addr) (z1 : Int → PyData) : Sp := fun vs H Q _ => ∃ (r : Addr) (m a : Int) (pf po : Addr) (n : Int), vs = [.ref r, .int a] ∧ RgAt CG H r m pf po ∧ 1 ≤ m ∧ m ≤ 4 ∧ 0 ≤ a ∧ AtN CF CR n H pf ∧ n ≤ 9973 ∧ (n = 0 ∨ Pr n) ∧
  ∀ d H' v, H d = none → Same H H' → H' d = some (.dT [(ky (only m.toNat a.toNat 1), v)]) → Rds K H' v (z1 n) → Q (.ref d) H'
def spCon (K : PySem.W.Frag) (CG CF CR : Addr) (z0 : Int → PyData) : Sp := fun vs H Q _ => ∃ (r : Addr) (m : Int) (v : V) (dn : PyData) (pf po : Addr) (n : Int), vs = [.ref r, v] ∧ RgAt CG H r m pf po ∧ 1 ≤ m ∧ m ≤ 4 ∧ AtN CF CR n H pf ∧ n ≤ 9973 ∧ (n = 0 ∨ Pr n) ∧ Rds K H v dn ∧ NmD dn ∧
  (PyData.eqv dn (z0 n) = true → ∀ d H', H d = none → Same H H' → H' d = some (.dT []) → Q (.ref d) H') ∧ (PyData.eqv dn (z0 n) = false → ∀ d H', H d = none → Same H H' → H' d = some (.dT [(ky (zer m.toNat), v)]) → Q (.ref d) H')
def z0N (n : Int) : PyData := if n = 0 then .tuple [.int 0, .int 1] else .int 0
def z1N (n : Int) : PyData := if n = 0 then .tuple [.int 1, .int 1] else .int 1

def manyF (c : Int) : Int := if c % 9 = 5 then c % (2 * 10 ^ (Int.toNat 40)) - 10 ^ (Int.toNat 40) else c / 9 % 12 - 3
def spMany : Sp := fun vs H Q _ => ∃ (c : Int), vs = [.int c] ∧ Q (.int (manyF c)) H
def mx0 (i : Int) : Int := if i > 0 then i else 0
def cnt0 (m : Int) : Int := mx0 (if 8 < m then 8 else m)
def cntG (c m : Int) : Int := if c / 3 % 3 = 2 then mx0 (cnt0 m + c / 9 % 5 - 2) else cnt0 m
def wsG (c m : Int) : List Int := (List.range (cntG c m).toNat).map fun i : Nat => c / 5 % 7 + (0 + (i : Int))
theorem cntG_b (c m : Int) : 0 ≤ cntG c m ∧ cntG c m ≤ 12 := by unfold cntG cnt0 mx0; split <;> (split <;> (try split) <;> omega)
theorem wsG_ok (c m : Int) : (wsG c m).length ≤ 12 ∧ Nn (wsG c m) ∧ ∀ x ∈ wsG c m, x < 10 ^ 31 := by
  have := cntG_b c m
  refine ⟨by simp [wsG]; omega, fun x hx => ?_, fun x hx => ?_⟩ <;> (obtain ⟨i, hi, rfl⟩ := List.mem_map.mp hx; rw [List.mem_range] at hi; omega)
def spWts : Sp := fun vs H Q _ => ∃ (c m : Int), vs = [.int c, .int m] ∧ ∀ (D : Addr) (H' : Hp), H D = none → Same H H' → H' D = some (.lst ((wsG c m).map V.int)) → Q (.ref D) H'
def spRing (CG CO CD CT CW : Addr) : Sp := fun vs H Q _ => ∃ (m : Int) (pf po : Addr) (kd : Int) (ws : List Int), vs = [.int m, .ref pf, .ref po] ∧ 0 ≤ kd ∧ kd < 4 ∧ Nn ws ∧ (∀ x ∈ ws, x < 10 ^ 31) ∧ AtK CO CD CT CW kd ws H po ∧
  (okR kd ws m → ∀ r H', Same H H' → RgAt CG H' r m pf po → Q (.ref r) H') ∧ (¬ okR kd ws m → ∀ H', Same H H' → Q .non H')
def spParts (K : PySem.W.Frag) : Sp := fun vs H Q _ => ∃ (d t : Addr) (xs : List Int) (v1 v2 : V) (dn : PyData), vs = [.ref d, .ref t, v2] ∧ H d = some (.dT [(ky xs, v1)]) ∧ H t = some (.tup (xs.map V.int)) ∧ Rds K H v1 dn ∧ Rds K H v2 dn ∧ NmD dn ∧ ∀ H', Same H H' → Q (.bl true) H'
theorem range_compN {mp : List (Option Nat)} {ta : TA} {g : TG} {tc : TT} {te : TE} {σ : St} {H H1 : Hp} {Q : VK} (n : Int) (Sv : St → Prop) (p : Nat → Bool) (f : Nat → V) (hn0 : 0 ≤ n) (hn : n ≤ 1000) (hta : ∀ R, R [.int n] H1 → ta σ H R) (h0 : Sv (st0 mp σ))
    (step : ∀ (i : Nat) σ' H2, (i : Int) < n → Sv σ' → Same H1 H2 → ∀ (Ny : V → St → Hp → Prop) (Nn : St → Hp → Prop), (∀ σ2 H5, Sv σ2 → Same H2 H5 → p i = true → Ny (f i) σ2 H5) → (∀ σ2 H4, Sv σ2 → Same H2 H4 → p i = false → Nn σ2 H4) →
      g (.int (0 + (i : Int))) σ' H2 fun σ2 H3 => tc σ2 H3 fun b H4 => if b = true then te σ2 H4 fun v H5 => Ny v σ2 H5 else Nn σ2 H4)
    (hQ : ∀ D H', H1 D = none → Same H1 H' → H' D = some (.lst (((List.range n.toNat).filter p).map f)) → Q (.ref D) H') : tComp mp (iRng1 ta) g tc te σ H Q := by
  unfold tComp
  refine hta _ ⟨n, rfl, by omega, by omega, fun D hD => ?_⟩
  refine comp_vals (walk_range 0 n.toNat) hD (Nat.le_trans (show n.toNat ≤ 1000 by omega) (by rw [sizeLine_eq]; decide)) Sv p f h0 ?_ fun H' e hL => hQ D H' hD e hL
  rintro i v σ' H2 hi hs e rfl Ny Nn hy hn'
  exact step i σ' H2 (by omega) hs e Ny Nn hy hn'
theorem same_thaw {H H1 : Hp} {d : Addr} {o : Obj} {u : HO} (h0 : H d = some u) (e : Same (upd H d (.frz o u)) H1) : Same H (upd H1 d u) := fun b q hb => by
  by_cases z : b = d
  · subst z; rw [upd_same, ← h0]; exact hb
  · rw [upd_ne z]; exact e b q (by rw [upd_ne z]; exact hb)
theorem walk_dkey {H1 : Hp} {d : Addr} {o : Obj} {kvs : List (List Key × V)} (h : FzD H1 d o kvs) : Walk (ItK d o kvs) H1 kvs.length (fun i x H => ∃ b k v, kvs[i]? = some (k, v) ∧ H b = some (.tup (k.map kV)) ∧ x = .ref b) :=
  ⟨fun i H' e hi => ⟨e _ _ h, hi⟩, fun H' e => ⟨e _ _ h, Nat.le_refl _⟩, fun i H' x H2 e hi y => by
    obtain ⟨rfl, q⟩ := y
    exact ⟨Same.refl _, q⟩⟩
theorem eq1 (k : List Key) {d : PyData} (h : NmD d) : eqKD [(k, d)] [(k, d)] = true := by
  simp [eqKD, findKD, h.refl]

theorem tup_comp {K : PySem.W.Frag} {mp : List (Option Nat)} {ta : TA} {g : TG} {te : TE} {σ : St} {H : Hp} {Q : VK} (n : Int) (Sv : St → Prop) (f : Nat → Int) (hn0 : 0 ≤ n) (hn : n ≤ 1000) (hta : ∀ R, R [.int n] H → ta σ H R) (h0 : Sv (st0 mp σ))
    (step : ∀ (i : Nat) σ' H2, (i : Int) < n → Sv σ' → Same H H2 → ∀ (Ny : V → St → Hp → Prop), (∀ σ2, Sv σ2 → Ny (.int (f i)) σ2 H2) → g (.int (0 + (i : Int))) σ' H2 fun σ2 H3 => te σ2 H3 fun v H5 => Ny v σ2 H5)
    (hQ : ∀ l H', Same H H' → H' l = some (.tup (((List.range n.toNat).map f).map V.int)) → Q (.ref l) H') : tCB (rTupleOf K) (tCons (tComp mp (iRng1 ta) g tYes te) tNil) σ H Q := by
  show tComp _ _ _ _ _ _ _ _
  refine range_comp (H1 := H) n Sv (fun _ => true) (fun i => .int (f i)) hn0 hn hta h0 ?_ fun D H' e hL => ?_
  · intro i σ' H2 hi hs e Ny Nn hy hn
    have q := step i σ' H2 hi hs e Ny (fun σ2 h2 => hy σ2 H2 h2 (Same.refl _) rfl)
    unfold tYes
    simp only [if_true]
    exact q
  rw [List.filter_eq_self.mpr (fun _ _ => rfl)] at hL
  refine ⟨D, _, rfl, .inl ⟨SqL.of hL, fun l hl => hQ l _ (e.updR (e.free hl)) ?_⟩⟩
  rw [upd_same, List.map_map]
  rfl
theorem zer_range (n : Nat) : (List.range n).map (fun _ => (0 : Int)) = zer n := by
  unfold zer; rw [List.map_const', List.length_range]
def spGood (CG CF CR CO CD CT CW : Addr) : Sp := fun vs H Q _ => ∃ (r : Addr) (m : Int) (pf po : Addr) (c : Int) (kd : Int) (ws : List Int) (n : Int), vs = [.ref r, .int m, .ref pf, .ref po, .int c] ∧ 0 ≤ kd ∧ kd < 4 ∧ Nn ws ∧ (∀ x ∈ ws, x < 10 ^ 31) ∧ n ≤ 9973 ∧ (n = 0 ∨ Pr n) ∧ AtK CO CD CT CW kd ws H po ∧ AtN CF CR n H pf ∧ RgAt CG H r m pf po ∧ 1 ≤ m ∧ m ≤ 4 ∧ ∀ H', Same H H' → Q (.bl true) H'

def spRankA (CW : Addr) : Sp := fun vs H Q E => ∃ ws : List Int, (Nn ws ∧ ∀ x ∈ ws, x < 10 ^ 31) ∧ spRank (AtW CW ws) (rkW ws) vs H Q E
theorem FnOk.exw {P : Program} {w : World} {K : PySem.W.Frag} {mg : Str → Option Value} {base : Heap} {CX : CXT} {k : Nat} {f : Addr} {fd : FuncData} {ps : List Str} {α : Type} {c : α → Prop} {sp : α → Sp} (F : ∀ a, c a → FnOk P w K mg base CX k f fd ps (sp a)) :
    FnOk P w K mg base CX k f fd ps (fun vs H Q E => ∃ a, c a ∧ sp a vs H Q E) :=
  ⟨fun vs H Q E ⟨a, ha, h⟩ => (F a ha).len vs H Q E h, fun A outer s H args us vs Q E hr he hb hv ⟨a, ha, h⟩ => (F a ha).run A outer s H args us vs Q E hr he hb hv h⟩
theorem pr_small {n : Int} (h2 : 2 ≤ n) (hn : n ≤ 9973) (h : ∀ k : Fin 98, ((k.val : Int) + 2) * ((k.val : Int) + 2) ≤ n → Int.fmod n ((k.val : Int) + 2) ≠ 0) : Pr n := by
  refine ⟨h2, fun e h1 hq => ?_⟩
  have s := small h1 hq hn
  have q := h ⟨(e - 2).toNat, by omega⟩
  have ee : ((((⟨(e - 2).toNat, by omega⟩ : Fin 98).val : Nat) : Int)) + 2 = e := by
    show ((e - 2).toNat : Int) + 2 = e
    omega
  rw [ee] at q
  exact q hq
theorem five_at (c : Int) : ∃ n : Int, atI [V.int 2, V.int 3, V.int 5, V.int 97, V.int 9973] (c / 4 % 5) = some (.int n) ∧ Pr n ∧ n ≤ 9973 := by
  rcases (by omega : c / 4 % 5 = 0 ∨ c / 4 % 5 = 1 ∨ c / 4 % 5 = 2 ∨ c / 4 % 5 = 3 ∨ c / 4 % 5 = 4) with h | h | h | h | h <;> rw [h]
  · exact ⟨2, rfl, pr_small (by decide) (by decide) (by decide +kernel), by decide⟩
  · exact ⟨3, rfl, pr_small (by decide) (by decide) (by decide +kernel), by decide⟩
  · exact ⟨5, rfl, pr_small (by decide) (by decide) (by decide +kernel), by decide⟩
  · exact ⟨97, rfl, pr_small (by decide) (by decide) (by decide +kernel), by decide⟩
  · exact ⟨9973, rfl, pr_small (by decide) (by decide) (by decide +kernel), by decide⟩
theorem atW_updL {CW : Addr} {ws : List Int} {H : Hp} {p D : Addr} {ys : List V} {o : HO} (hD : H D = some (.lst ys)) : AtW CW ws H p → AtW CW ws (upd H D o) p := fun ⟨dx, wt, h1, h2⟩ =>
  ⟨dx, wt, by rw [upd_ne (ne_of h1 hD (by intro z; cases z))]; exact h1, by rw [upd_ne (ne_of h2 hD (by intro z; cases z))]; exact h2⟩
def mkF (m : Int) : List Int := upFrom 1 (cnt0 m + 1 - 1).toNat
theorem mkF_pws {m : Int} (h : 0 < m) : Pws (mkF m) := by
  have hc : 1 ≤ cnt0 m ∧ cnt0 m ≤ 8 := by unfold cnt0 mx0; split <;> (try split) <;> omega
  refine ⟨by simp [mkF, upFrom]; omega, fun z => ?_, fun x hx => ?_, fun x hx => ?_⟩
  · have := congrArg List.length z; simp [mkF, upFrom] at this; omega
  · obtain ⟨i, hi, rfl⟩ := List.mem_map.mp hx; omega
  · obtain ⟨i, hi, rfl⟩ := List.mem_map.mp hx; rw [List.mem_range] at hi; omega
theorem cnt0_b (m : Int) : 0 ≤ cnt0 m ∧ cnt0 m ≤ 8 := by unfold cnt0 mx0; split <;> (try split) <;> omega
def spLaw (K : PySem.W.Frag) : Sp := fun vs H Q _ => ∃ (a : Addr) (ns : List Int), vs = [.ref a] ∧ SqL K H a (ns.map V.int) ∧ ns.length ≤ 63 ∧ ∀ H', Q (.bl true) H'

theorem fldB_F {P : Program} {w : World} {K : PySem.W.Frag} {mg : Str → Option Value} {base : Heap} {CF CR : Addr} {tk : Tok} (cl : Cls K CF) (na : NoAttr K CF "prime")
    (h1 : MCal P w K mg base CX0 1 CF "nought" ["self"] [] (spNum K (AtF CF) (.tuple [.int 0, .int 1]))) (h2 : MCal P w K mg base CX0 1 CF "one" ["self"] [] (spNum K (AtF CF) (.tuple [.int 1, .int 1])))
    (h3 : MCal P w K mg base (CXe P w) 4 CF "made" ["self", "top", "bottom"] [.int 1 tk] (spMd K (AtF CF))) : FldB P w K mg base CF (AtN CF CR 0) 0 (z0N 0) (z1N 0) := by
  have e : AtN CF CR 0 = AtF CF := if_pos rfl
  have z0 : z0N 0 = .tuple [.int 0, .int 1] := if_pos rfl
  have z1 : z1N 0 = .tuple [.int 1, .int 1] := if_pos rfl
  rw [e, z0, z1]
  refine ⟨fun e ⟨dx, h⟩ => ⟨dx, e _ _ h⟩, fun ⟨dx, h⟩ => ⟨dx, h⟩, h1, h2, ⟨tk, h3⟩, cl, na, nmd_pair 0 1, nmd_pair 1 1, ?_⟩
  have q := eqv_ints [1, 1] [0, 1]
  rw [PyData.eqv]
  exact q.trans (by decide)
theorem fldB_R {P : Program} {w : World} {K : PySem.W.Frag} {mg : Str → Option Value} {base : Heap} {CF CR : Addr} {tk : Tok} {n : Int} (cl : Cls K CR) (na : NoAttr K CR "prime") (hp : Pr n)
    (h1 : MCal P w K mg base CX0 1 CR "nought" ["self"] [] (spNum K (AtR CR n) (.int 0))) (h2 : MCal P w K mg base CX0 1 CR "one" ["self"] [] (spNum K (AtR CR n) (.int 1)))
    (h3 : MCal P w K mg base (CXe P w) 4 CR "made" ["self", "top", "bottom"] [.int 1 tk] (spMd K (AtR CR n))) : FldB P w K mg base CR (AtN CF CR n) n (z0N n) (z1N n) := by
  have hn : n ≠ 0 := by have := hp.1; omega
  have e : AtN CF CR n = AtR CR n := if_neg hn
  have z0 : z0N n = .int 0 := if_neg hn
  have z1 : z1N n = .int 1 := if_neg hn
  rw [e, z0, z1]
  exact ⟨fun e ⟨dx, h⟩ => ⟨dx, e _ _ h.1, h.2⟩, fun ⟨dx, h⟩ => ⟨dx, h.1⟩, h1, h2, ⟨tk, h3⟩, cl, na, nmd_int 0, nmd_int 1, by simp [PyData.eqv]⟩
theorem imp_pair {K : PySem.W.Frag} {At : Hp → Addr → Prop} {x y : Int} : ∀ vs H Q E, spNum K At (.tuple [.int x, .int y]) vs H Q E → spPair x y vs H Q E := fun _ _ _ _ ⟨p, e, _, k⟩ => ⟨.ref p, e, fun _ _ e' h => k _ _ e' (rds_pair h)⟩
theorem imp_c {K : PySem.W.Frag} {At : Hp → Addr → Prop} {x : Int} : ∀ vs H Q E, spNum K At (.int x) vs H Q E → spC (.int x) vs H Q E := fun _ _ _ _ ⟨p, e, _, k⟩ => ⟨.ref p, e, k _ _ (Same.refl _) (.int x)⟩
theorem imp_made {K : PySem.W.Frag} {At : Hp → Addr → Prop} {NO : Addr} : ∀ vs H Q E, spMd K At vs H Q E → spMade NO vs H Q E := fun _ _ _ _ ⟨p, t, e, _, k⟩ =>
  ⟨.ref p, t, 1, e, Nat.one_lt_two_pow (by decide), .inl ⟨by decide, fun _ _ e' h => k _ _ _ e' (rds_pair h) (nmd_pair _ _)⟩⟩
theorem imp_madeR {K : PySem.W.Frag} {CR NO : Addr} {n : Int} : ∀ vs H Q E, spMd K (AtR CR n) vs H Q E → spMdR CR NO vs H Q E := fun _ _ _ _ ⟨p, t, e, ⟨dx, hn⟩, k⟩ =>
  ⟨p, dx, n, t, 1, e, hn, .inl ⟨by have := hn.2.1.1; rw [Int.emod_eq_of_lt (by decide) (by omega)]; decide, fun _ _ => k _ _ _ (Same.refl _) (.int _) (nmd_int _)⟩⟩

end K6
namespace K6
open PySem L2
open K1 K2 K3
section
variable {P : Program} {w : World} {K : PySem.W.Frag} {mg : Str → Option Value} {base : Heap} {f : Addr} {fd : FuncData} {C_Ring C_Fractions C_Rests C_Order C_Degrees C_Tails C_Weights : Addr} {E_NoOrder E_NoOver E_NoPrime E_NoRing : Addr} {tk_Made tk_MadeR : Tok}
local macro_rules | `(tactic| walk_at "sd") => `(tactic| first
  | assumption | (dsimp only; omega) | (dsimp only; decide) | exact ⟨by decide, by decide⟩ | exact ⟨by decide, by decide, by decide⟩ | exact Or.inl ⟨by decide, by decide⟩ | exact ⟨by omega, by omega⟩ | exact Or.inl ⟨by omega, by omega⟩ | exact Or.inr ⟨by decide, by decide⟩ | exact Or.inr ⟨by omega, by omega⟩)
local macro_rules | `(tactic| walk_at "rd") => `(tactic| repeat first
  | refine ⟨_, rfl, ?_⟩ | refine ⟨_, _, rfl, rfl, ?_⟩ | refine And.intro rfl ?_ | refine And.intro (by walk_at "sd") ?_ | with_reducible refine iteT ?_ | with_reducible refine iteF ?_ | (apply ixT_of; assumption; rfl))
local macro_rules | `(tactic| walk_at "clo") => `(tactic| exact h)

theorem scDeg : FnScope ["term"] ["term"] (defScope s_degree) := ⟨rfl, rfl, rfl, by decide +kernel, rfl, by decide +kernel, by decide +kernel⟩
set_option maxHeartbeats 4000000 in
theorem ok_Deg  (F : FunD K "degree" "degree" s_degree .none f fd) (T : Txt K mg C_Ring C_Fractions C_Rests C_Order C_Degrees C_Tails C_Weights)   : FnOk P w K mg base CX0 1 f fd ["term"] (spDeg K) := by
  refine F.okN (k := 0) scDeg (fun vs H Q E h => ?_) (fun cdv A outer s H vs Q E hr h => ?_)
  · obtain ⟨a, xs, rfl, _⟩ := h
    rfl
  obtain ⟨a, xs, rfl, h⟩ := h
  refine ⟨_, (pss_one (ps_ret (pe_callB (call_sumK (K := K) rfl true rfl) rfl T.b_sum (by kernel_rfl) ((pa_cons (pv 0) pa_nil))))), ?_⟩
  obtain ⟨h1, k⟩ := h
  exact ⟨_, rfl, a, xs, rfl, h1, k⟩
end
end K6
namespace K6
open PySem L2
open K1 K2 K3
section
variable {P : Program} {w : World} {K : PySem.W.Frag} {mg : Str → Option Value} {base : Heap} {f : Addr} {fd : FuncData} {C_Ring C_Fractions C_Rests C_Order C_Degrees C_Tails C_Weights : Addr} {E_NoOrder E_NoOver E_NoPrime E_NoRing : Addr} {tk_Made tk_MadeR : Tok}
local macro_rules | `(tactic| walk_at "sd") => `(tactic| first
  | assumption | (dsimp only; omega) | (dsimp only; decide) | exact ⟨by decide, by decide⟩ | exact ⟨by decide, by decide, by decide⟩ | exact Or.inl ⟨by decide, by decide⟩ | exact ⟨by omega, by omega⟩ | exact Or.inl ⟨by omega, by omega⟩ | exact Or.inr ⟨by decide, by decide⟩ | exact Or.inr ⟨by omega, by omega⟩)
local macro_rules | `(tactic| walk_at "rd") => `(tactic| repeat first
  | refine ⟨_, rfl, ?_⟩ | refine ⟨_, _, rfl, rfl, ?_⟩ | refine And.intro rfl ?_ | refine And.intro (by walk_at "sd") ?_ | with_reducible refine iteT ?_ | with_reducible refine iteF ?_ | (apply ixT_of; assumption; rfl))
local macro_rules | `(tactic| walk_at "clo") => `(tactic| exact h)

theorem scAlone : FnScope ["many", "at", "power"] ["many", "at", "power"] (defScope s_alone) := ⟨rfl, rfl, rfl, by decide +kernel, rfl, by decide +kernel, by decide +kernel⟩
set_option maxHeartbeats 4000000 in
theorem ok_Alone  (F : FunD K "alone" "alone" s_alone .none f fd) (T : Txt K mg C_Ring C_Fractions C_Rests C_Order C_Degrees C_Tails C_Weights)   : FnOk P w K mg base CX0 1 f fd ["many", "at", "power"] spAlone := by
  refine F.okN (k := 0) scAlone (fun vs H Q E h => ?_) (fun cdv A outer s H vs Q E hr h => ?_)
  · obtain ⟨m, a, p, rfl, _⟩ := h
    rfl
  obtain ⟨m, a, p, rfl, h⟩ := h
  refine ⟨_, (pss_one (ps_ret (pe_callTy (call_tupleK (K := K) rfl) rfl T.b_tuple (by kernel_rfl) ((pa_cons (pe_comp (N := ["place", "at", "power"]) (cl := [("power", s.heap.objs.size + 2), ("at", s.heap.objs.size + 1)]) (mp := [none, some 1, some 2]) (Blk.of rfl (by decide +kernel) rfl (by decide +kernel) nd_place_at_power (subc_cons rfl (subc_cons rfl subc_nil)) (fr_of (fs := ["power", "at"]) rfl (by decide +kernel)) rfl (mapc_none (mapc_some rfl (.inl rfl) rfl (mapc_some rfl (.inl rfl) rfl mapc_nil)))) rfl (pi_range1 rfl T.b_range ((pa_cons (pv 0) pa_nil))) (fun C0 s0 H0 fp0 => pg_one (i := 0) nd_place_at_power rfl rfl) (fun C0 s0 H0 fp0 => pts_nil) (fun C0 s0 H0 fp0 => pe_ifExp (pt_cmpR op_eq (pv 0) (pv 1) (nomark _)) (pv 2) (pe_int))) pa_nil))))), ?_⟩
  obtain ⟨m1, m2, a0, k⟩ := h
  show tComp _ _ _ _ _ _ _ _
  refine range_comp (H1 := H) m (fun σ => ∃ v, σ = [v, some (.int a), some (.int p)]) (fun _ => true) (fun i => .int (if i = a.toNat then p else 0)) (by omega) (by omega) ?_ ⟨none, rfl⟩ ?_ fun D H' e hL => ?_
  · exact fun R hR => ⟨_, rfl, hR⟩
  · rintro i σ' H2 hi ⟨z, rfl⟩ e Ny Nn hy hn
    unfold gName tYes
    dsimp only
    rw [if_pos rfl]
    have q := hy [some (.int (0 + (i : Int))), some (.int a), some (.int p)] H2 ⟨_, rfl⟩ (Same.refl _) rfl
    refine ⟨_, rfl, _, rfl, rfl, _, rfl, cEq (fun c => ?_) (fun c => ?_)⟩
    · rw [if_pos (by omega)] at q
      exact ⟨_, rfl, q⟩
    · rw [if_neg (by omega)] at q
      exact q
  rw [List.filter_eq_self.mpr (fun _ _ => rfl)] at hL
  refine ⟨D, _, rfl, .inl ⟨SqL.of hL, fun l hl => k l _ (e.updR (e.free hl)) ?_⟩⟩
  rw [upd_same]
  unfold only
  rw [List.map_map]
  rfl
end
end K6
namespace K6
open PySem L2
open K1 K2 K3
section
variable {P : Program} {w : World} {K : PySem.W.Frag} {mg : Str → Option Value} {base : Heap} {f : Addr} {fd : FuncData} {C_Ring C_Fractions C_Rests C_Order C_Degrees C_Tails C_Weights : Addr} {E_NoOrder E_NoOver E_NoPrime E_NoRing : Addr} {tk_Made tk_MadeR : Tok}
local macro_rules | `(tactic| walk_at "sd") => `(tactic| first
  | assumption | (dsimp only; omega) | (dsimp only; decide) | exact ⟨by decide, by decide⟩ | exact ⟨by decide, by decide, by decide⟩ | exact Or.inl ⟨by decide, by decide⟩ | exact ⟨by omega, by omega⟩ | exact Or.inl ⟨by omega, by omega⟩ | exact Or.inr ⟨by decide, by decide⟩ | exact Or.inr ⟨by omega, by omega⟩)
local macro_rules | `(tactic| walk_at "rd") => `(tactic| repeat first
  | refine ⟨_, rfl, ?_⟩ | refine ⟨_, _, rfl, rfl, ?_⟩ | refine And.intro rfl ?_ | refine And.intro (by walk_at "sd") ?_ | with_reducible refine iteT ?_ | with_reducible refine iteF ?_ | (apply ixT_of; assumption; rfl))
local macro_rules | `(tactic| walk_at "clo") => `(tactic| exact h)

theorem scShared : FnScope ["one", "other", "rest"] ["one", "other"] (defScope s_shared_divisor) := ⟨rfl, rfl, rfl, by decide +kernel, rfl, by decide +kernel, by decide +kernel⟩
set_option maxHeartbeats 4000000 in
theorem ok_Shared  (F : FunD K "shared_divisor" "shared_divisor" s_shared_divisor .none f fd) (T : Txt K mg C_Ring C_Fractions C_Rests C_Order C_Degrees C_Tails C_Weights)   : FnOk P w K mg base CX0 1 f fd ["one", "other"] spShared := by
  refine F.okN (k := 0) scShared (fun vs H Q E h => ?_) (fun cdv A outer s H vs Q E hr h => ?_)
  · obtain ⟨a, b, rfl, _⟩ := h
    rfl
  obtain ⟨a, b, rfl, h⟩ := h
  refine ⟨_, (pss_cons (ps_while PassesOwn.never (pt_cmpR op_ne (pv 1) (pe_int) (nomark _)) (pss_cons (ps_set (i := 2) scShared.nd rfl (Or.inl rfl) (pe_op op_modN (pv 0) (pv 1)))
    (pss_cons (ps_set (i := 0) scShared.nd rfl (Or.inl rfl) (pv 1))
    (pss_one (ps_set (i := 1) scShared.nd rfl (Or.inl rfl) (pv 2))))))
    (pss_one (ps_ret (pv 0)))), ?_⟩
  obtain ⟨ha, hb, k⟩ := h
  refine ⟨fun m σ H' => ∃ (a' b' : Int) (v : Option V), m = b'.toNat ∧ σ = [some (.int a'), some (.int b'), v] ∧ H' = H ∧ 0 ≤ a' ∧ 0 ≤ b' ∧ Gc a b a' b', ⟨_, _, _, none, rfl, rfl, rfl, K1.start ha hb⟩, ?_⟩
  rintro m σ H' ⟨a', b', v, rfl, rfl, rfl, h1, h2, hg⟩
  walk_at "rd"
  refine cNe (fun c => ?_) (fun c => ?_)
  · refine ⟨fun σ' H'' => ∃ v', σ' = [some (.int b'), some (.int (a'.fmod b')), v'] ∧ H'' = H', ?_, ?_⟩
    · rintro σ' H'' ⟨v', rfl, rfl⟩
      exact ⟨(a'.fmod b').toNat, K1.less (by omega), _, _, v', rfl, rfl, rfl, K1.turn hg h1 (by omega)⟩
    · refine ⟨_, rfl, _, rfl, _, _, rfl, rfl, c, ?_⟩
      walk_at "rd"
      rfl
  · refine ⟨_, rfl, ?_⟩
    show Q (.int a') H'
    rw [K1.out hg h1 c]
    exact k
end
end K6
namespace K6
open PySem L2
open K1 K2 K3
section
variable {P : Program} {w : World} {K : PySem.W.Frag} {mg : Str → Option Value} {base : Heap} {f : Addr} {fd : FuncData} {C_Ring C_Fractions C_Rests C_Order C_Degrees C_Tails C_Weights : Addr} {E_NoOrder E_NoOver E_NoPrime E_NoRing : Addr} {tk_Made tk_MadeR : Tok}
local macro_rules | `(tactic| walk_at "sd") => `(tactic| first
  | assumption | (dsimp only; omega) | (dsimp only; decide) | exact ⟨by decide, by decide⟩ | exact ⟨by decide, by decide, by decide⟩ | exact Or.inl ⟨by decide, by decide⟩ | exact ⟨by omega, by omega⟩ | exact Or.inl ⟨by omega, by omega⟩ | exact Or.inr ⟨by decide, by decide⟩ | exact Or.inr ⟨by omega, by omega⟩)
local macro_rules | `(tactic| walk_at "rd") => `(tactic| repeat first
  | refine ⟨_, rfl, ?_⟩ | refine ⟨_, _, rfl, rfl, ?_⟩ | refine And.intro rfl ?_ | refine And.intro (by walk_at "sd") ?_ | with_reducible refine iteT ?_ | with_reducible refine iteF ?_ | (apply ixT_of; assumption; rfl))
local macro_rules | `(tactic| walk_at "clo") => `(tactic| exact h)

theorem scPrime : FnScope ["number", "divisor"] ["number"] (defScope s_is_prime) := ⟨rfl, rfl, rfl, by decide +kernel, rfl, by decide +kernel, by decide +kernel⟩
set_option maxHeartbeats 4000000 in
theorem ok_Prime  (F : FunD K "is_prime" "is_prime" s_is_prime .none f fd) (T : Txt K mg C_Ring C_Fractions C_Rests C_Order C_Degrees C_Tails C_Weights)   : FnOk P w K mg base CX0 1 f fd ["number"] spPrime := by
  refine F.okN (k := 0) scPrime (fun vs H Q E h => ?_) (fun cdv A outer s H vs Q E hr h => ?_)
  · obtain ⟨n, rfl, _⟩ := h
    rfl
  obtain ⟨n, rfl, h⟩ := h
  refine ⟨_, (pss_cons (ps_if (pt_cmpR op_lt (pv 0) (pe_int) (nomark _)) (pss_one (ps_ret (pe_bl))) pss_nil)
    (pss_cons (ps_set (i := 1) scPrime.nd rfl (Or.inl rfl) (pe_int))
    (pss_cons (ps_while PassesOwn.never (pt_cmpR op_le (pe_op op_mul (pv 1) (pv 1)) (pv 0) (nomark _)) (pss_cons (ps_if (pt_cmpR op_eq (pe_op op_modN (pv 0) (pv 1)) (pe_int) (nomark _)) (pss_one (ps_ret (pe_bl))) pss_nil)
    (pss_one (ps_aug (i := 1) scPrime.nd rfl (Or.inl rfl) (pe_int) ip_add))))
    (pss_one (ps_ret (pe_bl)))))), ?_⟩
  obtain ⟨hn, k⟩ := h
  walk_at "rd"
  refine cD (fun c => ?_) (fun c => ?_)
  · show Q (.bl false) H
    rw [low c]
    exact k
  refine ⟨fun m σ H' => ∃ d : Int, m = (200 - d).toNat ∧ σ = [some (.int n), some (.int d)] ∧ H' = H ∧ 2 ≤ d ∧ d ≤ 101 ∧ NoDiv n d, ⟨_, 2, rfl, rfl, rfl, K3.start n⟩, ?_⟩
  rintro m σ H' ⟨d, rfl, rfl, rfl, h2, h3, hd⟩
  refine ⟨_, rfl, _, rfl, _, _, rfl, rfl, .inl (sq_small (n := n) h2 h3), ?_⟩
  walk_at "rd"
  refine cD (fun q => ?_) (fun q => ?_)
  · refine ⟨fun σ' H'' => σ' = [some (.int n), some (.int (d + 1))] ∧ H'' = H' ∧ ¬ Int.fmod n d = 0, ?_, ?_⟩
    · rintro σ' H'' ⟨rfl, rfl, nz⟩
      exact ⟨(200 - (d + 1)).toNat, K3.less h2 q hn, d + 1, rfl, rfl, rfl, K3.turn hd nz h2 q hn⟩
    · refine ⟨_, rfl, _, rfl, _, _, rfl, rfl, (by show d ≠ 0; omega), ?_⟩
      walk_at "rd"
      refine cEq (fun z => ?_) (fun z => ?_)
      · show Q (.bl false) H'
        rw [found h2 q z]
        exact k
      · walk_at "rd"
        exact z
  · show Q (.bl true) H'
    rw [K3.out hd (by omega) h2 q]
    exact k
end
end K6
namespace K6
open PySem L2
open K1 K2 K3
section
variable {P : Program} {w : World} {K : PySem.W.Frag} {mg : Str → Option Value} {base : Heap} {f : Addr} {fd : FuncData} {C_Ring C_Fractions C_Rests C_Order C_Degrees C_Tails C_Weights : Addr} {E_NoOrder E_NoOver E_NoPrime E_NoRing : Addr} {tk_Made tk_MadeR : Tok}
local macro_rules | `(tactic| walk_at "sd") => `(tactic| first
  | assumption | (dsimp only; omega) | (dsimp only; decide) | exact ⟨by decide, by decide⟩ | exact ⟨by decide, by decide, by decide⟩ | exact Or.inl ⟨by decide, by decide⟩ | exact ⟨by omega, by omega⟩ | exact Or.inl ⟨by omega, by omega⟩ | exact Or.inr ⟨by decide, by decide⟩ | exact Or.inr ⟨by omega, by omega⟩)
local macro_rules | `(tactic| walk_at "rd") => `(tactic| repeat first
  | refine ⟨_, rfl, ?_⟩ | refine ⟨_, _, rfl, rfl, ?_⟩ | refine And.intro rfl ?_ | refine And.intro (by walk_at "sd") ?_ | with_reducible refine iteT ?_ | with_reducible refine iteF ?_ | (apply ixT_of; assumption; rfl))
local macro_rules | `(tactic| walk_at "clo") => `(tactic| exact h)

theorem scFieldInit : FnScope ["self", "prime"] ["self", "prime"] (defScope s_Field___init__) := ⟨rfl, rfl, rfl, by decide +kernel, rfl, by decide +kernel, by decide +kernel⟩
set_option maxHeartbeats 4000000 in
theorem ok_FieldInit  (F : FunD K "__init__" "Field.__init__" s_Field___init__ .none f fd) (T : Txt K mg C_Ring C_Fractions C_Rests C_Order C_Degrees C_Tails C_Weights)   : FnOk P w K mg base CX0 1 f fd ["self", "prime"] (spField K) := by
  refine F.okN (k := 0) scFieldInit (fun vs H Q E h => ?_) (fun cdv A outer s H vs Q E hr h => ?_)
  · obtain ⟨p, C, dx, v, rfl, _⟩ := h
    rfl
  obtain ⟨p, C, dx, v, rfl, h⟩ := h
  refine ⟨_, (pss_one (ps_fld (pv 0) (pv 1) rfl)), ?_⟩
  obtain ⟨hp, hc, ha, k⟩ := h
  exact ⟨_, rfl, _, rfl, p, C, dx, [], rfl, hp, hc, ha, (by show 0 < 1000; decide), k⟩
end
end K6
namespace K6
open PySem L2
open K1 K2 K3
section
variable {P : Program} {w : World} {K : PySem.W.Frag} {mg : Str → Option Value} {base : Heap} {f : Addr} {fd : FuncData} {C_Ring C_Fractions C_Rests C_Order C_Degrees C_Tails C_Weights : Addr} {E_NoOrder E_NoOver E_NoPrime E_NoRing : Addr} {tk_Made tk_MadeR : Tok}
local macro_rules | `(tactic| walk_at "sd") => `(tactic| first
  | assumption | (dsimp only; omega) | (dsimp only; decide) | exact ⟨by decide, by decide⟩ | exact ⟨by decide, by decide, by decide⟩ | exact Or.inl ⟨by decide, by decide⟩ | exact ⟨by omega, by omega⟩ | exact Or.inl ⟨by omega, by omega⟩ | exact Or.inr ⟨by decide, by decide⟩ | exact Or.inr ⟨by omega, by omega⟩)
local macro_rules | `(tactic| walk_at "rd") => `(tactic| repeat first
  | refine ⟨_, rfl, ?_⟩ | refine ⟨_, _, rfl, rfl, ?_⟩ | refine And.intro rfl ?_ | refine And.intro (by walk_at "sd") ?_ | with_reducible refine iteT ?_ | with_reducible refine iteF ?_ | (apply ixT_of; assumption; rfl))
local macro_rules | `(tactic| walk_at "clo") => `(tactic| exact h)

theorem scFracInit : FnScope ["self"] ["self"] (defScope s_Fractions___init__) := ⟨rfl, rfl, rfl, by decide +kernel, rfl, by decide +kernel, by decide +kernel⟩
set_option maxHeartbeats 4000000 in
theorem ok_FracInit  (F : FunD K "__init__" "Fractions.__init__" s_Fractions___init__ .none f fd) (T : Txt K mg C_Ring C_Fractions C_Rests C_Order C_Degrees C_Tails C_Weights) (q_FieldInit : CCal P w K mg base CX0 1 "Field" "__init__" ["self", "prime"] [] (spField K))  : FnOk P w K mg base CX0 2 f fd ["self"] (spFracInit C_Fractions) := by
  refine F.okN (k := 1) scFracInit (fun vs H Q E h => ?_) (fun cdv A outer s H vs Q E hr h => ?_)
  · obtain ⟨p, dx, rfl, _⟩ := h
    rfl
  obtain ⟨p, dx, rfl, h⟩ := h
  refine ⟨_, (pss_one (ps_expr (pe_cm q_FieldInit hr pass00 .nil ((pa_cons (pv 0) (pa_cons (pe_int) pa_nil)))))), ?_⟩
  obtain ⟨hp, k⟩ := h
  exact ⟨_, rfl, p, _, dx, _, rfl, hp, T.cl_Fractions, T.na_Fractions_prime, k⟩
end
end K6
namespace K6
open PySem L2
open K1 K2 K3
section
variable {P : Program} {w : World} {K : PySem.W.Frag} {mg : Str → Option Value} {base : Heap} {f : Addr} {fd : FuncData} {C_Ring C_Fractions C_Rests C_Order C_Degrees C_Tails C_Weights : Addr} {E_NoOrder E_NoOver E_NoPrime E_NoRing : Addr} {tk_Made tk_MadeR : Tok}
local macro_rules | `(tactic| walk_at "sd") => `(tactic| first
  | assumption | (dsimp only; omega) | (dsimp only; decide) | exact ⟨by decide, by decide⟩ | exact ⟨by decide, by decide, by decide⟩ | exact Or.inl ⟨by decide, by decide⟩ | exact ⟨by omega, by omega⟩ | exact Or.inl ⟨by omega, by omega⟩ | exact Or.inr ⟨by decide, by decide⟩ | exact Or.inr ⟨by omega, by omega⟩)
local macro_rules | `(tactic| walk_at "rd") => `(tactic| repeat first
  | refine ⟨_, rfl, ?_⟩ | refine ⟨_, _, rfl, rfl, ?_⟩ | refine And.intro rfl ?_ | refine And.intro (by walk_at "sd") ?_ | with_reducible refine iteT ?_ | with_reducible refine iteF ?_ | (apply ixT_of; assumption; rfl))
local macro_rules | `(tactic| walk_at "clo") => `(tactic| exact h)

theorem scNought : FnScope ["self"] ["self"] (defScope s_Fractions_nought) := ⟨rfl, rfl, rfl, by decide +kernel, rfl, by decide +kernel, by decide +kernel⟩
set_option maxHeartbeats 4000000 in
theorem ok_Nought  (F : FunD K "nought" "Fractions.nought" s_Fractions_nought .none f fd) (T : Txt K mg C_Ring C_Fractions C_Rests C_Order C_Degrees C_Tails C_Weights)   : FnOk P w K mg base CX0 1 f fd ["self"] (spPair 0 1) := by
  refine F.okN (k := 0) scNought (fun vs H Q E h => ?_) (fun cdv A outer s H vs Q E hr h => ?_)
  · obtain ⟨p, rfl, _⟩ := h
    rfl
  obtain ⟨p, rfl, h⟩ := h
  refine ⟨_, (pss_one (ps_ret (pe_tup ((pa_cons (pe_int) (pa_cons (pe_int) pa_nil)))))), ?_⟩
  exact ⟨(by show 2 ≤ sizeLine; decide), fun r hr' => h r _ (Same.upd hr') upd_same⟩
end
end K6
namespace K6
open PySem L2
open K1 K2 K3
section
variable {P : Program} {w : World} {K : PySem.W.Frag} {mg : Str → Option Value} {base : Heap} {f : Addr} {fd : FuncData} {C_Ring C_Fractions C_Rests C_Order C_Degrees C_Tails C_Weights : Addr} {E_NoOrder E_NoOver E_NoPrime E_NoRing : Addr} {tk_Made tk_MadeR : Tok}
local macro_rules | `(tactic| walk_at "sd") => `(tactic| first
  | assumption | (dsimp only; omega) | (dsimp only; decide) | exact ⟨by decide, by decide⟩ | exact ⟨by decide, by decide, by decide⟩ | exact Or.inl ⟨by decide, by decide⟩ | exact ⟨by omega, by omega⟩ | exact Or.inl ⟨by omega, by omega⟩ | exact Or.inr ⟨by decide, by decide⟩ | exact Or.inr ⟨by omega, by omega⟩)
local macro_rules | `(tactic| walk_at "rd") => `(tactic| repeat first
  | refine ⟨_, rfl, ?_⟩ | refine ⟨_, _, rfl, rfl, ?_⟩ | refine And.intro rfl ?_ | refine And.intro (by walk_at "sd") ?_ | with_reducible refine iteT ?_ | with_reducible refine iteF ?_ | (apply ixT_of; assumption; rfl))
local macro_rules | `(tactic| walk_at "clo") => `(tactic| exact h)

theorem scOne : FnScope ["self"] ["self"] (defScope s_Fractions_one) := ⟨rfl, rfl, rfl, by decide +kernel, rfl, by decide +kernel, by decide +kernel⟩
set_option maxHeartbeats 4000000 in
theorem ok_One  (F : FunD K "one" "Fractions.one" s_Fractions_one .none f fd) (T : Txt K mg C_Ring C_Fractions C_Rests C_Order C_Degrees C_Tails C_Weights)   : FnOk P w K mg base CX0 1 f fd ["self"] (spPair 1 1) := by
  refine F.okN (k := 0) scOne (fun vs H Q E h => ?_) (fun cdv A outer s H vs Q E hr h => ?_)
  · obtain ⟨p, rfl, _⟩ := h
    rfl
  obtain ⟨p, rfl, h⟩ := h
  refine ⟨_, (pss_one (ps_ret (pe_tup ((pa_cons (pe_int) (pa_cons (pe_int) pa_nil)))))), ?_⟩
  exact ⟨(by show 2 ≤ sizeLine; decide), fun r hr' => h r _ (Same.upd hr') upd_same⟩
end
end K6
namespace K6
open PySem L2
open K1 K2 K3
section
variable {P : Program} {w : World} {K : PySem.W.Frag} {mg : Str → Option Value} {base : Heap} {f : Addr} {fd : FuncData} {C_Ring C_Fractions C_Rests C_Order C_Degrees C_Tails C_Weights : Addr} {E_NoOrder E_NoOver E_NoPrime E_NoRing : Addr} {tk_Made tk_MadeR : Tok}
local macro_rules | `(tactic| walk_at "sd") => `(tactic| first
  | assumption | (dsimp only; omega) | (dsimp only; decide) | exact ⟨by decide, by decide⟩ | exact ⟨by decide, by decide, by decide⟩ | exact Or.inl ⟨by decide, by decide⟩ | exact ⟨by omega, by omega⟩ | exact Or.inl ⟨by omega, by omega⟩ | exact Or.inr ⟨by decide, by decide⟩ | exact Or.inr ⟨by omega, by omega⟩)
local macro_rules | `(tactic| walk_at "rd") => `(tactic| repeat first
  | refine ⟨_, rfl, ?_⟩ | refine ⟨_, _, rfl, rfl, ?_⟩ | refine And.intro rfl ?_ | refine And.intro (by walk_at "sd") ?_ | with_reducible refine iteT ?_ | with_reducible refine iteF ?_ | (apply ixT_of; assumption; rfl))
local macro_rules | `(tactic| walk_at "clo") => `(tactic| exact h)

theorem scMade : FnScope ["self", "top", "bottom", "divisor"] ["self", "top", "bottom"] (defScope s_Fractions_made) := ⟨rfl, rfl, rfl, by decide +kernel, rfl, by decide +kernel, by decide +kernel⟩
set_option maxHeartbeats 4000000 in
theorem ok_Made  {dT : Addr} (F : FunD K "made" "Fractions.made" s_Fractions_made (.ref dT) f fd) (T : Txt K mg C_Ring C_Fractions C_Rests C_Order C_Degrees C_Tails C_Weights) (c_Shared : Cal P w K mg base CX0 1 "shared_divisor" ["one", "other"] [] spShared) (x_NoOver : Exc K mg base "NoOver" E_NoOver)  : FnOk P w K mg base (CXe P w) 2 f fd ["self", "top", "bottom"] (spMade E_NoOver) := by
  refine F.okX (k := 1) scMade (fun vs H Q E h => ?_) (fun cdv A outer s H vs Q E hr h => ?_)
  · obtain ⟨p, t, b, rfl, _⟩ := h
    rfl
  obtain ⟨p, t, b, rfl, h⟩ := h
  refine ⟨_, (pss_cons (ps_if (pt_cmpR op_eq (pv 2) (pe_int) (nomark _)) (pss_one (ps_rz x_NoOver rfl rfl raisesTo_body ((pa_cons (pe_str) pa_nil)))) pss_nil)
    (pss_cons (ps_set (i := 3) scMade.nd rfl (Or.inl rfl) (pe_c c_Shared hr pass00 .nil ((pa_cons (pe_callB call_abs rfl T.b_abs (by kernel_rfl) ((pa_cons (pv 1) pa_nil))) (pa_cons (pe_callB call_abs rfl T.b_abs (by kernel_rfl) ((pa_cons (pv 2) pa_nil))) pa_nil)))))
    (pss_cons (ps_if (pt_cmpR op_lt (pv 2) (pe_int) (nomark _)) (pss_one (ps_set (i := 3) scMade.nd rfl (Or.inl rfl) (pe_un un_neg (pv 3)))) pss_nil)
    (pss_one (ps_ret (pe_tup ((pa_cons (pe_op op_fdivB (pv 1) (pv 3)) (pa_cons (pe_op op_fdivB (pv 2) (pv 3)) pa_nil))))))))), ?_⟩
  obtain ⟨hb, k⟩ := h
  walk_at "rd"
  refine cEq (fun c => ?_) (fun c => ?_)
  · refine ⟨(by show 1 ≤ sizeLine; decide), ?_⟩
    rcases k with ⟨q, _⟩ | ⟨_, q⟩
    · exact absurd c q
    · exact q
  rcases k with ⟨_, k⟩ | ⟨q, _⟩
  case inr => exact absurd q c
  obtain ⟨d0, d1⟩ := fr_nd (t := t) c hb
  have c1 : CDivB t (dv t b) := ⟨d0, d1⟩
  have c2 : CDivB b (dv t b) := ⟨d0, d1⟩
  walk_at "rd"
  refine ⟨_, _, rfl, by split <;> omega, by split <;> omega, ?_⟩
  rw [gI_abs]
  walk_at "rd"
  refine cD (fun n => ?_) (fun n => ?_)
  · walk_at "rd"
    have e : -(gI t b) = dv t b := by unfold dv; rw [if_pos n]
    try dsimp only
    rw [e]
    walk_at "rd"
    exact ⟨(by show 2 ≤ sizeLine; decide), fun r hr' => k r _ (Same.upd hr') upd_same⟩
  · have e : gI t b = dv t b := by unfold dv; rw [if_neg n]
    rw [e]
    walk_at "rd"
    exact ⟨(by show 2 ≤ sizeLine; decide), fun r hr' => k r _ (Same.upd hr') upd_same⟩
end
end K6
namespace K6
open PySem L2
open K1 K2 K3
section
variable {P : Program} {w : World} {K : PySem.W.Frag} {mg : Str → Option Value} {base : Heap} {f : Addr} {fd : FuncData} {C_Ring C_Fractions C_Rests C_Order C_Degrees C_Tails C_Weights : Addr} {E_NoOrder E_NoOver E_NoPrime E_NoRing : Addr} {tk_Made tk_MadeR : Tok}
local macro_rules | `(tactic| walk_at "sd") => `(tactic| first
  | assumption | (dsimp only; omega) | (dsimp only; decide) | exact ⟨by decide, by decide⟩ | exact ⟨by decide, by decide, by decide⟩ | exact Or.inl ⟨by decide, by decide⟩ | exact ⟨by omega, by omega⟩ | exact Or.inl ⟨by omega, by omega⟩ | exact Or.inr ⟨by decide, by decide⟩ | exact Or.inr ⟨by omega, by omega⟩)
local macro_rules | `(tactic| walk_at "rd") => `(tactic| repeat first
  | refine ⟨_, rfl, ?_⟩ | refine ⟨_, _, rfl, rfl, ?_⟩ | refine And.intro rfl ?_ | refine And.intro (by walk_at "sd") ?_ | with_reducible refine iteT ?_ | with_reducible refine iteF ?_ | (apply ixT_of; assumption; rfl))
local macro_rules | `(tactic| walk_at "clo") => `(tactic| exact h)

theorem scRestsInit : FnScope ["self", "prime"] ["self", "prime"] (defScope s_Rests___init__) := ⟨rfl, rfl, rfl, by decide +kernel, rfl, by decide +kernel, by decide +kernel⟩
set_option maxHeartbeats 4000000 in
theorem ok_RestsInit  (F : FunD K "__init__" "Rests.__init__" s_Rests___init__ .none f fd) (T : Txt K mg C_Ring C_Fractions C_Rests C_Order C_Degrees C_Tails C_Weights) (c_Prime : Cal P w K mg base CX0 1 "is_prime" ["number"] [] spPrime) (q_FieldInit : CCal P w K mg base CX0 1 "Field" "__init__" ["self", "prime"] [] (spField K)) (x_NoPrime : Exc K mg base "NoPrime" E_NoPrime)  : FnOk P w K mg base (CXe P w) 2 f fd ["self", "prime"] (spRests C_Rests E_NoPrime) := by
  refine F.okX (k := 1) scRestsInit (fun vs H Q E h => ?_) (fun cdv A outer s H vs Q E hr h => ?_)
  · obtain ⟨p, dx, n, rfl, _⟩ := h
    rfl
  obtain ⟨p, dx, n, rfl, h⟩ := h
  refine ⟨_, (pss_cons (ps_if (PW.pt (pw_or (pt_cmpR op_gt (pv 1) (pe_globI T.g_GREATEST_PRIME rfl) (nomark _)) (pw_or1 (pt_not (pt_val (pe_c c_Prime hr pass00 .nil ((pa_cons (pv 1) pa_nil)))))))) (pss_one (ps_rz x_NoPrime rfl rfl raisesTo_body ((pa_cons (pe_str) pa_nil)))) pss_nil)
    (pss_one (ps_expr (pe_cm q_FieldInit hr pass00 .nil ((pa_cons (pv 0) (pa_cons (pv 1) pa_nil))))))), ?_⟩
  obtain ⟨hp, k⟩ := h
  walk_at "rd"
  refine cD (fun c => ?_) (fun c => ?_)
  · walk_at "rd"
    refine ⟨(by show 1 ≤ sizeLine; decide), ?_⟩
    rcases k with ⟨q, _⟩ | ⟨_, q⟩
    · omega
    · exact q
  · refine ⟨_, rfl, n, rfl, by omega, _, rfl, ?_⟩
    rcases k with ⟨_, q1, q2⟩ | ⟨q1, q2⟩
    · rw [q1]
      refine iteF ?_
      exact ⟨_, rfl, _, rfl, p, C_Rests, dx, _, rfl, hp, T.cl_Rests, T.na_Rests_prime, q2⟩
    · have q : isP n = false := q1.resolve_left c
      rw [q]
      exact iteT ⟨(by show 1 ≤ sizeLine; decide), q2⟩
end
end K6
namespace K6
open PySem L2
open K1 K2 K3
section
variable {P : Program} {w : World} {K : PySem.W.Frag} {mg : Str → Option Value} {base : Heap} {f : Addr} {fd : FuncData} {C_Ring C_Fractions C_Rests C_Order C_Degrees C_Tails C_Weights : Addr} {E_NoOrder E_NoOver E_NoPrime E_NoRing : Addr} {tk_Made tk_MadeR : Tok}
local macro_rules | `(tactic| walk_at "sd") => `(tactic| first
  | assumption | (dsimp only; omega) | (dsimp only; decide) | exact ⟨by decide, by decide⟩ | exact ⟨by decide, by decide, by decide⟩ | exact Or.inl ⟨by decide, by decide⟩ | exact ⟨by omega, by omega⟩ | exact Or.inl ⟨by omega, by omega⟩ | exact Or.inr ⟨by decide, by decide⟩ | exact Or.inr ⟨by omega, by omega⟩)
local macro_rules | `(tactic| walk_at "rd") => `(tactic| repeat first
  | refine ⟨_, rfl, ?_⟩ | refine ⟨_, _, rfl, rfl, ?_⟩ | refine And.intro rfl ?_ | refine And.intro (by walk_at "sd") ?_ | with_reducible refine iteT ?_ | with_reducible refine iteF ?_ | (apply ixT_of; assumption; rfl))
local macro_rules | `(tactic| walk_at "clo") => `(tactic| exact h)

theorem scNoughtR : FnScope ["self"] ["self"] (defScope s_Rests_nought) := ⟨rfl, rfl, rfl, by decide +kernel, rfl, by decide +kernel, by decide +kernel⟩
set_option maxHeartbeats 4000000 in
theorem ok_NoughtR  (F : FunD K "nought" "Rests.nought" s_Rests_nought .none f fd) (T : Txt K mg C_Ring C_Fractions C_Rests C_Order C_Degrees C_Tails C_Weights)   : FnOk P w K mg base CX0 1 f fd ["self"] (spC (.int 0)) := by
  refine F.okN (k := 0) scNoughtR (fun vs H Q E h => ?_) (fun cdv A outer s H vs Q E hr h => ?_)
  · obtain ⟨p, rfl, _⟩ := h
    rfl
  obtain ⟨p, rfl, h⟩ := h
  refine ⟨_, (pss_one (ps_ret (pe_int))), ?_⟩
  exact h
end
end K6
namespace K6
open PySem L2
open K1 K2 K3
section
variable {P : Program} {w : World} {K : PySem.W.Frag} {mg : Str → Option Value} {base : Heap} {f : Addr} {fd : FuncData} {C_Ring C_Fractions C_Rests C_Order C_Degrees C_Tails C_Weights : Addr} {E_NoOrder E_NoOver E_NoPrime E_NoRing : Addr} {tk_Made tk_MadeR : Tok}
local macro_rules | `(tactic| walk_at "sd") => `(tactic| first
  | assumption | (dsimp only; omega) | (dsimp only; decide) | exact ⟨by decide, by decide⟩ | exact ⟨by decide, by decide, by decide⟩ | exact Or.inl ⟨by decide, by decide⟩ | exact ⟨by omega, by omega⟩ | exact Or.inl ⟨by omega, by omega⟩ | exact Or.inr ⟨by decide, by decide⟩ | exact Or.inr ⟨by omega, by omega⟩)
local macro_rules | `(tactic| walk_at "rd") => `(tactic| repeat first
  | refine ⟨_, rfl, ?_⟩ | refine ⟨_, _, rfl, rfl, ?_⟩ | refine And.intro rfl ?_ | refine And.intro (by walk_at "sd") ?_ | with_reducible refine iteT ?_ | with_reducible refine iteF ?_ | (apply ixT_of; assumption; rfl))
local macro_rules | `(tactic| walk_at "clo") => `(tactic| exact h)

theorem scOneR : FnScope ["self"] ["self"] (defScope s_Rests_one) := ⟨rfl, rfl, rfl, by decide +kernel, rfl, by decide +kernel, by decide +kernel⟩
set_option maxHeartbeats 4000000 in
theorem ok_OneR  (F : FunD K "one" "Rests.one" s_Rests_one .none f fd) (T : Txt K mg C_Ring C_Fractions C_Rests C_Order C_Degrees C_Tails C_Weights)   : FnOk P w K mg base CX0 1 f fd ["self"] (spC (.int 1)) := by
  refine F.okN (k := 0) scOneR (fun vs H Q E h => ?_) (fun cdv A outer s H vs Q E hr h => ?_)
  · obtain ⟨p, rfl, _⟩ := h
    rfl
  obtain ⟨p, rfl, h⟩ := h
  refine ⟨_, (pss_one (ps_ret (pe_int))), ?_⟩
  exact h
end
end K6
namespace K6
open PySem L2
open K1 K2 K3
section
variable {P : Program} {w : World} {K : PySem.W.Frag} {mg : Str → Option Value} {base : Heap} {f : Addr} {fd : FuncData} {C_Ring C_Fractions C_Rests C_Order C_Degrees C_Tails C_Weights : Addr} {E_NoOrder E_NoOver E_NoPrime E_NoRing : Addr} {tk_Made tk_MadeR : Tok}
local macro_rules | `(tactic| walk_at "sd") => `(tactic| first
  | assumption | (dsimp only; omega) | (dsimp only; decide) | exact ⟨by decide, by decide⟩ | exact ⟨by decide, by decide, by decide⟩ | exact Or.inl ⟨by decide, by decide⟩ | exact ⟨by omega, by omega⟩ | exact Or.inl ⟨by omega, by omega⟩ | exact Or.inr ⟨by decide, by decide⟩ | exact Or.inr ⟨by omega, by omega⟩)
local macro_rules | `(tactic| walk_at "rd") => `(tactic| repeat first
  | refine ⟨_, rfl, ?_⟩ | refine ⟨_, _, rfl, rfl, ?_⟩ | refine And.intro rfl ?_ | refine And.intro (by walk_at "sd") ?_ | with_reducible refine iteT ?_ | with_reducible refine iteF ?_ | (apply ixT_of; assumption; rfl))
local macro_rules | `(tactic| walk_at "clo") => `(tactic| exact h)

theorem scTimesR : FnScope ["self", "a", "b"] ["self", "a", "b"] (defScope s_Rests_times) := ⟨rfl, rfl, rfl, by decide +kernel, rfl, by decide +kernel, by decide +kernel⟩
set_option maxHeartbeats 4000000 in
theorem ok_TimesR  (F : FunD K "times" "Rests.times" s_Rests_times .none f fd) (T : Txt K mg C_Ring C_Fractions C_Rests C_Order C_Degrees C_Tails C_Weights)   : FnOk P w K mg base CX0 1 f fd ["self", "a", "b"] (spBinR C_Rests fun n a b => a * b % n) := by
  refine F.okN (k := 0) scTimesR (fun vs H Q E h => ?_) (fun cdv A outer s H vs Q E hr h => ?_)
  · obtain ⟨p, dx, n, a, b, rfl, _⟩ := h
    rfl
  obtain ⟨p, dx, n, a, b, rfl, h⟩ := h
  refine ⟨_, (pss_one (ps_ret (pe_op op_mod (pe_op op_mul (pv 1) (pv 2)) (pe_fldK (K := K) rfl (pv 0) rfl)))), ?_⟩
  obtain ⟨⟨hp, pr, pl⟩, ia, ib, k⟩ := h
  have p2 := pr.1
  obtain ⟨a0, a1⟩ := ia
  walk_at "rd"
  exact ⟨p, C_Rests, dx, _, _, rfl, hp, T.cl_Rests, T.na_Rests_prime, rfl, _, _, rfl, rfl, (by show 0 < n; omega), k⟩
end
end K6
namespace K6
open PySem L2
open K1 K2 K3
section
variable {P : Program} {w : World} {K : PySem.W.Frag} {mg : Str → Option Value} {base : Heap} {f : Addr} {fd : FuncData} {C_Ring C_Fractions C_Rests C_Order C_Degrees C_Tails C_Weights : Addr} {E_NoOrder E_NoOver E_NoPrime E_NoRing : Addr} {tk_Made tk_MadeR : Tok}
local macro_rules | `(tactic| walk_at "sd") => `(tactic| first
  | assumption | (dsimp only; omega) | (dsimp only; decide) | exact ⟨by decide, by decide⟩ | exact ⟨by decide, by decide, by decide⟩ | exact Or.inl ⟨by decide, by decide⟩ | exact ⟨by omega, by omega⟩ | exact Or.inl ⟨by omega, by omega⟩ | exact Or.inr ⟨by decide, by decide⟩ | exact Or.inr ⟨by omega, by omega⟩)
local macro_rules | `(tactic| walk_at "rd") => `(tactic| repeat first
  | refine ⟨_, rfl, ?_⟩ | refine ⟨_, _, rfl, rfl, ?_⟩ | refine And.intro rfl ?_ | refine And.intro (by walk_at "sd") ?_ | with_reducible refine iteT ?_ | with_reducible refine iteF ?_ | (apply ixT_of; assumption; rfl))
local macro_rules | `(tactic| walk_at "clo") => `(tactic| exact h)

theorem scTuR : FnScope ["self", "a", "found", "left"] ["self", "a"] (defScope s_Rests_turned) := ⟨rfl, rfl, rfl, by decide +kernel, rfl, by decide +kernel, by decide +kernel⟩
set_option maxHeartbeats 4000000 in
theorem ok_TuR  (F : FunD K "turned" "Rests.turned" s_Rests_turned .none f fd) (T : Txt K mg C_Ring C_Fractions C_Rests C_Order C_Degrees C_Tails C_Weights) (x_NoOver : Exc K mg base "NoOver" E_NoOver)  : FnOk P w K mg base (CXe P w) 1 f fd ["self", "a"] (spTuR C_Rests E_NoOver) := by
  refine F.okX (k := 0) scTuR (fun vs H Q E h => ?_) (fun cdv A outer s H vs Q E hr h => ?_)
  · obtain ⟨p, dx, n, a, rfl, _⟩ := h
    rfl
  obtain ⟨p, dx, n, a, rfl, h⟩ := h
  refine ⟨_, (pss_cons (ps_if (pt_cmpR op_eq (pv 1) (pe_int) (nomark _)) (pss_one (ps_rz x_NoOver rfl rfl raisesTo_body ((pa_cons (pe_str) pa_nil)))) pss_nil)
    (pss_cons (ps_set (i := 2) scTuR.nd rfl (Or.inl rfl) (pe_int))
    (pss_cons (ps_set (i := 3) scTuR.nd rfl (Or.inl rfl) (pv 1))
    (pss_cons (PS.nox (ps_while PassesOwn.never (pt_cmpR op_ne (pv 3) (pe_int) (nomark _)) (pss_cons (ps_set (i := 2) scTuR.nd rfl (Or.inl rfl) (pe_op op_modN (pe_op op_mul (pe_un un_neg (pv 2)) (pe_op op_fdivN (pe_fldK (K := K) rfl (pv 0) rfl) (pv 3))) (pe_fldK (K := K) rfl (pv 0) rfl)))
    (pss_one (ps_set (i := 3) scTuR.nd rfl (Or.inl rfl) (pe_op op_modN (pe_fldK (K := K) rfl (pv 0) rfl) (pv 3)))))))
    (pss_one (ps_ret (pv 2))))))), ?_⟩
  obtain ⟨⟨hp, pr, pl⟩, ⟨a0, a1⟩, k⟩ := h
  have p2 := pr.1
  walk_at "rd"
  refine cEq (fun c => ?_) (fun c => ?_)
  · refine ⟨(by show 1 ≤ sizeLine; decide), ?_⟩
    rcases k with ⟨q, _⟩ | ⟨_, q⟩
    · exact absurd c q
    · exact q
  rcases k with ⟨_, k⟩ | ⟨q, _⟩
  case inr => exact absurd q c
  walk_at "rd"
  refine ⟨fun m σ H' => ∃ (f l : Int), m = l.toNat ∧ σ = [some (.ref p), some (.int a), some (.int f), some (.int l)] ∧ H' = H ∧ Tn n a f l, ⟨_, 1, a, rfl, rfl, rfl, tn_start pr (by omega) a1⟩, ?_⟩
  rintro m σ H' ⟨f, l, rfl, rfl, rfl, tn⟩
  have f0 := tn.f0
  have f1 := tn.f1
  have l0 := tn.l0
  have l1 := tn.l1
  walk_at "rd"
  refine cNe (fun c1 => ?_) (fun c1 => ?_)
  · refine ⟨fun σ' H'' => σ' = [some (.ref p), some (.int a), some (.int (Int.fmod (-f * Int.fdiv n l) n)), some (.int (Int.fmod n l))] ∧ H'' = H', ?_, ?_⟩
    · rintro σ' H'' ⟨rfl, rfl⟩
      exact ⟨(Int.fmod n l).toNat, tn_less tn, _, _, rfl, rfl, rfl, tn_turn pr tn c1⟩
    · refine ⟨_, rfl, _, rfl, _, rfl, p, C_Rests, dx, _, _, rfl, hp, T.cl_Rests, T.na_Rests_prime, rfl, _, rfl, _, _, rfl, rfl, ⟨by show l ≠ 0; omega, by omega⟩, _, _, rfl, rfl, .inl ⟨by omega, by omega⟩, ?_⟩
      refine ⟨_, rfl, p, C_Rests, dx, _, _, rfl, hp, T.cl_Rests, T.na_Rests_prime, rfl, _, _, rfl, rfl, (by show n ≠ 0; omega), ?_⟩
      exact ⟨_, rfl, p, C_Rests, dx, _, _, rfl, hp, T.cl_Rests, T.na_Rests_prime, rfl, _, rfl, _, _, rfl, rfl, (by show l ≠ 0; omega), rfl, rfl⟩
  · exact ⟨_, rfl, k f (tn_out tn c1)⟩
end
end K6
namespace K6
open PySem L2
open K1 K2 K3
section
variable {P : Program} {w : World} {K : PySem.W.Frag} {mg : Str → Option Value} {base : Heap} {f : Addr} {fd : FuncData} {C_Ring C_Fractions C_Rests C_Order C_Degrees C_Tails C_Weights : Addr} {E_NoOrder E_NoOver E_NoPrime E_NoRing : Addr} {tk_Made tk_MadeR : Tok}
local macro_rules | `(tactic| walk_at "sd") => `(tactic| first
  | assumption | (dsimp only; omega) | (dsimp only; decide) | exact ⟨by decide, by decide⟩ | exact ⟨by decide, by decide, by decide⟩ | exact Or.inl ⟨by decide, by decide⟩ | exact ⟨by omega, by omega⟩ | exact Or.inl ⟨by omega, by omega⟩ | exact Or.inr ⟨by decide, by decide⟩ | exact Or.inr ⟨by omega, by omega⟩)
local macro_rules | `(tactic| walk_at "rd") => `(tactic| repeat first
  | refine ⟨_, rfl, ?_⟩ | refine ⟨_, _, rfl, rfl, ?_⟩ | refine And.intro rfl ?_ | refine And.intro (by walk_at "sd") ?_ | with_reducible refine iteT ?_ | with_reducible refine iteF ?_ | (apply ixT_of; assumption; rfl))
local macro_rules | `(tactic| walk_at "clo") => `(tactic| exact h)

theorem scOvR : FnScope ["self", "a", "b"] ["self", "a", "b"] (defScope s_Field_over) := ⟨rfl, rfl, rfl, by decide +kernel, rfl, by decide +kernel, by decide +kernel⟩
set_option maxHeartbeats 4000000 in
theorem ok_OvR  (F : FunD K "over" "Field.over" s_Field_over .none f fd) (T : Txt K mg C_Ring C_Fractions C_Rests C_Order C_Degrees C_Tails C_Weights) (m_TuR : MCal P w K mg base (CXe P w) 1 C_Rests "turned" ["self", "a"] [] (spTuR C_Rests E_NoOver)) (m_TimesR : MCal P w K mg base CX0 1 C_Rests "times" ["self", "a", "b"] [] (spBinR C_Rests fun n a b => a * b % n))  : FnOk P w K mg base (CXe P w) 2 f fd ["self", "a", "b"] (spOvR C_Rests E_NoOver) := by
  refine F.okX (k := 1) scOvR (fun vs H Q E h => ?_) (fun cdv A outer s H vs Q E hr h => ?_)
  · obtain ⟨p, dx, n, a, b, rfl, _⟩ := h
    rfl
  obtain ⟨p, dx, n, a, b, rfl, h⟩ := h
  refine ⟨_, (pss_one (ps_ret (pe_m m_TimesR (pv 0) hr pass00 .nil ((pa_cons (pv 1) (pa_cons (pe_m m_TuR (pv 0) hr passesS_body .nil ((pa_cons (pv 2) pa_nil))) pa_nil)))))), ?_⟩
  obtain ⟨hn, ia, ib, k⟩ := h
  have hp := hn.1
  refine ⟨_, rfl, p, dx, _, rfl, hp, no_R _ _ (by decide +kernel), _, rfl, _, rfl, p, dx, _, rfl, hp, no_R _ _ (by decide +kernel), _, rfl, ?_⟩
  refine ⟨p, dx, n, b, rfl, hn, ib, ?_⟩
  rcases k with ⟨nz, k⟩ | ⟨z0, k⟩
  · exact .inl ⟨nz, fun f hf => ⟨p, dx, n, a, f, rfl, hn, ia, ⟨hf.1, hf.2.1⟩, k f hf⟩⟩
  · exact .inr ⟨z0, k⟩
end
end K6
namespace K6
open PySem L2
open K1 K2 K3
section
variable {P : Program} {w : World} {K : PySem.W.Frag} {mg : Str → Option Value} {base : Heap} {f : Addr} {fd : FuncData} {C_Ring C_Fractions C_Rests C_Order C_Degrees C_Tails C_Weights : Addr} {E_NoOrder E_NoOver E_NoPrime E_NoRing : Addr} {tk_Made tk_MadeR : Tok}
local macro_rules | `(tactic| walk_at "sd") => `(tactic| first
  | assumption | (dsimp only; omega) | (dsimp only; decide) | exact ⟨by decide, by decide⟩ | exact ⟨by decide, by decide, by decide⟩ | exact Or.inl ⟨by decide, by decide⟩ | exact ⟨by omega, by omega⟩ | exact Or.inl ⟨by omega, by omega⟩ | exact Or.inr ⟨by decide, by decide⟩ | exact Or.inr ⟨by omega, by omega⟩)
local macro_rules | `(tactic| walk_at "rd") => `(tactic| repeat first
  | refine ⟨_, rfl, ?_⟩ | refine ⟨_, _, rfl, rfl, ?_⟩ | refine And.intro rfl ?_ | refine And.intro (by walk_at "sd") ?_ | with_reducible refine iteT ?_ | with_reducible refine iteF ?_ | (apply ixT_of; assumption; rfl))
local macro_rules | `(tactic| walk_at "clo") => `(tactic| exact h)

theorem scMadeR : FnScope ["self", "top", "bottom"] ["self", "top", "bottom"] (defScope s_Rests_made) := ⟨rfl, rfl, rfl, by decide +kernel, rfl, by decide +kernel, by decide +kernel⟩
set_option maxHeartbeats 4000000 in
theorem ok_MadeR  {dT : Addr} (F : FunD K "made" "Rests.made" s_Rests_made (.ref dT) f fd) (T : Txt K mg C_Ring C_Fractions C_Rests C_Order C_Degrees C_Tails C_Weights) (m_OvR : MCal P w K mg base (CXe P w) 2 C_Rests "over" ["self", "a", "b"] [] (spOvR C_Rests E_NoOver))  : FnOk P w K mg base (CXe P w) 3 f fd ["self", "top", "bottom"] (spMdR C_Rests E_NoOver) := by
  refine F.okX (k := 2) scMadeR (fun vs H Q E h => ?_) (fun cdv A outer s H vs Q E hr h => ?_)
  · obtain ⟨p, dx, n, t, b, rfl, _⟩ := h
    rfl
  obtain ⟨p, dx, n, t, b, rfl, h⟩ := h
  refine ⟨_, (pss_one (ps_ret (pe_m m_OvR (pv 0) hr passesS_body .nil ((pa_cons (pe_op op_mod (pv 1) (pe_fldK (K := K) rfl (pv 0) rfl)) (pa_cons (pe_op op_mod (pv 2) (pe_fldK (K := K) rfl (pv 0) rfl)) pa_nil)))))), ?_⟩
  obtain ⟨hn, k⟩ := h
  have hp := hn.1
  have p2 := hn.2.1.1
  refine ⟨_, rfl, p, dx, _, rfl, hp, no_R _ _ (by decide +kernel), ?_⟩
  refine ⟨_, rfl, _, rfl, p, C_Rests, dx, _, _, rfl, hp, T.cl_Rests, T.na_Rests_prime, rfl, _, _, rfl, rfl, (by show 0 < n; omega), ?_⟩
  refine ⟨_, rfl, _, rfl, p, C_Rests, dx, _, _, rfl, hp, T.cl_Rests, T.na_Rests_prime, rfl, _, _, rfl, rfl, (by show 0 < n; omega), ?_⟩
  exact ⟨p, dx, n, _, _, rfl, hn, .mod _ hn.2.1, .mod _ hn.2.1, k⟩
end
end K6
namespace K6
open PySem L2
open K1 K2 K3
section
variable {P : Program} {w : World} {K : PySem.W.Frag} {mg : Str → Option Value} {base : Heap} {f : Addr} {fd : FuncData} {C_Ring C_Fractions C_Rests C_Order C_Degrees C_Tails C_Weights : Addr} {E_NoOrder E_NoOver E_NoPrime E_NoRing : Addr} {tk_Made tk_MadeR : Tok}
local macro_rules | `(tactic| walk_at "sd") => `(tactic| first
  | assumption | (dsimp only; omega) | (dsimp only; decide) | exact ⟨by decide, by decide⟩ | exact ⟨by decide, by decide, by decide⟩ | exact Or.inl ⟨by decide, by decide⟩ | exact ⟨by omega, by omega⟩ | exact Or.inl ⟨by omega, by omega⟩ | exact Or.inr ⟨by decide, by decide⟩ | exact Or.inr ⟨by omega, by omega⟩)
local macro_rules | `(tactic| walk_at "rd") => `(tactic| repeat first
  | refine ⟨_, rfl, ?_⟩ | refine ⟨_, _, rfl, rfl, ?_⟩ | refine And.intro rfl ?_ | refine And.intro (by walk_at "sd") ?_ | with_reducible refine iteT ?_ | with_reducible refine iteF ?_ | (apply ixT_of; assumption; rfl))
local macro_rules | `(tactic| walk_at "clo") => `(tactic| exact h)

theorem scRankO : FnScope ["self", "term"] ["self", "term"] (defScope s_Order_rank) := ⟨rfl, rfl, rfl, by decide +kernel, rfl, by decide +kernel, by decide +kernel⟩
set_option maxHeartbeats 4000000 in
theorem ok_RankO  (F : FunD K "rank" "Order.rank" s_Order_rank .none f fd) (T : Txt K mg C_Ring C_Fractions C_Rests C_Order C_Degrees C_Tails C_Weights)   : FnOk P w K mg base CX0 1 f fd ["self", "term"] (spRank (AtO C_Order) rkL) := by
  refine F.okN (k := 0) scRankO (fun vs H Q E h => ?_) (fun cdv A outer s H vs Q E hr h => ?_)
  · obtain ⟨p, t, xs, rfl, _⟩ := h
    rfl
  obtain ⟨p, t, xs, rfl, h⟩ := h
  refine ⟨_, (pss_one (ps_ret (pe_callTy (call_tupleK (K := K) rfl) rfl T.b_tuple (by kernel_rfl) ((pa_cons (pv 1) pa_nil))))), ?_⟩
  obtain ⟨hp, ht0, px, k⟩ := h
  have ht := SqT.of (K := K) ht0
  exact ⟨_, rfl, t, _, rfl, .inr ⟨ht, k t H (Same.refl _) ht0⟩⟩
end
end K6
namespace K6
open PySem L2
open K1 K2 K3
section
variable {P : Program} {w : World} {K : PySem.W.Frag} {mg : Str → Option Value} {base : Heap} {f : Addr} {fd : FuncData} {C_Ring C_Fractions C_Rests C_Order C_Degrees C_Tails C_Weights : Addr} {E_NoOrder E_NoOver E_NoPrime E_NoRing : Addr} {tk_Made tk_MadeR : Tok}
local macro_rules | `(tactic| walk_at "sd") => `(tactic| first
  | assumption | (dsimp only; omega) | (dsimp only; decide) | exact ⟨by decide, by decide⟩ | exact ⟨by decide, by decide, by decide⟩ | exact Or.inl ⟨by decide, by decide⟩ | exact ⟨by omega, by omega⟩ | exact Or.inl ⟨by omega, by omega⟩ | exact Or.inr ⟨by decide, by decide⟩ | exact Or.inr ⟨by omega, by omega⟩)
local macro_rules | `(tactic| walk_at "rd") => `(tactic| repeat first
  | refine ⟨_, rfl, ?_⟩ | refine ⟨_, _, rfl, rfl, ?_⟩ | refine And.intro rfl ?_ | refine And.intro (by walk_at "sd") ?_ | with_reducible refine iteT ?_ | with_reducible refine iteF ?_ | (apply ixT_of; assumption; rfl))
local macro_rules | `(tactic| walk_at "clo") => `(tactic| exact h)

theorem scRankD : FnScope ["self", "term"] ["self", "term"] (defScope s_Degrees_rank) := ⟨rfl, rfl, rfl, by decide +kernel, rfl, by decide +kernel, by decide +kernel⟩
set_option maxHeartbeats 4000000 in
theorem ok_RankD  (F : FunD K "rank" "Degrees.rank" s_Degrees_rank .none f fd) (T : Txt K mg C_Ring C_Fractions C_Rests C_Order C_Degrees C_Tails C_Weights) (c_Deg : Cal P w K mg base CX0 1 "degree" ["term"] [] (spDeg K))  : FnOk P w K mg base CX0 2 f fd ["self", "term"] (spRank (AtO C_Degrees) rkD) := by
  refine F.okN (k := 1) scRankD (fun vs H Q E h => ?_) (fun cdv A outer s H vs Q E hr h => ?_)
  · obtain ⟨p, t, xs, rfl, _⟩ := h
    rfl
  obtain ⟨p, t, xs, rfl, h⟩ := h
  refine ⟨_, (pss_one (ps_ret (pe_op op_catT (pe_tup ((pa_cons (pe_c c_Deg hr pass00 .nil ((pa_cons (pv 1) pa_nil))) pa_nil))) (pe_callTy (call_tupleK (K := K) rfl) rfl T.b_tuple (by kernel_rfl) ((pa_cons (pv 1) pa_nil)))))), ?_⟩
  obtain ⟨hp, ht0, px, k⟩ := h
  have ht := SqT.of (K := K) ht0
  refine ⟨_, rfl, t, xs, rfl, ht, (by show 1 ≤ sizeLine; decide), fun l hl => ?_⟩
  have e1 : Same H (upd H l (HO.tup [V.int xs.sum])) := Same.upd hl
  refine ⟨_, rfl, t, _, rfl, .inr ⟨e1.seqT ht, ?_⟩⟩
  refine ⟨_, _, _, _, rfl, rfl, SqT.of (upd_same), e1.seqT ht, by simp, by simp; exact Nat.le_trans (Nat.add_le_add_left px.len 1) (by rw [sizeLine_eq]; decide), fun z => ?_, fun _ r hr' => ?_⟩
  · exact absurd (List.map_eq_nil_iff.mp z) px.ne
  · exact k r _ (e1.updR (e1.free hr')) upd_same
end
end K6
namespace K6
open PySem L2
open K1 K2 K3
section
variable {P : Program} {w : World} {K : PySem.W.Frag} {mg : Str → Option Value} {base : Heap} {f : Addr} {fd : FuncData} {C_Ring C_Fractions C_Rests C_Order C_Degrees C_Tails C_Weights : Addr} {E_NoOrder E_NoOver E_NoPrime E_NoRing : Addr} {tk_Made tk_MadeR : Tok}
local macro_rules | `(tactic| walk_at "sd") => `(tactic| first
  | assumption | (dsimp only; omega) | (dsimp only; decide) | exact ⟨by decide, by decide⟩ | exact ⟨by decide, by decide, by decide⟩ | exact Or.inl ⟨by decide, by decide⟩ | exact ⟨by omega, by omega⟩ | exact Or.inl ⟨by omega, by omega⟩ | exact Or.inr ⟨by decide, by decide⟩ | exact Or.inr ⟨by omega, by omega⟩)
local macro_rules | `(tactic| walk_at "rd") => `(tactic| repeat first
  | refine ⟨_, rfl, ?_⟩ | refine ⟨_, _, rfl, rfl, ?_⟩ | refine And.intro rfl ?_ | refine And.intro (by walk_at "sd") ?_ | with_reducible refine iteT ?_ | with_reducible refine iteF ?_ | (apply ixT_of; assumption; rfl))
local macro_rules | `(tactic| walk_at "clo") => `(tactic| exact h)

theorem scRankT : FnScope ["self", "term"] ["self", "term"] (defScope s_Tails_rank) := ⟨rfl, rfl, rfl, by decide +kernel, rfl, by decide +kernel, by decide +kernel⟩
set_option maxHeartbeats 4000000 in
theorem ok_RankT  (F : FunD K "rank" "Tails.rank" s_Tails_rank .none f fd) (T : Txt K mg C_Ring C_Fractions C_Rests C_Order C_Degrees C_Tails C_Weights) (c_Deg : Cal P w K mg base CX0 1 "degree" ["term"] [] (spDeg K))  : FnOk P w K mg base CX0 2 f fd ["self", "term"] (spRank (AtO C_Tails) rkT) := by
  refine F.okN (k := 1) scRankT (fun vs H Q E h => ?_) (fun cdv A outer s H vs Q E hr h => ?_)
  · obtain ⟨p, t, xs, rfl, _⟩ := h
    rfl
  obtain ⟨p, t, xs, rfl, h⟩ := h
  refine ⟨_, (pss_one (ps_ret (pe_op op_catT (pe_tup ((pa_cons (pe_c c_Deg hr pass00 .nil ((pa_cons (pv 1) pa_nil))) pa_nil))) (pe_callTy (call_tupleK (K := K) rfl) rfl T.b_tuple (by kernel_rfl) ((pa_cons (pe_comp (N := ["power"]) (Blk.plain (by decide +kernel) (by decide +kernel) rfl (by decide +kernel) nd_power) rfl (pi_revK (K := K) rfl rfl T.b_reversed ((pa_cons (pv 1) pa_nil))) (fun C0 s0 H0 fp0 => pg_one (i := 0) nd_power rfl rfl) (fun C0 s0 H0 fp0 => pts_nil) (fun C0 s0 H0 fp0 => pe_un un_neg (pv 0))) pa_nil)))))), ?_⟩
  obtain ⟨hp, ht0, px, k⟩ := h
  have ht := SqT.of (K := K) ht0
  refine ⟨_, rfl, t, xs, rfl, ht, (by show 1 ≤ sizeLine; decide), fun l hl => ?_⟩
  have e1 : Same H (upd H l (HO.tup [V.int xs.sum])) := Same.upd hl
  have ht1 := e1.seqT ht
  have lm : (xs.map V.int).length = xs.length := List.length_map _
  show tComp _ _ _ _ _ _ _ _
  refine walk_comp (J := Itv K t (xs.map V.int).length) (H1 := upd H l (HO.tup [V.int xs.sum])) (walk_rvd ht1) (by rw [lm]; exact Nat.le_trans px.len (by decide)) ?_ (fun σ => σ.length = 1) (fun _ => true) (fun i => .int (-(xs.getD (xs.length - 1 - i) 0))) rfl ?_ fun D H' e hL => ?_
  · exact fun R hR => ⟨_, rfl, t, _, rfl, ht1, hR⟩
  · rintro i x σ' H2 hi hs e hx Ny Nn hy hn
    rw [lm] at hx
    rw [getD_of_map hx]
    match σ', hs with
    | [_], _ => exact ⟨_, rfl, _, rfl, hy _ _ rfl (Same.refl _) rfl⟩
  rw [List.filter_eq_self.mpr (fun _ _ => rfl), lm] at hL
  have eL : (List.range xs.length).map (fun i => V.int (-(xs.getD (xs.length - 1 - i) 0))) = (xs.reverse.map fun x => -x).map V.int := by
    rw [← rev_getD xs fun x => -x, List.map_map]; rfl
  rw [eL] at hL
  refine ⟨D, _, rfl, .inl ⟨SqL.of hL, fun m hm => ?_⟩⟩
  have e2 : Same H' (upd H' m (HO.tup ((xs.reverse.map fun x => -x).map V.int))) := Same.upd hm
  have e3 := (e1.trans e).trans e2
  refine ⟨l, m, _, _, rfl, rfl, SqT.of (e2 _ _ (e _ _ upd_same)), SqT.of upd_same, by simp, by simp; exact Nat.le_trans (Nat.add_le_add_left px.len 1) (by rw [sizeLine_eq]; decide), fun z => ?_, fun _ r hr' => ?_⟩
  · exact absurd (by simpa using z) px.ne
  · exact k r _ (e3.updR (e3.free hr')) upd_same
end
end K6
namespace K6
open PySem L2
open K1 K2 K3
section
variable {P : Program} {w : World} {K : PySem.W.Frag} {mg : Str → Option Value} {base : Heap} {f : Addr} {fd : FuncData} {C_Ring C_Fractions C_Rests C_Order C_Degrees C_Tails C_Weights : Addr} {E_NoOrder E_NoOver E_NoPrime E_NoRing : Addr} {tk_Made tk_MadeR : Tok}
local macro_rules | `(tactic| walk_at "sd") => `(tactic| first
  | assumption | (dsimp only; omega) | (dsimp only; decide) | exact ⟨by decide, by decide⟩ | exact ⟨by decide, by decide, by decide⟩ | exact Or.inl ⟨by decide, by decide⟩ | exact ⟨by omega, by omega⟩ | exact Or.inl ⟨by omega, by omega⟩ | exact Or.inr ⟨by decide, by decide⟩ | exact Or.inr ⟨by omega, by omega⟩)
local macro_rules | `(tactic| walk_at "rd") => `(tactic| repeat first
  | refine ⟨_, rfl, ?_⟩ | refine ⟨_, _, rfl, rfl, ?_⟩ | refine And.intro rfl ?_ | refine And.intro (by walk_at "sd") ?_ | with_reducible refine iteT ?_ | with_reducible refine iteF ?_ | (apply ixT_of; assumption; rfl))
local macro_rules | `(tactic| walk_at "clo") => `(tactic| exact h)

theorem scWInit : FnScope ["self", "weights"] ["self", "weights"] (defScope s_Weights___init__) := ⟨rfl, rfl, rfl, by decide +kernel, rfl, by decide +kernel, by decide +kernel⟩
set_option maxHeartbeats 4000000 in
theorem ok_WInit  (F : FunD K "__init__" "Weights.__init__" s_Weights___init__ .none f fd) (T : Txt K mg C_Ring C_Fractions C_Rests C_Order C_Degrees C_Tails C_Weights) (x_NoOrder : Exc K mg base "NoOrder" E_NoOrder)  : FnOk P w K mg base (CXe P w) 1 f fd ["self", "weights"] (spWInit K C_Weights E_NoOrder) := by
  refine F.okX (k := 0) scWInit (fun vs H Q E h => ?_) (fun cdv A outer s H vs Q E hr h => ?_)
  · obtain ⟨p, dx, l, ws, rfl, _⟩ := h
    rfl
  obtain ⟨p, dx, l, ws, rfl, h⟩ := h
  refine ⟨_, (pss_cons (ps_if (pt_val (pe_callB (call_anyK (K := K) rfl rfl) rfl T.b_any (by kernel_rfl) ((pa_cons (pe_comp (N := ["weight"]) (Blk.plain (by decide +kernel) (by decide +kernel) rfl (by decide +kernel) nd_weight) rfl (pi_listK (K := K) rfl (pv 1)) (fun C0 s0 H0 fp0 => pg_one (i := 0) nd_weight rfl rfl) (fun C0 s0 H0 fp0 => pts_nil) (fun C0 s0 H0 fp0 => pe_cmpR op_lt (pv 0) (pe_int) (nomark _))) pa_nil)))) (pss_one (ps_rz x_NoOrder rfl rfl raisesTo_body ((pa_cons (pe_str) pa_nil)))) pss_nil)
    (pss_one (ps_fld (pv 0) (pe_callTy (call_tupleK (K := K) rfl) rfl T.b_tuple (by kernel_rfl) ((pa_cons (pv 1) pa_nil))) rfl))), ?_⟩
  obtain ⟨hp, hl, hlen, k⟩ := h
  have lm : (ws.map V.int).length = ws.length := List.length_map _
  show tComp _ _ _ _ _ _ _ _
  refine walk_comp (J := Itl K l) (H1 := H) (walk_list hl) (by rw [lm]; exact Nat.le_trans hlen (by decide)) ?_ (fun σ => σ.length = 1) (fun _ => true) (fun i => .bl (decide (ws.getD i 0 < 0))) rfl ?_ fun D H' e hL => ?_
  · exact fun R hR => ⟨_, rfl, l, rfl, ⟨_, hl⟩, hR⟩
  · rintro i x σ' H2 hi hs e hx Ny Nn hy hn
    rw [getD_of_map hx]
    match σ', hs with
    | [_], _ => exact ⟨_, rfl, _, _, rfl, rfl, hy _ _ rfl (Same.refl _) rfl⟩
  rw [List.filter_eq_self.mpr (fun _ _ => rfl), lm] at hL
  have eL : (List.range ws.length).map (fun i => V.bl (decide (ws.getD i 0 < 0))) = ((List.range ws.length).map fun i => decide (ws.getD i 0 < 0)).map V.bl := by rw [List.map_map]; rfl
  rw [eL] at hL
  refine ⟨D, _, rfl, SqL.of hL, _, rfl, ?_⟩
  rw [any_neg]
  refine cN (fun c => ?_) (fun c => ?_)
  · refine ⟨(by show 1 ≤ sizeLine; decide), ?_⟩
    rcases k with ⟨q, _⟩ | ⟨_, q⟩
    · exact absurd q c
    · exact q H' e
  rcases k with ⟨_, k⟩ | ⟨q, _⟩
  case inr => exact absurd c q
  refine ⟨_, rfl, l, _, rfl, .inl ⟨e.seq hl, fun m hm => ?_⟩⟩
  have e2 : Same H' (upd H' m (HO.tup (ws.map V.int))) := Same.upd hm
  have hp2 := e2 _ _ (e _ _ hp)
  have npm : m ≠ p := fun z => by subst z; rw [e _ _ hp] at hm; cases hm
  refine ⟨_, rfl, p, C_Weights, dx, [], rfl, hp2, T.cl_Weights, T.na_Weights_weights, (by show 0 < 1000; decide), ?_⟩
  refine k m _ upd_same (by rw [upd_ne npm]; exact upd_same) fun b o hb nb => ?_
  rw [upd_ne nb]
  exact e2 _ _ (e _ _ hb)
end
end K6
namespace K6
open PySem L2
open K1 K2 K3
section
variable {P : Program} {w : World} {K : PySem.W.Frag} {mg : Str → Option Value} {base : Heap} {f : Addr} {fd : FuncData} {C_Ring C_Fractions C_Rests C_Order C_Degrees C_Tails C_Weights : Addr} {E_NoOrder E_NoOver E_NoPrime E_NoRing : Addr} {tk_Made tk_MadeR : Tok}
local macro_rules | `(tactic| walk_at "sd") => `(tactic| first
  | assumption | (dsimp only; omega) | (dsimp only; decide) | exact ⟨by decide, by decide⟩ | exact ⟨by decide, by decide, by decide⟩ | exact Or.inl ⟨by decide, by decide⟩ | exact ⟨by omega, by omega⟩ | exact Or.inl ⟨by omega, by omega⟩ | exact Or.inr ⟨by decide, by decide⟩ | exact Or.inr ⟨by omega, by omega⟩)
local macro_rules | `(tactic| walk_at "rd") => `(tactic| repeat first
  | refine ⟨_, rfl, ?_⟩ | refine ⟨_, _, rfl, rfl, ?_⟩ | refine And.intro rfl ?_ | refine And.intro (by walk_at "sd") ?_ | with_reducible refine iteT ?_ | with_reducible refine iteF ?_ | (apply ixT_of; assumption; rfl))
local macro_rules | `(tactic| walk_at "clo") => `(tactic| exact h)

theorem scRankW : FnScope ["self", "term", "weighed"] ["self", "term"] (defScope s_Weights_rank) := ⟨rfl, rfl, rfl, by decide +kernel, rfl, by decide +kernel, by decide +kernel⟩
set_option maxHeartbeats 4000000 in
theorem ok_RankW {ws : List Int} (F : FunD K "rank" "Weights.rank" s_Weights_rank .none f fd) (T : Txt K mg C_Ring C_Fractions C_Rests C_Order C_Degrees C_Tails C_Weights)  (hwn : Nn ws) (hwb : ∀ x ∈ ws, x < 10 ^ 31) : FnOk P w K mg base CX0 1 f fd ["self", "term"] (spRank (AtW C_Weights ws) (rkW ws)) := by
  refine F.okN (k := 0) scRankW (fun vs H Q E h => ?_) (fun cdv A outer s H vs Q E hr h => ?_)
  · obtain ⟨p, t, xs, rfl, _⟩ := h
    rfl
  obtain ⟨p, t, xs, rfl, h⟩ := h
  refine ⟨_, (pss_cons (ps_set (i := 2) scRankW.nd rfl (Or.inl rfl) (pe_callB (call_sumK (K := K) rfl false rfl) rfl T.b_sum (by kernel_rfl) ((pa_cons (pe_comp (N := ["power", "weight"]) (Blk.plain (by decide +kernel) (by decide +kernel) rfl (by decide +kernel) nd_power_weight) rfl (pi_zipK (K := K) rfl true true rfl T.b_zip ((pa_cons (pv 1) (pa_cons (pe_fldK (K := K) rfl (pv 0) rfl) pa_nil)))) (fun C0 s0 H0 fp0 => pg_two (K := K) rfl rfl rfl nd_power_weight rfl rfl) (fun C0 s0 H0 fp0 => pts_nil) (fun C0 s0 H0 fp0 => pe_op op_mulB (pv 0) (pv 1))) pa_nil))))
    (pss_one (ps_ret (pe_op op_catT (pe_tup ((pa_cons (pv 2) pa_nil))) (pe_callTy (call_tupleK (K := K) rfl) rfl T.b_tuple (by kernel_rfl) ((pa_cons (pv 1) pa_nil))))))), ?_⟩
  obtain ⟨hp, ht0, px, k⟩ := h
  have ht := SqT.of (K := K) ht0
  obtain ⟨dx, wt, hq, hw⟩ := id hp
  show tComp _ _ _ _ _ _ _ _
  refine zip_comp (K := K) (b1 := true) (b2 := true) (a := t) (b := wt) (xs := xs) (ys := ws) yes2 (fun x y => .int (x * y)) (by rfl) ?_ ht (SqT.of hw) (Nat.le_trans px.len (by decide)) ?_ ?_ fun D H' e hL => ?_
  · exact fun R hR => ⟨_, rfl, _, rfl, p, C_Weights, dx, _, _, rfl, hq, T.cl_Weights, T.na_Weights_weights, rfl, hR⟩
  · exact fun _ _ _ h => h
  · exact fun i H' R _ h => ⟨_, rfl, _, rfl, _, _, rfl, rfl, ⟨bits px.nn px.hi i, bits hwn hwb i⟩, h⟩
  rw [zipV_W] at hL
  refine ⟨D, _, rfl, SqL.of hL, ?_⟩
  refine ⟨_, rfl, (by show 1 ≤ sizeLine; decide), fun l hl => ?_⟩
  have e1 : Same H' (upd H' l (HO.tup [V.int (wsum ws xs)])) := Same.upd hl
  have e2 := e.trans e1
  refine ⟨_, rfl, t, _, rfl, .inr ⟨e2.seqT ht, ?_⟩⟩
  refine ⟨_, _, _, _, rfl, rfl, SqT.of (upd_same), e2.seqT ht, by simp, by simp; exact Nat.le_trans (Nat.add_le_add_left px.len 1) (by rw [sizeLine_eq]; decide), fun z => ?_, fun _ r hr' => ?_⟩
  · exact absurd (List.map_eq_nil_iff.mp z) px.ne
  · exact k r _ (e2.updR (e2.free hr')) upd_same
end
end K6
namespace K6
open PySem L2
open K1 K2 K3
section
variable {P : Program} {w : World} {K : PySem.W.Frag} {mg : Str → Option Value} {base : Heap} {f : Addr} {fd : FuncData} {C_Ring C_Fractions C_Rests C_Order C_Degrees C_Tails C_Weights : Addr} {E_NoOrder E_NoOver E_NoPrime E_NoRing : Addr} {tk_Made tk_MadeR : Tok}
local macro_rules | `(tactic| walk_at "sd") => `(tactic| first
  | assumption | (dsimp only; omega) | (dsimp only; decide) | exact ⟨by decide, by decide⟩ | exact ⟨by decide, by decide, by decide⟩ | exact Or.inl ⟨by decide, by decide⟩ | exact ⟨by omega, by omega⟩ | exact Or.inl ⟨by omega, by omega⟩ | exact Or.inr ⟨by decide, by decide⟩ | exact Or.inr ⟨by omega, by omega⟩)
local macro_rules | `(tactic| walk_at "rd") => `(tactic| repeat first
  | refine ⟨_, rfl, ?_⟩ | refine ⟨_, _, rfl, rfl, ?_⟩ | refine And.intro rfl ?_ | refine And.intro (by walk_at "sd") ?_ | with_reducible refine iteT ?_ | with_reducible refine iteF ?_ | (apply ixT_of; assumption; rfl))
local macro_rules | `(tactic| walk_at "clo") => `(tactic| exact h)

theorem scFitsO : FnScope ["self", "many"] ["self", "many"] (defScope s_Order_fits) := ⟨rfl, rfl, rfl, by decide +kernel, rfl, by decide +kernel, by decide +kernel⟩
set_option maxHeartbeats 4000000 in
theorem ok_FitsO {At : Hp → Addr → Prop} (F : FunD K "fits" "Order.fits" s_Order_fits .none f fd) (T : Txt K mg C_Ring C_Fractions C_Rests C_Order C_Degrees C_Tails C_Weights)   : FnOk P w K mg base CX0 1 f fd ["self", "many"] (spFits At fun _ => true) := by
  refine F.okN (k := 0) scFitsO (fun vs H Q E h => ?_) (fun cdv A outer s H vs Q E hr h => ?_)
  · obtain ⟨p, k, rfl, _⟩ := h
    rfl
  obtain ⟨p, k, rfl, h⟩ := h
  refine ⟨_, (pss_one (ps_ret (pe_bl))), ?_⟩
  exact h.2 H (Same.refl _)
end
end K6
namespace K6
open PySem L2
open K1 K2 K3
section
variable {P : Program} {w : World} {K : PySem.W.Frag} {mg : Str → Option Value} {base : Heap} {f : Addr} {fd : FuncData} {C_Ring C_Fractions C_Rests C_Order C_Degrees C_Tails C_Weights : Addr} {E_NoOrder E_NoOver E_NoPrime E_NoRing : Addr} {tk_Made tk_MadeR : Tok}
local macro_rules | `(tactic| walk_at "sd") => `(tactic| first
  | assumption | (dsimp only; omega) | (dsimp only; decide) | exact ⟨by decide, by decide⟩ | exact ⟨by decide, by decide, by decide⟩ | exact Or.inl ⟨by decide, by decide⟩ | exact ⟨by omega, by omega⟩ | exact Or.inl ⟨by omega, by omega⟩ | exact Or.inr ⟨by decide, by decide⟩ | exact Or.inr ⟨by omega, by omega⟩)
local macro_rules | `(tactic| walk_at "rd") => `(tactic| repeat first
  | refine ⟨_, rfl, ?_⟩ | refine ⟨_, _, rfl, rfl, ?_⟩ | refine And.intro rfl ?_ | refine And.intro (by walk_at "sd") ?_ | with_reducible refine iteT ?_ | with_reducible refine iteF ?_ | (apply ixT_of; assumption; rfl))
local macro_rules | `(tactic| walk_at "clo") => `(tactic| exact h)

theorem scFitsW : FnScope ["self", "many"] ["self", "many"] (defScope s_Weights_fits) := ⟨rfl, rfl, rfl, by decide +kernel, rfl, by decide +kernel, by decide +kernel⟩
set_option maxHeartbeats 4000000 in
theorem ok_FitsW {ws : List Int} (F : FunD K "fits" "Weights.fits" s_Weights_fits .none f fd) (T : Txt K mg C_Ring C_Fractions C_Rests C_Order C_Degrees C_Tails C_Weights)   : FnOk P w K mg base CX0 1 f fd ["self", "many"] (spFits (AtW C_Weights ws) fun k => decide ((ws.length : Int) = k)) := by
  refine F.okN (k := 0) scFitsW (fun vs H Q E h => ?_) (fun cdv A outer s H vs Q E hr h => ?_)
  · obtain ⟨p, k, rfl, _⟩ := h
    rfl
  obtain ⟨p, k, rfl, h⟩ := h
  refine ⟨_, (pss_one (ps_ret (pe_cmpR op_eq (pe_callB (call_lenK (K := K) rfl) rfl T.b_len PySem.boot_len ((pa_cons (pe_fldK (K := K) rfl (pv 0) rfl) pa_nil))) (pv 1) (nomark _)))), ?_⟩
  obtain ⟨hp, q⟩ := h
  obtain ⟨dx, wt, hq, hw⟩ := id hp
  refine ⟨_, rfl, p, C_Weights, dx, _, _, rfl, hq, T.cl_Weights, T.na_Weights_weights, rfl, wt, _, rfl, .inr (SqT.of hw), ?_⟩
  rw [List.length_map]
  walk_at "rd"
  have := q H (Same.refl _)
  rw [dI]
  exact this
end
end K6
namespace K6
open PySem L2
open K1 K2 K3
section
variable {P : Program} {w : World} {K : PySem.W.Frag} {mg : Str → Option Value} {base : Heap} {f : Addr} {fd : FuncData} {C_Ring C_Fractions C_Rests C_Order C_Degrees C_Tails C_Weights : Addr} {E_NoOrder E_NoOver E_NoPrime E_NoRing : Addr} {tk_Made tk_MadeR : Tok}
local macro_rules | `(tactic| walk_at "sd") => `(tactic| first
  | assumption | (dsimp only; omega) | (dsimp only; decide) | exact ⟨by decide, by decide⟩ | exact ⟨by decide, by decide, by decide⟩ | exact Or.inl ⟨by decide, by decide⟩ | exact ⟨by omega, by omega⟩ | exact Or.inl ⟨by omega, by omega⟩ | exact Or.inr ⟨by decide, by decide⟩ | exact Or.inr ⟨by omega, by omega⟩)
local macro_rules | `(tactic| walk_at "rd") => `(tactic| repeat first
  | refine ⟨_, rfl, ?_⟩ | refine ⟨_, _, rfl, rfl, ?_⟩ | refine And.intro rfl ?_ | refine And.intro (by walk_at "sd") ?_ | with_reducible refine iteT ?_ | with_reducible refine iteF ?_ | (apply ixT_of; assumption; rfl))
local macro_rules | `(tactic| walk_at "clo") => `(tactic| exact h)

theorem scRgInit : FnScope ["self", "many", "field", "order"] ["self", "many", "field", "order"] (defScope s_Ring___init__) := ⟨rfl, rfl, rfl, by decide +kernel, rfl, by decide +kernel, by decide +kernel⟩
set_option maxHeartbeats 4000000 in
theorem ok_RgInit  (F : FunD K "__init__" "Ring.__init__" s_Ring___init__ .none f fd) (T : Txt K mg C_Ring C_Fractions C_Rests C_Order C_Degrees C_Tails C_Weights) (x_NoRing : Exc K mg base "NoRing" E_NoRing) (hord : ∀ (kd : Int) (ws : List Int), 0 ≤ kd → kd < 4 → Nn ws → (∀ x ∈ ws, x < 10 ^ 31) → ∃ C, OrdB P w K mg base C (AtK C_Order C_Degrees C_Tails C_Weights kd ws) (rkk kd ws) (fbK kd ws)) : FnOk P w K mg base (CXe P w) 2 f fd ["self", "many", "field", "order"] (spRgInit C_Ring E_NoRing C_Order C_Degrees C_Tails C_Weights) := by
  refine F.okX (k := 1) scRgInit (fun vs H Q E h => ?_) (fun cdv A outer s H vs Q E hr h => ?_)
  · obtain ⟨r, dx, m, pf, po, kd, ws, rfl, _⟩ := h
    rfl
  obtain ⟨r, dx, m, pf, po, kd, ws, rfl, h⟩ := h
  obtain ⟨C, O⟩ := hord kd ws h.2.1 h.2.2.1 h.2.2.2.1 h.2.2.2.2.1
  refine ⟨_, (pss_cons (ps_if (PW.pt (pw_or (pt_cmpR op_lt (pv 1) (pe_int) (nomark _)) (pw_or (pt_cmpR op_gt (pv 1) (pe_callB call_len_str rfl T.b_len PySem.boot_len ((pa_cons (pe_globS T.g_LETTERS rfl) pa_nil))) (nomark _)) (pw_or1 (pt_not (pt_val (pe_m O.fits (pv 3) hr pass00 .nil ((pa_cons (pv 1) pa_nil))))))))) (pss_one (ps_rz x_NoRing rfl rfl raisesTo_body ((pa_cons (pe_str) pa_nil)))) pss_nil)
    (pss_cons (ps_fld (pv 0) (pv 1) rfl)
    (pss_cons (ps_fld (pv 0) (pv 2) rfl)
    (pss_one (ps_fld (pv 0) (pv 3) rfl))))), ?_⟩
  obtain ⟨hr0, k0, k4, wn, wb, hat, k⟩ := h
  have no : ¬ okR kd ws m → ∀ H', Same H H' → E (.ref E_NoRing) none H' := fun q => by
    rcases k with ⟨z, _⟩ | ⟨_, z⟩
    · exact absurd z q
    · exact z
  walk_at "rd"
  refine cD (fun c => ?_) (fun c => ?_)
  · exact ⟨(by show 1 ≤ sizeLine; decide), no (fun z => by have := z.1; omega) H (Same.refl _)⟩
  refine ⟨_, rfl, _, rfl, (by decide +kernel), ?_⟩
  rw [len_xyzt]
  walk_at "rd"
  refine cD (fun c1 => ?_) (fun c1 => ?_)
  · exact ⟨(by show 1 ≤ sizeLine; decide), no (fun z => by have := z.2.1; omega) H (Same.refl _)⟩
  obtain ⟨dO, fs, hq, nl⟩ := O.oC.ins hat
  refine ⟨_, rfl, po, dO, fs, rfl, hq, nl "fits" (by decide +kernel), _, rfl, po, m, rfl, hat, fun H1 e1 => ?_⟩
  refine ⟨_, rfl, cNB (fun c2 => ?_) (fun c2 => ?_)⟩
  · exact ⟨(by show 1 ≤ sizeLine; decide), no (fun z => by rw [z.2.2] at c2; cases c2) H1 e1⟩
  rcases k with ⟨_, k⟩ | ⟨q, _⟩
  case inr => exact absurd ⟨by omega, by omega, c2⟩ q
  have hr1 := e1 _ _ hr0
  refine ⟨_, rfl, _, rfl, r, C_Ring, dx, _, rfl, hr1, T.cl_Ring, T.na_Ring_many, (by show 0 < 1000; decide), ?_⟩
  refine ⟨_, rfl, _, rfl, r, C_Ring, dx, _, rfl, upd_same, T.cl_Ring, T.na_Ring_field, (by show 1 < 1000; decide), ?_⟩
  refine ⟨_, rfl, _, rfl, r, C_Ring, dx, _, rfl, upd_same, T.cl_Ring, T.na_Ring_order, (by show 2 < 1000; decide), ?_⟩
  refine k _ upd_same fun b o hb ne => ?_
  rw [upd_ne ne, upd_ne ne, upd_ne ne]
  exact e1 _ _ hb
end
end K6
namespace K6
open PySem L2
open K1 K2 K3
section
variable {P : Program} {w : World} {K : PySem.W.Frag} {mg : Str → Option Value} {base : Heap} {f : Addr} {fd : FuncData} {C_Ring C_Fractions C_Rests C_Order C_Degrees C_Tails C_Weights : Addr} {E_NoOrder E_NoOver E_NoPrime E_NoRing : Addr} {tk_Made tk_MadeR : Tok}
local macro_rules | `(tactic| walk_at "sd") => `(tactic| first
  | assumption | (dsimp only; omega) | (dsimp only; decide) | exact ⟨by decide, by decide⟩ | exact ⟨by decide, by decide, by decide⟩ | exact Or.inl ⟨by decide, by decide⟩ | exact ⟨by omega, by omega⟩ | exact Or.inl ⟨by omega, by omega⟩ | exact Or.inr ⟨by decide, by decide⟩ | exact Or.inr ⟨by omega, by omega⟩)
local macro_rules | `(tactic| walk_at "rd") => `(tactic| repeat first
  | refine ⟨_, rfl, ?_⟩ | refine ⟨_, _, rfl, rfl, ?_⟩ | refine And.intro rfl ?_ | refine And.intro (by walk_at "sd") ?_ | with_reducible refine iteT ?_ | with_reducible refine iteF ?_ | (apply ixT_of; assumption; rfl))
local macro_rules | `(tactic| walk_at "clo") => `(tactic| exact h)

theorem scLetters : FnScope ["self"] ["self"] (defScope s_Ring_letters) := ⟨rfl, rfl, rfl, by decide +kernel, rfl, by decide +kernel, by decide +kernel⟩
set_option maxHeartbeats 4000000 in
theorem ok_Letters  (F : FunD K "letters" "Ring.letters" s_Ring_letters .none f fd) (T : Txt K mg C_Ring C_Fractions C_Rests C_Order C_Degrees C_Tails C_Weights)   : FnOk P w K mg base CX0 1 f fd ["self"] (spLetters C_Ring) := by
  refine F.okN (k := 0) scLetters (fun vs H Q E h => ?_) (fun cdv A outer s H vs Q E hr h => ?_)
  · obtain ⟨r, m, pf, po, rfl, _⟩ := h
    rfl
  obtain ⟨r, m, pf, po, rfl, h⟩ := h
  refine ⟨_, (pss_one (ps_ret (pe_slice sl_str (pe_globS T.g_LETTERS rfl) po_none (po_some (pe_fldK (K := K) rfl (pv 0) rfl))))), ?_⟩
  obtain ⟨⟨dx, hr0⟩, m1, m2, k⟩ := h
  walk_at "rd"
  exact ⟨r, C_Ring, dx, _, _, rfl, hr0, T.cl_Ring, T.na_Ring_many, rfl, m, rfl, _, rfl, cut_len m1 m2, k⟩
end
end K6
namespace K6
open PySem L2
open K1 K2 K3
section
variable {P : Program} {w : World} {K : PySem.W.Frag} {mg : Str → Option Value} {base : Heap} {f : Addr} {fd : FuncData} {C_Ring C_Fractions C_Rests C_Order C_Degrees C_Tails C_Weights : Addr} {E_NoOrder E_NoOver E_NoPrime E_NoRing : Addr} {tk_Made tk_MadeR : Tok}
local macro_rules | `(tactic| walk_at "sd") => `(tactic| first
  | assumption | (dsimp only; omega) | (dsimp only; decide) | exact ⟨by decide, by decide⟩ | exact ⟨by decide, by decide, by decide⟩ | exact Or.inl ⟨by decide, by decide⟩ | exact ⟨by omega, by omega⟩ | exact Or.inl ⟨by omega, by omega⟩ | exact Or.inr ⟨by decide, by decide⟩ | exact Or.inr ⟨by omega, by omega⟩)
local macro_rules | `(tactic| walk_at "rd") => `(tactic| repeat first
  | refine ⟨_, rfl, ?_⟩ | refine ⟨_, _, rfl, rfl, ?_⟩ | refine And.intro rfl ?_ | refine And.intro (by walk_at "sd") ?_ | with_reducible refine iteT ?_ | with_reducible refine iteF ?_ | (apply ixT_of; assumption; rfl))
local macro_rules | `(tactic| walk_at "clo") => `(tactic| exact h)

theorem scUnit : FnScope ["self"] ["self"] (defScope s_Ring_unit) := ⟨rfl, rfl, rfl, by decide +kernel, rfl, by decide +kernel, by decide +kernel⟩
set_option maxHeartbeats 4000000 in
theorem ok_Unit  (F : FunD K "unit" "Ring.unit" s_Ring_unit .none f fd) (T : Txt K mg C_Ring C_Fractions C_Rests C_Order C_Degrees C_Tails C_Weights)   : FnOk P w K mg base CX0 1 f fd ["self"] (spUnit C_Ring) := by
  refine F.okN (k := 0) scUnit (fun vs H Q E h => ?_) (fun cdv A outer s H vs Q E hr h => ?_)
  · obtain ⟨r, m, pf, po, rfl, _⟩ := h
    rfl
  obtain ⟨r, m, pf, po, rfl, h⟩ := h
  refine ⟨_, (pss_one (ps_ret (pe_op op_repT (pe_tup ((pa_cons (pe_int) pa_nil))) (pe_fldK (K := K) rfl (pv 0) rfl)))), ?_⟩
  obtain ⟨⟨dx, hr0⟩, m1, m2, k⟩ := h
  refine ⟨(by show 1 ≤ sizeLine; decide), fun t0 ht0 => ?_⟩
  have e1 : Same H (upd H t0 (HO.tup [V.int 0])) := Same.upd ht0
  refine ⟨_, rfl, r, C_Ring, dx, _, _, rfl, e1 _ _ hr0, T.cl_Ring, T.na_Ring_many, rfl, ?_⟩
  refine ⟨t0, [.int 0], m, rfl, rfl, SqT.of upd_same, by simp, m1, by omega, by simp; omega, fun e => ?_, fun h2 p hp => ?_⟩
  · subst e
    exact k t0 _ e1 upd_same
  · rw [zer_rep]
    exact k p _ (e1.updR (e1.free hp)) upd_same
end
end K6
namespace K6
open PySem L2
open K1 K2 K3
section
variable {P : Program} {w : World} {K : PySem.W.Frag} {mg : Str → Option Value} {base : Heap} {f : Addr} {fd : FuncData} {C_Ring C_Fractions C_Rests C_Order C_Degrees C_Tails C_Weights : Addr} {E_NoOrder E_NoOver E_NoPrime E_NoRing : Addr} {tk_Made tk_MadeR : Tok}
local macro_rules | `(tactic| walk_at "sd") => `(tactic| first
  | assumption | (dsimp only; omega) | (dsimp only; decide) | exact ⟨by decide, by decide⟩ | exact ⟨by decide, by decide, by decide⟩ | exact Or.inl ⟨by decide, by decide⟩ | exact ⟨by omega, by omega⟩ | exact Or.inl ⟨by omega, by omega⟩ | exact Or.inr ⟨by decide, by decide⟩ | exact Or.inr ⟨by omega, by omega⟩)
local macro_rules | `(tactic| walk_at "rd") => `(tactic| repeat first
  | refine ⟨_, rfl, ?_⟩ | refine ⟨_, _, rfl, rfl, ?_⟩ | refine And.intro rfl ?_ | refine And.intro (by walk_at "sd") ?_ | with_reducible refine iteT ?_ | with_reducible refine iteF ?_ | (apply ixT_of; assumption; rfl))
local macro_rules | `(tactic| walk_at "clo") => `(tactic| exact h)

theorem scUnk : FnScope ["self", "at"] ["self", "at"] (defScope s_Ring_unknown) := ⟨rfl, rfl, rfl, by decide +kernel, rfl, by decide +kernel, by decide +kernel⟩
set_option maxHeartbeats 4000000 in
theorem ok_Unk  (F : FunD K "unknown" "Ring.unknown" s_Ring_unknown .none f fd) (T : Txt K mg C_Ring C_Fractions C_Rests C_Order C_Degrees C_Tails C_Weights) (c_Alone : Cal P w K mg base CX0 1 "alone" ["many", "at", "power"] [] spAlone) (hfld : ∀ n : Int, n ≤ 9973 → (n = 0 ∨ Pr n) → ∃ C, FldB P w K mg base C (AtN C_Fractions C_Rests n) n (z0N n) (z1N n)) : FnOk P w K mg base CX0 3 f fd ["self", "at"] (spUnk K C_Ring C_Fractions C_Rests z1N) := by
  refine F.okN (k := 2) scUnk (fun vs H Q E h => ?_) (fun cdv A outer s H vs Q E hr h => ?_)
  · obtain ⟨r, m, a, pf, po, n, rfl, _⟩ := h
    rfl
  obtain ⟨r, m, a, pf, po, n, rfl, h⟩ := h
  obtain ⟨CF, B⟩ := hfld n h.2.2.2.2.2.1 h.2.2.2.2.2.2.1
  refine ⟨_, (pss_one (ps_ret (pe_disp1 hr.units0 (pe_c c_Alone hr pass00 .nil ((pa_cons (pe_fldK (K := K) rfl (pv 0) rfl) (pa_cons (pv 1) (pa_cons (pe_int) pa_nil))))) (pe_m0 B.one (pe_fldK (K := K) rfl (pv 0) rfl) hr pass00 .nil)))), ?_⟩
  obtain ⟨⟨dx, hr0⟩, m1, m2, a0, hf, n1, n2, k⟩ := h
  intro d hd
  have e1 : Same H (upd H d (.dT [])) := Same.upd hd
  refine ⟨_, rfl, r, C_Ring, dx, _, _, rfl, e1 _ _ hr0, T.cl_Ring, T.na_Ring_many, rfl, _, rfl, m, a, 1, rfl, m1, by omega, a0, fun t H1 e2 ht => ?_⟩
  have f1 := e1.trans e2
  obtain ⟨dF, hF⟩ := B.ins (B.same f1 hf)
  refine ⟨_, rfl, r, C_Ring, dx, _, _, rfl, f1 _ _ hr0, T.cl_Ring, T.na_Ring_field, rfl, pf, dF, _, rfl, hF, no_P _ _ (by decide +kernel), pf, rfl, B.same f1 hf, fun v H2 e3 hv => ?_⟩
  have d2 : H2 d = some (.dT []) := e3 _ _ (e2 _ _ upd_same)
  refine ⟨t, ky (only m.toNat a.toNat 1), rfl, d2, by rw [ky_kV]; exact e3 _ _ ht, ?_⟩
  exact k d _ v hd ((f1.trans e3).updR hd) upd_same (Rds.updD d2 hv)
end
end K6
namespace K6
open PySem L2
open K1 K2 K3
section
variable {P : Program} {w : World} {K : PySem.W.Frag} {mg : Str → Option Value} {base : Heap} {f : Addr} {fd : FuncData} {C_Ring C_Fractions C_Rests C_Order C_Degrees C_Tails C_Weights : Addr} {E_NoOrder E_NoOver E_NoPrime E_NoRing : Addr} {tk_Made tk_MadeR : Tok}
local macro_rules | `(tactic| walk_at "sd") => `(tactic| first
  | assumption | (dsimp only; omega) | (dsimp only; decide) | exact ⟨by decide, by decide⟩ | exact ⟨by decide, by decide, by decide⟩ | exact Or.inl ⟨by decide, by decide⟩ | exact ⟨by omega, by omega⟩ | exact Or.inl ⟨by omega, by omega⟩ | exact Or.inr ⟨by decide, by decide⟩ | exact Or.inr ⟨by omega, by omega⟩)
local macro_rules | `(tactic| walk_at "rd") => `(tactic| repeat first
  | refine ⟨_, rfl, ?_⟩ | refine ⟨_, _, rfl, rfl, ?_⟩ | refine And.intro rfl ?_ | refine And.intro (by walk_at "sd") ?_ | with_reducible refine iteT ?_ | with_reducible refine iteF ?_ | (apply ixT_of; assumption; rfl))
local macro_rules | `(tactic| walk_at "clo") => `(tactic| exact h)

theorem scCon : FnScope ["self", "number"] ["self", "number"] (defScope s_Ring_constant) := ⟨rfl, rfl, rfl, by decide +kernel, rfl, by decide +kernel, by decide +kernel⟩
set_option maxHeartbeats 4000000 in
theorem ok_Con  (F : FunD K "constant" "Ring.constant" s_Ring_constant .none f fd) (T : Txt K mg C_Ring C_Fractions C_Rests C_Order C_Degrees C_Tails C_Weights) (m_Unit : MCal P w K mg base CX0 1 C_Ring "unit" ["self"] [] (spUnit C_Ring)) (hfld : ∀ n : Int, n ≤ 9973 → (n = 0 ∨ Pr n) → ∃ C, FldB P w K mg base C (AtN C_Fractions C_Rests n) n (z0N n) (z1N n)) : FnOk P w K mg base CX0 3 f fd ["self", "number"] (spCon K C_Ring C_Fractions C_Rests z0N) := by
  refine F.okN (k := 2) scCon (fun vs H Q E h => ?_) (fun cdv A outer s H vs Q E hr h => ?_)
  · obtain ⟨r, m, v, dn, pf, po, n, rfl, _⟩ := h
    rfl
  obtain ⟨r, m, v, dn, pf, po, n, rfl, h⟩ := h
  obtain ⟨CF, B⟩ := hfld n h.2.2.2.2.1 h.2.2.2.2.2.1
  refine ⟨_, (pss_cons (ps_if (pt_cmpR (op_eqD hr.units) (pv 1) (pe_m0 B.nought (pe_fldK (K := K) rfl (pv 0) rfl) hr pass00 .nil) (nomark _)) (pss_one (ps_ret (pe_dnewT))) pss_nil)
    (pss_one (ps_ret (pe_disp1 hr.units0 (pe_m0 m_Unit (pv 0) hr pass00 .nil) (pv 1))))), ?_⟩
  obtain ⟨⟨dx, hr0⟩, m1, m2, hf, n1, n2, hv, nm, k1, k2⟩ := h
  obtain ⟨dF, hF⟩ := B.ins hf
  refine ⟨_, rfl, _, rfl, r, C_Ring, dx, _, _, rfl, hr0, T.cl_Ring, T.na_Ring_field, rfl, pf, dF, _, rfl, hF, no_P _ _ (by decide +kernel), pf, rfl, hf, fun u H1 e1 hu => ?_⟩
  refine ⟨dn, z0N n, Rds.same e1 hv, hu, nm.shaped, B.n0.shaped, _, rfl, ?_⟩
  cases c : PyData.eqv dn (z0N n) with
  | true => exact iteT fun d hd => k1 c d _ (e1.free hd) (e1.updR (e1.free hd)) upd_same
  | false =>
    refine iteF fun d hd => ?_
    have hd0 := e1.free hd
    have e2 := e1.updR (o := .dT []) hd0
    have d1 : (upd H1 d (HO.dT [])) d = some (.dT []) := upd_same
    generalize upd H1 d (HO.dT []) = H2 at e2 d1
    refine ⟨_, rfl, r, dx, _, rfl, e2 _ _ hr0, no_G _ (by decide +kernel) (by decide +kernel) (by decide +kernel), r, m, pf, po, rfl, ⟨dx, e2 _ _ hr0⟩, m1, m2, fun t H3 e3 ht => ?_⟩
    refine ⟨_, rfl, t, ky (zer m.toNat), rfl, e3 _ _ d1, by rw [ky_kV]; exact ht, ?_⟩
    exact k2 c d _ hd0 ((e2.trans e3).updR hd0) upd_same
end
end K6
namespace K6
open PySem L2
open K1 K2 K3
section
variable {P : Program} {w : World} {K : PySem.W.Frag} {mg : Str → Option Value} {base : Heap} {f : Addr} {fd : FuncData} {C_Ring C_Fractions C_Rests C_Order C_Degrees C_Tails C_Weights : Addr} {E_NoOrder E_NoOver E_NoPrime E_NoRing : Addr} {tk_Made tk_MadeR : Tok}
local macro_rules | `(tactic| walk_at "sd") => `(tactic| first
  | assumption | (dsimp only; omega) | (dsimp only; decide) | exact ⟨by decide, by decide⟩ | exact ⟨by decide, by decide, by decide⟩ | exact Or.inl ⟨by decide, by decide⟩ | exact ⟨by omega, by omega⟩ | exact Or.inl ⟨by omega, by omega⟩ | exact Or.inr ⟨by decide, by decide⟩ | exact Or.inr ⟨by omega, by omega⟩)
local macro_rules | `(tactic| walk_at "rd") => `(tactic| repeat first
  | refine ⟨_, rfl, ?_⟩ | refine ⟨_, _, rfl, rfl, ?_⟩ | refine And.intro rfl ?_ | refine And.intro (by walk_at "sd") ?_ | with_reducible refine iteT ?_ | with_reducible refine iteF ?_ | (apply ixT_of; assumption; rfl))
local macro_rules | `(tactic| walk_at "clo") => `(tactic| exact h)

theorem scCell : FnScope ["_law_script", "_law_k"] ["_law_script", "_law_k"] (defScope s__law_cell) := ⟨rfl, rfl, rfl, by decide +kernel, rfl, by decide +kernel, by decide +kernel⟩
set_option maxHeartbeats 4000000 in
theorem ok_Cell  (F : FunD K "_law_cell" "_law_cell" s__law_cell .none f fd) (T : Txt K mg C_Ring C_Fractions C_Rests C_Order C_Degrees C_Tails C_Weights)   : FnOk P w K mg base CX0 1 f fd ["_law_script", "_law_k"] (spCell K) := by
  refine F.okN (k := 0) scCell (fun vs H Q E h => ?_) (fun cdv A outer s H vs Q E hr h => ?_)
  · obtain ⟨a, ns, k, rfl, _⟩ := h
    rfl
  obtain ⟨a, ns, k, rfl, h⟩ := h
  refine ⟨_, (pss_cons (ps_if (pt_cmpR op_lt (pv 1) (pe_callB (call_lenK (K := K) rfl) rfl T.b_len PySem.boot_len ((pa_cons (pv 0) pa_nil))) (nomark _)) (pss_one (ps_ret (pe_ix (r := rIxL K) ix_list (pv 0) (pv 1) (fun _ _ => rfl)))) pss_nil)
    (pss_one (ps_ret (pe_int)))), ?_⟩
  obtain ⟨hS, h0, q⟩ := h
  have hl : (ns.map V.int).length = ns.length := List.length_map _
  refine ⟨_, rfl, _, rfl, a, _, rfl, .inl hS, ?_⟩
  walk_at "rd"
  refine cD (fun c => ?_) (fun c => ?_)
  · rw [hl] at c
    exact ⟨_, rfl, _, rfl, a, _, _, _, rfl, rfl, hS, atI_int h0 c, q⟩
  · rw [hl] at c
    have e : cellOf ns k = 0 := by unfold cellOf; rw [List.getD_eq_getElem?_getD, List.getElem?_eq_none (by omega)]; rfl
    rw [e] at q
    exact q
end
end K6
namespace K6
open PySem L2
open K1 K2 K3
section
variable {P : Program} {w : World} {K : PySem.W.Frag} {mg : Str → Option Value} {base : Heap} {f : Addr} {fd : FuncData} {C_Ring C_Fractions C_Rests C_Order C_Degrees C_Tails C_Weights : Addr} {E_NoOrder E_NoOver E_NoPrime E_NoRing : Addr} {tk_Made tk_MadeR : Tok}
local macro_rules | `(tactic| walk_at "sd") => `(tactic| first
  | assumption | (dsimp only; omega) | (dsimp only; decide) | exact ⟨by decide, by decide⟩ | exact ⟨by decide, by decide, by decide⟩ | exact Or.inl ⟨by decide, by decide⟩ | exact ⟨by omega, by omega⟩ | exact Or.inl ⟨by omega, by omega⟩ | exact Or.inr ⟨by decide, by decide⟩ | exact Or.inr ⟨by omega, by omega⟩)
local macro_rules | `(tactic| walk_at "rd") => `(tactic| repeat first
  | refine ⟨_, rfl, ?_⟩ | refine ⟨_, _, rfl, rfl, ?_⟩ | refine And.intro rfl ?_ | refine And.intro (by walk_at "sd") ?_ | with_reducible refine iteT ?_ | with_reducible refine iteF ?_ | (apply ixT_of; assumption; rfl))
local macro_rules | `(tactic| walk_at "clo") => `(tactic| exact h)

theorem scMany : FnScope ["_law_cell_here"] ["_law_cell_here"] (defScope s__law_many) := ⟨rfl, rfl, rfl, by decide +kernel, rfl, by decide +kernel, by decide +kernel⟩
set_option maxHeartbeats 4000000 in
theorem ok_Many  (F : FunD K "_law_many" "_law_many" s__law_many .none f fd) (T : Txt K mg C_Ring C_Fractions C_Rests C_Order C_Degrees C_Tails C_Weights)   : FnOk P w K mg base CX0 1 f fd ["_law_cell_here"] spMany := by
  refine F.okN (k := 0) scMany (fun vs H Q E h => ?_) (fun cdv A outer s H vs Q E hr h => ?_)
  · obtain ⟨c, rfl, _⟩ := h
    rfl
  obtain ⟨c, rfl, h⟩ := h
  refine ⟨_, (pss_cons (ps_if (pt_cmpR op_eq (pe_op op_mod (pv 0) (pe_int)) (pe_int) (nomark _)) (pss_one (ps_ret (pe_op op_sub (pe_op op_mod (pv 0) (pe_op op_mul (pe_int) (pe_op op_pow (pe_int) (pe_int)))) (pe_op op_pow (pe_int) (pe_int))))) pss_nil)
    (pss_one (ps_ret (pe_op op_sub (pe_op op_mod (pe_op op_fdiv (pv 0) (pe_int)) (pe_int)) (pe_int))))), ?_⟩
  have k := h
  unfold manyF at k
  walk_at "rd"
  refine cEq (fun c0 => ?_) (fun c0 => ?_)
  · rw [if_pos c0] at k
    walk_at "rd"
    exact k
  · rw [if_neg c0] at k
    walk_at "rd"
    exact k
end
end K6
namespace K6
open PySem L2
open K1 K2 K3
section
variable {P : Program} {w : World} {K : PySem.W.Frag} {mg : Str → Option Value} {base : Heap} {f : Addr} {fd : FuncData} {C_Ring C_Fractions C_Rests C_Order C_Degrees C_Tails C_Weights : Addr} {E_NoOrder E_NoOver E_NoPrime E_NoRing : Addr} {tk_Made tk_MadeR : Tok}
local macro_rules | `(tactic| walk_at "sd") => `(tactic| first
  | assumption | (dsimp only; omega) | (dsimp only; decide) | exact ⟨by decide, by decide⟩ | exact ⟨by decide, by decide, by decide⟩ | exact Or.inl ⟨by decide, by decide⟩ | exact ⟨by omega, by omega⟩ | exact Or.inl ⟨by omega, by omega⟩ | exact Or.inr ⟨by decide, by decide⟩ | exact Or.inr ⟨by omega, by omega⟩)
local macro_rules | `(tactic| walk_at "rd") => `(tactic| repeat first
  | refine ⟨_, rfl, ?_⟩ | refine ⟨_, _, rfl, rfl, ?_⟩ | refine And.intro rfl ?_ | refine And.intro (by walk_at "sd") ?_ | with_reducible refine iteT ?_ | with_reducible refine iteF ?_ | (apply ixT_of; assumption; rfl))
local macro_rules | `(tactic| walk_at "clo") => `(tactic| exact h)

theorem scMkOrder : FnScope ["_law_kind", "_law_weights_here"] ["_law_kind", "_law_weights_here"] (defScope s__law_order) := ⟨rfl, rfl, rfl, by decide +kernel, rfl, by decide +kernel, by decide +kernel⟩
set_option maxHeartbeats 4000000 in
theorem ok_MkOrder  (F : FunD K "_law_order" "_law_order" s__law_order .none f fd) (T : Txt K mg C_Ring C_Fractions C_Rests C_Order C_Degrees C_Tails C_Weights) (k_WInit : Mak P w K mg base (CXe P w) 1 "Weights" C_Weights ["self", "weights"] [] (spWInit K C_Weights E_NoOrder))  : FnOk P w K mg base CX0 3 f fd ["_law_kind", "_law_weights_here"] (spOrder K C_Order C_Degrees C_Tails C_Weights) := by
  refine F.okN (k := 2) scMkOrder (fun vs H Q E h => ?_) (fun cdv A outer s H vs Q E hr h => ?_)
  · obtain ⟨k, l, ws, rfl, _⟩ := h
    rfl
  obtain ⟨k, l, ws, rfl, h⟩ := h
  refine ⟨_, (pss_cons (ps_if (pt_cmpR op_eq (pv 0) (pe_int) (nomark _)) (pss_one (ps_ret (pe_new0 T.n0_Order T.mg_Order))) pss_nil)
    (pss_cons (ps_if (pt_cmpR op_eq (pv 0) (pe_int) (nomark _)) (pss_one (ps_ret (pe_new0 T.n0_Degrees T.mg_Degrees))) pss_nil)
    (pss_cons (ps_if (pt_cmpR op_eq (pv 0) (pe_int) (nomark _)) (pss_one (ps_ret (pe_new0 T.n0_Tails T.mg_Tails))) pss_nil)
    (pss_one (ps_ret (pe_mk k_WInit hr passF .nil ((pa_cons (pv 1) pa_nil)))))))), ?_⟩
  obtain ⟨hl, hlen, hn, q⟩ := h
  have mk : ∀ {C : Addr} {H : Hp} {p dx : Addr}, H p = none → H dx = none → Same H (upd (upd H dx (.own p)) p (.ins C dx [])) := fun {C H p dx} np ndx b o e => by
    rw [upd_ne (ne_of_none e np), upd_ne (ne_of_none e ndx)]
    exact e
  walk_at "rd"
  refine cEq (fun c => ?_) (fun c => ?_)
  · intro p dx np ndx ne
    exact q p _ (mk np ndx) (by unfold AtK; rw [if_pos c]; exact ⟨dx, upd_same⟩)
  walk_at "rd"
  refine cEq (fun c1 => ?_) (fun c1 => ?_)
  · intro p dx np ndx ne
    exact q p _ (mk np ndx) (by unfold AtK; rw [if_neg c, if_pos c1]; exact ⟨dx, upd_same⟩)
  walk_at "rd"
  refine cEq (fun c2 => ?_) (fun c2 => ?_)
  · intro p dx np ndx ne
    exact q p _ (mk np ndx) (by unfold AtK; rw [if_neg c, if_neg c1, if_pos c2]; exact ⟨dx, upd_same⟩)
  walk_at "rd"
  intro p dx np ndx ne
  have e1 : Same H H := Same.refl _
  have e2 := mk (C := C_Weights) np ndx
  refine ⟨p, dx, l, ws, rfl, upd_same, e2.seq hl, hlen, .inl ⟨hn, fun wt H' h1 h2 h3 => ⟨rfl, ?_⟩⟩⟩
  refine q p H' (fun b o e => ?_) (by unfold AtK; rw [if_neg c, if_neg c1, if_neg c2]; exact ⟨dx, wt, h1, h2⟩)
  have e' := e1 _ _ e
  exact h3 b o (e2 _ _ e') (ne_of_none e' np)
end
end K6
namespace K6
open PySem L2
open K1 K2 K3
section
variable {P : Program} {w : World} {K : PySem.W.Frag} {mg : Str → Option Value} {base : Heap} {f : Addr} {fd : FuncData} {C_Ring C_Fractions C_Rests C_Order C_Degrees C_Tails C_Weights : Addr} {E_NoOrder E_NoOver E_NoPrime E_NoRing : Addr} {tk_Made tk_MadeR : Tok}
local macro_rules | `(tactic| walk_at "sd") => `(tactic| first
  | assumption | (dsimp only; omega) | (dsimp only; decide) | exact ⟨by decide, by decide⟩ | exact ⟨by decide, by decide, by decide⟩ | exact Or.inl ⟨by decide, by decide⟩ | exact ⟨by omega, by omega⟩ | exact Or.inl ⟨by omega, by omega⟩ | exact Or.inr ⟨by decide, by decide⟩ | exact Or.inr ⟨by omega, by omega⟩)
local macro_rules | `(tactic| walk_at "rd") => `(tactic| repeat first
  | refine ⟨_, rfl, ?_⟩ | refine ⟨_, _, rfl, rfl, ?_⟩ | refine And.intro rfl ?_ | refine And.intro (by walk_at "sd") ?_ | with_reducible refine iteT ?_ | with_reducible refine iteF ?_ | (apply ixT_of; assumption; rfl))
local macro_rules | `(tactic| walk_at "clo") => `(tactic| exact h)

theorem scWts : FnScope ["_law_cell_here", "_law_many_here", "_law_count"] ["_law_cell_here", "_law_many_here"] (defScope s__law_weights) := ⟨rfl, rfl, rfl, by decide +kernel, rfl, by decide +kernel, by decide +kernel⟩
set_option maxHeartbeats 4000000 in
theorem ok_Wts  (F : FunD K "_law_weights" "_law_weights" s__law_weights .none f fd) (T : Txt K mg C_Ring C_Fractions C_Rests C_Order C_Degrees C_Tails C_Weights)   : FnOk P w K mg base CX0 1 f fd ["_law_cell_here", "_law_many_here"] spWts := by
  refine F.okN (k := 0) scWts (fun vs H Q E h => ?_) (fun cdv A outer s H vs Q E hr h => ?_)
  · obtain ⟨c, m, rfl, _⟩ := h
    rfl
  obtain ⟨c, m, rfl, h⟩ := h
  refine ⟨_, (pss_cons (ps_set (i := 2) scWts.nd rfl (Or.inl rfl) (pe_callB (call_max2 rfl) rfl T.b_max (by kernel_rfl) ((pa_cons (pe_int) (pa_cons (pe_callB (call_min2 rfl) rfl T.b_min (by kernel_rfl) ((pa_cons (pv 1) (pa_cons (pe_int) pa_nil)))) pa_nil)))))
    (pss_cons (ps_if (pt_cmpR op_eq (pe_op op_mod (pe_op op_fdiv (pv 0) (pe_int)) (pe_int)) (pe_int) (nomark _)) (pss_one (ps_set (i := 2) scWts.nd rfl (Or.inl rfl) (pe_callB (call_max2 rfl) rfl T.b_max (by kernel_rfl) ((pa_cons (pe_int) (pa_cons (pe_op op_sub (pe_op op_add (pv 2) (pe_op op_mod (pe_op op_fdiv (pv 0) (pe_int)) (pe_int))) (pe_int)) pa_nil)))))) pss_nil)
    (pss_one (ps_ret (pe_comp (N := ["_law_at", "_law_cell_here"]) (cl := [("_law_cell_here", s.heap.objs.size + 1)]) (mp := [none, some 0]) (Blk.of rfl (by decide +kernel) rfl (by decide +kernel) nd__law_at__law_cell_here (subc_cons rfl subc_nil) (fr_of (fs := ["_law_cell_here"]) rfl (by decide +kernel)) rfl (mapc_none (mapc_some rfl (.inl rfl) rfl mapc_nil))) rfl (pi_range1 rfl T.b_range ((pa_cons (pv 2) pa_nil))) (fun C0 s0 H0 fp0 => pg_one (i := 0) nd__law_at__law_cell_here rfl rfl) (fun C0 s0 H0 fp0 => pts_nil) (fun C0 s0 H0 fp0 => pe_op op_add (pe_op op_mod (pe_op op_fdiv (pv 1) (pe_int)) (pe_int)) (pv 0))))))), ?_⟩
  have k := h
  obtain ⟨b0, b1⟩ := cntG_b c m
  walk_at "rd"
  refine ⟨_, _, rfl, _, _, rfl, ?_⟩
  show tSeq _ _ _ _ _
  have e0 : (if (if 8 < m then 8 else m) > 0 then (if 8 < m then 8 else m) else 0) = cnt0 m := rfl
  try dsimp only [gName]
  rw [e0]
  refine ⟨_, rfl, _, _, rfl, rfl, ⟨by decide, by decide⟩, _, _, rfl, rfl, (by show (0 : Int) < 3; decide), rfl, _, rfl, cEq (fun c1 => ?_) (fun c1 => ?_)⟩
  · have ec : mx0 (cnt0 m + c / 9 % 5 - 2) = cntG c m := by unfold cntG; rw [if_pos c1]
    walk_at "rd"
    refine ⟨_, _, rfl, ?_⟩
    show tSeq _ _ _ _ _
    have e1 : (if cnt0 m + c / 9 % 5 - 2 > 0 then cnt0 m + c / 9 % 5 - 2 else 0) = mx0 (cnt0 m + c / 9 % 5 - 2) := rfl
    try dsimp only [gName]
    rw [e1, ec]
    show tComp _ _ _ _ _ _ _ _
    refine range_compN (H1 := H) (cntG c m) (fun σ => ∃ v, σ = [v, some (.int c)]) (fun _ => true) (fun i => .int (c / 5 % 7 + (0 + (i : Int)))) b0 (by omega) ?_ ⟨none, rfl⟩ ?_ fun D H' nD e hL => ?_
    · exact fun R hR => ⟨_, rfl, hR⟩
    · rintro i σ' H2 hi ⟨z, rfl⟩ e Ny Nn hy hn
      have q := hy [some (.int (0 + (i : Int))), some (.int c)] H2 ⟨_, rfl⟩ (Same.refl _) rfl
      unfold gName tYes
      dsimp only
      rw [if_pos rfl]
      walk_at "rd"
      exact q
    rw [List.filter_eq_self.mpr (fun _ _ => rfl)] at hL
    refine k D H' nD e ?_
    rw [hL]
    unfold wsG
    rw [List.map_map]
    rfl
  · have ec : cnt0 m = cntG c m := by unfold cntG; rw [if_neg c1]
    rw [ec]
    show tComp _ _ _ _ _ _ _ _
    refine range_compN (H1 := H) (cntG c m) (fun σ => ∃ v, σ = [v, some (.int c)]) (fun _ => true) (fun i => .int (c / 5 % 7 + (0 + (i : Int)))) b0 (by omega) ?_ ⟨none, rfl⟩ ?_ fun D H' nD e hL => ?_
    · exact fun R hR => ⟨_, rfl, hR⟩
    · rintro i σ' H2 hi ⟨z, rfl⟩ e Ny Nn hy hn
      have q := hy [some (.int (0 + (i : Int))), some (.int c)] H2 ⟨_, rfl⟩ (Same.refl _) rfl
      unfold gName tYes
      dsimp only
      rw [if_pos rfl]
      walk_at "rd"
      exact q
    rw [List.filter_eq_self.mpr (fun _ _ => rfl)] at hL
    refine k D H' nD e ?_
    rw [hL]
    unfold wsG
    rw [List.map_map]
    rfl
end
end K6
namespace K6
open PySem L2
open K1 K2 K3
section
variable {P : Program} {w : World} {K : PySem.W.Frag} {mg : Str → Option Value} {base : Heap} {f : Addr} {fd : FuncData} {C_Ring C_Fractions C_Rests C_Order C_Degrees C_Tails C_Weights : Addr} {E_NoOrder E_NoOver E_NoPrime E_NoRing : Addr} {tk_Made tk_MadeR : Tok}
local macro_rules | `(tactic| walk_at "sd") => `(tactic| first
  | assumption | (dsimp only; omega) | (dsimp only; decide) | exact ⟨by decide, by decide⟩ | exact ⟨by decide, by decide, by decide⟩ | exact Or.inl ⟨by decide, by decide⟩ | exact ⟨by omega, by omega⟩ | exact Or.inl ⟨by omega, by omega⟩ | exact Or.inr ⟨by decide, by decide⟩ | exact Or.inr ⟨by omega, by omega⟩)
local macro_rules | `(tactic| walk_at "rd") => `(tactic| repeat first
  | refine ⟨_, rfl, ?_⟩ | refine ⟨_, _, rfl, rfl, ?_⟩ | refine And.intro rfl ?_ | refine And.intro (by walk_at "sd") ?_ | with_reducible refine iteT ?_ | with_reducible refine iteF ?_ | (apply ixT_of; assumption; rfl))
local macro_rules | `(tactic| walk_at "clo") => `(tactic| exact h)

theorem scLRing : FnScope ["_law_many_here", "_law_field", "_law_order_here", "_law_found"] ["_law_many_here", "_law_field", "_law_order_here"] (defScope s__law_ring) := ⟨rfl, rfl, rfl, by decide +kernel, rfl, by decide +kernel, by decide +kernel⟩
set_option maxHeartbeats 4000000 in
theorem ok_LRing  (F : FunD K "_law_ring" "_law_ring" s__law_ring .none f fd) (T : Txt K mg C_Ring C_Fractions C_Rests C_Order C_Degrees C_Tails C_Weights) (k_RgInit : Mak P w K mg base (CXe P w) 2 "Ring" C_Ring ["self", "many", "field", "order"] [] (spRgInit C_Ring E_NoRing C_Order C_Degrees C_Tails C_Weights)) (x_NoRing : Exc K mg base "NoRing" E_NoRing) (hord : ∀ (kd : Int) (ws : List Int), 0 ≤ kd → kd < 4 → Nn ws → (∀ x ∈ ws, x < 10 ^ 31) → ∃ C, OrdB P w K mg base C (AtK C_Order C_Degrees C_Tails C_Weights kd ws) (rkk kd ws) (fbK kd ws)) : FnOk P w K mg base CX0 4 f fd ["_law_many_here", "_law_field", "_law_order_here"] (spRing C_Ring C_Order C_Degrees C_Tails C_Weights) := by
  refine F.okN (k := 3) scLRing (fun vs H Q E h => ?_) (fun cdv A outer s H vs Q E hr h => ?_)
  · obtain ⟨m, pf, po, kd, ws, rfl, _⟩ := h
    rfl
  obtain ⟨m, pf, po, kd, ws, rfl, h⟩ := h
  obtain ⟨C, O⟩ := hord kd ws h.1 h.2.1 h.2.2.1 h.2.2.2.1
  refine ⟨_, (pss_cons (ps_set (i := 3) scLRing.nd rfl (Or.inl rfl) (pe_non))
    (pss_cons (ps_try rfl rfl rfl x_NoRing.at_ (fun pl E' E hP => (pss_one (ps_set (i := 3) scLRing.nd rfl (Or.inl rfl) (pe_mk k_RgInit hr hP .nil ((pa_cons (pv 0) (pa_cons (pv 1) (pa_cons (pv 2) pa_nil)))))))) (fun a => (pss_one (ps_set (i := 3) scLRing.nd rfl (Or.inl rfl) (pe_non)))))
    (pss_one (ps_ret (pv 3))))), ?_⟩
  obtain ⟨k0, k4, wn, wb, hat, k1, k2⟩ := h
  walk_at "rd"
  intro r dx nr ndx ne
  have e1 : Same H (upd (upd H dx (.own r)) r (.ins C_Ring dx [])) := fun b o e => by
    rw [upd_ne (ne_of_none e nr), upd_ne (ne_of_none e ndx)]
    exact e
  refine ⟨r, dx, m, pf, po, kd, ws, rfl, upd_same, k0, k4, wn, wb, O.oC.same e1 hat, ?_⟩
  by_cases c : okR kd ws m
  · refine .inl ⟨c, fun H' h1 h2 => ⟨rfl, _, rfl, k1 c r H' (fun b o e => ?_) ⟨dx, h1⟩⟩⟩
    exact h2 b o (e1 _ _ e) (ne_of_none e nr)
  · exact .inr ⟨c, fun H' e => ⟨x_NoRing.me, _, rfl, k2 c H' (e1.trans e)⟩⟩
end
end K6
namespace K6
open PySem L2
open K1 K2 K3
section
variable {P : Program} {w : World} {K : PySem.W.Frag} {mg : Str → Option Value} {base : Heap} {f : Addr} {fd : FuncData} {C_Ring C_Fractions C_Rests C_Order C_Degrees C_Tails C_Weights : Addr} {E_NoOrder E_NoOver E_NoPrime E_NoRing : Addr} {tk_Made tk_MadeR : Tok}
local macro_rules | `(tactic| walk_at "sd") => `(tactic| first
  | assumption | (dsimp only; omega) | (dsimp only; decide) | exact ⟨by decide, by decide⟩ | exact ⟨by decide, by decide, by decide⟩ | exact Or.inl ⟨by decide, by decide⟩ | exact ⟨by omega, by omega⟩ | exact Or.inl ⟨by omega, by omega⟩ | exact Or.inr ⟨by decide, by decide⟩ | exact Or.inr ⟨by omega, by omega⟩)
local macro_rules | `(tactic| walk_at "rd") => `(tactic| repeat first
  | refine ⟨_, rfl, ?_⟩ | refine ⟨_, _, rfl, rfl, ?_⟩ | refine And.intro rfl ?_ | refine And.intro (by walk_at "sd") ?_ | with_reducible refine iteT ?_ | with_reducible refine iteF ?_ | (apply ixT_of; assumption; rfl))
local macro_rules | `(tactic| walk_at "clo") => `(tactic| exact h)

theorem scParts : FnScope ["_law_found", "_law_term", "_law_number", "_law_one"] ["_law_found", "_law_term", "_law_number"] (defScope s__law_parts) := ⟨rfl, rfl, rfl, by decide +kernel, rfl, by decide +kernel, by decide +kernel⟩
set_option maxHeartbeats 4000000 in
theorem ok_Parts  (F : FunD K "_law_parts" "_law_parts" s__law_parts .none f fd) (T : Txt K mg C_Ring C_Fractions C_Rests C_Order C_Degrees C_Tails C_Weights)   : FnOk P w K mg base CX0 1 f fd ["_law_found", "_law_term", "_law_number"] (spParts K) := by
  refine F.okN (k := 0) scParts (fun vs H Q E h => ?_) (fun cdv A outer s H vs Q E hr h => ?_)
  · obtain ⟨d, t, xs, v1, v2, dn, rfl, _⟩ := h
    rfl
  obtain ⟨d, t, xs, v1, v2, dn, rfl, h⟩ := h
  refine ⟨_, (pss_cons (ps_if (PW.pt (pw_or (pt_not (pt_val (pe_callB (call_isinstK (K := K) rfl) rfl T.b_isinstance (by kernel_rfl) ((pa_cons (pv 0) (pa_cons (pe_bltn (v := .ty "dict") rfl T.b_dict (by kernel_rfl) rfl) pa_nil)))))) (pw_or1 (pt_cmpR (op_neDT hr.units) (pv 0) (pe_disp1 hr.units0 (pv 1) (pv 2)) (nomark _))))) (pss_one (ps_ret (pe_bl))) pss_nil)
    (pss_cons (ps_thw (ps_for PassesOwn.never rfl (pi_dict (pv 0)) (pg_name (i := 3) scParts.nd rfl (Or.inl rfl)) (pss_one (ps_if (pt_not (pt_val (pe_callB (call_isinstK (K := K) rfl) rfl T.b_isinstance (by kernel_rfl) ((pa_cons (pv 3) (pa_cons (pe_bltn (v := .ty "tuple") rfl T.b_tuple (by kernel_rfl) rfl) pa_nil)))))) (pss_one (ps_ret (pe_bl))) pss_nil))))
    (pss_one (ps_ret (pe_bl))))), ?_⟩
  obtain ⟨hd, ht, r1, r2, nm, k⟩ := h
  refine if_noS (fun H' => Same H H') (fun H1 e1 => ?_) (fun N kN => ?_)
  rotate_left
  · refine ⟨_, rfl, _, _, _, _, _, rfl, rfl, .dT hd, T.kdd, _, rfl, iteF ?_⟩
    refine ⟨_, rfl, fun p hp => ⟨_, rfl, _, rfl, t, ky xs, rfl, upd_same, ?_, ?_⟩⟩
    · have e0 : Same H (upd H p (HO.dT [])) := Same.upd hp
      rw [ky_kV]; exact e0 _ _ ht
    have e2 : Same H (upd (upd H p (HO.dT [])) p (HO.dT [(ky xs, v2)])) := (Same.upd hp).updR hp
    have hp2 : (upd (upd H p (HO.dT [])) p (HO.dT [(ky xs, v2)])) p = some (.dT [(ky xs, v2)]) := upd_same
    generalize upd (upd H p (HO.dT [])) p (HO.dT [(ky xs, v2)]) = H2 at e2 hp2
    refine ⟨d, p, _, _, [(ky xs, dn)], [(ky xs, dn)], rfl, rfl, .inl (e2 _ _ hd), .inl hp2, .cons ⟨rfl, Rds.same e2 r1⟩ .nil, .cons ⟨rfl, Rds.same e2 r2⟩ .nil, fun q hq => ?_, fun q hq => ?_, _, rfl, ?_⟩
    · rw [List.mem_singleton.mp hq]; exact ⟨nm.lay, nm.dep⟩
    · rw [List.mem_singleton.mp hq]; exact ⟨nm.lay, nm.dep⟩
    rw [eq1 _ nm]
    exact kN _ e2
  have hd1 := e1 _ _ hd
  refine ⟨_, rfl, d, [(ky xs, v1)], rfl, .inl hd1, fun o => ?_⟩
  have hz : FzD (upd H1 d (.frz o (.dT [(ky xs, v1)]))) d o [(ky xs, v1)] := upd_same
  have et : ∀ H2, Same (upd H1 d (.frz o (.dT [(ky xs, v1)]))) H2 → Same H (upd H2 d (.dT [(ky xs, v1)])) := fun H2 e => e1.trans (same_thaw hd1 e)
  refine for_same (walk_dkey hz) (fun i σ => ∃ u, σ = [some (.ref d), some (.ref t), some v2, u]) ⟨none, rfl⟩ ?_ ?_
  · rintro i x σ H3 hi ⟨u, rfl⟩ e3 ⟨b, kk, vv, hk, hb, rfl⟩
    refine ⟨_, rfl, _, _, _, _, _, rfl, rfl, .tup hb, T.ktt, _, rfl, iteF ?_⟩
    exact ⟨⟨_, rfl⟩, e3⟩
  · rintro σ H3 ⟨u, rfl⟩ e3
    refine .inr ⟨d, o, _, e3 _ _ hz, fun o' w' z => ?_, k _ (et _ e3)⟩
    have z' : H d = some (.frz o' w') := z
    rw [hd] at z'; cases z'
end
end K6
namespace K6
open PySem L2
open K1 K2 K3
section
variable {P : Program} {w : World} {K : PySem.W.Frag} {mg : Str → Option Value} {base : Heap} {f : Addr} {fd : FuncData} {C_Ring C_Fractions C_Rests C_Order C_Degrees C_Tails C_Weights : Addr} {E_NoOrder E_NoOver E_NoPrime E_NoRing : Addr} {tk_Made tk_MadeR : Tok}
local macro_rules | `(tactic| walk_at "sd") => `(tactic| first
  | assumption | (dsimp only; omega) | (dsimp only; decide) | exact ⟨by decide, by decide⟩ | exact ⟨by decide, by decide, by decide⟩ | exact Or.inl ⟨by decide, by decide⟩ | exact ⟨by omega, by omega⟩ | exact Or.inl ⟨by omega, by omega⟩ | exact Or.inr ⟨by decide, by decide⟩ | exact Or.inr ⟨by omega, by omega⟩)
local macro_rules | `(tactic| walk_at "rd") => `(tactic| repeat first
  | refine ⟨_, rfl, ?_⟩ | refine ⟨_, _, rfl, rfl, ?_⟩ | refine And.intro rfl ?_ | refine And.intro (by walk_at "sd") ?_ | with_reducible refine iteT ?_ | with_reducible refine iteF ?_ | (apply ixT_of; assumption; rfl))
local macro_rules | `(tactic| walk_at "clo") => `(tactic| exact h)

theorem scGood : FnScope ["_law_ring_here", "_law_many_here", "_law_field", "_law_order_here", "_law_cell_here", "_law_still", "_law_mark", "_law_at", "_law_term", "_law_told", "_law_number", "_law_nought"] ["_law_ring_here", "_law_many_here", "_law_field", "_law_order_here", "_law_cell_here"] (defScope s__law_good) := ⟨rfl, rfl, rfl, by decide +kernel, rfl, by decide +kernel, by decide +kernel⟩
set_option maxHeartbeats 4000000 in
theorem ok_Good  (F : FunD K "_law_good" "_law_good" s__law_good .none f fd) (T : Txt K mg C_Ring C_Fractions C_Rests C_Order C_Degrees C_Tails C_Weights) (m_Letters : MCal P w K mg base CX0 1 C_Ring "letters" ["self"] [] (spLetters C_Ring)) (m_Unk : MCal P w K mg base CX0 3 C_Ring "unknown" ["self", "at"] [] (spUnk K C_Ring C_Fractions C_Rests z1N)) (c_Parts : Cal P w K mg base CX0 1 "_law_parts" ["_law_found", "_law_term", "_law_number"] [] (spParts K)) (m_Con : MCal P w K mg base CX0 3 C_Ring "constant" ["self", "number"] [] (spCon K C_Ring C_Fractions C_Rests z0N)) (hord : ∀ (kd : Int) (ws : List Int), 0 ≤ kd → kd < 4 → Nn ws → (∀ x ∈ ws, x < 10 ^ 31) → ∃ C, OrdB P w K mg base C (AtK C_Order C_Degrees C_Tails C_Weights kd ws) (rkk kd ws) (fbK kd ws)) (hfld : ∀ n : Int, n ≤ 9973 → (n = 0 ∨ Pr n) → ∃ C, FldB P w K mg base C (AtN C_Fractions C_Rests n) n (z0N n) (z1N n)) : FnOk P w K mg base CX0 6 f fd ["_law_ring_here", "_law_many_here", "_law_field", "_law_order_here", "_law_cell_here"] (spGood C_Ring C_Fractions C_Rests C_Order C_Degrees C_Tails C_Weights) := by
  refine F.okN (k := 5) scGood (fun vs H Q E h => ?_) (fun cdv A outer s H vs Q E hr h => ?_)
  · obtain ⟨r, m, pf, po, c, kd, ws, n, rfl, _⟩ := h
    rfl
  obtain ⟨r, m, pf, po, c, kd, ws, n, rfl, h⟩ := h
  obtain ⟨CO, O⟩ := hord kd ws h.1 h.2.1 h.2.2.1 h.2.2.2.1
  obtain ⟨CF, B⟩ := hfld n h.2.2.2.2.1 h.2.2.2.2.2.1
  obtain ⟨tk, hmade⟩ := B.made
  refine ⟨_, (pss_cons (ps_if (PW.pt (pw_or (pt_cmpR op_ne (pe_fldK (K := K) rfl (pv 0) rfl) (pv 1) (nomark _)) (pw_or1 (pt_cmpR op_ne (pe_fldK (K := K) rfl (pe_fldK (K := K) rfl (pv 0) rfl) rfl) (pe_fldK (K := K) rfl (pv 2) rfl) (nomark _))))) (pss_one (ps_ret (pe_bl))) pss_nil)
    (pss_cons (ps_set (i := 5) scGood.nd rfl (Or.inl rfl) (pe_callTy (call_tupleK (K := K) rfl) rfl T.b_tuple (by kernel_rfl) ((pa_cons (pe_comp (N := ["_law_at"]) (Blk.plain (by decide +kernel) (by decide +kernel) rfl (by decide +kernel) nd__law_at) rfl (pi_range1 rfl T.b_range ((pa_cons (pv 1) pa_nil))) (fun C0 s0 H0 fp0 => pg_one (i := 0) nd__law_at rfl rfl) (fun C0 s0 H0 fp0 => pts_nil) (fun C0 s0 H0 fp0 => pe_int)) pa_nil))))
    (pss_cons (ps_set (i := 6) scGood.nd rfl (Or.inl rfl) (pe_callTy (call_tupleK (K := K) rfl) rfl T.b_tuple (by kernel_rfl) ((pa_cons (pe_comp (N := ["_law_at", "_law_cell_here"]) (cl := [("_law_cell_here", s.heap.objs.size + 1)]) (mp := [none, some 4]) (Blk.of rfl (by decide +kernel) rfl (by decide +kernel) nd__law_at__law_cell_here (subc_cons rfl subc_nil) (fr_of (fs := ["_law_cell_here"]) rfl (by decide +kernel)) rfl (mapc_none (mapc_some rfl (.inl rfl) rfl mapc_nil))) rfl (pi_range1 rfl T.b_range ((pa_cons (pv 1) pa_nil))) (fun C0 s0 H0 fp0 => pg_one (i := 0) nd__law_at__law_cell_here rfl rfl) (fun C0 s0 H0 fp0 => pts_nil) (fun C0 s0 H0 fp0 => pe_op op_add (pe_op op_mod (pe_op op_fdiv (pv 1) (pe_int)) (pe_int)) (pv 0))) pa_nil))))
    (pss_cons (ps_if (PW.pt (pw_or (pt_cmpR (op_neD hr.units) (pe_m O.rank (pe_fldK (K := K) rfl (pv 0) rfl) hr pass00 .nil ((pa_cons (pv 6) pa_nil))) (pe_m O.rank (pv 3) hr pass00 .nil ((pa_cons (pv 6) pa_nil))) (nomark _)) (pw_or1 (pt_cmpR op_ne (pe_m0 m_Letters (pv 0) hr pass00 .nil) (pe_slice sl_str (pe_str) po_none (po_some (pv 1))) (nomark _))))) (pss_one (ps_ret (pe_bl))) pss_nil)
    (pss_cons (ps_for PassesOwn.never rfl (pi_range1 rfl T.b_range ((pa_cons (pv 1) pa_nil))) (pg_name (i := 7) scGood.nd rfl (Or.inr rfl)) (pss_cons (ps_set (i := 8) scGood.nd rfl (Or.inl rfl) (pe_callTy (call_tupleK (K := K) rfl) rfl T.b_tuple (by kernel_rfl) ((pa_cons (pe_comp (N := ["_law_k", "_law_at"]) (cl := [("_law_at", s.heap.objs.size + 2)]) (mp := [none, some 7]) (Blk.of rfl (by decide +kernel) rfl (by decide +kernel) nd__law_k__law_at (subc_cons rfl subc_nil) (fr_of (fs := ["_law_at"]) rfl (by decide +kernel)) rfl (mapc_none (mapc_some rfl (.inl rfl) rfl mapc_nil))) rfl (pi_range1 rfl T.b_range ((pa_cons (pv 1) pa_nil))) (fun C0 s0 H0 fp0 => pg_one (i := 0) nd__law_k__law_at rfl rfl) (fun C0 s0 H0 fp0 => pts_nil) (fun C0 s0 H0 fp0 => pe_callTy call_int1 rfl T.b_int (by kernel_rfl) ((pa_cons (pe_cmpR op_eq (pv 0) (pv 1) (nomark _)) pa_nil)))) pa_nil))))
    (pss_cons (ps_set (i := 9) scGood.nd rfl (Or.inl rfl) (pe_m m_Unk (pv 0) hr pass00 .nil ((pa_cons (pv 7) pa_nil))))
    (pss_cons (ps_if (pt_not (pt_val (pe_c c_Parts hr pass00 .nil ((pa_cons (pv 9) (pa_cons (pv 8) (pa_cons (pe_m0 B.one (pv 2) hr pass00 .nil) pa_nil))))))) (pss_one (ps_ret (pe_bl))) pss_nil)
    (pss_cons (ps_expr (pe_dclear (pv 9)))
    (pss_one (ps_if (pt_not (pt_val (pe_c c_Parts hr pass00 .nil ((pa_cons (pe_m m_Unk (pv 0) hr pass00 .nil ((pa_cons (pv 7) pa_nil))) (pa_cons (pv 8) (pa_cons (pe_m0 B.one (pv 2) hr pass00 .nil) pa_nil))))))) (pss_one (ps_ret (pe_bl))) pss_nil)))))))
    (pss_cons (ps_set (i := 10) scGood.nd rfl (Or.inl rfl) (pe_m hmade (pv 2) hr passF (dvs := [.int 1]) (.cons ⟨_, rfl⟩ .nil) ((pa_cons (pe_op op_add (pe_int) (pe_op op_mod (pe_op op_fdiv (pv 4) (pe_int)) (pe_op op_pow (pe_int) (pe_int)))) pa_nil))))
    (pss_cons (ps_if (pt_cmpR (op_eqD hr.units) (pv 10) (pe_m0 B.nought (pv 2) hr pass00 .nil) (nomark _)) (pss_one (ps_set (i := 10) scGood.nd rfl (Or.inl rfl) (pe_m0 B.one (pv 2) hr pass00 .nil))) pss_nil)
    (pss_cons (ps_set (i := 11) scGood.nd rfl (Or.inl rfl) (pe_m m_Con (pv 0) hr pass00 .nil ((pa_cons (pe_m0 B.nought (pv 2) hr pass00 .nil) pa_nil))))
    (pss_cons (ps_if (pt_cmpR (op_neDT hr.units) (pv 11) (pe_dnewT) (nomark _)) (pss_one (ps_ret (pe_bl))) pss_nil)
    (pss_cons (ps_dput (uOne hr) (pv 11) (pv 5) (pv 10) rfl)
    (pss_cons (ps_set (i := 9) scGood.nd rfl (Or.inl rfl) (pe_m m_Con (pv 0) hr pass00 .nil ((pa_cons (pv 10) pa_nil))))
    (pss_cons (ps_if (PW.pt (pw_or (pt_cmpR (op_neDT hr.units) (pe_m m_Con (pv 0) hr pass00 .nil ((pa_cons (pe_m0 B.nought (pv 2) hr pass00 .nil) pa_nil))) (pe_dnewT) (nomark _)) (pw_or1 (pt_not (pt_val (pe_c c_Parts hr pass00 .nil ((pa_cons (pv 9) (pa_cons (pv 5) (pa_cons (pv 10) pa_nil)))))))))) (pss_one (ps_ret (pe_bl))) pss_nil)
    (pss_cons (ps_expr (pe_dclear (pv 9)))
    (pss_one (ps_ret (pe_c c_Parts hr pass00 .nil ((pa_cons (pe_m m_Con (pv 0) hr pass00 .nil ((pa_cons (pv 10) pa_nil))) (pa_cons (pv 5) (pa_cons (pv 10) pa_nil)))))))))))))))))))), ?_⟩
  obtain ⟨k0, k4, wn, wb, n1, n2, hat, hfd, ⟨dx, hr0⟩, m1, m2, k⟩ := h
  walk_at "rd"
  obtain ⟨dF, hF⟩ := B.ins hfd
  obtain ⟨dO, fs, hO, nO⟩ := O.oC.ins hat
  refine ⟨r, C_Ring, dx, _, _, rfl, hr0, T.cl_Ring, T.na_Ring_many, rfl, _, rfl, rfl, _, rfl, cNe (fun z => absurd rfl z) (fun _ => ?_)⟩
  refine ⟨_, rfl, r, C_Ring, dx, _, _, rfl, hr0, T.cl_Ring, T.na_Ring_field, rfl, pf, CF, dF, _, _, rfl, hF, B.cl, B.na, rfl, _, rfl, pf, CF, dF, _, _, rfl, hF, B.cl, B.na, rfl, rfl, _, rfl, cNe (fun z => absurd rfl z) (fun _ => ?_)⟩
  refine tup_comp m (fun σ => ∃ v, σ = [v]) (fun _ => 0) (by omega) (by omega) (fun R hR => ⟨_, rfl, hR⟩) ⟨none, rfl⟩ ?_ fun t0 H1 e1 ht0 => ?_
  · rintro i σ' H2 hi ⟨z, rfl⟩ e Ny hy
    exact hy _ ⟨_, rfl⟩
  rw [zer_range] at ht0
  refine tup_comp m (fun σ => ∃ v, σ = [v, some (.int c)]) (fun i => c / 3 % 11 + (0 + (i : Int))) (by omega) (by omega) (fun R hR => ⟨_, rfl, hR⟩) ⟨none, rfl⟩ ?_ fun t1 H2 e2 ht1 => ?_
  · rintro i σ' H2 hi ⟨z, rfl⟩ e Ny hy
    have q := hy [some (.int (0 + (i : Int))), some (.int c)] ⟨_, rfl⟩
    unfold gName
    walk_at "rd"
    exact q
  have pw : Pws ((List.range m.toNat).map fun i : Nat => c / 3 % 11 + (0 + (i : Int))) := by
    refine ⟨by simp; omega, fun z => ?_, fun x hx => ?_, fun x hx => ?_⟩
    · have := congrArg List.length z; simp at this; omega
    · obtain ⟨i, hi, rfl⟩ := List.mem_map.mp hx; omega
    · obtain ⟨i, hi, rfl⟩ := List.mem_map.mp hx; rw [List.mem_range] at hi; omega
  generalize ((List.range m.toNat).map fun i : Nat => c / 3 % 11 + (0 + (i : Int))) = mk at ht1 pw
  have f2 := e1.trans e2
  have hr2 := f2 _ _ hr0
  refine ⟨_, rfl, r, C_Ring, dx, _, _, rfl, hr2, T.cl_Ring, T.na_Ring_order, rfl, po, dO, fs, rfl, f2 _ _ hO, nO "rank" (by decide +kernel), _, rfl, po, t1, mk, rfl, O.oC.same f2 hat, ht1, pw, fun a1 H3 e3 ha1 => ?_⟩
  have f3 := f2.trans e3
  refine ⟨_, rfl, po, dO, fs, rfl, f3 _ _ hO, nO "rank" (by decide +kernel), _, rfl, po, t1, mk, rfl, O.oC.same f3 hat, e3 _ _ ht1, pw, fun a2 H4 e4 ha2 => ?_⟩
  have f4 := f3.trans e4
  refine ⟨_, _, .tup (SqT.of (e4 _ _ ha1)) (rds_ints _), .tup (SqT.of ha2) (rds_ints _), shaped_ints _, shaped_ints _, _, rfl, ?_⟩
  rw [SeqAt.eqv_refl _ (by simp [PyData.canLay0, PySem.W.ke_canLayAll0])]
  refine iteF ?_
  have hr4 := f4 _ _ hr0
  refine ⟨_, rfl, r, dx, _, rfl, hr4, no_G _ (by decide +kernel) (by decide +kernel) (by decide +kernel), r, m, pf, po, rfl, ⟨dx, hr4⟩, m1, m2, ?_⟩
  refine ⟨_, rfl, m, rfl, _, rfl, cut_len m1 m2, rfl, _, rfl, ?_⟩
  rw [decide_eq_true rfl]
  refine iteF ?_
  have hO4 := f4 _ _ hO
  have hat4 := O.oC.same f4 hat
  have hF4 := f4 _ _ hF
  have hfd4 := B.same f4 hfd
  have ht4 := e4 _ _ (e3 _ _ (e2 _ _ ht0))
  have k4 : ∀ H', Same H4 H' → Q (.bl true) H' := fun H' e => k H' (f4.trans e)
  unfold tNext
  dsimp only
  refine seq_mid (fun σ' H' => (∃ u7 u8 u9, σ' = [some (.ref r), some (.int m), some (.ref pf), some (.ref po), some (.int c), some (.ref t0), some (.ref t1), u7, u8, u9, none, none]) ∧ Same H4 H') ?_ ?_
  rotate_left
  · intro N hN
    refine ⟨_, rfl, m, rfl, by omega, by omega, ?_⟩
    refine for_same (walk_range 0 m.toNat) (fun i σ' => ∃ u7 u8 u9, σ' = [some (.ref r), some (.int m), some (.ref pf), some (.ref po), some (.int c), some (.ref t0), some (.ref t1), u7, u8, u9, none, none]) ⟨_, _, _, rfl⟩ ?_ (fun σ' H' q e => hN _ _ ⟨q, e⟩)
    rintro i x σ' H5 hi ⟨u7, u8, u9, rfl⟩ e5 rfl
    refine tup_comp m (fun σ => ∃ v, σ = [v, some (.int (0 + (i : Int)))]) (fun j => if j = i then 1 else 0) (by omega) (by omega) (fun R hR => ⟨_, rfl, hR⟩) ⟨none, rfl⟩ ?_ fun tt H6 e6 ht6 => ?_
    · rintro j σ' H2 hj ⟨z, rfl⟩ e Ny hy
      have q := hy [some (.int (0 + (j : Int))), some (.int (0 + (i : Int)))] ⟨_, rfl⟩
      refine ⟨_, rfl, _, rfl, rfl, .inr ⟨_, rfl, ?_⟩⟩
      have ez : (if decide (V.int (0 + (j : Int)) = V.int (0 + (i : Int))) = true then (1 : Int) else 0) = if j = i then 1 else 0 := by
        by_cases h : j = i
        · subst h; simp
        · have : ¬ ((j : Int) = i) := by omega
          simp [h, this]
      rw [ez]
      exact q
    have ei : (0 + (i : Int)).toNat = i := by omega
    have g6 := e5.trans e6
    have ht6' : H6 tt = some (.tup ((only m.toNat i 1).map V.int)) := ht6
    refine ⟨_, rfl, r, dx, _, rfl, g6 _ _ hr4, no_G _ (by decide +kernel) (by decide +kernel) (by decide +kernel), _, rfl, r, m, _, pf, po, n, rfl, ⟨dx, g6 _ _ hr4⟩, m1, m2, by omega, B.same g6 hfd4, n1, n2, fun d1 H7 v1 nd1 e7 hd1 hv1 => ?_⟩
    rw [ei] at hd1
    have g7 := g6.trans e7
    refine ⟨_, rfl, _, rfl, _, rfl, pf, dF, _, rfl, g7 _ _ hF4, no_P _ _ (by decide +kernel), pf, rfl, B.same g7 hfd4, fun v2 H8 e8 hv2 => ?_⟩
    refine ⟨d1, tt, only m.toNat i 1, v1, v2, z1N n, rfl, e8 _ _ hd1, e8 _ _ (e7 _ _ ht6'), Rds.same e8 hv1, hv2, B.n1, fun H9 e9 => ⟨_, rfl, iteF ?_⟩⟩
    have hd9 := e9 _ _ (e8 _ _ hd1)
    refine ⟨_, rfl, .inr (.inr (.inl ⟨rfl, .inr ⟨_, hd9⟩⟩)), d1, _, rfl, rfl, hd9, ?_⟩
    have d4 : H4 d1 = none := g6.free nd1
    have g9 : Same H4 (upd H9 d1 (.dT [])) := ((g7.trans e8).trans e9).updR d4
    have t9 : (upd H9 d1 (.dT [])) tt = some (.tup ((only m.toNat i 1).map V.int)) := by
      rw [upd_ne (ne_of_none ht6' nd1)]
      exact e9 _ _ (e8 _ _ (e7 _ _ ht6'))
    generalize upd H9 d1 (HO.dT []) = Ha at g9 t9
    refine ⟨_, rfl, r, dx, _, rfl, g9 _ _ hr4, no_G _ (by decide +kernel) (by decide +kernel) (by decide +kernel), _, rfl, r, m, _, pf, po, n, rfl, ⟨dx, g9 _ _ hr4⟩, m1, m2, by omega, B.same g9 hfd4, n1, n2, fun d2 Hb v3 nd2 eb hd2 hv3 => ?_⟩
    rw [ei] at hd2
    have gb := g9.trans eb
    refine ⟨_, rfl, _, rfl, pf, dF, _, rfl, gb _ _ hF4, no_P _ _ (by decide +kernel), pf, rfl, B.same gb hfd4, fun v4 Hc ec hv4 => ?_⟩
    refine ⟨d2, tt, only m.toNat i 1, v3, v4, z1N n, rfl, ec _ _ hd2, ec _ _ (eb _ _ t9), Rds.same ec hv3, hv4, B.n1, fun Hd ed => ⟨_, rfl, iteF ?_⟩⟩
    exact ⟨⟨_, _, _, rfl⟩, (gb.trans ec).trans ed⟩
  rintro σ' H5 ⟨⟨u7, u8, u9, rfl⟩, e5⟩
  refine ⟨_, rfl, pf, dF, _, rfl, e5 _ _ hF4, no_P _ _ (by decide +kernel), ?_⟩
  walk_at "rd"
  refine ⟨pf, _, rfl, B.same e5 hfd4, fun v6 H6 dn e6 hv6 nm6 => ?_⟩
  unfold gName
  dsimp only
  refine seq_mid (fun σ' H' => Same H4 H' ∧ ∃ v dn, σ' = [some (.ref r), some (.int m), some (.ref pf), some (.ref po), some (.int c), some (.ref t0), some (.ref t1), u7, u8, u9, some v, none] ∧ Rds K H' v dn ∧ NmD dn ∧ PyData.eqv dn (z0N n) = false) ?_ ?_
  rotate_left
  · intro N hN
    have g6 := e5.trans e6
    refine ⟨_, rfl, _, rfl, pf, dF, _, rfl, g6 _ _ hF4, no_P _ _ (by decide +kernel), pf, rfl, B.same g6 hfd4, fun u H7 e7 hu => ?_⟩
    have g7 := g6.trans e7
    refine ⟨_, _, Rds.same e7 hv6, hu, nm6.shaped, B.n0.shaped, _, rfl, ?_⟩
    cases c0 : PyData.eqv dn (z0N n) with
    | true =>
      refine iteT ⟨_, rfl, pf, dF, _, rfl, g7 _ _ hF4, no_P _ _ (by decide +kernel), pf, rfl, B.same g7 hfd4, fun v8 H8 e8 hv8 => ?_⟩
      exact hN _ _ ⟨g7.trans e8, v8, _, rfl, hv8, B.n1, B.ne⟩
    | false => exact iteF (hN _ _ ⟨g7, v6, dn, rfl, Rds.same e7 hv6, nm6, c0⟩)
  clear hv6 nm6 e6
  rintro σ' H7 ⟨g7, v, dv, rfl, hv, nm, hne⟩
  refine ⟨_, rfl, r, dx, _, rfl, g7 _ _ hr4, no_G _ (by decide +kernel) (by decide +kernel) (by decide +kernel), _, rfl, pf, dF, _, rfl, g7 _ _ hF4, no_P _ _ (by decide +kernel), pf, rfl, B.same g7 hfd4, fun u H8 e8 hu => ?_⟩
  have g8 := g7.trans e8
  refine ⟨r, m, u, z0N n, pf, po, n, rfl, ⟨dx, g8 _ _ hr4⟩, m1, m2, B.same g8 hfd4, n1, n2, hu, B.n0, ?_, fun z => by rw [B.n0.refl] at z; cases z⟩
  intro _ d9 H9 nd9 e9 hd9
  have g9 := g8.trans e9
  have hv9 := Rds.same (e8.trans e9) hv
  have n4 : H4 d9 = none := g8.free nd9
  refine ⟨_, rfl, fun p hp => ?_⟩
  have e10 : Same H9 (upd H9 p (.dT [])) := Same.upd hp
  have hp10 : (upd H9 p (HO.dT [])) p = some (.dT []) := upd_same
  generalize upd H9 p (HO.dT []) = Ha at e10 hp10
  refine ⟨d9, p, [], [], [], [], rfl, rfl, .inl (e10 _ _ hd9), .inl hp10, .nil, .nil, (fun _ h => by cases h), (fun _ h => by cases h), _, rfl, iteF ?_⟩
  have hda := e10 _ _ hd9
  have ga := g9.trans e10
  refine ⟨_, rfl, _, rfl, _, rfl, d9, _, rfl, DPut.t hda (by rw [ky_kV]; exact ga _ _ ht4) (by show 0 < sizeLine; decide), ?_⟩
  have hvb : Rds K (upd Ha d9 (.dT (putK [] (ky (zer m.toNat)) v))) v dv := Rds.updD hda (Rds.same e10 hv9)
  have gb : Same H4 (upd Ha d9 (.dT (putK [] (ky (zer m.toNat)) v))) := ga.updR n4
  generalize upd Ha d9 (HO.dT (putK [] (ky (zer m.toNat)) v)) = Hb at hvb gb
  refine ⟨_, rfl, r, dx, _, rfl, gb _ _ hr4, no_G _ (by decide +kernel) (by decide +kernel) (by decide +kernel), _, rfl, ?_⟩
  refine ⟨r, m, v, dv, pf, po, n, rfl, ⟨dx, gb _ _ hr4⟩, m1, m2, B.same gb hfd4, n1, n2, hvb, nm, (fun z => by rw [hne] at z; cases z), ?_⟩
  intro _ dc Hc ndc ec hdc
  have gc := gb.trans ec
  refine ⟨_, rfl, r, dx, _, rfl, gc _ _ hr4, no_G _ (by decide +kernel) (by decide +kernel) (by decide +kernel), _, rfl, pf, dF, _, rfl, gc _ _ hF4, no_P _ _ (by decide +kernel), pf, rfl, B.same gc hfd4, fun u1 Hd ed hu1 => ?_⟩
  have gd := gc.trans ed
  refine ⟨r, m, u1, z0N n, pf, po, n, rfl, ⟨dx, gd _ _ hr4⟩, m1, m2, B.same gd hfd4, n1, n2, hu1, B.n0, ?_, fun z => by rw [B.n0.refl] at z; cases z⟩
  intro _ de He nde ee hde
  intro p2 hp2
  have ef : Same He (upd He p2 (.dT [])) := Same.upd hp2
  have hpf : (upd He p2 (HO.dT [])) p2 = some (.dT []) := upd_same
  generalize upd He p2 (HO.dT []) = Hf at ef hpf
  refine ⟨de, p2, [], [], [], [], rfl, rfl, .inl (ef _ _ hde), .inl hpf, .nil, .nil, (fun _ h => by cases h), (fun _ h => by cases h), _, rfl, iteF ?_⟩
  have gf : Same Hc Hf := (ed.trans ee).trans ef
  have g4f := gc.trans gf
  refine ⟨_, rfl, _, rfl, _, rfl, dc, t0, zer m.toNat, v, v, dv, rfl, gf _ _ hdc, g4f _ _ ht4, Rds.same (ec.trans gf) hvb, Rds.same (ec.trans gf) hvb, nm, fun Hg eg => ⟨_, rfl, iteF ?_⟩⟩
  have hdg := eg _ _ (gf _ _ hdc)
  have hvg : Rds K Hg v dv := Rds.same (ec.trans (gf.trans eg)) hvb
  refine ⟨_, rfl, .inr (.inr (.inl ⟨rfl, .inr ⟨_, hdg⟩⟩)), dc, _, rfl, rfl, hdg, ?_⟩
  have gh : Same H4 (upd Hg dc (.dT [])) := (g4f.trans eg).updR (gb.free ndc)
  have hvh : Rds K (upd Hg dc (.dT [])) v dv := Rds.updD hdg hvg
  generalize upd Hg dc (HO.dT []) = Hh at gh hvh
  refine ⟨_, rfl, r, dx, _, rfl, gh _ _ hr4, no_G _ (by decide +kernel) (by decide +kernel) (by decide +kernel), _, rfl, ?_⟩
  refine ⟨r, m, v, dv, pf, po, n, rfl, ⟨dx, gh _ _ hr4⟩, m1, m2, B.same gh hfd4, n1, n2, hvh, nm, (fun z => by rw [hne] at z; cases z), ?_⟩
  intro _ di Hi ndi ei hdi
  have gi := gh.trans ei
  refine ⟨_, rfl, _, rfl, di, t0, zer m.toNat, v, v, dv, rfl, hdi, gi _ _ ht4, Rds.same ei hvh, Rds.same ei hvh, nm, fun Hj ej => ?_⟩
  exact k4 _ (gi.trans ej)
end
end K6
namespace K6
open PySem L2
open K1 K2 K3
section
variable {P : Program} {w : World} {K : PySem.W.Frag} {mg : Str → Option Value} {base : Heap} {f : Addr} {fd : FuncData} {C_Ring C_Fractions C_Rests C_Order C_Degrees C_Tails C_Weights : Addr} {E_NoOrder E_NoOver E_NoPrime E_NoRing : Addr} {tk_Made tk_MadeR : Tok}
local macro_rules | `(tactic| walk_at "sd") => `(tactic| first
  | assumption | (dsimp only; omega) | (dsimp only; decide) | exact ⟨by decide, by decide⟩ | exact ⟨by decide, by decide, by decide⟩ | exact Or.inl ⟨by decide, by decide⟩ | exact ⟨by omega, by omega⟩ | exact Or.inl ⟨by omega, by omega⟩ | exact Or.inr ⟨by decide, by decide⟩ | exact Or.inr ⟨by omega, by omega⟩)
local macro_rules | `(tactic| walk_at "rd") => `(tactic| repeat first
  | refine ⟨_, rfl, ?_⟩ | refine ⟨_, _, rfl, rfl, ?_⟩ | refine And.intro rfl ?_ | refine And.intro (by walk_at "sd") ?_ | with_reducible refine iteT ?_ | with_reducible refine iteF ?_ | (apply ixT_of; assumption; rfl))
local macro_rules | `(tactic| walk_at "clo") => `(tactic| exact h)

theorem scLaw : FnScope ["_law_script", "_law_k", "_law_cell_here", "_law_many_here", "_law_weights_here", "_law_kind", "_law_order_here", "_law_field", "_law_mark", "_law_before", "_law_ring_here", "_law_right"] ["_law_script"] (defScope s_law) := ⟨rfl, rfl, rfl, by decide +kernel, rfl, by decide +kernel, by decide +kernel⟩
set_option maxHeartbeats 4000000 in
theorem ok_Law  (F : FunD K "law" "law" s_law .none f fd) (T : Txt K mg C_Ring C_Fractions C_Rests C_Order C_Degrees C_Tails C_Weights) (c_Many : Cal P w K mg base CX0 1 "_law_many" ["_law_cell_here"] [] spMany) (c_Wts : Cal P w K mg base CX0 1 "_law_weights" ["_law_cell_here", "_law_many_here"] [] spWts) (c_Cell : Cal P w K mg base CX0 1 "_law_cell" ["_law_script", "_law_k"] [] (spCell K)) (c_MkOrder : Cal P w K mg base CX0 3 "_law_order" ["_law_kind", "_law_weights_here"] [] (spOrder K C_Order C_Degrees C_Tails C_Weights)) (k_FracInit : Mak P w K mg base CX0 2 "Fractions" C_Fractions ["self"] [] (spFracInit C_Fractions)) (k_RestsInit : Mak P w K mg base (CXe P w) 2 "Rests" C_Rests ["self", "prime"] [] (spRests C_Rests E_NoPrime)) (c_LRing : Cal P w K mg base CX0 4 "_law_ring" ["_law_many_here", "_law_field", "_law_order_here"] [] (spRing C_Ring C_Order C_Degrees C_Tails C_Weights)) (c_Good : Cal P w K mg base CX0 6 "_law_good" ["_law_ring_here", "_law_many_here", "_law_field", "_law_order_here", "_law_cell_here"] [] (spGood C_Ring C_Fractions C_Rests C_Order C_Degrees C_Tails C_Weights)) (hord : ∀ (kd : Int) (ws : List Int), 0 ≤ kd → kd < 4 → Nn ws → (∀ x ∈ ws, x < 10 ^ 31) → ∃ C, OrdB P w K mg base C (AtK C_Order C_Degrees C_Tails C_Weights kd ws) (rkk kd ws) (fbK kd ws)) (hfld : ∀ n : Int, n ≤ 9973 → (n = 0 ∨ Pr n) → ∃ C, FldB P w K mg base C (AtN C_Fractions C_Rests n) n (z0N n) (z1N n)) (mRk : MCal P w K mg base CX0 3 C_Weights "rank" ["self", "term"] [] (spRankA C_Weights)) : FnOk P w K mg base CX0 8 f fd ["_law_script"] (spLaw K) := by
  refine F.okN (k := 7) scLaw (fun vs H Q E h => ?_) (fun cdv A outer s H vs Q E hr h => ?_)
  · obtain ⟨a, ns, rfl, _⟩ := h
    rfl
  obtain ⟨a, ns, rfl, h⟩ := h
  refine ⟨_, (pss_cons (ps_for PassesOwn.never rfl (pi_range1 rfl T.b_range ((pa_cons (pe_callB (call_lenK (K := K) rfl) rfl T.b_len PySem.boot_len ((pa_cons (pv 0) pa_nil))) pa_nil))) (pg_name (i := 1) scLaw.nd rfl (Or.inl rfl)) (pss_cons (ps_set (i := 2) scLaw.nd rfl (Or.inl rfl) (pe_ix (r := rIxL K) ix_list (pv 0) (pv 1) (fun _ _ => rfl)))
    (pss_cons (ps_set (i := 3) scLaw.nd rfl (Or.inl rfl) (pe_c c_Many hr pass00 .nil ((pa_cons (pv 2) pa_nil))))
    (pss_cons (ps_set (i := 4) scLaw.nd rfl (Or.inl rfl) (pe_c c_Wts hr pass00 .nil ((pa_cons (pe_op op_fdiv (pv 2) (pe_int)) (pa_cons (pv 3) pa_nil)))))
    (pss_cons (ps_set (i := 5) scLaw.nd rfl (Or.inl rfl) (pe_op op_mod (pe_c c_Cell hr pass00 .nil ((pa_cons (pv 0) (pa_cons (pe_op op_add (pv 1) (pe_int)) pa_nil)))) (pe_int)))
    (pss_cons (ps_set (i := 6) scLaw.nd rfl (Or.inl rfl) (pe_c c_MkOrder hr pass00 .nil ((pa_cons (pv 5) (pa_cons (pv 4) pa_nil)))))
    (pss_cons (ps_set (i := 7) scLaw.nd rfl (Or.inl rfl) (pe_mk0 k_FracInit hr pass00 .nil))
    (pss_cons (ps_if (pt_cmpR op_eq (pe_op op_mod (pe_op op_fdiv (pv 2) (pe_int)) (pe_int)) (pe_int) (nomark _)) (pss_one (ps_set (i := 7) scLaw.nd rfl (Or.inl rfl) (pe_mk k_RestsInit hr passF .nil ((pa_cons (pe_ix (r := rIxL K) ix_list (pe_lst ((pa_cons (pe_int) (pa_cons (pe_int) (pa_cons (pe_int) (pa_cons (pe_int) (pa_cons (pe_int) pa_nil))))))) (pe_op op_mod (pe_op op_fdiv (pv 2) (pe_int)) (pe_int)) (fun _ _ => rfl)) pa_nil))))) pss_nil)
    (pss_cons (ps_set (i := 8) scLaw.nd rfl (Or.inl rfl) (pe_callTy (call_tuple_rng rfl) rfl T.b_tuple (by kernel_rfl) ((pa_cons (pe_callTy call_range2 rfl T.b_range (by kernel_rfl) ((pa_cons (pe_int) (pa_cons (pe_op op_add (pe_callB (call_max2 rfl) rfl T.b_max (by kernel_rfl) ((pa_cons (pe_int) (pa_cons (pe_callB (call_min2 rfl) rfl T.b_min (by kernel_rfl) ((pa_cons (pv 3) (pa_cons (pe_int) pa_nil)))) pa_nil)))) (pe_int)) pa_nil)))) pa_nil))))
    (pss_cons (ps_set (i := 9) scLaw.nd rfl (Or.inl rfl) (pe_tup (pa_nil)))
    (pss_cons (ps_if (PW.pt (pw_and (pt_cmpR op_eq (pv 5) (pe_int) (nomark _)) (pw_and (pt_cmpR op_gt (pv 3) (pe_int) (nomark _)) (pw_and1 (pt_cmpR op_eq (pe_callB (call_lenK (K := K) rfl) rfl T.b_len PySem.boot_len ((pa_cons (pv 4) pa_nil))) (pv 3) (nomark _)))))) (pss_one (ps_set (i := 9) scLaw.nd rfl (Or.inl rfl) (pe_m mRk (pv 6) hr pass00 .nil ((pa_cons (pv 8) pa_nil))))) pss_nil)
    (pss_cons (ps_set (i := 10) scLaw.nd rfl (Or.inl rfl) (pe_c c_LRing hr pass00 .nil ((pa_cons (pv 3) (pa_cons (pv 7) (pa_cons (pv 6) pa_nil))))))
    (pss_cons (ps_set (i := 11) scLaw.nd rfl (Or.inl rfl) (pe_and (pe_chain op_le op_le (pe_int) (pv 3) (pe_int)) (pe_one (pe_or (pe_cmpR op_ne (pv 5) (pe_int) (nomark _)) (pe_one (pe_cmpR op_eq (pe_callB (call_lenK (K := K) rfl) rfl T.b_len PySem.boot_len ((pa_cons (pv 4) pa_nil))) (pv 3) (nomark _)))))))
    (pss_cons (ps_if (pt_cmpR op_ne (pv 11) (pe_cmpR op_notN (pv 10) (pe_non) (nomark _)) (nomark _)) (pss_one (ps_ret (pe_bl))) pss_nil)
    (pss_cons (ps_if (PW.pt (pw_and (pt_val (pv 11)) (pw_and1 (pt_not (pt_val (pe_c c_Good hr pass00 .nil ((pa_cons (pv 10) (pa_cons (pv 3) (pa_cons (pv 7) (pa_cons (pv 6) (pa_cons (pv 2) pa_nil)))))))))))) (pss_one (ps_ret (pe_bl))) pss_nil)
    (pss_one (ps_if (PW.pt (pw_and (pt_val (pv 11)) (pw_and1 (pt_cmpR op_eq (pv 5) (pe_int) (nomark _))))) (pss_cons (ps_asg (pe_op op_add (pe_ix (r := rIxL K) ix_list (pv 4) (pe_int) (fun _ _ => rfl)) (pe_int)) (pg_sub (pv 4) (pe_int) set_list))
    (pss_one (ps_if (pt_cmpR (op_neT hr.units) (pe_m mRk (pe_fldK (K := K) rfl (pv 10) rfl) hr pass00 .nil ((pa_cons (pv 8) pa_nil))) (pv 9) (nomark _)) (pss_one (ps_ret (pe_bl))) pss_nil))) pss_nil)))))))))))))))))
    (pss_one (ps_ret (pe_bl)))), ?_⟩
  obtain ⟨hS, h63, k⟩ := h
  refine ⟨_, rfl, a, _, rfl, .inl hS, _, rfl, (by omega), (by rw [List.length_map]; omega), ?_⟩
  rw [List.length_map]
  refine for_same (walk_range 0 _) (fun _ σ => ∃ v1 v2 v3 v4 v5 v6 v7 v8 v9 v10 v11, σ = [some (.ref a), v1, v2, v3, v4, v5, v6, v7, v8, v9, v10, v11]) ⟨_, _, _, _, _, _, _, _, _, _, _, rfl⟩ ?_ ?_
  · rintro i v σ H2 hi ⟨v1, v2, v3, v4, v5, v6, v7, v8, v9, v10, v11, rfl⟩ e2 rfl
    have at1 : atI (ns.map V.int) (0 + (i : Int)) = some (.int (cellOf ns (0 + (i : Int)))) := atI_int (by omega) (by omega)
    have hS2 := e2.seq hS
    generalize cellOf ns (0 + (i : Int)) = c at at1
    refine ⟨_, rfl, _, rfl, a, _, _, _, rfl, rfl, hS2, at1, ?_⟩
    refine ⟨_, rfl, c, rfl, ?_⟩
    generalize manyF c = m
    refine ⟨_, rfl, _, _, rfl, rfl, ⟨by decide, by decide⟩, _, rfl, _, m, rfl, fun D H3 nD e3 hD => ?_⟩
    obtain ⟨lw, wn, wb⟩ := wsG_ok (c / 108) m
    generalize wsG (c / 108) m = ws at hD lw wn wb
    refine ⟨_, rfl, _, rfl, _, _, rfl, rfl, a, ns, _, rfl, e3.seq hS2, by omega, _, _, rfl, rfl, (by show (0 : Int) < 4; decide), ?_⟩
    have hk0 : 0 ≤ cellOf ns (0 + (i : Int) + 1) % 4 ∧ cellOf ns (0 + (i : Int) + 1) % 4 < 4 := by omega
    dsimp only
    generalize cellOf ns (0 + (i : Int) + 1) % 4 = kd at hk0 ⊢
    obtain ⟨CO, O⟩ := hord kd ws hk0.1 hk0.2 wn wb
    refine ⟨_, rfl, _, rfl, _, D, ws, rfl, SqL.of hD, by omega, wn, fun po H4 e4 hat => ?_⟩
    have hD4 := e4 _ _ hD
    have g4 := e3.trans e4
    -- the field
    intro q dq nq ndq neq
    refine ⟨q, dq, rfl, upd_same, rfl, ?_⟩
    have e5 : Same H4 (upd (upd (upd H4 dq (.own q)) q (.ins C_Fractions dq [])) q (.ins C_Fractions dq [("prime", .int 0)])) := fun b o e => by
      rw [upd_ne (ne_of_none e nq), upd_ne (ne_of_none e nq), upd_ne (ne_of_none e ndq)]
      exact e
    have hq5 : (upd (upd (upd H4 dq (.own q)) q (.ins C_Fractions dq [])) q (.ins C_Fractions dq [("prime", .int 0)])) q = some (.ins C_Fractions dq [("prime", .int 0)]) := upd_same
    generalize (upd (upd (upd H4 dq (.own q)) q (.ins C_Fractions dq [])) q (.ins C_Fractions dq [("prime", .int 0)])) = H5 at e5 hq5 ⊢
    unfold gName
    dsimp only
    refine seq_mid (fun σ' H' => Same H4 H' ∧ ∃ pf n, σ' = [some (.ref a), some (.int (0 + (i : Int))), some (.int c), some (.int m), some (.ref D), some (.int kd), some (.ref po), some (.ref pf), v8, v9, v10, v11] ∧ AtN C_Fractions C_Rests n H' pf ∧ n ≤ 9973 ∧ (n = 0 ∨ Pr n)) ?_ ?_
    rotate_left
    · intro N hN
      refine ⟨_, rfl, _, _, rfl, rfl, ⟨by decide, by decide⟩, _, _, rfl, rfl, (by show (0 : Int) < 2; decide), rfl, _, rfl, cEq (fun c1 => ?_) (fun c1 => ?_)⟩
      · obtain ⟨n, hn, pn, ln⟩ := five_at c
        refine ⟨(by show 5 ≤ sizeLine; rw [sizeLine_eq]; decide), fun l hl => ?_⟩
        refine ⟨_, rfl, _, _, rfl, rfl, ⟨by decide, by decide⟩, _, _, rfl, rfl, (by show (0 : Int) < 5; decide), l, _, _, _, rfl, rfl, SqL.of upd_same, hn, ?_⟩
        have e6 : Same H5 (upd H5 l (.lst [V.int 2, V.int 3, V.int 5, V.int 97, V.int 9973])) := Same.upd hl
        generalize upd H5 l (.lst [V.int 2, V.int 3, V.int 5, V.int 97, V.int 9973]) = H6 at e6
        intro p dp np ndp nep
        refine ⟨p, dp, n, rfl, upd_same, .inl ⟨ln, isP_t pn, rfl, ?_⟩⟩
        have e7 : Same H6 (upd (upd (upd H6 dp (.own p)) p (.ins C_Rests dp [])) p (.ins C_Rests dp [("prime", .int n)])) := fun b o e => by
          rw [upd_ne (ne_of_none e np), upd_ne (ne_of_none e np), upd_ne (ne_of_none e ndp)]
          exact e
        refine hN _ _ ⟨(e5.trans e6).trans e7, p, n, rfl, ?_, ln, .inr pn⟩
        have : n ≠ 0 := by have := pn.1; omega
        unfold AtN
        rw [if_neg this]
        exact ⟨dp, upd_same, pn, ln⟩
      · refine hN _ _ ⟨e5, q, 0, rfl, ?_, by decide, .inl rfl⟩
        unfold AtN
        rw [if_pos rfl]
        exact ⟨dq, hq5⟩
    rintro σ' H6 ⟨g6, pf, n, rfl, hfd, n1, n2⟩
    obtain ⟨CF, B⟩ := hfld n n1 n2
    have hat6 := O.oC.same g6 hat
    have hD6 := g6 _ _ hD4
    have q6 := g4.trans g6
    refine ⟨_, rfl, _, _, rfl, _, _, rfl, _, _, rfl, rfl, _, _, rfl, fun p hp => ?_⟩
    have e0 : (if (if 8 < m then 8 else m) > 0 then (if 8 < m then 8 else m) else 0) = cnt0 m := rfl
    rw [e0]
    obtain ⟨b0, b1⟩ := cnt0_b m
    refine ⟨p, 1, cnt0 m + 1, rfl, upd_same, by decide, by decide, by omega, by omega, fun t8 ht8 => ?_⟩
    have ep : Same H6 (upd H6 p (.rng 1 (cnt0 m + 1))) := Same.upd hp
    have e7 : Same H6 (upd (upd H6 p (.rng 1 (cnt0 m + 1))) t8 (.tup ((mkF m).map V.int))) := ep.updR (ep.free ht8)
    have h8 : (upd (upd H6 p (.rng 1 (cnt0 m + 1))) t8 (.tup ((mkF m).map V.int))) t8 = some (.tup ((mkF m).map V.int)) := upd_same
    have em : upFrom 1 (cnt0 m + 1 - 1).toNat = mkF m := rfl
    dsimp only
    rw [em]
    generalize (upd (upd H6 p (HO.rng 1 (cnt0 m + 1))) t8 (HO.tup ((mkF m).map V.int))) = H7 at e7 h8 ⊢
    refine ⟨(by show 0 ≤ sizeLine; exact Nat.zero_le _), fun t9 ht9 => ?_⟩
    have e8 : Same H7 (upd H7 t9 (.tup [])) := Same.upd ht9
    generalize upd H7 t9 (HO.tup []) = H8 at e8 ⊢
    have g8 := e7.trans e8
    have h8' := e8 _ _ h8
    have hD8 := g8 _ _ hD6
    dsimp only
    refine seq_mid (fun σ' H' => Same H8 H' ∧ ∃ b, σ' = [some (.ref a), some (.int (0 + (i : Int))), some (.int c), some (.int m), some (.ref D), some (.int kd), some (.ref po), some (.ref pf), some (.ref t8), some (.ref b), v10, v11] ∧ (kd = 3 → 0 < m → (ws.length : Int) = m → H' b = some (.tup ((rkW ws (mkF m)).map V.int)))) ?_ ?_
    rotate_left
    · intro N hN
      have no : ¬ (kd = 3 ∧ 0 < m ∧ (ws.length : Int) = m) → N _ H8 := fun z => hN _ _ ⟨Same.refl _, t9, rfl, fun a1 a2 a3 => absurd ⟨a1, a2, a3⟩ z⟩
      refine ⟨_, rfl, rfl, _, rfl, cEq (fun c1 => ?_) (fun c1 => iteF (no fun z => c1 z.1))⟩
      refine ⟨_, rfl, _, _, rfl, rfl, _, rfl, cD (fun c2 => ?_) (fun c2 => iteF (no fun z => c2 z.2.1))⟩
      refine ⟨_, rfl, D, _, rfl, .inl (SqL.of hD8), _, rfl, rfl, _, rfl, ?_⟩
      rw [List.length_map]
      refine cEq (fun c3 => ?_) (fun c3 => no fun z => c3 z.2.2)
      subst c1
      have haw : AtW C_Weights ws H8 po := O.oC.same g8 hat6
      obtain ⟨dw, wt, hw1, hw2⟩ := id haw
      refine ⟨_, rfl, po, dw, _, rfl, hw1, no_W _ _ (by decide +kernel), _, rfl, ws, ⟨wn, wb⟩, po, t8, mkF m, rfl, haw, h8', mkF_pws c2, fun b H9 e9 hb => ?_⟩
      exact hN _ _ ⟨e9, b, rfl, fun _ _ _ => hb⟩
    rintro σ' H9 ⟨e9, b, rfl, hb⟩
    have g9 := g8.trans e9
    have hat9 := O.oC.same g9 hat6
    have hfd9 := B.same g9 hfd
    have hD9 := g9 _ _ hD6
    have q9 := q6.trans g9
    by_cases ok : okR kd ws m
    · refine ⟨_, rfl, _, rfl, _, rfl, m, pf, po, kd, ws, rfl, hk0.1, hk0.2, wn, wb, hat9, fun _ r Ha ea hra => ?_, fun z => absurd ok z⟩
      obtain ⟨m1, m2, fb⟩ := ok
      have hDa := ea _ _ hD9
      dsimp only
      refine seq_mid (fun σ' H' => H' = Ha ∧ σ' = [some (.ref a), some (.int (0 + (i : Int))), some (.int c), some (.int m), some (.ref D), some (.int kd), some (.ref po), some (.ref pf), some (.ref t8), some (.ref b), some (.ref r), some (.bl true)]) ?_ ?_
      rotate_left
      · intro N hN
        have yes := hN _ _ ⟨rfl, rfl⟩
        refine ⟨_, rfl, _, _, rfl, rfl, _, rfl, ?_⟩
        rw [decide_eq_true m1]
        refine iteT ⟨_, _, rfl, rfl, _, rfl, ?_⟩
        rw [decide_eq_true m2]
        refine iteT ⟨_, rfl, rfl, _, rfl, cNe (fun c1 => yes) (fun c1 => ?_)⟩
        have lm : (ws.length : Int) = m := by
          unfold fbK at fb
          rw [if_pos c1] at fb
          exact of_decide_eq_true fb
        refine ⟨_, rfl, D, _, rfl, .inl (SqL.of hDa), _, rfl, rfl, ?_⟩
        rw [List.length_map, decide_eq_true (by rw [lm])]
        exact yes
      rintro σ' H' ⟨rfl, rfl⟩
      refine ⟨_, rfl, _, rfl, rfl, rfl, _, rfl, ?_⟩
      rw [show decide (V.ref r = V.non) = false from decide_eq_false (by intro z; cases z), decide_eq_true (show V.bl true = V.bl (!false) from rfl)]
      refine iteF ?_
      have hatA := O.oC.same ea hat9
      have hfdA := B.same ea hfd9
      refine ⟨_, rfl, _, rfl, iteT ⟨_, rfl, _, rfl, _, rfl, _, rfl, _, rfl, r, m, pf, po, c, kd, ws, n, rfl, hk0.1, hk0.2, wn, wb, n1, n2, hatA, hfdA, hra, m1, m2, fun Hc ec => ⟨_, rfl, iteF ?_⟩⟩⟩
      have qc : Same H2 Hc := (q9.trans ea).trans ec
      refine ⟨_, rfl, _, rfl, iteT ⟨_, rfl, rfl, _, rfl, cEq (fun c3 => ?_) (fun _ => ⟨⟨_, _, _, _, _, _, _, _, _, _, _, rfl⟩, e2.trans qc⟩)⟩⟩
      have lm : (ws.length : Int) = m := by
        unfold fbK at fb
        rw [if_pos c3] at fb
        exact of_decide_eq_true fb
      subst c3
      have hDc := ec _ _ hDa
      have at0 : atI (ws.map V.int) 0 = some (.int (cellOf ws 0)) := atI_int (by decide) (by omega)
      have hix : ixN (ws.map V.int).length 0 = some 0 := by
        rw [List.length_map]; unfold ixN; rw [if_pos (by decide), if_pos (by omega)]; rfl
      have hbc := (ea.trans ec) _ _ (hb rfl (by omega) lm)
      have hawc : AtW C_Weights ws Hc po := O.oC.same ec hatA
      have h8c := (e9.trans (ea.trans ec)) _ _ h8'
      obtain ⟨dr, hrc⟩ := hra
      have hrc := ec _ _ hrc
      refine ⟨_, rfl, D, _, 0, _, rfl, rfl, SqL.of hDc, at0, _, _, rfl, rfl, _, rfl, D, _, 0, 0, rfl, rfl, hDc, hix, ?_⟩
      have hawd := atW_updL (o := .lst ((ws.map V.int).set 0 (.int (cellOf ws 0 + 5)))) hDc hawc
      have h8d : (upd Hc D (.lst ((ws.map V.int).set 0 (.int (cellOf ws 0 + 5))))) t8 = _ := (upd_ne (ne_of h8c hDc (by intro z; cases z))).trans h8c
      have hbd : (upd Hc D (.lst ((ws.map V.int).set 0 (.int (cellOf ws 0 + 5))))) b = _ := (upd_ne (ne_of hbc hDc (by intro z; cases z))).trans hbc
      have hrd : (upd Hc D (.lst ((ws.map V.int).set 0 (.int (cellOf ws 0 + 5))))) r = _ := (upd_ne (ne_of hrc hDc (by intro z; cases z))).trans hrc
      have qd : Same H2 (upd Hc D (.lst ((ws.map V.int).set 0 (.int (cellOf ws 0 + 5))))) := qc.updR nD
      generalize (upd Hc D (HO.lst ((ws.map V.int).set 0 (V.int (cellOf ws 0 + 5))))) = Hd at hawd h8d hbd hrd qd ⊢
      obtain ⟨dw, wt, hw1, hw2⟩ := id hawd
      refine ⟨_, rfl, r, C_Ring, dr, _, _, rfl, hrd, T.cl_Ring, T.na_Ring_order, rfl, po, dw, _, rfl, hw1, no_W _ _ (by decide +kernel), _, rfl, ws, ⟨wn, wb⟩, po, t8, mkF m, rfl, hawd, h8d, mkF_pws (by omega), fun b2 He ee hb2 => ?_⟩
      refine ⟨_, rfl, b2, b, _, _, rfl, rfl, SqT.of hb2, SqT.of (ee _ _ hbd), _, rfl, ?_⟩
      rw [decide_eq_true rfl]
      exact iteF ⟨⟨_, _, _, _, _, _, _, _, _, _, _, rfl⟩, e2.trans (qd.trans ee)⟩
    · refine ⟨_, rfl, _, rfl, _, rfl, m, pf, po, kd, ws, rfl, hk0.1, hk0.2, wn, wb, hat9, fun z => absurd z ok, fun _ Ha ea => ?_⟩
      have hDa := ea _ _ hD9
      dsimp only
      refine seq_mid (fun σ' H' => H' = Ha ∧ σ' = [some (.ref a), some (.int (0 + (i : Int))), some (.int c), some (.int m), some (.ref D), some (.int kd), some (.ref po), some (.ref pf), some (.ref t8), some (.ref b), some (.non), some (.bl false)]) ?_ ?_
      rotate_left
      · intro N hN
        have no := hN _ _ ⟨rfl, rfl⟩
        refine ⟨_, rfl, _, _, rfl, rfl, _, rfl, cD (fun m1 => ?_) (fun _ => ⟨_, rfl, iteF no⟩)⟩
        refine ⟨_, _, rfl, rfl, _, rfl, cD (fun m2 => ?_) (fun _ => no)⟩
        refine ⟨_, rfl, rfl, _, rfl, cNe (fun c1 => ?_) (fun c1 => ?_)⟩
        · exact absurd ⟨m1, m2, by unfold fbK; rw [if_neg c1]⟩ ok
        refine ⟨_, rfl, D, _, rfl, .inl (SqL.of hDa), _, rfl, rfl, ?_⟩
        rw [List.length_map, decide_eq_false (fun z => ok ⟨m1, m2, by unfold fbK; rw [if_pos c1]; exact decide_eq_true (V.int.inj z)⟩)]
        exact no
      rintro σ' H' ⟨rfl, rfl⟩
      refine ⟨_, rfl, _, rfl, rfl, rfl, _, rfl, ?_⟩
      rw [decide_eq_true (rfl : V.non = V.non), decide_eq_true (show V.bl false = V.bl (!true) from rfl)]
      refine iteF ⟨_, rfl, _, rfl, iteF (iteF ⟨_, rfl, _, rfl, iteF (iteF ?_)⟩)⟩
      exact ⟨⟨_, _, _, _, _, _, _, _, _, _, _, rfl⟩, e2.trans (q9.trans ea)⟩
  · rintro σ H2 ⟨v1, v2, v3, v4, v5, v6, v7, v8, v9, v10, v11, rfl⟩ e2
    exact k H2
end
end K6
def PySem.W.Fast.tw16025975400533854797 : Unit := ()
def PySem.W.Fast.tw7549334299524771966 : Unit := ()
def PySem.W.Fast.tw1399855036609805553 : Unit := ()
def PySem.W.Fast.tw2173298740801312876 : Unit := ()
def PySem.W.Fast.tw5276493884832287711 : Unit := ()
def PySem.W.Fast.tw6411420655392819766 : Unit := ()
def PySem.W.Fast.tw17321622517003358085 : Unit := ()
def PySem.W.Fast.tw7653845375748250314 : Unit := ()
def PySem.W.Fast.tw2571041664884323546 : Unit := ()
def PySem.W.Fast.tw12287702701078663688 : Unit := ()
def PySem.W.Fast.tw11812024828505421188 : Unit := ()
def PySem.W.Fast.tw8228874058988697471 : Unit := ()
def PySem.W.Fast.tw6269653074076966716 : Unit := ()
def PySem.W.Fast.tw2297816966037815799 : Unit := ()
namespace K6
open PySem L2
set_option maxHeartbeats 8000000 in
theorem all_mk {l : PySem.W.OpenLaw} {w : World} {K : PySem.W.Frag} {h : Heap} {mg : Str → Option Value} {fa : Addr} (X : K.In h) (G : h.Ns mainGlobals mg) (hfa : mg "law" = some (.ref fa))
    {C_Ring : Addr} {C_Fractions : Addr} {C_Rests : Addr} {C_Order : Addr} {C_Degrees : Addr} {C_Tails : Addr} {C_Weights : Addr} {f_0 : Addr} {od_0 an_0 : Option Addr} {sl_0 : Array (Option Value)} {oc_0 kV_0 dc_0 pm_0 cd_0 ct_0 : Value} {f_1 : Addr} {od_1 an_1 : Option Addr} {sl_1 : Array (Option Value)} {oc_1 kV_1 dc_1 pm_1 cd_1 ct_1 : Value} {f_2 : Addr} {od_2 an_2 : Option Addr} {sl_2 : Array (Option Value)} {oc_2 kV_2 dc_2 pm_2 cd_2 ct_2 : Value} {f_3 : Addr} {od_3 an_3 : Option Addr} {sl_3 : Array (Option Value)} {oc_3 kV_3 dc_3 pm_3 cd_3 ct_3 : Value} {f_4 : Addr} {od_4 an_4 : Option Addr} {sl_4 : Array (Option Value)} {oc_4 kV_4 dc_4 pm_4 cd_4 ct_4 : Value} {Cq_4 : Addr} {f_5 : Addr} {od_5 an_5 : Option Addr} {sl_5 : Array (Option Value)} {oc_5 kV_5 dc_5 pm_5 cd_5 ct_5 : Value} {f_6 : Addr} {od_6 an_6 : Option Addr} {sl_6 : Array (Option Value)} {oc_6 kV_6 dc_6 pm_6 cd_6 ct_6 : Value} {f_7 : Addr} {od_7 an_7 : Option Addr} {sl_7 : Array (Option Value)} {oc_7 kV_7 dc_7 pm_7 cd_7 ct_7 : Value} {f_8 : Addr} {od_8 an_8 : Option Addr} {sl_8 : Array (Option Value)} {oc_8 kV_8 dc_8 pm_8 cd_8 ct_8 : Value} {T_8 : Addr} {tu_8 : Value} {td_8 : Option Addr} {tn_8 : Nat} {ts_8 : Array (Option Value)} {tk_8 : Tok} {f_9 : Addr} {od_9 an_9 : Option Addr} {sl_9 : Array (Option Value)} {oc_9 kV_9 dc_9 pm_9 cd_9 ct_9 : Value} {f_10 : Addr} {od_10 an_10 : Option Addr} {sl_10 : Array (Option Value)} {oc_10 kV_10 dc_10 pm_10 cd_10 ct_10 : Value} {f_11 : Addr} {od_11 an_11 : Option Addr} {sl_11 : Array (Option Value)} {oc_11 kV_11 dc_11 pm_11 cd_11 ct_11 : Value} {f_12 : Addr} {od_12 an_12 : Option Addr} {sl_12 : Array (Option Value)} {oc_12 kV_12 dc_12 pm_12 cd_12 ct_12 : Value} {f_13 : Addr} {od_13 an_13 : Option Addr} {sl_13 : Array (Option Value)} {oc_13 kV_13 dc_13 pm_13 cd_13 ct_13 : Value} {f_14 : Addr} {od_14 an_14 : Option Addr} {sl_14 : Array (Option Value)} {oc_14 kV_14 dc_14 pm_14 cd_14 ct_14 : Value} {f_15 : Addr} {od_15 an_15 : Option Addr} {sl_15 : Array (Option Value)} {oc_15 kV_15 dc_15 pm_15 cd_15 ct_15 : Value} {T_15 : Addr} {tu_15 : Value} {td_15 : Option Addr} {tn_15 : Nat} {ts_15 : Array (Option Value)} {tk_15 : Tok} {f_16 : Addr} {od_16 an_16 : Option Addr} {sl_16 : Array (Option Value)} {oc_16 kV_16 dc_16 pm_16 cd_16 ct_16 : Value} {f_17 : Addr} {od_17 an_17 : Option Addr} {sl_17 : Array (Option Value)} {oc_17 kV_17 dc_17 pm_17 cd_17 ct_17 : Value} {f_18 : Addr} {od_18 an_18 : Option Addr} {sl_18 : Array (Option Value)} {oc_18 kV_18 dc_18 pm_18 cd_18 ct_18 : Value} {f_19 : Addr} {od_19 an_19 : Option Addr} {sl_19 : Array (Option Value)} {oc_19 kV_19 dc_19 pm_19 cd_19 ct_19 : Value} {f_20 : Addr} {od_20 an_20 : Option Addr} {sl_20 : Array (Option Value)} {oc_20 kV_20 dc_20 pm_20 cd_20 ct_20 : Value} {f_21 : Addr} {od_21 an_21 : Option Addr} {sl_21 : Array (Option Value)} {oc_21 kV_21 dc_21 pm_21 cd_21 ct_21 : Value} {f_22 : Addr} {od_22 an_22 : Option Addr} {sl_22 : Array (Option Value)} {oc_22 kV_22 dc_22 pm_22 cd_22 ct_22 : Value} {f_23 : Addr} {od_23 an_23 : Option Addr} {sl_23 : Array (Option Value)} {oc_23 kV_23 dc_23 pm_23 cd_23 ct_23 : Value} {f_24 : Addr} {od_24 an_24 : Option Addr} {sl_24 : Array (Option Value)} {oc_24 kV_24 dc_24 pm_24 cd_24 ct_24 : Value} {f_25 : Addr} {od_25 an_25 : Option Addr} {sl_25 : Array (Option Value)} {oc_25 kV_25 dc_25 pm_25 cd_25 ct_25 : Value} {f_26 : Addr} {od_26 an_26 : Option Addr} {sl_26 : Array (Option Value)} {oc_26 kV_26 dc_26 pm_26 cd_26 ct_26 : Value} {f_27 : Addr} {od_27 an_27 : Option Addr} {sl_27 : Array (Option Value)} {oc_27 kV_27 dc_27 pm_27 cd_27 ct_27 : Value} {f_28 : Addr} {od_28 an_28 : Option Addr} {sl_28 : Array (Option Value)} {oc_28 kV_28 dc_28 pm_28 cd_28 ct_28 : Value} {f_29 : Addr} {od_29 an_29 : Option Addr} {sl_29 : Array (Option Value)} {oc_29 kV_29 dc_29 pm_29 cd_29 ct_29 : Value} {f_30 : Addr} {od_30 an_30 : Option Addr} {sl_30 : Array (Option Value)} {oc_30 kV_30 dc_30 pm_30 cd_30 ct_30 : Value} {f_31 : Addr} {od_31 an_31 : Option Addr} {sl_31 : Array (Option Value)} {oc_31 kV_31 dc_31 pm_31 cd_31 ct_31 : Value} {f_32 : Addr} {od_32 an_32 : Option Addr} {sl_32 : Array (Option Value)} {oc_32 kV_32 dc_32 pm_32 cd_32 ct_32 : Value} {f_33 : Addr} {od_33 an_33 : Option Addr} {sl_33 : Array (Option Value)} {oc_33 kV_33 dc_33 pm_33 cd_33 ct_33 : Value} {f_34 : Addr} {od_34 an_34 : Option Addr} {sl_34 : Array (Option Value)} {oc_34 kV_34 dc_34 pm_34 cd_34 ct_34 : Value} {f_35 : Addr} {od_35 an_35 : Option Addr} {sl_35 : Array (Option Value)} {oc_35 kV_35 dc_35 pm_35 cd_35 ct_35 : Value} {E_NoOrder : Addr} {bm_NoOrder : List Value} {nid_NoOrder : String} {ini_NoOrder B_NoOrder : String} {E_NoOver : Addr} {bm_NoOver : List Value} {nid_NoOver : String} {ini_NoOver B_NoOver : String} {E_NoPrime : Addr} {bm_NoPrime : List Value} {nid_NoPrime : String} {ini_NoPrime B_NoPrime : String} {E_NoRing : Addr} {bm_NoRing : List Value} {nid_NoRing : String} {ini_NoRing B_NoRing : String} {tg_GREATEST_PRIME : Tok} {tg_LETTERS : Tok}
    (a_Ring : PySem.W.nsIn K mainGlobals "Ring" = some (some (.ref C_Ring)))
    (pg_Ring : PySem.W.plainGet K C_Ring Str.empty = true)
    (hd_Ring : PySem.W.hasDictIn K C_Ring = true)
    (po_Ring : PySem.W.plainOver K C_Ring = true)
    (sa_Ring : PySem.W.findIn K (.ref C_Ring) "__setattr__" = some (some (.builtin "object.__setattr__")))
    (mk_Ring : PySem.W.makesIn K C_Ring = true)
    (kc_Ring : PySem.W.keepIn K (.ref C_Ring) = true)
    (na_Ring_many : PySem.W.findIn K (.ref C_Ring) "many" = some none)
    (na_Ring_field : PySem.W.findIn K (.ref C_Ring) "field" = some none)
    (na_Ring_order : PySem.W.findIn K (.ref C_Ring) "order" = some none)
    (a_Fractions : PySem.W.nsIn K mainGlobals "Fractions" = some (some (.ref C_Fractions)))
    (pg_Fractions : PySem.W.plainGet K C_Fractions Str.empty = true)
    (hd_Fractions : PySem.W.hasDictIn K C_Fractions = true)
    (po_Fractions : PySem.W.plainOver K C_Fractions = true)
    (sa_Fractions : PySem.W.findIn K (.ref C_Fractions) "__setattr__" = some (some (.builtin "object.__setattr__")))
    (mk_Fractions : PySem.W.makesIn K C_Fractions = true)
    (kc_Fractions : PySem.W.keepIn K (.ref C_Fractions) = true)
    (na_Fractions_prime : PySem.W.findIn K (.ref C_Fractions) "prime" = some none)
    (a_Rests : PySem.W.nsIn K mainGlobals "Rests" = some (some (.ref C_Rests)))
    (pg_Rests : PySem.W.plainGet K C_Rests Str.empty = true)
    (hd_Rests : PySem.W.hasDictIn K C_Rests = true)
    (po_Rests : PySem.W.plainOver K C_Rests = true)
    (sa_Rests : PySem.W.findIn K (.ref C_Rests) "__setattr__" = some (some (.builtin "object.__setattr__")))
    (mk_Rests : PySem.W.makesIn K C_Rests = true)
    (kc_Rests : PySem.W.keepIn K (.ref C_Rests) = true)
    (na_Rests_prime : PySem.W.findIn K (.ref C_Rests) "prime" = some none)
    (a_Order : PySem.W.nsIn K mainGlobals "Order" = some (some (.ref C_Order)))
    (pg_Order : PySem.W.plainGet K C_Order Str.empty = true)
    (hd_Order : PySem.W.hasDictIn K C_Order = true)
    (po_Order : PySem.W.plainOver K C_Order = true)
    (sa_Order : PySem.W.findIn K (.ref C_Order) "__setattr__" = some (some (.builtin "object.__setattr__")))
    (mk_Order : PySem.W.makesIn K C_Order = true)
    (in_Order : PySem.W.findIn K (.ref C_Order) "__init__" = some (some (.builtin "object.__init__")))
    (kc_Order : PySem.W.keepIn K (.ref C_Order) = true)
    (a_Degrees : PySem.W.nsIn K mainGlobals "Degrees" = some (some (.ref C_Degrees)))
    (pg_Degrees : PySem.W.plainGet K C_Degrees Str.empty = true)
    (hd_Degrees : PySem.W.hasDictIn K C_Degrees = true)
    (po_Degrees : PySem.W.plainOver K C_Degrees = true)
    (sa_Degrees : PySem.W.findIn K (.ref C_Degrees) "__setattr__" = some (some (.builtin "object.__setattr__")))
    (mk_Degrees : PySem.W.makesIn K C_Degrees = true)
    (in_Degrees : PySem.W.findIn K (.ref C_Degrees) "__init__" = some (some (.builtin "object.__init__")))
    (kc_Degrees : PySem.W.keepIn K (.ref C_Degrees) = true)
    (a_Tails : PySem.W.nsIn K mainGlobals "Tails" = some (some (.ref C_Tails)))
    (pg_Tails : PySem.W.plainGet K C_Tails Str.empty = true)
    (hd_Tails : PySem.W.hasDictIn K C_Tails = true)
    (po_Tails : PySem.W.plainOver K C_Tails = true)
    (sa_Tails : PySem.W.findIn K (.ref C_Tails) "__setattr__" = some (some (.builtin "object.__setattr__")))
    (mk_Tails : PySem.W.makesIn K C_Tails = true)
    (in_Tails : PySem.W.findIn K (.ref C_Tails) "__init__" = some (some (.builtin "object.__init__")))
    (kc_Tails : PySem.W.keepIn K (.ref C_Tails) = true)
    (a_Weights : PySem.W.nsIn K mainGlobals "Weights" = some (some (.ref C_Weights)))
    (pg_Weights : PySem.W.plainGet K C_Weights Str.empty = true)
    (hd_Weights : PySem.W.hasDictIn K C_Weights = true)
    (po_Weights : PySem.W.plainOver K C_Weights = true)
    (sa_Weights : PySem.W.findIn K (.ref C_Weights) "__setattr__" = some (some (.builtin "object.__setattr__")))
    (mk_Weights : PySem.W.makesIn K C_Weights = true)
    (kc_Weights : PySem.W.keepIn K (.ref C_Weights) = true)
    (na_Weights_weights : PySem.W.findIn K (.ref C_Weights) "weights" = some none)
    (a_0 : PySem.W.nsIn K mainGlobals "degree" = some (some (.ref f_0)))
    (l_0 : K.lookup f_0 = some ⟨oc_0, od_0, .func (PySem.W.fnOf "degree" "degree" (defArgs s_degree) (defBody s_degree) (defScope s_degree) .none kV_0 dc_0 pm_0 an_0 cd_0 ct_0), sl_0⟩)
    (c_0 : PySem.W.codeIn K cd_0 "degree" = true)
    (k_0 : PySem.W.keepIn K (.ref f_0) = true)
    (a_1 : PySem.W.nsIn K mainGlobals "alone" = some (some (.ref f_1)))
    (l_1 : K.lookup f_1 = some ⟨oc_1, od_1, .func (PySem.W.fnOf "alone" "alone" (defArgs s_alone) (defBody s_alone) (defScope s_alone) .none kV_1 dc_1 pm_1 an_1 cd_1 ct_1), sl_1⟩)
    (c_1 : PySem.W.codeIn K cd_1 "alone" = true)
    (k_1 : PySem.W.keepIn K (.ref f_1) = true)
    (a_2 : PySem.W.nsIn K mainGlobals "shared_divisor" = some (some (.ref f_2)))
    (l_2 : K.lookup f_2 = some ⟨oc_2, od_2, .func (PySem.W.fnOf "shared_divisor" "shared_divisor" (defArgs s_shared_divisor) (defBody s_shared_divisor) (defScope s_shared_divisor) .none kV_2 dc_2 pm_2 an_2 cd_2 ct_2), sl_2⟩)
    (c_2 : PySem.W.codeIn K cd_2 "shared_divisor" = true)
    (k_2 : PySem.W.keepIn K (.ref f_2) = true)
    (a_3 : PySem.W.nsIn K mainGlobals "is_prime" = some (some (.ref f_3)))
    (l_3 : K.lookup f_3 = some ⟨oc_3, od_3, .func (PySem.W.fnOf "is_prime" "is_prime" (defArgs s_is_prime) (defBody s_is_prime) (defScope s_is_prime) .none kV_3 dc_3 pm_3 an_3 cd_3 ct_3), sl_3⟩)
    (c_3 : PySem.W.codeIn K cd_3 "is_prime" = true)
    (k_3 : PySem.W.keepIn K (.ref f_3) = true)
    (aq_4 : PySem.W.nsIn K mainGlobals "Field" = some (some (.ref Cq_4)))
    (rq_4 : PySem.W.readsIn K Cq_4 (.type "type") = true)
    (fq_4 : PySem.W.findCls K (.ref Cq_4) (.type "type") "__init__" = some (.val (.ref f_4)))
    (sq_4 : PySem.W.specialIn K (.ref Cq_4) "__getattribute__" = some (some (.builtin "type.__getattribute__")))
    (i_4 : PySem.W.isFn K (.ref f_4) = true)
    (l_4 : K.lookup f_4 = some ⟨oc_4, od_4, .func (PySem.W.fnOf "__init__" "Field.__init__" (defArgs s_Field___init__) (defBody s_Field___init__) (defScope s_Field___init__) .none kV_4 dc_4 pm_4 an_4 cd_4 ct_4), sl_4⟩)
    (c_4 : PySem.W.codeIn K cd_4 "Field.__init__" = true)
    (k_4 : PySem.W.keepIn K (.ref f_4) = true)
    (a_5_Fractions : PySem.W.findIn K (.ref C_Fractions) "__init__" = some (some (.ref f_5)))
    (i_5 : PySem.W.isFn K (.ref f_5) = true)
    (l_5 : K.lookup f_5 = some ⟨oc_5, od_5, .func (PySem.W.fnOf "__init__" "Fractions.__init__" (defArgs s_Fractions___init__) (defBody s_Fractions___init__) (defScope s_Fractions___init__) .none kV_5 dc_5 pm_5 an_5 cd_5 ct_5), sl_5⟩)
    (c_5 : PySem.W.codeIn K cd_5 "Fractions.__init__" = true)
    (k_5 : PySem.W.keepIn K (.ref f_5) = true)
    (a_6_Fractions : PySem.W.findIn K (.ref C_Fractions) "nought" = some (some (.ref f_6)))
    (i_6 : PySem.W.isFn K (.ref f_6) = true)
    (l_6 : K.lookup f_6 = some ⟨oc_6, od_6, .func (PySem.W.fnOf "nought" "Fractions.nought" (defArgs s_Fractions_nought) (defBody s_Fractions_nought) (defScope s_Fractions_nought) .none kV_6 dc_6 pm_6 an_6 cd_6 ct_6), sl_6⟩)
    (c_6 : PySem.W.codeIn K cd_6 "Fractions.nought" = true)
    (k_6 : PySem.W.keepIn K (.ref f_6) = true)
    (a_7_Fractions : PySem.W.findIn K (.ref C_Fractions) "one" = some (some (.ref f_7)))
    (i_7 : PySem.W.isFn K (.ref f_7) = true)
    (l_7 : K.lookup f_7 = some ⟨oc_7, od_7, .func (PySem.W.fnOf "one" "Fractions.one" (defArgs s_Fractions_one) (defBody s_Fractions_one) (defScope s_Fractions_one) .none kV_7 dc_7 pm_7 an_7 cd_7 ct_7), sl_7⟩)
    (c_7 : PySem.W.codeIn K cd_7 "Fractions.one" = true)
    (k_7 : PySem.W.keepIn K (.ref f_7) = true)
    (a_8_Fractions : PySem.W.findIn K (.ref C_Fractions) "made" = some (some (.ref f_8)))
    (i_8 : PySem.W.isFn K (.ref f_8) = true)
    (l_8 : K.lookup f_8 = some ⟨oc_8, od_8, .func (PySem.W.fnOf "made" "Fractions.made" (defArgs s_Fractions_made) (defBody s_Fractions_made) (defScope s_Fractions_made) (.ref T_8) kV_8 dc_8 pm_8 an_8 cd_8 ct_8), sl_8⟩)
    (t_8 : K.lookup T_8 = some ⟨tu_8, td_8, .seq #[.int 1 tk_8] tn_8, ts_8⟩)
    (c_8 : PySem.W.codeIn K cd_8 "Fractions.made" = true)
    (k_8 : PySem.W.keepIn K (.ref f_8) = true)
    (a_9_Rests : PySem.W.findIn K (.ref C_Rests) "__init__" = some (some (.ref f_9)))
    (i_9 : PySem.W.isFn K (.ref f_9) = true)
    (l_9 : K.lookup f_9 = some ⟨oc_9, od_9, .func (PySem.W.fnOf "__init__" "Rests.__init__" (defArgs s_Rests___init__) (defBody s_Rests___init__) (defScope s_Rests___init__) .none kV_9 dc_9 pm_9 an_9 cd_9 ct_9), sl_9⟩)
    (c_9 : PySem.W.codeIn K cd_9 "Rests.__init__" = true)
    (k_9 : PySem.W.keepIn K (.ref f_9) = true)
    (a_10_Rests : PySem.W.findIn K (.ref C_Rests) "nought" = some (some (.ref f_10)))
    (i_10 : PySem.W.isFn K (.ref f_10) = true)
    (l_10 : K.lookup f_10 = some ⟨oc_10, od_10, .func (PySem.W.fnOf "nought" "Rests.nought" (defArgs s_Rests_nought) (defBody s_Rests_nought) (defScope s_Rests_nought) .none kV_10 dc_10 pm_10 an_10 cd_10 ct_10), sl_10⟩)
    (c_10 : PySem.W.codeIn K cd_10 "Rests.nought" = true)
    (k_10 : PySem.W.keepIn K (.ref f_10) = true)
    (a_11_Rests : PySem.W.findIn K (.ref C_Rests) "one" = some (some (.ref f_11)))
    (i_11 : PySem.W.isFn K (.ref f_11) = true)
    (l_11 : K.lookup f_11 = some ⟨oc_11, od_11, .func (PySem.W.fnOf "one" "Rests.one" (defArgs s_Rests_one) (defBody s_Rests_one) (defScope s_Rests_one) .none kV_11 dc_11 pm_11 an_11 cd_11 ct_11), sl_11⟩)
    (c_11 : PySem.W.codeIn K cd_11 "Rests.one" = true)
    (k_11 : PySem.W.keepIn K (.ref f_11) = true)
    (a_12_Rests : PySem.W.findIn K (.ref C_Rests) "times" = some (some (.ref f_12)))
    (i_12 : PySem.W.isFn K (.ref f_12) = true)
    (l_12 : K.lookup f_12 = some ⟨oc_12, od_12, .func (PySem.W.fnOf "times" "Rests.times" (defArgs s_Rests_times) (defBody s_Rests_times) (defScope s_Rests_times) .none kV_12 dc_12 pm_12 an_12 cd_12 ct_12), sl_12⟩)
    (c_12 : PySem.W.codeIn K cd_12 "Rests.times" = true)
    (k_12 : PySem.W.keepIn K (.ref f_12) = true)
    (a_13_Rests : PySem.W.findIn K (.ref C_Rests) "turned" = some (some (.ref f_13)))
    (i_13 : PySem.W.isFn K (.ref f_13) = true)
    (l_13 : K.lookup f_13 = some ⟨oc_13, od_13, .func (PySem.W.fnOf "turned" "Rests.turned" (defArgs s_Rests_turned) (defBody s_Rests_turned) (defScope s_Rests_turned) .none kV_13 dc_13 pm_13 an_13 cd_13 ct_13), sl_13⟩)
    (c_13 : PySem.W.codeIn K cd_13 "Rests.turned" = true)
    (k_13 : PySem.W.keepIn K (.ref f_13) = true)
    (a_14_Rests : PySem.W.findIn K (.ref C_Rests) "over" = some (some (.ref f_14)))
    (i_14 : PySem.W.isFn K (.ref f_14) = true)
    (l_14 : K.lookup f_14 = some ⟨oc_14, od_14, .func (PySem.W.fnOf "over" "Field.over" (defArgs s_Field_over) (defBody s_Field_over) (defScope s_Field_over) .none kV_14 dc_14 pm_14 an_14 cd_14 ct_14), sl_14⟩)
    (c_14 : PySem.W.codeIn K cd_14 "Field.over" = true)
    (k_14 : PySem.W.keepIn K (.ref f_14) = true)
    (a_15_Rests : PySem.W.findIn K (.ref C_Rests) "made" = some (some (.ref f_15)))
    (i_15 : PySem.W.isFn K (.ref f_15) = true)
    (l_15 : K.lookup f_15 = some ⟨oc_15, od_15, .func (PySem.W.fnOf "made" "Rests.made" (defArgs s_Rests_made) (defBody s_Rests_made) (defScope s_Rests_made) (.ref T_15) kV_15 dc_15 pm_15 an_15 cd_15 ct_15), sl_15⟩)
    (t_15 : K.lookup T_15 = some ⟨tu_15, td_15, .seq #[.int 1 tk_15] tn_15, ts_15⟩)
    (c_15 : PySem.W.codeIn K cd_15 "Rests.made" = true)
    (k_15 : PySem.W.keepIn K (.ref f_15) = true)
    (a_16_Order : PySem.W.findIn K (.ref C_Order) "rank" = some (some (.ref f_16)))
    (i_16 : PySem.W.isFn K (.ref f_16) = true)
    (l_16 : K.lookup f_16 = some ⟨oc_16, od_16, .func (PySem.W.fnOf "rank" "Order.rank" (defArgs s_Order_rank) (defBody s_Order_rank) (defScope s_Order_rank) .none kV_16 dc_16 pm_16 an_16 cd_16 ct_16), sl_16⟩)
    (c_16 : PySem.W.codeIn K cd_16 "Order.rank" = true)
    (k_16 : PySem.W.keepIn K (.ref f_16) = true)
    (a_17_Degrees : PySem.W.findIn K (.ref C_Degrees) "rank" = some (some (.ref f_17)))
    (i_17 : PySem.W.isFn K (.ref f_17) = true)
    (l_17 : K.lookup f_17 = some ⟨oc_17, od_17, .func (PySem.W.fnOf "rank" "Degrees.rank" (defArgs s_Degrees_rank) (defBody s_Degrees_rank) (defScope s_Degrees_rank) .none kV_17 dc_17 pm_17 an_17 cd_17 ct_17), sl_17⟩)
    (c_17 : PySem.W.codeIn K cd_17 "Degrees.rank" = true)
    (k_17 : PySem.W.keepIn K (.ref f_17) = true)
    (a_18_Tails : PySem.W.findIn K (.ref C_Tails) "rank" = some (some (.ref f_18)))
    (i_18 : PySem.W.isFn K (.ref f_18) = true)
    (l_18 : K.lookup f_18 = some ⟨oc_18, od_18, .func (PySem.W.fnOf "rank" "Tails.rank" (defArgs s_Tails_rank) (defBody s_Tails_rank) (defScope s_Tails_rank) .none kV_18 dc_18 pm_18 an_18 cd_18 ct_18), sl_18⟩)
    (c_18 : PySem.W.codeIn K cd_18 "Tails.rank" = true)
    (k_18 : PySem.W.keepIn K (.ref f_18) = true)
    (a_19_Weights : PySem.W.findIn K (.ref C_Weights) "__init__" = some (some (.ref f_19)))
    (i_19 : PySem.W.isFn K (.ref f_19) = true)
    (l_19 : K.lookup f_19 = some ⟨oc_19, od_19, .func (PySem.W.fnOf "__init__" "Weights.__init__" (defArgs s_Weights___init__) (defBody s_Weights___init__) (defScope s_Weights___init__) .none kV_19 dc_19 pm_19 an_19 cd_19 ct_19), sl_19⟩)
    (c_19 : PySem.W.codeIn K cd_19 "Weights.__init__" = true)
    (k_19 : PySem.W.keepIn K (.ref f_19) = true)
    (a_20_Weights : PySem.W.findIn K (.ref C_Weights) "rank" = some (some (.ref f_20)))
    (i_20 : PySem.W.isFn K (.ref f_20) = true)
    (l_20 : K.lookup f_20 = some ⟨oc_20, od_20, .func (PySem.W.fnOf "rank" "Weights.rank" (defArgs s_Weights_rank) (defBody s_Weights_rank) (defScope s_Weights_rank) .none kV_20 dc_20 pm_20 an_20 cd_20 ct_20), sl_20⟩)
    (c_20 : PySem.W.codeIn K cd_20 "Weights.rank" = true)
    (k_20 : PySem.W.keepIn K (.ref f_20) = true)
    (a_21_Degrees : PySem.W.findIn K (.ref C_Degrees) "fits" = some (some (.ref f_21)))
    (a_21_Order : PySem.W.findIn K (.ref C_Order) "fits" = some (some (.ref f_21)))
    (a_21_Tails : PySem.W.findIn K (.ref C_Tails) "fits" = some (some (.ref f_21)))
    (i_21 : PySem.W.isFn K (.ref f_21) = true)
    (l_21 : K.lookup f_21 = some ⟨oc_21, od_21, .func (PySem.W.fnOf "fits" "Order.fits" (defArgs s_Order_fits) (defBody s_Order_fits) (defScope s_Order_fits) .none kV_21 dc_21 pm_21 an_21 cd_21 ct_21), sl_21⟩)
    (c_21 : PySem.W.codeIn K cd_21 "Order.fits" = true)
    (k_21 : PySem.W.keepIn K (.ref f_21) = true)
    (a_22_Weights : PySem.W.findIn K (.ref C_Weights) "fits" = some (some (.ref f_22)))
    (i_22 : PySem.W.isFn K (.ref f_22) = true)
    (l_22 : K.lookup f_22 = some ⟨oc_22, od_22, .func (PySem.W.fnOf "fits" "Weights.fits" (defArgs s_Weights_fits) (defBody s_Weights_fits) (defScope s_Weights_fits) .none kV_22 dc_22 pm_22 an_22 cd_22 ct_22), sl_22⟩)
    (c_22 : PySem.W.codeIn K cd_22 "Weights.fits" = true)
    (k_22 : PySem.W.keepIn K (.ref f_22) = true)
    (a_23_Ring : PySem.W.findIn K (.ref C_Ring) "__init__" = some (some (.ref f_23)))
    (i_23 : PySem.W.isFn K (.ref f_23) = true)
    (l_23 : K.lookup f_23 = some ⟨oc_23, od_23, .func (PySem.W.fnOf "__init__" "Ring.__init__" (defArgs s_Ring___init__) (defBody s_Ring___init__) (defScope s_Ring___init__) .none kV_23 dc_23 pm_23 an_23 cd_23 ct_23), sl_23⟩)
    (c_23 : PySem.W.codeIn K cd_23 "Ring.__init__" = true)
    (k_23 : PySem.W.keepIn K (.ref f_23) = true)
    (a_24_Ring : PySem.W.findIn K (.ref C_Ring) "letters" = some (some (.ref f_24)))
    (i_24 : PySem.W.isFn K (.ref f_24) = true)
    (l_24 : K.lookup f_24 = some ⟨oc_24, od_24, .func (PySem.W.fnOf "letters" "Ring.letters" (defArgs s_Ring_letters) (defBody s_Ring_letters) (defScope s_Ring_letters) .none kV_24 dc_24 pm_24 an_24 cd_24 ct_24), sl_24⟩)
    (c_24 : PySem.W.codeIn K cd_24 "Ring.letters" = true)
    (k_24 : PySem.W.keepIn K (.ref f_24) = true)
    (a_25_Ring : PySem.W.findIn K (.ref C_Ring) "unit" = some (some (.ref f_25)))
    (i_25 : PySem.W.isFn K (.ref f_25) = true)
    (l_25 : K.lookup f_25 = some ⟨oc_25, od_25, .func (PySem.W.fnOf "unit" "Ring.unit" (defArgs s_Ring_unit) (defBody s_Ring_unit) (defScope s_Ring_unit) .none kV_25 dc_25 pm_25 an_25 cd_25 ct_25), sl_25⟩)
    (c_25 : PySem.W.codeIn K cd_25 "Ring.unit" = true)
    (k_25 : PySem.W.keepIn K (.ref f_25) = true)
    (a_26_Ring : PySem.W.findIn K (.ref C_Ring) "unknown" = some (some (.ref f_26)))
    (i_26 : PySem.W.isFn K (.ref f_26) = true)
    (l_26 : K.lookup f_26 = some ⟨oc_26, od_26, .func (PySem.W.fnOf "unknown" "Ring.unknown" (defArgs s_Ring_unknown) (defBody s_Ring_unknown) (defScope s_Ring_unknown) .none kV_26 dc_26 pm_26 an_26 cd_26 ct_26), sl_26⟩)
    (c_26 : PySem.W.codeIn K cd_26 "Ring.unknown" = true)
    (k_26 : PySem.W.keepIn K (.ref f_26) = true)
    (a_27_Ring : PySem.W.findIn K (.ref C_Ring) "constant" = some (some (.ref f_27)))
    (i_27 : PySem.W.isFn K (.ref f_27) = true)
    (l_27 : K.lookup f_27 = some ⟨oc_27, od_27, .func (PySem.W.fnOf "constant" "Ring.constant" (defArgs s_Ring_constant) (defBody s_Ring_constant) (defScope s_Ring_constant) .none kV_27 dc_27 pm_27 an_27 cd_27 ct_27), sl_27⟩)
    (c_27 : PySem.W.codeIn K cd_27 "Ring.constant" = true)
    (k_27 : PySem.W.keepIn K (.ref f_27) = true)
    (a_28 : PySem.W.nsIn K mainGlobals "_law_cell" = some (some (.ref f_28)))
    (l_28 : K.lookup f_28 = some ⟨oc_28, od_28, .func (PySem.W.fnOf "_law_cell" "_law_cell" (defArgs s__law_cell) (defBody s__law_cell) (defScope s__law_cell) .none kV_28 dc_28 pm_28 an_28 cd_28 ct_28), sl_28⟩)
    (c_28 : PySem.W.codeIn K cd_28 "_law_cell" = true)
    (k_28 : PySem.W.keepIn K (.ref f_28) = true)
    (a_29 : PySem.W.nsIn K mainGlobals "_law_many" = some (some (.ref f_29)))
    (l_29 : K.lookup f_29 = some ⟨oc_29, od_29, .func (PySem.W.fnOf "_law_many" "_law_many" (defArgs s__law_many) (defBody s__law_many) (defScope s__law_many) .none kV_29 dc_29 pm_29 an_29 cd_29 ct_29), sl_29⟩)
    (c_29 : PySem.W.codeIn K cd_29 "_law_many" = true)
    (k_29 : PySem.W.keepIn K (.ref f_29) = true)
    (a_30 : PySem.W.nsIn K mainGlobals "_law_order" = some (some (.ref f_30)))
    (l_30 : K.lookup f_30 = some ⟨oc_30, od_30, .func (PySem.W.fnOf "_law_order" "_law_order" (defArgs s__law_order) (defBody s__law_order) (defScope s__law_order) .none kV_30 dc_30 pm_30 an_30 cd_30 ct_30), sl_30⟩)
    (c_30 : PySem.W.codeIn K cd_30 "_law_order" = true)
    (k_30 : PySem.W.keepIn K (.ref f_30) = true)
    (a_31 : PySem.W.nsIn K mainGlobals "_law_weights" = some (some (.ref f_31)))
    (l_31 : K.lookup f_31 = some ⟨oc_31, od_31, .func (PySem.W.fnOf "_law_weights" "_law_weights" (defArgs s__law_weights) (defBody s__law_weights) (defScope s__law_weights) .none kV_31 dc_31 pm_31 an_31 cd_31 ct_31), sl_31⟩)
    (c_31 : PySem.W.codeIn K cd_31 "_law_weights" = true)
    (k_31 : PySem.W.keepIn K (.ref f_31) = true)
    (a_32 : PySem.W.nsIn K mainGlobals "_law_ring" = some (some (.ref f_32)))
    (l_32 : K.lookup f_32 = some ⟨oc_32, od_32, .func (PySem.W.fnOf "_law_ring" "_law_ring" (defArgs s__law_ring) (defBody s__law_ring) (defScope s__law_ring) .none kV_32 dc_32 pm_32 an_32 cd_32 ct_32), sl_32⟩)
    (c_32 : PySem.W.codeIn K cd_32 "_law_ring" = true)
    (k_32 : PySem.W.keepIn K (.ref f_32) = true)
    (a_33 : PySem.W.nsIn K mainGlobals "_law_parts" = some (some (.ref f_33)))
    (l_33 : K.lookup f_33 = some ⟨oc_33, od_33, .func (PySem.W.fnOf "_law_parts" "_law_parts" (defArgs s__law_parts) (defBody s__law_parts) (defScope s__law_parts) .none kV_33 dc_33 pm_33 an_33 cd_33 ct_33), sl_33⟩)
    (c_33 : PySem.W.codeIn K cd_33 "_law_parts" = true)
    (k_33 : PySem.W.keepIn K (.ref f_33) = true)
    (a_34 : PySem.W.nsIn K mainGlobals "_law_good" = some (some (.ref f_34)))
    (l_34 : K.lookup f_34 = some ⟨oc_34, od_34, .func (PySem.W.fnOf "_law_good" "_law_good" (defArgs s__law_good) (defBody s__law_good) (defScope s__law_good) .none kV_34 dc_34 pm_34 an_34 cd_34 ct_34), sl_34⟩)
    (c_34 : PySem.W.codeIn K cd_34 "_law_good" = true)
    (k_34 : PySem.W.keepIn K (.ref f_34) = true)
    (a_35 : PySem.W.nsIn K mainGlobals "law" = some (some (.ref f_35)))
    (l_35 : K.lookup f_35 = some ⟨oc_35, od_35, .func (PySem.W.fnOf "law" "law" (defArgs s_law) (defBody s_law) (defScope s_law) .none kV_35 dc_35 pm_35 an_35 cd_35 ct_35), sl_35⟩)
    (c_35 : PySem.W.codeIn K cd_35 "law" = true)
    (k_35 : PySem.W.keepIn K (.ref f_35) = true)
    (a_NoOrder : PySem.W.nsIn K mainGlobals "NoOrder" = some (some (.ref E_NoOrder)))
    (FB_NoOrder : ExcBaseFacts B_NoOrder nid_NoOrder ini_NoOrder bm_NoOrder)
    (xE_NoOrder : PySem.W.excIn K E_NoOrder bm_NoOrder nid_NoOrder = true)
    (xm_NoOrder : PySem.W.exmOne K (.ref E_NoOrder) (.ref E_NoOrder) = some true)
    (a_NoOver : PySem.W.nsIn K mainGlobals "NoOver" = some (some (.ref E_NoOver)))
    (FB_NoOver : ExcBaseFacts B_NoOver nid_NoOver ini_NoOver bm_NoOver)
    (xE_NoOver : PySem.W.excIn K E_NoOver bm_NoOver nid_NoOver = true)
    (xm_NoOver : PySem.W.exmOne K (.ref E_NoOver) (.ref E_NoOver) = some true)
    (a_NoPrime : PySem.W.nsIn K mainGlobals "NoPrime" = some (some (.ref E_NoPrime)))
    (FB_NoPrime : ExcBaseFacts B_NoPrime nid_NoPrime ini_NoPrime bm_NoPrime)
    (xE_NoPrime : PySem.W.excIn K E_NoPrime bm_NoPrime nid_NoPrime = true)
    (xm_NoPrime : PySem.W.exmOne K (.ref E_NoPrime) (.ref E_NoPrime) = some true)
    (a_NoRing : PySem.W.nsIn K mainGlobals "NoRing" = some (some (.ref E_NoRing)))
    (FB_NoRing : ExcBaseFacts B_NoRing nid_NoRing ini_NoRing bm_NoRing)
    (xE_NoRing : PySem.W.excIn K E_NoRing bm_NoRing nid_NoRing = true)
    (xm_NoRing : PySem.W.exmOne K (.ref E_NoRing) (.ref E_NoRing) = some true)
    (q_ktt : PySem.W.kitOne K (.type "tuple") (.type "tuple") = some true)
    (q_kdd : PySem.W.kitOne K (.type "dict") (.type "dict") = some true)
    (z_abs : PySem.W.nsIn K mainGlobals "abs" = some none)
    (z_any : PySem.W.nsIn K mainGlobals "any" = some none)
    (z_dict : PySem.W.nsIn K mainGlobals "dict" = some none)
    (z_int : PySem.W.nsIn K mainGlobals "int" = some none)
    (z_isinstance : PySem.W.nsIn K mainGlobals "isinstance" = some none)
    (z_len : PySem.W.nsIn K mainGlobals "len" = some none)
    (z_max : PySem.W.nsIn K mainGlobals "max" = some none)
    (z_min : PySem.W.nsIn K mainGlobals "min" = some none)
    (z_range : PySem.W.nsIn K mainGlobals "range" = some none)
    (z_reversed : PySem.W.nsIn K mainGlobals "reversed" = some none)
    (z_sum : PySem.W.nsIn K mainGlobals "sum" = some none)
    (z_tuple : PySem.W.nsIn K mainGlobals "tuple" = some none)
    (z_zip : PySem.W.nsIn K mainGlobals "zip" = some none)
    (g_GREATEST_PRIME : PySem.W.nsIn K mainGlobals "GREATEST_PRIME" = some (some (.int 9973 tg_GREATEST_PRIME)))
    (g_LETTERS : PySem.W.nsIn K mainGlobals "LETTERS" = some (some (.str "xyzt" tg_LETTERS)))
    : ∃ fd : FuncData, (∀ (s : Shared) (v : Value), BindsTo s fd ⟨[v], []⟩ [("_law_script", v)]) ∧ ∀ base : Heap, K.In base → base.Ns mainGlobals mg → FnOk l.prog w K mg base CX0 8 fa fd ["_law_script"] (spLaw K) := by
  have e := hfa.symm.trans (PySem.W.mg_of X G a_35)
  cases e
  have T : Txt K mg C_Ring C_Fractions C_Rests C_Order C_Degrees C_Tails C_Weights := ⟨PySem.W.mg_none_of X G z_abs, PySem.W.mg_none_of X G z_any, PySem.W.mg_none_of X G z_dict, PySem.W.mg_none_of X G z_int, PySem.W.mg_none_of X G z_isinstance, PySem.W.mg_none_of X G z_len, PySem.W.mg_none_of X G z_max, PySem.W.mg_none_of X G z_min, PySem.W.mg_none_of X G z_range, PySem.W.mg_none_of X G z_reversed, PySem.W.mg_none_of X G z_sum, PySem.W.mg_none_of X G z_tuple, PySem.W.mg_none_of X G z_zip, ⟨pg_Ring, hd_Ring, po_Ring, sa_Ring⟩, PySem.W.mg_of X G a_Ring, na_Ring_many, na_Ring_field, na_Ring_order, ⟨pg_Fractions, hd_Fractions, po_Fractions, sa_Fractions⟩, PySem.W.mg_of X G a_Fractions, na_Fractions_prime, ⟨pg_Rests, hd_Rests, po_Rests, sa_Rests⟩, PySem.W.mg_of X G a_Rests, na_Rests_prime, ⟨pg_Order, hd_Order, po_Order, sa_Order⟩, PySem.W.mg_of X G a_Order, ⟨mk_Order, in_Order, kc_Order⟩, ⟨pg_Degrees, hd_Degrees, po_Degrees, sa_Degrees⟩, PySem.W.mg_of X G a_Degrees, ⟨mk_Degrees, in_Degrees, kc_Degrees⟩, ⟨pg_Tails, hd_Tails, po_Tails, sa_Tails⟩, PySem.W.mg_of X G a_Tails, ⟨mk_Tails, in_Tails, kc_Tails⟩, ⟨pg_Weights, hd_Weights, po_Weights, sa_Weights⟩, PySem.W.mg_of X G a_Weights, na_Weights_weights, ⟨_, PySem.W.mg_of X G g_GREATEST_PRIME⟩, ⟨_, PySem.W.mg_of X G g_LETTERS⟩, q_ktt, q_kdd⟩
  have F_0 := funD_mk (st := s_degree) l_0 c_0
  have b_0 := F_0.binds (ps := ["term"]) fun _ _ _ _ _ _ us hl => match us, hl with | [_], _ => rfl
  have F_1 := funD_mk (st := s_alone) l_1 c_1
  have b_1 := F_1.binds (ps := ["many", "at", "power"]) fun _ _ _ _ _ _ us hl => match us, hl with | [_, _, _], _ => rfl
  have F_2 := funD_mk (st := s_shared_divisor) l_2 c_2
  have b_2 := F_2.binds (ps := ["one", "other"]) fun _ _ _ _ _ _ us hl => match us, hl with | [_, _], _ => rfl
  have F_3 := funD_mk (st := s_is_prime) l_3 c_3
  have b_3 := F_3.binds (ps := ["number"]) fun _ _ _ _ _ _ us hl => match us, hl with | [_], _ => rfl
  have F_4 := funD_mk (st := s_Field___init__) l_4 c_4
  have b_4 := F_4.binds (ps := ["self", "prime"]) fun _ _ _ _ _ _ us hl => match us, hl with | [_, _], _ => rfl
  have F_5 := funD_mk (st := s_Fractions___init__) l_5 c_5
  have b_5 := F_5.binds (ps := ["self"]) fun _ _ _ _ _ _ us hl => match us, hl with | [_], _ => rfl
  have F_6 := funD_mk (st := s_Fractions_nought) l_6 c_6
  have b_6 := F_6.binds (ps := ["self"]) fun _ _ _ _ _ _ us hl => match us, hl with | [_], _ => rfl
  have F_7 := funD_mk (st := s_Fractions_one) l_7 c_7
  have b_7 := F_7.binds (ps := ["self"]) fun _ _ _ _ _ _ us hl => match us, hl with | [_], _ => rfl
  have F_8 := funD_mk (st := s_Fractions_made) l_8 c_8
  have b_8 := F_8.bindsD (ps := ["self", "top", "bottom"]) (ds := []) t_8 rfl fun _ _ _ _ _ _ us hl => by
    have hl : us.length = 3 := by simpa using hl
    exact match us, hl with | [_, _, _], _ => ⟨_, rfl, rfl⟩
  have bd_8 := F_8.bindsD (ps := ["self", "top", "bottom"]) (ds := [.int 1 tk_8]) t_8 rfl fun _ _ _ _ _ _ us hl => by
    have hl : us.length = 2 := by simpa using hl
    exact match us, hl with | [_, _], _ => ⟨_, rfl, rfl⟩
  have F_9 := funD_mk (st := s_Rests___init__) l_9 c_9
  have b_9 := F_9.binds (ps := ["self", "prime"]) fun _ _ _ _ _ _ us hl => match us, hl with | [_, _], _ => rfl
  have F_10 := funD_mk (st := s_Rests_nought) l_10 c_10
  have b_10 := F_10.binds (ps := ["self"]) fun _ _ _ _ _ _ us hl => match us, hl with | [_], _ => rfl
  have F_11 := funD_mk (st := s_Rests_one) l_11 c_11
  have b_11 := F_11.binds (ps := ["self"]) fun _ _ _ _ _ _ us hl => match us, hl with | [_], _ => rfl
  have F_12 := funD_mk (st := s_Rests_times) l_12 c_12
  have b_12 := F_12.binds (ps := ["self", "a", "b"]) fun _ _ _ _ _ _ us hl => match us, hl with | [_, _, _], _ => rfl
  have F_13 := funD_mk (st := s_Rests_turned) l_13 c_13
  have b_13 := F_13.binds (ps := ["self", "a"]) fun _ _ _ _ _ _ us hl => match us, hl with | [_, _], _ => rfl
  have F_14 := funD_mk (st := s_Field_over) l_14 c_14
  have b_14 := F_14.binds (ps := ["self", "a", "b"]) fun _ _ _ _ _ _ us hl => match us, hl with | [_, _, _], _ => rfl
  have F_15 := funD_mk (st := s_Rests_made) l_15 c_15
  have b_15 := F_15.bindsD (ps := ["self", "top", "bottom"]) (ds := []) t_15 rfl fun _ _ _ _ _ _ us hl => by
    have hl : us.length = 3 := by simpa using hl
    exact match us, hl with | [_, _, _], _ => ⟨_, rfl, rfl⟩
  have bd_15 := F_15.bindsD (ps := ["self", "top", "bottom"]) (ds := [.int 1 tk_15]) t_15 rfl fun _ _ _ _ _ _ us hl => by
    have hl : us.length = 2 := by simpa using hl
    exact match us, hl with | [_, _], _ => ⟨_, rfl, rfl⟩
  have F_16 := funD_mk (st := s_Order_rank) l_16 c_16
  have b_16 := F_16.binds (ps := ["self", "term"]) fun _ _ _ _ _ _ us hl => match us, hl with | [_, _], _ => rfl
  have F_17 := funD_mk (st := s_Degrees_rank) l_17 c_17
  have b_17 := F_17.binds (ps := ["self", "term"]) fun _ _ _ _ _ _ us hl => match us, hl with | [_, _], _ => rfl
  have F_18 := funD_mk (st := s_Tails_rank) l_18 c_18
  have b_18 := F_18.binds (ps := ["self", "term"]) fun _ _ _ _ _ _ us hl => match us, hl with | [_, _], _ => rfl
  have F_19 := funD_mk (st := s_Weights___init__) l_19 c_19
  have b_19 := F_19.binds (ps := ["self", "weights"]) fun _ _ _ _ _ _ us hl => match us, hl with | [_, _], _ => rfl
  have F_20 := funD_mk (st := s_Weights_rank) l_20 c_20
  have b_20 := F_20.binds (ps := ["self", "term"]) fun _ _ _ _ _ _ us hl => match us, hl with | [_, _], _ => rfl
  have F_21 := funD_mk (st := s_Order_fits) l_21 c_21
  have b_21 := F_21.binds (ps := ["self", "many"]) fun _ _ _ _ _ _ us hl => match us, hl with | [_, _], _ => rfl
  have F_22 := funD_mk (st := s_Weights_fits) l_22 c_22
  have b_22 := F_22.binds (ps := ["self", "many"]) fun _ _ _ _ _ _ us hl => match us, hl with | [_, _], _ => rfl
  have F_23 := funD_mk (st := s_Ring___init__) l_23 c_23
  have b_23 := F_23.binds (ps := ["self", "many", "field", "order"]) fun _ _ _ _ _ _ us hl => match us, hl with | [_, _, _, _], _ => rfl
  have F_24 := funD_mk (st := s_Ring_letters) l_24 c_24
  have b_24 := F_24.binds (ps := ["self"]) fun _ _ _ _ _ _ us hl => match us, hl with | [_], _ => rfl
  have F_25 := funD_mk (st := s_Ring_unit) l_25 c_25
  have b_25 := F_25.binds (ps := ["self"]) fun _ _ _ _ _ _ us hl => match us, hl with | [_], _ => rfl
  have F_26 := funD_mk (st := s_Ring_unknown) l_26 c_26
  have b_26 := F_26.binds (ps := ["self", "at"]) fun _ _ _ _ _ _ us hl => match us, hl with | [_, _], _ => rfl
  have F_27 := funD_mk (st := s_Ring_constant) l_27 c_27
  have b_27 := F_27.binds (ps := ["self", "number"]) fun _ _ _ _ _ _ us hl => match us, hl with | [_, _], _ => rfl
  have F_28 := funD_mk (st := s__law_cell) l_28 c_28
  have b_28 := F_28.binds (ps := ["_law_script", "_law_k"]) fun _ _ _ _ _ _ us hl => match us, hl with | [_, _], _ => rfl
  have F_29 := funD_mk (st := s__law_many) l_29 c_29
  have b_29 := F_29.binds (ps := ["_law_cell_here"]) fun _ _ _ _ _ _ us hl => match us, hl with | [_], _ => rfl
  have F_30 := funD_mk (st := s__law_order) l_30 c_30
  have b_30 := F_30.binds (ps := ["_law_kind", "_law_weights_here"]) fun _ _ _ _ _ _ us hl => match us, hl with | [_, _], _ => rfl
  have F_31 := funD_mk (st := s__law_weights) l_31 c_31
  have b_31 := F_31.binds (ps := ["_law_cell_here", "_law_many_here"]) fun _ _ _ _ _ _ us hl => match us, hl with | [_, _], _ => rfl
  have F_32 := funD_mk (st := s__law_ring) l_32 c_32
  have b_32 := F_32.binds (ps := ["_law_many_here", "_law_field", "_law_order_here"]) fun _ _ _ _ _ _ us hl => match us, hl with | [_, _, _], _ => rfl
  have F_33 := funD_mk (st := s__law_parts) l_33 c_33
  have b_33 := F_33.binds (ps := ["_law_found", "_law_term", "_law_number"]) fun _ _ _ _ _ _ us hl => match us, hl with | [_, _, _], _ => rfl
  have F_34 := funD_mk (st := s__law_good) l_34 c_34
  have b_34 := F_34.binds (ps := ["_law_ring_here", "_law_many_here", "_law_field", "_law_order_here", "_law_cell_here"]) fun _ _ _ _ _ _ us hl => match us, hl with | [_, _, _, _, _], _ => rfl
  have F_35 := funD_mk (st := s_law) l_35 c_35
  have b_35 := F_35.binds (ps := ["_law_script"]) fun _ _ _ _ _ _ us hl => match us, hl with | [_], _ => rfl
  refine ⟨PySem.W.fnOf "law" "law" (defArgs s_law) (defBody s_law) (defScope s_law) .none kV_35 dc_35 pm_35 an_35 cd_35 ct_35, fun s v => .of_eq rfl, fun base kb nb => ?_⟩
  have x_NoOrder : Exc K mg base "NoOrder" E_NoOrder := ⟨⟨_, _, _, _, own_in kb nb a_NoOrder xE_NoOrder, FB_NoOrder⟩, PySem.W.mg_of X G a_NoOrder, xm_NoOrder⟩
  have x_NoOver : Exc K mg base "NoOver" E_NoOver := ⟨⟨_, _, _, _, own_in kb nb a_NoOver xE_NoOver, FB_NoOver⟩, PySem.W.mg_of X G a_NoOver, xm_NoOver⟩
  have x_NoPrime : Exc K mg base "NoPrime" E_NoPrime := ⟨⟨_, _, _, _, own_in kb nb a_NoPrime xE_NoPrime, FB_NoPrime⟩, PySem.W.mg_of X G a_NoPrime, xm_NoPrime⟩
  have x_NoRing : Exc K mg base "NoRing" E_NoRing := ⟨⟨_, _, _, _, own_in kb nb a_NoRing xE_NoRing, FB_NoRing⟩, PySem.W.mg_of X G a_NoRing, xm_NoRing⟩
  have G_Deg := ok_Deg (P := l.prog) (w := w) (base := base) F_0 T  
  have c_Deg : Cal _ _ _ _ _ _ _ _ _ _ _ := ⟨_, _, G_Deg, b_0, k_0, PySem.W.mg_of X G a_0⟩
  have G_Alone := ok_Alone (P := l.prog) (w := w) (base := base) F_1 T  
  have c_Alone : Cal _ _ _ _ _ _ _ _ _ _ _ := ⟨_, _, G_Alone, b_1, k_1, PySem.W.mg_of X G a_1⟩
  have G_Shared := ok_Shared (P := l.prog) (w := w) (base := base) F_2 T  
  have c_Shared : Cal _ _ _ _ _ _ _ _ _ _ _ := ⟨_, _, G_Shared, b_2, k_2, PySem.W.mg_of X G a_2⟩
  have G_Prime := ok_Prime (P := l.prog) (w := w) (base := base) F_3 T  
  have c_Prime : Cal _ _ _ _ _ _ _ _ _ _ _ := ⟨_, _, G_Prime, b_3, k_3, PySem.W.mg_of X G a_3⟩
  have G_FieldInit := ok_FieldInit (P := l.prog) (w := w) (base := base) F_4 T  
  have q_FieldInit : CCal _ _ _ _ _ _ _ _ _ _ _ _ := ⟨_, _, _, G_FieldInit, b_4, ⟨⟨_, rq_4, fq_4⟩, sq_4, k_4⟩, PySem.W.mg_of X G aq_4⟩
  have G_FracInit := ok_FracInit (P := l.prog) (w := w) (base := base) F_5 T q_FieldInit 
  have k_FracInit : Mak _ _ _ _ _ _ _ _ _ _ _ _ := ⟨⟨_, _, G_FracInit, b_5, ⟨mk_Fractions, a_5_Fractions, i_5, kc_Fractions⟩⟩, T.mg_Fractions⟩
  have G_Nought := ok_Nought (P := l.prog) (w := w) (base := base) F_6 T  
  have mf_Nought : MCal l.prog w K mg base CX0 1 C_Fractions "nought" ["self"] [] (spNum K (AtF C_Fractions) (.tuple [.int 0, .int 1])) := ⟨⟨_, _, (G_Nought).imp imp_pair, b_6, ⟨a_6_Fractions, i_6, k_6⟩⟩, T.cl_Fractions⟩
  have G_One := ok_One (P := l.prog) (w := w) (base := base) F_7 T  
  have mf_One : MCal l.prog w K mg base CX0 1 C_Fractions "one" ["self"] [] (spNum K (AtF C_Fractions) (.tuple [.int 1, .int 1])) := ⟨⟨_, _, (G_One).imp imp_pair, b_7, ⟨a_7_Fractions, i_7, k_7⟩⟩, T.cl_Fractions⟩
  have G_Made := ok_Made (P := l.prog) (w := w) (base := base) F_8 T c_Shared x_NoOver 
  have mf_Made : MCal l.prog w K mg base (CXe l.prog w) 4 C_Fractions "made" ["self", "top", "bottom"] [.int 1 tk_8] (spMd K (AtF C_Fractions)) := ⟨⟨_, _, ((G_Made).imp imp_made).mono (by decide), bd_8, ⟨a_8_Fractions, i_8, k_8⟩⟩, T.cl_Fractions⟩
  have G_RestsInit := ok_RestsInit (P := l.prog) (w := w) (base := base) F_9 T c_Prime q_FieldInit x_NoPrime 
  have k_RestsInit : Mak _ _ _ _ _ _ _ _ _ _ _ _ := ⟨⟨_, _, G_RestsInit, b_9, ⟨mk_Rests, a_9_Rests, i_9, kc_Rests⟩⟩, T.mg_Rests⟩
  have G_NoughtR := ok_NoughtR (P := l.prog) (w := w) (base := base) F_10 T  
  have mf_NoughtR : ∀ n : Int, MCal l.prog w K mg base CX0 1 C_Rests "nought" ["self"] [] (spNum K (AtR C_Rests n) (.int 0)) := fun n => ⟨⟨_, _, (G_NoughtR).imp imp_c, b_10, ⟨a_10_Rests, i_10, k_10⟩⟩, T.cl_Rests⟩
  have G_OneR := ok_OneR (P := l.prog) (w := w) (base := base) F_11 T  
  have mf_OneR : ∀ n : Int, MCal l.prog w K mg base CX0 1 C_Rests "one" ["self"] [] (spNum K (AtR C_Rests n) (.int 1)) := fun n => ⟨⟨_, _, (G_OneR).imp imp_c, b_11, ⟨a_11_Rests, i_11, k_11⟩⟩, T.cl_Rests⟩
  have G_TimesR := ok_TimesR (P := l.prog) (w := w) (base := base) F_12 T  
  have m_TimesR : MCal _ _ _ _ _ _ _ _ _ _ _ _ := ⟨⟨_, _, G_TimesR, b_12, ⟨a_12_Rests, i_12, k_12⟩⟩, T.cl_Rests⟩
  have G_TuR := ok_TuR (P := l.prog) (w := w) (base := base) F_13 T x_NoOver 
  have m_TuR : MCal _ _ _ _ _ _ _ _ _ _ _ _ := ⟨⟨_, _, G_TuR, b_13, ⟨a_13_Rests, i_13, k_13⟩⟩, T.cl_Rests⟩
  have G_OvR := ok_OvR (P := l.prog) (w := w) (base := base) F_14 T m_TuR m_TimesR 
  have m_OvR : MCal _ _ _ _ _ _ _ _ _ _ _ _ := ⟨⟨_, _, G_OvR, b_14, ⟨a_14_Rests, i_14, k_14⟩⟩, T.cl_Rests⟩
  have G_MadeR := ok_MadeR (P := l.prog) (w := w) (base := base) F_15 T m_OvR 
  have mf_MadeR : ∀ n : Int, MCal l.prog w K mg base (CXe l.prog w) 4 C_Rests "made" ["self", "top", "bottom"] [.int 1 tk_15] (spMd K (AtR C_Rests n)) := fun n => ⟨⟨_, _, ((G_MadeR).imp imp_madeR).mono (by decide), bd_15, ⟨a_15_Rests, i_15, k_15⟩⟩, T.cl_Rests⟩
  have m_Rank_Order : MCal l.prog w K mg base CX0 3 C_Order "rank" ["self", "term"] [] (spRank (AtO C_Order) rkL) := ⟨⟨_, _, (ok_RankO (P := l.prog) (w := w) (base := base) F_16 T ).mono (by decide), b_16, ⟨a_16_Order, i_16, k_16⟩⟩, T.cl_Order⟩
  have m_Rank_Degrees : MCal l.prog w K mg base CX0 3 C_Degrees "rank" ["self", "term"] [] (spRank (AtO C_Degrees) rkD) := ⟨⟨_, _, (ok_RankD (P := l.prog) (w := w) (base := base) F_17 T c_Deg).mono (by decide), b_17, ⟨a_17_Degrees, i_17, k_17⟩⟩, T.cl_Degrees⟩
  have m_Rank_Tails : MCal l.prog w K mg base CX0 3 C_Tails "rank" ["self", "term"] [] (spRank (AtO C_Tails) rkT) := ⟨⟨_, _, (ok_RankT (P := l.prog) (w := w) (base := base) F_18 T c_Deg).mono (by decide), b_18, ⟨a_18_Tails, i_18, k_18⟩⟩, T.cl_Tails⟩
  have G_WInit := ok_WInit (P := l.prog) (w := w) (base := base) F_19 T x_NoOrder 
  have k_WInit : Mak _ _ _ _ _ _ _ _ _ _ _ _ := ⟨⟨_, _, G_WInit, b_19, ⟨mk_Weights, a_19_Weights, i_19, kc_Weights⟩⟩, T.mg_Weights⟩
  have m_Rank_Weights : ∀ ws : List Int, Nn ws → (∀ x ∈ ws, x < 10 ^ 31) → MCal l.prog w K mg base CX0 3 C_Weights "rank" ["self", "term"] [] (spRank (AtW C_Weights ws) (rkW ws)) := fun ws h1 h2 => ⟨⟨_, _, (ok_RankW (P := l.prog) (w := w) (base := base) F_20 T h1 h2).mono (by decide), b_20, ⟨a_20_Weights, i_20, k_20⟩⟩, T.cl_Weights⟩
  have mRk : MCal l.prog w K mg base CX0 3 C_Weights "rank" ["self", "term"] [] (spRankA C_Weights) := ⟨⟨_, _, FnOk.exw (c := fun ws : List Int => Nn ws ∧ ∀ x ∈ ws, x < 10 ^ 31) (sp := fun ws => spRank (AtW C_Weights ws) (rkW ws)) (fun ws h => (ok_RankW (P := l.prog) (w := w) (base := base) F_20 T h.1 h.2).mono (by decide)), b_20, ⟨a_20_Weights, i_20, k_20⟩⟩, T.cl_Weights⟩
  have fit_Order : MCal l.prog w K mg base CX0 1 C_Order "fits" ["self", "many"] [] (spFits (AtO C_Order) fun _ => true) := ⟨⟨_, _, ok_FitsO (P := l.prog) (w := w) (base := base) (At := AtO C_Order) F_21 T, b_21, ⟨a_21_Order, i_21, k_21⟩⟩, T.cl_Order⟩
  have fit_Degrees : MCal l.prog w K mg base CX0 1 C_Degrees "fits" ["self", "many"] [] (spFits (AtO C_Degrees) fun _ => true) := ⟨⟨_, _, ok_FitsO (P := l.prog) (w := w) (base := base) (At := AtO C_Degrees) F_21 T, b_21, ⟨a_21_Degrees, i_21, k_21⟩⟩, T.cl_Degrees⟩
  have fit_Tails : MCal l.prog w K mg base CX0 1 C_Tails "fits" ["self", "many"] [] (spFits (AtO C_Tails) fun _ => true) := ⟨⟨_, _, ok_FitsO (P := l.prog) (w := w) (base := base) (At := AtO C_Tails) F_21 T, b_21, ⟨a_21_Tails, i_21, k_21⟩⟩, T.cl_Tails⟩
  have fit_Weights : ∀ ws : List Int, MCal l.prog w K mg base CX0 1 C_Weights "fits" ["self", "many"] [] (spFits (AtW C_Weights ws) fun k => decide ((ws.length : Int) = k)) := fun ws => ⟨⟨_, _, ok_FitsW (P := l.prog) (w := w) (base := base) (ws := ws) F_22 T, b_22, ⟨a_22_Weights, i_22, k_22⟩⟩, T.cl_Weights⟩
  have hord : ∀ (kd : Int) (ws : List Int), 0 ≤ kd → kd < 4 → Nn ws → (∀ x ∈ ws, x < 10 ^ 31) → ∃ C, OrdB l.prog w K mg base C (AtK C_Order C_Degrees C_Tails C_Weights kd ws) (rkk kd ws) (fbK kd ws) := by
    intro kd ws k0 k4 wn wb
    rcases (by omega : kd = 0 ∨ kd = 1 ∨ kd = 2 ∨ kd = 3) with rfl | rfl | rfl | rfl
    · rw [show rkk 0 ws = rkL from funext fun xs => by unfold rkk; simp, show fbK 0 ws = fun _ => true from funext fun m => by unfold fbK; simp]
      show ∃ C, OrdB l.prog w K mg base C (AtO C_Order) rkL _
      exact ⟨C_Order, ordcO _, m_Rank_Order, fit_Order⟩
    · rw [show rkk 1 ws = rkD from funext fun xs => by unfold rkk; simp, show fbK 1 ws = fun _ => true from funext fun m => by unfold fbK; simp]
      show ∃ C, OrdB l.prog w K mg base C (AtO C_Degrees) rkD _
      exact ⟨C_Degrees, ordcO _, m_Rank_Degrees, fit_Degrees⟩
    · rw [show rkk 2 ws = rkT from funext fun xs => by unfold rkk; simp, show fbK 2 ws = fun _ => true from funext fun m => by unfold fbK; simp]
      show ∃ C, OrdB l.prog w K mg base C (AtO C_Tails) rkT _
      exact ⟨C_Tails, ordcO _, m_Rank_Tails, fit_Tails⟩
    · rw [show rkk 3 ws = rkW ws from funext fun xs => by unfold rkk; simp, show fbK 3 ws = fun m => decide ((ws.length : Int) = m) from funext fun m => by unfold fbK; simp]
      show ∃ C, OrdB l.prog w K mg base C (AtW C_Weights ws) (rkW ws) _
      exact ⟨C_Weights, ordcW _ _, m_Rank_Weights ws wn wb, fit_Weights ws⟩
  have hfld : ∀ n : Int, n ≤ 9973 → (n = 0 ∨ K3.Pr n) → ∃ C, FldB l.prog w K mg base C (AtN C_Fractions C_Rests n) n (z0N n) (z1N n) := by
    rintro n n1 (rfl | n2)
    · exact ⟨C_Fractions, fldB_F T.cl_Fractions T.na_Fractions_prime mf_Nought mf_One mf_Made⟩
    · exact ⟨C_Rests, fldB_R T.cl_Rests T.na_Rests_prime n2 (mf_NoughtR n) (mf_OneR n) (mf_MadeR n)⟩
  have G_RgInit := ok_RgInit (P := l.prog) (w := w) (base := base) F_23 T x_NoRing hord
  have k_RgInit : Mak _ _ _ _ _ _ _ _ _ _ _ _ := ⟨⟨_, _, G_RgInit, b_23, ⟨mk_Ring, a_23_Ring, i_23, kc_Ring⟩⟩, T.mg_Ring⟩
  have G_Letters := ok_Letters (P := l.prog) (w := w) (base := base) F_24 T  
  have m_Letters : MCal _ _ _ _ _ _ _ _ _ _ _ _ := ⟨⟨_, _, G_Letters, b_24, ⟨a_24_Ring, i_24, k_24⟩⟩, T.cl_Ring⟩
  have G_Unit := ok_Unit (P := l.prog) (w := w) (base := base) F_25 T  
  have m_Unit : MCal _ _ _ _ _ _ _ _ _ _ _ _ := ⟨⟨_, _, G_Unit, b_25, ⟨a_25_Ring, i_25, k_25⟩⟩, T.cl_Ring⟩
  have G_Unk := ok_Unk (P := l.prog) (w := w) (base := base) F_26 T c_Alone hfld
  have m_Unk : MCal _ _ _ _ _ _ _ _ _ _ _ _ := ⟨⟨_, _, G_Unk, b_26, ⟨a_26_Ring, i_26, k_26⟩⟩, T.cl_Ring⟩
  have G_Con := ok_Con (P := l.prog) (w := w) (base := base) F_27 T m_Unit hfld
  have m_Con : MCal _ _ _ _ _ _ _ _ _ _ _ _ := ⟨⟨_, _, G_Con, b_27, ⟨a_27_Ring, i_27, k_27⟩⟩, T.cl_Ring⟩
  have G_Cell := ok_Cell (P := l.prog) (w := w) (base := base) F_28 T  
  have c_Cell : Cal _ _ _ _ _ _ _ _ _ _ _ := ⟨_, _, G_Cell, b_28, k_28, PySem.W.mg_of X G a_28⟩
  have G_Many := ok_Many (P := l.prog) (w := w) (base := base) F_29 T  
  have c_Many : Cal _ _ _ _ _ _ _ _ _ _ _ := ⟨_, _, G_Many, b_29, k_29, PySem.W.mg_of X G a_29⟩
  have G_MkOrder := ok_MkOrder (P := l.prog) (w := w) (base := base) F_30 T k_WInit 
  have c_MkOrder : Cal _ _ _ _ _ _ _ _ _ _ _ := ⟨_, _, G_MkOrder, b_30, k_30, PySem.W.mg_of X G a_30⟩
  have G_Wts := ok_Wts (P := l.prog) (w := w) (base := base) F_31 T  
  have c_Wts : Cal _ _ _ _ _ _ _ _ _ _ _ := ⟨_, _, G_Wts, b_31, k_31, PySem.W.mg_of X G a_31⟩
  have G_LRing := ok_LRing (P := l.prog) (w := w) (base := base) F_32 T k_RgInit x_NoRing hord
  have c_LRing : Cal _ _ _ _ _ _ _ _ _ _ _ := ⟨_, _, G_LRing, b_32, k_32, PySem.W.mg_of X G a_32⟩
  have G_Parts := ok_Parts (P := l.prog) (w := w) (base := base) F_33 T  
  have c_Parts : Cal _ _ _ _ _ _ _ _ _ _ _ := ⟨_, _, G_Parts, b_33, k_33, PySem.W.mg_of X G a_33⟩
  have G_Good := ok_Good (P := l.prog) (w := w) (base := base) F_34 T m_Letters m_Unk c_Parts m_Con hord hfld
  have c_Good : Cal _ _ _ _ _ _ _ _ _ _ _ := ⟨_, _, G_Good, b_34, k_34, PySem.W.mg_of X G a_34⟩
  exact ok_Law (P := l.prog) (w := w) (base := base) F_35 T c_Many c_Wts c_Cell c_MkOrder k_FracInit k_RestsInit c_LRing c_Good hord hfld mRk
theorem walk {l : PySem.W.OpenLaw} {q : Program} {loose : List Str} {XP : (Str → Option Value) → Heap → Prop} {YP : World → Heap → Prop} {d : DefRec} {K : Params → PySem.W.Frag} (hn : l.most = some 63) (hdf : d.params.defaults = [])
    (hY : ∀ (w : World) (h : Heap), YP w h → (K w.params).In h)
    (F : ∀ (w : World) (mg : Str → Option Value) (fa : Addr) (h : Heap), (K w.params).In h → h.Ns mainGlobals mg → mg d.name = some (.ref fa) →
      ∃ fd : FuncData, (∀ (s : Shared) (u : Value), BindsTo s fd ⟨[u], []⟩ [("_law_script", u)]) ∧ ∀ base : Heap, (K w.params).In base → base.Ns mainGlobals mg → FnOk l.prog w (K w.params) mg base CX0 8 fa fd ["_law_script"] (spLaw (K w.params))) :
    PySem.W.WalkO q loose XP YP l.row.toRowW d [] (fun f vs => PySem.call f vs) :=
  L2.walk_of (n := 63) (k := 8) (x := "_law_script") (CX := fun _ => CX0) (sp := fun w => spLaw (K w.params)) hn (by decide) hdf ⟨rfl, by decide, by decide⟩ hY F (fun _ _ a ns hl _ hS => ⟨a, ns, rfl, hS, hl, fun _ => rfl⟩) fun _ _ _ _ _ z => z
end K6
open PySem PySem.W PyProof.Rows
set_option maxRecDepth 100000 in
set_option maxHeartbeats 0 in
theorem PySem.Challenge.cw_idealroom_k07_rings_holds : PySem.Challenge.rw_idealroom_k07_rings.Holds := by
  w_on; o_law; k_head; (case hw => w_witness2)
  k_fill
  refine K6.walk (l := PySem.Challenge.rw_idealroom_k07_rings) rfl rfl (fun w h Y => PySem.W.kIn_of Y) ?F
  case F =>
    intro w mg fa h KX G hmg
    refine' K6.all_mk KX G hmg ?a_Ring ?pg_Ring ?hd_Ring ?po_Ring ?sa_Ring ?mk_Ring ?kc_Ring ?na_Ring_many ?na_Ring_field ?na_Ring_order ?a_Fractions ?pg_Fractions ?hd_Fractions ?po_Fractions ?sa_Fractions ?mk_Fractions ?kc_Fractions ?na_Fractions_prime ?a_Rests ?pg_Rests ?hd_Rests ?po_Rests ?sa_Rests ?mk_Rests ?kc_Rests ?na_Rests_prime ?a_Order ?pg_Order ?hd_Order ?po_Order ?sa_Order ?mk_Order ?in_Order ?kc_Order ?a_Degrees ?pg_Degrees ?hd_Degrees ?po_Degrees ?sa_Degrees ?mk_Degrees ?in_Degrees ?kc_Degrees ?a_Tails ?pg_Tails ?hd_Tails ?po_Tails ?sa_Tails ?mk_Tails ?in_Tails ?kc_Tails ?a_Weights ?pg_Weights ?hd_Weights ?po_Weights ?sa_Weights ?mk_Weights ?kc_Weights ?na_Weights_weights ?a_0 ?l_0 ?c_0 ?k_0 ?a_1 ?l_1 ?c_1 ?k_1 ?a_2 ?l_2 ?c_2 ?k_2 ?a_3 ?l_3 ?c_3 ?k_3 ?aq_4 ?rq_4 ?fq_4 ?sq_4 ?i_4 ?l_4 ?c_4 ?k_4 ?a_5_Fractions ?i_5 ?l_5 ?c_5 ?k_5 ?a_6_Fractions ?i_6 ?l_6 ?c_6 ?k_6 ?a_7_Fractions ?i_7 ?l_7 ?c_7 ?k_7 ?a_8_Fractions ?i_8 ?l_8 ?t_8 ?c_8 ?k_8 ?a_9_Rests ?i_9 ?l_9 ?c_9 ?k_9 ?a_10_Rests ?i_10 ?l_10 ?c_10 ?k_10 ?a_11_Rests ?i_11 ?l_11 ?c_11 ?k_11 ?a_12_Rests ?i_12 ?l_12 ?c_12 ?k_12 ?a_13_Rests ?i_13 ?l_13 ?c_13 ?k_13 ?a_14_Rests ?i_14 ?l_14 ?c_14 ?k_14 ?a_15_Rests ?i_15 ?l_15 ?t_15 ?c_15 ?k_15 ?a_16_Order ?i_16 ?l_16 ?c_16 ?k_16 ?a_17_Degrees ?i_17 ?l_17 ?c_17 ?k_17 ?a_18_Tails ?i_18 ?l_18 ?c_18 ?k_18 ?a_19_Weights ?i_19 ?l_19 ?c_19 ?k_19 ?a_20_Weights ?i_20 ?l_20 ?c_20 ?k_20 ?a_21_Degrees ?a_21_Order ?a_21_Tails ?i_21 ?l_21 ?c_21 ?k_21 ?a_22_Weights ?i_22 ?l_22 ?c_22 ?k_22 ?a_23_Ring ?i_23 ?l_23 ?c_23 ?k_23 ?a_24_Ring ?i_24 ?l_24 ?c_24 ?k_24 ?a_25_Ring ?i_25 ?l_25 ?c_25 ?k_25 ?a_26_Ring ?i_26 ?l_26 ?c_26 ?k_26 ?a_27_Ring ?i_27 ?l_27 ?c_27 ?k_27 ?a_28 ?l_28 ?c_28 ?k_28 ?a_29 ?l_29 ?c_29 ?k_29 ?a_30 ?l_30 ?c_30 ?k_30 ?a_31 ?l_31 ?c_31 ?k_31 ?a_32 ?l_32 ?c_32 ?k_32 ?a_33 ?l_33 ?c_33 ?k_33 ?a_34 ?l_34 ?c_34 ?k_34 ?a_35 ?l_35 ?c_35 ?k_35 ?a_NoOrder ?FB_NoOrder ?xE_NoOrder ?xm_NoOrder ?a_NoOver ?FB_NoOver ?xE_NoOver ?xm_NoOver ?a_NoPrime ?FB_NoPrime ?xE_NoPrime ?xm_NoPrime ?a_NoRing ?FB_NoRing ?xE_NoRing ?xm_NoRing ?q_ktt ?q_kdd ?z_abs ?z_any ?z_dict ?z_int ?z_isinstance ?z_len ?z_max ?z_min ?z_range ?z_reversed ?z_sum ?z_tuple ?z_zip ?g_GREATEST_PRIME ?g_LETTERS
    (case a_Ring => k_is)
    (case pg_Ring => k_is)
    (case hd_Ring => k_is)
    (case po_Ring => k_is)
    (case sa_Ring => k_is)
    (case mk_Ring => k_is)
    (case kc_Ring => k_is)
    (case na_Ring_many => k_is)
    (case na_Ring_field => k_is)
    (case na_Ring_order => k_is)
    (case a_Fractions => k_is)
    (case pg_Fractions => k_is)
    (case hd_Fractions => k_is)
    (case po_Fractions => k_is)
    (case sa_Fractions => k_is)
    (case mk_Fractions => k_is)
    (case kc_Fractions => k_is)
    (case na_Fractions_prime => k_is)
    (case a_Rests => k_is)
    (case pg_Rests => k_is)
    (case hd_Rests => k_is)
    (case po_Rests => k_is)
    (case sa_Rests => k_is)
    (case mk_Rests => k_is)
    (case kc_Rests => k_is)
    (case na_Rests_prime => k_is)
    (case a_Order => k_is)
    (case pg_Order => k_is)
    (case hd_Order => k_is)
    (case po_Order => k_is)
    (case sa_Order => k_is)
    (case mk_Order => k_is)
    (case in_Order => k_is)
    (case kc_Order => k_is)
    (case a_Degrees => k_is)
    (case pg_Degrees => k_is)
    (case hd_Degrees => k_is)
    (case po_Degrees => k_is)
    (case sa_Degrees => k_is)
    (case mk_Degrees => k_is)
    (case in_Degrees => k_is)
    (case kc_Degrees => k_is)
    (case a_Tails => k_is)
    (case pg_Tails => k_is)
    (case hd_Tails => k_is)
    (case po_Tails => k_is)
    (case sa_Tails => k_is)
    (case mk_Tails => k_is)
    (case in_Tails => k_is)
    (case kc_Tails => k_is)
    (case a_Weights => k_is)
    (case pg_Weights => k_is)
    (case hd_Weights => k_is)
    (case po_Weights => k_is)
    (case sa_Weights => k_is)
    (case mk_Weights => k_is)
    (case kc_Weights => k_is)
    (case na_Weights_weights => k_is)
    (case a_0 => k_is)
    (case l_0 => k_is)
    (case c_0 => k_is)
    (case k_0 => k_is)
    (case a_1 => k_is)
    (case l_1 => k_is)
    (case c_1 => k_is)
    (case k_1 => k_is)
    (case a_2 => k_is)
    (case l_2 => k_is)
    (case c_2 => k_is)
    (case k_2 => k_is)
    (case a_3 => k_is)
    (case l_3 => k_is)
    (case c_3 => k_is)
    (case k_3 => k_is)
    (case aq_4 => k_is)
    (case rq_4 => k_is)
    (case fq_4 => k_is)
    (case sq_4 => k_is)
    (case i_4 => k_is)
    (case l_4 => k_is)
    (case c_4 => k_is)
    (case k_4 => k_is)
    (case a_5_Fractions => k_is)
    (case i_5 => k_is)
    (case l_5 => k_is)
    (case c_5 => k_is)
    (case k_5 => k_is)
    (case a_6_Fractions => k_is)
    (case i_6 => k_is)
    (case l_6 => k_is)
    (case c_6 => k_is)
    (case k_6 => k_is)
    (case a_7_Fractions => k_is)
    (case i_7 => k_is)
    (case l_7 => k_is)
    (case c_7 => k_is)
    (case k_7 => k_is)
    (case a_8_Fractions => k_is)
    (case i_8 => k_is)
    (case l_8 => k_is)
    (case t_8 => k_is)
    (case c_8 => k_is)
    (case k_8 => k_is)
    (case a_9_Rests => k_is)
    (case i_9 => k_is)
    (case l_9 => k_is)
    (case c_9 => k_is)
    (case k_9 => k_is)
    (case a_10_Rests => k_is)
    (case i_10 => k_is)
    (case l_10 => k_is)
    (case c_10 => k_is)
    (case k_10 => k_is)
    (case a_11_Rests => k_is)
    (case i_11 => k_is)
    (case l_11 => k_is)
    (case c_11 => k_is)
    (case k_11 => k_is)
    (case a_12_Rests => k_is)
    (case i_12 => k_is)
    (case l_12 => k_is)
    (case c_12 => k_is)
    (case k_12 => k_is)
    (case a_13_Rests => k_is)
    (case i_13 => k_is)
    (case l_13 => k_is)
    (case c_13 => k_is)
    (case k_13 => k_is)
    (case a_14_Rests => k_is)
    (case i_14 => k_is)
    (case l_14 => k_is)
    (case c_14 => k_is)
    (case k_14 => k_is)
    (case a_15_Rests => k_is)
    (case i_15 => k_is)
    (case l_15 => k_is)
    (case t_15 => k_is)
    (case c_15 => k_is)
    (case k_15 => k_is)
    (case a_16_Order => k_is)
    (case i_16 => k_is)
    (case l_16 => k_is)
    (case c_16 => k_is)
    (case k_16 => k_is)
    (case a_17_Degrees => k_is)
    (case i_17 => k_is)
    (case l_17 => k_is)
    (case c_17 => k_is)
    (case k_17 => k_is)
    (case a_18_Tails => k_is)
    (case i_18 => k_is)
    (case l_18 => k_is)
    (case c_18 => k_is)
    (case k_18 => k_is)
    (case a_19_Weights => k_is)
    (case i_19 => k_is)
    (case l_19 => k_is)
    (case c_19 => k_is)
    (case k_19 => k_is)
    (case a_20_Weights => k_is)
    (case i_20 => k_is)
    (case l_20 => k_is)
    (case c_20 => k_is)
    (case k_20 => k_is)
    (case a_21_Degrees => k_is)
    (case a_21_Order => k_is)
    (case a_21_Tails => k_is)
    (case i_21 => k_is)
    (case l_21 => k_is)
    (case c_21 => k_is)
    (case k_21 => k_is)
    (case a_22_Weights => k_is)
    (case i_22 => k_is)
    (case l_22 => k_is)
    (case c_22 => k_is)
    (case k_22 => k_is)
    (case a_23_Ring => k_is)
    (case i_23 => k_is)
    (case l_23 => k_is)
    (case c_23 => k_is)
    (case k_23 => k_is)
    (case a_24_Ring => k_is)
    (case i_24 => k_is)
    (case l_24 => k_is)
    (case c_24 => k_is)
    (case k_24 => k_is)
    (case a_25_Ring => k_is)
    (case i_25 => k_is)
    (case l_25 => k_is)
    (case c_25 => k_is)
    (case k_25 => k_is)
    (case a_26_Ring => k_is)
    (case i_26 => k_is)
    (case l_26 => k_is)
    (case c_26 => k_is)
    (case k_26 => k_is)
    (case a_27_Ring => k_is)
    (case i_27 => k_is)
    (case l_27 => k_is)
    (case c_27 => k_is)
    (case k_27 => k_is)
    (case a_28 => k_is)
    (case l_28 => k_is)
    (case c_28 => k_is)
    (case k_28 => k_is)
    (case a_29 => k_is)
    (case l_29 => k_is)
    (case c_29 => k_is)
    (case k_29 => k_is)
    (case a_30 => k_is)
    (case l_30 => k_is)
    (case c_30 => k_is)
    (case k_30 => k_is)
    (case a_31 => k_is)
    (case l_31 => k_is)
    (case c_31 => k_is)
    (case k_31 => k_is)
    (case a_32 => k_is)
    (case l_32 => k_is)
    (case c_32 => k_is)
    (case k_32 => k_is)
    (case a_33 => k_is)
    (case l_33 => k_is)
    (case c_33 => k_is)
    (case k_33 => k_is)
    (case a_34 => k_is)
    (case l_34 => k_is)
    (case c_34 => k_is)
    (case k_34 => k_is)
    (case a_35 => k_is)
    (case l_35 => k_is)
    (case c_35 => k_is)
    (case k_35 => k_is)
    (case a_NoOrder => k_is)
    (case FB_NoOrder => exact PySem.F.excBase_ValueError)
    (case xE_NoOrder => k_exc)
    (case xm_NoOrder => kts_exm)
    (case a_NoOver => k_is)
    (case FB_NoOver => exact PySem.F.excBase_ValueError)
    (case xE_NoOver => k_exc)
    (case xm_NoOver => kts_exm)
    (case a_NoPrime => k_is)
    (case FB_NoPrime => exact PySem.F.excBase_ValueError)
    (case xE_NoPrime => k_exc)
    (case xm_NoPrime => kts_exm)
    (case a_NoRing => k_is)
    (case FB_NoRing => exact PySem.F.excBase_ValueError)
    (case xE_NoRing => k_exc)
    (case xm_NoRing => kts_exm)
    (case q_ktt => kit_is)
    (case q_kdd => kit_is)
    (case z_abs => k_is)
    (case z_any => k_is)
    (case z_dict => k_is)
    (case z_int => k_is)
    (case z_isinstance => k_is)
    (case z_len => k_is)
    (case z_max => k_is)
    (case z_min => k_is)
    (case z_range => k_is)
    (case z_reversed => k_is)
    (case z_sum => k_is)
    (case z_tuple => k_is)
    (case z_zip => k_is)
    (case g_GREATEST_PRIME => k_is)
    (case g_LETTERS => k_is)
#print axioms PySem.Challenge.cw_idealroom_k07_rings_holds
